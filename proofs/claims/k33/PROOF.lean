import PyProof.Rows.All
import Wide.All
import OpenK.AllK
import Wide.FinOn
import Lean
import PyProof.EqAt
import PyProof.EqKinds
import PyProof.TupleCall
import PySem.Challenge.RW_sideloom_k33_faults_told
set_option Elab.async false
set_option linter.all false
set_option autoImplicit true
set_option maxRecDepth 100000
set_option compiler.extract_closed false
set_option tactic.hygienic false
theorem Z_0(_:True:=by first | exact .inl rfl | exact .inr rfl | assumption):True:=trivial
abbrev Z0_:=Z_0._auto_1
theorem Z_1(_:True:=by decide):True:=trivial
abbrev Z1_:=Z_1._auto_1
theorem Z_2(_:True:=by intro _;rfl):True:=trivial
abbrev Z2_:=Z_2._auto_1
theorem Z_3(_:True:=by rfl):True:=trivial
abbrev Z3_:=Z_3._auto_1
theorem Z_4(_:True:=by with_unfolding_all rfl):True:=trivial
abbrev Z4_:=Z_4._auto_1
theorem Z_5(_:True:=by first | exact Or.inl rfl | exact Or.inr (Or.inl rfl) | exact Or.inr (Or.inr rfl)):True:=trivial
abbrev Z5_:=Z_5._auto_1
theorem Z_6(_:True:=by intro;rfl):True:=trivial
abbrev Z6_:=Z_6._auto_1
theorem Z_7(_:True:=by intros;rfl):True:=trivial
abbrev Z7_:=Z_7._auto_1
theorem Z_8(_:True:=by repeat' (first | rfl | (refine λ _=>?_))):True:=trivial
abbrev Z8_:=Z_8._auto_1
abbrev VS:=PySem.Value->PySem.Shared->Prop
abbrev LL:=List (List Int)
abbrev LIq:=List Int
abbrev LO:=List (PySem.Addr × PySem.Obj)
abbrev LA:=List (PySem.Str × PySem.Addr)
abbrev SV:=PySem.Str->Option PySem.Value
abbrev LV:=List PySem.Value
abbrev FG:=PySem.W.Frag
abbrev AV:=Array (Option PySem.Value)
abbrev OA:=Option PySem.Addr
def ae:=@PySem.wpAny_bind
def aj:=@List.length_map
def ar:=@of_decide_eq_true
def aE:=@PySem.Heap.get?_push_of_some
def aC:=@List.length_append
def aN:=@Nat.le_of_ble_eq_true
def ak:=@PySem.wpAny_pure
def av:=@List.mem_cons
def aG:=@List.size_toArray
def au:=@Nat.le_refl
def bD:=@List.getElem?_eq_some_iff
def aR:=@List.mem_singleton
def az:=@PySem.Heap.lt_size
def aJ:=@decide_eq_false
def br:=@List.mem_of_getElem?
def aM:=@List.mem_append
def bP:=@List.getElem?_eq_getElem
def aU:=@List.length_take
def bA:=@PySem.Heap.get?_push_size
def aX:=@Bool.and_eq_true
def bM:=@List.mem_append_right
def bh:=@List.not_mem_nil
def bH:=@Bool.false_ne_true
def bU:=@List.mem_cons_of_mem
def bO:=@Nat.lt_of_lt_of_le
def cv:=@PySem.Heap.get?_update_other
def bc:=@List.map_cons
def bw:=@decide_eq_true
def cK:=@List.length_singleton
def aZ:=@Nat.ne_of_lt
def dP:=@List.getD_eq_getElem?_getD
def bW:=@List.getElem?_map
def ef:=@List.getElem?_append_right
def ci:=@PySem.wpAny_newObj_type
def cg:=@List.length_drop
def cN:=@List.mem_cons_self
def bE:=@List.map_map
def cV:=@Int.emod_lt_of_pos
def eT:=@List.getElem?_append_left
def dH:=@List.length_replicate
def dN:=@PySem.builtinLookup_eq_fast
def cq:=@List.map_append
def cR:=@List.getElem?_set
def eE:=@List.take_of_length_le
def bK:=@Nat.le_trans
def cr:=@Option.some.inj
def dO:=@PySem.Around.under_plainId
def eh:=@PySem.Heap.get?_update_self
def df:=@List.length_range
def cP:=@Nat.zero_lt_succ
def dL:=@List.replicate_succ
def cM:=@Int.emod_nonneg
def dW:=@List.mem_append_left
def dh:=@Nat.lt_succ_of_lt
def du:=@decide_eq_true_eq
def ce:=@Nat.lt_irrefl
def eI:=@Int.toNat_of_nonneg
def cu:=@PySem.wpAny_holding
def cw:=@List.all_cons
def jy:=@List.eraseIdx_eq_take_drop_succ
def bL:=@PySem.wpAny_mono
def aY:=@or_false
def dj:=@PySem.codeAny_builtin
def jF:=@Int.mul_le_mul_of_nonneg_left
def iC:=@Option.isNone_iff_eq_none
def iS:=@PyProof.Rows.callWith_type1
def cJ:=@List.map_nil
def dM:=@PySem.typeLookup_type
def gO:=@List.length_filter_le
def eR:=@PySem.wpAny_truthy_bool
def eV:=@List.flatten_cons
def jb:=@Array.getElem?_eq_some_iff
def cy:=@Nat.zero_le
def cO:=@List.mem_map
def ig:=@PySem.F.plain_max_loop
def dq:=@PySem.plainId_quiet
def fc:=@List.take_length
def kT:=@List.take_append_of_le_length
def eP:=@List.mem_filter
def bF:=@congrArg
def eW:=@Nat.min_eq_left
def bo:=@Ne.symm
def cY:=@PySem.wpAny_field
def lF:=@PyProof.Rows.slot_tuple_getitem
def gc:=@List.append_assoc
def kS:=@List.mem_or_eq_of_mem_set
def dE:=@Nat.le_of_lt
def fJ:=@List.length_set
def jC:=@List.getElem?_eq_none
def mV:=@Int.mul_le_mul_of_nonneg_right
def hZ:=@PySem.Obj.data_mapFields
def iL:=@of_decide_eq_false
def gh:=@Nat.lt_succ_self
def dn:=@PySem.wpAny_of_eq
def gk:=@List.lookup_cons
def mh:=@List.eq_nil_of_length_eq_zero
def gH:=@List.all_eq_true
def jU:=@List.getElem?_replicate
def fD:=@List.mem_range
def iO:=@beq_eq_false_iff_ne
def fZ:=@List.append_nil
def gj:=@PySem.wpAny_specialOf
def lx:=@Int.fdiv_eq_ediv_of_nonneg
def mM:=@PySem.F.excBase_ValueError
def gU:=@PySem.wpAny_call_entry
def fE:=@PySem.wpAny_standAt
def iX:=@PySem.wpAny_Call_Name_kw
def rh:=@List.set_eq_take_append_cons_drop
def mE:=@List.drop_eq_getElem_cons
def kj:=@PySem.codeAny_call_builtin
def kA:=@Bool.and_eq_true_iff
def jd:=@PySem.F.plain_list_iadd
def jf:=@PySem.F.plain_tuple_new
def iz:=@Bool.or_eq_true
def jT:=@PySem.mem_of_lookup
def lE:=@PySem.wpAny_callSpecial?_slot
def mI:=@PySem.F.plainAttrs_list
def nq:=@List.prefix_iff_eq_take
def dZ:=@beq_iff_eq
def eo:=@PySem.call_meets
def hG:=@PySem.isSubtype_type
def kI:=@List.getElem?_take
def iQ:=@PySem.wpAny_execs_nil
def fF:=@PySem.sizeLine_eq
def gb:=@PySem.wpAny_typeOf
def lK:=@Array.getElem?_toList
def lQ:=@PySem.Obj.isFreed_of_fields
def gP:=@PySem.W.hideAll_get
def gZ:=@PySem.wpAny_attempt
def kq:=@PySem.wpAny_loadPart_at
def lP:=@PySem.F.args_object_init_2
def nC:=@List.mem_of_mem_take
def jc:=@PySem.wpAny_setField
def pM:=@Array.getElem?_eq_getElem
def jg:=@PySem.wpAny_tryCatch
def kg:=@Nat.succ_le_succ
def kr:=@List.getElem_mem
def dD:=@or_assoc
def nF:=@List.length_pos_iff
def ou:=@Option.isSome_iff_exists
def ow:=@List.getElem?_take_of_lt
def oF:=@PySem.F.args_tuple_add_2
def sC:=@List.eq_of_mem_replicate
def jN:=@PySem.wpAny_passesOwn
def oE:=@PySem.F.entry_tuple_add
def ko:=@PySem.wpAny_updateSeq
def lU:=@Bool.false_eq_true
def eX:=@And.intro
def lX:=@List.zip_cons_cons
def yY:=@List.flatten_replicate_singleton
def nM:=@List.getElem?_set_self
def oC:=@PySem.F.slot_tuple_add
def pW:=@PySem.F.entry_max_loop
def sD:=@List.length_pos_of_mem
def lG:=@List.reverse_cons
def ui:=@List.eraseIdxIfInBounds_toArray
def gp:=@True.intro
def vc:=@PySem.plainObj_wpAny_Assign_Attribute
def oZ:=@PySem.F.typeOf_object_class
def ph:=@PySem.F.entry_proto_collect
def pj:=@PySem.F.plain_proto_collect
def pQ:=@PySem.codeAny_handlers_test
def qT:=@List.take_append_drop
def jE:=@Int.le_trans
def lO:=@PySem.wpAny_isInstance
def mF:=@List.drop_length
def nN:=@List.getElem?_set_ne
def oM:=@PySem.Calls.evalArgs_plain
def pr:=@PySem.codeAny_extend_loopS
def pS:=@Array.toArray_toList
def jX:=@List.any_cons
def kW:=@List.map_take
def gT:=@PySem.wpAny_call
def nI:=@List.filterMap_cons
def ly:=@Bool.eq_iff_iff
def lB:=@List.nodup_cons
def dJ:=@if_true
def lL:=@PySem.F.slot_int_rmul
def pq:=@PySem.F.plain_extend_loop
def lR:=@PySem.codeAny_of_tree
def pK:=@PySem.F.entry_object_init
def pP:=@PySem.wpAny_handleBy_cons
def jh:=@Int.le_refl
def qx:=@List.getElem?_range
def sJ:=@PySem.Calls.Name_function_global
def tm:=@Int.fmod_eq_emod_of_nonneg
def wW:=@List.perm_append_singleton
def nJ:=@Array.append_assoc
def jL:=@Nat.ne_of_gt
def nZ:=@List.mem_filterMap
def oj:=@PySem.Calls.spliced_cons
def jS:=@PySem.codeAny_mono
def pc:=@PySem.Code.quiet_builtin
def pJ:=@PySem.F.typeCall_tuple_1
def qg:=@List.contains_cons
def qq:=@PySem.F.args_tuple_mul_2
def sG:=@List.map_replicate
def uk:=@PySem.wpAny_binaryOp_repeat_ref
def lW:=@PySem.W.looks_findIn
def lY:=@Bool.and_false
def vH:=@List.getElem?_zip_eq_some
def nE:=@List.take_take
def oi:=@PySem.Calls.spliced_nil
def oW:=@Bool.not_eq_true'
def uy:=@PyProof.noPylong_of_log2
def pk:=@PySem.F.entry_list_iadd
def py:=@PySem.F.newCall_tuple_1
def pA:=@PySem.F.entry_tuple_new
def pF:=@PySem.init_tuple_lookup
def pL:=@PySem.object_init_meets
def uO:=@PySem.arm_evalThenUse_ListComp
def qp:=@PySem.F.entry_tuple_mul
def vG:=@decide_eq_false_iff_not
def kN:=@Int.one_mul
def yX:=@List.length_eq_zero_iff
def oB:=@PySem.noFill_tuple_add
def pN:=@PySem.AutoSeq1.idx_int
def pO:=@PySem.wpAny_Try_except
def qo:=@PySem.F.slot_tuple_mul
def qJ:=@List.cons_append
def rD:=@decide_eq_decide
def ua:=@PyProof.Rows.subscriptTail_builtinR
def ue:=@PySem.Calls.callWith_builtin
def uL:=@PySem.codeAny_handlers_suite
def uY:=@Option.map_eq_some_iff
def xl:=@List.drop_of_length_le
def oq:=@List.of_mem_zip
def lD:=@PySem.concat_meets
def oJ:=@PySem.SeqAt.EqAt.same
def oN:=@List.foldl_cons
def oP:=@List.nil_append
def uE:=@List.getElem?_toArray
def uF:=@List.getElem?_reverse
def uN:=@PySem.exec_Assign_Name_used
def jt:=@PySem.W.kia_one
def vW:=@List.dropLast_eq_take
def vX:=@PySem.F.slot_list_pop
def vY:=@PySem.F.type_list_pop
def jM:=@PySem.wpAny_load
def jZ:=@PySem.typeIs_int
def tG:=@Array.mem_toList_iff
def uh:=@PySem.F.args_list_append_2
def uG:=@List.getElem_toArray
def vZ:=@List.getElem?_of_mem
def wT:=@Int.mul_ediv_self_le
def xg:=@List.mem_of_mem_drop
def nY:=@Bool.false_and
def oO:=@PySem.fitsIndex_both
def oV:=@PySem.Heap.size_push
def pd:=@PySem.wpAny_loadPart
def pf:=@PySem.wpAny_runValue
def px:=@PySem.Moved.drop_new
def pE:=@PySem.sub_tuple_self
def pG:=@PySem.madeHere_tuple
def pH:=@PySem.callType_codes
def pI:=@PySem.F.called_tuple
def pX:=@PySem.wpAny_seqItems
def qv:=@List.drop_zero
def qX:=@Int.mul_le_mul
def lj:=@Int.mul_one
def s0a:=@PyProof.Rows.entry_tuple_getitem
def s0b:=@Nat.le_succ
def s0c:=@PySem.F.entry_list_append
def s0d:=@PySem.wpAny_letGo
def s0e:=@PySem.wpAny_isSubtype_exc
def s0f:=@PySem.Heap.get?_update_ne
def s0g:=@List.map_congr_left
def s0h:=@Nat.min_def
def s0i:=@List.mem_map_of_mem
def s0j:=@PySem.SeqAt.EqAt.int_str
def s0k:=@PySem.SeqAt.EqAt.str_int
def s0l:=@PySem.Calls.Constant_str
def s0m:=@Int.natCast_nonneg
def s0n:=@PySem.SeqAt.EqAt.int_int
def s0o:=@PySem.seq_tuple_add
def s0p:=@PyProof.Rows.args_tuple_getitem
def s0q:=@PyProof.Rows.len_tuple
def s0r:=@PySem.F.slot_list_append
def s0s:=@Nat.lt_of_le_of_lt
def s0t:=@PySem.wpAny_pyIter_tuple
def s0u:=@PySem.W.looks_clsIn
def s0v:=@PySem.SeqAt.EqAt.of_refs
def s0w:=@Bool.false_or
def s0x:=@Int.mul_assoc
def s0y:=@List.pairwise_cons
def s0z:=@decide_eq_true_iff
def s1a:=@PySem.wpAny_rule
def s1b:=@PySem.W.of_hideAll
def s1c:=@PySem.W.callWith_K
def s1d:=@PySem.seqIndex_neg
def s1e:=@Nat.mul_comm
def s1f:=@Bool.or_true
def s1g:=@List.any_map
def s1h:=@Nat.sub_self
def s1i:=@if_false
def s1j:=@Sum.inr.inj
def s1k:=@PySem.seqIndex_of
def s1l:=@PySem.ItemsOf.nil
def s1m:=@PySem.W.Looks.now
def s1n:=@PySem.W.mg_of
section
set_option hygiene false

set_option hygiene true
noncomputable section
namespace _L
open PySem PySem.Spec PyProof.Rows
abbrev Key:=Sum Int Str
noncomputable def lg:Key->Value->Bool
 | .inl k,v=>Value.isInt k v
 | .inr x,v=>Value.isStrOf x v
noncomputable def zb(w:World):Key->Int
 | .inl k=>hashInt k
 | .inr x=>hashStr w x
theorem fk:∀ {k:Key}{v:Value},lg k v=true->(∃i t,k=Sum.inl i/\v=Value.int i t)\/(∃x t,k=Sum.inr x/\v=Value.str x t)
 | .inl i,v,h=>by
  obtain⟨t,e⟩:=Value.isInt_shape (k:=i) (v:=v) h;exact .inl ⟨i,t,rfl,e⟩
 | .inr x,v,h=>by
  obtain⟨t,e⟩:=Value.isStrOf_shape (x:=x) (v:=v) h;exact .inr ⟨x,t,rfl,e⟩
theorem nG(x:Str)(t:Tok):lg (.inr x) (.str x t)=true:=by simp[lg,Value.isStrOf]
theorem ze(a b:Int):decide ((Sum.inl a:Key)=Sum.inl b)=(a == b):=by
 by_cases e:a=b
 ·subst e;simp
 ·have h:¬(Sum.inl a:Key)=Sum.inl b:=λ q=>e (Sum.inl.inj q);rw[aJ h];exact(iO.mpr e).symm
theorem zf(a b:Str):decide ((Sum.inr a:Key)=Sum.inr b)=decide (a=b):=by
 by_cases e:a=b
 ·subst e;simp
 ·have h:¬(Sum.inr a:Key)=Sum.inr b:=λ q=>e (s1j q);rw[aJ h,aJ e]
theorem zj(a:Int)(b:Str):decide ((Sum.inl a:Key)=Sum.inr b)=false:=aJ (λ q=>nomatch q)
theorem zk(a:Str)(b:Int):decide ((Sum.inr a:Key)=Sum.inl b)=false:=aJ (λ q=>nomatch q)
noncomputable def nH(prog:Program)(w:World):PySem.KeyKind prog w Key where
 is:=lg
 hash:=zb w
 inj:=λ v a b ha hb=>by
  rcases fk ha with ⟨i,t,rfl,rfl⟩ | ⟨x,t,rfl,rfl⟩
  ·rcases fk hb with ⟨j,u,rfl,e⟩ | ⟨y,u,rfl,e⟩
   ·injection e with e1 _;rw[e1]
   ·exact nomatch e
  ·rcases fk hb with ⟨j,u,rfl,e⟩ | ⟨y,u,rfl,e⟩
   ·exact nomatch e
   ·injection e with e1 _;rw[e1]
 byValue:=λ k v h=>by
  rcases fk h with ⟨i,t,rfl,rfl⟩ | ⟨x,t,rfl,rfl⟩<;>rfl
 pyHash:=λ hv h=>by
  rcases fk hv with ⟨i,t,rfl,rfl⟩ | ⟨x,t,rfl,rfl⟩
  ·exact wpAny_pyHash_int h
  ·exact wpAny_pyHash_str h
 eqBool:=λ hu hv h=>by
  rcases fk hu with ⟨i,t,rfl,rfl⟩ | ⟨x,t,rfl,rfl⟩
  ·rcases fk hv with ⟨j,u,rfl,rfl⟩ | ⟨y,u,rfl,rfl⟩
   ·rw[ze] at h;exact wpAny_eqBool_int h
   ·rw[zj] at h;exact s0j i t y u _ _ _ _ h
  ·rcases fk hv with ⟨j,u,rfl,rfl⟩ | ⟨y,u,rfl,rfl⟩
   ·rw[zk] at h;exact s0k x t j u _ _ _ _ h
   ·rw[zf] at h;exact wpAny_eqBool_str h
 «strs»:=λ k x t v h=>by
  rcases fk h with ⟨i,u,rfl,e⟩ | ⟨y,u,rfl,e⟩
  ·exact nomatch e
  ·injection e with e1 _
   subst e1;cases v<;>rfl
inductive V where
 | non | bl (b:Bool) | int (i:Int) | str (x:Str) | byt (b:Array UInt8) | flt (b:UInt64) | ref (a:Addr) | ty (n:String)
 deriving DecidableEq
noncomputable def RelV:V->Value->Prop
 | .non,u=>u=Value.none
 | .bl b,u=>u=Value.bool b
 | .int i,u=>∃t,u=Value.int i t
 | .str x,u=>∃t,u=Value.str x t
 | .byt b,u=>∃t,u=Value.bytes b t
 | .flt b,u=>∃t,u=Value.float b t
 | .ref a,u=>u=Value.ref a
 | .ty n,u=>u=Value.type n
abbrev Vals:List V->LV->Prop:=Paired RelV
theorem Vals.length(r:Vals xs us):xs.length=us.length:=Paired.length r
theorem Vals.get:∀ {xs:List V}{us:LV}{i:Nat}{x:V},Vals xs us->xs[i]?=some x->∃u,us[i]?=some u/\RelV x u
 | _,_,_,_,.nil,e=>by simp at e
 | _,_,0,_,.cons r _,e=>by simp at e;subst e;exact⟨_,rfl,r⟩
 | _,_,i+1,x,.cons _ t,e=>by
  obtain⟨u,h1,h2⟩:=Vals.get (i:=i) (x:=x) t (by simpa using e);exact⟨u,by simpa using h1,h2⟩
theorem Vals.set(r:RelV x u):∀ {xs:List V}{us:LV}(i:Nat),Vals xs us->Vals (xs.set i x) (us.set i u)
 | _,_,_,.nil=>.nil
 | _,_,0,.cons _ t=>.cons r t
 | _,_,i+1,.cons q t=>.cons q (Vals.set r i t)
theorem Vals.append:∀ {xs ys:List V}{us ws:LV},Vals xs us->Vals ys ws->Vals (xs++ys) (us++ws)
 | _,_,_,_,.nil,s=>s
 | _,_,_,_,.cons r t,s=>.cons r (Vals.append t s)
theorem Vals.take:∀ {xs:List V}{us:LV}(n:Nat),Vals xs us->Vals (xs.take n) (us.take n)
 | _,_,0,_=>.nil
 | _,_,_+1,.nil=>.nil
 | _,_,n+1,.cons r t=>.cons r (Vals.take n t)
theorem Vals.drop:∀ {xs:List V}{us:LV}(n:Nat),Vals xs us->Vals (xs.drop n) (us.drop n)
 | _,_,0,r=>r
 | _,_,_+1,.nil=>.nil
 | _,_,n+1,.cons _ t=>Vals.drop n t
noncomputable def RelO:Option V->Option Value->Prop
 | some v,some u=>RelV v u
 | none,none=>True
 | _,_=>False
noncomputable def KV{κ:Type}:List (κ × V)->List (κ × Value)->Prop:=Paired λ(p:κ × V) (q:κ × Value)=>p.1=q.1/\RelV p.2 q.2
def kV:Key->V
 | .inl i=>.int i
 | .inr x=>.str x
inductive HO where
 | lst (xs:List V)
 | tup (xs:List V)
 | dK (kvs:List (Key × V)) | dT (kvs:List (List Key × V))
 | set (S:Int->Bool) (n:Nat)
 | ins (C dx:Addr) (fs:List (Str × V))
 | own (x:Addr)
 | xd (fs:List (Str × V))
 | met (f x:Addr)
 | rng (lo hi:Int)
 | frz (o:Obj) (u:HO)
 | tbl (ps:Array Value)
 | ext (φ:Heap->Prop)
abbrev Hp:=Addr->Option HO
noncomputable def upd(H:Hp)(a:Addr)(o:HO):Hp:=λ b=>if b=a then some o else H b
theorem bz:upd H a o a=some o:=by unfold upd;rw[if_pos rfl]
theorem ay{a b:Addr}(h:b≠a):upd H a o b=H b:=by unfold upd;rw[if_neg h]
theorem jI{H:Hp}(h:H a=some o)(h':H b=none):a≠b:=by
 intro e;subst e;rw[h] at h';cases h'
noncomputable def TupO(h:Heap)(a:Addr)(its:Array Value):Prop:=∃o,h.get? a=some o/\(o.cls=.type "tuple" /\ ∃n,o.data=.seq its n)/\o.dict=none
theorem TupO.new(h:Heap)(its:Array Value):TupO (h.push { cls:=.type "tuple",data:=.seq its }) h.objs.size its:=⟨_,bA _ rfl,⟨rfl,0,rfl⟩,rfl⟩
theorem TupO.tup(t:TupO h a its):IsTup h a its:=let ⟨o,e,⟨c,n,d⟩,_⟩:=t;⟨o,e,c,n,d⟩
theorem TupO.lt(t:TupO h a its):a < h.objs.size:=t.tup.lt
section
variable (P:Program)(w:World)
noncomputable def ObjOk(H:Hp)(h:Heap)(a:Addr):HO->Prop
 | .lst xs=>xs.length≤sizeLine/\∃(its:LV) (n:Nat),Vals xs its/\h.get? a=some { cls:=.type "list",data:=.seq its.toArray n }
 | .tup xs=>xs.length≤sizeLine/\∃its:LV,Vals xs its/\TupO h a its.toArray
 | .dK kvs=>kvs.length≤sizeLine/\(a == sysModules)=false/\∃vs,KV kvs vs/\h.DictOf (nH P w) a vs
 | .dT kvs=>kvs.length≤sizeLine/\(a == sysModules)=false/\∃xs:List (List Key × Addr × Value),
   Paired (λ(p:List Key × V) (q:List Key × Addr × Value)=>p.1=q.1/\H q.2.1=some (.tup (p.1.map kV))/\RelV p.2 q.2.2) kvs xs /\
   ∃o es ep,h.get? a=some o/\o.ExactDict/\o.data=.dict es ep/\es.toList=xs.map (entryOfKey (tupleKind (nH P w)))/\(xs.map (·.1)).Nodup
 | .set S n=>h.SetOf (intKind P w) a S n
 | .ins C dx fs=>H dx=some (.own a)/\fs.length≤1000/\dx≠a/\h.get? a=some (W.instObj C dx) /\
   ∃mA,h.Ns1 dx mA/\(∀f,RelO (fs.lookup f) (mA f))/\PySem.Within mA (fs.map (·.1))
 | .own _=>∃o,h.get? a=some o
 | .xd fs=>∃mA,h.Ns1 a mA/\∀f,RelO (fs.lookup f) (mA f)
 | .rng lo hi=>∃t u v,h.get? a=some { cls:=.type "range",data:=.fields #[.int lo t,.int hi u,.int 1 v] }
 | .frz o u=>h.get? a=some o/\ObjOk H h a u
 | .tbl ps=>h.get? a=some { cls:=.none,data:=.fields ps }
 | .met f x=>h.get? a=some (W.methodObj (.ref f) (.ref x))
 | .ext φ=>φ h/\(∃o,h.get? a=some o)/\∀h1 h2:Heap,φ h1->(∀o,h1.get? a=some o->h2.get? a=some o)->φ h2
noncomputable def HOk(H:Hp)(h:Heap):Prop:=∀a o,H a=some o->ObjOk P w H h a o
end
section
variable {P:Program}{w:World}{H H':Hp}{h h':Heap}{a:Addr}{o:HO}
theorem ObjOk.lt(x:ObjOk P w H h a o):a < h.objs.size:=by
 cases o with
 | lst xs=>obtain⟨_,_,_,_,e⟩:=x;exact az e
 | tup xs=>obtain⟨_,_,_,p⟩:=x;exact p.lt
 | dK kvs=>obtain⟨_,_,_,_,o,_,_,e,_⟩:=x;exact az e
 | dT kvs=>obtain⟨_,_,_,_,o,_,_,e,_⟩:=x;exact az e
 | set S n=>obtain⟨o,_,_,_,e,_⟩:=x;exact az e
 | ins C dx fs=>obtain⟨_,_,_,e,_⟩:=x;exact az e
 | own y=>obtain⟨_,e⟩:=x;exact az e
 | xd fs=>obtain⟨_,⟨_,_,_,e,_⟩,_⟩:=x;exact az e
 | rng lo hi=>obtain⟨_,_,_,e⟩:=x;exact az e
 | frz ob u=>obtain⟨e,_⟩:=x;exact az e
 | tbl ps=>exact az (show h.get? a=some _ from x)
 | met f y=>exact az (show h.get? a=some _ from x)
 | ext φ=>obtain⟨_,⟨_,e⟩,_⟩:=x;exact az e
theorem Paired.mapP{α β:Type}{F G:α->β->Prop}:∀ {l₁:List α}{l₂:List β},Paired F l₁ l₂->(∀a b,F a b->G a b)->Paired G l₁ l₂
 | _,_,.nil,_=>.nil
 | _,_,.cons r t,f=>.cons (f _ _ r) (Paired.mapP t f)
theorem ObjOk.stay(x:ObjOk P w H h a o)(k:∀b u,(b=a\/H b=some (.own a))->h.get? b=some u->h'.get? b=some u)
  (ho:∀b,H b=some (.own a)->H' b=some (.own a)) (ht:∀b xs,H b=some (.tup xs)->H' b=some (.tup xs)):ObjOk P w H' h' a o:=by
 induction o with
 | lst xs=>obtain⟨z,its,n,r,e⟩:=x;exact⟨z,its,n,r,k _ _ (.inl rfl) e⟩
 | tup xs=>obtain⟨z,its,r,ob,e,c⟩:=x;exact⟨z,its,r,ob,k _ _ (.inl rfl) e,c⟩
 | dK kvs=>obtain⟨z,y,vs,r,ob,es,ep,e,c⟩:=x;exact⟨z,y,vs,r,ob,es,ep,k _ _ (.inl rfl) e,c⟩
 | dT kvs =>
  obtain⟨z,y,xs,r,ob,es,ep,e,c⟩:=x;exact⟨z,y,xs,Paired.mapP r λ p q z=>⟨z.1,ht _ _ z.2.1,z.2.2⟩,ob,es,ep,k _ _ (.inl rfl) e,c⟩
 | set S n=>obtain⟨ob,es,ep,t,e,c⟩:=x;exact⟨ob,es,ep,t,k _ _ (.inl rfl) e,c⟩
 | ins C dx fs =>
  obtain⟨d,z,ne,e,mA,⟨od,es,ep,e2,c⟩,r⟩:=x;exact⟨ho _ d,z,ne,k _ _ (.inl rfl) e,mA,⟨od,es,ep,k _ _ (.inr d) e2,c⟩,r⟩
 | own y=>obtain⟨ob,e⟩:=x;exact⟨ob,k _ _ (.inl rfl) e⟩
 | xd fs=>obtain⟨mA,⟨od,es,ep,e,c⟩,r⟩:=x;exact⟨mA,⟨od,es,ep,k _ _ (.inl rfl) e,c⟩,r⟩
 | rng lo hi=>obtain⟨t,u,v,e⟩:=x;exact⟨t,u,v,k _ _ (.inl rfl) e⟩
 | frz ob u ih=>obtain⟨e,q⟩:=x;exact⟨k _ _ (.inl rfl) e,ih q⟩
 | tbl ps =>
  have e:h.get? a=some { cls:=.none,data:=.fields ps }:=x;show h'.get? a=some { cls:=.none,data:=.fields ps };exact k a _ (.inl rfl) e
 | met f y =>
  have e:h.get? a=some (W.methodObj (.ref f) (.ref y)):=x;show h'.get? a=some (W.methodObj (.ref f) (.ref y));exact k a _ (.inl rfl) e
 | ext φ=>obtain⟨p,⟨o,e⟩,st⟩:=x;exact⟨st _ _ p λ o q=>k _ _ (.inl rfl) q,⟨o,k _ _ (.inl rfl) e⟩,st⟩
theorem HOk.lt(x:HOk P w H h)(e:H a=some o):a < h.objs.size:=(x a o e).lt
theorem HOk.fresh(x:HOk P w H h)(e:h.objs.size≤a):H a=none:=by
 cases q:H a with
 | none=>rfl
 | some u=>exact absurd (bO (x.lt q) e) (ce _)
theorem HOk.kept(x:HOk P w H h)(k:∀b u,h.get? b=some u->h'.get? b=some u):HOk P w H h':=λ a o e =>
 (x a o e).stay (λ b u _ q=>k b u q) (λ _ q=>q) λ _ _ q=>q
theorem HOk.laid(x:HOk P w H h)(k:∀b u,h.get? b=some u->h'.get? b=some u)(hp:h.objs.size≤a)(new:ObjOk P w (upd H a o) h' a o):HOk P w (upd H a o) h':=λ b u e=>by
 have hn:=x.fresh hp;by_cases hb:b=a
 ·subst hb;rw[bz] at e;cases e;exact new
 ·rw[ay hb] at e;exact(x b u e).stay (λ c v _ q=>k c v q) (λ c q=>by rw[ay (jI q hn)];exact q) λ c xs q=>by rw[ay (jI q hn)];exact q
end
noncomputable def Rd(H:Hp)(a:Addr)(u:HO):Prop:=H a=some u\/∃o,H a=some (.frz o u)
theorem Rd.ok(r:Rd H a u)(x:HOk P w H h):ObjOk P w H h a u:=by
 rcases r with r | ⟨o,r⟩
 ·exact x a u r
 ·obtain⟨_,q⟩:=x a _ r;exact q
noncomputable def Mut:Option HO->Prop
 | some (.lst _)=>True
 | some (.dK _)=>True
 | some (.dT _)=>True
 | some (.set _ _)=>True
 | some (.ins _ _ _)=>True
 | some (.ext _)=>True
 | _=>False
section
variable {P:Program}{w:World}{H:Hp}{h h':Heap}{x e:Addr}{o':HO}
theorem HOk.write(ok:HOk P w H h)(mu:Mut (H x))(he:e=x\/H e=some (.own x))(k:∀b u,b≠e->h.get? b=some u->h'.get? b=some u)(heo:∃u,h'.get? e=some u)
  (new:ObjOk P w (upd H x o') h' x o'):HOk P w (upd H x o') h':=λ b u q=>by
 have nown:∀c y,H c=some (.own y)->c≠x:=λ c y r z=>by subst z;rw[r] at mu;exact mu
 have ntup:∀c xs,H c=some (.tup xs)->c≠x:=λ c xs r z=>by subst z;rw[r] at mu;exact mu
 by_cases hb:b=x
 ·subst hb;rw[bz] at q;cases q;exact new
 ·rw[ay hb] at q;by_cases hbe:b=e
  ·have q':H b=some (.own x):=by
    rcases he with z | z
    ·exact absurd (hbe.trans z) hb
    ·rw[hbe];exact z
   rw[q] at q';cases q';obtain⟨v,hv⟩:=heo;exact⟨v,by rw[hbe];exact hv⟩
  ·refine(ok b u q).stay (λ c v hc r=>k c v ?_ r) (λ c r=>by rw[ay (nown c b r)];exact r) λ c xs r=>by rw[ay (ntup c xs r)];exact r
   rcases hc with rfl | hc
   ·exact hbe
   ·rintro rfl
    rcases he with z | z
    ·exact nown c b hc z
    ·rw[hc] at z;cases z;exact hb rfl
end
structure Un (fs ex:List Addr)(H H':Hp)(h h':Heap):Prop where
 keep:∀b o,h.get? b=some o->H b=none->b ∉ fs->b ∉ ex->h'.get? b=some o
 slot:∀b o,h.get? b=some o->H b=none->b∈fs->b ∉ ex->∃sl,h'.get? b=some { o with slots:=sl }
 free:∀b o,h.get? b=some o->H b=none->b ∉ ex->H' b=none
 there:∀b o,h.get? b=some o->b ∉ ex->∃o',h'.get? b=some o'
 tups:∀b xs,H b=some (.tup xs)->H' b=some (.tup xs)
 frzs:∀b o u,H b=some (.frz o u)->H' b=some (.frz o u)
 tbls:∀b ps,H b=some (.tbl ps)->∃more,H' b=some (.tbl (ps++more))
section
variable {fs fs' ex ex':List Addr}{H H1 H2:Hp}{h h1 h2 h':Heap}{a x e:Addr}{o:HO}
theorem Un.any(u:Un fs ex H H1 h h1){b:Addr}(q:h.get? b=some ob)(n:H b=none)(hx:b ∉ ex):∃sl,h1.get? b=some { ob with slots:=sl }:=by
 by_cases hb:b∈fs
 ·exact u.slot b ob q n hb hx
 ·exact⟨ob.slots,u.keep b ob q n hb hx⟩
theorem Un.kept(k:∀b u,h.get? b=some u->h'.get? b=some u):Un fs ex H H h h' :=
 ⟨λ b ob q _ _ _=>k b ob q,λ b ob q _ _ _=>⟨ob.slots,k b ob q⟩,λ _ _ _ n _=>n,λ b ob q _=>⟨ob,k b ob q⟩,λ _ _ q=>q,λ _ _ _ q=>q,λ _ ps q=>⟨#[],by rw[q];simp⟩⟩
theorem Un.refl:Un fs ex H H h h:=Un.kept λ _ _ q=>q
theorem Un.laid(k:∀b u,h.get? b=some u->h'.get? b=some u)(hp:h.objs.size≤a)(hn:H a=none):Un fs ex H (upd H a o) h h' where
 keep:=λ b u q _ _ _=>k b u q
 slot:=λ b u q _ _ _=>⟨u.slots,k b u q⟩
 free:=λ b u q n _=>by rw[ay (aZ (bO (az q) hp))];exact n
 there:=λ b u q _=>⟨u,k b u q⟩
 tups:=λ b xs q=>by rw[ay (jI q hn)];exact q
 frzs:=λ b u xs q=>by rw[ay (jI q hn)];exact q
 tbls:=λ b ps q=>⟨#[],by rw[ay (jI q hn),q];simp⟩
theorem Un.write(mu:Mut (H x))(he:e=x\/H e=some (.own x))(k:∀b u,b≠e->h.get? b=some u->h'.get? b=some u)(heo:∃u,h'.get? e=some u):Un fs ex H (upd H x o) h h':=by
 have hx:∀b,H b=none->b≠x:=λ b n z=>by subst z;rw[n] at mu;exact mu
 have hb:∀b,H b=none->b≠e:=λ b n z=>by
  subst z
  rcases he with r | r
  ·exact hx b n r
  ·rw[n] at r;cases r
 have hm:∀b u,H b=some u->¬Mut (some u)->b≠x:=λ b u q nm z=>by subst z;rw[q] at mu;exact nm mu
 refine⟨λ b u q n _ _=>k b u (hb b n) q,λ b u q n _ _=>⟨u.slots,k b u (hb b n) q⟩,λ b u q n _=>by rw[ay (hx b n)];exact n,λ b u q _=>?_,
  λ b xs q=>by rw[ay (hm b _ q λ z=>z)];exact q,λ b u xs q=>by rw[ay (hm b _ q λ z=>z)];exact q,λ b ps q=>⟨#[],by rw[ay (hm b _ q λ z=>z),q];simp⟩⟩
 by_cases hbe:b=e
 ·subst hbe;exact heo
 ·exact⟨u,k b u hbe q⟩
end
noncomputable def trk(h:Heap)(H:Hp):List Addr:=(List.range h.objs.size).filter λ a=>(H a).isSome
def fq(h:Heap)(H:Hp):Heap:=W.hideAll h (trk h H)
theorem zm(h:Heap)(H:Hp):(fq h H).objs.size=h.objs.size:=W.hideAll_size _ _
theorem zn{h:Heap}{H:Hp}{b:Addr}(e:h.get? b=some o)(n:H b=none):(fq h H).get? b=some o :=
 gP _ e λ hm=>by
  have q:(H b).isSome=true:=(eP.mp hm).2;rw[n] at q;simp at q
theorem zq{b:Addr}(e:(fq h H).get? b=some o):h.get? b=some o/\H b=none:=by
 have e':h.get? b=some o:=s1b (trk h H) e;refine⟨e',?_⟩
 cases q:H b with
 | none=>rfl
 | some x =>
  have hm:b∈trk h H:=eP.mpr ⟨fD.mpr (az e'),by simp[q]⟩;have z:(fq h H).get? b=none:=W.hideAll_none (trk h H) hm;rw[z] at e;cases e
noncomputable def zu(g h:Heap)(L:Addr):LO:=(List.range h.objs.size).filterMap λ a=>if a=L\/(g.get? a).isSome=true then none else (h.get? a).map λ o=>(a,o)
noncomputable def rest(g h:Heap)(L d:Addr):LO:=(zu g h L).filter λ p=>decide (p.1≠d)
structure Mod (K:FG)(mg:SV)(base:Heap):Prop where
 kin:K.In base
 glob:base.Ns mainGlobals mg
 blt:∃mb,base.Ns builtinsNs mb/\∀x:Str,x ≠ "__name__" -> mb x=bootBuiltins x
 nolimit:base.NoLimit
structure Cx where
 prog:Program
 w:World
 K:FG
 mg:SV
 base:Heap
 A:Around
 N:List Str
 s₀:Shared
 H₀:Hp
 env:Env
 outer:List Env
 stack:List Env
 ex:List Addr
 fn:Str->Bool
 calm:Bool
 pn:LO
 xe:VS
def frs(l:List Env):List Addr:=l.filterMap (·.frame)
abbrev Cx.fs(X:Cx):List Addr:=frs X.outer
noncomputable def Vis(sc:Scope)(x:Str):Prop:=sc.names.lookup x=some .local\/sc.names.lookup x=some .cell\/sc.names.lookup x=some .free
noncomputable def Loc(sc:Scope)(x:Str):Prop:=sc.names.lookup x=some .local\/sc.names.lookup x=some .cell
noncomputable def sH(env:Env)(h:Heap)(m:SV)(x:Str)(u:Value):Prop :=
 (env.kindOf x=some .local/\m x=some u)\/((env.kindOf x=some .cell\/env.kindOf x=some .free)/\∃c,env.cells.lookup x=some c/\h.IsCell c (some u))
structure Cx.Ok (X:Cx):Prop where
 mod:Mod X.K X.mg X.base
 kind:X.env.scope.kind=.function
 glob:X.env.globals=mainGlobals
 blt:X.env.builtins=builtinsNs
 above:X.s₀.heap.objs.size≤X.env.locals
 inj:∀x y c,X.env.cells.lookup x=some c->X.env.cells.lookup y=some c->x=y
 has:∀x,(X.env.kindOf x=some .cell\/X.env.kindOf x=some .free)->∃c,X.env.cells.lookup x=some c
 cab:∀x c,X.fn x=true->X.env.cells.lookup x=some c->X.s₀.heap.objs.size≤c
 hd:X.calm=true->X.A.handled=none
 frames:X.A.frames=some X.stack
 stk:X.stack=X.outer\/(X.stack=X.env::X.outer/\X.env.frame=some X.env.locals)
 exf:∀b∈X.ex,b≠X.env.locals/\∀x c,X.env.cells.lookup x=some c->c≠b
 bs:∀b o,X.base.get? b=some o->X.s₀.heap.get? b=some o/\X.H₀ b=none
 bsz:X.base.objs.size≤X.s₀.heap.objs.size
 noex:∀b o,X.base.get? b=some o->b ∉ X.ex
 exfs:∀b∈X.ex,b ∉ X.fs
 funs:X.s₀.heap.FunFrames X.base X.outer
 frf:∀b∈X.fs,X.H₀ b=none
structure Inv (X:Cx)(pins:LO)(σ:List (Option V))(H:Hp)(s:Shared):Prop where
 ok:X.Ok
 os:s.os=X.s₀.os
 bare:AllBare s.gens
 base:Un X.fs X.ex X.H₀ H X.s₀.heap s.heap
 loc:∃m,s.heap.Ns X.env.locals m/\∀(i:Nat) (x:Str) (v:V),X.N[i]?=some x->σ[i]?=some (some v)->Vis X.env.scope x->∃u,RelV v u/\sH X.env s.heap m x u
 cell:∀x c,X.env.cells.lookup x=some c->∃v,s.heap.IsCell c v
 free:H X.env.locals=none
 freeC:∀x c,X.env.cells.lookup x=some c->H c=none
 pin:∀p∈X.pn++pins,s.heap.get? p.1=some p.2/\H p.1=none/\p.1≠X.env.locals/\p.1 ∉ X.fs/\∀v,p.2.data≠.cell v
 hok:HOk X.prog X.w H s.heap
 len:σ.length=X.N.length
section
variable {X:Cx}{pins:LO}{σ:List (Option V)}{H H':Hp}{s:Shared}{h':Heap}
theorem Cx.Ok.nofr(ok:X.Ok){b:Addr}(e:X.base.get? b=some o):b ∉ X.fs:=λ hb=>by
 have:=(ok.funs.mem hb).1;rw[e] at this;cases this
theorem Inv.bs(I:Inv X pins σ H s):∀b o,X.base.get? b=some o->s.heap.get? b=some o/\H b=none:=λ b o e =>
 ⟨I.base.keep b o (I.ok.bs b o e).1 (I.ok.bs b o e).2 (I.ok.nofr e) (I.ok.noex b o e),I.base.free b o (I.ok.bs b o e).1 (I.ok.bs b o e).2 (I.ok.noex b o e)⟩
theorem Inv.bk(I:Inv X pins σ H s):∀b o,X.base.get? b=some o->s.heap.get? b=some o:=λ b o e=>(I.bs b o e).1
theorem Inv.mod(I:Inv X pins σ H s):Mod X.K X.mg X.base:=I.ok.mod
theorem Inv.kIn(I:Inv X pins σ H s):X.K.In s.heap:=I.ok.mod.kin.keeps I.bk
theorem Inv.lt(I:Inv X pins σ H s):X.env.locals < s.heap.objs.size:=let ⟨_,hn,_⟩:=I.loc;hn.lt
theorem Inv.sz(I:Inv X pins σ H s):X.s₀.heap.objs.size≤s.heap.objs.size:=bK I.ok.above (dE I.lt)
theorem Inv.nofs(I:Inv X pins σ H s){a:Addr}(h:s.heap.objs.size≤a):a ∉ X.fs:=λ hb=>by
 obtain⟨_,o,ho,_⟩:=I.ok.funs.mem hb;exact absurd (bO (az ho) (bK I.sz h)) (ce _)
theorem Inv.cne(I:Inv X pins σ H s):∀x c,X.env.cells.lookup x=some c->c≠X.env.locals:=λ x c e z=>by
 obtain⟨v,o,ho,hd⟩:=I.cell x c e;obtain⟨m,⟨o',es,ep,ho',hd',_⟩,_⟩:=I.loc;rw[z,ho'] at ho;cases ho;rw[hd'] at hd;cases hd
theorem Inv.funs(I:Inv X pins σ H s):s.heap.FunFrames X.base X.outer:=by
 have all:∀(l:List Env),(∀b∈frs l,b∈X.fs)->X.s₀.heap.FunFrames X.base l->s.heap.FunFrames X.base l:=by
  intro l
  induction l with
  | nil=>intro _ _;trivial
  | cons env r ih =>
   intro hs hl;obtain⟨hk,⟨L,o,hf,hn,ho,hd⟩,hr⟩:=hl;have hL:L∈X.fs:=hs L (by unfold frs;rw[nI,hf];exact cN);obtain⟨sl,e⟩:=I.base.slot L o ho (I.ok.frf L hL) hL λ z=>I.ok.exfs L z hL;exact⟨hk,⟨L,_,hf,hn,e,hd⟩,ih (λ b hb=>hs b (by unfold frs;rw[nI,hf];exact bU _ hb)) hr⟩
 exact all X.outer (λ _ hb=>hb) I.ok.funs
theorem Inv.stack(I:Inv X pins σ H s):s.heap.FunFrames X.base X.stack:=by
 rcases I.ok.stk with e | ⟨e,hf⟩
 ·rw[e];exact I.funs
 ·rw[e];obtain⟨m,hn,_⟩:=I.loc;refine .cons (by rw[I.ok.kind];decide) hf hn ?_ I.funs;exact Heap.get?_none_of_le (bK I.ok.bsz I.ok.above)
theorem Inv.stkSub(I:Inv X pins σ H s):∀b∈frs X.stack,b∈X.env.locals::X.fs:=λ b hb=>by
 rcases I.ok.stk with e | ⟨e,hf⟩
 ·rw[e] at hb;exact bU _ hb
 ·rw[e] at hb;unfold frs at hb;rw[nI,hf] at hb;exact hb
theorem Inv.stkFree(I:Inv X pins σ H s):∀b∈frs X.stack,H b=none:=λ b hb=>by
 rcases av.mp (I.stkSub b hb) with e | hb
 ·rw[e];exact I.free
 ·obtain⟨_,o,ho,_⟩:=I.ok.funs.mem hb;exact I.base.free b o ho (I.ok.frf b hb) λ z=>I.ok.exfs b z hb
theorem Inv.step{t':Nat}{d':Drawn}{ch:List Addr}(I:Inv X pins σ H s)
  (hch:∀b∈ch,(b∈X.ex\/X.s₀.heap.objs.size≤b)/\b≠X.env.locals/\(∀x c,X.env.cells.lookup x=some c->c≠b)/\∀p∈X.pn++pins,p.1≠b)
  (keep:∀b o,b≠X.env.locals->b ∉ X.fs->b ∉ ch->s.heap.get? b=some o->H b=none->h'.get? b=some o)
  (slot:∀b o,b≠X.env.locals->b∈X.fs->b ∉ ch->s.heap.get? b=some o->H b=none->∃sl,h'.get? b=some { o with slots:=sl }) (free:∀b o,b ∉ ch->s.heap.get? b=some o->H b=none->H' b=none)
  (there:∀b o,b ∉ ch->s.heap.get? b=some o->∃o',h'.get? b=some o')
  (tups:∀b xs,H b=some (.tup xs)->H' b=some (.tup xs)) (frzs:∀b o u,H b=some (.frz o u)->H' b=some (.frz o u)) (tbls:∀b ps,H b=some (.tbl ps)->∃more,H' b=some (.tbl (ps++more)))
  (ns:∀m,s.heap.Ns X.env.locals m->h'.Ns X.env.locals m) (hok:HOk X.prog X.w H' h') (hg:AllBare g') :
  Inv X pins σ H' { s with heap:=h',gens:=g',drawn:=d',toks:=t' }:=by
 have neL:∀b o,X.s₀.heap.get? b=some o->b≠X.env.locals:=λ b o e=>aZ (bO (az e) I.ok.above)
 have neC:∀b o,X.s₀.heap.get? b=some o->b ∉ X.ex->b ∉ ch:=λ b o e hx hb=>by
  rcases(hch b hb).1 with z | z
  ·exact hx z
  ·exact absurd (bO (az e) z) (ce _)
 have cellK:∀x c,X.env.cells.lookup x=some c->∀v,s.heap.IsCell c v->h'.IsCell c v:=λ x c e v ⟨o,ho,hd⟩=>by
  have nch:c ∉ ch:=λ z=>(hch c z).2.2.1 x c e rfl;by_cases hc:c∈X.fs
  ·obtain⟨sl,q⟩:=slot c o (I.cne x c e) hc nch ho (I.freeC x c e);exact⟨_,q,hd⟩
  ·exact⟨o,keep c o (I.cne x c e) hc nch ho (I.freeC x c e),hd⟩
 refine⟨I.ok,I.os,hg,⟨λ b o e n hb hx=>?_,λ b o e n hb hx=>?_,λ b o e n hx=>?_,λ b o e hx=>?_,λ b xs e=>tups b xs (I.base.tups b xs e),λ b o xs e=>frzs b o xs (I.base.frzs b o xs e),λ b ps e=>?_⟩,?_,λ x c e=>?_,?_,λ x c e=>?_,λ p hp=>?_,hok,I.len⟩
 ·exact keep b o (neL b o e) hb (neC b o e hx) (I.base.keep b o e n hb hx) (I.base.free b o e n hx)
 ·obtain⟨sl,e1⟩:=I.base.slot b o e n hb hx;obtain⟨sl',e2⟩:=slot b _ (neL b o e) hb (neC b o e hx) e1 (I.base.free b o e n hx);exact⟨sl',e2⟩
 ·obtain⟨o',e1⟩:=I.base.there b o e hx;exact free b o' (neC b o e hx) e1 (I.base.free b o e n hx)
 ·obtain⟨o',e1⟩:=I.base.there b o e hx;exact there b o' (neC b o e hx) e1
 ·obtain⟨m1,e1⟩:=I.base.tbls b ps e;obtain⟨m2,e2⟩:=tbls b _ e1;exact⟨m1++m2,by rw[e2,nJ]⟩
 ·obtain⟨m,hn,hl⟩:=I.loc;refine⟨m,ns m hn,λ i x v e1 e2 e3=>?_⟩;obtain⟨u,r,l⟩:=hl i x v e1 e2 e3;refine⟨u,r,?_⟩
  rcases l with l | ⟨k,c,e,z⟩
  ·exact .inl l
  ·exact .inr ⟨k,c,e,cellK x c e _ z⟩
 ·obtain⟨v,z⟩:=I.cell x c e;exact⟨v,cellK x c e v z⟩
 ·obtain⟨m,⟨o,_,_,ho,_⟩,_⟩:=I.loc;exact free _ o (λ z=>(hch _ z).2.1 rfl) ho I.free
 ·obtain⟨v,o,ho,hd⟩:=I.cell x c e;exact free c o (λ z=>(hch c z).2.2.1 x c e rfl) ho (I.freeC x c e)
 ·obtain⟨e,n,ne,nf,d⟩:=I.pin p hp;have nch:p.1 ∉ ch:=λ z=>(hch p.1 z).2.2.2 p hp rfl;exact⟨keep p.1 p.2 ne nf nch e n,free p.1 p.2 nch e n,ne,nf,d⟩
theorem Inv.un{t':Nat}(I:Inv X pins σ H s)(u:Un X.fs [] H H' s.heap h')(hok:HOk X.prog X.w H' h'):Inv X pins σ H' { s with heap:=h',toks:=t' }:=by
 obtain⟨m,⟨o,es,ep,ho,r⟩,_⟩:=id I.loc;obtain⟨sl,hL⟩:=u.any ho I.free (by simp)
 exact I.step (g':=s.gens) (d':=s.drawn) (ch:=[]) (λ _ z=>nomatch z) (λ b o _ hb _ e n=>u.keep b o e n hb (by simp)) (λ b o _ hb _ e n=>u.slot b o e n hb (by simp)) (λ b o _ e n=>u.free b o e n (by simp)) (λ b o _ e=>u.there b o e (by simp)) u.tups u.frzs u.tbls (λ m' hm=>by
  obtain⟨o',es',ep',ho',r'⟩:=hm;rw[ho] at ho';cases ho'
  exact⟨_,es',ep',hL,r'⟩) hok I.bare
theorem Inv.call{t':Nat}{d':Drawn}(I:Inv X pins σ H s)(u:Un (frs X.stack) ch H H' s.heap h')(hok:HOk X.prog X.w H' h')(hg:AllBare g')
  (hch:∀b∈ch,(b∈X.ex\/X.s₀.heap.objs.size≤b)/\b≠X.env.locals/\(∀x c,X.env.cells.lookup x=some c->c≠b)/\∀p∈X.pn++pins,p.1≠b) :
  Inv X pins σ H' { s with heap:=h',gens:=g',drawn:=d',toks:=t' }:=by
 obtain⟨m,⟨o,es,ep,ho,r⟩,_⟩:=id I.loc;obtain⟨sl,hL⟩:=u.any ho I.free λ z=>(hch _ z).2.1 rfl
 exact I.step (ch:=ch) hch (λ b o hL hb hc e n=>u.keep b o e n (λ z=>(av.mp (I.stkSub b z)).elim hL hb) hc) (λ b o _ _ hc e n=>u.any e n hc) (λ b o hc e n=>u.free b o e n hc) (λ b o hc e=>u.there b o e hc) u.tups u.frzs u.tbls (λ m' hm=>by
  obtain⟨o',es',ep',ho',r'⟩:=hm;rw[ho] at ho';cases ho'
  exact⟨_,es',ep',hL,r'⟩) hok hg
theorem Inv.turned{t':Nat}{it:Addr}(I:Inv X pins σ H s)(k:∀b o,b≠it->s.heap.get? b=some o->h'.get? b=some o)(hn:H it=none)(hL:it≠X.env.locals)
  (h1:it∈X.ex\/X.s₀.heap.objs.size≤it) (h2:∀x c,X.env.cells.lookup x=some c->c≠it) (h3:∀p∈X.pn++pins,p.1≠it):Inv X pins σ H { s with heap:=h',toks:=t' }:=by
 have nit:∀b u,H b=some u->b≠it:=λ b u e z=>by rw[z,hn] at e;cases e
 refine I.step (g':=s.gens) (d':=s.drawn) (ch:=[it]) (λ b hb=>?_) (λ b o _ _ hc e _=>k b o (λ z=>hc (by simp[z])) e) (λ b o _ _ hc e _=>⟨o.slots,k b o (λ z=>hc (by simp[z])) e⟩) (λ _ _ _ _ n=>n)
  (λ b o hc e=>⟨o,k b o (λ z=>hc (by simp[z])) e⟩) (λ _ _ e=>e) (λ _ _ _ e=>e) (λ b ps e=>⟨#[],by rw[e];simp⟩) (λ m hm=>?_) (λ b u e=>?_) I.bare
 ·have e:b=it:=by simpa using hb
  subst e;exact⟨h1,hL,h2,h3⟩
 ·obtain⟨o,es,ep,ho,r⟩:=hm;exact⟨o,es,ep,k _ o (bo hL) ho,r⟩
 ·refine(I.hok b u e).stay (λ c v hc q=>k c v ?_ q) (λ _ q=>q) λ _ _ q=>q
  rcases hc with z | z
  ·rw[z];exact nit b u e
  ·exact nit c _ z
theorem Inv.tok(I:Inv X pins σ H s)(t:Nat):Inv X pins σ H { s with toks:=t }:=I.un (h':=s.heap) (t':=t) Un.refl I.hok
theorem Inv.kept{t':Nat}(I:Inv X pins σ H s)(k:∀b u,s.heap.get? b=some u->h'.get? b=some u):Inv X pins σ H { s with heap:=h',toks:=t' }:=I.un (Un.kept k) (I.hok.kept k)
theorem Inv.laid{a:Addr}{t':Nat}(I:Inv X pins σ H s)(k:∀b u,s.heap.get? b=some u->h'.get? b=some u)(hp:s.heap.objs.size≤a)(new:ObjOk X.prog X.w (upd H a o) h' a o) :
  Inv X pins σ (upd H a o) { s with heap:=h',toks:=t' }:=I.un (Un.laid k hp (I.hok.fresh hp)) (I.hok.laid k hp new)
theorem Inv.write{x e:Addr}{t':Nat}(I:Inv X pins σ H s)(mu:Mut (H x))(he:e=x\/H e=some (.own x))(k:∀b u,b≠e->s.heap.get? b=some u->h'.get? b=some u)(heo:∃u,h'.get? e=some u)
  (new:ObjOk X.prog X.w (upd H x o) h' x o):Inv X pins σ (upd H x o) { s with heap:=h',toks:=t' }:=I.un (Un.write mu he k heo) (I.hok.write mu he k heo new)
theorem Inv.pins_of{pins':LO}(I:Inv X pins σ H s)(h:∀p∈pins',s.heap.get? p.1=some p.2/\H p.1=none/\p.1≠X.env.locals/\p.1 ∉ X.fs/\∀v,p.2.data≠.cell v):Inv X pins' σ H s :=
 ⟨I.ok,I.os,I.bare,I.base,I.loc,I.cell,I.free,I.freeC,λ p hp=>(aM.mp hp).elim (λ z=>I.pin p (dW _ z)) (h p),I.hok,I.len⟩
theorem nK{N:List Str}(hN:N.Nodup){i j:Nat}(a:N[i]?=some x)(b:N[j]?=some x):i=j:=by
 obtain⟨h1,e1⟩:=bD.mp a;obtain⟨h2,e2⟩:=bD.mp b;exact(List.getElem_inj hN).mp (e1.trans e2.symm)
theorem nL{i:Nat}{Q:Unit->Shared->Prop}(I:Inv X pins σ H s)(hN:X.N.Nodup)(hi:X.N[i]?=some x)(hx:Loc X.env.scope x)(r:RelV v u)
  (h:∀s',Inv X pins (σ.set i (some v)) H s'->(∃a,Heap.SameBut a s.heap s'.heap/\(a=X.env.locals\/X.env.cells.lookup x=some a))->Q () s') (hf:autoParam (X.fn x=true\/X.env.scope.names.lookup x=some .local) Z0_):wpAny M A (storeName X.env x u) Q E s:=by
 obtain⟨m,hn,hl⟩:=id I.loc;have hcls:(X.env.scope.kind == .class || (X.env.scope.kind == .module && X.env.locals != X.env.globals))=false:=by rw[I.ok.kind];rfl
 have hiσ:i < σ.length:=by rw[I.len];exact(bD.mp hi).1
 have cne:=I.cne
 have tracked:∀ {a:Addr}{h':Heap},(∃o,s.heap.get? a=some o/\H a=none)->Heap.SameBut a s.heap h'->HOk X.prog X.w H h':=λ {a h'} ha hs b ob e=>by
  obtain⟨_,_,hfree⟩:=ha;refine(I.hok b ob e).stay (λ c w' hc q=>(hs.2 c ?_).trans q) (λ _ q=>q) λ _ _ q=>q;rintro rfl
  rcases hc with rfl | hc
  ·rw[hfree] at e;cases e
  ·rw[hfree] at hc;cases hc
 rcases hx with hk | hk
 ·refine wpAny_storeName_local hk hn (λ h' hn' hs=>?_) hcls;obtain⟨oL,_,_,hoL,_⟩:=id hn;refine h _ ⟨I.ok,I.os,I.bare,⟨λ b o e n hb hx=>?_,λ b o e n hb hx=>?_,I.base.free,λ b o e hx=>?_,I.base.tups,I.base.frzs,I.base.tbls⟩,⟨_,hn',λ j y v' e1 e2 e3=>?_⟩,λ y c e=>?_,I.free,I.freeC,λ p hp=>?_,tracked ⟨oL,hoL,I.free⟩ hs,by simpa using I.len⟩ ⟨_,hs,.inl rfl⟩
  ·exact(hs.2 b (aZ (bO (az e) I.ok.above))).trans (I.base.keep b o e n hb hx)
  ·obtain⟨sl,e1⟩:=I.base.slot b o e n hb hx;exact⟨sl,(hs.2 b (aZ (bO (az e) I.ok.above))).trans e1⟩
  ·obtain⟨o',e1⟩:=I.base.there b o e hx;exact⟨o',(hs.2 b (aZ (bO (az e) I.ok.above))).trans e1⟩
  ·by_cases hj:j=i
   ·subst hj;rw[hi] at e1;cases e1;rw[nM hiσ] at e2;cases e2;exact⟨u,r,.inl ⟨hk,by simp⟩⟩
   ·rw[nN (bo hj)] at e2;obtain⟨u',r',q⟩:=hl j y v' e1 e2 e3;refine⟨u',r',?_⟩
    rcases q with ⟨k,e⟩ | ⟨k,c,e,z⟩
    ·refine .inl ⟨k,?_⟩;have:y≠x:=λ e=>hj (nK hN e1 (e ▸ hi));simp[this,e]
    ·exact .inr ⟨k,c,e,z.sameBut hs (cne y c e)⟩
  ·obtain⟨w',z⟩:=I.cell y c e;exact⟨w',z.sameBut hs (cne y c e)⟩
  ·obtain⟨e,n,ne,nf,d⟩:=I.pin p hp;exact⟨(hs.2 p.1 ne).trans e,n,ne,nf,d⟩
 ·have hfn:X.fn x=true:=by
   rcases hf with z | z
   ·exact z
   ·rw[z] at hk;cases hk
  obtain⟨c,hc⟩:=I.ok.has x (.inl hk);obtain⟨w',z⟩:=I.cell x c hc;refine wpAny_storeName_cell I.ok.kind hk hc z (λ h' hc' hs=>?_);obtain⟨oc,hoc,hocd⟩:=id z;refine h { s with heap:=h' } ⟨I.ok,I.os,I.bare,⟨λ b o e n hb hx=>?_,λ b o e n hb hx=>?_,I.base.free,λ b o e hx=>?_,I.base.tups,I.base.frzs,I.base.tbls⟩,⟨m,hn.sameBut hs (bo (cne x c hc)),λ j y v' e1 e2 e3=>?_⟩,λ y c' e=>?_,I.free,I.freeC,λ p hp=>?_,tracked ⟨oc,hoc,I.freeC x c hc⟩ hs,by simpa using I.len⟩ ⟨c,hs,.inr hc⟩
  ·exact(hs.2 b (aZ (bO (az e) (I.ok.cab x c hfn hc)))).trans (I.base.keep b o e n hb hx)
  ·obtain⟨sl,e1⟩:=I.base.slot b o e n hb hx;exact⟨sl,(hs.2 b (aZ (bO (az e) (I.ok.cab x c hfn hc)))).trans e1⟩
  ·obtain⟨o',e1⟩:=I.base.there b o e hx;exact⟨o',(hs.2 b (aZ (bO (az e) (I.ok.cab x c hfn hc)))).trans e1⟩
  ·by_cases hj:j=i
   ·subst hj;rw[hi] at e1;cases e1;rw[nM hiσ] at e2;cases e2;exact⟨u,r,.inr ⟨.inl hk,c,hc,hc'⟩⟩
   ·rw[nN (bo hj)] at e2;obtain⟨u',r',q⟩:=hl j y v' e1 e2 e3;refine⟨u',r',?_⟩
    rcases q with q | ⟨k,c',e,z'⟩
    ·exact .inl q
    ·refine .inr ⟨k,c',e,z'.sameBut hs ?_⟩;rintro rfl;exact hj (nK hN e1 (I.ok.inj _ _ _ e hc ▸ hi))
  ·by_cases hcc:c'=c
   ·subst hcc;exact⟨_,hc'⟩
   ·obtain⟨w2,z2⟩:=I.cell y c' e;exact⟨w2,z2.sameBut hs hcc⟩
  ·obtain⟨e,n,ne,nf,d⟩:=I.pin p hp;refine⟨(hs.2 p.1 ?_).trans e,n,ne,nf,d⟩;intro q;rw[q,hoc] at e;have q':oc=p.2:=cr e;exact d w' (by rw[← q'];exact hocd)
theorem nO{i:Nat}{Q:Unit->Shared->Prop}(I:Inv X pins σ H s)(hN:X.N.Nodup)(hi:X.N[i]?=some x)(hx:Loc X.env.scope x)(r:RelV v u)
  (h:∀s',Inv X pins (σ.set i (some v)) H s'->Q () s') (hf:autoParam (X.fn x=true\/X.env.scope.names.lookup x=some .local) Z0_):wpAny M A (storeName X.env x u) Q E s :=
 nL I hN hi hx r (λ s' I' _=>h s' I') hf
theorem Inv.call'{s':Shared}(I:Inv X pins σ H s)(ho:s'.os=s.os)(u:Un (frs X.stack) ch H H' s.heap s'.heap)(hok:HOk X.prog X.w H' s'.heap)(hg:AllBare s'.gens)
  (hch:∀b∈ch,(b∈X.ex\/X.s₀.heap.objs.size≤b)/\b≠X.env.locals/\(∀x c,X.env.cells.lookup x=some c->c≠b)/\∀p∈X.pn++pins,p.1≠b):Inv X pins σ H' s':=by
 obtain⟨h',g',d',t',o'⟩:=s';have e:o'=s.os:=ho;subst e;exact I.call (g':=g') (t':=t') (d':=d') u hok hg hch
end
abbrev XK:=Value->OA->Hp->Prop
abbrev St:=List (Option V)
abbrev VK:=V->Hp->Prop
abbrev TE:=St->Hp->VK->Prop
abbrev TT:=St->Hp->(Bool->Hp->Prop)->Prop
abbrev TA:=St->Hp->(List V->Hp->Prop)->Prop
structure Ends where
 nx:St->Hp->Prop
 rt:VK
 bk:St->Hp->Prop:=λ _ _=>False
 ct:St->Hp->Prop:=λ _ _=>False
abbrev TS:=Ends->St->Hp->Prop
noncomputable def EP(X:Cx)(pins:LO)(σ:St)(Q:VK)(u:Value)(s':Shared):Prop:=∃v H',Inv X pins σ H' s'/\RelV v u/\Q v H'
noncomputable def TP(X:Cx)(pins:LO)(σ:St)(Q:Bool->Hp->Prop)(b:Bool)(s':Shared):Prop:=∃H',Inv X pins σ H' s'/\Q b H'
noncomputable def AP(X:Cx)(pins:LO)(σ:St)(Q:List V->Hp->Prop)(us:LV)(s':Shared):Prop:=∃vs H',Inv X pins σ H' s'/\Vals vs us/\Q vs H'
noncomputable def SP(X:Cx)(pins:LO)(D:Ends)(f:Flow)(s':Shared):Prop :=
 match f with
 | .next=>∃σ' H',Inv X pins σ' H' s'/\D.nx σ' H'
 | .brk=>∃σ' H',Inv X pins σ' H' s'/\D.bk σ' H'
 | .cont=>∃σ' H',Inv X pins σ' H' s'/\D.ct σ' H'
 | .ret u=>∃v σ' H',Inv X pins σ' H' s'/\RelV v u/\D.rt v H'
noncomputable def PE(X:Cx)(e:Expr)(t:TE):Prop :=
 ∀(pins:LO) (s:Shared) (σ:St) (H:Hp) (Q:VK),Inv X pins σ H s->t σ H Q->wpAny (model X.prog X.w) X.A (eval e X.env) (EP X pins σ Q) X.xe s
noncomputable def PT(X:Cx)(e:Expr)(t:TT):Prop :=
 ∀(pins:LO) (s:Shared) (σ:St) (H:Hp) (Q:Bool->Hp->Prop),Inv X pins σ H s->t σ H Q->wpAny (model X.prog X.w) X.A (isTrue e X.env (eval e X.env)) (TP X pins σ Q) X.xe s
noncomputable def PW(X:Cx)(e:Expr)(t:TT):Prop :=
 ∀(whole:Sem Value) (pins:LO) (s:Shared) (σ:St) (H:Hp) (Q:Bool->Hp->Prop),Inv X pins σ H s->t σ H Q->wpAny (model X.prog X.w) X.A (isTrue e X.env whole) (TP X pins σ Q) X.xe s
theorem PW.pt(h:PW X e t):PT X e t:=h _
noncomputable def PA(X:Cx)(es:List Expr)(t:TA):Prop :=
 ∀(pos:Pos) (pins:LO) (s:Shared) (σ:St) (H:Hp) (Q:List V->Hp->Prop),Inv X pins σ H s->t σ H Q->wpAny (model X.prog X.w) X.A (spliced (backTo pos (starEach es X.env))) (AP X pins σ Q) X.xe s
noncomputable def PS(X:Cx)(st:Stmt)(t:TS):Prop :=
 ∀(pins:LO) (s:Shared) (σ:St) (H:Hp) (D:Ends),Inv X pins σ H s->t D σ H->wpAny (model X.prog X.w) X.A (exec st X.env) (SP X pins D) X.xe s
noncomputable def PSs(X:Cx)(st:List Stmt)(t:TS):Prop :=
 ∀(pins:LO) (s:Shared) (σ:St) (H:Hp) (D:Ends),Inv X pins σ H s->t D σ H->wpAny (model X.prog X.w) X.A (execs st X.env) (SP X pins D) X.xe s
theorem thn{α:Type}{t:Sem α}{Q Q':α->Shared->Prop}(h:wpAny M A t Q E s)(hQ:∀a s,Q a s->Q' a s):wpAny M A t Q' E s:=bL h hQ λ _ _ x=>x
section
variable {X:Cx}
theorem bin(ha:PE X a ta)(hb:PE X b tb){R:V->V->Hp->Prop}(I:Inv X pins σ H s)(h:ta σ H λ x H1=>tb σ H1 λ y H2=>R x y H2)
  {α:Type}{Q:α->Shared->Prop}{f:Value->Value->Sem α}
  (hf:∀v u s2 x y H2,Inv X pins σ H2 s2->RelV x v->RelV y u->R x y H2->wpAny (model X.prog X.w) X.A (f v u) Q X.xe s2) :
  wpAny (model X.prog X.w) X.A (eval a X.env) (λ v s₁=>wpAny (model X.prog X.w) X.A (eval b X.env) (λ u s₂=>wpAny (model X.prog X.w) X.A (f v u) Q X.xe s₂) X.xe s₁) X.xe s:=by
 refine thn (ha pins s σ H _ I h) λ v s1 ⟨x,H1,I1,r1,q1⟩=>?_;refine thn (hb pins s1 σ H1 _ I1 q1) λ u s2 ⟨y,H2,I2,r2,q2⟩=>?_;exact hf v u s2 x y H2 I2 r1 r2 q2
noncomputable def isB(x:V)(P:Bool->Prop):Prop:=match x with | .bl k=>P k | _=>False
noncomputable def isI(x:V)(P:Int->Prop):Prop:=match x with | .int k=>P k | _=>False
noncomputable def nP(x y:V)(P:Int->Int->Prop):Prop:=match x,y with | .int i,.int j=>P i j | _,_=>False
theorem iP(h:isB x P):∃k,x=.bl k/\P k:=by cases x<;>first | exact⟨_,rfl,h⟩ | exact h.elim
theorem zw(h:isI x P):∃k,x=.int k/\P k:=by cases x<;>first | exact⟨_,rfl,h⟩ | exact h.elim
theorem nQ(h:nP x y P):∃i j,x=.int i/\y=.int j/\P i j:=by cases x<;>cases y<;>first | exact⟨_,_,rfl,rfl,h⟩ | exact h.elim
noncomputable def dX(i:Nat):TE:=λ σ H Q=>match σ[i]? with | some (some v)=>Q v H | _=>False
set_option tactic.hygienic true in
theorem zy(h:dX i σ H Q):∃v,σ[i]?=some (some v)/\Q v H:=by
 unfold dX at h;split at h
 ·rename_i v e;exact⟨v,e,h⟩
 ·exact h.elim
def tC(v:V):TE:=λ _ H Q=>Q v H
theorem gQ{i:Nat}(hN:X.N[i]?=some x)(hv:Vis X.env.scope x)(hd:autoParam ((x == ("__debug__" : Str))=false) Z1_)(hcd:autoParam ((x == ("__classdict__" : Str))=false) Z1_):PE X (.Name x pos) (dX i):=by
 intro pins s σ H Q I h;obtain⟨v,e,h⟩:=zy h;obtain⟨m,hn,hl⟩:=I.loc;obtain⟨u,r,l⟩:=hl i x v hN e hv;have fin:EP X pins σ Q u s:=⟨v,H,I,r,h⟩
 rcases l with ⟨hk,hm⟩ | ⟨hk,c,hc,hcell⟩
 ·exact wpAny_Name (wpAny_loadName_local I.ok.kind hk hn hm fin) hd
 ·rcases hk with hk | hk
  ·exact wpAny_Name (wpAny_loadName_cell I.ok.kind hk hc hcell fin) hd
  ·exact wpAny_Name (wpAny_loadName_free I.ok.kind hk hc hcell fin hcd) hd
theorem pe_int{i j pos}:PE X (.Constant (.int i) j pos) (tC (.int i)):=λ _ _ _ H _ I h=>wpAny_Constant_int ⟨.int i,H,I.tok _,⟨_,rfl⟩,h⟩
theorem pe_bl{b j pos}:PE X (.Constant (.bool b) j pos) (tC (.bl b)):=λ _ _ _ H _ I h=>Constant_bool ⟨.bl b,H,I,rfl,h⟩
theorem pe_non{j pos}:PE X (.Constant .none j pos) (tC .non):=λ _ _ _ H _ I h=>Constant_none ⟨.non,H,I,rfl,h⟩
theorem pe_str{x j pos}:PE X (.Constant (.str x) j pos) (tC (.str x)):=λ _ _ _ H _ I h=>s0l ⟨.str x,H,I.tok _,⟨_,rfl⟩,h⟩
noncomputable def Gl(X:Cx)(x:Str):Prop:=X.env.kindOf x=some .globalImplicit
theorem dY{Q:VS}(I:Inv X pins σ H s)(hg:Gl X x)(hm:X.mg x=some u)(h:Q u s)
  (hd:autoParam ((x == ("__debug__" : Str))=false) Z1_):wpAny (model X.prog X.w) X.A (eval (.Name x pos) X.env) Q E s :=
 sJ I.ok.kind hg (Calls.loadGlobal_global (by rw[I.ok.glob];exact I.mod.glob.keeps I.bk) hm h) hd
theorem eQ{Q:VS}(I:Inv X pins σ H s)(hg:Gl X x)(hm:X.mg x=none)(hv:bootBuiltins x=some u)(h:Q u s)
  (hn:x ≠ "__name__" := by decide) (hd:autoParam ((x == ("__debug__" : Str))=false) Z1_):wpAny (model X.prog X.w) X.A (eval (.Name x pos) X.env) Q E s:=by
 obtain⟨mb,h1,h2⟩:=I.mod.blt;exact sJ I.ok.kind hg (Calls.loadGlobal_builtin (by rw[I.ok.glob];exact I.mod.glob.keeps I.bk) hm (by rw[I.ok.blt];exact h1.keeps I.bk) ((h2 x hn).trans hv) h) hd
theorem zA(hg:Gl X x)(hm:X.mg x=some u)(r:RelV v u)(hd:autoParam ((x == ("__debug__" : Str))=false) Z1_):PE X (.Name x pos) (tC v) :=
 λ _ _ _ H _ I h=>dY I hg hm ⟨v,H,I,r,h⟩ hd
theorem zB(hg:Gl X x)(hm:X.mg x=none)(hv:bootBuiltins x=some u)(r:RelV v u)(hn:x ≠ "__name__" := by decide)(hd:autoParam ((x == ("__debug__" : Str))=false) Z1_):PE X (.Name x pos) (tC v) :=
 λ _ _ _ H _ I h=>eQ I hg hm hv ⟨v,H,I,r,h⟩ hn hd
variable {a b:Expr}{ta tb:TE}{pos:Pos}
def tB(t:TE):TT:=λ σ H Q=>t σ H λ x H1=>isB x λ c=>Q c H1
theorem zD(h:PE X e t)(he:autoParam (∀whole,isTrue e X.env whole=(do let v ← whole;standAt e.pos;holding [v] (truthy v))) Z2_):PT X e (tB t):=by
 intro pins s σ H Q I hw;refine isTrue_plain (thn (h pins s σ H _ I hw) λ v s1 ⟨x,H1,I1,r1,q1⟩=>?_) (he _);obtain⟨d,rfl,q⟩:=iP q1;cases r1;exact eR ⟨H1,I1,q⟩
variable {tA tB':TT}{rest:List Expr}
noncomputable def zE(t u:TT):TT:=λ σ H Q=>t σ H λ c H1=>if c=true then u σ H1 Q else Q false H1
noncomputable def tOr(t u:TT):TT:=λ σ H Q=>t σ H λ c H1=>if c=true then Q true H1 else u σ H1 Q
def zF(t:TT):TT:=λ σ H Q=>t σ H λ c H1=>Q (!c) H1
theorem zG(ha:PT X a tA):PW X (.BoolOp .And [a] pos) tA:=by
 intro wh pins s σ H Q I h;refine isTrue_and (thn (ha pins s σ H Q I h) λ c s1 e=>?_)
 cases c with
 | true=>exact isTrue_and_nil e
 | false=>exact e
theorem zH(ha:PT X a tA):PW X (.BoolOp .Or [a] pos) tA:=by
 intro wh pins s σ H Q I h;refine isTrue_or (thn (ha pins s σ H Q I h) λ c s1 e=>?_)
 cases c with
 | false=>exact isTrue_or_nil e
 | true=>exact e
theorem zI(ha:PT X a tA)(hb:PW X (.BoolOp .And (b::rest) pos) tB'):PW X (.BoolOp .And (a::b::rest) pos) (zE tA tB'):=by
 intro wh pins s σ H Q I h;refine isTrue_and (thn (ha pins s σ H _ I h) λ c s1 ⟨H1,I1,q1⟩=>?_)
 cases c with
 | true=>exact hb wh pins s1 σ H1 Q I1 q1
 | false=>exact⟨H1,I1,q1⟩
theorem zJ(ha:PT X a tA)(hb:PW X (.BoolOp .Or (b::rest) pos) tB'):PW X (.BoolOp .Or (a::b::rest) pos) (tOr tA tB'):=by
 intro wh pins s σ H Q I h;refine isTrue_or (thn (ha pins s σ H _ I h) λ c s1 ⟨H1,I1,q1⟩=>?_)
 cases c with
 | true=>exact⟨H1,I1,q1⟩
 | false=>exact hb wh pins s1 σ H1 Q I1 q1
theorem zK(ha:PT X a tA):PT X (.UnaryOp .Not a pos) (zF tA):=by
 intro pins s σ H Q I h;exact isTrue_not (ha pins s σ H (λ c H1=>Q (!c) H1) I h)
noncomputable def zM(ta tb:TE):TE:=λ σ H Q=>ta σ H λ x H1=>isB x λ c=>if c=true then tb σ H1 Q else Q (.bl false) H1
noncomputable def zN(ta tb:TE):TE:=λ σ H Q=>ta σ H λ x H1=>isB x λ c=>if c=true then Q (.bl true) H1 else tb σ H1 Q
noncomputable def zO(ta:TE):TE:=λ σ H Q=>ta σ H λ x H1=>∃c,x=.bl c/\Q (.bl (!c)) H1
theorem sK{op}(h:PE X a t):PE X (.BoolOp op [a] pos) t:=λ pins s σ H Q I hw=>BoolOp_one (h pins s σ H Q I hw)
theorem zP(ha:PE X a ta)(hb:PE X (.BoolOp .And (b::rest) pos) tb):PE X (.BoolOp .And (a::b::rest) pos) (zM ta tb):=by
 intro pins s σ H Q I h;refine BoolOp_and (thn (ha pins s σ H _ I h) λ v s1 ⟨x,H1,I1,r1,q1⟩=>?_);obtain⟨c,rfl,q1⟩:=iP q1;cases r1;refine eR ?_
 cases c with
 | true=>exact hb pins s1 σ H1 Q I1 q1
 | false=>exact⟨.bl false,H1,I1,rfl,q1⟩
theorem zQ(ha:PE X a ta)(hb:PE X (.BoolOp .Or (b::rest) pos) tb):PE X (.BoolOp .Or (a::b::rest) pos) (zN ta tb):=by
 intro pins s σ H Q I h;refine BoolOp_or (thn (ha pins s σ H _ I h) λ v s1 ⟨x,H1,I1,r1,q1⟩=>?_);obtain⟨c,rfl,q1⟩:=iP q1;cases r1;refine eR ?_
 cases c with
 | false=>exact hb pins s1 σ H1 Q I1 q1
 | true=>exact⟨.bl true,H1,I1,rfl,q1⟩
theorem zR(ha:PE X a ta):PE X (.UnaryOp .Not a pos) (zO ta):=by
 intro pins s σ H Q I h;refine UnaryOp_ (thn (ha pins s σ H _ I h) λ v s1 ⟨x,H1,I1,r1,q1⟩=>?_);obtain⟨c,rfl,q1⟩:=q1;cases r1;exact not_of (eR ⟨.bl (!c),H1,I1,rfl,q1⟩)
noncomputable def tIf(t:TT)(ta tb:TE):TE:=λ σ H Q=>t σ H λ c H1=>if c=true then ta σ H1 Q else tb σ H1 Q
theorem zT(hc:PT X c tA)(ha:PE X a ta)(hb:PE X b tb):PE X (.IfExp c a b pos) (tIf tA ta tb):=by
 intro pins s σ H Q I h;refine wpAny_IfExp (thn (hc pins s σ H _ I h) λ d s1 ⟨H1,I1,q1⟩=>?_)
 cases d with
 | true=>exact ha pins s1 σ H1 Q I1 q1
 | false=>exact hb pins s1 σ H1 Q I1 q1
end
noncomputable def SqL(K:FG)(H:Hp)(a:Addr)(xs:List V):Prop :=
 Rd H a (.lst xs) \/
  ∃(o:Obj) (its:Array Value) (n:Nat),K.lookup a=some o/\o.cls=.type "list" /\ o.dict=none/\o.data=.seq its n/\its.size≤sizeLine/\Vals xs its.toList
noncomputable def SqT(K:FG)(H:Hp)(a:Addr)(xs:List V):Prop :=
 Rd H a (.tup xs) \/
  ∃(o:Obj) (its:Array Value) (n:Nat),K.lookup a=some o/\o.cls=.type "tuple" /\ o.dict=none/\o.data=.seq its n/\its.size≤sizeLine/\Vals xs its.toList
noncomputable def zU:Value->Option V
 | .none=>some .non
 | .bool b=>some (.bl b)
 | .int i _=>some (.int i)
 | .str x _=>some (.str x)
 | .bytes b _=>some (.byt b)
 | .float b _=>some (.flt b)
 | .ref a=>some (.ref a)
 | .type n=>some (.ty n)
 | _=>none
theorem RelV.abs(r:RelV x u):zU u=some x:=by
 cases x with
 | non=>cases r;rfl
 | bl _=>cases r;rfl
 | int _=>obtain⟨t,rfl⟩:=r;rfl
 | str _=>obtain⟨t,rfl⟩:=r;rfl
 | byt _=>obtain⟨t,rfl⟩:=r;rfl
 | flt _=>obtain⟨t,rfl⟩:=r;rfl
 | ref _=>cases r;rfl
 | ty _=>cases r;rfl
theorem RelV.inj(r:RelV x u)(q:RelV y u):x=y:=cr (r.abs.symm.trans q.abs)
theorem Vals.inj:∀ {xs ys:List V}{us:LV},Vals xs us->Vals ys us->xs=ys
 | _,_,_,.nil,.nil=>rfl
 | _,_,_,.cons r t,.cons r' t'=>by rw[r.inj r',Vals.inj t t']
section
variable {X:Cx}{pins:LO}{σ:St}{H:Hp}{s:Shared}{a:Addr}{xs ys:List V}
theorem SqL.of{K:FG}(h:H a=some (.lst xs)):SqL K H a xs:=.inl (.inl h)
theorem SqT.of{K:FG}(h:H a=some (.tup xs)):SqT K H a xs:=.inl (.inl h)
theorem Inv.list(I:Inv X pins σ H s)(h:SqL X.K H a xs):∃its:LV,Vals xs its/\PlainL s.heap a its.toArray/\xs.length≤sizeLine:=by
 rcases h with h | ⟨o,its,n,hk,hc,hd,hs,hz,r⟩
 ·obtain⟨z,its,n,r,e⟩:=h.ok I.hok;exact⟨its,r,⟨_,n,e,rfl,rfl,rfl⟩,z⟩
 ·refine⟨its.toList,r,⟨o,n,I.kIn a o hk,hc,hd,by simpa using hs⟩,?_⟩;have e:=r.length;simp only[Array.length_toList] at e;lia
theorem Inv.tuple(I:Inv X pins σ H s)(h:SqT X.K H a xs):∃its:LV,Vals xs its/\IsTup s.heap a its.toArray/\xs.length≤sizeLine:=by
 rcases h with h | ⟨o,its,n,hk,hc,_,hs,hz,r⟩
 ·obtain⟨z,its,r,p⟩:=h.ok I.hok;exact⟨its,r,p.tup,z⟩
 ·refine⟨its.toList,r,⟨o,I.kIn a o hk,hc,n,by simpa using hs⟩,?_⟩;have e:=r.length;simp only[Array.length_toList] at e;lia
theorem Inv.list_inj(I:Inv X pins σ H s)(h:SqL X.K H a xs)(h':SqL X.K H a ys):xs=ys:=by
 obtain⟨its,r,⟨o,n,e,_,_,d⟩,_⟩:=I.list h;obtain⟨its',r',⟨o',n',e',_,_,d'⟩,_⟩:=I.list h';rw[e] at e';cases e';rw[d] at d'
 injection d' with d1 _
 have:its=its':=by simpa using bF Array.toList d1
 subst this;exact r.inj r'
theorem Inv.tuple_inj(I:Inv X pins σ H s)(h:SqT X.K H a xs)(h':SqT X.K H a ys):xs=ys:=by
 obtain⟨its,r,⟨o,e,_,n,d⟩,_⟩:=I.tuple h;obtain⟨its',r',⟨o',e',_,n',d'⟩,_⟩:=I.tuple h';rw[e] at e';cases e';rw[d] at d'
 injection d' with d1 _
 have:its=its':=by simpa using bF Array.toList d1
 subst this;exact r.inj r'
end
abbrev Cx.wish(X:Cx)(E:VS):Cx:={ X with xe:=E }
abbrev Cx.nox(X:Cx):Cx:=X.wish λ _ _=>False
theorem Cx.Ok.wish{X:Cx}(ok:X.Ok)(E:VS):(X.wish E).Ok :=
 ⟨ok.mod,ok.kind,ok.glob,ok.blt,ok.above,ok.inj,ok.has,ok.cab,ok.hd,ok.frames,ok.stk,ok.exf,ok.bs,ok.bsz,ok.noex,ok.exfs,ok.funs,ok.frf⟩
theorem Cx.Ok.unwish{X:Cx}(ok:(X.wish E).Ok):X.Ok :=
 ⟨ok.mod,ok.kind,ok.glob,ok.blt,ok.above,ok.inj,ok.has,ok.cab,ok.hd,ok.frames,ok.stk,ok.exf,ok.bs,ok.bsz,ok.noex,ok.exfs,ok.funs,ok.frf⟩
section
variable {X:Cx}{pins:LO}{σ:St}{H:Hp}{s:Shared}{E:VS}
theorem Inv.wish(I:Inv X pins σ H s)(E:VS):Inv (X.wish E) pins σ H s:=⟨I.ok.wish E,I.os,I.bare,I.base,I.loc,I.cell,I.free,I.freeC,I.pin,I.hok,I.len⟩
theorem Inv.unwish(I:Inv (X.wish E) pins σ H s):Inv X pins σ H s:=⟨I.ok.unwish,I.os,I.bare,I.base,I.loc,I.cell,I.free,I.freeC,I.pin,I.hok,I.len⟩
theorem SP.unwish(h:SP (X.wish E) pins D f s'):SP X pins D f s':=by
 cases f with
 | next=>obtain⟨σ',H',I,q⟩:=h;exact⟨σ',H',I.unwish,q⟩
 | brk=>obtain⟨σ',H',I,q⟩:=h;exact⟨σ',H',I.unwish,q⟩
 | cont=>obtain⟨σ',H',I,q⟩:=h;exact⟨σ',H',I.unwish,q⟩
 | ret u=>obtain⟨v,σ',H',I,r,q⟩:=h;exact⟨v,σ',H',I.unwish,r,q⟩
theorem PSs.nox{st:List Stmt}(h:PSs X.nox st t):PSs X st t:=λ pins s σ H D I hw =>
 bL (h pins s σ H D (I.wish _) hw) (λ _ _ q=>q.unwish) λ _ _ z=>False.elim z
end
section
variable {X:Cx}{st:Stmt}{rest:List Stmt}{t u:TS}{e:Expr}{te:TE}{pos:Pos}
def sM:TS:=λ D σ H=>D.nx σ H
def sO(t u:TS):TS:=λ D σ H=>t { D with nx:=u D } σ H
theorem pss_nil:PSs X [] sM:=λ _ _ σ H _ I h=>iQ ⟨σ,H,I,h⟩
theorem bS(h1:PS X st t)(h2:PSs X rest u):PSs X (st::rest) (sO t u):=by
 intro pins s σ H D I h;refine wpAny_execs_cons (thn (h1 pins s σ H { D with nx:=u D } I h) λ f s1 q=>?_)
 cases f with
 | next =>
  obtain⟨σ',H',I',q⟩:=q;exact h2 pins s1 σ' H' D I' q
 | ret v=>exact q
 | brk=>exact q
 | cont=>exact q
theorem lh(h1:PS X st t):PSs X [st] t:=by
 intro pins s σ H D I h;refine wpAny_execs_cons (thn (h1 pins s σ H D I h) λ f s1 q=>?_)
 cases f with
 | next=>exact iQ q
 | ret v=>exact q
 | brk=>exact q
 | cont=>exact q
theorem Inv.quiet(I:Inv X pins σ H s):interactive X.env=false:=by simp[interactive,I.ok.kind]
theorem sP{x j pos pos'}:PS X (.Expr (.Constant (.str x) j pos) pos') sM:=λ _ s σ H _ I h=>wpAny_Expr (s0l (show SP X _ _ .next { s with toks:=s.toks+1 } from ⟨σ,H,I.tok _,h⟩)) I.quiet
def zV(te:TE):TS:=λ D σ H=>te σ H λ _ H1=>D.nx σ H1
theorem jJ(he:PE X e te)(hs:autoParam (swapsWith e none pos.line X.env=pure false) Z3_):PS X (.Expr e pos) (zV te):=by
 intro pins s σ H D I h;exact wpAny_Expr_any (thn (he pins s σ H _ I h) λ v s1 ⟨x,H1,I1,r1,q1⟩=>⟨σ,H1,I1,q1⟩) I.quiet hs
def zW(te:TE):TS:=λ D σ H=>te σ H D.rt
theorem nR(he:PE X e te):PS X (.Return (some e) pos) (zW te):=by
 intro pins s σ H D I h;exact wpAny_Return_some (thn (he pins s σ H _ I h) λ v s1 ⟨x,H1,I1,r1,q1⟩=>⟨x,σ,H1,I1,r1,q1⟩)
noncomputable def zX(c:TT)(t u:TS):TS:=λ D σ H=>c σ H λ b H1=>if b=true then t D σ H1 else u D σ H1
theorem sQ(hc:PT X c tc)(ha:PSs X a t)(hb:PSs X b u):PS X (.If c a b pos) (zX tc t u):=by
 intro pins s σ H D I h;refine wpAny_If (thn (hc pins s σ H _ I h) λ d s1 ⟨H1,I1,q1⟩=>?_)
 cases d with
 | true=>exact ha pins s1 σ H1 D I1 q1
 | false=>exact hb pins s1 σ H1 D I1 q1
def zY:TS:=λ _ _ _=>False
theorem pss_never:PSs X sts zY:=λ _ _ _ _ _ _ h=>h.elim
end
abbrev TG:=V->St->Hp->(St->Hp->Prop)->Prop
abbrev TGs:=List V->St->Hp->(St->Hp->Prop)->Prop
noncomputable def PG(X:Cx)(target:Expr)(t:TG):Prop :=
 ∀(pins:LO) (s:Shared) (σ:St) (H:Hp) (v:V) (u:Value) (Q:St->Hp->Prop),Inv X pins σ H s->RelV v u->t v σ H Q ->
  wpAny (model X.prog X.w) X.A (assign target X.env u) (λ _ s'=>∃σ' H',Inv X pins σ' H' s'/\Q σ' H') X.xe s
noncomputable def PGs(X:Cx)(ts:List Expr)(t:TGs):Prop :=
 ∀(pins:LO) (s:Shared) (σ:St) (H:Hp) (vs:List V) (us:LV) (Q:St->Hp->Prop),Inv X pins σ H s->Vals vs us->t vs σ H Q ->
  wpAny (model X.prog X.w) X.A (assignInOrder ((assignEach ts X.env).map (·.2)) us) (λ _ s'=>∃σ' H',Inv X pins σ' H' s'/\Q σ' H') X.xe s
abbrev sU:=V->V->V->Hp->(Hp->Prop)->Prop
noncomputable def sV(X:Cx)(t:sU):Prop :=
 ∀(pins:LO) (s:Shared) (σ:St) (H:Hp) (o i v:V) (ov iv u:Value) (Q:Hp->Prop),Inv X pins σ H s->RelV o ov->RelV i iv->RelV v u->t o i v H Q ->
  wpAny (model X.prog X.w) X.A (setItem ov iv u) (λ _ s'=>∃H',Inv X pins σ H' s'/\Q H') X.xe s
section
variable {X:Cx}{pos:Pos}
def cW(i:Nat):TG:=λ v σ H Q=>Q (σ.set i (some v)) H
theorem sW{i:Nat}(hN:X.N.Nodup)(hi:X.N[i]?=some x)(hx:Loc X.env.scope x)(hf:autoParam (X.fn x=true\/X.env.scope.names.lookup x=some .local) Z0_):PG X (.Name x pos) (cW i):=by
 intro pins s σ H v u Q I r h;exact wpAny_assign_Name (nO I hN hi hx r (λ s' I'=>⟨_,H,I',h⟩) hf)
def nU:TGs:=λ vs σ H Q=>vs=[]/\Q σ H
noncomputable def iR(t:TG)(u:TGs):TGs:=λ vs σ H Q=>∃v r,vs=v::r/\t v σ H λ σ' H'=>u r σ' H' Q
theorem sY:PGs X [] nU:=by
 intro pins s σ H vs us Q I r h;obtain⟨e,h⟩:=h;subst e;cases r;exact assignInOrder_nil ⟨σ,H,I,h⟩
theorem jK(h1:PG X e t)(h2:PGs X es u)
  (hs:autoParam ((assignEach (e::es) X.env).map (·.2)=assign e X.env::(assignEach es X.env).map (·.2)) Z3_):PGs X (e::es) (iR t u):=by
 intro pins s σ H vs us Q I r h;obtain⟨v,vr,e1,h⟩:=h;subst e1
 cases r with
 | cons r rr =>
  rw[hs];refine assignInOrder_cons (thn (h1 pins s σ H _ _ _ I r h) λ _ s1 ⟨σ1,H1,I1,q1⟩=>?_);exact h2 pins s1 σ1 H1 _ _ Q I1 rr q1
noncomputable def nV(K:FG)(n:Nat)(t:TGs):TG:=λ v σ H Q=>∃a xs,v=.ref a/\SqT K H a xs/\xs.length=n/\t xs σ H Q
theorem sZ{n:Nat}(hc:X.calm=true)(h:PGs X es t)
  (hn:autoParam ((assignEach es X.env).length=n) Z3_) (hst:autoParam ((assignEach es X.env).findIdx? (·.1)=none) Z3_):PG X (.Tuple es k pos) (nV X.K n t):=by
 intro pins s σ H v u Q I r hw;obtain⟨a,xs,e1,hq,hl,hw⟩:=hw;subst e1;cases r;obtain⟨its,rv,ht,hz⟩:=I.tuple hq;refine assign_Tuple_tuple (I.ok.hd hc) ht (by simp[hn,← hl,rv.length]) hst λ h' hx=>?_;have I1:Inv X pins σ H { s with heap:=h' }:=I.kept (t':=s.toks) λ b o e=>hx b o (aZ (az e)) e;exact h pins _ σ H xs _ Q I1 (by simpa using rv) hw
noncomputable def zZ(to ti:TE)(t:sU):TG:=λ v σ H Q=>to σ H λ o H1=>ti σ H1 λ i H2=>t o i v H2 λ H3=>Q σ H3
theorem Aa(ho:PE X o to)(hi:PE X i ti)(hs:sV X t)
  (ha:∀v,assign (.Subscript o i pos) X.env v=(do
   let ov ← holding [v] (eval o X.env)
   let iv ← holding [v,ov] (eval i X.env)
   standAt pos
   holding [v,ov,iv] (setItem ov iv v)
   release [v,ov,iv] []):=by intro _;rfl):PG X (.Subscript o i pos) (zZ to ti t):=by
 intro pins s σ H v u Q I r h;rw[ha];refine ae (cu (thn (ho pins s σ H _ I h) λ ov s1 ⟨x,H1,I1,r1,q1⟩=>?_));refine ae (cu (thn (hi pins s1 σ H1 _ I1 q1) λ iv s2 ⟨y,H2,I2,r2,q2⟩=>?_));refine ae (fE (ae (cu (thn (hs pins s2 σ H2 x y v ov iv u _ I2 r1 r2 r q2) λ _ s3 ⟨H3,I3,q3⟩=>?_))));exact wpAny_release ⟨σ,H3,I3,q3⟩
noncomputable def gR(te:TE)(g:TG):TS:=λ D σ H=>te σ H λ x H1=>g x σ H1 D.nx
theorem tj(he:PE X e te)(hg:PG X tg g)(hs:autoParam (swapsWithSole [tg] e pos.line X.env=pure false) Z3_)(hw:autoParam (swappedStores [tg] e X.env=pure none) Z3_)
  (h1:autoParam ((assignEach [tg] X.env).map (·.2)=[assign tg X.env]) Z3_):PS X (.Assign [tg] e pos) (gR te g):=by
 intro pins s σ H D I h;refine wpAny_Assign_stores (thn (he pins s σ H _ I h) λ v s1 ⟨x,H1,I1,r1,q1⟩=>?_) hs hw;rw[h1];exact thn (hg pins s1 σ H1 x v _ I1 r1 q1) λ _ s2 q=>q
theorem nW{i:Nat}(hN:X.N.Nodup)(hi:X.N[i]?=some x)(hx:Loc X.env.scope x)(he:PE X e te)(hs:autoParam (swapsWith e (some (.Name x pos')) pos.line X.env=pure false) Z3_)(hf:autoParam (X.fn x=true\/X.env.scope.names.lookup x=some .local) Z0_) :
  PS X (.Assign [.Name x pos'] e pos) (gR te (cW i)):=by
 intro pins s σ H D I h;refine wpAny_Assign_Name (thn (he pins s σ H _ I h) λ v s1 ⟨y,H1,I1,r1,q1⟩=>?_) hs;exact nO I1 hN hi hx r1 (λ s2 I2=>⟨_,H1,I2,q1⟩) hf
end
section
variable {X:Cx}{pos:Pos}
end
structure It where
 go:Nat->Hp->Prop
 yld:Nat->Hp->V->Hp->Prop
 stop:Nat->Hp->Prop
noncomputable def gS(X:Cx)(pins:LO)(H:Hp)(b:Addr):Prop :=
 H b=none/\b≠X.env.locals/\b ∉ X.fs/\(b∈X.ex\/X.s₀.heap.objs.size≤b)/\(∀x c,X.env.cells.lookup x=some c->c≠b)/\∀p∈X.pn++pins,p.1≠b
theorem Inv.fpOk{H H':Hp}{b:Addr}(I:Inv X pins σ H s)(hb:s.heap.objs.size≤b)(hn:H' b=none):gS X pins H' b:=by
 refine⟨hn,jL (bO I.lt hb),I.nofs hb,.inr (bK I.sz hb),λ x c e z=>?_,λ p hp z=>?_⟩
 ·obtain⟨v,q⟩:=I.cell x c e;exact absurd (bO q.lt (by rw[z];exact hb)) (ce _)
 ·exact absurd (bO (az (I.pin p hp).1) (by rw[z];exact hb)) (ce _)
structure Turn (P:Program)(w:World)(K:FG)(tg:Expr)(J:It)(fp:List Addr)(it:Addr)(tn:Nat->Heap->Prop):Prop where
 mem:it∈fp
 obj:∀i h,tn i h->∀b∈fp,∃o,h.get? b=some o/\∀v,o.data≠.cell v
 keep:∀i h h',tn i h->(∀b∈fp,∀o,h.get? b=some o->h'.get? b=some o)->tn i h'
 item:∀(X:Cx),X.prog=P->X.w=w->X.K=K->X.calm=true->∀(i:Nat) (pins:LO) (s:Shared) (σ:St) (H:Hp) (E:VS),Inv X pins σ H s->(∀b∈fp,gS X pins H b)->tn i s.heap->J.go i H ->
  wpAny (model P w) X.A (pyNext (.ref it)) (λ r s1=>∃u,r=some u /\
   wpAny (model P w) X.A (letOwnedTupleGo tg (.ref it) u) (λ _ s2=>∃x H',Inv X pins σ H' s2/\RelV x u/\J.yld i H x H'/\tn (i+1) s2.heap/\∀b∈fp,H' b=none) E s1) E s
 done:∀(X:Cx),X.prog=P->X.w=w->X.K=K->X.calm=true->∀(i:Nat) (pins:LO) (s:Shared) (σ:St) (H:Hp) (E:VS),Inv X pins σ H s->(∀b∈fp,gS X pins H b)->tn i s.heap->J.stop i H ->
  wpAny (model P w) X.A (pyNext (.ref it)) (λ r s1=>r=none/\Inv X pins σ H s1) E s
 self:∀(A:Around) (i:Nat) (s:Shared) (Q:VS) (E:VS),tn i s.heap->Q (.ref it) s->wpAny (model P w) A (pyIter (.ref it)) Q E s
abbrev TI:=St->Hp->(It->Hp->Prop)->Prop
noncomputable def PIE(X:Cx)(pins:LO)(σ:St)(tg:Expr)(R:It->Hp->Prop)(itv:Value)(s2:Shared):Prop :=
 ∃(it:Addr) (fp:List Addr) (tn:Nat->Heap->Prop) (J:It) (H':Hp),itv=.ref it/\Inv X pins σ H' s2/\Turn X.prog X.w X.K tg J fp it tn/\tn 0 s2.heap/\(∀b∈fp,gS X pins H' b)/\R J H'
noncomputable def PI(X:Cx)(tg iter:Expr)(wi:TI):Prop :=
 ∀(pins:LO) (s:Shared) (σ:St) (H:Hp) (R:It->Hp->Prop),Inv X pins σ H s->wi σ H R ->
  wpAny (model X.prog X.w) X.A (eval iter X.env) (λ v s1=>wpAny (model X.prog X.w) X.A (pyIter v) (PIE X pins σ tg R) X.xe s1) X.xe s
theorem nX{s:Shared}{it:Addr}{vs:Array Value}{Q:Unit->Shared->Prop}(ho:s.heap.get? it=some o)(hc:o.cls=.type n)(hd:o.data=.fields vs)
    (hn:["enumerate","zip","dict_itemiterator","dict_reverseitemiterator","odict_iterator","itertools.zip_longest","itertools.pairwise"].contains n=false) (hQ:Q () s):wpAny M A (letOwnedTupleGo tg (.ref it) u) Q E s:=by
  unfold letOwnedTupleGo
  cases tg<;>first
    | exact ak hQ
    | (cases u<;>first
        | exact ak hQ
        | (refine ae (jM ho ?_)
           rw[hc,hd];show wpAny M A (if (["enumerate","zip","dict_itemiterator","dict_reverseitemiterator","odict_iterator","itertools.zip_longest","itertools.pairwise"].contains n && vs[0]? == some (rawInt _))=true then _ else _) Q E s;rw[if_neg (by intro h;rw[hn,nY] at h;cases h)]
           exact ak hQ))
noncomputable def Itl(K:FG)(a:Addr):It :=
 ⟨λ i H=>∃xs x,SqL K H a xs/\xs[i]?=some x,λ i H x H'=>H'=H/\∀xs,SqL K H a xs->xs[i]?=some x,λ i H=>∃xs,SqL K H a xs/\xs.length≤i⟩
noncomputable def Itt(K:FG)(a:Addr):It :=
 ⟨λ i H=>∃xs x,SqT K H a xs/\xs[i]?=some x,λ i H x H'=>H'=H/\∀xs,SqT K H a xs->xs[i]?=some x,λ i H=>∃xs,SqT K H a xs/\xs.length≤i⟩
noncomputable def Itr(lo:Int)(n:Nat):It:=⟨λ i _=>i < n,λ i H x H'=>H'=H/\x=.int (lo+i),λ i _=>n≤i⟩
theorem Ab{K:FG}(a it:Addr):Turn P w K tg (Itl K a) [it] it (λ i h=>h.IsListIter it a i) where
 mem:=by simp
 obj:=λ i h st b hb=>by
  have e:b=it:=by simpa using hb
  subst e;obtain⟨o,e,c,d⟩:=st;exact⟨o,e,λ v z=>by rw[d] at z;cases z⟩
 keep:=λ i h h' st k=>st.at λ o e=>k it (by simp) o e
 item:=by
  intro X hP hw hK hc i pins s σ H E I hf st hg;subst hP hw hK;obtain⟨xs,x,hq,hx⟩:=hg;obtain⟨its,rv,p,hz⟩:=I.list hq;obtain⟨u,hu,ru⟩:=rv.get hx;obtain⟨f0,f1,f2,f3,f4,f5⟩:=hf it (by simp);refine wpAny_pyNext_list_item st p.isList (x:=u) (by simpa using hu) λ h' st' sb=>?_;have I1:Inv X pins σ H { s with heap:=h' }:=I.turned (t':=s.toks) (λ b o hb e=>(sb.2 b hb).trans e) f0 f1 f3 f4 f5;obtain⟨o,e,c,d⟩:=id st';exact⟨u,rfl,nX (s:={ s with heap:=h' }) e c d (by decide) ⟨x,H,I1,ru,⟨rfl,λ ys hy=>by rw[I.list_inj hy hq];exact hx⟩,st',λ b hb=>(hf b hb).1⟩⟩
 done:=by
  intro X hP hw hK hc i pins s σ H E I hf st hg;subst hP hw hK;obtain⟨xs,hq,hx⟩:=hg;obtain⟨its,rv,p,hz⟩:=I.list hq;obtain⟨f0,f1,f2,f3,f4,f5⟩:=hf it (by simp);have hl:=rv.length;exact wpAny_pyNext_list_end (I.ok.hd hc) st p.isList (by simp;lia) λ h' eb=>⟨rfl,I.turned (t':=s.toks) (λ b o hb e=>eb b o hb e) f0 f1 f3 f4 f5⟩
 self:=λ _ _ _ _ _ st h=>wpAny_pyIter_listiter st h
theorem Ac{K:FG}(a it:Addr):Turn P w K tg (Itt K a) [it] it (λ i h=>h.IsTupleIter it a i) where
 mem:=by simp
 obj:=λ i h st b hb=>by
  have e:b=it:=by simpa using hb
  subst e;obtain⟨o,e,c,d⟩:=st;exact⟨o,e,λ v z=>by rw[d] at z;cases z⟩
 keep:=λ i h h' st k=>st.at λ o e=>k it (by simp) o e
 item:=by
  intro X hP hw hK hc i pins s σ H E I hf st hg;subst hP hw hK;obtain⟨xs,x,hq,hx⟩:=hg;obtain⟨its,rv,p,hz⟩:=I.tuple hq;obtain⟨u,hu,ru⟩:=rv.get hx;obtain⟨f0,f1,f2,f3,f4,f5⟩:=hf it (by simp);refine wpAny_pyNext_tuple_item st (show s.heap.IsTuple a its.toArray from p) (x:=u) (by simpa using hu) λ h' st' sb=>?_;have I1:Inv X pins σ H { s with heap:=h' }:=I.turned (t':=s.toks) (λ b o hb e=>(sb.2 b hb).trans e) f0 f1 f3 f4 f5;obtain⟨o,e,c,d⟩:=id st';exact⟨u,rfl,nX (s:={ s with heap:=h' }) e c d (by decide) ⟨x,H,I1,ru,⟨rfl,λ ys hy=>by rw[I.tuple_inj hy hq];exact hx⟩,st',λ b hb=>(hf b hb).1⟩⟩
 done:=by
  intro X hP hw hK hc i pins s σ H E I hf st hg;subst hP hw hK;obtain⟨xs,hq,hx⟩:=hg;obtain⟨its,rv,p,hz⟩:=I.tuple hq;obtain⟨f0,f1,f2,f3,f4,f5⟩:=hf it (by simp);have hl:=rv.length;exact wpAny_pyNext_tuple_end (I.ok.hd hc) st (show s.heap.IsTuple a its.toArray from p) (by simp;lia) λ h' eb=>⟨rfl,I.turned (t':=s.toks) (λ b o hb e=>eb b o hb e) f0 f1 f3 f4 f5⟩
 self:=λ _ _ _ _ _ st h=>wpAny_pyIter_tupleiter st h
theorem Ad{K:PySem.W.Frag}(it:Addr)(lo:Int)(n:Nat):Turn P w K tg (Itr lo n) [it] it (λ i h=>IsRangeIter h it (lo+(i:Nat) * 1) ((n:Int) - (i:Nat)) 1) where
 mem:=by simp
 obj:=λ i h st b hb=>by
  have e:b=it:=by simpa using hb
  subst e
  exact⟨_,st,λ v z=>by
   have z':Data.fields _=Data.cell v:=z
   cases z'⟩
 keep:=λ i h h' st k=>k it (by simp) _ st
 item:=by
  intro X hP hw hK hc i pins s σ H E I hf st hg;subst hP hw hK;obtain⟨f0,f1,f2,f3,f4,f5⟩:=hf it (by simp);have W:=Walks.range (prog:=X.prog) (w:=X.w) (I.ok.hd hc) it lo 1 n;refine W.item i s _ _ hg st λ v h' tk hv st' kk=>?_;obtain⟨t,rfl⟩:=hv;have I1:Inv X pins σ H { s with heap:=h',toks:=tk }:=I.turned (λ b o hb e=>kk b o (by simpa using hb) e) f0 f1 f3 f4 f5;refine⟨_,rfl,nX (s:={ s with heap:=h',toks:=tk }) (n := "range_iterator") st' rfl rfl (by decide) ⟨.int (lo+i),H,I1,⟨t,?_⟩,⟨rfl,rfl⟩,st',λ b hb=>(hf b hb).1⟩⟩;rw[lj]
 done:=by
  intro X hP hw hK hc i pins s σ H E I hf st hg;subst hP hw hK;obtain⟨f0,f1,f2,f3,f4,f5⟩:=hf it (by simp);exact wpAny_pyNext_range_end (I.ok.hd hc) st (by have:n≤i:=hg;lia) λ h' eb=>⟨rfl,I.turned (t':=s.toks) (λ b o hb e=>eb b o hb e) f0 f1 f3 f4 f5⟩
 self:=λ _ _ _ _ _ st h=>wpAny_pyIter_rangeiter st h
section
variable {X:Cx}{tg:Expr}
theorem Ae{R:It->Hp->Prop}{lo hi:Int}{tk:Nat}(I:Inv X pins σ H s)(h1:-(2 ^ 62)≤lo)(h2:lo < 2 ^ 62)(h3:-(2 ^ 62)≤hi)(h4:hi < 2 ^ 62)
  (q:R (Itr lo (hi - lo).toNat) H):wpAny (model X.prog X.w) X.A (pyIter (.ref s.heap.objs.size)) (PIE X pins σ tg R) E { s with heap:=s.heap.push { cls:=.type "range",data:=.fields #[.int lo t,.int hi u,.int 1 v] },toks:=tk }:=by
 refine wpAny_pyIter_range (IsRange.new ..) (small_one h1 h2 h3 h4) ?_;have I1:Inv X pins σ H { s with heap:=s.heap.push { cls:=.type "range",data:=.fields #[.int lo t,.int hi u,.int 1 v] },toks:=tk }:=I.kept λ b o e=>aE _ e
 refine⟨(s.heap.push { cls:=.type "range",data:=.fields #[.int lo t,.int hi u,.int 1 v] }).objs.size,[(s.heap.push { cls:=.type "range",data:=.fields #[.int lo t,.int hi u,.int 1 v] }).objs.size],_,_,H,rfl,
  I1.kept (t':=tk) λ b o e=>aE _ e,Ad _ lo (hi - lo).toNat,?_,λ b hb=>?_,q⟩
 ·have e1:lo+((0:Nat):Int) * 1=lo:=by simp
  have e2:(((hi - lo).toNat:Nat):Int) - ((0:Nat):Int)=Builtin.Range.rangeSize lo hi 1:=by rw[rangeSize_one];split<;>lia
  show IsRangeIter _ _ (lo+((0:Nat):Int) * 1) ((((hi - lo).toNat:Nat):Int) - ((0:Nat):Int)) 1;rw[e1,e2];exact bA _ rfl
 ·have e:b=(s.heap.push { cls:=.type "range",data:=.fields #[.int lo t,.int hi u,.int 1 v] }).objs.size:=by simpa using hb
  subst e;exact I1.fpOk (au _) (I1.hok.fresh (au _))
noncomputable def Af(ta:TA):TI:=λ σ H R=>ta σ H λ vs H1=>∃j:Int,vs=[.int j]/\-(2 ^ 62)≤j/\j < 2 ^ 62/\R (Itr 0 j.toNat) H1
theorem Ag{a:Expr}{p pos:Pos}(hg:Gl X "range")(hm:X.mg "range"=none)(ha:PA X [a] ta)(hs:autoParam (starEach [a] X.env=[(false,eval a X.env)]) Z3_):PI X tg (.Call (.Name "range" p) [a] [] pos) (Af ta):=by
 intro pins s σ H R I h;refine Call_ (eQ I hg hm boot_range (iS (thn (ha pos pins s σ H _ I h) λ us s1 ⟨vs,H1,I1,r1,q1⟩=>?_) hs rfl));obtain⟨j,e,q1,q2,q⟩:=q1;subst e
 cases r1 with
 | cons r rr =>
  cases rr;obtain⟨t,rfl⟩:=r;exact call_range_1 (Ae I1 (by lia) (by lia) q1 q2 (by simpa using q))
noncomputable def Ah(wi:TI)(g:TG)(tb:TS):TS:=λ D σ H=>wi σ H λ J H1=>∃W:Nat->Nat->St->Hp->Prop,(∃m,W 0 m σ H1)/\∀i m σ H,W i m σ H ->
 (J.stop i H/\D.nx σ H)\/(J.go i H/\∃N:St->Hp->Prop,(∀σ' H',N σ' H'->∃m',m' < m/\W (i+1) m' σ' H')/\∀x H',J.yld i H x H'->g x σ H' λ σ2 H2=>tb { D with nx:=N,ct:=N,bk:=D.nx } σ2 H2)
noncomputable def lv(fp:List Addr)(h:Heap):LO:=fp.filterMap λ b=>(h.get? b).map λ o=>(b,o)
theorem iT{fp:List Addr}{h:Heap}{b:Addr}(hb:b∈fp)(e:h.get? b=some o):(b,o)∈lv fp h:=nZ.mpr ⟨b,hb,by rw[e];rfl⟩
theorem Ai{fp:List Addr}{h:Heap}{p:Addr × Obj}(hp:p∈lv fp h):p.1∈fp/\h.get? p.1=some p.2:=by
 obtain⟨b,hb,e⟩:=nZ.mp hp
 cases q:h.get? b with
 | none=>rw[q] at e;cases e
 | some o =>
  rw[q] at e;have e':(b,o)=p:=cr e;subst e';exact⟨hb,q⟩
theorem Inv.pinned{fp:List Addr}(I:Inv X pins σ H s)(hf:∀b∈fp,gS X pins H b)(ho:∀b∈fp,∃o,s.heap.get? b=some o/\∀v,o.data≠.cell v):Inv X (pins++lv fp s.heap) σ H s :=
 I.pins_of λ p hp=>(aM.mp hp).elim (λ z=>I.pin p (bM _ z)) λ z=>by
  obtain⟨hb,e⟩:=Ai z;obtain⟨f0,f1,f2,_⟩:=hf p.1 hb;obtain⟨o,e',d⟩:=ho p.1 hb;rw[e] at e';cases e';exact⟨e,f0,f1,f2,d⟩
theorem Inv.unpinned{pins pl:LO}(I:Inv X (pins++pl) σ H s):Inv X pins σ H s:=I.pins_of λ p hp=>I.pin p (bM _ (dW _ hp))
theorem Aj{iter:Expr}(hp:PassesOwn (model X.prog X.w) X.A X.env X.xe)(hc:X.calm=true)(hi:PI X tg iter wi)(hg:PG X tg g)(hb:PSs X body tb)
  (hs:autoParam (∀x,foldedSetIterable iter X.env x=pure x) Z2_):PS X (.For tg iter body [] pos) (Ah wi g tb):=by
 intro pins s σ H D I h;refine wpAny_For (thn (hi pins s σ H _ I h) λ v s1 h1=>thn h1 λ itv s2 h2=>?_) hs;obtain⟨it,fp,tn,J,H2,e,I2,T,st2,f2,W,⟨m0,w0⟩,turn⟩:=h2;subst e;have stat:∀ {H':Hp},(∀b∈fp,H' b=none)->∀b∈fp,gS X pins H' b:=λ hn b hb=>⟨hn b hb,(f2 b hb).2⟩;refine codeAny_forLoop_any (λ n s'=>∃i σ' H',Inv X pins σ' H' s'/\tn i s'.heap/\(∀b∈fp,H' b=none)/\W i n σ' H') ?_ m0 ⟨0,σ,H2,I2,st2,λ b hb=>(f2 b hb).1,w0⟩;rintro n s3 ⟨i,σ3,H3,I3,st3,fr3,w3⟩
 rcases turn i n σ3 H3 w3 with ⟨stop,qn⟩ | ⟨go,N,hN,step⟩
 ·refine jN hp (thn (T.done X rfl rfl rfl hc i pins s3 σ3 H3 X.xe I3 (stat fr3) st3 stop) λ r s4 ⟨hr,I4⟩=>?_);subst hr;exact iQ ⟨σ3,H3,I4,qn⟩
 ·refine jN hp (thn (T.item X rfl rfl rfl hc i pins s3 σ3 H3 X.xe I3 (stat fr3) st3 go) λ r s4 ⟨u,hr,h4⟩=>?_);subst hr;refine jN hp (thn h4 λ _ s5 ⟨x,H5,I5,r5,y5,st5,fr5⟩=>?_);have I5':=I5.pinned (stat fr5) (T.obj _ _ st5);refine jN hp (thn (hg _ s5 σ3 H5 x u _ I5' r5 (step x H5 y5)) λ _ s6 ⟨σ6,H6,I6,q6⟩=>?_);refine jN hp (thn (hb _ s6 σ6 H6 _ I6 q6) λ f s7 q7=>?_)
  have again:∀ {σ7:St}{H7:Hp},Inv X (pins++lv fp s5.heap) σ7 H7 s7->N σ7 H7->∃m,m < n/\∃i σ' H',Inv X pins σ' H' s7/\tn i s7.heap/\(∀b∈fp,H' b=none)/\W i m σ' H':=λ {σ7 H7} I7 n7=>by
   obtain⟨m',hm,w7⟩:=hN σ7 H7 n7;refine⟨m',hm,i+1,σ7,H7,I7.unpinned,T.keep _ _ _ st5 λ b hb o e=>(I7.pin (b,o) (bM _ (bM _ (iT hb e)))).1,λ b hb=>?_,w7⟩;obtain⟨o,e,d⟩:=T.obj _ _ st5 b hb;exact(I7.pin (b,o) (bM _ (bM _ (iT hb e)))).2.1
  cases f with
  | next=>obtain⟨σ7,H7,I7,n7⟩:=q7;exact again I7 n7
  | cont=>obtain⟨σ7,H7,I7,n7⟩:=q7;exact again I7 n7
  | brk=>obtain⟨σ7,H7,I7,q7⟩:=q7;exact⟨σ7,H7,I7.unpinned,q7⟩
  | ret v=>obtain⟨x7,σ7,H7,I7,r7,q7⟩:=q7;exact⟨x7,σ7,H7,I7.unpinned,r7,q7⟩
end
abbrev R2:=V->V->Hp->VK->Prop
noncomputable def OpR(X:Cx)(f:Value->Value->Sem Value)(r:R2):Prop :=
 ∀(pins:LO) (s:Shared) (σ:St) (H:Hp) (x y:V) (v u:Value) (Q:VK),Inv X pins σ H s->RelV x v->RelV y u->r x y H Q ->
  wpAny (model X.prog X.w) X.A (f v u) (EP X pins σ Q) X.xe s
noncomputable def UnR(X:Cx)(f:Value->Sem Value)(r:V->Hp->VK->Prop):Prop :=
 ∀(pins:LO) (s:Shared) (σ:St) (H:Hp) (x:V) (v:Value) (Q:VK),Inv X pins σ H s->RelV x v->r x H Q ->
  wpAny (model X.prog X.w) X.A (f v) (EP X pins σ Q) X.xe s
noncomputable def bG(X:Cx)(f:Value)(r:List V->Hp->VK->Prop):Prop :=
 ∀(pins:LO) (s:Shared) (σ:St) (H:Hp) (xs:List V) (us:LV) (Q:VK),Inv X pins σ H s->Vals xs us->r xs H Q ->
  wpAny (model X.prog X.w) X.A (call f us) (EP X pins σ Q) X.xe s
noncomputable def tOp(r:R2)(ta tb:TE):TE:=λ σ H Q=>ta σ H λ x H1=>tb σ H1 λ y H2=>r x y H2 Q
noncomputable def tUn(r:V->Hp->VK->Prop)(ta:TE):TE:=λ σ H Q=>ta σ H λ x H1=>r x H1 Q
noncomputable def rI(C:Int->Int->Prop)(g:Int->Int->V):R2:=λ x y H Q=>nP x y λ i j=>C i j/\Q (g i j) H
noncomputable def rI0(g:Int->Int->V):R2:=λ x y H Q=>nP x y λ i j=>Q (g i j) H
noncomputable def rU(g:Int->V):V->Hp->VK->Prop:=λ x H Q=>isI x λ i=>Q (g i) H
section
variable {X:Cx}{a b c:Expr}{ta tb tc:TE}{pos:Pos}
theorem og(ha:PE X a ta)(hb:PE X b tb){R:V->V->Hp->Prop}(I:Inv X pins σ H s)
  (h:ta σ H λ x H1=>tb σ H1 λ y H2=>R x y H2){f:Value->Value->Sem Value}
  (hf:∀v u s2 x y H2,Inv X pins σ H2 s2->RelV x v->RelV y u->R x y H2->wpAny (model X.prog X.w) X.A (f v u) Q X.xe s2) :
  wpAny (model X.prog X.w) X.A (eval a X.env) (λ v s₁=>wpAny (model X.prog X.w) X.A (eval b X.env) (λ u s₂=>wpAny (model X.prog X.w) X.A (f v u) Q X.xe s₂) X.xe s₁) X.xe s:=by
 refine thn (ha pins s σ H _ I h) λ v s1 ⟨x,H1,I1,r1,q1⟩=>?_;refine thn (hb pins s1 σ H1 _ I1 q1) λ u s2 ⟨y,H2,I2,r2,q2⟩=>?_;exact hf v u s2 x y H2 I2 r1 r2 q2
theorem Ak(ho:OpR X (binaryOp op) r)(ha:PE X a ta)(hb:PE X b tb):PE X (.BinOp a op b pos) (tOp r ta tb):=by
 intro pins s σ H Q I h;exact wpAny_BinOp (og ha hb I h λ v u s2 x y H2 I2 rx ry q=>ho pins s2 σ H2 x y v u Q I2 rx ry q)
theorem Al(ho:UnR X (unaryOp op) r)(ha:PE X a ta):PE X (.UnaryOp op a pos) (tUn r ta):=by
 intro pins s σ H Q I h;exact UnaryOp_ (thn (ha pins s σ H _ I h) λ v s1 ⟨x,H1,I1,r1,q1⟩=>ho pins s1 σ H1 x v Q I1 r1 q1)
theorem opI{f:Value->Value->Sem Value}{C:Int->Int->Prop}{g:Int->Int->Int}
  (rule:∀(i j:Int) (t u:Tok) (s:Shared) (Q:VS) (E:VS),C i j->Q (.int (g i j) s.toks) { s with toks:=s.toks+1 }->wpAny (model X.prog X.w) X.A (f (.int i t) (.int j u)) Q E s) :
  OpR X f (rI C λ i j=>.int (g i j)):=by
 intro pins s σ H x y v u Q I rx ry h;obtain⟨i,j,rfl,rfl,hc,q⟩:=nQ h;obtain⟨t,rfl⟩:=rx;obtain⟨t',rfl⟩:=ry;exact rule i j t t' s _ _ hc ⟨.int (g i j),H,I.tok _,⟨_,rfl⟩,q⟩
theorem jO{f:Value->Value->Sem Value}{g:Int->Int->Int}
  (rule:∀(i j:Int) (t u:Tok) (s:Shared) (Q:VS) (E:VS),Q (.int (g i j) s.toks) { s with toks:=s.toks+1 }->wpAny (model X.prog X.w) X.A (f (.int i t) (.int j u)) Q E s) :
  OpR X f (rI0 λ i j=>.int (g i j)):=by
 intro pins s σ H x y v u Q I rx ry h;obtain⟨i,j,rfl,rfl,q⟩:=nQ h;obtain⟨t,rfl⟩:=rx;obtain⟨t',rfl⟩:=ry;exact rule i j t t' s _ _ ⟨.int (g i j),H,I.tok _,⟨_,rfl⟩,q⟩
theorem lw{f:Value->Value->Sem Value}{g:Int->Int->Bool}
  (rule:∀(i j:Int) (t u:Tok) (s:Shared) (Q:VS) (E:VS),Q (.bool (g i j)) s->wpAny (model X.prog X.w) X.A (f (.int i t) (.int j u)) Q E s) :
  OpR X f (rI0 λ i j=>.bl (g i j)):=by
 intro pins s σ H x y v u Q I rx ry h;obtain⟨i,j,rfl,rfl,q⟩:=nQ h;obtain⟨t,rfl⟩:=rx;obtain⟨t',rfl⟩:=ry;exact rule i j t t' s _ _ ⟨.bl (g i j),H,I,rfl,q⟩
def jP(i j:Int):Prop:=0≤j/\j≤1000000/\i.natAbs < 2 ^ 64
noncomputable def CMul(i j:Int):Prop:=(-(2 ^ 64) < i/\i < 2 ^ 64)\/(-(2 ^ 64) < j/\j < 2 ^ 64)
theorem CMul.ok(h:CMul i j):IntMulOk i j:=by
 rcases h with ⟨h1,h2⟩ | ⟨h1,h2⟩
 ·exact .of_left (intBits_le_64 h1 h2)
 ·exact .of_right (intBits_le_64 h1 h2)
theorem Am(k:Nat):(0:Int)≤2 ^ k:=by
 rw[two_pow_cast];exact s0m _
theorem Ao:OpR X (binaryOp .Add) (rI0 λ i j=>.int (i+j)):=jO λ _ _ _ _ _ _ _ q=>add_int q
theorem Ap:OpR X (binaryOp .Sub) (rI0 λ i j=>.int (i - j)):=jO λ _ _ _ _ _ _ _ q=>sub_int q
theorem Aq:OpR X (binaryOp .Mod) (rI (λ _ j=>0 < j) λ i j=>.int (i % j)):=opI λ i j _ _ _ _ _ hc q=>by
 have h1:(0:Int) < j:=hc;exact mod_int' (by lia) (by rw[tm i (by lia)];exact q)
theorem Ar:OpR X (binaryOp .Mod) (rI (λ _ j=>j≠0) λ i j=>.int (i.fmod j)):=opI λ _ _ _ _ _ _ _ hc q=>mod_int' hc q
theorem As:OpR X (binaryOp .Pow) (rI jP λ i j=>.int (i ^ j.toNat)):=opI λ _ _ _ _ _ _ _ hc q=>pow_int_small hc.1 hc.2.1 hc.2.2 q
theorem At:OpR X (binaryOp .RShift) (rI (λ _ j=>0≤j) λ i j=>.int (i / 2 ^ j.toNat)):=opI λ i j _ _ _ _ _ hc q =>
 rshift_int hc (by rw[lx i (Am _)];exact q)
theorem Au:OpR X (binaryOp .BitAnd) (rI0 λ i j=>.int (Builtin.bitAnd i j)):=jO λ _ _ _ _ _ _ _ q=>and_int q
theorem Av:OpR X (binaryOp .BitOr) (rI0 λ i j=>.int (Builtin.bitOr i j)):=jO λ _ _ _ _ _ _ _ q=>or_int q
theorem Aw:OpR X (binaryOp .BitXor) (rI0 λ i j=>.int (Builtin.bitXor i j)):=jO λ _ _ _ _ _ _ _ q=>xor_int q
theorem unI{f:Value->Sem Value}{g:Int->Int}
  (rule:∀(i:Int) (t:Tok) (s:Shared) (Q:VS) (E:VS),Q (.int (g i) s.toks) { s with toks:=s.toks+1 }->wpAny (model X.prog X.w) X.A (f (.int i t)) Q E s) :
  UnR X f (rU λ i=>.int (g i)):=by
 intro pins s σ H x v Q I rx h;obtain⟨i,rfl,q⟩:=zw h;obtain⟨t,rfl⟩:=rx;exact rule i t s _ _ ⟨.int (g i),H,I.tok _,⟨_,rfl⟩,q⟩
theorem Ax:UnR X (unaryOp .USub) (rU λ i=>.int (-i)):=unI λ _ _ _ _ _ q=>neg_int q
end
noncomputable def bf:V->V->Bool
 | .non,.non=>true | .non,.int _=>true | .int _,.non=>true | .non,.bl _=>true | .bl _,.non=>true | .non,.str _=>true | .str _,.non=>true
 | .int _,.int _=>true | .bl _,.bl _=>true | .str _,.str _=>true | .byt _,.byt _=>true
 | .int _,.str _=>true | .str _,.int _=>true | .bl _,.str _=>true | .str _,.bl _=>true
 | _,_=>false
noncomputable def rEq:R2:=λ x y H Q=>match x,y with
 | .int i,.int j=>Q (.bl (decide (i=j))) H
 | .str i,.str j=>Q (.bl (decide (i=j))) H
 | x,y=>bf x y=true/\Q (.bl (decide (x=y))) H
set_option tactic.hygienic true in
theorem rEq_ex:rEq x y H Q=(bf x y=true/\Q (.bl (decide (x=y))) H):=by
 unfold rEq;split
 ·rename_i i j;rw[show decide (V.int i=V.int j)=decide (i=j) by simp];simp[bf]
 ·rename_i i j;rw[show decide (V.str i=V.str j)=decide (i=j) by simp];simp[bf]
 ·rfl
theorem Ay(h:rEq x y H Q):bf x y=true/\Q (.bl (decide (x=y))) H:=rEq_ex.mp h
noncomputable def rNe:R2:=λ x y H Q=>match x,y with
 | .int i,.int j=>Q (.bl (!decide (i=j))) H
 | .str i,.str j=>Q (.bl (!decide (i=j))) H
 | x,y=>bf x y=true/\Q (.bl (!decide (x=y))) H
set_option tactic.hygienic true in
theorem rNe_ex:rNe x y H Q=(bf x y=true/\Q (.bl (!decide (x=y))) H):=by
 unfold rNe;split
 ·rename_i i j;rw[show decide (V.int i=V.int j)=decide (i=j) by simp];simp[bf]
 ·rename_i i j;rw[show decide (V.str i=V.str j)=decide (i=j) by simp];simp[bf]
 ·rfl
theorem Az(h:rNe x y H Q):bf x y=true/\Q (.bl (!decide (x=y))) H:=rNe_ex.mp h
theorem tq:decide (V.int i=V.int j)=(i == j):=by
 rw[ly];simp
theorem tu:decide (V.bl i=V.bl j)=(i == j):=by
 rw[ly];simp
theorem tw:decide (V.str i=V.str j)=(i == j):=by
 rw[ly];simp
theorem tz:decide (V.byt i=V.byt j)=(i.toList == j.toList):=by
 rw[ly];cases i;cases j;simp
section
variable {X:Cx}{a b c:Expr}{ta tb tc:TE}{pos:Pos}
theorem aW{Q:VK}{k k':Bool}(I:Inv X pins σ H s)(q:Q (.bl k) H)(e:k=k'):EP X pins σ Q (.bool k') s:=by
 subst e;exact⟨.bl k,H,I,rfl,q⟩
theorem dF:OpR X (compareOp .Eq) rEq:=by
 intro pins s σ H x y v u Q I rx ry h;obtain⟨hs,q⟩:=Ay h
 cases x with
 | non =>
  cases rx
  cases y with
  | non=>cases ry;exact PySem.EqNone.eq_none_none (aW I q (by simp))
  | bl j=>cases ry;exact PySem.EqNone.eq_none_bool (aW I q (by simp))
  | int j=>obtain⟨t',rfl⟩:=ry;exact PySem.EqNone.eq_none_int (aW I q (by simp))
  | str j=>obtain⟨t',rfl⟩:=ry;exact PySem.EqNone.eq_none_str (aW I q (by simp))
  | _=>exact absurd (show false=true from hs) bH
 | bl i =>
  cases rx
  cases y with
  | non=>cases ry;exact PySem.EqNone.eq_bool_none (aW I q (by simp))
  | bl j=>cases ry;exact eq_bool (aW I q tu)
  | str j=>obtain⟨t',rfl⟩:=ry;exact PySem.EqMixed.eq_bool_str (aW I q (by simp))
  | _=>exact absurd (show false=true from hs) bH
 | int i =>
  obtain⟨t,rfl⟩:=rx
  cases y with
  | non=>cases ry;exact PySem.EqNone.eq_int_none (aW I q (by simp))
  | int j=>obtain⟨t',rfl⟩:=ry;exact eq_int (aW I q tq)
  | str j=>obtain⟨t',rfl⟩:=ry;exact PySem.EqMixed.eq_int_str (aW I q (by simp))
  | _=>exact absurd (show false=true from hs) bH
 | str i =>
  obtain⟨t,rfl⟩:=rx
  cases y with
  | non=>cases ry;exact PySem.EqNone.eq_str_none (aW I q (by simp))
  | bl j=>cases ry;exact PySem.EqMixed.eq_str_bool (aW I q (by simp))
  | int j=>obtain⟨t',rfl⟩:=ry;exact PySem.EqMixed.eq_str_int (aW I q (by simp))
  | str j=>obtain⟨t',rfl⟩:=ry;exact eq_str (aW I q tw)
  | _=>exact absurd (show false=true from hs) bH
 | byt i =>
  obtain⟨t,rfl⟩:=rx
  cases y with
  | byt j=>obtain⟨t',rfl⟩:=ry;exact W.eq_bytes (aW I q tz)
  | _=>exact absurd (show false=true from hs) bH
 | _=>cases y<;>exact absurd (show false=true from hs) bH
theorem dG:OpR X (compareOp .NotEq) rNe:=by
 intro pins s σ H x y v u Q I rx ry h;obtain⟨hs,q⟩:=Az h
 cases x with
 | non =>
  cases rx
  cases y with
  | non=>cases ry;exact PySem.EqNone.ne_none_none (aW I q (by simp))
  | bl j=>cases ry;exact PySem.EqNone.ne_none_bool (aW I q (by simp))
  | int j=>obtain⟨t',rfl⟩:=ry;exact PySem.EqNone.ne_none_int (aW I q (by simp))
  | str j=>obtain⟨t',rfl⟩:=ry;exact PySem.EqNone.ne_none_str (aW I q (by simp))
  | _=>exact absurd (show false=true from hs) bH
 | bl i =>
  cases rx
  cases y with
  | non=>cases ry;exact PySem.EqNone.ne_bool_none (aW I q (by simp))
  | bl j=>cases ry;exact ne_bool (aW I q (bF not tu))
  | str j=>obtain⟨t',rfl⟩:=ry;exact PySem.EqMixed.ne_bool_str (aW I q (by simp))
  | _=>exact absurd (show false=true from hs) bH
 | int i =>
  obtain⟨t,rfl⟩:=rx
  cases y with
  | non=>cases ry;exact PySem.EqNone.ne_int_none (aW I q (by simp))
  | int j=>obtain⟨t',rfl⟩:=ry;exact ne_int (aW I q (bF not tq))
  | str j=>obtain⟨t',rfl⟩:=ry;exact PySem.EqMixed.ne_int_str (aW I q (by simp))
  | _=>exact absurd (show false=true from hs) bH
 | str i =>
  obtain⟨t,rfl⟩:=rx
  cases y with
  | non=>cases ry;exact PySem.EqNone.ne_str_none (aW I q (by simp))
  | bl j=>cases ry;exact PySem.EqMixed.ne_str_bool (aW I q (by simp))
  | int j=>obtain⟨t',rfl⟩:=ry;exact PySem.EqMixed.ne_str_int (aW I q (by simp))
  | str j=>obtain⟨t',rfl⟩:=ry;exact ne_str (aW I q (bF not tw))
  | _=>exact absurd (show false=true from hs) bH
 | byt i =>
  obtain⟨t,rfl⟩:=rx
  cases y with
  | byt j=>obtain⟨t',rfl⟩:=ry;exact W.ne_bytes (aW I q (bF not tz))
  | _=>exact absurd (show false=true from hs) bH
 | _=>cases y<;>exact absurd (show false=true from hs) bH
theorem AA:OpR X (compareOp .Lt) (rI0 λ i j=>.bl (decide (i < j))):=lw λ _ _ _ _ _ _ _ q=>lt_int q
theorem AB:OpR X (compareOp .LtE) (rI0 λ i j=>.bl (decide (i≤j))):=lw λ _ _ _ _ _ _ _ q=>le_int q
theorem AC:OpR X (compareOp .Gt) (rI0 λ i j=>.bl (decide (j < i))):=lw λ _ _ _ _ _ _ _ q=>gt_int q
theorem AD:OpR X (compareOp .GtE) (rI0 λ i j=>.bl (decide (j≤i))):=lw λ _ _ _ _ _ _ _ q=>ge_int q
theorem AE:OpR X (compareOp .Is) (λ x y H Q=>y=.non/\Q (.bl (decide (x=.non))) H):=by
 intro pins s σ H x y v u Q I rx ry h;obtain⟨rfl,q⟩:=h;cases ry;refine is_none_gen (aW I q ?_)
 cases x<;>first
  | (cases rx;rfl)
  | (obtain⟨t,rfl⟩:=rx;rfl)
theorem AF:OpR X (compareOp .IsNot) (λ x y H Q=>y=.non/\Q (.bl (!decide (x=.non))) H):=by
 intro pins s σ H x y v u Q I rx ry h;obtain⟨rfl,q⟩:=h;cases ry;refine isnot_none_gen (aW I q ?_)
 cases x<;>first
  | (cases rx;rfl)
  | (obtain⟨t,rfl⟩:=rx;rfl)
theorem AG(ho:OpR X (compareOp op) r)(ha:PE X a ta)(hb:PE X b tb)(hm:behindInMarks op b=false):PE X (.Compare a [op] [b] pos) (tOp r ta tb):=by
 intro pins s σ H Q I h;exact wpAny_Compare1 (og ha hb I h λ v u s2 x y H2 I2 rx ry q=>ho pins s2 σ H2 x y v u Q I2 rx ry q) hm
def tD(t:TE):TT:=λ σ H Q=>t σ H λ x H'=>isB x λ k=>Q k H'
theorem AH(ho:OpR X (compareOp op) r)(ha:PE X a ta)(hb:PE X b tb)(hm:behindInMarks op b=false):PT X (.Compare a [op] [b] pos) (tD (tOp r ta tb)):=by
 intro pins s σ H Q I h
 refine wpAny_isTrue_Compare1 (thn (ha pins s σ H _ I h) λ v s1 ⟨x,H1,I1,r1,q1⟩=>thn (hb pins s1 σ H1 _ I1 q1) λ u s2 ⟨y,H2,I2,r2,q2⟩ =>
  thn (ho pins s2 σ H2 x y v u _ I2 r1 r2 q2) λ c s3 ⟨z,H3,I3,r3,q3⟩=>?_) hm
 obtain⟨k,e,q3⟩:=iP q3;subst e;cases r3;exact eR ⟨H3,I3,q3⟩
noncomputable def tE(r r':R2)(ta tb tc:TE):TE:=λ σ H Q=>ta σ H λ x H1=>tb σ H1 λ y H2=>r x y H2 λ z H3=>∃k,z=.bl k /\
 (if k=true then tc σ H3 λ w' H4=>r' y w' H4 Q else Q (.bl false) H3)
theorem AI(ho:OpR X (compareOp op) r)(ho':OpR X (compareOp op') r')(ha:PE X a ta)(hb:PE X b tb)(hc:PE X c tc)
  (hm:autoParam (lastMarks [op,op'] [b,c]=false) Z4_):PE X (.Compare a [op,op'] [b,c] pos) (tE r r' ta tb tc):=by
 intro pins s σ H Q I h
 refine Compare_chain (thn (ha pins s σ H _ I h) λ v s1 ⟨x,H1,I1,r1,q1⟩=>chain_link (thn (hb pins s1 σ H1 _ I1 q1) λ u s2 ⟨y,H2,I2,r2,q2⟩ =>
  thn (ho pins s2 σ H2 x y v u _ I2 r1 r2 q2) λ d s3 ⟨z,H3,I3,r3,k,e,q3⟩=>?_)) hm
 subst e;cases r3;refine eR ?_
 cases k with
 | false=>exact ite_ff ⟨.bl false,H3,I3,rfl,q3⟩
 | true=>exact ite_tt (chain_last (thn (hc pins s3 σ H3 _ I3 q3) λ w' s4 ⟨z',H4,I4,r4,q4⟩=>ho' pins s4 σ H4 y z' u w' Q I4 r2 r4 q4))
theorem AJ(ho:OpR X (compareOp op) r)(ho':OpR X (compareOp op') r')(ha:PE X a ta)(hb:PE X b tb)(hc:PE X c tc)
  (hm:autoParam (lastMarks [op,op'] [b,c]=false) Z4_):PT X (.Compare a [op,op'] [b,c] pos) (tD (tE r r' ta tb tc)):=by
 intro pins s σ H Q I h
 refine isTrue_chain (thn (ha pins s σ H _ I h) λ v s1 ⟨x,H1,I1,r1,q1⟩=>test_link (thn (hb pins s1 σ H1 _ I1 q1) λ u s2 ⟨y,H2,I2,r2,q2⟩ =>
  thn (ho pins s2 σ H2 x y v u _ I2 r1 r2 q2) λ d s3 ⟨z,H3,I3,r3,k,e,q3⟩=>?_)) hm
 subst e;cases r3;refine eR ?_
 cases k with
 | false =>
  obtain⟨k',e',q'⟩:=iP (show isB (V.bl false) (λ k=>Q k H3) from q3);cases e';exact ite_ff ⟨H3,I3,q'⟩
 | true =>
  refine ite_tt (test_last (thn (hc pins s3 σ H3 _ I3 q3) λ w' s4 ⟨z',H4,I4,r4,q4⟩=>thn (ho' pins s4 σ H4 y z' u w' _ I4 r2 r4 q4) λ d' s5 ⟨z2,H5,I5,r5,q5⟩=>?_));obtain⟨k2,e2,q5⟩:=iP q5;subst e2;cases r5;exact eR ⟨H5,I5,q5⟩
theorem iU:(sizeLine:Nat) < 2 ^ 63:=by rw[fF];decide
theorem cH{x:V}(r:Vals [x] us):∃u,us=[u]/\RelV x u:=by
 cases r with
 | cons r1 r2=>cases r2;exact⟨_,rfl,r1⟩
theorem iV{x y:V}(r:Vals [x,y] us):∃u w',us=[u,w']/\RelV x u/\RelV y w':=by
 cases r with
 | cons r1 r2 =>
  cases r2 with
  | cons r3 r4=>cases r4;exact⟨_,_,rfl,r1,r3⟩
theorem AK:bG X (.builtin "abs") (λ xs H Q=>∃i,xs=[.int i]/\Q (.int (if i < 0 then -i else i)) H):=by
 intro pins s σ H xs us Q I r h;obtain⟨i,rfl,q⟩:=h;obtain⟨u,rfl,t,rfl⟩:=cH r;exact call_abs_int λ u tk=>⟨.int (if i < 0 then -i else i),H,I.tok _,⟨_,rfl⟩,q⟩
theorem AL(hc:X.calm=true):bG X (.builtin "max") (λ xs H Q=>∃i j,xs=[.int i,.int j]/\Q (.int (if j > i then j else i)) H):=by
 intro pins s σ H xs us Q I r h;obtain⟨i,j,rfl,q⟩:=h;obtain⟨u,w',rfl,⟨t,rfl⟩,⟨t',rfl⟩⟩:=iV r;refine max_two_ints (I.ok.hd hc) λ h' tk k=>⟨_,H,I.kept k,?_,q⟩;by_cases hj:j > i
 ·rw[if_pos hj,if_pos hj];exact⟨_,rfl⟩
 ·rw[if_neg hj,if_neg hj];exact⟨_,rfl⟩
theorem AM(hc:X.calm=true):bG X (.builtin "min") (λ xs H Q=>∃i j,xs=[.int i,.int j]/\Q (.int (if j < i then j else i)) H):=by
 intro pins s σ H xs us Q I r h;obtain⟨i,j,rfl,q⟩:=h;obtain⟨u,w',rfl,⟨t,rfl⟩,⟨t',rfl⟩⟩:=iV r;refine min_two_ints (I.ok.hd hc) λ h' tk k=>⟨_,H,I.kept k,?_,q⟩;by_cases hj:j < i
 ·rw[if_pos hj,if_pos hj];exact⟨_,rfl⟩
 ·rw[if_neg hj,if_neg hj];exact⟨_,rfl⟩
theorem tF:bG X (.type "int") (λ xs H Q=>(∃i,xs=[.int i]/\Q (.int i) H)\/∃k,xs=[.bl k]/\Q (.int (if k then 1 else 0)) H):=by
 intro pins s σ H xs us Q I r h
 rcases h with ⟨i,rfl,q⟩ | ⟨k,rfl,q⟩
 ·obtain⟨u,rfl,t,rfl⟩:=cH r;exact call_int_int ⟨.int i,H,I,⟨_,rfl⟩,q⟩
 ·obtain⟨u,rfl,r1⟩:=cH r;cases r1;exact call_int_bool ⟨.int (if k then 1 else 0),H,I.tok _,⟨_,rfl⟩,q⟩
end
set_option tactic.hygienic true in
theorem AN{h:Heap}(n:h.Ns1 dx mA):∃od,h.get? dx=some od/\∀name,W.lookIn name od=some (mA name):=by
 obtain⟨o,es,ep,ho,hd,hk,_,hm⟩:=n;refine⟨o,ho,λ name=>?_⟩;have e:=hm name;unfold nsFind findBy at e;rw[← Array.find?_toList] at e;unfold W.lookIn;rw[hd];dsimp only;split
 ·rename_i y q;rw[q] at e;exact bF some e
 ·rename_i q;rw[q] at e
  have a:es.toList.any (·.refKey)=false:=by
   rw[List.any_eq_false];intro y hy;obtain⟨z,t,hkey⟩:=hk y (tG.mp hy);simp[DictEntry.refKey,hkey]
  have a':¬es.toList.any (·.refKey)=true:=by rw[a];exact bH
  rw[if_neg a'];exact bF some e
section
variable {prog:Program}{w:World}{A:Around}{E:VS}{s:Shared}{K:FG}{x dx C f:Addr}{mA:SV}{name:Str}{v:Value}
end
noncomputable def cX(f:Str)(v:V):List (Str × V)->List (Str × V)
 | []=>[(f,v)]
 | (g,x)::r=>if g=f then (g,v)::r else (g,x)::cX f v r
theorem tH(f g:Str)(v:V):∀fs:List (Str × V),(cX f v fs).lookup g=if g=f then some v else fs.lookup g
 | []=>by
  show List.lookup g [(f,v)]=_;by_cases h:g=f
  ·have hb:(g == f)=true:=dZ.mpr h;simp only[List.lookup,hb,if_pos h]
  ·have hb:(g == f)=false:=iO.mpr h;simp only[List.lookup,hb,if_neg h]
 | (k,x)::r=>by
  have ih:=tH f g v r;rw[show cX f v ((k,x)::r)=(if k=f then (k,v)::r else (k,x)::cX f v r) from rfl];by_cases hk:k=f
  ·rw[if_pos hk];by_cases h:g=k
   ·have hb:(g == k)=true:=dZ.mpr h;simp only[List.lookup,hb,if_pos (h.trans hk)]
   ·have hb:(g == k)=false:=iO.mpr h;simp only[List.lookup,hb,if_neg (λ e:g=f=>h (e.trans hk.symm))]
  ·rw[if_neg hk];by_cases h:g=k
   ·have hb:(g == k)=true:=dZ.mpr h;simp only[List.lookup,hb,if_neg (λ e:g=f=>hk (h.symm.trans e))]
   ·have hb:(g == k)=false:=iO.mpr h;simp only[List.lookup,hb];exact ih
theorem oh(f:Str)(v:V):∀fs:List (Str × V),f∈(cX f v fs).map (·.1)/\∀g,g∈fs.map (·.1)->g∈(cX f v fs).map (·.1)
 | []=>⟨by simp[cX],λ g h=>by simp at h⟩
 | (k,x)::r=>by
  obtain⟨i1,i2⟩:=oh f v r;rw[show cX f v ((k,x)::r)=(if k=f then (k,v)::r else (k,x)::cX f v r) from rfl];by_cases hk:k=f
  ·rw[if_pos hk];subst hk;exact⟨by simp,λ g h=>by simpa using h⟩
  ·rw[if_neg hk];refine⟨?_,λ g h=>?_⟩
   ·rw[bc];exact bU _ i1
   ·rw[bc] at h ⊢
    rcases av.mp h with e | e
    ·exact av.mpr (.inl e)
    ·exact bU _ (i2 g e)
theorem tJ(f:Str)(v:V):∀fs:List (Str × V),(cX f v fs).length≤fs.length+1
 | []=>by simp[cX]
 | (k,x)::r=>by
  have ih:=tJ f v r;rw[show cX f v ((k,x)::r)=(if k=f then (k,v)::r else (k,x)::cX f v r) from rfl];by_cases hk:k=f
  ·rw[if_pos hk,List.length_cons,List.length_cons];lia
  ·rw[if_neg hk,List.length_cons,List.length_cons];lia
theorem RelO.some_of(r:RelO (some v) o):∃u,o=some u/\RelV v u:=by
 cases o with
 | none=>exact(show False from r).elim
 | some u=>exact⟨u,rfl,r⟩
theorem AO(r:RelV v u):W.handedIn u=true:=by
 cases v with
 | non=>cases (show u=Value.none from r);rfl
 | bl b=>cases (show u=Value.bool b from r);rfl
 | int i=>obtain⟨t,e⟩:=(show ∃t,u=Value.int i t from r);cases e;rfl
 | str x=>obtain⟨t,e⟩:=(show ∃t,u=Value.str x t from r);cases e;rfl
 | byt b=>obtain⟨t,e⟩:=(show ∃t,u=Value.bytes b t from r);cases e;rfl
 | flt b=>obtain⟨t,e⟩:=(show ∃t,u=Value.float b t from r);cases e;rfl
 | ref a=>cases (show u=Value.ref a from r);rfl
 | ty n=>cases (show u=Value.type n from r);rfl
section
variable {P:Program}{w:World}{H H':Hp}{h h':Heap}{a C dx:Addr}{fs fs':List (Str × V)}
end
noncomputable def NoAttr(K:FG)(C:Addr)(f:Str):Prop:=W.findIn K (.ref C) f=some none
theorem NoAttr.taker{K:FG}(n:NoAttr K C f):W.takerIn K C f=some none:=by
 unfold W.takerIn;rw[show W.findIn K (.ref C) f=some none from n];rfl
section
variable {X:Cx}{pins:LO}{σ:St}{H:Hp}{s:Shared}{a C dx:Addr}{fs:List (Str × V)}{f:Str}{v:V}{A:Around}{E:VS}
theorem AQ(hb:attributeBase e f env (eval e env)=eval e env)
  (h:wpAny (model prog w) A (eval e env) (λ o s₁=>wpAny (model prog w) A (getAttr o f true) Q E s₁) E s):wpAny (model prog w) A (eval (.Attribute e f pos) env) Q E s :=
 Attribute_any_ h (by rw[arm_eval_Attribute,hb])
end
section
variable {X:Cx}{o e value:Expr}{f:Str}{pos pos' tpos:Pos}{ta tv:TE}
end
section
variable {X:Cx}{pins:LO}{σ:St}{H:Hp}{s:Shared}{A:Around}{E:VS}{Q:VS}{c:Value}{b:Bool}
end
structure Room (k:Nat)(A:Around):Prop where
 hd:A.handled=none
 dp:A.depth+3 * k+5 < recursionLimit
 un:A.units+16 * k+200 < cLine
theorem Room.mono{j k:Nat}(r:Room k A)(h:j≤k):Room j A:=⟨r.hd,by have:=r.dp;lia,by have:=r.un;lia⟩
theorem Room.deeper{k:Nat}(r:Room (k+1) A)(env:Env):Room k (A.deeper env) :=
 ⟨r.hd,by have:=r.dp;show A.depth+1+3 * k+5 < _;lia,by have:=r.un;show A.units+3+16 * k+200 < _;lia⟩
theorem AR{A:Around}{us:LV}{kw:List (Str × Value)}:(A.under (.builtin "type.__call__" ⟨.ref C::us,kw⟩)).depth=A.depth+1:=by
 first | rfl | simp[Around.under,Code.weight,Code.isCreation,Code.isGuard,Code.isCaller,Code.frames,Code.isFrame,guardIds]
theorem AS{A:Around}{us:LV}{kw:List (Str × Value)}:(A.under (.builtin "type.__call__" ⟨.ref C::us,kw⟩)).units=A.units+1:=by
 first | rfl | simp[Around.under,Code.cUnits,Code.frames,Code.isFrame]
theorem Room.make{k:Nat}(r:Room (k+1) A)(C:Addr)(us:LV)(kw:List (Str × Value)):Room k (A.under (.builtin "type.__call__" ⟨.ref C::us,kw⟩)) :=
 ⟨r.hd,by have:=r.dp;rw[AR];lia,by have:=r.un;rw[AS];lia⟩
theorem Room.depth(r:Room k A):A.depth < recursionLimit:=by have:=r.dp;lia
def lA:TA:=λ _ H Q=>Q [] H
noncomputable def jQ(ta:TE)(tr:TA):TA:=λ σ H Q=>ta σ H λ x H1=>tr σ H1 λ xs H2=>Q (x::xs) H2
section
variable {X:Cx}{e:Expr}{es:List Expr}{te:TE}{t:TA}{pos:Pos}
theorem pa_nil:PA X [] lA:=λ _ _ _ _ H Q I h=>oi ⟨[],H,I,.nil,h⟩
theorem bI(ha:PE X e te)(hr:PA X es t)(hs:autoParam (starEach (e::es) X.env=(false,eval e X.env)::starEach es X.env) Z3_):PA X (e::es) (jQ te t):=by
 intro pos pins s σ H Q I h;rw[hs];show wpAny _ _ (spliced ((false,eval e X.env)::backTo pos (starEach es X.env))) _ _ s;refine oj (thn (ha pins s σ H _ I h) λ u s1 ⟨x,H1,I1,r1,q1⟩=>?_);exact thn (hr pos pins s1 σ H1 _ I1 q1) λ us s2 ⟨xs,H2,I2,r2,q2⟩=>⟨x::xs,H2,I2,.cons r1 r2,q2⟩
noncomputable def tK(t:TA):TE:=λ σ H Q=>t σ H λ xs H1=>xs.length≤sizeLine/\∀p,H1 p=none->Q (.ref p) (upd H1 p (.tup xs))
noncomputable def AT(t:TA):TE:=λ σ H Q=>t σ H λ xs H1=>xs.length≤sizeLine/\∀p,H1 p=none->Q (.ref p) (upd H1 p (.lst xs))
theorem jR{x1}(h:PA X es t):PE X (.Tuple es x1 pos) (tK t):=by
 intro pins s σ H Q I hq;refine wpAny_Tuple_spliced (thn (h pos pins s σ H _ I hq) λ us s1 ⟨xs,H1,I1,r,z,q⟩=>⟨by rw[← r.length];exact z,?_⟩);have hf:H1 s1.heap.objs.size=none:=I1.hok.fresh (au _);refine⟨.ref s1.heap.objs.size,upd H1 s1.heap.objs.size (.tup xs),I1.laid (t':=s1.toks) (λ b u e=>aE _ e) (au _) ?_,rfl,q _ hf⟩;exact⟨z,us,r,⟨_,bA _ rfl,⟨rfl,_,rfl⟩,rfl⟩⟩
theorem AU(h:PA X es t):PE X (.List es pos) (AT t):=by
 intro pins s σ H Q I hq;refine wpAny_List_spliced (thn (h pos pins s σ H _ I hq) λ us s1 ⟨xs,H1,I1,r,z,q⟩=>⟨by rw[← r.length];exact z,?_⟩);have hf:H1 s1.heap.objs.size=none:=I1.hok.fresh (au _);refine⟨.ref s1.heap.objs.size,upd H1 s1.heap.objs.size (.lst xs),I1.laid (t':=s1.toks) (λ b u e=>aE _ e) (au _) ?_,rfl,q _ hf⟩;exact⟨z,us,0,r,bA _ rfl⟩
end
abbrev Sp:=List V->Hp->VK->XK->Prop
abbrev CXT:=List Env->Hp->Shared->XK->VS
structure Env0 (P:Program)(w:World)(K:FG)(mg:SV)(base:Heap)(A:Around)(outer:List Env)(s:Shared)(H:Hp):Prop where
 frames:A.frames=some outer
 mod:Mod K mg base
 bs:∀b o,base.get? b=some o->s.heap.get? b=some o/\H b=none
 bsz:base.objs.size≤s.heap.objs.size
 funs:s.heap.FunFrames base outer
 frf:∀b∈frs outer,H b=none
 hok:HOk P w H s.heap
 bare:AllBare s.gens
noncomputable def CE(outer:List Env)(P:Program)(w:World)(H:Hp)(s:Shared)(Q:VK)(u:Value)(s':Shared):Prop :=
 ∃v H',s'.os=s.os/\AllBare s'.gens/\Un (frs outer) [] H H' s.heap s'.heap/\HOk P w H' s'.heap/\RelV v u/\Q v H'
noncomputable def CR(CX:CXT)(outer:List Env)(P:Program)(w:World)(H:Hp)(s:Shared)(Q:VK)(E:XK)(r:Result)(s':Shared):Prop :=
 match r with
 | .ok (.ret u)=>CE outer P w H s Q u s'
 | .ok _=>False
 | .error e=>CX outer H s E e s'
structure FnOk (P:Program)(w:World)(K:FG)(mg:SV)(base:Heap)(CX:CXT)(k:Nat)(f:Addr)(fd:FuncData)(ps:List Str)(sp:Sp):Prop where
 len:∀vs H Q E,sp vs H Q E->vs.length=ps.length
 run:∀(A:Around) (outer:List Env) (s:Shared) (H:Hp) (args:Args) (us:LV) (vs:List V) (Q:VK) (E:XK),Room k A->Env0 P w K mg base A outer s H->BindsTo s fd args (ps.zip us)->Vals vs us->sp vs H Q E ->
  codeAny (model P w) A (.call (.ref f) args) (CR CX outer P w H s Q E) s
theorem FnOk.mono{K:FG}{j k:Nat}(F:FnOk P w K mg base CX j f fd ps sp)(h:j≤k) :
  FnOk P w K mg base CX k f fd ps sp:=⟨F.len,λ A outer s H args us vs Q E hr=>F.run A outer s H args us vs Q E (hr.mono h)⟩
theorem FnOk.imp{K:FG}{sp sp':Sp}(F:FnOk P w K mg base CX k f fd ps sp)
  (h:∀vs H Q E,sp' vs H Q E->sp vs H Q E):FnOk P w K mg base CX k f fd ps sp' :=
 ⟨λ vs H Q E q=>F.len vs H Q E (h _ _ _ _ q),λ A outer s H args us vs Q E hr he hb hv hs=>F.run A outer s H args us vs Q E hr he hb hv (h _ _ _ _ hs)⟩
theorem Env0.make{K:FG}(e:Env0 P w K mg base A outer s H)(C:Addr)(us:LV)(kw:List (Str × Value)) :
  Env0 P w K mg base (A.under (.builtin "type.__call__" ⟨.ref C::us,kw⟩)) outer s H:=⟨by first | exact e.frames | (simpa [Around.under,Code.envs,Code.isFrame,pushEnvs] using e.frames),e.mod,e.bs,e.bsz,e.funs,e.frf,e.hok,e.bare⟩
section
variable {X:Cx}{pins:LO}{σ:St}{H:Hp}{s s':Shared}
theorem Inv.env0(I:Inv X pins σ H s):Env0 X.prog X.w X.K X.mg X.base X.A X.stack s H :=
 ⟨I.ok.frames,I.ok.mod,I.bs,bK I.ok.bsz I.sz,I.stack,I.stkFree,I.hok,I.bare⟩
theorem Inv.after(I:Inv X pins σ H s)(h:CE X.stack X.prog X.w H s Q u s'):EP X pins σ Q u s':=by
 obtain⟨v,H',os,bare,un,hok,r,q⟩:=h;obtain⟨hh,g,d,t,os'⟩:=s';obtain rfl:os'=s.os:=os;exact⟨v,H',I.call (h':=hh) (g':=g) (d':=d) (t':=t) (ch:=[]) un hok bare (λ b z=>absurd z (by simp)),r,q⟩
end
noncomputable def tL(sp:Sp)(dvs:List V)(E:XK)(t:TA):TE:=λ σ H Q=>t σ H λ vs H1=>sp (vs++dvs) H1 Q E
noncomputable def Binds(K:FG)(fd:FuncData)(ps:List Str)(ds:LV):Prop :=
 ∀(s:Shared) (us:LV),K.In s.heap->(us++ds).length=ps.length->BindsTo s fd ⟨us,[]⟩ (ps.zip (us++ds))
theorem Binds.all{K:FG}{ps:List Str}(h:∀us:LV,us.length=ps.length->bindArgs fd ⟨us,[]⟩=pure (ps.zip us)):Binds K fd ps []:=λ s us _ hl=>by
 rw[fZ] at hl ⊢;exact .of_eq (h us hl)
noncomputable def iW(CX:CXT)(X:Cx)(E:XK):Prop:=∀(pins:LO) (σ:St) (H:Hp) (s:Shared) (e:Value) (s':Shared),Inv X pins σ H s->CX X.stack H s E e s'->X.xe e s'
section
variable {X:Cx}{CX:CXT}{k:Nat}{f C:Addr}{fd:FuncData}{ps:List Str}{sp:Sp}{dvs:List V}{ds:LV}{E:XK}{x m:Str}{p pos apos:Pos}{e o:Expr}{es:List Expr}{ta:TE}{t:TA}
theorem AW{vs:List V}(F:FnOk X.prog X.w X.K X.mg X.base CX k f fd ps sp)(hr:Room k X.A)(hb:Binds X.K fd ps ds)(hd:Vals dvs ds)(hx:iW CX X E)
  (I:Inv X pins σ H s) (r:Vals vs us) (h:sp (vs++dvs) H Q E):wpAny (model X.prog X.w) X.A (call (.ref f) us) (EP X pins σ Q) X.xe s:=by
 have r2:Vals (vs++dvs) (us++ds):=r.append hd;have hl:(us++ds).length=ps.length:=by rw[← r2.length];exact F.len _ _ _ _ h
 refine gT (jS (F.run X.A X.stack s H ⟨us,[]⟩ (us++ds) (vs++dvs) Q E hr I.env0 (hb s us I.kIn hl) r2 h) λ r s' hq=>?_)
 cases r with
 | error e=>exact hx pins σ H s e s' I hq
 | ok fl =>
  cases fl with
  | ret u=>exact I.after hq
  | next=>exact False.elim hq
  | brk=>exact False.elim hq
  | cont=>exact False.elim hq
theorem AX(F:FnOk X.prog X.w X.K X.mg X.base CX k f fd ps sp)(hr:Room k X.A)(hg:Gl X x)(hm:X.mg x=some (.ref f))(hk:W.keepIn X.K (.ref f)=true)(hb:Binds X.K fd ps ds)(hd:Vals dvs ds)(hx:iW CX X E)
  (ha:PA X (e::es) t) (hdb:autoParam ((x == ("__debug__" : Str))=false) Z1_) (he:autoParam (starEach (e::es) X.env=(false,eval e X.env)::starEach es X.env) Z3_) (hpl:autoParam ((backTo pos (starEach es X.env)).any (·.1)=false) Z3_) :
  PE X (.Call (.Name x p) (e::es) [] pos) (tL sp dvs E t):=by
 intro pins s σ H Q I h;refine iX (dY I hg hm ?_ hdb);refine s1c (h₀:=X.base) I.ok.mod.kin hk (thn (ha pos pins s σ H _ I h) λ us s1 ⟨vs,H1,I1,r,q⟩=>⟨I1.kIn,?_⟩) he hpl;exact AW F hr hb hd hx I1 r q
end
section
variable {X:Cx}{CX:CXT}{k:Nat}{f C:Addr}{fd:FuncData}{ps ks:List Str}{sp:Sp}{E:XK}{x m:Str}{p pos apos kpos:Pos}{e o:Expr}{es:List Expr}{kws:List Keyword}{te ta:TE}{t tk:TA}{nm:Option Str}
variable {g:LV->LV->LV}{gV:List V->List V->List V}
end
structure FnScope (N P:List Str)(sc:Scope):Prop where
 kind:sc.kind=.function
 co:sc.isCoroutine=false
 gen:sc.isGenerator=false
 nd:N.Nodup
 pre:N.take P.length=P
 par:∀x∈P,sc.names.lookup x=some .local\/sc.names.lookup x=some .cell
 nofree:∀y∈sc.names,y.2≠.free
theorem tM{kindOf:Str->Option NameKind}{x:Str}:∀ {binds:List (Str × Value)}{m:SV},(∀v,(x,v) ∉ binds)->bindL kindOf binds m x=m x
 | [],_,_=>rfl
 | (n,v)::r,m,h=>by
  unfold bindL;rw[tM λ w hw=>h w (bU _ hw)];split
  ·have:x≠n:=by rintro rfl;exact h v cN
   simp[this]
  ·rfl
theorem tN{kindOf:Str->Option NameKind}{x:Str}:∀ {binds:List (Str × Value)}{m:SV},(∀v,(x,v) ∉ binds)->bindC kindOf binds m x=m x
 | [],_,_=>rfl
 | (n,v)::r,m,h=>by
  unfold bindC;rw[tN λ w hw=>h w (bU _ hw)];split
  ·rfl
  ·have:x≠n:=by rintro rfl;exact h v cN
   simp[this]
theorem tO{kindOf:Str->Option NameKind}:∀ {P:List Str}{vs:LV}{i:Nat}{m:SV},P.Nodup->P[i]?=some x->vs[i]?=some v->kindOf x=some .local ->
  bindL kindOf (P.zip vs) m x=some v
 | [],_,_,_,_,h,_,_=>by simp at h
 | _::_,[],_,_,_,_,h,_=>by simp at h
 | p::P,w::vs,0,m,nd,h1,h2,hk=>by
  simp at h1 h2;subst h1;subst h2;show bindL kindOf ((p,w)::P.zip vs) m p=_;unfold bindL;rw[tM λ v hv=>(lB.mp nd).1 (oq hv).1,if_pos hk];simp
 | p::P,w::vs,i+1,m,nd,h1,h2,hk=>by
  show bindL kindOf ((p,w)::P.zip vs) m x=_;unfold bindL;exact tO (i:=i) (lB.mp nd).2 (by simpa using h1) (by simpa using h2) hk
theorem tP{kindOf:Str->Option NameKind}:∀ {P:List Str}{vs:LV}{i:Nat}{m:SV},P.Nodup->P[i]?=some x->vs[i]?=some v->kindOf x≠some .local ->
  bindC kindOf (P.zip vs) m x=some v
 | [],_,_,_,_,h,_,_=>by simp at h
 | _::_,[],_,_,_,_,h,_=>by simp at h
 | p::P,w::vs,0,m,nd,h1,h2,hk=>by
  simp at h1 h2;subst h1;subst h2;show bindC kindOf ((p,w)::P.zip vs) m p=_;unfold bindC;rw[tN λ v hv=>(lB.mp nd).1 (oq hv).1,if_neg hk];simp
 | p::P,w::vs,i+1,m,nd,h1,h2,hk=>by
  show bindC kindOf ((p,w)::P.zip vs) m x=_;unfold bindC;exact tP (i:=i) (lB.mp nd).2 (by simpa using h1) (by simpa using h2) hk
noncomputable def cI(N:List Str)(vs:List V):St:=vs.map some++List.replicate (N.length - vs.length) none
noncomputable def bN(CX:CXT)(P:Program)(w:World)(K:FG)(mg:SV)(base:Heap)(N:List Str)(qual:Str)(scope:Scope)(f:Addr)(cd:Value)(A:Around)(outer:List Env)(s:Shared)(H:Hp)(E:XK):Cx where
 prog:=P
 w:=w
 K:=K
 mg:=mg
 base:=base
 A:=A.deeper (envOfC qual scope s.heap.objs.size f cd)
 N:=N
 s₀:=s
 H₀:=H
 env:=envOfC qual scope s.heap.objs.size f cd
 outer:=outer
 stack:=envOfC qual scope s.heap.objs.size f cd::outer
 ex:=[]
 calm:=true
 fn:=λ _=>true
 pn:=[]
 xe:=λ e s'=>wpAny (model P w) (A.deeper (envOfC qual scope s.heap.objs.size f cd)) (leaving (envOfC qual scope s.heap.objs.size f cd) e) (λ _ s''=>CX outer H s E e s'') (λ e' s''=>CX outer H s E e' s'') s'
theorem tQ{sc:Scope}(h:sc.names.lookup x=some .cell):∃c,(cellsFrom n sc.names []).lookup x=some c:=by
 have q:=W.cellsFrom_some sc.names n [] (.inl h);exact ou.mp q
theorem AY{K:FG}{A:Around}{s s1:Shared}{vs:List V}
  (S:FnScope N ps scope) (hd:A.handled=none) (e0:Env0 P w K mg base A outer s H) (hl:vs.length=ps.length) (r:Vals vs us)
  (x:InCallC s s.heap.objs.size (bindL (envOfC qual scope s.heap.objs.size f cd).kindOf (ps.zip us) λ _=>none) (cellsFrom (s.heap.objs.size+1) scope.names []) (bindC (envOfC qual scope s.heap.objs.size f cd).kindOf (ps.zip us) λ _=>none) s1) :
  Inv (bN CX P w K mg base N qual scope f cd A outer s H E) [] (cI N vs) H s1:=by
 have hpl:ps.length≤N.length:=by have:=bF List.length S.pre;rw[aU] at this;lia
 obtain⟨h1,tk,rfl,hk⟩:=x.done;have noA:∀b:Addr,b ∉ (bN CX P w K mg base N qual scope f cd A outer s H E).ex:=λ b z=>absurd (show b∈([]:List Addr) from z) (by simp)
 refine⟨⟨e0.mod,S.kind,rfl,rfl,au _,λ y z c h1 h2=>?_,λ y hy=>?_,λ y c _ h=>?_,λ _=>hd,Around.frames_deeper e0.frames,.inr ⟨rfl,rfl⟩,λ b z=>absurd z (noA b),e0.bs,e0.bsz,λ b _ _=>noA b,λ b z=>absurd z (noA b),e0.funs,e0.frf⟩,
  rfl,e0.bare,Un.kept hk,⟨_,x.toInCall.ns,λ i y v h1 h2 h3=>?_⟩,λ y c h=>⟨_,x.cell y c h⟩,e0.hok.fresh (au _),λ y c h=>?_,λ p hp=>absurd (show p∈([]:LO) from hp) (by simp),e0.hok.kept hk,?_⟩
 ·exact name_of_addr x.apart (jT h1) (jT h2)
 ·have hy:scope.names.lookup y=some .cell\/scope.names.lookup y=some .free:=hy
  rcases hy with hy | hy
  ·exact tQ hy
  ·exact absurd rfl (S.nofree _ (jT hy))
 ·exact dE (x.above y c (jT h))
 ·have hi:i < vs.length:=by
   unfold cI at h2;by_cases hi:i < vs.length
   ·exact hi
   ·rw[ef (by simpa using hi)] at h2;rw[jU] at h2;split at h2<;>cases h2
  have ha:vs[i]?=some v:=by
   unfold cI at h2;rw[eT (by simpa using hi),bW] at h2
   cases e:vs[i]? with
   | none=>rw[e] at h2;cases h2
   | some a=>rw[e] at h2;cases h2;rfl
  obtain⟨u,hu,rv⟩:=r.get ha
  have hp:ps[i]?=some y:=by
   rw[← S.pre,ow (by lia)];exact h1
  have ndP:ps.Nodup:=by rw[← S.pre];exact S.nd.sublist (List.take_sublist _ _)
  refine⟨u,rv,?_⟩
  rcases S.par y (br hp) with k | k
  ·exact .inl ⟨k,tO ndP hp hu k⟩
  ·obtain⟨c,e⟩:=tQ (n:=s.heap.objs.size+1) k;refine .inr ⟨.inl k,c,e,?_⟩;have q:=x.cell y c e;rw[tP ndP hp hu (by show scope.names.lookup y≠_;rw[k];decide)] at q;exact q
 ·exact e0.hok.fresh (dE (x.above y c (jT h)))
 ·unfold cI;show _=N.length;rw[aC,aj,dH];lia
theorem oz{K:FG}{dV kV doc pm cdv ct oc:Value}{an od:OA}
  {osl:AV}{sp:Sp}(lk:K.lookup f=some ⟨oc,od,.func (W.fnOf name qual params body scope dV kV doc pm an cdv ct),osl⟩) (hcd:W.codeIn K cdv qual=true) (S:FnScope N ps scope)
  (len:∀vs H Q E,sp vs H Q E->vs.length=ps.length)
  (hbody:∀(A:Around) (outer:List Env) (s:Shared) (H:Hp) (vs:List V) (Q:VK) (E:XK),Room k (A.deeper (envOfC qual scope s.heap.objs.size f cdv))->sp vs H Q E ->
   ∃t,PSs (bN CX P w K mg base N qual scope f cdv A outer s H E) body t/\t { nx:=λ _ H'=>Q .non H',rt:=Q } (cI N vs) H) :
  FnOk P w K mg base CX (k+1) f (W.fnOf name qual params body scope dV kV doc pm an cdv ct) ps sp:=by
 refine⟨len,λ A outer s H args us vs Q E hr e0 hb r hsp=>?_⟩;have hl:=len _ _ _ _ hsp;have KX:K.In s.heap:=e0.mod.kin.keeps λ b o e=>(e0.bs b o e).1;have lim:s.heap.NoLimit:=e0.mod.nolimit.keeps λ b o e=>(e0.bs b o e).1
 have hkind:∀y∈ps.zip us,scope.names.lookup y.1=some .local\/(scope.names.lookup y.1=some .cell/\((cellsFrom (s.heap.objs.size+1) scope.names []).lookup y.1).isSome=true):=λ⟨n,v⟩ hy=>by
  rcases S.par n (oq hy).1 with q | q
  ·exact .inl q
  ·exact .inr ⟨q,W.cellsFrom_some _ _ _ (.inl q)⟩
 refine codeAny_call_function hr.depth (KX _ _ lk) rfl S.co S.gen rfl (W.codeRec_of KX hcd) (hb _ _ _ _ ?_);refine wpAny_newFunctionEnv_cells S.kind hkind λ env he s1 x=>?_;subst he;refine⟨lim.keeps x.toInCall.keep,codeAny_func ?_⟩;obtain⟨t,ht,hq⟩:=hbody A outer s H vs Q E (hr.deeper _) hsp;have I:Inv (bN CX P w K mg base N qual scope f cdv A outer s H E) [] (cI N vs) H s1:=AY S hr.hd e0 hl r x;refine bL (ht [] s1 (cI N vs) H _ I hq) (λ fl s' hs=>?_) λ e s' hs=>hs
 have fin:∀ {σ':St}{H':Hp}{v:V}{u:Value},Inv (bN CX P w K mg base N qual scope f cdv A outer s H E) [] σ' H' s'->RelV v u->Q v H'->CE outer P w H s Q u s' :=
  λ {σ' H' v u} J rv q=>⟨v,H',J.os,J.bare,J.base,J.hok,rv,q⟩
 cases fl with
 | ret u =>
  obtain⟨v,σ',H',J,rv,q⟩:=hs;exact fin J rv q
 | next =>
  obtain⟨σ',H',J,q⟩:=hs;exact fin (v:=V.non) (u:=Value.none) J rfl q
 | brk =>
  obtain⟨_,_,_,q⟩:=hs;exact False.elim q
 | cont =>
  obtain⟨_,_,_,q⟩:=hs;exact False.elim q
section
variable {X:Cx}{x:Str}{p pos:Pos}{e:Expr}{es:List Expr}{t:TA}{id T:String}{r:List V->Hp->VK->Prop}
noncomputable def tCB(r:List V->Hp->VK->Prop)(t:TA):TE:=λ σ H Q=>t σ H λ vs H1=>r vs H1 Q
theorem oA(hc:bG X (.builtin id) r)(hg:Gl X x)(hm:X.mg x=none)(hv:bootBuiltins x=some (.builtin id))(ha:PA X (e::es) t)(hn:x ≠ "__name__" := by decide)(hdb:autoParam ((x == ("__debug__" : Str))=false) Z1_)
  (he:autoParam (starEach (e::es) X.env=(false,eval e X.env)::starEach es X.env) Z3_) (hpl:autoParam ((backTo pos (starEach es X.env)).any (·.1)=false) Z3_):PE X (.Call (.Name x p) (e::es) [] pos) (tCB r t):=by
 intro pins s σ H Q I h;refine iX (eQ I hg hm hv ?_ hn hdb);exact PyProof.Rows.callWith_builtin1 (thn (ha pos pins s σ H _ I h) λ us s1 ⟨vs,H1,I1,r1,q1⟩=>hc pins s1 σ H1 vs us Q I1 r1 q1) he hpl
theorem lC(hc:bG X (.type T) r)(hg:Gl X x)(hm:X.mg x=none)(hv:bootBuiltins x=some (.type T))(ha:PA X (e::es) t)(hn:x ≠ "__name__" := by decide)(hdb:autoParam ((x == ("__debug__" : Str))=false) Z1_)
  (he:autoParam (starEach (e::es) X.env=(false,eval e X.env)::starEach es X.env) Z3_) (hpl:autoParam ((backTo pos (starEach es X.env)).any (·.1)=false) Z3_):PE X (.Call (.Name x p) (e::es) [] pos) (tCB r t):=by
 intro pins s σ H Q I h;refine iX (eQ I hg hm hv ?_ hn hdb);exact iS (thn (ha pos pins s σ H _ I h) λ us s1 ⟨vs,H1,I1,r1,q1⟩=>hc pins s1 σ H1 vs us Q I1 r1 q1) he hpl
end
end _L
namespace _H
open PySem PyProof.Rows
noncomputable def lexLt:LIq->LIq->Bool
 | [],[]=>false
 | [],_::_=>true
 | _::_,[]=>false
 | x::xs,y::ys=>if x=y then lexLt xs ys else decide (x < y)
theorem AZ(x y:Int)(xs ys:LIq):lexLt (x::xs) (y::ys)=if x=y then lexLt xs ys else decide (x < y):=rfl
theorem Bb:lexLt [] []=false:=rfl
theorem Bc(y:Int)(ys:LIq):lexLt [] (y::ys)=true:=rfl
theorem Bd(x:Int)(xs:LIq):lexLt (x::xs) []=false:=rfl
theorem Be(A:Around)(s:Shared)(a:Int)(t:Tok)(c:Int)(u:Tok):∃e,SeqAt.EqAt A s (.int a t) (.int c u) e/\(e=true ↔ a=c) :=
 ⟨(a == c),s0n a t c u,by simp⟩
section
open PySem.SeqAt
open PySem.AutoSeq1 (wpAny_loadPart')
open PySem.MeetsSeq PySem.MeetsSeq2 PySem.MeetsSeq3
end
section
variable {prog:Program}{w:World}{A:Around}{E:VS}{s:Shared}
theorem cat_tup{vs ws:LV}{Q:VS}(ht:IsTup s.heap t vs.toArray)(hb:IsTup s.heap b ws.toArray)(hv:vs≠[])
  (h1:ws=[]->Q (.ref t) s) (h2:ws≠[]->Q (.ref s.heap.objs.size) { s with heap:=s.heap.push { cls:=.type "tuple",data:=.seq (vs++ws).toArray } })
  (hsz:vs.length+ws.length≤sizeLine):wpAny (model prog w) A (binaryOp .Add (.ref t) (.ref b)) Q E s:=by
 obtain⟨⟨cls,dd,data,sl⟩,ho,hc,n,hd⟩:=id ht;obtain⟨⟨cls2,dd2,data2,sl2⟩,ho2,hc2,n2,hd2⟩:=id hb;simp only at hc hd hc2 hd2;subst hc hd hc2 hd2;have e:vs.toArray++ws.toArray=(vs++ws).toArray:=by simp
 by_cases hw:ws=[]
 ·exact lD ⟨_,ho,rfl⟩ ⟨_,ho2,rfl⟩ oB s0o oC oE (oF _ _)
   (tuple_addW1 t b vs.toArray ws.toArray n n2 dd dd2 sl sl2 (by simpa using hv) (by simp[hw])) ⟨ho,ho2,h1 hw⟩
 ·refine lD ⟨_,ho,rfl⟩ ⟨_,ho2,rfl⟩ oB s0o oC oE (oF _ _)
   (tuple_addW2 t b vs.toArray ws.toArray n n2 dd dd2 sl sl2 (by simpa using hv) (by simpa using hw) (by rw[aG,aG];exact hsz)) ⟨ho,ho2,?_⟩
  rw[e];exact h2 hw
noncomputable def sIx(n d:Nat):Option Int->Nat
 | none=>d
 | some v=>if v < 0 then (v+(n:Int)).toNat else min v.toNat n
theorem Bf(n d:Nat)(hd:d≤n)(o:Option Int):sIx n d o≤n:=by
 cases o with
 | none=>exact hd
 | some v =>
  show(if v < 0 then (v+(n:Int)).toNat else min v.toNat n)≤n;by_cases hv:v < 0
  ·rw[if_pos hv];lia
  ·rw[if_neg hv];exact Nat.min_le_right _ _
theorem tR(v:Int)(n d:Nat):(if v < 0 then max (v+(n:Int)) 0 else min v (n:Int))=((sIx n d (some v):Nat):Int):=by
 show(if v < 0 then max (v+(n:Int)) 0 else min v (n:Int))=(((if v < 0 then (v+(n:Int)).toNat else min v.toNat n):Nat):Int);by_cases hv:v < 0
 ·simp only[if_pos hv];lia
 ·simp only[if_neg hv];lia
theorem Bg(lo hi:Option Int)(n:Nat):Builtin.Slice.sliceAdjust lo hi 1 (n:Int)=(((sIx n 0 lo:Nat):Int),((sIx n n hi:Nat):Int)):=by
 have h1:¬((1:Int) < 0):=by lia
 unfold Builtin.Slice.sliceAdjust;simp only[h1,s1i];refine Prod.ext ?_ ?_
 ·cases lo with
  | none=>rfl
  | some v=>exact tR v n 0
 ·cases hi with
  | none=>rfl
  | some v=>exact tR v n n
theorem Bh(i j:Nat):Builtin.Slice.slicePlaces (i:Int) (j:Int) 1=j - i:=by
 unfold Builtin.Slice.slicePlaces;have h1:(1:Int) > 0:=by lia
 simp only[h1,dJ,Int.ediv_one];split<;>lia
theorem tS{Q:Option Int->Shared->Prop}(p:IsPart v o)(h:Q o s):wpAny (model prog w) A (Builtin.Slice.slicePartIndex v) Q E s:=by
 cases p with
 | none=>exact slicePart_none h
 | int i t=>exact slicePart_int h
theorem tT{lo hi:Option Int}{Q:Int × Int × Nat->Shared->Prop}(hs:s.heap.IsSliceOf sl vl vu .none)(pl:IsPart vl lo)(pu:IsPart vu hi)
  (h:Q (((sIx n 0 lo:Nat):Int),1,sIx n n hi - sIx n 0 lo) s):wpAny (model prog w) A (Builtin.Slice.sliceApplied (.ref sl) (pure (n:Int))) Q E s:=by
 obtain⟨os,hos,hcs,hds⟩:=id hs;unfold Builtin.Slice.sliceApplied Builtin.Slice.sliceFields;refine ae (ae (cY hos hds (x:=vl) rfl (ae (cY hos hds (x:=vu) rfl (ae (cY hos hds (x:=.none) rfl (ak ?_)))))));refine ae (slicePart_none ?_);show wpAny _ _ (if ((1:Int) == 0)=true then _ else _) _ _ s;rw[if_neg (by decide)];refine ae (tS pl (ae (tS pu (ae (ak ?_)))));show wpAny _ _ (match Builtin.Slice.sliceAdjust lo hi 1 (n:Int) with | (lo,hi)=>pure (lo,(1:Int),Builtin.Slice.slicePlaces lo hi 1)) _ _ s;rw[Bg lo hi n];show wpAny _ _ (pure (((sIx n 0 lo:Nat):Int),(1:Int),Builtin.Slice.slicePlaces ((sIx n 0 lo:Nat):Int) ((sIx n n hi:Nat):Int) 1)) _ _ s;rw[Bh];exact ak h
theorem Bi(xs:Array Value)(i k:Nat):((List.range k).filterMap λ(m:Nat)=>xs[((i:Int)+(m:Int) * 1).toNat]?).toArray=((xs.toList.drop i).take k).toArray:=by
 have e:(λ(m:Nat)=>xs[((i:Int)+(m:Int) * 1).toNat]?)=λ m=>xs[i+m]?:=by
  funext m;have:((i:Int)+(m:Int) * 1).toNat=i+m:=by lia
  rw[this]
 rw[e];have:=pick_run xs i k;rw[List.filterMap_map] at this;have e2:((λ x=>xs[x]?) ∘ λ x=>i+x)=λ m=>xs[i+m]?:=rfl;rw[e2] at this;rw[this]
theorem getItem_tuple_cut{lo hi:Option Int}{Q:VS}(ht:IsTup s.heap t items)(hs:s.heap.IsSliceOf sl vl vu .none)(pl:IsPart vl lo)(pu:IsPart vu hi)
  (hw:¬(sIx items.size 0 lo=0/\sIx items.size items.size hi=items.size))
  (h:Q (.ref s.heap.objs.size) { s with heap:=s.heap.push { cls:=.type "tuple",data:=.seq ((items.toList.drop (sIx items.size 0 lo)).take (sIx items.size items.size hi - sIx items.size 0 lo)).toArray } })
  (hsz:items.size≤sizeLine):wpAny (model prog w) A (getItem (.ref t) (.ref sl)) Q E s:=by
 have htake:sizeOk (.seq ((items.toList.drop (sIx items.size 0 lo)).take (sIx items.size items.size hi - sIx items.size 0 lo)).toArray):=by
  show((items.toList.drop (sIx items.size 0 lo)).take (sIx items.size items.size hi - sIx items.size 0 lo)).toArray.size≤sizeLine;rw[aG,aU,cg,Array.length_toList];lia
 have hj:sIx items.size items.size hi≤items.size:=Bf _ _ (au _) hi;obtain⟨os,hos,hcs,hds⟩:=id hs;have hTs:s.TypeIs (.ref sl) "slice" := ⟨os,hos,hcs⟩;unfold getItem;try with_reducible refine cu ?_
 first | refine ae (ak ?_) | skip
 refine ae (wpAny_sequenceKey ht.typeIs (by decide) ?_)
 refine ae (lE (name:=Str.ofString "__getitem__") ht.typeIs lF
  (gU lF ht.typeIs s0a ?_ (s0p _ _)))
 show wpAny _ _ (Builtin.Tuple.tupleItemsOf (.ref t) >>= _) _ _ s;refine ae (tupleItemsOf_ ht ?_);refine ae (gb hTs ?_);rw[if_pos (by decide)];refine ae (tT hs pl pu ?_)
 have hno:¬((((sIx items.size 0 lo:Nat):Int) == 0 && (1:Int) == 1 && (sIx items.size items.size hi - sIx items.size 0 lo) == items.size)=true):=by
  intro q;rw[aX,aX] at q;have q1:((sIx items.size 0 lo:Nat):Int)=0:=eq_of_beq q.1.1;have q2:sIx items.size items.size hi - sIx items.size 0 lo=items.size:=eq_of_beq q.2;exact hw ⟨by lia,by lia⟩
 show wpAny _ _ (if (((sIx items.size 0 lo:Nat):Int) == 0 && (1:Int) == 1 && (sIx items.size items.size hi - sIx items.size 0 lo) == items.size)=true then _ else _) _ _ s;rw[if_neg hno,Bi]
 first
  | exact ae (m:=Builtin.Tuple.tupleExact _) (ci (ak ⟨_,rfl,ak h⟩) htake)
  | exact ae (m:=Builtin.Tuple.tupleExact _) (ci (ae (ak (ak ⟨_,rfl,ak h⟩))) htake)
  | exact ae (ae (m:=Builtin.Tuple.tupleExact _) (ci (ak (ak ⟨_,rfl,ak h⟩)) htake))
  | exact ae (ae (m:=Builtin.Tuple.tupleExact _) (ci (ak ⟨_,rfl,ak h⟩) htake))
end
end _H
namespace _L
open PySem PySem.Spec PyProof.Rows
abbrev TO:=St->Hp->(Option Int->Hp->Prop)->Prop
noncomputable def PO(X:Cx)(e:Option Expr)(t:TO):Prop :=
 ∀(pins:LO) (s:Shared) (σ:St) (H:Hp) (Q:Option Int->Hp->Prop),Inv X pins σ H s->t σ H Q ->
  wpAny (model X.prog X.w) X.A (evalPart e X.env) (λ u s'=>∃o H',Inv X pins σ H' s'/\IsPart u o/\Q o H') X.xe s
def Bj:TO:=λ _ H Q=>Q none H
theorem iY{ns:LIq}:∀ {us:LV},Vals (ns.map V.int) us->IntsAre us ns:=by
 induction ns with
 | nil=>intro us r;rw[cJ] at r;cases r;exact .nil
 | cons n ns ih =>
  intro us r;rw[bc] at r
  cases r with
  | cons r1 r2 =>
   obtain⟨t,e⟩:=r1;subst e;exact .cons n t (ih r2)
section
variable {X:Cx}{e:Expr}{te:TE}{lo hi:Option Expr}{tl th:TO}{pos p2:Pos}
theorem Bk:PO X none Bj:=by
 intro pins s σ H Q I h;rw[evalPart_none];exact ak ⟨none,H,I,.none,h⟩
noncomputable def SlR(X:Cx)(r:V->Option Int->Option Int->Hp->VK->Prop):Prop :=
 ∀(pins:LO) (s:Shared) (σ:St) (H:Hp) (x:V) (v vl vu:Value) (lo hi:Option Int) (sl:Addr) (Q:VK),Inv X pins σ H s->RelV x v->s.heap.IsSliceOf sl vl vu .none->IsPart vl lo->IsPart vu hi->r x lo hi H Q ->
  ∃T id,typeLookup (.type T) "__getitem__"=pure (some (.builtin id))/\s.TypeIs v T/\wpAny (model X.prog X.w) X.A (getItem v (.ref sl)) (EP X pins σ Q) X.xe s
noncomputable def tSl(r:V->Option Int->Option Int->Hp->VK->Prop)(te:TE)(tl th:TO):TE:=λ σ H Q=>te σ H λ x H1=>tl σ H1 λ l H2=>th σ H2 λ u H3=>r x l u H3 Q
theorem Bl(hr:SlR X r)(he:PE X e te)(hl:PO X lo tl)(hu:PO X hi th):PE X (.Subscript e (.Slice lo hi none p2) pos) (tSl r te tl th):=by
 intro pins s σ H Q I h;refine Subscript_ (thn (he pins s σ H _ I h) λ v s1 ⟨x,H1,I1,r1,q1⟩=>?_);refine wpAny_Slice (thn (hl pins s1 σ H1 _ I1 q1) λ vl s2 ⟨l,H2,I2,pl,q2⟩=>thn (hu pins s2 σ H2 _ I2 q2) λ vu s3 ⟨u,H3,I3,pu,q3⟩=>?_);rw[evalPart_none];refine ak ?_;have I4:Inv X pins σ H3 { s3 with heap:=s3.heap.push { cls:=.type "slice",data:=.fields #[vl,vu,.none] } }:=I3.kept (t':=s3.toks) λ b ob q=>aE _ q;obtain⟨T,id,hT,ht,hg⟩:=hr pins { s3 with heap:=s3.heap.push { cls:=.type "slice",data:=.fields #[vl,vu,.none] } } σ H3 x v vl vu l u s3.heap.objs.size Q I4 r1 (Heap.IsSliceOf.new ..) pl pu q3;show wpAny (model X.prog X.w) X.A (subscriptTail e (.Slice lo hi none p2) v (.ref s3.heap.objs.size)) (EP X pins σ Q) X.xe { s3 with heap:=s3.heap.push { cls:=.type "slice",data:=.fields #[vl,vu,.none] } };exact tail_any (ops:=[.ref s3.heap.objs.size,v]) ht hT hg (by with_unfolding_all rfl)
noncomputable def fG(xs:List V)(lo hi:Option Int):List V:=(xs.drop (_H.sIx xs.length 0 lo)).take (_H.sIx xs.length xs.length hi - _H.sIx xs.length 0 lo)
theorem tU(xs:List V)(lo hi:Option Int):(fG xs lo hi).length≤xs.length:=by
 unfold fG;rw[aU,cg];lia
noncomputable def Bm(K:FG):V->Option Int->Option Int->Hp->VK->Prop:=λ x lo hi H Q=>∃a xs,x=.ref a/\SqT K H a xs /\
 ¬(_H.sIx xs.length 0 lo=0/\_H.sIx xs.length xs.length hi=xs.length)/\∀p,H p=none->Q (.ref p) (upd H p (.tup (fG xs lo hi)))
theorem Bn:SlR X (Bm X.K):=by
 intro pins s σ H x v vl vu lo hi sl Q I rx hs pl pu h;obtain⟨a,xs,rfl,hx,hw,q⟩:=h;cases rx;obtain⟨its,r,ht,hz⟩:=I.tuple hx;have hlen:its.toArray.size=xs.length:=by rw[aG];exact r.length.symm
 refine⟨"tuple",_,PyProof.Rows.slot_tuple_getitem.lookup,ht.typeIs,?_⟩;refine _H.getItem_tuple_cut ht hs pl pu (by rw[hlen];exact hw) ?_ (by rw[hlen];exact hz);rw[hlen];refine⟨.ref s.heap.objs.size,_,I.laid (t':=s.toks) (o:=.tup (fG xs lo hi)) (λ b ob q=>aE _ q) (au _) ?_,rfl,q _ (I.hok.fresh (au _))⟩;exact⟨bK (tU xs lo hi) hz,_,(r.drop (_H.sIx xs.length 0 lo)).take (_H.sIx xs.length xs.length hi - _H.sIx xs.length 0 lo),TupO.new _ _⟩
noncomputable def Bo(K:FG):R2:=λ x y H Q=>∃a b xs ys,x=.ref a/\y=.ref b/\SqT K H a xs/\SqT K H b ys/\xs≠[]/\xs.length+ys.length≤sizeLine /\
 (ys=[]->Q (.ref a) H)/\(ys≠[]->∀p,H p=none->Q (.ref p) (upd H p (.tup (xs++ys))))
theorem Vals.nil_iff(r:Vals xs us):us=[] ↔ xs=[]:=by
 cases r with
 | nil=>simp
 | cons _ _=>simp
theorem Bp:OpR X (binaryOp .Add) (Bo X.K):=by
 intro pins s σ H x y v u Q I rx ry h;obtain⟨a,b,xs,ys,rfl,rfl,ha,hb,hx,hz,q1,q2⟩:=h;cases rx;cases ry;obtain⟨its,r1,p1,_⟩:=I.tuple ha;obtain⟨its2,r2,p2,_⟩:=I.tuple hb;refine _H.cat_tup p1 p2 (λ z=>hx (r1.nil_iff.mp z)) (λ z=>⟨.ref a,H,I,rfl,q1 (r2.nil_iff.mp z)⟩) (λ z=>?_) (by rw[← r1.length,← r2.length];exact hz);refine⟨.ref s.heap.objs.size,_,I.laid (t':=s.toks) (o:=.tup (xs++ys)) (λ b ob q=>aE _ q) (au _) ?_,rfl,q2 (λ w=>z (r2.nil_iff.mpr w)) _ (I.hok.fresh (au _))⟩;exact⟨by rw[aC];exact hz,_,r1.append r2,TupO.new _ _⟩
end
noncomputable def ixN(n:Nat)(i:Int):Option Nat:=if 0≤i then (if i < n then some i.toNat else none) else if -(n:Int)≤i then some (i+n).toNat else none
noncomputable def atI{α:Type}(xs:List α)(i:Int):Option α:=(ixN xs.length i).bind λ j=>xs[j]?
theorem tV(h:ixN n i=some j):seqIndex? i n=some j/\j < n/\-(n:Int)≤i/\i < n:=by
 unfold ixN at h;by_cases h0:0≤i
 ·rw[if_pos h0] at h;by_cases h1:i < n
  ·rw[if_pos h1] at h;have e:i.toNat=j:=cr h;exact⟨by rw[s1k h0 h1,e],by lia,by lia,h1⟩
  ·rw[if_neg h1] at h;cases h
 ·rw[if_neg h0] at h;by_cases h1:-(n:Int)≤i
  ·rw[if_pos h1] at h;have e:(i+n).toNat=j:=cr h;exact⟨by rw[s1d (by lia) h1,e],by lia,h1,by lia⟩
  ·rw[if_neg h1] at h;cases h
theorem oG{α:Type}{xs:List α}{v:α}(h:atI xs i=some v):∃j,seqIndex? i xs.length=some j/\xs[j]?=some v/\j < xs.length/\-(xs.length:Int)≤i/\i < xs.length:=by
 unfold atI at h
 cases e:ixN xs.length i with
 | none=>rw[e] at h;cases h
 | some j =>
  rw[e] at h;obtain⟨h1,h2,h3,h4⟩:=tV e;exact⟨j,h1,h,h2,h3,h4⟩
theorem fH{α:Type}{xs:List α}{j:Nat}{v:α}(h:xs[j]?=some v):atI xs (j:Int)=some v:=by
 have hj:j < xs.length:=(bD.mp h).1
 have e:ixN xs.length (j:Int)=some j:=by
  unfold ixN;rw[if_pos (by lia),if_pos (by lia)];simp
 unfold atI;rw[e];exact h
noncomputable def tW(b:Expr):Prop:=∀o i,subscripted b false o i=operate [o,i] (getItem o i)
noncomputable def IxR(X:Cx)(r:R2):Prop :=
 ∀(value slice:Expr) (pins:LO) (s:Shared) (σ:St) (H:Hp) (x y:V) (v u:Value) (Q:VK),Inv X pins σ H s->RelV x v->RelV y u->r x y H Q ->
  subscripted slice false v u=operate [v,u] (getItem v u)->wpAny (model X.prog X.w) X.A (subscriptTail value slice v u) (EP X pins σ Q) X.xe s
noncomputable def MtR(X:Cx)(id:String)(r:V->List V->Hp->VK->Prop):Prop :=
 ∀(pins:LO) (s:Shared) (σ:St) (H:Hp) (x:V) (xs:List V) (v:Value) (us:LV) (Q:VK),Inv X pins σ H s->RelV x v->Vals xs us->r x xs H Q ->
  wpAny (model X.prog X.w) X.A (call (.builtin id) (v::us)) (EP X pins σ Q) X.xe s
section
variable {X:Cx}{a b:Expr}{ta tb:TE}{pos:Pos}
theorem IxR.or(h:IxR X r)(h':IxR X r'):IxR X (λ x y H Q=>r x y H Q\/r' x y H Q):=by
 intro value slice pins s σ H x y v u Q I rx ry q hs
 rcases q with q | q
 ·exact h value slice pins s σ H x y v u Q I rx ry q hs
 ·exact h' value slice pins s σ H x y v u Q I rx ry q hs
theorem Bq(hr:IxR X r)(ha:PE X a ta)(hb:PE X b tb)(hs:tW b):PE X (.Subscript a b pos) (tOp r ta tb):=by
 intro pins s σ H Q I h;exact Subscript_ (og ha hb I h λ v u s2 x y H2 I2 rx ry q=>hr a b pins s2 σ H2 x y v u Q I2 rx ry q (hs _ _))
noncomputable def tX(K:FG):R2:=λ x y H Q=>∃p xs i v,x=.ref p/\y=.int i/\SqL K H p xs/\atI xs i=some v/\Q v H
noncomputable def tY(K:FG):R2:=λ x y H Q=>∃p xs i v,x=.ref p/\y=.int i/\SqT K H p xs/\atI xs i=some v/\Q v H
noncomputable def tZ:R2:=λ x y H Q=>∃z i c,x=.str z/\y=.int i/\z.length≤sizeLine/\atI z.cps.toList i=some c/\Q (.str ⟨#[c]⟩) H
theorem ix_list:IxR X (tX X.K):=by
 intro value slice pins s σ H x y v u Q I rx ry h hs;obtain⟨p,xs,i,z,rfl,rfl,hq,he,q⟩:=h;cases rx;obtain⟨t,rfl⟩:=ry;obtain⟨its,r,pl,hz⟩:=I.list hq;obtain⟨j,h1,h2,h3,h4,h5⟩:=oG he;obtain⟨w,ew,rw'⟩:=r.get h2;have hl:=r.length;have hn:=iU;have fin:EP X pins σ Q w s:=⟨z,H,I,rw',q⟩;by_cases h0:0≤i
 ·have hj:i.toNat=j:=by
   rw[s1k h0 h5] at h1;exact cr h1
  exact item_listR pl.isList h0 (by lia) (by rw[hj];simpa using ew) fin hs
 ·have hj:(i+(its.toArray.size:Int)).toNat=j:=by
   rw[s1d (by lia) h4] at h1;rw[aG,← hl];exact cr h1
  exact ua (x:=w) pl.isList.typeIs slot_list_getitem.lookup
   (wpAny_getItem_list_neg (Q:=λ r s'=>r=w/\EP X pins σ Q r s') pl.isList (by lia) (by rw[aG]<;>lia) (by lia) (by rw[hj];simpa using ew) ⟨rfl,fin⟩) hs
theorem ix_tup:IxR X (tY X.K):=by
 intro value slice pins s σ H x y v u Q I rx ry h hs;obtain⟨p,xs,i,z,rfl,rfl,hq,he,q⟩:=h;cases rx;obtain⟨t,rfl⟩:=ry;obtain⟨its,r,pl,hz⟩:=I.tuple hq;obtain⟨j,h1,h2,h3,h4,h5⟩:=oG he;obtain⟨w,ew,rw'⟩:=r.get h2;have hl:=r.length;have hn:=iU;have fin:EP X pins σ Q w s:=⟨z,H,I,rw',q⟩
 exact ua (x:=w) pl.typeIs slot_tuple_getitem.lookup
  (getItem_tuple (j:=j) (Q:=λ r s'=>r=w/\EP X pins σ Q r s') pl (by lia) (by lia) (by rw[aG,← hl];exact h1) (by simpa using ew) ⟨rfl,fin⟩) hs
theorem Br:IxR X tZ:=by
 intro value slice pins s σ H x y v u Q I rx ry h hs;obtain⟨z,i,c,rfl,rfl,hz,he,q⟩:=h;obtain⟨t,rfl⟩:=rx;obtain⟨t',rfl⟩:=ry;obtain⟨j,h1,h2,h3,h4,h5⟩:=oG he;have hl:z.cps.toList.length=z.length:=by simp[Str.length]
 rw[hl] at h1 h4 h5;have hn:=iU
 exact tail_any (typeIs_str s z t) slot_str_getitem.lookup (getItem_str (c:=c) (by
  have e1:decide (i < -(2 ^ 63:Int))=false:=aJ (by lia);have e2:decide (i ≥ 2 ^ 63)=false:=aJ (by lia)
  rw[e1,e2,Bool.or_false]) (by rw[h1];simpa using h2) ⟨.str ⟨#[c]⟩,H,I.tok _,⟨_,rfl⟩,q⟩) hs
noncomputable def rIx(K:FG):R2:=λ x y H Q=>tX K x y H Q\/tY K x y H Q\/tZ x y H Q
theorem oH:IxR X (rIx X.K):=ix_list.or (ix_tup.or Br)
theorem Bt(its:LV)(n j:Nat)(u:Value):Obj.mapSeq (·.setIfInBounds j u) { cls:=.type "list",data:=.seq its.toArray n }={ cls:=.type "list",data:=.seq (its.set j u).toArray n }:=by
 simp[Obj.mapSeq]
theorem Inv.lst(I:Inv X pins σ H s)(h:H p=some (.lst xs)) :
  ∃(its:LV) (n:Nat),Vals xs its/\s.heap.get? p=some { cls:=.type "list",data:=.seq its.toArray n }/\xs.length≤sizeLine:=by
 obtain⟨z,its,n,r,e⟩:=I.hok p _ h;exact⟨its,n,r,e,z⟩
theorem Inv.lstUpd{its its':LV}{f:Obj->Obj}(I:Inv X pins σ H s)(h:H p=some (.lst xs))
  (ho:s.heap.get? p=some { cls:=.type "list",data:=.seq its.toArray n }) (hf:f { cls:=.type "list",data:=.seq its.toArray n }={ cls:=.type "list",data:=.seq its'.toArray n' }) (r:Vals ys its') (hz:ys.length≤sizeLine) (t:Nat) :
  Inv X pins σ (upd H p (.lst ys)) { s with heap:=s.heap.update p f,toks:=t }:=by
 have e:(s.heap.update p f).get? p=some { cls:=.type "list",data:=.seq its'.toArray n' }:=by
  rw[eh f ho (by rw[hf]<;>rfl),hf]
 refine I.write (x:=p) (e:=p) (by rw[h];trivial) (.inl rfl) (λ b u hb q=>(cv _ _ (bo hb)).trans q) ⟨_,e⟩ ?_;exact⟨hz,its',n',r,e⟩
noncomputable def Bu:V->V->V->Hp->(Hp->Prop)->Prop:=λ o i v H Q=>∃p xs k j,o=.ref p/\i=.int k/\H p=some (.lst xs)/\ixN xs.length k=some j/\Q (upd H p (.lst (xs.set j v)))
theorem Bv:sV X Bu:=by
 intro pins s σ H o i v ov iv u Q I ro ri rv h;obtain⟨p,xs,k,j,rfl,rfl,hp,hj,q⟩:=h;cases ro;obtain⟨t,rfl⟩:=ri;obtain⟨its,n,r,ho,hz⟩:=I.lst hp;obtain⟨h1,h2,h3,h4⟩:=tV hj;have hl:=r.length;have hn:=iU
 have I':Inv X pins σ (upd H p (.lst (xs.set j v))) { s with heap:=s.heap.update p (Obj.mapSeq (·.setIfInBounds j u)) } :=
  I.lstUpd hp ho (Bt its n j u) (r.set rv j) (by rw[fJ];exact hz) s.toks
 by_cases h0:0≤k
 ·have hk:k.toNat=j:=by
   rw[s1k h0 h4] at h1;exact cr h1
  exact W.ki_setAt ho h0 (by lia) (by rw[aG,← hl];exact h4) (by rw[hk];exact⟨_,I',q⟩)
 ·have hk:(k+(its.toArray.size:Int)).toNat=j:=by
   rw[s1d (by lia) h3] at h1;rw[aG,← hl];exact cr h1
  exact W.ki_setBack ho (by lia) (by rw[aG,← hl];exact h3) (by lia) (by rw[hk];exact⟨_,I',q⟩)
theorem Bw(lo hi:Option Int)(n:Nat):(sliceBounds lo hi none n).1=((_H.sIx n 0 lo:Nat):Int)/\(sliceBounds lo hi none n).2.1=((_H.sIx n n hi:Nat):Int)/\(sliceBounds lo hi none n).2.2=1:=by
 refine⟨?_,?_,rfl⟩
 ·cases lo with
  | none=>simp[sliceBounds,_H.sIx]
  | some i =>
   simp only[sliceBounds,_H.sIx,Option.getD_none,show(1:Int) > 0 by decide,dJ];by_cases h:i < 0
   ·simp only[h,dJ]<;>lia
   ·simp only[h,s1i]<;>lia
 ·cases hi with
  | none=>simp[sliceBounds,_H.sIx]
  | some i =>
   simp only[sliceBounds,_H.sIx,Option.getD_none,show(1:Int) > 0 by decide,dJ];by_cases h:i < 0
   ·simp only[h,dJ]<;>lia
   ·simp only[h,s1i]<;>lia
theorem Bx(its:LV)(lo hi:Option Int):slicePick its.toArray lo hi none=((its.drop (_H.sIx its.length 0 lo)).take (_H.sIx its.length its.length hi - _H.sIx its.length 0 lo)).toArray:=by
 obtain⟨h1,h2,h3⟩:=Bw lo hi its.toArray.size;unfold slicePick;rw[h1,h2,h3];simp only[sliceRange_one,pick_run,aG]<;>rfl
noncomputable def By(K:FG):V->Option Int->Option Int->Hp->VK->Prop:=λ x lo hi H Q=>∃a xs,x=.ref a/\SqL K H a xs/\∀p,H p=none->Q (.ref p) (upd H p (.lst (fG xs lo hi)))
theorem Bz:SlR X (By X.K):=by
 intro pins s σ H x v vl vu lo hi sl Q I rx hs pl pu h;obtain⟨a,xs,rfl,hx,q⟩:=h;cases rx;obtain⟨its,r,ht,hz⟩:=I.list hx;have hlen:=r.length;refine⟨"list",_,slot_list_getitem.lookup,ht.isList.typeIs,?_⟩;refine wpAny_getItem_list_slice ht.isList hs pl pu .none (by simp) ?_ (by rw[aG]<;>lia);rw[Bx,← hlen];refine⟨.ref s.heap.objs.size,_,I.laid (t':=s.toks) (o:=.lst (fG xs lo hi)) (λ b ob q=>aE _ q) (au _) ?_,rfl,q _ (I.hok.fresh (au _))⟩;exact⟨bK (tU xs lo hi) hz,_,0,(r.drop (_H.sIx xs.length 0 lo)).take (_H.sIx xs.length xs.length hi - _H.sIx xs.length 0 lo),bA _ rfl⟩
noncomputable def eU:V->Bool
 | .non=>true
 | .bl _=>true
 | .int _=>true
 | .str _=>true
 | _=>false
noncomputable def eqV:V->V->Bool
 | .non,.non=>true
 | .bl a,.bl b=>a == b
 | .bl a,.int b=>(if a then 1 else 0) == b
 | .int a,.bl b=>a == (if b then 1 else 0)
 | .int a,.int b=>a == b
 | .str a,.str b=>a == b
 | _,_=>false
theorem jV(ry:RelV y u)(rx:RelV x v)(fy:eU y=true)(fx:eU x=true):SeqAt.EqAt A s u v (eqV y x):=by
 cases y with
 | non =>
  cases ry
  cases x with
  | non=>cases rx;exact oJ _
  | bl b=>cases rx;exact SeqAt.EqAt.none_bool b
  | int b=>obtain⟨t,rfl⟩:=rx;exact SeqAt.EqAt.none_int b t
  | str b=>obtain⟨t,rfl⟩:=rx;exact SeqAt.EqAt.none_str b t
  | _=>exact absurd (show false=true from fx) bH
 | bl a =>
  cases ry
  cases x with
  | non=>cases rx;exact SeqAt.EqAt.bool_none a
  | bl b=>cases rx;exact SeqAt.EqAt.bool_bool a b
  | int b=>obtain⟨t,rfl⟩:=rx;exact SeqAt.EqAt.bool_int a b t
  | str b=>obtain⟨t,rfl⟩:=rx;exact SeqAt.EqAt.bool_str a b t
  | _=>exact absurd (show false=true from fx) bH
 | int a =>
  obtain⟨t',rfl⟩:=ry
  cases x with
  | non=>cases rx;exact SeqAt.EqAt.int_none a t'
  | bl b=>cases rx;exact SeqAt.EqAt.int_bool a t' b
  | int b=>obtain⟨t,rfl⟩:=rx;exact s0n a t' b t
  | str b=>obtain⟨t,rfl⟩:=rx;exact s0j a t' b t
  | _=>exact absurd (show false=true from fx) bH
 | str a =>
  obtain⟨t',rfl⟩:=ry
  cases x with
  | non=>cases rx;exact SeqAt.EqAt.str_none a t'
  | bl b=>cases rx;exact SeqAt.EqAt.str_bool a t' b
  | int b=>obtain⟨t,rfl⟩:=rx;exact s0k a t' b t
  | str b=>obtain⟨t,rfl⟩:=rx;exact SeqAt.EqAt.str_str a t' b t
  | _=>exact absurd (show false=true from fx) bH
 | _=>exact absurd (show false=true from fy) bH
noncomputable def eqU(x:V)(u:Value):Bool:=match u with
 | .none=>eqV .non x
 | .bool b=>eqV (.bl b) x
 | .int i _=>eqV (.int i) x
 | .str z _=>eqV (.str z) x
 | _=>false
theorem uc(r:RelV y u)(f:eU y=true):eqU x u=eqV y x:=by
 cases y with
 | non=>cases r;rfl
 | bl b=>cases r;rfl
 | int i=>obtain⟨t,rfl⟩:=r;rfl
 | str z=>obtain⟨t,rfl⟩:=r;rfl
 | _=>exact absurd (show false=true from f) bH
theorem jW:∀ {xs:List V}{us:LV},Vals xs us->xs.all eU=true->us.any (eqU x)=xs.any λ y=>eqV y x
 | _,_,.nil,_=>rfl
 | y::xs,u::us,.cons r t,f=>by
  rw[cw,aX] at f;rw[jX,jX,uc r f.1,jW t f.2]
theorem jY(rx:RelV x v)(fx:eU x=true):∀ {xs:List V}{us:LV},Vals xs us->xs.all eU=true->∀u∈us,SeqAt.EqAt A s u v (eqU x u)
 | _,_,.nil,_=>λ u hu=>by cases hu
 | y::xs,u::us,.cons r t,f=>λ u' hu=>by
  rw[cw,aX] at f
  rcases av.mp hu with rfl | hu
  ·rw[uc r f.1];exact jV r rx f.1 fx
  ·exact jY rx fx t f.2 u' hu
def inV(x:V)(xs:List V):Bool:=xs.any λ y=>eqV y x
noncomputable def rIn(K:FG)(neg:Bool):R2:=λ x y H Q=>∃p xs,y=.ref p/\(SqL K H p xs\/SqT K H p xs)/\eU x=true/\xs.all eU=true/\Q (.bl (if neg then !inV x xs else inV x xs)) H
theorem BA:OpR X (compareOp .In) (rIn X.K false):=by
 intro pins s σ H x y v u Q I rx ry h;obtain⟨p,xs,rfl,hq,fx,fs,q⟩:=h;cases ry
 rcases hq with hq | hq
 ·obtain⟨its,r,pl,hz⟩:=I.list hq;refine SeqAt.in_listAt (eqU x) pl.isList (λ w hw=>jY rx fx r fs w (by simpa using hw)) ⟨.bl _,H,I,rfl,?_⟩;rw[show its.toArray.any (eqU x)=its.any (eqU x) by simp,jW r fs];exact q
 ·obtain⟨its,r,pl,hz⟩:=I.tuple hq;refine SeqAt.in_tupleAt (eqU x) pl (λ w hw=>jY rx fx r fs w (by simpa using hw)) ⟨.bl _,H,I,rfl,?_⟩;rw[show its.toArray.any (eqU x)=its.any (eqU x) by simp,jW r fs];exact q
theorem BB:OpR X (compareOp .NotIn) (rIn X.K true):=by
 intro pins s σ H x y v u Q I rx ry h;obtain⟨p,xs,rfl,hq,fx,fs,q⟩:=h;cases ry
 rcases hq with hq | hq
 ·obtain⟨its,r,pl,hz⟩:=I.list hq;refine SeqAt.notIn_listAt (eqU x) pl.isList (λ w hw=>jY rx fx r fs w (by simpa using hw)) ⟨.bl _,H,I,rfl,?_⟩;rw[show its.toArray.any (eqU x)=its.any (eqU x) by simp,jW r fs];exact q
 ·obtain⟨its,r,pl,hz⟩:=I.tuple hq;refine SeqAt.notIn_tupleAt (eqU x) pl (λ w hw=>jY rx fx r fs w (by simpa using hw)) ⟨.bl _,H,I,rfl,?_⟩;rw[show its.toArray.any (eqU x)=its.any (eqU x) by simp,jW r fs];exact q
theorem BC:bG X (.builtin "len") (λ xs H Q=>∃p ys,xs=[.ref p]/\(SqL X.K H p ys\/SqT X.K H p ys)/\Q (.int ys.length) H):=by
 intro pins s σ H xs us Q I r h;obtain⟨p,ys,rfl,hq,q⟩:=h;obtain⟨u,rfl,rx⟩:=cH r;cases rx;have hn:=iU
 rcases hq with hq | hq
 ·obtain⟨its,r',pl,hz⟩:=I.list hq;have hlen:=r'.length;exact Calls.call_len_list pl.isList (by simp only[aG]<;>lia) ⟨.int ys.length,H,I.tok _,⟨s.toks+1,by rw[aG,hlen]⟩,q⟩
 ·obtain⟨its,r',pl,hz⟩:=I.tuple hq;have hlen:=r'.length;exact s0q pl (by simp only[aG]<;>lia) ⟨.int ys.length,H,I.tok _,⟨s.toks+1,by rw[aG,hlen]⟩,q⟩
theorem BE:bG X (.builtin "len") (λ xs H Q=>∃z,xs=[.str z]/\z.length≤sizeLine/\Q (.int z.length) H):=by
 intro pins s σ H xs us Q I r h;obtain⟨z,rfl,hz,q⟩:=h;obtain⟨u,rfl,t,rfl⟩:=cH r;have hn:=iU;exact len_str (by lia) ⟨.int z.length,H,I.tok _,⟨_,rfl⟩,q⟩
theorem BF:bG X (.type "list") (λ xs H Q=>∃p ys,xs=[.ref p]/\(SqL X.K H p ys\/SqT X.K H p ys)/\∀l,H l=none->Q (.ref l) (upd H l (.lst ys))):=by
 intro pins s σ H xs us Q I r h;obtain⟨p,ys,rfl,hq,q⟩:=h;obtain⟨u,rfl,rx⟩:=cH r;cases rx
 have fin:∀(its:LV),Vals ys its->ys.length≤sizeLine->∀(h':Heap) (c':Nat),(∀b o',s.heap.get? b=some o'->h'.get? b=some o') ->
   h'.get? s.heap.objs.size=some { cls:=.type "list",dict:=none,data:=.seq its.toArray c',slots:=#[] }->EP X pins σ Q (.ref s.heap.objs.size) { s with heap:=h' }:=λ its r' hz h' c' kp e =>
  ⟨.ref s.heap.objs.size,_,I.laid (t':=s.toks) kp (au _) (show ObjOk X.prog X.w _ h' _ (.lst ys) from ⟨hz,its,c',r',e⟩),rfl,q _ (I.hok.fresh (au _))⟩
 rcases hq with hq | hq
 ·obtain⟨its,r',pl,hz⟩:=I.list hq;have hlen:=r'.length;obtain⟨o,ho,hc,n,hd⟩:=pl.isList;exact call_list_seq p (.inl rfl) ho hc hd (λ h' c' kp e=>fin its r' hz h' c' kp e) (by simp only[aG]<;>lia)
 ·obtain⟨its,r',pl,hz⟩:=I.tuple hq;have hlen:=r'.length;obtain⟨o,ho,hc,n,hd⟩:=pl;exact call_list_seq p (.inr rfl) ho hc hd (λ h' c' kp e=>fin its r' hz h' c' kp e) (by simp only[aG]<;>lia)
theorem BG:bG X (.type "tuple") (λ xs H Q=>∃p ys,xs=[.ref p]/\((SqL X.K H p ys/\∀l,H l=none->Q (.ref l) (upd H l (.tup ys)))\/(SqT X.K H p ys/\Q (.ref p) H))):=by
 intro pins s σ H xs us Q I r h;obtain⟨p,ys,rfl,h⟩:=h;obtain⟨u,rfl,rx⟩:=cH r;cases rx
 rcases h with ⟨hq,q⟩ | ⟨hq,q⟩
 ·obtain⟨its,r',pl,hz⟩:=I.list hq;have hlen:=r'.length;refine call_tuple_list pl.isList (λ h' kp=>?_) (by simp only[aG]<;>lia);have I1:Inv X pins σ H { s with heap:=h' }:=I.kept (t':=s.toks) kp
  have I2:Inv X pins σ (upd H h'.objs.size (.tup ys)) { s with heap:=h'.push { cls:=.type "tuple",data:=.seq its.toArray } } :=
   I1.laid (t':=s.toks) (λ b o e=>aE _ e) (au _) (show ObjOk X.prog X.w _ _ _ (.tup ys) from ⟨hz,its,r',TupO.new _ _⟩)
  exact⟨.ref h'.objs.size,_,I2,rfl,q _ (I1.hok.fresh (au _))⟩
 ·obtain⟨its,r',pl,hz⟩:=I.tuple hq;exact call_tuple_same pl ⟨.ref p,H,I,rfl,q⟩
noncomputable def tyV(K:FG)(T:String)(x:V)(H:Hp):Prop:=match x with
 | .str _=>T="str"
 | .int _=>T="int"
 | .ref p=>(T="list" /\ ∃xs,SqL K H p xs)\/(T="tuple" /\ ∃o,K.lookup p=some o/\o.cls=.type "tuple" /\ o.dict=none) \/
   (T="dict" /\ ((∃kvs,H p=some (.dK kvs))\/∃kvs,H p=some (.dT kvs)))\/(T="set" /\ ∃S n,H p=some (.set S n))
 | _=>False
theorem ud(I:Inv X pins σ H s)(r:RelV x v)(ty:tyV X.K T x H) :
  s.TypeIs v T/\∀a,v=.ref a->∃ob,s.heap.get? a=some ob/\ob.dict=none:=by
 cases x with
 | str z =>
  obtain⟨t,rfl⟩:=r;cases (show T="str" from ty);exact⟨typeIs_str s z t,λ _ e=>nomatch e⟩
 | int i =>
  obtain⟨t,rfl⟩:=r;cases (show T="int" from ty);exact⟨jZ s i t,λ _ e=>nomatch e⟩
 | ref p =>
  cases r
  rcases ty with ⟨rfl,xs,hq⟩ | ⟨rfl,o,hk,hc,hd⟩ | ⟨rfl,hk⟩ | ⟨rfl,S,n,hk⟩
  ·obtain⟨its,_,pl,_⟩:=I.list hq;refine⟨pl.isList.typeIs,λ a e=>?_⟩;cases e;obtain⟨o,n,e,c,hd,_⟩:=pl;exact⟨o,e,hd⟩
  ·refine⟨⟨o,I.kIn p o hk,hc⟩,λ a e=>?_⟩;cases e;exact⟨o,I.kIn _ o hk,hd⟩
  ·have z:∃o,s.heap.get? p=some o/\o.ExactDict:=by
    rcases hk with ⟨kvs,hk⟩ | ⟨kvs,hk⟩
    ·obtain⟨_,_,_,_,o,_,_,e,ex,_⟩:=I.hok p _ hk;exact⟨o,e,ex⟩
    ·obtain⟨_,_,_,_,o,_,_,e,ex,_⟩:=I.hok p _ hk;exact⟨o,e,ex⟩
   obtain⟨o,e,ex⟩:=z;refine⟨⟨o,e,ex.1⟩,λ a e2=>?_⟩;cases e2;exact⟨o,e,ex.2.1⟩
  ·obtain⟨o,_,_,_,e,ex,_⟩:=I.hok p _ hk;refine⟨⟨o,e,ex.1⟩,λ a e2=>?_⟩;cases e2;exact⟨o,e,ex.2.1⟩
 | _=>exact False.elim ty
noncomputable def BH(K:FG)(T:String)(r:V->List V->Hp->VK->Prop)(to:TE):TE:=λ σ H Q=>to σ H λ x H1=>tyV K T x H1/\r x [] H1 Q
noncomputable def tBM(K:FG)(T:String)(r:V->List V->Hp->VK->Prop)(to:TE)(t:TA):TE:=λ σ H Q=>to σ H λ x H1=>tyV K T x H1/\t σ H1 λ xs H2=>r x xs H2 Q
variable {o e:Expr}{es:List Expr}{to:TE}{t:TA}{name:Str}{apos cpos:Pos}{T id:String}{r:V->List V->Hp->VK->Prop}
theorem BJ(pa:PlainAttrs T)(slot:Slot T name id)(hty:typeOf (.builtin id)=pure (.type "method_descriptor"))(hm:MtR X id r)(ho:PE X o to)
  (hbase:autoParam (attributeBase o name X.env (eval o X.env)=eval o X.env) Z3_) (hline:autoParam ((apos.endLine == cpos.line)=true) Z3_):PE X (.Call (.Attribute o name apos) [] [] cpos) (BH X.K T r to):=by
 intro pins s σ H Q I h;refine wpAny_Call_method0_late hbase hline (thn (ho pins s σ H _ I h) λ v s1 ⟨x,H1,I1,r1,ty,q1⟩=>?_);obtain⟨h1,h2⟩:=ud I1 r1 ty;exact⟨T,id,pa,slot,hty,h1,h2,ue rfl (PySem.evalArgs_none (hm pins s1 σ H1 x [] v [] Q I1 r1 .nil q1))⟩
theorem oK(pa:PlainAttrs T)(slot:Slot T name id)(hty:typeOf (.builtin id)=pure (.type "method_descriptor"))(hm:MtR X id r)(ho:PE X o to)(ha:PA X (e::es) t)
  (hbase:autoParam (attributeBase o name X.env (eval o X.env)=eval o X.env) Z3_)
  (hfew:((backTo cpos (starEach (e::es) X.env)).all (λ x=>!x.1) && (backToKw cpos (keywordEach [] X.env)).all (λ x=>x.1.isSome)
   && decide ((e::es).length+([]:List Keyword).length+(if ([]:List Keyword).isEmpty then 0 else 1) < 30))=true:=by rfl)
  (hline:autoParam ((apos.endLine == cpos.line)=true) Z3_) (hs:autoParam (starEach (e::es) X.env=(false,eval e X.env)::starEach es X.env) Z3_) (hplain:autoParam ((backTo cpos (starEach es X.env)).any (·.1)=false) Z3_) :
  PE X (.Call (.Attribute o name apos) (e::es) [] cpos) (tBM X.K T r to t):=by
 intro pins s σ H Q I h;refine wpAny_Call_method_late hbase hfew hline rfl (thn (ho pins s σ H _ I h) λ v s1 ⟨x,H1,I1,r1,ty,q1⟩=>?_);obtain⟨h1,h2⟩:=ud I1 r1 ty;refine⟨T,id,pa,slot,hty,h1,h2,?_⟩;have hA:=ha cpos pins s1 σ H1 _ I1 q1;rw[hs] at hA ⊢;refine ue (by show(false || (backTo cpos (starEach es X.env)).any (·.1))=false;rw[hplain]<;>rfl) (oM ?_);exact thn hA λ us s2 ⟨vs,H2,I2,r2,q2⟩=>hm pins s2 σ H2 x vs v us Q I2 r1 r2 q2
end
noncomputable def MtM(X:Cx)(id:String)(r:V->List V->Hp->VK->Prop):Prop :=
 ∀(pins:LO) (s:Shared) (σ:St) (H:Hp) (x:V) (xs:List V) (v:Value) (us:LV) (Q:VK),Inv X pins σ H s->RelV x v->Vals xs us->r x xs H Q ->
  wpAny (model X.prog X.w) X.A (call (.builtin id) (v::us)) (EP X pins σ Q) X.xe s
theorem Vals.one:∀ {x:V}{us:LV},Vals [x] us->∃u,us=[u]/\RelV x u
 | _,_,.cons r .nil=>⟨_,rfl,r⟩
theorem Vals.zero:∀ {us:LV},Vals [] us->us=[]
 | _,.nil=>rfl
theorem Vals.dropLast(h:Vals xs us):Vals xs.dropLast us.dropLast:=by
 induction h with
 | nil=>exact .nil
 | cons r t ih =>
  cases t with
  | nil=>exact .nil
  | cons q t'=>exact .cons r ih
theorem Vals.eraseIdx:∀ {xs:List V}{us:LV}(i:Nat),Vals xs us->Vals (xs.eraseIdx i) (us.eraseIdx i)
 | _,_,_,.nil=>.nil
 | _,_,0,.cons _ t=>t
 | _,_,i+1,.cons r t=>.cons r (Vals.eraseIdx i t)
theorem Vals.reverse(h:Vals xs us):Vals xs.reverse us.reverse:=by
 induction h with
 | nil=>exact .nil
 | cons r t ih=>rw[lG,lG];exact Vals.append ih (.cons r .nil)
theorem Vals.rep(h:Vals xs us):∀k:Nat,Vals (List.replicate k xs).flatten (List.replicate k us).flatten
 | 0=>.nil
 | k+1=>by
  rw[dL,dL,eV,eV];exact Vals.append h (Vals.rep h k)
theorem BK{α:Type}(l:List α):l.eraseIdx (l.length - 1)=l.dropLast:=by
 induction l with
 | nil=>rfl
 | cons a r ih =>
  cases r with
  | nil=>rfl
  | cons b r =>
   have e:(a::b::r).length - 1=((b::r).length - 1)+1:=by
    have h1:(a::b::r).length=r.length+2:=rfl;have h2:(b::r).length=r.length+1:=rfl;lia
   rw[e,List.eraseIdx_cons_succ,ih];all_goals rfl
theorem uf{α:Type}:∀(l:List α) (i:Nat),(l.eraseIdx i).length≤l.length
 | [],_=>au _
 | _::_,0=>s0b _
 | _::r,i+1=>kg (uf r i)
theorem ug(its:LV):∀(k:Nat) (acc:LV),
  List.foldl (λ x1 x2=>x1++x2) acc.toArray (List.replicate k its.toArray)=(acc++(List.replicate k its).flatten).toArray
 | 0,acc=>by simp
 | k+1,acc=>by
  have e:acc.toArray++its.toArray=(acc++its).toArray:=by simp
  have e2:(acc++its)++(List.replicate k its).flatten=acc++(List.replicate (k+1) its).flatten:=by
   rw[dL,eV,gc]
  rw[← e2,← ug its k (acc++its),← e,dL,oN]
section
variable {X:Cx}{pins:LO}{σ:St}{H:Hp}{s:Shared}{l b:Addr}{xs ys zs:List V}
theorem Inv.lset{its its':LV}{f:Array Value->Array Value}{t':Nat}(I:Inv X pins σ H s)(hH:H l=some (.lst xs))
  (e:s.heap.get? l=some { cls:=.type "list",data:=.seq its.toArray n }) (hf:f its.toArray=its'.toArray) (hv:Vals ys its') (hz:ys.length≤sizeLine) :
  Inv X pins σ (upd H l (.lst ys)) { s with heap:=s.heap.update l (Obj.mapSeq f),toks:=t' }:=by
 have q:=PySem.IsL.update e f;rw[hf] at q;refine I.write (x:=l) (e:=l) (by rw[hH];exact trivial) (.inl rfl) (λ b' u hb hu=>(cv s.heap (Obj.mapSeq f) (bo hb)).trans hu) ⟨_,q⟩ ?_;exact⟨hz,its',_,hv,q⟩
theorem Inv.lnew{t':Nat}(I:Inv X pins σ H s)(hv:Vals ys its)(hz:ys.length≤sizeLine) :
  Inv X pins σ (upd H s.heap.objs.size (.lst ys)) { s with heap:=s.heap.push { cls:=.type "list",data:=.seq its.toArray },toks:=t' } :=
 I.laid (λ _ _ q=>aE _ q) (au _) ⟨hz,its,0,hv,bA _ rfl⟩
theorem Inv.fresh(I:Inv X pins σ H s):H s.heap.objs.size=none:=I.hok.fresh (au _)
theorem Inv.lstM(I:Inv X pins σ H s)(hH:H l=some (.lst xs)):xs.length≤sizeLine/\∃(its:LV) (n:Nat),Vals xs its/\xs.length=its.length/\s.heap.get? l=some { cls:=.type "list",data:=.seq its.toArray n }:=by
 obtain⟨z,its,n,r,e⟩:=I.hok l _ hH;exact⟨z,its,n,r,r.length,e⟩
theorem BL{n:Nat}(h:n≤sizeLine):Builtin.List.listTooLong n=false:=by
 unfold Builtin.List.listTooLong;exact aJ (by lia)
end
section
variable {X:Cx}
noncomputable def lH:V->List V->Hp->VK->Prop:=λ x vs H Q=>∃l xs y,x=.ref l/\vs=[y]/\H l=some (.lst xs)/\xs.length < sizeLine/\Q .non (upd H l (.lst (xs++[y])))
theorem BM:MtM X "list.append" lH:=by
 intro pins s σ H x vs v us Q I rx rv h;obtain⟨l,xs,y,rfl,rfl,hH,hz,q⟩:=h;cases rx;obtain⟨u,rfl,ru⟩:=rv.one;obtain⟨z,its,n,r,hl,e⟩:=I.lstM hH;refine eo s0r ⟨_,e,rfl⟩ s0c (uh _ _) (PySem.list_append l its.toArray n u (by rw[aG];lia)) ⟨e,?_⟩;refine⟨.non,_,I.lset (its':=its++[u]) hH e (by simp) (r.append (.cons ru .nil)) ?_,rfl,q⟩;rw[aC,cK];lia
noncomputable def lJ:V->List V->Hp->VK->Prop:=λ x vs H Q=>∃l xs y,x=.ref l/\vs=[]/\H l=some (.lst xs)/\xs[xs.length - 1]?=some y/\Q y (upd H l (.lst xs.dropLast))
theorem BO:MtM X "list.pop" lJ:=by
 intro pins s σ H x vs v us Q I rx rv h;obtain⟨l,xs,y,rfl,rfl,hH,hy,q⟩:=h;cases rx;have hus:=rv.zero;subst hus;obtain⟨z,its,n,r,hl,e⟩:=I.lstM hH;obtain⟨u,hu,ru⟩:=r.get hy
 have hy':its.toArray[its.toArray.size - 1]?=some u:=by
  show its.toArray[its.length - 1]?=some u;rw[← lK,← hl];exact hu
 refine eo F.slot_list_pop ⟨_,e,rfl⟩ F.entry_list_pop (F.args_list_pop_1 _) (MeetsSeq.list_pop_last l its.toArray n u hy' (by rw[aG];lia)) ⟨e,?_⟩;refine⟨y,_,I.lset (its':=its.dropLast) hH e ?_ r.dropLast ?_,ru,q⟩
 ·show its.toArray.eraseIdxIfInBounds (its.toArray.size - 1)=its.dropLast.toArray;rw[aG,ui,BK]
 ·rw[List.length_dropLast];lia
noncomputable def kh:V->List V->Hp->VK->Prop:=λ x vs H Q=>∃l xs i k y,x=.ref l/\vs=[.int i]/\H l=some (.lst xs)/\-(2 ^ 63)≤i/\i < 2 ^ 63/\seqIndex? i xs.length=some k/\xs[k]?=some y/\Q y (upd H l (.lst (xs.eraseIdx k)))
theorem BP:MtM X "list.pop" kh:=by
 intro pins s σ H x vs v us Q I rx rv h;obtain⟨l,xs,i,k,y,rfl,rfl,hH,h1,h2,hk,hy,q⟩:=h;cases rx;obtain⟨u,rfl,ru⟩:=rv.one;obtain⟨t,rfl⟩:=ru;obtain⟨z,its,n,r,hl,e⟩:=I.lstM hH;obtain⟨w,hw,rw'⟩:=r.get hy
 refine eo F.slot_list_pop ⟨_,e,rfl⟩ F.entry_list_pop (F.args_list_pop_2 _ _)
  (MeetsSeq.list_pop_at l its.toArray n i t k w (oO h1 h2) (by rw[aG,← hl];exact hk) (by rw[← lK];exact hw) (by rw[aG];lia)) ⟨e,?_⟩
 refine⟨y,_,I.lset (its':=its.eraseIdx k) hH e ?_ (r.eraseIdx k) ?_,rw',q⟩
 ·show its.toArray.eraseIdxIfInBounds k=(its.eraseIdx k).toArray;rw[ui]
 ·have:=uf xs k;lia
noncomputable def BQ:R2:=λ x y H Q=>∃l k xs,x=.ref l/\y=.int k/\H l=some (.lst xs)/\-(2 ^ 63)≤k/\k < 2 ^ 63/\xs.length * k.toNat≤sizeLine /\
 ∀p,H p=none->Q (.ref p) (upd H p (.lst (List.replicate k.toNat xs).flatten))
theorem uj{α:Type}(xs:List α)(k:Nat):(List.replicate k xs).flatten.length=k * xs.length:=by
 induction k with
 | zero=>simp
 | succ k ih=>rw[dL,eV,aC,ih,Nat.succ_mul,Nat.add_comm]
theorem BR:OpR X (binaryOp .Mult) BQ:=by
 intro pins s σ H x y v u Q I rx ry h;obtain⟨l,k,xs,rfl,rfl,hH,h1,h2,hz,q⟩:=h;cases rx;obtain⟨t,rfl⟩:=ry;obtain⟨z,its,n,r,hl,e⟩:=I.lstM hH;have hlen:its.toArray.size * k.toNat≤sizeLine:=by rw[aG,← hl];exact hz
 have hcap:¬its.toArray.size * k.toNat > (2 ^ 63 - 1) / 8:=by
  have:(sizeLine:Nat)≤(2 ^ 63 - 1) / 8:=by decide
  lia
 have hfit:¬(!Builtin.List.listFitsIndex k)=true:=by
  rw[oO h1 h2];exact bH
 have hlong:¬Builtin.List.listTooLong (its.toArray.size * k.toNat)=true:=by
  rw[BL hlen];exact bH
 have hnew:List.foldl (λ x1 x2=>x1++x2) #[] (List.replicate (if its.toArray.isEmpty=true then 0 else k.toNat) its.toArray)=(List.replicate k.toNat its).flatten.toArray:=by
  have f0:∀m:Nat,List.foldl (λ x1 x2=>x1++x2) #[] (List.replicate m its.toArray)=(List.replicate m its).flatten.toArray:=λ m=>by
   have:=ug its m [];rw[oP] at this;exact this
  rw[f0]
  cases its with
  | nil=>simp
  | cons a r'=>rw[if_neg (by simp)]
 refine uk (T := "list") (U := "int") (by decide) ⟨_,e,rfl⟩ (λ s'=>jZ s' k t) noFill_list_mul F.fills_int_mul lL repeat_list F.slot_int_index.lookup
  (eo lL (jZ s k t) F.entry_int_rmul (F.args_int_rmul_2 _ _) (int___rmul___int_list k t l its.toArray n)
   ⟨e,rfl,⟨_,e,rfl⟩,eo F.slot_list_mul ⟨_,e,rfl⟩ F.entry_list_mul (F.args_list_mul_2 _ _) (AutoListH.list___mul___list_int_3 l its.toArray n k t hfit hcap hlong) ⟨e,?_⟩⟩)
 rw[hnew];exact⟨.ref _,_,I.lnew (t':=s.toks) (r.rep k.toNat) (by rw[uj,s1e];exact hz),rfl,q _ I.fresh⟩
end
section
variable {prog:Program}{w:World}{A:Around}{E:VS}{s:Shared}
end
section
variable {X:Cx}
end
end _L
namespace Att
open PySem PySem.W PySem.Calls PyProof.Rows
theorem BS:∀(ns:LIq) (vs:LV),WellAll P h vs (ns.map WData.int)->IntsAre vs ns:=by
 intro ns
 induction ns with
 | nil =>
  intro vs w;rw[cJ] at w;cases w;exact .nil
 | cons n ns ih =>
  intro vs w;rw[bc] at w
  cases w with
  | cons a b =>
   cases a;exact .cons _ _ (ih _ b)
theorem BU{l:OpenLaw}(hn:l.most=some n)
  (hpre:l.row.toRowW.claim.pre args=true) (hwl:WellAll P h vals args) :
  ∃a vs ns,vals=[Value.ref a]/\args=[WData.list (ns.map WData.int)]/\h.get? a=some { cls:=.type "list",data:=.seq vs.toArray }/\IntsAre vs ns/\ns.length≤n:=by
 have hsh:WShape.hasAll [] args [.list .int]=true:=(pre_splitW hpre).1;have hc:l.pre.holds [] { args:=args }=true:=(pre_splitW hpre).2;obtain⟨d,r,rfl,h1,h2⟩:=hasAllW_cons hsh;obtain rfl:=hasAllW_nil h2;obtain⟨xs,rfl,h3⟩:=hasW_list h1;obtain⟨ns,rfl⟩:=items_int h3
 have hlen:ns.length≤n:=by
  unfold OpenLaw.pre at hc
  have h4:(WTm.not (.lt (.lit (.int (n:Int))) (.len (.arg 0)))).holds [] { args:=[.list (ns.map .int)] }=true:=by
   have h4:=(holds_andW hc).1;rw[hn] at h4;exact h4
  have h5:=condW_of h4 (w_not (w_lt w_lit (w_len_list (w_arg rfl))));rw[aj] at h5;refine Nat.le_of_not_lt λ q=>?_;have q':(n:Int) < ((ns.length:Nat):Int):=by lia
  first
   | (rw[bw q'] at h5;exact absurd h5 (by decide))
   | (simp at h5;lia)
 cases hwl with
 | cons w1 w2 =>
  cases w2
  cases w1 with
  | list ho hall=>exact⟨_,_,ns,rfl,rfl,ho,BS ns _ hall,hlen⟩
theorem BV(l:OpenLaw)(args:List WData):l.row.toRowW.claim.post args (.bool true) args=true :=
 postW_of (r:=l.row.toRowW) (X:=(true == true))
  (show WShape.has [] (.bool true) .bool=true by first | rfl | decide | simp[WShape.has,WShape.arms,WShape.armsAll])
  (show(WTm.eq .res (.lit (.bool true))).value [] { args:=args,res:=some (.bool true),after:=args }=some (.bool (true == true)) from w_eq_bool (w_res rfl) w_lit) rfl
theorem attach_call{l:OpenLaw}{YP:World->Heap->Prop}{d:DefRec}
  (hn:l.most=some n) (hdf:d.params.defaults=[])
  (call:∀(w:World) (s₀ s₁:Shared) (mg mb:SV) (fa:Addr) (o:Obj) (pm cd doc:Value) (a:Addr) (vs:LV) (ns:LIq),
   Ground q loose [] XP w s₀ mg mb s₁.heap->YP w s₁.heap ->
   s₁.heap.get? fa=some o->o.data=.func (docDef d.name d.params d.body d.scope pm cd doc)->s₁.heap.CodeRec cd d.name->mg d.name=some (.ref fa) ->
   s₁.heap.get? a=some { cls:=.type "list",data:=.seq vs.toArray }->IntsAre vs ns->ns.length≤n->s₁.gens=#[] ->
   codeAny (model l.prog w) callerA (.call (.ref fa) ⟨[.ref a],[]⟩) (λ r s'=>r=.ok (.ret (.bool true))/\OldK s₁.heap s'.heap/\s'.os=s₁.os/\AllBare s'.gens) s₁) :
  WalkO q loose XP YP l.row.toRowW d [] (λ f vs=>PySem.call f vs):=by
 intro w s₀ s₁ mg mb G Y fa o pm cd doc dV kV ho hd hcd hD hmg hg args vals as hpre hlay hrd hwl hlo;obtain rfl:dV=.none:=Dflts.none hD hdf;obtain rfl:kV=.none:=Dflts.noKw hD;obtain⟨a,vs,ns,rfl,rfl,hobj,hints,hlen⟩:=BU hn hpre hwl;refine enter_call (jS (call w s₀ s₁ mg mb fa o pm cd doc a vs ns G Y ho (fd_plain hd) hcd hmg hobj hints hlen hg) λ r s' hq=>?_);obtain⟨rfl,h2,h3,h4⟩:=hq;exact⟨.inl ⟨.bool true,.bool true,[],rfl,λ _=>rfl,.bool true,BV l _,λ _=>⟨List.Pairwise.nil,λ _ hm=>(nomatch hm)⟩⟩,h2,h3,h4⟩
section
variable {prog:Program}{w:World}{A:Around}{E:VS}{s:Shared}{K:Frag}
end
end Att
namespace _L
open PySem PySem.Spec PyProof.Rows
theorem oQ:∀ {vs:LV}{ns:LIq},IntsAre vs ns->Vals (ns.map V.int) vs
 | _,_,.nil=>.nil
 | _,_,.cons n t h=>.cons ⟨t,rfl⟩ (oQ h)
noncomputable def oR(H:Hp):Prop:=∀b,H b=none\/∃o xs,H b=some (.frz o (.lst xs))
theorem BW{K:FG}{fa a:Addr}{x:Str}{s₁:Shared}{vs:LV}
  (KX:K.In s₁.heap) (hns:s₁.heap.Ns mainGlobals mg) (hb:s₁.heap.Ns builtinsNs mb) (hbb:∀x:Str,x ≠ "__name__" -> mb x=bootBuiltins x) (hlim:s₁.heap.NoLimit) (hg:s₁.gens=#[])
  (ha:s₁.heap.get? a=some { cls:=.type "list",data:=.seq vs.toArray }) (hi:IntsAre vs ns) (hl:ns.length≤sizeLine) (hr:Room k callerA)
  (F:∀base:Heap,K.In base->base.Ns mainGlobals mg->FnOk P w K mg base CX k fa fd [x] sp) (hbind:∀(s:Shared) (u:Value),BindsTo s fd ⟨[u],[]⟩ [(x,u)])
  (hsp:∀H:Hp,oR H->SqL K H a (ns.map V.int)->sp [.ref a] H (λ v _=>v=.bl true) λ _ _ _=>False)
  (hCX:∀H e s',CX [] H s₁ (λ _ _ _=>False) e s'->False) :
  codeAny (model P w) callerA (.call (.ref fa) ⟨[.ref a],[]⟩) (λ r s'=>r=.ok (.ret (.bool true))/\OldK s₁.heap s'.heap/\s'.os=s₁.os/\AllBare s'.gens) s₁:=by
 have rv:=oQ hi;have lenV:=hi.length
 have core:∀H:Hp,oR H->SqL K H a (ns.map V.int)->HOk P w H s₁.heap->(∀b,H b≠none->b=a)->(H a≠none->K.lookup a=none) ->
   codeAny (model P w) callerA (.call (.ref fa) ⟨[.ref a],[]⟩) (λ r s'=>r=.ok (.ret (.bool true))/\OldK s₁.heap s'.heap/\s'.os=s₁.os/\AllBare s'.gens) s₁:=by
  intro H hO hS hok hA hK;have base_of:∀ {b:Addr}{o:Obj},s₁.heap.get? b=some o->H b=none->(fq s₁.heap H).get? b=some o:=λ e n=>zn e n
  have noA:∀ {b:Addr}{o:Obj}{es:Array DictEntry}{ep:Nat},s₁.heap.get? b=some o->o.data=.dict es ep->H b=none:=λ {b o es ep} e d=>by
   cases q:H b with
   | none=>rfl
   | some u =>
    have e':b=a:=hA b (by rw[q];simp);subst e';rw[ha] at e;cases e;have d':Data.seq vs.toArray _=Data.dict es ep:=d;cases d'
  have nsK:∀ {b:Addr}{m:SV},s₁.heap.Ns b m->(fq s₁.heap H).Ns b m:=λ {b m} ⟨o,es,ep,e,d,r⟩=>⟨o,es,ep,base_of e (noA e d),d,r⟩
  have hKb:K.In (fq s₁.heap H):=λ b o e=>base_of (KX b o e) (by
   cases q:H b with
   | none=>rfl
   | some u =>
    have e':b=a:=hA b (by rw[q];simp);subst e'
    rw[hK (by rw[q];simp)] at e;cases e)
  have hM:Mod K mg (fq s₁.heap H):=⟨hKb,nsK hns,⟨mb,nsK hb,hbb⟩,let ⟨mc,h1,h2⟩:=hlim;⟨mc,nsK h1,h2⟩⟩;have e0:Env0 P w K mg (fq s₁.heap H) callerA [] s₁ H:=⟨rfl,hM,λ b o e=>zq e,Nat.le_of_eq (zm _ _),trivial,λ b hb=>absurd (show b∈([]:List Addr) from hb) (by simp),hok,.of_eq hg⟩;refine jS ((F _ hKb (nsK hns)).run callerA [] s₁ H ⟨[.ref a],[]⟩ [.ref a] [.ref a] _ _ hr e0 (hbind s₁ (.ref a)) (.cons rfl .nil) (hsp H hO hS)) λ r s' h=>?_
  cases r with
  | error e=>exact(hCX H e s' h).elim
  | ok fl =>
   cases fl with
   | next=>exact False.elim h
   | brk=>exact False.elim h
   | cont=>exact False.elim h
   | ret u =>
    obtain⟨v,H',os,bare,un,hok',r',q⟩:=h;have q':v=.bl true:=q;subst q';obtain rfl:u=Value.bool true:=r';refine⟨rfl,OldK.of_keep λ b o e=>?_,os,bare⟩
    cases q:H b with
    | none=>exact un.keep b o e q (by intro z;exact absurd (show b∈([]:List Addr) from z) (by simp)) (by simp)
    | some u =>
     rcases hO b with z | ⟨ob,xs,z⟩
     ·rw[q] at z;cases z
     ·have z2:=un.frzs b ob _ z;obtain⟨e1,_⟩:=hok b _ z;obtain⟨e2,_⟩:=hok' b _ z2;rw[e] at e1;cases e1;exact e2
 cases hk:K.lookup a with
 | some o =>
  have e:=KX a o hk;rw[ha] at e;cases e;refine core (λ _=>none) (λ _=>.inl rfl) (.inr ⟨_,vs.toArray,_,hk,rfl,rfl,rfl,by rw[aG,lenV];exact hl,by simpa using rv⟩) (λ b u z=>by have z':(none:Option HO)=some u:=z;cases z') (λ b z=>absurd rfl z) λ z=>absurd rfl z
 | none =>
  refine core (λ b=>if b=a then some (.frz { cls:=.type "list",data:=.seq vs.toArray } (.lst (ns.map V.int))) else none) (λ b=>?_) (.inl (.inr ⟨{ cls:=.type "list",data:=.seq vs.toArray },if_pos rfl⟩)) (λ b u z=>?_) (λ b z=>?_) λ _=>hk
  ·by_cases hb:b=a
   ·exact .inr ⟨_,_,if_pos hb⟩
   ·exact .inl (if_neg hb)
  ·by_cases hb:b=a
   ·have z':=(if_pos hb).symm.trans z;cases z';subst hb;exact⟨ha,by rw[aj];exact hl,vs,_,rv,ha⟩
   ·have z':=(if_neg hb).symm.trans z;cases z'
  ·by_cases hb:b=a
   ·exact hb
   ·exact absurd (if_neg hb) z
theorem walk_of{l:W.OpenLaw}{YP:World->Heap->Prop}{d:DefRec}{K:Params->FG}{CX:World->CXT}{sp:World->Sp}{x:Str}
  (hn:l.most=some n) (hn2:n≤sizeLine) (hdf:d.params.defaults=[]) (hr:Room k callerA)
  (hY:∀(w:World) (h:Heap),YP w h->(K w.params).In h)
  (F:∀(w:World) (mg:SV) (fa:Addr) (h:Heap),(K w.params).In h->h.Ns mainGlobals mg->mg d.name=some (.ref fa) ->
   ∃fd:FuncData,(∀(s:Shared) (u:Value),BindsTo s fd ⟨[u],[]⟩ [(x,u)]) /\
    ∀base:Heap,(K w.params).In base->base.Ns mainGlobals mg->FnOk l.prog w (K w.params) mg base (CX w) k fa fd [x] (sp w))
  (hsp:∀(w:World) (H:Hp) (a:Addr) (ns:LIq),ns.length≤n->oR H->SqL (K w.params) H a (ns.map V.int)->sp w [.ref a] H (λ v _=>v=.bl true) λ _ _ _=>False)
  (hCX:∀(w:World) (H:Hp) (s:Shared) (e:Value) (s':Shared),CX w [] H s (λ _ _ _=>False) e s'->False) :
  W.WalkO q loose XP YP l.row.toRowW d [] (λ f vs=>PySem.call f vs):=by
 refine Att.attach_call hn hdf λ w s₀ s₁ mg mb fa o pm cd doc a vs ns G Y ho hd hcd hmg hobj hints hlen hg=>?_;have KX:=hY w _ Y;obtain⟨fd,hb,hF⟩:=F w mg fa _ KX G.T.g hmg;exact BW KX G.T.g G.T.b G.T.builtins G.T.nolimit hg hobj hints (bK hlen hn2) hr hF hb (λ H hO hS=>hsp w H a ns hlen hO hS) λ H e s'=>hCX w H s₁ e s'
noncomputable def gW(s:Stmt):Arguments:=match s with
 | .FunctionDef _ a _ _ _ _ _ _ _ _=>a
 | _=>{ posonlyargs:=[],args:=[],vararg:=none,kwonlyargs:=[],kw_defaults:=[],kwarg:=none,defaults:=[] }
noncomputable def bu(s:Stmt):List Stmt:=match s with
 | .FunctionDef _ _ b _ _ _ _ _ _ _=>b
 | _=>[]
noncomputable def aD(s:Stmt):Scope:=match s with
 | .FunctionDef _ _ _ _ _ _ sc _ _ _=>sc
 | _=>{ kind:=.function,names:=[],isGenerator:=false,isCoroutine:=false }
abbrev CX0:CXT:=λ _ _ _ _ _ _=>False
abbrev E0:XK:=λ _ _ _=>False
theorem um:iW CX0 X E0:=λ _ _ _ _ _ _ _ h=>h.elim
structure Fun (K:FG)(x qual:Str)(st:Stmt)(f:Addr)(fd:FuncData):Prop where
 ex:∃(oc:Value) (od:OA) (kV doc pm:Value) (an:OA) (cdv ct:Value) (osl:AV),
  fd=W.fnOf x qual (gW st) (bu st) (aD st) .none kV doc pm an cdv ct/\K.lookup f=some ⟨oc,od,.func fd,osl⟩/\W.codeIn K cdv qual=true
 kp:W.keepIn K (.ref f)=true
section
variable {P:Program}{w:World}{K:FG}{mg:SV}{base:Heap}
theorem Fun.ok{st:Stmt}{sp:Sp}(F:Fun K x qual st f fd)(S:FnScope N ps (aD st))(len:∀vs H Q E,sp vs H Q E->vs.length=ps.length)
  (hbody:∀(cdv:Value) (A:Around) (outer:List Env) (s:Shared) (H:Hp) (vs:List V) (Q:VK) (E:XK),Room k (A.deeper (envOfC qual (aD st) s.heap.objs.size f cdv))->sp vs H Q E ->
   ∃t,PSs (bN CX0 P w K mg base N qual (aD st) f cdv A outer s H E).nox (bu st) t/\t { nx:=λ _ H'=>Q .non H',rt:=Q } (cI N vs) H):FnOk P w K mg base CX0 (k+1) f fd ps sp:=by
 obtain⟨oc,od,kV,doc,pm,an,cdv,ct,osl,rfl,lk,hcd⟩:=F.ex;refine oz lk hcd S len λ A outer s H vs Q E hr hsp=>?_;obtain⟨t,h,q⟩:=hbody cdv A outer s H vs Q E hr hsp;exact⟨t,h.nox,q⟩
theorem Fun.binds{st:Stmt}{ps:List Str}(F:Fun K x qual st f fd)
  (h:∀(kV doc pm:Value) (an:OA) (cdv ct:Value) (us:LV),us.length=ps.length->bindArgs (W.fnOf x qual (gW st) (bu st) (aD st) .none kV doc pm an cdv ct) ⟨us,[]⟩=pure (ps.zip us)):Binds K fd ps []:=by
 obtain⟨oc,od,kV,doc,pm,an,cdv,ct,osl,rfl,lk,hcd⟩:=F.ex;exact .all (h kV doc pm an cdv ct)
theorem uo{st:Stmt}{oc:Value}{od an:OA}{osl:AV}{kV doc pm cdv ct:Value}(l:K.lookup f=some ⟨oc,od,.func (W.fnOf x qual (gW st) (bu st) (aD st) .none kV doc pm an cdv ct),osl⟩)
  (c:W.codeIn K cdv qual=true) (k:W.keepIn K (.ref f)=true):Fun K x qual st f (W.fnOf x qual (gW st) (bu st) (aD st) .none kV doc pm an cdv ct):=⟨⟨oc,od,kV,doc,pm,an,cdv,ct,osl,rfl,l,c⟩,k⟩
end
theorem aQ{n:Nat}(h:n≤1000):n < sizeLine:=s0s h (by decide)
section
variable {X:Cx}
theorem pv(i:Nat)(hN:autoParam (X.N[i]?=some x) Z3_)(hv:autoParam (Vis X.env.scope x) Z5_)(hd:autoParam ((x == ("__debug__" : Str))=false) Z1_)
  (hcd:autoParam ((x == ("__classdict__" : Str))=false) Z1_):PE X (.Name x pos) (dX i):=gQ hN hv hd hcd
end
end _L
set_option maxHeartbeats 4000000
namespace _L
open PySem PySem.Spec PyProof.Rows
section
variable {prog:Program}{w:World}{A:Around}{R:Result->Shared->Prop}{s:Shared}
theorem BX{elt target iter:Expr}{it acc:Value}(I:Nat->Shared->Prop)
  (turn:∀n s,I n s->wpAny (model prog w) A (pyNext it) (λ r s₁=>match r with
   | none=>R (.ok .next) s₁
   | some v=>wpAny (model prog w) A (letOwnedTupleGo target it v) (λ _ s₀=>wpAny (model prog w) A (assign target env v) (λ _ s₂=>wpAny (model prog w) A (eval elt env) (λ x s₃ =>
     wpAny (model prog w) A (call (.builtin "list.append") [acc,x]) (λ _ s₄=>∃m,m < n/\I m s₄) (λ _ _=>False) s₃)
     (λ _ _=>False) s₂) (λ _ _=>False) s₀) (λ _ _=>False) s₁) (λ _ _=>False) s)
  (n:Nat) (h:I n s) :
  codeAny (model prog w) A (.compLoop (.ListComp elt [⟨target,iter,[],0⟩] scope pos) 0 it acc env) R s:=by
 refine codeAny_loop rfl I (λ n s hI=>?_) n h;show wpAny _ _ ((compTurn (.ListComp elt [⟨target,iter,[],0⟩] scope pos) 0 it acc env).onRaise (λ x=>do noteFrame x env;theTreesLotGoes x)) _ _ s;refine wpAny_noted ?_;rw[compTurn_list1];refine ae (fE (ae (bL (turn n s hI) (λ r s₁ h₁=>?_) λ _ _ h'=>h'.elim)))
 cases r with
 | none=>exact ak h₁
 | some v =>
  refine ae (bL h₁ (λ _ s₀ h₀=>?_) λ _ _ h'=>h'.elim)
  exact ae (bL h₀ (λ _ s₂ h₂=>ae (ae (bL h₂ (λ x s₃ h₃=>ae (bL h₃
   (λ _ s₄ h₄=>ak (ak ⟨rfl,h₄⟩)) λ _ _ h'=>h'.elim)) λ _ _ h'=>h'.elim))) λ _ _ h'=>h'.elim)
end
noncomputable def bv(X:Cx)(N:List Str)(scope:Scope)(cl:LA)(C:Addr)(ex:List Addr)(s:Shared)(H:Hp):Cx where
 prog:=X.prog
 w:=X.w
 K:=X.K
 mg:=X.mg
 base:=X.base
 A:=X.A
 N:=N
 s₀:=s
 H₀:=H
 env:=compEnvC scope cl C X.env
 outer:=X.stack
 stack:=X.stack
 ex:=ex
 fn:=λ _=>false
 calm:=X.calm
 pn:=X.pn
 xe:=λ _ _=>False
noncomputable def cL(k:Nat)(js:List Nat)(σ:St):St:=List.replicate k none++js.map λ j=>(σ[j]?).join
noncomputable def iZ(wi:TI)(k:Nat)(js:List Nat)(g:TG)(te:TE):TE:=λ σ H Q=>wi σ H λ J H1 =>
 ∃W:Nat->Nat->List V->St->Hp->Prop,(∃m,W 0 m [] (cL k js σ) H1)/\∀i m ys σ' H',W i m ys σ' H' ->
  (J.stop i H'/\∀p,H' p=none->Q (.ref p) (upd H' p (.lst ys))) \/
  (J.go i H'/\ys.length < sizeLine/\∃N:List V->St->Hp->Prop,(∀zs σ2 H2,N zs σ2 H2->∃m',m' < m/\W (i+1) m' zs σ2 H2) /\
   ∀x H2,J.yld i H' x H2->g x σ' H2 λ σ3 H3=>te σ3 H3 λ v H4=>N (ys++[v]) σ3 H4)
structure Cap (X:Cx)(scope:Scope)(cl:LA)(x:Str)(j:Nat):Prop where
 at_:X.N[j]?=some x
 out:X.env.scope.names.lookup x=some .cell\/X.env.scope.names.lookup x=some .free
 inn:(relabel scope X.env).names.lookup x=some .cell\/(relabel scope X.env).names.lookup x=some .free
theorem BY{σ:St}{j:Nat}(h:(σ[j]?).join=some v):σ[j]?=some (some v):=by
 cases e:σ[j]? with
 | none=>rw[e] at h;cases h
 | some o =>
  rw[e] at h
  cases o with
  | none=>cases h
  | some u=>cases h;rfl
noncomputable def gX(wi:TI)(k:Nat)(js:List Nat)(g:TG)(tc:TT)(te:TE):TE:=λ σ H Q=>wi σ H λ J H1 =>
 ∃W:Nat->Nat->List V->St->Hp->Prop,(∃m,W 0 m [] (cL k js σ) H1)/\∀i m ys σ' H',W i m ys σ' H' ->
  (J.stop i H'/\∀p,H' p=none->Q (.ref p) (upd H' p (.lst ys))) \/
  (J.go i H'/\ys.length < sizeLine/\∃N:List V->St->Hp->Prop,(∀zs σ2 H2,N zs σ2 H2->∃m',m' < m/\W (i+1) m' zs σ2 H2) /\
   ∀x H2,J.yld i H' x H2->g x σ' H2 λ σ3 H3=>tc σ3 H3 λ b H4=>if b=true then te σ3 H4 λ v H5=>N (ys++[v]) σ3 H5 else N ys σ3 H4)
noncomputable abbrev lN:=Program->World->Around->Env->(Bool->Shared->Prop)->Shared->Prop
noncomputable def oU(ifs:List Expr)(T:lN):Prop:=(∀ {prog:Program}{w:World}{A:Around}{R:Result->Shared->Prop}{s:Shared}{elt target iter:Expr}{scope:Scope}{pos:Pos}{it acc:Value}{env:Env}(I:Nat->Shared->Prop),
  (∀n s,I n s->wpAny (model prog w) A (pyNext it) (λ r s₁=>match r with
   | none=>R (.ok .next) s₁
   | some v=>wpAny (model prog w) A (letOwnedTupleGo target it v) (λ _ s₀=>wpAny (model prog w) A (assign target env v) (λ _ s₂=>T prog w A env (λ b s₃ =>
     if b=true then wpAny (model prog w) A (eval elt env) (λ x s₄ =>
      wpAny (model prog w) A (call (.builtin "list.append") [acc,x]) (λ _ s₅=>∃m,m < n/\I m s₅) (λ _ _=>False) s₄) (λ _ _=>False) s₃
     else ∃m,m < n/\I m s₃) s₂) (λ _ _=>False) s₀) (λ _ _=>False) s₁) (λ _ _=>False) s)->∀n,I n s ->
  codeAny (model prog w) A (.compLoop (.ListComp elt [⟨target,iter,ifs,0⟩] scope pos) 0 it acc env) R s) /\
 ∀ {p w A e k k' s},T p w A e k s->(∀b s,k b s->k' b s)->T p w A e k' s
def uq:lN:=λ _ _ _ _ k s=>k true s
theorem BZ:oU [] uq:=⟨λ I t n h=>BX I t n h,λ h m=>m _ _ h⟩
noncomputable def PM(X:Cx)(T:lN)(tc:TT):Prop:=∀(pins:LO) (s:Shared) (σ:St) (H:Hp) (K:Bool->Hp->Prop),Inv X pins σ H s->tc σ H K->T X.prog X.w X.A X.env (λ b s'=>∃H',Inv X pins σ H' s'/\K b H') s
theorem ur{X:Cx}{elt tg iter:Expr}{cl:LA}{own fv:List Str}{js:List Nat}
    (hc:X.calm=true) (hi:PI X tg iter wi) (hclos:closureFor scope X.env=pure cl) (hcell:∀y∈scope.names,y.2≠.cell) (hkind:scope.kind=.function)
    (hnames:∀y∈scope.names,y.2=.local->scope.names.lookup y.1=some .local)
    (hcl:∀x c,cl.lookup x=some c->X.env.cells.lookup x=some c)
    (hhas:∀x,((relabel scope X.env).names.lookup x=some .cell\/(relabel scope X.env).names.lookup x=some .free)->∃c,cl.lookup x=some c)
    (hlen:js.length=fv.length) (hcap:∀(i:Nat) x j,fv[i]?=some x->js[i]?=some j->Cap X scope cl x j)
    (hg:∀(C:Addr) (ex:List Addr) (s:Shared) (H:Hp),PG (bv X (own++fv) scope cl C ex s H) tg g)
    (he:∀(C:Addr) (ex:List Addr) (s:Shared) (H:Hp),PE (bv X (own++fv) scope cl C ex s H) elt te)
    (ht:∀(C:Addr) (ex:List Addr) (s:Shared) (H:Hp),PM (bv X (own++fv) scope cl C ex s H) T0 tc) (lp:oU ifs T0)
    (hs:∀x,foldedSetIterable iter X.env x=pure x)(I:Inv X pins σ H s) (h:gX wi own.length js g tc te σ H Q)
    (fin:∀(a C:Addr) (s5:Shared) (H5:Hp) (fl:Flow),Inv X pins σ H5 s5->H5 C=none->C≠X.env.locals->X.s₀.heap.objs.size≤C->(∀x c,X.env.cells.lookup x=some c->c≠C)->(∀p∈X.pn++pins,p.1≠C)->(∃m,s5.heap.Ns C m)->Q (.ref a) H5->compPost (model X.prog X.w) X.A X.xe use QQ (.ref a) C (.ok fl) s5) :
    wpAny (model X.prog X.w) X.A (comprehension (.ListComp elt [⟨tg,iter,ifs,0⟩] scope pos) scope X.env fpos (newList []) false (firstIter [⟨tg,iter,ifs,0⟩] X.env) use) QQ X.xe s:=by
  refine wpAny_comprehension_free (use:=use) rfl hs hclos hkind hnames (thn (hi pins s σ H _ I h) λ v s1 h1=>thn h1 λ itv s2 h2=>?_);obtain⟨it,fp,tn,J,H2,e,I2,T,st2,f2,W,⟨m0,w0⟩,turn⟩:=h2;subst e;refine ci (wpAny_newFunctionEnv hcell (by intro y hy;simp at hy) (λ h₁ hns₁ hsb₁=>?_) hkind);dsimp only at hns₁ hsb₁ ⊢;generalize hHp:s2.heap.push { cls:=.type "list",dict:=none,data:=.seq ([]:LV).toArray }=hL at hns₁ hsb₁ ⊢;have hC:hL.objs.size=s2.heap.objs.size+1:=by rw[← hHp,oV]
  have hDC:s2.heap.objs.size≠hL.objs.size:=by rw[hC];exact aZ (gh _)
  have ltC:∀b,b < s2.heap.objs.size->b≠hL.objs.size:=λ b hb=>by rw[hC];exact aZ (dh hb)
  have old:∀b o,s2.heap.get? b=some o->h₁.get? b=some o:=λ b o e=>hsb₁.extBut b o (ltC b (az e)) (aE _ (hHp ▸ aE _ e));have hacc:h₁.get? s2.heap.objs.size=some { cls:=.type "list",data:=.seq ([]:LV).toArray 0 }:=hsb₁.extBut _ _ hDC (aE _ (hHp ▸ bA _ rfl));have hfresh:∀a,s2.heap.objs.size≤a->H2 a=none:=λ a ha=>I2.hok.fresh ha
  have fpL:∀b∈fp,b < s2.heap.objs.size:=λ b hb=>by
    obtain⟨o,e,_⟩:=T.obj _ _ st2 b hb;exact az e
  have cellL:∀x c,cl.lookup x=some c->c < s2.heap.objs.size:=λ x c e=>by
    obtain⟨v,q⟩:=I2.cell x c (hcl x c e);exact q.lt
  have pinL:∀p∈X.pn++pins,p.1 < s2.heap.objs.size:=λ p hp=>az (I2.pin p hp).1;generalize hX:bv X (own++fv) scope cl hL.objs.size fp s2 H2=Y
  have ok:Y.Ok:=by
    subst hX
    refine⟨I2.ok.mod,hkind,I2.ok.glob,I2.ok.blt,by show s2.heap.objs.size≤hL.objs.size;lia,λ x y c h1 h2=>I2.ok.inj x y c (hcl x c h1) (hcl y c h2),λ x hx=>hhas x hx,
      λ x c hf=>absurd hf (by show ¬(false=true);decide),I2.ok.hd,I2.ok.frames,.inl rfl,λ b hb=>⟨ltC b (fpL b hb),λ x c e=>(f2 b hb).2.2.2.2.1 x c (hcl x c e)⟩,I2.bs,bK I2.ok.bsz I2.sz,λ b o e hb=>?_,λ b hb hz=>?_,I2.stack,I2.stkFree⟩
    · rcases(f2 b hb).2.2.2.1 with z | z
      · exact I2.ok.noex b o e z
      · exact absurd (bO (az e) (bK I2.ok.bsz z)) (ce _)
    · rcases av.mp (I2.stkSub b hz) with z | z
      · exact(f2 b hb).2.1 z
      · exact(f2 b hb).2.2.1 z
  have hYl:Y.env.locals=hL.objs.size:=by subst hX;rfl
  have hYs:Y.s₀=s2:=by subst hX;rfl
  have hYH:Y.H₀=H2:=by subst hX;rfl
  have hYx:Y.ex=fp:=by subst hX;rfl
  have hYf:Y.fs=frs X.stack:=by subst hX;rfl
  have hYc:Y.env.cells=cl:=by subst hX;rfl
  have hYp:Y.pn=X.pn:=by subst hX;rfl
  have pinOk:∀p∈X.pn++pins,s2.heap.get? p.1=some p.2/\H2 p.1=none/\p.1≠hL.objs.size/\p.1 ∉ frs X.stack/\∀v,p.2.data≠.cell v:=λ p hp=>by
    obtain⟨e,n,ne,nf,d⟩:=I2.pin p hp;refine⟨e,n,ltC _ (az e),λ z=>?_,d⟩
    rcases av.mp (I2.stkSub _ z) with q | q
    · exact ne q
    · exact nf q
  have stkL:∀b∈frs X.stack,b < s2.heap.objs.size:=λ b hb=>by
    obtain⟨_,o,ho,_⟩:=I2.stack.mem hb;exact az ho
  have I3:Inv Y (pins++[(s2.heap.objs.size,{ cls:=.type "list",data:=.seq ([]:LV).toArray 0 })]) (cL own.length js σ) H2 { s2 with heap:=h₁,toks:=s2.toks+([]:List (Str × Value)).length }:=by
    refine⟨ok,by subst hX;rfl,I2.bare,by rw[hYH,hYs];exact Un.kept old,⟨_,by rw[hYl];exact hns₁,λ i x v e1 e2 e3=>?_⟩,λ x c e=>?_,by rw[hYl];exact hfresh _ (by lia),λ x c e=>?_,λ p hp=>?_,by subst hX;exact I2.hok.kept old,?_⟩
    · subst hX;have e1:(own++fv)[i]?=some x:=e1;unfold cL at e2;by_cases hi:i < own.length
      · rw[eT (by simpa using hi),jU] at e2;split at e2<;>cases e2
      · rw[ef (by simpa using hi),dH,bW] at e2;rw[ef (by lia)] at e1
        cases ej:js[i - own.length]? with
        | none=>rw[ej] at e2;cases e2
        | some j =>
          rw[ej] at e2;have cp:=hcap _ x j e1 ej;have e2':σ[j]?=some (some v):=BY (cr e2);obtain⟨m,hn,hl⟩:=I2.loc;obtain⟨u,r,l⟩:=hl j x v cp.at_ e2' (cp.out.elim (λ z=>.inr (.inl z)) λ z=>.inr (.inr z));refine⟨u,r,.inr ⟨cp.inn,?_⟩⟩;obtain⟨c,ec⟩:=hhas x cp.inn
          rcases l with ⟨k,_⟩ | ⟨_,c',ec',z⟩
          · have k:X.env.scope.names.lookup x=some .local:=k
            rcases cp.out with q | q<;>rw[q] at k<;>cases k
          · rw[hcl x c ec] at ec';cases ec';obtain⟨o,ho,hd⟩:=z;exact⟨c,ec,o,old _ _ ho,hd⟩
    · rw[hYc] at e;obtain⟨v,o,ho,hd⟩:=I2.cell x c (hcl x c e);exact⟨v,o,old _ _ ho,hd⟩
    · rw[hYc] at e;exact I2.freeC x c (hcl x c e)
    · rw[hYp] at hp;rw[hYl,hYf]
      rcases aM.mp hp with z | z
      · obtain⟨a,b,c,d,f⟩:=pinOk p (dW _ z);exact⟨old _ _ a,b,c,d,f⟩
      · rcases aM.mp z with z | z
        · obtain⟨a,b,c,d,f⟩:=pinOk p (bM _ z);exact⟨old _ _ a,b,c,d,f⟩
        · have e:p=_:=aR.mp z;subst e;exact⟨hacc,hfresh _ (au _),hDC,λ z=>absurd (stkL _ z) (ce _),λ v z=>by cases z⟩
    · subst hX;unfold cL;show _=(own++fv).length;simp[hlen]
  have hYprog:Y.prog=X.prog:=by subst hX;rfl
  have hYw:Y.w=X.w:=by subst hX;rfl
  have hYK:Y.K=X.K:=by subst hX;rfl
  have hYA:Y.A=X.A:=by subst hX;rfl
  have hYcalm:Y.calm=true:=by subst hX;exact hc
  have hYxe:Y.xe=λ _ _=>False:=by subst hX;rfl
  have hYenv:Y.env=compEnvC scope cl hL.objs.size X.env:=by subst hX;rfl
  have hg':=hg hL.objs.size fp s2 H2;have he':=he hL.objs.size fp s2 H2;have ht':=ht hL.objs.size fp s2 H2;rw[hX] at hg' he' ht'
  have fpOk:∀ {H':Hp}{pn:LO},(∀b∈fp,H' b=none)->(∀p∈pn,p.1=s2.heap.objs.size\/p∈pins)->∀b∈fp,gS Y pn H' b:=λ hn hp b hb=>by
    refine⟨hn b hb,by rw[hYl];exact ltC b (fpL b hb),?_,.inl (by rw[hYx];exact hb),λ x c e=>?_,λ p hq=>?_⟩
    · rw[hYf];intro hz
      rcases av.mp (I2.stkSub b hz) with z | z
      · exact(f2 b hb).2.1 z
      · exact(f2 b hb).2.2.1 z
    · rw[hYc] at e;exact(f2 b hb).2.2.2.2.1 x c (hcl x c e)
    · rw[hYp] at hq
      rcases aM.mp hq with z | z
      · exact(f2 b hb).2.2.2.2.2 p (dW _ z)
      · rcases hp p z with q | q
        · rw[q];exact bo (aZ (fpL b hb))
        · exact(f2 b hb).2.2.2.2.2 p (bM _ q)
  have loop:∀s₃:Shared,s₃={ s2 with heap:=h₁,toks:=s2.toks+([]:List (Str × Value)).length } ->
      codeAny (model X.prog X.w) X.A (.compLoop (.ListComp elt [⟨tg,iter,ifs,0⟩] scope pos) 0 (.ref it) (.ref s2.heap.objs.size) (compEnvC scope cl hL.objs.size X.env))
        (compPost (model X.prog X.w) X.A X.xe use QQ (.ref s2.heap.objs.size) hL.objs.size) s₃:=by
    rintro s₃ rfl
    refine lp.1 (λ n s'=>∃i ys its k σ' H',Inv Y (pins++[(s2.heap.objs.size,{ cls:=.type "list",data:=.seq (its:LV).toArray k })]) σ' H' s'/\tn i s'.heap/\(∀b∈fp,H' b=none)/\Vals ys its/\ys.length≤sizeLine/\W i n ys σ' H') ?_ m0
      ⟨0,[],[],0,_,H2,I3,T.keep _ _ _ st2 λ b _ o e=>old b o e,λ b hb=>(f2 b hb).1,.nil,cy _,w0⟩
    rintro n s4 ⟨i,ys,its,k,σ4,H4,I4,st4,fr4,rv,hz,w4⟩
    have pinD:∀p∈(pins++[(s2.heap.objs.size,({ cls:=.type "list",data:=.seq (its:LV).toArray k }:Obj))]),p.1=s2.heap.objs.size\/p∈pins:=λ p hp=>by
      rcases aM.mp hp with z | z
      · exact .inr z
      · rw[aR.mp z];exact .inl rfl
    have F4:=fpOk (pn:=pins++[(s2.heap.objs.size,{ cls:=.type "list",data:=.seq (its:LV).toArray k })]) fr4 pinD
    rcases turn i n ys σ4 H4 w4 with ⟨stop,qn⟩ | ⟨go,hlt,N,hN,step⟩
    · have d:=T.done Y hYprog hYw hYK hYcalm i _ s4 σ4 H4 (λ _ _=>False) I4 F4 st4 stop;rw[hYA] at d;refine thn d λ r s5 ⟨hr,I5⟩=>?_;subst hr;obtain⟨m,hn,_⟩:=id I5.loc;rw[hYl] at hn;have hD:=I5.pin (s2.heap.objs.size,{ cls:=.type "list",data:=.seq (its:LV).toArray k }) (bM _ (bM _ (aR.mpr rfl)));have hDn:H4 s2.heap.objs.size=none:=hD.2.1;have kp:∀b o,b≠hL.objs.size->s5.heap.get? b=some o->s5.heap.get? b=some o:=λ b o _ e=>e;have B:=I5.base;rw[hYH,hYs,hYx,hYf] at B;have s2C:∀b o,s2.heap.get? b=some o->b≠hL.objs.size:=λ b o e=>ltC b (az e);have trk:∀b u,H4 b=some u->b≠s2.heap.objs.size:=λ b u e z=>by rw[z,hDn] at e;cases e
      have trC:∀b u,H4 b=some u->b≠hL.objs.size:=λ b u e z=>by
        have:=I5.free;rw[hYl,← z,e] at this;cases this
      have hH2:∀b u,H2 b=some u->b≠s2.heap.objs.size:=λ b u e z=>by rw[z,hfresh _ (au _)] at e;cases e
      have IX:Inv X pins σ (upd H4 s2.heap.objs.size (.lst ys)) s5:=by
       refine I2.call' (ch:=fp) (by show s5.os=s2.os;rw[I5.os,hYs]) ⟨λ b o e n hb hx=>kp b o (s2C b o e) (B.keep b o e n hb hx),λ b o e n hb hx=>?_,λ b o e n hx=>?_,λ b o e hx=>?_,λ b xs e=>?_,λ b o u e=>?_,λ b ps e=>?_⟩ ?_ I5.bare (λ b hb=>⟨(f2 b hb).2.2.2.1,(f2 b hb).2.1,(f2 b hb).2.2.2.2.1,(f2 b hb).2.2.2.2.2⟩)
       · obtain⟨sl,q⟩:=B.slot b o e n hb hx;exact⟨sl,kp b _ (s2C b o e) q⟩
       · rw[ay (aZ (az e))];exact B.free b o e n hx
       · obtain⟨o',q⟩:=B.there b o e hx;exact⟨o',kp b o' (s2C b o e) q⟩
       · rw[ay (hH2 b _ e)];exact B.tups b xs e
       · rw[ay (hH2 b _ e)];exact B.frzs b o u e
       · obtain⟨more,q⟩:=B.tbls b ps e;exact⟨more,by rw[ay (hH2 b _ e)];exact q⟩
       · intro b u e;by_cases hb:b=s2.heap.objs.size
         · subst hb;rw[bz] at e;cases e;exact⟨hz,its,k,rv,kp _ _ hDC hD.1⟩
         · rw[ay hb] at e;have okb:=I5.hok b u e;rw[hYprog,hYw] at okb;refine okb.stay (λ c v hc q=>kp c v ?_ q) (λ c q=>by rw[ay (trk c _ q)];exact q) λ c xs q=>by rw[ay (trk c _ q)];exact q
           rcases hc with z | z
           · rw[z];exact trC b u e
           · exact trC c _ z
      have zC:upd H4 s2.heap.objs.size (.lst ys) hL.objs.size=none:=by
        rw[ay (bo hDC)];have:=I5.free
        rwa [hYl] at this
      exact fin s2.heap.objs.size hL.objs.size s5 _ _ IX zC (bo (ltC _ I2.lt)) (by have:=I2.sz;lia) (λ x c e=>ltC c (by obtain⟨v,q⟩:=I2.cell x c e;exact q.lt)) (λ p hp=>ltC _ (pinL p hp)) ⟨m,hn⟩ (qn _ hDn)
    · have d:=T.item Y hYprog hYw hYK hYcalm i _ s4 σ4 H4 (λ _ _=>False) I4 F4 st4 go;rw[hYA] at d;refine thn d λ r s5 ⟨u,hr,h5⟩=>?_;subst hr;refine thn h5 λ _ s6 ⟨x,H6,I6,r6,y6,st6,fr6⟩=>?_;have I6':=I6.pinned (fpOk (pn:=pins++[(s2.heap.objs.size,{ cls:=.type "list",data:=.seq (its:LV).toArray k })]) fr6 pinD) (T.obj _ _ st6);have d7:=hg' _ s6 σ4 H6 x u _ I6' r6 (step x H6 y6);rw[hYprog,hYw,hYA,hYxe,hYenv] at d7;refine thn d7 λ _ s7 ⟨σ7,H7,I7,q7⟩=>?_;have dt:=ht' _ s7 σ7 H7 _ I7 q7;rw[hYprog,hYw,hYA,hYenv] at dt;refine lp.2 dt λ bb s7 ⟨H7,I7,q7⟩=>?_
      cases bb with
      | false =>
        obtain⟨m',hm,w8⟩:=hN _ _ _ q7;have tn8:tn (i+1) s7.heap:=T.keep _ _ _ st6 λ b hb o e=>(I7.pin (b,o) (bM _ (bM _ (iT hb e)))).1
        have fr8:∀b∈fp,H7 b=none:=λ b hb=>by
          obtain⟨o,e,d⟩:=T.obj _ _ st6 b hb;exact(I7.pin (b,o) (bM _ (bM _ (iT hb e)))).2.1
        exact⟨m',hm,i+1,ys,its,k,σ7,H7,I7.unpinned,tn8,fr8,rv,hz,w8⟩
      | true =>
        have q7:te σ7 H7 _:=q7;show wpAny _ _ (eval elt _) _ _ s7;have d8:=he' _ s7 σ7 H7 _ I7 q7;rw[hYprog,hYw,hYA,hYxe,hYenv] at d8;refine thn d8 λ u8 s8 ⟨v8,H8,I8,r8,n8⟩=>?_;obtain⟨m',hm,w8⟩:=hN _ _ _ n8;have pD:=I8.pin (s2.heap.objs.size,{ cls:=.type "list",data:=.seq (its:LV).toArray k }) (bM _ (dW _ (bM _ (aR.mpr rfl))));have tn8:tn (i+1) s8.heap:=T.keep _ _ _ st6 λ b hb o e=>(I8.pin (b,o) (bM _ (bM _ (iT hb e)))).1
        have fr8:∀b∈fp,H8 b=none:=λ b hb=>by
          obtain⟨o,e,d⟩:=T.obj _ _ st6 b hb;exact(I8.pin (b,o) (bM _ (bM _ (iT hb e)))).2.1
        have J8:Inv Y pins σ7 H8 s8:=I8.unpinned.unpinned;have eD:s8.heap.get? s2.heap.objs.size=some { cls:=.type "list",data:=.seq its.toArray k }:=pD.1;refine eo s0r ⟨_,eD,rfl⟩ s0c (uh _ _) (PySem.list_append _ its.toArray k u8 (by rw[aG,← rv.length];lia)) ⟨eD,?_⟩;have other:∀b o,b≠s2.heap.objs.size->s8.heap.get? b=some o->(s8.heap.update s2.heap.objs.size (Obj.mapSeq λ xs=>xs.push u8)).get? b=some o:=λ b o nb e=>(cv s8.heap _ (bo nb)).trans e
        have J9:=J8.turned (t':=s8.toks) (it:=s2.heap.objs.size) (h':=s8.heap.update s2.heap.objs.size (Obj.mapSeq λ xs=>xs.push u8)) other pD.2.1 (by rw[hYl];exact hDC) (.inr (by rw[hYs];exact au _))
          (λ x c e=>by rw[hYc] at e;exact aZ (cellL x c e)) (λ p hp=>by rw[hYp] at hp;exact aZ (pinL p hp))
        have ep:(its.toArray.push u8)=(its++[u8]).toArray:=by simp
        obtain⟨kk,upD⟩:∃kk,(s8.heap.update s2.heap.objs.size (Obj.mapSeq λ xs=>xs.push u8)).get? s2.heap.objs.size=some { cls:=.type "list",data:=.seq (its++[u8]).toArray kk }:=by
          have z:=PySem.IsL.update eD (λ xs=>xs.push u8);rw[ep] at z;exact⟨_,z⟩
        refine⟨m',hm,i+1,ys++[v8],its++[u8],kk,σ7,H8,J9.pins_of λ p hp=>?_,T.keep _ _ _ tn8 λ b hb o e=>other b o (aZ (fpL b hb)) e,fr8,rv.append (.cons r8 .nil),?_,w8⟩
        · rcases aM.mp hp with z | z
          · exact J9.pin p (bM _ z)
          · rw[aR.mp z];exact⟨upD,pD.2.1,by rw[hYl];exact hDC,by rw[hYf];exact λ z=>absurd (stkL _ z) (ce _),λ v z=>by cases z⟩
        · rw[aC,cK];lia
  exact codeAny_compStart_list (loop _ rfl) (T.self _ 0 _ _ _ (T.keep _ _ _ st2 λ b _ o e=>old b o e) (loop _ rfl))
theorem Ca:gX wi k js g (λ σ H K=>K true H) te=iZ wi k js g te:=by
 unfold gX iZ;simp only[dJ]
theorem pm0:PM X uq (λ σ H K=>K true H):=λ _ _ _ H _ I k=>⟨H,I,k⟩
theorem ut{X:Cx}{elt tg iter:Expr}{cl:LA}{own fv:List Str}{js:List Nat}
  (hc:X.calm=true) (hi:PI X tg iter wi) (hclos:closureFor scope X.env=pure cl) (hcell:∀y∈scope.names,y.2≠.cell) (hkind:scope.kind=.function)
  (hnames:∀y∈scope.names,y.2=.local->scope.names.lookup y.1=some .local)
  (hcl:∀x c,cl.lookup x=some c->X.env.cells.lookup x=some c)
  (hhas:∀x,((relabel scope X.env).names.lookup x=some .cell\/(relabel scope X.env).names.lookup x=some .free)->∃c,cl.lookup x=some c)
  (hlen:js.length=fv.length) (hcap:∀(i:Nat) x j,fv[i]?=some x->js[i]?=some j->Cap X scope cl x j)
  (hg:∀(C:Addr) (ex:List Addr) (s:Shared) (H:Hp),PG (bv X (own++fv) scope cl C ex s H) tg g)
  (he:∀(C:Addr) (ex:List Addr) (s:Shared) (H:Hp),PE (bv X (own++fv) scope cl C ex s H) elt te)
  (hs:∀x,foldedSetIterable iter X.env x=pure x)(I:Inv X pins σ H s) (h:iZ wi own.length js g te σ H Q)
  (fin:∀(a C:Addr) (s5:Shared) (H5:Hp) (fl:Flow),Inv X pins σ H5 s5->H5 C=none->C≠X.env.locals->X.s₀.heap.objs.size≤C->(∀x c,X.env.cells.lookup x=some c->c≠C)->(∀p∈X.pn++pins,p.1≠C)->(∃m,s5.heap.Ns C m)->Q (.ref a) H5->compPost (model X.prog X.w) X.A X.xe use QQ (.ref a) C (.ok fl) s5) :
  wpAny (model X.prog X.w) X.A (comprehension (.ListComp elt [⟨tg,iter,[],0⟩] scope pos) scope X.env fpos (newList []) false (firstIter [⟨tg,iter,[],0⟩] X.env) use) QQ X.xe s :=
 ur hc hi hclos hcell hkind hnames hcl hhas hlen hcap hg he (λ _ _ _ _=>pm0) BZ hs I (by rw[Ca];exact h) fin
theorem Cb{X:Cx}{elt tg iter:Expr}{cl:LA}{own fv:List Str}{js:List Nat}
  (hc:X.calm=true) (hi:PI X tg iter wi) (hclos:closureFor scope X.env=pure cl) (hcell:∀y∈scope.names,y.2≠.cell) (hkind:scope.kind=.function)
  (hnames:∀y∈scope.names,y.2=.local->scope.names.lookup y.1=some .local)
  (hcl:∀x c,cl.lookup x=some c->X.env.cells.lookup x=some c)
  (hhas:∀x,((relabel scope X.env).names.lookup x=some .cell\/(relabel scope X.env).names.lookup x=some .free)->∃c,cl.lookup x=some c)
  (hlen:js.length=fv.length) (hcap:∀(i:Nat) x j,fv[i]?=some x->js[i]?=some j->Cap X scope cl x j)
  (hg:∀(C:Addr) (ex:List Addr) (s:Shared) (H:Hp),PG (bv X (own++fv) scope cl C ex s H) tg g)
  (he:∀(C:Addr) (ex:List Addr) (s:Shared) (H:Hp),PE (bv X (own++fv) scope cl C ex s H) elt te)
  (hs:autoParam (∀x,foldedSetIterable iter X.env x=pure x) Z2_) :
  PE X (.ListComp elt [⟨tg,iter,[],0⟩] scope pos) (iZ wi own.length js g te):=by
 intro pins s σ H Q I h;rw[eval_ListComp];refine ut (use:=none) (QQ:=EP X pins σ Q) hc hi hclos hcell hkind hnames hcl hhas hlen hcap hg he hs I h λ a C s5 H5 fl I5 zC zL zS zc zp ⟨m,hn⟩ q=>⟨m,hn,λ h' sc=>?_⟩;exact⟨.ref a,H5,I5.turned (t':=s5.toks) (it:=C) (λ d o nd e=>sc.extBut d o nd e) zC zL (.inr zS) zc zp,rfl,q⟩
set_option tactic.hygienic true in
theorem Cc{K:FG}(KI:K.In h)(GN:h.Ns mainGlobals gm)
  (hn:W.nsIn K mainGlobals nmX=some (some (.ref Cx'))) (hq:W.excIn K Cx' bmX nid=true):OwnCls nmX Cx' bmX nid gm h:=by
 constructor
 ·exact s1n KI GN hn
 ·unfold W.excIn at hq;split at hq
  ·rename_i ddx cdx slx hlk;split at hq
   ·rename_i C2 bm2 f0 f1 f2 f3 nn f5 hmro hsl0;simp only[aX,dZ,oW] at hq;obtain⟨⟨⟨⟨⟨eC,eN⟩,hdl⟩,htl⟩,hnsok⟩,hinit⟩:=hq;subst eC eN;obtain⟨c1,c2,c3,c4,c5,c6,c7,c8,c9,c10,c11⟩:=cdx;dsimp only at hmro hdl hnsok hinit;subst hmro hdl
    have hsl1:slx=#[f0,f1,f2,f3,some (.builtin nn),f5]:=by
     obtain⟨lst⟩:=slx;simp only at hsl0;rw[hsl0]
    subst hsl1;refine⟨bm2,c4,c1,c5,c2,c6,c7,c8,c9,c10,ddx,f0,f1,f2,f3,f5,h.nsMap c4,KI _ _ hlk,?_,?_,?_⟩
    ·exact .of_isNs (W.isNs_of_in KI hnsok)
    ·exact W.nsMap_none_of_in KI hnsok hinit
    ·exact W.tail_of_in KI htl
   ·cases hq
  ·cases hq
noncomputable def CX1(P:Program)(w:World):CXT:=λ outer H s E e s' =>
 ∃(a C:Addr) (a0:Value) (H':Hp) (B:Heap),e=.ref a/\s'.os=s.os/\AllBare s'.gens/\Heap.FlyingW B outer a (.ref C) a0 s'.heap /\
  (∀b o,s.heap.get? b=some o->H b=none->b ∉ frs outer->B.get? b=some o)/\(∀b o,s.heap.get? b=some o->b ∉ frs outer->∃o',B.get? b=some o') /\
  Un (frs outer) [] H H' s.heap s'.heap/\HOk P w H' B/\E (.ref C) none H'
section
variable {P:Program}{w:World}{K:FG}{mg:SV}{base:Heap}{N:List Str}{qual:Str}{scope:Scope}{f:Addr}{cd:Value}{A:Around}{outer:List Env}{s:Shared}{H:Hp}{E:XK}
theorem Ce{l:List Addr}(ok:HOk P w H h)(hl:∀b∈l,H b=none):HOk P w H (W.hideAll h l):=λ b u e=>by
 have nb:∀c v,H c=some v->c ∉ l:=λ c v q z=>by rw[hl c z] at q;cases q
 refine(ok b u e).stay (λ c v hc q=>gP _ q ?_) (λ _ q=>q) λ _ _ q=>q
 rcases hc with z | z
 ·rw[z];exact nb b u e
 ·exact nb c _ z
theorem uu{l:List Env}:∀env∈l,∀b,env.frame=some b->b∈frs l:=λ env he b hb=>nZ.mpr ⟨env,he,hb⟩
theorem Cf:iW (CX1 P w) (bN (CX1 P w) P w K mg base N qual scope f cd A outer s H E) E:=by
 intro pins σ H1 s1 e s' I hx;obtain⟨a,C,a0,H',B,rfl,os,bare,fl,inB,thB,un,okB,hE⟩:=hx;have hfr:(bN (CX1 P w) P w K mg base N qual scope f cd A outer s H E).A.frames=some (envOfC qual scope s.heap.objs.size f cd::outer):=I.ok.frames;refine wpAny_leaves_onW hfr rfl fl λ h'' fl'' up''=>?_;have Bs:∀b o,B.get? b=some o->h''.get? b=some o:=fl''.1;have ub:Un (frs outer) [] H H1 s.heap s1.heap:=I.base
 have stk:∀b,b ∉ frs outer->b < s.heap.objs.size->b ∉ frs (envOfC qual scope s.heap.objs.size f cd::outer):=λ b hb hlt z=>by
  rcases av.mp (I.stkSub b z) with q | q
  ·have q:b=s.heap.objs.size:=q;exact ce _ (q ▸ hlt)
  ·exact hb q
 have inB':∀b o,s.heap.get? b=some o->H b=none->b ∉ frs outer->B.get? b=some o:=λ b o e n hb =>
  inB b o (ub.keep b o e n hb (by simp)) (ub.free b o e n (by simp)) (stk b hb (az e))
 have thB':∀b o,s.heap.get? b=some o->b ∉ frs outer->∃o',B.get? b=some o':=λ b o e hb=>by
  obtain⟨o1,e1⟩:=ub.there b o e (by simp);exact thB b o1 e1 (stk b hb (az e))
 have sub:∀b,b∈frs outer->b∈frs (envOfC qual scope s.heap.objs.size f cd::outer):=λ b hb=>bU _ hb
 have slot:∀b o,s.heap.get? b=some o->H b=none->b∈frs outer->∃sl,h''.get? b=some { o with slots:=sl }:=λ b o e n hb=>by
  obtain⟨sl1,e1⟩:=ub.slot b o e n hb (by simp);obtain⟨sl2,e2⟩:=un.slot b _ e1 (ub.free b o e n (by simp)) (sub b hb) (by simp);obtain⟨_,o3,e3,nf⟩:=I.ok.funs.mem hb;have e3:s.heap.get? b=some o3:=e3;rw[e] at e3;cases e3;obtain⟨sl3,e4⟩:=up'' b _ e2 nf;exact⟨sl3,e4⟩
 have frf:∀b∈frs outer,H b=none:=I.ok.frf
 refine⟨a,C,a0,H',B,rfl,os.trans I.os,bare,fl'',inB',thB',⟨λ b o e n hb _=>Bs _ _ (inB' b o e n hb),λ b o e n hb _=>slot b o e n hb,λ b o e n _=>?_,λ b o e _=>?_,
  λ b xs e=>un.tups b xs (ub.tups b xs e),λ b o u e=>un.frzs b o u (ub.frzs b o u e),λ b ps e=>?_⟩,okB,hE⟩
 ·obtain⟨o1,e1⟩:=ub.there b o e (by simp);exact un.free b o1 e1 (ub.free b o e n (by simp)) (by simp)
 ·by_cases hb:b∈frs outer
  ·obtain⟨sl,q⟩:=slot b o e (frf b hb) hb;exact⟨_,q⟩
  ·obtain⟨o',q⟩:=thB' b o e hb;exact⟨o',Bs _ _ q⟩
 ·obtain⟨m1,q1⟩:=ub.tbls b ps e;obtain⟨m2,q2⟩:=un.tbls b _ q1;exact⟨m1++m2,by rw[q2,nJ]⟩
noncomputable def oX(X:Cx)(Ex:Value->Hp->Prop):Prop:=∀(pins:LO) (σ:St) (H:Hp) (s:Shared) (h':Heap) (e C:Addr) (vs:LV),Inv X pins σ H s->Heap.MadeExcOf s.heap h' e (.ref C) vs->Ex (.ref C) H->X.xe (.ref e) { s with heap:=h' }
theorem Cg:oX (bN (CX1 P w) P w K mg base N qual scope f cd A outer s H E) (λ c H'=>E c none H'):=by
 intro pins σ H1 s1 h' e C vs I hm hE;have hfr:(bN (CX1 P w) P w K mg base N qual scope f cd A outer s H E).A.frames=some (envOfC qual scope s.heap.objs.size f cd::outer):=I.ok.frames;have st:s1.heap.FunFrames base (envOfC qual scope s.heap.objs.size f cd::outer):=I.stack;refine wpAny_leaves_madeW (base:=W.hideAll s1.heap (frs (envOfC qual scope s.heap.objs.size f cd::outer))) hfr rfl (λ b o q=>s1b _ q) (W.funFrames_hide st uu) hm λ h'' t fl'' tp nt up''=>?_;have ub:Un (frs outer) [] H H1 s.heap s1.heap:=I.base;have Bs:=fl''.1
 have stk:∀b,b ∉ frs outer->b < s.heap.objs.size->b ∉ frs (envOfC qual scope s.heap.objs.size f cd::outer):=λ b hb hlt z=>by
  rcases av.mp (I.stkSub b z) with q | q
  ·have q:b=s.heap.objs.size:=q;exact ce _ (q ▸ hlt)
  ·exact hb q
 have inB':∀b o,s.heap.get? b=some o->H b=none->b ∉ frs outer->(W.hideAll s1.heap (frs (envOfC qual scope s.heap.objs.size f cd::outer))).get? b=some o:=λ b o e n hb =>
  gP _ (ub.keep b o e n hb (by simp)) (stk b hb (az e))
 have thB':∀b o,s.heap.get? b=some o->b ∉ frs outer->∃o',(W.hideAll s1.heap (frs (envOfC qual scope s.heap.objs.size f cd::outer))).get? b=some o':=λ b o e hb=>by
  obtain⟨o1,e1⟩:=ub.there b o e (by simp);exact⟨o1,gP _ e1 (stk b hb (az e))⟩
 have slot:∀b o,s.heap.get? b=some o->H b=none->b∈frs outer->∃sl,h''.get? b=some { o with slots:=sl }:=λ b o e n hb=>by
  obtain⟨sl1,e1⟩:=ub.slot b o e n hb (by simp);obtain⟨_,o3,e3,nf⟩:=I.ok.funs.mem hb;have e3:s.heap.get? b=some o3:=e3;rw[e] at e3;cases e3;obtain⟨sl3,e4⟩:=up'' b _ (hm.keeps _ _ e1) nf;exact⟨sl3,e4⟩
 have frf:∀b∈frs outer,H b=none:=I.ok.frf
 refine⟨e,C,.ref t,H1,_,rfl,I.os,I.bare,fl'',inB',thB',⟨λ b o e n hb _=>Bs _ _ (inB' b o e n hb),λ b o e n hb _=>slot b o e n hb,λ b o e n _=>ub.free b o e n (by simp),λ b o e _=>?_,
  ub.tups,ub.frzs,ub.tbls⟩,Ce I.hok I.stkFree,hE⟩
 by_cases hb:b∈frs outer
 ·obtain⟨sl,q⟩:=slot b o e (frf b hb) hb;exact⟨_,q⟩
 ·obtain⟨o',q⟩:=thB' b o e hb;exact⟨o',Bs _ _ q⟩
end
noncomputable def Ch(C:Addr)(Ex:Value->Hp->Prop)(t:TA):TS:=λ _ σ H=>t σ H λ vs H1=>vs.length≤sizeLine/\Ex (.ref C) H1
theorem uv{X:Cx}{e₀:Expr}{es:List Expr}
  (FB:ExcBaseFacts B newId initId bm) (hc:X.calm=true) (hg:Gl X x) (hn:W.nsIn X.K mainGlobals x=some (some (.ref C))) (hq:W.excIn X.K C bm newId=true) (hx:oX X Ex) (ha:PA X (e₀::es) t)
  (hs:autoParam (starEach (e₀::es) X.env=(false,eval e₀ X.env)::starEach es X.env) Z3_) (hpl:autoParam ((backTo cpos (starEach es X.env)).any (·.1)=false) Z3_) (hd:autoParam ((x == ("__debug__" : Str))=false) Z1_) :
  PS X (.Raise (some (.Call (.Name x np) (e₀::es) [] cpos)) none pos) (Ch C Ex t):=by
 intro pins s σ H D I h;have O:=Cc I.ok.mod.kin I.ok.mod.glob hn hq;obtain⟨tl,Nn,n1,q1,b1,d1,m1,u1,a1,l1,dd1,j0,j1,j2,j3,j5,mN,hC,hN,hni,T⟩:=O.obj
 refine wpAny_Raise_call_subT (C:=C) (nm:=n1) (q:=q1) (N:=Nn) (bs:=b1) (bm:=tl) (hdct:=d1) (sn:=m1) (sub:=u1) (ab:=a1) (col:=l1) (dd:=dd1) (k0:=j0) (k1:=j1) (k2:=j2) (k3:=j3) (k5:=j5) (mN:=mN)
  FB (T.hasType FB.hasBase) (I.ok.hd hc) (by rw[hs];show(false || (backTo cpos (starEach es X.env)).any (·.1))=false;rw[hpl];rfl) hni (dY I hg O.bound ⟨rfl,?_⟩ hd)
 have hA:=ha cpos pins s σ H _ I h;rw[hs] at hA ⊢;refine oM (thn hA λ us s2 ⟨vs,H2,I2,r2,hz,hE⟩=>⟨rfl,?_,I2.bk _ _ hC,hN.keeps I2.bk,T.keeps I2.bk,λ h' e hm=>hx pins σ H2 s2 h' e C us I2 hm hE⟩);show us.length≤sizeLine;rw[← r2.length];exact hz
section
variable {P:Program}{w:World}{K:FG}{mg:SV}{base:Heap}
theorem Fun.okX{st:Stmt}{sp:Sp}(F:Fun K x qual st f fd)(S:FnScope N ps (aD st))(len:∀vs H Q E,sp vs H Q E->vs.length=ps.length)
  (hbody:∀(cdv:Value) (A:Around) (outer:List Env) (s:Shared) (H:Hp) (vs:List V) (Q:VK) (E:XK),Room k (A.deeper (envOfC qual (aD st) s.heap.objs.size f cdv))->sp vs H Q E ->
   ∃t,PSs (bN (CX1 P w) P w K mg base N qual (aD st) f cdv A outer s H E) (bu st) t/\t { nx:=λ _ H'=>Q .non H',rt:=Q } (cI N vs) H):FnOk P w K mg base (CX1 P w) (k+1) f fd ps sp:=by
 obtain⟨oc,od,kV,doc,pm,an,cdv,ct,osl,rfl,lk,hcd⟩:=F.ex;exact oz lk hcd S len λ A outer s H vs Q E hr hsp=>hbody cdv A outer s H vs Q E hr hsp
end
section
variable {X:Cx}{pins:LO}{σ:St}{H:Hp}{s:Shared}
theorem Inv.gone{i:Nat}{v:Option Value}{h':Heap}{t':Nat}(I:Inv X pins σ H s)(hN:X.N.Nodup)(hi:X.N[i]?=some x)(hk:X.env.scope.names.lookup x=some .local)(hm:s.heap.Ns X.env.locals m)
  (hl:∀(j:Nat) (y:Str) (z:V),X.N[j]?=some y->σ[j]?=some (some z)->Vis X.env.scope y->∃u,RelV z u/\sH X.env s.heap m y u) (hn':h'.Ns X.env.locals (λ y=>if y=x then v else m y)) (hs:Heap.SameBut X.env.locals s.heap h') :
  Inv X pins (σ.set i none) H { s with heap:=h',toks:=t' }:=by
 have hiσ:i < σ.length:=by rw[I.len];exact(bD.mp hi).1
 have cne:=I.cne;have lne:∀b o,X.s₀.heap.get? b=some o->b≠X.env.locals:=λ b o e=>aZ (bO (az e) I.ok.above)
 refine⟨I.ok,I.os,I.bare,⟨λ b o e n hb hx=>(hs.2 b (lne b o e)).trans (I.base.keep b o e n hb hx),λ b o e n hb hx=>?_,I.base.free,λ b o e hx=>?_,I.base.tups,I.base.frzs,I.base.tbls⟩,⟨_,hn',λ j y z e1 e2 e3=>?_⟩,
  λ y c e=>?_,I.free,I.freeC,λ p hp=>?_,λ b ob e=>?_,by simpa using I.len⟩
 ·obtain⟨sl,q⟩:=I.base.slot b o e n hb hx;exact⟨sl,(hs.2 b (lne b o e)).trans q⟩
 ·obtain⟨o',q⟩:=I.base.there b o e hx;exact⟨o',(hs.2 b (lne b o e)).trans q⟩
 ·by_cases hj:j=i
  ·subst hj;rw[nM hiσ] at e2;cases e2
  ·rw[nN (bo hj)] at e2;obtain⟨u,r,q⟩:=hl j y z e1 e2 e3;refine⟨u,r,?_⟩
   rcases q with ⟨k,e⟩ | ⟨k,c,e,cz⟩
   ·refine .inl ⟨k,?_⟩;have ny:y≠x:=λ e=>hj (nK hN e1 (e ▸ hi));simp[ny,e]
   ·exact .inr ⟨k,c,e,cz.sameBut hs (cne y c e)⟩
 ·obtain⟨w',z⟩:=I.cell y c e;exact⟨w',z.sameBut hs (cne y c e)⟩
 ·obtain⟨e,n,ne,nf,d⟩:=I.pin p hp;exact⟨(hs.2 p.1 ne).trans e,n,ne,nf,d⟩
 ·refine(I.hok b ob e).stay (λ c w' hc q=>(hs.2 c ?_).trans q) (λ _ q=>q) λ _ _ q=>q;rintro rfl
  rcases hc with rfl | hc
  ·rw[I.free] at e;cases e
  ·rw[I.free] at hc;cases hc
theorem Inv.track(I:Inv X pins σ H s)(hn:H a=none)(new:ObjOk X.prog X.w (upd H a o) s.heap a o)(h1:a≠X.env.locals)(h2:∀x c,X.env.cells.lookup x=some c->c≠a)(h3:∀p∈X.pn++pins,p.1≠a)
  (h4:X.s₀.heap.get? a=none):Inv X pins σ (upd H a o) s:=by
 have ne:∀b u,H b=some u->b≠a:=λ b u e z=>by rw[z,hn] at e;cases e
 have n0:∀b u,X.s₀.heap.get? b=some u->b≠a:=λ b u e z=>by rw[z,h4] at e;cases e
 refine⟨I.ok,I.os,I.bare,⟨I.base.keep,I.base.slot,λ b u e n hx=>?_,I.base.there,λ b xs e=>?_,λ b u v e=>?_,λ b ps e=>?_⟩,I.loc,I.cell,?_,λ x c e=>?_,λ p hp=>?_,λ b u e=>?_,I.len⟩
 ·rw[ay (n0 b u e)];exact I.base.free b u e n hx
 ·have q:=I.base.tups b xs e;rw[ay (ne b _ q)];exact q
 ·have q:=I.base.frzs b u v e;rw[ay (ne b _ q)];exact q
 ·obtain⟨more,q⟩:=I.base.tbls b ps e;exact⟨more,by rw[ay (ne b _ q)];exact q⟩
 ·rw[ay (bo h1)];exact I.free
 ·rw[ay (h2 x c e)];exact I.freeC x c e
 ·obtain⟨e,n,ne,nf,d⟩:=I.pin p hp;exact⟨e,by rw[ay (h3 p hp)];exact n,ne,nf,d⟩
 ·by_cases hb:b=a
  ·subst hb;rw[bz] at e;cases e;exact new
  ·rw[ay hb] at e;exact(I.hok b u e).stay (λ c v _ q=>q) (λ c q=>by rw[ay (ne c _ q)];exact q) λ c xs q=>by rw[ay (ne c _ q)];exact q
end
noncomputable abbrev Cx.more(X:Cx)(xe:VS)(pn:LO):Cx:={ X with xe:=xe,pn:=pn }
noncomputable abbrev Cx.suite(X:Cx)(a:Addr)(pn:LO):Cx:={ X with A:=X.A.mark (some (.ref a)),calm:=false,xe:=λ _ _=>False,pn:=pn }
theorem Cx.Ok.more{X:Cx}(ok:X.Ok)(xe:VS)(pn:LO):(X.more xe pn).Ok :=
 ⟨ok.mod,ok.kind,ok.glob,ok.blt,ok.above,ok.inj,ok.has,ok.cab,ok.hd,ok.frames,ok.stk,ok.exf,ok.bs,ok.bsz,ok.noex,ok.exfs,ok.funs,ok.frf⟩
theorem Cx.Ok.suite{X:Cx}(ok:X.Ok)(a:Addr)(pn:LO):(X.suite a pn).Ok :=
 ⟨ok.mod,ok.kind,ok.glob,ok.blt,ok.above,ok.inj,ok.has,ok.cab,λ z=>absurd z (by show ¬(false=true);decide),ok.frames,ok.stk,ok.exf,ok.bs,ok.bsz,ok.noex,ok.exfs,ok.funs,ok.frf⟩
noncomputable def gY(CX:CXT)(X:Cx)(E:XK)(σ:St):Prop:=∀(pins:LO) (H:Hp) (s:Shared) (e:Value) (s':Shared),Inv X pins σ H s->CX X.stack H s E e s'->X.xe e s'
section
variable {X:Cx}{CX:CXT}{k:Nat}{f:Addr}{fd:FuncData}{ps:List Str}{sp:Sp}{dvs:List V}{ds:LV}{EE:St->XK}{x:Str}{p pos:Pos}{e:Expr}{es:List Expr}{t:TA}
noncomputable def uw(sp:Sp)(dvs:List V)(EE:St->XK)(t:TA):TE:=λ σ H Q=>t σ H λ vs H1=>sp (vs++dvs) H1 Q (EE σ)
theorem Ci(F:FnOk X.prog X.w X.K X.mg X.base CX k f fd ps sp)(hr:Room k X.A)(hg:Gl X x)(hm:X.mg x=some (.ref f))(hk:W.keepIn X.K (.ref f)=true)(hb:Binds X.K fd ps ds)(hd:Vals dvs ds)(hx:∀σ,gY CX X (EE σ) σ)
  (ha:PA X (e::es) t) (hdb:autoParam ((x == ("__debug__" : Str))=false) Z1_) (he:autoParam (starEach (e::es) X.env=(false,eval e X.env)::starEach es X.env) Z3_) (hpl:autoParam ((backTo pos (starEach es X.env)).any (·.1)=false) Z3_) :
  PE X (.Call (.Name x p) (e::es) [] pos) (uw sp dvs EE t):=by
 intro pins s σ H Q I h;refine iX (dY I hg hm ?_ hdb);refine s1c (h₀:=X.base) I.ok.mod.kin hk (thn (ha pos pins s σ H _ I h) λ us s1 ⟨vs,H1,I1,r,q⟩=>⟨I1.kIn,?_⟩) he hpl;have r2:Vals (vs++dvs) (us++ds):=r.append hd;have hl:(us++ds).length=ps.length:=by rw[← r2.length];exact F.len _ _ _ _ q
 refine gT (jS (F.run X.A X.stack s1 H1 ⟨us,[]⟩ (us++ds) (vs++dvs) Q (EE σ) hr I1.env0 (hb s1 us I1.kIn hl) r2 q) λ r s' hq=>?_)
 cases r with
 | error e=>exact hx σ pins H1 s1 e s' I1 hq
 | ok fl =>
  cases fl with
  | ret u=>exact I1.after hq
  | next=>exact False.elim hq
  | brk=>exact False.elim hq
  | cont=>exact False.elim hq
end
noncomputable def Cj(D:Ends)(i:Nat):Ends:={ nx:=λ σ H=>D.nx (σ.set i none) H,rt:=D.rt,bk:=λ σ H=>D.bk (σ.set i none) H,ct:=λ σ H=>D.ct (σ.set i none) H }
structure Callee (P:Program)(w:World)(K:FG)(mg:SV)(base:Heap)(CX:CXT)(k:Nat)(x:Str)(ps:List Str)(sp:Sp):Prop where
 has:∃(f:Addr) (fd:FuncData),FnOk P w K mg base CX k f fd ps sp/\mg x=some (.ref f)/\W.keepIn K (.ref f)=true/\Binds K fd ps []
theorem Callee.mk'{K:FG}{mg:SV}{st:Stmt}(F:Fun K x qual st f fd)(m:mg x=some (.ref f))(b:Binds K fd ps [])
  (ok:FnOk P w K mg base CX k f fd ps sp):Callee P w K mg base CX k x ps sp:=⟨⟨f,fd,ok,m,F.kp,b⟩⟩
theorem Callee.mono{K:FG}{j k:Nat}(c:Callee P w K mg base CX j x ps sp)(h:j≤k):Callee P w K mg base CX k x ps sp :=
 let ⟨f,fd,ok,m,kp,b⟩:=c.has;⟨⟨f,fd,ok.mono h,m,kp,b⟩⟩
section
variable {X:Cx}{CX:CXT}{k:Nat}{ps:List Str}{sp:Sp}{E:XK}{x:Str}{p pos:Pos}{e:Expr}{es:List Expr}{t:TA}
theorem ux(c:Callee X.prog X.w X.K X.mg X.base CX k x ps sp)(hr:Room k X.A)(hg:Gl X x)(hx:iW CX X E)(ha:PA X (e::es) t)(hdb:autoParam ((x == ("__debug__" : Str))=false) Z1_)
  (he:autoParam (starEach (e::es) X.env=(false,eval e X.env)::starEach es X.env) Z3_) (hpl:autoParam ((backTo pos (starEach es X.env)).any (·.1)=false) Z3_):PE X (.Call (.Name x p) (e::es) [] pos) (tL sp [] E t):=by
 obtain⟨f,fd,ok,m,kp,b⟩:=c.has;exact AX ok hr hg m kp b .nil hx ha hdb he hpl
theorem Ck{EE:St->XK}(c:Callee X.prog X.w X.K X.mg X.base CX k x ps sp)(hr:Room k X.A)(hg:Gl X x)(hx:∀σ,gY CX X (EE σ) σ)(ha:PA X (e::es) t)(hdb:autoParam ((x == ("__debug__" : Str))=false) Z1_)
  (he:autoParam (starEach (e::es) X.env=(false,eval e X.env)::starEach es X.env) Z3_) (hpl:autoParam ((backTo pos (starEach es X.env)).any (·.1)=false) Z3_):PE X (.Call (.Name x p) (e::es) [] pos) (uw sp [] EE t):=by
 obtain⟨f,fd,ok,m,kp,b⟩:=c.has;exact Ci ok hr hg m kp b .nil hx ha hdb he hpl
end
noncomputable def Cm(i j:Int):Prop:=j≠0/\-18446744073709551616 < j/\j < 18446744073709551616
theorem Cn{y:Int}(h0:-18446744073709551616 < y)(h1:y < 18446744073709551616):y.natAbs.log2 < 9000:=by
 by_cases z:y.natAbs=0
 ·rw[z];decide
 ·exact bO ((Nat.log2_lt z).mpr (show y.natAbs < 2 ^ 64 by lia)) (by decide)
theorem Co:OpR X (binaryOp .FloorDiv) (rI Cm λ i j=>.int (i.fdiv j)):=opI λ _ _ _ _ _ _ _ hc q=>floordiv_int hc.1 q (.inl (uy (Cn hc.2.1 hc.2.2)))
section
variable {K:FG}
end
noncomputable def oY(t n:String):Bool:=t == n || (t == "bool" && n == "int")
theorem Cp{K:FG}(e:(if (Value.type t == Value.type n)=true then some true else if W.kitMeta n=true then (fastBuiltinMro t).map (·.contains (.type n)) else none)=some b):W.kitOne K (.type t) (.type n)=some b:=by
 unfold W.kitOne;split at e
 ·rename_i h;rw[if_pos h];exact e
 ·rename_i h;rw[if_neg h];exact e
theorem small{n:Nat}(h:n≤1000):n≤sizeLine:=dE (aQ h)
section
variable {X:Cx}
end
section
variable {X:Cx}
end
end _L
namespace _L
open PySem PySem.Spec PyProof.Rows PySem.W PySem.Calls
structure ExcK (K:FG)(C:Addr):Prop where
 cls:(clsIn K C).isSome=true
 ga:findIn K (.ref C) "__getattribute__"=some (some (.builtin "BaseException.__getattribute__"))
 gt:findIn K (.ref C) "__getattr__"=some none
 cl:findIn K (.ref C) "__class__"=some (some (.builtin "object.__class__"))
 mo:mroIn K C (.type "object")=some true
 mb:mroIn K C (.type "BaseException")=some true
section
variable {prog:Program}{w:World}{A:Around}{E:VS}{K:FG}{h:Heap}{g:Array GenState}{d:Drawn}{t:Nat}{os:OsState}{a C:Addr}{ox:Obj}
theorem Cu{R:Result->Shared->Prop}(X:K.In h)(k:ExcK K C)(hx:h.get? a=some ox)(hc:ox.cls=.ref C)(hq:R (.ok (.ret (.ref C))) ⟨h,g,d,t,os⟩) :
  codeAny (model prog w) A (.call (.builtin "getset_descriptor.__get__") ⟨[.builtin "object.__class__",.ref a,.ref C],[]⟩) R ⟨h,g,d,t,os⟩:=by
 have L0:Looks (model prog w) h (typeOf (.ref a)) (.ref C):=hc ▸ (Looks.ld hx).andThen .now;have L1:=looks_mroIn (M:=model prog w) X k.mo;have hT5:(⟨h,g,d,t,os⟩:Shared).TypeIs (.builtin "object.__class__") "getset_descriptor" := oZ
 have _L:Looks (model prog w) h (isSubtype (.ref C) (.type (".".intercalate ("object.__class__".cutAt '.').dropLast))) true:=by
  rw[show(".".intercalate ("object.__class__".cutAt '.').dropLast)="object" by decide +kernel];exact L1
 refine kj F.slot_gs_get.plain F.entry_gs_get (F.slot_gs_get.check _ _ _ _ _ _ _ _ hT5 (F.args_gs_get _ _ _) ?_)
 repeat (any_goals (first | assumption | with_reducible refine L0.at ?_ | with_reducible refine _L.at ?_ | wp_step))
 refine⟨pc _ (by decide +kernel),dj F.entry_object_class ?_⟩
 repeat (any_goals (first | assumption | with_reducible refine L0.at ?_ | wp_step))
theorem Cv{tk:Tok}{Q:Fin->Shared->Prop}(X:K.In h)(k:ExcK K C)(hx:h.get? a=some ox)(hc:ox.cls=.ref C)(hq:Q (.done (.ret (.ref C))) ⟨h,g,d,t,os⟩) :
  wpAny (model prog w) A (Builtin.«object.__getattribute__» ⟨[.ref a,.str "__class__" tk],[]⟩) Q E ⟨h,g,d,t,os⟩:=by
 have L0:Looks (model prog w) h (typeOf (.ref a)) (.ref C):=hc ▸ (Looks.ld hx).andThen .now;have L3:=looks_findIn (M:=model prog w) X k.cl;have hT5:(⟨h,g,d,t,os⟩:Shared).TypeIs (.builtin "object.__class__") "getset_descriptor" := oZ;have f5:=oZ;have f6:=F.slot_gs_get.lookup;have f7:=F.slot_gs_set.lookup
 repeat (any_goals (first | assumption | with_reducible refine L0.at ?_ | with_reducible refine L3.at ?_ | wp_step))
 refine Cu X k hx hc ?_
 repeat (any_goals (first | assumption | wp_step))
theorem Cy{nameV:Value}{Q:Unit->Shared->Prop}(X:K.In h)(k:ExcK K C)(hx:h.get? a=some ox)(hc:ox.cls=.ref C)(hq:Q () ⟨h,g,d,t,os⟩) :
  wpAny M A (checkBuiltinCall "BaseException.__getattribute__" ⟨[.ref a,nameV],[]⟩) Q E ⟨h,g,d,t,os⟩:=by
 have e1:builtinKind "BaseException.__getattribute__"=some .slot:=by decide +kernel
 have e2:splitId "BaseException.__getattribute__"=some ("BaseException","__getattribute__"):=by decide +kernel
 have e3:=F.args_bexc_ga (.ref a) nameV;have L0:Looks M h (typeOf (.ref a)) (.ref C):=hc ▸ (Looks.ld hx).andThen .now;have L5:=looks_mroIn (M:=M) X k.mb;have LI:Looks M h (isInstance (.ref a) (.type "BaseException")) true:=L0.andThen L5;simp only[checkBuiltinCall,e1,e2];refine ae (LI.at ?_)
 repeat (first | assumption | wp_step)
theorem Cz{Q:Option Value->Shared->Prop}{s:Shared}(X:K.In s.heap)(k:ExcK K C)(hx:s.heap.get? a=some ox)(hc:ox.cls=.ref C)(hq:Q (some (.ref C)) { s with toks:=s.toks+1 }) :
  wpAny (model prog w) A (getAttr? (.ref a) "__class__") Q E s:=by
 obtain⟨h,g,d,t,os⟩:=s;have L0:Looks (model prog w) h (typeOf (.ref a)) (.ref C):=hc ▸ (Looks.ld hx).andThen .now;have L1:=looks_findIn (M:=model prog w) X k.ga;have _L:=looks_findIn (M:=model prog w) X k.gt;have f3:=F.excAttr_ValueError.ga.bind (.ref a);unfold getAttr? getAttrBy? getAttrBy;refine ae (wpAny_mkText (ae (gZ (cu (ae (L0.at (ae (L1.at ?_))))))));dsimp only
 have n1:¬(onTheHeap (Value.ref C) && Value.builtin "BaseException.__getattribute__" == Value.builtin "object.__getattribute__")=true:=by
  show ¬((true && (Value.builtin "BaseException.__getattribute__" == Value.builtin "object.__getattribute__"))=true);decide +kernel
 rw[if_neg n1];unfold getAttrByItsOwn hookBefore;refine ae ?_;rw[if_pos (show onTheHeap (Value.ref C)=true from rfl)];refine _L.at (ae (gZ (cu ?_)));unfold callGetattribute;rw[if_neg (by decide +kernel)];unfold boundAndCalled;refine ae (dn f3 ?_);refine gT (kj F.excAttr_ValueError.ga.plain F.entry_bexc_ga (Cy X k hx hc (Cv X k hx hc ?_)))
 repeat (any_goals (first | assumption | wp_step))
end
set_option tactic.hygienic true in
theorem CC{K:FG}(k:ExcK K C):KitX K (.ref a) (.ref C) (λ h=>∃o vs,h.get? a=some o/\o.cls=.ref C/\o.data=.fields vs) where
 ty:=λ M h _ ⟨o,_,h1,h2,_⟩=>h2 ▸ (Looks.ld h1).andThen .now
 it:=λ M h X _=>by
  obtain⟨cd,hcd⟩:=ou.mp k.cls;unfold clsIn at hcd;split at hcd
  ·rename_i z1 z2 z3 z4 hlk;intro A' Q' E' s' kk q;unfold isType loadHead;exact ae (pd (kk _ _ (X _ _ hlk)) (ak q))
  ·cases hcd
 ne:=λ h tp dd its n sl X htp=>by
  obtain⟨cd,hcd⟩:=ou.mp k.cls;refine Bool.eq_false_iff.mpr λ q=>?_;have e:C=tp:=Value.ref.inj (dZ.mp q);subst e;unfold clsIn at hcd;split at hcd
  ·rename_i z1 z2 z3 z4 hlk;have z:=(X _ _ hlk).symm.trans htp;cases z
  ·cases hcd
 ca:=λ X ⟨o,_,h1,h2,_⟩ q=>Cz X k h1 h2 q
section
variable {X:Cx}
theorem CD(hg:Gl X x)(hn:W.nsIn X.K mainGlobals x=some (some (.ref C)))(hd:autoParam ((x == ("__debug__" : Str))=false) Z1_):PE X (.Name x pos) (tC (.ref C)):=by
 intro pins s σ H Q I h;exact dY I hg (s1n I.ok.mod.kin I.ok.mod.glob hn) ⟨.ref C,H,I,rfl,h⟩ hd
end
noncomputable def ja(t:Addr)(i:Int):Obj:={ cls:=.type "reversed",data:=.fields #[.ref t,rawInt i] }
noncomputable def IsRv(h:Heap)(a t:Addr)(i:Int):Prop:=∃o,h.get? a=some o/\o.cls=.type "reversed" /\ o.data=.fields #[.ref t,rawInt i]
theorem IsRv.typeIs{s:Shared}(x:IsRv s.heap a t i):s.TypeIs (.ref a) "reversed" := let ⟨o,ho,hc,_⟩:=x;⟨o,ho,hc⟩
theorem CF:typeLookup (.type "tuple") "__reversed__"=pure none:=by rw[dM,dN];kernel_rfl
theorem uz:typeLookup (.type "tuple") "__getitem__"=pure (some (.builtin "tuple.__getitem__")):=by rw[dM,dN];kernel_rfl
theorem CG:isSubtype (.type "tuple") (.type "dict")=pure false:=by rw[hG];kernel_rfl
theorem CH:Slot "reversed" "__init__" "object.__init__" :=
 .of (owner := "object") (n := "__init__") (by rw[dM,dN];kernel_rfl) (by decide +kernel) (by decide +kernel) (by decide +kernel) (.inl (by decide +kernel)) (by rw[hG];kernel_rfl)
theorem rv_next:Slot "reversed" "__next__" "reversed.__next__" :=
 .of (owner := "reversed") (n := "__next__") (by rw[dM,dN];kernel_rfl) (by decide +kernel) (by decide +kernel) (by decide +kernel) (.inl (by decide +kernel)) (by rw[hG];kernel_rfl)
theorem uA:Slot "reversed" "__iter__" "reversed.__iter__" :=
 .of (owner := "reversed") (n := "__iter__") (by rw[dM,dN];kernel_rfl) (by decide +kernel) (by decide +kernel) (by decide +kernel) (.inl (by decide +kernel)) (by rw[hG];kernel_rfl)
theorem uB:entryFor table "reversed.__next__"=some Builtin.«reversed.__next__»:=entryFor_of_tree (by kernel_rfl)
theorem CI:entryFor table "reversed.__iter__"=some Builtin.«dict_keyiterator.__iter__» :=
 entryFor_alias (id' := "dict_keyiterator.__iter__") (by kernel_rfl) (by first | rfl | decide +kernel) (by decide +kernel) (by kernel_rfl)
theorem uC(a:Value):argsOk "reversed.__next__" ⟨[a],[]⟩:=by unfold argsOk;kernel_rfl
theorem CJ(a:Value):argsOk "reversed.__iter__" ⟨[a],[]⟩:=by unfold argsOk;kernel_rfl
theorem CK:TypeCalled "reversed" "reversed.__new__" "object.__init__" :=
 ⟨by decide +kernel,PySem.F.create_reversed,⟨_,_,PySem.F.mro_reversed⟩,PySem.F.made_reversed,PySem.F.plain_reversed_new,PySem.F.sub_reversed_self,CH⟩
theorem CL(t:Addr)(items:Array Value)(hz:(items.size:Int) < 2 ^ 63):Meets (Builtin.«reversed.__new__» ⟨[.type "reversed",.ref t],[]⟩)
  (λ _ R s=>IsTup s.heap t items/\∀tk,R (.ok (.ret (.ref s.heap.objs.size))) { s with heap:=s.heap.push (ja t ((items.size:Int) - 1)),toks:=tk }) :=
 .of_wp λ prog w A R s h=>by
  obtain⟨ht,h⟩:=h;have hT:s.TypeIs (.ref t) "tuple" := ht.typeIs;unfold Builtin.«reversed.__new__»;refine ae (dn (PySem.newClass_reversed _) ?_);try dsimp only
  refine ae (dn (a:=()) (by first | rfl | kernel_rfl) ?_);refine ae (dn (a:=()) (by first | rfl | kernel_rfl) ?_);try dsimp only
  refine ae (gj hT CF ?_);try dsimp only
  refine ae ?_
  k_delta "hasItemSlot"
  refine ae (lO (T := "tuple") (b:=false) hT CG ?_);rw[if_neg bH];refine ae (gj hT uz ?_);dsimp only;rw[if_pos (by decide +kernel)];refine ak ?_;rw[if_neg (by decide)];refine ae (s0q ht hz ?_);refine ae (dn (a:=some (items.size:Int)) rfl ?_);dsimp only;refine ae ?_;unfold Builtin.SmallTypes.newRecord;refine ci (ak ⟨_,rfl,h _⟩)
section
variable {prog:Program}{w:World}{A:Around}{E:VS}{s:Shared}
theorem CO{Q:VS}(ht:IsTup s.heap t items)(hz:(items.size:Int) < 2 ^ 63)
  (h:∀tk,Q (.ref s.heap.objs.size) { s with heap:=s.heap.push (ja t ((items.size:Int) - 1)),toks:=tk }):wpAny (model prog w) A (call (.type "reversed") [.ref t]) Q E s :=
 callType_new CK (by decide) (PySem.F.typeCall_reversed_1 _) (PySem.F.newCall_reversed_1 _) (λ obj=>lP obj _) PySem.F.entry_reversed_new (CL t items hz)
  ⟨ht,λ tk=>⟨⟨_,bA _ rfl,rfl⟩,h tk⟩⟩
theorem CP{i:Nat}{Q:Option Value->Shared->Prop}(hit:IsRv s.heap it t (i:Int))(ht:IsTup s.heap t items)(hx:items[i]?=some x)(hz:(items.size:Int) < 2 ^ 63)
  (hQ:∀h' tk,IsRv h' it t ((i:Int) - 1)->Heap.SameBut it s.heap h'->Q (some x) { s with heap:=h',toks:=tk }):wpAny (model prog w) A (pyNext (.ref it)) Q E s:=by
 obtain⟨o,ho,hc,hd⟩:=id hit;have hT:s.TypeIs (.ref t) "tuple" := ht.typeIs;have hi:i < items.size:=(jb.mp hx).1;unfold pyNext;refine ae (gZ (lE (name:=Str.ofString "__next__") hit.typeIs rv_next (gU rv_next hit.typeIs uB ?_ (uC _))));unfold Builtin.«reversed.__next__»;refine ae (dn (a:=(Value.ref it,[])) rfl ?_);try dsimp only
 refine ae (cY ho hd (x:=.ref t) rfl ?_);refine ae (cY ho hd (x:=rawInt (i:Int)) rfl ?_);show wpAny _ _ (if (i:Int) < 0 then _ else _) _ _ s;rw[if_neg (by lia)];refine ae (gj hT uz ?_);rw[if_neg (by decide)];refine ae (wpAny_mkInt ?_);refine ae (gZ (getItem_tuple (k:=(i:Int)) (j:=i) ht (by lia) (by lia) (by simp[seqIndex?];lia) hx ?_));dsimp only;refine ae (cY ho hd (x:=rawInt (i:Int)) rfl ?_);show wpAny _ _ (setField (.ref it) 1 (rawInt ((i:Int) - 1)) >>= _) _ _ _;refine ae (jc ho hd (by simp) ?_);refine ak ⟨x,rfl,ak (hQ _ _ ?_ (Heap.SameBut.update ..))⟩;exact⟨_,eh _ ho (lQ (hZ hd _)),(Obj.cls_mapFields ..).trans hc,by rw[hZ hd];simp⟩
theorem CQ{Q:Option Value->Shared->Prop}(hh:A.handled=none)(hit:IsRv s.heap it t (-1))(hQ:∀h' tk,Heap.ExtBut it s.heap h'->Q none { s with heap:=h',toks:=tk }):wpAny (model prog w) A (pyNext (.ref it)) Q E s:=by
 obtain⟨o,ho,hc,hd⟩:=id hit;unfold pyNext;refine ae (gZ (lE (name:=Str.ofString "__next__") hit.typeIs rv_next (gU rv_next hit.typeIs uB ?_ (uC _))));unfold Builtin.«reversed.__next__»;refine ae (dn (a:=(Value.ref it,[])) rfl ?_);try dsimp only
 refine ae (cY ho hd (x:=.ref t) rfl ?_);refine ae (cY ho hd (x:=rawInt (-1)) rfl ?_);show wpAny _ _ (if (-1:Int) < 0 then _ else _) _ _ s;rw[if_pos (by decide)];refine ae (s1a ?_);refine ae ?_
 k_delta "reversedEnd"
 refine ae (jc ho hd (by simp) ?_);refine jc (eh _ ho (lQ (hZ hd _))) (hZ hd _) (by simp) ?_;refine ae ?_
 have other:∀b u,b≠it->s.heap.get? b=some u->((s.heap.update it (Obj.mapFields λ x=>x.setIfInBounds 1 (rawInt (-1)))).update it (Obj.mapFields λ x=>x.setIfInBounds 0 Value.none)).get? b=some u:=λ b u nb e=>by
  rw[cv _ _ (bo nb),cv _ _ (bo nb)];exact e
 generalize ((s.heap.update it (Obj.mapFields λ x=>x.setIfInBounds 1 (rawInt (-1)))).update it (Obj.mapFields λ x=>x.setIfInBounds 0 Value.none))=hU at *;show wpAny _ _ (newExc (.type "StopIteration") [] >>= _) _ _ _;refine ae ?_;simp only[newExc,newTuple];refine ae (ci ?_ (by size_fits));refine ae (m:=firstArgMember _ _) (dn (a:=Value.none) (by first | rfl | (simp only[firstArgMember];rfl)) ?_);refine ci ?_ (by size_fits);simp only[raiseNew];refine ae (wpAny_handled ?_);rw[show A.in1.handled=none from hh];refine ae (ak (wpAny_throw ?_));refine ae (lO (T := "StopIteration") (b:=true) ⟨_,bA _ rfl,rfl⟩ isSubtype_stop ?_);exact ak (hQ _ _ λ b u nb e=>aE _ (aE _ (other b u nb e)))
theorem CS{Q:VS}(hit:IsRv s.heap it t i)(h:Q (.ref it) s):wpAny (model prog w) A (pyIter (.ref it)) Q E s:=by
 refine wpAny_pyIter_slot hit.typeIs uA (gU uA hit.typeIs CI ?_ (CJ _));show wpAny _ _ (ret (.ref it)) _ _ s;exact ak ⟨_,rfl,"reversed",_,hit.typeIs,rv_next.lookup,h⟩
end
theorem uD:(sizeLine:Int) < 2 ^ 63:=by rw[fF];decide
section
variable {X:Cx}{tg:Expr}
end
theorem CT:typeLookup (.type "list_reverseiterator") "__len__"=pure none:=by rw[dM,dN];kernel_rfl
theorem CU:typeLookup (.type "list_reverseiterator") "__length_hint__"=pure (some (.builtin "list_reverseiterator.__length_hint__")):=by rw[dM,dN];kernel_rfl
section
variable {pg:Program}{wd:World}{B:Around}{X0:VS}{s0:Shared}{J:Addr}{fs ws:List Addr}{Gg:Array GenState->Array GenState->Prop}{m:Nat}{Pr:Nat->Value->Prop}{Sx:Nat->Shared->Prop}
theorem CV{R:LV->Shared->Prop}(wk:WalksS pg wd B.in1 J fs ws Gg m Pr Sx)(ty:∀j z,Sx j z->z.TypeIs (.ref J) "list_reverseiterator")(z0:Sx 0 s0)(lt:∀b∈fs,b < s0.heap.objs.size)(mJ:J∈fs)(sm:m≤sizeLine)
  (fin:∀z' ac,Moved ws Gg s0 z'->ItemsOf Pr ac m->R ac.toList z'):wpAny (model pg wd) B (collect (.ref J)) R X0 s0:=by
 have out:s0.heap.objs.size ∉ fs:=λ q=>absurd (lt _ q) (ce _);have neJ:s0.heap.objs.size≠J:=by rintro rfl;exact out mJ
 let nu:Obj:={ cls:=.type "list",data:=.seq ([]:LV).toArray }
 unfold collect;refine ae (pf (dj ph ?_));rw[dO pj _];show wpAny _ B.in1 (newList [] >>= λ q=>again (.builtin "list.__iadd__" ⟨[q,.ref J],[]⟩)) _ _ s0;refine ae (ci ?_);refine ak ⟨dq jd _,dj pk ?_⟩;rw[dO jd _];have z1:=wk.frame 0 s0 (s0.heap.push nu) s0.toks z0 (au _) λ b _ o e=>aE _ e;have at1:(s0.heap.push nu).get? s0.heap.objs.size=some nu:=bA _ rfl;have dif:Builtin.List.listSameRef (.ref s0.heap.objs.size) (.ref J)=false:=by simp[Builtin.List.listSameRef,neJ]
 show wpAny _ B.in1 (Builtin.List.listExtendWith (.ref s0.heap.objs.size) (.ref J) (.ref s0.heap.objs.size)) _ _ _;unfold Builtin.List.listExtendWith;refine ae (gb (ty 0 _ z1) ?_);rw[if_neg (by rw[dif];decide)];refine ae (wk.self 0 _ _ _ z1 ?_);refine ae (cu ?_);unfold Builtin.List.listLengthHint;refine ae (gj (ty 0 _ z1) CT ?_);show wpAny _ B.in1 (specialOf (Value.ref J) (Str.ofString "__length_hint__") >>= _) _ _ _;refine ae (gj (ty 0 _ z1) CU ?_)
 (generalize hid:("list_reverseiterator.__length_hint__" : String)=id0;wp_delta;rw[show splitId id0=some ("list_reverseiterator","__length_hint__") from by subst hid;decide +kernel];subst hid)
 refine ae (lO (b:=true) (ty 0 _ z1) (by rw[hG];kernel_rfl) ?_);refine ak ?_;rw[if_neg (by decide)];refine ak ⟨dq pq _,pr wk sm _ out _ m 0 _ _ _ rfl (cy _) z1 at1 (s1l Pr) λ z' ac cc mv at2 its=>?_⟩;show wpAny _ B (load s0.heap.objs.size >>= _) _ _ z';exact ae (jM at2 (ak (fin z' ac (px (o:=nu) (tk:=s0.toks) mv (au _)) its)))
theorem CW{R:VS}(wk:WalksS pg wd B.in1.in1 J fs ws Gg m Pr Sx)(ty:∀j z,Sx j z->z.TypeIs (.ref J) "list_reverseiterator")(z0:Sx 0 s0)(lt:∀b∈fs,b < s0.heap.objs.size)(mJ:J∈fs)(sm:m≤sizeLine)
  (fin:∀z' ac,Moved ws Gg s0 z'->ItemsOf Pr ac m->R (.ref z'.heap.objs.size) { z' with heap:=z'.heap.push { cls:=.type "tuple",data:=.seq ac } }) :
  codeAny (model pg wd) B (.call (.builtin "tuple.__new__") ⟨[.type "tuple",.ref J],[]⟩) (wants R X0) s0:=by
 refine lR ?_;show wpAny _ B.in1 (do checkBuiltinCall "tuple.__new__" ⟨[.type "tuple",.ref J],[]⟩;again (.builtin "tuple.__new__" ⟨[.type "tuple",.ref J],[]⟩)) _ _ s0;refine ae (dn (py _) (ak ⟨dq jf _,dj pA ?_⟩));rw[dO jf _];have q1:=pE;have q2:=pF;have q3:=pG;have q4:=ty 0 s0 z0;wp_walk using gb q4,CV (sm:=sm) wk ty z0 lt mJ;intro z' ac mv its;show wpAny _ _ (Builtin.Tuple.tupleExact ac.toList.toArray >>= λ q=>ret q) _ _ _;have e:ac.toList.toArray=ac:=by simp
 rw[e];unfold Builtin.Tuple.tupleExact;exact ae (ci (ak (fin z' ac mv its)) (by show ac.size≤sizeLine;rw[its.1];exact sm))
theorem CY{R:VS}(wk:WalksS pg wd B.in1.in1.in1 J fs ws Gg m Pr Sx)(ty:∀j z,Sx j z->z.TypeIs (.ref J) "list_reverseiterator")(z0:Sx 0 s0)(lt:∀b∈fs,b < s0.heap.objs.size)(mJ:J∈fs)(sm:m≤sizeLine)
  (fin:∀z' ac,Moved ws Gg s0 z'->ItemsOf Pr ac m->R (.ref z'.heap.objs.size) { z' with heap:=z'.heap.push { cls:=.type "tuple",data:=.seq ac } }) :
  wpAny (model pg wd) B (call (.type "tuple") [.ref J]) R X0 s0 :=
 pH (Q₁:=λ ob z=>z.TypeIs ob "tuple" /\ R ob z) pI (pJ _) pK
  (CW (sm:=sm) wk ty z0 lt mJ λ z' ac mv its=>⟨⟨_,bA _ rfl,rfl⟩,fin z' ac mv its⟩)
  λ ob z q=>⟨q.1,lP ob _,pL F.called_tuple.init.lookup F.called_tuple.made (by decide) pg wd B.in1 _ z ⟨q.1,rfl,q.2⟩⟩
end
section
variable {X:Cx}
noncomputable def CZ(K:FG)(te:TE):TE:=λ σ H Q=>te σ H λ x H1=>∃a xs,x=.ref a/\SqL K H1 a xs/\∀p,H1 p=none->Q (.ref p) (upd H1 p (.tup xs.reverse))
theorem Da{p1 p2 pos pos':Pos}(hc:X.calm=true)(ht:Gl X "tuple")(hr:Gl X "reversed")(mt:X.mg "tuple"=none)(mr:X.mg "reversed"=none)(he:PE X e te)(hs:autoParam (starEach [e] X.env=[(false,eval e X.env)]) Z3_) :
  PE X (.Call (.Name "tuple" p1) [.Call (.Name "reversed" p2) [e] [] pos'] [] pos) (CZ X.K te):=by
 intro pins s σ H Q I h;refine Call_ (eQ I ht mt boot_tuple (iS ?_ rfl rfl));refine oj ?_;have hA:=(bI he (pa_nil (X:=X)) hs) pos' pins s σ H (λ vs H1=>match vs with | [x]=>∃a xs,x=.ref a/\SqL X.K H1 a xs/\∀p,H1 p=none->Q (.ref p) (upd H1 p (.tup xs.reverse)) | _=>False) I h;refine Call_ (eQ I hr mr boot_reversed (iS (thn hA λ us s1 ⟨vs,H1,I1,r1,q1⟩=>?_) hs rfl))
 match vs,q1 with
 | [x],⟨a,xs,e,hq,q⟩ =>
  subst e;obtain⟨u,rfl,ru⟩:=cH r1;cases (show u=Value.ref a from ru);obtain⟨its,rv,pl,hz⟩:=I1.list hq;have hl:=rv.length;refine call_reversed_list pl.isList ?_;refine oi ?_;have I2:Inv X pins σ H1 { s1 with heap:=s1.heap.push (revObj a ((its.toArray.size:Int) - 1)) }:=I1.kept (t':=s1.toks) λ b o e=>aE _ e;have al:a < s1.heap.objs.size:=by obtain⟨o,ho,_⟩:=pl.isList;exact az ho
  have hne:a≠s1.heap.objs.size:=aZ al
  have ir:(s1.heap.push (revObj a ((its.toArray.size:Int) - 1))).IsRevIter s1.heap.objs.size a ((its.toArray.size:Int) - 1 - ((0:Nat):Int)):=by
   refine⟨_,bA _ rfl,rfl,?_⟩;have e:(its.toArray.size:Int) - 1 - ((0:Nat):Int)=(its.toArray.size:Int) - 1:=by lia
   rw[e];rfl
  have sz:(s1.heap.push (revObj a ((its.toArray.size:Int) - 1))).objs.size=s1.heap.objs.size+1:=by simp[Heap.push]
  have ff:=I1.fpOk (au s1.heap.objs.size) (I1.hok.fresh (au _))
  refine CY (Walks.listRev (A:=X.A.in1.in1.in1) (I.ok.hd hc) s1.heap.objs.size a hne its.toArray).toS (λ j z q=>let ⟨o,ho,hk,_⟩:=q.2.1;⟨o,ho,hk⟩)
   ⟨cy _,ir,pl.isList.at λ o e=>aE _ e⟩ (λ b hb=>?_) (cN ..) (by simp only[aG];lia) λ z' ac mv io=>?_
  ·show b < (s1.heap.push (revObj a ((its.toArray.size:Int) - 1))).objs.size;rw[sz];simp only[av,bh,aY] at hb
   rcases hb with rfl | rfl
   ·exact gh _
   ·exact dh al
  have I3:Inv X pins σ H1 z':=by
   obtain⟨zh,zg,zd,zt,zo⟩:=z';have e1:zg=s1.gens:=mv.gens;have e2:zd=s1.drawn:=mv.drawn;have e3:zo=s1.os:=mv.os;subst e1 e2 e3;obtain⟨f0,f1,f2,f3,f4,f5⟩:=ff;exact I1.turned (t':=zt) (λ b o hb e=>mv.heap b o (by simpa using hb) (aE _ e)) f0 f1 f3 f4 f5
  have er:ac=its.reverse.toArray:=by
   have sz2:ac.size=its.length:=by simpa using io.1
   apply Array.ext
   ·simp[sz2]
   ·intro j h1 h2;have q:=io.2 j _ (pM h1);simp only[aG,uE] at q;have q2:its.reverse[j]?=some ac[j]:=by rw[uF (by lia)];exact q
    rw[uG];exact(cr ((bP (by simpa using h2)).symm.trans q2)).symm
  subst er
  have I4:Inv X pins σ (upd H1 z'.heap.objs.size (.tup xs.reverse)) { z' with heap:=z'.heap.push { cls:=.type "tuple",data:=.seq its.reverse.toArray } } :=
   I3.laid (t':=z'.toks) (λ b o e=>aE _ e) (au _) (show ObjOk X.prog X.w _ _ _ (.tup xs.reverse) from ⟨by simpa using hz,its.reverse,rv.reverse,TupO.new _ _⟩)
  exact⟨.ref z'.heap.objs.size,_,I4,rfl,q _ (I3.hok.fresh (au _))⟩
end
section
variable {X:Cx}
noncomputable def Db(K:FG):R2:=λ x y H Q=>∃a b xs ys,x=.ref a/\y=.ref b/\SqT K H a xs/\SqT K H b ys/\xs.length+ys.length≤sizeLine /\
 (xs=[]->Q (.ref b) H)/\(xs≠[]->ys=[]->Q (.ref a) H)/\(xs≠[]->ys≠[]->∀p,H p=none->Q (.ref p) (upd H p (.tup (xs++ys))))
theorem Dc:OpR X (binaryOp .Add) (Db X.K):=by
 intro pins s σ H x y v u Q I rx ry h;obtain⟨a,b,xs,ys,rfl,rfl,ha,hb,hz,q0,q1,q2⟩:=h;by_cases hx:xs=[]
 ·cases rx;cases ry;obtain⟨its,r1,p1,_⟩:=I.tuple ha;obtain⟨its2,r2,p2,_⟩:=I.tuple hb;have e1:its=[]:=r1.nil_iff.mpr hx;obtain⟨⟨c1,d1,z1,l1⟩,g1,hc1,n1,hd1⟩:=id p1;obtain⟨⟨c2,d2,z2,l2⟩,g2,hc2,n2,hd2⟩:=id p2;simp only at hc1 hd1 hc2 hd2;subst hc1 hd1 hc2 hd2
  exact lD ⟨_,g1,rfl⟩ ⟨_,g2,rfl⟩ oB s0o oC oE (oF _ _)
   (tuple_addW0 a b its.toArray its2.toArray n1 n2 d1 d2 l1 l2 (by simp[e1])) ⟨g1,g2,.ref b,H,I,rfl,q0 hx⟩
 ·exact Bp pins s σ H _ _ v u Q I rx ry ⟨a,b,xs,ys,rfl,rfl,ha,hb,hx,hz,q1 hx,q2 hx⟩
end
section
variable {pg:Program}{wd:World}{B:Around}{X0:VS}{s0:Shared}
theorem uH{h h':Heap}(p:h.IsTuple t its)(f:∀o,h.get? t=some o->h'.get? t=some o):h'.IsTuple t its:=let ⟨o,g,r⟩:=p;⟨o,f o g,r⟩
end
section
variable {X:Cx}{es:List Expr}{x1:Nat}{pp:Pos}
end
section
variable {X:Cx}
theorem Dd(hc:X.calm=true):bG X (.builtin "sum") (λ xs H Q=>∃(a:Addr) (ns:LIq),xs=[.ref a]/\SqL X.K H a (ns.map V.int)/\Q (.int ns.sum) H):=by
 intro pins s σ H xs us Q I r h;obtain⟨a,ns,rfl,hq,q⟩:=h;obtain⟨u,rfl,ru⟩:=cH r;cases (show u=Value.ref a from ru);obtain⟨its,rv,pl,hz⟩:=I.list hq;have hi:=iY rv;have hn:=hi.numsOf;obtain⟨ps,e⟩:=hi.allInts.items;have hl:s.heap.IsList a (intItems ps):=e ▸ pl.isList;refine sum_intListG (I.ok.hd hc) hl λ h' tk t' kk=>?_
 have e2:preSum (numAt ps) ps.size=ns.sum:=by
  rw[preSum_eq,eE (by simp),← nums_intItems,← e];exact bF List.sum hn
 rw[e2];exact⟨.int ns.sum,H,I.kept kk,⟨t',rfl⟩,q⟩
end
open AutoSeq1 (wpAny_loadPart')
theorem De:fillsNumberSlot (.type "tuple") "mul"=pure false :=
 PySem.fillsNumberSlot_seq (id := "tuple.__mul__") (r:=some (.builtin "tuple.__rmul__")) F.slot_tuple_mul.lookup (by decide +kernel) (by rw[dM,dN];kernel_rfl) (by decide +kernel)
theorem Df:seqRepeat? (.type "tuple")=pure (some (.builtin "tuple.__mul__")):=by
 have e1:typeLookup (.type "tuple") "__rmul__"=pure (some (.builtin "tuple.__rmul__")):=by rw[dM,dN];kernel_rfl
 unfold seqRepeat?;rw[PySem.seqSlot_of (T := "tuple") (name := "__mul__") (id := "tuple.__mul__") F.slot_tuple_mul.lookup (by decide +kernel),PySem.seqSlot_of (T := "tuple") (name := "__rmul__") (id := "tuple.__rmul__") e1 (by decide +kernel)];rfl
theorem Dg(k:Int)(t:Tok)(l:Addr)(its:Array Value)(n:Nat)(dd:OA)(sl:AV) :
  Meets (Builtin.«int.__rmul__» ⟨[.int k t,.ref l],[]⟩) (λ _ R s=>s.heap.get? l=some { cls:=.type "tuple",dict:=dd,data:=.seq its n,slots:=sl }/\R (.ok (.ret Value.notImplemented)) s) :=
 .of_wp λ prog w A R s h=>by obtain⟨hp,g,d,tk,os⟩:=s;obtain⟨hl,h⟩:=h;wp_walk;exact⟨_,rfl,h⟩
theorem Dh(l:Addr)(its:Array Value)(n:Nat)(u:Tok)(dd:OA)(sl:AV) :
  Meets (Builtin.«tuple.__mul__» ⟨[.ref l,.int 1 u],[]⟩) (λ _ R s=>s.heap.get? l=some { cls:=.type "tuple",dict:=dd,data:=.seq its n,slots:=sl }/\R (.ok (.ret (.ref l))) s) :=
 .of_wp λ prog w A R s h=>by
  obtain⟨hp,g,d,tk,os⟩:=s;obtain⟨hl,h⟩:=h;have f1:=pN;have c1:¬((decide ((1:Int) < -(2 ^ 63)) || decide ((1:Int) ≥ 2 ^ 63))=true):=by decide
  have c2:(its.isEmpty || (1:Int) == 1)=true:=by simp
  wp_walk using wpAny_loadPart' hl;exact⟨_,rfl,h⟩
theorem Di(l:Addr)(its:Array Value)(n:Nat)(k:Int)(u:Tok)(dd:OA)(sl:AV)(h0:k≤0)(h1:-(2 ^ 63)≤k)(ne:its.isEmpty=false) :
  Meets (Builtin.«tuple.__mul__» ⟨[.ref l,.int k u],[]⟩) (λ _ R s=>s.heap.get? l=some { cls:=.type "tuple",dict:=dd,data:=.seq its n,slots:=sl }/\R (.ok (.ret (.ref s.heap.objs.size))) { s with heap:=s.heap.push { cls:=.type "tuple",data:=.seq #[] } }) :=
 .of_wp λ prog w A R s h=>by
  obtain⟨hp,g,d,tk,os⟩:=s;obtain⟨hl,h⟩:=h;have f1:=pN;have c1:¬((decide (k < -(2 ^ 63)) || decide (k ≥ 2 ^ 63))=true):=by simp;lia
  have c2:¬(its.isEmpty || k == 1)=true:=by simp[ne];lia
  have c3:(decide (k≤0) || its.isEmpty)=true:=by simp[h0]
  wp_walk using wpAny_loadPart' hl;rw[if_neg c1];wp_walk using wpAny_loadPart' hl;rw[if_neg c2];dsimp only;rw[if_pos c3];wp_walk;exact⟨_,rfl,h⟩
theorem Dj(l:Addr)(its:Array Value)(n:Nat)(k:Int)(u:Tok)(dd:OA)(sl:AV)(h0:1 < k)(h1:k < 2 ^ 63)(ne:its.isEmpty=false)(hz:its.size * k.toNat≤sizeLine) :
  Meets (Builtin.«tuple.__mul__» ⟨[.ref l,.int k u],[]⟩) (λ _ R s=>s.heap.get? l=some { cls:=.type "tuple",dict:=dd,data:=.seq its n,slots:=sl }/\R (.ok (.ret (.ref s.heap.objs.size))) { s with heap:=s.heap.push { cls:=.type "tuple",data:=.seq ((List.replicate k.toNat its).foldl (·++·) #[]) } }) :=
 .of_wp λ prog w A R s h=>by
  obtain⟨hp,g,d,tk,os⟩:=s;obtain⟨hl,h⟩:=h;have f1:=pN;have ek:(its.size:Int) * k=((its.size * k.toNat:Nat):Int):=by rw[Int.natCast_mul];congr 1;lia
  have sl63:(sizeLine:Int)≤(2 ^ 63 - 1) / 8:=by rw[fF];decide
  have c1:¬((decide (k < -(2 ^ 63)) || decide (k ≥ 2 ^ 63))=true):=by simp;lia
  have c2:¬(its.isEmpty || k == 1)=true:=by simp[ne];lia
  have c3:¬(decide (k≤0) || its.isEmpty)=true:=by simp[ne];lia
  have c4:¬((its.size:Int) * k > (2 ^ 63 - 1) / 8):=by rw[ek];lia
  have c5:¬(Builtin.Tuple.tupleTooMany ((its.size:Int) * k)=true):=by
   unfold Builtin.Tuple.tupleTooMany;rw[ek,du];lia
  have c6:((List.replicate k.toNat its).foldl (·++·) #[]).size≤sizeLine:=by
   have e:∀(m:Nat) (a:Array Value),((List.replicate m its).foldl (·++·) a).size=a.size+m * its.size:=by
    intro m
    induction m with
    | zero=>intro a;simp
    | succ m ih=>intro a;rw[dL,oN,ih];simp[Nat.succ_mul];lia
   rw[e];simp;rw[s1e];exact hz
  wp_walk using wpAny_loadPart' hl;rw[if_neg c1];wp_walk using wpAny_loadPart' hl;rw[if_neg c2];dsimp only;rw[if_neg c3];rw[if_neg c4];rw[if_neg c5];unfold Builtin.Tuple.tupleExact;refine ae (ci (ak ?_) c6);exact⟨_,rfl,h⟩
section
variable {X:Cx}
end
section
variable {X:Cx}
end
section
variable {prog:Program}{w:World}{A:Around}{R:Result->Shared->Prop}{s:Shared}
theorem Dk{elt target iter cnd:Expr}{it acc:Value}(I:Nat->Shared->Prop)
  (turn:∀n s,I n s->wpAny (model prog w) A (pyNext it) (λ r s₁=>match r with
   | none=>R (.ok .next) s₁
   | some v=>wpAny (model prog w) A (letOwnedTupleGo target it v) (λ _ s₀=>wpAny (model prog w) A (assign target env v) (λ _ s₂=>wpAny (model prog w) A (isTrue cnd env (eval cnd env)) (λ b s₃ =>
     if b=true then wpAny (model prog w) A (eval elt env) (λ x s₄ =>
      wpAny (model prog w) A (call (.builtin "list.append") [acc,x]) (λ _ s₅=>∃m,m < n/\I m s₅) (λ _ _=>False) s₄) (λ _ _=>False) s₃
     else ∃m,m < n/\I m s₃)
     (λ _ _=>False) s₂) (λ _ _=>False) s₀) (λ _ _=>False) s₁) (λ _ _=>False) s)
  (n:Nat) (h:I n s) :
  codeAny (model prog w) A (.compLoop (.ListComp elt [⟨target,iter,[cnd],0⟩] scope pos) 0 it acc env) R s:=by
 refine codeAny_loop rfl I (λ n s hI=>?_) n h;show wpAny _ _ ((compTurn (.ListComp elt [⟨target,iter,[cnd],0⟩] scope pos) 0 it acc env).onRaise (λ x=>do noteFrame x env;theTreesLotGoes x)) _ _ s;refine wpAny_noted ?_;rw[compTurn_list];refine ae (fE (ae (bL (turn n s hI) (λ r s₁ h₁=>?_) λ _ _ h'=>h'.elim)))
 cases r with
 | none=>exact ak h₁
 | some v =>
  refine ae (bL h₁ (λ _ s₀ h₀=>?_) λ _ _ h'=>h'.elim);refine ae (bL h₀ (λ _ s₂ h₂=>?_) λ _ _ h'=>h'.elim);refine ae (bL (wpAny_tests_one h₂) (λ ok s₃ h₃=>?_) λ _ _ h'=>h'.elim)
  cases ok with
  | false=>exact ak ⟨rfl,h₃⟩
  | true=>exact ae (ae (bL h₃ (λ x s₄ h₄=>ae (bL h₄ (λ _ s₅ h₅=>ak (ak ⟨rfl,h₅⟩)) λ _ _ z=>z.elim)) λ _ _ z=>z.elim))
end
noncomputable def uI(cnd:Expr):lN:=λ p w A env k s=>wpAny (model p w) A (isTrue cnd env (eval cnd env)) k (λ _ _=>False) s
theorem Dl{cnd:Expr}:oU [cnd] (uI cnd):=⟨λ I t n h=>Dk I t n h,λ h m=>bL h m λ _ _ z=>z⟩
theorem pmI{X:Cx}(hx:X.xe=λ _ _=>False)(h:PT X cnd tc):PM X (uI cnd) tc:=λ pins s σ H K I k=>by
 have z:=h pins s σ H K I k;rw[hx] at z;exact z
theorem uJ{X:Cx}{elt tg iter cnd:Expr}{cl:LA}{own fv:List Str}{js:List Nat}
  (hc:X.calm=true) (hi:PI X tg iter wi) (hclos:closureFor scope X.env=pure cl) (hcell:∀y∈scope.names,y.2≠.cell) (hkind:scope.kind=.function)
  (hnames:∀y∈scope.names,y.2=.local->scope.names.lookup y.1=some .local)
  (hcl:∀x c,cl.lookup x=some c->X.env.cells.lookup x=some c)
  (hhas:∀x,((relabel scope X.env).names.lookup x=some .cell\/(relabel scope X.env).names.lookup x=some .free)->∃c,cl.lookup x=some c)
  (hlen:js.length=fv.length) (hcap:∀(i:Nat) x j,fv[i]?=some x->js[i]?=some j->Cap X scope cl x j)
  (hg:∀(C:Addr) (ex:List Addr) (s:Shared) (H:Hp),PG (bv X (own++fv) scope cl C ex s H) tg g)
  (he:∀(C:Addr) (ex:List Addr) (s:Shared) (H:Hp),PE (bv X (own++fv) scope cl C ex s H) elt te)
  (ht:∀(C:Addr) (ex:List Addr) (s:Shared) (H:Hp),PT (bv X (own++fv) scope cl C ex s H) cnd tc)
  (hs:∀x,foldedSetIterable iter X.env x=pure x)(I:Inv X pins σ H s) (h:gX wi own.length js g tc te σ H Q)
  (fin:∀(a C:Addr) (s5:Shared) (H5:Hp) (fl:Flow),Inv X pins σ H5 s5->H5 C=none->C≠X.env.locals->X.s₀.heap.objs.size≤C->(∀x c,X.env.cells.lookup x=some c->c≠C)->(∀p∈X.pn++pins,p.1≠C)->(∃m,s5.heap.Ns C m)->Q (.ref a) H5->compPost (model X.prog X.w) X.A X.xe use QQ (.ref a) C (.ok fl) s5) :
  wpAny (model X.prog X.w) X.A (comprehension (.ListComp elt [⟨tg,iter,[cnd],0⟩] scope pos) scope X.env fpos (newList []) false (firstIter [⟨tg,iter,[cnd],0⟩] X.env) use) QQ X.xe s :=
 ur hc hi hclos hcell hkind hnames hcl hhas hlen hcap hg he (λ C ex s H=>pmI rfl (ht C ex s H)) Dl hs I h fin
theorem Dm{X:Cx}{elt tg iter cnd:Expr}{cl:LA}{own fv:List Str}{js:List Nat}
  (hc:X.calm=true) (hi:PI X tg iter wi) (hclos:closureFor scope X.env=pure cl) (hcell:∀y∈scope.names,y.2≠.cell) (hkind:scope.kind=.function)
  (hnames:∀y∈scope.names,y.2=.local->scope.names.lookup y.1=some .local)
  (hcl:∀x c,cl.lookup x=some c->X.env.cells.lookup x=some c)
  (hhas:∀x,((relabel scope X.env).names.lookup x=some .cell\/(relabel scope X.env).names.lookup x=some .free)->∃c,cl.lookup x=some c)
  (hlen:js.length=fv.length) (hcap:∀(i:Nat) x j,fv[i]?=some x->js[i]?=some j->Cap X scope cl x j)
  (hg:∀(C:Addr) (ex:List Addr) (s:Shared) (H:Hp),PG (bv X (own++fv) scope cl C ex s H) tg g)
  (he:∀(C:Addr) (ex:List Addr) (s:Shared) (H:Hp),PE (bv X (own++fv) scope cl C ex s H) elt te)
  (ht:∀(C:Addr) (ex:List Addr) (s:Shared) (H:Hp),PT (bv X (own++fv) scope cl C ex s H) cnd tc)
  (hs:autoParam (∀x,foldedSetIterable iter X.env x=pure x) Z2_) :
  PE X (.ListComp elt [⟨tg,iter,[cnd],0⟩] scope pos) (gX wi own.length js g tc te):=by
 intro pins s σ H Q I h;rw[eval_ListComp];refine uJ (use:=none) (QQ:=EP X pins σ Q) hc hi hclos hcell hkind hnames hcl hhas hlen hcap hg he ht hs I h λ a C s5 H5 fl I5 zC zL zS zc zp ⟨m,hn⟩ q=>⟨m,hn,λ h' sc=>?_⟩;exact⟨.ref a,H5,I5.turned (t':=s5.toks) (it:=C) (λ d o nd e=>sc.extBut d o nd e) zC zL (.inr zS) zc zp,rfl,q⟩
section
variable {pg:Program}{wd:World}{B:Around}{X0:VS}{s0:Shared}
end
section
variable {X:Cx}{es:List Expr}{x1:Nat}{pp:Pos}
end
end _L
namespace _L
open PySem PySem.Spec PyProof.Rows PySem.W PySem.Calls
noncomputable def kn(K:FG):List (Addr × TS)->Value->(TS->Prop)->Prop
 | [],_,_=>False
 | (C,ts)::r,c,k=>(W.exmOne K c (.ref C)=some true/\k ts)\/(W.exmOne K c (.ref C)=some false/\kn K r c k)
noncomputable def uK(K:FG)(cs:List (Addr × TS))(D:Ends):St->XK:=λ σ1 c _ H1=>kn K cs c λ ts=>ts D σ1 H1
noncomputable def Dn(K:FG)(cs:List (Addr × TS))(tb:(St->XK)->TS):TS:=λ D σ H=>tb (uK K cs D) D σ H
inductive Clauses (X:Cx):List ExceptHandler->List (Addr × TS)->Prop
 | nil:Clauses X [] []
 | cons {x:Str}{C:Addr}{b₀:Stmt}{suite:List Stmt}{np hpos:Pos}{ts:TS}{r:List ExceptHandler}{tr:List (Addr × TS)}(hg:Gl X x) (hn:W.nsIn X.K mainGlobals x=some (some (.ref C)))
   (hs:∀(a:Addr) (pn:LO),PSs (X.suite a pn) (b₀::suite) ts) (hr:Clauses X r tr) (hd:(x == ("__debug__" : Str))=false):Clauses X (.ExceptHandler (some (.Name x np)) none (b₀::suite) hpos::r) ((C,ts)::tr)
theorem Do{X:Cx}{h₀:ExceptHandler}{hl:List ExceptHandler}{tb:(St->XK)->TS}(hstk:X.stack=X.env::X.outer/\X.env.frame=some X.env.locals)
  (hb:∀(xe:VS) (pn:LO) (EE:St->XK),(∀σ,gY (CX1 X.prog X.w) (X.more xe pn) (EE σ) σ)->PSs (X.more xe pn) body (tb EE)) (hc:Clauses X (h₀::hl) cs) :
  PS X (.Try body (h₀::hl) [] [] pos) (Dn X.K cs tb):=by
 intro pins s σ H D I h;refine pO ?_;generalize hXE:(λ e s₁=>wpAny (model X.prog X.w) X.A (noteFrame e X.env) (λ _ s₂=>wpAny (model X.prog X.w) X.A (setFlight e none) (λ _ s₃=>wpAny (model X.prog X.w) X.A (handleBy e X.env (h₀::hl)) (SP X pins D) X.xe s₃) X.xe s₂) X.xe s₁:VS)=XE;have toY:∀ {σ':St}{H':Hp}{s':Shared},Inv X pins σ' H' s'->Inv (X.more XE (X.pn++pins)) [] σ' H' s':=λ J=>⟨J.ok.more _ _,J.os,J.bare,J.base,J.loc,J.cell,J.free,J.freeC,λ p hp=>J.pin p (by simpa using hp),J.hok,J.len⟩;have ofY:∀ {σ':St}{H':Hp}{s':Shared}{pp:LO},Inv (X.more XE (X.pn++pins)) pp σ' H' s'->Inv X pins σ' H' s':=λ J=>⟨I.ok,J.os,J.bare,J.base,J.loc,J.cell,J.free,J.freeC,λ p hp=>J.pin p (dW _ hp),J.hok,J.len⟩;have body_ok:=hb XE (X.pn++pins) (uK X.K cs D) ?_ [] s σ H D (toY I) h
 ·refine thn body_ok λ fl s' q=>?_
  cases fl with
  | next=>obtain⟨σ',H',J,z⟩:=q;exact iQ ⟨σ',H',ofY J,z⟩
  | brk=>obtain⟨σ',H',J,z⟩:=q;exact⟨σ',H',ofY J,z⟩
  | cont=>obtain⟨σ',H',J,z⟩:=q;exact⟨σ',H',ofY J,z⟩
  | ret u=>obtain⟨v,σ',H',J,r,z⟩:=q;exact⟨v,σ',H',ofY J,r,z⟩
 intro σ1 pins1 H1 s1 e s' I1 hx;obtain⟨a,C',a0,H',B,rfl,os,bare,fl,inB,thB,un,okB,hcatch⟩:=hx;have hcatch:kn X.K cs (.ref C') λ ts=>ts D σ1 H':=hcatch;subst hXE
 have fl:Heap.FlyingW B (X.env::X.outer) a (.ref C') a0 s'.heap:=by
  have z:Heap.FlyingW B X.stack a (.ref C') a0 s'.heap:=fl;rw[hstk.1] at z;exact z
 have hfr:X.A.frames=some (X.env::X.outer):=by rw[I.ok.frames,hstk.1]
 have at_:∀h2:Heap,Heap.FlyingW B (X.env::X.outer) a (.ref C') a0 h2->s'.heap.UpToSlots h2->∀t2:Nat,Inv X pins σ1 H' { s' with heap:=h2,toks:=t2 }:=λ h2 f2 u2 t2=>by
  have J1:Inv X pins σ1 H1 s1:=ofY I1
  have slot:∀b o,s1.heap.get? b=some o->H1 b=none->b∈frs X.stack->∃sl,h2.get? b=some { o with slots:=sl }:=λ b o e nn hb=>by
   obtain⟨sl2,e2⟩:=un.slot b o e nn hb (by simp);obtain⟨_,o3,e3,nf⟩:=J1.stack.mem hb;rw[e] at e3;cases e3;obtain⟨sl3,e4⟩:=u2 b _ e2 nf;exact⟨sl3,e4⟩
  refine J1.call' (s':={ s' with heap:=h2,toks:=t2 }) (ch:=[]) os ⟨λ b o e nn hb _=>f2.1 _ _ (inB b o e nn hb),λ b o e nn hb _=>slot b o e nn hb,un.free,λ b o e _=>?_,un.tups,un.frzs,un.tbls⟩ (okB.kept f2.1) bare (λ b z=>nomatch z);by_cases hb:b∈frs X.stack
  ·obtain⟨sl,q⟩:=slot b o e (J1.stkFree b hb) hb;exact⟨_,q⟩
  ·obtain⟨o',q⟩:=thB b o e hb;exact⟨o',f2.1 _ _ q⟩
 refine wpAny_looks_onW hfr hstk.2 fl λ h4 held4 up4=>?_;refine wpAny_landsW held4 λ h5 fl5 up5=>?_;have J5:=at_ h5 fl5 (up4.trans up5) s'.toks;obtain⟨oe5,ve5,he5,hc5,hd5,_⟩:=fl5.first
 have toZ:∀ {σ':St}{H':Hp}{s':Shared},Inv X pins σ' H' s'->Inv (X.suite a (X.pn++pins)) [] σ' H' s':=λ J=>⟨J.ok.suite _ _,J.os,J.bare,J.base,J.loc,J.cell,J.free,J.freeC,λ p hp=>J.pin p (by simpa using hp),J.hok,J.len⟩;have ofZ:∀ {σ':St}{H':Hp}{s':Shared},Inv (X.suite a (X.pn++pins)) [] σ' H' s'->Inv X pins σ' H' s':=λ J=>⟨I.ok,J.os,J.bare,J.base,J.loc,J.cell,J.free,J.freeC,λ p hp=>J.pin p (dW _ hp),J.hok,J.len⟩;have LT:Looks (model X.prog X.w) h5 (typeOf (.ref a)) (.ref C'):=hc5 ▸ (Looks.ld he5).andThen .now
 have all:∀(hs':List ExceptHandler) (cs':List (Addr × TS)),Clauses X hs' cs'->(kn X.K cs' (.ref C') λ ts=>ts D σ1 H')->wpAny (model X.prog X.w) X.A (handleBy (.ref a) X.env hs') (SP X pins D) X.xe { s' with heap:=h5 }:=by
  intro hs' cs' hcl
  induction hcl with
  | nil=>intro z;exact z.elim
  | cons hg hn hs hr hd ih =>
   intro z;have bnd:=s1n J5.ok.mod.kin J5.ok.mod.glob hn;refine pP (pQ ?_) (by intro q;cases q);refine dY (X:=X.suite a (X.pn++pins)) (toZ J5) hg bnd ?_ hd
   rcases z with ⟨z1,z2⟩ | ⟨z1,z2⟩
   ·refine(W.exm_one (M:=model X.prog X.w) J5.kIn LT z1).here ?_;refine uL ?_;refine lands_againW fl5 λ h6 fl6 up6=>?_;have J6:=at_ h6 fl6 ((up4.trans up5).trans up6) s'.toks;refine bL (hs a (X.pn++pins) [] _ _ _ D (toZ J6) z2) (λ fl s9 q=>?_) λ _ _ z=>z.elim
    cases fl with
    | next=>obtain⟨σ9,H9,J9,z⟩:=q;exact⟨_,H9,ofZ J9,z⟩
    | brk=>obtain⟨σ9,H9,J9,z⟩:=q;exact⟨_,H9,ofZ J9,z⟩
    | cont=>obtain⟨σ9,H9,J9,z⟩:=q;exact⟨_,H9,ofZ J9,z⟩
    | ret u=>obtain⟨v,σ9,H9,J9,r,z⟩:=q;exact⟨v,_,H9,ofZ J9,r,z⟩
   ·refine(W.exm_one (M:=model X.prog X.w) J5.kIn LT z1).here ?_;exact ih z2
 exact all _ _ hc hcatch
noncomputable def Dp(i j:Int):Prop:=0 < j/\j < 1606938044258990275541962092341162602522202993782792835301376
theorem Dq{y:Int}(h0:0 < y)(h1:y < 1606938044258990275541962092341162602522202993782792835301376):y.natAbs.log2 < 9000:=by
 have z:y.natAbs≠0:=by lia
 exact bO ((Nat.log2_lt z).mpr (show y.natAbs < 2 ^ 200 by lia)) (by decide)
theorem Dr:OpR X (binaryOp .FloorDiv) (rI Dp λ i j=>.int (i / j)):=opI λ i j _ _ _ _ _ hc q=>floordiv_int (by have:=hc.1;lia) (by rw[lx i (by have:=hc.1;lia)];exact q) (.inl (uy (Dq hc.1 hc.2)))
section
variable {X:Cx}
end
end _L
namespace _H
open PySem PySem.Spec PyProof.Rows _L
theorem whole_tup{s:Shared}{lo hi:Option Int}{R:VS}(ht:IsTup s.heap t its)(hs:s.heap.IsSliceOf sl vl vu .none)(pl:IsPart vl lo)(pu:IsPart vu hi)
  (h0:sIx its.size 0 lo=0) (h1:sIx its.size its.size hi=its.size) (h:R (.ref t) s):wpAny (model prog w) A (getItem (.ref t) (.ref sl)) R E s:=by
 obtain⟨os,hos,hcs,hds⟩:=id hs;have hTs:s.TypeIs (.ref sl) "slice" := ⟨os,hos,hcs⟩;unfold getItem;try with_reducible refine cu ?_
 first | refine ae (ak ?_) | skip
 refine ae (wpAny_sequenceKey ht.typeIs (by decide) ?_);refine ae (lE (name:=Str.ofString "__getitem__") ht.typeIs lF (gU lF ht.typeIs s0a ?_ (s0p _ _)));show wpAny _ _ (Builtin.Tuple.tupleItemsOf (.ref t) >>= _) _ _ s;refine ae (tupleItemsOf_ ht ?_);refine ae (gb hTs ?_);rw[if_pos (by decide)];refine ae (tT hs pl pu ?_);show wpAny _ _ (if (((sIx its.size 0 lo:Nat):Int) == 0 && (1:Int) == 1 && (sIx its.size its.size hi - sIx its.size 0 lo) == its.size)=true then _ else _) _ _ s;rw[if_pos (by rw[h0,h1];simp)];unfold Builtin.Tuple.tupleIsExact;exact ae (ae (gb ht.typeIs (ak (ae (s1a (ak ⟨_,rfl,ak h⟩))))))
end _H
namespace _L
open PySem PySem.Spec PyProof.Rows
section
variable {X:Cx}
end
theorem Ds:typeLookup (.type "reversed") "__len__"=pure none:=by rw[dM,dN];kernel_rfl
theorem Dt:typeLookup (.type "reversed") "__length_hint__"=pure (some (.builtin "reversed.__length_hint__")):=by rw[dM,dN];kernel_rfl
theorem Du{B:Around}(hh:B.handled=none)(I t:Addr)(hne:t≠I)(its:Array Value)(hz:(its.size:Int) < 2 ^ 63) :
  Walks pg wd B I [I,t] [I] its.size (λ i v=>its[its.size - 1 - i]?=some v) (λ i h=>i≤its.size/\IsRv h I t ((its.size:Int) - 1 - (i:Int))/\IsTup h t its) where
 sub:=λ b hb=>by simp at hb;simp[hb]
 frame:=λ _ _ _ st k=>⟨st.1,let ⟨o,g,r⟩:=st.2.1;⟨o,k I (by simp) o g,r⟩,let ⟨o,g,r⟩:=st.2.2;⟨o,k t (by simp) o g,r⟩⟩
 item:=λ i s R X0 hi st f=>by
  obtain⟨_,q1,q2⟩:=st;have e:(its.size:Int) - 1 - (i:Int)=((its.size - 1 - i:Nat):Int):=by lia
  rw[e] at q1;have hx:its[its.size - 1 - i]?=some (its[its.size - 1 - i]'(by lia)):=pM (by lia);refine CP q1 q2 hx hz λ m tk q sb=>f _ m tk hx ⟨hi,?_,?_⟩ λ b o nb g=>sb.extBut b o (by simpa using nb) g
  ·have e2:((its.size - 1 - i:Nat):Int) - 1=(its.size:Int) - 1 - ((i+1:Nat):Int):=by lia
   rw[e2] at q;exact q
  ·obtain⟨o,g,r⟩:=q2;exact⟨o,sb.extBut _ _ hne g,r⟩
 done:=λ s R X0 st f=>by
  obtain⟨_,q1,q2⟩:=st;have e:(its.size:Int) - 1 - (its.size:Int)=-1:=by lia
  rw[e] at q1;exact CQ hh q1 λ m tk eb=>f m tk λ b o nb g=>eb b o (by simpa using nb) g
 self:=λ _ _ _ _ st h=>CS st.2.1 h
theorem Dv(v:Value):bindSpecial (.builtin "reversed.__length_hint__") v=pure (.builtin "reversed.__length_hint__",[v]):=by
 unfold bindSpecial;rw[show typeOf (.builtin "reversed.__length_hint__")=pure (.type "method_descriptor") by show builtinType _=_;rw[builtinType_eq_fast];kernel_rfl];rfl
theorem Dw:Slot "reversed" "__length_hint__" "reversed.__length_hint__" := .of (owner := "reversed") (n := "__length_hint__") (by rw[dM,dN];kernel_rfl) (by decide +kernel) (by decide +kernel) (by decide +kernel) (.inr (by decide +kernel)) (by rw[hG];kernel_rfl)
theorem Dx:entryFor table "reversed.__length_hint__"=some Builtin.«reversed.__length_hint__»:=entryFor_of_tree (by kernel_rfl)
theorem Dy(a:Value):argsOk "reversed.__length_hint__" ⟨[a],[]⟩:=by unfold argsOk;kernel_rfl
theorem Dz{R:VS}{z:Shared}{its:Array Value}(q1:IsRv z.heap J t ((its.size:Int) - 1))(q2:IsTup z.heap t its)(hz:(its.size:Int) < 2 ^ 63)
  (f:∀u tk,z.toks≤tk->R (.int its.size u) { z with toks:=tk }):wpAny (model pg wd) B (call (.builtin "reversed.__length_hint__") [.ref J]) R X0 z:=by
 obtain⟨o,ho,hc,hd⟩:=id q1;refine gU Dw q1.typeIs Dx ?_ (Dy _);show wpAny _ _ (field (.ref J) 0 >>= _) _ _ z;refine ae (cY ho hd (x:=.ref t) rfl ?_);show wpAny _ _ (if (Value.ref t == Value.none)=true then _ else _) _ _ z;rw[if_neg (show ¬((Value.ref t == Value.none)=true) from bH)];show wpAny _ _ (call (.builtin "len") [.ref t] >>= _) _ _ z;refine ae (s0q q2 hz ?_);refine ae (m:=asInt? _) (ak ?_);show wpAny _ _ (field (.ref J) 1 >>= _) _ _ _;refine ae (cY ho hd (x:=rawInt ((its.size:Int) - 1)) rfl ?_);show wpAny _ _ (if (its.size:Int) < (its.size:Int) - 1+1 then _ else retInt ((its.size:Int) - 1+1)) _ _ _;rw[if_neg (by lia),show(its.size:Int) - 1+1=its.size by lia];exact ae (wpAny_mkInt (ak ⟨_,rfl,f _ _ (by show z.toks≤z.toks+1+1+1;lia)⟩))
section
variable {pg:Program}{wd:World}{B:Around}{X0:VS}{s0:Shared}{J:Addr}{fs ws:List Addr}{Gg:Array GenState->Array GenState->Prop}{m:Nat}{Pr:Nat->Value->Prop}{Sx:Nat->Shared->Prop}
theorem DA{R:LV->Shared->Prop}(hint:∀(z:Shared) (R':VS) (E':VS),Sx 0 z->(∀u tk,z.toks≤tk->R' (.int m u) { z with toks:=tk })->wpAny (model pg wd) B.in1 (call (.builtin "reversed.__length_hint__") [.ref J]) R' E' z)(wk:WalksS pg wd B.in1 J fs ws Gg m Pr Sx)(ty:∀j z,Sx j z->z.TypeIs (.ref J) "reversed")(z0:Sx 0 s0)(lt:∀b∈fs,b < s0.heap.objs.size)(mJ:J∈fs)(sm:m≤sizeLine)
  (fin:∀z' ac,Moved ws Gg s0 z'->ItemsOf Pr ac m->R ac.toList z'):wpAny (model pg wd) B (collect (.ref J)) R X0 s0:=by
 have out:s0.heap.objs.size ∉ fs:=λ q=>absurd (lt _ q) (ce _);have neJ:s0.heap.objs.size≠J:=by rintro rfl;exact out mJ
 let nu:Obj:={ cls:=.type "list",data:=.seq ([]:LV).toArray }
 unfold collect;refine ae (pf (dj ph ?_));rw[dO pj _];show wpAny _ B.in1 (newList [] >>= λ q=>again (.builtin "list.__iadd__" ⟨[q,.ref J],[]⟩)) _ _ s0;refine ae (ci ?_);refine ak ⟨dq jd _,dj pk ?_⟩;rw[dO jd _];have z1:=wk.frame 0 s0 (s0.heap.push nu) s0.toks z0 (au _) λ b _ o e=>aE _ e;have at1:(s0.heap.push nu).get? s0.heap.objs.size=some nu:=bA _ rfl;have dif:Builtin.List.listSameRef (.ref s0.heap.objs.size) (.ref J)=false:=by simp[Builtin.List.listSameRef,neJ]
 show wpAny _ B.in1 (Builtin.List.listExtendWith (.ref s0.heap.objs.size) (.ref J) (.ref s0.heap.objs.size)) _ _ _;unfold Builtin.List.listExtendWith;refine ae (gb (ty 0 _ z1) ?_);rw[if_neg (by rw[dif];decide)];refine ae (wk.self 0 _ _ _ z1 ?_);refine ae (cu ?_);unfold Builtin.List.listLengthHint;refine ae (gj (ty 0 _ z1) Ds ?_);show wpAny _ B.in1 (specialOf (Value.ref J) (Str.ofString "__length_hint__") >>= _) _ _ _;refine ae (gj (ty 0 _ z1) Dt ?_)
 (generalize hid:("reversed.__length_hint__" : String)=id0;wp_delta;rw[show splitId id0=some ("reversed","__length_hint__") from by subst hid;decide +kernel];subst hid)
 refine ae (lO (b:=true) (ty 0 _ z1) (by rw[hG];kernel_rfl) ?_);rw[if_neg (by decide)];dsimp only;rw[if_neg (by decide +kernel)];refine ae (s1a ?_);refine ae (dn (Dv _) ?_);dsimp only;refine ae (gZ (hint _ _ _ z1 λ u tk htk=>?_));have z2:=wk.frame 0 _ _ tk z1 htk λ b _ o e=>e;have l63:=uD;have fi:Builtin.List.listFitsIndex (m:Int)=true:=by simp[Builtin.List.listFitsIndex];lia
 have tl:Builtin.List.listTooLong (m:Int).toNat=false:=by simp[Builtin.List.listTooLong];lia
 generalize hk:(m:Int)=kk at fi tl ⊢;show wpAny _ B.in1 (asInt? (.int kk u) >>= _) _ _ _;refine ae (m:=asInt? (.int kk u)) (ak ?_);dsimp only;rw[if_neg (by rw[fi];decide)];try dsimp only
 rw[if_neg (by lia)];try dsimp only
 rw[if_neg (by rw[tl];decide)];refine ak ?_;by_cases m0:m=0
 ·rw[if_neg (by subst m0;subst hk;decide +kernel)];refine ak ⟨dq pq _,pr wk sm _ out _ m 0 _ _ _ rfl (cy _) z2 at1 (s1l Pr) λ z' ac cc mv at2 its=>?_⟩;show wpAny _ B (load s0.heap.objs.size >>= _) _ _ z';exact ae (jM at2 (ak (fin z' ac (px (o:=nu) (tk:=tk) mv htk) its)))
 ·rw[if_pos (by simp;left;lia)];refine ae (s1a ?_);refine ae ?_;show wpAny _ B.in1 (updateSeq s0.heap.objs.size (·.push .none) >>= λ _=>updateSeq s0.heap.objs.size (·.pop)) _ _ _;refine ae (ko at1 rfl ?_);have a2:=eh (Obj.mapSeq (·.push Value.none)) at1 rfl;refine ko a2 rfl ?_;have a3:=eh (Obj.mapSeq (·.pop)) a2 rfl
  have oth:∀b o,b≠s0.heap.objs.size->(s0.heap.push nu).get? b=some o->(((s0.heap.push nu).update s0.heap.objs.size (Obj.mapSeq (·.push Value.none))).update s0.heap.objs.size (Obj.mapSeq (·.pop))).get? b=some o :=
   λ b o hb e=>(cv _ _ (bo hb)).trans ((cv _ _ (bo hb)).trans e)
  refine ak ⟨dq pq _,pr wk sm _ out _ m 0 _ _ _ rfl (cy _)
   (wk.frame 0 ({ s0 with heap:=s0.heap.push nu,toks:=tk }:Shared) _ tk z2 (au _) λ b hb o e=>oth b o (λ q=>out (q ▸ hb)) e) a3 (s1l Pr) λ z' ac cc mv at2 its=>?_⟩
  show wpAny _ B (load s0.heap.objs.size >>= _) _ _ z';refine ae (jM at2 ?_);refine ak (fin z' ac (px (o:=nu) (tk:=tk) (Moved.trans wk.gtrans ((Moved.refl wk.grefl).then_heap (au _) λ b o hb e=>?_) mv) htk) its);exact oth b o (λ q=>hb (q ▸ cN)) e
theorem DB{R:VS}(hint:∀(z:Shared) (R':VS) (E':VS),Sx 0 z->(∀u tk,z.toks≤tk->R' (.int m u) { z with toks:=tk })->wpAny (model pg wd) B.in1.in1 (call (.builtin "reversed.__length_hint__") [.ref J]) R' E' z)(wk:WalksS pg wd B.in1.in1 J fs ws Gg m Pr Sx)(ty:∀j z,Sx j z->z.TypeIs (.ref J) "reversed")(z0:Sx 0 s0)(lt:∀b∈fs,b < s0.heap.objs.size)(mJ:J∈fs)(sm:m≤sizeLine)
  (fin:∀z' ac,Moved ws Gg s0 z'->ItemsOf Pr ac m->R (.ref z'.heap.objs.size) { z' with heap:=z'.heap.push { cls:=.type "tuple",data:=.seq ac } }) :
  codeAny (model pg wd) B (.call (.builtin "tuple.__new__") ⟨[.type "tuple",.ref J],[]⟩) (wants R X0) s0:=by
 refine lR ?_;show wpAny _ B.in1 (do checkBuiltinCall "tuple.__new__" ⟨[.type "tuple",.ref J],[]⟩;again (.builtin "tuple.__new__" ⟨[.type "tuple",.ref J],[]⟩)) _ _ s0;refine ae (dn (py _) (ak ⟨dq jf _,dj pA ?_⟩));rw[dO jf _];have q1:=pE;have q2:=pF;have q3:=pG;have q4:=ty 0 s0 z0;wp_walk using gb q4,DA (sm:=sm) hint wk ty z0 lt mJ;intro z' ac mv its;show wpAny _ _ (Builtin.Tuple.tupleExact ac.toList.toArray >>= λ q=>ret q) _ _ _;have e:ac.toList.toArray=ac:=by simp
 rw[e];unfold Builtin.Tuple.tupleExact;exact ae (ci (ak (fin z' ac mv its)) (by show ac.size≤sizeLine;rw[its.1];exact sm))
theorem DC{R:VS}(hint:∀(z:Shared) (R':VS) (E':VS),Sx 0 z->(∀u tk,z.toks≤tk->R' (.int m u) { z with toks:=tk })->wpAny (model pg wd) B.in1.in1.in1 (call (.builtin "reversed.__length_hint__") [.ref J]) R' E' z)(wk:WalksS pg wd B.in1.in1.in1 J fs ws Gg m Pr Sx)(ty:∀j z,Sx j z->z.TypeIs (.ref J) "reversed")(z0:Sx 0 s0)(lt:∀b∈fs,b < s0.heap.objs.size)(mJ:J∈fs)(sm:m≤sizeLine)
  (fin:∀z' ac,Moved ws Gg s0 z'->ItemsOf Pr ac m->R (.ref z'.heap.objs.size) { z' with heap:=z'.heap.push { cls:=.type "tuple",data:=.seq ac } }) :
  wpAny (model pg wd) B (call (.type "tuple") [.ref J]) R X0 s0 :=
 pH (Q₁:=λ ob z=>z.TypeIs ob "tuple" /\ R ob z) pI (pJ _) pK
  (DB (sm:=sm) hint wk ty z0 lt mJ λ z' ac mv its=>⟨⟨_,bA _ rfl,rfl⟩,fin z' ac mv its⟩)
  λ ob z q=>⟨q.1,lP ob _,pL F.called_tuple.init.lookup F.called_tuple.made (by decide) pg wd B.in1 _ z ⟨q.1,rfl,q.2⟩⟩
end
section
variable {X:Cx}
noncomputable def DD(K:FG)(te:TE):TE:=λ σ H Q=>te σ H λ x H1=>∃a xs,x=.ref a/\SqT K H1 a xs/\∀p,H1 p=none->Q (.ref p) (upd H1 p (.tup xs.reverse))
theorem DE{p1 p2 pos pos':Pos}(hc:X.calm=true)(ht:Gl X "tuple")(hr:Gl X "reversed")(mt:X.mg "tuple"=none)(mr:X.mg "reversed"=none)(he:PE X e te)(hs:autoParam (starEach [e] X.env=[(false,eval e X.env)]) Z3_) :
  PE X (.Call (.Name "tuple" p1) [.Call (.Name "reversed" p2) [e] [] pos'] [] pos) (DD X.K te):=by
 intro pins s σ H Q I h;refine Call_ (eQ I ht mt boot_tuple (iS ?_ rfl rfl));refine oj ?_;have hA:=(bI he (pa_nil (X:=X)) hs) pos' pins s σ H (λ vs H1=>match vs with | [x]=>∃a xs,x=.ref a/\SqT X.K H1 a xs/\∀p,H1 p=none->Q (.ref p) (upd H1 p (.tup xs.reverse)) | _=>False) I h;refine Call_ (eQ I hr mr boot_reversed (iS (thn hA λ us s1 ⟨vs,H1,I1,r1,q1⟩=>?_) hs rfl))
 match vs,q1 with
 | [x],⟨a,xs,e,hq,q⟩ =>
  subst e;obtain⟨u,rfl,ru⟩:=cH r1;cases (show u=Value.ref a from ru);obtain⟨its,rv,pl,hz⟩:=I1.tuple hq;have hl:=rv.length;have z63:=uD;refine CO pl (by simp;lia) λ tk=>?_;refine oi ?_;have I2:Inv X pins σ H1 { s1 with heap:=s1.heap.push (ja a ((its.toArray.size:Int) - 1)),toks:=tk }:=I1.kept (t':=tk) λ b o e=>aE _ e;have al:a < s1.heap.objs.size:=by obtain⟨o,ho,_⟩:=pl;exact az ho
  have hne:a≠s1.heap.objs.size:=aZ al
  have ir:IsRv (s1.heap.push (ja a ((its.toArray.size:Int) - 1))) s1.heap.objs.size a ((its.toArray.size:Int) - 1 - ((0:Nat):Int)):=by
   refine⟨_,bA _ rfl,rfl,?_⟩;have e:(its.toArray.size:Int) - 1 - ((0:Nat):Int)=(its.toArray.size:Int) - 1:=by lia
   rw[e];rfl
  have sz:(s1.heap.push (ja a ((its.toArray.size:Int) - 1))).objs.size=s1.heap.objs.size+1:=by simp[Heap.push]
  have ff:=I1.fpOk (au s1.heap.objs.size) (I1.hok.fresh (au _))
  refine DC (m:=its.toArray.size) (Sx:=_) (λ z R' E' q f=>Dz (its:=its.toArray) (by have:=q.2.1;rw[show(its.toArray.size:Int) - 1 - ((0:Nat):Int)=(its.toArray.size:Int) - 1 by lia] at this;exact this) q.2.2 (by simp;lia) f) (Du (B:=X.A.in1.in1.in1) (I.ok.hd hc) s1.heap.objs.size a hne its.toArray (by simp;lia)).toS (λ j z q=>let ⟨o,ho,hk,_⟩:=q.2.1;⟨o,ho,hk⟩)
   ⟨cy _,ir,let ⟨o,g,r⟩:=pl;⟨o,aE _ g,r⟩⟩ (λ b hb=>?_) (cN ..) (by simp only[aG];lia) λ z' ac mv io=>?_
  ·show b < (s1.heap.push (ja a ((its.toArray.size:Int) - 1))).objs.size;rw[sz];simp only[av,bh,aY] at hb
   rcases hb with rfl | rfl
   ·exact gh _
   ·exact dh al
  have I3:Inv X pins σ H1 z':=by
   obtain⟨zh,zg,zd,zt,zo⟩:=z';have e1:zg=s1.gens:=mv.gens;have e2:zd=s1.drawn:=mv.drawn;have e3:zo=s1.os:=mv.os;subst e1 e2 e3;obtain⟨f0,f1,f2,f3,f4,f5⟩:=ff;exact I1.turned (t':=zt) (λ b o hb e=>mv.heap b o (by simpa using hb) (aE _ e)) f0 f1 f3 f4 f5
  have er:ac=its.reverse.toArray:=by
   have sz2:ac.size=its.length:=by simpa using io.1
   apply Array.ext
   ·simp[sz2]
   ·intro j h1 h2;have q:=io.2 j _ (pM h1);simp only[aG,uE] at q;have q2:its.reverse[j]?=some ac[j]:=by rw[uF (by lia)];exact q
    rw[uG];exact(cr ((bP (by simpa using h2)).symm.trans q2)).symm
  subst er
  have I4:Inv X pins σ (upd H1 z'.heap.objs.size (.tup xs.reverse)) { z' with heap:=z'.heap.push { cls:=.type "tuple",data:=.seq its.reverse.toArray } } :=
   I3.laid (t':=z'.toks) (λ b o e=>aE _ e) (au _) (show ObjOk X.prog X.w _ _ _ (.tup xs.reverse) from ⟨by simpa using hz,its.reverse,rv.reverse,TupO.new _ _⟩)
  exact⟨.ref z'.heap.objs.size,_,I4,rfl,q _ (I3.hok.fresh (au _))⟩
end
section
variable {X:Cx}
end
noncomputable def okS(k:Nat)(x:Str):Prop:=x.length≤k/\∀c∈x.cps.toList,c < 1000
theorem okS.repr(h:okS k x):(reprText x).length≤10 * k+2:=by
 have:=StrLaws.reprText_len x λ c hc=>bO (h.2 c hc) (by decide);have:=h.1;lia
section
variable {X:Cx}
noncomputable def tFR(t1 t2:TE):TE:=λ σ H Q=>t1 σ H λ x H1=>∃a,x=.str a/\okS 1000 a/\t2 σ H1 λ y H2=>∃b,y=.str b/\okS 1000 b/\∀z,Q (.str z) H2
theorem DF{t1 t2:TE}(h1:PE X e1 t1)(h2:PE X e2 t2):PE X (.JoinedStr [e1,.FormattedValue e2 114 none p2] pos) (tFR t1 t2):=by
 intro pins s σ H Q I h;refine wpAny_JoinedStr (thn (h1 pins s σ H _ I h) λ v s1 ⟨x,H1,I1,r1,q1⟩=>?_);obtain⟨a,rfl,oa,q2⟩:=q1;obtain⟨ta,rfl⟩:=r1;have s20:20000≤sizeLine:=by rw[fF];decide
 have e0:∀z:Str,Str.empty++z=z:=λ z=>by show(⟨#[]++z.cps⟩:Str)=z;simp
 refine⟨a,ta,rfl,?_,wpAny_FormattedValue_repr (thn (h2 pins s1 σ H1 _ I1 q2) λ v s2 ⟨y,H2,I2,r2,q3⟩=>?_)⟩
 ·rw[e0];have:=oa.1;lia
 obtain⟨b,rfl,ob,q⟩:=q3;obtain⟨tb,rfl⟩:=r2;have rb:=ob.repr;refine wpAny_pyReprObj_str (formatField_str (λ t' tk=>⟨_,t',rfl,?_,?_,?_⟩) (by lia)) (by lia)
 ·rw[e0,strLen_append];have:=oa.1;lia
 ·rw[e0,strLen_append];have:=oa.1;lia
 ·exact⟨.str _,H2,(I2.tok _).tok _,⟨_,rfl⟩,q _⟩
end
section
variable {X:Cx}{es:List Expr}{x1:Nat}{pp:Pos}
end
instance (k:Nat)(x:Str):Decidable (okS k x):=by unfold okS;infer_instance
section
variable {X:Cx}{tg:Expr}
end
section
variable {X:Cx}
end
section
variable {X:Cx}
noncomputable def DG(K:FG):R2:=λ x y H Q=>∃l b xs zs,x=.ref l/\y=.ref b/\SqL K H l xs/\SqL K H b zs/\xs.length+zs.length≤sizeLine/\∀p,H p=none->Q (.ref p) (upd H p (.lst (xs++zs)))
theorem pR:OpR X (binaryOp .Add) (DG X.K):=by
 intro pins s σ H x y v u Q I rx ry h;obtain⟨l,b,xs,zs,rfl,rfl,hH,hB,hz,q⟩:=h;cases rx;cases ry;obtain⟨its,r,⟨⟨c1,d1,z1,l1⟩,n,e,hc,hd,hs⟩,_⟩:=I.list hH;obtain⟨its2,r2,⟨⟨c2,d2,z2,l2⟩,n2,e2,hc2,hd2,hs2⟩,_⟩:=I.list hB;simp only at hc hd hs hc2 hd2 hs2;subst hc hd hs hc2 hd2 hs2;have a1:=r.length;have a2:=r2.length;have ea:its.toArray++its2.toArray=(its++its2).toArray:=by simp
 refine lD ⟨_,e,rfl⟩ ⟨_,e2,rfl⟩ noFill_list_add seq_list_add F.slot_list_add F.entry_list_add (F.args_list_add_2 _ _) (list_addW l b its.toArray its2.toArray n n2 _ _ _ _ (by rw[aG,aG];lia)) ⟨e,e2,?_⟩;rw[ea];exact⟨.ref _,_,I.lnew (t':=s.toks) (r.append r2) (by rw[aC];lia),rfl,q _ I.fresh⟩
end
section
variable {pg:Program}{wd:World}{B:Around}{X0:VS}{s0:Shared}
end
section
variable {X:Cx}{es:List Expr}{x1:Nat}{pp:Pos}
end
end _L
namespace _L
open PySem PySem.Spec PyProof.Rows PySem.W PySem.Calls
def DH(i j:Int):Prop:=IntMulOk i j
theorem DI:OpR X (binaryOp .Mult) (rI DH λ i j=>.int (i * j)):=opI λ _ _ _ _ _ _ _ hc q=>mul_int q hc
section
variable {prog:Program}{w:World}{A:Around}{E:VS}{s:Shared}
theorem uM{l:Addr}{T:String}{vs:LV}{Q:VS}(hT:T="list" \/ T="tuple")(ho:s.heap.get? l=some o)(hc:o.cls=.type T)(hd:o.data=.seq vs.toArray n)(hI:IntsAre vs ns)(h64:vs.length < 64)
  (h:∀(h1 h2:Heap) (vs':LV) (ns':LIq) (e:Nat),(∀b u,s.heap.get? b=some u->h1.get? b=some u)->(∀b u,h1.get? b=some u->h2.get? b=some u)->h2.get? h1.objs.size=some (seqObj "list" vs'.toArray e)->IntsAre vs' ns'->ns'.Perm ns->ns'.Pairwise (·≤·)->Q (.ref h1.objs.size) { s with heap:=h2 }) :
  wpAny (model prog w) A (call (.builtin "sorted") [.ref l]) Q E s:=by
 refine Calls.call_function_entry kind_sorted plain_sorted entry_sorted (args_sorted1 _) ?_;unfold Builtin.«sorted»;refine ae (m:=checkCount "sorted" 1 1 _) (ak ?_);refine ae (wpAny_collect_seq l hT ho hc hd (λ h1 k1=>?_) (by simp only[aG];exact dE (aQ (by lia))));rw[show vs.toArray.toList=vs by simp];refine ae (wpAny_newList ?_);have hoL:(h1.push (seqObj "list" vs.toArray 0)).get? h1.objs.size=some (seqObj "list" vs.toArray 0):=bA _ rfl;refine ae (cu (gU slot_list_sort ⟨_,hoL,rfl⟩ entry_list_sort (list_sort_tree hoL hI h64 λ out ns' a1 a2 a3=>⟨_,rfl,?_⟩) (args_list_sort _)));refine ak ⟨_,rfl,?_⟩;obtain⟨e,he⟩:=sortedHeap_at (vs:=vs) (out:=out) hoL;refine h h1 _ out.toList ns' e k1 (λ b u q=>?_) (by rw[pS];exact he) a1 a2 a3;have hlt:=az q;rw[sortedHeap_old (aZ hlt) (by rw[size_push'];exact dh hlt)];exact aE _ q
end
theorem pU:∀ {xs:List V}{us:LV},xs.length=us.length->(∀(i:Nat) u,us[i]?=some u->∃x,xs[i]?=some x/\RelV x u)->Vals xs us
 | [],[],_,_=>.nil
 | [],_::_,h,_=>by simp at h
 | _::_,[],h,_=>by simp at h
 | x::xs,u::us,h,f=>by
  obtain⟨y,e,r⟩:=f 0 u rfl;cases (cr e);exact .cons r (pU (by simpa using h) λ i v e=>f (i+1) v e)
section
variable {X:Cx}
theorem DJ:bG X (.builtin "sorted") (λ xs H Q=>∃p ns,xs=[.ref p]/\(SqL X.K H p (List.map V.int ns)\/SqT X.K H p (List.map V.int ns))/\ns.length < 64/\∀ns':LIq,ns'.Perm ns->ns'.Pairwise (·≤·)->∀l,H l=none->Q (.ref l) (upd H l (.lst (ns'.map V.int)))):=by
 intro pins s σ H xs us Q I r h;obtain⟨p,ns,rfl,hq,h64,q⟩:=h;obtain⟨u,rfl,rx⟩:=cH r;cases rx
 have fin:∀(h1 h2:Heap) (vs':LV) (ns':LIq) (e:Nat),(∀b u,s.heap.get? b=some u->h1.get? b=some u)->(∀b u,h1.get? b=some u->h2.get? b=some u)->h2.get? h1.objs.size=some (seqObj "list" vs'.toArray e)->IntsAre vs' ns'->ns'.Perm ns->ns'.Pairwise (·≤·)->EP X pins σ Q (.ref h1.objs.size) { s with heap:=h2 }:=by
  intro h1 h2 vs' ns' e k1 k2 g a1 a2 a3;have I1:Inv X pins σ H { s with heap:=h1 }:=I.kept (t':=s.toks) k1;have hz:(ns'.map V.int).length≤sizeLine:=by rw[aj,a2.length_eq];exact dE (aQ (by lia))
  have I2:Inv X pins σ (upd H h1.objs.size (.lst (ns'.map V.int))) { s with heap:=h2 }:=I1.laid (t':=s.toks) k2 (au _) (show ObjOk X.prog X.w _ _ _ (.lst (ns'.map V.int)) from ⟨hz,vs',e,oQ a1,g⟩);exact⟨.ref h1.objs.size,_,I2,rfl,q ns' a2 a3 _ (I1.hok.fresh (au _))⟩
 rcases hq with hq | hq
 ·obtain⟨its,r',pl,hz⟩:=I.list hq;have hi:=iY r';obtain⟨o,ho,hc,n,hd⟩:=pl.isList;exact uM (.inl rfl) ho hc hd hi (by rw[hi.length];exact h64) fin
 ·obtain⟨its,r',pl,hz⟩:=I.tuple hq;have hi:=iY r';obtain⟨o,ho,hc,n,hd⟩:=pl;exact uM (.inr rfl) ho hc hd hi (by rw[hi.length];exact h64) fin
theorem DK:bG X (.type "range") (λ xs H Q=>∃j:Int,xs=[.int j]/\∀r,H r=none->Q (.ref r) (upd H r (.rng 0 j))):=by
 intro pins s σ H xs us Q I r h;obtain⟨j,rfl,q⟩:=h;obtain⟨u,rfl,t,rfl⟩:=cH r;refine call_range_1 ⟨.ref s.heap.objs.size,_,I.laid (λ b o e=>aE _ e) (au _) ?_,rfl,q _ (I.hok.fresh (au _))⟩;exact⟨_,_,_,bA _ rfl⟩
def upL(n:Nat):LIq:=(List.range n).map λ(i:Nat)=>(i:Int)
theorem DM(hc:X.calm=true):bG X (.type "list") (λ xs H Q=>∃p n,xs=[.ref p]/\H p=some (.rng 0 (Int.ofNat n))/\n≤1000/\∀l,H l=none->Q (.ref l) (upd H l (.lst ((upL n).map V.int)))):=by
 intro pins s σ H xs us Q I r h;obtain⟨p,n,rfl,hp,hn,q⟩:=h;obtain⟨u,rfl,rx⟩:=cH r;cases rx;obtain⟨t,u,v,e⟩:=I.hok p _ hp
 have hs:Builtin.Range.small 0 (Int.ofNat n) 1=true:=by
  have z:∀m:Fin 1001,Builtin.Range.small 0 (Int.ofNat m.val) 1=true:=by decide +kernel
  exact z ⟨n,by lia⟩
 have hsz:Builtin.Range.rangeSize 0 (Int.ofNat n) 1=n:=by
  unfold Builtin.Range.rangeSize;rw[if_pos (by decide)];split
  ·show(Int.ofNat n - 0 - 1) / 1+1=_;simp; 
  ·simp at *;lia
 refine call_list_range (I.ok.hd hc) e hs hsz (by lia) λ h' tk acc' c' k g it=>?_
 have rv:Vals ((upL n).map V.int) acc'.toList:=by
  refine pU (by simp[upL,it.1]) λ i v e=>?_;rw[lK] at e;obtain⟨tt,rfl⟩:=it.2 i v e;have hi:i < n:=by rw[← it.1];exact(jb.mp e).1
  exact⟨.int i,by simp[upL,hi],tt,by simp⟩
 exact⟨.ref s.heap.objs.size,_,I.laid k (au _) (show ObjOk X.prog X.w _ _ _ (.lst _) from ⟨by simp[upL];exact dE (aQ hn),acc'.toList,c',rv,by rw[pS];exact g⟩),rfl,q _ (I.hok.fresh (au _))⟩
theorem DN:MtR X "list.pop" kh:=BP
end
theorem DO{X:Cx}{i:Nat}{elt tg iter:Expr}{cl:LA}{pos pos' lpos:Pos}{own fv:List Str}{js:List Nat}
  (hN:X.N.Nodup) (hx1:X.N[i]?=some x) (hx:Loc X.env.scope x) (hf:X.fn x=true\/X.env.scope.names.lookup x=some .local)
  (hc:X.calm=true) (hi:PI X tg iter wi) (hclos:closureFor scope X.env=pure cl) (hcell:∀y∈scope.names,y.2≠.cell) (hkind:scope.kind=.function)
  (hnames:∀y∈scope.names,y.2=.local->scope.names.lookup y.1=some .local)
  (hcl:∀x c,cl.lookup x=some c->X.env.cells.lookup x=some c)
  (hhas:∀x,((relabel scope X.env).names.lookup x=some .cell\/(relabel scope X.env).names.lookup x=some .free)->∃c,cl.lookup x=some c)
  (hlen:js.length=fv.length) (hcap:∀(i:Nat) x j,fv[i]?=some x->js[i]?=some j->Cap X scope cl x j)
  (hg:∀(C:Addr) (ex:List Addr) (s:Shared) (H:Hp),PG (bv X (own++fv) scope cl C ex s H) tg g)
  (he:∀(C:Addr) (ex:List Addr) (s:Shared) (H:Hp),PE (bv X (own++fv) scope cl C ex s H) elt te)
  (hsw:autoParam (swapsWith (.ListComp elt [⟨tg,iter,[],0⟩] scope lpos) (some (.Name x pos')) pos.line X.env=pure true) Z3_)
  (hs:autoParam (∀x,foldedSetIterable iter X.env x=pure x) Z2_) :
  PS X (.Assign [.Name x pos'] (.ListComp elt [⟨tg,iter,[],0⟩] scope lpos) pos) (gR (iZ wi own.length js g te) (cW i)):=by
 intro pins s σ H D I h;rw[uN _ _ _ _ hsw];refine ae (fE ?_);rw[uO];have core:=ut (use:=some (assign (.Name x pos') X.env)) (QQ:=λ _ s'=>SP X pins D .next s') (fpos:=firstIterPos [⟨tg,iter,[],0⟩] lpos) (pos:=lpos) hc hi hclos hcell hkind hnames hcl hhas hlen hcap hg he hs I h (λ a C s5 H5 fl I5 zC zL zS zc zp ⟨m,hn⟩ q=>?_)
 ·refine ae (ae (thn core λ _ s' hq=>?_));exact ak (ak hq)
 ·show wpAny (model X.prog X.w) X.A (assign (.Name x pos') X.env (.ref a)) _ X.xe s5;show wpAny (model X.prog X.w) X.A (do standAt pos';bindName X.env x (.ref a)) _ X.xe s5;refine ae (fE ?_);refine bindName_ ?_;refine nL I5 hN hx1 hx (show RelV (.ref a) (.ref a) from rfl) (λ s6 I6 ⟨b,sb,hb⟩=>?_) hf
  have cb:C≠b:=by
   rcases hb with rfl | hb
   ·exact zL
   ·exact λ z=>zc x b hb z.symm
  obtain⟨o,es,ep,e,r⟩:=hn;refine⟨m,⟨o,es,ep,(sb.2 C cb).trans e,r⟩,λ h' sc=>?_⟩;exact⟨_,H5,I6.turned (t':=s6.toks) (it:=C) (λ d o nd e=>sc.extBut d o nd e) zC zL (.inr zS) zc zp,q⟩
section
variable {X:Cx}
noncomputable def DP:V->Option Int->Option Int->Hp->VK->Prop:=λ x lo hi H Q=>∃z,x=.str z/\z.length≤4000000/\Q (.str (Txt.slice z lo hi)) H
theorem DQ:SlR X DP:=by
 intro pins s σ H x v vl vu lo hi sl Q I rx hs pl pu h;obtain⟨z,rfl,hz,q⟩:=h;obtain⟨t,rfl⟩:=rx;have s20:4000000≤sizeLine:=by rw[fF];decide
 have part:∀ {u:Value}{o:Option Int},IsPart u o->∃l,u=partValue l/\o=l.map λ p:Int × Tok=>p.1:=λ p=>by
  cases p with
  | none=>exact⟨none,rfl,rfl⟩
  | int i t=>exact⟨some (i,t),rfl,rfl⟩
 obtain⟨l,rfl,rfl⟩:=part pl;obtain⟨u,rfl,rfl⟩:=part pu;obtain⟨o,ho,hc,hd⟩:=hs;refine⟨"str",_,F.slot_str_getitem.lookup,typeIs_str _ _ _,wpAny_getItem_str_slice (l:=l) (u:=u) (st:=none) ⟨o,ho,hc,hd⟩ rfl ?_⟩;have le:=Txt.slice_le z (l.map λ p:Int × Tok=>p.1) (u.map λ p:Int × Tok=>p.1);exact post_val_or_str ⟨bK le (by lia),λ t' k=>⟨.str _,H,I.tok k,⟨t',rfl⟩,q⟩⟩
theorem uP:∀ {bs:List Bool}{us:LV},Vals (bs.map V.bl) us->us=bs.map Value.bool
 | [],_,.nil=>rfl
 | b::bs,_,.cons r t=>by
  cases (show _=Value.bool b from r);rw[uP t];rfl
theorem DS(hc:X.calm=true):bG X (.builtin "any") (λ xs H Q=>∃(a:Addr) (bs:List Bool),xs=[.ref a]/\SqL X.K H a (bs.map V.bl)/\Q (.bl (bs.any id)) H):=by
 intro pins s σ H xs us Q I r h;obtain⟨a,bs,rfl,hq,q⟩:=h;obtain⟨u,rfl,ru⟩:=cH r;cases (show u=Value.ref a from ru);obtain⟨its,rv,pl,hz⟩:=I.list hq;have hl:=pl.isList;have hlt:a < s.heap.objs.size:=by obtain⟨_,e,_⟩:=hl;exact az e
 have hb:=uP rv;subst hb;refine call_any_walk (wpAny_pyIter_list hl ?_)
 refine⟨s.heap.objs.size,[s.heap.objs.size,a],[s.heap.objs.size],(bs.map Value.bool).toArray.size,_,_,λ i=>(bs[i]?).getD false,rfl,Walks.list (A:=X.A.in1) (I.ok.hd hc) _ a (aZ hlt) (bs.map Value.bool).toArray,
  ⟨⟨_,bA _ rfl,rfl,rfl⟩,hl.push _⟩,λ i v s' Q' E' hP hQ=>?_,λ h' tk hk=>?_⟩
 ·have hP:(bs.map Value.bool)[i]?=some v:=by simpa using hP
  rw[bW] at hP
  cases e:bs[i]? with
  | none=>rw[e] at hP;cases hP
  | some b =>
   rw[e] at hP;cases hP;simp only[e,Option.getD_some] at hQ;exact eR hQ
 ·have e:((List.range (bs.map Value.bool).toArray.size).any λ i=>(bs[i]?).getD false)=bs.any id:=by
   rw[aG,aj];exact LSm.range_any bs
  rw[e];exact⟨.bl _,H,I.kept (t':=tk) (LSm.kept_iter hk),rfl,q⟩
end
section
variable {κ:Type} [DecidableEq κ]
end
section
variable {P:Program}{w:World}{H:Hp}{h:Heap}{a:Addr}
end
section
variable {X:Cx}{pins:LO}{σ:St}{H:Hp}{s:Shared}{a:Addr}{y v:V}{u r:Value}{o:Option V}{A:Around}{E:VS}
end
section
variable {X:Cx}{pins:LO}{σ:St}{H:Hp}{s:Shared}{a:Addr}{kvs:List (Key × V)}{k:Key}{u:Value}{A:Around}{E:VS}
end
noncomputable def uQ(i:Expr):Prop:=∀ov iv,subscripted i false ov iv=operate [ov,iv] (getItem ov iv)
theorem DT{T id:String}
  (hl:typeLookup (.type T) "__getitem__"=pure (some (.builtin id))) (hs:uQ slice)
  (h:wpAny (model prog w) A (eval value env) (λ o s₁=>wpAny (model prog w) A (eval slice env) (λ i s₂=>s₂.TypeIs o T/\wpAny (model prog w) A (getItem o i) Q E s₂) E s₁) E s) :
  wpAny (model prog w) A (eval (.Subscript value slice pos) env) Q E s:=by
 refine Subscript_ (bL h (λ o s₁ h₁=>bL h₁ (λ i s₂ h₂=>?_) λ _ _ x=>x) λ _ _ x=>x);obtain⟨hT,h₂⟩:=h₂;unfold subscriptTail;refine ae ?_;rw[getitemInPython_of_ne hT.not_modules];refine ae (gj hT hl ?_)
 have fin:wpAny (model prog w) A (subscripted slice false o i) (λ r s₃=>wpAny (model prog w) A (letTemporaryGo value o r >>= λ _=>pure r) Q E s₃) E s₂:=by
  rw[hs o i];exact wpAny_operating (bL h₂ (λ r s₃ h₃=>ae (wpAny_letTemporaryGo (ak h₃))) λ _ _ x=>x)
 first
  | exact ak (ae fin)
  | exact ae (ak (ae fin))
  | exact ae fin
section
variable {X:Cx}{o i e value:Expr}{pos pos' tpos:Pos}{td ty tv:TE}
end
section
variable {X:Cx}{pos:Pos}
end
section
variable {X:Cx}{pins:LO}{σ:St}{H:Hp}{s:Shared}{a:Addr}{y d:V}{u r:Value}{o:Option V}{A:Around}{E:VS}
end
section
variable {X:Cx}{o e f:Expr}{apos cpos:Pos}{td ty tx:TE}
end
section
variable {X:Cx}{pins:LO}{σ:St}{H:Hp}{s:Shared}{a:Addr}{kvs:List (Key × V)}{A:Around}{E:VS}
end
section
variable {X:Cx}{pins:LO}{σ:St}{H:Hp}{s:Shared}{a:Addr}{y:V}{u:Value}{A:Around}{E:VS}
end
section
variable {X:Cx}
end
section
variable {κ:Type} [DecidableEq κ]
end
noncomputable def KTab(P:Program)(w:World)(K:FG)(d:Addr)(kvs:LA):Prop:=(d == sysModules)=false/\∀h:Heap,K.In h->h.DictOf (nH P w) d (kvs.map λ p=>((Sum.inr p.1:Key),Value.ref p.2))
noncomputable def DU(pm:Params)(l:List (Str × Tok × Addr)):List DictEntry:=l.map λ p=>⟨PyData.keyHash pm p.1,.str p.1 p.2.1,.ref p.2.2⟩
theorem KTab.mk{w:World}{K:FG}{d:Addr}(hd:(d == sysModules)=false)(hl:K.lookup d=some { cls:=.type "dict",data:=.dict es n })(he:es.toList=DU w.params l)(nd:(l.map (·.1)).Nodup) :
  KTab P w K d (l.map λ p=>(p.1,p.2.2)):=by
 refine⟨hd,λ h KI=>⟨_,es,n,KI d _ hl,⟨rfl,rfl,rfl⟩,rfl,?_,?_,?_⟩⟩
 ·intro e hm;have hm:e∈es.toList:=tG.mpr hm;rw[he] at hm;obtain⟨p,_,rfl⟩:=cO.mp hm;exact⟨Sum.inr p.1,nG p.1 p.2.1,rfl⟩
 ·rw[he];clear he nd hl
  induction l with
  | nil=>exact .nil
  | cons p r ih=>exact .cons (nG p.1 p.2.1) rfl ih
 ·rw[bE,bE];have e:((λ x:Key × Value=>x.1) ∘ (λ p:Str × Addr=>((Sum.inr p.1:Key),Value.ref p.2))) ∘ (λ p:Str × Tok × Addr=>(p.1,p.2.2))=(λ x:Str=>(Sum.inr x:Key)) ∘ λ p=>p.1:=rfl;rw[← bE] at *
  have z:(l.map λ p=>(Sum.inr p.1:Key)).Nodup:=by
   have:(l.map λ p=>(Sum.inr p.1:Key))=(l.map (·.1)).map (λ x:Str=>(Sum.inr x:Key)):=by rw[bE];rfl
   rw[this];exact List.Pairwise.map _ (λ a b (h:a≠b) z=>h (s1j z)) nd
  simpa [bE,Function.comp_def] using z
theorem DV{kvs:LA}:valueAt (kvs.map λ p=>((Sum.inr p.1:Key),Value.ref p.2)) (Sum.inr x)=(kvs.lookup x).map Value.ref:=by
 induction kvs with
 | nil=>rfl
 | cons p r ih =>
  obtain⟨k,a⟩:=p;unfold valueAt at *;rw[bc,List.find?_cons,gk];by_cases e:x=k
  ·subst e;simp
  ·have h1:decide ((Sum.inr k:Key)=Sum.inr x)=false:=aJ λ z=>e (s1j z).symm;have h2:(x == k)=false:=iO.mpr e;rw[h2];simp only[h1];exact ih
section
variable {X:Cx}
noncomputable def DW(kvs:LA):V->Hp->VK->Prop:=λ y H Q=>∃x a,y=.str x/\kvs.lookup x=some a/\Q (.ref a) H
noncomputable def DX(kvs:LA)(te:TE):TE:=λ σ H Q=>te σ H λ y H1=>DW kvs y H1 Q
theorem DY(hg:Gl X n)(hm:X.mg n=some (.ref d))(T:KTab X.prog X.w X.K d kvs)(hi:PE X i te)(hs:uQ i)(hdb:autoParam ((n == ("__debug__" : Str))=false) Z1_) :
  PE X (.Subscript (.Name n np) i pos) (DX kvs te):=by
 intro pins s σ H Q I h;refine DT PySem.F.slot_dict_getitem.lookup hs (dY I hg hm (thn (hi pins s σ H _ I h) λ iv s2 ⟨y,H2,I2,ry,x,a,ey,l,q⟩=>?_) hdb);subst ey;obtain⟨t,rfl⟩:=ry;have dd:=T.2 s2.heap I2.kIn;refine⟨dd.typeIs,wpAny_getItem_of (nG x t) dd.mapOf (v:=.ref a) (by rw[DV,l];rfl) ⟨.ref a,H2,I2.tok _,rfl,q⟩⟩
end
noncomputable def KTup(K:FG)(a:Addr)(xs:List V):Prop:=∃(o:Obj) (its:Array Value) (n:Nat),K.lookup a=some o/\o.cls=.type "tuple" /\ o.dict=none/\o.data=.seq its n/\its.size≤sizeLine/\Vals xs its.toList
theorem KTup.sq{K:FG}(h:KTup K a xs):SqT K H a xs:=.inr h
section
variable {pg:Program}{wd:World}{B:Around}{X0:VS}{s0:Shared}
end
section
variable {X:Cx}{es:List Expr}{x1:Nat}{pp:Pos}
end
section
variable {X:Cx}
end
section
variable {P:Program}{w:World}{K:FG}{mg:SV}{base:Heap}
end
section
variable {X:Cx}{CX:CXT}{k:Nat}{ps:List Str}{dvs:List V}{sp:Sp}{E:XK}{x:Str}{p pos:Pos}{e:Expr}{es:List Expr}{t:TA}
end
section
variable {X:Cx}
end
section
open PySem.Builtin PySem.Builtin.Str
section
variable {X:Cx}
end
end
section
variable {X:Cx}
end
section
variable {pg:Program}{wd:World}{B:Around}{X0:VS}{s0:Shared}{J d:Addr}{m:Nat}{Pr:Nat->Value->Prop}{OK:Heap->Prop}
end
section
variable {X:Cx}
end
section
variable {pg:Program}{wd:World}{B:Around}{X0:VS}{z0:Shared}
end
section
variable {X:Cx}
end
theorem DZ(r:Vals xs us){j:Nat}(h:j < us.toArray.size):∃z,xs[j]?=some z/\RelV z us.toArray[j]:=by
 have l:=r.length;have k:j < xs.length:=by rw[l];simpa using h
 obtain⟨u,hu,ru⟩:=r.get (bP k)
 have e:us.toArray[j]=u:=by
  have z:us[j]?=some (us[j]'(by simpa using h)):=bP _;rw[z] at hu;simpa using hu
 exact⟨_,bP k,by rw[e];exact ru⟩
section
variable {X:Cx}{pins:LO}{σ:St}{H:Hp}{s:Shared}
end
section
variable {X:Cx}
noncomputable def Ea(K:FG)(tl:TE):TI:=λ σ H R=>tl σ H λ x H1=>(∃a,x=.ref a/\(∃xs,SqL K H1 a xs)/\R (Itl K a) H1)\/(∃a,x=.ref a/\(∃xs,SqT K H1 a xs)/\R (Itt K a) H1)
theorem Eb(hl:PE X l tl):PI X tg l (Ea X.K tl):=by
 intro pins s σ H R I h;refine thn (hl pins s σ H _ I h) λ v s1 ⟨x,H1,I1,r1,q1⟩=>?_
 rcases q1 with ⟨a,e,⟨xs,hq⟩,q⟩ | ⟨a,e,⟨xs,hq⟩,q⟩
 ·subst e;cases r1;obtain⟨its,rv,p,hz⟩:=I1.list hq;refine wpAny_pyIter_list p.isList ?_;refine⟨s1.heap.objs.size,[s1.heap.objs.size],_,_,H1,rfl,I1.kept (t':=s1.toks) λ b o e=>aE _ e,Ab a _,⟨_,bA _ rfl,rfl,rfl⟩,λ b hb=>?_,q⟩;have e:b=s1.heap.objs.size:=by simpa using hb
  subst e;exact I1.fpOk (au _) (I1.hok.fresh (au _))
 ·subst e;cases r1;obtain⟨its,rv,p,hz⟩:=I1.tuple hq;refine s0t (show s1.heap.IsTuple a its.toArray from p) ?_;refine⟨s1.heap.objs.size,[s1.heap.objs.size],_,_,H1,rfl,I1.kept (t':=s1.toks) λ b o e=>aE _ e,Ac a _,⟨_,bA _ rfl,rfl,rfl⟩,λ b hb=>?_,q⟩;have e:b=s1.heap.objs.size:=by simpa using hb
  subst e;exact I1.fpOk (au _) (I1.hok.fresh (au _))
end
section
variable {X:Cx}{tg:Expr}
end
end _L
namespace _L
open PySem PySem.Spec PyProof.Rows PySem.W PySem.Calls
end _L
namespace _L
open PySem PySem.Spec PyProof.Rows PySem.W PySem.Calls
section
variable {M:Model}{A:Around}{E:VS}{s₀ s:Shared}{m cm:SV}{env:Env}{cs:LA}
end
section
variable {M:Model}{A:Around}{E:VS}{s:Shared}
end
end _L
namespace _L
open PySem PySem.Spec PyProof.Rows PySem.W PySem.Calls
section
variable {X:Cx}{k:Nat}{x:Str}{p pos:Pos}{e:Expr}{es:List Expr}{t:TA}
end
section
variable {X:Cx}{params:Arguments}{body:Expr}{scope:Scope}{pos:Pos}{fv:List Str}{c T:Addr}{cl:LA}
end
end _L
namespace _L
open PySem PySem.Spec PyProof.Rows PySem.W PySem.Calls
section
variable {X:Cx}{k:Nat}{x:Str}{ps:List Str}{sp:Sp}{p pos:Pos}{e:Expr}{es:List Expr}{t:TA}{fv:List Str}{js:List Nat}{cl:LA}
end
end _L
namespace _L
open PySem PySem.Spec PyProof.Rows PySem.W PySem.Calls
end _L
namespace _L
open PySem PySem.Spec PyProof.Rows PySem.W PySem.Calls
section
variable {X:Cx}{params:Arguments}{scope:Scope}{pos:Pos}{fv:List Str}{c T:Addr}{cl:LA}
end
end _L
namespace _L
open PySem PySem.Spec PyProof.Rows PySem.W PySem.Calls
section
variable {X:Cx}
end
section
variable {X:Cx}
end
section
variable {prog:Program}{w:World}{A:Around}{R:Result->Shared->Prop}{I:Addr}{fp wr:List Addr}{n:Nat}{P:Nat->Value->Prop}{St:Nat->Heap->Prop}
end
section
variable {X:Cx}
theorem Ec(hc:X.calm=true):bG X (.builtin "max") (λ xs H Q=>∃a ns,xs=[.ref a]/\SqL X.K H a (List.map V.int ns)/\0 < ns.length/\∀M:Int,M∈ns->(∀z∈ns,z≤M)->Q (.int M) H):=by
 intro pins s σ H xs us Q I r h;obtain⟨a,ns,rfl,hq,hne,q⟩:=h;obtain⟨u,rfl,ru⟩:=cH r;cases (show u=Value.ref a from ru);obtain⟨its,rv,pl,hz⟩:=I.list hq;have hi:=iY rv;obtain⟨xs,e⟩:=hi.allInts.items;have hns:ns=xs.toList.map (·.1):=by rw[← hi.numsOf,← nums_intItems,← e]
 have hl:=pl.isList;rw[e] at hl;have hsz:0 < xs.size:=by rw[hns,aj,Array.length_toList] at hne;exact hne
 refine max_intList (I.ok.hd hc) hl hsz λ v h' tk hv kk=>?_;obtain⟨t,rfl⟩:=intItems_at hv;obtain⟨h1,h2⟩:=argBest_gt (numAt xs) (xs.size - 1);refine⟨.int _,H,I.kept kk,⟨t,rfl⟩,q _ ?_ λ z hz=>?_⟩
 ·rw[hns,numAt_eq];exact getD_mem (by rw[aj,Array.length_toList];lia)
 ·rw[hns] at hz;obtain⟨j,hj,rfl⟩:=mem_getD hz;rw[aj,Array.length_toList] at hj;rw[← numAt_eq];exact h2 j (by lia)
end
section
variable {pg:Program}{wd:World}{B:Around}{X0:VS}{s0:Shared}
end
section
variable {X:Cx}{es:List Expr}{x1:Nat}{pp:Pos}
end
section
variable {X:Cx}
noncomputable def lT:V->List V->Hp->VK->Prop:=λ x vs H Q=>∃l xs i y,x=.ref l/\vs=[.int i,y]/\H l=some (.lst xs)/\0≤i/\i≤xs.length/\xs.length < sizeLine/\Q .non (upd H l (.lst (xs.take i.toNat++y::xs.drop i.toNat)))
theorem Ed:MtR X "list.insert" lT:=by
 intro pins s σ H x vs v us Q I rx rv h;obtain⟨l,xs,i,y,rfl,rfl,hH,i0,i1,hz,q⟩:=h;cases rx;obtain⟨u,w,rfl,⟨t,rfl⟩,rw'⟩:=iV rv;obtain⟨z,its,n,r,hl,e⟩:=I.lstM hH;have s63:sizeLine≤2 ^ 62:=by rw[fF];decide
 have hf:Builtin.List.listFitsIndex i=true:=oO (by lia) (by lia)
 refine eo F.slot_list_insert ⟨_,e,rfl⟩ F.entry_list_insert (F.args_list_insert_3 _ _ _)
  (AutoSeq1.list_insert_list_int_val_1 l its.toArray n i t w (by simp[hf]) (by rw[aG];lia)) ⟨e,?_⟩
 refine⟨.non,_,I.lset (its':=its.take i.toNat++w::its.drop i.toNat) hH e ?_ ((r.take _).append (.cons rw' (r.drop _))) ?_,rfl,q⟩
 ·show(its.toArray.extract 0 (if i < 0 then (i+(its.toArray.size:Int)).toNat else min i.toNat its.toArray.size)).push w++its.toArray.extract (if i < 0 then (i+(its.toArray.size:Int)).toNat else min i.toNat its.toArray.size)=_;rw[if_neg (by lia),aG,eW (by lia)];apply Array.ext';simp[List.extract_eq_take_drop,eE]
 ·rw[aC,List.length_cons,aU,cg];lia
end
section
variable {pg:Program}{wd:World}{B:Around}{X0:VS}{s0:Shared}
end
section
variable {X:Cx}{es:List Expr}{x1:Nat}{pp:Pos}
end
section
variable {prog:Program}{w:World}{A:Around}{R:Result->Shared->Prop}{I:Addr}{fp wr:List Addr}{n:Nat}{P:Nat->Value->Prop}{St:Nat->Heap->Prop}
noncomputable def uR(h0:Heap)(S:Addr)(wr:List Addr)(kf:Nat->Int)(P:Nat->Value->Prop):Prop:=∀i v,P i v->∃a its,v=.ref a/\¬a∈wr/\a≠S/\h0.IsTuple a its/\(its.size:Int) < 2 ^ 63/\kf i=its.size
noncomputable def pV(kf:Nat->Int)(m i:Nat):Prop:=∀j,j < m->kf j≤kf i/\(j < i->kf j < kf i)
theorem Ee(W:Walks prog w A.in1 I fp wr n P St)(kf:Nat->Int)(S:Addr)(hSf:¬S∈fp)(h0:Heap)(hk:uR h0 S wr kf P):∀(k j i:Nat) (s:Shared) (vb:Value) (tb:Tok) (c:Nat),n - (j+1)=k->j+1≤n->St (j+1) s.heap->P i vb->i≤j->pV kf (j+1) i->(∀b o,¬b∈wr->b≠S->h0.get? b=some o->s.heap.get? b=some o)->s.heap.get? S=some ⟨.type "list",none,.seq #[vb,.int (kf i) tb] c,#[]⟩ ->
  (∀i v h' tk,P i v->i < n->pV kf n i->(∀b o,¬b∈wr->b≠S->h0.get? b=some o->h'.get? b=some o)->R (.ok (.ret v)) { s with heap:=h',toks:=tk })->codeAny (model prog w) A (.builtin "max.loop" ⟨[.ref I,.builtin "len",.ref S],[]⟩) R s:=by
 have hSw:¬S∈wr:=λ h=>hSf (W.sub _ h);have nm:(toString "max" ++ toString ".loop" : String)="max.loop" := by decide
 intro k;induction k with
 | zero =>
  intro j i s vb tb c hk' hj hst hPb hij hb kp0 hS hR;have e0:j+1=n:=by lia
  refine dj pW ?_;rw[dO ig _];show wpAny (model prog w) A.in1 (seqItems? (.ref S) >>= _) _ _ s;refine ae (m:=seqItems? (.ref S)) (pX hS rfl ?_);show wpAny (model prog w) A.in1 (tryCatch (pyNext (.ref I)) _ >>= _) _ _ s;refine ae (m:=tryCatch (pyNext (.ref I)) _) (jg (W.done s _ _ (e0 ▸ hst) λ h' tk kp=>?_));have hS1:=kp S _ hSw hS;show wpAny (model prog w) A.in1 (updateSeq S (λ _=>#[]) >>= _) _ _ _;refine ae (m:=updateSeq S (λ _=>#[])) (ko hS1 rfl (ae (s0d (ak ?_))));exact hR i vb _ tk hPb (by lia) (e0 ▸ hb) λ b o hbw hbS e=>(cv _ _ (bo hbS)).trans (kp b o hbw (kp0 b o hbw hbS e))
 | succ k ih =>
  intro j i s vb tb c hk' hj hst hPb hij hb kp0 hS hR;have lt0:j+1 < n:=by lia
  refine dj pW ?_;rw[dO ig _];show wpAny (model prog w) A.in1 (seqItems? (.ref S) >>= _) _ _ s;refine ae (m:=seqItems? (.ref S)) (pX hS rfl ?_);show wpAny (model prog w) A.in1 (tryCatch (pyNext (.ref I)) _ >>= _) _ _ s;refine ae (m:=tryCatch (pyNext (.ref I)) _) (jg (W.item (j+1) s _ _ lt0 hst λ v h' tk hP hst1 kp=>?_));have hS1:=kp S _ hSw hS;have kp1:∀b o,¬b∈wr->b≠S->h0.get? b=some o->h'.get? b=some o:=λ b o hbw hbS e=>kp b o hbw (kp0 b o hbw hbS e);obtain⟨a,its,rfl,aw,aS,at0,a63,ek⟩:=hk _ _ hP;show wpAny (model prog w) A.in1 (tryCatch (holding [.ref a] (call (.builtin "len") [.ref a])) _ >>= _) _ _ _;refine ae (jg (cu (s0q (uH at0 λ o e=>kp1 a o aw aS e) a63 ?_)));rw[← ek];show wpAny (model prog w) A.in1 (tryCatch (holding [.ref a,.int (kf (j+1)) _] (richCompare .Gt (.int (kf (j+1)) _) (.int (kf i) tb) >>= _)) _ >>= _) _ _ _;refine ae (jg (cu (ae (CmpOf.ints_gt (prog:=prog) (w:=w) (A:=A.in1) (P:=λ i v=>∃t,v=.int (kf i) t) kf (λ i v h=>h) (j+1) i _ _ _ _ _ ⟨_,rfl⟩ ⟨tb,rfl⟩ ?_))));refine ae (cu (eR ?_));refine ae (s0d (ak ?_));by_cases hb':kf (j+1) > kf i
  ·simp only[hb',decide_true,dJ];refine ae (m:=updateSeq S _) (ko hS1 rfl (ae (s0d ?_)));rw[nm];refine ak (a:=_) ⟨dq ig _,ih (j+1) (j+1) _ (.ref a) _ _ (by lia) lt0 (W.frame _ _ _ hst1 λ b hbf o e=>(cv _ _ (λ h:S=b=>hSf (by rw[h];exact hbf))).trans e) hP (au _) (λ j' hj'=>?_) (λ b o hbw hbS e=>(cv _ _ (bo hbS)).trans (kp1 b o hbw hbS e)) (eh _ hS1 rfl) λ i2 v2 h2 tk2 q1 q2 q3 q4=>hR i2 v2 h2 tk2 q1 q2 q3 q4⟩;by_cases e:j'=j+1
   ·subst e;exact⟨jh _,λ z=>absurd z (ce _)⟩
   ·have:=(hb j' (by lia)).1;exact⟨by lia,λ _=>by lia⟩
  ·simp only[hb',decide_false,lU,s1i];refine ae (m:=letGo _) (s0d ?_);rw[nm];refine ak (a:=_) ⟨dq ig _,ih (j+1) i _ vb tb c (by lia) lt0 hst1 hPb (by lia) (λ j' hj'=>?_) kp1 hS1 λ i2 v2 h2 tk2 q1 q2 q3 q4=>hR i2 v2 h2 tk2 q1 q2 q3 q4⟩;by_cases e:j'=j+1
   ·subst e;exact⟨by lia,λ z=>by lia⟩
   ·exact hb j' (by lia)
theorem Ef(W:Walks prog w A.in1 I fp wr n P St)(kf:Nat->Int)(S:Addr)(hSf:¬S∈fp)(h0:Heap)(hk:uR h0 S wr kf P)(hn:0 < n){s:Shared}(hst:St 0 s.heap)(kp0:∀b o,¬b∈wr->b≠S->h0.get? b=some o->s.heap.get? b=some o)(hS:s.heap.get? S=some ⟨.type "list",none,.seq #[] c,#[]⟩)
  (hR:∀i v h' tk,P i v->i < n->pV kf n i->(∀b o,¬b∈wr->b≠S->h0.get? b=some o->h'.get? b=some o)->R (.ok (.ret v)) { s with heap:=h',toks:=tk }):codeAny (model prog w) A (.builtin "max.loop" ⟨[.ref I,.builtin "len",.ref S],[]⟩) R s:=by
 have hSw:¬S∈wr:=λ h=>hSf (W.sub _ h);have nm:(toString "max" ++ toString ".loop" : String)="max.loop" := by decide
 refine dj pW ?_;rw[dO ig _];show wpAny (model prog w) A.in1 (seqItems? (.ref S) >>= _) _ _ s;refine ae (m:=seqItems? (.ref S)) (pX hS rfl ?_);show wpAny (model prog w) A.in1 (tryCatch (pyNext (.ref I)) _ >>= _) _ _ s;refine ae (m:=tryCatch (pyNext (.ref I)) _) (jg (W.item 0 s _ _ hn hst λ v h' tk hP hst1 kp=>?_));have hS1:=kp S _ hSw hS;have kp1:∀b o,¬b∈wr->b≠S->h0.get? b=some o->h'.get? b=some o:=λ b o hbw hbS e=>kp b o hbw (kp0 b o hbw hbS e);obtain⟨a,its,rfl,aw,aS,at0,a63,ek⟩:=hk _ _ hP;show wpAny (model prog w) A.in1 (tryCatch (holding [.ref a] (call (.builtin "len") [.ref a])) _ >>= _) _ _ _;refine ae (jg (cu (s0q (uH at0 λ o e=>kp1 a o aw aS e) a63 ?_)));rw[← ek];show wpAny (model prog w) A.in1 (updateSeq S (λ _=>#[.ref a,.int (kf 0) _]) >>= _) _ _ _;refine ae (m:=updateSeq S _) (ko hS1 rfl ?_);rw[nm];refine ak (a:=_) ⟨dq ig _,Ee W kf S hSf h0 hk _ 0 0 _ (.ref a) _ _ rfl hn (W.frame _ _ _ hst1 λ b hbf o e=>(cv _ _ (λ h:S=b=>hSf (by rw[h];exact hbf))).trans e) hP (au _) (λ j' hj'=>?_) (λ b o hbw hbS e=>(cv _ _ (bo hbS)).trans (kp1 b o hbw hbS e)) (eh _ hS1 rfl) λ i2 v2 h2 tk2 q1 q2 q3 q4=>hR i2 v2 h2 tk2 q1 q2 q3 q4⟩;have z:j'=0:=by lia
 subst z;exact⟨jh _,λ z=>absurd z (ce _)⟩
end
section
variable {X:Cx}
end
section
variable {X:Cx}{st:Stmt}{rest:List Stmt}{t u:TS}{e:Expr}{es:List Expr}{te:TE}{ta:TA}{pos:Pos}
end
section
variable {prog:Program}{w:World}{A:Around}
theorem Eg(a b v:Value):argsOk "max" ⟨[a,b],[(Str.ofString "key",v)]⟩:=by unfold argsOk;kernel_rfl
theorem Eh{s:Shared}{i1 i2:Array Value}{Q:VS}(hh:A.handled=none)(h1:s.heap.IsTuple a1 i1)(h2:s.heap.IsTuple a2 i2)(z1:(i1.size:Int) < 2 ^ 63)(z2:(i2.size:Int) < 2 ^ 63)
  (hQ:∀v h' tk,(v=.ref a1/\i2.size≤i1.size\/v=.ref a2/\i1.size < i2.size)->(∀b o,s.heap.get? b=some o->h'.get? b=some o)->Q v { s with heap:=h',toks:=tk }):wpAny (model prog w) A (call (.builtin "max") [.ref a1,.ref a2] [(Str.ofString "key",.builtin "len")]) Q E s:=by
 have nm:(toString "max" ++ toString ".loop" : String)="max.loop" := by decide
 have hT:(s.heap.push { cls:=.type "tuple",data:=.seq #[.ref a1,.ref a2] }).IsTuple s.heap.objs.size #[.ref a1,.ref a2]:=⟨_,bA _ rfl,rfl,0,rfl⟩;have hsz:(s.heap.push { cls:=.type "tuple",data:=.seq #[.ref a1,.ref a2] }).objs.size=s.heap.objs.size+1:=oV ..;refine kmb_tree PySem.F.kind_max PySem.F.plain_max PySem.F.entry_max (Eg _ _ _) ?_;show wpAny _ A.in1 (Builtin.Builtins.bindParams "max" ["key","default"] 0 ⟨[],[(Str.ofString "key",.builtin "len")]⟩ >>= _) _ _ s;refine ae (dn (show Builtin.Builtins.bindParams "max" ["key","default"] 0 ⟨[],[(Str.ofString "key",.builtin "len")]⟩=pure [some (.builtin "len"),none] from rfl) ?_);show wpAny _ A.in1 (newTuple [.ref a1,.ref a2] >>= _) _ _ s;refine ae (ci ?_);refine ae (m:=pyIter _) (s0t hT ?_);refine ae (m:=newList _) (ci ?_);rw[nm];have W:=Walks.tuple (prog:=prog) (w:=w) (A:=A.in1) hh (s.heap.push { cls:=.type "tuple",data:=.seq #[.ref a1,.ref a2] }).objs.size s.heap.objs.size (by rw[hsz];exact aZ (gh _)) #[.ref a1,.ref a2];have hI:((s.heap.push { cls:=.type "tuple",data:=.seq #[.ref a1,.ref a2] }).push { cls:=.type "tuple_iterator",data:=.fields #[.ref s.heap.objs.size,.int 0 0] }).objs.size=s.heap.objs.size+2:=by rw[oV,hsz]
 have e1:a1 < s.heap.objs.size:=by obtain⟨o,g,_⟩:=h1;exact az g
 have e2:a2 < s.heap.objs.size:=by obtain⟨o,g,_⟩:=h2;exact az g
 refine ak (a:=_) ⟨dq ig _,Ef W (λ i=>([(i1.size:Int),(i2.size:Int)].getD i 0)) ((s.heap.push { cls:=.type "tuple",data:=.seq #[.ref a1,.ref a2] }).push { cls:=.type "tuple_iterator",data:=.fields #[.ref s.heap.objs.size,.int 0 0] }).objs.size ?_ s.heap (λ i v hv=>?_) (cP _) ?_ (λ b o _ _ e=>aE _ (aE _ (aE _ e))) (bA _ rfl) λ i v h' tk q1 q2 q3 q4=>?_⟩
 ·rw[hI,hsz];intro z
  rcases av.mp z with z | z
  ·exact absurd z (Nat.succ_ne_self _)
  ·exact absurd (aR.mp z) (jL (dh (gh _)))
 ·have nw:∀a,a < s.heap.objs.size->¬a∈[(s.heap.push { cls:=.type "tuple",data:=.seq #[.ref a1,.ref a2] }).objs.size]:=λ a h z=>by
   have:=aR.mp z;rw[hsz] at this;exact aZ (dh h) this
  match i,hv with
  | 0,hv=>cases hv;exact⟨a1,i1,rfl,nw _ e1,by rw[hI];exact aZ (dh (dh e1)),h1,z1,rfl⟩
  | 1,hv=>cases hv;exact⟨a2,i2,rfl,nw _ e2,by rw[hI];exact aZ (dh (dh e2)),h2,z2,rfl⟩
  | i+2,hv=>simp at hv
 ·exact W.frame _ _ _ ⟨⟨_,bA _ rfl,rfl,rfl⟩,hT.push _⟩ λ b _ o e=>aE _ e
 ·have kp:∀b o,s.heap.get? b=some o->h'.get? b=some o:=λ b o e=>by
   have bl:=az e;exact q4 b o (λ z=>by have:=aR.mp z;rw[hsz] at this;exact aZ (dh bl) this) (by rw[hI];exact aZ (dh (dh bl))) e
  match i,q1 with
  | 0,q1 =>
   cases q1;have b:=(q3 1 (gh _)).1;have b:(i2.size:Int)≤(i1.size:Int):=b;exact hQ _ _ _ (.inl ⟨rfl,by lia⟩) kp
  | 1,q1 =>
   cases q1;have b:=(q3 0 (cP _)).2 (cP _);have b:(i1.size:Int) < (i2.size:Int):=b;exact hQ _ _ _ (.inr ⟨rfl,by lia⟩) kp
  | i+2,q1=>simp at q1
end
section
variable {X:Cx}
noncomputable def Ei(r:V->V->Hp->VK->Prop)(te tf:TE):TE:=λ σ H Q=>te σ H λ x H1=>tf σ H1 λ y H2=>r x y H2 Q
end
theorem Ej{X:Cx}{i:Nat}{elt tg iter cnd:Expr}{cl:LA}{pos pos' lpos:Pos}{own fv:List Str}{js:List Nat}
  (hN:X.N.Nodup) (hx1:X.N[i]?=some x) (hx:Loc X.env.scope x) (hf:X.fn x=true\/X.env.scope.names.lookup x=some .local)
  (hc:X.calm=true) (hi:PI X tg iter wi) (hclos:closureFor scope X.env=pure cl) (hcell:∀y∈scope.names,y.2≠.cell) (hkind:scope.kind=.function)
  (hnames:∀y∈scope.names,y.2=.local->scope.names.lookup y.1=some .local)
  (hcl:∀x c,cl.lookup x=some c->X.env.cells.lookup x=some c)
  (hhas:∀x,((relabel scope X.env).names.lookup x=some .cell\/(relabel scope X.env).names.lookup x=some .free)->∃c,cl.lookup x=some c)
  (hlen:js.length=fv.length) (hcap:∀(i:Nat) x j,fv[i]?=some x->js[i]?=some j->Cap X scope cl x j)
  (hg:∀(C:Addr) (ex:List Addr) (s:Shared) (H:Hp),PG (bv X (own++fv) scope cl C ex s H) tg g)
  (he:∀(C:Addr) (ex:List Addr) (s:Shared) (H:Hp),PE (bv X (own++fv) scope cl C ex s H) elt te)
  (ht:∀(C:Addr) (ex:List Addr) (s:Shared) (H:Hp),PT (bv X (own++fv) scope cl C ex s H) cnd tc)
  (hsw:autoParam (swapsWith (.ListComp elt [⟨tg,iter,[cnd],0⟩] scope lpos) (some (.Name x pos')) pos.line X.env=pure true) Z3_)
  (hs:autoParam (∀x,foldedSetIterable iter X.env x=pure x) Z2_) :
  PS X (.Assign [.Name x pos'] (.ListComp elt [⟨tg,iter,[cnd],0⟩] scope lpos) pos) (gR (gX wi own.length js g tc te) (cW i)):=by
 intro pins s σ H D I h;rw[uN _ _ _ _ hsw];refine ae (fE ?_);rw[uO];have core:=uJ (use:=some (assign (.Name x pos') X.env)) (QQ:=λ _ s'=>SP X pins D .next s') (fpos:=firstIterPos [⟨tg,iter,[cnd],0⟩] lpos) (pos:=lpos) hc hi hclos hcell hkind hnames hcl hhas hlen hcap hg he ht hs I h (λ a C s5 H5 fl I5 zC zL zS zc zp ⟨m,hn⟩ q=>?_)
 ·refine ae (ae (thn core λ _ s' hq=>?_));exact ak (ak hq)
 ·show wpAny (model X.prog X.w) X.A (assign (.Name x pos') X.env (.ref a)) _ X.xe s5;show wpAny (model X.prog X.w) X.A (do standAt pos';bindName X.env x (.ref a)) _ X.xe s5;refine ae (fE ?_);refine bindName_ ?_;refine nL I5 hN hx1 hx (show RelV (.ref a) (.ref a) from rfl) (λ s6 I6 ⟨b,sb,hb⟩=>?_) hf
  have cb:C≠b:=by
   rcases hb with rfl | hb
   ·exact zL
   ·exact λ z=>zc x b hb z.symm
  obtain⟨o,es,ep,e,r⟩:=hn;refine⟨m,⟨o,es,ep,(sb.2 C cb).trans e,r⟩,λ h' sc=>?_⟩;exact⟨_,H5,I6.turned (t':=s6.toks) (it:=C) (λ d o nd e=>sc.extBut d o nd e) zC zL (.inr zS) zc zp,q⟩
end _L
namespace _L
open PySem PySem.Spec PyProof.Rows PySem.W PySem.Calls
end _L
namespace _L
open PySem PySem.Spec PyProof.Rows PySem.W PySem.Calls
section
variable {X:Cx}
end
theorem Ek(f:Array Value->Array Value)(o:Obj):(Obj.mapFields f o).dict=o.dict:=by
 unfold Obj.mapFields;split<;>rfl
noncomputable def pY(B h:Heap)(e:Addr)(cls:Value)(dx:Addr)(hd:Value):Prop :=
 ∃oe vs,h.get? e=some oe/\(oe.cls=cls/\oe.dict=some dx)/\oe.data=.fields vs/\vs[1]?=some hd
noncomputable def El(B h:Heap)(e:Addr)(hd fl:Value):Prop:=∃T oT ts,hd=.ref T/\B.get? T=none/\T≠e/\h.get? T=some oT/\oT.data=.fields ts/\ts[3]?=some fl
noncomputable def FlyD(B:Heap)(l:List Env)(e:Addr)(cls:Value)(dx:Addr)(fl:Value)(h:Heap):Prop :=
 B.StaysIn h/\B.get? e=none/\h.FunFrames B l/\∃hd,pY B h e cls dx hd/\El B h e hd fl
noncomputable def pZ(B:Heap)(l:List Env)(e:Addr)(cls:Value)(dx:Addr)(h:Heap):Prop :=
 B.StaysIn h/\B.get? e=none/\h.FunFrames B l/\pY B h e cls dx .none
theorem FlyD.first(x:FlyD B l e cls dx fl h):∃oe vs,h.get? e=some oe/\oe.cls=cls/\oe.data=.fields vs/\oe.dict=some dx :=
 let ⟨_,_,_,_,⟨oe,vs,he,hc,hd,_⟩,_⟩:=x;⟨oe,vs,he,hc.1,hd,hc.2⟩
section
variable {M:Model}{A:Around}{E:VS}{s:Shared}{B:Heap}{env:Env}{outer:List Env}{L e dx:Addr}{cls:Value}
theorem uS{Q:Unit->Shared->Prop}(hfr:A.frames=some (env::outer))(hf:env.frame=some L)(kb:B.StaysIn s.heap)(nb:B.get? e=none)(fl:s.heap.FunFrames B (env::outer))(x:pY B s.heap e cls dx hd)
  (q:∀h2,FlyD B (env::outer) e cls dx (rawInt L) h2->s.heap.UpToSlots h2->Q () { s with heap:=h2 }) :
  wpAny M A (do let fo ← frameOf env;let pl ← entryPlaceOf L nx;let tb ← EntryCells.newEntry hd fo .none (rawInt L) .none pl;setField (.ref e) 1 tb) Q E s:=by
 obtain⟨oe,vs,he,hc,hdt,h1⟩:=x;have z1:1 < vs.size:=(jb.mp h1).1
 have nfr:e ∉ (env::outer).filterMap (·.frame):=λ m=>by
  obtain⟨_,o3,e3,nf3⟩:=fl.mem m;rw[he] at e3;cases e3;exact nf3 vs hdt
 refine ae (wpAny_frameOf_fun hfr fl hf λ g1 u1=>ae (wpAny_entryPlaceOf λ pl ipl=>?_));unfold EntryCells.newEntry newFields;refine ae (ci ?_ (ipl.sizeOk5 _ _ _ _ _));generalize hTO:({ cls:=.type "traceback",dict:=none,data:=.fields ([hd,.ref L,.none,rawInt L,.none]++(if pl.isEmpty then List.replicate 6 Value.none else pl)).toArray }:Obj)=TO;have e1:g1.get? e=some oe:=(u1.2.1 e nfr).trans he;have kb1:B.StaysIn g1:=λ b o hb=>(u1.2.1 b λ m=>by rw[(fl.mem m).1] at hb;cases hb).trans (kb b o hb);have e2:(g1.push TO).get? e=some oe:=aE TO e1;have ne:g1.objs.size≠e:=jL (az e1);have d3:=hZ hdt (λ a:Array Value=>a.setIfInBounds 1 (Value.ref g1.objs.size));have e3:=eh (Obj.mapFields (λ a:Array Value=>a.setIfInBounds 1 (Value.ref g1.objs.size))) e2 (lQ d3)
 have oth:∀b o,b≠e->g1.get? b=some o->((g1.push TO).update e (Obj.mapFields (λ a:Array Value=>a.setIfInBounds 1 (Value.ref g1.objs.size)))).get? b=some o:=λ b o nbe hb=>by
  rw[cv _ _ (bo nbe)];exact aE TO hb
 have norec:∀b o,s.heap.get? b=some o->(∀ws,o.data≠.fields ws)->b≠e:=λ b o hb nf z=>by
  rw[z,he] at hb;cases hb;exact nf vs hdt
 refine jc e2 hdt z1 (q _ ?_ ?_)
 ·refine⟨λ b o hb=>oth b o (λ z=>by rw[z,nb] at hb;cases hb) (kb1 b o hb),nb,fl.of_keeps λ b o hb nf=>?_,.ref g1.objs.size,?_,?_⟩
  ·obtain⟨sl,hs⟩:=u1.2.2 b o hb;exact⟨_,oth b _ (norec b o hb nf) hs,rfl⟩
  ·exact⟨_,_,e3,⟨(Obj.cls_mapFields _ _).trans hc.1,(Ek _ _).trans hc.2⟩,d3,by simp[z1]⟩
  ·subst hTO;refine⟨g1.objs.size,_,_,rfl,kb1.fresh,ne,(cv _ _ (bo ne)).trans (bA g1 rfl),rfl,?_⟩;first | (simp;done) | (rcases ipl with rfl | ⟨_,_,_,_,_,_,_,rfl⟩<;>simp)
 ·intro b o hb nf;obtain⟨sl,hs⟩:=u1.2.2 b o hb;exact⟨sl,oth b _ (norec b o hb nf) hs⟩
theorem Em{Q:Unit->Shared->Prop}(hfr:A.frames=some (env::outer))(hf:env.frame=some L)(x:pZ B (env::outer) e cls dx s.heap)
  (q:∀h2,FlyD B (env::outer) e cls dx (rawInt L) h2->s.heap.UpToSlots h2->Q () { s with heap:=h2 }):wpAny M A (noteFrame (.ref e) env) Q E s:=by
 obtain⟨kb,nb,fl,oe,vs,he,hc,hdt,h1⟩:=x;unfold noteFrame;simp only[hf];refine ae (cY he hdt h1 ?_);rw[if_neg (by decide)];exact uS hfr hf kb nb fl ⟨oe,vs,he,hc,hdt,h1⟩ q
theorem qd{Q:Unit->Shared->Prop}(hfr:A.frames=some (env::outer))(hf:env.frame=some L)(x:FlyD B (env::outer) e cls dx .none s.heap)
  (q:∀h2,FlyD B (env::outer) e cls dx (rawInt L) h2->s.heap.UpToSlots h2->Q () { s with heap:=h2 }):wpAny M A (noteFrame (.ref e) env) Q E s:=by
 obtain⟨kb,nb,fl,hd,⟨oe,vs,he,hc,hdt,h1⟩,T,oT,ts,rfl,nT,Te,hT,dT,h3⟩:=x;unfold noteFrame;simp only[hf];refine ae (cY he hdt h1 ?_);rw[if_pos (by simp:(Value.ref T != Value.none)=true)];refine ae (cY hT dT h3 ?_);rw[if_neg (by simp[rawInt]:¬((Value.none == rawInt L)=true))];refine ae (jc hT dT (jb.mp h3).1 ?_);have oth:∀b,b≠T->(s.heap.update T (Obj.mapFields (λ a:Array Value=>a.setIfInBounds 3 Value.none))).get? b=s.heap.get? b:=λ b z=>cv _ _ (bo z)
 have norec:∀b o,s.heap.get? b=some o->(∀ws,o.data≠.fields ws)->b≠T:=λ b o hb nf z=>by
  rw[z,hT] at hb;cases hb;exact nf ts dT
 refine uS hfr hf (λ b o hb=>(oth b λ z=>by rw[z,nT] at hb;cases hb).trans (kb b o hb)) nb (fl.of_keeps λ b o hb nf=>⟨o,(oth b (norec b o hb nf)).trans hb,rfl⟩) ⟨oe,vs,(oth e (bo Te)).trans he,hc,hdt,h1⟩ λ h2 f2 u2=>q h2 f2 λ b o hb nf=>?_;exact u2 b o ((oth b (norec b o hb nf)).trans hb) nf
theorem ji{Q:Unit->Shared->Prop}(x:FlyD B l e cls dx fl s.heap)
  (q:∀h2,FlyD B l e cls dx .none h2->s.heap.UpToSlots h2->Q () { s with heap:=h2 }):wpAny M A (setFlight (.ref e) none) Q E s:=by
 obtain⟨kb,nb,ff,hd,⟨oe,vs,he,hc,hdt,h1⟩,T,oT,ts,rfl,nT,Te,hT,dT,h3⟩:=x;have z3:3 < ts.size:=(jb.mp h3).1;have oth:∀b,b≠T->(s.heap.update T (Obj.mapFields (λ a:Array Value=>a.setIfInBounds 3 ((none:OA).elim Value.none λ f=>rawInt f)))).get? b=s.heap.get? b:=λ b z=>cv _ _ (bo z)
 have norec:∀b o,s.heap.get? b=some o->(∀ws,o.data≠.fields ws)->b≠T:=λ b o hb nf z=>by
  rw[z,hT] at hb;cases hb;exact nf ts dT
 unfold setFlight;refine ae (cY he hdt h1 ?_);rw[if_pos (by simp:(Value.ref T != Value.none)=true)];refine jc hT dT z3 (q _ ⟨λ b o hb=>(oth b λ z=>by rw[z,nT] at hb;cases hb).trans (kb b o hb),nb,ff.of_keeps λ b o hb nf=>⟨o,(oth b (norec b o hb nf)).trans hb,rfl⟩,.ref T,⟨oe,vs,(oth e (bo Te)).trans he,hc,hdt,h1⟩,T,_,_,rfl,nT,Te,eh _ hT (lQ (hZ dT _)),hZ dT _,by simp[z3]⟩ λ b o hb nf=>⟨o.slots,(oth b (norec b o hb nf)).trans hb⟩)
theorem FlyD.pop(x:FlyD B (env::outer) e cls dx fl h):FlyD B outer e cls dx fl h:=let ⟨a,b,⟨_,_,c⟩,d⟩:=x;⟨a,b,c,d⟩
theorem Eo{Q:Unit->Shared->Prop}(hfr:A.frames=some (env::outer))(hf:env.frame=some L)(x:FlyD B (env::outer) e cls dx .none s.heap)
  (q:∀h2,FlyD B outer e cls dx .none h2->s.heap.UpToSlots h2->Q () { s with heap:=h2 }):wpAny M A (leaving env (.ref e)) Q E s:=by
 unfold leaving;refine ae (qd hfr hf x λ h1 f1 u1=>?_);exact ji (s:={ s with heap:=h1 }) f1 λ h2 f2 u2=>q h2 f2.pop (u1.trans u2)
theorem Ep{Q:Unit->Shared->Prop}(hfr:A.frames=some (env::outer))(hf:env.frame=some L)(x:pZ B (env::outer) e cls dx s.heap)
  (q:∀h2,FlyD B outer e cls dx .none h2->s.heap.UpToSlots h2->Q () { s with heap:=h2 }):wpAny M A (leaving env (.ref e)) Q E s:=by
 unfold leaving;refine ae (Em hfr hf x λ h1 f1 u1=>?_);exact ji (s:={ s with heap:=h1 }) f1 λ h2 f2 u2=>q h2 f2.pop (u1.trans u2)
end
end _L
namespace _L
open PySem PySem.Spec PyProof.Rows Builtin Builtin.ObjectAttr
noncomputable def im(K:FG)(C:Addr)(bmB:LV)(nid:String):Bool:=match K.lookup C with
 | some ⟨.type "type",_,.cls cd,kk⟩=>cd.hasDict && (match cd.mro,kk.toList with | .ref C2::tl,[_,_,_,_,some (.builtin n2),_]=>C2 == C && (n2 == nid && (!cd.hasDel && W.tailIn K bmB tl)) | _,_=>false)
 | _=>false
structure HasX (h:Heap)(C:Addr)(bmB:LV)(nid:String):Prop where
 ex:∃(nm q:Str) (N:Addr) (bs bm:LV) (sn:List Str) (sub:LV) (ab:Bool) (col:Option Bool) (dd:OA) (k0 k1 k2 k3 k5:Option Value),
  h.get? C=some (excClassObj nm q C N bs bm true sn sub ab col dd k0 k1 k2 k3 k5 nid)/\OwnTail h bmB bm
set_option tactic.hygienic true in
theorem lV{K:FG}(KI:K.In h)(q:im K C bmB nid=true):HasX h C bmB nid:=by
 unfold im at q;split at q
 ·rename_i ddx cdx slx hlk;rw[aX] at q;obtain⟨hdict,q⟩:=q;split at q
  ·rename_i C2 bm2 f0 f1 f2 f3 nn f5 hmro hsl0;simp only[aX,dZ,oW] at q;obtain⟨eC,eN,hdl,htl⟩:=q;subst eC eN;obtain⟨c1,c2,c3,c4,c5,c6,c7,c8,c9,c10,c11⟩:=cdx;dsimp only at hmro hdl hdict;subst hmro hdl hdict
   have hsl1:slx=#[f0,f1,f2,f3,some (.builtin nn),f5]:=by
    obtain⟨lst⟩:=slx;simp only at hsl0;rw[hsl0]
   subst hsl1;exact⟨⟨_,_,_,_,_,_,_,_,_,_,_,_,_,_,_,KI _ _ hlk,W.tail_of_in KI htl⟩⟩
  ·cases q
 ·cases q
noncomputable abbrev cB(C t:Addr)(d:OA):Obj:={ cls:=.ref C,dict:=d,data:=.fields #[.ref t,.none,.none,.none,.bool false,.none] }
noncomputable def aP(a C:Addr)(d:OA):HO:=.ext λ h=>∃t,h.get? a=some (cB C t d)
theorem qe{h:Heap}{a C t:Addr}(e:h.get? a=some (cB C t d)):ObjOk P w H h a (aP a C d):=⟨⟨t,e⟩,⟨_,e⟩,λ _ _ ⟨t2,q⟩ k=>⟨t2,k _ q⟩⟩
noncomputable def cQ(d:Addr)(fs:List (Str × V)):HO:=.ext λ h=>fs.length≤1000/\∃mA,h.Ns1 d mA/\(∀f,RelO (fs.lookup f) (mA f))/\PySem.Within mA (fs.map (·.1))
theorem uT{h:Heap}{fs:List (Str × V)}(z:fs.length≤1000)(e:h.Ns1 d mA)(r:∀f,RelO (fs.lookup f) (mA f))(wi:PySem.Within mA (fs.map (·.1))):ObjOk P w H h d (cQ d fs) :=
 ⟨⟨z,mA,e,r,wi⟩,let ⟨o,_,_,q,_⟩:=e;⟨o,q⟩,λ _ _ ⟨z2,m2,n2,r2,w2⟩ k=>⟨z2,m2,let ⟨o,es,ep,q,c⟩:=n2;⟨o,es,ep,k o q,c⟩,r2,w2⟩⟩
section
variable {prog:Program}{w:World}{A:Around}{E:VS}{h:Heap}{g:Array GenState}{dr:Drawn}{tk:Nat}{os:OsState}{C:Addr}{bmB:LV}{B nid initId:String}
theorem Er{K:FG}{us:LV}{Q:VS}(F:ExcBaseFacts B nid initId bmB)(KI:K.In h)(X:HasX h C bmB nid)(hi:W.findIn K (.ref C) "__init__"=some (some (.ref fI)))(hf:W.typeIn K (.ref fI)=some (.type "function"))
  (hq:wpAny (model prog w) (A.under (.builtin "type.__call__" ⟨.ref C::us,[]⟩)) (call (.ref fI) (.ref (h.objs.size+1)::us)) (λ r s2=>r=.none/\Q (.ref (h.objs.size+1)) s2) E ⟨(h.push { cls:=.type "tuple",data:=.seq us.toArray }).push (cB C h.objs.size none),g,dr,tk,os⟩)
  (hz:us.length≤sizeLine):wpAny (model prog w) A (call (.ref C) us) Q E ⟨h,g,dr,tk,os⟩:=by
 obtain⟨nm,q,N,bs,bm,sn,sub,ab,col,dd,k0,k1,k2,k3,k5,hC,T⟩:=X.ex;have tcl:=tc_lookup;have tcb:=tc_bind (.ref C);have isT:(⟨h,g,dr,tk,os⟩:Shared).TypeIs (.ref C) "type" := ⟨_,hC,rfl⟩;refine gT (lR ?_);show wpAny _ _ (callAny (.ref C) _) _ _ _
 repeat (any_goals (first | assumption | wp_step | with_reducible refine kq hC ?_))
 refine eX rfl (codeAny_call_builtin_at (pc _ (by decide +kernel)) entry_typeCall (wpAny_check_type_call_sub hC ?_))
 repeat (first | wp_step | with_reducible refine wpAny_madeBy_exc hC ?_ | with_reducible refine kq hC ?_)
 refine codeAny_call_builtin_code (pc _ F.quiet) (wpAny_check_new_subT F T hC (codeAny_exc_new_subT F T hC ?_ hz));show wpAny _ _ _ _ _ (⟨(h.push { cls:=.type "tuple",data:=.seq us.toArray }).push (cB C h.objs.size none),g,dr,tk,os⟩:Shared);generalize hh2:(h.push { cls:=.type "tuple",data:=.seq us.toArray }).push (cB C h.objs.size none)=h2 at hq ⊢;have kk:∀b o,h.get? b=some o->h2.get? b=some o:=λ b o e=>by rw[← hh2];exact aE _ (aE _ e)
 have hg2:h2.get? (h.objs.size+1)=some (cB C h.objs.size none):=by rw[← hh2];heap_get
 have hC2:=kk _ _ hC;have cc:(Value.ref C::bm).contains (.ref C)=true:=by simp
 unfold isInstance
 repeat (first | wp_step | with_reducible refine kq hg2 ?_ | (with_reducible refine s0e hC2 ?_;rw[cc]))
 refine(lW (KI.keeps kk) hi).at ?_;refine cu (ae ((W.bind_fn (KI.keeps kk) _ hf).at (ae (bL hq (λ r s2 hr=>?_) λ _ _ z=>z))));obtain⟨rfl,z⟩:=hr;wp_walk;exact z
end
end _L
namespace _L
open PySem PySem.Spec PyProof.Rows Builtin Builtin.ObjectAttr
section
variable {prog:Program}{w:World}{A:Around}{E:VS}{h:Heap}{g:Array GenState}{dr:Drawn}{tk:Nat}{os:OsState}{C x:Addr}{bmB:LV}{B nid initId:String}{K:FG}
theorem Es{us:LV}{Q:VS}(F:ExcBaseFacts B nid initId bmB)(X:HasX h C bmB nid)(hx:h.get? x=some (cB C t d))(hz:us.length≤sizeLine)
  (hq:∀h2:Heap,h2.get? x=some (cB C h.objs.size d)->(∀b o,b≠x->h.get? b=some o->h2.get? b=some o)->Q .none ⟨h2,g,dr,tk,os⟩) :
  wpAny (model prog w) A (call (.builtin initId) (.ref x::us)) Q E ⟨h,g,dr,tk,os⟩:=by
 obtain⟨nm,q,N,bs,bm,sn,sub,ab,col,dd,k0,k1,k2,k3,k5,hC,T⟩:=X.ex;refine gT (kj F.init.plain F.initEntry (wpAny_check_init_subT F T hC hx rfl ?_));wp_walk;refine hq _ ?_ λ b o ne e=>?_
 ·rw[eh _ (aE _ hx) rfl];rfl
 ·rw[cv _ _ (bo ne)];exact aE _ e
noncomputable def ip:LV->Bool
 | .ref _::r=>ip r
 | l=>l == [.type "ValueError",.type "Exception",.type "BaseException",.type "object"]
theorem uU(self:Value):∀ {l:LV},ip l=true->refuseLoop self "__setattr__" l=pure ()
 | [],e=>by cases e
 | .ref c::r,e=>by rw[refuseLoop_ref];exact uU self e
 | .type n::r,e=>by rw[dZ.mp (show(Value.type n::r == _)=true from e)];exact PySem.F.store_ValueError.passes self
 | .int _ _::r,e | .bool _::r,e | .none::r,e | .str _ _::r,e | .builtin _::r,e | .float _ _::r,e | .bytes _ _::r,e=>by cases e
theorem uV:∀ {l:LV},ip l=true->l.contains (.type "object")=true
 | [],e=>by cases e
 | .ref c::r,e=>by rw[qg,uV (l:=r) e,s1f]
 | .type n::r,e=>by rw[dZ.mp (show(Value.type n::r == _)=true from e)];decide +kernel
 | .int _ _::r,e | .bool _::r,e | .none::r,e | .str _ _::r,e | .builtin _::r,e | .float _ _::r,e | .bytes _ _::r,e=>by cases e
theorem uW:∀ {l:LV},ip l=true->l.contains (.type "BaseException")=true
 | [],e=>by cases e
 | .ref c::r,e=>by rw[qg,uW (l:=r) e,s1f]
 | .type n::r,e=>by rw[dZ.mp (show(Value.type n::r == _)=true from e)];decide +kernel
 | .int _ _::r,e | .bool _::r,e | .none::r,e | .str _ _::r,e | .builtin _::r,e | .float _ _::r,e | .bytes _ _::r,e=>by cases e
structure AtX (K:FG)(C:Addr):Prop where
 over:(W.clsIn K C).any (λ cd=>cd.hasDict && ip cd.mro)=true
 sa:W.findIn K (.ref C) "__setattr__"=some (some (.builtin "object.__setattr__"))
 ga:W.findIn K (.ref C) "__getattribute__"=some (some (.builtin "BaseException.__getattribute__"))
theorem AtX.cls(a:AtX K C):∃cd,W.clsIn K C=some cd/\cd.hasDict=true/\ip cd.mro=true:=by
 obtain⟨cd,hc,q⟩:=W.any_some a.over;rw[aX] at q;exact⟨cd,hc,q.1,q.2⟩
theorem qh{vs:Array Value}(hx:h.get? x=some o)(hc:o.cls=.ref C)(hd:o.data=.fields vs)(od:Option Obj)(hod:match o.dict,od with | some dx,some ob=>h.get? dx=some ob | none,none=>True | _,_=>False):W.InstAt h x o C od :=
 ⟨hx,hc,by unfold W.notCls;rw[hd],hod⟩
theorem uX{s:Shared}{R:Result->Shared->Prop}(KI:K.In s.heap)(I:W.InstAt s.heap x ox C od)(a:AtX K C)(ht:W.takerIn K C name=some none)
  (hq:∀b,wpAny (model prog w) A.in1 (storeInOwnDict (.ref x) (.ref C) (.str name tn) name v b) (λ fin s2=>match fin with | .done f=>R (.ok f) s2 | .again c2=>c2.quiet=true/\codeAny (model prog w) A c2 R s2) (λ e s2=>R (.error e) s2) s) :
  codeAny (model prog w) A (.call (.builtin "object.__setattr__") ⟨[.ref x,.str name tn,v],[]⟩) R s:=by
 obtain⟨cd,hc,_,ho⟩:=a.cls;have SO:=PySem.F.store_object
 have nem:cd.mro.isEmpty=false:=by cases q:cd.mro with | nil=>rw[q] at ho;cases ho | cons _ _=>rfl
 have isO:W.Looks (model prog w) s.heap (isInstance (.ref x) (.type "object")) true:=I.type.andThen (W.looks_mroIn KI (by unfold W.mroIn;rw[hc,Option.bind_some,if_neg (by rw[nem];decide),uV ho]));obtain⟨attr,ha,hr⟩:=Option.bind_eq_some_iff.mp ht
 have L3:W.Looks (model prog w) s.heap (storeTaker? attr) none:=by
  cases attr with
  | none=>exact s1m
  | some at_ =>
   obtain⟨b,hb,e⟩:=uY.mp hr
   cases b with
   | true=>cases e
   | false=>exact(W.looks_takesIn KI hb).andThen s1m
 refine kj SO.slot.plain SO.entry (@W.check_slot (model prog w) _ _ s "object.__setattr__" "object" "__setattr__" (.ref x) [.str name tn,v] [] _ SO.kind SO.split isO (SO.args (.ref x) (.str name tn) v) ?_);rw[W.osa_eq,refuse_eq];have mr:W.Looks (model prog w) s.heap (mroOf (.ref C)) cd.mro:=(s0u KI hc).andThen s1m;refine ae (ae (I.type.here (ae (mr.here ?_))));rw[uU _ ho];refine ak (ae (I.type.here (ae ((lW KI ha).here (ae (L3.here (hq _)))))))
theorem Et{v:Value}{Q:Unit->Shared->Prop}(KI:K.In h)(a:AtX K C)(ht:W.takerIn K C name=some none)(hx:h.get? x=some (cB C t none))
  (hq:∀(h2:Heap) (tk2:Nat),h2.get? x=some (cB C t (some h.objs.size))->h2.Ns1 h.objs.size (λ y=>if y=name then some v else none)->(∀b o,b≠x->h.get? b=some o->h2.get? b=some o)->Q () ⟨h2,g,dr,tk2,os⟩) :
  wpAny (model prog w) A (setAttr (.ref x) name v) Q E ⟨h,g,dr,tk,os⟩:=by
 have I:=qh hx rfl rfl none gp;refine W.set_plain KI I a.sa (uX (s:=⟨h,g,dr,tk+1,os⟩) KI I a ht λ b=>?_);obtain⟨cd,hc,hdct,_⟩:=a.cls;have hxs:x≠h.objs.size:=aZ (az hx);refine ae (ak (ae (ae (pd hx (ae (W.Looks.here (s:=⟨h,g,dr,tk+1,os⟩) (s0u KI hc) ?_))))));rw[hdct];have hx1:(h.push { cls:=.type "dict",data:=.dict #[] }).get? x=some (cB C t none):=aE _ hx;refine ae (wpAny_alloc' (ae (wpAny_update' hx1 (ak ?_))));generalize hU:(h.push { cls:=.type "dict",data:=.dict #[] }).update x (λ o=>{ cls:=o.cls,dict:=some h.objs.size,data:=o.data,slots:=o.slots })=U;have gx:U.get? x=some (cB C t (some h.objs.size)):=by rw[← hU];exact eh _ hx1 rfl
 have gd:U.get? h.objs.size=some { cls:=.type "dict",data:=.dict #[] }:=by rw[← hU];exact(s0f _ _ _ _ (bo hxs)).trans (Heap.get?_push_at rfl rfl)
 have go:∀b o,b≠x->h.get? b=some o->U.get? b=some o:=λ b o ne e=>by rw[← hU];exact(s0f _ _ _ _ ne).trans (aE _ e)
 have nd:U.Ns h.objs.size (λ _=>none):=⟨_,#[],_,gd,rfl,λ e he=>absurd he (by simp),λ _=>rfl⟩;show wpAny _ _ (storeInDict h.objs.size _ name v) _ _ _;unfold storeInDict newKeyGuard;refine ae (ak (ae (wpAny_nsSet1 (Heap.Ns1.of_empty nd) λ h2 n2 s2=>?_)));obtain⟨oD,esD,epD,hoD,hdD,hcD⟩:=n2.count (PySem.Within.cons name v PySem.Within.nil);refine ae (wpAny_lookBehind hoD (by rw[hdD];refine pastItsLine_dict (bK hcD ?_);rw[List.length_cons,List.length_nil,fF];lia) ?_);exact ak (hq _ _ ((s2.2 x hxs).trans gx) n2 λ b o ne e=>(s2.2 b (aZ (az e))).trans (go b o ne e))
theorem Eu{v:Value}{Q:Unit->Shared->Prop}(KI:K.In h)(a:AtX K C)(ht:W.takerIn K C name=some none)(hx:h.get? x=some (cB C t (some dx)))(hn:h.Ns1 dx mA)
  (hw:PySem.Within mA ns) (hsz:ns.length < 1000)
  (hq:∀(h2:Heap) (tk2:Nat),h2.Ns1 dx (λ y=>if y=name then some v else mA y)->Heap.SameBut dx h h2->Q () ⟨h2,g,dr,tk2,os⟩) :
  wpAny (model prog w) A (setAttr (.ref x) name v) Q E ⟨h,g,dr,tk,os⟩:=by
 obtain⟨od,es,ep,ho,hrest⟩:=id hn;have I:=qh hx rfl rfl (some od) ho;refine W.set_plain KI I a.sa (uX (s:=⟨h,g,dr,tk+1,os⟩) KI I a ht λ b=>?_);obtain⟨cd,hc,hdct,_⟩:=a.cls;refine ae (ak (ae (ae (pd hx (ae (W.Looks.here (s:=⟨h,g,dr,tk+1,os⟩) (s0u KI hc) ?_))))));rw[hdct];refine ak (a:=some dx) (ae (ak (ae (wpAny_nsSet1 (s:=⟨h,g,dr,tk+1,os⟩) hn λ h2 n2 s2=>?_))));obtain⟨oD,esD,epD,hoD,hdD,hcD⟩:=n2.count (PySem.Within.cons name v hw);refine ae (wpAny_lookBehind hoD (by rw[hdD];refine pastItsLine_dict (bK hcD ?_);rw[List.length_cons,fF];lia) ?_);exact ak (hq _ _ n2 s2)
theorem Ev{vs:Array Value}{Q:VS}(KI:K.In h)(a:AtX K C)(hn:W.findIn K (.ref C) name=some none)(hg2:W.findIn K (.ref C) "__getattr__"=some none)
  (hx:h.get? x=some o) (hc:o.cls=.ref C) (hd:o.data=.fields vs) (hdx:o.dict=some dx) (hns:h.Ns1 dx mA) (hv:mA name=some v) (hh:W.handedIn v=true) (hq:Q v ⟨h,g,dr,tk+1,os⟩) :
  wpAny (model prog w) A (getAttr (.ref x) name expr) Q E ⟨h,g,dr,tk,os⟩:=by
 obtain⟨cd,hcl,hdct,hov⟩:=a.cls;have FB:=PySem.F.excAttr_ValueError;obtain⟨od,ho,hl⟩:=AN hns;have I:=qh hx hc hd (some od) (by rw[hdx];exact ho);have LT:W.Looks (model prog w) h (typeOf (.ref x)) (.ref C):=I.type;have L1:=lW (M:=model prog w) KI a.ga;have L2':=lW (M:=model prog w) KI hg2
 have nem:cd.mro.isEmpty=false:=by cases q:cd.mro with | nil=>rw[q] at hov;cases hov | cons _ _=>rfl
 have isB:W.Looks (model prog w) h (isInstance (.ref x) (.type "BaseException")) true:=LT.andThen (W.looks_mroIn KI (by unfold W.mroIn;rw[hcl,Option.bind_some,if_neg (by rw[nem];decide),uW hov]));have LF:W.Looks (model prog w) h (find (.ref x) (.ref C) name) (.value v):=W.looks_find KI I (W.findObj_own (by unfold W.hasDictIn;rw[hcl];exact hdct) hn rfl (by rw[hl,hv]));have f3:=FB.ga.bind (.ref x);have hx0:(expr && onTheHeap (Value.builtin "BaseException.__getattribute__"))=false:=by cases expr<;>rfl
 have hx2:(Value.builtin "BaseException.__getattribute__" == Value.builtin "object.__getattribute__")=false:=by decide +kernel
 have hx1:(onTheHeap (Value.ref C) && Value.builtin "BaseException.__getattribute__" == Value.builtin "object.__getattribute__")=false:=by rw[hx2];rfl
 unfold getAttr getAttrBy;refine ae (wpAny_mkText (cu (ae (LT.at (ae (L1.at ?_))))));dsimp only;rw[hx1,if_neg (by decide)];have LH:W.Looks (model prog w) h (hookBefore (.ref C)) none:=W.looks_hook KI hg2;refine ae (LH.at (ae (gZ (cu ?_))));unfold callGetattribute;rw[hx0,if_neg (by decide)];unfold boundAndCalled;rw[f3];refine ae (ak ?_);show wpAny _ _ (call (.builtin "BaseException.__getattribute__") [.ref x,.str name tk]) _ _ _;refine gT (kj FB.ga.plain PySem.F.entry_bexc_ga (@W.check_slot (model prog w) _ _ ⟨h,g,dr,tk+1,os⟩ "BaseException.__getattribute__" "BaseException" "__getattribute__" (.ref x) [.str name tk] [] _ (by decide +kernel) (by decide +kernel) isB (PySem.F.args_bexc_ga _ _) ?_));unfold Builtin.«object.__getattribute__»;refine ae (ak (ae (ak (ae (LT.at (ae (LF.at ?_)))))));refine ak ?_;show wpAny _ _ (handedOut v) _ _ _;rw[W.handedOut_of hh];exact ak hq
end
def rm(H:Hp)(a:Addr):Hp:=λ b=>if b=a then none else H b
theorem gq{a b:Addr}(h:b≠a):rm H a b=H b:=by unfold rm;rw[if_neg h]
theorem uZ:rm H a a=none:=by unfold rm;rw[if_pos rfl]
noncomputable def CX2(P:Program)(w:World):CXT:=λ outer H s E e s' =>
 ∃(a C dx:Addr) (H':Hp) (B:Heap),e=.ref a/\s'.os=s.os/\AllBare s'.gens/\FlyD B outer a (.ref C) dx .none s'.heap /\
  (∀b o,s.heap.get? b=some o->H b=none->b ∉ frs outer->B.get? b=some o)/\(∀b o,s.heap.get? b=some o->b ∉ frs outer->∃o',B.get? b=some o') /\
  Un (frs outer) [] H H' s.heap s'.heap/\HOk P w H' B/\E (.ref C) (some dx) H'
section
variable {P:Program}{w:World}{K:FG}{mg:SV}{base:Heap}{N:List Str}{qual:Str}{scope:Scope}{f:Addr}{cd:Value}{A:Around}{outer:List Env}{s:Shared}{H:Hp}{E:XK}
theorem Ew{l:List Addr}(ok:HOk P w H h)(ha:H a=some (aP a C d))(hl:∀b∈l,H b=none):HOk P w (rm H a) (W.hideAll h (a::l)):=λ b u e=>by
 have ne:b≠a:=λ z=>by rw[z,uZ] at e;cases e
 rw[gq ne] at e
 have nb:∀c v,H c=some v->c≠a->c ∉ a::l:=λ c v q nc z=>by
  rcases av.mp z with z | z
  ·exact nc z
  ·rw[hl c z] at q;cases q
 have nx:∀c v,H c=some v->v≠aP a C d->c≠a:=λ c v q nv z=>by rw[z,ha] at q;cases q;exact nv rfl
 refine(ok b u e).stay (λ c v hc q=>gP _ q ?_) (λ c q=>?_) λ c xs q=>?_
 ·rcases hc with z | z
  ·rw[z];exact nb b u e ne
  ·exact nb c _ z (nx c _ z (by unfold aP;intro z;cases z))
 ·rw[gq (nx c _ q (by unfold aP;intro z;cases z))];exact q
 ·rw[gq (nx c _ q (by unfold aP;intro z;cases z))];exact q
theorem Ey:iW (CX2 P w) (bN (CX2 P w) P w K mg base N qual scope f cd A outer s H E) E:=by
 intro pins σ H1 s1 e s' I hx;obtain⟨a,C,dx,H',B,rfl,os,bare,fl,inB,thB,un,okB,hE⟩:=hx;have hfr:(bN (CX2 P w) P w K mg base N qual scope f cd A outer s H E).A.frames=some (envOfC qual scope s.heap.objs.size f cd::outer):=I.ok.frames;refine Eo hfr rfl fl λ h'' fl'' up''=>?_;have Bs:∀b o,B.get? b=some o->h''.get? b=some o:=fl''.1;have ub:Un (frs outer) [] H H1 s.heap s1.heap:=I.base
 have stk:∀b,b ∉ frs outer->b < s.heap.objs.size->b ∉ frs (envOfC qual scope s.heap.objs.size f cd::outer):=λ b hb hlt z=>by
  rcases av.mp (I.stkSub b z) with q | q
  ·have q:b=s.heap.objs.size:=q;exact ce _ (q ▸ hlt)
  ·exact hb q
 have inB':∀b o,s.heap.get? b=some o->H b=none->b ∉ frs outer->B.get? b=some o:=λ b o e n hb =>
  inB b o (ub.keep b o e n hb (by simp)) (ub.free b o e n (by simp)) (stk b hb (az e))
 have thB':∀b o,s.heap.get? b=some o->b ∉ frs outer->∃o',B.get? b=some o':=λ b o e hb=>by
  obtain⟨o1,e1⟩:=ub.there b o e (by simp);exact thB b o1 e1 (stk b hb (az e))
 have sub:∀b,b∈frs outer->b∈frs (envOfC qual scope s.heap.objs.size f cd::outer):=λ b hb=>bU _ hb
 have slot:∀b o,s.heap.get? b=some o->H b=none->b∈frs outer->∃sl,h''.get? b=some { o with slots:=sl }:=λ b o e n hb=>by
  obtain⟨sl1,e1⟩:=ub.slot b o e n hb (by simp);obtain⟨sl2,e2⟩:=un.slot b _ e1 (ub.free b o e n (by simp)) (sub b hb) (by simp);obtain⟨_,o3,e3,nf⟩:=I.ok.funs.mem hb;have e3:s.heap.get? b=some o3:=e3;rw[e] at e3;cases e3;obtain⟨sl3,e4⟩:=up'' b _ e2 nf;exact⟨sl3,e4⟩
 have frf:∀b∈frs outer,H b=none:=I.ok.frf
 refine⟨a,C,dx,H',B,rfl,os.trans I.os,bare,fl'',inB',thB',⟨λ b o e n hb _=>Bs _ _ (inB' b o e n hb),λ b o e n hb _=>slot b o e n hb,λ b o e n _=>?_,λ b o e _=>?_,
  λ b xs e=>un.tups b xs (ub.tups b xs e),λ b o u e=>un.frzs b o u (ub.frzs b o u e),λ b ps e=>?_⟩,okB,hE⟩
 ·obtain⟨o1,e1⟩:=ub.there b o e (by simp);exact un.free b o1 e1 (ub.free b o e n (by simp)) (by simp)
 ·by_cases hb:b∈frs outer
  ·obtain⟨sl,q⟩:=slot b o e (frf b hb) hb;exact⟨_,q⟩
  ·obtain⟨o',q⟩:=thB' b o e hb;exact⟨o',Bs _ _ q⟩
 ·obtain⟨m1,q1⟩:=ub.tbls b ps e;obtain⟨m2,q2⟩:=un.tbls b _ q1;exact⟨m1++m2,by rw[q2,nJ]⟩
noncomputable def qi(X:Cx)(Ex:XK):Prop:=∀(pins:LO) (σ:St) (H:Hp) (s:Shared) (a C dx:Addr),Inv X pins σ H s->H a=some (aP a C (some dx))->X.s₀.heap.objs.size≤a->Ex (.ref C) (some dx) (rm H a)->X.xe (.ref a) s
theorem Ez:qi (bN (CX2 P w) P w K mg base N qual scope f cd A outer s H E) E:=by
 intro pins σ H1 s1 a C dx I ha hnew hE;have hnew:s.heap.objs.size≤a:=hnew;have hfr:(bN (CX2 P w) P w K mg base N qual scope f cd A outer s H E).A.frames=some (envOfC qual scope s.heap.objs.size f cd::outer):=I.ok.frames;have st:s1.heap.FunFrames base (envOfC qual scope s.heap.objs.size f cd::outer):=I.stack;obtain⟨⟨t,hrec⟩,_⟩:=(show ObjOk P w H1 s1.heap a (aP a C (some dx)) from I.hok a _ ha);generalize hB:W.hideAll s1.heap (a::frs (envOfC qual scope s.heap.objs.size f cd::outer))=B
 have f0:pZ B (envOfC qual scope s.heap.objs.size f cd::outer) a (.ref C) dx s1.heap:=by
  rw[← hB];exact⟨λ b o q=>s1b _ q,W.hideAll_none _ (.head _),W.funFrames_hide st (λ env he b hb=>bU _ (uu env he b hb)),_,_,hrec,⟨rfl,rfl⟩,rfl,rfl⟩
 refine Ep hfr rfl f0 λ h'' fl'' up''=>?_;have ub:Un (frs outer) [] H H1 s.heap s1.heap:=I.base;have Bs:=fl''.1;have na:∀b o,s.heap.get? b=some o->b≠a:=λ b o e z=>ce _ (bO (az (z ▸ e)) hnew)
 have stk:∀b,b ∉ frs outer->b < s.heap.objs.size->b ∉ a::frs (envOfC qual scope s.heap.objs.size f cd::outer):=λ b hb hlt z=>by
  rcases av.mp z with q | q
  ·rw[q] at hlt;exact ce _ (bO hlt hnew)
  ·rcases av.mp (I.stkSub b q) with q | q
   ·have q:b=s.heap.objs.size:=q;exact ce _ (q ▸ hlt)
   ·exact hb q
 have inB':∀b o,s.heap.get? b=some o->H b=none->b ∉ frs outer->B.get? b=some o:=λ b o e n hb=>by
  rw[← hB];exact gP _ (ub.keep b o e n hb (by simp)) (stk b hb (az e))
 have thB':∀b o,s.heap.get? b=some o->b ∉ frs outer->∃o',B.get? b=some o':=λ b o e hb=>by
  obtain⟨o1,e1⟩:=ub.there b o e (by simp);exact⟨o1,by rw[← hB];exact gP _ e1 (stk b hb (az e))⟩
 have slot:∀b o,s.heap.get? b=some o->H b=none->b∈frs outer->∃sl,h''.get? b=some { o with slots:=sl }:=λ b o e n hb=>by
  obtain⟨sl1,e1⟩:=ub.slot b o e n hb (by simp);obtain⟨_,o3,e3,nf⟩:=I.ok.funs.mem hb;have e3:s.heap.get? b=some o3:=e3;rw[e] at e3;cases e3;obtain⟨sl3,e4⟩:=up'' b _ e1 nf;exact⟨sl3,e4⟩
 have frf:∀b∈frs outer,H b=none:=I.ok.frf
 have nx:∀c v,H1 c=some v->v≠aP a C (some dx)->rm H1 a c=some v:=λ c v q nv=>by
  rw[gq (λ z=>by rw[z,ha] at q;cases q;exact nv rfl)];exact q
 refine⟨a,C,dx,rm H1 a,B,rfl,I.os,I.bare,fl'',inB',thB',⟨λ b o e n hb _=>Bs _ _ (inB' b o e n hb),λ b o e n hb _=>slot b o e n hb,λ b o e n _=>?_,λ b o e _=>?_,
  λ b xs e=>nx b _ (ub.tups b xs e) (by unfold aP;intro z;cases z),λ b o u e=>nx b _ (ub.frzs b o u e) (by unfold aP;intro z;cases z),λ b ps e=>?_⟩,by rw[← hB];exact Ew I.hok ha I.stkFree,hE⟩
 ·rw[gq (na b o e)];exact ub.free b o e n (by simp)
 ·by_cases hb:b∈frs outer
  ·obtain⟨sl,q⟩:=slot b o e (frf b hb) hb;exact⟨_,q⟩
  ·obtain⟨o',q⟩:=thB' b o e hb;exact⟨o',Bs _ _ q⟩
 ·obtain⟨more,q⟩:=ub.tbls b ps e;exact⟨more,nx b _ q (by unfold aP;intro z;cases z)⟩
theorem Fun.okX2{st:Stmt}{sp:Sp}(F:Fun K x qual st f fd)(S:FnScope N ps (aD st))(len:∀vs H Q E,sp vs H Q E->vs.length=ps.length)
  (hbody:∀(cdv:Value) (A:Around) (outer:List Env) (s:Shared) (H:Hp) (vs:List V) (Q:VK) (E:XK),Room k (A.deeper (envOfC qual (aD st) s.heap.objs.size f cdv))->sp vs H Q E ->
   ∃t,PSs (bN (CX2 P w) P w K mg base N qual (aD st) f cdv A outer s H E) (bu st) t/\t { nx:=λ _ H'=>Q .non H',rt:=Q } (cI N vs) H):FnOk P w K mg base (CX2 P w) (k+1) f fd ps sp:=by
 obtain⟨oc,od,kV,doc,pm,an,cdv,ct,osl,rfl,lk,hcd⟩:=F.ex;exact oz lk hcd S len λ A outer s H vs Q E hr hsp=>hbody cdv A outer s H vs Q E hr hsp
end
section
variable {M:Model}{A:Around}{E:VS}{env:Env}{C:Addr}{bmB:LV}{nid:String}
theorem EA(hb:bmB.contains (.type "BaseException")=true)(hh:A.handled=none)
  (q:wpAny M A v (λ u s1=>∃e t d,u=.ref e/\HasX s1.heap C bmB nid/\s1.heap.get? e=some (cB C t d)/\E (.ref e) s1) E s):wpAny M A (raiseStmt env (some v) none) Q E s:=by
 unfold raiseStmt;refine ae (bL q (λ u s1 z=>?_) λ _ _ z=>z);obtain⟨e,t,d,rfl,X,he,hE⟩:=z;obtain⟨nm,qn,N,bs,bm,sn,sub,ab,col,dd,k0,k1,k2,k3,k5,hC,T⟩:=X.ex;obtain⟨hp,g,dr,tk,os⟩:=s1;have isB:(Value.ref C::bm).contains (.type "BaseException")=true:=by rw[qg,T.hasType hb,s1f]
 repeat (first | with_reducible refine kq he ?_ | (with_reducible refine s0e hC ?_;rw[isB]) | with_reducible refine kq hC ?_ | wp_step)
 exact wpAny_raiseNew_none hh hE
end
structure MkX (K:FG)(C f:Addr)(bmB:LV)(nid:String):Prop where
 cls:im K C bmB nid=true
 init:W.findIn K (.ref C) "__init__"=some (some (.ref f))
 fn:W.isFn K (.ref f)=true
 kp:W.keepIn K (.ref C)=true
noncomputable def EB(C:Addr)(sp:Sp)(Ex:XK)(t:TA):TS:=λ _ σ H=>t σ H λ vs H1=>vs.length≤sizeLine/\∀a,H1 a=none ->
 sp (.ref a::vs) (upd H1 a (aP a C none)) (λ v H2=>v=.non/\∃dx,H2 a=some (aP a C (some dx))/\Ex (.ref C) (some dx) (rm H2 a)) E0
theorem EC{X:Cx}{e₀:Expr}{es:List Expr}
  (FB:ExcBaseFacts B nid initId bm) (hc:X.calm=true) (hg:Gl X x) (hm:X.mg x=some (.ref C)) (M:MkX X.K C f bm nid) (F:FnOk X.prog X.w X.K X.mg X.base CX0 k f fd ps sp) (hr:Room (k+1) X.A) (hbi:Binds X.K fd ps []) (hx:qi X Ex) (ha:PA X (e₀::es) t)
  (hdb:autoParam ((x == ("__debug__" : Str))=false) Z1_) (he:autoParam (starEach (e₀::es) X.env=(false,eval e₀ X.env)::starEach es X.env) Z3_) (hpl:autoParam ((backTo cpos (starEach es X.env)).any (·.1)=false) Z3_) :
  PS X (.Raise (some (.Call (.Name x np) (e₀::es) [] cpos)) none pos) (EB C sp Ex t):=by
 intro pins s σ H D I h;rw[arm_exec_Raise];show wpAny (model X.prog X.w) X.A (do standAt pos;raiseStmt X.env (some (do let v ← eval (.Call (.Name x np) (e₀::es) [] cpos) X.env;standAt pos;pure v)) none) _ _ s;refine ae (fE (EA (C:=C) (bmB:=bm) (nid:=nid) FB.hasBase (I.ok.hd hc) (ae ?_)));refine iX (dY I hg hm ?_ hdb);refine s1c (h₀:=X.base) I.ok.mod.kin M.kp (thn (ha cpos pins s σ H _ I h) λ us s1 ⟨vs,H1,I1,r,hz,q⟩=>⟨I1.kIn,?_⟩) he hpl;have hzu:us.length≤sizeLine:=by rw[← r.length];exact hz
 obtain⟨hp,g,dr,tk,os⟩:=s1;have hX:=lV I1.kIn M.cls;have hq:=q (hp.objs.size+1) (I1.hok.fresh (s0b _));show wpAny _ _ (call (.ref C) us) _ _ _;refine Er FB I1.kIn hX M.init (dZ.mp M.fn) ?_ hzu;have gx:((hp.push { cls:=.type "tuple",data:=.seq us.toArray }).push (cB C hp.objs.size none)).get? (hp.objs.size+1)=some (cB C hp.objs.size none):=by heap_get
 generalize hh2:(hp.push { cls:=.type "tuple",data:=.seq us.toArray }).push (cB C hp.objs.size none)=h2 at gx ⊢;have kk:∀b o,hp.get? b=some o->h2.get? b=some o:=λ b o e=>by rw[← hh2];exact aE _ (aE _ e)
 have I2:Inv X pins σ (upd H1 (hp.objs.size+1) (aP (hp.objs.size+1) C none)) ⟨h2,g,dr,tk,os⟩:=I1.laid (t':=tk) kk (s0b _) (qe gx);have r2:Vals (V.ref (hp.objs.size+1)::vs) (Value.ref (hp.objs.size+1)::us):=.cons rfl r
 have hl:(Value.ref (hp.objs.size+1)::us++[]).length=ps.length:=by
  have e:=r2.length;rw[F.len _ _ _ _ hq] at e;simpa using e.symm
 have hl2:=hbi ⟨h2,g,dr,tk,os⟩ (Value.ref (hp.objs.size+1)::us) I2.kIn hl;rw[fZ] at hl2;refine gT (jS (F.run _ X.stack _ _ ⟨Value.ref (hp.objs.size+1)::us,[]⟩ (Value.ref (hp.objs.size+1)::us) _ _ E0 (hr.make C us []) (I2.env0.make C us []) hl2 r2 hq) λ r s' hq'=>?_)
 cases r with
 | error e=>exact False.elim hq'
 | ok fl =>
  cases fl with
  | ret u =>
   obtain⟨v,H',I3,rv,ev,dx,ha3,q3⟩:=I2.after hq';subst ev;refine⟨rv,ae (fE (ak ?_))⟩;obtain⟨⟨t3,hr3⟩,_⟩:=(show ObjOk X.prog X.w H' s'.heap (hp.objs.size+1) (aP (hp.objs.size+1) C (some dx)) from I3.hok _ _ ha3);exact⟨_,t3,some dx,rfl,lV I3.kIn M.cls,hr3,hx pins σ H' s' _ C dx I3 ha3 (bK I1.sz (s0b _)) q3⟩
  | next=>exact False.elim hq'
  | brk=>exact False.elim hq'
  | cont=>exact False.elim hq'
end _L
namespace _L
open PySem PySem.Spec PyProof.Rows PySem.W
noncomputable def eY(a C d:Addr):HO:=.ext λ h=>∃o vs,h.get? a=some o/\o.cls=.ref C/\o.data=.fields vs/\o.dict=some d
theorem ED{H:Hp}(h:H a=some o):upd H a o=H:=by
 funext b;by_cases e:b=a
 ·rw[e,bz,h]
 ·rw[ay e]
section
variable {X:Cx}{o e value:Expr}{f:Str}{pos pos' tpos:Pos}{ta tv:TE}
noncomputable def EG(K:FG)(bm:LV)(nid:String)(t:TA):TE:=λ σ H Q=>t σ H λ vs H1=>∃a C d ws,vs=.ref a::ws/\H1 a=some (aP a C d)/\im K C bm nid=true/\ws.length≤sizeLine/\Q .non H1
set_option tactic.hygienic true in
theorem EH{np apos:Pos}{e₀:Expr}{es:List Expr}{pl:Sem Bool}(FB:ExcBaseFacts B nid initId bm)(hg:Gl X x)(hm:X.mg x=some (.ref C0))
  (h1:W.specialIn X.K (.ref C0) "__getattribute__"=some (some (.builtin "type.__getattribute__"))) (h2:W.readsIn X.K C0 (.type "type")=true) (h3:W.findCls X.K (.ref C0) (.type "type") "__init__"=some (.val (.builtin initId)))
  (h4:W.handedIn (.builtin initId)=true) (ha:PA X (e₀::es) t)
  (hb:eval (.Call (.Attribute (.Name x np) "__init__" apos) (e₀::es) [] pos) X.env=(do
   let ov ← eval (.Name x np) X.env
   standAt apos.atName
   let (f,first) ← holding [ov] (getMethod ov "__init__" pl)
   callWith pos f first (backTo pos (starEach (e₀::es) X.env)) (backToKw pos (keywordEach [] X.env))):=by rfl)
  (hdb:autoParam ((x == ("__debug__" : Str))=false) Z1_) (he:autoParam (starEach (e₀::es) X.env=(false,eval e₀ X.env)::starEach es X.env) Z3_) (hpl:autoParam ((backTo pos (starEach es X.env)).any (·.1)=false) Z3_) :
  PE X (.Call (.Attribute (.Name x np) "__init__" apos) (e₀::es) [] pos) (EG X.K bm nid t):=by
 intro pins s σ H Q I h;refine W.methodCall_KW (pl:=pl) (dY I hg hm ?_ hdb) hb;refine W.method_cls I.kIn h1 (W.cls_value I.kIn h2 h3 h4 ?_);have hA:=ha pos pins { s with toks:=s.toks+1 } σ H _ (I.tok _) h;rw[he] at hA ⊢;refine W.callWith_of (P:=λ _=>True) (by show((false || (backTo pos (starEach es X.env)).any (·.1)) || false)=false;rw[hpl];rfl) (λ _ _=>⟨.machine,.inr (.inl rfl),W.Looks.of_pure rfl⟩) (oM (thn hA λ us s1 ⟨vs,H1,I1,r,a,C,d,ws,ev,hH,hc,hz,q⟩=>⟨trivial,?_⟩));subst ev
 cases r with
 | cons r0 r =>
  rename_i u us' hAP;obtain rfl:u=Value.ref a:=r0;obtain⟨hp,g,dr,tk,os⟩:=s1;obtain⟨⟨t0,hrec⟩,_⟩:=(show ObjOk X.prog X.w H1 hp a (aP a C d) from I1.hok a _ hH);refine Es FB (lV I1.kIn hc) hrec (by rw[← r.length];exact hz) λ h2 hx2 kk=>⟨.non,H1,?_,rfl,q⟩;have J:=I1.write (x:=a) (e:=a) (o:=aP a C d) (h':=h2) (t':=tk) (by rw[hH];exact gp) (.inl rfl) kk ⟨_,hx2⟩ (qe hx2);rw[ED hH] at J;exact J
noncomputable def EI(K:FG)(ta tv:TE)(f:Str):TS:=λ D σ H=>tv σ H λ y H1=>ta σ H1 λ x H2=>∃a C,x=.ref a/\H2 a=some (aP a C none)/\AtX K C/\NoAttr K C f /\
 ∀dx,H2 dx=none->dx≠a->D.nx σ (upd (upd H2 dx (cQ dx [(f,y)])) a (aP a C (some dx)))
theorem EJ(ha:PE X o ta)(hv:PE X value tv)(hs:swapsWith value (some (.Attribute o f pos')) pos.line X.env=pure false):PS X (.Assign [.Attribute o f pos'] value pos) (EI X.K ta tv f):=by
 intro pins s σ H D I h;refine vc (thn (hv pins s σ H _ I h) λ u s1 ⟨y,H1,I1,ry,q⟩=>thn (ha pins s1 σ H1 _ I1 q) λ ov s2 ⟨x,H2,I2,rx,a,C,ex,ea,c,n,q2⟩=>?_) hs;subst ex;obtain rfl:ov=Value.ref a:=rx;obtain⟨hp,g,dr,tk,os⟩:=s2;obtain⟨⟨t0,hrec⟩,_⟩:=(show ObjOk X.prog X.w H2 hp a (aP a C none) from I2.hok a _ ea);refine Et I2.kIn c n.taker hrec λ h2 tk2 hx2 hn2 kk=>⟨σ,_,?_,q2 hp.objs.size (I2.hok.fresh (au _)) (jL (az hrec))⟩;have Hd:H2 hp.objs.size=none:=I2.hok.fresh (au _);have nda:hp.objs.size≠a:=jL (az hrec);have nA:∀b v,H2 b=some v->v≠aP a C none->b≠a:=λ b v e nv z=>by rw[z,ea] at e;cases e;exact nv rfl
 have nA0:∀b,H2 b=none->b≠a:=λ b e z=>by rw[z,ea] at e;cases e
 have nD:∀b v,H2 b=some v->b≠hp.objs.size:=λ b v e z=>by rw[z,Hd] at e;cases e
 have nS:∀b ob,hp.get? b=some ob->b≠hp.objs.size:=λ b ob e=>aZ (az e)
 have keepT:∀b v,H2 b=some v->v≠aP a C none->upd (upd H2 hp.objs.size (cQ hp.objs.size [(f,y)])) a (aP a C (some hp.objs.size)) b=some v:=λ b v e nv=>by
  rw[ay (nA b v e nv),ay (nD b v e)];exact e
 refine I2.un (h':=h2) (t':=tk2) ⟨λ b ob e n' _ _=>kk b ob (nA0 b n') e,λ b ob e n' _ _=>⟨ob.slots,kk b ob (nA0 b n') e⟩,λ b ob e n' _=>?_,λ b ob e _=>?_,λ b xs e=>keepT b _ e (by unfold aP;intro z;cases z),λ b ob v e=>keepT b _ e (by unfold aP;intro z;cases z),λ b ps e=>⟨#[],?_⟩⟩ λ b v e=>?_
 ·rw[ay (nA0 b n'),ay (nS b ob e)];exact n'
 ·by_cases hb:b=a
  ·exact⟨_,hb ▸ hx2⟩
  ·exact⟨ob,kk b ob hb e⟩
 ·rw[keepT b _ e (by unfold aP;intro z;cases z)];simp
 ·by_cases hb:b=a
  ·subst hb;rw[bz] at e;cases e;exact qe hx2
  ·rw[ay hb] at e;by_cases hd:b=hp.objs.size
   ·subst hd;rw[bz] at e;cases e;refine uT (by simp) hn2 (λ g2=>?_) λ g2 hg2=>?_
    ·by_cases z:g2=f
     ·subst z;simp only[List.lookup_cons_self,dJ];exact ry
     ·have z2:(g2 == f)=false:=by simpa using z
      rw[gk,z2,if_neg z];exact gp
    ·by_cases z:g2=f
     ·simp[z]
     ·exact absurd (if_neg z) hg2
   ·rw[ay hd] at e;refine(I2.hok b v e).stay (λ c2 w hc q=>kk c2 w ?_ q) (λ c2 q=>keepT c2 _ q (by unfold aP;intro z;cases z)) λ c2 xs q=>keepT c2 _ q (by unfold aP;intro z;cases z)
    rcases hc with z | z
    ·rw[z];exact hb
    ·exact nA c2 _ z (by unfold aP;intro z;cases z)
noncomputable def EK(K:FG)(ta tv:TE)(f:Str):TS:=λ D σ H=>tv σ H λ y H1=>ta σ H1 λ x H2=>∃a C dx fs,x=.ref a/\H2 a=some (aP a C (some dx))/\H2 dx=some (cQ dx fs)/\AtX K C/\NoAttr K C f/\fs.length < 1000 /\
 D.nx σ (upd H2 dx (cQ dx (cX f y fs)))
theorem EL(ha:PE X o ta)(hv:PE X value tv)(hs:swapsWith value (some (.Attribute o f pos')) pos.line X.env=pure false):PS X (.Assign [.Attribute o f pos'] value pos) (EK X.K ta tv f):=by
 intro pins s σ H D I h;refine vc (thn (hv pins s σ H _ I h) λ u s1 ⟨y,H1,I1,ry,q⟩=>thn (ha pins s1 σ H1 _ I1 q) λ ov s2 ⟨x,H2,I2,rx,a,C,dx,fs,ex,ea,ed,c,n,hl,q2⟩=>?_) hs;subst ex;obtain rfl:ov=Value.ref a:=rx;obtain⟨hp,g,dr,tk,os⟩:=s2;obtain⟨⟨t0,hrec⟩,_⟩:=(show ObjOk X.prog X.w H2 hp a (aP a C (some dx)) from I2.hok a _ ea);obtain⟨⟨_,mA,hn,rr,wi⟩,_⟩:=(show ObjOk X.prog X.w H2 hp dx (cQ dx fs) from I2.hok dx _ ed);refine Eu I2.kIn c n.taker hrec hn wi (by simpa using hl) λ h2 tk2 n2 s2=>⟨σ,_,?_,q2⟩;refine I2.write (x:=dx) (e:=dx) (h':=h2) (t':=tk2) (by rw[ed];exact gp) (.inl rfl) (λ b ob ne e=>(s2.2 b ne).trans e) (let ⟨o2,_,_,e2,_⟩:=n2;⟨o2,e2⟩) ?_;refine uT (by have:=tJ f y fs;lia) n2 (λ g2=>?_) λ g2 hg2=>?_
 ·rw[tH];by_cases z:g2=f
  ·rw[if_pos z,if_pos z];exact ry
  ·rw[if_neg z,if_neg z];exact rr g2
 ·by_cases z:g2=f
  ·rw[z];exact(oh f y fs).1
  ·refine(oh f y fs).2 g2 (wi g2 λ zz=>hg2 ?_);show(if g2=f then some u else mA g2)=none;rw[if_neg z];exact zz
noncomputable def qj(K:FG)(ta:TE)(f:Str):TE:=λ σ H Q=>ta σ H λ x H1=>∃a C d fs v,x=.ref a/\H1 a=some (eY a C d)/\H1 d=some (cQ d fs)/\AtX K C/\NoAttr K C f/\NoAttr K C "__getattr__" /\ fs.lookup f=some v/\Q v H1
theorem EM(he:PE X e ta)(hb:attributeBase e f X.env (eval e X.env)=eval e X.env):PE X (.Attribute e f pos) (qj X.K ta f):=by
 intro pins s σ H Q I h;refine AQ hb (thn (he pins s σ H _ I h) λ u s1 ⟨x,H1,I1,rx,a,C,d,fs,v,ex,ea,ed,c,n,n2,l,q⟩=>?_);subst ex;obtain rfl:u=Value.ref a:=rx;obtain⟨hp,g,dr,tk,os⟩:=s1;obtain⟨⟨o1,vs1,ho,hcl,hdt,hdi⟩,_⟩:=(show ObjOk X.prog X.w H1 hp a (eY a C d) from I1.hok a _ ea);obtain⟨⟨_,mA,hn,rr,_⟩,_⟩:=(show ObjOk X.prog X.w H1 hp d (cQ d fs) from I1.hok d _ ed);obtain⟨w',hw,rw'⟩:=RelO.some_of (v:=v) (o:=mA f) (by rw[← l];exact rr f);exact Ev I1.kIn c n n2 ho hcl hdt hdi hn hw (AO rw') ⟨v,H1,I1.tok _,rw',q⟩
end
noncomputable def vd(C:Addr)(i:Nat)(ts:TS)(D:Ends):St->XK:=λ σ1 cls d H1=>cls=.ref C/\∃dx,d=some dx/\∀a,H1 a=none->ts (Cj D i) (σ1.set i (some (.ref a))) (upd H1 a (eY a C dx))
noncomputable def EN(C:Addr)(i:Nat)(tb:(St->XK)->TS)(ts:TS):TS:=λ D σ H=>tb (vd C i ts D) D σ H
theorem EO{X:Cx}{body suite:List Stmt}{b₀:Stmt}{i:Nat}{tb:(St->XK)->TS}
  (hstk:X.stack=X.env::X.outer/\X.env.frame=some X.env.locals) (hex:X.ex=[]) (hN:X.N.Nodup) (hi:X.N[i]?=some n) (hk:X.env.scope.names.lookup n=some .local)
  (hg:Gl X x) (hm:X.mg x=some (.ref C)) (hq:im X.K C bm newId=true) (hbm:bm.contains (.type "BaseException")=true)
  (hb:∀(xe:VS) (pn:LO) (EE:St->XK),(∀σ,gY (CX2 X.prog X.w) (X.more xe pn) (EE σ) σ)->PSs (X.more xe pn) body (tb EE))
  (hs:∀(a:Addr) (pn:LO),PSs (X.suite a pn) (b₀::suite) ts) (hd:autoParam ((x == ("__debug__" : Str))=false) Z1_) :
  PS X (.Try body [.ExceptHandler (some (.Name x np)) (some n) (b₀::suite) hpos] [] [] pos) (EN C i tb ts):=by
 intro pins s σ H D I h;refine pO ?_;generalize hXE:(λ e s₁=>wpAny (model X.prog X.w) X.A (noteFrame e X.env) (λ _ s₂=>wpAny (model X.prog X.w) X.A (setFlight e none) (λ _ s₃=>wpAny (model X.prog X.w) X.A (handleBy e X.env [.ExceptHandler (some (.Name x np)) (some n) (b₀::suite) hpos]) (SP X pins D) X.xe s₃) X.xe s₂) X.xe s₁:VS)=XE;have toY:∀ {σ':St}{H':Hp}{s':Shared},Inv X pins σ' H' s'->Inv (X.more XE (X.pn++pins)) [] σ' H' s':=λ J=>⟨J.ok.more _ _,J.os,J.bare,J.base,J.loc,J.cell,J.free,J.freeC,λ p hp=>J.pin p (by simpa using hp),J.hok,J.len⟩;have ofY:∀ {σ':St}{H':Hp}{s':Shared}{pp:LO},Inv (X.more XE (X.pn++pins)) pp σ' H' s'->Inv X pins σ' H' s':=λ J=>⟨I.ok,J.os,J.bare,J.base,J.loc,J.cell,J.free,J.freeC,λ p hp=>J.pin p (dW _ hp),J.hok,J.len⟩;have body_ok:=hb XE (X.pn++pins) (vd C i ts D) ?_ [] s σ H D (toY I) h
 ·refine thn body_ok λ fl s' q=>?_
  cases fl with
  | next=>obtain⟨σ',H',J,z⟩:=q;exact iQ ⟨σ',H',ofY J,z⟩
  | brk=>obtain⟨σ',H',J,z⟩:=q;exact⟨σ',H',ofY J,z⟩
  | cont=>obtain⟨σ',H',J,z⟩:=q;exact⟨σ',H',ofY J,z⟩
  | ret u=>obtain⟨v,σ',H',J,r,z⟩:=q;exact⟨v,σ',H',ofY J,r,z⟩
 intro σ1 pins1 H1 s1 e s' I1 hx;obtain⟨a,C',dx,H',B,rfl,os,bare,fl,inB,thB,un,okB,hC',d2,ed2,hsuite⟩:=hx;cases ed2;obtain rfl:C'=C:=Value.ref.inj hC';subst hXE
 have fl:FlyD B (X.env::X.outer) a (.ref C') dx .none s'.heap:=by
  have z:FlyD B X.stack a (.ref C') dx .none s'.heap:=fl;rw[hstk.1] at z;exact z
 have hfr:X.A.frames=some (X.env::X.outer):=by rw[I.ok.frames,hstk.1]
 have at_:∀h2:Heap,FlyD B (X.env::X.outer) a (.ref C') dx .none h2->s'.heap.UpToSlots h2->∀t2:Nat,Inv X pins σ1 H' { s' with heap:=h2,toks:=t2 }:=λ h2 f2 u2 t2=>by
  have J1:Inv X pins σ1 H1 s1:=ofY I1
  have slot:∀b o,s1.heap.get? b=some o->H1 b=none->b∈frs X.stack->∃sl,h2.get? b=some { o with slots:=sl }:=λ b o e nn hb=>by
   obtain⟨sl2,e2⟩:=un.slot b o e nn hb (by simp);obtain⟨_,o3,e3,nf⟩:=J1.stack.mem hb;rw[e] at e3;cases e3;obtain⟨sl3,e4⟩:=u2 b _ e2 nf;exact⟨sl3,e4⟩
  refine J1.call' (s':={ s' with heap:=h2,toks:=t2 }) (ch:=[]) os ⟨λ b o e nn hb _=>f2.1 _ _ (inB b o e nn hb),λ b o e nn hb _=>slot b o e nn hb,un.free,λ b o e _=>?_,un.tups,un.frzs,un.tbls⟩ (okB.kept f2.1) bare (λ b z=>nomatch z);by_cases hb:b∈frs X.stack
  ·obtain⟨sl,q⟩:=slot b o e (J1.stkFree b hb) hb;exact⟨_,q⟩
  ·obtain⟨o',q⟩:=thB b o e hb;exact⟨o',f2.1 _ _ q⟩
 refine qd hfr hstk.2 fl λ h4 held4 up4=>?_;refine ji (s:={ s' with heap:=h4 }) held4 λ h5 fl5 up5=>?_;have J5:=at_ h5 fl5 (up4.trans up5) s'.toks;obtain⟨nm1,q1,N1,b1,tl,m1,u1,a1,l1,dd1,j0,j1,j2,j3,j5,hC5,T⟩:=(lV J5.kIn hq).ex;obtain⟨oe5,ve5,he5,hc5,hd5,_⟩:=fl5.first
 have toZ:∀ {σ':St}{H':Hp}{s':Shared},Inv X pins σ' H' s'->Inv (X.suite a (X.pn++pins)) [] σ' H' s':=λ J=>⟨J.ok.suite _ _,J.os,J.bare,J.base,J.loc,J.cell,J.free,J.freeC,λ p hp=>J.pin p (by simpa using hp),J.hok,J.len⟩;have ofZ:∀ {σ':St}{H':Hp}{s':Shared},Inv (X.suite a (X.pn++pins)) [] σ' H' s'->Inv X pins σ' H' s':=λ J=>⟨I.ok,J.os,J.bare,J.base,J.loc,J.cell,J.free,J.freeC,λ p hp=>J.pin p (dW _ hp),J.hok,J.len⟩;refine pP (pQ ?_) (by intro q;cases q);refine dY (X:=X.suite a (X.pn++pins)) (toZ J5) hg hm ?_ hd;obtain⟨hh,gg,dd,tt,oo⟩:=s';refine wpAny_excMatches_sub_self hC5 he5 hc5 (T.hasType hbm) ?_;refine codeAny_handlers_suite_as ?_;refine ji (s:=⟨h5,gg,dd,tt,oo⟩) fl5 λ h6 fl6 up6=>?_;have J6:=at_ h6 fl6 ((up4.trans up5).trans up6) tt;obtain⟨oe,ve,hoe,hoc,hod,hox⟩:=fl6.first
 have Ba:B.get? a=none:=fl6.2.1
 have Ha:H' a=none:=by
  cases q:H' a with
  | none=>rfl
  | some u =>
   have z:a < B.objs.size:=okB.lt q;have y:=okB a u q
   obtain⟨o9,e9⟩:∃o9,B.get? a=some o9:=by
    cases u with
    | lst xs=>obtain⟨_,_,_,_,e⟩:=y;exact⟨_,e⟩
    | tup xs=>obtain⟨_,_,_,o,e,_⟩:=y;exact⟨_,e⟩
    | dK kvs=>obtain⟨_,_,_,_,o,_,_,e,_⟩:=y;exact⟨_,e⟩
    | dT kvs=>obtain⟨_,_,_,_,o,_,_,e,_⟩:=y;exact⟨_,e⟩
    | set S n=>obtain⟨o,_,_,_,e,_⟩:=y;exact⟨_,e⟩
    | ins C dx fs=>obtain⟨_,_,_,e,_⟩:=y;exact⟨_,e⟩
    | own y'=>obtain⟨_,e⟩:=y;exact⟨_,e⟩
    | xd fs=>obtain⟨_,⟨_,_,_,e,_⟩,_⟩:=y;exact⟨_,e⟩
    | rng lo hi=>obtain⟨_,_,_,e⟩:=y;exact⟨_,e⟩
    | frz ob u=>obtain⟨e,_⟩:=y;exact⟨_,e⟩
    | tbl ps=>exact⟨_,(show B.get? a=some _ from y)⟩
    | met f y'=>exact⟨_,(show B.get? a=some _ from y)⟩
    | ext φ=>obtain⟨_,⟨_,e⟩,_⟩:=y;exact⟨_,e⟩
   rw[Ba] at e9;cases e9
 have J1:Inv X pins σ1 H1 s1:=ofY I1
 have notfields:∀b o,h6.get? b=some o->(∀vs,o.data≠.fields vs)->b≠a:=λ b o e nf z=>by
  rw[z,hoe] at e;cases e;exact nf _ hod
 obtain⟨mL,⟨oL,esL,epL,hoL,hdL,_⟩,_⟩:=id J6.loc;have aL:a≠X.env.locals:=λ z=>(notfields X.env.locals oL hoL λ vs q=>by rw[hdL] at q;cases q) z.symm
 have ac:∀y c,X.env.cells.lookup y=some c->c≠a:=λ y c e=>by
  obtain⟨v,o,ho,hdc⟩:=J6.cell y c e;exact notfields c o ho λ vs q=>by rw[hdc] at q;cases q
 have inB2:∀b o,s1.heap.get? b=some o->H1 b=none->b ∉ frs X.stack->b≠a:=λ b o e nn hb z=>by
  have q:=inB b o e nn hb;rw[z,Ba] at q;cases q
 have nstk:∀b,b≠X.env.locals->b ∉ X.fs->b ∉ frs X.stack:=λ b h1 h2 z=>by
  rcases av.mp (J1.stkSub b z) with q | q
  ·exact h1 q
  ·exact h2 q
 have ap:∀p∈X.pn++pins,p.1≠a:=λ p hp=>by
  obtain⟨e,nn,ne,nf,_⟩:=J1.pin p hp;exact inB2 p.1 p.2 e nn (nstk p.1 ne nf)
 have a0n:X.s₀.heap.get? a=none:=by
  cases q:X.s₀.heap.get? a with
  | none=>rfl
  | some o =>
   by_cases hx:a∈X.ex
   ·rw[hex] at hx;cases hx
   ·obtain⟨o1,e1⟩:=J1.base.there a o q hx;by_cases hf:a∈frs X.stack
    ·obtain⟨_,o3,e3,nf⟩:=J6.stack.mem hf;exact absurd rfl (notfields a o3 e3 nf)
    ·obtain⟨o',q'⟩:=thB a o1 e1 hf;rw[Ba] at q';cases q'
 have J7:Inv X pins σ1 (upd H' a (eY a C' dx)) { heap:=h6,gens:=gg,drawn:=dd,toks:=tt,os:=oo }:=J6.track Ha ⟨⟨oe,ve,hoe,hoc,hod,hox⟩,⟨oe,hoe⟩,λ k1 k2 ⟨o,vs,e,c,d⟩ kk=>⟨o,vs,kk o e,c,d⟩⟩ aL ac ap a0n;refine nO (X:=X.suite a (X.pn++pins)) (v:=.ref a) (toZ J7) hN hi (.inl hk) rfl (λ s8 J8=>?_) (.inr hk);refine bL (hs a (X.pn++pins) [] s8 _ _ _ J8 (hsuite a Ha)) (λ fl s9 q=>?_) λ _ _ z=>z.elim;have hcls:(X.env.scope.kind == .class || (X.env.scope.kind == .module && X.env.locals != X.env.globals))=false:=by rw[I.ok.kind];rfl
 have gone:∀ {σ9:St}{H9:Hp}{QQ:Unit->Shared->Prop},Inv (X.suite a (X.pn++pins)) [] σ9 H9 s9->(∀s10,Inv X pins (σ9.set i none) H9 s10->QQ () s10)->wpAny (model X.prog X.w) X.A (do bindName X.env n .none;unbindBehindTheSuite X.env n hpos) QQ X.xe s9:=λ {σ9 H9 QQ} J9 k=>by
  have J9':=ofZ J9;obtain⟨m,hm,hl⟩:=id J9'.loc;exact wpAny_nameGoes_keeps hk hm hcls λ h' v hn' hs'=>k _ (J9'.gone hN hi hk hm hl hn' hs')
 cases fl with
 | next=>obtain⟨σ9,H9,J9,z⟩:=q;exact gone J9 λ s10 J10=>⟨_,H9,J10,z⟩
 | brk=>obtain⟨σ9,H9,J9,z⟩:=q;exact gone J9 λ s10 J10=>⟨_,H9,J10,z⟩
 | cont=>obtain⟨σ9,H9,J9,z⟩:=q;exact gone J9 λ s10 J10=>⟨_,H9,J10,z⟩
 | ret u=>obtain⟨v,σ9,H9,J9,r,z⟩:=q;exact gone J9 λ s10 J10=>⟨v,_,H9,J10,r,z⟩
theorem vf{X:Cx}{K:FG}(hK:X.K=K)(he:PE X e ta)(hb:attributeBase e f X.env (eval e X.env)=eval e X.env):PE X (.Attribute e f pos) (qj K ta f):=by
 subst hK;exact EM he hb
section
variable {X:Cx}{CX:CXT}{k:Nat}{f C:Addr}{fd:FuncData}{ps:List Str}{sp:Sp}{dvs:List V}{ds:LV}{E:XK}{EE:St->XK}{x m:Str}{p pos apos:Pos}{e o:Expr}{es:List Expr}{ta:TE}{t:TA}
end
section
variable {X:Cx}
end
section
open PySem.Builtin PySem.Builtin.Str
variable {X:Cx}
end
section
variable {X:Cx}{a b e:Expr}{es:List Expr}{ta tb te:TE}{t:TA}{u v:TS}{st:Stmt}{rest bl:List Stmt}{pos p pos':Pos}{x:Str}
end
section
variable {X:Cx}{k j:Nat}{ps:List Str}{sp:Sp}{E:XK}{x:Str}{p pos:Pos}{e:Expr}{es:List Expr}{t:TA}
end
end _L
namespace _L
open PySem PyProof.Rows
section
variable {a p q:Addr}{b:Bool}{i j:Int}{x y:Str}{v:V}{vs:List V}{r:_L.St}{H:Hp}{Q:VK}{K:FG}{o:Option V}{n:Nat}{α β:Type}
end
section
variable {X:Cx}
theorem vg:∀ {ps:List Addr}{us:LV},Vals (ps.map V.ref) us->us=ps.map Value.ref
 | [],_,r=>by rw[cJ] at r;cases r;rfl
 | p::ps,_,r=>by
  rw[bc] at r
  cases r with
  | cons h t=>cases h;rw[vg t];rfl
end
section
variable {X:Cx}{st:Stmt}{rest:List Stmt}{t u:TS}{e a b:Expr}{es:List Expr}{te tb:TE}{ta:TA}{pos:Pos}
end
section
variable {X:Cx}{CX:CXT}{k:Nat}{f:Addr}{fd:FuncData}{ps:List Str}{sp:Sp}{E:XK}{x:Str}{p pos:Pos}{e:Expr}{es:List Expr}{te:TE}{t:TA}{st:Stmt}{rest:List Stmt}{ts u:TS}
end
section
open PySem.W
variable {X:Cx}
theorem EQ{cs:List Addr}(k:ExcK X.K C)(e:W.kitAny X.K (.ref C) (cs.map Value.ref)=some b) :
  bG X (.builtin "isinstance") (λ xs H Q=>∃a p d,xs=[.ref a,.ref p]/\H a=some (eY a C d)/\H p=some (.tup (cs.map V.ref))/\Q (.bl b) H):=by
 intro pins s σ H xs us Q I r h;obtain⟨a,p,d,rfl,ha,hp,q⟩:=h;obtain⟨u,u',rfl,r1,r2⟩:=iV r;cases (show u=Value.ref a from r1);cases (show u'=Value.ref p from r2);obtain⟨⟨o1,vs1,ho,hcl,hdt,_⟩,_⟩:=(show ObjOk X.prog X.w H s.heap a (eY a C d) from I.hok a _ ha);obtain⟨zz,its,rv,ot,h1,⟨h2,n,h3⟩,_⟩:=(show ObjOk X.prog X.w H s.heap p (.tup (cs.map V.ref)) from I.hok p _ hp);obtain rfl:=vg rv;obtain⟨oc,od,oda,osl⟩:=ot;dsimp only at h2 h3;subst h2 h3;exact kia_tup (CC k) I.kIn ⟨o1,vs1,ho,hcl,hdt⟩ h1 e (λ z=>nomatch z) λ tk=>⟨.bl b,H,I.tok tk,rfl,q⟩
end
end _L
namespace _L
open PySem PySem.Spec PyProof.Rows PySem.W PySem.Calls
section
variable {X:Cx}
end
section
variable {pg:Program}{wd:World}{B:Around}{X0:VS}{s0:Shared}{r:Addr}{j:Int}{t u v:Tok}{n:Nat}
theorem ES{R:LV->Shared->Prop}(hh:B.handled=none)(e:IsRange s0.heap r 0 j 1 t u v)(hs:Builtin.Range.small 0 j 1=true)(hz:Builtin.Range.rangeSize 0 j 1=n)(hn:n≤2 ^ 24)
  (fin:∀(h':Heap) (tk:Nat) (ac:Array Value),(∀b o,s0.heap.get? b=some o->h'.get? b=some o)->ItemsOf (λ i v=>∃t,v=Value.int (0 + ↑i * 1) t) ac n->R ac.toList { s0 with heap:=h',toks:=tk }):wpAny (model pg wd) B (collect (.ref r)) R X0 s0:=by
 have at1:(s0.heap.push { cls:=.type "list",data:=.seq ([]:LV).toArray }).get? s0.heap.objs.size=some { cls:=.type "list",data:=.seq ([]:LV).toArray }:=bA _ rfl
 have key:∀R0:Result->Shared->Prop,(∀(h':Heap) (tk:Nat) (ac:Array Value) (c':Nat),(∀b o,b≠s0.heap.objs.size->(s0.heap.push { cls:=.type "list",data:=.seq ([]:LV).toArray }).get? b=some o->h'.get? b=some o)->h'.get? s0.heap.objs.size=some { cls:=.type "list",data:=.seq ac c' }->ItemsOf (λ i v=>∃t,v=Value.int (0 + ↑i * 1) t) ac n->R0 (.ok (.ret (.ref s0.heap.objs.size))) { s0 with heap:=h',toks:=tk }) ->
   codeAny (model pg wd) B (.builtin "list.__iadd__" ⟨[.ref s0.heap.objs.size,.ref r],[]⟩) R0 { s0 with heap:=s0.heap.push { cls:=.type "list",data:=.seq ([]:LV).toArray } }:=λ R0 f=>by
  refine dj pk ?_;rw[dO jd _];exact wpAny_extend_range (s:={ s0 with heap:=s0.heap.push { cls:=.type "list",data:=.seq ([]:LV).toArray } }) hh (aE _ e) hs hz hn _ _ 0 at1 f
 unfold collect;refine ae (pf (dj ph ?_));rw[dO pj _];show wpAny _ B.in1 (newList [] >>= λ q=>again (.builtin "list.__iadd__" ⟨[q,.ref r],[]⟩)) _ _ s0;refine ae (ci ?_);refine ak ⟨dq jd _,key _ λ h' tk ac c' kp at2 it=>?_⟩;show wpAny _ B (load s0.heap.objs.size >>= _) _ _ _;exact ae (jM at2 (ak (fin h' tk ac (λ b o q=>kp b o (aZ (az q)) (aE _ q)) it)))
theorem ET{R:VS}(hh:B.handled=none)(e:IsRange s0.heap r 0 j 1 t u v)(hs:Builtin.Range.small 0 j 1=true)(hz:Builtin.Range.rangeSize 0 j 1=n)(hn:n≤1000)
  (fin:∀(h':Heap) (tk:Nat) (ac:Array Value),(∀b o,s0.heap.get? b=some o->h'.get? b=some o)->ItemsOf (λ i v=>∃t,v=Value.int (0 + ↑i * 1) t) ac n->R (.ref h'.objs.size) { s0 with heap:=h'.push { cls:=.type "tuple",data:=.seq ac },toks:=tk }) :
  wpAny (model pg wd) B (call (.type "tuple") [.ref r]) R X0 s0:=by
 have new:codeAny (model pg wd) B.in1 (.call (.builtin "tuple.__new__") ⟨[.type "tuple",.ref r],[]⟩) (wants (λ ob z=>z.TypeIs ob "tuple" /\ R ob z) X0) s0:=by
  refine lR ?_;show wpAny _ B.in1.in1 (do checkBuiltinCall "tuple.__new__" ⟨[.type "tuple",.ref r],[]⟩;again (.builtin "tuple.__new__" ⟨[.type "tuple",.ref r],[]⟩)) _ _ s0;refine ae (dn (py _) (ak ⟨dq jf _,dj pA ?_⟩));rw[dO jf _];have q1:=pE;have q2:=pF;have q3:=pG;have q4:s0.TypeIs (.ref r) "range" := ⟨_,e,rfl⟩;wp_walk using gb q4,ES (B:=B.in1.in1) hh e hs hz (by lia);intro h' tk ac kp its;show wpAny _ _ (Builtin.Tuple.tupleExact ac.toList.toArray >>= λ q=>ret q) _ _ _;have e:ac.toList.toArray=ac:=by simp
  rw[e];unfold Builtin.Tuple.tupleExact;exact ae (ci (ak ⟨⟨_,bA _ rfl,rfl⟩,fin h' tk ac kp its⟩) (by show ac.size≤sizeLine;rw[its.1];exact dE (aQ hn)))
 exact pH (Q₁:=λ ob z=>z.TypeIs ob "tuple" /\ R ob z) pI (pJ _) pK new
  λ ob z q=>⟨q.1,lP ob _,pL F.called_tuple.init.lookup F.called_tuple.made (by decide) pg wd B.in1 _ z ⟨q.1,rfl,q.2⟩⟩
end
section
variable {X:Cx}
theorem EU(hc:X.calm=true):bG X (.type "tuple") (λ xs H Q=>∃p n,xs=[.ref p]/\H p=some (.rng 0 (Int.ofNat n))/\n≤1000/\∀l,H l=none->Q (.ref l) (upd H l (.tup ((upL n).map V.int)))):=by
 intro pins s σ H xs us Q I r h;obtain⟨p,n,rfl,hp,hn,q⟩:=h;obtain⟨u,rfl,rx⟩:=cH r;cases rx;obtain⟨t,u,v,e⟩:=I.hok p _ hp
 have hs:Builtin.Range.small 0 (Int.ofNat n) 1=true:=by
  have z:∀m:Fin 1001,Builtin.Range.small 0 (Int.ofNat m.val) 1=true:=by decide +kernel
  exact z ⟨n,by lia⟩
 have hsz:Builtin.Range.rangeSize 0 (Int.ofNat n) 1=n:=by
  unfold Builtin.Range.rangeSize;rw[if_pos (by decide)];split
  ·show(Int.ofNat n - 0 - 1) / 1+1=_;simp; 
  ·simp at *;lia
 refine ET (I.ok.hd hc) e hs hsz hn λ h' tk acc' k it=>?_
 have rv:Vals ((upL n).map V.int) acc'.toList:=by
  refine pU (by simp[upL,it.1]) λ i v e=>?_;rw[lK] at e;obtain⟨tt,rfl⟩:=it.2 i v e;have hi:i < n:=by rw[← it.1];exact(jb.mp e).1
  exact⟨.int i,by simp[upL,hi],tt,by simp⟩
 have I1:Inv X pins σ H { s with heap:=h',toks:=tk }:=I.kept k
 have I2:Inv X pins σ (upd H h'.objs.size (.tup ((upL n).map V.int))) { s with heap:=h'.push { cls:=.type "tuple",data:=.seq acc' },toks:=tk } :=
  I1.laid (t':=tk) (λ b o e=>aE _ e) (au _) (show ObjOk X.prog X.w _ _ _ (.tup _) from ⟨by simp[upL];exact dE (aQ hn),acc'.toList,rv,by rw[pS];exact TupO.new h' acc'⟩)
 exact⟨.ref h'.objs.size,_,I2,rfl,q _ (I1.hok.fresh (au _))⟩
end
end _L
namespace _H
open PySem PyProof.Rows
theorem EW(A:Around)(s:Shared)(a:Int)(t:Tok)(c:Int)(u:Tok)(prog:Program)(w:World)(E:VS)(Q:VS)(h:Q (.bool (decide (c < a))) s) :
  wpAny (model prog w) A (richCompare .Gt (.int a t) (.int c u)) Q E s :=
 (PyProof.Rows.gt_int h:wpAny (model prog w) A (compareOp .Gt (.int a t) (.int c u)) Q E s)
section
open PySem.SeqAt
open PySem.AutoSeq1 (wpAny_loadPart')
open PySem.MeetsSeq PySem.MeetsSeq2 PySem.MeetsSeq3
theorem EY(l b:Addr)(items items2:Array Value)(n n2:Nat)(dd dd2:OA)(sl sl2:AV)(ns ms:LIq)(hi:IntsAre items.toList ns)(hj:IntsAre items2.toList ms) :
  Meets (Builtin.«tuple.__gt__» ⟨[.ref l,.ref b],[]⟩)
   (λ _ R s=>s.heap.get? l=some { cls:=.type "tuple",dict:=dd,data:=.seq items n,slots:=sl }/\s.heap.get? b=some { cls:=.type "tuple",dict:=dd2,data:=.seq items2 n2,slots:=sl2 } /\
    R (.ok (.ret (.bool (lexLt ms ns)))) s) :=
 .of_wp λ prog w A R s h=>by
  obtain⟨hp,g,d,tk,os⟩:=s;obtain⟨hl,hb,h⟩:=h;have f2:=AutoSeq1.sub_tuple_tuple;have z1:items.size=ns.length:=by rw[← hi.length];simp
  have z2:items2.size=ms.length:=by rw[← hj.length];simp
  wp_walk using wpAny_loadPart' hl,wpAny_loadPart' hb,wpAny_forIn_list _ (λ rest b s'=>b.1=none/\s'=⟨hp,g,d,tk,os⟩/\∃(vs ws:LV) (ns' ms':LIq),rest=vs.zip ws /\
   IntsAre vs ns'/\IntsAre ws ms'/\ns'.length+items2.size=ms'.length+items.size/\R (.ok (.ret (.bool (lexLt ms' ns')))) ⟨hp,g,d,tk,os⟩) _
  case turn =>
   rintro⟨y,x⟩ rest b s' ⟨hb',rfl,vs,ws,ns',ms',hz,hvi,hwi,hlen,hR⟩
   cases hvi with
   | nil=>rw[List.zip_nil_left] at hz;cases hz
   | cons a t hvi' =>
    cases hwi with
    | nil=>rw[List.zip_nil_right] at hz;cases hz
    | cons c u hwi' =>
     rw[lX] at hz
     injection hz with hyx hrest
     injection hyx with hy hx
     subst hy hx;rw[AZ] at hR;simp only[List.length_cons] at hlen;obtain⟨e,he,hiff⟩:=Be A.in1 ⟨hp,g,d,tk,os⟩ a t c u;refine ae (he prog w _ _ ?_)
     cases e with
     | true =>
      rw[if_pos (hiff.mp rfl).symm] at hR;wp_walk;exact⟨rfl,rfl,_,_,_,_,hrest,hvi',hwi',by lia,hR⟩
     | false =>
      rw[if_neg (λ q=>absurd (hiff.mpr q.symm) bH)] at hR;have hri:=EW A.in1 ⟨hp,g,d,tk,os⟩ a t c u prog w;wp_walk using hri;exact⟨_,rfl,by simpa using hR⟩
  case fin =>
   rintro⟨b1,b2⟩ s' ⟨hb',rfl,vs,ws,ns',ms',hz,hvi,hwi,hlen,hR⟩;simp only at hb';subst hb'
   have hv:lexLt ms' ns'=decide (items2.size < items.size):=by
    cases hvi with
    | nil =>
     cases hwi with
     | nil =>
      simp only[List.length_nil] at hlen;rw[Bb];exact(aJ (by lia)).symm
     | cons c u hw =>
      simp only[List.length_nil,List.length_cons] at hlen;rw[Bd];exact(aJ (by lia)).symm
    | cons a t hv =>
     cases hwi with
     | nil =>
      simp only[List.length_nil,List.length_cons] at hlen;rw[Bc];exact(bw (by lia)).symm
     | cons c u hw =>
      rw[lX] at hz;cases hz
   rw[hv] at hR;wp_walk;exact⟨_,rfl,by simpa [Builtin.Tuple.tupleCompareSizes] using hR⟩
  case h =>
   exact⟨rfl,rfl,items.toList,items2.toList,ns,ms,rfl,hi,hj,by lia,h⟩
end
section
variable {prog:Program}{w:World}{A:Around}{E:VS}{s:Shared}
theorem gt_tupInts{Q:VS}(hl:IsTup s.heap l items)(hb:IsTup s.heap b items2)(hi:IntsAre items.toList ns)(hj:IntsAre items2.toList ms)
  (hu:A.units < cLine) (h:Q (.bool (lexLt ms ns)) s):wpAny (model prog w) A (compareOp .Gt (.ref l) (.ref b)) Q E s:=by
 obtain⟨⟨cls,dd,data,sl⟩,ho,hc,n,hd⟩:=id hl;obtain⟨⟨cls2,dd2,data2,sl2⟩,ho2,hc2,n2,hd2⟩:=id hb;simp only at hc hd hc2 hd2;subst hc hd hc2 hd2
 exact richCompare_meets_room (op:=.Gt) ⟨_,ho,rfl⟩ ⟨_,ho2,rfl⟩ PySem.F.slot_tuple_gt PySem.F.entry_tuple_gt (PySem.F.args_tuple_gt_2 _ _) (EY l b items items2 n n2 dd dd2 sl sl2 ns ms hi hj)
  ⟨ho,ho2,show Value.bool (lexLt ms ns)≠Value.notImplemented/\Q (.bool (lexLt ms ns)) s from ⟨(λ x=>nomatch x),h⟩⟩ hu
end
end _H
namespace _L
open PySem PySem.Spec PyProof.Rows
variable {X:Cx}
noncomputable def EZ(K:FG):R2:=λ x y H Q=>∃a b ns ms,x=.ref a/\y=.ref b/\SqT K H a (ns.map V.int)/\SqT K H b (ms.map V.int)/\Q (.bl (_H.lexLt ms ns)) H
theorem Fa(hu:X.A.units < cLine):OpR X (compareOp .Gt) (EZ X.K):=by
 intro pins s σ H x y v u Q I rx ry h;obtain⟨a,b,ns,ms,rfl,rfl,ha,hb,q⟩:=h;cases rx;cases ry;obtain⟨its,r1,p1,_⟩:=I.tuple ha;obtain⟨its2,r2,p2,_⟩:=I.tuple hb;have i1:IntsAre its.toArray.toList ns:=iY r1;have i2:IntsAre its2.toArray.toList ms:=iY r2;exact _H.gt_tupInts p1 p2 i1 i2 hu ⟨.bl (_H.lexLt ms ns),H,I,rfl,q⟩
end _L
namespace _L
open PySem PySem.Spec PyProof.Rows
noncomputable def Wk(h:Heap)(c:Bool)(j t:Addr)(k:Nat):Prop:=cond c (h.IsTupleIter j t k) (h.IsListIter j t k)
noncomputable def Wq(h:Heap)(c:Bool)(t:Addr)(its:Array Value):Prop:=cond c (h.IsTuple t its) (h.IsList t its)
theorem Wk.out(p:Wk h c j t k):∃o,h.get? j=some o/\(∀v,o.data≠.cell v)/\∀h':Heap,h'.get? j=some o->Wk h' c j t k:=by
 cases c<;>obtain⟨o,g,r,d⟩:=p<;>exact⟨o,g,λ v z=>(by rw[d] at z;cases z),λ h' e=>⟨o,e,r,d⟩⟩
theorem Wq.out(p:Wq h c t its):∃o,h.get? t=some o/\∀h':Heap,h'.get? t=some o->Wq h' c t its:=by
 cases c<;>obtain⟨o,g,r⟩:=p<;>exact⟨o,g,λ h' e=>⟨o,e,r⟩⟩
theorem Wk.to{h h':Heap}(p:Wk h c j t k)(f:∀o,h.get? j=some o->h'.get? j=some o):Wk h' c j t k:=let ⟨o,g,_,q⟩:=p.out;q h' (f o g)
theorem Wq.to{h h':Heap}(p:Wq h c t its)(f:∀o,h.get? t=some o->h'.get? t=some o):Wq h' c t its:=let ⟨o,g,q⟩:=p.out;q h' (f o g)
noncomputable abbrev TuO(us:LV):Obj:={ cls:=.type "tuple",data:=.seq us.toArray }
structure Zs (S:List (Bool × Addr))(N:Nat)(f0:Value)(us:LV)(kk:Nat->Nat)(h:Heap):Prop where
 z:IsZip h (N+S.length+2) (N+S.length) (N+S.length+1) f0
 ti:h.get? (N+S.length)=some (TuO ((List.range' N S.length).map Value.ref))
 ox:h.get? (N+S.length+1)=some (TuO us)
 ul:us.length=S.length
 it:∀(i:Nat) (s:Bool × Addr),S[i]?=some s->Wk h s.1 (N+i) s.2 (kk i)
theorem nl{a b:Nat}(h:a < b\/b < a):a≠b:=by lia
section
variable {pg:Program}{wd:World}{B:Around}{X0:VS}{s0:Shared}
end
noncomputable def SqB(K:FG)(b:Bool)(H:Hp)(a:Addr)(vs:List V):Prop:=if b=true then SqT K H a vs else SqL K H a vs
section
variable {X:Cx}{pins:LO}{σ:St}{H:Hp}{s:Shared}
theorem Inv.sq(I:Inv X pins σ H s)(h:SqB X.K b H a xs):∃its:LV,Vals xs its/\Wq s.heap b a its.toArray:=by
 cases b
 ·obtain⟨its,r,p,_⟩:=I.list h;exact⟨its,r,p.isList⟩
 ·obtain⟨its,r,p,_⟩:=I.tuple h;exact⟨its,r,p⟩
end
section
variable {X:Cx}{es:List Expr}{x1:Nat}{pp:Pos}
end
inductive TV where
 | non | bl (b:Bool) | int (i:Int) | str (x:Str) | tup (l:List TV) | lst (l:List TV) | bor (l:List TV) | own (l:List TV)
abbrev Fz:=Addr->Prop
noncomputable def Ls(K:FG)(F:Fz)(H:Hp)(a:Addr)(vs:List V):Prop:=(F a/\SqL K H a vs) \/
 ∃(o:Obj) (its:Array Value) (n:Nat),K.lookup a=some o/\o.cls=.type "list" /\ o.dict=none/\o.data=.seq its n/\its.size≤sizeLine/\Vals vs its.toList
theorem Ls.sq{K:FG}{vs:List V}(h:Ls K F H a vs):SqL K H a vs:=h.elim (λ h=>h.2) λ h=>.inr h
theorem Ls.imp{K:FG}{F F':Fz}{vs:List V}(h:Ls K F H a vs)(i:F a->SqL K H a vs->F' a/\SqL K H' a vs):Ls K F' H' a vs:=h.elim (λ h=>.inl (i h.1 h.2)) .inr
mutual
def Rp(K:FG)(F:Fz)(H:Hp):TV->V->Prop
 | .non,v=>v=.non
 | .bl b,v=>v=.bl b
 | .int i,v=>v=.int i
 | .str x,v=>v=.str x
 | .tup l,v=>∃a vs,v=.ref a/\SqT K H a vs/\RpL K F H l vs
 | .lst l,v=>∃a vs,v=.ref a/\Ls K F H a vs/\RpL K F H l vs
 | .bor _,_=>False
 | .own _,_=>False
def RpL(K:FG)(F:Fz)(H:Hp):List TV->List V->Prop
 | [],vs=>vs=[]
 | t::ts,vs=>∃v r,vs=v::r/\Rp K F H t v/\RpL K F H ts r
end
structure Wd (J:Hp->Prop)(F:Fz)(H:Hp):Prop where
 j:J H
 d:∀a,F a->H a≠none
structure Grow (J:Hp->Prop)(F:Fz)(H:Hp)(F':Fz)(H':Hp):Prop where
 sm:∀a o,(∀ps,o≠.tbl ps)->H a=some o->H' a=some o
 dm:∀a,H a≠none->H' a≠none
 up:∀a,F a->F' a
 nw:∀a,F' a->F a\/H a=none
 w:Wd J F' H'
section
variable {K:FG}{J:Hp->Prop}{F F' F1 F2:Fz}{H H' H1 H2:Hp}
theorem Grow.refl(w:Wd J F H):Grow J F H F H:=⟨λ _ _ _ e=>e,λ _ e=>e,λ _ e=>e,λ _ e=>.inl e,w⟩
theorem Grow.trans(g:Grow J F H F1 H1)(k:Grow J F1 H1 F2 H2):Grow J F H F2 H2 :=
 ⟨λ a o n e=>k.sm a o n (g.sm a o n e),λ a e=>k.dm a (g.dm a e),λ a e=>k.up a (g.up a e),λ a e=>by
  rcases k.nw a e with q | q
  ·exact g.nw a q
  ·by_cases z:H a=none
   ·exact .inr z
   ·exact absurd q (g.dm a z),k.w⟩
theorem Rd.sm{a:Addr}{u:HO}(s:∀a o,(∀ps,o≠.tbl ps)->H a=some o->H' a=some o)(n:∀ps,u≠.tbl ps)(h:Rd H a u):Rd H' a u:=by
 rcases h with h | ⟨o,h⟩
 ·exact .inl (s _ _ n h)
 ·exact .inr ⟨o,s _ _ (λ ps z=>by cases z) h⟩
theorem SqT.sm{a:Addr}{vs:List V}(s:∀a o,(∀ps,o≠.tbl ps)->H a=some o->H' a=some o)(h:SqT K H a vs):SqT K H' a vs:=by
 rcases h with h | h
 ·exact .inl (h.sm s λ ps z=>by cases z)
 ·exact .inr h
theorem SqL.sm{a:Addr}{vs:List V}(s:∀a o,(∀ps,o≠.tbl ps)->H a=some o->H' a=some o)(h:SqL K H a vs):SqL K H' a vs:=by
 rcases h with h | h
 ·exact .inl (h.sm s λ ps z=>by cases z)
 ·exact .inr h
structure Ke (K:FG)(F:Fz)(H:Hp)(F':Fz)(H':Hp):Prop where
 t:∀a vs,SqT K H a vs->SqT K H' a vs
 l:∀a vs,Ls K F H a vs->Ls K F' H' a vs
mutual
theorem Rp.ke(k:Ke K F H F' H'):∀ {t:TV}{v:V},Rp K F H t v->Rp K F' H' t v
 | .non,_,h=>h
 | .bl _,_,h=>h
 | .int _,_,h=>h
 | .str _,_,h=>h
 | .tup _,_,⟨a,vs,e,q,r⟩=>⟨a,vs,e,k.t _ _ q,RpL.ke k r⟩
 | .lst _,_,⟨a,vs,e,f,r⟩=>⟨a,vs,e,k.l _ _ f,RpL.ke k r⟩
 | .bor _,_,h=>h.elim
 | .own _,_,h=>h.elim
theorem RpL.ke(k:Ke K F H F' H'):∀ {ts:List TV}{vs:List V},RpL K F H ts vs->RpL K F' H' ts vs
 | [],_,h=>h
 | _::_,_,⟨v,r,e,h1,h2⟩=>⟨v,r,e,Rp.ke k h1,RpL.ke k h2⟩
end
theorem Grow.ke(g:Grow J F H F' H'):Ke K F H F' H':=⟨λ _ _ h=>h.sm g.sm,λ a _ h=>h.imp λ f h=>⟨g.up a f,h.sm g.sm⟩⟩
theorem Ke.up(h:∀a,F a->F' a):Ke K F H F' H:=⟨λ _ _ h=>h,λ a _ q=>q.imp λ f q=>⟨h a f,q⟩⟩
noncomputable def Rr(K:FG)(H:Hp)(F':Fz)(H':Hp):TV->V->Prop
 | .own l,v=>∃a vs,v=.ref a/\H a=none/\¬F' a/\H' a=some (.lst vs)/\RpL K F' H' l vs
 | .bor l,v=>∃a vs,v=.ref a/\¬F' a/\H' a=some (.lst vs)/\RpL K F' H' l vs
 | t,v=>Rp K F' H' t v
theorem Rr.of(h:Rp K F' H' t v):Rr K H F' H' t v:=by
 cases t<;>first | exact h | exact h.elim
theorem Rr.grow(g:Grow J F1 H1 F2 H2)(h:Rr K H F1 H1 t v):Rr K H F2 H2 t v:=by
 have nf:∀ {a vs},¬F1 a->H1 a=some (.lst vs)->¬F2 a:=λ n e z=>by
  rcases g.nw _ z with q | q
  ·exact n q
  ·rw[q] at e;cases e
 cases t with
 | own l=>obtain⟨a,vs,e,n,f,q,r⟩:=h;exact⟨a,vs,e,n,nf f q,g.sm _ _ (λ ps z=>by cases z) q,r.ke g.ke⟩
 | bor l=>obtain⟨a,vs,e,f,q,r⟩:=h;exact⟨a,vs,e,nf f q,g.sm _ _ (λ ps z=>by cases z) q,r.ke g.ke⟩
 | _=>exact Rp.ke g.ke h
theorem Rr.late(g:Grow J F H F1 H1)(h:Rr K H1 F2 H2 t v):Rr K H F2 H2 t v:=by
 cases t with
 | own l =>
  obtain⟨a,vs,e,n,f,q,r⟩:=h;refine⟨a,vs,e,?_,f,q,r⟩;by_cases z:H a=none
  ·exact z
  ·exact absurd n (g.dm a z)
 | _=>exact h
noncomputable abbrev RrL(K:FG)(H:Hp)(F':Fz)(H':Hp):List TV->List V->Prop:=Paired (Rr K H F' H')
theorem RrL.grow{vs:List V}(g:Grow J F1 H1 F2 H2)(h:RrL K H F1 H1 ts vs):RrL K H F2 H2 ts vs:=Paired.mapP h λ _ _ r=>r.grow g
theorem RpL.length:∀ {ts:List TV}{vs:List V},RpL K F H ts vs->ts.length=vs.length
 | [],_,h=>by cases h;rfl
 | _::_,_,⟨_,_,e,_,h⟩=>by rw[e,List.length_cons,List.length_cons,RpL.length h]
theorem RpL.get:∀ {ts:List TV}{vs:List V}{i:Nat}{t:TV},RpL K F H ts vs->ts[i]?=some t->∃v,vs[i]?=some v/\Rp K F H t v
 | [],_,_,_,_,e=>by simp at e
 | _::_,_,0,_,⟨v,r,e,h1,_⟩,q=>by cases q;exact⟨v,by rw[e];rfl,h1⟩
 | _::_,_,i+1,_,⟨v,r,e,_,h2⟩,q=>by
  obtain⟨w,e1,h⟩:=RpL.get (i:=i) h2 q;exact⟨w,by rw[e];exact e1,h⟩
theorem RpL.append:∀ {ts us:List TV}{vs ws:List V},RpL K F H ts vs->RpL K F H us ws->RpL K F H (ts++us) (vs++ws)
 | [],_,_,_,h,g=>by cases h;exact g
 | _::_,_,_,_,⟨v,r,e,h1,h2⟩,g=>by subst e;exact⟨v,_,rfl,h1,RpL.append h2 g⟩
theorem RpL.take:∀ {ts:List TV}{vs:List V}(n:Nat),RpL K F H ts vs->RpL K F H (ts.take n) (vs.take n)
 | _,_,0,_=>rfl
 | [],_,_+1,h=>by cases h;rfl
 | _::_,_,n+1,⟨v,r,e,h1,h2⟩=>by subst e;exact⟨v,_,rfl,h1,RpL.take n h2⟩
theorem RpL.drop:∀ {ts:List TV}{vs:List V}(n:Nat),RpL K F H ts vs->RpL K F H (ts.drop n) (vs.drop n)
 | _,_,0,h=>h
 | [],_,_+1,h=>by cases h;rfl
 | _::_,_,n+1,⟨v,r,e,h1,h2⟩=>by subst e;exact RpL.drop n h2
theorem RpL.set(h:Rp K F H t v):∀ {ts:List TV}{vs:List V}(i:Nat),RpL K F H ts vs->RpL K F H (ts.set i t) (vs.set i v)
 | [],_,_,q=>by cases q;rfl
 | _::_,_,0,⟨w,r,e,_,h2⟩=>by subst e;exact⟨v,r,rfl,h,h2⟩
 | _::_,_,i+1,⟨w,r,e,h1,h2⟩=>by subst e;exact⟨w,_,rfl,h1,RpL.set h i h2⟩
theorem RpL.reverse{vs:List V}(h:RpL K F H ts vs):RpL K F H ts.reverse vs.reverse:=by
 induction ts generalizing vs with
 | nil=>cases h;rfl
 | cons t r ih =>
  obtain⟨v,q,e,h1,h2⟩:=h;subst e;rw[lG,lG];exact(ih h2).append ⟨v,[],rfl,h1,rfl⟩
theorem RpL.ints:∀ {ns:LIq}{vs:List V},RpL K F H (ns.map TV.int) vs->vs=ns.map V.int
 | [],_,h=>h
 | _::_,_,⟨v,r,e,h1,h2⟩=>by rw[e,RpL.ints h2,show v=_ from h1];rfl
theorem RpL.ofInts:∀(ns:LIq),RpL K F H (ns.map TV.int) (ns.map V.int)
 | []=>rfl
 | _::r=>⟨_,_,rfl,rfl,RpL.ofInts r⟩
theorem RpL.bls:∀ {ns:List Bool}{vs:List V},RpL K F H (ns.map TV.bl) vs->vs=ns.map V.bl
 | [],_,h=>h
 | _::_,_,⟨v,r,e,h1,h2⟩=>by rw[e,RpL.bls h2,show v=_ from h1];rfl
noncomputable def TV.items:TV->Option (Bool × List TV)
 | .tup l=>some (true,l)
 | .lst l=>some (false,l)
 | .bor l=>some (false,l)
 | .own l=>some (false,l)
 | _=>none
theorem Rr.sq{b:Bool}{l:List TV}(h:Rr K H F' H' t v)(e:t.items=some (b,l)):∃a vs,v=.ref a/\RpL K F' H' l vs/\((b=true/\SqT K H' a vs)\/(b=false/\SqL K H' a vs)):=by
 cases t<;>cases e
 ·obtain⟨a,vs,e,q,r⟩:=h;exact⟨a,vs,e,r,.inl ⟨rfl,q⟩⟩
 ·obtain⟨a,vs,e,q,r⟩:=h;exact⟨a,vs,e,r,.inr ⟨rfl,q.sq⟩⟩
 ·obtain⟨a,vs,e,_,q,r⟩:=h;exact⟨a,vs,e,r,.inr ⟨rfl,.of q⟩⟩
 ·obtain⟨a,vs,e,_,_,q,r⟩:=h;exact⟨a,vs,e,r,.inr ⟨rfl,.of q⟩⟩
structure JS (J:Hp->Prop):Prop where
 nw:∀(H:Hp) (p:Addr) (o:HO),H p=none->J H->J (upd H p o)
 mu:∀(H:Hp) (p:Addr) (vs ws:List V),H p=some (.lst vs)->J H->J (upd H p (.lst ws))
theorem Grow.new(hJ:JS J)(w:Wd J F H)(o:HO)(h:H p=none):Grow J F H F (upd H p o):=by
 have k:∀a x,H a=some x->upd H p o a=some x:=λ a x e=>by rw[ay (λ z=>by rw[z,h] at e;cases e)];exact e
 have d:∀a,H a≠none->upd H p o a≠none:=λ a e z=>by
  cases q:H a with
  | none=>exact e q
  | some x=>rw[k a x q] at z;cases z
 exact⟨λ a x _ e=>k a x e,d,λ _ e=>e,λ _ e=>.inl e,hJ.nw H p o h w.j,λ a f=>d a (w.d a f)⟩
theorem Grow.frz(g:Grow J F H F1 H1)(n:H a=none)(e:H1 a≠none):Grow J F H (λ b=>F1 b\/b=a) H1 :=
 ⟨g.sm,g.dm,λ b f=>.inl (g.up b f),λ b f=>by
  rcases f with f | rfl
  ·exact g.nw b f
  ·exact .inr n,g.w.j,λ b f=>by
  rcases f with f | rfl
  ·exact g.w.d b f
  ·exact e⟩
noncomputable def TV.fz:TV->TV
 | .own l=>.lst l
 | .bor l=>.lst l
 | t=>t
def TV.nb:TV->Bool
 | .bor _=>false
 | _=>true
theorem Rr.frz(g:Grow J F H F1 H1)(h:Rr K H F1 H1 t v)(n:t.nb=true):∃F2,Grow J F H F2 H1/\(∀a,F1 a->F2 a)/\(∀a,F2 a->F1 a\/v=.ref a)/\Rp K F2 H1 t.fz v:=by
 cases t with
 | own l =>
  obtain⟨a,vs,e,n,f,q,r⟩:=h;refine⟨λ b=>F1 b\/b=a,g.frz n (by rw[q];simp),λ _ f=>.inl f,λ b f=>?_,a,vs,e,.inl ⟨.inr rfl,.of q⟩,r.ke (.up λ _ f=>.inl f)⟩
  rcases f with f | rfl
  ·exact .inl f
  ·exact .inr e
 | bor l=>cases n
 | _=>exact⟨F1,g,λ _ f=>f,λ _ f=>.inl f,h⟩
end
mutual
def eqT:TV->TV->Bool
 | .non,.non=>true
 | .bl a,.bl b=>a == b
 | .bl a,.int b=>(if a then 1 else 0) == b
 | .int a,.bl b=>a == (if b then 1 else 0)
 | .int a,.int b=>decide (a=b)
 | .str a,.str b=>decide (a=b)
 | .tup l,.tup m=>eqTL l m
 | .lst l,.lst m=>eqTL l m
 | _,_=>false
def eqTL:List TV->List TV->Bool
 | [],[]=>true
 | x::xs,y::ys=>eqT x y && eqTL xs ys
 | _,_=>false
end
noncomputable def dp:Nat->TV->Prop
 | _,.non=>True | _,.bl _=>True | _,.int _=>True | _,.str _=>True
 | n+1,.tup l=>∀x∈l,dp n x
 | n+1,.lst l=>∀x∈l,dp n x
 | _,_=>False
theorem jk:∀ {l m:List TV},l.length≠m.length->eqTL l m=false
 | [],[],h=>absurd rfl h
 | [],_::_,_=>rfl
 | _::_,[],_=>rfl
 | x::xs,y::ys,h=>by rw[eqTL,jk (l:=xs) (m:=ys) (λ z=>h (by rw[List.length_cons,List.length_cons,z])),lY]
theorem jm:∀ {l m:List TV},l.length=m.length->(List.range l.length).all (λ j=>eqT (l.getD j .non) (m.getD j .non))=eqTL l m
 | [],[],_=>rfl
 | x::xs,y::ys,h=>by
  rw[List.length_cons,List.range_succ_eq_map,cw,List.all_map];show(eqT x y && (List.range xs.length).all λ j=>eqT (xs.getD j .non) (ys.getD j .non))=eqTL (x::xs) (y::ys);rw[jm (l:=xs) (m:=ys) (by simpa using h),eqTL]
mutual
theorem Fb:∀ {t:TV}{n:Nat},dp n t->eqT t t=true
 | .non,_,_=>rfl
 | .bl b,_,_=>by simp[eqT]
 | .int _,_,_=>by simp[eqT]
 | .str _,_,_=>by simp[eqT]
 | .tup l,0,h=>by simp[dp] at h
 | .tup l,n+1,h=>by rw[eqT];exact eqTL_self (n:=n) λ x hx=>by simp only[dp] at h;exact h x hx
 | .lst l,0,h=>by simp[dp] at h
 | .lst l,n+1,h=>by rw[eqT];exact eqTL_self (n:=n) λ x hx=>by simp only[dp] at h;exact h x hx
 | .bor _,0,h=>by simp[dp] at h
 | .bor _,_+1,h=>by simp[dp] at h
 | .own _,0,h=>by simp[dp] at h
 | .own _,_+1,h=>by simp[dp] at h
theorem eqTL_self:∀ {l:List TV}{n:Nat},(∀x∈l,dp n x)->eqTL l l=true
 | [],_,_=>rfl
 | x::xs,n,h=>by rw[eqTL,Fb (h x (by simp)),eqTL_self λ y hy=>h y (by simp[hy])];rfl
end
theorem RelV.uniq(h:RelV x u)(g:RelV y u):x=y:=by
 cases x<;>cases y<;>first
  | (cases h;cases g;rfl)
  | (obtain⟨_,rfl⟩:=h;obtain⟨_,e⟩:=g;cases e;rfl)
  | (cases h;cases g;done)
  | (cases h;obtain⟨_,e⟩:=g;cases e;done)
  | (obtain⟨_,rfl⟩:=h;cases g;done)
  | (obtain⟨_,rfl⟩:=h;obtain⟨_,e⟩:=g;cases e;done)
theorem Vals.uniq:∀ {xs ys:List V}{us:LV},Vals xs us->Vals ys us->xs=ys
 | _,_,_,.nil,.nil=>rfl
 | _,_,_,.cons r t,.cons r' t'=>by rw[r.uniq r',Vals.uniq t t']
section
variable {X:Cx}{pins:LO}{σ:St}{H:Hp}{s:Shared}{F:Fz}
theorem Inv.tup_uniq(I:Inv X pins σ H s)(h:SqT X.K H a xs)(g:SqT X.K H a ys):xs=ys:=by
 obtain⟨us,r1,p1,_⟩:=I.tuple h;obtain⟨ws,r2,p2,_⟩:=I.tuple g;obtain⟨o,e,_,n,d⟩:=p1;obtain⟨o',e',_,n',d'⟩:=p2;rw[e] at e';cases e';rw[d] at d';have:us.toArray=ws.toArray:=by injection d'
 have:us=ws:=by simpa using bF Array.toList this
 subst this;exact r1.uniq r2
theorem Inv.lst_uniq(I:Inv X pins σ H s)(h:SqL X.K H a xs)(g:SqL X.K H a ys):xs=ys:=by
 obtain⟨us,r1,p1,_⟩:=I.list h;obtain⟨ws,r2,p2,_⟩:=I.list g;obtain⟨o,n,e,_,_,d⟩:=p1;obtain⟨o',n',e',_,_,d'⟩:=p2;rw[e] at e';cases e';rw[d] at d';have:us.toArray=ws.toArray:=by injection d'
 have:us=ws:=by simpa using bF Array.toList this
 subst this;exact r1.uniq r2
theorem Inv.tl(I:Inv X pins σ H s)(h:SqT X.K H a xs)(g:SqL X.K H a ys):False:=by
 obtain⟨us,r1,p1,_⟩:=I.tuple h;obtain⟨ws,r2,p2,_⟩:=I.list g;obtain⟨o,e,c,_⟩:=p1;obtain⟨o',n',e',c',_⟩:=p2;rw[e] at e';cases e';rw[c] at c';simp at c'
mutual
theorem Inv.rp_uniq(I:Inv X pins σ H s):∀ {t u:TV}{v:V},Rp X.K F H t v->Rp X.K F H u v->t=u
 | .non,u,v,h,g=>by cases h;cases u<;>first | rfl | (cases g;done) | (obtain⟨_,_,e,_⟩:=g;cases e) | exact g.elim
 | .bl _,u,v,h,g=>by cases h;cases u<;>first | (cases g;rfl) | (cases g;done) | (obtain⟨_,_,e,_⟩:=g;cases e) | exact g.elim
 | .int _,u,v,h,g=>by cases h;cases u<;>first | (cases g;rfl) | (cases g;done) | (obtain⟨_,_,e,_⟩:=g;cases e) | exact g.elim
 | .str _,u,v,h,g=>by cases h;cases u<;>first | (cases g;rfl) | (cases g;done) | (obtain⟨_,_,e,_⟩:=g;cases e) | exact g.elim
 | .tup l,u,v,⟨a,vs,e,q,r⟩,g=>by
  subst e
  cases u with
  | tup m =>
   obtain⟨b,ws,e,q',r'⟩:=g;cases e;have:=I.tup_uniq q q';subst this;rw[Inv.rpl_uniq I r r']
  | lst m=>obtain⟨b,ws,e,q',r'⟩:=g;cases e;exact(I.tl q q'.sq).elim
  | _=>first | exact g.elim | cases g
 | .lst l,u,v,⟨a,vs,e,q,r⟩,g=>by
  subst e
  cases u with
  | lst m =>
   obtain⟨b,ws,e,q',r'⟩:=g;cases e;have:=I.lst_uniq q.sq q'.sq;subst this;rw[Inv.rpl_uniq I r r']
  | tup m=>obtain⟨b,ws,e,q',r'⟩:=g;cases e;exact(I.tl q' q.sq).elim
  | _=>first | exact g.elim | cases g
 | .bor _,_,_,h,_=>h.elim
 | .own _,_,_,h,_=>h.elim
theorem Inv.rpl_uniq(I:Inv X pins σ H s):∀ {ts us:List TV}{vs:List V},RpL X.K F H ts vs->RpL X.K F H us vs->ts=us
 | [],us,_,h,g=>by
  cases h
  cases us with
  | nil=>rfl
  | cons t r=>obtain⟨_,_,e,_⟩:=g;cases e
 | t::ts,us,_,⟨v,r,e,h1,h2⟩,g=>by
  subst e
  cases us with
  | nil=>cases g
  | cons u us=>obtain⟨_,_,e,g1,g2⟩:=g;cases e;rw[Inv.rp_uniq I h1 g1,Inv.rpl_uniq I h2 g2]
end
theorem gu{K:FG}{vs:List V}(r:RpL K F H l vs)(q:Vals vs us){j:Nat}(h:j < us.toArray.size):∃z,Rp K F H (l.getD j .non) z/\RelV z us.toArray[j]/\l.getD j .non∈l:=by
 obtain⟨z,e,rz⟩:=DZ q h;have k:j < l.length:=by rw[r.length,q.length];simpa using h
 obtain⟨v,e',rv⟩:=r.get (bP k);rw[e] at e';cases e';have ee:l.getD j .non=l[j]:=by simp[dP,bP k]
 rw[ee];exact⟨z,rv,rz,kr k⟩
theorem vh(I:Inv X pins σ H s){n:Nat}(ih:∀m,n=m+1->∀(A:Around) (t u:TV) (x y:V) (v w:Value),A.units+m < cLine->dp m t->Rp X.K F H t x->Rp X.K F H u y->RelV x v->RelV y w->SeqAt.EqAt A s v w (eqT t u))(A:Around)(t u:TV)(x y:V)(v w:Value)(hu:A.units+n < cLine)(d:dp n t)(h:Rp X.K F H t x)(g:Rp X.K F H u y)(rx:RelV x v)(ry:RelV y w):SeqAt.EqAt A s v w (eqT t u):=by
 have hu0:A.units < cLine:=by lia
 have tupI:∀ {a vs},SqT X.K H a vs->∃us:LV,Vals vs us/\s.heap.IsTuple a us.toArray:=λ q=>by obtain⟨us,r,p,_⟩:=I.tuple q;exact⟨us,r,p⟩
 have lstI:∀ {a vs},SqL X.K H a vs->∃us:LV,Vals vs us/\s.heap.IsList a us.toArray:=λ q=>by obtain⟨us,r,p,_⟩:=I.list q;exact⟨us,r,p.isList⟩
 cases t with
 | bor l=>exact h.elim
 | own l=>exact h.elim
 | tup l =>
  obtain⟨a,vs,rfl,q,r⟩:=h;cases rx;obtain⟨us,r1,p1⟩:=tupI q
  cases u with
  | bor l=>exact g.elim
  | own l=>exact g.elim
  | non=>cases g;cases ry;exact SeqAt.EqAt.tuple_none p1 hu0
  | bl b=>cases g;cases ry;exact SeqAt.EqAt.tuple_bool b p1 hu0
  | int b=>cases g;obtain⟨tk,rfl⟩:=ry;exact SeqAt.EqAt.tuple_int b tk p1 hu0
  | str b=>cases g;obtain⟨tk,rfl⟩:=ry;exact SeqAt.EqAt.tuple_str b tk p1 hu0
  | lst m =>
   obtain⟨b,ws,rfl,q',r'⟩:=g;cases ry;obtain⟨us2,r2,p2⟩:=lstI q'.sq;exact SeqAt.EqAt.tuple_list p1 p2 hu0
  | tup m =>
   obtain⟨b,ws,rfl,q',r'⟩:=g;cases ry;obtain⟨us2,r2,p2⟩:=tupI q'
   cases n with
   | zero=>simp[dp] at d
   | succ n =>
    have d':∀x∈l,dp n x:=by simpa only[dp] using d
    by_cases ab:a=b
    ·subst ab;have:=I.tup_uniq q q';subst this;have:=I.rpl_uniq r r';subst this;rw[eqT,eqTL_self d'];exact oJ _
    ·refine s0v ab ?_
     have z:=SeqAt.RcAt.tuples (A:=A) p1 p2 (e:=λ j=>eqT (l.getD j .non) (m.getD j .non)) hu0 (λ j k1 k2=>by
      obtain⟨z1,h1,r1',m1⟩:=gu r r1 k1;obtain⟨z2,h2,r2',_⟩:=gu r' r2 k2
      exact ih n rfl A.in1 _ _ z1 z2 _ _ (by show A.units+1+n < cLine;lia) (d' _ m1) h1 h2 r1' r2')
     have e1:us.toArray.size=l.length:=by simp[r.length,r1.length]
     have e2:us2.toArray.size=m.length:=by simp[r'.length,r2.length]
     rw[e1,e2] at z;rw[eqT];by_cases c:l.length=m.length
     ·rw[← c,Nat.min_self,jm c] at z;simpa using z
     ·rw[jk c];have c':(l.length == m.length)=false:=by simpa using c
      rw[c',lY] at z;exact z
 | lst l =>
  obtain⟨a,vs,rfl,q,r⟩:=h;cases rx;obtain⟨us,r1,p1⟩:=lstI q.sq
  cases u with
  | bor l=>exact g.elim
  | own l=>exact g.elim
  | non=>cases g;cases ry;exact SeqAt.EqAt.list_none p1 hu0
  | bl b=>cases g;cases ry;exact SeqAt.EqAt.list_bool b p1 hu0
  | int b=>cases g;obtain⟨tk,rfl⟩:=ry;exact SeqAt.EqAt.list_int b tk p1 hu0
  | str b=>cases g;obtain⟨tk,rfl⟩:=ry;exact SeqAt.EqAt.list_str b tk p1 hu0
  | tup m =>
   obtain⟨b,ws,rfl,q',r'⟩:=g;cases ry;obtain⟨us2,r2,p2⟩:=tupI q';exact SeqAt.EqAt.list_tuple p1 p2 hu0
  | lst m =>
   obtain⟨b,ws,rfl,q',r'⟩:=g;cases ry;obtain⟨us2,r2,p2⟩:=lstI q'.sq
   cases n with
   | zero=>simp[dp] at d
   | succ n =>
    have d':∀x∈l,dp n x:=by simpa only[dp] using d
    have e1:us.toArray.size=l.length:=by simp[r.length,r1.length]
    have e2:us2.toArray.size=m.length:=by simp[r'.length,r2.length]
    by_cases ab:a=b
    ·subst ab;have:=I.lst_uniq q.sq q'.sq;subst this;have:=I.rpl_uniq r r';subst this;rw[eqT,eqTL_self d'];exact oJ _
    ·refine s0v ab ?_;rw[eqT];by_cases c:l.length=m.length
     ·have z:=SeqAt.RcAt.lists (A:=A) p1 p2 (e:=λ j=>eqT (l.getD j .non) (m.getD j .non)) (by rw[e1,e2,c]) hu0 (λ j k1 k2=>by
       obtain⟨z1,h1,r1',m1⟩:=gu r r1 k1;obtain⟨z2,h2,r2',_⟩:=gu r' r2 k2
       exact ih n rfl A.in1 _ _ z1 z2 _ _ (by show A.units+1+n < cLine;lia) (d' _ m1) h1 h2 r1' r2')
      rwa [e1,jm c] at z
     ·rw[jk c];exact SeqAt.RcAt.lists_lengths p1 p2 (by rw[e1,e2];simpa using c) hu0
 | non =>
  cases h
  cases u with
  | bor l=>exact g.elim
  | own l=>exact g.elim
  | tup m=>obtain⟨b,ws,rfl,q',_⟩:=g;cases ry;obtain⟨us2,r2,p2⟩:=tupI q';cases rx;exact SeqAt.EqAt.none_tuple p2 hu0
  | lst m=>obtain⟨b,ws,rfl,q',_⟩:=g;cases ry;obtain⟨us2,r2,p2⟩:=lstI q'.sq;cases rx;exact SeqAt.EqAt.none_list p2 hu0
  | _=>cases g;exact jV rx ry rfl rfl
 | bl k =>
  cases h
  cases u with
  | bor l=>exact g.elim
  | own l=>exact g.elim
  | tup m=>obtain⟨b,ws,rfl,q',_⟩:=g;cases ry;obtain⟨us2,r2,p2⟩:=tupI q';cases rx;exact SeqAt.EqAt.bool_tuple k p2 hu0
  | lst m=>obtain⟨b,ws,rfl,q',_⟩:=g;cases ry;obtain⟨us2,r2,p2⟩:=lstI q'.sq;cases rx;exact SeqAt.EqAt.bool_list k p2 hu0
  | _=>cases g;exact jV rx ry rfl rfl
 | int k =>
  cases h
  cases u with
  | bor l=>exact g.elim
  | own l=>exact g.elim
  | tup m=>obtain⟨b,ws,rfl,q',_⟩:=g;cases ry;obtain⟨us2,r2,p2⟩:=tupI q';obtain⟨tk,rfl⟩:=rx;exact SeqAt.EqAt.int_tuple k tk p2 hu0
  | lst m=>obtain⟨b,ws,rfl,q',_⟩:=g;cases ry;obtain⟨us2,r2,p2⟩:=lstI q'.sq;obtain⟨tk,rfl⟩:=rx;exact SeqAt.EqAt.int_list k tk p2 hu0
  | _=>cases g;exact jV rx ry rfl rfl
 | str k =>
  cases h
  cases u with
  | bor l=>exact g.elim
  | own l=>exact g.elim
  | tup m=>obtain⟨b,ws,rfl,q',_⟩:=g;cases ry;obtain⟨us2,r2,p2⟩:=tupI q';obtain⟨tk,rfl⟩:=rx;exact SeqAt.EqAt.str_tuple k tk p2 hu0
  | lst m=>obtain⟨b,ws,rfl,q',_⟩:=g;cases ry;obtain⟨us2,r2,p2⟩:=lstI q'.sq;obtain⟨tk,rfl⟩:=rx;exact SeqAt.EqAt.str_list k tk p2 hu0
  | _=>cases g;exact jV rx ry rfl rfl
theorem vj(I:Inv X pins σ H s)(n:Nat):∀(A:Around) (t u:TV) (x y:V) (v w:Value),A.units+n < cLine->dp n t->Rp X.K F H t x->Rp X.K F H u y->RelV x v->RelV y w->SeqAt.EqAt A s v w (eqT t u):=by
 induction n with
 | zero=>exact vh I λ m e=>nomatch e
 | succ n ih=>exact vh I λ m e=>by cases e;exact ih
end
inductive BI where
 | len | tuple | list | sum | max | min | abs | int | str | sorted | any | all | isI | isB | isT | isL | isS | maxlen | trev (b:Bool) | lrange (k:Bool)
 deriving DecidableEq
inductive IK where
 | seq | rng | rng2 | rng3 | zip (a b:Bool) | zip3 | enum (a:Bool) | rev (a:Bool) | str
 deriving DecidableEq
inductive Cd where
 | v (i:Nat) | c (t:TV) | g (k:Nat)
 | bin (o:Operator) (a b:Cd) | neg (a:Cd) | not (a:Cd) | cmp (o:CmpOp) (a b:Cd) | cm2 (o o':CmpOp) (a b c:Cd)
 | and (a b:Cd) | or (a b:Cd) | ite (c a b:Cd)
 | nil | cons (a r:Cd) | tup (l:Cd) | lst (l:Cd) | ix (a b:Cd) | sl (a lo hi:Cd)
 | call (f:Nat) (l:Cd) | bi (f:BI) (l:Cd) | isi (f:BI) (a:Cd) | mxl (a b:Cd) | trev (k:Bool) (a:Cd) | lrng (k:Bool) (a:Cd) | dk (k:Nat) (a:Cd)
 | comp (own:List Str) (fv:List Str) (js:List Nat) (tg:List Nat) (k:IK) (it:Cd) (e:Cd) | compI (own:List Str) (fv:List Str) (js:List Nat) (tg:List Nat) (k:IK) (it:Cd) (c e:Cd)
abbrev PSp:=List TV->(TV->Prop)->Prop
abbrev En:=List (Option TV)
noncomputable def i2(t u:TV)(P:Int->Int->Prop):Prop:=match t,u with | .int i,.int j=>P i j | _,_=>False
noncomputable def i1(t:TV)(P:Int->Prop):Prop:=match t with | .int i=>P i | _=>False
noncomputable def b1(t:TV)(P:Bool->Prop):Prop:=match t with | .bl i=>P i | _=>False
noncomputable def l1(t:TV)(P:List TV->Prop):Prop:=match t with | .lst l=>P l | .bor l=>P l | .own l=>P l | _=>False
noncomputable def s1(t:TV)(P:List TV->Prop):Prop:=match t with | .lst l=>P l | .bor l=>P l | .own l=>P l | .tup l=>P l | _=>False
def aq(i j:Int):Int:=if 0 < j then i % j else i.fmod j
def ax(i j:Int):Int:=if 0 < j then i / j else i.fdiv j
noncomputable def qk(t u:TV)(K:TV->Prop):Prop:=match t,u with
 | .int i,.int j=>K (.int (i+j))
 | .tup l,.tup m=>l.length+m.length≤sizeLine/\K (.tup (l++m))
 | t,u=>l1 t λ l=>l1 u λ m=>l.length+m.length≤sizeLine/\K (.own (l++m))
noncomputable def qm(t u:TV)(K:TV->Prop):Prop:=match t,u with
 | .int i,.int j=>IntMulOk i j/\K (.int (i * j))
 | .tup l,.int k=>l≠[]/\(0≤k/\k < 2 ^ 63)/\l.length * k.toNat≤sizeLine/\K (.tup (List.replicate k.toNat l).flatten)
 | t,.int k=>(match t with | .own l=>(0≤k/\k < 2 ^ 63)/\l.length * k.toNat≤sizeLine/\K (.own (List.replicate k.toNat l).flatten) | _=>False)
 | _,_=>False
noncomputable def opP:Operator->TV->TV->(TV->Prop)->Prop
 | .Add,t,u,K=>qk t u K
 | .Sub,t,u,K=>i2 t u λ i j=>K (.int (i - j))
 | .Mult,t,u,K=>qm t u K
 | .FloorDiv,t,u,K=>i2 t u λ i j=>(j≠0/\-18446744073709551616 < j/\j < 1606938044258990275541962092341162602522202993782792835301376)/\K (.int (ax i j))
 | .Mod,t,u,K=>i2 t u λ i j=>j≠0/\K (.int (aq i j))
 | .Pow,t,u,K=>i2 t u λ i j=>jP i j/\K (.int (i ^ j.toNat))
 | .RShift,t,u,K=>i2 t u λ i j=>0≤j/\K (.int (i / 2 ^ j.toNat))
 | .BitAnd,t,u,K=>i2 t u λ i j=>K (.int (Builtin.bitAnd i j))
 | .BitOr,t,u,K=>i2 t u λ i j=>K (.int (Builtin.bitOr i j))
 | .BitXor,t,u,K=>i2 t u λ i j=>K (.int (Builtin.bitXor i j))
 | _,_,_,_=>False
noncomputable def eqC(t u:TV):Prop:=match t,u with
 | .tup l,.tup _=>dp 9 (.tup l)
 | .lst l,.lst _=>dp 9 (.lst l)
 | .int _,.int _=>True | .str _,.str _=>True | .bl _,.bl _=>True | .non,.non=>True
 | .non,.int _=>True | .int _,.non=>True | .non,.str _=>True | .str _,.non=>True | .int _,.str _=>True | .str _,.int _=>True
 | .non,.bl _=>True | .bl _,.non=>True
 | _,_=>False
noncomputable def flT:TV->Bool
 | .non=>true | .bl _=>true | .int _=>true | .str _=>true | _=>false
def inT(x:TV)(l:List TV):Bool:=l.any λ y=>eqT y x
noncomputable def gtQ(t u:TV)(K:TV->Prop):Prop:=match t,u with
 | .tup l,.tup m=>∃ns ms:LIq,l=ns.map .int/\m=ms.map .int/\K (.bl (_H.lexLt ms ns))
 | t,u=>i2 t u λ i j=>K (.bl (decide (j < i)))
noncomputable def gv:CmpOp->TV->TV->(TV->Prop)->Prop
 | .Eq,t,u,K=>eqC t.fz u.fz/\K (.bl (eqT t.fz u.fz))
 | .NotEq,t,u,K=>eqC t.fz u.fz/\K (.bl (!eqT t.fz u.fz))
 | .Lt,t,u,K=>i2 t u λ i j=>K (.bl (decide (i < j)))
 | .LtE,t,u,K=>i2 t u λ i j=>K (.bl (decide (i≤j)))
 | .Gt,t,u,K=>gtQ t u K
 | .GtE,t,u,K=>i2 t u λ i j=>K (.bl (decide (j≤i)))
 | .In,t,u,K=>s1 u λ l=>flT t=true/\(∀x∈l,flT x=true)/\K (.bl (inT t l))
 | .NotIn,t,u,K=>s1 u λ l=>flT t=true/\(∀x∈l,flT x=true)/\K (.bl (!inT t l))
 | .Is,t,u,K=>u=.non/\K (.bl (match t with | .non=>true | _=>false))
 | .IsNot,t,u,K=>u=.non/\K (.bl (match t with | .non=>false | _=>true))
noncomputable def af(l:List TV)(lo hi:Option Int):List TV:=(l.drop (_H.sIx l.length 0 lo)).take (_H.sIx l.length l.length hi - _H.sIx l.length 0 lo)
noncomputable def oI(t:TV)(P:Option Int->Prop):Prop:=match t with | .non=>P none | .int i=>P (some i) | _=>False
noncomputable def slK(t:TV)(a b:Option Int)(K:TV->Prop):Prop:=match t with
 | .tup l=>K (.tup (af l a b))
 | .str x=>x.length≤4000000/\K (.str (Txt.slice x a b))
 | t=>l1 t λ l=>K (.own (af l a b))
noncomputable def ixP(t u:TV)(K:TV->Prop):Prop:=match t with
 | .str x=>i1 u λ i=>x.length≤sizeLine/\∃c,atI x.cps.toList i=some c/\K (.str ⟨#[c]⟩)
 | t=>s1 t λ l=>i1 u λ i=>∃x,atI l i=some x/\K x
noncomputable def LF:TV->Prop
 | .tup l=>∀x∈l,LF x
 | .lst _=>False | .bor _=>False | .own _=>False
 | _=>True
noncomputable def k1(b:Bool)(t:TV)(P:List TV->Prop):Prop:=if b=true then (match t with | .tup l=>P l | _=>False) else l1 t P
noncomputable def biP:BI->List TV->(TV->Prop)->Prop
 | .len,[t],K=>(match t with | .str x=>x.length≤sizeLine/\K (.int x.length) | t=>s1 t λ l=>K (.int l.length))
 | .tuple,[t],K=>s1 t λ l=>K (.tup l)
 | .list,[t],K=>s1 t λ l=>K (.own l)
 | .sum,[t],K=>l1 t λ l=>∃ns:LIq,l=ns.map .int/\K (.int ns.sum)
 | .max,[t,u],K=>i2 t u λ i j=>K (.int (if j > i then j else i))
 | .max,[t],K=>l1 t λ l=>∃ns:LIq,l=ns.map .int/\0 < ns.length/\∀M:Int,M∈ns->(∀z∈ns,z≤M)->K (.int M)
 | .min,[t,u],K=>i2 t u λ i j=>K (.int (if j < i then j else i))
 | .abs,[t],K=>i1 t λ i=>K (.int (if i < 0 then -i else i))
 | .int,[t],K=>(match t with | .int i=>K (.int i) | .bl k=>K (.int (if k then 1 else 0)) | _=>False)
 | .str,[t],K=>i1 t λ i=>i.natAbs.log2 < 1920/\K (.str (Str.ofString (toString i)))
 | .sorted,[t],K=>s1 t λ l=>∃ns:LIq,l=ns.map .int/\ns.length < 64/\∀ns':LIq,ns'.Perm ns->ns'.Pairwise (·≤·)->K (.own (ns'.map .int))
 | .any,[t],K=>l1 t λ l=>∃bs:List Bool,l=bs.map .bl/\K (.bl (bs.any id))
 | .all,[t],K=>l1 t λ l=>∃bs:List Bool,l=bs.map .bl/\K (.bl (bs.all id))
 | .isI,[t],K=>(match t with | .int _=>K (.bl true) | .bl _=>K (.bl true) | .str _=>K (.bl false) | .non=>K (.bl false) | .tup _=>K (.bl false) | _=>False)
 | .isB,[t],K=>(match t with | .bl _=>K (.bl true) | .int _=>K (.bl false) | .str _=>K (.bl false) | .non=>K (.bl false) | .tup _=>K (.bl false) | _=>False)
 | .isT,[t],K=>(match t with | .tup _=>K (.bl true) | .int _=>K (.bl false) | .str _=>K (.bl false) | .non=>K (.bl false) | .bl _=>K (.bl false) | _=>False)
 | .isL,[t],K=>(match t with | .tup _=>K (.bl false) | .int _=>K (.bl false) | .str _=>K (.bl false) | .non=>K (.bl false) | .bl _=>K (.bl false) | .lst _=>K (.bl true) | .bor _=>K (.bl true) | .own _=>K (.bl true))
 | .isS,[t],K=>(match t with | .tup _=>K (.bl false) | .int _=>K (.bl false) | .str _=>K (.bl true) | .non=>K (.bl false) | .bl _=>K (.bl false) | _=>False)
 | .trev b,[t],K=>k1 b t λ l=>K (.tup l.reverse)
 | .maxlen,[t,u],K=>(match t,u with | .tup l,.tup m=>K (.tup (if l.length < m.length then m else l)) | _,_=>False)
 | .lrange k,[t],K=>i1 t λ j=>(0≤j/\j≤1000)/\K (if k=true then .tup ((List.range j.toNat).map λ i=>.int (i:Nat)) else .own ((List.range j.toNat).map λ i=>.int (i:Nat)))
 | _,_,_=>False
noncomputable def z3(l m n:List TV):List TV:=List.zipWith (λ x (p:TV × TV)=>.tup [x,p.1,p.2]) l (m.zip n)
noncomputable def itP:IK->List TV->(List TV->Prop)->Prop
 | .seq,[t],K=>s1 t K
 | .rng,[t],K=>i1 t λ j=>(-(2 ^ 62)≤j/\j < 2 ^ 62)/\K ((List.range j.toNat).map λ i=>.int (i:Nat))
 | .rng2,[t,u],K=>i2 t u λ i j=>(-(2 ^ 62)≤i/\i < 2 ^ 62/\-(2 ^ 62)≤j/\j < 2 ^ 62)/\K ((List.range (j - i).toNat).map λ k=>.int (i+(k:Nat)))
 | .rng3,[t,u,w],K=>i2 t u λ i j=>i1 w λ c=>(c≠0/\c.natAbs < 1073741824/\Builtin.Range.small i j c=true)/\K ((List.range (Builtin.Range.rangeSize i j c).toNat).map λ k=>.int (i+(k:Nat) * c))
 | .zip a b,[t,u],K=>k1 a t λ l=>k1 b u λ m=>K (List.zipWith (λ x y=>.tup [x,y]) l m)
 | .zip3,[t,u,w],K=>k1 true t λ l=>k1 true u λ m=>k1 true w λ n=>(m.length=l.length/\n.length=l.length)/\K (z3 l m n)
 | .enum a,[t],K=>k1 a t λ l=>K (l.mapIdx λ i x=>.tup [.int (i:Nat),x])
 | .rev a,[t],K=>k1 a t λ l=>K l.reverse
 | .str,[t],K=>(match t with | .str x=>K (x.cps.toList.map λ c=>.str ⟨#[c]⟩) | _=>False)
 | _,_,_=>False
noncomputable def gtP(s:Option TV)(K:TV->Prop):Prop:=match s with | some (.bor _)=>False | some t=>K t | none=>False
noncomputable def dcP(s:Option TV)(P:List TV->Prop):Prop:=match s with | some (.bor l)=>P l | _=>False
noncomputable def t1(t:TV)(P:Str->Prop):Prop:=match t with | .str x=>P x | _=>False
noncomputable def dlk:List TV->Str->Option TV
 | .tup [.str k,t]::r,x=>if decide (k=x)=true then some t else dlk r x
 | _,_=>none
noncomputable def rdV:Option (Option TV)->(TV->Prop)->Prop
 | some (some t),K=>K (match t with | .own l=>.bor l | t=>t)
 | _,_=>False
noncomputable def stE(ρ:En)(is:List Nat)(t:TV)(K:En->Prop):Prop:=match is with
 | [i]=>K (ρ.set i (some t))
 | [i,j]=>(match t with | .tup [x,y]=>K ((ρ.set i (some x)).set j (some y)) | _=>False)
 | [i,j,k]=>(match t with | .tup [x,y,z]=>K (((ρ.set i (some x)).set j (some y)).set k (some z)) | _=>False)
 | _=>False
noncomputable def cmF(b:TV->(List TV->Prop)->Prop):List TV->(List TV->Prop)->Prop
 | [],K=>K []
 | t::r,K=>b t λ y=>cmF b r λ ys=>K (y++ys)
section
variable (FT:List PSp)(GT:List TV)
mutual
def wE:Cd->En->(TV->Prop)->Prop
 | .v i,ρ,K=>rdV ρ[i]? K
 | .c t,_,K=>K t
 | .g k,_,K=>gtP GT[k]? K
 | .bin o a b,ρ,K=>wE a ρ λ x=>wE b ρ λ y=>opP o x y K
 | .neg a,ρ,K=>wE a ρ λ x=>i1 x λ i=>K (.int (-i))
 | .not a,ρ,K=>wE a ρ λ x=>b1 x λ i=>K (.bl (!i))
 | .cmp o a b,ρ,K=>wE a ρ λ x=>wE b ρ λ y=>gv o x y K
 | .cm2 o o' a b c,ρ,K=>wE a ρ λ x=>wE b ρ λ y=>gv o x y λ z=>b1 z λ k=>if k=true then wE c ρ λ w=>gv o' y w K else K (.bl false)
 | .and a b,ρ,K=>wE a ρ λ x=>b1 x λ k=>if k=true then wE b ρ K else K (.bl false)
 | .or a b,ρ,K=>wE a ρ λ x=>b1 x λ k=>if k=true then K (.bl true) else wE b ρ K
 | .ite c a b,ρ,K=>wE c ρ λ x=>b1 x λ k=>if k=true then wE a ρ K else wE b ρ K
 | .tup l,ρ,K=>wL l ρ λ ts=>ts.all TV.nb=true/\ts.length≤sizeLine/\K (.tup (ts.map .fz))
 | .lst l,ρ,K=>wL l ρ λ ts=>ts.all TV.nb=true/\ts.length≤sizeLine/\K (.own (ts.map .fz))
 | .ix a b,ρ,K=>wE a ρ λ x=>wE b ρ λ y=>ixP x y K
 | .sl a lo hi,ρ,K=>wE a ρ λ x=>wE lo ρ λ y=>oI y λ p=>wE hi ρ λ z=>oI z λ q=>slK x p q K
 | .call f l,ρ,K=>wL l ρ λ ts=>∃P,(∃S,FT[f]?=some S/\S (ts.map .fz) P)/\∀t,P t->(ts.all TV.nb=false->LF t)/\K t
 | .bi f l,ρ,K=>wL l ρ λ ts=>biP f ts K
 | .isi f a,ρ,K=>wE a ρ λ t=>biP f [t] K
 | .mxl a b,ρ,K=>wE a ρ λ t=>wE b ρ λ u=>biP .maxlen [t,u] K
 | .trev k a,ρ,K=>wE a ρ λ t=>biP (.trev k) [t] K
 | .lrng k a,ρ,K=>wE a ρ λ t=>biP (.lrange k) [t] K
 | .dk k a,ρ,K=>dcP GT[k]? λ kvs=>wE a ρ λ y=>t1 y λ x=>∃t,dlk kvs x=some t/\K t
 | .comp own _ js tg k it e,ρ,K=>wL it ρ λ ts=>itP k ts λ its=>its.length < sizeLine /\
   cmF (λ t K'=>stE (List.replicate own.length none++js.map λ j=>(ρ[j]?).join) tg t λ ρ'=>wE e ρ' λ y=>(y.nb=true/\K' [y.fz])) its λ ys=>K (.own ys)
 | .compI own _ js tg k it c e,ρ,K=>wL it ρ λ ts=>itP k ts λ its=>its.length < sizeLine /\
   cmF (λ t K'=>stE (List.replicate own.length none++js.map λ j=>(ρ[j]?).join) tg t λ ρ'=>wE c ρ' λ x=>b1 x λ q=>if q=true then wE e ρ' λ y=>(y.nb=true/\K' [y.fz]) else K' []) its λ ys=>K (.own ys)
 | _,_,_=>False
def wL:Cd->En->(List TV->Prop)->Prop
 | .nil,_,K=>K []
 | .cons a r,ρ,K=>wE a ρ λ t=>wL r ρ λ ts=>K (t::ts)
 | _,_,_=>False
end
end
section
variable {K K':TV->Prop}{t u w:TV}
theorem jn{P P':Int->Int->Prop}(h:∀i j,P i j->P' i j)(q:i2 t u P):i2 t u P':=by
 cases t<;>cases u<;>first | exact h _ _ q | exact q.elim
theorem eF{P P':Int->Prop}(h:∀i,P i->P' i)(q:i1 t P):i1 t P':=by
 cases t<;>first | exact h _ q | exact q.elim
theorem bT{P P':Bool->Prop}(h:∀i,P i->P' i)(q:b1 t P):b1 t P':=by
 cases t<;>first | exact h _ q | exact q.elim
theorem kt{P P':List TV->Prop}(h:∀i,P i->P' i)(q:l1 t P):l1 t P':=by
 cases t<;>first | exact h _ q | exact q.elim
theorem lZ{P P':List TV->Prop}(h:∀i,P i->P' i)(q:s1 t P):s1 t P':=by
 cases t<;>first | exact h _ q | exact q.elim
theorem fN{P P':List TV->Prop}(h:∀i,P i->P' i)(q:k1 b t P):k1 b t P':=by
 cases b
 ·exact kt h q
 ·cases t<;>first | exact h _ q | exact q.elim
theorem ma{P P':Option Int->Prop}(h:∀i,P i->P' i)(q:oI t P):oI t P':=by
 cases t<;>first | exact h _ q | exact q.elim
theorem Fc(h:∀t,K t->K' t)(q:qk t u K):qk t u K':=by
 cases t<;>cases u<;>first | exact h _ q | exact eX q.1 (h _ q.2) | exact q.elim
theorem Fd(h:∀t,K t->K' t)(q:qm t u K):qm t u K':=by
 cases t<;>cases u<;>first | exact q.elim | exact eX q.1 (h _ q.2) | exact eX q.1 (eX q.2.1 (eX q.2.2.1 (h _ q.2.2.2))) | exact eX q.1 (eX q.2.1 (h _ q.2.2))
theorem Fe(h:∀t,K t->K' t)(q:opP o t u K):opP o t u K':=by
 cases o<;>first
  | exact q.elim
  | exact Fc h q
  | exact Fd h q
  | exact jn (λ _ _ q=>h _ q) q
  | exact jn (λ _ _ q=>⟨q.1,h _ q.2⟩) q
theorem Ff(h:∀t,K t->K' t)(q:gtQ t u K):gtQ t u K':=by
 cases t<;>cases u<;>first | exact q.elim | exact h _ q | (obtain⟨ns,ms,a,b,q⟩:=q;exact⟨ns,ms,a,b,h _ q⟩)
theorem fO(h:∀t,K t->K' t)(q:gv o t u K):gv o t u K':=by
 cases o<;>first
  | exact⟨q.1,h _ q.2⟩
  | exact jn (λ _ _ q=>h _ q) q
  | exact Ff h q
  | exact lZ (λ _ q=>⟨q.1,q.2.1,h _ q.2.2⟩) q
theorem Fg(h:∀t,K t->K' t)(q:slK t a b K):slK t a b K':=by
 cases t<;>first | exact h _ q | exact eX q.1 (h _ q.2) | exact q.elim
theorem Fh(h:∀t,K t->K' t)(q:ixP t u K):ixP t u K':=by
 have a:∀l,(i1 u λ i=>∃x,atI l i=some x/\K x)->i1 u λ i=>∃x,atI l i=some x/\K' x:=λ l q=>eF (λ i ⟨c,e,q⟩=>⟨c,e,h _ q⟩) q;have b:∀x:Str,(i1 u λ i=>x.length≤sizeLine/\∃c,atI x.cps.toList i=some c/\K (.str ⟨#[c]⟩))->i1 u λ i=>x.length≤sizeLine/\∃c,atI x.cps.toList i=some c/\K' (.str ⟨#[c]⟩):=λ l q=>eF (λ i ⟨z,c,e,q⟩=>⟨z,c,e,h _ q⟩) q
 cases t with
 | str x=>exact b x q
 | tup l=>exact a l q
 | lst l=>exact a l q
 | bor l=>exact a l q
 | own l=>exact a l q
 | _=>exact q.elim
theorem ky(h:∀t,K t->K' t)(q:biP f ts K):biP f ts K':=by
 have sl:∀ {t:TV}{g:List TV->TV},(s1 t λ l=>K (g l))->s1 t λ l=>K' (g l):=λ q=>lZ (λ _ q=>h _ q) q;have il:∀ {t:TV}{g:Int->TV},(i1 t λ l=>K (g l))->i1 t λ l=>K' (g l):=λ q=>eF (λ _ q=>h _ q) q;have i2l:∀ {t u:TV}{g:Int->Int->TV},(i2 t u λ i j=>K (g i j))->i2 t u λ i j=>K' (g i j):=λ q=>jn (λ _ _ q=>h _ q) q
 rcases ts with _ | ⟨t,_ | ⟨u,_ | ⟨w,r⟩⟩⟩
 ·cases f<;>exact q.elim
 ·cases f with
  | len=>cases t<;>first | exact h _ q | exact q.elim | exact eX q.1 (h _ q.2)
  | tuple=>exact sl q
  | list=>exact sl q
  | trev b=>exact fN (λ _ q=>h _ q) q
  | sum=>exact kt (λ _ ⟨ns,e,q⟩=>⟨ns,e,h _ q⟩) q
  | max=>exact kt (λ _ ⟨ns,e,l,q⟩=>⟨ns,e,l,λ M m z=>h _ (q M m z)⟩) q
  | min=>exact q.elim
  | abs=>exact il q
  | int=>cases t<;>first | exact h _ q | exact q.elim
  | str=>exact eF (λ _ ⟨a,q⟩=>⟨a,h _ q⟩) q
  | sorted=>exact lZ (λ _ ⟨ns,e,l,q⟩=>⟨ns,e,l,λ M m z=>h _ (q M m z)⟩) q
  | any=>exact kt (λ _ ⟨ns,e,q⟩=>⟨ns,e,h _ q⟩) q
  | all=>exact kt (λ _ ⟨ns,e,q⟩=>⟨ns,e,h _ q⟩) q
  | isI=>cases t<;>first | exact h _ q | exact q.elim
  | isB=>cases t<;>first | exact h _ q | exact q.elim
  | isT=>cases t<;>first | exact h _ q | exact q.elim
  | isL=>cases t<;>first | exact h _ q | exact q.elim
  | isS=>cases t<;>first | exact h _ q | exact q.elim
  | lrange k=>exact eF (λ _ ⟨a,q⟩=>⟨a,h _ q⟩) q
  | maxlen=>exact q.elim
 ·cases f with
  | max=>exact i2l q
  | min=>exact i2l q
  | maxlen=>cases t<;>cases u<;>first | exact h _ q | exact q.elim
  | _=>exact q.elim
 ·cases f<;>exact q.elim
theorem gw{K K':List TV->Prop}(h:∀t,K t->K' t)(q:itP k ts K):itP k ts K':=by
 rcases ts with _ | ⟨t,_ | ⟨u,_ | ⟨w,_ | ⟨y,r⟩⟩⟩⟩
 ·cases k<;>exact q.elim
 ·cases k with
  | seq=>exact lZ h q
  | rng=>exact eF (λ _ ⟨a,q⟩=>⟨a,h _ q⟩) q
  | enum a=>exact fN (λ _ q=>h _ q) q
  | rev a=>exact fN (λ _ q=>h _ q) q
  | str=>cases t<;>first | exact h _ q | exact q.elim
  | _=>exact q.elim
 ·cases k with
  | rng2=>exact jn (λ _ _ ⟨a,q⟩=>⟨a,h _ q⟩) q
  | zip a b=>exact fN (λ _ q=>fN (λ _ q=>h _ q) q) q
  | _=>exact q.elim
 ·cases k with
  | rng3=>exact jn (λ _ _ q=>eF (λ _ ⟨a,q⟩=>⟨a,h _ q⟩) q) q
  | zip3=>exact fN (λ _ q=>fN (λ _ q=>fN (λ _ ⟨a,q⟩=>⟨a,h _ q⟩) q) q) q
  | _=>exact q.elim
 ·cases k<;>exact q.elim
theorem Fj(h:∀t,K t->K' t)(q:gtP s K):gtP s K':=by
 cases s with
 | none=>exact q
 | some t=>cases t<;>first | exact h _ q | exact q.elim
theorem vk(q:dcP s P):∃l,s=some (.bor l)/\P l:=by
 cases s with
 | none=>exact q.elim
 | some t=>cases t<;>first | exact⟨_,rfl,q⟩ | exact q.elim
theorem Fk{P P':List TV->Prop}(h:∀l,P l->P' l)(q:dcP s P):dcP s P':=by
 obtain⟨l,e,p⟩:=vk q;subst e;exact h l p
theorem vm(q:t1 t P):∃x,t=.str x/\P x:=by cases t<;>first | exact⟨_,rfl,q⟩ | exact q.elim
theorem Fl{P P':Str->Prop}(h:∀x,P x->P' x)(q:t1 t P):t1 t P':=by
 obtain⟨x,e,p⟩:=vm q;subst e;exact h x p
theorem Fm(h:∀t,K t->K' t)(q:rdV s K):rdV s K':=by
 rcases s with _ | _ | t
 ·exact q
 ·exact q
 ·exact h _ q
theorem eG{K K':En->Prop}(h:∀t,K t->K' t)(q:stE ρ is t K):stE ρ is t K':=by
 rcases is with _ | ⟨i,_ | ⟨j,_ | ⟨k,_ | ⟨l,r⟩⟩⟩⟩
 ·exact q.elim
 ·exact h _ q
 ·cases t with
  | tup l=>rcases l with _ | ⟨x,_ | ⟨y,_ | ⟨z,r⟩⟩⟩<;>first | exact h _ q | exact q.elim
  | _=>exact q.elim
 ·cases t with
  | tup l=>rcases l with _ | ⟨x,_ | ⟨y,_ | ⟨z,_ | ⟨w,r⟩⟩⟩⟩<;>first | exact h _ q | exact q.elim
  | _=>exact q.elim
 ·exact q.elim
theorem mf{b b':TV->(List TV->Prop)->Prop}(hb:∀t K K',(∀y,K y->K' y)->b t K->b' t K'):∀ {l:List TV}{K K':List TV->Prop},(∀y,K y->K' y)->cmF b l K->cmF b' l K'
 | [],_,_,h,q=>h _ q
 | _::_,_,_,h,q=>hb _ _ _ (λ y q=>mf hb (λ ys q=>h _ q) q) q
variable {FT:List PSp}{GT:List TV}
structure Mo (FT:List PSp)(GT:List TV)(c:Cd):Prop where
 e:∀ {ρ:En}{K K':TV->Prop},(∀t,K t->K' t)->wE FT GT c ρ K->wE FT GT c ρ K'
 l:∀ {ρ:En}{K K':List TV->Prop},(∀t,K t->K' t)->wL FT GT c ρ K->wL FT GT c ρ K'
theorem jo{k:Bool}{A A' B B':Prop}(ha:A->A')(hb:B->B')(q:if k=true then A else B):if k=true then A' else B':=by
 cases k
 ·exact hb q
 ·exact ha q
theorem mo(FT:List PSp)(GT:List TV):∀c,Mo FT GT c:=λ c=>by
 induction c with
 | v i=>exact⟨λ h q=>Fm h q,λ _ q=>q.elim⟩
 | c t=>exact⟨λ h q=>h _ q,λ _ q=>q.elim⟩
 | g k=>exact⟨λ h q=>Fj h q,λ _ q=>q.elim⟩
 | bin o a b ia ib=>exact⟨λ h q=>ia.e (λ x q=>ib.e (λ y q=>Fe h q) q) q,λ _ q=>q.elim⟩
 | neg a ia=>exact⟨λ h q=>ia.e (λ x q=>eF (λ _ q=>h _ q) q) q,λ _ q=>q.elim⟩
 | not a ia=>exact⟨λ h q=>ia.e (λ x q=>bT (λ _ q=>h _ q) q) q,λ _ q=>q.elim⟩
 | cmp o a b ia ib=>exact⟨λ h q=>ia.e (λ x q=>ib.e (λ y q=>fO h q) q) q,λ _ q=>q.elim⟩
 | cm2 o o' a b c ia ib ic=>exact⟨λ h q=>ia.e (λ x q=>ib.e (λ y q=>fO (λ z q=>bT (λ k q=>jo (λ q=>ic.e (λ w q=>fO h q) q) (λ q=>h _ q) q) q) q) q) q,λ _ q=>q.elim⟩
 | and a b ia ib=>exact⟨λ h q=>ia.e (λ x q=>bT (λ k q=>jo (λ q=>ib.e h q) (λ q=>h _ q) q) q) q,λ _ q=>q.elim⟩
 | or a b ia ib=>exact⟨λ h q=>ia.e (λ x q=>bT (λ k q=>jo (λ q=>h _ q) (λ q=>ib.e h q) q) q) q,λ _ q=>q.elim⟩
 | ite c a b ic ia ib=>exact⟨λ h q=>ic.e (λ x q=>bT (λ k q=>jo (λ q=>ia.e h q) (λ q=>ib.e h q) q) q) q,λ _ q=>q.elim⟩
 | nil=>exact⟨λ _ q=>q.elim,λ h q=>h _ q⟩
 | cons a r ia ir=>exact⟨λ _ q=>q.elim,λ h q=>ia.e (λ t q=>ir.l (λ ts q=>h _ q) q) q⟩
 | tup l il=>exact⟨λ h q=>il.l (λ ts ⟨a,b,q⟩=>⟨a,b,h _ q⟩) q,λ _ q=>q.elim⟩
 | lst l il=>exact⟨λ h q=>il.l (λ ts ⟨a,b,q⟩=>⟨a,b,h _ q⟩) q,λ _ q=>q.elim⟩
 | ix a b ia ib=>exact⟨λ h q=>ia.e (λ x q=>ib.e (λ y q=>Fh h q) q) q,λ _ q=>q.elim⟩
 | sl a lo hi ia il ih=>exact⟨λ h q=>ia.e (λ x q=>il.e (λ y q=>ma (λ p q=>ih.e (λ z q=>ma (λ r q=>Fg h q) q) q) q) q) q,λ _ q=>q.elim⟩
 | call f l il=>exact⟨λ h q=>il.l (λ ts q=>let ⟨P,s,q⟩:=q;⟨P,s,λ t p=>⟨(q t p).1,h _ (q t p).2⟩⟩) q,λ _ q=>q.elim⟩
 | bi f l il=>exact⟨λ h q=>il.l (λ ts q=>ky h q) q,λ _ q=>q.elim⟩
 | isi f a ia=>exact⟨λ h q=>ia.e (λ t q=>ky h q) q,λ _ q=>q.elim⟩
 | mxl a b ia ib=>exact⟨λ h q=>ia.e (λ t q=>ib.e (λ u q=>ky h q) q) q,λ _ q=>q.elim⟩
 | trev k a ia=>exact⟨λ h q=>ia.e (λ t q=>ky h q) q,λ _ q=>q.elim⟩
 | dk k a ia=>exact⟨λ h q=>Fk (λ kvs q=>ia.e (λ y q=>Fl (λ x ⟨t,e,q⟩=>⟨t,e,h _ q⟩) q) q) q,λ _ q=>q.elim⟩
 | lrng k a ia=>exact⟨λ h q=>ia.e (λ t q=>ky h q) q,λ _ q=>q.elim⟩
 | comp own fv js tg k it e ii ie=>exact⟨λ h q=>ii.l (λ ts q=>gw (λ its q=>⟨q.1,mf (λ t K K' h q=>eG (λ ρ' q=>ie.e (λ y q=>⟨q.1,h _ q.2⟩) q) q) (λ ys q=>h _ q) q.2⟩) q) q,λ _ q=>q.elim⟩
 | compI own fv js tg k it c e ii ic ie=>exact⟨λ h q=>ii.l (λ ts q=>gw (λ its q=>⟨q.1,mf (λ t K K' h q=>eG (λ ρ' q=>ic.e (λ x q=>bT (λ z q=>jo (λ q=>ie.e (λ y q=>⟨q.1,h _ q.2⟩) q) (λ q=>h _ q) q) q) q) q) (λ ys q=>h _ q) q.2⟩) q) q,λ _ q=>q.elim⟩
theorem ao(c:Cd){K K':TV->Prop}(h:∀t,K t->K' t)(q:wE FT GT c ρ K):wE FT GT c ρ K':=(mo FT GT c).e h q
theorem bQ(c:Cd){K K':List TV->Prop}(h:∀t,K t->K' t)(q:wL FT GT c ρ K):wL FT GT c ρ K':=(mo FT GT c).l h q
end
example (FT:List PSp) (GT:List TV) (K:TV->Prop):wE FT GT (.neg (.v 0)) [some (.int 3)] K=K (.int (-3)):=rfl
section
variable {X:Cx}{J:Hp->Prop}
noncomputable def r2(X:Cx)(J:Hp->Prop)(p:TV->TV->(TV->Prop)->Prop):R2:=λ x y H1 Q=>∃F H F1 t u,Grow J F H F1 H1/\Rr X.K H F1 H1 t x/\Rr X.K H F1 H1 u y/\p t u λ r=>∀F' H' v,Grow J F H F' H'->Rr X.K H F' H' r v->Q v H'
theorem dw(h:i2 t u P):∃i j,t=.int i/\u=.int j/\P i j:=by
 cases t<;>cases u<;>first | exact⟨_,_,rfl,rfl,h⟩ | exact h.elim
theorem eZ(h:i1 t P):∃i,t=.int i/\P i:=by
 cases t<;>first | exact⟨_,rfl,h⟩ | exact h.elim
theorem gz(h:b1 t P):∃i,t=.bl i/\P i:=by
 cases t<;>first | exact⟨_,rfl,h⟩ | exact h.elim
theorem gA(h:l1 t P):∃l,t.items=some (false,l)/\P l:=by
 cases t<;>first | exact⟨_,rfl,h⟩ | exact h.elim
theorem jp(h:s1 t P):∃b l,t.items=some (b,l)/\P l:=by
 cases t<;>first | exact⟨_,_,rfl,h⟩ | exact h.elim
theorem Rr.lq{K:FG}{l:List TV}(h:Rr K H F' H' t v)(e:t.items=some (false,l)):∃a vs,v=.ref a/\RpL K F' H' l vs/\SqL K H' a vs:=by
 obtain⟨a,vs,e,r,q⟩:=h.sq e
 rcases q with ⟨z,_⟩ | ⟨_,q⟩
 ·cases z
 ·exact⟨a,vs,e,r,q⟩
theorem gB(hJ:JS J){K:FG}{Q:VK}{vs:List V}(g:Grow J F H F1 H1)(r:RpL K F1 H1 l vs)(q:∀F' H' v,Grow J F H F' H'->Rr K H F' H' (.tup l) v->Q v H')(p:Addr)(hp:H1 p=none):Q (.ref p) (upd H1 p (.tup vs)) :=
 q F1 _ _ (g.trans (.new hJ g.w _ hp)) ⟨p,vs,rfl,.of bz,r.ke (Grow.new hJ g.w _ hp).ke⟩
theorem Grow.none(g:Grow J F H F1 H1)(h:H1 a=none):H a=none:=by
 by_cases z:H a=Option.none
 ·exact z
 ·exact absurd h (g.dm a z)
theorem fb(hJ:JS J){K:FG}{Q:VK}{vs:List V}(g:Grow J F H F1 H1)(r:RpL K F1 H1 l vs)(q:∀F' H' v,Grow J F H F' H'->Rr K H F' H' (.own l) v->Q v H')(p:Addr)(hp:H1 p=none):Q (.ref p) (upd H1 p (.lst vs)) :=
 q F1 _ _ (g.trans (.new hJ g.w _ hp)) ⟨p,vs,rfl,g.none hp,λ z=>g.w.d p z hp,bz,r.ke (Grow.new hJ g.w _ hp).ke⟩
noncomputable def Fn(X:Cx):R2:=λ x y H Q=>∃a k xs,x=.ref a/\y=.int k/\SqT X.K H a xs/\xs≠[]/\(0≤k/\k < 2 ^ 63)/\xs.length * k.toNat≤sizeLine/\(k=1->Q (.ref a) H)/\(k≠1->∀p,H p=none->Q (.ref p) (upd H p (.tup (List.replicate k.toNat xs).flatten)))
theorem Fo:OpR X (binaryOp .Mult) (Fn X):=by
 intro pins s σ H x y v u Q I rx ry h;obtain⟨a,k,xs,rfl,rfl,hH,hx,⟨h1,h2⟩,hz,q1,q2⟩:=h;cases rx;obtain⟨t,rfl⟩:=ry;obtain⟨its,r,pl,_⟩:=I.tuple hH;obtain⟨⟨c,dd,dt,sl⟩,g,hc,n,hd⟩:=id pl;simp only at hc hd;subst hc hd;have hl:=r.length
 have ne:its.toArray.isEmpty=false:=by
  cases its with
  | nil=>exact absurd (r.nil_iff.mp rfl) hx
  | cons _ _=>rfl
 have hz':its.toArray.size * k.toNat≤sizeLine:=by rw[aG,← hl];exact hz
 refine uk (T := "tuple") (U := "int") (by decide) ⟨_,g,rfl⟩ (λ s'=>jZ s' k t) De F.fills_int_mul lL Df F.slot_int_index.lookup
  (eo lL (jZ s k t) F.entry_int_rmul (F.args_int_rmul_2 _ _) (Dg k t a its.toArray n dd sl) ⟨g,rfl,⟨_,g,rfl⟩,?_⟩)
 by_cases e1:k=1
 ·subst e1;exact eo qo ⟨_,g,rfl⟩ qp (qq _ _) (Dh a its.toArray n t dd sl) ⟨g,.ref a,H,I,rfl,q1 rfl⟩
 have fl:∀(m:Nat) (b:LV),(List.replicate m its.toArray).foldl (·++·) b.toArray=(b++(List.replicate m its).flatten).toArray:=by
  intro m
  induction m with
  | zero=>intro b;simp
  | succ m ih =>
   intro b;rw[dL,oN,List.append_toArray,ih,dL,eV,gc]
 have fin:∀bs:LV,bs=(List.replicate k.toNat its).flatten->EP X pins σ Q (.ref s.heap.objs.size) { s with heap:=s.heap.push { cls:=.type "tuple",data:=.seq bs.toArray } }:=by
  rintro bs rfl;refine⟨.ref s.heap.objs.size,_,I.laid (t':=s.toks) (o:=.tup (List.replicate k.toNat xs).flatten) (λ b ob q=>aE _ q) (au _) ?_,rfl,q2 e1 _ (I.hok.fresh (au _))⟩;exact⟨by rw[uj,s1e];exact hz,_,r.rep k.toNat,TupO.new _ _⟩
 by_cases e0:k=0
 ·subst e0;exact eo qo ⟨_,g,rfl⟩ qp (qq _ _) (Di a its.toArray n 0 t dd sl (by lia) (by lia) ne) ⟨g,fin [] rfl⟩
 ·refine eo qo ⟨_,g,rfl⟩ qp (qq _ _) (Dj a its.toArray n k t dd sl (by lia) h2 ne hz') ⟨g,?_⟩;have e:=fl k.toNat [];rw[oP] at e;show EP X pins σ Q (.ref s.heap.objs.size) { s with heap:=s.heap.push { cls:=.type "tuple",data:=.seq ((List.replicate k.toNat its.toArray).foldl (·++·) ([]:LV).toArray) } };rw[e];exact fin _ rfl
theorem Fp(hJ:JS J)(o:Operator):OpR X (binaryOp o) (r2 X J (opP o)):=by
 intro pins s σ H1 x y v u Q I rx ry h;obtain⟨F,H,F1,t,w,g,rt,rw',p⟩:=h
 cases o with
 | Add =>
  cases t with
  | int i =>
   cases rt
   cases w with
   | int j=>cases rw';exact Ao pins s σ H1 _ _ v u Q I rx ry (p F1 H1 _ g rfl)
   | _=>exact p.elim
  | tup l =>
   cases w with
   | tup m =>
    obtain⟨a,vs,rfl,q1,r1⟩:=rt;obtain⟨b,ws,rfl,q2,r2⟩:=rw';obtain⟨lz,p⟩:=p;have rr:=r1.append r2;refine Dc pins s σ H1 _ _ v u Q I rx ry ⟨a,b,vs,ws,rfl,rfl,q1,q2,by rw[← r1.length,← r2.length];exact lz,λ e=>?_,λ _ e=>?_,λ _ _=>gB hJ g rr p⟩
    ·subst e;exact p F1 H1 _ g ⟨b,_,rfl,q2,rr⟩
    ·subst e;rw[fZ] at rr;exact p F1 H1 _ g ⟨a,_,rfl,q1,rr⟩
   | _=>exact p.elim
  | lst l =>
   obtain⟨m,em,lz,p⟩:=gA p;obtain⟨a,vs,rfl,r1,q1⟩:=rt.lq rfl;obtain⟨b,ws,rfl,r2,q2⟩:=rw'.lq em;exact pR pins s σ H1 _ _ v u Q I rx ry ⟨a,b,vs,ws,rfl,rfl,q1,q2,by rw[← r1.length,← r2.length];exact lz,fb hJ g (r1.append r2) p⟩
  | bor l =>
   obtain⟨m,em,lz,p⟩:=gA p;obtain⟨a,vs,rfl,r1,q1⟩:=rt.lq rfl;obtain⟨b,ws,rfl,r2,q2⟩:=rw'.lq em;exact pR pins s σ H1 _ _ v u Q I rx ry ⟨a,b,vs,ws,rfl,rfl,q1,q2,by rw[← r1.length,← r2.length];exact lz,fb hJ g (r1.append r2) p⟩
  | own l =>
   obtain⟨m,em,lz,p⟩:=gA p;obtain⟨a,vs,rfl,r1,q1⟩:=rt.lq rfl;obtain⟨b,ws,rfl,r2,q2⟩:=rw'.lq em;exact pR pins s σ H1 _ _ v u Q I rx ry ⟨a,b,vs,ws,rfl,rfl,q1,q2,by rw[← r1.length,← r2.length];exact lz,fb hJ g (r1.append r2) p⟩
  | _=>exact p.elim
 | Sub =>
  obtain⟨i,j,rfl,rfl,p⟩:=dw p;cases rt;cases rw';exact Ap pins s σ H1 _ _ v u Q I rx ry (p F1 H1 _ g rfl)
 | Mult =>
  cases t with
  | int i =>
   cases rt
   cases w with
   | int j=>cases rw';exact DI pins s σ H1 _ _ v u Q I rx ry ⟨p.1,p.2 F1 H1 _ g rfl⟩
   | _=>exact p.elim
  | own l =>
   cases w with
   | int k =>
    cases rw';obtain⟨a,vs,rfl,n,f,q,r⟩:=rt;obtain⟨k0,lz,p⟩:=p
    have rr:RpL X.K F1 H1 (List.replicate k.toNat l).flatten (List.replicate k.toNat vs).flatten:=by
     generalize k.toNat=m
     induction m with
     | zero=>rfl
     | succ m ih=>rw[dL,dL,eV,eV];exact r.append ih
    exact BR pins s σ H1 _ _ v u Q I rx ry ⟨a,k,vs,rfl,rfl,q,by lia,k0.2,by rw[← r.length];exact lz,fb hJ g rr p⟩
   | _=>exact p.elim
  | tup l =>
   cases w with
   | int k =>
    cases rw';obtain⟨a,vs,rfl,q,r⟩:=rt;obtain⟨l0,k0,lz,p⟩:=p
    have rr:RpL X.K F1 H1 (List.replicate k.toNat l).flatten (List.replicate k.toNat vs).flatten:=by
     generalize k.toNat=m
     induction m with
     | zero=>rfl
     | succ m ih=>rw[dL,dL,eV,eV];exact r.append ih
    have vn:vs≠[]:=λ z=>l0 (mh (by rw[r.length,z];rfl))
    exact Fo pins s σ H1 _ _ v u Q I rx ry ⟨a,k,vs,rfl,rfl,q,vn,k0,by rw[← r.length];exact lz,λ e=>by
     subst e;rw[show((1:Int).toNat)=1 from rfl,List.replicate_one,eV,List.flatten_nil,fZ] at p
     exact p F1 H1 _ g ⟨a,vs,rfl,q,r⟩,λ _=>gB hJ g rr p⟩
   | _=>exact p.elim
  | _=>cases w<;>exact p.elim
 | FloorDiv =>
  obtain⟨i,j,rfl,rfl,⟨c1,c2,c3⟩,p⟩:=dw p;cases rt;cases rw';by_cases c:0 < j
  ·rw[show ax i j=i / j by unfold ax;rw[if_pos c]] at p;exact Dr pins s σ H1 _ _ v u Q I rx ry ⟨⟨c,c3⟩,p F1 H1 _ g rfl⟩
  ·rw[show ax i j=i.fdiv j by unfold ax;rw[if_neg c]] at p;exact Co pins s σ H1 _ _ v u Q I rx ry ⟨⟨c1,c2,by lia⟩,p F1 H1 _ g rfl⟩
 | Mod =>
  obtain⟨i,j,rfl,rfl,c1,p⟩:=dw p;cases rt;cases rw';by_cases c:0 < j
  ·rw[show aq i j=i % j by unfold aq;rw[if_pos c]] at p;exact Aq pins s σ H1 _ _ v u Q I rx ry ⟨c,p F1 H1 _ g rfl⟩
  ·rw[show aq i j=i.fmod j by unfold aq;rw[if_neg c]] at p;exact Ar pins s σ H1 _ _ v u Q I rx ry ⟨c1,p F1 H1 _ g rfl⟩
 | Pow =>
  obtain⟨i,j,rfl,rfl,c1,p⟩:=dw p;cases rt;cases rw';exact As pins s σ H1 _ _ v u Q I rx ry ⟨c1,p F1 H1 _ g rfl⟩
 | RShift =>
  obtain⟨i,j,rfl,rfl,c1,p⟩:=dw p;cases rt;cases rw';exact At pins s σ H1 _ _ v u Q I rx ry ⟨c1,p F1 H1 _ g rfl⟩
 | BitAnd =>
  obtain⟨i,j,rfl,rfl,p⟩:=dw p;cases rt;cases rw';exact Au pins s σ H1 _ _ v u Q I rx ry (p F1 H1 _ g rfl)
 | BitOr =>
  obtain⟨i,j,rfl,rfl,p⟩:=dw p;cases rt;cases rw';exact Av pins s σ H1 _ _ v u Q I rx ry (p F1 H1 _ g rfl)
 | BitXor =>
  obtain⟨i,j,rfl,rfl,p⟩:=dw p;cases rt;cases rw';exact Aw pins s σ H1 _ _ v u Q I rx ry (p F1 H1 _ g rfl)
 | _=>exact p.elim
end
section
variable {X:Cx}{J:Hp->Prop}{pins:LO}{σ:St}{H H1:Hp}{s:Shared}{F F1:Fz}
def FA:Fz:=λ _=>True
theorem Rr.top{K:FG}(h:Rr K H F1 H1 t v):Rp K FA H1 t.fz v:=by
 have k:Ke K F1 H1 FA H1:=.up λ _ _=>trivial
 cases t with
 | own l=>obtain⟨a,vs,e,_,_,q,r⟩:=h;exact⟨a,vs,e,.inl ⟨trivial,.of q⟩,r.ke k⟩
 | bor l=>obtain⟨a,vs,e,_,q,r⟩:=h;exact⟨a,vs,e,.inl ⟨trivial,.of q⟩,r.ke k⟩
 | _=>exact Rp.ke k h
theorem qr{K:FG}(h:Rp K F H t v)(f:flT t=true):eU v=true:=by
 cases t<;>first | (cases h;rfl) | (cases f)
theorem Fq{K:FG}(h:Rp K F H t v)(g:Rp K F H u w)(f:flT t=true)(f':flT u=true):eqV v w=eqT t u:=by
 cases t<;>cases u<;>first | (cases h;cases g;rfl) | (cases f;done) | (cases f';done)
theorem qs{K:FG}:∀ {l:List TV}{vs:List V},RpL K F H l vs->(∀x∈l,flT x=true)->vs.all eU=true
 | [],_,h,_=>by cases h;rfl
 | t::ts,_,⟨v,r,e,h1,h2⟩,f=>by subst e;rw[cw,qr h1 (f t (by simp)),qs h2 λ x hx=>f x (by simp[hx])];rfl
theorem qt{K:FG}(ht:Rp K F H t v)(f:flT t=true):∀ {l:List TV}{vs:List V},RpL K F H l vs->(∀x∈l,flT x=true)->inV v vs=inT t l
 | [],_,h,_=>by cases h;rfl
 | u::ts,_,⟨w,r,e,h1,h2⟩,g=>by
  subst e;have ih:=qt ht f h2 λ x hx=>g x (by simp[hx]);unfold inV inT at *;rw[jX,jX,ih,Fq h1 ht (g u (by simp)) f]
theorem vo(I:Inv X pins σ H s){A:Around}{vs ws:List V}(hu:A.units+9 < cLine)(d:dp 9 (.tup l))(q:SqT X.K H a vs)(r:RpL X.K F H l vs)(q':SqT X.K H b ws)(r':RpL X.K F H m ws) :
  ∃(us us2:LV),s.heap.IsTuple a us.toArray/\s.heap.IsTuple b us2.toArray/\(∀j (h1:j < us.toArray.size) (h2:j < us2.toArray.size),SeqAt.EqAt A.in1 s us.toArray[j] us2.toArray[j] (eqT (l.getD j .non) (m.getD j .non))) /\
   ((List.range (min us.toArray.size us2.toArray.size)).all (λ j=>eqT (l.getD j .non) (m.getD j .non)) && us.toArray.size == us2.toArray.size)=eqTL l m:=by
 obtain⟨us,r1,p1,_⟩:=I.tuple q;obtain⟨us2,r2,p2,_⟩:=I.tuple q';have d':∀x∈l,dp 8 x:=by simpa only[dp] using d
 refine⟨us,us2,p1,p2,λ j k1 k2=>?_,?_⟩
 ·obtain⟨z1,h1,r1',m1⟩:=gu r r1 k1;obtain⟨z2,h2,r2',_⟩:=gu r' r2 k2;exact vj I 8 A.in1 _ _ z1 z2 _ _ (by show A.units+1+8 < cLine;lia) (d' _ m1) h1 h2 r1' r2'
 ·have e1:us.toArray.size=l.length:=by simp[r.length,r1.length]
  have e2:us2.toArray.size=m.length:=by simp[r'.length,r2.length]
  rw[e1,e2];by_cases c:l.length=m.length
  ·rw[← c,Nat.min_self,jm c];simp
  ·rw[jk c];have c':(l.length == m.length)=false:=by simpa using c
   rw[c',lY]
theorem vp(I:Inv X pins σ H s){A:Around}{vs ws:List V}(hu:A.units+9 < cLine)(d:dp 9 (.lst l))(q:SqL X.K H a vs)(r:RpL X.K F H l vs)(q':SqL X.K H b ws)(r':RpL X.K F H m ws) :
  ∃(us us2:LV),s.heap.IsList a us.toArray/\s.heap.IsList b us2.toArray/\(∀j (h1:j < us.toArray.size) (h2:j < us2.toArray.size),SeqAt.EqAt A.in1 s us.toArray[j] us2.toArray[j] (eqT (l.getD j .non) (m.getD j .non)))/\us.toArray.size=l.length/\us2.toArray.size=m.length:=by
 obtain⟨us,r1,p1,_⟩:=I.list q;obtain⟨us2,r2,p2,_⟩:=I.list q';have d':∀x∈l,dp 8 x:=by simpa only[dp] using d
 refine⟨us,us2,p1.isList,p2.isList,λ j k1 k2=>?_,by simp[r.length,r1.length],by simp[r'.length,r2.length]⟩;obtain⟨z1,h1,r1',m1⟩:=gu r r1 k1;obtain⟨z2,h2,r2',_⟩:=gu r' r2 k2;exact vj I 8 A.in1 _ _ z1 z2 _ _ (by show A.units+1+8 < cLine;lia) (d' _ m1) h1 h2 r1' r2'
noncomputable def r2c(X:Cx)(J:Hp->Prop)(p:TV->TV->(TV->Prop)->Prop):R2:=λ x y H1 Q=>∃F H F1 t u,Grow J F H F1 H1/\Rr X.K H F1 H1 t x/\Rr X.K H F1 H1 u y/\p t u λ r=>∀v,Rr X.K H F1 H1 r v->Q v H1
theorem Fs(hu:X.A.units+20 < cLine):OpR X (compareOp .Eq) (r2c X J (gv .Eq)):=by
 intro pins s σ H1 x y v u Q I rx ry h;obtain⟨F,H,F1,t,w,g,rt,rw',c,p⟩:=h;replace p:=p _ rfl;have ht:=rt.top;have hw:=rw'.top;generalize t.fz=t at *;generalize w.fz=w at *;clear rt rw';have fin:EP X pins σ Q (.bool (eqT t w)) s:=⟨.bl _,H1,I,rfl,p⟩
 cases t with
 | tup l =>
  cases w with
  | tup m =>
   obtain⟨a,vs,rfl,q,r⟩:=ht;obtain⟨b,ws,rfl,q',r'⟩:=hw;cases rx;cases ry;obtain⟨us,us2,p1,p2,e,z⟩:=vo I (A:=X.A) (by lia) c q r q' r';exact SeqAt.eq_tupleAt p1 p2 (by lia) e (by rw[z];exact fin)
  | _=>exact c.elim
 | lst l =>
  cases w with
  | lst m =>
   obtain⟨a,vs,rfl,q,r⟩:=ht;obtain⟨b,ws,rfl,q',r'⟩:=hw;cases rx;cases ry;obtain⟨us,us2,p1,p2,e,e1,e2⟩:=vp I (A:=X.A) (by lia) c q.sq r q'.sq r';by_cases k:l.length=m.length
   ·exact SeqAt.eq_listAt p1 p2 (by rw[e1,e2,k]) (by lia) e (by rw[e1,jm k];exact fin)
   ·refine SeqAt.eq_list_lengthsAt p1 p2 (by rw[e1,e2];simpa using k) (by lia) ?_;rw[eqT,jk k] at fin;exact fin
  | _=>exact c.elim
 | int i =>
  cases w with
  | int j=>cases ht;cases hw;exact dF pins s σ H1 _ _ v u Q I rx ry p
  | non=>cases ht;cases hw;exact dF pins s σ H1 _ _ v u Q I rx ry (show bf _ _=true/\_ from ⟨rfl,p⟩)
  | str j=>cases ht;cases hw;exact dF pins s σ H1 _ _ v u Q I rx ry (show bf _ _=true/\_ from ⟨rfl,p⟩)
  | _=>exact c.elim
 | str i =>
  cases w with
  | str j=>cases ht;cases hw;exact dF pins s σ H1 _ _ v u Q I rx ry p
  | non=>cases ht;cases hw;exact dF pins s σ H1 _ _ v u Q I rx ry (show bf _ _=true/\_ from ⟨rfl,p⟩)
  | int j=>cases ht;cases hw;exact dF pins s σ H1 _ _ v u Q I rx ry (show bf _ _=true/\_ from ⟨rfl,p⟩)
  | _=>exact c.elim
 | bl i =>
  cases w with
  | bl j=>cases ht;cases hw;refine dF pins s σ H1 _ _ v u Q I rx ry (show bf _ _=true/\_ from ⟨rfl,?_⟩);cases i<;>cases j<;>exact p
  | non=>cases ht;cases hw;exact dF pins s σ H1 _ _ v u Q I rx ry (show bf _ _=true/\_ from ⟨rfl,p⟩)
  | _=>exact c.elim
 | non =>
  cases w with
  | non=>cases ht;cases hw;exact dF pins s σ H1 _ _ v u Q I rx ry (show bf _ _=true/\_ from ⟨rfl,p⟩)
  | int j=>cases ht;cases hw;exact dF pins s σ H1 _ _ v u Q I rx ry (show bf _ _=true/\_ from ⟨rfl,p⟩)
  | str j=>cases ht;cases hw;exact dF pins s σ H1 _ _ v u Q I rx ry (show bf _ _=true/\_ from ⟨rfl,p⟩)
  | bl j=>cases ht;cases hw;exact dF pins s σ H1 _ _ v u Q I rx ry (show bf _ _=true/\_ from ⟨rfl,p⟩)
  | _=>exact c.elim
 | _=>exact ht.elim
theorem Ft(hu:X.A.units+20 < cLine):OpR X (compareOp .NotEq) (r2c X J (gv .NotEq)):=by
 intro pins s σ H1 x y v u Q I rx ry h;obtain⟨F,H,F1,t,w,g,rt,rw',c,p⟩:=h;replace p:=p _ rfl;have ht:=rt.top;have hw:=rw'.top;generalize t.fz=t at *;generalize w.fz=w at *;clear rt rw';have fin:EP X pins σ Q (.bool (!eqT t w)) s:=⟨.bl _,H1,I,rfl,p⟩
 cases t with
 | tup l =>
  cases w with
  | tup m =>
   obtain⟨a,vs,rfl,q,r⟩:=ht;obtain⟨b,ws,rfl,q',r'⟩:=hw;cases rx;cases ry;obtain⟨us,us2,p1,p2,e,z⟩:=vo I (A:=X.A) (by lia) c q r q' r';exact SeqAt.RcNeAt.tuples p1 p2 (by lia) e _ _ _ _ (by rw[z];exact fin)
  | _=>exact c.elim
 | lst l =>
  cases w with
  | lst m =>
   obtain⟨a,vs,rfl,q,r⟩:=ht;obtain⟨b,ws,rfl,q',r'⟩:=hw;cases rx;cases ry;obtain⟨us,us2,p1,p2,e,e1,e2⟩:=vp I (A:=X.A) (by lia) c q.sq r q'.sq r';by_cases k:l.length=m.length
   ·exact SeqAt.RcNeAt.lists p1 p2 (by rw[e1,e2,k]) (by lia) e _ _ _ _ (by rw[e1,jm k];exact fin)
   ·refine SeqAt.RcNeAt.lists_lengths p1 p2 (by rw[e1,e2];simpa using k) (by lia) _ _ _ _ ?_;rw[eqT,jk k] at fin;exact fin
  | _=>exact c.elim
 | int i =>
  cases w with
  | int j=>cases ht;cases hw;exact dG pins s σ H1 _ _ v u Q I rx ry p
  | non=>cases ht;cases hw;exact dG pins s σ H1 _ _ v u Q I rx ry (show bf _ _=true/\_ from ⟨rfl,p⟩)
  | str j=>cases ht;cases hw;exact dG pins s σ H1 _ _ v u Q I rx ry (show bf _ _=true/\_ from ⟨rfl,p⟩)
  | _=>exact c.elim
 | str i =>
  cases w with
  | str j=>cases ht;cases hw;exact dG pins s σ H1 _ _ v u Q I rx ry p
  | non=>cases ht;cases hw;exact dG pins s σ H1 _ _ v u Q I rx ry (show bf _ _=true/\_ from ⟨rfl,p⟩)
  | int j=>cases ht;cases hw;exact dG pins s σ H1 _ _ v u Q I rx ry (show bf _ _=true/\_ from ⟨rfl,p⟩)
  | _=>exact c.elim
 | bl i =>
  cases w with
  | bl j=>cases ht;cases hw;refine dG pins s σ H1 _ _ v u Q I rx ry (show bf _ _=true/\_ from ⟨rfl,?_⟩);cases i<;>cases j<;>exact p
  | non=>cases ht;cases hw;exact dG pins s σ H1 _ _ v u Q I rx ry (show bf _ _=true/\_ from ⟨rfl,p⟩)
  | _=>exact c.elim
 | non =>
  cases w with
  | non=>cases ht;cases hw;exact dG pins s σ H1 _ _ v u Q I rx ry (show bf _ _=true/\_ from ⟨rfl,p⟩)
  | int j=>cases ht;cases hw;exact dG pins s σ H1 _ _ v u Q I rx ry (show bf _ _=true/\_ from ⟨rfl,p⟩)
  | str j=>cases ht;cases hw;exact dG pins s σ H1 _ _ v u Q I rx ry (show bf _ _=true/\_ from ⟨rfl,p⟩)
  | bl j=>cases ht;cases hw;exact dG pins s σ H1 _ _ v u Q I rx ry (show bf _ _=true/\_ from ⟨rfl,p⟩)
  | _=>exact c.elim
 | _=>exact ht.elim
theorem jq(hu:X.A.units+20 < cLine)(o:CmpOp):OpR X (compareOp o) (r2c X J (gv o)):=by
 cases o with
 | Eq=>exact Fs hu
 | NotEq=>exact Ft hu
 | In =>
  intro pins s σ H1 x y v u Q I rx ry h;obtain⟨F,H,F1,t,w,g,rt,rw',p⟩:=h;obtain⟨b,l,e,f1,f2,p⟩:=jp p;obtain⟨a,vs,rfl,r,q⟩:=rw'.sq e
  have ht:Rp X.K F1 H1 t x:=by cases t<;>first | exact rt | cases f1
  refine BA pins s σ H1 _ _ v u Q I rx ry ⟨a,vs,rfl,?_,qr ht f1,qs r f2,?_⟩
  ·rcases q with ⟨_,q⟩ | ⟨_,q⟩
   ·exact .inr q
   ·exact .inl q
  ·rw[if_neg (by decide),qt ht f1 r f2];exact p _ rfl
 | NotIn =>
  intro pins s σ H1 x y v u Q I rx ry h;obtain⟨F,H,F1,t,w,g,rt,rw',p⟩:=h;obtain⟨b,l,e,f1,f2,p⟩:=jp p;obtain⟨a,vs,rfl,r,q⟩:=rw'.sq e
  have ht:Rp X.K F1 H1 t x:=by cases t<;>first | exact rt | cases f1
  refine BB pins s σ H1 _ _ v u Q I rx ry ⟨a,vs,rfl,?_,qr ht f1,qs r f2,?_⟩
  ·rcases q with ⟨_,q⟩ | ⟨_,q⟩
   ·exact .inr q
   ·exact .inl q
  ·rw[if_pos rfl,qt ht f1 r f2];exact p _ rfl
 | Is =>
  intro pins s σ H1 x y v u Q I rx ry h;obtain⟨F,H,F1,t,w,g,rt,rw',rfl,p⟩:=h;cases rw';have hx:=rt.top;refine AE pins s σ H1 _ _ v u Q I rx ry ⟨rfl,?_⟩;replace p:=p _ rfl
  cases t<;>first | (cases hx;exact p) | (obtain⟨a,vs,rfl,_⟩:=hx;exact p)
 | IsNot =>
  intro pins s σ H1 x y v u Q I rx ry h;obtain⟨F,H,F1,t,w,g,rt,rw',rfl,p⟩:=h;cases rw';have hx:=rt.top;refine AF pins s σ H1 _ _ v u Q I rx ry ⟨rfl,?_⟩;replace p:=p _ rfl
  cases t<;>first | (cases hx;exact p) | (obtain⟨a,vs,rfl,_⟩:=hx;exact p)
 | Lt=>intro pins s σ H1 x y v u Q I rx ry h;obtain⟨F,H,F1,t,w,g,rt,rw',p⟩:=h;obtain⟨i,j,rfl,rfl,p⟩:=dw p;cases rt;cases rw';exact AA pins s σ H1 _ _ v u Q I rx ry (p _ rfl)
 | LtE=>intro pins s σ H1 x y v u Q I rx ry h;obtain⟨F,H,F1,t,w,g,rt,rw',p⟩:=h;obtain⟨i,j,rfl,rfl,p⟩:=dw p;cases rt;cases rw';exact AB pins s σ H1 _ _ v u Q I rx ry (p _ rfl)
 | Gt =>
  intro pins s σ H1 x y v u Q I rx ry h;obtain⟨F,H,F1,t,w,g,rt,rw',p⟩:=h;cases t<;>cases w<;>try exact p.elim
  ·cases rt;cases rw';exact AC pins s σ H1 _ _ v u Q I rx ry (p _ rfl)
  ·obtain⟨ns,ms,rfl,rfl,p⟩:=p;obtain⟨a,vs,rfl,qa,ra⟩:=rt;obtain⟨b,ws,rfl,qb,rb⟩:=rw';exact Fa (by lia) pins s σ H1 _ _ v u Q I rx ry ⟨a,b,ns,ms,rfl,rfl,by rw[← ra.ints];exact qa,by rw[← rb.ints];exact qb,p _ rfl⟩
 | GtE=>intro pins s σ H1 x y v u Q I rx ry h;obtain⟨F,H,F1,t,w,g,rt,rw',p⟩:=h;obtain⟨i,j,rfl,rfl,p⟩:=dw p;cases rt;cases rw';exact AD pins s σ H1 _ _ v u Q I rx ry (p _ rfl)
theorem Fu{K:FG}{vs:List V}(r:RpL K F H l vs)(e:atI l i=some t):∃v,atI vs i=some v/\Rp K F H t v:=by
 unfold atI at *;rw[← r.length]
 cases q:ixN l.length i with
 | none=>rw[q] at e;cases e
 | some j=>rw[q] at e;exact r.get e
theorem Fv:IxR X (r2 X J ixP):=by
 intro value slice pins s σ H1 x y v u Q I rx ry h hs;obtain⟨F,H,F1,t,w,g,rt,rw',p⟩:=h
 have key:∀b l,t.items=some (b,l)->(i1 w λ i=>∃x,atI l i=some x/\∀F' H' v,Grow J F H F' H'->Rr X.K H F' H' x v->Q v H')->wpAny (model X.prog X.w) X.A (subscriptTail value slice v u) (EP X pins σ Q) X.xe s:=λ b l e p=>by
  obtain⟨i,rfl,z,ez,p⟩:=eZ p;cases rw';obtain⟨a,vs,rfl,r,q⟩:=rt.sq e;obtain⟨zv,e1,rz⟩:=Fu r ez;have fin:=p F1 H1 _ g (Rr.of rz)
  rcases q with ⟨_,q⟩ | ⟨_,q⟩
  ·exact oH value slice pins s σ H1 _ _ v u Q I rx ry (.inr (.inl ⟨a,vs,i,zv,rfl,rfl,q,e1,fin⟩)) hs
  ·exact oH value slice pins s σ H1 _ _ v u Q I rx ry (.inl ⟨a,vs,i,zv,rfl,rfl,q,e1,fin⟩) hs
 cases t with
 | str x =>
  obtain⟨i,rfl,lz,c,ec,p⟩:=eZ p;cases rw';cases rt;exact oH value slice pins s σ H1 _ _ v u Q I rx ry (.inr (.inr ⟨x,i,c,rfl,rfl,lz,ec,p F1 H1 _ g rfl⟩)) hs
 | tup l=>exact key _ _ rfl p
 | lst l=>exact key _ _ rfl p
 | bor l=>exact key _ _ rfl p
 | own l=>exact key _ _ rfl p
 | _=>exact p.elim
noncomputable def rsl(X:Cx)(J:Hp->Prop):V->Option Int->Option Int->Hp->VK->Prop:=λ x lo hi H1 Q=>∃F H F1 t,Grow J F H F1 H1/\Rr X.K H F1 H1 t x /\
 slK t lo hi λ r=>∀F' H' v,Grow J F H F' H'->Rr X.K H F' H' r v->Q v H'
theorem qu{K:FG}{vs:List V}(r:RpL K F H l vs)(lo hi:Option Int):RpL K F H (af l lo hi) (fG vs lo hi):=by
 unfold af fG;rw[← r.length];exact(r.drop _).take _
theorem Fw(hJ:JS J):SlR X (rsl X J):=by
 intro pins s σ H1 x v vl vu lo hi sl Q I rx hs pl pu h;obtain⟨F,H,F1,t,g,rt,p⟩:=h
 have key:∀l,t.items=some (false,l)->(∀F' H' v,Grow J F H F' H'->Rr X.K H F' H' (.own (af l lo hi)) v->Q v H')->∃T id,typeLookup (.type T) "__getitem__"=pure (some (.builtin id))/\s.TypeIs v T/\wpAny (model X.prog X.w) X.A (getItem v (.ref sl)) (EP X pins σ Q) X.xe s:=λ l e p=>by
  obtain⟨a,vs,rfl,r,q⟩:=rt.lq e;exact Bz pins s σ H1 _ v vl vu lo hi sl Q I rx hs pl pu ⟨a,vs,rfl,q,fb hJ g (qu r lo hi) p⟩
 cases t with
 | tup l =>
  obtain⟨a,xs,rfl,ha,r⟩:=rt;by_cases c:_H.sIx xs.length 0 lo=0/\_H.sIx xs.length xs.length hi=xs.length
  ·cases rx;obtain⟨its,rr,ht,hz⟩:=I.tuple ha;have hlen:its.toArray.size=xs.length:=by rw[aG];exact rr.length.symm
   refine⟨"tuple",_,PyProof.Rows.slot_tuple_getitem.lookup,ht.typeIs,_H.whole_tup ht hs pl pu (by rw[hlen];exact c.1) (by rw[hlen];exact c.2) ⟨.ref a,H1,I,rfl,p F1 H1 _ g ⟨a,xs,rfl,ha,?_⟩⟩⟩;have z:=qu r lo hi;unfold fG at z
   rwa [c.1,c.2,qv,Nat.sub_zero,fc] at z
  ·exact Bn pins s σ H1 _ v vl vu lo hi sl Q I rx hs pl pu ⟨a,xs,rfl,ha,c,gB hJ g (qu r lo hi) p⟩
 | str z=>cases rt;exact DQ pins s σ H1 _ v vl vu lo hi sl Q I rx hs pl pu ⟨z,rfl,p.1,p.2 F1 H1 _ g rfl⟩
 | lst l=>exact key l rfl p
 | bor l=>exact key l rfl p
 | own l=>exact key l rfl p
 | _=>exact p.elim
end
section
variable {X:Cx}{J:Hp->Prop}
noncomputable def vq(X:Cx):V->V->Hp->VK->Prop:=λ x y H Q=>∃(a b:Addr) (xs ys:List V),x=.ref a/\y=.ref b/\SqT X.K H a xs/\SqT X.K H b ys/\(ys.length≤xs.length->Q (.ref a) H)/\(xs.length < ys.length->Q (.ref b) H)
theorem Fx{p kp pos p2:Pos}(hc:X.calm=true)(hg:Gl X "max")(hm:X.mg "max"=none)(hg2:Gl X "len")(hm2:X.mg "len"=none)(he:PE X e te)(hf:PE X f tf)(hs:autoParam (starEach [e,f] X.env=(false,eval e X.env)::starEach [f] X.env) Z3_)(hs2:autoParam (starEach [f] X.env=[(false,eval f X.env)]) Z3_):PE X (.Call (.Name "max" p) [e,f] [⟨some (Str.ofString "key"),.Name "len" p2,kp⟩] pos) (Ei (vq X) te tf):=by
 intro pins s σ H Q I h;refine iX (eQ I hg hm boot_max ?_);have hA:=(bI he (bI hf (pa_nil (X:=X)) hs2) hs) pos pins s σ H (λ vs H1=>match vs with | [x,y]=>vq X x y H1 Q | _=>False) I h;refine callWith_kw (thn hA λ us s1 ⟨vs,H1,I1,r1,q1⟩=>?_) (by rw[hs,hs2];rfl) (by rw[hs,hs2];rfl)
 match vs,q1 with
 | [x0,y0],q1 =>
  obtain⟨u,v,rfl,ru,rv⟩:=iV r1;refine kws_cons (eQ I1 hg2 hm2 boot_len (kws_nil ?_));obtain⟨a,b,xs,ys,rfl,rfl,ha,hb,qa,qb⟩:=q1;cases (show u=Value.ref a from ru);cases (show v=Value.ref b from rv);obtain⟨i1,t1,p1,y1⟩:=I1.tuple ha;obtain⟨i2,t2,p2',y2⟩:=I1.tuple hb;have l1:=t1.length;have l2:=t2.length;have hsz:sizeLine=16777216:=fF;refine Eh (I1.ok.hd hc) p1 p2' (by rw[aG];lia) (by rw[aG];lia) λ v h' tk hv kk=>?_;simp only[aG] at hv
  rcases hv with ⟨rfl,hl⟩ | ⟨rfl,hl⟩
  ·exact⟨.ref a,H1,I1.kept kk,rfl,qa (by lia)⟩
  ·exact⟨.ref b,H1,I1.kept kk,rfl,qb (by lia)⟩
noncomputable def rL(X:Cx)(J:Hp->Prop)(p:List TV->(TV->Prop)->Prop):List V->Hp->VK->Prop:=λ xs H1 Q=>∃F H F1 ts,Grow J F H F1 H1/\RrL X.K H F1 H1 ts xs/\p ts λ r=>∀F' H' v,Grow J F H F' H'->Rr X.K H F' H' r v->Q v H'
noncomputable def biV:BI->Value
 | .len=>.builtin "len" | .tuple=>.type "tuple" | .list=>.type "list" | .sum=>.builtin "sum" | .max=>.builtin "max" | .min=>.builtin "min" | .abs=>.builtin "abs" | .int=>.type "int" | .str=>.type "str"
 | .sorted=>.builtin "sorted" | .any=>.builtin "any" | .all=>.builtin "all" | _=>.none
theorem jr{K:FG}{t:TV}(h:RrL K H F1 H1 [t] xs):∃x,xs=[x]/\Rr K H F1 H1 t x:=by
 cases h with
 | cons r q=>cases q;exact⟨_,rfl,r⟩
theorem vt{K:FG}{t u:TV}(h:RrL K H F1 H1 [t,u] xs):∃x y,xs=[x,y]/\Rr K H F1 H1 t x/\Rr K H F1 H1 u y:=by
 cases h with
 | cons r q=>obtain⟨y,rfl,r'⟩:=jr q;exact⟨_,y,rfl,r,r'⟩
theorem Fy(h:rL X J p xs H1 Q)(n:∀ts K,p ts K->ts.length=1):∃F H F1 t x,xs=[x]/\Grow J F H F1 H1/\Rr X.K H F1 H1 t x/\p [t] λ r=>∀F' H' v,Grow J F H F' H'->Rr X.K H F' H' r v->Q v H':=by
 obtain⟨F,H,F1,ts,g,r,q⟩:=h
 match ts,n _ _ q with
 | [t],_=>obtain⟨x,rfl,rx⟩:=jr r;exact⟨F,H,F1,t,x,rfl,g,rx,q⟩
theorem qw{K:FG}{b:Bool}{vs:List V}(q:(b=true/\SqT K H' a vs)\/(b=false/\SqL K H' a vs)):SqL K H' a vs\/SqT K H' a vs:=q.elim (λ z=>.inr z.2) λ z=>.inl z.2
theorem bi1{f:BI}(h:f=.len\/f=.tuple\/f=.list\/f=.sum\/f=.abs\/f=.int\/f=.sorted\/f=.any):∀ts K,biP f ts K->ts.length=1:=by
 intro ts K q
 rcases ts with _ | ⟨t,_ | ⟨u,_ | ⟨w,r⟩⟩⟩
 ·rcases h with rfl | rfl | rfl | rfl | rfl | rfl | rfl | rfl<;>exact q.elim
 ·rfl
 ·rcases h with rfl | rfl | rfl | rfl | rfl | rfl | rfl | rfl<;>exact q.elim
 ·rcases h with rfl | rfl | rfl | rfl | rfl | rfl | rfl | rfl<;>exact q.elim
theorem gC(hJ:JS J)(hc:X.calm=true)(f:BI)(h:f=.len\/f=.tuple\/f=.list\/f=.sum\/f=.abs\/f=.int\/f=.sorted\/f=.any):bG X (biV f) (rL X J (biP f)):=by
 intro pins s σ H1 xs us Q I rs hh;obtain⟨F,H,F1,t,x,rfl,g,rt,p⟩:=Fy hh (bi1 h)
 rcases h with rfl | rfl | rfl | rfl | rfl | rfl | rfl | rfl
 ·have key:∀b l,t.items=some (b,l)->(∀F' H' v,Grow J F H F' H'->Rr X.K H F' H' (.int l.length) v->Q v H')->wpAny (model X.prog X.w) X.A (call (biV .len) us) (EP X pins σ Q) X.xe s:=λ b l e p=>by
   obtain⟨a,vs,rfl,r,q⟩:=rt.sq e;exact BC pins s σ H1 _ us Q I rs ⟨a,vs,rfl,qw q,by rw[← r.length];exact p F1 H1 _ g rfl⟩
  cases t with
  | str z=>cases rt;exact BE pins s σ H1 _ us Q I rs ⟨z,rfl,p.1,p.2 F1 H1 _ g rfl⟩
  | tup l=>exact key _ _ rfl p
  | lst l=>exact key _ _ rfl p
  | bor l=>exact key _ _ rfl p
  | own l=>exact key _ _ rfl p
  | _=>exact p.elim
 ·obtain⟨b,l,e,p⟩:=jp p;obtain⟨a,vs,rfl,r,q⟩:=rt.sq e;refine BG pins s σ H1 _ us Q I rs ⟨a,vs,rfl,?_⟩
  rcases q with ⟨_,q⟩ | ⟨_,q⟩
  ·exact .inr ⟨q,p F1 H1 _ g ⟨a,vs,rfl,q,r⟩⟩
  ·exact .inl ⟨q,gB hJ g r p⟩
 ·obtain⟨b,l,e,p⟩:=jp p;obtain⟨a,vs,rfl,r,q⟩:=rt.sq e;exact BF pins s σ H1 _ us Q I rs ⟨a,vs,rfl,qw q,fb hJ g r p⟩
 ·obtain⟨l,e,ns,rfl,p⟩:=gA p;obtain⟨a,vs,rfl,r,q⟩:=rt.lq e;cases r.ints;exact Dd hc pins s σ H1 _ us Q I rs ⟨a,ns,rfl,q,p F1 H1 _ g rfl⟩
 ·obtain⟨i,rfl,p⟩:=eZ p;cases rt;exact AK pins s σ H1 _ us Q I rs ⟨i,rfl,p F1 H1 _ g rfl⟩
 ·cases t with
  | int i=>cases rt;exact tF pins s σ H1 _ us Q I rs (.inl ⟨i,rfl,p F1 H1 _ g rfl⟩)
  | bl i=>cases rt;exact tF pins s σ H1 _ us Q I rs (.inr ⟨i,rfl,p F1 H1 _ g rfl⟩)
  | _=>exact p.elim
 ·obtain⟨b,l,e,ns,rfl,n64,p⟩:=jp p;obtain⟨a,vs,rfl,r,q⟩:=rt.sq e;cases r.ints;exact DJ pins s σ H1 _ us Q I rs ⟨a,ns,rfl,qw q,n64,λ ns' p1 p2=>fb hJ g (RpL.ofInts ns') (p ns' p1 p2)⟩
 ·obtain⟨l,e,ns,rfl,p⟩:=gA p;obtain⟨a,vs,rfl,r,q⟩:=rt.lq e;cases r.bls;exact DS hc pins s σ H1 _ us Q I rs ⟨a,ns,rfl,q,p F1 H1 _ g rfl⟩
theorem FC(hc:X.calm=true):bG X (.builtin "max") (rL X J (biP .max)):=by
 intro pins s σ H1 xs us Q I rs h;obtain⟨F,H,F1,ts,g,r,p⟩:=h
 rcases ts with _ | ⟨t,_ | ⟨u,_ | ⟨w,r⟩⟩⟩
 ·exact p.elim
 ·obtain⟨x,rfl,rt⟩:=jr r;obtain⟨l,e,ns,rfl,l0,p⟩:=gA p;obtain⟨a,vs,rfl,r,q⟩:=rt.lq e;cases r.ints;exact Ec hc pins s σ H1 _ us Q I rs ⟨a,ns,rfl,q,l0,λ M m z=>p M m z F1 H1 _ g rfl⟩
 ·obtain⟨x,y,rfl,rt,ru⟩:=vt r;obtain⟨i,j,rfl,rfl,p⟩:=dw p;cases rt;cases ru;exact AL hc pins s σ H1 _ us Q I rs ⟨i,j,rfl,p F1 H1 _ g rfl⟩
 ·exact p.elim
theorem FD(hc:X.calm=true):bG X (.builtin "min") (rL X J (biP .min)):=by
 intro pins s σ H1 xs us Q I rs h;obtain⟨F,H,F1,ts,g,r,p⟩:=h
 rcases ts with _ | ⟨t,_ | ⟨u,_ | ⟨w,r⟩⟩⟩
 ·exact p.elim
 ·exact p.elim
 ·obtain⟨x,y,rfl,rt,ru⟩:=vt r;obtain⟨i,j,rfl,rfl,p⟩:=dw p;cases rt;cases ru;exact AM hc pins s σ H1 _ us Q I rs ⟨i,j,rfl,p F1 H1 _ g rfl⟩
 ·exact p.elim
noncomputable def isN:BI->String
 | .isI => "int" | .isB => "bool" | .isT => "tuple" | .isL => "list" | .isS => "str" | _ => ""
noncomputable def tyT:TV->String
 | .non => "NoneType" | .bl _ => "bool" | .int _ => "int" | .str _ => "str" | .tup _ => "tuple" | _ => "list"
theorem FE{t:TV}{Q:VS}(I:Inv X pins σ H1 s)(ht:Rp X.K FA H1 t.fz x)(rx:RelV x u)
  (e:W.kitOne X.K (.type (tyT t)) (.type n)=some b) (h:∀tk,Q (.bool b) { s with toks:=tk }):wpAny (model X.prog X.w) A (call (.builtin "isinstance") [u,.type n]) Q E s:=by
 have lst:∀ {l a vs},x=.ref a->SqL X.K H1 a vs->RpL X.K FA H1 l vs->tyT t="list" -> wpAny (model X.prog X.w) A (call (.builtin "isinstance") [u,.type n]) Q E s:=λ ex q r et=>by
  subst ex;cases rx;obtain⟨its,_,⟨o,n,e1,c,_⟩,_⟩:=I.list q;rw[et] at e;exact jt W.kitx_list I.kIn ⟨_,e1,c⟩ e (λ z=>nomatch z) h
 cases t with
 | non=>cases ht;cases rx;exact jt W.kitx_none I.kIn gp e (λ z=>nomatch z) h
 | bl y=>cases ht;cases rx;exact jt W.kitx_bool I.kIn gp e (λ z=>nomatch z) h
 | int i=>cases ht;obtain⟨t,rfl⟩:=rx;exact jt W.kitx_int I.kIn gp e (λ z=>nomatch z) h
 | str i=>cases ht;obtain⟨t,rfl⟩:=rx;exact jt W.kitx_str I.kIn gp e (λ z=>nomatch z) h
 | tup l =>
  obtain⟨a,vs,rfl,q,r⟩:=ht;cases rx;obtain⟨its,_,⟨o,e1,c,_⟩,_⟩:=I.tuple q;exact jt W.kitx_tuple I.kIn ⟨_,e1,c⟩ e (λ z=>nomatch z) h
 | lst l=>obtain⟨a,vs,rfl,q,r⟩:=ht;exact lst rfl q.sq r rfl
 | bor l=>obtain⟨a,vs,rfl,q,r⟩:=ht;exact lst rfl q.sq r rfl
 | own l=>obtain⟨a,vs,rfl,q,r⟩:=ht;exact lst rfl q.sq r rfl
theorem FF{K:FG}(f:BI)(h:f=.isI\/f=.isB\/f=.isT\/f=.isL\/f=.isS)(t:TV):W.kitOne K (.type (tyT t)) (.type (isN f))=some (oY (tyT t) (isN f)):=by
 have m:tyT t="NoneType" \/ tyT t="bool" \/ tyT t="int" \/ tyT t="str" \/ tyT t="tuple" \/ tyT t="list" := by cases t<;>simp[tyT]
 generalize tyT t=y at *
 rcases m with rfl | rfl | rfl | rfl | rfl | rfl<;>rcases h with rfl | rfl | rfl | rfl | rfl<;>exact Cp (by decide +kernel)
theorem FH(f:BI)(h:f=.isI\/f=.isB\/f=.isT\/f=.isL\/f=.isS):bG X (.builtin "isinstance") (λ xs H1 Q=>∃x,xs=[x,.ty (isN f)]/\rL X J (biP f) [x] H1 Q):=by
 intro pins s σ H1 xs us Q I rs hh;obtain⟨x,rfl,F,H,F1,ts,g,r,p⟩:=hh;obtain⟨u,w',rfl,rx,ry⟩:=iV rs;cases (show w'=Value.type _ from ry)
 have n1:∃t,ts=[t]:=by
  cases r with
  | cons a b=>cases b;exact⟨_,rfl⟩
 obtain⟨t,rfl⟩:=n1;obtain⟨_,e0,rt⟩:=jr r;cases e0;refine FE I rt.top rx (FF f h t) λ tk=>⟨.bl _,H1,I.tok tk,rfl,?_⟩;have e1:∀b,oY (tyT t) (isN f)=b->(∀F' H' v,Grow J F H F' H'->Rr X.K H F' H' (.bl b) v->Q v H')->Q (.bl (oY (tyT t) (isN f))) H1:=λ b e q=>by rw[e];exact q F1 H1 _ g rfl
 rcases h with rfl | rfl | rfl | rfl | rfl<;>cases t<;>first | exact p.elim | exact e1 true (by simp only[tyT,isN];decide +kernel) p | exact e1 false (by simp only[tyT,isN];decide +kernel) p
end
section
variable {K:FG}{J:Hp->Prop}
noncomputable def Vw(K:FG)(F:Fz)(H:Hp)(t:TV)(x:V):Prop:=match t.items with
 | some (true,l)=>∃a vs,x=.ref a/\SqT K H a vs/\RpL K F H l vs
 | some (false,l)=>∃a vs,x=.ref a/\SqL K H a vs/\RpL K F H l vs
 | none=>Rp K F H t x
theorem Vw.l{t:TV}{l:List TV}(h:Vw K F H t x)(e:t.items=some (false,l)):∃a vs,x=.ref a/\SqL K H a vs/\RpL K F H l vs:=by
 unfold Vw at h;rw[e] at h;exact h
theorem Vw.t{t:TV}{l:List TV}(h:Vw K F H t x)(e:t.items=some (true,l)):∃a vs,x=.ref a/\SqT K H a vs/\RpL K F H l vs:=by
 unfold Vw at h;rw[e] at h;exact h
theorem Rr.vw{H F1 H1}(h:Rr K H F1 H1 t x):Vw K F1 H1 t x:=by
 unfold Vw
 cases e:t.items with
 | none=>cases t<;>first | exact h | cases e
 | some p =>
  obtain⟨b,l⟩:=p;obtain⟨a,vs,rfl,r,q⟩:=h.sq e;cases b
  ·rcases q with ⟨z,_⟩ | ⟨_,q⟩
   ·cases z
   ·exact⟨a,vs,rfl,q,r⟩
  ·rcases q with ⟨_,q⟩ | ⟨z,_⟩
   ·exact⟨a,vs,rfl,q,r⟩
   ·cases z
theorem Rp.vw{F1 H1}{t:TV}(h:Rp K F1 H1 t.fz x):Vw K F1 H1 t x:=by
 cases t with
 | bor l=>obtain⟨a,vs,e,q,r⟩:=h;exact⟨a,vs,e,q.sq,r⟩
 | own l=>obtain⟨a,vs,e,q,r⟩:=h;exact⟨a,vs,e,q.sq,r⟩
 | lst l=>obtain⟨a,vs,e,q,r⟩:=h;exact⟨a,vs,e,q.sq,r⟩
 | _=>exact h
structure ItOk (K:FG)(J:Hp->Prop)(Jt:It)(its ts:List TV)(xs:List V):Prop where
 go:∀F H i,Wd J F H->Paired (Vw K F H) ts xs->i < its.length->Jt.go i H
 stop:∀F H,Wd J F H->Paired (Vw K F H) ts xs->Jt.stop its.length H
 yld:∀F H i x H',Wd J F H->Paired (Vw K F H) ts xs->i < its.length->Jt.yld i H x H'->∃t,its[i]?=some t/\Grow J F H F H'/\Rp K F H' t x
theorem ju{t:TV}{x:V}(h:Paired (Vw K F H) [t] [x]):Vw K F H t x:=by cases h with | cons r _=>exact r
theorem iq{α:Type}{l:List α}{i:Nat}(h:i < l.length):∃x,l[i]?=some x:=⟨_,bP h⟩
theorem FJ{t:TV}{l:List TV}(e:t.items=some (false,l)):ItOk K J (Itl K a) l [t] [.ref a] where
 go F H i w h hi:=by
  obtain⟨b,vs,eb,q,r⟩:=(ju h).l e;cases eb;obtain⟨x,ex⟩:=iq (l:=vs) (by rw[← r.length];exact hi);exact⟨vs,x,q,ex⟩
 stop F H w h:=by
  obtain⟨b,vs,eb,q,r⟩:=(ju h).l e;cases eb;exact⟨vs,q,by rw[r.length];exact au _⟩
 yld F H i x H' w h hi y:=by
  obtain⟨b,vs,eb,q,r⟩:=(ju h).l e;cases eb;obtain⟨rfl,y⟩:=y;obtain⟨t,et⟩:=iq hi;obtain⟨v,ev,rv⟩:=r.get et;have:=y vs q;rw[ev] at this;cases this;exact⟨t,et,.refl w,rv⟩
theorem FK{t:TV}{l:List TV}(e:t.items=some (true,l)):ItOk K J (Itt K a) l [t] [.ref a] where
 go F H i w h hi:=by
  obtain⟨b,vs,eb,q,r⟩:=(ju h).t e;cases eb;obtain⟨x,ex⟩:=iq (l:=vs) (by rw[← r.length];exact hi);exact⟨vs,x,q,ex⟩
 stop F H w h:=by
  obtain⟨b,vs,eb,q,r⟩:=(ju h).t e;cases eb;exact⟨vs,q,by rw[r.length];exact au _⟩
 yld F H i x H' w h hi y:=by
  obtain⟨b,vs,eb,q,r⟩:=(ju h).t e;cases eb;obtain⟨rfl,y⟩:=y;obtain⟨t,et⟩:=iq hi;obtain⟨v,ev,rv⟩:=r.get et;have:=y vs q;rw[ev] at this;cases this;exact⟨t,et,.refl w,rv⟩
theorem FL(lo:Int)(n:Nat):ItOk K J (Itr lo n) ((List.range n).map λ k=>.int (lo+(k:Nat))) ts xs where
 go F H i w h hi:=by show i < n;simpa using hi
 stop F H w h:=by show n≤_;simp
 yld F H i x H' w h hi y:=by
  obtain⟨rfl,rfl⟩:=y;have hi':i < n:=by simpa using hi
  exact⟨.int (lo+(i:Nat)),by rw[bW,qx hi'];rfl,.refl w,rfl⟩
theorem Vw.b{t:TV}{b:Bool}{l:List TV}(h:Vw K F H t x)(e:t.items=some (b,l)):∃a vs,x=.ref a/\SqB K b H a vs/\RpL K F H l vs:=by
 cases b
 ·exact h.l e
 ·exact h.t e
end
noncomputable def gl(nm:List (Str × NameKind))(x:Str):Bool:=decide (nm.lookup x=some .globalImplicit)
noncomputable def vs(nm:List (Str × NameKind))(x:Str):Bool:=decide (nm.lookup x=some .local) || decide (nm.lookup x=some .cell) || decide (nm.lookup x=some .free)
noncomputable def cf(nm:List (Str × NameKind))(x:Str):Bool:=decide (nm.lookup x=some .cell) || decide (nm.lookup x=some .free)
noncomputable def okN(x:Str):Bool:=!decide (x=("__debug__" : Str)) && !decide (x=("__classdict__" : Str)) && !decide (x=("__name__" : Str))
noncomputable def ckC:TV->Const->Bool
 | .int i,.int j=>decide (i=j)
 | .str x,.str y=>decide (x=y)
 | .bl x,.bool y=>decide (x=y)
 | .non,.none=>true
 | _,_=>false
def vv:Cd->Bool
 | .nil=>true | _=>false
def jv:Cd->Bool
 | .c .non=>true | _=>false
def aT:Expr->Bool
 | .Starred ..=>false | _=>true
def dy:Expr->Bool
 | .Set ..=>false | _=>true
noncomputable def iu:Expr->Bool
 | .Name ..=>true | .Constant (.int _) _ _=>true | .BinOp ..=>true | .Subscript ..=>true | .Call ..=>true | .UnaryOp ..=>true | _=>false
noncomputable def vx:BI->Bool
 | .isI=>true | .isB=>true | .isT=>true | .isL=>true | .isS=>true | _=>false
noncomputable def biN:BI->Option Str
 | .len=>some "len" | .tuple=>some "tuple" | .list=>some "list" | .sum=>some "sum" | .max=>some "max" | .min=>some "min" | .abs=>some "abs" | .int=>some "int"
 | .sorted=>some "sorted" | .any=>some "any" | _=>none
noncomputable def aO(e:Expr)(k:Str->Pos->Bool):Bool:=match e with | .Name x p=>k x p | _=>false
@[elab_as_elim] theorem aK{motive:Expr->Prop}{e:Expr}{k:Str->Pos->Bool}(h:aO e k=true)(f:∀x p,k x p=true->motive (.Name x p)):motive e:=by cases e<;>first | exact f _ _ h | exact Bool.noConfusion h
theorem FM(h:aO e k=true):∃x p,e=.Name x p/\k x p=true:=by cases e<;>first | exact⟨_,_,rfl,h⟩ | exact Bool.noConfusion h
noncomputable def iw(e:Expr)(k:Const->Nat->Pos->Bool):Bool:=match e with | .Constant x p q=>k x p q | _=>false
@[elab_as_elim] theorem fP{motive:Expr->Prop}{e:Expr}{k:Const->Nat->Pos->Bool}(h:iw e k=true)(f:∀x p q,k x p q=true->motive (.Constant x p q)):motive e:=by cases e<;>first | exact f _ _ _ h | exact Bool.noConfusion h
noncomputable def vy(e:Expr)(k:Expr->Operator->Expr->Pos->Bool):Bool:=match e with | .BinOp x p q r=>k x p q r | _=>false
@[elab_as_elim] theorem FN{motive:Expr->Prop}{e:Expr}{k:Expr->Operator->Expr->Pos->Bool}(h:vy e k=true)(f:∀x p q r,k x p q r=true->motive (.BinOp x p q r)):motive e:=by cases e<;>first | exact f _ _ _ _ h | exact Bool.noConfusion h
noncomputable def cUn(e:Expr)(k:UnaryOp->Expr->Pos->Bool):Bool:=match e with | .UnaryOp x p q=>k x p q | _=>false
@[elab_as_elim] theorem vz{motive:Expr->Prop}{e:Expr}{k:UnaryOp->Expr->Pos->Bool}(h:cUn e k=true)(f:∀x p q,k x p q=true->motive (.UnaryOp x p q)):motive e:=by cases e<;>first | exact f _ _ _ h | exact Bool.noConfusion h
noncomputable def qy(e:Expr)(k:Expr->List CmpOp->List Expr->Pos->Bool):Bool:=match e with | .Compare x p q r=>k x p q r | _=>false
@[elab_as_elim] theorem vA{motive:Expr->Prop}{e:Expr}{k:Expr->List CmpOp->List Expr->Pos->Bool}(h:qy e k=true)(f:∀x p q r,k x p q r=true->motive (.Compare x p q r)):motive e:=by cases e<;>first | exact f _ _ _ _ h | exact Bool.noConfusion h
noncomputable def cBo(e:Expr)(k:BoolOp->List Expr->Pos->Bool):Bool:=match e with | .BoolOp x p q=>k x p q | _=>false
@[elab_as_elim] theorem vB{motive:Expr->Prop}{e:Expr}{k:BoolOp->List Expr->Pos->Bool}(h:cBo e k=true)(f:∀x p q,k x p q=true->motive (.BoolOp x p q)):motive e:=by cases e<;>first | exact f _ _ _ h | exact Bool.noConfusion h
theorem vC(h:cBo e k=true):∃x p q,e=.BoolOp x p q/\k x p q=true:=by cases e<;>first | exact⟨_,_,_,rfl,h⟩ | exact Bool.noConfusion h
noncomputable def cIf(e:Expr)(k:Expr->Expr->Expr->Pos->Bool):Bool:=match e with | .IfExp x p q r=>k x p q r | _=>false
@[elab_as_elim] theorem FO{motive:Expr->Prop}{e:Expr}{k:Expr->Expr->Expr->Pos->Bool}(h:cIf e k=true)(f:∀x p q r,k x p q r=true->motive (.IfExp x p q r)):motive e:=by cases e<;>first | exact f _ _ _ _ h | exact Bool.noConfusion h
noncomputable def gD(e:Expr)(k:List Expr->Nat->Pos->Bool):Bool:=match e with | .Tuple x p q=>k x p q | _=>false
@[elab_as_elim] theorem gE{motive:Expr->Prop}{e:Expr}{k:List Expr->Nat->Pos->Bool}(h:gD e k=true)(f:∀x p q,k x p q=true->motive (.Tuple x p q)):motive e:=by cases e<;>first | exact f _ _ _ h | exact Bool.noConfusion h
noncomputable def vD(e:Expr)(k:List Expr->Pos->Bool):Bool:=match e with | .List x p=>k x p | _=>false
@[elab_as_elim] theorem FP{motive:Expr->Prop}{e:Expr}{k:List Expr->Pos->Bool}(h:vD e k=true)(f:∀x p,k x p=true->motive (.List x p)):motive e:=by cases e<;>first | exact f _ _ h | exact Bool.noConfusion h
noncomputable def kz(e:Expr)(k:Expr->Expr->Pos->Bool):Bool:=match e with | .Subscript x p q=>k x p q | _=>false
@[elab_as_elim] theorem mi{motive:Expr->Prop}{e:Expr}{k:Expr->Expr->Pos->Bool}(h:kz e k=true)(f:∀x p q,k x p q=true->motive (.Subscript x p q)):motive e:=by cases e<;>first | exact f _ _ _ h | exact Bool.noConfusion h
noncomputable def vE(e:Expr)(k:Option Expr->Option Expr->Option Expr->Pos->Bool):Bool:=match e with | .Slice x p q r=>k x p q r | _=>false
@[elab_as_elim] theorem FQ{motive:Expr->Prop}{e:Expr}{k:Option Expr->Option Expr->Option Expr->Pos->Bool}(h:vE e k=true)(f:∀x p q r,k x p q r=true->motive (.Slice x p q r)):motive e:=by cases e<;>first | exact f _ _ _ _ h | exact Bool.noConfusion h
noncomputable def cj(e:Expr)(k:Expr->List Expr->List Keyword->Pos->Bool):Bool:=match e with | .Call x p q r=>k x p q r | _=>false
@[elab_as_elim] theorem cD{motive:Expr->Prop}{e:Expr}{k:Expr->List Expr->List Keyword->Pos->Bool}(h:cj e k=true)(f:∀x p q r,k x p q r=true->motive (.Call x p q r)):motive e:=by cases e<;>first | exact f _ _ _ _ h | exact Bool.noConfusion h
noncomputable def mj(e:Expr)(k:Expr->Str->Pos->Bool):Bool:=match e with | .Attribute x p q=>k x p q | _=>false
@[elab_as_elim] theorem qz{motive:Expr->Prop}{e:Expr}{k:Expr->Str->Pos->Bool}(h:mj e k=true)(f:∀x p q,k x p q=true->motive (.Attribute x p q)):motive e:=by cases e<;>first | exact f _ _ _ h | exact Bool.noConfusion h
noncomputable def cLC(e:Expr)(k:Expr->List Comprehension->Scope->Pos->Bool):Bool:=match e with | .ListComp x p q r=>k x p q r | _=>false
theorem mq(h:cLC e k=true):∃x p q r,e=.ListComp x p q r/\k x p q r=true:=by cases e<;>first | exact⟨_,_,_,_,rfl,h⟩ | exact Bool.noConfusion h
noncomputable def c1{α:Type}(l:List α)(k:α->Bool):Bool:=match l with | [x]=>k x | _=>false
noncomputable def c2{α:Type}(l:List α)(k:α->α->Bool):Bool:=match l with | [x,y]=>k x y | _=>false
noncomputable def c3{α:Type}(l:List α)(k:α->α->α->Bool):Bool:=match l with | [x,y,z]=>k x y z | _=>false
noncomputable def cC{α:Type}(l:List α)(k:α->List α->Bool):Bool:=match l with | x::r=>k x r | _=>false
section
variable {α:Type}{l:List α}{a b c d e f g h i:Bool}
@[elab_as_elim] theorem cE{motive:List α->Prop}{k:α->Bool}(h:c1 l k=true)(f:∀x,k x=true->motive ([x])):motive l:=by rcases l with _ | ⟨x,_ | ⟨_,_⟩⟩<;>first | exact f _ h | exact Bool.noConfusion h
theorem iy{k:α->Bool}(h:c1 l k=true):∃x,l=[x]/\k x=true:=by rcases l with _ | ⟨x,_ | ⟨_,_⟩⟩<;>first | exact⟨_,rfl,h⟩ | exact Bool.noConfusion h
@[elab_as_elim] theorem gF{motive:List α->Prop}{k:α->α->Bool}(h:c2 l k=true)(f:∀x y,k x y=true->motive ([x,y])):motive l:=by rcases l with _ | ⟨x,_ | ⟨y,_ | ⟨_,_⟩⟩⟩<;>first | exact f _ _ h | exact Bool.noConfusion h
@[elab_as_elim] theorem vF{motive:List α->Prop}{k:α->α->α->Bool}(h:c3 l k=true)(f:∀x y z,k x y z=true->motive ([x,y,z])):motive l:=by rcases l with _ | ⟨x,_ | ⟨y,_ | ⟨z,_ | ⟨_,_⟩⟩⟩⟩<;>first | exact f _ _ _ h | exact Bool.noConfusion h
@[elab_as_elim] theorem dQ{motive:List α->Prop}{k:α->List α->Bool}(h:cC l k=true)(f:∀x r,k x r=true->motive (x::r)):motive l:=by rcases l with _ | ⟨x,r⟩<;>first | exact f _ _ h | exact Bool.noConfusion h
@[elab_as_elim] theorem bj{motive:List α->Prop}(h:l.isEmpty=true)(f:motive []):motive l:=by cases l<;>first | exact f | exact Bool.noConfusion h
theorem an{a b:Bool}(h:(a && b)=true):a=true/\b=true:=kA.mp h
theorem a3(z:(a && b && c)=true):a=true/\b=true/\c=true:=let ⟨x,y⟩:=an z;⟨(an x).1,(an x).2,y⟩
theorem a4(z:(a && b && c && d)=true):a=true/\b=true/\c=true/\d=true:=let ⟨x,y⟩:=an z;let ⟨p,q,r⟩:=a3 x;⟨p,q,r,y⟩
theorem a5(z:(a && b && c && d && e)=true):a=true/\b=true/\c=true/\d=true/\e=true:=let ⟨x,y⟩:=an z;let ⟨p,q,r,s⟩:=a4 x;⟨p,q,r,s,y⟩
theorem a6(z:(a && b && c && d && e && f)=true):a=true/\b=true/\c=true/\d=true/\e=true/\f=true:=let ⟨x,y⟩:=an z;let ⟨p,q,r,s,t⟩:=a5 x;⟨p,q,r,s,t,y⟩
theorem a7(z:(a && b && c && d && e && f && g)=true):a=true/\b=true/\c=true/\d=true/\e=true/\f=true/\g=true:=let ⟨x,y⟩:=an z;let ⟨p,q,r,s,t,u⟩:=a6 x;⟨p,q,r,s,t,u,y⟩
theorem a8(z:(a && b && c && d && e && f && g && h)=true):a=true/\b=true/\c=true/\d=true/\e=true/\f=true/\g=true/\h=true:=let ⟨x,y⟩:=an z;let ⟨p,q,r,s,t,u,v⟩:=a7 x;⟨p,q,r,s,t,u,v,y⟩
theorem a9(z:(a && b && c && d && e && f && g && h && i)=true):a=true/\b=true/\c=true/\d=true/\e=true/\f=true/\g=true/\h=true/\i=true:=let ⟨x,y⟩:=an z;let ⟨p,q,r,s,t,u,v,w⟩:=a8 x;⟨p,q,r,s,t,u,v,w,y⟩
end
noncomputable def ckT(cells:Bool)(N:List Str)(nm:List (Str × NameKind))(is:List Nat)(tg:Expr):Bool :=
 let one (i:Nat) (e:Expr):Bool:=aO e λ x _=>decide (N[i]?=some x) && (decide (nm.lookup x=some .local) || (cells && decide (nm.lookup x=some .cell)))
 match is with
 | [i]=>one i tg
 | [i,j]=>gD tg λ es _ _=>c2 es λ a b=>one i a && one j b
 | [i,j,k]=>gD tg λ es _ _=>c3 es λ a b c=>one i a && one j b && one k c
 | _=>false
noncomputable def tsE:Expr->Bool
 | .BoolOp ..=>false | .UnaryOp .Not ..=>false | .Compare ..=>false | .IfExp ..=>false | .NamedExpr ..=>false | .Constant ..=>false | _=>true
noncomputable def tB':Cd->Expr->Bool
 | .and ..,_=>true | .or ..,_=>true | .not ..,_=>true | .cmp ..,_=>true | .cm2 ..,_=>true
 | _,e=>tsE e
def kB:Expr->Bool
 | .Tuple ..=>true | _=>false
noncomputable def ikN:IK->Option (Str × Nat)
 | .rng=>some ("range",0) | _=>none
noncomputable def ikT:IK->Bool
 | .zip _ _=>true | .zip3=>true | .enum _=>true | _=>false
noncomputable def cn(nm names:List (Str × NameKind)):List (Str × NameKind):=names.map λ(x,k)=>if (k == .free && nm.lookup x == some .cell) then (x,.cell) else (x,k)
noncomputable def ckS(N:List Str)(nm:List (Str × NameKind))(sc:Scope)(own fv:List Str)(js:List Nat):Bool :=
 decide (sc.kind=.function) && sc.names.all (λ y=>!decide (y.2=.cell)) && sc.names.all (λ y=>!decide (y.2=.local) || decide (sc.names.lookup y.1=some .local)) && sc.names.all (λ y=>!decide (y.2=.free) || cf nm y.1)
  && decide (js.length=fv.length) && (fv.zip js).all (λ p=>decide (N[p.2]?=some p.1) && cf nm p.1 && cf (cn nm sc.names) p.1) && decide (own++fv).Nodup
section
variable (fs gs:List Str)
mutual
def ck:Cd->List Str->List (Str × NameKind)->Expr->Bool
 | .v i,N,nm,e=>aO e λ x _=>decide (N[i]?=some x) && vs nm x && okN x
 | .c t,_,_,e=>iw e λ k _ _=>ckC t k
 | .g k,_,nm,e=>aO e λ x _=>decide (gs[k]?=some x) && gl nm x && okN x
 | .bin o a b,N,nm,e=>vy e λ l op r _=>decide (op=o) && ck a N nm l && ck b N nm r
 | .neg a,N,nm,e=>cUn e λ op x _=>decide (op=.USub) && ck a N nm x
 | .not a,N,nm,e=>cUn e λ op x _=>decide (op=.Not) && tB' a x && ck a N nm x
 | .cmp o a b,N,nm,e=>qy e λ l os rs _=>c1 os λ op=>c1 rs λ r=>decide (op=o) && ck a N nm l && ck b N nm r && dy r
 | .cm2 o o' a b c,N,nm,e=>qy e λ l os rs _=>c2 os λ op op'=>c2 rs λ r w=>decide (op=o) && decide (op'=o') && ck a N nm l && ck b N nm r && ck c N nm w && dy w
 | .and a b,N,nm,e=>cBo e λ op es p=>decide (op=.And) && (match es with
   | [x,y]=>tB' a x && tB' b y && ck a N nm x && ck b N nm y
   | x::y::z::r=>tB' a x && ck a N nm x && ck b N nm (.BoolOp .And (y::z::r) p)
   | _=>false)
 | .or a b,N,nm,e=>cBo e λ op es p=>decide (op=.Or) && (match es with
   | [x,y]=>tB' a x && tB' b y && ck a N nm x && ck b N nm y
   | x::y::z::r=>tB' a x && ck a N nm x && ck b N nm (.BoolOp .Or (y::z::r) p)
   | _=>false)
 | .ite c a b,N,nm,e=>cIf e λ x y z _=>tB' c x && ck c N nm x && ck a N nm y && ck b N nm z
 | .tup l,N,nm,e=>gD e λ es _ _=>ckL l N nm es
 | .lst l,N,nm,e=>vD e λ es _=>ckL l N nm es
 | .ix a b,N,nm,e=>kz e λ x y _=>iu y && ck a N nm x && ck b N nm y
 | .sl a lo hi,N,nm,e=>kz e λ x y _=>vE y λ l h s _=>s.isNone && ck a N nm x && (match l with | none=>jv lo | some l=>ck lo N nm l && !jv lo) && (match h with | none=>jv hi | some h=>ck hi N nm h && !jv hi)
 | .call f l,N,nm,e=>cj e λ g as w _=>aO g λ x _=>cC as λ a es=>w.isEmpty && decide (fs[f]?=some x) && gl nm x && okN x && ckL l N nm (a::es)
 | .bi f l,N,nm,e=>cj e λ g as w _=>aO g λ x _=>cC as λ a es=>w.isEmpty && decide (biN f=some x) && gl nm x && ckL l N nm (a::es)
 | .isi f a,N,nm,e=>cj e λ g as w _=>aO g λ x _=>c2 as λ y u=>aO u λ z _=>w.isEmpty && decide (x="isinstance") && gl nm x && vx f && decide (z=Str.ofString (isN f)) && gl nm z && aT y && ck a N nm y
 | .mxl a b,N,nm,e=>cj e λ g as w _=>aO g λ x _=>c2 as λ y z=>c1 w λ k=>aO k.value λ u _=>decide (x="max") && gl nm x && decide (k.arg=some (Str.ofString "key")) && decide (u="len") && gl nm u && aT y && aT z && ck a N nm y && ck b N nm z
 | .trev _ a,N,nm,e=>cj e λ g as w _=>aO g λ x _=>c1 as λ u=>cj u λ g' as' w' _=>aO g' λ y _=>c1 as' λ z=>w.isEmpty && w'.isEmpty && decide (x="tuple") && gl nm x && decide (y="reversed") && gl nm y && aT z && ck a N nm z
 | .lrng k a,N,nm,e=>cj e λ g as w _=>aO g λ x _=>c1 as λ u=>cj u λ g' as' w' _=>aO g' λ y _=>c1 as' λ z=>w.isEmpty && w'.isEmpty && decide (x=if k=true then "tuple" else "list") && gl nm x && decide (y="range") && gl nm y && aT z && ck a N nm z
 | .dk k a,N,nm,e=>kz e λ o y _=>aO o λ x _=>decide (gs[k]?=some x) && gl nm x && okN x && iu y && ck a N nm y
 | .comp own fv js tg k it e,N,nm,x=>cLC x λ elt gn sc _=>c1 gn λ g=>g.ifs.isEmpty && decide (g.is_async=0) && ckS N nm sc own fv js && ckI it k g.target N nm g.iter && ckT false (own++fv) (cn nm sc.names) tg g.target && tg.all (λ i=>decide (i < own.length)) && ck e (own++fv) (cn nm sc.names) elt
 | .compI own fv js tg k it c e,N,nm,x=>cLC x λ elt gn sc _=>c1 gn λ g=>c1 g.ifs λ cnd=>decide (g.is_async=0) && ckS N nm sc own fv js && ckI it k g.target N nm g.iter && ckT false (own++fv) (cn nm sc.names) tg g.target && tg.all (λ i=>decide (i < own.length)) && tB' c cnd && ck c (own++fv) (cn nm sc.names) cnd && ck e (own++fv) (cn nm sc.names) elt
 | _,_,_,_=>false
def ckL:Cd->List Str->List (Str × NameKind)->List Expr->Bool
 | .nil,_,_,es=>(match es with | []=>true | _=>false)
 | .cons a r,N,nm,es=>(match es with | e::es=>aT e && ck a N nm e && ckL r N nm es | []=>false)
 | _,_,_,_=>false
def ckI:Cd->IK->Expr->List Str->List (Str × NameKind)->Expr->Bool
 | .cons a r,k,tg,N,nm,it=>(match k with
   | .seq=>dy it && vv r && ck a N nm it
   | .str=>false
   | k=>cj it λ g as w _=>aO g λ x _=>cC as λ e es=>w.isEmpty && decide (ikN k=some (x,es.length)) && gl nm x && (!ikT k || kB tg) && aT e && ck a N nm e && ckL r N nm es)
 | _,_,_,_,_,_=>false
end
end
section
variable {K:FG}{J:Hp->Prop}
noncomputable def Sr(K:FG)(F:Fz)(H:Hp)(t:TV)(v:V):Prop:=match t with
 | .own l=>Rr K H F H (.bor l) v
 | t=>Rp K F H t v
structure EV (K:FG)(J:Hp->Prop)(F:Fz)(H:Hp)(σ:St)(ρ:En):Prop where
 w:Wd J F H
 sl:∀(i:Nat) t,ρ[i]?=some (some t)->∃v,σ[i]?=some (some v)/\Sr K F H t v
theorem Sr.grow(g:Grow J F H F' H')(h:Sr K F H t v):Sr K F' H' t v:=by
 cases t with
 | own l=>exact Rr.grow (t:=.bor l) (H:=H') g h
 | _=>exact Rp.ke g.ke h
theorem EV.grow(e:EV K J F H σ ρ)(g:Grow J F H F' H'):EV K J F' H' σ ρ :=
 ⟨g.w,λ i t h=>let ⟨v,q,r⟩:=e.sl i t h;⟨v,q,r.grow g⟩⟩
noncomputable def pSp(K:FG)(J:Hp->Prop)(S:PSp):Sp:=λ vs H Q _=>∃F ts P,Wd J F H/\RpL K F H ts vs/\S ts P/\∀t,P t->∀F' H' v,Grow J F H F' H'->Rp K F' H' t v->Q v H'
theorem gG(g:Grow J F H F1 H1):∀ {ts:List TV}{vs:List V},RrL K H F1 H1 ts vs->ts.all TV.nb=true->∃F2,Grow J F H F2 H1/\(∀a,F1 a->F2 a)/\RpL K F2 H1 (ts.map TV.fz) vs
 | [],_,h,_=>by cases h;exact⟨F1,g,λ _ f=>f,rfl⟩
 | t::ts,_,h,n=>by
  cases h with
  | cons r q =>
   rw[cw,aX] at n;obtain⟨F2,g2,u2,r2⟩:=gG g q n.2
   cases t with
   | own l =>
    obtain⟨a,vs,e,na,f,qa,ra⟩:=r;refine⟨λ b=>F2 b\/b=a,g2.frz na (by rw[qa];simp),λ b f=>.inl (u2 b f),_,_,rfl,⟨a,vs,e,.inl ⟨.inr rfl,.of qa⟩,ra.ke (.up λ b f=>.inl (u2 b f))⟩,r2.ke (.up λ b f=>.inl f)⟩
   | bor l=>cases n.1
   | _=>exact⟨F2,g2,u2,_,_,rfl,Rp.ke (.up u2) r,r2⟩
mutual
theorem LF.rp:∀ {t:TV}{v:V},LF t->Rp K F H t v->Rp K F' H t v
 | .non,_,_,h=>h
 | .bl _,_,_,h=>h
 | .int _,_,_,h=>h
 | .str _,_,_,h=>h
 | .tup l,_,f,⟨a,vs,e,q,r⟩=>⟨a,vs,e,q,LF.rpl (λ x hx=>by simp only[LF] at f;exact f x hx) r⟩
 | .lst _,_,f,_=>by simp[LF] at f
 | .bor _,_,f,_=>by simp[LF] at f
 | .own _,_,f,_=>by simp[LF] at f
theorem LF.rpl:∀ {ts:List TV}{vs:List V},(∀x∈ts,LF x)->RpL K F H ts vs->RpL K F' H ts vs
 | [],_,_,h=>h
 | t::ts,_,f,⟨v,r,e,h1,h2⟩=>⟨v,r,e,LF.rp (f t (by simp)) h1,LF.rpl (λ x hx=>f x (by simp[hx])) h2⟩
end
end
noncomputable def BN:List Str:=["len","tuple","list","sum","max","min","abs","int","str","sorted","any","all","isinstance","bool","range","zip","enumerate","reversed"]
noncomputable def DOk(P:Program)(w:World)(K:FG)(mg:SV)(x:Str)(l:List TV):Prop:=∃d kvs,mg x=some (.ref d)/\KTab P w K d kvs/\∀y t,dlk l y=some t->∃a,kvs.lookup y=some a/\∀F H,Rp K F H t (.ref a)
structure XOk (X:Cx)(J:Hp->Prop)(FT:List PSp)(GT:List TV)(fs gs:List Str):Prop where
 calm:X.calm=true
 units:X.A.units+20 < cLine
 hJ:JS J
 fns:∀(f:Nat) x S,fs[f]?=some x->FT[f]?=some S->∃k ps,Room k X.A/\Callee X.prog X.w X.K X.mg X.base CX0 k x ps (pSp X.K J S)
 glb:∀(g:Nat) x t,gs[g]?=some x->GT[g]?=some t->t.nb=true->∃v u,X.mg x=some u/\RelV v u/\∀F H,Rp X.K F H t v
 dic:∀(g:Nat) x l,gs[g]?=some x->GT[g]?=some (.bor l)->DOk X.prog X.w X.K X.mg x l
 blt:∀x∈BN,X.mg x=none
 len:fs.length=FT.length
structure XS (X:Cx)(N:List Str)(nm:List (Str × NameKind)):Prop where
 N:X.N=N
 nm:X.env.scope.names=nm
section
variable {X:Cx}{J:Hp->Prop}{FT:List PSp}{GT:List TV}{fs gs:List Str}
noncomputable def rE(K:FG)(J:Hp->Prop)(FT:List PSp)(GT:List TV)(c:Cd):TE:=λ σ H Q=>∃F ρ,EV K J F H σ ρ/\wE FT GT c ρ λ t=>∀F' H' v,Grow J F H F' H'->Rr K H F' H' t v->Q v H'
noncomputable def rT(K:FG)(J:Hp->Prop)(FT:List PSp)(GT:List TV)(c:Cd):TT:=λ σ H Q=>∃F ρ,EV K J F H σ ρ/\wE FT GT c ρ λ t=>b1 t λ b=>∀F' H',Grow J F H F' H'->Q b H'
noncomputable def rA(K:FG)(J:Hp->Prop)(FT:List PSp)(GT:List TV)(c:Cd):TA:=λ σ H Q=>∃F ρ,EV K J F H σ ρ/\wL FT GT c ρ λ ts=>∀F' H' vs,Grow J F H F' H'->RrL K H F' H' ts vs->Q vs H'
theorem PE.imp{t t':TE}(h:PE X e t)(i:∀σ H Q,t' σ H Q->t σ H Q):PE X e t':=λ pins s σ H Q I q=>h pins s σ H Q I (i σ H Q q)
theorem PT.imp{t t':TT}(h:PT X e t)(i:∀σ H Q,t' σ H Q->t σ H Q):PT X e t':=λ pins s σ H Q I q=>h pins s σ H Q I (i σ H Q q)
theorem PA.imp{t t':TA}(h:PA X e t)(i:∀σ H Q,t' σ H Q->t σ H Q):PA X e t':=λ pos pins s σ H Q I q=>h pos pins s σ H Q I (i σ H Q q)
theorem bJ{es:List Expr}(h:aT e=true):starEach (e::es) env=(false,eval e env)::starEach es env:=by cases e<;>first | rfl | cases h
theorem qA:∀ {es:List Expr}{env:Env},es.all aT=true->(starEach es env).any (·.1)=false
 | [],_,_=>rfl
 | e::es,env,h=>by
  rw[cw,aX] at h;rw[bJ h.1,jX,qA h.2];rfl
theorem fg{es:List Expr}(h:es.all aT=true):(backTo pos (starEach es env)).any (·.1)=false:=by
 unfold backTo;rw[s1g];exact qA h
theorem glX(xs:XS X N nm)(h:gl nm x=true):Gl X x:=by
 show X.env.scope.names.lookup x=_;rw[xs.nm];exact ar h
theorem qB(xs:XS X N nm)(h:vs nm x=true):Vis X.env.scope x:=by
 unfold vs at h;rw[iz,iz] at h;unfold Vis;rw[xs.nm]
 rcases h with (h | h) | h
 ·exact .inl (ar h)
 ·exact .inr (.inl (ar h))
 ·exact .inr (.inr (ar h))
theorem cZ(h:okN x=true):(x == ("__debug__" : Str))=false/\(x == ("__classdict__" : Str))=false/\x ≠ "__name__" := by
 simp only[okN,aX,oW,vG] at h;exact⟨by simpa using h.1.1,by simpa using h.1.2,h.2⟩
end
theorem qC{env:Env}:∀(l:List (Str × NameKind)) (cs:LA),(∀x,(x,NameKind.free)∈l->∃c,env.cells.lookup x=some c) ->
  ∃cl,(forIn l cs (λ(x:Str × NameKind) (r:LA)=>(match x with
   | (name,kind)=>if (kind == NameKind.free)=true then (do let y ← cellOf env name;pure (ForInStep.yield ((name,y)::r))) else pure (ForInStep.yield r):Sem (ForInStep (LA)))):Sem (LA))=pure cl /\
   (∀x c,cl.lookup x=some c->cs.lookup x=some c\/env.cells.lookup x=some c)/\(∀x,(x,NameKind.free)∈l\/(∃c,cs.lookup x=some c)->∃c,cl.lookup x=some c)
 | [],cs,_=>⟨cs,rfl,λ _ _ h=>.inl h,λ x h=>by
  rcases h with h | h
  ·cases h
  ·exact h⟩
 | (n,k)::l,cs,h=>by
  by_cases hk:k=.free
  ·subst hk;obtain⟨c,hc⟩:=h n (by simp);obtain⟨cl,e,q1,q2⟩:=qC l ((n,c)::cs) λ x hx=>h x (by simp[hx]);refine⟨cl,?_,λ x d hx=>?_,λ x hx=>?_⟩
   ·rw[List.forIn_cons];have:cellOf env n=pure c:=by unfold cellOf;rw[hc]
    simp only[this,beq_self_eq_true,dJ,pure_bind];exact e
   ·rcases q1 x d hx with z | z
    ·rw[gk] at z;split at z
     ·rename_i en;have:x=n:=by simpa using en
      subst this;cases z;exact .inr hc
     ·exact .inl z
    ·exact .inr z
   ·refine q2 x ?_
    rcases hx with hx | ⟨d,hd⟩
    ·rcases av.mp hx with z | z
     ·cases z;exact .inr ⟨c,by simp[gk]⟩
     ·exact .inl z
    ·by_cases en:x=n
     ·subst en;exact .inr ⟨c,by simp[gk]⟩
     ·have:(x == n)=false:=by simpa using en
      exact .inr ⟨d,by rw[gk,this];exact hd⟩
  ·obtain⟨cl,e,q1,q2⟩:=qC l cs λ x hx=>h x (by simp[hx]);refine⟨cl,?_,q1,λ x hx=>q2 x ?_⟩
   ·rw[List.forIn_cons];have:(k == NameKind.free)=false:=by simpa using hk
    simp only[this,lU,s1i,pure_bind];exact e
   ·rcases hx with hx | hx
    ·rcases av.mp hx with z | z
     ·cases z;exact absurd rfl hk
     ·exact .inl z
    ·exact .inr hx
theorem FR{scope:Scope}{env:Env}(h:∀x,(x,NameKind.free)∈scope.names->∃c,env.cells.lookup x=some c) :
  ∃cl,closureFor scope env=pure cl/\(∀x c,cl.lookup x=some c->env.cells.lookup x=some c)/\∀x,(x,NameKind.free)∈scope.names->∃c,cl.lookup x=some c:=by
 obtain⟨cl,e,q1,q2⟩:=qC (env:=env) scope.names [] h;refine⟨cl,?_,λ x c hx=>?_,λ x hx=>q2 x (.inl hx)⟩
 ·unfold closureFor;simp only[bind_pure];exact e
 ·rcases q1 x c hx with z | z
  ·cases z
  ·exact z
section
variable {X:Cx}{N:List Str}{nm:List (Str × NameKind)}{sc:Scope}{own fv:List Str}{js:List Nat}
theorem FU{α β:Type} [BEq α] [LawfulBEq α] {l:List (α × β)}{x:α}{y:β}(h:l.lookup x=some y):(x,y)∈l:=by
 induction l with
 | nil=>cases h
 | cons p r ih =>
  obtain⟨a,b⟩:=p;rw[gk] at h;split at h
  ·rename_i e;have:x=a:=by simpa using e
   subst this;cases h;simp
  ·exact bU _ (ih h)
structure CSc (X:Cx)(N:List Str)(nm:List (Str × NameKind))(sc:Scope)(own fv:List Str)(js:List Nat)(cl:LA):Prop where
 clos:closureFor sc X.env=pure cl
 cell:∀y∈sc.names,y.2≠.cell
 kind:sc.kind=.function
 names:∀y∈sc.names,y.2=.local->sc.names.lookup y.1=some .local
 sub:∀x c,cl.lookup x=some c->X.env.cells.lookup x=some c
 has:∀x,((relabel sc X.env).names.lookup x=some .cell\/(relabel sc X.env).names.lookup x=some .free)->∃c,cl.lookup x=some c
 len:js.length=fv.length
 cap:∀(i:Nat) x j,fv[i]?=some x->js[i]?=some j->Cap X sc cl x j
 nd:(own++fv).Nodup
 rel:(relabel sc X.env).names=cn nm sc.names
theorem qD(h:cf nm x=true):nm.lookup x=some .cell\/nm.lookup x=some .free:=by
 unfold cf at h;rw[iz] at h;exact h.imp ar ar
theorem my(ok:X.Ok)(xs:XS X N nm)(h:ckS N nm sc own fv js=true):∃cl,CSc X N nm sc own fv js cl:=by
 unfold ckS at h;simp only[aX] at h;obtain⟨⟨⟨⟨⟨⟨h1,h2⟩,h3⟩,h4⟩,h5⟩,h6⟩,h7⟩:=h
 have hfree:∀x,(x,NameKind.free)∈sc.names->nm.lookup x=some .cell\/nm.lookup x=some .free:=λ x hx=>by
  have:=gH.mp h4 _ hx;simp only[decide_true,Bool.not_true,s0w] at this;exact qD this
 obtain⟨cl,e,s1,s2⟩:=FR (scope:=sc) (env:=X.env) λ x hx=>ok.has x (by
  have:=hfree x hx;rw[← xs.nm] at this
  exact this)
 have hcell:∀y∈sc.names,y.2≠.cell:=λ y hy=>by simpa using gH.mp h2 y hy
 have hrel:(relabel sc X.env).names=cn nm sc.names:=by
  unfold relabel cn;rw[← xs.nm];apply s0g;intro y hy;obtain⟨n,k⟩:=y;have:(X.env.scope.kind == ScopeKind.function)=true:=by rw[ok.kind];rfl
  simp only[this,Bool.and_true];rfl
 refine⟨cl,e,hcell,ar h1,λ y hy e=>?_,s1,λ x hx=>s2 x ?_,ar h5,λ i x j e1 e2=>?_,ar h7,hrel⟩
 ·have:=gH.mp h3 y hy;simpa [e] using this
 ·have:∀k,(relabel sc X.env).names.lookup x=some k->k=.cell\/k=.free->(x,NameKind.free)∈sc.names:=λ k hk hz=>by
   have m:=FU hk;obtain⟨⟨n,k0⟩,hm,he⟩:=cO.mp m;have he:(if (k0 == NameKind.free && X.env.scope.kind == .function && X.env.kindOf n == some .cell)=true then (n,NameKind.cell) else (n,k0))=(x,k):=he;split at he
   ·rename_i c;cases he;simp only[aX] at c;have:k0=.free:=by simpa using c.1.1
    subst this;exact hm
   ·cases he
    rcases hz with rfl | rfl
    ·exact absurd rfl (hcell _ hm)
    ·exact hm
  rcases hx with hx | hx
  ·exact this _ hx (.inl rfl)
  ·exact this _ hx (.inr rfl)
 ·have m:(x,j)∈fv.zip js:=by
   refine br (i:=i) ?_;rw[vH];exact⟨e1,e2⟩
  have:=gH.mp h6 _ m;simp only[aX] at this;refine⟨by rw[xs.N];exact ar this.1.1,?_,?_⟩
  ·rw[xs.nm];exact qD this.1.2
  ·rw[hrel];exact qD this.2
end
section
variable {K:FG}{J:Hp->Prop}{F:Fz}{H:Hp}{σ:St}{ρ:En}
theorem vI(h:Rp K F H t v):Sr K F H t v:=by cases t<;>first | exact h | exact h.elim
theorem EV.set{i:Nat}(e:EV K J F H σ ρ)(h:Rp K F H t v)(hi:i < σ.length):EV K J F H (σ.set i (some v)) (ρ.set i (some t)) :=
 ⟨e.w,λ j u hj=>by
  rw[cR] at hj;split at hj
  ·rename_i c;subst c;split at hj
   ·cases hj;exact⟨v,by rw[cR];simp[hi],vI h⟩
   ·cases hj
  ·rename_i c;obtain⟨w,e1,r⟩:=e.sl j u hj
   exact⟨w,by rw[cR,if_neg c];exact e1,r⟩⟩
theorem EV.any{i:Nat}(e:EV K J F H σ ρ)(h:∀t,ρ[i]?≠some (some t)):EV K J F H (σ.set i v) ρ :=
 ⟨e.w,λ j u hj=>by
  obtain⟨w,e1,r⟩:=e.sl j u hj;refine⟨w,?_,r⟩;rw[cR,if_neg (λ z=>by subst z;exact h u hj)]
  exact e1⟩
noncomputable def tgG(K:FG):List Nat->TG
 | [i]=>cW i
 | [i,j]=>nV K 2 (iR (cW i) (iR (cW j) nU))
 | [i,j,k]=>nV K 3 (iR (cW i) (iR (cW j) (iR (cW k) nU)))
 | _=>λ _ _ _ _=>False
theorem mz{Q:St->Hp->Prop}(h:stE ρ is t P)(e:EV K J F H σ ρ)(rt:Rp K F H t v)(hl:∀i∈is,i < σ.length)
  (fin:∀σ' ρ',P ρ'->EV K J F H σ' ρ'->σ'.length=σ.length->(∀ρ0,EV K J F H σ ρ0->(∀i∈is,∀u,ρ0[i]?≠some (some u))->EV K J F H σ' ρ0)->Q σ' H):tgG K is v σ H Q:=by
 match is,h with
 | [i],h=>exact fin _ _ h (e.set rt (hl i (by simp))) (by simp) λ ρ0 e0 n=>e0.any (n i (by simp))
 | [i,j],h =>
  cases t with
  | tup l =>
   match l,h with
   | [x,y],h =>
    obtain⟨a,ws,rfl,q,v1,r1,rfl,h1,v2,r2,rfl,h2,rfl⟩:=rt;exact⟨a,_,rfl,q,rfl,v1,_,rfl,v2,_,rfl,rfl,fin _ _ h ((e.set h1 (hl i (by simp))).set h2 (by simpa using hl j (by simp))) (by simp) λ ρ0 e0 n=>(e0.any (n i (by simp))).any (n j (by simp))⟩
   | [],h=>exact h.elim
   | [_],h=>exact h.elim
   | _::_::_::_,h=>exact h.elim
  | _=>exact h.elim
 | [i,j,k],h =>
  cases t with
  | tup l =>
   match l,h with
   | [x,y,z],h =>
    obtain⟨a,ws,rfl,q,v1,r1,rfl,h1,v2,r2,rfl,h2,v3,r3,rfl,h3,rfl⟩:=rt;exact⟨a,_,rfl,q,rfl,v1,_,rfl,v2,_,rfl,v3,_,rfl,rfl,fin _ _ h (((e.set h1 (hl i (by simp))).set h2 (by simpa using hl j (by simp))).set h3 (by simpa using hl k (by simp))) (by simp) λ ρ0 e0 n=>((e0.any (n i (by simp))).any (n j (by simp))).any (n k (by simp))⟩
   | [],h=>exact h.elim
   | [_],h=>exact h.elim
   | [_,_],h=>exact h.elim
   | _::_::_::_::_,h=>exact h.elim
  | _=>exact h.elim
 | [],h=>exact h.elim
 | _::_::_::_::_,h=>exact h.elim
end
section
variable {X:Cx}{N:List Str}{nm:List (Str × NameKind)}
theorem jw{cells:Bool}(hN:X.N.Nodup)(hc:X.calm=true)(xs:XS X N nm)(hf:cells=true->∀x,X.env.scope.names.lookup x=some .cell->X.fn x=true)(h:ckT cells N nm is tg=true):PG X tg (tgG X.K is)/\∀i∈is,i < N.length:=by
 have one:∀(i:Nat) (x:Str) (p:Pos),(decide (N[i]?=some x) && (decide (nm.lookup x=some .local) || (cells && decide (nm.lookup x=some .cell))))=true->PG X (.Name x p) (cW i)/\i < N.length:=λ i x p h=>by
  rw[aX,iz,aX] at h;obtain⟨h1,h2⟩:=h;have e:=ar h1;refine⟨?_,(bD.mp e).1⟩
  rcases h2 with h2 | ⟨h2,h3⟩
  ·have k:X.env.scope.names.lookup x=some .local:=by rw[xs.nm];exact ar h2
   exact sW hN (by rw[xs.N];exact e) (.inl k) (.inr k)
  ·have k:X.env.scope.names.lookup x=some .cell:=by rw[xs.nm];exact ar h3
   exact sW hN (by rw[xs.N];exact e) (.inr k) (.inl (hf h2 x k))
 match is,h with
 | [i],h =>
  refine aK h λ x p g=>?_;obtain⟨a,b⟩:=one _ _ p g;exact⟨a,λ i hi=>by rw[aR.mp hi];exact b⟩
 | [i,j],h =>
  refine gE h λ es _ _ g=>?_;refine gF g λ e1 e2 g=>?_;refine aK (an g).1 λ x p g1=>?_;refine aK (an g).2 λ y q g2=>?_;obtain⟨a1,b1⟩:=one _ _ p g1;obtain⟨a2,b2⟩:=one _ _ q g2;refine⟨sZ hc (jK a1 (jK a2 sY)),λ i hi=>?_⟩;simp only[av,bh,aY] at hi
  rcases hi with rfl | rfl<;>assumption
 | [i,j,k],h =>
  refine gE h λ es _ _ g=>?_;refine vF g λ e1 e2 e3 g=>?_;obtain⟨g1,g2,g3⟩:=a3 g;refine aK g1 λ x p g1=>?_;refine aK g2 λ y q g2=>?_;refine aK g3 λ z r g3=>?_;obtain⟨a1,b1⟩:=one _ _ p g1;obtain⟨a2,b2⟩:=one _ _ q g2;obtain⟨a3,b3⟩:=one _ _ r g3;refine⟨sZ hc (jK a1 (jK a2 (jK a3 sY))),λ i hi=>?_⟩;simp only[av,bh,aY] at hi
  rcases hi with rfl | rfl | rfl<;>assumption
 | [],h=>exact Bool.noConfusion h
 | _::_::_::_::_,h=>exact Bool.noConfusion h
end
section
variable {X:Cx}{J:Hp->Prop}{FT:List PSp}{GT:List TV}{fs gs:List Str}{N:List Str}{nm:List (Str × NameKind)}
noncomputable def rW(K:FG)(J:Hp->Prop)(FT:List PSp)(GT:List TV)(k:IK)(c:Cd):TI:=λ σ H R=>∃F ρ,EV K J F H σ ρ/\wL FT GT c ρ λ ts=>itP k ts λ its=>∀F' H' xs Jt,Grow J F H F' H'->RrL K H F' H' ts xs->ItOk K J Jt its ts xs->R Jt H'
theorem PI.imp{t t':TI}(h:PI X tg e t)(i:∀σ H Q,t' σ H Q->t σ H Q):PI X tg e t':=λ pins s σ H Q I q=>h pins s σ H Q I (i σ H Q q)
theorem qE(h:dy e=true):behindInMarks op e=false:=by cases e<;>first | rfl | cases h
theorem vJ{o o':CmpOp}{r w:Expr}(h:dy w=true):lastMarks [o,o'] [r,w]=false:=by
 show behindInMarks o' w=false;exact qE h
theorem kD(h:dy e=true):foldedSetIterable e env x=pure x:=by cases e<;>first | rfl | cases h
theorem vK(h:iu e=true):tW e:=by
 intro o i
 cases e<;>first | rfl | (cases h;done)
theorem s_v(xs:XS X N nm)(h:ck fs gs (.v i) N nm e=true):PE X e (rE X.K J FT GT (.v i)):=by
 refine aK h λ x p h0=>?_;have h':=kA.mp h0;obtain⟨h1,h2⟩:=kA.mp h'.1;obtain⟨d1,d2,_⟩:=cZ h'.2;refine(gQ (by rw[xs.N];exact ar h1) (qB xs h2) d1 d2).imp λ σ H Q q=>?_;obtain⟨F,ρ,ev,w⟩:=q;have w:rdV ρ[i]? _:=w
 rcases hs:ρ[i]? with _ | _ | t
 ·rw[hs] at w;exact w.elim
 ·rw[hs] at w;exact w.elim
 ·rw[hs] at w;obtain⟨v,e,r⟩:=ev.sl i t hs;unfold dX;rw[e];refine w F H v (.refl ev.w) ?_
  cases t with
  | own l=>exact r
  | bor l=>exact r.elim
  | _=>exact r
theorem s_c(h:ck fs gs (.c t) N nm e=true):PE X e (rE X.K J FT GT (.c t)):=by
 refine fP h λ k _ _ h0=>?_;replace h:ckC t k=true:=h0
 cases t<;>cases k<;>first
  | exact Bool.noConfusion h
  | (cases ar h;exact pe_int.imp λ σ H Q ⟨F,ρ,ev,w⟩=>w F H _ (.refl ev.w) rfl)
  | (cases ar h;exact pe_str.imp λ σ H Q ⟨F,ρ,ev,w⟩=>w F H _ (.refl ev.w) rfl)
  | (cases ar h;exact pe_bl.imp λ σ H Q ⟨F,ρ,ev,w⟩=>w F H _ (.refl ev.w) rfl)
  | exact pe_non.imp λ σ H Q ⟨F,ρ,ev,w⟩=>w F H _ (.refl ev.w) rfl
theorem s_g(xo:XOk X J FT GT fs gs)(xs:XS X N nm)(h:ck fs gs (.g k) N nm e=true):PE X e (rE X.K J FT GT (.g k)):=by
 refine aK h λ x p h0=>?_;have h':=kA.mp h0;obtain⟨h1,h2⟩:=kA.mp h'.1;obtain⟨d1,_,_⟩:=cZ h'.2
 cases et:GT[k]? with
 | none=>exact λ pins s σ H Q I ⟨F,ρ,ev,w⟩=>by have w:gtP GT[k]? _:=w;rw[et] at w;exact w.elim
 | some t =>
  cases nb:t.nb with
  | false =>
   intro pins s σ H Q I ⟨F,ρ,ev,w⟩;have w:gtP GT[k]? _:=w;rw[et] at w
   cases t<;>first | exact w.elim | exact Bool.noConfusion nb
  | true =>
   obtain⟨v,u,m,r,p⟩:=xo.glb k _ t (ar h1) et nb;refine(zA (glX xs h2) m r d1).imp λ σ H Q ⟨F,ρ,ev,w⟩=>?_;have w:gtP GT[k]? _:=w;rw[et] at w
   cases t with
   | bor l=>cases nb
   | _=>exact w F H v (.refl ev.w) (Rr.of (p F H))
theorem FV{k:Nat}(xo:XOk X J FT GT fs gs)(xs:XS X N nm)(h1:gs[k]?=some x)(h2:gl nm x=true)(h3:okN x=true)(h4:iu y=true)(ha:PE X y (rE X.K J FT GT a)):PE X (.Subscript (.Name x p1) y p2) (rE X.K J FT GT (.dk k a)):=by
 intro pins s σ H Q I ⟨F,ρ,ev,w⟩;obtain⟨l,et,w⟩:=vk (show dcP GT[k]? _ from w);obtain⟨d,kvs,hm,T,look⟩:=xo.dic k x l h1 et;refine DY (glX xs h2) hm T ha (vK h4) (cZ h3).1 pins s σ H Q I ⟨F,ρ,ev,ao a (λ t w F1 H1 v g r=>?_) w⟩;obtain⟨z,rfl,t,el,w⟩:=vm w;cases r;obtain⟨b,eb,rp⟩:=look z t el;exact⟨z,b,rfl,eb,w F1 H1 _ g (Rr.of (rp F1 H1))⟩
theorem FW(xo:XOk X J FT GT fs gs)(ha:PE X l (rE X.K J FT GT a))(hb:PE X r (rE X.K J FT GT b)):PE X (.BinOp l o r p) (rE X.K J FT GT (.bin o a b)) :=
 (Ak (Fp xo.hJ o) ha hb).imp λ σ H Q ⟨F,ρ,ev,w⟩=>⟨F,ρ,ev,ao a (λ x w F1 H1 v g1 r1=>⟨F1,ρ,ev.grow g1,ao b (λ y w F2 H2 v2 g2 r2=>⟨F,H,F2,x,y,g1.trans g2,r1.grow g2,r2.late g1,w⟩) w⟩) w⟩
theorem FY{o:CmpOp}(xo:XOk X J FT GT fs gs)(ha:PE X l (rE X.K J FT GT a))(hb:PE X r (rE X.K J FT GT b))(hs:dy r=true):PE X (.Compare l [o] [r] p) (rE X.K J FT GT (.cmp o a b)) :=
 (AG (jq xo.units o) ha hb (qE hs)).imp λ σ H Q ⟨F,ρ,ev,w⟩=>⟨F,ρ,ev,ao a (λ x w F1 H1 v g1 r1=>⟨F1,ρ,ev.grow g1,ao b (λ y w F2 H2 v2 g2 r2=>⟨F,H,F2,x,y,g1.trans g2,r1.grow g2,r2.late g1,fO (λ z w v r=>w F2 H2 v (g1.trans g2) r) w⟩) w⟩) w⟩
theorem FZ(ha:PE X l (rE X.K J FT GT a))(hb:PE X r (rE X.K J FT GT b))(hs:iu r=true):PE X (.Subscript l r p) (rE X.K J FT GT (.ix a b)) :=
 (Bq Fv ha hb (vK hs)).imp λ σ H Q ⟨F,ρ,ev,w⟩=>⟨F,ρ,ev,ao a (λ x w F1 H1 v g1 r1=>⟨F1,ρ,ev.grow g1,ao b (λ y w F2 H2 v2 g2 r2=>⟨F,H,F2,x,y,g1.trans g2,r1.grow g2,r2.late g1,w⟩) w⟩) w⟩
theorem Ga(ha:PE X l (rE X.K J FT GT a)):PE X (.UnaryOp .USub l p) (rE X.K J FT GT (.neg a)) :=
 (Al Ax ha).imp λ σ H Q ⟨F,ρ,ev,w⟩=>⟨F,ρ,ev,ao a (λ x w F1 H1 v g1 r1=>by
  obtain⟨i,rfl,w⟩:=eZ w;cases r1
  exact w F1 H1 _ g1 rfl) w⟩
theorem Gb(ha:PE X l (rE X.K J FT GT a)):PE X (.UnaryOp .Not l p) (rE X.K J FT GT (.not a)) :=
 (zR ha).imp λ σ H Q ⟨F,ρ,ev,w⟩=>⟨F,ρ,ev,ao a (λ x w F1 H1 v g1 r1=>by
  obtain⟨i,rfl,w⟩:=gz w;cases r1
  exact⟨i,rfl,w F1 H1 _ g1 rfl⟩) w⟩
theorem mB{Q:VK}(g:Grow J F H F1 H1)(w:∀F' H' v,Grow J F H F' H'->Rr X.K H F' H' t v->Q v H'):∀F' H' v,Grow J F1 H1 F' H'->Rr X.K H1 F' H' t v->Q v H':=λ F' H' v g' r=>w F' H' v (g.trans g') (r.late g)
theorem Gc{o o':CmpOp}(xo:XOk X J FT GT fs gs)(ha:PE X l (rE X.K J FT GT a))(hb:PE X r (rE X.K J FT GT b))(hc:PE X w' (rE X.K J FT GT c))(hs:dy w'=true):PE X (.Compare l [o,o'] [r,w'] p) (rE X.K J FT GT (.cm2 o o' a b c)) :=
 (AI (jq xo.units o) (jq xo.units o') ha hb hc (vJ hs)).imp λ σ H Q ⟨F,ρ,ev,w⟩=>⟨F,ρ,ev,ao a (λ x w F1 H1 v g1 r1=>⟨F1,ρ,ev.grow g1,ao b (λ y w F2 H2 v2 g2 r2=>⟨F,H,F2,x,y,g1.trans g2,r1.grow g2,r2.late g1,fO (λ z w v3 r3=>by
  obtain⟨k,ek,w2⟩:=gz w;subst ek;cases r3;refine⟨k,rfl,?_⟩;split at w2
  ·rw[if_pos (by assumption)];exact⟨F2,ρ,(ev.grow g1).grow g2,ao c (λ z w F4 H4 v4 g4 r4=>⟨F,H,F4,y,z,(g1.trans g2).trans g4,(r2.late g1).grow g4,r4.late (g1.trans g2),fO (λ u w v r=>w F4 H4 v ((g1.trans g2).trans g4) r) w⟩) w2⟩
  ·rw[if_neg (by assumption)];exact w2 F2 H2 _ (g1.trans g2) rfl) w⟩) w⟩) w⟩
theorem vL{l r:Expr}{rest:List Expr}(ha:PE X l (rE X.K J FT GT a))(hb:PE X (.BoolOp .And (r::rest) p) (rE X.K J FT GT b)):PE X (.BoolOp .And (l::r::rest) p) (rE X.K J FT GT (.and a b)) :=
 (zP ha hb).imp λ σ H Q ⟨F,ρ,ev,w⟩=>⟨F,ρ,ev,ao a (λ x w F1 H1 v g1 r1=>by
  obtain⟨k,ek,w2⟩:=gz w;subst ek;cases r1;show if k=true then _ else _;split at w2
  ·rw[if_pos (by assumption)];exact⟨F1,ρ,ev.grow g1,ao b (λ y w=>mB g1 w) w2⟩
  ·rw[if_neg (by assumption)];exact w2 F1 H1 _ g1 rfl) w⟩
theorem vM{l r:Expr}{rest:List Expr}(ha:PE X l (rE X.K J FT GT a))(hb:PE X (.BoolOp .Or (r::rest) p) (rE X.K J FT GT b)):PE X (.BoolOp .Or (l::r::rest) p) (rE X.K J FT GT (.or a b)) :=
 (zQ ha hb).imp λ σ H Q ⟨F,ρ,ev,w⟩=>⟨F,ρ,ev,ao a (λ x w F1 H1 v g1 r1=>by
  obtain⟨k,ek,w2⟩:=gz w;subst ek;cases r1;show if k=true then _ else _;split at w2
  ·rw[if_pos (by assumption)];exact w2 F1 H1 _ g1 rfl
  ·rw[if_neg (by assumption)];exact⟨F1,ρ,ev.grow g1,ao b (λ y w=>mB g1 w) w2⟩) w⟩
theorem Gd(hc:PT X x (rT X.K J FT GT c))(ha:PE X y (rE X.K J FT GT a))(hb:PE X z (rE X.K J FT GT b)):PE X (.IfExp x y z p) (rE X.K J FT GT (.ite c a b)) :=
 (zT hc ha hb).imp λ σ H Q ⟨F,ρ,ev,w⟩=>⟨F,ρ,ev,ao c (λ x w=>bT (λ k w2 F1 H1 g1=>by
  split at w2
  ·rw[if_pos (by assumption)];exact⟨F1,ρ,ev.grow g1,ao a (λ y w=>mB g1 w) w2⟩
  ·rw[if_neg (by assumption)];exact⟨F1,ρ,ev.grow g1,ao b (λ y w=>mB g1 w) w2⟩) w) w⟩
theorem Ge(ha:PE X e (rE X.K J FT GT a))(hr:PA X es (rA X.K J FT GT r))(hs:aT e=true):PA X (e::es) (rA X.K J FT GT (.cons a r)) :=
 (bI ha hr (bJ hs)).imp λ σ H Q ⟨F,ρ,ev,w⟩=>⟨F,ρ,ev,ao a (λ x w F1 H1 v g1 r1=>⟨F1,ρ,ev.grow g1,bQ r (λ ts w F2 H2 vs g2 r2=>w F2 H2 _ (g1.trans g2) (.cons (r1.grow g2) (Paired.mapP r2 λ _ _ z=>z.late g1))) w⟩) w⟩
theorem Gf:PA X [] (rA X.K J FT GT .nil):=pa_nil.imp λ σ H Q ⟨F,ρ,ev,w⟩=>w F H _ (.refl ev.w) .nil
theorem Gh(xo:XOk X J FT GT fs gs)(h:PA X es (rA X.K J FT GT l)):PE X (.Tuple es k p) (rE X.K J FT GT (.tup l)) :=
 (jR h).imp λ σ H Q ⟨F,ρ,ev,w⟩=>⟨F,ρ,ev,bQ l (λ ts ⟨n,z,w⟩ F1 H1 vs g1 r1=>by
  obtain⟨F2,g2,_,r2⟩:=gG g1 r1 n
  exact⟨by rw[← r2.length,aj];exact z,gB xo.hJ g2 r2 w⟩) w⟩
theorem Gi(xo:XOk X J FT GT fs gs)(h:PA X es (rA X.K J FT GT l)):PE X (.List es p) (rE X.K J FT GT (.lst l)) :=
 (AU h).imp λ σ H Q ⟨F,ρ,ev,w⟩=>⟨F,ρ,ev,bQ l (λ ts ⟨n,z,w⟩ F1 H1 vs g1 r1=>by
  obtain⟨F2,g2,_,r2⟩:=gG g1 r1 n
  exact⟨by rw[← r2.length,aj];exact z,fb xo.hJ g2 r2 w⟩) w⟩
theorem Gj{a lo hi:Cd}(xo:XOk X J FT GT fs gs)(ha:PE X e (rE X.K J FT GT a))(hl:PO X l (λ σ H Q=>∃F ρ,EV X.K J F H σ ρ/\wE FT GT lo ρ λ t=>oI t λ o=>∀F' H',Grow J F H F' H'->Q o H'))(hh:PO X h (λ σ H Q=>∃F ρ,EV X.K J F H σ ρ/\wE FT GT hi ρ λ t=>oI t λ o=>∀F' H',Grow J F H F' H'->Q o H')) :
  PE X (.Subscript e (.Slice l h none p2) p) (rE X.K J FT GT (.sl a lo hi)) :=
 (Bl (Fw xo.hJ) ha hl hh).imp λ σ H Q ⟨F,ρ,ev,w⟩=>⟨F,ρ,ev,ao a (λ x w F1 H1 v g1 r1=>⟨F1,ρ,ev.grow g1,ao lo (λ y w=>ma (λ a w F2 H2 g2=>⟨F2,ρ,(ev.grow g1).grow g2,ao hi (λ z w=>ma (λ b w F3 H3 g3=>⟨F,H,F3,x,(g1.trans g2).trans g3,(r1.grow g2).grow g3,w⟩) w) w⟩) w) w⟩) w⟩
end
section
variable {X:Cx}{J:Hp->Prop}{FT:List PSp}{GT:List TV}{fs gs:List Str}{N:List Str}{nm:List (Str × NameKind)}
set_option tactic.hygienic true in
theorem vN{K:FG}{vs:List V}(w:Wd J F1 H1)(h:RrL K H F1 H1 ts vs):∃F2,Wd J F2 H1/\RpL K F2 H1 (ts.map TV.fz) vs:=by
 refine⟨λ b=>H1 b≠none,⟨w.j,λ a f=>f⟩,?_⟩;have up:∀a,F1 a->H1 a≠none:=w.d
 induction h with
 | nil=>rfl
 | cons r q ih =>
  refine⟨_,_,rfl,?_,ih⟩;rename_i t v _ _
  cases t with
  | own l=>obtain⟨a,vs,e,_,_,qa,ra⟩:=r;exact⟨a,vs,e,(.inl ⟨(λ z=>by rw[qa] at z;cases z),.of qa⟩),ra.ke (.up up)⟩
  | bor l=>obtain⟨a,vs,e,_,qa,ra⟩:=r;exact⟨a,vs,e,(.inl ⟨(λ z=>by rw[qa] at z;cases z),.of qa⟩),ra.ke (.up up)⟩
  | _=>exact Rp.ke (.up up) r
theorem Gk{f:Nat}{a:Expr}{es:List Expr}(xo:XOk X J FT GT fs gs)(hf:fs[f]?=some x)(hg:Gl X x)(hd:(x == ("__debug__" : Str))=false)(ha:PA X (a::es) (rA X.K J FT GT l))(hs:aT a=true)(hss:es.all aT=true) :
  PE X (.Call (.Name x p) (a::es) [] pos) (rE X.K J FT GT (.call f l)):=by
 obtain⟨S,eS⟩:∃S,FT[f]?=some S:=iq (by rw[← xo.len];exact(bD.mp hf).1);obtain⟨k,ps,hr,c⟩:=xo.fns f x S hf eS;refine(ux c hr hg um ha hd (bJ hs) (fg hss)).imp λ σ H Q ⟨F,ρ,ev,w⟩=>⟨F,ρ,ev,bQ l (λ ts w F1 H1 vs g1 r1=>?_) w⟩;obtain⟨P,⟨S',e',sp⟩,w⟩:=w;rw[eS] at e';cases e';rw[fZ]
 cases n:ts.all TV.nb with
 | true =>
  obtain⟨F2,g2,_,r2⟩:=gG g1 r1 n;exact⟨F2,_,P,g2.w,r2,sp,λ t pt F' H' v g' r'=>(w t pt).2 F' H' v (g2.trans g') (Rr.of r')⟩
 | false =>
  obtain⟨F2,w2,r2⟩:=vN g1.w r1;refine⟨F2,_,P,w2,r2,sp,λ t pt F' H' v g' r'=>?_⟩;obtain⟨lf,w⟩:=w t pt;have gg:Grow J F1 H1 F1 H':=⟨g'.sm,g'.dm,λ _ h=>h,λ _ h=>.inl h,g'.w.j,λ b f=>g'.dm b (g1.w.d b f)⟩;exact w F1 H' v (g1.trans gg) (Rr.of ((lf n).rp r'))
theorem iA{a:Expr}{es:List Expr}{id:String}(hc:bG X (.builtin id) (rL X J (biP f)))(hg:Gl X x)(hm:X.mg x=none)(hv:bootBuiltins x=some (.builtin id))(hn:x ≠ "__name__")(hd:(x == ("__debug__" : Str))=false)(ha:PA X (a::es) (rA X.K J FT GT l))(hs:aT a=true)(hss:es.all aT=true) :
  PE X (.Call (.Name x p) (a::es) [] pos) (rE X.K J FT GT (.bi f l)) :=
 (oA hc hg hm hv ha hn hd (bJ hs) (fg hss)).imp λ σ H Q ⟨F,ρ,ev,w⟩=>⟨F,ρ,ev,bQ l (λ ts w F1 H1 vs g1 r1=>⟨F,H,F1,ts,g1,r1,w⟩) w⟩
theorem qF{a:Expr}{es:List Expr}{id:String}(hc:bG X (.type id) (rL X J (biP f)))(hg:Gl X x)(hm:X.mg x=none)(hv:bootBuiltins x=some (.type id))(hn:x ≠ "__name__")(hd:(x == ("__debug__" : Str))=false)(ha:PA X (a::es) (rA X.K J FT GT l))(hs:aT a=true)(hss:es.all aT=true) :
  PE X (.Call (.Name x p) (a::es) [] pos) (rE X.K J FT GT (.bi f l)) :=
 (lC hc hg hm hv ha hn hd (bJ hs) (fg hss)).imp λ σ H Q ⟨F,ρ,ev,w⟩=>⟨F,ρ,ev,bQ l (λ ts w F1 H1 vs g1 r1=>⟨F,H,F1,ts,g1,r1,w⟩) w⟩
theorem Gm{a:Expr}{es:List Expr}(xo:XOk X J FT GT fs gs)(hx:biN f=some x)(hg:Gl X x)(ha:PA X (a::es) (rA X.K J FT GT l))(hs:aT a=true)(hss:es.all aT=true) :
  PE X (.Call (.Name x p) (a::es) [] pos) (rE X.K J FT GT (.bi f l)):=by
 have bm:∀y,y∈BN->X.mg y=none:=xo.blt
 cases f with
 | len=>cases hx;exact iA (gC xo.hJ xo.calm .len (by simp)) hg (bm _ (by decide)) (by decide +kernel) (by decide) (by decide) ha hs hss
 | tuple=>cases hx;exact qF (gC xo.hJ xo.calm .tuple (by simp)) hg (bm _ (by decide)) (by decide +kernel) (by decide) (by decide) ha hs hss
 | list=>cases hx;exact qF (gC xo.hJ xo.calm .list (by simp)) hg (bm _ (by decide)) (by decide +kernel) (by decide) (by decide) ha hs hss
 | sum=>cases hx;exact iA (gC xo.hJ xo.calm .sum (by simp)) hg (bm _ (by decide)) (by decide +kernel) (by decide) (by decide) ha hs hss
 | max=>cases hx;exact iA (FC xo.calm) hg (bm _ (by decide)) (by decide +kernel) (by decide) (by decide) ha hs hss
 | min=>cases hx;exact iA (FD xo.calm) hg (bm _ (by decide)) (by decide +kernel) (by decide) (by decide) ha hs hss
 | abs=>cases hx;exact iA (gC xo.hJ xo.calm .abs (by simp)) hg (bm _ (by decide)) (by decide +kernel) (by decide) (by decide) ha hs hss
 | int=>cases hx;exact qF (gC xo.hJ xo.calm .int (by simp)) hg (bm _ (by decide)) (by decide +kernel) (by decide) (by decide) ha hs hss
 | sorted=>cases hx;exact iA (gC xo.hJ xo.calm .sorted (by simp)) hg (bm _ (by decide)) (by decide +kernel) (by decide) (by decide) ha hs hss
 | any=>cases hx;exact iA (gC xo.hJ xo.calm .any (by simp)) hg (bm _ (by decide)) (by decide +kernel) (by decide) (by decide) ha hs hss
 | _=>cases hx
theorem Gn{f:BI}{z:Str}{p pos pz:Pos}(xo:XOk X J FT GT fs gs)(h:f=.isI\/f=.isB\/f=.isT\/f=.isL\/f=.isS)(hz:z=Str.ofString (isN f))(hg:Gl X "isinstance")(hgz:Gl X z)(hs:aT y=true)(hy:PE X y (rE X.K J FT GT b)) :
  PE X (.Call (.Name "isinstance" p) [y,.Name z pz] [] pos) (rE X.K J FT GT (.isi f b)):=by
 have bm:∀y,y∈BN->X.mg y=none:=xo.blt
 have hb:bootBuiltins z=some (.type (isN f))/\X.mg z=none/\z ≠ "__name__" /\ (z == ("__debug__" : Str))=false:=by
  subst hz
  rcases h with rfl | rfl | rfl | rfl | rfl<;>exact⟨by decide +kernel,bm _ (by decide),by decide,by decide⟩
 have ha:PA X [y,.Name z pz] (jQ (rE X.K J FT GT b) (jQ (tC (.ty (isN f))) lA)):=bI hy (bI (zB (v:=.ty (isN f)) hgz hb.2.1 hb.1 rfl hb.2.2.1 hb.2.2.2) pa_nil rfl) (bJ hs);refine(oA (FH (J:=J) f h) hg (bm _ (by decide)) (by decide +kernel) ha (by decide) (by decide) (bJ hs) rfl).imp λ σ H Q ⟨F,ρ,ev,w⟩=>⟨F,ρ,ev,ao b (λ t w F1 H1 v g1 r1=>?_) w⟩;exact⟨v,rfl,F,H,F1,[t],g1,.cons r1 .nil,w⟩
theorem Go{p pos kp p2:Pos}(xo:XOk X J FT GT fs gs)(hg:Gl X "max")(hg2:Gl X "len")(hs:aT y=true)(hs2:aT z=true)(hy:PE X y (rE X.K J FT GT a))(hz:PE X z (rE X.K J FT GT b)) :
  PE X (.Call (.Name "max" p) [y,z] [⟨some (Str.ofString "key"),.Name "len" p2,kp⟩] pos) (rE X.K J FT GT (.mxl a b)):=by
 refine(Fx xo.calm hg (xo.blt _ (by decide)) hg2 (xo.blt _ (by decide)) hy hz (bJ hs) (bJ hs2)).imp λ σ H Q ⟨F,ρ,ev,w⟩=>⟨F,ρ,ev,ao a (λ t w F1 H1 v g1 r1=>⟨F1,ρ,ev.grow g1,ao b (λ u w F2 H2 v2 g2 r2=>?_) w⟩) w⟩;have w:biP .maxlen [t,u] λ t=>∀F' H' v,Grow J F H F' H'->Rr X.K H F' H' t v->Q v H':=w
 cases t with
 | tup l =>
  cases u with
  | tup m =>
   obtain⟨A,xs,rfl,q1,s1⟩:=r1.grow g2;obtain⟨B,ys,rfl,q2,s2⟩:=r2;refine⟨A,B,xs,ys,rfl,rfl,q1,q2,λ z=>?_,λ z=>?_⟩
   ·have w:∀F' H' v,Grow J F H F' H'->Rr X.K H F' H' (.tup (if l.length < m.length then m else l)) v->Q v H':=w;rw[if_neg (by rw[s1.length,s2.length];lia)] at w;exact w F2 H2 _ (g1.trans g2) ⟨A,xs,rfl,q1,s1⟩
   ·have w:∀F' H' v,Grow J F H F' H'->Rr X.K H F' H' (.tup (if l.length < m.length then m else l)) v->Q v H':=w;rw[if_pos (by rw[s1.length,s2.length];lia)] at w;exact w F2 H2 _ (g1.trans g2) ⟨B,ys,rfl,q2,s2⟩
  | _=>exact w.elim
 | _=>cases u<;>exact w.elim
theorem Gp{p pos p2 pos2:Pos}(xo:XOk X J FT GT fs gs)(hg:Gl X "tuple")(hg2:Gl X "reversed")(hs:aT y=true)(hy:PE X y (rE X.K J FT GT a)) :
  PE X (.Call (.Name "tuple" p) [.Call (.Name "reversed" p2) [y] [] pos2] [] pos) (rE X.K J FT GT (.trev k a)):=by
 cases k with
 | false =>
  refine(Da xo.calm hg hg2 (xo.blt _ (by decide)) (xo.blt _ (by decide)) hy (bJ hs)).imp λ σ H Q ⟨F,ρ,ev,w⟩=>⟨F,ρ,ev,ao a (λ t w F1 H1 v g1 r1=>?_) w⟩;obtain⟨l,e,w⟩:=gA (show l1 t λ l=>∀F' H' v,Grow J F H F' H'->Rr X.K H F' H' (.tup l.reverse) v->Q v H' from w);obtain⟨b,vs,rfl,r,q⟩:=r1.lq e;exact⟨b,vs,rfl,q,gB xo.hJ g1 r.reverse w⟩
 | true =>
  refine(DE xo.calm hg hg2 (xo.blt _ (by decide)) (xo.blt _ (by decide)) hy (bJ hs)).imp λ σ H Q ⟨F,ρ,ev,w⟩=>⟨F,ρ,ev,ao a (λ t w F1 H1 v g1 r1=>?_) w⟩;have w:k1 true t λ l=>∀F' H' v,Grow J F H F' H'->Rr X.K H F' H' (.tup l.reverse) v->Q v H':=w
  cases t with
  | tup l=>obtain⟨b,vs,rfl,q,r⟩:=r1;exact⟨b,vs,rfl,q,gB xo.hJ g1 r.reverse w⟩
  | _=>exact w.elim
theorem Gq{k:Bool}{p pos p2 pos2:Pos}(xo:XOk X J FT GT fs gs)(hg:Gl X (Str.ofString (if k=true then "tuple" else "list")))(hg2:Gl X "range")(hs:aT y=true)(hy:PE X y (rE X.K J FT GT a)) :
  PE X (.Call (.Name (Str.ofString (if k=true then "tuple" else "list")) p) [.Call (.Name "range" p2) [y] [] pos2] [] pos) (rE X.K J FT GT (.lrng k a)):=by
 have hr:=lC (p:=p2) (pos:=pos2) DK hg2 (xo.blt _ (by decide)) (by decide +kernel) (bI hy pa_nil (bJ hs)) (by decide) (by decide) (bJ hs) rfl;have e:∀j:Int,(upL j.toNat).map TV.int=(List.range j.toNat).map λ i=>TV.int (i:Nat):=λ j=>by unfold upL;rw[bE];rfl
 cases k with
 | false =>
  refine(lC (DM xo.calm) hg (xo.blt _ (by decide)) (by decide +kernel) (bI hr pa_nil rfl) (by decide) (by decide) rfl rfl).imp λ σ H Q ⟨F,ρ,ev,w⟩=>⟨F,ρ,ev,ao a (λ t w F1 H1 v g1 r1=>?_) w⟩;obtain⟨j,rfl,⟨c0,c1⟩,w⟩:=eZ (show i1 t λ j=>(0≤j/\j≤1000)/\∀F' H' v,Grow J F H F' H'->Rr X.K H F' H' (.own ((List.range j.toNat).map λ i=>.int (i:Nat))) v->Q v H' from w);cases r1;refine⟨j,rfl,λ r hr=>?_⟩;have g2:Grow J F1 H1 F1 (upd H1 r (.rng 0 j)):=.new xo.hJ g1.w _ hr;refine⟨r,j.toNat,rfl,by rw[bz];congr 2;exact(eI c0).symm,by lia,λ l hl=>?_⟩;rw[← e] at w;exact fb xo.hJ (g1.trans g2) (RpL.ofInts _) w l hl
 | true =>
  refine(lC (EU xo.calm) hg (xo.blt _ (by decide)) (by decide +kernel) (bI hr pa_nil rfl) (by decide) (by decide) rfl rfl).imp λ σ H Q ⟨F,ρ,ev,w⟩=>⟨F,ρ,ev,ao a (λ t w F1 H1 v g1 r1=>?_) w⟩;obtain⟨j,rfl,⟨c0,c1⟩,w⟩:=eZ (show i1 t λ j=>(0≤j/\j≤1000)/\∀F' H' v,Grow J F H F' H'->Rr X.K H F' H' (.tup ((List.range j.toNat).map λ i=>.int (i:Nat))) v->Q v H' from w);cases r1;refine⟨j,rfl,λ r hr=>?_⟩;have g2:Grow J F1 H1 F1 (upd H1 r (.rng 0 j)):=.new xo.hJ g1.w _ hr;refine⟨r,j.toNat,rfl,by rw[bz];congr 2;exact(eI c0).symm,by lia,λ l hl=>?_⟩;rw[← e] at w;exact gB xo.hJ (g1.trans g2) (RpL.ofInts _) w l hl
end
section
variable {X:Cx}{J:Hp->Prop}{FT:List PSp}{GT:List TV}{fs gs:List Str}{N:List Str}{nm:List (Str × NameKind)}{tg:Expr}
theorem Gr(hy:PE X y (rE X.K J FT GT a)):PI X tg y (rW X.K J FT GT .seq (.cons a .nil)) :=
 (Eb hy).imp λ σ H R ⟨F,ρ,ev,w⟩=>⟨F,ρ,ev,ao a (λ t w F1 H1 v g r=>by
  obtain⟨b,l,e,w⟩:=jp (show s1 t λ its=>∀F' H' xs Jt,Grow J F H F' H'->RrL X.K H F' H' [t] xs->ItOk X.K J Jt its [t] xs->R Jt H' from w);obtain⟨p,vs,rfl,_,q⟩:=r.sq e
  rcases q with ⟨rfl,q⟩ | ⟨rfl,q⟩
  ·exact .inr ⟨p,rfl,⟨vs,q⟩,w F1 H1 _ _ g (.cons r .nil) (FK e)⟩
  ·exact .inl ⟨p,rfl,⟨vs,q⟩,w F1 H1 _ _ g (.cons r .nil) (FJ e)⟩) w⟩
theorem Gs(n:Nat):((List.range n).map λ k=>TV.int (0+(k:Nat)))=(List.range n).map λ k=>TV.int (k:Nat):=by simp
theorem Gu{p pos:Pos}(xo:XOk X J FT GT fs gs)(hg:Gl X "range")(hs:aT e=true)(he:PE X e (rE X.K J FT GT a)):PI X tg (.Call (.Name "range" p) [e] [] pos) (rW X.K J FT GT .rng (.cons a .nil)) :=
 (Ag hg (xo.blt _ (by decide)) (bI he pa_nil (bJ hs)) (bJ hs)).imp λ σ H R ⟨F,ρ,ev,w⟩=>⟨F,ρ,ev,ao a (λ t w F1 H1 v g r=>by
  obtain⟨j,rfl,c,w⟩:=eZ (show i1 t λ j=>(-(2 ^ 62)≤j/\j < 2 ^ 62)/\∀F' H' xs Jt,Grow J F H F' H'->RrL X.K H F' H' [t] xs->ItOk X.K J Jt ((List.range j.toNat).map λ i=>.int (i:Nat)) [t] xs->R Jt H' from w);cases r
  exact⟨j,rfl,c.1,c.2,w F1 H1 _ _ g (.cons rfl .nil) (by rw[← Gs];exact FL 0 _)⟩) w⟩
theorem Gv(h:k1 b t P):∃l,t.items=some (b,l)/\P l:=by
 cases b with
 | true=>cases t<;>first | exact⟨_,rfl,h⟩ | exact h.elim
 | false=>exact gA h
theorem Rr.sb{K:FG}{b:Bool}{l:List TV}(h:Rr K H F' H' t v)(e:t.items=some (b,l)):∃a vs,v=.ref a/\SqB K b H' a vs:=by
 obtain⟨a,vs,rfl,q,_⟩:=h.vw.b e;exact⟨a,vs,rfl,q⟩
noncomputable def cEn(own:List Str)(js:List Nat)(ρ:En):En:=List.replicate own.length none++js.map λ j=>(ρ[j]?).join
theorem EV.comp{K:FG}{own:List Str}(e:EV K J F H σ ρ):EV K J F H (cL own.length js σ) (cEn own js ρ) :=
 ⟨e.w,λ i t h=>by
  unfold cEn at h;unfold cL;by_cases hi:i < own.length
  ·rw[eT (by simpa using hi),jU] at h;split at h<;>cases h
  ·rw[ef (by simpa using hi),dH,bW] at h;rw[ef (by simpa using hi),dH,bW]
   cases ej:js[i - own.length]? with
   | none=>rw[ej] at h;cases h
   | some j =>
    rw[ej] at h;have h:(ρ[j]?).join=some t:=cr h
    have h2:ρ[j]?=some (some t):=by
     cases q:ρ[j]? with
     | none=>rw[q] at h;cases h
     | some o=>rw[q] at h;cases o<;>cases h;rfl
    obtain⟨v,e1,r⟩:=e.sl j t h2
    exact⟨v,by rw[Option.map_some,e1];rfl,r⟩⟩
theorem mC{own:List Str}{i:Nat}(h:i < own.length):∀u,(cEn own js ρ)[i]?≠some (some u):=λ u z=>by
 unfold cEn at z;rw[eT (by simpa using h),jU] at z;split at z<;>cases z
theorem mD{K:PySem.W.Frag}{own:List Str}{js tgs:List Nat}{Q:VK}{tc:TT}{te:TE}
  (hJ:JS J) (g1:Grow J F H F1 H1) (rx:RrL K H F1 H1 ts xs) (ok:ItOk K J Jt its ts xs) (ev:EV K J F H σ ρ) (lt:∀i∈tgs,i < own.length) (hn:its.length < sizeLine) (b:TV->(List TV->Prop)->Prop)
  (hm:∀t K K',(∀y,K y->K' y)->b t K->b t K') (w:cmF b its λ ys=>∀F' H' v,Grow J F H F' H'->Rr K H F' H' (.own ys) v->Q v H')
  (st:∀t P x F' H' σ',b t P->EV K J F' H' σ' (cEn own js ρ)->σ'.length=(cL own.length js σ).length->Rp K F' H' t x ->
   ∀R:List V->St->Hp->Prop,(∀ys vs σ2 F2 H2,P ys->ys.length≤1->Grow J F' H' F2 H2->RpL K F2 H2 ys vs->EV K J F2 H2 σ2 (cEn own js ρ)->σ2.length=σ'.length->R vs σ2 H2) ->
    tgG K tgs x σ' H' λ σ3 H3=>tc σ3 H3 λ q H4=>if q=true then te σ3 H4 λ v H5=>R [v] σ3 H5 else R [] σ3 H4) :
  ∃W:Nat->Nat->List V->St->Hp->Prop,(∃m,W 0 m [] (cL own.length js σ) H1)/\∀i m ys σ' H',W i m ys σ' H' ->
   (Jt.stop i H'/\∀p,H' p=none->Q (.ref p) (upd H' p (.lst ys))) \/
   (Jt.go i H'/\ys.length < sizeLine/\∃N:List V->St->Hp->Prop,(∀zs σ2 H2,N zs σ2 H2->∃m',m' < m/\W (i+1) m' zs σ2 H2) /\
    ∀x H2,Jt.yld i H' x H2->tgG K tgs x σ' H2 λ σ3 H3=>tc σ3 H3 λ q H4=>if q=true then te σ3 H4 λ v H5=>N (ys++[v]) σ3 H5 else N ys σ3 H4):=by
 refine⟨λ i m ys σ' H'=>i≤its.length/\m=its.length - i/\∃F' zs,Grow J F1 H1 F' H'/\EV K J F' H' σ' (cEn own js ρ)/\σ'.length=(cL own.length js σ).length/\RpL K F' H' zs ys/\zs.length≤i/\cmF b (its.drop i) λ ws=>∀F' H' v,Grow J F H F' H'->Rr K H F' H' (.own (zs++ws)) v->Q v H',
  ⟨_,cy _,rfl,F1,[],.refl g1.w,(ev.grow g1).comp,rfl,rfl,cy _,w⟩,?_⟩
 rintro i m ys σ' H' ⟨hi,rfl,F',zs,g',ev',sl,rz,zl,w'⟩;have vw:Paired (Vw K F' H') ts xs:=Paired.mapP (rx.grow g') λ _ _ r=>r.vw;by_cases c:i < its.length
 ·refine .inr ⟨ok.go F' H' i g'.w vw c,by rw[← rz.length];lia,λ zs' σ2 H2=>∃F2 ws,Grow J F1 H1 F2 H2/\EV K J F2 H2 σ2 (cEn own js ρ)/\σ2.length=(cL own.length js σ).length/\RpL K F2 H2 ws zs'/\ws.length≤i+1/\cmF b (its.drop (i+1)) λ us=>∀F' H' v,Grow J F H F' H'->Rr K H F' H' (.own (ws++us)) v->Q v H',
   λ zs' σ2 H2 ⟨F2,ws,q⟩=>⟨_,by lia,c,rfl,F2,ws,q⟩,λ x H2 y=>?_⟩
  obtain⟨t,et,gy,rt⟩:=ok.yld F' H' i x H2 g'.w vw c y
  have ed:its.drop i=t::its.drop (i+1):=by
   rw[mE c]
   congr 1
   rw[bP c] at et;exact cr et
  rw[ed] at w'
  have z:=st t _ x F' H2 σ' w' (ev'.grow gy) sl rt (λ vs σ2 H3=>∃F2 ws,Grow J F1 H1 F2 H3/\EV K J F2 H3 σ2 (cEn own js ρ)/\σ2.length=(cL own.length js σ).length/\RpL K F2 H3 ws (ys++vs)/\ws.length≤i+1/\cmF b (its.drop (i+1)) λ us=>∀F' H' v,Grow J F H F' H'->Rr K H F' H' (.own (ws++us)) v->Q v H')
   (λ zs2 vs σ2 F2 H3 q l1 g2 r2 e2 s2=>⟨F2,zs++zs2,(g'.trans gy).trans g2,e2,s2.trans sl,(rz.ke (gy.trans g2).ke).append r2,by rw[aC];lia,by
    exact mf hm (λ us q=>by rw[gc];exact q) q⟩)
  simp only[fZ] at z;exact z
 ·have e:i=its.length:=by lia
  subst e;rw[mF] at w';have w':∀F' H' v,Grow J F H F' H'->Rr K H F' H' (.own (zs++[])) v->Q v H':=w';rw[fZ] at w';exact .inl ⟨ok.stop F' H' g'.w vw,fb hJ (g1.trans g') rz w'⟩
end
section
variable {X:Cx}{J:Hp->Prop}{FT:List PSp}{GT:List TV}{fs gs:List Str}{N:List Str}{nm:List (Str × NameKind)}
theorem jx{cl:LA}(xo:XOk X J FT GT fs gs):XOk (bv X N' sc cl C ex s H) J FT GT fs gs:=⟨xo.calm,xo.units,xo.hJ,xo.fns,xo.glb,xo.dic,xo.blt,xo.len⟩
theorem Gw{own fv:List Str}{t iter elt:Expr}(xo:XOk X J FT GT fs gs)(xs:XS X N nm)(hS:ckS N nm sc own fv js=true)(hi:PI X t iter (rW X.K J FT GT k it))(hT:ckT false (own++fv) (cn nm sc.names) tgs t=true)(hl:tgs.all (λ i=>decide (i < own.length))=true)(hns:dy iter=true)
  (he:∀Y:Cx,XOk Y J FT GT fs gs->XS Y (own++fv) (cn nm sc.names)->PE Y elt (rE Y.K J FT GT e)):PE X (.ListComp elt [⟨t,iter,[],0⟩] sc pos) (rE X.K J FT GT (.comp own fv js tgs k it e)):=by
 intro pins s σ H Q I h;obtain⟨cl,S⟩:=my I.ok xs hS;have yx:∀(C:Addr) (ex:List Addr) (s:Shared) (H:Hp),XS (bv X (own++fv) sc cl C ex s H) (own++fv) (cn nm sc.names):=λ C ex s H=>⟨rfl,S.rel⟩;have lt:∀i∈tgs,i < own.length:=λ i hi=>ar (gH.mp hl i hi);refine Cb (g:=tgG X.K tgs) (te:=rE X.K J FT GT e) xo.calm hi S.clos S.cell S.kind S.names S.sub S.has S.len S.cap (λ C ex s H=>(jw (X:=bv X (own++fv) sc cl C ex s H) S.nd xo.calm (yx C ex s H) (λ z=>by cases z) hT).1) (λ C ex s H=>he _ (jx xo) (yx C ex s H)) (λ x=>kD hns) pins s σ H Q I ?_;obtain⟨F,ρ,ev,w⟩:=h;refine⟨F,ρ,ev,bQ it (λ ts w=>gw (λ its w F1 H1 xs Jt g1 rx ok=>?_) w) w⟩;obtain⟨hn,w⟩:=w
 have z:=mD (tc:=λ σ H Q=>Q true H) (te:=rE X.K J FT GT e) xo.hJ g1 rx ok ev lt hn (λ t K'=>stE (cEn own js ρ) tgs t λ ρ'=>wE FT GT e ρ' λ y=>(y.nb=true/\K' [y.fz])) (λ t K K' h q=>eG (λ ρ' q=>ao e (λ y q=>⟨q.1,h _ q.2⟩) q) q) w
  (λ t P x F' H' σ' b ev' sl rt R fin=>mz b ev' rt (λ i hi=>by rw[sl];unfold cL;simp;have:=lt i hi;lia) λ σ2 ρ2 p ev2 sl2 keep=>by
   show if true=true then _ else _;rw[if_pos rfl];refine⟨F',ρ2,ev2,ao e (λ y ⟨nb,p⟩ F2 H2 v g r=>?_) p⟩;obtain⟨F3,g3,_,_,rp⟩:=r.frz g nb
   exact fin [y.fz] [v] σ2 F3 H2 p (au _) g3 ⟨v,[],rfl,rp,rfl⟩ ((keep _ ev' λ i hi u=>mC (lt i hi) u).grow g3) sl2)
 simpa only[dJ] using z
theorem Gy{own fv:List Str}{t iter elt cnd:Expr}(xo:XOk X J FT GT fs gs)(xs:XS X N nm)(hS:ckS N nm sc own fv js=true)(hi:PI X t iter (rW X.K J FT GT k it))(hT:ckT false (own++fv) (cn nm sc.names) tgs t=true)(hl:tgs.all (λ i=>decide (i < own.length))=true)(hns:dy iter=true)
  (hc:∀Y:Cx,XOk Y J FT GT fs gs->XS Y (own++fv) (cn nm sc.names)->PT Y cnd (rT Y.K J FT GT c)) (he:∀Y:Cx,XOk Y J FT GT fs gs->XS Y (own++fv) (cn nm sc.names)->PE Y elt (rE Y.K J FT GT e)):PE X (.ListComp elt [⟨t,iter,[cnd],0⟩] sc pos) (rE X.K J FT GT (.compI own fv js tgs k it c e)):=by
 intro pins s σ H Q I h;obtain⟨cl,S⟩:=my I.ok xs hS;have yx:∀(C:Addr) (ex:List Addr) (s:Shared) (H:Hp),XS (bv X (own++fv) sc cl C ex s H) (own++fv) (cn nm sc.names):=λ C ex s H=>⟨rfl,S.rel⟩;have lt:∀i∈tgs,i < own.length:=λ i hi=>ar (gH.mp hl i hi);refine Dm (g:=tgG X.K tgs) (tc:=rT X.K J FT GT c) (te:=rE X.K J FT GT e) xo.calm hi S.clos S.cell S.kind S.names S.sub S.has S.len S.cap (λ C ex s H=>(jw (X:=bv X (own++fv) sc cl C ex s H) S.nd xo.calm (yx C ex s H) (λ z=>by cases z) hT).1) (λ C ex s H=>he _ (jx xo) (yx C ex s H)) (λ C ex s H=>hc _ (jx xo) (yx C ex s H)) (λ x=>kD hns) pins s σ H Q I ?_;obtain⟨F,ρ,ev,w⟩:=h;refine⟨F,ρ,ev,bQ it (λ ts w=>gw (λ its w F1 H1 xs Jt g1 rx ok=>?_) w) w⟩;obtain⟨hn,w⟩:=w
 exact mD (tc:=rT X.K J FT GT c) (te:=rE X.K J FT GT e) xo.hJ g1 rx ok ev lt hn (λ t K'=>stE (cEn own js ρ) tgs t λ ρ'=>wE FT GT c ρ' λ x=>b1 x λ q=>if q=true then wE FT GT e ρ' λ y=>(y.nb=true/\K' [y.fz]) else K' []) (λ t K K' h q=>eG (λ ρ' q=>ao c (λ x q=>bT (λ z q=>by
   split at q
   ·rw[if_pos (by assumption)];exact ao e (λ y q=>⟨q.1,h _ q.2⟩) q
   ·rw[if_neg (by assumption)];exact h _ q) q) q) q) w
  (λ t P x F' H' σ' b ev' sl rt R fin=>mz b ev' rt (λ i hi=>by rw[sl];unfold cL;simp;have:=lt i hi;lia) λ σ2 ρ2 p ev2 sl2 keep=>by
   have kp:=keep _ ev' λ i hi u=>mC (own:=own) (js:=js) (ρ:=ρ) (lt i hi) u;refine⟨F',ρ2,ev2,ao c (λ x w=>bT (λ q w2 F2 H2 g2=>?_) w) p⟩;split at w2
   ·rw[if_pos (by assumption)];refine⟨F2,ρ2,ev2.grow g2,ao e (λ y ⟨nb,p⟩ F3 H3 v g r=>?_) w2⟩;obtain⟨F4,g4,_,_,rp⟩:=r.frz g nb;exact fin [y.fz] [v] σ2 F4 H3 p (au _) (g2.trans g4) ⟨v,[],rfl,rp,rfl⟩ ((kp.grow g2).grow g4) sl2
   ·rw[if_neg (by assumption)]
    exact fin [] [] σ2 F2 H2 w2 (cy _) g2 rfl (kp.grow g2) sl2)
theorem Gz{es:List Expr}(h:es.all aT=true):(backTo pos (starEach es env)).all (λ x=>!x.1)=true:=by
 unfold backTo;rw[List.all_map];have:=qA (env:=env) h;rw[List.all_eq_not_any_not];simpa using this
theorem qG{e:Expr}{es:List Expr}(h:(e::es).all aT=true)(hl:(e::es).length < 20) :
  ((backTo cp (starEach (e::es) env)).all (λ x=>!x.1) && (backToKw cp (keywordEach [] env)).all (λ x=>x.1.isSome) && decide ((e::es).length+([]:List Keyword).length+(if ([]:List Keyword).isEmpty then 0 else 1) < 30))=true:=by
 rw[Gz h,aX,aX];refine⟨⟨rfl,rfl⟩,?_⟩;simp only[List.isEmpty_nil,dJ,List.length_nil];exact bw (by lia)
theorem GA(h:PE X e (rE X.K J FT GT c))(he:∀whole,isTrue e X.env whole=(do let v ← whole;standAt e.pos;holding [v] (truthy v))):PT X e (rT X.K J FT GT c) :=
 (zD h he).imp λ σ H Q ⟨F,ρ,ev,w⟩=>⟨F,ρ,ev,ao c (λ t w F1 H1 v g r=>by
  obtain⟨b,e,w2⟩:=gz w;subst e;cases r
  exact w2 F1 H1 g) w⟩
theorem GC{o:CmpOp}(xo:XOk X J FT GT fs gs)(ha:PE X l (rE X.K J FT GT a))(hb:PE X r (rE X.K J FT GT b))(hs:dy r=true):PT X (.Compare l [o] [r] p) (rT X.K J FT GT (.cmp o a b)) :=
 (AH (jq xo.units o) ha hb (qE hs)).imp λ σ H Q ⟨F,ρ,ev,w⟩=>⟨F,ρ,ev,ao a (λ x w F1 H1 v g1 r1=>⟨F1,ρ,ev.grow g1,ao b (λ y w F2 H2 v2 g2 r2=>⟨F,H,F2,x,y,g1.trans g2,r1.grow g2,r2.late g1,fO (λ z w v r=>by
  obtain⟨b,e,w2⟩:=gz w;subst e;cases r
  exact w2 F2 H2 (g1.trans g2)) w⟩) w⟩) w⟩
theorem GD{o o':CmpOp}(xo:XOk X J FT GT fs gs)(ha:PE X l (rE X.K J FT GT a))(hb:PE X r (rE X.K J FT GT b))(hc:PE X w' (rE X.K J FT GT c))(hs:dy w'=true):PT X (.Compare l [o,o'] [r,w'] p) (rT X.K J FT GT (.cm2 o o' a b c)) :=
 (AJ (jq xo.units o) (jq xo.units o') ha hb hc (vJ hs)).imp λ σ H Q ⟨F,ρ,ev,w⟩=>⟨F,ρ,ev,ao a (λ x w F1 H1 v g1 r1=>⟨F1,ρ,ev.grow g1,ao b (λ y w F2 H2 v2 g2 r2=>⟨F,H,F2,x,y,g1.trans g2,r1.grow g2,r2.late g1,fO (λ z w v3 r3=>by
  obtain⟨k,ek,w2⟩:=gz w;subst ek;cases r3;refine⟨k,rfl,?_⟩;split at w2
  ·rw[if_pos (by assumption)]
   exact⟨F2,ρ,(ev.grow g1).grow g2,ao c (λ z w F4 H4 v4 g4 r4=>⟨F,H,F4,y,z,(g1.trans g2).trans g4,(r2.late g1).grow g4,r4.late (g1.trans g2),fO (λ u w v r=>by
    obtain⟨b,e,w3⟩:=gz w;subst e;cases r
    exact w3 F4 H4 ((g1.trans g2).trans g4)) w⟩) w2⟩
  ·rw[if_neg (by assumption)];exact w2 F2 H2 (g1.trans g2)) w⟩) w⟩) w⟩
theorem GE(ha:PT X l (rT X.K J FT GT a)):PT X (.UnaryOp .Not l p) (rT X.K J FT GT (.not a)) :=
 (zK ha).imp λ σ H Q ⟨F,ρ,ev,w⟩=>⟨F,ρ,ev,ao a (λ x w=>bT (λ b w F1 H1 g=>w F1 H1 g) w) w⟩
theorem vO{l r:Expr}{rest:List Expr}(ha:PT X l (rT X.K J FT GT a))(hb:PW X (.BoolOp .And (r::rest) p) (rT X.K J FT GT b)):PW X (.BoolOp .And (l::r::rest) p) (rT X.K J FT GT (.and a b)):=by
 intro wh pins s σ H Q I q;refine zI ha hb wh pins s σ H Q I ?_;obtain⟨F,ρ,ev,w⟩:=q;refine⟨F,ρ,ev,ao a (λ x w=>bT (λ k w2 F1 H1 g1=>?_) w) w⟩;split at w2
 ·rw[if_pos (by assumption)];exact⟨F1,ρ,ev.grow g1,ao b (λ y w=>bT (λ k w F2 H2 g2=>w F2 H2 (g1.trans g2)) w) w2⟩
 ·rw[if_neg (by assumption)];exact w2 F1 H1 g1
theorem vP{l r:Expr}{rest:List Expr}(ha:PT X l (rT X.K J FT GT a))(hb:PW X (.BoolOp .Or (r::rest) p) (rT X.K J FT GT b)):PW X (.BoolOp .Or (l::r::rest) p) (rT X.K J FT GT (.or a b)):=by
 intro wh pins s σ H Q I q;refine zJ ha hb wh pins s σ H Q I ?_;obtain⟨F,ρ,ev,w⟩:=q;refine⟨F,ρ,ev,ao a (λ x w=>bT (λ k w2 F1 H1 g1=>?_) w) w⟩;split at w2
 ·rw[if_pos (by assumption)];exact w2 F1 H1 g1
 ·rw[if_neg (by assumption)];exact⟨F1,ρ,ev.grow g1,ao b (λ y w=>bT (λ k w F2 H2 g2=>w F2 H2 (g1.trans g2)) w) w2⟩
theorem vQ{lo:Cd}(h:jv lo=true):PO X none (λ σ H Q=>∃F ρ,EV X.K J F H σ ρ/\wE FT GT lo ρ λ t=>oI t λ o=>∀F' H',Grow J F H F' H'->Q o H'):=by
 intro pins s σ H Q I q;obtain⟨F,ρ,ev,w⟩:=q
 have e:lo=.c .non:=by unfold jv at h;split at h<;>first | rfl | cases h
 subst e;exact Bk pins s σ H Q I (w F H (.refl ev.w))
theorem vR{lo:Cd}(he:PE X e (rE X.K J FT GT lo)):PO X (some e) (λ σ H Q=>∃F ρ,EV X.K J F H σ ρ/\wE FT GT lo ρ λ t=>oI t λ o=>∀F' H',Grow J F H F' H'->Q o H'):=by
 intro pins s σ H Q I q;obtain⟨F,ρ,ev,w⟩:=q;rw[evalPart_some];refine thn (he pins s σ H (λ x H1=>(x=.non/\Q none H1)\/∃i,x=.int i/\Q (some i) H1) I ⟨F,ρ,ev,ao lo (λ t w F1 H1 v g r=>?_) w⟩) λ u s1 ⟨x,H1,I1,r1,q1⟩=>?_
 ·cases t with
  | non=>cases r;exact .inl ⟨rfl,w F1 H1 g⟩
  | int i=>cases r;exact .inr ⟨i,rfl,w F1 H1 g⟩
  | _=>exact w.elim
 ·rcases q1 with ⟨rfl,q⟩ | ⟨i,rfl,q⟩
  ·cases r1;exact⟨none,H1,I1,.none,q⟩
  ·obtain⟨tk,rfl⟩:=r1;exact⟨some i,H1,I1,.int _ _,q⟩
end
theorem GF(h:vv c=true):c=.nil:=by cases c<;>first | rfl | exact Bool.noConfusion h
theorem GG(h:kB e=true):∃es k p,e=.Tuple es k p:=by cases e<;>first | exact⟨_,_,_,rfl⟩ | exact Bool.noConfusion h
set_option tactic.hygienic true in
theorem GH(h:tsE e=true)(whole:Sem Value):isTrue e env whole=(do let v ← whole;standAt e.pos;holding [v] (truthy v)):=by
 cases e<;>first | rfl | (exact Bool.noConfusion h) | skip
 rename_i op _ _
 cases op<;>first | rfl | exact Bool.noConfusion h
section
variable {fs gs:List Str}
theorem iB:∀ {r:Cd}{N:List Str}{nm:List (Str × NameKind)}{es:List Expr},ckL fs gs r N nm es=true->es.all aT=true:=λ {r}=>by
 induction r with
 | nil=>intro N nm es h;cases es with | nil=>rfl | cons e es=>exact Bool.noConfusion h
 | cons a r _ ih =>
  intro N nm es h
  cases es with
  | nil=>exact Bool.noConfusion h
  | cons e es =>
   obtain⟨h1,h2⟩:=an h;rw[cw,(an h1).1,ih h2];rfl
 | _=>intro N nm es h;exact Bool.noConfusion h
theorem kE(h:ckI fs gs c k tg N nm it=true):dy it=true:=by
 cases c with
 | cons a r =>
  cases k with
  | seq=>exact(an (an h).1).1
  | str=>exact Bool.noConfusion h
  | _=>exact cD h λ _ _ _ _ _=>rfl
 | _=>exact Bool.noConfusion h
end
section
variable {J:Hp->Prop}{FT:List PSp}{GT:List TV}{fs gs:List Str}
structure SA (J:Hp->Prop)(FT:List PSp)(GT:List TV)(fs gs:List Str)(c:Cd):Prop where
 e:∀ {X:Cx}{N:List Str}{nm:List (Str × NameKind)}{e:Expr},XOk X J FT GT fs gs->XS X N nm->ck fs gs c N nm e=true->PE X e (rE X.K J FT GT c)
 l:∀ {X:Cx}{N:List Str}{nm:List (Str × NameKind)}{es:List Expr},XOk X J FT GT fs gs->XS X N nm->ckL fs gs c N nm es=true->PA X es (rA X.K J FT GT c)
 i:∀ {k:IK}{X:Cx}{N:List Str}{nm:List (Str × NameKind)}{tg it:Expr},XOk X J FT GT fs gs->XS X N nm->ckI fs gs c k tg N nm it=true->PI X tg it (rW X.K J FT GT k c)
 t:∀ {X:Cx}{N:List Str}{nm:List (Str × NameKind)}{e:Expr},XOk X J FT GT fs gs->XS X N nm->tB' c e=true->ck fs gs c N nm e=true->PT X e (rT X.K J FT GT c)
 w:∀ {X:Cx}{N:List Str}{nm:List (Str × NameKind)}{op:BoolOp}{es:List Expr}{p:Pos},XOk X J FT GT fs gs->XS X N nm->ck fs gs c N nm (.BoolOp op es p)=true->PW X (.BoolOp op es p) (rT X.K J FT GT c)
noncomputable abbrev EF(J:Hp->Prop)(FT:List PSp)(GT:List TV)(fs gs:List Str)(c:Cd):Prop:=∀ {X:Cx}{N:List Str}{nm:List (Str × NameKind)}{e:Expr},XOk X J FT GT fs gs->XS X N nm->ck fs gs c N nm e=true->PE X e (rE X.K J FT GT c)
theorem SA.val(E:EF J FT GT fs gs c)(t:autoParam (∀e,tB' c e=tsE e) Z6_)(l:autoParam (∀N nm es,ckL fs gs c N nm es=false) Z7_)(i:autoParam (∀k tg N nm it,ckI fs gs c k tg N nm it=false) Z7_)(w:autoParam (∀N nm op es p,ck fs gs c N nm (.BoolOp op es p)=false) Z7_):SA J FT GT fs gs c :=
 ⟨E,λ _ _ h=>by rw[l] at h;exact Bool.noConfusion h,λ _ _ h=>by rw[i] at h;exact Bool.noConfusion h,λ xo xs n h=>GA (E xo xs h) (GH (by rw[← t];exact n)),λ _ _ h=>by rw[w] at h;exact Bool.noConfusion h⟩
theorem SA.tst(E:EF J FT GT fs gs c)(T:∀ {X:Cx}{N:List Str}{nm:List (Str × NameKind)}{e:Expr},XOk X J FT GT fs gs->XS X N nm->ck fs gs c N nm e=true->PT X e (rT X.K J FT GT c))(l:autoParam (∀N nm es,ckL fs gs c N nm es=false) Z7_)(i:autoParam (∀k tg N nm it,ckI fs gs c k tg N nm it=false) Z7_)(w:autoParam (∀N nm op es p,ck fs gs c N nm (.BoolOp op es p)=false) Z7_):SA J FT GT fs gs c :=
 ⟨E,λ _ _ h=>by rw[l] at h;exact Bool.noConfusion h,λ _ _ h=>by rw[i] at h;exact Bool.noConfusion h,λ xo xs _ h=>T xo xs h,λ _ _ h=>by rw[w] at h;exact Bool.noConfusion h⟩
theorem GI(h:vx f=true):f=.isI\/f=.isB\/f=.isT\/f=.isL\/f=.isS:=by cases f<;>first | exact Bool.noConfusion h | simp
theorem sA(J:Hp->Prop)(FT:List PSp)(GT:List TV)(fs gs:List Str)(c:Cd):SA J FT GT fs gs c:=by
 induction c with
 | v i=>exact .val λ xo xs h=>s_v xs h
 | c t=>exact .val λ xo xs h=>s_c h
 | g k=>exact .val λ xo xs h=>s_g xo xs h
 | bin o a b ia ib =>
  refine .val λ {X N nm e} xo xs h=>?_;refine FN h λ l op r p k1=>?_;obtain⟨g1,g2,g3⟩:=a3 k1;cases ar g1;exact FW xo (ia.e xo xs g2) (ib.e xo xs g3)
 | neg a ia =>
  refine .val λ {X N nm e} xo xs h=>?_;refine vz h λ op x p k1=>?_;cases ar (an k1).1;exact Ga (ia.e xo xs (an k1).2)
 | not a ia =>
  refine .tst (λ {X N nm e} xo xs h=>?_) (λ {X N nm e} xo xs h=>?_)
  all_goals
   refine vz h λ op x p k1=>?_;obtain⟨g1,g2,g3⟩:=a3 k1;cases ar g1
  ·exact Gb (ia.e xo xs g3)
  ·exact GE (ia.t xo xs g2 g3)
 | cmp o a b ia ib =>
  refine .tst (λ {X N nm e} xo xs h=>?_) (λ {X N nm e} xo xs h=>?_)
  all_goals
   refine vA h λ l os rs p k1=>?_;refine cE k1 λ op k2=>?_;refine cE k2 λ r k3=>?_;obtain⟨g1,g2,g3,g4⟩:=a4 k3;cases ar g1
  ·exact FY xo (ia.e xo xs g2) (ib.e xo xs g3) g4
  ·exact GC xo (ia.e xo xs g2) (ib.e xo xs g3) g4
 | cm2 o o' a b c ia ib ic =>
  refine .tst (λ {X N nm e} xo xs h=>?_) (λ {X N nm e} xo xs h=>?_)
  all_goals
   refine vA h λ l os rs p k1=>?_;refine gF k1 λ op op' k2=>?_;refine gF k2 λ r r' k3=>?_;obtain⟨g1,g2,g3,g4,g5,g6⟩:=a6 k3;cases ar g1;cases ar g2
  ·exact Gc xo (ia.e xo xs g3) (ib.e xo xs g4) (ic.e xo xs g5) g6
  ·exact GD xo (ia.e xo xs g3) (ib.e xo xs g4) (ic.e xo xs g5) g6
 | and a b ia ib =>
  have W:∀ {X:Cx}{N:List Str}{nm:List (Str × NameKind)}{op:BoolOp}{es:List Expr}{p:Pos},XOk X J FT GT fs gs->XS X N nm->ck fs gs (.and a b) N nm (.BoolOp op es p)=true->PW X (.BoolOp op es p) (rT X.K J FT GT (.and a b)):=by
   intro X N nm op es p xo xs h;obtain⟨g,g'⟩:=an h;cases ar g
   rcases es with _ | ⟨x,_ | ⟨y,_ | ⟨z,r⟩⟩⟩<;>try exact Bool.noConfusion g'
   ·obtain⟨h1,h2,h3,h4⟩:=a4 g';exact vO (ia.t xo xs h1 h3) (zG (ib.t xo xs h2 h4))
   ·obtain⟨h1,h3,h4⟩:=a3 g';exact vO (ia.t xo xs h1 h3) (ib.w xo xs h4)
  refine⟨λ {X N nm e} xo xs h=>?_,λ _ _ h=>Bool.noConfusion h,λ _ _ h=>Bool.noConfusion h,λ {X N nm e} xo xs n h=>?_,W⟩
  ·refine vB h λ op es p g=>?_;obtain⟨g,g'⟩:=an g;cases ar g
   rcases es with _ | ⟨x,_ | ⟨y,_ | ⟨z,r⟩⟩⟩<;>try exact Bool.noConfusion g'
   ·obtain⟨h1,h2,h3,h4⟩:=a4 g';exact vL (ia.e xo xs h3) (sK (ib.e xo xs h4))
   ·obtain⟨h1,h3,h4⟩:=a3 g';exact vL (ia.e xo xs h3) (ib.e xo xs h4)
  ·obtain⟨op,es,p,rfl,g⟩:=vC h;exact(W xo xs h).pt
 | or a b ia ib =>
  have W:∀ {X:Cx}{N:List Str}{nm:List (Str × NameKind)}{op:BoolOp}{es:List Expr}{p:Pos},XOk X J FT GT fs gs->XS X N nm->ck fs gs (.or a b) N nm (.BoolOp op es p)=true->PW X (.BoolOp op es p) (rT X.K J FT GT (.or a b)):=by
   intro X N nm op es p xo xs h;obtain⟨g,g'⟩:=an h;cases ar g
   rcases es with _ | ⟨x,_ | ⟨y,_ | ⟨z,r⟩⟩⟩<;>try exact Bool.noConfusion g'
   ·obtain⟨h1,h2,h3,h4⟩:=a4 g';exact vP (ia.t xo xs h1 h3) (zH (ib.t xo xs h2 h4))
   ·obtain⟨h1,h3,h4⟩:=a3 g';exact vP (ia.t xo xs h1 h3) (ib.w xo xs h4)
  refine⟨λ {X N nm e} xo xs h=>?_,λ _ _ h=>Bool.noConfusion h,λ _ _ h=>Bool.noConfusion h,λ {X N nm e} xo xs n h=>?_,W⟩
  ·refine vB h λ op es p g=>?_;obtain⟨g,g'⟩:=an g;cases ar g
   rcases es with _ | ⟨x,_ | ⟨y,_ | ⟨z,r⟩⟩⟩<;>try exact Bool.noConfusion g'
   ·obtain⟨h1,h2,h3,h4⟩:=a4 g';exact vM (ia.e xo xs h3) (sK (ib.e xo xs h4))
   ·obtain⟨h1,h3,h4⟩:=a3 g';exact vM (ia.e xo xs h3) (ib.e xo xs h4)
  ·obtain⟨op,es,p,rfl,g⟩:=vC h;exact(W xo xs h).pt
 | ite c a b ic ia ib =>
  refine .val λ {X N nm e} xo xs h=>?_;refine FO h λ x y z p k1=>?_;obtain⟨g1,g2,g3,g4⟩:=a4 k1;exact Gd (ic.t xo xs g1 g2) (ia.e xo xs g3) (ib.e xo xs g4)
 | nil =>
  refine⟨λ _ _ h=>Bool.noConfusion h,λ {X N nm es} xo xs h=>?_,λ _ _ h=>Bool.noConfusion h,λ _ _ _ h=>Bool.noConfusion h,λ _ _ h=>Bool.noConfusion h⟩
  cases es with
  | nil=>exact Gf
  | cons e es=>exact Bool.noConfusion h
 | cons a r ia ir =>
  refine⟨λ _ _ h=>Bool.noConfusion h,λ {X N nm es} xo xs h=>?_,λ {k X N nm tg it} xo xs h=>?_,λ _ _ _ h=>Bool.noConfusion h,λ _ _ h=>Bool.noConfusion h⟩
  ·cases es with
   | nil=>exact Bool.noConfusion h
   | cons e es =>
    obtain⟨h1,h3⟩:=an h;obtain⟨h1,h2⟩:=an h1;exact Ge (ia.e xo xs h2) (ir.l xo xs h3) h1
  ·have call:∀ {x:Str}{p:Pos}{e:Expr}{es:List Expr}{pos:Pos},decide (ikN k=some (x,es.length))=true->gl nm x=true->(!ikT k || kB tg)=true->aT e=true->ck fs gs a N nm e=true->ckL fs gs r N nm es=true->PI X tg (.Call (.Name x p) (e::es) [] pos) (rW X.K J FT GT k (.cons a r)):=by
    intro x p e es pos h1 h2 h3 h4 h5 h6;have hk:=ar h1;have he:=ia.e xo xs h5;have hr:=ir.l xo xs h6;have st:=iB h6;have g:=glX xs h2
    have n0:es=[]->r=.nil:=λ z=>by subst z;cases r<;>first | rfl | exact Bool.noConfusion h6
    cases k with
    | seq=>cases hk
    | str=>cases hk
    | rng =>
     simp only[ikN,Option.some.injEq,Prod.mk.injEq] at hk;obtain⟨rfl,hk⟩:=hk;cases mh hk.symm;cases n0 rfl;exact Gu xo g h4 he
    | rng2=>cases hk
    | rng3=>cases hk
    | zip c d=>cases hk
    | zip3=>cases hk
    | enum c=>cases hk
    | rev c=>cases hk
   have arg:(cj it λ g as w _=>aO g λ x _=>cC as λ e es=>w.isEmpty && decide (ikN k=some (x,es.length)) && gl nm x && (!ikT k || kB tg) && aT e && ck fs gs a N nm e && ckL fs gs r N nm es)=true->PI X tg it (rW X.K J FT GT k (.cons a r)):=λ h=>by
    refine cD h λ g as w pos k1=>?_;refine aK k1 λ x p k2=>?_;refine dQ k2 λ e es k3=>?_;obtain⟨g0,g1,g2,g3,g4,g5,g6⟩:=a7 k3;refine bj g0 ?_;exact call g1 g2 g3 g4 g5 g6
   cases k with
   | seq =>
    obtain⟨h1,h3⟩:=an h;cases GF (an h1).2;exact Gr (ia.e xo xs h3)
   | str=>exact Bool.noConfusion h
   | _=>exact arg h
 | tup l il =>
  refine .val λ {X N nm e} xo xs h=>?_;refine gE h λ es _ _ k1=>?_;exact Gh xo (il.l xo xs k1)
 | lst l il =>
  refine .val λ {X N nm e} xo xs h=>?_;refine FP h λ es _ k1=>?_;exact Gi xo (il.l xo xs k1)
 | ix a b ia ib =>
  refine .val λ {X N nm e} xo xs h=>?_;refine mi h λ x y p k1=>?_;obtain⟨g1,g2,g3⟩:=a3 k1;exact FZ (ia.e xo xs g2) (ib.e xo xs g3) g1
 | sl a lo hi ia il ih =>
  refine .val λ {X N nm e} xo xs h=>?_;refine mi h λ x y p k1=>?_;refine FQ k1 λ l u st q k2=>?_;obtain⟨g0,g1,g2,g3⟩:=a4 k2;cases iC.mp g0;refine Gj xo (ia.e xo xs g1) ?_ ?_
  ·cases l with
   | none=>exact vQ g2
   | some l=>exact vR (il.e xo xs (an g2).1)
  ·cases u with
   | none=>exact vQ g3
   | some u=>exact vR (ih.e xo xs (an g3).1)
 | call f l il =>
  refine .val λ {X N nm e} xo xs h=>?_;refine cD h λ f' as w pos k1=>?_;refine aK k1 λ x p k2=>?_;refine dQ k2 λ a es k3=>?_;obtain⟨g0,g1,g2,g3,g4⟩:=a5 k3;refine bj g0 ?_;have st:=iB g4;rw[cw,aX] at st;exact Gk xo (ar g1) (glX xs g2) (cZ g3).1 (il.l xo xs g4) st.1 st.2
 | bi f l il =>
  refine .val λ {X N nm e} xo xs h=>?_;refine cD h λ f' as w pos k1=>?_;refine aK k1 λ x p k2=>?_;refine dQ k2 λ a es k3=>?_;obtain⟨g0,g1,g2,g4⟩:=a4 k3;refine bj g0 ?_;have st:=iB g4;rw[cw,aX] at st;exact Gm xo (ar g1) (glX xs g2) (il.l xo xs g4) st.1 st.2
 | isi f a ia =>
  refine .val λ {X N nm e} xo xs h=>?_;refine cD h λ f' as w pos k1=>?_;refine aK k1 λ x p k2=>?_;refine gF k2 λ y u k3=>?_;refine aK k3 λ z _ k4=>?_;obtain⟨g0,g1,g2,g3,g4,g5,g6,g7⟩:=a8 k4;refine bj g0 ?_;cases ar g1;exact Gn xo (GI g3) (ar g4) (glX xs g2) (glX xs g5) g6 (ia.e xo xs g7)
 | mxl a b ia ib =>
  refine .val λ {X N nm e} xo xs h=>?_;refine cD h λ f' as w pos k1=>?_;refine aK k1 λ x p k2=>?_;refine gF k2 λ y z k3=>?_;obtain⟨⟨kx,kv,kp⟩,rfl,k4⟩:=iy k3;obtain⟨u,_,e1,k5⟩:=FM k4;cases e1;obtain⟨g1,g2,g3,g4,g5,g6,g7,g8,g9⟩:=a9 k5;cases ar g1;cases ar g3;cases ar g4;exact Go xo (glX xs g2) (glX xs g5) g6 g7 (ia.e xo xs g8) (ib.e xo xs g9)
 | trev k a ia =>
  refine .val λ {X N nm e} xo xs h=>?_;refine cD h λ f' as w pos k1=>?_;refine aK k1 λ x p k2=>?_;refine cE k2 λ u k3=>?_;refine cD k3 λ f'' as' w' pos' k4=>?_;refine aK k4 λ y p' k5=>?_;refine cE k5 λ z k6=>?_;obtain⟨g0,g0',g1,g2,g3,g4,g5,g6⟩:=a8 k6;refine bj g0 ?_;refine bj g0' ?_;cases ar g1;cases ar g3;exact Gp xo (glX xs g2) (glX xs g4) g5 (ia.e xo xs g6)
 | lrng k a ia =>
  refine .val λ {X N nm e} xo xs h=>?_;refine cD h λ f' as w pos k1=>?_;refine aK k1 λ x p k2=>?_;refine cE k2 λ u k3=>?_;refine cD k3 λ f'' as' w' pos' k4=>?_;refine aK k4 λ y p' k5=>?_;refine cE k5 λ z k6=>?_;obtain⟨g0,g0',g1,g2,g3,g4,g5,g6⟩:=a8 k6;refine bj g0 ?_;refine bj g0' ?_;cases ar g1;cases ar g3;exact Gq (k:=k) xo (glX xs g2) (glX xs g4) g5 (ia.e xo xs g6)
 | dk k a ia =>
  refine .val λ {X N nm e} xo xs h=>?_;refine mi h λ o y p k1=>?_;refine aK k1 λ x q k2=>?_;obtain⟨g1,g2,g3,g4,g5⟩:=a5 k2;exact FV xo xs (ar g1) g2 g3 g4 (ia.e xo xs g5)
 | comp own fv js tg k it e ii ie =>
  refine .val λ {X N nm x} xo xs h=>?_;obtain⟨elt,gn,sc,p,rfl,k1⟩:=mq h;obtain⟨⟨t,iter,ifs,z⟩,rfl,k2⟩:=iy k1;obtain⟨g0,g1,g2,g3,g4,g5,g6⟩:=a7 k2;cases (show ifs=[] from List.isEmpty_iff.mp g0);cases ar g1;exact Gw xo xs g2 (ii.i xo xs g3) g4 g5 (kE g3) λ Y yo ys=>ie.e yo ys g6
 | compI own fv js tg k it c e ii ic ie =>
  refine .val λ {X N nm x} xo xs h=>?_;obtain⟨elt,gn,sc,p,rfl,k1⟩:=mq h;obtain⟨⟨t,iter,ifs,z⟩,rfl,k2⟩:=iy k1;obtain⟨cnd,e1,k3⟩:=iy k2;cases e1;obtain⟨g1,g2,g3,g4,g5,g6,g7,g8⟩:=a8 k3;cases ar g1;exact Gy xo xs g2 (ii.i xo xs g3) g4 g5 (kE g3) (λ Y yo ys=>ic.t yo ys g6 g7) λ Y yo ys=>ie.e yo ys g8
theorem sE(c:Cd)(xo:XOk X J FT GT fs gs)(xs:XS X N nm)(h:ck fs gs c N nm e=true):PE X e (rE X.K J FT GT c):=(sA J FT GT fs gs c).e xo xs h
theorem sL(c:Cd)(xo:XOk X J FT GT fs gs)(xs:XS X N nm)(h:ckL fs gs c N nm es=true):PA X es (rA X.K J FT GT c):=(sA J FT GT fs gs c).l xo xs h
theorem sI(c:Cd)(k:IK)(xo:XOk X J FT GT fs gs)(xs:XS X N nm)(h:ckI fs gs c k tg N nm it=true):PI X tg it (rW X.K J FT GT k c):=(sA J FT GT fs gs c).i xo xs h
theorem sT(c:Cd)(xo:XOk X J FT GT fs gs)(xs:XS X N nm)(n:tB' c e=true)(h:ck fs gs c N nm e=true):PT X e (rT X.K J FT GT c):=(sA J FT GT fs gs c).t xo xs n h
end
inductive MM where
 | append | insert | extend (t:Bool) | pop
 deriving DecidableEq
inductive Ct where
 | nil | never | ret (c:Cd) | doc (r:Ct)
 | set (i:Nat) (c:Cd) (r:Ct) | sets (is:List Nat) (c:Cd) (r:Ct) | fz (i:Nat) (r:Ct) | ex (c:Cd) (r:Ct)
 | met (m:MM) (i:Nat) (l:Cd) (r:Ct) | put (i:Nat) (c d:Cd) (r:Ct)
 | ite (c:Cd) (a b r:Ct) | «for» (tg:List Nat) (k:IK) (it:Cd) (b r:Ct)
noncomputable def fzS(ρ:En)(i:Nat):En:=match ρ[i]? with | some (some (.own l))=>ρ.set i (some (.lst l)) | _=>ρ
def fzC:Cd->En->En
 | .v i,ρ=>fzS ρ i
 | _,ρ=>ρ
noncomputable def fzV:Cd->En->En
 | .cons a r,ρ=>fzV r (fzC a ρ)
 | _,ρ=>ρ
noncomputable def itF(b:TV->En->(En->Prop)->Prop):List TV->En->(En->Prop)->Prop
 | [],ρ,K=>K ρ
 | t::r,ρ,K=>b t ρ λ ρ'=>itF b r ρ' K
noncomputable def gI(s:Option (Option TV))(P:List TV->Prop):Prop:=match s with | some (some (.own l))=>P l | _=>False
noncomputable def mtP(m:MM)(l:List TV)(ts:List TV)(K:TV->List TV->Prop):Prop:=match m,ts with
 | .append,[t]=>t.nb=true/\l.length < sizeLine/\K .non (l++[t.fz])
 | .insert,[u,t]=>i1 u λ i=>t.nb=true/\(0≤i/\i≤l.length)/\l.length < sizeLine/\K .non (l.take i.toNat++t.fz::l.drop i.toNat)
 | .extend b,[t]=>t.nb=true/\k1 b t λ m=>l.length+m.length≤sizeLine/\K .non (l++m)
 | .pop,[]=>∃y,l[l.length - 1]?=some y/\K y l.dropLast
 | .pop,[u]=>i1 u λ i=>(-(2 ^ 63)≤i/\i < 2 ^ 63)/\∃k y,seqIndex? i l.length=some k/\l[k]?=some y/\K y (l.eraseIdx k)
 | _,_=>False
section
variable (FT:List PSp)(GT:List TV)
noncomputable def wS:Ct->En->(En->Prop)->(TV->Prop)->Prop
 | .nil,ρ,nx,_=>nx ρ
 | .never,_,_,_=>False
 | .ret c,ρ,_,rt=>wE FT GT c (fzC c ρ) λ t=>t.nb=true/\rt t.fz
 | .set i c r,ρ,nx,rt=>wE FT GT c (fzC c ρ) λ t=>t.nb=true/\wS r ((fzC c ρ).set i (some t)) nx rt
 | .sets is c r,ρ,nx,rt=>wE FT GT c ρ λ t=>(match t with | .tup _=>stE ρ is t λ ρ'=>wS r ρ' nx rt | _=>False)
 | .fz i r,ρ,nx,rt=>wS r (fzS ρ i) nx rt
 | .doc r,ρ,nx,rt=>wS r ρ nx rt
 | .ex c r,ρ,nx,rt=>wE FT GT c ρ λ _=>wS r ρ nx rt
 | .met m i l r,ρ,nx,rt=>gI (fzV l ρ)[i]? λ xs=>wL FT GT l (fzV l ρ) λ ts=>mtP m xs ts λ _ ys=>wS r ((fzV l ρ).set i (some (.own ys))) nx rt
 | .put i c d r,ρ,nx,rt=>gI (fzC d ρ)[i]? λ xs=>wE FT GT d (fzC d ρ) λ t=>t.nb=true/\wE FT GT c (fzC d ρ) λ u=>i1 u λ k=>∃n,ixN xs.length k=some n/\wS r ((fzC d ρ).set i (some (.own (xs.set n t.fz)))) nx rt
 | .ite c a b r,ρ,nx,rt=>wE FT GT c ρ λ t=>b1 t λ k=>if k=true then wS a ρ (λ ρ'=>wS r ρ' nx rt) rt else wS b ρ (λ ρ'=>wS r ρ' nx rt) rt
 | .for tg k it b r,ρ,nx,rt=>wL FT GT it (fzV it ρ) λ ts=>ts.all TV.nb=true/\itP k ts λ its=>itF (λ t ρ K=>stE ρ tg t λ ρ'=>wS b ρ' K rt) its (fzV it ρ) λ ρ'=>wS r ρ' nx rt
end
theorem qH{P P':List TV->Prop}(h:∀l,P l->P' l)(q:gI s P):gI s P':=by
 unfold gI at *;split at q
 ·exact h _ q
 ·exact q.elim
theorem mG(q:gI s P):∃l,s=some (some (.own l))/\P l:=by
 unfold gI at q;split at q
 ·exact⟨_,rfl,q⟩
 ·exact q.elim
theorem vS{K K':TV->List TV->Prop}(h:∀y ys,K y ys->K' y ys)(q:mtP m l ts K):mtP m l ts K':=by
 rcases ts with _ | ⟨t,_ | ⟨u,_ | ⟨w,r⟩⟩⟩
 ·cases m with
  | pop=>obtain⟨y,e,q⟩:=q;exact⟨y,e,h _ _ q⟩
  | _=>exact q.elim
 ·cases m with
  | append=>exact⟨q.1,q.2.1,h _ _ q.2.2⟩
  | extend b=>exact⟨q.1,fN (λ m q=>⟨q.1,h _ _ q.2⟩) q.2⟩
  | pop=>exact eF (λ i ⟨c,k,y,e,f,q⟩=>⟨c,k,y,e,f,h _ _ q⟩) q
  | _=>exact q.elim
 ·cases m with
  | insert=>exact eF (λ i ⟨a,b,c,q⟩=>⟨a,b,c,h _ _ q⟩) q
  | _=>exact q.elim
 ·cases m<;>exact q.elim
section
variable {FT:List PSp}{GT:List TV}
theorem bB:∀(c:Ct) {ρ:En}{nx nx':En->Prop}{rt rt':TV->Prop},(∀ρ,nx ρ->nx' ρ)->(∀t,rt t->rt' t)->wS FT GT c ρ nx rt->wS FT GT c ρ nx' rt'
 | .nil,_,_,_,_,_,h,_,q=>h _ q
 | .never,_,_,_,_,_,_,_,q=>q.elim
 | .ret c,_,_,_,_,_,_,g,q=>ao c (λ t q=>⟨q.1,g _ q.2⟩) q
 | .set i c r,_,_,_,_,_,h,g,q=>ao c (λ t q=>⟨q.1,bB r h g q.2⟩) q
 | .sets is c r,_,_,_,_,_,h,g,q=>ao c (λ t q=>by
   cases t with
   | tup l=>exact eG (λ ρ' q=>bB r h g q) q
   | _=>exact q.elim) q
 | .fz i r,ρ,nx,_,rt,_,h,g,q=>bB r h g (show wS FT GT r (fzS ρ i) nx rt from q)
 | .doc r,ρ,nx,_,rt,_,h,g,q=>bB r h g (show wS FT GT r ρ nx rt from q)
 | .ex c r,_,_,_,_,_,h,g,q=>ao c (λ t q=>bB r h g q) q
 | .met m i l r,_,_,_,_,_,h,g,q=>qH (λ xs q=>bQ l (λ ts q=>vS (λ y ys q=>bB r h g q) q) q) q
 | .put i c d r,_,_,_,_,_,h,g,q=>qH (λ xs q=>ao d (λ t q=>⟨q.1,ao c (λ u q=>eF (λ k ⟨n,e,q⟩=>⟨n,e,bB r h g q⟩) q) q.2⟩) q) q
 | .ite c a b r,_,_,_,_,_,h,g,q=>ao c (λ t q=>bT (λ k q=>by
   split at q
   ·rw[if_pos (by assumption)];exact bB a (λ ρ q=>bB r h g q) g q
   ·rw[if_neg (by assumption)];exact bB b (λ ρ q=>bB r h g q) g q) q) q
 | .for tg k it b r,_,nx,nx',rt,rt',h,g,q=>by
   refine bQ it (λ ts q=>⟨q.1,gw (λ its q=>?_) q.2⟩) q
   have e:∀(l:List TV) (ρ:En),itF (λ t ρ K=>stE ρ tg t λ ρ'=>wS FT GT b ρ' K rt) l ρ (λ ρ'=>wS FT GT r ρ' nx rt)->itF (λ t ρ K=>stE ρ tg t λ ρ'=>wS FT GT b ρ' K rt') l ρ (λ ρ'=>wS FT GT r ρ' nx' rt'):=by
    intro l
    induction l with
    | nil=>intro ρ q;exact bB r h g q
    | cons t l ih =>
     intro ρ q;have q:stE ρ tg t λ ρ'=>wS FT GT b ρ' (λ ρ''=>itF (λ t ρ K=>stE ρ tg t λ ρ'=>wS FT GT b ρ' K rt) l ρ'' λ ρ'=>wS FT GT r ρ' nx rt) rt:=q;exact eG (λ ρ' q=>bB b (λ ρ'' q=>ih ρ'' q) g q) q
   exact e _ _ q
end
structure ER (K:FG)(J:Hp->Prop)(F0:Fz)(H0:Hp)(PN:List (TV × V))(F:Fz)(H:Hp)(σ:St)(ρ:En):Prop where
 ev:EV K J F H σ ρ
 gr:Grow J F0 H0 F H
 nb:∀(i:Nat) l a,ρ[i]?=some (some (.own l))->σ[i]?=some (some (.ref a))->H0 a=none
 di:∀(i k:Nat) l l' v,ρ[i]?=some (some (.own l))->ρ[k]?=some (some (.own l'))->σ[i]?=some (some v)->σ[k]?=some (some v)->i=k
 pn:∀p∈PN,Rp K F H p.1 p.2
section
variable {K:FG}{J:Hp->Prop}{F0 F F':Fz}{H0 H H':Hp}{σ:St}{ρ:En}{PN:List (TV × V)}
theorem ER.grow(e:ER K J F0 H0 PN F H σ ρ)(g:Grow J F H F' H'):ER K J F0 H0 PN F' H' σ ρ:=⟨e.ev.grow g,e.gr.trans g,e.nb,e.di,λ p hp=>(e.pn p hp).ke g.ke⟩
theorem dR{ρ:En}{i j:Nat}(h:(ρ.set i (some t))[j]?=some (some (.own l))):(i=j/\t=.own l)\/(i≠j/\ρ[j]?=some (some (.own l))):=by
 rw[cR] at h;split at h
 ·rename_i c;split at h
  ·cases h;exact .inl ⟨c,rfl⟩
  ·cases h
 ·rename_i c;exact .inr ⟨c,h⟩
theorem dz{σ:St}{i j:Nat}(n:i≠j):(σ.set i v)[j]?=σ[j]?:=by rw[cR,if_neg n]
theorem ER.set{i:Nat}(e:ER K J F0 H0 PN F H σ ρ)(h:Rp K F H t v)(hi:i < σ.length):ER K J F0 H0 PN F H (σ.set i (some v)) (ρ.set i (some t)):=by
 have no:∀l,t≠.own l:=λ l z=>by subst z;exact h.elim
 refine⟨e.ev.set h hi,e.gr,λ j l a h1 h2=>?_,λ j k l l' w h1 h2 h3 h4=>?_,e.pn⟩
 ·rcases dR h1 with ⟨_,z⟩ | ⟨n,z⟩
  ·exact absurd z (no l)
  ·rw[dz n] at h2;exact e.nb j l a z h2
 ·rcases dR h1 with ⟨_,z⟩ | ⟨n,z⟩
  ·exact absurd z (no l)
  ·rcases dR h2 with ⟨_,z'⟩ | ⟨n',z'⟩
   ·exact absurd z' (no l')
   ·rw[dz n] at h3;rw[dz n'] at h4;exact e.di j k l l' w z z' h3 h4
theorem ER.own{i:Nat}(e:ER K J F0 H0 PN F H σ ρ)(g:Grow J F H F' H')(h:Rr K H F' H' (.own l) v)(hi:i < σ.length):ER K J F0 H0 PN F' H' (σ.set i (some v)) (ρ.set i (some (.own l))):=by
 obtain⟨a,vs,rfl,na,nf,q,r⟩:=h;have na0:H0 a=none:=e.gr.none na
 have old:∀(j:Nat) l',ρ[j]?=some (some (.own l'))->σ[j]?≠some (some (.ref a)):=λ j l' h1 h2=>by
  obtain⟨v,e1,b,ws,rfl,_,qb,_⟩:=e.ev.sl j _ h1;rw[h2] at e1;cases e1;rw[na] at qb;cases qb
 have eg:=e.grow g;refine⟨⟨eg.ev.w,λ j t hj=>?_⟩,eg.gr,λ j l' b h1 h2=>?_,λ j k l1 l2 w h1 h2 h3 h4=>?_,eg.pn⟩
 ·rw[cR] at hj;split at hj
  ·rename_i c;subst c;split at hj
   ·cases hj;exact⟨.ref a,by rw[cR];simp[hi],a,vs,rfl,nf,q,r⟩
   ·cases hj
  ·rename_i c;obtain⟨w,e1,z⟩:=eg.ev.sl j t hj;exact⟨w,by rw[dz c];exact e1,z⟩
 ·rcases dR h1 with ⟨rfl,_⟩ | ⟨n,z⟩
  ·rw[cR] at h2;simp[hi] at h2;subst h2;exact na0
  ·rw[dz n] at h2;exact e.nb j l' b z h2
 ·rcases dR h1 with ⟨rfl,_⟩ | ⟨n,z⟩
  ·rcases dR h2 with ⟨rfl,_⟩ | ⟨n',z'⟩
   ·rfl
   ·rw[cR] at h3;simp[hi] at h3;subst h3;rw[dz n'] at h4;exact absurd h4 (old k l2 z')
  ·rcases dR h2 with ⟨rfl,_⟩ | ⟨n',z'⟩
   ·rw[cR] at h4;simp[hi] at h4;subst h4;rw[dz n] at h3;exact absurd h3 (old j l1 z)
   ·rw[dz n] at h3;rw[dz n'] at h4;exact e.di j k l1 l2 w z z' h3 h4
set_option tactic.hygienic true in
theorem ER.fz(e:ER K J F0 H0 PN F H σ ρ)(i:Nat):∃F',ER K J F0 H0 PN F' H σ (fzS ρ i)/\∀a,F a->F' a:=by
 unfold fzS;split
 ·rename_i l hl;obtain⟨v,ev,a,vs,rfl,nf,q,r⟩:=e.ev.sl i _ hl;have na:H0 a=none:=e.nb i l a hl ev;have up:Ke K F H (λ b=>F b\/b=a) H:=.up λ _ f=>.inl f;have ilt:i < σ.length:=(bD.mp ev).1;refine⟨λ b=>F b\/b=a,⟨⟨⟨e.ev.w.j,λ b f=>?_⟩,λ j t hj=>?_⟩,e.gr.frz na (by rw[q];simp),λ j l' b h1 h2=>?_,λ j k l1 l2 w h1 h2 h3 h4=>?_,λ p hp=>(e.pn p hp).ke up⟩,λ _ f=>.inl f⟩
  ·rcases f with f | rfl
   ·exact e.ev.w.d b f
   ·rw[q];simp
  ·rw[cR] at hj;split at hj
   ·rename_i c;subst c;split at hj
    ·cases hj;exact⟨.ref a,ev,a,vs,rfl,.inl ⟨.inr rfl,.of q⟩,r.ke up⟩
    ·cases hj
   ·rename_i c;obtain⟨w,e1,z⟩:=e.ev.sl j t hj;refine⟨w,e1,?_⟩
    cases t with
    | own l' =>
     obtain⟨b,ws,rfl,nf',q',r'⟩:=z;refine⟨b,ws,rfl,λ z=>?_,q',r'.ke up⟩
     rcases z with z | z
     ·exact nf' z
     ·subst z;exact c (e.di i j l l' _ hl hj ev e1)
    | _=>exact Rp.ke up z
  ·rcases dR h1 with ⟨_,z⟩ | ⟨n,z⟩
   ·cases z
   ·exact e.nb j l' b z h2
  ·rcases dR h1 with ⟨_,z⟩ | ⟨n,z⟩
   ·cases z
   ·rcases dR h2 with ⟨_,z'⟩ | ⟨n',z'⟩
    ·cases z'
    ·exact e.di j k l1 l2 w z z' h3 h4
 ·exact⟨F,e,λ _ f=>f⟩
theorem ER.fzC(e:ER K J F0 H0 PN F H σ ρ)(c:Cd):∃F',ER K J F0 H0 PN F' H σ (fzC c ρ)/\∀a,F a->F' a:=by
 cases c<;>first | exact e.fz _ | exact⟨F,e,λ _ f=>f⟩
theorem ER.fzV(c:Cd):∀ {F:Fz}{ρ:En},ER K J F0 H0 PN F H σ ρ->∃F',ER K J F0 H0 PN F' H σ (fzV c ρ)/\∀a,F a->F' a:=by
 induction c with
 | cons a r _ ih =>
  intro F ρ e;obtain⟨F1,e1,u1⟩:=e.fzC a;obtain⟨F2,e2,u2⟩:=ih e1;exact⟨F2,e2,λ b f=>u2 b (u1 b f)⟩
 | _=>intro F ρ e;exact⟨F,e,λ _ f=>f⟩
theorem ER.mut(hJ:JS J){i:Nat}(e:ER K J F0 H0 PN F H σ ρ)(h:ρ[i]?=some (some (.own l)))(hs:σ[i]?=some (some (.ref a)))(r:RpL K F H l' ws):ER K J F0 H0 PN F (upd H a (.lst ws)) σ (ρ.set i (some (.own l')))/\Ke K F H F (upd H a (.lst ws)):=by
 obtain⟨v,ev,b,vs,rfl,nf,q,_⟩:=e.ev.sl i _ h;rw[hs] at ev;cases ev;have na:H0 a=none:=e.nb i l a h hs
 have dom:∀b,H b≠none->upd H a (.lst ws) b≠none:=λ b hb=>by
  by_cases c:b=a
  ·subst c;rw[bz];simp
  ·rw[ay c];exact hb
 have rd:∀b u,(∀vs,u≠.lst vs)->Rd H b u->Rd (upd H a (.lst ws)) b u:=λ b u n h=>by
  rcases h with h | ⟨o,h⟩
  ·exact .inl (by rw[ay (λ z=>by subst z;rw[q] at h;cases h;exact n _ rfl)];exact h)
  ·exact .inr ⟨o,by rw[ay (λ z=>by subst z;rw[q] at h;cases h)];exact h⟩
 have ke:Ke K F H F (upd H a (.lst ws)):=⟨λ b vs h=>by
  rcases h with h | h
  ·exact .inl (rd _ _ (λ _ z=>by cases z) h)
  ·exact .inr h,λ b vs h=>h.imp λ f h=>⟨f,by
  have ba:b≠a:=λ z=>by subst z;exact nf f
  rcases h with h | h
  ·refine .inl ?_
   rcases h with h | ⟨o,h⟩
   ·exact .inl (by rw[ay ba];exact h)
   ·exact .inr ⟨o,by rw[ay ba];exact h⟩
  ·exact .inr h⟩⟩
 have ilt:i < ρ.length:=(bD.mp h).1;refine⟨⟨⟨⟨hJ.mu H a vs ws q e.ev.w.j,λ b f=>dom b (e.ev.w.d b f)⟩,λ j t hj=>?_⟩,⟨λ b o n hb=>?_,λ b hb=>dom b (e.gr.dm b hb),e.gr.up,e.gr.nw,hJ.mu H a vs ws q e.ev.w.j,λ b f=>dom b (e.ev.w.d b f)⟩,λ j l1 b h1 h2=>?_,λ j k l1 l2 w h1 h2 h3 h4=>?_,λ p hp=>(e.pn p hp).ke ke⟩,ke⟩
 ·rw[cR] at hj;split at hj
  ·rename_i c;subst c;cases hj;exact⟨.ref a,hs,a,ws,rfl,nf,bz,r.ke ke⟩
  ·rename_i c;obtain⟨w,e1,z⟩:=e.ev.sl j t hj;refine⟨w,e1,?_⟩
   cases t with
   | own l1 =>
    obtain⟨b,us,rfl,nf',q',r'⟩:=z;have ba:b≠a:=λ z=>by subst z;exact c (e.di i j l l1 _ h hj hs e1)
    exact⟨b,us,rfl,nf',by rw[ay ba];exact q',r'.ke ke⟩
   | _=>exact Rp.ke ke z
 ·rw[ay (λ z=>by subst z;rw[na] at hb;cases hb)];exact e.gr.sm b o n hb
 ·rcases dR h1 with ⟨rfl,_⟩ | ⟨n,z⟩
  ·rw[hs] at h2;cases h2;exact na
  ·exact e.nb j l1 b z h2
 ·have f:∀(j:Nat) (l:List TV),(ρ.set i (some (TV.own l')))[j]?=some (some (TV.own l))->∃l,ρ[j]?=some (some (TV.own l)):=λ j l1 h1=>by
   rcases dR h1 with ⟨rfl,_⟩ | ⟨n,z⟩
   ·exact⟨l,h⟩
   ·exact⟨l1,z⟩
  obtain⟨m1,z1⟩:=f j l1 h1;obtain⟨m2,z2⟩:=f k l2 h2;exact e.di j k m1 m2 w z1 z2 h3 h4
end
noncomputable def mmN:MM->Str
 | .append => "append" | .insert => "insert" | .extend _ => "__name__" | .pop => "pop"
noncomputable def plE:Expr->Bool
 | .ListComp ..=>false | .SetComp ..=>false | .DictComp ..=>false | .Tuple ..=>false | .List ..=>false | _=>true
noncomputable def lcl(N:List Str)(nm:List (Str × NameKind))(i:Nat)(x:Str):Bool:=decide (N[i]?=some x) && (decide (nm.lookup x=some .local) || decide (nm.lookup x=some .cell))
noncomputable def ckM(fs gs:List Str)(N:List Str)(nm:List (Str × NameKind))(m:MM)(i:Nat)(l:Cd)(e:Expr):Bool:=cj e λ g es w cp=>mj g λ o name ap=>aO o λ x _=>w.isEmpty && decide (N[i]?=some x) && vs nm x && okN x && decide (name=mmN m) && decide (name ≠ "__name__" /\ ap.endLine=cp.line/\es.length < 20) && ckL fs gs l N nm es
def vT:Const->Bool
 | .str _=>true | _=>false
noncomputable def qAs(l:List Stmt)(k:List Expr->Expr->Pos->List Stmt->Bool):Bool:=match l with | .Assign x p q::l=>k x p q l | _=>false
@[elab_as_elim] theorem iD{motive:List Stmt->Prop}{l:List Stmt}{k:List Expr->Expr->Pos->List Stmt->Bool}(h:qAs l k=true)(f:∀x p q t,k x p q t=true->motive (.Assign x p q::t)):motive l:=by
 cases l with
 | nil=>exact Bool.noConfusion h
 | cons a t=>cases a<;>first | exact f _ _ _ _ h | exact Bool.noConfusion h
noncomputable def qRe(l:List Stmt)(k:Option Expr->Pos->List Stmt->Bool):Bool:=match l with | .Return x p::l=>k x p l | _=>false
@[elab_as_elim] theorem mH{motive:List Stmt->Prop}{l:List Stmt}{k:Option Expr->Pos->List Stmt->Bool}(h:qRe l k=true)(f:∀x p t,k x p t=true->motive (.Return x p::t)):motive l:=by
 cases l with
 | nil=>exact Bool.noConfusion h
 | cons a t=>cases a<;>first | exact f _ _ _ h | exact Bool.noConfusion h
noncomputable def qEx(l:List Stmt)(k:Expr->Pos->List Stmt->Bool):Bool:=match l with | .Expr x p::l=>k x p l | _=>false
@[elab_as_elim] theorem kF{motive:List Stmt->Prop}{l:List Stmt}{k:Expr->Pos->List Stmt->Bool}(h:qEx l k=true)(f:∀x p t,k x p t=true->motive (.Expr x p::t)):motive l:=by
 cases l with
 | nil=>exact Bool.noConfusion h
 | cons a t=>cases a<;>first | exact f _ _ _ h | exact Bool.noConfusion h
noncomputable def qIf(l:List Stmt)(k:Expr->List Stmt->List Stmt->Pos->List Stmt->Bool):Bool:=match l with | .If x p q r::l=>k x p q r l | _=>false
@[elab_as_elim] theorem vU{motive:List Stmt->Prop}{l:List Stmt}{k:Expr->List Stmt->List Stmt->Pos->List Stmt->Bool}(h:qIf l k=true)(f:∀x p q r t,k x p q r t=true->motive (.If x p q r::t)):motive l:=by
 cases l with
 | nil=>exact Bool.noConfusion h
 | cons a t=>cases a<;>first | exact f _ _ _ _ _ h | exact Bool.noConfusion h
noncomputable def qFo(l:List Stmt)(k:Expr->Expr->List Stmt->List Stmt->Pos->List Stmt->Bool):Bool:=match l with | .For x p q r s::l=>k x p q r s l | _=>false
@[elab_as_elim] theorem GJ{motive:List Stmt->Prop}{l:List Stmt}{k:Expr->Expr->List Stmt->List Stmt->Pos->List Stmt->Bool}(h:qFo l k=true)(f:∀x p q r s t,k x p q r s t=true->motive (.For x p q r s::t)):motive l:=by
 cases l with
 | nil=>exact Bool.noConfusion h
 | cons a t=>cases a<;>first | exact f _ _ _ _ _ _ h | exact Bool.noConfusion h
noncomputable def qWh(l:List Stmt)(k:Expr->List Stmt->List Stmt->Pos->List Stmt->Bool):Bool:=match l with | .While x p q r::l=>k x p q r l | _=>false
@[elab_as_elim] theorem MG{motive:List Stmt->Prop}{l:List Stmt}{k:Expr->List Stmt->List Stmt->Pos->List Stmt->Bool}(h:qWh l k=true)(f:∀x p q r t,k x p q r t=true->motive (.While x p q r::t)):motive l:=by
 cases l with
 | nil=>exact Bool.noConfusion h
 | cons a t=>cases a<;>first | exact f _ _ _ _ _ h | exact Bool.noConfusion h
noncomputable def qTr(l:List Stmt)(k:List Stmt->List ExceptHandler->List Stmt->List Stmt->Pos->List Stmt->Bool):Bool:=match l with | .Try x p q r s::l=>k x p q r s l | _=>false
theorem qI(h:qTr l k=true):∃x p q r s t,l=.Try x p q r s::t/\k x p q r s t=true:=by
 cases l with
 | nil=>exact Bool.noConfusion h
 | cons a t=>cases a<;>first | exact⟨_,_,_,_,_,_,rfl,h⟩ | exact Bool.noConfusion h
section
variable (fs gs:List Str)(N:List Str)(nm:List (Str × NameKind))
noncomputable def bp:Bool->Ct->List Stmt->Bool
 | _,.nil,sts=>sts.isEmpty
 | _,.never,_=>true
 | _,.ret c,sts=>qRe sts λ e _ _=>(match e with | some e=>ck fs gs c N nm e | none=>false)
 | lp,.set i c r,sts=>qAs sts λ ts e _ rest=>c1 ts λ t=>aO t λ x _=>lcl N nm i x && ck fs gs c N nm e && bp lp r rest
 | lp,.sets is c r,sts=>qAs sts λ ts e _ rest=>c1 ts λ tg=>ckT true N nm is tg && kB tg && plE e && ck fs gs c N nm e && bp lp r rest
 | lp,.fz _ r,sts=>bp lp r sts
 | lp,.doc r,sts=>qEx sts λ e _ rest=>iw e λ k _ _=>vT k && bp lp r rest
 | lp,.ex c r,sts=>qEx sts λ e _ rest=>plE e && ck fs gs c N nm e && bp lp r rest
 | lp,.met m i l r,sts=>qEx sts λ e _ rest=>ckM fs gs N nm m i l e && bp lp r rest
 | lp,.put i c d r,sts=>qAs sts λ ts e _ rest=>c1 ts λ t=>kz t λ o y _=>aO o λ x _=>decide (N[i]?=some x) && vs nm x && okN x && iu y && ck fs gs c N nm y && ck fs gs d N nm e && bp lp r rest
 | lp,.ite c a b r,sts=>qIf sts λ t x y _ rest=>tB' c t && ck fs gs c N nm t && bp lp a x && bp lp b y && bp lp r rest
 | lp,.for tg k it b r,sts=>qFo sts λ t iter body els _ rest=>els.isEmpty && lp && ckT true N nm tg t && ckI fs gs it k t N nm iter && bp lp b body && bp lp r rest
end
section
variable {X:Cx}{J:Hp->Prop}{FT:List PSp}{GT:List TV}{fs gs:List Str}{N:List Str}{nm:List (Str × NameKind)}{F0:Fz}{H0:Hp}{PN:List (TV × V)}
theorem PS.imp{st:Stmt}{t t':TS}(h:PS X st t)(i:∀D σ H,t' D σ H->t D σ H):PS X st t':=λ pins s σ H D I q=>h pins s σ H D I (i D σ H q)
theorem PSs.imp{st:List Stmt}{t t':TS}(h:PSs X st t)(i:∀D σ H,t' D σ H->t D σ H):PSs X st t':=λ pins s σ H D I q=>h pins s σ H D I (i D σ H q)
noncomputable def nxR(K:FG)(J:Hp->Prop)(F0:Fz)(H0:Hp)(PN:List (TV × V))(n:Nat)(P:St->Hp->Prop)(ρ:En):Prop:=∀F' H' σ',ER K J F0 H0 PN F' H' σ' ρ->σ'.length=n->P σ' H'
noncomputable def rtR(K:FG)(J:Hp->Prop)(F0:Fz)(H0:Hp)(P:VK)(t:TV):Prop:=∀F' H' v,Grow J F0 H0 F' H'->Rp K F' H' t v->P v H'
noncomputable def rS(K:FG)(J:Hp->Prop)(FT:List PSp)(GT:List TV)(n:Nat)(F0:Fz)(H0:Hp)(PN:List (TV × V))(c:Ct):TS:=λ D σ H=>∃F ρ,ER K J F0 H0 PN F H σ ρ/\σ.length=n/\wS FT GT c ρ (nxR K J F0 H0 PN n D.nx) (rtR K J F0 H0 D.rt)
theorem ER.rr{K:FG}{i:Nat}(e:ER K J F0 H0 PN F H σ ρ)(g:Grow J F H F' H')(h:Rr K H F' H' t v)(nb:t.nb=true)(hi:i < σ.length):ER K J F0 H0 PN F' H' (σ.set i (some v)) (ρ.set i (some t)):=by
 cases t with
 | own l=>exact e.own g h hi
 | bor l=>cases nb
 | _=>exact(e.grow g).set h hi
theorem kG{x:Str}(xs:XS X N nm)(hf:∀x,X.env.scope.names.lookup x=some .cell->X.fn x=true)(h:lcl N nm i x=true):X.N[i]?=some x/\Loc X.env.scope x/\(X.fn x=true\/X.env.scope.names.lookup x=some .local)/\i < N.length:=by
 unfold lcl at h;rw[aX,iz] at h;have e:=ar h.1;have lo:Loc X.env.scope x:=by unfold Loc;rw[xs.nm];exact h.2.imp ar ar
 exact⟨by rw[xs.N];exact e,lo,lo.elim .inr λ z=>.inl (hf x z),(bD.mp e).1⟩
theorem kH(h:plE e=true):swapsWith e t n env=pure false:=by cases e<;>first | rfl | cases h
theorem GK{own fv:List Str}{js tgs:List Nat}(hJ:JS J)(lt:∀i∈tgs,i < own.length)(h:rE X.K J FT GT (.comp own fv js tgs k it e) σ H Q):iZ (rW X.K J FT GT k it) own.length js (tgG X.K tgs) (rE X.K J FT GT e) σ H Q:=by
 obtain⟨F,ρ,ev,w⟩:=h;refine⟨F,ρ,ev,bQ it (λ ts w=>gw (λ its w F1 H1 xs Jt g1 rx ok=>?_) w) w⟩;obtain⟨hn,w⟩:=w
 have z:=mD (tc:=λ σ H Q=>Q true H) (te:=rE X.K J FT GT e) hJ g1 rx ok ev lt hn (λ t K'=>stE (cEn own js ρ) tgs t λ ρ'=>wE FT GT e ρ' λ y=>(y.nb=true/\K' [y.fz])) (λ t K K' h q=>eG (λ ρ' q=>ao e (λ y q=>⟨q.1,h _ q.2⟩) q) q) w
  (λ t P x F' H' σ' b ev' sl rt R fin=>mz b ev' rt (λ i hi=>by rw[sl];unfold cL;simp;have:=lt i hi;lia) λ σ2 ρ2 p ev2 sl2 keep=>by
   show if true=true then _ else _;rw[if_pos rfl];refine⟨F',ρ2,ev2,ao e (λ y ⟨nb,p⟩ F2 H2 v g r=>?_) p⟩;obtain⟨F3,g3,_,_,rp⟩:=r.frz g nb
   exact fin [y.fz] [v] σ2 F3 H2 p (au _) g3 ⟨v,[],rfl,rp,rfl⟩ ((keep _ ev' λ i hi u=>mC (lt i hi) u).grow g3) sl2)
 simpa only[dJ] using z
theorem GL{own fv:List Str}{js tgs:List Nat}(hJ:JS J)(lt:∀i∈tgs,i < own.length)(h:rE X.K J FT GT (.compI own fv js tgs k it c e) σ H Q):gX (rW X.K J FT GT k it) own.length js (tgG X.K tgs) (rT X.K J FT GT c) (rE X.K J FT GT e) σ H Q:=by
 obtain⟨F,ρ,ev,w⟩:=h;refine⟨F,ρ,ev,bQ it (λ ts w=>gw (λ its w F1 H1 xs Jt g1 rx ok=>?_) w) w⟩;obtain⟨hn,w⟩:=w
 exact mD (tc:=rT X.K J FT GT c) (te:=rE X.K J FT GT e) hJ g1 rx ok ev lt hn (λ t K'=>stE (cEn own js ρ) tgs t λ ρ'=>wE FT GT c ρ' λ x=>b1 x λ q=>if q=true then wE FT GT e ρ' λ y=>(y.nb=true/\K' [y.fz]) else K' []) (λ t K K' h q=>eG (λ ρ' q=>ao c (λ x q=>bT (λ z q=>by
   split at q
   ·rw[if_pos (by assumption)];exact ao e (λ y q=>⟨q.1,h _ q.2⟩) q
   ·rw[if_neg (by assumption)];exact h _ q) q) q) q) w
  (λ t P x F' H' σ' b ev' sl rt R fin=>mz b ev' rt (λ i hi=>by rw[sl];unfold cL;simp;have:=lt i hi;lia) λ σ2 ρ2 p ev2 sl2 keep=>by
   have kp:=keep _ ev' λ i hi u=>mC (own:=own) (js:=js) (ρ:=ρ) (lt i hi) u;refine⟨F',ρ2,ev2,ao c (λ x w=>bT (λ q w2 F2 H2 g2=>?_) w) p⟩;split at w2
   ·rw[if_pos (by assumption)];refine⟨F2,ρ2,ev2.grow g2,ao e (λ y ⟨nb,p⟩ F3 H3 v g r=>?_) w2⟩;obtain⟨F4,g4,_,_,rp⟩:=r.frz g nb;exact fin [y.fz] [v] σ2 F4 H3 p (au _) (g2.trans g4) ⟨v,[],rfl,rp,rfl⟩ ((kp.grow g2).grow g4) sl2
   ·rw[if_neg (by assumption)]
    exact fin [] [] σ2 F2 H2 w2 (cy _) g2 rfl (kp.grow g2) sl2)
theorem vV{i:Nat}(xo:XOk X J FT GT fs gs)(xs:XS X N nm)(hN:X.N.Nodup)(hi:X.N[i]?=some x)(hx:Loc X.env.scope x)(hf:X.fn x=true\/X.env.scope.names.lookup x=some .local)(h:ck fs gs c N nm e=true) :
  PS X (.Assign [.Name x p'] e pos) (gR (rE X.K J FT GT c) (cW i)):=by
 have plain:swapsWith e (some (.Name x p')) pos.line X.env=pure false->PS X (.Assign [.Name x p'] e pos) (gR (rE X.K J FT GT c) (cW i)):=λ hs=>nW hN hi hx (sE c xo xs h) hs hf
 cases e with
 | ListComp elt gens sc lp =>
  cases hb:(X.env.blockKind == .function && X.env.kindOf x == some .local && p'.line == (Expr.ListComp elt gens sc lp).pos.line && !(sc.names.any λ(n,k)=>n == x && (k == .local || k == .cell))) with
  | false=>exact plain (by show(pure _:Sem Bool)=_;rw[← hb])
  | true =>
   have hsw:swapsWith (.ListComp elt gens sc lp) (some (.Name x p')) pos.line X.env=pure true:=by show(pure _:Sem Bool)=_;rw[← hb]
   cases c with
   | comp own fv js tgs k it e =>
    obtain⟨_,_,_,_,e1,g⟩:=mq h;cases e1;obtain⟨⟨t,iter,ifs,z⟩,rfl,g'⟩:=iy g;obtain⟨g0,g1,h1,h2,h3,h4,h5⟩:=a7 g';cases (show ifs=[] from List.isEmpty_iff.mp g0);cases ar g1;intro pins s σ H D I q;obtain⟨cl,S⟩:=my I.ok xs h1;have yx:∀(C:Addr) (ex:List Addr) (s:Shared) (H:Hp),XS (bv X (own++fv) sc cl C ex s H) (own++fv) (cn nm sc.names):=λ C ex s H=>⟨rfl,S.rel⟩;have lt:∀i∈tgs,i < own.length:=λ i hi=>ar (gH.mp h4 i hi);exact DO (g:=tgG X.K tgs) (te:=rE X.K J FT GT e) hN hi hx hf xo.calm (sI it k xo xs h2) S.clos S.cell S.kind S.names S.sub S.has S.len S.cap (λ C ex s H=>(jw (X:=bv X (own++fv) sc cl C ex s H) S.nd xo.calm (yx C ex s H) (λ z=>by cases z) h3).1) (λ C ex s H=>sE e (jx xo) (yx C ex s H) h5) hsw (λ x=>kD (kE h2)) pins s σ H D I (GK xo.hJ lt q)
   | compI own fv js tgs k it c e =>
    obtain⟨_,_,_,_,e1,g⟩:=mq h;cases e1;obtain⟨⟨t,iter,ifs,z⟩,rfl,g'⟩:=iy g;obtain⟨cnd,e2,g⟩:=iy g';cases e2;obtain⟨g1,h1,h2,h3,h4,h7,h5,h6⟩:=a8 g;cases ar g1;intro pins s σ H D I q;obtain⟨cl,S⟩:=my I.ok xs h1;have yx:∀(C:Addr) (ex:List Addr) (s:Shared) (H:Hp),XS (bv X (own++fv) sc cl C ex s H) (own++fv) (cn nm sc.names):=λ C ex s H=>⟨rfl,S.rel⟩;have lt:∀i∈tgs,i < own.length:=λ i hi=>ar (gH.mp h4 i hi);exact Ej (g:=tgG X.K tgs) (tc:=rT X.K J FT GT c) (te:=rE X.K J FT GT e) hN hi hx hf xo.calm (sI it k xo xs h2) S.clos S.cell S.kind S.names S.sub S.has S.len S.cap (λ C ex s H=>(jw (X:=bv X (own++fv) sc cl C ex s H) S.nd xo.calm (yx C ex s H) (λ z=>by cases z) h3).1) (λ C ex s H=>sE e (jx xo) (yx C ex s H) h6) (λ C ex s H=>sT c (jx xo) (yx C ex s H) h7 h5) hsw (λ x=>kD (kE h2)) pins s σ H D I (GL xo.hJ lt q)
   | _=>exact Bool.noConfusion h
 | SetComp=>cases c<;>exact Bool.noConfusion h
 | DictComp=>cases c<;>exact Bool.noConfusion h
 | _=>exact plain rfl
end
section
variable {X:Cx}{J:Hp->Prop}{FT:List PSp}{GT:List TV}{fs gs:List Str}{N:List Str}{nm:List (Str × NameKind)}{F0:Fz}{H0:Hp}{PN:List (TV × V)}
noncomputable def rM(K:FG)(J:Hp->Prop)(FT:List PSp)(GT:List TV)(F0:Fz)(H0:Hp)(PN:List (TV × V))(m:MM)(i:Nat)(l:Cd):TE:=λ σ H Q=>∃F ρ,ER K J F0 H0 PN F H σ ρ/\gI ρ[i]? λ xs=>wL FT GT l ρ λ ts=>mtP m xs ts λ y ys=>∀F' H' v,ER K J F0 H0 PN F' H' σ (ρ.set i (some (.own ys)))->Rp K F' H' y v->Q v H'
theorem ER.at_{K:FG}{i:Nat}(e:ER K J F0 H0 PN F H σ ρ)(h:ρ[i]?=some (some (.own l))):∃a vs,σ[i]?=some (some (.ref a))/\H a=some (.lst vs)/\RpL K F H l vs:=by
 obtain⟨v,e1,a,vs,rfl,_,q,r⟩:=e.ev.sl i _ h;exact⟨a,vs,e1,q,r⟩
theorem rl2{K:FG}{t u:TV}{vs:List V}(h:RpL K F H [t,u] vs):∃x y,vs=[x,y]/\Rp K F H t x/\Rp K F H u y:=by
 obtain⟨x,r,rfl,h1,y,r',rfl,h2,rfl⟩:=h;exact⟨x,y,rfl,h1,h2⟩
theorem rl1{K:FG}{t:TV}{vs:List V}(h:RpL K F H [t] vs):∃x,vs=[x]/\Rp K F H t x:=by
 obtain⟨x,r,rfl,h1,rfl⟩:=h;exact⟨x,rfl,h1⟩
theorem RpL.dropLast{K:FG}{vs:List V}(h:RpL K F H l vs):RpL K F H l.dropLast vs.dropLast:=by
 rw[vW,vW,← h.length];exact h.take _
theorem RpL.eraseIdx{K:FG}{vs:List V}(h:RpL K F H l vs)(k:Nat):RpL K F H (l.eraseIdx k) (vs.eraseIdx k):=by
 rw[jy,jy];exact(h.take k).append (h.drop _)
theorem GM(hJ:JS J){i:Nat}{Q:VK}(e:ER X.K J F0 H0 PN F H σ ρ)(h:ρ[i]?=some (some (.own l)))(ha:σ[i]?=some (some (.ref a)))(g:Grow J F H F1 H1)(r:RrL X.K H F1 H1 ts ws)
  (w:mtP m l ts λ y ys=>∀F' H' v,ER X.K J F0 H0 PN F' H' σ (ρ.set i (some (.own ys)))->Rp X.K F' H' y v->Q v H') :
  (m=.append/\lH (.ref a) ws H1 Q)\/(m=.insert/\lT (.ref a) ws H1 Q)\/(∃b,m=.extend b/\∃c vs zs,ws=[.ref c]/\SqB X.K b H1 c zs/\H1 a=some (.lst vs)/\vs.length+zs.length≤sizeLine/\Q .non (upd H1 a (.lst (vs++zs))))\/(m=.pop/\lJ (.ref a) ws H1 Q)\/(m=.pop/\kh (.ref a) ws H1 Q):=by
 rcases ts with _ | ⟨t,_ | ⟨u,_ | ⟨z,rr⟩⟩⟩
 ·cases m with
  | pop =>
   cases r;obtain⟨y,ey,w⟩:=w;have e1:=e.grow g;obtain⟨b,vs,eb,q,rl⟩:=e1.at_ h;rw[ha] at eb;cases eb;obtain⟨v,ev,rv⟩:=rl.get ey;obtain⟨em,ke⟩:=e1.mut hJ h ha rl.dropLast;exact .inr (.inr (.inr (.inl ⟨rfl,a,vs,v,rfl,rfl,q,by rw[← rl.length];exact ev,w _ _ _ em (rv.ke ke)⟩)))
  | _=>exact w.elim
 ·cases m with
  | append =>
   obtain⟨nb,lz,w⟩:=w;obtain⟨F2,g2,_,r2⟩:=gG g r (by rw[cw,nb];rfl);obtain⟨x,rfl,rx⟩:=rl1 r2;have e1:=e.grow g2;obtain⟨b,vs,eb,q,rl⟩:=e1.at_ h;rw[ha] at eb;cases eb;obtain⟨em,ke⟩:=e1.mut hJ h ha (rl.append (show RpL X.K F2 H1 [t.fz] [x] from ⟨x,[],rfl,rx,rfl⟩));exact .inl ⟨rfl,a,vs,x,rfl,rfl,q,by rw[← rl.length];exact lz,w _ _ _ em rfl⟩
  | extend bb =>
   obtain⟨nb,w⟩:=w;obtain⟨mm,em',lz,w⟩:=Gv w;have e1:=e.grow g;obtain⟨b,vs,eb,q,rl⟩:=e1.at_ h;rw[ha] at eb;cases eb;obtain⟨x,rfl,rt⟩:=jr r;obtain⟨c,zs,rfl,qc,rz⟩:=rt.vw.b em';obtain⟨em,ke⟩:=e1.mut hJ h ha (rl.append rz);exact .inr (.inr (.inl ⟨bb,rfl,c,vs,zs,rfl,qc,q,by rw[← rl.length,← rz.length];exact lz,w _ _ _ em rfl⟩))
  | pop =>
   obtain⟨k,rfl,c,n,y,e2,ey,w⟩:=eZ w;obtain⟨x,rfl,rt⟩:=jr r;cases rt;have e1:=e.grow g;obtain⟨b,vs,eb,q,rl⟩:=e1.at_ h;rw[ha] at eb;cases eb;obtain⟨v,ev,rv⟩:=rl.get ey;obtain⟨em,ke⟩:=e1.mut hJ h ha (rl.eraseIdx n);exact .inr (.inr (.inr (.inr ⟨rfl,a,vs,k,n,v,rfl,rfl,q,c.1,c.2,by rw[← rl.length];exact e2,ev,w _ _ _ em (rv.ke ke)⟩)))
  | _=>exact w.elim
 ·cases m with
  | insert =>
   obtain⟨k,rfl,nb,c,lz,w⟩:=eZ w;obtain⟨F2,g2,_,r2⟩:=gG g r (by rw[cw,cw,nb];rfl);obtain⟨x,y,rfl,rx,ry⟩:=rl2 r2;cases rx;have e1:=e.grow g2;obtain⟨b,vs,eb,q,rl⟩:=e1.at_ h;rw[ha] at eb;cases eb;obtain⟨em,ke⟩:=e1.mut hJ h ha ((rl.take k.toNat).append (show RpL X.K F2 H1 (u.fz::l.drop k.toNat) (y::vs.drop k.toNat) from ⟨y,_,rfl,ry,rl.drop _⟩));exact .inr (.inl ⟨rfl,a,vs,k,y,rfl,rfl,q,c.1,by rw[← rl.length];exact c.2,by rw[← rl.length];exact lz,w _ _ _ em rfl⟩)
  | _=>exact w.elim
 ·cases m<;>exact w.elim
theorem GO{i:Nat}{p ap cp:Pos}{es:List Expr}(xo:XOk X J FT GT fs gs)(xs:XS X N nm)(h1:N[i]?=some x)(h2:vs nm x=true)(h3:okN x=true)(h0:mmN m ≠ "__name__")(h5:ap.endLine=cp.line)(h6:es.length < 20)(h7:ckL fs gs l N nm es=true):PE X (.Call (.Attribute (.Name x p) (mmN m) ap) es [] cp) (rM X.K J FT GT F0 H0 PN m i l):=by
 obtain⟨d1,d2,_⟩:=cZ h3;have hv:PE X (.Name x p) (dX i):=gQ (by rw[xs.N];exact h1) (qB xs h2) d1 d2;have hl:=dZ.mpr h5;have st:=iB h7;have ha:=sL l xo xs h7
 have rd:∀ {r:V->List V->Hp->VK->Prop}{σ:St}{H:Hp}{Q:VK},rM X.K J FT GT F0 H0 PN m i l σ H Q->(∀ {a ws H1},((m=.append/\lH (.ref a) ws H1 Q)\/(m=.insert/\lT (.ref a) ws H1 Q)\/(∃b,m=.extend b/\∃c vs zs,ws=[.ref c]/\SqB X.K b H1 c zs/\H1 a=some (.lst vs)/\vs.length+zs.length≤sizeLine/\Q .non (upd H1 a (.lst (vs++zs))))\/(m=.pop/\lJ (.ref a) ws H1 Q)\/(m=.pop/\kh (.ref a) ws H1 Q))->r (.ref a) ws H1 Q) ->
   ∃a,σ[i]?=some (some (.ref a))/\(tyV X.K "list" (.ref a) H)/\rA X.K J FT GT l σ H λ ws H1=>r (.ref a) ws H1 Q:=λ {r σ H Q} ⟨F,ρ,e,w⟩ hr=>by
  obtain⟨ys,hy,w⟩:=mG w;obtain⟨a,vs,ea,q,_⟩:=e.at_ hy;exact⟨a,ea,.inl ⟨rfl,vs,.of q⟩,F,ρ,e.ev,bQ l (λ ts w F1 H1 ws g r=>hr (GM xo.hJ e hy ea g r w)) w⟩
 have tv:∀ {σ:St}{H:Hp}{P:VK}{a:Addr},σ[i]?=some (some (.ref a))->P (.ref a) H->dX i σ H P:=λ {σ H P a} e p=>by unfold dX;rw[e];exact p
 cases es with
 | nil =>
  cases m with
  | pop =>
   refine(BJ (apos:=ap) (cpos:=cp) mI vX vY BO hv rfl hl).imp λ σ H Q q=>?_
   have l0:l=.nil:=by cases l<;>first | rfl | exact Bool.noConfusion h7
   subst l0
   obtain⟨a,ea,ty,F,ρ,ev,w⟩:=rd (r:=λ x ws H Q=>ws=[]->lJ x [] H Q) q (λ h z=>by
    subst z
    rcases h with ⟨z,_⟩ | ⟨z,_⟩ | ⟨_,z,_⟩ | ⟨_,h⟩ | ⟨_,h⟩
    ·cases z
    ·cases z
    ·cases z
    ·exact h
    ·obtain⟨_,_,_,_,_,_,z,_⟩:=h;cases z)
   exact tv ea ⟨ty,w F H [] (.refl ev.w) .nil rfl⟩
  | append =>
    intro pins s σ H Q I q
    have l0:l=.nil:=by cases l<;>first | rfl | exact Bool.noConfusion h7
    subst l0;obtain⟨F,ρ,e,w⟩:=q;obtain⟨_,_,w⟩:=mG w;exact w.elim
  | insert =>
    intro pins s σ H Q I q
    have l0:l=.nil:=by cases l<;>first | rfl | exact Bool.noConfusion h7
    subst l0;obtain⟨F,ρ,e,w⟩:=q;obtain⟨_,_,w⟩:=mG w;exact w.elim
  | extend b=>exact absurd rfl h0
 | cons y es =>
  have sy:aT y=true:=by rw[cw,aX] at st;exact st.1
  have ss:es.all aT=true:=by rw[cw,aX] at st;exact st.2
  cases m with
  | append =>
   refine(oK (apos:=ap) (cpos:=cp) mI PySem.F.slot_list_append PySem.F.type_list_append BM hv ha rfl (qG st h6) hl (bJ sy) (fg ss)).imp λ σ H Q q=>?_
   obtain⟨a,ea,ty,w⟩:=rd (r:=lH) q (λ h=>by
    rcases h with ⟨_,h⟩ | ⟨z,_⟩ | ⟨_,z,_⟩ | ⟨z,_⟩ | ⟨z,_⟩
    ·exact h
    all_goals cases z)
   exact tv ea ⟨ty,w⟩
  | insert =>
   refine(oK (apos:=ap) (cpos:=cp) mI PySem.F.slot_list_insert PySem.F.type_list_insert Ed hv ha rfl (qG st h6) hl (bJ sy) (fg ss)).imp λ σ H Q q=>?_
   obtain⟨a,ea,ty,w⟩:=rd (r:=lT) q (λ h=>by
    rcases h with ⟨z,_⟩ | ⟨_,h⟩ | ⟨_,z,_⟩ | ⟨z,_⟩ | ⟨z,_⟩
    ·cases z
    ·exact h
    all_goals cases z)
   exact tv ea ⟨ty,w⟩
  | pop =>
   refine(oK (apos:=ap) (cpos:=cp) mI vX vY DN hv ha rfl (qG st h6) hl (bJ sy) (fg ss)).imp λ σ H Q q=>?_
   obtain⟨a,ea,ty,w⟩:=rd (r:=λ x ws H Q=>ws≠[]->kh x ws H Q) q (λ h n=>by
    rcases h with ⟨z,_⟩ | ⟨z,_⟩ | ⟨_,z,_⟩ | ⟨_,h⟩ | ⟨_,h⟩
    ·cases z
    ·cases z
    ·cases z
    ·obtain⟨_,_,_,_,z,_⟩:=h;exact absurd z n
    ·exact h)
   refine tv ea ⟨ty,?_⟩;obtain⟨F,ρ,ev,w⟩:=w;refine⟨F,ρ,ev,?_⟩
   cases l with
   | cons b r=>exact ao b (λ t w=>bQ r (λ ts w F' H' vs g rr=>w F' H' vs g rr (λ z=>by subst z;cases rr)) w) w
   | _=>exact Bool.noConfusion h7
  | extend b=>exact absurd rfl h0
theorem GP(xo:XOk X J FT GT fs gs)(xs:XS X N nm)(h:ckM fs gs N nm m i l e=true):PE X e (rM X.K J FT GT F0 H0 PN m i l)/\plE e=true:=by
 refine cD h λ g es w cp k1=>?_;refine qz k1 λ o name ap k2=>?_;refine aK k2 λ x p k3=>?_;obtain⟨z0,h1,h2,h3,z1,z2,h7⟩:=a7 k3;refine bj z0 ?_;cases ar z1;obtain⟨h0,h5,h6⟩:=ar z2;exact⟨GO xo xs (ar h1) h2 h3 h0 h5 h6 h7,rfl⟩
end
section
variable {J:Hp->Prop}{FT:List PSp}{GT:List TV}{fs gs:List Str}{N:List Str}{nm:List (Str × NameKind)}{F0:Fz}{H0:Hp}
theorem GQ{K:PySem.W.Frag}{ts its:List TV}{n:Nat}{D:Ends}{tb:TS}(b:TV->En->(En->Prop)->Prop)(P:En->Prop)
  (e1:ER K J F0 H0 PN F1 H1 σ ρ) (sl:σ.length=n) (rx:RpL K F1 H1 (ts.map TV.fz) xs) (ok:ItOk K J Jt its ts xs) (w:itF b its ρ P) (fin:∀ρ',P ρ'->nxR K J F0 H0 PN n D.nx ρ')
  (st:∀t ρ' F' H' σ' x (Q:En->Prop) (D':Ends),b t ρ' Q->ER K J F0 H0 ((ts.map TV.fz).zip xs++PN) F' H' σ' ρ'->σ'.length=n->Rp K F' H' t x->D'.rt=D.rt->(∀ρ2,Q ρ2->nxR K J F0 H0 ((ts.map TV.fz).zip xs++PN) n D'.nx ρ2)->tgG K tgs x σ' H' λ σ2 H2=>tb D' σ2 H2) :
  ∃W:Nat->Nat->St->Hp->Prop,(∃m,W 0 m σ H1)/\∀i m σ H,W i m σ H ->
   (Jt.stop i H/\D.nx σ H)\/(Jt.go i H/\∃N:St->Hp->Prop,(∀σ' H',N σ' H'->∃m',m' < m/\W (i+1) m' σ' H')/\∀x H',Jt.yld i H x H'->tgG K tgs x σ H' λ σ2 H2=>tb { D with nx:=N,ct:=N,bk:=D.nx } σ2 H2):=by
 have zl:(ts.map TV.fz).length=xs.length:=rx.length
 have pin0:∀p∈(ts.map TV.fz).zip xs,Rp K F1 H1 p.1 p.2:=by
  intro p hp;obtain⟨i,hi⟩:=vZ hp;rw[vH] at hi;obtain⟨v,ev,rv⟩:=rx.get hi.1;rw[hi.2] at ev;cases ev;exact rv
 have vw:∀ {F:Fz}{H:Hp}{σ:St}{ρ:En},ER K J F0 H0 ((ts.map TV.fz).zip xs++PN) F H σ ρ->Paired (Vw K F H) ts xs:=λ {F H σ ρ} e=>by
  have f:=e.pn;clear rx ok w fin st pin0 e1
  revert xs
  induction ts with
  | nil=>intro xs zl e f;cases xs with | nil=>exact .nil | cons x xs=>simp at zl
  | cons t ts ih =>
   intro xs zl e f
   cases xs with
   | nil=>simp at zl
   | cons x xs =>
    refine .cons (Rp.vw (f (t.fz,x) (by simp))) (ih (by simpa using zl) ⟨e.ev,e.gr,e.nb,e.di,λ p hp=>f p (by
     rw[bc,lX,qJ]
     exact bU _ hp)⟩ λ p hp=>f p (by
     rw[bc,lX,qJ]
     exact bU _ hp))
 refine⟨λ i m σ H=>i≤its.length/\m=its.length - i/\∃F ρ,ER K J F0 H0 ((ts.map TV.fz).zip xs++PN) F H σ ρ/\σ.length=n/\itF b (its.drop i) ρ P,
  ⟨_,cy _,rfl,F1,ρ,⟨e1.ev,e1.gr,e1.nb,e1.di,λ p hp=>(aM.mp hp).elim (pin0 p) (e1.pn p)⟩,sl,w⟩,?_⟩
 rintro i m σ H ⟨hi,rfl,F,ρ,e,s,w⟩;have v:=vw e;by_cases c:i < its.length
 ·refine .inr ⟨ok.go F H i e.ev.w v c,λ σ' H'=>∃F ρ,ER K J F0 H0 ((ts.map TV.fz).zip xs++PN) F H' σ' ρ/\σ'.length=n/\itF b (its.drop (i+1)) ρ P,λ σ' H' q=>⟨_,by lia,c,rfl,q⟩,λ x H' y=>?_⟩;obtain⟨t,et,gy,rt⟩:=ok.yld F H i x H' e.ev.w v c y
  have ed:its.drop i=t::its.drop (i+1):=by
   rw[mE c]
   congr 1
   rw[bP c] at et;exact cr et
  rw[ed] at w;exact st t ρ F H' σ x _ _ w (e.grow gy) s rt rfl λ ρ2 q F2 H2 σ2 e2 s2=>⟨F2,ρ2,e2,s2,q⟩
 ·have ei:i=its.length:=by lia
  subst ei;rw[mF] at w;refine .inl ⟨ok.stop F H e.ev.w v,fin ρ w F H σ ⟨e.ev,e.gr,e.nb,e.di,λ p hp=>e.pn p (bM _ hp)⟩ s⟩
structure YOk (X:Cx)(J:Hp->Prop)(FT:List PSp)(GT:List TV)(fs gs N:List Str)(nm:List (Str × NameKind))(lp:Bool):Prop where
 xo:XOk X J FT GT fs gs
 xs:XS X N nm
 nd:N.Nodup
 fn:∀x,X.env.scope.names.lookup x=some .cell->X.fn x=true
 ps:lp=true->PassesOwn (model X.prog X.w) X.A X.env X.xe
theorem wa{K:FG}{Q:St->Hp->Prop}(h:stE ρ is t P)(e:ER K J F0 H0 PN F H σ ρ)(rt:Rp K F H t v)(hl:∀i∈is,i < σ.length)
  (fin:∀σ' ρ',P ρ'->ER K J F0 H0 PN F H σ' ρ'->σ'.length=σ.length->Q σ' H):tgG K is v σ H Q:=by
 match is,h with
 | [i],h=>exact fin _ _ h (e.set rt (hl i (by simp))) (by simp)
 | [i,j],h =>
  cases t with
  | tup l =>
   match l,h with
   | [x,y],h =>
    obtain⟨a,ws,rfl,q,v1,r1,rfl,h1,v2,r2,rfl,h2,rfl⟩:=rt;exact⟨a,_,rfl,q,rfl,v1,_,rfl,v2,_,rfl,rfl,fin _ _ h ((e.set h1 (hl i (by simp))).set h2 (by simpa using hl j (by simp))) (by simp)⟩
   | [],h=>exact h.elim
   | [_],h=>exact h.elim
   | _::_::_::_,h=>exact h.elim
  | _=>exact h.elim
 | [i,j,k],h =>
  cases t with
  | tup l =>
   match l,h with
   | [x,y,z],h =>
    obtain⟨a,ws,rfl,q,v1,r1,rfl,h1,v2,r2,rfl,h2,v3,r3,rfl,h3,rfl⟩:=rt;exact⟨a,_,rfl,q,rfl,v1,_,rfl,v2,_,rfl,v3,_,rfl,rfl,fin _ _ h (((e.set h1 (hl i (by simp))).set h2 (by simpa using hl j (by simp))).set h3 (by simpa using hl k (by simp))) (by simp)⟩
   | [],h=>exact h.elim
   | [_],h=>exact h.elim
   | [_,_],h=>exact h.elim
   | _::_::_::_::_,h=>exact h.elim
  | _=>exact h.elim
 | [],h=>exact h.elim
 | _::_::_::_::_,h=>exact h.elim
end
section
variable {J:Hp->Prop}{FT:List PSp}{GT:List TV}{fs gs:List Str}{N:List Str}{nm:List (Str × NameKind)}{F0:Fz}{H0:Hp}
theorem GR{tg e:Expr}(h:plE e=true):swapsWithSole [tg] e n env=pure false:=kH h
theorem GS:swapsWithSole [.Subscript o i p] e n env=pure false:=by cases e<;>rfl
theorem GU:swappedStores [.Subscript o i p] e env=pure none:=by cases e<;>rfl
theorem GV{tg e:Expr}(h:plE e=true):swappedStores [tg] e env=pure none:=by
 cases tg<;>first | rfl | (cases e<;>first | rfl | cases h)
theorem GW(h:iu i=true):∀v,assign (.Subscript o i p) env v=(do
   let ov ← holding [v] (eval o env)
   let iv ← holding [v,ov] (eval i env)
   standAt p
   holding [v,ov,iv] (setItem ov iv v)
   release [v,ov,iv] []):=by
 intro v
 cases i<;>first | rfl | (cases h;done)
theorem sS:∀(c:Ct) {X:Cx}{lp:Bool}{PN:List (TV × V)}{sts:List Stmt},YOk X J FT GT fs gs N nm lp->bp fs gs N nm lp c sts=true->PSs X sts (rS X.K J FT GT N.length F0 H0 PN c)
 | .nil,X,lp,PN,sts,y,h=>by
  refine bj h ?_;exact pss_nil.imp λ D σ H ⟨F,ρ,e,s,w⟩=>w F H σ e s
 | .never,X,lp,PN,sts,y,h=>pss_never.imp λ D σ H ⟨F,ρ,e,s,w⟩=>w.elim
 | .ret c,X,lp,PN,sts,y,h=>by
  refine mH h λ o _ _ g=>?_
  cases o with
  | none=>exact Bool.noConfusion g
  | some e =>
   refine(bS (nR (sE c y.xo y.xs g)) pss_never).imp λ D σ H ⟨F,ρ,e,s,w⟩=>?_;obtain⟨F',e',_⟩:=e.fzC c;refine⟨F',_,e'.ev,ao c (λ t ⟨nb,w⟩ F1 H1 v g r=>?_) w⟩;obtain⟨F2,g2,_,_,rp⟩:=r.frz g nb;exact w F2 H1 v (e'.gr.trans g2) rp
 | .set i c r,X,lp,PN,sts,y,h=>by
  ·refine iD h λ ts e _ rest k1=>?_;refine cE k1 λ t k2=>?_;refine aK k2 λ x _ k3=>?_;obtain⟨h1,h2,h3⟩:=_L.a3 k3;obtain⟨a1,a2,a3,a4⟩:=kG y.xs y.fn h1;refine(bS (vV y.xo y.xs (by rw[y.xs.N];exact y.nd) a1 a2 a3 h2) (sS r (PN:=PN) y h3)).imp λ D σ H ⟨F,ρ,e,s,w⟩=>?_;obtain⟨F',e',_⟩:=e.fzC c;exact⟨F',_,e'.ev,ao c (λ t ⟨nb,w⟩ F1 H1 v g r=>⟨F1,_,e'.rr g r nb (by lia),by rw[fJ];exact s,w⟩) w⟩
 | .sets is c r,X,lp,PN,sts,y,h=>by
  ·refine iD h λ ts e _ rest k1=>?_;refine cE k1 λ tg k2=>?_;obtain⟨h1,h2,h3,h4,h5⟩:=a5 k2;obtain⟨pg,lt⟩:=jw (X:=X) (by rw[y.xs.N];exact y.nd) y.xo.calm y.xs (λ _=>y.fn) h1;obtain⟨tes,tk,tp,rfl⟩:=GG h2;refine(bS (tj (sE c y.xo y.xs h4) pg (GR h3) (GV h3) rfl) (sS r (PN:=PN) y h5)).imp λ D σ H ⟨F,ρ,e,s,w⟩=>?_;refine⟨F,ρ,e.ev,ao c (λ t w F1 H1 v g rr=>?_) w⟩
   cases t with
   | tup l=>exact wa w (e.grow g) rr (λ i hi=>by rw[s];exact lt i hi) λ σ' ρ' p e' s'=>⟨F1,ρ',e',s'.trans s,p⟩
   | _=>exact w.elim
 | .fz i r,X,lp,PN,sts,y,h=>by
  refine(sS r (PN:=PN) y (show bp fs gs N nm lp r sts=true from h)).imp λ D σ H ⟨F,ρ,e,s,w⟩=>?_;obtain⟨F',e',_⟩:=e.fz i;exact⟨F',_,e',s,w⟩
 | .doc r,X,lp,PN,sts,y,h=>by
  refine kF h λ e _ rest k1=>?_;refine fP k1 λ k _ _ k2=>?_;obtain⟨h1,h2⟩:=an k2;cases k<;>try exact Bool.noConfusion h1
  exact(bS sP (sS r (PN:=PN) y h2)).imp λ D σ H ⟨F,ρ,e,s,w⟩=>⟨F,ρ,e,s,w⟩
 | .ex c r,X,lp,PN,sts,y,h=>by
  ·refine kF h λ e _ rest k1=>?_;obtain⟨h1,h2,h3⟩:=_L.a3 k1;exact(bS (jJ (sE c y.xo y.xs h2) (kH h1)) (sS r (PN:=PN) y h3)).imp λ D σ H ⟨F,ρ,e,s,w⟩=>⟨F,ρ,e.ev,ao c (λ t w F1 H1 v g rr=>⟨F1,ρ,e.grow g,s,w⟩) w⟩
 | .met m i l r,X,lp,PN,sts,y,h=>by
  ·refine kF h λ e _ rest k1=>?_;obtain⟨h1,h2⟩:=an k1;obtain⟨pe,pl⟩:=GP (F0:=F0) (H0:=H0) (PN:=PN) (J:=J) (FT:=FT) (GT:=GT) y.xo y.xs h1;refine(bS (jJ pe (kH pl)) (sS r (PN:=PN) y h2)).imp λ D σ H ⟨F,ρ,e,s,w⟩=>?_;obtain⟨F',e',_⟩:=ER.fzV l e;exact⟨F',_,e',qH (λ xs w=>bQ l (λ ts w=>vS (λ y ys w F1 H1 v e1 _=>⟨F1,_,e1,s,w⟩) w) w) w⟩
 | .put i c d r,X,lp,PN,sts,y,h=>by
  ·refine iD h λ ts e _ rest k1=>?_;refine cE k1 λ t k2=>?_;refine mi k2 λ o yy _ k3=>?_;refine aK k3 λ x _ k4=>?_;obtain⟨h1,h2,h3,h4,h5,h6,h7⟩:=a7 k4;replace h1:=ar h1;obtain⟨d1,d2,_⟩:=cZ h3;refine(bS (tj (sE d y.xo y.xs h6) (Aa (gQ (by rw[y.xs.N];exact h1) (qB y.xs h2) d1 d2) (sE c y.xo y.xs h5) Bv (GW h4)) GS GU rfl) (sS r (PN:=PN) y h7)).imp λ D σ H ⟨F,ρ,e,s,w⟩=>?_;obtain⟨F',e',_⟩:=e.fzC d;obtain⟨xs,hx,w⟩:=mG w;refine⟨F',_,e'.ev,ao d (λ t ⟨nb,w⟩ F1 H1 v g rr=>?_) w⟩;obtain⟨F2,g2,_,_,rp⟩:=rr.frz g nb;have e2:=e'.grow g2;obtain⟨a,vs,ea,q,_⟩:=e2.at_ hx;show dX i σ H1 _;unfold dX;rw[ea];refine⟨F2,_,e2.ev,ao c (λ u w F3 H3 v3 g3 r3=>?_) w⟩;obtain⟨k,rfl,n,en,w⟩:=eZ w;cases r3;have e3:=e2.grow g3;obtain⟨a',vs',ea',q',rl⟩:=e3.at_ hx;rw[ea] at ea';cases ea';obtain⟨em,_⟩:=e3.mut y.xo.hJ hx ea (rl.set (rp.ke g3.ke) n);exact⟨a,vs',k,n,rfl,rfl,q',by rw[← rl.length];exact en,F3,_,em,s,w⟩
 | .ite c a b r,X,lp,PN,sts,y,h=>by
  ·refine vU h λ t x yy _ rest k1=>?_;obtain⟨h1,h2,h3,h4,h5⟩:=a5 k1;refine(bS (sQ (sT c y.xo y.xs h1 h2) (sS a (PN:=PN) y h3) (sS b (PN:=PN) y h4)) (sS r (PN:=PN) y h5)).imp λ D σ H ⟨F,ρ,e,s,w⟩=>?_;refine⟨F,ρ,e.ev,ao c (λ t w=>bT (λ k w F1 H1 g=>?_) w) w⟩;split at w
   ·rw[if_pos (by assumption)];exact⟨F1,ρ,e.grow g,s,bB a (λ ρ' w F' H' σ' e s=>⟨F',ρ',e,s,w⟩) (λ _ h=>h) w⟩
   ·rw[if_neg (by assumption)];exact⟨F1,ρ,e.grow g,s,bB b (λ ρ' w F' H' σ' e s=>⟨F',ρ',e,s,w⟩) (λ _ h=>h) w⟩
 | .for tg k it b r,X,lp,PN,sts,y,h=>by
  ·refine GJ h λ t iter body els _ rest k1=>?_;obtain⟨z0,h0,h1,h2,h3,h4⟩:=a6 k1;refine bj z0 ?_;obtain⟨pg,lt⟩:=jw (X:=X) (by rw[y.xs.N];exact y.nd) y.xo.calm y.xs (λ _=>y.fn) h1;have hb:PSs X _ (λ D σ H=>∃PN,rS X.K J FT GT N.length F0 H0 PN b D σ H):=λ pins s σ H D I ⟨PN,q⟩=>sS b (PN:=PN) y h3 pins s σ H D I q;refine(bS (Aj (y.ps h0) y.xo.calm (sI it k y.xo y.xs h2) pg hb (λ x=>kD (kE h2))) (sS r (PN:=PN) y h4)).imp λ D σ H ⟨F,ρ,e,s,w⟩=>?_;obtain⟨F',e',_⟩:=ER.fzV it e;refine⟨F',_,e'.ev,bQ it (λ ts ⟨nb,w⟩=>gw (λ its w F1 H1 xs Jt g rx ok=>?_) w) w⟩;obtain⟨F2,g2,_,r2⟩:=gG g rx nb;refine GQ (n:=N.length) (tb:=λ D σ H=>∃PN,rS X.K J FT GT N.length F0 H0 PN b D σ H) _ _ (e'.grow g2) s r2 ok w (λ ρ' w F3 H3 σ3 e3 s3=>⟨F3,ρ',e3,s3,w⟩) λ t ρ' F3 H3 σ3 x Q D' bt e3 s3 rt ert fin=>?_;exact wa bt e3 rt (λ i hi=>by rw[s3];exact lt i hi) λ σ4 ρ4 p e4 s4=>⟨_,F3,ρ4,e4,s4.trans s3,bB b (λ ρ5 q=>fin ρ5 q) (λ u hu=>by rw[ert];exact hu) p⟩
end
noncomputable def en0(n:Nat)(ts:List TV):En:=ts.map some++List.replicate (n - ts.length) none
section
variable {P:Program}{w:World}{K:FG}{mg:SV}{base:Heap}{J:Hp->Prop}{FT:List PSp}{GT:List TV}{fs gs:List Str}
structure MOk (P:Program)(w:World)(K:FG)(mg:SV)(J:Hp->Prop)(GT:List TV)(gs:List Str):Prop where
 hJ:JS J
 glb:∀(g:Nat) x t,gs[g]?=some x->GT[g]?=some t->t.nb=true->∃v u,mg x=some u/\RelV v u/\∀F H,Rp K F H t v
 dic:∀(g:Nat) x l,gs[g]?=some x->GT[g]?=some (.bor l)->DOk P w K mg x l
 blt:∀x∈BN,mg x=none
theorem er0{vs:List V}(wd:Wd J F H)(r:RpL K F H ts vs):ER K J F H [] F H (cI N vs) (en0 N.length ts):=by
 have get:∀(i:Nat) t,(en0 N.length ts)[i]?=some (some t)->ts[i]?=some t:=λ i t h=>by
  unfold en0 at h;by_cases c:i < ts.length
  ·rw[eT (by simpa using c),bW] at h
   cases q:ts[i]? with
   | none=>rw[q] at h;cases h
   | some u=>rw[q] at h;cases h;rfl
  ·rw[ef (by simpa using c),jU] at h;split at h<;>cases h
 have sl:∀(i:Nat) t,(en0 N.length ts)[i]?=some (some t)->∃v,(cI N vs)[i]?=some (some v)/\Rp K F H t v:=λ i t h=>by
  obtain⟨v,ev,rv⟩:=r.get (get i t h);refine⟨v,?_,rv⟩;unfold cI;rw[eT (by simpa using (bD.mp ev).1),bW,ev];rfl
 refine⟨⟨wd,λ i t h=>let ⟨v,e,q⟩:=sl i t h;⟨v,e,vI q⟩⟩,.refl wd,λ i l a h1 h2=>?_,λ i k l l' v h1 h2 h3 h4=>?_,λ p hp=>by cases hp⟩
 ·obtain⟨v,_,q⟩:=sl i _ h1;exact q.elim
 ·obtain⟨v,_,q⟩:=sl i _ h1;exact q.elim
theorem wb{st:Stmt}(code:Ct)(F:Fun K x qual st f fd)(sc:FnScope N ps (aD st))(m:MOk P w K mg J GT gs)(hl:fs.length=FT.length)
  (fns:∀(f:Nat) x S,fs[f]?=some x->FT[f]?=some S->∃ps,Callee P w K mg base CX0 k x ps (pSp K J S))
  (hck:bp fs gs N (aD st).names true code (bu st)=true) (hlen:∀ts Q,S ts Q->ts.length=ps.length)
  (hw:∀ts Q,S ts Q->wS FT GT code (en0 N.length ts) (λ _=>Q .non) Q):FnOk P w K mg base CX0 (k+1) f fd ps (pSp K J S):=by
 refine F.ok sc (λ vs H Q E ⟨F1,ts,P1,wd,r,s,_⟩=>by rw[← r.length];exact hlen _ _ s) (λ cdv A outer s H vs Q E hr h=>?_);obtain⟨F1,ts,P1,wd,r,sp,fin⟩:=h
 have nl:vs.length≤N.length:=by
  have z:=bF List.length sc.pre;rw[aU] at z;have:=hlen _ _ sp;rw[← r.length];lia
 have xo:XOk (bN CX0 P w K mg base N qual (aD st) f cdv A outer s H E).nox J FT GT fs gs:=⟨rfl,by have:=hr.un;show(A.deeper _).units+20 < cLine;lia,m.hJ,λ g y S h1 h2=>let ⟨ps,c⟩:=fns g y S h1 h2;⟨k,ps,hr,c⟩,m.glb,m.dic,m.blt,hl⟩;refine⟨_,sS (F0:=F1) (H0:=H) (PN:=[]) code (lp:=true) ⟨xo,⟨rfl,rfl⟩,sc.nd,λ _ _=>rfl,λ _=>PassesOwn.never⟩ hck,F1,en0 N.length ts,er0 wd r,?_,?_⟩
 ·unfold cI;rw[aC,aj,dH];show vs.length+(N.length - vs.length)=N.length;lia
 ·exact bB code (λ ρ' q F' H' σ' e _=>fin .non q F' H' .non e.gr rfl) (λ t q F' H' v g r=>fin t q F' H' v g r) (hw ts P1 sp)
end
structure Gl' (K:FG)(x:Str)(st:Stmt)(f:Addr)(fd:FuncData):Prop where
 F:Fun K x x st f fd
 a:W.nsIn K mainGlobals x=some (some (.ref f))
def Gx(K:FG)(x:Str)(st:Stmt):Prop:=∃f fd,Gl' K x st f fd
section
variable {K:FG}{x:Str}{st:Stmt}{f:Addr}{oc:Value}{od an:OA}{osl:AV}{kV doc pm cdv ct:Value}
theorem gl_ex(a:W.nsIn K mainGlobals x=some (some (.ref f)))(l:K.lookup f=some ⟨oc,od,.func (W.fnOf x x (gW st) (bu st) (aD st) .none kV doc pm an cdv ct),osl⟩)(c:W.codeIn K cdv x=true)(k:W.keepIn K (.ref f)=true):Gx K x st:=⟨_,_,uo l c k,a⟩
theorem gx_int(h:W.nsIn K mainGlobals x=some (some (.int i t))):∃t,W.nsIn K mainGlobals x=some (some (.int i t)):=⟨_,h⟩
end
abbrev DR:=Str × List Str × PSp
def dFs(L:List DR)(j:Nat):List Str:=(L.take j).map (·.1)
def dFT(L:List DR)(j:Nat):List PSp:=(L.take j).map (·.2.2)
section
variable {P:Program}{w:World}{K:FG}{mg:SV}{base:Heap}{J:Hp->Prop}{GT:List TV}{gs:List Str}{L:List DR}
noncomputable def Cal(P:Program)(w:World)(K:FG)(mg:SV)(base:Heap)(J:Hp->Prop)(L:List DR)(j:Nat):Prop:=∀x ps S,L[j]?=some (x,ps,S)->Callee P w K mg base CX0 (j+1) x ps (pSp K J S)
noncomputable def Cals(P:Program)(w:World)(K:FG)(mg:SV)(base:Heap)(J:Hp->Prop)(L:List DR)(j:Nat):Prop:=∀i,i < j->Cal P w K mg base J L i
theorem Cals.z:Cals P w K mg base J L 0:=λ i h=>absurd h (Nat.not_lt_zero _)
theorem Cals.s(C:Cals P w K mg base J L j)(c:Cal P w K mg base J L j):Cals P w K mg base J L (j+1):=λ i h=>by
 by_cases e:i=j
 ·subst e;exact c
 ·exact C i (by lia)
theorem Cals.fns(C:Cals P w K mg base J L j):∀(f:Nat) x S,(dFs L j)[f]?=some x->(dFT L j)[f]?=some S->∃ps,Callee P w K mg base CX0 j x ps (pSp K J S):=λ f x S h1 h2=>by
 unfold dFs at h1;unfold dFT at h2;rw[bW] at h1 h2
 cases q:(L.take j)[f]? with
 | none=>rw[q] at h1;cases h1
 | some d =>
  rw[q] at h1 h2;cases h1;cases h2;have lt:f < j:=by have:=(bD.mp q).1;rw[aU] at this;lia
  rw[kI,if_pos lt] at q;exact⟨_,(C f lt d.1 d.2.1 d.2.2 q).mono (by lia)⟩
theorem kJ(j:Nat):(dFs L j).length=(dFT L j).length:=by unfold dFs dFT;rw[aj,aj]
theorem GX{x:Str}{ps N:List Str}{st:Stmt}{S:PSp}(code:Ct)(C:Cals P w K mg base J L j)(m:MOk P w K mg J GT gs)(hm:∀ {x:Str}{v:Option Value},W.nsIn K mainGlobals x=some v->mg x=v)(e:L[j]?=some (x,ps,S))(g:Gx K x st)(sc:FnScope N ps (aD st))
  (b:∀f fd,Fun K x x st f fd->Binds K fd ps []) (hck:bp (dFs L j) gs N (aD st).names true code (bu st)=true) (hlen:∀ts Q,S ts Q->ts.length=ps.length)
  (hw:∀ts Q,S ts Q->wS (dFT L j) GT code (en0 N.length ts) (λ _=>Q .non) Q):Cals P w K mg base J L (j+1):=by
 refine C.s λ x' ps' S' e'=>?_;rw[e] at e';cases e';obtain⟨f,fd,gf⟩:=g;exact Callee.mk' gf.F (hm gf.a) (b f fd gf.F) (wb code gf.F sc m (kJ j) C.fns hck hlen hw)
noncomputable def mK:PSp:=λ ts Q=>∃ns:LIq,ts=[.lst (ns.map .int)]/\ns.length≤63/\Q (.bl true)
noncomputable def jz(K:FG)(J:Hp->Prop):Sp:=λ vs H Q _=>∃(a:Addr) (ns:LIq),vs=[.ref a]/\SqL K H a (ns.map V.int)/\ns.length≤63/\J H/\∀H',Q (.bl true) H'
theorem GY(F:FnOk P w K mg base CX0 k f fd ps (pSp K J mK)):FnOk P w K mg base CX0 k f fd ps (jz K J):=F.imp λ vs H Q E ⟨a,ns,e,sq,l,j,q⟩=>by
 subst e
 rcases sq with rd | kk
 ·have ha:H a≠none:=by rcases rd with h | ⟨o,h⟩<;>rw[h]<;>simp
  exact⟨λ b=>b=a,[.lst (ns.map .int)],_,⟨j,λ b e=>by rw[show b=a from e];exact ha⟩,⟨_,_,rfl,⟨a,_,rfl,.inl ⟨rfl,.inl rd⟩,RpL.ofInts ns⟩,rfl⟩,⟨ns,rfl,l,rfl⟩,λ t e F' H' v _ r=>by subst e;cases r;exact q H'⟩
 ·exact⟨λ _=>False,[.lst (ns.map .int)],_,⟨j,λ b e=>e.elim⟩,⟨_,_,rfl,⟨a,_,rfl,.inr kk,RpL.ofInts ns⟩,rfl⟩,⟨ns,rfl,l,rfl⟩,λ t e F' H' v _ r=>by subst e;cases r;exact q H'⟩
variable {FT:List PSp}
theorem dA{its:List TV}{Kn:En->Prop}(I:Nat->En->Prop)(h0:I 0 ρ)(st:∀i t ρ,its[i]?=some t->I i ρ->stE ρ tg t λ ρ'=>wS FT GT c ρ' (I (i+1)) rt)(fin:∀ρ,I its.length ρ->Kn ρ):itF (λ t ρ K=>stE ρ tg t λ ρ'=>wS FT GT c ρ' K rt) its ρ Kn:=by
 have go:∀(r:List TV) (i:Nat) (ρ:En),its.drop i=r->i≤its.length->I i ρ->itF (λ t ρ K=>stE ρ tg t λ ρ'=>wS FT GT c ρ' K rt) r ρ Kn:=by
  intro r
  induction r with
  | nil =>
   intro i ρ e li h;have:i=its.length:=by have:=bF List.length e;rw[cg] at this;simp at this;lia
   subst this;exact fin ρ h
  | cons t r ih =>
   intro i ρ e li h;have lt:i < its.length:=by have:=bF List.length e;rw[cg] at this;simp at this;lia
   rw[mE lt] at e
   injection e with e1 e2
   have et:its[i]?=some t:=by rw[bP lt,e1]
   exact eG (λ ρ' q=>bB c (λ ρ'' q=>ih (i+1) ρ'' e2 (by lia) q) (λ _ q=>q) q) (st i t ρ et h)
 exact go its 0 ρ rfl (cy _) h0
end
end _L
namespace _L
open PySem PySem.Spec PyProof.Rows PySem.W PySem.Calls
section
variable {K:FG}{L:List (Addr × Pos × Str)}{F F1 F2 F':Fz}{H H1 H2 H':Hp}{cl:LA}{vcs:List V}
end
end _L
namespace _L
open PySem PySem.Spec PyProof.Rows PySem.W PySem.Calls
theorem wc(env:Env)(post:List Stmt):∀pre:List Stmt,execs (pre++post) env=(execs pre env >>= λ f=>match f with | .next=>execs post env | f=>pure f)
 | []=>by
  rw[oP];unfold execs;simp
 | st::pre=>by
  rw[qJ];rw[execs,execs,wc env post pre];simp[bind_assoc]
  congr 1;funext f;cases f<;>simp
theorem GZ(h1:PSs X pre t)(h2:PSs X post u):PSs X (pre++post) (sO t u):=by
 intro pins s σ H D I h;rw[wc];refine ae (thn (h1 pins s σ H { D with nx:=u D } I h) λ f s1 q=>?_)
 cases f with
 | next=>obtain⟨σ',H',I',q⟩:=q;exact h2 pins s1 σ' H' D I' q
 | ret v=>exact ak q
 | brk=>exact ak q
 | cont=>exact ak q
section
variable {P:Program}{w:World}{K:FG}{mg:SV}{base:Heap}{L:List (Addr × Pos × Str)}
variable {FT:List PSp}{GT:List TV}{fs gs:List Str}{F F1:Fz}{Hm H2 H1:Hp}{cl:LA}{vcs:List V}{caps:List TV}{N ps fv:List Str}{fa c':Addr}{name qual:Str}{params:Arguments}{scope:Scope}{k:Nat}{a b:TV}{p:V}{Q:VK}
end
end _L
namespace _L
open PySem PySem.Spec PyProof.Rows PySem.W PySem.Calls
section
variable {P:Program}{w:World}{K:FG}{mg:SV}{base:Heap}{L:List (Addr × Pos × Str)}{FT FI:List PSp}{GT:List TV}{fs fi gs:List Str}
variable {x tb at_ ql:Str}{st:Stmt}{f c T:Addr}{fd:FuncData}{N ps pst N':List Str}{js:List Nat}{k kk:Nat}{S:PSp}{A:TV->List TV->Prop}{pre:List Stmt}{e:Expr}{params:Arguments}{scope:Scope}{pos p1 p2 p3 p4:Pos}
end
end _L
namespace _L
open PySem PySem.Spec PyProof.Rows PySem.W PySem.Calls
section
variable {P:Program}{w:World}{K:FG}{mg:SV}{base:Heap}{L:List (Addr × Pos × Str)}{FT:List PSp}{GT:List TV}{fs gs:List Str}
variable {X:Cx}{N:List Str}{nm:List (Str × NameKind)}{kk fA:Nat}{A:TV->List TV->Prop}{SA:PSp}
variable {sd nf at_ aa:Str}{st:Stmt}{f:Addr}{fd:FuncData}{k:Nat}{p1 p2 p3 p4 p5 p6 p7 p8 p9 p10 p11 p12 pos:Pos}{x1:Nat}{sc:Scope}
end
end _L
namespace _L
open PySem PySem.Spec PyProof.Rows PySem.W PySem.Calls
abbrev Cd.a1(a:Cd):Cd:=.cons a .nil
abbrev Cd.a2(a b:Cd):Cd:=.cons a (.cons b .nil)
noncomputable abbrev Cd.a3(a b c:Cd):Cd:=.cons a (.cons b (.cons c .nil))
abbrev Cd.n(i:Int):Cd:=.c (.int i)
abbrev Cd.w(x:Str):Cd:=.c (.str x)
abbrev Cd.eq(a b:Cd):Cd:=.cmp .Eq a b
abbrev dr(x:Str)(ps:List Str)(S:PSp):DR:=(x,ps,S)
section
variable {P:Program}{w:World}{K:FG}{mg:SV}{base:Heap}{J:Hp->Prop}{GT:List TV}{gs:List Str}{D:List DR}{L:List (Addr × Pos × Str)}
noncomputable def scB(s:Scope)(ps N:List Str):Bool:=decide (s.kind=.function/\s.isCoroutine=false/\s.isGenerator=false/\N.Nodup/\N.take ps.length=ps/\(∀x∈ps,s.names.lookup x=some .local\/s.names.lookup x=some .cell)/\∀y∈s.names,y.2≠.free)
theorem kK(h:scB s ps N=true):FnScope N ps s:=let h:=ar h;⟨h.1,h.2.1,h.2.2.1,h.2.2.2.1,h.2.2.2.2.1,h.2.2.2.2.2.1,h.2.2.2.2.2.2⟩
end
end _L
namespace _L
open PySem PySem.Spec PyProof.Rows PySem.W PySem.Calls
abbrev V0:Cd:=.v 0
abbrev V1:Cd:=.v 1
abbrev V2:Cd:=.v 2
abbrev V3:Cd:=.v 3
abbrev V4:Cd:=.v 4
abbrev V5:Cd:=.v 5
abbrev V6:Cd:=.v 6
abbrev V7:Cd:=.v 7
abbrev V8:Cd:=.v 8
abbrev V9:Cd:=.v 9
abbrev V10:Cd:=.v 10
abbrev V11:Cd:=.v 11
abbrev N0:Cd:=.c (.int 0)
abbrev N1:Cd:=.c (.int 1)
abbrev N2:Cd:=.c (.int 2)
abbrev N3:Cd:=.c (.int 3)
abbrev N4:Cd:=.c (.int 4)
abbrev N5:Cd:=.c (.int 5)
abbrev N6:Cd:=.c (.int 6)
abbrev N7:Cd:=.c (.int 7)
abbrev N8:Cd:=.c (.int 8)
abbrev N9:Cd:=.c (.int 9)
abbrev N10:Cd:=.c (.int 10)
abbrev N11:Cd:=.c (.int 11)
abbrev Cd.x(i:Nat)(j:Int):Cd:=.ix (.v i) (.c (.int j))
abbrev Cd.c1(f:Nat)(a:Cd):Cd:=.call f (.a1 a)
abbrev Cd.c2(f:Nat)(a b:Cd):Cd:=.call f (.a2 a b)
abbrev Cd.c3(f:Nat)(a b c:Cd):Cd:=.call f (.a3 a b c)
abbrev Cd.ln(a:Cd):Cd:=.bi .len (.a1 a)
abbrev Cd.b1(f:BI)(a:Cd):Cd:=.bi f (.a1 a)
abbrev Cd.b2(f:BI)(a b:Cd):Cd:=.bi f (.a2 a b)
abbrev Cd.st(a b:Cd):Cd:=.sl a (.c .non) b
abbrev Cd.sf(a b:Cd):Cd:=.sl a b (.c .non)
abbrev Cd.es(a:Cd)(x:Str):Cd:=.cmp .Eq a (.c (.str x))
abbrev Cd.t0:Cd:=.tup .nil
abbrev Cd.l0:Cd:=.lst .nil
abbrev Cd.t1(a:Cd):Cd:=.tup (.a1 a)
abbrev Cd.t2(a b:Cd):Cd:=.tup (.a2 a b)
abbrev Cd.t3(a b c:Cd):Cd:=.tup (.a3 a b c)
abbrev Ct.nv(c:Cd)(r:Ct):Ct:=.ite c .never .nil r
abbrev Ct.r(c x:Cd)(r:Ct):Ct:=.ite c (.ret x) .nil r
abbrev Ct.i(c:Cd)(a r:Ct):Ct:=.ite c a .nil r
abbrev Cd.ad(a b:Cd):Cd:=.bin .Add a b
abbrev Cd.sb(a b:Cd):Cd:=.bin .Sub a b
abbrev Cd.ml(a b:Cd):Cd:=.bin .Mult a b
abbrev Cd.dv(a b:Cd):Cd:=.bin .FloorDiv a b
abbrev Cd.md(a b:Cd):Cd:=.bin .Mod a b
abbrev Cd.lt(a b:Cd):Cd:=.cmp .Lt a b
abbrev Cd.gt(a b:Cd):Cd:=.cmp .Gt a b
abbrev Cd.ne(a b:Cd):Cd:=.cmp .NotEq a b
abbrev Cd.ge(a b:Cd):Cd:=.cmp .GtE a b
noncomputable def qK:Nat->(LV->Prop)->Prop
 | 0,Q=>Q []
 | n+1,Q=>∀u,qK n λ l=>Q (u::l)
theorem we:∀ {n:Nat}{Q:LV->Prop},qK n Q->∀us:LV,us.length=n->Q us
 | 0,_,h,us,e=>by rw[mh e];exact h
 | _+1,_,h,_::us,e=>we (h _) us (Nat.succ.inj e)
structure CM (P:Program)(w:World)(K:FG)(mg:SV)(base:Heap)(J:Hp->Prop)(GT:List TV)(gs:List Str)(D:List DR)(j:Nat):Prop where
 c:Cals P w K mg base J D j
 m:MOk P w K mg J GT gs
 hm:∀ {x:Str}{v:Option Value},W.nsIn K mainGlobals x=some v->mg x=v
noncomputable abbrev ZX'(D:List DR)(GT:List TV)(gs:List Str)(j:Nat)(st:Stmt)(N:List Str)(n p:Nat)(S:PSp)(c:Ct):Prop:=(bp (dFs D j) gs N (aD st).names true c (bu st) && scB (aD st) (N.take p) N && decide (p≤N.length/\N.length=n))=true/\∀ts Q,S ts Q->ts.length=p/\wS (dFT D j) GT c (en0 n ts) (λ _=>Q .non) Q
section
variable {P:Program}{w:World}{K:FG}{mg:SV}{base:Heap}{J:Hp->Prop}{GT:List TV}{gs:List Str}{D:List DR}{L:List (Addr × Pos × Str)}{j jj kk n n2 p i0:Nat}{x ql nn:Str}{N N' pst:List Str}{js:List Nat}{st:Stmt}{S:PSp}{code:Ct}{A:TV->List TV->Prop}{f c T:Addr}{fd:FuncData}
noncomputable abbrev Bds(x:Str)(st:Stmt)(ps:List Str)(p:Nat):Prop:=qK p λ us=>∀(kV doc pm:Value) (an:OA) (cdv ct:Value),bindArgs (W.fnOf x x (gW st) (bu st) (aD st) .none kV doc pm an cdv ct) ⟨us,[]⟩=pure (ps.zip us)
theorem Bds.ok(h:Bds x st (N.take p) p)(l:p≤N.length)(f:Addr)(fd:FuncData)(F:Fun K x x st f fd):Binds K fd (N.take p) []:=F.binds λ kV doc pm an cdv ct us hl=>we h us (by rw[hl,aU,eW l]) kV doc pm an cdv ct
theorem CM.d(C:CM P w K mg base J GT gs D j)(g:Gx K x st)(z:ZX' D GT gs j st N n p S code)(e:autoParam (D[j]?=some (x,N.take p,S)) Z3_)(b:autoParam (Bds x st (N.take p) p) Z8_):CM P w K mg base J GT gs D (j+1):=by
 obtain⟨z1,z2⟩:=z;simp only[aX,du] at z1;obtain⟨⟨k1,k2⟩,k3,rfl⟩:=z1;exact⟨GX code C.c C.m C.hm e g (kK k2) (b.ok k3) k1 (λ ts Q h=>by rw[(z2 ts Q h).1,aU,eW k3]) λ ts Q h=>(z2 ts Q h).2,C.m,C.hm⟩
theorem CM.law(C:CM P w K mg base J GT gs D j)(g:Gl' K x st f fd)(z:ZX' D GT gs j st N n p mK code):FnOk P w K mg base CX0 (j+1) f fd (N.take p) (jz K J):=by
 obtain⟨z1,z2⟩:=z;simp only[aX,du] at z1;obtain⟨⟨k1,k2⟩,k3,rfl⟩:=z1;exact GY (wb code g.F (kK k2) C.m (kJ j) C.c.fns k1 (λ ts Q h=>by rw[(z2 ts Q h).1,aU,eW k3]) λ ts Q h=>(z2 ts Q h).2)
end
inductive Cw where
 | no | call (f:Nat) (l:Cd) | fst (e:Cw) | or (a b:Cw)
inductive Cq where
 | nil | no | rs (k:Nat) (l:Cd) | rf (k:Nat) (a b:Cd) | rb (l:Cd) | ret (e:Cw) | ex (e:Cw) (c:Cd) (r:Cq) | set (i:Nat) (c:Cd) (r:Cq) | ite (c:Cd) (a b r:Cq) | doc (r:Cq)
inductive XI where
 | c (k:Nat) | b (a:Int) (w:Str)
abbrev XSp:=List TV->(XI->Prop)->Prop
section
variable (FT:List PSp)(GT:List TV)(FX:List XSp)
noncomputable def wX:Cw->En->(XI->Prop)->Prop
 | .no,_,_=>False
 | .call f l,ρ,E=>wL FT GT l ρ λ ts=>∃P,(∃S,FX[f]?=some S/\S (ts.map .fz) P)/\∀n,P n->E n
 | .fst e,ρ,E=>wX e ρ E
 | .or a b,ρ,E=>wX a ρ E\/wX b ρ E
noncomputable def wR:Cq->En->(En->Prop)->(XI->En->Prop)->Prop
 | .nil,ρ,nx,_=>nx ρ
 | .no,_,_,_=>False
 | .rs k l,ρ,_,E=>wL FT GT l ρ λ ts=>ts.length≤sizeLine/\E (.c k) ρ
 | .rf k a b,ρ,_,E=>wE FT GT a ρ λ t=>∃x,t=.str x/\okS 1000 x/\wE FT GT b ρ λ u=>∃y,u=.str y/\okS 1000 y/\E (.c k) ρ
 | .rb l,ρ,_,E=>wL FT GT l ρ λ ts=>∃t a w,ts=[.str t,.int a,.str w]/\E (.b a w) ρ
 | .ret e,ρ,_,E=>wX FT GT FX e ρ λ n=>E n ρ
 | .ex e c r,ρ,nx,E=>(wX FT GT FX e ρ λ n=>E n ρ)\/wE FT GT c ρ λ _=>wR r ρ nx E
 | .set i c r,ρ,nx,E=>wE FT GT c (fzC c ρ) λ t=>t.nb=true/\wR r ((fzC c ρ).set i (some t)) nx E
 | .ite c a b r,ρ,nx,E=>wE FT GT c ρ λ t=>b1 t λ k=>if k=true then wR a ρ (λ ρ'=>wR r ρ' nx E) E else wR b ρ (λ ρ'=>wR r ρ' nx E) E
 | .doc r,ρ,nx,E=>wR r ρ nx E
end
noncomputable def oS{α:Type}(o:Option α)(k:α->Bool):Bool:=match o with | some x=>k x | none=>false
@[elab_as_elim] theorem eJ{α:Type}{motive:Option α->Prop}{o:Option α}{k:α->Bool}(h:oS o k=true)(f:∀x,k x=true->motive (some x)):motive o:=by
 cases o with
 | none=>exact Bool.noConfusion h
 | some x=>exact f x h
noncomputable def qRa(l:List Stmt)(k:Option Expr->Option Expr->Pos->List Stmt->Bool):Bool:=match l with | .Raise x p q::l=>k x p q l | _=>false
@[elab_as_elim] theorem qL{motive:List Stmt->Prop}{l:List Stmt}{k:Option Expr->Option Expr->Pos->List Stmt->Bool}(h:qRa l k=true)(f:∀x p q t,k x p q t=true->motive (.Raise x p q::t)):motive l:=by
 cases l with
 | nil=>exact Bool.noConfusion h
 | cons a t=>cases a<;>first | exact f _ _ _ _ h | exact Bool.noConfusion h
noncomputable def cJs(e:Expr)(k:List Expr->Bool):Bool:=match e with | .JoinedStr l _=>k l | _=>false
@[elab_as_elim] theorem Hb{motive:Expr->Prop}{e:Expr}{k:List Expr->Bool}(h:cJs e k=true)(f:∀l p,k l=true->motive (.JoinedStr l p)):motive e:=by
 cases e<;>first | exact f _ _ h | exact Bool.noConfusion h
noncomputable def cFv(e:Expr)(k:Expr->Bool):Bool:=match e with | .FormattedValue v n o _=>decide (n=114) && o.isNone && k v | _=>false
@[elab_as_elim] theorem Hc{motive:Expr->Prop}{e:Expr}{k:Expr->Bool}(h:cFv e k=true)(f:∀v p,k v=true->motive (.FormattedValue v 114 none p)):motive e:=by
 cases e<;>first | (obtain⟨a,b,c⟩:=a3 h;cases ar a;cases iC.mp b;exact f _ _ c) | exact Bool.noConfusion h
section
variable (fs gs cs:List Str)(tb:Bool)(N:List Str)(nm:List (Str × NameKind))
noncomputable def ckX:Cw->Expr->Bool
 | .no,_=>true
 | .call f l,e=>cj e λ g as w _=>aO g λ x _=>cC as λ a es=>w.isEmpty && decide (fs[f]?=some x) && gl nm x && okN x && ckL fs gs l N nm (a::es)
 | .fst c,e=>(cj e λ g as w _=>aO g λ x _=>cC as λ a es=>w.isEmpty && decide (x∈fs) && gl nm x && okN x && aT a && es.all aT && ckX c a) || gD e λ es _ _=>cC es λ a _=>aT a && ckX c a
 | .or a b,e=>ckX a e && ckX b e
noncomputable def ckR:Bool->Cq->List Stmt->Bool
 | _,.nil,sts=>sts.isEmpty
 | _,.no,_=>true
 | tp,.rs k l,sts=>qRa sts λ e c _ _=>oS e λ e=>cj e λ g as w _=>aO g λ x _=>cC as λ a es=>w.isEmpty && c.isNone && tp && decide (cs[k]?=some x) && gl nm x && okN x && ckL fs gs l N nm (a::es)
 | tp,.rf k a b,sts=>qRa sts λ e c _ _=>oS e λ e=>cj e λ g as w _=>aO g λ x _=>c1 as λ j=>cJs j λ l=>cC l λ u r=>c1 r λ v=>cFv v λ v=>w.isEmpty && c.isNone && tp && decide (cs[k]?=some x) && gl nm x && okN x && ck fs gs a N nm u && ck fs gs b N nm v
 | _,.rb l,sts=>qRa sts λ e c _ _=>oS e λ e=>cj e λ g as w _=>aO g λ x _=>cC as λ a es=>w.isEmpty && c.isNone && tb && decide (x="BadStep") && gl nm x && ckL fs gs l N nm (a::es)
 | _,.ret c,sts=>qRe sts λ e _ _=>oS e λ e=>ckX fs gs N nm c e
 | tp,.ex d c r,sts=>qEx sts λ e _ rest=>plE e && ckX fs gs N nm d e && ck fs gs c N nm e && ckR tp r rest
 | tp,.set i c r,sts=>qAs sts λ ts e _ rest=>c1 ts λ t=>aO t λ x _=>lcl N nm i x && ck fs gs c N nm e && ckR tp r rest
 | tp,.ite c a b r,sts=>qIf sts λ t x y _ rest=>tB' c t && ck fs gs c N nm t && ckR tp a x && ckR tp b y && ckR tp r rest
 | tp,.doc r,sts=>qEx sts λ e _ rest=>iw e λ k _ _=>vT k && ckR tp r rest
end
section
variable {FT:List PSp}{GT:List TV}{FX:List XSp}
theorem jA:∀(c:Cw) {ρ:En}{E E':XI->Prop},(∀n,E n->E' n)->wX FT GT FX c ρ E->wX FT GT FX c ρ E'
 | .no,_,_,_,_,q=>q.elim
 | .call f l,_,_,_,h,q=>bQ l (λ ts ⟨P,a,b⟩=>⟨P,a,λ n p=>h n (b n p)⟩) q
 | .fst e,_,_,_,h,q=>by unfold wX at *;exact jA e h q
 | .or a b,_,_,_,h,q=>by unfold wX at *;exact q.imp (jA a h) (jA b h)
theorem cF:∀(c:Cq) {ρ:En}{nx nx':En->Prop}{E E':XI->En->Prop},(∀ρ,nx ρ->nx' ρ)->(∀n ρ,E n ρ->E' n ρ)->wR FT GT FX c ρ nx E->wR FT GT FX c ρ nx' E'
 | .nil,_,_,_,_,_,h,_,q=>h _ q
 | .no,_,_,_,_,_,_,_,q=>q.elim
 | .rs k l,_,_,_,_,_,_,g,q=>bQ l (λ ts ⟨a,b⟩=>⟨a,g _ _ b⟩) q
 | .rf k a b,_,_,_,_,_,_,g,q=>ao a (λ t ⟨x,e,o,q⟩=>⟨x,e,o,ao b (λ u ⟨y,e',o',q⟩=>⟨y,e',o',g _ _ q⟩) q⟩) q
 | .rb l,_,_,_,_,_,_,g,q=>bQ l (λ ts ⟨t,a,w,e,b⟩=>⟨t,a,w,e,g _ _ b⟩) q
 | .ret e,_,_,_,_,_,_,g,q=>jA e (λ n p=>g n _ p) q
 | .ex e c r,_,_,_,_,_,h,g,q=>q.imp (jA e λ n p=>g n _ p) (ao c λ t q=>cF r h g q)
 | .set i c r,_,_,_,_,_,h,g,q=>ao c (λ t q=>⟨q.1,cF r h g q.2⟩) q
 | .ite c a b r,_,_,_,_,_,h,g,q=>ao c (λ t q=>bT (λ k q=>by
   split at q
   ·rw[if_pos (by assumption)];exact cF a (λ ρ q=>cF r h g q) g q
   ·rw[if_neg (by assumption)];exact cF b (λ ρ q=>cF r h g q) g q) q) q
 | .doc r,_,_,_,_,_,h,g,q=>by unfold wR at *;exact cF r h g q
end
noncomputable def kL(x y:V):List (Str × V):=[(Str.ofString "at",x),(Str.ofString "why",y)]
noncomputable def xE(CA:Nat->Addr)(CB:Addr):XI->Hp->XK->Prop
 | .c k,H,E=>E (.ref (CA k)) none H
 | .b a w,H,E=>∀dx,H dx=some (cQ dx (kL (.int a) (.str w)))->E (.ref CB) (some dx) H
noncomputable def xSp(K:FG)(J:Hp->Prop)(CA:Nat->Addr)(CB:Addr)(S:XSp):Sp:=λ vs H _ E=>∃F ts P,Wd J F H/\RpL K F H ts vs/\S ts P/\∀n,P n->∀F' H',Grow J F H F' H'->xE CA CB n H' E
noncomputable abbrev EXB:LV:=[.type "ValueError",.type "Exception",.type "BaseException",.type "object"]
noncomputable def wf(K:FG):Sp:=λ vs H Q _=>∃(a C:Addr) (tx:Str) (x y:V),vs=[.ref a,.str tx,x,y]/\H a=some (aP a C none)/\im K C EXB "ValueError.__new__"=true/\AtX K C/\NoAttr K C (Str.ofString "at")/\NoAttr K C (Str.ofString "why") /\
 ∀dx H',H dx=none->dx≠a->H' a=some (aP a C (some dx))->H' dx=some (cQ dx (kL x y))->(∀b,b≠a->b≠dx->H' b=H b)->Q .non H'
structure BdOk (P:Program)(w:World)(K:FG)(mg:SV)(base:Heap)(CB:Addr):Prop where
 hm:mg "BadStep"=some (.ref CB)
 at_:AtX K CB
 n1:NoAttr K CB (Str.ofString "at")
 n2:NoAttr K CB (Str.ofString "why")
 mx:∃(f:Addr) (fd:FuncData),MkX K CB f EXB "ValueError.__new__" /\ FnOk P w K mg base CX0 7 f fd ["self","text","at","why"] (wf K)/\Binds K fd ["self","text","at","why"] []
structure ZOk (CX:CXT)(X:Cx)(J:Hp->Prop)(FX:List XSp)(fs cs:List Str)(CA:Nat->Addr)(CB:Addr)(EE:St->XK)(tp tb:Bool):Prop where
 fx:∀(f:Nat) x S,fs[f]?=some x->FX[f]?=some S->∃k ps,Room k X.A/\Callee X.prog X.w X.K X.mg X.base CX k x ps (xSp X.K J CA CB S)
 pa:∀σ,gY CX X (EE σ) σ
 cl:∀(k:Nat) x,cs[k]?=some x->W.nsIn X.K mainGlobals x=some (some (.ref (CA k)))/\W.excIn X.K (CA k) EXB "ValueError.__new__"=true
 ra:tp=true->∃Ex:Value->Hp->Prop,oX X Ex/\∀σ c H,EE σ c none H->Ex c H
 rb:tb=true->BdOk X.prog X.w X.K X.mg X.base CB/\Room 8 X.A/\∃Ex:XK,qi X Ex/\∀σ c d H,EE σ c d H->Ex c d H
 ln:fs.length=FX.length
theorem wg:PA X es λ _ _ _=>False:=λ _ _ _ _ _ _ _ h=>h.elim
section
variable {X:Cx}{J:Hp->Prop}{FT:List PSp}{GT:List TV}{FX:List XSp}{fs gs cs:List Str}{N:List Str}{nm:List (Str × NameKind)}{F0:Fz}{H0:Hp}{PN:List (TV × V)}{CX:CXT}{CA:Nat->Addr}{CB:Addr}{EE:St->XK}{tp tb:Bool}
noncomputable def rX(K:FG)(J:Hp->Prop)(FT:List PSp)(GT:List TV)(FX:List XSp)(CA:Nat->Addr)(CB:Addr)(EE:St->XK)(c:Cw):TE:=λ σ H _=>∃F ρ,EV K J F H σ ρ/\wX FT GT FX c ρ λ n=>∀F' H',Grow J F H F' H'->xE CA CB n H' (EE σ)
theorem sX(xo:XOk X J FT GT fs gs)(xs:XS X N nm)(z:ZOk CX X J FX fs cs CA CB EE tp tb):∀(c:Cw) {e:Expr},ckX fs gs N nm c e=true->PE X e (rX X.K J FT GT FX CA CB EE c)
 | .no,e,_=>λ _ _ _ _ _ _ ⟨_,_,_,w⟩=>w.elim
 | .or a b,e,h=>by
  replace h:=an h;intro pins s σ H Q I ⟨F,ρ,ev,w⟩;unfold wX at w
  rcases w with w | w
  ·exact sX xo xs z a h.1 pins s σ H Q I ⟨F,ρ,ev,w⟩
  ·exact sX xo xs z b h.2 pins s σ H Q I ⟨F,ρ,ev,w⟩
 | .fst c,e,h=>by
  rcases Bool.or_eq_true_iff.mp h with h | h
  ·refine cD h λ g as w _ k1=>?_;refine aK k1 λ x _ k2=>?_;refine dQ k2 λ a es k3=>?_;obtain⟨h0,h1,h2,h3,h4,h5,h6⟩:=a7 k3;refine bj h0 ?_;obtain⟨f,hf⟩:=vZ (ar h1);obtain⟨S,eS⟩:∃S,FT[f]?=some S:=iq (by rw[← xo.len];exact(bD.mp hf).1);obtain⟨k,ps,hr,cc⟩:=xo.fns f _ S hf eS;exact(ux cc hr (glX xs h2) um (bI (sX xo xs z c h6) wg (bJ h4)) (cZ h3).1 (bJ h4) (fg h5)).imp λ σ H Q ⟨F,ρ,ev,w⟩=>⟨F,ρ,ev,by unfold wX at w;exact w⟩
  ·refine gE h λ es _ _ k1=>?_;refine dQ k1 λ a es k2=>?_;exact(jR (bI (sX xo xs z c (an k2).2) wg (bJ (an k2).1))).imp λ σ H Q ⟨F,ρ,ev,w⟩=>⟨F,ρ,ev,by unfold wX at w;exact w⟩
 | .call f l,e,h=>by
  ·refine cD h λ g as w _ k1=>?_;refine aK k1 λ x _ k2=>?_;refine dQ k2 λ a es k3=>?_;obtain⟨h0,h1,h2,h3,h4⟩:=a5 k3;refine bj h0 ?_;have hf:=ar h1;obtain⟨S,eS⟩:∃S,FX[f]?=some S:=iq (by rw[← z.ln];exact(bD.mp hf).1);obtain⟨k,ps,hr,cc⟩:=z.fx f _ S hf eS;have st:=iB h4;rw[cw,aX] at st;refine(Ck cc hr (glX xs h2) z.pa (sL l xo xs h4) (cZ h3).1 (bJ st.1) (fg st.2)).imp λ σ H Q ⟨F,ρ,ev,w⟩=>⟨F,ρ,ev,bQ l (λ ts w F1 H1 vs g1 r1=>?_) w⟩;obtain⟨P,⟨S',e',sp⟩,w⟩:=w;rw[eS] at e';cases e';rw[fZ]
   cases n:ts.all TV.nb with
   | true =>
    obtain⟨F2,g2,_,r2⟩:=gG g1 r1 n;exact⟨F2,_,P,g2.w,r2,sp,λ n pn F' H' g'=>w n pn F' H' (g2.trans g')⟩
   | false =>
    obtain⟨F2,w2,r2⟩:=vN g1.w r1;refine⟨F2,_,P,w2,r2,sp,λ n pn F' H' g'=>?_⟩;have gg:Grow J F1 H1 F1 H':=⟨g'.sm,g'.dm,λ _ h=>h,λ _ h=>.inl h,g'.w.j,λ b f=>g'.dm b (g1.w.d b f)⟩;exact w n pn F1 H' (g1.trans gg)
noncomputable def xR(K:FG)(J:Hp->Prop)(F0:Fz)(H0:Hp)(PN:List (TV × V))(CA:Nat->Addr)(CB:Addr)(EE:St->XK)(m:Nat)(n:XI)(ρ:En):Prop:=∀F' H' σ',ER K J F0 H0 PN F' H' σ' ρ->σ'.length=m->xE CA CB n H' (EE σ')
noncomputable def rR(K:FG)(J:Hp->Prop)(FT:List PSp)(GT:List TV)(FX:List XSp)(CA:Nat->Addr)(CB:Addr)(EE:St->XK)(m:Nat)(F0:Fz)(H0:Hp)(PN:List (TV × V))(c:Cq):TS:=λ D σ H=>∃F ρ,ER K J F0 H0 PN F H σ ρ/\σ.length=m/\wR FT GT FX c ρ (nxR K J F0 H0 PN m D.nx) (xR K J F0 H0 PN CA CB EE m)
theorem wj(e:ER X.K J F0 H0 PN F H σ ρ)(s:σ.length=N.length)(w:wX FT GT FX c ρ λ n=>xR X.K J F0 H0 PN CA CB EE N.length n ρ):rX X.K J FT GT FX CA CB EE c σ H Q:=⟨F,ρ,e.ev,jA c (λ n q F' H' g=>q F' H' σ (e.grow g) s) w⟩
theorem sR:∀(c:Cq) {lp:Bool}{sts:List Stmt},YOk X J FT GT fs gs N nm lp->ZOk CX X J FX fs cs CA CB EE tp tb->ckR fs gs cs tb N nm tp c sts=true->PSs X sts (rR X.K J FT GT FX CA CB EE N.length F0 H0 PN c)
 | .nil,lp,sts,y,z,h=>by
  refine bj h ?_;exact pss_nil.imp λ D σ H ⟨F,ρ,e,s,w⟩=>w F H σ e s
 | .no,lp,sts,y,z,h=>pss_never.imp λ D σ H ⟨F,ρ,e,s,w⟩=>w.elim
 | .rs k l,lp,sts,y,z,h=>by
  ·refine qL h λ o c _ rest k0=>?_;refine eJ k0 λ e k1=>?_;refine cD k1 λ g as w _ k2=>?_;refine aK k2 λ x _ k3=>?_;refine dQ k3 λ a es k4=>?_;obtain⟨z0,z1,h0,h1,h2,h3,h4⟩:=a7 k4;refine bj z0 ?_;cases iC.mp z1;obtain⟨hn,hq⟩:=z.cl k _ (ar h1);obtain⟨Ex,ra,up⟩:=z.ra h0;have st:=iB h4;rw[cw,aX] at st;refine(bS (uv mM y.xo.calm (glX y.xs h2) hn hq ra (sL l y.xo y.xs h4) (bJ st.1) (fg st.2) (cZ h3).1) pss_never).imp λ D σ H ⟨F,ρ,e,s,w⟩=>?_;exact⟨F,ρ,e.ev,bQ l (λ ts ⟨a,b⟩ F1 H1 vs g r=>⟨by rw[← Paired.length r];exact a,up σ _ _ (b F1 H1 σ (e.grow g) s)⟩) w⟩
 | .rf k a b,lp,sts,y,z,h=>by
  ·refine qL h λ o c _ rest k0=>?_;refine eJ k0 λ e k1=>?_;refine cD k1 λ g as w _ k2=>?_;refine aK k2 λ x _ k3=>?_;refine cE k3 λ j k4=>?_;refine Hb k4 λ l p k5=>?_;refine dQ k5 λ u r k6=>?_;refine cE k6 λ v k7=>?_;refine Hc k7 λ v p2 k8=>?_;obtain⟨z0,z1,h0,h1,h2,h3,h4,h5⟩:=a8 k8;refine bj z0 ?_;cases iC.mp z1;obtain⟨hn,hq⟩:=z.cl k _ (ar h1);obtain⟨Ex,ra,up⟩:=z.ra h0;refine(bS (uv mM y.xo.calm (glX y.xs h2) hn hq ra (bI (DF (sE a y.xo y.xs h4) (sE b y.xo y.xs h5)) pa_nil) rfl rfl (cZ h3).1) pss_never).imp λ D σ H ⟨F,ρ,e,s,w⟩=>?_
   exact⟨F,ρ,e.ev,ao a (λ t ⟨x,et,ox,w⟩ F1 H1 v g r=>by
    subst et;cases r
    exact⟨x,rfl,ox,F1,ρ,(e.grow g).ev,ao b (λ u ⟨y,eu,oy,w⟩ F2 H2 v2 g2 r2=>by
     subst eu;cases r2
     exact⟨y,rfl,oy,λ z=>⟨small (by simp),up σ _ _ (w F2 H2 σ ((e.grow g).grow g2) s)⟩⟩) w⟩) w⟩
 | .rb l,lp,sts,y,z,h=>by
  ·refine qL h λ o c _ rest k0=>?_;refine eJ k0 λ e k1=>?_;refine cD k1 λ g as w _ k2=>?_;refine aK k2 λ x _ k3=>?_;refine dQ k3 λ a es k4=>?_;obtain⟨z0,z1,h0,z2,h2,h4⟩:=a6 k4;refine bj z0 ?_;cases iC.mp z1;cases ar z2;obtain⟨B,hr,Ex,ra,up⟩:=z.rb h0;obtain⟨fi,fdi,M,Fi,bi⟩:=B.mx;have st:=iB h4;rw[cw,aX] at st;refine(bS (EC mM y.xo.calm (glX y.xs h2) B.hm M Fi hr bi ra (sL l y.xo y.xs h4) (by decide) (bJ st.1) (fg st.2)) pss_never).imp λ D σ H ⟨F,ρ,e,s,w⟩=>?_;refine⟨F,ρ,e.ev,bQ l (λ ts ⟨t,a,wd,et,b⟩ F1 H1 vs g r=>?_) w⟩;subst et
   cases r with | cons r1 r=>cases r with | cons r2 r=>cases r with | cons r3 r=>cases r with | nil =>
   cases r1;cases r2;cases r3;refine⟨small (by simp),λ p hp=>⟨p,CB,t,.int a,.str wd,rfl,bz,M.cls,B.at_,B.n1,B.n2,λ dx H' hd ne e1 e2 e3=>⟨rfl,dx,e1,?_⟩⟩⟩;rw[ay ne] at hd
   have kp:∀c o,H1 c=some o->rm H' p c=some o:=λ c o q=>by
    have na:c≠p:=λ z=>by rw[z,hp] at q;cases q
    have nd:c≠dx:=λ z=>by rw[z,hd] at q;cases q
    rw[gq na,e3 c na nd,ay na];exact q
   have dm:∀c,H1 c≠none->rm H' p c≠none:=λ c n q=>by
    cases z:H1 c with
    | none=>exact n z
    | some o=>rw[kp c o z] at q;cases q
   have gg:Grow J F1 H1 F1 (rm H' p):=⟨λ c o _ q=>kp c o q,dm,λ _ f=>f,λ _ f=>.inl f,?_,λ c f=>dm c (g.w.d c f)⟩
   ·exact up σ _ _ _ (b F1 _ σ (e.grow (g.trans gg)) s dx (by rw[gq ne];exact e2))
   ·have j1:=y.xo.hJ.nw H1 dx (cQ dx (kL (.int a) (.str wd))) hd g.w.j
    have eq:rm H' p=upd H1 dx (cQ dx (kL (.int a) (.str wd))):=by
     funext c;by_cases c1:c=p
     ·subst c1;rw[uZ,ay (bo ne),hp]
     ·rw[gq c1];by_cases c2:c=dx
      ·subst c2;rw[bz,e2]
      ·rw[e3 c c1 c2,ay c1,ay c2]
    rw[eq];exact j1
 | .ret c,lp,sts,y,z,h=>by
  ·refine mH h λ o _ _ k0=>?_;refine eJ k0 λ e k1=>?_;exact(bS (nR (sX y.xo y.xs z c k1)) pss_never).imp λ D σ H ⟨F,ρ,e,s,w⟩=>wj (N:=N) (Q:=λ _ _=>True) e s w
 | .ex d c r,lp,sts,y,z,h=>by
  ·refine kF h λ e _ rest k1=>?_;obtain⟨h1,h2,h3,h4⟩:=a4 k1;intro pins st σ H D I ⟨F,ρ,e,s,w⟩;unfold wR at w
   rcases w with w | w
   ·exact bS (jJ (sX y.xo y.xs z d h2) (kH h1)) pss_never pins st σ H D I (wj (N:=N) (Q:=λ _ _=>True) e s w)
   ·exact bS (jJ (sE c y.xo y.xs h3) (kH h1)) (sR r y z h4) pins st σ H D I ⟨F,ρ,e.ev,ao c (λ t w F1 H1 v g rr=>⟨F1,ρ,e.grow g,s,w⟩) w⟩
 | .set i c r,lp,sts,y,z,h=>by
  ·refine iD h λ ts e _ rest k1=>?_;refine cE k1 λ t k2=>?_;refine aK k2 λ x _ k3=>?_;obtain⟨h1,h2,h3⟩:=_L.a3 k3;obtain⟨a1,a2,a3,a4⟩:=kG y.xs y.fn h1;refine(bS (vV y.xo y.xs (by rw[y.xs.N];exact y.nd) a1 a2 a3 h2) (sR r y z h3)).imp λ D σ H ⟨F,ρ,e,s,w⟩=>?_;obtain⟨F',e',_⟩:=e.fzC c;exact⟨F',_,e'.ev,ao c (λ t ⟨nb,w⟩ F1 H1 v g r=>⟨F1,_,e'.rr g r nb (by lia),by rw[fJ];exact s,w⟩) w⟩
 | .ite c a b r,lp,sts,y,z,h=>by
  ·refine vU h λ t x yy _ rest k1=>?_;obtain⟨h1,h2,h3,h4,h5⟩:=a5 k1;refine(bS (sQ (sT c y.xo y.xs h1 h2) (sR a y z h3) (sR b y z h4)) (sR r y z h5)).imp λ D σ H ⟨F,ρ,e,s,w⟩=>?_;refine⟨F,ρ,e.ev,ao c (λ t w=>bT (λ k w F1 H1 g=>?_) w) w⟩;split at w
   ·rw[if_pos (by assumption)];exact⟨F1,ρ,e.grow g,s,cF a (λ ρ' w F' H' σ' e s=>⟨F',ρ',e,s,w⟩) (λ _ _ h=>h) w⟩
   ·rw[if_neg (by assumption)];exact⟨F1,ρ,e.grow g,s,cF b (λ ρ' w F' H' σ' e s=>⟨F',ρ',e,s,w⟩) (λ _ _ h=>h) w⟩
 | .doc r,lp,sts,y,z,h=>by
  refine kF h λ e _ rest k1=>?_;refine fP k1 λ k _ _ k2=>?_;obtain⟨h1,h2⟩:=an k2;cases k<;>try exact Bool.noConfusion h1
  exact(bS sP (sR r y z h2)).imp λ D σ H ⟨F,ρ,e,s,w⟩=>⟨F,ρ,e,s,by unfold wR at w;exact w⟩
end
section
variable {P:Program}{w:World}{K:FG}{mg:SV}{base:Heap}{J:Hp->Prop}{FT:List PSp}{GT:List TV}{FX:List XSp}{fs gs cs:List Str}{CA:Nat->Addr}{CB:Addr}
theorem qM{N:List Str}{vs:List V}(h:vs.length≤N.length):(cI N vs).length=N.length:=by
 unfold cI;rw[aC,aj,dH];lia
theorem He{st:Stmt}(code:Cq)(F:Fun K x qual st f fd)(sc:FnScope N ps (aD st))(m:MOk P w K mg J GT gs)(hl:fs.length=FT.length)(hl2:fs.length=FX.length)
  (fns:∀(f:Nat) x S,fs[f]?=some x->FT[f]?=some S->∃ps,Callee P w K mg base CX0 k x ps (pSp K J S)) (fx:∀(f:Nat) x S,fs[f]?=some x->FX[f]?=some S->∃ps,Callee P w K mg base (CX1 P w) k x ps (xSp K J CA CB S))
  (cl:∀(k:Nat) x,cs[k]?=some x->W.nsIn K mainGlobals x=some (some (.ref (CA k)))/\W.excIn K (CA k) EXB "ValueError.__new__"=true)
  (hck:ckR fs gs cs false N (aD st).names true code (bu st)=true) (hlen:∀ts E,S ts E->ts.length=ps.length)
  (hw:∀ts E,S ts E->wR FT GT FX code (en0 N.length ts) (λ _=>False) (λ n _=>E n)):FnOk P w K mg base (CX1 P w) (k+1) f fd ps (xSp K J CA CB S):=by
 refine F.okX sc (λ vs H Q E ⟨F1,ts,P1,wd,r,s,_⟩=>by rw[← r.length];exact hlen _ _ s) (λ cdv A outer s H vs Q E hr h=>?_);obtain⟨F1,ts,P1,wd,r,sp,fin⟩:=h
 have nl:vs.length≤N.length:=by
  have z:=bF List.length sc.pre;rw[aU] at z;have:=hlen _ _ sp;rw[← r.length];lia
 have xo:XOk (bN (CX1 P w) P w K mg base N qual (aD st) f cdv A outer s H E) J FT GT fs gs:=⟨rfl,by have:=hr.un;show(A.deeper _).units+20 < cLine;lia,m.hJ,λ g y S h1 h2=>let ⟨ps,c⟩:=fns g y S h1 h2;⟨k,ps,hr,c⟩,m.glb,m.dic,m.blt,hl⟩;have zo:ZOk (CX1 P w) (bN (CX1 P w) P w K mg base N qual (aD st) f cdv A outer s H E) J FX fs cs CA CB (λ _=>E) true false:=⟨λ g y S h1 h2=>let ⟨ps,c⟩:=fx g y S h1 h2;⟨k,ps,hr,c⟩,λ σ pins H s e s' I h=>Cf pins σ H s e s' I h,cl,λ _=>⟨_,Cg,λ _ _ _ h=>h⟩,(λ z=>by cases z),hl2⟩;exact⟨_,sR (F0:=F1) (H0:=H) (PN:=[]) code (lp:=false) ⟨xo,⟨rfl,rfl⟩,sc.nd,λ _ _=>rfl,λ z=>by cases z⟩ zo hck,F1,en0 N.length ts,er0 wd r,qM nl,cF code (λ ρ' q=>q.elim) (λ n ρ' q F' H' σ' e _=>fin n q F' H' e.gr) (hw ts P1 sp)⟩
theorem Hf{st:Stmt}(code:Cq)(F:Fun K x qual st f fd)(sc:FnScope N ps (aD st))(m:MOk P w K mg J GT gs)(hl:fs.length=FT.length)(hl2:fs.length=FX.length)
  (fns:∀(f:Nat) x S,fs[f]?=some x->FT[f]?=some S->∃ps,Callee P w K mg base CX0 k x ps (pSp K J S)) (fx:∀(f:Nat) x S,fs[f]?=some x->FX[f]?=some S->∃ps,Callee P w K mg base (CX2 P w) k x ps (xSp K J CA CB S))
  (cl:∀(k:Nat) x,cs[k]?=some x->W.nsIn K mainGlobals x=some (some (.ref (CA k)))/\W.excIn K (CA k) EXB "ValueError.__new__"=true) (bd:BdOk P w K mg base CB) (k8:8≤k)
  (hck:ckR fs gs cs true N (aD st).names false code (bu st)=true) (hlen:∀ts E,S ts E->ts.length=ps.length)
  (hw:∀ts E,S ts E->wR FT GT FX code (en0 N.length ts) (λ _=>False) (λ n _=>E n)):FnOk P w K mg base (CX2 P w) (k+1) f fd ps (xSp K J CA CB S):=by
 refine F.okX2 sc (λ vs H Q E ⟨F1,ts,P1,wd,r,s,_⟩=>by rw[← r.length];exact hlen _ _ s) (λ cdv A outer s H vs Q E hr h=>?_);obtain⟨F1,ts,P1,wd,r,sp,fin⟩:=h
 have nl:vs.length≤N.length:=by
  have z:=bF List.length sc.pre;rw[aU] at z;have:=hlen _ _ sp;rw[← r.length];lia
 have xo:XOk (bN (CX2 P w) P w K mg base N qual (aD st) f cdv A outer s H E) J FT GT fs gs:=⟨rfl,by have:=hr.un;show(A.deeper _).units+20 < cLine;lia,m.hJ,λ g y S h1 h2=>let ⟨ps,c⟩:=fns g y S h1 h2;⟨k,ps,hr,c⟩,m.glb,m.dic,m.blt,hl⟩;have zo:ZOk (CX2 P w) (bN (CX2 P w) P w K mg base N qual (aD st) f cdv A outer s H E) J FX fs cs CA CB (λ _=>E) false true:=⟨λ g y S h1 h2=>let ⟨ps,c⟩:=fx g y S h1 h2;⟨k,ps,hr,c⟩,λ σ pins H s e s' I h=>Ey pins σ H s e s' I h,cl,(λ z=>by cases z),λ _=>⟨bd,hr.mono k8,_,Ez,λ _ _ _ _ h=>h⟩,hl2⟩;exact⟨_,sR (F0:=F1) (H0:=H) (PN:=[]) code (lp:=false) ⟨xo,⟨rfl,rfl⟩,sc.nd,λ _ _=>rfl,λ z=>by cases z⟩ zo hck,F1,en0 N.length ts,er0 wd r,qM nl,cF code (λ ρ' q=>q.elim) (λ n ρ' q F' H' σ' e _=>fin n q F' H' e.gr) (hw ts P1 sp)⟩
theorem FnOk.upx(F:FnOk P w K mg base CX0 k f fd ps (pSp K J S)):FnOk P w K mg base CX k f fd ps (xSp K J CA CB λ _ _=>False) :=
 ⟨λ vs H Q E ⟨_,_,_,_,_,s,_⟩=>s.elim,λ A outer s H args us vs Q E h1 h2 h3 h4 ⟨_,_,_,_,_,s,_⟩=>s.elim⟩
end
end _L
namespace _L
open PySem PySem.Spec PyProof.Rows PySem.W PySem.Calls
inductive Cs where
 | set (i:Nat) (t:TV) | ret (t u:TV)
noncomputable def fv:TV->V
 | .bl b=>.bl b | .int i=>.int i | .str x=>.str x | _=>.non
noncomputable def tsS:Cs->TS
 | .set i t=>λ D σ H=>D.nx (σ.set i (some (fv t))) H
 | .ret t u=>λ D _ H=>∀p,H p=none->D.rt (.ref p) (upd H p (.tup [fv t,fv u]))
noncomputable def wU:Cs->En->(En->Prop)->(TV->Prop)->Prop
 | .set i t,ρ,nx,_=>nx (ρ.set i (some t))
 | .ret t u,_,_,rt=>rt (.tup [t,u])
noncomputable def wH(m:Nat)(isC:Nat->Nat->Bool):List (Nat × Cs)->Nat->En->(En->Prop)->(TV->Prop)->Prop
 | [],_,_,_,_=>False
 | (c,s)::r,k,ρ,nx,rt=>(c≤k/\k < m)/\if isC k c=true then wU s ρ nx rt else wH m isC r k ρ nx rt
noncomputable def ckU(N:List Str)(nm:List (Str × NameKind)):Cs->List Stmt->Bool
 | .set i t,sts=>qAs sts λ ts e _ rest=>c1 ts λ n=>aO n λ x _=>iw e λ k _ _=>rest.isEmpty && lcl N nm i x && ckC t k
 | .ret t u,sts=>qRe sts λ e _ rest=>oS e λ e=>gD e λ es _ _=>c2 es λ a b=>iw a λ k _ _=>iw b λ k' _ _=>rest.isEmpty && ckC t k && ckC u k'
noncomputable def eH(h:ExceptHandler)(k:Option Expr->Option Str->List Stmt->Pos->Bool):Bool:=match h with | .ExceptHandler a b c d=>k a b c d
@[elab_as_elim] theorem mO{motive:ExceptHandler->Prop}{h:ExceptHandler}{k:Option Expr->Option Str->List Stmt->Pos->Bool}(q:eH h k=true)(f:∀a b c d,k a b c d=true->motive (.ExceptHandler a b c d)):motive h:=by cases h;exact f _ _ _ _ q
noncomputable def ckH(cs N:List Str)(nm:List (Str × NameKind)):List (Nat × Cs)->List ExceptHandler->Bool
 | [],hs=>hs.isEmpty
 | (c,s)::r,hs=>cC hs λ h hr=>eH h λ t n b _=>oS t λ t=>aO t λ x _=>n.isNone && decide (cs[c]?=some x) && gl nm x && okN x && ckU N nm s b && ckH cs N nm r hr
section
variable {X:Cx}{J:Hp->Prop}{FT:List PSp}{GT:List TV}{FX:List XSp}{fs gs cs:List Str}{N:List Str}{nm:List (Str × NameKind)}{F0:Fz}{H0:Hp}{CA:Nat->Addr}{CB:Addr}{K:FG}
theorem qN(h:ckC t k=true):PE X (.Constant k j pos) (tC (fv t)):=by
 cases t<;>cases k<;>try exact Bool.noConfusion h
 ·exact pe_non
 ·cases (ar h);exact pe_bl
 ·cases (ar h);exact pe_int
 ·cases (ar h);exact pe_str
theorem qO(h:ckC t k=true):Rp K F H t (fv t):=by
 cases t<;>cases k<;>first | exact Bool.noConfusion h | rfl
theorem wl(xs:XS X N nm)(nd:X.N.Nodup)(fn:∀x,X.env.scope.names.lookup x=some .cell->X.fn x=true):∀ {s:Cs}{sts:List Stmt},ckU N nm s sts=true->PSs X sts (tsS s)
 | .set i t,sts,h=>by
  refine iD h λ ts e _ rest k1=>?_;refine cE k1 λ n k2=>?_;refine aK k2 λ x _ k3=>?_;refine fP k3 λ k _ _ k4=>?_;obtain⟨h0,h1,h2⟩:=_L.a3 k4;refine bj h0 ?_;obtain⟨a1,a2,a3,a4⟩:=kG xs fn h1;exact lh (nW nd a1 a2 (qN h2) (by rfl) a3)
 | .ret t u,sts,h=>by
  refine mH h λ o _ rest k1=>?_;refine eJ k1 λ e k2=>?_;refine gE k2 λ es _ _ k3=>?_;refine gF k3 λ a b k4=>?_;refine fP k4 λ k _ _ k5=>?_;refine fP k5 λ k' _ _ k6=>?_;obtain⟨h0,h1,h2⟩:=_L.a3 k6;refine bj h0 ?_
  exact lh (nR (jR (bI (qN h1) (bI (qN h2) pa_nil)))) |>.imp λ D σ H q=>⟨small (by simp),q⟩
abbrev Wn:=En->(En->Prop)->(TV->Prop)->Prop
noncomputable def rN(K:PySem.W.Frag)(J:Hp->Prop)(n:Nat)(F0:Fz)(H0:Hp)(W:Wn):TS:=λ D σ H=>∃F ρ,ER K J F0 H0 [] F H σ ρ/\σ.length=n/\W ρ (nxR K J F0 H0 [] n D.nx) (rtR K J F0 H0 D.rt)
noncomputable def qP(FT:List PSp)(GT:List TV)(FX:List XSp)(m:Nat)(isC:Nat->Nat->Bool)(b:Ct)(bx:Cq)(hs:List (Nat × Cs)):Wn:=λ ρ nx rt=>wS FT GT b ρ nx rt\/wR FT GT FX bx ρ nx λ n ρ'=>∃k,n=.c k/\wH m isC hs k ρ' nx rt
theorem wo{D:Ends}(hJ:JS J)(xs:XS X N nm)(fn:∀x,X.env.scope.names.lookup x=some .cell->X.fn x=true)(h:ckU N nm s sts=true)(e:ER K J F0 H0 [] F H σ ρ)(l:σ.length=N.length)(w:wU s ρ (nxR K J F0 H0 [] N.length D.nx) (rtR K J F0 H0 D.rt)):tsS s D σ H:=by
 cases s with
 | set i t =>
  refine iD h λ ts e' _ rest k1=>?_;refine cE k1 λ n k2=>?_;refine aK k2 λ x _ k3=>?_;refine fP k3 λ k _ _ k4=>?_;obtain⟨h0,h1,h2⟩:=_L.a3 k4;refine bj h0 ?_;obtain⟨a1,a2,a3,a4⟩:=kG xs fn h1;exact w F H _ (e.set (qO h2) (by lia)) (by rw[fJ];exact l)
 | ret t u =>
  refine mH h λ o _ rest k1=>?_;refine eJ k1 λ e' k2=>?_;refine gE k2 λ es _ _ k3=>?_;refine gF k3 λ a b k4=>?_;refine fP k4 λ k _ _ k5=>?_;refine fP k5 λ k' _ _ k6=>?_;obtain⟨h0,h1,h2⟩:=_L.a3 k6;intro p hp;have g:=Grow.new hJ e.ev.w (.tup [fv t,fv u]) hp;exact w F _ _ (e.gr.trans g) ⟨p,_,rfl,.of bz,_,_,rfl,qO h1,_,_,rfl,qO h2,rfl⟩
theorem wp(xs:XS X N nm)(nd:N.Nodup)(fn:∀x,X.env.scope.names.lookup x=some .cell->X.fn x=true)(cl:∀(k:Nat) x,cs[k]?=some x->W.nsIn X.K mainGlobals x=some (some (.ref (CA k)))):∀ {hs:List (Nat × Cs)}{hl:List ExceptHandler},ckH cs N nm hs hl=true->Clauses X hl (hs.map λ p=>(CA p.1,tsS p.2))
 | [],hl,h=>by
  refine bj h ?_;exact .nil
 | (c,s)::r,hl,h=>by
  ·refine dQ h λ h hr k1=>?_;refine mO k1 λ t n b _ k2=>?_;refine eJ k2 λ t k3=>?_;refine aK k3 λ x _ k4=>?_;obtain⟨h0,h1,h2,h3,h4,h5⟩:=a6 k4;cases iC.mp h0
   have hne:∃b₀ r,b=b₀::r:=by
    cases b with
    | nil=>cases s<;>exact Bool.noConfusion h4
    | cons x r=>exact⟨x,r,rfl⟩
   obtain⟨b₀,rr,rfl⟩:=hne;exact .cons (glX xs h2) (cl c _ (ar h1)) (λ a pn=>wl (X:=X.suite a pn) ⟨xs.N,xs.nm⟩ (by show X.N.Nodup;rw[xs.N];exact nd) fn h4) (wp xs nd fn cl h5) (cZ h3).1
theorem wq{m:Nat}{isC:Nat->Nat->Bool}(hJ:JS J)(xs:XS X N nm)(fn:∀x,X.env.scope.names.lookup x=some .cell->X.fn x=true)(ex:∀k c,c≤k->k < m->W.exmOne X.K (.ref (CA k)) (.ref (CA c))=some (isC k c)){D:Ends}(e:ER X.K J F0 H0 [] F H σ ρ)(l:σ.length=N.length) :
  ∀ {hs:List (Nat × Cs)}{hl:List ExceptHandler},ckH cs N nm hs hl=true->wH m isC hs k ρ (nxR X.K J F0 H0 [] N.length D.nx) (rtR X.K J F0 H0 D.rt)->kn X.K (hs.map λ p=>(CA p.1,tsS p.2)) (.ref (CA k)) λ ts=>ts D σ H
 | [],_,_,w=>w.elim
 | (c,s)::r,hl,h,⟨⟨k1,k2⟩,w⟩=>by
  ·refine dQ h λ h hr q1=>?_;refine mO q1 λ t n b _ q2=>?_;refine eJ q2 λ t q3=>?_;refine aK q3 λ x _ q4=>?_;obtain⟨h0,h1,h2,h3,h4,h5⟩:=a6 q4;have z:=ex k c k1 k2;split at w
   ·rename_i c1;rw[c1] at z;exact .inl ⟨z,wo hJ xs fn h4 e l w⟩
   ·rename_i c1;rw[Bool.not_eq_true] at c1;rw[c1] at z;exact .inr ⟨z,wq hJ xs fn ex e l h5 w⟩
structure TOk (X:Cx)(J:Hp->Prop)(FX:List XSp)(fs cs:List Str)(CA:Nat->Addr)(CB:Addr)(CX:CXT):Prop where
 fx:∀(f:Nat) x S,fs[f]?=some x->FX[f]?=some S->∃k ps,Room k X.A/\Callee X.prog X.w X.K X.mg X.base CX k x ps (xSp X.K J CA CB S)
 cl:∀(k:Nat) x,cs[k]?=some x->W.nsIn X.K mainGlobals x=some (some (.ref (CA k)))/\W.excIn X.K (CA k) EXB "ValueError.__new__"=true
 ln:fs.length=FX.length
 sk:X.stack=X.env::X.outer/\X.env.frame=some X.env.locals
 xx:X.ex=[]
noncomputable def wt(fs gs cs N:List Str)(nm:List (Str × NameKind))(b:Ct)(bx:Cq)(hs:List (Nat × Cs))(st:Stmt):Bool:=qTr [st] λ body hl els fi _ _=>els.isEmpty && fi.isEmpty && !hl.isEmpty && bp fs gs N nm false b body && ckR fs gs cs false N nm false bx body && ckH cs N nm hs hl
theorem YOk.more(y:YOk X J FT GT fs gs N nm lp)(xe:VS)(pn:LO):YOk (X.more xe pn) J FT GT fs gs N nm false:=⟨⟨y.xo.calm,y.xo.units,y.xo.hJ,y.xo.fns,y.xo.glb,y.xo.dic,y.xo.blt,y.xo.len⟩,⟨y.xs.N,y.xs.nm⟩,y.nd,y.fn,λ z=>by cases z⟩
theorem qQ{EE:St->XK}(y:YOk X J FT GT fs gs N nm lp)(t:TOk X J FX fs cs CA CB CX)(h1:bp fs gs N nm false b body=true)(h2:ckR fs gs cs false N nm false bx body=true)(pa:∀σ,gY CX (X.more xe pn) (EE σ) σ) :
  PSs (X.more xe pn) body λ D σ H=>rS X.K J FT GT N.length F0 H0 [] b D σ H\/rR X.K J FT GT FX CA CB EE N.length F0 H0 [] bx D σ H:=by
 intro pins s σ H D I q
 rcases q with q | q
 ·exact sS b (X:=X.more xe pn) (lp:=false) (y.more xe pn) h1 pins s σ H D I q
 ·exact sR bx (X:=X.more xe pn) (lp:=false) (y.more xe pn) ⟨t.fx,pa,t.cl,(λ z=>by cases z),(λ z=>by cases z),t.ln⟩ h2 pins s σ H D I q
theorem Hg{m:Nat}{isC:Nat->Nat->Bool}{st:Stmt}(y:YOk X J FT GT fs gs N nm lp)(t:TOk X J FX fs cs CA CB (CX1 X.prog X.w))(ex:∀k c,c≤k->k < m->W.exmOne X.K (.ref (CA k)) (.ref (CA c))=some (isC k c))(h:wt fs gs cs N nm b bx hs st=true) :
  PS X st (rN X.K J N.length F0 H0 (qP FT GT FX m isC b bx hs)):=by
 ·obtain⟨body,hl,els,fi,_,_,e1,k1⟩:=qI h;cases e1;obtain⟨z0,z1,z2,h1,h2,h3⟩:=a6 k1;refine bj z0 ?_;refine bj z1 ?_
  cases hl with
  | nil=>exact Bool.noConfusion z2
  | cons h0 hl =>
  refine(Do t.sk (λ xe pn EE pa=>qQ (F0:=F0) (H0:=H0) y t h1 h2 pa) (wp y.xs y.nd y.fn (λ k x e=>(t.cl k x e).1) h3)).imp λ D σ H ⟨F,ρ,e,s,w⟩=>?_
  rcases w with w | w
  ·exact .inl ⟨F,ρ,e,s,w⟩
  ·refine .inr ⟨F,ρ,e,s,cF bx (λ _ q=>q) (λ n ρ' ⟨k,en,q⟩ F' H' σ' e' s'=>?_) w⟩;subst en;exact wq (hs:=hs) y.xo.hJ y.xs y.fn ex e' s' h3 q
theorem seg(y:YOk X J FT GT fs gs N nm lp)(h:bp fs gs N nm lp c a=true)(hb:PSs X b (rN X.K J N.length F0 H0 W)):PSs X (a++b) (rN X.K J N.length F0 H0 λ ρ nx rt=>wS FT GT c ρ (λ ρ'=>W ρ' nx rt) rt) :=
 (GZ (sS c (PN:=[]) y h) hb).imp λ D σ H ⟨F,ρ,e,s,w⟩=>⟨F,ρ,e,s,bB c (λ ρ' w F' H' σ' e' s'=>⟨F',ρ',e',s',w⟩) (λ _ q=>q) w⟩
end
end _L
namespace _L
open PySem PySem.Spec PyProof.Rows PySem.W PySem.Calls
theorem Hh{X:Cx}{body suite:List Stmt}{b₀:Stmt}{tb:(St->XK)->TS}(hstk:X.stack=X.env::X.outer/\X.env.frame=some X.env.locals)(hg:Gl X x)(hn:W.nsIn X.K mainGlobals x=some (some (.ref C)))
  (hb:∀(xe:VS) (pn:LO) (EE:St->XK),(∀σ,gY (CX2 X.prog X.w) (X.more xe pn) (EE σ) σ)->PSs (X.more xe pn) body (tb EE))
  (hs:∀(a:Addr) (pn:LO),PSs (X.suite a pn) (b₀::suite) ts) (hd:(x == ("__debug__" : Str))=false) :
  PS X (.Try body [.ExceptHandler (some (.Name x np)) none (b₀::suite) hpos] [] [] pos) (λ D σ H=>tb (λ σ1 c _ H1=>W.exmOne X.K c (.ref C)=some true/\ts D σ1 H1) D σ H):=by
 intro pins s σ H D I h;refine pO ?_;generalize hXE:(λ e s₁=>wpAny (model X.prog X.w) X.A (noteFrame e X.env) (λ _ s₂=>wpAny (model X.prog X.w) X.A (setFlight e none) (λ _ s₃=>wpAny (model X.prog X.w) X.A (handleBy e X.env [.ExceptHandler (some (.Name x np)) none (b₀::suite) hpos]) (SP X pins D) X.xe s₃) X.xe s₂) X.xe s₁:VS)=XE;have toY:∀ {σ':St}{H':Hp}{s':Shared},Inv X pins σ' H' s'->Inv (X.more XE (X.pn++pins)) [] σ' H' s':=λ J=>⟨J.ok.more _ _,J.os,J.bare,J.base,J.loc,J.cell,J.free,J.freeC,λ p hp=>J.pin p (by simpa using hp),J.hok,J.len⟩;have ofY:∀ {σ':St}{H':Hp}{s':Shared}{pp:LO},Inv (X.more XE (X.pn++pins)) pp σ' H' s'->Inv X pins σ' H' s':=λ J=>⟨I.ok,J.os,J.bare,J.base,J.loc,J.cell,J.free,J.freeC,λ p hp=>J.pin p (dW _ hp),J.hok,J.len⟩;have body_ok:=hb XE (X.pn++pins) (λ σ1 c _ H1=>W.exmOne X.K c (.ref C)=some true/\ts D σ1 H1) ?_ [] s σ H D (toY I) h
 ·refine thn body_ok λ fl s' q=>?_
  cases fl with
  | next=>obtain⟨σ',H',J,z⟩:=q;exact iQ ⟨σ',H',ofY J,z⟩
  | brk=>obtain⟨σ',H',J,z⟩:=q;exact⟨σ',H',ofY J,z⟩
  | cont=>obtain⟨σ',H',J,z⟩:=q;exact⟨σ',H',ofY J,z⟩
  | ret u=>obtain⟨v,σ',H',J,r,z⟩:=q;exact⟨v,σ',H',ofY J,r,z⟩
 intro σ1 pins1 H1 s1 e s' I1 hx;obtain⟨a,C',dx,H',B,rfl,os,bare,fl,inB,thB,un,okB,z1,z2⟩:=hx;subst hXE
 have fl:FlyD B (X.env::X.outer) a (.ref C') dx .none s'.heap:=by
  have z:FlyD B X.stack a (.ref C') dx .none s'.heap:=fl;rw[hstk.1] at z;exact z
 have hfr:X.A.frames=some (X.env::X.outer):=by rw[I.ok.frames,hstk.1]
 have at_:∀h2:Heap,FlyD B (X.env::X.outer) a (.ref C') dx .none h2->s'.heap.UpToSlots h2->∀t2:Nat,Inv X pins σ1 H' { s' with heap:=h2,toks:=t2 }:=λ h2 f2 u2 t2=>by
  have J1:Inv X pins σ1 H1 s1:=ofY I1
  have slot:∀b o,s1.heap.get? b=some o->H1 b=none->b∈frs X.stack->∃sl,h2.get? b=some { o with slots:=sl }:=λ b o e nn hb=>by
   obtain⟨sl2,e2⟩:=un.slot b o e nn hb (by simp);obtain⟨_,o3,e3,nf⟩:=J1.stack.mem hb;rw[e] at e3;cases e3;obtain⟨sl3,e4⟩:=u2 b _ e2 nf;exact⟨sl3,e4⟩
  refine J1.call' (s':={ s' with heap:=h2,toks:=t2 }) (ch:=[]) os ⟨λ b o e nn hb _=>f2.1 _ _ (inB b o e nn hb),λ b o e nn hb _=>slot b o e nn hb,un.free,λ b o e _=>?_,un.tups,un.frzs,un.tbls⟩ (okB.kept f2.1) bare (λ b z=>nomatch z);by_cases hb:b∈frs X.stack
  ·obtain⟨sl,q⟩:=slot b o e (J1.stkFree b hb) hb;exact⟨_,q⟩
  ·obtain⟨o',q⟩:=thB b o e hb;exact⟨o',f2.1 _ _ q⟩
 refine qd hfr hstk.2 fl λ h4 held4 up4=>?_;refine ji (s:={ s' with heap:=h4 }) held4 λ h5 fl5 up5=>?_;have J5:=at_ h5 fl5 (up4.trans up5) s'.toks;obtain⟨oe5,ve5,he5,hc5,hd5,_⟩:=fl5.first
 have toZ:∀ {σ':St}{H':Hp}{s':Shared},Inv X pins σ' H' s'->Inv (X.suite a (X.pn++pins)) [] σ' H' s':=λ J=>⟨J.ok.suite _ _,J.os,J.bare,J.base,J.loc,J.cell,J.free,J.freeC,λ p hp=>J.pin p (by simpa using hp),J.hok,J.len⟩;have ofZ:∀ {σ':St}{H':Hp}{s':Shared},Inv (X.suite a (X.pn++pins)) [] σ' H' s'->Inv X pins σ' H' s':=λ J=>⟨I.ok,J.os,J.bare,J.base,J.loc,J.cell,J.free,J.freeC,λ p hp=>J.pin p (dW _ hp),J.hok,J.len⟩;have LT:Looks (model X.prog X.w) h5 (typeOf (.ref a)) (.ref C'):=hc5 ▸ (Looks.ld he5).andThen .now;have bnd:=s1n J5.ok.mod.kin J5.ok.mod.glob hn;refine pP (pQ ?_) (by intro q;cases q);refine dY (X:=X.suite a (X.pn++pins)) (toZ J5) hg bnd ?_ hd;refine(W.exm_one (M:=model X.prog X.w) J5.kIn LT z1).here ?_;refine uL ?_;refine ji fl5 λ h6 fl6 up6=>?_;have J6:=at_ h6 fl6 ((up4.trans up5).trans up6) s'.toks;refine bL (hs a (X.pn++pins) [] _ _ _ D (toZ J6) z2) (λ fl s9 q=>?_) λ _ _ z=>z.elim
 cases fl with
 | next=>obtain⟨σ9,H9,J9,z⟩:=q;exact⟨_,H9,ofZ J9,z⟩
 | brk=>obtain⟨σ9,H9,J9,z⟩:=q;exact⟨_,H9,ofZ J9,z⟩
 | cont=>obtain⟨σ9,H9,J9,z⟩:=q;exact⟨_,H9,ofZ J9,z⟩
 | ret u=>obtain⟨v,σ9,H9,J9,r,z⟩:=q;exact⟨v,_,H9,ofZ J9,r,z⟩
noncomputable def qR(cs:List Str)(nm:List (Str × NameKind)):List Nat->List Expr->Bool
 | [],es=>es.isEmpty
 | k::ks,es=>cC es λ e r=>aO e λ x _=>decide (cs[k]?=some x) && gl nm x && okN x && qR cs nm ks r
noncomputable def wu(fs gs cs N:List Str)(nm:List (Str × NameKind))(b:Ct)(bx:Cq)(i j:Nat)(ks:List Nat)(st:Stmt):Bool:=qTr [st] λ body hl els fi _ _=>c1 hl λ h=>eH h λ t n su _=>oS t λ t=>oS n λ n=>aO t λ y _=>qAs su λ ts e _ rest=>c1 ts λ t=>aO t λ x _=>gD e λ es _ _=>c3 es λ u v z =>
 mj u λ u f1 _=>aO u λ e1 _=>mj v λ v f2 _=>aO v λ e2 _=>cj z λ z as w _=>aO z λ z _=>c2 as λ o q=>aO o λ e3 _=>gD q λ es _ _ =>
  els.isEmpty && fi.isEmpty && rest.isEmpty && w.isEmpty && (bp fs gs N nm false b body && ckR fs gs cs false N nm false bx body && gl nm y && lcl N nm j x && gl nm z && okN n && qR cs nm ks es) && decide (N[i]?=some n/\nm.lookup n=some .local/\i≠j/\ks.length≤100/\y="BadStep" /\ n=e1/\n=e2/\n=e3/\f1="at" /\ f2="why" /\ z="isinstance")
noncomputable def wFl(FT:List PSp)(GT:List TV)(FX:List XSp)(b:Ct)(bx:Cq)(i j:Nat):Wn:=λ ρ nx rt=>wS FT GT b ρ nx rt\/wR FT GT FX bx ρ nx λ n ρ'=>∃a w,n=.b a w/\nx ((ρ'.set j (some (.tup [.int a,.str w,.bl false]))).set i none)
noncomputable def wv(fs gs cs N:List Str)(nm:List (Str × NameKind))(b:Ct)(bx:Cq)(c:Nat)(s:Cs)(st:Stmt):Bool:=qTr [st] λ body hl els fi _ _=>c1 hl λ h=>eH h λ t n su _=>oS t λ t=>aO t λ x _=>els.isEmpty && fi.isEmpty && n.isNone && bp fs gs N nm false b body && ckR fs gs cs false N nm false bx body && decide (cs[c]?=some x) && gl nm x && okN x && ckU N nm s su
noncomputable def wBr(FT:List PSp)(GT:List TV)(FX:List XSp)(b:Ct)(bx:Cq)(s:Cs):Wn:=λ ρ nx rt=>wS FT GT b ρ nx rt\/wR FT GT FX bx ρ nx λ n ρ'=>∃a w,n=.b a w/\wU s ρ' nx rt
section
variable {X:Cx}{J:Hp->Prop}{FT:List PSp}{GT:List TV}{FX:List XSp}{fs gs cs:List Str}{N:List Str}{nm:List (Str × NameKind)}{F0:Fz}{H0:Hp}{CA:Nat->Addr}{CB:Addr}{K:FG}{lp:Bool}{b:Ct}{bx:Cq}
theorem Hi{st:Stmt}(y:YOk X J FT GT fs gs N nm lp)(t:TOk X J FX fs cs CA CB (CX2 X.prog X.w))(ex:W.exmOne X.K (.ref CB) (.ref (CA c))=some true)(h:wv fs gs cs N nm b bx c s st=true):PS X st (rN X.K J N.length F0 H0 (wBr FT GT FX b bx s)):=by
 ·obtain⟨body,hl,els,fi,_,_,e1,k1⟩:=qI h;cases e1;refine cE k1 λ h0 k2=>?_;refine mO k2 λ t0 n su _ k3=>?_;refine eJ k3 λ t0 k4=>?_;refine aK k4 λ x _ k5=>?_;obtain⟨z0,z1,z2,h1,h2,h3,h4,h5,h6⟩:=a9 k5;refine bj z0 ?_;refine bj z1 ?_;cases iC.mp z2
  have hne:∃b₀ r,su=b₀::r:=by
   cases su with
   | nil=>cases s<;>exact Bool.noConfusion h6
   | cons x r=>exact⟨x,r,rfl⟩
  obtain⟨b₀,rr,rfl⟩:=hne;refine(Hh t.sk (glX y.xs h4) (t.cl c _ (ar h3)).1 (λ xe pn EE pa=>qQ (F0:=F0) (H0:=H0) y t h1 h2 pa) (λ a pn=>wl (X:=X.suite a pn) ⟨y.xs.N,y.xs.nm⟩ (by show X.N.Nodup;rw[y.xs.N];exact y.nd) y.fn h6) (cZ h5).1).imp λ D σ H ⟨F,ρ,e,l,w⟩=>?_
  rcases w with w | w
  ·exact .inl ⟨F,ρ,e,l,w⟩
  ·refine .inr ⟨F,ρ,e,l,cF bx (λ _ q=>q) (λ n ρ' ⟨a,wd,en,q⟩ F' H' σ' e' s'=>?_) w⟩;subst en;exact λ dx hd=>⟨ex,wo y.xo.hJ y.xs y.fn h6 e' s' q⟩
noncomputable def qS:List Addr->TA
 | []=>lA
 | c::r=>jQ (tC (.ref c)) (qS r)
theorem ww:∀ {l:List Addr}{σ:St}{H:Hp}{Q:List V->Hp->Prop},Q (l.map V.ref) H->qS l σ H Q
 | [],_,_,_,q=>q
 | _::r,_,_,Q,q=>ww (l:=r) (Q:=λ xs H=>Q (_::xs) H) q
theorem wx(xs:XS X N nm)(cl:∀(k:Nat) x,cs[k]?=some x->W.nsIn X.K mainGlobals x=some (some (.ref (CA k)))):∀ {ks:List Nat}{es:List Expr},qR cs nm ks es=true->PA X es (qS (ks.map CA))
 | [],es,h=>by
  refine bj h ?_;exact pa_nil
 | k::ks,es,h=>by
  refine dQ h λ e r k1=>?_;refine aK k1 λ x _ k2=>?_;obtain⟨h1,h2,h3,h4⟩:=a4 k2;exact bI (CD (glX xs h2) (cl k _ (ar h1)) (cZ h3).1) (wx xs cl h4)
theorem ER.unset(e:ER K J F0 H0 [] F H σ ρ)(i:Nat):ER K J F0 H0 [] F H (σ.set i none) (ρ.set i none):=by
 have g:∀(j:Nat) t,(ρ.set i none)[j]?=some (some t)->i≠j/\ρ[j]?=some (some t):=λ j t h=>by
  rw[cR] at h;split at h
  ·split at h<;>cases h
  ·exact⟨by assumption,h⟩
 refine⟨⟨e.ev.w,λ j t h=>?_⟩,e.gr,λ j l a h1 h2=>?_,λ j k l l' v h1 h2 h3 h4=>?_,λ p hp=>by cases hp⟩
 ·obtain⟨n,q⟩:=g j t h;obtain⟨v,e1,r⟩:=e.ev.sl j t q;exact⟨v,by rw[dz n];exact e1,r⟩
 ·obtain⟨n,q⟩:=g j _ h1;rw[dz n] at h2;exact e.nb j l a q h2
 ·obtain⟨n,q⟩:=g j _ h1;obtain⟨n',q'⟩:=g k _ h2;rw[dz n] at h3;rw[dz n'] at h4;exact e.di j k l l' v q q' h3 h4
theorem Hj{ks:List Nat}{st:Stmt}(y:YOk X J FT GT fs gs N nm lp)(t:TOk X J FX fs cs CA CB (CX2 X.prog X.w))(bd:BdOk X.prog X.w X.K X.mg X.base CB)(ek:ExcK X.K CB)(n3:NoAttr X.K CB "__getattr__")(bi:X.mg "isinstance"=none)(ka:kitAny X.K (.ref CB) ((ks.map CA).map Value.ref)=some false)(h:wu fs gs cs N nm b bx i j ks st=true):PS X st (rN X.K J N.length F0 H0 (wFl FT GT FX b bx i j)):=by
 ·obtain⟨body,hl,els,fi,_,_,q1,k1⟩:=qI h;cases q1;refine cE k1 λ h0 k2=>?_;refine mO k2 λ t0 n0 su _ k3=>?_;refine eJ k3 λ t0 k4=>?_;refine eJ k4 λ n k5=>?_;refine aK k5 λ yb _ k6=>?_;refine iD k6 λ ts e _ rest k7=>?_;refine cE k7 λ t1 k8=>?_;refine aK k8 λ x _ k9=>?_;refine gE k9 λ es0 _ _ k10=>?_;refine vF k10 λ u v z k11=>?_;refine qz k11 λ u f1 _ k12=>?_;refine aK k12 λ e1 _ k13=>?_;refine qz k13 λ v f2 _ k14=>?_;refine aK k14 λ e2 _ k15=>?_;refine cD k15 λ z as w _ k16=>?_;refine aK k16 λ zi _ k17=>?_;refine gF k17 λ o q k18=>?_;refine aK k18 λ e3 _ k19=>?_;refine gE k19 λ es _ _ k20=>?_;obtain⟨z0,z1,z2,z3,z4,z5⟩:=a6 k20;refine bj z0 ?_;refine bj z1 ?_;refine bj z2 ?_;refine bj z3 ?_;obtain⟨h1,h2,h3,h4,h5,h6,h7⟩:=a7 z4;obtain⟨i1,i2,ij,i3,rfl,rfl,rfl,rfl,rfl,rfl,rfl⟩:=ar z5;obtain⟨d1,d2,_⟩:=cZ h6;obtain⟨_,_,M,_,_⟩:=bd.mx;have a:=kG y.xs y.fn h4;have nd:X.N.Nodup:=by rw[y.xs.N];exact y.nd
  have iN:X.N[i]?=some n:=by rw[y.xs.N];exact i1
  have vi:Vis X.env.scope n:=.inl (by rw[y.xs.nm];exact i2);refine(EO t.sk t.xx nd iN (by rw[y.xs.nm];exact i2) (glX y.xs h3) bd.hm M.cls (by decide +kernel) (λ xe pn EE pa=>qQ (F0:=F0) (H0:=H0) y t h1 h2 pa) (λ a' pn=>lh (nW (X:=X.suite a' pn) nd a.1 a.2.1 (jR (bI (vf (K:=X.K) rfl (gQ iN vi d1 d2) rfl) (bI (vf (K:=X.K) rfl (gQ iN vi d1 d2) rfl) (bI (oA (EQ (X:=X.suite a' pn) ek ka) (glX (X:=X.suite a' pn) (N:=N) (nm:=nm) ⟨y.xs.N,y.xs.nm⟩ h5) bi (by decide +kernel) (bI (gQ iN vi d1 d2) (bI (jR (wx (X:=X.suite a' pn) (N:=N) (nm:=nm) ⟨y.xs.N,y.xs.nm⟩ (λ k x e=>(t.cl k x e).1) h7)) pa_nil))) pa_nil)))) (by rfl) a.2.2.1))).imp λ D σ H ⟨F,ρ,e,l,w⟩=>?_
  rcases w with w | w
  ·exact .inl ⟨F,ρ,e,l,w⟩
  ·refine .inr ⟨F,ρ,e,l,cF bx (λ _ q=>q) (λ n ρ' ⟨va,vw,en,q⟩ F' H' σ' e' s'=>?_) w⟩;subst en;intro dx hd;refine⟨rfl,dx,rfl,λ p hp=>?_⟩;have il:i < σ'.length:=by rw[s'];exact(bD.mp i1).1
   have gi:(σ'.set i (some (V.ref p)))[i]?=some (some (.ref p)):=by rw[cR];simp[il]
   have np:dx≠p:=λ z=>by rw[z,hp] at hd;cases hd
   have hD:upd H' p (eY p CB dx) dx=some (cQ dx (kL (.int va) (.str vw))):=by rw[ay np];exact hd
   have g1:Grow J F' H' F' (upd H' p (eY p CB dx)):=.new y.xo.hJ e'.ev.w _ hp;simp only[gR,tK,jQ,lA,qj,dX,gi,tCB,cW];have e1:=e'.grow g1;refine⟨p,CB,dx,_,.int va,rfl,bz,hD,bd.at_,bd.n1,n3,rfl,p,CB,dx,_,.str vw,rfl,bz,hD,bd.at_,bd.n2,n3,rfl,ww ⟨small (by simp;lia),λ p1 hp1=>?_⟩⟩;have ne1:p≠p1:=λ z=>by rw[← z,bz] at hp1;cases hp1
   refine⟨p,p1,dx,rfl,by rw[ay ne1];exact bz,bz,small (by simp),λ p3 hp3=>?_⟩;have g2:Grow J F' _ F' (upd (upd H' p (eY p CB dx)) p1 (.tup ((ks.map CA).map V.ref))):=.new y.xo.hJ e1.ev.w _ hp1;have e2:=e1.grow g2;have g3:Grow J F' _ F' (upd (upd (upd H' p (eY p CB dx)) p1 (.tup ((ks.map CA).map V.ref))) p3 (.tup [.int va,.str vw,.bl false])):=.new y.xo.hJ e2.ev.w _ hp3;have e3:=(e2.grow g3).set (i:=j) (t:=.tup [.int va,.str vw,.bl false]) (v:=.ref p3) ⟨p3,_,rfl,.of bz,_,_,rfl,rfl,_,_,rfl,rfl,_,_,rfl,rfl,rfl⟩ (by rw[s'];exact a.2.2.2);have z:=q F' _ _ (e3.unset i) (by simp;exact s');show D.nx (((σ'.set i (some (V.ref p))).set j (some (V.ref p3))).set i none) _;rw[List.set_comm _ _ ij,List.set_set];exact z
end
end _L
namespace _L
open PySem PySem.Spec PyProof.Rows PySem.W PySem.Calls
noncomputable def Mn(W:Wn):Prop:=∀ρ nx nx' rt rt',(∀ρ,nx ρ->nx' ρ)->(∀t,rt t->rt' t)->W ρ nx rt->W ρ nx' rt'
section
variable {FT:List PSp}{GT:List TV}{FX:List XSp}{b:Ct}{bx:Cq}
theorem wz:Mn (wU s):=λ ρ nx nx' rt rt' h g q=>by cases s<;>first | exact h _ q | exact g _ q
theorem wA{isC:Nat->Nat->Bool}:∀ {hs:List (Nat × Cs)}{k:Nat},Mn (wH m isC hs k)
 | [],_,_,_,_,_,_,_,_,q=>q
 | (c,s)::r,k,ρ,nx,nx',rt,rt',h,g,⟨a,q⟩=>⟨a,by
  split at q
  ·rw[if_pos (by assumption)];exact wz _ _ _ _ _ h g q
  ·rw[if_neg (by assumption)];exact wA _ _ _ _ _ h g q⟩
theorem wB{isC:Nat->Nat->Bool}:Mn (qP FT GT FX m isC b bx hs):=λ ρ nx nx' rt rt' h g q=>q.imp (bB b h g) (cF bx h λ n ρ' ⟨k,e,q⟩=>⟨k,e,wA _ _ _ _ _ h g q⟩)
theorem wC:Mn (wFl FT GT FX b bx i j):=λ ρ nx nx' rt rt' h g q=>q.imp (bB b h g) (cF bx h λ n ρ' ⟨k,w,e,q⟩=>⟨k,w,e,h _ q⟩)
theorem wD:Mn (wBr FT GT FX b bx s):=λ ρ nx nx' rt rt' h g q=>q.imp (bB b h g) (cF bx h λ n ρ' ⟨k,w,e,q⟩=>⟨k,w,e,wz _ _ _ _ _ h g q⟩)
theorem mn0:Mn (λ ρ nx rt=>wS FT GT c ρ nx rt):=λ ρ nx nx' rt rt' h g q=>bB c h g q
theorem mn1{W V:Wn}(hW:Mn W)(hV:Mn V):Mn (λ ρ nx rt=>wS FT GT c ρ (λ ρ'=>W ρ' (λ ρ''=>V ρ'' nx rt) rt) rt):=λ ρ nx nx' rt rt' h g q=>bB c (λ ρ' q=>hW _ _ _ _ _ (λ ρ'' q=>hV _ _ _ _ _ h g q) g q) g q
end
section
variable {X:Cx}{J:Hp->Prop}{FT:List PSp}{GT:List TV}{fs gs:List Str}{N:List Str}{nm:List (Str × NameKind)}{F0:Fz}{H0:Hp}{lp:Bool}
theorem sg0(y:YOk X J FT GT fs gs N nm lp)(h:bp fs gs N nm lp c a=true):PSs X a (rN X.K J N.length F0 H0 λ ρ nx rt=>wS FT GT c ρ nx rt):=sS c (PN:=[]) y h
theorem sg1{i:Nat}{l:List Stmt}{W V:Wn}(y:YOk X J FT GT fs gs N nm lp)(hi:decide (i < l.length)=true)(h:bp fs gs N nm lp c (l.take i)=true)(hm:Mn W)(ht:PS X (l.getD i (.Pass ⟨0,0,0,0⟩)) (rN X.K J N.length F0 H0 W))(hb:PSs X (l.drop (i+1)) (rN X.K J N.length F0 H0 V)) :
  PSs X l (rN X.K J N.length F0 H0 λ ρ nx rt=>wS FT GT c ρ (λ ρ'=>W ρ' (λ ρ''=>V ρ'' nx rt) rt) rt):=by
 have hi:=ar hi
 have e:l=l.take i++l.getD i (.Pass ⟨0,0,0,0⟩)::l.drop (i+1):=by
  rw[dP,bP hi];show l=l.take i++l[i]::l.drop (i+1);rw[← mE hi,qT]
 have z:=seg (W:=λ ρ' nx rt=>W ρ' (λ ρ''=>V ρ'' nx rt) rt) y h ((bS ht hb).imp λ D σ H ⟨F,ρ,e,s,w⟩=>⟨F,ρ,e,s,hm _ _ _ _ _ (λ ρ' w F' H' σ' e' s'=>⟨F',ρ',e',s',w⟩) (λ _ q=>q) w⟩);rw[← e] at z;exact z
end
abbrev noX:XSp:=λ _ _=>False
structure CN (P:Program)(w:World)(K:FG)(mg:SV)(base:Heap)(J:Hp->Prop)(GT:List TV)(gs:List Str)(D:List DR)(X1 X2:List XSp)(cs:List Str)(CA:Nat->Addr)(CB:Addr)(j:Nat):Prop where
 m:CM P w K mg base J GT gs D j
 x1:∀i,i < j->∀x ps S T,D[i]?=some (x,ps,S)->X1[i]?=some T->Callee P w K mg base (CX1 P w) (i+1) x ps (xSp K J CA CB T)
 x2:∀i,i < j->∀x ps S T,D[i]?=some (x,ps,S)->X2[i]?=some T->Callee P w K mg base (CX2 P w) (i+1) x ps (xSp K J CA CB T)
 cl:∀(k:Nat) x,cs[k]?=some x->W.nsIn K mainGlobals x=some (some (.ref (CA k)))/\W.excIn K (CA k) EXB "ValueError.__new__"=true
 bd:BdOk P w K mg base CB
 l1:X1.length=D.length
 l2:X2.length=D.length
noncomputable abbrev ZR'(D:List DR)(GT:List TV)(gs:List Str)(X1:List XSp)(cs:List Str)(tp:Bool)(j:Nat)(st:Stmt)(N:List Str)(n p:Nat)(T:XSp)(c:Cq):Prop:=(ckR (dFs D j) gs cs (!tp) N (aD st).names tp c (bu st) && scB (aD st) (N.take p) N && decide (p≤N.length/\N.length=n))=true/\∀ts E,T ts E->ts.length=p/\wR (dFT D j) GT (X1.take j) c (en0 n ts) (λ _=>False) (λ n _=>E n)
section
variable {P:Program}{w:World}{K:PySem.W.Frag}{mg:SV}{base:Heap}{J:Hp->Prop}{GT:List TV}{gs:List Str}{D:List DR}{X1 X2:List XSp}{cs:List Str}{CA:Nat->Addr}{CB:Addr}{j n p:Nat}{x:Str}{N:List Str}{st:Stmt}{S:PSp}{T:XSp}{code:Ct}{cx:Cq}{f:Addr}{fd:FuncData}{W:Wn}
theorem Callee.upx(c:Callee P w K mg base CX0 k x ps (pSp K J S)):Callee P w K mg base CX k x ps (xSp K J CA CB noX):=let ⟨f,fd,ok,m,kp,b⟩:=c.has;⟨⟨f,fd,ok.upx,m,kp,b⟩⟩
theorem xup{XX:List XSp}(hl:XX.length=D.length)(h:∀i,i < j->∀x ps S T,D[i]?=some (x,ps,S)->XX[i]?=some T->Callee P w K mg base CX (i+1) x ps (xSp K J CA CB T)) :
  (∀(f:Nat) x S,(dFs D j)[f]?=some x->(XX.take j)[f]?=some S->∃ps,Callee P w K mg base CX j x ps (xSp K J CA CB S))/\(dFs D j).length=(XX.take j).length:=by
 refine⟨λ f x S h1 h2=>?_,by unfold dFs;rw[aj,aU,aU,hl]⟩;unfold dFs at h1;rw[bW] at h1
 cases q:(D.take j)[f]? with
 | none=>rw[q] at h1;cases h1
 | some d =>
  rw[q] at h1;cases h1;have lt:f < j:=by have:=(bD.mp q).1;rw[aU] at this;lia
  rw[kI,if_pos lt] at q h2;exact⟨_,(h f lt d.1 d.2.1 d.2.2 S q h2).mono (by lia)⟩
theorem wF{XX:List XSp}(h:∀i,i < j->∀x ps S T,D[i]?=some (x,ps,S)->XX[i]?=some T->Callee P w K mg base CX (i+1) x ps (xSp K J CA CB T))(h2:∀x ps S T,D[j]?=some (x,ps,S)->XX[j]?=some T->Callee P w K mg base CX (j+1) x ps (xSp K J CA CB T)) :
  ∀i,i < j+1->∀x ps S T,D[i]?=some (x,ps,S)->XX[i]?=some T->Callee P w K mg base CX (i+1) x ps (xSp K J CA CB T):=λ i hi=>by
 by_cases e:i=j
 ·subst e;exact h2
 ·exact h i (by lia)
theorem CN.up(C:CN P w K mg base J GT gs D X1 X2 cs CA CB j)(M:CM P w K mg base J GT gs D (j+1))(h1:∀x ps S T,D[j]?=some (x,ps,S)->X1[j]?=some T->Callee P w K mg base (CX1 P w) (j+1) x ps (xSp K J CA CB T))(h2:∀x ps S T,D[j]?=some (x,ps,S)->X2[j]?=some T->Callee P w K mg base (CX2 P w) (j+1) x ps (xSp K J CA CB T)):CN P w K mg base J GT gs D X1 X2 cs CA CB (j+1) :=
 ⟨M,wF C.x1 h1,wF C.x2 h2,C.cl,C.bd,C.l1,C.l2⟩
theorem jB{XX:List XSp}(M:CM P w K mg base J GT gs D (j+1))(e:XX[j]?=some noX):∀x ps S T,D[j]?=some (x,ps,S)->XX[j]?=some T->Callee P w K mg base CX (j+1) x ps (xSp K J CA CB T):=λ x ps S T h1 h2=>by
 rw[e] at h2;cases h2;exact(M.c j (gh j) x ps S h1).upx
theorem CN.d(C:CN P w K mg base J GT gs D X1 X2 cs CA CB j)(g:Gx K x st)(z:ZX' D GT gs j st N n p S code)(e1:autoParam (X1[j]?=some noX) Z3_)(e2:autoParam (X2[j]?=some noX) Z3_)(e:autoParam (D[j]?=some (x,N.take p,S)) Z3_)(b:autoParam (Bds x st (N.take p) p) Z8_):CN P w K mg base J GT gs D X1 X2 cs CA CB (j+1) :=
 C.up (C.m.d g z e b) (jB (C.m.d g z e b) e1) (jB (C.m.d g z e b) e2)
theorem CN.r(C:CN P w K mg base J GT gs D X1 X2 cs CA CB j)(g:Gx K x st)(z:ZX' D GT gs j st N n p S code)(zr:ZR' D GT gs X1 cs true j st N n p T cx)(e1:autoParam (X1[j]?=some T) Z3_)(e2:autoParam (X2[j]?=some noX) Z3_)(e:autoParam (D[j]?=some (x,N.take p,S)) Z3_)(b:autoParam (Bds x st (N.take p) p) Z8_):CN P w K mg base J GT gs D X1 X2 cs CA CB (j+1):=by
 refine C.up (C.m.d g z e b) (λ x' ps' S' T' h1 h2=>?_) (jB (C.m.d g z e b) e2);rw[e] at h1;cases h1;rw[e1] at h2;cases h2;obtain⟨z1,z2⟩:=zr;simp only[aX,du] at z1;obtain⟨⟨k1,k2⟩,k3,rfl⟩:=z1;obtain⟨f,fd,gf⟩:=g;obtain⟨u1,u2⟩:=xup C.l1 C.x1;exact Callee.mk' gf.F (C.m.hm gf.a) (b.ok k3 f fd gf.F) (He cx gf.F (kK k2) C.m.m (kJ j) u2 C.m.c.fns u1 C.cl k1 (λ ts E h=>by rw[(z2 ts E h).1,aU,eW k3]) λ ts E h=>(z2 ts E h).2)
theorem CN.b(C:CN P w K mg base J GT gs D X1 X2 cs CA CB j)(g:Gx K x st)(z:ZX' D GT gs j st N n p S code)(zr:ZR' D GT gs X2 cs false j st N n p T cx)(e1:autoParam (X1[j]?=some noX) Z3_)(e2:autoParam (X2[j]?=some T) Z3_)(j8:autoParam (8≤j) Z1_)(e:autoParam (D[j]?=some (x,N.take p,S)) Z3_)(b:autoParam (Bds x st (N.take p) p) Z8_):CN P w K mg base J GT gs D X1 X2 cs CA CB (j+1):=by
 refine C.up (C.m.d g z e b) (jB (C.m.d g z e b) e1) (λ x' ps' S' T' h1 h2=>?_);rw[e] at h1;cases h1;rw[e2] at h2;cases h2;obtain⟨z1,z2⟩:=zr;simp only[aX,du] at z1;obtain⟨⟨k1,k2⟩,k3,rfl⟩:=z1;obtain⟨f,fd,gf⟩:=g;obtain⟨u1,u2⟩:=xup C.l2 C.x2;exact Callee.mk' gf.F (C.m.hm gf.a) (b.ok k3 f fd gf.F) (Hf cx gf.F (kK k2) C.m.m (kJ j) u2 C.m.c.fns u1 C.cl C.bd j8 k1 (λ ts E h=>by rw[(z2 ts E h).1,aU,eW k3]) λ ts E h=>(z2 ts E h).2)
theorem CN.t(C:CN P w K mg base J GT gs D X1 X2 cs CA CB j)(g:Gx K x st)(k2:(scB (aD st) (N.take p) N && decide (p≤N.length/\N.length=n))=true)
  (hb:∀(X:Cx) (F0:Fz) (H0:Hp),X.prog=P->X.w=w->X.K=K->X.mg=mg->X.base=base->YOk X J (dFT D j) GT (dFs D j) gs N (aD st).names true->TOk X J (X1.take j) (dFs D j) cs CA CB (CX1 X.prog X.w)->TOk X J (X2.take j) (dFs D j) cs CA CB (CX2 X.prog X.w)->PSs X (bu st) (rN X.K J N.length F0 H0 W))
  (z2:∀ts Q,S ts Q->ts.length=p/\W (en0 n ts) (λ _=>Q .non) Q) (mn:Mn W) (e1:autoParam (X1[j]?=some noX) Z3_) (e2:autoParam (X2[j]?=some noX) Z3_) (e:autoParam (D[j]?=some (x,N.take p,S)) Z3_) (b:autoParam (Bds x st (N.take p) p) Z8_):CN P w K mg base J GT gs D X1 X2 cs CA CB (j+1):=by
 simp only[aX,du] at k2;obtain⟨k2,k3,rfl⟩:=k2;have sc:=kK k2;have lp:(N.take p).length=p:=by rw[aU,eW k3]
 obtain⟨u1,v1⟩:=xup C.l1 C.x1;obtain⟨u2,v2⟩:=xup C.l2 C.x2
 have M:CM P w K mg base J GT gs D (j+1):=by
  refine⟨C.m.c.s λ x' ps' S' e'=>?_,C.m.m,C.m.hm⟩;rw[e] at e';cases e';obtain⟨f,fd,gf⟩:=g;refine Callee.mk' gf.F (C.m.hm gf.a) (b.ok k3 f fd gf.F) (gf.F.ok sc (λ vs H Q E ⟨F1,ts,P1,wd,r,s,_⟩=>by rw[← r.length,(z2 _ _ s).1,lp]) (λ cdv A outer s H vs Q E hr h=>?_));obtain⟨F1,ts,P1,wd,r,sp,fin⟩:=h;have nl:vs.length≤N.length:=by rw[← r.length,(z2 _ _ sp).1];exact k3
  have xo:XOk (bN CX0 P w K mg base N x (aD st) f cdv A outer s H E).nox J (dFT D j) GT (dFs D j) gs:=⟨rfl,by have:=hr.un;show(A.deeper _).units+20 < cLine;lia,C.m.m.hJ,λ g y S h1 h2=>let ⟨ps,c⟩:=C.m.c.fns g y S h1 h2;⟨j,ps,hr,c⟩,C.m.m.glb,C.m.m.dic,C.m.m.blt,kJ j⟩;refine⟨_,hb (bN CX0 P w K mg base N x (aD st) f cdv A outer s H E).nox F1 H rfl rfl rfl rfl rfl ⟨xo,⟨rfl,rfl⟩,sc.nd,λ _ _=>rfl,λ _=>PassesOwn.never⟩ ⟨λ g y S h1 h2=>let ⟨ps,c⟩:=u1 g y S h1 h2;⟨j,ps,hr,c⟩,C.cl,v1,⟨rfl,rfl⟩,rfl⟩ ⟨λ g y S h1 h2=>let ⟨ps,c⟩:=u2 g y S h1 h2;⟨j,ps,hr,c⟩,C.cl,v2,⟨rfl,rfl⟩,rfl⟩,F1,en0 N.length ts,er0 wd r,qM nl,?_⟩;exact mn _ _ _ _ _ (λ ρ' q F' H' σ' e _=>fin .non q F' H' .non e.gr rfl) (λ t q F' H' v g r=>fin t q F' H' v g r) (z2 ts P1 sp).2
 exact C.up M (jB M e1) (jB M e2)
theorem CN.law(C:CN P w K mg base J GT gs D X1 X2 cs CA CB j)(g:Gl' K x st f fd)(z:ZX' D GT gs j st N n p mK code):FnOk P w K mg base CX0 (j+1) f fd (N.take p) (jz K J):=C.m.law g z
end
end _L
namespace _L
open PySem PySem.Spec PyProof.Rows PySem.W PySem.Calls
abbrev p0:Stmt:=.Pass ⟨0,0,0,0⟩
noncomputable abbrev ZT'(D:List DR)(GT:List TV)(gs:List Str)(X1:List XSp)(cs:List Str)(m:Nat)(isC:Nat->Nat->Bool)(j:Nat)(st:Stmt)(N:List Str)(n p i:Nat)(S:PSp)(c b:Ct)(bx:Cq)(hs:List (Nat × Cs))(r:Ct):Prop :=
 ((scB (aD st) (N.take p) N && decide (p≤N.length/\N.length=n)) && (decide (i < (bu st).length) && bp (dFs D j) gs N (aD st).names true c ((bu st).take i) && wt (dFs D j) gs cs N (aD st).names b bx hs ((bu st).getD i p0) && bp (dFs D j) gs N (aD st).names true r ((bu st).drop (i+1))))=true /\
 ∀ts Q,S ts Q->ts.length=p/\wS (dFT D j) GT c (en0 n ts) (λ ρ=>qP (dFT D j) GT (X1.take j) m isC b bx hs ρ (λ ρ'=>wS (dFT D j) GT r ρ' (λ _=>Q .non) Q) Q) Q
noncomputable abbrev ZU'(D:List DR)(GT:List TV)(gs:List Str)(X2:List XSp)(cs:List Str)(j:Nat)(st:Stmt)(N:List Str)(n p i i' e f k:Nat)(ks:List Nat)(S:PSp)(c b:Ct)(bx:Cq)(c':Ct)(s:Cs)(r:Ct):Prop :=
 ((scB (aD st) (N.take p) N && decide (p≤N.length/\N.length=n)) && (decide (i < (bu st).length) && bp (dFs D j) gs N (aD st).names true c ((bu st).take i) && wu (dFs D j) gs cs N (aD st).names b bx e f ks ((bu st).getD i p0)) &&
  (decide (i' < ((bu st).drop (i+1)).length) && bp (dFs D j) gs N (aD st).names true c' (((bu st).drop (i+1)).take i') && wv (dFs D j) gs cs N (aD st).names b bx k s (((bu st).drop (i+1)).getD i' p0) && bp (dFs D j) gs N (aD st).names true r (((bu st).drop (i+1)).drop (i' + 1))))=true /\
 ∀ts Q,S ts Q->ts.length=p/\wS (dFT D j) GT c (en0 n ts) (λ ρ=>wFl (dFT D j) GT (X2.take j) b bx e f ρ (λ ρ=>wS (dFT D j) GT c' ρ (λ ρ=>wBr (dFT D j) GT (X2.take j) b bx s ρ (λ ρ'=>wS (dFT D j) GT r ρ' (λ _=>Q .non) Q) Q) Q) Q) Q
section
variable {P:Program}{w:World}{K:FG}{mg:SV}{base:Heap}{J:Hp->Prop}{GT:List TV}{gs:List Str}{D:List DR}{X1 X2:List XSp}{cs:List Str}{CA:Nat->Addr}{CB:Addr}{j n p i i' e f k:Nat}{x:Str}{N:List Str}{st:Stmt}{S:PSp}{c b c' r:Ct}{bx:Cq}{hs:List (Nat × Cs)}{s:Cs}{ks:List Nat}{m:Nat}{isC:Nat->Nat->Bool}
theorem CN.y(C:CN P w K mg base J GT gs D X1 X2 cs CA CB j)(ex:∀k c,c≤k->k < m->W.exmOne K (.ref (CA k)) (.ref (CA c))=some (isC k c))(g:Gx K x st)(z:ZT' D GT gs X1 cs m isC j st N n p i S c b bx hs r)(e1:autoParam (X1[j]?=some noX) Z3_)(e2:autoParam (X2[j]?=some noX) Z3_)(e:autoParam (D[j]?=some (x,N.take p,S)) Z3_)(b:autoParam (Bds x st (N.take p) p) Z8_):CN P w K mg base J GT gs D X1 X2 cs CA CB (j+1):=by
 obtain⟨z1,z2⟩:=z;obtain⟨k0,z1⟩:=an z1;obtain⟨k1,k2,k3,k4⟩:=_L.a4 z1;refine C.t g k0 (λ X F0 H0 q1 q2 q3 q4 q5 y t1 t2=>?_) z2 (mn1 wB mn0) e1 e2 e b;subst q3;exact sg1 y k1 k2 wB (Hg y t1 ex k3) (sg0 y k4)
theorem CN.u(C:CN P w K mg base J GT gs D X1 X2 cs CA CB j)(ex:W.exmOne K (.ref CB) (.ref (CA k))=some true)(ek:ExcK K CB)(n3:NoAttr K CB "__getattr__")(bi:mg "isinstance"=none)(ka:kitAny K (.ref CB) ((ks.map CA).map Value.ref)=some false)(g:Gx K x st)(z:ZU' D GT gs X2 cs j st N n p i i' e f k ks S c b bx c' s r)(e1:autoParam (X1[j]?=some noX) Z3_)(e2:autoParam (X2[j]?=some noX) Z3_)(e:autoParam (D[j]?=some (x,N.take p,S)) Z3_)(b:autoParam (Bds x st (N.take p) p) Z8_):CN P w K mg base J GT gs D X1 X2 cs CA CB (j+1):=by
 obtain⟨z1,z2⟩:=z;obtain⟨k0,ka1,kb⟩:=_L.a3 z1;obtain⟨k1,k2,k3⟩:=_L.a3 ka1;obtain⟨k4,k5,k6,k7⟩:=_L.a4 kb;refine C.t g k0 (λ X F0 H0 q1 q2 q3 q4 q5 y t1 t2=>?_) z2 (mn1 wC (mn1 wD mn0)) e1 e2 e b;subst q1 q2 q3 q4 q5;exact sg1 y k1 k2 wC (Hj y t2 C.bd ek n3 bi ka k3) (sg1 y k4 k5 wD (Hi y t2 ex k6) (sg0 y k7))
end
end _L
namespace _M
open PySem _L PyProof.Rows
noncomputable def formsL:List (Str × List (Str × Int)):=[("in",[("sides",1)]),("num",[("number",1)]),("count",[("small",2),("sides",1)]),("each",[("word",1),("step",2)]),("pair",[("word",1),("step",2),("step",3)]),("pick",[("step",1),("step",2),("step",3)]),("turn",[("step",1),("sides",2)]),("flip",[("step",1),("small",2)]),("cut",[("step",1),("small",2),("small",3),("small",4),("small",5)]),("spread",[("step",1),("small",2),("small",3)]),("lay",[("step",1),("sides",2)]),("join",[("step",1),("step",2),("small",3)]),("fetch",[("step",1),("step",2)]),("fold",[("word",1),("step",2),("small",3)]),("run",[("word",1),("step",2),("small",3)])]
noncomputable def qU(K:FG):List (Str × Int)->List V->Prop
 | [],[]=>True
 | f::fs,x::xs=>(∃a,x=.ref a/\KTup K a [.str f.1,.int f.2])/\qU K fs xs
 | _,_=>False
noncomputable def qV(K:FG):List (Str × List (Str × Int))->LA->Prop
 | [],[]=>True
 | f::fs,p::ps=>(p.1=f.1/\∃xs,KTup K p.2 xs/\qU K f.2 xs)/\qV K fs ps
 | _,_=>False
noncomputable def wG(P:Program)(w:World)(K:FG)(d:Addr):Prop:=∃kvs,KTab P w K d kvs/\qV K formsL kvs
theorem kM{K:FG}{sl:AV}(h:K.lookup a=some ⟨.type "tuple",none,.seq its n,sl⟩)(z:its.size≤sizeLine)(v:Vals xs its.toList):KTup K a xs:=⟨_,its,n,h,rfl,rfl,rfl,z,v⟩
def ah(ns:LIq):Int:=ns.foldl (λ a b=>a * b) 1
theorem mP{ns:LIq}{i:Nat}(h:ns[i]?=some x):ah (ns.take (i+1))=ah (ns.take i) * x:=by
 unfold ah;rw[List.take_add_one,h,List.foldl_append];rfl
def bn(ns:LIq):Prop:=∀n∈ns,0≤n/\n < 1000000000000000000
def ai(n:Int):Int:=if n=0 then 1 else n
theorem mQ(h:bn ns):bn (ns.map ai):=by
 intro n hn;obtain⟨m,hm,rfl⟩:=cO.mp hn;have:=h m hm;unfold ai;split<;>lia
def bq(ns:LIq):Prop:=6 < ns.length\/512 < ah (ns.map ai)
noncomputable def good(ns ms:LIq):Prop:=ms.length=ns.length/\∀(i:Nat) m n,ms[i]?=some m->ns[i]?=some n->0≤m/\m < n
theorem Hk(xs:LIq)(y:Int):ah (xs++[y])=ah xs * y:=by unfold ah;rw[List.foldl_append];rfl
theorem Hl(xs:LIq):∀a:Int,xs.foldl (λ a b=>a * b) a=a * ah xs:=by
 induction xs with
 | nil=>intro a;show a=a * 1;rw[lj]
 | cons x xs ih=>intro a;show xs.foldl (λ a b=>a * b) (a * x)=a * (xs.foldl (λ a b=>a * b) (1 * x));rw[ih,ih (1 * x),kN,s0x]
theorem bX(x:Int)(xs:LIq):ah (x::xs)=x * ah xs:=by
 show xs.foldl (λ a b=>a * b) (1 * x)=_;rw[Hl,kN]
def fQ(ns:LIq)(k:Nat):Int:=ns.getD k 0
noncomputable def fit(ns:LIq):Prop:=(∀n∈ns,0≤n/\n≤512)/\ns.length≤6/\1≤ah (ns.map ai)/\ah (ns.map ai)≤512
noncomputable def grow(ns:LIq)(free:Int)(i:Nat):Prop:=(∀n∈ns,0≤n/\n≤512)/\ns.length=i/\1≤free/\free≤512/\1≤ah (ns.map ai)/\free * ah (ns.map ai)≤512
noncomputable def off(ns:LIq)(side:Int):Prop:=side < 0\/(ns.length:Int)≤side
noncomputable def bad(ns:LIq)(side first many step:Int):Prop:=first < 0\/many < 0\/step < 1\/(0 < many/\ns.getD side.toNat 0≤first+(many - 1) * step)
theorem kO(h:¬off ns side):∃k:Nat,side=k/\k < ns.length:=by
 unfold off at h;exact⟨side.toNat,by lia,by lia⟩
instance (ns:LIq):Decidable (bq ns):=by unfold bq;infer_instance
noncomputable def agr(x y:LIq):Prop:=∀k:Nat,k < x.length->k < y.length->x[k]?=y[k]?
theorem Hn(x:LIq):agr x x:=λ _ _ _=>rfl
theorem wI(h:agr x y):agr y x:=λ k a b=>(h k b a).symm
theorem qW{x y:LIq}(h:x.length≤y.length):agr x y ↔ y.take x.length=x:=by
 constructor
 ·intro a;apply List.ext_getElem?;intro k;by_cases c:k < x.length
  ·rw[ow c];exact(a k c (by lia)).symm
  ·rw[jC (by rw[aU];lia),jC (by lia)]
 ·intro e k hx hy;have z:=bF (λ l=>l[k]?) e;simp only[ow hx] at z;exact z.symm
noncomputable def aH(x y:LIq):Prop:=if y.length < x.length then x.take y.length=y else y.take x.length=x
def bC(x y:LIq):LIq:=if y.length < x.length then x else y
theorem wJ(x y:LIq):aH x y ↔ agr x y:=by
 unfold aH;split
 ·rename_i h;exact(qW (by lia)).symm.trans ⟨wI,wI⟩
 ·rename_i h;exact(qW (by lia)).symm
theorem Ho(h:agr x y)(l:x.length=y.length):x=y:=by
 have z:=(qW (x:=x) (y:=y) (by lia)).mp h;rw[l,fc] at z;exact z.symm
noncomputable def tups(H:Hp)(ps:List Addr)(L:LL):Prop:=ps.length=L.length/\∀(i:Nat) p m,ps[i]?=some p->L[i]?=some m->H p=some (.tup (m.map V.int))
def sm(ns:LIq):Prop:=∀n∈ns,0≤n/\n≤1000000
theorem Hq(h:sm ns):bn ns:=λ n hn=>by have:=h n hn;lia
noncomputable def cS(ns ms:LIq)(side:Int):LIq:=ns.set side.toNat (ns.getD side.toNat 0+ms.getD side.toNat 0)
theorem Hr{n k:Nat}(h:k < n):ixN n (k:Int)=some k:=by unfold ixN;rw[if_pos (by lia)];simp;lia
theorem getD_mem{ns:LIq}{k:Nat}(h:k < ns.length):ns.getD k 0∈ns:=by rw[dP,bP h];exact kr h
noncomputable def kP(n:Int):Int:=if n % 17=5 then [(-9223372036854775808:Int),9223372036854775807,-1,4611686018427387904].getD (n / 17 % 4).toNat 0 else (n+9223372036854775808) % 18446744073709551616 - 9223372036854775808
theorem mR:∀ {ns:LIq},(∀n∈ns,0≤n)->0≤ah ns/\ah ns≤ah (ns.map ai)
 | [],_=>by decide
 | n::ns,h=>by
  obtain⟨i0,i1⟩:=mR (ns:=ns) λ m hm=>h m (bU _ hm);have n0:=h n cN;rw[bc,bX,bX];have o:n≤ai n/\0≤ai n:=by unfold ai;split<;>lia
  exact⟨Int.mul_nonneg n0 i0,qX o.1 i1 i0 o.2⟩
theorem Hs{ns:LIq}{k:Nat}(hk:k < ns.length):ns[k]?=some (ns.getD k 0):=by rw[dP,bP hk];rfl
noncomputable def iE(n:Int):Int:=(n+9223372036854775808) % 18446744073709551616 - 9223372036854775808
def qY(x y:Int):Int:=if y=0 then 0 else iE (Int.fdiv x y)
def qZ(x y:Int):Int:=if y=0 then x else Int.fmod x y
noncomputable def wK(w:Str)(x y:Int):Int :=
 if w="add" then iE (x+y) else if w="sub" then iE (x - y) else if w="mul" then iE (x * y) else if w="quo" then qY x y else if w="rest" then qZ x y
 else if w="max" then (if x < y then y else x) else if w="min" then (if y < x then y else x) else if w="less" then (if x < y then 1 else 0) else if w="like" then (if x=y then 1 else 0)
 else if w="and" then Builtin.bitAnd x y else if w="or" then Builtin.bitOr x y else Builtin.bitXor x y
noncomputable def inB(x:Int):Prop:=-9223372036854775808≤x/\x < 9223372036854775808
theorem Ht(n:Int):inB (kP n):=by
 unfold kP inB;split
 ·have h:n / 17 % 4=0\/n / 17 % 4=1\/n / 17 % 4=2\/n / 17 % 4=3:=by lia
  rcases h with h | h | h | h<;>rw[h]<;>exact⟨by decide,by decide⟩
 ·lia
def wM(x:Int):Int:=if x < 0 then -x else x
noncomputable def wN(w:Str)(x:Int):Int:=if w="neg" then iE (-x) else if w="abs" then iE (wM x) else if w="sign" then (if x < 0 then -1 else if 0 < x then 1 else 0) else if x=0 then 1 else 0
def gJ:List Str:=["neg","abs","sign","not"]
noncomputable def fR:List Str:=["add","sub","mul","quo","rest","max","min","less","like","and","or","xor"]
noncomputable abbrev fw:List Str:=["add","mul","max","min","and","or","xor"]
def isF(w:Str):Prop:=w∈fw
noncomputable def cT(w:Str):Int:=if w="mul" then 1 else if w="max" then -9223372036854775808 else if w="min" then 9223372036854775807 else if w="and" then -1 else 0
theorem Hu:cT "add"=0:=by unfold cT;rw[if_neg (by decide +kernel),if_neg (by decide +kernel),if_neg (by decide +kernel),if_neg (by decide +kernel)]
theorem Hv:cT "mul"=1:=by unfold cT;rw[if_pos rfl]
theorem Hw:cT "max"=-9223372036854775808:=by unfold cT;rw[if_neg (by decide +kernel),if_pos rfl]
theorem Hx:cT "min"=9223372036854775807:=by unfold cT;rw[if_neg (by decide +kernel),if_neg (by decide +kernel),if_pos rfl]
theorem Hy:cT "and"=-1:=by unfold cT;rw[if_neg (by decide +kernel),if_neg (by decide +kernel),if_neg (by decide +kernel),if_pos rfl]
theorem Hz:cT "or"=0:=by unfold cT;rw[if_neg (by decide +kernel),if_neg (by decide +kernel),if_neg (by decide +kernel),if_neg (by decide +kernel)]
theorem HA:cT "xor"=0:=by unfold cT;rw[if_neg (by decide +kernel),if_neg (by decide +kernel),if_neg (by decide +kernel),if_neg (by decide +kernel)]
noncomputable def kinds:List Str:=["in","num","count","each","pair","pick","turn","flip","cut","spread","lay","join","fetch","fold","run"]
def kQ(i:Nat):Str:=kinds.getD i ""
noncomputable def HB(fs:List (Str × Int)):LIq:=fs.filterMap λ f=>if f.1=("step" : Str) then some f.2 else none
def fT(i:Nat):LIq:=HB ((formsL.getD i ("",[])).2)
def jD(n:Nat)(os:LIq):Prop:=os.Perm (upL n)
theorem up_mem{n:Nat}{x:Int}:x∈upL n ↔ 0≤x/\x < n:=by
 unfold upL;constructor
 ·intro h;obtain⟨i,hi,rfl⟩:=cO.mp h;have:=fD.mp hi;lia
 ·intro h;exact cO.mpr ⟨x.toNat,fD.mpr (by lia),by lia⟩
theorem da(n:Nat):(upL n).length=n:=by simp[upL]
theorem HC(n:Nat):(upL n).Pairwise (·≤·):=by
 unfold upL;rw[List.pairwise_map];exact List.Pairwise.imp (λ h=>by lia) (List.pairwise_lt_range (n:=n))
theorem wO:∀ {l1 l2:LIq},l1.Perm l2->l1.Pairwise (·≤·)->l2.Pairwise (·≤·)->l1=l2
 | [],l2,p,_,_=>(List.nil_perm.mp p).symm
 | a::l1,l2,p,h1,h2=>by
  cases l2 with
  | nil=>exact List.perm_nil.mp p
  | cons b l2 =>
   obtain⟨a1,a2⟩:=s0y.mp h1;obtain⟨b1,b2⟩:=s0y.mp h2
   have ab:a≤b:=by
    rcases av.mp (p.symm.subset (cN ..)) with e | e
    ·lia
    ·exact a1 b e
   have ba:b≤a:=by
    rcases av.mp (p.subset (cN ..)) with e | e
    ·lia
    ·exact b1 a e
   have e:a=b:=by lia
   subst e;rw[wO (List.perm_cons a |>.mp p) a2 b2]
theorem wP{os ss:LIq}(p:ss.Perm os)(s:ss.Pairwise (·≤·)):ss=upL n ↔ jD n os :=
 ⟨λ e=>p.symm.trans (by rw[e]),λ t=>wO (p.trans t) s (HC n)⟩
def iF(ns os:LIq):LIq:=os.map λ k=>ns.getD k.toNat 0
noncomputable def bY(ns:LIq)(k:Nat)(m:Int):LIq:=ns.take k++[m]++ns.drop k
noncomputable def bZ(ns:LIq)(side:Int):Prop:=side < 0\/(ns.length:Int) < side
theorem wQ(ns:LIq)(k:Nat)(m:Int):(bY ns k m).length=ns.length+1:=by
 unfold bY;simp only[aC,aU,cg,List.length_cons,List.length_nil];lia
theorem rc{ns:LIq}{k:Nat}(h:k < ns.length):ns.getD k 0∈ns:=by rw[dP,bP h];exact kr h
theorem gK{n:Int}(h:0≤n):1≤ai n:=by unfold ai;split<;>lia
theorem re{n:Int}(h:0≤n):(if n > 1 then n else 1)=ai n:=by unfold ai;split<;>split<;>lia
theorem mS{ns:LIq}(h:∀n∈ns,0≤n):1≤ah (ns.map ai):=by
 induction ns with
 | nil=>decide
 | cons n ns ih =>
  rw[bc,bX];have a:=gK (h n cN);have b:=ih λ m hm=>h m (bU _ hm);exact jE (by decide) (qX a b (by decide) (by lia))
theorem rg{r d:Int}(h1:1≤d)(h2:d≤r):1≤r / d:=by
 have:=Int.ediv_le_ediv (a:=d) (b:=r) (c:=d) (by lia) h2;rw[Int.ediv_self (by lia)] at this;exact this
theorem HD{ss:LIq}{k:Nat}{x:Int}(kl:k < ss.length):ss.take k++[x]++ss.drop (k+1)=ss.set k x:=by
 rw[rh,if_pos kl,gc];rfl
theorem db(h:fit ns):bn ns:=λ n hn=>by have:=h.1 n hn;exact⟨this.1,by lia⟩
theorem kR(h:fit ns):¬bq ns:=λ b=>b.elim (λ z=>by have:=h.2.1;lia) (λ z=>by have:=h.2.2.2;lia)
theorem HE{cs:LIq}{n:Nat}(h:cs.length=n):(List.range n).map (λ i=>cs.getD i 0)=cs:=by
 subst h;apply List.ext_getElem?;intro k;by_cases c:k < cs.length
 ·rw[bW,qx c];exact(Hs c).symm
 ·rw[jC (by simp;lia),jC (by lia)]
theorem mT{a b:LIq}(h:a.Perm b):ah a=ah b:=by
 induction h with
 | nil=>rfl
 | cons x _ ih=>rw[bX,bX,ih]
 | swap x y l=>rw[bX,bX,bX,bX,← s0x,← s0x,Int.mul_comm x y]
 | trans _ _ h1 h2=>rw[h1,h2]
theorem HF{ns os:LIq}(t:jD ns.length os):(iF ns os).Perm ns:=by
 have e:(upL ns.length).map (λ k:Int=>ns.getD k.toNat 0)=ns:=by
  unfold upL;rw[bE];exact HE rfl
 have:=t.map (λ k:Int=>ns.getD k.toNat 0);rw[e] at this;exact this
inductive Stp where
 | inp (ms:LIq)
 | num (n:Int)
 | count (ms:LIq) (k:Int)
 | each (w:Str) (a:Nat)
 | pair (w:Str) (a b:Nat)
 | pick (a b c:Nat)
 | turn (a:Nat) (os:LIq)
 | flip (a:Nat) (side:Int)
 | cut (a:Nat) (side f m g:Int)
 | spread (a:Nat) (side m:Int)
 | lay (a:Nat) (ms:LIq)
 | join (a b:Nat) (side:Int)
 | fetch (a b:Nat)
 | fold (w:Str) (a:Nat) (side:Int)
 | run (w:Str) (a:Nat) (side:Int)
noncomputable def aF(mo:Int)(ns:LIq):Prop:=(∀n∈ns,0≤n/\n≤mo)/\ns.length≤6/\1≤ah (ns.map ai)/\ah (ns.map ai)≤mo
def bV(mo:Int):Prop:=2≤mo/\mo≤512
theorem fU{mo:Int}(h:aF mo ns)(m:bV mo):fit ns:=⟨λ n hn=>by have:=h.1 n hn;have:=m.2;lia,h.2.1,h.2.2.1,jE h.2.2.2 m.2⟩
theorem mU{mo:Int}(m:bV mo):aF mo []:=⟨(λ n hn=>nomatch hn),by decide,by decide,by have:=m.1;show(1:Int)≤mo;lia⟩
theorem rj{mo n:Int}(h:aF mo ns)(l:ns.length < 6)(n0:0≤n)(hn:n≤mo / ah (ns.map ai)):aF mo (ns++[n]):=by
 have p:=h.2.2.1;have e:ah ((ns++[n]).map ai)=ah (ns.map ai) * ai n:=by rw[cq];exact Hk _ _
 have o1:=gK n0;have d1:1≤mo / ah (ns.map ai):=rg p h.2.2.2;have le:mo / ah (ns.map ai)≤mo:=Int.ediv_le_self _ (by have:=h.2.2.2;lia);have m2:ah (ns.map ai) * (mo / ah (ns.map ai))≤mo:=wT (by lia);generalize mo / ah (ns.map ai)=q at *;have o2:ai n≤q:=by unfold ai;split<;>lia
 have m1:=jF o2 (show 0≤ah (ns.map ai) by lia);refine⟨λ k hk=>?_,by rw[aC,cK];lia,?_,?_⟩
 ·rcases aM.mp hk with z | z
  ·exact h.1 k z
  ·cases aR.mp z;lia
 ·rw[e];exact jE (by decide) (qX p o1 (by decide) (by lia))
 ·rw[e];lia
noncomputable def OkS(Ss:LL)(S:LIq):Stp->Prop
 | .inp ms=>S=ms/\¬bq ms
 | .num n=>S=[]/\inB n
 | .count ms k=>S=ms/\¬bq ms/\¬off ms k
 | .each w a=>Ss[a]?=some S/\w∈gJ
 | .pair w a b=>∃A B,Ss[a]?=some A/\Ss[b]?=some B/\w∈fR/\aH A B/\S=bC A B
 | .pick a b c=>∃A B C,Ss[a]?=some A/\Ss[b]?=some B/\Ss[c]?=some C/\aH A B/\aH (bC A B) C/\S=bC (bC A B) C
 | .turn a os=>∃A,Ss[a]?=some A/\jD A.length os/\S=iF A os
 | .flip a side=>Ss[a]?=some S/\¬off S side
 | .cut a side f m g=>∃A,Ss[a]?=some A/\¬off A side/\¬bad A side f m g/\m≤512/\S=A.set side.toNat m
 | .spread a side m=>∃A,Ss[a]?=some A/\¬bZ A side/\¬m < 0/\m≤512/\¬bq (bY A side.toNat m)/\S=bY A side.toNat m
 | .lay a ms=>∃A,Ss[a]?=some A/\¬bq ms/\ah A=ah ms/\S=ms
 | .join a b side=>∃A B,Ss[a]?=some A/\Ss[b]?=some B/\A.length=B.length/\¬off A side/\A.eraseIdx side.toNat=B.eraseIdx side.toNat/\¬bq (cS A B side)/\S=cS A B side
 | .fetch a b=>∃n r B,Ss[a]?=some (n::r)/\n≠0/\Ss[b]?=some B/\¬bq (B++r)/\S=B++r
 | .fold w a side=>∃A,Ss[a]?=some A/\isF w/\¬off A side/\S=A.eraseIdx side.toNat
 | .run w a side=>Ss[a]?=some S/\isF w/\¬off S side
theorem jG{mo:Int}(h:aF mo ns):∀n∈ns,0≤n:=λ n hn=>(h.1 n hn).1
theorem wV{n m:Int}(h:n≤m)(h1:1≤m):ai n≤m:=by unfold ai;split<;>lia
theorem HG{mo:Int}(h:aF mo ns)(m:bV mo):aF mo [ah ns]:=by
 have p:=mR (jG h);have b:=h.2.2.2;have o:=gK p.1;have e:ah ([ah ns].map ai)=ai (ah ns):=by show ah [ai (ah ns)]=_;rw[bX];exact lj _
 refine⟨λ n hn=>?_,kg (cy _),by rw[e];exact o,by rw[e];exact wV (by lia) (by have:=m.1;lia)⟩;cases aR.mp hn;lia
theorem HH{mo:Int}(h:aF mo ns)(m:bV mo)(l:ns.length < 6):aF mo (1::ns):=by
 have e:ah ((1::ns).map ai)=ah (ns.map ai):=by rw[bc,bX];exact kN _
 refine⟨λ n hn=>?_,by rw[List.length_cons];lia,by rw[e];exact h.2.2.1,by rw[e];exact h.2.2.2⟩
 rcases av.mp hn with z | z
 ·have:=m.1;lia
 ·exact h.1 n z
theorem HI{mo:Int}(h:aF mo ns)(m:bV mo)(c:ah ns % 2=0):aF mo [ah ns / 2,2]/\ah [ah ns / 2,2]=ah ns:=by
 have p:=mR (jG h);have b:=h.2.2.2;have m1:=m.1;have e:ah ([ah ns / 2,2].map ai)=ai (ah ns / 2) * 2:=by show ah [ai (ah ns / 2),2]=_;rw[bX,bX];show _ * (2 * 1)=_;rfl
 have e2:ah [ah ns / 2,2]=ah ns / 2 * 2:=by rw[bX,bX];show _ * (2 * 1)=_;rfl
 generalize ah ns=P at *;have o:1≤ai (P / 2)/\ai (P / 2) * 2≤mo:=by unfold ai;split<;>lia
 refine⟨⟨λ n hn=>?_,kg (kg (cy _)),by rw[e];lia,by rw[e];exact o.2⟩,by rw[e2];lia⟩
 rcases av.mp hn with z | z
 ·lia
 ·cases aR.mp z;lia
theorem HJ{mo:Int}(h:aF mo ns):aF mo ns.reverse/\ah ns.reverse=ah ns:=by
 have p:=List.reverse_perm ns;have e:=mT (p.map ai);exact⟨⟨λ n hn=>h.1 n (List.mem_reverse.mp hn),by rw[List.length_reverse];exact h.2.1,by rw[e];exact h.2.2.1,by rw[e];exact h.2.2.2⟩,mT p⟩
theorem HK{mo:Int}(h:aF mo ns)(m:bV mo):bn ns:=λ n hn=>by have:=h.1 n hn;have:=m.2;exact⟨by lia,by lia⟩
noncomputable def iG(ns:LIq)(d:Int):LIq:=if d % 4=1 then [ah ns] else if d % 4=2/\ns.length < 6 then 1::ns else if d % 4=3/\ah ns % 2=0 then [ah ns / 2,2] else ns.reverse
theorem HL{mo:Int}(h:aF mo ns)(m:bV mo):aF mo (iG ns d)/\ah (iG ns d)=ah ns:=by
 unfold iG;by_cases c1:d % 4=1
 ·rw[if_pos c1];exact⟨HG h m,by rw[bX];exact lj _⟩
 rw[if_neg c1];by_cases c2:d % 4=2/\ns.length < 6
 ·rw[if_pos c2];exact⟨HH h m c2.2,by rw[bX];exact kN _⟩
 rw[if_neg c2];by_cases c3:d % 4=3/\ah ns % 2=0
 ·rw[if_pos c3];exact HI h m c3.2
 rw[if_neg c3];exact HJ h
noncomputable def dc(A B:LIq)(k:Nat):LIq:=if A.length=B.length/\A.eraseIdx k=B.eraseIdx k then cS A B k else []
theorem HM(i:Nat):upL (i+1)=upL i++[(i:Int)]:=by unfold upL;rw[List.range_succ,cq];rfl
theorem HN{os:LIq}(h:os.Perm (upL i)):(os.take j++(i:Int)::os.drop j).Perm (upL (i+1)):=by
 rw[HM];refine List.Perm.trans List.perm_middle ?_;rw[qT];exact(h.cons _).trans (wW _ _).symm
theorem HP{mo:Int}{ns os:LIq}(h:aF mo ns)(t:jD ns.length os):aF mo (iF ns os):=by
 have p:=HF t;have e:=mT (p.map ai);exact⟨λ n hn=>h.1 n (p.subset hn),by rw[p.length_eq];exact h.2.1,by rw[e];exact h.2.2.1,by rw[e];exact h.2.2.2⟩
theorem HQ{mo:Int}{A B:LIq}(p:A.Perm B)(h:aF mo B):aF mo A:=by
 have e:=mT (p.map ai);exact⟨λ n hn=>h.1 n (p.subset hn),by rw[p.length_eq];exact h.2.1,by rw[e];exact h.2.2.1,by rw[e];exact h.2.2.2⟩
theorem HR{mo x:Int}(h:aF mo A)(l:A.length < 6)(x0:0≤x)(x1:x≤mo / ah (A.map ai)):aF mo (bY A k x):=by
 refine HQ ?_ (rj h l x0 x1);unfold bY;rw[gc];refine List.Perm.trans List.perm_middle ?_;show(x::(A.take k++A.drop k)).Perm _;rw[qT];exact(wW _ _).symm
theorem gM(x:Int)(xs:LIq):ah ((x::xs).map ai)=ai x * ah (xs.map ai):=by rw[bc];exact bX _ _
theorem HS{ns:LIq}(h:∀n∈ns,0≤n):∀n∈ns,n≤ah (ns.map ai):=by
 induction ns with
 | nil=>exact λ n hn=>nomatch hn
 | cons x xs ih =>
  intro n hn;have hx:=h x (cN ..);have ht:∀n∈xs,0≤n:=λ n hn=>h n (bU _ hn);have p:=mS ht;have o:=gK hx;rw[gM]
  rcases av.mp hn with e | hn
  ·rw[e];have le:x≤ai x:=by unfold ai;split<;>lia
   have:=jF p (show 0≤ai x by lia);lia
  ·have:=ih ht n hn;have:=mV o (show 0≤ah (xs.map ai) by lia);lia
theorem HU{ns:LIq}(h:∀n∈ns,0≤n):∀ {k:Nat}{m:Int},0≤m->m≤ns.getD k 0->ah ((ns.set k m).map ai)≤ah (ns.map ai):=by
 induction ns with
 | nil=>intro k m _ _;rw[List.set_nil];exact jh _
 | cons x xs ih =>
  intro k m m0 m1;have hx:=h x (cN ..);have ht:∀n∈xs,0≤n:=λ n hn=>h n (bU _ hn);have p:=mS ht
  cases k with
  | zero =>
   have m1:m≤x:=m1;show ah ((m::xs).map ai)≤_;rw[gM,gM];exact mV (by unfold ai;split<;>split<;>lia) (by lia)
  | succ k =>
   have m1:m≤xs.getD k 0:=m1;show ah ((x::xs.set k m).map ai)≤_;rw[gM,gM];exact jF (ih ht m0 m1) (by have:=gK hx;lia)
theorem HV{ns:LIq}(h:∀n∈ns,0≤n):∀ {k:Nat},ah ((ns.eraseIdx k).map ai)≤ah (ns.map ai):=by
 induction ns with
 | nil=>intro k;rw[List.eraseIdx_nil];exact jh _
 | cons x xs ih =>
  intro k;have hx:=h x (cN ..);have ht:∀n∈xs,0≤n:=λ n hn=>h n (bU _ hn);have p:=mS ht
  cases k with
  | zero =>
   show ah (xs.map ai)≤_;rw[gM];have:=mV (gK hx) (show 0≤ah (xs.map ai) by lia);lia
  | succ k =>
   show ah ((x::xs.eraseIdx k).map ai)≤_;rw[gM,gM];exact jF (ih ht) (by have:=gK hx;lia)
theorem rk{mo:Int}{ns:LIq}(nn:∀n∈ns,0≤n)(l:ns.length≤6)(w:ah (ns.map ai)≤mo):aF mo ns:=⟨λ n hn=>⟨nn n hn,jE (HS nn n hn) w⟩,l,mS nn,w⟩
theorem HW{mo m:Int}(h:aF mo A)(m0:0≤m)(m1:m≤A.getD k 0):aF mo (A.set k m):=rk (λ n hn=>by rcases kS hn with z | z;exact jG h n z;rw[z];exact m0) (by rw[fJ];exact h.2.1) (jE (HU (jG h) m0 m1) h.2.2.2)
theorem HX{mo:Int}(h:aF mo A):aF mo (A.eraseIdx k):=rk (λ n hn=>jG h n (List.mem_of_mem_eraseIdx hn)) (bK (List.length_eraseIdx_le ..) h.2.1) (jE (HV (jG h)) h.2.2.2)
theorem HY{n f g e:Int}(n0:0≤n)(f0:0≤f)(g1:1≤g)(e0:0≤e):0≤(if (n - 1 - f).fdiv g+1 - e > 0 then (n - 1 - f).fdiv g+1 - e else 0)/\(if (n - 1 - f).fdiv g+1 - e > 0 then (n - 1 - f).fdiv g+1 - e else 0)≤n/\¬(0 < (if (n - 1 - f).fdiv g+1 - e > 0 then (n - 1 - f).fdiv g+1 - e else 0)/\n≤f+((if (n - 1 - f).fdiv g+1 - e > 0 then (n - 1 - f).fdiv g+1 - e else 0) - 1) * g):=by
 rw[lx _ (by lia)];have q1:g * ((n - 1 - f) / g)≤n - 1 - f:=wT (by lia);generalize (n - 1 - f) / g=q at *;split
 ·rename_i c;have a1:=mV (show q+1 - e - 1≤q by lia) (show 0≤g by lia);rw[Int.mul_comm q g] at a1;have a2:=jF g1 (show 0≤q+1 - e - 1 by lia);generalize (q+1 - e - 1) * g=z at *;exact⟨by lia,by lia,λ y=>by lia⟩
 ·exact⟨by lia,n0,λ y=>by lia⟩
theorem mW(A:LIq):aH A A:=(wJ A A).mpr (Hn A)
theorem rn(h:aH x y)(l:y.length≤x.length):bC x y=x:=by
 unfold bC;split
 ·rfl
 ·exact(Ho ((wJ x y).mp h) (by lia)).symm
theorem rq{x y:LIq}(l:x.length < y.length):bC x y=y:=by unfold bC;rw[if_neg (by lia)]
theorem wY{P:LIq->Prop}(h:P x)(h2:P y):P (bC x y):=by unfold bC;split<;>assumption
theorem eK{k:Int}{n:Nat}(h:k∈upL n):∃a:Nat,k=a/\a < n:=⟨k.toNat,(eI (up_mem.mp h).1).symm,by have:=up_mem.mp h;lia⟩
theorem wZ{a n:Nat}(h:a < n):(a:Int)∈upL n:=up_mem.mpr ⟨s0m _,Int.ofNat_lt.mpr h⟩
noncomputable def fV(mo:Int)(ds:List Stp)(Ss:LL):Prop:=ds.length=Ss.length/\(∀S∈Ss,aF mo S)/\∀(i:Nat) (d:Stp) (S:LIq),ds[i]?=some d->Ss[i]?=some S->OkS (Ss.take i) S d
theorem xa{mo:Int}(h:fV mo ds Ss)(o:OkS Ss S d)(f:aF mo S):fV mo (ds++[d]) (Ss++[S]):=by
 refine⟨by rw[aC,aC,h.1];rfl,λ T hT=>?_,λ i d' S' e1 e2=>?_⟩
 ·rcases aM.mp hT with z | z
  ·exact h.2.1 T z
  ·cases aR.mp z;exact f
 ·by_cases c:i < ds.length
  ·rw[eT c] at e1;have c':i < Ss.length:=by rw[← h.1];exact c
   rw[eT c'] at e2;rw[kT (dE c')];exact h.2.2 i d' S' e1 e2
  ·have jl:=(bD.mp e1).1;rw[aC,cK] at jl;have je:i=ds.length:=by lia
   rw[je,ef (au _),s1h] at e1;rw[je,h.1,ef (au _),s1h] at e2;cases e1;cases e2;rw[je,h.1,kT (au _),fc];exact o
theorem xb(mo:Int):fV mo [] []:=⟨rfl,(λ _ h=>nomatch h),(λ _ _ _ h=>nomatch h)⟩
theorem xc(h:¬dc A B k=[]):A.length=B.length/\A.eraseIdx k=B.eraseIdx k/\dc A B k=cS A B k:=by
 unfold dc at h ⊢;split
 ·rename_i c;exact⟨c.1,c.2,rfl⟩
 ·rename_i c;rw[if_neg c] at h;exact absurd rfl h
theorem xf{ns:LIq}{m:Int}(h:∀n∈ns,0≤n/\n≤m)(m0:0≤m)(k:Nat):0≤ns.getD k 0/\ns.getD k 0≤m:=by
 by_cases c:k < ns.length
 ·exact h _ (rc c)
 ·rw[dP,jC (by lia)];exact⟨jh _,m0⟩
noncomputable def Md(kd:Int)(A:LIq)(k:Nat)(Ss Ms:LL):Prop:=(kd=11/\Ms=Ss.map (λ B=>dc A B k))\/(kd=12/\0 < A.getD 0 0/\Ms=Ss.map (λ B=>B++A.drop 1))\/(¬kd=11/\¬0 < A.getD 0 0/\Ms=[[]])
theorem HZ(h:Md kd A k Ss Ms)(l:Ss.length≤40):Ms.length≤40:=by
 rcases h with ⟨_,rfl⟩ | ⟨_,_,rfl⟩ | ⟨_,_,rfl⟩
 ·rw[aj];exact l
 ·rw[aj];exact l
 ·exact kg (cy _)
theorem Ia{kd mo:Int}(h:Md kd A k Ss Ms)(fA:aF mo A)(fS:∀S∈Ss,aF mo S)(m:bV mo):∀M∈Ms,∀n∈M,0≤n/\n≤1024:=by
 have m2:=m.2;have m1:=m.1
 rcases h with ⟨_,rfl⟩ | ⟨_,_,rfl⟩ | ⟨_,_,rfl⟩
 ·intro M hM n hn;obtain⟨B,hB,rfl⟩:=cO.mp hM;by_cases c:dc A B k=[]
  ·rw[c] at hn;exact nomatch hn
  ·rw[(xc c).2.2] at hn;unfold cS at hn
   rcases kS hn with z | z
   ·have:=fA.1 n z;lia
   ·have a1:=xf fA.1 (show 0≤mo by lia) (k:Int).toNat
    have a2:=xf (fS B hB).1 (show 0≤mo by lia) (k:Int).toNat
    lia
 ·intro M hM n hn;obtain⟨B,hB,rfl⟩:=cO.mp hM
  rcases aM.mp hn with z | z
  ·have:=(fS B hB).1 n z;lia
  ·have:=fA.1 n (xg z);lia
 ·intro M hM n hn;cases aR.mp hM;exact nomatch hn
theorem Ib{M:LIq}(h:∀n∈M,0≤n/\n≤1024):bn M:=λ n hn=>by have:=h n hn;exact⟨this.1,by lia⟩
theorem Ic{M:LIq}{mo:Int}(m:bV mo)(l:M.length≤6)(w:ah (M.map ai)≤mo):¬bq M:=λ z=>z.elim (by lia) (by have:=m.2;lia)
theorem Ie{Ss:LL}{M:Int}(h:M∈Ss.map (λ S=>(S.length:Int)))(h0:0 < M):∃S∈Ss,0 < S.length:=by
 obtain⟨S,hS,rfl⟩:=cO.mp h;exact⟨S,hS,by lia⟩
noncomputable def kdN:Stp->Nat
 | .inp ..=>0 | .num ..=>1 | .count ..=>2 | .each ..=>3 | .pair ..=>4 | .pick ..=>5 | .turn ..=>6 | .flip ..=>7 | .cut ..=>8 | .spread ..=>9 | .lay ..=>10 | .join ..=>11 | .fetch ..=>12 | .fold ..=>13 | .run ..=>14
noncomputable def fW:Stp->List Nat
 | .inp ..=>[] | .num ..=>[] | .count ..=>[]
 | .each _ a=>[a] | .pair _ a b=>[a,b] | .pick a b c=>[a,b,c]
 | .turn a _=>[a] | .flip a _=>[a] | .cut a ..=>[a] | .spread a ..=>[a] | .lay a _=>[a]
 | .join a b _=>[a,b] | .fetch a b=>[a,b] | .fold _ a _=>[a] | .run _ a _=>[a]
noncomputable def mX:Stp->Prop
 | .each w _=>w∈gJ | .pair w _ _=>w∈fR | .fold w _ _=>isF w | .run w _ _=>isF w | _=>True
theorem rB(h:OkS Ss S d):mX d:=by
 cases d with
 | each w a=>exact h.2
 | pair w a b=>obtain⟨A,B,_,_,z,_⟩:=h;exact z
 | fold w a s=>obtain⟨A,_,z,_⟩:=h;exact z
 | run w a s=>exact h.2.1
 | _=>trivial
theorem Ig(h:OkS Ss S d):∀a∈fW d,a < Ss.length:=by
 have g:∀ {a:Nat}{A:LIq},Ss[a]?=some A->a < Ss.length:=λ e=>(bD.mp e).1;intro x hx
 cases d with
 | inp ms=>exact nomatch hx
 | num n=>exact nomatch hx
 | count ms k=>exact nomatch hx
 | each w a=>cases aR.mp hx;exact g h.1
 | pair w a b =>
  obtain⟨A,B,e1,e2,_⟩:=h
  rcases av.mp hx with z | z
  ·rw[z];exact g e1
  ·cases aR.mp z;exact g e2
 | pick a b c =>
  obtain⟨A,B,C,e1,e2,e3,_⟩:=h
  rcases av.mp hx with z | z
  ·rw[z];exact g e1
  rcases av.mp z with z | z
  ·rw[z];exact g e2
  ·cases aR.mp z;exact g e3
 | turn a os=>obtain⟨A,e1,_⟩:=h;cases aR.mp hx;exact g e1
 | flip a s=>cases aR.mp hx;exact g h.1
 | cut a s f m gg=>obtain⟨A,e1,_⟩:=h;cases aR.mp hx;exact g e1
 | spread a s m=>obtain⟨A,e1,_⟩:=h;cases aR.mp hx;exact g e1
 | lay a ms=>obtain⟨A,e1,_⟩:=h;cases aR.mp hx;exact g e1
 | join a b s =>
  obtain⟨A,B,e1,e2,_⟩:=h
  rcases av.mp hx with z | z
  ·rw[z];exact g e1
  ·cases aR.mp z;exact g e2
 | fetch a b =>
  obtain⟨n,r,B,e1,_,e2,_⟩:=h
  rcases av.mp hx with z | z
  ·rw[z];exact g e1
  ·cases aR.mp z;exact g e2
 | fold w a s=>obtain⟨A,e1,_⟩:=h;cases aR.mp hx;exact g e1
 | run w a s=>cases aR.mp hx;exact g h.1
theorem xh(d:Stp):(fW d).length≤3:=by cases d<;>exact Nat.le_of_sub_eq_zero rfl
noncomputable def Ih(mo:Int)(ds:List Stp)(Ss:LL)(os:LIq):Prop:=bV mo/\fV mo ds Ss/\0 < ds.length/\ds.length≤40/\0 < os.length/\os.length≤8/\∀o∈os,0≤o/\o < (ds.length:Int)
theorem xi(h:fit A):sm A:=λ n hn=>by have:=h.1 n hn;exact⟨by lia,by lia⟩
section
variable {band:Int->Int->Int}
variable (hv:∀x y,band x y=2 * band (x / 2) (y / 2)+(if x % 2=1/\y % 2=1 then 1 else 0))
include hv
end
end _M
structure PySem.W.Fast:Prop where(tw10629212176141656387 tw6699007556249200139 tw2691950476975976097 tw14809383318465119961 tw2817004779185544902 tw5009141884774104569 tw10773991681333762623 tw17459405107824821619 tw10025620457187610273 tw13612807025577557843 tw6428364638313986464 tw11844050229944032530 tw18281988821721249091 tw18384191627305119162 tw2987153296476292692 tw4423016962920223294 tw8263002447060810241 tw2286232287314751633 tw5805262313166884050 tw13816743497096309640 tw5497766652098877351 tw14856942377385437394 tw94428990998232017 tw663206136139282594 tw5178360407390319997 tw17268740274214740654 tw14892452318270124035 tw9628348320235035919 tw16164528633011494616 tw9935308937045349405 tw8114148630021611285 tw4549291705967357554 tw694330289204080145 tw10251174248958643126 tw2424060991243381274 tw11743015363089138609 tw9590484258893157889 tw13922154079298008356 tw16281666229108375801 tw14680330910843284867 tw7768613750098457567 tw6413821862449082435 tw7969074569240269981 tw7529713172252369469 tw5036259800127900569 tw2008260943331484836 tw12681474008232169592 tw5581416223362489112 tw4042264087806091907 tw14074520168414914178 tw16291449200992923445 tw594350570266383188 tw962979913539141364 tw13763514368667777654 tw2374362862347338263 tw3590123137432110226 tw859446609471554405 tw2458335718349895961 tw5377514812163618169 tw259341792075957395 tw1193659095131754750 tw11646182536534393694 tw18352375576641840810 tw4592782810504909511 tw11623782493446996947 tw15440851309007057193 tw1333257577185336344 tw10108430990567793636 tw10089251457923601710 tw14452077037825358472 tw15291314811236842362 tw3250822120170233369 tw12766293506002487795 tw6456586631218574024 tw17222313920303084013 tw16554341273014691855 tw15756698795745306360 tw5602390002054857196 tw4023673638685422690 tw772800000342877565 tw15534272513354114451 tw4123824584477981867 tw8156898948147819541 tw6360672517208560548 tw10549702160177482049 tw9657545859090959544 tw2739974361752639516 tw14669793033643895527 tw9441338328037567749 tw2551507497175856248 tw1512440346566713627 tw15269533073669810046 tw7054149355192531056 tw13334895851286642796 tw8043840605129116756 tw15919473992463388880 tw12096077257355189758 tw14875190108155543073 tw4805061468989514082 tw14674224086638645582 tw13510908879381733911 tw5319973103893405145 tw17011115972882244896 tw2642390398296267488 tw6404031780371681512 tw9295557937547557011 tw14715665968677773380 tw7347813342679511535 tw7496865673326256978 tw5428882945802494996 tw6224383465578409064 tw14667657126617274086 tw2222300073017534989 tw5578798964340758170 tw7327485347777855096 tw10151420221120512648 tw15216015020167481215 tw10517410022186975207 tw11856113976720242065 tw6707942754671602465 tw14542703295654514901 tw7204764600534028103 tw1693539106114291246 tw5282436298305345088 tw14613080284420561942 tw2840427239243837582 tw12753819875713808510 tw8017350102951429098 tw3039046435857835696 tw11927866854890184366 tw17582324900287204375 tw6749228060316275259 tw6143649728969358888 tw2561651414914117133 tw8711309919730976253 tw16111622938997592564 tw16305706574741596681 tw7915995811637070609 tw15150252373679872596 tw5609522802762318955 tw9062625318933911626 tw3652753624117034048 tw2286965488853581900 tw11106306218617755685 tw17007716926837068123 tw6337343550759232420 tw4558455745514035468 tw5233008332480583024 tw10829739720473670218 tw17227602863016912809 tw2290234616733677643 tw9326765986261151166 tw14732499271942298466 tw13891144294865498975 tw7236534684268256175 tw5704965313196946038 tw10786590734380494132 tw11952938448315493318 tw3055198492758691778 tw788941380562220642 tw31160779441844368 tw1936468853891603142 tw16046403002809350677 tw526539497911041003 tw1737470926423126695 tw1150769317704409962 tw7142128954350702192 tw15324251685034639502 tw13639122838427986979 tw13005655185977939644 tw10599149696483719991 tw7491209730855869562 tw14162581770899294107 tw13469847514555318023 tw12391963034718159949 tw7520101074388032213 tw11193498657058271492 tw7406335409018966170 tw9387867031797375511 tw1252590701518314075 tw8624476145004549839 tw9738025126297421096 tw1612800688401669007 tw17044346453825461736 tw10297869841692870908 tw18287280624363492811 tw2431135617745767144 tw778502307546651565 tw3258505526109653169 tw9252020676895727610 tw8111321259514160335 tw13310170913638036157 tw11032463600866454122 tw14887365847211333910 tw10023567106724460091 tw6084485841207628118 tw3893377000090399526 tw8628974926660981297 tw16193500909214977441 tw6098144302562678226 tw16366759937579192632 tw156002946176048836 tw10399647901073185642 tw3713776477785271377 tw1824688065687973154 tw12864452016182510713 tw912864848838128991 tw3511314000717584101 tw5669420340517840039 tw985646647946435131 tw5283089946187930422 tw12828605333564735540 tw15300929470977972962 tw1320743292214194521:True)
namespace _M
open PySem _L PyProof.Rows
noncomputable def top(i:Nat):Stmt:=PySem.Challenge.pw_sideloom_k33_faults_told.main.body.getD i (.Pass ⟨0,0,0,0⟩)
def tI(ns:LIq):TV:=.tup (ns.map .int)
def lI(ns:LIq):TV:=.lst (ns.map .int)
theorem kU{ns:LIq}{i:Nat}(h:(ns.map TV.int)[i]?=some t):∃n,t=.int n/\ns[i]?=some n:=by
 rw[bW] at h
 cases q:ns[i]? with
 | none=>rw[q] at h;cases h
 | some n=>rw[q] at h;cases h;exact⟨n,rfl,rfl⟩
theorem ag(ns:LIq):(ns.map TV.int).length=ns.length:=aj ..
theorem p64:jP 2 64:=⟨by decide,by decide,by decide⟩
theorem p63:jP 2 63:=⟨by decide,by decide,by decide⟩
theorem iH{i j:Int}(h0:-18446744073709551616 < j)(h1:j < 18446744073709551616):IntMulOk i j:=CMul.ok (.inr ⟨by lia,by lia⟩)
theorem mY{i j:Int}(h0:-18446744073709551616 < i)(h1:i < 18446744073709551616):IntMulOk i j:=CMul.ok (.inl ⟨by lia,by lia⟩)
theorem s2{a b:Prop}{P:Bool}(h1:P=true->a)(h2:P=false->b):if P=true then a else b:=by
 cases P
 ·exact h2 rfl
 ·exact h1 rfl
theorem sF{a b:Prop}{P:Bool}(h:P=false)(k:b):if P=true then a else b:=by rw[h];exact k
theorem sT{a b:Prop}{P:Bool}(h:P=true)(k:a):if P=true then a else b:=by rw[h];exact k
theorem cl{FT:List PSp}{f:Nat}{ts:List TV}{K:TV->Prop}(e:FT[f]?=some S)(h:S (ts.map .fz) K)(n:ts.all TV.nb=true):∃P,(∃S,FT[f]?=some S/\S (ts.map .fz) P)/\∀t,P t->(ts.all TV.nb=false->LF t)/\K t:=⟨K,⟨S,e,h⟩,λ t k=>⟨λ z=>(by rw[n] at z;cases z),k⟩⟩
theorem eO{GT:List TV}{α:Type}(f g:α->TV):∀(l:List α) {Kn:List TV->Prop},(∀a∈l,stE ρ tg (f a) λ ρ'=>wE FT GT e ρ' λ y=>y.nb=true/\y.fz=g a)->Kn (l.map g)->cmF (λ t K'=>stE ρ tg t λ ρ'=>wE FT GT e ρ' λ y=>(y.nb=true/\K' [y.fz])) (l.map f) Kn
 | [],_,_,k=>k
 | a::l,Kn,h,k=>eG (λ ρ' q=>ao e (λ y ⟨n,z⟩=>⟨n,by rw[z];exact eO f g l (λ b hb=>h b (by simp[hb])) k⟩) q) (h a (by simp))
theorem Ii{n:Int}(h:(!decide (n=0))=true):ai n=n:=by unfold ai;rw[if_neg (by simpa using h)]
theorem Ij{n:Int}(h:(!decide (n=0))=false):ai n=1:=by unfold ai;rw[if_pos (by simpa using h)]
theorem neF{a b:Int}(h:a=b):(!_L.eqT (TV.int a).fz (TV.int b).fz)=false:=by subst h;simp[TV.fz,_L.eqT]
theorem mZ{GT:List TV}{α:Type}{l:List α}{f:α->TV}{its:List TV}(h0:its=l.map f)(g:α->TV){Kn:List TV->Prop}(h:∀a∈l,stE ρ tg (f a) λ ρ'=>wE FT GT e ρ' λ y=>y.nb=true/\y.fz=g a)(k:Kn (l.map g)):cmF (λ t K'=>stE ρ tg t λ ρ'=>wE FT GT e ρ' λ y=>(y.nb=true/\K' [y.fz])) its Kn:=h0 ▸ eO f g l h k
theorem dB{ns:LIq}{k:Nat}(h:k < ns.length):atI (ns.map TV.int) (k:Int)=some (.int (ns.getD k 0)):=fH (by rw[bW,bP h,dP,bP h];rfl)
theorem iJ{n i:Nat}(h:((List.range n).map f)[i]?=some a):i < n/\a=f i:=by
 have hi:=(bD.mp h).1;rw[aj,df] at hi;rw[bW,qx hi] at h;exact⟨hi,(cr h).symm⟩
theorem sE{a b:Prop}{x y:Str}(h1:x=y->a)(h2:x≠y->b):if _L.eqT (TV.str x).fz (TV.str y).fz=true then a else b:=by
 by_cases h:x=y
 ·rw[if_pos (show _L.eqT (TV.str x).fz (TV.str y).fz=true from bw h)];exact h1 h
 ·rw[if_neg (by rw[show _L.eqT (TV.str x).fz (TV.str y).fz=decide (x=y) from rfl];simpa using h)];exact h2 h
theorem sN{a b:Prop}{x y:Int}(h1:x=y->a)(h2:x≠y->b):if _L.eqT (TV.int x).fz (TV.int y).fz=true then a else b:=by
 by_cases h:x=y
 ·rw[if_pos (show _L.eqT (TV.int x).fz (TV.int y).fz=true from bw h)];exact h1 h
 ·rw[if_neg (by rw[show _L.eqT (TV.int x).fz (TV.int y).fz=decide (x=y) from rfl];simpa using h)];exact h2 h
theorem s3{a b:Prop}{P:Prop} [Decidable P] (h1:P->a)(h2:¬P->b):if decide P=true then a else b:=by
 by_cases h:P
 ·rw[if_pos (bw h)];exact h1 h
 ·rw[if_neg (by simpa using h)];exact h2 h
theorem rC:∀(l m:LIq),_L.eqTL (l.map TV.int) (m.map TV.int)=decide (l=m)
 | [],[]=>rfl
 | [],_::_=>rfl
 | _::_,[]=>rfl
 | x::xs,y::ys=>by
  rw[bc,bc,_L.eqTL,rC xs ys,show _L.eqT (TV.int x) (TV.int y)=decide (x=y) from rfl,← Bool.decide_and];exact rD.mpr (by rw[List.cons.injEq])
theorem fh(l m:LIq):_L.eqT (TV.tup (l.map TV.int)) (TV.tup (m.map TV.int))=decide (l=m):=rC l m
theorem xj(l m:LIq):_L.eqT (TV.lst (l.map TV.int)) (TV.lst (m.map TV.int))=decide (l=m):=rC l m
theorem dpI(ns:LIq):∀x∈ns.map TV.int,_L.dp 8 x:=λ x hx=>by obtain⟨n,_,rfl⟩:=cO.mp hx;trivial
theorem dpT(ns:LIq):_L.dp 9 (TV.tup (ns.map TV.int)):=by simp only[_L.dp];exact dpI ns
theorem dpL(ns:LIq):_L.dp 9 (TV.lst (ns.map TV.int)):=by simp only[_L.dp];exact dpI ns
theorem ng{ns:LIq}{o:Int}(h0:0≤o)(h1:o < ns.length):atI (ns.map TV.int) o=some (.int (ns.getD o.toNat 0)):=by
 have z:=dB (ns:=ns) (k:=o.toNat) (by lia)
 rwa [show((o.toNat:Nat):Int)=o by lia] at z
theorem xk(x:Int):ax x y=Int.fdiv x y:=by unfold ax;split<;>first | rfl | exact(lx _ (by lia)).symm
theorem Ik(x:Int):aq x y=Int.fmod x y:=by unfold aq;split<;>first | rfl | exact(tm _ (by lia)).symm
noncomputable def stI:Stp->List TV
 | .inp ms=>[.str "in",tI ms]
 | .num n=>[.str "num",.int n]
 | .count ms k=>[.str "count",tI ms,.int k]
 | .each w a=>[.str "each",.str w,.int a]
 | .pair w a b=>[.str "pair",.str w,.int a,.int b]
 | .pick a b c=>[.str "pick",.int a,.int b,.int c]
 | .turn a os=>[.str "turn",.int a,tI os]
 | .flip a side=>[.str "flip",.int a,.int side]
 | .cut a side f m g=>[.str "cut",.int a,.int side,.int f,.int m,.int g]
 | .spread a side m=>[.str "spread",.int a,.int side,.int m]
 | .lay a ms=>[.str "lay",.int a,tI ms]
 | .join a b side=>[.str "join",.int a,.int b,.int side]
 | .fetch a b=>[.str "fetch",.int a,.int b]
 | .fold w a side=>[.str "fold",.str w,.int a,.int side]
 | .run w a side=>[.str "run",.str w,.int a,.int side]
def stT(d:Stp):TV:=.tup (stI d)
theorem fl2:∀x∈[TV.str "fold",TV.str "run"],flT x=true:=by decide
theorem aB{α:Type}{f:α->TV}{Ss:List α}{a:Nat}{A:α}(e:Ss[a]?=some A):atI (Ss.map f) (a:Int)=some (f A):=fH (by rw[bW,e];rfl)
theorem clB{FT:List PSp}{f:Nat}{ts:List TV}{K:TV->Prop}(e:FT[f]?=some S)(h:S (ts.map .fz) λ t=>LF t/\K t):∃P,(∃S,FT[f]?=some S/\S (ts.map .fz) P)/\∀t,P t->(ts.all TV.nb=false->LF t)/\K t:=⟨_,⟨S,e,h⟩,λ t k=>⟨λ _=>k.1,k.2⟩⟩
theorem sl3{n:Nat}(h:n≤3):n < sizeLine:=aQ (by lia)
theorem LFI(ns:LIq):LF (tI ns):=by unfold tI;simp only[LF];intro x hx;obtain⟨n,_,rfl⟩:=cO.mp hx;simp[LF]
theorem Il{α:Type}{f:α->TV}{l:List α}{i:Nat}(h:(l.map f)[i]?=some t):∃a,t=f a/\l[i]?=some a:=by
 rw[bW] at h;obtain⟨a,ea,rfl⟩:=uY.mp h;exact⟨a,rfl,ea⟩
theorem LF2(S:LIq):LF (.tup [tI S,.non]):=by
 simp only[LF];intro x hx;simp only[av,bh,aY] at hx
 rcases hx with rfl | rfl
 ·exact LFI S
 ·simp[LF]
theorem neT{a b:Int}(h:a≠b):(!_L.eqT (TV.int a).fz (TV.int b).fz)=true:=by rw[show _L.eqT (TV.int a).fz (TV.int b).fz=decide (a=b) from rfl];simp[h]
theorem fj{GT:List TV}{α:Type}(f g:α->TV)(p:α->Bool):∀(l:List α) {its:List TV}{Kn:List TV->Prop},its=l.map f->(∀a∈l,stE ρ tg (f a) λ ρ'=>wE FT GT c ρ' λ x=>x=.bl (p a)/\(p a=true->wE FT GT e ρ' λ y=>y.nb=true/\y.fz=g a))->Kn ((l.filter p).map g)->cmF (λ t K'=>stE ρ tg t λ ρ'=>wE FT GT c ρ' λ x=>b1 x λ q=>if q=true then wE FT GT e ρ' λ y=>(y.nb=true/\K' [y.fz]) else K' []) its Kn
 | [],_,_,h0,_,k=>by subst h0;exact k
 | a::l,_,Kn,h0,h,k=>by
  subst h0;show stE ρ tg (f a) λ ρ'=>wE FT GT c ρ' λ x=>b1 x λ q=>if q=true then wE FT GT e ρ' (λ y=>y.nb=true/\cmF _ (l.map f) λ ys=>Kn ([y.fz]++ys)) else cmF _ (l.map f) λ ys=>Kn ([]++ys);refine eG (λ ρ' q=>ao c (λ x ⟨e1,q⟩=>?_) q) (h a (by simp));subst e1;have hr:=λ b hb=>h b (bU a hb);show if p a=true then _ else _;by_cases z:p a=true
  ·rw[if_pos z];rw[List.filter_cons_of_pos z,bc] at k;exact ao e (λ y ⟨n,w⟩=>⟨n,by rw[w];exact fj f g p l rfl hr k⟩) (q z)
  ·rw[if_neg z];rw[List.filter_cons_of_neg z] at k;exact fj f g p l rfl hr k
theorem p62:jP 2 62:=⟨by decide,by decide,by decide⟩
theorem Im{i:Int}(h0:0≤i)(h1:i < 4):atI [TV.int (-(2 ^ (63:Int).toNat)),TV.int (2 ^ (63:Int).toNat - 1),TV.int (-1),TV.int (2 ^ (62:Int).toNat)] i=some (.int ([(-9223372036854775808:Int),9223372036854775807,-1,4611686018427387904].getD i.toNat 0)):=by
 have:i=0\/i=1\/i=2\/i=3:=by lia
 rcases this with rfl | rfl | rfl | rfl<;>rfl
theorem aA{n:Nat}(h:n≤1000):n≤sizeLine:=dE (aQ h)
theorem g0L:0≤sizeLine:=aA (by decide)
theorem g1L:1≤sizeLine:=aA (by decide)
theorem g2L:2≤sizeLine:=aA (by decide)
theorem g3L:3≤sizeLine:=aA (by decide)
theorem g4L:4≤sizeLine:=aA (by decide)
theorem g6L:6≤sizeLine:=aA (by decide)
theorem g7L:7≤sizeLine:=aA (by decide)
theorem Io:12≤sizeLine:=aA (by decide)
theorem nh(ns:LIq)(a b:Option Int):af (ns.map TV.int) a b=((ns.drop (_H.sIx ns.length 0 a)).take (_H.sIx ns.length ns.length b - _H.sIx ns.length 0 a)).map TV.int:=by
 unfold af;rw[aj,kW,List.map_drop]
theorem cU(ns:LIq)(k:Nat):af (ns.map TV.int) none (some (k:Int))=(ns.take k).map TV.int:=by
 rw[nh];simp only[_H.sIx,qv,Nat.sub_zero];rw[if_neg (by lia),Int.toNat_natCast,s0h];split
 ·rfl
 ·rw[eE (by lia),eE (by lia)]
theorem dC(ns:LIq)(k:Nat):af (ns.map TV.int) (some (k:Int)) none=(ns.drop k).map TV.int:=by
 rw[nh];simp only[_H.sIx];rw[if_neg (by lia),Int.toNat_natCast,s0h];split
 ·rw[eE (by rw[cg];lia)]
 ·rw[mF,xl (by lia)];simp
noncomputable def ni(i:Nat):LIq:=[[],[],[],[2],[2,3],[1,2,3],[1],[1],[1],[1],[1],[1,2],[1,2],[2],[2]].getD i []
theorem rF:∀i,i < 15->fT i=ni i:=by decide +kernel
def mdT(d:Stp)(S:LIq):TV:=.tup [stT d,tI S]
theorem aV{i j:Int}(h:0 < j):aq i j=i % j:=if_pos h
theorem xn{i j:Int}(h:0 < j):ax i j=i / j:=if_pos h
theorem Ip(k:Int)(h0:0≤k)(h1:k < 7):∃x:Int,atI [TV.int 2,TV.int 3,TV.int 1,TV.int 4,TV.int 2,TV.int 3,TV.int 0] k=some (.int x)/\0≤x:=by
 have:k=0\/k=1\/k=2\/k=3\/k=4\/k=5\/k=6:=by lia
 rcases this with rfl | rfl | rfl | rfl | rfl | rfl | rfl<;>exact⟨_,rfl,by decide⟩
theorem rG(ws:List Str){k:Int}(h0:0≤k)(h1:k < (ws.length:Int)):∃w,atI (ws.map TV.str) k=some (.str w)/\w∈ws:=by
 have l:k.toNat < ws.length:=by lia
 refine⟨ws[k.toNat],?_,kr l⟩;have z:=fH (xs:=ws.map TV.str) (j:=k.toNat) (v:=.str ws[k.toNat]) (by rw[bW,bP l];rfl)
 rwa [eI h0] at z
theorem iK(ms:LIq):_L.eqT (TV.tup (ms.map TV.int)).fz (TV.tup []).fz=decide (ms=[]):=fh ms []
theorem Iq(d:Stp):LF (stT d):=by
 unfold stT;simp only[LF];intro x hx
 cases d<;>simp only[stI,av,bh,aY] at hx<;>(try rcases hx with rfl | rfl | rfl | rfl | rfl | rfl)<;>(try rcases hx with rfl | rfl | rfl | rfl | rfl)<;>(try rcases hx with rfl | rfl | rfl | rfl)<;>(try rcases hx with rfl | rfl | rfl)<;>(try rcases hx with rfl | rfl)<;>first | exact LFI _ | simp[LF]
theorem nj(d:Stp)(S:LIq):LF (mdT d S):=by
 unfold mdT;simp only[LF];intro x hx;simp only[av,bh,aY] at hx
 rcases hx with rfl | rfl
 ·exact Iq d
 ·exact LFI S
theorem kX(n:Nat):((List.range (((n:Nat):Int)).toNat).map λ i:Nat=>TV.int (i:Nat))=(upL n).map TV.int:=by unfold upL;rw[bE];rfl
theorem mxT(h:aH A B):TV.tup (if (A.map TV.int).length < (B.map TV.int).length then B.map TV.int else A.map TV.int)=tI (bC A B):=by
 rw[ag,ag];by_cases c:A.length < B.length
 ·rw[if_pos c,rq c];rfl
 ·rw[if_neg c,rn h (by lia)];rfl
noncomputable def pB(Ss:LL)(A:LIq)(k:Int):Bool:=@decide (aH A (Ss.getD k.toNat [])) (Classical.propDecidable _)
theorem nk:pB Ss A k=true ↔ aH A (Ss.getD k.toNat []):=by unfold pB;exact @s0z _ (Classical.propDecidable _)
theorem rH{a b:Bool}{p:Prop}(h1:a=true ↔ p)(h2:b=true ↔ p):a=b:=by
 cases a<;>cases b<;>simp_all
theorem bR{Ss:LL}{a:Nat}(h:a < Ss.length):Ss[a]?=some (Ss.getD a []):=by rw[dP,bP h];rfl
theorem or3{G N:Prop}{e1 e2 e3:Bool}(g:(e1=true\/e2=true/\e3=true)->G)(n:e1=false->N):if e1=true then G else True/\(if e2=true then (if e3=true then G else N) else N):=by
 cases e1
 ·refine⟨trivial,?_⟩;cases e2
  ·exact n rfl
  ·cases e3
   ·exact n rfl
   ·exact g (.inr ⟨rfl,rfl⟩)
 ·exact g (.inl rfl)
theorem Ir{A:LIq}{k:Nat}:(af (A.map TV.int) none (some (k:Int))++[TV.int x])++af (A.map TV.int) (some (k:Int)) none=(bY A k x).map TV.int:=by rw[cU,dC];unfold bY;simp
theorem Iu{A:LIq}{k:Nat}(kl:k < A.length):(af (A.map TV.int) none (some (k:Int))++[TV.int x])++af (A.map TV.int) (some ((k:Int)+1)) none=(A.set k x).map TV.int:=by
 rw[show(k:Int)+1=((k+1:Nat):Int) by lia,cU,dC,← HD kl];simp
theorem dU{A:LIq}(h:A.length≤6):(af (A.map TV.int) a b).length≤6:=by
 rw[nh,ag,aU,cg];lia
theorem fX{GT:List TV}(P:En->Prop)(h:wS FT GT (.ite c a b .nil) ρ P rt)(k:∀ρ',P ρ'->wS FT GT r ρ' nx rt):wS FT GT (.ite c a b r) ρ nx rt :=
 ao c (λ t q=>bT (λ _ q=>jo (λ q=>bB a (λ ρ' p=>k ρ' p) (λ _ h=>h) q) (λ q=>bB b (λ ρ' p=>k ρ' p) (λ _ h=>h) q) q) q) h
theorem xp{A:LIq}(h:0 < A.length):atI (A.map TV.int) 0=some (.int (A.getD 0 0)):=dB (k:=0) h
theorem Iv(k:Int)(h0:0≤k)(h1:k < 6):∃x:Int,atI [TV.int 1,TV.int 2,TV.int 3,TV.int 2,TV.int 1,TV.int 8] k=some (.int x)/\1≤x/\x≤8:=by
 have:k=0\/k=1\/k=2\/k=3\/k=4\/k=5:=by lia
 rcases this with rfl | rfl | rfl | rfl | rfl | rfl<;>exact⟨_,rfl,by decide,by decide⟩
theorem Iw(ns:LIq)(lo hi:Nat):∃ms:LIq,af (ns.map TV.int) (some (lo:Int)) (some (hi:Int))=ms.map TV.int/\ms.length≤hi - lo/\ms.length≤ns.length:=by
 refine⟨_,nh ns _ _,?_,?_⟩
 ·rw[aU,cg];simp only[_H.sIx];rw[if_neg (by lia),if_neg (by lia),Int.toNat_natCast,Int.toNat_natCast];lia
 ·rw[aU,cg];lia
theorem Ix(d:Stp):atI (stI d) 0=some (.str (kQ (kdN d))):=by cases d<;>rfl
noncomputable def Iy:Stp->Str
 | .each w _=>w | .pair w _ _=>w | .fold w _ _=>w | .run w _ _=>w | _ => ""
noncomputable def mOk(ns:LIq):Prop:=∀(i:Nat) (n:Int),ns[i]?=some n->IntMulOk (ah (ns.take i)) n
theorem mok(sd:bn ns):mOk ns:=λ i n h=>by have b:=sd n (br h);exact iH (by lia) (by lia)
noncomputable def dg(ns:LIq):Prop:=6 < ns.length\/(ns.length≤6/\mOk (ns.map ai)/\512 < ah (ns.map ai))
theorem rJ(sd:bn ns)(h:bq ns):dg ns:=by
 unfold bq at h;by_cases z:6 < ns.length
 ·exact .inl z
 ·exact .inr ⟨by lia,mok (mQ sd),by lia⟩
noncomputable def NmF(k:Nat)(u:TV):Prop:=∃(i:Nat) (xs:List TV) (g:Int->Int),u=.tup xs/\i < 15/\atI xs 0=some (.str (kQ i))/\(∀p∈fT i,atI xs p=some (.int (g p)))/\∃p∈fT i,g p < 0\/(k:Int)≤g p
theorem xq:∀i,i < 15->(fT i).length≤3:=λ i h=>by rw[rF i h];revert h;revert i;decide +kernel
noncomputable def wds:List Str:=["word","side","beyond","unlike","large"]
theorem LFn(w:Str):LF (.tup [.non,.str w]):=by
 simp only[LF];intro x hx;simp only[av,bh,aY] at hx
 rcases hx with rfl | rfl<;>simp[LF]
theorem atM{l:List TV}{K:TV->Prop}(h0:0 < l.length)(h:∀x∈l,K x):∃x,atI l (aq i ((l.length:Nat):Int))=some x/\K x:=by
 have f0:=cM i (show(l.length:Int)≠0 by lia);have f1:=cV i (show(0:Int) < l.length by lia);have lt:(i % (l.length:Int)).toNat < l.length:=by lia
 refine⟨l[(i % (l.length:Int)).toNat],?_,h _ (kr lt)⟩;have z:=fH (xs:=l) (j:=(i % (l.length:Int)).toNat) (v:=l[(i % (l.length:Int)).toNat]) (bP lt);rw[eI f0] at z;rw[aV (by lia)];exact z
theorem kY{l:List TV}{K:TV->Prop}(h0:0 < l.length)(h:∀x∈l,K x):((l.length:Nat):Int)≠0/\∃x,atI l (aq i ((l.length:Nat):Int))=some x/\K x:=⟨by lia,atM h0 h⟩
theorem atN{l:List TV}{i n:Int}{K:TV->Prop}(h0:0 < l.length)(e:n=(l.length:Nat))(h:∀x∈l,K x):∃x,atI l (aq i n)=some x/\K x:=by subst e;exact atM h0 h
theorem cG{k:Nat}(i:Nat)(xs:List TV)(l:LIq)(hi:i < 15)(h0:atI xs 0=some (.str (kQ i)))(h:(ni i).map (atI xs)=l.map λ a=>some (TV.int a))(hb:∃a∈l,a < 0\/(k:Int)≤a):NmF k (.tup xs):=by
 have hp:∀p∈ni i,∃a∈l,atI xs p=some (.int a):=λ p hp=>by
  have z:atI xs p∈l.map λ a=>some (TV.int a):=h ▸ s0i hp;obtain⟨a,am,e⟩:=cO.mp z;exact⟨a,am,e.symm⟩
 refine⟨i,xs,λ p=>match atI xs p with | some (.int a)=>a | _=>0,rfl,hi,h0,?_,?_⟩<;>rw[rF i hi]
 ·intro p pm;obtain⟨a,_,e⟩:=hp p pm;simp only[e]
 ·obtain⟨a,am,hb⟩:=hb;have z:some (TV.int a)∈(ni i).map (atI xs):=h ▸ s0i am;obtain⟨p,pm,e⟩:=cO.mp z;exact⟨p,pm,by simp only[e];exact hb⟩
theorem lt1{α:Type}{Ss:List α}{a:Nat}{A:α}(e:Ss[a]?=some A):∀x∈[a],x < Ss.length:=λ x hx=>by cases aR.mp hx;exact(bD.mp e).1
theorem lt2{α:Type}{Ss:List α}{a b:Nat}{A B:α}(e:Ss[a]?=some A)(e':Ss[b]?=some B):∀x∈[a,b],x < Ss.length:=λ x hx=>by
 rcases av.mp hx with rfl | hx
 ·exact(bD.mp e).1
 ·exact lt1 e' x hx
theorem lt3{α:Type}{Ss:List α}{a b c:Nat}{A B C:α}(e:Ss[a]?=some A)(e':Ss[b]?=some B)(e2:Ss[c]?=some C):∀x∈[a,b,c],x < Ss.length:=λ x hx=>by
 rcases av.mp hx with rfl | hx
 ·exact(bD.mp e).1
 ·exact lt2 e' e2 x hx
theorem jH{n:Nat}(h:n≤9000):n < sizeLine:=s0s h (by decide)
theorem rK{n:Nat}(h:n≤9000):n≤sizeLine:=dE (jH h)
theorem pk_iff:aH x y ↔ x <+: y\/y <+: x:=by
 unfold aH;split
 ·rename_i c;refine⟨λ h=>.inr (nq.mpr h.symm),λ h=>?_⟩
  rcases h with h | h
  ·have:=h.length_le;lia
  ·exact(nq.mp h).symm
 ·rename_i c;refine⟨λ h=>.inl (nq.mpr h.symm),λ h=>?_⟩
  rcases h with h | h
  ·exact(nq.mp h).symm
  ·have e:=h.eq_of_length (by have:=h.length_le;lia);subst e;exact fc
theorem Iz(h:aH x y):aH y x:=pk_iff.mpr (pk_iff.mp h).symm
theorem IA(h:aH C A)(h':aH C B)(l:A.length≤C.length):aH A B:=by
 have a:A <+: C:=by
  rcases pk_iff.mp h with z | z
  ·have e:=z.eq_of_length (by have:=z.length_le;lia);subst e;exact z
  ·exact z
 rcases pk_iff.mp h' with z | z
 ·exact pk_iff.mpr (.inl (a.trans z))
 ·exact pk_iff.mpr (List.prefix_or_prefix_of_prefix a z)
noncomputable def pC(Ss:LL)(A B:LIq)(k:Nat):Bool:=@decide (aH (Ss.getD k []) A/\aH (Ss.getD k []) B) (Classical.propDecidable _)
theorem xr:pC Ss A B k=true ↔ aH (Ss.getD k []) A/\aH (Ss.getD k []) B:=by unfold pC;exact @s0z _ (Classical.propDecidable _)
theorem rO{A:LIq}{k:Nat}(h:A.length≤6):af (A.map TV.int) none (some (k:Int))++af (A.map TV.int) (some ((k:Int)+1)) none=(A.eraseIdx k).map TV.int:=by
 rw[show(k:Int)+1=((k+1:Nat):Int) by lia,cU,dC,jy,cq]
theorem rP:IntMulOk 1 j:=mY (by decide) (by decide)
theorem IB{xs:LIq}{w:Int}(h0:bn ys):mOk (w::ys):=λ i n h=>by
 cases i with
 | zero=>exact rP
 | succ i=>have b:=h0 n (br (show ys[i]?=some n from h));exact iH (by lia) (by lia)
theorem xt{w:Int}(fA:fit A)(h:512 < w):dg (w::A):=by
 by_cases z:6 < (w::A).length
 ·exact .inl z
 refine .inr ⟨by lia,?_,?_⟩
 ·rw[bc];exact IB (xs:=[]) (mQ (db fA))
 ·rw[bc,bX];have p:=fA.2.2.1;have e:ai w=w:=by unfold ai;rw[if_neg (by lia)]
  rw[e];have:=jF p (show 0≤w by lia);lia
theorem xv{w:Int}(h:512 < w):dg [0,w]:=by
 refine .inr ⟨aN rfl,λ i n hn=>?_,?_⟩
 ·match i,hn with
  | 0,hn=>exact rP
  | 1,hn=>exact rP
  | i+2,hn=>cases hn
 ·show 512 < 1 * ai 0 * ai w;have e:ai w=w:=by unfold ai;rw[if_neg (by lia)]
  rw[e,show ai 0=1 from rfl];lia
theorem xw:fit []:=⟨(λ n hn=>nomatch hn),by decide,by decide,by decide⟩
theorem gN(k:Nat):af l none (some (k:Int))=l.take k:=by
 unfold af;simp only[_H.sIx,qv,Nat.sub_zero];rw[if_neg (by lia),Int.toNat_natCast,s0h];split
 ·rfl
 ·rw[eE (by lia),eE (by lia)]
theorem IC(k:Nat):af l (some (k:Int)) none=l.drop k:=by
 unfold af;simp only[_H.sIx];rw[if_neg (by lia),Int.toNat_natCast,s0h];split
 ·rw[eE (by rw[cg];lia)]
 ·rw[mF,xl (by lia)];simp
theorem rQ(k:Nat):af l (some ((k:Int)+1)) none=l.drop (k+1):=by rw[show(k:Int)+1=((k+1:Nat):Int) by lia,IC]
noncomputable def zx4:XSp:=λ ts E=>∃(w:Str) (x:Int),ts=[.str w,.int x]/\okS 1000 w/\w ∉ gJ/\E (.c 0)
noncomputable def zx5:XSp:=λ ts E=>∃(w:Str) (x y:Int),ts=[.str w,.int x,.int y]/\okS 1000 w/\w ∉ fR/\E (.c 0)
noncomputable def zx6:XSp:=λ ts E=>∃(w:Str),ts=[.str w]/\okS 1000 w/\¬isF w/\E (.c 0)
def xy:XSp:=λ ts E=>∃ns,ts=[tI ns]/\dg ns/\E (.c 4)
noncomputable def xz:XSp:=λ ts E=>∃(ns:LIq) (side:Int),ts=[tI ns,.int side]/\off ns side/\E (.c 1)
noncomputable def rV:XSp:=λ ts E=>∃(ns os:LIq),ts=[tI ns,tI os]/\ns.length≤20/\os.length≤20/\¬jD ns.length os/\E (.c 1)
noncomputable def nr:XSp:=λ ts E=>∃(ns:LIq) (side:Int),ts=[tI ns,.int side]/\off ns side/\E (.c 1)
noncomputable def rY:XSp:=λ ts E=>∃(ns:LIq) (side first many step:Int),ts=[tI ns,.int side,.int first,.int many,.int step]/\((off ns side/\E (.c 1))\/(¬off ns side/\bad ns side first many step/\(first < 0\/many < 0\/step < 1\/many < 1000000)/\E (.c 2)))
noncomputable def rZ:XSp:=λ ts E=>∃(ns:LIq) (side many:Int),ts=[tI ns,.int side,.int many]/\((bZ ns side/\E (.c 1))\/(¬bZ ns side/\many < 0/\E (.c 2))\/(¬bZ ns side/\¬many < 0/\ns.length≤20/\dg (bY ns side.toNat many)/\E (.c 4)))
noncomputable def se:XSp:=λ ts E=>∃(ns ms:LIq),ts=[tI ns,tI ms]/\((dg ms/\E (.c 4))\/(¬bq ms/\bn ns/\bn ms/\ms.length≤20/\ah ns≠ah ms/\E (.c 3)))
noncomputable def sg:XSp:=λ ts E=>∃(ns ms:LIq) (side:Int),ts=[tI ns,tI ms,.int side]/\ns.length≤20/\((ns.length≠ms.length/\E (.c 3))\/(ns.length=ms.length/\((off ns side/\E (.c 1))\/(¬off ns side/\ns.eraseIdx side.toNat≠ms.eraseIdx side.toNat/\E (.c 3))\/(¬off ns side/\ns.eraseIdx side.toNat=ms.eraseIdx side.toNat/\dg (cS ns ms side)/\E (.c 4)))))
noncomputable def xA:XSp:=λ ts E=>∃(ns ms:LIq),ts=[tI ns,tI ms]/\ms.take ns.length≠ns/\E (.c 3)
noncomputable def sh:XSp:=λ ts E=>∃(ns ms:LIq),ts=[tI ns,tI ms]/\¬aH ns ms/\E (.c 3)
noncomputable def si:XSp:=λ ts E=>∃(ns ms ks:LIq),ts=[tI ns,tI ms,tI ks]/\(¬aH ns ms\/(aH ns ms/\¬aH (bC ns ms) ks))/\E (.c 3)
noncomputable def sj:XSp:=λ ts E=>∃(ns ms:LIq),ts=[tI ns,tI ms]/\((ns=[]/\E (.c 1))\/(∃r,ns=0::r/\E (.c 2))\/(∃n r,ns=n::r/\n≠0/\r.length≤20/\ms.length≤20/\dg (ms++r)/\E (.c 4)))
noncomputable def sr:XSp:=λ ts E=>∃(ns:LIq) (side:Int),ts=[tI ns,.int side]/\off ns side/\E (.c 1)
noncomputable def xB:XSp:=λ ts E=>∃(ns:LIq) (side:Int),ts=[tI ns,.int side]/\bn ns/\ns.length≤20/\((bq ns/\E (.c 4))\/(¬bq ns/\off ns side/\E (.c 1)))
noncomputable def sv:XSp:=λ ts E=>∃d:Stp,ts=[stT d]/\¬mX d/\okS 1000 (Iy d)/\E (.c 0)
noncomputable def nz:XSp:=λ ts E=>∃d:Stp,ts=[stT d]/\((∃ms,d=.inp ms/\dg ms/\E (.c 4))\/(∃ms k,d=.count ms k/\bn ms/\ms.length≤20/\((bq ms/\E (.c 4))\/(¬bq ms/\off ms k/\E (.c 1)))))
noncomputable def fY:XSp:=λ ts E=>∃(d:Stp) (A:LIq),ts=[stT d,tI A]/\match d with | .turn _ os=>rV [tI A,tI os] E | .flip _ s=>nr [tI A,.int s] E | .cut _ s f m g=>rY [tI A,.int s,.int f,.int m,.int g] E | .spread _ s m=>rZ [tI A,.int s,.int m] E | .lay _ ms=>se [tI A,tI ms] E | .fold _ _ s=>sr [tI A,.int s] E | .run _ _ s=>nr [tI A,.int s] E | _=>False
noncomputable def sw:XSp:=λ ts E=>∃(t:TV) (d:Stp) (Ss:LL),ts=[stT d,t]/\(t=.tup (Ss.map tI)\/t=.lst (Ss.map tI))/\(sv [stT d] E\/(mX d/\match d with | .pair _ a b=>∃A B,Ss[a]?=some A/\Ss[b]?=some B/\sh [tI A,tI B] E | .pick a b c=>∃A B C,Ss[a]?=some A/\Ss[b]?=some B/\Ss[c]?=some C/\si [tI A,tI B,tI C] E | .join a b s=>∃A B,Ss[a]?=some A/\Ss[b]?=some B/\sg [tI A,tI B,.int s] E | .fetch a b=>∃A B,Ss[a]?=some A/\Ss[b]?=some B/\sj [tI A,tI B] E | .inp _=>nz [stT d] E | .count _ _=>nz [stT d] E | .num _=>False | .each _ _=>False | .turn a _=>∃A,Ss[a]?=some A/\fY [stT d,tI A] E | .flip a _=>∃A,Ss[a]?=some A/\fY [stT d,tI A] E | .cut a _ _ _ _=>∃A,Ss[a]?=some A/\fY [stT d,tI A] E | .spread a _ _=>∃A,Ss[a]?=some A/\fY [stT d,tI A] E | .lay a _=>∃A,Ss[a]?=some A/\fY [stT d,tI A] E | .fold _ a _=>∃A,Ss[a]?=some A/\fY [stT d,tI A] E | .run _ a _=>∃A,Ss[a]?=some A/\fY [stT d,tI A] E))
noncomputable def FS(Ss:LL)(k:Nat)(d:Stp):Prop:=(∀a∈fW d,a < Ss.length)/\sw [stT d,.lst (Ss.map tI)] (λ n=>n=.c k)
noncomputable def xC(Ss:LL)(u:TV)(w:Str):Prop:=(40≤Ss.length/\w="many")\/(Ss.length < 40/\NmF Ss.length u/\w="name")\/(Ss.length < 40/\∃d k,u=stT d/\FS Ss k d/\wds[k]?=some w)
noncomputable def Prg(us:List TV)(os:LIq)(k:Nat)(w:Str)(Ss:LL):Prop:=(∀S∈Ss,fit S)/\Ss.length=k/\k≤40/\os.length≤500/\(∃ds:List Stp,ds.length=k/\us.take k=ds.map stT/\∀(i:Nat) (d:Stp) (S:LIq),ds[i]?=some d->Ss[i]?=some S->OkS (Ss.take i) S d)/\((∃xs,us[k]?=some (.tup xs)/\xC Ss (.tup xs) w)\/(us.length=k/\w="out" /\ (os.length=0\/8 < os.length\/∃o∈os,o < 0\/(k:Int)≤o)))
section
variable {Ss:LL}{a b c:Nat}{A B C:LIq}{s f m g:Int}
theorem ID{w:Str}(e:Ss[a]?=some A)(hw:w ∉ gJ)(ok:okS 1000 w):FS Ss 0 (.each w a):=⟨lt1 e,_,.each w a,Ss,rfl,.inr rfl,.inl ⟨.each w a,rfl,hw,ok,rfl⟩⟩
theorem IE{w:Str}(e:Ss[a]?=some A)(hw:w ∉ fR)(ok:okS 1000 w):FS Ss 0 (.pair w a a):=⟨lt2 e e,_,.pair w a a,Ss,rfl,.inr rfl,.inl ⟨.pair w a a,rfl,hw,ok,rfl⟩⟩
theorem IF(e:Ss[a]?=some A)(hw:¬isF w)(ok:okS 1000 w):FS Ss 0 (.fold w a s):=⟨lt1 e,_,.fold w a s,Ss,rfl,.inr rfl,.inl ⟨.fold w a s,rfl,hw,ok,rfl⟩⟩
theorem IG(e:Ss[a]?=some A)(hw:¬isF w)(ok:okS 1000 w):FS Ss 0 (.run w a s):=⟨lt1 e,_,.run w a s,Ss,rfl,.inr rfl,.inl ⟨.run w a s,rfl,hw,ok,rfl⟩⟩
theorem xD(e:Ss[a]?=some A)(h:off A s):FS Ss 1 (.flip a s):=⟨lt1 e,_,.flip a s,Ss,rfl,.inr rfl,.inr ⟨trivial,A,e,.flip a s,A,rfl,A,s,rfl,h,rfl⟩⟩
theorem IH(e:Ss[a]?=some A)(h:off A s):FS Ss 1 (.cut a s f m g):=⟨lt1 e,_,.cut a s f m g,Ss,rfl,.inr rfl,.inr ⟨trivial,A,e,.cut a s f m g,A,rfl,A,s,f,m,g,rfl,.inl ⟨h,rfl⟩⟩⟩
theorem II(e:Ss[a]?=some A)(hw:isF w)(h:off A s):FS Ss 1 (.fold w a s):=⟨lt1 e,_,.fold w a s,Ss,rfl,.inr rfl,.inr ⟨hw,A,e,.fold w a s,A,rfl,A,s,rfl,h,rfl⟩⟩
theorem IJ(e:Ss[a]?=some A)(hw:isF w)(h:off A s):FS Ss 1 (.run w a s):=⟨lt1 e,_,.run w a s,Ss,rfl,.inr rfl,.inr ⟨hw,A,e,.run w a s,A,rfl,A,s,rfl,h,rfl⟩⟩
theorem IL(e:Ss[a]?=some A)(l:A.length≤20)(h:off A s):FS Ss 1 (.join a a s):=⟨lt2 e e,_,.join a a s,Ss,rfl,.inr rfl,.inr ⟨trivial,A,A,e,e,A,A,s,rfl,l,.inr ⟨rfl,.inl ⟨h,rfl⟩⟩⟩⟩
theorem IM(e:Ss[a]?=some A)(h:bZ A s):FS Ss 1 (.spread a s m):=⟨lt1 e,_,.spread a s m,Ss,rfl,.inr rfl,.inr ⟨trivial,A,e,.spread a s m,A,rfl,A,s,m,rfl,.inl ⟨h,rfl⟩⟩⟩
theorem IN(sd:bn A)(l:A.length≤20)(nb:¬bq A)(h:off A s):FS Ss 1 (.count A s):=⟨(λ x hx=>nomatch hx),_,.count A s,Ss,rfl,.inr rfl,.inr ⟨trivial,.count A s,rfl,.inr ⟨A,s,rfl,sd,l,.inr ⟨nb,h,rfl⟩⟩⟩⟩
theorem xF{os:LIq}(e:Ss[a]?=some A)(l:A.length≤20)(l':os.length≤20)(h:os.length≠A.length):FS Ss 1 (.turn a os):=⟨lt1 e,_,.turn a os,Ss,rfl,.inr rfl,.inr ⟨trivial,A,e,.turn a os,A,rfl,A,os,rfl,l,l',(λ tk=>h (by rw[tk.length_eq,da])),rfl⟩⟩
theorem IP(e:Ss[a]?=some [])(e':Ss[b]?=some B):FS Ss 1 (.fetch a b):=⟨lt2 e e',_,.fetch a b,Ss,rfl,.inr rfl,.inr ⟨trivial,[],B,e,e',[],B,rfl,.inl ⟨rfl,rfl⟩⟩⟩
theorem xG(e:Ss[a]?=some A)(h:¬bZ A s)(hm:m < 0):FS Ss 2 (.spread a s m):=⟨lt1 e,_,.spread a s m,Ss,rfl,.inr rfl,.inr ⟨trivial,A,e,.spread a s m,A,rfl,A,s,m,rfl,.inr (.inl ⟨h,hm,rfl⟩)⟩⟩
theorem kZ(e:Ss[a]?=some A)(h:¬off A s)(hb:bad A s f m g)(h2:f < 0\/m < 0\/g < 1\/m < 1000000):FS Ss 2 (.cut a s f m g):=⟨lt1 e,_,.cut a s f m g,Ss,rfl,.inr rfl,.inr ⟨trivial,A,e,.cut a s f m g,A,rfl,A,s,f,m,g,rfl,.inr ⟨h,hb,h2,rfl⟩⟩⟩
theorem IQ{r:LIq}(e:Ss[a]?=some (0::r))(e':Ss[b]?=some B):FS Ss 2 (.fetch a b):=⟨lt2 e e',_,.fetch a b,Ss,rfl,.inr rfl,.inr ⟨trivial,0::r,B,e,e',0::r,B,rfl,.inr (.inl ⟨r,rfl,rfl⟩)⟩⟩
theorem IR(e:Ss[a]?=some A)(sd:bn A)(sd':bn B)(l:B.length≤20)(nb:¬bq B)(h:ah A≠ah B):FS Ss 3 (.lay a B):=⟨lt1 e,_,.lay a B,Ss,rfl,.inr rfl,.inr ⟨trivial,A,e,.lay a B,A,rfl,A,B,rfl,.inr ⟨nb,sd,sd',l,h,rfl⟩⟩⟩
theorem IS{w:Str}(e:Ss[a]?=some A)(e':Ss[b]?=some B)(hw:w∈fR)(h:¬aH A B):FS Ss 3 (.pair w a b):=⟨lt2 e e',_,.pair w a b,Ss,rfl,.inr rfl,.inr ⟨hw,A,B,e,e',A,B,rfl,h,rfl⟩⟩
theorem sx(e:Ss[a]?=some A)(e':Ss[b]?=some B)(e2:Ss[c]?=some C)(h:¬aH A B\/(aH A B/\¬aH (bC A B) C)):FS Ss 3 (.pick a b c):=⟨lt3 e e' e2,_,.pick a b c,Ss,rfl,.inr rfl,.inr ⟨trivial,A,B,C,e,e',e2,A,B,C,rfl,h,rfl⟩⟩
theorem IT(e:Ss[a]?=some A)(e':Ss[b]?=some B)(l:A.length≤20)(h:A.length≠B.length):FS Ss 3 (.join a b s):=⟨lt2 e e',_,.join a b s,Ss,rfl,.inr rfl,.inr ⟨trivial,A,B,e,e',A,B,s,rfl,l,.inl ⟨h,rfl⟩⟩⟩
theorem IU(e:Ss[a]?=some A)(e':Ss[b]?=some B)(l:A.length≤20)(h:A.length=B.length)(no:¬off A s)(he:A.eraseIdx s.toNat≠B.eraseIdx s.toNat):FS Ss 3 (.join a b s):=⟨lt2 e e',_,.join a b s,Ss,rfl,.inr rfl,.inr ⟨trivial,A,B,e,e',A,B,s,rfl,l,.inr ⟨h,.inr (.inl ⟨no,he,rfl⟩)⟩⟩⟩
theorem sB(h:dg A):FS Ss 4 (.inp A):=⟨(λ x hx=>nomatch hx),_,.inp A,Ss,rfl,.inr rfl,.inr ⟨trivial,.inp A,rfl,.inl ⟨A,rfl,h,rfl⟩⟩⟩
theorem IV(sd:bn A)(l:A.length≤20)(h:bq A):FS Ss 4 (.count A s):=⟨(λ x hx=>nomatch hx),_,.count A s,Ss,rfl,.inr rfl,.inr ⟨trivial,.count A s,rfl,.inr ⟨A,s,rfl,sd,l,.inl ⟨h,rfl⟩⟩⟩⟩
theorem xH(e:Ss[a]?=some A)(h:dg B):FS Ss 4 (.lay a B):=⟨lt1 e,_,.lay a B,Ss,rfl,.inr rfl,.inr ⟨trivial,A,e,.lay a B,A,rfl,A,B,rfl,.inl ⟨h,rfl⟩⟩⟩
theorem xI(e:Ss[a]?=some A)(h:¬bZ A s)(hm:¬m < 0)(l:A.length≤20)(hb:dg (bY A s.toNat m)):FS Ss 4 (.spread a s m):=⟨lt1 e,_,.spread a s m,Ss,rfl,.inr rfl,.inr ⟨trivial,A,e,.spread a s m,A,rfl,A,s,m,rfl,.inr (.inr ⟨h,hm,l,hb,rfl⟩)⟩⟩
theorem IW(e:Ss[a]?=some A)(l:A.length≤20)(no:¬off A s)(hb:dg (cS A A s)):FS Ss 4 (.join a a s):=⟨lt2 e e,_,.join a a s,Ss,rfl,.inr rfl,.inr ⟨trivial,A,A,e,e,A,A,s,rfl,l,.inr ⟨rfl,.inr (.inr ⟨no,rfl,hb,rfl⟩)⟩⟩⟩
theorem IY{n:Int}{r:LIq}(e:Ss[a]?=some (n::r))(e':Ss[b]?=some B)(n0:n≠0)(l:r.length≤20)(l':B.length≤20)(hb:dg (B++r)):FS Ss 4 (.fetch a b):=⟨lt2 e e',_,.fetch a b,Ss,rfl,.inr rfl,.inr ⟨trivial,n::r,B,e,e',n::r,B,rfl,.inr (.inr ⟨n,r,rfl,n0,l,l',hb,rfl⟩)⟩⟩
end
noncomputable def Spl(Ss:LL)(u:TV)(w:Str):Prop:=(NmF Ss.length u/\w="name")\/∃d k,u=stT d/\FS Ss k d/\wds[k]?=some w
theorem xJ{mo:Int}(hmo:bV mo)(gl:fV mo ds Ss)(d40:ds.length≤40){k:Nat}(kl:k < ds.length)(sp:Spl (Ss.take k) (.tup xs) w){us:List TV}{os:LIq}(lo:os.length≤500)(e1:us.take k=(ds.take k).map stT)(e2:us[k]?=some (.tup xs)):Prg us os k w (Ss.take k):=by
 have dS:=gl.1;have lk:(Ss.take k).length=k:=by rw[aU];lia
 refine⟨λ S hS=>fU (gl.2.1 S (nC hS)) hmo,lk,by lia,lo,⟨ds.take k,by rw[aU];lia,e1,λ i d S h1 h2=>?_⟩,.inl ⟨xs,e2,?_⟩⟩
 ·rw[kI] at h1 h2;split at h1
  ·rename_i c;rw[if_pos c] at h2;rw[nE,eW (by lia)];exact gl.2.2 i d S h1 h2
  ·cases h1
 ·rcases sp with ⟨h,e⟩ | ⟨d,j,h⟩
  ·exact .inr (.inl ⟨by lia,h,e⟩)
  ·exact .inr (.inr ⟨by lia,d,j,h⟩)
theorem IZ{mo:Int}(hmo:bV mo)(gl:fV mo ds Ss)(d40:ds.length≤40){us:List TV}{os:LIq}(lo:os.length≤500)(e1:us.take 40=(ds++List.replicate (40 - ds.length) (Stp.num 7)).map stT)(e2:us[40]?=some (.tup xs)):Prg us os 40 "many" (Ss++List.replicate (40 - ds.length) []):=by
 have dS:=gl.1;have l4:(Ss++List.replicate (40 - ds.length) ([]:LIq)).length=40:=by rw[aC,dH];lia
 refine⟨λ S hS=>?_,l4,au _,lo,⟨_,by rw[aC,dH];lia,e1,λ i d S h1 h2=>?_⟩,.inl ⟨xs,e2,.inl ⟨by lia,rfl⟩⟩⟩
 ·rcases aM.mp hS with z | z
  ·exact fU (gl.2.1 S z) hmo
  ·cases sC z;exact xw
 ·by_cases c:i < ds.length
  ·rw[eT c] at h1;rw[eT (by lia)] at h2;rw[kT (by lia)];exact gl.2.2 i d S h1 h2
  ·rw[ef (by lia)] at h1 h2;cases sC (br h1);cases sC (br h2);exact⟨rfl,by unfold inB;lia⟩
theorem Ja{mo:Int}(hmo:bV mo)(gl:fV mo ds Ss)(d40:ds.length≤40){os:LIq}(lo:os.length≤500)(h:os.length=0\/8 < os.length\/∃o∈os,o < 0\/(ds.length:Int)≤o):Prg (ds.map stT) os ds.length "out" Ss :=
 ⟨λ S hS=>fU (gl.2.1 S hS) hmo,gl.1.symm,d40,lo,⟨ds,rfl,by rw[eE (by rw[aj];exact au _)],λ i d S h1 h2=>gl.2.2 i d S h1 h2⟩,.inr ⟨by rw[aj],rfl,h⟩⟩
noncomputable def xK:XSp:=λ ts E=>∃(us:List TV) (os:LIq) (k:Nat) (w:Str) (Ss:LL),ts=[.tup [.tup us,tI os]]/\Prg us os k w Ss/\E (.b k w)
def zp0:PSp:=λ ts Q=>∃n,ts=[.int n]/\Q (.int (iE n))
noncomputable def zc0:Ct:=(.ret (.ad (.md (.sb V0 (.g 0)) (.bin .Pow N2 (.n 64))) (.g 0)))
noncomputable def zp1:PSp:=λ ts Q=>∃n:Int,ts=[.int n]/\Q (.int (if n < 0 then -1 else if 0 < n then 1 else 0))
noncomputable def zc1:Ct:=(.r (.lt V0 N0) (.neg N1) (.ret (.ite (.gt V0 N0) N1 N0)))
noncomputable def zp2:PSp:=λ ts Q=>∃x y:Int,ts=[.int x,.int y]/\inB x/\inB y/\Q (.int (qY x y))
def zc2:Ct:=(.r (.eq V1 N0) N0 (.ret (.c1 0 (.dv V0 V1))))
noncomputable def zp3:PSp:=λ ts Q=>∃x y:Int,ts=[.int x,.int y]/\Q (.int (qZ x y))
def zc3:Ct:=(.ret (.ite (.eq V1 N0) V0 (.md V0 V1)))
noncomputable def zp4:PSp:=λ ts Q=>∃(w:Str) (x:Int),ts=[.str w,.int x]/\w∈gJ/\Q (.int (wN w x))
noncomputable def zc4:Ct:=(.r (.es V0 "neg") (.c1 0 (.neg V1)) (.r (.es V0 "abs") (.c1 0 (.b1 .abs V1)) (.r (.es V0 "sign") (.c1 1 V1) (.r (.es V0 "not") (.ite (.eq V1 N0) N1 N0) .never))))
noncomputable def zp5:PSp:=λ ts Q=>∃(w:Str) (x y:Int),ts=[.str w,.int x,.int y]/\inB x/\inB y/\w∈fR/\Q (.int (wK w x y))
noncomputable def zc5:Ct:=(.r (.es V0 "add") (.c1 0 (.ad V1 V2)) (.r (.es V0 "sub") (.c1 0 (.sb V1 V2)) (.r (.es V0 "mul") (.c1 0 (.ml V1 V2)) (.r (.es V0 "quo") (.c2 2 V1 V2) (.r (.es V0 "rest") (.c2 3 V1 V2) (.r (.es V0 "max") (.b2 .max V1 V2) (.r (.es V0 "min") (.b2 .min V1 V2) (.r (.es V0 "less") (.ite (.lt V1 V2) N1 N0) (.r (.es V0 "like") (.ite (.eq V1 V2) N1 N0) (.r (.es V0 "and") (.bin .BitAnd V1 V2) (.r (.es V0 "or") (.bin .BitOr V1 V2) (.r (.es V0 "xor") (.bin .BitXor V1 V2) .never))))))))))))
noncomputable def zp6:PSp:=λ ts Q=>∃(w:Str),ts=[.str w]/\isF w/\Q (.int (cT w))
noncomputable def zc6:Ct:=(.r (.cmp .In V0 (.t3 (.w "add") (.w "or") (.w "xor"))) N0 (.r (.es V0 "mul") N1 (.r (.es V0 "max") (.g 0) (.r (.es V0 "min") (.g 1) (.r (.es V0 "and") (.neg N1) .never)))))
noncomputable def zp7:PSp:=λ ts Q=>∃i:Nat,i < 15/\ts=[.str (kQ i)]/\Q (.lst ((fT i).map .int))
noncomputable def zc7:Ct:=(.ret (.compI ["kind","place"] [] [] [0,1] .seq (.a1 (.dk 6 V0)) (.es V0 "step") V1))
noncomputable def zp8:PSp:=λ ts Q=>(∃d:Stp,ts=[stT d]/\Q (tI ((fW d).map λ a:Nat=>(a:Int))))\/∃(i:Nat) (xs:List TV) (g:Int->Int),ts=[.tup xs]/\i < 15/\atI xs 0=some (.str (kQ i))/\(∀p∈fT i,atI xs p=some (.int (g p)))/\Q (tI ((fT i).map g))
noncomputable def zc8:Ct:=(.ret (.b1 .tuple (.comp ["place"] ["step"] [0] [0] .seq (.a1 (.c1 7 (.x 0 0))) (.ix V1 V0))))
noncomputable def zp9:PSp:=λ ts Q=>∃(t:TV),ts=[t]/\∃ns,(t=tI ns\/t=lI ns)/\mOk ns/\Q (.int (ah ns))
noncomputable def zc9:Ct:=(.set 1 N1 (.for [2] .seq (.a1 V0) (.set 1 (.ml V1 V2) .nil) (.ret V1)))
noncomputable def xL:PSp:=λ ts Q=>∃ns,ts=[tI ns]/\mOk (ns.map ai)/\ns.length≤63/\Q (.int (ah (ns.map ai)))
noncomputable def Jb:Ct:=(.ret (.c1 9 (.comp ["side"] [] [] [0] .seq (.a1 V0) (.ite (.ne V0 N0) V0 N1))))
noncomputable def xM:PSp:=λ ts Q=>∃ns,ts=[tI ns]/\bn ns/\ns.length≤63/\¬bq ns/\Q (tI ns)
noncomputable def Jc:Ct:=(.nv (.gt (.ln V0) (.g 2)) (.nv (.gt (.c1 10 V0) (.g 3)) (.ret V0)))
noncomputable def xN:PSp:=λ ts Q=>∃(ns:LIq) (k:Nat) (m:Int),ts=[tI ns,.int k,.int m]/\ns.length≤63/\k < ns.length/\Q (tI (ns.set k m))
noncomputable def Jd:Ct:=(.ret (.ad (.ad (.st V0 V1) (.t1 V2)) (.sf V0 (.ad V1 N1))))
noncomputable def xO:PSp:=λ ts Q=>∃(ns:LIq) (k:Nat) (m:Int),ts=[tI ns,.int k,.int m]/\ns.length≤63/\Q (tI (bY ns k m))
noncomputable def Je:Ct:=(.ret (.ad (.ad (.st V0 V1) (.t1 V2)) (.sf V0 V1)))
noncomputable def xP:PSp:=λ ts Q=>∃(ns:LIq) (k:Nat),ts=[tI ns,.int k]/\ns.length≤63/\k < ns.length/\Q (tI (ns.eraseIdx k))
def Jf:Ct:=(.ret (.ad (.st V0 V1) (.sf V0 (.ad V1 N1))))
noncomputable def xQ:PSp:=λ ts Q=>∃(ns:LIq) (side:Int),ts=[tI ns,.int side]/\¬off ns side/\Q .non
def Jg:Ct:=(.nv (.or (.lt V1 N0) (.ge V1 (.ln V0))) .nil)
noncomputable def xS:PSp:=λ ts Q=>∃(ns os:LIq),ts=[tI ns,tI os]/\ns.length≤20/\os.length≤20/\jD ns.length os/\Q (tI (iF ns os))
noncomputable def Jh:Ct:=(.nv (.ne (.b1 .sorted V1) (.lrng false (.ln V0))) (.ret (.b1 .tuple (.comp ["side"] ["sides"] [0] [0] .seq (.a1 V1) (.ix V1 V0)))))
noncomputable def xT:PSp:=λ ts Q=>∃(ns:LIq) (side:Int),ts=[tI ns,.int side]/\¬off ns side/\Q (tI ns)
def Ji:Ct:=(.ex (.c2 15 V0 V1) (.ret V0))
noncomputable def xU:PSp:=λ ts Q=>∃(ns:LIq) (side first many step:Int),ts=[tI ns,.int side,.int first,.int many,.int step]/\ns.length≤63/\-100 < many/\many < 1000000/\¬off ns side/\¬bad ns side first many step/\Q (tI (ns.set side.toNat many))
noncomputable def Jj:Ct:=(.ex (.c2 15 V0 V1) (.nv (.or (.lt V2 N0) (.or (.lt V3 N0) (.lt V4 N1))) (.nv (.and (.gt V3 N0) (.ge (.ad V2 (.ml (.sb V3 N1) V4)) (.ix V0 V1))) (.ret (.c3 12 V0 V1 V3)))))
noncomputable def xV:PSp:=λ ts Q=>∃(ns:LIq) (side many:Int),ts=[tI ns,.int side,.int many]/\bn ns/\ns.length≤20/\many < 1000000/\¬bZ ns side/\¬many < 0/\¬bq (bY ns side.toNat many)/\Q (tI (bY ns side.toNat many))
noncomputable def Jk:Ct:=(.nv (.or (.lt V1 N0) (.gt V1 (.ln V0))) (.nv (.lt V2 N0) (.ret (.c1 11 (.c3 13 V0 V1 V2)))))
noncomputable def xW:PSp:=λ ts Q=>∃(ns ms:LIq),ts=[tI ns,tI ms]/\bn ns/\bn ms/\ms.length≤20/\¬bq ms/\ah ns=ah ms/\Q (tI ms)
noncomputable def Jl:Ct:=(.ex (.c1 11 V1) (.nv (.ne (.c1 9 V0) (.c1 9 V1)) (.ret V1)))
noncomputable def xX:PSp:=λ ts Q=>∃(ns ms:LIq) (side:Int),ts=[tI ns,tI ms,.int side]/\sm ns/\sm ms/\ns.length≤20/\ns.length=ms.length/\¬off ns side/\ns.eraseIdx side.toNat=ms.eraseIdx side.toNat/\¬bq (cS ns ms side)/\Q (tI (cS ns ms side))
noncomputable def Jm:Ct:=(.nv (.ne (.ln V0) (.ln V1)) (.ex (.c2 15 V0 V2) (.nv (.ne (.c2 14 V0 V2) (.c2 14 V1 V2)) (.ret (.c1 11 (.c3 12 V0 V2 (.ad (.ix V0 V2) (.ix V1 V2))))))))
noncomputable def xY:PSp:=λ ts Q=>∃(ns ms:LIq),ts=[tI ns,tI ms]/\ms.take ns.length=ns/\Q (tI ms)
def Jn:Ct:=(.nv (.ne (.st V1 (.ln V0)) V0) (.ret V1))
noncomputable def xZ:PSp:=λ ts Q=>∃(ns ms:LIq),ts=[tI ns,tI ms]/\aH ns ms/\Q (tI (bC ns ms))
noncomputable def Jo:Ct:=(.r (.gt (.ln V0) (.ln V1)) (.c2 22 V1 V0) (.ret (.c2 22 V0 V1)))
noncomputable def yf:PSp:=λ ts Q=>∃(ns ms ks:LIq),ts=[tI ns,tI ms,tI ks]/\aH ns ms/\aH (bC ns ms) ks/\Q (tI (bC (bC ns ms) ks))
def Jp:Ct:=(.ret (.c2 23 (.c2 23 V0 V1) V2))
noncomputable def yg:PSp:=λ ts Q=>∃(n:Int) (r ms:LIq),ts=[tI (n::r),tI ms]/\bn (n::r)/\bn ms/\r.length < 20/\ms.length≤20/\n≠0/\¬bq (ms++r)/\Q (tI (ms++r))
noncomputable def Jq:Ct:=(.nv (.eq (.ln V0) N0) (.nv (.eq (.x 0 0) N0) (.ret (.c1 11 (.ad V1 (.sf V0 N1))))))
noncomputable def yh:PSp:=λ ts Q=>∃(ns:LIq) (side:Int),ts=[tI ns,.int side]/\ns.length≤63/\¬off ns side/\Q (tI (ns.eraseIdx side.toNat))
def Jr:Ct:=(.ex (.c2 15 V0 V1) (.ret (.c2 14 V0 V1)))
noncomputable def yi:PSp:=λ ts Q=>∃(ns:LIq) (side:Int),ts=[tI ns,.int side]/\bn ns/\ns.length≤20/\¬bq ns/\¬off ns side/\Q (tI ns)
noncomputable def Js:Ct:=(.ex (.c1 11 V0) (.ex (.c2 15 V0 V1) (.ret V0)))
def yj:PSp:=λ ts Q=>∃d:Stp,ts=[stT d]/\mX d/\Q .non
noncomputable def Ju:Ct:=(.i (.es (.x 0 0) "each") (.ex (.c2 4 (.x 0 1) N0) .nil) (.i (.es (.x 0 0) "pair") (.ex (.c3 5 (.x 0 1) N0 N0) .nil) (.i (.cmp .In (.x 0 0) (.t2 (.w "fold") (.w "run"))) (.ex (.c1 6 (.x 0 1)) .nil) .nil)))
noncomputable def yk:PSp:=λ ts Q=>∃(d:Stp) (S:LIq) (Ss:LL),ts=[stT d]/\kdN d < 3/\OkS Ss S d/\fit S/\Q (tI S)
noncomputable def Jv:Ct:=(.r (.es (.x 0 0) "in") (.c1 11 (.x 0 1)) (.r (.es (.x 0 0) "count") (.c2 27 (.x 0 1) (.x 0 2)) (.ret .t0)))
noncomputable def yl:PSp:=λ ts Q=>∃(d:Stp) (S A:LIq) (Ss:LL) (a:Nat),ts=[stT d,tI A]/\fW d=[a]/\Ss[a]?=some A/\fit A/\OkS Ss S d/\fit S/\Q (tI S)
noncomputable def Jw:Ct:=(.set 2 (.x 0 0) (.r (.es V2 "turn") (.c2 16 V1 (.x 0 2)) (.r (.es V2 "flip") (.c2 17 V1 (.x 0 2)) (.r (.es V2 "cut") (.call 18 (.cons V1 (.cons (.x 0 2) (.cons (.x 0 3) (.cons (.x 0 4) (.cons (.x 0 5) .nil)))))) (.r (.es V2 "spread") (.c3 19 V1 (.x 0 2) (.x 0 3)) (.r (.es V2 "lay") (.c2 20 V1 (.x 0 2)) (.r (.es V2 "fold") (.c2 26 V1 (.x 0 3)) (.r (.es V2 "run") (.c2 17 V1 (.x 0 3)) (.ret V1)))))))))
noncomputable def ym:PSp:=λ ts Q=>∃(t:TV) (d:Stp) (S:LIq) (Ss:LL),ts=[stT d,t]/\(t=.tup (Ss.map tI)\/t=.lst (Ss.map tI))/\(∀T∈Ss,fit T)/\OkS Ss S d/\fit S/\Q (tI S)
noncomputable def Jx:Ct:=(.ex (.c1 28 V0) (.set 2 (.comp ["number"] ["sides"] [1] [0] .seq (.a1 (.c1 8 V0)) (.ix V1 V0)) (.set 3 (.x 0 0) (.r (.eq (.ln V2) N0) (.c1 29 V0) (.r (.eq (.ln V2) N1) (.c2 30 V0 (.x 2 0)) (.r (.es V3 "pair") (.c2 23 (.x 2 0) (.x 2 1)) (.r (.es V3 "join") (.c3 21 (.x 2 0) (.x 2 1) (.x 0 3)) (.r (.es V3 "fetch") (.c2 25 (.x 2 0) (.x 2 1)) (.ret (.c3 24 (.x 2 0) (.x 2 1) (.x 2 2)))))))))))
noncomputable def yn:PSp:=λ ts Q=>∃(u:TV) (Ss:LL),ts=[u,.lst (Ss.map tI)]/\((∃d S,u=stT d/\(∀T∈Ss,fit T)/\Ss.length < 40/\OkS Ss S d/\fit S/\Q (.tup [tI S,.non]))\/∃w,xC Ss u w/\Q (.tup [.non,.str w]))
noncomputable def Jy:Ct:=(.set 2 (.ln V1) (.r (.ge V2 (.g 4)) (.t2 (.c .non) (.w "many")) (.r (.b1 .any (.comp ["number"] ["k"] [2] [0] .seq (.a1 (.c1 8 V0)) (.or (.lt V0 N0) (.ge V0 V1)))) (.t2 (.c .non) (.w "name")) .nil)))
def Jz:Ct:=(.ret (.t2 (.c2 31 V0 V1) (.c .non)))
def JA:Cq:=(.ret (.fst (.call 31 (.a2 (.v 0) (.v 1)))))
noncomputable def JB:List (Nat × Cs):=[(0,.ret .non (.str "word")),(1,.ret .non (.str "side")),(2,.ret .non (.str "beyond")),(3,.ret .non (.str "unlike")),(4,.ret .non (.str "large"))]
def JC:Ct:=.nil
noncomputable def yp:PSp:=λ ts Q=>∃(us:List TV) (os:LIq) (k:Nat) (w:Str) (Ss:LL),ts=[.tup [.tup us,tI os]]/\Prg us os k w Ss/\Q (.tup [.tup (Ss.map tI),.tup [.int k,.str w]])
noncomputable def JD:Ct:=(.set 1 (.x 0 0) (.set 2 (.x 0 1) (.set 3 .l0 (.for [4] .seq (.a1 V1) (.set 5 (.c2 32 V4 V3) (.r (.cmp .IsNot (.x 5 1) (.c .non)) (.t2 (.b1 .tuple V3) (.t2 (.ln V3) (.x 5 1))) (.met .append 3 (.a1 (.x 5 0)) .nil))) (.r (.or (.not (.cm2 .LtE .LtE N1 (.ln V2) (.g 5))) (.b1 .any (.comp ["out"] ["steps"] [1] [0] .seq (.a1 V2) (.or (.lt V0 N0) (.ge V0 (.ln V1)))))) (.t2 (.b1 .tuple V3) (.t2 (.ln V1) (.w "out"))) (.ret (.t2 (.b1 .tuple V3) (.c .non))))))))
noncomputable def yq:PSp:=λ ts Q=>∃(us:List TV) (os:LIq) (k:Nat) (w:Str) (Ss:LL),ts=[.tup [.tup us,tI os]]/\Prg us os k w Ss/\Q (.tup [.int k,.str w])
def JE:Ct:=(.ret (.ix (.c1 33 V0) N1))
def yr:PSp:=λ _ _=>False
noncomputable def JF:Ct:=(.set 1 (.c1 33 V0) (.set 2 (.x 1 1) (.nv (.cmp .IsNot V2 (.c .non)) (.ret (.x 1 0)))))
def yt:PSp:=λ ts Q=>∃n:Int,ts=[.int n]/\Q (.bl true)
noncomputable def JG:Ct:=(.ret (.and (.isi .isI V0) (.not (.isi .isB V0))))
noncomputable def yu:PSp:=λ ts Q=>∃(ns:LIq) (k:Nat),ts=[lI ns,.int k]/\Q (.int (fQ ns k))
def JH:Ct:=(.r (.lt V1 (.ln V0)) (.ix V0 V1) (.ret N0))
noncomputable def yv:PSp:=λ ts Q=>∃(t:TV) (ns:LIq),ts=[t]/\(t=tI ns\/t=lI ns)/\bn ns/\Q (.int (ah ns))
noncomputable def JI:Ct:=(.set 1 N1 (.for [2] .seq (.a1 V0) (.set 1 (.ml V1 V2) .nil) (.ret V1)))
noncomputable def yw:PSp:=λ ts Q=>∃ns:LIq,ts=[tI ns]/\bn ns/\ns.length≤500/\Q (.int (ah (ns.map ai)))
noncomputable def JJ:Ct:=(.ret (.c1 38 (.comp ["length"] [] [] [0] .seq (.a1 V0) (.b2 .max N1 V0))))
def yz:PSp:=λ ts Q=>∃n:Int,ts=[.int n]/\Q (.int (kP n))
noncomputable def JK:Ct:=(.r (.eq (.md V0 (.n 17)) N5) (.ix (.lst (.cons (.neg (.bin .Pow N2 (.n 63))) (.cons (.sb (.bin .Pow N2 (.n 63)) N1) (.cons (.neg N1) (.cons (.bin .Pow N2 (.n 62)) .nil))))) (.md (.dv V0 (.n 17)) N4)) (.ret (.sb (.md (.ad V0 (.bin .Pow N2 (.n 63))) (.bin .Pow N2 (.n 64))) (.bin .Pow N2 (.n 63)))))
noncomputable def yA:PSp:=λ ts Q=>∃(ks:LIq) (d:Int),ts=[lI ks,.int d]/\0 < ks.length/\ks.length < 1000000/\∀k∈ks,Q (.int k)
noncomputable def JL:Ct:=(.r (.eq (.md V1 N3) N0) (.ix V0 (.md (.dv V1 N3) (.ln V0))) (.ret (.ix V0 (.sb (.sb (.ln V0) N1) (.md (.dv V1 N3) (.b2 .min N3 (.ln V0)))))))
noncomputable def yB:PSp:=λ ts Q=>∃kd n cell mo:Int,ts=[.int kd,.int n,.int cell,.int mo]/\bV mo/\∀d S,(∀Ss,OkS Ss S d)->aF mo S->Q (mdT d S)
noncomputable def JM:Ct:=(.r (.eq V0 N1) (.t2 (.t2 (.w "num") (.c1 40 V2)) .t0) (.set 4 .t0 (.set 5 (.dv V1 (.n 15)) (.for [6] .rng (.a1 (.md V5 N5)) (.set 5 (.dv V5 N5) (.set 7 (.dv V3 (.c1 39 V4)) (.set 8 (.b2 .min (.ix (.lst (.cons N2 (.cons N3 (.cons N1 (.cons N4 (.cons N2 (.cons N3 (.cons N0 .nil)))))))) (.md V5 N7)) V7) (.i (.eq (.md V5 N11) N10) (.set 8 V7 .nil) (.set 4 (.ad V4 (.t1 V8)) .nil))))) (.i (.eq V0 N0) (.fz 4 (.ret (.t2 (.t2 (.w "in") V4) V4))) (.i (.eq V4 .t0) (.set 4 (.t1 (.b2 .min N3 V3)) .nil) (.fz 4 (.ret (.t2 (.t3 (.w "count") V4 (.md (.dv V1 (.n 15)) (.ln V4))) V4)))))))))
noncomputable def yC:PSp:=λ ts Q=>∃(ns ms:LIq),ts=[tI ns,tI ms]/\∀b,(b=true ↔ aH ns ms)->Q (.bl b)
noncomputable def JN:Ct:=(.set 2 (.b2 .min (.ln V0) (.ln V1)) (.ret (.eq (.st V0 V2) (.st V1 V2))))
noncomputable def yD:PSp:=λ ts Q=>∃(kd d0 d1 d2 mo:Int) (Ss:LL),ts=[.int kd,lI [d0,d1,d2],.lst (Ss.map tI)]/\0 < Ss.length/\Ss.length≤40/\(∀S∈Ss,aF mo S)/\∀d S,OkS Ss S d->aF mo S->Q (mdT d S)
noncomputable def JO:Ct:=(.set 3 (.lrng false (.ln V2)) (.set 4 (.c2 41 V3 (.x 1 0)) (.r (.eq V0 N3) (.t2 (.t3 (.w "each") (.ix (.lst (.cons (.w "neg") (.cons (.w "abs") (.cons (.w "sign") (.cons (.w "not") .nil))))) (.md (.x 1 2) N4)) V4) (.ix V2 V4)) (.set 5 (.compI ["k"] ["sides","a"] [2,4] [0] .seq (.a1 V3) (.c2 43 (.ix V1 V2) (.ix V1 V0)) V0) (.set 6 (.c2 41 V5 (.x 1 1)) (.set 7 (.mxl (.ix V2 V4) (.ix V2 V6)) (.i (.eq V0 N4) (.set 8 (.lst (.cons (.w "add") (.cons (.w "sub") (.cons (.w "mul") (.cons (.w "quo") (.cons (.w "rest") (.cons (.w "max") (.cons (.w "min") (.cons (.w "less") (.cons (.w "like") (.cons (.w "and") (.cons (.w "or") (.cons (.w "xor") .nil))))))))))))) (.ret (.t2 (.tup (.cons (.w "pair") (.cons (.ix V8 (.md (.x 1 2) (.n 12))) (.cons V4 (.cons V6 .nil))))) V7))) (.set 5 (.compI ["k"] ["sides","b"] [2,6] [0] .seq (.a1 V5) (.c2 43 (.ix V1 V2) (.ix V1 V0)) V0) (.set 9 (.c2 41 V5 (.x 1 2)) (.ret (.t2 (.tup (.cons (.w "pick") (.cons V4 (.cons V6 (.cons V9 .nil))))) (.mxl V7 (.ix V2 V9)))))))))))))
noncomputable def yE:PSp:=λ ts Q=>∃(ns:LIq) (d mo:Int),ts=[tI ns,.int d]/\aF mo ns/\bV mo/\Q (tI (iG ns d))
noncomputable def JP:Ct:=(.set 2 (.c1 38 V0) (.r (.eq (.md V1 N4) N1) (.t1 V2) (.r (.and (.eq (.md V1 N4) N2) (.lt (.ln V0) N6)) (.ad (.t1 N1) V0) (.r (.and (.eq (.md V1 N4) N3) (.eq (.md V2 N2) N0)) (.t2 (.dv V2 N2) N2) (.ret (.trev true V0))))))
noncomputable def yF:PSp:=λ ts Q=>∃(kd d0 d1 d2 mo:Int) (a:Nat) (A:LIq) (Ss:LL),ts=[.int kd,lI [d0,d1,d2],.int a,tI A,.int mo]/\Ss[a]?=some A/\aF mo A/\bV mo/\∀d S,OkS Ss S d->aF mo S->Q (mdT d S)
noncomputable def JQ:Ct:=(.i (.eq V0 N6) (.set 5 .l0 (.set 6 (.x 1 2) (.for [7] .rng (.a1 (.ln V3)) (.met .insert 5 (.a2 (.md V6 (.ad V7 N1)) V7) (.set 6 (.dv V6 (.ad V7 N1)) .nil)) (.ret (.t2 (.t3 (.w "turn") V2 (.b1 .tuple V5)) (.b1 .tuple (.comp ["k"] ["own"] [3] [0] .seq (.a1 V5) (.ix V1 V0)))))))) (.r (.eq V0 N10) (.t2 (.t3 (.w "lay") V2 (.c2 45 V3 (.x 1 2))) (.c2 45 V3 (.x 1 2))) (.i (.or (.eq V3 .t0) (.and (.eq V0 N9) (.lt (.ln V3) N6))) (.set 8 (.md (.x 1 1) (.ad (.ln V3) N1)) (.set 9 (.ad N1 (.md (.x 1 2) (.b2 .min N4 (.dv V4 (.c1 39 V3))))) (.i (.eq (.md (.x 1 2) N9) N8) (.set 9 N0 .nil) (.fz 9 (.fz 8 (.ret (.t2 (.tup (.cons (.w "spread") (.cons V2 (.cons V8 (.cons V9 .nil))))) (.ad (.ad (.st V3 V8) (.t1 V9)) (.sf V3 V8))))))))) (.set 10 (.md (.x 1 1) (.ln V3)) (.i (.ne V0 N8) (.fz 10 (.ret (.t2 (.t3 (.w "flip") V2 V10) V3))) (.set 11 (.ad N1 (.md (.x 1 2) N3)) (.set 12 (.md (.dv (.x 1 2) N3) (.b2 .max N1 (.ix V3 V10))) (.set 13 (.b2 .max N0 (.sb (.ad (.dv (.sb (.sb (.ix V3 V10) N1) (.v 12)) V11) N1) (.md (.dv (.x 1 2) (.n 300)) N3))) (.fz 11 (.fz 12 (.fz 10 (.ret (.t2 (.tup (.cons (.w "cut") (.cons V2 (.cons V10 (.cons (.v 12) (.cons (.v 13) (.cons V11 .nil))))))) (.ad (.ad (.st V3 V10) (.t1 (.v 13))) (.sf V3 (.ad V10 N1))))))))))))))))
noncomputable def yG:PSp:=λ ts Q=>∃(A B:LIq) (k:Nat),ts=[tI A,tI B,.int k]/\k < A.length/\A.length≤6/\B.length≤6/\Q (tI (dc A B k))
noncomputable def JR:Ct:=(.r (.or (.ne (.ln V0) (.ln V1)) (.ne (.ad (.st V0 V2) (.sf V0 (.ad V2 N1))) (.ad (.st V1 V2) (.sf V1 (.ad V2 N1))))) .t0 (.ret (.ad (.ad (.st V0 V2) (.t1 (.ad (.ix V0 V2) (.ix V1 V2)))) (.sf V0 (.ad V2 N1)))))
noncomputable def yH:PSp:=λ ts Q=>∃(kd d0 d1 d2 mo:Int) (Ss:LL),ts=[.int kd,lI [d0,d1,d2],.lst (Ss.map tI),.int mo]/\(∃S∈Ss,0 < S.length)/\11≤kd/\kd≤14/\Ss.length≤40/\(∀S∈Ss,aF mo S)/\bV mo/\∀d S,OkS Ss S d->aF mo S->Q (mdT d S)
noncomputable def JT:Ct:=(.set 4 (.compI ["k"] ["sides"] [2] [0] .rng (.a1 (.ln V2)) (.ne (.ix V1 V0) .t0) V0) (.set 5 (.c2 41 V4 (.x 1 0)) (.set 6 (.ix V2 V5) (.set 7 (.md (.x 1 1) (.ln V6)) (.set 8 (.lst (.cons (.w "add") (.cons (.w "mul") (.cons (.w "max") (.cons (.w "min") (.cons (.w "and") (.cons (.w "or") (.cons (.w "xor") .nil)))))))) (.i (.eq V0 (.n 13)) (.fz 7 (.ret (.t2 (.tup (.cons (.w "fold") (.cons (.ix V8 (.md (.x 1 2) N7)) (.cons V5 (.cons V7 .nil))))) (.ad (.st V6 V7) (.sf V6 (.ad V7 N1)))))) (.i (.eq V0 (.n 14)) (.fz 7 (.ret (.t2 (.tup (.cons (.w "run") (.cons (.ix V8 (.md (.x 1 2) N7)) (.cons V5 (.cons V7 .nil))))) V6))) (.set 9 (.lst (.a1 .t0)) (.ite (.eq V0 N11) (.set 9 (.comp ["other"] ["own","side"] [6,7] [0] .seq (.a1 V2) (.c3 47 V1 V0 V2)) .nil) (.i (.gt (.x 6 0) N0) (.set 9 (.comp ["other"] ["own"] [6] [0] .seq (.a1 V2) (.ad V0 (.sf V1 N1))) .nil) .nil) (.set 10 (.compI ["k"] ["kind","made","own"] [0,9,6] [0] .rng (.a1 (.ln V9)) (.or (.and (.eq V1 (.n 12)) (.gt (.x 3 0) N0)) (.ne (.ix V2 V0) .t0)) V0) (.set 10 (.compI ["k"] ["most","made"] [3,9] [0] .seq (.a1 V10) (.and (.cmp .LtE (.ln (.ix V2 V0)) N6) (.cmp .LtE (.c1 39 (.ix V2 V0)) V1)) V0) (.i (.eq (.ln V10) N0) (.fz 7 (.ret (.t2 (.t3 (.w "flip") V5 V7) V6))) (.set 11 (.c2 41 V10 (.x 1 2)) (.i (.eq V0 N11) (.fz 7 (.ret (.t2 (.tup (.cons (.w "join") (.cons V5 (.cons V11 (.cons V7 .nil))))) (.ix V9 V11)))) (.ret (.t2 (.t3 (.w "fetch") V5 V11) (.ix V9 V11)))))))))))))))))
noncomputable def yI:PSp:=λ ts Q=>∃(cell mo:Int) (Ss:LL),ts=[.int cell,.lst (Ss.map tI),.int mo]/\Ss.length≤40/\(∀S∈Ss,aF mo S)/\bV mo/\∀d S,OkS Ss S d->aF mo S->Q (mdT d S)
noncomputable def JU:Ct:=(.set 3 (.md (.ml V0 (.n 48271)) (.n 2147483647)) (.set 4 (.md V3 (.n 15)) (.set 5 (.lst (.a3 (.md (.dv V3 (.n 15)) (.n 120)) (.md (.dv V3 (.n 1800)) (.n 120)) (.dv V3 (.n 216000)))) (.r (.or (.eq (.ln V1) N0) (.lt V4 N3)) (.call 42 (.cons (.md V4 N3) (.cons V3 (.cons V0 (.cons V2 .nil))))) (.r (.lt V4 N6) (.c3 44 V4 V5 V1) (.r (.and (.gt V4 N10) (.gt (.b1 .max (.comp ["own"] [] [] [0] .seq (.a1 V1) (.ln V0))) N0)) (.call 48 (.cons V4 (.cons V5 (.cons V1 (.cons V2 .nil))))) (.set 6 (.c2 41 (.lrng false (.ln V1)) (.x 5 0)) (.ret (.call 46 (.cons (.b2 .min V4 (.sb N10 (.b1 .int (.gt V4 N10)))) (.cons V5 (.cons V6 (.cons (.ix V1 V6) (.cons V2 .nil))))))))))))))
noncomputable def yJ:PSp:=λ ts Q=>∃(cs:LIq) (mo:Int),ts=[lI cs,.int mo]/\cs.length≤40/\bV mo/\∀ds Ss os,Ih mo ds Ss os->Q (.tup [.tup (ds.map stT),tI os,.lst (Ss.map tI)])
noncomputable def JV:Ct:=(.set 2 .l0 (.set 3 .l0 (.for [4] .seq (.a1 V0) (.set 5 (.c3 49 V4 V3 V1) (.met .append 2 (.a1 (.x 5 0)) (.met .append 3 (.a1 (.x 5 1)) .nil))) (.i (.eq (.ln V2) N0) (.met .append 2 (.a1 (.t2 (.w "num") N0)) (.met .append 3 (.a1 .t0) .nil)) (.set 6 .l0 (.set 7 (.md (.ml (.b1 .sum V0) (.n 16807)) (.n 2147483647)) (.for [8] .rng (.a1 (.ix (.lst (.cons N1 (.cons N2 (.cons N3 (.cons N2 (.cons N1 (.cons N8 .nil))))))) (.md V7 N6))) (.set 7 (.md (.ad (.ml V7 (.n 48271)) N11) (.n 2147483647)) (.met .append 6 (.a1 (.md (.dv V7 (.n 16)) (.ln V2))) .nil)) (.put 6 (.md V7 (.ln V6)) (.sb (.ln V2) N1) (.fz 3 (.ret (.t3 (.b1 .tuple V2) (.b1 .tuple V6) V3)))))))))))
noncomputable def yK:PSp:=λ ts Q=>∃c:Int,ts=[.int c]/\∀f:Int,0≤f->f < 1000000000000000000000000000000->Q (.int f)
noncomputable def JW:Ct:=(.ret (.md (.dv V0 (.n 512)) (.bin .Pow N10 (.n 30))))
noncomputable def yL:PSp:=λ ts Q=>∃(c:Int) (k:Nat),ts=[.int c,.int k]/\∀u,NmF k u->Q u
noncomputable def JX:Ct:=(.set 2 (.c1 51 V0) (.set 3 (.ix (.lst (.a2 (.ad V1 V2) (.sb (.neg N1) V2))) (.md (.dv V0 N8) N2)) (.set 4 (.b2 .max N0 (.sb V1 N1)) (.set 5 (.lst (.cons (.t3 (.w "each") (.w "neg") V3) (.cons (.tup (.cons (.w "fold") (.cons (.w "sub") (.cons V3 (.cons N9 .nil))))) (.cons (.tup (.cons (.w "pair") (.cons (.w "add") (.cons V4 (.cons V3 .nil))))) (.cons (.tup (.cons (.w "pair") (.cons (.w "plus") (.cons V3 (.cons V4 .nil))))) .nil))))) (.set 5 (.ad V5 (.lst (.a3 (.tup (.cons (.w "join") (.cons V4 (.cons V3 (.cons N9 .nil))))) (.tup (.cons (.w "pick") (.cons V4 (.cons V3 (.cons V4 .nil))))) (.tup (.cons (.w "pick") (.cons V4 (.cons V4 (.cons V3 .nil)))))))) (.set 5 (.ad V5 (.lst (.a2 (.t3 (.w "lay") V3 (.t1 (.n 600))) (.t3 (.w "fetch") V4 V3)))) (.set 5 (.ad V5 (.lst (.cons (.t3 (.w "turn") V3 (.t1 N7)) (.cons (.tup (.cons (.w "cut") (.cons V3 (.cons N9 (.cons N0 (.cons N0 (.cons N0 .nil))))))) (.cons (.tup (.cons (.w "run") (.cons (.w "add") (.cons V3 (.cons N0 .nil))))) (.cons (.tup (.cons (.w "spread") (.cons V3 (.cons N0 (.cons (.neg N1) .nil))))) .nil)))))) (.set 5 (.ad V5 (.lst (.cons (.t3 (.w "flip") V3 N0) (.cons (.tup (.cons (.w "pick") (.cons V3 (.cons V4 (.cons V4 .nil))))) (.cons (.tup (.cons (.w "join") (.cons V3 (.cons V4 (.cons N0 .nil))))) (.cons (.t3 (.w "fetch") V3 V4) .nil)))))) (.ret (.ix V5 (.md (.dv V0 (.n 16)) (.ln V5))))))))))))
noncomputable def yM:PSp:=λ ts Q=>∃(c:Int) (a:Nat) (A:LIq) (Ss:LL),ts=[.int c,.int a]/\Ss[a]?=some A/\∀d,FS Ss 0 d->Q (stT d)
noncomputable def JY:Ct:=(.set 2 (.lst (.cons (.t3 (.w "each") (.w "add") V1) (.cons (.tup (.cons (.w "pair") (.cons (.w "neg") (.cons V1 (.cons V1 .nil))))) (.cons (.tup (.cons (.w "fold") (.cons (.w "sub") (.cons V1 (.cons (.n 77) .nil))))) (.cons (.tup (.cons (.w "run") (.cons (.w "quo") (.cons V1 (.cons (.neg N1) .nil))))) .nil))))) (.ret (.ix V2 (.md (.dv V0 (.n 16)) N4))))
noncomputable def yN:PSp:=λ ts Q=>∃(c:Int) (a:Nat) (A:LIq) (Ss:LL),ts=[.int c,.int a,.lst (Ss.map tI)]/\Ss.length≤40/\(∀S∈Ss,fit S)/\Ss[a]?=some A/\∀d,FS Ss 1 d->Q (stT d)
noncomputable def JZ:Ct:=(.set 3 (.ix V2 V1) (.set 4 (.ix (.lst (.a2 (.ad (.ad (.ln V3) N1) (.c1 51 V0)) (.sb (.neg N1) (.c1 51 V0)))) (.md (.dv V0 N8) N2)) (.set 5 (.lst (.cons (.t3 (.w "flip") V1 V4) (.cons (.tup (.cons (.w "cut") (.cons V1 (.cons V4 (.cons (.neg N1) (.cons (.neg N1) (.cons N0 .nil))))))) (.cons (.tup (.cons (.w "fold") (.cons (.w "max") (.cons V1 (.cons V4 .nil))))) (.cons (.tup (.cons (.w "run") (.cons (.w "add") (.cons V1 (.cons V4 .nil))))) .nil))))) (.set 5 (.ad V5 (.lst (.cons (.tup (.cons (.w "join") (.cons V1 (.cons V1 (.cons V4 .nil))))) (.cons (.tup (.cons (.w "spread") (.cons V1 (.cons V4 (.cons (.neg N5) .nil))))) (.cons (.t3 (.w "count") V3 V4) (.cons (.t3 (.w "flip") V1 (.ln V3)) .nil)))))) (.met .append 5 (.a1 (.t3 (.w "turn") V1 (.lrng true (.ad (.ln V3) N1)))) (.met .append 5 (.a1 (.t3 (.w "turn") V1 (.ml (.t1 N0) (.ad (.ln V3) N1)))) (.set 5 (.ad V5 (.compI ["b"] ["sides","a"] [2,1] [0] .rng (.a1 (.ln V2)) (.eq (.ix V1 V0) .t0) (.t3 (.w "fetch") V0 V2))) (.ret (.ix V5 (.md (.dv V0 (.n 16)) (.ln V5)))))))))))
noncomputable def yO:PSp:=λ ts Q=>∃(c:Int) (a:Nat) (A:LIq) (Ss:LL),ts=[.int c,.int a,.lst (Ss.map tI)]/\Ss.length≤40/\(∀S∈Ss,fit S)/\Ss[a]?=some A/\∀d,FS Ss 2 d->Q (stT d)
noncomputable def Ka:Ct:=(.set 3 (.c1 51 V0) (.set 4 (.ix V2 V1) (.set 5 (.lst (.a1 (.tup (.cons (.w "spread") (.cons V1 (.cons N0 (.cons (.sb (.neg N1) V3) .nil))))))) (.i (.gt (.ln V4) N0) (.set 5 (.lst (.a2 (.tup (.cons (.w "cut") (.cons V1 (.cons N0 (.cons N0 (.cons (.ad (.ad (.x 4 0) N1) (.md V3 (.n 1000))) (.cons N1 .nil))))))) (.tup (.cons (.w "cut") (.cons V1 (.cons N0 (.cons (.sb (.neg N1) V3) (.cons N0 (.cons N1 .nil))))))))) (.set 5 (.ad V5 (.lst (.a2 (.tup (.cons (.w "cut") (.cons V1 (.cons N0 (.cons N0 (.cons N0 (.cons (.neg V3) .nil))))))) (.tup (.cons (.w "cut") (.cons V1 (.cons N0 (.cons N0 (.cons (.sb (.neg N1) V3) (.cons N1 .nil)))))))))) (.set 5 (.ad V5 (.lst (.a2 (.tup (.cons (.w "cut") (.cons V1 (.cons N0 (.cons (.ad (.x 4 0) V3) (.cons N1 (.cons N1 .nil))))))) (.tup (.cons (.w "spread") (.cons V1 (.cons (.ln V4) (.cons (.sb (.neg N1) V3) .nil)))))))) .nil))) (.set 5 (.ad V5 (.compI ["b"] ["sides","a"] [2,1] [0] .rng (.a1 (.ln V2)) (.eq (.st (.ix V1 V0) N1) (.t1 N0)) (.t3 (.w "fetch") V0 V2))) (.ret (.ix V5 (.md (.dv V0 (.n 16)) (.ln V5)))))))))
noncomputable def yP:PSp:=λ ts Q=>∃(a b:Nat) (A B:LIq) (Ss:LL),ts=[.int a,.int b,tI A,tI B]/\Ss[a]?=some A/\Ss[b]?=some B/\fit A/\fit B/\A.length=B.length/\∀L:List TV,L.length≤6->(∀x∈L,∃d,x=stT d/\FS Ss 3 d)->Q (.lst L)
noncomputable def Kb:Ct:=(.set 4 .l0 (.for [5] .rng (.a1 (.ln V2)) (.i (.ne (.ad (.st V2 V5) (.sf V2 (.ad V5 N1))) (.ad (.st V3 V5) (.sf V3 (.ad V5 N1)))) (.met .append 4 (.a1 (.tup (.cons (.w "join") (.cons V0 (.cons V1 (.cons V5 .nil)))))) .nil) .nil) (.ret V4)))
noncomputable def yQ:PSp:=λ ts Q=>∃(c:Int) (a:Nat) (A:LIq) (Ss:LL),ts=[.int c,.int a,.lst (Ss.map tI)]/\Ss.length≤40/\(∀S∈Ss,fit S)/\Ss[a]?=some A/\∀d,FS Ss 3 d->Q (stT d)
noncomputable def Kc:Ct:=(.set 3 (.ix V2 V1) (.set 4 (.ad (.ad (.c1 38 V3) N1) (.md (.c1 51 V0) N9)) (.i (.gt V4 (.n 512)) (.set 4 (.sb (.sb (.c1 38 V3) N1) (.md (.c1 51 V0) N9)) .nil) (.fz 4 (.set 5 (.lst (.a1 (.t3 (.w "lay") V1 (.t1 V4)))) (.for [6] .rng (.a1 (.ln V2)) (.i (.not (.c2 43 V3 (.ix V2 V6))) (.set 5 (.ad V5 (.lst (.a3 (.tup (.cons (.w "pair") (.cons (.w "add") (.cons V1 (.cons V6 .nil))))) (.tup (.cons (.w "pick") (.cons V1 (.cons V1 (.cons V6 .nil))))) (.tup (.cons (.w "pick") (.cons V6 (.cons V1 (.cons V1 .nil)))))))) (.set 7 (.compI ["c"] ["own","sides","b"] [3,2,6] [0] .rng (.a1 (.ln V2)) (.and (.c2 43 (.ix V2 V0) V1) (.c2 43 (.ix V2 V0) (.ix V2 V3))) V0) (.set 5 (.ad V5 (.comp ["c"] ["a","b"] [1,6] [0] .seq (.a1 V7) (.tup (.cons (.w "pick") (.cons V0 (.cons V1 (.cons V2 .nil))))))) .nil))) (.ite (.ne (.ln V3) (.ln (.ix V2 V6))) (.met .append 5 (.a1 (.tup (.cons (.w "join") (.cons V1 (.cons V6 (.cons N9 .nil)))))) .nil) (.set 5 (.ad V5 (.call 56 (.cons V1 (.cons V6 (.cons V3 (.cons (.ix V2 V6) .nil)))))) .nil) .nil)) (.ret (.ix V5 (.md (.dv V0 (.n 16)) (.ln V5))))))))))
noncomputable def yR:PSp:=λ ts Q=>∃(c:Int) (a:Nat) (Ss:LL),ts=[.int c,.int a,.lst (Ss.map tI)]/\Ss.length≤40/\(∀S∈Ss,fit S)/\(0 < Ss.length->a < Ss.length)/\∀d,FS Ss 4 d->Q (stT d)
noncomputable def Kd:Ct:=(.set 3 (.ad (.n 513) (.c1 51 V0)) (.fz 3 (.set 4 (.lst (.cons (.t2 (.w "in") (.t1 V3)) (.cons (.t2 (.w "in") (.ml (.t1 N1) N7)) (.cons (.t3 (.w "count") (.ml (.t1 N2) N10) (.n 77)) (.cons (.t2 (.w "in") (.t2 N0 V3)) .nil))))) (.r (.eq (.ln V2) N0) (.ix V4 (.md (.dv V0 (.n 16)) N4)) (.set 5 (.ix V2 V1) (.fz 3 (.set 4 (.ad V4 (.lst (.a3 (.t3 (.w "lay") V1 (.t2 N0 V3)) (.tup (.cons (.w "spread") (.cons V1 (.cons N0 (.cons V3 .nil))))) (.t3 (.w "lay") V1 (.ml (.t1 N1) N7))))) (.for [6] .rng (.a1 (.ln V5)) (.i (.gt (.c1 39 (.c3 47 V5 V5 V6)) (.n 512)) (.met .append 4 (.a1 (.tup (.cons (.w "join") (.cons V1 (.cons V1 (.cons V6 .nil)))))) .nil) .nil) (.for [7] .rng (.a1 (.ln V2)) (.set 8 (.ad V5 (.sf (.ix V2 V7) N1)) (.i (.and (.gt (.st (.ix V2 V7) N1) (.t1 N0)) (.or (.gt (.ln V8) N6) (.gt (.c1 39 V8) (.n 512)))) (.met .append 4 (.a1 (.t3 (.w "fetch") V7 V1)) .nil) .nil)) (.i (.eq (.ln V5) N6) (.met .append 4 (.a1 (.tup (.cons (.w "spread") (.cons V1 (.cons (.md (.dv V0 N8) N7) (.cons N1 .nil)))))) .nil) (.ret (.ix V4 (.md (.dv V0 (.n 16)) (.ln V4))))))))))))))
noncomputable def yS:PSp:=λ ts Q=>∃(c:Int) (k:Nat) (Ss:LL),ts=[.int c,.int k,.lst (Ss.map tI)]/\k < Ss.length/\Ss.length≤40/\(∀S∈Ss,fit S)/\∀xs w,Spl (Ss.take k) (.tup xs) w->Q (.tup [.tup xs,.str w])
noncomputable def Kf:Ct:=(.set 3 (.md V0 N6) (.r (.and (.eq V1 N0) (.ne V3 N5)) (.t2 (.c2 52 V0 V1) (.w "name")) (.set 4 (.md (.dv V0 (.n 200)) (.b2 .max N1 V1)) (.r (.eq V3 N0) (.t2 (.c2 52 V0 V1) (.w "name")) (.r (.eq V3 N1) (.t2 (.c2 53 V0 V4) (.w "word")) (.r (.eq V3 N2) (.t2 (.c3 54 V0 V4 (.st V2 V1)) (.w "side")) (.r (.eq V3 N3) (.t2 (.c3 55 V0 V4 (.st V2 V1)) (.w "beyond")) (.r (.eq V3 N4) (.t2 (.c3 57 V0 V4 (.st V2 V1)) (.w "unlike")) (.ret (.t2 (.c3 58 V0 V4 (.st V2 V1)) (.w "large")))))))))))
noncomputable def yT:PSp:=λ ts Q=>∃(us:List TV) (os:LIq) (k:Nat) (c:Int),ts=[.tup us,tI os,.int k,.int c]/\k < us.length/\us.length≤40/\0 < os.length/\os.length≤8/\∀us1 os1,us1.take (k+1)=us.take (k+1)->os1.length≤500->Q (.tup [.tup us1,tI os1])
noncomputable def Kg:Ct:=(.set 4 (.ad (.ad V2 N1) (.md (.dv V3 N5) (.sb (.ln V0) V2))) (.r (.eq (.md V3 N5) N0) (.t2 V0 (.ix (.lst (.a3 .t0 (.ml V1 N9) (.ad (.t1 (.neg N1)) V1))) (.md (.dv V3 N5) N3))) (.r (.eq (.md V3 N5) N1) (.t2 (.ad V0 (.ml (.t1 (.t2 (.w "num") N7)) (.n 40))) V1) (.fz 4 (.set 5 (.lst (.cons (.t3 (.w "each") (.w "neg") (.neg N1)) (.cons (.t3 (.w "flip") V4 N0) (.cons (.t2 (.w "in") (.t1 (.n 513))) (.cons (.tup (.cons (.w "fold") (.cons (.w "sub") (.cons N0 (.cons N9 .nil))))) (.cons (.tup (.cons (.w "spread") (.cons N0 (.cons N0 (.cons (.neg N1) .nil))))) .nil)))))) (.ret (.t2 (.ad (.ad (.st V0 V4) (.t1 (.ix V5 (.md (.dv V3 (.n 200)) N5)))) (.sf V0 (.ad V4 N1))) V1)))))))
noncomputable def yU:PSp:=λ ts Q=>∃(d:Stp) (Ss:LL) (k:Nat) (w:Str),ts=[stT d,.lst (Ss.map tI)]/\FS Ss k d/\wds[k]?=some w/\Q (.str w)
def Kh:Ct:=(.set 2 (.w "") .nil)
def Ki:Ct:=(.ex (.c2 31 V0 V1) .nil)
noncomputable def Kj:Cq:=(.ex (.call 31 (.a2 (.v 0) (.v 1))) (.call 31 (.a2 (.v 0) (.v 1))) .nil)
noncomputable def Kk:List (Nat × Cs):=[(0,.set 2 (.str "word")),(1,.set 2 (.str "side")),(2,.set 2 (.str "beyond")),(3,.set 2 (.str "unlike")),(4,.set 2 (.str "large")),(5,.set 2 (.str "other"))]
def Kl:Ct:=(.ret V2)
noncomputable def yV:PSp:=λ ts Q=>∃(us:List TV) (os:LIq) (k:Nat) (w:Str) (Ss:LL),ts=[.tup [.tup us,tI os],.int k,.str w]/\Prg us os k w Ss/\Q (.bl true)
noncomputable def Km:Ct:=(.set 3 (.c1 34 V0) (.r (.or (.not (.isi .isT V3)) (.or (.ne (.ln V3) N2) (.or (.not (.c1 36 (.x 3 0))) (.ne V3 (.t2 V1 V2))))) (.c (.bl false)) (.set 4 .t0 .nil)))
def Ko:Ct:=(.ex (.c1 35 V0) .nil)
noncomputable def Kp:Cq:=(.ex (.call 35 (.a1 (.v 0))) (.call 35 (.a1 (.v 0))) .nil)
noncomputable def Kq:Ct:=(.r (.or (.ne V4 (.t3 V1 V2 (.c (.bl false)))) (.not (.c1 36 (.x 4 0)))) (.c (.bl false)) (.set 6 (.c (.bl false)) .nil))
def Kr:Ct:=(.ret V6)
def yW:PSp:=mK
noncomputable def Ks:Ct:=(.sets [1,2,3] (.c2 50 (.sl V0 N3 (.n 43)) (.ad N2 (.md (.c2 37 V0 N0) (.n 511)))) (.set 4 (.c2 37 V0 N1) (.set 5 (.md (.c2 37 V0 N2) N8) (.i (.eq V5 N6) (.set 6 (.ad (.ad V1 (.ml (.t1 (.t2 (.w "num") N7)) (.sb (.n 40) (.ln V1)))) (.t2 (.c2 52 V4 (.n 40)) (.t2 (.w "num") N5))) (.fz 6 (.ret (.c3 62 (.t2 V6 V2) (.n 40) (.w "many"))))) (.i (.eq V5 N7) (.set 7 (.c1 51 V4) (.set 8 (.ix (.lst (.cons .t0 (.cons (.ad V2 (.t1 (.ad (.ln V1) V7))) (.cons (.ad (.t1 (.sb (.neg N1) V7)) V2) (.cons (.ml (.t1 N0) N9) .nil))))) (.md (.dv V4 N8) N4)) (.fz 1 (.ret (.c3 62 (.t2 V1 V8) (.ln V1) (.w "out")))))) (.set 9 (.md (.dv V4 N6) (.ln V1)) (.sets [10,11] (.c3 59 V4 V9 V3) (.r (.and (.ne V11 (.w "name")) (.ne (.c2 61 V10 (.b1 .list (.st V3 V9))) V11)) (.c (.bl false)) (.set 1 (.ad (.ad (.st V1 V9) (.t1 V10)) (.sf V1 (.ad V9 N1))) (.r (.not (.c3 62 (.t2 V1 V2) V9 V11)) (.c (.bl false)) (.ret (.c3 62 (.call 60 (.cons V1 (.cons V2 (.cons V9 (.cons (.dv (.c2 37 V0 N2) N8) .nil))))) V9 V11))))))))))))
noncomputable def DL:List DR:=[dr "wrapped" ["n"] zp0,dr "sign_of" ["x"] zp1,dr "quotient" ["x","y"] zp2,dr "remainder" ["x","y"] zp3,dr "once" ["word","x"] zp4,dr "twice" ["word","x","y"] zp5,dr "neutral" ["word"] zp6,dr "arg_places" ["form"] zp7,dr "args_of" ["step"] zp8,dr "amount" ["sides"] zp9,dr "breadth" ["sides"] xL,dr "allowed" ["sides"] xM,dr "changed_at" ["row","k","number"] xN,dr "added_at" ["row","k","number"] xO,dr "dropped_at" ["row","k"] xP,dr "ask_side" ["sides","side"] xQ,dr "turned_sides" ["sides","order"] xS,dr "flipped_sides" ["sides","side"] xT,dr "cut_sides" ["sides","side","first","many","step"] xU,dr "spread_sides" ["sides","side","many"] xV,dr "laid_sides" ["sides","others"] xW,dr "joined_sides" ["sides","others","side"] xX,dr "led_sides" ["sides","others"] xY,dr "paired_sides" ["sides","others"] xZ,dr "picked_sides" ["marks","sides","others"] yf,dr "fetched_sides" ["sides","others"] yg,dr "folded_sides" ["sides","side"] yh,dr "counted_sides" ["sides","side"] yi,dr "ask_word" ["step"] yj,dr "first_sides" ["step"] yk,dr "moved_sides" ["step","sides"] yl,dr "step_sides" ["step","sides"] ym,dr "step_told" ["step","sides"] yn,dr "program_told" ["program"] yp,dr "first_fault" ["program"] yq,dr "checked" ["program"] yr,dr "_law_whole" ["found"] yt,dr "_law_cell_at" ["script","k"] yu,dr "_law_size" ["sides"] yv,dr "_law_wide" ["sides"] yw,dr "_law_number" ["n"] yz,dr "_law_recent" ["pool","d"] yA,dr "_law_begun" ["kind","n","cell","most"] yB,dr "_law_led" ["one","other"] yC,dr "_law_lifted" ["kind","d","sides"] yD,dr "_law_laid" ["own","d"] yE,dr "_law_moved" ["kind","d","a","own","most"] yF,dr "_law_both" ["own","other","side"] yG,dr "_law_met" ["kind","d","sides","most"] yH,dr "_law_step" ["cell","sides","most"] yI,dr "_law_program" ["cells","most"] yJ,dr "_law_far" ["cell"] yK,dr "_law_unnamed" ["cell","k"] yL,dr "_law_bad_word" ["cell","a"] yM,dr "_law_bad_side" ["cell","a","sides"] yN,dr "_law_bad_rows" ["cell","a","sides"] yO,dr "_law_joins" ["a","b","own","one"] yP,dr "_law_bad_pair" ["cell","a","sides"] yQ,dr "_law_too_large" ["cell","a","sides"] yR,dr "_law_spoiled" ["cell","k","sides"] yS,dr "_law_later" ["steps","outs","k","cell"] yT,dr "_law_refused" ["step","sides"] yU,dr "_law_told" ["program","at","why"] yV,dr "law" ["script"] yW]
noncomputable def gs:List Str:=["LOW","HIGH","MOST_SIDES","MOST_BREADTH","MOST_STEPS","MOST_OUTS","PARTS"]
noncomputable def GT:List TV:=[.int (-9223372036854775808),.int 9223372036854775807,.int 6,.int 512,.int 40,.int 8,.bor [.tup [.str "in",.tup [.tup [.str "sides",.int 1]]],.tup [.str "num",.tup [.tup [.str "number",.int 1]]],.tup [.str "count",.tup [.tup [.str "small",.int 2],.tup [.str "sides",.int 1]]],.tup [.str "each",.tup [.tup [.str "word",.int 1],.tup [.str "step",.int 2]]],.tup [.str "pair",.tup [.tup [.str "word",.int 1],.tup [.str "step",.int 2],.tup [.str "step",.int 3]]],.tup [.str "pick",.tup [.tup [.str "step",.int 1],.tup [.str "step",.int 2],.tup [.str "step",.int 3]]],.tup [.str "turn",.tup [.tup [.str "step",.int 1],.tup [.str "sides",.int 2]]],.tup [.str "flip",.tup [.tup [.str "step",.int 1],.tup [.str "small",.int 2]]],.tup [.str "cut",.tup [.tup [.str "step",.int 1],.tup [.str "small",.int 2],.tup [.str "small",.int 3],.tup [.str "small",.int 4],.tup [.str "small",.int 5]]],.tup [.str "spread",.tup [.tup [.str "step",.int 1],.tup [.str "small",.int 2],.tup [.str "small",.int 3]]],.tup [.str "lay",.tup [.tup [.str "step",.int 1],.tup [.str "sides",.int 2]]],.tup [.str "join",.tup [.tup [.str "step",.int 1],.tup [.str "step",.int 2],.tup [.str "small",.int 3]]],.tup [.str "fetch",.tup [.tup [.str "step",.int 1],.tup [.str "step",.int 2]]],.tup [.str "fold",.tup [.tup [.str "word",.int 1],.tup [.str "step",.int 2],.tup [.str "small",.int 3]]],.tup [.str "run",.tup [.tup [.str "word",.int 1],.tup [.str "step",.int 2],.tup [.str "small",.int 3]]]]]
noncomputable abbrev ZX(j i:Nat)(N:List Str)(n p:Nat)(S:PSp)(c:Ct):Prop:=ZX' DL GT gs j (top i) N n p S c
noncomputable def zq4:Cq:=(.ite (.eq (.v 0) (.w "neg")) .no .nil (.ite (.eq (.v 0) (.w "abs")) .no .nil (.ite (.eq (.v 0) (.w "sign")) .no .nil (.ite (.eq (.v 0) (.w "not")) .no .nil (.rf 0 (.w "no function of one number: ") (.v 0))))))
noncomputable def zq5:Cq:=(.ite (.eq (.v 0) (.w "add")) .no .nil (.ite (.eq (.v 0) (.w "sub")) .no .nil (.ite (.eq (.v 0) (.w "mul")) .no .nil (.ite (.eq (.v 0) (.w "quo")) .no .nil (.ite (.eq (.v 0) (.w "rest")) .no .nil (.ite (.eq (.v 0) (.w "max")) .no .nil (.ite (.eq (.v 0) (.w "min")) .no .nil (.ite (.eq (.v 0) (.w "less")) .no .nil (.ite (.eq (.v 0) (.w "like")) .no .nil (.ite (.eq (.v 0) (.w "and")) .no .nil (.ite (.eq (.v 0) (.w "or")) .no .nil (.ite (.eq (.v 0) (.w "xor")) .no .nil (.rf 0 (.w "no function of two numbers: ") (.v 0))))))))))))))
noncomputable def zq6:Cq:=(.ite (.cmp .In (.v 0) (.tup (.a3 (.w "add") (.w "or") (.w "xor")))) .no .nil (.ite (.eq (.v 0) (.w "mul")) .no .nil (.ite (.eq (.v 0) (.w "max")) .no .nil (.ite (.eq (.v 0) (.w "min")) .no .nil (.ite (.eq (.v 0) (.w "and")) .no .nil (.rf 0 (.w "no function that folds: ") (.v 0)))))))
noncomputable def Kt:Cq:=(.ite (.cmp .Gt (.bi .len (.a1 (.v 0))) (.g 2)) (.rs 4 (.a1 (.w "too many sides"))) .nil (.ite (.cmp .Gt (.call 10 (.a1 (.v 0))) (.g 3)) (.rs 4 (.a1 (.w "too great a breadth"))) .nil .no))
noncomputable def Ku:Cq:=(.ite (.or (.cmp .Lt (.v 1) (.n 0)) (.cmp .GtE (.v 1) (.bi .len (.a1 (.v 0))))) (.rs 1 (.a1 (.w "a side that is not there"))) .nil .nil)
noncomputable def Kv:Cq:=(.ite (.cmp .NotEq (.bi .sorted (.a1 (.v 1))) (.lrng false (.bi .len (.a1 (.v 0))))) (.rs 1 (.a1 (.w "an order that doesn't hold each side once"))) .nil .no)
noncomputable def Kw:Cq:=(.ex (.call 15 (.a2 (.v 0) (.v 1))) (.call 15 (.a2 (.v 0) (.v 1))) .no)
noncomputable def Kx:Cq:=(.ex (.call 15 (.a2 (.v 0) (.v 1))) (.call 15 (.a2 (.v 0) (.v 1))) (.ite (.or (.cmp .Lt (.v 2) (.n 0)) (.or (.cmp .Lt (.v 3) (.n 0)) (.cmp .Lt (.v 4) (.n 1)))) (.rs 2 (.a1 (.w "rows that can't be told so"))) .nil (.ite (.and (.cmp .Gt (.v 3) (.n 0)) (.cmp .GtE (.bin .Add (.v 2) (.bin .Mult (.bin .Sub (.v 3) (.n 1)) (.v 4))) (.ix (.v 0) (.v 1)))) (.rs 2 (.a1 (.w "rows beyond the side's last one"))) .nil .no)))
noncomputable def Ky:Cq:=(.ite (.or (.cmp .Lt (.v 1) (.n 0)) (.cmp .Gt (.v 1) (.bi .len (.a1 (.v 0))))) (.rs 1 (.a1 (.w "no place for a new side"))) .nil (.ite (.cmp .Lt (.v 2) (.n 0)) (.rs 2 (.a1 (.w "a new side of a length below nought"))) .nil (.ret (.call 11 (.a1 (.call 13 (.a3 (.v 0) (.v 1) (.v 2))))))))
noncomputable def Kz:Cq:=(.ex (.call 11 (.a1 (.v 1))) (.call 11 (.a1 (.v 1))) (.ite (.cmp .NotEq (.call 9 (.a1 (.v 0))) (.call 9 (.a1 (.v 1)))) (.rs 3 (.a1 (.w "not as many cells as were there"))) .nil .no))
noncomputable def KA:Cq:=(.ite (.cmp .NotEq (.bi .len (.a1 (.v 0))) (.bi .len (.a1 (.v 1)))) (.rs 3 (.a1 (.w "not as many sides in both"))) .nil (.ex (.call 15 (.a2 (.v 0) (.v 2))) (.call 15 (.a2 (.v 0) (.v 2))) (.ite (.cmp .NotEq (.call 14 (.a2 (.v 0) (.v 2))) (.call 14 (.a2 (.v 1) (.v 2)))) (.rs 3 (.a1 (.w "another side differs"))) .nil (.ret (.call 11 (.a1 (.call 12 (.a3 (.v 0) (.v 2) (.bin .Add (.ix (.v 0) (.v 2)) (.ix (.v 1) (.v 2)))))))))))
noncomputable def KC:Cq:=(.ite (.cmp .NotEq (.sl (.v 1) (.c .non) (.bi .len (.a1 (.v 0)))) (.v 0)) (.rs 3 (.a1 (.w "sides that are no beginning of the others"))) .nil .no)
noncomputable def KD:Cq:=(.ite (.cmp .Gt (.bi .len (.a1 (.v 0))) (.bi .len (.a1 (.v 1)))) (.ret (.call 22 (.a2 (.v 1) (.v 0)))) .nil (.ret (.call 22 (.a2 (.v 0) (.v 1)))))
noncomputable def KE:Cq:=(.ret (.or (.call 23 (.a2 (.call 23 (.a2 (.v 0) (.v 1))) (.v 2))) (.fst (.call 23 (.a2 (.v 0) (.v 1))))))
noncomputable def KF:Cq:=(.ite (.eq (.bi .len (.a1 (.v 0))) (.n 0)) (.rs 1 (.a1 (.w "no side to fetch from"))) .nil (.ite (.eq (.ix (.v 0) (.n 0)) (.n 0)) (.rs 2 (.a1 (.w "a first side of nought to fetch from"))) .nil (.ret (.call 11 (.a1 (.bin .Add (.v 1) (.sl (.v 0) (.n 1) (.c .non))))))))
noncomputable def KG:Cq:=(.ex (.call 15 (.a2 (.v 0) (.v 1))) (.call 15 (.a2 (.v 0) (.v 1))) .no)
noncomputable def KH:Cq:=(.ex (.call 11 (.a1 (.v 0))) (.call 11 (.a1 (.v 0))) (.ex (.call 15 (.a2 (.v 0) (.v 1))) (.call 15 (.a2 (.v 0) (.v 1))) .no))
noncomputable def KJ:Cq:=(.ite (.eq (.ix (.v 0) (.n 0)) (.w "each")) (.ex (.call 4 (.a2 (.ix (.v 0) (.n 1)) (.n 0))) (.call 4 (.a2 (.ix (.v 0) (.n 1)) (.n 0))) .nil) .nil (.ite (.eq (.ix (.v 0) (.n 0)) (.w "pair")) (.ex (.call 5 (.a3 (.ix (.v 0) (.n 1)) (.n 0) (.n 0))) (.call 5 (.a3 (.ix (.v 0) (.n 1)) (.n 0) (.n 0))) .nil) .nil (.ite (.cmp .In (.ix (.v 0) (.n 0)) (.tup (.a2 (.w "fold") (.w "run")))) (.ex (.call 6 (.a1 (.ix (.v 0) (.n 1)))) (.call 6 (.a1 (.ix (.v 0) (.n 1)))) .nil) .nil .nil)))
noncomputable def KL:Cq:=(.ite (.eq (.ix (.v 0) (.n 0)) (.w "in")) (.ret (.call 11 (.a1 (.ix (.v 0) (.n 1))))) .nil (.ite (.eq (.ix (.v 0) (.n 0)) (.w "count")) (.ret (.call 27 (.a2 (.ix (.v 0) (.n 1)) (.ix (.v 0) (.n 2))))) .nil .no))
noncomputable def KM:Cq:=(.set 2 (.ix (.v 0) (.n 0)) (.ite (.eq (.v 2) (.w "turn")) (.ret (.call 16 (.a2 (.v 1) (.ix (.v 0) (.n 2))))) .nil (.ite (.eq (.v 2) (.w "flip")) (.ret (.call 17 (.a2 (.v 1) (.ix (.v 0) (.n 2))))) .nil (.ite (.eq (.v 2) (.w "cut")) (.ret (.call 18 (.cons (.v 1) (.cons (.ix (.v 0) (.n 2)) (.cons (.ix (.v 0) (.n 3)) (.cons (.ix (.v 0) (.n 4)) (.cons (.ix (.v 0) (.n 5)) .nil))))))) .nil (.ite (.eq (.v 2) (.w "spread")) (.ret (.call 19 (.a3 (.v 1) (.ix (.v 0) (.n 2)) (.ix (.v 0) (.n 3))))) .nil (.ite (.eq (.v 2) (.w "lay")) (.ret (.call 20 (.a2 (.v 1) (.ix (.v 0) (.n 2))))) .nil (.ite (.eq (.v 2) (.w "fold")) (.ret (.call 26 (.a2 (.v 1) (.ix (.v 0) (.n 3))))) .nil (.ite (.eq (.v 2) (.w "run")) (.ret (.call 17 (.a2 (.v 1) (.ix (.v 0) (.n 3))))) .nil .no))))))))
noncomputable def KN:Cq:=(.ex (.call 28 (.a1 (.v 0))) (.call 28 (.a1 (.v 0))) (.set 2 (.comp ["number"] ["sides"] [1] [0] .seq (.a1 (.call 8 (.a1 (.v 0)))) (.ix (.v 1) (.v 0))) (.set 3 (.ix (.v 0) (.n 0)) (.ite (.eq (.bi .len (.a1 (.v 2))) (.n 0)) (.ret (.call 29 (.a1 (.v 0)))) .nil (.ite (.eq (.bi .len (.a1 (.v 2))) (.n 1)) (.ret (.call 30 (.a2 (.v 0) (.ix (.v 2) (.n 0))))) .nil (.ite (.eq (.v 3) (.w "pair")) (.ret (.call 23 (.a2 (.ix (.v 2) (.n 0)) (.ix (.v 2) (.n 1))))) .nil (.ite (.eq (.v 3) (.w "join")) (.ret (.call 21 (.a3 (.ix (.v 2) (.n 0)) (.ix (.v 2) (.n 1)) (.ix (.v 0) (.n 3))))) .nil (.ite (.eq (.v 3) (.w "fetch")) (.ret (.call 25 (.a2 (.ix (.v 2) (.n 0)) (.ix (.v 2) (.n 1))))) .nil (.ret (.call 24 (.a3 (.ix (.v 2) (.n 0)) (.ix (.v 2) (.n 1)) (.ix (.v 2) (.n 2)))))))))))))
noncomputable def KO:Cq:=(.set 1 (.call 33 (.a1 (.v 0))) (.set 2 (.ix (.v 1) (.n 1)) (.ite (.cmp .IsNot (.v 2) (.c .non)) (.rb (.a3 (.w "a program that is not good") (.ix (.v 2) (.n 0)) (.ix (.v 2) (.n 1)))) .nil .no)))
noncomputable def X1L:List XSp:=[noX,noX,noX,noX,zx4,zx5,zx6,noX,noX,noX,noX,xy,noX,noX,noX,xz,rV,nr,rY,rZ,se,sg,xA,sh,si,sj,sr,xB,sv,nz,fY,sw,noX,noX,noX,noX,noX,noX,noX,noX,noX,noX,noX,noX,noX,noX,noX,noX,noX,noX,noX,noX,noX,noX,noX,noX,noX,noX,noX,noX,noX,noX,noX,noX]
noncomputable def X2L:List XSp:=[noX,noX,noX,noX,noX,noX,noX,noX,noX,noX,noX,noX,noX,noX,noX,noX,noX,noX,noX,noX,noX,noX,noX,noX,noX,noX,noX,noX,noX,noX,noX,noX,noX,noX,noX,xK,noX,noX,noX,noX,noX,noX,noX,noX,noX,noX,noX,noX,noX,noX,noX,noX,noX,noX,noX,noX,noX,noX,noX,noX,noX,noX,noX,noX]
noncomputable def CSL:List Str:=["NoWord","NoSide","Beyond","Unlike","TooLarge","LoomError"]
def isC(k c:Nat):Bool:=decide (k=c)
noncomputable abbrev ZT(j i:Nat)(N:List Str)(n p q:Nat)(S:PSp)(c b:Ct)(bx:Cq)(hs:List (Nat × Cs))(r:Ct):Prop:=ZT' DL GT gs X1L CSL 5 isC j (top i) N n p q S c b bx hs r
noncomputable abbrev ZU(j i:Nat)(N:List Str)(n p q q' e f k:Nat)(ks:List Nat)(S:PSp)(c b:Ct)(bx:Cq)(c':Ct)(s:Cs)(r:Ct):Prop:=ZU' DL GT gs X2L CSL j (top i) N n p q q' e f k ks S c b bx c' s r
noncomputable abbrev ZR(tp:Bool)(j i:Nat)(N:List Str)(n p:Nat)(T:XSp)(c:Cq):Prop:=ZR' DL GT gs (if tp=true then X1L else X2L) CSL tp j (top i) N n p T c
theorem zw0:ZX 0 11 ["n"] 1 1 zp0 zc0:=by
 refine⟨by kernel_rfl,?_⟩;rintro ts Q ⟨n,rfl,q⟩;refine⟨rfl,?_⟩;exact⟨p64,by decide,rfl,q⟩
theorem zw1:ZX 1 12 ["x"] 1 1 zp1 zc1:=by
 refine⟨by kernel_rfl,?_⟩;rintro ts Q ⟨n,rfl,q⟩;refine⟨rfl,?_⟩;exact s3 (λ h=>⟨rfl,by rw[if_pos h] at q;exact q⟩) (λ h=>s3 (λ h2=>⟨rfl,by rw[if_neg h,if_pos h2] at q;exact q⟩) (λ h2=>⟨rfl,by rw[if_neg h,if_neg h2] at q;exact q⟩))
theorem zw2:ZX 2 13 ["x","y"] 2 2 zp2 zc2:=by
 refine⟨by kernel_rfl,?_⟩;rintro ts Q ⟨x,y,rfl,hx,hy,q⟩;refine⟨rfl,?_⟩;unfold inB at hx hy;unfold qY at q;exact⟨trivial,sN (λ h=>⟨rfl,by rw[if_pos h] at q;exact q⟩) (λ h=>⟨⟨h,by lia,by lia⟩,cl rfl ⟨_,rfl,rfl,by rw[if_neg h] at q;rw[xk];exact q⟩ rfl⟩)⟩
theorem zw3:ZX 3 14 ["x","y"] 2 2 zp3 zc3:=by
 refine⟨by kernel_rfl,?_⟩;rintro ts Q ⟨x,y,rfl,q⟩;refine⟨rfl,?_⟩;unfold qZ at q;exact⟨trivial,sN (λ h=>⟨rfl,by rw[if_pos h] at q;exact q⟩) (λ h=>⟨h,rfl,by rw[if_neg h,← Ik] at q;exact q⟩)⟩
theorem zr4:ZR true 4 15 ["word","x"] 2 2 zx4 zq4:=by
 refine⟨by kernel_rfl,?_⟩;rintro ts E ⟨wd,x,rfl,ok,hw,q⟩;refine⟨rfl,?_⟩;unfold gJ at hw;simp only[av,bh,aY,not_or] at hw;obtain⟨h1,h2,h3,h4⟩:=hw;exact⟨trivial,sE (λ c=>absurd c h1) λ _=>⟨trivial,sE (λ c=>absurd c h2) λ _=>⟨trivial,sE (λ c=>absurd c h3) λ _=>⟨trivial,sE (λ c=>absurd c h4) λ _=>⟨_,rfl,(by decide +kernel),_,rfl,ok,q⟩⟩⟩⟩⟩
theorem zw4:ZX 4 15 ["word","x"] 2 2 zp4 zc4:=by
 refine⟨by kernel_rfl,?_⟩;rintro ts Q ⟨wd,x,rfl,hw,q⟩;refine⟨rfl,?_⟩;unfold wN wM at q;refine⟨trivial,sE (λ c=>?_) (λ c0=>?_)⟩
 ·rw[if_pos c] at q;exact cl rfl ⟨_,rfl,rfl,q⟩ rfl
 rw[if_neg c0] at q;refine⟨trivial,sE (λ c=>?_) (λ c1=>?_)⟩
 ·rw[if_pos c] at q;exact cl rfl ⟨_,rfl,rfl,q⟩ rfl
 rw[if_neg c1] at q;refine⟨trivial,sE (λ c=>?_) (λ c2=>?_)⟩
 ·rw[if_pos c] at q;exact cl rfl ⟨_,rfl,rfl,q⟩ rfl
 rw[if_neg c2] at q;refine⟨trivial,sE (λ c=>?_) (λ c3=>?_)⟩
 ·exact⟨trivial,sN (λ h=>⟨rfl,by rw[if_pos h] at q;exact q⟩) (λ h=>⟨rfl,by rw[if_neg h] at q;exact q⟩)⟩
 simp only[gJ,av,bh,aY] at hw;exact absurd hw (by simp only[c0,c1,c2,c3,or_self,not_false_eq_true])
theorem zr5:ZR true 5 16 ["word","x","y"] 3 3 zx5 zq5:=by
 refine⟨by kernel_rfl,?_⟩;rintro ts E ⟨wd,x,y,rfl,ok,hw,q⟩;refine⟨rfl,?_⟩;unfold fR at hw;simp only[av,bh,aY,not_or] at hw;obtain⟨h1,h2,h3,h4,h5,h6,h7,h8,h9,h10,h11,h12⟩:=hw;exact⟨trivial,sE (λ c=>absurd c h1) λ _=>⟨trivial,sE (λ c=>absurd c h2) λ _=>⟨trivial,sE (λ c=>absurd c h3) λ _=>⟨trivial,sE (λ c=>absurd c h4) λ _=>⟨trivial,sE (λ c=>absurd c h5) λ _=>⟨trivial,sE (λ c=>absurd c h6) λ _=>⟨trivial,sE (λ c=>absurd c h7) λ _=>⟨trivial,sE (λ c=>absurd c h8) λ _=>⟨trivial,sE (λ c=>absurd c h9) λ _=>⟨trivial,sE (λ c=>absurd c h10) λ _=>⟨trivial,sE (λ c=>absurd c h11) λ _=>⟨trivial,sE (λ c=>absurd c h12) λ _=>⟨_,rfl,(by decide +kernel),_,rfl,ok,q⟩⟩⟩⟩⟩⟩⟩⟩⟩⟩⟩⟩⟩
theorem zw5:ZX 5 16 ["word","x","y"] 3 3 zp5 zc5:=by
 refine⟨by kernel_rfl,?_⟩;rintro ts Q ⟨wd,x,y,rfl,hx,hy,hw,q⟩;refine⟨rfl,?_⟩;unfold wK at q;have hx':=hx;unfold inB at hx';refine⟨trivial,sE (λ c=>?_) (λ c0=>?_)⟩
 ·rw[if_pos c] at q;exact cl rfl ⟨_,rfl,rfl,q⟩ rfl
 rw[if_neg c0] at q;refine⟨trivial,sE (λ c=>?_) (λ c1=>?_)⟩
 ·rw[if_pos c] at q;exact cl rfl ⟨_,rfl,rfl,q⟩ rfl
 rw[if_neg c1] at q;refine⟨trivial,sE (λ c=>?_) (λ c2=>?_)⟩
 ·rw[if_pos c] at q;exact⟨mY (by lia) (by lia),cl rfl ⟨_,rfl,rfl,q⟩ rfl⟩
 rw[if_neg c2] at q;refine⟨trivial,sE (λ c=>?_) (λ c3=>?_)⟩
 ·rw[if_pos c] at q;exact cl rfl ⟨x,y,rfl,hx,hy,rfl,q⟩ rfl
 rw[if_neg c3] at q;refine⟨trivial,sE (λ c=>?_) (λ c4=>?_)⟩
 ·rw[if_pos c] at q;exact cl rfl ⟨x,y,rfl,rfl,q⟩ rfl
 rw[if_neg c4] at q;refine⟨trivial,sE (λ c=>?_) (λ c5=>?_)⟩
 ·rw[if_pos c] at q;exact⟨rfl,q⟩
 rw[if_neg c5] at q;refine⟨trivial,sE (λ c=>?_) (λ c6=>?_)⟩
 ·rw[if_pos c] at q;exact⟨rfl,q⟩
 rw[if_neg c6] at q;refine⟨trivial,sE (λ c=>?_) (λ c7=>?_)⟩
 ·rw[if_pos c] at q;exact s3 (λ h=>⟨rfl,by rw[if_pos h] at q;exact q⟩) (λ h=>⟨rfl,by rw[if_neg h] at q;exact q⟩)
 rw[if_neg c7] at q;refine⟨trivial,sE (λ c=>?_) (λ c8=>?_)⟩
 ·rw[if_pos c] at q;exact⟨trivial,sN (λ h=>⟨rfl,by rw[if_pos h] at q;exact q⟩) (λ h=>⟨rfl,by rw[if_neg h] at q;exact q⟩)⟩
 rw[if_neg c8] at q;refine⟨trivial,sE (λ c=>?_) (λ c9=>?_)⟩
 ·rw[if_pos c] at q;exact⟨rfl,q⟩
 rw[if_neg c9] at q;refine⟨trivial,sE (λ c=>?_) (λ c10=>?_)⟩
 ·rw[if_pos c] at q;exact⟨rfl,q⟩
 rw[if_neg c10] at q;refine⟨trivial,sE (λ c=>?_) (λ c11=>?_)⟩
 ·exact⟨rfl,q⟩
 simp only[fR,av,bh,aY] at hw;exact absurd hw (by simp only[c0,c1,c2,c3,c4,c5,c6,c7,c8,c9,c10,c11,or_self,not_false_eq_true])
theorem zr6:ZR true 6 17 ["word"] 1 1 zx6 zq6:=by
 refine⟨by kernel_rfl,?_⟩;rintro ts E ⟨wd,rfl,ok,hw,q⟩;refine⟨rfl,?_⟩;have fl:∀x∈[TV.str "add",TV.str "or",TV.str "xor"],flT x=true:=by decide
 unfold isF at hw;simp only[fw,av,bh,aY,not_or] at hw;refine⟨rfl,g3L,rfl,fl,s2 (λ h=>?_) (λ h=>⟨trivial,sE (λ c=>?_) (λ c0=>⟨trivial,sE (λ c=>?_) (λ c1=>⟨trivial,sE (λ c=>?_) (λ c2=>⟨trivial,sE (λ c=>?_) (λ c3=>⟨_,rfl,(by decide +kernel),_,rfl,ok,q⟩)⟩)⟩)⟩)⟩)⟩
 ·have h:(decide (Str.ofString "add"=wd) || (decide (Str.ofString "or"=wd) || (decide (Str.ofString "xor"=wd) || false)))=true:=h;simp only[iz,du,lU,aY] at h
  rcases h with h | h | h<;>(subst h;exact absurd hw (by decide))
 all_goals (subst c;exact absurd hw (by decide))
theorem zw6:ZX 6 17 ["word"] 1 1 zp6 zc6:=by
 refine⟨by kernel_rfl,?_⟩;rintro ts Q ⟨wd,rfl,hw,q⟩;refine⟨rfl,?_⟩;have fl:∀x∈[TV.str "add",TV.str "or",TV.str "xor"],flT x=true:=by decide
 unfold isF at hw;simp only[fw,av,bh,aY] at hw;refine⟨rfl,g3L,rfl,fl,s2 (λ h=>⟨rfl,?_⟩) (λ h=>⟨trivial,sE (λ c=>⟨rfl,?_⟩) (λ c0=>⟨trivial,sE (λ c=>⟨rfl,?_⟩) (λ c1=>⟨trivial,sE (λ c=>⟨rfl,?_⟩) (λ c2=>⟨trivial,sE (λ c=>⟨rfl,?_⟩) (λ c3=>?_)⟩)⟩)⟩)⟩)⟩
 ·have h:(decide (Str.ofString "add"=wd) || (decide (Str.ofString "or"=wd) || (decide (Str.ofString "xor"=wd) || false)))=true:=h;simp only[iz,du,lU,aY] at h
  rcases h with rfl | rfl | rfl
  ·rw[Hu] at q;exact q
  ·rw[Hz] at q;exact q
  ·rw[HA] at q;exact q
 ·subst c;rw[Hv] at q;exact q
 ·subst c;rw[Hw] at q;exact q
 ·subst c;rw[Hx] at q;exact q
 ·subst c;rw[Hy] at q;exact q
 ·have h:(decide (Str.ofString "add"=wd) || (decide (Str.ofString "or"=wd) || (decide (Str.ofString "xor"=wd) || false)))=false:=h;simp only[Bool.or_eq_false_iff,vG,and_true] at h
  rcases hw with z | z | z | z | z | z | z
  ·exact absurd z.symm h.1
  ·exact absurd z c0
  ·exact absurd z c1
  ·exact absurd z c2
  ·exact absurd z c3
  ·exact absurd z.symm h.2.1
  ·exact absurd z.symm h.2.2
theorem zw7:ZX 7 22 ["form"] 1 1 zp7 zc7:=by
 refine⟨by kernel_rfl,?_⟩;rintro ts Q ⟨i,hi,rfl,q⟩;refine⟨rfl,?_⟩;have sl:∀n:Nat,n≤9->n < sizeLine:=λ n h=>aQ (by lia)
 match i,hi with
 | 0,_=>exact⟨_,rfl,sl 1 (by decide),trivial,rfl,q⟩
 | 1,_=>exact⟨_,rfl,sl 1 (by decide),trivial,rfl,q⟩
 | 2,_=>exact⟨_,rfl,sl 2 (by decide),trivial,trivial,rfl,q⟩
 | 3,_=>exact⟨_,rfl,sl 2 (by decide),trivial,trivial,rfl,rfl,q⟩
 | 4,_=>exact⟨_,rfl,sl 3 (by decide),trivial,trivial,rfl,trivial,rfl,rfl,q⟩
 | 5,_=>exact⟨_,rfl,sl 3 (by decide),trivial,rfl,trivial,rfl,trivial,rfl,rfl,q⟩
 | 6,_=>exact⟨_,rfl,sl 2 (by decide),trivial,rfl,trivial,rfl,q⟩
 | 7,_=>exact⟨_,rfl,sl 2 (by decide),trivial,rfl,trivial,rfl,q⟩
 | 8,_=>exact⟨_,rfl,sl 5 (by decide),trivial,rfl,trivial,trivial,trivial,trivial,rfl,q⟩
 | 9,_=>exact⟨_,rfl,sl 3 (by decide),trivial,rfl,trivial,trivial,rfl,q⟩
 | 10,_=>exact⟨_,rfl,sl 2 (by decide),trivial,rfl,trivial,rfl,q⟩
 | 11,_=>exact⟨_,rfl,sl 3 (by decide),trivial,rfl,trivial,rfl,trivial,rfl,q⟩
 | 12,_=>exact⟨_,rfl,sl 2 (by decide),trivial,rfl,trivial,rfl,rfl,q⟩
 | 13,_=>exact⟨_,rfl,sl 3 (by decide),trivial,trivial,rfl,trivial,rfl,q⟩
 | 14,_=>exact⟨_,rfl,sl 3 (by decide),trivial,trivial,rfl,trivial,rfl,q⟩
 | i+15,h=>lia
theorem zw8:ZX 8 23 ["step"] 1 1 zp8 zc8:=by
 refine⟨by kernel_rfl,?_⟩;intro ts Q h
 rcases h with ⟨d,rfl,q⟩ | ⟨i,xs,g,rfl,i15,h0,hp,q⟩
 ·refine⟨rfl,?_⟩;have sl:∀n:Nat,n≤3->n < sizeLine:=λ n h=>aQ (by lia);have k15:kdN d < 15:=by cases d<;>exact aN rfl
  refine⟨_,Ix d,cl rfl ⟨kdN d,k15,rfl,?_⟩ rfl⟩;rw[rF _ k15]
  cases d<;>first | exact⟨sl 0 (by decide),rfl,q⟩ | exact⟨sl 1 (by decide),_,rfl,rfl,rfl,q⟩ | exact⟨sl 2 (by decide),_,rfl,rfl,_,rfl,rfl,rfl,q⟩ | exact⟨sl 3 (by decide),_,rfl,rfl,_,rfl,rfl,_,rfl,rfl,rfl,q⟩
 ·have l3:=xq i i15;refine⟨rfl,_,h0,cl rfl ⟨i,i15,rfl,by rw[ag];exact sl3 l3,mZ rfl (λ p=>.int (g p)) (λ p hp'=>⟨_,hp p hp',rfl,rfl⟩) ⟨rfl,?_⟩⟩ rfl⟩;unfold tI at q;rw[bE] at q;exact q
theorem zw9:ZX 9 27 ["sides","product","side"] 3 1 zp9 zc9:=by
 refine⟨by kernel_rfl,?_⟩;rintro ts Q ⟨t,rfl,ns,ht,sd,q⟩;refine⟨rfl,?_⟩
 rcases ht with rfl | rfl
 ·refine⟨rfl,rfl,dA (λ i ρ=>∃y,ρ=[some (tI ns),some (.int (ah (ns.take i))),y]) ⟨_,rfl⟩ (λ i u ρ hu ⟨y,e⟩=>?_) (λ ρ ⟨y,e⟩=>?_)⟩
  ·subst e;obtain⟨n,rfl,hn⟩:=kU hu
   skip
   exact⟨sd i n hn,rfl,some (.int n),by rw[mP hn];rfl⟩
  ·subst e;rw[ag,fc];exact⟨rfl,q⟩
 ·refine⟨rfl,rfl,dA (λ i ρ=>∃y,ρ=[some (lI ns),some (.int (ah (ns.take i))),y]) ⟨_,rfl⟩ (λ i u ρ hu ⟨y,e⟩=>?_) (λ ρ ⟨y,e⟩=>?_)⟩
  ·subst e;obtain⟨n,rfl,hn⟩:=kU hu
   skip
   exact⟨sd i n hn,rfl,some (.int n),by rw[mP hn];rfl⟩
  ·subst e;rw[ag,fc];exact⟨rfl,q⟩
theorem KP:ZX 10 28 ["sides"] 1 1 xL Jb:=by
 refine⟨by kernel_rfl,?_⟩;rintro ts Q ⟨ns,rfl,sd,l,q⟩;refine⟨rfl,?_⟩;refine⟨by rw[ag];exact aQ (by lia),eO .int (λ n=>.int (ai n)) ns (λ n _=>?_) (cl rfl ⟨_,rfl,ns.map ai,.inr (by unfold lI;rw[bE];rfl),sd,rfl,q⟩ rfl)⟩;refine⟨trivial,s2 (λ h=>⟨rfl,?_⟩) (λ h=>⟨rfl,?_⟩)⟩
 ·rw[Ii h];rfl
 ·rw[Ij h];rfl
theorem KQ:ZR true 11 29 ["sides"] 1 1 xy Kt:=by
 refine⟨by kernel_rfl,?_⟩;rintro ts E ⟨ns,rfl,h,q⟩;refine⟨rfl,?_⟩
 rcases h with h | ⟨l,sd,h⟩
 ·exact sT (bw (show(6:Int) < ((ns.map TV.int).length:Nat) by rw[ag];lia)) ⟨g1L,q⟩
 ·exact sF (aJ (show ¬((6:Int) < ((ns.map TV.int).length:Nat)) by rw[ag];lia)) (cl rfl ⟨ns,rfl,sd,by lia,sT (bw (show(512:Int) < ah (ns.map ai) by lia)) ⟨g1L,q⟩⟩ rfl)
theorem KR:ZX 11 29 ["sides"] 1 1 xM Jc:=by
 refine⟨by kernel_rfl,?_⟩;rintro ts Q ⟨ns,rfl,sd,l,nb,q⟩;refine⟨rfl,?_⟩;unfold bq at nb;exact sF (aJ (show ¬((6:Int) < ((ns.map TV.int).length:Nat)) by rw[ag];lia)) (cl rfl ⟨ns,rfl,mok (mQ sd),l,sF (aJ (show ¬((512:Int) < ah (ns.map ai)) by lia)) ⟨rfl,q⟩⟩ rfl)
theorem KS:ZX 12 30 ["row","k","number"] 3 3 xN Jd:=by
 refine⟨by kernel_rfl,?_⟩;rintro ts Q ⟨ns,k,m,rfl,l,kl,q⟩;refine⟨rfl,?_⟩;have e1:=cU ns k;have e2:af (ns.map TV.int) (some ((k:Int)+1)) none=(ns.drop (k+1)).map TV.int:=by rw[show(k:Int)+1=((k+1:Nat):Int) by lia];exact dC ns (k+1)
 have e3:(af (ns.map TV.int) none (some (k:Int))++[TV.int m])++af (ns.map TV.int) (some ((k:Int)+1)) none=(ns.set k m).map TV.int:=by rw[e1,e2,rh,if_pos kl];simp
 have l1:(af (ns.map TV.int) none (some (k:Int))).length≤63:=by rw[e1,ag,aU];lia
 have l2:(af (ns.map TV.int) (some ((k:Int)+1)) none).length≤63:=by rw[e2,ag,cg];lia
 unfold tI at q;rw[← e3] at q;exact⟨rfl,g1L,aA (show(af (ns.map TV.int) none (some (k:Int))).length+1≤1000 by lia),aA (show(af (ns.map TV.int) none (some (k:Int))++[TV.int m]).length+(af (ns.map TV.int) (some ((k:Int)+1)) none).length≤1000 by rw[aC,cK];lia),rfl,q⟩
theorem KU:ZX 13 31 ["row","k","number"] 3 3 xO Je:=by
 refine⟨by kernel_rfl,?_⟩;rintro ts Q ⟨ns,k,m,rfl,l,q⟩;refine⟨rfl,?_⟩;have e1:=cU ns k;have e2:=dC ns k;have e3:(af (ns.map TV.int) none (some (k:Int))++[TV.int m])++af (ns.map TV.int) (some (k:Int)) none=(bY ns k m).map TV.int:=by rw[e1,e2];unfold bY;simp
 have l1:(af (ns.map TV.int) none (some (k:Int))).length≤63:=by rw[e1,ag,aU];lia
 have l2:(af (ns.map TV.int) (some (k:Int)) none).length≤63:=by rw[e2,ag,cg];lia
 unfold tI at q;rw[← e3] at q;exact⟨rfl,g1L,aA (show(af (ns.map TV.int) none (some (k:Int))).length+1≤1000 by lia),aA (show(af (ns.map TV.int) none (some (k:Int))++[TV.int m]).length+(af (ns.map TV.int) (some (k:Int)) none).length≤1000 by rw[aC,cK];lia),rfl,q⟩
theorem KW:ZX 14 32 ["row","k"] 2 2 xP Jf:=by
 refine⟨by kernel_rfl,?_⟩;rintro ts Q ⟨ns,k,rfl,l,kl,q⟩;refine⟨rfl,?_⟩;have e1:=cU ns k;have e2:af (ns.map TV.int) (some ((k:Int)+1)) none=(ns.drop (k+1)).map TV.int:=by rw[show(k:Int)+1=((k+1:Nat):Int) by lia];exact dC ns (k+1)
 have e3:af (ns.map TV.int) none (some (k:Int))++af (ns.map TV.int) (some ((k:Int)+1)) none=(ns.eraseIdx k).map TV.int:=by rw[e1,e2,jy,cq]
 have l1:(af (ns.map TV.int) none (some (k:Int))).length≤63:=by rw[e1,ag,aU];lia
 have l2:(af (ns.map TV.int) (some ((k:Int)+1)) none).length≤63:=by rw[e2,ag,cg];lia
 unfold tI at q;rw[← e3] at q;exact⟨aA (show(af (ns.map TV.int) none (some (k:Int))).length+(af (ns.map TV.int) (some ((k:Int)+1)) none).length≤1000 by lia),rfl,q⟩
theorem KY:ZR true 15 34 ["sides","side"] 2 2 xz Ku:=by
 refine⟨by kernel_rfl,?_⟩;rintro ts E ⟨ns,side,rfl,no,q⟩;refine⟨rfl,?_⟩;unfold off at no;refine s3 (λ c=>?_) (λ c=>?_)
 ·exact⟨g1L,q⟩
 ·exact sT (bw (show((ns.map TV.int).length:Int)≤side by rw[ag];lia)) ⟨g1L,q⟩
theorem KZ:ZX 15 34 ["sides","side"] 2 2 xQ Jg:=by
 refine⟨by kernel_rfl,?_⟩;rintro ts Q ⟨ns,side,rfl,no,q⟩;refine⟨rfl,?_⟩;unfold off at no;exact sF (aJ (show ¬side < 0 by lia)) (sF (aJ (show ¬((ns.map TV.int).length:Int)≤side by rw[ag];lia)) q)
theorem La:ZR true 16 35 ["sides","order"] 2 2 rV Kv:=by
 refine⟨by kernel_rfl,?_⟩;rintro ts E ⟨ns,os,rfl,l1,l2,tk,q⟩;refine⟨rfl,?_⟩;refine⟨os,rfl,by lia,λ ss pm pw=>?_⟩;have c:¬ss=upL ns.length:=λ z=>tk ((wP (n:=ns.length) pm pw).mp z);refine⟨⟨by lia,by rw[ag];lia⟩,dpL _,sT ?_ ⟨g1L,q⟩⟩;show(!_L.eqT (TV.lst (ss.map TV.int)) (TV.lst ((List.range (((ns.map TV.int).length:Nat):Int).toNat).map λ i:Nat=>TV.int (i:Nat))))=true;rw[show((List.range (((ns.map TV.int).length:Nat):Int).toNat).map λ i:Nat=>TV.int (i:Nat))=(upL ns.length).map TV.int by rw[ag];unfold upL;rw[bE];rfl,xj];simp[c]
theorem Lb:ZX 16 35 ["sides","order"] 2 2 xS Jh:=by
 refine⟨by kernel_rfl,?_⟩;rintro ts Q ⟨ns,os,rfl,l1,l2,tk,q⟩;refine⟨rfl,?_⟩;refine⟨os,rfl,by lia,λ ss pm pw=>?_⟩;have c:=(wP (n:=ns.length) pm pw).mpr tk;refine⟨⟨by lia,by rw[ag];lia⟩,dpL _,sF ?_ ?_⟩
 ·show(!_L.eqT (TV.lst (ss.map TV.int)) (TV.lst ((List.range (((ns.map TV.int).length:Nat):Int).toNat).map λ i:Nat=>TV.int (i:Nat))))=false;rw[show((List.range (((ns.map TV.int).length:Nat):Int).toNat).map λ i:Nat=>TV.int (i:Nat))=(upL ns.length).map TV.int by rw[ag];unfold upL;rw[bE];rfl,xj,c];simp
 ·refine⟨by rw[ag];exact aQ (by lia),eO .int (λ o:Int=>.int (ns.getD o.toNat 0)) os (λ o ho=>?_) ⟨rfl,by unfold tI iF at q;rw[bE] at q;exact q⟩⟩;have om:=up_mem.mp (tk.subset ho);exact⟨_,ng om.1 om.2,rfl,rfl⟩
theorem Lc:ZR true 17 36 ["sides","side"] 2 2 nr Kw:=by
 refine⟨by kernel_rfl,?_⟩;rintro ts E ⟨ns,side,rfl,no,q⟩;refine⟨rfl,?_⟩;exact .inl ⟨_,⟨_,rfl,ns,side,rfl,no,rfl⟩,λ n h=>h ▸ q⟩
theorem Ld:ZX 17 36 ["sides","side"] 2 2 xT Ji:=by
 refine⟨by kernel_rfl,?_⟩;rintro ts Q ⟨ns,side,rfl,no,q⟩;refine⟨rfl,?_⟩;exact cl rfl ⟨ns,side,rfl,no,rfl,q⟩ rfl
theorem Le:ZR true 18 37 ["sides","side","first","many","step"] 5 5 rY Kx:=by
 refine⟨by kernel_rfl,?_⟩;rintro ts E ⟨ns,side,f,m,g,rfl,h⟩;refine⟨rfl,?_⟩
 rcases h with ⟨no,q⟩ | ⟨no,b,bd,q⟩
 ·exact .inl ⟨_,⟨_,rfl,ns,side,rfl,no,rfl⟩,λ n h=>h ▸ q⟩
 refine .inr (cl rfl ⟨ns,side,rfl,no,?_⟩ rfl);obtain⟨k,rfl,hk⟩:=kO no;unfold bad at b;simp only[Int.toNat_natCast] at b;refine s3 (λ c=>⟨g1L,q⟩) (λ c1=>s3 (λ c=>⟨g1L,q⟩) (λ c2=>s3 (λ c=>⟨g1L,q⟩) (λ c3=>?_)))
 have b':0 < m/\ns.getD k 0≤f+(m - 1) * g:=by
  rcases b with h | h | h | h
  ·exact absurd h c1
  ·exact absurd h c2
  ·exact absurd h c3
  ·exact h
 refine s3 (λ c=>?_) (λ c=>absurd b'.1 c);exact⟨mY (by lia) (by lia),_,dB hk,sT (bw b'.2) ⟨g1L,q⟩⟩
theorem Lf:ZX 18 37 ["sides","side","first","many","step"] 5 5 xU Jj:=by
 refine⟨by kernel_rfl,?_⟩;rintro ts Q ⟨ns,side,f,m,g,rfl,l,m0,m1,no,nb,q⟩;refine⟨rfl,?_⟩;refine cl rfl ⟨ns,side,rfl,no,?_⟩ rfl;obtain⟨k,rfl,hk⟩:=kO no;unfold bad at nb;simp only[Int.toNat_natCast] at nb q;refine sF (aJ λ z=>nb (.inl z)) (sF (aJ λ z=>nb (.inr (.inl z))) (sF (aJ λ z=>nb (.inr (.inr (.inl z)))) ?_));refine s3 (λ c=>?_) (λ c=>cl rfl ⟨ns,k,m,rfl,l,hk,rfl,q⟩ rfl);exact⟨mY (by lia) (by lia),_,dB hk,sF (aJ λ z=>nb (.inr (.inr (.inr ⟨c,z⟩)))) (cl rfl ⟨ns,k,m,rfl,l,hk,rfl,q⟩ rfl)⟩
theorem Lg:ZR true 19 38 ["sides","side","many"] 3 3 rZ Ky:=by
 refine⟨by kernel_rfl,?_⟩;rintro ts E ⟨ns,side,many,rfl,h⟩;refine⟨rfl,?_⟩
 rcases h with ⟨no,q⟩ | ⟨no,b,q⟩ | ⟨no,nm,l,b,q⟩
 ·unfold bZ at no;refine s3 (λ c=>⟨g1L,q⟩) (λ c=>?_);exact sT (bw (show((ns.map TV.int).length:Int) < side by rw[ag];lia)) ⟨g1L,q⟩
 ·unfold bZ at no;exact sF (aJ (show ¬side < 0 by lia)) (sF (aJ (show ¬((ns.map TV.int).length:Int) < side by rw[ag];lia)) (sT (bw b) ⟨g1L,q⟩))
 ·unfold bZ at no;obtain⟨k,rfl⟩:∃k:Nat,side=k:=⟨side.toNat,by lia⟩;simp only[Int.toNat_natCast] at b;exact sF (aJ (show ¬((ns.map TV.int).length:Int) < k by rw[ag];lia)) (sF (aJ nm) (cl rfl ⟨ns,k,many,rfl,by lia,_,⟨_,rfl,bY ns k many,rfl,b,rfl⟩,λ n h=>h ▸ q⟩ rfl))
theorem Lh:ZX 19 38 ["sides","side","many"] 3 3 xV Jk:=by
 refine⟨by kernel_rfl,?_⟩;rintro ts Q ⟨ns,side,m,rfl,sd,l,m1,no,mn,nb,q⟩;refine⟨rfl,?_⟩;unfold bZ at no;obtain⟨k,rfl⟩:∃k:Nat,side=k:=⟨side.toNat,by lia⟩;simp only[Int.toNat_natCast] at nb q;have il:=wQ ns k m;refine sF (aJ (show ¬((ns.map TV.int).length:Int) < k by rw[ag];lia)) (sF (aJ mn) (cl rfl ⟨ns,k,m,rfl,by lia,cl rfl ⟨bY ns k m,rfl,λ n hn=>?_,by lia,nb,rfl,q⟩ rfl⟩ rfl));unfold bY at hn;simp only[aM,aR] at hn
 rcases hn with (h | h) | h
 ·exact sd n (nC h)
 ·lia
 ·exact sd n (xg h)
theorem Li:ZR true 20 39 ["sides","others"] 2 2 se Kz:=by
 refine⟨by kernel_rfl,?_⟩;rintro ts E ⟨ns,ms,rfl,h⟩;refine⟨rfl,?_⟩
 rcases h with ⟨b,q⟩ | ⟨nb,sn,sd,l,no,q⟩
 ·exact .inl ⟨_,⟨_,rfl,ms,rfl,b,rfl⟩,λ n h=>h ▸ q⟩
 ·exact .inr (cl rfl ⟨ms,rfl,sd,by lia,nb,cl rfl ⟨_,rfl,ns,.inl rfl,mok sn,cl rfl ⟨_,rfl,ms,.inl rfl,mok sd,trivial,sT (neT no) ⟨g1L,q⟩⟩ rfl⟩ rfl⟩ rfl)
theorem Lj:ZX 20 39 ["sides","others"] 2 2 xW Jl:=by
 refine⟨by kernel_rfl,?_⟩;rintro ts Q ⟨ns,ms,rfl,sd,sm',l,nb,e,q⟩;refine⟨rfl,?_⟩;exact cl rfl ⟨ms,rfl,sm',by lia,nb,cl rfl ⟨_,rfl,ns,.inl rfl,mok sd,cl rfl ⟨_,rfl,ms,.inl rfl,mok sm',trivial,sF (neF e) ⟨rfl,q⟩⟩ rfl⟩ rfl⟩ rfl
theorem Lk:ZR true 21 40 ["sides","others","side"] 3 3 sg KA:=by
 refine⟨by kernel_rfl,?_⟩;rintro ts E ⟨ns,ms,side,rfl,l,h⟩;refine⟨rfl,?_⟩
 rcases h with ⟨n,q⟩ | ⟨e,h⟩
 ·exact⟨trivial,sT (neT (show(((ns.map TV.int).length:Nat):Int)≠((ms.map TV.int).length:Nat) by rw[ag,ag];lia)) ⟨g1L,q⟩⟩
 refine⟨trivial,sF (neF (show(((ns.map TV.int).length:Nat):Int)=((ms.map TV.int).length:Nat) by rw[ag,ag];lia)) ?_⟩
 rcases h with ⟨no,q⟩ | ⟨no,c,q⟩ | ⟨no,c,b,q⟩
 ·exact .inl ⟨_,⟨_,rfl,ns,side,rfl,no,rfl⟩,λ n h=>h ▸ q⟩
 all_goals refine .inr (cl rfl ⟨ns,side,rfl,no,?_⟩ rfl)
 all_goals obtain⟨k,rfl,hk⟩:=kO no
 all_goals simp only[Int.toNat_natCast] at c
 ·refine cl rfl ⟨ns,k,rfl,by lia,hk,cl rfl ⟨ms,k,rfl,by lia,by lia,dpT _,sT ?_ ⟨g1L,q⟩⟩ rfl⟩ rfl;show(!_L.eqT (TV.tup ((ns.eraseIdx k).map TV.int)) (TV.tup ((ms.eraseIdx k).map TV.int)))=true;rw[fh];simp[c]
 ·refine cl rfl ⟨ns,k,rfl,by lia,hk,cl rfl ⟨ms,k,rfl,by lia,by lia,dpT _,sF ?_ ⟨_,dB hk,_,dB (ns:=ms) (by lia),cl rfl ⟨ns,k,_,rfl,by lia,hk,_,⟨_,rfl,_,rfl,b,rfl⟩,λ n h=>h ▸ q⟩ rfl⟩⟩ rfl⟩ rfl;show(!_L.eqT (TV.tup ((ns.eraseIdx k).map TV.int)) (TV.tup ((ms.eraseIdx k).map TV.int)))=false;rw[fh];simp[c]
theorem Ll:ZX 21 40 ["sides","others","side"] 3 3 xX Jm:=by
 refine⟨by kernel_rfl,?_⟩;rintro ts Q ⟨ns,ms,side,rfl,hn,hm,l,ll,no,c,nb,q⟩;refine⟨rfl,?_⟩;refine⟨trivial,sF (neF (by rw[ag,ag,ll])) (cl rfl ⟨ns,side,rfl,no,?_⟩ rfl)⟩;obtain⟨k,rfl,hk⟩:=kO no;simp only[Int.toNat_natCast] at c;have n1:=hn _ (getD_mem hk);have n2:=hm _ (getD_mem (ns:=ms) (k:=k) (by lia));refine cl rfl ⟨ns,k,rfl,by lia,hk,cl rfl ⟨ms,k,rfl,by lia,by lia,dpT _,sF ?_ ?_⟩ rfl⟩ rfl
 ·show(!_L.eqT (TV.tup ((ns.eraseIdx k).map TV.int)) (TV.tup ((ms.eraseIdx k).map TV.int)))=false;rw[fh,c];simp
 ·refine⟨_,dB hk,_,dB (ns:=ms) (by lia),cl rfl ⟨ns,k,_,rfl,by lia,hk,cl rfl ⟨_,rfl,λ n hn'=>?_,by rw[fJ];lia,nb,rfl,q⟩ rfl⟩ rfl⟩
  rcases kS hn' with z | z
  ·exact Hq hn n z
  ·lia
theorem Lm:ZR true 22 41 ["sides","others"] 2 2 xA KC:=by
 refine⟨by kernel_rfl,?_⟩;rintro ts E ⟨ns,ms,rfl,c,q⟩;refine⟨rfl,?_⟩;have e1:af (ms.map TV.int) none (some (((ns.map TV.int).length:Nat):Int))=(ms.take ns.length).map TV.int:=by rw[ag,cU]
 exact⟨by show _L.dp 9 (TV.tup (af (ms.map TV.int) none (some (((ns.map TV.int).length:Nat):Int))));rw[e1];exact dpT _,sT (by show(!_L.eqT (TV.tup (af (ms.map TV.int) none (some (((ns.map TV.int).length:Nat):Int)))) (TV.tup (ns.map TV.int)))=true;rw[e1,fh];simp[c]) ⟨g1L,q⟩⟩
theorem Ln:ZX 22 41 ["sides","others"] 2 2 xY Jn:=by
 refine⟨by kernel_rfl,?_⟩;rintro ts Q ⟨ns,ms,rfl,c,q⟩;refine⟨rfl,?_⟩;have e1:af (ms.map TV.int) none (some (((ns.map TV.int).length:Nat):Int))=ns.map TV.int:=by rw[ag,cU,c]
 exact⟨by show _L.dp 9 (TV.tup (af (ms.map TV.int) none (some (((ns.map TV.int).length:Nat):Int))));rw[e1];exact dpT ns,sF (by show(!_L.eqT (TV.tup (af (ms.map TV.int) none (some (((ns.map TV.int).length:Nat):Int)))) (TV.tup (ns.map TV.int)))=false;rw[e1,fh];simp) ⟨rfl,q⟩⟩
theorem Lo:ZR true 23 42 ["sides","others"] 2 2 sh KD:=by
 refine⟨by kernel_rfl,?_⟩;rintro ts E ⟨ns,ms,rfl,c,q⟩;refine⟨rfl,?_⟩;unfold aH at c;refine s3 (λ h=>?_) (λ h=>?_)
 ·have h:((ms.map TV.int).length:Int) < ((ns.map TV.int).length:Nat):=h;rw[ag,ag] at h;exact⟨_,⟨_,rfl,ms,ns,rfl,λ z=>c (by rw[if_pos (by lia)];exact z),rfl⟩,λ n h=>h ▸ q⟩
 ·have h:¬((ms.map TV.int).length:Int) < ((ns.map TV.int).length:Nat):=h;rw[ag,ag] at h;exact⟨_,⟨_,rfl,ns,ms,rfl,λ z=>c (by rw[if_neg (by lia)];exact z),rfl⟩,λ n h=>h ▸ q⟩
theorem Lp:ZX 23 42 ["sides","others"] 2 2 xZ Jo:=by
 refine⟨by kernel_rfl,?_⟩;rintro ts Q ⟨ns,ms,rfl,c,q⟩;refine⟨rfl,?_⟩;unfold aH at c;unfold bC at q;refine s2 (λ h=>?_) (λ h=>?_)
 ·have h:(((ms.map TV.int).length:Nat):Int) < ((ns.map TV.int).length:Nat):=ar h;rw[ag,ag] at h;rw[if_pos (by lia)] at c q;exact cl rfl ⟨ms,ns,rfl,c,rfl,q⟩ rfl
 ·have h:¬(((ms.map TV.int).length:Nat):Int) < ((ns.map TV.int).length:Nat):=iL h;rw[ag,ag] at h;rw[if_neg (by lia)] at c q;exact cl rfl ⟨ns,ms,rfl,c,rfl,q⟩ rfl
theorem Lq:ZR true 24 43 ["marks","sides","others"] 3 3 si KE:=by
 refine⟨by kernel_rfl,?_⟩;rintro ts E ⟨ns,ms,ks,rfl,h,q⟩;refine⟨rfl,?_⟩
 rcases h with h | ⟨h,h'⟩
 ·exact .inr ⟨_,⟨_,rfl,ns,ms,rfl,h,rfl⟩,λ n h=>h ▸ q⟩
 ·exact .inl (cl rfl ⟨ns,ms,rfl,h,_,⟨_,rfl,bC ns ms,ks,rfl,h',rfl⟩,λ n h=>h ▸ q⟩ rfl)
theorem Lr:ZX 24 43 ["marks","sides","others"] 3 3 yf Jp:=by
 refine⟨by kernel_rfl,?_⟩;rintro ts Q ⟨ns,ms,ks,rfl,c1,c2,q⟩;refine⟨rfl,?_⟩;exact cl rfl ⟨ns,ms,rfl,c1,cl rfl ⟨_,ks,rfl,c2,rfl,q⟩ rfl⟩ rfl
theorem Lu:ZR true 25 44 ["sides","others"] 2 2 sj KF:=by
 refine⟨by kernel_rfl,?_⟩;rintro ts E ⟨ns,ms,rfl,h⟩;refine⟨rfl,?_⟩
 rcases h with ⟨rfl,q⟩ | ⟨r,rfl,q⟩ | ⟨n,r,rfl,n0,l1,l2,b,q⟩
 ·exact⟨trivial,g1L,q⟩
 ·exact⟨trivial,.int 0,fH (j:=0) rfl,trivial,g1L,q⟩
 ·have e1:af ((n::r).map TV.int) (some 1) none=r.map TV.int:=dC (n::r) 1;have lc:(af ((n::r).map TV.int) (some 1) none).length≤20:=by rw[e1,ag];lia
  refine⟨trivial,.int n,fH (j:=0) rfl,trivial,sN (λ h=>absurd h n0) (λ _=>⟨aA (show(ms.map TV.int).length+(af ((n::r).map TV.int) (some 1) none).length≤1000 by rw[ag];lia),_,⟨_,rfl,ms++r,?_,b,rfl⟩,λ n h=>h ▸ q⟩)⟩;show[TV.tup (ms.map TV.int++af ((n::r).map TV.int) (some 1) none)]=[tI (ms++r)];rw[e1,← cq];rfl
theorem Lv:ZX 25 44 ["sides","others"] 2 2 yg Jq:=by
 refine⟨by kernel_rfl,?_⟩;rintro ts Q ⟨n,r,ms,rfl,sd,sm',l1,l2,n0,nb,q⟩;refine⟨rfl,?_⟩;have e1:af ((n::r).map TV.int) (some 1) none=r.map TV.int:=dC (n::r) 1;have lc:(af ((n::r).map TV.int) (some 1) none).length≤20:=by rw[e1,ag];lia
 refine⟨trivial,.int n,fH (j:=0) rfl,trivial,sN (λ h=>absurd h n0) (λ _=>⟨aA (show(ms.map TV.int).length+(af ((n::r).map TV.int) (some 1) none).length≤1000 by rw[ag];lia),cl rfl ⟨ms++r,?_,λ x hx=>?_,by rw[aC];lia,nb,rfl,q⟩ rfl⟩)⟩
 ·show[TV.tup (ms.map TV.int++af ((n::r).map TV.int) (some 1) none)]=[tI (ms++r)];rw[e1,← cq];rfl
 ·rcases aM.mp hx with h | h
  ·exact sm' x h
  ·exact sd x (bU _ h)
theorem Lw:ZR true 26 45 ["sides","side"] 2 2 sr KG:=by
 refine⟨by kernel_rfl,?_⟩;rintro ts E ⟨ns,side,rfl,no,q⟩;refine⟨rfl,?_⟩;exact .inl ⟨_,⟨_,rfl,ns,side,rfl,no,rfl⟩,λ n h=>h ▸ q⟩
theorem Lx:ZX 26 45 ["sides","side"] 2 2 yh Jr:=by
 refine⟨by kernel_rfl,?_⟩;rintro ts Q ⟨ns,side,rfl,l,no,q⟩;refine⟨rfl,?_⟩;refine cl rfl ⟨ns,side,rfl,no,?_⟩ rfl;obtain⟨k,rfl,hk⟩:=kO no;simp only[Int.toNat_natCast] at q;exact cl rfl ⟨ns,k,rfl,l,hk,rfl,q⟩ rfl
theorem Ly:ZR true 27 46 ["sides","side"] 2 2 xB KH:=by
 refine⟨by kernel_rfl,?_⟩;rintro ts E ⟨ns,side,rfl,sd,l,h⟩;refine⟨rfl,?_⟩
 rcases h with ⟨b,q⟩ | ⟨nb,no,q⟩
 ·exact .inl ⟨_,⟨_,rfl,ns,rfl,rJ sd b,rfl⟩,λ n h=>h ▸ q⟩
 ·exact .inr (cl rfl ⟨ns,rfl,sd,by lia,nb,.inl ⟨_,⟨_,rfl,ns,side,rfl,no,rfl⟩,λ n h=>h ▸ q⟩⟩ rfl)
theorem Lz:ZX 27 46 ["sides","side"] 2 2 yi Js:=by
 refine⟨by kernel_rfl,?_⟩;rintro ts Q ⟨ns,side,rfl,sd,l,nb,no,q⟩;refine⟨rfl,?_⟩;exact cl rfl ⟨ns,rfl,sd,by lia,nb,cl rfl ⟨ns,side,rfl,no,rfl,q⟩ rfl⟩ rfl
theorem LB:ZR true 28 48 ["step"] 1 1 sv KJ:=by
 refine⟨by kernel_rfl,?_⟩;rintro ts E ⟨d,rfl,hw,ok,q⟩;refine⟨rfl,?_⟩
 cases d with
 | each w a=>exact⟨_,rfl,trivial,.inl ⟨_,rfl,_,⟨_,rfl,w,0,rfl,ok,hw,rfl⟩,λ n h=>h ▸ q⟩⟩
 | pair w a b=>exact⟨_,rfl,trivial,_,rfl,trivial,.inl ⟨_,rfl,_,⟨_,rfl,w,0,0,rfl,ok,hw,rfl⟩,λ n h=>h ▸ q⟩⟩
 | fold w a s=>exact⟨_,rfl,trivial,_,rfl,trivial,_,rfl,rfl,g2L,rfl,fl2,.inl ⟨_,rfl,_,⟨_,rfl,w,rfl,ok,hw,rfl⟩,λ n h=>h ▸ q⟩⟩
 | run w a s=>exact⟨_,rfl,trivial,_,rfl,trivial,_,rfl,rfl,g2L,rfl,fl2,.inl ⟨_,rfl,_,⟨_,rfl,w,rfl,ok,hw,rfl⟩,λ n h=>h ▸ q⟩⟩
 | _=>exact absurd trivial hw
theorem LC:ZX 28 48 ["step"] 1 1 yj Ju:=by
 refine⟨by kernel_rfl,?_⟩;rintro ts Q ⟨d,rfl,hw,q⟩;refine⟨rfl,?_⟩
 cases d with
 | each w a=>exact⟨_,rfl,trivial,_,rfl,cl rfl ⟨w,0,rfl,hw,_,rfl,trivial,_,rfl,rfl,g2L,rfl,fl2,q⟩ rfl⟩
 | pair w a b=>exact⟨_,rfl,trivial,_,rfl,trivial,_,rfl,cl rfl ⟨w,0,0,rfl,⟨by decide,by decide⟩,⟨by decide,by decide⟩,hw,_,rfl,rfl,g2L,rfl,fl2,q⟩ rfl⟩
 | fold w a s=>exact⟨_,rfl,trivial,_,rfl,trivial,_,rfl,rfl,g2L,rfl,fl2,_,rfl,cl rfl ⟨w,rfl,hw,q⟩ rfl⟩
 | run w a s=>exact⟨_,rfl,trivial,_,rfl,trivial,_,rfl,rfl,g2L,rfl,fl2,_,rfl,cl rfl ⟨w,rfl,hw,q⟩ rfl⟩
 | _=>exact⟨_,rfl,trivial,_,rfl,trivial,_,rfl,rfl,g2L,rfl,fl2,q⟩
theorem LD:ZR true 29 49 ["step"] 1 1 nz KL:=by
 refine⟨by kernel_rfl,?_⟩;rintro ts E ⟨d,rfl,h⟩;refine⟨rfl,?_⟩
 rcases h with ⟨ms,rfl,h,q⟩ | ⟨ms,k,rfl,sd,l,h⟩
 ·exact⟨_,rfl,trivial,_,rfl,_,⟨_,rfl,ms,rfl,h,rfl⟩,λ n h=>h ▸ q⟩
 ·exact⟨_,rfl,trivial,_,rfl,trivial,_,rfl,_,rfl,_,⟨_,rfl,ms,k,rfl,sd,l,h⟩,λ n h=>h⟩
theorem LG:ZX 29 49 ["step"] 1 1 yk Jv:=by
 refine⟨by kernel_rfl,?_⟩;rintro ts Q ⟨d,S,Ss,rfl,k3,ok,fs,q⟩;refine⟨rfl,?_⟩;have sd:=db fs;have s6:=fs.2.1
 cases d with
 | inp ms=>obtain⟨rfl,nb⟩:=ok;exact⟨_,rfl,trivial,_,rfl,cl rfl ⟨S,rfl,sd,by lia,nb,rfl,q⟩ rfl⟩
 | count ms k=>obtain⟨rfl,nb,no⟩:=ok;exact⟨_,rfl,trivial,_,rfl,trivial,_,rfl,_,rfl,cl rfl ⟨S,k,rfl,sd,by lia,nb,no,rfl,q⟩ rfl⟩
 | num n=>obtain⟨rfl,_⟩:=ok;exact⟨_,rfl,trivial,_,rfl,trivial,rfl,g0L,rfl,q⟩
 | _=>exact absurd k3 (iL rfl)
theorem LJ:ZR true 30 50 ["step","sides","form"] 3 2 fY KM:=by
 refine⟨by kernel_rfl,?_⟩;rintro ts E ⟨d,A,rfl,h⟩;refine⟨rfl,?_⟩
 cases d with
 | turn a os=>exact⟨_,rfl,rfl,trivial,_,rfl,_,⟨_,rfl,h⟩,λ n h=>h⟩
 | flip a s=>exact⟨_,rfl,rfl,trivial,trivial,_,rfl,_,⟨_,rfl,h⟩,λ n h=>h⟩
 | cut a s f m g=>exact⟨_,rfl,rfl,trivial,trivial,trivial,_,rfl,_,rfl,_,rfl,_,rfl,_,⟨_,rfl,h⟩,λ n h=>h⟩
 | spread a s m=>exact⟨_,rfl,rfl,trivial,trivial,trivial,trivial,_,rfl,_,rfl,_,⟨_,rfl,h⟩,λ n h=>h⟩
 | lay a ms=>exact⟨_,rfl,rfl,trivial,trivial,trivial,trivial,trivial,_,rfl,_,⟨_,rfl,h⟩,λ n h=>h⟩
 | fold w a s=>exact⟨_,rfl,rfl,trivial,trivial,trivial,trivial,trivial,trivial,_,rfl,_,⟨_,rfl,h⟩,λ n h=>h⟩
 | run w a s=>exact⟨_,rfl,rfl,trivial,trivial,trivial,trivial,trivial,trivial,trivial,_,rfl,_,⟨_,rfl,h⟩,λ n h=>h⟩
 | _=>exact h.elim
theorem LK:ZX 30 50 ["step","sides","form"] 3 2 yl Jw:=by
 refine⟨by kernel_rfl,?_⟩;rintro ts Q ⟨d,S,A,Ss,a,rfl,ha,ea,fA,ok,fs,q⟩;refine⟨rfl,?_⟩;have sd:=db fs;have sdA:=db fA;have s6:=fs.2.1;have a6:=fA.2.1
 cases d with
 | each w a =>
  cases ha;cases ok.1.symm.trans ea;exact⟨_,rfl,rfl,trivial,trivial,trivial,trivial,trivial,trivial,trivial,rfl,q⟩
 | turn a os =>
  cases ha;obtain⟨A',ea',tk,rfl⟩:=ok;cases ea'.symm.trans ea;exact⟨_,rfl,rfl,trivial,_,rfl,cl rfl ⟨A,os,rfl,by lia,by rw[tk.length_eq,da];lia,tk,rfl,q⟩ rfl⟩
 | flip a s =>
  cases ha;obtain⟨ea',no⟩:=ok;cases ea'.symm.trans ea;exact⟨_,rfl,rfl,trivial,trivial,_,rfl,cl rfl ⟨S,s,rfl,no,rfl,q⟩ rfl⟩
 | cut a s f m g =>
  cases ha;obtain⟨A',ea',no,nb,m5,rfl⟩:=ok;cases ea'.symm.trans ea;exact⟨_,rfl,rfl,trivial,trivial,trivial,_,rfl,_,rfl,_,rfl,_,rfl,cl rfl ⟨A,s,f,m,g,rfl,by lia,by unfold bad at nb;lia,by lia,no,nb,rfl,q⟩ rfl⟩
 | spread a s m =>
  cases ha;obtain⟨A',ea',no,nm,m5,nb,rfl⟩:=ok;cases ea'.symm.trans ea;exact⟨_,rfl,rfl,trivial,trivial,trivial,trivial,_,rfl,_,rfl,cl rfl ⟨A,s,m,rfl,sdA,by lia,by lia,no,nm,nb,rfl,q⟩ rfl⟩
 | lay a ms =>
  cases ha;obtain⟨A',ea',nb,e,rfl⟩:=ok;cases ea'.symm.trans ea;exact⟨_,rfl,rfl,trivial,trivial,trivial,trivial,trivial,_,rfl,cl rfl ⟨A,S,rfl,sdA,sd,by lia,nb,e,rfl,q⟩ rfl⟩
 | fold w a s =>
  cases ha;obtain⟨A',ea',hw,no,rfl⟩:=ok;cases ea'.symm.trans ea;exact⟨_,rfl,rfl,trivial,trivial,trivial,trivial,trivial,trivial,_,rfl,cl rfl ⟨A,s,rfl,by lia,no,rfl,q⟩ rfl⟩
 | run w a s =>
  cases ha;obtain⟨ea',hw,no⟩:=ok;cases ea'.symm.trans ea;exact⟨_,rfl,rfl,trivial,trivial,trivial,trivial,trivial,trivial,trivial,_,rfl,cl rfl ⟨S,s,rfl,no,rfl,q⟩ rfl⟩
 | _=>cases ha
theorem LM:ZR true 31 51 ["step","sides","used","form"] 4 2 sw KN:=by
 refine⟨by kernel_rfl,?_⟩;rintro ts E ⟨t,d,Ss,rfl,ht,h⟩;refine⟨rfl,?_⟩
 rcases h with h | ⟨hw,h⟩
 ·exact .inl ⟨_,⟨_,rfl,h⟩,λ n h=>h⟩
 refine .inr (cl rfl ⟨d,rfl,hw,?_⟩ rfl)
 rcases ht with rfl | rfl
 all_goals
  cases d with
  | pair w a b =>
   obtain⟨A,B,ea,eb,h⟩:=h;exact cl rfl (.inl ⟨(Stp.pair w a b),rfl,sl3 (aN rfl),tI A,aB ea,rfl,tI B,aB eb,rfl,rfl,_,rfl,rfl,trivial,trivial,trivial,_,rfl,_,rfl,_,⟨_,rfl,h⟩,λ n h=>h⟩) rfl
  | join a b s =>
   obtain⟨A,B,ea,eb,h⟩:=h;exact cl rfl (.inl ⟨(Stp.join a b s),rfl,sl3 (aN rfl),tI A,aB ea,rfl,tI B,aB eb,rfl,rfl,_,rfl,rfl,trivial,trivial,trivial,trivial,_,rfl,_,rfl,_,rfl,_,⟨_,rfl,h⟩,λ n h=>h⟩) rfl
  | fetch a b =>
   obtain⟨A,B,ea,eb,h⟩:=h;exact cl rfl (.inl ⟨(Stp.fetch a b),rfl,sl3 (aN rfl),tI A,aB ea,rfl,tI B,aB eb,rfl,rfl,_,rfl,rfl,trivial,trivial,trivial,trivial,trivial,_,rfl,_,rfl,_,⟨_,rfl,h⟩,λ n h=>h⟩) rfl
  | pick a b c =>
   obtain⟨A,B,C,ea,eb,ec,h⟩:=h;exact cl rfl (.inl ⟨(Stp.pick a b c),rfl,sl3 (aN rfl),tI A,aB ea,rfl,tI B,aB eb,rfl,tI C,aB ec,rfl,rfl,_,rfl,rfl,trivial,trivial,trivial,trivial,trivial,_,rfl,_,rfl,_,rfl,_,⟨_,rfl,h⟩,λ n h=>h⟩) rfl
  | num _=>exact h.elim
  | each _ _=>exact h.elim
  | inp ms=>exact cl rfl (.inl ⟨_,rfl,sl3 (aN rfl),rfl,_,rfl,rfl,trivial,_,⟨_,rfl,h⟩,λ n h=>h⟩) rfl
  | count ms k=>exact cl rfl (.inl ⟨_,rfl,sl3 (aN rfl),rfl,_,rfl,rfl,trivial,_,⟨_,rfl,h⟩,λ n h=>h⟩) rfl
  | _ =>
   obtain⟨A,ea,h⟩:=h;exact cl rfl (.inl ⟨_,rfl,sl3 (aN rfl),tI A,aB ea,rfl,rfl,_,rfl,rfl,trivial,trivial,_,rfl,_,⟨_,rfl,h⟩,λ n h=>h⟩) rfl
theorem LN:ZX 31 51 ["step","sides","used","form"] 4 2 ym Jx:=by
 refine⟨by kernel_rfl,?_⟩;rintro ts Q ⟨t,d,S,Ss,rfl,ht,fS,ok,fs,q⟩;refine⟨rfl,?_⟩
 rcases ht with rfl | rfl
 all_goals
  cases d with
  | pair w a b =>
   obtain⟨A,B,ea,eb,hw,po,rfl⟩:=ok;exact cl rfl ⟨(Stp.pair w a b),rfl,hw,cl rfl (.inl ⟨(Stp.pair w a b),rfl,sl3 (aN rfl),tI A,aB ea,rfl,tI B,aB eb,rfl,rfl,_,rfl,rfl,trivial,trivial,trivial,_,rfl,_,rfl,cl rfl ⟨A,B,rfl,po,rfl,q⟩ rfl⟩) rfl⟩ rfl
  | join a b s =>
   obtain⟨A,B,ea,eb,ll,no,ee,nb,rfl⟩:=ok;have fA:=fS _ (br ea);have fB:=fS _ (br eb);have a6:=fA.2.1;exact cl rfl ⟨(Stp.join a b s),rfl,trivial,cl rfl (.inl ⟨(Stp.join a b s),rfl,sl3 (aN rfl),tI A,aB ea,rfl,tI B,aB eb,rfl,rfl,_,rfl,rfl,trivial,trivial,trivial,trivial,_,rfl,_,rfl,_,rfl,cl rfl ⟨A,B,s,rfl,xi fA,xi fB,by lia,ll,no,ee,nb,rfl,q⟩ rfl⟩) rfl⟩ rfl
  | fetch a b =>
   obtain⟨n,r,B,ea,n0,eb,nb,rfl⟩:=ok;have fA:=fS _ (br ea);have fB:=fS _ (br eb);have a6:=fA.2.1;have b6:=fB.2.1;rw[List.length_cons] at a6;exact cl rfl ⟨(Stp.fetch a b),rfl,trivial,cl rfl (.inl ⟨(Stp.fetch a b),rfl,sl3 (aN rfl),tI (n::r),aB ea,rfl,tI B,aB eb,rfl,rfl,_,rfl,rfl,trivial,trivial,trivial,trivial,trivial,_,rfl,_,rfl,cl rfl ⟨n,r,B,rfl,db fA,db fB,by lia,by lia,n0,nb,rfl,q⟩ rfl⟩) rfl⟩ rfl
  | pick a b c =>
   obtain⟨A,B,C,ea,eb,ec,p1,p2,rfl⟩:=ok;exact cl rfl ⟨(Stp.pick a b c),rfl,trivial,cl rfl (.inl ⟨(Stp.pick a b c),rfl,sl3 (aN rfl),tI A,aB ea,rfl,tI B,aB eb,rfl,tI C,aB ec,rfl,rfl,_,rfl,rfl,trivial,trivial,trivial,trivial,trivial,_,rfl,_,rfl,_,rfl,cl rfl ⟨A,B,C,rfl,p1,p2,rfl,q⟩ rfl⟩) rfl⟩ rfl
  | _=>first | exact cl rfl ⟨_,rfl,rB ok,cl rfl (.inl ⟨_,rfl,sl3 (aN rfl),rfl,_,rfl,rfl,trivial,cl rfl ⟨_,S,Ss,rfl,aN rfl,ok,fs,rfl,q⟩ rfl⟩) rfl⟩ rfl | exact cl rfl ⟨_,rfl,rB ok,cl rfl (.inl ⟨_,rfl,sl3 (aN rfl),tI S,aB ok.1,rfl,rfl,_,rfl,rfl,trivial,trivial,_,rfl,cl rfl ⟨_,S,S,Ss,_,rfl,rfl,ok.1,fS _ (br ok.1),ok,fs,rfl,q⟩ rfl⟩) rfl⟩ rfl | (obtain⟨A,ea,_⟩:=id ok;exact cl rfl ⟨_,rfl,rB ok,cl rfl (.inl ⟨_,rfl,sl3 (aN rfl),tI A,aB ea,rfl,rfl,_,rfl,rfl,trivial,trivial,_,rfl,cl rfl ⟨_,S,A,Ss,_,rfl,rfl,ea,fS _ (br ea),ok,fs,rfl,q⟩ rfl⟩) rfl⟩ rfl)
theorem LP:ZT 32 52 ["step","sides","k"] 3 2 3 yn Jy Jz JA JB JC:=by
 refine⟨by kernel_rfl,?_⟩;intro ts Q ⟨u,Ss,e,h⟩;subst e;have ll:((Ss.map tI).length:Int)=Ss.length:=by rw[aj]
 refine⟨rfl,rfl,?_⟩
 rcases h with ⟨d,S,rfl,fS,l40,ok,fs,q⟩ | ⟨w,⟨l40,rfl⟩ | ⟨l40,⟨i,xs,g,rfl,i15,h0,hp,p,hpm,hb⟩,rfl⟩ | ⟨l40,d,k,rfl,⟨al,zx⟩,hk⟩,q⟩
 ·have al:=Ig ok;have a3:=xh d;refine sF (aJ (show ¬(40:Int)≤((Ss.map tI).length:Nat) by rw[aj];lia)) (cl rfl (.inl ⟨d,rfl,by rw[aj,aj];exact sl3 a3,mZ (l:=fW d) (f:=λ a:Nat=>.int (a:Int)) (by rw[bE];rfl) (λ _=>.bl false) (λ a ha=>?_) ⟨(fW d).map λ _=>false,by rw[bE];rfl,sF (by simp) (.inl (cl rfl ⟨_,d,S,Ss,rfl,.inr rfl,fS,ok,fs,rfl,g2L,rfl,q⟩ rfl))⟩⟩) rfl);refine⟨rfl,?_⟩;have:=al a ha;show TV.bl (decide (((Ss.map tI).length:Nat)≤(a:Int)))=TV.bl false;rw[aj,aJ (by lia)]
 ·exact sT (bw (show(40:Int)≤((Ss.map tI).length:Nat) by rw[aj];lia)) ⟨rfl,g2L,rfl,q⟩
 ·refine sF (aJ (show ¬(40:Int)≤((Ss.map tI).length:Nat) by rw[aj];lia)) (cl rfl (.inr ⟨i,xs,g,rfl,i15,h0,hp,by rw[aj,aj];exact sl3 (xq i i15),mZ (l:=fT i) (f:=λ p=>.int (g p)) (by rw[bE];rfl) (λ p=>.bl (decide (g p < 0\/(Ss.length:Int)≤g p))) (λ p hp'=>?_) ⟨(fT i).map λ p=>decide (g p < 0\/(Ss.length:Int)≤g p),by rw[bE];rfl,sT ?_ ⟨rfl,g2L,rfl,q⟩⟩⟩) rfl)
  ·refine s3 (λ c=>⟨rfl,by rw[bw (.inl c)];rfl⟩) (λ c=>⟨rfl,?_⟩);show TV.bl (decide (((Ss.map tI).length:Nat)≤g p))=_;rw[aj];exact bF TV.bl (rD.mpr (by lia))
  ·rw[s1g,List.any_eq_true];exact⟨p,hpm,bw hb⟩
 ·have a3:=xh d;refine sF (aJ (show ¬(40:Int)≤((Ss.map tI).length:Nat) by rw[aj];lia)) (cl rfl (.inl ⟨d,rfl,by rw[aj,aj];exact sl3 a3,mZ (l:=fW d) (f:=λ a:Nat=>.int (a:Int)) (by rw[bE];rfl) (λ _=>.bl false) (λ a ha=>?_) ⟨(fW d).map λ _=>false,by rw[bE];rfl,sF (by simp) (.inr ⟨_,⟨_,rfl,zx⟩,λ n hn=>⟨k,hn,?_⟩⟩)⟩⟩) rfl)
  ·refine⟨rfl,?_⟩;have:=al a ha;show TV.bl (decide (((Ss.map tI).length:Nat)≤(a:Int)))=TV.bl false;rw[aj,aJ (by lia)]
  ·match k,hk with
   | 0,hk=>cases hk;exact⟨⟨by decide,by decide⟩,q⟩
   | 1,hk=>cases hk;exact⟨⟨by decide,by decide⟩,⟨by decide,by decide⟩,q⟩
   | 2,hk=>cases hk;exact⟨⟨by decide,by decide⟩,⟨by decide,by decide⟩,⟨by decide,by decide⟩,q⟩
   | 3,hk=>cases hk;exact⟨⟨by decide,by decide⟩,⟨by decide,by decide⟩,⟨by decide,by decide⟩,⟨by decide,by decide⟩,q⟩
   | 4,hk=>cases hk;exact⟨⟨by decide,by decide⟩,⟨by decide,by decide⟩,⟨by decide,by decide⟩,⟨by decide,by decide⟩,⟨by decide,by decide⟩,q⟩
   | k+5,hk=>cases hk
theorem LQ:ZX 33 53 ["program","steps","outs","sides","step","told"] 6 1 yp JD:=by
 refine⟨by kernel_rfl,?_⟩;rintro ts Q ⟨us,os,k,w,Ss,rfl,pg,q⟩;refine⟨rfl,?_⟩;obtain⟨fS,lS,k40,lo,⟨ds,ld,ed,ok⟩,h⟩:=pg;have lm:(Ss.map tI).length=k:=by rw[aj,lS]
 refine⟨_,rfl,rfl,_,rfl,rfl,rfl,cy _,rfl,rfl,?_⟩;refine dA (λ i ρ=>i≤k/\∃y z,ρ=[some (.tup [.tup us,tI os]),some (.tup us),some (tI os),some (.own ((Ss.take i).map tI)),y,z]) ⟨cy _,_,_,rfl⟩ (λ i u ρ hu h1=>?_) (λ ρ h1=>?_)
 ·obtain⟨ik,y,z,e⟩:=h1;subst e;by_cases c:i < k
  ·have e1:(us.take k)[i]?=some u:=by rw[kI,if_pos c];exact hu
   rw[ed] at e1;obtain⟨d,rfl,e2⟩:=Il e1;have eS:=bP (show i < Ss.length by lia);generalize Ss[i]=S at eS;exact clB rfl ⟨stT d,Ss.take i,rfl,.inl ⟨d,S,rfl,λ T hT=>fS T (nC hT),by rw[aU];lia,ok i d S e2 eS,fS S (br eS),LF2 S,rfl,_,rfl,rfl,_,rfl,rfl,by rw[aj,aU];exact aQ (by lia),c,_,_,by rw[List.take_add_one,eS,cq];rfl⟩⟩
  ·have ik':i=k:=by lia
   subst ik';rw[eE (by lia)]
   rcases h with ⟨u',eu,fl⟩ | ⟨lu,_,_⟩
   ·cases hu.symm.trans eu;exact clB rfl ⟨.tup u',Ss,rfl,.inr ⟨w,fl,LFn w,rfl,_,rfl,rfl,_,rfl,rfl,g2L,rfl,g2L,rfl,by rw[lm];exact q⟩⟩
   ·have:=(bD.mp hu).1;lia
 ·obtain⟨ik,y,z,e⟩:=h1;subst e
  rcases h with ⟨u',eu,_⟩ | ⟨lu,rfl,ho⟩
  ·have:=(bD.mp eu).1;lia
  rw[eE (by lia)];have q':Q (.tup [.tup (Ss.map tI),.tup [.int (us.length:Nat),.str "out"]]):=by rw[lu];exact q
  by_cases z0:os.length=0
  ·cases mh z0;exact⟨rfl,g2L,rfl,g2L,rfl,q'⟩
  refine sT (bw (show(1:Int)≤((os.map TV.int).length:Nat) by rw[ag];lia)) ?_;by_cases z8:8 < os.length
  ·exact sT (by rw[aJ (show ¬(((os.map TV.int).length:Nat):Int)≤8 by rw[ag];lia)];rfl) ⟨rfl,g2L,rfl,g2L,rfl,q'⟩
  refine sF (by rw[bw (show(((os.map TV.int).length:Nat):Int)≤8 by rw[ag];lia)];rfl) ⟨by rw[ag];exact aQ (by lia),eO .int (λ o=>.bl (decide (o < 0\/(us.length:Int)≤o))) os (λ o ho'=>?_) ⟨os.map λ o=>decide (o < 0\/(us.length:Int)≤o),by rw[bE];rfl,sT ?_ ⟨rfl,g2L,rfl,g2L,rfl,q'⟩⟩⟩
  ·refine s3 (λ c=>⟨rfl,by rw[bw (.inl c)];rfl⟩) (λ c=>⟨rfl,?_⟩);exact bF TV.bl (rD.mpr (by lia))
  ·rw[s1g,List.any_eq_true]
   rcases ho with z | z | ⟨o,om,z⟩
   ·lia
   ·lia
   ·exact⟨o,om,bw (by rw[lu];exact z)⟩
theorem LR:ZX 34 54 ["program"] 1 1 yq JE:=by
 refine⟨by kernel_rfl,?_⟩;rintro ts Q ⟨us,os,k,w,Ss,rfl,pg,q⟩;refine⟨rfl,?_⟩;exact cl rfl ⟨us,os,k,w,Ss,rfl,pg,_,rfl,rfl,q⟩ rfl
theorem LS:ZR false 35 55 ["program","told","fault"] 3 1 xK KO:=by
 refine⟨by kernel_rfl,?_⟩;rintro ts E ⟨us,os,k,w,Ss,rfl,pg,q⟩;refine⟨rfl,?_⟩;exact cl rfl ⟨us,os,k,w,Ss,rfl,pg,rfl,_,rfl,rfl,rfl,_,rfl,_,rfl,_,_,_,rfl,q⟩ rfl
theorem LU:ZX 35 55 ["program","told","fault"] 3 1 yr JF:=by
 refine⟨by kernel_rfl,?_⟩;exact λ _ _ h=>h.elim
theorem LW:ZX 36 57 ["found"] 1 1 yt JG:=by
 refine⟨by kernel_rfl,?_⟩;rintro ts Q ⟨n,rfl,q⟩;refine⟨rfl,?_⟩;exact⟨rfl,q⟩
theorem LX:ZX 37 58 ["script","k"] 2 2 yu JH:=by
 refine⟨by kernel_rfl,?_⟩;rintro ts Q ⟨ns,k,rfl,q⟩;refine⟨rfl,?_⟩;refine s2 (λ h=>?_) (λ h=>⟨rfl,?_⟩)
 ·have h:(k:Int) < ((ns.map TV.int).length:Nat):=ar h;rw[ag] at h;exact⟨_,dB (by lia),rfl,q⟩
 ·have h:¬(k:Int) < ((ns.map TV.int).length:Nat):=iL h;rw[ag] at h;rw[show fQ ns k=0 by unfold fQ;rw[dP,jC (by lia)];rfl] at q;exact q
theorem LY:ZX 38 59 ["sides","size","length"] 3 1 yv JI:=by
 refine⟨by kernel_rfl,?_⟩;rintro ts Q ⟨t,ns,rfl,ht,sd,q⟩;refine⟨rfl,?_⟩
 rcases ht with rfl | rfl
 ·refine⟨rfl,rfl,dA (λ i ρ=>∃y,ρ=[some (tI ns),some (.int (ah (ns.take i))),y]) ⟨_,rfl⟩ (λ i u ρ hu ⟨y,e⟩=>?_) (λ ρ ⟨y,e⟩=>?_)⟩
  ·subst e;obtain⟨n,rfl,hn⟩:=kU hu;have b:=sd n (br hn);exact⟨iH (by lia) (by lia),rfl,some (.int n),by rw[mP hn];rfl⟩
  ·subst e;rw[ag,fc];exact⟨rfl,q⟩
 ·refine⟨rfl,rfl,dA (λ i ρ=>∃y,ρ=[some (lI ns),some (.int (ah (ns.take i))),y]) ⟨_,rfl⟩ (λ i u ρ hu ⟨y,e⟩=>?_) (λ ρ ⟨y,e⟩=>?_)⟩
  ·subst e;obtain⟨n,rfl,hn⟩:=kU hu;have b:=sd n (br hn);exact⟨iH (by lia) (by lia),rfl,some (.int n),by rw[mP hn];rfl⟩
  ·subst e;rw[ag,fc];exact⟨rfl,q⟩
theorem LZ:ZX 39 60 ["sides"] 1 1 yw JJ:=by
 refine⟨by kernel_rfl,?_⟩;rintro ts Q ⟨ns,rfl,sd,l,q⟩;refine⟨rfl,?_⟩;refine⟨by rw[ag];exact aQ (by lia),eO .int (λ n=>.int (ai n)) ns (λ n hn=>⟨rfl,?_⟩) (cl rfl ⟨_,ns.map ai,rfl,.inr (by unfold lI;rw[bE];rfl),mQ sd,rfl,q⟩ rfl)⟩;rw[← re (sd n hn).1];rfl
theorem Ma:ZX 40 61 ["n"] 1 1 yz JK:=by
 refine⟨by kernel_rfl,?_⟩;rintro ts Q ⟨n,rfl,q⟩;refine⟨rfl,?_⟩;have m17:aq n 17=n % 17:=if_pos (by decide);unfold kP at q;refine⟨by decide,trivial,sN (λ h=>?_) (λ h=>?_)⟩
 ·rw[m17] at h;rw[if_pos h] at q;have e:aq (ax n 17) 4=n / 17 % 4:=by rw[show ax n 17=n / 17 from if_pos (by decide)];exact if_pos (by decide)
  exact⟨p63,p63,p62,rfl,g4L,⟨by decide,by decide,by decide⟩,by decide,.int _,(by rw[e];exact Im (by lia) (by lia)),rfl,q⟩
 ·rw[m17] at h;rw[if_neg h] at q;exact⟨p63,p64,by decide,p63,rfl,q⟩
theorem Mb:ZX 41 62 ["pool","d"] 2 2 yA JL:=by
 refine⟨by kernel_rfl,?_⟩;rintro ts Q ⟨ks,d,rfl,l,l2,q⟩;refine⟨rfl,?_⟩;have in1:∀i:Int,0≤i->i < ks.length->Q (.int (ks.getD i.toNat 0)):=λ i h0 h1=>q _ (getD_mem (by lia));have d3:ax d 3=d / 3:=if_pos (by decide);refine⟨by decide,trivial,sN (λ h=>?_) (λ h=>?_)⟩
 ·have m1:aq (ax d 3) (((ks.map TV.int).length:Nat):Int)=d / 3 % (ks.length:Int):=by rw[ag,d3];exact if_pos (by lia)
  have a0:=cM (d / 3) (show(ks.length:Int)≠0 by lia);have a1:=cV (d / 3) (show(0:Int) < ks.length by lia);exact⟨⟨by decide,by decide,by decide⟩,by rw[ag];lia,.int (ks.getD (d / 3 % (ks.length:Int)).toNat 0),by rw[m1];exact ng a0 a1,rfl,in1 _ a0 a1⟩
 ·have m1:aq (ax d 3) (if (((ks.map TV.int).length:Nat):Int) < 3 then (((ks.map TV.int).length:Nat):Int) else 3)=d / 3 % (if (ks.length:Int) < 3 then (ks.length:Int) else 3):=by rw[ag,d3];exact if_pos (by split<;>lia)
  have a0:=cM (d / 3) (show(if (ks.length:Int) < 3 then (ks.length:Int) else 3)≠0 by split<;>lia);have a1:=cV (d / 3) (show(0:Int) < (if (ks.length:Int) < 3 then (ks.length:Int) else 3) by split<;>lia);have a2:(if (ks.length:Int) < 3 then (ks.length:Int) else 3)≤ks.length:=by split<;>lia
  exact⟨⟨by decide,by decide,by decide⟩,by rw[ag];split<;>lia,.int (ks.getD ((ks.length:Int) - 1 - d / 3 % (if (ks.length:Int) < 3 then (ks.length:Int) else 3)).toNat 0),by rw[m1,ag];exact ng (by lia) (by lia),rfl,in1 _ (by lia) (by lia)⟩
theorem Mc:ZX 42 63 ["kind","n","cell","most","made","part","k","free","length"] 9 4 yB JM:=by
 refine⟨by kernel_rfl,?_⟩;rintro ts Q ⟨kd,n,cell,mo,rfl,hmo,q⟩;refine⟨rfl,?_⟩;have m2:=hmo.1;have m3:=hmo.2;refine⟨trivial,sN (λ c=>cl rfl ⟨cell,rfl,rfl,g2L,rfl,g0L,rfl,g2L,rfl,q (.num (kP cell)) [] (λ _=>⟨rfl,Ht cell⟩) (mU hmo)⟩ rfl) (λ c=>?_)⟩;have b5:0≤aq (ax n 15) 5/\aq (ax n 15) 5 < 5:=by rw[aV (by decide)];lia
 refine⟨rfl,g0L,rfl,⟨by decide,by decide,by decide⟩,rfl,by decide,rfl,⟨by lia,by lia⟩,?_⟩;refine dA (λ i ρ=>∃(ms:LIq) (pt:Int) (y6 y7 y8:Option TV),aF mo ms/\ms.length=i/\ρ=[some (.int kd),some (.int n),some (.int cell),some (.int mo),some (tI ms),some (.int pt),y6,y7,y8]) ⟨[],_,_,_,_,mU hmo,rfl,rfl⟩ (λ i t ρ ht h=>?_) (λ ρ h=>?_)
 ·obtain⟨ms,pt,y6,y7,y8,hf,ml,rfl⟩:=h;obtain⟨il,rfl⟩:=iJ ht;have sdm:bn ms:=λ n hn=>by have:=hf.1 n hn;exact⟨by lia,by lia⟩
  have pb:=hf.2.2;have d1:1≤mo / ah (ms.map ai):=rg pb.1 pb.2;have dv:ax mo (ah (ms.map ai))=mo / ah (ms.map ai):=xn (by lia);have fs:=λ n=>rj (n:=n) hf (by lia);obtain⟨x,hx,x0⟩:=Ip (aq (ax pt 5) 7) (by rw[aV (by decide)];lia) (by rw[aV (by decide)];lia);refine⟨⟨by decide,by decide,by decide⟩,rfl,cl rfl ⟨ms,rfl,sdm,by lia,⟨by lia,by lia,by lia⟩,rfl,rfl,g7L,by decide,.int x,hx,rfl,?_⟩ rfl⟩;rw[dv];generalize mo / ah (ms.map ai)=fr at *
  have fin:∀x:Int,0≤x->x≤fr->(ms.map TV.int).length + [TV.int x].length≤sizeLine/\(TV.tup (ms.map TV.int++[TV.int x])).nb=true/\∃(ms':LIq) (pt':Int) (y6 y7 y8:Option TV),aF mo ms'/\ms'.length=i+1/\[some (TV.int kd),some (.int n),some (.int cell),some (.int mo),some (TV.tup (ms.map TV.int++[TV.int x])),some (.int (ax pt 5)),some (.int (i:Nat)),some (.int fr),some (.int x)]=[some (.int kd),some (.int n),some (.int cell),some (.int mo),some (tI ms'),some (.int pt'),y6,y7,y8]:=λ x x0 x1 =>
   ⟨aA (show(ms.map TV.int).length+1≤1000 by rw[ag];lia),rfl,ms++[x],_,_,_,_,fs x x0 x1,by rw[aC,ml];rfl,by unfold tI;rw[cq];rfl⟩
  exact⟨by decide,trivial,sN (λ _=>⟨rfl,rfl,g1L,fin fr (by lia) (jh _)⟩) (λ _=>⟨rfl,g1L,fin _ (by split<;>lia) (by split<;>lia)⟩)⟩
 ·obtain⟨ms,pt,y6,y7,y8,hf,ml,rfl⟩:=h;refine⟨trivial,sN (λ _=>⟨rfl,g2L,rfl,g2L,rfl,q (.inp ms) ms (λ _=>⟨rfl,kR (fU hf hmo)⟩) hf⟩) (λ _=>⟨rfl,g0L,dpT ms,?_⟩)⟩
  have fin:∀ns:LIq,aF mo ns->0 < ns.length->((15:Int)≠0/\-18446744073709551616 < (15:Int)/\(15:Int) < 1606938044258990275541962092341162602522202993782792835301376)/\(((ns.map TV.int).length:Nat):Int)≠0/\[TV.str "count",tI ns,TV.int (aq (ax n 15) ((ns.map TV.int).length:Nat))].all TV.nb=true/\3≤sizeLine/\[TV.tup [TV.str "count",tI ns,TV.int (aq (ax n 15) ((ns.map TV.int).length:Nat))],tI ns].all TV.nb=true/\2≤sizeLine/\true=true/\Q (.tup [TV.tup [TV.str "count",tI ns,TV.int (aq (ax n 15) ((ns.map TV.int).length:Nat))],tI ns]):=λ ns hf l0=>by
   refine⟨⟨by decide,by decide,by decide⟩,by rw[ag];lia,rfl,g3L,rfl,g2L,rfl,?_⟩;rw[ag,aV (by lia)];have f0:=cM (ax n 15) (show(ns.length:Int)≠0 by lia);have f1:=cV (ax n 15) (show(0:Int) < ns.length by lia);exact q (.count ns (ax n 15 % ns.length)) ns (λ _=>⟨rfl,kR (fU hf hmo),λ z=>by unfold off at z;lia⟩) hf
  by_cases c0:ms=[]
  ·have x0:0≤(if mo < 3 then mo else 3)/\(if mo < 3 then mo else 3)≤mo:=by split<;>lia
   exact sT ((iK ms).trans (bw c0)) ⟨rfl,g1L,rfl,fin [if mo < 3 then mo else 3] (rj (ns:=[]) (mU hmo) (by decide) x0.1 (by show _≤mo / 1;rw[Int.ediv_one];exact x0.2)) (cP _)⟩
  ·exact sF ((iK ms).trans (aJ c0)) (fin ms hf (nF.mpr c0))
theorem Me:ZX 43 64 ["one","other","least"] 3 2 yC JN:=by
 refine⟨by kernel_rfl,?_⟩;rintro ts Q ⟨ns,ms,rfl,q⟩;refine⟨rfl,?_⟩;have hm:(if (((ms.map TV.int).length:Nat):Int) < (((ns.map TV.int).length:Nat):Int) then (((ms.map TV.int).length:Nat):Int) else (((ns.map TV.int).length:Nat):Int))=((if ms.length < ns.length then ms.length else ns.length:Nat):Int):=by rw[ag,ag];split<;>split<;>lia
 refine⟨rfl,?_⟩;rw[hm];generalize hL:(if ms.length < ns.length then ms.length else ns.length)=L;have e1:=cU ns L;have e2:=cU ms L;refine⟨by show _L.dp 9 (TV.tup (af (ns.map TV.int) none (some (L:Int))));rw[e1];exact dpT _,rfl,?_⟩;show Q (.bl (_L.eqT (TV.tup (af (ns.map TV.int) none (some (L:Int)))) (TV.tup (af (ms.map TV.int) none (some (L:Int))))));rw[e1,e2,fh];refine q _ ?_;rw[du];unfold aH;subst hL;by_cases c:ms.length < ns.length
 ·rw[if_pos c,if_pos c,fc]
 ·rw[if_neg c,if_neg c,fc];exact eq_comm
theorem Mf:ZX 44 65 ["kind","d","sides","every","a","fit","b","longer","words","c"] 10 3 yD JO:=by
 refine⟨by kernel_rfl,?_⟩;rintro ts Q ⟨kd,d0,d1,d2,mo,Ss,rfl,n0,n4,hS,q⟩;refine⟨rfl,?_⟩;refine⟨⟨by lia,by rw[aj];lia⟩,rfl,?_⟩;rw[aj,kX];refine⟨_,rfl,clB rfl ⟨upL Ss.length,d0,rfl,by rw[da];exact n0,by rw[da];lia,λ k hk=>?_⟩⟩;obtain⟨a,rfl,al⟩:=eK hk;have eA:=bR al;generalize Ss.getD a []=A at eA;have fA:=hS _ (br eA);obtain⟨w4,hw4,wm4⟩:=rG gJ (k:=aq d2 4) (by rw[aV (by decide)];lia) (by rw[aV (by decide)];show d2 % 4 < ((4:Nat):Int);lia);refine⟨by simp[LF],rfl,trivial,sN (λ _=>⟨rfl,g4L,_,rfl,by decide,.str w4,hw4,rfl,g3L,tI A,aB eA,rfl,g2L,rfl,q (.each w4 a) A ⟨eA,wm4⟩ fA⟩) (λ _=>?_)⟩;refine⟨by rw[ag,da];exact aQ (by lia),fj TV.int TV.int (pB Ss A) (upL Ss.length) rfl (λ k hk=>?_) ?_⟩
 ·obtain⟨j,rfl,jl⟩:=eK hk;exact⟨tI A,aB eA,tI (Ss.getD j []),aB (bR jl),cl rfl ⟨A,Ss.getD j [],rfl,λ b hb=>⟨by rw[rH hb (nk (k:=(j:Int)))],λ _=>⟨rfl,rfl⟩⟩⟩ rfl⟩
 generalize hks:(upL Ss.length).filter (pB Ss A)=ks;have km:∀k,k∈ks ↔ k∈upL Ss.length/\aH A (Ss.getD k.toNat []):=λ k=>by rw[← hks,eP,nk]
 have kl:ks.length≤40:=by rw[← hks];exact bK (gO _ _) (by rw[da];exact n4)
 have kpos:0 < ks.length:=sD ((km a).mpr ⟨wZ al,by rw[Int.toNat_natCast,dP,eA];exact mW A⟩);refine⟨rfl,_,rfl,clB rfl ⟨ks,d1,rfl,kpos,by lia,λ k hk=>?_⟩⟩;obtain⟨ku,pB'⟩:=(km k).mp hk;obtain⟨b,rfl,bl⟩:=eK ku;have eB:=bR bl;rw[Int.toNat_natCast] at pB';generalize Ss.getD b []=B at eB pB';have fB:=hS _ (br eB);have fL:aF mo (bC A B):=wY fA fB;obtain⟨w,hw,wm⟩:=rG fR (k:=aq d2 12) (by rw[aV (by decide)];lia) (by rw[aV (by decide)];show d2 % 12 < ((12:Nat):Int);lia);refine⟨by simp[LF],rfl,tI A,aB eA,tI B,aB eB,rfl,?_⟩;rw[mxT pB'];refine⟨trivial,sN (λ _=>⟨rfl,Io,rfl,_,rfl,by decide,.str w,hw,rfl,g4L,rfl,g2L,rfl,q (.pair w a b) (bC A B) ⟨A,B,eA,eB,wm,pB',rfl⟩ fL⟩) (λ _=>?_)⟩;refine⟨by rw[ag];exact aQ (by lia),fj TV.int TV.int (pB Ss B) ks rfl (λ k hk=>?_) ?_⟩
 ·obtain⟨j,rfl,jl⟩:=eK ((km k).mp hk).1;exact⟨tI B,aB eB,tI (Ss.getD j []),aB (bR jl),cl rfl ⟨B,Ss.getD j [],rfl,λ b hb=>⟨by rw[rH hb (nk (k:=(j:Int)))],λ _=>⟨rfl,rfl⟩⟩⟩ rfl⟩
 generalize hls:ks.filter (pB Ss B)=ls;have lm:∀k,k∈ls ↔ k∈ks/\aH B (Ss.getD k.toNat []):=λ k=>by rw[← hls,eP,nk]
 have ll:ls.length≤40:=by rw[← hls];exact bK (gO _ _) kl
 have lpos:0 < ls.length:=sD ((lm b).mpr ⟨hk,by rw[Int.toNat_natCast,dP,eB];exact mW B⟩);refine⟨rfl,_,rfl,clB rfl ⟨ls,d2,rfl,lpos,by lia,λ k hk2=>?_⟩⟩;obtain⟨kk,pC⟩:=(lm k).mp hk2;obtain⟨ku2,pAC⟩:=(km k).mp kk;obtain⟨c,rfl,cl'⟩:=eK ku2;have eC:=bR cl';rw[Int.toNat_natCast] at pC pAC;generalize Ss.getD c []=C at eC pC pAC;have fC:=hS _ (br eC)
 have pLC:aH (bC A B) C:=by
  by_cases z:A.length < B.length
  ·rw[rq z];exact pC
  ·rw[rn pB' (by lia)];exact pAC
 have z:Q (.tup [stT (.pick a b c),TV.tup (if ((bC A B).map TV.int).length < (C.map TV.int).length then C.map TV.int else (bC A B).map TV.int)]):=by rw[mxT pLC];exact q (.pick a b c) (bC (bC A B) C) ⟨A,B,C,eA,eB,eC,pB',pLC,rfl⟩ (wY fL fC)
 exact⟨by simp[LF],rfl,rfl,g4L,tI C,aB eC,rfl,g2L,rfl,z⟩
theorem Mg:ZX 45 66 ["own","d","size"] 3 2 yE JP:=by
 refine⟨by kernel_rfl,?_⟩;rintro ts Q ⟨ns,d,mo,rfl,ft,mk,q⟩;refine⟨rfl,?_⟩;have fA:=fU ft mk;have sd:=db fA;have l6:=fA.2.1;have m4:aq d 4=d % 4:=if_pos (by decide);unfold iG at q;refine cl rfl ⟨_,ns,rfl,.inl rfl,sd,rfl,by decide,trivial,sN (λ h=>?_) (λ h=>⟨by decide,trivial,?_⟩)⟩ rfl
 ·rw[m4] at h;rw[if_pos h] at q;exact⟨rfl,g1L,rfl,q⟩
 rw[m4] at h;rw[if_neg h] at q;have v2:ax (ah ns) 2=ah ns / 2:=if_pos (by decide);have w2:aq (ah ns) 2=ah ns % 2:=if_pos (by decide);have rv:Q (tI ns.reverse)->Q (TV.tup (ns.map TV.int).reverse):=λ q=>by rw[← List.map_reverse];exact q
 refine sN (λ h2=>?_) (λ h2=>?_)
 ·rw[m4] at h2;refine s2 (λ h3=>?_) (λ h3=>?_)
  ·have h3:(((ns.map TV.int).length:Nat):Int) < 6:=ar h3;rw[ag] at h3;rw[if_pos ⟨h2,by lia⟩] at q;exact⟨rfl,g1L,aA (show 1+(ns.map TV.int).length≤1000 by rw[ag];lia),rfl,q⟩
  ·have h3:¬(((ns.map TV.int).length:Nat):Int) < 6:=iL h3;rw[ag] at h3;rw[if_neg (by lia),if_neg (by lia)] at q;exact⟨by decide,trivial,sN (λ h4=>by rw[m4] at h4;lia) (λ h4=>⟨rfl,rv q⟩)⟩
 ·rw[m4] at h2;rw[if_neg (λ z=>h2 z.1)] at q;refine⟨by decide,trivial,sN (λ h4=>⟨by decide,trivial,sN (λ h5=>?_) (λ h5=>⟨rfl,rv ?_⟩)⟩) (λ h4=>⟨rfl,rv ?_⟩)⟩
  ·rw[m4] at h4;rw[w2] at h5;rw[if_pos ⟨h4,h5⟩,← v2] at q;exact⟨⟨by decide,by decide,by decide⟩,rfl,g2L,rfl,q⟩
  ·rw[w2] at h5
   rwa [if_neg (λ z=>h5 z.2)] at q
  ·rw[m4] at h4
   rwa [if_neg (λ z=>h4 z.1)] at q
theorem Mh:ZX 46 67 ["kind","d","a","own","most","order","part","k","place","length","side","gap","first","many"] 14 5 yF JQ:=by
 refine⟨by kernel_rfl,?_⟩;rintro ts Q ⟨kd,d0,d1,d2,mo,a,A,Ss,rfl,ea,hf,hmo,q⟩;refine⟨rfl,?_⟩;have a6:=hf.2.1;have sd:=HK hf hmo;have m1:=hmo.1;have m2:=hmo.2;have pb:=hf.2.2;refine⟨trivial,sN (λ _=>?_) (λ _=>?_)⟩
 ·refine⟨rfl,g0L,rfl,_,rfl,rfl,rfl,⟨by lia,by rw[ag];lia⟩,?_⟩;refine dA (λ i ρ=>∃(os:LIq) (n:Int) (y:Option TV),os.Perm (upL i)/\ρ=[some (.int kd),some (lI [d0,d1,d2]),some (.int a),some (tI A),some (.int mo),some (.own (os.map .int)),some (.int n),y,none,none,none,none,none,none]) ⟨[],_,_,List.Perm.refl _,rfl⟩ (λ i t ρ ht h=>?_) (λ ρ h=>?_)
  ·obtain⟨os,n,y,pm,rfl⟩:=h;obtain⟨il,rfl⟩:=iJ ht;rw[ag] at il;have ol:os.length=i:=by rw[pm.length_eq,da]
   have mp:aq n ((i:Int)+1)=n % ((i:Int)+1):=aV (by lia);have f0:=cM n (show(i:Int)+1≠0 by lia);have f1:=cV n (show(0:Int) < (i:Int)+1 by lia);refine⟨show(i:Int)+1≠0 by lia,rfl,⟨by rw[mp];exact f0,by rw[mp,ag,ol];lia⟩,by rw[ag];exact aQ (by lia),⟨show(i:Int)+1≠0 by lia,show -18446744073709551616 < (i:Int)+1 by lia,show(i:Int)+1 < _ by lia⟩,rfl,os.take (aq n ((i:Int)+1)).toNat++(i:Int)::os.drop (aq n ((i:Int)+1)).toNat,ax n ((i:Int)+1),some (.int (i:Nat)),HN pm,by rw[cq,bc,kW,List.map_drop];rfl⟩
  ·obtain⟨os,n,y,pm,rfl⟩:=h;rw[aj,df,ag,Int.toNat_natCast] at pm;have ol:os.length=A.length:=by rw[pm.length_eq,da]
   have om:∀z∈os,0≤z/\z < (A.length:Int):=λ z hz=>up_mem.mp (pm.subset hz);refine⟨rfl,g3L,by rw[ag];exact aQ (by lia),eO .int (λ z:Int=>.int (A.getD z.toNat 0)) os (λ z hz=>⟨_,ng (om z hz).1 (om z hz).2,rfl,rfl⟩) ⟨rfl,g2L,rfl,?_⟩⟩;have z:=q (.turn a os) (iF A os) ⟨A,ea,pm,rfl⟩ (HP hf pm);unfold mdT stT stI tI iF at z;rw[bE] at z;exact z
 have lo:=HL (d:=d2) hf hmo;refine⟨trivial,sN (λ _=>⟨_,rfl,cl rfl ⟨A,d2,mo,rfl,hf,hmo,rfl,g3L,_,rfl,cl rfl ⟨A,d2,mo,rfl,hf,hmo,rfl,g2L,rfl,q (.lay a (iG A d2)) (iG A d2) ⟨A,ea,kR (fU lo.1 hmo),lo.2.symm,rfl⟩ lo.1⟩ rfl⟩ rfl⟩) (λ _=>?_)⟩;refine⟨rfl,g0L,dpT A,or3 (λ sp=>?_) (λ ne=>?_)⟩
 ·have l6:A.length < 6:=by
   rcases sp with z | ⟨_,z⟩
   ·have z:=ar ((iK A).symm.trans z);rw[z];decide
   ·have z:(((A.map TV.int).length:Nat):Int) < 6:=ar z;rw[ag] at z;lia
  have mp:aq d1 ((((A.map TV.int).length:Nat):Int)+1)=d1 % ((A.length:Int)+1):=by rw[ag];exact aV (by lia)
  have f0:=cM d1 (show(A.length:Int)+1≠0 by lia);have f1:=cV d1 (show(0:Int) < (A.length:Int)+1 by lia);obtain⟨k,hk⟩:∃k:Nat,d1 % ((A.length:Int)+1)=k:=⟨_,(eI f0).symm⟩;rw[hk] at f1 mp;refine⟨_,rfl,show(((A.map TV.int).length:Nat):Int)+1≠0 by rw[ag];lia,rfl,?_⟩;rw[mp];have dv:=rg pb.1 pb.2;have de:ax mo (ah (A.map ai))=mo / ah (A.map ai):=xn (by lia);refine⟨_,rfl,cl rfl ⟨A,rfl,sd,by lia,⟨by lia,by lia,by lia⟩,?_⟩ rfl⟩;rw[de];have fi:=λ x=>HR (x:=x) (k:=k) hf l6;have fm:mo / ah (A.map ai)≤mo:=Int.ediv_le_self _ (by lia);generalize mo / ah (A.map ai)=fr at *;have c4:0 < (if fr < 4 then fr else 4)/\(if fr < 4 then fr else 4)≤fr:=by split<;>lia
  have me:aq d2 (if fr < 4 then fr else 4)=d2 % (if fr < 4 then fr else 4):=aV c4.1;have g0:=cM d2 (show(if fr < 4 then fr else 4)≠0 by lia);have g1:=cV d2 c4.1
  have fin:∀x:Int,0≤x->x≤fr->Q (.tup [.tup [.str "spread",.int a,.int k,.int x],.tup ((af (A.map TV.int) none (some (k:Int))++[TV.int x])++af (A.map TV.int) (some (k:Int)) none)]):=λ x x0 x1=>by
   rw[Ir];exact q (.spread a k x) (bY A k x) ⟨A,ea,by unfold bZ;lia,by lia,by lia,kR (fU (fi x x0 x1) hmo),rfl⟩ (fi x x0 x1)
  have la:=dU (a:=none) (b:=some (k:Int)) a6;have lb:=dU (a:=some (k:Int)) (b:=none) a6;have l2:∀x,(af (A.map TV.int) none (some (k:Int))++[TV.int x]).length+(af (A.map TV.int) (some (k:Int)) none).length≤sizeLine:=λ x=>aA (by rw[aC,cK];lia);have l1:(af (A.map TV.int) none (some (k:Int))).length+1≤sizeLine:=aA (by lia);exact⟨show(if fr < 4 then fr else 4)≠0 by lia,rfl,_,rfl,by decide,trivial,sN (λ _=>⟨rfl,rfl,g4L,rfl,g1L,l1,l2 _,rfl,g2L,rfl,fin 0 (by lia) (by lia)⟩) (λ _=>⟨rfl,g4L,rfl,g1L,l1,l2 _,rfl,g2L,rfl,fin _ (by rw[me];lia) (by rw[me];lia)⟩)⟩
 ·have A0:0 < A.length:=nF.mpr (iL ((iK A).symm.trans ne));have mp:aq d1 (((A.map TV.int).length:Nat):Int)=d1 % (A.length:Int):=by rw[ag];exact aV (by lia)
  have f0:=cM d1 (show(A.length:Int)≠0 by lia);have f1:=cV d1 (show(0:Int) < (A.length:Int) by lia);obtain⟨k,hk⟩:∃k:Nat,d1 % (A.length:Int)=k:=⟨_,(eI f0).symm⟩;rw[hk] at f1 mp;refine⟨_,rfl,show(((A.map TV.int).length:Nat):Int)≠0 by rw[ag];lia,rfl,?_⟩;rw[mp];have kl:k < A.length:=by lia
  refine⟨trivial,s2 (λ _=>⟨rfl,g3L,rfl,g2L,rfl,q (.flip a k) A ⟨ea,by unfold off;lia⟩ hf⟩) (λ _=>?_)⟩;have an:=(hf.1 _ (rc kl)).1;have am:=(hf.1 _ (rc kl)).2;have o1:=gK an;have ge:aq d2 3=d2 % 3:=aV (by decide);have fe:aq (ax d2 3) (if A.getD k 0 > 1 then A.getD k 0 else 1)=ax d2 3 % ai (A.getD k 0):=by rw[re an];exact aV (by lia)
  have h0:=cM (ax d2 3) (show ai (A.getD k 0)≠0 by lia);have g1:1≤1+aq d2 3/\1+aq d2 3≤3:=by rw[ge];lia
  refine⟨_,rfl,by decide,rfl,_,rfl,⟨by decide,by decide,by decide⟩,_,dB kl,show(if A.getD k 0 > 1 then A.getD k 0 else 1)≠0 by rw[re an];lia,rfl,?_⟩;rw[fe];generalize ax d2 3 % ai (A.getD k 0)=f at *;generalize 1+aq d2 3=g at *;have e3:0≤aq (ax d2 300) 3:=by rw[aV (by decide)];lia
  have cm:=HY (e:=aq (ax d2 300) 3) an h0 g1.1 e3;rw[← xk] at cm;have la:=dU (a:=none) (b:=some (k:Int)) a6;have lb:=dU (a:=some ((k:Int)+1)) (b:=none) a6;have l2:∀x,(af (A.map TV.int) none (some (k:Int))++[TV.int x]).length+(af (A.map TV.int) (some ((k:Int)+1)) none).length≤sizeLine:=λ x=>aA (by rw[aC,cK];lia);refine⟨_,dB kl,⟨by lia,by lia,by lia⟩,_,rfl,⟨by decide,by decide,by decide⟩,by decide,rfl,?_⟩;generalize (if ax (A.getD k 0 - 1 - f) g+1 - aq (ax d2 300) 3 > 0 then ax (A.getD k 0 - 1 - f) g+1 - aq (ax d2 300) 3 else 0)=m at *;refine⟨rfl,g6L,rfl,g1L,aA (by show(af (A.map TV.int) none (some (k:Int))).length+1≤1000;lia),l2 m,rfl,g2L,rfl,?_⟩;show Q (.tup [.tup [.str "cut",.int a,.int k,.int f,.int m,.int g],.tup ((af (A.map TV.int) none (some (k:Int))++[TV.int m])++af (A.map TV.int) (some ((k:Int)+1)) none)]);rw[Iu kl];exact q (.cut a k f m g) (A.set k m) ⟨A,ea,by unfold off;lia,by unfold bad;rw[Int.toNat_natCast];exact λ z=>z.elim (by lia) λ z=>z.elim (by lia) λ z=>z.elim (by lia) cm.2.2,by lia,by rw[Int.toNat_natCast]⟩ (HW hf cm.1 cm.2.1)
theorem Mi:ZX 47 68 ["own","other","side"] 3 3 yG JR:=by
 refine⟨by kernel_rfl,?_⟩;rintro ts Q ⟨A,B,k,rfl,kl,a6,b6,q⟩;refine⟨rfl,?_⟩
 have ct:∀L:LIq,L.length≤6->af (L.map TV.int) none (some (k:Int))++af (L.map TV.int) (some ((k:Int)+1)) none=(L.eraseIdx k).map TV.int/\(af (L.map TV.int) none (some (k:Int))).length≤6/\(af (L.map TV.int) (some ((k:Int)+1)) none).length≤6:=λ L hL=>by
  have e1:=cU L k;have e2:af (L.map TV.int) (some ((k:Int)+1)) none=(L.drop (k+1)).map TV.int:=by rw[show(k:Int)+1=((k+1:Nat):Int) by lia];exact dC L (k+1)
  refine⟨by rw[e1,e2,jy,cq],by rw[e1,ag,aU];lia,by rw[e2,ag,cg];lia⟩
 obtain⟨ea,la,lb⟩:=ct A a6;obtain⟨eb,lc,ld⟩:=ct B b6;unfold dc at q;have nl:∀a b:Nat,a≤6->b≤6->a+b≤sizeLine:=λ a b h1 h2=>aA (by lia);have dpA:_L.dp 9 (TV.tup (af (A.map TV.int) none (some (k:Int))++af (A.map TV.int) (some ((k:Int)+1)) none)):=by rw[ea];exact dpT _
 have eq1:_L.eqT (TV.tup (af (A.map TV.int) none (some (k:Int))++af (A.map TV.int) (some ((k:Int)+1)) none)) (TV.tup (af (B.map TV.int) none (some (k:Int))++af (B.map TV.int) (some ((k:Int)+1)) none))=decide (A.eraseIdx k=B.eraseIdx k):=by rw[ea,eb,fh]
 by_cases c1:A.length=B.length
 ·by_cases c2:A.eraseIdx k=B.eraseIdx k
  ·rw[if_pos ⟨c1,c2⟩] at q;have e1:=cU A k;have e2:af (A.map TV.int) (some ((k:Int)+1)) none=(A.drop (k+1)).map TV.int:=by rw[show(k:Int)+1=((k+1:Nat):Int) by lia];exact dC A (k+1)
   have e3:(af (A.map TV.int) none (some (k:Int))++[TV.int (A.getD k 0+B.getD k 0)])++af (A.map TV.int) (some ((k:Int)+1)) none=(cS A B k).map TV.int:=by unfold cS;rw[Int.toNat_natCast,e1,e2,rh,if_pos kl];simp
   unfold tI at q;rw[← e3] at q;exact⟨trivial,sF (neF (by rw[ag,ag,c1])) ⟨nl _ _ la lb,nl _ _ lc ld,dpA,sF (by show(!_L.eqT (TV.tup _) (TV.tup _))=false;rw[eq1,bw c2];rfl) ⟨_,dB kl,_,dB (by lia),rfl,g1L,nl _ 1 la (by decide),aA (show(af (A.map TV.int) none (some (k:Int))++[TV.int (A.getD k 0+B.getD k 0)]).length+(af (A.map TV.int) (some ((k:Int)+1)) none).length≤1000 by rw[aC,cK];lia),rfl,q⟩⟩⟩
  ·rw[if_neg (λ z=>c2 z.2)] at q;exact⟨trivial,sF (neF (by rw[ag,ag,c1])) ⟨nl _ _ la lb,nl _ _ lc ld,dpA,sT (by show(!_L.eqT (TV.tup _) (TV.tup _))=true;rw[eq1,aJ c2];rfl) ⟨rfl,g0L,rfl,q⟩⟩⟩
 ·rw[if_neg (λ z=>c1 z.1)] at q;exact⟨trivial,sT (neT (by rw[ag,ag];lia)) ⟨rfl,g0L,rfl,q⟩⟩
theorem Mj:ZX 48 69 ["kind","d","sides","most","sided","a","own","side","words","made","fit","b"] 12 4 yH JT:=by
 refine⟨by kernel_rfl,?_⟩;rintro ts Q ⟨kd,d0,d1,d2,mo,Ss,rfl,⟨S0,S0m,S0l⟩,k11,k14,n4,hS,hmo,q⟩;refine⟨rfl,?_⟩;obtain⟨j0,j0l,j0e⟩:=List.mem_iff_getElem.mp S0m;refine⟨⟨by lia,by rw[aj];lia⟩,by rw[aj,df,aj];exact aQ (by lia),fj TV.int TV.int (λ k:Int=>!decide (Ss.getD k.toNat []=[])) (upL Ss.length) (by rw[aj];exact kX _) (λ k hk=>?_) ?_⟩
 ·obtain⟨j,rfl,jl⟩:=eK hk;exact⟨tI (Ss.getD j []),aB (bR jl),rfl,g0L,dpT _,by rw[Int.toNat_natCast,← iK];rfl,λ _=>⟨rfl,rfl⟩⟩
 generalize hks:(upL Ss.length).filter (λ k:Int=>!decide (Ss.getD k.toNat []=[]))=ks;have km:∀k,k∈ks ↔ k∈upL Ss.length/\Ss.getD k.toNat []≠[]:=λ k=>by rw[← hks,eP];simp
 have kl:ks.length≤40:=by rw[← hks];exact bK (gO _ _) (by rw[da];exact n4)
 have kpos:0 < ks.length:=sD ((km j0).mpr ⟨wZ j0l,by rw[Int.toNat_natCast,dP,bP j0l,j0e];exact nF.mp S0l⟩);refine⟨rfl,_,rfl,clB rfl ⟨ks,d0,rfl,kpos,by lia,λ k hk=>?_⟩⟩;obtain⟨ku,An⟩:=(km k).mp hk;obtain⟨a,rfl,al⟩:=eK ku;have eA:=bR al;rw[Int.toNat_natCast] at An;generalize Ss.getD a []=A at eA An;have A0:=nF.mpr An;have fA:=hS _ (br eA);have a6:=fA.2.1;have mp:aq d1 (((A.map TV.int).length:Nat):Int)=d1 % (A.length:Int):=by rw[ag];exact aV (by lia)
 have f0:=cM d1 (show(A.length:Int)≠0 by lia);have f1:=cV d1 (show(0:Int) < (A.length:Int) by lia);obtain⟨k,hk⟩:∃k:Nat,d1 % (A.length:Int)=k:=⟨_,(eI f0).symm⟩;rw[hk] at f1 mp;have kl:k < A.length:=by lia
 refine⟨by simp[LF],rfl,tI A,aB eA,rfl,_,rfl,show(((A.map TV.int).length:Nat):Int)≠0 by rw[ag];lia,rfl,?_⟩;rw[mp];obtain⟨w,hw,wm⟩:=rG fw (k:=aq d2 7) (by rw[aV (by decide)];lia) (by rw[aV (by decide)];show d2 % 7 < ((7:Nat):Int);lia);have la:=dU (a:=none) (b:=some (k:Int)) a6;have lb:=dU (a:=some ((k:Int)+1)) (b:=none) a6;have er:af (A.map TV.int) none (some (k:Int))++af (A.map TV.int) (some ((k:Int)+1)) none=(A.eraseIdx k).map TV.int:=by rw[show(k:Int)+1=((k+1:Nat):Int) by lia,cU,dC,jy,cq]
 have qf:Q (.tup [.tup [.str "fold",.str w,.int a,.int k],.tup (af (A.map TV.int) none (some (k:Int))++af (A.map TV.int) (some ((k:Int)+1)) none)]):=by
  rw[er];exact q (.fold w a k) (A.eraseIdx k) ⟨A,eA,wm,by unfold off;lia,by rw[Int.toNat_natCast]⟩ (HX fA)
 refine⟨rfl,g7L,rfl,trivial,sN (λ _=>⟨_,rfl,by decide,.str w,hw,rfl,g4L,aA (by show(af (A.map TV.int) none (some (k:Int))).length+(af (A.map TV.int) (some ((k:Int)+1)) none).length≤1000;lia),rfl,g2L,rfl,qf⟩) (λ n13=>?_)⟩;refine⟨trivial,sN (λ _=>⟨_,rfl,by decide,.str w,hw,rfl,g4L,rfl,g2L,rfl,q (.run w a k) A ⟨eA,wm,by unfold off;lia⟩ fA⟩) (λ n14=>?_)⟩;refine⟨rfl,g0L,rfl,g1L,rfl,?_⟩;refine fX (λ ρ=>∃Ms:LL,Md kd A k Ss Ms/\ρ=[some (.int kd),some (lI [d0,d1,d2]),some (.lst (Ss.map tI)),some (.int mo),some (.own (ks.map .int)),some (.int a),some (tI A),some (.int k),some (.own (fw.map .str)),some (.own (Ms.map tI)),none,none]) ?_ (λ ρ' ⟨Ms,hM,e⟩=>?_)
 ·refine⟨trivial,sN (λ c11=>⟨by rw[aj];exact aQ (by lia),eO tI (λ B=>tI (dc A B k)) Ss (λ B hB=>cl rfl ⟨A,B,k,rfl,kl,a6,(hS B hB).2.1,rfl,rfl⟩ rfl) ⟨rfl,Ss.map (λ B=>dc A B k),.inl ⟨c11,rfl⟩,by rw[bE];rfl⟩⟩) (λ c11=>⟨_,xp A0,s3 (λ cA=>⟨by rw[aj];exact aQ (by lia),eO tI (λ B=>tI (B++A.drop 1)) Ss (λ B hB=>?_) ⟨rfl,Ss.map (λ B=>B++A.drop 1),.inr (.inl ⟨by lia,cA,rfl⟩),by rw[bE];rfl⟩⟩) (λ cA=>⟨[[]],.inr (.inr ⟨c11,cA,rfl⟩),rfl⟩)⟩)⟩;have e1:af (A.map TV.int) (some 1) none=(A.drop 1).map TV.int:=dC A 1;have b6:=(hS B hB).2.1;have lc:=dU (a:=some 1) (b:=none) a6;refine⟨aA (by show(B.map TV.int).length+(af (A.map TV.int) (some 1) none).length≤1000;rw[ag];lia),rfl,?_⟩;show TV.tup (B.map TV.int++af (A.map TV.int) (some 1) none)=tI (B++A.drop 1);rw[e1,← cq];rfl
 subst e;have ml:=HZ hM n4;have mb:=Ia hM fA hS hmo;refine⟨⟨by lia,by rw[aj];lia⟩,by rw[aj,df,aj];exact aQ (by lia),fj TV.int TV.int (λ k:Int=>(decide (kd=12) && decide (0 < A.getD 0 0)) || !decide (Ms.getD k.toNat []=[])) (upL Ms.length) (by rw[aj];exact kX _) (λ k hk=>?_) ?_⟩
 ·obtain⟨j,rfl,jl⟩:=eK hk;have nn:(!_L.eqT (tI (Ms.getD j [])).fz (TV.tup []).fz)=!decide (Ms.getD ((j:Int).toNat) []=[]):=by rw[Int.toNat_natCast,← iK];rfl
  refine⟨trivial,sN (λ c12=>⟨_,xp A0,s3 (λ cA=>?_) (λ cA=>?_)⟩) (λ c12=>?_)⟩
  ·exact⟨by rw[bw c12,bw cA];rfl,λ _=>⟨rfl,rfl⟩⟩
  ·exact⟨tI (Ms.getD j []),aB (bR jl),rfl,g0L,dpT _,by rw[aJ cA,lY,s0w,← nn];rfl,λ _=>⟨rfl,rfl⟩⟩
  ·exact⟨tI (Ms.getD j []),aB (bR jl),rfl,g0L,dpT _,by rw[aJ c12,nY,s0w,← nn];rfl,λ _=>⟨rfl,rfl⟩⟩
 generalize hks1:(upL Ms.length).filter (λ k:Int=>(decide (kd=12) && decide (0 < A.getD 0 0)) || !decide (Ms.getD k.toNat []=[]))=ks1;have km1:∀k,k∈ks1 ↔ k∈upL Ms.length/\((kd=12/\0 < A.getD 0 0)\/Ms.getD k.toNat []≠[]):=λ k=>by rw[← hks1,eP];simp
 have kl1:ks1.length≤40:=by rw[← hks1];exact bK (gO _ _) (by rw[da];exact ml)
 refine⟨rfl,by rw[ag];exact aQ (by lia),fj TV.int TV.int (λ k:Int=>decide ((Ms.getD k.toNat []).length≤6) && decide (ah ((Ms.getD k.toNat []).map ai)≤mo)) ks1 rfl (λ k hk=>?_) ?_⟩
 ·obtain⟨j,rfl,jl⟩:=eK ((km1 k).mp hk).1;rw[Int.toNat_natCast];have eM:=bR jl;generalize Ms.getD j []=M at *;refine⟨tI M,aB eM,s2 (λ c6=>?_) (λ c6=>?_)⟩
  ·have c6:(((M.map TV.int).length:Nat):Int)≤6:=ar c6;rw[ag] at c6;exact⟨tI M,aB eM,cl rfl ⟨M,rfl,Ib (mb M (br eM)),by lia,by rw[bw (show M.length≤6 by lia),Bool.true_and],λ _=>⟨rfl,rfl⟩⟩ rfl⟩
  ·have c6:¬(((M.map TV.int).length:Nat):Int)≤6:=iL c6;rw[ag] at c6;exact⟨by rw[aJ (show ¬M.length≤6 by lia),nY],λ _=>⟨rfl,rfl⟩⟩
 generalize hls:ks1.filter (λ k:Int=>decide ((Ms.getD k.toNat []).length≤6) && decide (ah ((Ms.getD k.toNat []).map ai)≤mo))=ls;have lm:∀k,k∈ls ↔ k∈ks1/\(Ms.getD k.toNat []).length≤6/\ah ((Ms.getD k.toNat []).map ai)≤mo:=λ k=>by rw[← hls,eP,aX,du,du]
 have ll:ls.length≤40:=by rw[← hls];exact bK (gO _ _) kl1
 refine⟨rfl,trivial,sN (λ _=>⟨rfl,g3L,rfl,g2L,rfl,q (.flip a k) A ⟨eA,by unfold off;lia⟩ fA⟩) (λ lne=>?_)⟩;have lne:ls.length≠0:=λ z=>lne (by rw[ag,z];rfl);refine⟨_,rfl,clB rfl ⟨ls,d2,rfl,by lia,by lia,λ x hx=>?_⟩⟩;obtain⟨xm,m6,mw⟩:=(lm x).mp hx;obtain⟨xu,hb⟩:=(km1 x).mp xm;obtain⟨b,rfl,bl⟩:=eK xu;rw[Int.toNat_natCast] at m6 mw hb;have eM:=bR bl;generalize Ms.getD b []=M at *;have nb:=Ic hmo m6 mw;have fM:=rk (λ n hn=>(mb M (br eM) n hn).1) m6 mw;refine⟨by simp[LF],rfl,trivial,sN (λ c11=>?_) (λ n11=>?_)⟩
 ·have mne:¬M=[]:=hb.elim (λ z=>by lia) id
  obtain⟨B,eB,rfl⟩:∃B,Ss[b]?=some B/\M=dc A B k:=by
   rcases hM with ⟨_,rfl⟩ | ⟨z,_⟩ | ⟨z,_⟩
   ·rw[bW] at eM
    cases hx:Ss[b]? with
    | none=>rw[hx] at eM;cases eM
    | some B=>rw[hx] at eM;cases eM;exact⟨B,rfl,rfl⟩
   ·lia
   ·exact absurd c11 z
  obtain⟨j1,j2,j3⟩:=xc mne;exact⟨rfl,g4L,tI (dc A B k),aB eM,rfl,g2L,rfl,q (.join a b k) (dc A B k) ⟨A,B,eA,eB,j1,by unfold off;lia,by rw[Int.toNat_natCast];exact j2,by rw[← j3];exact nb,j3⟩ fM⟩
 have k12:kd=12:=by lia
 obtain⟨n,r,rfl⟩:∃n r,A=n::r:=by
  match A,A0 with
  | n::r,_=>exact⟨n,r,rfl⟩
 obtain⟨B,n0,eB,rfl⟩:∃B,0 < n/\Ss[b]?=some B/\M=B++r:=by
  rcases hM with ⟨z,_⟩ | ⟨_,z,rfl⟩ | ⟨_,z,rfl⟩
  ·exact absurd z n11
  ·rw[bW] at eM
   cases hx:Ss[b]? with
   | none=>rw[hx] at eM;cases eM
   | some B=>rw[hx] at eM;cases eM;exact⟨B,z,rfl,rfl⟩
  ·rcases hb with y | y
   ·exact absurd y.2 z
   ·match b,eM with
    | 0,eM=>cases eM;exact absurd rfl y
 exact⟨rfl,g3L,tI (B++r),aB eM,rfl,g2L,rfl,q (.fetch a b) (B++r) ⟨n,r,B,eA,by lia,eB,nb,rfl⟩ fM⟩
theorem Ml:ZX 49 70 ["cell","sides","most","n","kind","d","a"] 7 3 yI JU:=by
 refine⟨by kernel_rfl,?_⟩;rintro ts Q ⟨cell,mo,Ss,rfl,n4,hS,hmo,q⟩;refine⟨rfl,?_⟩;refine⟨iH (by decide) (by decide),by decide,rfl,?_⟩;generalize aq (cell * 48271) 2147483647=n;refine⟨by decide,rfl,?_⟩;obtain⟨kd,ek⟩:∃kd,aq n 15=kd:=⟨_,rfl⟩;have kb:0≤kd/\kd < 15:=by rw[← ek,aV (by decide)];lia
 rw[ek];refine⟨⟨by decide,by decide,by decide⟩,by decide,⟨by decide,by decide,by decide⟩,by decide,⟨by decide,by decide,by decide⟩,rfl,g3L,rfl,?_⟩;generalize aq (ax n 15) 120=d0;generalize aq (ax n 1800) 120=d1;generalize ax n 216000=d2;refine⟨trivial,s2 (λ _=>⟨by decide,cl rfl ⟨_,n,cell,mo,rfl,hmo,λ d S ok fs=>⟨rfl,q d S (ok Ss) fs⟩⟩ rfl⟩) (λ h0=>s3 (λ _=>⟨by decide,cl rfl ⟨_,n,cell,mo,rfl,hmo,λ d S ok fs=>⟨rfl,q d S (ok Ss) fs⟩⟩ rfl⟩) (λ k3=>?_))⟩
 have n0:0 < Ss.length:=by
  have h0:¬(((Ss.map tI).length:Nat):Int)=0:=iL h0;rw[aj] at h0;lia
 refine s3 (λ _=>clB rfl ⟨kd,d0,d1,d2,mo,Ss,rfl,n0,n4,hS,λ d S ok fs=>⟨nj d S,rfl,q d S ok fs⟩⟩) (λ k6=>?_);refine fX (λ ρ=>ρ=[some (.int cell),some (.lst (Ss.map tI)),some (.int mo),some (.int n),some (.int kd),some (.own [.int d0,.int d1,.int d2]),none]) ?_ (λ ρ' e=>?_)
 ·refine s3 (λ h10=>⟨by rw[aj];exact aQ (by lia),eO tI (λ S=>.int ((S.map TV.int).length:Nat)) Ss (λ S _=>⟨rfl,rfl⟩) ⟨Ss.map (λ S=>(S.length:Int)),by rw[bE];exact s0g λ S _=>by rw[ag];rfl,by rw[aj];exact n0,λ M hM _=>s3 (λ hM0=>?_) (λ _=>rfl)⟩⟩) (λ h10=>rfl);exact clB rfl ⟨kd,d0,d1,d2,mo,Ss,rfl,Ie hM (by lia),by lia,by lia,n4,hS,hmo,λ d S ok fs=>⟨nj d S,rfl,q d S ok fs⟩⟩
 subst e;refine⟨⟨by lia,by rw[aj];lia⟩,_,rfl,cl rfl ⟨upL Ss.length,d0,by show[TV.lst ((List.range (((Ss.map tI).length:Nat):Int).toNat).map λ i:Nat=>TV.int (i:Nat)),TV.int d0]=_;rw[aj,kX];rfl,by rw[da];exact n0,by rw[da];lia,λ k hk=>?_⟩ rfl⟩;obtain⟨a,rfl,al⟩:=eK hk;have eA:=bR al;generalize Ss.getD a []=A at eA;exact⟨rfl,tI A,aB eA,clB rfl ⟨_,d0,d1,d2,mo,a,A,Ss,rfl,eA,hS _ (br eA),hmo,λ d S ok fs=>⟨nj d S,rfl,q d S ok fs⟩⟩⟩
theorem Mm:ZX 50 71 ["cells","most","steps","sides","cell","made","outs","n","k"] 9 2 yJ JV:=by
 refine⟨by kernel_rfl,?_⟩;rintro ts Q ⟨cs,mo,rfl,c40,hmo,q⟩;refine⟨rfl,?_⟩;refine⟨rfl,g0L,rfl,rfl,g0L,rfl,rfl,?_⟩;refine dA (λ i ρ=>∃(ds:List Stp) (Ss:LL) (y4 y5:Option TV),fV mo ds Ss/\ds.length=i/\ρ=[some (lI cs),some (.int mo),some (.own (ds.map stT)),some (.own (Ss.map tI)),y4,y5,none,none,none]) ⟨[],[],_,_,xb mo,rfl,rfl⟩ (λ i t ρ ht h=>?_) (λ ρ h=>?_)
 ·obtain⟨ds,Ss,y4,y5,gl,dl,rfl⟩:=h;obtain⟨c,rfl,hc⟩:=kU ht;have il:=(bD.mp hc).1;have Sl:Ss.length=i:=by rw[← gl.1,dl]
  exact clB rfl ⟨c,mo,Ss,rfl,by lia,gl.2.1,hmo,λ d S ok fs=>⟨nj d S,rfl,_,rfl,rfl,by rw[aj,dl];exact aQ (by lia),_,rfl,rfl,by rw[aj,Sl];exact aQ (by lia),ds++[d],Ss++[S],_,_,xa gl ok fs,by rw[aC,dl];rfl,by rw[cq,cq];rfl⟩⟩
 obtain⟨ds,Ss,y4,y5,gl,dl,rfl⟩:=h;rw[aj] at dl;refine fX (λ ρ=>∃(ds:List Stp) (Ss:LL),fV mo ds Ss/\0 < ds.length/\ds.length≤40/\ρ=[some (lI cs),some (.int mo),some (.own (ds.map stT)),some (.own (Ss.map tI)),y4,y5,none,none,none]) ?_ (λ ρ' h=>?_)
 ·refine⟨trivial,sN (λ z=>?_) (λ z=>⟨ds,Ss,gl,by rw[aj] at z;lia,by lia,rfl⟩)⟩;rw[aj] at z;have e1:ds=[]:=yX.mp (by lia);have e2:Ss=[]:=yX.mp (by rw[← gl.1,e1];rfl);subst e1 e2;exact⟨rfl,g2L,rfl,sl3 (n:=0) (by decide),rfl,g0L,rfl,sl3 (n:=0) (by decide),[.num 0],[[]],xa (xb mo) (d:=.num 0) (S:=[]) ⟨rfl,by unfold inB;decide⟩ (mU hmo),by decide,by decide,rfl⟩
 obtain⟨ds,Ss,gl,d0,d40,rfl⟩:=h;refine⟨rfl,g0L,rfl,cs,rfl,iH (by decide) (by decide),by decide,rfl,?_⟩;generalize aq (cs.sum * 16807) 2147483647=n;obtain⟨x,hx,x1,x8⟩:=Iv (aq n 6) (by rw[aV (by decide)];lia) (by rw[aV (by decide)];lia);refine⟨rfl,g6L,by decide,.int x,hx,rfl,⟨by lia,by lia⟩,?_⟩;refine dA (λ i ρ=>∃(os:LIq) (n:Int) (y8:Option TV),os.length=i/\(∀o∈os,0≤o/\o < (ds.length:Int))/\ρ=[some (lI cs),some (.int mo),some (.own (ds.map stT)),some (.own (Ss.map tI)),y4,y5,some (.own (os.map .int)),some (.int n),y8]) ⟨[],n,_,rfl,(λ o ho=>nomatch ho),rfl⟩ (λ i t ρ ht h=>?_) (λ ρ h=>?_)
 ·obtain⟨os,n,y8,ol,ob,rfl⟩:=h;obtain⟨il,rfl⟩:=iJ ht;have f0:=cM (ax (aq (n * 48271+11) 2147483647) 16) (show(ds.length:Int)≠0 by lia);have f1:=cV (ax (aq (n * 48271+11) 2147483647) 16) (show(0:Int) < ds.length by lia);have em:aq (ax (aq (n * 48271+11) 2147483647) 16) (((ds.map stT).length:Nat):Int)=ax (aq (n * 48271+11) 2147483647) 16 % (ds.length:Int):=by rw[aj];exact aV (by lia)
  refine⟨iH (by decide) (by decide),by decide,rfl,⟨by decide,by decide,by decide⟩,by rw[aj];lia,rfl,by rw[ag,ol];exact aQ (by lia),os++[aq (ax (aq (n * 48271+11) 2147483647) 16) (((ds.map stT).length:Nat):Int)],aq (n * 48271+11) 2147483647,some (.int (i:Nat)),by rw[aC,ol];rfl,λ o ho=>?_,by rw[cq];rfl⟩
  rcases aM.mp ho with z | z
  ·exact ob o z
  ·cases aR.mp z;rw[em];exact⟨f0,f1⟩
 obtain⟨os,n,y8,ol,ob,rfl⟩:=h;rw[aj,df] at ol;have f0:=cM n (show(os.length:Int)≠0 by lia);have f1:=cV n (show(0:Int) < os.length by lia);obtain⟨k,hk⟩:∃k:Nat,n % (os.length:Int)=k:=⟨_,(eI f0).symm⟩;rw[hk] at f1;refine⟨rfl,by rw[ag];lia,k,by rw[ag,aV (by lia),hk];exact Hr (by lia),rfl,g3L,rfl,?_⟩
 have z:=q ds Ss (os.set k ((ds.length:Int) - 1)) ⟨hmo,gl,d0,d40,by rw[fJ];lia,by rw[fJ];lia,λ o ho=>by
  rcases kS ho with z | z
  ·exact ob o z
  ·lia⟩
 unfold tI at z;rw[List.map_set] at z;show Q (.tup [.tup (ds.map stT),.tup ((os.map TV.int).set k (.int (((ds.map stT).length:Nat) - 1))),.lst (Ss.map tI)]);rw[aj];exact z
theorem Mp:ZX 51 72 ["cell"] 1 1 yK JW:=by
 refine⟨by kernel_rfl,?_⟩;rintro ts Q ⟨c,rfl,q⟩;refine⟨rfl,?_⟩;have e:(10:Int) ^ (30:Int).toNat=1000000000000000000000000000000:=by decide
 refine⟨⟨by decide,by decide,by decide⟩,⟨by decide,by decide,by decide⟩,by decide,rfl,?_⟩;rw[e,aV (by decide)];exact q _ (cM _ (by decide)) (cV _ (by decide))
theorem Mq:ZX 52 73 ["cell","k","far","a","b","some"] 6 2 yL JX:=by
 refine⟨by kernel_rfl,?_⟩;rintro ts Q ⟨c,k,rfl,q⟩;refine⟨rfl,?_⟩;refine cl rfl ⟨c,rfl,λ f f0 f1=>⟨rfl,rfl,g2L,⟨by decide,by decide,by decide⟩,by decide,atN (cP _) rfl λ x hx=>?_⟩⟩ rfl
 obtain⟨a,rfl,ha⟩:∃a:Int,x=.int a/\(a < 0\/(k:Int)≤a):=by
  simp only[bc,cJ,TV.fz,aM,av,bh,aY,dD] at hx
  rcases hx with rfl | rfl
  ·exact⟨_,rfl,.inr (by lia)⟩
  ·exact⟨_,rfl,.inl (by lia)⟩
 refine⟨rfl,rfl,?_⟩;generalize (if (k:Int) - 1 > 0 then (k:Int) - 1 else 0)=b;refine⟨rfl,g3L,rfl,g4L,rfl,g4L,rfl,g4L,rfl,g4L,rfl,rfl,g4L,rfl,g4L,rfl,g4L,rfl,g3L,aA (aN rfl),rfl,rfl,g1L,rfl,g3L,rfl,g3L,rfl,g2L,aA (aN rfl),rfl,rfl,g1L,rfl,g3L,rfl,g6L,rfl,g4L,rfl,g4L,rfl,g4L,aA (aN rfl),rfl,rfl,g3L,rfl,g4L,rfl,g4L,rfl,g3L,rfl,g4L,aA (aN rfl),rfl,⟨by decide,by decide,by decide⟩,kY (aN rfl) λ x hx=>?_⟩
 suffices h:NmF k x by
  obtain⟨_,xs,_,rfl,_⟩:=id h;exact⟨rfl,q _ h⟩
 simp only[bc,cJ,TV.fz,aM,av,bh,aY,dD] at hx
 rcases hx with rfl | rfl | rfl | rfl | rfl | rfl | rfl | rfl | rfl | rfl | rfl | rfl | rfl | rfl | rfl | rfl | rfl
 ·exact cG 3 _ [a] (by decide) rfl rfl ⟨a,by simp,ha⟩
 ·exact cG 13 _ [a] (by decide) rfl rfl ⟨a,by simp,ha⟩
 ·exact cG 4 _ [b,a] (by decide) rfl rfl ⟨a,by simp,ha⟩
 ·exact cG 4 _ [a,b] (by decide) rfl rfl ⟨a,by simp,ha⟩
 ·exact cG 11 _ [b,a] (by decide) rfl rfl ⟨a,by simp,ha⟩
 ·exact cG 5 _ [b,a,b] (by decide) rfl rfl ⟨a,by simp,ha⟩
 ·exact cG 5 _ [b,b,a] (by decide) rfl rfl ⟨a,by simp,ha⟩
 ·exact cG 10 _ [a] (by decide) rfl rfl ⟨a,by simp,ha⟩
 ·exact cG 12 _ [b,a] (by decide) rfl rfl ⟨a,by simp,ha⟩
 ·exact cG 6 _ [a] (by decide) rfl rfl ⟨a,by simp,ha⟩
 ·exact cG 8 _ [a] (by decide) rfl rfl ⟨a,by simp,ha⟩
 ·exact cG 14 _ [a] (by decide) rfl rfl ⟨a,by simp,ha⟩
 ·exact cG 9 _ [a] (by decide) rfl rfl ⟨a,by simp,ha⟩
 ·exact cG 7 _ [a] (by decide) rfl rfl ⟨a,by simp,ha⟩
 ·exact cG 5 _ [a,b,b] (by decide) rfl rfl ⟨a,by simp,ha⟩
 ·exact cG 11 _ [a,b] (by decide) rfl rfl ⟨a,by simp,ha⟩
 ·exact cG 12 _ [a,b] (by decide) rfl rfl ⟨a,by simp,ha⟩
theorem Mr:ZX 53 74 ["cell","a","some"] 3 2 yM JY:=by
 refine⟨by kernel_rfl,?_⟩;rintro ts Q ⟨c,a,A,Ss,rfl,ea,q⟩;refine⟨rfl,?_⟩;refine⟨rfl,g3L,rfl,g4L,rfl,g4L,rfl,g4L,rfl,g4L,rfl,⟨by decide,by decide,by decide⟩,by decide,atN (cP _) rfl λ x hx=>?_⟩;simp only[bc,cJ,TV.fz,aM,av,bh,aY,dD] at hx
 rcases hx with rfl | rfl | rfl | rfl
 ·exact⟨rfl,q _ (ID ea (by decide +kernel) (by decide +kernel))⟩
 ·exact⟨rfl,q _ (IE ea (by decide +kernel) (by decide +kernel))⟩
 ·exact⟨rfl,q _ (IF ea (by unfold isF;decide +kernel) (by decide +kernel))⟩
 ·exact⟨rfl,q _ (IG ea (by unfold isF;decide +kernel) (by decide +kernel))⟩
theorem Mt:ZX 54 75 ["cell","a","sides","own","bad","some"] 6 3 yN JZ:=by
 refine⟨by kernel_rfl,?_⟩;rintro ts Q ⟨c,a,A,Ss,rfl,l40,fS,ea,q⟩;refine⟨rfl,?_⟩;have fA:=fS _ (br ea);have a6:=fA.2.1;refine⟨_,aB ea,rfl,cl rfl ⟨c,rfl,λ f f0 f1=>cl rfl ⟨c,rfl,λ g g0 g1=>⟨rfl,g2L,⟨by decide,by decide,by decide⟩,by decide,atN (cP _) rfl λ x hx=>?_⟩⟩ rfl⟩ rfl⟩
 obtain⟨s,rfl,hs⟩:∃s:Int,x=.int s/\(s < 0\/(A.length:Int)+1≤s):=by
  simp only[bc,cJ,TV.fz,aM,av,bh,aY,dD] at hx
  rcases hx with rfl | rfl
  ·exact⟨_,rfl,.inr (by rw[ag];lia)⟩
  ·exact⟨_,rfl,.inl (by lia)⟩
 have of:off A s:=by unfold off;lia
 have of1:bZ A s:=by unfold bZ;lia
 have et:((List.range (((A.map TV.int).length:Nat)+1:Int).toNat).map λ i:Nat=>TV.int (i:Nat))=(upL (A.length+1)).map TV.int:=by rw[ag,show((A.length:Int)+1)=((A.length+1:Nat):Int) by lia,kX]
 have er:(List.replicate (((A.map TV.int).length:Nat)+1:Int).toNat [TV.int 0]).flatten=(List.replicate (A.length+1) (0:Int)).map TV.int:=by rw[ag,show((A.length:Int)+1).toNat=A.length+1 by lia,sG,yY]
 refine⟨rfl,rfl,g3L,rfl,g6L,rfl,g4L,rfl,g4L,rfl,g4L,rfl,rfl,g4L,rfl,g4L,rfl,g3L,rfl,g3L,rfl,g4L,aA (aN rfl),rfl,⟨by lia,by rw[ag];lia⟩,rfl,g3L,rfl,aQ (aN rfl),rfl,g1L,(λ z=>nomatch z),⟨by lia,by rw[ag];lia⟩,aA (by rw[ag];show 1 * ((A.length:Int)+1).toNat≤1000;lia),rfl,g3L,rfl,aQ (aN rfl),⟨by lia,by rw[aj];lia⟩,by rw[aj,df,aj];exact aQ (by lia),fj (λ b:Nat=>.int (b:Nat)) (λ b=>stT (.fetch b a)) (λ b=>decide (Ss.getD b []=[])) (List.range Ss.length) (by rw[aj];rfl) (λ b hb=>?_) ?_⟩
 ·have eb:=bR (fD.mp hb);exact⟨_,aB eb,rfl,g0L,dpT _,bF TV.bl (iK _),λ _=>⟨rfl,g3L,rfl,rfl⟩⟩
 have lf:((List.range Ss.length).filter λ b=>decide (Ss.getD b []=[])).length≤40:=bK (gO _ _) (by rw[df];exact l40);refine⟨aA (by show 10+(List.map _ _).length≤1000;rw[aj];lia),rfl,⟨by decide,by decide,by decide⟩,kY (by rw[aC];exact bO (show 0 < 10 by decide) (Nat.le_add_right _ _)) λ x hx=>?_⟩
 suffices h:∃d,x=stT d/\FS Ss 1 d by
  obtain⟨d,rfl,h⟩:=h;exact⟨rfl,q d h⟩
 simp only[bc,cJ,TV.fz,aM,av,bh,aY,dD] at hx
 rcases hx with rfl | rfl | rfl | rfl | rfl | rfl | rfl | rfl | rfl | rfl | hx
 ·exact⟨_,rfl,xD ea of⟩
 ·exact⟨_,rfl,IH ea of⟩
 ·exact⟨_,rfl,II ea (by unfold isF;decide +kernel) of⟩
 ·exact⟨_,rfl,IJ ea (by unfold isF;decide +kernel) of⟩
 ·exact⟨_,rfl,IL ea (by lia) of⟩
 ·exact⟨_,rfl,IM ea of1⟩
 ·exact⟨.count A s,rfl,IN (db fA) (by lia) (kR fA) of⟩
 ·exact⟨.flip a ((A.map TV.int).length:Nat),rfl,xD ea (by unfold off;rw[ag];lia)⟩
 ·exact⟨.turn a (upL (A.length+1)),by rw[et];rfl,xF ea (by lia) (by rw[da];lia) (by rw[da];lia)⟩
 ·exact⟨.turn a (List.replicate (A.length+1) 0),by rw[er];rfl,xF ea (by lia) (by rw[dH];lia) (by rw[dH];lia)⟩
 ·obtain⟨b,hb,rfl⟩:=cO.mp hx;rw[eP,du,fD] at hb;exact⟨_,rfl,IP (by rw[← hb.2];exact bR hb.1) ea⟩
theorem Mu:ZX 55 76 ["cell","a","sides","far","own","some"] 6 3 yO Ka:=by
 refine⟨by kernel_rfl,?_⟩;rintro ts Q ⟨c,a,A,Ss,rfl,l40,fS,ea,q⟩;refine⟨rfl,?_⟩;have fA:=fS _ (br ea);have a6:=fA.2.1;refine cl rfl ⟨c,rfl,λ f f0 f1=>⟨rfl,_,aB ea,rfl,rfl,g4L,rfl,g1L,rfl,fX (λ ρ'=>∃L,ρ'=[some (.int c),some (.int a),some (.lst (Ss.map tI)),some (.int f),some (tI A),some (.own L)]/\0 < L.length/\L.length≤10/\∀x∈L,∃d,x=stT d/\FS Ss 2 d) ?_ (λ ρ' h=>?_)⟩⟩ rfl
 ·match A,ea,fA with
  | [],ea,fA =>
   refine⟨_,rfl,cP _,aN rfl,λ x hx=>?_⟩;simp only[bc,cJ,TV.fz,aM,av,bh,aY,dD] at hx;subst hx;exact⟨.spread a 0 (-1 - f),rfl,xG ea (by unfold bZ;decide) (by lia)⟩
  | n::r,ea,fA =>
   have nb:=fA.1 n (by simp);have mb:0≤aq f 1000/\aq f 1000 < 1000:=by rw[aV (by decide)];lia
   refine sT (bw (show(0:Int) < (((n::r).map TV.int).length:Nat) by rw[ag,List.length_cons];lia)) ⟨.int n,fH (j:=0) rfl,by decide,rfl,g6L,rfl,g6L,rfl,g2L,rfl,rfl,g6L,rfl,g6L,rfl,g2L,aA (aN rfl),rfl,.int n,fH (j:=0) rfl,rfl,g6L,rfl,g4L,rfl,g2L,aA (aN rfl),rfl,_,rfl,cP _,aN rfl,λ x hx=>?_⟩;simp only[bc,cJ,TV.fz,aM,av,bh,aY,dD] at hx;have no:¬off (n::r) 0:=by unfold off;rw[List.length_cons];lia
   generalize aq f 1000=m at *
   rcases hx with rfl | rfl | rfl | rfl | rfl | rfl
   ·exact⟨.cut a 0 0 (n+1+m) 1,rfl,kZ ea no (.inr (.inr (.inr ⟨by lia,by show n≤0+(n+1+m - 1) * 1;lia⟩))) (by lia)⟩
   ·exact⟨.cut a 0 (-1 - f) 0 1,rfl,kZ ea no (.inl (by lia)) (by lia)⟩
   ·exact⟨.cut a 0 0 0 (-f),rfl,kZ ea no (.inr (.inr (.inl (by lia)))) (by lia)⟩
   ·exact⟨.cut a 0 0 (-1 - f) 1,rfl,kZ ea no (.inr (.inl (by lia))) (by lia)⟩
   ·exact⟨.cut a 0 (n+f) 1 1,rfl,kZ ea no (.inr (.inr (.inr ⟨by lia,by show n≤n+f+(1 - 1) * 1;lia⟩))) (by lia)⟩
   ·exact⟨.spread a (((n::r).map TV.int).length:Nat) (-1 - f),rfl,xG ea (by unfold bZ;rw[ag];lia) (by lia)⟩
 ·obtain⟨L,rfl,l0,l10,hL⟩:=h;refine⟨⟨by lia,by rw[aj];lia⟩,by rw[aj,df,aj];exact aQ (by lia),fj (λ b:Nat=>.int (b:Nat)) (λ b=>stT (.fetch b a)) (λ b=>decide ((Ss.getD b []).take 1=[0])) (List.range Ss.length) (by rw[aj];rfl) (λ b hb=>?_) ?_⟩
  ·have eb:=bR (fD.mp hb);have e1:af ((Ss.getD b []).map TV.int) none (some 1)=((Ss.getD b []).take 1).map TV.int:=cU _ 1;refine⟨_,aB eb,rfl,g1L,?_,?_,λ _=>⟨rfl,g3L,rfl,rfl⟩⟩
   ·show _L.dp 9 (TV.tup (af ((Ss.getD b []).map TV.int) none (some 1)));rw[e1];exact dpT _
   ·show TV.bl (_L.eqT (TV.tup (af ((Ss.getD b []).map TV.int) none (some 1))) (TV.tup ([(0:Int)].map TV.int)))=_;rw[e1,fh]
  have lf:((List.range Ss.length).filter λ b=>decide ((Ss.getD b []).take 1=[0])).length≤40:=bK (gO _ _) (by rw[df];exact l40);refine⟨aA (by rw[aj];lia),rfl,⟨by decide,by decide,by decide⟩,kY (by rw[aC];lia) λ x hx=>?_⟩
  suffices h:∃d,x=stT d/\FS Ss 2 d by
   obtain⟨d,rfl,h⟩:=h;exact⟨rfl,q d h⟩
  rcases aM.mp hx with hx | hx
  ·exact hL x hx
  obtain⟨b,hb,rfl⟩:=cO.mp hx;rw[eP,du,fD] at hb;have eb:=bR hb.1
  obtain⟨r,er⟩:∃r,Ss.getD b []=0::r:=by
   cases z:Ss.getD b [] with
   | nil=>have z2:=hb.2;rw[z] at z2;cases z2
   | cons n r=>have z2:=hb.2;rw[z] at z2;cases z2;exact⟨r,rfl⟩
  rw[er] at eb;exact⟨_,rfl,IQ eb ea⟩
theorem Mv:ZX 56 77 ["a","b","own","one","some","k"] 6 4 yP Kb:=by
 refine⟨by kernel_rfl,?_⟩;rintro ts Q ⟨a,b,A,B,Ss,rfl,ea,eb,fA,fB,ll,q⟩;refine⟨rfl,?_⟩;have a6:=fA.2.1;have b6:=fB.2.1;refine⟨rfl,g0L,rfl,rfl,⟨by lia,by rw[ag];lia⟩,dA (λ i ρ=>∃L y,ρ=[some (.int a),some (.int b),some (tI A),some (tI B),some (.own L),y]/\L.length≤i/\∀x∈L,∃d,x=stT d/\FS Ss 3 d) ⟨[],_,rfl,au _,λ x hx=>nomatch hx⟩ (λ i t ρ ht h=>?_) (λ ρ h=>?_)⟩
 ·obtain⟨L,y,rfl,l,hL⟩:=h;obtain⟨il,rfl⟩:=iJ ht;rw[ag] at il;have la:=dU (A:=A) (a:=none) (b:=some (i:Int)) a6;have lb:=dU (A:=A) (a:=some ((i:Int)+1)) (b:=none) a6;have lc:=dU (A:=B) (a:=none) (b:=some (i:Int)) b6;have ld:=dU (A:=B) (a:=some ((i:Int)+1)) (b:=none) b6;refine⟨aA (by lia),aA (by lia),?_,?_⟩
  ·show _L.dp 9 (TV.tup (af (A.map TV.int) none (some (i:Int))++af (A.map TV.int) (some ((i:Int)+1)) none));rw[rO a6];exact dpT _
  have e1:_L.eqT (TV.tup (af (A.map TV.int) none (some (i:Int))++af (A.map TV.int) (some ((i:Int)+1)) none)) (TV.tup (af (B.map TV.int) none (some (i:Int))++af (B.map TV.int) (some ((i:Int)+1)) none))=decide (A.eraseIdx i=B.eraseIdx i):=by rw[rO a6,rO b6,fh]
  by_cases c:A.eraseIdx i=B.eraseIdx i
  ·exact sF (by show(!_L.eqT (TV.tup _) (TV.tup _))=false;rw[e1,bw c];rfl) ⟨L,_,rfl,by lia,hL⟩
  ·refine sT (by show(!_L.eqT (TV.tup _) (TV.tup _))=true;rw[e1,aJ c];rfl) ⟨rfl,g4L,rfl,aQ (by lia),L++[stT (.join a b i)],_,rfl,by rw[aC,cK];lia,λ x hx=>?_⟩
   rcases aM.mp hx with hx | hx
   ·exact hL x hx
   ·cases aR.mp hx;exact⟨_,rfl,IU ea eb (by lia) ll (by unfold off;lia) c⟩
 ·obtain⟨L,y,rfl,l,hL⟩:=h;rw[aj,df,ag,Int.toNat_natCast] at l;exact⟨rfl,q L (by lia) hL⟩
theorem Mw:ZX 57 78 ["cell","a","sides","own","other","some","b","fit"] 8 3 yQ Kc:=by
 refine⟨by kernel_rfl,?_⟩;rintro ts Q ⟨c,a,A,Ss,rfl,l40,fS,ea,q⟩;refine⟨rfl,?_⟩;have fA:=fS _ (br ea);have a6:=fA.2.1;have pa:=mR λ n hn=>(fA.1 n hn).1;have pb:=fA.2.2.2;refine⟨_,aB ea,rfl,cl rfl ⟨_,A,rfl,.inl rfl,db fA,cl rfl ⟨c,rfl,λ f f0 f1=>⟨by decide,rfl,fX (λ ρ'=>∃o:Int,ρ'=[some (.int c),some (.int a),some (.lst (Ss.map tI)),some (tI A),some (.int o),none,none,none]/\0≤o/\o≤512/\o≠ah A) ?_ (λ ρ' h=>?_)⟩⟩ rfl⟩ rfl⟩
 ·have m9:0≤aq f 9/\aq f 9 < 9:=by rw[aV (by decide)];lia
  refine s3 (λ c1=>cl rfl ⟨_,A,rfl,.inl rfl,db fA,cl rfl ⟨c,rfl,λ g g0 g1=>⟨by decide,rfl,_,rfl,?_⟩⟩ rfl⟩ rfl) (λ c1=>⟨_,rfl,by lia,by lia,by lia⟩);have n9:0≤aq g 9/\aq g 9 < 9:=by rw[aV (by decide)];lia
  exact⟨by lia,by lia,by lia⟩
 obtain⟨o,rfl,o0,o5,on⟩:=h;refine⟨rfl,g1L,rfl,g3L,rfl,g1L,rfl,rfl,⟨by lia,by rw[aj];lia⟩,dA (λ i ρ=>∃L y8 y9,ρ=[some (.int c),some (.int a),some (.lst (Ss.map tI)),some (tI A),some (.int o),some (.own L),y8,y9]/\0 < L.length/\L.length≤1+100 * i/\∀x∈L,∃d,x=stT d/\FS Ss 3 d) ⟨_,_,_,rfl,cP _,au _,λ x hx=>?_⟩ (λ i t ρ ht h=>?_) (λ ρ h=>?_)⟩
 ·simp only[bc,cJ,TV.fz,aM,av,bh,aY,dD] at hx;subst hx;have so:bn [o]:=λ n hn=>by cases aR.mp hn;lia
  refine⟨.lay a [o],rfl,IR ea (db fA) so (aN rfl) ?_ ?_⟩
  ·unfold bq;have e:ah ([o].map ai)=ai o:=kN _;rw[e];have:=wV o5 (by decide);simp only[cK];lia
  ·show ah A≠1 * o;lia
 ·obtain⟨L,y8,y9,rfl,l0,l,hL⟩:=h;obtain⟨il,rfl⟩:=iJ ht;rw[aj] at il;have il:i < Ss.length:=by lia
  have eb:=bR il;generalize Ss.getD i []=B at eb;have fB:=fS _ (br eb);have b6:=fB.2.1;refine fX (λ ρ'=>∃L y9,ρ'=[some (.int c),some (.int a),some (.lst (Ss.map tI)),some (tI A),some (.int o),some (.own L),some (.int i),y9]/\0 < L.length/\L.length≤1+100 * i+50/\∀x∈L,∃d,x=stT d/\FS Ss 3 d) ⟨_,aB eb,cl rfl ⟨A,B,rfl,λ bb hbb=>?_⟩ rfl⟩ (λ ρ' h=>?_)
  ·cases bb with
   | true=>exact⟨L,_,rfl,l0,by lia,hL⟩
   | false =>
    have np:¬aH A B:=λ z=>by have:=hbb.mpr z;cases this
    refine⟨rfl,g4L,rfl,g4L,rfl,g4L,rfl,g3L,rK (show L.length+3≤9000 by lia),rfl,⟨by lia,by rw[aj];lia⟩,by rw[aj,df,aj];exact aQ (by lia),fj (λ b:Nat=>.int (b:Nat)) (λ b:Nat=>.int (b:Nat)) (pC Ss A B) (List.range Ss.length) (by rw[aj];rfl) (λ k hk=>?_) ?_⟩
    ·have ek:=bR (fD.mp hk);have pi:=xr (Ss:=Ss) (A:=A) (B:=B) (k:=k);refine⟨_,aB ek,cl rfl ⟨_,A,rfl,λ b1 h1=>?_⟩ rfl⟩
     cases b1 with
     | false =>
      have z:pC Ss A B k=false:=Bool.eq_false_iff.mpr λ z=>by have:=h1.mpr (pi.mp z).1;cases this
      exact⟨by rw[z],λ _=>⟨rfl,rfl⟩⟩
     | true=>exact⟨_,aB ek,_,aB eb,cl rfl ⟨_,B,rfl,λ b2 h2=>⟨by rw[rH (p:=aH (Ss.getD k []) B) h2 ⟨λ z=>(pi.mp z).2,λ z=>pi.mpr ⟨h1.mp rfl,z⟩⟩],λ _=>⟨rfl,rfl⟩⟩⟩ rfl⟩
    generalize hks:(List.range Ss.length).filter (pC Ss A B)=ks;have lf:ks.length≤40:=by rw[← hks];exact bK (gO _ _) (by rw[df];exact l40)
    refine⟨rfl,by rw[aj];exact aQ (by lia),eO (λ b:Nat=>.int (b:Nat)) (λ k=>stT (.pick k a i)) ks (λ k hk=>⟨rfl,g4L,rfl,rfl⟩) ⟨rK (by rw[aC];show L.length+3+(ks.map λ k=>stT (.pick k a i)).length≤9000;rw[aj];lia),rfl,_,_,rfl,by rw[aC,aC];lia,by rw[aC,aC];show L.length+3+(ks.map λ k=>stT (.pick k a i)).length≤_;rw[aj];lia,λ x hx=>?_⟩⟩
    rcases aM.mp hx with hx | hx
    ·rcases aM.mp hx with hx | hx
     ·exact hL x hx
     ·simp only[bc,cJ,TV.fz,aM,av,bh,aY,dD] at hx
      rcases hx with rfl | rfl | rfl
      ·exact⟨_,rfl,IS ea eb (by decide +kernel) np⟩
      ·exact⟨_,rfl,sx ea ea eb (.inr ⟨mW A,by rw[rn (mW A) (au _)];exact np⟩)⟩
      ·exact⟨_,rfl,sx eb ea ea (.inl λ z=>np (Iz z))⟩
    ·obtain⟨k,hk,rfl⟩:=cO.mp hx;rw[← hks,eP,fD,xr] at hk;have ek:=bR hk.1;obtain⟨_,p1,p2⟩:=hk;generalize Ss.getD k []=C at ek p1 p2;have cl':C.length < A.length:=Nat.lt_of_not_le λ z=>np (IA p1 p2 z);exact⟨_,rfl,sx ek ea eb (.inr ⟨p1,by rw[rq cl'];exact np⟩)⟩
  ·obtain⟨L,y9,rfl,l0,l,hL⟩:=h;refine⟨_,aB eb,trivial,?_⟩;by_cases ll:A.length=B.length
   ·refine sF (neF (show(((A.map TV.int).length:Nat):Int)=((B.map TV.int).length:Nat) by rw[ag,ag,ll])) ⟨_,aB eb,cl rfl ⟨a,i,A,B,Ss,rfl,ea,eb,fA,fB,ll,λ M lM hM=>⟨rK (by lia),rfl,_,_,_,rfl,by rw[aC];lia,by rw[aC];lia,λ x hx=>?_⟩⟩ rfl⟩
    rcases aM.mp hx with hx | hx
    ·exact hL x hx
    ·exact hM x hx
   ·refine sT (neT (show(((A.map TV.int).length:Nat):Int)≠((B.map TV.int).length:Nat) by rw[ag,ag];lia)) ⟨rfl,g4L,rfl,jH (by lia),L++[stT (.join a i 9)],_,_,rfl,by rw[aC];lia,by rw[aC,cK];lia,λ x hx=>?_⟩
    rcases aM.mp hx with hx | hx
    ·exact hL x hx
    ·cases aR.mp hx;exact⟨_,rfl,IT ea eb (by lia) ll⟩
 ·obtain⟨L,y8,y9,rfl,l0,l,hL⟩:=h;refine⟨⟨by decide,by decide,by decide⟩,kY l0 λ x hx=>?_⟩;obtain⟨d,rfl,h⟩:=hL x hx;exact⟨rfl,q d h⟩
theorem Mx:ZX 58 79 ["cell","a","sides","wide","some","own","side","b","made"] 9 3 yR Kd:=by
 refine⟨by kernel_rfl,?_⟩;rintro ts Q ⟨c,a,Ss,rfl,l40,fS,ha,q⟩;refine⟨rfl,?_⟩;refine cl rfl ⟨c,rfl,λ f f0 f1=>⟨rfl,rfl,g1L,rfl,g2L,rfl,g1L,(λ z=>nomatch z),⟨by decide,by decide⟩,aA (aN rfl),rfl,g2L,rfl,g1L,(λ z=>nomatch z),⟨by decide,by decide⟩,aA (aN rfl),rfl,g3L,rfl,g2L,rfl,g2L,rfl,g4L,rfl,trivial,?_⟩⟩ rfl
 have h4:∀x∈[stT (.inp [513+f]),stT (.inp [1,1,1,1,1,1,1]),stT (.count [2,2,2,2,2,2,2,2,2,2] 77),stT (.inp [0,513+f])],∃d,x=stT d/\FS Ss 4 d:=λ x hx=>by
  simp only[av,bh,aY] at hx
  rcases hx with rfl | rfl | rfl | rfl
  ·exact⟨_,rfl,sB (xt xw (by lia))⟩
  ·exact⟨_,rfl,sB (.inl (by decide))⟩
  ·exact⟨_,rfl,IV (λ n hn=>by simp only[av,bh,aY,or_self] at hn;lia) (by decide) (.inl (by decide))⟩
  ·exact⟨_,rfl,sB (xv (by lia))⟩
 refine sN (λ h0=>⟨⟨by decide,by decide,by decide⟩,by decide,atN (cP _) rfl λ x hx=>?_⟩) (λ h0=>?_)
 ·obtain⟨d,rfl,h⟩:=h4 x hx;exact⟨rfl,q d h⟩
 have h0:(((Ss.map tI).length:Nat):Int)≠0:=h0;rw[aj] at h0;have ea:=bR (ha (by lia));generalize Ss.getD a []=A at ea;have fA:=fS _ (br ea);have a6:=fA.2.1;refine⟨_,aB ea,rfl,rfl,g2L,rfl,g3L,rfl,g4L,rfl,g1L,(λ z=>nomatch z),⟨by decide,by decide⟩,aA (aN rfl),rfl,g3L,rfl,g3L,aA (aN rfl),rfl,rfl,⟨by lia,by rw[ag];lia⟩,dA (λ i ρ=>∃L y6,ρ=[some (.int c),some (.int a),some (.lst (Ss.map tI)),some (.int (513+f)),some (.own L),some (tI A),y6,none,none]/\0 < L.length/\L.length≤10+i/\∀x∈L,∃d,x=stT d/\FS Ss 4 d) ⟨_,_,rfl,cP _,aN rfl,λ x hx=>?_⟩ (λ i t ρ ht h=>?_) (λ ρ h=>?_)⟩
 ·rcases aM.mp hx with hx | hx
  ·exact h4 x hx
  simp only[bc,cJ,TV.fz,aM,av,bh,aY,dD] at hx
  rcases hx with rfl | rfl | rfl
  ·exact⟨.lay a [0,513+f],rfl,xH ea (xv (by lia))⟩
  ·exact⟨.spread a 0 (513+f),rfl,xI ea (by unfold bZ;lia) (by lia) (by lia) (xt fA (by lia))⟩
  ·exact⟨.lay a [1,1,1,1,1,1,1],rfl,xH ea (.inl (by decide))⟩
 ·obtain⟨L,y6,rfl,l0,l,hL⟩:=h;obtain⟨il,rfl⟩:=iJ ht;rw[ag] at il;have il:i < A.length:=by lia
  have eb:dc A A i=cS A A i:=if_pos ⟨rfl,rfl⟩;have n1:=fA.1 _ (getD_mem il)
  have sd:bn (cS A A i):=λ n hn=>by
   unfold cS at hn
   rcases kS hn with z | z
   ·exact db fA n z
   ·rw[Int.toNat_natCast] at z;lia
  refine cl rfl ⟨A,A,i,rfl,il,a6,a6,cl rfl ⟨dc A A i,rfl,by rw[eb];exact sd,by rw[eb];unfold cS;rw[fJ];lia,s3 (λ c1=>?_) (λ c1=>⟨L,_,rfl,l0,by lia,hL⟩)⟩ rfl⟩ rfl;rw[eb] at c1;refine⟨rfl,g4L,rfl,jH (by lia),L++[stT (.join a a i)],_,rfl,by rw[aC];lia,by rw[aC,cK];lia,λ x hx=>?_⟩
  rcases aM.mp hx with hx | hx
  ·exact hL x hx
  ·cases aR.mp hx;exact⟨_,rfl,IW ea (by lia) (by unfold off;lia) (rJ sd (.inr c1))⟩
 obtain⟨L,y6,rfl,l0,l,hL⟩:=h;rw[aj,df,ag,Int.toNat_natCast] at l;refine⟨rfl,⟨by lia,by rw[aj];lia⟩,dA (λ i ρ=>∃L y7 y8,ρ=[some (.int c),some (.int a),some (.lst (Ss.map tI)),some (.int (513+f)),some (.own L),some (tI A),y6,y7,y8]/\0 < L.length/\L.length≤20+i/\∀x∈L,∃d,x=stT d/\FS Ss 4 d) ⟨L,_,_,rfl,l0,by lia,hL⟩ (λ i t ρ ht h=>?_) (λ ρ h=>?_)⟩
 ·clear hL l0 l;obtain⟨L,y7,y8,rfl,l0,l,hL⟩:=h;obtain⟨il,rfl⟩:=iJ ht;rw[aj] at il;have il:i < Ss.length:=by lia
  have eb:=bR il;generalize Ss.getD i []=B at eb;have fB:=fS _ (br eb);have b6:=fB.2.1;have lb:=dU (A:=B) (a:=some 1) (b:=none) b6;have e1:af (B.map TV.int) none (some 1)=(B.take 1).map TV.int:=cU _ 1;have e2:af (B.map TV.int) (some 1) none=(B.drop 1).map TV.int:=dC _ 1;have e3:TV.tup (A.map TV.int++af (B.map TV.int) (some 1) none)=tI (A++B.drop 1):=by rw[e2,← cq];rfl
  refine⟨_,aB eb,aA (by rw[ag];lia),rfl,_,aB eb,rfl,g1L,B.take 1,[0],e1,rfl,?_⟩;rw[e3];refine s2 (λ h=>?_) (λ h=>⟨L,_,_,rfl,l0,by lia,hL⟩)
  obtain⟨n,r,rfl,n0⟩:∃n r,B=n::r/\n≠0:=by
   cases B with
   | nil=>cases h
   | cons n r =>
    refine⟨n,r,rfl,λ z=>?_⟩;subst z;have h:_H.lexLt [0] [(0:Int)]=true:=h;exact absurd h (by decide)
  have sd:bn (A++r):=λ x hx=>by
   rcases aM.mp hx with z | z
   ·exact db fA x z
   ·exact db fB x (bU _ z)
  have r6:r.length≤5:=by rw[List.length_cons] at b6;lia
  have fin:bq (A++r)->∀x∈L++[stT (.fetch i a)],∃d,x=stT d/\FS Ss 4 d:=λ bg x hx=>by
   rcases aM.mp hx with hx | hx
   ·exact hL x hx
   ·cases aR.mp hx;exact⟨_,rfl,IY eb ea n0 (by lia) (by lia) (rJ sd bg)⟩
  have l1:(L++[stT (.fetch i a)]).length≤20+(i+1):=by rw[aC,cK];lia
  have l2:0 < (L++[stT (.fetch i a)]).length:=by rw[aC];lia
  refine s3 (λ c6=>?_) (λ c6=>cl rfl ⟨A++r,rfl,sd,by rw[aC];lia,s3 (λ c5=>?_) (λ c5=>⟨L,_,_,rfl,l0,by lia,hL⟩)⟩ rfl)
  ·have c6:(6:Int) < (((A++r).map TV.int).length:Nat):=c6;rw[ag] at c6;exact⟨rfl,g3L,rfl,jH (by lia),L++[stT (.fetch i a)],_,_,rfl,l2,l1,fin (.inl (by lia))⟩
  ·exact⟨rfl,g3L,rfl,jH (by lia),L++[stT (.fetch i a)],_,_,rfl,l2,l1,fin (.inr c5)⟩
 ·clear hL l0 l;obtain⟨L,y7,y8,rfl,l0,l,hL⟩:=h;rw[aj,df,aj,Int.toNat_natCast] at l;refine fX (λ ρ'=>∃L,ρ'=[some (.int c),some (.int a),some (.lst (Ss.map tI)),some (.int (513+f)),some (.own L),some (tI A),y6,y7,y8]/\0 < L.length/\∀x∈L,∃d,x=stT d/\FS Ss 4 d) ⟨trivial,sN (λ h6=>?_) (λ h6=>⟨L,rfl,l0,hL⟩)⟩ (λ ρ' h=>?_)
  ·have h6:(((A.map TV.int).length:Nat):Int)=6:=h6;rw[ag] at h6;refine⟨⟨by decide,by decide,by decide⟩,by decide,rfl,g4L,rfl,jH (by lia),_,rfl,by rw[aC];lia,λ x hx=>?_⟩
   rcases aM.mp hx with hx | hx
   ·exact hL x hx
   ·cases aR.mp hx;have mb:0≤aq (ax c 8) 7/\aq (ax c 8) 7 < 7:=by rw[aV (by decide)];lia
    generalize aq (ax c 8) 7=s at *;exact⟨.spread a s 1,rfl,xI ea (by unfold bZ;lia) (by decide) (by lia) (.inl (by rw[wQ];lia))⟩
  ·obtain⟨L,rfl,l0,hL⟩:=h;refine⟨⟨by decide,by decide,by decide⟩,kY l0 λ x hx=>?_⟩;obtain⟨d,rfl,h⟩:=hL x hx;exact⟨rfl,q d h⟩
theorem Mz:ZX 59 80 ["cell","k","sides","way","a"] 5 3 yS Kf:=by
 refine⟨by kernel_rfl,?_⟩;rintro ts Q ⟨c,k,Ss,rfl,kl,l40,fS,q⟩;refine⟨rfl,?_⟩;have lk:(Ss.take k).length=k:=by rw[aU];lia
 have fK:∀S∈Ss.take k,fit S:=λ S hS=>fS S (nC hS)
 have nm:∀u,NmF k u->u.nb=true/\u.fz=u/\Q (.tup [u,.str "name"]):=λ u h=>by
  obtain⟨_,xs,_,rfl,_⟩:=id h;exact⟨rfl,rfl,q xs "name" (.inl ⟨by rw[lk];exact h,rfl⟩)⟩
 have fs:∀ {j:Nat}{w:Str}(d:Stp),wds[j]?=some w->FS (Ss.take k) j d->Q (.tup [stT d,.str w]):=λ d hw h=>q _ _ (.inr ⟨d,_,rfl,h,hw⟩);have ek:af (Ss.map tI) none (some (k:Int))=(Ss.take k).map tI:=by rw[gN,kW]
 have un:∀u,NmF k u->[u,TV.str "name"].all TV.nb=true/\[u,TV.str "name"].length≤sizeLine/\true=true/\Q (.tup ([u,TV.str "name"].map TV.fz)):=λ u h=>by
  obtain⟨_,xs,_,rfl,_⟩:=id h;exact⟨rfl,g2L,rfl,q xs "name" (.inl ⟨by rw[lk];exact h,rfl⟩)⟩
 refine⟨by decide,rfl,fX (λ ρ'=>ρ'=[some (.int c),some (.int k),some (.lst (Ss.map tI)),some (.int (aq c 6)),none]/\(k=0->aq c 6=5)) ⟨trivial,sN (λ k0=>⟨trivial,?_⟩) (λ k0=>⟨rfl,λ z=>absurd (by rw[z];rfl) k0⟩)⟩ (λ ρ' h=>?_)⟩
 ·by_cases c5:aq c 6=5
  ·exact sF (neF c5) ⟨rfl,λ _=>c5⟩
  ·exact sT (neT c5) (cl rfl ⟨c,k,rfl,un⟩ rfl)
 obtain⟨rfl,k5⟩:=h;have mb:0≤aq c 6/\aq c 6 < 6:=by rw[aV (by decide)];lia
 have mx:(1:Int)≤(if (k:Int) > 1 then (k:Int) else 1)/\(if (k:Int) > 1 then (k:Int) else 1)=if k=0 then 1 else (k:Int):=by split<;>split<;>lia
 refine⟨⟨by decide,by decide,by decide⟩,by lia,rfl,?_⟩;have a0:=cM (ax c 200) (show(if (k:Int) > 1 then (k:Int) else 1)≠0 by lia);have a1:=cV (ax c 200) (show(0:Int) < (if (k:Int) > 1 then (k:Int) else 1) by lia);generalize aq c 6=wy at *;rw[aV (i:=ax c 200) (by lia)];obtain⟨a,ha⟩:∃a:Nat,ax c 200 % (if (k:Int) > 1 then (k:Int) else 1)=a:=⟨_,(eI a0).symm⟩;rw[ha] at a1 ⊢;have al:0 < k->a < k:=λ z=>by rw[mx.2,if_neg (by lia)] at a1;lia
 have ea:0 < k->(Ss.take k)[a]?=some ((Ss.take k).getD a []):=λ z=>bR (by rw[lk];exact al z);generalize (Ss.take k).getD a []=A at ea;refine⟨trivial,sN (λ h=>cl rfl ⟨c,k,rfl,un⟩ rfl) (λ h0=>?_)⟩;refine⟨trivial,sN (λ h=>cl rfl ⟨c,a,A,Ss.take k,rfl,ea (by lia),λ d hd=>⟨rfl,g2L,rfl,fs d rfl hd⟩⟩ rfl) (λ h1=>?_)⟩;refine⟨trivial,sN (λ h=>cl rfl ⟨c,a,A,Ss.take k,by show[TV.int c,TV.int a,TV.lst (af (Ss.map tI) none (some (k:Int)))]=_;rw[ek],by lia,fK,ea (by lia),λ d hd=>⟨rfl,g2L,rfl,fs d rfl hd⟩⟩ rfl) (λ h2=>?_)⟩;refine⟨trivial,sN (λ h=>cl rfl ⟨c,a,A,Ss.take k,by show[TV.int c,TV.int a,TV.lst (af (Ss.map tI) none (some (k:Int)))]=_;rw[ek],by lia,fK,ea (by lia),λ d hd=>⟨rfl,g2L,rfl,fs d rfl hd⟩⟩ rfl) (λ h3=>?_)⟩;refine⟨trivial,sN (λ h=>cl rfl ⟨c,a,A,Ss.take k,by show[TV.int c,TV.int a,TV.lst (af (Ss.map tI) none (some (k:Int)))]=_;rw[ek],by lia,fK,ea (by lia),λ d hd=>⟨rfl,g2L,rfl,fs d rfl hd⟩⟩ rfl) (λ h4=>?_)⟩;exact cl rfl ⟨c,a,Ss.take k,by show[TV.int c,TV.int a,TV.lst (af (Ss.map tI) none (some (k:Int)))]=_;rw[ek],by lia,fK,λ z=>by rw[lk] at z ⊢;exact al z,λ d hd=>⟨rfl,g2L,rfl,fs d rfl hd⟩⟩ rfl
theorem MA:ZX 60 81 ["steps","outs","k","cell","at","some"] 6 4 yT Kg:=by
 refine⟨by kernel_rfl,?_⟩;rintro ts Q ⟨us,os,k,c,rfl,kl,l40,o0,o8,q⟩;refine⟨rfl,?_⟩;have d0:=cM (ax c 5) (show(us.length:Int) - k≠0 by lia);have d1:=cV (ax c 5) (show(0:Int) < (us.length:Int) - k by lia);have on:os.map TV.int≠[]:=λ z=>by have:=bF List.length z;rw[ag,List.length_nil] at this;lia
 refine⟨⟨by decide,by decide,by decide⟩,by lia,rfl,by decide,trivial,?_⟩;rw[aV (show(0:Int) < (us.length:Int) - k by lia)];obtain⟨a,ha⟩:∃a:Nat,(k:Int)+1+ax c 5 % ((us.length:Int) - k)=a:=⟨((k:Int)+1+ax c 5 % ((us.length:Int) - k)).toNat,by lia⟩;rw[ha];refine sN (λ h=>?_) (λ h=>⟨by decide,trivial,sN (λ h1=>?_) (λ h1=>?_)⟩)
 ·refine⟨rfl,g0L,on,⟨by decide,by decide⟩,aA (by rw[ag];show _ * 9≤1000;lia),rfl,g1L,aA (by rw[ag];show 1+_≤1000;lia),rfl,g3L,⟨by decide,by decide,by decide⟩,by decide,atN (cP _) rfl λ x hx=>?_⟩
  obtain⟨os1,rfl,l1⟩:∃os1,x=tI os1/\os1.length≤500:=by
   simp only[bc,cJ,TV.fz,aM,av,bh,aY,dD] at hx
   rcases hx with rfl | rfl | rfl
   ·exact⟨[],rfl,by decide⟩
   ·refine⟨(List.replicate 9 os).flatten,?_,by simp;lia⟩;show TV.tup (List.replicate 9 (os.map TV.int)).flatten=TV.tup ((List.replicate 9 os).flatten.map TV.int);rw[List.map_flatten,sG]
   ·exact⟨-1::os,rfl,by simp;lia⟩
  exact⟨rfl,g2L,rfl,q us os1 rfl l1⟩
 ·refine⟨rfl,g2L,rfl,g1L,(λ z=>nomatch z),⟨by decide,by decide⟩,aA (aN rfl),aA (show us.length+40≤1000 by lia),rfl,g2L,rfl,q _ os ?_ (by lia)⟩;rw[kT (by lia)]
 ·refine⟨rfl,g3L,rfl,g3L,rfl,g1L,rfl,g2L,rfl,g4L,rfl,g4L,rfl,aA (aN rfl),rfl,⟨by decide,by decide,by decide⟩,by decide,atN (cP _) rfl λ x hx=>?_⟩
  obtain⟨xs,rfl⟩:∃xs,x=.tup xs:=by
   simp only[bc,cJ,TV.fz,aM,av,bh,aY,dD] at hx
   rcases hx with rfl | rfl | rfl | rfl | rfl<;>exact⟨_,rfl⟩
  have la:(af us none (some (a:Int))).length≤40:=by rw[gN,aU];lia
  have lb:(af us (some ((a:Int)+1)) none).length≤40:=by rw[rQ,cg];lia
  refine⟨rfl,g1L,aA (show(af us none (some (a:Int))).length+1≤1000 by lia),aA (by rw[aC];show(af us none (some (a:Int))).length+1+(af us (some ((a:Int)+1)) none).length≤1000;lia),rfl,g2L,rfl,q ((af us none (some (a:Int))++[TV.tup xs])++af us (some ((a:Int)+1)) none) os ?_ (by lia)⟩;rw[gN,gc,kT (by rw[aU];lia),nE,eW (by lia)]
theorem MB:ZT 61 82 ["step","sides","word"] 3 2 1 yU Kh Ki Kj Kk Kl:=by
 refine⟨by kernel_rfl,?_⟩;intro ts Q ⟨d,Ss,k,w,e,⟨al,zx⟩,hk,q⟩;subst e;refine⟨rfl,rfl,.inr (.inl ⟨_,⟨_,rfl,zx⟩,λ n hn=>⟨k,hn,?_⟩⟩)⟩
 match k,hk with
 | 0,hk=>cases hk;exact⟨⟨by decide,by decide⟩,rfl,q⟩
 | 1,hk=>cases hk;exact⟨⟨by decide,by decide⟩,⟨by decide,by decide⟩,rfl,q⟩
 | 2,hk=>cases hk;exact⟨⟨by decide,by decide⟩,⟨by decide,by decide⟩,⟨by decide,by decide⟩,rfl,q⟩
 | 3,hk=>cases hk;exact⟨⟨by decide,by decide⟩,⟨by decide,by decide⟩,⟨by decide,by decide⟩,⟨by decide,by decide⟩,rfl,q⟩
 | 4,hk=>cases hk;exact⟨⟨by decide,by decide⟩,⟨by decide,by decide⟩,⟨by decide,by decide⟩,⟨by decide,by decide⟩,⟨by decide,by decide⟩,rfl,q⟩
 | k+5,hk=>cases hk
theorem MC:ZU 62 83 ["program","at","why","found","fields","e","taken"] 7 3 3 2 5 4 5 [3,1,0,2,4] yV Km Ko Kp Kq (.set 6 (.bl true)) Kr:=by
 refine⟨by kernel_rfl,?_⟩;intro ts Q ⟨us,os,k,w,Ss,e,pg,q⟩;subst e;have e2:(!_L.eqT (TV.tup [.int k,.str w]) (TV.tup [.int k,.str w]))=false:=by simp[_L.eqT,_L.eqTL]
 have e3:(!_L.eqT (TV.tup [.int k,.str w,.bl false]) (TV.tup [.int k,.str w,.bl false]))=false:=by simp[_L.eqT,_L.eqTL]
 have d2:_L.dp 9 (TV.tup [.int k,.str w]):=by simp[_L.dp]
 have d3:_L.dp 9 (TV.tup [.int k,.str w,.bl false]):=by simp[_L.dp]
 refine⟨rfl,cl rfl ⟨us,os,k,w,Ss,rfl,pg,rfl,trivial,_,rfl,cl rfl ⟨k,rfl,rfl,g2L,d2,sF e2 ⟨rfl,g0L,rfl,.inr (.inl ⟨_,⟨_,rfl,us,os,k,w,Ss,rfl,pg,rfl⟩,λ n hn=>⟨k,w,hn.symm,rfl,g3L,d3,sF e3 ⟨_,rfl,cl rfl ⟨k,rfl,rfl,.inr (.inl ⟨_,⟨_,rfl,us,os,k,w,Ss,rfl,pg,rfl⟩,λ n hn=>⟨k,w,hn.symm,rfl,q⟩⟩)⟩ rfl⟩⟩⟩)⟩⟩ rfl⟩ rfl⟩
theorem MD:ZX 63 84 ["script","steps","outs","sides","cell","way","more","far","bad","k","step","why"] 12 1 yW Ks:=by
 refine⟨by kernel_rfl,?_⟩;rintro ts Q ⟨ns,rfl,h63,q⟩;refine⟨rfl,?_⟩;obtain⟨ms,e8,m8,_⟩:=Iw ns 3 43;have hmo:bV (2+aq (fQ ns 0) 511):=by rw[aV (by decide)];exact⟨by lia,by lia⟩
 refine cl rfl ⟨ns,0,rfl,by decide,cl rfl ⟨ms,2+aq (fQ ns 0) 511,by show[TV.lst (af (ns.map TV.int) (some ((3:Nat):Int)) (some ((43:Nat):Int))),TV.int (2+aq (fQ ns 0) 511)]=_;rw[e8];rfl,by lia,hmo,λ ds Ss os gd=>?_⟩ rfl⟩ rfl;generalize 2+aq (fQ ns 0) 511=mo at *;obtain⟨_,gl,d0,d40,o0,o8,ob⟩:=id gd;have dS:=gl.1;refine cl rfl ⟨ns,1,rfl,rfl,cl rfl ⟨ns,2,rfl,by decide,rfl,trivial,?_⟩ rfl⟩ rfl;generalize fQ ns 1=c at *;generalize fQ ns 2=c2 at *;have lm:(ds.map stT).length=ds.length:=aj _;have fS:∀S∈Ss,fit S:=λ S hS=>fU (gl.2.1 S hS) hmo;refine sN (λ h=>?_) (λ h6=>⟨trivial,sN (λ h=>?_) (λ h7=>?_)⟩)
 ·refine⟨rfl,g2L,rfl,g1L,(λ z=>nomatch z),⟨by rw[lm];lia,by rw[lm];lia⟩,aA (by rw[lm];show 1 * ((40:Int) - ds.length).toNat≤1000;lia),?_⟩;have er:(List.replicate ((40:Int) - ((ds.map stT).length:Nat)).toNat [stT (.num 7)]).flatten=(List.replicate (40 - ds.length) (Stp.num 7)).map stT:=by rw[lm,show((40:Int) - (ds.length:Nat)).toNat=40 - ds.length by lia,yY,sG]
  have lr:(List.replicate ((40:Int) - ((ds.map stT).length:Nat)).toNat [stT (.num 7)]).flatten.length=40 - ds.length:=by rw[er,aj,dH]
  refine⟨aA (show(ds.map stT).length+(List.replicate ((40:Int) - ((ds.map stT).length:Nat)).toNat [stT (.num 7)]).flatten.length≤1000 by rw[lr,lm];lia),cl rfl ⟨c,40,rfl,λ u hu=>?_⟩ rfl⟩;obtain⟨_,xs,_,rfl,_⟩:=id hu;have ll:((ds++List.replicate (40 - ds.length) (Stp.num 7)).map stT).length=40:=by rw[aj,aC,dH];lia
  have eu:((ds.map stT++(List.replicate ((40:Int) - ((ds.map stT).length:Nat)).toNat [stT (.num 7)]).flatten)++[TV.tup xs,stT (.num 5)])=(ds++List.replicate (40 - ds.length) (Stp.num 7)).map stT++[TV.tup xs,stT (.num 5)]:=by rw[er,cq]
  have hp:Prg ((ds.map stT++(List.replicate ((40:Int) - ((ds.map stT).length:Nat)).toNat [stT (.num 7)]).flatten)++[TV.tup xs,stT (.num 5)]) os 40 "many" (Ss++List.replicate (40 - ds.length) []):=IZ hmo gl d40 (xs:=xs) (by lia) (by rw[eu,List.take_left' ll]) (by rw[eu,ef (by lia),ll];rfl);exact⟨rfl,g2L,rfl,g2L,aA (show(ds.map stT++(List.replicate ((40:Int) - ((ds.map stT).length:Nat)).toNat [stT (.num 7)]).flatten).length+2≤1000 by rw[aC,lr,lm];lia),rfl,rfl,g2L,cl rfl ⟨_,os,40,"many",_,rfl,hp,rfl,q⟩ rfl⟩
 ·refine cl rfl ⟨c,rfl,λ f f0 f1=>⟨rfl,rfl,g0L,rfl,g1L,aA (by rw[ag];show _+1≤1000;lia),rfl,g1L,aA (by rw[ag];show 1+_≤1000;lia),rfl,g1L,(λ z=>nomatch z),⟨by decide,by decide⟩,aA (aN rfl),rfl,g4L,⟨by decide,by decide,by decide⟩,by decide,atN (cP _) rfl λ x hx=>?_⟩⟩ rfl
  obtain⟨os1,rfl,l1,h1⟩:∃os1:LIq,x=tI os1/\os1.length≤500/\(os1.length=0\/8 < os1.length\/∃o∈os1,o < 0\/(ds.length:Int)≤o):=by
   simp only[bc,cJ,TV.fz,aM,av,bh,aY,dD] at hx
   rcases hx with rfl | rfl | rfl | rfl
   ·exact⟨[],rfl,by decide,.inl rfl⟩
   ·refine⟨os++[(((ds.map stT).length:Nat):Int)+f],by unfold tI;rw[cq];rfl,by rw[aC,cK];lia,.inr (.inr ⟨_,bM _ cN,.inr (by rw[lm];lia)⟩)⟩
   ·exact⟨(-1 - f)::os,rfl,by rw[List.length_cons];lia,.inr (.inr ⟨_,cN,.inl (by lia)⟩)⟩
   ·exact⟨List.replicate 9 0,rfl,by decide,.inr (.inl (by decide))⟩
  exact⟨rfl,rfl,g2L,cl rfl ⟨ds.map stT,os1,ds.length,"out",Ss,by rw[← lm];rfl,Ja hmo gl d40 l1 h1,rfl,q⟩ rfl⟩
 have k0:=cM (ax c 6) (show(ds.length:Int)≠0 by lia);have k1:=cV (ax c 6) (show(0:Int) < ds.length by lia);obtain⟨k,hk⟩:∃k:Nat,ax c 6 % (ds.length:Int)=k:=⟨_,(eI k0).symm⟩;refine⟨⟨by decide,by decide,by decide⟩,by rw[lm];lia,rfl,?_⟩;rw[lm,aV (i:=ax c 6) (by lia),hk];have kl:k < ds.length:=by lia
 have ek:af (Ss.map tI) none (some (k:Int))=(Ss.take k).map tI:=by rw[gN,kW]
 refine cl rfl ⟨c,k,Ss,rfl,by lia,by lia,fS,λ xs w sp=>fX (λ ρ'=>ρ'=[some (lI ns),some (.tup (ds.map stT)),some (tI os),some (.lst (Ss.map tI)),some (.int c),some (.int (aq c2 8)),none,none,none,some (.int k),some (.tup xs),some (.str w)]) ⟨trivial,?_⟩ (λ ρ' h=>?_)⟩ rfl
 ·rcases sp with ⟨nf,rfl⟩ | ⟨d,j,e,fs,hw⟩
  ·exact rfl
  ·have e':xs=stI d:=TV.tup.inj e;subst e'
   have wn:w ≠ "name" := by
    match j,hw with
    | 0,hw=>cases hw;decide
    | 1,hw=>cases hw;decide
    | 2,hw=>cases hw;decide
    | 3,hw=>cases hw;decide
    | 4,hw=>cases hw;decide
    | j+5,hw=>cases hw
   exact sT (by show(!decide (w="name"))=true;rw[aJ wn];rfl) (cl rfl ⟨d,Ss.take k,j,w,by show[TV.tup (stI d),TV.lst (af (Ss.map tI) none (some (k:Int)))]=_;rw[ek];rfl,fs,hw,trivial,sF (by simp[TV.fz,_L.eqT]) rfl⟩ rfl)
 subst h;have lt:((ds.map stT).take k).length=k:=by rw[aU,lm];lia
 have la:(af (ds.map stT) none (some (k:Int))).length≤40:=by rw[gN,lt];lia
 have lb:(af (ds.map stT) (some ((k:Int)+1)) none).length≤40:=by rw[rQ,cg,lm];lia
 obtain⟨us,eu⟩:∃us,us=(af (ds.map stT) none (some (k:Int))++[TV.tup xs])++af (ds.map stT) (some ((k:Int)+1)) none:=⟨_,rfl⟩;have u1:us.take k=(ds.take k).map stT:=by rw[eu,gN,gc,List.take_left' lt,kW]
 have u2:us[k]?=some (.tup xs):=by rw[eu,gN,gc,ef (by lia),lt,s1h];rfl
 have ul:us.length=ds.length:=by rw[eu,aC,aC,gN,rQ,lt,cg,lm,cK];lia
 refine⟨rfl,g1L,aA (show(af (ds.map stT) none (some (k:Int))).length+1≤1000 by lia),aA (by rw[aC];show(af (ds.map stT) none (some (k:Int))).length+1+(af (ds.map stT) (some ((k:Int)+1)) none).length≤1000;lia),rfl,rfl,g2L,cl rfl ⟨us,os,k,w,Ss.take k,by rw[eu];rfl,xJ hmo gl d40 kl sp (by lia) u1 u2,?_⟩ rfl⟩;refine cl rfl ⟨ns,2,rfl,⟨by decide,by decide,by decide⟩,cl rfl ⟨us,os,k,_,by rw[eu];rfl,by lia,by lia,o0,o8,λ us1 os1 e1 l1=>cl rfl ⟨us1,os1,k,w,Ss.take k,rfl,xJ hmo gl d40 kl sp (by lia) ?_ ?_,rfl,q⟩ rfl⟩ rfl⟩ rfl
 ·have z:=bF (List.take k) e1;rw[nE,nE,eW (by lia)] at z;rw[z,u1]
 ·have z:=bF (λ l=>l[k]?) e1;simp only[kI,if_pos (gh k)] at z;rw[z,u2]
noncomputable def pT(p:Str × List (Str × Int)):TV:=.tup [.str p.1,.tup (p.2.map λ q=>.tup [.str q.1,.int q.2])]
theorem yZ{K:FG}:∀ {fs:List (Str × Int)}{xs:List V},qU K fs xs->RpL K F H (fs.map λ q=>.tup [.str q.1,.int q.2]) xs
 | [],[],_=>rfl
 | [],_::_,h=>h.elim
 | _::_,[],h=>h.elim
 | f::fs,y::ys,⟨⟨a,e,k⟩,h2⟩=>⟨y,ys,rfl,⟨a,_,e,k.sq,_,_,rfl,rfl,_,_,rfl,rfl,rfl⟩,yZ h2⟩
theorem za{K:FG}:∀ {fs:List (Str × List (Str × Int))}{kvs:LA},qV K fs kvs->∀y t,dlk (fs.map pT) y=some t->∃a,kvs.lookup y=some a/\∀F H,Rp K F H t (.ref a)
 | [],_,_,y,t,e=>nomatch e
 | _::_,[],h,_,_,_=>h.elim
 | (g,gs)::fs,(p,pa)::ps,h,y,t,e=>by
  obtain⟨⟨e1,xs,k1,k2⟩,h2⟩:=h;cases (show p=g from e1);have e:(if decide (g=y)=true then some (TV.tup (gs.map λ q=>.tup [.str q.1,.int q.2])) else dlk (fs.map pT) y)=some t:=e;rw[gk];by_cases c:g=y
  ·subst c;rw[if_pos (bw rfl)] at e;cases e;rw[show(g == g)=true from beq_self_eq_true g];exact⟨pa,rfl,λ F H=>⟨pa,xs,rfl,k1.sq,yZ k2⟩⟩
  ·rw[if_neg (by rw[aJ c];decide)] at e;rw[show(y == g)=false from iO.mpr λ z=>c z.symm];exact za h2 y t e
theorem kts{K:FG}{sl:AV}(h:K.lookup a=some ⟨.type "tuple",none,.seq #[.str x t,.int i u] n,sl⟩):KTup K a [.str x,.int i]:=kM h (small (show(2:Nat)≤1000 by decide)) (.cons ⟨_,rfl⟩ (.cons ⟨_,rfl⟩ .nil))
theorem ktr1{K:FG}{sl:AV}(h:K.lookup a=some ⟨.type "tuple",none,.seq #[.ref a0] n,sl⟩):KTup K a [.ref a0]:=kM h (small (show(1:Nat)≤1000 by decide)) (.cons rfl (.nil))
theorem ktr2{K:FG}{sl:AV}(h:K.lookup a=some ⟨.type "tuple",none,.seq #[.ref a0,.ref a1] n,sl⟩):KTup K a [.ref a0,.ref a1]:=kM h (small (show(2:Nat)≤1000 by decide)) (.cons rfl (.cons rfl (.nil)))
theorem ktr3{K:FG}{sl:AV}(h:K.lookup a=some ⟨.type "tuple",none,.seq #[.ref a0,.ref a1,.ref a2] n,sl⟩):KTup K a [.ref a0,.ref a1,.ref a2]:=kM h (small (show(3:Nat)≤1000 by decide)) (.cons rfl (.cons rfl (.cons rfl (.nil))))
theorem ktr5{K:FG}{a a0 a1 a2 a3 a4:Addr}{sl:AV}(h:K.lookup a=some ⟨.type "tuple",none,.seq #[.ref a0,.ref a1,.ref a2,.ref a3,.ref a4] n,sl⟩):KTup K a [.ref a0,.ref a1,.ref a2,.ref a3,.ref a4]:=kM h (small (show(5:Nat)≤1000 by decide)) (.cons rfl (.cons rfl (.cons rfl (.cons rfl (.cons rfl (.nil))))))
theorem pt_mk{w:World}{K:FG}{t0 t1 t2 t3 t4 t5 t6 t7 t8 t9 t10 t11 t12 t13 t14:Tok}{a0 a1 a2 a3 a4 a5 a6 a7 a8 a9 a10 a11 a12 a13 a14:Addr}
  (gPT:W.nsIn K mainGlobals "PARTS"=some (some (.ref dPT))) (dPT0:(dPT == sysModules)=false)
  (lPT:K.lookup dPT=some { cls:=.type "dict",data:=.dict #[⟨PyData.keyHash w.params "in",.str "in" t0,.ref a0⟩,⟨PyData.keyHash w.params "num",.str "num" t1,.ref a1⟩,⟨PyData.keyHash w.params "count",.str "count" t2,.ref a2⟩,⟨PyData.keyHash w.params "each",.str "each" t3,.ref a3⟩,⟨PyData.keyHash w.params "pair",.str "pair" t4,.ref a4⟩,⟨PyData.keyHash w.params "pick",.str "pick" t5,.ref a5⟩,⟨PyData.keyHash w.params "turn",.str "turn" t6,.ref a6⟩,⟨PyData.keyHash w.params "flip",.str "flip" t7,.ref a7⟩,⟨PyData.keyHash w.params "cut",.str "cut" t8,.ref a8⟩,⟨PyData.keyHash w.params "spread",.str "spread" t9,.ref a9⟩,⟨PyData.keyHash w.params "lay",.str "lay" t10,.ref a10⟩,⟨PyData.keyHash w.params "join",.str "join" t11,.ref a11⟩,⟨PyData.keyHash w.params "fetch",.str "fetch" t12,.ref a12⟩,⟨PyData.keyHash w.params "fold",.str "fold" t13,.ref a13⟩,⟨PyData.keyHash w.params "run",.str "run" t14,.ref a14⟩] nPT })(l0:KTup K a0 [.ref a0_0])
  (l0_0:KTup K a0_0 [.str "sides",.int 1])(l1:KTup K a1 [.ref a1_0])
  (l1_0:KTup K a1_0 [.str "number",.int 1])(l2:KTup K a2 [.ref a2_0,.ref a2_1])
  (l2_0:KTup K a2_0 [.str "small",.int 2])
  (l2_1:KTup K a2_1 [.str "sides",.int 1])(l3:KTup K a3 [.ref a3_0,.ref a3_1])
  (l3_0:KTup K a3_0 [.str "word",.int 1])
  (l3_1:KTup K a3_1 [.str "step",.int 2])(l4:KTup K a4 [.ref a4_0,.ref a4_1,.ref a4_2])
  (l4_0:KTup K a4_0 [.str "word",.int 1])
  (l4_1:KTup K a4_1 [.str "step",.int 2])
  (l4_2:KTup K a4_2 [.str "step",.int 3])(l5:KTup K a5 [.ref a5_0,.ref a5_1,.ref a5_2])
  (l5_0:KTup K a5_0 [.str "step",.int 1])
  (l5_1:KTup K a5_1 [.str "step",.int 2])
  (l5_2:KTup K a5_2 [.str "step",.int 3])(l6:KTup K a6 [.ref a6_0,.ref a6_1])
  (l6_0:KTup K a6_0 [.str "step",.int 1])
  (l6_1:KTup K a6_1 [.str "sides",.int 2])(l7:KTup K a7 [.ref a7_0,.ref a7_1])
  (l7_0:KTup K a7_0 [.str "step",.int 1])
  (l7_1:KTup K a7_1 [.str "small",.int 2])(l8:KTup K a8 [.ref a8_0,.ref a8_1,.ref a8_2,.ref a8_3,.ref a8_4])
  (l8_0:KTup K a8_0 [.str "step",.int 1])
  (l8_1:KTup K a8_1 [.str "small",.int 2])
  (l8_2:KTup K a8_2 [.str "small",.int 3])
  (l8_3:KTup K a8_3 [.str "small",.int 4])
  (l8_4:KTup K a8_4 [.str "small",.int 5])(l9:KTup K a9 [.ref a9_0,.ref a9_1,.ref a9_2])
  (l9_0:KTup K a9_0 [.str "step",.int 1])
  (l9_1:KTup K a9_1 [.str "small",.int 2])
  (l9_2:KTup K a9_2 [.str "small",.int 3])(l10:KTup K a10 [.ref a10_0,.ref a10_1])
  (l10_0:KTup K a10_0 [.str "step",.int 1])
  (l10_1:KTup K a10_1 [.str "sides",.int 2])(l11:KTup K a11 [.ref a11_0,.ref a11_1,.ref a11_2])
  (l11_0:KTup K a11_0 [.str "step",.int 1])
  (l11_1:KTup K a11_1 [.str "step",.int 2])
  (l11_2:KTup K a11_2 [.str "small",.int 3])(l12:KTup K a12 [.ref a12_0,.ref a12_1])
  (l12_0:KTup K a12_0 [.str "step",.int 1])
  (l12_1:KTup K a12_1 [.str "step",.int 2])(l13:KTup K a13 [.ref a13_0,.ref a13_1,.ref a13_2])
  (l13_0:KTup K a13_0 [.str "word",.int 1])
  (l13_1:KTup K a13_1 [.str "step",.int 2])
  (l13_2:KTup K a13_2 [.str "small",.int 3])(l14:KTup K a14 [.ref a14_0,.ref a14_1,.ref a14_2])
  (l14_0:KTup K a14_0 [.str "word",.int 1])
  (l14_1:KTup K a14_1 [.str "step",.int 2])
  (l14_2:KTup K a14_2 [.str "small",.int 3]):∃d,W.nsIn K mainGlobals "PARTS"=some (some (.ref d))/\wG P w K d:=⟨_,gPT,⟨_,KTab.mk (l:=[("in",t0,a0),("num",t1,a1),("count",t2,a2),("each",t3,a3),("pair",t4,a4),("pick",t5,a5),("turn",t6,a6),("flip",t7,a7),("cut",t8,a8),("spread",t9,a9),("lay",t10,a10),("join",t11,a11),("fetch",t12,a12),("fold",t13,a13),("run",t14,a14)]) dPT0 lPT rfl (show(["in","num","count","each","pair","pick","turn","flip","cut","spread","lay","join","fetch","fold","run"]:List Str).Nodup by decide +kernel),⟨⟨rfl,_,l0,⟨⟨_,rfl,l0_0⟩,trivial⟩⟩,⟨⟨rfl,_,l1,⟨⟨_,rfl,l1_0⟩,trivial⟩⟩,⟨⟨rfl,_,l2,⟨⟨_,rfl,l2_0⟩,⟨⟨_,rfl,l2_1⟩,trivial⟩⟩⟩,⟨⟨rfl,_,l3,⟨⟨_,rfl,l3_0⟩,⟨⟨_,rfl,l3_1⟩,trivial⟩⟩⟩,⟨⟨rfl,_,l4,⟨⟨_,rfl,l4_0⟩,⟨⟨_,rfl,l4_1⟩,⟨⟨_,rfl,l4_2⟩,trivial⟩⟩⟩⟩,⟨⟨rfl,_,l5,⟨⟨_,rfl,l5_0⟩,⟨⟨_,rfl,l5_1⟩,⟨⟨_,rfl,l5_2⟩,trivial⟩⟩⟩⟩,⟨⟨rfl,_,l6,⟨⟨_,rfl,l6_0⟩,⟨⟨_,rfl,l6_1⟩,trivial⟩⟩⟩,⟨⟨rfl,_,l7,⟨⟨_,rfl,l7_0⟩,⟨⟨_,rfl,l7_1⟩,trivial⟩⟩⟩,⟨⟨rfl,_,l8,⟨⟨_,rfl,l8_0⟩,⟨⟨_,rfl,l8_1⟩,⟨⟨_,rfl,l8_2⟩,⟨⟨_,rfl,l8_3⟩,⟨⟨_,rfl,l8_4⟩,trivial⟩⟩⟩⟩⟩⟩,⟨⟨rfl,_,l9,⟨⟨_,rfl,l9_0⟩,⟨⟨_,rfl,l9_1⟩,⟨⟨_,rfl,l9_2⟩,trivial⟩⟩⟩⟩,⟨⟨rfl,_,l10,⟨⟨_,rfl,l10_0⟩,⟨⟨_,rfl,l10_1⟩,trivial⟩⟩⟩,⟨⟨rfl,_,l11,⟨⟨_,rfl,l11_0⟩,⟨⟨_,rfl,l11_1⟩,⟨⟨_,rfl,l11_2⟩,trivial⟩⟩⟩⟩,⟨⟨rfl,_,l12,⟨⟨_,rfl,l12_0⟩,⟨⟨_,rfl,l12_1⟩,trivial⟩⟩⟩,⟨⟨rfl,_,l13,⟨⟨_,rfl,l13_0⟩,⟨⟨_,rfl,l13_1⟩,⟨⟨_,rfl,l13_2⟩,trivial⟩⟩⟩⟩,⟨⟨rfl,_,l14,⟨⟨_,rfl,l14_0⟩,⟨⟨_,rfl,l14_1⟩,⟨⟨_,rfl,l14_2⟩,trivial⟩⟩⟩⟩,trivial⟩⟩⟩⟩⟩⟩⟩⟩⟩⟩⟩⟩⟩⟩⟩⟩⟩
noncomputable def ME(s:Stmt):List Stmt:=match s with
 | .ClassDef _ _ _ b _ _ _ _ _ _ _=>b
 | _=>[]
abbrev iM:Stmt:=(ME (top 7)).getD 0 (.Pass ⟨0,0,0,0⟩)
theorem MF{K:FG}{mg:SV}(F:Fun K "__init__" "BadStep.__init__" iM f fd)(gL:mg "LoomError"=some (.ref C0))(h1:W.specialIn K (.ref C0) "__getattribute__"=some (some (.builtin "type.__getattribute__")))(h2:W.readsIn K C0 (.type "type")=true)(h3:W.findCls K (.ref C0) (.type "type") "__init__"=some (.val (.builtin "ValueError.__init__")))
  (h4:W.handedIn (.builtin "ValueError.__init__")=true):FnOk P w K mg base CX0 7 f fd ["self","text","at","why"] (wf K):=by
 have sc:FnScope ["self","text","at","why"] ["self","text","at","why"] (aD iM):=⟨rfl,rfl,rfl,by decide +kernel,rfl,by decide +kernel,by decide +kernel⟩;refine F.ok sc (λ vs H Q E h=>?_) (λ cdv A outer s H vs Q E hr h=>?_)
 ·obtain⟨a,C,tx,x,y,rfl,_⟩:=h;rfl
 obtain⟨a,C,tx,x,y,rfl,ha,hc,hA,n1,n2,q⟩:=h;refine⟨_,(bS (jJ (EH mM (by rfl) gL h1 h2 h3 h4 (bI (pv 0) (bI (pv 1) pa_nil)))) (bS (EJ (pv 0) (pv 2) rfl) (lh (EL (pv 0) (pv 3) rfl)))),?_⟩;refine⟨a,C,none,_,rfl,ha,hc,small (aN rfl),a,C,rfl,ha,hA,n1,λ dx hd ne=>⟨a,C,dx,[(Str.ofString "at",x)],rfl,?_⟩⟩;have hdx:upd (upd H dx (cQ dx [(Str.ofString "at",x)])) a (aP a C (some dx)) dx=some (cQ dx [(Str.ofString "at",x)]):=by rw[ay ne,bz]
 exact⟨bz,hdx,hA,n2,by simp,q dx _ hd ne (by rw[ay (bo ne),bz]) (by rw[bz];rfl) λ b n1 n2=>by rw[ay n2,ay n1,ay n2]⟩
theorem in_ex{K:FG}{oc kV doc pm cdv ct:Value}{od an:OA}{osl:AV}(a:W.findIn K (.ref C) "__init__"=some (some (.ref f)))(l:K.lookup f=some ⟨oc,od,.func (W.fnOf "__init__" "BadStep.__init__" (gW iM) (bu iM) (aD iM) .none kV doc pm an cdv ct),osl⟩)(c:W.codeIn K cdv "BadStep.__init__"=true)(k:W.keepIn K (.ref f)=true)(i:W.isFn K (.ref f)=true):∃f fd,W.findIn K (.ref C) "__init__"=some (some (.ref f))/\Fun K "__init__" "BadStep.__init__" iM f fd/\W.isFn K (.ref f)=true:=⟨_,_,a,uo l c k,i⟩
noncomputable abbrev nB(K:FG)(x:Str):Prop:=W.nsIn K mainGlobals x=some none
structure Sv (P:Program)(w:World)(K:FG)(C0 C1 C2 C3 C4 C5 CB:Addr):Prop where
 n0:W.nsIn K mainGlobals "NoWord"=some (some (.ref C0))
 n1:W.nsIn K mainGlobals "NoSide"=some (some (.ref C1))
 n2:W.nsIn K mainGlobals "Beyond"=some (some (.ref C2))
 n3:W.nsIn K mainGlobals "Unlike"=some (some (.ref C3))
 n4:W.nsIn K mainGlobals "TooLarge"=some (some (.ref C4))
 n5:W.nsIn K mainGlobals "LoomError"=some (some (.ref C5))
 nB_:W.nsIn K mainGlobals "BadStep"=some (some (.ref CB))
 x0:W.excIn K C0 [.type "ValueError",.type "Exception",.type "BaseException",.type "object"] "ValueError.__new__"=true
 x1:W.excIn K C1 [.type "ValueError",.type "Exception",.type "BaseException",.type "object"] "ValueError.__new__"=true
 x2:W.excIn K C2 [.type "ValueError",.type "Exception",.type "BaseException",.type "object"] "ValueError.__new__"=true
 x3:W.excIn K C3 [.type "ValueError",.type "Exception",.type "BaseException",.type "object"] "ValueError.__new__"=true
 x4:W.excIn K C4 [.type "ValueError",.type "Exception",.type "BaseException",.type "object"] "ValueError.__new__"=true
 x5:W.excIn K C5 [.type "ValueError",.type "Exception",.type "BaseException",.type "object"] "ValueError.__new__"=true
 e0_0:W.exmOne K (.ref C0) (.ref C0)=some true
 e1_0:W.exmOne K (.ref C1) (.ref C0)=some false
 e1_1:W.exmOne K (.ref C1) (.ref C1)=some true
 e2_0:W.exmOne K (.ref C2) (.ref C0)=some false
 e2_1:W.exmOne K (.ref C2) (.ref C1)=some false
 e2_2:W.exmOne K (.ref C2) (.ref C2)=some true
 e3_0:W.exmOne K (.ref C3) (.ref C0)=some false
 e3_1:W.exmOne K (.ref C3) (.ref C1)=some false
 e3_2:W.exmOne K (.ref C3) (.ref C2)=some false
 e3_3:W.exmOne K (.ref C3) (.ref C3)=some true
 e4_0:W.exmOne K (.ref C4) (.ref C0)=some false
 e4_1:W.exmOne K (.ref C4) (.ref C1)=some false
 e4_2:W.exmOne K (.ref C4) (.ref C2)=some false
 e4_3:W.exmOne K (.ref C4) (.ref C3)=some false
 e4_4:W.exmOne K (.ref C4) (.ref C4)=some true
 eB:W.exmOne K (.ref CB) (.ref C5)=some true
 fI:∃f fd,W.findIn K (.ref CB) "__init__"=some (some (.ref f))/\Fun K "__init__" "BadStep.__init__" iM f fd/\W.isFn K (.ref f)=true
 kC:W.keepIn K (.ref CB)=true
 clsI:im K CB [.type "ValueError",.type "Exception",.type "BaseException",.type "object"] "ValueError.__new__"=true
 ovI:(W.clsIn K CB).any (λ cd=>cd.hasDict && ip cd.mro)=true
 saI:W.findIn K (.ref CB) "__setattr__"=some (some (.builtin "object.__setattr__"))
 gaI:W.findIn K (.ref CB) "__getattribute__"=some (some (.builtin "BaseException.__getattribute__"))
 m1:W.findIn K (.ref CB) (Str.ofString "at")=some none
 m2:W.findIn K (.ref CB) (Str.ofString "why")=some none
 m3:W.findIn K (.ref CB) (Str.ofString "__getattr__")=some none
 kc:(W.clsIn K CB).isSome=true
 kcl:W.findIn K (.ref CB) "__class__"=some (some (.builtin "object.__class__"))
 kmo:W.mroIn K CB (.type "object")=some true
 kmb:W.mroIn K CB (.type "BaseException")=some true
 ki:W.kitAny K (.ref CB) [.ref C3,.ref C1,.ref C0,.ref C2,.ref C4]=some false
 h1:W.specialIn K (.ref C5) "__getattribute__"=some (some (.builtin "type.__getattribute__"))
 h2:W.readsIn K C5 (.type "type")=true
 h3:W.findCls K (.ref C5) (.type "type") "__init__"=some (.val (.builtin "ValueError.__init__"))
 g0:Gx K "wrapped" (top 11)
 g1:Gx K "sign_of" (top 12)
 g2:Gx K "quotient" (top 13)
 g3:Gx K "remainder" (top 14)
 g4:Gx K "once" (top 15)
 g5:Gx K "twice" (top 16)
 g6:Gx K "neutral" (top 17)
 g7:Gx K "arg_places" (top 22)
 g8:Gx K "args_of" (top 23)
 g9:Gx K "amount" (top 27)
 g10:Gx K "breadth" (top 28)
 g11:Gx K "allowed" (top 29)
 g12:Gx K "changed_at" (top 30)
 g13:Gx K "added_at" (top 31)
 g14:Gx K "dropped_at" (top 32)
 g15:Gx K "ask_side" (top 34)
 g16:Gx K "turned_sides" (top 35)
 g17:Gx K "flipped_sides" (top 36)
 g18:Gx K "cut_sides" (top 37)
 g19:Gx K "spread_sides" (top 38)
 g20:Gx K "laid_sides" (top 39)
 g21:Gx K "joined_sides" (top 40)
 g22:Gx K "led_sides" (top 41)
 g23:Gx K "paired_sides" (top 42)
 g24:Gx K "picked_sides" (top 43)
 g25:Gx K "fetched_sides" (top 44)
 g26:Gx K "folded_sides" (top 45)
 g27:Gx K "counted_sides" (top 46)
 g28:Gx K "ask_word" (top 48)
 g29:Gx K "first_sides" (top 49)
 g30:Gx K "moved_sides" (top 50)
 g31:Gx K "step_sides" (top 51)
 g32:Gx K "step_told" (top 52)
 g33:Gx K "program_told" (top 53)
 g34:Gx K "first_fault" (top 54)
 g35:Gx K "checked" (top 55)
 g36:Gx K "_law_whole" (top 57)
 g37:Gx K "_law_cell_at" (top 58)
 g38:Gx K "_law_size" (top 59)
 g39:Gx K "_law_wide" (top 60)
 g40:Gx K "_law_number" (top 61)
 g41:Gx K "_law_recent" (top 62)
 g42:Gx K "_law_begun" (top 63)
 g43:Gx K "_law_led" (top 64)
 g44:Gx K "_law_lifted" (top 65)
 g45:Gx K "_law_laid" (top 66)
 g46:Gx K "_law_moved" (top 67)
 g47:Gx K "_law_both" (top 68)
 g48:Gx K "_law_met" (top 69)
 g49:Gx K "_law_step" (top 70)
 g50:Gx K "_law_program" (top 71)
 g51:Gx K "_law_far" (top 72)
 g52:Gx K "_law_unnamed" (top 73)
 g53:Gx K "_law_bad_word" (top 74)
 g54:Gx K "_law_bad_side" (top 75)
 g55:Gx K "_law_bad_rows" (top 76)
 g56:Gx K "_law_joins" (top 77)
 g57:Gx K "_law_bad_pair" (top 78)
 g58:Gx K "_law_too_large" (top 79)
 g59:Gx K "_law_spoiled" (top 80)
 g60:Gx K "_law_later" (top 81)
 g61:Gx K "_law_refused" (top 82)
 g62:Gx K "_law_told" (top 83)
 g63:Gx K "law" (top 84)
 blen:nB K "len"
 btuple:nB K "tuple"
 blist:nB K "list"
 bsum:nB K "sum"
 bmax:nB K "max"
 bmin:nB K "min"
 babs:nB K "abs"
 bint:nB K "int"
 bstr:nB K "str"
 bsorted:nB K "sorted"
 bany:nB K "any"
 ball:nB K "all"
 bisinstance:nB K "isinstance"
 bbool:nB K "bool"
 brange:nB K "range"
 bzip:nB K "zip"
 benumerate:nB K "enumerate"
 breversed:nB K "reversed"
 qLOW:∃t,W.nsIn K mainGlobals "LOW"=some (some (.int (-9223372036854775808) t))
 qHIGH:∃t,W.nsIn K mainGlobals "HIGH"=some (some (.int 9223372036854775807 t))
 qMOST_SIDES:∃t,W.nsIn K mainGlobals "MOST_SIDES"=some (some (.int 6 t))
 qMOST_BREADTH:∃t,W.nsIn K mainGlobals "MOST_BREADTH"=some (some (.int 512 t))
 qMOST_STEPS:∃t,W.nsIn K mainGlobals "MOST_STEPS"=some (some (.int 40 t))
 qMOST_OUTS:∃t,W.nsIn K mainGlobals "MOST_OUTS"=some (some (.int 8 t))
 qPT:∃d,W.nsIn K mainGlobals "PARTS"=some (some (.ref d))/\wG P w K d
theorem all_mk{l:W.OpenLaw}{K:FG}(X:K.In h)(G:h.Ns mainGlobals mg)(hfa:mg "law"=some (.ref fa))(S:Sv l.prog w K C0 C1 C2 C3 C4 C5 CB):∃fd:FuncData,(∀(s:Shared) (v:Value),BindsTo s fd ⟨[v],[]⟩ [("script",v)])/\∀base:Heap,K.In base->base.Ns mainGlobals mg->FnOk l.prog w K mg base CX0 64 fa fd ["script"] (jz K (λ _=>True)):=by
 have hm:∀ {x:Str}{v:Option Value},W.nsIn K mainGlobals x=some v->mg x=v:=λ {x v} z=>by cases v with | none=>exact W.mg_none_of X G z | some u=>exact s1n X G z
 obtain⟨f,fd,gL⟩:=S.g63;have e:=hfa.symm.trans (hm gL.a);cases e;obtain⟨_,_,kVL,dcL,pmL,anL,cdL,ctL,_,eL,_,_⟩:=gL.F.ex;refine⟨fd,λ s v=>by rw[eL];exact .of_eq rfl,λ base KB GB=>?_⟩;have M:MOk l.prog w K mg (λ _=>True) GT gs:=⟨⟨λ _ _ _ _ _=>trivial,λ _ _ _ _ _ _=>trivial⟩,λ g x t h1 h2 nb=>?_,λ g x t h1 h2=>?_,λ x hx=>?_⟩
 ·have C:CM l.prog w K mg base (λ _=>True) GT gs DL 0:=⟨Cals.z,M,hm⟩;obtain⟨fI,dI,aI,FI,iI⟩:=S.fI;have BD:BdOk l.prog w K mg base CB:=⟨hm S.nB_,⟨S.ovI,S.saI,S.gaI⟩,S.m1,S.m2,fI,dI,⟨S.clsI,aI,iI,S.kC⟩,MF FI (hm S.n5) S.h1 S.h2 S.h3 (by decide +kernel),FI.binds λ _ _ _ _ _ _ us hl=>by match us,hl with | [_,_,_,_],_=>rfl⟩
  have N:CN l.prog w K mg base (λ _=>True) GT gs DL X1L X2L CSL (λ k=>[C0,C1,C2,C3,C4,C5].getD k CB) CB 0:=⟨C,(λ i h=>nomatch h),(λ i h=>nomatch h),(λ k x e=>by
   match k,e with
   | 0,e=>cases e;exact⟨S.n0,S.x0⟩
   | 1,e=>cases e;exact⟨S.n1,S.x1⟩
   | 2,e=>cases e;exact⟨S.n2,S.x2⟩
   | 3,e=>cases e;exact⟨S.n3,S.x3⟩
   | 4,e=>cases e;exact⟨S.n4,S.x4⟩
   | 5,e=>cases e;exact⟨S.n5,S.x5⟩
   | n+6,e=>cases e),BD,rfl,rfl⟩
  have EX:∀k c,c≤k->k < 5->W.exmOne K (.ref ([C0,C1,C2,C3,C4,C5].getD k CB)) (.ref ([C0,C1,C2,C3,C4,C5].getD c CB))=some (isC k c):=λ k c h1 h2=>by
   match k,c,h1,h2 with
   | 0,0,_,_=>exact S.e0_0
   | 1,0,_,_=>exact S.e1_0
   | 1,1,_,_=>exact S.e1_1
   | 2,0,_,_=>exact S.e2_0
   | 2,1,_,_=>exact S.e2_1
   | 2,2,_,_=>exact S.e2_2
   | 3,0,_,_=>exact S.e3_0
   | 3,1,_,_=>exact S.e3_1
   | 3,2,_,_=>exact S.e3_2
   | 3,3,_,_=>exact S.e3_3
   | 4,0,_,_=>exact S.e4_0
   | 4,1,_,_=>exact S.e4_1
   | 4,2,_,_=>exact S.e4_2
   | 4,3,_,_=>exact S.e4_3
   | 4,4,_,_=>exact S.e4_4
   | 0,c+1,h1,_=>lia
   | 1,c+2,h1,_=>lia
   | 2,c+3,h1,_=>lia
   | 3,c+4,h1,_=>lia
   | 4,c+5,h1,_=>lia
   | k+5,_,_,h2=>lia
  replace N:=N.d S.g0 zw0;replace N:=N.d S.g1 zw1;replace N:=N.d S.g2 zw2;replace N:=N.d S.g3 zw3;replace N:=N.r S.g4 zw4 zr4;replace N:=N.r S.g5 zw5 zr5;replace N:=N.r S.g6 zw6 zr6;replace N:=N.d S.g7 zw7;replace N:=N.d S.g8 zw8;replace N:=N.d S.g9 zw9;replace N:=N.d S.g10 KP;replace N:=N.r S.g11 KR KQ;replace N:=N.d S.g12 KS;replace N:=N.d S.g13 KU;replace N:=N.d S.g14 KW;replace N:=N.r S.g15 KZ KY;replace N:=N.r S.g16 Lb La;replace N:=N.r S.g17 Ld Lc;replace N:=N.r S.g18 Lf Le;replace N:=N.r S.g19 Lh Lg;replace N:=N.r S.g20 Lj Li;replace N:=N.r S.g21 Ll Lk;replace N:=N.r S.g22 Ln Lm;replace N:=N.r S.g23 Lp Lo;replace N:=N.r S.g24 Lr Lq;replace N:=N.r S.g25 Lv Lu;replace N:=N.r S.g26 Lx Lw;replace N:=N.r S.g27 Lz Ly;replace N:=N.r S.g28 LC LB;replace N:=N.r S.g29 LG LD;replace N:=N.r S.g30 LK LJ;replace N:=N.r S.g31 LN LM;replace N:=N.y EX S.g32 LP;replace N:=N.d S.g33 LQ;replace N:=N.d S.g34 LR;replace N:=N.b S.g35 LU LS;replace N:=N.d S.g36 LW;replace N:=N.d S.g37 LX;replace N:=N.d S.g38 LY;replace N:=N.d S.g39 LZ;replace N:=N.d S.g40 Ma;replace N:=N.d S.g41 Mb;replace N:=N.d S.g42 Mc;replace N:=N.d S.g43 Me;replace N:=N.d S.g44 Mf;replace N:=N.d S.g45 Mg;replace N:=N.d S.g46 Mh;replace N:=N.d S.g47 Mi;replace N:=N.d S.g48 Mj;replace N:=N.d S.g49 Ml;replace N:=N.d S.g50 Mm;replace N:=N.d S.g51 Mp;replace N:=N.d S.g52 Mq;replace N:=N.d S.g53 Mr;replace N:=N.d S.g54 Mt;replace N:=N.d S.g55 Mu;replace N:=N.d S.g56 Mv;replace N:=N.d S.g57 Mw;replace N:=N.d S.g58 Mx;replace N:=N.d S.g59 Mz;replace N:=N.d S.g60 MA;replace N:=N.y EX S.g61 MB;replace N:=N.u (k:=5) (ks:=[3,1,0,2,4]) S.eB ⟨S.kc,S.gaI,S.m3,S.kcl,S.kmo,S.kmb⟩ S.m3 (hm S.bisinstance) S.ki S.g62 MC;exact N.law gL MD
 ·match g,h1,h2 with
  | 0,h1,h2=>cases h1;cases h2;obtain⟨t,q⟩:=S.qLOW;exact⟨.int (-9223372036854775808),_,hm q,⟨t,rfl⟩,λ F H=>rfl⟩
  | 1,h1,h2=>cases h1;cases h2;obtain⟨t,q⟩:=S.qHIGH;exact⟨.int 9223372036854775807,_,hm q,⟨t,rfl⟩,λ F H=>rfl⟩
  | 2,h1,h2=>cases h1;cases h2;obtain⟨t,q⟩:=S.qMOST_SIDES;exact⟨.int 6,_,hm q,⟨t,rfl⟩,λ F H=>rfl⟩
  | 3,h1,h2=>cases h1;cases h2;obtain⟨t,q⟩:=S.qMOST_BREADTH;exact⟨.int 512,_,hm q,⟨t,rfl⟩,λ F H=>rfl⟩
  | 4,h1,h2=>cases h1;cases h2;obtain⟨t,q⟩:=S.qMOST_STEPS;exact⟨.int 40,_,hm q,⟨t,rfl⟩,λ F H=>rfl⟩
  | 5,h1,h2=>cases h1;cases h2;obtain⟨t,q⟩:=S.qMOST_OUTS;exact⟨.int 8,_,hm q,⟨t,rfl⟩,λ F H=>rfl⟩
  | 6,h1,h2=>cases h1;cases h2;cases nb
  | n+7,h1,h2=>cases h1
 ·match g,h1,h2 with
  | 0,h1,h2=>cases h2
  | 1,h1,h2=>cases h2
  | 2,h1,h2=>cases h2
  | 3,h1,h2=>cases h2
  | 4,h1,h2=>cases h2
  | 5,h1,h2=>cases h2
  | 6,h1,h2=>cases h1;cases h2;obtain⟨d,e,kvs,TK,PA⟩:=S.qPT;exact⟨d,kvs,hm e,TK,za PA⟩
  | n+7,h1,h2=>cases h1
 ·simp only[BN,av,bh,aY] at hx
  rcases hx with rfl | rfl | rfl | rfl | rfl | rfl | rfl | rfl | rfl | rfl | rfl | rfl | rfl | rfl | rfl | rfl | rfl | rfl
  ·exact hm S.blen
  ·exact hm S.btuple
  ·exact hm S.blist
  ·exact hm S.bsum
  ·exact hm S.bmax
  ·exact hm S.bmin
  ·exact hm S.babs
  ·exact hm S.bint
  ·exact hm S.bstr
  ·exact hm S.bsorted
  ·exact hm S.bany
  ·exact hm S.ball
  ·exact hm S.bisinstance
  ·exact hm S.bbool
  ·exact hm S.brange
  ·exact hm S.bzip
  ·exact hm S.benumerate
  ·exact hm S.breversed
theorem walk{l:W.OpenLaw}{YP:World->Heap->Prop}{d:DefRec}{K:Params->FG}(hn:l.most=some 63)(hdf:d.params.defaults=[])
  (hY:∀(w:World) (h:Heap),YP w h->(K w.params).In h)
  (F:∀(w:World) (mg:SV) (fa:Addr) (h:Heap),(K w.params).In h->h.Ns mainGlobals mg->mg d.name=some (.ref fa) ->
   ∃fd:FuncData,(∀(s:Shared) (u:Value),BindsTo s fd ⟨[u],[]⟩ [("script",u)])/\∀base:Heap,(K w.params).In base->base.Ns mainGlobals mg->FnOk l.prog w (K w.params) mg base CX0 64 fa fd ["script"] (jz (K w.params) (λ _=>True))) :
  W.WalkO q loose XP YP l.row.toRowW d [] (λ f vs=>PySem.call f vs) :=
 _L.walk_of (n:=63) (k:=64) (x := "script") (CX:=λ _=>CX0) (sp:=λ w=>jz (K w.params) (λ _=>True)) hn (by decide) hdf ⟨rfl,by decide,by decide⟩ hY F (λ _ _ a ns hl hfew hS=>⟨a,ns,rfl,hS,hl,trivial,λ _=>rfl⟩) λ _ _ _ _ _ z=>z
end _M
end
end
open PySem PySem.W PyProof.Rows
set_option maxRecDepth 100000 in
set_option maxHeartbeats 0 in
theorem PySem.Challenge.cw_sideloom_k33_faults_told_holds : PySem.Challenge.rw_sideloom_k33_faults_told.Holds := by
 w_on;o_law;k_head;(case hw=>w_witness2)
 k_fill
 refine _M.walk (l:=PySem.Challenge.rw_sideloom_k33_faults_told) rfl rfl (λ w h Y=>W.kIn_of Y) ?F
 case F =>
  intro w mg fa h KX G hmg
  refine' _M.all_mk KX G hmg ?S
  case S =>
   constructor
   iterate 7 (k_is)
   iterate 6 (k_exc)
   iterate 16 (kts_exm)
   ·refine' _M.in_ex ?ya ?yb ?yc ?yd ?ye;(case ya=>k_is);(case yb=>k_is);(case yc=>k_is);(case yd=>k_is);(case ye=>k_is)
   ·k_is
   iterate 2 (kernel_rfl)
   iterate 5 (k_is)
   ·exact Option.isSome_iff_exists.mpr ⟨_,by k_is⟩
   iterate 3 (k_is)
   ·kit_is
   iterate 3 (k_is)
   iterate 64 (refine' _L.gl_ex ?ya ?yb ?yc ?yd;(case ya=>k_is);(case yb=>k_is);(case yc=>k_is);(case yd=>k_is))
   iterate 18 (unfold _M.nB;k_is)
   iterate 6 (refine' _L.gx_int ?ya;(case ya=>k_is))
   ·refine' _M.pt_mk ?gPT ?dPT0 ?lPT ?l0 ?l0_0 ?l1 ?l1_0 ?l2 ?l2_0 ?l2_1 ?l3 ?l3_0 ?l3_1 ?l4 ?l4_0 ?l4_1 ?l4_2 ?l5 ?l5_0 ?l5_1 ?l5_2 ?l6 ?l6_0 ?l6_1 ?l7 ?l7_0 ?l7_1 ?l8 ?l8_0 ?l8_1 ?l8_2 ?l8_3 ?l8_4 ?l9 ?l9_0 ?l9_1 ?l9_2 ?l10 ?l10_0 ?l10_1 ?l11 ?l11_0 ?l11_1 ?l11_2 ?l12 ?l12_0 ?l12_1 ?l13 ?l13_0 ?l13_1 ?l13_2 ?l14 ?l14_0 ?l14_1 ?l14_2
    (case gPT=>k_is)
    (case dPT0=>first | decide +kernel | rfl)
    (case lPT=>k_is)
    (case l0=>refine' _M.ktr1 ?ya;(case ya=>k_is))
    (case l1=>refine' _M.ktr1 ?ya;(case ya=>k_is))
    (case l2=>refine' _M.ktr2 ?ya;(case ya=>k_is))
    (case l3=>refine' _M.ktr2 ?ya;(case ya=>k_is))
    (case l4=>refine' _M.ktr3 ?ya;(case ya=>k_is))
    (case l5=>refine' _M.ktr3 ?ya;(case ya=>k_is))
    (case l6=>refine' _M.ktr2 ?ya;(case ya=>k_is))
    (case l7=>refine' _M.ktr2 ?ya;(case ya=>k_is))
    (case l8=>refine' _M.ktr5 ?ya;(case ya=>k_is))
    (case l9=>refine' _M.ktr3 ?ya;(case ya=>k_is))
    (case l10=>refine' _M.ktr2 ?ya;(case ya=>k_is))
    (case l11=>refine' _M.ktr3 ?ya;(case ya=>k_is))
    (case l12=>refine' _M.ktr2 ?ya;(case ya=>k_is))
    (case l13=>refine' _M.ktr3 ?ya;(case ya=>k_is))
    (case l14=>refine' _M.ktr3 ?ya;(case ya=>k_is))
    iterate 37 (refine' _M.kts ?ya;(case ya=>k_is))
