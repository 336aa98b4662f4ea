import PyProof.Rows.All
import Wide.All
import OpenK.AllK
import Wide.FinOn
import Lean
import PyProof.EqAt
import PyProof.EqKinds
import PyProof.TupleCall
import PySem.Challenge.RW_sideloom_k37_whole_beginnings
set_option Elab.async false
set_option linter.all false
set_option autoImplicit true
set_option maxRecDepth 100000
abbrev VS:=PySem.Value->PySem.Shared->Prop
abbrev LL:=List (List Int)
abbrev LI:=List Int
abbrev LO:=List (PySem.Addr × PySem.Obj)
abbrev LA:=List (PySem.Str × PySem.Addr)
abbrev SV:=PySem.Str->Option PySem.Value
abbrev LV:=List PySem.Value
abbrev FG:=PySem.W.Frag
abbrev AV:=Array (Option PySem.Value)
abbrev OA:=Option PySem.Addr
def ag:=@List.append_nil
def ak:=@PySem.wpAny_bind
def aA:=@List.length_map
def aM:=@List.mem_cons_of_mem
def aX:=@List.getElem?_eq_getElem
def bd:=@PySem.Heap.get?_push_of_some
def bv:=@List.getElem?_eq_some_iff
def bw:=@List.mem_of_getElem?
def be:=@List.length_take
def bu:=@List.length_append
def aY:=@List.map_append
def aJ:=@Nat.le_refl
def bA:=@List.getElem?_map
def bG:=@PySem.Heap.get?_push_size
def aK:=@PySem.wpAny_pure
def bF:=@List.mem_cons_self
def cy:=@List.getD_eq_getElem?_getD
def bL:=@List.mem_singleton
def bc:=@Nat.zero_le
def cS:=@List.getElem?_append_right
def br:=@PySem.Heap.lt_size
def bN:=@List.size_toArray
def dw:=@List.getElem?_append_left
def bE:=@List.mem_cons
def cD:=@Nat.lt_of_lt_of_le
def cI:=@Bool.false_ne_true
def cR:=@PySem.mem_of_lookup
def dz:=@List.mem_append_right
def cx:=@List.take_length
def cO:=@List.take_add_one
def bM:=@Nat.ne_of_lt
def cz:=@Option.some.inj
def eZ:=@List.getElem?_take_of_lt
def cU:=@List.not_mem_nil
def fk:=@List.take_of_length_le
def fz:=@Int.fmod_nonneg_of_pos
def cZ:=@List.mem_append
def iC:=@Int.mul_le_mul_of_nonneg_left
def eG:=@of_decide_eq_true
def ck:=@PySem.wpAny_field
def jt:=@Int.mul_le_mul_of_nonneg_right
def ix:=@PyProof.Rows.callWith_type1
def gh:=@List.length_singleton
def gH:=@PySem.Heap.get?_update_other
def dU:=@PySem.PassesOwn.never
def fK:=@Int.fmod_lt_of_pos
def fb:=@PySem.wpAny_newObj_type
def fq:=@List.length_range
def gZ:=@PySem.wpAny_callSpecial?_slot
def fG:=@Nat.lt_succ_of_lt
def hZ:=@List.getElem?_eq_none
def fF:=@List.length_drop
def cJ:=@PyProof.Rows.boot_tuple
def dF:=@Nat.sub_self
def eQ:=@PySem.wpAny_seqItems
def fT:=@PySem.wpAny_call_entry
def dL:=@List.mem_map
def iz:=@PySem.builtinLookup_eq_fast
def fh:=@PySem.Heap.size_push
def ie:=@Int.toNat_of_nonneg
def fO:=@decide_eq_false
def cG:=@and_assoc
def hV:=@PySem.wpAny_setField_rec
def dW:=@Nat.le_trans
def ja:=@PySem.Heap.get?_update_self
def kG:=@Int.fdiv_eq_ediv_of_nonneg
def eV:=@Nat.lt_irrefl
def fe:=@List.map_cons
def ji:=@PySem.Around.under_plainId
def iw:=@PySem.wpAny_pyIter_tuple
def kL:=@Option.isSome_iff_exists
def gJ:=@List.length_set
def dG:=@PySem.wpAny_mono
def iB:=@List.append_assoc
def kj:=@List.mem_of_mem_take
def kQ:=@Option.map_eq_some_iff
def lg:=@PySem.F.plain_max_loop
def lu:=@List.getElem?_eraseIdx
def mQ:=@List.mem_or_eq_of_mem_set
def cL:=@or_false
def oZ:=@List.eq_nil_of_length_eq_zero
def ko:=@List.getElem?_range
def fP:=@Nat.le_of_lt
def iV:=@PySem.wpAny_truthy_bool
def ly:=@List.take_append_drop
def gD:=@PySem.wpAny_holding
def jU:=@Nat.lt_of_le_of_lt
def iy:=@PySem.typeLookup_type
def lO:=@List.getElem?_set_self
def pU:=@PyProof.Rows.slot_tuple_getitem
def lq:=@List.reverse_append
def hE:=@PySem.plainId_quiet
def jh:=@PySem.codeAny_builtin
def gP:=@Int.le_trans
def dA:=@congrArg
def jR:=@Nat.succ_le_succ
def jY:=@List.getElem_mem
def qQ:=@List.take_append_of_le_length
def lN:=@List.mem_append_left
def cY:=@Ne.symm
def jP:=@List.nodup_cons
def gM:=@PySem.wpAny_of_eq
def jX:=@PySem.wpAny_specialOf
def jZ:=@PySem.F.slot_zip_next
def pJ:=@Int.fmod_eq_emod_of_nonneg
def qp:=@PySem.F.slot_tuple_iterator_next
def kN:=@Nat.lt_succ_self
def kU:=@PySem.wpAny_isInstance
def kX:=@List.lookup_cons
def lY:=@PySem.wpAny_Call_Name_kw
def jf:=@PySem.wpAny_attempt
def mj:=@PySem.Obj.data_mapFields
def nU:=@List.getElem?_reverse
def jr:=@List.map_take
def jT:=@decide_eq_true
def qj:=@Array.getElem?_eq_getElem
def nD:=@List.getElem?_set_ne
def oI:=@List.mem_of_mem_drop
def mf:=@List.reverse_cons
def qy:=@PySem.AutoSeq1.wpAny_loadPart'
def kZ:=@Nat.min_eq_left
def vJ:=@List.eraseIdx_eq_take_drop_succ
def iY:=@Nat.ne_of_gt
def jj:=@Nat.min_self
def ka:=@PySem.wpAny_onRaise
def iA:=@PySem.wpAny_letGo
def oC:=@List.length_reverse
def rS:=@List.length_eq_zero_iff
def mq:=@List.all_eq_true
def kS:=@PySem.isSubtype_type
def lj:=@PySem.boot_len
def oj:=@List.pairwise_cons
def oO:=@of_decide_eq_false
def pT:=@List.length_replicate
def jV:=@List.map_map
def mx:=@PySem.wpAny_updateSeq
def qG:=@List.mem_iff_getElem?
def qU:=@List.filterMap_append
def nB:=@PyProof.Rows.boot_isinstance
def kF:=@PySem.wpAny_standAt
def qd:=@PySem.F.args_object_init_2
def rd:=@List.length_eraseIdx
def gY:=@PySem.W.kia_one
def mH:=@PySem.wpAny_tryCatch
def nR:=@Bool.and_eq_true
def oz:=@Nat.zero_lt_succ
def qe:=@PySem.Heap.SameBut.update
def kh:=@Int.le_refl
def sJ:=@PySem.F.args_tuple_add_2
def kM:=@PySem.wpAny_typeOf
def jg:=@PySem.wpAny_rule
def ll:=@Int.mul_comm
def uZ:=@List.idxOf_lt_length_iff
def nH:=@PySem.wpAny_passesOwn
def nP:=@List.of_mem_zip
def sE:=@List.getElem?_replicate
def sI:=@PySem.F.entry_tuple_add
def sX:=@PySem.F.plainAttrs_list
def nW:=@List.forIn_cons
def oB:=@List.range_succ
def mM:=@Int.mul_assoc
def oG:=@Int.emod_nonneg
def qN:=@Int.emod_lt_of_pos
def qV:=@Int.natCast_nonneg
def Ai:=@List.set_eq_take_append_cons_drop
def sH:=@PySem.F.slot_tuple_add
def sM:=@PySem.wpAny_Call_method_late
def sN:=@PySem.Calls.callWith_builtin
def ud:=@PySem.F.entry_max_loop
def vL:=@List.length_pos_of_mem
def qh:=@PySem.F.plain_list_iadd
def qi:=@PySem.F.plain_tuple_new
def qt:=@PySem.F.args_zip_next_1
def nC:=@List.mem_range
def nT:=@PySem.wpAny_setField
def oF:=@Int.mul_nonneg
def sY:=@PySem.Obj.isFreed_of_fields
def tD:=@List.getElem?_toArray
def mK:=@Int.zero_add
def mY:=@Int.ofNat_lt
def vg:=@List.getElem?_zipWith
def pQ:=@PySem.W.cellsFrom_some
def qr:=@PySem.F.entry_zip_next
def qu:=@PySem.wpAny_pyIter_zip
def qY:=@Int.ediv_le_self
def rR:=@List.map_reverse
def sO:=@PySem.Calls.evalArgs_plain
def tm:=@PySem.codeAny_extend_loopS
def tG:=@PySem.wpAny_updateSeq_pair
def ve:=@List.getElem?_of_mem
def xV:=@PySem.F.args_tuple_iterator_next_1
def oi:=@List.cons.inj
def rX:=@List.filterMap_cons
def px:=@PySem.wpAny_execs_nil
def pK:=@Bool.eq_iff_iff
def gG:=@if_true
def jQ:=@LawfulBEq.eq_of_beq
def tj:=@PySem.F.plain_extend_loop
def xU:=@PySem.F.entry_tuple_iterator_next
def vf:=@List.length_zipWith
def vK:=@List.length_pos_iff
def vS:=@PySem.Calls.Name_function_global
def xI:=@Array.getElem?_eq_some_iff
def An:=@List.perm_append_singleton
def sx:=@PySem.Calls.spliced_cons
def nO:=@PySem.codeAny_mono
def tT:=@Bool.false_eq_true
def qf:=@PySem.isSubtype_stop
def xW:=@PySem.wpAny_letOwnedTupleGo_zip
def qB:=@List.drop_zero
def sk:=@PySem.wpAny_pyIter_list
def sw:=@PySem.Calls.spliced_nil
def sW:=@Option.some.injEq
def yA:=@PySem.arm_evalThenUse_ListComp
def zn:=@Nat.lt_succ_iff_lt_or_eq
def uv:=@List.ext_getElem?
def Ac:=@List.length_filterMap_le
def Aq:=@List.mem_of_mem_eraseIdx
def vH:=@not_false_eq_true
def oE:=@Int.one_mul
def qO:=@List.map_drop
def sF:=@PySem.noFill_tuple_add
def tR:=@beq_self_eq_true
def wW:=@PyProof.Rows.subscriptTail_builtinR
def xS:=@List.range_succ_eq_map
def yY:=@Nat.lt_of_succ_lt_succ
def zN:=@List.drop_eq_nil_of_le
def vP:=@PySem.wpAny_storeName_local
def pR:=@PySem.name_of_addr
def wH:=@PySem.codeAny_call_function
def lZ:=@PyProof.Rows.IsTup.new
def xj:=@Array.getElem?_toList
def sV:=@PySem.closureFor_none
def qc:=@PySem.callType_new
def xM:=@PySem.F.entry_proto_collect
def xN:=@PySem.F.plain_proto_collect
def yi:=@PySem.F.slot_enumerate_next
def yz:=@PySem.exec_Assign_Name_used
def uq:=@Int.ediv_nonneg
def uK:=@Nat.le_add_left
def nK:=@True.intro
def nS:=@PySem.call_meets
def lh:=@PyProof.Rows.boot_max
def lM:=@PyProof.Rows.boot_min
def vQ:=@PySem.wpAny_storeName_cell
def wA:=@Array.mem_toList_iff
def wF:=@PySem.Around.frames_deeper
def xi:=@PySem.F.args_list_append_2
def xQ:=@List.getElem_toArray
def yt:=@Array.toArray_toList
def Al:=@Int.mul_ediv_self_le
def tz:=@PySem.Moved.drop_new
def uE:=@Int.mul_le_mul
def uH:=@List.take_take
def vM:=@beq_eq_false_iff_ne
def pE:=@Int.mul_one
def pO:=@PySem.sizeLine_eq
def wN:=@PyProof.Rows.entry_tuple_getitem
def xf:=@List.replicate_succ
def xh:=@PySem.F.entry_list_append
def s0a:=@PySem.F.entry_object_init
def s0b:=@PySem.SeqAt.RcNeAt.tuples
def s0c:=@List.map_congr_left
def s0d:=@List.getElem_of_mem
def s0e:=@List.length_take_le
def s0f:=@PySem.SeqAt.EqAt.int_str
def s0g:=@PySem.SeqAt.EqAt.str_int
def s0h:=@Array.append_assoc
def s0i:=@List.mem_filterMap
def s0j:=@PySem.seq_tuple_add
def s0k:=@if_false
def s0l:=@PyProof.Rows.args_tuple_getitem
def s0m:=@PyProof.Rows.len_tuple
def s0n:=@PySem.F.slot_list_append
def s0o:=@PyProof.Rows.boot_reversed
def s0p:=@PySem.F.typeCall_tuple_1
def s0q:=@PySem.SeqAt.RcNeAt.lists
def s0r:=@Nat.add_sub_cancel
def s0s:=@Int.sub_eq_add_neg
def s0t:=@List.getElem?_take
def s0u:=@List.getElem_idxOf
def s0v:=@PyProof.Rows.boot_list
def s0w:=@decide_eq_true_iff
def s0x:=@PySem.wpAny_load
def s0y:=@PyProof.Rows.boot_range
def s0z:=@PySem.concat_meets
def s1b:=@Int.ediv_one
def s1c:=@PySem.seqIndex_neg
def s1d:=@Nat.lt_trans
def s1e:=@Nat.le_of_eq
def s1f:=@Sum.inr.inj
def s1g:=@PySem.seqIndex_of
def s1h:=@PySem.ItemsOf.nil
section
set_option compiler.extract_closed false
set_option hygiene false

set_option hygiene true
noncomputable section
namespace L2
open PySem PySem.Spec PyProof.Rows
abbrev Key:=Sum Int Str
def pf:Key->Value->Bool
 | .inl k,v=>Value.isInt k v
 | .inr x,v=>Value.isStrOf x v
def Dt(w:World):Key->Int
 | .inl k=>hashInt k
 | .inr x=>hashStr w x
theorem iT:∀ {k:Key}{v:Value},pf k v=true->(∃i t,k=Sum.inl i/\v=Value.int i t)\/(∃x t,k=Sum.inr x/\v=Value.str x t)
 | .inl i,v,h=>by
  obtain⟨t,e⟩:=Value.isInt_shape (k:=i) (v:=v) h;exact .inl ⟨i,t,rfl,e⟩
 | .inr x,v,h=>by
  obtain⟨t,e⟩:=Value.isStrOf_shape (x:=x) (v:=v) h;exact .inr ⟨x,t,rfl,e⟩
theorem rT(x:Str)(t:Tok):pf (.inr x) (.str x t)=true:=by simp[pf,Value.isStrOf]
theorem Du(a b:Int):decide ((Sum.inl a:Key)=Sum.inl b)=(a == b):=by
 by_cases e:a=b
 ·subst e;simp
 ·have h:¬(Sum.inl a:Key)=Sum.inl b:=λ q=>e (Sum.inl.inj q);rw[fO h];exact(vM.mpr e).symm
theorem Dv(a b:Str):decide ((Sum.inr a:Key)=Sum.inr b)=decide (a=b):=by
 by_cases e:a=b
 ·subst e;simp
 ·have h:¬(Sum.inr a:Key)=Sum.inr b:=λ q=>e (s1f q);rw[fO h,fO e]
theorem Dw(a:Int)(b:Str):decide ((Sum.inl a:Key)=Sum.inr b)=false:=fO (λ q=>nomatch q)
theorem Dx(a:Str)(b:Int):decide ((Sum.inr a:Key)=Sum.inl b)=false:=fO (λ q=>nomatch q)
noncomputable def rV(prog:Program)(w:World):PySem.KeyKind prog w Key where
 is:=pf
 hash:=Dt w
 inj:=λ v a b ha hb=>by
  rcases iT ha with ⟨i,t,rfl,rfl⟩ | ⟨x,t,rfl,rfl⟩
  ·rcases iT hb with ⟨j,u,rfl,e⟩ | ⟨y,u,rfl,e⟩
   ·injection e with e1 _;rw[e1]
   ·exact nomatch e
  ·rcases iT hb with ⟨j,u,rfl,e⟩ | ⟨y,u,rfl,e⟩
   ·exact nomatch e
   ·injection e with e1 _;rw[e1]
 byValue:=λ k v h=>by
  rcases iT h with ⟨i,t,rfl,rfl⟩ | ⟨x,t,rfl,rfl⟩<;>rfl
 pyHash:=λ hv h=>by
  rcases iT hv with ⟨i,t,rfl,rfl⟩ | ⟨x,t,rfl,rfl⟩
  ·exact wpAny_pyHash_int h
  ·exact wpAny_pyHash_str h
 eqBool:=λ hu hv h=>by
  rcases iT hu with ⟨i,t,rfl,rfl⟩ | ⟨x,t,rfl,rfl⟩
  ·rcases iT hv with ⟨j,u,rfl,rfl⟩ | ⟨y,u,rfl,rfl⟩
   ·rw[Du] at h;exact wpAny_eqBool_int h
   ·rw[Dw] at h;exact s0f i t y u _ _ _ _ h
  ·rcases iT hv with ⟨j,u,rfl,rfl⟩ | ⟨y,u,rfl,rfl⟩
   ·rw[Dx] at h;exact s0g x t j u _ _ _ _ h
   ·rw[Dv] at h;exact wpAny_eqBool_str h
 «strs»:=λ k x t v h=>by
  rcases iT h with ⟨i,u,rfl,e⟩ | ⟨y,u,rfl,e⟩
  ·exact nomatch e
  ·injection e with e1 _
   subst e1;cases v<;>rfl
inductive V where
 | non | bl (b:Bool) | int (i:Int) | str (x:Str) | byt (b:Array UInt8) | flt (b:UInt64) | ref (a:Addr) | ty (n:String)
 deriving DecidableEq
noncomputable def RelV:V->Value->Prop
 | .non,u=>u=Value.none
 | .bl b,u=>u=Value.bool b
 | .int i,u=>∃t,u=Value.int i t
 | .str x,u=>∃t,u=Value.str x t
 | .byt b,u=>∃t,u=Value.bytes b t
 | .flt b,u=>∃t,u=Value.float b t
 | .ref a,u=>u=Value.ref a
 | .ty n,u=>u=Value.type n
abbrev Vals:List V->LV->Prop:=Paired RelV
theorem Vals.length(r:Vals xs us):xs.length=us.length:=Paired.length r
theorem Vals.get:∀ {xs:List V}{us:LV}{i:Nat}{x:V},Vals xs us->xs[i]?=some x->∃u,us[i]?=some u/\RelV x u
 | _,_,_,_,.nil,e=>by simp at e
 | _,_,0,_,.cons r _,e=>by simp at e;subst e;exact⟨_,rfl,r⟩
 | _,_,i+1,x,.cons _ t,e=>by
  obtain⟨u,h1,h2⟩:=Vals.get (i:=i) (x:=x) t (by simpa using e);exact⟨u,by simpa using h1,h2⟩
theorem Vals.set(r:RelV x u):∀ {xs:List V}{us:LV}(i:Nat),Vals xs us->Vals (xs.set i x) (us.set i u)
 | _,_,_,.nil=>.nil
 | _,_,0,.cons _ t=>.cons r t
 | _,_,i+1,.cons q t=>.cons q (Vals.set r i t)
theorem Vals.append:∀ {xs ys:List V}{us ws:LV},Vals xs us->Vals ys ws->Vals (xs++ys) (us++ws)
 | _,_,_,_,.nil,s=>s
 | _,_,_,_,.cons r t,s=>.cons r (Vals.append t s)
theorem Vals.take:∀ {xs:List V}{us:LV}(n:Nat),Vals xs us->Vals (xs.take n) (us.take n)
 | _,_,0,_=>.nil
 | _,_,_+1,.nil=>.nil
 | _,_,n+1,.cons r t=>.cons r (Vals.take n t)
theorem Vals.drop:∀ {xs:List V}{us:LV}(n:Nat),Vals xs us->Vals (xs.drop n) (us.drop n)
 | _,_,0,r=>r
 | _,_,_+1,.nil=>.nil
 | _,_,n+1,.cons _ t=>Vals.drop n t
def rW:Option V->Option Value->Prop
 | some v,some u=>RelV v u
 | none,none=>True
 | _,_=>False
def KV{κ:Type}:List (κ × V)->List (κ × Value)->Prop:=Paired λ(p:κ × V) (q:κ × Value)=>p.1=q.1/\RelV p.2 q.2
def kV:Key->V
 | .inl i=>.int i
 | .inr x=>.str x
inductive HO where
 | lst (xs:List V)
 | tup (xs:List V)
 | dK (kvs:List (Key × V)) | dT (kvs:List (List Key × V))
 | set (S:Int->Bool) (n:Nat)
 | ins (C dx:Addr) (fs:List (Str × V))
 | own (x:Addr)
 | xd (fs:List (Str × V))
 | met (f x:Addr)
 | rng (lo hi:Int)
 | frz (o:Obj) (u:HO)
 | tbl (ps:Array Value)
 | ext (φ:Heap->Prop)
abbrev Hp:=Addr->Option HO
def upd(H:Hp)(a:Addr)(o:HO):Hp:=λ b=>if b=a then some o else H b
theorem ar:upd H a o a=some o:=by unfold upd;rw[if_pos rfl]
theorem bo{a b:Addr}(h:b≠a):upd H a o b=H b:=by unfold upd;rw[if_neg h]
theorem jH{H:Hp}(h:H a=some o)(h':H b=none):a≠b:=by
 intro e;subst e;rw[h] at h';cases h'
section
variable (P:Program)(w:World)
noncomputable def ObjOk(H:Hp)(h:Heap)(a:Addr):HO->Prop
 | .lst xs=>xs.length≤sizeLine/\∃(its:LV) (n:Nat),Vals xs its/\h.get? a=some { cls:=.type "list",data:=.seq its.toArray n }
 | .tup xs=>xs.length≤sizeLine/\∃its:LV,Vals xs its/\IsTup h a its.toArray
 | .dK kvs=>kvs.length≤sizeLine/\(a == sysModules)=false/\∃vs,KV kvs vs/\h.DictOf (rV P w) a vs
 | .dT kvs=>kvs.length≤sizeLine/\(a == sysModules)=false/\∃xs:List (List Key × Addr × Value),
   Paired (λ(p:List Key × V) (q:List Key × Addr × Value)=>p.1=q.1/\H q.2.1=some (.tup (p.1.map kV))/\RelV p.2 q.2.2) kvs xs /\
   ∃o es ep,h.get? a=some o/\o.ExactDict/\o.data=.dict es ep/\es.toList=xs.map (entryOfKey (tupleKind (rV P w)))/\(xs.map (·.1)).Nodup
 | .set S n=>h.SetOf (intKind P w) a S n
 | .ins C dx fs=>H dx=some (.own a)/\fs.length≤1000/\dx≠a/\h.get? a=some (W.instObj C dx) /\
   ∃mA,h.Ns1 dx mA/\(∀f,rW (fs.lookup f) (mA f))/\PySem.Within mA (fs.map (·.1))
 | .own _=>∃o,h.get? a=some o
 | .xd fs=>∃mA,h.Ns1 a mA/\∀f,rW (fs.lookup f) (mA f)
 | .rng lo hi=>∃t u v,h.get? a=some { cls:=.type "range",data:=.fields #[.int lo t,.int hi u,.int 1 v] }
 | .frz o u=>h.get? a=some o/\ObjOk H h a u
 | .tbl ps=>h.get? a=some { cls:=.none,data:=.fields ps }
 | .met f x=>h.get? a=some (W.methodObj (.ref f) (.ref x))
 | .ext φ=>φ h/\(∃o,h.get? a=some o)/\∀h1 h2:Heap,φ h1->(∀o,h1.get? a=some o->h2.get? a=some o)->φ h2
def HOk(H:Hp)(h:Heap):Prop:=∀a o,H a=some o->ObjOk P w H h a o
end
section
variable {P:Program}{w:World}{H H':Hp}{h h':Heap}{a:Addr}{o:HO}
theorem ObjOk.lt(x:ObjOk P w H h a o):a < h.objs.size:=by
 cases o with
 | lst xs=>obtain⟨_,_,_,_,e⟩:=x;exact br e
 | tup xs=>obtain⟨_,_,_,p⟩:=x;exact p.lt
 | dK kvs=>obtain⟨_,_,_,_,o,_,_,e,_⟩:=x;exact br e
 | dT kvs=>obtain⟨_,_,_,_,o,_,_,e,_⟩:=x;exact br e
 | set S n=>obtain⟨o,_,_,_,e,_⟩:=x;exact br e
 | ins C dx fs=>obtain⟨_,_,_,e,_⟩:=x;exact br e
 | own y=>obtain⟨_,e⟩:=x;exact br e
 | xd fs=>obtain⟨_,⟨_,_,_,e,_⟩,_⟩:=x;exact br e
 | rng lo hi=>obtain⟨_,_,_,e⟩:=x;exact br e
 | frz ob u=>obtain⟨e,_⟩:=x;exact br e
 | tbl ps=>exact br (show h.get? a=some _ from x)
 | met f y=>exact br (show h.get? a=some _ from x)
 | ext φ=>obtain⟨_,⟨_,e⟩,_⟩:=x;exact br e
theorem Paired.mapP{α β:Type}{F G:α->β->Prop}:∀ {l₁:List α}{l₂:List β},Paired F l₁ l₂->(∀a b,F a b->G a b)->Paired G l₁ l₂
 | _,_,.nil,_=>.nil
 | _,_,.cons r t,f=>.cons (f _ _ r) (Paired.mapP t f)
theorem ObjOk.stay(x:ObjOk P w H h a o)(k:∀b u,(b=a\/H b=some (.own a))->h.get? b=some u->h'.get? b=some u)
  (ho:∀b,H b=some (.own a)->H' b=some (.own a)) (ht:∀b xs,H b=some (.tup xs)->H' b=some (.tup xs)):ObjOk P w H' h' a o:=by
 induction o with
 | lst xs=>obtain⟨z,its,n,r,e⟩:=x;exact⟨z,its,n,r,k _ _ (.inl rfl) e⟩
 | tup xs=>obtain⟨z,its,r,ob,e,c⟩:=x;exact⟨z,its,r,ob,k _ _ (.inl rfl) e,c⟩
 | dK kvs=>obtain⟨z,y,vs,r,ob,es,ep,e,c⟩:=x;exact⟨z,y,vs,r,ob,es,ep,k _ _ (.inl rfl) e,c⟩
 | dT kvs =>
  obtain⟨z,y,xs,r,ob,es,ep,e,c⟩:=x;exact⟨z,y,xs,Paired.mapP r λ p q z=>⟨z.1,ht _ _ z.2.1,z.2.2⟩,ob,es,ep,k _ _ (.inl rfl) e,c⟩
 | set S n=>obtain⟨ob,es,ep,t,e,c⟩:=x;exact⟨ob,es,ep,t,k _ _ (.inl rfl) e,c⟩
 | ins C dx fs =>
  obtain⟨d,z,ne,e,mA,⟨od,es,ep,e2,c⟩,r⟩:=x;exact⟨ho _ d,z,ne,k _ _ (.inl rfl) e,mA,⟨od,es,ep,k _ _ (.inr d) e2,c⟩,r⟩
 | own y=>obtain⟨ob,e⟩:=x;exact⟨ob,k _ _ (.inl rfl) e⟩
 | xd fs=>obtain⟨mA,⟨od,es,ep,e,c⟩,r⟩:=x;exact⟨mA,⟨od,es,ep,k _ _ (.inl rfl) e,c⟩,r⟩
 | rng lo hi=>obtain⟨t,u,v,e⟩:=x;exact⟨t,u,v,k _ _ (.inl rfl) e⟩
 | frz ob u ih=>obtain⟨e,q⟩:=x;exact⟨k _ _ (.inl rfl) e,ih q⟩
 | tbl ps =>
  have e:h.get? a=some { cls:=.none,data:=.fields ps }:=x;show h'.get? a=some { cls:=.none,data:=.fields ps };exact k a _ (.inl rfl) e
 | met f y =>
  have e:h.get? a=some (W.methodObj (.ref f) (.ref y)):=x;show h'.get? a=some (W.methodObj (.ref f) (.ref y));exact k a _ (.inl rfl) e
 | ext φ=>obtain⟨p,⟨o,e⟩,st⟩:=x;exact⟨st _ _ p λ o q=>k _ _ (.inl rfl) q,⟨o,k _ _ (.inl rfl) e⟩,st⟩
theorem HOk.lt(x:HOk P w H h)(e:H a=some o):a < h.objs.size:=(x a o e).lt
theorem HOk.fresh(x:HOk P w H h)(e:h.objs.size≤a):H a=none:=by
 cases q:H a with
 | none=>rfl
 | some u=>exact absurd (cD (x.lt q) e) (eV _)
theorem HOk.kept(x:HOk P w H h)(k:∀b u,h.get? b=some u->h'.get? b=some u):HOk P w H h':=λ a o e =>
 (x a o e).stay (λ b u _ q=>k b u q) (λ _ q=>q) λ _ _ q=>q
theorem HOk.laid(x:HOk P w H h)(k:∀b u,h.get? b=some u->h'.get? b=some u)(hp:h.objs.size≤a)(new:ObjOk P w (upd H a o) h' a o):HOk P w (upd H a o) h':=λ b u e=>by
 have hn:=x.fresh hp;by_cases hb:b=a
 ·subst hb;rw[ar] at e;cases e;exact new
 ·rw[bo hb] at e;exact(x b u e).stay (λ c v _ q=>k c v q) (λ c q=>by rw[bo (jH q hn)];exact q) λ c xs q=>by rw[bo (jH q hn)];exact q
end
def Rd(H:Hp)(a:Addr)(u:HO):Prop:=H a=some u\/∃o,H a=some (.frz o u)
theorem Rd.ok(r:Rd H a u)(x:HOk P w H h):ObjOk P w H h a u:=by
 rcases r with r | ⟨o,r⟩
 ·exact x a u r
 ·obtain⟨_,q⟩:=x a _ r;exact q
noncomputable def Mut:Option HO->Prop
 | some (.lst _)=>True
 | some (.dK _)=>True
 | some (.dT _)=>True
 | some (.set _ _)=>True
 | some (.ins _ _ _)=>True
 | some (.ext _)=>True
 | _=>False
section
variable {P:Program}{w:World}{H:Hp}{h h':Heap}{x e:Addr}{o':HO}
theorem HOk.write(ok:HOk P w H h)(mu:Mut (H x))(he:e=x\/H e=some (.own x))(k:∀b u,b≠e->h.get? b=some u->h'.get? b=some u)(heo:∃u,h'.get? e=some u)
  (new:ObjOk P w (upd H x o') h' x o'):HOk P w (upd H x o') h':=λ b u q=>by
 have nown:∀c y,H c=some (.own y)->c≠x:=λ c y r z=>by subst z;rw[r] at mu;exact mu
 have ntup:∀c xs,H c=some (.tup xs)->c≠x:=λ c xs r z=>by subst z;rw[r] at mu;exact mu
 by_cases hb:b=x
 ·subst hb;rw[ar] at q;cases q;exact new
 ·rw[bo hb] at q;by_cases hbe:b=e
  ·have q':H b=some (.own x):=by
    rcases he with z | z
    ·exact absurd (hbe.trans z) hb
    ·rw[hbe];exact z
   rw[q] at q';cases q';obtain⟨v,hv⟩:=heo;exact⟨v,by rw[hbe];exact hv⟩
  ·refine(ok b u q).stay (λ c v hc r=>k c v ?_ r) (λ c r=>by rw[bo (nown c b r)];exact r) λ c xs r=>by rw[bo (ntup c xs r)];exact r
   rcases hc with rfl | hc
   ·exact hbe
   ·rintro rfl
    rcases he with z | z
    ·exact nown c b hc z
    ·rw[hc] at z;cases z;exact hb rfl
end
structure Un (fs ex:List Addr)(H H':Hp)(h h':Heap):Prop where
 keep:∀b o,h.get? b=some o->H b=none->b ∉ fs->b ∉ ex->h'.get? b=some o
 slot:∀b o,h.get? b=some o->H b=none->b∈fs->b ∉ ex->∃sl,h'.get? b=some { o with slots:=sl }
 free:∀b o,h.get? b=some o->H b=none->b ∉ ex->H' b=none
 there:∀b o,h.get? b=some o->b ∉ ex->∃o',h'.get? b=some o'
 tups:∀b xs,H b=some (.tup xs)->H' b=some (.tup xs)
 frzs:∀b o u,H b=some (.frz o u)->H' b=some (.frz o u)
 tbls:∀b ps,H b=some (.tbl ps)->∃more,H' b=some (.tbl (ps++more))
section
variable {fs fs' ex ex':List Addr}{H H1 H2:Hp}{h h1 h2 h':Heap}{a x e:Addr}{o:HO}
theorem Un.any(u:Un fs ex H H1 h h1){b:Addr}(q:h.get? b=some ob)(n:H b=none)(hx:b ∉ ex):∃sl,h1.get? b=some { ob with slots:=sl }:=by
 by_cases hb:b∈fs
 ·exact u.slot b ob q n hb hx
 ·exact⟨ob.slots,u.keep b ob q n hb hx⟩
theorem Un.trans(a:Un fs ex H H1 h h1)(b:Un fs ex H1 H2 h1 h2):Un fs ex H H2 h h2 where
 keep:=λ c ob q n hc hx=>b.keep c ob (a.keep c ob q n hc hx) (a.free c ob q n hx) hc hx
 slot:=λ c ob q n hc hx=>by
  obtain⟨sl,e1⟩:=a.slot c ob q n hc hx;obtain⟨sl',e2⟩:=b.slot c _ e1 (a.free c ob q n hx) hc hx;exact⟨sl',e2⟩
 free:=λ c ob q n hx=>by
  obtain⟨o',e1⟩:=a.there c ob q hx;exact b.free c o' e1 (a.free c ob q n hx) hx
 there:=λ c ob q hx=>by
  obtain⟨o',e1⟩:=a.there c ob q hx;exact b.there c o' e1 hx
 tups:=λ c xs q=>b.tups c xs (a.tups c xs q)
 frzs:=λ c ob xs q=>b.frzs c ob xs (a.frzs c ob xs q)
 tbls:=λ c ps q=>by
  obtain⟨m1,e1⟩:=a.tbls c ps q;obtain⟨m2,e2⟩:=b.tbls c _ e1;exact⟨m1++m2,by rw[e2,s0h]⟩
theorem Un.kept(k:∀b u,h.get? b=some u->h'.get? b=some u):Un fs ex H H h h' :=
 ⟨λ b ob q _ _ _=>k b ob q,λ b ob q _ _ _=>⟨ob.slots,k b ob q⟩,λ _ _ _ n _=>n,λ b ob q _=>⟨ob,k b ob q⟩,λ _ _ q=>q,λ _ _ _ q=>q,λ _ ps q=>⟨#[],by rw[q];simp⟩⟩
theorem Un.refl:Un fs ex H H h h:=Un.kept λ _ _ q=>q
theorem Un.laid(k:∀b u,h.get? b=some u->h'.get? b=some u)(hp:h.objs.size≤a)(hn:H a=none):Un fs ex H (upd H a o) h h' where
 keep:=λ b u q _ _ _=>k b u q
 slot:=λ b u q _ _ _=>⟨u.slots,k b u q⟩
 free:=λ b u q n _=>by rw[bo (bM (cD (br q) hp))];exact n
 there:=λ b u q _=>⟨u,k b u q⟩
 tups:=λ b xs q=>by rw[bo (jH q hn)];exact q
 frzs:=λ b u xs q=>by rw[bo (jH q hn)];exact q
 tbls:=λ b ps q=>⟨#[],by rw[bo (jH q hn),q];simp⟩
theorem Un.write(mu:Mut (H x))(he:e=x\/H e=some (.own x))(k:∀b u,b≠e->h.get? b=some u->h'.get? b=some u)(heo:∃u,h'.get? e=some u):Un fs ex H (upd H x o) h h':=by
 have hx:∀b,H b=none->b≠x:=λ b n z=>by subst z;rw[n] at mu;exact mu
 have hb:∀b,H b=none->b≠e:=λ b n z=>by
  subst z
  rcases he with r | r
  ·exact hx b n r
  ·rw[n] at r;cases r
 have hm:∀b u,H b=some u->¬Mut (some u)->b≠x:=λ b u q nm z=>by subst z;rw[q] at mu;exact nm mu
 refine⟨λ b u q n _ _=>k b u (hb b n) q,λ b u q n _ _=>⟨u.slots,k b u (hb b n) q⟩,λ b u q n _=>by rw[bo (hx b n)];exact n,λ b u q _=>?_,
  λ b xs q=>by rw[bo (hm b _ q λ z=>z)];exact q,λ b u xs q=>by rw[bo (hm b _ q λ z=>z)];exact q,λ b ps q=>⟨#[],by rw[bo (hm b _ q λ z=>z),q];simp⟩⟩
 by_cases hbe:b=e
 ·subst hbe;exact heo
 ·exact⟨u,k b u hbe q⟩
end
def trk(h:Heap)(H:Hp):List Addr:=(List.range h.objs.size).filter λ a=>(H a).isSome
def gW(h:Heap)(H:Hp):Heap:=W.hideAll h (trk h H)
theorem Dy(h:Heap)(H:Hp):(gW h H).objs.size=h.objs.size:=W.hideAll_size _ _
theorem Dz{h:Heap}{H:Hp}{b:Addr}(e:h.get? b=some o)(n:H b=none):(gW h H).get? b=some o :=
 W.hideAll_get _ e λ hm=>by
  have q:(H b).isSome=true:=(List.mem_filter.mp hm).2;rw[n] at q;simp at q
theorem vN{b:Addr}(e:(gW h H).get? b=some o):h.get? b=some o/\H b=none:=by
 have e':h.get? b=some o:=W.of_hideAll (trk h H) e;refine⟨e',?_⟩
 cases q:H b with
 | none=>rfl
 | some x =>
  have hm:b∈trk h H:=List.mem_filter.mpr ⟨nC.mpr (br e'),by simp[q]⟩;have z:(gW h H).get? b=none:=W.hideAll_none (trk h H) hm;rw[z] at e;cases e
def DA(g h:Heap)(L:Addr):LO:=(List.range h.objs.size).filterMap λ a=>if a=L\/(g.get? a).isSome=true then none else (h.get? a).map λ o=>(a,o)
def rest(g h:Heap)(L d:Addr):LO:=(DA g h L).filter λ p=>decide (p.1≠d)
structure Mod (K:FG)(mg:SV)(base:Heap):Prop where
 kin:K.In base
 glob:base.Ns mainGlobals mg
 blt:∃mb,base.Ns builtinsNs mb/\∀x:Str,x ≠ "__name__" -> mb x=bootBuiltins x
 nolimit:base.NoLimit
structure Cx where
 prog:Program
 w:World
 K:FG
 mg:SV
 base:Heap
 A:Around
 N:List Str
 s₀:Shared
 H₀:Hp
 env:Env
 outer:List Env
 stack:List Env
 ex:List Addr
 fn:Str->Bool
 calm:Bool
 pn:LO
 xe:VS
def frs(l:List Env):List Addr:=l.filterMap (·.frame)
abbrev Cx.fs(X:Cx):List Addr:=frs X.outer
def Vis(sc:Scope)(x:Str):Prop:=sc.names.lookup x=some .local\/sc.names.lookup x=some .cell\/sc.names.lookup x=some .free
def Loc(sc:Scope)(x:Str):Prop:=sc.names.lookup x=some .local\/sc.names.lookup x=some .cell
noncomputable def DB(env:Env)(h:Heap)(m:SV)(x:Str)(u:Value):Prop :=
 (env.kindOf x=some .local/\m x=some u)\/((env.kindOf x=some .cell\/env.kindOf x=some .free)/\∃c,env.cells.lookup x=some c/\h.IsCell c (some u))
structure Cx.Ok (X:Cx):Prop where
 mod:Mod X.K X.mg X.base
 kind:X.env.scope.kind=.function
 glob:X.env.globals=mainGlobals
 blt:X.env.builtins=builtinsNs
 above:X.s₀.heap.objs.size≤X.env.locals
 inj:∀x y c,X.env.cells.lookup x=some c->X.env.cells.lookup y=some c->x=y
 has:∀x,(X.env.kindOf x=some .cell\/X.env.kindOf x=some .free)->∃c,X.env.cells.lookup x=some c
 cab:∀x c,X.fn x=true->X.env.cells.lookup x=some c->X.s₀.heap.objs.size≤c
 hd:X.calm=true->X.A.handled=none
 frames:X.A.frames=some X.stack
 stk:X.stack=X.outer\/(X.stack=X.env::X.outer/\X.env.frame=some X.env.locals)
 exf:∀b∈X.ex,b≠X.env.locals/\∀x c,X.env.cells.lookup x=some c->c≠b
 bs:∀b o,X.base.get? b=some o->X.s₀.heap.get? b=some o/\X.H₀ b=none
 bsz:X.base.objs.size≤X.s₀.heap.objs.size
 noex:∀b o,X.base.get? b=some o->b ∉ X.ex
 exfs:∀b∈X.ex,b ∉ X.fs
 funs:X.s₀.heap.FunFrames X.base X.outer
 frf:∀b∈X.fs,X.H₀ b=none
structure Inv (X:Cx)(pins:LO)(σ:List (Option V))(H:Hp)(s:Shared):Prop where
 ok:X.Ok
 os:s.os=X.s₀.os
 bare:AllBare s.gens
 base:Un X.fs X.ex X.H₀ H X.s₀.heap s.heap
 loc:∃m,s.heap.Ns X.env.locals m/\∀(i:Nat) (x:Str) (v:V),X.N[i]?=some x->σ[i]?=some (some v)->Vis X.env.scope x->∃u,RelV v u/\DB X.env s.heap m x u
 cell:∀x c,X.env.cells.lookup x=some c->∃v,s.heap.IsCell c v
 free:H X.env.locals=none
 freeC:∀x c,X.env.cells.lookup x=some c->H c=none
 pin:∀p∈X.pn++pins,s.heap.get? p.1=some p.2/\H p.1=none/\p.1≠X.env.locals/\p.1 ∉ X.fs/\∀v,p.2.data≠.cell v
 hok:HOk X.prog X.w H s.heap
 len:σ.length=X.N.length
section
variable {X:Cx}{pins:LO}{σ:List (Option V)}{H H':Hp}{s:Shared}{h':Heap}
theorem Cx.Ok.nofr(ok:X.Ok){b:Addr}(e:X.base.get? b=some o):b ∉ X.fs:=λ hb=>by
 have:=(ok.funs.mem hb).1;rw[e] at this;cases this
theorem Inv.bs(I:Inv X pins σ H s):∀b o,X.base.get? b=some o->s.heap.get? b=some o/\H b=none:=λ b o e =>
 ⟨I.base.keep b o (I.ok.bs b o e).1 (I.ok.bs b o e).2 (I.ok.nofr e) (I.ok.noex b o e),I.base.free b o (I.ok.bs b o e).1 (I.ok.bs b o e).2 (I.ok.noex b o e)⟩
theorem Inv.bk(I:Inv X pins σ H s):∀b o,X.base.get? b=some o->s.heap.get? b=some o:=λ b o e=>(I.bs b o e).1
theorem Inv.mod(I:Inv X pins σ H s):Mod X.K X.mg X.base:=I.ok.mod
theorem Inv.kIn(I:Inv X pins σ H s):X.K.In s.heap:=I.ok.mod.kin.keeps I.bk
theorem Inv.lt(I:Inv X pins σ H s):X.env.locals < s.heap.objs.size:=let ⟨_,hn,_⟩:=I.loc;hn.lt
theorem Inv.sz(I:Inv X pins σ H s):X.s₀.heap.objs.size≤s.heap.objs.size:=dW I.ok.above (fP I.lt)
theorem Inv.nofs(I:Inv X pins σ H s){a:Addr}(h:s.heap.objs.size≤a):a ∉ X.fs:=λ hb=>by
 obtain⟨_,o,ho,_⟩:=I.ok.funs.mem hb;exact absurd (cD (br ho) (dW I.sz h)) (eV _)
theorem Inv.cne(I:Inv X pins σ H s):∀x c,X.env.cells.lookup x=some c->c≠X.env.locals:=λ x c e z=>by
 obtain⟨v,o,ho,hd⟩:=I.cell x c e;obtain⟨m,⟨o',es,ep,ho',hd',_⟩,_⟩:=I.loc;rw[z,ho'] at ho;cases ho;rw[hd'] at hd;cases hd
theorem Inv.funs(I:Inv X pins σ H s):s.heap.FunFrames X.base X.outer:=by
 have all:∀(l:List Env),(∀b∈frs l,b∈X.fs)->X.s₀.heap.FunFrames X.base l->s.heap.FunFrames X.base l:=by
  intro l
  induction l with
  | nil=>intro _ _;trivial
  | cons env r ih =>
   intro hs hl;obtain⟨hk,⟨L,o,hf,hn,ho,hd⟩,hr⟩:=hl;have hL:L∈X.fs:=hs L (by unfold frs;rw[rX,hf];exact bF);obtain⟨sl,e⟩:=I.base.slot L o ho (I.ok.frf L hL) hL λ z=>I.ok.exfs L z hL;exact⟨hk,⟨L,_,hf,hn,e,hd⟩,ih (λ b hb=>hs b (by unfold frs;rw[rX,hf];exact aM _ hb)) hr⟩
 exact all X.outer (λ _ hb=>hb) I.ok.funs
theorem Inv.stack(I:Inv X pins σ H s):s.heap.FunFrames X.base X.stack:=by
 rcases I.ok.stk with e | ⟨e,hf⟩
 ·rw[e];exact I.funs
 ·rw[e];obtain⟨m,hn,_⟩:=I.loc;refine .cons (by rw[I.ok.kind];decide) hf hn ?_ I.funs;exact Heap.get?_none_of_le (dW I.ok.bsz I.ok.above)
theorem Inv.stkSub(I:Inv X pins σ H s):∀b∈frs X.stack,b∈X.env.locals::X.fs:=λ b hb=>by
 rcases I.ok.stk with e | ⟨e,hf⟩
 ·rw[e] at hb;exact aM _ hb
 ·rw[e] at hb;unfold frs at hb;rw[rX,hf] at hb;exact hb
theorem Inv.stkFree(I:Inv X pins σ H s):∀b∈frs X.stack,H b=none:=λ b hb=>by
 rcases bE.mp (I.stkSub b hb) with e | hb
 ·rw[e];exact I.free
 ·obtain⟨_,o,ho,_⟩:=I.ok.funs.mem hb;exact I.base.free b o ho (I.ok.frf b hb) λ z=>I.ok.exfs b z hb
theorem Inv.step{t':Nat}{d':Drawn}{ch:List Addr}(I:Inv X pins σ H s)
  (hch:∀b∈ch,(b∈X.ex\/X.s₀.heap.objs.size≤b)/\b≠X.env.locals/\(∀x c,X.env.cells.lookup x=some c->c≠b)/\∀p∈X.pn++pins,p.1≠b)
  (keep:∀b o,b≠X.env.locals->b ∉ X.fs->b ∉ ch->s.heap.get? b=some o->H b=none->h'.get? b=some o)
  (slot:∀b o,b≠X.env.locals->b∈X.fs->b ∉ ch->s.heap.get? b=some o->H b=none->∃sl,h'.get? b=some { o with slots:=sl }) (free:∀b o,b ∉ ch->s.heap.get? b=some o->H b=none->H' b=none)
  (there:∀b o,b ∉ ch->s.heap.get? b=some o->∃o',h'.get? b=some o')
  (tups:∀b xs,H b=some (.tup xs)->H' b=some (.tup xs)) (frzs:∀b o u,H b=some (.frz o u)->H' b=some (.frz o u)) (tbls:∀b ps,H b=some (.tbl ps)->∃more,H' b=some (.tbl (ps++more)))
  (ns:∀m,s.heap.Ns X.env.locals m->h'.Ns X.env.locals m) (hok:HOk X.prog X.w H' h') (hg:AllBare g') :
  Inv X pins σ H' { s with heap:=h',gens:=g',drawn:=d',toks:=t' }:=by
 have neL:∀b o,X.s₀.heap.get? b=some o->b≠X.env.locals:=λ b o e=>bM (cD (br e) I.ok.above)
 have neC:∀b o,X.s₀.heap.get? b=some o->b ∉ X.ex->b ∉ ch:=λ b o e hx hb=>by
  rcases(hch b hb).1 with z | z
  ·exact hx z
  ·exact absurd (cD (br e) z) (eV _)
 have cellK:∀x c,X.env.cells.lookup x=some c->∀v,s.heap.IsCell c v->h'.IsCell c v:=λ x c e v ⟨o,ho,hd⟩=>by
  have nch:c ∉ ch:=λ z=>(hch c z).2.2.1 x c e rfl;by_cases hc:c∈X.fs
  ·obtain⟨sl,q⟩:=slot c o (I.cne x c e) hc nch ho (I.freeC x c e);exact⟨_,q,hd⟩
  ·exact⟨o,keep c o (I.cne x c e) hc nch ho (I.freeC x c e),hd⟩
 refine⟨I.ok,I.os,hg,⟨λ b o e n hb hx=>?_,λ b o e n hb hx=>?_,λ b o e n hx=>?_,λ b o e hx=>?_,λ b xs e=>tups b xs (I.base.tups b xs e),λ b o xs e=>frzs b o xs (I.base.frzs b o xs e),λ b ps e=>?_⟩,?_,λ x c e=>?_,?_,λ x c e=>?_,λ p hp=>?_,hok,I.len⟩
 ·exact keep b o (neL b o e) hb (neC b o e hx) (I.base.keep b o e n hb hx) (I.base.free b o e n hx)
 ·obtain⟨sl,e1⟩:=I.base.slot b o e n hb hx;obtain⟨sl',e2⟩:=slot b _ (neL b o e) hb (neC b o e hx) e1 (I.base.free b o e n hx);exact⟨sl',e2⟩
 ·obtain⟨o',e1⟩:=I.base.there b o e hx;exact free b o' (neC b o e hx) e1 (I.base.free b o e n hx)
 ·obtain⟨o',e1⟩:=I.base.there b o e hx;exact there b o' (neC b o e hx) e1
 ·obtain⟨m1,e1⟩:=I.base.tbls b ps e;obtain⟨m2,e2⟩:=tbls b _ e1;exact⟨m1++m2,by rw[e2,s0h]⟩
 ·obtain⟨m,hn,hl⟩:=I.loc;refine⟨m,ns m hn,λ i x v e1 e2 e3=>?_⟩;obtain⟨u,r,l⟩:=hl i x v e1 e2 e3;refine⟨u,r,?_⟩
  rcases l with l | ⟨k,c,e,z⟩
  ·exact .inl l
  ·exact .inr ⟨k,c,e,cellK x c e _ z⟩
 ·obtain⟨v,z⟩:=I.cell x c e;exact⟨v,cellK x c e v z⟩
 ·obtain⟨m,⟨o,_,_,ho,_⟩,_⟩:=I.loc;exact free _ o (λ z=>(hch _ z).2.1 rfl) ho I.free
 ·obtain⟨v,o,ho,hd⟩:=I.cell x c e;exact free c o (λ z=>(hch c z).2.2.1 x c e rfl) ho (I.freeC x c e)
 ·obtain⟨e,n,ne,nf,d⟩:=I.pin p hp;have nch:p.1 ∉ ch:=λ z=>(hch p.1 z).2.2.2 p hp rfl;exact⟨keep p.1 p.2 ne nf nch e n,free p.1 p.2 nch e n,ne,nf,d⟩
theorem Inv.un{t':Nat}(I:Inv X pins σ H s)(u:Un X.fs [] H H' s.heap h')(hok:HOk X.prog X.w H' h'):Inv X pins σ H' { s with heap:=h',toks:=t' }:=by
 obtain⟨m,⟨o,es,ep,ho,r⟩,_⟩:=id I.loc;obtain⟨sl,hL⟩:=u.any ho I.free (by simp)
 exact I.step (g':=s.gens) (d':=s.drawn) (ch:=[]) (λ _ z=>nomatch z) (λ b o _ hb _ e n=>u.keep b o e n hb (by simp)) (λ b o _ hb _ e n=>u.slot b o e n hb (by simp)) (λ b o _ e n=>u.free b o e n (by simp)) (λ b o _ e=>u.there b o e (by simp)) u.tups u.frzs u.tbls (λ m' hm=>by
  obtain⟨o',es',ep',ho',r'⟩:=hm;rw[ho] at ho';cases ho'
  exact⟨_,es',ep',hL,r'⟩) hok I.bare
theorem Inv.call{t':Nat}{d':Drawn}(I:Inv X pins σ H s)(u:Un (frs X.stack) ch H H' s.heap h')(hok:HOk X.prog X.w H' h')(hg:AllBare g')
  (hch:∀b∈ch,(b∈X.ex\/X.s₀.heap.objs.size≤b)/\b≠X.env.locals/\(∀x c,X.env.cells.lookup x=some c->c≠b)/\∀p∈X.pn++pins,p.1≠b) :
  Inv X pins σ H' { s with heap:=h',gens:=g',drawn:=d',toks:=t' }:=by
 obtain⟨m,⟨o,es,ep,ho,r⟩,_⟩:=id I.loc;obtain⟨sl,hL⟩:=u.any ho I.free λ z=>(hch _ z).2.1 rfl
 exact I.step (ch:=ch) hch (λ b o hL hb hc e n=>u.keep b o e n (λ z=>(bE.mp (I.stkSub b z)).elim hL hb) hc) (λ b o _ _ hc e n=>u.any e n hc) (λ b o hc e n=>u.free b o e n hc) (λ b o hc e=>u.there b o e hc) u.tups u.frzs u.tbls (λ m' hm=>by
  obtain⟨o',es',ep',ho',r'⟩:=hm;rw[ho] at ho';cases ho'
  exact⟨_,es',ep',hL,r'⟩) hok hg
theorem Inv.turned{t':Nat}{it:Addr}(I:Inv X pins σ H s)(k:∀b o,b≠it->s.heap.get? b=some o->h'.get? b=some o)(hn:H it=none)(hL:it≠X.env.locals)
  (h1:it∈X.ex\/X.s₀.heap.objs.size≤it) (h2:∀x c,X.env.cells.lookup x=some c->c≠it) (h3:∀p∈X.pn++pins,p.1≠it):Inv X pins σ H { s with heap:=h',toks:=t' }:=by
 have nit:∀b u,H b=some u->b≠it:=λ b u e z=>by rw[z,hn] at e;cases e
 refine I.step (g':=s.gens) (d':=s.drawn) (ch:=[it]) (λ b hb=>?_) (λ b o _ _ hc e _=>k b o (λ z=>hc (by simp[z])) e) (λ b o _ _ hc e _=>⟨o.slots,k b o (λ z=>hc (by simp[z])) e⟩) (λ _ _ _ _ n=>n)
  (λ b o hc e=>⟨o,k b o (λ z=>hc (by simp[z])) e⟩) (λ _ _ e=>e) (λ _ _ _ e=>e) (λ b ps e=>⟨#[],by rw[e];simp⟩) (λ m hm=>?_) (λ b u e=>?_) I.bare
 ·have e:b=it:=by simpa using hb
  subst e;exact⟨h1,hL,h2,h3⟩
 ·obtain⟨o,es,ep,ho,r⟩:=hm;exact⟨o,es,ep,k _ o (cY hL) ho,r⟩
 ·refine(I.hok b u e).stay (λ c v hc q=>k c v ?_ q) (λ _ q=>q) λ _ _ q=>q
  rcases hc with z | z
  ·rw[z];exact nit b u e
  ·exact nit c _ z
theorem Inv.tok(I:Inv X pins σ H s)(t:Nat):Inv X pins σ H { s with toks:=t }:=I.un (h':=s.heap) (t':=t) Un.refl I.hok
theorem Inv.kept{t':Nat}(I:Inv X pins σ H s)(k:∀b u,s.heap.get? b=some u->h'.get? b=some u):Inv X pins σ H { s with heap:=h',toks:=t' }:=I.un (Un.kept k) (I.hok.kept k)
theorem Inv.laid{a:Addr}{t':Nat}(I:Inv X pins σ H s)(k:∀b u,s.heap.get? b=some u->h'.get? b=some u)(hp:s.heap.objs.size≤a)(new:ObjOk X.prog X.w (upd H a o) h' a o) :
  Inv X pins σ (upd H a o) { s with heap:=h',toks:=t' }:=I.un (Un.laid k hp (I.hok.fresh hp)) (I.hok.laid k hp new)
theorem Inv.write{x e:Addr}{t':Nat}(I:Inv X pins σ H s)(mu:Mut (H x))(he:e=x\/H e=some (.own x))(k:∀b u,b≠e->s.heap.get? b=some u->h'.get? b=some u)(heo:∃u,h'.get? e=some u)
  (new:ObjOk X.prog X.w (upd H x o) h' x o):Inv X pins σ (upd H x o) { s with heap:=h',toks:=t' }:=I.un (Un.write mu he k heo) (I.hok.write mu he k heo new)
theorem Inv.pins_of{pins':LO}(I:Inv X pins σ H s)(h:∀p∈pins',s.heap.get? p.1=some p.2/\H p.1=none/\p.1≠X.env.locals/\p.1 ∉ X.fs/\∀v,p.2.data≠.cell v):Inv X pins' σ H s :=
 ⟨I.ok,I.os,I.bare,I.base,I.loc,I.cell,I.free,I.freeC,λ p hp=>(cZ.mp hp).elim (λ z=>I.pin p (lN _ z)) (h p),I.hok,I.len⟩
theorem vO{N:List Str}(hN:N.Nodup){i j:Nat}(a:N[i]?=some x)(b:N[j]?=some x):i=j:=by
 obtain⟨h1,e1⟩:=bv.mp a;obtain⟨h2,e2⟩:=bv.mp b;exact(List.getElem_inj hN).mp (e1.trans e2.symm)
theorem rY{i:Nat}{Q:Unit->Shared->Prop}(I:Inv X pins σ H s)(hN:X.N.Nodup)(hi:X.N[i]?=some x)(hx:Loc X.env.scope x)(r:RelV v u)
  (h:∀s',Inv X pins (σ.set i (some v)) H s'->(∃a,Heap.SameBut a s.heap s'.heap/\(a=X.env.locals\/X.env.cells.lookup x=some a))->Q () s') (hf:X.fn x=true\/X.env.scope.names.lookup x=some .local:=by first | exact .inl rfl | exact .inr rfl | assumption):wpAny M A (storeName X.env x u) Q E s:=by
 obtain⟨m,hn,hl⟩:=id I.loc;have hcls:(X.env.scope.kind == .class || (X.env.scope.kind == .module && X.env.locals != X.env.globals))=false:=by rw[I.ok.kind];rfl
 have hiσ:i < σ.length:=by rw[I.len];exact(bv.mp hi).1
 have cne:=I.cne
 have tracked:∀ {a:Addr}{h':Heap},(∃o,s.heap.get? a=some o/\H a=none)->Heap.SameBut a s.heap h'->HOk X.prog X.w H h':=λ {a h'} ha hs b ob e=>by
  obtain⟨_,_,hfree⟩:=ha;refine(I.hok b ob e).stay (λ c w' hc q=>(hs.2 c ?_).trans q) (λ _ q=>q) λ _ _ q=>q;rintro rfl
  rcases hc with rfl | hc
  ·rw[hfree] at e;cases e
  ·rw[hfree] at hc;cases hc
 rcases hx with hk | hk
 ·refine vP hk hn (λ h' hn' hs=>?_) hcls;obtain⟨oL,_,_,hoL,_⟩:=id hn;refine h _ ⟨I.ok,I.os,I.bare,⟨λ b o e n hb hx=>?_,λ b o e n hb hx=>?_,I.base.free,λ b o e hx=>?_,I.base.tups,I.base.frzs,I.base.tbls⟩,⟨_,hn',λ j y v' e1 e2 e3=>?_⟩,λ y c e=>?_,I.free,I.freeC,λ p hp=>?_,tracked ⟨oL,hoL,I.free⟩ hs,by simpa using I.len⟩ ⟨_,hs,.inl rfl⟩
  ·exact(hs.2 b (bM (cD (br e) I.ok.above))).trans (I.base.keep b o e n hb hx)
  ·obtain⟨sl,e1⟩:=I.base.slot b o e n hb hx;exact⟨sl,(hs.2 b (bM (cD (br e) I.ok.above))).trans e1⟩
  ·obtain⟨o',e1⟩:=I.base.there b o e hx;exact⟨o',(hs.2 b (bM (cD (br e) I.ok.above))).trans e1⟩
  ·by_cases hj:j=i
   ·subst hj;rw[hi] at e1;cases e1;rw[lO hiσ] at e2;cases e2;exact⟨u,r,.inl ⟨hk,by simp⟩⟩
   ·rw[nD (cY hj)] at e2;obtain⟨u',r',q⟩:=hl j y v' e1 e2 e3;refine⟨u',r',?_⟩
    rcases q with ⟨k,e⟩ | ⟨k,c,e,z⟩
    ·refine .inl ⟨k,?_⟩;have:y≠x:=λ e=>hj (vO hN e1 (e ▸ hi));simp[this,e]
    ·exact .inr ⟨k,c,e,z.sameBut hs (cne y c e)⟩
  ·obtain⟨w',z⟩:=I.cell y c e;exact⟨w',z.sameBut hs (cne y c e)⟩
  ·obtain⟨e,n,ne,nf,d⟩:=I.pin p hp;exact⟨(hs.2 p.1 ne).trans e,n,ne,nf,d⟩
 ·have hfn:X.fn x=true:=by
   rcases hf with z | z
   ·exact z
   ·rw[z] at hk;cases hk
  obtain⟨c,hc⟩:=I.ok.has x (.inl hk);obtain⟨w',z⟩:=I.cell x c hc;refine vQ I.ok.kind hk hc z (λ h' hc' hs=>?_);obtain⟨oc,hoc,hocd⟩:=id z;refine h { s with heap:=h' } ⟨I.ok,I.os,I.bare,⟨λ b o e n hb hx=>?_,λ b o e n hb hx=>?_,I.base.free,λ b o e hx=>?_,I.base.tups,I.base.frzs,I.base.tbls⟩,⟨m,hn.sameBut hs (cY (cne x c hc)),λ j y v' e1 e2 e3=>?_⟩,λ y c' e=>?_,I.free,I.freeC,λ p hp=>?_,tracked ⟨oc,hoc,I.freeC x c hc⟩ hs,by simpa using I.len⟩ ⟨c,hs,.inr hc⟩
  ·exact(hs.2 b (bM (cD (br e) (I.ok.cab x c hfn hc)))).trans (I.base.keep b o e n hb hx)
  ·obtain⟨sl,e1⟩:=I.base.slot b o e n hb hx;exact⟨sl,(hs.2 b (bM (cD (br e) (I.ok.cab x c hfn hc)))).trans e1⟩
  ·obtain⟨o',e1⟩:=I.base.there b o e hx;exact⟨o',(hs.2 b (bM (cD (br e) (I.ok.cab x c hfn hc)))).trans e1⟩
  ·by_cases hj:j=i
   ·subst hj;rw[hi] at e1;cases e1;rw[lO hiσ] at e2;cases e2;exact⟨u,r,.inr ⟨.inl hk,c,hc,hc'⟩⟩
   ·rw[nD (cY hj)] at e2;obtain⟨u',r',q⟩:=hl j y v' e1 e2 e3;refine⟨u',r',?_⟩
    rcases q with q | ⟨k,c',e,z'⟩
    ·exact .inl q
    ·refine .inr ⟨k,c',e,z'.sameBut hs ?_⟩;rintro rfl;exact hj (vO hN e1 (I.ok.inj _ _ _ e hc ▸ hi))
  ·by_cases hcc:c'=c
   ·subst hcc;exact⟨_,hc'⟩
   ·obtain⟨w2,z2⟩:=I.cell y c' e;exact⟨w2,z2.sameBut hs hcc⟩
  ·obtain⟨e,n,ne,nf,d⟩:=I.pin p hp;refine⟨(hs.2 p.1 ?_).trans e,n,ne,nf,d⟩;intro q;rw[q,hoc] at e;have q':oc=p.2:=cz e;exact d w' (by rw[← q'];exact hocd)
theorem rZ{i:Nat}{Q:Unit->Shared->Prop}(I:Inv X pins σ H s)(hN:X.N.Nodup)(hi:X.N[i]?=some x)(hx:Loc X.env.scope x)(r:RelV v u)
  (h:∀s',Inv X pins (σ.set i (some v)) H s'->Q () s') (hf:X.fn x=true\/X.env.scope.names.lookup x=some .local:=by first | exact .inl rfl | exact .inr rfl | assumption):wpAny M A (storeName X.env x u) Q E s :=
 rY I hN hi hx r (λ s' I' _=>h s' I') hf
theorem Inv.call'{s':Shared}(I:Inv X pins σ H s)(ho:s'.os=s.os)(u:Un (frs X.stack) ch H H' s.heap s'.heap)(hok:HOk X.prog X.w H' s'.heap)(hg:AllBare s'.gens)
  (hch:∀b∈ch,(b∈X.ex\/X.s₀.heap.objs.size≤b)/\b≠X.env.locals/\(∀x c,X.env.cells.lookup x=some c->c≠b)/\∀p∈X.pn++pins,p.1≠b):Inv X pins σ H' s':=by
 obtain⟨h',g',d',t',o'⟩:=s';have e:o'=s.os:=ho;subst e;exact I.call (g':=g') (t':=t') (d':=d') u hok hg hch
end
abbrev XK:=Value->OA->Hp->Prop
abbrev St:=List (Option V)
abbrev VK:=V->Hp->Prop
abbrev TE:=St->Hp->VK->Prop
abbrev TT:=St->Hp->(Bool->Hp->Prop)->Prop
abbrev TA:=St->Hp->(List V->Hp->Prop)->Prop
structure Ends where
 nx:St->Hp->Prop
 rt:VK
 bk:St->Hp->Prop:=λ _ _=>False
 ct:St->Hp->Prop:=λ _ _=>False
abbrev TS:=Ends->St->Hp->Prop
def EP(X:Cx)(pins:LO)(σ:St)(Q:VK)(u:Value)(s':Shared):Prop:=∃v H',Inv X pins σ H' s'/\RelV v u/\Q v H'
def TP(X:Cx)(pins:LO)(σ:St)(Q:Bool->Hp->Prop)(b:Bool)(s':Shared):Prop:=∃H',Inv X pins σ H' s'/\Q b H'
def AP(X:Cx)(pins:LO)(σ:St)(Q:List V->Hp->Prop)(us:LV)(s':Shared):Prop:=∃vs H',Inv X pins σ H' s'/\Vals vs us/\Q vs H'
noncomputable def SP(X:Cx)(pins:LO)(D:Ends)(f:Flow)(s':Shared):Prop :=
 match f with
 | .next=>∃σ' H',Inv X pins σ' H' s'/\D.nx σ' H'
 | .brk=>∃σ' H',Inv X pins σ' H' s'/\D.bk σ' H'
 | .cont=>∃σ' H',Inv X pins σ' H' s'/\D.ct σ' H'
 | .ret u=>∃v σ' H',Inv X pins σ' H' s'/\RelV v u/\D.rt v H'
noncomputable def PE(X:Cx)(e:Expr)(t:TE):Prop :=
 ∀(pins:LO) (s:Shared) (σ:St) (H:Hp) (Q:VK),Inv X pins σ H s->t σ H Q->wpAny (model X.prog X.w) X.A (eval e X.env) (EP X pins σ Q) X.xe s
noncomputable def PT(X:Cx)(e:Expr)(t:TT):Prop :=
 ∀(pins:LO) (s:Shared) (σ:St) (H:Hp) (Q:Bool->Hp->Prop),Inv X pins σ H s->t σ H Q->wpAny (model X.prog X.w) X.A (isTrue e X.env (eval e X.env)) (TP X pins σ Q) X.xe s
noncomputable def PW(X:Cx)(e:Expr)(t:TT):Prop :=
 ∀(whole:Sem Value) (pins:LO) (s:Shared) (σ:St) (H:Hp) (Q:Bool->Hp->Prop),Inv X pins σ H s->t σ H Q->wpAny (model X.prog X.w) X.A (isTrue e X.env whole) (TP X pins σ Q) X.xe s
theorem PW.pt(h:PW X e t):PT X e t:=h _
noncomputable def PA(X:Cx)(es:List Expr)(t:TA):Prop :=
 ∀(pos:Pos) (pins:LO) (s:Shared) (σ:St) (H:Hp) (Q:List V->Hp->Prop),Inv X pins σ H s->t σ H Q->wpAny (model X.prog X.w) X.A (spliced (backTo pos (starEach es X.env))) (AP X pins σ Q) X.xe s
noncomputable def PS(X:Cx)(st:Stmt)(t:TS):Prop :=
 ∀(pins:LO) (s:Shared) (σ:St) (H:Hp) (D:Ends),Inv X pins σ H s->t D σ H->wpAny (model X.prog X.w) X.A (exec st X.env) (SP X pins D) X.xe s
noncomputable def PSs(X:Cx)(st:List Stmt)(t:TS):Prop :=
 ∀(pins:LO) (s:Shared) (σ:St) (H:Hp) (D:Ends),Inv X pins σ H s->t D σ H->wpAny (model X.prog X.w) X.A (execs st X.env) (SP X pins D) X.xe s
theorem thn{α:Type}{t:Sem α}{Q Q':α->Shared->Prop}(h:wpAny M A t Q E s)(hQ:∀a s,Q a s->Q' a s):wpAny M A t Q' E s:=dG h hQ λ _ _ x=>x
section
variable {X:Cx}
def isB(x:V)(P:Bool->Prop):Prop:=match x with | .bl k=>P k | _=>False
def isI(x:V)(P:Int->Prop):Prop:=match x with | .int k=>P k | _=>False
def nE(x y:V)(P:Int->Int->Prop):Prop:=match x,y with | .int i,.int j=>P i j | _,_=>False
def lQ(x y:V)(P:Addr->Int->Prop):Prop:=match x,y with | .ref i,.int j=>P i j | _,_=>False
theorem kC(h:isB x P):∃k,x=.bl k/\P k:=by cases x<;>first | exact⟨_,rfl,h⟩ | exact h.elim
theorem se(h:isI x P):∃k,x=.int k/\P k:=by cases x<;>first | exact⟨_,rfl,h⟩ | exact h.elim
theorem ph(h:nE x y P):∃i j,x=.int i/\y=.int j/\P i j:=by cases x<;>cases y<;>first | exact⟨_,_,rfl,rfl,h⟩ | exact h.elim
theorem pj(h:lQ x y P):∃i j,x=.ref i/\y=.int j/\P i j:=by cases x<;>cases y<;>first | exact⟨_,_,rfl,rfl,h⟩ | exact h.elim
theorem DC:isB x P=∃k,x=.bl k/\P k:=propext ⟨kC,by rintro⟨k,rfl,h⟩;exact h⟩
theorem DD:isI x P=∃k,x=.int k/\P k:=propext ⟨se,by rintro⟨k,rfl,h⟩;exact h⟩
theorem DE:nE x y P=∃i j,x=.int i/\y=.int j/\P i j:=propext ⟨ph,by rintro⟨i,j,rfl,rfl,h⟩;exact h⟩
theorem DF:lQ x y P=∃i j,x=.ref i/\y=.int j/\P i j:=propext ⟨pj,by rintro⟨i,j,rfl,rfl,h⟩;exact h⟩
def iU(i:Nat):TE:=λ σ H Q=>match σ[i]? with | some (some v)=>Q v H | _=>False
theorem DG(h:iU i σ H Q):∃v,σ[i]?=some (some v)/\Q v H:=by
 unfold iU at h;split at h
 ·rename_i v e;exact⟨v,e,h⟩
 ·exact h.elim
def tC(v:V):TE:=λ _ H Q=>Q v H
theorem vR{i:Nat}(hN:X.N[i]?=some x)(hv:Vis X.env.scope x)(hd:(x == ("__debug__" : Str))=false:=by decide)(hcd:(x == ("__classdict__" : Str))=false:=by decide):PE X (.Name x pos) (iU i):=by
 intro pins s σ H Q I h;obtain⟨v,e,h⟩:=DG h;obtain⟨m,hn,hl⟩:=I.loc;obtain⟨u,r,l⟩:=hl i x v hN e hv;have fin:EP X pins σ Q u s:=⟨v,H,I,r,h⟩
 rcases l with ⟨hk,hm⟩ | ⟨hk,c,hc,hcell⟩
 ·exact wpAny_Name (wpAny_loadName_local I.ok.kind hk hn hm fin) hd
 ·rcases hk with hk | hk
  ·exact wpAny_Name (wpAny_loadName_cell I.ok.kind hk hc hcell fin) hd
  ·exact wpAny_Name (wpAny_loadName_free I.ok.kind hk hc hcell fin hcd) hd
theorem ae{i j pos}:PE X (.Constant (.int i) j pos) (tC (.int i)):=λ _ _ _ H _ I h=>wpAny_Constant_int ⟨.int i,H,I.tok _,⟨_,rfl⟩,h⟩
theorem fZ{b j pos}:PE X (.Constant (.bool b) j pos) (tC (.bl b)):=λ _ _ _ H _ I h=>Constant_bool ⟨.bl b,H,I,rfl,h⟩
theorem lR{j pos}:PE X (.Constant .none j pos) (tC .non):=λ _ _ _ H _ I h=>Constant_none ⟨.non,H,I,rfl,h⟩
theorem aO{x j pos}:PE X (.Constant (.str x) j pos) (tC (.str x)):=λ _ _ _ H _ I h=>Calls.Constant_str ⟨.str x,H,I.tok _,⟨_,rfl⟩,h⟩
def Gl(X:Cx)(x:Str):Prop:=X.env.kindOf x=some .globalImplicit
theorem pq{Q:VS}(I:Inv X pins σ H s)(hg:Gl X x)(hm:X.mg x=some u)(h:Q u s)
  (hd:(x == ("__debug__" : Str))=false:=by decide):wpAny (model X.prog X.w) X.A (eval (.Name x pos) X.env) Q E s :=
 vS I.ok.kind hg (Calls.loadGlobal_global (by rw[I.ok.glob];exact I.mod.glob.keeps I.bk) hm h) hd
theorem fQ{Q:VS}(I:Inv X pins σ H s)(hg:Gl X x)(hm:X.mg x=none)(hv:bootBuiltins x=some u)(h:Q u s)
  (hn:x ≠ "__name__" := by decide) (hd:(x == ("__debug__" : Str))=false:=by decide):wpAny (model X.prog X.w) X.A (eval (.Name x pos) X.env) Q E s:=by
 obtain⟨mb,h1,h2⟩:=I.mod.blt;exact vS I.ok.kind hg (Calls.loadGlobal_builtin (by rw[I.ok.glob];exact I.mod.glob.keeps I.bk) hm (by rw[I.ok.blt];exact h1.keeps I.bk) ((h2 x hn).trans hv) h) hd
theorem jI(hg:Gl X x)(hm:X.mg x=some u)(r:RelV v u)(hd:(x == ("__debug__" : Str))=false:=by decide):PE X (.Name x pos) (tC v) :=
 λ _ _ _ H _ I h=>pq I hg hm ⟨v,H,I,r,h⟩ hd
theorem lT(hg:Gl X x)(hm:X.mg x=none)(hv:bootBuiltins x=some u)(r:RelV v u)(hn:x ≠ "__name__" := by decide)(hd:(x == ("__debug__" : Str))=false:=by decide):PE X (.Name x pos) (tC v) :=
 λ _ _ _ H _ I h=>fQ I hg hm hv ⟨v,H,I,r,h⟩ hn hd
variable {a b:Expr}{ta tb:TE}{pos:Pos}
def tB(t:TE):TT:=λ σ H Q=>t σ H λ x H1=>isB x λ c=>Q c H1
theorem eW(h:PE X e t)(he:∀whole,isTrue e X.env whole=(do let v ← whole;standAt e.pos;holding [v] (truthy v)):=by intro _;rfl):PT X e (tB t):=by
 intro pins s σ H Q I hw;refine isTrue_plain (thn (h pins s σ H _ I hw) λ v s1 ⟨x,H1,I1,r1,q1⟩=>?_) (he _);obtain⟨d,rfl,q⟩:=kC q1;cases r1;exact iV ⟨H1,I1,q⟩
variable {tA tB':TT}{rest:List Expr}
def vT(t u:TT):TT:=λ σ H Q=>t σ H λ c H1=>if c=true then u σ H1 Q else Q false H1
def tOr(t u:TT):TT:=λ σ H Q=>t σ H λ c H1=>if c=true then Q true H1 else u σ H1 Q
def vU(t:TT):TT:=λ σ H Q=>t σ H λ c H1=>Q (!c) H1
theorem kD(ha:PT X a tA):PW X (.BoolOp .And [a] pos) tA:=by
 intro wh pins s σ H Q I h;refine isTrue_and (thn (ha pins s σ H Q I h) λ c s1 e=>?_)
 cases c with
 | true=>exact isTrue_and_nil e
 | false=>exact e
theorem eK(ha:PT X a tA):PW X (.BoolOp .Or [a] pos) tA:=by
 intro wh pins s σ H Q I h;refine isTrue_or (thn (ha pins s σ H Q I h) λ c s1 e=>?_)
 cases c with
 | false=>exact isTrue_or_nil e
 | true=>exact e
theorem kE(ha:PT X a tA)(hb:PW X (.BoolOp .And (b::rest) pos) tB'):PW X (.BoolOp .And (a::b::rest) pos) (vT tA tB'):=by
 intro wh pins s σ H Q I h;refine isTrue_and (thn (ha pins s σ H _ I h) λ c s1 ⟨H1,I1,q1⟩=>?_)
 cases c with
 | true=>exact hb wh pins s1 σ H1 Q I1 q1
 | false=>exact⟨H1,I1,q1⟩
theorem dH(ha:PT X a tA)(hb:PW X (.BoolOp .Or (b::rest) pos) tB'):PW X (.BoolOp .Or (a::b::rest) pos) (tOr tA tB'):=by
 intro wh pins s σ H Q I h;refine isTrue_or (thn (ha pins s σ H _ I h) λ c s1 ⟨H1,I1,q1⟩=>?_)
 cases c with
 | true=>exact⟨H1,I1,q1⟩
 | false=>exact hb wh pins s1 σ H1 Q I1 q1
theorem gC(ha:PT X a tA):PT X (.UnaryOp .Not a pos) (vU tA):=by
 intro pins s σ H Q I h;exact isTrue_not (ha pins s σ H (λ c H1=>Q (!c) H1) I h)
def vV(ta tb:TE):TE:=λ σ H Q=>ta σ H λ x H1=>isB x λ c=>if c=true then tb σ H1 Q else Q (.bl false) H1
def vW(ta tb:TE):TE:=λ σ H Q=>ta σ H λ x H1=>isB x λ c=>if c=true then Q (.bl true) H1 else tb σ H1 Q
def vX(ta:TE):TE:=λ σ H Q=>ta σ H λ x H1=>∃c,x=.bl c/\Q (.bl (!c)) H1
theorem sf{op}(h:PE X a t):PE X (.BoolOp op [a] pos) t:=λ pins s σ H Q I hw=>BoolOp_one (h pins s σ H Q I hw)
theorem DH(ha:PE X a ta)(hb:PE X (.BoolOp .And (b::rest) pos) tb):PE X (.BoolOp .And (a::b::rest) pos) (vV ta tb):=by
 intro pins s σ H Q I h;refine BoolOp_and (thn (ha pins s σ H _ I h) λ v s1 ⟨x,H1,I1,r1,q1⟩=>?_);obtain⟨c,rfl,q1⟩:=kC q1;cases r1;refine iV ?_
 cases c with
 | true=>exact hb pins s1 σ H1 Q I1 q1
 | false=>exact⟨.bl false,H1,I1,rfl,q1⟩
theorem vY(ha:PE X a ta)(hb:PE X (.BoolOp .Or (b::rest) pos) tb):PE X (.BoolOp .Or (a::b::rest) pos) (vW ta tb):=by
 intro pins s σ H Q I h;refine BoolOp_or (thn (ha pins s σ H _ I h) λ v s1 ⟨x,H1,I1,r1,q1⟩=>?_);obtain⟨c,rfl,q1⟩:=kC q1;cases r1;refine iV ?_
 cases c with
 | false=>exact hb pins s1 σ H1 Q I1 q1
 | true=>exact⟨.bl true,H1,I1,rfl,q1⟩
theorem DI(ha:PE X a ta):PE X (.UnaryOp .Not a pos) (vX ta):=by
 intro pins s σ H Q I h;refine UnaryOp_ (thn (ha pins s σ H _ I h) λ v s1 ⟨x,H1,I1,r1,q1⟩=>?_);obtain⟨c,rfl,q1⟩:=q1;cases r1;exact not_of (iV ⟨.bl (!c),H1,I1,rfl,q1⟩)
def tIf(t:TT)(ta tb:TE):TE:=λ σ H Q=>t σ H λ c H1=>if c=true then ta σ H1 Q else tb σ H1 Q
theorem iW(hc:PT X c tA)(ha:PE X a ta)(hb:PE X b tb):PE X (.IfExp c a b pos) (tIf tA ta tb):=by
 intro pins s σ H Q I h;refine wpAny_IfExp (thn (hc pins s σ H _ I h) λ d s1 ⟨H1,I1,q1⟩=>?_)
 cases d with
 | true=>exact ha pins s1 σ H1 Q I1 q1
 | false=>exact hb pins s1 σ H1 Q I1 q1
end
noncomputable def SqL(K:FG)(H:Hp)(a:Addr)(xs:List V):Prop :=
 Rd H a (.lst xs) \/
  ∃(o:Obj) (its:Array Value) (n:Nat),K.lookup a=some o/\o.cls=.type "list" /\ o.dict=none/\o.data=.seq its n/\its.size≤sizeLine/\Vals xs its.toList
noncomputable def SqT(K:FG)(H:Hp)(a:Addr)(xs:List V):Prop :=
 Rd H a (.tup xs) \/
  ∃(o:Obj) (its:Array Value) (n:Nat),K.lookup a=some o/\o.cls=.type "tuple" /\ o.data=.seq its n/\its.size≤sizeLine/\Vals xs its.toList
noncomputable def DJ:Value->Option V
 | .none=>some .non
 | .bool b=>some (.bl b)
 | .int i _=>some (.int i)
 | .str x _=>some (.str x)
 | .bytes b _=>some (.byt b)
 | .float b _=>some (.flt b)
 | .ref a=>some (.ref a)
 | .type n=>some (.ty n)
 | _=>none
theorem RelV.abs(r:RelV x u):DJ u=some x:=by
 cases x with
 | non=>cases r;rfl
 | bl _=>cases r;rfl
 | int _=>obtain⟨t,rfl⟩:=r;rfl
 | str _=>obtain⟨t,rfl⟩:=r;rfl
 | byt _=>obtain⟨t,rfl⟩:=r;rfl
 | flt _=>obtain⟨t,rfl⟩:=r;rfl
 | ref _=>cases r;rfl
 | ty _=>cases r;rfl
theorem RelV.inj(r:RelV x u)(q:RelV y u):x=y:=cz (r.abs.symm.trans q.abs)
theorem Vals.inj:∀ {xs ys:List V}{us:LV},Vals xs us->Vals ys us->xs=ys
 | _,_,_,.nil,.nil=>rfl
 | _,_,_,.cons r t,.cons r' t'=>by rw[r.inj r',Vals.inj t t']
section
variable {X:Cx}{pins:LO}{σ:St}{H:Hp}{s:Shared}{a:Addr}{xs ys:List V}
theorem SqL.of{K:FG}(h:H a=some (.lst xs)):SqL K H a xs:=.inl (.inl h)
theorem SqT.of{K:FG}(h:H a=some (.tup xs)):SqT K H a xs:=.inl (.inl h)
theorem Inv.list(I:Inv X pins σ H s)(h:SqL X.K H a xs):∃its:LV,Vals xs its/\PlainL s.heap a its.toArray/\xs.length≤sizeLine:=by
 rcases h with h | ⟨o,its,n,hk,hc,hd,hs,hz,r⟩
 ·obtain⟨z,its,n,r,e⟩:=h.ok I.hok;exact⟨its,r,⟨_,n,e,rfl,rfl,rfl⟩,z⟩
 ·refine⟨its.toList,r,⟨o,n,I.kIn a o hk,hc,hd,by simpa using hs⟩,?_⟩;have e:=r.length;simp only[Array.length_toList] at e;lia
theorem Inv.tuple(I:Inv X pins σ H s)(h:SqT X.K H a xs):∃its:LV,Vals xs its/\IsTup s.heap a its.toArray/\xs.length≤sizeLine:=by
 rcases h with h | ⟨o,its,n,hk,hc,hs,hz,r⟩
 ·obtain⟨z,its,r,p⟩:=h.ok I.hok;exact⟨its,r,p,z⟩
 ·refine⟨its.toList,r,⟨o,I.kIn a o hk,hc,n,by simpa using hs⟩,?_⟩;have e:=r.length;simp only[Array.length_toList] at e;lia
theorem Inv.list_inj(I:Inv X pins σ H s)(h:SqL X.K H a xs)(h':SqL X.K H a ys):xs=ys:=by
 obtain⟨its,r,⟨o,n,e,_,_,d⟩,_⟩:=I.list h;obtain⟨its',r',⟨o',n',e',_,_,d'⟩,_⟩:=I.list h';rw[e] at e';cases e';rw[d] at d'
 injection d' with d1 _
 have:its=its':=by simpa using dA Array.toList d1
 subst this;exact r.inj r'
theorem Inv.tuple_inj(I:Inv X pins σ H s)(h:SqT X.K H a xs)(h':SqT X.K H a ys):xs=ys:=by
 obtain⟨its,r,⟨o,e,_,n,d⟩,_⟩:=I.tuple h;obtain⟨its',r',⟨o',e',_,n',d'⟩,_⟩:=I.tuple h';rw[e] at e';cases e';rw[d] at d'
 injection d' with d1 _
 have:its=its':=by simpa using dA Array.toList d1
 subst this;exact r.inj r'
end
abbrev Cx.wish(X:Cx)(E:VS):Cx:={ X with xe:=E }
abbrev Cx.nox(X:Cx):Cx:=X.wish λ _ _=>False
theorem Cx.Ok.wish{X:Cx}(ok:X.Ok)(E:VS):(X.wish E).Ok :=
 ⟨ok.mod,ok.kind,ok.glob,ok.blt,ok.above,ok.inj,ok.has,ok.cab,ok.hd,ok.frames,ok.stk,ok.exf,ok.bs,ok.bsz,ok.noex,ok.exfs,ok.funs,ok.frf⟩
theorem Cx.Ok.unwish{X:Cx}(ok:(X.wish E).Ok):X.Ok :=
 ⟨ok.mod,ok.kind,ok.glob,ok.blt,ok.above,ok.inj,ok.has,ok.cab,ok.hd,ok.frames,ok.stk,ok.exf,ok.bs,ok.bsz,ok.noex,ok.exfs,ok.funs,ok.frf⟩
section
variable {X:Cx}{pins:LO}{σ:St}{H:Hp}{s:Shared}{E:VS}
theorem Inv.wish(I:Inv X pins σ H s)(E:VS):Inv (X.wish E) pins σ H s:=⟨I.ok.wish E,I.os,I.bare,I.base,I.loc,I.cell,I.free,I.freeC,I.pin,I.hok,I.len⟩
theorem Inv.unwish(I:Inv (X.wish E) pins σ H s):Inv X pins σ H s:=⟨I.ok.unwish,I.os,I.bare,I.base,I.loc,I.cell,I.free,I.freeC,I.pin,I.hok,I.len⟩
theorem SP.unwish(h:SP (X.wish E) pins D f s'):SP X pins D f s':=by
 cases f with
 | next=>obtain⟨σ',H',I,q⟩:=h;exact⟨σ',H',I.unwish,q⟩
 | brk=>obtain⟨σ',H',I,q⟩:=h;exact⟨σ',H',I.unwish,q⟩
 | cont=>obtain⟨σ',H',I,q⟩:=h;exact⟨σ',H',I.unwish,q⟩
 | ret u=>obtain⟨v,σ',H',I,r,q⟩:=h;exact⟨v,σ',H',I.unwish,r,q⟩
theorem PSs.nox{st:List Stmt}(h:PSs X.nox st t):PSs X st t:=λ pins s σ H D I hw =>
 dG (h pins s σ H D (I.wish _) hw) (λ _ _ q=>q.unwish) λ _ _ z=>False.elim z
end
section
variable {X:Cx}{st:Stmt}{rest:List Stmt}{t u:TS}{e:Expr}{te:TE}{pos:Pos}
def sh:TS:=λ D σ H=>D.nx σ H
def eX(t u:TS):TS:=λ D σ H=>t { D with nx:=u D } σ H
theorem iX:PSs X [] sh:=λ _ _ σ H _ I h=>px ⟨σ,H,I,h⟩
theorem bB(h1:PS X st t)(h2:PSs X rest u):PSs X (st::rest) (eX t u):=by
 intro pins s σ H D I h;refine wpAny_execs_cons (thn (h1 pins s σ H { D with nx:=u D } I h) λ f s1 q=>?_)
 cases f with
 | next =>
  obtain⟨σ',H',I',q⟩:=q;exact h2 pins s1 σ' H' D I' q
 | ret v=>exact q
 | brk=>exact q
 | cont=>exact q
theorem bx(h1:PS X st t):PSs X [st] t:=by
 intro pins s σ H D I h;refine wpAny_execs_cons (thn (h1 pins s σ H D I h) λ f s1 q=>?_)
 cases f with
 | next=>exact px q
 | ret v=>exact q
 | brk=>exact q
 | cont=>exact q
theorem Inv.quiet(I:Inv X pins σ H s):interactive X.env=false:=by simp[interactive,I.ok.kind]
def vZ(te:TE):TS:=λ D σ H=>te σ H λ _ H1=>D.nx σ H1
theorem cB(he:PE X e te)(hs:swapsWith e none pos.line X.env=pure false:=by rfl):PS X (.Expr e pos) (vZ te):=by
 intro pins s σ H D I h;exact wpAny_Expr_any (thn (he pins s σ H _ I h) λ v s1 ⟨x,H1,I1,r1,q1⟩=>⟨σ,H1,I1,q1⟩) I.quiet hs
def sj(te:TE):TS:=λ D σ H=>te σ H D.rt
theorem DK(he:PE X e te):PS X (.Return (some e) pos) (sj te):=by
 intro pins s σ H D I h;exact wpAny_Return_some (thn (he pins s σ H _ I h) λ v s1 ⟨x,H1,I1,r1,q1⟩=>⟨x,σ,H1,I1,r1,q1⟩)
def da(c:TT)(t u:TS):TS:=λ D σ H=>c σ H λ b H1=>if b=true then t D σ H1 else u D σ H1
theorem iq(hc:PT X c tc)(ha:PSs X a t)(hb:PSs X b u):PS X (.If c a b pos) (da tc t u):=by
 intro pins s σ H D I h;refine wpAny_If (thn (hc pins s σ H _ I h) λ d s1 ⟨H1,I1,q1⟩=>?_)
 cases d with
 | true=>exact ha pins s1 σ H1 D I1 q1
 | false=>exact hb pins s1 σ H1 D I1 q1
def wa:TS:=λ _ _ _=>False
theorem du:PS X st wa:=λ _ _ _ _ _ _ h=>h.elim
end
abbrev TG:=V->St->Hp->(St->Hp->Prop)->Prop
abbrev TGs:=List V->St->Hp->(St->Hp->Prop)->Prop
noncomputable def PG(X:Cx)(target:Expr)(t:TG):Prop :=
 ∀(pins:LO) (s:Shared) (σ:St) (H:Hp) (v:V) (u:Value) (Q:St->Hp->Prop),Inv X pins σ H s->RelV v u->t v σ H Q ->
  wpAny (model X.prog X.w) X.A (assign target X.env u) (λ _ s'=>∃σ' H',Inv X pins σ' H' s'/\Q σ' H') X.xe s
noncomputable def PGs(X:Cx)(ts:List Expr)(t:TGs):Prop :=
 ∀(pins:LO) (s:Shared) (σ:St) (H:Hp) (vs:List V) (us:LV) (Q:St->Hp->Prop),Inv X pins σ H s->Vals vs us->t vs σ H Q ->
  wpAny (model X.prog X.w) X.A (assignInOrder ((assignEach ts X.env).map (·.2)) us) (λ _ s'=>∃σ' H',Inv X pins σ' H' s'/\Q σ' H') X.xe s
abbrev wb:=V->V->V->Hp->(Hp->Prop)->Prop
noncomputable def wc(X:Cx)(t:wb):Prop :=
 ∀(pins:LO) (s:Shared) (σ:St) (H:Hp) (o i v:V) (ov iv u:Value) (Q:Hp->Prop),Inv X pins σ H s->RelV o ov->RelV i iv->RelV v u->t o i v H Q ->
  wpAny (model X.prog X.w) X.A (setItem ov iv u) (λ _ s'=>∃H',Inv X pins σ H' s'/\Q H') X.xe s
section
variable {X:Cx}{pos:Pos}
def fE(i:Nat):TG:=λ v σ H Q=>Q (σ.set i (some v)) H
theorem iu{i:Nat}(hN:X.N.Nodup)(hi:X.N[i]?=some x)(hx:Loc X.env.scope x)(hf:X.fn x=true\/X.env.scope.names.lookup x=some .local:=by first | exact .inl rfl | exact .inr rfl | assumption):PG X (.Name x pos) (fE i):=by
 intro pins s σ H v u Q I r h;exact wpAny_assign_Name (rZ I hN hi hx r (λ s' I'=>⟨_,H,I',h⟩) hf)
def we:TGs:=λ vs σ H Q=>vs=[]/\Q σ H
def wf(t:TG)(u:TGs):TGs:=λ vs σ H Q=>∃v r,vs=v::r/\t v σ H λ σ' H'=>u r σ' H' Q
theorem jJ:PGs X [] we:=by
 intro pins s σ H vs us Q I r h;obtain⟨e,h⟩:=h;subst e;cases r;exact assignInOrder_nil ⟨σ,H,I,h⟩
theorem dX(h1:PG X e t)(h2:PGs X es u)
  (hs:(assignEach (e::es) X.env).map (·.2)=assign e X.env::(assignEach es X.env).map (·.2):=by rfl):PGs X (e::es) (wf t u):=by
 intro pins s σ H vs us Q I r h;obtain⟨v,vr,e1,h⟩:=h;subst e1
 cases r with
 | cons r rr =>
  rw[hs];refine assignInOrder_cons (thn (h1 pins s σ H _ _ _ I r h) λ _ s1 ⟨σ1,H1,I1,q1⟩=>?_);exact h2 pins s1 σ1 H1 _ _ Q I1 rr q1
def nF(K:FG)(n:Nat)(t:TGs):TG:=λ v σ H Q=>∃a xs,v=.ref a/\SqT K H a xs/\xs.length=n/\t xs σ H Q
theorem jK{n:Nat}(hc:X.calm=true)(h:PGs X es t)
  (hn:(assignEach es X.env).length=n:=by rfl) (hst:(assignEach es X.env).findIdx? (·.1)=none:=by rfl):PG X (.Tuple es k pos) (nF X.K n t):=by
 intro pins s σ H v u Q I r hw;obtain⟨a,xs,e1,hq,hl,hw⟩:=hw;subst e1;cases r;obtain⟨its,rv,ht,hz⟩:=I.tuple hq;refine assign_Tuple_tuple (I.ok.hd hc) ht (by simp[hn,← hl,rv.length]) hst λ h' hx=>?_;have I1:Inv X pins σ H { s with heap:=h' }:=I.kept (t':=s.toks) λ b o e=>hx b o (bM (br e)) e;exact h pins _ σ H xs _ Q I1 (by simpa using rv) hw
def wg(to ti:TE)(t:wb):TG:=λ v σ H Q=>to σ H λ o H1=>ti σ H1 λ i H2=>t o i v H2 λ H3=>Q σ H3
theorem DL(ho:PE X o to)(hi:PE X i ti)(hs:wc X t)
  (ha:∀v,assign (.Subscript o i pos) X.env v=(do
   let ov ← holding [v] (eval o X.env)
   let iv ← holding [v,ov] (eval i X.env)
   standAt pos
   holding [v,ov,iv] (setItem ov iv v)
   release [v,ov,iv] []):=by intro _;rfl):PG X (.Subscript o i pos) (wg to ti t):=by
 intro pins s σ H v u Q I r h;rw[ha];refine ak (gD (thn (ho pins s σ H _ I h) λ ov s1 ⟨x,H1,I1,r1,q1⟩=>?_));refine ak (gD (thn (hi pins s1 σ H1 _ I1 q1) λ iv s2 ⟨y,H2,I2,r2,q2⟩=>?_));refine ak (kF (ak (gD (thn (hs pins s2 σ H2 x y v ov iv u _ I2 r1 r2 r q2) λ _ s3 ⟨H3,I3,q3⟩=>?_))));exact wpAny_release ⟨σ,H3,I3,q3⟩
def jL(te:TE)(g:TG):TS:=λ D σ H=>te σ H λ x H1=>g x σ H1 D.nx
theorem wj(he:PE X e te)(hg:PG X tg g)(hs:swapsWithSole [tg] e pos.line X.env=pure false:=by rfl)(hw:swappedStores [tg] e X.env=pure none:=by rfl)
  (h1:(assignEach [tg] X.env).map (·.2)=[assign tg X.env]:=by rfl):PS X (.Assign [tg] e pos) (jL te g):=by
 intro pins s σ H D I h;refine wpAny_Assign_stores (thn (he pins s σ H _ I h) λ v s1 ⟨x,H1,I1,r1,q1⟩=>?_) hs hw;rw[h1];exact thn (hg pins s1 σ H1 x v _ I1 r1 q1) λ _ s2 q=>q
theorem wn{i:Nat}(hN:X.N.Nodup)(hi:X.N[i]?=some x)(hx:Loc X.env.scope x)(he:PE X e te)(hs:swapsWith e (some (.Name x pos')) pos.line X.env=pure false:=by rfl)(hf:X.fn x=true\/X.env.scope.names.lookup x=some .local:=by first | exact .inl rfl | exact .inr rfl | assumption) :
  PS X (.Assign [.Name x pos'] e pos) (jL te (fE i)):=by
 intro pins s σ H D I h;refine wpAny_Assign_Name (thn (he pins s σ H _ I h) λ v s1 ⟨y,H1,I1,r1,q1⟩=>?_) hs;exact rZ I1 hN hi hx r1 (λ s2 I2=>⟨_,H1,I2,q1⟩) hf
end
section
variable {X:Cx}{pos:Pos}
end
structure It where
 go:Nat->Hp->Prop
 yld:Nat->Hp->V->Hp->Prop
 stop:Nat->Hp->Prop
noncomputable def jM(X:Cx)(pins:LO)(H:Hp)(b:Addr):Prop :=
 H b=none/\b≠X.env.locals/\b ∉ X.fs/\(b∈X.ex\/X.s₀.heap.objs.size≤b)/\(∀x c,X.env.cells.lookup x=some c->c≠b)/\∀p∈X.pn++pins,p.1≠b
theorem Inv.fpOk{H H':Hp}{b:Addr}(I:Inv X pins σ H s)(hb:s.heap.objs.size≤b)(hn:H' b=none):jM X pins H' b:=by
 refine⟨hn,iY (cD I.lt hb),I.nofs hb,.inr (dW I.sz hb),λ x c e z=>?_,λ p hp z=>?_⟩
 ·obtain⟨v,q⟩:=I.cell x c e;exact absurd (cD q.lt (by rw[z];exact hb)) (eV _)
 ·exact absurd (cD (br (I.pin p hp).1) (by rw[z];exact hb)) (eV _)
structure Turn (P:Program)(w:World)(K:FG)(tg:Expr)(J:It)(fp:List Addr)(it:Addr)(tn:Nat->Heap->Prop):Prop where
 mem:it∈fp
 obj:∀i h,tn i h->∀b∈fp,∃o,h.get? b=some o/\∀v,o.data≠.cell v
 keep:∀i h h',tn i h->(∀b∈fp,∀o,h.get? b=some o->h'.get? b=some o)->tn i h'
 item:∀(X:Cx),X.prog=P->X.w=w->X.K=K->X.calm=true->∀(i:Nat) (pins:LO) (s:Shared) (σ:St) (H:Hp) (E:VS),Inv X pins σ H s->(∀b∈fp,jM X pins H b)->tn i s.heap->J.go i H ->
  wpAny (model P w) X.A (pyNext (.ref it)) (λ r s1=>∃u,r=some u /\
   wpAny (model P w) X.A (letOwnedTupleGo tg (.ref it) u) (λ _ s2=>∃x H',Inv X pins σ H' s2/\RelV x u/\J.yld i H x H'/\tn (i+1) s2.heap/\∀b∈fp,H' b=none) E s1) E s
 done:∀(X:Cx),X.prog=P->X.w=w->X.K=K->X.calm=true->∀(i:Nat) (pins:LO) (s:Shared) (σ:St) (H:Hp) (E:VS),Inv X pins σ H s->(∀b∈fp,jM X pins H b)->tn i s.heap->J.stop i H ->
  wpAny (model P w) X.A (pyNext (.ref it)) (λ r s1=>r=none/\Inv X pins σ H s1) E s
 self:∀(A:Around) (i:Nat) (s:Shared) (Q:VS) (E:VS),tn i s.heap->Q (.ref it) s->wpAny (model P w) A (pyIter (.ref it)) Q E s
abbrev TI:=St->Hp->(It->Hp->Prop)->Prop
noncomputable def PIE(X:Cx)(pins:LO)(σ:St)(tg:Expr)(R:It->Hp->Prop)(itv:Value)(s2:Shared):Prop :=
 ∃(it:Addr) (fp:List Addr) (tn:Nat->Heap->Prop) (J:It) (H':Hp),itv=.ref it/\Inv X pins σ H' s2/\Turn X.prog X.w X.K tg J fp it tn/\tn 0 s2.heap/\(∀b∈fp,jM X pins H' b)/\R J H'
noncomputable def PI(X:Cx)(tg iter:Expr)(wi:TI):Prop :=
 ∀(pins:LO) (s:Shared) (σ:St) (H:Hp) (R:It->Hp->Prop),Inv X pins σ H s->wi σ H R ->
  wpAny (model X.prog X.w) X.A (eval iter X.env) (λ v s1=>wpAny (model X.prog X.w) X.A (pyIter v) (PIE X pins σ tg R) X.xe s1) X.xe s
theorem py{s:Shared}{it:Addr}{Q:Unit->Shared->Prop}(ho:s.heap.get? it=some o)(hc:o.cls=.type n)(hd:o.data=.fields vs)
    (hn:["enumerate","zip","dict_itemiterator","dict_reverseitemiterator","odict_iterator","itertools.zip_longest","itertools.pairwise"].contains n=false) (hQ:Q () s):wpAny M A (letOwnedTupleGo tg (.ref it) u) Q E s:=by
  unfold letOwnedTupleGo
  cases tg<;>first
    | exact aK hQ
    | (cases u<;>first
        | exact aK hQ
        | (refine ak (s0x ho ?_)
           rw[hc,hd];show wpAny M A (if (["enumerate","zip","dict_itemiterator","dict_reverseitemiterator","odict_iterator","itertools.zip_longest","itertools.pairwise"].contains n && vs[0]? == some (rawInt _))=true then _ else _) Q E s;rw[if_neg (by intro h;rw[hn,Bool.false_and] at h;cases h)]
           exact aK hQ))
noncomputable def Itl(K:FG)(a:Addr):It :=
 ⟨λ i H=>∃xs x,SqL K H a xs/\xs[i]?=some x,λ i H x H'=>H'=H/\∀xs,SqL K H a xs->xs[i]?=some x,λ i H=>∃xs,SqL K H a xs/\xs.length≤i⟩
noncomputable def Itt(K:FG)(a:Addr):It :=
 ⟨λ i H=>∃xs x,SqT K H a xs/\xs[i]?=some x,λ i H x H'=>H'=H/\∀xs,SqT K H a xs->xs[i]?=some x,λ i H=>∃xs,SqT K H a xs/\xs.length≤i⟩
def Itr(lo:Int)(n:Nat):It:=⟨λ i _=>i < n,λ i H x H'=>H'=H/\x=.int (lo+i),λ i _=>n≤i⟩
theorem wo{K:FG}(a it:Addr):Turn P w K tg (Itl K a) [it] it (λ i h=>h.IsListIter it a i) where
 mem:=by simp
 obj:=λ i h st b hb=>by
  have e:b=it:=by simpa using hb
  subst e;obtain⟨o,e,c,d⟩:=st;exact⟨o,e,λ v z=>by rw[d] at z;cases z⟩
 keep:=λ i h h' st k=>st.at λ o e=>k it (by simp) o e
 item:=by
  intro X hP hw hK hc i pins s σ H E I hf st hg;subst hP hw hK;obtain⟨xs,x,hq,hx⟩:=hg;obtain⟨its,rv,p,hz⟩:=I.list hq;obtain⟨u,hu,ru⟩:=rv.get hx;obtain⟨f0,f1,f2,f3,f4,f5⟩:=hf it (by simp);refine wpAny_pyNext_list_item st p.isList (x:=u) (by simpa using hu) λ h' st' sb=>?_;have I1:Inv X pins σ H { s with heap:=h' }:=I.turned (t':=s.toks) (λ b o hb e=>(sb.2 b hb).trans e) f0 f1 f3 f4 f5;obtain⟨o,e,c,d⟩:=id st';exact⟨u,rfl,py (s:={ s with heap:=h' }) e c d (by decide) ⟨x,H,I1,ru,⟨rfl,λ ys hy=>by rw[I.list_inj hy hq];exact hx⟩,st',λ b hb=>(hf b hb).1⟩⟩
 done:=by
  intro X hP hw hK hc i pins s σ H E I hf st hg;subst hP hw hK;obtain⟨xs,hq,hx⟩:=hg;obtain⟨its,rv,p,hz⟩:=I.list hq;obtain⟨f0,f1,f2,f3,f4,f5⟩:=hf it (by simp);have hl:=rv.length;exact wpAny_pyNext_list_end (I.ok.hd hc) st p.isList (by simp;lia) λ h' eb=>⟨rfl,I.turned (t':=s.toks) (λ b o hb e=>eb b o hb e) f0 f1 f3 f4 f5⟩
 self:=λ _ _ _ _ _ st h=>wpAny_pyIter_listiter st h
theorem wp{K:FG}(a it:Addr):Turn P w K tg (Itt K a) [it] it (λ i h=>h.IsTupleIter it a i) where
 mem:=by simp
 obj:=λ i h st b hb=>by
  have e:b=it:=by simpa using hb
  subst e;obtain⟨o,e,c,d⟩:=st;exact⟨o,e,λ v z=>by rw[d] at z;cases z⟩
 keep:=λ i h h' st k=>st.at λ o e=>k it (by simp) o e
 item:=by
  intro X hP hw hK hc i pins s σ H E I hf st hg;subst hP hw hK;obtain⟨xs,x,hq,hx⟩:=hg;obtain⟨its,rv,p,hz⟩:=I.tuple hq;obtain⟨u,hu,ru⟩:=rv.get hx;obtain⟨f0,f1,f2,f3,f4,f5⟩:=hf it (by simp);refine wpAny_pyNext_tuple_item st (show s.heap.IsTuple a its.toArray from p) (x:=u) (by simpa using hu) λ h' st' sb=>?_;have I1:Inv X pins σ H { s with heap:=h' }:=I.turned (t':=s.toks) (λ b o hb e=>(sb.2 b hb).trans e) f0 f1 f3 f4 f5;obtain⟨o,e,c,d⟩:=id st';exact⟨u,rfl,py (s:={ s with heap:=h' }) e c d (by decide) ⟨x,H,I1,ru,⟨rfl,λ ys hy=>by rw[I.tuple_inj hy hq];exact hx⟩,st',λ b hb=>(hf b hb).1⟩⟩
 done:=by
  intro X hP hw hK hc i pins s σ H E I hf st hg;subst hP hw hK;obtain⟨xs,hq,hx⟩:=hg;obtain⟨its,rv,p,hz⟩:=I.tuple hq;obtain⟨f0,f1,f2,f3,f4,f5⟩:=hf it (by simp);have hl:=rv.length;exact wpAny_pyNext_tuple_end (I.ok.hd hc) st (show s.heap.IsTuple a its.toArray from p) (by simp;lia) λ h' eb=>⟨rfl,I.turned (t':=s.toks) (λ b o hb e=>eb b o hb e) f0 f1 f3 f4 f5⟩
 self:=λ _ _ _ _ _ st h=>wpAny_pyIter_tupleiter st h
theorem DM{K:PySem.W.Frag}(it:Addr)(lo:Int)(n:Nat):Turn P w K tg (Itr lo n) [it] it (λ i h=>IsRangeIter h it (lo+(i:Nat) * 1) ((n:Int) - (i:Nat)) 1) where
 mem:=by simp
 obj:=λ i h st b hb=>by
  have e:b=it:=by simpa using hb
  subst e
  exact⟨_,st,λ v z=>by
   have z':Data.fields _=Data.cell v:=z
   cases z'⟩
 keep:=λ i h h' st k=>k it (by simp) _ st
 item:=by
  intro X hP hw hK hc i pins s σ H E I hf st hg;subst hP hw hK;obtain⟨f0,f1,f2,f3,f4,f5⟩:=hf it (by simp);have W:=Walks.range (prog:=X.prog) (w:=X.w) (I.ok.hd hc) it lo 1 n;refine W.item i s _ _ hg st λ v h' tk hv st' kk=>?_;obtain⟨t,rfl⟩:=hv;have I1:Inv X pins σ H { s with heap:=h',toks:=tk }:=I.turned (λ b o hb e=>kk b o (by simpa using hb) e) f0 f1 f3 f4 f5;refine⟨_,rfl,py (s:={ s with heap:=h',toks:=tk }) (n := "range_iterator") st' rfl rfl (by decide) ⟨.int (lo+i),H,I1,⟨t,?_⟩,⟨rfl,rfl⟩,st',λ b hb=>(hf b hb).1⟩⟩;rw[pE]
 done:=by
  intro X hP hw hK hc i pins s σ H E I hf st hg;subst hP hw hK;obtain⟨f0,f1,f2,f3,f4,f5⟩:=hf it (by simp);exact wpAny_pyNext_range_end (I.ok.hd hc) st (by have:n≤i:=hg;lia) λ h' eb=>⟨rfl,I.turned (t':=s.toks) (λ b o hb e=>eb b o hb e) f0 f1 f3 f4 f5⟩
 self:=λ _ _ _ _ _ st h=>wpAny_pyIter_rangeiter st h
section
variable {X:Cx}{tg:Expr}
def nG(K:FG)(tl:TE):TI:=λ σ H R=>tl σ H λ x H1=>∃a,x=.ref a/\(∃xs,SqL K H1 a xs)/\R (Itl K a) H1
def pF(K:FG)(tl:TE):TI:=λ σ H R=>tl σ H λ x H1=>∃a,x=.ref a/\(∃xs,SqT K H1 a xs)/\R (Itt K a) H1
theorem gE(hl:PE X l tl):PI X tg l (nG X.K tl):=by
 intro pins s σ H R I h;refine thn (hl pins s σ H _ I h) λ v s1 ⟨x,H1,I1,r1,q1⟩=>?_;obtain⟨a,e,⟨xs,hq⟩,q⟩:=q1;subst e;cases r1;obtain⟨its,rv,p,hz⟩:=I1.list hq;refine sk p.isList ?_;refine⟨s1.heap.objs.size,[s1.heap.objs.size],_,_,H1,rfl,I1.kept (t':=s1.toks) λ b o e=>bd _ e,wo a _,⟨_,bG _ rfl,rfl,rfl⟩,λ b hb=>?_,q⟩;have e:b=s1.heap.objs.size:=by simpa using hb
 subst e;exact I1.fpOk (aJ _) (I1.hok.fresh (aJ _))
theorem dM(hl:PE X l tl):PI X tg l (pF X.K tl):=by
 intro pins s σ H R I h;refine thn (hl pins s σ H _ I h) λ v s1 ⟨x,H1,I1,r1,q1⟩=>?_;obtain⟨a,e,⟨xs,hq⟩,q⟩:=q1;subst e;cases r1;obtain⟨its,rv,p,hz⟩:=I1.tuple hq;refine iw (show s1.heap.IsTuple a its.toArray from p) ?_;refine⟨s1.heap.objs.size,[s1.heap.objs.size],_,_,H1,rfl,I1.kept (t':=s1.toks) λ b o e=>bd _ e,wp a _,⟨_,bG _ rfl,rfl,rfl⟩,λ b hb=>?_,q⟩;have e:b=s1.heap.objs.size:=by simpa using hb
 subst e;exact I1.fpOk (aJ _) (I1.hok.fresh (aJ _))
theorem DN{R:It->Hp->Prop}{lo hi:Int}{tk:Nat}(I:Inv X pins σ H s)(h1:-(2 ^ 62)≤lo)(h2:lo < 2 ^ 62)(h3:-(2 ^ 62)≤hi)(h4:hi < 2 ^ 62)
  (q:R (Itr lo (hi - lo).toNat) H):wpAny (model X.prog X.w) X.A (pyIter (.ref s.heap.objs.size)) (PIE X pins σ tg R) E { s with heap:=s.heap.push { cls:=.type "range",data:=.fields #[.int lo t,.int hi u,.int 1 v] },toks:=tk }:=by
 refine wpAny_pyIter_range (IsRange.new ..) (small_one h1 h2 h3 h4) ?_;have I1:Inv X pins σ H { s with heap:=s.heap.push { cls:=.type "range",data:=.fields #[.int lo t,.int hi u,.int 1 v] },toks:=tk }:=I.kept λ b o e=>bd _ e
 refine⟨(s.heap.push { cls:=.type "range",data:=.fields #[.int lo t,.int hi u,.int 1 v] }).objs.size,[(s.heap.push { cls:=.type "range",data:=.fields #[.int lo t,.int hi u,.int 1 v] }).objs.size],_,_,H,rfl,
  I1.kept (t':=tk) λ b o e=>bd _ e,DM _ lo (hi - lo).toNat,?_,λ b hb=>?_,q⟩
 ·have e1:lo+((0:Nat):Int) * 1=lo:=by simp
  have e2:(((hi - lo).toNat:Nat):Int) - ((0:Nat):Int)=Builtin.Range.rangeSize lo hi 1:=by rw[rangeSize_one];split<;>lia
  show IsRangeIter _ _ (lo+((0:Nat):Int) * 1) ((((hi - lo).toNat:Nat):Int) - ((0:Nat):Int)) 1;rw[e1,e2];exact bG _ rfl
 ·have e:b=(s.heap.push { cls:=.type "range",data:=.fields #[.int lo t,.int hi u,.int 1 v] }).objs.size:=by simpa using hb
  subst e;exact I1.fpOk (aJ _) (I1.hok.fresh (aJ _))
def pG(ta:TA):TI:=λ σ H R=>ta σ H λ vs H1=>∃j:Int,vs=[.int j]/\-(2 ^ 62)≤j/\j < 2 ^ 62/\R (Itr 0 j.toNat) H1
theorem gF{a:Expr}{p pos:Pos}(hg:Gl X "range")(hm:X.mg "range"=none)(ha:PA X [a] ta)(hs:starEach [a] X.env=[(false,eval a X.env)]:=by rfl):PI X tg (.Call (.Name "range" p) [a] [] pos) (pG ta):=by
 intro pins s σ H R I h;refine Call_ (fQ I hg hm s0y (ix (thn (ha pos pins s σ H _ I h) λ us s1 ⟨vs,H1,I1,r1,q1⟩=>?_) hs rfl));obtain⟨j,e,q1,q2,q⟩:=q1;subst e
 cases r1 with
 | cons r rr =>
  cases rr;obtain⟨t,rfl⟩:=r;exact call_range_1 (DN I1 (by lia) (by lia) q1 q2 (by simpa using q))
noncomputable def jN(wi:TI)(g:TG)(tb:TS):TS:=λ D σ H=>wi σ H λ J H1=>∃W:Nat->Nat->St->Hp->Prop,(∃m,W 0 m σ H1)/\∀i m σ H,W i m σ H ->
 (J.stop i H/\D.nx σ H)\/(J.go i H/\∃N:St->Hp->Prop,(∀σ' H',N σ' H'->∃m',m' < m/\W (i+1) m' σ' H')/\∀x H',J.yld i H x H'->g x σ H' λ σ2 H2=>tb { D with nx:=N,ct:=N,bk:=D.nx } σ2 H2)
def pH(fp:List Addr)(h:Heap):LO:=fp.filterMap λ b=>(h.get? b).map λ o=>(b,o)
theorem lU{fp:List Addr}{h:Heap}{b:Addr}(hb:b∈fp)(e:h.get? b=some o):(b,o)∈pH fp h:=s0i.mpr ⟨b,hb,by rw[e];rfl⟩
theorem DO{fp:List Addr}{h:Heap}{p:Addr × Obj}(hp:p∈pH fp h):p.1∈fp/\h.get? p.1=some p.2:=by
 obtain⟨b,hb,e⟩:=s0i.mp hp
 cases q:h.get? b with
 | none=>rw[q] at e;cases e
 | some o =>
  rw[q] at e;have e':(b,o)=p:=cz e;subst e';exact⟨hb,q⟩
theorem Inv.pinned{fp:List Addr}(I:Inv X pins σ H s)(hf:∀b∈fp,jM X pins H b)(ho:∀b∈fp,∃o,s.heap.get? b=some o/\∀v,o.data≠.cell v):Inv X (pins++pH fp s.heap) σ H s :=
 I.pins_of λ p hp=>(cZ.mp hp).elim (λ z=>I.pin p (dz _ z)) λ z=>by
  obtain⟨hb,e⟩:=DO z;obtain⟨f0,f1,f2,_⟩:=hf p.1 hb;obtain⟨o,e',d⟩:=ho p.1 hb;rw[e] at e';cases e';exact⟨e,f0,f1,f2,d⟩
theorem Inv.unpinned{pins pl:LO}(I:Inv X (pins++pl) σ H s):Inv X pins σ H s:=I.pins_of λ p hp=>I.pin p (dz _ (lN _ hp))
theorem dN{iter:Expr}(hp:PassesOwn (model X.prog X.w) X.A X.env X.xe)(hc:X.calm=true)(hi:PI X tg iter wi)(hg:PG X tg g)(hb:PSs X body tb)
  (hs:∀x,foldedSetIterable iter X.env x=pure x:=by intro _;rfl):PS X (.For tg iter body [] pos) (jN wi g tb):=by
 intro pins s σ H D I h;refine wpAny_For (thn (hi pins s σ H _ I h) λ v s1 h1=>thn h1 λ itv s2 h2=>?_) hs;obtain⟨it,fp,tn,J,H2,e,I2,T,st2,f2,W,⟨m0,w0⟩,turn⟩:=h2;subst e;have stat:∀ {H':Hp},(∀b∈fp,H' b=none)->∀b∈fp,jM X pins H' b:=λ hn b hb=>⟨hn b hb,(f2 b hb).2⟩;refine codeAny_forLoop_any (λ n s'=>∃i σ' H',Inv X pins σ' H' s'/\tn i s'.heap/\(∀b∈fp,H' b=none)/\W i n σ' H') ?_ m0 ⟨0,σ,H2,I2,st2,λ b hb=>(f2 b hb).1,w0⟩;rintro n s3 ⟨i,σ3,H3,I3,st3,fr3,w3⟩
 rcases turn i n σ3 H3 w3 with ⟨stop,qn⟩ | ⟨go,N,hN,step⟩
 ·refine nH hp (thn (T.done X rfl rfl rfl hc i pins s3 σ3 H3 X.xe I3 (stat fr3) st3 stop) λ r s4 ⟨hr,I4⟩=>?_);subst hr;exact px ⟨σ3,H3,I4,qn⟩
 ·refine nH hp (thn (T.item X rfl rfl rfl hc i pins s3 σ3 H3 X.xe I3 (stat fr3) st3 go) λ r s4 ⟨u,hr,h4⟩=>?_);subst hr;refine nH hp (thn h4 λ _ s5 ⟨x,H5,I5,r5,y5,st5,fr5⟩=>?_);have I5':=I5.pinned (stat fr5) (T.obj _ _ st5);refine nH hp (thn (hg _ s5 σ3 H5 x u _ I5' r5 (step x H5 y5)) λ _ s6 ⟨σ6,H6,I6,q6⟩=>?_);refine nH hp (thn (hb _ s6 σ6 H6 _ I6 q6) λ f s7 q7=>?_)
  have again:∀ {σ7:St}{H7:Hp},Inv X (pins++pH fp s5.heap) σ7 H7 s7->N σ7 H7->∃m,m < n/\∃i σ' H',Inv X pins σ' H' s7/\tn i s7.heap/\(∀b∈fp,H' b=none)/\W i m σ' H':=λ {σ7 H7} I7 n7=>by
   obtain⟨m',hm,w7⟩:=hN σ7 H7 n7;refine⟨m',hm,i+1,σ7,H7,I7.unpinned,T.keep _ _ _ st5 λ b hb o e=>(I7.pin (b,o) (dz _ (dz _ (lU hb e)))).1,λ b hb=>?_,w7⟩;obtain⟨o,e,d⟩:=T.obj _ _ st5 b hb;exact(I7.pin (b,o) (dz _ (dz _ (lU hb e)))).2.1
  cases f with
  | next=>obtain⟨σ7,H7,I7,n7⟩:=q7;exact again I7 n7
  | cont=>obtain⟨σ7,H7,I7,n7⟩:=q7;exact again I7 n7
  | brk=>obtain⟨σ7,H7,I7,q7⟩:=q7;exact⟨σ7,H7,I7.unpinned,q7⟩
  | ret v=>obtain⟨x7,σ7,H7,I7,r7,q7⟩:=q7;exact⟨x7,σ7,H7,I7.unpinned,r7,q7⟩
end
theorem DP{K:PySem.W.Frag}{xs:List V}{g:TG}{tb:TS}{D:Ends}(Pv:Nat->St->Hp->Prop)(h0:Pv 0 σ H)(hl:∀i σ H,i≤xs.length->Pv i σ H->SqL K H a xs)
  (hs:∀i x σ H,xs[i]?=some x->Pv i σ H->g x σ H λ σ2 H2=>tb { D with nx:=Pv (i+1),ct:=Pv (i+1),bk:=D.nx } σ2 H2) (hd:∀σ H,Pv xs.length σ H->D.nx σ H) :
  ∃W:Nat->Nat->St->Hp->Prop,(∃m,W 0 m σ H)/\∀i m σ H,W i m σ H ->
   ((Itl K a).stop i H/\D.nx σ H)\/((Itl K a).go i H/\∃N:St->Hp->Prop,(∀σ' H',N σ' H'->∃m',m' < m/\W (i+1) m' σ' H')/\∀x H',(Itl K a).yld i H x H'->g x σ H' λ σ2 H2=>tb { D with nx:=N,ct:=N,bk:=D.nx } σ2 H2):=by
 refine⟨λ i m σ H=>m=xs.length - i/\i≤xs.length/\Pv i σ H,⟨xs.length,by simp,bc _,h0⟩,?_⟩;rintro i m σ H ⟨rfl,hi,p⟩;have q:=hl i σ H hi p;by_cases hlt:i < xs.length
 ·refine .inr ⟨⟨xs,xs[i],q,by simp[hlt]⟩,Pv (i+1),λ σ' H' p'=>⟨xs.length - (i+1),by lia,rfl,hlt,p'⟩,λ x H' y=>?_⟩;obtain⟨e,y⟩:=y;subst e;exact hs i x σ _ (y xs q) p
 ·have e:i=xs.length:=by lia
  subst e;exact .inl ⟨⟨xs,q,aJ _⟩,hd σ H p⟩
theorem DQ{K:PySem.W.Frag}{xs:List V}{g:TG}{tb:TS}{D:Ends}(Pv:Nat->St->Hp->Prop)(h0:Pv 0 σ H)(hl:∀i σ H,i≤xs.length->Pv i σ H->SqT K H a xs)
  (hs:∀i x σ H,xs[i]?=some x->Pv i σ H->g x σ H λ σ2 H2=>tb { D with nx:=Pv (i+1),ct:=Pv (i+1),bk:=D.nx } σ2 H2) (hd:∀σ H,Pv xs.length σ H->D.nx σ H) :
  ∃W:Nat->Nat->St->Hp->Prop,(∃m,W 0 m σ H)/\∀i m σ H,W i m σ H ->
   ((Itt K a).stop i H/\D.nx σ H)\/((Itt K a).go i H/\∃N:St->Hp->Prop,(∀σ' H',N σ' H'->∃m',m' < m/\W (i+1) m' σ' H')/\∀x H',(Itt K a).yld i H x H'->g x σ H' λ σ2 H2=>tb { D with nx:=N,ct:=N,bk:=D.nx } σ2 H2):=by
 refine⟨λ i m σ H=>m=xs.length - i/\i≤xs.length/\Pv i σ H,⟨xs.length,by simp,bc _,h0⟩,?_⟩;rintro i m σ H ⟨rfl,hi,p⟩;have q:=hl i σ H hi p;by_cases hlt:i < xs.length
 ·refine .inr ⟨⟨xs,xs[i],q,by simp[hlt]⟩,Pv (i+1),λ σ' H' p'=>⟨xs.length - (i+1),by lia,rfl,hlt,p'⟩,λ x H' y=>?_⟩;obtain⟨e,y⟩:=y;subst e;exact hs i x σ _ (y xs q) p
 ·have e:i=xs.length:=by lia
  subst e;exact .inl ⟨⟨xs,q,aJ _⟩,hd σ H p⟩
theorem DR{lo:Int}{n:Nat}{g:TG}{tb:TS}{D:Ends}(Pv:Nat->St->Hp->Prop)(h0:Pv 0 σ H)
  (hs:∀i σ H,i < n->Pv i σ H->g (.int (lo+i)) σ H λ σ2 H2=>tb { D with nx:=Pv (i+1),ct:=Pv (i+1),bk:=D.nx } σ2 H2) (hd:∀σ H,Pv n σ H->D.nx σ H) :
  ∃W:Nat->Nat->St->Hp->Prop,(∃m,W 0 m σ H)/\∀i m σ H,W i m σ H ->
   ((Itr lo n).stop i H/\D.nx σ H)\/((Itr lo n).go i H/\∃N:St->Hp->Prop,(∀σ' H',N σ' H'->∃m',m' < m/\W (i+1) m' σ' H')/\∀x H',(Itr lo n).yld i H x H'->g x σ H' λ σ2 H2=>tb { D with nx:=N,ct:=N,bk:=D.nx } σ2 H2):=by
 refine⟨λ i m σ H=>m=n - i/\i≤n/\Pv i σ H,⟨n,by simp,bc _,h0⟩,?_⟩;rintro i m σ H ⟨rfl,hi,p⟩;by_cases hlt:i < n
 ·refine .inr ⟨hlt,Pv (i+1),λ σ' H' p'=>⟨n - (i+1),by lia,rfl,hlt,p'⟩,λ x H' y=>?_⟩;obtain⟨e,y⟩:=y;subst e y;exact hs i σ _ hlt p
 ·have e:i=n:=by lia
  subst e;exact .inl ⟨aJ _,hd σ H p⟩
abbrev R2:=V->V->Hp->VK->Prop
noncomputable def OpR(X:Cx)(f:Value->Value->Sem Value)(r:R2):Prop :=
 ∀(pins:LO) (s:Shared) (σ:St) (H:Hp) (x y:V) (v u:Value) (Q:VK),Inv X pins σ H s->RelV x v->RelV y u->r x y H Q ->
  wpAny (model X.prog X.w) X.A (f v u) (EP X pins σ Q) X.xe s
noncomputable def UnR(X:Cx)(f:Value->Sem Value)(r:V->Hp->VK->Prop):Prop :=
 ∀(pins:LO) (s:Shared) (σ:St) (H:Hp) (x:V) (v:Value) (Q:VK),Inv X pins σ H s->RelV x v->r x H Q ->
  wpAny (model X.prog X.w) X.A (f v) (EP X pins σ Q) X.xe s
noncomputable def db(X:Cx)(f:Value)(r:List V->Hp->VK->Prop):Prop :=
 ∀(pins:LO) (s:Shared) (σ:St) (H:Hp) (xs:List V) (us:LV) (Q:VK),Inv X pins σ H s->Vals xs us->r xs H Q ->
  wpAny (model X.prog X.w) X.A (call f us) (EP X pins σ Q) X.xe s
def tOp(r:R2)(ta tb:TE):TE:=λ σ H Q=>ta σ H λ x H1=>tb σ H1 λ y H2=>r x y H2 Q
def tUn(r:V->Hp->VK->Prop)(ta:TE):TE:=λ σ H Q=>ta σ H λ x H1=>r x H1 Q
def rI(C:Int->Int->Prop)(g:Int->Int->V):R2:=λ x y H Q=>nE x y λ i j=>C i j/\Q (g i j) H
def rI0(g:Int->Int->V):R2:=λ x y H Q=>nE x y λ i j=>Q (g i j) H
def rU(g:Int->V):V->Hp->VK->Prop:=λ x H Q=>isI x λ i=>Q (g i) H
section
variable {X:Cx}{a b c:Expr}{ta tb tc:TE}{pos:Pos}
theorem sr(ha:PE X a ta)(hb:PE X b tb){R:V->V->Hp->Prop}(I:Inv X pins σ H s)
  (h:ta σ H λ x H1=>tb σ H1 λ y H2=>R x y H2){f:Value->Value->Sem Value}
  (hf:∀v u s2 x y H2,Inv X pins σ H2 s2->RelV x v->RelV y u->R x y H2->wpAny (model X.prog X.w) X.A (f v u) Q X.xe s2) :
  wpAny (model X.prog X.w) X.A (eval a X.env) (λ v s₁=>wpAny (model X.prog X.w) X.A (eval b X.env) (λ u s₂=>wpAny (model X.prog X.w) X.A (f v u) Q X.xe s₂) X.xe s₁) X.xe s:=by
 refine thn (ha pins s σ H _ I h) λ v s1 ⟨x,H1,I1,r1,q1⟩=>?_;refine thn (hb pins s1 σ H1 _ I1 q1) λ u s2 ⟨y,H2,I2,r2,q2⟩=>?_;exact hf v u s2 x y H2 I2 r1 r2 q2
theorem ay(ho:OpR X (binaryOp op) r)(ha:PE X a ta)(hb:PE X b tb):PE X (.BinOp a op b pos) (tOp r ta tb):=by
 intro pins s σ H Q I h;exact wpAny_BinOp (sr ha hb I h λ v u s2 x y H2 I2 rx ry q=>ho pins s2 σ H2 x y v u Q I2 rx ry q)
theorem lV(ho:UnR X (unaryOp op) r)(ha:PE X a ta):PE X (.UnaryOp op a pos) (tUn r ta):=by
 intro pins s σ H Q I h;exact UnaryOp_ (thn (ha pins s σ H _ I h) λ v s1 ⟨x,H1,I1,r1,q1⟩=>ho pins s1 σ H1 x v Q I1 r1 q1)
theorem opI{f:Value->Value->Sem Value}{C:Int->Int->Prop}{g:Int->Int->Int}
  (rule:∀(i j:Int) (t u:Tok) (s:Shared) (Q:VS) (E:VS),C i j->Q (.int (g i j) s.toks) { s with toks:=s.toks+1 }->wpAny (model X.prog X.w) X.A (f (.int i t) (.int j u)) Q E s) :
  OpR X f (rI C λ i j=>.int (g i j)):=by
 intro pins s σ H x y v u Q I rx ry h;obtain⟨i,j,rfl,rfl,hc,q⟩:=ph h;obtain⟨t,rfl⟩:=rx;obtain⟨t',rfl⟩:=ry;exact rule i j t t' s _ _ hc ⟨.int (g i j),H,I.tok _,⟨_,rfl⟩,q⟩
theorem nI{f:Value->Value->Sem Value}{g:Int->Int->Int}
  (rule:∀(i j:Int) (t u:Tok) (s:Shared) (Q:VS) (E:VS),Q (.int (g i j) s.toks) { s with toks:=s.toks+1 }->wpAny (model X.prog X.w) X.A (f (.int i t) (.int j u)) Q E s) :
  OpR X f (rI0 λ i j=>.int (g i j)):=by
 intro pins s σ H x y v u Q I rx ry h;obtain⟨i,j,rfl,rfl,q⟩:=ph h;obtain⟨t,rfl⟩:=rx;obtain⟨t',rfl⟩:=ry;exact rule i j t t' s _ _ ⟨.int (g i j),H,I.tok _,⟨_,rfl⟩,q⟩
theorem pI{f:Value->Value->Sem Value}{g:Int->Int->Bool}
  (rule:∀(i j:Int) (t u:Tok) (s:Shared) (Q:VS) (E:VS),Q (.bool (g i j)) s->wpAny (model X.prog X.w) X.A (f (.int i t) (.int j u)) Q E s) :
  OpR X f (rI0 λ i j=>.bl (g i j)):=by
 intro pins s σ H x y v u Q I rx ry h;obtain⟨i,j,rfl,rfl,q⟩:=ph h;obtain⟨t,rfl⟩:=rx;obtain⟨t',rfl⟩:=ry;exact rule i j t t' s _ _ ⟨.bl (g i j),H,I,rfl,q⟩
def wq(i j:Int):Prop:=0 < j/\j < 1073741824
def wt(i j:Int):Prop:=0≤j/\j≤1000000/\i.natAbs < 2 ^ 64
def CMul(i j:Int):Prop:=(-(2 ^ 64) < i/\i < 2 ^ 64)\/(-(2 ^ 64) < j/\j < 2 ^ 64)
theorem CMul.ok(h:CMul i j):IntMulOk i j:=by
 rcases h with ⟨h1,h2⟩ | ⟨h1,h2⟩
 ·exact .of_left (intBits_le_64 h1 h2)
 ·exact .of_right (intBits_le_64 h1 h2)
theorem cE:OpR X (binaryOp .Add) (rI0 λ i j=>.int (i+j)):=nI λ _ _ _ _ _ _ _ q=>add_int q
theorem eN:OpR X (binaryOp .Sub) (rI0 λ i j=>.int (i - j)):=nI λ _ _ _ _ _ _ _ q=>sub_int q
theorem fR:OpR X (binaryOp .Mult) (rI CMul λ i j=>.int (i * j)):=opI λ _ _ _ _ _ _ _ hc q=>mul_int q hc.ok
theorem eY:OpR X (binaryOp .FloorDiv) (rI wq λ i j=>.int (i / j)):=opI λ i j _ _ _ _ _ hc q=>by
 have h1:(0:Int) < j:=hc.1;have h2:j < 1073741824:=hc.2;exact floordiv_int (by lia) (by rw[kG i (by lia)];exact q) (.inl (PyProof.noPylong_small (by lia)))
theorem cH:OpR X (binaryOp .Mod) (rI (λ _ j=>0 < j) λ i j=>.int (i % j)):=opI λ i j _ _ _ _ _ hc q=>by
 have h1:(0:Int) < j:=hc;exact mod_int' (by lia) (by rw[pJ i (by lia)];exact q)
theorem dB:OpR X (binaryOp .Mod) (rI (λ _ j=>j≠0) λ i j=>.int (i.fmod j)):=opI λ _ _ _ _ _ _ _ hc q=>mod_int' hc q
theorem iZ:OpR X (binaryOp .Pow) (rI wt λ i j=>.int (i ^ j.toNat)):=opI λ _ _ _ _ _ _ _ hc q=>pow_int_small hc.1 hc.2.1 hc.2.2 q
theorem DS:OpR X (binaryOp .BitAnd) (rI0 λ i j=>.int (Builtin.bitAnd i j)):=nI λ _ _ _ _ _ _ _ q=>and_int q
theorem DT:OpR X (binaryOp .BitOr) (rI0 λ i j=>.int (Builtin.bitOr i j)):=nI λ _ _ _ _ _ _ _ q=>or_int q
theorem DU:OpR X (binaryOp .BitXor) (rI0 λ i j=>.int (Builtin.bitXor i j)):=nI λ _ _ _ _ _ _ _ q=>xor_int q
theorem unI{f:Value->Sem Value}{g:Int->Int}
  (rule:∀(i:Int) (t:Tok) (s:Shared) (Q:VS) (E:VS),Q (.int (g i) s.toks) { s with toks:=s.toks+1 }->wpAny (model X.prog X.w) X.A (f (.int i t)) Q E s) :
  UnR X f (rU λ i=>.int (g i)):=by
 intro pins s σ H x v Q I rx h;obtain⟨i,rfl,q⟩:=se h;obtain⟨t,rfl⟩:=rx;exact rule i t s _ _ ⟨.int (g i),H,I.tok _,⟨_,rfl⟩,q⟩
theorem lW:UnR X (unaryOp .USub) (rU λ i=>.int (-i)):=unI λ _ _ _ _ _ q=>neg_int q
end
noncomputable def gX:V->V->Bool
 | .non,.non=>true | .non,.int _=>true | .int _,.non=>true | .non,.bl _=>true | .bl _,.non=>true | .non,.str _=>true | .str _,.non=>true
 | .int _,.int _=>true | .bl _,.bl _=>true | .str _,.str _=>true | .byt _,.byt _=>true
 | .int _,.str _=>true | .str _,.int _=>true | .bl _,.str _=>true | .str _,.bl _=>true
 | _,_=>false
noncomputable def rEq:R2:=λ x y H Q=>match x,y with
 | .int i,.int j=>Q (.bl (decide (i=j))) H
 | .str i,.str j=>Q (.bl (decide (i=j))) H
 | x,y=>gX x y=true/\Q (.bl (decide (x=y))) H
theorem rEq_ex:rEq x y H Q=(gX x y=true/\Q (.bl (decide (x=y))) H):=by
 unfold rEq;split
 ·rename_i i j;rw[show decide (V.int i=V.int j)=decide (i=j) by simp];simp[gX]
 ·rename_i i j;rw[show decide (V.str i=V.str j)=decide (i=j) by simp];simp[gX]
 ·rfl
theorem DV(h:rEq x y H Q):gX x y=true/\Q (.bl (decide (x=y))) H:=rEq_ex.mp h
noncomputable def rNe:R2:=λ x y H Q=>match x,y with
 | .int i,.int j=>Q (.bl (!decide (i=j))) H
 | .str i,.str j=>Q (.bl (!decide (i=j))) H
 | x,y=>gX x y=true/\Q (.bl (!decide (x=y))) H
theorem rNe_ex:rNe x y H Q=(gX x y=true/\Q (.bl (!decide (x=y))) H):=by
 unfold rNe;split
 ·rename_i i j;rw[show decide (V.int i=V.int j)=decide (i=j) by simp];simp[gX]
 ·rename_i i j;rw[show decide (V.str i=V.str j)=decide (i=j) by simp];simp[gX]
 ·rfl
theorem DW(h:rNe x y H Q):gX x y=true/\Q (.bl (!decide (x=y))) H:=rNe_ex.mp h
theorem wu:decide (V.int i=V.int j)=(i == j):=by
 rw[pK];simp
theorem wv:decide (V.bl i=V.bl j)=(i == j):=by
 rw[pK];simp
theorem ww:decide (V.str i=V.str j)=(i == j):=by
 rw[pK];simp
theorem wx:decide (V.byt i=V.byt j)=(i.toList == j.toList):=by
 rw[pK];cases i;cases j;simp
section
variable {X:Cx}{a b c:Expr}{ta tb tc:TE}{pos:Pos}
theorem cj{Q:VK}{k k':Bool}(I:Inv X pins σ H s)(q:Q (.bl k) H)(e:k=k'):EP X pins σ Q (.bool k') s:=by
 subst e;exact⟨.bl k,H,I,rfl,q⟩
theorem aR:OpR X (compareOp .Eq) rEq:=by
 intro pins s σ H x y v u Q I rx ry h;obtain⟨hs,q⟩:=DV h
 cases x with
 | non =>
  cases rx
  cases y with
  | non=>cases ry;exact PySem.EqNone.eq_none_none (cj I q (by simp))
  | bl j=>cases ry;exact PySem.EqNone.eq_none_bool (cj I q (by simp))
  | int j=>obtain⟨t',rfl⟩:=ry;exact PySem.EqNone.eq_none_int (cj I q (by simp))
  | str j=>obtain⟨t',rfl⟩:=ry;exact PySem.EqNone.eq_none_str (cj I q (by simp))
  | _=>exact absurd (show false=true from hs) cI
 | bl i =>
  cases rx
  cases y with
  | non=>cases ry;exact PySem.EqNone.eq_bool_none (cj I q (by simp))
  | bl j=>cases ry;exact eq_bool (cj I q wv)
  | str j=>obtain⟨t',rfl⟩:=ry;exact PySem.EqMixed.eq_bool_str (cj I q (by simp))
  | _=>exact absurd (show false=true from hs) cI
 | int i =>
  obtain⟨t,rfl⟩:=rx
  cases y with
  | non=>cases ry;exact PySem.EqNone.eq_int_none (cj I q (by simp))
  | int j=>obtain⟨t',rfl⟩:=ry;exact eq_int (cj I q wu)
  | str j=>obtain⟨t',rfl⟩:=ry;exact PySem.EqMixed.eq_int_str (cj I q (by simp))
  | _=>exact absurd (show false=true from hs) cI
 | str i =>
  obtain⟨t,rfl⟩:=rx
  cases y with
  | non=>cases ry;exact PySem.EqNone.eq_str_none (cj I q (by simp))
  | bl j=>cases ry;exact PySem.EqMixed.eq_str_bool (cj I q (by simp))
  | int j=>obtain⟨t',rfl⟩:=ry;exact PySem.EqMixed.eq_str_int (cj I q (by simp))
  | str j=>obtain⟨t',rfl⟩:=ry;exact eq_str (cj I q ww)
  | _=>exact absurd (show false=true from hs) cI
 | byt i =>
  obtain⟨t,rfl⟩:=rx
  cases y with
  | byt j=>obtain⟨t',rfl⟩:=ry;exact W.eq_bytes (cj I q wx)
  | _=>exact absurd (show false=true from hs) cI
 | _=>cases y<;>exact absurd (show false=true from hs) cI
theorem gb:OpR X (compareOp .NotEq) rNe:=by
 intro pins s σ H x y v u Q I rx ry h;obtain⟨hs,q⟩:=DW h
 cases x with
 | non =>
  cases rx
  cases y with
  | non=>cases ry;exact PySem.EqNone.ne_none_none (cj I q (by simp))
  | bl j=>cases ry;exact PySem.EqNone.ne_none_bool (cj I q (by simp))
  | int j=>obtain⟨t',rfl⟩:=ry;exact PySem.EqNone.ne_none_int (cj I q (by simp))
  | str j=>obtain⟨t',rfl⟩:=ry;exact PySem.EqNone.ne_none_str (cj I q (by simp))
  | _=>exact absurd (show false=true from hs) cI
 | bl i =>
  cases rx
  cases y with
  | non=>cases ry;exact PySem.EqNone.ne_bool_none (cj I q (by simp))
  | bl j=>cases ry;exact ne_bool (cj I q (dA not wv))
  | str j=>obtain⟨t',rfl⟩:=ry;exact PySem.EqMixed.ne_bool_str (cj I q (by simp))
  | _=>exact absurd (show false=true from hs) cI
 | int i =>
  obtain⟨t,rfl⟩:=rx
  cases y with
  | non=>cases ry;exact PySem.EqNone.ne_int_none (cj I q (by simp))
  | int j=>obtain⟨t',rfl⟩:=ry;exact ne_int (cj I q (dA not wu))
  | str j=>obtain⟨t',rfl⟩:=ry;exact PySem.EqMixed.ne_int_str (cj I q (by simp))
  | _=>exact absurd (show false=true from hs) cI
 | str i =>
  obtain⟨t,rfl⟩:=rx
  cases y with
  | non=>cases ry;exact PySem.EqNone.ne_str_none (cj I q (by simp))
  | bl j=>cases ry;exact PySem.EqMixed.ne_str_bool (cj I q (by simp))
  | int j=>obtain⟨t',rfl⟩:=ry;exact PySem.EqMixed.ne_str_int (cj I q (by simp))
  | str j=>obtain⟨t',rfl⟩:=ry;exact ne_str (cj I q (dA not ww))
  | _=>exact absurd (show false=true from hs) cI
 | byt i =>
  obtain⟨t,rfl⟩:=rx
  cases y with
  | byt j=>obtain⟨t',rfl⟩:=ry;exact W.ne_bytes (cj I q (dA not wx))
  | _=>exact absurd (show false=true from hs) cI
 | _=>cases y<;>exact absurd (show false=true from hs) cI
theorem dO:OpR X (compareOp .Lt) (rI0 λ i j=>.bl (decide (i < j))):=pI λ _ _ _ _ _ _ _ q=>lt_int q
theorem pL:OpR X (compareOp .LtE) (rI0 λ i j=>.bl (decide (i≤j))):=pI λ _ _ _ _ _ _ _ q=>le_int q
theorem gc:OpR X (compareOp .Gt) (rI0 λ i j=>.bl (decide (j < i))):=pI λ _ _ _ _ _ _ _ q=>gt_int q
theorem kH:OpR X (compareOp .GtE) (rI0 λ i j=>.bl (decide (j≤i))):=pI λ _ _ _ _ _ _ _ q=>ge_int q
theorem wy:OpR X (compareOp .IsNot) (λ x y H Q=>y=.non/\Q (.bl (!decide (x=.non))) H):=by
 intro pins s σ H x y v u Q I rx ry h;obtain⟨rfl,q⟩:=h;cases ry;refine isnot_none_gen (cj I q ?_)
 cases x<;>first
  | (cases rx;rfl)
  | (obtain⟨t,rfl⟩:=rx;rfl)
theorem jO(b:Expr){op:CmpOp}(h:op≠.In:=by decide)(h2:op≠.NotIn:=by decide):behindInMarks op b=false:=by
 have e1:(op == CmpOp.In)=false:=by cases op<;>first | rfl | exact absurd rfl h
 have e2:(op == CmpOp.NotIn)=false:=by cases op<;>first | rfl | exact absurd rfl h2
 cases b<;>simp[behindInMarks,e1,e2]
theorem kI(ho:OpR X (compareOp op) r)(ha:PE X a ta)(hb:PE X b tb)(hm:behindInMarks op b=false):PE X (.Compare a [op] [b] pos) (tOp r ta tb):=by
 intro pins s σ H Q I h;exact wpAny_Compare1 (sr ha hb I h λ v u s2 x y H2 I2 rx ry q=>ho pins s2 σ H2 x y v u Q I2 rx ry q) hm
def pM(t:TE):TT:=λ σ H Q=>t σ H λ x H'=>isB x λ k=>Q k H'
theorem su(ho:OpR X (compareOp op) r)(ha:PE X a ta)(hb:PE X b tb)(hm:behindInMarks op b=false):PT X (.Compare a [op] [b] pos) (pM (tOp r ta tb)):=by
 intro pins s σ H Q I h
 refine wpAny_isTrue_Compare1 (thn (ha pins s σ H _ I h) λ v s1 ⟨x,H1,I1,r1,q1⟩=>thn (hb pins s1 σ H1 _ I1 q1) λ u s2 ⟨y,H2,I2,r2,q2⟩ =>
  thn (ho pins s2 σ H2 x y v u _ I2 r1 r2 q2) λ c s3 ⟨z,H3,I3,r3,q3⟩=>?_) hm
 obtain⟨k,e,q3⟩:=kC q3;subst e;cases r3;exact iV ⟨H3,I3,q3⟩
noncomputable def wz(r r':R2)(ta tb tc:TE):TE:=λ σ H Q=>ta σ H λ x H1=>tb σ H1 λ y H2=>r x y H2 λ z H3=>∃k,z=.bl k /\
 (if k=true then tc σ H3 λ w' H4=>r' y w' H4 Q else Q (.bl false) H3)
theorem DX(ho:OpR X (compareOp op) r)(ho':OpR X (compareOp op') r')(ha:PE X a ta)(hb:PE X b tb)(hc:PE X c tc)
  (hm:lastMarks [op,op'] [b,c]=false:=by with_unfolding_all rfl):PT X (.Compare a [op,op'] [b,c] pos) (pM (wz r r' ta tb tc)):=by
 intro pins s σ H Q I h
 refine isTrue_chain (thn (ha pins s σ H _ I h) λ v s1 ⟨x,H1,I1,r1,q1⟩=>test_link (thn (hb pins s1 σ H1 _ I1 q1) λ u s2 ⟨y,H2,I2,r2,q2⟩ =>
  thn (ho pins s2 σ H2 x y v u _ I2 r1 r2 q2) λ d s3 ⟨z,H3,I3,r3,k,e,q3⟩=>?_)) hm
 subst e;cases r3;refine iV ?_
 cases k with
 | false =>
  obtain⟨k',e',q'⟩:=kC (show isB (V.bl false) (λ k=>Q k H3) from q3);cases e';exact ite_ff ⟨H3,I3,q'⟩
 | true =>
  refine ite_tt (test_last (thn (hc pins s3 σ H3 _ I3 q3) λ w' s4 ⟨z',H4,I4,r4,q4⟩=>thn (ho' pins s4 σ H4 y z' u w' _ I4 r2 r4 q4) λ d' s5 ⟨z2,H5,I5,r5,q5⟩=>?_));obtain⟨k2,e2,q5⟩:=kC q5;subst e2;cases r5;exact iV ⟨H5,I5,q5⟩
theorem pN:(sizeLine:Nat) < 2 ^ 63:=by rw[pO];decide
theorem dY{x:V}(r:Vals [x] us):∃u,us=[u]/\RelV x u:=by
 cases r with
 | cons r1 r2=>cases r2;exact⟨_,rfl,r1⟩
theorem lX{x y:V}(r:Vals [x,y] us):∃u w',us=[u,w']/\RelV x u/\RelV y w':=by
 cases r with
 | cons r1 r2 =>
  cases r2 with
  | cons r3 r4=>cases r4;exact⟨_,_,rfl,r1,r3⟩
theorem DY:db X (.builtin "abs") (λ xs H Q=>∃i,xs=[.int i]/\Q (.int (if i < 0 then -i else i)) H):=by
 intro pins s σ H xs us Q I r h;obtain⟨i,rfl,q⟩:=h;obtain⟨u,rfl,t,rfl⟩:=dY r;exact call_abs_int λ u tk=>⟨.int (if i < 0 then -i else i),H,I.tok _,⟨_,rfl⟩,q⟩
theorem nJ(hc:X.calm=true):db X (.builtin "max") (λ xs H Q=>∃i j,xs=[.int i,.int j]/\Q (.int (if j > i then j else i)) H):=by
 intro pins s σ H xs us Q I r h;obtain⟨i,j,rfl,q⟩:=h;obtain⟨u,w',rfl,⟨t,rfl⟩,⟨t',rfl⟩⟩:=lX r;refine max_two_ints (I.ok.hd hc) λ h' tk k=>⟨_,H,I.kept k,?_,q⟩;by_cases hj:j > i
 ·rw[if_pos hj,if_pos hj];exact⟨_,rfl⟩
 ·rw[if_neg hj,if_neg hj];exact⟨_,rfl⟩
theorem kJ(hc:X.calm=true):db X (.builtin "min") (λ xs H Q=>∃i j,xs=[.int i,.int j]/\Q (.int (if j < i then j else i)) H):=by
 intro pins s σ H xs us Q I r h;obtain⟨i,j,rfl,q⟩:=h;obtain⟨u,w',rfl,⟨t,rfl⟩,⟨t',rfl⟩⟩:=lX r;refine min_two_ints (I.ok.hd hc) λ h' tk k=>⟨_,H,I.kept k,?_,q⟩;by_cases hj:j < i
 ·rw[if_pos hj,if_pos hj];exact⟨_,rfl⟩
 ·rw[if_neg hj,if_neg hj];exact⟨_,rfl⟩
theorem DZ:db X (.type "int") (λ xs H Q=>(∃i,xs=[.int i]/\Q (.int i) H)\/∃k,xs=[.bl k]/\Q (.int (if k then 1 else 0)) H):=by
 intro pins s σ H xs us Q I r h
 rcases h with ⟨i,rfl,q⟩ | ⟨k,rfl,q⟩
 ·obtain⟨u,rfl,t,rfl⟩:=dY r;exact call_int_int ⟨.int i,H,I,⟨_,rfl⟩,q⟩
 ·obtain⟨u,rfl,r1⟩:=dY r;cases r1;exact call_int_bool ⟨.int (if k then 1 else 0),H,I.tok _,⟨_,rfl⟩,q⟩
end
structure ObjM (h:Heap)(x dx C:Addr)(mA:SV):Prop where
 obj:h.get? x=some (W.instObj C dx)
 ns:h.Ns1 dx mA
 ne:dx≠x
theorem Ea{h:Heap}(n:h.Ns1 dx mA):∃od,h.get? dx=some od/\∀name,W.lookIn name od=some (mA name):=by
 obtain⟨o,es,ep,ho,hd,hk,_,hm⟩:=n;refine⟨o,ho,λ name=>?_⟩;have e:=hm name;unfold nsFind findBy at e;rw[← Array.find?_toList] at e;unfold W.lookIn;rw[hd];dsimp only;split
 ·rename_i y q;rw[q] at e;exact dA some e
 ·rename_i q;rw[q] at e
  have a:es.toList.any (·.refKey)=false:=by
   rw[List.any_eq_false];intro y hy;obtain⟨z,t,hkey⟩:=hk y (wA.mp hy);simp[DictEntry.refKey,hkey]
  have a':¬es.toList.any (·.refKey)=true:=by rw[a];exact cI
  rw[if_neg a'];exact dA some e
theorem ObjM.look(I:ObjM h x dx C mA):∃od,W.InstAt h x (W.instObj C dx) C (some od)/\∀name,W.lookIn name od=some (mA name) :=
 let ⟨od,ho,hl⟩:=Ea I.ns
 ⟨od,⟨I.obj,rfl,rfl,ho⟩,hl⟩
section
variable {prog:Program}{w:World}{A:Around}{E:VS}{s:Shared}{K:FG}{x dx C f:Addr}{mA:SV}{name:Str}{v:Value}
end
section
variable {P:Program}{w:World}{H H':Hp}{h h':Heap}{a C dx:Addr}{fs fs':List (Str × V)}
theorem sv(hok:HOk P w H h)(e:H a=some (.ins C dx fs)):∃mA,ObjM h a dx C mA/\(∀f,rW (fs.lookup f) (mA f))/\PySem.Within mA (fs.map (·.1))/\fs.length≤1000/\H dx=some (.own a):=by
 obtain⟨d,z,ne,ob,mA,n,r,q⟩:=(show ObjOk P w H h a (.ins C dx fs) from hok a _ e);exact⟨mA,⟨ob,n,ne⟩,r,q,z,d⟩
end
structure Cls (K:FG)(C:Addr):Prop where
 pg:W.plainGet K C Str.empty=true
 hd:W.hasDictIn K C=true
 po:W.plainOver K C=true
 sa:W.findIn K (.ref C) "__setattr__"=some (some (.builtin "object.__setattr__"))
theorem Cls.get{K:FG}(c:Cls K C)(f:Str):W.plainGet K C f=true:=c.pg
structure Con (K:FG)(C:Addr)(f:Str)(v:V)(u:Value):Prop where
 at_:W.findIn K (.ref C) f=some (some u)
 rel:RelV v u
 get:W.specialIn K u "__get__"=some none
 cp:W.copiedNames.contains f=false
structure Meth (K:FG)(C:Addr)(m:Str)(f:Addr):Prop where
 at_:W.findIn K (.ref C) m=some (some (.ref f))
 fn:W.isFn K (.ref f)=true
 kp:W.keepIn K (.ref f)=true
section
variable {X:Cx}{pins:LO}{σ:St}{H:Hp}{s:Shared}{a C dx:Addr}{fs:List (Str × V)}{f:Str}{v:V}{A:Around}{E:VS}
end
section
variable {X:Cx}{o e value:Expr}{f:Str}{pos pos' tpos:Pos}{ta tv:TE}
end
section
variable {X:Cx}{pins:LO}{σ:St}{H:Hp}{s:Shared}{A:Around}{E:VS}{Q:VS}{c:Value}{b:Bool}
inductive TyOf (K:FG)(H:Hp):V->Value->Prop where
 | non:TyOf K H .non (.type "NoneType")
 | bl (x:Bool):TyOf K H (.bl x) (.type "bool")
 | int (i:Int):TyOf K H (.int i) (.type "int")
 | str (x:Str):TyOf K H (.str x) (.type "str")
 | flt (x:UInt64):TyOf K H (.flt x) (.type "float")
 | lst {a:Addr}{xs:List V}(e:H a=some (.lst xs)):TyOf K H (.ref a) (.type "list")
 | frz {a:Addr}{o:Obj}{xs:List V}(e:H a=some (.frz o (.lst xs))):TyOf K H (.ref a) (.type "list")
 | tup {a:Addr}{xs:List V}(e:H a=some (.tup xs)):TyOf K H (.ref a) (.type "tuple")
 | dK {a:Addr}{kvs:List (Key × V)}(e:H a=some (.dK kvs)):TyOf K H (.ref a) (.type "dict")
 | dT {a:Addr}{kvs:List (List Key × V)}(e:H a=some (.dT kvs)):TyOf K H (.ref a) (.type "dict")
 | ins {a C dx:Addr}{fs:List (Str × V)}(e:H a=some (.ins C dx fs)) (cl:Cls K C) (ha:W.findIn K (.ref C) "__class__"=some (some (.builtin "object.__class__")))
   (hn:W.specialIn K (.builtin "object.__class__") "__get__"=some (some (.builtin "getset_descriptor.__get__"))) (htk:W.takesIn K (.builtin "object.__class__")=some true)
   (hm:W.mroIn K C (.type "object")=some true):TyOf K H (.ref a) (.ref C)
theorem Eb(I:Inv X pins σ H s)(rx:RelV x u)(ty:TyOf X.K H x t)(e:W.kitOne X.K t c=some b)(h:∀tk,Q (.bool b) { s with toks:=tk }) :
  wpAny (model X.prog X.w) A (call (.builtin "isinstance") [u,c]) Q E s:=by
 cases ty with
 | non=>cases (show u=Value.none from rx);exact gY W.kitx_none I.kIn nK e (λ z=>nomatch z) h
 | bl y=>cases (show u=Value.bool y from rx);exact gY W.kitx_bool I.kIn nK e (λ z=>nomatch z) h
 | int i=>obtain⟨t,q⟩:=(show ∃t,u=Value.int i t from rx);cases q;exact gY W.kitx_int I.kIn nK e (λ z=>nomatch z) h
 | str y=>obtain⟨t,q⟩:=(show ∃t,u=Value.str y t from rx);cases q;exact gY W.kitx_str I.kIn nK e (λ z=>nomatch z) h
 | flt y=>obtain⟨t,q⟩:=(show ∃t,u=Value.float y t from rx);cases q;exact gY W.kitx_float I.kIn nK e (λ z=>nomatch z) h
 | @lst a xs ea =>
  cases (show u=Value.ref a from rx);obtain⟨_,_,n,_,h1⟩:=(show ObjOk X.prog X.w H s.heap a (.lst xs) from I.hok a _ ea);exact gY W.kitx_list I.kIn ⟨_,h1,rfl⟩ e (λ z=>nomatch z) h
 | @frz a ob xs ea =>
  cases (show u=Value.ref a from rx);obtain⟨_,_,_,n,_,h1⟩:=(show ObjOk X.prog X.w H s.heap a (.frz ob (.lst xs)) from I.hok a _ ea);exact gY W.kitx_list I.kIn ⟨_,h1,rfl⟩ e (λ z=>nomatch z) h
 | @tup a xs ea =>
  cases (show u=Value.ref a from rx);obtain⟨_,_,_,p⟩:=(show ObjOk X.prog X.w H s.heap a (.tup xs) from I.hok a _ ea);obtain⟨o,h1,h2,_⟩:=p;exact gY W.kitx_tuple I.kIn ⟨o,h1,h2⟩ e (λ z=>nomatch z) h
 | @dK a kvs ea =>
  cases (show u=Value.ref a from rx);obtain⟨_,_,vs,_,p⟩:=(show ObjOk X.prog X.w H s.heap a (.dK kvs) from I.hok a _ ea);obtain⟨o,es,ep,h1,h2,_⟩:=p;exact gY W.kitx_dict I.kIn ⟨o,h1,h2.1⟩ e (λ z=>nomatch z) h
 | @dT a kvs ea =>
  cases (show u=Value.ref a from rx);obtain⟨_,_,xs,_,o,es,ep,h1,h2,_⟩:=(show ObjOk X.prog X.w H s.heap a (.dT kvs) from I.hok a _ ea);exact gY W.kitx_dict I.kIn ⟨o,h1,h2.1⟩ e (λ z=>nomatch z) h
 | @ins a C dx fs ea cl ha hn htk hm =>
  cases (show u=Value.ref a from rx);obtain⟨mA,O,_⟩:=sv I.hok ea;obtain⟨od,J,_⟩:=O.look;exact gY (W.kitx_own (cl.get _) cl.hd ha hn htk hm) I.kIn J e (λ z=>nomatch z) h
end
structure Room (k:Nat)(A:Around):Prop where
 hd:A.handled=none
 dp:A.depth+3 * k+5 < recursionLimit
 un:A.units+16 * k+200 < cLine
theorem Room.mono{j k:Nat}(r:Room k A)(h:j≤k):Room j A:=⟨r.hd,by have:=r.dp;lia,by have:=r.un;lia⟩
theorem Room.deeper{k:Nat}(r:Room (k+1) A)(env:Env):Room k (A.deeper env) :=
 ⟨r.hd,by have:=r.dp;show A.depth+1+3 * k+5 < _;lia,by have:=r.un;show A.units+3+16 * k+200 < _;lia⟩
theorem Room.depth(r:Room k A):A.depth < recursionLimit:=by have:=r.dp;lia
theorem Room.units0(r:Room k A):A.units < cLine:=by have:=r.un;lia
def nL:TA:=λ _ H Q=>Q [] H
def kK(ta:TE)(tr:TA):TA:=λ σ H Q=>ta σ H λ x H1=>tr σ H1 λ xs H2=>Q (x::xs) H2
section
variable {X:Cx}{e:Expr}{es:List Expr}{te:TE}{t:TA}{pos:Pos}
theorem bK:PA X [] nL:=λ _ _ _ _ H Q I h=>sw ⟨[],H,I,.nil,h⟩
theorem aE(ha:PE X e te)(hr:PA X es t)(hs:starEach (e::es) X.env=(false,eval e X.env)::starEach es X.env:=by rfl):PA X (e::es) (kK te t):=by
 intro pos pins s σ H Q I h;rw[hs];show wpAny _ _ (spliced ((false,eval e X.env)::backTo pos (starEach es X.env))) _ _ s;refine sx (thn (ha pins s σ H _ I h) λ u s1 ⟨x,H1,I1,r1,q1⟩=>?_);exact thn (hr pos pins s1 σ H1 _ I1 q1) λ us s2 ⟨xs,H2,I2,r2,q2⟩=>⟨x::xs,H2,I2,.cons r1 r2,q2⟩
def wB(t:TA):TE:=λ σ H Q=>t σ H λ xs H1=>xs.length≤sizeLine/\∀p,H1 p=none->Q (.ref p) (upd H1 p (.tup xs))
def wC(t:TA):TE:=λ σ H Q=>t σ H λ xs H1=>xs.length≤sizeLine/\∀p,H1 p=none->Q (.ref p) (upd H1 p (.lst xs))
theorem aU{x1}(h:PA X es t):PE X (.Tuple es x1 pos) (wB t):=by
 intro pins s σ H Q I hq;refine wpAny_Tuple_spliced (thn (h pos pins s σ H _ I hq) λ us s1 ⟨xs,H1,I1,r,z,q⟩=>⟨by rw[← r.length];exact z,?_⟩);have hf:H1 s1.heap.objs.size=none:=I1.hok.fresh (aJ _);refine⟨.ref s1.heap.objs.size,upd H1 s1.heap.objs.size (.tup xs),I1.laid (t':=s1.toks) (λ b u e=>bd _ e) (aJ _) ?_,rfl,q _ hf⟩;exact⟨z,us,r,⟨_,bG _ rfl,rfl,_,rfl⟩⟩
theorem dP(h:PA X es t):PE X (.List es pos) (wC t):=by
 intro pins s σ H Q I hq;refine wpAny_List_spliced (thn (h pos pins s σ H _ I hq) λ us s1 ⟨xs,H1,I1,r,z,q⟩=>⟨by rw[← r.length];exact z,?_⟩);have hf:H1 s1.heap.objs.size=none:=I1.hok.fresh (aJ _);refine⟨.ref s1.heap.objs.size,upd H1 s1.heap.objs.size (.lst xs),I1.laid (t':=s1.toks) (λ b u e=>bd _ e) (aJ _) ?_,rfl,q _ hf⟩;exact⟨z,us,0,r,bG _ rfl⟩
end
abbrev Sp:=List V->Hp->VK->XK->Prop
abbrev CXT:=List Env->Hp->Shared->XK->VS
structure Env0 (P:Program)(w:World)(K:FG)(mg:SV)(base:Heap)(A:Around)(outer:List Env)(s:Shared)(H:Hp):Prop where
 frames:A.frames=some outer
 mod:Mod K mg base
 bs:∀b o,base.get? b=some o->s.heap.get? b=some o/\H b=none
 bsz:base.objs.size≤s.heap.objs.size
 funs:s.heap.FunFrames base outer
 frf:∀b∈frs outer,H b=none
 hok:HOk P w H s.heap
 bare:AllBare s.gens
noncomputable def CE(outer:List Env)(P:Program)(w:World)(H:Hp)(s:Shared)(Q:VK)(u:Value)(s':Shared):Prop :=
 ∃v H',s'.os=s.os/\AllBare s'.gens/\Un (frs outer) [] H H' s.heap s'.heap/\HOk P w H' s'.heap/\RelV v u/\Q v H'
noncomputable def CR(CX:CXT)(outer:List Env)(P:Program)(w:World)(H:Hp)(s:Shared)(Q:VK)(E:XK)(r:Result)(s':Shared):Prop :=
 match r with
 | .ok (.ret u)=>CE outer P w H s Q u s'
 | .ok _=>False
 | .error e=>CX outer H s E e s'
structure FnOk (P:Program)(w:World)(K:FG)(mg:SV)(base:Heap)(CX:CXT)(k:Nat)(f:Addr)(fd:FuncData)(ps:List Str)(sp:Sp):Prop where
 len:∀vs H Q E,sp vs H Q E->vs.length=ps.length
 run:∀(A:Around) (outer:List Env) (s:Shared) (H:Hp) (args:Args) (us:LV) (vs:List V) (Q:VK) (E:XK),Room k A->Env0 P w K mg base A outer s H->BindsTo s fd args (ps.zip us)->Vals vs us->sp vs H Q E ->
  codeAny (model P w) A (.call (.ref f) args) (CR CX outer P w H s Q E) s
theorem FnOk.mono{K:FG}{j k:Nat}(F:FnOk P w K mg base CX j f fd ps sp)(h:j≤k) :
  FnOk P w K mg base CX k f fd ps sp:=⟨F.len,λ A outer s H args us vs Q E hr=>F.run A outer s H args us vs Q E (hr.mono h)⟩
section
variable {X:Cx}{pins:LO}{σ:St}{H:Hp}{s s':Shared}
theorem Inv.env0(I:Inv X pins σ H s):Env0 X.prog X.w X.K X.mg X.base X.A X.stack s H :=
 ⟨I.ok.frames,I.ok.mod,I.bs,dW I.ok.bsz I.sz,I.stack,I.stkFree,I.hok,I.bare⟩
theorem Inv.after(I:Inv X pins σ H s)(h:CE X.stack X.prog X.w H s Q u s'):EP X pins σ Q u s':=by
 obtain⟨v,H',os,bare,un,hok,r,q⟩:=h;obtain⟨hh,g,d,t,os'⟩:=s';obtain rfl:os'=s.os:=os;exact⟨v,H',I.call (h':=hh) (g':=g) (d':=d) (t':=t) (ch:=[]) un hok bare (λ b z=>absurd z (by simp)),r,q⟩
end
def nM(sp:Sp)(dvs:List V)(E:XK)(t:TA):TE:=λ σ H Q=>t σ H λ vs H1=>sp (vs++dvs) H1 Q E
noncomputable def Binds(K:FG)(fd:FuncData)(ps:List Str)(ds:LV):Prop :=
 ∀(s:Shared) (us:LV),K.In s.heap->(us++ds).length=ps.length->BindsTo s fd ⟨us,[]⟩ (ps.zip (us++ds))
theorem Binds.all{K:FG}{ps:List Str}(h:∀us:LV,us.length=ps.length->bindArgs fd ⟨us,[]⟩=pure (ps.zip us)):Binds K fd ps []:=λ s us _ hl=>by
 rw[ag] at hl ⊢;exact .of_eq (h us hl)
def nN(CX:CXT)(X:Cx)(E:XK):Prop:=∀(pins:LO) (σ:St) (H:Hp) (s:Shared) (e:Value) (s':Shared),Inv X pins σ H s->CX X.stack H s E e s'->X.xe e s'
section
variable {X:Cx}{CX:CXT}{k:Nat}{f C:Addr}{fd:FuncData}{ps:List Str}{sp:Sp}{dvs:List V}{ds:LV}{E:XK}{x m:Str}{p pos apos:Pos}{e o:Expr}{es:List Expr}{ta:TE}{t:TA}
theorem Ec(F:FnOk X.prog X.w X.K X.mg X.base CX k f fd ps sp)(hr:Room k X.A)(hb:Binds X.K fd ps ds)(hd:Vals dvs ds)(hx:nN CX X E)
  (I:Inv X pins σ H s) (r:Vals vs us) (h:sp (vs++dvs) H Q E):wpAny (model X.prog X.w) X.A (call (.ref f) us) (EP X pins σ Q) X.xe s:=by
 have r2:Vals (vs++dvs) (us++ds):=r.append hd;have hl:(us++ds).length=ps.length:=by rw[← r2.length];exact F.len _ _ _ _ h
 refine wpAny_call (nO (F.run X.A X.stack s H ⟨us,[]⟩ (us++ds) (vs++dvs) Q E hr I.env0 (hb s us I.kIn hl) r2 h) λ r s' hq=>?_)
 cases r with
 | error e=>exact hx pins σ H s e s' I hq
 | ok fl =>
  cases fl with
  | ret u=>exact I.after hq
  | next=>exact False.elim hq
  | brk=>exact False.elim hq
  | cont=>exact False.elim hq
theorem Ed(F:FnOk X.prog X.w X.K X.mg X.base CX k f fd ps sp)(hr:Room k X.A)(hg:Gl X x)(hm:X.mg x=some (.ref f))(hk:W.keepIn X.K (.ref f)=true)(hb:Binds X.K fd ps ds)(hd:Vals dvs ds)(hx:nN CX X E)
  (ha:PA X (e::es) t) (hdb:(x == ("__debug__" : Str))=false:=by decide) (he:starEach (e::es) X.env=(false,eval e X.env)::starEach es X.env:=by rfl) (hpl:(backTo pos (starEach es X.env)).any (·.1)=false:=by rfl) :
  PE X (.Call (.Name x p) (e::es) [] pos) (nM sp dvs E t):=by
 intro pins s σ H Q I h;refine lY (pq I hg hm ?_ hdb);refine W.callWith_K (h₀:=X.base) I.ok.mod.kin hk (thn (ha pos pins s σ H _ I h) λ us s1 ⟨vs,H1,I1,r,q⟩=>⟨I1.kIn,?_⟩) he hpl;exact Ec F hr hb hd hx I1 r q
structure Mk (K:FG)(C f:Addr):Prop where
 makes:W.makesIn K C=true
 init:W.findIn K (.ref C) "__init__"=some (some (.ref f))
 fn:W.isFn K (.ref f)=true
 kp:W.keepIn K (.ref C)=true
end
section
variable {X:Cx}{CX:CXT}{k:Nat}{f C:Addr}{fd:FuncData}{ps ks:List Str}{sp:Sp}{E:XK}{x m:Str}{p pos apos kpos:Pos}{e o:Expr}{es:List Expr}{kws:List Keyword}{te ta:TE}{t tk:TA}{nm:Option Str}
structure KBinds (K:FG)(fd:FuncData)(ps ks:List Str)(g:LV->LV->LV)(gV:List V->List V->List V):Prop where
 to:∀(s:Shared) (us ws:LV),K.In s.heap->(g us ws).length=ps.length->BindsTo s fd ⟨us,ks.zip ws⟩ (ps.zip (g us ws))
 rel:∀ {vs:List V}{us:LV}{zs:List V}{ws:LV},Vals vs us->Vals zs ws->Vals (gV vs zs) (g us ws)
variable {g:LV->LV->LV}{gV:List V->List V->List V}
end
structure FnScope (N P:List Str)(sc:Scope):Prop where
 kind:sc.kind=.function
 co:sc.isCoroutine=false
 gen:sc.isGenerator=false
 nd:N.Nodup
 pre:N.take P.length=P
 par:∀x∈P,sc.names.lookup x=some .local\/sc.names.lookup x=some .cell
 nofree:∀y∈sc.names,y.2≠.free
theorem wD{kindOf:Str->Option NameKind}{x:Str}:∀ {binds:List (Str × Value)}{m:SV},(∀v,(x,v) ∉ binds)->bindL kindOf binds m x=m x
 | [],_,_=>rfl
 | (n,v)::r,m,h=>by
  unfold bindL;rw[wD λ w hw=>h w (aM _ hw)];split
  ·have:x≠n:=by rintro rfl;exact h v bF
   simp[this]
  ·rfl
theorem wE{kindOf:Str->Option NameKind}{x:Str}:∀ {binds:List (Str × Value)}{m:SV},(∀v,(x,v) ∉ binds)->bindC kindOf binds m x=m x
 | [],_,_=>rfl
 | (n,v)::r,m,h=>by
  unfold bindC;rw[wE λ w hw=>h w (aM _ hw)];split
  ·rfl
  ·have:x≠n:=by rintro rfl;exact h v bF
   simp[this]
theorem sy{kindOf:Str->Option NameKind}:∀ {P:List Str}{vs:LV}{i:Nat}{m:SV},P.Nodup->P[i]?=some x->vs[i]?=some v->kindOf x=some .local ->
  bindL kindOf (P.zip vs) m x=some v
 | [],_,_,_,_,h,_,_=>by simp at h
 | _::_,[],_,_,_,_,h,_=>by simp at h
 | p::P,w::vs,0,m,nd,h1,h2,hk=>by
  simp at h1 h2;subst h1;subst h2;show bindL kindOf ((p,w)::P.zip vs) m p=_;unfold bindL;rw[wD λ v hv=>(jP.mp nd).1 (nP hv).1,if_pos hk];simp
 | p::P,w::vs,i+1,m,nd,h1,h2,hk=>by
  show bindL kindOf ((p,w)::P.zip vs) m x=_;unfold bindL;exact sy (i:=i) (jP.mp nd).2 (by simpa using h1) (by simpa using h2) hk
theorem sD{kindOf:Str->Option NameKind}:∀ {P:List Str}{vs:LV}{i:Nat}{m:SV},P.Nodup->P[i]?=some x->vs[i]?=some v->kindOf x≠some .local ->
  bindC kindOf (P.zip vs) m x=some v
 | [],_,_,_,_,h,_,_=>by simp at h
 | _::_,[],_,_,_,_,h,_=>by simp at h
 | p::P,w::vs,0,m,nd,h1,h2,hk=>by
  simp at h1 h2;subst h1;subst h2;show bindC kindOf ((p,w)::P.zip vs) m p=_;unfold bindC;rw[wE λ v hv=>(jP.mp nd).1 (nP hv).1,if_neg hk];simp
 | p::P,w::vs,i+1,m,nd,h1,h2,hk=>by
  show bindC kindOf ((p,w)::P.zip vs) m x=_;unfold bindC;exact sD (i:=i) (jP.mp nd).2 (by simpa using h1) (by simpa using h2) hk
def start(N:List Str)(vs:List V):St:=vs.map some++List.replicate (N.length - vs.length) none
noncomputable def eO(CX:CXT)(P:Program)(w:World)(K:FG)(mg:SV)(base:Heap)(N:List Str)(qual:Str)(scope:Scope)(f:Addr)(cd:Value)(A:Around)(outer:List Env)(s:Shared)(H:Hp)(E:XK):Cx where
 prog:=P
 w:=w
 K:=K
 mg:=mg
 base:=base
 A:=A.deeper (envOfC qual scope s.heap.objs.size f cd)
 N:=N
 s₀:=s
 H₀:=H
 env:=envOfC qual scope s.heap.objs.size f cd
 outer:=outer
 stack:=envOfC qual scope s.heap.objs.size f cd::outer
 ex:=[]
 calm:=true
 fn:=λ _=>true
 pn:=[]
 xe:=λ e s'=>wpAny (model P w) (A.deeper (envOfC qual scope s.heap.objs.size f cd)) (leaving (envOfC qual scope s.heap.objs.size f cd) e) (λ _ s''=>CX outer H s E e s'') (λ e' s''=>CX outer H s E e' s'') s'
theorem nQ{sc:Scope}(h:sc.names.lookup x=some .cell):∃c,(cellsFrom n sc.names []).lookup x=some c:=by
 have q:=pQ sc.names n [] (.inl h);exact kL.mp q
theorem Ee{K:FG}{A:Around}{vs:List V}
  (S:FnScope N ps scope) (hd:A.handled=none) (e0:Env0 P w K mg base A outer s H) (hl:vs.length=ps.length) (r:Vals vs us)
  (x:InCallC s s.heap.objs.size (bindL (envOfC qual scope s.heap.objs.size f cd).kindOf (ps.zip us) λ _=>none) (cellsFrom (s.heap.objs.size+1) scope.names []) (bindC (envOfC qual scope s.heap.objs.size f cd).kindOf (ps.zip us) λ _=>none) s1) :
  Inv (eO CX P w K mg base N qual scope f cd A outer s H E) [] (start N vs) H s1:=by
 have hpl:ps.length≤N.length:=by have:=dA List.length S.pre;rw[be] at this;lia
 obtain⟨h1,tk,rfl,hk⟩:=x.done;have noA:∀b:Addr,b ∉ (eO CX P w K mg base N qual scope f cd A outer s H E).ex:=λ b z=>absurd (show b∈([]:List Addr) from z) (by simp)
 refine⟨⟨e0.mod,S.kind,rfl,rfl,aJ _,λ y z c h1 h2=>?_,λ y hy=>?_,λ y c _ h=>?_,λ _=>hd,wF e0.frames,.inr ⟨rfl,rfl⟩,λ b z=>absurd z (noA b),e0.bs,e0.bsz,λ b _ _=>noA b,λ b z=>absurd z (noA b),e0.funs,e0.frf⟩,
  rfl,e0.bare,Un.kept hk,⟨_,x.toInCall.ns,λ i y v h1 h2 h3=>?_⟩,λ y c h=>⟨_,x.cell y c h⟩,e0.hok.fresh (aJ _),λ y c h=>?_,λ p hp=>absurd (show p∈([]:LO) from hp) (by simp),e0.hok.kept hk,?_⟩
 ·exact pR x.apart (cR h1) (cR h2)
 ·have hy:scope.names.lookup y=some .cell\/scope.names.lookup y=some .free:=hy
  rcases hy with hy | hy
  ·exact nQ hy
  ·exact absurd rfl (S.nofree _ (cR hy))
 ·exact fP (x.above y c (cR h))
 ·have hi:i < vs.length:=by
   unfold start at h2;by_cases hi:i < vs.length
   ·exact hi
   ·rw[cS (by simpa using hi)] at h2;rw[sE] at h2;split at h2<;>cases h2
  have ha:vs[i]?=some v:=by
   unfold start at h2;rw[dw (by simpa using hi),bA] at h2
   cases e:vs[i]? with
   | none=>rw[e] at h2;cases h2
   | some a=>rw[e] at h2;cases h2;rfl
  obtain⟨u,hu,rv⟩:=r.get ha
  have hp:ps[i]?=some y:=by
   rw[← S.pre,eZ (by lia)];exact h1
  have ndP:ps.Nodup:=by rw[← S.pre];exact S.nd.sublist (List.take_sublist _ _)
  refine⟨u,rv,?_⟩
  rcases S.par y (bw hp) with k | k
  ·exact .inl ⟨k,sy ndP hp hu k⟩
  ·obtain⟨c,e⟩:=nQ (n:=s.heap.objs.size+1) k;refine .inr ⟨.inl k,c,e,?_⟩;have q:=x.cell y c e;rw[sD ndP hp hu (by show scope.names.lookup y≠_;rw[k];decide)] at q;exact q
 ·exact e0.hok.fresh (fP (x.above y c (cR h)))
 ·unfold start;show _=N.length;rw[bu,aA,pT];lia
theorem wG{K:FG}{dV kV doc pm cdv ct oc:Value}{an od:OA}
  {osl:AV}{sp:Sp}(lk:K.lookup f=some ⟨oc,od,.func (W.fnOf name qual params body scope dV kV doc pm an cdv ct),osl⟩) (hcd:W.codeIn K cdv qual=true) (S:FnScope N ps scope)
  (len:∀vs H Q E,sp vs H Q E->vs.length=ps.length)
  (hbody:∀(A:Around) (outer:List Env) (s:Shared) (H:Hp) (vs:List V) (Q:VK) (E:XK),Room k (A.deeper (envOfC qual scope s.heap.objs.size f cdv))->sp vs H Q E ->
   ∃t,PSs (eO CX P w K mg base N qual scope f cdv A outer s H E) body t/\t { nx:=λ _ H'=>Q .non H',rt:=Q } (start N vs) H) :
  FnOk P w K mg base CX (k+1) f (W.fnOf name qual params body scope dV kV doc pm an cdv ct) ps sp:=by
 refine⟨len,λ A outer s H args us vs Q E hr e0 hb r hsp=>?_⟩;have hl:=len _ _ _ _ hsp;have KX:K.In s.heap:=e0.mod.kin.keeps λ b o e=>(e0.bs b o e).1;have lim:s.heap.NoLimit:=e0.mod.nolimit.keeps λ b o e=>(e0.bs b o e).1
 have hkind:∀y∈ps.zip us,scope.names.lookup y.1=some .local\/(scope.names.lookup y.1=some .cell/\((cellsFrom (s.heap.objs.size+1) scope.names []).lookup y.1).isSome=true):=λ⟨n,v⟩ hy=>by
  rcases S.par n (nP hy).1 with q | q
  ·exact .inl q
  ·exact .inr ⟨q,pQ _ _ _ (.inl q)⟩
 refine wH hr.depth (KX _ _ lk) rfl S.co S.gen rfl (W.codeRec_of KX hcd) (hb _ _ _ _ ?_);refine wpAny_newFunctionEnv_cells S.kind hkind λ env he s1 x=>?_;subst he;refine⟨lim.keeps x.toInCall.keep,codeAny_func ?_⟩;obtain⟨t,ht,hq⟩:=hbody A outer s H vs Q E (hr.deeper _) hsp;have I:Inv (eO CX P w K mg base N qual scope f cdv A outer s H E) [] (start N vs) H s1:=Ee S hr.hd e0 hl r x;refine dG (ht [] s1 (start N vs) H _ I hq) (λ fl s' hs=>?_) λ e s' hs=>hs
 have fin:∀ {σ':St}{H':Hp}{v:V}{u:Value},Inv (eO CX P w K mg base N qual scope f cdv A outer s H E) [] σ' H' s'->RelV v u->Q v H'->CE outer P w H s Q u s' :=
  λ {σ' H' v u} J rv q=>⟨v,H',J.os,J.bare,J.base,J.hok,rv,q⟩
 cases fl with
 | ret u =>
  obtain⟨v,σ',H',J,rv,q⟩:=hs;exact fin J rv q
 | next =>
  obtain⟨σ',H',J,q⟩:=hs;exact fin (v:=V.non) (u:=Value.none) J rfl q
 | brk =>
  obtain⟨_,_,_,q⟩:=hs;exact False.elim q
 | cont =>
  obtain⟨_,_,_,q⟩:=hs;exact False.elim q
section
variable {X:Cx}{x:Str}{p pos:Pos}{e:Expr}{es:List Expr}{t:TA}{id T:String}{r:List V->Hp->VK->Prop}
def tCB(r:List V->Hp->VK->Prop)(t:TA):TE:=λ σ H Q=>t σ H λ vs H1=>r vs H1 Q
theorem wI(hc:db X (.builtin id) r)(hg:Gl X x)(hm:X.mg x=none)(hv:bootBuiltins x=some (.builtin id))(ha:PA X (e::es) t)(hn:x ≠ "__name__" := by decide)(hdb:(x == ("__debug__" : Str))=false:=by decide)
  (he:starEach (e::es) X.env=(false,eval e X.env)::starEach es X.env:=by rfl) (hpl:(backTo pos (starEach es X.env)).any (·.1)=false:=by rfl):PE X (.Call (.Name x p) (e::es) [] pos) (tCB r t):=by
 intro pins s σ H Q I h;refine lY (fQ I hg hm hv ?_ hn hdb);exact PyProof.Rows.callWith_builtin1 (thn (ha pos pins s σ H _ I h) λ us s1 ⟨vs,H1,I1,r1,q1⟩=>hc pins s1 σ H1 vs us Q I1 r1 q1) he hpl
theorem wJ(hc:db X (.type T) r)(hg:Gl X x)(hm:X.mg x=none)(hv:bootBuiltins x=some (.type T))(ha:PA X (e::es) t)(hn:x ≠ "__name__" := by decide)(hdb:(x == ("__debug__" : Str))=false:=by decide)
  (he:starEach (e::es) X.env=(false,eval e X.env)::starEach es X.env:=by rfl) (hpl:(backTo pos (starEach es X.env)).any (·.1)=false:=by rfl):PE X (.Call (.Name x p) (e::es) [] pos) (tCB r t):=by
 intro pins s σ H Q I h;refine lY (fQ I hg hm hv ?_ hn hdb);exact ix (thn (ha pos pins s σ H _ I h) λ us s1 ⟨vs,H1,I1,r1,q1⟩=>hc pins s1 σ H1 vs us Q I1 r1 q1) he hpl
end
end L2
namespace HT
open PySem PyProof.Rows
section
open PySem.SeqAt
open PySem.AutoSeq1 (wpAny_loadPart')
open PySem.MeetsSeq PySem.MeetsSeq2 PySem.MeetsSeq3
end
section
variable {prog:Program}{w:World}{A:Around}{E:VS}{s:Shared}
theorem cat_tup{vs ws:LV}{Q:VS}(ht:IsTup s.heap t vs.toArray)(hb:IsTup s.heap b ws.toArray)(hv:vs≠[])
  (h1:ws=[]->Q (.ref t) s) (h2:ws≠[]->Q (.ref s.heap.objs.size) { s with heap:=s.heap.push { cls:=.type "tuple",data:=.seq (vs++ws).toArray } })
  (hsz:vs.length+ws.length≤sizeLine):wpAny (model prog w) A (binaryOp .Add (.ref t) (.ref b)) Q E s:=by
 obtain⟨⟨cls,dd,data,sl⟩,ho,hc,n,hd⟩:=id ht;obtain⟨⟨cls2,dd2,data2,sl2⟩,ho2,hc2,n2,hd2⟩:=id hb;simp only at hc hd hc2 hd2;subst hc hd hc2 hd2;have e:vs.toArray++ws.toArray=(vs++ws).toArray:=by simp
 by_cases hw:ws=[]
 ·exact s0z ⟨_,ho,rfl⟩ ⟨_,ho2,rfl⟩ sF s0j sH sI (sJ _ _)
   (tuple_addW1 t b vs.toArray ws.toArray n n2 dd dd2 sl sl2 (by simpa using hv) (by simp[hw])) ⟨ho,ho2,h1 hw⟩
 ·refine s0z ⟨_,ho,rfl⟩ ⟨_,ho2,rfl⟩ sF s0j sH sI (sJ _ _)
   (tuple_addW2 t b vs.toArray ws.toArray n n2 dd dd2 sl sl2 (by simpa using hv) (by simpa using hw) (by rw[bN,bN];exact hsz)) ⟨ho,ho2,?_⟩
  rw[e];exact h2 hw
def sIx(n d:Nat):Option Int->Nat
 | none=>d
 | some v=>if v < 0 then (v+(n:Int)).toNat else min v.toNat n
theorem Ef(n d:Nat)(hd:d≤n)(o:Option Int):sIx n d o≤n:=by
 cases o with
 | none=>exact hd
 | some v =>
  show(if v < 0 then (v+(n:Int)).toNat else min v.toNat n)≤n;by_cases hv:v < 0
  ·rw[if_pos hv];lia
  ·rw[if_neg hv];exact Nat.min_le_right _ _
theorem wK(v:Int)(n d:Nat):(if v < 0 then max (v+(n:Int)) 0 else min v (n:Int))=((sIx n d (some v):Nat):Int):=by
 show(if v < 0 then max (v+(n:Int)) 0 else min v (n:Int))=(((if v < 0 then (v+(n:Int)).toNat else min v.toNat n):Nat):Int);by_cases hv:v < 0
 ·simp only[if_pos hv];lia
 ·simp only[if_neg hv];lia
theorem Eg(lo hi:Option Int)(n:Nat):Builtin.Slice.sliceAdjust lo hi 1 (n:Int)=(((sIx n 0 lo:Nat):Int),((sIx n n hi:Nat):Int)):=by
 have h1:¬((1:Int) < 0):=by lia
 unfold Builtin.Slice.sliceAdjust;simp only[h1,s0k];refine Prod.ext ?_ ?_
 ·cases lo with
  | none=>rfl
  | some v=>exact wK v n 0
 ·cases hi with
  | none=>rfl
  | some v=>exact wK v n n
theorem Eh(i j:Nat):Builtin.Slice.slicePlaces (i:Int) (j:Int) 1=j - i:=by
 unfold Builtin.Slice.slicePlaces;have h1:(1:Int) > 0:=by lia
 simp only[h1,gG,s1b];split<;>lia
theorem wL{Q:Option Int->Shared->Prop}(p:IsPart v o)(h:Q o s):wpAny (model prog w) A (Builtin.Slice.slicePartIndex v) Q E s:=by
 cases p with
 | none=>exact slicePart_none h
 | int i t=>exact slicePart_int h
theorem wM{lo hi:Option Int}{Q:Int × Int × Nat->Shared->Prop}(hs:s.heap.IsSliceOf sl vl vu .none)(pl:IsPart vl lo)(pu:IsPart vu hi)
  (h:Q (((sIx n 0 lo:Nat):Int),1,sIx n n hi - sIx n 0 lo) s):wpAny (model prog w) A (Builtin.Slice.sliceApplied (.ref sl) (pure (n:Int))) Q E s:=by
 obtain⟨os,hos,hcs,hds⟩:=id hs;unfold Builtin.Slice.sliceApplied Builtin.Slice.sliceFields;refine ak (ak (ck hos hds (x:=vl) rfl (ak (ck hos hds (x:=vu) rfl (ak (ck hos hds (x:=.none) rfl (aK ?_)))))));refine ak (slicePart_none ?_);show wpAny _ _ (if ((1:Int) == 0)=true then _ else _) _ _ s;rw[if_neg (by decide)];refine ak (wL pl (ak (wL pu (ak (aK ?_)))));show wpAny _ _ (match Builtin.Slice.sliceAdjust lo hi 1 (n:Int) with | (lo,hi)=>pure (lo,(1:Int),Builtin.Slice.slicePlaces lo hi 1)) _ _ s;rw[Eg lo hi n];show wpAny _ _ (pure (((sIx n 0 lo:Nat):Int),(1:Int),Builtin.Slice.slicePlaces ((sIx n 0 lo:Nat):Int) ((sIx n n hi:Nat):Int) 1)) _ _ s;rw[Eh];exact aK h
theorem Ei(xs:Array Value)(i k:Nat):((List.range k).filterMap λ(m:Nat)=>xs[((i:Int)+(m:Int) * 1).toNat]?).toArray=((xs.toList.drop i).take k).toArray:=by
 have e:(λ(m:Nat)=>xs[((i:Int)+(m:Int) * 1).toNat]?)=λ m=>xs[i+m]?:=by
  funext m;have:((i:Int)+(m:Int) * 1).toNat=i+m:=by lia
  rw[this]
 rw[e];have:=pick_run xs i k;rw[List.filterMap_map] at this;have e2:((λ x=>xs[x]?) ∘ λ x=>i+x)=λ m=>xs[i+m]?:=rfl;rw[e2] at this;rw[this]
theorem getItem_tuple_cut{lo hi:Option Int}{Q:VS}(ht:IsTup s.heap t items)(hs:s.heap.IsSliceOf sl vl vu .none)(pl:IsPart vl lo)(pu:IsPart vu hi)
  (hw:¬(sIx items.size 0 lo=0/\sIx items.size items.size hi=items.size))
  (h:Q (.ref s.heap.objs.size) { s with heap:=s.heap.push { cls:=.type "tuple",data:=.seq ((items.toList.drop (sIx items.size 0 lo)).take (sIx items.size items.size hi - sIx items.size 0 lo)).toArray } })
  (hsz:items.size≤sizeLine):wpAny (model prog w) A (getItem (.ref t) (.ref sl)) Q E s:=by
 have htake:sizeOk (.seq ((items.toList.drop (sIx items.size 0 lo)).take (sIx items.size items.size hi - sIx items.size 0 lo)).toArray):=by
  show((items.toList.drop (sIx items.size 0 lo)).take (sIx items.size items.size hi - sIx items.size 0 lo)).toArray.size≤sizeLine;rw[bN,be,fF,Array.length_toList];lia
 have hj:sIx items.size items.size hi≤items.size:=Ef _ _ (aJ _) hi;obtain⟨os,hos,hcs,hds⟩:=id hs;have hTs:s.TypeIs (.ref sl) "slice" := ⟨os,hos,hcs⟩;unfold getItem;try with_reducible refine gD ?_
 first | refine ak (aK ?_) | skip
 refine ak (wpAny_sequenceKey ht.typeIs (by decide) ?_)
 refine ak (gZ (name:=Str.ofString "__getitem__") ht.typeIs pU
  (fT pU ht.typeIs wN ?_ (s0l _ _)))
 show wpAny _ _ (Builtin.Tuple.tupleItemsOf (.ref t) >>= _) _ _ s;refine ak (tupleItemsOf_ ht ?_);refine ak (kM hTs ?_);rw[if_pos (by decide)];refine ak (wM hs pl pu ?_)
 have hno:¬((((sIx items.size 0 lo:Nat):Int) == 0 && (1:Int) == 1 && (sIx items.size items.size hi - sIx items.size 0 lo) == items.size)=true):=by
  intro q;rw[nR,nR] at q;have q1:((sIx items.size 0 lo:Nat):Int)=0:=jQ q.1.1;have q2:sIx items.size items.size hi - sIx items.size 0 lo=items.size:=jQ q.2;exact hw ⟨by lia,by lia⟩
 show wpAny _ _ (if (((sIx items.size 0 lo:Nat):Int) == 0 && (1:Int) == 1 && (sIx items.size items.size hi - sIx items.size 0 lo) == items.size)=true then _ else _) _ _ s;rw[if_neg hno,Ei]
 first
  | exact ak (m:=Builtin.Tuple.tupleExact _) (fb (aK ⟨_,rfl,aK h⟩) htake)
  | exact ak (m:=Builtin.Tuple.tupleExact _) (fb (ak (aK (aK ⟨_,rfl,aK h⟩))) htake)
  | exact ak (ak (m:=Builtin.Tuple.tupleExact _) (fb (aK (aK ⟨_,rfl,aK h⟩)) htake))
  | exact ak (ak (m:=Builtin.Tuple.tupleExact _) (fb (aK ⟨_,rfl,aK h⟩) htake))
end
end HT
namespace L2
open PySem PySem.Spec PyProof.Rows
abbrev TO:=St->Hp->(Option Int->Hp->Prop)->Prop
noncomputable def PO(X:Cx)(e:Option Expr)(t:TO):Prop :=
 ∀(pins:LO) (s:Shared) (σ:St) (H:Hp) (Q:Option Int->Hp->Prop),Inv X pins σ H s->t σ H Q ->
  wpAny (model X.prog X.w) X.A (evalPart e X.env) (λ u s'=>∃o H',Inv X pins σ H' s'/\IsPart u o/\Q o H') X.xe s
def wO:TO:=λ _ H Q=>Q none H
def wP(t:TE):TO:=λ σ H Q=>t σ H λ x H1=>isI x λ i=>Q (some i) H1
theorem pV{ns:LI}:∀ {us:LV},Vals (ns.map V.int) us->IntsAre us ns:=by
 induction ns with
 | nil=>intro us r;rw[List.map_nil] at r;cases r;exact .nil
 | cons n ns ih =>
  intro us r;rw[fe] at r
  cases r with
  | cons r1 r2 =>
   obtain⟨t,e⟩:=r1;subst e;exact .cons n t (ih r2)
section
variable {X:Cx}{e:Expr}{te:TE}{lo hi:Option Expr}{tl th:TO}{pos p2:Pos}
theorem cu:PO X none wO:=by
 intro pins s σ H Q I h;rw[evalPart_none];exact aK ⟨none,H,I,.none,h⟩
theorem bY(h:PE X e te):PO X (some e) (wP te):=by
 intro pins s σ H Q I hw;rw[evalPart_some];refine thn (h pins s σ H _ I hw) λ u s1 ⟨x,H1,I1,r1,q1⟩=>?_;obtain⟨i,rfl,q⟩:=se q1;obtain⟨t,rfl⟩:=r1;exact⟨some i,H1,I1,.int i t,q⟩
noncomputable def SlR(X:Cx)(r:V->Option Int->Option Int->Hp->VK->Prop):Prop :=
 ∀(pins:LO) (s:Shared) (σ:St) (H:Hp) (x:V) (v vl vu:Value) (lo hi:Option Int) (sl:Addr) (Q:VK),Inv X pins σ H s->RelV x v->s.heap.IsSliceOf sl vl vu .none->IsPart vl lo->IsPart vu hi->r x lo hi H Q ->
  ∃T id,typeLookup (.type T) "__getitem__"=pure (some (.builtin id))/\s.TypeIs v T/\wpAny (model X.prog X.w) X.A (getItem v (.ref sl)) (EP X pins σ Q) X.xe s
def tSl(r:V->Option Int->Option Int->Hp->VK->Prop)(te:TE)(tl th:TO):TE:=λ σ H Q=>te σ H λ x H1=>tl σ H1 λ l H2=>th σ H2 λ u H3=>r x l u H3 Q
theorem cn(hr:SlR X r)(he:PE X e te)(hl:PO X lo tl)(hu:PO X hi th):PE X (.Subscript e (.Slice lo hi none p2) pos) (tSl r te tl th):=by
 intro pins s σ H Q I h;refine Subscript_ (thn (he pins s σ H _ I h) λ v s1 ⟨x,H1,I1,r1,q1⟩=>?_);refine wpAny_Slice (thn (hl pins s1 σ H1 _ I1 q1) λ vl s2 ⟨l,H2,I2,pl,q2⟩=>thn (hu pins s2 σ H2 _ I2 q2) λ vu s3 ⟨u,H3,I3,pu,q3⟩=>?_);rw[evalPart_none];refine aK ?_;have I4:Inv X pins σ H3 { s3 with heap:=s3.heap.push { cls:=.type "slice",data:=.fields #[vl,vu,.none] } }:=I3.kept (t':=s3.toks) λ b ob q=>bd _ q;obtain⟨T,id,hT,ht,hg⟩:=hr pins { s3 with heap:=s3.heap.push { cls:=.type "slice",data:=.fields #[vl,vu,.none] } } σ H3 x v vl vu l u s3.heap.objs.size Q I4 r1 (Heap.IsSliceOf.new ..) pl pu q3;show wpAny (model X.prog X.w) X.A (subscriptTail e (.Slice lo hi none p2) v (.ref s3.heap.objs.size)) (EP X pins σ Q) X.xe { s3 with heap:=s3.heap.push { cls:=.type "slice",data:=.fields #[vl,vu,.none] } };exact tail_any (ops:=[.ref s3.heap.objs.size,v]) ht hT hg (by with_unfolding_all rfl)
def de(xs:List V)(lo hi:Option Int):List V:=(xs.drop (HT.sIx xs.length 0 lo)).take (HT.sIx xs.length xs.length hi - HT.sIx xs.length 0 lo)
theorem wQ(xs:List V)(lo hi:Option Int):(de xs lo hi).length≤xs.length:=by
 unfold de;rw[be,fF];lia
noncomputable def Ej(K:FG):V->Option Int->Option Int->Hp->VK->Prop:=λ x lo hi H Q=>∃a xs,x=.ref a/\SqT K H a xs /\
 ¬(HT.sIx xs.length 0 lo=0/\HT.sIx xs.length xs.length hi=xs.length)/\∀p,H p=none->Q (.ref p) (upd H p (.tup (de xs lo hi)))
theorem Ek:SlR X (Ej X.K):=by
 intro pins s σ H x v vl vu lo hi sl Q I rx hs pl pu h;obtain⟨a,xs,rfl,hx,hw,q⟩:=h;cases rx;obtain⟨its,r,ht,hz⟩:=I.tuple hx;have hlen:its.toArray.size=xs.length:=by rw[bN];exact r.length.symm
 refine⟨"tuple",_,PyProof.Rows.slot_tuple_getitem.lookup,ht.typeIs,?_⟩;refine HT.getItem_tuple_cut ht hs pl pu (by rw[hlen];exact hw) ?_ (by rw[hlen];exact hz);rw[hlen];refine⟨.ref s.heap.objs.size,_,I.laid (t':=s.toks) (o:=.tup (de xs lo hi)) (λ b ob q=>bd _ q) (aJ _) ?_,rfl,q _ (I.hok.fresh (aJ _))⟩;exact⟨dW (wQ xs lo hi) hz,_,(r.drop (HT.sIx xs.length 0 lo)).take (HT.sIx xs.length xs.length hi - HT.sIx xs.length 0 lo),lZ _ _⟩
noncomputable def El(K:FG):R2:=λ x y H Q=>∃a b xs ys,x=.ref a/\y=.ref b/\SqT K H a xs/\SqT K H b ys/\xs≠[]/\xs.length+ys.length≤sizeLine /\
 (ys=[]->Q (.ref a) H)/\(ys≠[]->∀p,H p=none->Q (.ref p) (upd H p (.tup (xs++ys))))
theorem Vals.nil_iff(r:Vals xs us):us=[] ↔ xs=[]:=by
 cases r with
 | nil=>simp
 | cons _ _=>simp
theorem Em:OpR X (binaryOp .Add) (El X.K):=by
 intro pins s σ H x y v u Q I rx ry h;obtain⟨a,b,xs,ys,rfl,rfl,ha,hb,hx,hz,q1,q2⟩:=h;cases rx;cases ry;obtain⟨its,r1,p1,_⟩:=I.tuple ha;obtain⟨its2,r2,p2,_⟩:=I.tuple hb;refine HT.cat_tup p1 p2 (λ z=>hx (r1.nil_iff.mp z)) (λ z=>⟨.ref a,H,I,rfl,q1 (r2.nil_iff.mp z)⟩) (λ z=>?_) (by rw[← r1.length,← r2.length];exact hz);refine⟨.ref s.heap.objs.size,_,I.laid (t':=s.toks) (o:=.tup (xs++ys)) (λ b ob q=>bd _ q) (aJ _) ?_,rfl,q2 (λ w=>z (r2.nil_iff.mpr w)) _ (I.hok.fresh (aJ _))⟩;exact⟨by rw[bu];exact hz,_,r1.append r2,lZ _ _⟩
end
def ixN(n:Nat)(i:Int):Option Nat:=if 0≤i then (if i < n then some i.toNat else none) else if -(n:Int)≤i then some (i+n).toNat else none
def atI{α:Type}(xs:List α)(i:Int):Option α:=(ixN xs.length i).bind λ j=>xs[j]?
theorem wR(h:ixN n i=some j):seqIndex? i n=some j/\j < n/\-(n:Int)≤i/\i < n:=by
 unfold ixN at h;by_cases h0:0≤i
 ·rw[if_pos h0] at h;by_cases h1:i < n
  ·rw[if_pos h1] at h;have e:i.toNat=j:=cz h;exact⟨by rw[s1g h0 h1,e],by lia,by lia,h1⟩
  ·rw[if_neg h1] at h;cases h
 ·rw[if_neg h0] at h;by_cases h1:-(n:Int)≤i
  ·rw[if_pos h1] at h;have e:(i+n).toNat=j:=cz h;exact⟨by rw[s1c (by lia) h1,e],by lia,h1,by lia⟩
  ·rw[if_neg h1] at h;cases h
theorem wS{α:Type}{xs:List α}{v:α}(h:atI xs i=some v):∃j,seqIndex? i xs.length=some j/\xs[j]?=some v/\j < xs.length/\-(xs.length:Int)≤i/\i < xs.length:=by
 unfold atI at h
 cases e:ixN xs.length i with
 | none=>rw[e] at h;cases h
 | some j =>
  rw[e] at h;obtain⟨h1,h2,h3,h4⟩:=wR e;exact⟨j,h1,h,h2,h3,h4⟩
theorem aB{α:Type}{xs:List α}{j:Nat}{v:α}(h:xs[j]?=some v):atI xs (j:Int)=some v:=by
 have hj:j < xs.length:=(bv.mp h).1
 have e:ixN xs.length (j:Int)=some j:=by
  unfold ixN;rw[if_pos (by lia),if_pos (by lia)];simp
 unfold atI;rw[e];exact h
def wT(b:Expr):Prop:=∀o i,subscripted b false o i=operate [o,i] (getItem o i)
noncomputable def IxR(X:Cx)(r:R2):Prop :=
 ∀(value slice:Expr) (pins:LO) (s:Shared) (σ:St) (H:Hp) (x y:V) (v u:Value) (Q:VK),Inv X pins σ H s->RelV x v->RelV y u->r x y H Q ->
  subscripted slice false v u=operate [v,u] (getItem v u)->wpAny (model X.prog X.w) X.A (subscriptTail value slice v u) (EP X pins σ Q) X.xe s
noncomputable def MtR(X:Cx)(id:String)(r:V->List V->Hp->VK->Prop):Prop :=
 ∀(pins:LO) (s:Shared) (σ:St) (H:Hp) (x:V) (xs:List V) (v:Value) (us:LV) (Q:VK),Inv X pins σ H s->RelV x v->Vals xs us->r x xs H Q ->
  wpAny (model X.prog X.w) X.A (call (.builtin id) (v::us)) (EP X pins σ Q) X.xe s
section
variable {X:Cx}{a b:Expr}{ta tb:TE}{pos:Pos}
theorem me(hr:IxR X r)(ha:PE X a ta)(hb:PE X b tb)(hs:wT b):PE X (.Subscript a b pos) (tOp r ta tb):=by
 intro pins s σ H Q I h;exact Subscript_ (sr ha hb I h λ v u s2 x y H2 I2 rx ry q=>hr a b pins s2 σ H2 x y v u Q I2 rx ry q (hs _ _))
def wU(K:FG):R2:=λ x y H Q=>∃p xs i v,x=.ref p/\y=.int i/\SqL K H p xs/\atI xs i=some v/\Q v H
def wV(K:FG):R2:=λ x y H Q=>∃p xs i v,x=.ref p/\y=.int i/\SqT K H p xs/\atI xs i=some v/\Q v H
theorem pW:IxR X (wU X.K):=by
 intro value slice pins s σ H x y v u Q I rx ry h hs;obtain⟨p,xs,i,z,rfl,rfl,hq,he,q⟩:=h;cases rx;obtain⟨t,rfl⟩:=ry;obtain⟨its,r,pl,hz⟩:=I.list hq;obtain⟨j,h1,h2,h3,h4,h5⟩:=wS he;obtain⟨w,ew,rw'⟩:=r.get h2;have hl:=r.length;have hn:=pN;have fin:EP X pins σ Q w s:=⟨z,H,I,rw',q⟩;by_cases h0:0≤i
 ·have hj:i.toNat=j:=by
   rw[s1g h0 h5] at h1;exact cz h1
  exact item_listR pl.isList h0 (by lia) (by rw[hj];simpa using ew) fin hs
 ·have hj:(i+(its.toArray.size:Int)).toNat=j:=by
   rw[s1c (by lia) h4] at h1;rw[bN,← hl];exact cz h1
  exact wW (x:=w) pl.isList.typeIs slot_list_getitem.lookup
   (wpAny_getItem_list_neg (Q:=λ r s'=>r=w/\EP X pins σ Q r s') pl.isList (by lia) (by rw[bN]<;>lia) (by lia) (by rw[hj];simpa using ew) ⟨rfl,fin⟩) hs
theorem En:IxR X (wV X.K):=by
 intro value slice pins s σ H x y v u Q I rx ry h hs;obtain⟨p,xs,i,z,rfl,rfl,hq,he,q⟩:=h;cases rx;obtain⟨t,rfl⟩:=ry;obtain⟨its,r,pl,hz⟩:=I.tuple hq;obtain⟨j,h1,h2,h3,h4,h5⟩:=wS he;obtain⟨w,ew,rw'⟩:=r.get h2;have hl:=r.length;have hn:=pN;have fin:EP X pins σ Q w s:=⟨z,H,I,rw',q⟩
 exact wW (x:=w) pl.typeIs slot_tuple_getitem.lookup
  (getItem_tuple (j:=j) (Q:=λ r s'=>r=w/\EP X pins σ Q r s') pl (by lia) (by lia) (by rw[bN,← hl];exact h1) (by simpa using ew) ⟨rfl,fin⟩) hs
theorem Eo(its:LV)(n j:Nat)(u:Value):Obj.mapSeq (·.setIfInBounds j u) { cls:=.type "list",data:=.seq its.toArray n }={ cls:=.type "list",data:=.seq (its.set j u).toArray n }:=by
 simp[Obj.mapSeq]
theorem Inv.lst(I:Inv X pins σ H s)(h:H p=some (.lst xs)) :
  ∃(its:LV) (n:Nat),Vals xs its/\s.heap.get? p=some { cls:=.type "list",data:=.seq its.toArray n }/\xs.length≤sizeLine:=by
 obtain⟨z,its,n,r,e⟩:=I.hok p _ h;exact⟨its,n,r,e,z⟩
theorem Inv.lstUpd{its its':LV}{f:Obj->Obj}(I:Inv X pins σ H s)(h:H p=some (.lst xs))
  (ho:s.heap.get? p=some { cls:=.type "list",data:=.seq its.toArray n }) (hf:f { cls:=.type "list",data:=.seq its.toArray n }={ cls:=.type "list",data:=.seq its'.toArray n' }) (r:Vals ys its') (hz:ys.length≤sizeLine) (t:Nat) :
  Inv X pins σ (upd H p (.lst ys)) { s with heap:=s.heap.update p f,toks:=t }:=by
 have e:(s.heap.update p f).get? p=some { cls:=.type "list",data:=.seq its'.toArray n' }:=by
  rw[ja f ho (by rw[hf]<;>rfl),hf]
 refine I.write (x:=p) (e:=p) (by rw[h];trivial) (.inl rfl) (λ b u hb q=>(gH _ _ (cY hb)).trans q) ⟨_,e⟩ ?_;exact⟨hz,its',n',r,e⟩
noncomputable def wX:V->V->V->Hp->(Hp->Prop)->Prop:=λ o i v H Q=>∃p xs k j,o=.ref p/\i=.int k/\H p=some (.lst xs)/\ixN xs.length k=some j/\Q (upd H p (.lst (xs.set j v)))
theorem Ep:wc X wX:=by
 intro pins s σ H o i v ov iv u Q I ro ri rv h;obtain⟨p,xs,k,j,rfl,rfl,hp,hj,q⟩:=h;cases ro;obtain⟨t,rfl⟩:=ri;obtain⟨its,n,r,ho,hz⟩:=I.lst hp;obtain⟨h1,h2,h3,h4⟩:=wR hj;have hl:=r.length;have hn:=pN
 have I':Inv X pins σ (upd H p (.lst (xs.set j v))) { s with heap:=s.heap.update p (Obj.mapSeq (·.setIfInBounds j u)) } :=
  I.lstUpd hp ho (Eo its n j u) (r.set rv j) (by rw[gJ];exact hz) s.toks
 by_cases h0:0≤k
 ·have hk:k.toNat=j:=by
   rw[s1g h0 h4] at h1;exact cz h1
  exact W.ki_setAt ho h0 (by lia) (by rw[bN,← hl];exact h4) (by rw[hk];exact⟨_,I',q⟩)
 ·have hk:(k+(its.toArray.size:Int)).toNat=j:=by
   rw[s1c (by lia) h3] at h1;rw[bN,← hl];exact cz h1
  exact W.ki_setBack ho (by lia) (by rw[bN,← hl];exact h3) (by lia) (by rw[hk];exact⟨_,I',q⟩)
theorem Er(lo hi:Option Int)(n:Nat):(sliceBounds lo hi none n).1=((HT.sIx n 0 lo:Nat):Int)/\(sliceBounds lo hi none n).2.1=((HT.sIx n n hi:Nat):Int)/\(sliceBounds lo hi none n).2.2=1:=by
 refine⟨?_,?_,rfl⟩
 ·cases lo with
  | none=>simp[sliceBounds,HT.sIx]
  | some i =>
   simp only[sliceBounds,HT.sIx,Option.getD_none,show(1:Int) > 0 by decide,gG];by_cases h:i < 0
   ·simp only[h,gG]<;>lia
   ·simp only[h,s0k]<;>lia
 ·cases hi with
  | none=>simp[sliceBounds,HT.sIx]
  | some i =>
   simp only[sliceBounds,HT.sIx,Option.getD_none,show(1:Int) > 0 by decide,gG];by_cases h:i < 0
   ·simp only[h,gG]<;>lia
   ·simp only[h,s0k]<;>lia
theorem Es(its:LV)(lo hi:Option Int):slicePick its.toArray lo hi none=((its.drop (HT.sIx its.length 0 lo)).take (HT.sIx its.length its.length hi - HT.sIx its.length 0 lo)).toArray:=by
 obtain⟨h1,h2,h3⟩:=Er lo hi its.toArray.size;unfold slicePick;rw[h1,h2,h3];simp only[sliceRange_one,pick_run,bN]<;>rfl
noncomputable def wY(K:FG):V->Option Int->Option Int->Hp->VK->Prop:=λ x lo hi H Q=>∃a xs,x=.ref a/\SqL K H a xs/\∀p,H p=none->Q (.ref p) (upd H p (.lst (de xs lo hi)))
theorem Et:SlR X (wY X.K):=by
 intro pins s σ H x v vl vu lo hi sl Q I rx hs pl pu h;obtain⟨a,xs,rfl,hx,q⟩:=h;cases rx;obtain⟨its,r,ht,hz⟩:=I.list hx;have hlen:=r.length;refine⟨"list",_,slot_list_getitem.lookup,ht.isList.typeIs,?_⟩;refine wpAny_getItem_list_slice ht.isList hs pl pu .none (by simp) ?_ (by rw[bN]<;>lia);rw[Es,← hlen];refine⟨.ref s.heap.objs.size,_,I.laid (t':=s.toks) (o:=.lst (de xs lo hi)) (λ b ob q=>bd _ q) (aJ _) ?_,rfl,q _ (I.hok.fresh (aJ _))⟩;exact⟨dW (wQ xs lo hi) hz,_,0,(r.drop (HT.sIx xs.length 0 lo)).take (HT.sIx xs.length xs.length hi - HT.sIx xs.length 0 lo),bG _ rfl⟩
def bZ:V->Bool
 | .non=>true
 | .bl _=>true
 | .int _=>true
 | .str _=>true
 | _=>false
noncomputable def eqV:V->V->Bool
 | .non,.non=>true
 | .bl a,.bl b=>a == b
 | .bl a,.int b=>(if a then 1 else 0) == b
 | .int a,.bl b=>a == (if b then 1 else 0)
 | .int a,.int b=>a == b
 | .str a,.str b=>a == b
 | _,_=>false
theorem pX(ry:RelV y u)(rx:RelV x v)(fy:bZ y=true)(fx:bZ x=true):SeqAt.EqAt A s u v (eqV y x):=by
 cases y with
 | non =>
  cases ry
  cases x with
  | non=>cases rx;exact SeqAt.EqAt.same _
  | bl b=>cases rx;exact SeqAt.EqAt.none_bool b
  | int b=>obtain⟨t,rfl⟩:=rx;exact SeqAt.EqAt.none_int b t
  | str b=>obtain⟨t,rfl⟩:=rx;exact SeqAt.EqAt.none_str b t
  | _=>exact absurd (show false=true from fx) cI
 | bl a =>
  cases ry
  cases x with
  | non=>cases rx;exact SeqAt.EqAt.bool_none a
  | bl b=>cases rx;exact SeqAt.EqAt.bool_bool a b
  | int b=>obtain⟨t,rfl⟩:=rx;exact SeqAt.EqAt.bool_int a b t
  | str b=>obtain⟨t,rfl⟩:=rx;exact SeqAt.EqAt.bool_str a b t
  | _=>exact absurd (show false=true from fx) cI
 | int a =>
  obtain⟨t',rfl⟩:=ry
  cases x with
  | non=>cases rx;exact SeqAt.EqAt.int_none a t'
  | bl b=>cases rx;exact SeqAt.EqAt.int_bool a t' b
  | int b=>obtain⟨t,rfl⟩:=rx;exact SeqAt.EqAt.int_int a t' b t
  | str b=>obtain⟨t,rfl⟩:=rx;exact s0f a t' b t
  | _=>exact absurd (show false=true from fx) cI
 | str a =>
  obtain⟨t',rfl⟩:=ry
  cases x with
  | non=>cases rx;exact SeqAt.EqAt.str_none a t'
  | bl b=>cases rx;exact SeqAt.EqAt.str_bool a t' b
  | int b=>obtain⟨t,rfl⟩:=rx;exact s0g a t' b t
  | str b=>obtain⟨t,rfl⟩:=rx;exact SeqAt.EqAt.str_str a t' b t
  | _=>exact absurd (show false=true from fx) cI
 | _=>exact absurd (show false=true from fy) cI
noncomputable def eqU(x:V)(u:Value):Bool:=match u with
 | .none=>eqV .non x
 | .bool b=>eqV (.bl b) x
 | .int i _=>eqV (.int i) x
 | .str z _=>eqV (.str z) x
 | _=>false
theorem sK(r:RelV y u)(f:bZ y=true):eqU x u=eqV y x:=by
 cases y with
 | non=>cases r;rfl
 | bl b=>cases r;rfl
 | int i=>obtain⟨t,rfl⟩:=r;rfl
 | str z=>obtain⟨t,rfl⟩:=r;rfl
 | _=>exact absurd (show false=true from f) cI
theorem sL:∀ {xs:List V}{us:LV},Vals xs us->xs.all bZ=true->us.any (eqU x)=xs.any λ y=>eqV y x
 | _,_,.nil,_=>rfl
 | y::xs,u::us,.cons r t,f=>by
  rw[List.all_cons,nR] at f;rw[List.any_cons,List.any_cons,sK r f.1,sL t f.2]
theorem pY(rx:RelV x v)(fx:bZ x=true):∀ {xs:List V}{us:LV},Vals xs us->xs.all bZ=true->∀u∈us,SeqAt.EqAt A s u v (eqU x u)
 | _,_,.nil,_=>λ u hu=>by cases hu
 | y::xs,u::us,.cons r t,f=>λ u' hu=>by
  rw[List.all_cons,nR] at f
  rcases bE.mp hu with rfl | hu
  ·rw[sK r f.1];exact pX r rx f.1 fx
  ·exact pY rx fx t f.2 u' hu
def inV(x:V)(xs:List V):Bool:=xs.any λ y=>eqV y x
noncomputable def rIn(K:FG)(neg:Bool):R2:=λ x y H Q=>∃p xs,y=.ref p/\(SqL K H p xs\/SqT K H p xs)/\bZ x=true/\xs.all bZ=true/\Q (.bl (if neg then !inV x xs else inV x xs)) H
theorem Eu:OpR X (compareOp .In) (rIn X.K false):=by
 intro pins s σ H x y v u Q I rx ry h;obtain⟨p,xs,rfl,hq,fx,fs,q⟩:=h;cases ry
 rcases hq with hq | hq
 ·obtain⟨its,r,pl,hz⟩:=I.list hq;refine SeqAt.in_listAt (eqU x) pl.isList (λ w hw=>pY rx fx r fs w (by simpa using hw)) ⟨.bl _,H,I,rfl,?_⟩;rw[show its.toArray.any (eqU x)=its.any (eqU x) by simp,sL r fs];exact q
 ·obtain⟨its,r,pl,hz⟩:=I.tuple hq;refine SeqAt.in_tupleAt (eqU x) pl (λ w hw=>pY rx fx r fs w (by simpa using hw)) ⟨.bl _,H,I,rfl,?_⟩;rw[show its.toArray.any (eqU x)=its.any (eqU x) by simp,sL r fs];exact q
theorem wZ:db X (.builtin "len") (λ xs H Q=>∃p ys,xs=[.ref p]/\(SqL X.K H p ys\/SqT X.K H p ys)/\Q (.int ys.length) H):=by
 intro pins s σ H xs us Q I r h;obtain⟨p,ys,rfl,hq,q⟩:=h;obtain⟨u,rfl,rx⟩:=dY r;cases rx;have hn:=pN
 rcases hq with hq | hq
 ·obtain⟨its,r',pl,hz⟩:=I.list hq;have hlen:=r'.length;exact Calls.call_len_list pl.isList (by simp only[bN]<;>lia) ⟨.int ys.length,H,I.tok _,⟨s.toks+1,by rw[bN,hlen]⟩,q⟩
 ·obtain⟨its,r',pl,hz⟩:=I.tuple hq;have hlen:=r'.length;exact s0m pl (by simp only[bN]<;>lia) ⟨.int ys.length,H,I.tok _,⟨s.toks+1,by rw[bN,hlen]⟩,q⟩
theorem Ew:db X (.type "list") (λ xs H Q=>∃p ys,xs=[.ref p]/\(SqL X.K H p ys\/SqT X.K H p ys)/\∀l,H l=none->Q (.ref l) (upd H l (.lst ys))):=by
 intro pins s σ H xs us Q I r h;obtain⟨p,ys,rfl,hq,q⟩:=h;obtain⟨u,rfl,rx⟩:=dY r;cases rx
 have fin:∀(its:LV),Vals ys its->ys.length≤sizeLine->∀(h':Heap) (c':Nat),(∀b o',s.heap.get? b=some o'->h'.get? b=some o') ->
   h'.get? s.heap.objs.size=some { cls:=.type "list",dict:=none,data:=.seq its.toArray c',slots:=#[] }->EP X pins σ Q (.ref s.heap.objs.size) { s with heap:=h' }:=λ its r' hz h' c' kp e =>
  ⟨.ref s.heap.objs.size,_,I.laid (t':=s.toks) kp (aJ _) (show ObjOk X.prog X.w _ h' _ (.lst ys) from ⟨hz,its,c',r',e⟩),rfl,q _ (I.hok.fresh (aJ _))⟩
 rcases hq with hq | hq
 ·obtain⟨its,r',pl,hz⟩:=I.list hq;have hlen:=r'.length;obtain⟨o,ho,hc,n,hd⟩:=pl.isList;exact call_list_seq p (.inl rfl) ho hc hd (λ h' c' kp e=>fin its r' hz h' c' kp e) (by simp only[bN]<;>lia)
 ·obtain⟨its,r',pl,hz⟩:=I.tuple hq;have hlen:=r'.length;obtain⟨o,ho,hc,n,hd⟩:=pl;exact call_list_seq p (.inr rfl) ho hc hd (λ h' c' kp e=>fin its r' hz h' c' kp e) (by simp only[bN]<;>lia)
theorem fg:db X (.type "tuple") (λ xs H Q=>∃p ys,xs=[.ref p]/\((SqL X.K H p ys/\∀l,H l=none->Q (.ref l) (upd H l (.tup ys)))\/(SqT X.K H p ys/\Q (.ref p) H))):=by
 intro pins s σ H xs us Q I r h;obtain⟨p,ys,rfl,h⟩:=h;obtain⟨u,rfl,rx⟩:=dY r;cases rx
 rcases h with ⟨hq,q⟩ | ⟨hq,q⟩
 ·obtain⟨its,r',pl,hz⟩:=I.list hq;have hlen:=r'.length;refine call_tuple_list pl.isList (λ h' kp=>?_) (by simp only[bN]<;>lia);have I1:Inv X pins σ H { s with heap:=h' }:=I.kept (t':=s.toks) kp
  have I2:Inv X pins σ (upd H h'.objs.size (.tup ys)) { s with heap:=h'.push { cls:=.type "tuple",data:=.seq its.toArray } } :=
   I1.laid (t':=s.toks) (λ b o e=>bd _ e) (aJ _) (show ObjOk X.prog X.w _ _ _ (.tup ys) from ⟨hz,its,r',lZ _ _⟩)
  exact⟨.ref h'.objs.size,_,I2,rfl,q _ (I1.hok.fresh (aJ _))⟩
 ·obtain⟨its,r',pl,hz⟩:=I.tuple hq;exact call_tuple_same pl ⟨.ref p,H,I,rfl,q⟩
noncomputable def tyV(K:FG)(T:String)(x:V)(H:Hp):Prop:=match x with
 | .str _=>T="str"
 | .int _=>T="int"
 | .ref p=>(T="list" /\ ∃xs,SqL K H p xs)\/(T="tuple" /\ ∃o,K.lookup p=some o/\o.cls=.type "tuple" /\ o.dict=none) \/
   (T="dict" /\ ((∃kvs,H p=some (.dK kvs))\/∃kvs,H p=some (.dT kvs)))\/(T="set" /\ ∃S n,H p=some (.set S n))
 | _=>False
theorem xa(I:Inv X pins σ H s)(r:RelV x v)(ty:tyV X.K T x H) :
  s.TypeIs v T/\∀a,v=.ref a->∃ob,s.heap.get? a=some ob/\ob.dict=none:=by
 cases x with
 | str z =>
  obtain⟨t,rfl⟩:=r;cases (show T="str" from ty);exact⟨typeIs_str s z t,λ _ e=>nomatch e⟩
 | int i =>
  obtain⟨t,rfl⟩:=r;cases (show T="int" from ty);exact⟨typeIs_int s i t,λ _ e=>nomatch e⟩
 | ref p =>
  cases r
  rcases ty with ⟨rfl,xs,hq⟩ | ⟨rfl,o,hk,hc,hd⟩ | ⟨rfl,hk⟩ | ⟨rfl,S,n,hk⟩
  ·obtain⟨its,_,pl,_⟩:=I.list hq;refine⟨pl.isList.typeIs,λ a e=>?_⟩;cases e;obtain⟨o,n,e,c,hd,_⟩:=pl;exact⟨o,e,hd⟩
  ·refine⟨⟨o,I.kIn p o hk,hc⟩,λ a e=>?_⟩;cases e;exact⟨o,I.kIn _ o hk,hd⟩
  ·have z:∃o,s.heap.get? p=some o/\o.ExactDict:=by
    rcases hk with ⟨kvs,hk⟩ | ⟨kvs,hk⟩
    ·obtain⟨_,_,_,_,o,_,_,e,ex,_⟩:=I.hok p _ hk;exact⟨o,e,ex⟩
    ·obtain⟨_,_,_,_,o,_,_,e,ex,_⟩:=I.hok p _ hk;exact⟨o,e,ex⟩
   obtain⟨o,e,ex⟩:=z;refine⟨⟨o,e,ex.1⟩,λ a e2=>?_⟩;cases e2;exact⟨o,e,ex.2.1⟩
  ·obtain⟨o,_,_,_,e,ex,_⟩:=I.hok p _ hk;refine⟨⟨o,e,ex.1⟩,λ a e2=>?_⟩;cases e2;exact⟨o,e,ex.2.1⟩
 | _=>exact False.elim ty
def tBM(K:FG)(T:String)(r:V->List V->Hp->VK->Prop)(to:TE)(t:TA):TE:=λ σ H Q=>to σ H λ x H1=>tyV K T x H1/\t σ H1 λ xs H2=>r x xs H2 Q
variable {o e:Expr}{es:List Expr}{to:TE}{t:TA}{name:Str}{apos cpos:Pos}{T id:String}{r:V->List V->Hp->VK->Prop}
theorem xc(pa:PlainAttrs T)(slot:Slot T name id)(hty:typeOf (.builtin id)=pure (.type "method_descriptor"))(hm:MtR X id r)(ho:PE X o to)(ha:PA X (e::es) t)
  (hbase:attributeBase o name X.env (eval o X.env)=eval o X.env:=by rfl)
  (hfew:((backTo cpos (starEach (e::es) X.env)).all (λ x=>!x.1) && (backToKw cpos (keywordEach [] X.env)).all (λ x=>x.1.isSome)
   && decide ((e::es).length+([]:List Keyword).length+(if ([]:List Keyword).isEmpty then 0 else 1) < 30))=true:=by rfl)
  (hline:(apos.endLine == cpos.line)=true:=by rfl) (hs:starEach (e::es) X.env=(false,eval e X.env)::starEach es X.env:=by rfl) (hplain:(backTo cpos (starEach es X.env)).any (·.1)=false:=by rfl) :
  PE X (.Call (.Attribute o name apos) (e::es) [] cpos) (tBM X.K T r to t):=by
 intro pins s σ H Q I h;refine sM hbase hfew hline rfl (thn (ho pins s σ H _ I h) λ v s1 ⟨x,H1,I1,r1,ty,q1⟩=>?_);obtain⟨h1,h2⟩:=xa I1 r1 ty;refine⟨T,id,pa,slot,hty,h1,h2,?_⟩;have hA:=ha cpos pins s1 σ H1 _ I1 q1;rw[hs] at hA ⊢;refine sN (by show(false || (backTo cpos (starEach es X.env)).any (·.1))=false;rw[hplain]<;>rfl) (sO ?_);exact thn hA λ us s2 ⟨vs,H2,I2,r2,q2⟩=>hm pins s2 σ H2 x vs v us Q I2 r1 r2 q2
end
noncomputable def MtM(X:Cx)(id:String)(r:V->List V->Hp->VK->Prop):Prop :=
 ∀(pins:LO) (s:Shared) (σ:St) (H:Hp) (x:V) (xs:List V) (v:Value) (us:LV) (Q:VK),Inv X pins σ H s->RelV x v->Vals xs us->r x xs H Q ->
  wpAny (model X.prog X.w) X.A (call (.builtin id) (v::us)) (EP X pins σ Q) X.xe s
theorem Vals.one:∀ {x:V}{us:LV},Vals [x] us->∃u,us=[u]/\RelV x u
 | _,_,.cons r .nil=>⟨_,rfl,r⟩
theorem Vals.zero:∀ {us:LV},Vals [] us->us=[]
 | _,.nil=>rfl
theorem Vals.eraseIdx:∀ {xs:List V}{us:LV}(i:Nat),Vals xs us->Vals (xs.eraseIdx i) (us.eraseIdx i)
 | _,_,_,.nil=>.nil
 | _,_,0,.cons _ t=>t
 | _,_,i+1,.cons r t=>.cons r (Vals.eraseIdx i t)
theorem Vals.reverse(h:Vals xs us):Vals xs.reverse us.reverse:=by
 induction h with
 | nil=>exact .nil
 | cons r t ih=>rw[mf,mf];exact Vals.append ih (.cons r .nil)
theorem Vals.rep(h:Vals xs us):∀k:Nat,Vals (List.replicate k xs).flatten (List.replicate k us).flatten
 | 0=>.nil
 | k+1=>by
  rw[xf,xf,List.flatten_cons,List.flatten_cons];exact Vals.append h (Vals.rep h k)
theorem xg{α:Type}:∀(l:List α) (i:Nat),(l.eraseIdx i).length≤l.length
 | [],_=>aJ _
 | _::_,0=>Nat.le_succ _
 | _::r,i+1=>jR (xg r i)
section
variable {X:Cx}{pins:LO}{σ:St}{H:Hp}{s:Shared}{l b:Addr}{xs ys zs:List V}
theorem Inv.lset{its its':LV}{f:Array Value->Array Value}{t':Nat}(I:Inv X pins σ H s)(hH:H l=some (.lst xs))
  (e:s.heap.get? l=some { cls:=.type "list",data:=.seq its.toArray n }) (hf:f its.toArray=its'.toArray) (hv:Vals ys its') (hz:ys.length≤sizeLine) :
  Inv X pins σ (upd H l (.lst ys)) { s with heap:=s.heap.update l (Obj.mapSeq f),toks:=t' }:=by
 have q:=PySem.IsL.update e f;rw[hf] at q;refine I.write (x:=l) (e:=l) (by rw[hH];exact trivial) (.inl rfl) (λ b' u hb hu=>(gH s.heap (Obj.mapSeq f) (cY hb)).trans hu) ⟨_,q⟩ ?_;exact⟨hz,its',_,hv,q⟩
theorem Inv.lstM(I:Inv X pins σ H s)(hH:H l=some (.lst xs)):xs.length≤sizeLine/\∃(its:LV) (n:Nat),Vals xs its/\xs.length=its.length/\s.heap.get? l=some { cls:=.type "list",data:=.seq its.toArray n }:=by
 obtain⟨z,its,n,r,e⟩:=I.hok l _ hH;exact⟨z,its,n,r,r.length,e⟩
end
section
variable {X:Cx}
def Ex:V->List V->Hp->VK->Prop:=λ x vs H Q=>∃l xs y,x=.ref l/\vs=[y]/\H l=some (.lst xs)/\xs.length < sizeLine/\Q .non (upd H l (.lst (xs++[y])))
theorem Ey:MtM X "list.append" Ex:=by
 intro pins s σ H x vs v us Q I rx rv h;obtain⟨l,xs,y,rfl,rfl,hH,hz,q⟩:=h;cases rx;obtain⟨u,rfl,ru⟩:=rv.one;obtain⟨z,its,n,r,hl,e⟩:=I.lstM hH;refine nS s0n ⟨_,e,rfl⟩ xh (xi _ _) (PySem.list_append l its.toArray n u (by rw[bN];lia)) ⟨e,?_⟩;refine⟨.non,_,I.lset (its':=its++[u]) hH e (by simp) (r.append (.cons ru .nil)) ?_,rfl,q⟩;rw[bu,gh];lia
noncomputable def sQ:V->List V->Hp->VK->Prop:=λ x vs H Q=>∃l xs i k y,x=.ref l/\vs=[.int i]/\H l=some (.lst xs)/\-(2 ^ 63)≤i/\i < 2 ^ 63/\seqIndex? i xs.length=some k/\xs[k]?=some y/\Q y (upd H l (.lst (xs.eraseIdx k)))
theorem Ez:MtM X "list.pop" sQ:=by
 intro pins s σ H x vs v us Q I rx rv h;obtain⟨l,xs,i,k,y,rfl,rfl,hH,h1,h2,hk,hy,q⟩:=h;cases rx;obtain⟨u,rfl,ru⟩:=rv.one;obtain⟨t,rfl⟩:=ru;obtain⟨z,its,n,r,hl,e⟩:=I.lstM hH;obtain⟨w,hw,rw'⟩:=r.get hy
 refine nS F.slot_list_pop ⟨_,e,rfl⟩ F.entry_list_pop (F.args_list_pop_2 _ _)
  (MeetsSeq.list_pop_at l its.toArray n i t k w (fitsIndex_both h1 h2) (by rw[bN,← hl];exact hk) (by rw[← xj];exact hw) (by rw[bN];lia)) ⟨e,?_⟩
 refine⟨y,_,I.lset (its':=its.eraseIdx k) hH e ?_ (r.eraseIdx k) ?_,rw',q⟩
 ·show its.toArray.eraseIdxIfInBounds k=(its.eraseIdx k).toArray;rw[List.eraseIdxIfInBounds_toArray]
 ·have:=xg xs k;lia
end
section
variable {prog:Program}{w:World}{A:Around}{E:VS}{s:Shared}
end
section
variable {X:Cx}
end
end L2
namespace Att
open PySem PySem.W PySem.Calls PyProof.Rows
theorem EA:∀(ns:LI) (vs:LV),WellAll P h vs (ns.map WData.int)->IntsAre vs ns:=by
 intro ns
 induction ns with
 | nil =>
  intro vs w;rw[List.map_nil] at w;cases w;exact .nil
 | cons n ns ih =>
  intro vs w;rw[fe] at w
  cases w with
  | cons a b =>
   cases a;exact .cons _ _ (ih _ b)
theorem EB{l:OpenLaw}(hn:l.most=some n)
  (hpre:l.row.toRowW.claim.pre args=true) (hwl:WellAll P h vals args) :
  ∃a vs ns,vals=[Value.ref a]/\args=[WData.list (ns.map WData.int)]/\h.get? a=some { cls:=.type "list",data:=.seq vs.toArray }/\IntsAre vs ns/\ns.length≤n:=by
 have hsh:WShape.hasAll [] args [.list .int]=true:=(pre_splitW hpre).1;have hc:l.pre.holds [] { args:=args }=true:=(pre_splitW hpre).2;obtain⟨d,r,rfl,h1,h2⟩:=hasAllW_cons hsh;obtain rfl:=hasAllW_nil h2;obtain⟨xs,rfl,h3⟩:=hasW_list h1;obtain⟨ns,rfl⟩:=items_int h3
 have hlen:ns.length≤n:=by
  unfold OpenLaw.pre at hc
  have h4:(WTm.not (.lt (.lit (.int (n:Int))) (.len (.arg 0)))).holds [] { args:=[.list (ns.map .int)] }=true:=by
   have h4:=(holds_andW hc).1;rw[hn] at h4;exact h4
  have h5:=condW_of h4 (w_not (w_lt w_lit (w_len_list (w_arg rfl))));rw[aA] at h5;refine Nat.le_of_not_lt λ q=>?_;have q':(n:Int) < ((ns.length:Nat):Int):=by lia
  first
   | (rw[jT q'] at h5;exact absurd h5 (by decide))
   | (simp at h5;lia)
 cases hwl with
 | cons w1 w2 =>
  cases w2
  cases w1 with
  | list ho hall=>exact⟨_,_,ns,rfl,rfl,ho,EA ns _ hall,hlen⟩
theorem EC(l:OpenLaw)(args:List WData):l.row.toRowW.claim.post args (.bool true) args=true :=
 postW_of (r:=l.row.toRowW) (X:=(true == true))
  (show WShape.has [] (.bool true) .bool=true by first | rfl | decide | simp[WShape.has,WShape.arms,WShape.armsAll])
  (show(WTm.eq .res (.lit (.bool true))).value [] { args:=args,res:=some (.bool true),after:=args }=some (.bool (true == true)) from w_eq_bool (w_res rfl) w_lit) rfl
theorem attach_call{l:OpenLaw}{YP:World->Heap->Prop}{d:DefRec}
  (hn:l.most=some n) (hdf:d.params.defaults=[])
  (call:∀(w:World) (s₀ s₁:Shared) (mg mb:SV) (fa:Addr) (o:Obj) (pm cd doc:Value) (a:Addr) (vs:LV) (ns:LI),
   Ground q loose [] XP w s₀ mg mb s₁.heap->YP w s₁.heap ->
   s₁.heap.get? fa=some o->o.data=.func (docDef d.name d.params d.body d.scope pm cd doc)->s₁.heap.CodeRec cd d.name->mg d.name=some (.ref fa) ->
   s₁.heap.get? a=some { cls:=.type "list",data:=.seq vs.toArray }->IntsAre vs ns->ns.length≤n->s₁.gens=#[] ->
   codeAny (model l.prog w) callerA (.call (.ref fa) ⟨[.ref a],[]⟩) (λ r s'=>r=.ok (.ret (.bool true))/\OldK s₁.heap s'.heap/\s'.os=s₁.os/\AllBare s'.gens) s₁) :
  WalkO q loose XP YP l.row.toRowW d [] (λ f vs=>PySem.call f vs):=by
 intro w s₀ s₁ mg mb G Y fa o pm cd doc dV kV ho hd hcd hD hmg hg args vals as hpre hlay hrd hwl hlo;obtain rfl:dV=.none:=Dflts.none hD hdf;obtain rfl:kV=.none:=Dflts.noKw hD;obtain⟨a,vs,ns,rfl,rfl,hobj,hints,hlen⟩:=EB hn hpre hwl;refine enter_call (nO (call w s₀ s₁ mg mb fa o pm cd doc a vs ns G Y ho (fd_plain hd) hcd hmg hobj hints hlen hg) λ r s' hq=>?_);obtain⟨rfl,h2,h3,h4⟩:=hq;exact⟨.inl ⟨.bool true,.bool true,[],rfl,λ _=>rfl,.bool true,EC l _,λ _=>⟨List.Pairwise.nil,λ _ hm=>(nomatch hm)⟩⟩,h2,h3,h4⟩
section
variable {prog:Program}{w:World}{A:Around}{E:VS}{s:Shared}{K:Frag}
end
end Att
namespace L2
open PySem PySem.Spec PyProof.Rows
theorem sR:∀ {vs:LV}{ns:LI},IntsAre vs ns->Vals (ns.map V.int) vs
 | _,_,.nil=>.nil
 | _,_,.cons n t h=>.cons ⟨t,rfl⟩ (sR h)
noncomputable def dJ(s:Stmt):Arguments:=match s with
 | .FunctionDef _ a _ _ _ _ _ _ _ _=>a
 | _=>{ posonlyargs:=[],args:=[],vararg:=none,kwonlyargs:=[],kw_defaults:=[],kwarg:=none,defaults:=[] }
def df(s:Stmt):List Stmt:=match s with
 | .FunctionDef _ _ b _ _ _ _ _ _ _=>b
 | _=>[]
noncomputable def aH(s:Stmt):Scope:=match s with
 | .FunctionDef _ _ _ _ _ _ sc _ _ _=>sc
 | _=>{ kind:=.function,names:=[],isGenerator:=false,isCoroutine:=false }
abbrev CX0:CXT:=λ _ _ _ _ _ _=>False
abbrev E0:XK:=λ _ _ _=>False
theorem au:nN CX0 X E0:=λ _ _ _ _ _ _ _ h=>h.elim
structure Fun (K:FG)(x qual:Str)(st:Stmt)(f:Addr)(fd:FuncData):Prop where
 ex:∃(oc:Value) (od:OA) (kV doc pm:Value) (an:OA) (cdv ct:Value) (osl:AV),
  fd=W.fnOf x qual (dJ st) (df st) (aH st) .none kV doc pm an cdv ct/\K.lookup f=some ⟨oc,od,.func fd,osl⟩/\W.codeIn K cdv qual=true
 kp:W.keepIn K (.ref f)=true
section
variable {P:Program}{w:World}{K:FG}{mg:SV}{base:Heap}
theorem Fun.ok{st:Stmt}{sp:Sp}(F:Fun K x qual st f fd)(S:FnScope N ps (aH st))(len:∀vs H Q E,sp vs H Q E->vs.length=ps.length)
  (hbody:∀(cdv:Value) (A:Around) (outer:List Env) (s:Shared) (H:Hp) (vs:List V) (Q:VK) (E:XK),Room k (A.deeper (envOfC qual (aH st) s.heap.objs.size f cdv))->sp vs H Q E ->
   ∃t,PSs (eO CX0 P w K mg base N qual (aH st) f cdv A outer s H E).nox (df st) t/\t { nx:=λ _ H'=>Q .non H',rt:=Q } (start N vs) H):FnOk P w K mg base CX0 (k+1) f fd ps sp:=by
 obtain⟨oc,od,kV,doc,pm,an,cdv,ct,osl,rfl,lk,hcd⟩:=F.ex;refine wG lk hcd S len λ A outer s H vs Q E hr hsp=>?_;obtain⟨t,h,q⟩:=hbody cdv A outer s H vs Q E hr hsp;exact⟨t,h.nox,q⟩
theorem Fun.binds{st:Stmt}{ps:List Str}(F:Fun K x qual st f fd)
  (h:∀(kV doc pm:Value) (an:OA) (cdv ct:Value) (us:LV),us.length=ps.length->bindArgs (W.fnOf x qual (dJ st) (df st) (aH st) .none kV doc pm an cdv ct) ⟨us,[]⟩=pure (ps.zip us)):Binds K fd ps []:=by
 obtain⟨oc,od,kV,doc,pm,an,cdv,ct,osl,rfl,lk,hcd⟩:=F.ex;exact .all (h kV doc pm an cdv ct)
theorem xk{st:Stmt}{oc:Value}{od an:OA}{osl:AV}{kV doc pm cdv ct:Value}(l:K.lookup f=some ⟨oc,od,.func (W.fnOf x qual (dJ st) (df st) (aH st) .none kV doc pm an cdv ct),osl⟩)
  (c:W.codeIn K cdv qual=true) (k:W.keepIn K (.ref f)=true):Fun K x qual st f (W.fnOf x qual (dJ st) (df st) (aH st) .none kV doc pm an cdv ct):=⟨⟨oc,od,kV,doc,pm,an,cdv,ct,osl,rfl,l,c⟩,k⟩
end
theorem bD{n:Nat}(h:n≤1000):n < sizeLine:=jU h (by decide)
section
variable {X:Cx}
theorem pv(i:Nat)(hN:X.N[i]?=some x:=by rfl)(hv:Vis X.env.scope x:=by first | exact Or.inl rfl | exact Or.inr (Or.inl rfl) | exact Or.inr (Or.inr rfl))(hd:(x == ("__debug__" : Str))=false:=by decide)
  (hcd:(x == ("__classdict__" : Str))=false:=by decide):PE X (.Name x pos) (iU i):=vR hN hv hd hcd
end
def Same(H H':Hp):Prop:=∀b o,H b=some o->H' b=some o
theorem Same.refl(H:Hp):Same H H:=λ _ _ h=>h
theorem Same.trans(a:Same H H1)(b:Same H1 H2):Same H H2:=λ c o h=>b c o (a c o h)
theorem Same.free(e:Same H H')(h:H' l=Option.none):H l=Option.none:=by
 cases q:H l with
 | none=>rfl
 | some o =>
  rw[e l o q] at h;cases h
theorem Same.seq{K:FG}(e:Same H H')(h:SqL K H a xs):SqL K H' a xs:=by
 rcases h with (h | ⟨o,h⟩) | h
 ·exact .inl (.inl (e _ _ h))
 ·exact .inl (.inr ⟨o,e _ _ h⟩)
 ·exact .inr h
end L2
set_option maxHeartbeats 4000000
namespace L2
open PySem PySem.Spec PyProof.Rows
section
variable {prog:Program}{w:World}{A:Around}{R:Result->Shared->Prop}{s:Shared}
theorem ED{elt target iter:Expr}{it acc:Value}(I:Nat->Shared->Prop)
  (turn:∀n s,I n s->wpAny (model prog w) A (pyNext it) (λ r s₁=>match r with
   | none=>R (.ok .next) s₁
   | some v=>wpAny (model prog w) A (letOwnedTupleGo target it v) (λ _ s₀=>wpAny (model prog w) A (assign target env v) (λ _ s₂=>wpAny (model prog w) A (eval elt env) (λ x s₃ =>
     wpAny (model prog w) A (call (.builtin "list.append") [acc,x]) (λ _ s₄=>∃m,m < n/\I m s₄) (λ _ _=>False) s₃)
     (λ _ _=>False) s₂) (λ _ _=>False) s₀) (λ _ _=>False) s₁) (λ _ _=>False) s)
  (n:Nat) (h:I n s) :
  codeAny (model prog w) A (.compLoop (.ListComp elt [⟨target,iter,[],0⟩] scope pos) 0 it acc env) R s:=by
 refine codeAny_loop rfl I (λ n s hI=>?_) n h;show wpAny _ _ ((compTurn (.ListComp elt [⟨target,iter,[],0⟩] scope pos) 0 it acc env).onRaise (λ x=>do noteFrame x env;theTreesLotGoes x)) _ _ s;refine wpAny_noted ?_;rw[compTurn_list1];refine ak (kF (ak (dG (turn n s hI) (λ r s₁ h₁=>?_) λ _ _ h'=>h'.elim)))
 cases r with
 | none=>exact aK h₁
 | some v =>
  refine ak (dG h₁ (λ _ s₀ h₀=>?_) λ _ _ h'=>h'.elim)
  exact ak (dG h₀ (λ _ s₂ h₂=>ak (ak (dG h₂ (λ x s₃ h₃=>ak (dG h₃
   (λ _ s₄ h₄=>aK (aK ⟨rfl,h₄⟩)) λ _ _ h'=>h'.elim)) λ _ _ h'=>h'.elim))) λ _ _ h'=>h'.elim)
end
noncomputable def cF(X:Cx)(N:List Str)(scope:Scope)(cl:LA)(C:Addr)(ex:List Addr)(s:Shared)(H:Hp):Cx where
 prog:=X.prog
 w:=X.w
 K:=X.K
 mg:=X.mg
 base:=X.base
 A:=X.A
 N:=N
 s₀:=s
 H₀:=H
 env:=compEnvC scope cl C X.env
 outer:=X.stack
 stack:=X.stack
 ex:=ex
 fn:=λ _=>false
 calm:=X.calm
 pn:=X.pn
 xe:=λ _ _=>False
def bU(k:Nat)(js:List Nat)(σ:St):St:=List.replicate k none++js.map λ j=>(σ[j]?).join
noncomputable def gi(wi:TI)(k:Nat)(js:List Nat)(g:TG)(te:TE):TE:=λ σ H Q=>wi σ H λ J H1 =>
 ∃W:Nat->Nat->List V->St->Hp->Prop,(∃m,W 0 m [] (bU k js σ) H1)/\∀i m ys σ' H',W i m ys σ' H' ->
  (J.stop i H'/\∀p,H' p=none->Q (.ref p) (upd H' p (.lst ys))) \/
  (J.go i H'/\ys.length < sizeLine/\∃N:List V->St->Hp->Prop,(∀zs σ2 H2,N zs σ2 H2->∃m',m' < m/\W (i+1) m' zs σ2 H2) /\
   ∀x H2,J.yld i H' x H2->g x σ' H2 λ σ3 H3=>te σ3 H3 λ v H4=>N (ys++[v]) σ3 H4)
structure Cap (X:Cx)(scope:Scope)(cl:LA)(x:Str)(j:Nat):Prop where
 at_:X.N[j]?=some x
 out:X.env.scope.names.lookup x=some .cell\/X.env.scope.names.lookup x=some .free
 inn:(relabel scope X.env).names.lookup x=some .cell\/(relabel scope X.env).names.lookup x=some .free
theorem EF{σ:St}{j:Nat}(h:(σ[j]?).join=some v):σ[j]?=some (some v):=by
 cases e:σ[j]? with
 | none=>rw[e] at h;cases h
 | some o =>
  rw[e] at h
  cases o with
  | none=>cases h
  | some u=>cases h;rfl
noncomputable def gk(wi:TI)(k:Nat)(js:List Nat)(g:TG)(tc:TT)(te:TE):TE:=λ σ H Q=>wi σ H λ J H1 =>
 ∃W:Nat->Nat->List V->St->Hp->Prop,(∃m,W 0 m [] (bU k js σ) H1)/\∀i m ys σ' H',W i m ys σ' H' ->
  (J.stop i H'/\∀p,H' p=none->Q (.ref p) (upd H' p (.lst ys))) \/
  (J.go i H'/\ys.length < sizeLine/\∃N:List V->St->Hp->Prop,(∀zs σ2 H2,N zs σ2 H2->∃m',m' < m/\W (i+1) m' zs σ2 H2) /\
   ∀x H2,J.yld i H' x H2->g x σ' H2 λ σ3 H3=>tc σ3 H3 λ b H4=>if b=true then te σ3 H4 λ v H5=>N (ys++[v]) σ3 H5 else N ys σ3 H4)
abbrev pZ:=Program->World->Around->Env->(Bool->Shared->Prop)->Shared->Prop
noncomputable def sS(ifs:List Expr)(T:pZ):Prop:=(∀ {prog:Program}{w:World}{A:Around}{R:Result->Shared->Prop}{s:Shared}{elt target iter:Expr}{scope:Scope}{pos:Pos}{it acc:Value}{env:Env}(I:Nat->Shared->Prop),
  (∀n s,I n s->wpAny (model prog w) A (pyNext it) (λ r s₁=>match r with
   | none=>R (.ok .next) s₁
   | some v=>wpAny (model prog w) A (letOwnedTupleGo target it v) (λ _ s₀=>wpAny (model prog w) A (assign target env v) (λ _ s₂=>T prog w A env (λ b s₃ =>
     if b=true then wpAny (model prog w) A (eval elt env) (λ x s₄ =>
      wpAny (model prog w) A (call (.builtin "list.append") [acc,x]) (λ _ s₅=>∃m,m < n/\I m s₅) (λ _ _=>False) s₄) (λ _ _=>False) s₃
     else ∃m,m < n/\I m s₃) s₂) (λ _ _=>False) s₀) (λ _ _=>False) s₁) (λ _ _=>False) s)->∀n,I n s ->
  codeAny (model prog w) A (.compLoop (.ListComp elt [⟨target,iter,ifs,0⟩] scope pos) 0 it acc env) R s) /\
 ∀ {p w A e k k' s},T p w A e k s->(∀b s,k b s->k' b s)->T p w A e k' s
def xn:pZ:=λ _ _ _ _ k s=>k true s
theorem EG:sS [] xn:=⟨λ I t n h=>ED I t n h,λ h m=>m _ _ h⟩
noncomputable def PM(X:Cx)(T:pZ)(tc:TT):Prop:=∀(pins:LO) (s:Shared) (σ:St) (H:Hp) (K:Bool->Hp->Prop),Inv X pins σ H s->tc σ H K->T X.prog X.w X.A X.env (λ b s'=>∃H',Inv X pins σ H' s'/\K b H') s
theorem xo{X:Cx}{elt tg iter:Expr}{own fv:List Str}{js:List Nat}
    (hc:X.calm=true) (hi:PI X tg iter wi) (hclos:closureFor scope X.env=pure cl) (hcell:∀y∈scope.names,y.2≠.cell) (hkind:scope.kind=.function)
    (hnames:∀y∈scope.names,y.2=.local->scope.names.lookup y.1=some .local)
    (hcl:∀x c,cl.lookup x=some c->X.env.cells.lookup x=some c)
    (hhas:∀x,((relabel scope X.env).names.lookup x=some .cell\/(relabel scope X.env).names.lookup x=some .free)->∃c,cl.lookup x=some c)
    (hlen:js.length=fv.length) (hcap:∀(i:Nat) x j,fv[i]?=some x->js[i]?=some j->Cap X scope cl x j)
    (hg:∀(C:Addr) (ex:List Addr) (s:Shared) (H:Hp),PG (cF X (own++fv) scope cl C ex s H) tg g)
    (he:∀(C:Addr) (ex:List Addr) (s:Shared) (H:Hp),PE (cF X (own++fv) scope cl C ex s H) elt te)
    (ht:∀(C:Addr) (ex:List Addr) (s:Shared) (H:Hp),PM (cF X (own++fv) scope cl C ex s H) T0 tc) (lp:sS ifs T0)
    (hs:∀x,foldedSetIterable iter X.env x=pure x)(I:Inv X pins σ H s) (h:gk wi own.length js g tc te σ H Q)
    (fin:∀(a C:Addr) (s5:Shared) (H5:Hp) (fl:Flow),Inv X pins σ H5 s5->H5 C=none->C≠X.env.locals->X.s₀.heap.objs.size≤C->(∀x c,X.env.cells.lookup x=some c->c≠C)->(∀p∈X.pn++pins,p.1≠C)->(∃m,s5.heap.Ns C m)->Q (.ref a) H5->compPost (model X.prog X.w) X.A X.xe use QQ (.ref a) C (.ok fl) s5) :
    wpAny (model X.prog X.w) X.A (comprehension (.ListComp elt [⟨tg,iter,ifs,0⟩] scope pos) scope X.env fpos (newList []) false (firstIter [⟨tg,iter,ifs,0⟩] X.env) use) QQ X.xe s:=by
  refine wpAny_comprehension_free (use:=use) rfl hs hclos hkind hnames (thn (hi pins s σ H _ I h) λ v s1 h1=>thn h1 λ itv s2 h2=>?_);obtain⟨it,fp,tn,J,H2,e,I2,T,st2,f2,W,⟨m0,w0⟩,turn⟩:=h2;subst e;refine fb (wpAny_newFunctionEnv hcell (by intro y hy;simp at hy) (λ h₁ hns₁ hsb₁=>?_) hkind);dsimp only at hns₁ hsb₁ ⊢;generalize hHp:s2.heap.push { cls:=.type "list",dict:=none,data:=.seq ([]:LV).toArray }=hL at hns₁ hsb₁ ⊢;have hC:hL.objs.size=s2.heap.objs.size+1:=by rw[← hHp,fh]
  have hDC:s2.heap.objs.size≠hL.objs.size:=by rw[hC];exact bM (kN _)
  have ltC:∀b,b < s2.heap.objs.size->b≠hL.objs.size:=λ b hb=>by rw[hC];exact bM (fG hb)
  have old:∀b o,s2.heap.get? b=some o->h₁.get? b=some o:=λ b o e=>hsb₁.extBut b o (ltC b (br e)) (bd _ (hHp ▸ bd _ e));have hacc:h₁.get? s2.heap.objs.size=some { cls:=.type "list",data:=.seq ([]:LV).toArray 0 }:=hsb₁.extBut _ _ hDC (bd _ (hHp ▸ bG _ rfl));have hfresh:∀a,s2.heap.objs.size≤a->H2 a=none:=λ a ha=>I2.hok.fresh ha
  have fpL:∀b∈fp,b < s2.heap.objs.size:=λ b hb=>by
    obtain⟨o,e,_⟩:=T.obj _ _ st2 b hb;exact br e
  have cellL:∀x c,cl.lookup x=some c->c < s2.heap.objs.size:=λ x c e=>by
    obtain⟨v,q⟩:=I2.cell x c (hcl x c e);exact q.lt
  have pinL:∀p∈X.pn++pins,p.1 < s2.heap.objs.size:=λ p hp=>br (I2.pin p hp).1;generalize hX:cF X (own++fv) scope cl hL.objs.size fp s2 H2=Y
  have ok:Y.Ok:=by
    subst hX
    refine⟨I2.ok.mod,hkind,I2.ok.glob,I2.ok.blt,by show s2.heap.objs.size≤hL.objs.size;lia,λ x y c h1 h2=>I2.ok.inj x y c (hcl x c h1) (hcl y c h2),λ x hx=>hhas x hx,
      λ x c hf=>absurd hf (by show ¬(false=true);decide),I2.ok.hd,I2.ok.frames,.inl rfl,λ b hb=>⟨ltC b (fpL b hb),λ x c e=>(f2 b hb).2.2.2.2.1 x c (hcl x c e)⟩,I2.bs,dW I2.ok.bsz I2.sz,λ b o e hb=>?_,λ b hb hz=>?_,I2.stack,I2.stkFree⟩
    · rcases(f2 b hb).2.2.2.1 with z | z
      · exact I2.ok.noex b o e z
      · exact absurd (cD (br e) (dW I2.ok.bsz z)) (eV _)
    · rcases bE.mp (I2.stkSub b hz) with z | z
      · exact(f2 b hb).2.1 z
      · exact(f2 b hb).2.2.1 z
  have hYl:Y.env.locals=hL.objs.size:=by subst hX;rfl
  have hYs:Y.s₀=s2:=by subst hX;rfl
  have hYH:Y.H₀=H2:=by subst hX;rfl
  have hYx:Y.ex=fp:=by subst hX;rfl
  have hYf:Y.fs=frs X.stack:=by subst hX;rfl
  have hYc:Y.env.cells=cl:=by subst hX;rfl
  have hYp:Y.pn=X.pn:=by subst hX;rfl
  have pinOk:∀p∈X.pn++pins,s2.heap.get? p.1=some p.2/\H2 p.1=none/\p.1≠hL.objs.size/\p.1 ∉ frs X.stack/\∀v,p.2.data≠.cell v:=λ p hp=>by
    obtain⟨e,n,ne,nf,d⟩:=I2.pin p hp;refine⟨e,n,ltC _ (br e),λ z=>?_,d⟩
    rcases bE.mp (I2.stkSub _ z) with q | q
    · exact ne q
    · exact nf q
  have stkL:∀b∈frs X.stack,b < s2.heap.objs.size:=λ b hb=>by
    obtain⟨_,o,ho,_⟩:=I2.stack.mem hb;exact br ho
  have I3:Inv Y (pins++[(s2.heap.objs.size,{ cls:=.type "list",data:=.seq ([]:LV).toArray 0 })]) (bU own.length js σ) H2 { s2 with heap:=h₁,toks:=s2.toks+([]:List (Str × Value)).length }:=by
    refine⟨ok,by subst hX;rfl,I2.bare,by rw[hYH,hYs];exact Un.kept old,⟨_,by rw[hYl];exact hns₁,λ i x v e1 e2 e3=>?_⟩,λ x c e=>?_,by rw[hYl];exact hfresh _ (by lia),λ x c e=>?_,λ p hp=>?_,by subst hX;exact I2.hok.kept old,?_⟩
    · subst hX;have e1:(own++fv)[i]?=some x:=e1;unfold bU at e2;by_cases hi:i < own.length
      · rw[dw (by simpa using hi),sE] at e2;split at e2<;>cases e2
      · rw[cS (by simpa using hi),pT,bA] at e2;rw[cS (by lia)] at e1
        cases ej:js[i - own.length]? with
        | none=>rw[ej] at e2;cases e2
        | some j =>
          rw[ej] at e2;have cp:=hcap _ x j e1 ej;have e2':σ[j]?=some (some v):=EF (cz e2);obtain⟨m,hn,hl⟩:=I2.loc;obtain⟨u,r,l⟩:=hl j x v cp.at_ e2' (cp.out.elim (λ z=>.inr (.inl z)) λ z=>.inr (.inr z));refine⟨u,r,.inr ⟨cp.inn,?_⟩⟩;obtain⟨c,ec⟩:=hhas x cp.inn
          rcases l with ⟨k,_⟩ | ⟨_,c',ec',z⟩
          · have k:X.env.scope.names.lookup x=some .local:=k
            rcases cp.out with q | q<;>rw[q] at k<;>cases k
          · rw[hcl x c ec] at ec';cases ec';obtain⟨o,ho,hd⟩:=z;exact⟨c,ec,o,old _ _ ho,hd⟩
    · rw[hYc] at e;obtain⟨v,o,ho,hd⟩:=I2.cell x c (hcl x c e);exact⟨v,o,old _ _ ho,hd⟩
    · rw[hYc] at e;exact I2.freeC x c (hcl x c e)
    · rw[hYp] at hp;rw[hYl,hYf]
      rcases cZ.mp hp with z | z
      · obtain⟨a,b,c,d,f⟩:=pinOk p (lN _ z);exact⟨old _ _ a,b,c,d,f⟩
      · rcases cZ.mp z with z | z
        · obtain⟨a,b,c,d,f⟩:=pinOk p (dz _ z);exact⟨old _ _ a,b,c,d,f⟩
        · have e:p=_:=bL.mp z;subst e;exact⟨hacc,hfresh _ (aJ _),hDC,λ z=>absurd (stkL _ z) (eV _),λ v z=>by cases z⟩
    · subst hX;unfold bU;show _=(own++fv).length;simp[hlen]
  have hYprog:Y.prog=X.prog:=by subst hX;rfl
  have hYw:Y.w=X.w:=by subst hX;rfl
  have hYK:Y.K=X.K:=by subst hX;rfl
  have hYA:Y.A=X.A:=by subst hX;rfl
  have hYcalm:Y.calm=true:=by subst hX;exact hc
  have hYxe:Y.xe=λ _ _=>False:=by subst hX;rfl
  have hYenv:Y.env=compEnvC scope cl hL.objs.size X.env:=by subst hX;rfl
  have hg':=hg hL.objs.size fp s2 H2;have he':=he hL.objs.size fp s2 H2;have ht':=ht hL.objs.size fp s2 H2;rw[hX] at hg' he' ht'
  have fpOk:∀ {H':Hp}{pn:LO},(∀b∈fp,H' b=none)->(∀p∈pn,p.1=s2.heap.objs.size\/p∈pins)->∀b∈fp,jM Y pn H' b:=λ hn hp b hb=>by
    refine⟨hn b hb,by rw[hYl];exact ltC b (fpL b hb),?_,.inl (by rw[hYx];exact hb),λ x c e=>?_,λ p hq=>?_⟩
    · rw[hYf];intro hz
      rcases bE.mp (I2.stkSub b hz) with z | z
      · exact(f2 b hb).2.1 z
      · exact(f2 b hb).2.2.1 z
    · rw[hYc] at e;exact(f2 b hb).2.2.2.2.1 x c (hcl x c e)
    · rw[hYp] at hq
      rcases cZ.mp hq with z | z
      · exact(f2 b hb).2.2.2.2.2 p (lN _ z)
      · rcases hp p z with q | q
        · rw[q];exact cY (bM (fpL b hb))
        · exact(f2 b hb).2.2.2.2.2 p (dz _ q)
  have loop:∀s₃:Shared,s₃={ s2 with heap:=h₁,toks:=s2.toks+([]:List (Str × Value)).length } ->
      codeAny (model X.prog X.w) X.A (.compLoop (.ListComp elt [⟨tg,iter,ifs,0⟩] scope pos) 0 (.ref it) (.ref s2.heap.objs.size) (compEnvC scope cl hL.objs.size X.env))
        (compPost (model X.prog X.w) X.A X.xe use QQ (.ref s2.heap.objs.size) hL.objs.size) s₃:=by
    rintro s₃ rfl
    refine lp.1 (λ n s'=>∃i ys its k σ' H',Inv Y (pins++[(s2.heap.objs.size,{ cls:=.type "list",data:=.seq (its:LV).toArray k })]) σ' H' s'/\tn i s'.heap/\(∀b∈fp,H' b=none)/\Vals ys its/\ys.length≤sizeLine/\W i n ys σ' H') ?_ m0
      ⟨0,[],[],0,_,H2,I3,T.keep _ _ _ st2 λ b _ o e=>old b o e,λ b hb=>(f2 b hb).1,.nil,bc _,w0⟩
    rintro n s4 ⟨i,ys,its,k,σ4,H4,I4,st4,fr4,rv,hz,w4⟩
    have pinD:∀p∈(pins++[(s2.heap.objs.size,({ cls:=.type "list",data:=.seq (its:LV).toArray k }:Obj))]),p.1=s2.heap.objs.size\/p∈pins:=λ p hp=>by
      rcases cZ.mp hp with z | z
      · exact .inr z
      · rw[bL.mp z];exact .inl rfl
    have F4:=fpOk (pn:=pins++[(s2.heap.objs.size,{ cls:=.type "list",data:=.seq (its:LV).toArray k })]) fr4 pinD
    rcases turn i n ys σ4 H4 w4 with ⟨stop,qn⟩ | ⟨go,hlt,N,hN,step⟩
    · have d:=T.done Y hYprog hYw hYK hYcalm i _ s4 σ4 H4 (λ _ _=>False) I4 F4 st4 stop;rw[hYA] at d;refine thn d λ r s5 ⟨hr,I5⟩=>?_;subst hr;obtain⟨m,hn,_⟩:=id I5.loc;rw[hYl] at hn;have hD:=I5.pin (s2.heap.objs.size,{ cls:=.type "list",data:=.seq (its:LV).toArray k }) (dz _ (dz _ (bL.mpr rfl)));have hDn:H4 s2.heap.objs.size=none:=hD.2.1;have kp:∀b o,b≠hL.objs.size->s5.heap.get? b=some o->s5.heap.get? b=some o:=λ b o _ e=>e;have B:=I5.base;rw[hYH,hYs,hYx,hYf] at B;have s2C:∀b o,s2.heap.get? b=some o->b≠hL.objs.size:=λ b o e=>ltC b (br e);have trk:∀b u,H4 b=some u->b≠s2.heap.objs.size:=λ b u e z=>by rw[z,hDn] at e;cases e
      have trC:∀b u,H4 b=some u->b≠hL.objs.size:=λ b u e z=>by
        have:=I5.free;rw[hYl,← z,e] at this;cases this
      have hH2:∀b u,H2 b=some u->b≠s2.heap.objs.size:=λ b u e z=>by rw[z,hfresh _ (aJ _)] at e;cases e
      have IX:Inv X pins σ (upd H4 s2.heap.objs.size (.lst ys)) s5:=by
       refine I2.call' (ch:=fp) (by show s5.os=s2.os;rw[I5.os,hYs]) ⟨λ b o e n hb hx=>kp b o (s2C b o e) (B.keep b o e n hb hx),λ b o e n hb hx=>?_,λ b o e n hx=>?_,λ b o e hx=>?_,λ b xs e=>?_,λ b o u e=>?_,λ b ps e=>?_⟩ ?_ I5.bare (λ b hb=>⟨(f2 b hb).2.2.2.1,(f2 b hb).2.1,(f2 b hb).2.2.2.2.1,(f2 b hb).2.2.2.2.2⟩)
       · obtain⟨sl,q⟩:=B.slot b o e n hb hx;exact⟨sl,kp b _ (s2C b o e) q⟩
       · rw[bo (bM (br e))];exact B.free b o e n hx
       · obtain⟨o',q⟩:=B.there b o e hx;exact⟨o',kp b o' (s2C b o e) q⟩
       · rw[bo (hH2 b _ e)];exact B.tups b xs e
       · rw[bo (hH2 b _ e)];exact B.frzs b o u e
       · obtain⟨more,q⟩:=B.tbls b ps e;exact⟨more,by rw[bo (hH2 b _ e)];exact q⟩
       · intro b u e;by_cases hb:b=s2.heap.objs.size
         · subst hb;rw[ar] at e;cases e;exact⟨hz,its,k,rv,kp _ _ hDC hD.1⟩
         · rw[bo hb] at e;have okb:=I5.hok b u e;rw[hYprog,hYw] at okb;refine okb.stay (λ c v hc q=>kp c v ?_ q) (λ c q=>by rw[bo (trk c _ q)];exact q) λ c xs q=>by rw[bo (trk c _ q)];exact q
           rcases hc with z | z
           · rw[z];exact trC b u e
           · exact trC c _ z
      have zC:upd H4 s2.heap.objs.size (.lst ys) hL.objs.size=none:=by
        rw[bo (cY hDC)];have:=I5.free
        rwa [hYl] at this
      exact fin s2.heap.objs.size hL.objs.size s5 _ _ IX zC (cY (ltC _ I2.lt)) (by have:=I2.sz;lia) (λ x c e=>ltC c (by obtain⟨v,q⟩:=I2.cell x c e;exact q.lt)) (λ p hp=>ltC _ (pinL p hp)) ⟨m,hn⟩ (qn _ hDn)
    · have d:=T.item Y hYprog hYw hYK hYcalm i _ s4 σ4 H4 (λ _ _=>False) I4 F4 st4 go;rw[hYA] at d;refine thn d λ r s5 ⟨u,hr,h5⟩=>?_;subst hr;refine thn h5 λ _ s6 ⟨x,H6,I6,r6,y6,st6,fr6⟩=>?_;have I6':=I6.pinned (fpOk (pn:=pins++[(s2.heap.objs.size,{ cls:=.type "list",data:=.seq (its:LV).toArray k })]) fr6 pinD) (T.obj _ _ st6);have d7:=hg' _ s6 σ4 H6 x u _ I6' r6 (step x H6 y6);rw[hYprog,hYw,hYA,hYxe,hYenv] at d7;refine thn d7 λ _ s7 ⟨σ7,H7,I7,q7⟩=>?_;have dt:=ht' _ s7 σ7 H7 _ I7 q7;rw[hYprog,hYw,hYA,hYenv] at dt;refine lp.2 dt λ bb s7 ⟨H7,I7,q7⟩=>?_
      cases bb with
      | false =>
        obtain⟨m',hm,w8⟩:=hN _ _ _ q7;have tn8:tn (i+1) s7.heap:=T.keep _ _ _ st6 λ b hb o e=>(I7.pin (b,o) (dz _ (dz _ (lU hb e)))).1
        have fr8:∀b∈fp,H7 b=none:=λ b hb=>by
          obtain⟨o,e,d⟩:=T.obj _ _ st6 b hb;exact(I7.pin (b,o) (dz _ (dz _ (lU hb e)))).2.1
        exact⟨m',hm,i+1,ys,its,k,σ7,H7,I7.unpinned,tn8,fr8,rv,hz,w8⟩
      | true =>
        have q7:te σ7 H7 _:=q7;show wpAny _ _ (eval elt _) _ _ s7;have d8:=he' _ s7 σ7 H7 _ I7 q7;rw[hYprog,hYw,hYA,hYxe,hYenv] at d8;refine thn d8 λ u8 s8 ⟨v8,H8,I8,r8,n8⟩=>?_;obtain⟨m',hm,w8⟩:=hN _ _ _ n8;have pD:=I8.pin (s2.heap.objs.size,{ cls:=.type "list",data:=.seq (its:LV).toArray k }) (dz _ (lN _ (dz _ (bL.mpr rfl))));have tn8:tn (i+1) s8.heap:=T.keep _ _ _ st6 λ b hb o e=>(I8.pin (b,o) (dz _ (dz _ (lU hb e)))).1
        have fr8:∀b∈fp,H8 b=none:=λ b hb=>by
          obtain⟨o,e,d⟩:=T.obj _ _ st6 b hb;exact(I8.pin (b,o) (dz _ (dz _ (lU hb e)))).2.1
        have J8:Inv Y pins σ7 H8 s8:=I8.unpinned.unpinned;have eD:s8.heap.get? s2.heap.objs.size=some { cls:=.type "list",data:=.seq its.toArray k }:=pD.1;refine nS s0n ⟨_,eD,rfl⟩ xh (xi _ _) (PySem.list_append _ its.toArray k u8 (by rw[bN,← rv.length];lia)) ⟨eD,?_⟩;have other:∀b o,b≠s2.heap.objs.size->s8.heap.get? b=some o->(s8.heap.update s2.heap.objs.size (Obj.mapSeq λ xs=>xs.push u8)).get? b=some o:=λ b o nb e=>(gH s8.heap _ (cY nb)).trans e
        have J9:=J8.turned (t':=s8.toks) (it:=s2.heap.objs.size) (h':=s8.heap.update s2.heap.objs.size (Obj.mapSeq λ xs=>xs.push u8)) other pD.2.1 (by rw[hYl];exact hDC) (.inr (by rw[hYs];exact aJ _))
          (λ x c e=>by rw[hYc] at e;exact bM (cellL x c e)) (λ p hp=>by rw[hYp] at hp;exact bM (pinL p hp))
        have ep:(its.toArray.push u8)=(its++[u8]).toArray:=by simp
        obtain⟨kk,upD⟩:∃kk,(s8.heap.update s2.heap.objs.size (Obj.mapSeq λ xs=>xs.push u8)).get? s2.heap.objs.size=some { cls:=.type "list",data:=.seq (its++[u8]).toArray kk }:=by
          have z:=PySem.IsL.update eD (λ xs=>xs.push u8);rw[ep] at z;exact⟨_,z⟩
        refine⟨m',hm,i+1,ys++[v8],its++[u8],kk,σ7,H8,J9.pins_of λ p hp=>?_,T.keep _ _ _ tn8 λ b hb o e=>other b o (bM (fpL b hb)) e,fr8,rv.append (.cons r8 .nil),?_,w8⟩
        · rcases cZ.mp hp with z | z
          · exact J9.pin p (dz _ z)
          · rw[bL.mp z];exact⟨upD,pD.2.1,by rw[hYl];exact hDC,by rw[hYf];exact λ z=>absurd (stkL _ z) (eV _),λ v z=>by cases z⟩
        · rw[bu,gh];lia
  exact codeAny_compStart_list (loop _ rfl) (T.self _ 0 _ _ _ (T.keep _ _ _ st2 λ b _ o e=>old b o e) (loop _ rfl))
theorem EH:gk wi k js g (λ σ H K=>K true H) te=gi wi k js g te:=by
 unfold gk gi;simp only[gG]
theorem pm0:PM X xn (λ σ H K=>K true H):=λ _ _ _ H _ I k=>⟨H,I,k⟩
theorem xp{X:Cx}{elt tg iter:Expr}{own fv:List Str}{js:List Nat}
  (hc:X.calm=true) (hi:PI X tg iter wi) (hclos:closureFor scope X.env=pure cl) (hcell:∀y∈scope.names,y.2≠.cell) (hkind:scope.kind=.function)
  (hnames:∀y∈scope.names,y.2=.local->scope.names.lookup y.1=some .local)
  (hcl:∀x c,cl.lookup x=some c->X.env.cells.lookup x=some c)
  (hhas:∀x,((relabel scope X.env).names.lookup x=some .cell\/(relabel scope X.env).names.lookup x=some .free)->∃c,cl.lookup x=some c)
  (hlen:js.length=fv.length) (hcap:∀(i:Nat) x j,fv[i]?=some x->js[i]?=some j->Cap X scope cl x j)
  (hg:∀(C:Addr) (ex:List Addr) (s:Shared) (H:Hp),PG (cF X (own++fv) scope cl C ex s H) tg g)
  (he:∀(C:Addr) (ex:List Addr) (s:Shared) (H:Hp),PE (cF X (own++fv) scope cl C ex s H) elt te)
  (hs:∀x,foldedSetIterable iter X.env x=pure x)(I:Inv X pins σ H s) (h:gi wi own.length js g te σ H Q)
  (fin:∀(a C:Addr) (s5:Shared) (H5:Hp) (fl:Flow),Inv X pins σ H5 s5->H5 C=none->C≠X.env.locals->X.s₀.heap.objs.size≤C->(∀x c,X.env.cells.lookup x=some c->c≠C)->(∀p∈X.pn++pins,p.1≠C)->(∃m,s5.heap.Ns C m)->Q (.ref a) H5->compPost (model X.prog X.w) X.A X.xe use QQ (.ref a) C (.ok fl) s5) :
  wpAny (model X.prog X.w) X.A (comprehension (.ListComp elt [⟨tg,iter,[],0⟩] scope pos) scope X.env fpos (newList []) false (firstIter [⟨tg,iter,[],0⟩] X.env) use) QQ X.xe s :=
 xo hc hi hclos hcell hkind hnames hcl hhas hlen hcap hg he (λ _ _ _ _=>pm0) EG hs I (by rw[EH];exact h) fin
theorem dZ{X:Cx}{elt tg iter:Expr}{own fv:List Str}{js:List Nat}
  (hc:X.calm=true) (hi:PI X tg iter wi) (hclos:closureFor scope X.env=pure cl) (hcell:∀y∈scope.names,y.2≠.cell) (hkind:scope.kind=.function)
  (hnames:∀y∈scope.names,y.2=.local->scope.names.lookup y.1=some .local)
  (hcl:∀x c,cl.lookup x=some c->X.env.cells.lookup x=some c)
  (hhas:∀x,((relabel scope X.env).names.lookup x=some .cell\/(relabel scope X.env).names.lookup x=some .free)->∃c,cl.lookup x=some c)
  (hlen:js.length=fv.length) (hcap:∀(i:Nat) x j,fv[i]?=some x->js[i]?=some j->Cap X scope cl x j)
  (hg:∀(C:Addr) (ex:List Addr) (s:Shared) (H:Hp),PG (cF X (own++fv) scope cl C ex s H) tg g)
  (he:∀(C:Addr) (ex:List Addr) (s:Shared) (H:Hp),PE (cF X (own++fv) scope cl C ex s H) elt te)
  (hs:∀x,foldedSetIterable iter X.env x=pure x:=by intro _;rfl) :
  PE X (.ListComp elt [⟨tg,iter,[],0⟩] scope pos) (gi wi own.length js g te):=by
 intro pins s σ H Q I h;rw[eval_ListComp];refine xp (use:=none) (QQ:=EP X pins σ Q) hc hi hclos hcell hkind hnames hcl hhas hlen hcap hg he hs I h λ a C s5 H5 fl I5 zC zL zS zc zp ⟨m,hn⟩ q=>⟨m,hn,λ h' sc=>?_⟩;exact⟨.ref a,H5,I5.turned (t':=s5.toks) (it:=C) (λ d o nd e=>sc.extBut d o nd e) zC zL (.inr zS) zc zp,rfl,q⟩
theorem EI{K:PySem.W.Frag}{xs:List V}{g:TG}{te:TE}{Q:VK}(Pv:Nat->List V->St->Hp->Prop)(h0:Pv 0 [] σ H)(hl:∀i ys σ H,i≤xs.length->Pv i ys σ H->SqL K H a xs)
  (hs:∀i x ys σ H,xs[i]?=some x->Pv i ys σ H->ys.length < sizeLine/\g x σ H λ σ3 H3=>te σ3 H3 λ v H4=>Pv (i+1) (ys++[v]) σ3 H4) (hd:∀ys σ H,Pv xs.length ys σ H->∀p,H p=none->Q (.ref p) (upd H p (.lst ys))) :
  ∃W:Nat->Nat->List V->St->Hp->Prop,(∃m,W 0 m [] σ H)/\∀i m ys σ' H',W i m ys σ' H' ->
   ((Itl K a).stop i H'/\∀p,H' p=none->Q (.ref p) (upd H' p (.lst ys))) \/
   ((Itl K a).go i H'/\ys.length < sizeLine/\∃N:List V->St->Hp->Prop,(∀zs σ2 H2,N zs σ2 H2->∃m',m' < m/\W (i+1) m' zs σ2 H2) /\
    ∀x H2,(Itl K a).yld i H' x H2->g x σ' H2 λ σ3 H3=>te σ3 H3 λ v H4=>N (ys++[v]) σ3 H4):=by
 refine⟨λ i m ys σ H=>m=xs.length - i/\i≤xs.length/\Pv i ys σ H,⟨xs.length,by simp,bc _,h0⟩,?_⟩;rintro i m ys σ H ⟨rfl,hi,p⟩;have q:=hl i ys σ H hi p;by_cases hlt:i < xs.length
 ·have e:xs[i]?=some xs[i]:=by simp[hlt]
  refine .inr ⟨⟨xs,xs[i],q,e⟩,(hs i _ ys σ H e p).1,Pv (i+1),λ zs σ' H' p'=>⟨xs.length - (i+1),by lia,rfl,hlt,p'⟩,λ x H' y=>?_⟩;obtain⟨e,y⟩:=y;subst e;exact(hs i x ys σ _ (y xs q) p).2
 ·have e:i=xs.length:=by lia
  subst e;exact .inl ⟨⟨xs,q,aJ _⟩,hd ys σ H p⟩
theorem EJ{K:PySem.W.Frag}{xs:List V}{g:TG}{te:TE}{Q:VK}(Pv:Nat->List V->St->Hp->Prop)(h0:Pv 0 [] σ H)(hl:∀i ys σ H,i≤xs.length->Pv i ys σ H->SqT K H a xs)
  (hs:∀i x ys σ H,xs[i]?=some x->Pv i ys σ H->ys.length < sizeLine/\g x σ H λ σ3 H3=>te σ3 H3 λ v H4=>Pv (i+1) (ys++[v]) σ3 H4) (hd:∀ys σ H,Pv xs.length ys σ H->∀p,H p=none->Q (.ref p) (upd H p (.lst ys))) :
  ∃W:Nat->Nat->List V->St->Hp->Prop,(∃m,W 0 m [] σ H)/\∀i m ys σ' H',W i m ys σ' H' ->
   ((Itt K a).stop i H'/\∀p,H' p=none->Q (.ref p) (upd H' p (.lst ys))) \/
   ((Itt K a).go i H'/\ys.length < sizeLine/\∃N:List V->St->Hp->Prop,(∀zs σ2 H2,N zs σ2 H2->∃m',m' < m/\W (i+1) m' zs σ2 H2) /\
    ∀x H2,(Itt K a).yld i H' x H2->g x σ' H2 λ σ3 H3=>te σ3 H3 λ v H4=>N (ys++[v]) σ3 H4):=by
 refine⟨λ i m ys σ H=>m=xs.length - i/\i≤xs.length/\Pv i ys σ H,⟨xs.length,by simp,bc _,h0⟩,?_⟩;rintro i m ys σ H ⟨rfl,hi,p⟩;have q:=hl i ys σ H hi p;by_cases hlt:i < xs.length
 ·have e:xs[i]?=some xs[i]:=by simp[hlt]
  refine .inr ⟨⟨xs,xs[i],q,e⟩,(hs i _ ys σ H e p).1,Pv (i+1),λ zs σ' H' p'=>⟨xs.length - (i+1),by lia,rfl,hlt,p'⟩,λ x H' y=>?_⟩;obtain⟨e,y⟩:=y;subst e;exact(hs i x ys σ _ (y xs q) p).2
 ·have e:i=xs.length:=by lia
  subst e;exact .inl ⟨⟨xs,q,aJ _⟩,hd ys σ H p⟩
theorem EK{lo:Int}{n:Nat}{g:TG}{te:TE}{Q:VK}(Pv:Nat->List V->St->Hp->Prop)(h0:Pv 0 [] σ H)
  (hs:∀i ys σ H,i < n->Pv i ys σ H->ys.length < sizeLine/\g (.int (lo+i)) σ H λ σ3 H3=>te σ3 H3 λ v H4=>Pv (i+1) (ys++[v]) σ3 H4) (hd:∀ys σ H,Pv n ys σ H->∀p,H p=none->Q (.ref p) (upd H p (.lst ys))) :
  ∃W:Nat->Nat->List V->St->Hp->Prop,(∃m,W 0 m [] σ H)/\∀i m ys σ' H',W i m ys σ' H' ->
   ((Itr lo n).stop i H'/\∀p,H' p=none->Q (.ref p) (upd H' p (.lst ys))) \/
   ((Itr lo n).go i H'/\ys.length < sizeLine/\∃N:List V->St->Hp->Prop,(∀zs σ2 H2,N zs σ2 H2->∃m',m' < m/\W (i+1) m' zs σ2 H2) /\
    ∀x H2,(Itr lo n).yld i H' x H2->g x σ' H2 λ σ3 H3=>te σ3 H3 λ v H4=>N (ys++[v]) σ3 H4):=by
 refine⟨λ i m ys σ H=>m=n - i/\i≤n/\Pv i ys σ H,⟨n,by simp,bc _,h0⟩,?_⟩;rintro i m ys σ H ⟨rfl,hi,p⟩;by_cases hlt:i < n
 ·refine .inr ⟨hlt,(hs i ys σ H hlt p).1,Pv (i+1),λ zs σ' H' p'=>⟨n - (i+1),by lia,rfl,hlt,p'⟩,λ x H' y=>?_⟩;obtain⟨e,y⟩:=y;subst e y;exact(hs i ys σ _ hlt p).2
 ·have e:i=n:=by lia
  subst e;exact .inl ⟨aJ _,hd ys σ H p⟩
noncomputable def CX1(P:Program)(w:World):CXT:=λ outer H s E e s' =>
 ∃(a C:Addr) (a0:Value) (H':Hp) (B:Heap),e=.ref a/\s'.os=s.os/\AllBare s'.gens/\Heap.FlyingW B outer a (.ref C) a0 s'.heap /\
  (∀b o,s.heap.get? b=some o->H b=none->b ∉ frs outer->B.get? b=some o)/\(∀b o,s.heap.get? b=some o->b ∉ frs outer->∃o',B.get? b=some o') /\
  Un (frs outer) [] H H' s.heap s'.heap/\HOk P w H' B/\E (.ref C) none H'
section
variable {P:Program}{w:World}{K:FG}{mg:SV}{base:Heap}{N:List Str}{qual:Str}{scope:Scope}{f:Addr}{cd:Value}{A:Around}{outer:List Env}{s:Shared}{H:Hp}{E:XK}
end
section
variable {P:Program}{w:World}{K:FG}{mg:SV}{base:Heap}
end
def EL(a C:Addr):HO:=.ext λ h=>∃o vs,h.get? a=some o/\o.cls=.ref C/\o.data=.fields vs
section
variable {X:Cx}{pins:LO}{σ:St}{H:Hp}{s:Shared}
theorem Inv.track(I:Inv X pins σ H s)(hn:H a=none)(new:ObjOk X.prog X.w (upd H a o) s.heap a o)(h1:a≠X.env.locals)(h2:∀x c,X.env.cells.lookup x=some c->c≠a)(h3:∀p∈X.pn++pins,p.1≠a)
  (h4:X.s₀.heap.get? a=none):Inv X pins σ (upd H a o) s:=by
 have ne:∀b u,H b=some u->b≠a:=λ b u e z=>by rw[z,hn] at e;cases e
 have n0:∀b u,X.s₀.heap.get? b=some u->b≠a:=λ b u e z=>by rw[z,h4] at e;cases e
 refine⟨I.ok,I.os,I.bare,⟨I.base.keep,I.base.slot,λ b u e n hx=>?_,I.base.there,λ b xs e=>?_,λ b u v e=>?_,λ b ps e=>?_⟩,I.loc,I.cell,?_,λ x c e=>?_,λ p hp=>?_,λ b u e=>?_,I.len⟩
 ·rw[bo (n0 b u e)];exact I.base.free b u e n hx
 ·have q:=I.base.tups b xs e;rw[bo (ne b _ q)];exact q
 ·have q:=I.base.frzs b u v e;rw[bo (ne b _ q)];exact q
 ·obtain⟨more,q⟩:=I.base.tbls b ps e;exact⟨more,by rw[bo (ne b _ q)];exact q⟩
 ·rw[bo (cY h1)];exact I.free
 ·rw[bo (h2 x c e)];exact I.freeC x c e
 ·obtain⟨e,n,ne,nf,d⟩:=I.pin p hp;exact⟨e,by rw[bo (h3 p hp)];exact n,ne,nf,d⟩
 ·by_cases hb:b=a
  ·subst hb;rw[ar] at e;cases e;exact new
  ·rw[bo hb] at e;exact(I.hok b u e).stay (λ c v _ q=>q) (λ c q=>by rw[bo (ne c _ q)];exact q) λ c xs q=>by rw[bo (ne c _ q)];exact q
end
abbrev Cx.more(X:Cx)(xe:VS)(pn:LO):Cx:={ X with xe:=xe,pn:=pn }
abbrev Cx.suite(X:Cx)(a:Addr)(pn:LO):Cx:={ X with A:=X.A.mark (some (.ref a)),calm:=false,xe:=λ _ _=>False,pn:=pn }
theorem Cx.Ok.more{X:Cx}(ok:X.Ok)(xe:VS)(pn:LO):(X.more xe pn).Ok :=
 ⟨ok.mod,ok.kind,ok.glob,ok.blt,ok.above,ok.inj,ok.has,ok.cab,ok.hd,ok.frames,ok.stk,ok.exf,ok.bs,ok.bsz,ok.noex,ok.exfs,ok.funs,ok.frf⟩
section
variable {X:Cx}{CX:CXT}{k:Nat}{f:Addr}{fd:FuncData}{ps:List Str}{sp:Sp}{dvs:List V}{ds:LV}{EE:St->XK}{x:Str}{p pos:Pos}{e:Expr}{es:List Expr}{t:TA}
def xq(sp:Sp)(dvs:List V)(EE:St->XK)(t:TA):TE:=λ σ H Q=>t σ H λ vs H1=>sp (vs++dvs) H1 Q (EE σ)
end
def EM(D:Ends)(i:Nat):Ends:={ nx:=λ σ H=>D.nx (σ.set i none) H,rt:=D.rt,bk:=λ σ H=>D.bk (σ.set i none) H,ct:=λ σ H=>D.ct (σ.set i none) H }
structure Callee (P:Program)(w:World)(K:FG)(mg:SV)(base:Heap)(CX:CXT)(k:Nat)(x:Str)(ps:List Str)(sp:Sp):Prop where
 has:∃(f:Addr) (fd:FuncData),FnOk P w K mg base CX k f fd ps sp/\mg x=some (.ref f)/\W.keepIn K (.ref f)=true/\Binds K fd ps []
theorem Callee.mk'{K:FG}{mg:SV}{st:Stmt}(F:Fun K x qual st f fd)(m:mg x=some (.ref f))(b:Binds K fd ps [])
  (ok:FnOk P w K mg base CX k f fd ps sp):Callee P w K mg base CX k x ps sp:=⟨⟨f,fd,ok,m,F.kp,b⟩⟩
theorem Callee.mono{K:FG}{j k:Nat}(c:Callee P w K mg base CX j x ps sp)(h:j≤k):Callee P w K mg base CX k x ps sp :=
 let ⟨f,fd,ok,m,kp,b⟩:=c.has;⟨⟨f,fd,ok.mono h,m,kp,b⟩⟩
section
variable {X:Cx}{CX:CXT}{k:Nat}{ps:List Str}{sp:Sp}{E:XK}{x:Str}{p pos:Pos}{e:Expr}{es:List Expr}{t:TA}
theorem jc(c:Callee X.prog X.w X.K X.mg X.base CX k x ps sp)(hr:Room k X.A)(hg:Gl X x)(hx:nN CX X E)(ha:PA X (e::es) t)(hdb:(x == ("__debug__" : Str))=false:=by decide)
  (he:starEach (e::es) X.env=(false,eval e X.env)::starEach es X.env:=by rfl) (hpl:(backTo pos (starEach es X.env)).any (·.1)=false:=by rfl):PE X (.Call (.Name x p) (e::es) [] pos) (nM sp [] E t):=by
 obtain⟨f,fd,ok,m,kp,b⟩:=c.has;exact Ed ok hr hg m kp b .nil hx ha hdb he hpl
theorem xr:db X (.builtin "isinstance") (λ xs H Q=>∃x n t b,xs=[x,.ty n]/\TyOf X.K H x t/\W.kitOne X.K t (.type n)=some b/\Q (.bl b) H):=by
 intro pins s σ H xs us Q I r h;obtain⟨x,n,t,b,rfl,ty,e,q⟩:=h;obtain⟨u,w',rfl,rx,ry⟩:=lX r;cases (show w'=Value.type n from ry);exact Eb I rx ty e λ tk=>⟨.bl b,H,I.tok tk,rfl,q⟩
end
theorem sU{scope:Scope}(hfree:∀y∈scope.names,y.2≠.free):(relabel scope env).names=scope.names:=by
 show scope.names.map _=scope.names
 have all:∀l:List (Str × NameKind),(∀y∈l,y.2≠.free)->(l.map λ(x:Str × NameKind)=>match x with | (n,k)=>if (k == .free && env.scope.kind == .function && env.kindOf n == some .cell) then (n,.cell) else (n,k))=l:=by
  intro l
  induction l with
  | nil=>intro _;rfl
  | cons y r ih =>
   intro hy;obtain⟨n,k⟩:=y;have hk:(k == NameKind.free)=false:=by simpa using hy (n,k) (bF ..)
   rw[fe,ih λ z hz=>hy z (aM _ hz)];simp[hk]
 exact all _ hfree
theorem kO{X:Cx}{elt tg iter:Expr}{scope:Scope}
  (hc:X.calm=true) (hi:PI X tg iter wi) (hcell:∀y∈scope.names,y.2≠.cell) (hfree:∀y∈scope.names,y.2≠.free) (hkind:scope.kind=.function)
  (hnames:∀y∈scope.names,y.2=.local->scope.names.lookup y.1=some .local)
  (hg:∀(C:Addr) (ex:List Addr) (s:Shared) (H:Hp),PG (cF X own scope [] C ex s H) tg g)
  (he:∀(C:Addr) (ex:List Addr) (s:Shared) (H:Hp),PE (cF X own scope [] C ex s H) elt te)
  (hs:∀x,foldedSetIterable iter X.env x=pure x:=by intro _;rfl) :
  PE X (.ListComp elt [⟨tg,iter,[],0⟩] scope pos) (gi wi own.length [] g te):=by
 refine dZ (own:=own) (fv:=[]) (js:=[]) (cl:=[]) hc hi (sV hfree) hcell hkind hnames (λ x c h=>by cases h) (λ x h=>?_) rfl (λ i x j h=>by simp at h) (by simpa using hg) (by simpa using he) hs;rw[sU hfree] at h
 rcases h with h | h
 ·exact absurd rfl (hcell _ (cR h))
 ·exact absurd rfl (hfree _ (cR h))
def xt(i j:Int):Prop:=j≠0/\-18446744073709551616 < j/\j < 18446744073709551616
theorem EN{y:Int}(h0:-18446744073709551616 < y)(h1:y < 18446744073709551616):y.natAbs.log2 < 9000:=by
 by_cases z:y.natAbs=0
 ·rw[z];decide
 ·exact cD ((Nat.log2_lt z).mpr (show y.natAbs < 2 ^ 64 by lia)) (by decide)
theorem kP:OpR X (binaryOp .FloorDiv) (rI xt λ i j=>.int (i.fdiv j)):=opI λ _ _ _ _ _ _ _ hc q=>floordiv_int hc.1 q (.inl (PyProof.noPylong_of_log2 (EN hc.2.1 hc.2.2)))
section
variable {K:FG}
noncomputable def LoopL(K:PySem.W.Frag)(g:TG)(tb:TS)(D:Ends)(σ:St)(x:V)(H1:Hp):Prop:=∃a,x=.ref a/\(∃xs,SqL K H1 a xs)/\∃W:Nat->Nat->St->Hp->Prop,(∃m,W 0 m σ H1)/\∀i m σ H,W i m σ H ->
 ((Itl K a).stop i H/\D.nx σ H)\/((Itl K a).go i H/\∃N:St->Hp->Prop,(∀σ' H',N σ' H'->∃m',m' < m/\W (i+1) m' σ' H')/\∀x H',(Itl K a).yld i H x H'->g x σ H' λ σ2 H2=>tb { D with nx:=N,ct:=N,bk:=D.nx } σ2 H2)
noncomputable def LoopT(K:PySem.W.Frag)(g:TG)(tb:TS)(D:Ends)(σ:St)(x:V)(H1:Hp):Prop:=∃a,x=.ref a/\(∃xs,SqT K H1 a xs)/\∃W:Nat->Nat->St->Hp->Prop,(∃m,W 0 m σ H1)/\∀i m σ H,W i m σ H ->
 ((Itt K a).stop i H/\D.nx σ H)\/((Itt K a).go i H/\∃N:St->Hp->Prop,(∀σ' H',N σ' H'->∃m',m' < m/\W (i+1) m' σ' H')/\∀x H',(Itt K a).yld i H x H'->g x σ H' λ σ2 H2=>tb { D with nx:=N,ct:=N,bk:=D.nx } σ2 H2)
noncomputable def LoopR(lo:Int)(n:Nat)(g:TG)(tb:TS)(D:Ends)(σ:St)(H1:Hp):Prop:=∃W:Nat->Nat->St->Hp->Prop,(∃m,W 0 m σ H1)/\∀i m σ H,W i m σ H ->
 ((Itr lo n).stop i H/\D.nx σ H)\/((Itr lo n).go i H/\∃N:St->Hp->Prop,(∀σ' H',N σ' H'->∃m',m' < m/\W (i+1) m' σ' H')/\∀x H',(Itr lo n).yld i H x H'->g x σ H' λ σ2 H2=>tb { D with nx:=N,ct:=N,bk:=D.nx } σ2 H2)
theorem EO:jN (nG K te) g tb D σ H=te σ H λ x H1=>LoopL K g tb D σ x H1:=rfl
theorem EQ:jN (pF K te) g tb D σ H=te σ H λ x H1=>LoopT K g tb D σ x H1:=rfl
theorem ER:jN (pG ta) g tb D σ H=ta σ H λ vs H1=>∃j:Int,vs=[.int j]/\-(2 ^ 62)≤j/\j < 2 ^ 62/\LoopR 0 j.toNat g tb D σ H1:=rfl
theorem LoopL.mk{g:TG}{tb:TS}{D:Ends}(hS:SqL K H a xs)(Pv:Nat->St->Hp->Prop)(h0:Pv 0 σ H)(hl:∀i σ H,i≤xs.length->Pv i σ H->SqL K H a xs)
  (hs:∀i x σ H,xs[i]?=some x->Pv i σ H->g x σ H λ σ2 H2=>tb { D with nx:=Pv (i+1),ct:=Pv (i+1),bk:=D.nx } σ2 H2) (hd:∀σ H,Pv xs.length σ H->D.nx σ H):LoopL K g tb D σ (.ref a) H:=⟨a,rfl,⟨xs,hS⟩,DP Pv h0 hl hs hd⟩
theorem LoopT.mk{g:TG}{tb:TS}{D:Ends}(hS:SqT K H a xs)(Pv:Nat->St->Hp->Prop)(h0:Pv 0 σ H)(hl:∀i σ H,i≤xs.length->Pv i σ H->SqT K H a xs)
  (hs:∀i x σ H,xs[i]?=some x->Pv i σ H->g x σ H λ σ2 H2=>tb { D with nx:=Pv (i+1),ct:=Pv (i+1),bk:=D.nx } σ2 H2) (hd:∀σ H,Pv xs.length σ H->D.nx σ H):LoopT K g tb D σ (.ref a) H:=⟨a,rfl,⟨xs,hS⟩,DQ Pv h0 hl hs hd⟩
theorem LoopR.mk{lo:Int}{n:Nat}{g:TG}{tb:TS}{D:Ends}(Pv:Nat->St->Hp->Prop)(h0:Pv 0 σ H)
  (hs:∀i σ H,i < n->Pv i σ H->g (.int (lo+i)) σ H λ σ2 H2=>tb { D with nx:=Pv (i+1),ct:=Pv (i+1),bk:=D.nx } σ2 H2) (hd:∀σ H,Pv n σ H->D.nx σ H):LoopR lo n g tb D σ H:=DR Pv h0 hs hd
noncomputable def CompL(K:PySem.W.Frag)(k:Nat)(js:List Nat)(g:TG)(te:TE)(σ:St)(x:V)(H1:Hp)(Q:VK):Prop:=∃a,x=.ref a/\(∃xs,SqL K H1 a xs)/\∃W:Nat->Nat->List V->St->Hp->Prop,(∃m,W 0 m [] (bU k js σ) H1)/\∀i m ys σ' H',W i m ys σ' H' ->
  ((Itl K a).stop i H'/\∀p,H' p=none->Q (.ref p) (upd H' p (.lst ys))) \/
  ((Itl K a).go i H'/\ys.length < sizeLine/\∃N:List V->St->Hp->Prop,(∀zs σ2 H2,N zs σ2 H2->∃m',m' < m/\W (i+1) m' zs σ2 H2)/\∀x H2,(Itl K a).yld i H' x H2->g x σ' H2 λ σ3 H3=>te σ3 H3 λ v H4=>N (ys++[v]) σ3 H4)
noncomputable def CompT(K:PySem.W.Frag)(k:Nat)(js:List Nat)(g:TG)(te:TE)(σ:St)(x:V)(H1:Hp)(Q:VK):Prop:=∃a,x=.ref a/\(∃xs,SqT K H1 a xs)/\∃W:Nat->Nat->List V->St->Hp->Prop,(∃m,W 0 m [] (bU k js σ) H1)/\∀i m ys σ' H',W i m ys σ' H' ->
  ((Itt K a).stop i H'/\∀p,H' p=none->Q (.ref p) (upd H' p (.lst ys))) \/
  ((Itt K a).go i H'/\ys.length < sizeLine/\∃N:List V->St->Hp->Prop,(∀zs σ2 H2,N zs σ2 H2->∃m',m' < m/\W (i+1) m' zs σ2 H2)/\∀x H2,(Itt K a).yld i H' x H2->g x σ' H2 λ σ3 H3=>te σ3 H3 λ v H4=>N (ys++[v]) σ3 H4)
noncomputable def CompR(lo:Int)(n k:Nat)(js:List Nat)(g:TG)(te:TE)(σ:St)(H1:Hp)(Q:VK):Prop:=∃W:Nat->Nat->List V->St->Hp->Prop,(∃m,W 0 m [] (bU k js σ) H1)/\∀i m ys σ' H',W i m ys σ' H' ->
  ((Itr lo n).stop i H'/\∀p,H' p=none->Q (.ref p) (upd H' p (.lst ys))) \/
  ((Itr lo n).go i H'/\ys.length < sizeLine/\∃N:List V->St->Hp->Prop,(∀zs σ2 H2,N zs σ2 H2->∃m',m' < m/\W (i+1) m' zs σ2 H2)/\∀x H2,(Itr lo n).yld i H' x H2->g x σ' H2 λ σ3 H3=>te σ3 H3 λ v H4=>N (ys++[v]) σ3 H4)
theorem ES:gi (nG K ti) k js g te σ H Q=ti σ H λ x H1=>CompL K k js g te σ x H1 Q:=rfl
theorem ET:gi (pF K ti) k js g te σ H Q=ti σ H λ x H1=>CompT K k js g te σ x H1 Q:=rfl
theorem EU:gi (pG ta) k js g te σ H Q=ta σ H λ vs H1=>∃j:Int,vs=[.int j]/\-(2 ^ 62)≤j/\j < 2 ^ 62/\CompR 0 j.toNat k js g te σ H1 Q:=rfl
theorem CompL.mk{g:TG}{te:TE}{Q:VK}(hS:SqL K H a xs)(Pv:Nat->List V->St->Hp->Prop)(h0:Pv 0 [] (bU k js σ) H)(hl:∀i ys σ H,i≤xs.length->Pv i ys σ H->SqL K H a xs)
  (hs:∀i x ys σ H,xs[i]?=some x->Pv i ys σ H->ys.length < sizeLine/\g x σ H λ σ3 H3=>te σ3 H3 λ v H4=>Pv (i+1) (ys++[v]) σ3 H4) (hd:∀ys σ H,Pv xs.length ys σ H->∀p,H p=none->Q (.ref p) (upd H p (.lst ys))) :
  CompL K k js g te σ (.ref a) H Q:=⟨a,rfl,⟨xs,hS⟩,EI Pv h0 hl hs hd⟩
theorem CompT.mk{g:TG}{te:TE}{Q:VK}(hS:SqT K H a xs)(Pv:Nat->List V->St->Hp->Prop)(h0:Pv 0 [] (bU k js σ) H)(hl:∀i ys σ H,i≤xs.length->Pv i ys σ H->SqT K H a xs)
  (hs:∀i x ys σ H,xs[i]?=some x->Pv i ys σ H->ys.length < sizeLine/\g x σ H λ σ3 H3=>te σ3 H3 λ v H4=>Pv (i+1) (ys++[v]) σ3 H4) (hd:∀ys σ H,Pv xs.length ys σ H->∀p,H p=none->Q (.ref p) (upd H p (.lst ys))) :
  CompT K k js g te σ (.ref a) H Q:=⟨a,rfl,⟨xs,hS⟩,EJ Pv h0 hl hs hd⟩
theorem CompR.mk{lo:Int}{n k:Nat}{g:TG}{te:TE}{Q:VK}(Pv:Nat->List V->St->Hp->Prop)(h0:Pv 0 [] (bU k js σ) H)
  (hs:∀i ys σ H,i < n->Pv i ys σ H->ys.length < sizeLine/\g (.int (lo+i)) σ H λ σ3 H3=>te σ3 H3 λ v H4=>Pv (i+1) (ys++[v]) σ3 H4) (hd:∀ys σ H,Pv n ys σ H->∀p,H p=none->Q (.ref p) (upd H p (.lst ys))) :
  CompR lo n k js g te σ H Q:=EK Pv h0 hs hd
end
theorem bf{K:FG}:(eO CX P w K mg base N qual scope f cd A outer s H E).K=K:=rfl
theorem EV:(cF X N scope cl C ex s H).K=X.K:=rfl
def tyS:V->Option String
 | .int _=>some "int"
 | .bl _=>some "bool"
 | .str _=>some "str"
 | .non=>some "NoneType"
 | _=>none
def mh(t n:String):Bool:=t == n || (t == "bool" && n == "int")
def jd(x:V)(n:String):Bool:=match tyS x with
 | some t=>mh t n
 | none=>false
theorem EW:jd (.int i) "int"=true:=by show mh "int" "int"=true;decide +kernel
theorem EX:jd (.int i) "bool"=false:=by show mh "int" "bool"=false;decide +kernel
theorem EY:jd (.bl b) "int"=true:=by show mh "bool" "int"=true;decide +kernel
theorem EZ:jd (.bl b) "bool"=true:=by show mh "bool" "bool"=true;decide +kernel
theorem Fa:jd (.int i) "tuple"=false:=by show mh "int" "tuple"=false;decide +kernel
theorem xu{K:FG}(e:(if (Value.type t == Value.type n)=true then some true else if W.kitMeta n=true then (fastBuiltinMro t).map (·.contains (.type n)) else none)=some b):W.kitOne K (.type t) (.type n)=some b:=by
 unfold W.kitOne;split at e
 ·rename_i h;rw[if_pos h];exact e
 ·rename_i h;rw[if_neg h];exact e
theorem Fb{K:FG}{t n:String}(hn:n∈["int","bool","tuple","list","str"])(ht:tyS x=some t):W.kitOne K (.type t) (.type n)=some (jd x n):=by
 simp only[bE,List.mem_nil_iff,cL] at hn
 cases x<;>simp only[tyS,reduceCtorEq,sW] at ht<;>subst ht<;>rcases hn with rfl | rfl | rfl | rfl | rfl<;>refine xu ?_<;>simp only[jd,tyS]<;>decide +kernel
theorem xv:db X (.builtin "isinstance") (λ xs H Q=>∃x n,xs=[x,.ty n]/\(n∈["int","bool","tuple","list","str"]/\(tyS x).isSome=true)/\Q (.bl (jd x n)) H):=by
 intro pins s σ H xs us Q I r h;obtain⟨x,n,rfl,⟨hn,hx⟩,q⟩:=h;obtain⟨t,ht⟩:=kL.mp hx;refine xr pins s σ H _ us Q I r ⟨x,n,.type t,jd x n,rfl,?_,Fb hn ht,q⟩;cases x<;>simp only[tyS,reduceCtorEq,sW] at ht<;>subst ht
 ·exact .non
 ·exact .bl _
 ·exact .int _
 ·exact .str _
theorem na2:(Int.natAbs 2 < 18446744073709551616)=True:=eq_true (by decide)
theorem Fc:(Int.natAbs 10 < 18446744073709551616)=True:=eq_true (by decide)
theorem af{H:Hp}(h:H p=none)(o:HO):Same H (upd H p o):=λ b u q=>by rw[bo (jH q h)];exact q
theorem small{n:Nat}(h:n≤1000):n≤sizeLine:=fP (bD h)
theorem smd{n:Nat}(h:n≤1000:=by decide):n≤sizeLine:=small h
theorem Same.tup{K:FG}(e:Same H H')(h:SqT K H a xs):SqT K H' a xs:=by
 rcases h with (h | ⟨o,h⟩) | h
 ·exact .inl (.inl (e _ _ h))
 ·exact .inl (.inr ⟨o,e _ _ h⟩)
 ·exact .inr h
theorem Fd{σ:St}(h:σ.length=1):∃z,σ=[z]:=by
 match σ,h with
 | [z],_=>exact⟨z,rfl⟩
theorem Fe{α β:Type}{f:α->β}{l:List α}{i:Nat}{y:β}(h:(l.map f)[i]?=some y):∃x,l[i]?=some x/\y=f x:=by
 rw[bA] at h;obtain⟨x,h1,h2⟩:=kQ.mp h;exact⟨x,h1,h2.symm⟩
theorem Ff{α:Type}{l:List α}{i:Nat}{x:α}(h:l[i]?=some x):l.take (i+1)=l.take i++[x]:=by
 rw[List.take_succ,h];rfl
theorem CompL.vals{K:FG}{te:TE}{Q:VK}{fn:V->V}(hS:SqL K H a xs)(hz:xs.length≤1000)
  (hs:∀x∈xs,∀H1,Same H H1->∀Q':VK,(∀H2,Same H1 H2->Q' (fn x) H2)->te [some x] H1 Q')
  (hd:∀H1,Same H H1->∀p,H1 p=none->Q (.ref p) (upd H1 p (.lst (xs.map fn)))):CompL K 1 [] (fE 0) te σ (.ref a) H Q:=by
 refine CompL.mk hS (λ i ys σ' H'=>Same H H'/\ys=(xs.take i).map fn/\σ'.length=1) ⟨Same.refl _,rfl,rfl⟩ (λ i ys σ' H' _ h=>h.1.seq hS) (λ i x ys σ' H' e h=>?_) (λ ys σ' H' h p hp=>?_)
 ·obtain⟨h1,rfl,h3⟩:=h;obtain⟨z,rfl⟩:=Fd h3;refine⟨?_,?_⟩
  ·rw[aA,be];exact jU (Nat.min_le_right _ _) (bD hz)
  ·refine hs x (bw e) H' h1 _ λ H2 h2=>⟨h1.trans h2,?_,rfl⟩;rw[Ff e,aY];rfl
 ·obtain⟨h1,rfl,h3⟩:=h;rw[cx];exact hd H' h1 p hp
theorem CompL.ints{K:FG}{ns:LI}{te:TE}{Q:VK}{fn:Int->Int}(hS:SqL K H a (ns.map V.int))(hz:ns.length≤1000)
  (hs:∀n∈ns,∀H1,Same H H1->∀Q':VK,(∀H2,Same H1 H2->Q' (.int (fn n)) H2)->te [some (.int n)] H1 Q')
  (hd:∀H1,Same H H1->∀p,H1 p=none->Q (.ref p) (upd H1 p (.lst ((ns.map fn).map V.int)))):CompL K 1 [] (fE 0) te σ (.ref a) H Q:=by
 refine CompL.vals (fn:=λ x=>match x with | .int n=>.int (fn n) | y=>y) hS (by rw[aA];exact hz) (λ x hx H1 h1 Q' h2=>?_) (λ H1 h1 p hp=>?_)
 ·obtain⟨n,hn,rfl⟩:=dL.mp hx;exact hs n hn H1 h1 Q' h2
 ·have e:=hd H1 h1 p hp;rw[jV] at e ⊢;exact e
section
variable {X:Cx}
def xw:R2:=λ x y H Q=>∃p xs,y=.ref p/\H p=some (.tup xs)/\bZ x=true/\xs.all bZ=true/\Q (.bl (inV x xs)) H
theorem xx:OpR X (compareOp .In) xw:=by
 intro pins s σ H x y v u Q I rx ry h;obtain⟨p,xs,rfl,hq,fx,fs,q⟩:=h;exact Eu pins s σ H x _ v u Q I rx ry ⟨p,xs,rfl,.inr (.of hq),fx,fs,q⟩
def xy:R2:=λ x y H Q=>lQ x y λ p i=>∃xs,H p=some (.lst xs)/\∃v,atI xs i=some v/\Q v H
def xz:R2:=λ x y H Q=>lQ x y λ p i=>∃xs,H p=some (.tup xs)/\∃v,atI xs i=some v/\Q v H
theorem bp:IxR X xy:=by
 intro value slice pins s σ H x y v u Q I rx ry h hs;obtain⟨p,i,rfl,rfl,xs,hq,z,he,q⟩:=pj h;exact pW value slice pins s σ H _ _ v u Q I rx ry ⟨p,xs,i,z,rfl,rfl,.of hq,he,q⟩ hs
theorem aD:IxR X xz:=by
 intro value slice pins s σ H x y v u Q I rx ry h hs;obtain⟨p,i,rfl,rfl,xs,hq,z,he,q⟩:=pj h;exact En value slice pins s σ H _ _ v u Q I rx ry ⟨p,xs,i,z,rfl,rfl,.of hq,he,q⟩ hs
end
section
variable {X:Cx}
def xA(n:Nat)(t:TGs):TG:=λ v σ H Q=>∃a xs,v=.ref a/\H a=some (.tup xs)/\xs.length=n/\t xs σ H Q
theorem kR(h:PG X (.Tuple es k pos) (nF X.K n t)):PG X (.Tuple es k pos) (xA n t):=by
 intro pins s σ H v u Q I r q;obtain⟨a,xs,e,ha,hl,q⟩:=q;exact h pins s σ H v u Q I r ⟨a,xs,e,.of ha,hl,q⟩
noncomputable def xB(to te:TE):TE:=λ σ H Q=>to σ H λ x H1=>∃l,x=.ref l/\(∃xs,H1 l=some (.lst xs))/\te σ H1 λ v H2=>∃xs,H2 l=some (.lst xs)/\xs.length < sizeLine/\Q .non (upd H2 l (.lst (xs++[v])))
theorem gK{apos cpos:Pos}(ho:PE X o to)(he:PE X e te)
  (hbase:attributeBase o "append" X.env (eval o X.env)=eval o X.env:=by rfl) (hfew:((backTo cpos (starEach [e] X.env)).all (λ x=>!x.1) && (backToKw cpos (keywordEach [] X.env)).all (λ x=>x.1.isSome)
   && decide ([e].length+([]:List Keyword).length+(if ([]:List Keyword).isEmpty then 0 else 1) < 30))=true:=by rfl)
  (hline:(apos.endLine == cpos.line)=true:=by rfl) (hs:starEach [e] X.env=[(false,eval e X.env)]:=by rfl):PE X (.Call (.Attribute o "append" apos) [e] [] cpos) (xB to te):=by
 intro pins s σ H Q I h;refine sM hbase hfew hline rfl (thn (ho pins s σ H _ I h) λ v s1 ⟨x,H1,I1,r1,q1⟩=>?_);obtain⟨l,rfl,⟨xs1,hx1⟩,q2⟩:=q1;obtain⟨h1,h2⟩:=xa (T := "list") I1 r1 (.inl ⟨rfl,_,.of hx1⟩);refine⟨"list","list.append",sX,PySem.F.slot_list_append,PySem.F.type_list_append,h1,h2,?_⟩;have hA:=(aE he bK hs) cpos pins s1 σ H1 (λ vs H2=>match vs with | [v]=>∃xs,H2 l=some (.lst xs)/\xs.length < sizeLine/\Q .non (upd H2 l (.lst (xs++[v]))) | _=>False) I1 q2;rw[hs] at hA ⊢;refine sN rfl (sO ?_);refine thn hA λ us s2 ⟨vs,H2,I2,r2,q3⟩=>?_
 match vs,q3 with
 | [v2],⟨xs,hx,hz,q⟩=>exact Ey pins s2 σ H2 (.ref l) [v2] v us Q I2 r1 r2 ⟨l,xs,v2,rfl,rfl,hx,hz,q⟩
end
def SameX(l:Addr)(H H':Hp):Prop:=∀b o,b≠l->H b=some o->H' b=some o
theorem SameX.trans(a:SameX l H H1)(b:SameX l H1 H2):SameX l H H2:=λ c o n h=>b c o n (a c o n h)
end L2
namespace L2
open PySem PySem.Spec PyProof.Rows PySem.W PySem.Calls
structure ExcK (K:FG)(C:Addr):Prop where
 cls:(clsIn K C).isSome=true
 ga:findIn K (.ref C) "__getattribute__"=some (some (.builtin "BaseException.__getattribute__"))
 gt:findIn K (.ref C) "__getattr__"=some none
 cl:findIn K (.ref C) "__class__"=some (some (.builtin "object.__class__"))
 mo:mroIn K C (.type "object")=some true
 mb:mroIn K C (.type "BaseException")=some true
section
variable {prog:Program}{w:World}{A:Around}{E:VS}{K:FG}{h:Heap}{g:Array GenState}{d:Drawn}{t:Nat}{os:OsState}{a C:Addr}{ox:Obj}
end
section
variable {X:Cx}
end
def jW(t:Addr)(i:Int):Obj:={ cls:=.type "reversed",data:=.fields #[.ref t,rawInt i] }
def IsRv(h:Heap)(a t:Addr)(i:Int):Prop:=∃o,h.get? a=some o/\o.cls=.type "reversed" /\ o.data=.fields #[.ref t,rawInt i]
theorem IsRv.typeIs{s:Shared}(x:IsRv s.heap a t i):s.TypeIs (.ref a) "reversed" := let ⟨o,ho,hc,_⟩:=x;⟨o,ho,hc⟩
theorem Fg:typeLookup (.type "tuple") "__reversed__"=pure none:=by rw[iy,iz];kernel_rfl
theorem xC:typeLookup (.type "tuple") "__getitem__"=pure (some (.builtin "tuple.__getitem__")):=by rw[iy,iz];kernel_rfl
theorem Fh:isSubtype (.type "tuple") (.type "dict")=pure false:=by rw[kS];kernel_rfl
theorem Fi:Slot "reversed" "__init__" "object.__init__" :=
 .of (owner := "object") (n := "__init__") (by rw[iy,iz];kernel_rfl) (by decide +kernel) (by decide +kernel) (by decide +kernel) (.inl (by decide +kernel)) (by rw[kS];kernel_rfl)
theorem rv_next:Slot "reversed" "__next__" "reversed.__next__" :=
 .of (owner := "reversed") (n := "__next__") (by rw[iy,iz];kernel_rfl) (by decide +kernel) (by decide +kernel) (by decide +kernel) (.inl (by decide +kernel)) (by rw[kS];kernel_rfl)
theorem xD:Slot "reversed" "__iter__" "reversed.__iter__" :=
 .of (owner := "reversed") (n := "__iter__") (by rw[iy,iz];kernel_rfl) (by decide +kernel) (by decide +kernel) (by decide +kernel) (.inl (by decide +kernel)) (by rw[kS];kernel_rfl)
theorem xE:entryFor table "reversed.__next__"=some Builtin.«reversed.__next__»:=entryFor_of_tree (by kernel_rfl)
theorem Fj:entryFor table "reversed.__iter__"=some Builtin.«dict_keyiterator.__iter__» :=
 entryFor_alias (id' := "dict_keyiterator.__iter__") (by kernel_rfl) (by first | rfl | decide +kernel) (by decide +kernel) (by kernel_rfl)
theorem xF(a:Value):argsOk "reversed.__next__" ⟨[a],[]⟩:=by unfold argsOk;kernel_rfl
theorem Fk(a:Value):argsOk "reversed.__iter__" ⟨[a],[]⟩:=by unfold argsOk;kernel_rfl
theorem Fl:TypeCalled "reversed" "reversed.__new__" "object.__init__" :=
 ⟨by decide +kernel,PySem.F.create_reversed,⟨_,_,PySem.F.mro_reversed⟩,PySem.F.made_reversed,PySem.F.plain_reversed_new,PySem.F.sub_reversed_self,Fi⟩
theorem Fm(t:Addr)(items:Array Value)(hz:(items.size:Int) < 2 ^ 63):Meets (Builtin.«reversed.__new__» ⟨[.type "reversed",.ref t],[]⟩)
  (λ _ R s=>IsTup s.heap t items/\∀tk,R (.ok (.ret (.ref s.heap.objs.size))) { s with heap:=s.heap.push (jW t ((items.size:Int) - 1)),toks:=tk }) :=
 .of_wp λ prog w A R s h=>by
  obtain⟨ht,h⟩:=h;have hT:s.TypeIs (.ref t) "tuple" := ht.typeIs;unfold Builtin.«reversed.__new__»;refine ak (gM (PySem.newClass_reversed _) ?_);try dsimp only
  refine ak (gM (a:=()) (by first | rfl | kernel_rfl) ?_);refine ak (gM (a:=()) (by first | rfl | kernel_rfl) ?_);try dsimp only
  refine ak (jX hT Fg ?_);try dsimp only
  refine ak ?_
  k_delta "hasItemSlot"
  refine ak (kU (T := "tuple") (b:=false) hT Fh ?_);rw[if_neg cI];refine ak (jX hT xC ?_);dsimp only;rw[if_pos (by decide +kernel)];refine aK ?_;rw[if_neg (by decide)];refine ak (s0m ht hz ?_);refine ak (gM (a:=some (items.size:Int)) rfl ?_);dsimp only;refine ak ?_;unfold Builtin.SmallTypes.newRecord;refine fb (aK ⟨_,rfl,h _⟩)
section
variable {prog:Program}{w:World}{A:Around}{E:VS}{s:Shared}
theorem xG{Q:VS}(ht:IsTup s.heap t items)(hz:(items.size:Int) < 2 ^ 63)
  (h:∀tk,Q (.ref s.heap.objs.size) { s with heap:=s.heap.push (jW t ((items.size:Int) - 1)),toks:=tk }):wpAny (model prog w) A (call (.type "reversed") [.ref t]) Q E s :=
 qc Fl (by decide) (PySem.F.typeCall_reversed_1 _) (PySem.F.newCall_reversed_1 _) (λ obj=>qd obj _) PySem.F.entry_reversed_new (Fm t items hz)
  ⟨ht,λ tk=>⟨⟨_,bG _ rfl,rfl⟩,h tk⟩⟩
theorem xH{i:Nat}{Q:Option Value->Shared->Prop}(hit:IsRv s.heap it t (i:Int))(ht:IsTup s.heap t items)(hx:items[i]?=some x)(hz:(items.size:Int) < 2 ^ 63)
  (hQ:∀h' tk,IsRv h' it t ((i:Int) - 1)->Heap.SameBut it s.heap h'->Q (some x) { s with heap:=h',toks:=tk }):wpAny (model prog w) A (pyNext (.ref it)) Q E s:=by
 obtain⟨o,ho,hc,hd⟩:=id hit;have hT:s.TypeIs (.ref t) "tuple" := ht.typeIs;have hi:i < items.size:=(xI.mp hx).1;unfold pyNext;refine ak (jf (gZ (name:=Str.ofString "__next__") hit.typeIs rv_next (fT rv_next hit.typeIs xE ?_ (xF _))));unfold Builtin.«reversed.__next__»;refine ak (gM (a:=(Value.ref it,[])) rfl ?_);try dsimp only
 refine ak (ck ho hd (x:=.ref t) rfl ?_);refine ak (ck ho hd (x:=rawInt (i:Int)) rfl ?_);show wpAny _ _ (if (i:Int) < 0 then _ else _) _ _ s;rw[if_neg (by lia)];refine ak (jX hT xC ?_);rw[if_neg (by decide)];refine ak (wpAny_mkInt ?_);refine ak (jf (getItem_tuple (k:=(i:Int)) (j:=i) ht (by lia) (by lia) (by simp[seqIndex?];lia) hx ?_));dsimp only;refine ak (ck ho hd (x:=rawInt (i:Int)) rfl ?_);show wpAny _ _ (setField (.ref it) 1 (rawInt ((i:Int) - 1)) >>= _) _ _ _;refine ak (nT ho hd (by simp) ?_);refine aK ⟨x,rfl,aK (hQ _ _ ?_ (qe ..))⟩;exact⟨_,ja _ ho (sY (mj hd _)),(Obj.cls_mapFields ..).trans hc,by rw[mj hd];simp⟩
theorem xJ{Q:Option Value->Shared->Prop}(hh:A.handled=none)(hit:IsRv s.heap it t (-1))(hQ:∀h' tk,Heap.ExtBut it s.heap h'->Q none { s with heap:=h',toks:=tk }):wpAny (model prog w) A (pyNext (.ref it)) Q E s:=by
 obtain⟨o,ho,hc,hd⟩:=id hit;unfold pyNext;refine ak (jf (gZ (name:=Str.ofString "__next__") hit.typeIs rv_next (fT rv_next hit.typeIs xE ?_ (xF _))));unfold Builtin.«reversed.__next__»;refine ak (gM (a:=(Value.ref it,[])) rfl ?_);try dsimp only
 refine ak (ck ho hd (x:=.ref t) rfl ?_);refine ak (ck ho hd (x:=rawInt (-1)) rfl ?_);show wpAny _ _ (if (-1:Int) < 0 then _ else _) _ _ s;rw[if_pos (by decide)];refine ak (jg ?_);refine ak ?_
 k_delta "reversedEnd"
 refine ak (nT ho hd (by simp) ?_);refine nT (ja _ ho (sY (mj hd _))) (mj hd _) (by simp) ?_;refine ak ?_
 have other:∀b u,b≠it->s.heap.get? b=some u->((s.heap.update it (Obj.mapFields λ x=>x.setIfInBounds 1 (rawInt (-1)))).update it (Obj.mapFields λ x=>x.setIfInBounds 0 Value.none)).get? b=some u:=λ b u nb e=>by
  rw[gH _ _ (cY nb),gH _ _ (cY nb)];exact e
 generalize ((s.heap.update it (Obj.mapFields λ x=>x.setIfInBounds 1 (rawInt (-1)))).update it (Obj.mapFields λ x=>x.setIfInBounds 0 Value.none))=hU at *;show wpAny _ _ (newExc (.type "StopIteration") [] >>= _) _ _ _;refine ak ?_;simp only[newExc,newTuple];refine ak (fb ?_ (by size_fits));refine ak (m:=firstArgMember _ _) (gM (a:=Value.none) (by first | rfl | (simp only[firstArgMember];rfl)) ?_);refine fb ?_ (by size_fits);simp only[raiseNew];refine ak (wpAny_handled ?_);rw[show A.in1.handled=none from hh];refine ak (aK (wpAny_throw ?_));refine ak (kU (T := "StopIteration") (b:=true) ⟨_,bG _ rfl,rfl⟩ qf ?_);exact aK (hQ _ _ λ b u nb e=>bd _ (bd _ (other b u nb e)))
theorem sZ{Q:VS}(hit:IsRv s.heap it t i)(h:Q (.ref it) s):wpAny (model prog w) A (pyIter (.ref it)) Q E s:=by
 refine wpAny_pyIter_slot hit.typeIs xD (fT xD hit.typeIs Fj ?_ (Fk _));show wpAny _ _ (ret (.ref it)) _ _ s;exact aK ⟨_,rfl,"reversed",_,hit.typeIs,rv_next.lookup,h⟩
end
noncomputable def mn(K:FG)(a:Addr)(n:Nat):It:=⟨λ i H=>∃xs,SqT K H a xs/\xs.length=n/\i < n,λ i H x H'=>H'=H/\∀xs,SqT K H a xs->xs[n - 1 - i]?=some x,λ i H=>∃xs,SqT K H a xs/\xs.length=n/\i=n⟩
theorem qg:(sizeLine:Int) < 2 ^ 63:=by rw[pO];decide
theorem Fn{K:FG}(a it:Addr)(n:Nat):Turn P w K tg (mn K a n) [it] it (λ i h=>IsRv h it a ((n:Int) - 1 - (i:Int))) where
 mem:=by simp
 obj:=λ i h x b hb=>by
  have e:b=it:=by simpa using hb
  subst e;obtain⟨o,ho,_,hd⟩:=x;exact⟨o,ho,λ v q=>by rw[hd] at q;cases q⟩
 keep:=λ i h h' x k=>let ⟨o,ho,r⟩:=x;⟨o,k it (by simp) o ho,r⟩
 item:=by
  intro X hP hw hK hc i pins s σ H E I hf st hg;subst hP hw hK;obtain⟨xs,hq,hn,hi⟩:=hg;obtain⟨its,rv,p,hz⟩:=I.tuple hq;have hx:xs[n - 1 - i]?=some (xs[n - 1 - i]'(by lia)):=aX (by lia);obtain⟨u,hu,ru⟩:=rv.get hx;obtain⟨f0,f1,f2,f3,f4,f5⟩:=hf it (by simp);have e:(n:Int) - 1 - (i:Int)=((n - 1 - i:Nat):Int):=by lia
  rw[e] at st;have hl:=rv.length;have z63:=qg;refine xH st p (x:=u) (by simpa using hu) (by simp;lia) λ h' tk st' sb=>?_;have I1:Inv X pins σ H { s with heap:=h',toks:=tk }:=I.turned (t':=tk) (λ b o hb e=>(sb.2 b hb).trans e) f0 f1 f3 f4 f5;obtain⟨o,e,c,d⟩:=id st';have e2:((n - 1 - i:Nat):Int) - 1=(n:Int) - 1 - ((i+1:Nat):Int):=by lia
  rw[e2] at st';exact⟨u,rfl,py (s:={ s with heap:=h',toks:=tk }) e c d (by decide) ⟨_,H,I1,ru,⟨rfl,λ ys hy=>by rw[I.tuple_inj hy hq];exact hx⟩,st',λ b hb=>(hf b hb).1⟩⟩
 done:=by
  intro X hP hw hK hc i pins s σ H E I hf st hg;subst hP hw hK;obtain⟨xs,hq,hn,hi⟩:=hg;obtain⟨f0,f1,f2,f3,f4,f5⟩:=hf it (by simp);have e:(n:Int) - 1 - (i:Int)=-1:=by lia
  rw[e] at st;exact xJ (I.ok.hd hc) st λ h' tk eb=>⟨rfl,I.turned (t':=tk) (λ b o hb e=>eb b o hb e) f0 f1 f3 f4 f5⟩
 self:=λ _ _ _ _ _ st h=>sZ st h
section
variable {X:Cx}{tg:Expr}
def xK(K:FG)(te:TE):TI:=λ σ H R=>te σ H λ x H1=>∃a xs,x=.ref a/\SqT K H1 a xs/\R (mn K a xs.length) H1
theorem xL{p pos:Pos}(hg:Gl X "reversed")(hm:X.mg "reversed"=none)(he:PE X e te)(hs:starEach [e] X.env=[(false,eval e X.env)]:=by rfl) :
  PI X tg (.Call (.Name "reversed" p) [e] [] pos) (xK X.K te):=by
 intro pins s σ H R I h;have hA:=(aE he (bK (X:=X)) hs) pos pins s σ H (λ vs H1=>match vs with | [x]=>∃a xs,x=.ref a/\SqT X.K H1 a xs/\R (mn X.K a xs.length) H1 | _=>False) I h;refine Call_ (fQ I hg hm s0o (ix (thn hA λ us s1 ⟨vs,H1,I1,r1,q1⟩=>?_) hs rfl))
 match vs,q1 with
 | [x],⟨a,xs,e,hq,q⟩ =>
  subst e;obtain⟨u,rfl,ru⟩:=dY r1;cases (show u=Value.ref a from ru);obtain⟨its,rv,p,hz⟩:=I1.tuple hq;have hl:=rv.length;have z63:=qg;refine xG p (by simp;lia) λ tk=>?_;have I2:Inv X pins σ H1 { s1 with heap:=s1.heap.push (jW a ((its.toArray.size:Int) - 1)),toks:=tk }:=I1.kept (t':=tk) λ b o e=>bd _ e
  have ir:IsRv (s1.heap.push (jW a ((its.toArray.size:Int) - 1))) s1.heap.objs.size a ((xs.length:Int) - 1 - ((0:Nat):Int)):=by
   refine⟨_,bG _ rfl,rfl,?_⟩;show Data.fields #[.ref a,rawInt ((its.toArray.size:Int) - 1)]=_;have e:((its.toArray.size:Nat):Int) - 1=(xs.length:Int) - 1 - ((0:Nat):Int):=by simp;lia
   rw[e]
  refine sZ ir ⟨s1.heap.objs.size,[s1.heap.objs.size],_,_,H1,rfl,I2,Fn a _ xs.length,ir,λ b hb=>?_,q⟩;have e:b=s1.heap.objs.size:=by simpa using hb
  subst e;exact I1.fpOk (aJ _) (I1.hok.fresh (aJ _))
end
noncomputable def LoopV(K:PySem.W.Frag)(g:TG)(tb:TS)(D:Ends)(σ:St)(x:V)(H1:Hp):Prop:=∃a xs,x=.ref a/\SqT K H1 a xs/\∃W:Nat->Nat->St->Hp->Prop,(∃m,W 0 m σ H1)/\∀i m σ H,W i m σ H ->
 ((mn K a xs.length).stop i H/\D.nx σ H)\/((mn K a xs.length).go i H/\∃N:St->Hp->Prop,(∀σ' H',N σ' H'->∃m',m' < m/\W (i+1) m' σ' H')/\∀x H',(mn K a xs.length).yld i H x H'->g x σ H' λ σ2 H2=>tb { D with nx:=N,ct:=N,bk:=D.nx } σ2 H2)
theorem Fo{K:FG}:jN (xK K te) g tb D σ H=te σ H λ x H1=>LoopV K g tb D σ x H1:=rfl
theorem LoopV.mk{K:FG}{g:TG}{tb:TS}{D:Ends}(hS:SqT K H a xs)(Pv:Nat->St->Hp->Prop)(h0:Pv 0 σ H)(hl:∀i σ H,i≤xs.length->Pv i σ H->SqT K H a xs)
  (hs:∀i x σ H,i < xs.length->xs[xs.length - 1 - i]?=some x->Pv i σ H->g x σ H λ σ2 H2=>tb { D with nx:=Pv (i+1),ct:=Pv (i+1),bk:=D.nx } σ2 H2) (hd:∀σ H,Pv xs.length σ H->D.nx σ H):LoopV K g tb D σ (.ref a) H:=by
 refine⟨a,xs,rfl,hS,λ i m σ H=>m=xs.length - i/\i≤xs.length/\Pv i σ H,⟨xs.length,by simp,bc _,h0⟩,?_⟩;rintro i m σ H ⟨rfl,hi,p⟩;have q:=hl i σ H hi p;by_cases hlt:i < xs.length
 ·refine .inr ⟨⟨xs,q,rfl,hlt⟩,Pv (i+1),λ σ' H' p'=>⟨xs.length - (i+1),by lia,rfl,hlt,p'⟩,λ x H' y=>?_⟩;obtain⟨e,y⟩:=y;subst e;exact hs i x σ _ hlt (y xs q) p
 ·have e:i=xs.length:=by lia
  subst e;exact .inl ⟨⟨xs,q,rfl,rfl⟩,hd σ H p⟩
theorem Fp:typeLookup (.type "list_reverseiterator") "__len__"=pure none:=by rw[iy,iz];kernel_rfl
theorem Fq:typeLookup (.type "list_reverseiterator") "__length_hint__"=pure (some (.builtin "list_reverseiterator.__length_hint__")):=by rw[iy,iz];kernel_rfl
section
variable {pg:Program}{wd:World}{B:Around}{X0:VS}{s0:Shared}{J:Addr}{fs ws:List Addr}{Gg:Array GenState->Array GenState->Prop}{m:Nat}{Pr:Nat->Value->Prop}{Sx:Nat->Shared->Prop}
theorem Fs{R:LV->Shared->Prop}(wk:WalksS pg wd B.in1 J fs ws Gg m Pr Sx)(ty:∀j z,Sx j z->z.TypeIs (.ref J) "list_reverseiterator")(z0:Sx 0 s0)(lt:∀b∈fs,b < s0.heap.objs.size)(mJ:J∈fs)(sm:m≤sizeLine)
  (fin:∀z' ac,Moved ws Gg s0 z'->ItemsOf Pr ac m->R ac.toList z'):wpAny (model pg wd) B (collect (.ref J)) R X0 s0:=by
 have out:s0.heap.objs.size ∉ fs:=λ q=>absurd (lt _ q) (eV _);have neJ:s0.heap.objs.size≠J:=by rintro rfl;exact out mJ
 let nu:Obj:={ cls:=.type "list",data:=.seq ([]:LV).toArray }
 unfold collect;refine ak (wpAny_runValue (jh xM ?_));rw[ji xN _];show wpAny _ B.in1 (newList [] >>= λ q=>again (.builtin "list.__iadd__" ⟨[q,.ref J],[]⟩)) _ _ s0;refine ak (fb ?_);refine aK ⟨hE qh _,jh F.entry_list_iadd ?_⟩;rw[ji qh _];have z1:=wk.frame 0 s0 (s0.heap.push nu) s0.toks z0 (aJ _) λ b _ o e=>bd _ e;have at1:(s0.heap.push nu).get? s0.heap.objs.size=some nu:=bG _ rfl;have dif:Builtin.List.listSameRef (.ref s0.heap.objs.size) (.ref J)=false:=by simp[Builtin.List.listSameRef,neJ]
 show wpAny _ B.in1 (Builtin.List.listExtendWith (.ref s0.heap.objs.size) (.ref J) (.ref s0.heap.objs.size)) _ _ _;unfold Builtin.List.listExtendWith;refine ak (kM (ty 0 _ z1) ?_);rw[if_neg (by rw[dif];decide)];refine ak (wk.self 0 _ _ _ z1 ?_);refine ak (gD ?_);unfold Builtin.List.listLengthHint;refine ak (jX (ty 0 _ z1) Fp ?_);show wpAny _ B.in1 (specialOf (Value.ref J) (Str.ofString "__length_hint__") >>= _) _ _ _;refine ak (jX (ty 0 _ z1) Fq ?_)
 (generalize hid:("list_reverseiterator.__length_hint__" : String)=id0;wp_delta;rw[show splitId id0=some ("list_reverseiterator","__length_hint__") from by subst hid;decide +kernel];subst hid)
 refine ak (kU (b:=true) (ty 0 _ z1) (by rw[kS];kernel_rfl) ?_);refine aK ?_;rw[if_neg (by decide)];refine aK ⟨hE tj _,tm wk sm _ out _ m 0 _ _ _ rfl (bc _) z1 at1 (s1h Pr) λ z' ac cc mv at2 its=>?_⟩;show wpAny _ B (load s0.heap.objs.size >>= _) _ _ z';exact ak (s0x at2 (aK (fin z' ac (tz (o:=nu) (tk:=s0.toks) mv (aJ _)) its)))
theorem Ft{R:VS}(wk:WalksS pg wd B.in1.in1 J fs ws Gg m Pr Sx)(ty:∀j z,Sx j z->z.TypeIs (.ref J) "list_reverseiterator")(z0:Sx 0 s0)(lt:∀b∈fs,b < s0.heap.objs.size)(mJ:J∈fs)(sm:m≤sizeLine)
  (fin:∀z' ac,Moved ws Gg s0 z'->ItemsOf Pr ac m->R (.ref z'.heap.objs.size) { z' with heap:=z'.heap.push { cls:=.type "tuple",data:=.seq ac } }) :
  codeAny (model pg wd) B (.call (.builtin "tuple.__new__") ⟨[.type "tuple",.ref J],[]⟩) (wants R X0) s0:=by
 refine codeAny_of_tree ?_;show wpAny _ B.in1 (do checkBuiltinCall "tuple.__new__" ⟨[.type "tuple",.ref J],[]⟩;again (.builtin "tuple.__new__" ⟨[.type "tuple",.ref J],[]⟩)) _ _ s0;refine ak (gM (F.newCall_tuple_1 _) (aK ⟨hE qi _,jh F.entry_tuple_new ?_⟩));rw[ji qi _];have q1:=sub_tuple_self;have q2:=init_tuple_lookup;have q3:=madeHere_tuple;have q4:=ty 0 s0 z0;wp_walk using kM q4,Fs (sm:=sm) wk ty z0 lt mJ;intro z' ac mv its;show wpAny _ _ (Builtin.Tuple.tupleExact ac.toList.toArray >>= λ q=>ret q) _ _ _;have e:ac.toList.toArray=ac:=by simp
 rw[e];unfold Builtin.Tuple.tupleExact;exact ak (fb (aK (fin z' ac mv its)) (by show ac.size≤sizeLine;rw[its.1];exact sm))
theorem Fu{R:VS}(wk:WalksS pg wd B.in1.in1.in1 J fs ws Gg m Pr Sx)(ty:∀j z,Sx j z->z.TypeIs (.ref J) "list_reverseiterator")(z0:Sx 0 s0)(lt:∀b∈fs,b < s0.heap.objs.size)(mJ:J∈fs)(sm:m≤sizeLine)
  (fin:∀z' ac,Moved ws Gg s0 z'->ItemsOf Pr ac m->R (.ref z'.heap.objs.size) { z' with heap:=z'.heap.push { cls:=.type "tuple",data:=.seq ac } }) :
  wpAny (model pg wd) B (call (.type "tuple") [.ref J]) R X0 s0 :=
 callType_codes (Q₁:=λ ob z=>z.TypeIs ob "tuple" /\ R ob z) F.called_tuple (s0p _) s0a
  (Ft (sm:=sm) wk ty z0 lt mJ λ z' ac mv its=>⟨⟨_,bG _ rfl,rfl⟩,fin z' ac mv its⟩)
  λ ob z q=>⟨q.1,qd ob _,object_init_meets F.called_tuple.init.lookup F.called_tuple.made (by decide) pg wd B.in1 _ z ⟨q.1,rfl,q.2⟩⟩
end
section
variable {X:Cx}
def xO(K:FG)(te:TE):TE:=λ σ H Q=>te σ H λ x H1=>∃a xs,x=.ref a/\SqL K H1 a xs/\∀p,H1 p=none->Q (.ref p) (upd H1 p (.tup xs.reverse))
theorem xP{p1 p2 pos pos':Pos}(hc:X.calm=true)(ht:Gl X "tuple")(hr:Gl X "reversed")(mt:X.mg "tuple"=none)(mr:X.mg "reversed"=none)(he:PE X e te)(hs:starEach [e] X.env=[(false,eval e X.env)]:=by rfl) :
  PE X (.Call (.Name "tuple" p1) [.Call (.Name "reversed" p2) [e] [] pos'] [] pos) (xO X.K te):=by
 intro pins s σ H Q I h;refine Call_ (fQ I ht mt cJ (ix ?_ rfl rfl));refine sx ?_;have hA:=(aE he (bK (X:=X)) hs) pos' pins s σ H (λ vs H1=>match vs with | [x]=>∃a xs,x=.ref a/\SqL X.K H1 a xs/\∀p,H1 p=none->Q (.ref p) (upd H1 p (.tup xs.reverse)) | _=>False) I h;refine Call_ (fQ I hr mr s0o (ix (thn hA λ us s1 ⟨vs,H1,I1,r1,q1⟩=>?_) hs rfl))
 match vs,q1 with
 | [x],⟨a,xs,e,hq,q⟩ =>
  subst e;obtain⟨u,rfl,ru⟩:=dY r1;cases (show u=Value.ref a from ru);obtain⟨its,rv,pl,hz⟩:=I1.list hq;have hl:=rv.length;refine call_reversed_list pl.isList ?_;refine sw ?_;have I2:Inv X pins σ H1 { s1 with heap:=s1.heap.push (revObj a ((its.toArray.size:Int) - 1)) }:=I1.kept (t':=s1.toks) λ b o e=>bd _ e;have al:a < s1.heap.objs.size:=by obtain⟨o,ho,_⟩:=pl.isList;exact br ho
  have hne:a≠s1.heap.objs.size:=bM al
  have ir:(s1.heap.push (revObj a ((its.toArray.size:Int) - 1))).IsRevIter s1.heap.objs.size a ((its.toArray.size:Int) - 1 - ((0:Nat):Int)):=by
   refine⟨_,bG _ rfl,rfl,?_⟩;have e:(its.toArray.size:Int) - 1 - ((0:Nat):Int)=(its.toArray.size:Int) - 1:=by lia
   rw[e];rfl
  have sz:(s1.heap.push (revObj a ((its.toArray.size:Int) - 1))).objs.size=s1.heap.objs.size+1:=by simp[Heap.push]
  have ff:=I1.fpOk (aJ s1.heap.objs.size) (I1.hok.fresh (aJ _))
  refine Fu (Walks.listRev (A:=X.A.in1.in1.in1) (I.ok.hd hc) s1.heap.objs.size a hne its.toArray).toS (λ j z q=>let ⟨o,ho,hk,_⟩:=q.2.1;⟨o,ho,hk⟩)
   ⟨bc _,ir,pl.isList.at λ o e=>bd _ e⟩ (λ b hb=>?_) (bF ..) (by simp only[bN];lia) λ z' ac mv io=>?_
  ·show b < (s1.heap.push (revObj a ((its.toArray.size:Int) - 1))).objs.size;rw[sz];simp only[bE,cU,cL] at hb
   rcases hb with rfl | rfl
   ·exact kN _
   ·exact fG al
  have I3:Inv X pins σ H1 z':=by
   obtain⟨zh,zg,zd,zt,zo⟩:=z';have e1:zg=s1.gens:=mv.gens;have e2:zd=s1.drawn:=mv.drawn;have e3:zo=s1.os:=mv.os;subst e1 e2 e3;obtain⟨f0,f1,f2,f3,f4,f5⟩:=ff;exact I1.turned (t':=zt) (λ b o hb e=>mv.heap b o (by simpa using hb) (bd _ e)) f0 f1 f3 f4 f5
  have er:ac=its.reverse.toArray:=by
   have sz2:ac.size=its.length:=by simpa using io.1
   apply Array.ext
   ·simp[sz2]
   ·intro j h1 h2;have q:=io.2 j _ (qj h1);simp only[bN,tD] at q;have q2:its.reverse[j]?=some ac[j]:=by rw[nU (by lia)];exact q
    rw[xQ];exact(cz ((aX (by simpa using h2)).symm.trans q2)).symm
  subst er
  have I4:Inv X pins σ (upd H1 z'.heap.objs.size (.tup xs.reverse)) { z' with heap:=z'.heap.push { cls:=.type "tuple",data:=.seq its.reverse.toArray } } :=
   I3.laid (t':=z'.toks) (λ b o e=>bd _ e) (aJ _) (show ObjOk X.prog X.w _ _ _ (.tup xs.reverse) from ⟨by simpa using hz,its.reverse,rv.reverse,lZ _ _⟩)
  exact⟨.ref z'.heap.objs.size,_,I4,rfl,q _ (I3.hok.fresh (aJ _))⟩
end
section
variable {X:Cx}
noncomputable def xR(K:FG):R2:=λ x y H Q=>∃a b xs ys,x=.ref a/\y=.ref b/\SqT K H a xs/\SqT K H b ys/\xs.length+ys.length≤sizeLine /\
 (xs=[]->Q (.ref b) H)/\(xs≠[]->ys=[]->Q (.ref a) H)/\(xs≠[]->ys≠[]->∀p,H p=none->Q (.ref p) (upd H p (.tup (xs++ys))))
theorem Fv:OpR X (binaryOp .Add) (xR X.K):=by
 intro pins s σ H x y v u Q I rx ry h;obtain⟨a,b,xs,ys,rfl,rfl,ha,hb,hz,q0,q1,q2⟩:=h;by_cases hx:xs=[]
 ·cases rx;cases ry;obtain⟨its,r1,p1,_⟩:=I.tuple ha;obtain⟨its2,r2,p2,_⟩:=I.tuple hb;have e1:its=[]:=r1.nil_iff.mpr hx;obtain⟨⟨c1,d1,z1,l1⟩,g1,hc1,n1,hd1⟩:=id p1;obtain⟨⟨c2,d2,z2,l2⟩,g2,hc2,n2,hd2⟩:=id p2;simp only at hc1 hd1 hc2 hd2;subst hc1 hd1 hc2 hd2
  exact s0z ⟨_,g1,rfl⟩ ⟨_,g2,rfl⟩ sF s0j sH sI (sJ _ _)
   (tuple_addW0 a b its.toArray its2.toArray n1 n2 d1 d2 l1 l2 (by simp[e1])) ⟨g1,g2,.ref b,H,I,rfl,q0 hx⟩
 ·exact Em pins s σ H _ _ v u Q I rx ry ⟨a,b,xs,ys,rfl,rfl,ha,hb,hx,hz,q1 hx,q2 hx⟩
def fH:List V->List V->Bool
 | [],[]=>true
 | x::xs,y::ys=>eqV x y && fH xs ys
 | _,_=>false
theorem qk:∀ {xs ys:List V},xs.length≠ys.length->fH xs ys=false
 | [],[],h=>absurd rfl h
 | x::xs,y::ys,h=>by
  have e:xs.length≠ys.length:=λ z=>h (by simp[z]);simp[fH,qk e]
 | [],_::_,_=>rfl
 | _::_,[],_=>rfl
def gp(xs ys:List V)(j:Nat):Bool:=match xs[j]?,ys[j]? with | some x,some y=>eqV x y | _,_=>false
theorem qm:∀ {xs ys:List V},xs.length=ys.length->(List.range xs.length).all (gp xs ys)=fH xs ys
 | [],[],_=>rfl
 | x::xs,y::ys,h=>by
  have e:xs.length=ys.length:=by simpa using h
  rw[List.length_cons,xS,List.all_cons,List.all_map];have z:(gp (x::xs) (y::ys) ∘ Nat.succ)=gp xs ys:=by funext j;simp[gp]
  rw[z,qm e];rfl
 | [],_::_,h=>by cases h
 | _::_,[],h=>by cases h
theorem tE(r1:Vals xs us)(r2:Vals ys ws)(f1:xs.all bZ=true)(f2:ys.all bZ=true)(j:Nat)(h1:j < us.toArray.size)(h2:j < ws.toArray.size) :
  SeqAt.EqAt A s us.toArray[j] ws.toArray[j] (gp xs ys j):=by
 have l1:=r1.length;have l2:=r2.length;have k1:j < xs.length:=by rw[l1];simpa using h1
 have k2:j < ys.length:=by rw[l2];simpa using h2
 obtain⟨u,hu,ru⟩:=r1.get (aX k1);obtain⟨v,hv,rv⟩:=r2.get (aX k2)
 have e1:us.toArray[j]=u:=by
  have z:us[j]?=some (us[j]'(by simpa using h1)):=aX _;rw[z] at hu;simpa using hu
 have e2:ws.toArray[j]=v:=by
  have z:ws[j]?=some (ws[j]'(by simpa using h2)):=aX _;rw[z] at hv;simpa using hv
 rw[e1,e2];have e3:gp xs ys j=eqV xs[j] ys[j]:=by simp[gp,k1,k2]
 rw[e3];exact pX ru rv (mq.mp f1 _ (jY k1)) (mq.mp f2 _ (jY k2))
def xT(K:FG):R2:=λ x y H Q=>∃a b xs ys,x=.ref a/\y=.ref b/\SqT K H a xs/\SqT K H b ys/\xs.all bZ=true/\ys.all bZ=true/\Q (.bl (fH xs ys)) H
theorem tF(hu:X.A.units < cLine):OpR X (compareOp .Eq) (xT X.K):=by
 intro pins s σ H x y v u Q I rx ry h;obtain⟨a,b,xs,ys,rfl,rfl,ha,hb,f1,f2,q⟩:=h;cases rx;cases ry;obtain⟨us,r1,p1,_⟩:=I.tuple ha;obtain⟨ws,r2,p2,_⟩:=I.tuple hb;refine SeqAt.eq_tupleAt (show s.heap.IsTuple a us.toArray from p1) (show s.heap.IsTuple b ws.toArray from p2) (e:=gp xs ys) hu (tE r1 r2 f1 f2) ?_;have e1:us.toArray.size=xs.length:=by simp[r1.length]
 have e2:ws.toArray.size=ys.length:=by simp[r2.length]
 rw[e1,e2];by_cases hl:xs.length=ys.length
 ·have z:((List.range (min xs.length ys.length)).all (gp xs ys) && xs.length == ys.length)=fH xs ys:=by
   rw[← hl,jj,qm hl];simp
  rw[z];exact⟨.bl _,H,I,rfl,q⟩
 ·have z:((List.range (min xs.length ys.length)).all (gp xs ys) && xs.length == ys.length)=fH xs ys:=by
   rw[qk hl];simp[hl]
  rw[z];exact⟨.bl _,H,I,rfl,q⟩
theorem dC:∀(ns:LI),(ns.map V.int).all bZ=true
 | []=>rfl
 | n::ns=>by simp[bZ]
theorem qo:db X (.builtin "isinstance") (λ xs H Q=>∃a ys,xs=[.ref a,.ty "tuple"]/\H a=some (.tup ys)/\Q (.bl true) H):=by
 intro pins s σ H xs us Q I r h;obtain⟨a,ys,rfl,ha,q⟩:=h;exact xr pins s σ H _ us Q I r ⟨.ref a,"tuple",.type "tuple",true,rfl,.tup ha,xu (by decide +kernel),q⟩
end
section
variable {pg:Program}{wd:World}{B:Around}{X0:VS}{s0:Shared}
theorem kW{R:VS}(p:s0.heap.IsTupleIter j t k)(q:s0.heap.IsTuple t its)(e:its[k]?=some x)
  (f:∀h',h'.IsTupleIter j t (k+1)->Heap.SameBut j s0.heap h'->R x { s0 with heap:=h' }):wpAny (model pg wd) B (Builtin.SmallTypes.nextOf (.ref j)) R X0 s0:=by
 obtain⟨o,g,c,d⟩:=id p;obtain⟨ot,gt,_,nt,dt⟩:=q;unfold Builtin.SmallTypes.nextOf;refine ak (gZ (name:=Str.ofString "__next__") p.typeIs qp (fT qp p.typeIs xU ?_ (xV _)));show wpAny _ _ (field (.ref j) 0 >>= _) _ _ s0;refine ak (ck g d (x:=.ref t) rfl ?_);show wpAny _ _ (if (Value.ref t == Value.none)=true then _ else _) _ _ s0;rw[if_neg (show ¬((Value.ref t == Value.none)=true) from cI)];show wpAny _ _ (field (.ref j) 1 >>= _) _ _ s0;refine ak (ck g d (x:=.int k 0) rfl ?_);show wpAny _ _ (seqItems? (.ref t) >>= _) _ _ s0;refine ak (eQ gt dt ?_);simp only[Int.toNat_natCast,e];refine ak (nT g d (by simp) (aK ⟨x,rfl,aK (f _ ?_ (qe ..))⟩));exact⟨_,ja _ g (sY (mj d _)),(Obj.cls_mapFields ..).trans c,by rw[mj d];simp[rawInt]⟩
theorem nV(hh:B.handled=none)(p:s0.heap.IsTupleIter j t k)(q:s0.heap.IsTuple t its)(e:its[k]?=none)
  (f:∀h' z,Heap.ExtBut j s0.heap h'->(∃o,h'.get? z=some o/\o.cls=.type "StopIteration")->X0 (.ref z) { s0 with heap:=h' }):wpAny (model pg wd) B (Builtin.SmallTypes.nextOf (.ref j)) R X0 s0:=by
 obtain⟨o,g,c,d⟩:=id p;obtain⟨ot,gt,_,nt,dt⟩:=q;unfold Builtin.SmallTypes.nextOf;refine ak (gZ (name:=Str.ofString "__next__") p.typeIs qp (fT qp p.typeIs xU ?_ (xV _)));show wpAny _ _ (field (.ref j) 0 >>= _) _ _ s0;refine ak (ck g d (x:=.ref t) rfl ?_);show wpAny _ _ (if (Value.ref t == Value.none)=true then _ else _) _ _ s0;rw[if_neg (show ¬((Value.ref t == Value.none)=true) from cI)];show wpAny _ _ (field (.ref j) 1 >>= _) _ _ s0;refine ak (ck g d (x:=.int k 0) rfl ?_);show wpAny _ _ (seqItems? (.ref t) >>= _) _ _ s0;refine ak (eQ gt dt ?_);simp only[Int.toNat_natCast,e];refine ak (jg (ak (nT g d (by simp) ?_)));show wpAny _ _ (newExc (.type "StopIteration") [] >>= _) _ _ _;refine ak ?_;simp only[newExc,newTuple];refine ak (fb ?_ (by size_fits));refine ak (m:=firstArgMember _ _) (gM (a:=Value.none) (by first | rfl | (simp only[firstArgMember];rfl)) ?_);refine fb ?_ (by size_fits);simp only[raiseNew];refine ak (wpAny_handled ?_);first | rw[show B.in1.handled=none from hh] | rw[hh]
 refine ak (aK (wpAny_throw ?_));exact f _ _ (((qe ..).extBut.push _).push _) ⟨_,bG _ rfl,rfl⟩
structure Apart5 (z ti ox j1 j2 t1 t2:Addr):Prop where
 ti_z:ti≠z
 ox_z:ox≠z
 j1_z:j1≠z
 j2_z:j2≠z
 ti_ox:ti≠ox
 ti_j1:ti≠j1
 ti_j2:ti≠j2
 ox_j1:ox≠j1
 ox_j2:ox≠j2
 j12:j1≠j2
 t1_z:t1≠z
 t1_ox:t1≠ox
 t1_j1:t1≠j1
 t1_j2:t1≠j2
 t2_z:t2≠z
 t2_ox:t2≠ox
 t2_j1:t2≠j1
 t2_j2:t2≠j2
def qq(z ox j1 j2:Addr)(h h':Heap):Prop:=∀c o,c≠z->c≠ox->c≠j1->c≠j2->h.get? c=some o->h'.get? c=some o
theorem cf{h h':Heap}(p:h.IsTupleIter j t k)(f:∀o,h.get? j=some o->h'.get? j=some o):h'.IsTupleIter j t k:=let ⟨o,g,r⟩:=p;⟨o,f o g,r⟩
theorem fj{h h':Heap}(p:h.IsTuple t its)(f:∀o,h.get? t=some o->h'.get? t=some o):h'.IsTuple t its:=let ⟨o,g,r⟩:=p;⟨o,f o g,r⟩
theorem Fw{R:Option Value->Shared->Prop}(ap:Apart5 z ti ox j1 j2 t1 t2)(hz:IsZip s0.heap z ti ox .none)(hi:IsPair s0.heap ti (.ref j1) (.ref j2))(ho:IsPair s0.heap ox u v)
  (p1:s0.heap.IsTupleIter j1 t1 k) (p2:s0.heap.IsTupleIter j2 t2 k) (q1:s0.heap.IsTuple t1 as) (q2:s0.heap.IsTuple t2 bs) (e1:as[k]?=some x) (e2:bs[k]?=some y)
  (f:∀h',IsZip h' z ti ox (rawInt s0.heap.objs.size)->IsPair h' ox x y->h'.IsTupleIter j1 t1 (k+1)->h'.IsTupleIter j2 t2 (k+1)->IsPair h' s0.heap.objs.size x y->qq z ox j1 j2 s0.heap h'->R (some (.ref s0.heap.objs.size)) { s0 with heap:=h' }) :
  wpAny (model pg wd) B (pyNext (.ref z)) R X0 s0:=by
 have ty:s0.TypeIs (.ref z) "zip" := ⟨_,hz,rfl⟩;unfold pyNext;refine ak (jf (gZ (name:=Str.ofString "__next__") ty jZ (fT jZ ty qr ?_ (qt _))));show wpAny _ _ (field (.ref z) 2 >>= _) _ _ _;refine ak (ck hz rfl (x:=.bool false) rfl ?_);show wpAny _ _ (field (.ref z) 3 >>= _) _ _ _;refine ak (ck hz rfl (x:=.ref ti) rfl ?_);refine ak (eQ hi rfl ?_);show wpAny _ _ (Builtin.SmallTypes.ownedTupleIsFree (.ref z) >>= _) _ _ _;refine ak ?_;unfold Builtin.SmallTypes.ownedTupleIsFree;refine ak (ck hz rfl (x:=.none) rfl (aK ?_));simp only[gG];refine ak (jg ?_);refine ak (ck hz rfl (x:=.ref ox) rfl ?_);refine ak (hV hz (by simp) λ m1 zm1 sb1=>?_);have zm1:IsZip m1 z ti ox .ellipsis:=zm1;refine ak ?_;simp only[List.zipIdx_cons,List.zipIdx_nil,nW,List.forIn_nil];refine ak (ak (ka ?_));show wpAny _ _ (Builtin.SmallTypes.nextOf (.ref j1) >>= _) _ _ _;refine ak (kW (cf p1 λ o g=>sb1.extBut _ _ ap.j1_z g) (fj q1 λ o g=>sb1.extBut _ _ ap.t1_z g) e1 λ m2 pm2 sb2=>aK ?_);have om2:IsPair m2 ox u v:=sb2.extBut _ _ ap.ox_j1 (sb1.extBut _ _ ap.ox_z ho);refine ak (eQ om2 rfl ?_);refine ak (tG om2 λ m3 om3 sb3=>?_);have om3:IsPair m3 ox x v:=om3;refine ak (iA (aK ?_));refine ak (ak (ka ?_));show wpAny _ _ (Builtin.SmallTypes.nextOf (.ref j2) >>= _) _ _ _;have to3:∀c o,c≠z->c≠ox->c≠j1->s0.heap.get? c=some o->m3.get? c=some o:=λ c o a1 a2 a3 g=>sb3.extBut _ _ a2 (sb2.extBut _ _ a3 (sb1.extBut _ _ a1 g));refine ak (kW (cf p2 λ o g=>to3 _ o ap.j2_z ap.ox_j2.symm ap.j12.symm g) (fj q2 λ o g=>to3 _ o ap.t2_z ap.t2_ox ap.t2_j1 g) e2 λ m4 pm4 sb4=>aK ?_);have om4:IsPair m4 ox x v:=sb4.extBut _ _ ap.ox_j2 om3;refine ak (eQ om4 rfl ?_);refine ak (tG om4 λ m5 om5 sb5=>?_);have om5:IsPair m5 ox x y:=om5;refine ak (iA (aK (aK ?_)));refine ak (eQ om5 rfl ?_);refine ak (wpAny_newTuple ?_);have sz5:m5.objs.size=s0.heap.objs.size:=by rw[sb5.1,sb4.1,sb3.1,sb2.1,sb1.1]
 have zm5:IsZip m5 z ti ox .ellipsis:=sb5.extBut _ _ ap.ox_z.symm (sb4.extBut _ _ ap.j2_z.symm (sb3.extBut _ _ ap.ox_z.symm (sb2.extBut _ _ ap.j1_z.symm zm1)));have to5:qq z ox j1 j2 s0.heap m5:=λ c o a1 a2 a3 a4 g=>sb5.extBut _ _ a2 (sb4.extBut _ _ a4 (to3 c o a1 a2 a3 g));have pj1:m5.IsTupleIter j1 t1 (k+1):=cf pm2 λ o g=>sb5.extBut _ _ ap.ox_j1.symm (sb4.extBut _ _ ap.j12 (sb3.extBut _ _ ap.ox_j1.symm g));have pj2:m5.IsTupleIter j2 t2 (k+1):=cf pm4 λ o g=>sb5.extBut _ _ ap.ox_j2.symm g;have zlt:z < m5.objs.size:=br zm5;show wpAny _ _ (Builtin.SmallTypes.ownedTupleHandOut (.ref z) (.ref m5.objs.size) >>= _) _ _ _;refine ak ?_;unfold Builtin.SmallTypes.ownedTupleHandOut;have zm6:IsZip (m5.push { cls:=.type "tuple",data:=.seq #[x,y] }) z ti ox .ellipsis:=bd _ zm5;refine ak (hV zm6 (by simp) λ m7 zm7 sb7=>?_);have zm7:IsZip m7 z ti ox (rawInt m5.objs.size):=zm7;refine hV zm7 (by simp) λ m8 zm8 sb8=>?_;have zm8:IsZip m8 z ti ox (rawInt m5.objs.size):=zm8;have to8:∀c o,c≠z->m5.get? c=some o->m8.get? c=some o:=λ c o a1 g=>sb8.extBut _ _ a1 (sb7.extBut _ _ a1 (bd _ g));have np8:IsPair m8 m5.objs.size x y:=sb8.extBut _ _ (iY zlt) (sb7.extBut _ _ (iY zlt) (bG _ rfl));rw[sz5] at zm8 np8;refine aK ⟨_,rfl,aK ?_⟩;show R (some (.ref m5.objs.size)) _;rw[sz5];exact f m8 zm8 (to8 _ _ ap.ox_z om5) (cf pj1 λ o g=>to8 _ o ap.j1_z g) (cf pj2 λ o g=>to8 _ o ap.j2_z g) np8 λ c o a1 a2 a3 a4 g=>to8 c o a1 (to5 c o a1 a2 a3 a4 g)
theorem Fx{R:Option Value->Shared->Prop}(hh:B.handled=none)(ap:Apart5 z ti ox j1 j2 t1 t2)(hz:IsZip s0.heap z ti ox .none)(hi:IsPair s0.heap ti (.ref j1) (.ref j2))(ho:IsPair s0.heap ox u v)
  (p1:s0.heap.IsTupleIter j1 t1 k) (p2:s0.heap.IsTupleIter j2 t2 k) (q1:s0.heap.IsTuple t1 as) (q2:s0.heap.IsTuple t2 bs) (hend:as[k]?=none\/bs[k]?=none)
  (f:∀h',qq z ox j1 j2 s0.heap h'->R none { s0 with heap:=h' }):wpAny (model pg wd) B (pyNext (.ref z)) R X0 s0:=by
 have ty:s0.TypeIs (.ref z) "zip" := ⟨_,hz,rfl⟩
 have last:∀(h':Heap) (e:Addr),qq z ox j1 j2 s0.heap h'->(∃o,h'.get? e=some o/\o.cls=.type "StopIteration")->wpAny (model pg wd) B (do if ← isInstance (.ref e) (.type "StopIteration") then pure none else throw (.ref e)) R X0 { s0 with heap:=h' }:=λ h' e bt ⟨o,g,c⟩ =>
  ak (kU (T := "StopIteration") (b:=true) ⟨o,g,c⟩ qf (aK (f _ bt)))
 unfold pyNext;refine ak (jf (gZ (name:=Str.ofString "__next__") ty jZ (fT jZ ty qr ?_ (qt _))));show wpAny _ _ (field (.ref z) 2 >>= _) _ _ _;refine ak (ck hz rfl (x:=.bool false) rfl ?_);show wpAny _ _ (field (.ref z) 3 >>= _) _ _ _;refine ak (ck hz rfl (x:=.ref ti) rfl ?_);refine ak (eQ hi rfl ?_);show wpAny _ _ (Builtin.SmallTypes.ownedTupleIsFree (.ref z) >>= _) _ _ _;refine ak ?_;unfold Builtin.SmallTypes.ownedTupleIsFree;refine ak (ck hz rfl (x:=.none) rfl (aK ?_));simp only[gG];refine ak (jg ?_);refine ak (ck hz rfl (x:=.ref ox) rfl ?_);refine ak (hV hz (by simp) λ m1 zm1 sb1=>?_);have zm1:IsZip m1 z ti ox .ellipsis:=zm1;refine ak ?_;simp only[List.zipIdx_cons,List.zipIdx_nil,nW,List.forIn_nil];refine ak (ak (ka ?_));show wpAny _ _ (Builtin.SmallTypes.nextOf (.ref j1) >>= _) _ _ _
 cases e1:as[k]? with
 | none =>
  refine ak (nV hh (cf p1 λ o g=>sb1.extBut _ _ ap.j1_z g) (fj q1 λ o g=>sb1.extBut _ _ ap.t1_z g) e1 λ m2 e xb he=>?_);obtain⟨oe,ge,ce⟩:=he;have zm2:IsZip m2 z ti ox .ellipsis:=xb _ _ ap.j1_z.symm zm1;have ez:e≠z:=λ q=>by subst q;rw[zm2] at ge;cases ge;simp at ce
  exact hV zm2 (by simp) λ m3 _ sb3=>last m3 e (λ c o a1 _ a3 _ g=>sb3.extBut _ _ a1 (xb _ _ a3 (sb1.extBut _ _ a1 g))) ⟨oe,sb3.extBut _ _ ez ge,ce⟩
 | some x =>
  have e2:bs[k]?=none:=by rcases hend with q | q;rw[e1] at q;cases q;exact q
  refine ak (kW (cf p1 λ o g=>sb1.extBut _ _ ap.j1_z g) (fj q1 λ o g=>sb1.extBut _ _ ap.t1_z g) e1 λ m2 pm2 sb2=>aK ?_);have om2:IsPair m2 ox u v:=sb2.extBut _ _ ap.ox_j1 (sb1.extBut _ _ ap.ox_z ho);refine ak (eQ om2 rfl ?_);refine ak (tG om2 λ m3 om3 sb3=>?_);refine ak (iA (aK ?_));refine ak (ak (ka ?_));show wpAny _ _ (Builtin.SmallTypes.nextOf (.ref j2) >>= _) _ _ _;have to3:∀c o,c≠z->c≠ox->c≠j1->s0.heap.get? c=some o->m3.get? c=some o:=λ c o a1 a2 a3 g=>sb3.extBut _ _ a2 (sb2.extBut _ _ a3 (sb1.extBut _ _ a1 g));refine ak (nV hh (cf p2 λ o g=>to3 _ o ap.j2_z ap.ox_j2.symm ap.j12.symm g) (fj q2 λ o g=>to3 _ o ap.t2_z ap.t2_ox ap.t2_j1 g) e2 λ m4 e xb he=>?_);obtain⟨oe,ge,ce⟩:=he;have zm4:IsZip m4 z ti ox .ellipsis:=xb _ _ ap.j2_z.symm (sb3.extBut _ _ ap.ox_z.symm (sb2.extBut _ _ ap.j1_z.symm zm1));have ez:e≠z:=λ q=>by subst q;rw[zm4] at ge;cases ge;simp at ce
  exact hV zm4 (by simp) λ m5 _ sb5=>last m5 e (λ c o a1 a2 a3 a4 g=>sb5.extBut _ _ a1 (xb _ _ a4 (to3 c o a1 a2 a3 g))) ⟨oe,sb5.extBut _ _ ez ge,ce⟩
end
theorem Inv.turnedL{h':Heap}{t':Nat}{fl:List Addr}(I:Inv X pins σ H s)(kk:∀b o,b ∉ fl->s.heap.get? b=some o->h'.get? b=some o)(fo:∀b∈fl,jM X pins H b):Inv X pins σ H { s with heap:=h',toks:=t' }:=by
 have out:∀b u,H b=some u->b ∉ fl:=λ b u e z=>by rw[(fo b z).1] at e;cases e
 refine I.step (g':=s.gens) (d':=s.drawn) (ch:=fl) (λ b hb=>?_) (λ b o _ _ hc e _=>kk b o hc e) (λ b o _ _ hc e _=>⟨o.slots,kk b o hc e⟩) (λ _ _ _ _ q=>q)
  (λ b o hc e=>⟨o,kk b o hc e⟩) (λ _ _ e=>e) (λ _ _ _ e=>e) (λ b ps e=>⟨#[],by rw[e];simp⟩) (λ m hm=>?_) (λ b u e=>?_) I.bare
 ·obtain⟨_,f1,_,f3,f4,f5⟩:=fo b hb;exact⟨f3,f1,f4,f5⟩
 ·obtain⟨o,es,ep,ho,r⟩:=hm;exact⟨o,es,ep,kk _ o (λ z=>(fo _ z).2.1 rfl) ho,r⟩
 ·refine(I.hok b u e).stay (λ c v hc q=>kk c v ?_ q) (λ _ q=>q) λ _ _ q=>q
  rcases hc with z | z
  ·rw[z];exact out b u e
  ·exact out c _ z
noncomputable def Itz(K:FG)(a b:Addr):It:=⟨λ i H=>∃xs ys x y,SqT K H a xs/\SqT K H b ys/\xs[i]?=some x/\ys[i]?=some y,
 λ i H v H'=>∃T x y,v=.ref T/\H T=none/\H'=upd H T (.tup [x,y])/\∀xs ys,SqT K H a xs->SqT K H b ys->xs[i]?=some x/\ys[i]?=some y,λ i H=>∃xs ys,SqT K H a xs/\SqT K H b ys/\(xs.length≤i\/ys.length≤i)⟩
theorem Fy{K:FG}(ap:Apart5 z ti ox j1 j2 a b) :
  Turn P w K (.Tuple es x1 pp) (Itz K a b) [z,ti,ox,j1,j2] z (λ i h=>IsZip h z ti ox .none/\IsPair h ti (.ref j1) (.ref j2)/\(∃u v,IsPair h ox u v)/\h.IsTupleIter j1 a i/\h.IsTupleIter j2 b i) where
 mem:=by simp
 obj:=λ i h q c hc=>by
  obtain⟨q1,q2,⟨u,v,q3⟩,⟨o4,g4,_,d4⟩,⟨o5,g5,_,d5⟩⟩:=q;simp only[bE,cU,cL] at hc
  rcases hc with rfl | rfl | rfl | rfl | rfl
  ·exact⟨_,q1,λ v z=>nomatch z⟩
  ·exact⟨_,q2,λ v z=>nomatch z⟩
  ·exact⟨_,q3,λ v z=>nomatch z⟩
  ·exact⟨_,g4,λ v z=>by rw[d4] at z;cases z⟩
  ·exact⟨_,g5,λ v z=>by rw[d5] at z;cases z⟩
 keep:=λ i h h' q k=>by
  obtain⟨q1,q2,⟨u,v,q3⟩,q4,q5⟩:=q;exact⟨k _ (by simp) _ q1,k _ (by simp) _ q2,⟨u,v,k _ (by simp) _ q3⟩,cf q4 λ o g=>k _ (by simp) o g,cf q5 λ o g=>k _ (by simp) o g⟩
 item:=by
  intro X hP hw hK hc i pins s σ H E I hf st hg;subst hP hw hK;obtain⟨xs,ys,x,y,hq1,hq2,hx,hy⟩:=hg;obtain⟨q1,q2,⟨u,v,q3⟩,q4,q5⟩:=st;obtain⟨as,ra,pa,za⟩:=I.tuple hq1;obtain⟨bs,rb,pb,zb⟩:=I.tuple hq2;obtain⟨ux,hux,rux⟩:=ra.get hx;obtain⟨uy,huy,ruy⟩:=rb.get hy;refine Fw ap q1 q2 q3 q4 q5 (show s.heap.IsTuple a as.toArray from pa) (show s.heap.IsTuple b bs.toArray from pb) (x:=ux) (y:=uy) (by simpa using hux) (by simpa using huy) λ h' zz oo p1' p2' np bt=>?_
  have I1:Inv X pins σ H { s with heap:=h' }:=I.turnedL (t':=s.toks) (fl:=[z,ti,ox,j1,j2]) (λ c o hc e=>by
   simp only[bE,cU,cL,not_or] at hc
   exact bt c o hc.1 hc.2.2.1 hc.2.2.2.1 hc.2.2.2.2 e) hf
  obtain⟨f0,f1,f2,f3,f4,f5⟩:=I.fpOk (aJ s.heap.objs.size) (I.hok.fresh (aJ _))
  have n0:X.s₀.heap.get? s.heap.objs.size=none:=by
   cases q:X.s₀.heap.get? s.heap.objs.size with
   | none=>rfl
   | some o=>exact absurd (cD (br q) I.sz) (eV _)
  have I2:Inv X pins σ (upd H s.heap.objs.size (.tup [x,y])) { s with heap:=h' }:=I1.track f0 ⟨small (by simp),[ux,uy],.cons rux (.cons ruy .nil),⟨_,np,rfl,_,rfl⟩⟩ f1 f4 f5 n0;have lt:∀ {c o},s.heap.get? c=some o->c≠s.heap.objs.size:=λ e=>bM (br e);have hzT:z≠s.heap.objs.size:=lt q1;have ti2:IsPair h' ti (.ref j1) (.ref j2):=bt _ _ ap.ti_z ap.ti_ox ap.ti_j1 ap.ti_j2 q2;obtain⟨e0,e1,e2,e3,e4,e5⟩:=hf z (by simp);refine⟨_,rfl,xW zz λ h2 z2 sb=>?_⟩;have I3:Inv X pins σ (upd H s.heap.objs.size (.tup [x,y])) { s with heap:=h2 }:=Inv.turned (s:={ s with heap:=h' }) (h':=h2) (t':=s.toks) (it:=z) I2 (λ c o hc e=>sb.extBut _ _ hc e) (by rw[bo hzT];exact e0) e1 e3 e4 e5;refine⟨.ref s.heap.objs.size,_,I3,rfl,⟨_,x,y,rfl,f0,rfl,λ xs' ys' k1 k2=>?_⟩,⟨z2,sb.extBut _ _ ap.ti_z ti2,⟨_,_,sb.extBut _ _ ap.ox_z oo⟩,cf p1' λ o g=>sb.extBut _ _ ap.j1_z g,cf p2' λ o g=>sb.extBut _ _ ap.j2_z g⟩,λ c hc=>?_⟩
  ·rw[I.tuple_inj k1 hq1,I.tuple_inj k2 hq2];exact⟨hx,hy⟩
  ·have cT:c≠s.heap.objs.size:=by
    obtain⟨o4,g4,_⟩:=q4;obtain⟨o5,g5,_⟩:=q5;simp only[bE,cU,cL] at hc
    rcases hc with rfl | rfl | rfl | rfl | rfl
    ·exact hzT
    ·exact lt q2
    ·exact lt q3
    ·exact lt g4
    ·exact lt g5
   rw[bo cT];exact(hf c hc).1
 done:=by
  intro X hP hw hK hc i pins s σ H E I hf st hg;subst hP hw hK;obtain⟨xs,ys,hq1,hq2,hx⟩:=hg;obtain⟨q1,q2,⟨u,v,q3⟩,q4,q5⟩:=st;obtain⟨as,ra,pa,za⟩:=I.tuple hq1;obtain⟨bs,rb,pb,zb⟩:=I.tuple hq2;have la:=ra.length;have lb:=rb.length;refine Fx (I.ok.hd hc) ap q1 q2 q3 q4 q5 (show s.heap.IsTuple a as.toArray from pa) (show s.heap.IsTuple b bs.toArray from pb) (by rcases hx with q | q;exact .inl (by simp;lia);exact .inr (by simp;lia)) λ h' bt=>⟨rfl,?_⟩
  exact I.turnedL (t':=s.toks) (fl:=[z,ti,ox,j1,j2]) (λ c o hc e=>by
   simp only[bE,cU,cL,not_or] at hc
   exact bt c o hc.1 hc.2.2.1 hc.2.2.2.1 hc.2.2.2.2 e) hf
 self:=λ _ _ _ _ _ st h=>qu st.1 h
abbrev zt1(h:Heap)(a:Addr):Heap:=h.push { cls:=.type "tuple_iterator",data:=.fields #[.ref a,.int 0 0] }
abbrev zt2(h:Heap)(a b:Addr):Heap:=(zt1 h a).push { cls:=.type "tuple_iterator",data:=.fields #[.ref b,.int 0 0] }
abbrev zt3(h:Heap)(a b:Addr):Heap:=(zt2 h a b).push { cls:=.type "tuple",data:=.seq #[.ref h.objs.size,.ref (zt1 h a).objs.size] }
abbrev zt4(h:Heap)(a b:Addr):Heap:=(zt3 h a b).push { cls:=.type "tuple",data:=.seq #[.none,.none] }
noncomputable abbrev zt5(h:Heap)(a b:Addr):Heap:=(zt4 h a b).push { cls:=.type "zip",data:=.fields #[.none,.bool false,.bool false,.ref (zt2 h a b).objs.size,.ref (zt3 h a b).objs.size] }
theorem Fz(a b:Addr)(as bs:Array Value):Meets (Builtin.«zip.__new__» ⟨[.type "zip",.ref a,.ref b],[]⟩) (λ _ R s=>s.heap.IsTuple a as/\s.heap.IsTuple b bs/\R (.ok (.ret (.ref (zt4 s.heap a b).objs.size))) { s with heap:=zt5 s.heap a b }) :=
 .of_wp λ prog w A R s h=>by
  obtain⟨hp,g,d,tk,os⟩:=s;obtain⟨ha,hb,h⟩:=h;have q0:=sub_zip;have q1:Heap.IsTuple (Shared.heap ⟨hp,g,d,tk,os⟩) a as:=ha;have q2:Heap.IsTuple (Shared.heap ⟨hp.push { cls:=.type "tuple_iterator",data:=.fields #[.ref a,.int 0 0] },g,d,tk,os⟩) b bs:=fj hb λ o e=>bd _ e;wp_walk using iw q1,iw q2;exact⟨_,rfl,h⟩
theorem FA{s0:Shared}{R:VS}(ha:s0.heap.IsTuple a as)(hb:s0.heap.IsTuple b bs)
  (f:∀h',IsZip h' (s0.heap.objs.size+4) (s0.heap.objs.size+2) (s0.heap.objs.size+3) .none->IsPair h' (s0.heap.objs.size+2) (.ref s0.heap.objs.size) (.ref (s0.heap.objs.size+1))->IsPair h' (s0.heap.objs.size+3) .none .none ->
   h'.IsTupleIter s0.heap.objs.size a 0->h'.IsTupleIter (s0.heap.objs.size+1) b 0->(∀c o,s0.heap.get? c=some o->h'.get? c=some o)->R (.ref (s0.heap.objs.size+4)) { s0 with heap:=h' }) :
  wpAny (model pg wd) B (call (.type "zip") [.ref a,.ref b]) R X0 s0:=by
 refine qc F.called_zip (by decide) (F.typeCall_zip_2 _ _) (F.newCall_zip_2 _ _) (λ ob=>F.args_object_init_3 ob _ _) F.entry_zip_new (Fz a b as bs) ⟨ha,hb,?_⟩;have n1:(zt1 s0.heap a).objs.size=s0.heap.objs.size+1:=fh ..;have n2:(zt2 s0.heap a b).objs.size=s0.heap.objs.size+2:=by rw[fh,n1]
 have n3:(zt3 s0.heap a b).objs.size=s0.heap.objs.size+3:=by rw[fh,n2]
 have n4:(zt4 s0.heap a b).objs.size=s0.heap.objs.size+4:=by rw[fh,n3]
 have g5:(zt5 s0.heap a b).get? (zt4 s0.heap a b).objs.size=some _:=bG _ rfl;have g4:(zt5 s0.heap a b).get? (zt3 s0.heap a b).objs.size=some _:=bd _ (bG _ rfl);have g3:(zt5 s0.heap a b).get? (zt2 s0.heap a b).objs.size=some _:=bd _ (bd _ (bG _ rfl));have g2:(zt5 s0.heap a b).get? (zt1 s0.heap a).objs.size=some _:=bd _ (bd _ (bd _ (bG _ rfl)));have g1:(zt5 s0.heap a b).get? s0.heap.objs.size=some _:=bd _ (bd _ (bd _ (bd _ (bG _ rfl))));show _/\_;rw[n2,n3,n4] at g5;rw[n1,n2] at g3;rw[n3] at g4;rw[n1] at g2;rw[n4];exact⟨⟨_,g5,rfl⟩,f _ g5 g3 g4 ⟨_,g1,rfl,rfl⟩ ⟨_,g2,rfl,rfl⟩ λ c o q=>bd _ (bd _ (bd _ (bd _ (bd _ q))))⟩
theorem FB(n a b:Nat)(ha:a < n)(hb:b < n):Apart5 (n+4) (n+2) (n+3) n (n+1) a b:=by
 constructor<;>first | exact bM (by lia) | exact iY (by lia)
section
variable {X:Cx}{es:List Expr}{x1:Nat}{pp:Pos}
def qv(K:FG)(ta:TA):TI:=λ σ H R=>ta σ H λ vs H1=>∃a b xs ys,vs=[.ref a,.ref b]/\SqT K H1 a xs/\SqT K H1 b ys/\R (Itz K a b) H1
theorem qw{e1 e2:Expr}{p pos:Pos}(hg:Gl X "zip")(hm:X.mg "zip"=none)(ha:PA X [e1,e2] ta)(hs:starEach [e1,e2] X.env=[(false,eval e1 X.env),(false,eval e2 X.env)]:=by rfl)(hs2:starEach [e2] X.env=[(false,eval e2 X.env)]:=by rfl) :
  PI X (.Tuple es x1 pp) (.Call (.Name "zip" p) [e1,e2] [] pos) (qv X.K ta):=by
 intro pins s σ H R I h;have hA:=ha pos pins s σ H _ I h;refine Call_ (fQ I hg hm boot_zip (ix (thn hA λ us s1 ⟨vs,H1,I1,r1,q1⟩=>?_) (by rw[hs,hs2]) (by rw[hs2];rfl)));obtain⟨a,b,xs,ys,rfl,ha,hb,q⟩:=q1;obtain⟨u,u',rfl,ra,rb⟩:=lX r1;cases (show u=Value.ref a from ra);cases (show u'=Value.ref b from rb);obtain⟨as,va,pa,za⟩:=I1.tuple ha;obtain⟨bs,vb,pb,zb⟩:=I1.tuple hb;have al:a < s1.heap.objs.size:=by obtain⟨o,g,_⟩:=pa;exact br g
 have bl:b < s1.heap.objs.size:=by obtain⟨o,g,_⟩:=pb;exact br g
 refine FA (show s1.heap.IsTuple a as.toArray from pa) (show s1.heap.IsTuple b bs.toArray from pb) λ h' w1 w2 w3 w4 w5 kk=>?_;have I2:Inv X pins σ H1 { s1 with heap:=h' }:=I1.kept (t':=s1.toks) kk;have ap:=FB s1.heap.objs.size a b al bl;refine qu w1 ⟨s1.heap.objs.size+4,[s1.heap.objs.size+4,s1.heap.objs.size+2,s1.heap.objs.size+3,s1.heap.objs.size,s1.heap.objs.size+1],_,_,H1,rfl,I2,Fy ap,⟨w1,w2,⟨_,_,w3⟩,w4,w5⟩,λ c hc=>?_,q⟩
 have ge:s1.heap.objs.size≤c:=by
  simp only[bE,cU,cL] at hc
  rcases hc with rfl | rfl | rfl | rfl | rfl<;>lia
 exact I1.fpOk ge (I1.hok.fresh ge)
end
noncomputable def LoopZ(K:PySem.W.Frag)(g:TG)(tb:TS)(D:Ends)(σ:St)(vs:List V)(H1:Hp):Prop:=∃a b xs ys,vs=[.ref a,.ref b]/\SqT K H1 a xs/\SqT K H1 b ys/\∃W:Nat->Nat->St->Hp->Prop,(∃m,W 0 m σ H1)/\∀i m σ H,W i m σ H ->
 ((Itz K a b).stop i H/\D.nx σ H)\/((Itz K a b).go i H/\∃N:St->Hp->Prop,(∀σ' H',N σ' H'->∃m',m' < m/\W (i+1) m' σ' H')/\∀x H',(Itz K a b).yld i H x H'->g x σ H' λ σ2 H2=>tb { D with nx:=N,ct:=N,bk:=D.nx } σ2 H2)
theorem FC{K:FG}:jN (qv K ta) g tb D σ H=ta σ H λ vs H1=>LoopZ K g tb D σ vs H1:=rfl
theorem LoopZ.mk{K:FG}{xs ys:List V}{g:TG}{tb:TS}{D:Ends}(n:Nat)(hn:n=min xs.length ys.length)(h1:SqT K H a xs)(h2:SqT K H b ys)(Pv:Nat->St->Hp->Prop)(h0:Pv 0 σ H)(hl:∀i σ H,i≤n->Pv i σ H->SqT K H a xs/\SqT K H b ys)
  (hs:∀i x y σ H T,i < n->xs[i]?=some x->ys[i]?=some y->Pv i σ H->H T=none->g (.ref T) σ (upd H T (.tup [x,y])) λ σ2 H2=>tb { D with nx:=Pv (i+1),ct:=Pv (i+1),bk:=D.nx } σ2 H2) (hd:∀σ H,Pv n σ H->D.nx σ H) :
  LoopZ K g tb D σ [.ref a,.ref b] H:=by
 subst hn;refine⟨a,b,xs,ys,rfl,h1,h2,λ i m σ H=>m=min xs.length ys.length - i/\i≤min xs.length ys.length/\Pv i σ H,⟨_,rfl,bc _,h0⟩,?_⟩;rintro i m σ H ⟨rfl,hi,p⟩;obtain⟨k1,k2⟩:=hl i σ H hi p;by_cases hlt:i < min xs.length ys.length
 ·have l1:i < xs.length:=by lia
  have l2:i < ys.length:=by lia
  refine .inr ⟨⟨xs,ys,_,_,k1,k2,aX l1,aX l2⟩,Pv (i+1),λ σ' H' p'=>⟨min xs.length ys.length - (i+1),by lia,rfl,hlt,p'⟩,λ v H' yy=>?_⟩;obtain⟨T,x,y,rfl,hT,rfl,ex⟩:=yy;obtain⟨ex1,ex2⟩:=ex xs ys k1 k2;exact hs i x y σ H T hlt ex1 ex2 p hT
 ·have e:i=min xs.length ys.length:=by lia
  exact .inl ⟨⟨xs,ys,k1,k2,by lia⟩,hd σ H (e ▸ p)⟩
noncomputable def CompZ(K:PySem.W.Frag)(k:Nat)(js:List Nat)(g:TG)(te:TE)(σ:St)(vs:List V)(H1:Hp)(Q:VK):Prop:=∃a b xs ys,vs=[.ref a,.ref b]/\SqT K H1 a xs/\SqT K H1 b ys/\∃W:Nat->Nat->List V->St->Hp->Prop,(∃m,W 0 m [] (bU k js σ) H1)/\∀i m zs σ' H',W i m zs σ' H' ->
  ((Itz K a b).stop i H'/\∀p,H' p=none->Q (.ref p) (upd H' p (.lst zs))) \/
  ((Itz K a b).go i H'/\zs.length < sizeLine/\∃N:List V->St->Hp->Prop,(∀zs σ2 H2,N zs σ2 H2->∃m',m' < m/\W (i+1) m' zs σ2 H2)/\∀x H2,(Itz K a b).yld i H' x H2->g x σ' H2 λ σ3 H3=>te σ3 H3 λ v H4=>N (zs++[v]) σ3 H4)
theorem FD{K:FG}:gi (qv K ta) k js g te σ H Q=ta σ H λ vs H1=>CompZ K k js g te σ vs H1 Q:=rfl
theorem CompZ.mk{K:FG}{xs ys:List V}{g:TG}{te:TE}{Q:VK}(n:Nat)(hn:n=min xs.length ys.length)(h1:SqT K H a xs)(h2:SqT K H b ys)(Pv:Nat->List V->St->Hp->Prop)(h0:Pv 0 [] (bU k js σ) H)(hl:∀i zs σ H,i≤n->Pv i zs σ H->SqT K H a xs/\SqT K H b ys)
  (hs:∀i x y zs σ H T,i < n->xs[i]?=some x->ys[i]?=some y->Pv i zs σ H->H T=none->zs.length < sizeLine/\g (.ref T) σ (upd H T (.tup [x,y])) λ σ3 H3=>te σ3 H3 λ v H4=>Pv (i+1) (zs++[v]) σ3 H4) (hz:∀zs σ H,Pv n zs σ H->∀p,H p=none->Q (.ref p) (upd H p (.lst zs))) (hlen:∀i zs σ H,Pv i zs σ H->zs.length < sizeLine) :
  CompZ K k js g te σ [.ref a,.ref b] H Q:=by
 subst hn;refine⟨a,b,xs,ys,rfl,h1,h2,λ i m zs σ H=>m=min xs.length ys.length - i/\i≤min xs.length ys.length/\Pv i zs σ H,⟨_,rfl,bc _,h0⟩,?_⟩;rintro i m zs σ H ⟨rfl,hi,p⟩;obtain⟨k1,k2⟩:=hl i zs σ H hi p;by_cases hlt:i < min xs.length ys.length
 ·have l1:i < xs.length:=by lia
  have l2:i < ys.length:=by lia
  refine .inr ⟨⟨xs,ys,_,_,k1,k2,aX l1,aX l2⟩,hlen _ _ _ _ p,Pv (i+1),λ zs' σ' H' p'=>⟨min xs.length ys.length - (i+1),by lia,rfl,hlt,p'⟩,λ v H' yy=>?_⟩;obtain⟨T,x,y,rfl,hT,rfl,ex⟩:=yy;obtain⟨ex1,ex2⟩:=ex xs ys k1 k2;exact(hs i x y zs σ H T hlt ex1 ex2 p hT).2
 ·have e:i=min xs.length ys.length:=by lia
  exact .inl ⟨⟨xs,ys,k1,k2,by lia⟩,hz zs σ H (e ▸ p)⟩
section
variable {X:Cx}
theorem xX(hc:X.calm=true):db X (.builtin "sum") (λ xs H Q=>∃(a:Addr) (ns:LI),xs=[.ref a]/\SqL X.K H a (ns.map V.int)/\Q (.int ns.sum) H):=by
 intro pins s σ H xs us Q I r h;obtain⟨a,ns,rfl,hq,q⟩:=h;obtain⟨u,rfl,ru⟩:=dY r;cases (show u=Value.ref a from ru);obtain⟨its,rv,pl,hz⟩:=I.list hq;have hi:=pV rv;have hn:=hi.numsOf;obtain⟨ps,e⟩:=hi.allInts.items;have hl:s.heap.IsList a (intItems ps):=e ▸ pl.isList;refine sum_intListG (I.ok.hd hc) hl λ h' tk t' kk=>?_
 have e2:preSum (numAt ps) ps.size=ns.sum:=by
  rw[preSum_eq,fk (by simp),← nums_intItems,← e];exact dA List.sum hn
 rw[e2];exact⟨.int ns.sum,H,I.kept kk,⟨t',rfl⟩,q⟩
def Its(lo st:Int)(n:Nat):It:=⟨λ i _=>i < n,λ i H x H'=>H'=H/\x=.int (lo+i * st),λ i _=>n≤i⟩
end
noncomputable def LoopS(lo st:Int)(n:Nat)(g:TG)(tb:TS)(D:Ends)(σ:St)(H1:Hp):Prop:=∃W:Nat->Nat->St->Hp->Prop,(∃m,W 0 m σ H1)/\∀i m σ H,W i m σ H ->
 ((Its lo st n).stop i H/\D.nx σ H)\/((Its lo st n).go i H/\∃N:St->Hp->Prop,(∀σ' H',N σ' H'->∃m',m' < m/\W (i+1) m' σ' H')/\∀x H',(Its lo st n).yld i H x H'->g x σ H' λ σ2 H2=>tb { D with nx:=N,ct:=N,bk:=D.nx } σ2 H2)
theorem LoopS.mk{lo st:Int}{n:Nat}{g:TG}{tb:TS}{D:Ends}(Pv:Nat->St->Hp->Prop)(h0:Pv 0 σ H)
  (hs:∀i σ H,i < n->Pv i σ H->g (.int (lo+i * st)) σ H λ σ2 H2=>tb { D with nx:=Pv (i+1),ct:=Pv (i+1),bk:=D.nx } σ2 H2) (hd:∀σ H,Pv n σ H->D.nx σ H):LoopS lo st n g tb D σ H:=by
 refine⟨λ i m σ H=>m=n - i/\i≤n/\Pv i σ H,⟨_,rfl,bc _,h0⟩,?_⟩;rintro i m σ H ⟨rfl,hi,p⟩;by_cases hlt:i < n
 ·refine .inr ⟨hlt,Pv (i+1),λ σ' H' p'=>⟨n - (i+1),by lia,rfl,hlt,p'⟩,λ v H' yy=>?_⟩;obtain⟨rfl,rfl⟩:=yy;exact hs i σ _ hlt p
 ·have e:i=n:=by lia
  exact .inl ⟨(show n≤i by lia),hd σ H (e ▸ p)⟩
noncomputable def Na(lo st:Int)(n k:Nat)(js:List Nat)(g:TG)(te:TE)(σ:St)(H1:Hp)(Q:VK):Prop:=∃W:Nat->Nat->List V->St->Hp->Prop,(∃m,W 0 m [] (bU k js σ) H1)/\∀i m ys σ' H',W i m ys σ' H' ->
  ((Its lo st n).stop i H'/\∀p,H' p=none->Q (.ref p) (upd H' p (.lst ys))) \/
  ((Its lo st n).go i H'/\ys.length < sizeLine/\∃N:List V->St->Hp->Prop,(∀zs σ2 H2,N zs σ2 H2->∃m',m' < m/\W (i+1) m' zs σ2 H2)/\∀x H2,(Its lo st n).yld i H' x H2->g x σ' H2 λ σ3 H3=>te σ3 H3 λ v H4=>N (ys++[v]) σ3 H4)
open AutoSeq1 (wpAny_loadPart')
section
variable {X:Cx}
end
section
variable {X:Cx}
noncomputable def xY:R2:=λ x y H Q=>∃a b xs ys,x=.ref a/\y=.ref b/\H a=some (.tup xs)/\H b=some (.tup ys)/\xs.length+ys.length≤sizeLine/\∀r H',Same H H'->H' r=some (.tup (xs++ys))->Q (.ref r) H'
theorem dQ:OpR X (binaryOp .Add) xY:=by
 intro pins s σ H x y v u Q I rx ry h;obtain⟨a,b,xs,ys,rfl,rfl,ha,hb,hz,q⟩:=h;refine Fv pins s σ H _ _ v u Q I rx ry ⟨a,b,xs,ys,rfl,rfl,.of ha,.of hb,hz,λ e=>?_,λ _ e=>?_,λ _ _ p hp=>?_⟩
 ·subst e;exact q b H (Same.refl _) hb
 ·subst e;exact q a H (Same.refl _) (by rw[ag];exact ha)
 ·exact q p _ (af hp _) ar
noncomputable def xZ:V->Option Int->Option Int->Hp->VK->Prop:=λ x lo hi H Q=>∃a xs,x=.ref a/\H a=some (.tup xs)/\¬(HT.sIx xs.length 0 lo=0/\HT.sIx xs.length xs.length hi=xs.length)/\∀r H',Same H H'->H' r=some (.tup (de xs lo hi))->Q (.ref r) H'
theorem nX:SlR X xZ:=by
 intro pins s σ H x v vl vu lo hi sl Q I rx hs pl pu h;obtain⟨a,xs,e,ha,nw,q⟩:=h;exact Ek pins s σ H x v vl vu lo hi sl Q I rx hs pl pu ⟨a,xs,e,.of ha,nw,λ p hp=>q p _ (af hp _) ar⟩
end
theorem dg{names:List (Str × NameKind)}{cl:LA}(h:names.all (λ y=>match y.2 with | .cell=>(cl.lookup y.1).isSome | .free=>(cl.lookup y.1).isSome | _=>true)=true) :
  ∀x,(names.lookup x=some .cell\/names.lookup x=some .free)->∃c,cl.lookup x=some c:=by
 intro x hx;have z:=mq.mp h
 rcases hx with hx | hx
 ·exact kL.mp (z _ (cR hx))
 ·exact kL.mp (z _ (cR hx))
theorem eh(c0:Cap X scope cl x0 j0):∀(i:Nat) x j,[x0][i]?=some x->[j0][i]?=some j->Cap X scope cl x j
 | 0,_,_,h1,h2=>by cases h1;cases h2;exact c0
 | _+1,_,_,h1,_=>by cases h1
theorem nY(c0:Cap X scope cl x0 j0)(c1:Cap X scope cl x1 j1):∀(i:Nat) x j,[x0,x1][i]?=some x->[j0,j1][i]?=some j->Cap X scope cl x j
 | 0,_,_,h1,h2=>by cases h1;cases h2;exact c0
 | 1,_,_,h1,h2=>by cases h1;cases h2;exact c1
 | _+2,_,_,h1,_=>by cases h1
section
variable {prog:Program}{w:World}{A:Around}{R:Result->Shared->Prop}{s:Shared}
theorem FE{elt target iter cnd:Expr}{it acc:Value}(I:Nat->Shared->Prop)
  (turn:∀n s,I n s->wpAny (model prog w) A (pyNext it) (λ r s₁=>match r with
   | none=>R (.ok .next) s₁
   | some v=>wpAny (model prog w) A (letOwnedTupleGo target it v) (λ _ s₀=>wpAny (model prog w) A (assign target env v) (λ _ s₂=>wpAny (model prog w) A (isTrue cnd env (eval cnd env)) (λ b s₃ =>
     if b=true then wpAny (model prog w) A (eval elt env) (λ x s₄ =>
      wpAny (model prog w) A (call (.builtin "list.append") [acc,x]) (λ _ s₅=>∃m,m < n/\I m s₅) (λ _ _=>False) s₄) (λ _ _=>False) s₃
     else ∃m,m < n/\I m s₃)
     (λ _ _=>False) s₂) (λ _ _=>False) s₀) (λ _ _=>False) s₁) (λ _ _=>False) s)
  (n:Nat) (h:I n s) :
  codeAny (model prog w) A (.compLoop (.ListComp elt [⟨target,iter,[cnd],0⟩] scope pos) 0 it acc env) R s:=by
 refine codeAny_loop rfl I (λ n s hI=>?_) n h;show wpAny _ _ ((compTurn (.ListComp elt [⟨target,iter,[cnd],0⟩] scope pos) 0 it acc env).onRaise (λ x=>do noteFrame x env;theTreesLotGoes x)) _ _ s;refine wpAny_noted ?_;rw[compTurn_list];refine ak (kF (ak (dG (turn n s hI) (λ r s₁ h₁=>?_) λ _ _ h'=>h'.elim)))
 cases r with
 | none=>exact aK h₁
 | some v =>
  refine ak (dG h₁ (λ _ s₀ h₀=>?_) λ _ _ h'=>h'.elim);refine ak (dG h₀ (λ _ s₂ h₂=>?_) λ _ _ h'=>h'.elim);refine ak (dG (wpAny_tests_one h₂) (λ ok s₃ h₃=>?_) λ _ _ h'=>h'.elim)
  cases ok with
  | false=>exact aK ⟨rfl,h₃⟩
  | true=>exact ak (ak (dG h₃ (λ x s₄ h₄=>ak (dG h₄ (λ _ s₅ h₅=>aK (aK ⟨rfl,h₅⟩)) λ _ _ z=>z.elim)) λ _ _ z=>z.elim))
end
def yg(cnd:Expr):pZ:=λ p w A env k s=>wpAny (model p w) A (isTrue cnd env (eval cnd env)) k (λ _ _=>False) s
theorem FF{cnd:Expr}:sS [cnd] (yg cnd):=⟨λ I t n h=>FE I t n h,λ h m=>dG h m λ _ _ z=>z⟩
theorem pmI{X:Cx}(hx:X.xe=λ _ _=>False)(h:PT X cnd tc):PM X (yg cnd) tc:=λ pins s σ H K I k=>by
 have z:=h pins s σ H K I k;rw[hx] at z;exact z
theorem yh{X:Cx}{elt tg iter cnd:Expr}{own fv:List Str}{js:List Nat}
  (hc:X.calm=true) (hi:PI X tg iter wi) (hclos:closureFor scope X.env=pure cl) (hcell:∀y∈scope.names,y.2≠.cell) (hkind:scope.kind=.function)
  (hnames:∀y∈scope.names,y.2=.local->scope.names.lookup y.1=some .local)
  (hcl:∀x c,cl.lookup x=some c->X.env.cells.lookup x=some c)
  (hhas:∀x,((relabel scope X.env).names.lookup x=some .cell\/(relabel scope X.env).names.lookup x=some .free)->∃c,cl.lookup x=some c)
  (hlen:js.length=fv.length) (hcap:∀(i:Nat) x j,fv[i]?=some x->js[i]?=some j->Cap X scope cl x j)
  (hg:∀(C:Addr) (ex:List Addr) (s:Shared) (H:Hp),PG (cF X (own++fv) scope cl C ex s H) tg g)
  (he:∀(C:Addr) (ex:List Addr) (s:Shared) (H:Hp),PE (cF X (own++fv) scope cl C ex s H) elt te)
  (ht:∀(C:Addr) (ex:List Addr) (s:Shared) (H:Hp),PT (cF X (own++fv) scope cl C ex s H) cnd tc)
  (hs:∀x,foldedSetIterable iter X.env x=pure x)(I:Inv X pins σ H s) (h:gk wi own.length js g tc te σ H Q)
  (fin:∀(a C:Addr) (s5:Shared) (H5:Hp) (fl:Flow),Inv X pins σ H5 s5->H5 C=none->C≠X.env.locals->X.s₀.heap.objs.size≤C->(∀x c,X.env.cells.lookup x=some c->c≠C)->(∀p∈X.pn++pins,p.1≠C)->(∃m,s5.heap.Ns C m)->Q (.ref a) H5->compPost (model X.prog X.w) X.A X.xe use QQ (.ref a) C (.ok fl) s5) :
  wpAny (model X.prog X.w) X.A (comprehension (.ListComp elt [⟨tg,iter,[cnd],0⟩] scope pos) scope X.env fpos (newList []) false (firstIter [⟨tg,iter,[cnd],0⟩] X.env) use) QQ X.xe s :=
 xo hc hi hclos hcell hkind hnames hcl hhas hlen hcap hg he (λ C ex s H=>pmI rfl (ht C ex s H)) FF hs I h fin
theorem FH{X:Cx}{elt tg iter cnd:Expr}{own fv:List Str}{js:List Nat}
  (hc:X.calm=true) (hi:PI X tg iter wi) (hclos:closureFor scope X.env=pure cl) (hcell:∀y∈scope.names,y.2≠.cell) (hkind:scope.kind=.function)
  (hnames:∀y∈scope.names,y.2=.local->scope.names.lookup y.1=some .local)
  (hcl:∀x c,cl.lookup x=some c->X.env.cells.lookup x=some c)
  (hhas:∀x,((relabel scope X.env).names.lookup x=some .cell\/(relabel scope X.env).names.lookup x=some .free)->∃c,cl.lookup x=some c)
  (hlen:js.length=fv.length) (hcap:∀(i:Nat) x j,fv[i]?=some x->js[i]?=some j->Cap X scope cl x j)
  (hg:∀(C:Addr) (ex:List Addr) (s:Shared) (H:Hp),PG (cF X (own++fv) scope cl C ex s H) tg g)
  (he:∀(C:Addr) (ex:List Addr) (s:Shared) (H:Hp),PE (cF X (own++fv) scope cl C ex s H) elt te)
  (ht:∀(C:Addr) (ex:List Addr) (s:Shared) (H:Hp),PT (cF X (own++fv) scope cl C ex s H) cnd tc)
  (hs:∀x,foldedSetIterable iter X.env x=pure x:=by intro _;rfl) :
  PE X (.ListComp elt [⟨tg,iter,[cnd],0⟩] scope pos) (gk wi own.length js g tc te):=by
 intro pins s σ H Q I h;rw[eval_ListComp];refine yh (use:=none) (QQ:=EP X pins σ Q) hc hi hclos hcell hkind hnames hcl hhas hlen hcap hg he ht hs I h λ a C s5 H5 fl I5 zC zL zS zc zp ⟨m,hn⟩ q=>⟨m,hn,λ h' sc=>?_⟩;exact⟨.ref a,H5,I5.turned (t':=s5.toks) (it:=C) (λ d o nd e=>sc.extBut d o nd e) zC zL (.inr zS) zc zp,rfl,q⟩
theorem FI{B:Around}(hh:B.handled=none)(j t:Addr)(ne:t≠j)(as:Array Value):Draws pg wd B j [j,t] as.size (λ i v=>as[i]?=some v) (λ i h=>h.IsTupleIter j t i/\h.IsTuple t as) where
 live:=λ _ _ q=>let ⟨o,g,_⟩:=q.1;⟨o,g⟩
 frame:=λ _ _ _ q k=>⟨cf q.1 λ o g=>k j (by simp) o g,fj q.2 λ o g=>k t (by simp) o g⟩
 item:=λ i s R X0 hi q f=>kW q.1 q.2 (x:=as[i]) (by simp[hi]) λ m p sb=>f _ m s.toks (by simp[hi]) ⟨p,fj q.2 λ o g=>sb.extBut _ _ ne g⟩ sb
 done:=λ s R X0 q f=>nV hh q.1 q.2 (by simp) f
section
variable {pg:Program}{wd:World}{B:Around}{X0:VS}{s0:Shared}
theorem FJ{R:Option Value->Shared->Prop}(hh:B.handled=none)(hz:IsEnum s0.heap z j n u)(p:s0.heap.IsTupleIter j t i)(q:s0.heap.IsTuple t as)(ex:as[i]?=none)
  (f:∀m,Heap.ExtBut j s0.heap m->R none { s0 with heap:=m }):wpAny (model pg wd) B (pyNext (.ref z)) R X0 s0:=by
 have ty:s0.TypeIs (.ref z) "enumerate" := ⟨_,hz,rfl⟩;unfold pyNext;refine ak (jf (gZ (name:=Str.ofString "__next__") ty yi (fT yi ty F.entry_enumerate_next ?_ (F.args_enumerate_next_1 _))));show wpAny _ _ (field (.ref z) 2 >>= _) _ _ _;refine ak (ck hz rfl (x:=.ref j) rfl ?_);refine ak (nV hh p q ex λ m w xb hw=>?_);obtain⟨ow,gw,cw⟩:=hw;exact ak (kU (T := "StopIteration") (b:=true) ⟨ow,gw,cw⟩ qf (aK (f _ xb)))
theorem FK(t:Addr)(as:Array Value)(n:Nat)(dc:OA)(sl:AV) :
  Meets (Builtin.«enumerate.__new__» ⟨[.type "enumerate",.ref t],[]⟩) (λ _ R s=>s.heap.get? t=some { cls:=.type "tuple",dict:=dc,data:=.seq as n,slots:=sl } /\
   R (.ok (.ret (.ref (s.heap.push { cls:=.type "tuple_iterator",data:=.fields #[.ref t,.int 0 0] }).objs.size))) { s with heap:=(s.heap.push { cls:=.type "tuple_iterator",data:=.fields #[.ref t,.int 0 0] }).push { cls:=.type "enumerate",data:=.fields #[.none,.bool false,.ref s.heap.objs.size,rawInt 0,.none,.none] } }) :=
 .of_wp λ pg wd A R s h=>by
  obtain⟨hp,g,d,tk,os⟩:=s;obtain⟨ht,h⟩:=h;have q0:=sub_enumerate;have q1:Heap.IsTuple (Shared.heap ⟨hp,g,d,tk,os⟩) t as:=⟨_,ht,rfl,n,rfl⟩;wp_walk using qy ht;refine wpAny_stack_any λ stk=>aK ?_;split
  ·rename_i c _ _ _ _ _;cases (c == Value.type "enumerate")<;>(wp_walk using qy ht,iw q1)<;>exact⟨_,rfl,h⟩
  ·wp_walk using qy ht,iw q1;exact⟨_,rfl,h⟩
theorem FL{R:VS}(q:s0.heap.IsTuple t as)
  (f:∀m,IsEnum m (s0.heap.objs.size+1) s0.heap.objs.size 0 .none->m.IsTupleIter s0.heap.objs.size t 0->(∀c o,s0.heap.get? c=some o->m.get? c=some o)->R (.ref (s0.heap.objs.size+1)) { s0 with heap:=m }) :
  wpAny (model pg wd) B (call (.type "enumerate") [.ref t]) R X0 s0:=by
 obtain⟨⟨c,dc,dt,sl⟩,ht,hc,n,hd⟩:=q;cases (show c=.type "tuple" from hc);cases (show dt=.seq as n from hd);refine qc F.called_enumerate (by decide) (F.typeCall_enumerate_1 _) (F.newCall_enumerate_1 _) (λ ob=>qd ob _) F.entry_enumerate_new (FK t as n dc sl) ⟨ht,?_⟩;have n1:(s0.heap.push { cls:=.type "tuple_iterator",data:=.fields #[.ref t,.int 0 0] }).objs.size=s0.heap.objs.size+1:=fh ..;show _/\_;have g2:=bG (s0.heap.push { cls:=.type "tuple_iterator",data:=.fields #[.ref t,.int 0 0] }) (o:={ cls:=.type "enumerate",data:=.fields #[.none,.bool false,.ref s0.heap.objs.size,rawInt 0,.none,.none] }) rfl;rw[n1] at g2 ⊢;exact⟨⟨_,g2,rfl⟩,f _ g2 ⟨_,bd _ (bG _ rfl),rfl,rfl⟩ λ c o z=>bd _ (bd _ z)⟩
end
noncomputable def Ite(K:FG)(a:Addr):It:=⟨λ i H=>∃xs x,SqT K H a xs/\xs[i]?=some x,
 λ i H v H'=>∃T x,v=.ref T/\H T=none/\H'=upd H T (.tup [.int i,x])/\∀xs,SqT K H a xs->xs[i]?=some x,λ i H=>∃xs,SqT K H a xs/\xs.length≤i⟩
theorem FM{K:FG}{a z j:Addr}(zj:z≠j) :
  Turn P w K (.Tuple es x1 pp) (Ite K a) [z,j] z (λ i h=>(∃u,IsEnum h z j i u)/\h.IsTupleIter j a i) where
 mem:=by simp
 obj:=λ i h q c hc=>by
  obtain⟨⟨u,q1⟩,⟨o4,g4,_,d4⟩⟩:=q;simp only[bE,cU,cL] at hc
  rcases hc with rfl | rfl
  ·exact⟨_,q1,λ v y=>nomatch y⟩
  ·exact⟨_,g4,λ v y=>by rw[d4] at y;cases y⟩
 keep:=λ i h h' q k=>by
  obtain⟨⟨u,q1⟩,q4⟩:=q;exact⟨⟨u,k _ (by simp) _ q1⟩,cf q4 λ o g=>k _ (by simp) o g⟩
 item:=by
  intro X hP hw hK hc i pins s σ H E I hf st hg;subst hP hw hK;obtain⟨xs,x,hq,hx⟩:=hg;obtain⟨⟨u,q1⟩,q4⟩:=st;obtain⟨as,ra,pa,za⟩:=I.tuple hq;obtain⟨ux,hux,rux⟩:=ra.get hx;have ta:s.heap.IsTuple a as.toArray:=pa;have az:a≠z:=by rintro rfl;obtain⟨o,g,c,_⟩:=ta;rw[q1] at g;cases g;simp at c
  have aj:a≠j:=by rintro rfl;obtain⟨o,g,c,_⟩:=ta;obtain⟨o4,g4,c4,_⟩:=q4;rw[g4] at g;cases g;rw[c4] at c;simp at c
  have il:i < as.toArray.size:=by simpa using (bv.mp hux).1
  refine wpAny_pyNext_enum_itemD (FI (B:=X.A.in1) (I.ok.hd hc) j a aj as.toArray) q1 ⟨q4,ta⟩ il zj (by simp only[bE,cU,cL,not_or];exact⟨zj,az.symm⟩) λ y m tk hy zo st' np sz bt=>?_;have yu:y=ux:=by simp only[tD] at hy;rw[hux] at hy;exact(cz hy).symm
  subst yu
  have I1:Inv X pins σ H { s with heap:=m,toks:=tk+1 }:=I.turnedL (t':=tk+1) (fl:=[z,j]) (λ c o hc e=>by
   simp only[bE,cU,cL,not_or] at hc
   exact bt c o hc.1 hc.2 e) hf
  obtain⟨f0,f1,f2,f3,f4,f5⟩:=I.fpOk (aJ s.heap.objs.size) (I.hok.fresh (aJ _))
  have n0:X.s₀.heap.get? s.heap.objs.size=none:=by
   cases q:X.s₀.heap.get? s.heap.objs.size with
   | none=>rfl
   | some o=>exact absurd (cD (br q) I.sz) (eV _)
  have I2:Inv X pins σ (upd H s.heap.objs.size (.tup [.int i,x])) { s with heap:=m,toks:=tk+1 }:=I1.track f0 ⟨small (by simp),[.int i tk,y],.cons (show RelV (V.int i) (Value.int i tk) from ⟨_,rfl⟩) (.cons rux .nil),⟨_,np,rfl,_,rfl⟩⟩ f1 f4 f5 n0;have lt:∀ {c o},s.heap.get? c=some o->c≠s.heap.objs.size:=λ e=>bM (br e);have zT:z≠s.heap.objs.size:=lt q1;obtain⟨e0,e1,e2,e3,e4,e5⟩:=hf z (by simp);refine⟨_,rfl,wpAny_letOwnedTupleGo_enum zo λ h2 z2 sb=>?_⟩;have I3:Inv X pins σ (upd H s.heap.objs.size (.tup [.int i,x])) { s with heap:=h2,toks:=tk+1 }:=Inv.turned (s:={ s with heap:=m,toks:=tk+1 }) (h':=h2) (t':=tk+1) (it:=z) I2 (λ c o hc e=>sb.extBut _ _ hc e) (by rw[bo zT];exact e0) e1 e3 e4 e5;refine⟨.ref s.heap.objs.size,_,I3,rfl,⟨_,x,rfl,f0,rfl,λ xs' k1=>?_⟩,⟨⟨_,by simpa using z2⟩,cf st'.1 λ o g=>sb.extBut _ _ zj.symm g⟩,λ c hc=>?_⟩
  ·rw[I.tuple_inj k1 hq];exact hx
  ·have cT:c≠s.heap.objs.size:=by
    obtain⟨o4,g4,_⟩:=q4;simp only[bE,cU,cL] at hc
    rcases hc with rfl | rfl
    ·exact zT
    ·exact lt g4
   rw[bo cT];exact(hf c hc).1
 done:=by
  intro X hP hw hK hc i pins s σ H E I hf st hg;subst hP hw hK;obtain⟨xs,hq,hx⟩:=hg;obtain⟨⟨u,q1⟩,q4⟩:=st;obtain⟨as,ra,pa,za⟩:=I.tuple hq;have la:=ra.length;refine FJ (I.ok.hd hc) q1 q4 (show s.heap.IsTuple a as.toArray from pa) (by simp;lia) λ m bt=>⟨rfl,?_⟩
  exact I.turnedL (t':=s.toks) (fl:=[z,j]) (λ c o hc e=>by
   simp only[bE,cU,cL,not_or] at hc
   exact bt c o hc.2 e) hf
 self:=λ _ _ _ _ _ st h=>let ⟨⟨_,q1⟩,_⟩:=st;wpAny_pyIter_enum q1 h
section
variable {X:Cx}{es:List Expr}{x1:Nat}{pp:Pos}
def qz(K:FG)(te:TE):TI:=λ σ H R=>te σ H λ v H1=>∃a xs,v=.ref a/\SqT K H1 a xs/\R (Ite K a) H1
theorem FN{p pos:Pos}(hg:Gl X "enumerate")(hm:X.mg "enumerate"=none)(he:PE X e te)(hs:starEach [e] X.env=[(false,eval e X.env)]:=by rfl) :
  PI X (.Tuple es x1 pp) (.Call (.Name "enumerate" p) [e] [] pos) (qz X.K te):=by
 intro pins s σ H R I h;have hA:=(aE he (bK (X:=X)) hs) pos pins s σ H (λ vs H1=>match vs with | [x]=>∃a xs,x=.ref a/\SqT X.K H1 a xs/\R (Ite X.K a) H1 | _=>False) I h;refine Call_ (fQ I hg hm boot_enumerate (ix (thn hA λ us s1 ⟨vs,H1,I1,r1,q1⟩=>?_) hs rfl))
 match vs,q1 with
 | [x],⟨a,xs,e,hq,q⟩ =>
  subst e;obtain⟨u,rfl,ru⟩:=dY r1;cases (show u=Value.ref a from ru);obtain⟨as,va,pa,za⟩:=I1.tuple hq;refine FL (show s1.heap.IsTuple a as.toArray from pa) λ m w1 w2 kk=>?_;have I2:Inv X pins σ H1 { s1 with heap:=m }:=I1.kept (t':=s1.toks) kk;refine wpAny_pyIter_enum w1 ⟨s1.heap.objs.size+1,[s1.heap.objs.size+1,s1.heap.objs.size],_,_,H1,rfl,I2,FM (Nat.succ_ne_self _),⟨⟨_,w1⟩,w2⟩,λ c hc=>?_,q⟩
  have ge:s1.heap.objs.size≤c:=by
   simp only[bE,cU,cL] at hc
   rcases hc with rfl | rfl<;>lia
  exact I1.fpOk ge (I1.hok.fresh ge)
end
noncomputable def CompE(K:PySem.W.Frag)(k:Nat)(js:List Nat)(g:TG)(te:TE)(σ:St)(v:V)(H1:Hp)(Q:VK):Prop:=∃a xs,v=.ref a/\SqT K H1 a xs/\∃W:Nat->Nat->List V->St->Hp->Prop,(∃m,W 0 m [] (bU k js σ) H1)/\∀i m zs σ' H',W i m zs σ' H' ->
  ((Ite K a).stop i H'/\∀p,H' p=none->Q (.ref p) (upd H' p (.lst zs))) \/
  ((Ite K a).go i H'/\zs.length < sizeLine/\∃N:List V->St->Hp->Prop,(∀zs σ2 H2,N zs σ2 H2->∃m',m' < m/\W (i+1) m' zs σ2 H2)/\∀x H2,(Ite K a).yld i H' x H2->g x σ' H2 λ σ3 H3=>te σ3 H3 λ v H4=>N (zs++[v]) σ3 H4)
theorem FO{K:FG}:gi (qz K tx) k js g te σ H Q=tx σ H λ v H1=>CompE K k js g te σ v H1 Q:=rfl
theorem CompE.mk{K:FG}{g:TG}{te:TE}{Q:VK}(h1:SqT K H a xs)(Pv:Nat->List V->St->Hp->Prop)(h0:Pv 0 [] (bU k js σ) H)(hl:∀i zs σ H,i≤xs.length->Pv i zs σ H->SqT K H a xs/\zs.length < sizeLine)
  (hs:∀i x zs σ H T,xs[i]?=some x->Pv i zs σ H->H T=none->g (.ref T) σ (upd H T (.tup [.int i,x])) λ σ3 H3=>te σ3 H3 λ v H4=>Pv (i+1) (zs++[v]) σ3 H4) (hz:∀zs σ H,Pv xs.length zs σ H->∀p,H p=none->Q (.ref p) (upd H p (.lst zs))) :
  CompE K k js g te σ (.ref a) H Q:=by
 refine⟨a,xs,rfl,h1,λ i m zs σ H=>m=xs.length - i/\i≤xs.length/\Pv i zs σ H,⟨_,rfl,bc _,h0⟩,?_⟩;rintro i m zs σ H ⟨rfl,hi,p⟩;obtain⟨k1,k2⟩:=hl i zs σ H hi p;by_cases hlt:i < xs.length
 ·refine .inr ⟨⟨xs,_,k1,aX hlt⟩,k2,Pv (i+1),λ zs' σ' H' p'=>⟨xs.length - (i+1),by lia,rfl,hlt,p'⟩,λ v H' yy=>?_⟩;obtain⟨T,x,rfl,hT,rfl,ex⟩:=yy;exact hs i x zs σ H T (ex xs k1) p hT
 ·have e:i=xs.length:=by lia
  exact .inl ⟨⟨xs,k1,by lia⟩,hz zs σ H (e ▸ p)⟩
noncomputable def FP(K:PySem.W.Frag)(k:Nat)(js:List Nat)(g:TG)(tc:TT)(te:TE)(σ:St)(v:V)(H1:Hp)(Q:VK):Prop:=∃a xs,v=.ref a/\SqT K H1 a xs/\∃W:Nat->Nat->List V->St->Hp->Prop,(∃m,W 0 m [] (bU k js σ) H1)/\∀i m zs σ' H',W i m zs σ' H' ->
  ((Ite K a).stop i H'/\∀p,H' p=none->Q (.ref p) (upd H' p (.lst zs))) \/
  ((Ite K a).go i H'/\zs.length < sizeLine/\∃N:List V->St->Hp->Prop,(∀zs σ2 H2,N zs σ2 H2->∃m',m' < m/\W (i+1) m' zs σ2 H2)/\∀x H2,(Ite K a).yld i H' x H2->g x σ' H2 λ σ3 H3=>tc σ3 H3 λ b H4=>if b=true then te σ3 H4 λ v H5=>N (zs++[v]) σ3 H5 else N zs σ3 H4)
theorem FQ{K:FG}:gk (qz K tx) k js g tc te σ H Q=tx σ H λ v H1=>FP K k js g tc te σ v H1 Q:=rfl
end L2
namespace L2
open PySem PySem.Spec PyProof.Rows PySem.W PySem.Calls
noncomputable def tH(K:FG):List (Addr × TS)->Value->(TS->Prop)->Prop
 | [],_,_=>False
 | (C,ts)::r,c,k=>(W.exmOne K c (.ref C)=some true/\k ts)\/(W.exmOne K c (.ref C)=some false/\tH K r c k)
def yj(K:FG)(cs:List (Addr × TS))(D:Ends):St->XK:=λ σ1 c _ H1=>tH K cs c λ ts=>ts D σ1 H1
def FR(K:FG)(cs:List (Addr × TS))(tb:(St->XK)->TS):TS:=λ D σ H=>tb (yj K cs D) D σ H
inductive Clauses (X:Cx):List ExceptHandler->List (Addr × TS)->Prop
 | nil:Clauses X [] []
 | cons {x:Str}{C:Addr}{b₀:Stmt}{suite:List Stmt}{np hpos:Pos}{ts:TS}{r:List ExceptHandler}{tr:List (Addr × TS)}(hg:Gl X x) (hn:W.nsIn X.K mainGlobals x=some (some (.ref C)))
   (hs:∀(a:Addr) (pn:LO),PSs (X.suite a pn) (b₀::suite) ts) (hr:Clauses X r tr) (hd:(x == ("__debug__" : Str))=false):Clauses X (.ExceptHandler (some (.Name x np)) none (b₀::suite) hpos::r) ((C,ts)::tr)
def FS(i j:Int):Prop:=0 < j/\j < 1606938044258990275541962092341162602522202993782792835301376
section
variable {X:Cx}
def tI(K:FG):R2:=λ x y H Q=>∃a b xs ys,x=.ref a/\y=.ref b/\SqT K H a xs/\SqT K H b ys/\xs.all bZ=true/\ys.all bZ=true/\Q (.bl (!fH xs ys)) H
theorem qA(hu:X.A.units < cLine):OpR X (compareOp .NotEq) (tI X.K):=by
 intro pins s σ H x y v u Q I rx ry h;obtain⟨a,b,xs,ys,rfl,rfl,ha,hb,f1,f2,q⟩:=h;cases rx;cases ry;obtain⟨us,r1,p1,_⟩:=I.tuple ha;obtain⟨ws,r2,p2,_⟩:=I.tuple hb;refine s0b (show s.heap.IsTuple a us.toArray from p1) (show s.heap.IsTuple b ws.toArray from p2) (e:=gp xs ys) hu (tE r1 r2 f1 f2) _ _ _ _ ?_;have e1:us.toArray.size=xs.length:=by simp[r1.length]
 have e2:ws.toArray.size=ys.length:=by simp[r2.length]
 rw[e1,e2]
 have z:((List.range (min xs.length ys.length)).all (gp xs ys) && xs.length == ys.length)=fH xs ys:=by
  by_cases hl:xs.length=ys.length
  ·rw[← hl,jj,qm hl];simp
  ·rw[qk hl];simp[hl]
 rw[z];exact⟨.bl _,H,I,rfl,q⟩
def yk(K:FG):R2:=λ x y H Q=>∃a b xs ys,x=.ref a/\y=.ref b/\SqL K H a xs/\SqL K H b ys/\xs.all bZ=true/\ys.all bZ=true/\Q (.bl (!fH xs ys)) H
theorem FT(hu:X.A.units < cLine):OpR X (compareOp .NotEq) (yk X.K):=by
 intro pins s σ H x y v u Q I rx ry h;obtain⟨a,b,xs,ys,rfl,rfl,ha,hb,f1,f2,q⟩:=h;cases rx;cases ry;obtain⟨us,r1,p1,_⟩:=I.list ha;obtain⟨ws,r2,p2,_⟩:=I.list hb;by_cases hl:xs.length=ys.length
 ·refine s0q p1.isList p2.isList (e:=gp xs ys) (by simp[← r1.length,← r2.length,hl]) hu (tE r1 r2 f1 f2) _ _ _ _ ?_;have e:us.toArray.size=xs.length:=by simp[r1.length]
  rw[e,qm hl];exact⟨.bl _,H,I,rfl,q⟩
 ·refine SeqAt.RcNeAt.lists_lengths p1.isList p2.isList (by simp[← r1.length,← r2.length,hl]) hu _ _ _ _ ?_;rw[qk hl] at q;exact⟨.bl _,H,I,rfl,q⟩
end
theorem dh{cells:LA}(h:cells.lookup y=some a):∀x c,[(y,a)].lookup x=some c->cells.lookup x=some c:=λ x c e=>by
 cases bL.mp (cR e);exact h
theorem dk{cells:LA}(h:cells.lookup y=some a)(h2:cells.lookup z=some b):∀x c,[(y,a),(z,b)].lookup x=some c->cells.lookup x=some c:=λ x c e=>by
 rcases bE.mp (cR e) with q | q
 ·cases q;exact h
 ·cases bL.mp q;exact h2
end L2
namespace HT
open PySem PySem.Spec PyProof.Rows L2
theorem whole_tup{s:Shared}{lo hi:Option Int}{R:VS}(ht:IsTup s.heap t its)(hs:s.heap.IsSliceOf sl vl vu .none)(pl:IsPart vl lo)(pu:IsPart vu hi)
  (h0:sIx its.size 0 lo=0) (h1:sIx its.size its.size hi=its.size) (h:R (.ref t) s):wpAny (model prog w) A (getItem (.ref t) (.ref sl)) R E s:=by
 obtain⟨os,hos,hcs,hds⟩:=id hs;have hTs:s.TypeIs (.ref sl) "slice" := ⟨os,hos,hcs⟩;unfold getItem;try with_reducible refine gD ?_
 first | refine ak (aK ?_) | skip
 refine ak (wpAny_sequenceKey ht.typeIs (by decide) ?_);refine ak (gZ (name:=Str.ofString "__getitem__") ht.typeIs pU (fT pU ht.typeIs wN ?_ (s0l _ _)));show wpAny _ _ (Builtin.Tuple.tupleItemsOf (.ref t) >>= _) _ _ s;refine ak (tupleItemsOf_ ht ?_);refine ak (kM hTs ?_);rw[if_pos (by decide)];refine ak (wM hs pl pu ?_);show wpAny _ _ (if (((sIx its.size 0 lo:Nat):Int) == 0 && (1:Int) == 1 && (sIx its.size its.size hi - sIx its.size 0 lo) == its.size)=true then _ else _) _ _ s;rw[if_pos (by rw[h0,h1];simp)];unfold Builtin.Tuple.tupleIsExact;exact ak (ak (kM ht.typeIs (aK (ak (jg (aK ⟨_,rfl,aK h⟩))))))
end HT
namespace L2
open PySem PySem.Spec PyProof.Rows
section
variable {X:Cx}
noncomputable def ym:V->Option Int->Option Int->Hp->VK->Prop:=λ x lo hi H Q=>∃a xs,x=.ref a/\H a=some (.tup xs)/\∀r H',Same H H'->H' r=some (.tup (de xs lo hi))->Q (.ref r) H'
theorem cN:SlR X ym:=by
 intro pins s σ H x v vl vu lo hi sl Q I rx hs pl pu h;obtain⟨a,xs,rfl,ha,q⟩:=h;by_cases c:HT.sIx xs.length 0 lo=0/\HT.sIx xs.length xs.length hi=xs.length
 ·cases rx;obtain⟨its,r,ht,hz⟩:=I.tuple (show SqT X.K H a xs from .of ha);have hlen:its.toArray.size=xs.length:=by rw[bN];exact r.length.symm
  refine⟨"tuple",_,PyProof.Rows.slot_tuple_getitem.lookup,ht.typeIs,HT.whole_tup ht hs pl pu (by rw[hlen];exact c.1) (by rw[hlen];exact c.2) ⟨.ref a,H,I,rfl,q a H (Same.refl _) ?_⟩⟩;unfold de;rw[c.1,c.2,qB,Nat.sub_zero,cx];exact ha
 ·exact nX pins s σ H _ v vl vu lo hi sl Q I rx hs pl pu ⟨a,xs,rfl,ha,c,q⟩
end
theorem FU{X:Cx}{elt tg iter cnd:Expr}{scope:Scope}
  (hc:X.calm=true) (hi:PI X tg iter wi) (hcell:∀y∈scope.names,y.2≠.cell) (hfree:∀y∈scope.names,y.2≠.free) (hkind:scope.kind=.function)
  (hnames:∀y∈scope.names,y.2=.local->scope.names.lookup y.1=some .local)
  (hg:∀(C:Addr) (ex:List Addr) (s:Shared) (H:Hp),PG (cF X own scope [] C ex s H) tg g)
  (he:∀(C:Addr) (ex:List Addr) (s:Shared) (H:Hp),PE (cF X own scope [] C ex s H) elt te)
  (ht:∀(C:Addr) (ex:List Addr) (s:Shared) (H:Hp),PT (cF X own scope [] C ex s H) cnd tc)
  (hs:∀x,foldedSetIterable iter X.env x=pure x:=by intro _;rfl) :
  PE X (.ListComp elt [⟨tg,iter,[cnd],0⟩] scope pos) (gk wi own.length [] g tc te):=by
 refine FH (own:=own) (fv:=[]) (js:=[]) (cl:=[]) hc hi (sV hfree) hcell hkind hnames (λ x c h=>by cases h) (λ x h=>?_) rfl (λ i x j h=>by simp at h) (by simpa using hg) (by simpa using he) (by simpa using ht) hs;rw[sU hfree] at h
 rcases h with h | h
 ·exact absurd rfl (hcell _ (cR h))
 ·exact absurd rfl (hfree _ (cR h))
theorem FV:typeLookup (.type "reversed") "__len__"=pure none:=by rw[iy,iz];kernel_rfl
theorem FW:typeLookup (.type "reversed") "__length_hint__"=pure (some (.builtin "reversed.__length_hint__")):=by rw[iy,iz];kernel_rfl
theorem FX{B:Around}(hh:B.handled=none)(I t:Addr)(hne:t≠I)(its:Array Value)(hz:(its.size:Int) < 2 ^ 63) :
  Walks pg wd B I [I,t] [I] its.size (λ i v=>its[its.size - 1 - i]?=some v) (λ i h=>i≤its.size/\IsRv h I t ((its.size:Int) - 1 - (i:Int))/\IsTup h t its) where
 sub:=λ b hb=>by simp at hb;simp[hb]
 frame:=λ _ _ _ st k=>⟨st.1,let ⟨o,g,r⟩:=st.2.1;⟨o,k I (by simp) o g,r⟩,let ⟨o,g,r⟩:=st.2.2;⟨o,k t (by simp) o g,r⟩⟩
 item:=λ i s R X0 hi st f=>by
  obtain⟨_,q1,q2⟩:=st;have e:(its.size:Int) - 1 - (i:Int)=((its.size - 1 - i:Nat):Int):=by lia
  rw[e] at q1;have hx:its[its.size - 1 - i]?=some (its[its.size - 1 - i]'(by lia)):=qj (by lia);refine xH q1 q2 hx hz λ m tk q sb=>f _ m tk hx ⟨hi,?_,?_⟩ λ b o nb g=>sb.extBut b o (by simpa using nb) g
  ·have e2:((its.size - 1 - i:Nat):Int) - 1=(its.size:Int) - 1 - ((i+1:Nat):Int):=by lia
   rw[e2] at q;exact q
  ·obtain⟨o,g,r⟩:=q2;exact⟨o,sb.extBut _ _ hne g,r⟩
 done:=λ s R X0 st f=>by
  obtain⟨_,q1,q2⟩:=st;have e:(its.size:Int) - 1 - (its.size:Int)=-1:=by lia
  rw[e] at q1;exact xJ hh q1 λ m tk eb=>f m tk λ b o nb g=>eb b o (by simpa using nb) g
 self:=λ _ _ _ _ st h=>sZ st.2.1 h
theorem FY(v:Value):bindSpecial (.builtin "reversed.__length_hint__") v=pure (.builtin "reversed.__length_hint__",[v]):=by
 unfold bindSpecial;rw[show typeOf (.builtin "reversed.__length_hint__")=pure (.type "method_descriptor") by show builtinType _=_;rw[builtinType_eq_fast];kernel_rfl];rfl
theorem FZ:Slot "reversed" "__length_hint__" "reversed.__length_hint__" := .of (owner := "reversed") (n := "__length_hint__") (by rw[iy,iz];kernel_rfl) (by decide +kernel) (by decide +kernel) (by decide +kernel) (.inr (by decide +kernel)) (by rw[kS];kernel_rfl)
theorem Ga:entryFor table "reversed.__length_hint__"=some Builtin.«reversed.__length_hint__»:=entryFor_of_tree (by kernel_rfl)
theorem Gb(a:Value):argsOk "reversed.__length_hint__" ⟨[a],[]⟩:=by unfold argsOk;kernel_rfl
theorem Gc{R:VS}{z:Shared}{its:Array Value}(q1:IsRv z.heap J t ((its.size:Int) - 1))(q2:IsTup z.heap t its)(hz:(its.size:Int) < 2 ^ 63)
  (f:∀u tk,z.toks≤tk->R (.int its.size u) { z with toks:=tk }):wpAny (model pg wd) B (call (.builtin "reversed.__length_hint__") [.ref J]) R X0 z:=by
 obtain⟨o,ho,hc,hd⟩:=id q1;refine fT FZ q1.typeIs Ga ?_ (Gb _);show wpAny _ _ (field (.ref J) 0 >>= _) _ _ z;refine ak (ck ho hd (x:=.ref t) rfl ?_);show wpAny _ _ (if (Value.ref t == Value.none)=true then _ else _) _ _ z;rw[if_neg (show ¬((Value.ref t == Value.none)=true) from cI)];show wpAny _ _ (call (.builtin "len") [.ref t] >>= _) _ _ z;refine ak (s0m q2 hz ?_);refine ak (m:=asInt? _) (aK ?_);show wpAny _ _ (field (.ref J) 1 >>= _) _ _ _;refine ak (ck ho hd (x:=rawInt ((its.size:Int) - 1)) rfl ?_);show wpAny _ _ (if (its.size:Int) < (its.size:Int) - 1+1 then _ else retInt ((its.size:Int) - 1+1)) _ _ _;rw[if_neg (by lia),show(its.size:Int) - 1+1=its.size by lia];exact ak (wpAny_mkInt (aK ⟨_,rfl,f _ _ (by show z.toks≤z.toks+1+1+1;lia)⟩))
section
variable {pg:Program}{wd:World}{B:Around}{X0:VS}{s0:Shared}{J:Addr}{fs ws:List Addr}{Gg:Array GenState->Array GenState->Prop}{m:Nat}{Pr:Nat->Value->Prop}{Sx:Nat->Shared->Prop}
theorem Gd{R:LV->Shared->Prop}(hint:∀(z:Shared) (R':VS) (E':VS),Sx 0 z->(∀u tk,z.toks≤tk->R' (.int m u) { z with toks:=tk })->wpAny (model pg wd) B.in1 (call (.builtin "reversed.__length_hint__") [.ref J]) R' E' z)(wk:WalksS pg wd B.in1 J fs ws Gg m Pr Sx)(ty:∀j z,Sx j z->z.TypeIs (.ref J) "reversed")(z0:Sx 0 s0)(lt:∀b∈fs,b < s0.heap.objs.size)(mJ:J∈fs)(sm:m≤sizeLine)
  (fin:∀z' ac,Moved ws Gg s0 z'->ItemsOf Pr ac m->R ac.toList z'):wpAny (model pg wd) B (collect (.ref J)) R X0 s0:=by
 have out:s0.heap.objs.size ∉ fs:=λ q=>absurd (lt _ q) (eV _);have neJ:s0.heap.objs.size≠J:=by rintro rfl;exact out mJ
 let nu:Obj:={ cls:=.type "list",data:=.seq ([]:LV).toArray }
 unfold collect;refine ak (wpAny_runValue (jh xM ?_));rw[ji xN _];show wpAny _ B.in1 (newList [] >>= λ q=>again (.builtin "list.__iadd__" ⟨[q,.ref J],[]⟩)) _ _ s0;refine ak (fb ?_);refine aK ⟨hE qh _,jh F.entry_list_iadd ?_⟩;rw[ji qh _];have z1:=wk.frame 0 s0 (s0.heap.push nu) s0.toks z0 (aJ _) λ b _ o e=>bd _ e;have at1:(s0.heap.push nu).get? s0.heap.objs.size=some nu:=bG _ rfl;have dif:Builtin.List.listSameRef (.ref s0.heap.objs.size) (.ref J)=false:=by simp[Builtin.List.listSameRef,neJ]
 show wpAny _ B.in1 (Builtin.List.listExtendWith (.ref s0.heap.objs.size) (.ref J) (.ref s0.heap.objs.size)) _ _ _;unfold Builtin.List.listExtendWith;refine ak (kM (ty 0 _ z1) ?_);rw[if_neg (by rw[dif];decide)];refine ak (wk.self 0 _ _ _ z1 ?_);refine ak (gD ?_);unfold Builtin.List.listLengthHint;refine ak (jX (ty 0 _ z1) FV ?_);show wpAny _ B.in1 (specialOf (Value.ref J) (Str.ofString "__length_hint__") >>= _) _ _ _;refine ak (jX (ty 0 _ z1) FW ?_)
 (generalize hid:("reversed.__length_hint__" : String)=id0;wp_delta;rw[show splitId id0=some ("reversed","__length_hint__") from by subst hid;decide +kernel];subst hid)
 refine ak (kU (b:=true) (ty 0 _ z1) (by rw[kS];kernel_rfl) ?_);rw[if_neg (by decide)];dsimp only;rw[if_neg (by decide +kernel)];refine ak (jg ?_);refine ak (gM (FY _) ?_);dsimp only;refine ak (jf (hint _ _ _ z1 λ u tk htk=>?_));have z2:=wk.frame 0 _ _ tk z1 htk λ b _ o e=>e;have l63:=qg;have fi:Builtin.List.listFitsIndex (m:Int)=true:=by simp[Builtin.List.listFitsIndex];lia
 have tl:Builtin.List.listTooLong (m:Int).toNat=false:=by simp[Builtin.List.listTooLong];lia
 generalize hk:(m:Int)=kk at fi tl ⊢;show wpAny _ B.in1 (asInt? (.int kk u) >>= _) _ _ _;refine ak (m:=asInt? (.int kk u)) (aK ?_);dsimp only;rw[if_neg (by rw[fi];decide)];try dsimp only
 rw[if_neg (by lia)];try dsimp only
 rw[if_neg (by rw[tl];decide)];refine aK ?_;by_cases m0:m=0
 ·rw[if_neg (by subst m0;subst hk;decide +kernel)];refine aK ⟨hE tj _,tm wk sm _ out _ m 0 _ _ _ rfl (bc _) z2 at1 (s1h Pr) λ z' ac cc mv at2 its=>?_⟩;show wpAny _ B (load s0.heap.objs.size >>= _) _ _ z';exact ak (s0x at2 (aK (fin z' ac (tz (o:=nu) (tk:=tk) mv htk) its)))
 ·rw[if_pos (by simp;left;lia)];refine ak (jg ?_);refine ak ?_;show wpAny _ B.in1 (updateSeq s0.heap.objs.size (·.push .none) >>= λ _=>updateSeq s0.heap.objs.size (·.pop)) _ _ _;refine ak (mx at1 rfl ?_);have a2:=ja (Obj.mapSeq (·.push Value.none)) at1 rfl;refine mx a2 rfl ?_;have a3:=ja (Obj.mapSeq (·.pop)) a2 rfl
  have oth:∀b o,b≠s0.heap.objs.size->(s0.heap.push nu).get? b=some o->(((s0.heap.push nu).update s0.heap.objs.size (Obj.mapSeq (·.push Value.none))).update s0.heap.objs.size (Obj.mapSeq (·.pop))).get? b=some o :=
   λ b o hb e=>(gH _ _ (cY hb)).trans ((gH _ _ (cY hb)).trans e)
  refine aK ⟨hE tj _,tm wk sm _ out _ m 0 _ _ _ rfl (bc _)
   (wk.frame 0 ({ s0 with heap:=s0.heap.push nu,toks:=tk }:Shared) _ tk z2 (aJ _) λ b hb o e=>oth b o (λ q=>out (q ▸ hb)) e) a3 (s1h Pr) λ z' ac cc mv at2 its=>?_⟩
  show wpAny _ B (load s0.heap.objs.size >>= _) _ _ z';refine ak (s0x at2 ?_);refine aK (fin z' ac (tz (o:=nu) (tk:=tk) (Moved.trans wk.gtrans ((Moved.refl wk.grefl).then_heap (aJ _) λ b o hb e=>?_) mv) htk) its);exact oth b o (λ q=>hb (q ▸ bF)) e
theorem Ge{R:VS}(hint:∀(z:Shared) (R':VS) (E':VS),Sx 0 z->(∀u tk,z.toks≤tk->R' (.int m u) { z with toks:=tk })->wpAny (model pg wd) B.in1.in1 (call (.builtin "reversed.__length_hint__") [.ref J]) R' E' z)(wk:WalksS pg wd B.in1.in1 J fs ws Gg m Pr Sx)(ty:∀j z,Sx j z->z.TypeIs (.ref J) "reversed")(z0:Sx 0 s0)(lt:∀b∈fs,b < s0.heap.objs.size)(mJ:J∈fs)(sm:m≤sizeLine)
  (fin:∀z' ac,Moved ws Gg s0 z'->ItemsOf Pr ac m->R (.ref z'.heap.objs.size) { z' with heap:=z'.heap.push { cls:=.type "tuple",data:=.seq ac } }) :
  codeAny (model pg wd) B (.call (.builtin "tuple.__new__") ⟨[.type "tuple",.ref J],[]⟩) (wants R X0) s0:=by
 refine codeAny_of_tree ?_;show wpAny _ B.in1 (do checkBuiltinCall "tuple.__new__" ⟨[.type "tuple",.ref J],[]⟩;again (.builtin "tuple.__new__" ⟨[.type "tuple",.ref J],[]⟩)) _ _ s0;refine ak (gM (F.newCall_tuple_1 _) (aK ⟨hE qi _,jh F.entry_tuple_new ?_⟩));rw[ji qi _];have q1:=sub_tuple_self;have q2:=init_tuple_lookup;have q3:=madeHere_tuple;have q4:=ty 0 s0 z0;wp_walk using kM q4,Gd (sm:=sm) hint wk ty z0 lt mJ;intro z' ac mv its;show wpAny _ _ (Builtin.Tuple.tupleExact ac.toList.toArray >>= λ q=>ret q) _ _ _;have e:ac.toList.toArray=ac:=by simp
 rw[e];unfold Builtin.Tuple.tupleExact;exact ak (fb (aK (fin z' ac mv its)) (by show ac.size≤sizeLine;rw[its.1];exact sm))
theorem Gf{R:VS}(hint:∀(z:Shared) (R':VS) (E':VS),Sx 0 z->(∀u tk,z.toks≤tk->R' (.int m u) { z with toks:=tk })->wpAny (model pg wd) B.in1.in1.in1 (call (.builtin "reversed.__length_hint__") [.ref J]) R' E' z)(wk:WalksS pg wd B.in1.in1.in1 J fs ws Gg m Pr Sx)(ty:∀j z,Sx j z->z.TypeIs (.ref J) "reversed")(z0:Sx 0 s0)(lt:∀b∈fs,b < s0.heap.objs.size)(mJ:J∈fs)(sm:m≤sizeLine)
  (fin:∀z' ac,Moved ws Gg s0 z'->ItemsOf Pr ac m->R (.ref z'.heap.objs.size) { z' with heap:=z'.heap.push { cls:=.type "tuple",data:=.seq ac } }) :
  wpAny (model pg wd) B (call (.type "tuple") [.ref J]) R X0 s0 :=
 callType_codes (Q₁:=λ ob z=>z.TypeIs ob "tuple" /\ R ob z) F.called_tuple (s0p _) s0a
  (Ge (sm:=sm) hint wk ty z0 lt mJ λ z' ac mv its=>⟨⟨_,bG _ rfl,rfl⟩,fin z' ac mv its⟩)
  λ ob z q=>⟨q.1,qd ob _,object_init_meets F.called_tuple.init.lookup F.called_tuple.made (by decide) pg wd B.in1 _ z ⟨q.1,rfl,q.2⟩⟩
end
section
variable {X:Cx}
def yn(K:FG)(te:TE):TE:=λ σ H Q=>te σ H λ x H1=>∃a xs,x=.ref a/\SqT K H1 a xs/\∀p,H1 p=none->Q (.ref p) (upd H1 p (.tup xs.reverse))
theorem Gh{p1 p2 pos pos':Pos}(hc:X.calm=true)(ht:Gl X "tuple")(hr:Gl X "reversed")(mt:X.mg "tuple"=none)(mr:X.mg "reversed"=none)(he:PE X e te)(hs:starEach [e] X.env=[(false,eval e X.env)]:=by rfl) :
  PE X (.Call (.Name "tuple" p1) [.Call (.Name "reversed" p2) [e] [] pos'] [] pos) (yn X.K te):=by
 intro pins s σ H Q I h;refine Call_ (fQ I ht mt cJ (ix ?_ rfl rfl));refine sx ?_;have hA:=(aE he (bK (X:=X)) hs) pos' pins s σ H (λ vs H1=>match vs with | [x]=>∃a xs,x=.ref a/\SqT X.K H1 a xs/\∀p,H1 p=none->Q (.ref p) (upd H1 p (.tup xs.reverse)) | _=>False) I h;refine Call_ (fQ I hr mr s0o (ix (thn hA λ us s1 ⟨vs,H1,I1,r1,q1⟩=>?_) hs rfl))
 match vs,q1 with
 | [x],⟨a,xs,e,hq,q⟩ =>
  subst e;obtain⟨u,rfl,ru⟩:=dY r1;cases (show u=Value.ref a from ru);obtain⟨its,rv,pl,hz⟩:=I1.tuple hq;have hl:=rv.length;have z63:=qg;refine xG pl (by simp;lia) λ tk=>?_;refine sw ?_;have I2:Inv X pins σ H1 { s1 with heap:=s1.heap.push (jW a ((its.toArray.size:Int) - 1)),toks:=tk }:=I1.kept (t':=tk) λ b o e=>bd _ e;have al:a < s1.heap.objs.size:=by obtain⟨o,ho,_⟩:=pl;exact br ho
  have hne:a≠s1.heap.objs.size:=bM al
  have ir:IsRv (s1.heap.push (jW a ((its.toArray.size:Int) - 1))) s1.heap.objs.size a ((its.toArray.size:Int) - 1 - ((0:Nat):Int)):=by
   refine⟨_,bG _ rfl,rfl,?_⟩;have e:(its.toArray.size:Int) - 1 - ((0:Nat):Int)=(its.toArray.size:Int) - 1:=by lia
   rw[e];rfl
  have sz:(s1.heap.push (jW a ((its.toArray.size:Int) - 1))).objs.size=s1.heap.objs.size+1:=by simp[Heap.push]
  have ff:=I1.fpOk (aJ s1.heap.objs.size) (I1.hok.fresh (aJ _))
  refine Gf (m:=its.toArray.size) (Sx:=_) (λ z R' E' q f=>Gc (its:=its.toArray) (by have:=q.2.1;rw[show(its.toArray.size:Int) - 1 - ((0:Nat):Int)=(its.toArray.size:Int) - 1 by lia] at this;exact this) q.2.2 (by simp;lia) f) (FX (B:=X.A.in1.in1.in1) (I.ok.hd hc) s1.heap.objs.size a hne its.toArray (by simp;lia)).toS (λ j z q=>let ⟨o,ho,hk,_⟩:=q.2.1;⟨o,ho,hk⟩)
   ⟨bc _,ir,let ⟨o,g,r⟩:=pl;⟨o,bd _ g,r⟩⟩ (λ b hb=>?_) (bF ..) (by simp only[bN];lia) λ z' ac mv io=>?_
  ·show b < (s1.heap.push (jW a ((its.toArray.size:Int) - 1))).objs.size;rw[sz];simp only[bE,cU,cL] at hb
   rcases hb with rfl | rfl
   ·exact kN _
   ·exact fG al
  have I3:Inv X pins σ H1 z':=by
   obtain⟨zh,zg,zd,zt,zo⟩:=z';have e1:zg=s1.gens:=mv.gens;have e2:zd=s1.drawn:=mv.drawn;have e3:zo=s1.os:=mv.os;subst e1 e2 e3;obtain⟨f0,f1,f2,f3,f4,f5⟩:=ff;exact I1.turned (t':=zt) (λ b o hb e=>mv.heap b o (by simpa using hb) (bd _ e)) f0 f1 f3 f4 f5
  have er:ac=its.reverse.toArray:=by
   have sz2:ac.size=its.length:=by simpa using io.1
   apply Array.ext
   ·simp[sz2]
   ·intro j h1 h2;have q:=io.2 j _ (qj h1);simp only[bN,tD] at q;have q2:its.reverse[j]?=some ac[j]:=by rw[nU (by lia)];exact q
    rw[xQ];exact(cz ((aX (by simpa using h2)).symm.trans q2)).symm
  subst er
  have I4:Inv X pins σ (upd H1 z'.heap.objs.size (.tup xs.reverse)) { z' with heap:=z'.heap.push { cls:=.type "tuple",data:=.seq its.reverse.toArray } } :=
   I3.laid (t':=z'.toks) (λ b o e=>bd _ e) (aJ _) (show ObjOk X.prog X.w _ _ _ (.tup xs.reverse) from ⟨by simpa using hz,its.reverse,rv.reverse,lZ _ _⟩)
  exact⟨.ref z'.heap.objs.size,_,I4,rfl,q _ (I3.hok.fresh (aJ _))⟩
end
section
variable {X:Cx}
def Gi(to:TE):TE:=λ σ H Q=>to σ H λ x H1=>∃l xs y,x=.ref l/\H1 l=some (.lst xs)/\xs[xs.length - 1]?=some y/\Q y (upd H1 l (.lst xs.dropLast))
end
def okS(k:Nat)(x:Str):Prop:=x.length≤k/\∀c∈x.cps.toList,c < 1000
section
variable {X:Cx}
end
noncomputable def tJ(K:FG)(a:Addr):It:=⟨λ i H=>∃xs x,SqL K H a xs/\xs[i]?=some x,
 λ i H v H'=>∃T x,v=.ref T/\H T=none/\H'=upd H T (.tup [.int i,x])/\∀xs,SqL K H a xs->xs[i]?=some x,λ i H=>∃xs,SqL K H a xs/\xs.length≤i⟩
section
variable {X:Cx}{es:List Expr}{x1:Nat}{pp:Pos}
end
noncomputable def Nb(K:PySem.W.Frag)(g:TG)(tb:TS)(D:Ends)(σ:St)(v:V)(H1:Hp):Prop:=∃a xs,v=.ref a/\SqL K H1 a xs/\∃W:Nat->Nat->St->Hp->Prop,(∃m,W 0 m σ H1)/\∀i m σ H,W i m σ H ->
 ((tJ K a).stop i H/\D.nx σ H)\/((tJ K a).go i H/\∃N:St->Hp->Prop,(∀σ' H',N σ' H'->∃m',m' < m/\W (i+1) m' σ' H')/\∀x H',(tJ K a).yld i H x H'->g x σ H' λ σ2 H2=>tb { D with nx:=N,ct:=N,bk:=D.nx } σ2 H2)
theorem Gj{x j pos}(hr:PA X es t):PA X (.Constant (.str x) j pos::es) (kK (tC (.str x)) t):=aE aO hr rfl
def yo(l:List (Str × Pos)):List Expr:=l.map λ p=>.Constant (.str p.1) 0 p.2
def yp(l:List Str):TA:=λ _ H Q=>Q (l.map V.str) H
theorem yq:∀l:List (Str × Pos),PA X (yo l) (yp (l.map (·.1)))
 | []=>bK
 | _::l=>Gj (yq l)
instance (k:Nat)(x:Str):Decidable (okS k x):=by unfold okS;infer_instance
def Itx(x:Str):It:=⟨λ i _=>i < x.cps.size,λ i H v H'=>H'=H/\∃c,x.cps[i]?=some c/\v=.str ⟨#[c]⟩,λ i _=>x.cps.size≤i⟩
section
variable {X:Cx}{tg:Expr}
end
noncomputable def Nc(g:TG)(tb:TS)(D:Ends)(σ:St)(v:V)(H1:Hp):Prop:=∃z,v=.str z/\∃W:Nat->Nat->St->Hp->Prop,(∃m,W 0 m σ H1)/\∀i m σ H,W i m σ H ->
 ((Itx z).stop i H/\D.nx σ H)\/((Itx z).go i H/\∃N:St->Hp->Prop,(∀σ' H',N σ' H'->∃m',m' < m/\W (i+1) m' σ' H')/\∀x H',(Itx z).yld i H x H'->g x σ H' λ σ2 H2=>tb { D with nx:=N,ct:=N,bk:=D.nx } σ2 H2)
noncomputable def Nd(k:Nat)(js:List Nat)(g:TG)(te:TE)(σ:St)(v:V)(H1:Hp)(Q:VK):Prop:=∃z,v=.str z/\∃W:Nat->Nat->List V->St->Hp->Prop,(∃m,W 0 m [] (bU k js σ) H1)/\∀i m ys σ' H',W i m ys σ' H' ->
  ((Itx z).stop i H'/\∀p,H' p=none->Q (.ref p) (upd H' p (.lst ys))) \/
  ((Itx z).go i H'/\ys.length < sizeLine/\∃N:List V->St->Hp->Prop,(∀zs σ2 H2,N zs σ2 H2->∃m',m' < m/\W (i+1) m' zs σ2 H2)/\∀x H2,(Itx z).yld i H' x H2->g x σ' H2 λ σ3 H3=>te σ3 H3 λ v H4=>N (ys++[v]) σ3 H4)
section
variable {X:Cx}
end
section
variable {X:Cx}
end
section
variable {pg:Program}{wd:World}{B:Around}{X0:VS}{s0:Shared}
end
noncomputable def my(K:FG)(a b:Addr):It:=⟨λ i H=>∃xs ys x y,SqL K H a xs/\SqL K H b ys/\xs[i]?=some x/\ys[i]?=some y,
 λ i H v H'=>∃T x y,v=.ref T/\H T=none/\H'=upd H T (.tup [x,y])/\∀xs ys,SqL K H a xs->SqL K H b ys->xs[i]?=some x/\ys[i]?=some y,λ i H=>∃xs ys,SqL K H a xs/\SqL K H b ys/\(xs.length≤i\/ys.length≤i)⟩
section
variable {X:Cx}{es:List Expr}{x1:Nat}{pp:Pos}
end
noncomputable def Nf(K:PySem.W.Frag)(g:TG)(tb:TS)(D:Ends)(σ:St)(vs:List V)(H1:Hp):Prop:=∃a b xs ys,vs=[.ref a,.ref b]/\SqL K H1 a xs/\SqL K H1 b ys/\∃W:Nat->Nat->St->Hp->Prop,(∃m,W 0 m σ H1)/\∀i m σ H,W i m σ H ->
 ((my K a b).stop i H/\D.nx σ H)\/((my K a b).go i H/\∃N:St->Hp->Prop,(∀σ' H',N σ' H'->∃m',m' < m/\W (i+1) m' σ' H')/\∀x H',(my K a b).yld i H x H'->g x σ H' λ σ2 H2=>tb { D with nx:=N,ct:=N,bk:=D.nx } σ2 H2)
noncomputable def Ng(K:PySem.W.Frag)(k:Nat)(js:List Nat)(g:TG)(te:TE)(σ:St)(vs:List V)(H1:Hp)(Q:VK):Prop:=∃a b xs ys,vs=[.ref a,.ref b]/\SqL K H1 a xs/\SqL K H1 b ys/\∃W:Nat->Nat->List V->St->Hp->Prop,(∃m,W 0 m [] (bU k js σ) H1)/\∀i m zs σ' H',W i m zs σ' H' ->
  ((my K a b).stop i H'/\∀p,H' p=none->Q (.ref p) (upd H' p (.lst zs))) \/
  ((my K a b).go i H'/\zs.length < sizeLine/\∃N:List V->St->Hp->Prop,(∀zs σ2 H2,N zs σ2 H2->∃m',m' < m/\W (i+1) m' zs σ2 H2)/\∀x H2,(my K a b).yld i H' x H2->g x σ' H2 λ σ3 H3=>te σ3 H3 λ v H4=>N (zs++[v]) σ3 H4)
end L2
namespace L2
open PySem PySem.Spec PyProof.Rows PySem.W PySem.Calls
def Gk(i j:Int):Prop:=IntMulOk i j
section
variable {prog:Program}{w:World}{A:Around}{E:VS}{s:Shared}
theorem yr{l:Addr}{T:String}{vs:LV}{Q:VS}(hT:T="list" \/ T="tuple")(ho:s.heap.get? l=some o)(hc:o.cls=.type T)(hd:o.data=.seq vs.toArray n)(hI:IntsAre vs ns)(h64:vs.length < 64)
  (h:∀(h1 h2:Heap) (vs':LV) (ns':LI) (e:Nat),(∀b u,s.heap.get? b=some u->h1.get? b=some u)->(∀b u,h1.get? b=some u->h2.get? b=some u)->h2.get? h1.objs.size=some (seqObj "list" vs'.toArray e)->IntsAre vs' ns'->ns'.Perm ns->ns'.Pairwise (·≤·)->Q (.ref h1.objs.size) { s with heap:=h2 }) :
  wpAny (model prog w) A (call (.builtin "sorted") [.ref l]) Q E s:=by
 refine Calls.call_function_entry kind_sorted plain_sorted entry_sorted (args_sorted1 _) ?_;unfold Builtin.«sorted»;refine ak (m:=checkCount "sorted" 1 1 _) (aK ?_);refine ak (wpAny_collect_seq l hT ho hc hd (λ h1 k1=>?_) (by simp only[bN];exact fP (bD (by lia))));rw[show vs.toArray.toList=vs by simp];refine ak (wpAny_newList ?_);have hoL:(h1.push (seqObj "list" vs.toArray 0)).get? h1.objs.size=some (seqObj "list" vs.toArray 0):=bG _ rfl;refine ak (gD (fT slot_list_sort ⟨_,hoL,rfl⟩ entry_list_sort (list_sort_tree hoL hI h64 λ out ns' a1 a2 a3=>⟨_,rfl,?_⟩) (args_list_sort _)));refine aK ⟨_,rfl,?_⟩;obtain⟨e,he⟩:=sortedHeap_at (vs:=vs) (out:=out) hoL;refine h h1 _ out.toList ns' e k1 (λ b u q=>?_) (by rw[yt];exact he) a1 a2 a3;have hlt:=br q;rw[sortedHeap_old (bM hlt) (by rw[size_push'];exact fG hlt)];exact bd _ q
end
theorem yv:∀ {xs:List V}{us:LV},xs.length=us.length->(∀(i:Nat) u,us[i]?=some u->∃x,xs[i]?=some x/\RelV x u)->Vals xs us
 | [],[],_,_=>.nil
 | [],_::_,h,_=>by simp at h
 | _::_,[],h,_=>by simp at h
 | x::xs,u::us,h,f=>by
  obtain⟨y,e,r⟩:=f 0 u rfl;cases (cz e);exact .cons r (yv (by simpa using h) λ i v e=>f (i+1) v e)
section
variable {X:Cx}
theorem Gm:db X (.builtin "sorted") (λ xs H Q=>∃p ns,xs=[.ref p]/\(SqL X.K H p (List.map V.int ns)\/SqT X.K H p (List.map V.int ns))/\ns.length < 64/\∀ns':LI,ns'.Perm ns->ns'.Pairwise (·≤·)->∀l,H l=none->Q (.ref l) (upd H l (.lst (ns'.map V.int)))):=by
 intro pins s σ H xs us Q I r h;obtain⟨p,ns,rfl,hq,h64,q⟩:=h;obtain⟨u,rfl,rx⟩:=dY r;cases rx
 have fin:∀(h1 h2:Heap) (vs':LV) (ns':LI) (e:Nat),(∀b u,s.heap.get? b=some u->h1.get? b=some u)->(∀b u,h1.get? b=some u->h2.get? b=some u)->h2.get? h1.objs.size=some (seqObj "list" vs'.toArray e)->IntsAre vs' ns'->ns'.Perm ns->ns'.Pairwise (·≤·)->EP X pins σ Q (.ref h1.objs.size) { s with heap:=h2 }:=by
  intro h1 h2 vs' ns' e k1 k2 g a1 a2 a3;have I1:Inv X pins σ H { s with heap:=h1 }:=I.kept (t':=s.toks) k1;have hz:(ns'.map V.int).length≤sizeLine:=by rw[aA,a2.length_eq];exact fP (bD (by lia))
  have I2:Inv X pins σ (upd H h1.objs.size (.lst (ns'.map V.int))) { s with heap:=h2 }:=I1.laid (t':=s.toks) k2 (aJ _) (show ObjOk X.prog X.w _ _ _ (.lst (ns'.map V.int)) from ⟨hz,vs',e,sR a1,g⟩);exact⟨.ref h1.objs.size,_,I2,rfl,q ns' a2 a3 _ (I1.hok.fresh (aJ _))⟩
 rcases hq with hq | hq
 ·obtain⟨its,r',pl,hz⟩:=I.list hq;have hi:=pV r';obtain⟨o,ho,hc,n,hd⟩:=pl.isList;exact yr (.inl rfl) ho hc hd hi (by rw[hi.length];exact h64) fin
 ·obtain⟨its,r',pl,hz⟩:=I.tuple hq;have hi:=pV r';obtain⟨o,ho,hc,n,hd⟩:=pl;exact yr (.inr rfl) ho hc hd hi (by rw[hi.length];exact h64) fin
theorem tK:db X (.type "range") (λ xs H Q=>∃j:Int,xs=[.int j]/\∀r,H r=none->Q (.ref r) (upd H r (.rng 0 j))):=by
 intro pins s σ H xs us Q I r h;obtain⟨j,rfl,q⟩:=h;obtain⟨u,rfl,t,rfl⟩:=dY r;refine call_range_1 ⟨.ref s.heap.objs.size,_,I.laid (λ b o e=>bd _ e) (aJ _) ?_,rfl,q _ (I.hok.fresh (aJ _))⟩;exact⟨_,_,_,bG _ rfl⟩
def upL(n:Nat):LI:=(List.range n).map λ(i:Nat)=>(i:Int)
theorem tL(hc:X.calm=true):db X (.type "list") (λ xs H Q=>∃p n,xs=[.ref p]/\H p=some (.rng 0 (Int.ofNat n))/\n≤1000/\∀l,H l=none->Q (.ref l) (upd H l (.lst ((upL n).map V.int)))):=by
 intro pins s σ H xs us Q I r h;obtain⟨p,n,rfl,hp,hn,q⟩:=h;obtain⟨u,rfl,rx⟩:=dY r;cases rx;obtain⟨t,u,v,e⟩:=I.hok p _ hp
 have hs:Builtin.Range.small 0 (Int.ofNat n) 1=true:=by
  have z:∀m:Fin 1001,Builtin.Range.small 0 (Int.ofNat m.val) 1=true:=by decide +kernel
  exact z ⟨n,by lia⟩
 have hsz:Builtin.Range.rangeSize 0 (Int.ofNat n) 1=n:=by
  unfold Builtin.Range.rangeSize;rw[if_pos (by decide)];split
  ·show(Int.ofNat n - 0 - 1) / 1+1=_;simp; 
  ·simp at *;lia
 refine call_list_range (I.ok.hd hc) e hs hsz (by lia) λ h' tk acc' c' k g it=>?_
 have rv:Vals ((upL n).map V.int) acc'.toList:=by
  refine yv (by simp[upL,it.1]) λ i v e=>?_;rw[xj] at e;obtain⟨tt,rfl⟩:=it.2 i v e;have hi:i < n:=by rw[← it.1];exact(xI.mp e).1
  exact⟨.int i,by simp[upL,hi],tt,by simp⟩
 exact⟨.ref s.heap.objs.size,_,I.laid k (aJ _) (show ObjOk X.prog X.w _ _ _ (.lst _) from ⟨by simp[upL];exact fP (bD hn),acc'.toList,c',rv,by rw[yt];exact g⟩),rfl,q _ (I.hok.fresh (aJ _))⟩
theorem Gn:db X (.type "tuple") (λ xs H Q=>∃p ys,xs=[.ref p]/\SqL X.K H p ys/\∀l o,H l=none->o.dict=none->Q (.ref l) (upd H l (.frz o (.tup ys)))):=by
 intro pins s σ H xs us Q I r h;obtain⟨p,ys,rfl,hq,q⟩:=h;obtain⟨u,rfl,rx⟩:=dY r;cases rx;obtain⟨its,r',pl,hz⟩:=I.list hq;have hlen:=r'.length;refine call_tuple_list pl.isList (λ h' kp=>?_) (by simp only[bN]<;>lia);have I1:Inv X pins σ H { s with heap:=h' }:=I.kept (t':=s.toks) kp
 have I2:Inv X pins σ (upd H h'.objs.size (.frz { cls:=.type "tuple",data:=.seq its.toArray } (.tup ys))) { s with heap:=h'.push { cls:=.type "tuple",data:=.seq its.toArray } } :=
  I1.laid (t':=s.toks) (λ b o e=>bd _ e) (aJ _) (show ObjOk X.prog X.w _ _ _ (.frz _ (.tup ys)) from ⟨bG _ rfl,hz,its,r',lZ _ _⟩)
 exact⟨.ref h'.objs.size,_,I2,rfl,q _ _ (I1.hok.fresh (aJ _)) rfl⟩
noncomputable def yw(r:V->List V->Hp->VK->Prop)(to:TE)(t:TA):TE:=λ σ H Q=>to σ H λ x H1=>(∃a o xs,x=.ref a/\H1 a=some (.frz o (.tup xs))/\o.dict=none)/\t σ H1 λ ys H2=>r x ys H2 Q
theorem Go{o e:Expr}{es:List Expr}{name:Str}{apos cpos:Pos}{id:String}(slot:Slot "tuple" name id)(hty:typeOf (.builtin id)=pure (.type "method_descriptor"))(hm:MtR X id r)(ho:PE X o to)(ha:PA X (e::es) t)
  (hbase:attributeBase o name X.env (eval o X.env)=eval o X.env:=by rfl)
  (hfew:((backTo cpos (starEach (e::es) X.env)).all (λ x=>!x.1) && (backToKw cpos (keywordEach [] X.env)).all (λ x=>x.1.isSome)
   && decide ((e::es).length+([]:List Keyword).length+(if ([]:List Keyword).isEmpty then 0 else 1) < 30))=true:=by rfl)
  (hline:(apos.endLine == cpos.line)=true:=by rfl) (hs:starEach (e::es) X.env=(false,eval e X.env)::starEach es X.env:=by rfl) (hplain:(backTo cpos (starEach es X.env)).any (·.1)=false:=by rfl) :
  PE X (.Call (.Attribute o name apos) (e::es) [] cpos) (yw r to t):=by
 intro pins s σ H Q I h;refine sM hbase hfew hline rfl (thn (ho pins s σ H _ I h) λ v s1 ⟨x,H1,I1,r1,ty,q1⟩=>?_)
 have hh:s1.TypeIs v "tuple" /\ ∀a,v=.ref a->∃ob,s1.heap.get? a=some ob/\ob.dict=none:=by
  obtain⟨a,ob,xs,rfl,ha,hd⟩:=ty;cases r1;obtain⟨g1,hz,its,rv,o2,g2,c2,n2,d2⟩:=I1.hok a _ ha;rw[g1] at g2;cases g2;exact⟨⟨_,g1,c2⟩,λ b e=>by cases e;exact⟨_,g1,hd⟩⟩
 refine⟨"tuple",id,PySem.F.plainAttrs_tuple,slot,hty,hh.1,hh.2,?_⟩;have hA:=ha cpos pins s1 σ H1 _ I1 q1;rw[hs] at hA ⊢;refine sN (by show(false || (backTo cpos (starEach es X.env)).any (·.1))=false;rw[hplain]<;>rfl) (sO ?_);exact thn hA λ us s2 ⟨vs,H2,I2,r2,q2⟩=>hm pins s2 σ H2 x vs v us Q I2 r1 r2 q2
theorem Gp:MtR X "list.pop" sQ:=Ez
end
theorem yx{X:Cx}{i:Nat}{elt tg iter:Expr}{pos pos' lpos:Pos}{own fv:List Str}{js:List Nat}
  (hN:X.N.Nodup) (hx1:X.N[i]?=some x) (hx:Loc X.env.scope x) (hf:X.fn x=true\/X.env.scope.names.lookup x=some .local)
  (hc:X.calm=true) (hi:PI X tg iter wi) (hclos:closureFor scope X.env=pure cl) (hcell:∀y∈scope.names,y.2≠.cell) (hkind:scope.kind=.function)
  (hnames:∀y∈scope.names,y.2=.local->scope.names.lookup y.1=some .local)
  (hcl:∀x c,cl.lookup x=some c->X.env.cells.lookup x=some c)
  (hhas:∀x,((relabel scope X.env).names.lookup x=some .cell\/(relabel scope X.env).names.lookup x=some .free)->∃c,cl.lookup x=some c)
  (hlen:js.length=fv.length) (hcap:∀(i:Nat) x j,fv[i]?=some x->js[i]?=some j->Cap X scope cl x j)
  (hg:∀(C:Addr) (ex:List Addr) (s:Shared) (H:Hp),PG (cF X (own++fv) scope cl C ex s H) tg g)
  (he:∀(C:Addr) (ex:List Addr) (s:Shared) (H:Hp),PE (cF X (own++fv) scope cl C ex s H) elt te)
  (hsw:swapsWith (.ListComp elt [⟨tg,iter,[],0⟩] scope lpos) (some (.Name x pos')) pos.line X.env=pure true:=by rfl)
  (hs:∀x,foldedSetIterable iter X.env x=pure x:=by intro _;rfl) :
  PS X (.Assign [.Name x pos'] (.ListComp elt [⟨tg,iter,[],0⟩] scope lpos) pos) (jL (gi wi own.length js g te) (fE i)):=by
 intro pins s σ H D I h;rw[yz _ _ _ _ hsw];refine ak (kF ?_);rw[yA];have core:=xp (use:=some (assign (.Name x pos') X.env)) (QQ:=λ _ s'=>SP X pins D .next s') (fpos:=firstIterPos [⟨tg,iter,[],0⟩] lpos) (pos:=lpos) hc hi hclos hcell hkind hnames hcl hhas hlen hcap hg he hs I h (λ a C s5 H5 fl I5 zC zL zS zc zp ⟨m,hn⟩ q=>?_)
 ·refine ak (ak (thn core λ _ s' hq=>?_));exact aK (aK hq)
 ·show wpAny (model X.prog X.w) X.A (assign (.Name x pos') X.env (.ref a)) _ X.xe s5;show wpAny (model X.prog X.w) X.A (do standAt pos';bindName X.env x (.ref a)) _ X.xe s5;refine ak (kF ?_);refine bindName_ ?_;refine rY I5 hN hx1 hx (show RelV (.ref a) (.ref a) from rfl) (λ s6 I6 ⟨b,sb,hb⟩=>?_) hf
  have cb:C≠b:=by
   rcases hb with rfl | hb
   ·exact zL
   ·exact λ z=>zc x b hb z.symm
  obtain⟨o,es,ep,e,r⟩:=hn;refine⟨m,⟨o,es,ep,(sb.2 C cb).trans e,r⟩,λ h' sc=>?_⟩;exact⟨_,H5,I6.turned (t':=s6.toks) (it:=C) (λ d o nd e=>sc.extBut d o nd e) zC zL (.inr zS) zc zp,q⟩
section
variable {X:Cx}
theorem yB:∀ {bs:List Bool}{us:LV},Vals (bs.map V.bl) us->us=bs.map Value.bool
 | [],_,.nil=>rfl
 | b::bs,_,.cons r t=>by
  cases (show _=Value.bool b from r);rw[yB t];rfl
theorem yC(hc:X.calm=true):db X (.builtin "any") (λ xs H Q=>∃(a:Addr) (bs:List Bool),xs=[.ref a]/\SqL X.K H a (bs.map V.bl)/\Q (.bl (bs.any id)) H):=by
 intro pins s σ H xs us Q I r h;obtain⟨a,bs,rfl,hq,q⟩:=h;obtain⟨u,rfl,ru⟩:=dY r;cases (show u=Value.ref a from ru);obtain⟨its,rv,pl,hz⟩:=I.list hq;have hl:=pl.isList;have hlt:a < s.heap.objs.size:=by obtain⟨_,e,_⟩:=hl;exact br e
 have hb:=yB rv;subst hb;refine call_any_walk (sk hl ?_)
 refine⟨s.heap.objs.size,[s.heap.objs.size,a],[s.heap.objs.size],(bs.map Value.bool).toArray.size,_,_,λ i=>(bs[i]?).getD false,rfl,Walks.list (A:=X.A.in1) (I.ok.hd hc) _ a (bM hlt) (bs.map Value.bool).toArray,
  ⟨⟨_,bG _ rfl,rfl,rfl⟩,hl.push _⟩,λ i v s' Q' E' hP hQ=>?_,λ h' tk hk=>?_⟩
 ·have hP:(bs.map Value.bool)[i]?=some v:=by simpa using hP
  rw[bA] at hP
  cases e:bs[i]? with
  | none=>rw[e] at hP;cases hP
  | some b =>
   rw[e] at hP;cases hP;simp only[e,Option.getD_some] at hQ;exact iV hQ
 ·have e:((List.range (bs.map Value.bool).toArray.size).any λ i=>(bs[i]?).getD false)=bs.any id:=by
   rw[bN,aA];exact LSm.range_any bs
  rw[e];exact⟨.bl _,H,I.kept (t':=tk) (LSm.kept_iter hk),rfl,q⟩
end
section
variable {κ:Type} [DecidableEq κ]
def mB(kvs:List (κ × V))(k:κ):Option V:=(kvs.find? λ kv=>decide (kv.1=k)).map (·.2)
noncomputable def qC(kvs:List (κ × V))(k:κ)(v:V):List (κ × V) :=
 if (kvs.any λ kv=>decide (kv.1=k))=true then kvs.map (λ kv=>if kv.1=k then (kv.1,v) else kv) else kvs++[(k,v)]
def Nh(kvs:List (κ × V))(k:κ):List (κ × V):=kvs.filter λ kv=>decide (kv.1≠k)
theorem Ni{p:κ × V}{r:List (κ × V)}{k:κ}(e:p.1=k):mB (p::r) k=some p.2:=by simp[mB,List.find?_cons,e]
theorem KV.length(r:KV kvs vs):kvs.length=vs.length:=Paired.length r
end
noncomputable abbrev KT(H:Hp):List (List Key × V)->List (List Key × Addr × Value)->Prop:=Paired λ p q=>p.1=q.1/\H q.2.1=some (.tup (p.1.map kV))/\RelV p.2 q.2.2
section
variable {P:Program}{w:World}{H:Hp}{h:Heap}{a:Addr}
end
noncomputable def DGet(H:Hp)(a:Addr)(y:V)(r:Option V):Prop :=
 (∃kvs k,Rd H a (.dK kvs)/\y=kV k/\r=mB kvs k)\/∃kvs k b,Rd H a (.dT kvs)/\y=.ref b/\H b=some (.tup (k.map kV))/\r=mB kvs k
noncomputable def DPut(H:Hp)(a:Addr)(y v:V)(H':Hp):Prop :=
 (∃kvs k,H a=some (.dK kvs)/\y=kV k/\kvs.length < sizeLine/\H'=upd H a (.dK (qC kvs k v))) \/
 ∃kvs k b,H a=some (.dT kvs)/\y=.ref b/\H b=some (.tup (k.map kV))/\kvs.length < sizeLine/\H'=upd H a (.dT (qC kvs k v))
theorem DGet.k{H:Hp}{a:Addr}{kvs:List (Key × V)}{k:Key}(e:H a=some (.dK kvs)):DGet H a (kV k) (mB kvs k):=.inl ⟨kvs,k,.inl e,rfl,rfl⟩
theorem DGet.t{H:Hp}{k:List Key}(e:H a=some (.dT kvs))(eb:H b=some (.tup (k.map kV))):DGet H a (.ref b) (mB kvs k):=.inr ⟨kvs,k,b,.inl e,rfl,eb,rfl⟩
theorem DPut.k{H:Hp}{a:Addr}{kvs:List (Key × V)}{k:Key}{v:V}(e:H a=some (.dK kvs))(hl:kvs.length < sizeLine):DPut H a (kV k) v (upd H a (.dK (qC kvs k v))):=.inl ⟨kvs,k,e,rfl,hl,rfl⟩
theorem DPut.t{H:Hp}{k:List Key}(e:H a=some (.dT kvs))(eb:H b=some (.tup (k.map kV)))(hl:kvs.length < sizeLine) :
  DPut H a (.ref b) v (upd H a (.dT (qC kvs k v))):=.inr ⟨kvs,k,b,e,rfl,eb,hl,rfl⟩
section
variable {X:Cx}{pins:LO}{σ:St}{H:Hp}{s:Shared}{a:Addr}{y v:V}{u r:Value}{o:Option V}{A:Around}{E:VS}
end
section
variable {X:Cx}{pins:LO}{σ:St}{H:Hp}{s:Shared}{a:Addr}{kvs:List (Key × V)}{k:Key}{u:Value}{A:Around}{E:VS}
end
def yD(i:Expr):Prop:=∀ov iv,subscripted i false ov iv=operate [ov,iv] (getItem ov iv)
theorem Gq{T id:String}
  (hl:typeLookup (.type T) "__getitem__"=pure (some (.builtin id))) (hs:yD slice)
  (h:wpAny (model prog w) A (eval value env) (λ o s₁=>wpAny (model prog w) A (eval slice env) (λ i s₂=>s₂.TypeIs o T/\wpAny (model prog w) A (getItem o i) Q E s₂) E s₁) E s) :
  wpAny (model prog w) A (eval (.Subscript value slice pos) env) Q E s:=by
 refine Subscript_ (dG h (λ o s₁ h₁=>dG h₁ (λ i s₂ h₂=>?_) λ _ _ x=>x) λ _ _ x=>x);obtain⟨hT,h₂⟩:=h₂;unfold subscriptTail;refine ak ?_;rw[getitemInPython_of_ne hT.not_modules];refine ak (jX hT hl ?_)
 have fin:wpAny (model prog w) A (subscripted slice false o i) (λ r s₃=>wpAny (model prog w) A (letTemporaryGo value o r >>= λ _=>pure r) Q E s₃) E s₂:=by
  rw[hs o i];exact wpAny_operating (dG h₂ (λ r s₃ h₃=>ak (wpAny_letTemporaryGo (aK h₃))) λ _ _ x=>x)
 first
  | exact aK (ak fin)
  | exact ak (aK (ak fin))
  | exact ak fin
section
variable {X:Cx}{o i e value:Expr}{pos pos' tpos:Pos}{td ty tv:TE}
end
section
variable {X:Cx}{pos:Pos}
end
structure M1 (X:Cx)(o:Expr)(m:Str)(apos:Pos)(e:Expr)(cpos:Pos):Prop where
 base:attributeBase o m X.env (eval o X.env)=eval o X.env
 few:((backTo cpos (starEach [e] X.env)).all (λ x=>!x.1) && (backToKw cpos (keywordEach [] X.env)).all (λ x=>x.1.isSome)
  && decide (([e]:List Expr).length+([]:List Keyword).length+(if ([]:List Keyword).isEmpty then 0 else 1) < 30))=true
 line:(apos.endLine == cpos.line)=true
 trees:backTo cpos (starEach [e] X.env)=[(false,eval e X.env)]
structure M2 (X:Cx)(o:Expr)(m:Str)(apos:Pos)(e f:Expr)(cpos:Pos):Prop where
 base:attributeBase o m X.env (eval o X.env)=eval o X.env
 few:((backTo cpos (starEach [e,f] X.env)).all (λ x=>!x.1) && (backToKw cpos (keywordEach [] X.env)).all (λ x=>x.1.isSome)
  && decide (([e,f]:List Expr).length+([]:List Keyword).length+(if ([]:List Keyword).isEmpty then 0 else 1) < 30))=true
 line:(apos.endLine == cpos.line)=true
 trees:backTo cpos (starEach [e,f] X.env)=[(false,eval e X.env),(false,eval f X.env)]
section
variable {X:Cx}{pins:LO}{σ:St}{H:Hp}{s:Shared}{a:Addr}{y d:V}{u r:Value}{o:Option V}{A:Around}{E:VS}
end
section
variable {X:Cx}{o e f:Expr}{apos cpos:Pos}{td ty tx:TE}
end
section
variable {X:Cx}{pins:LO}{σ:St}{H:Hp}{s:Shared}{a:Addr}{kvs:List (Key × V)}{A:Around}{E:VS}
end
section
variable {X:Cx}{pins:LO}{σ:St}{H:Hp}{s:Shared}{a:Addr}{y:V}{u:Value}{A:Around}{E:VS}
end
section
variable {X:Cx}
end
section
variable {κ:Type} [DecidableEq κ]
end
noncomputable def KTab(P:Program)(w:World)(K:FG)(d:Addr)(kvs:LA):Prop:=(d == sysModules)=false/\∀h:Heap,K.In h->h.DictOf (rV P w) d (kvs.map λ p=>((Sum.inr p.1:Key),Value.ref p.2))
def Gr(pm:Params)(l:List (Str × Tok × Addr)):List DictEntry:=l.map λ p=>⟨PyData.keyHash pm p.1,.str p.1 p.2.1,.ref p.2.2⟩
theorem KTab.mk{w:World}{K:FG}{d:Addr}(hd:(d == sysModules)=false)(hl:K.lookup d=some { cls:=.type "dict",data:=.dict es n })(he:es.toList=Gr w.params l)(nd:(l.map (·.1)).Nodup) :
  KTab P w K d (l.map λ p=>(p.1,p.2.2)):=by
 refine⟨hd,λ h KI=>⟨_,es,n,KI d _ hl,⟨rfl,rfl,rfl⟩,rfl,?_,?_,?_⟩⟩
 ·intro e hm;have hm:e∈es.toList:=wA.mpr hm;rw[he] at hm;obtain⟨p,_,rfl⟩:=dL.mp hm;exact⟨Sum.inr p.1,rT p.1 p.2.1,rfl⟩
 ·rw[he];clear he nd hl
  induction l with
  | nil=>exact .nil
  | cons p r ih=>exact .cons (rT p.1 p.2.1) rfl ih
 ·rw[jV,jV];have e:((λ x:Key × Value=>x.1) ∘ (λ p:Str × Addr=>((Sum.inr p.1:Key),Value.ref p.2))) ∘ (λ p:Str × Tok × Addr=>(p.1,p.2.2))=(λ x:Str=>(Sum.inr x:Key)) ∘ λ p=>p.1:=rfl;rw[← jV] at *
  have z:(l.map λ p=>(Sum.inr p.1:Key)).Nodup:=by
   have:(l.map λ p=>(Sum.inr p.1:Key))=(l.map (·.1)).map (λ x:Str=>(Sum.inr x:Key)):=by rw[jV];rfl
   rw[this];exact List.Pairwise.map _ (λ a b (h:a≠b) z=>h (s1f z)) nd
  simpa [jV,Function.comp_def] using z
theorem Gs{kvs:LA}:valueAt (kvs.map λ p=>((Sum.inr p.1:Key),Value.ref p.2)) (Sum.inr x)=(kvs.lookup x).map Value.ref:=by
 induction kvs with
 | nil=>rfl
 | cons p r ih =>
  obtain⟨k,a⟩:=p;unfold valueAt at *;rw[fe,List.find?_cons,kX];by_cases e:x=k
  ·subst e;simp
  ·have h1:decide ((Sum.inr k:Key)=Sum.inr x)=false:=fO λ z=>e (s1f z).symm;have h2:(x == k)=false:=vM.mpr e;rw[h2];simp only[h1];exact ih
section
variable {X:Cx}
def yE(kvs:LA):V->Hp->VK->Prop:=λ y H Q=>∃x a,y=.str x/\kvs.lookup x=some a/\Q (.ref a) H
def yF(kvs:LA)(te:TE):TE:=λ σ H Q=>te σ H λ y H1=>yE kvs y H1 Q
theorem Gu(hg:Gl X n)(hm:X.mg n=some (.ref d))(T:KTab X.prog X.w X.K d kvs)(hi:PE X i te)(hs:yD i)(hdb:(n == ("__debug__" : Str))=false:=by decide) :
  PE X (.Subscript (.Name n np) i pos) (yF kvs te):=by
 intro pins s σ H Q I h;refine Gq PySem.F.slot_dict_getitem.lookup hs (pq I hg hm (thn (hi pins s σ H _ I h) λ iv s2 ⟨y,H2,I2,ry,x,a,ey,l,q⟩=>?_) hdb);subst ey;obtain⟨t,rfl⟩:=ry;have dd:=T.2 s2.heap I2.kIn;refine⟨dd.typeIs,wpAny_getItem_of (rT x t) dd.mapOf (v:=.ref a) (by rw[Gs,l];rfl) ⟨.ref a,H2,I2.tok _,rfl,q⟩⟩
end
noncomputable def KTup(K:FG)(a:Addr)(xs:List V):Prop:=∃(o:Obj) (its:Array Value) (n:Nat),K.lookup a=some o/\o.cls=.type "tuple" /\ o.data=.seq its n/\its.size≤sizeLine/\Vals xs its.toList
theorem KTup.sq{K:FG}(h:KTup K a xs):SqT K H a xs:=.inr h
section
variable {pg:Program}{wd:World}{B:Around}{X0:VS}{s0:Shared}
end
noncomputable def mC(K:FG)(a b:Addr):It:=⟨λ i H=>∃xs ys x y,SqL K H a xs/\SqT K H b ys/\xs[i]?=some x/\ys[i]?=some y,
 λ i H v H'=>∃T x y,v=.ref T/\H T=none/\H'=upd H T (.tup [x,y])/\∀xs ys,SqL K H a xs->SqT K H b ys->xs[i]?=some x/\ys[i]?=some y,λ i H=>∃xs ys,SqL K H a xs/\SqT K H b ys/\(xs.length≤i\/ys.length≤i)⟩
section
variable {X:Cx}{es:List Expr}{x1:Nat}{pp:Pos}
end
noncomputable def Nj(K:PySem.W.Frag)(g:TG)(tb:TS)(D:Ends)(σ:St)(vs:List V)(H1:Hp):Prop:=∃a b xs ys,vs=[.ref a,.ref b]/\SqL K H1 a xs/\SqT K H1 b ys/\∃W:Nat->Nat->St->Hp->Prop,(∃m,W 0 m σ H1)/\∀i m σ H,W i m σ H ->
 ((mC K a b).stop i H/\D.nx σ H)\/((mC K a b).go i H/\∃N:St->Hp->Prop,(∀σ' H',N σ' H'->∃m',m' < m/\W (i+1) m' σ' H')/\∀x H',(mC K a b).yld i H x H'->g x σ H' λ σ2 H2=>tb { D with nx:=N,ct:=N,bk:=D.nx } σ2 H2)
noncomputable def Nk(K:PySem.W.Frag)(k:Nat)(js:List Nat)(g:TG)(te:TE)(σ:St)(vs:List V)(H1:Hp)(Q:VK):Prop:=∃a b xs ys,vs=[.ref a,.ref b]/\SqL K H1 a xs/\SqT K H1 b ys/\∃W:Nat->Nat->List V->St->Hp->Prop,(∃m,W 0 m [] (bU k js σ) H1)/\∀i m zs σ' H',W i m zs σ' H' ->
  ((mC K a b).stop i H'/\∀p,H' p=none->Q (.ref p) (upd H' p (.lst zs))) \/
  ((mC K a b).go i H'/\zs.length < sizeLine/\∃N:List V->St->Hp->Prop,(∀zs σ2 H2,N zs σ2 H2->∃m',m' < m/\W (i+1) m' zs σ2 H2)/\∀x H2,(mC K a b).yld i H' x H2->g x σ' H2 λ σ3 H3=>te σ3 H3 λ v H4=>N (zs++[v]) σ3 H4)
noncomputable def CompTI(K:PySem.W.Frag)(k:Nat)(js:List Nat)(g:TG)(tc:TT)(te:TE)(σ:St)(v:V)(H1:Hp)(Q:VK):Prop:=∃a,v=.ref a/\(∃xs,SqT K H1 a xs)/\∃W:Nat->Nat->List V->St->Hp->Prop,(∃m,W 0 m [] (bU k js σ) H1)/\∀i m zs σ' H',W i m zs σ' H' ->
  ((Itt K a).stop i H'/\∀p,H' p=none->Q (.ref p) (upd H' p (.lst zs))) \/
  ((Itt K a).go i H'/\zs.length < sizeLine/\∃N:List V->St->Hp->Prop,(∀zs σ2 H2,N zs σ2 H2->∃m',m' < m/\W (i+1) m' zs σ2 H2)/\∀x H2,(Itt K a).yld i H' x H2->g x σ' H2 λ σ3 H3=>tc σ3 H3 λ b H4=>if b=true then te σ3 H4 λ v H5=>N (zs++[v]) σ3 H5 else N zs σ3 H4)
theorem Gv{K:FG}:gk (pF K tx) k js g tc te σ H Q=tx σ H λ v H1=>CompTI K k js g tc te σ v H1 Q:=rfl
theorem CompTI.mk{K:FG}{g:TG}{tc:TT}{te:TE}{Q:VK}(h1:SqT K H a xs)(Pv:Nat->List V->St->Hp->Prop)(h0:Pv 0 [] (bU k js σ) H)(hl:∀i zs σ H,i≤xs.length->Pv i zs σ H->SqT K H a xs/\zs.length < sizeLine)
  (hs:∀i x zs σ H,xs[i]?=some x->Pv i zs σ H->g x σ H λ σ3 H3=>tc σ3 H3 λ b H4=>if b=true then te σ3 H4 λ v H5=>Pv (i+1) (zs++[v]) σ3 H5 else Pv (i+1) zs σ3 H4) (hz:∀zs σ H,Pv xs.length zs σ H->∀p,H p=none->Q (.ref p) (upd H p (.lst zs))) :
  CompTI K k js g tc te σ (.ref a) H Q:=by
 refine⟨a,rfl,⟨xs,h1⟩,λ i m zs σ H=>m=xs.length - i/\i≤xs.length/\Pv i zs σ H,⟨_,rfl,bc _,h0⟩,?_⟩;rintro i m zs σ H ⟨rfl,hi,p⟩;obtain⟨k1,k2⟩:=hl i zs σ H hi p;by_cases hlt:i < xs.length
 ·refine .inr ⟨⟨xs,_,k1,aX hlt⟩,k2,Pv (i+1),λ zs' σ' H' p'=>⟨xs.length - (i+1),by lia,rfl,hlt,p'⟩,λ v H' yy=>?_⟩;obtain⟨rfl,ex⟩:=yy;exact hs i v zs σ _ (ex xs k1) p
 ·have e:i=xs.length:=by lia
  exact .inl ⟨⟨xs,k1,by lia⟩,hz zs σ H (e ▸ p)⟩
section
variable {X:Cx}
theorem Gw{K:FG}(hK:X.K=K)(h:PG X (.Tuple es k pos) (nF X.K n t)):PG X (.Tuple es k pos) (nF K n t):=hK ▸ h
end
theorem Gy(c0:Cap X scope cl x0 j0)(c1:Cap X scope cl x1 j1)(c2:Cap X scope cl x2 j2):∀(i:Nat) x j,[x0,x1,x2][i]?=some x->[j0,j1,j2][i]?=some j->Cap X scope cl x j
 | 0,_,_,h1,h2=>by cases h1;cases h2;exact c0
 | 1,_,_,h1,h2=>by cases h1;cases h2;exact c1
 | 2,_,_,h1,h2=>by cases h1;cases h2;exact c2
 | _+3,_,_,h1,_=>by cases h1
theorem dn{cells:LA}(h:cells.lookup y=some a)(h2:cells.lookup z=some b)(h3:cells.lookup u=some d):∀x c,[(y,a),(z,b),(u,d)].lookup x=some c->cells.lookup x=some c:=λ x c e=>by
 rcases bE.mp (cR e) with q | q
 ·cases q;exact h
 ·rcases bE.mp q with q | q
  ·cases q;exact h2
  ·cases bL.mp q;exact h3
structure FunD (K:FG)(x qual:Str)(st:Stmt)(dV:Addr)(its:Array Value)(f:Addr)(fd:FuncData):Prop where
 ex:∃(oc:Value) (od:OA) (kV doc pm:Value) (an:OA) (cdv ct:Value) (osl:AV),
  fd=W.fnOf x qual (dJ st) (df st) (aH st) (.ref dV) kV doc pm an cdv ct/\K.lookup f=some ⟨oc,od,.func fd,osl⟩/\W.codeIn K cdv qual=true
 kp:W.keepIn K (.ref f)=true
 dt:∃(o:Obj) (n:Nat),K.lookup dV=some o/\o.data=.seq its n
section
variable {P:Program}{w:World}{K:FG}{mg:SV}{base:Heap}
end
structure CalleeD (P:Program)(w:World)(K:FG)(mg:SV)(base:Heap)(CX:CXT)(k:Nat)(x:Str)(ps:List Str)(dvs:List V)(sp:Sp):Prop where
 has:∃(f:Addr) (fd:FuncData) (ds:LV),FnOk P w K mg base CX k f fd ps sp/\mg x=some (.ref f)/\W.keepIn K (.ref f)=true/\Binds K fd ps ds/\Vals dvs ds
section
variable {X:Cx}{CX:CXT}{k:Nat}{ps:List Str}{dvs:List V}{sp:Sp}{E:XK}{x:Str}{p pos:Pos}{e:Expr}{es:List Expr}{t:TA}
end
section
variable {X:Cx}
def yG:R2:=λ x y H Q=>lQ x y λ p i=>∃xs,(H p=some (.lst xs)\/H p=some (.tup xs))/\∃v,atI xs i=some v/\Q v H
theorem qD:IxR X yG:=by
 intro value slice pins s σ H x y v u Q I rx ry h hs;obtain⟨p,i,rfl,rfl,xs,hh | hh,z,ha,q⟩:=pj h
 ·exact bp value slice pins s σ H _ _ v u Q I rx ry ⟨xs,hh,z,ha,q⟩ hs
 ·exact aD value slice pins s σ H _ _ v u Q I rx ry ⟨xs,hh,z,ha,q⟩ hs
end
section
open PySem.Builtin PySem.Builtin.Str
def tM(c:Nat):List Nat->List (List Nat)
 | []=>[[]]
 | d::r=>if d=c then []::tM c r else match tM c r with
  | []=>[[d]]
  | p::ps=>(d::p)::ps
def GD(L:List Nat):Str:=⟨L.toArray⟩
section
variable {X:Cx}
end
end
section
variable {X:Cx}
end
section
variable {pg:Program}{wd:World}{B:Around}{X0:VS}{s0:Shared}{J d:Addr}{m:Nat}{Pr:Nat->Value->Prop}{OK:Heap->Prop}
end
section
variable {X:Cx}
end
section
variable {pg:Program}{wd:World}{B:Around}{X0:VS}{z0:Shared}
end
section
variable {X:Cx}
end
noncomputable def AlkV(H:Hp):Nat->V->V->Prop
 | 0,x,y=>bZ x=true/\x=y
 | d+1,x,y=>(bZ x=true/\x=y)\/∃(a b:Addr) (xs ys:List V),x=.ref a/\y=.ref b/\((H a=some (.lst xs)/\H b=some (.lst ys))\/(H a=some (.tup xs)/\H b=some (.tup ys)))/\xs.length=ys.length/\∀(i:Nat) z w,xs[i]?=some z->ys[i]?=some w->AlkV H d z w
theorem AlkV.flat(h:bZ x=true):AlkV H d x x:=by
 cases d with
 | zero=>exact⟨h,rfl⟩
 | succ d=>exact .inl ⟨h,rfl⟩
theorem AlkV.lst{H:Hp}{d:Nat}(h1:H a=some (.lst xs))(h2:H b=some (.lst xs))(f:xs.all bZ=true):AlkV H (d+1) (.ref a) (.ref b) :=
 .inr ⟨a,b,xs,xs,rfl,rfl,.inl ⟨h1,h2⟩,rfl,λ i z w e1 e2=>by
  rw[e1] at e2;cases e2
  exact .flat (mq.mp f _ (bw e1))⟩
theorem AlkV.tup{H:Hp}{d:Nat}(h1:H a=some (.tup xs))(h2:H b=some (.tup xs))(f:xs.all bZ=true):AlkV H (d+1) (.ref a) (.ref b) :=
 .inr ⟨a,b,xs,xs,rfl,rfl,.inr ⟨h1,h2⟩,rfl,λ i z w e1 e2=>by
  rw[e1] at e2;cases e2
  exact .flat (mq.mp f _ (bw e1))⟩
theorem yH(h:bZ x=true):eqV x x=true:=by
 cases x<;>simp_all [eqV,bZ]
theorem kg(r:Vals xs us){j:Nat}(h:j < us.toArray.size):∃z,xs[j]?=some z/\RelV z us.toArray[j]:=by
 have l:=r.length;have k:j < xs.length:=by rw[l];simpa using h
 obtain⟨u,hu,ru⟩:=r.get (aX k)
 have e:us.toArray[j]=u:=by
  have z:us[j]?=some (us[j]'(by simpa using h)):=aX _;rw[z] at hu;simpa using hu
 exact⟨_,aX k,by rw[e];exact ru⟩
theorem qE:(List.range n).all (λ _=>true)=true:=by simp
section
variable {X:Cx}{pins:LO}{σ:St}{H:Hp}{s:Shared}
theorem yI(I:Inv X pins σ H s):∀(d:Nat) (A:Around) (x y:V) (v u:Value),A.units+d < cLine->AlkV H d x y->RelV x v->RelV y u->SeqAt.EqAt A s v u true:=by
  intro d
  induction d with
  | zero =>
    intro A x y v u hu h rx ry;obtain⟨f,rfl⟩:=h;have z:=pX (A:=A) (s:=s) rx ry f f
    rwa [yH f] at z
  | succ d ih =>
    intro A x y v u hu h rx ry
    rcases h with ⟨f,rfl⟩ | ⟨a,b,xs,ys,rfl,rfl,h,hl,q⟩
    · have z:=pX (A:=A) (s:=s) rx ry f f
      rwa [yH f] at z
    · cases rx;cases ry;by_cases ab:a=b
      · subst ab;exact SeqAt.EqAt.same _
      · refine SeqAt.EqAt.of_refs ab ?_
        rcases h with ⟨h1,h2⟩ | ⟨h1,h2⟩
        · obtain⟨us,r1,p1,_⟩:=I.list (.of h1);obtain⟨ws,r2,p2,_⟩:=I.list (.of h2)
          have z:=SeqAt.RcAt.lists (A:=A) p1.isList p2.isList (e:=λ _=>true) (by simp[← r1.length,← r2.length,hl]) (by lia) (λ j k1 k2=>by
            obtain⟨z,e1,rz⟩:=kg r1 k1;obtain⟨w,e2,rw⟩:=kg r2 k2
            exact ih A.in1 z w _ _ (by show A.units+1+d < cLine;lia) (q j z w e1 e2) rz rw)
          rwa [qE] at z
        · obtain⟨us,r1,p1,_⟩:=I.tuple (.of h1);obtain⟨ws,r2,p2,_⟩:=I.tuple (.of h2)
          have z:=SeqAt.RcAt.tuples (A:=A) (show s.heap.IsTuple a us.toArray from p1) (show s.heap.IsTuple b ws.toArray from p2) (e:=λ _=>true) (by lia) (λ j k1 k2=>by
            obtain⟨z,e1,rz⟩:=kg r1 k1;obtain⟨w,e2,rw⟩:=kg r2 k2
            exact ih A.in1 z w _ _ (by show A.units+1+d < cLine;lia) (q j z w e1 e2) rz rw)
          have e:(us.toArray.size == ws.toArray.size)=true:=by simp[← r1.length,← r2.length,hl]
          rw[qE,e] at z;exact z
def yJ:R2:=λ x y H Q=>(∃a,x=.ref a)/\AlkV H 9 x y/\Q (.bl false) H
theorem yK(hu:X.A.units+20 < cLine):OpR X (compareOp .NotEq) yJ:=by
 intro pins s σ H x y v u Q I rx ry h;obtain⟨⟨a,rfl⟩,h,q⟩:=h
 rcases h with ⟨f,_⟩ | ⟨a',b,xs,ys,e,rfl,h,hl,al⟩
 ·simp[bZ] at f
 ·cases e;cases rx;cases ry;have fin:EP X pins σ Q (.bool false) s:=⟨.bl false,H,I,rfl,q⟩
  rcases h with ⟨h1,h2⟩ | ⟨h1,h2⟩
  ·obtain⟨us,r1,p1,_⟩:=I.list (.of h1);obtain⟨ws,r2,p2,_⟩:=I.list (.of h2);refine s0q p1.isList p2.isList (e:=λ _=>true) (by simp[← r1.length,← r2.length,hl]) (by lia) (λ j k1 k2=>?_) _ _ _ _ (by rw[qE];exact fin);obtain⟨z,e1,rz⟩:=kg r1 k1;obtain⟨w,e2,rw⟩:=kg r2 k2;exact yI I 8 X.A.in1 z w _ _ (by show X.A.units+1+8 < cLine;lia) (al j z w e1 e2) rz rw
  ·obtain⟨us,r1,p1,_⟩:=I.tuple (.of h1);obtain⟨ws,r2,p2,_⟩:=I.tuple (.of h2);have e:(us.toArray.size == ws.toArray.size)=true:=by simp[← r1.length,← r2.length,hl]
   refine s0b (show s.heap.IsTuple a us.toArray from p1) (show s.heap.IsTuple b ws.toArray from p2) (e:=λ _=>true) (by lia) (λ j k1 k2=>?_) _ _ _ _ (by rw[qE,e];exact fin);obtain⟨z,e1,rz⟩:=kg r1 k1;obtain⟨w,e2,rw⟩:=kg r2 k2;exact yI I 8 X.A.in1 z w _ _ (by show X.A.units+1+8 < cLine;lia) (al j z w e1 e2) rz rw
end
theorem yL(r:Room k A):A.units+20 < cLine:=by have:=r.un;lia
section
variable {X:Cx}
noncomputable def tO(K:FG)(tl:TE):TI:=λ σ H R=>tl σ H λ x H1=>(∃a,x=.ref a/\(∃xs,SqL K H1 a xs)/\R (Itl K a) H1)\/(∃a,x=.ref a/\(∃xs,SqT K H1 a xs)/\R (Itt K a) H1)
theorem yM(hl:PE X l tl):PI X tg l (tO X.K tl):=by
 intro pins s σ H R I h;refine thn (hl pins s σ H _ I h) λ v s1 ⟨x,H1,I1,r1,q1⟩=>?_
 rcases q1 with ⟨a,e,⟨xs,hq⟩,q⟩ | ⟨a,e,⟨xs,hq⟩,q⟩
 ·subst e;cases r1;obtain⟨its,rv,p,hz⟩:=I1.list hq;refine sk p.isList ?_;refine⟨s1.heap.objs.size,[s1.heap.objs.size],_,_,H1,rfl,I1.kept (t':=s1.toks) λ b o e=>bd _ e,wo a _,⟨_,bG _ rfl,rfl,rfl⟩,λ b hb=>?_,q⟩;have e:b=s1.heap.objs.size:=by simpa using hb
  subst e;exact I1.fpOk (aJ _) (I1.hok.fresh (aJ _))
 ·subst e;cases r1;obtain⟨its,rv,p,hz⟩:=I1.tuple hq;refine iw (show s1.heap.IsTuple a its.toArray from p) ?_;refine⟨s1.heap.objs.size,[s1.heap.objs.size],_,_,H1,rfl,I1.kept (t':=s1.toks) λ b o e=>bd _ e,wp a _,⟨_,bG _ rfl,rfl,rfl⟩,λ b hb=>?_,q⟩;have e:b=s1.heap.objs.size:=by simpa using hb
  subst e;exact I1.fpOk (aJ _) (I1.hok.fresh (aJ _))
theorem GE{K:FG}:jN (tO K te) g tb D σ H=te σ H λ x H1=>LoopL K g tb D σ x H1\/LoopT K g tb D σ x H1:=rfl
theorem GF{K:FG}:gi (tO K ti) k js g te σ H Q=ti σ H λ x H1=>CompL K k js g te σ x H1 Q\/CompT K k js g te σ x H1 Q:=rfl
end
noncomputable def tP(K:FG)(a:Addr)(n:Nat):It:=⟨λ i H=>∃xs,SqL K H a xs/\xs.length=n/\i < n,λ i H x H'=>H'=H/\∀xs,SqL K H a xs->xs[n - 1 - i]?=some x,λ i H=>∃xs,SqL K H a xs/\xs.length=n/\i=n⟩
section
variable {X:Cx}{tg:Expr}
end
noncomputable def Nl(K:PySem.W.Frag)(g:TG)(tb:TS)(D:Ends)(σ:St)(x:V)(H1:Hp):Prop:=∃a xs,x=.ref a/\SqL K H1 a xs/\∃W:Nat->Nat->St->Hp->Prop,(∃m,W 0 m σ H1)/\∀i m σ H,W i m σ H ->
 ((tP K a xs.length).stop i H/\D.nx σ H)\/((tP K a xs.length).go i H/\∃N:St->Hp->Prop,(∀σ' H',N σ' H'->∃m',m' < m/\W (i+1) m' σ' H')/\∀x H',(tP K a xs.length).yld i H x H'->g x σ H' λ σ2 H2=>tb { D with nx:=N,ct:=N,bk:=D.nx } σ2 H2)
end L2
namespace L2
open PySem PySem.Spec PyProof.Rows PySem.W PySem.Calls
noncomputable def tQ(K:FG):List (Addr × Nat × TS)->Value->(Nat->TS->Prop)->Prop
 | [],_,_=>False
 | (C,i,ts)::r,c,k=>(W.exmOne K c (.ref C)=some true/\k i ts)\/(W.exmOne K c (.ref C)=some false/\tQ K r c k)
noncomputable def yN(K:FG)(cs:List (Addr × Nat × TS))(D:Ends):St->XK:=λ σ1 c _ H1=>∃C',c=.ref C'/\tQ K cs c λ i ts=>∀a,H1 a=none->ts (EM D i) (σ1.set i (some (.ref a))) (upd H1 a (EL a C'))
def GG(K:FG)(cs:List (Addr × Nat × TS))(tb:(St->XK)->TS):TS:=λ D σ H=>tb (yN K cs D) D σ H
inductive ClausesA (X:Cx):List ExceptHandler->List (Addr × Nat × TS)->Prop
 | nil:ClausesA X [] []
 | cons {x n:Str}{C:Addr}{i:Nat}{b₀:Stmt}{suite:List Stmt}{np hpos:Pos}{ts:TS}{r:List ExceptHandler}{tr:List (Addr × Nat × TS)}(hi:X.N[i]?=some n) (hk:X.env.scope.names.lookup n=some .local) (hg:Gl X x) (hn:W.nsIn X.K mainGlobals x=some (some (.ref C)))
   (hs:∀(a:Addr) (pn:LO),PSs (X.suite a pn) (b₀::suite) ts) (hr:ClausesA X r tr) (hd:(x == ("__debug__" : Str))=false):ClausesA X (.ExceptHandler (some (.Name x np)) (some n) (b₀::suite) hpos::r) ((C,i,ts)::tr)
end L2
namespace L2
open PySem PySem.Spec PyProof.Rows PySem.W PySem.Calls
theorem nZ:∀(names:List (Str × NameKind)) (n:Nat) (acc:LA),cellsFrom n names acc=cellsFrom n names []++acc
 | [],_,_=>rfl
 | (x,k)::r,n,acc=>by
  unfold cellsFrom;split
  ·rw[nZ r (n+1) ((x,n)::acc),nZ r (n+1) [(x,n)],iB];rfl
  ·exact nZ r n acc
theorem jn{α:Type}:∀ {a b:List (Str × α)}{x:Str},(a++b).lookup x=match a.lookup x with | some c=>some c | none=>b.lookup x
 | [],_,_=>rfl
 | (y,c)::a,b,x=>by
  rw[List.cons_append,kX,kX]
  cases x == y with
  | true=>rfl
  | false=>exact jn
theorem yO{α:Type}{y:Str}:∀ {cl:List (Str × α)}{q:Str × α},q∈cl->q.1=y->(cl.lookup y).isSome=true
 | a::r,q,hq,e=>by
  rw[kX]
  cases q0:y == a.1 with
  | true=>rfl
  | false =>
   rcases bE.mp hq with z | z
   ·rw[← z,e,tR] at q0;cases q0
   ·exact yO z e
theorem yP{α:Type}:∀ {cl:List (Str × α)}{q:Str × α},(cl.map (·.1)).Nodup->q∈cl->cl.lookup q.1=some q.2
 | a::r,q,nd,hq=>by
  rw[kX]
  rcases bE.mp hq with z | z
  ·rw[← z,tR]
  ·have na:=(jP.mp nd).1
   have:(q.1 == a.1)=false:=by
    cases q0:q.1 == a.1 with
    | false=>rfl
    | true=>exact absurd (dL.mpr ⟨q,z,jQ q0⟩) na
   rw[this];exact yP (jP.mp nd).2 z
theorem qF{x:Str}:∀ {names:List (Str × NameKind)}{n:Nat},(∀y∈names,y.2=.cell->y.1≠x)->(cellsFrom n names []).lookup x=none
 | [],_,_=>rfl
 | (y,k)::r,n,h=>by
  unfold cellsFrom;split
  ·rename_i hk;rw[nZ,jn,qF λ z hz=>h z (aM _ hz)];have hy:y≠x:=h (y,k) bF (jQ hk);show List.lookup x [(y,n)]=none;rw[kX]
   have:(x == y)=false:=by
    cases q:x == y with
    | false=>rfl
    | true=>exact absurd (jQ q).symm hy
   rw[this];rfl
  ·exact qF λ z hz=>h z (aM _ hz)
section
variable {M:Model}{A:Around}{E:VS}{s₀ s:Shared}{m cm:SV}{env:Env}{cs:LA}
theorem GH{v:Value}{Q:Unit->Shared->Prop}(x:InCallC s₀ env.locals m cs cm s)(hk:env.scope.kind=.function)(hl:env.kindOf n=some .local)
  (h:∀s',InCallC s₀ env.locals (λ y=>if y=n then some v else m y) cs cm s'->Q () s'):wpAny M A (storeName env n v) Q E s:=by
 refine vP hl x.toInCall.ns (λ h' hn' hs'=>h _ ⟨⟨?_,hn',λ b o e=>?_,x.toInCall.fresh⟩,λ k c hc=>?_,x.apart,x.above⟩) (by rw[hk];rfl)
 ·obtain⟨h₁,tk,rfl⟩:=x.toInCall.same;exact⟨h',_,rfl⟩
 ·exact hs'.extBut b o (bM (cD (br e) x.toInCall.fresh)) (x.toInCall.keep b o e)
 ·exact(x.cell k c hc).sameBut hs' (iY (x.above k c (cR hc)))
theorem GI{v:Value}{Q:Unit->Shared->Prop}(x:InCallC s₀ env.locals m cs cm s)(hk:env.scope.kind=.function)(hl:env.kindOf n=some .cell)
  (hc:cs.lookup n=some c) (he:env.cells.lookup n=some c)
  (h:∀s',InCallC s₀ env.locals m cs (λ y=>if y=n then some v else cm y) s'->Q () s'):wpAny M A (storeName env n v) Q E s:=by
 have hLc:=x.above n c (cR hc);refine vQ hk hl he (x.cell n c hc) λ h' hc' hs'=>h _ ⟨⟨?_,x.toInCall.ns.sameBut hs' (bM hLc),λ b o e=>?_,x.toInCall.fresh⟩,λ k c' hk'=>?_,x.apart,x.above⟩
 ·obtain⟨h₁,tk,rfl⟩:=x.toInCall.same;exact⟨h',_,rfl⟩
 ·exact hs'.extBut b o (bM (s1d (cD (br e) x.toInCall.fresh) hLc)) (x.toInCall.keep b o e)
 ·by_cases hkn:k=n
  ·subst hkn;rw[hc] at hk';cases hk';simpa using hc'
  ·rw[if_neg hkn];exact(x.cell k c' hk').sameBut hs' λ e=>hkn (pR x.apart (cR hk') (e ▸ cR hc))
theorem tS(f:Str × Value->PUnit->Sem (ForInStep PUnit))(hf:∀n v u,f (n,v) u=(do storeName env n v;pure (.yield ⟨⟩)))(hk:env.scope.kind=.function)(hcs:∀n c,cs.lookup n=some c->env.cells.lookup n=some c) :
  ∀(binds:List (Str × Value)) (m cm:SV) (s:Shared) (Q:PUnit->Shared->Prop),InCallC s₀ env.locals m cs cm s ->
   (∀x∈binds,env.kindOf x.1=some .local\/(env.kindOf x.1=some .cell/\(cs.lookup x.1).isSome=true)) ->
   (∀s',InCallC s₀ env.locals (bindL env.kindOf binds m) cs (bindC env.kindOf binds cm) s'->Q ⟨⟩ s')->wpAny M A (forIn binds ⟨⟩ f) Q E s
 | [],m,cm,s,Q,x,_,h=>by rw[List.forIn_nil];exact aK (h s x)
 | (n,v)::r,m,cm,s,Q,x,hkind,h=>by
  rw[nW,hf];have hr:∀y∈r,env.kindOf y.1=some .local\/(env.kindOf y.1=some .cell/\(cs.lookup y.1).isSome=true):=λ y hy=>hkind y (aM _ hy)
  rcases hkind (n,v) bF with hl | ⟨hl,hc⟩
  ·refine ak (ak (GH x hk hl λ s' x'=>aK (tS f hf hk hcs r _ _ s' Q x' hr λ s'' x''=>h s'' ?_)));unfold bindL bindC;rw[if_pos hl,if_pos hl];exact x''
  ·obtain⟨c,hc⟩:=kL.mp hc;have hnl:¬env.kindOf n=some .local:=by rw[hl];decide
   refine ak (ak (GI x hk hl hc (hcs n c hc) λ s' x'=>aK (tS f hf hk hcs r _ _ s' Q x' hr λ s'' x''=>h s'' ?_)));unfold bindL bindC;rw[if_neg hnl,if_neg hnl];exact x''
end
section
variable {M:Model}{A:Around}{E:VS}{s:Shared}
theorem yQ{scope:Scope}{globals:Addr}{cl:LA}{binds:List (Str × Value)}{code:Value}{Q:Env->Shared->Prop}
  (hk:scope.kind=.function)
  (hkind:∀x∈binds,scope.names.lookup x.1=some .local\/(scope.names.lookup x.1=some .cell/\((cellsFrom (s.heap.objs.size+1) scope.names []).lookup x.1).isSome=true))
  (hQ:∀env,env=newEnv scope s.heap.objs.size globals (cellsFrom (s.heap.objs.size+1) scope.names []++cl) qual func code none builtins ->
   ∀s',InCallC s env.locals (bindL env.kindOf binds λ _=>none) (cellsFrom (s.heap.objs.size+1) scope.names []) (bindC env.kindOf binds λ _=>none) s'->Q env s') :
  wpAny M A (newFunctionEnv scope globals cl binds qual func code none builtins) Q E s:=by
 simp only[newFunctionEnv,Option.isSome_none,tT,s0k];refine ak (wpAny_alloc ?_);refine ak (wpAny_layCells _ (λ name kind cells=>by cases hkc:kind == NameKind.cell<;>simp[hkc]) _ _ _ _ ?_);have ok:=cellsFrom_ok scope.names (s.heap.push { cls:=.type "frame",data:=.dict #[] }) (s.heap.objs.size+1) [] ⟨λ _ _ hm=>(nomatch hm),List.Pairwise.nil⟩ (by rw[fh];exact aJ _);rw[fh] at ok;rw[show({ s with heap:=s.heap.push { cls:=.type "frame",data:=.dict #[] } }:Shared).heap.objs.size=s.heap.objs.size+1 from fh ..];rw[nZ scope.names (s.heap.objs.size+1) cl]
 refine ak (tS (s₀:=s) (cs:=cellsFrom (s.heap.objs.size+1) scope.names []) (env:=newEnv scope s.heap.objs.size globals (cellsFrom (s.heap.objs.size+1) scope.names []++cl) qual func code none builtins)
  _ (λ _ _ _=>rfl) hk (λ n c hc=>by show List.lookup n (cellsFrom (s.heap.objs.size+1) scope.names []++cl)=some c;rw[jn,hc]) binds (λ _=>none) (λ _=>none) _ _
  ⟨⟨⟨_,_,rfl⟩,(Heap.Ns.new s.heap (.type "frame")).keeps (pushCells_keeps _ _),λ b o e=>pushCells_keeps _ _ b o (bd _ e),aJ _⟩,
   λ n c hc=>(ok.empty n c (cR hc)).1,ok.apart,λ n c hm=>(ok.empty n c hm).2⟩
  hkind λ s' x=>aK (hQ _ rfl s' x))
end
def og(c:Addr)(v:V):HO:=.ext λ h=>∃u,RelV v u/\h.IsCell c (some u)
def eE(c:Addr)(qual:Str):HO:=.ext λ h=>h.CodeRec (.ref c) qual
noncomputable def hW(fa c':Addr)(qual:Str)(params:Arguments)(body:Expr)(scope:Scope)(cl:LA):HO:=.ext λ h=>∃pm ctv,h.get? fa=some (kla_obj "<lambda>" qual params body scope cl pm c' ctv)
structure CelAt (H:Hp)(cl:LA)(vcs:List V):Prop where
 len:cl.length=vcs.length
 at_:∀(i:Nat) q,cl[i]?=some q->∃v o,vcs[i]?=some v/\H q.2=some (.frz o (og q.2 v))
 apart:cl.Pairwise λ x y=>x.2≠y.2
theorem CelAt.mem(h:CelAt H cl vcs){q:Str × Addr}(hq:q∈cl):∃o v,H q.2=some (.frz o (og q.2 v)):=by
 obtain⟨i,e⟩:=qG.mp hq;obtain⟨v,o,_,e2⟩:=h.at_ i q e;exact⟨o,v,e2⟩
theorem CelAt.same{H H':Hp}(h:CelAt H cl vcs)(s:∀a o,H a=some o->H' a=some o):CelAt H' cl vcs :=
 ⟨h.len,λ i q e=>let ⟨v,o,e1,e2⟩:=h.at_ i q e;⟨v,o,e1,s _ _ e2⟩,h.apart⟩
open Classical in
noncomputable def minC(H:Hp)(cl:LA):Hp:=λ b=>if ∃q∈cl,q.2=b then none else H b
open Classical in
noncomputable def resC(H H':Hp)(cl:LA):Hp:=λ b=>if ∃q∈cl,q.2=b then H b else H' b
theorem mD{cl:LA}{q:Str × Addr}(h:q∈cl):minC H cl q.2=none:=if_pos ⟨q,h,rfl⟩
theorem fU{cl:LA}{b:Addr}(h:∀q∈cl,q.2≠b):minC H cl b=H b:=if_neg λ⟨q,hq,e⟩=>h q hq e
theorem GJ(h:minC H cl b=some o):H b=some o/\∀q∈cl,q.2≠b:=by
 by_cases c:∃q∈cl,q.2=b
 ·rw[show minC H cl b=none from if_pos c] at h;cases h
 ·rw[show minC H cl b=H b from if_neg c] at h;exact⟨h,λ q hq e=>c ⟨q,hq,e⟩⟩
theorem jo{H:Hp}(h:H b=none):minC H cl b=none:=by
 by_cases c:∃q∈cl,q.2=b
 ·exact if_pos c
 ·rw[show minC H cl b=H b from if_neg c];exact h
theorem jp{cl:LA}{q:Str × Addr}(h:q∈cl):resC H H' cl q.2=H q.2:=if_pos ⟨q,h,rfl⟩
theorem gq{cl:LA}{b:Addr}(h:∀q∈cl,q.2≠b):resC H H' cl b=H' b:=if_neg λ⟨q,hq,e⟩=>h q hq e
theorem HOk.minC(x:HOk P w H h)(hc:CelAt H cl vcs):HOk P w (minC H cl) h:=λ b o e=>by
 obtain⟨e1,_⟩:=GJ e
 have nf:∀c u,H c=some u->(∀ob v,u≠.frz ob v)->L2.minC H cl c=some u:=λ c u e2 n=>by
  rw[fU λ q hq z=>?_]
  ·exact e2
  ·obtain⟨ob,v,e3⟩:=hc.mem hq;rw[z,e2] at e3;exact n _ _ (cz e3)
 exact(x b o e1).stay (λ _ _ _ q=>q) (λ c q=>nf c _ q λ _ _ z=>nomatch z) λ c xs q=>nf c _ q λ _ _ z=>nomatch z
structure LmScope (N ps fv:List Str)(sc:Scope):Prop where
 kind:sc.kind=.function
 co:sc.isCoroutine=false
 gen:sc.isGenerator=false
 nd:N.Nodup
 pre:N.take (ps++fv).length=ps++fv
 par:∀x∈ps,sc.names.lookup x=some .local\/sc.names.lookup x=some .cell
 fre:∀x∈fv,sc.names.lookup x=some .free
 has:∀y∈sc.names,y.2=.free->y.1∈fv
 own:∀x∈fv,∀y∈sc.names,y.2=.cell->y.1≠x
noncomputable def kY(P:Program)(w:World)(K:FG)(mg:SV)(base:Heap)(N:List Str)(qual:Str)(scope:Scope)(f:Addr)(cd:Value)(cl:LA)(A:Around)(outer:List Env)(s:Shared)(H:Hp):Cx where
 prog:=P
 w:=w
 K:=K
 mg:=mg
 base:=base
 A:=A.deeper (envX qual scope s.heap.objs.size f cd (cellsFrom (s.heap.objs.size+1) scope.names []++cl))
 N:=N
 s₀:=s
 H₀:=H
 env:=envX qual scope s.heap.objs.size f cd (cellsFrom (s.heap.objs.size+1) scope.names []++cl)
 outer:=outer
 stack:=envX qual scope s.heap.objs.size f cd (cellsFrom (s.heap.objs.size+1) scope.names []++cl)::outer
 ex:=[]
 calm:=true
 fn:=λ x=>decide (scope.names.lookup x=some .cell)
 pn:=[]
 xe:=λ _ _=>False
theorem GK{i:Nat}(h:(start N vs)[i]?=some (some v)):vs[i]?=some v:=by
 unfold start at h
 have hi:i < vs.length:=by
  by_cases hi:i < vs.length
  ·exact hi
  ·rw[cS (by simpa using hi),sE] at h;split at h<;>cases h
 rw[dw (by simpa using hi),bA] at h
 cases e:vs[i]? with
 | none=>rw[e] at h;cases h
 | some a=>rw[e] at h;cases h;rfl
theorem yR{K:FG}{cl:LA}{A:Around}{vs vcs:List V}
  (S:LmScope N ps fv scope) (hd:A.handled=none) (e0:Env0 P w K mg base A outer s H) (hl:vs.length=ps.length) (r:Vals vs us) (hcl:cl.map (·.1)=fv) (hc:CelAt H cl vcs)
  (x:InCallC s s.heap.objs.size (bindL (λ x=>scope.names.lookup x) (ps.zip us) λ _=>none) (cellsFrom (s.heap.objs.size+1) scope.names []) (bindC (λ x=>scope.names.lookup x) (ps.zip us) λ _=>none) s1) :
  Inv (kY P w K mg base N qual scope f cd cl A outer s (minC H cl)) [] (start N (vs++vcs)) (minC H cl) s1:=by
 obtain⟨h1,tk,rfl,hk⟩:=x.done;have cll:cl.length=fv.length:=by rw[← hcl,aA]
 have hpl:(ps++fv).length≤N.length:=by have:=dA List.length S.pre;rw[be] at this;lia
 have noA:∀b:Addr,b ∉ (kY P w K mg base N qual scope f cd cl A outer s (minC H cl)).ex:=λ b z=>absurd (show b∈([]:List Addr) from z) (by simp)
 have old:∀q∈cl,q.2 < s.heap.objs.size:=λ q hq=>by
  obtain⟨o,v,e⟩:=hc.mem hq;exact e0.hok.lt e
 have celv:∀(i:Nat) q,cl[i]?=some q->∃v u,vcs[i]?=some v/\RelV v u/\h1.IsCell q.2 (some u):=λ i q e=>by
  obtain⟨v,o,e1,e2⟩:=hc.at_ i q e;obtain⟨_,⟨u,ru,ic⟩,_⟩:=e0.hok _ _ e2;exact⟨v,u,e1,ru,ic.keeps hk⟩
 have lk:∀y c,(cellsFrom (s.heap.objs.size+1) scope.names []++cl).lookup y=some c->(y,c)∈cellsFrom (s.heap.objs.size+1) scope.names []\/(y,c)∈cl:=λ y c e=>cZ.mp (cR e);have abv:∀y c,(y,c)∈cellsFrom (s.heap.objs.size+1) scope.names []->s.heap.objs.size≤c:=λ y c e=>fP (x.above y c e)
 refine⟨⟨e0.mod,S.kind,rfl,rfl,aJ _,λ y z c h1 h2=>?_,λ y hy=>?_,λ y c hf h=>?_,λ _=>hd,wF e0.frames,.inr ⟨rfl,rfl⟩,λ b z=>absurd z (noA b),λ b o e=>⟨(e0.bs b o e).1,jo (e0.bs b o e).2⟩,e0.bsz,λ b _ _=>noA b,λ b z=>absurd z (noA b),e0.funs,λ b hb=>jo (e0.frf b hb)⟩,
  rfl,e0.bare,Un.kept hk,⟨_,x.toInCall.ns,λ i y v h1 h2 h3=>?_⟩,λ y c h=>?_,(e0.hok.minC hc).fresh (aJ _),λ y c h=>?_,λ p hp=>absurd (show p∈([]:LO) from hp) (by simp),(e0.hok.minC hc).kept hk,?_⟩
 ·rcases lk y c h1 with m1 | m1<;>rcases lk z c h2 with m2 | m2
  ·exact pR x.apart m1 m2
  ·exact absurd (abv y c m1) (Nat.not_le_of_lt (old _ m2))
  ·exact absurd (abv z c m2) (Nat.not_le_of_lt (old _ m1))
  ·exact pR hc.apart m1 m2
 ·have hy:scope.names.lookup y=some .cell\/scope.names.lookup y=some .free:=hy
  rcases hy with hy | hy
  ·obtain⟨c,e⟩:=nQ (n:=s.heap.objs.size+1) hy;exact⟨c,by show List.lookup y (cellsFrom (s.heap.objs.size+1) scope.names []++cl)=some c;rw[jn,e]⟩
  ·have hm:=S.has _ (cR hy) rfl;have hm:y∈cl.map (·.1):=by rw[hcl];exact hm
   obtain⟨q,hq,e⟩:=dL.mp hm;have iss:(cl.lookup y).isSome=true:=yO hq e;obtain⟨c,ec⟩:=kL.mp iss;have e1:(cellsFrom (s.heap.objs.size+1) scope.names []).lookup y=none:=qF (S.own y (by rw[← hcl];exact hm));exact⟨c,by show List.lookup y (cellsFrom (s.heap.objs.size+1) scope.names []++cl)=some c;rw[jn,e1];exact ec⟩
 ·have hf:scope.names.lookup y=some .cell:=eG hf;obtain⟨c',e⟩:=nQ (n:=s.heap.objs.size+1) hf;have h:List.lookup y (cellsFrom (s.heap.objs.size+1) scope.names []++cl)=some c:=h;rw[jn,e] at h;cases h;exact abv y _ (cR e)
 ·have ha:=GK h2;have hi:i < (vs++vcs).length:=(bv.mp ha).1;have lv:(vs++vcs).length=(ps++fv).length:=by rw[bu,bu,hl,← hc.len,cll]
  have hp:(ps++fv)[i]?=some y:=by
   rw[← S.pre,eZ (by lia)];exact h1
  have ndA:(ps++fv).Nodup:=by rw[← S.pre];exact S.nd.sublist (List.take_sublist _ _)
  have ndP:ps.Nodup:=ndA.sublist (List.sublist_append_left _ _);by_cases hil:i < ps.length
  ·rw[dw (by lia)] at ha;rw[dw hil] at hp;obtain⟨u,hu,rv⟩:=r.get ha;refine⟨u,rv,?_⟩
   rcases S.par y (bw hp) with k | k
   ·exact .inl ⟨k,sy ndP hp hu k⟩
   ·obtain⟨c,e⟩:=nQ (n:=s.heap.objs.size+1) k;refine .inr ⟨.inl k,c,by show List.lookup y (cellsFrom (s.heap.objs.size+1) scope.names []++cl)=some c;rw[jn,e],?_⟩;have q:=x.cell y c e;rw[sD ndP hp hu (by rw[k];decide)] at q;exact q
  ·rw[cS (by lia),hl] at ha;rw[cS (by lia)] at hp;have hm:=bw hp;have hqc:(cl.map (·.1))[i - ps.length]?=some y:=by rw[hcl];exact hp
   rw[bA] at hqc
   obtain⟨q,eq,e1⟩:∃q,cl[i - ps.length]?=some q/\q.1=y:=by
    cases z:cl[i - ps.length]? with
    | none=>rw[z] at hqc;cases hqc
    | some q=>rw[z] at hqc;exact⟨q,rfl,cz hqc⟩
   obtain⟨v',u,e2,ru,ic⟩:=celv _ q eq;rw[ha] at e2;cases e2;have ndF:(cl.map (·.1)).Nodup:=by rw[hcl];exact ndA.sublist (List.sublist_append_right _ _)
   have lkq:cl.lookup y=some q.2:=by rw[← e1];exact yP ndF (bw eq)
   have own0:(cellsFrom (s.heap.objs.size+1) scope.names []).lookup y=none:=qF (S.own y hm);exact⟨u,ru,.inr ⟨.inr (S.fre y hm),q.2,by show List.lookup y (cellsFrom (s.heap.objs.size+1) scope.names []++cl)=some q.2;rw[jn,own0];exact lkq,ic⟩⟩
 ·rcases lk y c h with m | m
  ·have h:List.lookup y (cellsFrom (s.heap.objs.size+1) scope.names []++cl)=some c:=h;rw[jn] at h
   cases e:(cellsFrom (s.heap.objs.size+1) scope.names []).lookup y with
   | some c2=>rw[e] at h;cases h;exact⟨_,x.cell y _ e⟩
   | none =>
    rw[e] at h;obtain⟨i,ei⟩:=qG.mp (cR h);obtain⟨v,u,_,_,ic⟩:=celv i _ ei;exact⟨_,ic⟩
  ·obtain⟨i,ei⟩:=qG.mp m;obtain⟨v,u,_,_,ic⟩:=celv i _ ei;exact⟨_,ic⟩
 ·rcases lk y c h with m | m
  ·exact(e0.hok.minC hc).fresh (abv y c m)
  ·exact mD m
 ·unfold start;show _=N.length;have lv:(vs++vcs).length=(ps++fv).length:=by rw[bu,bu,hl,← hc.len,cll]
  rw[bu,aA,pT];lia
noncomputable def qH(P:Program)(w:World)(K:FG)(mg:SV)(base:Heap)(k:Nat)(fa:Addr)(vs:List V)(H:Hp)(Q:VK):Prop :=
 ∀(A:Around) (outer:List Env) (s:Shared) (us:LV),Room k A->Env0 P w K mg base A outer s H->Vals vs us->codeAny (model P w) A (.call (.ref fa) ⟨us,[]⟩) (CR CX0 outer P w H s Q λ _ _ _=>False) s
theorem mE{K:FG}{qual:Str}{cl:LA}{vs vcs:List V}{H:Hp}{Q:VK}
  (S:LmScope N ps fv scope) (hcl:cl.map (·.1)=fv)
  (hb:∀(pm ctv:Value) (us:LV),us.length=ps.length->bindArgs (kla_fn "<lambda>" qual params body scope cl pm (.ref c') ctv) ⟨us,[]⟩=pure (ps.zip us)) (hl:vs.length=ps.length)
  (L1:H fa=some (hW fa c' qual params body scope cl)) (L2:H c'=some (eE c' qual)) (hc:CelAt H cl vcs)
  (hbody:∀(A:Around) (outer:List Env) (s:Shared),Room k (A.deeper (envX qual scope s.heap.objs.size fa (.ref c') (cellsFrom (s.heap.objs.size+1) scope.names []++cl)))->PE (kY P w K mg base N qual scope fa (.ref c') cl A outer s (minC H cl)) body te)
  (hq:te (start N (vs++vcs)) (minC H cl) (λ v H'=>Q v (resC H H' cl))):qH P w K mg base (k+1) fa vs H Q:=by
 intro A outer s us hr e0 r;obtain⟨⟨pm,ctv,ho⟩,_⟩:=e0.hok fa _ L1;obtain⟨hcd,_⟩:=e0.hok c' _ L2;have lim:s.heap.NoLimit:=e0.mod.nolimit.keeps λ b o e=>(e0.bs b o e).1
 have hkind:∀y∈ps.zip us,scope.names.lookup y.1=some .local\/(scope.names.lookup y.1=some .cell/\((cellsFrom (s.heap.objs.size+1) scope.names []).lookup y.1).isSome=true):=λ⟨n,v⟩ hy=>by
  rcases S.par n (nP hy).1 with q | q
  ·exact .inl q
  ·exact .inr ⟨q,pQ _ _ _ (.inl q)⟩
 refine kla_callFunE hr.depth ho rfl S.co S.gen rfl hcd ?_;rw[hb pm ctv us (by rw[← r.length];exact hl)];refine aK (yQ S.kind hkind λ env he s1 x=>?_);subst he;refine⟨lim.keeps x.toInCall.keep,kla_codeExpr ?_⟩;have I:Inv (kY P w K mg base N qual scope fa (.ref c') cl A outer s (minC H cl)) [] (start N (vs++vcs)) (minC H cl) s1:=yR S hr.hd e0 hl r hcl hc x;refine dG (hbody A outer s (hr.deeper _) [] s1 _ _ _ I hq) (λ u s' hs=>?_) (λ e s' hs=>False.elim hs);obtain⟨v,H',J,rv,q⟩:=hs;have un:Un (frs outer) [] (minC H cl) H' s.heap s'.heap:=J.base
 have nfr:∀q∈cl,q.2 ∉ frs outer:=λ q hq z=>by
  obtain⟨o,v,e⟩:=hc.mem hq;rw[e0.frf _ z] at e;cases e
 have kc:∀q∈cl,∀o,s.heap.get? q.2=some o->s'.heap.get? q.2=some o/\H' q.2=none:=λ q hq o e=>⟨un.keep _ o e (mD hq) (nfr q hq) (by simp),un.free _ o e (mD hq) (by simp)⟩
 have there:∀q∈cl,∃o,s.heap.get? q.2=some o:=λ q hq=>by
  obtain⟨o,v,e⟩:=hc.mem hq;exact⟨o,(e0.hok _ _ e).1⟩
 have split:∀b,(∃q∈cl,q.2=b)\/∀q∈cl,q.2≠b:=λ b=>by
  by_cases c:∃q∈cl,q.2=b
  ·exact .inl c
  ·exact .inr λ q hq e=>c ⟨q,hq,e⟩
 refine⟨v,resC H H' cl,J.os,J.bare,⟨λ b o e n hb hx=>un.keep b o e (jo n) hb hx,λ b o e n hb hx=>un.slot b o e (jo n) hb hx,λ b o e n hx=>?_,un.there,λ b xs e=>?_,λ b o u e=>?_,λ b ps e=>?_⟩,λ b o e=>?_,rv,q⟩
 ·rcases split b with ⟨q,hq,rfl⟩ | hn
  ·rw[jp hq];exact n
  ·rw[gq hn];exact un.free b o e (jo n) hx
 ·rcases split b with ⟨q,hq,rfl⟩ | hn
  ·rw[jp hq];exact e
  ·rw[gq hn];exact un.tups b xs (by rw[fU hn];exact e)
 ·rcases split b with ⟨q,hq,rfl⟩ | hn
  ·rw[jp hq];exact e
  ·rw[gq hn];exact un.frzs b o u (by rw[fU hn];exact e)
 ·rcases split b with ⟨q,hq,rfl⟩ | hn
  ·obtain⟨o,v,e2⟩:=hc.mem hq;rw[e] at e2;cases e2
  ·rw[gq hn];exact un.tbls b ps (by rw[fU hn];exact e)
 ·rcases split b with ⟨q,hq,rfl⟩ | hn
  ·rw[jp hq] at e;obtain⟨o2,v2,e2⟩:=hc.mem hq;rw[e] at e2;cases e2;obtain⟨g1,⟨u2,ru,ic⟩,_,st⟩:=e0.hok _ _ e;have k1:=(kc q hq _ g1).1;refine⟨k1,⟨u2,ru,?_⟩,⟨_,k1⟩,st⟩;obtain⟨o3,e3,d3⟩:=ic;rw[g1] at e3;cases e3;exact⟨_,k1,d3⟩
  ·rw[gq hn] at e
   have nf:∀c u,H' c=some u->resC H H' cl c=some u:=λ c u e2=>by
    rcases split c with ⟨q,hq,rfl⟩ | hn
    ·obtain⟨o,eo⟩:=there q hq;rw[(kc q hq o eo).2] at e2;cases e2
    ·rw[gq hn];exact e2
   exact(J.hok b o e).stay (λ _ _ _ q=>q) (λ c q=>nf c _ q) λ c xs q=>nf c _ q
end L2
namespace L2
open PySem PySem.Spec PyProof.Rows PySem.W PySem.Calls
def FnV(H:Hp)(fa:Addr):Prop:=∃φ,H fa=some (.ext φ)/\∀h,φ h->FnAt fa h
theorem FnV.same{H H':Hp}(h:FnV H fa)(s:∀o,H fa=some o->H' fa=some o):FnV H' fa:=let ⟨φ,e,k⟩:=h;⟨φ,s _ e,k⟩
theorem FnV.lam{H:Hp}(h:H fa=some (hW fa c' qual params body scope cl)):FnV H fa:=⟨_,h,λ _ ⟨_,_,e⟩=>⟨_,_,_,_,e⟩⟩
noncomputable def tU(P:Program)(w:World)(K:FG)(mg:SV)(base:Heap)(k i:Nat)(t:TA):TE:=λ σ H Q=>∃fa,σ[i]?=some (some (.ref fa))/\FnV H fa/\t σ H λ vs H1=>FnV H1 fa/\qH P w K mg base k fa vs H1 Q
section
variable {X:Cx}{k:Nat}{x:Str}{p pos:Pos}{e:Expr}{es:List Expr}{t:TA}
theorem GL{i:Nat}(hr:Room k X.A)(hN:X.N[i]?=some x)(hv:Vis X.env.scope x)(ha:PA X (e::es) t)(hd:(x == ("__debug__" : Str))=false:=by decide)(hcd:(x == ("__classdict__" : Str))=false:=by decide)
  (he:starEach (e::es) X.env=(false,eval e X.env)::starEach es X.env:=by rfl) (hpl:(backTo pos (starEach es X.env)).any (·.1)=false:=by rfl) :
  PE X (.Call (.Name x p) (e::es) [] pos) (tU X.prog X.w X.K X.mg X.base k i t):=by
 intro pins s σ H Q I h;obtain⟨fa,es',fn,h⟩:=h;refine lY (thn ((vR (pos:=p) hN hv hd hcd) pins s σ H (λ v H1=>v=.ref fa/\H1=H) I (by unfold iU;rw[es'];exact⟨rfl,rfl⟩)) λ u s1 ⟨v,H1,I1,r1,e1,e2⟩=>?_);subst e1 e2;cases r1;have at1:∀ {H':Hp}{s':Shared},Inv X pins σ H' s'->FnV H' fa->FnAt fa s'.heap:=λ J ⟨φ,e,k⟩=>k _ (J.hok _ _ e).1;refine callWith_F (at1 I1 fn) (thn (ha pos pins s1 σ _ _ I1 h) λ us s2 ⟨vs,H2,I2,r2,fn2,cv⟩=>⟨at1 I2 fn2,?_⟩) he hpl;refine wpAny_call (nO (cv X.A X.stack s2 us hr I2.env0 r2) λ r s' hq=>?_)
 cases r with
 | error e=>exact False.elim hq
 | ok fl =>
  cases fl with
  | ret u=>exact I2.after hq
  | next=>exact False.elim hq
  | brk=>exact False.elim hq
  | cont=>exact False.elim hq
end
def OwnCl(ec:LA)(fv:List Str)(cl:LA):Prop:=cl.map (·.1)=fv/\∀q∈cl,ec.lookup q.1=some q.2
theorem OwnCl.uniq:∀ {fv:List Str}{cl cl':LA},OwnCl ec fv cl->OwnCl ec fv cl'->cl=cl'
 | [],[],[],_,_=>rfl
 | [],_::_,_,h,_=>by cases h.1
 | [],[],_::_,_,h=>by cases h.1
 | _::_,[],_,h,_=>by cases h.1
 | _::_,_::_,[],_,h=>by cases h.1
 | n::fv,(a,c)::cl,(b,d)::cl',h,h'=>by
  have e1:a=n:=(oi h.1).1;have e2:b=n:=(oi h'.1).1;subst e1 e2;have l1:=h.2 (b,c) bF;have l2:=h'.2 (b,d) bF;rw[show ec.lookup b=some c from l1] at l2;cases l2;rw[OwnCl.uniq (fv:=fv) ⟨(oi h.1).2,λ q hq=>h.2 q (aM _ hq)⟩ ⟨(oi h'.1).2,λ q hq=>h'.2 q (aM _ hq)⟩]
noncomputable def TabOk(H:Hp)(T:Addr)(pos:Pos)(qual:Str):Prop:=∃ps,H T=some (.tbl ps)/\TriplesOk ps.toList/\(codeAmong pos ps.toList=none\/∃c',codeAmong pos ps.toList=some (.ref c')/\H c'=some (eE c' qual))
theorem TabOk.same{H H':Hp}(h:TabOk H T pos qual)(s:∀a o,H a=some o->H' a=some o):TabOk H' T pos qual:=by
 obtain⟨ps,e,t,z⟩:=h;exact⟨ps,s _ _ e,t,z.imp id λ⟨c',a,b⟩=>⟨c',a,s _ _ b⟩⟩
theorem yS{c:Value}(l:LV)(h:TriplesOk l):TriplesOk (l++[rawInt a,rawInt b,c]):=by
 fun_induction TriplesOk l with
 | case1=>simp[TriplesOk,rawInt]
 | case2 i t j u v rest ih=>simpa [TriplesOk] using ih h
 | case3=>exact h.elim
structure TabF (base:Heap)(mg:SV)(c T:Addr):Prop where
 hd:CodeHd base c T
 none_:base.get? T=none
 blt:∃bm o,mg "__builtins__"=some (.ref bm)/\bm≠builtinsNs/\bm≠mainGlobals/\bm≠T/\base.get? bm=some o/\o.cls=.type "module" /\ o.dict=some builtinsNs/\o.data=.plain
 ne:mainGlobals≠T
noncomputable def yT(ec:LA)(fv:List Str)(T:Addr)(pos:Pos)(qual:Str)(params:Arguments)(body:Expr)(scope:Scope):TE:=λ _ H Q=>TabOk H T pos qual /\
 ∀fa c' cl H2,OwnCl ec fv cl->H fa=none->H2 fa=some (hW fa c' qual params body scope cl)->H2 c'=some (eE c' qual)->TabOk H2 T pos qual->(∀b o,b≠T->H b=some o->H2 b=some o)->Q (.ref fa) H2
theorem qI{h1 h2:Heap}(x:h1.CodeRec (.ref c) qual)(k:∀o,h1.get? c=some o->h2.get? c=some o):h2.CodeRec (.ref c) qual:=by
 obtain⟨c',o,vs,t,e,ho,r⟩:=x;cases e;exact⟨c,o,vs,t,rfl,k _ ho,r⟩
section
variable {X:Cx}{params:Arguments}{body:Expr}{scope:Scope}{pos:Pos}{fv:List Str}{c T:Addr}{cl:LA}
theorem mF{qual:Str}(hq:X.env.qual ++ "<lambda>"=qual)(hcode:X.env.code=.ref c)(TF:TabF X.base X.mg c T)(hdef:defaultsOf params X.env=([],[]))(hcl:closureFor scope X.env=pure cl)(own:OwnCl X.env.cells fv cl) :
  PE X (.Lambda params body scope pos) (yT X.env.cells fv T pos qual params body scope):=by
 intro pins s σ H Q I h;obtain⟨⟨ps,hT,ht,hz⟩,h⟩:=h;subst hq;have eT:s.heap.get? T=some (tabObj ps):=I.hok _ _ hT;have hg:s.heap.Ns mainGlobals X.mg:=I.mod.glob.keeps I.bk;obtain⟨bm,ob,b1,b2,b3,b4,b5,b6⟩:=TF.blt;have hb:s.heap.BuiltinsAt X.mg T:=⟨bm,ob,b1,b2,b3,b4,I.bk _ _ b5,b6⟩;have C:CodeHd s.heap c T:=TF.hd.keeps I.bk;refine kla_eval hdef ?_
 rcases hz with hnf | ⟨c',hf,hc'⟩
 ·refine kla_makeFunction hcl I.ok.glob hg hcode C eT ht hnf TF.ne hb λ c' ctv h' tk hx hge hlt hrec htb=>?_;have hfa:H h'.objs.size=none:=I.hok.fresh (fP (jU hge hlt));have hc0:H c'=none:=I.hok.fresh hge;have nTc:c'≠T:=λ z=>by rw[z,hT] at hc0;cases hc0
  have nTf:h'.objs.size≠T:=λ z=>by rw[z,hT] at hfa;cases hfa
  have ncf:c'≠h'.objs.size:=bM hlt;have old:∀b o,b≠T->s.heap.get? b=some o->(h'.push (kla_obj "<lambda>" (X.env.qual ++ "<lambda>") params body scope cl ((X.mg "__name__").getD .none) c' ctv)).get? b=some o:=λ b o n e=>bd _ (hx b o n e);have eP:(h'.push (kla_obj "<lambda>" (X.env.qual ++ "<lambda>") params body scope cl ((X.mg "__name__").getD .none) c' ctv)).get? T=some (tabObj (ps++#[rawInt pos.line,rawInt pos.col,.ref c'])):=bd _ htb;have eF:(h'.push (kla_obj "<lambda>" (X.env.qual ++ "<lambda>") params body scope cl ((X.mg "__name__").getD .none) c' ctv)).get? h'.objs.size=some (kla_obj "<lambda>" (X.env.qual ++ "<lambda>") params body scope cl ((X.mg "__name__").getD .none) c' ctv):=bG _ rfl;have eC:(h'.push (kla_obj "<lambda>" (X.env.qual ++ "<lambda>") params body scope cl ((X.mg "__name__").getD .none) c' ctv)).CodeRec (.ref c') (X.env.qual ++ "<lambda>"):=qI hrec λ o e=>bd _ e;generalize h'.push (kla_obj "<lambda>" (X.env.qual ++ "<lambda>") params body scope cl ((X.mg "__name__").getD .none) c' ctv)=h2 at *;generalize h'.objs.size=fa at *;have lowT:∀b o,s.heap.get? b=some o->b≠c'/\(H b=none->b≠T):=λ b o e=>⟨bM (cD (br e) hge),λ n z=>by rw[z,hT] at n;cases n⟩;have lowF:∀b o,s.heap.get? b=some o->b≠fa:=λ b o e=>bM (s1d (cD (br e) hge) hlt);have out:∀b,b≠T->b≠c'->b≠fa->upd (upd (upd H T (.tbl (ps++#[rawInt pos.line,rawInt pos.col,.ref c']))) c' (eE c' (X.env.qual ++ "<lambda>"))) fa (hW fa c' (X.env.qual ++ "<lambda>") params body scope cl) b=H b:=λ b n1 n2 n3=>by rw[bo n3,bo n2,bo n1]
  have trk:∀b o,H b=some o->b≠c'/\b≠fa:=λ b o e=>⟨(λ z=>by rw[z,hc0] at e;cases e),(λ z=>by rw[z,hfa] at e;cases e)⟩;have HT:upd (upd (upd H T (.tbl (ps++#[rawInt pos.line,rawInt pos.col,.ref c']))) c' (eE c' (X.env.qual ++ "<lambda>"))) fa (hW fa c' (X.env.qual ++ "<lambda>") params body scope cl) T=some (.tbl (ps++#[rawInt pos.line,rawInt pos.col,.ref c'])):=by rw[bo nTf.symm,bo nTc.symm,ar]
  have HC:upd (upd (upd H T (.tbl (ps++#[rawInt pos.line,rawInt pos.col,.ref c']))) c' (eE c' (X.env.qual ++ "<lambda>"))) fa (hW fa c' (X.env.qual ++ "<lambda>") params body scope cl) c'=some (eE c' (X.env.qual ++ "<lambda>")):=by rw[bo ncf,ar]
  have HF:upd (upd (upd H T (.tbl (ps++#[rawInt pos.line,rawInt pos.col,.ref c']))) c' (eE c' (X.env.qual ++ "<lambda>"))) fa (hW fa c' (X.env.qual ++ "<lambda>") params body scope cl) fa=some (hW fa c' (X.env.qual ++ "<lambda>") params body scope cl):=ar;generalize upd (upd (upd H T (.tbl (ps++#[rawInt pos.line,rawInt pos.col,.ref c']))) c' (eE c' (X.env.qual ++ "<lambda>"))) fa (hW fa c' (X.env.qual ++ "<lambda>") params body scope cl)=H2 at *;have same:∀b o,b≠T->H b=some o->H2 b=some o:=λ b o n e=>by rw[out b n (trk b o e).1 (trk b o e).2];exact e
  have un:Un X.fs [] H H2 s.heap h2:=⟨λ b o e n _ _=>old b o ((lowT b o e).2 n) e,λ b o e n _ _=>⟨o.slots,old b o ((lowT b o e).2 n) e⟩,λ b o e n _=>by rw[out b ((lowT b o e).2 n) (lowT b o e).1 (lowF b o e)];exact n,λ b o e _=>by
   by_cases z:b=T
   ·rw[z];exact⟨_,eP⟩
   ·exact⟨o,old b o z e⟩,λ b xs e=>same b _ (λ z=>by rw[z,hT] at e;cases e) e,λ b o u e=>same b _ (λ z=>by rw[z,hT] at e;cases e) e,λ b qs e=>by
   by_cases z:b=T
   ·subst z;rw[hT] at e;cases e;exact⟨_,HT⟩
   ·exact⟨#[],by rw[same b _ z e];simp⟩⟩
  have hok:HOk X.prog X.w H2 h2:=λ b o e=>by
   by_cases zf:b=fa
   ·subst zf;rw[HF] at e;cases e;exact⟨⟨_,_,eF⟩,⟨_,eF⟩,λ h1 h3 ⟨pm,cv,e1⟩ k=>⟨pm,cv,k _ e1⟩⟩
   ·by_cases zc:b=c'
    ·subst zc;rw[HC] at e;cases e;obtain⟨c2,o2,vs2,t2,e2,ho2,r2⟩:=id eC;cases e2;exact⟨eC,⟨_,ho2⟩,λ h1 h3 x k=>qI x k⟩
    ·by_cases zT:b=T
     ·subst zT;rw[HT] at e;cases e;exact eP
     ·rw[out b zT zc zf] at e;refine(I.hok b o e).stay (λ d u hd q=>old d u (λ z=>?_) q) (λ d q=>same d _ (λ z=>by rw[z,hT] at q;cases q) q) λ d xs q=>same d _ (λ z=>by rw[z,hT] at q;cases q) q
      rcases hd with hd | hd
      ·exact zT (hd.symm.trans z)
      ·rw[z,hT] at hd;cases hd
  exact⟨.ref fa,H2,I.un un hok,rfl,h fa c' cl H2 own hfa HF HC ⟨_,HT,by simpa using yS ps.toList ht,.inr ⟨c',by simpa using codeAmong_snoc ps.toList ht hnf,HC⟩⟩ same⟩
 ·refine kla_makeFunctionHit hcl I.ok.glob hg hcode C eT ht hf hb λ ctv h' tk hx hsz=>?_;have hfa:H h'.objs.size=none:=I.hok.fresh hsz;have same:∀b o,H b=some o->upd H h'.objs.size (hW h'.objs.size c' (X.env.qual ++ "<lambda>") params body scope cl) b=some o:=λ b o e=>by rw[bo (jH e hfa)];exact e
  refine⟨.ref h'.objs.size,upd H h'.objs.size (hW h'.objs.size c' (X.env.qual ++ "<lambda>") params body scope cl),I.laid (t':=tk) (λ b u e=>bd _ (hx b u e)) hsz ?_,rfl,h _ c' cl _ own hfa ar (same _ _ hc') ⟨ps,same _ _ hT,ht,.inr ⟨c',hf,same _ _ hc'⟩⟩ λ b o _ e=>same b o e⟩;exact⟨⟨_,_,bG _ rfl⟩,⟨_,bG _ rfl⟩,λ h1 h3 ⟨pm,cv,e1⟩ k=>⟨pm,cv,k _ e1⟩⟩
end
end L2
namespace L2
open PySem PySem.Spec PyProof.Rows PySem.W PySem.Calls
noncomputable def addC(h:Heap)(H:Hp):LA->List V->Hp
 | q::cl,v::vs=>upd (addC h H cl vs) q.2 (.frz ((h.get? q.2).getD { cls:=.none,data:=.plain }) (og q.2 v))
 | _,_=>H
theorem yU{b:Addr}:∀ {cl:LA}{vs:List V},(∀q∈cl,q.2≠b)->addC h H cl vs b=H b
 | [],_,_=>rfl
 | _::_,[],_=>rfl
 | q::cl,v::vs,n=>by
  show upd _ _ _ b=_;rw[bo (cY (n q bF))];exact yU λ q' hq=>n q' (aM _ hq)
theorem yV:∀ {cl:LA}{vs:List V},(cl.Pairwise λ x y=>x.2≠y.2)->cl.length=vs.length->∀(i:Nat) q,cl[i]?=some q->∃v,vs[i]?=some v/\addC h H cl vs q.2=some (.frz ((h.get? q.2).getD { cls:=.none,data:=.plain }) (og q.2 v))
 | [],_,_,_,i,q,e=>by simp at e
 | _::_,[],_,l,_,_,_=>by simp at l
 | a::cl,v::vs,pw,l,0,q,e=>by
  cases (cz e);exact⟨v,rfl,ar⟩
 | a::cl,v::vs,pw,l,i+1,q,e=>by
  have e:cl[i]?=some q:=by simpa using e
  obtain⟨u,e1,e2⟩:=yV (oj.mp pw).2 (by simpa using l) i q e;refine⟨u,by simpa using e1,?_⟩;show upd _ _ _ _=_;rw[bo (cY ((oj.mp pw).1 q (bw e)))];exact e2
noncomputable def yW(ec:LA)(fv:List Str)(js:List Nat)(sp:Sp)(t:TA):TE:=λ σ H Q=>t σ H λ vs H1=>∃vcs:List V,js.map (λ j=>σ[j]?)=vcs.map (λ v=>some (some v)) /\
 ∀cl H2,OwnCl ec fv cl->(∀q∈cl,H1 q.2=none)->CelAt H2 cl vcs->(∀b,(∀q∈cl,q.2≠b)->H2 b=H1 b)->sp vs H2 (λ v H'=>Q v (minC H' cl)) E0
section
variable {X:Cx}{k:Nat}{x:Str}{ps:List Str}{sp:Sp}{p pos:Pos}{e:Expr}{es:List Expr}{t:TA}{fv:List Str}{js:List Nat}{cl:LA}
theorem jq(c:Callee X.prog X.w X.K X.mg X.base CX0 k x ps sp)(hr:Room k X.A)(hg:Gl X x)(own:OwnCl X.env.cells fv cl)(hj:js.map (λ j=>X.N[j]?)=fv.map some)(hk:∀n∈fv,X.env.scope.names.lookup n=some .cell)(hf:∀n∈fv,X.fn n=true)(nd:fv.Nodup)
  (ha:PA X (e::es) t) (hdb:(x == ("__debug__" : Str))=false:=by decide)
  (he:starEach (e::es) X.env=(false,eval e X.env)::starEach es X.env:=by rfl) (hpl:(backTo pos (starEach es X.env)).any (·.1)=false:=by rfl) :
  PE X (.Call (.Name x p) (e::es) [] pos) (yW X.env.cells fv js sp t):=by
 obtain⟨f,fd,F,hm,kp,hb⟩:=c.has;intro pins s0 σ H0 Q I0 h;refine lY (pq I0 hg hm ?_ hdb);refine W.callWith_K (h₀:=X.base) I0.ok.mod.kin kp (thn (ha pos pins s0 σ H0 _ I0 h) λ us s ⟨vs,H,I,r,vcs,hv,q⟩=>⟨I.kIn,?_⟩) he hpl;have mfv:∀q∈cl,q.1∈fv:=λ q hq=>by rw[← own.1];exact dL.mpr ⟨q,hq,rfl⟩
 have free:∀q∈cl,H q.2=none:=λ q hq=>I.freeC q.1 q.2 (own.2 q hq)
 have apart:cl.Pairwise λ x y=>x.2≠y.2:=by
  have nd':(cl.map (·.1)).Nodup:=by rw[own.1];exact nd
  have ec:=own.2;clear own mfv free
  induction cl with
  | nil=>exact .nil
  | cons a r ih =>
   refine oj.mpr ⟨λ y hy z=>?_,ih (jP.mp nd').2 (λ q hq=>ec q (aM _ hq))⟩;have:=I.ok.inj a.1 y.1 a.2 (ec a bF) (by rw[z];exact ec y (aM _ hy));exact(jP.mp nd').1 (dL.mpr ⟨y,hy,this.symm⟩)
 have lf:js.length=fv.length:=by have:=dA List.length hj;simpa using this
 have lv:js.length=vcs.length:=by have:=dA List.length hv;simpa using this
 have lc:cl.length=fv.length:=by rw[← own.1,aA]
 have l:cl.length=vcs.length:=by rw[lc,← lf,lv]
 have holds:∀(i:Nat) q,cl[i]?=some q->∃v u,vcs[i]?=some v/\RelV v u/\s.heap.IsCell q.2 (some u):=λ i q e=>by
  have il:i < cl.length:=(bv.mp e).1;have ej:=aX (l:=js) (i:=i) (by lia);have ev:=aX (l:=vcs) (i:=i) (by lia)
  have en:X.N[js[i]'(by lia)]?=some q.1:=by
   have z:=dA (λ l=>l[i]?) hj;simp only[bA,ej,Option.map_some] at z;have y:fv[i]?=some q.1:=by rw[← own.1,bA,e];rfl
   rw[y] at z;exact cz z
  have eσ:σ[js[i]'(by lia)]?=some (some (vcs[i]'(by lia))):=by
   have z:=dA (λ l=>l[i]?) hv;simp only[bA,ej,ev,Option.map_some] at z;exact cz z
  obtain⟨m,_,lo⟩:=I.loc;have kq:=hk q.1 (mfv q (bw e));obtain⟨u,ru,lk⟩:=lo _ _ _ en eσ (.inr (.inl kq));refine⟨_,u,ev,ru,?_⟩
  rcases lk with ⟨k1,_⟩ | ⟨_,c,ec,ic⟩
  ·have k1:X.env.scope.names.lookup q.1=some .local:=k1;rw[kq] at k1;cases k1
  ·rw[own.2 q (bw e)] at ec;cases ec;exact ic
 have hat:=yV (h:=s.heap) (H:=H) apart l;have hC:CelAt (addC s.heap H cl vcs) cl vcs:=⟨l,λ i q e=>let ⟨v,e1,e2⟩:=hat i q e;⟨v,_,e1,e2⟩,apart⟩;have hout:∀b,(∀q∈cl,q.2≠b)->addC s.heap H cl vcs b=H b:=λ b n=>yU n
 have split:∀b,(∃q∈cl,q.2=b)\/∀q∈cl,q.2≠b:=λ b=>by
  by_cases c:∃q∈cl,q.2=b
  ·exact .inl c
  ·exact .inr λ q hq e=>c ⟨q,hq,e⟩
 have gobj:∀q∈cl,∃o v,addC s.heap H cl vcs q.2=some (.frz o (og q.2 v))/\s.heap.get? q.2=some o/\∃u,RelV v u/\s.heap.IsCell q.2 (some u):=λ q hq=>by
  obtain⟨i,e⟩:=qG.mp hq;obtain⟨v,e1,e2⟩:=hat i q e;obtain⟨v',u,e3,ru,ic⟩:=holds i q e;rw[e1] at e3;cases e3;obtain⟨o,eo,d⟩:=id ic;rw[eo] at e2;exact⟨o,v,e2,eo,u,ru,ic⟩
 have trk:∀b o,H b=some o->addC s.heap H cl vcs b=some o:=λ b o e=>by
  rw[hout b λ q hq z=>by rw[← z,free q hq] at e;cases e];exact e
 have hok:HOk X.prog X.w (addC s.heap H cl vcs) s.heap:=λ b o e=>by
  rcases split b with ⟨q,hq,rfl⟩ | hn
  ·obtain⟨o',v,e1,eo,u,ru,ic⟩:=gobj q hq;rw[e1] at e;cases e;exact⟨eo,⟨u,ru,ic⟩,⟨_,eo⟩,λ h1 h2 ⟨u,ru,o2,e2,d2⟩ k=>⟨u,ru,o2,k _ e2,d2⟩⟩
  ·rw[hout b hn] at e;exact(I.hok b o e).stay (λ _ _ _ z=>z) (λ d z=>trk d _ z) λ d xs z=>trk d _ z
 have abv:∀q∈cl,X.s₀.heap.objs.size≤q.2:=λ q hq=>I.ok.cab q.1 q.2 (hf q.1 (mfv q hq)) (own.2 q hq)
 have nfr:∀b∈frs X.stack,∀q∈cl,q.2≠b:=λ b hb q hq z=>by
  rcases bE.mp (I.stkSub b hb) with y | y
  ·exact I.cne q.1 q.2 (own.2 q hq) (z.trans y)
  ·obtain⟨_,o,eo,_⟩:=I.ok.funs.mem y;have:=br eo;rw[← z] at this;exact absurd this (Nat.not_lt_of_le (abv q hq))
 have e0:Env0 X.prog X.w X.K X.mg X.base X.A X.stack s (addC s.heap H cl vcs):=by
  have b0:=I.env0;refine⟨b0.frames,b0.mod,λ b o e=>⟨(b0.bs b o e).1,?_⟩,b0.bsz,b0.funs,λ b hb=>?_,hok,b0.bare⟩
  ·rw[hout b λ q hq z=>?_]
   ·exact(b0.bs b o e).2
   ·have:=br e;rw[← z] at this;exact absurd (cD this I.ok.bsz) (Nat.not_lt_of_le (abv q hq))
  ·rw[hout b (nfr b hb)];exact b0.frf b hb
 have hl:us.length=ps.length:=by rw[← r.length];exact F.len _ _ _ _ (q cl _ own free hC hout)
 have hb':=hb s us I.kIn (by simpa using hl);rw[ag] at hb';refine wpAny_call (nO (F.run X.A X.stack s (addC s.heap H cl vcs) ⟨us,[]⟩ us vs _ E0 hr e0 hb' r (q cl _ own free hC hout)) λ r s' hq=>?_)
 cases r with
 | error e=>exact False.elim hq
 | ok fl =>
  cases fl with
  | next=>exact False.elim hq
  | brk=>exact False.elim hq
  | cont=>exact False.elim hq
  | ret u =>
   obtain⟨v,H',os,bare,un,hok',rv,q'⟩:=hq;have hC':CelAt H' cl vcs:=⟨l,λ i q e=>let ⟨v,o,e1,e2⟩:=hC.at_ i q e;⟨v,o,e1,un.frzs _ _ _ e2⟩,apart⟩;obtain⟨hh,gg,dd,tt,os'⟩:=s';obtain rfl:os'=s.os:=os
   have un2:Un (frs X.stack) [] H (minC H' cl) s.heap hh:=by
    refine⟨λ b o e n hb hx=>?_,λ b o e n hb hx=>?_,λ b o e n hx=>?_,un.there,λ b xs e=>?_,λ b o u e=>?_,λ b qs e=>?_⟩
    ·rcases split b with ⟨q,hq,rfl⟩ | hn
     ·obtain⟨o',v',e1,eo,_⟩:=gobj q hq;rw[e] at eo;cases eo;exact(hok' _ _ (un.frzs _ _ _ e1)).1
     ·exact un.keep b o e (by rw[hout b hn];exact n) hb hx
    ·exact un.slot b o e (by rw[hout b (nfr b hb)];exact n) hb hx
    ·rcases split b with ⟨q,hq,rfl⟩ | hn
     ·exact mD hq
     ·exact jo (un.free b o e (by rw[hout b hn];exact n) hx)
    ·have hn:∀q∈cl,q.2≠b:=λ q hq z=>by rw[← z,free q hq] at e;cases e
     rw[fU hn];exact un.tups b xs (trk b _ e)
    ·have hn:∀q∈cl,q.2≠b:=λ q hq z=>by rw[← z,free q hq] at e;cases e
     rw[fU hn];exact un.frzs b o u (trk b _ e)
    ·have hn:∀q∈cl,q.2≠b:=λ q hq z=>by rw[← z,free q hq] at e;cases e
     rw[fU hn];exact un.tbls b qs (trk b _ e)
   exact⟨v,minC H' cl,I.call (h':=hh) (g':=gg) (d':=dd) (t':=tt) (ch:=[]) un2 (hok'.minC hC') bare (λ b z=>absurd z (by simp)),rv,q'⟩
end
theorem Fun.okT{K:FG}{st:Stmt}{sp:Sp}(F:Fun K x qual st f fd)(hcd:fd.code=.ref c)(S:FnScope N ps (aH st))(len:∀vs H Q E,sp vs H Q E->vs.length=ps.length)
  (hbody:∀(A:Around) (outer:List Env) (s:Shared) (H:Hp) (vs:List V) (Q:VK) (E:XK),Room k (A.deeper (envOfC qual (aH st) s.heap.objs.size f (.ref c)))->sp vs H Q E ->
   ∃t,PSs (eO CX0 P w K mg base N qual (aH st) f (.ref c) A outer s H E).nox (df st) t/\t { nx:=λ _ H'=>Q .non H',rt:=Q } (start N vs) H):FnOk P w K mg base CX0 (k+1) f fd ps sp:=by
 obtain⟨oc,od,kV,doc,pm,an,cdv,ct,osl,rfl,lk,hc⟩:=F.ex;obtain rfl:cdv=.ref c:=hcd;refine wG lk hc S len λ A outer s H vs Q E hr hsp=>?_;obtain⟨t,h,q⟩:=hbody A outer s H vs Q E hr hsp;exact⟨t,h.nox,q⟩
end L2
namespace L2
open PySem PySem.Spec PyProof.Rows PySem.W PySem.Calls
theorem GM{K:FG}{mg mb:SV}{fa a:Addr}{x:Str}{s₁:Shared}{vs:LV}(tbs:List (Addr × Addr))
  (hT:TabsAt tbs s₁.heap) (hK0:noTabs K=true) (hbm:∃bm ob,mg "__builtins__"=some (.ref bm)/\bm≠builtinsNs/\s₁.heap.get? bm=some ob/\ob.cls=.type "module" /\ ob.dict=some builtinsNs/\ob.data=.plain)
  (KX:K.In s₁.heap) (hns:s₁.heap.Ns mainGlobals mg) (hb:s₁.heap.Ns builtinsNs mb) (hbb:∀x:Str,x ≠ "__name__" -> mb x=bootBuiltins x) (hlim:s₁.heap.NoLimit) (hg:s₁.gens=#[])
  (ha:s₁.heap.get? a=some { cls:=.type "list",data:=.seq vs.toArray }) (hi:IntsAre vs ns) (hl:ns.length≤sizeLine) (hr:Room k callerA)
  (F:∀base:Heap,K.In base->base.Ns mainGlobals mg->(∀q∈tbs,TabF base mg q.1 q.2)->FnOk P w K mg base CX k fa fd [x] sp) (hbind:∀(s:Shared) (u:Value),BindsTo s fd ⟨[u],[]⟩ [(x,u)])
  (hsp:∀H:Hp,(∀q∈tbs,H q.2=some (.tbl #[]))->SqL K H a (ns.map V.int)->sp [.ref a] H (λ v _=>v=.bl true) λ _ _ _=>False)
  (hCX:∀H e s',CX [] H s₁ (λ _ _ _=>False) e s'->False) :
  codeAny (model P w) callerA (.call (.ref fa) ⟨[.ref a],[]⟩) (λ r s'=>r=.ok (.ret (.bool true))/\OldK s₁.heap s'.heap/\s'.os=s₁.os/\AllBare s'.gens) s₁:=by
 have rv:=sR hi;have lenV:=hi.length;have tab:∀q∈tbs,s₁.heap.get? q.2=some (tabObj #[]):=λ q hq=>(hT q hq).2
 have naT:∀q∈tbs,q.2≠a:=λ q hq z=>by
  have e:=tab q hq;rw[z,ha] at e;cases e
 have kT:∀q∈tbs,K.lookup q.2=none:=λ q hq=>by
  cases e:K.lookup q.2 with
  | none=>rfl
  | some o =>
   have e1:=KX _ _ e;rw[tab q hq] at e1;have h2:=mq.mp hK0 (q.2,o) (mem_of_lookupK e);cases e1;exact absurd (show false=true from h2) cI
 have core:∀H:Hp,(∀q∈tbs,H q.2=some (.tbl #[]))->(∀b,H b=none\/(∃o xs,H b=some (.frz o (.lst xs)))\/∃q∈tbs,q.2=b)->SqL K H a (ns.map V.int)->HOk P w H s₁.heap->(∀b,H b≠none->b=a\/∃q∈tbs,q.2=b)->(H a≠none->K.lookup a=none) ->
   codeAny (model P w) callerA (.call (.ref fa) ⟨[.ref a],[]⟩) (λ r s'=>r=.ok (.ret (.bool true))/\OldK s₁.heap s'.heap/\s'.os=s₁.os/\AllBare s'.gens) s₁:=by
  intro H hH hO hS hok hA hK;have base_of:∀ {b:Addr}{o:Obj},s₁.heap.get? b=some o->H b=none->(gW s₁.heap H).get? b=some o:=λ e n=>Dz e n
  have noA:∀ {b:Addr}{o:Obj},s₁.heap.get? b=some o->o≠{ cls:=.type "list",data:=.seq vs.toArray }->o≠tabObj #[]->H b=none:=λ {b o} e n1 n2=>by
   cases q:H b with
   | none=>rfl
   | some u =>
    rcases hA b (by rw[q];simp) with z | ⟨p,hp,z⟩
    ·subst z;rw[ha] at e;cases e;exact absurd rfl n1
    ·subst z;rw[tab p hp] at e;cases e;exact absurd rfl n2
  have nsK:∀ {b:Addr}{m:SV},s₁.heap.Ns b m->(gW s₁.heap H).Ns b m:=λ {b m} ⟨o,es,ep,e,d,r⟩=>⟨o,es,ep,base_of e (noA e (λ z=>by rw[z] at d;cases d) (λ z=>by rw[z] at d;cases d)),d,r⟩
  have hKb:K.In (gW s₁.heap H):=λ b o e=>base_of (KX b o e) (by
   cases q:H b with
   | none=>rfl
   | some u =>
    rcases hA b (by rw[q];simp) with z | ⟨p,hp,z⟩
    ·subst z;rw[hK (by rw[q];simp)] at e;cases e
    ·subst z;rw[kT p hp] at e;cases e)
  have hM:Mod K mg (gW s₁.heap H):=⟨hKb,nsK hns,⟨mb,nsK hb,hbb⟩,let ⟨mc,h1,h2⟩:=hlim;⟨mc,nsK h1,h2⟩⟩;have e0:Env0 P w K mg (gW s₁.heap H) callerA [] s₁ H:=⟨rfl,hM,λ b o e=>vN e,s1e (Dy _ _),trivial,λ b hb=>absurd (show b∈([]:List Addr) from hb) (by simp),hok,.of_eq hg⟩
  have tf:∀q∈tbs,TabF (gW s₁.heap H) mg q.1 q.2:=λ q hq=>by
   obtain⟨o,vs',file,tf,flags,tg,inF,text,tt,e1,r1,r2⟩:=(hT q hq).1;obtain⟨bm,ob,b1,b2,b3,b4,b5,b6⟩:=hbm;have bmT:bm≠q.2:=λ z=>by rw[z,tab q hq] at b3;cases b3;cases b4
   have bmG:bm≠mainGlobals:=λ z=>by
    obtain⟨o,es,ep,e,d,_⟩:=hns;rw[← z,b3] at e;cases e;rw[b6] at d;cases d
   have gT:mainGlobals≠q.2:=λ z=>by
    obtain⟨o,es,ep,e,d,_⟩:=hns;rw[z,tab q hq] at e;cases e;cases d
   refine⟨⟨o,vs',file,tf,flags,tg,inF,text,tt,base_of e1 (noA e1 (λ z=>by rw[z] at r1;exact absurd (show Value.type "list"=Value.type "code" from r1) (by decide)) (λ z=>by rw[z] at r1;cases r1)),r1,r2⟩,?_,⟨bm,ob,b1,b2,bmG,bmT,base_of b3 (noA b3 (λ z=>by rw[z] at b4;exact absurd (show Value.type "list"=Value.type "module" from b4) (by decide)) (λ z=>by rw[z] at b4;cases b4)),b4,b5,b6⟩,gT⟩
   cases e:(gW s₁.heap H).get? q.2 with
   | none=>rfl
   | some o=>have:=(vN e).2;rw[hH q hq] at this;cases this
  refine nO ((F _ hKb (nsK hns) tf).run callerA [] s₁ H ⟨[.ref a],[]⟩ [.ref a] [.ref a] _ _ hr e0 (hbind s₁ (.ref a)) (.cons rfl .nil) (hsp H hH hS)) λ r s' h=>?_
  cases r with
  | error e=>exact(hCX H e s' h).elim
  | ok fl =>
   cases fl with
   | next=>exact False.elim h
   | brk=>exact False.elim h
   | cont=>exact False.elim h
   | ret u =>
    obtain⟨v,H',os,bare,un,hok',r',q⟩:=h;have q':v=.bl true:=q;subst q';obtain rfl:u=Value.bool true:=r';refine⟨rfl,⟨λ b o e=>?_,λ b o e=>un.there b o e (by simp)⟩,os,bare⟩
    rcases hO b with z | ⟨ob,xs,z⟩ | ⟨p,hp,z⟩
    ·exact .inl (un.keep b o e z (by intro z;exact absurd (show b∈([]:List Addr) from z) (by simp)) (by simp))
    ·have z2:=un.frzs b ob _ z;obtain⟨e1,_⟩:=hok b _ z;obtain⟨e2,_⟩:=hok' b _ z2;rw[e] at e1;cases e1;exact .inl e2
    ·subst z;obtain⟨more,z2⟩:=un.tbls p.2 #[] (hH p hp);have e2:s'.heap.get? p.2=some (tabObj (#[]++more)):=hok' _ _ z2;have e1:=tab p hp;rw[e] at e1;cases e1;obtain⟨o,vs',file,tf,flags,tg,inF,text,tt,c1,c2,c3,c4,_⟩:=(hT p hp).1;exact .inr (.inl ⟨⟨p.1,o,vs',c1,c2,c3,c4⟩,rfl,#[],more,rfl,e2⟩)
 have withT:∀H:Hp,(∀b,H b=none\/∃o xs,H b=some (.frz o (.lst xs)))->SqL K H a (ns.map V.int)->HOk P w H s₁.heap->(∀b,H b≠none->b=a)->(H a≠none->K.lookup a=none) ->
   codeAny (model P w) callerA (.call (.ref fa) ⟨[.ref a],[]⟩) (λ r s'=>r=.ok (.ret (.bool true))/\OldK s₁.heap s'.heap/\s'.os=s₁.os/\AllBare s'.gens) s₁:=by
  intro H hO hS hok hA hK;have inT:∀q∈tbs,(λ b=>if (tbs.any λ q=>q.2 == b)=true then some (HO.tbl #[]) else H b) q.2=some (.tbl #[]):=λ q hq=>if_pos (List.any_eq_true.mpr ⟨q,hq,by simp⟩)
  have split:∀b,(∃q∈tbs,q.2=b)\/(λ b=>if (tbs.any λ q=>q.2 == b)=true then some (HO.tbl #[]) else H b) b=H b:=λ b=>by
   by_cases c:(tbs.any λ q=>q.2 == b)=true
   ·obtain⟨q,hq,e⟩:=List.any_eq_true.mp c;exact .inl ⟨q,hq,jQ e⟩
   ·exact .inr (if_neg c)
  have aT:(λ b=>if (tbs.any λ q=>q.2 == b)=true then some (HO.tbl #[]) else H b) a=H a:=by
   rcases split a with ⟨q,hq,z⟩ | z
   ·exact absurd z (naT q hq)
   ·exact z
  generalize (λ b=>if (tbs.any λ q=>q.2 == b)=true then some (HO.tbl #[]) else H b)=G at *
  have noneT:∀q∈tbs,H q.2=none:=λ q hq=>by
   cases e:H q.2 with
   | none=>rfl
   | some u=>exact absurd (hA q.2 (by rw[e];simp)) (naT q hq)
  refine core G inT (λ b=>?_) ?_ (λ b o e=>?_) (λ b n=>?_) (λ n=>hK (by rw[← aT];exact n))
  ·rcases split b with z | z
   ·exact .inr (.inr z)
   ·rw[z];rcases hO b with y | y
    ·exact .inl y
    ·exact .inr (.inl y)
  ·rcases hS with (z | ⟨o,z⟩) | z
   ·exact .inl (.inl (by rw[aT];exact z))
   ·exact .inl (.inr ⟨o,by rw[aT];exact z⟩)
   ·exact .inr z
  ·rcases split b with ⟨q,hq,z⟩ | z
   ·subst z;rw[inT q hq] at e;cases e;exact tab q hq
   ·rw[z] at e
    rcases hO b with y | ⟨ob,xs,y⟩
    ·rw[y] at e;cases e
    ·rw[y] at e;cases e;obtain⟨e1,l,its,n,r,e2⟩:=hok b _ y;exact⟨e1,l,its,n,r,e2⟩
  ·rcases split b with z | z
   ·exact .inr z
   ·rw[z] at n;exact .inl (hA b n)
 cases hk:K.lookup a with
 | some o =>
  have e:=KX a o hk;rw[ha] at e;cases e;refine withT (λ _=>none) (λ _=>.inl rfl) (.inr ⟨_,vs.toArray,_,hk,rfl,rfl,rfl,by rw[bN,lenV];exact hl,by simpa using rv⟩) (λ b u z=>by have z':(none:Option HO)=some u:=z;cases z') (λ b z=>absurd rfl z) λ z=>absurd rfl z
 | none =>
  refine withT (λ b=>if b=a then some (.frz { cls:=.type "list",data:=.seq vs.toArray } (.lst (ns.map V.int))) else none) (λ b=>?_) (.inl (.inr ⟨{ cls:=.type "list",data:=.seq vs.toArray },if_pos rfl⟩)) (λ b u z=>?_) (λ b z=>?_) λ _=>hk
  ·by_cases hb:b=a
   ·exact .inr ⟨_,_,if_pos hb⟩
   ·exact .inl (if_neg hb)
  ·by_cases hb:b=a
   ·have z':=(if_pos hb).symm.trans z;cases z';subst hb;exact⟨ha,by rw[aA];exact hl,vs,_,rv,ha⟩
   ·have z':=(if_neg hb).symm.trans z;cases z'
  ·by_cases hb:b=a
   ·exact hb
   ·exact absurd (if_neg hb) z
theorem GN{K:FG}{oc oc2:Value}{od od2:OA}{fd:FuncData}{sl sl2:AV}(h1:nsIn K mainGlobals x=some (some (.ref f)))(h2:K.lookup f=some ⟨oc,od,.func fd,sl⟩)(h3:fd.code=.ref c)(h4:K.lookup c=some ⟨oc2,od2,.fields vs,sl2⟩)(h5:vs[11]?=some (.ref T)):tabIn K x=some (c,T):=by
 unfold tabIn;simp only[h1,h2,h3,h4,h5]
theorem walk_ofT{l:W.OpenLaw}{YP:World->Heap->Prop}{d:DefRec}{K:Params->FG}{CX:World->CXT}{sp:World->List Addr->Sp}{x:Str}
  (hn:l.most=some n) (hn2:n≤sizeLine) (hdf:d.params.defaults=[]) (hr:Room k callerA)
  (hY:∀(w:World) (h:Heap),YP w h->(K w.params).In h) (hK0:∀w:World,noTabs (K w.params)=true)
  (F:∀(w:World) (mg:SV) (fa:Addr) (h:Heap),(K w.params).In h->h.Ns mainGlobals mg->mg d.name=some (.ref fa) ->
   ∃(fd:FuncData) (tbs:List (Str × Addr × Addr)),(∀p∈tbs,tabIn (K w.params) p.1=some p.2/\((recsOf q).find? λ e=>e.name == p.1).isSome=true)/\(∀(s:Shared) (u:Value),BindsTo s fd ⟨[u],[]⟩ [(x,u)]) /\
    ∀base:Heap,(K w.params).In base->base.Ns mainGlobals mg->(∀p∈tbs,TabF base mg p.2.1 p.2.2)->FnOk l.prog w (K w.params) mg base (CX w) k fa fd [x] (sp w (tbs.map λ p=>p.2.2)))
  (hsp:∀(w:World) (H:Hp) (a:Addr) (ns:LI) (ts:List Addr),ns.length≤n->(∀T∈ts,H T=some (.tbl #[]))->SqL (K w.params) H a (ns.map V.int)->sp w ts [.ref a] H (λ v _=>v=.bl true) λ _ _ _=>False)
  (hCX:∀(w:World) (H:Hp) (s:Shared) (e:Value) (s':Shared),CX w [] H s (λ _ _ _=>False) e s'->False) :
  W.WalkO q loose XP YP l.row.toRowW d [] (λ f vs=>PySem.call f vs):=by
 refine Att.attach_call hn hdf λ w s₀ s₁ mg mb fa o pm cd doc a vs ns G Y ho hd hcd hmg hobj hints hlen hg=>?_;have KX:=hY w _ Y;obtain⟨fd,tbs,ht,hb,hF⟩:=F w mg fa _ KX G.T.g hmg
 have hT:TabsAt (tbs.map (·.2)) s₁.heap:=λ p hp=>by
  obtain⟨t,htm,rfl⟩:=dL.mp hp;obtain⟨h1,h2⟩:=ht t htm;obtain⟨d',hd'⟩:=kL.mp h2;exact tab_of G.T KX hd' (show tabIn (K w.params) t.1=some (t.2.1,t.2.2) from h1)
 refine GM (tbs.map (·.2)) hT (hK0 w) G.T.bmain KX G.T.g G.T.b G.T.builtins G.T.nolimit hg hobj hints (dW hlen hn2) hr (λ base kb nb tf=>hF base kb nb λ p hp=>tf p.2 (dL.mpr ⟨p,hp,rfl⟩)) hb (λ H hH hS=>hsp w H a ns _ hlen (λ T hT=>?_) hS) λ H e s'=>hCX w H s₁ e s';obtain⟨t,htm,rfl⟩:=dL.mp hT;exact hH t.2 (dL.mpr ⟨t,htm,rfl⟩)
end L2
namespace L2
open PySem PySem.Spec PyProof.Rows PySem.W PySem.Calls
noncomputable def gN(fa c':Addr)(name qual:Str)(params:Arguments)(body:List Stmt)(scope:Scope)(cl:LA):HO:=.ext λ h=>∃doc pm ctv,h.get? fa=some (fnMade name qual params body scope cl doc pm c' ctv)
theorem FnV.dfn{H:Hp}(h:H fa=some (gN fa c' name qual params body scope cl)):FnV H fa:=⟨_,h,λ _ ⟨_,_,_,e⟩=>⟨_,_,_,_,e⟩⟩
theorem tV{K:FG}{cl:LA}{vs vcs:List V}{H:Hp}{Q:VK}
  (S:LmScope N ps fv scope) (hcl:cl.map (·.1)=fv)
  (hb:∀(doc pm ctv:Value) (us:LV),us.length=ps.length->bindArgs (fnX name qual params body scope cl .none .none doc pm none (.ref c') ctv) ⟨us,[]⟩=pure (ps.zip us)) (hl:vs.length=ps.length)
  (L1:H fa=some (gN fa c' name qual params body scope cl)) (L2:H c'=some (eE c' qual)) (hc:CelAt H cl vcs)
  (hbody:∀(A:Around) (outer:List Env) (s:Shared),Room k (A.deeper (envX qual scope s.heap.objs.size fa (.ref c') (cellsFrom (s.heap.objs.size+1) scope.names []++cl)))->PSs (kY P w K mg base N qual scope fa (.ref c') cl A outer s (minC H cl)) body ts)
  (hq:ts { nx:=λ _ H'=>Q .non (resC H H' cl),rt:=λ v H'=>Q v (resC H H' cl) } (start N (vs++vcs)) (minC H cl)):qH P w K mg base (k+1) fa vs H Q:=by
 intro A outer s us hr e0 r;obtain⟨⟨doc,pm,ctv,ho⟩,_⟩:=e0.hok fa _ L1;obtain⟨hcd,_⟩:=e0.hok c' _ L2;have lim:s.heap.NoLimit:=e0.mod.nolimit.keeps λ b o e=>(e0.bs b o e).1
 have hkind:∀y∈ps.zip us,scope.names.lookup y.1=some .local\/(scope.names.lookup y.1=some .cell/\((cellsFrom (s.heap.objs.size+1) scope.names []).lookup y.1).isSome=true):=λ⟨n,v⟩ hy=>by
  rcases S.par n (nP hy).1 with q | q
  ·exact .inl q
  ·exact .inr ⟨q,pQ _ _ _ (.inl q)⟩
 refine wH hr.depth ho rfl S.co S.gen rfl hcd ?_;rw[hb doc pm ctv us (by rw[← r.length];exact hl)];refine aK (yQ S.kind hkind λ env he s1 x=>?_);subst he;refine⟨lim.keeps x.toInCall.keep,codeAny_func ?_⟩;have I:Inv (kY P w K mg base N qual scope fa (.ref c') cl A outer s (minC H cl)) [] (start N (vs++vcs)) (minC H cl) s1:=yR S hr.hd e0 hl r hcl hc x;refine dG (hbody A outer s (hr.deeper _) [] s1 _ _ _ I hq) (λ fl s' hs=>?_) (λ e s' hs=>False.elim hs);have fin:∀ {v:V}{u:Value}{σ':St}{H':Hp},Inv (kY P w K mg base N qual scope fa (.ref c') cl A outer s (minC H cl)) [] σ' H' s'->RelV v u->Q v (resC H H' cl)->CE outer P w H s Q u s':=?_
 ·cases fl with
  | ret u =>
   obtain⟨v,σ',H',J,rv,q⟩:=hs;exact fin J rv q
  | next =>
   obtain⟨σ',H',J,q⟩:=hs;exact fin (v:=V.non) (u:=Value.none) J rfl q
  | brk=>obtain⟨_,_,_,q⟩:=hs;exact False.elim q
  | cont=>obtain⟨_,_,_,q⟩:=hs;exact False.elim q
 intro v u σ' H' J rv q;have un:Un (frs outer) [] (minC H cl) H' s.heap s'.heap:=J.base
 have nfr:∀q∈cl,q.2 ∉ frs outer:=λ q hq z=>by
  obtain⟨o,v,e⟩:=hc.mem hq;rw[e0.frf _ z] at e;cases e
 have kc:∀q∈cl,∀o,s.heap.get? q.2=some o->s'.heap.get? q.2=some o/\H' q.2=none:=λ q hq o e=>⟨un.keep _ o e (mD hq) (nfr q hq) (by simp),un.free _ o e (mD hq) (by simp)⟩
 have there:∀q∈cl,∃o,s.heap.get? q.2=some o:=λ q hq=>by
  obtain⟨o,v,e⟩:=hc.mem hq;exact⟨o,(e0.hok _ _ e).1⟩
 have split:∀b,(∃q∈cl,q.2=b)\/∀q∈cl,q.2≠b:=λ b=>by
  by_cases c:∃q∈cl,q.2=b
  ·exact .inl c
  ·exact .inr λ q hq e=>c ⟨q,hq,e⟩
 refine⟨v,resC H H' cl,J.os,J.bare,⟨λ b o e n hb hx=>un.keep b o e (jo n) hb hx,λ b o e n hb hx=>un.slot b o e (jo n) hb hx,λ b o e n hx=>?_,un.there,λ b xs e=>?_,λ b o u e=>?_,λ b ps e=>?_⟩,λ b o e=>?_,rv,q⟩
 ·rcases split b with ⟨q,hq,rfl⟩ | hn
  ·rw[jp hq];exact n
  ·rw[gq hn];exact un.free b o e (jo n) hx
 ·rcases split b with ⟨q,hq,rfl⟩ | hn
  ·rw[jp hq];exact e
  ·rw[gq hn];exact un.tups b xs (by rw[fU hn];exact e)
 ·rcases split b with ⟨q,hq,rfl⟩ | hn
  ·rw[jp hq];exact e
  ·rw[gq hn];exact un.frzs b o u (by rw[fU hn];exact e)
 ·rcases split b with ⟨q,hq,rfl⟩ | hn
  ·obtain⟨o,v,e2⟩:=hc.mem hq;rw[e] at e2;cases e2
  ·rw[gq hn];exact un.tbls b ps (by rw[fU hn];exact e)
 ·rcases split b with ⟨q,hq,rfl⟩ | hn
  ·rw[jp hq] at e;obtain⟨o2,v2,e2⟩:=hc.mem hq;rw[e] at e2;cases e2;obtain⟨g1,⟨u2,ru,ic⟩,_,st⟩:=e0.hok _ _ e;have k1:=(kc q hq _ g1).1;refine⟨k1,⟨u2,ru,?_⟩,⟨_,k1⟩,st⟩;obtain⟨o3,e3,d3⟩:=ic;rw[g1] at e3;cases e3;exact⟨_,k1,d3⟩
  ·rw[gq hn] at e
   have nf:∀c u,H' c=some u->resC H H' cl c=some u:=λ c u e2=>by
    rcases split c with ⟨q,hq,rfl⟩ | hn
    ·obtain⟨o,eo⟩:=there q hq;rw[(kc q hq o eo).2] at e2;cases e2
    ·rw[gq hn];exact e2
   exact(J.hok b o e).stay (λ _ _ _ q=>q) (λ c q=>nf c _ q) λ c xs q=>nf c _ q
section
variable {X:Cx}{params:Arguments}{scope:Scope}{pos:Pos}{fv:List Str}{c T:Addr}{cl:LA}
theorem GO{Q:VK}(I:Inv X pins σ H s)(hcode:X.env.code=.ref c)(TF:TabF X.base X.mg c T)(hcl:closureFor scope X.env=pure cl)(own:OwnCl X.env.cells fv cl)
  (h:TabOk H T pos qual/\∀fa c' cl H2,OwnCl X.env.cells fv cl->H fa=none->H2 fa=some (gN fa c' name qual params body scope cl)->H2 c'=some (eE c' qual)->TabOk H2 T pos qual->(∀b o,b≠T->H b=some o->H2 b=some o)->Q (.ref fa) H2) :
  wpAny (model X.prog X.w) X.A (makeFunction name qual params (.stmts body) scope X.env [] [] [] pos pos.line) (EP X pins σ Q) X.xe s:=by
 obtain⟨⟨ps,hT,ht,hz⟩,h⟩:=h;have eT:s.heap.get? T=some (tabObj ps):=I.hok _ _ hT;have hg:s.heap.Ns mainGlobals X.mg:=I.mod.glob.keeps I.bk;obtain⟨bm,ob,b1,b2,b3,b4,b5,b6⟩:=TF.blt;have hb:s.heap.BuiltinsAt X.mg T:=⟨bm,ob,b1,b2,b3,b4,I.bk _ _ b5,b6⟩;have C:CodeHd s.heap c T:=TF.hd.keeps I.bk
 rcases hz with hnf | ⟨c',hf,hc'⟩
 ·refine makeFunction_K hcl I.ok.glob hg hcode C eT ht hnf TF.ne hb λ c' ctv doc h' tk hx hge hlt hrec htb=>?_;have hfa:H h'.objs.size=none:=I.hok.fresh (fP (jU hge hlt));have hc0:H c'=none:=I.hok.fresh hge;have nTc:c'≠T:=λ z=>by rw[z,hT] at hc0;cases hc0
  have nTf:h'.objs.size≠T:=λ z=>by rw[z,hT] at hfa;cases hfa
  have ncf:c'≠h'.objs.size:=bM hlt;have old:∀b o,b≠T->s.heap.get? b=some o->(h'.push (fnMade name qual params body scope cl doc ((X.mg "__name__").getD .none) c' ctv)).get? b=some o:=λ b o n e=>bd _ (hx b o n e);have eP:(h'.push (fnMade name qual params body scope cl doc ((X.mg "__name__").getD .none) c' ctv)).get? T=some (tabObj (ps++#[rawInt pos.line,rawInt pos.col,.ref c'])):=bd _ htb;have eF:(h'.push (fnMade name qual params body scope cl doc ((X.mg "__name__").getD .none) c' ctv)).get? h'.objs.size=some (fnMade name qual params body scope cl doc ((X.mg "__name__").getD .none) c' ctv):=bG _ rfl;have eC:(h'.push (fnMade name qual params body scope cl doc ((X.mg "__name__").getD .none) c' ctv)).CodeRec (.ref c') qual:=qI hrec λ o e=>bd _ e;generalize h'.push (fnMade name qual params body scope cl doc ((X.mg "__name__").getD .none) c' ctv)=h2 at *;generalize h'.objs.size=fa at *;have lowT:∀b o,s.heap.get? b=some o->b≠c'/\(H b=none->b≠T):=λ b o e=>⟨bM (cD (br e) hge),λ n z=>by rw[z,hT] at n;cases n⟩;have lowF:∀b o,s.heap.get? b=some o->b≠fa:=λ b o e=>bM (s1d (cD (br e) hge) hlt);have out:∀b,b≠T->b≠c'->b≠fa->upd (upd (upd H T (.tbl (ps++#[rawInt pos.line,rawInt pos.col,.ref c']))) c' (eE c' qual)) fa (gN fa c' name qual params body scope cl) b=H b:=λ b n1 n2 n3=>by rw[bo n3,bo n2,bo n1]
  have trk:∀b o,H b=some o->b≠c'/\b≠fa:=λ b o e=>⟨(λ z=>by rw[z,hc0] at e;cases e),(λ z=>by rw[z,hfa] at e;cases e)⟩;have HT:upd (upd (upd H T (.tbl (ps++#[rawInt pos.line,rawInt pos.col,.ref c']))) c' (eE c' qual)) fa (gN fa c' name qual params body scope cl) T=some (.tbl (ps++#[rawInt pos.line,rawInt pos.col,.ref c'])):=by rw[bo nTf.symm,bo nTc.symm,ar]
  have HC:upd (upd (upd H T (.tbl (ps++#[rawInt pos.line,rawInt pos.col,.ref c']))) c' (eE c' qual)) fa (gN fa c' name qual params body scope cl) c'=some (eE c' qual):=by rw[bo ncf,ar]
  have HF:upd (upd (upd H T (.tbl (ps++#[rawInt pos.line,rawInt pos.col,.ref c']))) c' (eE c' qual)) fa (gN fa c' name qual params body scope cl) fa=some (gN fa c' name qual params body scope cl):=ar;generalize upd (upd (upd H T (.tbl (ps++#[rawInt pos.line,rawInt pos.col,.ref c']))) c' (eE c' qual)) fa (gN fa c' name qual params body scope cl)=H2 at *;have same:∀b o,b≠T->H b=some o->H2 b=some o:=λ b o n e=>by rw[out b n (trk b o e).1 (trk b o e).2];exact e
  have un:Un X.fs [] H H2 s.heap h2:=⟨λ b o e n _ _=>old b o ((lowT b o e).2 n) e,λ b o e n _ _=>⟨o.slots,old b o ((lowT b o e).2 n) e⟩,λ b o e n _=>by rw[out b ((lowT b o e).2 n) (lowT b o e).1 (lowF b o e)];exact n,λ b o e _=>by
   by_cases z:b=T
   ·rw[z];exact⟨_,eP⟩
   ·exact⟨o,old b o z e⟩,λ b xs e=>same b _ (λ z=>by rw[z,hT] at e;cases e) e,λ b o u e=>same b _ (λ z=>by rw[z,hT] at e;cases e) e,λ b qs e=>by
   by_cases z:b=T
   ·subst z;rw[hT] at e;cases e;exact⟨_,HT⟩
   ·exact⟨#[],by rw[same b _ z e];simp⟩⟩
  have hok:HOk X.prog X.w H2 h2:=λ b o e=>by
   by_cases zf:b=fa
   ·subst zf;rw[HF] at e;cases e;exact⟨⟨_,_,_,eF⟩,⟨_,eF⟩,λ h1 h3 ⟨dc,pm,cv,e1⟩ k=>⟨dc,pm,cv,k _ e1⟩⟩
   ·by_cases zc:b=c'
    ·subst zc;rw[HC] at e;cases e;obtain⟨c2,o2,vs2,t2,e2,ho2,r2⟩:=id eC;cases e2;exact⟨eC,⟨_,ho2⟩,λ h1 h3 x k=>qI x k⟩
    ·by_cases zT:b=T
     ·subst zT;rw[HT] at e;cases e;exact eP
     ·rw[out b zT zc zf] at e;refine(I.hok b o e).stay (λ d u hd q=>old d u (λ z=>?_) q) (λ d q=>same d _ (λ z=>by rw[z,hT] at q;cases q) q) λ d xs q=>same d _ (λ z=>by rw[z,hT] at q;cases q) q
      rcases hd with hd | hd
      ·exact zT (hd.symm.trans z)
      ·rw[z,hT] at hd;cases hd
  exact⟨.ref fa,H2,I.un un hok,rfl,h fa c' cl H2 own hfa HF HC ⟨_,HT,by simpa using yS ps.toList ht,.inr ⟨c',by simpa using codeAmong_snoc ps.toList ht hnf,HC⟩⟩ same⟩
 ·refine makeFunction_hit hcl I.ok.glob hg hcode C eT ht hf hb λ ctv doc h' tk hx hsz=>?_;have hfa:H h'.objs.size=none:=I.hok.fresh hsz;have same:∀b o,H b=some o->upd H h'.objs.size (gN h'.objs.size c' name qual params body scope cl) b=some o:=λ b o e=>by rw[bo (jH e hfa)];exact e
  refine⟨.ref h'.objs.size,upd H h'.objs.size (gN h'.objs.size c' name qual params body scope cl),I.laid (t':=tk) (λ b u e=>bd _ (hx b u e)) hsz ?_,rfl,h _ c' cl _ own hfa ar (same _ _ hc') ⟨ps,same _ _ hT,ht,.inr ⟨c',hf,same _ _ hc'⟩⟩ λ b o _ e=>same b o e⟩;exact⟨⟨_,_,_,bG _ rfl⟩,⟨_,bG _ rfl⟩,λ h1 h3 ⟨dc,pm,cv,e1⟩ k=>⟨dc,pm,cv,k _ e1⟩⟩
noncomputable def yX(ec:LA)(fv:List Str)(T:Addr)(pos:Pos)(i:Nat)(name qual:Str)(params:Arguments)(body:List Stmt)(scope:Scope):TS:=λ D σ H=>TabOk H T pos qual /\
 ∀fa c' cl H2,OwnCl ec fv cl->H fa=none->H2 fa=some (gN fa c' name qual params body scope cl)->H2 c'=some (eE c' qual)->TabOk H2 T pos qual->(∀b o,b≠T->H b=some o->H2 b=some o)->D.nx (σ.set i (some (.ref fa))) H2
theorem tW{i:Nat}{name qual:Str}(hN:X.N.Nodup)(hi:X.N[i]?=some name)(hx:Loc X.env.scope name)(hq:qualnameIn X.env name name=qual)(hcode:X.env.code=.ref c)(TF:TabF X.base X.mg c T)(hcl:closureFor scope X.env=pure cl)(own:OwnCl X.env.cells fv cl)
  (hd0:params.defaults=[]) (hk0:params.kw_defaults=[]) (ha:annTrees params none X.env=[]) (hf:X.fn name=true\/X.env.scope.names.lookup name=some .local:=by first | exact .inl rfl | exact .inr rfl) :
  PS X (.FunctionDef name params body [] none [] scope none name pos) (yX X.env.cells fv T pos i name qual params body scope):=by
 intro pins s σ H D I h;refine nestDef_K hd0 hk0 ha ?_;rw[hq];refine thn (GO (Q:=λ v H2=>∃fa,v=.ref fa/\D.nx (σ.set i (some (.ref fa))) H2) I hcode TF hcl own ⟨h.1,λ fa c' cl H2 o1 n1 a1 a2 a3 a4=>⟨fa,rfl,h.2 fa c' cl H2 o1 n1 a1 a2 a3 a4⟩⟩) λ u s1 ⟨v,H2,J,r,fa,e,q⟩=>?_;subst e;exact rZ J hN hi hx r (λ s2 J2=>⟨_,H2,J2,q⟩) hf
end
end L2
namespace L2
open PySem PySem.Spec PyProof.Rows PySem.W PySem.Calls
theorem GP{X:Cx}{P:Program}{w:World}{K:FG}{mg:SV}{base:Heap}{k i:Nat}{e:Expr}{es:List Expr}(e1:X.prog=P)(e2:X.w=w)(e3:X.K=K)(e4:X.mg=mg)(e5:X.base=base)(hr:Room k X.A)(hN:X.N[i]?=some x)(hv:Vis X.env.scope x)(ha:PA X (e::es) t)
  (hd:(x == ("__debug__" : Str))=false:=by decide) (hcd:(x == ("__classdict__" : Str))=false:=by decide)
  (he:starEach (e::es) X.env=(false,eval e X.env)::starEach es X.env:=by rfl) (hpl:(backTo pos (starEach es X.env)).any (·.1)=false:=by rfl) :
  PE X (.Call (.Name x p) (e::es) [] pos) (tU P w K mg base k i t):=by
 subst e1 e2 e3 e4 e5;exact GL hr hN hv ha hd hcd he hpl
noncomputable def LoopE(K:PySem.W.Frag)(g:TG)(tb:TS)(D:Ends)(σ:St)(v:V)(H1:Hp):Prop:=∃a xs,v=.ref a/\SqT K H1 a xs/\∃W:Nat->Nat->St->Hp->Prop,(∃m,W 0 m σ H1)/\∀i m σ H,W i m σ H ->
 ((Ite K a).stop i H/\D.nx σ H)\/((Ite K a).go i H/\∃N:St->Hp->Prop,(∀σ' H',N σ' H'->∃m',m' < m/\W (i+1) m' σ' H')/\∀x H',(Ite K a).yld i H x H'->g x σ H' λ σ2 H2=>tb { D with nx:=N,ct:=N,bk:=D.nx } σ2 H2)
theorem GQ{K:FG}:jN (qz K te) g tb D σ H=te σ H λ v H1=>LoopE K g tb D σ v H1:=rfl
theorem LoopE.mk{K:FG}{g:TG}{tb:TS}{D:Ends}(h1:SqT K H a xs)(Pv:Nat->St->Hp->Prop)(h0:Pv 0 σ H)(hl:∀i σ H,i≤xs.length->Pv i σ H->SqT K H a xs)
  (hs:∀i x σ H T,xs[i]?=some x->Pv i σ H->H T=none->g (.ref T) σ (upd H T (.tup [.int i,x])) λ σ2 H2=>tb { D with nx:=Pv (i+1),ct:=Pv (i+1),bk:=D.nx } σ2 H2) (hd:∀σ H,Pv xs.length σ H->D.nx σ H) :
  LoopE K g tb D σ (.ref a) H:=by
 refine⟨a,xs,rfl,h1,λ i m σ H=>m=xs.length - i/\i≤xs.length/\Pv i σ H,⟨_,rfl,bc _,h0⟩,?_⟩;rintro i m σ H ⟨rfl,hi,p⟩;have k1:=hl i σ H hi p;by_cases hlt:i < xs.length
 ·refine .inr ⟨⟨xs,_,k1,aX hlt⟩,Pv (i+1),λ σ' H' p'=>⟨xs.length - (i+1),by lia,rfl,hlt,p'⟩,λ v H' yy=>?_⟩;obtain⟨T,x,rfl,hT,rfl,ex⟩:=yy;exact hs i x σ H T (ex xs k1) p hT
 ·have e:i=xs.length:=by lia
  exact .inl ⟨⟨xs,k1,by lia⟩,hd σ H (e ▸ p)⟩
theorem tX:∀ {xs:List V}{us:LV},Vals xs us->xs.all bZ=true->∀(j:Nat) (h1:j < xs.length) (h2:j < us.length),eqU x us[j]=eqV xs[j] x
 | y::xs,u::us,.cons r t,f,j,h1,h2=>by
  rw[List.all_cons,nR] at f
  cases j with
  | zero=>exact sK r f.1
  | succ j=>exact tX t f.2 j (yY h1) (yY h2)
section
variable {X:Cx}
end
theorem GR(l:Addr)(its:Array Value)(n:Nat)(dd:OA)(sl:AV)(x:Value)(e:Value->Bool)(j:Nat)(hj:j < its.size)(hit:e its[j]=true)(hno:∀m (hm:m < its.size),m < j->e its[m]=false):Meets (Builtin.«tuple.index» ⟨[.ref l,x],[]⟩) (λ A R s=>s.heap.get? l=some ⟨.type "tuple",dd,.seq its n,sl⟩/\(∀y,y∈its->SeqAt.EqAt A.in1 s y x (e y))/\R (.ok (.ret (.int j s.toks))) { s with toks:=s.toks+1 }) :=
 .of_wp λ prog w A R s h=>by
  obtain⟨hp,g,d,tk,os⟩:=s;obtain⟨hl,he,h⟩:=h;unfold Builtin.«tuple.index»;simp only[Std.Legacy.Range.forIn_eq_forIn_range',Std.Legacy.Range.size,Nat.sub_zero,s0r,Nat.div_one];wp_walk using qy hl,wpAny_forIn_list _ (λ rest b s'=>b.1=none/\s'=⟨hp,g,d,tk,os⟩/\∃i,i≤j/\rest=List.range' i (its.size - i)) _
  case turn =>
   rintro y rest b s' ⟨hb,rfl,i,ij,er⟩;have il:i < its.size:=by lia
   rw[show its.size - i=(its.size - (i+1))+1 by lia,List.range'_succ] at er;obtain⟨rfl,rfl⟩:=oi er;rw[qj il];refine ak (he _ (Array.getElem_mem il) prog w _ _ ?_);by_cases c:y=j
   ·subst c;rw[hit];wp_walk;exact⟨_,rfl,h⟩
   ·rw[hno y il (by lia)];wp_walk;exact⟨rfl,rfl,y+1,by lia,rfl⟩
  case fin =>
   rintro b s' ⟨hb,rfl,i,ij,er⟩;have:=dA List.length er;rw[List.length_nil,List.length_range'] at this;lia
  case h =>
   exact⟨rfl,rfl,0,bc _,by simp⟩
section
variable {X:Cx}
noncomputable def yZ:V->List V->Hp->VK->Prop:=λ x ys H Q=>∃a o xs y j,x=.ref a/\ys=[y]/\H a=some (.frz o (.tup xs))/\xs.all bZ=true/\bZ y=true/\(∃z,xs[j]?=some z/\eqV z y=true)/\(∀m z,m < j->xs[m]?=some z->eqV z y=false)/\Q (.int (j:Nat)) H
theorem GS:MtR X "tuple.index" yZ:=by
 intro pins s σ H x ys v us Q I rx rv h;obtain⟨a,o,xs,y,j,rfl,rfl,ha,hfl,fy,⟨z,ez,hz0⟩,hn,q⟩:=h;cases rx;obtain⟨u,rfl,ru⟩:=dY rv;obtain⟨g1,hz,its,rv2,o2,g2,c2,n2,d2⟩:=I.hok a _ ha;rw[g1] at g2;cases g2;obtain⟨oc,od,odt,osl⟩:=o;subst c2 d2;have hlen:=rv2.length;have jl:=(bv.mp ez).1;have jl2:j < its.length:=by lia
 refine nS F.slot_tuple_index ⟨_,g1,rfl⟩ F.entry_tuple_index (F.args_tuple_index_2 _ _) (GR a its.toArray n2 od osl u (eqU y) j (by simpa using jl2) ?_ ?_) ⟨g1,λ w hw=>pY ru fy rv2 hfl w (by simpa using hw),?_⟩
 ·show eqU y its[j]=true;rw[tX rv2 hfl j jl jl2];rw[aX jl] at ez;cases (cz ez);exact hz0
 ·intro m hm hlt;show eqU y its[m]=false;have ml:m < xs.length:=by simp only[bN] at hm;lia
  rw[tX rv2 hfl m ml (by simpa using hm)];exact hn m _ hlt (aX ml)
 ·exact⟨.int _,H,I.tok _,⟨_,rfl⟩,q⟩
theorem oq{K:FG}(hK:X.K=K):db X (.type "tuple") (λ xs H Q=>∃p ys,xs=[.ref p]/\((SqL K H p ys/\∀l,H l=none->Q (.ref l) (upd H l (.tup ys)))\/(SqT K H p ys/\Q (.ref p) H))):=hK ▸ fg
theorem GT{K:FG}(hK:X.K=K)(hl:PE X l tl):PI X tg l (nG K tl):=hK ▸ gE hl
end
section
variable {prog:Program}{w:World}{A:Around}{R:Result->Shared->Prop}{I:Addr}{fp wr:List Addr}{n:Nat}{P:Nat->Value->Prop}{St:Nat->Heap->Prop}
end
section
variable {X:Cx}
theorem GU(hc:X.calm=true):db X (.builtin "max") (λ xs H Q=>∃a ns,xs=[.ref a]/\SqL X.K H a (List.map V.int ns)/\0 < ns.length/\∀M:Int,M∈ns->(∀z∈ns,z≤M)->Q (.int M) H):=by
 intro pins s σ H xs us Q I r h;obtain⟨a,ns,rfl,hq,hne,q⟩:=h;obtain⟨u,rfl,ru⟩:=dY r;cases (show u=Value.ref a from ru);obtain⟨its,rv,pl,hz⟩:=I.list hq;have hi:=pV rv;obtain⟨xs,e⟩:=hi.allInts.items;have hns:ns=xs.toList.map (·.1):=by rw[← hi.numsOf,← nums_intItems,← e]
 have hl:=pl.isList;rw[e] at hl;have hsz:0 < xs.size:=by rw[hns,aA,Array.length_toList] at hne;exact hne
 refine max_intList (I.ok.hd hc) hl hsz λ v h' tk hv kk=>?_;obtain⟨t,rfl⟩:=intItems_at hv;obtain⟨h1,h2⟩:=argBest_gt (numAt xs) (xs.size - 1);refine⟨.int _,H,I.kept kk,⟨t,rfl⟩,q _ ?_ λ z hz=>?_⟩
 ·rw[hns,numAt_eq];exact getD_mem (by rw[aA,Array.length_toList];lia)
 ·rw[hns] at hz;obtain⟨j,hj,rfl⟩:=mem_getD hz;rw[aA,Array.length_toList] at hj;rw[← numAt_eq];exact h2 j (by lia)
end
section
variable {pg:Program}{wd:World}{B:Around}{X0:VS}{s0:Shared}
end
noncomputable def mG(K:FG)(a b:Addr):It:=⟨λ i H=>∃xs ys x y,SqT K H a xs/\SqL K H b ys/\xs[i]?=some x/\ys[i]?=some y,
 λ i H v H'=>∃T x y,v=.ref T/\H T=none/\H'=upd H T (.tup [x,y])/\∀xs ys,SqT K H a xs->SqL K H b ys->xs[i]?=some x/\ys[i]?=some y,λ i H=>∃xs ys,SqT K H a xs/\SqL K H b ys/\(xs.length≤i\/ys.length≤i)⟩
section
variable {X:Cx}{es:List Expr}{x1:Nat}{pp:Pos}
end
noncomputable def Nm(K:PySem.W.Frag)(g:TG)(tb:TS)(D:Ends)(σ:St)(vs:List V)(H1:Hp):Prop:=∃a b xs ys,vs=[.ref a,.ref b]/\SqT K H1 a xs/\SqL K H1 b ys/\∃W:Nat->Nat->St->Hp->Prop,(∃m,W 0 m σ H1)/\∀i m σ H,W i m σ H ->
 ((mG K a b).stop i H/\D.nx σ H)\/((mG K a b).go i H/\∃N:St->Hp->Prop,(∀σ' H',N σ' H'->∃m',m' < m/\W (i+1) m' σ' H')/\∀x H',(mG K a b).yld i H x H'->g x σ H' λ σ2 H2=>tb { D with nx:=N,ct:=N,bk:=D.nx } σ2 H2)
noncomputable def Nn(K:PySem.W.Frag)(k:Nat)(js:List Nat)(g:TG)(te:TE)(σ:St)(vs:List V)(H1:Hp)(Q:VK):Prop:=∃a b xs ys,vs=[.ref a,.ref b]/\SqT K H1 a xs/\SqL K H1 b ys/\∃W:Nat->Nat->List V->St->Hp->Prop,(∃m,W 0 m [] (bU k js σ) H1)/\∀i m zs σ' H',W i m zs σ' H' ->
  ((mG K a b).stop i H'/\∀p,H' p=none->Q (.ref p) (upd H' p (.lst zs))) \/
  ((mG K a b).go i H'/\zs.length < sizeLine/\∃N:List V->St->Hp->Prop,(∀zs σ2 H2,N zs σ2 H2->∃m',m' < m/\W (i+1) m' zs σ2 H2)/\∀x H2,(mG K a b).yld i H' x H2->g x σ' H2 λ σ3 H3=>te σ3 H3 λ v H4=>N (zs++[v]) σ3 H4)
section
variable {X:Cx}
noncomputable def ah:V->List V->Hp->VK->Prop:=λ x vs H Q=>∃l xs i y,x=.ref l/\vs=[.int i,y]/\H l=some (.lst xs)/\0≤i/\i≤xs.length/\xs.length < sizeLine/\Q .non (upd H l (.lst (xs.take i.toNat++y::xs.drop i.toNat)))
theorem GV:MtR X "list.insert" ah:=by
 intro pins s σ H x vs v us Q I rx rv h;obtain⟨l,xs,i,y,rfl,rfl,hH,i0,i1,hz,q⟩:=h;cases rx;obtain⟨u,w,rfl,⟨t,rfl⟩,rw'⟩:=lX rv;obtain⟨z,its,n,r,hl,e⟩:=I.lstM hH;have s63:sizeLine≤2 ^ 62:=by rw[pO];decide
 have hf:Builtin.List.listFitsIndex i=true:=fitsIndex_both (by lia) (by lia)
 refine nS F.slot_list_insert ⟨_,e,rfl⟩ F.entry_list_insert (F.args_list_insert_3 _ _ _)
  (AutoSeq1.list_insert_list_int_val_1 l its.toArray n i t w (by simp[hf]) (by rw[bN];lia)) ⟨e,?_⟩
 refine⟨.non,_,I.lset (its':=its.take i.toNat++w::its.drop i.toNat) hH e ?_ ((r.take _).append (.cons rw' (r.drop _))) ?_,rfl,q⟩
 ·show(its.toArray.extract 0 (if i < 0 then (i+(its.toArray.size:Int)).toNat else min i.toNat its.toArray.size)).push w++its.toArray.extract (if i < 0 then (i+(its.toArray.size:Int)).toNat else min i.toNat its.toArray.size)=_;rw[if_neg (by lia),bN,kZ (by lia)];apply Array.ext';simp[List.extract_eq_take_drop,fk]
 ·rw[bu,List.length_cons,be,fF];lia
end
abbrev eH(h:Heap)(T:Addr)(a b c:Value):Prop:=h.get? T=some { cls:=.type "tuple",data:=.seq #[a,b,c] }
theorem tY{s:Shared}{Q:Unit->Shared->Prop}(hT:eH s.heap T a b c)
  (h:∀h',h'.get? T=some { cls:=.type "tuple",data:=.seq ((#[a,b,c]:Array Value).setIfInBounds k x) }->Heap.SameBut T s.heap h'->Q () { s with heap:=h' }) :
  wpAny (model prog w) A (updateSeq T (·.setIfInBounds k x)) Q E s:=by
 refine mx hT rfl (h _ ?_ (qe ..));rw[ja _ hT rfl];simp[Obj.mapSeq]
theorem GW{x y z:V}(r:Vals [x,y,z] us):∃u v t,us=[u,v,t]/\RelV x u/\RelV y v/\RelV z t:=by
 cases r with
 | cons r1 r2=>cases r2 with
  | cons r3 r4=>cases r4 with
   | cons r5 r6=>cases r6;exact⟨_,_,_,rfl,r1,r3,r5⟩
theorem GX(a b c:Value):checkTypeCall "zip" ⟨[a,b,c],[]⟩=pure ():=by kernel_rfl
theorem GY(a b c:Value):checkBuiltinCall "zip.__new__" ⟨[.type "zip",a,b,c],[]⟩=pure ():=by kernel_rfl
theorem GZ(a b c d:Value):argsOk "object.__init__" ⟨[a,b,c,d],[]⟩:=by
 unfold argsOk;rw[signature?_of (n:=['_','_','t','i','n','i','_','_']) (o:=['t','c','e','j','b','o']) (by kernel_rfl) F.owner_object]
 kernel_rfl
structure Apart6 (z ti ox j1 j2 j3 t1 t2 t3:Addr):Prop where
 ti_z:ti≠z
 ox_z:ox≠z
 j1_z:j1≠z
 j2_z:j2≠z
 j3_z:j3≠z
 ti_ox:ti≠ox
 ti_j1:ti≠j1
 ti_j2:ti≠j2
 ti_j3:ti≠j3
 ox_j1:ox≠j1
 ox_j2:ox≠j2
 ox_j3:ox≠j3
 j12:j1≠j2
 j13:j1≠j3
 j23:j2≠j3
 t1_z:t1≠z
 t2_z:t2≠z
 t2_ox:t2≠ox
 t2_j1:t2≠j1
 t3_z:t3≠z
 t3_ox:t3≠ox
 t3_j1:t3≠j1
 t3_j2:t3≠j2
def qJ(z ox j1 j2 j3:Addr)(h h':Heap):Prop:=∀c o,c≠z->c≠ox->c≠j1->c≠j2->c≠j3->h.get? c=some o->h'.get? c=some o
section
variable {pg:Program}{wd:World}{B:Around}{X0:VS}{s0:Shared}
theorem Ha{R:Option Value->Shared->Prop}(ap:Apart6 z ti ox j1 j2 j3 t1 t2 t3)(hz:IsZip s0.heap z ti ox .none)(hi:eH s0.heap ti (.ref j1) (.ref j2) (.ref j3))(ho:eH s0.heap ox u v r)
  (p1:s0.heap.IsTupleIter j1 t1 k) (p2:s0.heap.IsTupleIter j2 t2 k) (p3:s0.heap.IsTupleIter j3 t3 k) (q1:s0.heap.IsTuple t1 as) (q2:s0.heap.IsTuple t2 bs) (q3:s0.heap.IsTuple t3 cs) (e1:as[k]?=some x) (e2:bs[k]?=some y) (e3:cs[k]?=some o3)
  (f:∀h',IsZip h' z ti ox (rawInt s0.heap.objs.size)->eH h' ox x y o3->h'.IsTupleIter j1 t1 (k+1)->h'.IsTupleIter j2 t2 (k+1)->h'.IsTupleIter j3 t3 (k+1)->eH h' s0.heap.objs.size x y o3->qJ z ox j1 j2 j3 s0.heap h'->R (some (.ref s0.heap.objs.size)) { s0 with heap:=h' }) :
  wpAny (model pg wd) B (pyNext (.ref z)) R X0 s0:=by
 have ty:s0.TypeIs (.ref z) "zip" := ⟨_,hz,rfl⟩;unfold pyNext;refine ak (jf (gZ (name:=Str.ofString "__next__") ty jZ (fT jZ ty qr ?_ (qt _))));show wpAny _ _ (field (.ref z) 2 >>= _) _ _ _;refine ak (ck hz rfl (x:=.bool false) rfl ?_);show wpAny _ _ (field (.ref z) 3 >>= _) _ _ _;refine ak (ck hz rfl (x:=.ref ti) rfl ?_);refine ak (eQ hi rfl ?_);show wpAny _ _ (Builtin.SmallTypes.ownedTupleIsFree (.ref z) >>= _) _ _ _;refine ak ?_;unfold Builtin.SmallTypes.ownedTupleIsFree;refine ak (ck hz rfl (x:=.none) rfl (aK ?_));simp only[gG];refine ak (jg ?_);refine ak (ck hz rfl (x:=.ref ox) rfl ?_);refine ak (hV hz (by simp) λ m1 zm1 sb1=>?_);have zm1:IsZip m1 z ti ox .ellipsis:=zm1;refine ak ?_;simp only[List.zipIdx_cons,List.zipIdx_nil,nW,List.forIn_nil];refine ak (ak (ka ?_));show wpAny _ _ (Builtin.SmallTypes.nextOf (.ref j1) >>= _) _ _ _;refine ak (kW (cf p1 λ o g=>sb1.extBut _ _ ap.j1_z g) (fj q1 λ o g=>sb1.extBut _ _ ap.t1_z g) e1 λ m2 pm2 sb2=>aK ?_);have om2:eH m2 ox u v r:=sb2.extBut _ _ ap.ox_j1 (sb1.extBut _ _ ap.ox_z ho);refine ak (eQ om2 rfl ?_);refine ak (tY om2 λ m3 om3 sb3=>?_);have om3:eH m3 ox x v r:=om3;refine ak (iA (aK ?_));refine ak (ak (ka ?_));show wpAny _ _ (Builtin.SmallTypes.nextOf (.ref j2) >>= _) _ _ _;have to3:∀c o,c≠z->c≠ox->c≠j1->s0.heap.get? c=some o->m3.get? c=some o:=λ c o a1 a2 a3 g=>sb3.extBut _ _ a2 (sb2.extBut _ _ a3 (sb1.extBut _ _ a1 g));refine ak (kW (cf p2 λ o g=>to3 _ o ap.j2_z ap.ox_j2.symm ap.j12.symm g) (fj q2 λ o g=>to3 _ o ap.t2_z ap.t2_ox ap.t2_j1 g) e2 λ m4 pm4 sb4=>aK ?_);have om4:eH m4 ox x v r:=sb4.extBut _ _ ap.ox_j2 om3;refine ak (eQ om4 rfl ?_);refine ak (tY om4 λ m5 om5 sb5=>?_);have om5:eH m5 ox x y r:=om5;refine ak (iA (aK ?_));refine ak (ak (ka ?_));show wpAny _ _ (Builtin.SmallTypes.nextOf (.ref j3) >>= _) _ _ _;have to5:∀c o,c≠z->c≠ox->c≠j1->c≠j2->s0.heap.get? c=some o->m5.get? c=some o:=λ c o a1 a2 a3 a4 g=>sb5.extBut _ _ a2 (sb4.extBut _ _ a4 (to3 c o a1 a2 a3 g));refine ak (kW (cf p3 λ o g=>to5 _ o ap.j3_z ap.ox_j3.symm ap.j13.symm ap.j23.symm g) (fj q3 λ o g=>to5 _ o ap.t3_z ap.t3_ox ap.t3_j1 ap.t3_j2 g) e3 λ m6 pm6 sb6=>aK ?_);have om6:eH m6 ox x y r:=sb6.extBut _ _ ap.ox_j3 om5;refine ak (eQ om6 rfl ?_);refine ak (tY om6 λ m7 om7 sb7=>?_);have om7:eH m7 ox x y o3:=om7;refine ak (iA (aK (aK ?_)));refine ak (eQ om7 rfl ?_);refine ak (wpAny_newTuple ?_);have sz7:m7.objs.size=s0.heap.objs.size:=by rw[sb7.1,sb6.1,sb5.1,sb4.1,sb3.1,sb2.1,sb1.1]
 have zm7:IsZip m7 z ti ox .ellipsis:=sb7.extBut _ _ ap.ox_z.symm (sb6.extBut _ _ ap.j3_z.symm (sb5.extBut _ _ ap.ox_z.symm (sb4.extBut _ _ ap.j2_z.symm (sb3.extBut _ _ ap.ox_z.symm (sb2.extBut _ _ ap.j1_z.symm zm1)))));have to7:qJ z ox j1 j2 j3 s0.heap m7:=λ c o a1 a2 a3 a4 a5 g=>sb7.extBut _ _ a2 (sb6.extBut _ _ a5 (to5 c o a1 a2 a3 a4 g));have pj1:m7.IsTupleIter j1 t1 (k+1):=cf pm2 λ o g=>sb7.extBut _ _ ap.ox_j1.symm (sb6.extBut _ _ ap.j13 (sb5.extBut _ _ ap.ox_j1.symm (sb4.extBut _ _ ap.j12 (sb3.extBut _ _ ap.ox_j1.symm g))));have pj2:m7.IsTupleIter j2 t2 (k+1):=cf pm4 λ o g=>sb7.extBut _ _ ap.ox_j2.symm (sb6.extBut _ _ ap.j23 (sb5.extBut _ _ ap.ox_j2.symm g));have pj3:m7.IsTupleIter j3 t3 (k+1):=cf pm6 λ o g=>sb7.extBut _ _ ap.ox_j3.symm g;have zlt:z < m7.objs.size:=br zm7;show wpAny _ _ (Builtin.SmallTypes.ownedTupleHandOut (.ref z) (.ref m7.objs.size) >>= _) _ _ _;refine ak ?_;unfold Builtin.SmallTypes.ownedTupleHandOut;have zm8:IsZip (m7.push { cls:=.type "tuple",data:=.seq #[x,y,o3] }) z ti ox .ellipsis:=bd _ zm7;refine ak (hV zm8 (by simp) λ m9 zm9 sb9=>?_);have zm9:IsZip m9 z ti ox (rawInt m7.objs.size):=zm9;refine hV zm9 (by simp) λ m10 zm10 sb10=>?_;have zm10:IsZip m10 z ti ox (rawInt m7.objs.size):=zm10;have to10:∀c o,c≠z->m7.get? c=some o->m10.get? c=some o:=λ c o a1 g=>sb10.extBut _ _ a1 (sb9.extBut _ _ a1 (bd _ g));have np:eH m10 m7.objs.size x y o3:=sb10.extBut _ _ (iY zlt) (sb9.extBut _ _ (iY zlt) (bG _ rfl));rw[sz7] at zm10 np;refine aK ⟨_,rfl,aK ?_⟩;show R (some (.ref m7.objs.size)) _;rw[sz7];exact f m10 zm10 (to10 _ _ ap.ox_z om7) (cf pj1 λ o g=>to10 _ o ap.j1_z g) (cf pj2 λ o g=>to10 _ o ap.j2_z g) (cf pj3 λ o g=>to10 _ o ap.j3_z g) np λ c o a1 a2 a3 a4 a5 g=>to10 c o a1 (to7 c o a1 a2 a3 a4 a5 g)
theorem Hb{R:Option Value->Shared->Prop}(hh:B.handled=none)(ap:Apart6 z ti ox j1 j2 j3 t1 t2 t3)(hz:IsZip s0.heap z ti ox .none)(hi:eH s0.heap ti (.ref j1) (.ref j2) (.ref j3))
  (p1:s0.heap.IsTupleIter j1 t1 k) (q1:s0.heap.IsTuple t1 as) (e1:as[k]?=none)
  (f:∀h',qJ z ox j1 j2 j3 s0.heap h'->R none { s0 with heap:=h' }):wpAny (model pg wd) B (pyNext (.ref z)) R X0 s0:=by
 have ty:s0.TypeIs (.ref z) "zip" := ⟨_,hz,rfl⟩
 have last:∀(h':Heap) (e:Addr),qJ z ox j1 j2 j3 s0.heap h'->(∃o,h'.get? e=some o/\o.cls=.type "StopIteration")->wpAny (model pg wd) B (do if ← isInstance (.ref e) (.type "StopIteration") then pure none else throw (.ref e)) R X0 { s0 with heap:=h' }:=λ h' e bt ⟨o,g,c⟩ =>
  ak (kU (T := "StopIteration") (b:=true) ⟨o,g,c⟩ qf (aK (f _ bt)))
 unfold pyNext;refine ak (jf (gZ (name:=Str.ofString "__next__") ty jZ (fT jZ ty qr ?_ (qt _))));show wpAny _ _ (field (.ref z) 2 >>= _) _ _ _;refine ak (ck hz rfl (x:=.bool false) rfl ?_);show wpAny _ _ (field (.ref z) 3 >>= _) _ _ _;refine ak (ck hz rfl (x:=.ref ti) rfl ?_);refine ak (eQ hi rfl ?_);show wpAny _ _ (Builtin.SmallTypes.ownedTupleIsFree (.ref z) >>= _) _ _ _;refine ak ?_;unfold Builtin.SmallTypes.ownedTupleIsFree;refine ak (ck hz rfl (x:=.none) rfl (aK ?_));simp only[gG];refine ak (jg ?_);refine ak (ck hz rfl (x:=.ref ox) rfl ?_);refine ak (hV hz (by simp) λ m1 zm1 sb1=>?_);have zm1:IsZip m1 z ti ox .ellipsis:=zm1;refine ak ?_;simp only[List.zipIdx_cons,List.zipIdx_nil,nW,List.forIn_nil];refine ak (ak (ka ?_));show wpAny _ _ (Builtin.SmallTypes.nextOf (.ref j1) >>= _) _ _ _;refine ak (nV hh (cf p1 λ o g=>sb1.extBut _ _ ap.j1_z g) (fj q1 λ o g=>sb1.extBut _ _ ap.t1_z g) e1 λ m2 e xb he=>?_);obtain⟨oe,ge,ce⟩:=he;have zm2:IsZip m2 z ti ox .ellipsis:=xb _ _ ap.j1_z.symm zm1;have ez:e≠z:=λ q=>by subst q;rw[zm2] at ge;cases ge;simp at ce
 exact hV zm2 (by simp) λ m3 _ sb3=>last m3 e (λ c o a1 _ a3 _ _ g=>sb3.extBut _ _ a1 (xb _ _ a3 (sb1.extBut _ _ a1 g))) ⟨oe,sb3.extBut _ _ ez ge,ce⟩
end
noncomputable def oy(K:FG)(a b c:Addr):It:=⟨λ i H=>∃xs ys zs x y z,SqT K H a xs/\SqT K H b ys/\SqT K H c zs/\xs[i]?=some x/\ys[i]?=some y/\zs[i]?=some z,
 λ i H v H'=>∃T x y z,v=.ref T/\H T=none/\H'=upd H T (.tup [x,y,z])/\∀xs ys zs,SqT K H a xs->SqT K H b ys->SqT K H c zs->xs[i]?=some x/\ys[i]?=some y/\zs[i]?=some z,λ i H=>∃xs,SqT K H a xs/\xs.length≤i⟩
theorem Hc{K:FG}(ap:Apart6 z ti ox j1 j2 j3 a b c) :
  Turn P w K (.Tuple es x1 pp) (oy K a b c) [z,ti,ox,j1,j2,j3] z (λ i h=>IsZip h z ti ox .none/\eH h ti (.ref j1) (.ref j2) (.ref j3)/\(∃u v r,eH h ox u v r)/\h.IsTupleIter j1 a i/\h.IsTupleIter j2 b i/\h.IsTupleIter j3 c i) where
 mem:=by simp
 obj:=λ i h q c hc=>by
  obtain⟨q1,q2,⟨u,v,r,q3⟩,⟨o4,g4,_,d4⟩,⟨o5,g5,_,d5⟩,⟨o6,g6,_,d6⟩⟩:=q;simp only[bE,cU,cL] at hc
  rcases hc with rfl | rfl | rfl | rfl | rfl | rfl
  ·exact⟨_,q1,λ v z=>nomatch z⟩
  ·exact⟨_,q2,λ v z=>nomatch z⟩
  ·exact⟨_,q3,λ v z=>nomatch z⟩
  ·exact⟨_,g4,λ v z=>by rw[d4] at z;cases z⟩
  ·exact⟨_,g5,λ v z=>by rw[d5] at z;cases z⟩
  ·exact⟨_,g6,λ v z=>by rw[d6] at z;cases z⟩
 keep:=λ i h h' q k=>by
  obtain⟨q1,q2,⟨u,v,r,q3⟩,q4,q5,q6⟩:=q;exact⟨k _ (by simp) _ q1,k _ (by simp) _ q2,⟨u,v,r,k _ (by simp) _ q3⟩,cf q4 λ o g=>k _ (by simp) o g,cf q5 λ o g=>k _ (by simp) o g,cf q6 λ o g=>k _ (by simp) o g⟩
 item:=by
  intro X hP hw hK hc i pins s σ H E I hf st hg;subst hP hw hK;obtain⟨xs,ys,zs,x,y,z',hq1,hq2,hq3,hx,hy,hz'⟩:=hg;obtain⟨q1,q2,⟨u,v,r,q3⟩,q4,q5,q6⟩:=st;obtain⟨as,ra,pa,za⟩:=I.tuple hq1;obtain⟨bs,rb,pb,zb⟩:=I.tuple hq2;obtain⟨cs,rc,pc,zc⟩:=I.tuple hq3;obtain⟨ux,hux,rux⟩:=ra.get hx;obtain⟨uy,huy,ruy⟩:=rb.get hy;obtain⟨uz,huz,ruz⟩:=rc.get hz';refine Ha ap q1 q2 q3 q4 q5 q6 (show s.heap.IsTuple a as.toArray from pa) (show s.heap.IsTuple b bs.toArray from pb) (show s.heap.IsTuple c cs.toArray from pc) (x:=ux) (y:=uy) (o3:=uz) (by simpa using hux) (by simpa using huy) (by simpa using huz) λ h' zz oo p1' p2' p3' np bt=>?_
  have I1:Inv X pins σ H { s with heap:=h' }:=I.turnedL (t':=s.toks) (fl:=[z,ti,ox,j1,j2,j3]) (λ c o hc e=>by
   simp only[bE,cU,cL,not_or] at hc
   exact bt c o hc.1 hc.2.2.1 hc.2.2.2.1 hc.2.2.2.2.1 hc.2.2.2.2.2 e) hf
  obtain⟨f0,f1,f2,f3,f4,f5⟩:=I.fpOk (aJ s.heap.objs.size) (I.hok.fresh (aJ _))
  have n0:X.s₀.heap.get? s.heap.objs.size=none:=by
   cases q:X.s₀.heap.get? s.heap.objs.size with
   | none=>rfl
   | some o=>exact absurd (cD (br q) I.sz) (eV _)
  have I2:Inv X pins σ (upd H s.heap.objs.size (.tup [x,y,z'])) { s with heap:=h' }:=I1.track f0 ⟨small (by simp),[ux,uy,uz],.cons rux (.cons ruy (.cons ruz .nil)),⟨_,np,rfl,_,rfl⟩⟩ f1 f4 f5 n0;have lt:∀ {c o},s.heap.get? c=some o->c≠s.heap.objs.size:=λ e=>bM (br e);have hzT:z≠s.heap.objs.size:=lt q1;have ti2:eH h' ti (.ref j1) (.ref j2) (.ref j3):=bt _ _ ap.ti_z ap.ti_ox ap.ti_j1 ap.ti_j2 ap.ti_j3 q2;obtain⟨e0,e1,e2,e3,e4,e5⟩:=hf z (by simp);refine⟨_,rfl,xW zz λ h2 z2 sb=>?_⟩;have I3:Inv X pins σ (upd H s.heap.objs.size (.tup [x,y,z'])) { s with heap:=h2 }:=Inv.turned (s:={ s with heap:=h' }) (h':=h2) (t':=s.toks) (it:=z) I2 (λ c o hc e=>sb.extBut _ _ hc e) (by rw[bo hzT];exact e0) e1 e3 e4 e5;refine⟨.ref s.heap.objs.size,_,I3,rfl,⟨_,x,y,z',rfl,f0,rfl,λ xs' ys' zs' k1 k2 k3=>?_⟩,⟨z2,sb.extBut _ _ ap.ti_z ti2,⟨_,_,_,sb.extBut _ _ ap.ox_z oo⟩,cf p1' λ o g=>sb.extBut _ _ ap.j1_z g,cf p2' λ o g=>sb.extBut _ _ ap.j2_z g,cf p3' λ o g=>sb.extBut _ _ ap.j3_z g⟩,λ c hc=>?_⟩
  ·rw[I.tuple_inj k1 hq1,I.tuple_inj k2 hq2,I.tuple_inj k3 hq3];exact⟨hx,hy,hz'⟩
  ·have cT:c≠s.heap.objs.size:=by
    obtain⟨o4,g4,_⟩:=q4;obtain⟨o5,g5,_⟩:=q5;obtain⟨o6,g6,_⟩:=q6;simp only[bE,cU,cL] at hc
    rcases hc with rfl | rfl | rfl | rfl | rfl | rfl
    ·exact hzT
    ·exact lt q2
    ·exact lt q3
    ·exact lt g4
    ·exact lt g5
    ·exact lt g6
   rw[bo cT];exact(hf c hc).1
 done:=by
  intro X hP hw hK hc i pins s σ H E I hf st hg;subst hP hw hK;obtain⟨xs,hq1,hx⟩:=hg;obtain⟨q1,q2,_,q4,_,_⟩:=st;obtain⟨as,ra,pa,za⟩:=I.tuple hq1;have la:=ra.length;refine Hb (I.ok.hd hc) ap q1 q2 q4 (show s.heap.IsTuple a as.toArray from pa) (by simp;lia) λ h' bt=>⟨rfl,?_⟩
  exact I.turnedL (t':=s.toks) (fl:=[z,ti,ox,j1,j2,j3]) (λ c o hc e=>by
   simp only[bE,cU,cL,not_or] at hc
   exact bt c o hc.1 hc.2.2.1 hc.2.2.2.1 hc.2.2.2.2.1 hc.2.2.2.2.2 e) hf
 self:=λ _ _ _ _ _ st h=>qu st.1 h
abbrev it0(h:Heap)(a:Addr):Heap:=h.push { cls:=.type "tuple_iterator",data:=.fields #[.ref a,.int 0 0] }
abbrev zw3(h:Heap)(a b c:Addr):Heap:=it0 (it0 (it0 h a) b) c
noncomputable abbrev zw4(h:Heap)(a b c:Addr):Heap:=(zw3 h a b c).push { cls:=.type "tuple",data:=.seq #[.ref h.objs.size,.ref (it0 h a).objs.size,.ref (it0 (it0 h a) b).objs.size] }
abbrev zw5(h:Heap)(a b c:Addr):Heap:=(zw4 h a b c).push { cls:=.type "tuple",data:=.seq #[.none,.none,.none] }
noncomputable abbrev zw6(h:Heap)(a b c:Addr):Heap:=(zw5 h a b c).push { cls:=.type "zip",data:=.fields #[.none,.bool false,.bool false,.ref (zw3 h a b c).objs.size,.ref (zw4 h a b c).objs.size] }
theorem Hd(a b c:Addr)(as bs cs:Array Value):Meets (Builtin.«zip.__new__» ⟨[.type "zip",.ref a,.ref b,.ref c],[]⟩) (λ _ R s=>s.heap.IsTuple a as/\s.heap.IsTuple b bs/\s.heap.IsTuple c cs/\R (.ok (.ret (.ref (zw5 s.heap a b c).objs.size))) { s with heap:=zw6 s.heap a b c }) :=
 .of_wp λ prog w A R s h=>by
  obtain⟨hp,g,d,tk,os⟩:=s;obtain⟨ha,hb,hc,h⟩:=h;have q0:=sub_zip;have q1:Heap.IsTuple (Shared.heap ⟨hp,g,d,tk,os⟩) a as:=ha;have q2:Heap.IsTuple (Shared.heap ⟨hp.push { cls:=.type "tuple_iterator",data:=.fields #[.ref a,.int 0 0] },g,d,tk,os⟩) b bs:=fj hb λ o e=>bd _ e;have q3:Heap.IsTuple (Shared.heap ⟨(hp.push { cls:=.type "tuple_iterator",data:=.fields #[.ref a,.int 0 0] }).push { cls:=.type "tuple_iterator",data:=.fields #[.ref b,.int 0 0] },g,d,tk,os⟩) c cs:=fj hc λ o e=>bd _ (bd _ e);wp_walk using iw q1,iw q2,iw q3;exact⟨_,rfl,h⟩
theorem He{s0:Shared}{R:VS}(ha:s0.heap.IsTuple a as)(hb:s0.heap.IsTuple b bs)(hc:s0.heap.IsTuple c cs)
  (f:∀h',IsZip h' (s0.heap.objs.size+5) (s0.heap.objs.size+3) (s0.heap.objs.size+4) .none->eH h' (s0.heap.objs.size+3) (.ref s0.heap.objs.size) (.ref (s0.heap.objs.size+1)) (.ref (s0.heap.objs.size+2))->eH h' (s0.heap.objs.size+4) .none .none .none ->
   h'.IsTupleIter s0.heap.objs.size a 0->h'.IsTupleIter (s0.heap.objs.size+1) b 0->h'.IsTupleIter (s0.heap.objs.size+2) c 0->(∀c o,s0.heap.get? c=some o->h'.get? c=some o)->R (.ref (s0.heap.objs.size+5)) { s0 with heap:=h' }) :
  wpAny (model pg wd) B (call (.type "zip") [.ref a,.ref b,.ref c]) R X0 s0:=by
 refine qc F.called_zip (by decide) (GX _ _ _) (GY _ _ _) (λ ob=>GZ ob _ _ _) F.entry_zip_new (Hd a b c as bs cs) ⟨ha,hb,hc,?_⟩;have n1:(it0 s0.heap a).objs.size=s0.heap.objs.size+1:=fh ..;have n2:(it0 (it0 s0.heap a) b).objs.size=s0.heap.objs.size+2:=by rw[fh,n1]
 have n3:(zw3 s0.heap a b c).objs.size=s0.heap.objs.size+3:=by rw[fh,n2]
 have n4:(zw4 s0.heap a b c).objs.size=s0.heap.objs.size+4:=by rw[fh,n3]
 have n5:(zw5 s0.heap a b c).objs.size=s0.heap.objs.size+5:=by rw[fh,n4]
 have u1:∀ {h:Heap}{o o':Obj}{x:Addr},h.get? x=some o->(h.push o').get? x=some o:=λ e=>bd _ e;have g6:(zw6 s0.heap a b c).get? (zw5 s0.heap a b c).objs.size=some _:=bG _ rfl;have g5:(zw6 s0.heap a b c).get? (zw4 s0.heap a b c).objs.size=some _:=u1 (bG _ rfl);have g4:(zw6 s0.heap a b c).get? (zw3 s0.heap a b c).objs.size=some _:=u1 (u1 (bG _ rfl));have g3:(zw6 s0.heap a b c).get? (it0 (it0 s0.heap a) b).objs.size=some _:=u1 (u1 (u1 (bG _ rfl)));have g2:(zw6 s0.heap a b c).get? (it0 s0.heap a).objs.size=some _:=u1 (u1 (u1 (u1 (bG _ rfl))));have g1:(zw6 s0.heap a b c).get? s0.heap.objs.size=some _:=u1 (u1 (u1 (u1 (u1 (bG _ rfl)))));show _/\_;rw[n3,n4,n5] at g6;rw[n1,n2,n3] at g4;rw[n4] at g5;rw[n2] at g3;rw[n1] at g2;rw[n5];exact⟨⟨_,g6,rfl⟩,f _ g6 g4 g5 ⟨_,g1,rfl,rfl⟩ ⟨_,g2,rfl,rfl⟩ ⟨_,g3,rfl,rfl⟩ λ x o q=>u1 (u1 (u1 (u1 (u1 (u1 q)))))⟩
theorem Hf(n a b c:Nat)(ha:a < n)(hb:b < n)(hc:c < n):Apart6 (n+5) (n+3) (n+4) n (n+1) (n+2) a b c:=by
 constructor<;>first | exact bM (by lia) | exact iY (by lia)
section
variable {X:Cx}{es:List Expr}{x1:Nat}{pp:Pos}
noncomputable def ze(K:FG)(ta:TA):TI:=λ σ H R=>ta σ H λ vs H1=>∃a b c xs ys zs,vs=[.ref a,.ref b,.ref c]/\SqT K H1 a xs/\SqT K H1 b ys/\SqT K H1 c zs/\R (oy K a b c) H1
theorem Hg{e1 e2 e3:Expr}{p pos:Pos}(hg:Gl X "zip")(hm:X.mg "zip"=none)(ha:PA X [e1,e2,e3] ta)(hs:starEach [e1,e2,e3] X.env=[(false,eval e1 X.env),(false,eval e2 X.env),(false,eval e3 X.env)]:=by rfl)(hs2:starEach [e2,e3] X.env=[(false,eval e2 X.env),(false,eval e3 X.env)]:=by rfl) :
  PI X (.Tuple es x1 pp) (.Call (.Name "zip" p) [e1,e2,e3] [] pos) (ze X.K ta):=by
 intro pins s σ H R I h;have hA:=ha pos pins s σ H _ I h;refine Call_ (fQ I hg hm boot_zip (ix (thn hA λ us s1 ⟨vs,H1,I1,r1,q1⟩=>?_) (by rw[hs,hs2]) (by rw[hs2];rfl)));obtain⟨a,b,c,xs,ys,zs,rfl,ha,hb,hc,q⟩:=q1;obtain⟨u,u',u'',rfl,ra,rb,rc⟩:=GW r1;cases (show u=Value.ref a from ra);cases (show u'=Value.ref b from rb);cases (show u''=Value.ref c from rc);obtain⟨as,va,pa,za⟩:=I1.tuple ha;obtain⟨bs,vb,pb,zb⟩:=I1.tuple hb;obtain⟨cs,vc,pc,zc⟩:=I1.tuple hc;have al:a < s1.heap.objs.size:=by obtain⟨o,g,_⟩:=pa;exact br g
 have bl:b < s1.heap.objs.size:=by obtain⟨o,g,_⟩:=pb;exact br g
 have cl:c < s1.heap.objs.size:=by obtain⟨o,g,_⟩:=pc;exact br g
 refine He (show s1.heap.IsTuple a as.toArray from pa) (show s1.heap.IsTuple b bs.toArray from pb) (show s1.heap.IsTuple c cs.toArray from pc) λ h' w1 w2 w3 w4 w5 w6 kk=>?_;have I2:Inv X pins σ H1 { s1 with heap:=h' }:=I1.kept (t':=s1.toks) kk;have ap:=Hf s1.heap.objs.size a b c al bl cl;refine qu w1 ⟨s1.heap.objs.size+5,[s1.heap.objs.size+5,s1.heap.objs.size+3,s1.heap.objs.size+4,s1.heap.objs.size,s1.heap.objs.size+1,s1.heap.objs.size+2],_,_,H1,rfl,I2,Hc ap,⟨w1,w2,⟨_,_,_,w3⟩,w4,w5,w6⟩,λ c hc=>?_,q⟩
 have ge:s1.heap.objs.size≤c:=by
  simp only[bE,cU,cL] at hc
  rcases hc with rfl | rfl | rfl | rfl | rfl | rfl<;>lia
 exact I1.fpOk ge (I1.hok.fresh ge)
end
noncomputable def CompZ3(K:PySem.W.Frag)(k:Nat)(js:List Nat)(g:TG)(te:TE)(σ:St)(vs:List V)(H1:Hp)(Q:VK):Prop:=∃a b c xs ys zs,vs=[.ref a,.ref b,.ref c]/\SqT K H1 a xs/\SqT K H1 b ys/\SqT K H1 c zs/\∃W:Nat->Nat->List V->St->Hp->Prop,(∃m,W 0 m [] (bU k js σ) H1)/\∀i m zs σ' H',W i m zs σ' H' ->
  ((oy K a b c).stop i H'/\∀p,H' p=none->Q (.ref p) (upd H' p (.lst zs))) \/
  ((oy K a b c).go i H'/\zs.length < sizeLine/\∃N:List V->St->Hp->Prop,(∀zs σ2 H2,N zs σ2 H2->∃m',m' < m/\W (i+1) m' zs σ2 H2)/\∀x H2,(oy K a b c).yld i H' x H2->g x σ' H2 λ σ3 H3=>te σ3 H3 λ v H4=>N (zs++[v]) σ3 H4)
theorem Hh{K:FG}:gi (ze K ta) k js g te σ H Q=ta σ H λ vs H1=>CompZ3 K k js g te σ vs H1 Q:=rfl
theorem CompZ3.mk{K:FG}{xs ys zs:List V}{g:TG}{te:TE}{Q:VK}(n:Nat)(hn:n=xs.length)(hy:ys.length=n)(hz:zs.length=n)(h1:SqT K H a xs)(h2:SqT K H b ys)(h3:SqT K H c zs)(Pv:Nat->List V->St->Hp->Prop)(h0:Pv 0 [] (bU k js σ) H)(hl:∀i us σ H,i≤n->Pv i us σ H->SqT K H a xs/\SqT K H b ys/\SqT K H c zs)
  (hs:∀i x y z us σ H T,i < n->xs[i]?=some x->ys[i]?=some y->zs[i]?=some z->Pv i us σ H->H T=none->g (.ref T) σ (upd H T (.tup [x,y,z])) λ σ3 H3=>te σ3 H3 λ v H4=>Pv (i+1) (us++[v]) σ3 H4) (hd:∀us σ H,Pv n us σ H->∀p,H p=none->Q (.ref p) (upd H p (.lst us))) (hlen:∀i us σ H,Pv i us σ H->us.length < sizeLine) :
  CompZ3 K k js g te σ [.ref a,.ref b,.ref c] H Q:=by
 subst hn;refine⟨a,b,c,xs,ys,zs,rfl,h1,h2,h3,λ i m us σ H=>m=xs.length - i/\i≤xs.length/\Pv i us σ H,⟨_,rfl,bc _,h0⟩,?_⟩;rintro i m us σ H ⟨rfl,hi,p⟩;obtain⟨k1,k2,k3⟩:=hl i us σ H hi p;by_cases hlt:i < xs.length
 ·refine .inr ⟨⟨xs,ys,zs,_,_,_,k1,k2,k3,aX hlt,aX (hy ▸ hlt),aX (hz ▸ hlt)⟩,hlen _ _ _ _ p,Pv (i+1),λ us' σ' H' p'=>⟨xs.length - (i+1),by lia,rfl,hlt,p'⟩,λ v H' yy=>?_⟩;obtain⟨T,x,y,z,rfl,hT,rfl,ex⟩:=yy;obtain⟨ex1,ex2,ex3⟩:=ex xs ys zs k1 k2 k3;exact hs i x y z us σ H T hlt ex1 ex2 ex3 p hT
 ·have e:i=xs.length:=by lia
  exact .inl ⟨⟨xs,k1,by lia⟩,hd us σ H (e ▸ p)⟩
section
variable {prog:Program}{w:World}{A:Around}{R:Result->Shared->Prop}{I:Addr}{fp wr:List Addr}{n:Nat}{P:Nat->Value->Prop}{St:Nat->Heap->Prop}
noncomputable def zi(h0:Heap)(S:Addr)(wr:List Addr)(kf:Nat->Int)(P:Nat->Value->Prop):Prop:=∀i v,P i v->∃a its,v=.ref a/\¬a∈wr/\a≠S/\h0.IsTuple a its/\(its.size:Int) < 2 ^ 63/\kf i=its.size
def tZ(kf:Nat->Int)(m i:Nat):Prop:=∀j,j < m->kf j≤kf i/\(j < i->kf j < kf i)
theorem Hi(W:Walks prog w A.in1 I fp wr n P St)(kf:Nat->Int)(S:Addr)(hSf:¬S∈fp)(h0:Heap)(hk:zi h0 S wr kf P):∀(k j i:Nat) (s:Shared) (vb:Value) (tb:Tok) (c:Nat),n - (j+1)=k->j+1≤n->St (j+1) s.heap->P i vb->i≤j->tZ kf (j+1) i->(∀b o,¬b∈wr->b≠S->h0.get? b=some o->s.heap.get? b=some o)->s.heap.get? S=some ⟨.type "list",none,.seq #[vb,.int (kf i) tb] c,#[]⟩ ->
  (∀i v h' tk,P i v->i < n->tZ kf n i->(∀b o,¬b∈wr->b≠S->h0.get? b=some o->h'.get? b=some o)->R (.ok (.ret v)) { s with heap:=h',toks:=tk })->codeAny (model prog w) A (.builtin "max.loop" ⟨[.ref I,.builtin "len",.ref S],[]⟩) R s:=by
 have hSw:¬S∈wr:=λ h=>hSf (W.sub _ h);have nm:(toString "max" ++ toString ".loop" : String)="max.loop" := by decide
 intro k;induction k with
 | zero =>
  intro j i s vb tb c hk' hj hst hPb hij hb kp0 hS hR;have e0:j+1=n:=by lia
  refine jh ud ?_;rw[ji lg _];show wpAny (model prog w) A.in1 (seqItems? (.ref S) >>= _) _ _ s;refine ak (m:=seqItems? (.ref S)) (eQ hS rfl ?_);show wpAny (model prog w) A.in1 (tryCatch (pyNext (.ref I)) _ >>= _) _ _ s;refine ak (m:=tryCatch (pyNext (.ref I)) _) (mH (W.done s _ _ (e0 ▸ hst) λ h' tk kp=>?_));have hS1:=kp S _ hSw hS;show wpAny (model prog w) A.in1 (updateSeq S (λ _=>#[]) >>= _) _ _ _;refine ak (m:=updateSeq S (λ _=>#[])) (mx hS1 rfl (ak (iA (aK ?_))));exact hR i vb _ tk hPb (by lia) (e0 ▸ hb) λ b o hbw hbS e=>(gH _ _ (cY hbS)).trans (kp b o hbw (kp0 b o hbw hbS e))
 | succ k ih =>
  intro j i s vb tb c hk' hj hst hPb hij hb kp0 hS hR;have lt0:j+1 < n:=by lia
  refine jh ud ?_;rw[ji lg _];show wpAny (model prog w) A.in1 (seqItems? (.ref S) >>= _) _ _ s;refine ak (m:=seqItems? (.ref S)) (eQ hS rfl ?_);show wpAny (model prog w) A.in1 (tryCatch (pyNext (.ref I)) _ >>= _) _ _ s;refine ak (m:=tryCatch (pyNext (.ref I)) _) (mH (W.item (j+1) s _ _ lt0 hst λ v h' tk hP hst1 kp=>?_));have hS1:=kp S _ hSw hS;have kp1:∀b o,¬b∈wr->b≠S->h0.get? b=some o->h'.get? b=some o:=λ b o hbw hbS e=>kp b o hbw (kp0 b o hbw hbS e);obtain⟨a,its,rfl,aw,aS,at0,a63,ek⟩:=hk _ _ hP;show wpAny (model prog w) A.in1 (tryCatch (holding [.ref a] (call (.builtin "len") [.ref a])) _ >>= _) _ _ _;refine ak (mH (gD (s0m (fj at0 λ o e=>kp1 a o aw aS e) a63 ?_)));rw[← ek];show wpAny (model prog w) A.in1 (tryCatch (holding [.ref a,.int (kf (j+1)) _] (richCompare .Gt (.int (kf (j+1)) _) (.int (kf i) tb) >>= _)) _ >>= _) _ _ _;refine ak (mH (gD (ak (CmpOf.ints_gt (prog:=prog) (w:=w) (A:=A.in1) (P:=λ i v=>∃t,v=.int (kf i) t) kf (λ i v h=>h) (j+1) i _ _ _ _ _ ⟨_,rfl⟩ ⟨tb,rfl⟩ ?_))));refine ak (gD (iV ?_));refine ak (iA (aK ?_));by_cases hb':kf (j+1) > kf i
  ·simp only[hb',decide_true,gG];refine ak (m:=updateSeq S _) (mx hS1 rfl (ak (iA ?_)));rw[nm];refine aK (a:=_) ⟨hE lg _,ih (j+1) (j+1) _ (.ref a) _ _ (by lia) lt0 (W.frame _ _ _ hst1 λ b hbf o e=>(gH _ _ (λ h:S=b=>hSf (by rw[h];exact hbf))).trans e) hP (aJ _) (λ j' hj'=>?_) (λ b o hbw hbS e=>(gH _ _ (cY hbS)).trans (kp1 b o hbw hbS e)) (ja _ hS1 rfl) λ i2 v2 h2 tk2 q1 q2 q3 q4=>hR i2 v2 h2 tk2 q1 q2 q3 q4⟩;by_cases e:j'=j+1
   ·subst e;exact⟨kh _,λ z=>absurd z (eV _)⟩
   ·have:=(hb j' (by lia)).1;exact⟨by lia,λ _=>by lia⟩
  ·simp only[hb',decide_false,tT,s0k];refine ak (m:=letGo _) (iA ?_);rw[nm];refine aK (a:=_) ⟨hE lg _,ih (j+1) i _ vb tb c (by lia) lt0 hst1 hPb (by lia) (λ j' hj'=>?_) kp1 hS1 λ i2 v2 h2 tk2 q1 q2 q3 q4=>hR i2 v2 h2 tk2 q1 q2 q3 q4⟩;by_cases e:j'=j+1
   ·subst e;exact⟨by lia,λ z=>by lia⟩
   ·exact hb j' (by lia)
theorem Hj(W:Walks prog w A.in1 I fp wr n P St)(kf:Nat->Int)(S:Addr)(hSf:¬S∈fp)(h0:Heap)(hk:zi h0 S wr kf P)(hn:0 < n){s:Shared}(hst:St 0 s.heap)(kp0:∀b o,¬b∈wr->b≠S->h0.get? b=some o->s.heap.get? b=some o)(hS:s.heap.get? S=some ⟨.type "list",none,.seq #[] c,#[]⟩)
  (hR:∀i v h' tk,P i v->i < n->tZ kf n i->(∀b o,¬b∈wr->b≠S->h0.get? b=some o->h'.get? b=some o)->R (.ok (.ret v)) { s with heap:=h',toks:=tk }):codeAny (model prog w) A (.builtin "max.loop" ⟨[.ref I,.builtin "len",.ref S],[]⟩) R s:=by
 have hSw:¬S∈wr:=λ h=>hSf (W.sub _ h);have nm:(toString "max" ++ toString ".loop" : String)="max.loop" := by decide
 refine jh ud ?_;rw[ji lg _];show wpAny (model prog w) A.in1 (seqItems? (.ref S) >>= _) _ _ s;refine ak (m:=seqItems? (.ref S)) (eQ hS rfl ?_);show wpAny (model prog w) A.in1 (tryCatch (pyNext (.ref I)) _ >>= _) _ _ s;refine ak (m:=tryCatch (pyNext (.ref I)) _) (mH (W.item 0 s _ _ hn hst λ v h' tk hP hst1 kp=>?_));have hS1:=kp S _ hSw hS;have kp1:∀b o,¬b∈wr->b≠S->h0.get? b=some o->h'.get? b=some o:=λ b o hbw hbS e=>kp b o hbw (kp0 b o hbw hbS e);obtain⟨a,its,rfl,aw,aS,at0,a63,ek⟩:=hk _ _ hP;show wpAny (model prog w) A.in1 (tryCatch (holding [.ref a] (call (.builtin "len") [.ref a])) _ >>= _) _ _ _;refine ak (mH (gD (s0m (fj at0 λ o e=>kp1 a o aw aS e) a63 ?_)));rw[← ek];show wpAny (model prog w) A.in1 (updateSeq S (λ _=>#[.ref a,.int (kf 0) _]) >>= _) _ _ _;refine ak (m:=updateSeq S _) (mx hS1 rfl ?_);rw[nm];refine aK (a:=_) ⟨hE lg _,Hi W kf S hSf h0 hk _ 0 0 _ (.ref a) _ _ rfl hn (W.frame _ _ _ hst1 λ b hbf o e=>(gH _ _ (λ h:S=b=>hSf (by rw[h];exact hbf))).trans e) hP (aJ _) (λ j' hj'=>?_) (λ b o hbw hbS e=>(gH _ _ (cY hbS)).trans (kp1 b o hbw hbS e)) (ja _ hS1 rfl) λ i2 v2 h2 tk2 q1 q2 q3 q4=>hR i2 v2 h2 tk2 q1 q2 q3 q4⟩;have z:j'=0:=by lia
 subst z;exact⟨kh _,λ z=>absurd z (eV _)⟩
end
section
variable {X:Cx}
end
section
variable {X:Cx}{st:Stmt}{rest:List Stmt}{t u:TS}{e:Expr}{es:List Expr}{te:TE}{ta:TA}{pos:Pos}
end
section
variable {prog:Program}{w:World}{A:Around}
theorem Hk(a b v:Value):argsOk "max" ⟨[a,b],[(Str.ofString "key",v)]⟩:=by unfold argsOk;kernel_rfl
theorem Hl{s:Shared}{Q:VS}(hh:A.handled=none)(h1:s.heap.IsTuple a1 i1)(h2:s.heap.IsTuple a2 i2)(z1:(i1.size:Int) < 2 ^ 63)(z2:(i2.size:Int) < 2 ^ 63)
  (hQ:∀v h' tk,(v=.ref a1/\i2.size≤i1.size\/v=.ref a2/\i1.size < i2.size)->(∀b o,s.heap.get? b=some o->h'.get? b=some o)->Q v { s with heap:=h',toks:=tk }):wpAny (model prog w) A (call (.builtin "max") [.ref a1,.ref a2] [(Str.ofString "key",.builtin "len")]) Q E s:=by
 have nm:(toString "max" ++ toString ".loop" : String)="max.loop" := by decide
 have hT:(s.heap.push { cls:=.type "tuple",data:=.seq #[.ref a1,.ref a2] }).IsTuple s.heap.objs.size #[.ref a1,.ref a2]:=⟨_,bG _ rfl,rfl,0,rfl⟩;have hsz:(s.heap.push { cls:=.type "tuple",data:=.seq #[.ref a1,.ref a2] }).objs.size=s.heap.objs.size+1:=fh ..;refine kmb_tree PySem.F.kind_max PySem.F.plain_max PySem.F.entry_max (Hk _ _ _) ?_;show wpAny _ A.in1 (Builtin.Builtins.bindParams "max" ["key","default"] 0 ⟨[],[(Str.ofString "key",.builtin "len")]⟩ >>= _) _ _ s;refine ak (gM (show Builtin.Builtins.bindParams "max" ["key","default"] 0 ⟨[],[(Str.ofString "key",.builtin "len")]⟩=pure [some (.builtin "len"),none] from rfl) ?_);show wpAny _ A.in1 (newTuple [.ref a1,.ref a2] >>= _) _ _ s;refine ak (fb ?_);refine ak (m:=pyIter _) (iw hT ?_);refine ak (m:=newList _) (fb ?_);rw[nm];have W:=Walks.tuple (prog:=prog) (w:=w) (A:=A.in1) hh (s.heap.push { cls:=.type "tuple",data:=.seq #[.ref a1,.ref a2] }).objs.size s.heap.objs.size (by rw[hsz];exact bM (kN _)) #[.ref a1,.ref a2];have hI:((s.heap.push { cls:=.type "tuple",data:=.seq #[.ref a1,.ref a2] }).push { cls:=.type "tuple_iterator",data:=.fields #[.ref s.heap.objs.size,.int 0 0] }).objs.size=s.heap.objs.size+2:=by rw[fh,hsz]
 have e1:a1 < s.heap.objs.size:=by obtain⟨o,g,_⟩:=h1;exact br g
 have e2:a2 < s.heap.objs.size:=by obtain⟨o,g,_⟩:=h2;exact br g
 refine aK (a:=_) ⟨hE lg _,Hj W (λ i=>([(i1.size:Int),(i2.size:Int)].getD i 0)) ((s.heap.push { cls:=.type "tuple",data:=.seq #[.ref a1,.ref a2] }).push { cls:=.type "tuple_iterator",data:=.fields #[.ref s.heap.objs.size,.int 0 0] }).objs.size ?_ s.heap (λ i v hv=>?_) (oz _) ?_ (λ b o _ _ e=>bd _ (bd _ (bd _ e))) (bG _ rfl) λ i v h' tk q1 q2 q3 q4=>?_⟩
 ·rw[hI,hsz];intro z
  rcases bE.mp z with z | z
  ·exact absurd z (Nat.succ_ne_self _)
  ·exact absurd (bL.mp z) (iY (fG (kN _)))
 ·have nw:∀a,a < s.heap.objs.size->¬a∈[(s.heap.push { cls:=.type "tuple",data:=.seq #[.ref a1,.ref a2] }).objs.size]:=λ a h z=>by
   have:=bL.mp z;rw[hsz] at this;exact bM (fG h) this
  match i,hv with
  | 0,hv=>cases hv;exact⟨a1,i1,rfl,nw _ e1,by rw[hI];exact bM (fG (fG e1)),h1,z1,rfl⟩
  | 1,hv=>cases hv;exact⟨a2,i2,rfl,nw _ e2,by rw[hI];exact bM (fG (fG e2)),h2,z2,rfl⟩
  | i+2,hv=>simp at hv
 ·exact W.frame _ _ _ ⟨⟨_,bG _ rfl,rfl,rfl⟩,hT.push _⟩ λ b _ o e=>bd _ e
 ·have kp:∀b o,s.heap.get? b=some o->h'.get? b=some o:=λ b o e=>by
   have bl:=br e;exact q4 b o (λ z=>by have:=bL.mp z;rw[hsz] at this;exact bM (fG bl) this) (by rw[hI];exact bM (fG (fG bl))) e
  match i,q1 with
  | 0,q1 =>
   cases q1;have b:=(q3 1 (kN _)).1;have b:(i2.size:Int)≤(i1.size:Int):=b;exact hQ _ _ _ (.inl ⟨rfl,by lia⟩) kp
  | 1,q1 =>
   cases q1;have b:=(q3 0 (oz _)).2 (oz _);have b:(i1.size:Int) < (i2.size:Int):=b;exact hQ _ _ _ (.inr ⟨rfl,by lia⟩) kp
  | i+2,q1=>simp at q1
end
section
variable {X:Cx}
noncomputable def ue:V->V->Hp->VK->Prop:=λ x y H Q=>∃(a b:Addr) (xs ys:List V),x=.ref a/\y=.ref b/\H a=some (.tup xs)/\H b=some (.tup ys)/\(ys.length≤xs.length->Q (.ref a) H)/\(xs.length < ys.length->Q (.ref b) H)
def zk(r:V->V->Hp->VK->Prop)(te tf:TE):TE:=λ σ H Q=>te σ H λ x H1=>tf σ H1 λ y H2=>r x y H2 Q
theorem zl{p kp pos p2:Pos}(hc:X.calm=true)(hg:Gl X "max")(hm:X.mg "max"=none)(hg2:Gl X "len")(hm2:X.mg "len"=none)(he:PE X e te)(hf:PE X f tf)(hs:starEach [e,f] X.env=(false,eval e X.env)::starEach [f] X.env:=by rfl)(hs2:starEach [f] X.env=[(false,eval f X.env)]:=by rfl):PE X (.Call (.Name "max" p) [e,f] [⟨some (Str.ofString "key"),.Name "len" p2,kp⟩] pos) (zk ue te tf):=by
 intro pins s σ H Q I h;refine lY (fQ I hg hm lh ?_);have hA:=(aE he (aE hf (bK (X:=X)) hs2) hs) pos pins s σ H (λ vs H1=>match vs with | [x,y]=>ue x y H1 Q | _=>False) I h;refine callWith_kw (thn hA λ us s1 ⟨vs,H1,I1,r1,q1⟩=>?_) (by rw[hs,hs2];rfl) (by rw[hs,hs2];rfl)
 match vs,q1 with
 | [x0,y0],q1 =>
  obtain⟨u,v,rfl,ru,rv⟩:=lX r1;refine kws_cons (fQ I1 hg2 hm2 boot_len (kws_nil ?_));obtain⟨a,b,xs,ys,rfl,rfl,ha,hb,qa,qb⟩:=q1;cases (show u=Value.ref a from ru);cases (show v=Value.ref b from rv);obtain⟨i1,t1,p1,y1⟩:=I1.tuple (show SqT X.K H1 a xs from .of ha);obtain⟨i2,t2,p2',y2⟩:=I1.tuple (show SqT X.K H1 b ys from .of hb);have l1:=t1.length;have l2:=t2.length;have hsz:sizeLine=16777216:=pO;refine Hl (I1.ok.hd hc) p1 p2' (by rw[bN];lia) (by rw[bN];lia) λ v h' tk hv kk=>?_;simp only[bN] at hv
  rcases hv with ⟨rfl,hl⟩ | ⟨rfl,hl⟩
  ·exact⟨.ref a,H1,I1.kept kk,rfl,qa (by lia)⟩
  ·exact⟨.ref b,H1,I1.kept kk,rfl,qb (by lia)⟩
end
noncomputable def CompLI(K:PySem.W.Frag)(k:Nat)(js:List Nat)(g:TG)(tc:TT)(te:TE)(σ:St)(v:V)(H1:Hp)(Q:VK):Prop:=∃a,v=.ref a/\(∃xs,SqL K H1 a xs)/\∃W:Nat->Nat->List V->St->Hp->Prop,(∃m,W 0 m [] (bU k js σ) H1)/\∀i m zs σ' H',W i m zs σ' H' ->
  ((Itl K a).stop i H'/\∀p,H' p=none->Q (.ref p) (upd H' p (.lst zs))) \/
  ((Itl K a).go i H'/\zs.length < sizeLine/\∃N:List V->St->Hp->Prop,(∀zs σ2 H2,N zs σ2 H2->∃m',m' < m/\W (i+1) m' zs σ2 H2)/\∀x H2,(Itl K a).yld i H' x H2->g x σ' H2 λ σ3 H3=>tc σ3 H3 λ b H4=>if b=true then te σ3 H4 λ v H5=>N (zs++[v]) σ3 H5 else N zs σ3 H4)
theorem Hm{K:FG}:gk (nG K tx) k js g tc te σ H Q=tx σ H λ v H1=>CompLI K k js g tc te σ v H1 Q:=rfl
theorem CompLI.mk{K:FG}{g:TG}{tc:TT}{te:TE}{Q:VK}(h1:SqL K H a xs)(Pv:Nat->List V->St->Hp->Prop)(h0:Pv 0 [] (bU k js σ) H)(hl:∀i zs σ H,i≤xs.length->Pv i zs σ H->SqL K H a xs/\zs.length < sizeLine)
  (hs:∀i x zs σ H,xs[i]?=some x->Pv i zs σ H->g x σ H λ σ3 H3=>tc σ3 H3 λ b H4=>if b=true then te σ3 H4 λ v H5=>Pv (i+1) (zs++[v]) σ3 H5 else Pv (i+1) zs σ3 H4) (hz:∀zs σ H,Pv xs.length zs σ H->∀p,H p=none->Q (.ref p) (upd H p (.lst zs))) :
  CompLI K k js g tc te σ (.ref a) H Q:=by
 refine⟨a,rfl,⟨xs,h1⟩,λ i m zs σ H=>m=xs.length - i/\i≤xs.length/\Pv i zs σ H,⟨_,rfl,bc _,h0⟩,?_⟩;rintro i m zs σ H ⟨rfl,hi,p⟩;obtain⟨k1,k2⟩:=hl i zs σ H hi p;by_cases hlt:i < xs.length
 ·refine .inr ⟨⟨xs,_,k1,aX hlt⟩,k2,Pv (i+1),λ zs' σ' H' p'=>⟨xs.length - (i+1),by lia,rfl,hlt,p'⟩,λ v H' yy=>?_⟩;obtain⟨rfl,ex⟩:=yy;exact hs i v zs σ _ (ex xs k1) p
 ·have e:i=xs.length:=by lia
  exact .inl ⟨⟨xs,k1,by lia⟩,hz zs σ H (e ▸ p)⟩
noncomputable def CompRI(lo:Int)(n k:Nat)(js:List Nat)(g:TG)(tc:TT)(te:TE)(σ:St)(H1:Hp)(Q:VK):Prop:=∃W:Nat->Nat->List V->St->Hp->Prop,(∃m,W 0 m [] (bU k js σ) H1)/\∀i m zs σ' H',W i m zs σ' H' ->
  ((Itr lo n).stop i H'/\∀p,H' p=none->Q (.ref p) (upd H' p (.lst zs))) \/
  ((Itr lo n).go i H'/\zs.length < sizeLine/\∃N:List V->St->Hp->Prop,(∀zs σ2 H2,N zs σ2 H2->∃m',m' < m/\W (i+1) m' zs σ2 H2)/\∀x H2,(Itr lo n).yld i H' x H2->g x σ' H2 λ σ3 H3=>tc σ3 H3 λ b H4=>if b=true then te σ3 H4 λ v H5=>N (zs++[v]) σ3 H5 else N zs σ3 H4)
theorem Hn:gk (pG ta) k js g tc te σ H Q=ta σ H λ vs H1=>∃j:Int,vs=[.int j]/\-(2 ^ 62)≤j/\j < 2 ^ 62/\CompRI 0 j.toNat k js g tc te σ H1 Q:=rfl
theorem CompRI.mk{lo:Int}{n k:Nat}{g:TG}{tc:TT}{te:TE}{Q:VK}(Pv:Nat->List V->St->Hp->Prop)(h0:Pv 0 [] (bU k js σ) H)(hl:∀i zs σ H,i≤n->Pv i zs σ H->zs.length < sizeLine)
  (hs:∀i zs σ H,i < n->Pv i zs σ H->g (.int (lo+i)) σ H λ σ3 H3=>tc σ3 H3 λ b H4=>if b=true then te σ3 H4 λ v H5=>Pv (i+1) (zs++[v]) σ3 H5 else Pv (i+1) zs σ3 H4) (hz:∀zs σ H,Pv n zs σ H->∀p,H p=none->Q (.ref p) (upd H p (.lst zs))) :
  CompRI lo n k js g tc te σ H Q:=by
 refine⟨λ i m zs σ H=>m=n - i/\i≤n/\Pv i zs σ H,⟨_,rfl,bc _,h0⟩,?_⟩;rintro i m zs σ H ⟨rfl,hi,p⟩;by_cases hlt:i < n
 ·refine .inr ⟨hlt,hl i zs σ H hi p,Pv (i+1),λ zs' σ' H' p'=>⟨n - (i+1),by lia,rfl,hlt,p'⟩,λ v H' yy=>?_⟩;obtain⟨rfl,rfl⟩:=yy;exact hs i zs σ _ hlt p
 ·have e:i=n:=by lia
  exact .inl ⟨show n≤i by lia,hz zs σ H (e ▸ p)⟩
theorem uf{K:FG}{xs:LI}{g:TG}{tc:TT}{te:TE}{Q:VK}{H:Hp}(h1:H a=some (.lst (xs.map V.int)))(lx:xs.length≤1000)(P:Int->Prop)(cs:St)(h0:bU k js σ=none::cs)
  (hs:∀(x:Int) (y:Option V) (G:Hp) (Rt:V->St->Hp->Prop) (Rf:St->Hp->Prop),x∈xs->Same H G->(∀G',Same H G'->P x->Rt (.int x) (some (.int x)::cs) G')->(∀G',Same H G'->¬P x->Rf (some (.int x)::cs) G')->g (.int x) (y::cs) G λ σ3 H3=>tc σ3 H3 λ b H4=>if b=true then te σ3 H4 λ v H5=>Rt v σ3 H5 else Rf σ3 H4)
  (hz:∀(ks:LI) (G:Hp) (p:Addr),Same H G->G p=none->(∀k,k∈ks ↔ k∈xs/\P k)->ks.length≤xs.length->Q (.ref p) (upd G p (.lst (ks.map V.int)))):CompLI K k js g tc te σ (.ref a) H Q:=by
 have sz:(1000:Nat) < sizeLine:=bD (aJ _);refine CompLI.mk (xs:=xs.map V.int) (.of h1) (λ i zs σ' G=>Same H G/\∃ks:LI,zs=ks.map V.int/\i≤xs.length/\ks.length≤i/\(∀k,k∈ks ↔ k∈xs.take i/\P k)/\∃y,σ'=y::cs) ⟨Same.refl _,[],rfl,bc _,bc _,λ k=>by simp,none,h0⟩ (λ i zs σ' G il h=>?_) (λ i x zs σ' G e h=>?_) (λ zs σ' G h p hp=>?_)
 ·obtain⟨u,ks,rfl,i1,k1,_⟩:=h;exact⟨.of (u _ _ h1),by rw[aA];exact jU (dW k1 (dW i1 lx)) sz⟩
 ·obtain⟨u,ks,rfl,i1,k1,hk,y,rfl⟩:=h
  obtain⟨n,rfl,hn⟩:∃n,x=.int n/\xs[i]?=some n:=by
   rw[bA] at e
   cases hx:xs[i]? with
   | none=>rw[hx] at e;cases e
   | some n=>rw[hx] at e;cases e;exact⟨n,rfl,rfl⟩
  have il:=(bv.mp hn).1;have tk:∀k,k∈xs.take (i+1) ↔ k∈xs.take i\/k=n:=λ k=>by rw[cO,hn];simp
  refine hs n y G _ _ (bw hn) u (λ G' u' pn=>?_) (λ G' u' pn=>?_)
  ·refine⟨u',ks++[n],by rw[aY];rfl,il,by rw[bu];exact jR k1,λ k=>?_,_,rfl⟩;rw[cZ,bL,hk,tk];constructor
   ·rintro(⟨a,b⟩ | rfl)
    ·exact⟨.inl a,b⟩
    ·exact⟨.inr rfl,pn⟩
   ·rintro⟨a | rfl,b⟩
    ·exact .inl ⟨a,b⟩
    ·exact .inr rfl
  ·refine⟨u',ks,rfl,il,Nat.le_succ_of_le k1,λ k=>?_,_,rfl⟩;rw[hk,tk];constructor
   ·rintro⟨a,b⟩;exact⟨.inl a,b⟩
   ·rintro⟨a | rfl,b⟩
    ·exact⟨a,b⟩
    ·exact absurd b pn
 ·obtain⟨u,ks,rfl,i1,k1,hk,y,rfl⟩:=h;rw[aA] at k1 hk;exact hz ks G p u hp (λ k=>by rw[hk,cx]) k1
theorem zm{n k:Nat}{g:TG}{tc:TT}{te:TE}{Q:VK}(ln:n≤1000)(P:Nat->Prop)(cs:St)(h0:bU k js σ=none::cs)
  (hs:∀(x:Nat) (y:Option V) (G:Hp) (Rt:V->St->Hp->Prop) (Rf:St->Hp->Prop),x < n->Same H G->(∀G',Same H G'->P x->Rt (.int (x:Int)) (some (.int (x:Int))::cs) G')->(∀G',Same H G'->¬P x->Rf (some (.int (x:Int))::cs) G')->g (.int (x:Int)) (y::cs) G λ σ3 H3=>tc σ3 H3 λ b H4=>if b=true then te σ3 H4 λ v H5=>Rt v σ3 H5 else Rf σ3 H4)
  (hz:∀(ks:LI) (G:Hp) (p:Addr),Same H G->G p=none->(∀k,k∈ks ↔ ∃j:Nat,k=j/\j < n/\P j)->ks.length≤n->Q (.ref p) (upd G p (.lst (ks.map V.int)))):CompRI 0 n k js g tc te σ H Q:=by
 have sz:(1000:Nat) < sizeLine:=bD (aJ _);refine CompRI.mk (λ i zs σ' G=>Same H G/\∃ks:LI,zs=ks.map V.int/\ks.length≤i/\(∀k,k∈ks ↔ ∃j:Nat,k=j/\j < i/\P j)/\∃y,σ'=y::cs) ⟨Same.refl _,[],rfl,bc _,λ k=>⟨(λ z=>nomatch z),λ⟨j,_,z,_⟩=>absurd z (Nat.not_lt_zero _)⟩,none,h0⟩ (λ i zs σ' G il h=>?_) (λ i zs σ' G il h=>?_) (λ zs σ' G h p hp=>?_)
 ·obtain⟨u,ks,rfl,k1,_⟩:=h;rw[aA];exact jU (dW k1 (dW il ln)) sz
 ·obtain⟨u,ks,rfl,k1,hk,y,rfl⟩:=h;rw[mK];refine hs i y G _ _ il u (λ G' u' pn=>?_) (λ G' u' pn=>?_)
  ·refine⟨u',ks++[(i:Int)],by rw[aY];rfl,by rw[bu];exact jR k1,λ k=>?_,_,rfl⟩;rw[cZ,bL,hk];constructor
   ·rintro(⟨j,a,b,c⟩ | rfl)
    ·exact⟨j,a,fG b,c⟩
    ·exact⟨i,rfl,kN _,pn⟩
   ·rintro⟨j,a,b,c⟩
    rcases zn.mp b with z | z
    ·exact .inl ⟨j,a,z,c⟩
    ·exact .inr (by rw[a,z])
  ·refine⟨u',ks,rfl,Nat.le_succ_of_le k1,λ k=>?_,_,rfl⟩;rw[hk];constructor
   ·rintro⟨j,a,b,c⟩;exact⟨j,a,fG b,c⟩
   ·rintro⟨j,a,b,c⟩
    rcases zn.mp b with z | z
    ·exact⟨j,a,z,c⟩
    ·exact absurd (z ▸ c) pn
 ·obtain⟨u,ks,rfl,k1,hk,y,rfl⟩:=h;exact hz ks G p u hp hk k1
theorem mL{X:Cx}{i:Nat}{elt tg iter cnd:Expr}{pos pos' lpos:Pos}{own fv:List Str}{js:List Nat}
  (hN:X.N.Nodup) (hx1:X.N[i]?=some x) (hx:Loc X.env.scope x) (hf:X.fn x=true\/X.env.scope.names.lookup x=some .local)
  (hc:X.calm=true) (hi:PI X tg iter wi) (hclos:closureFor scope X.env=pure cl) (hcell:∀y∈scope.names,y.2≠.cell) (hkind:scope.kind=.function)
  (hnames:∀y∈scope.names,y.2=.local->scope.names.lookup y.1=some .local)
  (hcl:∀x c,cl.lookup x=some c->X.env.cells.lookup x=some c)
  (hhas:∀x,((relabel scope X.env).names.lookup x=some .cell\/(relabel scope X.env).names.lookup x=some .free)->∃c,cl.lookup x=some c)
  (hlen:js.length=fv.length) (hcap:∀(i:Nat) x j,fv[i]?=some x->js[i]?=some j->Cap X scope cl x j)
  (hg:∀(C:Addr) (ex:List Addr) (s:Shared) (H:Hp),PG (cF X (own++fv) scope cl C ex s H) tg g)
  (he:∀(C:Addr) (ex:List Addr) (s:Shared) (H:Hp),PE (cF X (own++fv) scope cl C ex s H) elt te)
  (ht:∀(C:Addr) (ex:List Addr) (s:Shared) (H:Hp),PT (cF X (own++fv) scope cl C ex s H) cnd tc)
  (hsw:swapsWith (.ListComp elt [⟨tg,iter,[cnd],0⟩] scope lpos) (some (.Name x pos')) pos.line X.env=pure true:=by rfl)
  (hs:∀x,foldedSetIterable iter X.env x=pure x:=by intro _;rfl) :
  PS X (.Assign [.Name x pos'] (.ListComp elt [⟨tg,iter,[cnd],0⟩] scope lpos) pos) (jL (gk wi own.length js g tc te) (fE i)):=by
 intro pins s σ H D I h;rw[yz _ _ _ _ hsw];refine ak (kF ?_);rw[yA];have core:=yh (use:=some (assign (.Name x pos') X.env)) (QQ:=λ _ s'=>SP X pins D .next s') (fpos:=firstIterPos [⟨tg,iter,[cnd],0⟩] lpos) (pos:=lpos) hc hi hclos hcell hkind hnames hcl hhas hlen hcap hg he ht hs I h (λ a C s5 H5 fl I5 zC zL zS zc zp ⟨m,hn⟩ q=>?_)
 ·refine ak (ak (thn core λ _ s' hq=>?_));exact aK (aK hq)
 ·show wpAny (model X.prog X.w) X.A (assign (.Name x pos') X.env (.ref a)) _ X.xe s5;show wpAny (model X.prog X.w) X.A (do standAt pos';bindName X.env x (.ref a)) _ X.xe s5;refine ak (kF ?_);refine bindName_ ?_;refine rY I5 hN hx1 hx (show RelV (.ref a) (.ref a) from rfl) (λ s6 I6 ⟨b,sb,hb⟩=>?_) hf
  have cb:C≠b:=by
   rcases hb with rfl | hb
   ·exact zL
   ·exact λ z=>zc x b hb z.symm
  obtain⟨o,es,ep,e,r⟩:=hn;refine⟨m,⟨o,es,ep,(sb.2 C cb).trans e,r⟩,λ h' sc=>?_⟩;exact⟨_,H5,I6.turned (t':=s6.toks) (it:=C) (λ d o nd e=>sc.extBut d o nd e) zC zL (.inr zS) zc zp,q⟩
theorem zq{X:Cx}{i:Nat}{elt tg iter cnd:Expr}{scope:Scope}{pos pos' lpos:Pos}
  (hN:X.N.Nodup) (hx1:X.N[i]?=some x) (hx:Loc X.env.scope x) (hf:X.fn x=true\/X.env.scope.names.lookup x=some .local)
  (hc:X.calm=true) (hi:PI X tg iter wi) (hcell:∀y∈scope.names,y.2≠.cell) (hfree:∀y∈scope.names,y.2≠.free) (hkind:scope.kind=.function)
  (hnames:∀y∈scope.names,y.2=.local->scope.names.lookup y.1=some .local)
  (hg:∀(C:Addr) (ex:List Addr) (s:Shared) (H:Hp),PG (cF X own scope [] C ex s H) tg g)
  (he:∀(C:Addr) (ex:List Addr) (s:Shared) (H:Hp),PE (cF X own scope [] C ex s H) elt te)
  (ht:∀(C:Addr) (ex:List Addr) (s:Shared) (H:Hp),PT (cF X own scope [] C ex s H) cnd tc)
  (hsw:swapsWith (.ListComp elt [⟨tg,iter,[cnd],0⟩] scope lpos) (some (.Name x pos')) pos.line X.env=pure true:=by rfl)
  (hs:∀x,foldedSetIterable iter X.env x=pure x:=by intro _;rfl) :
  PS X (.Assign [.Name x pos'] (.ListComp elt [⟨tg,iter,[cnd],0⟩] scope lpos) pos) (jL (gk wi own.length [] g tc te) (fE i)):=by
 refine mL (own:=own) (fv:=[]) (js:=[]) (cl:=[]) hN hx1 hx hf hc hi (sV hfree) hcell hkind hnames (λ x c h=>by cases h) (λ x h=>?_) rfl (λ i x j h=>by simp at h) (by simpa using hg) (by simpa using he) (by simpa using ht) hsw hs;rw[sU hfree] at h
 rcases h with h | h
 ·exact absurd rfl (hcell _ (cR h))
 ·exact absurd rfl (hfree _ (cR h))
section
variable {X:Cx}
def Ho:R2:=λ x y H Q=>(∃a,x=.ref a)/\AlkV H 101 x y/\Q (.bl false) H
end
noncomputable def Hq(B h:Heap)(e:Addr)(cls:Value)(dx:Addr)(hd:Value):Prop :=
 ∃oe vs,h.get? e=some oe/\(oe.cls=cls/\oe.dict=some dx)/\oe.data=.fields vs/\vs[1]?=some hd
def Hr(B h:Heap)(e:Addr)(hd fl:Value):Prop:=∃T oT ts,hd=.ref T/\B.get? T=none/\T≠e/\h.get? T=some oT/\oT.data=.fields ts/\ts[3]?=some fl
noncomputable def No(B:Heap)(l:List Env)(e:Addr)(cls:Value)(dx:Addr)(fl:Value)(h:Heap):Prop :=
 B.StaysIn h/\B.get? e=none/\h.FunFrames B l/\∃hd,Hq B h e cls dx hd/\Hr B h e hd fl
section
variable {M:Model}{A:Around}{E:VS}{s:Shared}{B:Heap}{env:Env}{outer:List Env}{L e dx:Addr}{cls:Value}
end
end L2
namespace L2
open PySem PySem.Spec PyProof.Rows Builtin Builtin.ObjectAttr
noncomputable def Hs(K:FG)(C:Addr)(bmB:LV)(nid:String):Bool:=match K.lookup C with
 | some ⟨.type "type",_,.cls cd,kk⟩=>cd.hasDict && (match cd.mro,kk.toList with | .ref C2::tl,[_,_,_,_,some (.builtin n2),_]=>C2 == C && (n2 == nid && (!cd.hasDel && W.tailIn K bmB tl)) | _,_=>false)
 | _=>false
structure HasX (h:Heap)(C:Addr)(bmB:LV)(nid:String):Prop where
 ex:∃(nm q:Str) (N:Addr) (bs bm:LV) (sn:List Str) (sub:LV) (ab:Bool) (col:Option Bool) (dd:OA) (k0 k1 k2 k3 k5:Option Value),
  h.get? C=some (excClassObj nm q C N bs bm true sn sub ab col dd k0 k1 k2 k3 k5 nid)/\OwnTail h bmB bm
section
variable {prog:Program}{w:World}{A:Around}{E:VS}{h:Heap}{g:Array GenState}{dr:Drawn}{tk:Nat}{os:OsState}{C:Addr}{bmB:LV}{B nid initId:String}
end
end L2
namespace L2
open PySem PySem.Spec PyProof.Rows Builtin Builtin.ObjectAttr
section
variable {prog:Program}{w:World}{A:Around}{E:VS}{h:Heap}{g:Array GenState}{dr:Drawn}{tk:Nat}{os:OsState}{C x:Addr}{bmB:LV}{B nid initId:String}{K:FG}
def zr:LV->Bool
 | .ref _::r=>zr r
 | l=>l == [.type "ValueError",.type "Exception",.type "BaseException",.type "object"]
structure AtX (K:FG)(C:Addr):Prop where
 over:(W.clsIn K C).any (λ cd=>cd.hasDict && zr cd.mro)=true
 sa:W.findIn K (.ref C) "__setattr__"=some (some (.builtin "object.__setattr__"))
 ga:W.findIn K (.ref C) "__getattribute__"=some (some (.builtin "BaseException.__getattribute__"))
end
def rm(H:Hp)(a:Addr):Hp:=λ b=>if b=a then none else H b
section
variable {P:Program}{w:World}{K:FG}{mg:SV}{base:Heap}{N:List Str}{qual:Str}{scope:Scope}{f:Addr}{cd:Value}{A:Around}{outer:List Env}{s:Shared}{H:Hp}{E:XK}
end
section
variable {M:Model}{A:Around}{E:VS}{env:Env}{C:Addr}{bmB:LV}{nid:String}
end
structure MkX (K:FG)(C f:Addr)(bmB:LV)(nid:String):Prop where
 cls:Hs K C bmB nid=true
 init:W.findIn K (.ref C) "__init__"=some (some (.ref f))
 fn:W.isFn K (.ref f)=true
 kp:W.keepIn K (.ref C)=true
end L2
namespace L2
open PySem PySem.Spec PyProof.Rows PySem.W
section
variable {X:Cx}{o e value:Expr}{f:Str}{pos pos' tpos:Pos}{ta tv:TE}
end
noncomputable def CompZI(K:PySem.W.Frag)(k:Nat)(js:List Nat)(g:TG)(tc:TT)(te:TE)(σ:St)(vs:List V)(H1:Hp)(Q:VK):Prop:=∃a b xs ys,vs=[.ref a,.ref b]/\SqT K H1 a xs/\SqT K H1 b ys/\∃W:Nat->Nat->List V->St->Hp->Prop,(∃m,W 0 m [] (bU k js σ) H1)/\∀i m zs σ' H',W i m zs σ' H' ->
  ((Itz K a b).stop i H'/\∀p,H' p=none->Q (.ref p) (upd H' p (.lst zs))) \/
  ((Itz K a b).go i H'/\zs.length < sizeLine/\∃N:List V->St->Hp->Prop,(∀zs σ2 H2,N zs σ2 H2->∃m',m' < m/\W (i+1) m' zs σ2 H2)/\∀x H2,(Itz K a b).yld i H' x H2->g x σ' H2 λ σ3 H3=>tc σ3 H3 λ b H4=>if b=true then te σ3 H4 λ v H5=>N (zs++[v]) σ3 H5 else N zs σ3 H4)
theorem Ht{K:FG}:gk (qv K ta) k js g tc te σ H Q=ta σ H λ vs H1=>CompZI K k js g tc te σ vs H1 Q:=rfl
theorem CompZI.mk{K:FG}{xs ys:List V}{g:TG}{tc:TT}{te:TE}{Q:VK}(n:Nat)(hn:n=min xs.length ys.length)(h1:SqT K H a xs)(h2:SqT K H b ys)(Pv:Nat->List V->St->Hp->Prop)(h0:Pv 0 [] (bU k js σ) H)(hl:∀i zs σ H,i≤n->Pv i zs σ H->SqT K H a xs/\SqT K H b ys/\zs.length < sizeLine)
  (hs:∀i x y zs σ H T,i < n->xs[i]?=some x->ys[i]?=some y->Pv i zs σ H->H T=none->g (.ref T) σ (upd H T (.tup [x,y])) λ σ3 H3=>tc σ3 H3 λ b H4=>if b=true then te σ3 H4 λ v H5=>Pv (i+1) (zs++[v]) σ3 H5 else Pv (i+1) zs σ3 H4) (hz:∀zs σ H,Pv n zs σ H->∀p,H p=none->Q (.ref p) (upd H p (.lst zs))) :
  CompZI K k js g tc te σ [.ref a,.ref b] H Q:=by
 subst hn;refine⟨a,b,xs,ys,rfl,h1,h2,λ i m zs σ H=>m=min xs.length ys.length - i/\i≤min xs.length ys.length/\Pv i zs σ H,⟨_,rfl,bc _,h0⟩,?_⟩;rintro i m zs σ H ⟨rfl,hi,p⟩;obtain⟨k1,k2,k3⟩:=hl i zs σ H hi p;by_cases hlt:i < min xs.length ys.length
 ·have l1:i < xs.length:=by lia
  have l2:i < ys.length:=by lia
  refine .inr ⟨⟨xs,ys,_,_,k1,k2,aX l1,aX l2⟩,k3,Pv (i+1),λ zs' σ' H' p'=>⟨min xs.length ys.length - (i+1),by lia,rfl,hlt,p'⟩,λ v H' yy=>?_⟩;obtain⟨T,x,y,rfl,hT,rfl,ex⟩:=yy;obtain⟨ex1,ex2⟩:=ex xs ys k1 k2;exact hs i x y zs σ H T hlt ex1 ex2 p hT
 ·have e:i=min xs.length ys.length:=by lia
  exact .inl ⟨⟨xs,ys,k1,k2,by lia⟩,hz zs σ H (e ▸ p)⟩
structure CalM (P:Program)(w:World)(K:FG)(mg:SV)(base:Heap)(CX:CXT)(k:Nat)(C:Addr)(m:Str)(ps:List Str)(sp:Sp):Prop where
 has:∃(f:Addr) (fd:FuncData),FnOk P w K mg base CX k f fd ps sp/\Meth K C m f/\Binds K fd ps []
structure MakC (P:Program)(w:World)(K:FG)(mg:SV)(base:Heap)(CX:CXT)(k:Nat)(C:Addr)(x:Str)(ps:List Str)(sp:Sp):Prop where
 has:∃(f:Addr) (fd:FuncData),FnOk P w K mg base CX k f fd ps sp/\Mk K C f/\Binds K fd ps []/\mg x=some (.ref C)
section
variable {X:Cx}{CX:CXT}{k:Nat}{f C:Addr}{fd:FuncData}{ps:List Str}{sp:Sp}{dvs:List V}{ds:LV}{E:XK}{EE:St->XK}{x m:Str}{p pos apos:Pos}{e o:Expr}{es:List Expr}{ta:TE}{t:TA}
end
section
variable {X:Cx}
end
section
open PySem.Builtin PySem.Builtin.Str
variable {X:Cx}
noncomputable def Hu:V->List V->Hp->VK->Prop:=λ x ys H Q=>∃(t:Str) (c:Nat),x=.str t/\ys=[.str ⟨#[c]⟩]/\t.length≤4000000/\∀l u v,H l=none->Q (.ref l) (upd H l (.tup [.str (GD ((tM c t.cps.toList).headD [])),.str u,.str v]))
end
section
variable {X:Cx}{a b e:Expr}{es:List Expr}{ta tb te:TE}{t:TA}{u v:TS}{st:Stmt}{rest bl:List Stmt}{pos p pos':Pos}{x:Str}
theorem aq(hr:IxR X r)(ha:PE X a ta)(hb:PE X b tb)(hs:wT b:=by exact λ _ _=>rfl):PE X (.Subscript a b pos) (tOp r ta tb):=me hr ha hb hs
theorem fI(i:Nat)(hN:X.N.Nodup)(he:PE X e te)(hi:X.N[i]?=some x:=by rfl)(hx:Loc X.env.scope x:=by first | exact Or.inl rfl | exact Or.inr rfl)(hs:swapsWith e (some (.Name x pos')) pos.line X.env=pure false:=by rfl)(hf:X.fn x=true\/X.env.scope.names.lookup x=some .local:=by first | exact .inl rfl | exact .inr rfl | assumption):PS X (.Assign [.Name x pos'] e pos) (jL te (fE i)):=wn hN hi hx he hs hf
theorem aN(i:Nat)(hN:X.N.Nodup)(he:PE X e te)(h2:PSs X rest u)(hi:X.N[i]?=some x:=by rfl)(hx:Loc X.env.scope x:=by first | exact Or.inl rfl | exact Or.inr rfl)(hs:swapsWith e (some (.Name x pos')) pos.line X.env=pure false:=by rfl)(hf:X.fn x=true\/X.env.scope.names.lookup x=some .local:=by first | exact .inl rfl | exact .inr rfl | assumption):PSs X (.Assign [.Name x pos'] e pos::rest) (eX (jL te (fE i)) u):=bB (wn hN hi hx he hs hf) h2
theorem av(he:PE X e te):PSs X [.Return (some e) pos] (sj te):=bx (DK he)
theorem aI(hc:PT X a tc)(ha:PSs X bl v)(h2:PSs X rest u):PSs X (.If a bl [] pos::rest) (eX (da tc v sh) u):=bB (iq hc ha iX) h2
theorem aG(ha:PE X e te)(hs:starEach [e] X.env=(false,eval e X.env)::starEach [] X.env:=by rfl):PA X [e] (kK te nL):=aE ha bK hs
theorem ao(ha:PE X a ta)(he:PE X e te)(hs:starEach [a,e] X.env=(false,eval a X.env)::starEach [e] X.env:=by rfl)(hs2:starEach [e] X.env=(false,eval e X.env)::starEach [] X.env:=by rfl):PA X [a,e] (kK ta (kK te nL)):=aE ha (aE he bK hs2) hs
theorem aC(ho:OpR X (compareOp op) r)(ha:PE X a ta)(hb:PE X b tb)(h:op≠.In:=by decide)(h2:op≠.NotIn:=by decide):PT X (.Compare a [op] [b] pos) (pM (tOp r ta tb)):=su ho ha hb (jO b h h2)
theorem cq{id:String}(hc:db X (.builtin id) r)(hm:X.mg x=none)(hv:bootBuiltins x=some (.builtin id))(ha:PA X (e::es) t)(hg:Gl X x:=by rfl)(hn:x ≠ "__name__" := by decide)(hdb:(x == ("__debug__" : Str))=false:=by decide)
  (he:starEach (e::es) X.env=(false,eval e X.env)::starEach es X.env:=by rfl) (hpl:(backTo pos (starEach es X.env)).any (·.1)=false:=by rfl):PE X (.Call (.Name x p) (e::es) [] pos) (tCB r t):=wI hc hg hm hv ha hn hdb he hpl
theorem cC(hc:db X (.type T) r)(hm:X.mg x=none)(hv:bootBuiltins x=some (.type T))(ha:PA X (e::es) t)(hg:Gl X x:=by rfl)(hn:x ≠ "__name__" := by decide)(hdb:(x == ("__debug__" : Str))=false:=by decide)
  (he:starEach (e::es) X.env=(false,eval e X.env)::starEach es X.env:=by rfl) (hpl:(backTo pos (starEach es X.env)).any (·.1)=false:=by rfl):PE X (.Call (.Name x p) (e::es) [] pos) (tCB r t):=wJ hc hg hm hv ha hn hdb he hpl
theorem bz(hm:X.mg "len"=none)(he:PE X e te)(hg:Gl X "len" := by rfl)
  (hs:starEach [e] X.env=(false,eval e X.env)::starEach [] X.env:=by rfl):PE X (.Call (.Name "len" p) [e] [] pos) (tCB (λ xs H Q=>∃p ys,xs=[.ref p]/\(SqL X.K H p ys\/SqT X.K H p ys)/\Q (.int ys.length) H) (kK te nL)):=wI wZ hg hm lj (aE he bK hs) (by decide) (by decide) hs rfl
theorem bR(i:Nat)(l:List Str)(hN:l.Nodup:=by decide +kernel)(e:X.N=l:=by rfl)(hi:X.N[i]?=some x:=by rfl)(hx:Loc X.env.scope x:=by exact Or.inl rfl)(hf:X.fn x=true\/X.env.scope.names.lookup x=some .local:=by first | exact .inl rfl | exact .inr rfl | assumption):PG X (.Name x pos) (fE i):=iu (e ▸ hN) hi hx hf
theorem dD(i:Nat)(hN:X.N.Nodup)(hi:X.N[i]?=some x:=by rfl)(hx:Loc X.env.scope x:=by exact Or.inl rfl)(hf:X.fn x=true\/X.env.scope.names.lookup x=some .local:=by first | exact .inl rfl | exact .inr rfl | assumption):PG X (.Name x pos) (fE i):=iu hN hi hx hf
end
def Cr(P:Program)(w:World)(K:FG)(mg:SV)(base:Heap)(CX:CXT)(k:Nat)(x:Str)(ps:List Str)(sp:Sp):Prop:=∀n,k≤n->Callee P w K mg base CX n x ps sp
theorem Cr.a{K:FG}{j n:Nat}(c:Cr P w K mg base CX j x ps sp)(h:j≤n:=by decide):Callee P w K mg base CX n x ps sp:=c n h
def ca:List Prop->Nat->Prop
 | [],_=>True
 | a::_,0=>a
 | _::l,j+1=>ca l j
section
variable {X:Cx}{k j:Nat}{ps:List Str}{sp:Sp}{E:XK}{x:Str}{p pos:Pos}{e:Expr}{es:List Expr}{t:TA}
def zu(sp:Sp)(E:XK)(t:TA):TE:=λ σ H Q=>t σ H λ vs H1=>sp vs H1 Q E
theorem ax(c:Cr X.prog X.w X.K X.mg X.base CX j x ps sp)(hr:Room k X.A)(hx:nN CX X E)(ha:PA X (e::es) t)(hj:j≤k:=by decide)(hg:Gl X x:=by rfl)(hdb:(x == ("__debug__" : Str))=false:=by decide)
  (he:starEach (e::es) X.env=(false,eval e X.env)::starEach es X.env:=by rfl) (hpl:(backTo pos (starEach es X.env)).any (·.1)=false:=by rfl):PE X (.Call (.Name x p) (e::es) [] pos) (zu sp E t):=λ pins s σ H Q I h=>jc (c _ hj) hr hg hx ha hdb he hpl pins s σ H Q I (show t σ H (λ vs H1=>sp (vs++[]) H1 Q E) by simp only[ag];exact h)
end
end L2
namespace L2
open PySem PyProof.Rows
section
variable {a p q:Addr}{b:Bool}{i j:Int}{x y:Str}{v:V}{vs:List V}{r:L2.St}{H:Hp}{Q:VK}{K:FG}{o:Option V}{n:Nat}{α β:Type}
theorem Hv:iU 0 (some v::r) H Q=Q v H:=rfl
theorem Hw:iU (n+1) (o::r) H Q=iU n r H Q:=rfl
theorem exB{P:Bool->Prop}:(∃k,V.bl b=V.bl k/\P k)=P b:=by simp
theorem exI{P:Int->Prop}:(∃k,V.int i=V.int k/\P k)=P i:=by simp
theorem exS{P:Str->Prop}:(∃k,V.str x=V.str k/\P k)=P x:=by simp
theorem exR{P:Addr->Prop}:(∃k,V.ref a=V.ref k/\P k)=P a:=by simp
theorem Hx{P:Addr->α->Prop}:(∃k y,V.ref a=V.ref k/\P k y)=∃y,P a y:=by simp
theorem Hy{P:Addr->α->β->Prop}:(∃k y z,V.ref a=V.ref k/\P k y z)=∃y z,P a y z:=by simp
theorem Hz{P:Addr->α->Prop}:(∃k y,[V.ref a]=[V.ref k]/\P k y)=∃y,P a y:=by simp
theorem exC{P:V->List V->Prop}:(∃k y,v::vs=k::y/\P k y)=P v vs:=by simp[cG]
theorem HA{S:Addr->α->Prop}{P:Addr->Addr->α->β->Prop}:(∃k l y z,V.ref p=V.ref k/\V.ref q=V.ref l/\S k y/\P k l y z)=∃y,S p y/\∃z,P p q y z:=by simp
theorem HB{S:Addr->α->Prop}{P:Addr->α->Int->β->Prop}:(∃k y l z,V.ref p=V.ref k/\V.int i=V.int l/\S k y/\P k y l z)=∃y,S p y/\∃z,P p y i z:=by simp
theorem HD:rI0 g (.int i) (.int j) H Q=Q (g i j) H:=rfl
theorem HE:rI C g (.int i) (.int j) H Q=(C i j/\Q (g i j) H):=rfl
theorem HG:rEq (.int i) (.int j) H Q=Q (.bl (decide (i=j))) H:=rfl
theorem HH:rNe (.int i) (.int j) H Q=Q (.bl (!decide (i=j))) H:=rfl
theorem HI:rEq (.str x) (.str y) H Q=Q (.bl (decide (x=y))) H:=rfl
theorem HJ:nM sp [] E t σ H Q=t σ H λ vs H1=>sp vs H1 Q E:=by simp[nM]
theorem HK:zu sp E t σ H Q=t σ H λ vs H1=>sp vs H1 Q E:=rfl
theorem HL:isB (.bl b) P=P b:=rfl
theorem HM:isI (.int i) P=P i:=rfl
theorem HN:nE (.int i) (.int j) P=P i j:=rfl
theorem HP:lQ (.ref a) (.int i) P=P a i:=rfl
theorem HQ:rNe (.str x) (.str y) H Q=Q (.bl (!decide (x=y))) H:=rfl
theorem HR:xq sp [] EE t σ H Q=t σ H λ vs H1=>sp vs H1 Q (EE σ):=by simp[xq]
end
end L2
namespace L2
open PySem PySem.Spec PyProof.Rows PySem.W PySem.Calls
theorem HS{X:Cx}{h₀:ExceptHandler}{hl:List ExceptHandler}(hb:∀(xe:VS) (pn:LO),PSs (X.more xe pn) body tb) :
  PS X (.Try body (h₀::hl) [] [] pos) tb:=by
 intro pins s σ H D I h;refine wpAny_Try_except ?_;generalize (λ e s₁=>wpAny (model X.prog X.w) X.A (noteFrame e X.env) (λ _ s₂=>wpAny (model X.prog X.w) X.A (setFlight e none) (λ _ s₃=>wpAny (model X.prog X.w) X.A (handleBy e X.env (h₀::hl)) (SP X pins D) X.xe s₃) X.xe s₂) X.xe s₁:VS)=XE;have toY:Inv (X.more XE (X.pn++pins)) [] σ H s:=⟨I.ok.more _ _,I.os,I.bare,I.base,I.loc,I.cell,I.free,I.freeC,λ p hp=>I.pin p (by simpa using hp),I.hok,I.len⟩;have ofY:∀ {σ':St}{H':Hp}{s':Shared}{pp:LO},Inv (X.more XE (X.pn++pins)) pp σ' H' s'->Inv X pins σ' H' s':=λ J=>⟨I.ok,J.os,J.bare,J.base,J.loc,J.cell,J.free,J.freeC,λ p hp=>J.pin p (lN _ hp),J.hok,J.len⟩;refine thn (hb XE (X.pn++pins) [] s σ H D toY h) λ fl s' q=>?_
 cases fl with
 | next=>obtain⟨σ',H',J,z⟩:=q;exact px ⟨σ',H',ofY J,z⟩
 | brk=>obtain⟨σ',H',J,z⟩:=q;exact⟨σ',H',ofY J,z⟩
 | cont=>obtain⟨σ',H',J,z⟩:=q;exact⟨σ',H',ofY J,z⟩
 | ret u=>obtain⟨v,σ',H',J,r,z⟩:=q;exact⟨v,σ',H',ofY J,r,z⟩
end L2
structure PySem.W.Fast:Prop where(tw10809073990961413890 tw400347667123790158 tw516547046122253825 tw9998109234257479069 tw2291801720727860955 tw885805232751390021 tw7089096503823281971 tw838248120242617936 tw1185882725910409703 tw14428594018750701106 tw1434204016874095144 tw6816813886292807068 tw2603796212878230677 tw4872722999619307272 tw18397143346761137530 tw10739419717168100044 tw6648273021737544052 tw4866525466117332641 tw3201123687156826667 tw4549773823060318074 tw9578678253151747679 tw8998659383273065492 tw15708593808082598911 tw4804946296024066899 tw7012556002129033390 tw8721065063904522088 tw11179196228522608364 tw9488826728268761267 tw17088178091904130480 tw4907587914967973731 tw6336082622437445221 tw18314189771004353894 tw3759005301489879739 tw9800839824229108002 tw15023413609122397721 tw7506827211865463809 tw10256108586138207674 tw14882889136639922528 tw7912265022308796181 tw15916828579578482034 tw12356146227908109083 tw12526121266107261290 tw2317714344836992485 tw14385463942410141709 tw17328356660147834580 tw9510763440058246551 tw4275507984181719396 tw14648201999708440419 tw13563127303218344392 tw13867520316280788638 tw12294675911361874520 tw11168954672046085727 tw12582426870699024832 tw9873020949565976617 tw8666664040291177458 tw12251269225973678150 tw16333641394055111718 tw9277144516730970324 tw3996279940481417213 tw15840525977291005511 tw11354420990229142634 tw7071731303820770526 tw1492625226931682401 tw4955650239821515907 tw8293995042092122470 tw5153501116559431236 tw1239469436040802165 tw6732950199673994204 tw6427722107371922942 tw5437781230784659790 tw285272688771348250 tw5524890210017609608 tw1649228322730599277 tw11978739893431456473 tw17684769355831318960 tw14299813461717767829 tw13916400918668867755 tw5226264265329175180 tw4047046332491487690 tw5977539521599142668 tw10786591510341139981 tw1391981894347242331 tw11652461890125407674 tw16304223469270815797 tw4315854343591243604 tw3550201973186457966 tw5652758861127941385 tw10052482236574438702 tw12801523263307412232 tw9759276522648468192 tw4372983791399924895 tw3598619858522732462 tw6379730626789207870 tw4922380401827278757 tw12654012198178439521 tw9682414763704670578 tw189612135242534181 tw11533285381698152851 tw18129355290017615947 tw14912016638343385222 tw18166374902555140455 tw5504057904393092303 tw10153118110215616300 tw14066731882568344802 tw5988344271487998173 tw6115737581158029876 tw1518878763867431486 tw16738906002646712076 tw1989185007806574680 tw7862331699829416811 tw12498728780163926618 tw17751878314549637852 tw15268217469151933100 tw16140525831832940865 tw18174255928607644102 tw9366834224028910797 tw7041843561569045460 tw10348068271638987067 tw14889915907559343865 tw8216996106740308709 tw4367293929549022229 tw6090522534610970149 tw11243962708382427852 tw465652307755578897 tw10918737545188397672 tw8677912597048265043 tw11397383801977351229 tw7694262926566782927 tw2833729563087430193 tw350973901204542230 tw17309896279003903499 tw10208406827478970636 tw7257397661747906757 tw3285551293963135508 tw11497970248468261280 tw6957058753214541338 tw1523125973468612265 tw11863952924257371630 tw13392542831271161685 tw17334049892145811070 tw13309319330598609256 tw11467294335866978176 tw13899426422791299409 tw175040641159508678 tw15568489077787762830 tw1233938683720839854 tw7451783029431455623 tw4938691166373427330 tw6428561848484560853 tw17900878339318671728 tw11257665394133161669 tw8464778350752673760 tw1777252086804927004 tw18252117519354144522 tw13427602931687006403 tw2998066868724162185 tw1783233103912175658 tw9538339537232752335 tw5676478704470948155 tw800311870955226511 tw14019723159073482807 tw10033784884483040851 tw8383441401233530124 tw14263901864042473726 tw17258905592323015267 tw16325360974731168317 tw7724321685218687975 tw6754147089162647635 tw13717548420649982502 tw7877477625228994496 tw8751944631014028041 tw2593381908681781742 tw961451616265238430 tw17225222049676972936 tw6203005234065721622 tw883928607284184672 tw5944301053881627925 tw2998768102944946606 tw17492887377412555195 tw9286780373220178469 tw14039902095884538142 tw11061238122546106520 tw4113015266580924098 tw6757239962714949845 tw16644456416544215557 tw14531560196493065466 tw11401127523650639735 tw8230943122225717221 tw14440417050853895291 tw10705010700549515849 tw13886739632943485561 tw1049180361561810245 tw2375980860857285256 tw14645622762286646295 tw15923364587842288082 tw14532064462293267370 tw8300721534517639537 tw1050608299297562883 tw4715394981332740249 tw13863096648985801834 tw3910496719383266459 tw3779020825852236578 tw8941824048258546414 tw4230092811470978236 tw176397801424098365 tw4814738636269282891 tw3573397582758470946 tw8419472753490862067 tw18393053042187856357 tw17763457906440969799 tw11953325547370042314 tw15219519821124771880 tw17515889689823178944 tw12811911454697465163 tw1295877888282901726 tw15069991318623968645 tw16935162476895523706 tw4620671072396289462 tw7739242334758190456 tw7571847558596313674 tw16481202891817622160 tw12269818967074722152 tw2823496129176519921 tw12715242509473998193 tw9048463928184671829 tw2313182022951575454 tw12169646331473866338 tw8991989524213789474 tw9825579950164340885 tw6884609716929972419 tw8584942727878768859 tw7041752370285099369 tw10455776820668316979 tw11236986332394643797 tw14172061822327632368 tw13606318298350295735 tw18042951252912742014 tw6346589143247058018 tw18295448993217788967 tw14027688165850110141 tw16426074775490362588 tw5012331876157666099 tw14244770873681274755 tw5094963004703048251 tw2859583025972017603 tw10092258535353639315 tw10365533357019268671 tw11997762358789906853 tw10211873706568640602 tw16050128167187302871 tw9770622177359090487 tw17709520459806162871 tw17687652722381851328 tw5546154296350920079 tw6110954251000799300 tw3606741845272385169 tw15808878312932513277 tw15786769112364167375 tw11136204328100394715 tw5639536696930224652 tw14463778643116152748 tw4453231597963602097:True)
namespace My
open PySem L2 PyProof.Rows
def top(i:Nat):Stmt:=PySem.Challenge.pw_sideloom_k37_whole_beginnings.main.body.getD i (.Pass ⟨0,0,0,0⟩)
noncomputable def formsL:List (Str × List (Str × Int)):=[("in",[("sides",1)]),("num",[("number",1)]),("count",[("small",2),("sides",1)]),("each",[("word",1),("step",2)]),("pair",[("word",1),("step",2),("step",3)]),("pick",[("step",1),("step",2),("step",3)]),("turn",[("step",1),("sides",2)]),("flip",[("step",1),("small",2)]),("cut",[("step",1),("small",2),("small",3),("small",4),("small",5)]),("spread",[("step",1),("small",2),("small",3)]),("lay",[("step",1),("sides",2)]),("join",[("step",1),("step",2),("small",3)]),("fetch",[("step",1),("step",2)]),("fold",[("word",1),("step",2),("small",3)]),("run",[("word",1),("step",2),("small",3)])]
def qK(K:FG):List (Str × Int)->List V->Prop
 | [],[]=>True
 | f::fs,x::xs=>(∃a,x=.ref a/\KTup K a [.str f.1,.int f.2])/\qK K fs xs
 | _,_=>False
noncomputable def ug(K:FG):List (Str × List (Str × Int))->LA->Prop
 | [],[]=>True
 | f::fs,p::ps=>(p.1=f.1/\∃xs,KTup K p.2 xs/\qK K f.2 xs)/\ug K fs ps
 | _,_=>False
def uh(P:Program)(w:World)(K:FG)(d:Addr):Prop:=∃kvs,KTab P w K d kvs/\ug K formsL kvs
theorem oA{K:FG}{od:OA}{sl:AV}(h:K.lookup a=some ⟨.type "tuple",od,.seq its n,sl⟩)(z:its.size≤sizeLine)(v:Vals xs its.toList):KTup K a xs:=⟨_,its,n,h,rfl,rfl,z,v⟩
theorem zv{K:FG}:∀ {fs:List (Str × List (Str × Int))}{kvs:LA},ug K fs kvs->∀ {x:Str}{f:List (Str × Int)},fs.lookup x=some f->∃a xs,kvs.lookup x=some a/\KTup K a xs/\qK K f xs
 | [],_,_,x,f,e=>nomatch e
 | _::_,[],h,_,_,_=>h.elim
 | (g,gs)::fs,(p,pa)::ps,h,x,f,e=>by
  obtain⟨⟨e1,xs,k1,k2⟩,h2⟩:=h;cases (show p=g from e1);rw[kX] at e ⊢;by_cases c:x == g
  ·rw[c] at e ⊢;cases e;exact⟨pa,xs,rfl,k1,k2⟩
  ·have c:(x == g)=false:=by simpa using c
   rw[c] at e ⊢;exact zv h2 e
theorem zw{K:FG}:∀ {fs:List (Str × Int)}{xs:List V},qK K fs xs->xs.length=fs.length/\∀ {i:Nat}{x:V},xs[i]?=some x->∃f a,fs[i]?=some f/\x=.ref a/\KTup K a [.str f.1,.int f.2]
 | [],[],_=>⟨rfl,λ e=>by simp at e⟩
 | [],_::_,h=>h.elim
 | _::_,[],h=>h.elim
 | f::fs,y::ys,h=>by
  obtain⟨⟨a,e1,k1⟩,h2⟩:=h;obtain⟨l,at2⟩:=zw h2;refine⟨by simp[l],λ {i x} e=>?_⟩
  cases i with
  | zero=>cases e;exact⟨f,a,rfl,e1,k1⟩
  | succ i=>exact at2 e
def ai(ns:LI):Int:=ns.foldl (λ a b=>a * b) 1
theorem uj{ns:LI}{i:Nat}(h:ns[i]?=some x):ai (ns.take (i+1))=ai (ns.take i) * x:=by
 unfold ai;rw[cO,h,List.foldl_append];rfl
def bq(ns:LI):Prop:=∀n∈ns,0≤n/\n < 1000000000000000000
def aF(n:Int):Int:=if n=0 then 1 else n
theorem zx(h:bq ns):bq (ns.map aF):=by
 intro n hn;obtain⟨m,hm,rfl⟩:=dL.mp hn;have:=h m hm;unfold aF;split<;>lia
theorem ki(h:bq ns){i:Nat}(e:(ns.map V.int)[i]?=some x):∃m,x=.int m/\ns[i]?=some m/\0≤m/\m < 1000000000000000000:=by
 rw[bA] at e
 cases q:ns[i]? with
 | none=>rw[q] at e;cases e
 | some m =>
  rw[q] at e;exact⟨m,(cz e).symm,rfl,h m (bw q)⟩
def stP(ns:LI)(j:Nat):Int:=ai (ns.reverse.take j)
def stL(ns:LI)(i:Nat):LI:=(List.range i).map (stP ns)
theorem uk(ns:LI)(i:Nat):stL ns (i+1)=stL ns i++[stP ns i]:=by
 unfold stL;rw[oB,aY];rfl
theorem zy{ns:LI}{i:Nat}(hi:i < ns.length)(h:ns[ns.length - 1 - i]?=some m):stP ns (i+1)=stP ns i * m:=by
 unfold stP;exact uj (by rw[nU hi];exact h)
def bS(ns:LI):Prop:=6 < ns.length\/512 < ai (ns.map aF)
theorem zA{A B:TS}{σ:L2.St}{H:Hp}(J:L2.St->Hp->Prop)(h2:∀σ H,J σ H->B D σ H)(h1:∀R:L2.St->Hp->Prop,(∀σ H,J σ H->R σ H)->A { D with nx:=R } σ H):eX A B D σ H:=h1 (B D) h2
theorem HU(ns:LI):((stL ns ns.length).reverse.map V.int).length=ns.length:=by rw[aA,oC,stL,aA,fq]
theorem aP(ns:LI):(ns.map V.int).length=ns.length:=aA ..
def dq(ns ms:LI):Prop:=ms.length=ns.length/\∀(i:Nat) m n,ms[i]?=some m->ns[i]?=some n->0≤m/\m < n
def qL(ms ss:LI):Int:=(List.zipWith (λ a b=>a * b) ms ss).sum
theorem dE{ms:LI}{i:Nat}(ey:(ms.map V.int)[i]?=some y):∃m,y=.int m/\ms[i]?=some m:=by
 rw[bA] at ey
 cases q:ms[i]? with
 | none=>rw[q] at ey;cases ey
 | some m=>rw[q] at ey;exact⟨m,(cz ey).symm,rfl⟩
def lfI(ns:LI)(place:Int):Nat->Int
 | 0=>place
 | i+1=>lfI ns place i / ns.reverse.getD i 1
def dgI(ns:LI)(place:Int)(i:Nat):Int:=lfI ns place i % ns.reverse.getD i 1
def dgL(ns:LI)(place:Int)(i:Nat):LI:=(List.range i).map (dgI ns place)
theorem zB(ns:LI)(p:Int)(i:Nat):dgL ns p (i+1)=dgL ns p i++[dgI ns p i]:=by
 unfold dgL;rw[oB,aY];rfl
theorem qM{ns:LI}{i:Nat}(hi:i < ns.length)(h:ns[ns.length - 1 - i]?=some m):ns.reverse.getD i 1=m:=by
 rw[cy,nU hi,h];rfl
theorem oD(xs:LI)(y:Int):ai (xs++[y])=ai xs * y:=by unfold ai;rw[List.foldl_append];rfl
theorem HV(xs:LI):∀a:Int,xs.foldl (λ a b=>a * b) a=a * ai xs:=by
 induction xs with
 | nil=>intro a;show a=a * 1;rw[pE]
 | cons x xs ih=>intro a;show xs.foldl (λ a b=>a * b) (a * x)=a * (xs.foldl (λ a b=>a * b) (1 * x));rw[ih,ih (1 * x),oE,mM]
theorem cg(x:Int)(xs:LI):ai (x::xs)=x * ai xs:=by
 show xs.foldl (λ a b=>a * b) (1 * x)=_;rw[HV,oE]
theorem HW(ns:LI):ai ns.reverse=ai ns:=by
 induction ns with
 | nil=>rfl
 | cons x xs ih=>rw[mf,oD,cg,ih,ll]
theorem um(h:ai ns≠0):∀n∈ns,n≠0:=by
 induction ns with
 | nil=>intro n hn;cases hn
 | cons x xs ih =>
  rw[cg] at h;intro n hn
  rcases bE.mp hn with rfl | hn
  ·intro z;rw[z,Int.zero_mul] at h;exact h rfl
  ·exact ih (λ z=>h (by rw[z,Int.mul_zero])) n hn
theorem zD(ns:LI):stP ns ns.length=ai ns:=by
 unfold stP;rw[← oC,cx,HW]
theorem mN{ns:LI}(h:∀n∈ns,0≤n):0≤ai ns:=by
 induction ns with
 | nil=>decide
 | cons x xs ih=>rw[cg];exact oF (h x (bF ..)) (ih λ n hn=>h n (aM _ hn))
theorem zE(h:bq ns)(i:Nat):0≤stP ns i:=mN λ n hn=>(h n (List.mem_reverse.mp (kj hn))).1
def kn(ns:LI)(pl:Int):Nat->Int
 | 0=>0
 | i+1=>kn ns pl i+dgI ns pl i * stP ns i
theorem uo(ns:LI){i:Nat}(hi:i < ns.length):∃m,ns[ns.length - 1 - i]?=some m/\m∈ns:=by
 have z:ns.length - 1 - i < ns.length:=by lia
 exact⟨ns[ns.length - 1 - i],aX z,jY z⟩
theorem zF{ns:LI}:∀i,i≤ns.length->kn ns pl i+stP ns i * lfI ns pl i=pl
 | 0,_=>by show 0+1 * pl=pl;lia
 | i+1,h=>by
  obtain⟨m,hm,_⟩:=uo ns (i:=i) (by lia);have ih:=zF (ns:=ns) (pl:=pl) i (by lia);rw[zy (by lia) hm];show kn ns pl i+dgI ns pl i * stP ns i+stP ns i * m * (lfI ns pl i / _)=pl;have rg:=qM (by lia) hm;unfold dgI;rw[rg];have e:=Int.mul_ediv_add_emod (lfI ns pl i) m;have e2:stP ns i * m * (lfI ns pl i / m)=stP ns i * (m * (lfI ns pl i / m)):=mM ..;have e3:stP ns i * (m * (lfI ns pl i / m))+stP ns i * (lfI ns pl i % m)=stP ns i * lfI ns pl i:=by rw[← Int.mul_add,e]
  have e4:lfI ns pl i % m * stP ns i=stP ns i * (lfI ns pl i % m):=ll ..;lia
theorem zG{pl:Int}(h:bq ns)(h0:0≤pl):∀i,i≤ns.length->0≤lfI ns pl i
 | 0,_=>h0
 | i+1,hi=>by
  obtain⟨m,hm,mm⟩:=uo ns (i:=i) (by lia);show 0≤lfI ns pl i / _;rw[qM (by lia) hm];exact uq (zG h h0 i (by lia)) (h m mm).1
theorem zH{ns:LI}(nz:∀n∈ns,n≠0)(h:bq ns){i:Nat}(hi:i < ns.length)(hm:ns[ns.length - 1 - i]?=some m):0≤dgI ns pl i/\dgI ns pl i < m:=by
 unfold dgI;rw[qM hi hm];have mm:=bw hm;have m0:=(h m mm).1;have mz:=nz m mm;exact⟨oG _ mz,qN _ (by lia)⟩
theorem zI{ns:LI}(nz:∀n∈ns,n≠0)(h:bq ns):∀i,i≤ns.length->0≤kn ns pl i
 | 0,_=>kh _
 | i+1,hi=>by
  obtain⟨m,hm,_⟩:=uo ns (i:=i) (by lia);have a1:=zI (pl:=pl) nz h i (by lia);have a2:=oF (zH (pl:=pl) nz h (by lia) hm).1 (zE h i);show 0≤kn ns pl i+_;lia
theorem HX{pl:Int}(h:bq ns)(h0:0≤pl)(h1:pl < ai ns):kn ns pl ns.length=pl:=by
 have nz:=um (ns:=ns) (by lia);have e:=zF (ns:=ns) (pl:=pl) ns.length (aJ _);have t:=zI (pl:=pl) nz h ns.length (aJ _);have l:=zG h h0 ns.length (aJ _)
 have z:lfI ns pl ns.length=0:=by
  refine Decidable.byContradiction λ nl=>?_;have g:=iC (show 1≤lfI ns pl ns.length by lia) (zE h ns.length);rw[zD] at g e;lia
 rw[z,Int.mul_zero] at e;lia
theorem HY{ns:LI}{k:Nat}(hk:k < ns.length):(dgL ns pl ns.length).reverse[k]?=some (dgI ns pl (ns.length - 1 - k)):=by
 have l:(dgL ns pl ns.length).length=ns.length:=by rw[dgL,aA,fq]
 have z:ns.length - 1 - k < ns.length:=by lia
 rw[nU (by rw[l];exact hk),l,dgL,bA,ko z];rfl
theorem zJ(ns:LI)(pl:Int):∀n,qL (dgL ns pl n).reverse (stL ns n).reverse=kn ns pl n
 | 0=>rfl
 | n+1=>by
  rw[zB,uk,lq,lq];show dgI ns pl n * stP ns n+qL (dgL ns pl n).reverse (stL ns n).reverse=kn ns pl n+dgI ns pl n * stP ns n;rw[zJ ns pl n,Int.add_comm]
theorem HZ{ns:LI}(nz:∀n∈ns,n≠0)(h:bq ns):dq ns (dgL ns pl ns.length).reverse:=by
 refine⟨by rw[oC,dgL,aA,fq],λ i m n hm hn=>?_⟩;have hi:=(bv.mp hn).1;rw[HY hi] at hm;cases hm;exact zH nz h (by lia) (by rw[show ns.length - 1 - (ns.length - 1 - i)=i by lia];exact hn)
def ur(ns:LI)(k:Nat):Int:=ns.getD k 0
def fit(ns:LI):Prop:=(∀n∈ns,0≤n/\n≤512)/\ns.length≤6/\1≤ai (ns.map aF)/\ai (ns.map aF)≤512
def Np(H:Hp)(p:Addr)(w:String)(ms:LI):Prop:=∃q,H p=some (.tup [.str w,.ref q])/\H q=some (.tup (ms.map V.int))
def off(ns:LI)(side:Int):Prop:=side < 0\/(ns.length:Int)≤side
def bad(ns:LI)(side first many step:Int):Prop:=first < 0\/many < 0\/step < 1\/(0 < many/\ns.getD side.toNat 0≤first+(many - 1) * step)
theorem mO{ns:LI}{k:Nat}(h:k≤ns.length):de (ns.map V.int) none (some (k:Int))=(ns.take k).map V.int:=by
 unfold de;simp only[HT.sIx,aP];rw[if_neg (by lia),qB,jr];congr 1;lia
theorem mP{ns:LI}{k:Nat}(h:k≤ns.length):de (ns.map V.int) (some (k:Int)) none=(ns.drop k).map V.int:=by
 unfold de;simp only[HT.sIx,aP];rw[if_neg (by lia),qO,show min (k:Int).toNat ns.length=k by lia,fk (by simp)]
theorem iD(h:¬off ns side):∃k:Nat,side=k/\k < ns.length:=by
 unfold off at h;exact⟨side.toNat,by lia,by lia⟩
theorem fJ{ns:LI}{k:Nat}(h:k < ns.length):atI (ns.map V.int) (k:Int)=some (.int (ns.getD k 0)):=aB (by rw[bA,aX h,cy,aX h];rfl)
instance (ns:LI):Decidable (bS ns):=by unfold bS;infer_instance
theorem fV(ns:LI)(k:Nat):de (ns.map V.int) none (some (k:Int))=(ns.take k).map V.int:=by
 unfold de;simp only[HT.sIx,aP];rw[if_neg (by lia),qB,Nat.sub_zero,← jr];congr 1;by_cases c:k≤ns.length
 ·congr 1;lia
 ·rw[fk (by lia),fk (by lia)]
theorem gv:∀(ns ms:LI),fH (ns.map V.int) (ms.map V.int)=decide (ns=ms)
 | [],[]=>rfl
 | [],m::ms=>by simp[fH]
 | n::ns,[]=>by simp[fH]
 | n::ns,m::ms=>by
  by_cases e:n=m
  ·subst e;simp[fH,eqV,gv ns ms]
  ·simp[fH,eqV,gv ns ms,e]
def agr(x y:LI):Prop:=∀k:Nat,k < x.length->k < y.length->x[k]?=y[k]?
theorem Ia(x:LI):agr x x:=λ _ _ _=>rfl
theorem zK(h:agr x y):agr y x:=λ k a b=>(h k b a).symm
theorem uu{x y:LI}(h:x.length≤y.length):agr x y ↔ y.take x.length=x:=by
 constructor
 ·intro a;apply uv;intro k;by_cases c:k < x.length
  ·rw[eZ c];exact(a k c (by lia)).symm
  ·rw[hZ (by rw[be];lia),hZ (by lia)]
 ·intro e k hx hy;have z:=dA (λ l=>l[k]?) e;simp only[eZ hx] at z;exact z.symm
def bV(x y:LI):Prop:=if y.length < x.length then x.take y.length=y else y.take x.length=x
def aQ(x y:LI):LI:=if y.length < x.length then x else y
theorem oH(x y:LI):bV x y ↔ agr x y:=by
 unfold bV;split
 ·rename_i h;exact(uu (by lia)).symm.trans ⟨zK,zK⟩
 ·rename_i h;exact(uu (by lia)).symm
theorem Ib(h:agr x y)(l:x.length=y.length):x=y:=by
 have z:=(uu (x:=x) (y:=y) (by lia)).mp h;rw[l,cx] at z;exact z.symm
theorem Ic(h:agr x z)(h2:agr y z):agr (aQ x y) z:=by
 unfold aQ;split
 ·exact h
 ·exact h2
def tups(H:Hp)(ps:List Addr)(L:LL):Prop:=ps.length=L.length/\∀(i:Nat) p m,ps[i]?=some p->L[i]?=some m->H p=some (.tup (m.map V.int))
theorem tups.at(h:tups H ps L){i:Nat}(e:(ps.map V.ref)[i]?=some v):∃p m,v=.ref p/\L[i]?=some m/\m∈L/\H p=some (.tup (m.map V.int)):=by
 rw[bA] at e
 cases q:ps[i]? with
 | none=>rw[q] at e;cases e
 | some p =>
  rw[q] at e;have hi:=(bv.mp q).1;rw[h.1] at hi;have z:=aX hi;exact⟨p,L[i],(cz e).symm,z,jY hi,h.2 i p _ q z⟩
theorem tups.take(h:tups H ps L)(k:Nat):tups H (ps.take k) (L.take k):=by
 refine⟨by rw[be,be,h.1],λ i p m a b=>?_⟩;have c:i < k:=by have:=(bv.mp a).1;rw[be] at this;lia
 rw[eZ c] at a b;exact h.2 i p m a b
def sm(ns:LI):Prop:=∀n∈ns,0≤n/\n≤1000000
theorem ia(h:sm ns):bq ns:=λ n hn=>by have:=h n hn;lia
theorem zM{v:Int}(h:sm ns)(h0:0≤v)(h1:v≤1000000):sm (ns.set k v):=λ n hn=>by
 rcases mQ hn with z | z
 ·exact h n z
 ·lia
def bW(ns ms:LI)(side:Int):LI:=ns.set side.toNat (ns.getD side.toNat 0+ms.getD side.toNat 0)
theorem Ie{ns ms:LI}(l:ns.length=ms.length):ns.eraseIdx k=ms.eraseIdx k ↔ ∀i:Nat,i≠k->ns[i]?=ms[i]?:=by
 constructor
 ·intro e i ne;by_cases c:i < k
  ·have z:=dA (λ l=>l[i]?) e;simp only[lu,if_pos c] at z;exact z
  ·have z:=dA (λ l=>l[i - 1]?) e;simp only[lu,if_neg (show ¬i - 1 < k by lia),show i - 1+1=i by lia] at z;exact z
 ·intro h;apply uv;intro i;rw[lu,lu];split
  ·exact h i (by lia)
  ·exact h (i+1) (by lia)
theorem Ig{n k:Nat}(h:k < n):ixN n (k:Int)=some k:=by unfold ixN;rw[if_pos (by lia)];simp;lia
theorem getD_mem{ns:LI}{k:Nat}(h:k < ns.length):ns.getD k 0∈ns:=by rw[cy,aX h];exact jY h
theorem iE(ns:LI)(k:Nat):de (ns.map V.int) (some (k:Int)) none=(ns.drop k).map V.int:=by
 unfold de;simp only[HT.sIx,aP];rw[if_neg (by lia),fk (by simp),← qO];congr 1;by_cases c:k≤ns.length
 ·congr 1;lia
 ·rw[zN (by lia),zN (by lia)]
def atD(ns:LI)(p:Int):LI:=(dgL ns p ns.length).reverse
theorem iF(ns:LI)(p:Int):(atD ns p).length=ns.length:=by simp[atD,dgL]
theorem zO(ns:LI)(n p:Int):∀i,lfI (ns++[n]) p (i+1)=lfI ns (p / n) i
 | 0=>by
  show p / (ns++[n]).reverse.getD 0 1=p / n;rw[lq];rfl
 | i+1=>by
  show lfI (ns++[n]) p (i+1) / (ns++[n]).reverse.getD (i+1) 1=lfI ns (p / n) i / ns.reverse.getD i 1;rw[zO ns n p i,lq];rfl
theorem Ih(ns:LI)(n p:Int)(i:Nat):dgI (ns++[n]) p (i+1)=dgI ns (p / n) i:=by
 unfold dgI;rw[zO,lq];rfl
theorem Ii(ns:LI)(n p:Int):dgI (ns++[n]) p 0=p % n:=by
 show p % (ns++[n]).reverse.getD 0 1=p % n;rw[lq];rfl
theorem zP(ns:LI)(n p:Int):atD (ns++[n]) p=atD ns (p / n)++[p % n]:=by
 unfold atD dgL;rw[bu,gh,xS,fe,mf,Ii,jV]
 congr 2
 exact s0c λ i _=>Ih ns n p i
theorem zQ{p B n:Int}(hn:0 < n):p / (B * n)=p / n / B:=by
 rw[ll,Int.ediv_mul,if_neg (by lia),Int.add_zero]
theorem Ij{p B n:Int}(hn:0 < n):p % (B * n) / n=p / n % B:=by
 have e:p % (B * n)=p+n * (-(B * (p / (B * n)))):=by
  rw[Int.emod_def,s0s,Int.mul_neg]
  congr 2
  rw[← mM,ll n B]
 rw[e,Int.add_mul_ediv_left _ _ (by lia),Int.emod_def (p / n) B,← zQ hn,s0s]
theorem uw(a:LI):∀b:LI,ai (a++b)=ai a * ai b:=by
 induction a with
 | nil=>intro b;show ai b=1 * ai b;rw[oE]
 | cons x a ih=>intro b;rw[List.cons_append,cg,cg,ih,mM]
theorem Ik{α:Type}{P:List α->Prop}(h0:P [])(h1:∀l x,P l->P (l++[x]))(l:List α):P l:=by
 have:∀l:List α,P l.reverse:=λ l=>by
  induction l with
  | nil=>exact h0
  | cons x l ih=>rw[mf];exact h1 _ _ ih
 rw[← List.reverse_reverse l];exact this _
theorem Il(a:LI)(b:LI):(∀n∈b,0 < n)->∀p:Int,atD (a++b) p=atD a (p / ai b)++atD b (p % ai b):=by
 refine Ik (P:=λ b=>(∀n∈b,0 < n)->∀p:Int,atD (a++b) p=atD a (p / ai b)++atD b (p % ai b)) ?_ ?_ b
 ·intro _ p;show atD (a++[]) p=atD a (p / 1)++[];rw[ag,ag,s1b]
 ·intro b n ih h p;have hn:0 < n:=h n (by simp);rw[← iB,zP,ih (λ m hm=>h m (by simp[hm])),zP,oD,zQ hn,Ij hn,iB,Int.emod_emod_of_dvd p ⟨ai b,ll _ _⟩]
theorem qP{ns:LI}(h:∀n∈ns,0 < n):0 < ai ns:=by
 induction ns with
 | nil=>decide
 | cons x xs ih=>rw[cg];exact Int.mul_pos (h x (bF ..)) (ih λ n hn=>h n (aM _ hn))
def mR(ns:LI):LL:=(List.range (ai ns).toNat).map λ p:Nat=>atD ns (p:Int)
theorem uA(ns:LI):(mR ns).length=(ai ns).toNat:=by simp[mR]
theorem zR{i:Nat}(h:i < (ai ns).toNat):(mR ns)[i]?=some (atD ns (i:Int)):=by
 unfold mR;rw[bA,ko h];rfl
def plH(ns ms:LI):Int:=qL ms (stL ns ns.length).reverse
theorem zU{p:Int}(h:bq ns)(h0:0≤p)(h1:p < ai ns):plH ns (atD ns p)=p:=by
 unfold plH atD;rw[zJ,HX h h0 h1]
theorem uB{p:Int}(h:bq ns)(h0:0≤p)(h1:p < ai ns):∀n∈ns,0 < n:=λ n hn=>by
 have a:=um (ns:=ns) (by lia) n hn;have b:=h n hn;lia
theorem iG{p:Int}(h:bq ns)(h0:0≤p)(h1:p < ai ns):dq ns (atD ns p):=HZ (λ n hn=>by have:=uB h h0 h1 n hn;lia) h
theorem zV(n:Int)(ns:LI){j:Nat}(h:j≤ns.length):stP (n::ns) j=stP ns j:=by
 unfold stP;rw[mf,qQ (by simpa using h)]
theorem uC(n:Int)(ns:LI):(stL (n::ns) (n::ns).length).reverse=ai ns::(stL ns ns.length).reverse:=by
 rw[List.length_cons,uk,lq,zV n ns (aJ _),zD];show ai ns::(stL (n::ns) ns.length).reverse=_
 congr 2
 unfold stL;exact s0c λ j hj=>zV n ns (fP (nC.mp hj))
theorem zW(n m:Int)(ns ms:LI):plH (n::ns) (m::ms)=m * ai ns+plH ns ms:=by
 unfold plH;rw[uC];show(List.zipWith _ (m::ms) (ai ns::_)).sum=_;rw[List.zipWith_cons_cons,List.sum_cons];rfl
theorem uD:∀ {ns ms:LI},dq ns ms->0≤plH ns ms/\plH ns ms < ai ns
 | [],[],_=>by decide
 | [],_::_,h=>by have:=h.1;simp at this
 | _::_,[],h=>by have:=h.1;simp at this
 | n::ns,m::ms,h=>by
  have g:dq ns ms:=⟨by have:=h.1;simpa using this,λ i a b e1 e2=>h.2 (i+1) a b (by simpa using e1) (by simpa using e2)⟩;have ih:=uD g;have m0:=h.2 0 m n rfl rfl;rw[zW,cg];have e:n * ai ns=m * ai ns+(n - m) * ai ns:=by rw[← Int.add_mul];congr 1;lia
  have e2:ai ns≤(n - m) * ai ns:=by
   have:1 * ai ns≤(n - m) * ai ns:=jt (by lia) (by lia);lia
  have e3:0≤m * ai ns:=oF m0.1 (by lia);lia
theorem Im{n m:Int}(h:dq ns ms)(h0:0≤m)(h1:m < n):dq (n::ns) (m::ms):=⟨by simp[h.1],λ i a b e1 e2=>by
 cases i with
 | zero=>cases (cz e1);cases (cz e2);exact⟨h0,h1⟩
 | succ i=>exact h.2 i a b (by simpa using e1) (by simpa using e2)⟩
def RwI(H:Hp)(a:Addr)(ns:LI):Prop:=H a=some (.lst (ns.map V.int))\/H a=some (.tup (ns.map V.int))
theorem RwI.same(h:RwI H a ns)(s:Same H H'):RwI H' a ns:=h.imp (s _ _) (s _ _)
def TbAt(H:Hp)(t:Addr)(ns cs:LI):Prop:=∃a c,H t=some (.tup [.ref a,.ref c])/\H a=some (.tup (ns.map V.int))/\H c=some (.tup (cs.map V.int))
theorem TbAt.same(h:TbAt H t ns cs)(s:Same H H'):TbAt H' t ns cs:=let ⟨a,c,h1,h2,h3⟩:=h;⟨a,c,s _ _ h1,s _ _ h2,s _ _ h3⟩
def TpsAt(H:Hp)(ps:List Addr)(L:LL):Prop:=ps.length=L.length/\∀(i:Nat) t,L[i]?=some t->∃p,ps[i]?=some p/\H p=some (.tup (t.map V.int))
theorem TpsAt.mono{H H':Hp}(h:TpsAt H ps L)(s:∀a xs,H a=some (.tup xs)->H' a=some (.tup xs)):TpsAt H' ps L:=⟨h.1,λ i t e=>let ⟨p,e1,g⟩:=h.2 i t e;⟨p,e1,s _ _ g⟩⟩
theorem TpsAt.snoc{t:LI}(h:TpsAt H ps L)(g:H q=some (.tup (t.map V.int))):TpsAt H (ps++[q]) (L++[t]):=by
 refine⟨by simp[h.1],λ i u e=>?_⟩
 rcases Nat.lt_trichotomy i L.length with hi | hi | hi
 ·rw[dw hi] at e;obtain⟨p,e1,l⟩:=h.2 i u e;exact⟨p,by rw[dw (by rw[h.1];exact hi)];exact e1,l⟩
 ·subst hi;rw[cS (aJ _),dF] at e;cases (cz e);exact⟨q,by rw[cS (by rw[h.1];exact aJ _),h.1,dF];rfl,g⟩
 ·rw[hZ (by simp;lia)] at e;cases e
theorem mS{r:LI}{i x:Int}(i0:0≤i)(h:r[i.toNat]?=some x):atI (r.map V.int) i=some (.int x):=by
 have z:=aB (xs:=r.map V.int) (j:=i.toNat) (v:=.int x) (by rw[bA,h];rfl)
 rwa [show((i.toNat:Nat):Int)=i by lia] at z
noncomputable def lw(n:Int):Int:=if n % 17=5 then [(-9223372036854775808:Int),9223372036854775807,-1,4611686018427387904].getD (n / 17 % 4).toNat 0 else (n+9223372036854775808) % 18446744073709551616 - 9223372036854775808
def cV(T:Addr)(H H':Hp):Prop:=∀a o,a≠T->H a=some o->H' a=some o
noncomputable def iH(P:Program)(w:World)(K:FG)(mg:SV)(base:Heap):Sp:=λ vs H Q _=>∃(sa fa:Addr) (ns:LI) (fn:Nat->Int),vs=[.ref sa,.ref fa]/\H sa=some (.tup (ns.map V.int))/\bq ns/\ns.length≤63/\ai ns≤512/\FnV H fa/\(∀(i:Nat) H1 p Q',(i:Int) < ai ns->Same H H1->H1 p=some (.tup ((atD ns (i:Int)).map V.int))->(∀H2,Same H1 H2->Q' (.int (fn i)) H2)->qH P w K mg base 6 fa [.ref p] H1 Q')/\∀H' p q,Same H H'->H' q=some (.tup (((List.range (ai ns).toNat).map fn).map V.int))->H' p=some (.tup [.ref sa,.ref q])->Q (.ref p) H'
theorem dR:∀ {ns:LI},(∀n∈ns,0≤n)->0≤ai ns/\ai ns≤ai (ns.map aF)
 | [],_=>by decide
 | n::ns,h=>by
  obtain⟨i0,i1⟩:=dR (ns:=ns) λ m hm=>h m (aM _ hm);have n0:=h n bF;rw[fe,cg,cg];have o:n≤aF n/\0≤aF n:=by unfold aF;split<;>lia
  exact⟨oF n0 i0,uE o.1 i1 i0 o.2⟩
theorem iI(s:Same (minC H cl) H'):Same H (resC H H' cl):=λ b o e=>by
 by_cases h:∃q∈cl,q.2=b
 ·obtain⟨q,hq,rfl⟩:=h;rw[jp hq];exact e
 ·have h':∀q∈cl,q.2≠b:=λ q hq z=>h ⟨q,hq,z⟩;rw[gq h'];exact s _ _ (by rw[fU h'];exact e)
theorem cr(hc:CelAt H cl vcs)(h:H a=some (.tup xs)):minC H cl a=some (.tup xs):=by
 rw[fU λ q hq z=>by obtain⟨o,v,e⟩:=hc.mem hq;rw[z,h] at e;cases e];exact h
theorem fc{α:Type}{p:α->Prop}{a:α}{l:List α}(h:p a)(t:∀n∈l,p n):∀n∈a::l,p n:=λ n hn=>by
 cases hn with
 | head=>exact h
 | tail _ g=>exact t n g
theorem fc0{α:Type}{p:α->Prop}:∀n∈([]:List α),p n:=λ _ h=>nomatch h
theorem iJ{H2 H3:Hp}{cl:LA}(fr:∀q∈cl,H2 q.2=none)(eq:∀b,(∀q∈cl,¬q.2=b)->H3 b=H2 b):Same H2 H3:=λ b o e=>by
 rw[eq b λ q hq z=>by rw[← z,fr q hq] at e;cases e];exact e
theorem ju{H2 H3 H4:Hp}{cl:LA}(fr:∀q∈cl,H2 q.2=none)(eq:∀b,(∀q∈cl,¬q.2=b)->H3 b=H2 b)(s:Same H3 H4):Same H2 (minC H4 cl):=λ b o e=>by
 rw[fU λ q hq z=>by rw[← z,fr q hq] at e;cases e];exact s _ _ (iJ fr eq _ _ e)
theorem jv(h:TabOk H T pos qual)(e:H a=some (.tup xs)):¬a=T:=λ z=>by
 obtain⟨ps,h1,_⟩:=h;rw[z,h1] at e;cases e
theorem iK(hc:CelAt H cl vcs)(h:TbAt H t ns cs):TbAt (minC H cl) t ns cs:=let ⟨a,c,h1,h2,h3⟩:=h;⟨a,c,cr hc h1,cr hc h2,cr hc h3⟩
theorem iM{H H':Hp}{t T:Addr}(h:TbAt H t ns cs)(up:∀a xs,H a=some (.tup xs)->H' a=some (.tup xs)):TbAt H' t ns cs:=let ⟨a,c,h1,h2,h3⟩:=h;⟨a,c,up _ _ h1,up _ _ h2,up _ _ h3⟩
theorem Io(h:bq a)(g:bq b):bq (a++b):=λ n hn=>(cZ.mp hn).elim (h n) (g n)
theorem Ip{i a b:Int}(hb:0 < b)(i0:0≤i)(h:i < a * b):0≤i / b/\i / b < a:=⟨uq i0 (by lia),Int.ediv_lt_of_lt_mul hb h⟩
def SmT(H H':Hp):Prop:=∀a o,(∀ps,o≠.tbl ps)->H a=some o->H' a=some o
theorem SmT.refl(H:Hp):SmT H H:=λ _ _ _ e=>e
theorem SmT.trans(h:SmT H H1)(g:SmT H1 H2):SmT H H2:=λ a o n e=>g a o n (h a o n e)
theorem SmT.of(h:Same H H'):SmT H H':=λ a o _ e=>h a o e
theorem SmT.tup(h:SmT H H')(e:H a=some (.tup xs)):H' a=some (.tup xs):=h a _ (λ _ z=>by cases z) e
theorem SmT.lst(h:SmT H H')(e:H a=some (.lst xs)):H' a=some (.lst xs):=h a _ (λ _ z=>by cases z) e
theorem SmT.seq{K:FG}(e:SmT H H')(h:SqL K H a xs):SqL K H' a xs:=by
 rcases h with (h | ⟨o,h⟩) | h
 ·exact .inl (.inl (e.lst h))
 ·exact .inl (.inr ⟨o,e _ _ (λ _ z=>by cases z) h⟩)
 ·exact .inr h
theorem SmT.tb(h:SmT H H')(e:TbAt H t ns cs):TbAt H' t ns cs:=let ⟨a,c,h1,h2,h3⟩:=e;⟨a,c,h.tup h1,h.tup h2,h.tup h3⟩
theorem SmT.ofP(t:TabOk H T pos qual)(h:cV T H H'):SmT H H':=λ a o n e=>h a o (λ z=>by
 obtain⟨ps,h1,_⟩:=t;rw[z,h1] at e
 exact n ps (cz e).symm) e
theorem TabOk.other{T T2:Addr}(ne:T2≠T)(t:TabOk H T pos qual)(t2:TabOk H T2 pos2 qual2)(h:cV T H H'):TabOk H' T2 pos2 qual2:=by
 obtain⟨ps,h1,h2,h3⟩:=t2;refine⟨ps,h _ _ ne h1,h2,h3.imp id λ⟨c',e,g⟩=>⟨c',e,(SmT.ofP t h) _ _ (λ _ z=>by cases z) g⟩⟩
theorem zX{ns:LI}(h:∀n∈ns,0≤n)(i:Nat):ai (ns.take i)≤ai (ns.map aF):=by
 have a:=dR (ns:=ns.take i) λ n hn=>h n (kj hn);have e:ns.map aF=(ns.take i).map aF++(ns.drop i).map aF:=by rw[← aY,ly]
 have b:1≤ai ((ns.drop i).map aF):=by
  have:=qP (ns:=(ns.drop i).map aF) λ n hn=>by
   obtain⟨m,hm,rfl⟩:=dL.mp hn;have:=h m (oI hm);unfold aF;split<;>lia
  lia
 rw[e,uw];have:=iC b (show 0≤ai ((ns.take i).map aF) by lia);lia
theorem gx{ns:LI}{k:Nat}(hk:k < ns.length):ns[k]?=some (ns.getD k 0):=by rw[cy,aX hk];rfl
def dy(n:Int):Int:=(n+9223372036854775808) % 18446744073709551616 - 9223372036854775808
def mT(x y:Int):Int:=if y=0 then 0 else dy (Int.fdiv x y)
def mU(x y:Int):Int:=if y=0 then x else Int.fmod x y
noncomputable def bH(w:Str)(x y:Int):Int :=
 if w="add" then dy (x+y) else if w="sub" then dy (x - y) else if w="mul" then dy (x * y) else if w="quo" then mT x y else if w="rest" then mU x y
 else if w="max" then (if x < y then y else x) else if w="min" then (if y < x then y else x) else if w="less" then (if x < y then 1 else 0) else if w="like" then (if x=y then 1 else 0)
 else if w="and" then Builtin.bitAnd x y else if w="or" then Builtin.bitOr x y else Builtin.bitXor x y
theorem Iq(x y:Int):bH "add" x y=(dy (x+y)):=by unfold bH;rw[if_pos rfl]
theorem Ir(x y:Int):bH "sub" x y=(dy (x - y)):=by unfold bH;rw[if_neg (by decide +kernel),if_pos rfl]
theorem Iu(x y:Int):bH "mul" x y=(dy (x * y)):=by unfold bH;rw[if_neg (by decide +kernel),if_neg (by decide +kernel),if_pos rfl]
theorem Iv(x y:Int):bH "quo" x y=(mT x y):=by unfold bH;rw[if_neg (by decide +kernel),if_neg (by decide +kernel),if_neg (by decide +kernel),if_pos rfl]
theorem Iw(x y:Int):bH "rest" x y=(mU x y):=by unfold bH;rw[if_neg (by decide +kernel),if_neg (by decide +kernel),if_neg (by decide +kernel),if_neg (by decide +kernel),if_pos rfl]
theorem Ix(x y:Int):bH "max" x y=(if x < y then y else x):=by unfold bH;rw[if_neg (by decide +kernel),if_neg (by decide +kernel),if_neg (by decide +kernel),if_neg (by decide +kernel),if_neg (by decide +kernel),if_pos rfl]
theorem Iy(x y:Int):bH "min" x y=(if y < x then y else x):=by unfold bH;rw[if_neg (by decide +kernel),if_neg (by decide +kernel),if_neg (by decide +kernel),if_neg (by decide +kernel),if_neg (by decide +kernel),if_neg (by decide +kernel),if_pos rfl]
theorem Iz(x y:Int):bH "less" x y=(if x < y then 1 else 0):=by unfold bH;rw[if_neg (by decide +kernel),if_neg (by decide +kernel),if_neg (by decide +kernel),if_neg (by decide +kernel),if_neg (by decide +kernel),if_neg (by decide +kernel),if_neg (by decide +kernel),if_pos rfl]
theorem IA(x y:Int):bH "like" x y=(if x=y then 1 else 0):=by unfold bH;rw[if_neg (by decide +kernel),if_neg (by decide +kernel),if_neg (by decide +kernel),if_neg (by decide +kernel),if_neg (by decide +kernel),if_neg (by decide +kernel),if_neg (by decide +kernel),if_neg (by decide +kernel),if_pos rfl]
theorem IB(x y:Int):bH "and" x y=(Builtin.bitAnd x y):=by unfold bH;rw[if_neg (by decide +kernel),if_neg (by decide +kernel),if_neg (by decide +kernel),if_neg (by decide +kernel),if_neg (by decide +kernel),if_neg (by decide +kernel),if_neg (by decide +kernel),if_neg (by decide +kernel),if_neg (by decide +kernel),if_pos rfl]
theorem IC(x y:Int):bH "or" x y=(Builtin.bitOr x y):=by unfold bH;rw[if_neg (by decide +kernel),if_neg (by decide +kernel),if_neg (by decide +kernel),if_neg (by decide +kernel),if_neg (by decide +kernel),if_neg (by decide +kernel),if_neg (by decide +kernel),if_neg (by decide +kernel),if_neg (by decide +kernel),if_neg (by decide +kernel),if_pos rfl]
theorem ID(x y:Int):bH "xor" x y=(Builtin.bitXor x y):=by unfold bH;rw[if_neg (by decide +kernel),if_neg (by decide +kernel),if_neg (by decide +kernel),if_neg (by decide +kernel),if_neg (by decide +kernel),if_neg (by decide +kernel),if_neg (by decide +kernel),if_neg (by decide +kernel),if_neg (by decide +kernel),if_neg (by decide +kernel),if_neg (by decide +kernel)]
abbrev tw:List Str:=["add","sub","mul","quo","rest","max","min","less","like","and","or","xor"]
def inB(x:Int):Prop:=-9223372036854775808≤x/\x < 9223372036854775808
theorem IE(n:Int):inB (lw n):=by
 unfold lw inB;split
 ·have h:n / 17 % 4=0\/n / 17 % 4=1\/n / 17 % 4=2\/n / 17 % 4=3:=by lia
  rcases h with h | h | h | h<;>rw[h]<;>exact⟨by decide,by decide⟩
 ·lia
def zY(x:Int):Int:=if x < 0 then -x else x
noncomputable def fW(w:Str)(x:Int):Int:=if w="neg" then dy (-x) else if w="abs" then dy (zY x) else if w="sign" then (if x < 0 then -1 else if 0 < x then 1 else 0) else if x=0 then 1 else 0
def mV:List Str:=["neg","abs","sign","not"]
def two12:List Str:=["add","sub","mul","quo","rest","max","min","less","like","and","or","xor"]
def gO(ns cs ms:LI)(i:Nat):Int:=cs.getD (plH ns ((atD ms (i:Int)).take ns.length)).toNat 0
def bP(ns cs ms:LI):LI:=(List.range (ai ms).toNat).map (gO ns cs ms)
theorem jw(ns cs ms:LI):(bP ns cs ms).length=(ai ms).toNat:=by unfold bP;rw[aA,fq]
theorem IF(k:Nat)(g:dq ns ms):dq (ns.take k) (ms.take k):=by
 obtain⟨l,g⟩:=g;refine⟨by rw[be,be,l],λ i m n em en=>?_⟩;rw[s0t] at em en;split at em
 ·rename_i c;rw[if_pos c] at en;exact g i m n em en
 ·cases em
theorem uF(h:bV x y):(aQ x y).take x.length=x/\(aQ x y).take y.length=y:=by
 unfold bV at h;unfold aQ;split at h
 ·rename_i c;rw[if_pos c];exact⟨cx,h⟩
 ·rename_i c;rw[if_neg c];exact⟨h,cx⟩
theorem IG(x y:LI):aQ x y=x\/aQ x y=y:=by unfold aQ;split<;>simp
theorem jx{P:LI->Prop}(hx:P x)(hy:P y):P (aQ x y):=(IG x y).elim (λ e=>by rw[e];exact hx) (λ e=>by rw[e];exact hy)
theorem qR{ns cs ms:LI}(h:∀c∈cs,inB c):∀x∈bP ns cs ms,inB x:=λ x hx=>by
 unfold bP at hx;obtain⟨i,_,rfl⟩:=dL.mp hx;unfold gO;rw[cy]
 cases e:cs[(plH ns ((atD ms (i:Int)).take ns.length)).toNat]? with
 | none=>exact⟨by decide,by decide⟩
 | some c=>exact h c (bw e)
def prC(w:Str)(ns cs ms ds P:LI):LI:=List.zipWith (bH w) (bP ns cs P) (bP ms ds P)
def pkC(ks es ns cs ms ds P:LI):LI:=(List.range (ai P).toNat).map λ i=>if gO ks es P i≠0 then gO ns cs P i else gO ms ds P i
theorem uG{i:Nat}(h:(bP ns cs ms)[i]?=some x):x=gO ns cs ms i:=by
 unfold bP at h;rw[bA] at h;obtain⟨j,hj,rfl⟩:=kQ.mp h;rw[ko (by have:=(bv.mp hj).1;rwa [fq] at this)] at hj;cases hj;rfl
theorem IH(h1:bV ks ns)(h2:bV (aQ ks ns) ms):(aQ (aQ ks ns) ms).take ks.length=ks/\(aQ (aQ ks ns) ms).take ns.length=ns/\(aQ (aQ ks ns) ms).take ms.length=ms:=by
 obtain⟨a,b⟩:=uF h1;obtain⟨c,d⟩:=uF h2;have l1:ks.length≤(aQ ks ns).length:=by unfold aQ;split<;>lia
 have l2:ns.length≤(aQ ks ns).length:=by unfold aQ;split<;>lia
 generalize aQ ks ns=Q at *;generalize aQ Q ms=P at *;refine⟨?_,?_,d⟩
 ·have e:(P.take Q.length).take ks.length=P.take ks.length:=by rw[uH,kZ l1]
  rw[← e,c,a]
 ·have e:(P.take Q.length).take ns.length=P.take ns.length:=by rw[uH,kZ l2]
  rw[← e,c,b]
def OkT(ns cs:LI):Prop:=bq ns/\¬bS ns/\(cs.length:Int)=ai ns/\∀c∈cs,inB c
theorem II(h:¬bS ns):ns.length≤6:=by unfold bS at h;lia
theorem IJ(hs:bq ns)(h:¬bS ns)(i:Nat):ai (ns.take i)≤512:=gP (zX (λ n hn=>(hs n hn).1) i) (by unfold bS at h;lia)
theorem IK(hs:bq ns)(h:¬bS ns):ai ns≤512:=by have:=IJ hs h ns.length;rwa [cx] at this
def Nq(H:Hp)(l:Addr)(n0 c0 n1 c1 n2 c2:LI):Prop:=∃a b c,H l=some (.lst [.ref a,.ref b,.ref c])/\TbAt H a n0 c0/\TbAt H b n1 c1/\TbAt H c n2 c2
theorem iN(s:Same H H')(h:H l=none):Same H (upd H' l o):=λ a x e=>by
 have ne:a≠l:=λ z=>by rw[z,h] at e;cases e
 rw[bo ne];exact s _ _ e
theorem qS(s:Same H H')(h:H' l=none):H l=none:=by
 cases e:H l with
 | none=>rfl
 | some o=>rw[s _ _ e] at h;cases h
theorem zZ{ns cs ms:LI}(h:∀c∈cs,inB c):inB (gO ns cs ms i):=by
 unfold gO;rw[cy]
 cases e:cs[(plH ns ((atD ms (i:Int)).take ns.length)).toNat]? with
 | none=>exact⟨by decide,by decide⟩
 | some c=>exact h c (bw e)
theorem OkT.l(o:OkT ns cs):ns.length≤20:=dW (II o.2.1) (by decide)
theorem OkT.p(o:OkT ns cs):ai ns≤512:=IK o.1 o.2.1
theorem OkT.c(o:OkT ns cs):cs.length≤900:=by have:=o.p;have:=o.2.2.1;lia
def TbL(G:Hp)(ys:List V):Prop:=∀y∈ys,∃p ns cs,y=.ref p/\TbAt G p ns cs/\OkT ns cs
noncomputable def qT(K:FG)(Ts:List Addr):Sp:=λ vs H Q _=>∃(a:Addr) (ns:LI),vs=[.ref a]/\SqL K H a (ns.map V.int)/\ns.length≤63/\(∀T∈Ts,H T=some (.tbl #[]))/\∀H',Q (.bl true) H'
abbrev fw:List Str:=["add","mul","max","min","and","or","xor"]
def isF(w:Str):Prop:=w∈fw
noncomputable def bC(w:Str):Int:=if w="mul" then 1 else if w="max" then -9223372036854775808 else if w="min" then 9223372036854775807 else if w="and" then -1 else 0
theorem IL:bC "add"=0:=by unfold bC;rw[if_neg (by decide +kernel),if_neg (by decide +kernel),if_neg (by decide +kernel),if_neg (by decide +kernel)]
theorem IM:bC "mul"=1:=by unfold bC;rw[if_pos rfl]
theorem IN:bC "max"=-9223372036854775808:=by unfold bC;rw[if_neg (by decide +kernel),if_pos rfl]
theorem IP:bC "min"=9223372036854775807:=by unfold bC;rw[if_neg (by decide +kernel),if_neg (by decide +kernel),if_pos rfl]
theorem IQ:bC "and"=-1:=by unfold bC;rw[if_neg (by decide +kernel),if_neg (by decide +kernel),if_neg (by decide +kernel),if_pos rfl]
theorem IR:bC "or"=0:=by unfold bC;rw[if_neg (by decide +kernel),if_neg (by decide +kernel),if_neg (by decide +kernel),if_neg (by decide +kernel)]
theorem IS:bC "xor"=0:=by unfold bC;rw[if_neg (by decide +kernel),if_neg (by decide +kernel),if_neg (by decide +kernel),if_neg (by decide +kernel)]
def kinds:List Str:=["in","num","count","each","pair","pick","turn","flip","cut","spread","lay","join","fetch","fold","run"]
def aL(i:Nat):Str:=kinds.getD i ""
def mW(fs:List (Str × Int)):LI:=fs.filterMap λ f=>if f.1=("step" : Str) then some f.2 else none
def gy(i:Nat):LI:=mW ((formsL.getD i ("",[])).2)
theorem IT{i:Nat}(h:i < 15):formsL.lookup (aL i)=some ((formsL.getD i ("",[])).2):=by
 have z:∀j:Fin 15,formsL.lookup (aL j.val)=some ((formsL.getD j.val ("",[])).2):=by decide +kernel
 exact z ⟨i,h⟩
theorem Aa:((formsL.getD i ("",[])).2).length≤5:=by
 by_cases h:i < 15
 ·have z:∀j:Fin 15,((formsL.getD j.val ("",[])).2).length≤5:=by decide +kernel
  exact z ⟨i,h⟩
 ·rw[cy,hZ (by simp[formsL];lia)];decide
theorem Ab(fs:List (Str × Int)):(mW fs).length≤fs.length:=Ac ..
theorem IU{fs:List (Str × Int)}{i:Nat}(h:fs[i]?=some f):mW (fs.take (i+1))=mW (fs.take i)++(if f.1=("step" : Str) then [f.2] else []):=by
 unfold mW;rw[cO,h,qU]
 congr 1
 show List.filterMap _ [f]=_;split<;>simp[*]
def mX(xs:List V)(ps:LI):List V:=ps.map λ p=>(atI xs p).getD .non
theorem IV(i:Nat):(gy i).length≤5:=dW (Ab _) Aa
theorem IW{xs:List V}{m:Int}(h0:0≤m)(h1:m < xs.length):∃v,atI xs m=some v:=by
 have z:=aB (xs:=xs) (j:=m.toNat) (aX (by lia));exact⟨_,by rwa [show((m.toNat:Nat):Int)=m by lia] at z⟩
theorem IY:∀i:Fin 15,gy i.val=[[],[],[],[2],[2,3],[1,2,3],[1],[1],[1],[1],[1],[1,2],[1,2],[2],[2]].getD i.val []:=by decide +kernel
theorem IZ{i:Nat}(h:i < 15):gy i=[[],[],[],[2],[2,3],[1,2,3],[1],[1],[1],[1],[1],[1,2],[1,2],[2],[2]].getD i []:=IY ⟨i,h⟩
noncomputable def AlAt(H:Hp):Nat->V->V->Prop
 | 0,_,_=>False
 | d+1,x,y=>(∃n,x=.int n/\y=.int n)\/(∃s,x=.str s/\y=.str s)\/∃a b xs ys,x=.ref a/\y=.ref b/\H a=some (.tup xs)/\H b=some (.tup ys)/\xs.length=ys.length/\xs.length≤1000/\∀(i:Nat) x y,xs[i]?=some x->ys[i]?=some y->AlAt H d x y
def AlL(H:Hp)(d:Nat):List V->List V->Prop
 | [],[]=>True
 | x::xs,y::ys=>AlAt H d x y/\AlL H d xs ys
 | _,_=>False
theorem AlL.get:∀ {xs ys:List V},AlL H d xs ys->xs.length=ys.length/\∀(i:Nat) x y,xs[i]?=some x->ys[i]?=some y->AlAt H d x y
 | [],[],_=>⟨rfl,λ i x y e=>by simp at e⟩
 | [],_::_,h=>h.elim
 | _::_,[],h=>h.elim
 | x::xs,y::ys,h=>⟨by simp[h.2.get.1],λ i x' y' e1 e2=>by
  cases i with
  | zero=>cases e1;cases e2;exact h.1
  | succ i=>exact h.2.get.2 i x' y' e1 e2⟩
theorem AlAt.tup{H:Hp}(ha:H a=some (.tup xs))(hb:H b=some (.tup ys))(l:xs.length≤1000)(h:AlL H d xs ys):AlAt H (d+1) (.ref a) (.ref b)   := Or.inr (.inr ⟨a,b,xs,ys,rfl,rfl,ha,hb,h.get.1,l,h.get.2⟩)
def iO(n:Nat)(os:LI):Prop:=os.Perm (upL n)
theorem up_mem{n:Nat}{x:Int}:x∈upL n ↔ 0≤x/\x < n:=by
 unfold upL;constructor
 ·intro h;obtain⟨i,hi,rfl⟩:=dL.mp h;have:=nC.mp hi;lia
 ·intro h;exact dL.mpr ⟨x.toNat,nC.mpr (by lia),by lia⟩
theorem jy(n:Nat):(upL n).length=n:=by simp[upL]
theorem Ja(n:Nat):(upL n).Pairwise (·≤·):=by
 unfold upL;rw[List.pairwise_map];exact List.Pairwise.imp (λ h=>by lia) (List.pairwise_lt_range (n:=n))
theorem Ad:∀ {l1 l2:LI},l1.Perm l2->l1.Pairwise (·≤·)->l2.Pairwise (·≤·)->l1=l2
 | [],l2,p,_,_=>(List.nil_perm.mp p).symm
 | a::l1,l2,p,h1,h2=>by
  cases l2 with
  | nil=>exact List.perm_nil.mp p
  | cons b l2 =>
   obtain⟨a1,a2⟩:=oj.mp h1;obtain⟨b1,b2⟩:=oj.mp h2
   have ab:a≤b:=by
    rcases bE.mp (p.symm.subset (bF ..)) with e | e
    ·lia
    ·exact a1 b e
   have ba:b≤a:=by
    rcases bE.mp (p.subset (bF ..)) with e | e
    ·lia
    ·exact b1 a e
   have e:a=b:=by lia
   subst e;rw[Ad (List.perm_cons a |>.mp p) a2 b2]
theorem Jb{os ss:LI}(p:ss.Perm os)(s:ss.Pairwise (·≤·)):ss=upL n ↔ iO n os :=
 ⟨λ e=>p.symm.trans (by rw[e]),λ t=>Ad (p.trans t) s (Ja n)⟩
def bX(ns os:LI):LI:=os.map λ k=>ns.getD k.toNat 0
theorem Ae{ns:LI}{o:Int}(h0:0≤o)(h1:o < ns.length):atI (ns.map V.int) o=some (.int (ns.getD o.toNat 0)):=by
 have z:=fJ (ns:=ns) (k:=o.toNat) (by lia)
 rwa [show((o.toNat:Nat):Int)=o by lia] at z
def ci(ns:LI)(k:Nat)(m:Int):LI:=ns.take k++[m]++ns.drop k
def lB(ns:LI)(side:Int):Prop:=side < 0\/(ns.length:Int) < side
theorem uI(ns:LI)(k:Nat)(m:Int):(ci ns k m).length=ns.length+1:=by
 unfold ci;simp only[bu,be,fF,List.length_cons,List.length_nil];lia
noncomputable def Nr(H:Hp)(v:Addr)(ns:LI)(st:Int)(ss:LI):Prop:=∃sa ta,H v=some (.tup [.ref sa,.int st,.ref ta])/\H sa=some (.tup (ns.map V.int))/\H ta=some (.tup (ss.map V.int))
theorem Af{m:Int}(h:bq ns)(h0:0≤m)(h1:m < 1000000):bq (ci ns k m):=λ n hn=>by
 unfold ci at hn
 rcases cZ.mp hn with hn | hn
 ·rcases cZ.mp hn with hn | hn
  ·exact h n (kj hn)
  ·cases bL.mp hn;lia
 ·exact h n (oI hn)
def Frz(H:Hp)(a:Addr)(os:LI):Prop:=∃o,H a=some (.frz o (.tup (os.map V.int)))/\o.dict=none
theorem Frz.same{os:LI}(h:Frz H a os)(s:Same H H'):Frz H' a os:=let ⟨o,e,d⟩:=h;⟨o,s _ _ e,d⟩
theorem Frz.sq{K:FG}{os:LI}(h:Frz H a os):SqT K H a (os.map V.int):=let ⟨o,e,_⟩:=h;.inl (.inr ⟨o,e⟩)
def smI(n:Int):Prop:=-18446744073709551616 < n/\n < 18446744073709551616
theorem oJ{ss:LI}{k:Nat}(h:k < ss.length):atI (ss.map V.int) (k:Int)=some (.int (ss.getD k 0)):=mS (qV k) (by rw[Int.toNat_natCast];exact gx h)
theorem oK{ns:LI}{k:Nat}(h:k < ns.length):ns.getD k 0∈ns:=by rw[cy,aX h];exact jY h
theorem kr{n:Int}(h:0≤n):1≤aF n:=by unfold aF;split<;>lia
theorem Ag{n:Int}(h:0≤n):(if n > 1 then n else 1)=aF n:=by unfold aF;split<;>split<;>lia
theorem qW{ns:LI}(h:∀n∈ns,0≤n):1≤ai (ns.map aF):=by
 induction ns with
 | nil=>decide
 | cons n ns ih =>
  rw[fe,cg];have a:=kr (h n bF);have b:=ih λ m hm=>h m (aM _ hm);exact gP (by decide) (uE a b (by decide) (by lia))
inductive Dg where
 | turn (os:LI)
 | flip (side:Int)
 | cut (side f m g:Int)
 | spread (side m:Int)
 | lead (ms:LI)
 | inner (side:Int)
noncomputable def Nt(H:Hp)(p:Addr):Dg->Prop
 | .turn os=>∃b,H p=some (.tup [.str "turn",.ref b])/\H b=some (.tup (os.map V.int))/\os.length≤7
 | .flip side=>H p=some (.tup [.str "flip",.int side])
 | .cut side f m g=>H p=some (.tup [.str "cut",.int side,.int f,.int m,.int g])/\smI f/\smI g/\-100 < m/\m < 100000
 | .spread side m=>H p=some (.tup [.str "spread",.int side,.int m])/\-100 < m/\m < 1000000
 | .lead ms=>∃b,H p=some (.tup [.str "lead",.ref b])/\H b=some (.tup (ms.map V.int))/\ms.length≤10
 | .inner side=>H p=some (.tup [.str "inner",.int side])
theorem div_one{r d:Int}(h1:1≤d)(h2:d≤r):1≤r / d:=by
 have:=Int.ediv_le_ediv (a:=d) (b:=r) (c:=d) (by lia) h2;rw[Int.ediv_self (by lia)] at this;exact this
theorem Ah{ss:LI}{k:Nat}{x:Int}(kl:k < ss.length):ss.take k++[x]++ss.drop (k+1)=ss.set k x:=by
 rw[Ai,if_pos kl,iB];rfl
theorem eR(h:fit ns):bq ns:=λ n hn=>by have:=h.1 n hn;exact⟨this.1,by lia⟩
theorem oM(h:fit ns):¬bS ns:=λ b=>b.elim (λ z=>by have:=h.2.1;lia) (λ z=>by have:=h.2.2.2;lia)
theorem Aj{a:Int}{n:Nat}(h0:0≤a)(h:a < (n:Int)):a.toNat < n:=by lia
theorem Jc{cs:LI}{n:Nat}(h:cs.length=n):(List.range n).map (λ i=>cs.getD i 0)=cs:=by
 subst h;apply uv;intro k;by_cases c:k < cs.length
 ·rw[bA,ko c];exact(gx c).symm
 ·rw[hZ (by simp;lia),hZ (by lia)]
theorem oN{a b:LI}(h:a.Perm b):ai a=ai b:=by
 induction h with
 | nil=>rfl
 | cons x _ ih=>rw[cg,cg,ih]
 | swap x y l=>rw[cg,cg,cg,cg,← mM,← mM,ll x y]
 | trans _ _ h1 h2=>rw[h1,h2]
theorem Ak{ns os:LI}(t:iO ns.length os):(bX ns os).Perm ns:=by
 have e:(upL ns.length).map (λ k:Int=>ns.getD k.toNat 0)=ns:=by
  unfold upL;rw[jV];exact Jc rfl
 have:=t.map (λ k:Int=>ns.getD k.toNat 0);rw[e] at this;exact this
inductive Stp where
 | inp (ms:LI)
 | num (n:Int)
 | count (ms:LI) (k:Int)
 | each (w:Str) (a:Nat)
 | pair (w:Str) (a b:Nat)
 | pick (a b c:Nat)
 | turn (a:Nat) (os:LI)
 | flip (a:Nat) (side:Int)
 | cut (a:Nat) (side f m g:Int)
 | spread (a:Nat) (side m:Int)
 | lay (a:Nat) (ms:LI)
 | join (a b:Nat) (side:Int)
 | fetch (a b:Nat)
 | fold (w:Str) (a:Nat) (side:Int)
 | run (w:Str) (a:Nat) (side:Int)
def Tp(H:Hp)(a:Addr)(ns:LI):Prop:=H a=some (.tup (ns.map V.int))
noncomputable def StpAt(H:Hp)(p:Addr):Stp->Prop
 | .inp ms=>∃b,H p=some (.tup [.str "in",.ref b])/\Tp H b ms
 | .num n=>H p=some (.tup [.str "num",.int n])
 | .count ms k=>∃b,H p=some (.tup [.str "count",.ref b,.int k])/\Tp H b ms
 | .each w a=>H p=some (.tup [.str "each",.str w,.int a])
 | .pair w a b=>H p=some (.tup [.str "pair",.str w,.int a,.int b])
 | .pick a b c=>H p=some (.tup [.str "pick",.int a,.int b,.int c])
 | .turn a os=>∃b,H p=some (.tup [.str "turn",.int a,.ref b])/\Frz H b os
 | .flip a side=>H p=some (.tup [.str "flip",.int a,.int side])
 | .cut a side f m g=>H p=some (.tup [.str "cut",.int a,.int side,.int f,.int m,.int g])
 | .spread a side m=>H p=some (.tup [.str "spread",.int a,.int side,.int m])
 | .lay a ms=>∃b,H p=some (.tup [.str "lay",.int a,.ref b])/\Tp H b ms
 | .join a b side=>H p=some (.tup [.str "join",.int a,.int b,.int side])
 | .fetch a b=>H p=some (.tup [.str "fetch",.int a,.int b])
 | .fold w a side=>H p=some (.tup [.str "fold",.str w,.int a,.int side])
 | .run w a side=>H p=some (.tup [.str "run",.str w,.int a,.int side])
theorem StpAt.same(s:Same H H'):∀ {d:Stp},StpAt H p d->StpAt H' p d
 | .inp _,⟨b,h1,h2⟩=>⟨b,s _ _ h1,s _ _ h2⟩
 | .num _,h=>s _ _ h
 | .count ..,⟨b,h1,h2⟩=>⟨b,s _ _ h1,s _ _ h2⟩
 | .each ..,h=>s _ _ h
 | .pair ..,h=>s _ _ h
 | .pick ..,h=>s _ _ h
 | .turn ..,⟨b,h1,h2⟩=>⟨b,s _ _ h1,h2.same s⟩
 | .flip ..,h=>s _ _ h
 | .cut ..,h=>s _ _ h
 | .spread ..,h=>s _ _ h
 | .lay ..,⟨b,h1,h2⟩=>⟨b,s _ _ h1,s _ _ h2⟩
 | .join ..,h=>s _ _ h
 | .fetch ..,h=>s _ _ h
 | .fold ..,h=>s _ _ h
 | .run ..,h=>s _ _ h
def bI(mo:Int)(ns:LI):Prop:=(∀n∈ns,0≤n/\n≤mo)/\ns.length≤6/\1≤ai (ns.map aF)/\ai (ns.map aF)≤mo
def cW(mo:Int):Prop:=2≤mo/\mo≤512
theorem gB(h:bI mo ns)(m:cW mo):fit ns:=⟨λ n hn=>by have:=h.1 n hn;have:=m.2;lia,h.2.1,h.2.2.1,gP h.2.2.2 m.2⟩
theorem qX(m:cW mo):bI mo []:=⟨(λ n hn=>nomatch hn),by decide,by decide,by have:=m.1;show(1:Int)≤mo;lia⟩
theorem uJ{mo n:Int}(h:bI mo ns)(l:ns.length < 6)(n0:0≤n)(hn:n≤mo / ai (ns.map aF)):bI mo (ns++[n]):=by
 have p:=h.2.2.1;have e:ai ((ns++[n]).map aF)=ai (ns.map aF) * aF n:=by rw[aY];exact oD _ _
 have o1:=kr n0;have d1:1≤mo / ai (ns.map aF):=div_one p h.2.2.2;have le:mo / ai (ns.map aF)≤mo:=qY _ (by have:=h.2.2.2;lia);have m2:ai (ns.map aF) * (mo / ai (ns.map aF))≤mo:=Al (by lia);generalize mo / ai (ns.map aF)=q at *;have o2:aF n≤q:=by unfold aF;split<;>lia
 have m1:=iC o2 (show 0≤ai (ns.map aF) by lia);refine⟨λ k hk=>?_,by rw[bu,gh];lia,?_,?_⟩
 ·rcases cZ.mp hk with z | z
  ·exact h.1 k z
  ·cases bL.mp z;lia
 ·rw[e];exact gP (by decide) (uE p o1 (by decide) (by lia))
 ·rw[e];lia
theorem Jd{ns ms:LI}(c:ms.length < ns.length):ns.take ms.length=ms.take ms.length ↔ bV ns ms:=by
 unfold bV;rw[if_pos c,cx]
theorem Je{ns ms:LI}(c:¬ms.length < ns.length):ns.take ns.length=ms.take ns.length ↔ bV ns ms:=by
 unfold bV;rw[if_neg c,cx];exact⟨Eq.symm,Eq.symm⟩
noncomputable def OkS(Ss:LL)(S:LI):Stp->Prop
 | .inp ms=>S=ms/\¬bS ms
 | .num _=>S=[]
 | .count ms k=>S=ms/\¬bS ms/\¬off ms k
 | .each w a=>Ss[a]?=some S/\w∈mV
 | .pair w a b=>∃A B,Ss[a]?=some A/\Ss[b]?=some B/\w∈two12/\bV A B/\S=aQ A B
 | .pick a b c=>∃A B C,Ss[a]?=some A/\Ss[b]?=some B/\Ss[c]?=some C/\bV A B/\bV (aQ A B) C/\S=aQ (aQ A B) C
 | .turn a os=>∃A,Ss[a]?=some A/\iO A.length os/\S=bX A os
 | .flip a side=>Ss[a]?=some S/\¬off S side
 | .cut a side f m g=>∃A,Ss[a]?=some A/\¬off A side/\¬bad A side f m g/\m≤512/\S=A.set side.toNat m
 | .spread a side m=>∃A,Ss[a]?=some A/\¬lB A side/\¬m < 0/\m≤512/\¬bS (ci A side.toNat m)/\S=ci A side.toNat m
 | .lay a ms=>∃A,Ss[a]?=some A/\¬bS ms/\ai A=ai ms/\S=ms
 | .join a b side=>∃A B,Ss[a]?=some A/\Ss[b]?=some B/\A.length=B.length/\¬off A side/\A.eraseIdx side.toNat=B.eraseIdx side.toNat/\¬bS (bW A B side)/\S=bW A B side
 | .fetch a b=>∃n r B,Ss[a]?=some (n::r)/\n≠0/\Ss[b]?=some B/\¬bS (B++r)/\S=B++r
 | .fold w a side=>∃A,Ss[a]?=some A/\isF w/\¬off A side/\S=A.eraseIdx side.toNat
 | .run w a side=>Ss[a]?=some S/\isF w/\¬off S side
theorem Jf(k:Int)(h0:0≤k)(h1:k < 7):∃x:Int,atI [V.int 2,V.int 3,V.int 1,V.int 4,V.int 2,V.int 3,V.int 0] k=some (.int x)/\0≤x:=by
 obtain⟨j,rfl⟩:∃j:Nat,k=j:=⟨k.toNat,by lia⟩
 match j,h1 with
 | 0,_=>exact⟨_,rfl,by decide⟩
 | 1,_=>exact⟨_,rfl,by decide⟩
 | 2,_=>exact⟨_,rfl,by decide⟩
 | 3,_=>exact⟨_,rfl,by decide⟩
 | 4,_=>exact⟨_,rfl,by decide⟩
 | 5,_=>exact⟨_,rfl,by decide⟩
 | 6,_=>exact⟨_,rfl,by decide⟩
 | m+7,h1=>exact absurd (mY.mp h1) (Nat.not_lt.mpr (uK ..))
def mZ(H:Hp)(r:Addr)(mo:Int)(Ss:LL):Prop:=∃p b s S,H r=some (.tup [.ref p,.ref b])/\StpAt H p s/\Tp H b S/\OkS Ss S s/\bI mo S
theorem gQ(h:bI mo ns):∀n∈ns,0≤n:=λ n hn=>(h.1 n hn).1
theorem Jg{n m:Int}(h:n≤m)(h1:1≤m):aF n≤m:=by unfold aF;split<;>lia
theorem Jh(h:bI mo ns)(m:cW mo):bI mo [ai ns]:=by
 have p:=dR (gQ h);have b:=h.2.2.2;have o:=kr p.1;have e:ai ([ai ns].map aF)=aF (ai ns):=by show ai [aF (ai ns)]=_;rw[cg];exact pE _
 refine⟨λ n hn=>?_,jR (bc _),by rw[e];exact o,by rw[e];exact Jg (by lia) (by have:=m.1;lia)⟩;cases bL.mp hn;lia
theorem Ji(h:bI mo ns)(m:cW mo)(l:ns.length < 6):bI mo (1::ns):=by
 have e:ai ((1::ns).map aF)=ai (ns.map aF):=by rw[fe,cg];exact oE _
 refine⟨λ n hn=>?_,by rw[List.length_cons];lia,by rw[e];exact h.2.2.1,by rw[e];exact h.2.2.2⟩
 rcases bE.mp hn with z | z
 ·have:=m.1;lia
 ·exact h.1 n z
theorem Jj(h:bI mo ns)(m:cW mo)(c:ai ns % 2=0):bI mo [ai ns / 2,2]/\ai [ai ns / 2,2]=ai ns:=by
 have p:=dR (gQ h);have b:=h.2.2.2;have m1:=m.1;have e:ai ([ai ns / 2,2].map aF)=aF (ai ns / 2) * 2:=by show ai [aF (ai ns / 2),2]=_;rw[cg,cg];show _ * (2 * 1)=_;rfl
 have e2:ai [ai ns / 2,2]=ai ns / 2 * 2:=by rw[cg,cg];show _ * (2 * 1)=_;rfl
 generalize ai ns=P at *;have o:1≤aF (P / 2)/\aF (P / 2) * 2≤mo:=by unfold aF;split<;>lia
 refine⟨⟨λ n hn=>?_,jR (jR (bc _)),by rw[e];lia,by rw[e];exact o.2⟩,by rw[e2];lia⟩
 rcases bE.mp hn with z | z
 ·lia
 ·cases bL.mp z;lia
theorem Jk(h:bI mo ns):bI mo ns.reverse/\ai ns.reverse=ai ns:=by
 have p:=List.reverse_perm ns;have e:=oN (p.map aF);exact⟨⟨λ n hn=>h.1 n (List.mem_reverse.mp hn),by rw[oC];exact h.2.1,by rw[e];exact h.2.2.1,by rw[e];exact h.2.2.2⟩,oN p⟩
theorem uL(h:bI mo ns)(m:cW mo):bq ns:=λ n hn=>by have:=h.1 n hn;have:=m.2;exact⟨by lia,by lia⟩
noncomputable def lC(ns:LI)(d:Int):LI:=if d % 4=1 then [ai ns] else if d % 4=2/\ns.length < 6 then 1::ns else if d % 4=3/\ai ns % 2=0 then [ai ns / 2,2] else ns.reverse
theorem Jl(h:bI mo ns)(m:cW mo):bI mo (lC ns d)/\ai (lC ns d)=ai ns:=by
 unfold lC;by_cases c1:d % 4=1
 ·rw[if_pos c1];exact⟨Jh h m,by rw[cg];exact pE _⟩
 rw[if_neg c1];by_cases c2:d % 4=2/\ns.length < 6
 ·rw[if_pos c2];exact⟨Ji h m c2.2,by rw[cg];exact oE _⟩
 rw[if_neg c2];by_cases c3:d % 4=3/\ai ns % 2=0
 ·rw[if_pos c3];exact Jj h m c3.2
 rw[if_neg c3];exact Jk h
def gR(A B:LI)(k:Nat):LI:=if A.length=B.length/\A.eraseIdx k=B.eraseIdx k then bW A B k else []
theorem Jm(i:Nat):upL (i+1)=upL i++[(i:Int)]:=by unfold upL;rw[oB,aY];rfl
theorem Jn{os:LI}(h:os.Perm (upL i)):(os.take j++(i:Int)::os.drop j).Perm (upL (i+1)):=by
 rw[Jm];refine List.Perm.trans List.perm_middle ?_;rw[ly];exact(h.cons _).trans (An _ _).symm
theorem Jo{ns os:LI}(h:bI mo ns)(t:iO ns.length os):bI mo (bX ns os):=by
 have p:=Ak t;have e:=oN (p.map aF);exact⟨λ n hn=>h.1 n (p.subset hn),by rw[p.length_eq];exact h.2.1,by rw[e];exact h.2.2.1,by rw[e];exact h.2.2.2⟩
noncomputable def Ao(K:FG):Sp:=λ vs H Q _=>∃(dl o:Addr) (kd mo d0 d1 d2:Int) (a:Nat) (A:LI) (Ss:LL),vs=[.int kd,.ref dl,.int (a:Int),.ref o,.int mo]/\H dl=some (.lst [.int d0,.int d1,.int d2])/\Tp H o A/\Ss[a]?=some A/\bI mo A/\cW mo/\∀H' r,Same H H'->mZ H' r mo Ss->Q (.ref r) H'
theorem Jp{A B:LI}(p:A.Perm B)(h:bI mo B):bI mo A:=by
 have e:=oN (p.map aF);exact⟨λ n hn=>h.1 n (p.subset hn),by rw[p.length_eq];exact h.2.1,by rw[e];exact h.2.2.1,by rw[e];exact h.2.2.2⟩
theorem Ap{mo x:Int}(h:bI mo A)(l:A.length < 6)(x0:0≤x)(x1:x≤mo / ai (A.map aF)):bI mo (ci A k x):=by
 refine Jp ?_ (uJ h l x0 x1);unfold ci;rw[iB];refine List.Perm.trans List.perm_middle ?_;show(x::(A.take k++A.drop k)).Perm _;rw[ly];exact(An _ _).symm
theorem kt(x:Int)(xs:LI):ai ((x::xs).map aF)=aF x * ai (xs.map aF):=by rw[fe];exact cg _ _
theorem Jq{ns:LI}(h:∀n∈ns,0≤n):∀n∈ns,n≤ai (ns.map aF):=by
 induction ns with
 | nil=>exact λ n hn=>nomatch hn
 | cons x xs ih =>
  intro n hn;have hx:=h x (bF ..);have ht:∀n∈xs,0≤n:=λ n hn=>h n (aM _ hn);have p:=qW ht;have o:=kr hx;rw[kt]
  rcases bE.mp hn with e | hn
  ·rw[e];have le:x≤aF x:=by unfold aF;split<;>lia
   have:=iC p (show 0≤aF x by lia);lia
  ·have:=ih ht n hn;have:=jt o (show 0≤ai (xs.map aF) by lia);lia
theorem Jr{ns:LI}(h:∀n∈ns,0≤n):∀ {k:Nat}{m:Int},0≤m->m≤ns.getD k 0->ai ((ns.set k m).map aF)≤ai (ns.map aF):=by
 induction ns with
 | nil=>intro k m _ _;rw[List.set_nil];exact kh _
 | cons x xs ih =>
  intro k m m0 m1;have hx:=h x (bF ..);have ht:∀n∈xs,0≤n:=λ n hn=>h n (aM _ hn);have p:=qW ht
  cases k with
  | zero =>
   have m1:m≤x:=m1;show ai ((m::xs).map aF)≤_;rw[kt,kt];exact jt (by unfold aF;split<;>split<;>lia) (by lia)
  | succ k =>
   have m1:m≤xs.getD k 0:=m1;show ai ((x::xs.set k m).map aF)≤_;rw[kt,kt];exact iC (ih ht m0 m1) (by have:=kr hx;lia)
theorem Js{ns:LI}(h:∀n∈ns,0≤n):∀ {k:Nat},ai ((ns.eraseIdx k).map aF)≤ai (ns.map aF):=by
 induction ns with
 | nil=>intro k;rw[List.eraseIdx_nil];exact kh _
 | cons x xs ih =>
  intro k;have hx:=h x (bF ..);have ht:∀n∈xs,0≤n:=λ n hn=>h n (aM _ hn);have p:=qW ht
  cases k with
  | zero =>
   show ai (xs.map aF)≤_;rw[kt];have:=jt (kr hx) (show 0≤ai (xs.map aF) by lia);lia
  | succ k =>
   show ai ((x::xs.eraseIdx k).map aF)≤_;rw[kt,kt];exact iC (ih ht) (by have:=kr hx;lia)
theorem uM{mo:Int}{ns:LI}(nn:∀n∈ns,0≤n)(l:ns.length≤6)(w:ai (ns.map aF)≤mo):bI mo ns:=⟨λ n hn=>⟨nn n hn,gP (Jq nn n hn) w⟩,l,qW nn,w⟩
theorem Jt{mo m:Int}(h:bI mo A)(m0:0≤m)(m1:m≤A.getD k 0):bI mo (A.set k m):=uM (λ n hn=>by rcases mQ hn with z | z;exact gQ h n z;rw[z];exact m0) (by rw[gJ];exact h.2.1) (gP (Jr (gQ h) m0 m1) h.2.2.2)
theorem Ju(h:bI mo A):bI mo (A.eraseIdx k):=uM (λ n hn=>gQ h n (Aq hn)) (dW (List.length_eraseIdx_le ..) h.2.1) (gP (Js (gQ h)) h.2.2.2)
theorem Jv{n f g e:Int}(n0:0≤n)(f0:0≤f)(g1:1≤g)(e0:0≤e):0≤(if (n - 1 - f).fdiv g+1 - e > 0 then (n - 1 - f).fdiv g+1 - e else 0)/\(if (n - 1 - f).fdiv g+1 - e > 0 then (n - 1 - f).fdiv g+1 - e else 0)≤n/\¬(0 < (if (n - 1 - f).fdiv g+1 - e > 0 then (n - 1 - f).fdiv g+1 - e else 0)/\n≤f+((if (n - 1 - f).fdiv g+1 - e > 0 then (n - 1 - f).fdiv g+1 - e else 0) - 1) * g):=by
 rw[kG _ (by lia)];have q1:g * ((n - 1 - f) / g)≤n - 1 - f:=Al (by lia);generalize (n - 1 - f) / g=q at *;split
 ·rename_i c;have a1:=jt (show q+1 - e - 1≤q by lia) (show 0≤g by lia);rw[ll q g] at a1;have a2:=iC g1 (show 0≤q+1 - e - 1 by lia);generalize (q+1 - e - 1) * g=z at *;exact⟨by lia,by lia,λ y=>by lia⟩
 ·exact⟨by lia,n0,λ y=>by lia⟩
theorem As(A:LI):bV A A:=(oH A A).mpr (Ia A)
theorem Au(h:bV x y)(l:y.length≤x.length):aQ x y=x:=by
 unfold aQ;split
 ·rfl
 ·exact(Ib ((oH x y).mp h) (by lia)).symm
theorem Av{x y:LI}(l:x.length < y.length):aQ x y=y:=by unfold aQ;rw[if_neg (by lia)]
theorem Jw(h:bV x z)(h2:bV y z):bV (aQ x y) z:=(oH _ _).mpr (Ic ((oH _ _).mp h) ((oH _ _).mp h2))
theorem uN{P:LI->Prop}(h:P x)(h2:P y):P (aQ x y):=by unfold aQ;split<;>assumption
def TpsM(H:Hp)(ps:List Addr)(Ss:LL):Prop:=ps.length=Ss.length/\∀(i:Nat) (p:Addr),ps[i]?=some p->∃S,Ss[i]?=some S/\Tp H p S
theorem TpsM.same(h:TpsM H ps Ss)(s:Same H H'):TpsM H' ps Ss:=⟨h.1,λ i p e=>let ⟨S,a,b⟩:=h.2 i p e;⟨S,a,s _ _ b⟩⟩
theorem gS(h:TpsM H ps Ss){a:Nat}(l:a < Ss.length):∃p S,atI (ps.map V.ref) (a:Int)=some (.ref p)/\Ss[a]?=some S/\Tp H p S:=by
 have l':a < ps.length:=by rw[h.1];exact l
 obtain⟨S,e,t⟩:=h.2 a _ (aX l');exact⟨_,S,aB (by rw[bA,aX l'];rfl),e,t⟩
def Sds(mo:Int)(Ss:LL):Prop:=Ss.length≤40/\∀S∈Ss,bI mo S
theorem uO(ws:List Str){k:Int}(h0:0≤k)(h1:k < (ws.length:Int)):∃w,atI (ws.map V.str) k=some (.str w)/\w∈ws:=by
 obtain⟨j,rfl⟩:∃j:Nat,k=j:=⟨k.toNat,by lia⟩;have jl:j < ws.length:=mY.mp h1;exact⟨ws[j],aB (by rw[bA,aX jl];rfl),jY jl⟩
theorem nc{k:Int}{n:Nat}(h:k∈upL n):∃a:Nat,k=a/\a < n:=⟨k.toNat,(ie (up_mem.mp h).1).symm,by have:=up_mem.mp h;lia⟩
theorem Jx{a n:Nat}(h:a < n):(a:Int)∈upL n:=up_mem.mpr ⟨qV _,mY.mpr h⟩
theorem Aw{K:FG}{ps:List Addr}{Ss:LL}{g:TG}{te:TE}{Q:VK}{H:Hp}(h1:H a=some (.lst (ps.map V.ref)))(l:Ss.length≤1000)(ht:TpsM H ps Ss)(f:LI->LI)(cs:L2.St)(h0:bU k js σ=none::cs)
  (hs:∀(p:Addr) (S:LI) (y:Option V) (G:Hp) (Rt:V->L2.St->Hp->Prop),S∈Ss->Same H G->Tp G p S->(∀G' r,Same G G'->Tp G' r (f S)->Rt (.ref r) (some (.ref p)::cs) G')->g (.ref p) (y::cs) G λ σ3 H3=>te σ3 H3 λ v H4=>Rt v σ3 H4)
  (hz:∀(qs:List Addr) (G:Hp) (p:Addr),Same H G->G p=none->TpsM G qs (Ss.map f)->Q (.ref p) (upd G p (.lst (qs.map V.ref)))):CompL K k js g te σ (.ref a) H Q:=by
 refine CompL.mk (xs:=ps.map V.ref) (.of h1) (λ i zs σ' G=>Same H G/\∃qs:List Addr,zs=qs.map V.ref/\i≤ps.length/\TpsM G qs ((Ss.take i).map f)/\∃y,σ'=y::cs) ⟨Same.refl _,[],rfl,bc _,⟨rfl,λ i p e=>nomatch e⟩,none,h0⟩ (λ i zs σ' G _ h=>.of (h.1 _ _ h1)) (λ i x zs σ' G e h=>?_) (λ zs σ' G h p hp=>?_)
 ·obtain⟨u,qs,rfl,i1,tq,y,rfl⟩:=h
  obtain⟨p,rfl,hp⟩:∃p,x=.ref p/\ps[i]?=some p:=by
   rw[bA] at e
   cases hx:ps[i]? with
   | none=>rw[hx] at e;cases e
   | some n=>rw[hx] at e;cases e;exact⟨n,rfl,rfl⟩
  have il:=(bv.mp hp).1;obtain⟨S,eS,hS⟩:=ht.2 i p hp;have ql:qs.length=i:=by rw[tq.1,aA,be,← ht.1];lia
  refine⟨by rw[aA,ql];exact bD (by rw[ht.1] at il;lia),hs p S y G _ (bw eS) u (u _ _ hS) λ G' r u' hr=>?_⟩;refine⟨u.trans u',qs++[r],by rw[aY];rfl,il,?_,_,rfl⟩;rw[cO,eS,aY];refine⟨by rw[bu,bu,tq.1];rfl,λ j p' ej=>?_⟩;by_cases c:j < qs.length
  ·rw[dw c] at ej;obtain⟨S',a1,a2⟩:=tq.2 j p' ej;exact⟨S',by rw[dw (by rw[← tq.1];exact c)];exact a1,u' _ _ a2⟩
  ·have jl:=(bv.mp ej).1;rw[bu,gh] at jl;have je:j=qs.length:=by lia
   rw[je,cS (aJ _),dF] at ej;cases ej;exact⟨f S,by rw[je,tq.1,cS (aJ _),dF];rfl,hr⟩
 ·obtain⟨u,qs,rfl,i1,tq,y,rfl⟩:=h;rw[aA,ht.1,cx] at tq;exact hz qs G p u hp tq
noncomputable def Ax:Sp:=λ vs H Q _=>∃(dl sl:Addr) (kd mo d0 d1 d2:Int) (ps:List Addr) (Ss:LL),vs=[.int kd,.ref dl,.ref sl]/\H dl=some (.lst [.int d0,.int d1,.int d2])/\H sl=some (.lst (ps.map V.ref))/\TpsM H ps Ss/\0 < Ss.length/\Sds mo Ss/\∀H' r,Same H H'->mZ H' r mo Ss->Q (.ref r) H'
noncomputable def Ay:Sp:=λ vs H Q _=>∃(dl sl:Addr) (kd mo d0 d1 d2:Int) (ps:List Addr) (Ss:LL),vs=[.int kd,.ref dl,.ref sl,.int mo]/\H dl=some (.lst [.int d0,.int d1,.int d2])/\H sl=some (.lst (ps.map V.ref))/\TpsM H ps Ss/\(∃S∈Ss,0 < S.length)/\11≤kd/\kd≤14/\Sds mo Ss/\cW mo/\∀H' r,Same H H'->mZ H' r mo Ss->Q (.ref r) H'
noncomputable def Az:Sp:=λ vs H Q _=>∃(sl:Addr) (cell mo:Int) (ps:List Addr) (Ss:LL),vs=[.int cell,.ref sl,.int mo]/\H sl=some (.lst (ps.map V.ref))/\TpsM H ps Ss/\Sds mo Ss/\cW mo/\∀H' r,Same H H'->mZ H' r mo Ss->Q (.ref r) H'
@[irreducible] def lw12p:List (Str × Pos):=[("add",⟨479,17,479,22⟩),("sub",⟨479,24,479,29⟩),("mul",⟨479,31,479,36⟩),("quo",⟨479,38,479,43⟩),("rest",⟨479,45,479,51⟩),("max",⟨479,53,479,58⟩),("min",⟨479,60,479,65⟩),("less",⟨479,67,479,73⟩),("like",⟨479,75,479,81⟩),("and",⟨479,83,479,88⟩),("or",⟨479,90,479,94⟩),("xor",⟨479,96,479,101⟩)]
theorem Jy:(lw12p.map (·.1)).map V.str=two12.map V.str:=by unfold lw12p;rfl
theorem Jz:((lw12p.map (·.1)).map V.str).length=12:=by unfold lw12p;rfl
def lgS(i:Nat):Stmt:=(df (top 98)).getD i (.Pass ⟨0,0,0,0⟩)
def JA:Stmt->Expr | .If t _ _ _=>t | _=>.Name "" ⟨0,0,0,0⟩
def JB:Stmt->Stmt | .If _ (_::b::_) _ _=>b | s=>s
theorem JC:df (top 98)=[lgS 0,lgS 1,lgS 2,lgS 3,lgS 4,lgS 5,.If (JA (lgS 6)) [.Assign [.Name "words" ⟨479,8,479,13⟩] (.List (yo lw12p) ⟨479,16,479,102⟩) ⟨479,8,479,102⟩,JB (lgS 6)] [] ⟨478,4,480,57⟩,lgS 7,lgS 8,lgS 9]:=by kernel_rfl
theorem ng{X:Cx}{K:FG}(hK:X.K=K):db X (.builtin "len") (λ xs H Q=>∃p ys,xs=[.ref p]/\(SqL K H p ys\/SqT K H p ys)/\Q (.int (ys.length:Nat)) H):=hK ▸ wZ
theorem AA{X:Cx}{K:FG}(hK:X.K=K)(hu:X.A.units < cLine):OpR X (compareOp .NotEq) (tI K):=hK ▸ qA hu
theorem AB{X:Cx}{K:FG}(hK:X.K=K):db X (.type "list") (λ xs H Q=>∃p ys,xs=[.ref p]/\(SqL K H p ys\/SqT K H p ys)/\∀l,H l=none->Q (.ref l) (upd H l (.lst ys))):=hK ▸ Ew
def UpT(H H':Hp):Prop:=(∀a xs,H a=some (.tup xs)->H' a=some (.tup xs))/\∀a o x,H a=some (.frz o x)->H' a=some (.frz o x)
theorem Frz.up{os:LI}(h:Frz H a os)(s:UpT H H'):Frz H' a os:=let ⟨o,e,d⟩:=h;⟨o,s.2 _ _ _ e,d⟩
theorem nh(s:Same H H'):UpT H H':=⟨λ _ _ e=>s _ _ e,λ _ _ _ e=>s _ _ e⟩
theorem UpT.trans(s:UpT H H')(t:UpT H' H2):UpT H H2:=⟨λ _ _ e=>t.1 _ _ (s.1 _ _ e),λ _ _ _ e=>t.2 _ _ _ (s.2 _ _ _ e)⟩
theorem jz{H:Hp}(h:H l=some (.lst xs)):UpT H (upd H l (.lst ys)):=by
 refine⟨λ a zs e=>?_,λ a o x e=>?_⟩ <;>
 ·have ne:a≠l:=λ z=>by rw[z,h] at e;cases e
  rw[bo ne];exact e
theorem StpAt.up(s:UpT H H'):∀ {d:Stp},StpAt H p d->StpAt H' p d
 | .inp _,⟨b,h1,h2⟩=>⟨b,s.1 _ _ h1,s.1 _ _ h2⟩
 | .num _,h=>s.1 _ _ h
 | .count ..,⟨b,h1,h2⟩=>⟨b,s.1 _ _ h1,s.1 _ _ h2⟩
 | .each ..,h=>s.1 _ _ h
 | .pair ..,h=>s.1 _ _ h
 | .pick ..,h=>s.1 _ _ h
 | .turn ..,⟨b,h1,h2⟩=>⟨b,s.1 _ _ h1,h2.up s⟩
 | .flip ..,h=>s.1 _ _ h
 | .cut ..,h=>s.1 _ _ h
 | .spread ..,h=>s.1 _ _ h
 | .lay ..,⟨b,h1,h2⟩=>⟨b,s.1 _ _ h1,s.1 _ _ h2⟩
 | .join ..,h=>s.1 _ _ h
 | .fetch ..,h=>s.1 _ _ h
 | .fold ..,h=>s.1 _ _ h
 | .run ..,h=>s.1 _ _ h
theorem TpsM.up(h:TpsM H ps Ss)(s:UpT H H'):TpsM H' ps Ss:=⟨h.1,λ i p e=>let ⟨S,a,b⟩:=h.2 i p e;⟨S,a,s.1 _ _ b⟩⟩
theorem TpsM.snoc(h:TpsM H ps Ss)(hp:Tp H p S):TpsM H (ps++[p]) (Ss++[S]):=by
 refine⟨by rw[bu,bu,h.1];rfl,λ j p' ej=>?_⟩;by_cases c:j < ps.length
 ·rw[dw c] at ej;obtain⟨S',a1,a2⟩:=h.2 j p' ej;exact⟨S',by rw[dw (by rw[← h.1];exact c)];exact a1,a2⟩
 ·have jl:=(bv.mp ej).1;rw[bu,gh] at jl;have je:j=ps.length:=by lia
  rw[je,cS (aJ _),dF] at ej;cases ej;exact⟨S,by rw[je,h.1,cS (aJ _),dF];rfl,hp⟩
def StL(H:Hp)(qs:List Addr)(ds:List Stp):Prop:=qs.length=ds.length/\∀(i:Nat) (p:Addr),qs[i]?=some p->∃d,ds[i]?=some d/\StpAt H p d
theorem StL.up(h:StL H qs ds)(s:UpT H H'):StL H' qs ds:=⟨h.1,λ i p e=>let ⟨d,a,b⟩:=h.2 i p e;⟨d,a,b.up s⟩⟩
theorem StL.snoc(h:StL H qs ds)(hp:StpAt H p d):StL H (qs++[p]) (ds++[d]):=by
 refine⟨by rw[bu,bu,h.1];rfl,λ j p' ej=>?_⟩;by_cases c:j < qs.length
 ·rw[dw c] at ej;obtain⟨S',a1,a2⟩:=h.2 j p' ej;exact⟨S',by rw[dw (by rw[← h.1];exact c)];exact a1,a2⟩
 ·have jl:=(bv.mp ej).1;rw[bu,gh] at jl;have je:j=qs.length:=by lia
  rw[je,cS (aJ _),dF] at ej;cases ej;exact⟨d,by rw[je,h.1,cS (aJ _),dF];rfl,hp⟩
noncomputable def fX(mo:Int)(ds:List Stp)(Ss:LL):Prop:=ds.length=Ss.length/\(∀S∈Ss,bI mo S)/\∀(i:Nat) (d:Stp) (S:LI),ds[i]?=some d->Ss[i]?=some S->OkS (Ss.take i) S d
theorem AC(h:fX mo ds Ss)(o:OkS Ss S d)(f:bI mo S):fX mo (ds++[d]) (Ss++[S]):=by
 refine⟨by rw[bu,bu,h.1];rfl,λ T hT=>?_,λ i d' S' e1 e2=>?_⟩
 ·rcases cZ.mp hT with z | z
  ·exact h.2.1 T z
  ·cases bL.mp z;exact f
 ·by_cases c:i < ds.length
  ·rw[dw c] at e1;have c':i < Ss.length:=by rw[← h.1];exact c
   rw[dw c'] at e2;rw[qQ (fP c')];exact h.2.2 i d' S' e1 e2
  ·have jl:=(bv.mp e1).1;rw[bu,gh] at jl;have je:i=ds.length:=by lia
   rw[je,cS (aJ _),dF] at e1;rw[je,h.1,cS (aJ _),dF] at e2;cases e1;cases e2;rw[je,h.1,qQ (aJ _),cx];exact o
theorem AD(mo:Int):fX mo [] []:=⟨rfl,(λ _ h=>nomatch h),(λ _ _ _ h=>nomatch h)⟩
noncomputable def JD(H:Hp)(r:Addr)(mo:Int)(ds:List Stp)(Ss:LL)(os:LI):Prop:=∃(st ot sl:Addr) (qs ps:List Addr),H r=some (.tup [.ref st,.ref ot,.ref sl])/\H st=some (.tup (qs.map V.ref))/\StL H qs ds/\H ot=some (.tup (os.map V.int))/\H sl=some (.lst (ps.map V.ref))/\TpsM H ps Ss/\fX mo ds Ss/\0 < ds.length/\ds.length≤40/\0 < os.length/\os.length≤8/\∀o∈os,0≤o/\o < (ds.length:Int)
noncomputable def AE:Sp:=λ vs H Q _=>∃(a:Addr) (cs:LI) (mo:Int),vs=[.ref a,.int mo]/\H a=some (.lst (cs.map V.int))/\cs.length≤40/\cW mo/\∀H' r ds Ss os,Same H H'->JD H' r mo ds Ss os->Q (.ref r) H'
theorem AF(h:¬gR A B k=[]):A.length=B.length/\A.eraseIdx k=B.eraseIdx k/\gR A B k=bW A B k:=by
 unfold gR at h ⊢;split
 ·rename_i c;exact⟨c.1,c.2,rfl⟩
 ·rename_i c;rw[if_neg c] at h;exact absurd rfl h
theorem AG{ns:LI}{m:Int}(h:∀n∈ns,0≤n/\n≤m)(m0:0≤m)(k:Nat):0≤ns.getD k 0/\ns.getD k 0≤m:=by
 by_cases c:k < ns.length
 ·exact h _ (oK c)
 ·rw[cy,hZ (by lia)];exact⟨kh _,m0⟩
noncomputable def Md(kd:Int)(A:LI)(k:Nat)(Ss Ms:LL):Prop:=(kd=11/\Ms=Ss.map (λ B=>gR A B k))\/(kd=12/\0 < A.getD 0 0/\Ms=Ss.map (λ B=>B++A.drop 1))\/(¬kd=11/\¬0 < A.getD 0 0/\Ms=[[]])
theorem JE(h:Md kd A k Ss Ms)(l:Ss.length≤40):Ms.length≤40:=by
 rcases h with ⟨_,rfl⟩ | ⟨_,_,rfl⟩ | ⟨_,_,rfl⟩
 ·rw[aA];exact l
 ·rw[aA];exact l
 ·exact jR (bc _)
theorem JF(h:Md kd A k Ss Ms)(fA:bI mo A)(fS:∀S∈Ss,bI mo S)(m:cW mo):∀M∈Ms,∀n∈M,0≤n/\n≤1024:=by
 have m2:=m.2;have m1:=m.1
 rcases h with ⟨_,rfl⟩ | ⟨_,_,rfl⟩ | ⟨_,_,rfl⟩
 ·intro M hM n hn;obtain⟨B,hB,rfl⟩:=dL.mp hM;by_cases c:gR A B k=[]
  ·rw[c] at hn;exact nomatch hn
  ·rw[(AF c).2.2] at hn;unfold bW at hn
   rcases mQ hn with z | z
   ·have:=fA.1 n z;lia
   ·have a1:=AG fA.1 (show 0≤mo by lia) (k:Int).toNat
    have a2:=AG (fS B hB).1 (show 0≤mo by lia) (k:Int).toNat
    lia
 ·intro M hM n hn;obtain⟨B,hB,rfl⟩:=dL.mp hM
  rcases cZ.mp hn with z | z
  ·have:=(fS B hB).1 n z;lia
  ·have:=fA.1 n (oI z);lia
 ·intro M hM n hn;cases bL.mp hM;exact nomatch hn
theorem JG{M:LI}(h:∀n∈M,0≤n/\n≤1024):bq M:=λ n hn=>by have:=h n hn;exact⟨this.1,by lia⟩
theorem JH(k:Int)(h0:0≤k)(h1:k < 6):∃x:Int,atI [V.int 1,V.int 2,V.int 3,V.int 2,V.int 1,V.int 8] k=some (.int x)/\1≤x/\x≤8:=by
 obtain⟨j,rfl⟩:∃j:Nat,k=j:=⟨k.toNat,by lia⟩
 match j,h1 with
 | 0,_=>exact⟨_,rfl,by decide,by decide⟩
 | 1,_=>exact⟨_,rfl,by decide,by decide⟩
 | 2,_=>exact⟨_,rfl,by decide,by decide⟩
 | 3,_=>exact⟨_,rfl,by decide,by decide⟩
 | 4,_=>exact⟨_,rfl,by decide,by decide⟩
 | 5,_=>exact⟨_,rfl,by decide,by decide⟩
 | m+6,h1=>exact absurd (mY.mp h1) (Nat.not_lt.mpr (uK ..))
theorem JI{M:LI}(m:cW mo)(l:M.length≤6)(w:ai (M.map aF)≤mo):¬bS M:=λ z=>z.elim (by lia) (by have:=m.2;lia)
theorem JJ{Ss:LL}{M:Int}(h:M∈Ss.map (λ S=>(S.length:Int)))(h0:0 < M):∃S∈Ss,0 < S.length:=by
 obtain⟨S,hS,rfl⟩:=dL.mp h;exact⟨S,hS,by lia⟩
theorem JK{os:LI}{n:Nat}(h:∀o∈os,0≤o/\o < (n:Int))(n0:0 < n):∀o∈os.set j ((n:Int) - 1),0≤o/\o < (n:Int):=λ o ho=>by
 rcases mQ ho with z | z
 ·exact h o z
 ·lia
noncomputable def kdN:Stp->Nat
 | .inp ..=>0 | .num ..=>1 | .count ..=>2 | .each ..=>3 | .pair ..=>4 | .pick ..=>5 | .turn ..=>6 | .flip ..=>7 | .cut ..=>8 | .spread ..=>9 | .lay ..=>10 | .join ..=>11 | .fetch ..=>12 | .fold ..=>13 | .run ..=>14
theorem bQ(d:Stp):kdN d < 15:=by cases d<;>exact eG rfl
noncomputable def cP:Stp->List Nat
 | .inp ..=>[] | .num ..=>[] | .count ..=>[]
 | .each _ a=>[a] | .pair _ a b=>[a,b] | .pick a b c=>[a,b,c]
 | .turn a _=>[a] | .flip a _=>[a] | .cut a ..=>[a] | .spread a ..=>[a] | .lay a _=>[a]
 | .join a b _=>[a,b] | .fetch a b=>[a,b] | .fold _ a _=>[a] | .run _ a _=>[a]
theorem AH:∀i j:Fin 15,aL i.val=aL j.val->i=j:=by decide +kernel
theorem kw{i:Nat}(j:Nat)(hi:i < 15)(hj:j < 15)(ne:¬i=j):¬V.str (aL i)=V.str (aL j):=λ z=>ne (dA Fin.val (AH ⟨i,hi⟩ ⟨j,hj⟩ (V.str.inj z)))
theorem cX{i:Nat}(j:Nat)(hi:i < 15)(hj:j < 15)(ne:¬i=j):¬aL i=aL j:=λ z=>ne (dA Fin.val (AH ⟨i,hi⟩ ⟨j,hj⟩ z))
def nmV(ns:List Nat):List V:=ns.map λ a=>V.int ((a:Nat):Int)
theorem ig(h:StpAt H p d):∃xs,H p=some (.tup xs)/\xs[0]?=some (.str (aL (kdN d)))/\(∀q∈gy (kdN d),0≤q/\q < (xs.length:Int))/\mX xs (gy (kdN d))=nmV (cP d):=by
 rw[IZ (bQ d)]
 cases d with
 | inp ms=>obtain⟨b,h,_⟩:=h;exact⟨_,h,rfl,eG rfl,rfl⟩
 | num n=>exact⟨_,h,rfl,eG rfl,rfl⟩
 | count ms k=>obtain⟨b,h,_⟩:=h;exact⟨_,h,rfl,eG rfl,rfl⟩
 | each w a=>exact⟨_,h,rfl,eG rfl,rfl⟩
 | pair w a b=>exact⟨_,h,rfl,eG rfl,rfl⟩
 | pick a b c=>exact⟨_,h,rfl,eG rfl,rfl⟩
 | turn a os=>obtain⟨b,h,_⟩:=h;exact⟨_,h,rfl,eG rfl,rfl⟩
 | flip a s=>exact⟨_,h,rfl,eG rfl,rfl⟩
 | cut a s f m g=>exact⟨_,h,rfl,eG rfl,rfl⟩
 | spread a s m=>exact⟨_,h,rfl,eG rfl,rfl⟩
 | lay a ms=>obtain⟨b,h,_⟩:=h;exact⟨_,h,rfl,eG rfl,rfl⟩
 | join a b s=>exact⟨_,h,rfl,eG rfl,rfl⟩
 | fetch a b=>exact⟨_,h,rfl,eG rfl,rfl⟩
 | fold w a s=>exact⟨_,h,rfl,eG rfl,rfl⟩
 | run w a s=>exact⟨_,h,rfl,eG rfl,rfl⟩
def AI:Stp->Prop
 | .each w _=>w∈mV | .pair w _ _=>w∈two12 | .fold w _ _=>isF w | .run w _ _=>isF w | _=>True
theorem JL(h:OkS Ss S d):AI d:=by
 cases d with
 | each w a=>exact h.2
 | pair w a b=>obtain⟨A,B,_,_,z,_⟩:=h;exact z
 | fold w a s=>obtain⟨A,_,z,_⟩:=h;exact z
 | run w a s=>exact h.2.1
 | _=>trivial
theorem qZ(h:OkS Ss S d):∀a∈cP d,a < Ss.length:=by
 have g:∀ {a:Nat}{A:LI},Ss[a]?=some A->a < Ss.length:=λ e=>(bv.mp e).1;intro x hx
 cases d with
 | inp ms=>exact nomatch hx
 | num n=>exact nomatch hx
 | count ms k=>exact nomatch hx
 | each w a=>cases bL.mp hx;exact g h.1
 | pair w a b =>
  obtain⟨A,B,e1,e2,_⟩:=h
  rcases bE.mp hx with z | z
  ·rw[z];exact g e1
  ·cases bL.mp z;exact g e2
 | pick a b c =>
  obtain⟨A,B,C,e1,e2,e3,_⟩:=h
  rcases bE.mp hx with z | z
  ·rw[z];exact g e1
  rcases bE.mp z with z | z
  ·rw[z];exact g e2
  ·cases bL.mp z;exact g e3
 | turn a os=>obtain⟨A,e1,_⟩:=h;cases bL.mp hx;exact g e1
 | flip a s=>cases bL.mp hx;exact g h.1
 | cut a s f m gg=>obtain⟨A,e1,_⟩:=h;cases bL.mp hx;exact g e1
 | spread a s m=>obtain⟨A,e1,_⟩:=h;cases bL.mp hx;exact g e1
 | lay a ms=>obtain⟨A,e1,_⟩:=h;cases bL.mp hx;exact g e1
 | join a b s =>
  obtain⟨A,B,e1,e2,_⟩:=h
  rcases bE.mp hx with z | z
  ·rw[z];exact g e1
  ·cases bL.mp z;exact g e2
 | fetch a b =>
  obtain⟨n,r,B,e1,_,e2,_⟩:=h
  rcases bE.mp hx with z | z
  ·rw[z];exact g e1
  ·cases bL.mp z;exact g e2
 | fold w a s=>obtain⟨A,e1,_⟩:=h;cases bL.mp hx;exact g e1
 | run w a s=>cases bL.mp hx;exact g h.1
theorem uP(d:Stp):(cP d).length≤3:=by cases d<;>exact Nat.le_of_sub_eq_zero rfl
theorem inv_at:(kdN d=0->∃ms,d=.inp ms)/\(kdN d=2->∃ms k,d=.count ms k)/\(kdN d=3->∃w a,d=.each w a)/\(kdN d=4->∃w a b,d=.pair w a b)/\(kdN d=6->∃a os,d=.turn a os)/\(kdN d=7->∃a s,d=.flip a s)/\(kdN d=8->∃a s f m g,d=.cut a s f m g)/\(kdN d=9->∃a s m,d=.spread a s m)/\(kdN d=10->∃a ms,d=.lay a ms)/\(kdN d=11->∃a b s,d=.join a b s)/\(kdN d=12->∃a b,d=.fetch a b)/\(kdN d=13->∃w a s,d=.fold w a s)/\(kdN d=14->∃w a s,d=.run w a s):=by
 cases d<;>refine⟨?_,?_,?_,?_,?_,?_,?_,?_,?_,?_,?_,?_,?_⟩<;>intro c<;>first | exact absurd c (oO rfl) | exact⟨_,rfl⟩ | exact⟨_,_,rfl⟩ | exact⟨_,_,_,rfl⟩ | exact⟨_,_,_,_,_,rfl⟩
def AJ:Sp:=λ vs H Q _=>∃(p:Addr) (d:Stp),vs=[.ref p]/\StpAt H p d/\AI d/\∀H',Same H H'->Q .non H'
noncomputable def AK:Sp:=λ vs H Q _=>∃(p:Addr) (d:Stp) (S:LI) (Ss:LL),vs=[.ref p]/\StpAt H p d/\kdN d < 3/\OkS Ss S d/\fit S/\∀H' r,Same H H'->Tp H' r S->Q (.ref r) H'
noncomputable def AL:Sp:=λ vs H Q _=>∃(p o:Addr) (d:Stp) (S A:LI) (Ss:LL) (a:Nat),vs=[.ref p,.ref o]/\StpAt H p d/\cP d=[a]/\Ss[a]?=some A/\Tp H o A/\fit A/\OkS Ss S d/\fit S/\∀H' r,Same H H'->Tp H' r S->Q (.ref r) H'
noncomputable def AM:Sp:=λ vs H Q _=>∃(p s:Addr) (d:Stp) (S:LI) (Ss:LL) (ps:List Addr),vs=[.ref p,.ref s]/\StpAt H p d/\(H s=some (.lst (ps.map V.ref))\/H s=some (.tup (ps.map V.ref)))/\TpsM H ps Ss/\(∀T∈Ss,fit T)/\OkS Ss S d/\fit S/\∀H' r,Same H H'->Tp H' r S->Q (.ref r) H'
def UsAt(G:Hp)(us:List Addr)(ns:List Nat)(Ss:LL):Prop:=us.length=ns.length/\∀(i a:Nat),ns[i]?=some a->∃u A,us[i]?=some u/\Ss[a]?=some A/\Tp G u A
theorem UsAt.same(h:UsAt G us ns Ss)(s:Same G G'):UsAt G' us ns Ss:=⟨h.1,λ i a e=>let ⟨u,A,e1,e2,e3⟩:=h.2 i a e;⟨u,A,e1,e2,s _ _ e3⟩⟩
theorem iP(h:UsAt G us ns Ss)(i:Nat)(e:ns[i]?=some a)(eA:Ss[a]?=some A):∃u,atI (us.map V.ref) (i:Int)=some (.ref u)/\Tp G u A:=by
 obtain⟨u,A',e1,e2,e3⟩:=h.2 i a e;cases e2.symm.trans eA;exact⟨u,aB (by rw[bA,e1];rfl),e3⟩
theorem JM{a:Nat}(h:UsAt G us ns Ss)(eA:Ss[a]?=some A)(hu:Tp G u A):UsAt G (us++[u]) (ns++[a]) Ss:=by
 refine⟨by rw[bu,bu,h.1];rfl,λ i b e=>?_⟩;by_cases c:i < ns.length
 ·rw[dw c] at e;obtain⟨v,B,e1,e2,e3⟩:=h.2 i b e;exact⟨v,B,by rw[dw (by rw[h.1];exact c)];exact e1,e2,e3⟩
 ·have jl:=(bv.mp e).1;rw[bu,gh] at jl;have je:i=ns.length:=by lia
  rw[je,cS (aJ _),dF] at e;cases e;exact⟨u,A,by rw[je,← h.1,cS (aJ _),dF];rfl,eA,hu⟩
theorem uQ{i:Nat}(e:(nmV ns)[i]?=some x):∃a:Nat,x=.int (a:Int)/\ns[i]?=some a:=by
 unfold nmV at e;rw[bA] at e
 cases hx:ns[i]? with
 | none=>rw[hx] at e;cases e
 | some n=>rw[hx] at e;cases e;exact⟨n,rfl,rfl⟩
theorem uR(ns:List Nat):(nmV ns).length=ns.length:=aA ..
theorem JN(h:(cP d).length=0):kdN d < 3:=by
 cases d<;>first | exact eG rfl | exact absurd h (Nat.succ_ne_zero _)
theorem JO(h:(cP d).length=1):∃a,cP d=[a]:=by
 match cP d,h with
 | [a],_=>exact⟨a,rfl⟩
noncomputable def AN:Sp:=λ vs H Q _=>∃(p s:Addr) (d:Stp) (S:LI) (Ss:LL) (ps:List Addr),vs=[.ref p,.ref s]/\StpAt H p d/\H s=some (.lst (ps.map V.ref))/\TpsM H ps Ss/\(∀T∈Ss,fit T)/\Ss.length < 40/\OkS Ss S d/\fit S/\∀H' r t,Same H H'->H' r=some (.tup [.ref t,.non])->Tp H' t S->Q (.ref r) H'
def rep(n:Nat):List Bool:=List.replicate n false
theorem AO(n:Nat):(rep (n+1)).map V.bl=(rep n).map V.bl++[V.bl false]:=by unfold rep;rw[List.replicate_succ',aY];rfl
theorem AQ(n:Nat):(rep n).length=n:=pT ..
theorem AR(n:Nat):(rep n).any id=false:=by
 unfold rep;rw[List.any_eq_false];intro x hx;rw[List.eq_of_mem_replicate hx];exact cI
noncomputable def oP(H:Hp)(r:Addr)(ds:List Stp)(os:LI):Prop:=∃(st ot:Addr) (qs:List Addr),H r=some (.tup [.ref st,.ref ot])/\H st=some (.tup (qs.map V.ref))/\StL H qs ds/\H ot=some (.tup (os.map V.int))
noncomputable def lD(mo:Int)(ds:List Stp)(Ss:LL)(os:LI):Prop:=cW mo/\fX mo ds Ss/\0 < ds.length/\ds.length≤40/\0 < os.length/\os.length≤8/\∀o∈os,0≤o/\o < (ds.length:Int)
noncomputable def AS:Sp:=λ vs H Q _=>∃(r:Addr) (ds:List Stp) (Ss:LL) (os:LI) (mo:Int),vs=[.ref r]/\oP H r ds os/\lD mo ds Ss os/\∀H' r' t ps,Same H H'->H' r'=some (.tup [.ref t,.non])->H' t=some (.tup (ps.map V.ref))->TpsM H' ps Ss->Q (.ref r') H'
noncomputable def AT:Sp:=λ vs H Q _=>∃(r:Addr) (ds:List Stp) (Ss:LL) (os:LI) (mo:Int),vs=[.ref r]/\oP H r ds os/\lD mo ds Ss os/\∀H' t ps,Same H H'->H' t=some (.tup (ps.map V.ref))->TpsM H' ps Ss->Q (.ref t) H'
theorem TpsM.snocT{Ss:LL}(h:TpsM H ps (Ss.take i))(e:Ss[i]?=some S)(hp:Tp H p S):TpsM H (ps++[p]) (Ss.take (i+1)):=by
 rw[cO,e];exact h.snoc hp
theorem AU(h:fX mo ds Ss)(m:cW mo):∀T∈Ss,fit T:=λ T hT=>gB (h.2.1 T hT) m
theorem oQ(h:fit A):sm A:=λ n hn=>by have:=h.1 n hn;exact⟨by lia,by lia⟩
theorem TpsM.take(h:TpsM H ps Ss)(k:Nat):TpsM H (ps.take k) (Ss.take k):=by
 refine⟨by rw[be,be,h.1],λ i p e=>?_⟩;by_cases c:i < k
 ·rw[eZ c] at e;obtain⟨S,a,b⟩:=h.2 i p e;exact⟨S,by rw[eZ c];exact a,b⟩
 ·rw[hZ (by rw[be];lia)] at e;cases e
theorem JP(k:Nat)(g:dq ns ms):dq (ns.eraseIdx k) (ms.eraseIdx k):=by
 obtain⟨l,g⟩:=g;refine⟨by rw[rd,rd,l],λ i m n em en=>?_⟩;rw[lu] at em en;split at em
 ·rename_i c;rw[if_pos c] at en;exact g i m n em en
 ·rename_i c;rw[if_neg c] at en;exact g (i+1) m n em en
theorem JQ{ns:LI}{k:Nat}(h:k≤ns.length):(ci ns k m).eraseIdx k=ns:=by
 unfold ci;rw[iB,List.eraseIdx_append_of_length_le (by rw[be];lia),be,kZ h,dF];show ns.take k++ns.drop k=ns;exact ly _ _
theorem re{ns ms at_:LI}{k:Nat}{y w:Int}(g:dq ns at_)(l:ms.length=ns.length)(e:∀j,j≠k->ms[j]?=ns[j]?)(hw:ms[k]?=some w)(h0:0≤y)(h1:y < w):dq ms (at_.set k y):=by
 refine⟨by rw[gJ,l];exact g.1,λ i m n em en=>?_⟩;by_cases c:i=k
 ·subst c;have il:=(bv.mp em).1;rw[gJ] at il;rw[lO il] at em;rw[hw] at en;cases em;cases en;exact⟨h0,h1⟩
 ·rw[nD (λ z=>c z.symm)] at em;rw[e i c] at en;exact g.2 i m n em en
theorem oR(w:Str):inB (bC w):=by
 unfold bC inB
 repeat' split
 all_goals lia
theorem AW{w:Str}(h:w∈fw):w∈tw:=by
 simp only[fw,tw,bE,cU,cL] at *
 rcases h with h | h | h | h | h | h | h<;>simp[h]
theorem JR(x:Int){y:Int}(hy:y < 0):y < Int.fmod x y/\Int.fmod x y≤0:=by
 have h1:Int.fmod x y=-(Int.fmod (-x) (-y)):=by
  rw[Int.fmod_def,Int.fmod_def,Int.neg_fdiv_neg,Int.neg_mul];lia
 have h2:=fz (-x) (show 0 < -y by lia);have h3:=fK (-x) (show 0 < -y by lia);lia
theorem JS(x:Int){y:Int}(hy:y≠0):(0 < y->0≤Int.fmod x y/\Int.fmod x y < y)/\(y < 0->y < Int.fmod x y/\Int.fmod x y≤0) :=
 ⟨λ h=>⟨fz x h,fK x h⟩,λ h=>JR x h⟩
theorem lE(n:Int):inB (dy n):=by unfold dy inB;lia
theorem JT:inB (mT x y):=by
 unfold mT;split
 ·exact⟨by decide,by decide⟩
 ·exact lE _
theorem JU(hx:inB x)(hy:inB y):inB (mU x y):=by
 unfold mU;unfold inB at *;split
 ·exact hx
 ·rename_i h;have r:=JS x h
  rcases(show 0 < y\/y < 0 by lia) with p | p
  ·have:=r.1 p;lia
  ·have:=r.2 p;lia
section
variable {band:Int->Int->Int}
variable (hv:∀x y,band x y=2 * band (x / 2) (y / 2)+(if x % 2=1/\y % 2=1 then 1 else 0))
include hv
theorem JV(h00:band 0 0=0)(h01:band 0 (-1)=0)(h10:band (-1) 0=0)(h11:band (-1) (-1)=-1)(n:Nat):∀x y:Int,-2 ^ n≤x->x < 2 ^ n->-2 ^ n≤y->y < 2 ^ n ->
  (-2 ^ n≤band x y/\band x y < 2 ^ n)/\(-2 ^ n≤x+y - band x y/\x+y - band x y < 2 ^ n)/\(-2 ^ n≤x+y - 2 * band x y/\x+y - 2 * band x y < 2 ^ n):=by
 induction n with
 | zero =>
  intro x y a b c d;simp at a b c d;have hx:x=0\/x=-1:=by lia
  have hy:y=0\/y=-1:=by lia
  rcases hx with hx | hx<;>rcases hy with hy | hy<;>subst hx<;>subst hy<;>simp[h00,h01,h10,h11]
 | succ n ih =>
  intro x y a b c d;rw[Int.pow_succ] at *;have h:=ih (x / 2) (y / 2) (by lia) (by lia) (by lia) (by lia);have e:=hv x y;split at e<;>lia
end
theorem rf{w:Str}(hw:w∈(["max","min","less","like"]:List Str))(hx:inB x)(hy:inB y):w∈tw/\inB (bH w x y):=by
 simp only[bE,cU,cL] at hw;unfold inB at *
 rcases hw with rfl | rfl | rfl | rfl
 ·refine⟨by simp[tw],?_⟩;rw[Ix];split<;>lia
 ·refine⟨by simp[tw],?_⟩;rw[Iy];split<;>lia
 ·refine⟨by simp[tw],?_⟩;rw[Iz];split<;>lia
 ·refine⟨by simp[tw],?_⟩;rw[IA];split<;>lia
theorem uS(hx:inB x)(hy:inB y):inB (Builtin.bitAnd x y)/\inB (Builtin.bitOr x y)/\inB (Builtin.bitXor x y):=by
 have h:=JV W.kbt_halves (by decide) (by decide) (by decide) (by decide) 63 x y;unfold inB at *;rw[bitOr_and,bitXor_and];have e:(2:Int) ^ 63=9223372036854775808:=by decide
 rw[e] at h;exact h hx.1 (by lia) hy.1 (by lia)
theorem uT{w:Str}(hw:w∈tw)(hx:inB x)(hy:inB y):inB (bH w x y):=by
 simp only[tw,bE,cU,cL] at hw
 rcases hw with rfl | rfl | rfl | rfl | rfl | rfl | rfl | rfl | rfl | rfl | rfl | rfl
 ·rw[Iq];exact lE _
 ·rw[Ir];exact lE _
 ·rw[Iu];exact lE _
 ·rw[Iv];exact JT
 ·rw[Iw];exact JU hx hy
 ·exact(rf (by simp) hx hy).2
 ·exact(rf (by simp) hx hy).2
 ·exact(rf (by simp) hx hy).2
 ·exact(rf (by simp) hx hy).2
 ·rw[IB];exact(uS hx hy).1
 ·rw[IC];exact(uS hx hy).2.1
 ·rw[ID];exact(uS hx hy).2.2
theorem sv{A:LI}{k:Nat}(hk:k≤A.length)(i:Nat):(ci A k y)[i]?=if i < k then A[i]? else if i=k then some y else A[i - 1]?:=by
 unfold ci;have tl:(A.take k).length=k:=by rw[be];lia
 split
 ·rename_i h;rw[iB,dw (by lia),s0t,if_pos h]
 ·rename_i h;rw[iB,cS (by lia),tl];split
  ·rename_i e;subst e;rw[dF];rfl
  ·rename_i e;obtain⟨m,hm⟩:∃m,i - k=m+1:=⟨i - k - 1,by lia⟩;rw[hm];show(A.drop k)[m]?=_;rw[List.getElem?_drop];congr 1;lia
theorem JW{ns A:LI}{k:Nat}{y:Int}(hk:k < ns.length)(g:dq (ns.eraseIdx k) A)(h0:0≤y)(h1:y < ns.getD k 0):dq ns (ci A k y):=by
 obtain⟨l,g⟩:=g;have el:(ns.eraseIdx k).length=ns.length - 1:=by rw[rd,if_pos hk]
 have kl:k≤A.length:=by lia
 refine⟨by rw[uI];lia,λ i m n em en=>?_⟩;rw[sv kl] at em;split at em
 ·rename_i c;exact g i m n em (by rw[lu,if_pos c];exact en)
 ·split at em
  ·rename_i c e;subst e;cases em;rw[gx hk] at en;cases en;exact⟨h0,h1⟩
  ·rename_i c e;refine g (i - 1) m n em ?_;rw[lu,if_neg (by lia),show i - 1+1=i by lia];exact en
theorem AX:∀ {ns:LI}{k:Nat},(∀n∈ns,0≤n)->ai ((ns.eraseIdx k).map aF)≤ai (ns.map aF)
 | [],_,_=>by simp
 | n::ns,0,h=>by
  have n0:=h n bF;have p:=dR λ m hm=>h m (aM _ hm);show ai (ns.map aF)≤_;rw[fe,cg];have:1 * ai (ns.map aF)≤aF n * ai (ns.map aF):=jt (by unfold aF;split<;>lia) (by lia);lia
 | n::ns,k+1,h=>by
  have n0:=h n bF;have ih:=AX (ns:=ns) (k:=k) (λ m hm=>h m (aM _ hm));show ai ((n::ns.eraseIdx k).map aF)≤_;rw[fe,fe,cg,cg];exact iC ih (by unfold aF;split<;>lia)
theorem AY:∀ {ns:LI}{k:Nat},k < ns.length->(stL ns ns.length).reverse[k]?=some (ai (ns.drop (k+1)))
 | [],_,h=>by simp at h
 | n::ns,0,_=>by rw[uC];rfl
 | n::ns,k+1,h=>by rw[uC];exact AY (ns:=ns) (k:=k) (by simpa using h)
noncomputable def fD(w:Str)(b st n:Int)(cs:LI):Nat->LI
 | 0=>[]
 | j+1=>fD w b st n cs j++[bH w (if (j:Int) / st % n=0 then b else (fD w b st n cs j).getD ((j:Int) - st).toNat 0) (cs.getD j 0)]
theorem uU(w:Str)(b st n:Int)(cs:LI):∀j,(fD w b st n cs j).length=j
 | 0=>rfl
 | j+1=>by show(_++[_]).length=_;rw[bu,uU w b st n cs j];rfl
theorem uV{w:Str}{b st n:Int}{cs:LI}(hw:w∈fw)(hb:inB b)(hc:∀c∈cs,inB c):∀ {j:Nat},j≤cs.length->∀c∈fD w b st n cs j,inB c
 | 0,_,c,h=>nomatch h
 | j+1,hj,c,h=>by
  have ih:=uV (b:=b) (st:=st) (n:=n) hw hb hc (j:=j) (by lia)
  rcases cZ.mp h with h | h
  ·exact ih c h
  ·cases bL.mp h;refine uT (AW hw) ?_ (hc _ (getD_mem (by lia)));split
   ·exact hb
   ·by_cases l:((j:Int) - st).toNat < (fD w b st n cs j).length
    ·exact ih _ (getD_mem l)
    ·rw[cy,hZ (by lia)];exact⟨by decide,by decide⟩
def lF(w:Str)(b:Int)(ns cs:LI)(k:Nat)(A:LI):Nat->Int
 | 0=>b
 | j+1=>bH w (lF w b ns cs k A j) (cs.getD (plH ns (ci A k (j:Int))).toNat 0)
theorem uW{w:Str}{ns cs A:LI}(hw:w∈fw)(hb:inB b)(hc:∀c∈cs,inB c):∀j,inB (lF w b ns cs k A j)
 | 0=>hb
 | j+1=>by
  refine uT (AW hw) (uW hw hb hc j) ?_;by_cases l:(plH ns (ci A k (j:Int))).toNat < cs.length
  ·exact hc _ (getD_mem l)
  ·rw[cy,hZ (by lia)];exact⟨by decide,by decide⟩
noncomputable def oS(w:Str)(ns cs:LI)(k:Nat):LI:=(List.range (ai (ns.eraseIdx k)).toNat).map λ i:Nat=>lF w (bC w) ns cs k (atD (ns.eraseIdx k) (i:Int)) (ns.getD k 0).toNat
def kx(w:Str)(ns cs:LI)(k:Nat):LI:=fD w (bC w) (ai (ns.drop (k+1))) (ns.getD k 0) cs cs.length
theorem uX:∀ {ns:LI}{k:Nat}{v:Int},(∀n∈ns,0≤n)->0≤v->v≤ns.getD k 0->ai ((ns.set k v).map aF)≤ai (ns.map aF)
 | [],_,_,_,_,_=>by simp
 | n::ns,0,v,h,h0,h1=>by
  have n0:=h n bF;have h1:v≤n:=h1;show ai ((v::ns).map aF)≤_;rw[fe,fe,cg,cg];have p:=dR λ m hm=>h m (aM _ hm);exact jt (by unfold aF;split<;>split<;>lia) (by lia)
 | n::ns,k+1,v,h,h0,h1=>by
  have n0:=h n bF;have ih:=uX (ns:=ns) (k:=k) (λ m hm=>h m (aM _ hm)) h0 h1;show ai ((n::ns.set k v).map aF)≤_;rw[fe,fe,cg,cg];exact iC ih (by unfold aF;split<;>lia)
noncomputable def jA(ns cs ms ds:LI)(k:Nat)(at_:LI):Int:=if at_.getD k 0 < ns.getD k 0 then cs.getD (plH ns at_).toNat 0 else ds.getD (plH ms (at_.set k (at_.getD k 0 - ns.getD k 0))).toNat 0
def nj(ns cs:LI)(k:Nat)(m:Int)(i:Nat):Int:=cs.getD (plH ns ((atD (ci ns k m) (i:Int)).eraseIdx k)).toNat 0
theorem AZ{os:LI}(t:iO n os):os.length=n:=by rw[t.length_eq,jy]
theorem uY{os:LI}(t:iO n os){s:Nat}(h:s < n):(s:Int)∈os:=t.mem_iff.mpr (up_mem.mpr (by lia))
def eJ(os A:LI):LI:=(List.range os.length).map λ s:Nat=>A.getD (os.idxOf (s:Int)) 0
theorem JX{ns os A:LI}(t:iO ns.length os)(g:dq (bX ns os) A):dq ns (eJ os A):=by
 have ol:=AZ t;have tl:(bX ns os).length=os.length:=aA ..;refine⟨by unfold eJ;rw[aA,fq,ol],λ i m n em en=>?_⟩;have il:=(bv.mp en).1;have xl:=uZ.mpr (uY t il);unfold eJ at em;rw[bA,ko (by lia)] at em
 have e2:(bX ns os)[os.idxOf (i:Int)]?=some n:=by
  unfold bX;rw[bA,aX xl,s0u xl];show some (ns.getD ((i:Int)).toNat 0)=_;rw[Int.toNat_natCast,cy,en];rfl
 have al:=g.1;exact g.2 (os.idxOf (i:Int)) m n (by rw[gx (by lia)];exact em) e2
def fN(ns cs S:LI)(F:LI->LI):LI:=(List.range (ai S).toNat).map λ i:Nat=>cs.getD (plH ns (F (atD S (i:Int)))).toNat 0
def jB(ns:LI)(k:Nat)(A:LI):LI:=A.set k (ns.getD k 0 - 1 - A.getD k 0)
def jC(k:Nat)(f g:Int)(A:LI):LI:=A.set k (f+A.getD k 0 * g)
theorem JY{ns A:LI}{k:Nat}(hk:k < ns.length)(g:dq ns A):dq ns (jB ns k A):=by
 have al:=g.1;have ab:=g.2 k _ _ (gx (by lia)) (gx hk);exact re g rfl (λ _ _=>rfl) (gx hk) (by lia) (by lia)
theorem JZ{ns A:LI}{k:Nat}(hk:k < ns.length)(nb:¬bad ns k f m s)(g:dq (ns.set k m) A):dq ns (jC k f s A):=by
 unfold bad at nb;simp only[Int.toNat_natCast] at nb;have al:=g.1;rw[gJ] at al;have ab:=g.2 k _ _ (gx (by lia)) (lO hk);have z1:A.getD k 0 * s≤(m - 1) * s:=jt (by lia) (by lia);have z2:0≤A.getD k 0 * s:=oF ab.1 (by lia);exact re g (gJ ..).symm (λ j hj=>by rw[nD (λ z=>hj z.symm)]) (gx hk) (by lia) (by lia)
theorem Ba{ns:LI}(h0:0≤ns.getD k 0)(nb:¬bad ns k f m s):0≤m/\m≤ns.getD k 0:=by
 unfold bad at nb;simp only[Int.toNat_natCast] at nb;by_cases c:0 < m
 ·have z1:(m - 1) * 1≤(m - 1) * s:=iC (by lia) (by lia);lia
 ·lia
noncomputable def Ka(what:Int)(ns os:LI)(side f m g:Int)(S:LI)(F:LI->LI):Prop:=(what=0/\iO ns.length os/\S=bX ns os/\F=eJ os)\/(what=1/\¬off ns side/\S=ns/\F=jB ns side.toNat)\/(what=2/\¬off ns side/\¬bad ns side f m g/\S=ns.set side.toNat m/\F=jC side.toNat f g)
theorem Kb{ns os:LI}(hm:sm ns)(h:Ka what ns os side f m g S F):sm S/\S.length=ns.length/\ai (S.map aF)≤ai (ns.map aF):=by
 rcases h with ⟨_,t,rfl,rfl⟩ | ⟨_,o,rfl,rfl⟩ | ⟨_,o,b,rfl,rfl⟩
 ·have p:=Ak t;exact⟨λ n hn=>hm n (p.subset hn),p.length_eq,Int.le_of_eq (oN (p.map aF))⟩
 ·exact⟨hm,rfl,kh _⟩
 ·obtain⟨k,rfl,hk⟩:=iD o;have nk:=hm _ (getD_mem hk);obtain⟨c0,c1⟩:=Ba (k:=k) nk.1 b;simp only[Int.toNat_natCast];exact⟨zM hm c0 (by lia),gJ ..,uX (λ n hn=>(hm n hn).1) c0 c1⟩
theorem Kc(hc:CelAt H cl vcs)(h:H a=some (.lst xs)):minC H cl a=some (.lst xs):=by
 rw[fU λ q hq z=>by obtain⟨o,v,e⟩:=hc.mem hq;rw[z,h] at e;cases e];exact h
def lG(n:Int)(r cs ds:LI)(i:Nat):Int:=cs.getD ((ds.getD ((i:Int) / ai r).toNat 0) % n * ai r+(i:Int) % ai r).toNat 0
def Kd(ns:LI)(side:Int):LI:=(List.range (ai ns).toNat).map λ i:Nat=>(atD ns (i:Int)).getD side.toNat 0
theorem Ke:bq []:=λ m hm=>nomatch hm
theorem Kf:¬bS []:=by unfold bS;decide
def TabsL(l:List (Addr × Pos × Str))(H:Hp):Prop:=∀x∈l,TabOk H x.1 x.2.1 x.2.2
theorem TabsL.same(h:TabsL l H)(s:Same H H'):TabsL l H':=λ x hx=>(h x hx).same s
theorem TabsL.step{T:Addr}{pos:Pos}{qual:Str}(h:TabsL l H)(nd:(l.map λ x=>x.1).Nodup)(m:(T,pos,qual)∈l)(s:cV T H H')(t:TabOk H' T pos qual):TabsL l H':=λ x hx=>by
 by_cases c:x=(T,pos,qual)
 ·subst c;exact t
 ·have ne:x.1≠T:=λ z=>c (by
   have:x=(T,pos,qual):=by
    obtain⟨i,hi,e1⟩:=s0d hx;obtain⟨j,hj,e2⟩:=s0d m
    have e3:(l.map λ x=>x.1)[i]?=(l.map λ x=>x.1)[j]?:=by
     rw[bA,bA,aX hi,aX hj,e1,e2];show some x.1=some T;rw[z]
    have ij:=(List.getElem?_inj (by rw[aA];exact hi) nd).mp e3;subst ij;exact e1.symm.trans e2
   exact this)
  exact TabOk.other ne (h _ m) (h x hx) s
theorem TabsL.smT{T:Addr}{pos:Pos}{qual:Str}(h:TabsL l H)(m:(T,pos,qual)∈l)(s:cV T H H'):SmT H H':=SmT.ofP (h _ m) s
noncomputable def T9(TD TL TE TC TT TP TU TS TJ:Addr):List (Addr × Pos × Str):=[(TD,⟨299,4,303,21⟩,"fold.<locals>.number_at"),(TL,⟨319,46,319,80⟩,"lead.<locals>.<lambda>"),(TE,⟨340,4,342,47⟩,"fetch.<locals>.number_at"),(TC,⟨345,48,345,67⟩,"counted.<locals>.<lambda>"),(TT,⟨350,27,350,90⟩,"turn.<locals>.<lambda>"),(TP,⟨353,27,353,100⟩,"flip.<locals>.<lambda>"),(TU,⟨356,27,356,97⟩,"cut.<locals>.<lambda>"),(TS,⟨359,27,359,72⟩,"spread.<locals>.<lambda>"),(TJ,⟨366,4,369,70⟩,"join.<locals>.number_at")]
theorem vd(h:isF w):w∈two12:=(show ∀x∈fw,x∈two12 by decide +kernel) w h
theorem rh(s:Same H H'):cV T H H':=λ a o _ e=>s a o e
theorem lH(s:cV T H H1)(r:cV T H1 H2):cV T H H2:=λ a o n e=>r a o n (s a o n e)
theorem TabsL.both{T:Addr}{pos:Pos}{qual:Str}(h:TabsL l H)(nd:(l.map λ x=>x.1).Nodup)(m:(T,pos,qual)∈l)(s:cV T H H')(t:TabOk H' T pos qual):SmT H H'/\TabsL l H':=⟨h.smT m s,h.step nd m s t⟩
abbrev Tb:=List Int × LI
def gT(Ts:List Tb)(a:Nat):Tb:=Ts.getD a ([],[])
theorem cK{Ts:List Tb}{a:Nat}(h:Ts[a]?=some A):gT Ts a=A:=by unfold gT;rw[cy,h];rfl
def TbG(mo:Int)(T:Tb):Prop:=bI mo T.1/\(T.2.length:Int)=ai T.1/\∀c∈T.2,inB c
def TbsL(H:Hp)(ts:List Addr)(Ts:List Tb):Prop:=ts.length=Ts.length/\∀(i:Nat) (p:Addr),ts[i]?=some p->∃T:Tb,Ts[i]?=some T/\TbAt H p T.1 T.2
noncomputable def eU(Ts:List Tb):Stp->LI
 | .inp _=>[]
 | .num n=>[dy n]
 | .count ms k=>Kd ms k
 | .each w a=>(gT Ts a).2.map (fW w)
 | .pair w a b=>prC w (gT Ts a).1 (gT Ts a).2 (gT Ts b).1 (gT Ts b).2 (aQ (gT Ts a).1 (gT Ts b).1)
 | .pick a b c=>pkC (gT Ts a).1 (gT Ts a).2 (gT Ts b).1 (gT Ts b).2 (gT Ts c).1 (gT Ts c).2 (aQ (aQ (gT Ts a).1 (gT Ts b).1) (gT Ts c).1)
 | .turn a os=>fN (gT Ts a).1 (gT Ts a).2 (bX (gT Ts a).1 os) (eJ os)
 | .flip a s=>fN (gT Ts a).1 (gT Ts a).2 (gT Ts a).1 (jB (gT Ts a).1 s.toNat)
 | .cut a s f m g=>fN (gT Ts a).1 (gT Ts a).2 ((gT Ts a).1.set s.toNat m) (jC s.toNat f g)
 | .spread a s m=>(List.range (ai (ci (gT Ts a).1 s.toNat m)).toNat).map (nj (gT Ts a).1 (gT Ts a).2 s.toNat m)
 | .lay a _=>(gT Ts a).2
 | .join a b s=>(List.range (ai (bW (gT Ts a).1 (gT Ts b).1 s)).toNat).map λ i:Nat=>jA (gT Ts a).1 (gT Ts a).2 (gT Ts b).1 (gT Ts b).2 s.toNat (atD (bW (gT Ts a).1 (gT Ts b).1 s) (i:Int))
 | .fetch a b=>(List.range (ai ((gT Ts b).1++(gT Ts a).1.tail)).toNat).map (lG ((gT Ts a).1.headD 0) (gT Ts a).1.tail (gT Ts a).2 (gT Ts b).2)
 | .fold w a s=>oS w (gT Ts a).1 (gT Ts a).2 s.toNat
 | .run w a s=>kx w (gT Ts a).1 (gT Ts a).2 s.toNat
theorem ky{cs:LI}(h:∀c∈cs,inB c)(i:Nat):inB (cs.getD i 0):=by
 rw[cy]
 cases e:cs[i]? with
 | none=>exact⟨by decide,by decide⟩
 | some c=>exact h c (bw e)
theorem Kg(w:Str)(x:Int):inB (fW w x):=by
 unfold fW;split
 ·exact lE _
 ·split
  ·exact lE _
  ·split
   ·split
    ·exact⟨by decide,by decide⟩
    ·split<;>exact⟨by decide,by decide⟩
   ·split<;>exact⟨by decide,by decide⟩
theorem jD(fs:bI mo S){f:Nat->Int}(h:∀i:Nat,(i:Int) < ai S->inB (f i)):TbG mo (S,(List.range (ai S).toNat).map f):=by
 have p0:=mN (gQ fs);refine⟨fs,by show(((List.range (ai S).toNat).map f).length:Int)=ai S;rw[aA,fq];lia,λ c hc=>?_⟩;obtain⟨i,hi,rfl⟩:=dL.mp hc;exact h i (by have:=nC.mp hi;lia)
theorem cQ{Ts:List Tb}{a:Nat}(h:(Ts.map (·.1))[a]?=some A):∃C,Ts[a]?=some (A,C):=by
 rw[bA] at h;obtain⟨T,e,rfl⟩:=kQ.mp h;exact⟨T.2,e⟩
theorem Kh{w:Str}(h:w∈two12):w∈tw:=(show ∀x∈two12,x∈tw by decide +kernel) w h
theorem Ki{Ts:List Tb}(hG:∀T∈Ts,TbG mo T)(m:cW mo)(ok:OkS (Ts.map (·.1)) S d)(fs:bI mo S)(ni:∀ms,d≠.inp ms):TbG mo (S,eU Ts d):=by
 have gm:∀ {a:Nat}{T:Tb},Ts[a]?=some T->TbG mo T:=λ e=>hG _ (bw e)
 cases d with
 | inp ms=>exact absurd rfl (ni ms)
 | num n=>cases ok;exact⟨fs,rfl,λ c hc=>by cases bL.mp hc;exact lE _⟩
 | count ms k =>
  obtain⟨rfl,_,_⟩:=ok;refine jD fs λ i hi=>?_;have g:=iG (uL fs m) (qV i) hi
  have b:∀c∈atD S (i:Int),inB c:=λ c hc=>by
   obtain⟨j,hj⟩:=ve hc;have jl:=(bv.mp hj).1;have jS:j < S.length:=by rw[← g.1];exact jl
   have z:=g.2 j c S[j] hj (aX jS);have y:=fs.1 S[j] (jY jS);have:=m.2;exact⟨by lia,by lia⟩
  exact ky b _
 | each w a =>
  obtain⟨C,e⟩:=cQ ok.1;have g:=gm e;show TbG mo (S,(gT Ts a).2.map (fW w));rw[cK e];exact⟨fs,by show((C.map (fW w)).length:Int)=_;rw[aA];exact g.2.1,λ c hc=>by obtain⟨x,_,rfl⟩:=dL.mp hc;exact Kg _ _⟩
 | pair w a b =>
  obtain⟨A,B,ea,eb,hw,po,rfl⟩:=ok;obtain⟨C,e⟩:=cQ ea;obtain⟨C',e'⟩:=cQ eb;have p0:=mN (gQ fs);show TbG mo (_,prC w (gT Ts a).1 (gT Ts a).2 (gT Ts b).1 (gT Ts b).2 (aQ (gT Ts a).1 (gT Ts b).1));rw[cK e,cK e'];refine⟨fs,by show((prC w A C B C' (aQ A B)).length:Int)=ai (aQ A B);unfold prC;rw[vf,jw,jw,jj];lia,λ c hc=>?_⟩;obtain⟨i,hi⟩:=ve hc;have hi:(List.zipWith (bH w) (bP A C (aQ A B)) (bP B C' (aQ A B)))[i]?=some c:=hi;rw[vg] at hi
  cases e1:(bP A C (aQ A B))[i]? with
  | none=>rw[e1] at hi;cases hi
  | some x =>
   cases e2:(bP B C' (aQ A B))[i]? with
   | none=>rw[e1,e2] at hi;cases hi
   | some y =>
    rw[e1,e2] at hi;cases hi;exact uT (Kh hw) (qR (gm e).2.2 x (bw e1)) (qR (gm e').2.2 y (bw e2))
 | pick a b c =>
  obtain⟨A,B,C,ea,eb,ec,po,po2,rfl⟩:=ok;obtain⟨A',e⟩:=cQ ea;obtain⟨B',e'⟩:=cQ eb;obtain⟨C',e2⟩:=cQ ec;show TbG mo (_,pkC (gT Ts a).1 (gT Ts a).2 (gT Ts b).1 (gT Ts b).2 (gT Ts c).1 (gT Ts c).2 (aQ (aQ (gT Ts a).1 (gT Ts b).1) (gT Ts c).1));rw[cK e,cK e',cK e2];refine jD fs λ i hi=>?_;split
  ·exact zZ (gm e').2.2
  ·exact zZ (gm e2).2.2
 | turn a os =>
  obtain⟨A,ea,tk,rfl⟩:=ok;obtain⟨C,e⟩:=cQ ea;show TbG mo (_,fN (gT Ts a).1 (gT Ts a).2 (bX (gT Ts a).1 os) (eJ os));rw[cK e];exact jD fs λ i hi=>ky (gm e).2.2 _
 | flip a s =>
  obtain⟨C,e⟩:=cQ ok.1;show TbG mo (_,fN (gT Ts a).1 (gT Ts a).2 (gT Ts a).1 (jB (gT Ts a).1 s.toNat));rw[cK e];exact jD fs λ i hi=>ky (gm e).2.2 _
 | cut a s f m' g =>
  obtain⟨A,ea,_,_,_,rfl⟩:=ok;obtain⟨C,e⟩:=cQ ea;show TbG mo (_,fN (gT Ts a).1 (gT Ts a).2 ((gT Ts a).1.set s.toNat m') (jC s.toNat f g));rw[cK e];exact jD fs λ i hi=>ky (gm e).2.2 _
 | spread a s m' =>
  obtain⟨A,ea,_,_,_,_,rfl⟩:=ok;obtain⟨C,e⟩:=cQ ea;show TbG mo (_,(List.range (ai (ci (gT Ts a).1 s.toNat m')).toNat).map (nj (gT Ts a).1 (gT Ts a).2 s.toNat m'));rw[cK e];exact jD fs λ i hi=>ky (gm e).2.2 _
 | lay a ms =>
  obtain⟨A,ea,_,pe,rfl⟩:=ok;obtain⟨C,e⟩:=cQ ea;show TbG mo (_,(gT Ts a).2);rw[cK e];exact⟨fs,(gm e).2.1.trans pe,(gm e).2.2⟩
 | join a b s =>
  obtain⟨A,B,ea,eb,_,_,_,_,rfl⟩:=ok;obtain⟨C,e⟩:=cQ ea;obtain⟨C',e'⟩:=cQ eb;show TbG mo (_,(List.range (ai (bW (gT Ts a).1 (gT Ts b).1 s)).toNat).map λ i:Nat=>jA (gT Ts a).1 (gT Ts a).2 (gT Ts b).1 (gT Ts b).2 s.toNat (atD (bW (gT Ts a).1 (gT Ts b).1 s) (i:Int)));rw[cK e,cK e'];refine jD fs λ i hi=>?_;unfold jA;split
  ·exact ky (gm e).2.2 _
  ·exact ky (gm e').2.2 _
 | fetch a b =>
  obtain⟨n,r,B,ea,_,eb,_,rfl⟩:=ok;obtain⟨C,e⟩:=cQ ea;obtain⟨C',e'⟩:=cQ eb;show TbG mo (_,(List.range (ai ((gT Ts b).1++(gT Ts a).1.tail)).toNat).map (lG ((gT Ts a).1.headD 0) (gT Ts a).1.tail (gT Ts a).2 (gT Ts b).2));rw[cK e,cK e'];exact jD fs λ i hi=>ky (gm e).2.2 _
 | fold w a s =>
  obtain⟨A,ea,hw,_,rfl⟩:=ok;obtain⟨C,e⟩:=cQ ea;show TbG mo (_,oS w (gT Ts a).1 (gT Ts a).2 s.toNat);rw[cK e];exact jD fs λ i hi=>uW hw (oR _) (gm e).2.2 _
 | run w a s =>
  obtain⟨ea,hw,_⟩:=ok;obtain⟨C,e⟩:=cQ ea;show TbG mo (_,kx w (gT Ts a).1 (gT Ts a).2 s.toNat);rw[cK e];exact⟨fs,by show((kx w S C s.toNat).length:Int)=ai S;unfold kx;rw[uU];exact(gm e).2.1,uV hw (oR _) (gm e).2.2 (aJ _)⟩
noncomputable def Kj(TD TL TE TC TT TP TU TS TJ:Addr):Sp:=λ vs H Q _=>∃(p o:Addr) (d:Stp) (S:LI) (A:Tb) (Ts:List Tb) (a:Nat) (mo:Int),vs=[.ref p,.ref o]/\StpAt H p d/\cP d=[a]/\Ts[a]?=some A/\TbAt H o A.1 A.2/\TbG mo A/\cW mo/\OkS (Ts.map (·.1)) S d/\bI mo S/\TabsL (T9 TD TL TE TC TT TP TU TS TJ) H/\∀H' r,SmT H H'->TabsL (T9 TD TL TE TC TT TP TU TS TJ) H'->TbAt H' r S (eU Ts d)->Q (.ref r) H'
noncomputable def Kk(TD TL TE TC TT TP TU TS TJ:Addr):Sp:=λ vs H Q _=>∃(p tl:Addr) (d:Stp) (S:LI) (Ts:List Tb) (ts:List Addr) (mo:Int),vs=[.ref p,.ref tl]/\StpAt H p d/\(∀ms,d≠.inp ms)/\(H tl=some (.lst (ts.map V.ref))\/H tl=some (.tup (ts.map V.ref)))/\TbsL H ts Ts/\(∀T∈Ts,TbG mo T)/\cW mo/\OkS (Ts.map (·.1)) S d/\bI mo S/\TabsL (T9 TD TL TE TC TT TP TU TS TJ) H/\∀H' r,SmT H H'->TabsL (T9 TD TL TE TC TT TP TU TS TJ) H'->TbAt H' r S (eU Ts d)->Q (.ref r) H'
theorem rk{a:Nat}(h:TbsL H ts Ts)(e:Ts[a]?=some A):∃t,ts[a]?=some t/\TbAt H t A.1 A.2:=by
 have al:=(bv.mp e).1;have tl:a < ts.length:=by rw[h.1];exact al
 obtain⟨T,e1,h1⟩:=h.2 a _ (aX tl);rw[e] at e1;cases e1;exact⟨_,aX tl,h1⟩
theorem TbsL.sm(h:TbsL H ts Ts)(s:SmT H H'):TbsL H' ts Ts:=⟨h.1,λ i p e=>let ⟨T,e1,h1⟩:=h.2 i p e;⟨T,e1,s.tb h1⟩⟩
def rn:Stp->Option (LI)
 | .inp ms=>some ms
 | _=>none
def bJ(ds:List Stp):LL:=ds.filterMap rn
theorem iQ{ds:List Stp}{i:Nat}(e:ds[i]?=some d):bJ (ds.take (i+1))=bJ (ds.take i)++(rn d).toList:=by
 unfold bJ;rw[cO,e,qU];cases h:rn d<;>simp[h]
theorem oU:kdN d=0->∃ms,d=.inp ms:=by
 cases d with
 | inp ms=>exact λ _=>⟨ms,rfl⟩
 | _=>exact λ h=>absurd h (oO rfl)
theorem rq(h:¬kdN d=0):rn d=none:=by
 cases d with
 | inp ms=>exact absurd rfl h
 | _=>rfl
theorem oV(ds:List Stp):(bJ ds).length≤ds.length:=Ac _ _
theorem kz{ps:List Addr}{i:Nat}(e:(ps.map V.ref)[i]?=some x):∃p,x=.ref p/\ps[i]?=some p:=by
 rw[bA] at e;obtain⟨p,h,rfl⟩:=kQ.mp e;exact⟨p,rfl,h⟩
theorem Kl(t:TpsM H ps Ss)(u:TpsM H qs Ss)(h1:H a=some (.lst (ps.map V.ref)))(h2:H b=some (.lst (qs.map V.ref))):AlkV H 9 (.ref a) (.ref b):=by
 refine .inr ⟨a,b,_,_,rfl,rfl,.inl ⟨h1,h2⟩,by rw[aA,aA,t.1,u.1],λ i z w e1 e2=>?_⟩;obtain⟨p,rfl,hp⟩:=kz e1;obtain⟨o,rfl,ho⟩:=kz e2;obtain⟨S,eS,hS⟩:=t.2 i p hp;obtain⟨S',eS',hS'⟩:=u.2 i o ho;cases eS.symm.trans eS';exact AlkV.tup hS hS' (dC _)
noncomputable def Km:Sp:=λ vs H Q _=>∃(r it:Addr) (ds:List Stp) (Ss:LL) (os:LI) (mo:Int) (is:List Addr) (Is:List Tb),vs=[.ref r,.ref it]/\oP H r ds os/\lD mo ds Ss os/\H it=some (.tup (is.map V.ref))/\TbsL H is Is/\Is.map (·.1)=bJ ds/\∀H' t,Same H H'->Q (.ref t) H'
noncomputable def bO(ds:List Stp)(Ss:LL)(Is:List Tb):Nat->List Tb
 | 0=>[]
 | i+1=>bO ds Ss Is i++[match ds[i]? with
  | some (.inp _)=>Is.getD (bJ (ds.take i)).length ([],[])
  | some d=>(Ss.getD i [],eU (bO ds Ss Is i) d)
  | none=>([],[])]
theorem kA(ds:List Stp)(Ss:LL)(Is:List Tb):∀i,(bO ds Ss Is i).length=i
 | 0=>rfl
 | i+1=>by unfold bO;rw[bu,kA ds Ss Is i];rfl
theorem Bb{ds:List Stp}{Is:List Tb}{i:Nat}(e:ds[i]?=some (.inp ms))(h:Is[(bJ (ds.take i)).length]?=some T):bO ds Ss Is (i+1)=bO ds Ss Is i++[T]:=by
 conv=>lhs;unfold bO
 rw[e];show _++[Is.getD (bJ (ds.take i)).length ([],[])]=_;rw[cy,h];rfl
theorem Bc{ds:List Stp}{Ss:LL}{i:Nat}(e:ds[i]?=some d)(ni:∀ms,d≠.inp ms)(h:Ss[i]?=some S):bO ds Ss Is (i+1)=bO ds Ss Is i++[(S,eU (bO ds Ss Is i) d)]:=by
 conv=>lhs;unfold bO
 rw[e]
 cases d with
 | inp ms=>exact absurd rfl (ni ms)
 | _=>show _++[(Ss.getD i [],_)]=_;rw[cy,h];rfl
theorem Bd{ds:List Stp}{i:Nat}(e:ds[i]?=some (.inp ms)):(bJ ds)[(bJ (ds.take i)).length]?=some ms:=by
 have il:=(bv.mp e).1;have h1:bJ ds=bJ (ds.take (i+1))++bJ (ds.drop (i+1)):=by unfold bJ;rw[← qU,ly]
 rw[h1,iQ e,iB,cS (aJ _),dF];rfl
theorem vh{Is:List Tb}(m:cW mo)(gl:fX mo ds Ss)(eI:Is.map (·.1)=bJ ds)(gI:∀T∈Is,TbG mo T):∀i,i≤ds.length->(bO ds Ss Is i).map (·.1)=Ss.take i/\∀T∈bO ds Ss Is i,TbG mo T
 | 0,_=>⟨rfl,λ _ h=>nomatch h⟩
 | i+1,hi=>by
  obtain⟨h1,h2⟩:=vh m gl eI gI i (by lia);have e:ds[i]?=some ds[i]:=aX hi;have iS:i < Ss.length:=by rw[← gl.1];exact hi
  have eS:Ss[i]?=some Ss[i]:=aX iS;generalize ds[i]=d at e;generalize Ss[i]=S at eS;have ok:=gl.2.2 i d S e eS;have fs:=gl.2.1 S (bw eS);by_cases c:kdN d=0
  ·obtain⟨ms,rfl⟩:=oU c;have a:=Bd e;rw[← eI,bA] at a;obtain⟨T,eT,rfl⟩:=kQ.mp a;have z:=ok.1;rw[Bb e eT];refine⟨by rw[aY,h1,cO,eS,z];rfl,λ T' hT=>?_⟩
   rcases cZ.mp hT with y | y
   ·exact h2 T' y
   ·cases bL.mp y;exact gI _ (bw eT)
  ·have ni:∀ms,d≠.inp ms:=λ ms z=>c (by rw[z];rfl);rw[Bc e ni eS];refine⟨by rw[aY,h1,cO,eS];rfl,λ T' hT=>?_⟩
   rcases cZ.mp hT with y | y
   ·exact h2 T' y
   ·cases bL.mp y;exact Ki h2 m (by rw[h1];exact ok) fs ni
theorem Be(ds:List Stp)(Ss:LL)(Is:List Tb)(i:Nat):∀j,(bO ds Ss Is (i+j)).take i=bO ds Ss Is i
 | 0=>by rw[Nat.add_zero];exact fk (by rw[kA];exact aJ _)
 | j+1=>by
  have h:=Be ds Ss Is i j;rw[← Nat.add_assoc]
  conv=>lhs;unfold bO
  rw[qQ (by rw[kA];lia)];exact h
theorem TbAt.up(h:TbAt H t ns cs)(s:UpT H H'):TbAt H' t ns cs:=let ⟨a,c,h1,h2,h3⟩:=h;⟨a,c,s.1 _ _ h1,s.1 _ _ h2,s.1 _ _ h3⟩
theorem TbsL.up(h:TbsL H ts Ts)(s:UpT H H'):TbsL H' ts Ts:=⟨h.1,λ i p e=>let ⟨T,e1,h1⟩:=h.2 i p e;⟨T,e1,h1.up s⟩⟩
theorem TbsL.snoc{T:Tb}(h:TbsL H ts Ts)(ht:TbAt H t T.1 T.2):TbsL H (ts++[t]) (Ts++[T]):=by
 refine⟨by rw[bu,bu,h.1];rfl,λ i p e=>?_⟩;by_cases c:i < ts.length
 ·rw[dw c] at e;obtain⟨T',e1,h1⟩:=h.2 i p e;exact⟨T',by rw[dw (by rw[← h.1];exact c)];exact e1,h1⟩
 ·have jl:=(bv.mp e).1;rw[bu,gh] at jl;have je:i=ts.length:=by lia
  subst je;rw[cS (aJ _),dF] at e;cases e;exact⟨T,by rw[h.1,cS (aJ _),dF];rfl,ht⟩
theorem vi(s:SmT H G)(h:H l=none):SmT H (upd G l o):=λ a x n e=>by
 have ne:a≠l:=λ z=>by rw[z,h] at e;cases e
 rw[bo ne];exact s a x n e
theorem lI(s:SmT H G):UpT H G:=⟨λ _ _ e=>s.tup e,λ _ _ _ e=>s _ _ (λ _ z=>by cases z) e⟩
theorem TabsL.put(h:TabsL l H)(e:H a=some (.lst xs)):TabsL l (upd H a (.lst ys)):=λ x hx=>by
 obtain⟨ps,h1,h2,h3⟩:=h x hx;have n1:x.1≠a:=λ z=>by rw[z,e] at h1;cases h1
 refine⟨ps,by rw[bo n1];exact h1,h2,h3.imp_right λ⟨c',e1,e2⟩=>⟨c',e1,?_⟩⟩;have n2:c'≠a:=λ z=>by rw[z,e] at e2;cases e2
 rw[bo n2];exact e2
noncomputable def Kn(TD TL TE TC TT TP TU TS TJ:Addr):Sp:=λ vs H Q _=>∃(r it:Addr) (ds:List Stp) (Ss:LL) (os:LI) (mo:Int) (is:List Addr) (Is:List Tb),vs=[.ref r,.ref it]/\oP H r ds os/\lD mo ds Ss os/\H it=some (.tup (is.map V.ref))/\TbsL H is Is/\Is.map (·.1)=bJ ds/\(∀T∈Is,TbG mo T)/\TabsL (T9 TD TL TE TC TT TP TU TS TJ) H/\∀H' t ts,SmT H H'->TabsL (T9 TD TL TE TC TT TP TU TS TJ) H'->H' t=some (.tup (ts.map V.ref))->TbsL H' ts (bO ds Ss Is ds.length)->Q (.ref t) H'
noncomputable def Ko(H:Hp)(as:List Addr)(Ts:List Tb)(os:LI):Prop:=as.length=os.length/\∀(k:Nat) (o:Int) (a:Addr),os[k]?=some o->as[k]?=some a->∃T,Ts[o.toNat]?=some T/\TbAt H a T.1 T.2
noncomputable def Kp(TD TL TE TC TT TP TU TS TJ:Addr):Sp:=λ vs H Q _=>∃(r it:Addr) (ds:List Stp) (Ss:LL) (os:LI) (mo:Int) (is:List Addr) (Is:List Tb),vs=[.ref r,.ref it]/\oP H r ds os/\lD mo ds Ss os/\H it=some (.tup (is.map V.ref))/\TbsL H is Is/\Is.map (·.1)=bJ ds/\(∀T∈Is,TbG mo T)/\TabsL (T9 TD TL TE TC TT TP TU TS TJ) H/\∀H' t as,SmT H H'->TabsL (T9 TD TL TE TC TT TP TU TS TJ) H'->H' t=some (.tup (as.map V.ref))->Ko H' as (bO ds Ss Is ds.length) os->Q (.ref t) H'
noncomputable def Kq(K:FG):Sp:=λ vs H Q _=>∃(a st:Addr) (cs:LI) (qs:List Addr) (ds:List Stp) (Ss:LL) (mo:Int),vs=[.ref a,.ref st]/\SqL K H a (cs.map V.int)/\cs.length≤63/\H st=some (.tup (qs.map V.ref))/\StL H qs ds/\fX mo ds Ss/\cW mo/\ds.length≤40/\∀H' it is Is,Same H H'->H' it=some (.tup (is.map V.ref))->TbsL H' is Is->Is.map (·.1)=bJ ds->(∀T∈Is,TbG mo T)->Q (.ref it) H'
def Bf:Sp:=λ vs H Q _=>∃(f s:Addr) (S C:LI),vs=[.ref f,.ref s]/\TbAt H f S C/\Tp H s S/\fit S/\(C.length:Int)=ai S/\(∀c∈C,inB c)/\Q (.bl true) H
theorem Kr(h1:TbAt H a ns cs)(h2:TbAt H b ns cs):AlkV H 9 (.ref a) (.ref b):=by
 obtain⟨a1,c1,e1,e2,e3⟩:=h1;obtain⟨a2,c2,f1,f2,f3⟩:=h2;refine .inr ⟨a,b,_,_,rfl,rfl,.inr ⟨e1,f1⟩,rfl,λ i z w g1 g2=>?_⟩
 match i with
 | 0=>cases g1;cases g2;exact AlkV.tup e2 f2 (dC _)
 | 1=>cases g1;cases g2;exact AlkV.tup e3 f3 (dC _)
 | j+2=>cases g1
theorem TbsL.take(h:TbsL H ts Ts)(k:Nat):TbsL H (ts.take k) (Ts.take k):=by
 refine⟨by rw[be,be,h.1],λ i p e=>?_⟩;have il:=(bv.mp e).1;have ik:i < k:=by rw[be] at il;lia
 rw[eZ ik] at e;rw[eZ ik];exact h.2 i p e
theorem Bg{ps:List Addr}{o:Int}(h0:0≤o)(h:ps[o.toNat]?=some p):atI (ps.map V.ref) o=some (.ref p):=by
 have z:=aB (xs:=ps.map V.ref) (j:=o.toNat) (v:=.ref p) (by rw[bA,h];rfl)
 rwa [ie h0] at z
theorem Ks{k:Nat}(h:TpsM H ps Ss)(e:Ss[k]?=some S):∃p,ps[k]?=some p/\Tp H p S:=by
 have kl:=(bv.mp e).1;have kp:k < ps.length:=by rw[h.1];exact kl
 obtain⟨S',e',t⟩:=h.2 k _ (aX kp);cases e'.symm.trans e;exact⟨_,aX kp,t⟩
theorem rs{ps:List Addr}{k:Nat}(h:ps[k]?=some p):atI (ps.map V.ref) (k:Int)=some (.ref p):=aB (by rw[bA,h];rfl)
noncomputable def Bh(T:Addr):Sp:=λ vs H Q _=>∃(w:Str) (t:Addr) (ns cs:LI) (side:Int),vs=[.str w,.ref t,.int side]/\TbAt H t ns cs/\sm ns/\ns.length≤20/\ai (ns.map aF)≤512/\(cs.length:Int)=ai ns/\(∀c∈cs,inB c)/\TabOk H T ⟨299,4,303,21⟩ "fold.<locals>.number_at" /\ isF w/\¬off ns side/\∀H' p,cV T H H'->TabOk H' T ⟨299,4,303,21⟩ "fold.<locals>.number_at" -> TbAt H' p (ns.eraseIdx side.toNat) (oS w ns cs side.toNat)->Q (.ref p) H'
noncomputable def Bi:Sp:=λ vs H Q _=>∃(w:Str) (t:Addr) (ns cs:LI) (side:Int),vs=[.str w,.ref t,.int side]/\TbAt H t ns cs/\sm ns/\ns.length≤20/\ai (ns.map aF)≤512/\(cs.length:Int)=ai ns/\(∀c∈cs,inB c)/\isF w/\¬off ns side/\∀H' p,Same H H'->TbAt H' p ns (kx w ns cs side.toNat)->Q (.ref p) H'
noncomputable def nq(T:Addr):Sp:=λ vs H Q _=>∃(t b:Addr) (ns cs ms:LI),vs=[.ref t,.ref b]/\TbAt H t ns cs/\H b=some (.tup (ms.map V.int))/\bq ns/\bq ms/\ns.length≤20/\ms.length≤20/\(cs.length:Int)=ai ns/\ai ms≤512/\TabOk H T ⟨319,46,319,80⟩ "lead.<locals>.<lambda>" /\ ms.take ns.length=ns/\∀H' p,cV T H H'->TabOk H' T ⟨319,46,319,80⟩ "lead.<locals>.<lambda>" -> TbAt H' p ms (bP ns cs ms)->Q (.ref p) H'
noncomputable def Bj:Sp:=λ vs H Q _=>∃(w:Str) (t:Addr) (ns cs:LI),vs=[.str w,.ref t]/\TbAt H t ns cs/\cs.length≤900/\w∈mV/\∀H' p,Same H H'->TbAt H' p ns (cs.map (fW w))->Q (.ref p) H'
noncomputable def Bk(T:Addr):Sp:=λ vs H Q _=>∃(w:Str) (t u:Addr) (ns cs ms ds:LI),vs=[.str w,.ref t,.ref u]/\TbAt H t ns cs/\TbAt H u ms ds/\bq ns/\bq ms/\ns.length≤20/\ms.length≤20/\(cs.length:Int)=ai ns/\(ds.length:Int)=ai ms/\ai ns≤512/\ai ms≤512/\(∀c∈cs,inB c)/\(∀c∈ds,inB c)/\TabOk H T ⟨319,46,319,80⟩ "lead.<locals>.<lambda>" /\ w∈two12/\bV ns ms/\∀H' p,cV T H H'->TabOk H' T ⟨319,46,319,80⟩ "lead.<locals>.<lambda>" -> TbAt H' p (aQ ns ms) (prC w ns cs ms ds (aQ ns ms))->Q (.ref p) H'
noncomputable def Bl(T:Addr):Sp:=λ vs H Q _=>∃(m t u:Addr) (ks es ns cs ms ds:LI),vs=[.ref m,.ref t,.ref u]/\TbAt H m ks es/\TbAt H t ns cs/\TbAt H u ms ds/\bq ks/\bq ns/\bq ms/\ks.length≤20/\ns.length≤20/\ms.length≤20/\(es.length:Int)=ai ks/\(cs.length:Int)=ai ns/\(ds.length:Int)=ai ms/\ai ks≤512/\ai ns≤512/\ai ms≤512/\TabOk H T ⟨319,46,319,80⟩ "lead.<locals>.<lambda>" /\ bV ks ns/\bV (aQ ks ns) ms/\∀H' p,cV T H H'->TabOk H' T ⟨319,46,319,80⟩ "lead.<locals>.<lambda>" -> TbAt H' p (aQ (aQ ks ns) ms) (pkC ks es ns cs ms ds (aQ (aQ ks ns) ms))->Q (.ref p) H'
noncomputable def Bm(T:Addr):Sp:=λ vs H Q _=>∃(a:Addr) (ns:LI) (side:Int),vs=[.ref a,.int side]/\H a=some (.tup (ns.map V.int))/\bq ns/\ns.length≤20/\TabOk H T ⟨345,48,345,67⟩ "counted.<locals>.<lambda>" /\ ¬bS ns/\¬off ns side/\∀H' p q,cV T H H'->TabOk H' T ⟨345,48,345,67⟩ "counted.<locals>.<lambda>" -> H' q=some (.tup (((List.range (ai ns).toNat).map λ i:Nat=>(atD ns (i:Int)).getD side.toNat 0).map V.int))->H' p=some (.tup [.ref a,.ref q])->Q (.ref p) H'
noncomputable def Bn(T:Addr):Sp:=λ vs H Q _=>∃(t b:Addr) (ns cs os:LI),vs=[.ref t,.ref b]/\TbAt H t ns cs/\Frz H b os/\sm ns/\ns.length≤20/\os.length≤20/\ai (ns.map aF)≤512/\(cs.length:Int)=ai ns/\TabOk H T ⟨350,27,350,90⟩ "turn.<locals>.<lambda>" /\ iO ns.length os/\∀H' p,cV T H H'->TabOk H' T ⟨350,27,350,90⟩ "turn.<locals>.<lambda>" -> TbAt H' p (bX ns os) (fN ns cs (bX ns os) (eJ os))->Q (.ref p) H'
noncomputable def Bo(T:Addr):Sp:=λ vs H Q _=>∃(t:Addr) (ns cs:LI) (side:Int),vs=[.ref t,.int side]/\TbAt H t ns cs/\sm ns/\ns.length≤20/\ai (ns.map aF)≤512/\(cs.length:Int)=ai ns/\TabOk H T ⟨353,27,353,100⟩ "flip.<locals>.<lambda>" /\ ¬off ns side/\∀H' p,cV T H H'->TabOk H' T ⟨353,27,353,100⟩ "flip.<locals>.<lambda>" -> TbAt H' p ns (fN ns cs ns (jB ns side.toNat))->Q (.ref p) H'
noncomputable def Bp(T:Addr):Sp:=λ vs H Q _=>∃(t:Addr) (ns cs:LI) (side f m g:Int),vs=[.ref t,.int side,.int f,.int m,.int g]/\TbAt H t ns cs/\sm ns/\ns.length≤20/\ai (ns.map aF)≤512/\(cs.length:Int)=ai ns/\-100 < m/\m < 1000000/\TabOk H T ⟨356,27,356,97⟩ "cut.<locals>.<lambda>" /\ ¬off ns side/\¬bad ns side f m g/\∀H' p,cV T H H'->TabOk H' T ⟨356,27,356,97⟩ "cut.<locals>.<lambda>" -> TbAt H' p (ns.set side.toNat m) (fN ns cs (ns.set side.toNat m) (jC side.toNat f g))->Q (.ref p) H'
noncomputable def Bq(T:Addr):Sp:=λ vs H Q _=>∃(t:Addr) (ns cs:LI) (side many:Int),vs=[.ref t,.int side,.int many]/\TbAt H t ns cs/\bq ns/\ns.length≤20/\(cs.length:Int)=ai ns/\many < 1000000/\TabOk H T ⟨359,27,359,72⟩ "spread.<locals>.<lambda>" /\ ¬lB ns side/\¬many < 0/\¬bS (ci ns side.toNat many)/\∀H' p,cV T H H'->TabOk H' T ⟨359,27,359,72⟩ "spread.<locals>.<lambda>" -> TbAt H' p (ci ns side.toNat many) ((List.range (ai (ci ns side.toNat many)).toNat).map (nj ns cs side.toNat many))->Q (.ref p) H'
noncomputable def Br:Sp:=λ vs H Q _=>∃(t b:Addr) (ns cs ms:LI),vs=[.ref t,.ref b]/\TbAt H t ns cs/\H b=some (.tup (ms.map V.int))/\bq ns/\bq ms/\ms.length≤20/\¬bS ms/\ai ns=ai ms/\∀H' p,Same H H'->TbAt H' p ms cs->Q (.ref p) H'
noncomputable def Bs(T:Addr):Sp:=λ vs H Q _=>∃(t o:Addr) (ns cs ms ds:LI) (side:Int),vs=[.ref t,.ref o,.int side]/\TbAt H t ns cs/\TbAt H o ms ds/\sm ns/\sm ms/\ns.length≤20/\(cs.length:Int)=ai ns/\(ds.length:Int)=ai ms/\TabOk H T ⟨366,4,369,70⟩ "join.<locals>.number_at" /\ ns.length=ms.length/\¬off ns side/\ns.eraseIdx side.toNat=ms.eraseIdx side.toNat/\¬bS (bW ns ms side)/\∀H' p,cV T H H'->TabOk H' T ⟨366,4,369,70⟩ "join.<locals>.number_at" -> TbAt H' p (bW ns ms side) ((List.range (ai (bW ns ms side)).toNat).map λ i:Nat=>jA ns cs ms ds side.toNat (atD (bW ns ms side) (i:Int)))->Q (.ref p) H'
noncomputable def Bt(T:Addr):Sp:=λ vs H Q _=>∃(t o:Addr) (n:Int) (r cs ms ds:LI),vs=[.ref t,.ref o]/\TbAt H t (n::r) cs/\TbAt H o ms ds/\bq (n::r)/\bq ms/\r.length < 20/\ms.length≤20/\(cs.length:Int)=ai (n::r)/\(ds.length:Int)=ai ms/\TabOk H T ⟨340,4,342,47⟩ "fetch.<locals>.number_at" /\ n≠0/\¬bS (ms++r)/\∀H' p,cV T H H'->TabOk H' T ⟨340,4,342,47⟩ "fetch.<locals>.number_at" -> TbAt H' p (ms++r) ((List.range (ai (ms++r)).toNat).map (lG n r cs ds))->Q (.ref p) H'
theorem m42(n:Nat):min 42 n - min 2 n≤40:=by
 rcases n with _ | _ | n
 ·decide
 ·decide
 ·rw[kZ (uK 2 n)];exact Nat.sub_le_sub_right (Nat.min_le_left 42 _) 2
theorem Kt(ns:LI):∃ms:LI,de (ns.map V.int) (some 2) (some 42)=ms.map V.int/\ms.length≤40:=by
 refine⟨(ns.drop (min 2 ns.length)).take (min 42 ns.length - min 2 ns.length),?_,?_⟩
 ·unfold de;simp only[HT.sIx,aP];rw[if_neg (by lia),if_neg (by lia),jr,qO];rfl
 ·rw[be];exact dW (Nat.min_le_left ..) (m42 _)
theorem Bu(ds:List Stp)(m:Nat):bJ ds=bJ (ds.take m)++bJ (ds.drop m):=by unfold bJ;rw[← qU,ly]
theorem Ku(ds:List Stp)(m:Nat):(bJ ds).take (bJ (ds.take m)).length=bJ (ds.take m):=by
 conv=>lhs;rw[Bu ds m]
 exact List.take_left' rfl
theorem vj{α:Type}(l:List α){i m:Nat}(h:i≤m):(l.take m).take i=l.take i:=by rw[uH,kZ h]
theorem Bv{α:Type}(l:List α)(x:α){i m:Nat}(h:i < m):(l.take m).getD i x=l.getD i x:=by rw[cy,cy,eZ h]
theorem Kv{ds:List Stp}{i m:Nat}(e:ds[i]?=some (.inp ms))(h:i < m):(bJ (ds.take i)).length < (bJ (ds.take m)).length:=by
 have a:=Bu (ds.take m) (i+1);rw[vj _ (Nat.succ_le_of_lt h),iQ e] at a;rw[a,bu,bu];show _ < _+1+_;lia
theorem Bw(ds:List Stp)(Ss:LL)(Is:List Tb)(m:Nat):∀i,i≤m->bO (ds.take m) (Ss.take m) (Is.take (bJ (ds.take m)).length) i=bO ds Ss Is i
 | 0,_=>rfl
 | i+1,h=>by
  have ih:=Bw ds Ss Is m i (by lia);unfold bO;have a:∀x,(Ss.take m).getD i x=Ss.getD i x:=λ x=>Bv _ _ (by lia);rw[ih,eZ (by lia),vj _ (show i≤m by lia)]
  cases e:ds[i]? with
  | none=>rfl
  | some d =>
   cases d with
   | inp ms=>show _++[(Is.take _).getD _ _]=_++[Is.getD _ _];rw[Bv _ _ (Kv e (by lia))]
   | _=>show _++[((Ss.take m).getD i [],_)]=_++[(Ss.getD i [],_)];rw[a]
theorem Kw(g:fX mo ds Ss)(m:Nat):fX mo (ds.take m) (Ss.take m):=by
 refine⟨by rw[be,be,g.1],λ S h=>g.2.1 S (kj h),λ i d S e1 e2=>?_⟩;have il:=(bv.mp e1).1;have im:i < m:=by rw[be] at il;lia
 rw[eZ im] at e1 e2;rw[vj _ (fP im)];exact g.2.2 i d S e1 e2
theorem StL.take(h:StL H qs ds)(m:Nat):StL H (qs.take m) (ds.take m):=by
 refine⟨by rw[be,be,h.1],λ i p e=>?_⟩;have il:=(bv.mp e).1;have im:i < m:=by rw[be] at il;lia
 rw[eZ im] at e;obtain⟨d,e1,h1⟩:=h.2 i p e;exact⟨d,by rw[eZ im];exact e1,h1⟩
theorem vk(c:Int){n:Nat}(h:0 < n):∃j:Nat,j < n/\c.fmod (n:Int)=(j:Int):=by
 have f0:=fz c (show(0:Int) < (n:Int) by lia);have f1:=fK c (show(0:Int) < (n:Int) by lia);exact⟨(c.fmod (n:Int)).toNat,by lia,by lia⟩
theorem rA(xs:List V)(k:Nat):de xs none (some (k:Int))=xs.take k:=by
 unfold de;simp only[HT.sIx,qB,Nat.sub_zero];rw[if_neg (by lia),Int.toNat_natCast,Nat.min_def];split
 ·rfl
 ·rw[fk (by lia),fk (by lia)]
theorem vm{A B:Prop}(h:B):∃c,V.bl true=V.bl c/\if c=false then A else B:=⟨true,rfl,by rw[if_neg (by decide)];exact h⟩
def gU(Ts:List Tb)(us:LI):List Tb:=us.map λ o=>Ts.getD o.toNat ([],[])
theorem Bx{k:Nat}(h:(gU Ts us)[k]?=some T)(b:∀o∈us,0≤o/\o < (Ts.length:Int)):∃o,us[k]?=some o/\0≤o/\Ts[o.toNat]?=some T:=by
 unfold gU at h;rw[bA] at h;obtain⟨o,eo,rfl⟩:=kQ.mp h;have:=b o (bw eo);exact⟨o,eo,this.1,by rw[cy,aX (show o.toNat < Ts.length by lia)];rfl⟩
theorem Kx{Ts:List Tb}{us:LI}{k:Nat}(h:us[k]?=some o)(e:Ts[o.toNat]?=some T):(gU Ts us)[k]?=some T:=by
 unfold gU;rw[bA,h];show some (Ts.getD o.toNat ([],[]))=_;rw[cy,e];rfl
def By(H:Hp)(ps:List Addr)(Ts:List Tb):Prop:=∀(k:Nat) (T:Tb),Ts[k]?=some T->∃p,ps[k]?=some p/\Tp H p T.1
noncomputable def Ky:Sp:=λ vs H Q _=>∃(f d s:Addr) (ts us ps:List Addr) (Ts:List Tb) (mo:Int),vs=[.ref f,.ref d,.ref s]/\H f=some (.tup (ts.map V.ref))/\(H d=some (.lst (us.map V.ref))\/H d=some (.tup (us.map V.ref)))/\H s=some (.lst (ps.map V.ref))/\TbsL H ts Ts/\TbsL H us Ts/\By H ps Ts/\cW mo/\(∀T∈Ts,TbG mo T)/\Ts.length≤40/\Q (.bl true) H
abbrev Bz:Stmt:=top 12
def lJ:Sp:=λ vs H Q _=>∃n:Int,vs=[.int n]/\Q (.int (dy n)) H
abbrev BA:Stmt:=top 13
def BB:Sp:=λ vs H Q _=>∃n:Int,vs=[.int n]/\Q (.int (if n < 0 then -1 else if 0 < n then 1 else 0)) H
abbrev BC:Stmt:=top 14
def BD:Sp:=λ vs H Q _=>∃x y:Int,vs=[.int x,.int y]/\inB x/\inB y/\Q (.int (mT x y)) H
abbrev BE:Stmt:=top 15
def BF:Sp:=λ vs H Q _=>∃x y:Int,vs=[.int x,.int y]/\Q (.int (mU x y)) H
abbrev BG:Stmt:=top 16
def rB:Sp:=λ vs H Q _=>∃(w:Str) (x:Int),vs=[.str w,.int x]/\w∈mV/\Q (.int (fW w x)) H
abbrev BH:Stmt:=top 17
def nr:Sp:=λ vs H Q _=>∃(w:Str) (x y:Int),vs=[.str w,.int x,.int y]/\inB x/\inB y/\w∈two12/\Q (.int (bH w x y)) H
abbrev BI:Stmt:=top 18
def rC:Sp:=λ vs H Q _=>∃(w:Str),vs=[.str w]/\isF w/\∀H',Same H H'->Q (.int (bC w)) H'
abbrev BJ:Stmt:=top 23
def BK:Sp:=λ vs H Q _=>∃i:Nat,i < 15/\vs=[.str (aL i)]/\∀H' p,Same H H'->H' p=some (.lst ((gy i).map V.int))->Q (.ref p) H'
abbrev BL:Stmt:=top 24
noncomputable def rD:Sp:=λ vs H Q _=>∃(a:Addr) (i:Nat) (xs:List V),i < 15/\vs=[.ref a]/\H a=some (.tup xs)/\xs[0]?=some (.str (aL i))/\(∀p∈gy i,0≤p/\p < xs.length)/\∀H' p,Same H H'->H' p=some (.tup (mX xs (gy i)))->Q (.ref p) H'
abbrev BM:Stmt:=top 28
def oW:Sp:=λ vs H Q _=>∃(a:Addr) (ns:LI),vs=[.ref a]/\(H a=some (.lst (ns.map V.int))\/H a=some (.tup (ns.map V.int)))/\bq ns/\Q (.int (ai ns)) H
abbrev BN:Stmt:=top 29
noncomputable def BO:Sp:=λ vs H Q _=>∃(a:Addr) (ns:LI),vs=[.ref a]/\H a=some (.tup (ns.map V.int))/\bq ns/\ns.length≤63/\∀H',Same H H'->Q (.int (ai (ns.map aF))) H'
abbrev BP:Stmt:=top 30
def kB:Sp:=λ vs H Q _=>∃(a:Addr) (ns:LI),vs=[.ref a]/\H a=some (.tup (ns.map V.int))/\bq ns/\ns.length≤63/\¬bS ns/\∀H',Same H H'->Q (.ref a) H'
abbrev BQ:Stmt:=top 31
noncomputable def vn:Sp:=λ vs H Q _=>∃(a:Addr) (ns:LI),vs=[.ref a]/\H a=some (.tup (ns.map V.int))/\bq ns/\ns.length≤63/\∀H' p,Same H H'->H' p=some (.tup ((stL ns ns.length).reverse.map V.int))->Q (.ref p) H'
abbrev BR:Stmt:=top 32
noncomputable def BS:Sp:=λ vs H Q _=>∃(a b:Addr) (ns ms:LI),vs=[.ref a,.ref b]/\H a=some (.tup (ns.map V.int))/\H b=some (.tup (ms.map V.int))/\bq ns/\ns.length≤63/\dq ns ms/\∀H',Same H H'->Q (.int (qL ms (stL ns ns.length).reverse)) H'
abbrev BU:Stmt:=top 33
noncomputable def BV:Sp:=λ vs H Q _=>∃(a:Addr) (ns:LI) (pl:Int),vs=[.ref a,.int pl]/\H a=some (.tup (ns.map V.int))/\bq ns/\ns.length≤63/\0≤pl/\pl < ai ns/\∀H' p,Same H H'->H' p=some (.tup ((dgL ns pl ns.length).reverse.map V.int))->Q (.ref p) H'
abbrev BW:Stmt:=top 34
noncomputable def BX:Sp:=λ vs H Q _=>∃(a:Addr) (ns:LI),vs=[.ref a]/\H a=some (.tup (ns.map V.int))/\bq ns/\ns.length≤63/\ai ns≤512/\∀H' l ps,Same H H'->H' l=some (.lst (ps.map V.ref))->TpsAt H' ps (mR ns)->Q (.ref l) H'
abbrev BY:Stmt:=top 35
noncomputable def nv:Sp:=λ vs H Q _=>∃(a:Addr) (ns:LI) (k:Nat) (m:Int),vs=[.ref a,.int k,.int m]/\H a=some (.tup (ns.map V.int))/\ns.length≤63/\k < ns.length/\∀H' p,Same H H'->H' p=some (.tup ((ns.set k m).map V.int))->Q (.ref p) H'
abbrev BZ:Stmt:=top 36
noncomputable def vo:Sp:=λ vs H Q _=>∃(a:Addr) (ns:LI) (k:Nat) (m:Int),vs=[.ref a,.int k,.int m]/\H a=some (.tup (ns.map V.int))/\ns.length≤63/\∀H' p,Same H H'->H' p=some (.tup ((ci ns k m).map V.int))->Q (.ref p) H'
abbrev Ca:Stmt:=top 37
noncomputable def rE:Sp:=λ vs H Q _=>∃(a:Addr) (ns:LI) (k:Nat),vs=[.ref a,.int k]/\H a=some (.tup (ns.map V.int))/\ns.length≤63/\k < ns.length/\∀H' p,Same H H'->H' p=some (.tup ((ns.eraseIdx k).map V.int))->Q (.ref p) H'
abbrev Cb:Stmt:=top 39
def lK:Sp:=λ vs H Q _=>∃(a:Addr) (ns:LI) (side:Int),vs=[.ref a,.int side]/\H a=some (.tup (ns.map V.int))/\¬off ns side/\Q .non H
abbrev Cc:Stmt:=top 40
noncomputable def vp:Sp:=λ vs H Q _=>∃(a b:Addr) (ns os:LI),vs=[.ref a,.ref b]/\H a=some (.tup (ns.map V.int))/\Frz H b os/\ns.length≤20/\os.length≤20/\iO ns.length os/\∀H' p,Same H H'->H' p=some (.tup ((bX ns os).map V.int))->Q (.ref p) H'
abbrev Cd:Stmt:=top 41
def rF:Sp:=λ vs H Q _=>∃(a:Addr) (ns:LI) (side:Int),vs=[.ref a,.int side]/\H a=some (.tup (ns.map V.int))/\¬off ns side/\Q (.ref a) H
abbrev Ce:Stmt:=top 42
noncomputable def vq:Sp:=λ vs H Q _=>∃(a:Addr) (ns:LI) (side first many step:Int),vs=[.ref a,.int side,.int first,.int many,.int step]/\H a=some (.tup (ns.map V.int))/\ns.length≤63/\-100 < many/\many < 1000000/\¬off ns side/\¬bad ns side first many step/\∀H' p,Same H H'->H' p=some (.tup ((ns.set side.toNat many).map V.int))->Q (.ref p) H'
abbrev Cf:Stmt:=top 43
noncomputable def vt:Sp:=λ vs H Q _=>∃(a:Addr) (ns:LI) (side many:Int),vs=[.ref a,.int side,.int many]/\H a=some (.tup (ns.map V.int))/\bq ns/\ns.length≤20/\many < 1000000/\¬lB ns side/\¬many < 0/\¬bS (ci ns side.toNat many)/\∀H' p,Same H H'->H' p=some (.tup ((ci ns side.toNat many).map V.int))->Q (.ref p) H'
abbrev Cg:Stmt:=top 44
noncomputable def vw:Sp:=λ vs H Q _=>∃(a b:Addr) (ns ms:LI),vs=[.ref a,.ref b]/\H a=some (.tup (ns.map V.int))/\H b=some (.tup (ms.map V.int))/\bq ns/\bq ms/\ms.length≤20/\¬bS ms/\ai ns=ai ms/\∀H',Same H H'->Q (.ref b) H'
abbrev Ch:Stmt:=top 45
noncomputable def vx:Sp:=λ vs H Q _=>∃(a b:Addr) (ns ms:LI) (side:Int),vs=[.ref a,.ref b,.int side]/\H a=some (.tup (ns.map V.int))/\H b=some (.tup (ms.map V.int))/\sm ns/\sm ms/\ns.length≤20/\ns.length=ms.length/\¬off ns side/\ns.eraseIdx side.toNat=ms.eraseIdx side.toNat/\¬bS (bW ns ms side)/\∀H' p,Same H H'->H' p=some (.tup ((bW ns ms side).map V.int))->Q (.ref p) H'
abbrev Ci:Stmt:=top 46
noncomputable def vy:Sp:=λ vs H Q _=>∃(a b:Addr) (ns ms:LI),vs=[.ref a,.ref b]/\H a=some (.tup (ns.map V.int))/\H b=some (.tup (ms.map V.int))/\ms.take ns.length=ns/\∀H',Same H H'->Q (.ref b) H'
abbrev Cj:Stmt:=top 47
noncomputable def rG:Sp:=λ vs H Q _=>∃(a b:Addr) (ns ms:LI),vs=[.ref a,.ref b]/\H a=some (.tup (ns.map V.int))/\H b=some (.tup (ms.map V.int))/\bV ns ms/\∀H' p,Same H H'->H' p=some (.tup ((aQ ns ms).map V.int))->Q (.ref p) H'
abbrev Ck:Stmt:=top 48
noncomputable def vz:Sp:=λ vs H Q _=>∃(a b c:Addr) (ns ms ks:LI),vs=[.ref a,.ref b,.ref c]/\H a=some (.tup (ns.map V.int))/\H b=some (.tup (ms.map V.int))/\H c=some (.tup (ks.map V.int))/\bV ns ms/\bV (aQ ns ms) ks/\∀H' p,Same H H'->H' p=some (.tup ((aQ (aQ ns ms) ks).map V.int))->Q (.ref p) H'
abbrev Cm:Stmt:=top 49
noncomputable def vA:Sp:=λ vs H Q _=>∃(a b:Addr) (n:Int) (r ms:LI),vs=[.ref a,.ref b]/\H a=some (.tup ((n::r).map V.int))/\H b=some (.tup (ms.map V.int))/\bq (n::r)/\bq ms/\r.length < 20/\ms.length≤20/\n≠0/\¬bS (ms++r)/\∀H' p,Same H H'->H' p=some (.tup ((ms++r).map V.int))->Q (.ref p) H'
abbrev Cn:Stmt:=top 50
noncomputable def vB:Sp:=λ vs H Q _=>∃(a:Addr) (ns:LI) (side:Int),vs=[.ref a,.int side]/\H a=some (.tup (ns.map V.int))/\ns.length≤63/\¬off ns side/\∀H' p,Same H H'->H' p=some (.tup ((ns.eraseIdx side.toNat).map V.int))->Q (.ref p) H'
abbrev Co:Stmt:=top 51
noncomputable def vC:Sp:=λ vs H Q _=>∃(a:Addr) (ns:LI) (side:Int),vs=[.ref a,.int side]/\H a=some (.tup (ns.map V.int))/\bq ns/\ns.length≤20/\¬bS ns/\¬off ns side/\∀H',Same H H'->Q (.ref a) H'
abbrev Cp:Stmt:=top 53
abbrev Cq:Stmt:=top 54
abbrev Ct:Stmt:=top 55
abbrev Cu:Stmt:=top 56
abbrev Cv:Stmt:=top 57
abbrev Cw:Stmt:=top 58
abbrev Cy:Stmt:=top 59
abbrev Cz:Stmt:=top 61
noncomputable def CA:Sp:=λ vs H Q _=>∃(a c:Addr) (ns cs:LI),vs=[.ref a,.ref c]/\H a=some (.tup (ns.map V.int))/\RwI H c cs/\bq ns/\ns.length≤63/\cs.length≤900/\¬bS ns/\(cs.length:Int)=ai ns/\∀H' p,Same H H'->TbAt H' p ns (cs.map dy)->Q (.ref p) H'
abbrev CB:Stmt:=top 62
abbrev CC:Stmt:=top 63
def CD:Sp:=λ vs H Q _=>∃n:Int,vs=[.int n]/\∀H' p,Same H H'->TbAt H' p [] [dy n]->Q (.ref p) H'
abbrev CF:Stmt:=top 64
noncomputable def jE:Sp:=λ vs H Q _=>∃(ta b:Addr) (ns cs ms:LI),vs=[.ref ta,.ref b]/\TbAt H ta ns cs/\H b=some (.tup (ms.map V.int))/\bq ns/\ns.length≤63/\dq ns ms/\(cs.length:Int)=ai ns/\∀H',Same H H'->Q (.int (cs.getD (plH ns ms).toNat 0)) H'
abbrev rH:Stmt:=top 66
abbrev CG:Stmt:=top 67
abbrev rJ:Stmt:=top 69
abbrev CH:Stmt:=top 70
abbrev CI:Stmt:=top 71
abbrev CJ:Stmt:=top 72
abbrev rK:Stmt:=top 73
abbrev rL:Stmt:=top 74
abbrev rM:Stmt:=top 76
abbrev rN:Stmt:=top 77
abbrev rO:Stmt:=top 78
abbrev rP:Stmt:=top 79
abbrev CK:Stmt:=top 80
abbrev rQ:Stmt:=top 81
abbrev CL:Stmt:=top 83
abbrev CM:Stmt:=top 84
abbrev CN:Stmt:=top 85
abbrev CO:Stmt:=top 86
abbrev CP:Stmt:=top 87
abbrev CQ:Stmt:=top 89
def vD:Sp:=λ vs H Q _=>∃(n:Int),vs=[.int n]/\Q (.bl true) H
abbrev CS:Stmt:=top 90
def CT:FG->Sp:=λ K=>λ vs H Q _=>∃(a:Addr) (ns:LI) (k:Nat),vs=[.ref a,.int k]/\SqL K H a (ns.map V.int)/\Q (.int (ur ns k)) H
abbrev CU:Stmt:=top 91
def CV:Sp:=λ vs H Q _=>∃(a b:Addr) (ns:LI),vs=[.ref a,.ref b]/\H a=some (.tup (ns.map V.int))/\RwI H b ns/\ns.length≤512/\Q (.bl true) H
abbrev CW:Stmt:=top 92
noncomputable def oX:Sp:=λ vs H Q _=>∃(a:Addr) (ns:LI),vs=[.ref a]/\(H a=some (.lst (ns.map V.int))\/H a=some (.tup (ns.map V.int)))/\bq ns/\Q (.int (ai ns)) H
abbrev CY:Stmt:=top 93
def oY:Sp:=λ vs H Q _=>∃(a:Addr) (ns:LI),vs=[.ref a]/\Tp H a ns/\bq ns/\ns.length≤500/\∀H',Same H H'->Q (.int (ai (ns.map aF))) H'
abbrev CZ:Stmt:=top 94
def vE:Sp:=λ vs H Q _=>∃n:Int,vs=[.int n]/\∀H',Same H H'->Q (.int (lw n)) H'
abbrev Da:Stmt:=top 95
def lL:Sp:=λ vs H Q _=>∃(a:Addr) (ks:LI) (d:Int),vs=[.ref a,.int d]/\H a=some (.lst (ks.map V.int))/\0 < ks.length/\∀k∈ks,Q (.int k) H
abbrev Db:Stmt:=top 96
def Dc:Sp:=λ vs H Q _=>∃(kd n cell mo:Int),vs=[.int kd,.int n,.int cell,.int mo]/\cW mo/\∀H' r,Same H H'->(∀Ss,mZ H' r mo Ss)->Q (.ref r) H'
abbrev Dd:Stmt:=top 97
def vF:Sp:=λ vs H Q _=>∃(a b:Addr) (ns ms:LI),vs=[.ref a,.ref b]/\Tp H a ns/\Tp H b ms/\∀H' b,Same H H'->(b=true ↔ bV ns ms)->Q (.bl b) H'
abbrev De:Stmt:=top 98
abbrev Df:Stmt:=top 99
noncomputable def Dh:Sp:=λ vs H Q _=>∃(a:Addr) (ns:LI) (d mo:Int),vs=[.ref a,.int d]/\Tp H a ns/\bI mo ns/\cW mo/\∀H' p,Same H H'->Tp H' p (lC ns d)->Q (.ref p) H'
abbrev Di:Stmt:=top 100
abbrev Dj:Stmt:=top 101
noncomputable def Dk:Sp:=λ vs H Q _=>∃(a b:Addr) (A B:LI) (k:Nat),vs=[.ref a,.ref b,.int (k:Int)]/\Tp H a A/\Tp H b B/\k < A.length/\A.length≤6/\B.length≤6/\∀H' p,Same H H'->Tp H' p (gR A B k)->Q (.ref p) H'
abbrev Dl:Stmt:=top 102
abbrev Dm:Stmt:=top 103
abbrev Dn:Stmt:=top 104
abbrev Do:Stmt:=top 105
abbrev Dp:Stmt:=top 106
abbrev Dq:Stmt:=top 107
abbrev vG:Stmt:=top 108
theorem aZ{α β:Type _}{f:α->β}{a:α}{l:List α}:List.map f (a::l)=f a::List.map f l:=rfl
theorem bh{α β:Type _}{f:α->β}:List.map f []=[]:=rfl
theorem aV{α:Type _}{a:α}{l:List α}:(a::l).length=l.length+1:=rfl
theorem aW{α:Type _}:([]:List α).length=0:=rfl
theorem bi{α:Type _}{a:α}{l m:List α}:(a::l)++m=a::(l++m):=rfl
theorem bj{α:Type _}(l:List α):[]++l=l:=rfl
theorem hid{P:Prop}(h:∀G:Prop,(P->G)->G):P:=h P id
theorem scq(s:Scope)(P L:List Str)(h:s.kind=.function/\s.isCoroutine=false/\s.isGenerator=false/\(P++L).Nodup/\(P++L).take P.length=P/\(∀x∈P,s.names.lookup x=some .local\/s.names.lookup x=some .cell)/\∀y∈s.names,y.2≠.free:=by decide +kernel):FnScope (P++L) P s:=⟨h.1,h.2.1,h.2.2.1,h.2.2.2.1,h.2.2.2.2.1,h.2.2.2.2.2.1,h.2.2.2.2.2.2⟩
section
variable {α β γ δ ε ζ η θ:Type}{p0 p1 p2 p3 p4:Addr}{i0 i1 i2 i3 i4:Int}{s0 s1 s2 s3 s4:Str}
theorem Kz{B:Addr->Addr->α->β->Prop}:(∃x0 x1 y0 y1,[V.ref p0,V.ref p1]=[.ref x0,.ref x1]/\B x0 x1 y0 y1)=(∃y0 y1,B p0 p1 y0 y1):=by simp[cG]
theorem KA{B:Addr->α->Int->Prop}:(∃x0 y0 x1,[V.ref p0,V.int i1]=[.ref x0,.int x1]/\B x0 y0 x1)=(∃y0,B p0 y0 i1):=by simp[cG]
theorem KC{B:Addr->α->Prop}:(∃x0 y0,[V.ref p0]=[.ref x0]/\B x0 y0)=(∃y0,B p0 y0):=by simp[cG]
theorem KD{B:Str->Addr->α->β->Int->Prop}:(∃x0 x1 y0 y1 x2,[V.str s0,V.ref p1,V.int i2]=[.str x0,.ref x1,.int x2]/\B x0 x1 y0 y1 x2)=(∃y0 y1,B s0 p1 y0 y1 i2):=by simp[cG]
theorem KE{B:Addr->Addr->α->β->γ->Prop}:(∃x0 x1 y0 y1 y2,[V.ref p0,V.ref p1]=[.ref x0,.ref x1]/\B x0 x1 y0 y1 y2)=(∃y0 y1 y2,B p0 p1 y0 y1 y2):=by simp[cG]
theorem KF{B:Str->Addr->α->β->Prop}:(∃x0 x1 y0 y1,[V.str s0,V.ref p1]=[.str x0,.ref x1]/\B x0 x1 y0 y1)=(∃y0 y1,B s0 p1 y0 y1):=by simp[cG]
theorem KG{B:Str->Addr->Addr->α->β->γ->δ->Prop}:(∃x0 x1 x2 y0 y1 y2 y3,[V.str s0,V.ref p1,V.ref p2]=[.str x0,.ref x1,.ref x2]/\B x0 x1 x2 y0 y1 y2 y3)=(∃y0 y1 y2 y3,B s0 p1 p2 y0 y1 y2 y3):=by simp[cG]
theorem KH{B:Addr->Addr->Addr->α->β->γ->δ->ε->ζ->Prop}:(∃x0 x1 x2 y0 y1 y2 y3 y4 y5,[V.ref p0,V.ref p1,V.ref p2]=[.ref x0,.ref x1,.ref x2]/\B x0 x1 x2 y0 y1 y2 y3 y4 y5)=(∃y0 y1 y2 y3 y4 y5,B p0 p1 p2 y0 y1 y2 y3 y4 y5):=by simp[cG]
theorem KJ{B:Addr->α->β->Int->Prop}:(∃x0 y0 y1 x1,[V.ref p0,V.int i1]=[.ref x0,.int x1]/\B x0 y0 y1 x1)=(∃y0 y1,B p0 y0 y1 i1):=by simp[cG]
theorem KL{B:Addr->α->β->Int->Int->Int->Int->Prop}:(∃x0 y0 y1 x1 x2 x3 x4,[V.ref p0,V.int i1,V.int i2,V.int i3,V.int i4]=[.ref x0,.int x1,.int x2,.int x3,.int x4]/\B x0 y0 y1 x1 x2 x3 x4)=(∃y0 y1,B p0 y0 y1 i1 i2 i3 i4):=by simp[cG]
theorem KM{B:Addr->α->β->Int->Int->Prop}:(∃x0 y0 y1 x1 x2,[V.ref p0,V.int i1,V.int i2]=[.ref x0,.int x1,.int x2]/\B x0 y0 y1 x1 x2)=(∃y0 y1,B p0 y0 y1 i1 i2):=by simp[cG]
theorem KN{B:Addr->Addr->α->β->γ->δ->Int->Prop}:(∃x0 x1 y0 y1 y2 y3 x2,[V.ref p0,V.ref p1,V.int i2]=[.ref x0,.ref x1,.int x2]/\B x0 x1 y0 y1 y2 y3 x2)=(∃y0 y1 y2 y3,B p0 p1 y0 y1 y2 y3 i2):=by simp[cG]
theorem KO{B:Addr->Addr->α->β->γ->δ->ε->Prop}:(∃x0 x1 y0 y1 y2 y3 y4,[V.ref p0,V.ref p1]=[.ref x0,.ref x1]/\B x0 x1 y0 y1 y2 y3 y4)=(∃y0 y1 y2 y3 y4,B p0 p1 y0 y1 y2 y3 y4):=by simp[cG]
theorem KP{B:Str->Int->Prop}:(∃x0 x1,[V.str s0,V.int i1]=[.str x0,.int x1]/\B x0 x1)=B s0 i1:=by simp[cG]
theorem KQ{B:Str->Int->Int->Prop}:(∃x0 x1 x2,[V.str s0,V.int i1,V.int i2]=[.str x0,.int x1,.int x2]/\B x0 x1 x2)=B s0 i1 i2:=by simp[cG]
theorem KR{B:Str->Prop}:(∃x0,[V.str s0]=[.str x0]/\B x0)=B s0:=by simp[cG]
theorem KS{B:Addr->α->Nat->Int->Prop}:(∃x0 y0 x1 x2,[V.ref p0,V.int i1,V.int i2]=[.ref x0,.int (x1:Nat),.int x2]/\B x0 y0 x1 x2)=(∃y0 x1,i1=(x1:Nat)/\B p0 y0 x1 i2):=by simp[cG]
theorem KU{B:Addr->α->Nat->Prop}:(∃x0 y0 x1,[V.ref p0,V.int i1]=[.ref x0,.int (x1:Nat)]/\B x0 y0 x1)=(∃y0 x1,i1=(x1:Nat)/\B p0 y0 x1):=by simp[cG]
theorem KW{B:Addr->α->Int->Int->Int->Int->Prop}:(∃x0 y0 x1 x2 x3 x4,[V.ref p0,V.int i1,V.int i2,V.int i3,V.int i4]=[.ref x0,.int x1,.int x2,.int x3,.int x4]/\B x0 y0 x1 x2 x3 x4)=(∃y0,B p0 y0 i1 i2 i3 i4):=by simp[cG]
theorem KY{B:Addr->α->Int->Int->Prop}:(∃x0 y0 x1 x2,[V.ref p0,V.int i1,V.int i2]=[.ref x0,.int x1,.int x2]/\B x0 y0 x1 x2)=(∃y0,B p0 y0 i1 i2):=by simp[cG]
theorem KZ{B:Addr->Addr->α->β->Int->Prop}:(∃x0 x1 y0 y1 x2,[V.ref p0,V.ref p1,V.int i2]=[.ref x0,.ref x1,.int x2]/\B x0 x1 y0 y1 x2)=(∃y0 y1,B p0 p1 y0 y1 i2):=by simp[cG]
theorem La{B:Addr->Addr->Addr->α->β->γ->Prop}:(∃x0 x1 x2 y0 y1 y2,[V.ref p0,V.ref p1,V.ref p2]=[.ref x0,.ref x1,.ref x2]/\B x0 x1 x2 y0 y1 y2)=(∃y0 y1 y2,B p0 p1 p2 y0 y1 y2):=by simp[cG]
theorem Lb{B:Int->Prop}:(∃x0,[V.int i0]=[.int x0]/\B x0)=B i0:=by simp[cG]
theorem Lc{B:Addr->Addr->α->Prop}:(∃x0 x1 y0,[V.ref p0,V.ref p1]=[.ref x0,.ref x1]/\B x0 x1 y0)=(∃y0,B p0 p1 y0):=by simp[cG]
theorem Ld{B:Int->Int->Int->Int->Prop}:(∃x0 x1 x2 x3,[V.int i0,V.int i1,V.int i2,V.int i3]=[.int x0,.int x1,.int x2,.int x3]/\B x0 x1 x2 x3)=B i0 i1 i2 i3:=by simp[cG]
theorem Le{B:Addr->α->Int->β->Prop}:(∃x0 y0 x1 y1,[V.ref p0,V.int i1]=[.ref x0,.int x1]/\B x0 y0 x1 y1)=(∃y0 y1,B p0 y0 i1 y1):=by simp[cG]
end
set_option hygiene false
local macro_rules | `(tactic| wp_walk using $xs:term,*)=>`(tactic| simp only[↓Hv,↓Hw,↓exB,↓exI,↓exS,↓exR,↓Hx,↓Hy,↓Hz,↓exC,↓HA,↓HB,↓HD,↓HE,↓HG,↓HH,↓HI,↓HQ,↓HJ,↓HK,↓HL,↓HM,↓HP,↓HN,↓HR,↓Kz,↓KA,↓KC,↓KD,↓KE,↓KF,↓KG,↓KH,↓KJ,↓KL,↓KM,↓KN,↓KO,↓KP,↓KQ,↓KR,↓KS,↓KU,↓KW,↓KY,↓KZ,↓La,↓Lb,↓Lc,↓Ld,↓Le,↓Gk,↓sQ,↓yw,↓yF,↓yE,↓Gv,↓nF,↓yG,↓yJ,↓GE,↓GF,↓GG,↓yN,↓tQ,↓tU,↓yT,↓yW,↓yX,↓GQ,↓yZ,↓Hh,↓zk,↓ue,↓Hm,↓Hn,↓Ho,↓Ht,↓Hu,DC,DD,DE,DF,↓tBM,tyV,↓Gi,↓yn,↓ym,↓FR,↓yj,↓tH,↓FO,↓FQ,↓FS,↓tI,↓yk,↓xO,↓xR,↓xT,↓Fo,↓FC,↓FD,↓xY,↓xZ,↓tSl,↓wO,↓wP,↓wX,↓wg,↓wV,↓sj,↓sh,iU,↓tC,↓tOp,↓tUn,rI,rI0,↓rU,rEq_ex,rNe_ex,↓pM,↓tB,↓vU,↓vT,↓tOr,↓vV,↓vW,↓vX,↓tIf,nM,↓tCB,↓nL,↓kK,↓wz,↓wC,↓wB,↓jL,↓fE,↓vZ,↓wa,↓wU,↓wt,↓CMul,↓wq,↓xt,L2.start,gX,↓EO,↓EQ,↓ER,↓ES,↓ET,↓EU,bf,EV,EW,EX,EY,EZ,Fa,tyS,↓xB,↓xA,↓wf,↓we,↓xw,↓xy,↓xz,inV,bZ,ar,HO.lst.injEq,HO.tup.injEq,List.any_cons,List.any_nil,List.all_cons,List.all_nil,Bool.or_false,Bool.and_self,Bool.and_true,Bool.or_eq_true,beq_iff_eq,V.int.injEq,V.bl.injEq,V.str.injEq,V.ref.injEq,V.ty.injEq,aZ,bh,aV,aW,bi,bj,List.getElem?_cons_zero,List.getElem?_cons_succ,sW,exists_eq_left',exists_eq_left,exists_and_left,List.cons.injEq,and_true,true_and,cG,decide_eq_true_eq,List.set_cons_zero,List.set_cons_succ,List.replicate,dF,s0r,Nat.reduceAdd,Nat.reduceSub,Int.reduceLT,Int.reduceLE,Int.reduceNeg,Int.reduceSub,Int.reduceAdd,Int.reducePow,Int.reduceToNat,na2,Fc,Nat.reducePow,Nat.reduceLT,gG,s0k,Bool.not_true,Bool.not_false,tT,bE,cU,eq_self,true_or,or_true,cL,false_or,String.reduceEq,Option.isSome_some,ne_eq,vH,not_true_eq_false,Bool.not_eq_true',decide_eq_false_iff_not,Bool.true_eq_false,$[↓$xs:term],*,$[$xs:term],*])
local macro_rules | `(tactic| wp_walk)=>`(tactic| wp_walk using eX,da,eqV) | `(tactic| tbr_iter $a)=>`(tactic| wp_walk using eX,da,eqV,$a) | `(tactic| ktr_call $a $b)=>`(tactic| wp_walk using eX,da,eqV,$a,$b) | `(tactic| cell_end $a $b $c)=>`(tactic| wp_walk using eX,da,eqV,$a,$b,$c) | `(tactic| kpf_say $a $b $c $d)=>`(tactic| wp_walk using eX,da,eqV,$a,$b,$c,$d) | `(tactic| ktn_end $j)=>`(tactic| (refine zA $j ?_ (λ R hR=>?_);rotate_left))
set_option hygiene true
structure Gl (K:FG)(x:Str)(st:Stmt)(f:Addr)(fd:FuncData):Prop where
 F:Fun K x x st f fd
 a:W.nsIn K mainGlobals x=some (some (.ref f))
structure GlT (K:FG)(x:Str)(st:Stmt)(f:Addr)(fd:FuncData)(c T:Addr):Prop extends Gl K x st f fd where
 hc:fd.code=.ref c
 tb:W.tabIn K x=some (c,T)
def Gx(K:FG)(x:Str)(st:Stmt):Prop:=∃f fd,Gl K x st f fd
section
variable {K:FG}{x:Str}{st:Stmt}{f:Addr}{oc:Value}{od an:OA}{osl:AV}{kV doc pm cdv ct:Value}
theorem gl_ex(a:W.nsIn K mainGlobals x=some (some (.ref f)))(l:K.lookup f=some ⟨oc,od,.func (W.fnOf x x (dJ st) (df st) (aH st) .none kV doc pm an cdv ct),osl⟩)(c:W.codeIn K cdv x=true)(k:W.keepIn K (.ref f)=true):Gx K x st:=⟨_,_,xk l c k,a⟩
theorem gx_int(h:W.nsIn K mainGlobals x=some (some (.int i t))):∃t,W.nsIn K mainGlobals x=some (some (.int i t)):=⟨_,h⟩
theorem glt_ex{oc2:Value}{od2:OA}{sl2:AV}(a:W.nsIn K mainGlobals x=some (some (.ref f)))(l:K.lookup f=some ⟨oc,od,.func (W.fnOf x x (dJ st) (df st) (aH st) .none kV doc pm an (.ref c) ct),osl⟩)(q:W.codeIn K (.ref c) x=true)(k:W.keepIn K (.ref f)=true)(h4:K.lookup c=some ⟨oc2,od2,.fields vs,sl2⟩)(h5:vs[11]?=some (.ref T)):∃f fd c,GlT K x st f fd c T:=⟨_,_,_,⟨xk l q k,a⟩,rfl,GN a l rfl h4 h5⟩
end
structure Sv (P:Program)(w:World)(K:FG)(TD TL TE TC TT TP TU TS TJ:Addr):Prop where
 g0:Gx K "wrapped" Bz
 g1:Gx K "sign_of" BA
 g2:Gx K "quotient" BC
 g3:Gx K "remainder" BE
 g4:Gx K "once" BG
 g5:Gx K "twice" BH
 g6:Gx K "neutral" BI
 g7:Gx K "arg_places" BJ
 g8:Gx K "args_of" BL
 g9:Gx K "amount" BM
 g10:Gx K "breadth" BN
 g11:Gx K "allowed" BP
 g12:Gx K "strides_of" BQ
 g13:Gx K "place_of" BR
 g14:Gx K "at_of" BU
 g15:Gx K "all_at" BW
 g16:Gx K "changed_at" BY
 g17:Gx K "added_at" BZ
 g18:Gx K "dropped_at" Ca
 g19:Gx K "ask_side" Cb
 g20:Gx K "turned_sides" Cc
 g21:Gx K "flipped_sides" Cd
 g22:Gx K "cut_sides" Ce
 g23:Gx K "spread_sides" Cf
 g24:Gx K "laid_sides" Cg
 g25:Gx K "joined_sides" Ch
 g26:Gx K "led_sides" Ci
 g27:Gx K "paired_sides" Cj
 g28:Gx K "picked_sides" Ck
 g29:Gx K "fetched_sides" Cm
 g30:Gx K "folded_sides" Cn
 g31:Gx K "counted_sides" Co
 g32:Gx K "ask_word" Cp
 g33:Gx K "first_sides" Cq
 g34:Gx K "moved_sides" Ct
 g35:Gx K "step_sides" Cu
 g36:Gx K "step_told" Cv
 g37:Gx K "program_told" Cw
 g38:Gx K "checked" Cy
 g39:Gx K "table_of" Cz
 g40:Gx K "table_by" CB
 g41:Gx K "alone" CC
 g42:Gx K "cell_at" CF
 g44:Gx K "run" CG
 g46:Gx K "each" CH
 g47:Gx K "pair" CI
 g48:Gx K "pick" CJ
 g55:Gx K "lay" CK
 g57:Gx K "moved_table" CL
 g58:Gx K "step_table" CM
 g59:Gx K "inputs_checked" CN
 g60:Gx K "all_tables" CO
 g61:Gx K "answers" CP
 g62:Gx K "_law_whole" CQ
 g63:Gx K "_law_cell_at" CS
 g64:Gx K "_law_is_sides" CU
 g65:Gx K "_law_size" CW
 g66:Gx K "_law_wide" CY
 g67:Gx K "_law_number" CZ
 g68:Gx K "_law_recent" Da
 g69:Gx K "_law_begun" Db
 g70:Gx K "_law_led" Dd
 g71:Gx K "_law_lifted" De
 g72:Gx K "_law_laid" Df
 g73:Gx K "_law_moved" Di
 g74:Gx K "_law_both" Dj
 g75:Gx K "_law_met" Dl
 g76:Gx K "_law_step" Dm
 g77:Gx K "_law_program" Dn
 g78:Gx K "_law_inputs" Do
 g79:Gx K "_law_table" Dp
 g80:Gx K "_law_same" Dq
 g81:Gx K "law" vG
 g43:∃f fd c,GlT K "fold" rH f fd c TD
 g45:∃f fd c,GlT K "lead" rJ f fd c TL
 g49:∃f fd c,GlT K "fetch" rK f fd c TE
 g50:∃f fd c,GlT K "counted" rL f fd c TC
 g51:∃f fd c,GlT K "turn" rM f fd c TT
 g52:∃f fd c,GlT K "flip" rN f fd c TP
 g53:∃f fd c,GlT K "cut" rO f fd c TU
 g54:∃f fd c,GlT K "spread" rP f fd c TS
 g56:∃f fd c,GlT K "join" rQ f fd c TJ
 babs:W.nsIn K mainGlobals "abs"=some none
 bmax:W.nsIn K mainGlobals "max"=some none
 bmin:W.nsIn K mainGlobals "min"=some none
 btuple:W.nsIn K mainGlobals "tuple"=some none
 blen:W.nsIn K mainGlobals "len"=some none
 breversed:W.nsIn K mainGlobals "reversed"=some none
 bzip:W.nsIn K mainGlobals "zip"=some none
 bsum:W.nsIn K mainGlobals "sum"=some none
 brange:W.nsIn K mainGlobals "range"=some none
 bsorted:W.nsIn K mainGlobals "sorted"=some none
 blist:W.nsIn K mainGlobals "list"=some none
 bany:W.nsIn K mainGlobals "any"=some none
 benumerate:W.nsIn K mainGlobals "enumerate"=some none
 bisinstance:W.nsIn K mainGlobals "isinstance"=some none
 bint:W.nsIn K mainGlobals "int"=some none
 bbool:W.nsIn K mainGlobals "bool"=some none
 qLOW:∃t,W.nsIn K mainGlobals "LOW"=some (some (.int (-9223372036854775808) t))
 qHIGH:∃t,W.nsIn K mainGlobals "HIGH"=some (some (.int 9223372036854775807 t))
 qMOST_SIDES:∃t,W.nsIn K mainGlobals "MOST_SIDES"=some (some (.int 6 t))
 qMOST_BREADTH:∃t,W.nsIn K mainGlobals "MOST_BREADTH"=some (some (.int 512 t))
 qMOST_STEPS:∃t,W.nsIn K mainGlobals "MOST_STEPS"=some (some (.int 40 t))
 qMOST_OUTS:∃t,W.nsIn K mainGlobals "MOST_OUTS"=some (some (.int 8 t))
 qPT:∃d,W.nsIn K mainGlobals "PARTS"=some (some (.ref d))/\uh P w K d
 nd9:((T9 TD TL TE TC TT TP TU TS TJ).map λ x=>x.1).Nodup
structure Ev (P:Program)(w:World)(K:FG)(mg:SV)(base:Heap)(TD TL TE TC TT TP TU TS TJ:Addr):Prop extends Sv P w K TD TL TE TC TT TP TU TS TJ where
 m:∀ {x:Str}{v:Option Value},W.nsIn K mainGlobals x=some v->mg x=v
 t43:∃f fd c,GlT K "fold" rH f fd c TD/\TabF base mg c TD
 t45:∃f fd c,GlT K "lead" rJ f fd c TL/\TabF base mg c TL
 t49:∃f fd c,GlT K "fetch" rK f fd c TE/\TabF base mg c TE
 t50:∃f fd c,GlT K "counted" rL f fd c TC/\TabF base mg c TC
 t51:∃f fd c,GlT K "turn" rM f fd c TT/\TabF base mg c TT
 t52:∃f fd c,GlT K "flip" rN f fd c TP/\TabF base mg c TP
 t53:∃f fd c,GlT K "cut" rO f fd c TU/\TabF base mg c TU
 t54:∃f fd c,GlT K "spread" rP f fd c TS/\TabF base mg c TS
 t56:∃f fd c,GlT K "join" rQ f fd c TJ/\TabF base mg c TJ
section
variable {K:FG}{x:Str}{st:Stmt}{f:Addr}{fd:FuncData}
theorem lnS{α:Type}{us:List α}{n:Nat}(h:us.length=n+1):∃a r,us=a::r/\r.length=n:=by
 cases us with
 | nil=>cases h
 | cons a r=>exact⟨a,r,rfl,Nat.succ.inj h⟩
theorem Gl.b1{p0:Str}(g:Gl K x st f fd)(b:∀(kV doc pm:Value) (an:OA) (cdv ct:Value) (u0:Value),bindArgs (W.fnOf x x (dJ st) (df st) (aH st) .none kV doc pm an cdv ct) ⟨[u0],[]⟩=pure [(p0,u0)]:=by intros;rfl):Binds K fd [p0] []:=g.F.binds λ kV doc pm an cdv ct us hl=>by
 obtain⟨u0,r0,rfl,q0⟩:=lnS hl;cases oZ q0;exact b kV doc pm an cdv ct u0
theorem Gl.b2{p0 p1:Str}(g:Gl K x st f fd)(b:∀(kV doc pm:Value) (an:OA) (cdv ct:Value) (u0 u1:Value),bindArgs (W.fnOf x x (dJ st) (df st) (aH st) .none kV doc pm an cdv ct) ⟨[u0,u1],[]⟩=pure [(p0,u0),(p1,u1)]:=by intros;rfl):Binds K fd [p0,p1] []:=g.F.binds λ kV doc pm an cdv ct us hl=>by
 obtain⟨u0,r0,rfl,q0⟩:=lnS hl;obtain⟨u1,r1,rfl,q1⟩:=lnS q0;cases oZ q1;exact b kV doc pm an cdv ct u0 u1
theorem Gl.b3{p0 p1 p2:Str}(g:Gl K x st f fd)(b:∀(kV doc pm:Value) (an:OA) (cdv ct:Value) (u0 u1 u2:Value),bindArgs (W.fnOf x x (dJ st) (df st) (aH st) .none kV doc pm an cdv ct) ⟨[u0,u1,u2],[]⟩=pure [(p0,u0),(p1,u1),(p2,u2)]:=by intros;rfl):Binds K fd [p0,p1,p2] []:=g.F.binds λ kV doc pm an cdv ct us hl=>by
 obtain⟨u0,r0,rfl,q0⟩:=lnS hl;obtain⟨u1,r1,rfl,q1⟩:=lnS q0;obtain⟨u2,r2,rfl,q2⟩:=lnS q1;cases oZ q2;exact b kV doc pm an cdv ct u0 u1 u2
theorem Gl.b4{p0 p1 p2 p3:Str}(g:Gl K x st f fd)(b:∀(kV doc pm:Value) (an:OA) (cdv ct:Value) (u0 u1 u2 u3:Value),bindArgs (W.fnOf x x (dJ st) (df st) (aH st) .none kV doc pm an cdv ct) ⟨[u0,u1,u2,u3],[]⟩=pure [(p0,u0),(p1,u1),(p2,u2),(p3,u3)]:=by intros;rfl):Binds K fd [p0,p1,p2,p3] []:=g.F.binds λ kV doc pm an cdv ct us hl=>by
 obtain⟨u0,r0,rfl,q0⟩:=lnS hl;obtain⟨u1,r1,rfl,q1⟩:=lnS q0;obtain⟨u2,r2,rfl,q2⟩:=lnS q1;obtain⟨u3,r3,rfl,q3⟩:=lnS q2;cases oZ q3;exact b kV doc pm an cdv ct u0 u1 u2 u3
theorem Gl.b5{p0 p1 p2 p3 p4:Str}(g:Gl K x st f fd)(b:∀(kV doc pm:Value) (an:OA) (cdv ct:Value) (u0 u1 u2 u3 u4:Value),bindArgs (W.fnOf x x (dJ st) (df st) (aH st) .none kV doc pm an cdv ct) ⟨[u0,u1,u2,u3,u4],[]⟩=pure [(p0,u0),(p1,u1),(p2,u2),(p3,u3),(p4,u4)]:=by intros;rfl):Binds K fd [p0,p1,p2,p3,p4] []:=g.F.binds λ kV doc pm an cdv ct us hl=>by
 obtain⟨u0,r0,rfl,q0⟩:=lnS hl;obtain⟨u1,r1,rfl,q1⟩:=lnS q0;obtain⟨u2,r2,rfl,q2⟩:=lnS q1;obtain⟨u3,r3,rfl,q3⟩:=lnS q2;obtain⟨u4,r4,rfl,q4⟩:=lnS q3;cases oZ q4;exact b kV doc pm an cdv ct u0 u1 u2 u3 u4
end
section
variable {P:Program}{w:World}{K:FG}{mg:SV}{base:Heap}{TD TL TE TC TT TP TU TS TJ:Addr}(Z0:Ev P w K mg base TD TL TE TC TT TP TU TS TJ)
noncomputable def Cl(_:Ev P w K mg base TD TL TE TC TT TP TU TS TJ):List Prop:=let c:=Cr P w K mg base CX0;let d:=Cr P w K mg base (CX1 P w);[c 1 "wrapped" ["n"] lJ,c 1 "sign_of" ["x"] BB,c 2 "quotient" ["x","y"] BD,c 1 "remainder" ["x","y"] BF,c 2 "once" ["word","x"] rB,c 3 "twice" ["word","x","y"] nr,c 1 "neutral" ["word"] rC,c 1 "arg_places" ["form"] BK,c 2 "args_of" ["step"] rD,c 1 "amount" ["sides"] oW,c 2 "breadth" ["sides"] BO,c 3 "allowed" ["sides"] kB,c 1 "strides_of" ["sides"] vn,c 2 "place_of" ["sides","at"] BS,c 2 "at_of" ["sides","place"] BV,c 3 "all_at" ["sides"] BX,c 1 "changed_at" ["row","k","number"] nv,c 1 "added_at" ["row","k","number"] vo,c 1 "dropped_at" ["row","k"] rE,c 1 "ask_side" ["sides","side"] lK,c 1 "turned_sides" ["sides","order"] vp,c 2 "flipped_sides" ["sides","side"] rF,c 2 "cut_sides" ["sides","side","first","many","step"] vq,c 4 "spread_sides" ["sides","side","many"] vt,c 4 "laid_sides" ["sides","others"] vw,c 4 "joined_sides" ["sides","others","side"] vx,c 1 "led_sides" ["sides","others"] vy,c 2 "paired_sides" ["sides","others"] rG,c 3 "picked_sides" ["marks","sides","others"] vz,c 4 "fetched_sides" ["sides","others"] vA,c 2 "folded_sides" ["sides","side"] vB,c 4 "counted_sides" ["sides","side"] vC,c 4 "ask_word" ["step"] AJ,c 5 "first_sides" ["step"] AK,c 5 "moved_sides" ["step","sides"] AL,c 6 "step_sides" ["step","sides"] AM,c 7 "step_told" ["step","sides"] AN,c 8 "program_told" ["program"] AS,c 9 "checked" ["program"] AT,c 4 "table_of" ["sides","cells"] CA,c 7 "table_by" ["sides","number_at"] (iH P w K mg base),c 5 "alone" ["n"] CD,c 3 "cell_at" ["tab","at"] jE,c 8 "fold" ["word","tab","side"] (Bh TD),c 4 "run" ["word","tab","side"] Bi,c 8 "lead" ["tab","sides"] (nq TL),c 4 "each" ["word","tab"] Bj,c 9 "pair" ["word","tab","other"] (Bk TL),c 9 "pick" ["marks","tab","other"] (Bl TL),c 8 "fetch" ["tab","other"] (Bt TE),c 8 "counted" ["sides","side"] (Bm TC),c 8 "turn" ["tab","order"] (Bn TT),c 8 "flip" ["tab","side"] (Bo TP),c 8 "cut" ["tab","side","first","many","step"] (Bp TU),c 8 "spread" ["tab","side","many"] (Bq TS),c 5 "lay" ["tab","sides"] Br,c 8 "join" ["tab","other","side"] (Bs TJ),c 10 "moved_table" ["step","tab"] (Kj TD TL TE TC TT TP TU TS TJ),c 11 "step_table" ["step","tabs"] (Kk TD TL TE TC TT TP TU TS TJ),c 12 "inputs_checked" ["program","inputs"] Km,c 13 "all_tables" ["program","inputs"] (Kn TD TL TE TC TT TP TU TS TJ),c 14 "answers" ["program","inputs"] (Kp TD TL TE TC TT TP TU TS TJ),c 1 "_law_whole" ["found"] vD,c 1 "_law_cell_at" ["script","k"] (CT K),c 2 "_law_is_sides" ["found","due"] CV,c 1 "_law_size" ["sides"] oX,c 2 "_law_wide" ["sides"] oY,c 1 "_law_number" ["n"] vE,c 1 "_law_recent" ["pool","d"] lL,c 3 "_law_begun" ["kind","n","cell","most"] Dc,c 1 "_law_led" ["one","other"] vF,c 2 "_law_lifted" ["kind","d","sides"] Ax,c 2 "_law_laid" ["own","d"] Dh,c 3 "_law_moved" ["kind","d","a","own","most"] (Ao K),c 1 "_law_both" ["own","other","side"] Dk,c 3 "_law_met" ["kind","d","sides","most"] Ay,c 4 "_law_step" ["cell","sides","most"] Az,c 5 "_law_program" ["cells","most"] AE,c 3 "_law_inputs" ["cells","steps"] (Kq K),c 3 "_law_table" ["found","sides"] Bf,c 4 "_law_same" ["found","due","sides"] Ky]
def Cs(i:Nat):Prop:=∀j,j < i->ca (Cl Z0) j
variable {Z0}
theorem cc(C:Cs Z0 i)(j:Nat)(h:j < i:=by decide):ca (Cl Z0) j:=C j h
theorem stp(C:Cs Z0 i)(h:ca (Cl Z0) i):Cs Z0 (i+1):=λ j hj=>if e:j=i then e ▸ h else C j (Nat.lt_of_le_of_ne (Nat.le_of_lt_succ hj) e)
variable (Z0)
include Z0
theorem Ev.zabs:mg "abs"=none:=Z0.m Z0.babs
theorem Ev.zmax:mg "max"=none:=Z0.m Z0.bmax
theorem Ev.zmin:mg "min"=none:=Z0.m Z0.bmin
theorem Ev.ztuple:mg "tuple"=none:=Z0.m Z0.btuple
theorem Ev.zlen:mg "len"=none:=Z0.m Z0.blen
theorem Ev.zreversed:mg "reversed"=none:=Z0.m Z0.breversed
theorem Ev.zzip:mg "zip"=none:=Z0.m Z0.bzip
theorem Ev.zsum:mg "sum"=none:=Z0.m Z0.bsum
theorem Ev.zrange:mg "range"=none:=Z0.m Z0.brange
theorem Ev.zsorted:mg "sorted"=none:=Z0.m Z0.bsorted
theorem Ev.zlist:mg "list"=none:=Z0.m Z0.blist
theorem Ev.zany:mg "any"=none:=Z0.m Z0.bany
theorem Ev.zenumerate:mg "enumerate"=none:=Z0.m Z0.benumerate
theorem Ev.zisinstance:mg "isinstance"=none:=Z0.m Z0.bisinstance
theorem Ev.zint:mg "int"=none:=Z0.m Z0.bint
theorem Ev.zbool:mg "bool"=none:=Z0.m Z0.bbool
theorem Ev.gLOW:∃t,mg "LOW"=some (.int (-9223372036854775808) t):=Z0.qLOW.imp λ _ h=>Z0.m h
theorem Ev.gHIGH:∃t,mg "HIGH"=some (.int 9223372036854775807 t):=Z0.qHIGH.imp λ _ h=>Z0.m h
theorem Ev.gMOST_SIDES:∃t,mg "MOST_SIDES"=some (.int 6 t):=Z0.qMOST_SIDES.imp λ _ h=>Z0.m h
theorem Ev.gMOST_BREADTH:∃t,mg "MOST_BREADTH"=some (.int 512 t):=Z0.qMOST_BREADTH.imp λ _ h=>Z0.m h
theorem Ev.gMOST_STEPS:∃t,mg "MOST_STEPS"=some (.int 40 t):=Z0.qMOST_STEPS.imp λ _ h=>Z0.m h
theorem Ev.gMOST_OUTS:∃t,mg "MOST_OUTS"=some (.int 8 t):=Z0.qMOST_OUTS.imp λ _ h=>Z0.m h
theorem Ev.pt:∃d,mg "PARTS"=some (.ref d)/\uh P w K d:=Z0.qPT.imp λ _ h=>⟨Z0.m h.1,h.2⟩
theorem kz1{st:Stmt}{p0:Str}(g:Gx K x st)(ok:∀f fd,Fun K x x st f fd->FnOk P w K mg base CX k f fd [p0] sp)(b:∀(kV doc pm:Value) (an:OA) (cdv ct:Value) (u0:Value),bindArgs (W.fnOf x x (dJ st) (df st) (aH st) .none kV doc pm an cdv ct) ⟨[u0],[]⟩=pure [(p0,u0)]:=by intros;rfl):Cr P w K mg base CX k x [p0] sp:=λ n hn=>by
 obtain⟨f,fd,g⟩:=g;exact(Callee.mk' g.F (Z0.m g.a) (g.b1 b) (ok f fd g.F)).mono hn
theorem kz2{st:Stmt}{p0 p1:Str}(g:Gx K x st)(ok:∀f fd,Fun K x x st f fd->FnOk P w K mg base CX k f fd [p0,p1] sp)(b:∀(kV doc pm:Value) (an:OA) (cdv ct:Value) (u0 u1:Value),bindArgs (W.fnOf x x (dJ st) (df st) (aH st) .none kV doc pm an cdv ct) ⟨[u0,u1],[]⟩=pure [(p0,u0),(p1,u1)]:=by intros;rfl):Cr P w K mg base CX k x [p0,p1] sp:=λ n hn=>by
 obtain⟨f,fd,g⟩:=g;exact(Callee.mk' g.F (Z0.m g.a) (g.b2 b) (ok f fd g.F)).mono hn
theorem pd{st:Stmt}{p0 p1:Str}(g:∃f fd c,GlT K x st f fd c T/\TabF base mg c T)(ok:∀f fd c,Fun K x x st f fd->fd.code=.ref c->TabF base mg c T->FnOk P w K mg base CX k f fd [p0,p1] sp)(b:∀(kV doc pm:Value) (an:OA) (cdv ct:Value) (u0 u1:Value),bindArgs (W.fnOf x x (dJ st) (df st) (aH st) .none kV doc pm an cdv ct) ⟨[u0,u1],[]⟩=pure [(p0,u0),(p1,u1)]:=by intros;rfl):Cr P w K mg base CX k x [p0,p1] sp:=λ n hn=>by
 obtain⟨f,fd,c,g,t⟩:=g;exact(Callee.mk' g.F (Z0.m g.a) (g.toGl.b2 b) (ok f fd c g.F g.hc t)).mono hn
theorem kz3{st:Stmt}{p0 p1 p2:Str}(g:Gx K x st)(ok:∀f fd,Fun K x x st f fd->FnOk P w K mg base CX k f fd [p0,p1,p2] sp)(b:∀(kV doc pm:Value) (an:OA) (cdv ct:Value) (u0 u1 u2:Value),bindArgs (W.fnOf x x (dJ st) (df st) (aH st) .none kV doc pm an cdv ct) ⟨[u0,u1,u2],[]⟩=pure [(p0,u0),(p1,u1),(p2,u2)]:=by intros;rfl):Cr P w K mg base CX k x [p0,p1,p2] sp:=λ n hn=>by
 obtain⟨f,fd,g⟩:=g;exact(Callee.mk' g.F (Z0.m g.a) (g.b3 b) (ok f fd g.F)).mono hn
theorem vI{st:Stmt}{p0 p1 p2:Str}(g:∃f fd c,GlT K x st f fd c T/\TabF base mg c T)(ok:∀f fd c,Fun K x x st f fd->fd.code=.ref c->TabF base mg c T->FnOk P w K mg base CX k f fd [p0,p1,p2] sp)(b:∀(kV doc pm:Value) (an:OA) (cdv ct:Value) (u0 u1 u2:Value),bindArgs (W.fnOf x x (dJ st) (df st) (aH st) .none kV doc pm an cdv ct) ⟨[u0,u1,u2],[]⟩=pure [(p0,u0),(p1,u1),(p2,u2)]:=by intros;rfl):Cr P w K mg base CX k x [p0,p1,p2] sp:=λ n hn=>by
 obtain⟨f,fd,c,g,t⟩:=g;exact(Callee.mk' g.F (Z0.m g.a) (g.toGl.b3 b) (ok f fd c g.F g.hc t)).mono hn
theorem kz4{st:Stmt}{p0 p1 p2 p3:Str}(g:Gx K x st)(ok:∀f fd,Fun K x x st f fd->FnOk P w K mg base CX k f fd [p0,p1,p2,p3] sp)(b:∀(kV doc pm:Value) (an:OA) (cdv ct:Value) (u0 u1 u2 u3:Value),bindArgs (W.fnOf x x (dJ st) (df st) (aH st) .none kV doc pm an cdv ct) ⟨[u0,u1,u2,u3],[]⟩=pure [(p0,u0),(p1,u1),(p2,u2),(p3,u3)]:=by intros;rfl):Cr P w K mg base CX k x [p0,p1,p2,p3] sp:=λ n hn=>by
 obtain⟨f,fd,g⟩:=g;exact(Callee.mk' g.F (Z0.m g.a) (g.b4 b) (ok f fd g.F)).mono hn
theorem kz5{st:Stmt}{p0 p1 p2 p3 p4:Str}(g:Gx K x st)(ok:∀f fd,Fun K x x st f fd->FnOk P w K mg base CX k f fd [p0,p1,p2,p3,p4] sp)(b:∀(kV doc pm:Value) (an:OA) (cdv ct:Value) (u0 u1 u2 u3 u4:Value),bindArgs (W.fnOf x x (dJ st) (df st) (aH st) .none kV doc pm an cdv ct) ⟨[u0,u1,u2,u3,u4],[]⟩=pure [(p0,u0),(p1,u1),(p2,u2),(p3,u3),(p4,u4)]:=by intros;rfl):Cr P w K mg base CX k x [p0,p1,p2,p3,p4] sp:=λ n hn=>by
 obtain⟨f,fd,g⟩:=g;exact(Callee.mk' g.F (Z0.m g.a) (g.b5 b) (ok f fd g.F)).mono hn
theorem Lf{st:Stmt}{p0 p1 p2 p3 p4:Str}(g:∃f fd c,GlT K x st f fd c T/\TabF base mg c T)(ok:∀f fd c,Fun K x x st f fd->fd.code=.ref c->TabF base mg c T->FnOk P w K mg base CX k f fd [p0,p1,p2,p3,p4] sp)(b:∀(kV doc pm:Value) (an:OA) (cdv ct:Value) (u0 u1 u2 u3 u4:Value),bindArgs (W.fnOf x x (dJ st) (df st) (aH st) .none kV doc pm an cdv ct) ⟨[u0,u1,u2,u3,u4],[]⟩=pure [(p0,u0),(p1,u1),(p2,u2),(p3,u3),(p4,u4)]:=by intros;rfl):Cr P w K mg base CX k x [p0,p1,p2,p3,p4] sp:=λ n hn=>by
 obtain⟨f,fd,c,g,t⟩:=g;exact(Callee.mk' g.F (Z0.m g.a) (g.toGl.b5 b) (ok f fd c g.F g.hc t)).mono hn
omit Z0 in
@[elab_as_elim] theorem el1{α0:Type}{f:α0->List V}{B:α0->Prop}{G:List V->Prop}(vs:List V)(h:∃x0,vs=f x0/\B x0)(k:∀x0,B x0->G (f x0)):G vs:=by
 obtain⟨x0,rfl,h⟩:=h;exact k _ h
omit Z0 in
@[elab_as_elim] theorem el2{α0 α1:Type}{f:α0->α1->List V}{B:α0->α1->Prop}{G:List V->Prop}(vs:List V)(h:∃x0 x1,vs=f x0 x1/\B x0 x1)(k:∀x0 x1,B x0 x1->G (f x0 x1)):G vs:=by
 obtain⟨x0,x1,rfl,h⟩:=h;exact k _ _ h
omit Z0 in
@[elab_as_elim] theorem el3{α0 α1 α2:Type}{f:α0->α1->α2->List V}{B:α0->α1->α2->Prop}{G:List V->Prop}(vs:List V)(h:∃x0 x1 x2,vs=f x0 x1 x2/\B x0 x1 x2)(k:∀x0 x1 x2,B x0 x1 x2->G (f x0 x1 x2)):G vs:=by
 obtain⟨x0,x1,x2,rfl,h⟩:=h;exact k _ _ _ h
omit Z0 in
@[elab_as_elim] theorem el4{α0 α1 α2 α3:Type}{f:α0->α1->α2->α3->List V}{B:α0->α1->α2->α3->Prop}{G:List V->Prop}(vs:List V)(h:∃x0 x1 x2 x3,vs=f x0 x1 x2 x3/\B x0 x1 x2 x3)(k:∀x0 x1 x2 x3,B x0 x1 x2 x3->G (f x0 x1 x2 x3)):G vs:=by
 obtain⟨x0,x1,x2,x3,rfl,h⟩:=h;exact k _ _ _ _ h
omit Z0 in
@[elab_as_elim] theorem el5{α0 α1 α2 α3 α4:Type}{f:α0->α1->α2->α3->α4->List V}{B:α0->α1->α2->α3->α4->Prop}{G:List V->Prop}(vs:List V)(h:∃x0 x1 x2 x3 x4,vs=f x0 x1 x2 x3 x4/\B x0 x1 x2 x3 x4)(k:∀x0 x1 x2 x3 x4,B x0 x1 x2 x3 x4->G (f x0 x1 x2 x3 x4)):G vs:=by
 obtain⟨x0,x1,x2,x3,x4,rfl,h⟩:=h;exact k _ _ _ _ _ h
omit Z0 in
@[elab_as_elim] theorem el6{α0 α1 α2 α3 α4 α5:Type}{f:α0->α1->α2->α3->α4->α5->List V}{B:α0->α1->α2->α3->α4->α5->Prop}{G:List V->Prop}(vs:List V)(h:∃x0 x1 x2 x3 x4 x5,vs=f x0 x1 x2 x3 x4 x5/\B x0 x1 x2 x3 x4 x5)(k:∀x0 x1 x2 x3 x4 x5,B x0 x1 x2 x3 x4 x5->G (f x0 x1 x2 x3 x4 x5)):G vs:=by
 obtain⟨x0,x1,x2,x3,x4,x5,rfl,h⟩:=h;exact k _ _ _ _ _ _ h
omit Z0 in
@[elab_as_elim] theorem el7{α0 α1 α2 α3 α4 α5 α6:Type}{f:α0->α1->α2->α3->α4->α5->α6->List V}{B:α0->α1->α2->α3->α4->α5->α6->Prop}{G:List V->Prop}(vs:List V)(h:∃x0 x1 x2 x3 x4 x5 x6,vs=f x0 x1 x2 x3 x4 x5 x6/\B x0 x1 x2 x3 x4 x5 x6)(k:∀x0 x1 x2 x3 x4 x5 x6,B x0 x1 x2 x3 x4 x5 x6->G (f x0 x1 x2 x3 x4 x5 x6)):G vs:=by
 obtain⟨x0,x1,x2,x3,x4,x5,x6,rfl,h⟩:=h;exact k _ _ _ _ _ _ _ h
omit Z0 in
@[elab_as_elim] theorem el8{α0 α1 α2 α3 α4 α5 α6 α7:Type}{f:α0->α1->α2->α3->α4->α5->α6->α7->List V}{B:α0->α1->α2->α3->α4->α5->α6->α7->Prop}{G:List V->Prop}(vs:List V)(h:∃x0 x1 x2 x3 x4 x5 x6 x7,vs=f x0 x1 x2 x3 x4 x5 x6 x7/\B x0 x1 x2 x3 x4 x5 x6 x7)(k:∀x0 x1 x2 x3 x4 x5 x6 x7,B x0 x1 x2 x3 x4 x5 x6 x7->G (f x0 x1 x2 x3 x4 x5 x6 x7)):G vs:=by
 obtain⟨x0,x1,x2,x3,x4,x5,x6,x7,rfl,h⟩:=h;exact k _ _ _ _ _ _ _ _ h
omit Z0 in
@[elab_as_elim] theorem el9{α0 α1 α2 α3 α4 α5 α6 α7 α8:Type}{f:α0->α1->α2->α3->α4->α5->α6->α7->α8->List V}{B:α0->α1->α2->α3->α4->α5->α6->α7->α8->Prop}{G:List V->Prop}(vs:List V)(h:∃x0 x1 x2 x3 x4 x5 x6 x7 x8,vs=f x0 x1 x2 x3 x4 x5 x6 x7 x8/\B x0 x1 x2 x3 x4 x5 x6 x7 x8)(k:∀x0 x1 x2 x3 x4 x5 x6 x7 x8,B x0 x1 x2 x3 x4 x5 x6 x7 x8->G (f x0 x1 x2 x3 x4 x5 x6 x7 x8)):G vs:=by
 obtain⟨x0,x1,x2,x3,x4,x5,x6,x7,x8,rfl,h⟩:=h;exact k _ _ _ _ _ _ _ _ _ h
omit Z0 in
@[elab_as_elim] theorem Dr{α0 α1 α2 α3 α4 α5 α6 α7 α8 α9:Type}{f:α0->α1->α2->α3->α4->α5->α6->α7->α8->α9->List V}{B:α0->α1->α2->α3->α4->α5->α6->α7->α8->α9->Prop}{G:List V->Prop}(vs:List V)(h:∃x0 x1 x2 x3 x4 x5 x6 x7 x8 x9,vs=f x0 x1 x2 x3 x4 x5 x6 x7 x8 x9/\B x0 x1 x2 x3 x4 x5 x6 x7 x8 x9)(k:∀x0 x1 x2 x3 x4 x5 x6 x7 x8 x9,B x0 x1 x2 x3 x4 x5 x6 x7 x8 x9->G (f x0 x1 x2 x3 x4 x5 x6 x7 x8 x9)):G vs:=by
 obtain⟨x0,x1,x2,x3,x4,x5,x6,x7,x8,x9,rfl,h⟩:=h;exact k _ _ _ _ _ _ _ _ _ _ h
omit Z0 in
theorem an2{p0 p1 G:Prop}(h:p0/\p1)(k:p0->p1->G):G:=k h.1 h.2
omit Z0 in
theorem an3{p0 p1 p2 G:Prop}(h:p0/\p1/\p2)(k:p0->p1->p2->G):G:=k h.1 h.2.1 h.2.2
omit Z0 in
theorem an4{p0 p1 p2 p3 G:Prop}(h:p0/\p1/\p2/\p3)(k:p0->p1->p2->p3->G):G:=k h.1 h.2.1 h.2.2.1 h.2.2.2
omit Z0 in
theorem an5{p0 p1 p2 p3 p4 G:Prop}(h:p0/\p1/\p2/\p3/\p4)(k:p0->p1->p2->p3->p4->G):G:=k h.1 h.2.1 h.2.2.1 h.2.2.2.1 h.2.2.2.2
omit Z0 in
theorem an6{p0 p1 p2 p3 p4 p5 G:Prop}(h:p0/\p1/\p2/\p3/\p4/\p5)(k:p0->p1->p2->p3->p4->p5->G):G:=k h.1 h.2.1 h.2.2.1 h.2.2.2.1 h.2.2.2.2.1 h.2.2.2.2.2
omit Z0 in
theorem an7{p0 p1 p2 p3 p4 p5 p6 G:Prop}(h:p0/\p1/\p2/\p3/\p4/\p5/\p6)(k:p0->p1->p2->p3->p4->p5->p6->G):G:=k h.1 h.2.1 h.2.2.1 h.2.2.2.1 h.2.2.2.2.1 h.2.2.2.2.2.1 h.2.2.2.2.2.2
omit Z0 in
theorem an8{p0 p1 p2 p3 p4 p5 p6 p7 G:Prop}(h:p0/\p1/\p2/\p3/\p4/\p5/\p6/\p7)(k:p0->p1->p2->p3->p4->p5->p6->p7->G):G:=k h.1 h.2.1 h.2.2.1 h.2.2.2.1 h.2.2.2.2.1 h.2.2.2.2.2.1 h.2.2.2.2.2.2.1 h.2.2.2.2.2.2.2
omit Z0 in
theorem an9{p0 p1 p2 p3 p4 p5 p6 p7 p8 G:Prop}(h:p0/\p1/\p2/\p3/\p4/\p5/\p6/\p7/\p8)(k:p0->p1->p2->p3->p4->p5->p6->p7->p8->G):G:=k h.1 h.2.1 h.2.2.1 h.2.2.2.1 h.2.2.2.2.1 h.2.2.2.2.2.1 h.2.2.2.2.2.2.1 h.2.2.2.2.2.2.2.1 h.2.2.2.2.2.2.2.2
omit Z0 in
theorem ny{p0 p1 p2 p3 p4 p5 p6 p7 p8 p9 G:Prop}(h:p0/\p1/\p2/\p3/\p4/\p5/\p6/\p7/\p8/\p9)(k:p0->p1->p2->p3->p4->p5->p6->p7->p8->p9->G):G:=k h.1 h.2.1 h.2.2.1 h.2.2.2.1 h.2.2.2.2.1 h.2.2.2.2.2.1 h.2.2.2.2.2.2.1 h.2.2.2.2.2.2.2.1 h.2.2.2.2.2.2.2.2.1 h.2.2.2.2.2.2.2.2.2
omit Z0 in
theorem Ds{p0 p1 p2 p3 p4 p5 p6 p7 p8 p9 p10 G:Prop}(h:p0/\p1/\p2/\p3/\p4/\p5/\p6/\p7/\p8/\p9/\p10)(k:p0->p1->p2->p3->p4->p5->p6->p7->p8->p9->p10->G):G:=k h.1 h.2.1 h.2.2.1 h.2.2.2.1 h.2.2.2.2.1 h.2.2.2.2.2.1 h.2.2.2.2.2.2.1 h.2.2.2.2.2.2.2.1 h.2.2.2.2.2.2.2.2.1 h.2.2.2.2.2.2.2.2.2.1 h.2.2.2.2.2.2.2.2.2.2
omit Z0 in
theorem Lg{p0 p1 p2 p3 p4 p5 p6 p7 p8 p9 p10 p11 G:Prop}(h:p0/\p1/\p2/\p3/\p4/\p5/\p6/\p7/\p8/\p9/\p10/\p11)(k:p0->p1->p2->p3->p4->p5->p6->p7->p8->p9->p10->p11->G):G:=k h.1 h.2.1 h.2.2.1 h.2.2.2.1 h.2.2.2.2.1 h.2.2.2.2.2.1 h.2.2.2.2.2.2.1 h.2.2.2.2.2.2.2.1 h.2.2.2.2.2.2.2.2.1 h.2.2.2.2.2.2.2.2.2.1 h.2.2.2.2.2.2.2.2.2.2.1 h.2.2.2.2.2.2.2.2.2.2.2
omit Z0 in
theorem Lh{p0 p1 p2 p3 p4 p5 p6 p7 p8 p9 p10 p11 p12 G:Prop}(h:p0/\p1/\p2/\p3/\p4/\p5/\p6/\p7/\p8/\p9/\p10/\p11/\p12)(k:p0->p1->p2->p3->p4->p5->p6->p7->p8->p9->p10->p11->p12->G):G:=k h.1 h.2.1 h.2.2.1 h.2.2.2.1 h.2.2.2.2.1 h.2.2.2.2.2.1 h.2.2.2.2.2.2.1 h.2.2.2.2.2.2.2.1 h.2.2.2.2.2.2.2.2.1 h.2.2.2.2.2.2.2.2.2.1 h.2.2.2.2.2.2.2.2.2.2.1 h.2.2.2.2.2.2.2.2.2.2.2.1 h.2.2.2.2.2.2.2.2.2.2.2.2
omit Z0 in
theorem Li{p0 p1 p2 p3 p4 p5 p6 p7 p8 p9 p10 p11 p12 p13 p14 p15 G:Prop}(h:p0/\p1/\p2/\p3/\p4/\p5/\p6/\p7/\p8/\p9/\p10/\p11/\p12/\p13/\p14/\p15)(k:p0->p1->p2->p3->p4->p5->p6->p7->p8->p9->p10->p11->p12->p13->p14->p15->G):G:=k h.1 h.2.1 h.2.2.1 h.2.2.2.1 h.2.2.2.2.1 h.2.2.2.2.2.1 h.2.2.2.2.2.2.1 h.2.2.2.2.2.2.2.1 h.2.2.2.2.2.2.2.2.1 h.2.2.2.2.2.2.2.2.2.1 h.2.2.2.2.2.2.2.2.2.2.1 h.2.2.2.2.2.2.2.2.2.2.2.1 h.2.2.2.2.2.2.2.2.2.2.2.2.1 h.2.2.2.2.2.2.2.2.2.2.2.2.2.1 h.2.2.2.2.2.2.2.2.2.2.2.2.2.2.1 h.2.2.2.2.2.2.2.2.2.2.2.2.2.2.2
omit Z0 in
theorem Lj{p0 p1 p2 p3 p4 p5 p6 p7 p8 p9 p10 p11 p12 p13 p14 p15 p16 p17 p18 G:Prop}(h:p0/\p1/\p2/\p3/\p4/\p5/\p6/\p7/\p8/\p9/\p10/\p11/\p12/\p13/\p14/\p15/\p16/\p17/\p18)(k:p0->p1->p2->p3->p4->p5->p6->p7->p8->p9->p10->p11->p12->p13->p14->p15->p16->p17->p18->G):G:=k h.1 h.2.1 h.2.2.1 h.2.2.2.1 h.2.2.2.2.1 h.2.2.2.2.2.1 h.2.2.2.2.2.2.1 h.2.2.2.2.2.2.2.1 h.2.2.2.2.2.2.2.2.1 h.2.2.2.2.2.2.2.2.2.1 h.2.2.2.2.2.2.2.2.2.2.1 h.2.2.2.2.2.2.2.2.2.2.2.1 h.2.2.2.2.2.2.2.2.2.2.2.2.1 h.2.2.2.2.2.2.2.2.2.2.2.2.2.1 h.2.2.2.2.2.2.2.2.2.2.2.2.2.2.1 h.2.2.2.2.2.2.2.2.2.2.2.2.2.2.2.1 h.2.2.2.2.2.2.2.2.2.2.2.2.2.2.2.2.1 h.2.2.2.2.2.2.2.2.2.2.2.2.2.2.2.2.2.1 h.2.2.2.2.2.2.2.2.2.2.2.2.2.2.2.2.2.2
noncomputable abbrev jF(kd:Int)(n:Int)(cell:Int)(mo:Int)(p:Addr)(pt:Int)(r:L2.St):L2.St:=some (.int kd)::some (.int n)::some (.int cell)::some (.int mo)::some (.ref p)::some (.int pt)::r
noncomputable abbrev jG(kd:Int)(dl:Addr)(sl:Addr)(ev:Addr)(a:Int)(r:L2.St):L2.St:=some (.int kd)::some (.ref dl)::some (.ref sl)::some (.ref ev)::some (.int a)::r
noncomputable abbrev fY(kd:Int)(dl:Addr)(a:Int)(o:Addr)(mo:Int)(r:L2.St):L2.St:=some (.int kd)::some (.ref dl)::some (.int a)::some (.ref o)::some (.int mo)::none::none::none::r
noncomputable abbrev ii(kd:Int)(dl:Addr)(sl:Addr)(mo:Int)(si:Addr)(a:Int)(pa:Addr)(k:Int)(r:L2.St):L2.St:=some (.int kd)::some (.ref dl)::some (.ref sl)::some (.int mo)::some (.ref si)::some (.int a)::some (.ref pa)::some (.int k)::r
noncomputable abbrev nA(cell:Int)(sl:Addr)(mo:Int)(n:Int)(kd:Int)(r:L2.St):L2.St:=some (.int cell)::some (.ref sl)::some (.int mo)::some (.int n)::some (.int kd)::r
abbrev ip(ca:Addr)(mo:Int)(st:Addr)(sl:Addr)(r:L2.St):L2.St:=some (.ref ca)::some (.int mo)::some (.ref st)::some (.ref sl)::r
noncomputable abbrev iR(a:Addr)(st:Addr)(ot:Addr)(sl:Addr)(it:Addr)(fo:Addr)(r:L2.St):L2.St:=some (.ref a)::some (.ref st)::some (.ref ot)::some (.ref sl)::some (.ref it)::some (.ref fo)::r
theorem Lk(Y0:Cs Z0 0):ca (Cl Z0) 0:=kz1 Z0 Z0.g0 λ f fd F=>by
 have sc:=scq (aH Bz) ["n"] [];obtain⟨tLOW,gLOW⟩:=Z0.gLOW;refine F.ok sc (λ vs H Q E h=>?_) (λ cdv A outer s H vs Q E hr h=>?_)
 ·obtain⟨n,rfl,_⟩:=h;rfl
 obtain⟨n,rfl,q⟩:=h;refine⟨_,(av (ay cE (ay cH (ay eN (pv 0) (jI (v:=.int (-9223372036854775808)) (by rfl) gLOW ⟨_,rfl⟩)) (ay iZ ae ae)) (jI (v:=.int (-9223372036854775808)) (by rfl) gLOW ⟨_,rfl⟩))),?_⟩
 (try dsimp only[bf]);simp only[L2.start,aV,aW,List.replicate,bi,bj,Nat.reduceSub,Nat.reduceAdd,aZ,bh]
 ktr_call ah ag;have e:(n - -9223372036854775808) % 18446744073709551616 + -9223372036854775808=dy n:=by unfold dy;lia
 rw[e];exact q
theorem Ll(Y0:Cs Z0 1):ca (Cl Z0) 1:=kz1 Z0 Z0.g1 λ f fd F=>by
 have sc:=scq (aH BA) ["x"] [];refine F.ok sc (λ vs H Q E h=>?_) (λ cdv A outer s H vs Q E hr h=>?_)
 ·obtain⟨n,rfl,_⟩:=h;rfl
 obtain⟨n,rfl,q⟩:=h;refine⟨_,(aI (aC dO (pv 0) ae) (av (lV lW ae)) (av (iW (aC gc (pv 0) ae) ae ae))),?_⟩
 (try dsimp only[bf]);simp only[L2.start,aV,aW,List.replicate,bi,bj,Nat.reduceSub,Nat.reduceAdd,aZ,bh]
 ktr_call ah ag
 repeat' split
 all_goals (simp_all;done)
theorem Lm(Y0:Cs Z0 2):ca (Cl Z0) 2:=kz2 Z0 Z0.g2 λ f fd F=>by
 have sc:=scq (aH BC) ["x","y"] [];refine F.ok sc (λ vs H Q E h=>?_) (λ cdv A outer s H vs Q E hr h=>?_)
 ·obtain⟨x,y,rfl,_⟩:=h;rfl
 obtain⟨x,y,rfl,hx,hy,q⟩:=h;refine⟨_,(aI (aC aR (pv 1) ae) (av ae) (av (ax (cc Y0 0) hr au (aG (ay kP (pv 0) (pv 1)))))),?_⟩
 (try dsimp only[bf]);simp only[L2.start,aV,aW,List.replicate,bi,bj,Nat.reduceSub,Nat.reduceAdd,aZ,bh]
 cell_end ah ag lJ;unfold mT at q;by_cases h:y=0
 ·rw[if_pos h];rw[if_pos h] at q;exact q
 ·rw[if_neg h];rw[if_neg h] at q;unfold inB at hy;exact⟨h,by lia,by lia,q⟩
theorem Ln(Y0:Cs Z0 3):ca (Cl Z0) 3:=kz2 Z0 Z0.g3 λ f fd F=>by
 have sc:=scq (aH BE) ["x","y"] [];refine F.ok sc (λ vs H Q E h=>?_) (λ cdv A outer s H vs Q E hr h=>?_)
 ·obtain⟨x,y,rfl,_⟩:=h;rfl
 obtain⟨x,y,rfl,q⟩:=h;refine⟨_,(av (iW (aC aR (pv 1) ae) (pv 0) (ay dB (pv 0) (pv 1)))),?_⟩
 (try dsimp only[bf]);simp only[L2.start,aV,aW,List.replicate,bi,bj,Nat.reduceSub,Nat.reduceAdd,aZ,bh]
 ktr_call ah ag;unfold mU at q;by_cases h:y=0
 ·rw[if_pos h];rw[if_pos h] at q;exact q
 ·rw[if_neg h];rw[if_neg h] at q;exact⟨h,q⟩
theorem Lo(Y0:Cs Z0 4):ca (Cl Z0) 4:=kz2 Z0 Z0.g4 λ f fd F=>by
 have sc:=scq (aH BG) ["word","x"] [];refine F.ok sc (λ vs H Q E h=>?_) (λ cdv A outer s H vs Q E hr h=>?_)
 ·exact el2 vs h λ _ _ _=>rfl
 refine el2 vs h λ wd x h=>an2 h λ hw q=>?_;refine⟨_,(aI (aC aR (pv 0) aO) (av (ax (cc Y0 0) hr au (aG (lV lW (pv 1))))) (aI (aC aR (pv 0) aO) (av (ax (cc Y0 0) hr au (aG (cq DY Z0.zabs boot_abs (aG (pv 1)))))) (aI (aC aR (pv 0) aO) (av (ax (cc Y0 1) hr au (aG (pv 1)))) (aI (aC aR (pv 0) aO) (av (iW (aC aR (pv 1) ae) ae ae)) (bx du))))),?_⟩
 (try dsimp only[bf]);simp only[L2.start,aV,aW,List.replicate,bi,bj,Nat.reduceSub,Nat.reduceAdd,aZ,bh]
 kpf_say ah ag lJ BB;unfold fW zY at q;by_cases c0:wd=Str.ofString "neg"
 ·rw[if_pos c0] at q ⊢;exact q
 rw[if_neg c0] at q ⊢;by_cases c1:wd=Str.ofString "abs"
 ·rw[if_pos c1] at q ⊢;exact q
 rw[if_neg c1] at q ⊢;by_cases c2:wd=Str.ofString "sign"
 ·rw[if_pos c2] at q ⊢;exact q
 rw[if_neg c2] at q ⊢;by_cases c3:wd=Str.ofString "not"
 ·rw[if_pos c3];split<;>(split at q<;>first | exact q | contradiction)
 simp only[mV,bE,cU,cL] at hw;exact absurd hw (by simp only[c0,c1,c2,c3,or_self,vH])
theorem Lp(Y0:Cs Z0 5):ca (Cl Z0) 5:=kz3 Z0 Z0.g5 λ f fd F=>by
 have sc:=scq (aH BH) ["word","x","y"] [];refine F.ok sc (λ vs H Q E h=>?_) (λ cdv A outer s H vs Q E hr h=>?_)
 ·exact el3 vs h λ _ _ _ _=>rfl
 refine el3 vs h λ wd x y h=>an4 h λ hx hy hw q=>?_;refine⟨_,(aI (aC aR (pv 0) aO) (av (ax (cc Y0 0) hr au (aG (ay cE (pv 1) (pv 2))))) (aI (aC aR (pv 0) aO) (av (ax (cc Y0 0) hr au (aG (ay eN (pv 1) (pv 2))))) (aI (aC aR (pv 0) aO) (av (ax (cc Y0 0) hr au (aG (ay fR (pv 1) (pv 2))))) (aI (aC aR (pv 0) aO) (av (ax (cc Y0 2) hr au (ao (pv 1) (pv 2)))) (aI (aC aR (pv 0) aO) (av (ax (cc Y0 3) hr au (ao (pv 1) (pv 2)))) (aI (aC aR (pv 0) aO) (av (cq (nJ rfl) Z0.zmax lh (ao (pv 1) (pv 2)))) (aI (aC aR (pv 0) aO) (av (cq (kJ rfl) Z0.zmin lM (ao (pv 1) (pv 2)))) (aI (aC aR (pv 0) aO) (av (iW (aC dO (pv 1) (pv 2)) ae ae)) (aI (aC aR (pv 0) aO) (av (iW (aC aR (pv 1) (pv 2)) ae ae)) (aI (aC aR (pv 0) aO) (av (ay DS (pv 1) (pv 2))) (aI (aC aR (pv 0) aO) (av (ay DT (pv 1) (pv 2))) (aI (aC aR (pv 0) aO) (av (ay DU (pv 1) (pv 2))) (bx du))))))))))))),?_⟩
 (try dsimp only[bf]);simp only[L2.start,aV,aW,List.replicate,bi,bj,Nat.reduceSub,Nat.reduceAdd,aZ,bh]
 wp_walk using eX,da,eqV,ah,ag,lJ,BD,BF;unfold bH at q
 have hm:(-18446744073709551616 < x/\x < 18446744073709551616\/-18446744073709551616 < y/\y < 18446744073709551616):=by
  unfold inB at hx;lia
 by_cases c0:wd=Str.ofString "add"
 ·rw[if_pos c0];rw[if_pos c0] at q;exact q
 rw[if_neg c0] at q ⊢;by_cases c1:wd=Str.ofString "sub"
 ·rw[if_pos c1];rw[if_pos c1] at q;exact q
 rw[if_neg c1] at q ⊢;by_cases c2:wd=Str.ofString "mul"
 ·rw[if_pos c2];rw[if_pos c2] at q;exact⟨hm,q⟩
 rw[if_neg c2] at q ⊢;by_cases c3:wd=Str.ofString "quo"
 ·rw[if_pos c3];rw[if_pos c3] at q;exact⟨hx,hy,q⟩
 rw[if_neg c3] at q ⊢;by_cases c4:wd=Str.ofString "rest"
 ·rw[if_pos c4];rw[if_pos c4] at q;exact q
 rw[if_neg c4] at q ⊢;by_cases c5:wd=Str.ofString "max"
 ·rw[if_pos c5];rw[if_pos c5] at q;exact q
 rw[if_neg c5] at q ⊢;by_cases c6:wd=Str.ofString "min"
 ·rw[if_pos c6];rw[if_pos c6] at q;exact q
 rw[if_neg c6] at q ⊢;by_cases c7:wd=Str.ofString "less"
 ·rw[if_pos c7];rw[if_pos c7] at q;split<;>(split at q<;>first | exact q | contradiction)
 rw[if_neg c7] at q ⊢;by_cases c8:wd=Str.ofString "like"
 ·rw[if_pos c8];rw[if_pos c8] at q;split<;>(split at q<;>first | exact q | contradiction)
 rw[if_neg c8] at q ⊢;by_cases c9:wd=Str.ofString "and"
 ·rw[if_pos c9];rw[if_pos c9] at q;exact q
 rw[if_neg c9] at q ⊢;by_cases c10:wd=Str.ofString "or"
 ·rw[if_pos c10];rw[if_pos c10] at q;exact q
 rw[if_neg c10] at q ⊢;by_cases c11:wd=Str.ofString "xor"
 ·rw[if_pos c11];exact q
 simp only[two12,bE,cU,cL] at hw;exact absurd hw (by simp only[c0,c1,c2,c3,c4,c5,c6,c7,c8,c9,c10,c11,or_self,vH])
theorem Lq(Y0:Cs Z0 6):ca (Cl Z0) 6:=kz1 Z0 Z0.g6 λ f fd F=>by
 have sc:=scq (aH BI) ["word"] [];obtain⟨tLOW,gLOW⟩:=Z0.gLOW;obtain⟨tHIGH,gHIGH⟩:=Z0.gHIGH;refine F.ok sc (λ vs H Q E h=>?_) (λ cdv A outer s H vs Q E hr h=>?_)
 ·exact el1 vs h λ _ _=>rfl
 refine el1 vs h λ wd h=>an2 h λ hw q1=>?_;refine⟨_,(aI (su xx (pv 0) (aU (aE aO (ao aO aO))) rfl) (av ae) (aI (aC aR (pv 0) aO) (av ae) (aI (aC aR (pv 0) aO) (av (jI (v:=.int (-9223372036854775808)) (by rfl) gLOW ⟨_,rfl⟩)) (aI (aC aR (pv 0) aO) (av (jI (v:=.int 9223372036854775807) (by rfl) gHIGH ⟨_,rfl⟩)) (aI (aC aR (pv 0) aO) (av (lV lW ae)) (bx du)))))),?_⟩
 (try dsimp only[bf]);simp only[L2.start,aV,aW,List.replicate,bi,bj,Nat.reduceSub,Nat.reduceAdd,aZ,bh]
 ktr_call ah ag;refine⟨smd,λ p hp=>?_⟩;have q:=q1 _ (af hp (.tup [V.str "add",V.str "or",V.str "xor"]));by_cases t:Str.ofString "add"=wd\/Str.ofString "or"=wd\/Str.ofString "xor"=wd
 ·rw[if_pos t]
  rcases t with t | t | t<;>subst t
  ·rw[IL] at q;exact q
  ·rw[IR] at q;exact q
  ·rw[IS] at q;exact q
 rw[if_neg t];by_cases c0:wd=Str.ofString "mul"
 ·rw[if_pos c0];subst c0;rw[IM] at q;exact q
 rw[if_neg c0];by_cases c1:wd=Str.ofString "max"
 ·rw[if_pos c1];subst c1;rw[IN] at q;exact q
 rw[if_neg c1];by_cases c2:wd=Str.ofString "min"
 ·rw[if_pos c2];subst c2;rw[IP] at q;exact q
 rw[if_neg c2];by_cases c3:wd=Str.ofString "and"
 ·rw[if_pos c3];subst c3;rw[IQ] at q;exact q
 unfold isF at hw;simp only[fw,bE,cU,cL] at hw
 rcases hw with z | z | z | z | z | z | z
 ·exact absurd (.inl z.symm) t
 ·exact absurd z c0
 ·exact absurd z c1
 ·exact absurd z c2
 ·exact absurd z c3
 ·exact absurd (.inr (.inl z.symm)) t
 ·exact absurd (.inr (.inr z.symm)) t
theorem Lr(Y0:Cs Z0 7):ca (Cl Z0) 7:=kz1 Z0 Z0.g7 λ f fd F=>by
 have sc:=scq (aH BJ) ["form"] [];obtain⟨dPARTS,gPARTS,kvs,TK,TF⟩:=Z0.pt;refine F.ok sc (λ vs H Q E h=>?_) (λ cdv A outer s H vs Q E hr h=>?_)
 ·obtain⟨i,_,rfl,_⟩:=h;rfl
 obtain⟨i,hi,rfl,q⟩:=h;refine⟨_,(av (FU (own:=["kind","place"]) rfl (dM (Gu (by rfl) gPARTS TK (pv 0) (λ _ _=>rfl))) (by decide) (by decide) rfl (by decide) (λ _ _ _ _=>(Gw (K:=K) (n:=2) rfl (jK rfl (dX (bR 0 ["kind","place"]) (dX (bR 1 ["kind","place"]) jJ))))) (λ _ _ _ _=>(pv 1)) (λ _ _ _ _=>(aC aR (pv 0) aO)))),?_⟩
 (try dsimp only[bf]);simp only[L2.start,aV,aW,List.replicate,bi,bj,Nat.reduceSub,Nat.reduceAdd,aZ,bh]
 ktr_call ah ag;refine hid λ Gz gz=>?_;obtain⟨a,xs,e1,e2,e3⟩:=zv TF (IT hi);refine gz ?_;clear gz Gz;refine⟨a,e1,?_⟩;have lf:=Aa (i:=i);unfold gy at q;generalize (formsL.getD i ("",[])).snd=fs at *;obtain⟨l3,at3⟩:=zw e3;refine CompTI.mk (xs:=xs) e2.sq (λ j ys σ H'=>H'=H/\ys=(mW (fs.take j)).map V.int/\∃y0 y1,σ=[y0,y1]) ⟨rfl,rfl,_,_,rfl⟩ (λ j ys σ H' hj h=>⟨e2.sq,?_⟩) (λ j x ys σ H' e h=>?_) (λ ys σ H' h p hp=>?_)
 ·rw[h.2.1,aA];have:=Ab (fs.take j);have:=s0e j fs;exact bD (by lia)
 ·refine hid λ Gz gz=>?_;obtain⟨rfl,rfl,y0,y1,rfl⟩:=h;obtain⟨f,b,ef,rfl,kb⟩:=at3 e;refine gz ?_;clear gz Gz;have pl:=IU ef;ktr_call ah ag;refine⟨_,kb.sq,rfl,_,_,rfl,_,_,rfl,rfl,?_⟩;rw[pl];by_cases c:f.1=("step" : Str)
  ·kpf_say ah ag (if_pos c) aY;exact⟨_,rfl⟩
  ·kpf_say ah ag (if_neg c) ag;exact⟨_,rfl⟩
 ·refine hid λ Gz gz=>?_;obtain⟨rfl,rfl,y0,y1,rfl⟩:=h;refine gz ?_;clear gz Gz;rw[l3,cx];exact q _ _ (af hp _) ar
theorem Ls(Y0:Cs Z0 8):ca (Cl Z0) 8:=kz1 Z0 Z0.g8 λ f fd F=>by
 have sc:=scq (aH BL) ["step"] [];refine F.ok sc (λ vs H Q E h=>?_) (λ cdv A outer s H vs Q E hr h=>?_)
 ·obtain⟨a,i,xs,_,rfl,_⟩:=h;rfl
 obtain⟨a,i,xs,hi,rfl,ha,h0,hp,q⟩:=h;refine⟨_,(av (cC fg Z0.ztuple cJ (aG (dZ (own:=["place"]) (fv:=["step"]) (js:=[0]) rfl (gE (ax (cc Y0 7) hr au (aG (aq aD (pv 0) ae)))) rfl (by decide) rfl (by decide) (by first | exact λ _ _ h=>h | exact dh rfl | exact dk rfl rfl | exact dn rfl rfl rfl) (dg (by rfl)) rfl (eh (by first | exact⟨rfl,.inl rfl,.inl rfl⟩ | exact⟨rfl,.inl rfl,.inr rfl⟩)) (λ _ _ _ _=>(bR 0 ["place","step"])) (λ _ _ _ _=>(aq aD (pv 1) (pv 0))))))),?_⟩
 (try dsimp only[bf]);simp only[L2.start,aV,aW,List.replicate,bi,bj,Nat.reduceSub,Nat.reduceAdd,aZ,bh]
 cell_end ah ag BK;refine⟨xs,ha,_,aB h0,i,hi,rfl,λ H1 p1 s1 h1=>?_⟩;refine CompL.mk (xs:=(gy i).map V.int) (.of h1) (λ j ys σ H'=>H'=H1/\ys=(mX xs (gy i)).take j/\∃y0,σ=[y0,some (.ref a)]) ⟨rfl,rfl,_,rfl⟩ (λ j ys σ H' _ h=>by rw[h.1];exact .of h1) (λ j x ys σ H' e h=>?_) (λ ys σ H' h p hp2=>?_)
 ·refine hid λ Gz gz=>?_;obtain⟨rfl,rfl,y0,rfl⟩:=h;obtain⟨m,hm,rfl⟩:=Fe e;obtain⟨p0,p1⟩:=hp m (bw hm);refine gz ?_;clear gz Gz;have ge:=IV i;have jl:j < (gy i).length:=(bv.mp hm).1;refine⟨by have:=s0e j (mX xs (gy i));exact bD (by lia),?_⟩;ktr_call ah ag;obtain⟨v,hv⟩:∃v,atI xs m=some v:=IW p0 p1;refine⟨_,s1 _ _ ha,_,hv,?_⟩;refine⟨?_,_,rfl⟩;rw[cO]
  congr 1
  unfold mX;rw[bA,hm];show[v]=[(atI xs m).getD .non];rw[hv];rfl
 ·obtain⟨rfl,rfl,y0,rfl⟩:=h;rw[fk (by unfold mX;simp)];refine⟨p,rfl,_,.inl ⟨.of ar,λ l hl=>q _ _ (s1.trans ((af hp2 _).trans (af hl _))) ar⟩⟩
theorem Lu(Y0:Cs Z0 9):ca (Cl Z0) 9:=kz1 Z0 Z0.g9 λ f fd F=>by
 have sc:=scq (aH BM) ["sides"] ["product","side"];refine F.ok sc (λ vs H Q E h=>?_) (λ cdv A outer s H vs Q E hr h=>?_)
 ·obtain⟨a,ns,rfl,_⟩:=h;rfl
 obtain⟨a,ns,rfl,ha | ha,hs,q⟩:=h
 ·refine⟨_,(aN 1 sc.nd ae (bB (dN dU rfl (gE (pv 0)) (dD 2 sc.nd) (bx (fI 1 sc.nd (ay fR (pv 1) (pv 2))))) (av (pv 1)))),?_⟩
  (try dsimp only[bf]);simp only[L2.start,aV,aW,List.replicate,bi,bj,Nat.reduceSub,Nat.reduceAdd,aZ,bh]
  ktr_call ah ag;refine LoopL.mk (xs:=ns.map V.int) (.of ha) (λ i σ H'=>H'=H/\∃y,σ=[some (.ref a),some (.int (ai (ns.take i))),y]) ⟨rfl,_,rfl⟩ (λ i σ H' _ h=>by rw[h.1];exact .of ha) (λ i x σ H' e h=>?_) (λ σ H' h=>?_)
  ·obtain⟨h1,y,rfl⟩:=h;subst h1;obtain⟨m,rfl,hm,m0,m1⟩:=ki hs e;ktr_call ah ag;rw[uj hm];exact⟨.inr ⟨by lia,by lia⟩,rfl,_,rfl⟩
  ·obtain⟨h1,y,rfl⟩:=h;subst h1;ktr_call ah ag;rw[aP,cx];exact q
 ·refine⟨_,(aN 1 sc.nd ae (bB (dN dU rfl (dM (pv 0)) (dD 2 sc.nd) (bx (fI 1 sc.nd (ay fR (pv 1) (pv 2))))) (av (pv 1)))),?_⟩
  (try dsimp only[bf]);simp only[L2.start,aV,aW,List.replicate,bi,bj,Nat.reduceSub,Nat.reduceAdd,aZ,bh]
  ktr_call ah ag;refine LoopT.mk (xs:=ns.map V.int) (.of ha) (λ i σ H'=>H'=H/\∃y,σ=[some (.ref a),some (.int (ai (ns.take i))),y]) ⟨rfl,_,rfl⟩ (λ i σ H' _ h=>by rw[h.1];exact .of ha) (λ i x σ H' e h=>?_) (λ σ H' h=>?_)
  ·obtain⟨h1,y,rfl⟩:=h;subst h1;obtain⟨m,rfl,hm,m0,m1⟩:=ki hs e;ktr_call ah ag;rw[uj hm];exact⟨.inr ⟨by lia,by lia⟩,rfl,_,rfl⟩
  ·obtain⟨h1,y,rfl⟩:=h;subst h1;ktr_call ah ag;rw[aP,cx];exact q
theorem Lv(Y0:Cs Z0 10):ca (Cl Z0) 10:=kz1 Z0 Z0.g10 λ f fd F=>by
 have sc:=scq (aH BN) ["sides"] [];refine F.ok sc (λ vs H Q E h=>?_) (λ cdv A outer s H vs Q E hr h=>?_)
 ·exact el2 vs h λ _ _ _=>rfl
 refine el2 vs h λ a ns h=>an4 h λ ha hs h63 q=>?_;refine⟨_,(av (ax (cc Y0 9) hr au (aG (kO (own:=["side"]) rfl (dM (pv 0)) (by decide) (by decide) rfl (by decide) (λ _ _ _ _=>(bR 0 ["side"])) (λ _ _ _ _=>(iW (aC gb (pv 0) ae) (pv 0) ae)))))),?_⟩
 (try dsimp only[bf]);simp only[L2.start,aV,aW,List.replicate,bi,bj,Nat.reduceSub,Nat.reduceAdd,aZ,bh]
 ktr_call ah ag;refine CompT.mk (xs:=ns.map V.int) (.of ha) (λ i ys σ H'=>H'=H/\ys=((ns.take i).map aF).map V.int/\∃y,σ=[y]) ⟨rfl,rfl,_,rfl⟩ (λ i ys σ H' _ h=>by rw[h.1];exact .of ha) (λ i x ys σ H' e h=>?_) (λ ys σ H' h p hp=>?_)
 ·obtain⟨h1,h2,y,rfl⟩:=h;subst h1 h2;refine hid λ Gz gz=>?_;obtain⟨m,rfl,hm,m0,m1⟩:=ki hs e;refine gz ?_;clear gz Gz
  have e1:((ns.take (i+1)).map aF).map V.int=((ns.take i).map aF).map V.int++[V.int (aF m)]:=by
   rw[cO,hm,aY,aY];rfl
  have e2:(((ns.take i).map aF).map V.int).length < sizeLine:=by
   rw[aA,aA,be];exact bD (by lia)
  cell_end ah ag e1;refine⟨e2,?_⟩;unfold aF;by_cases m2:m=0
  ·simp[m2]
  ·simp[m2]
 ·obtain⟨h1,h2,y,rfl⟩:=h;subst h1 h2;rw[aP,cx];exact⟨p,_,rfl,.inl ar,zx hs,q _ (af hp _)⟩
theorem Lw(Y0:Cs Z0 11):ca (Cl Z0) 11:=kz1 Z0 Z0.g11 λ f fd F=>by
 have sc:=scq (aH BP) ["sides"] [];obtain⟨tMOST_SIDES,gMOST_SIDES⟩:=Z0.gMOST_SIDES;obtain⟨tMOST_BREADTH,gMOST_BREADTH⟩:=Z0.gMOST_BREADTH;refine F.ok sc (λ vs H Q E h=>?_) (λ cdv A outer s H vs Q E hr h=>?_)
 ·exact el2 vs h λ _ _ _=>rfl
 refine el2 vs h λ a ns h=>an5 h λ ha hs h63 nb q=>?_;refine⟨_,(aI (aC gc (bz Z0.zlen (pv 0)) (jI (v:=.int 6) (by rfl) gMOST_SIDES ⟨_,rfl⟩)) (bx du) (aI (aC gc (ax (cc Y0 10) hr au (aG (pv 0))) (jI (v:=.int 512) (by rfl) gMOST_BREADTH ⟨_,rfl⟩)) (bx du) (av (pv 0)))),?_⟩
 (try dsimp only[bf]);simp only[L2.start,aV,aW,List.replicate,bi,bj,Nat.reduceSub,Nat.reduceAdd,aZ,bh]
 cell_end ah ag BO;unfold bS at nb;refine⟨_,.inr (.of ha),?_⟩;rw[aP,if_neg (by lia)];refine⟨ns,ha,hs,h63,λ H1 s1=>?_⟩;rw[if_neg (by lia)];exact q _ s1
theorem Lx(Y0:Cs Z0 12):ca (Cl Z0) 12:=kz1 Z0 Z0.g12 λ f fd F=>by
 have sc:=scq (aH BQ) ["sides"] ["strides","stride","side"];refine F.ok sc (λ vs H Q E h=>?_) (λ cdv A outer s H vs Q E hr h=>?_)
 ·exact el2 vs h λ _ _ _=>rfl
 refine el2 vs h λ a ns h=>an4 h λ ha hs h63 q=>?_;refine⟨_,(aN 1 sc.nd (dP bK) (aN 2 sc.nd ae (bB (dN dU rfl (xL (by rfl) Z0.zreversed (pv 0)) (dD 3 sc.nd) (bB (cB (gK (pv 1) (pv 2))) (bx (fI 2 sc.nd (ay fR (pv 2) (pv 3)))))) (av (xP rfl (by rfl) (by rfl) Z0.ztuple Z0.zreversed (pv 1)))))),?_⟩
 (try dsimp only[bf]);simp only[L2.start,aV,aW,List.replicate,bi,bj,Nat.reduceSub,Nat.reduceAdd,aZ,bh]
 ktr_call ah ag;refine⟨smd,λ p hp=>?_⟩;refine LoopV.mk (xs:=ns.map V.int) (.of (af hp _ _ _ ha)) (λ i σ H'=>Same H H'/\H' p=some (.lst ((stL ns i).map V.int))/\∃y,σ=[some (.ref a),some (.ref p),some (.int (stP ns i)),y]) ⟨af hp _,ar,_,rfl⟩ (λ i σ H' _ h=>.of (h.1 _ _ ha)) (λ i x σ H' hi e h=>?_) (λ σ H' h=>?_)
 ·refine hid λ Gz gz=>?_;obtain⟨h1,h2,y,rfl⟩:=h;obtain⟨m,rfl,hm,m0,m1⟩:=ki hs e;refine gz ?_;clear gz Gz;rw[aP] at hi hm
  have sm:((stL ns i).map V.int).length < sizeLine:=by
   rw[aA,stL,aA,fq];exact bD (by lia)
  have s2:Same H (upd H' p (.lst (((stL ns i).map V.int)++[V.int (stP ns i)]))):=λ b o e=>by
   have nb:b≠p:=λ z=>by rw[z,hp] at e;cases e
   rw[bo nb];exact h1 b o e
  ktr_call ah ag;rw[zy hi hm,uk,aY];refine⟨⟨_,h2⟩,_,h2,sm,.inr ⟨by lia,by lia⟩,s2,rfl,?_⟩;exact⟨rfl,_,rfl⟩
 ·obtain⟨h1,h2,y,rfl⟩:=h;rw[aP] at h2;ktr_call ah ag;refine⟨_,.of h2,λ p2 hp2=>?_⟩;rw[← rR];exact q _ _ (h1.trans (af hp2 _)) ar
theorem Ly(Y0:Cs Z0 13):ca (Cl Z0) 13:=kz2 Z0 Z0.g13 λ f fd F=>by
 have sc:=scq (aH BR) ["sides","at"] ["side","coordinate"];refine F.ok sc (λ vs H Q E h=>?_) (λ cdv A outer s H vs Q E hr h=>?_)
 ·exact el4 vs h λ _ _ _ _ _=>rfl
 refine el4 vs h λ a b ns ms h=>an6 h λ ha hb hs h63 g q2=>?_;refine⟨_,(aI (aC gb (bz Z0.zlen (pv 1)) (bz Z0.zlen (pv 0))) (bx du) (bB (dN dU rfl (qw (by rfl) Z0.zzip (ao (pv 0) (pv 1))) (kR (n:=2) (jK rfl (dX (dD 2 sc.nd) (dX (dD 3 sc.nd) jJ)))) (bx (iq (PW.pt (dH (aC dO (pv 3) ae) (eK (aC kH (pv 3) (pv 2))))) (bx du) iX))) (av (cq (xX rfl) Z0.zsum boot_sum (aG (kO (own:=["coordinate","stride"]) rfl (qw (by rfl) Z0.zzip (ao (pv 1) (ax (cc Y0 12) hr au (aG (pv 0))))) (by decide) (by decide) rfl (by decide) (λ _ _ _ _=>(kR (n:=2) (jK rfl (dX (bR 0 ["coordinate","stride"]) (dX (bR 1 ["coordinate","stride"]) jJ))))) (λ _ _ _ _=>(ay fR (pv 0) (pv 1))))))))),?_⟩
 (try dsimp only[bf]);simp only[L2.start,aV,aW,List.replicate,bi,bj,Nat.reduceSub,Nat.reduceAdd,aZ,bh]
 ktr_call ah ag;have hl:=g.1;refine⟨_,.inr (.of hb),_,.inr (.of ha),?_⟩;rw[aP,aP,if_neg (by lia)];refine LoopZ.mk (xs:=ns.map V.int) (ys:=ms.map V.int) ns.length (by rw[aP,aP,hl,jj]) (.of ha) (.of hb) (λ i σ H'=>Same H H'/\∃y2 y3,σ=[some (.ref a),some (.ref b),y2,y3]) ⟨Same.refl _,_,_,rfl⟩ (λ i σ H' _ h=>⟨.of (h.1 _ _ ha),.of (h.1 _ _ hb)⟩) (λ i x y σ H' T hi ex ey h hT=>?_) (λ σ H' h=>?_)
 ·refine hid λ Gz gz=>?_;obtain⟨h1,y2,y3,rfl⟩:=h;obtain⟨n,rfl,hn⟩:=dE ex;obtain⟨m,rfl,hm⟩:=dE ey;refine gz ?_;clear gz Gz;have b:=g.2 i m n hm hn;ktr_call ah ag;rw[if_neg (by lia),if_neg (by lia)];exact⟨h1.trans (af hT _),_,rfl⟩
 ·obtain⟨h1,y2,y3,rfl⟩:=h;cell_end ah ag vn;refine⟨ns,h1 _ _ ha,hs,h63,λ H1 p s1 hp=>?_⟩;have hb1:=s1 _ _ (h1 _ _ hb);have lz:(List.zipWith (λ a b=>a * b) ms (stL ns ns.length).reverse).length=ns.length:=by rw[vf,oC,stL,aA,fq,hl,jj]
  refine CompZ.mk (xs:=ms.map V.int) (ys:=(stL ns ns.length).reverse.map V.int) ns.length (by rw[aP,HU,hl,jj]) (.of hb1) (.of hp) (λ i zs σ H'=>Same H1 H'/\zs=((List.zipWith (λ a b=>a * b) ms (stL ns ns.length).reverse).take i).map V.int/\∃y z,σ=[y,z]) ⟨Same.refl _,rfl,_,_,rfl⟩ (λ i zs σ H' _ h=>⟨.of (h.1 _ _ hb1),.of (h.1 _ _ hp)⟩) (λ i x y zs σ H' T hi ex ey h hT=>?_) (λ zs σ H' h q hq=>?_) (λ i zs σ H' h=>?_)
  ·refine hid λ Gz gz=>?_;obtain⟨h3,rfl,y4,y5,rfl⟩:=h;obtain⟨m,rfl,hm⟩:=dE ex;obtain⟨t,rfl,ht⟩:=dE ey;obtain⟨n,hn⟩:∃n,ns[i]?=some n:=⟨ns[i],aX hi⟩;refine gz ?_;clear gz Gz;have mb:=g.2 i m n hm hn;have nb:=hs n (bw hn);have ez:(List.zipWith (λ a b=>a * b) ms (stL ns ns.length).reverse)[i]?=some (m * t):=by rw[vg,hm,ht]
   have et:((List.zipWith (λ a b=>a * b) ms (stL ns ns.length).reverse).take (i+1)).map V.int=((List.zipWith (λ a b=>a * b) ms (stL ns ns.length).reverse).take i).map V.int++[V.int (m * t)]:=by
    rw[cO,ez,aY];rfl
   have sm:(((List.zipWith (λ a b=>a * b) ms (stL ns ns.length).reverse).take i).map V.int).length < sizeLine:=by rw[aA,be];exact bD (by lia)
   refine⟨sm,?_⟩;cell_end ah ag et;exact⟨.inl ⟨by lia,by lia⟩,h3.trans (af hT _),_,rfl⟩
  ·refine hid λ Gz gz=>?_;obtain⟨h3,rfl,y4,y5,rfl⟩:=h;refine gz ?_;clear gz Gz;rw[fk (by lia)];exact⟨q,rfl,_,.of ar,q2 _ ((h1.trans s1).trans (h3.trans (af hq _)))⟩
  ·obtain⟨h3,rfl,_⟩:=h;rw[aA,be];exact bD (by lia)
theorem Lz(Y0:Cs Z0 14):ca (Cl Z0) 14:=kz2 Z0 Z0.g14 λ f fd F=>by
 have sc:=scq (aH BU) ["sides","place"] ["at","left","side"];refine F.ok sc (λ vs H Q E h=>?_) (λ cdv A outer s H vs Q E hr h=>?_)
 ·exact el3 vs h λ _ _ _ _=>rfl
 refine el3 vs h λ a ns pl h=>an6 h λ ha hs h63 p0 p1 q2=>?_;refine⟨_,(aI (PW.pt (dH (aC dO (pv 1) ae) (eK (aC kH (pv 1) (ax (cc Y0 9) hr au (aG (pv 0))))))) (bx du) (aN 2 sc.nd (dP bK) (aN 3 sc.nd (pv 1) (bB (dN dU rfl (xL (by rfl) Z0.zreversed (pv 0)) (dD 4 sc.nd) (bB (cB (gK (pv 2) (ay cH (pv 3) (pv 4)))) (bx (fI 3 sc.nd (ay kP (pv 3) (pv 4)))))) (av (xP rfl (by rfl) (by rfl) Z0.ztuple Z0.zreversed (pv 2))))))),?_⟩
 (try dsimp only[bf]);simp only[L2.start,aV,aW,List.replicate,bi,bj,Nat.reduceSub,Nat.reduceAdd,aZ,bh]
 cell_end ah ag oW;rw[if_neg (by lia)];refine⟨ns,.inr ha,hs,?_⟩;rw[if_neg (by lia)];have nz:=um (ns:=ns) (by lia);refine⟨smd,λ p hp=>?_⟩;refine LoopV.mk (xs:=ns.map V.int) (.of (af hp _ _ _ ha)) (λ i σ H'=>Same H H'/\H' p=some (.lst ((dgL ns pl i).map V.int))/\∃y,σ=[some (.ref a),some (.int pl),some (.ref p),some (.int (lfI ns pl i)),y]) ⟨af hp _,ar,_,rfl⟩ (λ i σ H' _ h=>.of (h.1 _ _ ha)) (λ i x σ H' hi e h=>?_) (λ σ H' h=>?_)
 ·refine hid λ Gz gz=>?_;obtain⟨h1,h2,y,rfl⟩:=h;obtain⟨m,rfl,hm,m0,m1⟩:=ki hs e;refine gz ?_;clear gz Gz;rw[aP] at hi hm;have mz:=nz m (bw hm);have rg:=qM hi hm
  have sm:((dgL ns pl i).map V.int).length < sizeLine:=by
   rw[aA,dgL,aA,fq];exact bD (by lia)
  have d1:dgI ns pl i=lfI ns pl i % m:=by unfold dgI;rw[rg]
  have l1:lfI ns pl (i+1)=lfI ns pl i / m:=by show lfI ns pl i / _=_;rw[rg]
  have fd:(lfI ns pl i).fdiv m=lfI ns pl i / m:=kG _ m0
  have s2:Same H (upd H' p (.lst (((dgL ns pl i).map V.int)++[V.int (lfI ns pl i % m)]))):=λ b o e=>by
   have nb:b≠p:=λ z=>by rw[z,hp] at e;cases e
   rw[bo nb];exact h1 b o e
  ktr_call ah ag;rw[l1,zB,aY,d1,fd];exact⟨⟨_,h2⟩,by lia,_,h2,sm,mz,by lia,by lia,s2,rfl,rfl,_,rfl⟩
 ·obtain⟨h1,h2,y,rfl⟩:=h;rw[aP] at h2;ktr_call ah ag;refine⟨_,.of h2,λ p2 hp2=>?_⟩;rw[← rR];exact q2 _ _ (h1.trans (af hp2 _)) ar
theorem LB(Y0:Cs Z0 15):ca (Cl Z0) 15:=kz1 Z0 Z0.g15 λ f fd F=>by
 have sc:=scq (aH BW) ["sides"] [];refine F.ok sc (λ vs H Q E h=>?_) (λ cdv A outer s H vs Q E hr h=>?_)
 ·exact el2 vs h λ _ _ _=>rfl
 refine el2 vs h λ a ns h=>an5 h λ ha hs h63 h512 q=>?_;refine⟨_,(av (dZ (own:=["place"]) (fv:=["sides"]) (js:=[0]) rfl (gF (by rfl) Z0.zrange (aG (ax (cc Y0 9) hr au (aG (pv 0))))) rfl (by decide) rfl (by decide) (by first | exact λ _ _ h=>h | exact dh rfl | exact dk rfl rfl | exact dn rfl rfl rfl) (dg (by rfl)) rfl (eh (by first | exact⟨rfl,.inl rfl,.inl rfl⟩ | exact⟨rfl,.inl rfl,.inr rfl⟩)) (λ _ _ _ _=>(bR 0 ["place","sides"])) (λ _ _ _ _=>(ax (cc Y0 14) hr au (ao (pv 1) (pv 0)))))),?_⟩;have pn:=mN λ n hn=>(hs n hn).1;cell_end ah ag oW;refine⟨ns,.inr ha,hs,by lia,by lia,?_⟩;refine CompR.mk (λ j ys σ G=>∃ps:List Addr,Same H G/\ys=ps.map V.ref/\TpsAt G ps ((mR ns).take j)/\∃y,σ=[y,some (.ref a)]) ⟨[],Same.refl _,rfl,⟨rfl,λ i t e=>by simp at e⟩,_,rfl⟩ (λ j ys σ G hj h=>?_) (λ ys σ G h p hp=>?_)
 ·refine hid λ Gz gz=>?_;obtain⟨ps,sG,rfl,tp,y,rfl⟩:=h;refine gz ?_;clear gz Gz;have pl:=tp.1;rw[be,uA] at pl;refine⟨by rw[aA];exact bD (by lia),?_⟩;cell_end ah ag BV;refine⟨ns,sG _ _ ha,hs,h63,by lia,by lia,λ H1 p s1 hp=>⟨sG.trans s1,ps++[p],by rw[aY];rfl,?_,_,rfl⟩⟩;rw[cO,zR (by lia)];refine(tp.mono λ b xs e=>s1 _ _ e).snoc ?_;rw[hp,show(0:Int)+(j:Int)=(j:Int) by lia];rfl
 ·refine hid λ Gz gz=>?_;obtain⟨ps,sG,rfl,tp,y,rfl⟩:=h;refine gz ?_;clear gz Gz;rw[fk (by rw[uA];lia)] at tp;exact q _ p ps (sG.trans (af hp _)) ar (tp.mono λ b xs e=>af hp _ _ _ e)
theorem LC(Y0:Cs Z0 16):ca (Cl Z0) 16:=kz3 Z0 Z0.g16 λ f fd F=>by
 have sc:=scq (aH BY) ["row","k","number"] [];refine F.ok sc (λ vs H Q E h=>?_) (λ cdv A outer s H vs Q E hr h=>?_)
 ·exact el4 vs h λ _ _ _ _ _=>rfl
 refine el4 vs h λ a ns k m h=>an4 h λ ha h63 hk q=>?_;refine⟨_,(av (ay dQ (ay dQ (cn nX (pv 0) cu (bY (pv 1))) (aU (aG (pv 2)))) (cn nX (pv 0) (bY (ay cE (pv 1) ae)) cu))),?_⟩
 (try dsimp only[bf]);simp only[L2.start,aV,aW,List.replicate,bi,bj,Nat.reduceSub,Nat.reduceAdd,aZ,bh]
 ktr_call ah ag;refine⟨_,ha,?_,λ r1 H1 s1 hr1=>⟨smd,λ p hp=>⟨_,af hp _ _ _ hr1,?_,λ r2 H2 s2 hr2=>⟨_,s2 _ _ (af hp _ _ _ (s1 _ _ ha)),?_,λ r3 H3 s3 hr3=>⟨_,s3 _ _ hr2,_,hr3,?_,λ r4 H4 s4 hr4=>?_⟩⟩⟩⟩⟩
 ·rw[aP];intro z;have z2:=z.2;simp only[HT.sIx] at z2;rw[if_neg (by lia)] at z2;lia
 ·rw[mO (by lia),aP];exact small (by rw[be];lia)
 ·rw[aP];intro z;have z1:=z.1;simp only[HT.sIx] at z1;rw[if_neg (by lia)] at z1;lia
 ·rw[show(k:Int)+1=((k+1:Nat):Int) by lia,mO (by lia),mP (by lia)];simp only[bu,aA,be,fF,aV,aW];exact small (by lia)
 rw[show(k:Int)+1=((k+1:Nat):Int) by lia,mO (by lia),mP (by lia)] at hr4;refine q _ _ (s1.trans ((af hp _).trans (s2.trans (s3.trans s4)))) ?_;rw[hr4,Ai,if_pos hk,iB,aY,aZ];rfl
theorem LD(Y0:Cs Z0 17):ca (Cl Z0) 17:=kz3 Z0 Z0.g17 λ f fd F=>by
 have sc:=scq (aH BZ) ["row","k","number"] [];refine F.ok sc (λ vs H Q E h=>?_) (λ cdv A outer s H vs Q E hr h=>?_)
 ·exact el4 vs h λ _ _ _ _ _=>rfl
 refine el4 vs h λ a ns k m h=>an3 h λ ha h63 q=>?_;refine⟨_,(av (ay dQ (ay dQ (cn cN (pv 0) cu (bY (pv 1))) (aU (aG (pv 2)))) (cn cN (pv 0) (bY (pv 1)) cu))),?_⟩
 (try dsimp only[bf]);simp only[L2.start,aV,aW,List.replicate,bi,bj,Nat.reduceSub,Nat.reduceAdd,aZ,bh]
 ktr_call ah ag;refine⟨_,ha,λ r1 H1 s1 hr1=>⟨smd,λ p hp=>⟨_,af hp _ _ _ hr1,?_,λ r2 H2 s2 hr2=>⟨_,s2 _ _ (af hp _ _ _ (s1 _ _ ha)),λ r3 H3 s3 hr3=>⟨_,s3 _ _ hr2,_,hr3,?_,λ r4 H4 s4 hr4=>?_⟩⟩⟩⟩⟩
 ·rw[fV,aP];exact small (by rw[be];lia)
 ·rw[fV,iE];simp only[bu,aA,be,fF,aV,aW];exact small (by lia)
 rw[fV,iE] at hr4;refine q _ _ (s1.trans ((af hp _).trans (s2.trans (s3.trans s4)))) ?_;rw[hr4];unfold ci;rw[aY,aY];rfl
theorem LF(Y0:Cs Z0 18):ca (Cl Z0) 18:=kz2 Z0 Z0.g18 λ f fd F=>by
 have sc:=scq (aH Ca) ["row","k"] [];refine F.ok sc (λ vs H Q E h=>?_) (λ cdv A outer s H vs Q E hr h=>?_)
 ·exact el3 vs h λ _ _ _ _=>rfl
 refine el3 vs h λ a ns k h=>an4 h λ ha h63 hk q=>?_;refine⟨_,(av (ay dQ (cn nX (pv 0) cu (bY (pv 1))) (cn nX (pv 0) (bY (ay cE (pv 1) ae)) cu))),?_⟩
 (try dsimp only[bf]);simp only[L2.start,aV,aW,List.replicate,bi,bj,Nat.reduceSub,Nat.reduceAdd,aZ,bh]
 ktr_call ah ag;refine⟨_,ha,?_,λ r1 H1 s1 hr1=>⟨_,s1 _ _ ha,?_,λ r3 H3 s3 hr3=>⟨_,s3 _ _ hr1,_,hr3,?_,λ r4 H4 s4 hr4=>?_⟩⟩⟩
 ·rw[aP];intro z;have z2:=z.2;simp only[HT.sIx] at z2;rw[if_neg (by lia)] at z2;lia
 ·rw[aP];intro z;have z1:=z.1;simp only[HT.sIx] at z1;rw[if_neg (by lia)] at z1;lia
 ·rw[show(k:Int)+1=((k+1:Nat):Int) by lia,mO (by lia),mP (by lia)];simp only[aA,be,fF];exact small (by lia)
 rw[show(k:Int)+1=((k+1:Nat):Int) by lia,mO (by lia),mP (by lia)] at hr4;refine q _ _ (s1.trans (s3.trans s4)) ?_;rw[hr4,vJ,aY]
theorem LG(Y0:Cs Z0 19):ca (Cl Z0) 19:=kz2 Z0 Z0.g19 λ f fd F=>by
 have sc:=scq (aH Cb) ["sides","side"] [];refine F.ok sc (λ vs H Q E h=>?_) (λ cdv A outer s H vs Q E hr h=>?_)
 ·exact el3 vs h λ _ _ _ _=>rfl
 refine el3 vs h λ a ns side h=>an3 h λ ha no q=>?_;refine⟨_,(bx (iq (PW.pt (dH (aC dO (pv 1) ae) (eK (aC kH (pv 1) (bz Z0.zlen (pv 0)))))) (bx du) iX)),?_⟩
 (try dsimp only[bf]);simp only[L2.start,aV,aW,List.replicate,bi,bj,Nat.reduceSub,Nat.reduceAdd,aZ,bh]
 ktr_call ah ag;unfold off at no;rw[if_neg (by lia)];refine⟨_,.inr (.of ha),?_⟩;rw[aP,if_neg (by lia)];exact q
theorem LH(Y0:Cs Z0 20):ca (Cl Z0) 20:=kz2 Z0 Z0.g20 λ f fd F=>by
 have sc:=scq (aH Cc) ["sides","order"] [];refine F.ok sc (λ vs H Q E h=>?_) (λ cdv A outer s H vs Q E hr h=>?_)
 ·exact el4 vs h λ _ _ _ _ _=>rfl
 refine el4 vs h λ a b ns os h=>an6 h λ ha hb h20 h21 tk q2=>?_;refine⟨_,(aI (aC (FT hr.units0) (cq Gm Z0.zsorted boot_sorted (aG (pv 1))) (cC (tL rfl) Z0.zlist s0v (aG (cC tK Z0.zrange s0y (aG (bz Z0.zlen (pv 0))))))) (bx du) (av (cC fg Z0.ztuple cJ (aG (dZ (own:=["side"]) (fv:=["sides"]) (js:=[0]) rfl (dM (pv 1)) rfl (by decide) rfl (by decide) (by first | exact λ _ _ h=>h | exact dh rfl | exact dk rfl rfl | exact dn rfl rfl rfl) (dg (by rfl)) rfl (eh (by first | exact⟨rfl,.inl rfl,.inl rfl⟩ | exact⟨rfl,.inl rfl,.inr rfl⟩)) (λ _ _ _ _=>(bR 0 ["side","sides"])) (λ _ _ _ _=>(aq aD (pv 1) (pv 0)))))))),?_⟩
 (try dsimp only[bf]);simp only[L2.start,aV,aW,List.replicate,bi,bj,Nat.reduceSub,Nat.reduceAdd,aZ,bh]
 ktr_call ah ag;refine⟨os,.inr hb.sq,by lia,λ ss pm pw l1 hl1=>⟨_,.inr (.of (af hl1 _ _ _ ha)),λ r hr=>⟨ns.length,by rw[aP];rfl,by lia,λ l2 hl2=>?_⟩⟩⟩;have t1:=af hl1 (.lst (ss.map V.int));have t2:=t1.trans (af hr (.rng 0 (((ns.map V.int).length:Nat):Int)));have t3:=t2.trans (af hl2 (.lst ((upL ns.length).map V.int)));refine⟨_,.of (af hl2 _ _ _ (af hr _ _ _ ar)),_,.of ar,dC _,dC _,?_⟩;rw[gv];have c:=(Jb (n:=ns.length) pm pw).mpr tk;rw[jT c,if_neg (by decide)];have ha3:=t3 _ _ ha;have hb3:=hb.same t3;generalize upd (upd (upd H l1 (HO.lst (List.map V.int ss))) r (HO.rng 0 (((ns.map V.int).length:Nat):Int))) l2 (HO.lst (List.map V.int (upL ns.length)))=H3 at *;refine CompT.mk (xs:=os.map V.int) hb3.sq (λ i ys σ H'=>H'=H3/\i≤os.length/\ys=(bX ns (os.take i)).map V.int/\∃y,σ=[y,some (.ref a)]) ⟨rfl,bc _,rfl,_,rfl⟩ (λ i ys σ H' _ h=>by rw[h.1];exact hb3.sq) (λ i x ys σ H' e h=>?_) (λ ys σ H' h p hp=>?_)
 ·refine hid λ Gz gz=>?_;obtain⟨rfl,hi,rfl,y,rfl⟩:=h;obtain⟨o,rfl,ho⟩:=dE e;refine gz ?_;clear gz Gz;have il:=(bv.mp ho).1;have om:=up_mem.mp (tk.subset (bw ho))
  have e1:(bX ns (os.take (i+1))).map V.int=(bX ns (os.take i)).map V.int++[V.int (ns.getD o.toNat 0)]:=by
   unfold bX;rw[cO,ho,aY,aY];rfl
  have sm:((bX ns (os.take i)).map V.int).length < sizeLine:=by unfold bX;rw[aA,aA,be];exact bD (by lia)
  cell_end ah ag e1;exact⟨sm,_,ha3,_,Ae om.1 om.2,il,rfl,_,rfl⟩
 ·refine hid λ Gz gz=>?_;obtain⟨rfl,hi,rfl,y,rfl⟩:=h;refine gz ?_;clear gz Gz;rw[aP,cx];exact⟨p,rfl,_,.inl ⟨.of ar,λ l hl=>q2 _ _ (t3.trans ((af hp _).trans (af hl _))) ar⟩⟩
theorem LJ(Y0:Cs Z0 21):ca (Cl Z0) 21:=kz2 Z0 Z0.g21 λ f fd F=>by
 have sc:=scq (aH Cd) ["sides","side"] [];refine F.ok sc (λ vs H Q E h=>?_) (λ cdv A outer s H vs Q E hr h=>?_)
 ·exact el3 vs h λ _ _ _ _=>rfl
 refine el3 vs h λ a ns side h=>an3 h λ ha no q=>?_;refine⟨_,(bB (cB (ax (cc Y0 19) hr au (ao (pv 0) (pv 1)))) (av (pv 0))),?_⟩
 (try dsimp only[bf]);simp only[L2.start,aV,aW,List.replicate,bi,bj,Nat.reduceSub,Nat.reduceAdd,aZ,bh]
 cell_end ah ag lK;exact⟨ns,ha,no,q⟩
theorem LK(Y0:Cs Z0 22):ca (Cl Z0) 22:=kz5 Z0 Z0.g22 λ f fd F=>by
 have sc:=scq (aH Ce) ["sides","side","first","many","step"] [];refine F.ok sc (λ vs H Q E h=>?_) (λ cdv A outer s H vs Q E hr h=>?_)
 ·exact el6 vs h λ _ _ _ _ _ _ _=>rfl
 refine el6 vs h λ a ns side first many step h=>an7 h λ ha h63 m0 m1 no nb q=>?_
 refine⟨_,(bB (cB (ax (cc Y0 19) hr au (ao (pv 0) (pv 1)))) (aI (PW.pt (dH (aC dO (pv 2) ae) (dH (aC dO (pv 3) ae) (eK (aC dO (pv 4) ae))))) (bx du) (aI (PW.pt (kE (aC gc (pv 3) ae) (kD (aC kH (ay cE (pv 2) (ay fR (ay eN (pv 3) ae) (pv 4))) (aq aD (pv 0) (pv 1)))))) (bx du) (av (ax (cc Y0 16) hr au (aE (pv 0) (ao (pv 1) (pv 3)))))))),?_⟩
 (try dsimp only[bf]);simp only[L2.start,aV,aW,List.replicate,bi,bj,Nat.reduceSub,Nat.reduceAdd,aZ,bh]
 kpf_say ah ag lK nv;refine⟨ns,ha,no,?_⟩;obtain⟨k,rfl,hk⟩:=iD no;unfold bad at nb;simp only[Int.toNat_natCast] at nb q;rw[if_neg (λ z=>nb (.inl z)),if_neg (λ z=>nb (.inr (.inl z))),if_neg (λ z=>nb (.inr (.inr (.inl z))))];split
 ·rename_i c4;refine⟨.inl ⟨by lia,by lia⟩,_,ha,_,fJ hk,_,rfl,?_⟩;rw[if_neg (λ z=>nb (.inr (.inr (.inr ⟨c4,z⟩))))];exact⟨ns,k,rfl,ha,h63,hk,q⟩
 ·exact⟨ns,k,rfl,ha,h63,hk,q⟩
theorem LM(Y0:Cs Z0 23):ca (Cl Z0) 23:=kz3 Z0 Z0.g23 λ f fd F=>by
 have sc:=scq (aH Cf) ["sides","side","many"] [];refine F.ok sc (λ vs H Q E h=>?_) (λ cdv A outer s H vs Q E hr h=>?_)
 ·exact el4 vs h λ _ _ _ _ _=>rfl
 refine el4 vs h λ a ns side many h=>an8 h λ ha hs h20 hm no nn nb q=>?_;refine⟨_,(aI (PW.pt (dH (aC dO (pv 1) ae) (eK (aC gc (pv 1) (bz Z0.zlen (pv 0)))))) (bx du) (aI (aC dO (pv 2) ae) (bx du) (av (ax (cc Y0 11) hr au (aG (ax (cc Y0 17) hr au (aE (pv 0) (ao (pv 1) (pv 2))))))))),?_⟩
 (try dsimp only[bf]);simp only[L2.start,aV,aW,List.replicate,bi,bj,Nat.reduceSub,Nat.reduceAdd,aZ,bh]
 kpf_say ah ag vo kB;unfold lB at no;rw[if_neg (by lia)];refine⟨_,.inr (.of ha),?_⟩;rw[aP,if_neg (by lia),if_neg nn];obtain⟨k,rfl⟩:∃k:Nat,side=k:=⟨side.toNat,by lia⟩;exact⟨ns,k,rfl,ha,by lia,λ H1 p s1 hp=>⟨_,hp,Af hs (by lia) hm,by rw[uI];lia,nb,λ H2 s2=>q _ _ (s1.trans s2) (s2 _ _ hp)⟩⟩
theorem LN(Y0:Cs Z0 24):ca (Cl Z0) 24:=kz2 Z0 Z0.g24 λ f fd F=>by
 have sc:=scq (aH Cg) ["sides","others"] [];refine F.ok sc (λ vs H Q E h=>?_) (λ cdv A outer s H vs Q E hr h=>?_)
 ·exact el4 vs h λ _ _ _ _ _=>rfl
 refine el4 vs h λ a b ns ms h=>an8 h λ ha hb hn hm hl nb e q=>?_;refine⟨_,(bB (cB (ax (cc Y0 11) hr au (aG (pv 1)))) (aI (aC gb (ax (cc Y0 9) hr au (aG (pv 0))) (ax (cc Y0 9) hr au (aG (pv 1)))) (bx du) (av (pv 1)))),?_⟩
 (try dsimp only[bf]);simp only[L2.start,aV,aW,List.replicate,bi,bj,Nat.reduceSub,Nat.reduceAdd,aZ,bh]
 kpf_say ah ag kB oW;refine⟨ms,hb,hm,by lia,nb,λ H1 s1=>⟨ns,.inr (s1 _ _ ha),hn,ms,.inr (s1 _ _ hb),hm,?_⟩⟩;rw[if_neg (λ z=>z e)];exact q _ s1
theorem LP(Y0:Cs Z0 25):ca (Cl Z0) 25:=kz3 Z0 Z0.g25 λ f fd F=>by
 have sc:=scq (aH Ch) ["sides","others","side"] [];refine F.ok sc (λ vs H Q E h=>?_) (λ cdv A outer s H vs Q E hr h=>?_)
 ·exact el5 vs h λ _ _ _ _ _ _=>rfl
 refine el5 vs h λ a b ns ms side h=>ny h λ ha hb hn hm hl le no c nb q=>?_;refine⟨_,(aI (aC gb (bz Z0.zlen (pv 0)) (bz Z0.zlen (pv 1))) (bx du) (bB (cB (ax (cc Y0 19) hr au (ao (pv 0) (pv 2)))) (aI (aC (qA hr.units0) (ax (cc Y0 18) hr au (ao (pv 0) (pv 2))) (ax (cc Y0 18) hr au (ao (pv 1) (pv 2)))) (bx du) (av (ax (cc Y0 11) hr au (aG (ax (cc Y0 16) hr au (aE (pv 0) (ao (pv 2) (ay cE (aq aD (pv 0) (pv 2)) (aq aD (pv 1) (pv 2)))))))))))),?_⟩
 (try dsimp only[bf]);simp only[L2.start,aV,aW,List.replicate,bi,bj,Nat.reduceSub,Nat.reduceAdd,aZ,bh]
 wp_walk using eX,da,eqV,ah,ag,lK,rE,kB,nv;refine⟨_,.inr (.of ha),_,.inr (.of hb),?_⟩;rw[aP,aP,if_neg (by lia)];refine⟨ns,ha,no,?_⟩;obtain⟨k,rfl,hk⟩:=iD no;simp only[Int.toNat_natCast] at c;refine⟨ns,k,rfl,ha,by lia,hk,λ H1 p1 s1 h1=>⟨ms,k,rfl,s1 _ _ hb,by lia,by lia,λ H2 p2 s2 h2=>⟨_,.of (s2 _ _ h1),_,.of h2,dC _,dC _,?_⟩⟩⟩;rw[gv,if_neg (by simp[c])];have s12:=s1.trans s2;have n1:=hn _ (getD_mem hk);have n2:=hm _ (getD_mem (ns:=ms) (k:=k) (by lia));refine⟨_,s12 _ _ ha,_,fJ hk,_,s12 _ _ hb,_,fJ (ns:=ms) (by lia),_,rfl,_,rfl,ns,k,rfl,s12 _ _ ha,by lia,hk,λ H3 p3 s3 h3=>?_⟩
 exact⟨_,h3,λ n hn'=>by
  rcases mQ hn' with z | z
  ·exact ia hn n z
  ·lia,by rw[gJ];lia,nb,λ H4 s4=>q _ _ (s12.trans (s3.trans s4)) (s4 _ _ h3)⟩
theorem LQ(Y0:Cs Z0 26):ca (Cl Z0) 26:=kz2 Z0 Z0.g26 λ f fd F=>by
 have sc:=scq (aH Ci) ["sides","others"] [];refine F.ok sc (λ vs H Q E h=>?_) (λ cdv A outer s H vs Q E hr h=>?_)
 ·exact el4 vs h λ _ _ _ _ _=>rfl
 refine el4 vs h λ a b ns ms h=>an4 h λ ha hb c q=>?_;refine⟨_,(aI (aC (qA hr.units0) (cn cN (pv 1) cu (bY (bz Z0.zlen (pv 0)))) (pv 0)) (bx du) (av (pv 1))),?_⟩
 (try dsimp only[bf]);simp only[L2.start,aV,aW,List.replicate,bi,bj,Nat.reduceSub,Nat.reduceAdd,aZ,bh]
 ktr_call ah ag;refine⟨_,.inr (.of ha),_,hb,λ r H1 s1 hr1=>?_⟩;rw[aP,fV] at hr1;refine⟨_,.of hr1,_,.of (s1 _ _ ha),dC _,dC _,?_⟩;rw[gv,if_neg (by simp[c])];exact q _ s1
theorem LR(Y0:Cs Z0 27):ca (Cl Z0) 27:=kz2 Z0 Z0.g27 λ f fd F=>by
 have sc:=scq (aH Cj) ["sides","others"] [];refine F.ok sc (λ vs H Q E h=>?_) (λ cdv A outer s H vs Q E hr h=>?_)
 ·exact el4 vs h λ _ _ _ _ _=>rfl
 refine el4 vs h λ a b ns ms h=>an4 h λ ha hb po q=>?_;refine⟨_,(aI (aC gc (bz Z0.zlen (pv 0)) (bz Z0.zlen (pv 1))) (av (ax (cc Y0 26) hr au (ao (pv 1) (pv 0)))) (av (ax (cc Y0 26) hr au (ao (pv 0) (pv 1))))),?_⟩
 (try dsimp only[bf]);simp only[L2.start,aV,aW,List.replicate,bi,bj,Nat.reduceSub,Nat.reduceAdd,aZ,bh]
 cell_end ah ag vy;refine⟨_,.inr (.of ha),_,.inr (.of hb),?_⟩;rw[aP,aP];unfold bV at po;unfold aQ at q;by_cases c:ms.length < ns.length
 ·rw[if_pos (by lia)];simp only[if_pos c] at po q;exact⟨ms,hb,ns,ha,po,λ H1 s1=>q _ _ s1 (s1 _ _ ha)⟩
 ·rw[if_neg (by lia)];simp only[if_neg c] at po q;exact⟨ns,ha,ms,hb,po,λ H1 s1=>q _ _ s1 (s1 _ _ hb)⟩
theorem LS(Y0:Cs Z0 28):ca (Cl Z0) 28:=kz3 Z0 Z0.g28 λ f fd F=>by
 have sc:=scq (aH Ck) ["marks","sides","others"] [];refine F.ok sc (λ vs H Q E h=>?_) (λ cdv A outer s H vs Q E hr h=>?_)
 ·exact el6 vs h λ _ _ _ _ _ _ _=>rfl
 refine el6 vs h λ a b c ns ms ks h=>an6 h λ ha hb hc o1 o2 q=>?_;refine⟨_,(av (ax (cc Y0 27) hr au (ao (ax (cc Y0 27) hr au (ao (pv 0) (pv 1))) (pv 2)))),?_⟩
 (try dsimp only[bf]);simp only[L2.start,aV,aW,List.replicate,bi,bj,Nat.reduceSub,Nat.reduceAdd,aZ,bh]
 cell_end ah ag rG;exact⟨ns,ha,ms,hb,o1,λ H1 p s1 hp=>⟨_,hp,ks,s1 _ _ hc,o2,λ H2 p2 s2 hp2=>q _ _ (s1.trans s2) hp2⟩⟩
theorem LU(Y0:Cs Z0 29):ca (Cl Z0) 29:=kz2 Z0 Z0.g29 λ f fd F=>by
 have sc:=scq (aH Cm) ["sides","others"] [];refine F.ok sc (λ vs H Q E h=>?_) (λ cdv A outer s H vs Q E hr h=>?_)
 ·exact el5 vs h λ _ _ _ _ _ _=>rfl
 refine el5 vs h λ a b n r ms h=>an9 h λ ha hb hn hm hl hk n0 nb q=>?_;refine⟨_,(aI (aC aR (bz Z0.zlen (pv 0)) ae) (bx du) (aI (aC aR (aq aD (pv 0) ae) ae) (bx du) (av (ax (cc Y0 11) hr au (aG (ay dQ (pv 1) (cn cN (pv 0) (bY ae) cu))))))),?_⟩
 (try dsimp only[bf]);simp only[L2.start,aV,aW,List.replicate,bi,bj,Nat.reduceSub,Nat.reduceAdd,aZ,bh]
 cell_end ah ag kB;refine⟨_,.inr (.of ha),?_⟩;rw[aP,if_neg (by simp;lia)];refine⟨_,ha,_,aB (j:=0) rfl,rfl,?_⟩;rw[if_neg (by simp[n0])];have cut:de ((n::r).map V.int) (some 1) none=r.map V.int:=mP (ns:=n::r) (k:=1) (by simp);refine⟨_,ha,λ r1 H1 s1 hr1=>⟨_,s1 _ _ hb,_,hr1,?_,λ r2 H2 s2 hr2=>?_⟩⟩
 ·rw[cut,aP,aP];exact small (by lia)
 rw[cut,← aY] at hr2;exact⟨ms++r,hr2,λ m hm'=>(cZ.mp hm').elim (hm m) (λ z=>hn m (aM _ z)),by rw[bu];lia,nb,λ H3 s3=>q _ _ ((s1.trans s2).trans s3) (s3 _ _ hr2)⟩
theorem LW(Y0:Cs Z0 30):ca (Cl Z0) 30:=kz2 Z0 Z0.g30 λ f fd F=>by
 have sc:=scq (aH Cn) ["sides","side"] [];refine F.ok sc (λ vs H Q E h=>?_) (λ cdv A outer s H vs Q E hr h=>?_)
 ·exact el3 vs h λ _ _ _ _=>rfl
 refine el3 vs h λ a ns side h=>an4 h λ ha h63 no q=>?_;refine⟨_,(bB (cB (ax (cc Y0 19) hr au (ao (pv 0) (pv 1)))) (av (ax (cc Y0 18) hr au (ao (pv 0) (pv 1))))),?_⟩
 (try dsimp only[bf]);simp only[L2.start,aV,aW,List.replicate,bi,bj,Nat.reduceSub,Nat.reduceAdd,aZ,bh]
 kpf_say ah ag lK rE;refine⟨ns,ha,no,?_⟩;obtain⟨k,rfl,hk⟩:=iD no;exact⟨ns,k,rfl,ha,h63,hk,q⟩
theorem LX(Y0:Cs Z0 31):ca (Cl Z0) 31:=kz2 Z0 Z0.g31 λ f fd F=>by
 have sc:=scq (aH Co) ["sides","side"] [];refine F.ok sc (λ vs H Q E h=>?_) (λ cdv A outer s H vs Q E hr h=>?_)
 ·exact el3 vs h λ _ _ _ _=>rfl
 refine el3 vs h λ a ns side h=>an6 h λ ha hn hl nb no q=>?_;refine⟨_,(bB (cB (ax (cc Y0 11) hr au (aG (pv 0)))) (bB (cB (ax (cc Y0 19) hr au (ao (pv 0) (pv 1)))) (av (pv 0)))),?_⟩
 (try dsimp only[bf]);simp only[L2.start,aV,aW,List.replicate,bi,bj,Nat.reduceSub,Nat.reduceAdd,aZ,bh]
 kpf_say ah ag kB lK;exact⟨ns,ha,hn,by lia,nb,λ H1 s1=>⟨ns,s1 _ _ ha,no,q _ s1⟩⟩
theorem LY(Y0:Cs Z0 32):ca (Cl Z0) 32:=kz1 Z0 Z0.g32 λ f fd F=>by
 have sc:=scq (aH Cp) ["step"] [];refine F.ok sc (λ vs H Q E h=>?_) (λ cdv A outer s H vs Q E hr h=>?_)
 ·exact el2 vs h λ _ _ _=>rfl
 refine el2 vs h λ p d h=>an3 h λ hst ok q=>?_;refine⟨_,(aI (aC aR (aq aD (pv 0) ae) aO) (bx (cB (ax (cc Y0 4) hr au (ao (aq aD (pv 0) ae) ae)))) (aI (aC aR (aq aD (pv 0) ae) aO) (bx (cB (ax (cc Y0 5) hr au (aE (aq aD (pv 0) ae) (ao ae ae))))) (bx (iq (su xx (aq aD (pv 0) ae) (aU (ao aO aO)) rfl) (bx (cB (ax (cc Y0 6) hr au (aG (aq aD (pv 0) ae))))) iX)))),?_⟩
 (try dsimp only[bf]);simp only[L2.start,aV,aW,List.replicate,bi,bj,Nat.reduceSub,Nat.reduceAdd,aZ,bh]
 refine hid λ Gz gz=>?_;obtain⟨xs,hp,h0,_,_⟩:=ig hst;refine gz ?_;clear gz Gz;ktn_end (λ σ G=>G=H/\σ=[some (.ref p)])
 ·cell_end ah ag rB;by_cases c:kdN d=3
  ·obtain⟨w,a,rfl⟩:=inv_at.2.2.1 c;refine⟨_,hst,_,aB (j:=0) rfl,rfl,?_⟩;rw[if_pos rfl];exact⟨_,hst,_,aB (j:=1) rfl,w,rfl,ok,hR _ _ ⟨rfl,rfl⟩⟩
  ·refine⟨_,hp,_,aB (j:=0) h0,rfl,?_⟩;rw[if_neg (show ¬V.str (aL (kdN d))=V.str "each" from kw 3 (bQ d) (by decide) c)];exact hR _ _ ⟨rfl,rfl⟩
 rintro σ1 G1 ⟨rfl,rfl⟩;ktn_end (λ σ G=>G=G1/\σ=[some (.ref p)])
 ·cell_end ah ag nr;by_cases c:kdN d=4
  ·obtain⟨w,a,b,rfl⟩:=inv_at.2.2.2.1 c;refine⟨_,hst,_,aB (j:=0) rfl,rfl,?_⟩;rw[if_pos rfl];exact⟨_,hst,_,aB (j:=1) rfl,w,rfl,⟨by decide,by decide⟩,⟨by decide,by decide⟩,ok,hR _ _ ⟨rfl,rfl⟩⟩
  ·refine⟨_,hp,_,aB (j:=0) h0,rfl,?_⟩;rw[if_neg (show ¬V.str (aL (kdN d))=V.str "pair" from kw 4 (bQ d) (by decide) c)];exact hR _ _ ⟨rfl,rfl⟩
 rintro σ2 G2 ⟨rfl,rfl⟩;cell_end ah ag rC;refine⟨_,hp,_,aB (j:=0) h0,smd,λ t ht=>⟨rfl,?_⟩⟩;by_cases c13:kdN d=13
 ·rw[if_pos (.inl (show(Str.ofString "fold" == aL (kdN d))=true by rw[c13];decide +kernel))];obtain⟨w,a,sd,rfl⟩:=inv_at.2.2.2.2.2.2.2.2.2.2.2.1 c13;exact⟨_,af ht _ _ _ hst,_,aB (j:=1) rfl,w,rfl,ok,λ G u=>q _ ((af ht _).trans u)⟩
 by_cases c14:kdN d=14
 ·rw[if_pos (.inr (show(Str.ofString "run" == aL (kdN d))=true by rw[c14];decide +kernel))];obtain⟨w,a,sd,rfl⟩:=inv_at.2.2.2.2.2.2.2.2.2.2.2.2 c14;exact⟨_,af ht _ _ _ hst,_,aB (j:=1) rfl,w,rfl,ok,λ G u=>q _ ((af ht _).trans u)⟩
 rw[if_neg (λ z=>z.elim (λ z=>cX 13 (bQ d) (by decide) c13 (jQ (show(Str.ofString "fold" == aL (kdN d))=true from z)).symm) (λ z=>cX 14 (bQ d) (by decide) c14 (jQ (show(Str.ofString "run" == aL (kdN d))=true from z)).symm))];exact q _ (af ht _)
theorem LZ(Y0:Cs Z0 33):ca (Cl Z0) 33:=kz1 Z0 Z0.g33 λ f fd F=>by
 have sc:=scq (aH Cq) ["step"] [];refine F.ok sc (λ vs H Q E h=>?_) (λ cdv A outer s H vs Q E hr h=>?_)
 ·exact el4 vs h λ _ _ _ _ _=>rfl
 refine el4 vs h λ p d S Ss h=>an5 h λ hst k3 ok fs q=>?_;refine⟨_,(aI (aC aR (aq aD (pv 0) ae) aO) (av (ax (cc Y0 11) hr au (aG (aq aD (pv 0) ae)))) (aI (aC aR (aq aD (pv 0) ae) aO) (av (ax (cc Y0 31) hr au (ao (aq aD (pv 0) ae) (aq aD (pv 0) ae)))) (av (aU bK)))),?_⟩
 (try dsimp only[bf]);simp only[L2.start,aV,aW,List.replicate,bi,bj,Nat.reduceSub,Nat.reduceAdd,aZ,bh]
 refine hid λ Gz gz=>?_;obtain⟨xs,hp,h0,_,_⟩:=ig hst;refine gz ?_;clear gz Gz;have sd:=eR fs;have s6:=fs.2.1;ktn_end (λ σ G=>G=H/\¬kdN d=0/\σ=[some (.ref p)])
 ·cell_end ah ag kB;by_cases c:kdN d=0
  ·refine hid λ Gz gz=>?_;obtain⟨ms,rfl⟩:=inv_at.1 c;obtain⟨b,hp,hb⟩:=hst;obtain⟨rfl,nb⟩:=ok;refine gz ?_;clear gz Gz;refine⟨_,hp,_,aB (j:=0) rfl,rfl,?_⟩;rw[if_pos rfl];exact⟨_,hp,_,aB (j:=1) rfl,b,rfl,S,hb,sd,by lia,nb,λ G u=>q _ b u (u _ _ hb)⟩
  ·refine⟨_,hp,_,aB (j:=0) h0,rfl,?_⟩;rw[if_neg (show ¬V.str (aL (kdN d))=V.str "in" from kw 0 (bQ d) (by decide) c)];exact hR _ _ ⟨rfl,c,rfl⟩
 rintro σ1 G1 ⟨rfl,c0,rfl⟩;ktn_end (λ σ G=>G=G1/\¬kdN d=2/\σ=[some (.ref p)])
 ·cell_end ah ag vC;by_cases c:kdN d=2
  ·refine hid λ Gz gz=>?_;obtain⟨ms,k,rfl⟩:=inv_at.2.1 c;obtain⟨b,hp,hb⟩:=hst;obtain⟨rfl,nb,no⟩:=ok;refine gz ?_;clear gz Gz;refine⟨_,hp,_,aB (j:=0) rfl,rfl,?_⟩;rw[if_pos rfl];exact⟨_,hp,_,aB (j:=1) rfl,_,hp,_,aB (j:=2) rfl,b,rfl,S,k,rfl,hb,sd,by lia,nb,no,λ G u=>q _ b u (u _ _ hb)⟩
  ·refine⟨_,hp,_,aB (j:=0) h0,rfl,?_⟩;rw[if_neg (show ¬V.str (aL (kdN d))=V.str "count" from kw 2 (bQ d) (by decide) c)];exact hR _ _ ⟨rfl,c,rfl⟩
 rintro σ2 G2 ⟨rfl,c2,rfl⟩
 have e:S=[]:=by
  cases d with
  | num n=>exact ok
  | inp ms=>exact absurd rfl c0
  | count ms k=>exact absurd rfl c2
  | _=>exact absurd k3 (oO rfl)
 ktr_call ah ag;exact⟨bc _,λ p0 hp0=>q _ p0 (af hp0 _) (by rw[e];exact ar)⟩
theorem Ma(Y0:Cs Z0 34):ca (Cl Z0) 34:=kz2 Z0 Z0.g34 λ f fd F=>by
 have sc:=scq (aH Ct) ["step","sides"] ["form"];refine F.ok sc (λ vs H Q E h=>?_) (λ cdv A outer s H vs Q E hr h=>?_)
 ·exact el7 vs h λ _ _ _ _ _ _ _ _=>rfl
 refine el7 vs h λ p o d S A Ss a h=>an8 h λ hst ha ea ho fA ok fs q=>?_;refine⟨_,(aN 2 sc.nd (aq aD (pv 0) ae) (aI (aC aR (pv 2) aO) (av (ax (cc Y0 20) hr au (ao (pv 1) (aq aD (pv 0) ae)))) (aI (aC aR (pv 2) aO) (av (ax (cc Y0 21) hr au (ao (pv 1) (aq aD (pv 0) ae)))) (aI (aC aR (pv 2) aO) (av (ax (cc Y0 22) hr au (aE (pv 1) (aE (aq aD (pv 0) ae) (aE (aq aD (pv 0) ae) (ao (aq aD (pv 0) ae) (aq aD (pv 0) ae))))))) (aI (aC aR (pv 2) aO) (av (ax (cc Y0 23) hr au (aE (pv 1) (ao (aq aD (pv 0) ae) (aq aD (pv 0) ae))))) (aI (aC aR (pv 2) aO) (av (ax (cc Y0 24) hr au (ao (pv 1) (aq aD (pv 0) ae)))) (aI (aC aR (pv 2) aO) (av (ax (cc Y0 30) hr au (ao (pv 1) (aq aD (pv 0) ae)))) (aI (aC aR (pv 2) aO) (av (ax (cc Y0 21) hr au (ao (pv 1) (aq aD (pv 0) ae)))) (av (pv 1)))))))))),?_⟩
 (try dsimp only[bf]);simp only[L2.start,aV,aW,List.replicate,bi,bj,Nat.reduceSub,Nat.reduceAdd,aZ,bh]
 refine hid λ Gz gz=>?_;obtain⟨xs,hp,h0,_,_⟩:=ig hst;refine gz ?_;clear gz Gz;have sd:=eR fs;have sdA:=eR fA;have s6:=fs.2.1;have a6:=fA.2.1;ktn_end (λ σ G=>G=H/\σ=[some (.ref p),some (.ref o),some (.str (aL (kdN d)))])
 ·ktr_call ah ag;exact⟨_,hp,_,aB (j:=0) h0,hR _ _ ⟨rfl,rfl⟩⟩
 rintro σ0 G0 ⟨rfl,rfl⟩;ktn_end (λ σ G=>G=G0/\¬kdN d=6/\σ=[some (.ref p),some (.ref o),some (.str (aL (kdN d)))])
 ·cell_end ah ag vp;by_cases c:kdN d=6;rotate_left
  ·rw[if_neg (show ¬aL (kdN d)=Str.ofString "turn" from cX 6 (bQ d) (by decide) c)];exact hR _ _ ⟨rfl,c,rfl⟩
  rw[if_pos (show aL (kdN d)=Str.ofString "turn" by rw[c];rfl)];obtain⟨a',os,rfl⟩:=inv_at.2.2.2.2.1 c;cases ha;obtain⟨A',ea',tk,rfl⟩:=ok;cases ea'.symm.trans ea;obtain⟨b,hp,hb⟩:=hst;exact⟨_,hp,_,aB (j:=2) rfl,b,rfl,A,ho,os,hb,by lia,by rw[tk.length_eq,jy];lia,tk,λ G r u h=>q _ r u h⟩
 rintro σ6 G6 ⟨rfl,c6,rfl⟩;ktn_end (λ σ G=>G=G6/\¬kdN d=7/\σ=[some (.ref p),some (.ref o),some (.str (aL (kdN d)))])
 ·cell_end ah ag rF;by_cases c:kdN d=7;rotate_left
  ·rw[if_neg (show ¬aL (kdN d)=Str.ofString "flip" from cX 7 (bQ d) (by decide) c)];exact hR _ _ ⟨rfl,c,rfl⟩
  rw[if_pos (show aL (kdN d)=Str.ofString "flip" by rw[c];rfl)];obtain⟨a',s,rfl⟩:=inv_at.2.2.2.2.2.1 c;cases ha;obtain⟨ea',no⟩:=ok;cases ea'.symm.trans ea;exact⟨_,hst,_,aB (j:=2) rfl,S,s,rfl,ho,no,q _ o (Same.refl _) ho⟩
 rintro σ7 G7 ⟨rfl,c7,rfl⟩;ktn_end (λ σ G=>G=G7/\¬kdN d=8/\σ=[some (.ref p),some (.ref o),some (.str (aL (kdN d)))])
 ·cell_end ah ag vq;by_cases c:kdN d=8;rotate_left
  ·rw[if_neg (show ¬aL (kdN d)=Str.ofString "cut" from cX 8 (bQ d) (by decide) c)];exact hR _ _ ⟨rfl,c,rfl⟩
  rw[if_pos (show aL (kdN d)=Str.ofString "cut" by rw[c];rfl)];refine hid λ Gz gz=>?_;obtain⟨a',s,f,m,g,rfl⟩:=inv_at.2.2.2.2.2.2.1 c;refine gz ?_;clear gz Gz;cases ha;refine hid λ Gz gz=>?_;obtain⟨A',ea',no,nb,m5,rfl⟩:=ok;refine gz ?_;clear gz Gz;cases ea'.symm.trans ea;exact⟨_,hst,_,aB (j:=2) rfl,_,hst,_,aB (j:=3) rfl,_,hst,_,aB (j:=4) rfl,_,hst,_,aB (j:=5) rfl,A,s,rfl,f,rfl,m,rfl,g,rfl,ho,by lia,by unfold bad at nb;lia,by lia,no,nb,λ G r u h=>q _ r u h⟩
 rintro σ8 G8 ⟨rfl,c8,rfl⟩;ktn_end (λ σ G=>G=G8/\¬kdN d=9/\σ=[some (.ref p),some (.ref o),some (.str (aL (kdN d)))])
 ·cell_end ah ag vt;by_cases c:kdN d=9;rotate_left
  ·rw[if_neg (show ¬aL (kdN d)=Str.ofString "spread" from cX 9 (bQ d) (by decide) c)];exact hR _ _ ⟨rfl,c,rfl⟩
  rw[if_pos (show aL (kdN d)=Str.ofString "spread" by rw[c];rfl)];obtain⟨a',s,m,rfl⟩:=inv_at.2.2.2.2.2.2.2.1 c;cases ha;refine hid λ Gz gz=>?_;obtain⟨A',ea',no,nm,m5,nb,rfl⟩:=ok;refine gz ?_;clear gz Gz;cases ea'.symm.trans ea;exact⟨_,hst,_,aB (j:=2) rfl,_,hst,_,aB (j:=3) rfl,A,s,rfl,m,rfl,ho,sdA,by lia,by lia,no,nm,nb,λ G r u h=>q _ r u h⟩
 rintro σ9 G9 ⟨rfl,c9,rfl⟩;ktn_end (λ σ G=>G=G9/\¬kdN d=10/\σ=[some (.ref p),some (.ref o),some (.str (aL (kdN d)))])
 ·cell_end ah ag vw;by_cases c:kdN d=10;rotate_left
  ·rw[if_neg (show ¬aL (kdN d)=Str.ofString "lay" from cX 10 (bQ d) (by decide) c)];exact hR _ _ ⟨rfl,c,rfl⟩
  rw[if_pos (show aL (kdN d)=Str.ofString "lay" by rw[c];rfl)];obtain⟨a',ms,rfl⟩:=inv_at.2.2.2.2.2.2.2.2.1 c;cases ha;refine hid λ Gz gz=>?_;obtain⟨A',ea',nb,pe,rfl⟩:=ok;refine gz ?_;clear gz Gz;cases ea'.symm.trans ea;obtain⟨b,hp,hb⟩:=hst;exact⟨_,hp,_,aB (j:=2) rfl,b,rfl,A,ho,S,hb,sdA,sd,by lia,nb,pe,λ G u=>q _ b u (u _ _ hb)⟩
 rintro σ10 G10 ⟨rfl,c10,rfl⟩;ktn_end (λ σ G=>G=G10/\¬kdN d=13/\σ=[some (.ref p),some (.ref o),some (.str (aL (kdN d)))])
 ·cell_end ah ag vB;by_cases c:kdN d=13;rotate_left
  ·rw[if_neg (show ¬aL (kdN d)=Str.ofString "fold" from cX 13 (bQ d) (by decide) c)];exact hR _ _ ⟨rfl,c,rfl⟩
  rw[if_pos (show aL (kdN d)=Str.ofString "fold" by rw[c];rfl)];obtain⟨w,a',s,rfl⟩:=inv_at.2.2.2.2.2.2.2.2.2.2.2.1 c;cases ha;refine hid λ Gz gz=>?_;obtain⟨A',ea',_,no,rfl⟩:=ok;refine gz ?_;clear gz Gz;cases ea'.symm.trans ea;exact⟨_,hst,_,aB (j:=3) rfl,A,s,rfl,ho,by lia,no,λ G r u h=>q _ r u h⟩
 rintro σ13 G13 ⟨rfl,c13,rfl⟩;ktn_end (λ σ G=>G=G13/\¬kdN d=14/\σ=[some (.ref p),some (.ref o),some (.str (aL (kdN d)))])
 ·cell_end ah ag rF;by_cases c:kdN d=14;rotate_left
  ·rw[if_neg (show ¬aL (kdN d)=Str.ofString "run" from cX 14 (bQ d) (by decide) c)];exact hR _ _ ⟨rfl,c,rfl⟩
  rw[if_pos (show aL (kdN d)=Str.ofString "run" by rw[c];rfl)];obtain⟨w,a',s,rfl⟩:=inv_at.2.2.2.2.2.2.2.2.2.2.2.2 c;cases ha;obtain⟨ea',_,no⟩:=ok;cases ea'.symm.trans ea;exact⟨_,hst,_,aB (j:=3) rfl,S,s,rfl,ho,no,q _ o (Same.refl _) ho⟩
 rintro σ14 G14 ⟨rfl,c14,rfl⟩
 have e:S=A:=by
  cases d with
  | each w a'=>cases ha;obtain⟨ea',_⟩:=ok;cases ea'.symm.trans ea;rfl
  | turn=>exact absurd rfl c6
  | flip=>exact absurd rfl c7
  | cut=>exact absurd rfl c8
  | spread=>exact absurd rfl c9
  | lay=>exact absurd rfl c10
  | fold=>exact absurd rfl c13
  | run=>exact absurd rfl c14
  | _=>cases ha
 ktr_call ah ag;exact q _ o (Same.refl _) (by rw[e];exact ho)
theorem Mb(Y0:Cs Z0 35):ca (Cl Z0) 35:=kz2 Z0 Z0.g35 λ f fd F=>by
 have sc:=scq (aH Cu) ["step","sides"] ["used","form"];refine F.ok sc (λ vs H Q E h=>?_) (λ cdv A outer s H vs Q E hr h=>?_)
 ·exact el6 vs h λ _ _ _ _ _ _ _=>rfl
 refine el6 vs h λ p s d S Ss ps h=>an7 h λ hst hs ht fS ok fs q=>?_;refine⟨_,(bB (cB (ax (cc Y0 32) hr au (aG (pv 0)))) (bB (yx (own:=["number"]) (fv:=["sides"]) (js:=[1]) sc.nd (i:=2) rfl (by first | exact Or.inl rfl | exact Or.inr rfl) (by first | exact Or.inl rfl | exact Or.inr rfl) rfl (dM (ax (cc Y0 8) hr au (aG (pv 0)))) rfl (by decide) rfl (by decide) (by first | exact λ _ _ h=>h | exact dh rfl | exact dk rfl rfl | exact dn rfl rfl rfl) (dg (by rfl)) rfl (eh (by first | exact⟨rfl,.inl rfl,.inl rfl⟩ | exact⟨rfl,.inl rfl,.inr rfl⟩)) (λ _ _ _ _=>(bR 0 ["number","sides"])) (λ _ _ _ _=>(aq qD (pv 1) (pv 0)))) (aN 3 sc.nd (aq aD (pv 0) ae) (aI (aC aR (bz Z0.zlen (pv 2)) ae) (av (ax (cc Y0 33) hr au (aG (pv 0)))) (aI (aC aR (bz Z0.zlen (pv 2)) ae) (av (ax (cc Y0 34) hr au (ao (pv 0) (aq bp (pv 2) ae)))) (aI (aC aR (pv 3) aO) (av (ax (cc Y0 27) hr au (ao (aq bp (pv 2) ae) (aq bp (pv 2) ae)))) (aI (aC aR (pv 3) aO) (av (ax (cc Y0 25) hr au (aE (aq bp (pv 2) ae) (ao (aq bp (pv 2) ae) (aq aD (pv 0) ae))))) (aI (aC aR (pv 3) aO) (av (ax (cc Y0 29) hr au (ao (aq bp (pv 2) ae) (aq bp (pv 2) ae)))) (av (ax (cc Y0 28) hr au (aE (aq bp (pv 2) ae) (ao (aq bp (pv 2) ae) (aq bp (pv 2) ae))))))))))))),?_⟩
 (try dsimp only[bf]);simp only[L2.start,aV,aW,List.replicate,bi,bj,Nat.reduceSub,Nat.reduceAdd,aZ,bh]
 refine hid λ Gz gz=>?_;obtain⟨xs,hp,h0,hq,hg⟩:=ig hst;refine gz ?_;clear gz Gz;have al:=qZ ok;ktn_end (λ σ G=>Same H G/\σ=[some (.ref p),some (.ref s),none,none])
 ·cell_end ah ag AJ;exact⟨d,hst,JL ok,λ G u=>hR _ _ ⟨u,rfl⟩⟩
 rintro σ1 G1 ⟨s1,rfl⟩;ktn_end (λ σ G=>Same G1 G/\∃ul us,G ul=some (.lst (us.map V.ref))/\UsAt G us (cP d) Ss/\σ=[some (.ref p),some (.ref s),some (.ref ul),none])
 ·cell_end ah ag rD;refine⟨p,kdN d,bQ d,rfl,xs,s1 _ _ hp,h0,hq,λ G2 t u2 h2=>?_⟩;rw[hg] at h2;have hs2:G2 s=some (.lst (ps.map V.ref))\/G2 s=some (.tup (ps.map V.ref)):=hs.imp (λ z=>(s1.trans u2) _ _ z) (λ z=>(s1.trans u2) _ _ z);have ht2:=ht.same (s1.trans u2);refine CompT.mk (xs:=nmV (cP d)) (.of h2) (λ i ys σ G=>G=G2/\∃us:List Addr,ys=us.map V.ref/\i≤(cP d).length/\UsAt G us ((cP d).take i) Ss/\∃y,σ=[y,some (.ref s)]) ⟨rfl,[],rfl,bc _,⟨rfl,λ i a e=>nomatch e⟩,_,rfl⟩ (λ i ys σ G _ h=>by rw[h.1];exact .of h2) (λ i x ys σ G e h=>?_) (λ ys σ G h p1 hp1=>?_)
  ·refine hid λ Gz gz=>?_;obtain⟨rfl,us,rfl,hi,hu,y,rfl⟩:=h;obtain⟨a,rfl,ea⟩:=uQ e;have il:=(bv.mp ea).1;have a3:=uP d;obtain⟨pk,A,ek,eA,hA⟩:=gS ht2 (al a (bw ea));refine gz ?_;clear gz Gz;refine⟨by rw[aA,hu.1,be];exact bD (by lia),?_⟩;have us2:=JM hu eA hA;rw[show(cP d).take i++[a]=(cP d).take (i+1) by rw[cO,ea];rfl] at us2;ktr_call ah ag;exact⟨_,hs2,_,ek,us++[pk],by rw[aY];rfl,il,us2,_,rfl⟩
  ·refine hid λ Gz gz=>?_;obtain⟨rfl,us,rfl,hi,hu,y,rfl⟩:=h;refine gz ?_;clear gz Gz;rw[uR,cx] at hu;exact hR _ _ ⟨u2.trans (af hp1 _),p1,us,ar,hu.same (af hp1 _),rfl⟩
 rintro σ2 G2 hz9;refine hid λ Gz gz=>?_;obtain⟨s2,ul,us,hul,hu,rfl⟩:=hz9;refine gz ?_;clear gz Gz;have t2:=s1.trans s2;have hst2:=hst.same t2;have hp2:=t2 _ _ hp;ktn_end (λ σ G=>G=G2/\σ=[some (.ref p),some (.ref s),some (.ref ul),some (.str (aL (kdN d)))])
 ·ktr_call ah ag;exact⟨_,hp2,_,aB (j:=0) h0,hR _ _ ⟨rfl,rfl⟩⟩
 rintro σ3 G3 ⟨rfl,rfl⟩;ktn_end (λ σ G=>G=G3/\¬(cP d).length=0/\σ=[some (.ref p),some (.ref s),some (.ref ul),some (.str (aL (kdN d)))])
 ·cell_end ah ag AK;refine⟨_,.inl (.of hul),?_⟩;rw[aA,hu.1];split
  ·exact⟨d,hst2,JN (by lia),S,Ss,ok,fs,λ G r u h=>q _ r (t2.trans u) h⟩
  ·exact hR _ _ ⟨rfl,by lia,rfl⟩
 rintro σ4 G4 ⟨rfl,n0,rfl⟩;ktn_end (λ σ G=>G=G4/\¬(cP d).length=1/\σ=[some (.ref p),some (.ref s),some (.ref ul),some (.str (aL (kdN d)))])
 ·cell_end ah ag AL;refine⟨_,.inl (.of hul),?_⟩;rw[aA,hu.1];split
  ·obtain⟨a,ea⟩:=JO (d:=d) (by lia);obtain⟨u0,A,e0,eA,hA⟩:=hu.2 0 a (by rw[ea];rfl);obtain⟨u1,e1,h1⟩:=iP hu 0 (by rw[ea];rfl) eA;exact⟨_,hul,_,e1,u1,rfl,d,hst2,S,A,Ss,a,ea,eA,h1,fS A (bw eA),ok,fs,λ G r u h=>q _ r (t2.trans u) h⟩
  ·exact hR _ _ ⟨rfl,by lia,rfl⟩
 rintro σ5 G5 ⟨rfl,n1,rfl⟩;ktn_end (λ σ G=>G=G5/\¬kdN d=4/\σ=[some (.ref p),some (.ref s),some (.ref ul),some (.str (aL (kdN d)))])
 ·cell_end ah ag rG;by_cases c:kdN d=4;rotate_left
  ·rw[if_neg (show ¬aL (kdN d)=Str.ofString "pair" from cX 4 (bQ d) (by decide) c)];exact hR _ _ ⟨rfl,c,rfl⟩
  rw[if_pos (show aL (kdN d)=Str.ofString "pair" by rw[c];rfl)];refine hid λ Gz gz=>?_;obtain⟨w,a,b,rfl⟩:=inv_at.2.2.2.1 c;obtain⟨A,B,eA,eB,_,pk,rfl⟩:=ok;obtain⟨u0,e0,hA⟩:=iP hu 0 rfl eA;obtain⟨u1,e1,hB⟩:=iP hu 1 rfl eB;refine gz ?_;clear gz Gz;exact⟨_,hul,_,e0,_,hul,_,e1,u0,rfl,u1,rfl,A,hA,B,hB,pk,λ G r u h=>q _ r (t2.trans u) h⟩
 rintro σ6 G6 ⟨rfl,n4,rfl⟩;ktn_end (λ σ G=>G=G6/\¬kdN d=11/\σ=[some (.ref p),some (.ref s),some (.ref ul),some (.str (aL (kdN d)))])
 ·cell_end ah ag vx;by_cases c:kdN d=11;rotate_left
  ·rw[if_neg (show ¬aL (kdN d)=Str.ofString "join" from cX 11 (bQ d) (by decide) c)];exact hR _ _ ⟨rfl,c,rfl⟩
  rw[if_pos (show aL (kdN d)=Str.ofString "join" by rw[c];rfl)];refine hid λ Gz gz=>?_;obtain⟨a,b,sd,rfl⟩:=inv_at.2.2.2.2.2.2.2.2.2.1 c;obtain⟨A,B,eA,eB,j1,j2,j3,j4,rfl⟩:=ok;obtain⟨u0,e0,hA⟩:=iP hu 0 rfl eA;obtain⟨u1,e1,hB⟩:=iP hu 1 rfl eB;refine gz ?_;clear gz Gz;have fA:=fS A (bw eA);have fB:=fS B (bw eB);exact⟨_,hul,_,e0,_,hul,_,e1,_,hst2,_,aB (j:=3) rfl,u0,rfl,u1,rfl,A,B,sd,rfl,hA,hB,oQ fA,oQ fB,by have:=fA.2.1;lia,j1,j2,j3,j4,λ G r u h=>q _ r (t2.trans u) h⟩
 rintro σ7 G7 ⟨rfl,n11,rfl⟩;ktn_end (λ σ G=>G=G7/\¬kdN d=12/\σ=[some (.ref p),some (.ref s),some (.ref ul),some (.str (aL (kdN d)))])
 ·cell_end ah ag vA;by_cases c:kdN d=12;rotate_left
  ·rw[if_neg (show ¬aL (kdN d)=Str.ofString "fetch" from cX 12 (bQ d) (by decide) c)];exact hR _ _ ⟨rfl,c,rfl⟩
  rw[if_pos (show aL (kdN d)=Str.ofString "fetch" by rw[c];rfl)];refine hid λ Gz gz=>?_;obtain⟨a,b,rfl⟩:=inv_at.2.2.2.2.2.2.2.2.2.2.1 c;obtain⟨n,r,B,eA,nz,eB,nb,rfl⟩:=ok;obtain⟨u0,e0,hA⟩:=iP hu 0 rfl eA;obtain⟨u1,e1,hB⟩:=iP hu 1 rfl eB;refine gz ?_;clear gz Gz;have fA:=fS _ (bw eA);have fB:=fS B (bw eB);exact⟨_,hul,_,e0,_,hul,_,e1,u0,rfl,u1,rfl,n,r,hA,B,hB,eR fA,eR fB,cD (Nat.lt_of_succ_le fA.2.1) (by decide),by have:=fB.2.1;lia,nz,nb,λ G x u h=>q _ x (t2.trans u) h⟩
 rintro σ8 G8 ⟨rfl,n12,rfl⟩
 obtain⟨a,b,c,rfl⟩:∃a b c,d=.pick a b c:=by
  cases d with
  | pick a b c=>exact⟨a,b,c,rfl⟩
  | pair=>exact absurd rfl n4
  | join=>exact absurd rfl n11
  | fetch=>exact absurd rfl n12
  | inp=>exact absurd rfl n0
  | num=>exact absurd rfl n0
  | count=>exact absurd rfl n0
  | _=>exact absurd rfl n1
 refine hid λ Gz gz=>?_;obtain⟨A,B,C,eA,eB,eC,p1,p2,rfl⟩:=ok;obtain⟨u0,e0,hA⟩:=iP hu 0 rfl eA;obtain⟨u1,e1,hB⟩:=iP hu 1 rfl eB;obtain⟨u2,e2,hC⟩:=iP hu 2 rfl eC;refine gz ?_;clear gz Gz;cell_end ah ag vz;exact⟨_,hul,_,e0,_,hul,_,e1,_,hul,_,e2,u0,rfl,u1,rfl,u2,rfl,A,hA,B,hB,C,hC,p1,p2,λ G r u h=>q _ r (t2.trans u) h⟩
theorem Mc(Y0:Cs Z0 36):ca (Cl Z0) 36:=kz2 Z0 Z0.g36 λ f fd F=>by
 have sc:=scq (aH Cv) ["step","sides"] ["k"];obtain⟨tMOST_STEPS,gMOST_STEPS⟩:=Z0.gMOST_STEPS;refine F.ok sc (λ vs H Q E h=>?_) (λ cdv A outer s H vs Q E hr h=>?_)
 ·exact el6 vs h λ _ _ _ _ _ _ _=>rfl
 refine el6 vs h λ p s d S Ss ps h=>an8 h λ hst hs ht fS l40 ok fs q=>?_;refine⟨_,(aN 2 sc.nd (bz Z0.zlen (pv 1)) (aI (aC kH (pv 2) (jI (v:=.int 40) (by rfl) gMOST_STEPS ⟨_,rfl⟩)) (av (aU (ao lR aO))) (aI (eW (cq (yC rfl) Z0.zany boot_any (aG (dZ (own:=["number"]) (fv:=["k"]) (js:=[2]) rfl (dM (ax (cc Y0 8) hr au (aG (pv 0)))) rfl (by decide) rfl (by decide) (by first | exact λ _ _ h=>h | exact dh rfl | exact dk rfl rfl | exact dn rfl rfl rfl) (dg (by rfl)) rfl (eh (by first | exact⟨rfl,.inl rfl,.inl rfl⟩ | exact⟨rfl,.inl rfl,.inr rfl⟩)) (λ _ _ _ _=>(bR 0 ["number","k"])) (λ _ _ _ _=>(vY (kI dO (pv 0) ae (jO _)) (sf (kI kH (pv 0) (pv 1) (jO _))))))))) (av (aU (ao lR aO))) (bx (HS (λ xe pn=>(av (aU (ao (ax (cc Y0 35) hr au (ao (pv 0) (pv 1))) lR))))))))),?_⟩
 (try dsimp only[bf]);simp only[L2.start,aV,aW,List.replicate,bi,bj,Nat.reduceSub,Nat.reduceAdd,aZ,bh]
 refine hid λ Gz gz=>?_;obtain⟨xs,hp,h0,hq,hg⟩:=ig hst;refine gz ?_;clear gz Gz;have al:=qZ ok;ktn_end (λ σ G=>G=H/\σ=[some (.ref p),some (.ref s),some (.int (Ss.length:Int))])
 ·ktr_call ah ag;refine⟨_,.inl (.of hs),?_⟩;rw[aA,ht.1];exact hR _ _ ⟨rfl,rfl⟩
 rintro σ1 G1 ⟨rfl,rfl⟩;ktn_end (λ σ G=>G=G1/\σ=[some (.ref p),some (.ref s),some (.int (Ss.length:Int))])
 ·ktr_call ah ag;rw[if_neg (by lia)];exact hR _ _ ⟨rfl,rfl⟩
 rintro σ2 G2 ⟨rfl,rfl⟩;ktn_end (λ σ G=>Same G2 G/\σ=[some (.ref p),some (.ref s),some (.int (Ss.length:Int))])
 ·cell_end ah ag rD;refine⟨p,kdN d,bQ d,rfl,xs,hp,h0,hq,λ G3 t u3 h3=>?_⟩;rw[hg] at h3;refine CompT.mk (xs:=nmV (cP d)) (.of h3) (λ i ys σ G=>G=G3/\i≤(cP d).length/\ys=(rep i).map V.bl/\∃y,σ=[y,some (.int (Ss.length:Int))]) ⟨rfl,bc _,rfl,_,rfl⟩ (λ i ys σ G _ h=>by rw[h.1];exact .of h3) (λ i x ys σ G e h=>?_) (λ ys σ G h p1 hp1=>?_)
  ·refine hid λ Gz gz=>?_;obtain⟨rfl,hi,rfl,y,rfl⟩:=h;obtain⟨a,rfl,ea⟩:=uQ e;refine gz ?_;clear gz Gz;have il:=(bv.mp ea).1;have a3:=uP d;have aS:=al a (bw ea);refine⟨by rw[aA,AQ];exact bD (by lia),?_⟩;ktr_call ah ag;rw[if_neg (by lia),fO (show ¬(Ss.length:Int)≤(a:Int) by lia)];exact⟨il,(AO i).symm,_,rfl⟩
  ·refine hid λ Gz gz=>?_;obtain⟨rfl,hi,rfl,y,rfl⟩:=h;refine gz ?_;clear gz Gz;rw[uR];refine⟨_,rfl,_,.of ar,?_⟩;rw[AR,if_neg cI];exact hR _ _ ⟨u3.trans (af hp1 _),rfl⟩
 rintro σ3 G3 ⟨s3,rfl⟩;cell_end ah ag AM;exact⟨d,hst.same s3,S,Ss,ps,.inl (s3 _ _ hs),ht.same s3,fS,ok,fs,λ G r u h=>⟨smd,λ p1 hp1=>q _ p1 r (s3.trans (u.trans (af hp1 _))) ar (af hp1 _ _ _ h)⟩⟩
theorem Me(Y0:Cs Z0 37):ca (Cl Z0) 37:=kz1 Z0 Z0.g37 λ f fd F=>by
 have sc:=scq (aH Cw) ["program"] ["steps","outs","sides","step","told"];obtain⟨tMOST_OUTS,gMOST_OUTS⟩:=Z0.gMOST_OUTS;refine F.ok sc (λ vs H Q E h=>?_) (λ cdv A outer s H vs Q E hr h=>?_)
 ·obtain⟨r,ds,Ss,os,mo,rfl,_⟩:=h;rfl
 obtain⟨r,ds,Ss,os,mo,rfl,⟨st,ot,qs,hr0,hst,sl,hot⟩,⟨hmo,gd,d0,d40,o0,o8,ob⟩,q⟩:=h;refine⟨_,(aN 1 sc.nd (aq aD (pv 0) ae) (aN 2 sc.nd (aq aD (pv 0) ae) (aN 3 sc.nd (dP bK) (bB (dN dU rfl (dM (pv 1)) (dD 4 sc.nd) (aN 5 sc.nd (ax (cc Y0 36) hr au (ao (pv 4) (pv 3))) (aI (aC wy (aq aD (pv 5) ae) lR) (av (aU (ao (cC fg Z0.ztuple cJ (aG (pv 3))) (aU (ao (bz Z0.zlen (pv 3)) (aq aD (pv 5) ae)))))) (bx (cB (gK (pv 3) (aq aD (pv 5) ae))))))) (aI (PW.pt (dH (gC (DX pL pL ae (bz Z0.zlen (pv 2)) (jI (v:=.int 8) (by rfl) gMOST_OUTS ⟨_,rfl⟩))) (eK (eW (cq (yC rfl) Z0.zany boot_any (aG (dZ (own:=["out"]) (fv:=["steps"]) (js:=[1]) rfl (dM (pv 2)) rfl (by decide) rfl (by decide) (by first | exact λ _ _ h=>h | exact dh rfl | exact dk rfl rfl | exact dn rfl rfl rfl) (dg (by rfl)) rfl (eh (by first | exact⟨rfl,.inl rfl,.inl rfl⟩ | exact⟨rfl,.inl rfl,.inr rfl⟩)) (λ _ _ _ _=>(bR 0 ["out","steps"])) (λ _ _ _ _=>(vY (kI dO (pv 0) ae (jO _)) (sf (kI kH (pv 0) (cq ((ng (K:=K) rfl)) Z0.zlen lj (aG (pv 1))) (jO _)))))))))))) (av (aU (ao (cC fg Z0.ztuple cJ (aG (pv 3))) (aU (ao (cq ((ng (K:=K) rfl)) Z0.zlen lj (aG (pv 1))) aO))))) (av (aU (ao (cC fg Z0.ztuple cJ (aG (pv 3))) lR)))))))),?_⟩
 (try dsimp only[bf]);simp only[L2.start,aV,aW,List.replicate,bi,bj,Nat.reduceSub,Nat.reduceAdd,aZ,bh]
 ktn_end (λ σ G=>G=H/\σ=[some (.ref r),some (.ref st),none,none,none,none])
 ·ktr_call ah ag;exact⟨_,hr0,_,aB (j:=0) rfl,hR _ _ ⟨rfl,rfl⟩⟩
 rintro σ1 G1 ⟨rfl,rfl⟩;ktn_end (λ σ G=>G=G1/\σ=[some (.ref r),some (.ref st),some (.ref ot),none,none,none])
 ·ktr_call ah ag;exact⟨_,hr0,_,aB (j:=1) rfl,hR _ _ ⟨rfl,rfl⟩⟩
 rintro σ2 G2 ⟨rfl,rfl⟩;ktn_end (λ σ G=>∃sd,Same G2 G/\G2 sd=none/\G sd=some (.lst [])/\σ=[some (.ref r),some (.ref st),some (.ref ot),some (.ref sd),none,none])
 ·ktr_call ah ag;exact⟨bc _,λ l hl=>hR _ _ ⟨l,af hl _,hl,ar,rfl⟩⟩
 rintro σ3 G3 hz9;refine hid λ Gz gz=>?_;obtain⟨sd,s3,sd0,hsd,rfl⟩:=hz9;refine gz ?_;clear gz Gz;ktn_end (λ σ G=>∃(ps:List Addr) (y4 y5:Option V),Same G2 G/\G sd=some (.lst (ps.map V.ref))/\TpsM G ps Ss/\σ=[some (.ref r),some (.ref st),some (.ref ot),some (.ref sd),y4,y5])
 ·wp_walk using ah,eqV,ag;obtain⟨J,hJ⟩:∃J:Nat->L2.St->Hp->Prop,J=(λ i σ G=>∃(ps:List Addr) (y4 y5:Option V),Same G2 G/\G sd=some (.lst (ps.map V.ref))/\TpsM G ps (Ss.take i)/\σ=[some (.ref r),some (.ref st),some (.ref ot),some (.ref sd),y4,y5]):=⟨_,rfl⟩;refine LoopT.mk (xs:=qs.map V.ref) (.of (s3 _ _ hst)) J (by rw[hJ];exact⟨[],_,_,s3,hsd,⟨rfl,λ i p e=>nomatch e⟩,rfl⟩) (λ i σ G _ h=>by rw[hJ] at h;obtain⟨_,_,_,s,_⟩:=h;exact .of (s _ _ hst)) (λ i x σ G0 e h=>?_) (λ σ G h=>?_);rotate_left
  ·rw[hJ] at h;refine hid λ Gz gz=>?_;obtain⟨ps,y4,y5,s,h1,h2,rfl⟩:=h;refine gz ?_;clear gz Gz;rw[aA,sl.1,gd.1,cx] at h2;exact hR _ _ ⟨ps,_,_,s,h1,h2,rfl⟩
  clear hR;rw[hJ] at h;refine hid λ Gz gz=>?_;obtain⟨ps,y4,y5,s,h1,h2,rfl⟩:=h;refine gz ?_;clear gz Gz
  obtain⟨p,rfl,hp⟩:∃p,x=.ref p/\qs[i]?=some p:=by
   rw[bA] at e
   cases hx:qs[i]? with
   | none=>rw[hx] at e;cases e
   | some n=>rw[hx] at e;cases e;exact⟨n,rfl,rfl⟩
  obtain⟨d,ed,hd⟩:=sl.2 i p hp;have il:i < Ss.length:=by rw[← gd.1];exact(bv.mp ed).1
  have eS:=aX il;have i40:i < 40:=by rw[← gd.1] at il;lia
  have pl:ps.length=i:=by rw[h2.1,be];lia
  generalize Ss[i]=S at eS;have ok:=gd.2.2 i d S ed eS;have ft:=AU gd hmo;simp only[fE,List.set_cons_succ,List.set_cons_zero];ktn_end (λ σ G=>Same G0 G/\∃r' t,G r'=some (.tup [.ref t,.non])/\Tp G t S/\σ=[some (.ref r),some (.ref st),some (.ref ot),some (.ref sd),some (.ref p),some (.ref r')])
  ·cell_end ah ag AN;exact⟨d,hd.same s,S,Ss.take i,ps,h1,h2,λ T hT=>ft T (kj hT),by rw[be];lia,ok,ft S (bw eS),λ G r' t u e1 e2=>hR _ _ ⟨u,r',t,e1,e2,rfl⟩⟩
  rintro σ1' G1' hz9;refine hid λ Gz gz=>?_;obtain⟨u1,r',t,e1,e2,rfl⟩:=hz9;refine gz ?_;clear gz Gz;ktn_end (λ σ G=>G=G1'/\σ=[some (.ref r),some (.ref st),some (.ref ot),some (.ref sd),some (.ref p),some (.ref r')])
  ·ktr_call ah ag;exact⟨_,e1,_,aB (j:=1) rfl,hR _ _ ⟨rfl,rfl⟩⟩
  rintro σ2' G2' ⟨rfl,rfl⟩;ktr_call ah ag;refine⟨⟨_,u1 _ _ h1⟩,_,e1,_,aB (j:=0) rfl,_,u1 _ _ h1,by rw[aA,pl];exact bD (by lia),?_⟩;have up:=jz (ys:=ps.map V.ref++[V.ref t]) (u1 _ _ h1);rw[hJ];exact⟨ps++[t],_,_,iN (s.trans u1) sd0,by rw[ar,aY];rfl,(h2.up ((nh u1).trans up)).snocT eS (up.1 _ _ e2),rfl⟩
 rintro σ4 G4 hz9;refine hid λ Gz gz=>?_;obtain⟨ps,y4,y5,s4,h1,h2,rfl⟩:=hz9;refine gz ?_;clear gz Gz;ktn_end (λ σ G=>Same G4 G/\σ=[some (.ref r),some (.ref st),some (.ref ot),some (.ref sd),y4,y5])
 ·ktr_call ah ag;refine⟨_,.inr (.of (s4 _ _ hot)),?_⟩;rw[aP,if_pos (by lia),if_neg (by lia)];refine CompT.mk (xs:=os.map V.int) (.of (s4 _ _ hot)) (λ i ys σ G=>G=G4/\i≤os.length/\ys=(rep i).map V.bl/\∃y,σ=[y,some (.ref st)]) ⟨rfl,bc _,rfl,_,rfl⟩ (λ i ys σ G _ h=>by rw[h.1];exact .of (s4 _ _ hot)) (λ i x ys σ G e h=>?_) (λ ys σ G h p1 hp1=>?_)
  ·refine hid λ Gz gz=>?_;obtain⟨rfl,hi,rfl,y,rfl⟩:=h;obtain⟨o,rfl,eo⟩:=dE e;refine gz ?_;clear gz Gz;have il:=(bv.mp eo).1;have oo:=ob o (bw eo);refine⟨by rw[aA,AQ];exact bD (by lia),?_⟩;ktr_call ah ag;rw[if_neg (by lia)];refine⟨_,.inr (.of (s4 _ _ hst)),?_⟩;rw[aA,sl.1,fO (show ¬(ds.length:Int)≤o by lia)];exact⟨il,(AO i).symm,_,rfl⟩
  ·refine hid λ Gz gz=>?_;obtain⟨rfl,hi,rfl,y,rfl⟩:=h;refine gz ?_;clear gz Gz;rw[aP];refine⟨_,rfl,_,.of ar,?_⟩;rw[AR,if_neg cI];exact hR _ _ ⟨af hp1 _,rfl⟩
 rintro σ5 G5 ⟨s5,rfl⟩;ktr_call ah ag;exact⟨_,.inl ⟨.of (s5 _ _ h1),λ t1 ht1=>⟨smd,λ p hp=>q _ p t1 ps (s4.trans (s5.trans ((af ht1 _).trans (af hp _)))) ar (af hp _ _ _ ar) (h2.same (s5.trans ((af ht1 _).trans (af hp _))))⟩⟩⟩
theorem Mf(Y0:Cs Z0 38):ca (Cl Z0) 38:=kz1 Z0 Z0.g38 λ f fd F=>by
 have sc:=scq (aH Cy) ["program"] ["told","fault"];refine F.ok sc (λ vs H Q E h=>?_) (λ cdv A outer s H vs Q E hr h=>?_)
 ·exact el5 vs h λ _ _ _ _ _ _=>rfl
 refine el5 vs h λ r ds Ss os mo h=>an3 h λ pm gd q=>?_;refine⟨_,(aN 1 sc.nd (ax (cc Y0 37) hr au (aG (pv 0))) (aN 2 sc.nd (aq aD (pv 1) ae) (aI (aC wy (pv 2) lR) (bx du) (av (aq aD (pv 1) ae))))),?_⟩
 (try dsimp only[bf]);simp only[L2.start,aV,aW,List.replicate,bi,bj,Nat.reduceSub,Nat.reduceAdd,aZ,bh]
 ktn_end (λ σ G=>∃r' t ps,Same H G/\G r'=some (.tup [.ref t,.non])/\G t=some (.tup (ps.map V.ref))/\TpsM G ps Ss/\σ=[some (.ref r),some (.ref r'),none])
 ·cell_end ah ag AS;exact⟨ds,Ss,os,pm,mo,gd,λ G r' t ps u h1 h2 h3=>hR _ _ ⟨r',t,ps,u,h1,h2,h3,rfl⟩⟩
 rintro σ1 G1 hz9;refine hid λ Gz gz=>?_;obtain⟨r',t,ps,s1,h1,h2,h3,rfl⟩:=hz9;refine gz ?_;clear gz Gz;ktn_end (λ σ G=>G=G1/\σ=[some (.ref r),some (.ref r'),some .non])
 ·ktr_call ah ag;exact⟨_,h1,_,aB (j:=1) rfl,hR _ _ ⟨rfl,rfl⟩⟩
 rintro σ2 G2 ⟨rfl,rfl⟩;ktn_end (λ σ G=>G=G2/\σ=[some (.ref r),some (.ref r'),some .non])
 ·ktr_call ah ag;exact hR _ _ ⟨rfl,rfl⟩
 rintro σ3 G3 ⟨rfl,rfl⟩;ktr_call ah ag;exact⟨_,h1,_,aB (j:=0) rfl,q _ t ps s1 h2 h3⟩
theorem Mg(Y0:Cs Z0 39):ca (Cl Z0) 39:=kz2 Z0 Z0.g39 λ f fd F=>by
 have sc:=scq (aH Cz) ["sides","cells"] [];refine F.ok sc (λ vs H Q E h=>?_) (λ cdv A outer s H vs Q E hr h=>?_)
 ·exact el4 vs h λ _ _ _ _ _=>rfl
 refine el4 vs h λ a c0 ns cs h=>an8 h λ ha hc hs h63 h900 b e q3=>?_;refine⟨_,(bB (cB (ax (cc Y0 11) hr au (aG (pv 0)))) (aI (aC gb (bz Z0.zlen (pv 1)) (ax (cc Y0 9) hr au (aG (pv 0)))) (bx du) (av (aU (ao (pv 0) (cC fg Z0.ztuple cJ (aG (kO (own:=["cell"]) rfl (yM (pv 1)) (by decide) (by decide) rfl (by decide) (λ _ _ _ _=>(bR 0 ["cell"])) (λ _ _ _ _=>(ax (cc Y0 0) hr au (aG (pv 0)))))))))))),?_⟩
 (try dsimp only[bf]);simp only[L2.start,aV,aW,List.replicate,bi,bj,Nat.reduceSub,Nat.reduceAdd,aZ,bh]
 wp_walk using eX,da,eqV,ah,ag,kB,oW,lJ;refine⟨ns,ha,hs,h63,b,λ H1 s1=>?_⟩;refine⟨_,(hc.same s1).imp .of .of,ns,.inr (s1 _ _ ha),hs,?_⟩;rw[aP];rw[if_neg (λ z=>z e)];have hc1:=hc.same s1;have ha1:=s1 _ _ ha;have fin:∀(G:Hp) (p:Addr),Same H1 G->G p=some (.lst ((cs.map dy).map V.int))->∃p',V.ref p=V.ref p'/\∃x,(SqL K G p' x/\∀(l:Addr),G l=none->2≤sizeLine/\∀(p:Addr),upd G l (HO.tup x) p=none->Q (V.ref p) (upd (upd G l (HO.tup x)) p (HO.tup [V.ref a,V.ref l])))\/SqT K G p' x/\2≤sizeLine/\∀(p_1:Addr),G p_1=none->Q (V.ref p_1) (upd G p_1 (HO.tup [V.ref a,V.ref p'])):=λ G p sG hp=>⟨p,rfl,_,.inl ⟨.of hp,λ l hl=>⟨smd,λ p2 hp2=>q3 _ p2 (s1.trans (sG.trans ((af hl _).trans (af hp2 _)))) ⟨a,l,ar,af hp2 _ _ _ (af hl _ _ _ (sG _ _ ha1)),af hp2 _ _ _ ar⟩⟩⟩⟩
 rcases hc1 with hc1 | hc1
 ·refine .inl (CompL.ints (fn:=dy) (.of hc1) (by lia) (λ n _ G _ Q' hQ=>?_) (λ G sG p hp=>fin _ p (sG.trans (af hp _)) ar));cell_end ah ag lJ;exact hQ _ (Same.refl _)
 ·refine .inr (CompT.mk (xs:=cs.map V.int) (.of hc1) (λ i ys σ G=>G=H1/\ys=((cs.take i).map dy).map V.int/\∃y,σ=[y]) ⟨rfl,rfl,_,rfl⟩ (λ i ys σ G _ h=>by rw[h.1];exact .of hc1) (λ i x ys σ G ex h=>?_) (λ ys σ G h p hp=>?_))
  ·refine hid λ Gz gz=>?_;obtain⟨rfl,rfl,y,rfl⟩:=h;obtain⟨m,rfl,hm⟩:=dE ex;refine gz ?_;clear gz Gz
   have e1:((cs.take (i+1)).map dy).map V.int=((cs.take i).map dy).map V.int++[V.int (dy m)]:=by
    rw[cO,hm,aY,aY];rfl
   kpf_say ah ag lJ e1;refine⟨?_,?_⟩
   ·rw[aA,aA,be];exact bD (by lia)
   exact⟨_,rfl⟩
  ·obtain⟨rfl,rfl,y,rfl⟩:=h;rw[aP,cx];exact fin _ p (af hp _) ar
theorem Mh(Y0:Cs Z0 40):ca (Cl Z0) 40:=kz2 Z0 Z0.g40 λ f fd F=>by
 have sc:=scq (aH CB) ["sides","number_at"] [];refine F.ok sc (λ vs H Q E h=>?_) (λ cdv A outer s H vs Q E hr h=>?_)
 ·exact el4 vs h λ _ _ _ _ _=>rfl
 refine el4 vs h λ sa fa ns fn h=>an7 h λ ha hs h63 h512 hf hc q=>?_;refine⟨_,(av (aU (ao (pv 0) (cC fg Z0.ztuple cJ (aG (dZ (own:=["at"]) (fv:=["number_at"]) (js:=[1]) rfl (gE (ax (cc Y0 15) hr au (aG (pv 0)))) rfl (by decide) rfl (by decide) (by first | exact λ _ _ h=>h | exact dh rfl | exact dk rfl rfl | exact dn rfl rfl rfl) (dg (by rfl)) rfl (eh (by first | exact⟨rfl,.inl rfl,.inl rfl⟩ | exact⟨rfl,.inl rfl,.inr rfl⟩)) (λ _ _ _ _=>(bR 0 ["at","number_at"])) (λ _ _ _ _=>(GP (P:=P) (w:=w) (K:=K) (mg:=mg) (base:=base) (i:=1) rfl rfl rfl rfl rfl hr rfl (by first | exact Or.inl rfl | exact Or.inr (Or.inl rfl) | exact Or.inr (Or.inr rfl)) (aG (pv 0)))))))))),?_⟩;have pn:=mN λ n hn=>(hs n hn).1;cell_end ah ag BX;refine⟨ns,ha,hs,h63,h512,λ H1 l ps s1 hl tp=>?_⟩;have pl:=tp.1;rw[uA] at pl;refine CompL.mk (xs:=ps.map V.ref) (.of hl) (λ i ys σ G=>Same H1 G/\ys=(((List.range i).map fn).map V.int)/\∃y,σ=[y,some (.ref fa)]) ⟨Same.refl _,rfl,_,rfl⟩ (λ i ys σ G _ h=>.of (h.1 _ _ hl)) (λ i x ys σ G ex h=>?_) (λ ys σ G h p hp=>?_)
 ·obtain⟨sG,rfl,y,rfl⟩:=h;have il:i < ps.length:=by have:=(bv.mp ex).1;rwa [aA] at this
  obtain⟨p,ep,hp⟩:=tp.2 i _ (zR (by lia));rw[bA,ep] at ex;cases (cz ex);refine⟨by rw[aA,aA,fq];exact bD (by lia),?_⟩;ktr_call ah ag;have f1:=hf.same λ o e=>(s1.trans sG) _ _ e;refine⟨f1,f1,hc i G p _ (by lia) (s1.trans sG) (sG _ _ hp) λ H2 s2=>⟨sG.trans s2,?_,_,rfl⟩⟩;rw[oB,aY,aY];rfl
 ·obtain⟨sG,rfl,y,rfl⟩:=h;rw[aA,pl];refine⟨p,rfl,_,.inl ⟨.of ar,λ q0 hq0=>⟨smd,λ r hr0=>?_⟩⟩⟩;exact q _ r q0 (s1.trans (sG.trans ((af hp _).trans ((af hq0 _).trans (af hr0 _))))) (af hr0 _ _ _ ar) ar
theorem Mi(Y0:Cs Z0 41):ca (Cl Z0) 41:=kz1 Z0 Z0.g41 λ f fd F=>by
 have sc:=scq (aH CC) ["n"] [];refine F.ok sc (λ vs H Q E h=>?_) (λ cdv A outer s H vs Q E hr h=>?_)
 ·obtain⟨n,rfl,_⟩:=h;rfl
 obtain⟨n,rfl,q⟩:=h;refine⟨_,(av (ax (cc Y0 39) hr au (ao (aU bK) (aU (aG (pv 0)))))),?_⟩
 (try dsimp only[bf]);simp only[L2.start,aV,aW,List.replicate,bi,bj,Nat.reduceSub,Nat.reduceAdd,aZ,bh]
 cell_end ah ag CA;refine⟨bc _,λ p hp=>⟨smd,λ p1 hp1=>⟨[],af hp1 _ _ _ ar,[n],.inr ar,Ke,by decide,by simp,Kf,rfl,λ G p2 s t=>q G p2 ((af hp _).trans ((af hp1 _).trans s)) t⟩⟩⟩
theorem Mj(Y0:Cs Z0 42):ca (Cl Z0) 42:=kz2 Z0 Z0.g42 λ f fd F=>by
 have sc:=scq (aH CF) ["tab","at"] [];refine F.ok sc (λ vs H Q E h=>?_) (λ cdv A outer s H vs Q E hr h=>?_)
 ·obtain⟨ta,b,ns,cs,ms,rfl,_⟩:=h;rfl
 obtain⟨ta,b,ns,cs,ms,rfl,⟨sa,ca,ht,ha,hc⟩,hb,hs,h63,g,cl,q⟩:=h;refine⟨_,(av (aq aD (aq aD (pv 0) ae) (ax (cc Y0 13) hr au (ao (aq aD (pv 0) ae) (pv 1))))),?_⟩;have pi:=uD g;have gl:=g.1
 have ex:cs[(plH ns ms).toNat]?=some (cs.getD (plH ns ms).toNat 0):=by
  rw[cy,aX (by lia)];rfl
 cell_end ah ag BS;exact⟨_,ht,_,aB (j:=1) rfl,_,ht,_,aB (j:=0) rfl,sa,rfl,ns,ha,ms,hb,hs,h63,g,λ H1 s1=>⟨ca,rfl,_,s1 _ _ hc,_,mS pi.1 ex,q _ s1⟩⟩
theorem Ml(Y0:Cs Z0 43):ca (Cl Z0) 43:=vI Z0 Z0.t43 λ f fd c F hcd TF=>by
 have sc:=scq (aH rH) ["word","tab","side"] ["begin","sides","length","number_at"];refine F.okT hcd sc (λ vs H Q E h=>?_) (λ A outer s H vs Q E hr h=>?_)
 ·exact el5 vs h λ _ _ _ _ _ _=>rfl
 refine el5 vs h λ wd t ns cs side h=>ny h λ tb hm h20 p5 csl hin ht hw no q3=>?_;have own:OwnCl (envOfC "fold" (aH rH) s.heap.objs.size f (.ref c)).cells ["word","tab","side","length","begin"] [("word",s.heap.objs.size+1),("tab",s.heap.objs.size+2),("side",s.heap.objs.size+3),("length",s.heap.objs.size+5),("begin",s.heap.objs.size+4)]:=⟨rfl,(fc rfl (fc rfl (fc rfl (fc rfl (fc rfl fc0)))))⟩;refine⟨_,(aN 3 sc.nd (ax (cc Y0 6) hr au (aG (pv 0))) (aN 4 sc.nd (ax (cc Y0 30) hr au (ao (aq aD (pv 1) ae) (pv 2))) (aN 5 sc.nd (aq aD (aq aD (pv 1) ae) (pv 2)) (bB (tW (i:=6) (qual := "fold.<locals>.number_at") (fv:=["word","tab","side","length","begin"]) (cl:=[("word",s.heap.objs.size+1),("tab",s.heap.objs.size+2),("side",s.heap.objs.size+3),("length",s.heap.objs.size+5),("begin",s.heap.objs.size+4)]) sc.nd rfl (.inl rfl) rfl rfl TF rfl own rfl rfl rfl) (av (jq (fv:=["word","tab","side","length","begin"]) (js:=[0,1,2,5,3]) (Cr.a (cc Y0 40)) hr (by rfl) own rfl (fc rfl (fc rfl (fc rfl (fc rfl (fc rfl fc0))))) (fc rfl (fc rfl (fc rfl (fc rfl (fc rfl fc0))))) (by decide +kernel) (ao (pv 4) (pv 6)))))))),?_⟩;generalize (eO _ _ _ _ _ _ _ _ _ _ _ _ _ _ _ _).env.cells=ec;wp_walk using eX,da,eqV,ah,ag,rC,vB,iH;refine hid λ Gz gz=>?_;obtain⟨sa,ca,tt,ta,tc⟩:=id tb;refine gz ?_;clear gz Gz;refine⟨hw,λ H0 s0=>?_⟩;refine⟨_,s0 _ _ tt,_,aB (j:=0) rfl,_,rfl,ns,s0 _ _ ta,by lia,no,λ H1 p s1 hp=>?_⟩;obtain⟨k,rfl,hk⟩:=iD no;simp only[Int.toNat_natCast] at hp q3;have s01:=s0.trans s1;refine⟨_,s01 _ _ tt,_,aB (j:=0) rfl,_,rfl,_,s01 _ _ ta,_,fJ hk,ht.same s01,λ fa c' cl H2 o1 ffa hfa hc2 ht2 up2=>⟨[.str wd,.ref t,.int k,.int (ns.getD k 0),.int (bC wd)],by simp,λ cl' H3 o2 fr hcel eq3=>?_⟩⟩;cases OwnCl.uniq o1 o2;have ht0:=ht.same s01;have up3:∀a xs,H1 a=some (.tup xs)->H2 a=some (.tup xs):=λ a xs e=>up2 _ _ (jv ht0 e) e;have u3:=iJ fr eq3;have hs:=ia hm;have nn:∀n∈ns,0≤n:=λ n hn=>(hs n hn).1;have sdA:bq (ns.eraseIdx k):=λ n hn=>hs n (Aq hn);have pb:=dR λ n hn=>(sdA n hn).1;have pe:=AX (k:=k) nn;have li:(ns.eraseIdx k).length=ns.length - 1:=by rw[rd,if_pos hk]
 have nk:=hm _ (getD_mem hk);have lsc:LmScope ["at","word","tab","side","length","begin","number","k"] ["at"] ["word","tab","side","length","begin"] { kind:=ScopeKind.function,names:=[("at",NameKind.local),("number",NameKind.local),("k",NameKind.local),("begin",NameKind.free),("length",NameKind.free),("side",NameKind.free),("tab",NameKind.free),("word",NameKind.free),("range",NameKind.globalImplicit),("twice",NameKind.globalImplicit),("cell_at",NameKind.globalImplicit),("added_at",NameKind.globalImplicit)],isGenerator:=false,isCoroutine:=false }:=⟨rfl,rfl,rfl,by decide +kernel,rfl,fc (.inl rfl) fc0,fc rfl (fc rfl (fc rfl (fc rfl (fc rfl fc0)))),by decide +kernel,by decide +kernel⟩;refine⟨ns.eraseIdx k,u3 _ _ (up3 _ _ hp),sdA,by lia,by lia,FnV.dfn (u3 _ _ hfa),λ i=>lF wd (bC wd) ns cs k (atD (ns.eraseIdx k) (i:Int)) (ns.getD k 0).toNat,λ i H4 p1 Q' hi s4 hp1 hq=>?_,λ H4 p q s4 hq hp'=>?_⟩
 ·have hcel1:=hcel.same s4;have tbm:TbAt (minC H4 cl) t ns cs:=iK hcel1 (((iM (T:=TD) (tb.same s01) up3).same u3).same s4);have hpm:=cr hcel1 hp1;have gd:=iG sdA (by lia) hi;have al:=iF (ns.eraseIdx k) i;replace hq:∀H2,Same H4 H2->Q' (V.int (lF wd (bC wd) ns cs k (atD (ns.eraseIdx k) (i:Int)) (ns.getD k 0).toNat)) H2:=hq;generalize atD (ns.eraseIdx k) (i:Int)=At at *;refine tV (k:=5) (vs:=[V.ref p1]) (vcs:=[.str wd,.ref t,.int k,.int (ns.getD k 0),.int (bC wd)]) lsc o1.1 (λ doc pm ctv us hl=>by match us,hl with | [u],_=>rfl) rfl (s4 _ _ (u3 _ _ hfa)) (s4 _ _ (u3 _ _ hc2)) hcel1 (λ A outer s hr=>(aN 6 lsc.nd (pv 5) (bB (dN dU rfl (gF (by rfl) Z0.zrange (aG (pv 4))) (dD 7 lsc.nd) (bx (fI 6 lsc.nd (ax (cc Y0 5) hr au (aE (pv 1) (ao (pv 6) (ax (cc Y0 42) hr au (ao (pv 2) (ax (cc Y0 17) hr au (aE (pv 0) (ao (pv 3) (pv 7)))))))))))) (av (pv 6))))) ?_;wp_walk using ah,da,eqV,ag;ktn_end (λ σ G=>G=minC H4 cl/\σ=[some (.ref p1),some (.str wd),some (.ref t),some (.int k),some (.int (ns.getD k 0)),some (.int (bC wd)),some (.int (bC wd)),none])
  ·ktr_call ah ag;exact hR _ _ ⟨rfl,rfl⟩
  rintro σ1 G1 ⟨rfl,rfl⟩;ktn_end (λ σ G=>Same (minC H4 cl) G/\∃y7,σ=[some (.ref p1),some (.str wd),some (.ref t),some (.int k),some (.int (ns.getD k 0)),some (.int (bC wd)),some (.int (lF wd (bC wd) ns cs k At (ns.getD k 0).toNat)),y7])
  ·wp_walk using ah,da,eqV,ag;refine⟨by lia,by lia,?_⟩;refine LoopR.mk (λ j σ G=>Same (minC H4 cl) G/\∃y7,σ=[some (.ref p1),some (.str wd),some (.ref t),some (.int k),some (.int (ns.getD k 0)),some (.int (bC wd)),some (.int (lF wd (bC wd) ns cs k At j)),y7]) ⟨Same.refl _,_,rfl⟩ (λ j σ G hj h=>?_) (λ σ G h=>hR _ _ h);obtain⟨sG,y7,rfl⟩:=h;wp_walk using eX,da,eqV,ah,ag,jE,vo,nr;rw[mK];have gj:=JW hk gd (y:=(j:Int)) (by lia) (by lia);have pi:=uD gj;refine⟨At,k,rfl,sG _ _ hpm,by lia,λ G2 r s2 hr2=>⟨ns,cs,(tbm.same sG).same s2,_,hr2,hs,by lia,gj,csl,λ G3 s3=>⟨uW hw (oR _) hin _,hin _ (getD_mem (by lia)),vd hw,sG.trans (s2.trans s3),rfl,_,rfl⟩⟩⟩
  rintro σ2 G2 ⟨s2,y7,rfl⟩;ktr_call ah ag;exact hq _ (iI s2)
 ·have hb:=ju fr eq3 s4;have hc4:=hcel.same s4;exact q3 _ p (λ b o n e=>hb _ _ (up2 _ _ n (s01 _ _ e))) (ht2.same hb) ⟨_,_,cr hc4 hp',hb _ _ (up3 _ _ hp),cr hc4 hq⟩
theorem Mm(Y0:Cs Z0 44):ca (Cl Z0) 44:=kz3 Z0 Z0.g44 λ f fd F=>by
 have sc:=scq (aH CG) ["word","tab","side"] ["begin","sides","stride","cells","place","cell","is_first","before"];refine F.ok sc (λ vs H Q E h=>?_) (λ cdv A outer s H vs Q E hr h=>?_)
 ·obtain⟨wd,t,ns,cs,side,rfl,_⟩:=h;rfl
 obtain⟨wd,t,ns,cs,side,rfl,⟨sa,ca,tt,ta,tc⟩,hm,h20,p5,csl,hin,hw,no,q3⟩:=h;refine⟨_,(aN 3 sc.nd (ax (cc Y0 6) hr au (aG (pv 0))) (aN 4 sc.nd (aq aD (pv 1) ae) (bB (cB (ax (cc Y0 19) hr au (ao (pv 4) (pv 2)))) (aN 5 sc.nd (aq aD (ax (cc Y0 12) hr au (aG (pv 4))) (pv 2)) (aN 6 sc.nd (dP bK) (bB (dN dU rfl (FN (by rfl) Z0.zenumerate (aq aD (pv 1) ae)) (kR (n:=2) (jK rfl (dX (dD 7 sc.nd) (dX (dD 8 sc.nd) jJ)))) (aN 9 sc.nd (kI aR (ay dB (ay kP (pv 7) (pv 5)) (aq aD (pv 4) (pv 2))) ae (jO _)) (aN 10 sc.nd (iW (eW (pv 9)) (pv 3) (aq bp (pv 6) (ay eN (pv 7) (pv 5)))) (bx (cB (gK (pv 6) (ax (cc Y0 5) hr au (aE (pv 0) (ao (pv 10) (pv 8)))))))))) (av (aU (ao (pv 4) (cC fg Z0.ztuple cJ (aG (pv 6)))))))))))),?_⟩
 (try dsimp only[bf]);simp only[L2.start,aV,aW,List.replicate,bi,bj,Nat.reduceSub,Nat.reduceAdd,aZ,bh]
 have hs:=ia hm;have nn:∀n∈ns,0≤n:=λ n hn=>(hs n hn).1;have po:=dR nn;ktn_end (λ σ G=>Same H G/\σ=[some (.str wd),some (.ref t),some (.int side),some (.int (bC wd)),none,none,none,none,none,none,none])
 ·cell_end ah ag rC;exact⟨hw,λ G s0=>hR _ _ ⟨s0,rfl⟩⟩
 rintro σ1 G1 ⟨s1,rfl⟩;replace tt:=s1 _ _ tt;replace ta:=s1 _ _ ta;replace tc:=s1 _ _ tc;ktn_end (λ σ G=>G=G1/\σ=[some (.str wd),some (.ref t),some (.int side),some (.int (bC wd)),some (.ref sa),none,none,none,none,none,none])
 ·ktr_call ah ag;exact⟨_,tt,_,aB (j:=0) rfl,hR _ _ ⟨rfl,rfl⟩⟩
 rintro σ2 G2 ⟨rfl,rfl⟩;ktn_end (λ σ G=>G=G2/\σ=[some (.str wd),some (.ref t),some (.int side),some (.int (bC wd)),some (.ref sa),none,none,none,none,none,none])
 ·cell_end ah ag lK;exact⟨ns,ta,no,hR _ _ ⟨rfl,rfl⟩⟩
 rintro σ3 G3 ⟨rfl,rfl⟩;obtain⟨k,rfl,hk⟩:=iD no;simp only[Int.toNat_natCast] at q3;ktn_end (λ σ G=>Same G3 G/\σ=[some (.str wd),some (.ref t),some (.int k),some (.int (bC wd)),some (.ref sa),some (.int (ai (ns.drop (k+1)))),none,none,none,none,none])
 ·cell_end ah ag vn;exact⟨ns,ta,hs,by lia,λ G p s hp=>⟨_,hp,_,aB (j:=k) (v:=.int (ai (ns.drop (k+1)))) (by rw[bA,AY hk];rfl),hR _ _ ⟨s,rfl⟩⟩⟩
 rintro σ4 G4 ⟨s4,rfl⟩;replace tt:=s4 _ _ tt;replace ta:=s4 _ _ ta;replace tc:=s4 _ _ tc;replace s1:=s1.trans s4;clear s4;ktn_end (λ σ G=>∃l,G=upd G4 l (.lst [])/\G4 l=none/\σ=[some (.str wd),some (.ref t),some (.int k),some (.int (bC wd)),some (.ref sa),some (.int (ai (ns.drop (k+1)))),some (.ref l),none,none,none,none])
 ·ktr_call ah ag;exact⟨smd,λ l hl=>hR _ _ ⟨l,rfl,hl,rfl⟩⟩
 rintro σ5 G5 ⟨l,rfl,l0,rfl⟩;ktn_end (λ σ G=>∃y7 y8 y9 y10,Same G4 G/\G l=some (.lst ((kx wd ns cs k).map V.int))/\σ=[some (.str wd),some (.ref t),some (.int k),some (.int (bC wd)),some (.ref sa),some (.int (ai (ns.drop (k+1)))),some (.ref l),y7,y8,y9,y10])
 ·wp_walk using ah,eqV,ag;have sl:=af l0 (.lst []);refine⟨_,sl _ _ tt,_,aB (j:=1) rfl,?_⟩;refine LoopE.mk (xs:=cs.map V.int) (.of (sl _ _ tc)) (λ j σ G=>∃y7 y8 y9 y10,Same G4 G/\G l=some (.lst ((fD wd (bC wd) (ai (ns.drop (k+1))) (ns.getD k 0) cs j).map V.int))/\σ=[some (.str wd),some (.ref t),some (.int k),some (.int (bC wd)),some (.ref sa),some (.int (ai (ns.drop (k+1)))),some (.ref l),y7,y8,y9,y10]) ⟨_,_,_,_,sl,ar,rfl⟩ (λ j σ G _ ⟨_,_,_,_,sG,_⟩=>.of (sG _ _ tc)) (λ j x σ G T ex h T0=>?_) (λ σ G h=>?_)
  ·refine hid λ Gz gz=>?_;obtain⟨y7,y8,y9,y10,sG,gl,rfl⟩:=h;obtain⟨c,rfl,hc⟩:=dE ex;refine gz ?_;clear gz Gz;have jl:j < cs.length:=(bv.mp hc).1;have np:=uB hs (p:=(j:Int)) (by lia) (by lia);have sp:=qP (ns:=ns.drop (k+1)) λ n hn=>np n (oI hn);have nk:=np _ (getD_mem hk);have sT:=af T0 (.tup [V.int j,V.int c]);have ec:cs.getD j 0=c:=by rw[cy,hc];rfl
   have e1:((j:Int)).fdiv (ai (ns.drop (k+1)))=(j:Int) / ai (ns.drop (k+1)):=kG _ (by lia);have e2:((j:Int) / ai (ns.drop (k+1))).fmod (ns.getD k 0)=(j:Int) / ai (ns.drop (k+1)) % ns.getD k 0:=pJ _ (by lia)
   have nx:∀v:Int,v=bH wd (if (j:Int) / ai (ns.drop (k+1)) % ns.getD k 0=0 then bC wd else (fD wd (bC wd) (ai (ns.drop (k+1))) (ns.getD k 0) cs j).getD ((j:Int) - ai (ns.drop (k+1))).toNat 0) c->(fD wd (bC wd) (ai (ns.drop (k+1))) (ns.getD k 0) cs j).map V.int++[V.int v]=(fD wd (bC wd) (ai (ns.drop (k+1))) (ns.getD k 0) cs (j+1)).map V.int:=λ v ev=>by
    show _=(fD wd (bC wd) (ai (ns.drop (k+1))) (ns.getD k 0) cs j++[bH wd (if (j:Int) / ai (ns.drop (k+1)) % ns.getD k 0=0 then bC wd else (fD wd (bC wd) (ai (ns.drop (k+1))) (ns.getD k 0) cs j).getD ((j:Int) - ai (ns.drop (k+1))).toNat 0) (cs.getD j 0)]).map V.int;rw[ec,← ev,aY];rfl
   have rl:=uU wd (bC wd) (ai (ns.drop (k+1))) (ns.getD k 0) cs j;have rin:=uV (st:=ai (ns.drop (k+1))) (n:=ns.getD k 0) hw (oR wd) hin (j:=j) (by lia);have lim:((fD wd (bC wd) (ai (ns.drop (k+1))) (ns.getD k 0) cs j).map V.int).length < sizeLine:=by rw[aA,rl];exact bD (by lia)
   have inc:inB c:=hin _ (bw hc)
   have s1a:ai (ns.drop (k+1))≤512:=by
    have a1:=dR (ns:=ns.drop (k+1)) λ n hn=>nn n (oI hn);have a2:=zX (ns:=ns) nn ns.length;have a3:ai ns=ai (ns.take (k+1)) * ai (ns.drop (k+1)):=by rw[← uw,ly]
    have a4:=qP (ns:=ns.take (k+1)) λ n hn=>np n (kj hn);have a5:1 * ai (ns.drop (k+1))≤ai (ns.take (k+1)) * ai (ns.drop (k+1)):=jt (by lia) (by lia);lia
   have gT:=sT _ _ gl
   have fin:∀v:Int,v=bH wd (if (j:Int) / ai (ns.drop (k+1)) % ns.getD k 0=0 then bC wd else (fD wd (bC wd) (ai (ns.drop (k+1))) (ns.getD k 0) cs j).getD ((j:Int) - ai (ns.drop (k+1))).toNat 0) c->Same G4 (upd (upd G T (.tup [V.int j,V.int c])) l (.lst ((fD wd (bC wd) (ai (ns.drop (k+1))) (ns.getD k 0) cs j).map V.int++[V.int v]))):=λ v _ b o e=>by
    rw[bo (λ z=>by rw[z,l0] at e;cases e)];exact sT _ _ (sG _ _ e)
   have taT:=sT _ _ (sG _ _ ta);generalize ai (ns.drop (k+1))=st at *;generalize fD wd (bC wd) st (ns.getD k 0) cs j=rj at *;cell_end ah ag nr;refine⟨by lia,by lia,by lia,_,taT,_,fJ hk,_,rfl,by lia,?_⟩;rw[e1,e2];by_cases c0:(j:Int) / st % ns.getD k 0=0
   ·rw[if_pos c0];have ev:bH wd (bC wd) c=bH wd (if (j:Int) / st % ns.getD k 0=0 then bC wd else rj.getD ((j:Int) - st).toNat 0) c:=by rw[if_pos c0]
    exact⟨⟨_,gT⟩,oR _,inc,vd hw,_,gT,lim,fin _ ev,nx _ ev,_,rfl⟩
   ·rw[if_neg c0]
    have j1:st≤(j:Int):=by
     by_cases z:st≤(j:Int)
     ·exact z
     ·rw[Int.ediv_eq_zero_of_lt (by lia) (by lia),Int.zero_emod] at c0;exact absurd rfl c0
    have ev:bH wd (rj.getD ((j:Int) - st).toNat 0) c=bH wd (if (j:Int) / st % ns.getD k 0=0 then bC wd else rj.getD ((j:Int) - st).toNat 0) c:=by rw[if_neg c0]
    have xl:((j:Int) - st).toNat < rj.length:=by lia
    exact⟨_,gT,_,mS (by lia) (gx xl),⟨_,gT⟩,_,rfl,rin _ (getD_mem xl),inc,vd hw,_,gT,lim,fin _ ev,nx _ ev,_,rfl⟩
  ·rw[aA] at h;exact hR _ _ h
 rintro σ6 G6 hz9;refine hid λ Gz gz=>?_;obtain⟨y7,y8,y9,y10,s6,g6,rfl⟩:=hz9;refine gz ?_;clear gz Gz;ktr_call ah ag;exact⟨_,.inl ⟨.of g6,λ l1 hl1=>⟨smd,λ p hp=>q3 _ p (s1.trans (s6.trans ((af hl1 _).trans (af hp _)))) ⟨sa,l1,ar,af hp _ _ _ (af hl1 _ _ _ (s6 _ _ ta)),af hp _ _ _ ar⟩⟩⟩⟩
theorem Mn(Y0:Cs Z0 45):ca (Cl Z0) 45:=pd Z0 Z0.t45 λ f fd c F hcd TF=>by
 have sc:=scq (aH rJ) ["tab","sides"] ["many"];refine F.okT hcd sc (λ vs H Q E h=>?_) (λ A outer s H vs Q E hr h=>?_)
 ·exact el5 vs h λ _ _ _ _ _ _=>rfl
 refine el5 vs h λ t b ns cs ms h=>Ds h λ tb hb hs hm h20 m20 csl p5 ht no q5=>?_;have own:OwnCl (envOfC "lead" (aH rJ) s.heap.objs.size f (.ref c)).cells ["tab","many"] [("tab",s.heap.objs.size+1),("many",s.heap.objs.size+2)]:=⟨rfl,(fc rfl (fc rfl fc0))⟩;refine⟨_,(aN 2 sc.nd (bz Z0.zlen (aq aD (pv 0) ae)) (av (jq (fv:=["tab","many"]) (js:=[0,2]) (Cr.a (cc Y0 40)) hr (by rfl) own rfl (fc rfl (fc rfl fc0)) (fc rfl (fc rfl fc0)) (by decide +kernel) (ao (ax (cc Y0 26) hr au (ao (aq aD (pv 0) ae) (pv 1))) (mF (qual := "lead.<locals>.<lambda>") (fv:=["tab","many"]) (cl:=[("tab",s.heap.objs.size+1),("many",s.heap.objs.size+2)]) rfl rfl TF rfl rfl own))))),?_⟩;generalize (eO _ _ _ _ _ _ _ _ _ _ _ _ _ _ _ _).env.cells=ec;kpf_say ah ag vy iH;refine hid λ Gz gz=>?_;obtain⟨sa,ca,tt,ta,tc⟩:=id tb;refine gz ?_;clear gz Gz;refine⟨_,tt,_,aB (j:=0) rfl,_,rfl,_,.inr (.of ta),_,tt,_,aB (j:=0) rfl,_,rfl,ns,ta,ms,hb,no,λ H0 s0=>⟨ht.same s0,λ fa c' cl H2 o1 ffa hfa hc2 ht2 up2=>⟨[.ref t,.int ns.length],by rw[aP];rfl,λ cl' H3 o2 fr hcel eq3=>?_⟩⟩⟩;cases OwnCl.uniq o1 o2;have ht0:=ht.same s0;have up3:∀a xs,H0 a=some (.tup xs)->H2 a=some (.tup xs):=λ a xs e=>up2 _ _ (jv ht0 e) e;have u3:=iJ fr eq3;refine⟨_,u3 _ _ (up3 _ _ (s0 _ _ hb)),hm,by lia,p5,FnV.lam (u3 _ _ hfa),gO ns cs ms,λ i H1 p1 Q' hi s1 hp1 hq=>?_,λ H4 p q s4 hq hp'=>?_⟩
 ·have hcel1:=hcel.same s1;have tbm:TbAt (minC H1 cl) t ns cs:=iK hcel1 (((iM (T:=TL) (tb.same s0) up3).same u3).same s1);have hpm:=cr hcel1 hp1;have gd:=IF ns.length (iG hm (qV i) hi);rw[no] at gd;have al:=iF ms i;refine mE (k:=5) (N:=["at","tab","many"]) (ps:=["at"]) (fv:=["tab","many"]) (vs:=[V.ref p1]) (vcs:=[.ref t,.int ns.length]) ⟨rfl,rfl,rfl,by decide +kernel,rfl,fc (.inl rfl) fc0,fc rfl (fc rfl fc0),by decide +kernel,by decide +kernel⟩ o1.1 (λ pm ctv us hl=>by match us,hl with | [u],_=>rfl) rfl (s1 _ _ (u3 _ _ hfa)) (s1 _ _ (u3 _ _ hc2)) hcel1 (λ A outer s hr=>jc (Cr.a (cc Y0 42)) hr (by rfl) au (aE (pv 1) (aE (cn cN (pv 0) cu (bY (pv 2))) bK))) ?_;cell_end ah ag jE;refine⟨_,hpm,λ r G s2 h2=>?_⟩;rw[fV] at h2;exact⟨ns,cs,tbm.same s2,_,h2,hs,by lia,gd,csl,λ G2 s3=>hq _ (iI (s2.trans s3))⟩
 ·have hb':=ju fr eq3 s4;have hc4:=hcel.same s4;exact q5 _ p (λ b o n e=>hb' _ _ (up2 _ _ n (s0 _ _ e))) (ht2.same hb') ⟨_,_,cr hc4 hp',hb' _ _ (up3 _ _ (s0 _ _ hb)),cr hc4 hq⟩
theorem Mo(Y0:Cs Z0 46):ca (Cl Z0) 46:=kz2 Z0 Z0.g46 λ f fd F=>by
 have sc:=scq (aH CH) ["word","tab"] [];refine F.ok sc (λ vs H Q E h=>?_) (λ cdv A outer s H vs Q E hr h=>?_)
 ·obtain⟨wd,t,ns,cs,rfl,_⟩:=h;rfl
 obtain⟨wd,t,ns,cs,rfl,⟨sa,ca,tt,ta,tc⟩,h9,h1,q2⟩:=h;refine⟨_,(bB (cB (ax (cc Y0 4) hr au (ao (pv 0) ae))) (av (aU (ao (aq aD (pv 1) ae) (cC fg Z0.ztuple cJ (aG (dZ (own:=["x"]) (fv:=["word"]) (js:=[0]) rfl (dM (aq aD (pv 1) ae)) rfl (by decide) rfl (by decide) (by first | exact λ _ _ h=>h | exact dh rfl | exact dk rfl rfl | exact dn rfl rfl rfl) (dg (by rfl)) rfl (eh (by first | exact⟨rfl,.inl rfl,.inl rfl⟩ | exact⟨rfl,.inl rfl,.inr rfl⟩)) (λ _ _ _ _=>(bR 0 ["x","word"])) (λ _ _ _ _=>(ax (cc Y0 4) hr au (ao (pv 1) (pv 0))))))))))),?_⟩
 (try dsimp only[bf]);simp only[L2.start,aV,aW,List.replicate,bi,bj,Nat.reduceSub,Nat.reduceAdd,aZ,bh]
 cell_end ah ag rB;refine⟨h1,_,tt,_,aB (j:=0) rfl,_,tt,_,aB (j:=1) rfl,?_⟩;refine CompT.mk (xs:=cs.map V.int) (.of tc) (λ i ys σ G=>G=H/\ys=((cs.take i).map (fW wd)).map V.int/\∃y,σ=[y,some (.str wd)]) ⟨rfl,rfl,_,rfl⟩ (λ i ys σ G _ h=>by rw[h.1];exact .of tc) (λ i x ys σ G ex h=>?_) (λ ys σ G h p hp=>?_)
 ·refine hid λ Gz gz=>?_;obtain⟨rfl,rfl,y,rfl⟩:=h;obtain⟨m,rfl,hm⟩:=dE ex;refine gz ?_;clear gz Gz
  have e1:((cs.take (i+1)).map (fW wd)).map V.int=((cs.take i).map (fW wd)).map V.int++[V.int (fW wd m)]:=by
   rw[cO,hm,aY,aY];rfl
  kpf_say ah ag rB e1;exact⟨by rw[aA,aA,be];exact bD (by lia),h1,_,rfl⟩
 ·obtain⟨rfl,rfl,y,rfl⟩:=h;rw[aP,cx];exact⟨p,rfl,_,.inl ⟨.of ar,λ l hl=>⟨smd,λ p2 hp2=>q2 _ p2 ((af hp _).trans ((af hl _).trans (af hp2 _))) ⟨sa,l,ar,af hp2 _ _ _ (af hl _ _ _ (af hp _ _ _ ta)),af hp2 _ _ _ ar⟩⟩⟩⟩
theorem Mp(Y0:Cs Z0 47):ca (Cl Z0) 47:=kz3 Z0 Z0.g47 λ f fd F=>by
 have sc:=scq (aH CI) ["word","tab","other"] ["sides","xs","ys"];refine F.ok sc (λ vs H Q E h=>?_) (λ cdv A outer s H vs Q E hr h=>?_)
 ·exact el7 vs h λ _ _ _ _ _ _ _ _=>rfl
 refine el7 vs h λ wd t u ns cs ms ds h=>Li h λ tb ub hs hm h20 m20 csl dsl p5 r5 ib jb ht hw po q3=>?_;refine⟨_,(bB (cB (ax (cc Y0 5) hr au (aE (pv 0) (ao ae ae)))) (aN 3 sc.nd (ax (cc Y0 27) hr au (ao (aq aD (pv 1) ae) (aq aD (pv 2) ae))) (aN 4 sc.nd (aq aD (ax (cc Y0 45) hr au (ao (pv 1) (pv 3))) ae) (aN 5 sc.nd (aq aD (ax (cc Y0 45) hr au (ao (pv 2) (pv 3))) ae) (av (aU (ao (pv 3) (cC fg Z0.ztuple cJ (aG (dZ (own:=["x","y"]) (fv:=["word"]) (js:=[0]) rfl (qw (by rfl) Z0.zzip (ao (pv 4) (pv 5))) rfl (by decide) rfl (by decide) (by first | exact λ _ _ h=>h | exact dh rfl | exact dk rfl rfl | exact dn rfl rfl rfl) (dg (by rfl)) rfl (eh (by first | exact⟨rfl,.inl rfl,.inl rfl⟩ | exact⟨rfl,.inl rfl,.inr rfl⟩)) (λ _ _ _ _=>(kR (n:=2) (jK rfl (dX (bR 0 ["x","y","word"]) (dX (bR 1 ["x","y","word"]) jJ))))) (λ _ _ _ _=>(ax (cc Y0 5) hr au (aE (pv 2) (ao (pv 0) (pv 1))))))))))))))),?_⟩
 (try dsimp only[bf]);simp only[L2.start,aV,aW,List.replicate,bi,bj,Nat.reduceSub,Nat.reduceAdd,aZ,bh]
 ktn_end (λ σ G=>G=H/\σ=[some (.str wd),some (.ref t),some (.ref u),none,none,none])
 ·cell_end ah ag nr;exact⟨⟨by decide,by decide⟩,⟨by decide,by decide⟩,hw,hR _ _ ⟨rfl,rfl⟩⟩
 rintro σ1 G1 ⟨rfl,rfl⟩;ktn_end (λ σ G=>Same G1 G/\∃p,G p=some (.tup ((aQ ns ms).map V.int))/\σ=[some (.str wd),some (.ref t),some (.ref u),some (.ref p),none,none])
 ·refine hid λ Gz gz=>?_;obtain⟨sa,ca,tt,ta,tc⟩:=id tb;obtain⟨sb,cb,ut,ua,uc⟩:=id ub;refine gz ?_;clear gz Gz;cell_end ah ag rG;exact⟨_,tt,_,aB (j:=0) rfl,_,ut,_,aB (j:=0) rfl,_,rfl,_,rfl,ns,ta,ms,ua,po,λ G p s hp=>hR _ _ ⟨s,p,hp,rfl⟩⟩
 rintro σ2 G2 ⟨s2,p,hp,rfl⟩;have ⟨l1,l2⟩:=uF po;have sP:bq (aQ ns ms):=jx (P:=bq) hs hm;have lP:(aQ ns ms).length≤20:=jx (P:=λ z=>z.length≤20) h20 m20;have pP:ai (aQ ns ms)≤512:=jx (P:=λ z=>ai z≤512) p5 r5;generalize hPP:aQ ns ms=P at *;ktn_end (λ σ G=>(SmT G2 G/\cV TL G2 G)/\TabOk G TL ⟨319,46,319,80⟩ "lead.<locals>.<lambda>" /\ ∃x,G x=some (.tup ((bP ns cs P).map V.int))/\σ=[some (.str wd),some (.ref t),some (.ref u),some (.ref p),some (.ref x),none])
 ·cell_end ah ag nq;exact⟨ns,cs,tb.same s2,P,hp,hs,sP,h20,lP,csl,pP,ht.same s2,l1,λ G x sp tk ⟨_,qx,e1,_,e3⟩=>⟨_,e1,_,aB (j:=1) rfl,hR _ _ ⟨⟨SmT.ofP (ht.same s2) sp,sp⟩,tk,qx,e3,rfl⟩⟩⟩
 rintro σ3 G3 hz9;refine hid λ Gz gz=>?_;obtain⟨⟨s3,r3⟩,t3,x,hx,rfl⟩:=hz9;refine gz ?_;clear gz Gz;ktn_end (λ σ G=>(SmT G3 G/\cV TL G3 G)/\TabOk G TL ⟨319,46,319,80⟩ "lead.<locals>.<lambda>" /\ ∃y,G y=some (.tup ((bP ms ds P).map V.int))/\σ=[some (.str wd),some (.ref t),some (.ref u),some (.ref p),some (.ref x),some (.ref y)])
 ·cell_end ah ag nq;exact⟨ms,ds,s3.tb (ub.same s2),P,s3.tup hp,hm,sP,m20,lP,dsl,pP,t3,l2,λ G x sp tk ⟨_,qx,e1,_,e3⟩=>⟨_,e1,_,aB (j:=1) rfl,hR _ _ ⟨⟨SmT.ofP t3 sp,sp⟩,tk,qx,e3,rfl⟩⟩⟩
 rintro σ4 G4 hz9;refine hid λ Gz gz=>?_;obtain⟨⟨s4,r4⟩,t4,y,hy,rfl⟩:=hz9;refine gz ?_;clear gz Gz;have hx4:=s4.tup hx;have hp4:=s4.tup (s3.tup hp);have n0:(List.zipWith (bH wd) (bP ns cs P) (bP ms ds P)).length=(ai P).toNat:=by rw[vf,jw,jw,jj]
 ktr_call ah ag;refine CompZ.mk (xs:=(bP ns cs P).map V.int) (ys:=(bP ms ds P).map V.int) (ai P).toNat (by rw[aP,aP,jw,jw,jj]) (.of hx4) (.of hy) (λ i zs σ G=>Same G4 G/\zs=((List.zipWith (bH wd) (bP ns cs P) (bP ms ds P)).take i).map V.int/\∃y z,σ=[y,z,some (.str wd)]) ⟨Same.refl _,rfl,_,_,rfl⟩ (λ i zs σ G _ h=>⟨.of (h.1 _ _ hx4),.of (h.1 _ _ hy)⟩) (λ i a b zs σ G T hi ea eb h hT=>?_) (λ zs σ G h l hl=>?_) (λ i zs σ G h=>?_)
 ·refine hid λ Gz gz=>?_;obtain⟨sg,rfl,y1,y2,rfl⟩:=h;obtain⟨m,rfl,hm'⟩:=dE ea;obtain⟨n,rfl,hn'⟩:=dE eb;refine gz ?_;clear gz Gz
  have e1:((List.zipWith (bH wd) (bP ns cs P) (bP ms ds P)).take (i+1)).map V.int=((List.zipWith (bH wd) (bP ns cs P) (bP ms ds P)).take i).map V.int++[V.int (bH wd m n)]:=by
   rw[cO,vg,hm',hn',aY];rfl
  have ln:(((List.zipWith (bH wd) (bP ns cs P) (bP ms ds P)).take i).map V.int).length < sizeLine:=by rw[aA,be];exact bD (by lia)
  kpf_say ah ag nr e1;exact⟨ln,qR ib m (bw hm'),qR jb n (bw hn'),hw,sg.trans (af hT _),_,rfl⟩
 ·refine hid λ Gz gz=>?_;obtain⟨sg,rfl,y1,y2,rfl⟩:=h;refine gz ?_;clear gz Gz;rw[fk (s1e n0)];refine⟨l,rfl,_,.inl ⟨.of ar,λ l2 hl2=>⟨smd,λ p2 hp2=>?_⟩⟩⟩;have k1:=(af hl (.lst ((List.zipWith (bH wd) (bP ns cs P) (bP ms ds P)).map V.int))).trans ((af hl2 (.tup ((List.zipWith (bH wd) (bP ns cs P) (bP ms ds P)).map V.int))).trans (af hp2 (.tup [V.ref p,V.ref l2])));exact q3 _ p2 (lH (rh s2) (lH r3 (lH r4 (rh (sg.trans k1))))) (t4.same (sg.trans k1)) ⟨p,l2,ar,k1 _ _ (sg _ _ hp4),af hp2 _ _ _ ar⟩
 ·refine hid λ Gz gz=>?_;obtain⟨sg,rfl,y1,y2,rfl⟩:=h;refine gz ?_;clear gz Gz;rw[aA,be];exact bD (by lia)
theorem Mq(Y0:Cs Z0 48):ca (Cl Z0) 48:=kz3 Z0 Z0.g48 λ f fd F=>by
 have sc:=scq (aH CJ) ["marks","tab","other"] ["sides","asked","xs","ys"];refine F.ok sc (λ vs H Q E h=>?_) (λ cdv A outer s H vs Q E hr h=>?_)
 ·exact el9 vs h λ _ _ _ _ _ _ _ _ _ _=>rfl
 refine el9 vs h λ m t u ks es ns cs ms ds h=>Lj h λ mb tb ub hk hs hm k20 h20 m20 esl csl dsl o5 p5 r5 ht po po2 q3=>?_;refine⟨_,(aN 3 sc.nd (ax (cc Y0 28) hr au (aE (aq aD (pv 0) ae) (ao (aq aD (pv 1) ae) (aq aD (pv 2) ae)))) (aN 4 sc.nd (aq aD (ax (cc Y0 45) hr au (ao (pv 0) (pv 3))) ae) (aN 5 sc.nd (aq aD (ax (cc Y0 45) hr au (ao (pv 1) (pv 3))) ae) (aN 6 sc.nd (aq aD (ax (cc Y0 45) hr au (ao (pv 2) (pv 3))) ae) (av (aU (ao (pv 3) (cC fg Z0.ztuple cJ (aG (kO (own:=["mark","x","y"]) rfl (Hg (by rfl) Z0.zzip (aE (pv 4) (ao (pv 5) (pv 6)))) (by decide) (by decide) rfl (by decide) (λ _ _ _ _=>(kR (n:=3) (jK rfl (dX (bR 0 ["mark","x","y"]) (dX (bR 1 ["mark","x","y"]) (dX (bR 2 ["mark","x","y"]) jJ)))))) (λ _ _ _ _=>(iW (aC gb (pv 0) ae) (pv 1) (pv 2))))))))))))),?_⟩
 (try dsimp only[bf]);simp only[L2.start,aV,aW,List.replicate,bi,bj,Nat.reduceSub,Nat.reduceAdd,aZ,bh]
 ktn_end (λ σ G=>Same H G/\∃p,G p=some (.tup ((aQ (aQ ks ns) ms).map V.int))/\σ=[some (.ref m),some (.ref t),some (.ref u),some (.ref p),none,none,none])
 ·refine hid λ Gz gz=>?_;obtain⟨sm,cm,mt,ma,mc⟩:=id mb;obtain⟨sa,ca,tt,ta,tc⟩:=id tb;obtain⟨sb,cb,ut,ua,uc⟩:=id ub;refine gz ?_;clear gz Gz;cell_end ah ag vz;exact⟨_,mt,_,aB (j:=0) rfl,_,tt,_,aB (j:=0) rfl,_,ut,_,aB (j:=0) rfl,_,rfl,_,rfl,_,rfl,ks,ma,ns,ta,ms,ua,po,po2,λ G p s hp=>hR _ _ ⟨s,p,hp,rfl⟩⟩
 rintro σ2 G2 ⟨s2,p,hp,rfl⟩;have ⟨l0,l1,l2⟩:=IH po po2;have sP:bq (aQ (aQ ks ns) ms):=jx (P:=bq) (jx (P:=bq) hk hs) hm;have lP:(aQ (aQ ks ns) ms).length≤20:=jx (P:=λ z=>z.length≤20) (jx (P:=λ z=>z.length≤20) k20 h20) m20;have pP:ai (aQ (aQ ks ns) ms)≤512:=jx (P:=λ z=>ai z≤512) (jx (P:=λ z=>ai z≤512) o5 p5) r5;generalize aQ (aQ ks ns) ms=P at *;have t2:=ht.same s2;ktn_end (λ σ G=>(SmT G2 G/\cV TL G2 G)/\TabOk G TL ⟨319,46,319,80⟩ "lead.<locals>.<lambda>" /\ ∃z,G z=some (.tup ((bP ks es P).map V.int))/\σ=[some (.ref m),some (.ref t),some (.ref u),some (.ref p),some (.ref z),none,none])
 ·cell_end ah ag nq;exact⟨ks,es,mb.same s2,P,hp,hk,sP,k20,lP,esl,pP,t2,l0,λ G x sp tk ⟨_,qx,e1,_,e3⟩=>⟨_,e1,_,aB (j:=1) rfl,hR _ _ ⟨⟨SmT.ofP t2 sp,sp⟩,tk,qx,e3,rfl⟩⟩⟩
 rintro σ3 G3 hz9;refine hid λ Gz gz=>?_;obtain⟨⟨s3,r3⟩,t3,z,hz,rfl⟩:=hz9;refine gz ?_;clear gz Gz;ktn_end (λ σ G=>(SmT G3 G/\cV TL G3 G)/\TabOk G TL ⟨319,46,319,80⟩ "lead.<locals>.<lambda>" /\ ∃x,G x=some (.tup ((bP ns cs P).map V.int))/\σ=[some (.ref m),some (.ref t),some (.ref u),some (.ref p),some (.ref z),some (.ref x),none])
 ·cell_end ah ag nq;exact⟨ns,cs,s3.tb (tb.same s2),P,s3.tup hp,hs,sP,h20,lP,csl,pP,t3,l1,λ G x sp tk ⟨_,qx,e1,_,e3⟩=>⟨_,e1,_,aB (j:=1) rfl,hR _ _ ⟨⟨SmT.ofP t3 sp,sp⟩,tk,qx,e3,rfl⟩⟩⟩
 rintro σ4 G4 hz9;refine hid λ Gz gz=>?_;obtain⟨⟨s4,r4⟩,t4,x,hx,rfl⟩:=hz9;refine gz ?_;clear gz Gz;ktn_end (λ σ G=>(SmT G4 G/\cV TL G4 G)/\TabOk G TL ⟨319,46,319,80⟩ "lead.<locals>.<lambda>" /\ ∃y,G y=some (.tup ((bP ms ds P).map V.int))/\σ=[some (.ref m),some (.ref t),some (.ref u),some (.ref p),some (.ref z),some (.ref x),some (.ref y)])
 ·cell_end ah ag nq;exact⟨ms,ds,s4.tb (s3.tb (ub.same s2)),P,s4.tup (s3.tup hp),hm,sP,m20,lP,dsl,pP,t4,l2,λ G x sp tk ⟨_,qx,e1,_,e3⟩=>⟨_,e1,_,aB (j:=1) rfl,hR _ _ ⟨⟨SmT.ofP t4 sp,sp⟩,tk,qx,e3,rfl⟩⟩⟩
 rintro σ5 G5 hz9;refine hid λ Gz gz=>?_;obtain⟨⟨s5,r5⟩,t5,y,hy,rfl⟩:=hz9;refine gz ?_;clear gz Gz;have hz5:=s5.tup (s4.tup hz);have hx5:=s5.tup hx;have hp5:=s5.tup (s4.tup (s3.tup hp));have n0:(pkC ks es ns cs ms ds P).length=(ai P).toNat:=by unfold pkC;rw[aA,fq]
 ktr_call ah ag;refine CompZ3.mk (xs:=(bP ks es P).map V.int) (ys:=(bP ns cs P).map V.int) (zs:=(bP ms ds P).map V.int) (ai P).toNat (by rw[aP,jw]) (by rw[aP,jw]) (by rw[aP,jw]) (.of hz5) (.of hx5) (.of hy) (λ i us σ G=>Same G5 G/\us=((pkC ks es ns cs ms ds P).take i).map V.int/\∃a b c,σ=[a,b,c]) ⟨Same.refl _,rfl,_,_,_,rfl⟩ (λ i us σ G _ h=>⟨.of (h.1 _ _ hz5),.of (h.1 _ _ hx5),.of (h.1 _ _ hy)⟩) (λ i a b c us σ G T hi ea eb ec h hT=>?_) (λ us σ G h l hl=>?_) (λ i us σ G h=>?_)
 ·refine hid λ Gz gz=>?_;obtain⟨sg,rfl,y1,y2,y3,rfl⟩:=h;obtain⟨a,rfl,ha'⟩:=dE ea;obtain⟨b,rfl,hb'⟩:=dE eb;obtain⟨c,rfl,hc'⟩:=dE ec;refine gz ?_;clear gz Gz;cases uG ha';cases uG hb';cases uG hc'
  have e1:((pkC ks es ns cs ms ds P).take (i+1)).map V.int=((pkC ks es ns cs ms ds P).take i).map V.int++[V.int (if gO ks es P i≠0 then gO ns cs P i else gO ms ds P i)]:=by
   rw[cO,aY]
   congr 1
   unfold pkC;rw[bA,ko hi];rfl
  cell_end ah ag e1;split
  ·exact⟨sg.trans (af hT _),rfl,_,rfl⟩
  ·exact⟨sg.trans (af hT _),rfl,_,rfl⟩
 ·refine hid λ Gz gz=>?_;obtain⟨sg,rfl,y1,y2,y3,rfl⟩:=h;refine gz ?_;clear gz Gz;rw[fk (s1e n0)];refine⟨l,rfl,_,.inl ⟨.of ar,λ l2 hl2=>⟨smd,λ p2 hp2=>?_⟩⟩⟩;have k1:=(af hl (.lst ((pkC ks es ns cs ms ds P).map V.int))).trans ((af hl2 (.tup ((pkC ks es ns cs ms ds P).map V.int))).trans (af hp2 (.tup [V.ref p,V.ref l2])));exact q3 _ p2 (lH (rh s2) (lH r3 (lH r4 (lH r5 (rh (sg.trans k1)))))) (t5.same (sg.trans k1)) ⟨p,l2,ar,k1 _ _ (sg _ _ hp5),af hp2 _ _ _ ar⟩
 ·refine hid λ Gz gz=>?_;obtain⟨sg,rfl,y1,y2,y3,rfl⟩:=h;refine gz ?_;clear gz Gz;rw[aA,be];exact bD (by lia)
theorem Mr(Y0:Cs Z0 49):ca (Cl Z0) 49:=pd Z0 Z0.t49 λ f fd c F hcd TF=>by
 have sc:=scq (aH rK) ["tab","other"] ["sides","length","many","number_at"];refine F.okT hcd sc (λ vs H Q E h=>?_) (λ A outer s H vs Q E hr h=>?_)
 ·exact el7 vs h λ _ _ _ _ _ _ _ _=>rfl
 refine el7 vs h λ t o n r cs ms ds h=>Lg h λ tb to hs hm h20 k20 csl dsl ht n0 nb q4=>?_;have own:OwnCl (envOfC "fetch" (aH rK) s.heap.objs.size f (.ref c)).cells ["tab","other","many","length"] [("tab",s.heap.objs.size+1),("other",s.heap.objs.size+2),("many",s.heap.objs.size+4),("length",s.heap.objs.size+3)]:=⟨rfl,(fc rfl (fc rfl (fc rfl (fc rfl fc0))))⟩;refine⟨_,(aN 2 sc.nd (ax (cc Y0 29) hr au (ao (aq aD (pv 0) ae) (aq aD (pv 1) ae))) (aN 3 sc.nd (aq aD (aq aD (pv 0) ae) ae) (aN 4 sc.nd (bz Z0.zlen (aq aD (pv 1) ae)) (bB (tW (i:=5) (qual := "fetch.<locals>.number_at") (fv:=["tab","other","many","length"]) (cl:=[("tab",s.heap.objs.size+1),("other",s.heap.objs.size+2),("many",s.heap.objs.size+4),("length",s.heap.objs.size+3)]) sc.nd rfl (.inl rfl) rfl rfl TF rfl own rfl rfl rfl) (av (jq (fv:=["tab","other","many","length"]) (js:=[0,1,4,3]) (Cr.a (cc Y0 40)) hr (by rfl) own rfl (fc rfl (fc rfl (fc rfl (fc rfl fc0)))) (fc rfl (fc rfl (fc rfl (fc rfl fc0)))) (by decide +kernel) (ao (pv 2) (pv 5)))))))),?_⟩;generalize (eO _ _ _ _ _ _ _ _ _ _ _ _ _ _ _ _).env.cells=ec;kpf_say ah ag vA iH;refine hid λ Gz gz=>?_;obtain⟨sa,ca,tt,ta,tc⟩:=id tb;obtain⟨ob,od,oo,oa,oc⟩:=id to;refine gz ?_;clear gz Gz;refine⟨_,tt,_,aB (j:=0) rfl,_,oo,_,aB (j:=0) rfl,_,rfl,_,rfl,n,r,ta,ms,oa,hs,hm,h20,k20,n0,nb,λ H0 p s0 hp=>?_⟩;refine⟨_,s0 _ _ tt,_,aB (j:=0) rfl,_,rfl,_,s0 _ _ ta,_,aB (j:=0) rfl,_,s0 _ _ oo,_,aB (j:=0) rfl,_,rfl,_,.inr (.of (s0 _ _ oa)),ht.same s0,λ fa c' cl H2 o1 ffa hfa hc2 ht2 up2=>⟨[.ref t,.ref o,.int ms.length,.int n],by simp,λ cl' H3 o2 fr hcel eq3=>?_⟩⟩;cases OwnCl.uniq o1 o2;have hn:=hs n bF;have hr':bq r:=λ m hm=>hs m (aM _ hm);have ht0:=ht.same s0;have up3:∀a xs,H0 a=some (.tup xs)->H2 a=some (.tup xs):=λ a xs e=>up2 _ _ (jv ht0 e) e;have u3:=iJ fr eq3;have sdA:=Io hm hr';have pb:=dR λ n hn=>(sdA n hn).1;have nb':=nb;unfold bS at nb';have lA:(ms++r).length=ms.length+r.length:=bu;have lsc:LmScope ["at","tab","other","many","length","row"] ["at"] ["tab","other","many","length"] { kind:=ScopeKind.function,names:=[("at",NameKind.local),("row",NameKind.local),("length",NameKind.free),("many",NameKind.free),("other",NameKind.free),("tab",NameKind.free),("cell_at",NameKind.globalImplicit)],isGenerator:=false,isCoroutine:=false }:=⟨rfl,rfl,rfl,by decide +kernel,rfl,fc (.inl rfl) fc0,fc rfl (fc rfl (fc rfl (fc rfl fc0))),by decide +kernel,by decide +kernel⟩;refine⟨ms++r,u3 _ _ (up3 _ _ hp),sdA,by lia,by lia,FnV.dfn (u3 _ _ hfa),lG n r cs ds,λ i H1 p1 Q' hi s1 hp1 hq=>?_,λ H4 p q s4 hq hp'=>?_⟩
 ·have hcel1:=hcel.same s1;have tbm:TbAt (minC H1 cl) t (n::r) cs:=iK hcel1 (((iM (T:=TE) (tb.same s0) up3).same u3).same s1);have tom:TbAt (minC H1 cl) o ms ds:=iK hcel1 (((iM (T:=TE) (to.same s0) up3).same u3).same s1);have hpm:=cr hcel1 hp1;have rp:∀m∈r,0 < m:=λ m hm'=>uB sdA (by lia) hi m (dz _ hm');have rpos:=qP rp;rw[uw] at hi;have dv:=Ip rpos (by lia) hi;have md:0≤(i:Int) % ai r/\(i:Int) % ai r < ai r:=⟨oG _ (by lia),qN _ rpos⟩;rw[Il ms r rp] at hpm;have lm:=iF ms ((i:Int) / ai r);have lr:=iF r ((i:Int) % ai r);have gm:=iG hm dv.1 dv.2;have gr:=iG hr' md.1 md.2;have em:=zU hm dv.1 dv.2;have er:=zU hr' md.1 md.2;have ef:lG n r cs ds i=cs.getD ((ds.getD ((i:Int) / ai r).toNat 0) % n * ai r+(i:Int) % ai r).toNat 0:=rfl;generalize (i:Int) / ai r=dI at *;generalize (i:Int) % ai r=mI at *;generalize atD ms dI=Am at *;generalize atD r mI=Ar at *;refine tV (k:=5) (vs:=[V.ref p1]) (vcs:=[.ref t,.ref o,.int ms.length,.int n]) lsc o1.1 (λ doc pm ctv us hl=>by match us,hl with | [u],_=>rfl) rfl (s1 _ _ (u3 _ _ hfa)) (s1 _ _ (u3 _ _ hc2)) hcel1 (λ A outer s hr=>(aN 5 lsc.nd (ay dB (ax (cc Y0 42) hr au (ao (pv 2) (cn cN (pv 0) cu (bY (pv 3))))) (pv 4)) (av (ax (cc Y0 42) hr au (ao (pv 1) (ay dQ (aU (aG (pv 5))) (cn cN (pv 0) (bY (pv 3)) cu))))))) ?_;cell_end ah ag jE;have c1:de ((Am++Ar).map V.int) none (some (ms.length:Int))=Am.map V.int:=by rw[mO (by rw[bu];lia),← lm,List.take_left]
  have c2:de ((Am++Ar).map V.int) (some (ms.length:Int)) none=Ar.map V.int:=by rw[mP (by rw[bu];lia),← lm,List.drop_left]
  have row0:∀x:Int,0≤x % n/\x % n < n:=λ x=>⟨oG _ n0,qN _ (by lia)⟩;have fm:∀x:Int,x.fmod n=x % n:=λ x=>pJ _ (by lia);refine⟨_,hpm,λ r1 G1 s2 h1=>⟨ms,ds,tom.same s2,Am,by rw[h1,c1],hm,by lia,gm,dsl,λ G2 s3=>⟨n0,smd,λ p2 hp2=>⟨_,af hp2 _ _ _ (s3 _ _ (s2 _ _ hpm)),λ r2 G3 s4 h2=>⟨_,s4 _ _ ar,_,h2,?_,λ r3 G4 s5 h3=>⟨n::r,cs,((((tbm.same s2).same s3).same (af hp2 _)).same s4).same s5,(ds.getD dI.toNat 0 % n)::Ar,?_,hs,?_,Im gr (row0 _).1 (row0 _).2,csl,λ G5 s6=>?_⟩⟩⟩⟩⟩⟩
  ·rw[c2];simp only[aV,aW,aA];exact small (by lia)
  ·rw[h3,c2,fm,em];rfl
  ·simp only[aV];lia
  ·have z:=hq _ (iI ((s2.trans s3).trans ((af hp2 _).trans (s4.trans (s5.trans s6)))));rw[zW,er,← ef];exact z
 ·have hb:=ju fr eq3 s4;have hc4:=hcel.same s4;exact q4 _ p (λ b o n e=>hb _ _ (up2 _ _ n (s0 _ _ e))) (ht2.same hb) ⟨_,_,cr hc4 hp',hb _ _ (up3 _ _ hp),cr hc4 hq⟩
theorem Mt(Y0:Cs Z0 50):ca (Cl Z0) 50:=pd Z0 Z0.t50 λ f fd c F hcd TF=>by
 have sc:=scq (aH rL) ["sides","side"] [];refine F.okT hcd sc (λ vs H Q E h=>?_) (λ A outer s H vs Q E hr h=>?_)
 ·exact el3 vs h λ _ _ _ _=>rfl
 refine el3 vs h λ a ns side h=>an7 h λ ha hs h20 ht nb no q3=>?_;have own:OwnCl (envOfC "counted" (aH rL) s.heap.objs.size f (.ref c)).cells ["side"] [("side",s.heap.objs.size+1)]:=⟨rfl,fc rfl fc0⟩;refine⟨_,(av (jq (fv:=["side"]) (js:=[1]) (Cr.a (cc Y0 40)) hr (by rfl) own rfl (fc rfl fc0) (fc rfl fc0) (by decide +kernel) (ao (ax (cc Y0 31) hr au (ao (pv 0) (pv 1))) (mF (qual := "counted.<locals>.<lambda>") (fv:=["side"]) (cl:=[("side",s.heap.objs.size+1)]) rfl rfl TF rfl rfl own)))),?_⟩;generalize (eO _ _ _ _ _ _ _ _ _ _ _ _ _ _ _ _).env.cells=ec;kpf_say ah ag vC iH;refine⟨ns,ha,hs,h20,nb,no,λ H0 s0=>⟨ht.same s0,λ fa c' cl H2 o1 ffa hfa hc2 ht2 up2=>⟨[V.int side],rfl,λ cl' H3 o2 fr hcel eq3=>?_⟩⟩⟩;cases OwnCl.uniq o1 o2;have ne:=jv ht ha;have a2:=up2 _ _ ne (s0 _ _ ha);have u3:=iJ fr eq3;have pb:=dR λ n hn=>(hs n hn).1;obtain⟨kk,rfl,hk⟩:=iD no;have nb':=nb;unfold bS at nb';refine⟨ns,u3 _ _ a2,hs,by lia,by lia,FnV.lam (u3 _ _ hfa),λ i=>(atD ns (i:Int)).getD kk 0,λ i H1 p Q' hi s1 hp hq=>?_,λ H4 p q s4 hq hp=>?_⟩
 ·refine mE (k:=5) (N:=["at","side"]) (ps:=["at"]) (fv:=["side"]) (vs:=[V.ref p]) (vcs:=[V.int kk]) ⟨rfl,rfl,rfl,by decide +kernel,rfl,fc (.inl rfl) fc0,fc rfl fc0,by decide +kernel,by decide +kernel⟩ o1.1 (λ pm ctv us hl=>by match us,hl with | [u],_=>rfl) rfl (s1 _ _ (u3 _ _ hfa)) (s1 _ _ (u3 _ _ hc2)) (hcel.same s1) (λ A outer s hr=>me aD (pv 0) (pv 1) (λ _ _=>rfl)) ?_;ktr_call ah ag;exact⟨_,cr (hcel.same s1) hp,_,fJ (by rw[iF];exact hk),hq _ (iI (Same.refl _))⟩
 ·have hb:=ju fr eq3 s4;have hc4:=hcel.same s4;exact q3 _ p q (λ b o n e=>hb _ _ (up2 _ _ n (s0 _ _ e))) (ht2.same hb) (cr hc4 hq) (cr hc4 hp)
theorem Mu(Y0:Cs Z0 51):ca (Cl Z0) 51:=pd Z0 Z0.t51 λ f fd c F hcd TF=>by
 have sc:=scq (aH rM) ["tab","order"] ["sides","places"];refine F.okT hcd sc (λ vs H Q E h=>?_) (λ A outer s H vs Q E hr h=>?_)
 ·exact el5 vs h λ _ _ _ _ _ _=>rfl
 refine el5 vs h λ t b ns cs os h=>ny h λ tb hb0 hm h20 o20 p5 csl ht tk q2=>?_;have own:OwnCl (envOfC "turn" (aH rM) s.heap.objs.size f (.ref c)).cells ["tab","places"] [("tab",s.heap.objs.size+1),("places",s.heap.objs.size+3)]:=⟨rfl,(fc rfl (fc rfl fc0))⟩;refine⟨_,(aN 2 sc.nd (ax (cc Y0 20) hr au (ao (aq aD (pv 0) ae) (pv 1))) (aN 3 sc.nd (dZ (own:=["side"]) (fv:=["order"]) (js:=[1]) rfl (gF (by rfl) Z0.zrange (aG (bz Z0.zlen (pv 1)))) rfl (by decide) rfl (by decide) (by first | exact λ _ _ h=>h | exact dh rfl | exact dk rfl rfl | exact dn rfl rfl rfl) (dg (by rfl)) rfl (eh (by first | exact⟨rfl,.inl rfl,.inl rfl⟩ | exact⟨rfl,.inl rfl,.inr rfl⟩)) (λ _ _ _ _=>(bR 0 ["side","order"])) (λ _ _ _ _=>(Go PySem.F.slot_tuple_index PySem.F.type_tuple_index GS (pv 1) (aG (pv 0))))) (av (jq (fv:=["tab","places"]) (js:=[0,3]) (Cr.a (cc Y0 40)) hr (by rfl) own rfl (fc rfl (fc rfl fc0)) (fc rfl (fc rfl fc0)) (by decide +kernel) (ao (pv 2) (mF (qual := "turn.<locals>.<lambda>") (fv:=["tab","places"]) (cl:=[("tab",s.heap.objs.size+1),("places",s.heap.objs.size+3)]) rfl rfl TF rfl rfl own)))))),?_⟩;generalize (eO _ _ _ _ _ _ _ _ _ _ _ _ _ _ _ _).env.cells=ec;kpf_say ah ag vp iH;refine hid λ Gz gz=>?_;obtain⟨sa,ca,tt,ta,tc⟩:=id tb;refine gz ?_;clear gz Gz;refine⟨_,tt,_,aB (j:=0) rfl,_,rfl,ns,ta,os,hb0,h20,o20,tk,λ H0 p s0 hp=>?_⟩;have hb1:=hb0.same s0;have ol:=AZ tk;refine⟨_,.inr hb1.sq,by rw[aP];lia,by rw[aP];lia,?_⟩;rw[aP,Int.toNat_natCast];refine CompR.mk (λ i ys σ G=>G=H0/\i≤os.length/\ys=((List.range i).map λ s:Nat=>V.int ((os.idxOf (s:Int):Nat):Int))/\∃y,σ=[y,some (.ref b)]) ⟨rfl,bc _,rfl,_,rfl⟩ (λ i ys σ G hi h=>?_) (λ ys σ G h l hl=>?_)
 ·refine hid λ Gz gz=>?_;obtain⟨rfl,il,rfl,y,rfl⟩:=h;refine gz ?_;clear gz Gz;refine⟨by rw[aA,fq];exact bD (by lia),?_⟩;wp_walk using ah,eX,da,ag,mK;obtain⟨o,e,dd⟩:=id hb1;have mi:=uY tk (s:=i) (by lia);have xl:=uZ.mpr mi;refine⟨⟨o,_,e,dd⟩,o,_,e,dC _,os.idxOf (i:Int),⟨V.int i,?_,?_⟩,λ m z hm' ez=>?_,by lia,?_,_,rfl⟩
  ·rw[bA,aX xl,s0u xl];rfl
  ·show((i:Int) == (i:Int))=true;exact tR _
  ·obtain⟨n,rfl,hn⟩:=dE ez;obtain⟨ml,en⟩:=bv.mp hn;have z:=ne_of_lt_idxOf hm' ml;rw[en] at z;exact z
  ·rw[oB,aY];rfl
 ·refine hid λ Gz gz=>?_;obtain⟨rfl,il,rfl,y,rfl⟩:=h;refine gz ?_;clear gz Gz;have sl:=af hl (.lst ((List.range os.length).map λ s:Nat=>V.int ((os.idxOf (s:Int):Nat):Int)));have hll:upd G l (.lst ((List.range os.length).map λ s:Nat=>V.int ((os.idxOf (s:Int):Nat):Int))) l=some (.lst ((List.range os.length).map λ s:Nat=>V.int ((os.idxOf (s:Int):Nat):Int))):=ar;generalize upd G l (.lst ((List.range os.length).map λ s:Nat=>V.int ((os.idxOf (s:Int):Nat):Int)))=H1 at *;have s01:=s0.trans sl;have ht1:=ht.same s01;refine⟨ht1,λ fa c' cl H2 o1 ffa hfa hc2 ht2 up2=>⟨[.ref t,.ref l],by simp,λ cl' H3 o2 fr hcel eq3=>?_⟩⟩;cases OwnCl.uniq o1 o2;have up3:∀a xs,H1 a=some (.tup xs)->H2 a=some (.tup xs):=λ a xs e=>up2 _ _ (jv ht1 e) e
  have lne:¬l=TT:=λ z=>by
   obtain⟨ps,h1,_⟩:=ht1;rw[← z,hll] at h1;cases h1
  have u3:=iJ fr eq3;have hs:=ia hm;obtain⟨smS,lS,pS⟩:=Kb (side:=0) (f:=0) (m:=0) (g:=0) hm (.inl ⟨rfl,tk,rfl,rfl⟩);have sdS:=ia smS;have pb:=dR λ n hn=>(sdS n hn).1;refine⟨bX ns os,u3 _ _ (up3 _ _ (sl _ _ hp)),sdS,by lia,by lia,FnV.lam (u3 _ _ hfa),λ i:Nat=>cs.getD (plH ns (eJ os (atD (bX ns os) (i:Int)))).toNat 0,λ i H4 p1 Q' hi s4 hp1 hq=>?_,λ H4 p q s4 hq hp'=>?_⟩
  ·have hcel1:=hcel.same s4;have tbm:TbAt (minC H4 cl) t ns cs:=iK hcel1 (((iM (T:=TT) (tb.same s01) up3).same u3).same s4);have hlm:=Kc hcel1 (s4 _ _ (u3 _ _ (up2 _ _ lne hll)));have hpm:=cr hcel1 hp1;have gd:=iG sdS (by lia) hi;have al:=iF (bX ns os) i;replace hq:∀H2,Same H4 H2->Q' (V.int (cs.getD (plH ns (eJ os (atD (bX ns os) (i:Int)))).toNat 0)) H2:=hq;generalize atD (bX ns os) (i:Int)=At at *;have gf:=JX tk gd;refine mE (k:=5) (N:=["at","tab","places"]) (ps:=["at"]) (fv:=["tab","places"]) (vs:=[V.ref p1]) (vcs:=[.ref t,.ref l]) ⟨rfl,rfl,rfl,by decide +kernel,rfl,fc (.inr rfl) fc0,fc rfl (fc rfl fc0),by decide +kernel,by decide +kernel⟩ o1.1 (λ pm ctv us hl=>by match us,hl with | [u],_=>rfl) rfl (s4 _ _ (u3 _ _ hfa)) (s4 _ _ (u3 _ _ hc2)) hcel1 (λ A outer s hr=>jc (Cr.a (cc Y0 42)) hr (by rfl) au (aE (pv 1) (aE (wJ (oq (K:=K) rfl) (by rfl) Z0.ztuple cJ (aE (dZ (own:=["place"]) (fv:=["at"]) (js:=[0]) rfl (GT (K:=K) rfl (pv 2)) rfl (by decide) rfl (by decide) (by first | exact λ _ _ h=>h | exact dh rfl | exact dk rfl rfl | exact dn rfl rfl rfl) (dg (by rfl)) rfl (eh (by first | exact⟨rfl,.inl rfl,.inl rfl⟩ | exact⟨rfl,.inl rfl,.inr rfl⟩)) (λ _ _ _ _=>(iu (i:=0) (show(["place","at"]:List Str).Nodup by decide +kernel) rfl (Or.inl rfl))) (λ _ _ _ _=>(me aD (pv 1) (pv 0) (λ _ _=>rfl)))) bK)) bK))) ?_;cell_end ah ag jE;have tl:(bX ns os).length=os.length:=aA ..;refine CompL.mk (xs:=(List.range os.length).map λ s:Nat=>V.int ((os.idxOf (s:Int):Nat):Int)) (.of hlm) (λ i ys σ G=>G=minC H4 cl/\i≤os.length/\ys=((eJ os At).take i).map V.int/\∃y,σ=[y,some (.ref p1)]) ⟨rfl,bc _,rfl,_,rfl⟩ (λ i ys σ G _ h=>by rw[h.1];exact .of hlm) (λ i x ys σ G ex h=>?_) (λ ys σ G h p2 hp2=>?_)
   ·refine hid λ Gz gz=>?_;obtain⟨rfl,il,rfl,y,rfl⟩:=h;refine gz ?_;clear gz Gz;have i1:i < os.length:=by have:=(bv.mp ex).1;rwa [aA,fq] at this
    rw[bA,ko i1] at ex;cases (cz ex);have xl:=uZ.mpr (uY tk (s:=i) (by lia));have eo:(eJ os At)[i]?=some (At.getD (os.idxOf (i:Int)) 0):=by unfold eJ;rw[bA,ko i1];rfl
    have et:((eJ os At).take (i+1)).map V.int=((eJ os At).take i).map V.int++[V.int (At.getD (os.idxOf (i:Int)) 0)]:=by rw[cO,eo,aY];rfl
    refine⟨by rw[aA,be];exact bD (by lia),?_⟩;cell_end ah ag et;exact⟨_,hpm,_,fJ (by lia),i1,rfl,_,rfl⟩
   ·refine hid λ Gz gz=>?_;obtain⟨rfl,il,rfl,y,rfl⟩:=h;refine gz ?_;clear gz Gz;rw[aA,fq,fk (by unfold eJ;rw[aA,fq];exact aJ _)];exact⟨p2,rfl,_,.inl ⟨.of ar,λ l3 hl3=>⟨ns,cs,(tbm.same (af hp2 _)).same (af hl3 _),eJ os At,rfl,hs,by lia,gf,csl,λ G2 s3=>hq _ (iI ((af hp2 _).trans ((af hl3 _).trans s3)))⟩⟩⟩
  ·have hb':=ju fr eq3 s4;have hc4:=hcel.same s4;exact q2 _ p (λ b o n e=>hb' _ _ (up2 _ _ n (s01 _ _ e))) (ht2.same hb') ⟨_,_,cr hc4 hp',hb' _ _ (up3 _ _ (sl _ _ hp)),cr hc4 hq⟩
theorem Mv(Y0:Cs Z0 52):ca (Cl Z0) 52:=pd Z0 Z0.t52 λ f fd c F hcd TF=>by
 have sc:=scq (aH rN) ["tab","side"] ["sides"];refine F.okT hcd sc (λ vs H Q E h=>?_) (λ A outer s H vs Q E hr h=>?_)
 ·exact el4 vs h λ _ _ _ _ _=>rfl
 refine el4 vs h λ t ns cs side h=>an8 h λ tb hm h20 p5 csl ht no q2=>?_;have own:OwnCl (envOfC "flip" (aH rN) s.heap.objs.size f (.ref c)).cells ["tab","sides","side"] [("tab",s.heap.objs.size+1),("sides",s.heap.objs.size+3),("side",s.heap.objs.size+2)]:=⟨rfl,(fc rfl (fc rfl (fc rfl fc0)))⟩;refine⟨_,(aN 2 sc.nd (ax (cc Y0 21) hr au (ao (aq aD (pv 0) ae) (pv 1))) (av (jq (fv:=["tab","sides","side"]) (js:=[0,2,1]) (Cr.a (cc Y0 40)) hr (by rfl) own rfl (fc rfl (fc rfl (fc rfl fc0))) (fc rfl (fc rfl (fc rfl fc0))) (by decide +kernel) (ao (pv 2) (mF (qual := "flip.<locals>.<lambda>") (fv:=["tab","sides","side"]) (cl:=[("tab",s.heap.objs.size+1),("sides",s.heap.objs.size+3),("side",s.heap.objs.size+2)]) rfl rfl TF rfl rfl own))))),?_⟩;generalize (eO _ _ _ _ _ _ _ _ _ _ _ _ _ _ _ _).env.cells=ec;kpf_say ah ag rF iH;refine hid λ Gz gz=>?_;obtain⟨sa,ca,tt,ta,tc⟩:=id tb;refine gz ?_;clear gz Gz;refine⟨_,tt,_,aB (j:=0) rfl,_,rfl,ns,ta,no,⟨ht,λ fa c' cl H2 o1 ffa hfa hc2 ht2 up2=>⟨[.ref t,.ref sa,.int side],by simp,λ cl' H3 o2 fr hcel eq3=>?_⟩⟩⟩;cases OwnCl.uniq o1 o2;obtain⟨k,rfl,hk⟩:=iD no;simp only[Int.toNat_natCast] at q2;have up3:∀a xs,H a=some (.tup xs)->H2 a=some (.tup xs):=λ a xs e=>up2 _ _ (jv ht e) e;have u3:=iJ fr eq3;have hs:=ia hm;have po:=dR λ n hn=>(hs n hn).1;refine⟨ns,u3 _ _ (up3 _ _ ta),hs,by lia,by lia,FnV.lam (u3 _ _ hfa),λ i:Nat=>cs.getD (plH ns (jB ns k (atD ns (i:Int)))).toNat 0,λ i H1 p1 Q' hi s1 hp1 hq=>?_,λ H4 p q s4 hq hp'=>?_⟩
 ·have hcel1:=hcel.same s1;have tbm:TbAt (minC H1 cl) t ns cs:=iK hcel1 (((iM (T:=TP) tb up3).same u3).same s1);have tam:=cr hcel1 (s1 _ _ (u3 _ _ (up3 _ _ ta)));have hpm:=cr hcel1 hp1;have gd:=iG hs (by lia) hi;have al:=iF ns i;replace hq:∀H2,Same H1 H2->Q' (V.int (cs.getD (plH ns (jB ns k (atD ns (i:Int)))).toNat 0)) H2:=hq;generalize atD ns (i:Int)=At at *;have gf:=JY hk gd;refine mE (k:=5) (N:=["at","tab","sides","side"]) (ps:=["at"]) (fv:=["tab","sides","side"]) (vs:=[V.ref p1]) (vcs:=[.ref t,.ref sa,.int k]) ⟨rfl,rfl,rfl,by decide +kernel,rfl,fc (.inl rfl) fc0,fc rfl (fc rfl (fc rfl fc0)),by decide +kernel,by decide +kernel⟩ o1.1 (λ pm ctv us hl=>by match us,hl with | [u],_=>rfl) rfl (s1 _ _ (u3 _ _ hfa)) (s1 _ _ (u3 _ _ hc2)) hcel1 (λ A outer s hr=>jc (Cr.a (cc Y0 42)) hr (by rfl) au (aE (pv 1) (aE (jc (Cr.a (cc Y0 16)) hr (by rfl) au (aE (pv 0) (aE (pv 3) (aE (ay eN (ay eN (me aD (pv 2) (pv 3) (λ _ _=>rfl)) ae) (me aD (pv 0) (pv 3) (λ _ _=>rfl))) bK)))) bK))) ?_;kpf_say ah ag jE nv;exact⟨_,tam,_,fJ hk,_,rfl,_,hpm,_,fJ (by lia),_,rfl,At,k,rfl,hpm,by lia,by lia,λ G p2 s2 h2=>⟨ns,cs,tbm.same s2,_,h2,hs,by lia,gf,csl,λ G2 s3=>hq _ (iI (s2.trans s3))⟩⟩
 ·have hb:=ju fr eq3 s4;have hc4:=hcel.same s4;exact q2 _ p (λ b o n e=>hb _ _ (up2 _ _ n (e))) (ht2.same hb) ⟨_,_,cr hc4 hp',hb _ _ (up3 _ _ ta),cr hc4 hq⟩
theorem Mw(Y0:Cs Z0 53):ca (Cl Z0) 53:=Lf Z0 Z0.t53 λ f fd c F hcd TF=>by
 have sc:=scq (aH rO) ["tab","side","first","many","step"] ["sides"];refine F.okT hcd sc (λ vs H Q E h=>?_) (λ A outer s H vs Q E hr h=>?_)
 ·exact el7 vs h λ _ _ _ _ _ _ _ _=>rfl
 refine el7 vs h λ t ns cs side ff mm gg h=>Ds h λ tb hm h20 p5 csl m0 m1 ht no nb q3=>?_;have own:OwnCl (envOfC "cut" (aH rO) s.heap.objs.size f (.ref c)).cells ["tab","step","side","first"] [("tab",s.heap.objs.size+1),("step",s.heap.objs.size+4),("side",s.heap.objs.size+2),("first",s.heap.objs.size+3)]:=⟨rfl,(fc rfl (fc rfl (fc rfl (fc rfl fc0))))⟩;refine⟨_,(aN 5 sc.nd (ax (cc Y0 22) hr au (aE (aq aD (pv 0) ae) (aE (pv 1) (aE (pv 2) (ao (pv 3) (pv 4)))))) (av (jq (fv:=["tab","step","side","first"]) (js:=[0,4,1,2]) (Cr.a (cc Y0 40)) hr (by rfl) own rfl (fc rfl (fc rfl (fc rfl (fc rfl fc0)))) (fc rfl (fc rfl (fc rfl (fc rfl fc0)))) (by decide +kernel) (ao (pv 5) (mF (qual := "cut.<locals>.<lambda>") (fv:=["tab","step","side","first"]) (cl:=[("tab",s.heap.objs.size+1),("step",s.heap.objs.size+4),("side",s.heap.objs.size+2),("first",s.heap.objs.size+3)]) rfl rfl TF rfl rfl own))))),?_⟩;generalize (eO _ _ _ _ _ _ _ _ _ _ _ _ _ _ _ _).env.cells=ec;kpf_say ah ag vq iH;refine hid λ Gz gz=>?_;obtain⟨sa,ca,tt,ta,tc⟩:=id tb;refine gz ?_;clear gz Gz;refine⟨_,tt,_,aB (j:=0) rfl,_,rfl,ns,ta,by lia,m0,m1,no,nb,λ H0 p s0 hp=>⟨ht.same s0,λ fa c' cl H2 o1 ffa hfa hc2 ht2 up2=>⟨[.ref t,.int gg,.int side,.int ff],by simp,λ cl' H3 o2 fr hcel eq3=>?_⟩⟩⟩;cases OwnCl.uniq o1 o2;obtain⟨k,rfl,hk⟩:=iD no;simp only[Int.toNat_natCast] at q3 hp;have ht0:=ht.same s0;have up3:∀a xs,H0 a=some (.tup xs)->H2 a=some (.tup xs):=λ a xs e=>up2 _ _ (jv ht0 e) e;have u3:=iJ fr eq3;have hs:=ia hm;have nn:∀n∈ns,0≤n:=λ n hn=>(hs n hn).1;have nk:=hm _ (getD_mem hk);have cm:=Ba nk.1 nb;have sdA:=ia (zM (k:=k) hm cm.1 (show mm≤1000000 by lia));have po:=dR λ n hn=>(sdA n hn).1;have so:=uX (k:=k) nn cm.1 cm.2;have li:(ns.set k mm).length=ns.length:=gJ ..;refine⟨ns.set k mm,u3 _ _ (up3 _ _ hp),sdA,by lia,by lia,FnV.lam (u3 _ _ hfa),λ i:Nat=>cs.getD (plH ns (jC k ff gg (atD (ns.set k mm) (i:Int)))).toNat 0,λ i H1 p1 Q' hi s1 hp1 hq=>?_,λ H4 p q s4 hq hp'=>?_⟩
 ·have hcel1:=hcel.same s1;have tbm:TbAt (minC H1 cl) t ns cs:=iK hcel1 (((iM (T:=TU) (tb.same s0) up3).same u3).same s1);have hpm:=cr hcel1 hp1;have gd:=iG sdA (by lia) hi;have al:=iF (ns.set k mm) i;replace hq:∀H2,Same H1 H2->Q' (V.int (cs.getD (plH ns (jC k ff gg (atD (ns.set k mm) (i:Int)))).toNat 0)) H2:=hq;generalize atD (ns.set k mm) (i:Int)=At at *;have gf:=JZ hk nb gd;have ab:=gd.2 k _ _ (gx (by lia)) (lO hk);refine mE (k:=5) (N:=["at","tab","step","side","first"]) (ps:=["at"]) (fv:=["tab","step","side","first"]) (vs:=[V.ref p1]) (vcs:=[.ref t,.int gg,.int k,.int ff]) ⟨rfl,rfl,rfl,by decide +kernel,rfl,fc (.inl rfl) fc0,fc rfl (fc rfl (fc rfl (fc rfl fc0))),by decide +kernel,by decide +kernel⟩ o1.1 (λ pm ctv us hl=>by match us,hl with | [u],_=>rfl) rfl (s1 _ _ (u3 _ _ hfa)) (s1 _ _ (u3 _ _ hc2)) hcel1 (λ A outer s hr=>jc (Cr.a (cc Y0 42)) hr (by rfl) au (aE (pv 1) (aE (jc (Cr.a (cc Y0 16)) hr (by rfl) au (aE (pv 0) (aE (pv 3) (aE (ay cE (pv 4) (ay fR (me aD (pv 0) (pv 3) (λ _ _=>rfl)) (pv 2))) bK)))) bK))) ?_;kpf_say ah ag jE nv;exact⟨_,hpm,_,fJ (by lia),_,rfl,.inl ⟨by lia,by lia⟩,At,k,rfl,hpm,by lia,by lia,λ G p2 s2 h2=>⟨ns,cs,tbm.same s2,_,h2,hs,by lia,gf,csl,λ G2 s3=>hq _ (iI (s2.trans s3))⟩⟩
 ·have hb:=ju fr eq3 s4;have hc4:=hcel.same s4;exact q3 _ p (λ b o n e=>hb _ _ (up2 _ _ n (s0 _ _ e))) (ht2.same hb) ⟨_,_,cr hc4 hp',hb _ _ (up3 _ _ hp),cr hc4 hq⟩
theorem Mx(Y0:Cs Z0 54):ca (Cl Z0) 54:=vI Z0 Z0.t54 λ f fd c F hcd TF=>by
 have sc:=scq (aH rP) ["tab","side","many"] ["sides"];refine F.okT hcd sc (λ vs H Q E h=>?_) (λ A outer s H vs Q E hr h=>?_)
 ·exact el5 vs h λ _ _ _ _ _ _=>rfl
 refine el5 vs h λ t ns cs side many h=>ny h λ tb hs h20 csl hmany ht no nn nb q5=>?_;have own:OwnCl (envOfC "spread" (aH rP) s.heap.objs.size f (.ref c)).cells ["tab","side"] [("tab",s.heap.objs.size+1),("side",s.heap.objs.size+2)]:=⟨rfl,(fc rfl (fc rfl fc0))⟩;refine⟨_,(aN 3 sc.nd (ax (cc Y0 23) hr au (aE (aq aD (pv 0) ae) (ao (pv 1) (pv 2)))) (av (jq (fv:=["tab","side"]) (js:=[0,1]) (Cr.a (cc Y0 40)) hr (by rfl) own rfl (fc rfl (fc rfl fc0)) (fc rfl (fc rfl fc0)) (by decide +kernel) (ao (pv 3) (mF (qual := "spread.<locals>.<lambda>") (fv:=["tab","side"]) (cl:=[("tab",s.heap.objs.size+1),("side",s.heap.objs.size+2)]) rfl rfl TF rfl rfl own))))),?_⟩;generalize (eO _ _ _ _ _ _ _ _ _ _ _ _ _ _ _ _).env.cells=ec;kpf_say ah ag vt iH;refine hid λ Gz gz=>?_;obtain⟨sa,ca,tt,ta,tc⟩:=id tb;refine gz ?_;clear gz Gz;refine⟨_,tt,_,aB (j:=0) rfl,_,rfl,ns,ta,hs,h20,hmany,no,nn,nb,λ H0 p s0 hp=>⟨ht.same s0,λ fa c' cl H2 o1 ffa hfa hc2 ht2 up2=>⟨[.ref t,.int side],by simp,λ cl' H3 o2 fr hcel eq3=>?_⟩⟩⟩;cases OwnCl.uniq o1 o2;unfold lB at no;obtain⟨k,rfl⟩:∃k:Nat,side=k:=⟨side.toNat,by lia⟩;simp only[Int.toNat_natCast] at nb hp q5;have ht0:=ht.same s0;have up3:∀a xs,H0 a=some (.tup xs)->H2 a=some (.tup xs):=λ a xs e=>up2 _ _ (jv ht0 e) e;have u3:=iJ fr eq3;have sdA:=Af (k:=k) hs (by lia) hmany;have pb:=dR λ n hn=>(sdA n hn).1;have nb':=nb;unfold bS at nb';have li:=uI ns k many;refine⟨_,u3 _ _ (up3 _ _ hp),sdA,by lia,by lia,FnV.lam (u3 _ _ hfa),nj ns cs k many,λ i H1 p1 Q' hi s1 hp1 hq=>?_,λ H4 p q s4 hq hp'=>?_⟩
 ·have hcel1:=hcel.same s1;have tbm:TbAt (minC H1 cl) t ns cs:=iK hcel1 (((iM (T:=TS) (tb.same s0) up3).same u3).same s1);have hpm:=cr hcel1 hp1;have gd:=JP k (iG sdA (by lia) hi);rw[JQ (by lia)] at gd;have al:=iF (ci ns k many) i;refine mE (k:=5) (N:=["at","tab","side"]) (ps:=["at"]) (fv:=["tab","side"]) (vs:=[V.ref p1]) (vcs:=[.ref t,.int k]) ⟨rfl,rfl,rfl,by decide +kernel,rfl,fc (.inl rfl) fc0,fc rfl (fc rfl fc0),by decide +kernel,by decide +kernel⟩ o1.1 (λ pm ctv us hl=>by match us,hl with | [u],_=>rfl) rfl (s1 _ _ (u3 _ _ hfa)) (s1 _ _ (u3 _ _ hc2)) hcel1 (λ A outer s hr=>jc (Cr.a (cc Y0 42)) hr (by rfl) au (aE (pv 1) (aE (jc (Cr.a (cc Y0 18)) hr (by rfl) au (aE (pv 0) (aE (pv 2) bK))) bK))) ?_;kpf_say ah ag jE rE;exact⟨_,k,rfl,hpm,by lia,by lia,λ G p2 s2 h2=>⟨ns,cs,tbm.same s2,_,h2,hs,by lia,gd,csl,λ G2 s3=>hq _ (iI (s2.trans s3))⟩⟩
 ·have hb:=ju fr eq3 s4;have hc4:=hcel.same s4;exact q5 _ p (λ b o n e=>hb _ _ (up2 _ _ n (s0 _ _ e))) (ht2.same hb) ⟨_,_,cr hc4 hp',hb _ _ (up3 _ _ hp),cr hc4 hq⟩
theorem Mz(Y0:Cs Z0 55):ca (Cl Z0) 55:=kz2 Z0 Z0.g55 λ f fd F=>by
 have sc:=scq (aH CK) ["tab","sides"] [];refine F.ok sc (λ vs H Q E h=>?_) (λ cdv A outer s H vs Q E hr h=>?_)
 ·obtain⟨t,b,ns,cs,ms,rfl,_⟩:=h;rfl
 obtain⟨t,b,ns,cs,ms,rfl,⟨sa,ca,tt,ta,tc⟩,hb,hs,hm,hl,nb,e,q3⟩:=h;refine⟨_,(av (aU (ao (ax (cc Y0 24) hr au (ao (aq aD (pv 0) ae) (pv 1))) (aq aD (pv 0) ae)))),?_⟩
 (try dsimp only[bf]);simp only[L2.start,aV,aW,List.replicate,bi,bj,Nat.reduceSub,Nat.reduceAdd,aZ,bh]
 cell_end ah ag vw;refine⟨_,tt,_,aB (j:=0) rfl,_,rfl,ns,ta,ms,hb,hs,hm,hl,nb,e,λ H' s'=>⟨_,s' _ _ tt,_,aB (j:=1) rfl,smd,λ p hp=>?_⟩⟩;exact q3 _ p (s'.trans (af hp _)) ⟨_,_,ar,af hp _ _ _ (s' _ _ hb),af hp _ _ _ (s' _ _ tc)⟩
theorem MA(Y0:Cs Z0 56):ca (Cl Z0) 56:=vI Z0 Z0.t56 λ f fd c F hcd TF=>by
 have sc:=scq (aH rQ) ["tab","other","side"] ["sides","length","number_at"];refine F.okT hcd sc (λ vs H Q E h=>?_) (λ A outer s H vs Q E hr h=>?_)
 ·exact el7 vs h λ _ _ _ _ _ _ _ _=>rfl
 refine el7 vs h λ t o ns cs ms ds side h=>Lh h λ tb to hs hm h20 csl dsl ht le no ee nb q5=>?_;have own:OwnCl (envOfC "join" (aH rQ) s.heap.objs.size f (.ref c)).cells ["tab","side","other","length"] [("tab",s.heap.objs.size+1),("side",s.heap.objs.size+3),("other",s.heap.objs.size+2),("length",s.heap.objs.size+4)]:=⟨rfl,(fc rfl (fc rfl (fc rfl (fc rfl fc0))))⟩;refine⟨_,(aN 3 sc.nd (ax (cc Y0 25) hr au (aE (aq aD (pv 0) ae) (ao (aq aD (pv 1) ae) (pv 2)))) (aN 4 sc.nd (aq aD (aq aD (pv 0) ae) (pv 2)) (bB (tW (i:=5) (qual := "join.<locals>.number_at") (fv:=["tab","side","other","length"]) (cl:=[("tab",s.heap.objs.size+1),("side",s.heap.objs.size+3),("other",s.heap.objs.size+2),("length",s.heap.objs.size+4)]) sc.nd rfl (.inl rfl) rfl rfl TF rfl own rfl rfl rfl) (av (jq (fv:=["tab","side","other","length"]) (js:=[0,2,1,4]) (Cr.a (cc Y0 40)) hr (by rfl) own rfl (fc rfl (fc rfl (fc rfl (fc rfl fc0)))) (fc rfl (fc rfl (fc rfl (fc rfl fc0)))) (by decide +kernel) (ao (pv 3) (pv 5))))))),?_⟩;generalize (eO _ _ _ _ _ _ _ _ _ _ _ _ _ _ _ _).env.cells=ec;kpf_say ah ag vx iH;refine hid λ Gz gz=>?_;obtain⟨sa,ca,tt,ta,tc⟩:=id tb;obtain⟨ob,od,oo,oa,oc⟩:=id to;refine gz ?_;clear gz Gz;refine⟨_,tt,_,aB (j:=0) rfl,_,oo,_,aB (j:=0) rfl,_,rfl,_,rfl,ns,ta,ms,oa,hs,hm,h20,le,no,ee,nb,λ H0 p s0 hp=>?_⟩;obtain⟨k,rfl,hk⟩:=iD no;simp only[Int.toNat_natCast] at ee;refine⟨_,s0 _ _ tt,_,aB (j:=0) rfl,_,rfl,_,s0 _ _ ta,_,fJ hk,ht.same s0,λ fa c' cl H2 o1 ffa hfa hc2 ht2 up2=>⟨[.ref t,.int k,.ref o,.int (ns.getD k 0)],by simp,λ cl' H3 o2 fr hcel eq3=>?_⟩⟩;cases OwnCl.uniq o1 o2;have ht0:=ht.same s0;have up3:∀a xs,H0 a=some (.tup xs)->H2 a=some (.tup xs):=λ a xs e=>up2 _ _ (jv ht0 e) e;have u3:=iJ fr eq3;have nk:=hs _ (getD_mem hk);have mk:=hm _ (getD_mem (ns:=ms) (k:=k) (by lia))
 have sdA:bq (bW ns ms k):=λ n hn'=>by
  unfold bW at hn';simp only[Int.toNat_natCast] at hn'
  rcases mQ hn' with z | z
  ·exact ia hs n z
  ·lia
 have pb:=dR λ n hn=>(sdA n hn).1;have nb':=nb;unfold bS at nb';have li:(bW ns ms k).length=ns.length:=by unfold bW;rw[gJ]
 have jne:∀j,j≠k->ns[j]?=(bW ns ms k)[j]?:=λ j hj=>by unfold bW;rw[nD (by simpa using λ z=>hj z.symm)]
 have jk:(bW ns ms k)[k]?=some (ns.getD k 0+ms.getD k 0):=by unfold bW;simp only[Int.toNat_natCast];rw[lO hk]
 have nke:ns[k]?=some (ns.getD k 0):=by rw[cy,aX hk];rfl
 have mke:ms[k]?=some (ms.getD k 0):=by rw[cy,aX (show k < ms.length by lia)];rfl
 have lsc:LmScope ["at","tab","side","other","length"] ["at"] ["tab","side","other","length"] { kind:=ScopeKind.function,names:=[("at",NameKind.local),("length",NameKind.free),("other",NameKind.free),("side",NameKind.free),("tab",NameKind.free),("cell_at",NameKind.globalImplicit),("changed_at",NameKind.globalImplicit)],isGenerator:=false,isCoroutine:=false }:=⟨rfl,rfl,rfl,by decide +kernel,rfl,fc (.inl rfl) fc0,fc rfl (fc rfl (fc rfl (fc rfl fc0))),by decide +kernel,by decide +kernel⟩;refine⟨bW ns ms k,u3 _ _ (up3 _ _ hp),sdA,by lia,by lia,FnV.dfn (u3 _ _ hfa),λ i=>jA ns cs ms ds k (atD (bW ns ms k) (i:Int)),λ i H1 p1 Q' hi s1 hp1 hq=>?_,λ H4 p q s4 hq hp'=>?_⟩
 ·have hcel1:=hcel.same s1;have tbm:TbAt (minC H1 cl) t ns cs:=iK hcel1 (((iM (T:=TJ) (tb.same s0) up3).same u3).same s1);have tom:TbAt (minC H1 cl) o ms ds:=iK hcel1 (((iM (T:=TJ) (to.same s0) up3).same u3).same s1);have hpm:=cr hcel1 hp1;have gd:=iG sdA (by lia) hi;have al:=iF (bW ns ms k) i;replace hq:∀H2,Same H1 H2->Q' (V.int (jA ns cs ms ds k (atD (bW ns ms k) (i:Int)))) H2:=hq;generalize atD (bW ns ms k) (i:Int)=At at *;have ake:At[k]?=some (At.getD k 0):=by rw[cy,aX (show k < At.length by lia)];rfl
  have ab:=gd.2 k _ _ ake jk;refine tV (k:=5) (vs:=[V.ref p1]) (vcs:=[.ref t,.int k,.ref o,.int (ns.getD k 0)]) lsc o1.1 (λ doc pm ctv us hl=>by match us,hl with | [u],_=>rfl) rfl (s1 _ _ (u3 _ _ hfa)) (s1 _ _ (u3 _ _ hc2)) hcel1 (λ A outer s hr=>(aI (aC dO (aq aD (pv 0) (pv 2)) (pv 4)) (av (ax (cc Y0 42) hr au (ao (pv 1) (pv 0)))) (av (ax (cc Y0 42) hr au (ao (pv 3) (ax (cc Y0 16) hr au (aE (pv 0) (ao (pv 2) (ay eN (aq aD (pv 0) (pv 2)) (pv 4)))))))))) ?_;kpf_say ah ag jE nv;refine⟨_,hpm,_,fJ (by lia),_,rfl,?_⟩;unfold jA at hq;by_cases lt:At.getD k 0 < ns.getD k 0
  ·rw[if_pos lt];rw[if_pos lt] at hq
   have gn:dq ns At:=by
    have:=re (ms:=ns) (w:=ns.getD k 0) (y:=At.getD k 0) gd (by lia) jne nke ab.1 lt
    rwa [show At.set k (At.getD k 0)=At from by rw[cy,aX (show k < At.length by lia)];exact List.set_getElem_self _] at this
   exact⟨ns,cs,tbm,At,hpm,ia hs,by lia,gn,csl,λ G2 s3=>hq _ (iI s3)⟩
  ·rw[if_neg lt];rw[if_neg lt] at hq;have gm:dq ms (At.set k (At.getD k 0 - ns.getD k 0)):=re gd (by lia) (λ j hj=>by rw[← (Ie le).mp ee j hj];exact jne j hj) mke (by lia) (by lia);exact⟨_,hpm,_,fJ (by lia),_,rfl,At,k,rfl,hpm,by lia,by lia,λ G p2 s2 h2=>⟨ms,ds,tom.same s2,_,h2,ia hm,by lia,gm,dsl,λ G2 s3=>hq _ (iI (s2.trans s3))⟩⟩
 ·have hb:=ju fr eq3 s4;have hc4:=hcel.same s4;exact q5 _ p (λ b o n e=>hb _ _ (up2 _ _ n (s0 _ _ e))) (ht2.same hb) ⟨_,_,cr hc4 hp',hb _ _ (up3 _ _ hp),cr hc4 hq⟩
theorem MB(Y0:Cs Z0 57):ca (Cl Z0) 57:=kz2 Z0 Z0.g57 λ f fd F=>by
 have sc:=scq (aH CL) ["step","tab"] ["form"];refine F.ok sc (λ vs H Q E h=>?_) (λ cdv A outer s H vs Q E hr h=>?_)
 ·obtain⟨p,o,d,S,A,Ts,a,mo,rfl,_⟩:=h;rfl
 obtain⟨p,o,d,S,⟨A,C⟩,Ts,a,mo,rfl,hst,ha,ea,ho,gA,hmo,ok,fs,hT,q⟩:=h;refine⟨_,(aN 2 sc.nd (aq aD (pv 0) ae) (aI (aC aR (pv 2) aO) (av (ax (cc Y0 46) hr au (ao (aq aD (pv 0) ae) (pv 1)))) (aI (aC aR (pv 2) aO) (av (ax (cc Y0 51) hr au (ao (pv 1) (aq aD (pv 0) ae)))) (aI (aC aR (pv 2) aO) (av (ax (cc Y0 52) hr au (ao (pv 1) (aq aD (pv 0) ae)))) (aI (aC aR (pv 2) aO) (av (ax (cc Y0 53) hr au (aE (pv 1) (aE (aq aD (pv 0) ae) (aE (aq aD (pv 0) ae) (ao (aq aD (pv 0) ae) (aq aD (pv 0) ae))))))) (aI (aC aR (pv 2) aO) (av (ax (cc Y0 54) hr au (aE (pv 1) (ao (aq aD (pv 0) ae) (aq aD (pv 0) ae))))) (aI (aC aR (pv 2) aO) (av (ax (cc Y0 55) hr au (ao (pv 1) (aq aD (pv 0) ae)))) (aI (aC aR (pv 2) aO) (av (ax (cc Y0 43) hr au (aE (aq aD (pv 0) ae) (ao (pv 1) (aq aD (pv 0) ae))))) (av (ax (cc Y0 44) hr au (aE (aq aD (pv 0) ae) (ao (pv 1) (aq aD (pv 0) ae))))))))))))),?_⟩
 (try dsimp only[bf]);simp only[L2.start,aV,aW,List.replicate,bi,bj,Nat.reduceSub,Nat.reduceAdd,aZ,bh]
 refine hid λ Gz gz=>?_;obtain⟨xs,hp,h0,_,_⟩:=ig hst;refine gz ?_;clear gz Gz;have gA1:bI mo A:=gA.1;have ho:TbAt H o A C:=ho;have fA:=gB gA1 hmo;have sdA:=eR fA;have smA:=oQ fA;have a6:=fA.2.1;have a5:=fA.2.2.2;have sd:=eR (gB fs hmo);have s6:=fs.2.1;have cl:(C.length:Int)=ai A:=gA.2.1;have cb:∀c∈C,inB c:=gA.2.2;have pA:=dR (gQ gA1);have ea1:(Ts.map (·.1))[a]?=some A:=by rw[bA,ea];rfl
 have eg:=cK ea;ktn_end (λ σ G=>G=H/\σ=[some (.ref p),some (.ref o),some (.str (aL (kdN d)))])
 ·ktr_call ah ag;exact⟨_,hp,_,aB (j:=0) h0,hR _ _ ⟨rfl,rfl⟩⟩
 rintro σ0 G0 ⟨rfl,rfl⟩;ktn_end (λ σ G=>G=G0/\¬kdN d=3/\σ=[some (.ref p),some (.ref o),some (.str (aL (kdN d)))])
 ·cell_end ah ag Bj;by_cases c:kdN d=3;rotate_left
  ·rw[if_neg (show ¬aL (kdN d)=Str.ofString "each" from cX 3 (bQ d) (by decide) c)];exact hR _ _ ⟨rfl,c,rfl⟩
  rw[if_pos (show aL (kdN d)=Str.ofString "each" by rw[c];rfl)];obtain⟨w,a',rfl⟩:=inv_at.2.2.1 c;cases ha;obtain⟨ea',hw⟩:=ok;cases ea'.symm.trans ea1;have eF:eU Ts (.each w a)=C.map (fW w):=by show(gT Ts a).2.map (fW w)=_;rw[eg]
  exact⟨_,hst,_,aB (j:=1) rfl,w,rfl,_,_,ho,by lia,hw,λ H1 r s1 tb1=>q _ r (.of s1) (hT.same s1) (by rw[eF];exact tb1)⟩
 rintro σ3 G3 ⟨rfl,c3,rfl⟩;ktn_end (λ σ G=>G=G3/\¬kdN d=6/\σ=[some (.ref p),some (.ref o),some (.str (aL (kdN d)))])
 ·cell_end ah ag Bn;by_cases c:kdN d=6;rotate_left
  ·rw[if_neg (show ¬aL (kdN d)=Str.ofString "turn" from cX 6 (bQ d) (by decide) c)];exact hR _ _ ⟨rfl,c,rfl⟩
  rw[if_pos (show aL (kdN d)=Str.ofString "turn" by rw[c];rfl)];obtain⟨a',os,rfl⟩:=inv_at.2.2.2.2.1 c;cases ha;obtain⟨A',ea',tk,rfl⟩:=ok;cases ea'.symm.trans ea1;obtain⟨b,hp,hb⟩:=hst;have eF:eU Ts (.turn a os)=fN A C (bX A os) (eJ os):=by show fN (gT Ts a).1 (gT Ts a).2 (bX (gT Ts a).1 os) (eJ os)=_;rw[eg]
  exact⟨_,hp,_,aB (j:=2) rfl,b,rfl,_,_,ho,os,hb,smA,by lia,by rw[tk.length_eq,jy];lia,a5,cl,hT _ (by unfold T9;exact aM _ (aM _ (aM _ (aM _ (bF))))),tk,λ H1 r s1 t1 tb1=>by
    obtain⟨m1,T1⟩:=hT.both Z0.nd9 (by unfold T9;exact aM _ (aM _ (aM _ (aM _ (bF))))) s1 t1
    exact q _ r m1 T1 (by rw[eF];exact tb1)⟩
 rintro σ6 G6 ⟨rfl,c6,rfl⟩;ktn_end (λ σ G=>G=G6/\¬kdN d=7/\σ=[some (.ref p),some (.ref o),some (.str (aL (kdN d)))])
 ·cell_end ah ag Bo;by_cases c:kdN d=7;rotate_left
  ·rw[if_neg (show ¬aL (kdN d)=Str.ofString "flip" from cX 7 (bQ d) (by decide) c)];exact hR _ _ ⟨rfl,c,rfl⟩
  rw[if_pos (show aL (kdN d)=Str.ofString "flip" by rw[c];rfl)];obtain⟨a',s,rfl⟩:=inv_at.2.2.2.2.2.1 c;cases ha;obtain⟨ea',no⟩:=ok;cases ea'.symm.trans ea1;have eF:eU Ts (.flip a s)=fN S C S (jB S s.toNat):=by show fN (gT Ts a).1 (gT Ts a).2 (gT Ts a).1 (jB (gT Ts a).1 s.toNat)=_;rw[eg]
  exact⟨_,hst,_,aB (j:=2) rfl,_,_,s,rfl,ho,smA,by lia,a5,cl,hT _ (by unfold T9;exact aM _ (aM _ (aM _ (aM _ (aM _ (bF)))))),no,λ H1 r s1 t1 tb1=>by
    obtain⟨m1,T1⟩:=hT.both Z0.nd9 (by unfold T9;exact aM _ (aM _ (aM _ (aM _ (aM _ (bF)))))) s1 t1
    exact q _ r m1 T1 (by rw[eF];exact tb1)⟩
 rintro σ7 G7 ⟨rfl,c7,rfl⟩;ktn_end (λ σ G=>G=G7/\¬kdN d=8/\σ=[some (.ref p),some (.ref o),some (.str (aL (kdN d)))])
 ·cell_end ah ag Bp;by_cases c:kdN d=8;rotate_left
  ·rw[if_neg (show ¬aL (kdN d)=Str.ofString "cut" from cX 8 (bQ d) (by decide) c)];exact hR _ _ ⟨rfl,c,rfl⟩
  rw[if_pos (show aL (kdN d)=Str.ofString "cut" by rw[c];rfl)];refine hid λ Gz gz=>?_;obtain⟨a',s,f,m,g,rfl⟩:=inv_at.2.2.2.2.2.2.1 c;refine gz ?_;clear gz Gz;cases ha;refine hid λ Gz gz=>?_;obtain⟨A',ea',no,nb,m5,rfl⟩:=ok;refine gz ?_;clear gz Gz;cases ea'.symm.trans ea1;have eF:eU Ts (.cut a s f m g)=fN A C (A.set s.toNat m) (jC s.toNat f g):=by show fN (gT Ts a).1 (gT Ts a).2 ((gT Ts a).1.set s.toNat m) (jC s.toNat f g)=_;rw[eg]
  exact⟨_,hst,_,aB (j:=2) rfl,_,hst,_,aB (j:=3) rfl,_,hst,_,aB (j:=4) rfl,_,hst,_,aB (j:=5) rfl,_,_,s,rfl,f,rfl,m,rfl,g,rfl,ho,smA,by lia,a5,cl,by unfold bad at nb;lia,by lia,hT _ (by unfold T9;exact aM _ (aM _ (aM _ (aM _ (aM _ (aM _ (bF))))))),no,nb,λ H1 r s1 t1 tb1=>by
    obtain⟨m1,T1⟩:=hT.both Z0.nd9 (by unfold T9;exact aM _ (aM _ (aM _ (aM _ (aM _ (aM _ (bF))))))) s1 t1
    exact q _ r m1 T1 (by rw[eF];exact tb1)⟩
 rintro σ8 G8 ⟨rfl,c8,rfl⟩;ktn_end (λ σ G=>G=G8/\¬kdN d=9/\σ=[some (.ref p),some (.ref o),some (.str (aL (kdN d)))])
 ·cell_end ah ag Bq;by_cases c:kdN d=9;rotate_left
  ·rw[if_neg (show ¬aL (kdN d)=Str.ofString "spread" from cX 9 (bQ d) (by decide) c)];exact hR _ _ ⟨rfl,c,rfl⟩
  rw[if_pos (show aL (kdN d)=Str.ofString "spread" by rw[c];rfl)];obtain⟨a',s,m,rfl⟩:=inv_at.2.2.2.2.2.2.2.1 c;cases ha;refine hid λ Gz gz=>?_;obtain⟨A',ea',no,nm,m5,nb,rfl⟩:=ok;refine gz ?_;clear gz Gz;cases ea'.symm.trans ea1;have eF:eU Ts (.spread a s m)=(List.range (ai (ci A s.toNat m)).toNat).map (nj A C s.toNat m):=by show(List.range (ai (ci (gT Ts a).1 s.toNat m)).toNat).map (nj (gT Ts a).1 (gT Ts a).2 s.toNat m)=_;rw[eg]
  exact⟨_,hst,_,aB (j:=2) rfl,_,hst,_,aB (j:=3) rfl,_,_,s,rfl,m,rfl,ho,sdA,by lia,cl,by lia,hT _ (by unfold T9;exact aM _ (aM _ (aM _ (aM _ (aM _ (aM _ (aM _ (bF)))))))),no,nm,nb,λ H1 r s1 t1 tb1=>by
    obtain⟨m1,T1⟩:=hT.both Z0.nd9 (by unfold T9;exact aM _ (aM _ (aM _ (aM _ (aM _ (aM _ (aM _ (bF)))))))) s1 t1
    exact q _ r m1 T1 (by rw[eF];exact tb1)⟩
 rintro σ9 G9 ⟨rfl,c9,rfl⟩;ktn_end (λ σ G=>G=G9/\¬kdN d=10/\σ=[some (.ref p),some (.ref o),some (.str (aL (kdN d)))])
 ·cell_end ah ag Br;by_cases c:kdN d=10;rotate_left
  ·rw[if_neg (show ¬aL (kdN d)=Str.ofString "lay" from cX 10 (bQ d) (by decide) c)];exact hR _ _ ⟨rfl,c,rfl⟩
  rw[if_pos (show aL (kdN d)=Str.ofString "lay" by rw[c];rfl)];obtain⟨a',ms,rfl⟩:=inv_at.2.2.2.2.2.2.2.2.1 c;cases ha;refine hid λ Gz gz=>?_;obtain⟨A',ea',nb,pe,rfl⟩:=ok;refine gz ?_;clear gz Gz;cases ea'.symm.trans ea1;obtain⟨b,hp,hb⟩:=hst;have eF:eU Ts (.lay a S)=C:=by show(gT Ts a).2=_;rw[eg]
  exact⟨_,hp,_,aB (j:=2) rfl,b,rfl,_,_,ho,S,hb,sdA,sd,by lia,nb,pe,λ H1 r s1 tb1=>q _ r (.of s1) (hT.same s1) (by rw[eF];exact tb1)⟩
 rintro σ10 G10 ⟨rfl,c10,rfl⟩;ktn_end (λ σ G=>G=G10/\¬kdN d=13/\σ=[some (.ref p),some (.ref o),some (.str (aL (kdN d)))])
 ·cell_end ah ag Bh;by_cases c:kdN d=13;rotate_left
  ·rw[if_neg (show ¬aL (kdN d)=Str.ofString "fold" from cX 13 (bQ d) (by decide) c)];exact hR _ _ ⟨rfl,c,rfl⟩
  rw[if_pos (show aL (kdN d)=Str.ofString "fold" by rw[c];rfl)];obtain⟨w,a',s,rfl⟩:=inv_at.2.2.2.2.2.2.2.2.2.2.2.1 c;cases ha;refine hid λ Gz gz=>?_;obtain⟨A',ea',hw,no,rfl⟩:=ok;refine gz ?_;clear gz Gz;cases ea'.symm.trans ea1;have eF:eU Ts (.fold w a s)=oS w A C s.toNat:=by show oS w (gT Ts a).1 (gT Ts a).2 s.toNat=_;rw[eg]
  exact⟨_,hst,_,aB (j:=1) rfl,_,hst,_,aB (j:=3) rfl,w,rfl,_,_,s,rfl,ho,smA,by lia,a5,cl,cb,hT _ (by unfold T9;exact bF),hw,no,λ H1 r s1 t1 tb1=>by
    obtain⟨m1,T1⟩:=hT.both Z0.nd9 (by unfold T9;exact bF) s1 t1
    exact q _ r m1 T1 (by rw[eF];exact tb1)⟩
 rintro σ13 G13 ⟨rfl,c13,rfl⟩
 obtain⟨w,s,rfl⟩:∃w s,d=.run w a s:=by
  cases d with
  | run w a' s=>cases ha;exact⟨w,s,rfl⟩
  | each w a'=>exact absurd rfl c3
  | turn=>exact absurd rfl c6
  | flip=>exact absurd rfl c7
  | cut=>exact absurd rfl c8
  | spread=>exact absurd rfl c9
  | lay=>exact absurd rfl c10
  | fold=>exact absurd rfl c13
  | _=>cases ha
 obtain⟨ea',hw,no⟩:=ok;cases ea'.symm.trans ea1;have eF:eU Ts (.run w a s)=kx w S C s.toNat:=by show kx w (gT Ts a).1 (gT Ts a).2 s.toNat=_;rw[eg]
 cell_end ah ag Bi;exact⟨_,hst,_,aB (j:=1) rfl,_,hst,_,aB (j:=3) rfl,w,rfl,_,_,s,rfl,ho,smA,by lia,a5,cl,cb,hw,no,λ H1 r s1 tb1=>q _ r (.of s1) (hT.same s1) (by rw[eF];exact tb1)⟩
theorem MC(Y0:Cs Z0 58):ca (Cl Z0) 58:=kz2 Z0 Z0.g58 λ f fd F=>by
 have sc:=scq (aH CM) ["step","tabs"] ["form","used"];refine F.ok sc (λ vs H Q E h=>?_) (λ cdv A outer s H vs Q E hr h=>?_)
 ·exact el7 vs h λ _ _ _ _ _ _ _ _=>rfl
 refine el7 vs h λ p tl d S Ts ts mo h=>ny h λ hst ni htl tbs gs hmo ok fs hT q=>?_;refine⟨_,(aN 2 sc.nd (aq aD (pv 0) ae) (bB (yx (own:=["number"]) (fv:=["tabs"]) (js:=[1]) sc.nd (i:=3) rfl (by first | exact Or.inl rfl | exact Or.inr rfl) (by first | exact Or.inl rfl | exact Or.inr rfl) rfl (dM (ax (cc Y0 8) hr au (aG (pv 0)))) rfl (by decide) rfl (by decide) (by first | exact λ _ _ h=>h | exact dh rfl | exact dk rfl rfl | exact dn rfl rfl rfl) (dg (by rfl)) rfl (eh (by first | exact⟨rfl,.inl rfl,.inl rfl⟩ | exact⟨rfl,.inl rfl,.inr rfl⟩)) (λ _ _ _ _=>(bR 0 ["number","tabs"])) (λ _ _ _ _=>(aq qD (pv 1) (pv 0)))) (aI (aC aR (pv 2) aO) (av (ax (cc Y0 41) hr au (aG (aq aD (pv 0) ae)))) (aI (aC aR (pv 2) aO) (av (ax (cc Y0 50) hr au (ao (aq aD (pv 0) ae) (aq aD (pv 0) ae)))) (aI (aC aR (pv 2) aO) (av (ax (cc Y0 47) hr au (aE (aq aD (pv 0) ae) (ao (aq bp (pv 3) ae) (aq bp (pv 3) ae))))) (aI (aC aR (pv 2) aO) (av (ax (cc Y0 48) hr au (aE (aq bp (pv 3) ae) (ao (aq bp (pv 3) ae) (aq bp (pv 3) ae))))) (aI (aC aR (pv 2) aO) (av (ax (cc Y0 56) hr au (aE (aq bp (pv 3) ae) (ao (aq bp (pv 3) ae) (aq aD (pv 0) ae))))) (aI (aC aR (pv 2) aO) (av (ax (cc Y0 49) hr au (ao (aq bp (pv 3) ae) (aq bp (pv 3) ae)))) (av (ax (cc Y0 57) hr au (ao (pv 0) (aq bp (pv 3) ae)))))))))))),?_⟩
 (try dsimp only[bf]);simp only[L2.start,aV,aW,List.replicate,bi,bj,Nat.reduceSub,Nat.reduceAdd,aZ,bh]
 refine hid λ Gz gz=>?_;obtain⟨xs,hp,h0,hl,hv⟩:=ig hst;refine gz ?_;clear gz Gz;have sd:=eR (gB fs hmo);have s6:=fs.2.1
 have gm:∀ {a:Nat}{A C:LI},Ts[a]?=some (A,C)->fit A/\(C.length:Int)=ai A/\(∀c∈C,inB c)/\ai A≤512:=λ {a A C} e=>by
  have g:=gs _ (bw e);have g1:bI mo A:=g.1;have f:=gB g1 hmo;exact⟨f,g.2.1,g.2.2,gP (dR (gQ g1)).2 f.2.2.2⟩
 ktn_end (λ σ G=>G=H/\σ=[some (.ref p),some (.ref tl),some (.str (aL (kdN d))),none])
 ·ktr_call ah ag;exact⟨_,hp,_,aB (j:=0) h0,hR _ _ ⟨rfl,rfl⟩⟩
 rintro σ0 G0 ⟨rfl,rfl⟩;ktn_end (λ σ G=>∃(ul:Addr) (us:List Addr),Same G0 G/\G ul=some (.lst (us.map V.ref))/\us.length=(cP d).length/\(∀(i a:Nat) u,(cP d)[i]?=some a->us[i]?=some u->ts[a]?=some u)/\σ=[some (.ref p),some (.ref tl),some (.str (aL (kdN d))),some (.ref ul)])
 ·cell_end ah ag rD;refine⟨p,kdN d,bQ d,rfl,xs,hp,h0,hl,λ G2 t u2 h2=>?_⟩;rw[hv] at h2;have hs2:G2 tl=some (.lst (ts.map V.ref))\/G2 tl=some (.tup (ts.map V.ref)):=htl.imp (λ z=>u2 _ _ z) (λ z=>u2 _ _ z);refine CompT.mk (xs:=nmV (cP d)) (.of h2) (λ i ys σ G=>G=G2/\∃us:List Addr,ys=us.map V.ref/\i≤(cP d).length/\us.length=i/\(∀(j a:Nat) u,(cP d)[j]?=some a->us[j]?=some u->ts[a]?=some u)/\∃y,σ=[y,some (.ref tl)]) ⟨rfl,[],rfl,bc _,rfl,(λ j a u _ e=>nomatch e),_,rfl⟩ (λ i ys σ G _ h=>by rw[h.1];exact .of h2) (λ i x ys σ G e h=>?_) (λ ys σ G h p1 hp1=>?_)
  ·refine hid λ Gz gz=>?_;obtain⟨rfl,us,rfl,hi,ul,ua,y,rfl⟩:=h;obtain⟨a,rfl,ea⟩:=uQ e;refine gz ?_;clear gz Gz;have il:=(bv.mp ea).1;have a3:=uP d;have al1:=qZ ok a (bw ea);rw[aA] at al1;obtain⟨u,eu⟩:∃u,ts[a]?=some u:=⟨_,aX (by rw[tbs.1];exact al1)⟩;refine⟨by rw[aA,ul];exact bD (by lia),?_⟩;ktr_call ah ag;refine⟨_,hs2,_,aB (v:=.ref u) (by rw[bA,eu];rfl),us++[u],by rw[aY];rfl,il,by rw[bu,ul];rfl,λ j a' u' e1 e2=>?_,_,rfl⟩;by_cases c:j < us.length
   ·rw[dw c] at e2;exact ua j a' u' e1 e2
   ·have jl:=(bv.mp e2).1;rw[bu,gh] at jl;have je:j=us.length:=by lia
    subst je;rw[cS (aJ _),dF] at e2;cases e2;rw[ul,ea] at e1;cases e1;exact eu
  ·refine hid λ Gz gz=>?_;obtain⟨rfl,us,rfl,hi,ul,ua,y,rfl⟩:=h;refine gz ?_;clear gz Gz;rw[uR] at ul;exact hR _ _ ⟨p1,us,u2.trans (af hp1 _),ar,ul,ua,rfl⟩
 rintro σ1 G1 hz9;refine hid λ Gz gz=>?_;obtain⟨ul,us,s1,hul,ulen,uat,rfl⟩:=hz9;refine gz ?_;clear gz Gz;have hst:=hst.same s1;have hT1:=hT.same s1;have tb1:=tbs.sm (.of s1)
 have uz:∀ {i a:Nat},(cP d)[i]?=some a->∃u,atI (us.map V.ref) (i:Int)=some (.ref u)/\∀A C,Ts[a]?=some (A,C)->TbAt G1 u A C:=λ {i a} e=>by
  have il:=(bv.mp e).1;have ui:i < us.length:=by rw[ulen];exact il
  refine⟨us[i],aB (by rw[bA,aX ui];rfl),λ A C eA=>?_⟩;have eu:=uat i a _ e (aX ui);obtain⟨T,e1,h1⟩:=tb1.2 a _ eu;rw[eA] at e1;cases e1;exact h1
 ktn_end (λ σ G=>G=G1/\¬kdN d=1/\σ=[some (.ref p),some (.ref tl),some (.str (aL (kdN d))),some (.ref ul)])
 ·cell_end ah ag CD;by_cases c:kdN d=1;rotate_left
  ·rw[if_neg (show ¬aL (kdN d)=Str.ofString "num" from cX 1 (bQ d) (by decide) c)];exact hR _ _ ⟨rfl,c,rfl⟩
  rw[if_pos (show aL (kdN d)=Str.ofString "num" by rw[c];rfl)]
  obtain⟨n,rfl⟩:∃n,d=.num n:=by
   cases d with
   | num n=>exact⟨n,rfl⟩
   | _=>exact absurd c (oO rfl)
  cases ok;exact⟨_,hst,_,aB (j:=1) rfl,n,rfl,λ H1 r s2 tb=>q _ r (.of (s1.trans s2)) (hT1.same s2) tb⟩
 rintro σ_1 G_1 ⟨rfl,c1,rfl⟩;ktn_end (λ σ G=>G=G_1/\¬kdN d=2/\σ=[some (.ref p),some (.ref tl),some (.str (aL (kdN d))),some (.ref ul)])
 ·cell_end ah ag Bm;by_cases c:kdN d=2;rotate_left
  ·rw[if_neg (show ¬aL (kdN d)=Str.ofString "count" from cX 2 (bQ d) (by decide) c)];exact hR _ _ ⟨rfl,c,rfl⟩
  rw[if_pos (show aL (kdN d)=Str.ofString "count" by rw[c];rfl)];refine hid λ Gz gz=>?_;obtain⟨ms,k,rfl⟩:=inv_at.2.1 c;obtain⟨rfl,nb,no⟩:=ok;obtain⟨b,hp,hb⟩:=hst;refine gz ?_;clear gz Gz
  exact⟨_,hp,_,aB (j:=1) rfl,_,hp,_,aB (j:=2) rfl,b,rfl,S,k,rfl,hb,sd,by lia,hT1 _ (by unfold T9;exact aM _ (aM _ (aM _ (bF)))),nb,no,λ H1 r c' s2 tk hc hr=>by
   obtain⟨m1,T1⟩:=hT1.both Z0.nd9 (by unfold T9;exact aM _ (aM _ (aM _ (bF)))) s2 tk
   exact q _ r ((SmT.of s1).trans m1) T1 ⟨b,c',hr,m1.tup hb,hc⟩⟩
 rintro σ_2 G_2 ⟨rfl,c2,rfl⟩;ktn_end (λ σ G=>G=G_2/\¬kdN d=4/\σ=[some (.ref p),some (.ref tl),some (.str (aL (kdN d))),some (.ref ul)])
 ·cell_end ah ag Bk;by_cases c:kdN d=4;rotate_left
  ·rw[if_neg (show ¬aL (kdN d)=Str.ofString "pair" from cX 4 (bQ d) (by decide) c)];exact hR _ _ ⟨rfl,c,rfl⟩
  rw[if_pos (show aL (kdN d)=Str.ofString "pair" by rw[c];rfl)];refine hid λ Gz gz=>?_;obtain⟨w,a,b,rfl⟩:=inv_at.2.2.2.1 c;obtain⟨A,B,ea,eb,hw,po,rfl⟩:=ok;obtain⟨C,e⟩:=cQ ea;obtain⟨C',e'⟩:=cQ eb;obtain⟨u0,e0,t0⟩:=uz (i:=0) rfl;obtain⟨u1,e1,t1⟩:=uz (i:=1) rfl;refine gz ?_;clear gz Gz;have g:=gm e;have g':=gm e';have l1:=g.1.2.1;have l2:=g'.1.2.1;have eF:eU Ts (.pair w a b)=prC w A C B C' (aQ A B):=by show prC w (gT Ts a).1 (gT Ts a).2 (gT Ts b).1 (gT Ts b).2 (aQ (gT Ts a).1 (gT Ts b).1)=_;rw[cK e,cK e']
  exact⟨_,hst,_,aB (j:=1) rfl,_,hul,_,e0,_,hul,_,e1,w,rfl,u0,rfl,u1,rfl,A,C,t0 _ _ e,B,C',t1 _ _ e',eR g.1,eR g'.1,by lia,by lia,g.2.1,g'.2.1,g.2.2.2,g'.2.2.2,g.2.2.1,g'.2.2.1,hT1 _ (by unfold T9;exact aM _ (bF)),hw,po,λ H1 r s2 tk tb=>by
   obtain⟨m1,T1⟩:=hT1.both Z0.nd9 (by unfold T9;exact aM _ (bF)) s2 tk
   exact q _ r ((SmT.of s1).trans m1) T1 (by rw[eF];exact tb)⟩
 rintro σ_4 G_4 ⟨rfl,c4,rfl⟩;ktn_end (λ σ G=>G=G_4/\¬kdN d=5/\σ=[some (.ref p),some (.ref tl),some (.str (aL (kdN d))),some (.ref ul)])
 ·cell_end ah ag Bl;by_cases c:kdN d=5;rotate_left
  ·rw[if_neg (show ¬aL (kdN d)=Str.ofString "pick" from cX 5 (bQ d) (by decide) c)];exact hR _ _ ⟨rfl,c,rfl⟩
  rw[if_pos (show aL (kdN d)=Str.ofString "pick" by rw[c];rfl)]
  obtain⟨a,b,c',rfl⟩:∃a b c',d=.pick a b c':=by
   cases d with
   | pick a b z=>exact⟨a,b,z,rfl⟩
   | _=>exact absurd c (oO rfl)
  refine hid λ Gz gz=>?_;obtain⟨A,B,B2,ea,eb,ec,po,po2,rfl⟩:=ok;obtain⟨C,e⟩:=cQ ea;obtain⟨C',e'⟩:=cQ eb;obtain⟨u0,e0,t0⟩:=uz (i:=0) rfl;obtain⟨u1,e1,t1⟩:=uz (i:=1) rfl;have g:=gm e;have g':=gm e';have l1:=g.1.2.1;have l2:=g'.1.2.1;obtain⟨C2,e2⟩:=cQ ec;obtain⟨u2,e3,t2⟩:=uz (i:=2) rfl;refine gz ?_;clear gz Gz;have g2:=gm e2;have l3:=g2.1.2.1;have eF:eU Ts (.pick a b c')=pkC A C B C' B2 C2 (aQ (aQ A B) B2):=by show pkC (gT Ts a).1 (gT Ts a).2 (gT Ts b).1 (gT Ts b).2 (gT Ts c').1 (gT Ts c').2 (aQ (aQ (gT Ts a).1 (gT Ts b).1) (gT Ts c').1)=_;rw[cK e,cK e',cK e2]
  exact⟨_,hul,_,e0,_,hul,_,e1,_,hul,_,e3,u0,rfl,u1,rfl,u2,rfl,A,C,t0 _ _ e,B,C',t1 _ _ e',B2,C2,t2 _ _ e2,eR g.1,eR g'.1,eR g2.1,by lia,by lia,by lia,g.2.1,g'.2.1,g2.2.1,g.2.2.2,g'.2.2.2,g2.2.2.2,hT1 _ (by unfold T9;exact aM _ (bF)),po,po2,λ H1 r s2 tk tb=>by
   obtain⟨m1,T1⟩:=hT1.both Z0.nd9 (by unfold T9;exact aM _ (bF)) s2 tk
   exact q _ r ((SmT.of s1).trans m1) T1 (by rw[eF];exact tb)⟩
 rintro σ_5 G_5 ⟨rfl,c5,rfl⟩;ktn_end (λ σ G=>G=G_5/\¬kdN d=11/\σ=[some (.ref p),some (.ref tl),some (.str (aL (kdN d))),some (.ref ul)])
 ·cell_end ah ag Bs;by_cases c:kdN d=11;rotate_left
  ·rw[if_neg (show ¬aL (kdN d)=Str.ofString "join" from cX 11 (bQ d) (by decide) c)];exact hR _ _ ⟨rfl,c,rfl⟩
  rw[if_pos (show aL (kdN d)=Str.ofString "join" by rw[c];rfl)];refine hid λ Gz gz=>?_;obtain⟨a,b,s,rfl⟩:=inv_at.2.2.2.2.2.2.2.2.2.1 c;obtain⟨A,B,ea,eb,ab,no,er,nb,rfl⟩:=ok;obtain⟨C,e⟩:=cQ ea;obtain⟨C',e'⟩:=cQ eb;obtain⟨u0,e0,t0⟩:=uz (i:=0) rfl;obtain⟨u1,e1,t1⟩:=uz (i:=1) rfl;refine gz ?_;clear gz Gz;have g:=gm e;have g':=gm e';have l1:=g.1.2.1;have l2:=g'.1.2.1;have eF:eU Ts (.join a b s)=(List.range (ai (bW A B s)).toNat).map λ i:Nat=>jA A C B C' s.toNat (atD (bW A B s) (i:Int)):=by show((List.range (ai (bW (gT Ts a).1 (gT Ts b).1 s)).toNat).map λ i:Nat=>jA (gT Ts a).1 (gT Ts a).2 (gT Ts b).1 (gT Ts b).2 s.toNat (atD (bW (gT Ts a).1 (gT Ts b).1 s) (i:Int)))=_;rw[cK e,cK e']
  exact⟨_,hul,_,e0,_,hul,_,e1,_,hst,_,aB (j:=3) rfl,u0,rfl,u1,rfl,A,C,B,C',s,rfl,t0 _ _ e,t1 _ _ e',oQ g.1,oQ g'.1,by lia,g.2.1,g'.2.1,hT1 _ (by unfold T9;exact aM _ (aM _ (aM _ (aM _ (aM _ (aM _ (aM _ (aM _ (bF))))))))),ab,no,er,nb,λ H1 r s2 tk tb=>by
   obtain⟨m1,T1⟩:=hT1.both Z0.nd9 (by unfold T9;exact aM _ (aM _ (aM _ (aM _ (aM _ (aM _ (aM _ (aM _ (bF))))))))) s2 tk
   exact q _ r ((SmT.of s1).trans m1) T1 (by rw[eF];exact tb)⟩
 rintro σ_11 G_11 ⟨rfl,c11,rfl⟩;ktn_end (λ σ G=>G=G_11/\¬kdN d=12/\σ=[some (.ref p),some (.ref tl),some (.str (aL (kdN d))),some (.ref ul)])
 ·cell_end ah ag Bt;by_cases c:kdN d=12;rotate_left
  ·rw[if_neg (show ¬aL (kdN d)=Str.ofString "fetch" from cX 12 (bQ d) (by decide) c)];exact hR _ _ ⟨rfl,c,rfl⟩
  rw[if_pos (show aL (kdN d)=Str.ofString "fetch" by rw[c];rfl)];refine hid λ Gz gz=>?_;obtain⟨a,b,rfl⟩:=inv_at.2.2.2.2.2.2.2.2.2.2.1 c;obtain⟨n,rr,B,ea,n0,eb,nb,rfl⟩:=ok;obtain⟨C,e⟩:=cQ ea;obtain⟨C',e'⟩:=cQ eb;obtain⟨u0,e0,t0⟩:=uz (i:=0) rfl;obtain⟨u1,e1,t1⟩:=uz (i:=1) rfl;refine gz ?_;clear gz Gz;have g:=gm e;have g':=gm e';have l1:=g.1.2.1;have l2:=g'.1.2.1;have eF:eU Ts (.fetch a b)=(List.range (ai (B++rr)).toNat).map (lG n rr C C'):=by show(List.range (ai ((gT Ts b).1++(gT Ts a).1.tail)).toNat).map (lG ((gT Ts a).1.headD 0) (gT Ts a).1.tail (gT Ts a).2 (gT Ts b).2)=_;rw[cK e,cK e'];rfl
  have l1:(n::rr).length≤6:=g.1.2.1
  exact⟨_,hul,_,e0,_,hul,_,e1,u0,rfl,u1,rfl,n,rr,C,t0 _ _ e,B,C',t1 _ _ e',eR g.1,eR g'.1,cD (Nat.lt_of_succ_le l1) (by decide),by lia,g.2.1,g'.2.1,hT1 _ (by unfold T9;exact aM _ (aM _ (bF))),n0,nb,λ H1 r s2 tk tb=>by
   obtain⟨m1,T1⟩:=hT1.both Z0.nd9 (by unfold T9;exact aM _ (aM _ (bF))) s2 tk
   exact q _ r ((SmT.of s1).trans m1) T1 (by rw[eF];exact tb)⟩
 rintro σ_12 G_12 ⟨rfl,c12,rfl⟩
 have ha:∃a,cP d=[a]:=by
  cases d with
  | inp ms=>exact absurd rfl (ni ms)
  | num=>exact absurd rfl c1
  | count=>exact absurd rfl c2
  | pair=>exact absurd rfl c4
  | pick=>exact absurd rfl c5
  | join=>exact absurd rfl c11
  | fetch=>exact absurd rfl c12
  | _=>exact⟨_,rfl⟩
 obtain⟨a,ha⟩:=ha;have al:=qZ ok a (by rw[ha];exact bL.mpr rfl);rw[aA] at al;have ea:Ts[a]?=some Ts[a]:=aX al;obtain⟨u0,e0,t0⟩:=uz (i:=0) (by rw[ha];rfl);ktr_call ah ag;exact⟨_,hul,_,e0,p,u0,d,S,Ts[a],Ts,a,mo,rfl,hst,ha,ea,t0 _ _ ea,gs _ (bw ea),hmo,ok,fs,hT1,λ H1 r s2 T2 tb=>q _ r ((SmT.of s1).trans s2) T2 tb⟩
theorem MD(Y0:Cs Z0 59):ca (Cl Z0) 59:=kz2 Z0 Z0.g59 λ f fd F=>by
 have sc:=scq (aH CN) ["program","inputs"] ["sides","asked"];refine F.ok sc (λ vs H Q E h=>?_) (λ cdv A outer s H vs Q E hr h=>?_)
 ·obtain⟨r,it,ds,Ss,os,mo,is,Is,rfl,_⟩:=h;rfl
 obtain⟨r,it,ds,Ss,os,mo,is,Is,rfl,⟨st,ot,qs,hr0,hst,sl,hot⟩,gd,hit,tbs,eI,q⟩:=h;refine⟨_,(aN 2 sc.nd (ax (cc Y0 38) hr au (aG (pv 0))) (bB (zq (own:=["step","told"]) sc.nd (i:=3) rfl (by first | exact Or.inl rfl | exact Or.inr rfl) (by first | exact Or.inl rfl | exact Or.inr rfl) rfl (qw (by rfl) Z0.zzip (ao (aq aD (pv 0) ae) (pv 2))) (by decide) (by decide) rfl (by decide) (λ _ _ _ _=>(kR (n:=2) (jK rfl (dX (bR 0 ["step","told"]) (dX (bR 1 ["step","told"]) jJ))))) (λ _ _ _ _=>(pv 1)) (λ _ _ _ _=>(aC aR (aq aD (pv 0) ae) aO))) (aI (aC (yK (yL hr)) (kO (own:=["tab"]) rfl (dM (pv 1)) (by decide) (by decide) rfl (by decide) (λ _ _ _ _=>(bR 0 ["tab"])) (λ _ _ _ _=>(aq aD (pv 0) ae))) (pv 3)) (bx du) (av (pv 2))))),?_⟩
 (try dsimp only[bf]);simp only[L2.start,aV,aW,List.replicate,bi,bj,Nat.reduceSub,Nat.reduceAdd,aZ,bh]
 have d40:=gd.2.2.2.1;have gl:=gd.2.1;have il40:=oV ds;have iL:is.length=(bJ ds).length:=by rw[tbs.1,← eI,aA]
 ktn_end (λ σ G=>∃t ps,Same H G/\G t=some (.tup (ps.map V.ref))/\TpsM G ps Ss/\σ=[some (.ref r),some (.ref it),some (.ref t),none])
 ·cell_end ah ag AT;exact⟨ds,Ss,os,⟨st,ot,qs,hr0,hst,sl,hot⟩,mo,gd,λ G t ps u h1 h2=>hR _ _ ⟨t,ps,u,h1,h2,rfl⟩⟩
 rintro σ1 G1 hz9;refine hid λ Gz gz=>?_;obtain⟨t,ps,s1,h1,h2,rfl⟩:=hz9;refine gz ?_;clear gz Gz;ktn_end (λ σ G=>∃al as,Same G1 G/\G al=some (.lst (as.map V.ref))/\TpsM G as (bJ ds)/\σ=[some (.ref r),some (.ref it),some (.ref t),some (.ref al)])
 ·ktr_call ah ag;refine⟨_,s1 _ _ hr0,_,aB (j:=0) rfl,?_⟩;refine CompZI.mk (xs:=qs.map V.ref) (ys:=ps.map V.ref) ds.length (by rw[aA,aA,sl.1,h2.1,← gl.1,jj]) (.of (s1 _ _ hst)) (.of h1) (λ i zs σ G=>Same G1 G/\i≤ds.length/\∃as:List Addr,zs=as.map V.ref/\TpsM G as (bJ (ds.take i))/\∃y0 y1,σ=[y0,y1]) ⟨Same.refl _,bc _,[],rfl,⟨rfl,λ i p e=>nomatch e⟩,_,_,rfl⟩ (λ i zs σ G hi h=>?_) (λ i x y zs σ G T hi ex ey h hT=>?_) (λ zs σ G h p hp=>?_)
  ·refine hid λ Gz gz=>?_;obtain⟨u,hi',as,rfl,ta,y0,y1,rfl⟩:=h;refine gz ?_;clear gz Gz;have:=oV (ds.take i);rw[be] at this;exact⟨.of (u _ _ (s1 _ _ hst)),.of (u _ _ h1),by rw[aA,ta.1];exact bD (by lia)⟩
  ·refine hid λ Gz gz=>?_;obtain⟨u,hi',as,rfl,ta,y0,y1,rfl⟩:=h;obtain⟨p,rfl,hp⟩:=kz ex;obtain⟨o,rfl,ho⟩:=kz ey;obtain⟨d,ed,hd⟩:=sl.2 i p hp;obtain⟨S,eS,hS⟩:=h2.2 i o ho;obtain⟨xs,hp',h0,_,_⟩:=ig hd;refine gz ?_;clear gz Gz;have v:=u.trans (af hT (.tup [V.ref p,V.ref o]));have ta':=ta.same (af hT (.tup [V.ref p,V.ref o]));ktr_call ah ag;refine⟨_,(s1.trans v) _ _ hp',_,aB (j:=0) h0,rfl,?_⟩;by_cases c:kdN d=0
   ·rw[if_pos (show V.str (aL (kdN d))=V.str "in" by rw[c];rfl)];obtain⟨ms,rfl⟩:=oU c;have ok:=gl.2.2 i _ S ed eS;cases ok.1;exact⟨v,hi,as++[o],by rw[aY];rfl,by rw[iQ ed];exact ta'.snoc (v _ _ hS),_,rfl⟩
   ·rw[if_neg (show ¬V.str (aL (kdN d))=V.str "in" from kw 0 (bQ d) (by decide) c)];exact⟨v,hi,as,rfl,by rw[iQ ed,rq c];simpa using ta',_,rfl⟩
  ·refine hid λ Gz gz=>?_;obtain⟨u,hi',as,rfl,ta,y0,y1,rfl⟩:=h;refine gz ?_;clear gz Gz;rw[cx] at ta;exact hR _ _ ⟨p,as,u.trans (af hp _),ar,ta.same (af hp _),rfl⟩
 rintro σ2 G2 hz9;refine hid λ Gz gz=>?_;obtain⟨al,as,s2,ha,ta,rfl⟩:=hz9;refine gz ?_;clear gz Gz;have t2:=s1.trans s2;have tb2:=tbs.sm (.of t2);ktn_end (λ σ G=>Same G2 G/\σ=[some (.ref r),some (.ref it),some (.ref t),some (.ref al)])
 ·ktr_call ah ag;refine CompT.mk (xs:=is.map V.ref) (.of (t2 _ _ hit)) (λ i zs σ G=>G=G2/\i≤is.length/\∃bs:List Addr,zs=bs.map V.ref/\TpsM G bs ((bJ ds).take i)/\∃y,σ=[y]) ⟨rfl,bc _,[],rfl,⟨rfl,λ i p e=>nomatch e⟩,_,rfl⟩ (λ i zs σ G _ h=>by rw[h.1];exact .of (t2 _ _ hit)) (λ i x zs σ G e h=>?_) (λ zs σ G h p1 hp1=>?_)
  ·refine hid λ Gz gz=>?_;obtain⟨rfl,hi,bs,rfl,tb,y,rfl⟩:=h;obtain⟨p,rfl,hp⟩:=kz e;obtain⟨T,eT,a,c,h1',h2',_⟩:=tb2.2 i p hp;refine gz ?_;clear gz Gz;have il:=(bv.mp hp).1;refine⟨by rw[aA,tb.1,be];exact bD (by lia),?_⟩;ktr_call ah ag;exact⟨_,h1',_,aB (j:=0) rfl,il,bs++[a],by rw[aY];rfl,by rw[cO,← eI,bA,eT,eI];exact tb.snoc h2',_,rfl⟩
  ·refine hid λ Gz gz=>?_;obtain⟨rfl,hi,bs,rfl,tb,y,rfl⟩:=h;refine gz ?_;clear gz Gz;rw[aA,iL,cx] at tb;have v:=af hp1 (.lst (bs.map V.ref));exact⟨⟨_,rfl⟩,Kl (tb.same v) (ta.same v) ar (v _ _ ha),hR _ _ ⟨v,rfl⟩⟩
 rintro σ3 G3 ⟨s3,rfl⟩;ktr_call ah ag;exact q _ t (t2.trans s3)
theorem ME(Y0:Cs Z0 60):ca (Cl Z0) 60:=kz2 Z0 Z0.g60 λ f fd F=>by
 have sc:=scq (aH CO) ["program","inputs"] ["waiting","tabs","step"];refine F.ok sc (λ vs H Q E h=>?_) (λ cdv A outer s H vs Q E hr h=>?_)
 ·obtain⟨r,it,ds,Ss,os,mo,is,Is,rfl,_⟩:=h;rfl
 obtain⟨r,it,ds,Ss,os,mo,is,Is,rfl,⟨st,ot,qs,hr0,hst,sl,hot⟩,gd,hit,tbs,eI,gI,hT,q⟩:=h;refine⟨_,(bB (cB (ax (cc Y0 59) hr au (ao (pv 0) (pv 1)))) (aN 2 sc.nd (cC ((AB (K:=K) rfl)) Z0.zlist s0v (aG (pv 1))) (aN 3 sc.nd (dP bK) (bB (dN dU rfl (dM (aq aD (pv 0) ae)) (dD 4 sc.nd) (bx (cB (gK (pv 3) (iW (aC aR (aq aD (pv 4) ae) aO) (xc sX PySem.F.slot_list_pop PySem.F.type_list_pop Gp (pv 2) (aG ae)) (ax (cc Y0 58) hr au (ao (pv 4) (pv 3)))))))) (av (cC ((oq (K:=K) rfl)) Z0.ztuple cJ (aG (pv 3)))))))),?_⟩
 (try dsimp only[bf]);simp only[L2.start,aV,aW,List.replicate,bi,bj,Nat.reduceSub,Nat.reduceAdd,aZ,bh]
 have d40:=gd.2.2.2.1;have gl:=gd.2.1;have hmo:=gd.1;have il40:=oV ds;have iL:is.length=(bJ ds).length:=by rw[tbs.1,← eI,aA]
 ktn_end (λ σ G=>Same H G/\σ=[some (.ref r),some (.ref it),none,none,none])
 ·ktr_call ah ag;exact⟨r,it,ds,Ss,os,mo,is,Is,rfl,⟨st,ot,qs,hr0,hst,sl,hot⟩,gd,hit,tbs,eI,λ G t u=>hR _ _ ⟨u,rfl⟩⟩
 rintro σ1 G1 ⟨s1,rfl⟩;ktn_end (λ σ G=>∃w,Same H G/\H w=none/\G w=some (.lst (is.map V.ref))/\σ=[some (.ref r),some (.ref it),some (.ref w),none,none])
 ·ktr_call ah ag;exact⟨_,.inr (.of (s1 _ _ hit)),λ l hl=>hR _ _ ⟨l,s1.trans (af hl _),qS s1 hl,ar,rfl⟩⟩
 rintro σ2 G2 hz9;refine hid λ Gz gz=>?_;obtain⟨w,s2,w0,hw,rfl⟩:=hz9;refine gz ?_;clear gz Gz;ktn_end (λ σ G=>∃tl,Same H G/\H tl=none/\tl≠w/\G w=some (.lst (is.map V.ref))/\G tl=some (.lst [])/\σ=[some (.ref r),some (.ref it),some (.ref w),some (.ref tl),none])
 ·ktr_call ah ag;exact⟨bc _,λ l hl=>hR _ _ ⟨l,s2.trans (af hl _),qS s2 hl,(λ z=>by rw[z,hw] at hl;cases hl),af hl _ _ _ hw,ar,rfl⟩⟩
 rintro σ3 G3 hz9;refine hid λ Gz gz=>?_;obtain⟨tl,s3,tl0,ne,hw,htl,rfl⟩:=hz9;refine gz ?_;clear gz Gz;ktn_end (λ σ G=>∃(ts:List Addr) (y:Option V),SmT H G/\TabsL (T9 TD TL TE TC TT TP TU TS TJ) G/\G tl=some (.lst (ts.map V.ref))/\TbsL G ts (bO ds Ss Is ds.length)/\σ=[some (.ref r),some (.ref it),some (.ref w),some (.ref tl),y])
 ·wp_walk using ah,da,eqV,ag;refine⟨_,s3 _ _ hr0,_,aB (j:=0) rfl,?_⟩;obtain⟨J,hJ⟩:∃J:Nat->L2.St->Hp->Prop,J=(λ i σ G=>∃(ts:List Addr) (y:Option V),SmT H G/\TabsL (T9 TD TL TE TC TT TP TU TS TJ) G/\i≤ds.length/\G w=some (.lst ((is.drop (bJ (ds.take i)).length).map V.ref))/\G tl=some (.lst (ts.map V.ref))/\TbsL G ts (bO ds Ss Is i)/\σ=[some (.ref r),some (.ref it),some (.ref w),some (.ref tl),y]):=⟨_,rfl⟩;refine LoopT.mk (xs:=qs.map V.ref) (.of (s3 _ _ hst)) J (by rw[hJ];exact⟨[],_,.of s3,hT.same s3,bc _,hw,htl,⟨rfl,λ i p e=>nomatch e⟩,rfl⟩) (λ i σ G _ h=>by rw[hJ] at h;obtain⟨_,_,s,_⟩:=h;exact .of (s.tup hst)) (λ i x σ G0 e h=>?_) (λ σ G h=>?_);rotate_left
  ·rw[hJ] at h;refine hid λ Gz gz=>?_;obtain⟨ts,y,s,T,hi,h1,h2,h3,rfl⟩:=h;refine gz ?_;clear gz Gz;rw[aA,sl.1] at h3;exact hR _ _ ⟨ts,_,s,T,h2,h3,rfl⟩
  clear hR;rw[hJ] at h;refine hid λ Gz gz=>?_;obtain⟨ts,y,s,T0,hi,h1,h2,h3,rfl⟩:=h;obtain⟨p,rfl,hp⟩:=kz e;obtain⟨d,ed,hd⟩:=(sl.up (lI s)).2 i p hp;refine gz ?_;clear gz Gz;have idl:=(bv.mp ed).1;have il:i < Ss.length:=by rw[← gl.1];exact idl
  have eS:=aX il;generalize Ss[i]=S at eS;have ok:=gl.2.2 i d S ed eS;have fs:=gl.2.1 S (bw eS);refine hid λ Gz gz=>?_;obtain⟨g1,g2⟩:=vh hmo gl eI gI i (fP idl);obtain⟨xs,hp',h0,_,_⟩:=ig hd;refine gz ?_;clear gz Gz;have tsl:ts.length=i:=by rw[h3.1,kA]
  ktr_call ah ag;refine⟨⟨_,h2⟩,_,hp',_,aB (j:=0) h0,rfl,?_⟩;by_cases c:kdN d=0
  ·rw[if_pos (show V.str (aL (kdN d))=V.str "in" by rw[c];rfl)];obtain⟨ms,rfl⟩:=oU c;have a:=Bd ed;rw[← eI,bA] at a;refine hid λ Gz gz=>?_;obtain⟨T,eT,rfl⟩:=kQ.mp a;obtain⟨u,eu,hu⟩:=rk tbs eT;refine gz ?_;clear gz Gz
   have dj:is.drop (bJ (ds.take i)).length=u::is.drop (bJ (ds.take (i+1))).length:=by
    rw[iQ ed,bu];obtain⟨jl,je⟩:=bv.mp eu;rw[List.drop_eq_getElem_cons jl,je];rfl
   rw[dj,aZ] at h1;have h2':upd G0 w (.lst ((is.drop (bJ (ds.take (i+1))).length).map V.ref)) tl=some (.lst (ts.map V.ref)):=by rw[bo ne];exact h2
   have up:=(jz (ys:=(is.drop (bJ (ds.take (i+1))).length).map V.ref) h1).trans (jz (ys:=ts.map V.ref++[V.ref u]) h2');refine⟨.inl ⟨_,.of h1⟩,_,h1,0,by simp[seqIndex?],V.ref u,rfl,_,h2',by rw[aA,tsl];exact bD (by lia),?_⟩;rw[hJ];exact⟨ts++[u],_,vi (vi s w0) tl0,(T0.put h1).put h2',idl,by rw[bo (cY ne),ar];rfl,by rw[ar,aY];rfl,by rw[Bb ed eT];exact(h3.up up).snoc ((hu.up (lI s)).up up),rfl⟩
  ·rw[if_neg (show ¬V.str (aL (kdN d))=V.str "in" from kw 0 (bQ d) (by decide) c)];have ni:∀ms,d≠.inp ms:=λ ms z=>c (by rw[z];rfl);refine⟨p,tl,d,S,_,ts,mo,rfl,hd,ni,.inl h2,h3,g2,hmo,by rw[g1];exact ok,fs,T0,λ H2 t sm T2 tb=>⟨_,sm.lst h2,by rw[aA,tsl];exact bD (by lia),?_⟩⟩;have h2':=sm.lst h2;have up:=jz (ys:=ts.map V.ref++[V.ref t]) h2';rw[hJ];exact⟨ts++[t],_,vi (s.trans sm) tl0,T2.put h2',idl,by rw[bo (cY ne),iQ ed,rq c];simpa using sm.lst h1,by rw[ar,aY];rfl,by rw[Bc ed ni eS];exact(h3.up ((lI sm).trans up)).snoc (tb.up up),rfl⟩
 rintro σ4 G4 hz9;refine hid λ Gz gz=>?_;obtain⟨ts,y,s4,T4,h2,h3,rfl⟩:=hz9;refine gz ?_;clear gz Gz;ktr_call ah ag;exact⟨_,.inl ⟨.of h2,λ t1 ht1=>q _ t1 ts (s4.trans (.of (af ht1 _))) (T4.same (af ht1 _)) ar (h3.sm (.of (af ht1 _)))⟩⟩
theorem MF(Y0:Cs Z0 61):ca (Cl Z0) 61:=kz2 Z0 Z0.g61 λ f fd F=>by
 have sc:=scq (aH CP) ["program","inputs"] ["tabs"];refine F.ok sc (λ vs H Q E h=>?_) (λ cdv A outer s H vs Q E hr h=>?_)
 ·obtain⟨r,it,ds,Ss,os,mo,is,Is,rfl,_⟩:=h;rfl
 obtain⟨r,it,ds,Ss,os,mo,is,Is,rfl,⟨st,ot,qs,hr0,hst,sl,hot⟩,gd,hit,tbs,eI,gI,hT,q⟩:=h;refine⟨_,(aN 2 sc.nd (ax (cc Y0 60) hr au (ao (pv 0) (pv 1))) (av (cC ((oq (K:=K) rfl)) Z0.ztuple cJ (aG (dZ (own:=["out"]) (fv:=["tabs"]) (js:=[2]) rfl (dM (aq aD (pv 0) ae)) rfl (by decide) rfl (by decide) (by first | exact λ _ _ h=>h | exact dh rfl | exact dk rfl rfl | exact dn rfl rfl rfl) (dg (by rfl)) rfl (eh (by first | exact⟨rfl,.inl rfl,.inl rfl⟩ | exact⟨rfl,.inl rfl,.inr rfl⟩)) (λ _ _ _ _=>(bR 0 ["out","tabs"])) (λ _ _ _ _=>(aq aD (pv 1) (pv 0)))))))),?_⟩
 (try dsimp only[bf]);simp only[L2.start,aV,aW,List.replicate,bi,bj,Nat.reduceSub,Nat.reduceAdd,aZ,bh]
 have ob:=gd.2.2.2.2.2.2;have o8:=gd.2.2.2.2.2.1;ktn_end (λ σ G=>∃t ts,SmT H G/\TabsL (T9 TD TL TE TC TT TP TU TS TJ) G/\G t=some (.tup (ts.map V.ref))/\TbsL G ts (bO ds Ss Is ds.length)/\σ=[some (.ref r),some (.ref it),some (.ref t)])
 ·ktr_call ah ag;exact⟨r,it,ds,Ss,os,mo,is,Is,rfl,⟨st,ot,qs,hr0,hst,sl,hot⟩,gd,hit,tbs,eI,gI,hT,λ G t ts u T h1 h2=>hR _ _ ⟨t,ts,u,T,h1,h2,rfl⟩⟩
 rintro σ1 G1 hz9;refine hid λ Gz gz=>?_;obtain⟨t,ts,s1,T1,h1,h2,rfl⟩:=hz9;refine gz ?_;clear gz Gz;ktr_call ah ag;refine⟨_,s1.tup hr0,_,aB (j:=1) rfl,?_⟩;have hot:=s1.tup hot;have tl:ts.length=ds.length:=by rw[h2.1,kA]
 refine CompT.mk (xs:=os.map V.int) (.of hot) (λ i ys σ G=>G=G1/\i≤os.length/\∃as:List Addr,ys=as.map V.ref/\as.length=i/\(∀(k:Nat) (o:Int) (a:Addr),os[k]?=some o->as[k]?=some a->ts[o.toNat]?=some a)/\∃y,σ=[y,some (.ref t)]) ⟨rfl,bc _,[],rfl,rfl,(λ k o a _ e=>nomatch e),_,rfl⟩ (λ i ys σ G _ h=>by rw[h.1];exact .of hot) (λ i x ys σ G e h=>?_) (λ ys σ G h p1 hp1=>?_)
 ·refine hid λ Gz gz=>?_;obtain⟨rfl,hi,as,rfl,al,aa,y,rfl⟩:=h;obtain⟨o,rfl,eo⟩:=dE e;refine gz ?_;clear gz Gz;have il:=(bv.mp eo).1;have oo:=ob o (bw eo);obtain⟨u,eu⟩:∃u,ts[o.toNat]?=some u:=⟨_,aX (by rw[tl];lia)⟩;refine⟨by rw[aA,al];exact bD (by lia),?_⟩;ktr_call ah ag
  have ei:atI (ts.map V.ref) o=some (.ref u):=by
   have z:=aB (xs:=ts.map V.ref) (j:=o.toNat) (v:=.ref u) (by rw[bA,eu];rfl)
   rwa [ie oo.1] at z
  refine⟨_,h1,_,ei,il,as++[u],by rw[aY];rfl,by rw[bu,al];rfl,λ k o' a' e1 e2=>?_,_,rfl⟩;by_cases c:k < as.length
  ·rw[dw c] at e2;exact aa k o' a' e1 e2
  ·have jl:=(bv.mp e2).1;rw[bu,gh] at jl;have je:k=as.length:=by lia
   subst je;rw[cS (aJ _),dF] at e2;cases e2;rw[al,eo] at e1;cases e1;exact eu
 ·refine hid λ Gz gz=>?_;obtain⟨rfl,hi,as,rfl,al,aa,y,rfl⟩:=h;refine gz ?_;clear gz Gz;rw[aP] at al;refine⟨_,rfl,_,.inl ⟨.of ar,λ t1 ht1=>?_⟩⟩;have v:=(af hp1 (.lst (as.map V.ref))).trans (af ht1 (.tup (as.map V.ref)));refine q _ t1 as (s1.trans (.of v)) (T1.same v) ar ⟨al,λ k o a e1 e2=>?_⟩;obtain⟨T,eT,hT'⟩:=h2.2 o.toNat a (aa k o a e1 e2);exact⟨T,eT,hT'.same v⟩
theorem MG(Y0:Cs Z0 62):ca (Cl Z0) 62:=kz1 Z0 Z0.g62 λ f fd F=>by
 have sc:=scq (aH CQ) ["found"] [];refine F.ok sc (λ vs H Q E h=>?_) (λ cdv A outer s H vs Q E hr h=>?_)
 ·exact el1 vs h λ _ _=>rfl
 refine el1 vs h λ n q=>?_;refine⟨_,(av (DH (cq xv Z0.zisinstance nB (ao (pv 0) (lT (v:=.ty "int") (by rfl) Z0.zint boot_int rfl))) (sf (DI (cq xv Z0.zisinstance nB (ao (pv 0) (lT (v:=.ty "bool") (by rfl) Z0.zbool boot_bool rfl))))))),?_⟩
 (try dsimp only[bf]);simp only[L2.start,aV,aW,List.replicate,bi,bj,Nat.reduceSub,Nat.reduceAdd,aZ,bh]
 ktr_call ah ag;exact q
theorem MH(Y0:Cs Z0 63):ca (Cl Z0) 63:=kz2 Z0 Z0.g63 λ f fd F=>by
 have sc:=scq (aH CS) ["script","k"] [];refine F.ok sc (λ vs H Q E h=>?_) (λ cdv A outer s H vs Q E hr h=>?_)
 ·exact el3 vs h λ _ _ _ _=>rfl
 refine el3 vs h λ a ns k h=>an2 h λ hS q=>?_;refine⟨_,(aI (aC dO (pv 1) (bz Z0.zlen (pv 0))) (av (aq pW (pv 0) (pv 1))) (av ae)),?_⟩
 (try dsimp only[bf]);simp only[L2.start,aV,aW,List.replicate,bi,bj,Nat.reduceSub,Nat.reduceAdd,aZ,bh]
 ktr_call ah ag;refine⟨_,.inl hS,?_⟩;rw[aP];unfold ur at q;by_cases c:k < ns.length
 ·rw[if_pos (by lia)];exact⟨_,hS,_,aB (j:=k) (by rw[bA,aX c];rfl),by rw[cy,aX c] at q;exact q⟩
 ·rw[if_neg (by lia)];rw[cy,hZ (by lia)] at q;exact q
theorem MI(Y0:Cs Z0 64):ca (Cl Z0) 64:=kz2 Z0 Z0.g64 λ f fd F=>by
 have sc:=scq (aH CU) ["found","due"] ["k"];refine F.ok sc (λ vs H Q E h=>?_) (λ cdv A outer s H vs Q E hr h=>?_)
 ·exact el3 vs h λ _ _ _ _=>rfl
 refine el3 vs h λ a b ns h=>an4 h λ ha hb h63 q=>?_;refine⟨_,(aI (PW.pt (dH (gC (eW (cq qo Z0.zisinstance nB (ao (pv 0) (lT (v:=.ty "tuple") (by rfl) Z0.ztuple cJ rfl))))) (eK (aC gb (bz Z0.zlen (pv 0)) (bz Z0.zlen (pv 1)))))) (av fZ) (bB (dN dU rfl (gF (by rfl) Z0.zrange (aG (bz Z0.zlen (pv 1)))) (dD 2 sc.nd) (bx (iq (PW.pt (dH (gC (eW (ax (cc Y0 62) hr au (aG (aq aD (pv 0) (pv 2)))))) (eK (aC gb (aq aD (pv 0) (pv 2)) (aq qD (pv 1) (pv 2)))))) (av fZ) iX))) (av fZ))),?_⟩
 (try dsimp only[bf]);simp only[L2.start,aV,aW,List.replicate,bi,bj,Nat.reduceSub,Nat.reduceAdd,aZ,bh]
 ktr_call ah ag;refine⟨_,ha,_,.inr (.of ha),_,hb.imp .of .of,?_⟩;rw[aP,if_neg (by simp)];refine⟨_,hb.imp .of .of,by rw[aP];lia,by rw[aP];lia,?_⟩;rw[aP,Int.toNat_natCast];refine LoopR.mk (λ i σ H'=>H'=H/\∃y,σ=[some (.ref a),some (.ref b),y]) ⟨rfl,_,rfl⟩ (λ i σ H' hi h=>?_) (λ σ H' h=>?_)
 ·obtain⟨h1,y,rfl⟩:=h;subst h1;have e1:=fJ (ns:=ns) hi;kpf_say ah ag vD mK;refine⟨_,ha,_,e1,_,rfl,_,ha,_,e1,_,hb,_,e1,rfl,?_⟩;rw[if_neg (by simp)];exact⟨_,rfl⟩
 ·obtain⟨h1,y,rfl⟩:=h;subst h1;ktr_call ah ag;exact q
theorem MJ(Y0:Cs Z0 65):ca (Cl Z0) 65:=kz1 Z0 Z0.g65 λ f fd F=>by
 have sc:=scq (aH CW) ["sides"] ["size","length"];refine F.ok sc (λ vs H Q E h=>?_) (λ cdv A outer s H vs Q E hr h=>?_)
 ·exact el2 vs h λ _ _ _=>rfl
 refine el2 vs h λ a ns h=>an3 h λ ha sd q=>?_;refine⟨_,(aN 1 sc.nd ae (bB (dN dU rfl (yM (pv 0)) (dD 2 sc.nd) (bx (fI 1 sc.nd (ay fR (pv 1) (pv 2))))) (av (pv 1)))),?_⟩
 (try dsimp only[bf]);simp only[L2.start,aV,aW,List.replicate,bi,bj,Nat.reduceSub,Nat.reduceAdd,aZ,bh]
 ktr_call ah ag
 rcases ha with ha | ha
 ·left;refine LoopL.mk (xs:=ns.map V.int) (.of ha) (λ i σ G=>G=H/\∃y,σ=[some (.ref a),some (.int (ai (ns.take i))),y]) ⟨rfl,_,rfl⟩ (λ i σ G _ h=>by rw[h.1];exact .of ha) (λ i x σ G e h=>?_) (λ σ G h=>?_)
  ·refine hid λ Gz gz=>?_;obtain⟨rfl,y,rfl⟩:=h;obtain⟨m,rfl,hm,b0,b1⟩:=ki sd e;refine gz ?_;clear gz Gz;have e1:ai (ns.take (i+1))=ai (ns.take i) * m:=by rw[cO,hm];exact oD _ _
   cell_end ah ag e1;exact⟨.inr ⟨by lia,by lia⟩,_,rfl⟩
  ·obtain⟨rfl,y,rfl⟩:=h;rw[aP,cx];ktr_call ah ag;exact q
 ·right;refine LoopT.mk (xs:=ns.map V.int) (.of ha) (λ i σ G=>G=H/\∃y,σ=[some (.ref a),some (.int (ai (ns.take i))),y]) ⟨rfl,_,rfl⟩ (λ i σ G _ h=>by rw[h.1];exact .of ha) (λ i x σ G e h=>?_) (λ σ G h=>?_)
  ·refine hid λ Gz gz=>?_;obtain⟨rfl,y,rfl⟩:=h;obtain⟨m,rfl,hm,b0,b1⟩:=ki sd e;refine gz ?_;clear gz Gz;have e1:ai (ns.take (i+1))=ai (ns.take i) * m:=by rw[cO,hm];exact oD _ _
   cell_end ah ag e1;exact⟨.inr ⟨by lia,by lia⟩,_,rfl⟩
  ·obtain⟨rfl,y,rfl⟩:=h;rw[aP,cx];ktr_call ah ag;exact q
theorem MK(Y0:Cs Z0 66):ca (Cl Z0) 66:=kz1 Z0 Z0.g66 λ f fd F=>by
 have sc:=scq (aH CY) ["sides"] [];refine F.ok sc (λ vs H Q E h=>?_) (λ cdv A outer s H vs Q E hr h=>?_)
 ·exact el2 vs h λ _ _ _=>rfl
 refine el2 vs h λ a ns h=>an4 h λ ha sd l5 q=>?_;refine⟨_,(av (ax (cc Y0 65) hr au (aG (kO (own:=["length"]) rfl (dM (pv 0)) (by decide) (by decide) rfl (by decide) (λ _ _ _ _=>(bR 0 ["length"])) (λ _ _ _ _=>(cq (nJ rfl) Z0.zmax lh (ao ae (pv 0)))))))),?_⟩
 (try dsimp only[bf]);simp only[L2.start,aV,aW,List.replicate,bi,bj,Nat.reduceSub,Nat.reduceAdd,aZ,bh]
 cell_end ah ag oX;refine CompT.mk (xs:=ns.map V.int) (.of ha) (λ i ys σ G=>G=H/\ys=((ns.map aF).take i).map V.int/\i≤ns.length/\∃y,σ=[y]) ⟨rfl,rfl,bc _,_,rfl⟩ (λ i ys σ G _ h=>by rw[h.1];exact .of ha) (λ i x ys σ G ex h=>?_) (λ ys σ G h p1 hp1=>?_)
 ·refine hid λ Gz gz=>?_;obtain⟨rfl,rfl,hi,y,rfl⟩:=h;obtain⟨n,rfl,hn,n0,n1⟩:=ki sd ex;refine gz ?_;clear gz Gz;have il:=(bv.mp hn).1;have e1:((ns.map aF).take (i+1)).map V.int=((ns.map aF).take i).map V.int++[V.int (aF n)]:=by rw[cO,bA,hn,aY];rfl
  refine⟨by rw[aA,be,aA];exact bD (by lia),?_⟩;cell_end ah ag (Ag n0);exact⟨e1.symm,il,_,rfl⟩
 ·refine hid λ Gz gz=>?_;obtain⟨rfl,rfl,hi,y,rfl⟩:=h;refine gz ?_;clear gz Gz;rw[aP,fk (by rw[aA];exact aJ _)];exact⟨p1,rfl,_,.inl ar,zx sd,q _ (af hp1 _)⟩
theorem ML(Y0:Cs Z0 67):ca (Cl Z0) 67:=kz1 Z0 Z0.g67 λ f fd F=>by
 have sc:=scq (aH CZ) ["n"] [];refine F.ok sc (λ vs H Q E h=>?_) (λ cdv A outer s H vs Q E hr h=>?_)
 ·obtain⟨n,rfl,_⟩:=h;rfl
 obtain⟨n,rfl,q⟩:=h;refine⟨_,(aI (aC aR (ay cH (pv 0) ae) ae) (av (aq pW (dP (aE (lV lW (ay iZ ae ae)) (aE (ay eN (ay iZ ae ae) ae) (ao (lV lW ae) (ay iZ ae ae))))) (ay cH (ay eY (pv 0) ae) ae))) (av (ay eN (ay cH (ay cE (pv 0) (ay iZ ae ae)) (ay iZ ae ae)) (ay iZ ae ae)))),?_⟩
 (try dsimp only[bf]);simp only[L2.start,aV,aW,List.replicate,bi,bj,Nat.reduceSub,Nat.reduceAdd,aZ,bh]
 ktr_call ah ag;unfold lw at q;by_cases c1:n % 17=5
 ·rw[if_pos c1];rw[if_pos c1] at q;refine⟨smd,λ p hp=>⟨_,.of ar,_,?_,q _ (af hp _)⟩⟩;exact mS (r:=[-9223372036854775808,9223372036854775807,-1,4611686018427387904]) (by lia) (by rw[cy,aX (show _ < 4 by lia)];rfl)
 ·rw[if_neg c1];rw[if_neg c1] at q;exact q _ (Same.refl _)
theorem MM(Y0:Cs Z0 68):ca (Cl Z0) 68:=kz2 Z0 Z0.g68 λ f fd F=>by
 have sc:=scq (aH Da) ["pool","d"] [];refine F.ok sc (λ vs H Q E h=>?_) (λ cdv A outer s H vs Q E hr h=>?_)
 ·exact el3 vs h λ _ _ _ _=>rfl
 refine el3 vs h λ a ks d h=>an3 h λ ha l0 q=>?_;refine⟨_,(aI (aC aR (ay cH (pv 1) ae) ae) (av (aq bp (pv 0) (ay dB (ay eY (pv 1) ae) (bz Z0.zlen (pv 0))))) (av (aq bp (pv 0) (ay eN (ay eN (bz Z0.zlen (pv 0)) ae) (ay dB (ay eY (pv 1) ae) (cq (kJ rfl) Z0.zmin lM (ao ae (bz Z0.zlen (pv 0))))))))),?_⟩
 (try dsimp only[bf]);simp only[L2.start,aV,aW,List.replicate,bi,bj,Nat.reduceSub,Nat.reduceAdd,aZ,bh]
 ktr_call ah ag;have l1:(0:Int) < ks.length:=by lia
 split
 ·refine⟨_,.inl (.of ha),?_⟩;rw[aP];have m0:=fz (d / 3) l1;have m1:=fK (d / 3) l1;exact⟨by lia,_,ha,_,mS m0 (gx (Aj m0 m1)),q _ (oK (Aj m0 m1))⟩
 ·refine⟨_,.inl (.of ha),_,.inl (.of ha),?_⟩;rw[aP];have c3:0 < (if (ks.length:Int) < 3 then (ks.length:Int) else 3)/\(if (ks.length:Int) < 3 then (ks.length:Int) else 3)≤ks.length:=by split<;>lia
  generalize (if (ks.length:Int) < 3 then (ks.length:Int) else 3)=c at *;have m0:=fz (d / 3) c3.1;have m1:=fK (d / 3) c3.1;generalize (d / 3).fmod c=r at *;exact⟨by lia,_,ha,_,mS (i:=(ks.length:Int) - 1 - r) (by lia) (gx (by lia)),q _ (oK (by lia))⟩
theorem MN(Y0:Cs Z0 69):ca (Cl Z0) 69:=kz4 Z0 Z0.g69 λ f fd F=>by
 have sc:=scq (aH Db) ["kind","n","cell","most"] ["made","part","k","free","length"];refine F.ok sc (λ vs H Q E h=>?_) (λ cdv A outer s H vs Q E hr h=>?_)
 ·exact el4 vs h λ _ _ _ _ _=>rfl
 refine el4 vs h λ kd n cell mo h=>an2 h λ hmo q=>?_;refine⟨_,(aI (aC aR (pv 0) ae) (av (aU (ao (aU (ao aO (ax (cc Y0 67) hr au (aG (pv 2))))) (aU bK)))) (aN 4 sc.nd (aU bK) (aN 5 sc.nd (ay eY (pv 1) ae) (bB (dN dU rfl (gF (by rfl) Z0.zrange (aG (ay cH (pv 5) ae))) (dD 6 sc.nd) (aN 5 sc.nd (ay eY (pv 5) ae) (aN 7 sc.nd (ay kP (pv 3) (ax (cc Y0 66) hr au (aG (pv 4)))) (aN 8 sc.nd (cq (kJ rfl) Z0.zmin lM (ao (aq bp (dP (aE ae (aE ae (aE ae (aE ae (aE ae (ao ae ae))))))) (ay cH (pv 5) ae)) (pv 7))) (aI (aC aR (ay cH (pv 5) ae) ae) (bx (fI 8 sc.nd (pv 7))) (bx (fI 4 sc.nd (ay dQ (pv 4) (aU (aG (pv 8))))))))))) (aI (aC aR (pv 0) ae) (av (aU (ao (aU (ao aO (pv 4))) (pv 4)))) (aI (aC (tF hr.units0) (pv 4) (aU bK)) (bx (fI 4 sc.nd (aU (aG (cq (kJ rfl) Z0.zmin lM (ao ae (pv 3))))))) (av (aU (ao (aU (aE aO (ao (pv 4) (ay dB (ay eY (pv 1) ae) (bz Z0.zlen (pv 4)))))) (pv 4)))))))))),?_⟩
 (try dsimp only[bf]);simp only[L2.start,aV,aW,List.replicate,bi,bj,Nat.reduceSub,Nat.reduceAdd,aZ,bh]
 ktn_end (λ σ G=>G=H/\σ=[some (.int kd),some (.int n),some (.int cell),some (.int mo),none,none,none,none,none])
 ·cell_end ah ag vE;split
  ·exact λ G sg=>⟨smd,λ p hp=>⟨bc _,λ p1 hp1=>⟨smd,λ p2 hp2=>q _ p2 (sg.trans ((af hp _).trans ((af hp1 _).trans (af hp2 _)))) λ Ss=>⟨p,p1,.num _,[],ar,af hp2 _ _ _ (af hp1 _ _ _ ar),af hp2 _ _ _ ar,rfl,qX hmo⟩⟩⟩⟩
  ·exact hR _ _ ⟨rfl,rfl⟩
 rintro σ1 G1 ⟨rfl,rfl⟩;ktn_end (λ σ G=>∃p,Same G1 G/\Tp G p []/\σ=[some (.int kd),some (.int n),some (.int cell),some (.int mo),some (.ref p),none,none,none,none])
 ·ktr_call ah ag;exact⟨smd,λ p hp=>hR _ _ ⟨p,af hp _,ar,rfl⟩⟩
 rintro σ2 G2 ⟨p,s2,hp,rfl⟩;ktn_end (λ σ G=>G=G2/\∃pt:Int,σ=jF kd n cell mo p pt [none,none,none])
 ·ktr_call ah ag;exact hR _ _ ⟨rfl,_,rfl⟩
 rintro σ3 G3 ⟨rfl,pt,rfl⟩;ktn_end (λ σ G=>∃(p:Addr) (ms:LI) (pt:Int) (y6 y7 y8:Option V),Same G1 G/\Tp G p ms/\bI mo ms/\ms.length≤4/\σ=jF kd n cell mo p pt [y6,y7,y8])
 ·wp_walk using ah,eqV,ag;refine⟨by lia,by lia,?_⟩;obtain⟨J,hJ⟩:∃J:Nat->L2.St->Hp->Prop,J=(λ i σ G=>∃(p:Addr) (ms:LI) (pt:Int) (y6 y7 y8:Option V),Same G1 G/\Tp G p ms/\bI mo ms/\ms.length=i/\σ=jF kd n cell mo p pt [y6,y7,y8]):=⟨_,rfl⟩;refine LoopR.mk J (by rw[hJ];exact⟨p,[],pt,_,_,_,s2,hp,qX hmo,rfl,rfl⟩) (λ i σ G0 hi h=>?_) (λ σ G h=>?_);rotate_left
  ·rw[hJ] at h;refine hid λ Gz gz=>?_;obtain⟨p,ms,pt',y6,y7,y8,sG,hp,hf,ml,rfl⟩:=h;refine gz ?_;clear gz Gz;exact hR _ _ ⟨p,ms,pt',_,_,_,sG,hp,hf,by lia,rfl⟩
  clear hR;rw[hJ] at h;refine hid λ Gz gz=>?_;obtain⟨p,ms,pt',y6,y7,y8,sG,hp,hf,ml,rfl⟩:=h;refine gz ?_;clear gz Gz;have i4:i≤4:=by lia
  have sdm:bq ms:=λ n hn=>by have:=hf.1 n hn;have:=hmo.2;exact⟨by lia,by lia⟩
  have pb:=hf.2.2;simp only[fE,List.set_cons_succ,List.set_cons_zero];ktn_end (λ σ G=>G=G0/\∃pt:Int,σ=jF kd n cell mo p pt [some (.int (0+(i:Int))),y7,y8])
  ·ktr_call ah ag;exact hR _ _ ⟨rfl,_,rfl⟩
  rintro σ1 G1' ⟨rfl,pt,rfl⟩;ktn_end (λ σ G=>Same G1' G/\σ=jF kd n cell mo p pt [some (.int (0+(i:Int))),some (.int (mo / ai (ms.map aF))),y8])
  ·cell_end ah ag oY;have m2:=hmo.2;refine⟨ms,hp,sdm,by lia,λ G s=>⟨by lia,by lia,by lia,?_⟩⟩;rw[kG _ (by lia)];exact hR _ _ ⟨s,rfl⟩
  rintro σ2 G2' ⟨u2,rfl⟩;have d1:1≤mo / ai (ms.map aF):=div_one pb.1 pb.2;have fs:=λ n=>uJ (n:=n) hf (by lia);generalize mo / ai (ms.map aF)=fr at *;ktn_end (λ σ G=>Same G2' G/\∃x:Int,0≤x/\x≤fr/\σ=jF kd n cell mo p pt [some (.int (0+(i:Int))),some (.int fr),some (.int x)])
  ·ktr_call ah ag;obtain⟨x,hx,x0⟩:=Jf (pt % 7) (by lia) (by lia);exact⟨smd,λ l hl=>⟨_,hx,_,rfl,hR _ _ ⟨af hl _,_,by split<;>lia,by split<;>lia,rfl⟩⟩⟩
  rintro σ3 G3' hz9;refine hid λ Gz gz=>?_;obtain⟨u3,x,x0,x1,rfl⟩:=hz9;refine gz ?_;clear gz Gz;ktn_end (λ σ G=>G=G3'/\∃x:Int,0≤x/\x≤fr/\σ=jF kd n cell mo p pt [some (.int (0+(i:Int))),some (.int fr),some (.int x)])
  ·ktr_call ah ag;split
   ·exact hR _ _ ⟨rfl,_,by lia,kh _,rfl⟩
   ·exact hR _ _ ⟨rfl,_,x0,x1,rfl⟩
  rintro σ4 G4' hz9;refine hid λ Gz gz=>?_;obtain⟨rfl,x,x0,x1,rfl⟩:=hz9;refine gz ?_;clear gz Gz;ktr_call ah ag;have hp4:=(u2.trans u3) _ _ hp;refine⟨smd,λ t ht=>⟨_,af ht _ _ _ hp4,small (by rw[aA];lia),λ r G s hr=>?_⟩⟩;rw[hJ];exact⟨r,ms++[x],_,_,_,_,sG.trans (u2.trans (u3.trans ((af ht _).trans s))),by show _=_;rw[hr,aY];rfl,fs x x0 x1,by rw[bu,ml];rfl,rfl⟩
 rintro σ4 G4 hz9;refine hid λ Gz gz=>?_;obtain⟨p,ms,pt,y6,y7,y8,s4,hp,hf,m4,rfl⟩:=hz9;refine gz ?_;clear gz Gz;ktn_end (λ σ G=>G=G4/\σ=jF kd n cell mo p pt [y6,y7,y8])
 ·ktr_call ah ag;split
  ·exact⟨smd,λ p1 hp1=>⟨smd,λ p2 hp2=>q _ p2 (s4.trans ((af hp1 _).trans (af hp2 _))) λ Ss=>⟨p1,p,.inp ms,ms,ar,⟨p,af hp2 _ _ _ ar,af hp2 _ _ _ (af hp1 _ _ _ hp)⟩,af hp2 _ _ _ (af hp1 _ _ _ hp),⟨rfl,oM (gB hf hmo)⟩,hf⟩⟩⟩
  ·exact hR _ _ ⟨rfl,rfl⟩
 rintro σ5 G5 ⟨rfl,rfl⟩;ktn_end (λ σ G=>∃(p:Addr) (ms:LI),Same G1 G/\Tp G p ms/\bI mo ms/\0 < ms.length/\σ=jF kd n cell mo p pt [y6,y7,y8])
 ·ktr_call ah ag;have m2:=hmo.1;refine⟨bc _,λ p1 hp1=>⟨_,.of (af hp1 _ _ _ hp),_,.of ar,dC _,rfl,?_⟩⟩;rw[show([]:List V)=([]:LI).map V.int from rfl,gv];by_cases c:ms=[]
  ·rw[jT c,if_pos rfl];have x0:0≤(if mo < 3 then mo else 3)/\(if mo < 3 then mo else 3)≤mo:=by split<;>lia
   exact⟨smd,λ p2 hp2=>hR _ _ ⟨p2,[if mo < 3 then mo else 3],s4.trans ((af hp1 _).trans (af hp2 _)),ar,uJ (ns:=[]) (qX hmo) (by decide) x0.1 (by show _≤mo / 1;rw[s1b];exact x0.2),oz _,rfl⟩⟩
  ·rw[fO c,if_neg (by decide)];exact hR _ _ ⟨p,ms,s4.trans (af hp1 _),af hp1 _ _ _ hp,hf,vK.mpr c,rfl⟩
 rintro σ6 G6 hz9;refine hid λ Gz gz=>?_;obtain⟨p,ms,s6,hp,hf,m0,rfl⟩:=hz9;refine gz ?_;clear gz Gz;ktr_call ah ag;refine⟨_,.inr (.of hp),?_⟩;rw[aP];have f0:=fz (n / 15) (show(0:Int) < ms.length by lia);have f1:=fK (n / 15) (show(0:Int) < ms.length by lia);exact⟨by lia,smd,λ p1 hp1=>⟨smd,λ p2 hp2=>q _ p2 (s6.trans ((af hp1 _).trans (af hp2 _))) λ Ss=>⟨p1,p,.count ms ((n / 15).fmod ms.length),ms,ar,⟨p,af hp2 _ _ _ ar,af hp2 _ _ _ (af hp1 _ _ _ hp)⟩,af hp2 _ _ _ (af hp1 _ _ _ hp),⟨rfl,oM (gB hf hmo),λ z=>by unfold off at z;lia⟩,hf⟩⟩⟩
theorem MO(Y0:Cs Z0 70):ca (Cl Z0) 70:=kz2 Z0 Z0.g70 λ f fd F=>by
 have sc:=scq (aH Dd) ["one","other"] ["least"];refine F.ok sc (λ vs H Q E h=>?_) (λ cdv A outer s H vs Q E hr h=>?_)
 ·exact el4 vs h λ _ _ _ _ _=>rfl
 refine el4 vs h λ a b ns ms h=>an3 h λ ha hb q=>?_;refine⟨_,(aN 2 sc.nd (cq (kJ rfl) Z0.zmin lM (ao (bz Z0.zlen (pv 0)) (bz Z0.zlen (pv 1)))) (av (kI (tF hr.units0) (cn cN (pv 0) cu (bY (pv 2))) (cn cN (pv 1) cu (bY (pv 2))) (jO _)))),?_⟩
 (try dsimp only[bf]);simp only[L2.start,aV,aW,List.replicate,bi,bj,Nat.reduceSub,Nat.reduceAdd,aZ,bh]
 ktr_call ah ag;refine⟨_,.inr (.of ha),_,.inr (.of hb),?_⟩;rw[aP,aP];by_cases c:ms.length < ns.length
 ·rw[if_pos (mY.mpr c)];refine⟨_,ha,λ r1 H1 s1 h1=>⟨_,s1 _ _ hb,λ r2 H2 s2 h2=>?_⟩⟩;rw[fV] at h1 h2;refine⟨_,.of (s2 _ _ h1),_,.of h2,dC _,dC _,q _ _ (s1.trans s2) ?_⟩;rw[gv,s0w];exact Jd c
 ·rw[if_neg (λ z=>c (mY.mp z))];refine⟨_,ha,λ r1 H1 s1 h1=>⟨_,s1 _ _ hb,λ r2 H2 s2 h2=>?_⟩⟩;rw[fV] at h1 h2;refine⟨_,.of (s2 _ _ h1),_,.of h2,dC _,dC _,q _ _ (s1.trans s2) ?_⟩;rw[gv,s0w];exact Je c
theorem MP(Y0:Cs Z0 71):ca (Cl Z0) 71:=kz3 Z0 Z0.g71 λ f fd F=>by
 have sc:=scq (aH De) ["kind","d","sides"] ["every","a","fit","b","longer","words","c"];refine F.ok sc (λ vs H Q E h=>?_) (λ cdv A outer s H vs Q E hr h=>?_)
 ·exact el9 vs h λ _ _ _ _ _ _ _ _ _ _=>rfl
 refine el9 vs h λ dl sl kd mo d0 d1 d2 ps Ss h=>an6 h λ hd hs ht n0 hsd q=>?_;rw[JC];refine⟨_,(aN 3 sc.nd (cC (tL rfl) Z0.zlist s0v (aG (cC tK Z0.zrange s0y (aG (bz Z0.zlen (pv 2)))))) (aN 4 sc.nd (ax (cc Y0 68) hr au (ao (pv 3) (aq bp (pv 1) ae))) (aI (aC aR (pv 0) ae) (av (aU (ao (aU (aE aO (ao (aq bp (dP (aE aO (aE aO (ao aO aO)))) (ay cH (aq bp (pv 1) ae) ae)) (pv 4)))) (aq bp (pv 2) (pv 4))))) (bB (mL (own:=["k"]) (fv:=["sides","a"]) (js:=[2,4]) sc.nd (i:=5) rfl (by first | exact Or.inl rfl | exact Or.inr rfl) (by first | exact Or.inl rfl | exact Or.inr rfl) rfl (gE (pv 3)) rfl (by decide) rfl (by decide) (by first | exact λ _ _ h=>h | exact dh rfl | exact dk rfl rfl | exact dn rfl rfl rfl) (dg (by rfl)) rfl (nY (by first | exact⟨rfl,.inl rfl,.inl rfl⟩ | exact⟨rfl,.inl rfl,.inr rfl⟩) (by first | exact⟨rfl,.inl rfl,.inl rfl⟩ | exact⟨rfl,.inl rfl,.inr rfl⟩)) (λ _ _ _ _=>(bR 0 ["k","sides","a"])) (λ _ _ _ _=>(pv 0)) (λ _ _ _ _=>(eW (ax (cc Y0 70) hr au (ao (aq bp (pv 1) (pv 2)) (aq bp (pv 1) (pv 0))))))) (aN 6 sc.nd (ax (cc Y0 68) hr au (ao (pv 5) (aq bp (pv 1) ae))) (aN 7 sc.nd (zl rfl (by rfl) Z0.zmax (by rfl) Z0.zlen (aq bp (pv 2) (pv 4)) (aq bp (pv 2) (pv 6))) (aI (aC aR (pv 0) ae) (aN 8 sc.nd (dP (yq lw12p)) (av (aU (ao (aU (aE aO (aE (aq bp (pv 8) (ay cH (aq bp (pv 1) ae) ae)) (ao (pv 4) (pv 6))))) (pv 7))))) (bB (mL (own:=["k"]) (fv:=["sides","b"]) (js:=[2,6]) sc.nd (i:=5) rfl (by first | exact Or.inl rfl | exact Or.inr rfl) (by first | exact Or.inl rfl | exact Or.inr rfl) rfl (gE (pv 5)) rfl (by decide) rfl (by decide) (by first | exact λ _ _ h=>h | exact dh rfl | exact dk rfl rfl | exact dn rfl rfl rfl) (dg (by rfl)) rfl (nY (by first | exact⟨rfl,.inl rfl,.inl rfl⟩ | exact⟨rfl,.inl rfl,.inr rfl⟩) (by first | exact⟨rfl,.inl rfl,.inl rfl⟩ | exact⟨rfl,.inl rfl,.inr rfl⟩)) (λ _ _ _ _=>(bR 0 ["k","sides","b"])) (λ _ _ _ _=>(pv 0)) (λ _ _ _ _=>(eW (ax (cc Y0 70) hr au (ao (aq bp (pv 1) (pv 2)) (aq bp (pv 1) (pv 0))))))) (aN 9 sc.nd (ax (cc Y0 68) hr au (ao (pv 5) (aq bp (pv 1) ae))) (av (aU (ao (aU (aE aO (aE (pv 4) (ao (pv 6) (pv 9))))) (zl rfl (by rfl) Z0.zmax (by rfl) Z0.zlen (pv 7) (aq bp (pv 2) (pv 9))))))))))))))),?_⟩
 (try dsimp only[bf]);simp only[L2.start,aV,aW,List.replicate,bi,bj,Nat.reduceSub,Nat.reduceAdd,aZ,bh]
 have n4:=hsd.1;ktn_end (λ σ G=>Same H G/\∃ev,G ev=some (.lst ((upL Ss.length).map V.int))/\σ=[some (.int kd),some (.ref dl),some (.ref sl),some (.ref ev),none,none,none,none,none,none])
 ·ktr_call ah ag;exact⟨_,.inl (.of hs),λ r0 hr0=>⟨Ss.length,by rw[aA,ht.1];rfl,by lia,λ l hl=>hR _ _ ⟨(af hr0 _).trans (af hl _),l,ar,rfl⟩⟩⟩
 rintro σ1 G1 ⟨s1,ev,hev,rfl⟩;ktn_end (λ σ G=>G=G1/\∃a:Nat,a < Ss.length/\σ=jG kd dl sl ev a [none,none,none,none,none])
 ·cell_end ah ag lL;refine⟨_,s1 _ _ hd,_,aB (j:=0) rfl,upL Ss.length,d0,rfl,hev,by rw[jy];exact n0,λ k hk=>?_⟩;obtain⟨a,rfl,al⟩:=nc hk;exact hR _ _ ⟨rfl,a,al,rfl⟩
 rintro σ2 G2 hz9;refine hid λ Gz gz=>?_;obtain⟨rfl,a,al,rfl⟩:=hz9;obtain⟨pa,A,ea,eA,hA⟩:=gS (ht.same s1) al;refine gz ?_;clear gz Gz;have fA:=hsd.2 _ (bw eA);ktn_end (λ σ G=>G=G2/\σ=jG kd dl sl ev a [none,none,none,none,none])
 ·ktr_call ah ag;split;rotate_left
  ·exact hR _ _ ⟨rfl,rfl⟩
  obtain⟨w,hw,wm⟩:=uO mV (k:=d2 % 4) (by lia) (by show d2 % 4 < ((4:Nat):Int);lia);refine⟨smd,λ l hl=>⟨_,af hl _ _ _ (s1 _ _ hd),_,aB (j:=2) rfl,_,rfl,_,hw,smd,λ p hp=>⟨_,af hp _ _ _ (af hl _ _ _ (s1 _ _ hs)),_,ea,smd,λ p1 hp1=>?_⟩⟩⟩;exact q _ p1 (s1.trans ((af hl _).trans ((af hp _).trans (af hp1 _)))) ⟨p,pa,.each w a,A,ar,af hp1 _ _ _ ar,af hp1 _ _ _ (af hp _ _ _ (af hl _ _ _ hA)),⟨eA,wm⟩,fA⟩
 rintro σ3 G3 ⟨rfl,rfl⟩;ktn_end (λ σ G=>Same G3 G/\∃(fa:Addr) (ks:LI),G fa=some (.lst (ks.map V.int))/\ks.length≤40/\(∀k,k∈ks ↔ k∈upL Ss.length/\∃B,Ss[k.toNat]?=some B/\bV A B)/\σ=jG kd dl sl ev a [some (.ref fa),none,none,none,none])
 ·ktr_call ah ag;refine uf hev (by rw[jy];lia) (λ k=>∃B,Ss[k.toNat]?=some B/\bV A B) [some (.ref sl),some (.int (a:Int))] rfl (λ x y G Rt Rf hx u ht1 hf1=>?_) (λ ks G p u hp hk kl=>hR _ _ ⟨u.trans (af hp _),p,ks,ar,by rw[jy] at kl;lia,hk,rfl⟩);refine hid λ Gz gz=>?_;obtain⟨j,rfl,jl⟩:=nc hx;obtain⟨pk,B,ek,eB,hB⟩:=gS (ht.same (s1.trans u)) jl;refine gz ?_;clear gz Gz;cell_end ah ag vF;refine⟨_,(s1.trans u) _ _ hs,_,ea,_,(s1.trans u) _ _ hs,_,ek,_,rfl,_,rfl,A,u _ _ hA,B,hB,λ G' b u' hb=>?_⟩;split
  ·exact ht1 _ (u.trans u') ⟨B,eB,hb.mp ‹_›⟩
  ·exact hf1 _ (u.trans u') λ⟨B',e',z⟩=>by cases eB.symm.trans e';exact ‹¬b=true› (hb.mpr z)
 rintro σ4 G4 hz9;refine hid λ Gz gz=>?_;obtain⟨s4,fa,ks,hfa,kl,hk,rfl⟩:=hz9;refine gz ?_;clear gz Gz;have kpos:0 < ks.length:=vL ((hk a).mpr ⟨Jx al,A,eA,As A⟩);ktn_end (λ σ G=>G=G4/\∃(b:Nat) (B:LI) (pb:Addr),(b:Int)∈ks/\b < Ss.length/\Ss[b]?=some B/\bV A B/\atI (ps.map V.ref) (b:Int)=some (.ref pb)/\Tp G pb B/\σ=jG kd dl sl ev a [some (.ref fa),some (.int (b:Int)),none,none,none])
 ·cell_end ah ag lL;refine⟨_,(s1.trans s4) _ _ hd,_,aB (j:=1) rfl,ks,d1,rfl,hfa,kpos,λ k hkm=>?_⟩;refine hid λ Gz gz=>?_;obtain⟨ku,B,eB,pB⟩:=(hk k).mp hkm;obtain⟨b,rfl,bl⟩:=nc ku;obtain⟨pb,B',eb,eB',hB⟩:=gS (ht.same (s1.trans s4)) bl;refine gz ?_;clear gz Gz;cases eB'.symm.trans eB;exact hR _ _ ⟨rfl,b,B,pb,hkm,bl,eB,pB,eb,hB,rfl⟩
 rintro σ5 G5 hz9;refine hid λ Gz gz=>?_;obtain⟨rfl,b,B,pb,bm,bl,eB,pB,eb,hB,rfl⟩:=hz9;refine gz ?_;clear gz Gz;have fB:=hsd.2 _ (bw eB);have s5:=s1.trans s4;have fL:bI mo (aQ A B):=uN fA fB;ktn_end (λ σ G=>G=G5/\∃lo:Addr,Tp G lo (aQ A B)/\σ=jG kd dl sl ev a [some (.ref fa),some (.int (b:Int)),some (.ref lo),none,none])
 ·ktr_call ah ag;refine⟨_,s5 _ _ hs,_,ea,_,s5 _ _ hs,_,eb,pa,rfl,pb,rfl,A.map V.int,s4 _ _ hA,B.map V.int,hB,λ l=>?_,λ l=>?_⟩
  ·rw[aP,aP] at l;exact hR _ _ ⟨rfl,pa,by rw[Au pB l];exact s4 _ _ hA,rfl⟩
  ·rw[aP,aP] at l;exact hR _ _ ⟨rfl,pb,by rw[Av l];exact hB,rfl⟩
 rintro σ6 G6 ⟨rfl,lo,hlo,rfl⟩;ktn_end (λ σ G=>G=G6/\σ=jG kd dl sl ev a [some (.ref fa),some (.int (b:Int)),some (.ref lo),none,none])
 ·wp_walk using ah,da,eqV,ag;split;rotate_left
  ·exact hR _ _ ⟨rfl,rfl⟩
  refine zA (λ σ G=>Same G6 G/\∃wl,G wl=some (.lst (two12.map V.str))/\σ=jG kd dl sl ev a [some (.ref fa),some (.int (b:Int)),some (.ref lo),some (.ref wl),none]) ?_ (λ R1 hR1=>?_);rotate_left
  ·cell_end ah ag yp;exact⟨by rw[Jz];exact smd,λ l hl=>hR1 _ _ ⟨af hl _,l,by rw[ar,Jy],rfl⟩⟩
  rintro σ7 G7 ⟨s7,wl,hwl,rfl⟩;ktr_call ah ag;obtain⟨w,hw,wm⟩:=uO two12 (k:=d2 % 12) (by lia) (by show d2 % 12 < ((12:Nat):Int);lia);refine⟨_,(s5.trans s7) _ _ hd,_,aB (j:=2) rfl,_,rfl,_,hwl,_,hw,smd,λ p hp=>⟨smd,λ p1 hp1=>?_⟩⟩;exact q _ p1 (s5.trans (s7.trans ((af hp _).trans (af hp1 _)))) ⟨p,lo,.pair w a b,aQ A B,ar,af hp1 _ _ _ ar,af hp1 _ _ _ (af hp _ _ _ (s7 _ _ hlo)),⟨A,B,eA,eB,wm,pB,rfl⟩,fL⟩
 rintro σ7 G7 ⟨rfl,rfl⟩;ktn_end (λ σ G=>Same G7 G/\∃(fc:Addr) (ls:LI),G fc=some (.lst (ls.map V.int))/\(∀k,k∈ls ↔ k∈ks/\∃C,Ss[k.toNat]?=some C/\bV B C)/\σ=jG kd dl sl ev a [some (.ref fc),some (.int (b:Int)),some (.ref lo),none,none])
 ·ktr_call ah ag;refine uf hfa (by lia) (λ k=>∃C,Ss[k.toNat]?=some C/\bV B C) [some (.ref sl),some (.int (b:Int))] rfl (λ x y G Rt Rf hx u ht1 hf1=>?_) (λ ls G p u hp hk2 kl2=>hR _ _ ⟨u.trans (af hp _),p,ls,ar,hk2,rfl⟩);refine hid λ Gz gz=>?_;obtain⟨j,rfl,jl⟩:=nc ((hk x).mp hx).1;obtain⟨pk,C,ek,eC,hC⟩:=gS (ht.same (s5.trans u)) jl;refine gz ?_;clear gz Gz;cell_end ah ag vF;refine⟨_,(s5.trans u) _ _ hs,_,eb,_,(s5.trans u) _ _ hs,_,ek,_,rfl,_,rfl,B,u _ _ hB,C,hC,λ G' b u' hb=>?_⟩;split
  ·exact ht1 _ (u.trans u') ⟨C,eC,hb.mp ‹_›⟩
  ·exact hf1 _ (u.trans u') λ⟨C',e',z⟩=>by cases eC.symm.trans e';exact ‹¬b=true› (hb.mpr z)
 rintro σ8 G8 hz9;refine hid λ Gz gz=>?_;obtain⟨s8,fc,ls,hfc,hl,rfl⟩:=hz9;refine gz ?_;clear gz Gz;have lpos:0 < ls.length:=vL ((hl b).mpr ⟨bm,B,eB,As B⟩);ktn_end (λ σ G=>G=G8/\∃(c:Nat) (C:LI) (pc:Addr),Ss[c]?=some C/\bV A C/\bV B C/\atI (ps.map V.ref) (c:Int)=some (.ref pc)/\Tp G pc C/\σ=jG kd dl sl ev a [some (.ref fc),some (.int (b:Int)),some (.ref lo),none,some (.int (c:Int))])
 ·cell_end ah ag lL;refine⟨_,(s5.trans s8) _ _ hd,_,aB (j:=2) rfl,ls,d2,rfl,hfc,lpos,λ k hkm=>?_⟩;refine hid λ Gz gz=>?_;obtain⟨km,C,eC,pC⟩:=(hl k).mp hkm;obtain⟨ku,C2,eC2,pA⟩:=(hk k).mp km;refine gz ?_;clear gz Gz;cases eC.symm.trans eC2;refine hid λ Gz gz=>?_;obtain⟨c,rfl,cl⟩:=nc ku;obtain⟨pc,C',ec,eC',hC⟩:=gS (ht.same (s5.trans s8)) cl;refine gz ?_;clear gz Gz;cases eC'.symm.trans eC;exact hR _ _ ⟨rfl,c,C,pc,eC,pA,pC,ec,hC,rfl⟩
 rintro σ9 G9 hz9;refine hid λ Gz gz=>?_;obtain⟨rfl,c,C,pc,eC,pAC,pBC,ec,hC,rfl⟩:=hz9;refine gz ?_;clear gz Gz;have fC:=hsd.2 _ (bw eC);have p3:=Jw pAC pBC;have s9:=s5.trans s8;ktr_call ah ag;refine⟨smd,λ p hp=>⟨_,af hp _ _ _ (s9 _ _ hs),_,ec,pc,rfl,(aQ A B).map V.int,af hp _ _ _ (s8 _ _ hlo),C.map V.int,af hp _ _ _ hC,λ l=>⟨smd,λ p1 hp1=>?_⟩,λ l=>⟨smd,λ p1 hp1=>?_⟩⟩⟩
 ·rw[aP,aP] at l;exact q _ p1 (s9.trans ((af hp _).trans (af hp1 _))) ⟨p,lo,.pick a b c,aQ (aQ A B) C,ar,af hp1 _ _ _ ar,by rw[Au p3 l];exact af hp1 _ _ _ (af hp _ _ _ (s8 _ _ hlo)),⟨A,B,C,eA,eB,eC,pB,p3,rfl⟩,uN fL fC⟩
 ·rw[aP,aP] at l;exact q _ p1 (s9.trans ((af hp _).trans (af hp1 _))) ⟨p,pc,.pick a b c,aQ (aQ A B) C,ar,af hp1 _ _ _ ar,by rw[Av l];exact af hp1 _ _ _ (af hp _ _ _ hC),⟨A,B,C,eA,eB,eC,pB,p3,rfl⟩,uN fL fC⟩
theorem MQ(Y0:Cs Z0 72):ca (Cl Z0) 72:=kz2 Z0 Z0.g72 λ f fd F=>by
 have sc:=scq (aH Df) ["own","d"] ["size"];refine F.ok sc (λ vs H Q E h=>?_) (λ cdv A outer s H vs Q E hr h=>?_)
 ·exact el4 vs h λ _ _ _ _ _=>rfl
 refine el4 vs h λ a ns d mo h=>an4 h λ ha hf hmo q=>?_;refine⟨_,(aN 2 sc.nd (ax (cc Y0 65) hr au (aG (pv 0))) (aI (aC aR (ay cH (pv 1) ae) ae) (av (aU (aG (pv 2)))) (aI (PW.pt (kE (aC aR (ay cH (pv 1) ae) ae) (kD (aC dO (bz Z0.zlen (pv 0)) ae)))) (av (ay dQ (aU (aG ae)) (pv 0))) (aI (PW.pt (kE (aC aR (ay cH (pv 1) ae) ae) (kD (aC aR (ay cH (pv 2) ae) ae)))) (av (aU (ao (ay eY (pv 2) ae) ae))) (av (Gh rfl (by rfl) (by rfl) Z0.ztuple Z0.zreversed (pv 0))))))),?_⟩
 (try dsimp only[bf]);simp only[L2.start,aV,aW,List.replicate,bi,bj,Nat.reduceSub,Nat.reduceAdd,aZ,bh]
 cell_end ah ag oX;refine⟨ns,.inr ha,uL hf hmo,?_⟩;unfold lC at q;by_cases c1:d % 4=1
 ·rw[if_pos c1] at q ⊢;exact⟨smd,λ p hp=>q _ p (af hp _) ar⟩
 rw[if_neg c1] at q ⊢
 have rest:(∀H' p,Same H H'->Tp H' p (if d % 4=3/\ai ns % 2=0 then [ai ns / 2,2] else ns.reverse)->Q (.ref p) H')->(if d % 4=3 then (if ai ns % 2=0 then 2≤sizeLine/\∀p,H p=none->Q (V.ref p) (upd H p (HO.tup [V.int (ai ns / 2),V.int 2])) else ∃xs,SqT K H a xs/\∀p,H p=none->Q (V.ref p) (upd H p (HO.tup xs.reverse))) else ∃xs,SqT K H a xs/\∀p,H p=none->Q (V.ref p) (upd H p (HO.tup xs.reverse))):=λ q=>by
  by_cases c3:d % 4=3
  ·rw[if_pos c3];by_cases c4:ai ns % 2=0
   ·rw[if_pos ⟨c3,c4⟩] at q;rw[if_pos c4];exact⟨smd,λ p hp=>q _ p (af hp _) ar⟩
   ·rw[if_neg (λ z=>c4 z.2)] at q;rw[if_neg c4];exact⟨_,.of ha,λ p hp=>q _ p (af hp _) (by show _=_;rw[ar,rR])⟩
  ·rw[if_neg (λ z=>c3 z.1)] at q;rw[if_neg c3];exact⟨_,.of ha,λ p hp=>q _ p (af hp _) (by show _=_;rw[ar,rR])⟩
 by_cases c2:d % 4=2
 ·rw[if_pos c2];refine⟨_,.inr (.of ha),?_⟩;rw[aP];by_cases c6:ns.length < 6
  ·rw[if_pos ⟨c2,c6⟩] at q;rw[if_pos (by lia)];exact⟨smd,λ p hp=>⟨_,af hp _ _ _ ha,small (by rw[aA];lia),λ r G s hr=>q _ r ((af hp _).trans s) hr⟩⟩
  ·rw[if_neg (λ z=>c6 z.2)] at q;rw[if_neg (by lia)];exact rest q
 ·rw[if_neg (λ z=>c2 z.1)] at q;rw[if_neg c2];exact rest q
theorem MR(Y0:Cs Z0 73):ca (Cl Z0) 73:=kz5 Z0 Z0.g73 λ f fd F=>by
 have sc:=scq (aH Di) ["kind","d","a","own","most"] ["order","part","k","place","length","side","gap","first","many"];refine F.ok sc (λ vs H Q E h=>?_) (λ cdv A outer s H vs Q E hr h=>?_)
 ·exact Dr vs h λ _ _ _ _ _ _ _ _ _ _ _=>rfl
 refine Dr vs h λ dl o kd mo d0 d1 d2 a A Ss h=>an6 h λ hd ho ea hf hmo q=>?_;refine⟨_,(aI (aC aR (pv 0) ae) (aN 5 sc.nd (dP bK) (aN 6 sc.nd (aq bp (pv 1) ae) (bB (dN dU rfl (gF (by rfl) Z0.zrange (aG (bz Z0.zlen (pv 3)))) (dD 7 sc.nd) (bB (cB (xc sX PySem.F.slot_list_insert PySem.F.type_list_insert GV (pv 5) (ao (ay dB (pv 6) (ay cE (pv 7) ae)) (pv 7)))) (bx (fI 6 sc.nd (ay kP (pv 6) (ay cE (pv 7) ae)))))) (av (aU (ao (aU (aE aO (ao (pv 2) (cC Gn Z0.ztuple cJ (aG (pv 5)))))) (cC fg Z0.ztuple cJ (aG (dZ (own:=["k"]) (fv:=["own"]) (js:=[3]) rfl (gE (pv 5)) rfl (by decide) rfl (by decide) (by first | exact λ _ _ h=>h | exact dh rfl | exact dk rfl rfl | exact dn rfl rfl rfl) (dg (by rfl)) rfl (eh (by first | exact⟨rfl,.inl rfl,.inl rfl⟩ | exact⟨rfl,.inl rfl,.inr rfl⟩)) (λ _ _ _ _=>(bR 0 ["k","own"])) (λ _ _ _ _=>(aq aD (pv 1) (pv 0)))))))))))) (aI (aC aR (pv 0) ae) (av (aU (ao (aU (aE aO (ao (pv 2) (ax (cc Y0 72) hr au (ao (pv 3) (aq bp (pv 1) ae)))))) (ax (cc Y0 72) hr au (ao (pv 3) (aq bp (pv 1) ae)))))) (aI (PW.pt (dH (aC (tF hr.units0) (pv 3) (aU bK)) (eK (PW.pt (kE (aC aR (pv 0) ae) (kD (aC dO (bz Z0.zlen (pv 3)) ae))))))) (aN 8 sc.nd (ay dB (aq bp (pv 1) ae) (ay cE (bz Z0.zlen (pv 3)) ae)) (aN 9 sc.nd (ay cE ae (ay dB (aq bp (pv 1) ae) (cq (kJ rfl) Z0.zmin lM (ao ae (ay kP (pv 4) (ax (cc Y0 66) hr au (aG (pv 3)))))))) (aI (aC aR (ay cH (aq bp (pv 1) ae) ae) ae) (bx (fI 9 sc.nd ae)) (av (aU (ao (aU (aE aO (aE (pv 2) (ao (pv 8) (pv 9))))) (ay dQ (ay dQ (cn cN (pv 3) cu (bY (pv 8))) (aU (aG (pv 9)))) (cn cN (pv 3) (bY (pv 8)) cu)))))))) (aN 10 sc.nd (ay dB (aq bp (pv 1) ae) (bz Z0.zlen (pv 3))) (aI (aC gb (pv 0) ae) (av (aU (ao (aU (aE aO (ao (pv 2) (pv 10)))) (pv 3)))) (aN 11 sc.nd (ay cE ae (ay cH (aq bp (pv 1) ae) ae)) (aN 12 sc.nd (ay dB (ay eY (aq bp (pv 1) ae) ae) (cq (nJ rfl) Z0.zmax lh (ao ae (aq aD (pv 3) (pv 10))))) (aN 13 sc.nd (cq (nJ rfl) Z0.zmax lh (ao ae (ay eN (ay cE (ay kP (ay eN (ay eN (aq aD (pv 3) (pv 10)) ae) (pv 12)) (pv 11)) ae) (ay cH (ay eY (aq bp (pv 1) ae) ae) ae)))) (av (aU (ao (aU (aE aO (aE (pv 2) (aE (pv 10) (aE (pv 12) (ao (pv 13) (pv 11))))))) (ay dQ (ay dQ (cn cN (pv 3) cu (bY (pv 10))) (aU (aG (pv 13)))) (cn cN (pv 3) (bY (ay cE (pv 10) ae)) cu))))))))))))),?_⟩
 (try dsimp only[bf]);simp only[L2.start,aV,aW,List.replicate,bi,bj,Nat.reduceSub,Nat.reduceAdd,aZ,bh]
 have a6:=hf.2.1;have sd:=uL hf hmo;ktn_end (λ σ G=>G=H/\σ=fY kd dl a o mo [none,none,none,none,none,none])
 ·ktr_call ah ag;split;rotate_left
  ·exact hR _ _ ⟨rfl,rfl⟩
  refine⟨bc _,λ l hl=>⟨_,af hl _ _ _ hd,_,aB (j:=2) rfl,_,.inr (.of (af hl _ _ _ ho)),?_⟩⟩;rw[aP];refine⟨by lia,by lia,?_⟩;rw[Int.toNat_natCast];obtain⟨J,hJ⟩:∃J:Nat->L2.St->Hp->Prop,J=(λ i σ G=>∃(os:LI) (pt:V) (y:Option V),Same H G/\G l=some (.lst (os.map V.int))/\os.Perm (upL i)/\(∃n:Int,pt=.int n)/\σ=[some (.int kd),some (.ref dl),some (.int (a:Int)),some (.ref o),some (.int mo),some (.ref l),some pt,y,none,none,none,none,none,none]):=⟨_,rfl⟩;refine LoopR.mk J (by rw[hJ];exact⟨[],_,_,af hl _,ar,List.Perm.refl _,⟨_,rfl⟩,rfl⟩) (λ i σ G hi h=>?_) (λ σ G h=>?_)
  ·rw[hJ] at h;refine hid λ Gz gz=>?_;obtain⟨os,pt,y,sG,hos,pm,⟨n,rfl⟩,rfl⟩:=h;refine gz ?_;clear gz Gz;have ol:os.length=i:=by rw[pm.length_eq,jy]
   kpf_say ah ag ah mK;have f0:=fz n (show(0:Int) < (i:Int)+1 by lia);have f1:=fK n (show(0:Int) < (i:Int)+1 by lia);refine⟨.inl ⟨_,.of hos⟩,by lia,_,hos,f0,by rw[aP,ol];lia,by rw[aA];exact bD (by lia),by lia,by lia,by lia,?_⟩;rw[hJ];obtain⟨j,hj⟩:∃j:Nat,n.fmod ((i:Int)+1)=j:=⟨_,(ie f0).symm⟩;rw[hj,Int.toNat_natCast];exact⟨os.take j++(i:Int)::os.drop j,_,_,iN sG hl,by rw[ar,aY,aZ,jr,qO],Jn pm,⟨_,rfl⟩,rfl⟩
  ·rw[hJ] at h;refine hid λ Gz gz=>?_;obtain⟨os,pt,y,sG,hos,pm,⟨n,rfl⟩,rfl⟩:=h;refine gz ?_;clear gz Gz;have ol:os.length=A.length:=by rw[pm.length_eq,jy]
   have om:∀z∈os,0≤z/\z < (A.length:Int):=λ z hz=>up_mem.mp (pm.subset hz);ktr_call ah ag;refine⟨_,.of hos,λ t fo ht fd=>⟨smd,λ p hp=>?_⟩⟩;have u:=(af ht (.frz fo (.tup (os.map V.int)))).trans (af hp (.tup [V.str "turn",V.int (a:Int),V.ref t]));have hos2:=u _ _ hos;have ho2:=(sG.trans u) _ _ ho;have hp2:upd (upd G t (.frz fo (.tup (os.map V.int)))) p (.tup [V.str "turn",V.int (a:Int),V.ref t]) p=some (.tup [V.str "turn",V.int (a:Int),V.ref t]):=ar;have ht2:upd (upd G t (.frz fo (.tup (os.map V.int)))) p (.tup [V.str "turn",V.int (a:Int),V.ref t]) t=some (.frz fo (.tup (os.map V.int))):=af hp _ _ _ ar;generalize upd (upd G t (.frz fo (.tup (os.map V.int)))) p (.tup [V.str "turn",V.int (a:Int),V.ref t])=G3 at *;refine CompL.mk (xs:=os.map V.int) (.of hos2) (λ i ys σ G'=>G'=G3/\i≤os.length/\ys=(bX A (os.take i)).map V.int/\∃y,σ=[y,some (.ref o)]) ⟨rfl,bc _,rfl,_,rfl⟩ (λ i ys σ G' _ h=>by rw[h.1];exact .of hos2) (λ i x ys σ G' e h=>?_) (λ ys σ G' h p1 hp1=>?_)
   ·refine hid λ Gz gz=>?_;obtain⟨rfl,hi,rfl,y,rfl⟩:=h;obtain⟨z,rfl,hz⟩:=dE e;refine gz ?_;clear gz Gz;have il:=(bv.mp hz).1;have zb:=om z (bw hz)
    have e1:(bX A (os.take (i+1))).map V.int=(bX A (os.take i)).map V.int++[V.int (A.getD z.toNat 0)]:=by
     unfold bX;rw[cO,hz,aY,aY];rfl
    refine⟨by unfold bX;rw[aA,aA,be];exact bD (by lia),?_⟩;cell_end ah ag e1;exact⟨_,ho2,_,Ae zb.1 zb.2,il,rfl,_,rfl⟩
   ·refine hid λ Gz gz=>?_;obtain⟨rfl,hi,rfl,y,rfl⟩:=h;refine gz ?_;clear gz Gz;rw[aP,cx];exact⟨p1,rfl,_,.inl ⟨.of ar,λ l2 hl2=>⟨smd,λ p4 hp4=>q _ p4 (sG.trans (u.trans ((af hp1 _).trans ((af hl2 _).trans (af hp4 _))))) ⟨p,l2,.turn a os,bX A os,ar,⟨t,af hp4 _ _ _ (af hl2 _ _ _ (af hp1 _ _ _ hp2)),⟨fo,af hp4 _ _ _ (af hl2 _ _ _ (af hp1 _ _ _ ht2)),fd⟩⟩,af hp4 _ _ _ ar,⟨A,ea,pm,rfl⟩,Jo hf pm⟩⟩⟩⟩
 rintro σ1 G1 ⟨rfl,rfl⟩;ktn_end (λ σ G=>G=G1/\σ=fY kd dl a o mo [none,none,none,none,none,none])
 ·cell_end ah ag Dh;split;rotate_left
  ·exact hR _ _ ⟨rfl,rfl⟩
  have lo:=Jl (d:=d2) hf hmo;refine⟨_,hd,_,aB (j:=2) rfl,A,d2,rfl,ho,mo,hf,hmo,λ G p s hp=>⟨smd,λ p1 hp1=>?_⟩⟩;have u:=s.trans (af hp1 (.tup [V.str "lay",V.int (a:Int),V.ref p]));exact⟨_,u _ _ hd,_,aB (j:=2) rfl,A,d2,rfl,u _ _ ho,mo,hf,hmo,λ G2 p2 s2 hp2=>⟨smd,λ p3 hp3=>q _ p3 (u.trans (s2.trans (af hp3 _))) ⟨p1,p2,.lay a (lC A d2),lC A d2,ar,⟨p,af hp3 _ _ _ (s2 _ _ ar),af hp3 _ _ _ (s2 _ _ (af hp1 _ _ _ hp))⟩,af hp3 _ _ _ hp2,⟨A,ea,oM (gB lo.1 hmo),lo.2.symm,rfl⟩,lo.1⟩⟩⟩
 rintro σ2 G2 ⟨rfl,rfl⟩;ktn_end (λ σ G=>Same G2 G/\0 < A.length/\σ=fY kd dl a o mo [none,none,none,none,none,none])
 ·wp_walk using ah,da,eqV,ag;refine⟨bc _,λ p0 hp0=>⟨_,.of (af hp0 _ _ _ ho),_,.of ar,dC _,rfl,?_⟩⟩;rw[show([]:List V)=([]:LI).map V.int from rfl,gv];have u0:=af hp0 (.tup (List.map V.int []));have hd0:=u0 _ _ hd;have ho0:=u0 _ _ ho;generalize upd G2 p0 (.tup (List.map V.int []))=G0 at *;have pb:=hf.2.2;have m2:=hmo.2;by_cases c:A=[]
  ·rw[jT c,if_pos rfl];have l6:A.length < 6:=by rw[c];decide
   ktn_end (λ σ G=>G=G0/\∃k:Nat,k≤A.length/\σ=fY kd dl a o mo [some (.int (k:Int)),none,none,none,none,none])
   ·ktr_call ah ag;refine⟨_,hd0,_,aB (j:=1) rfl,_,.inr (.of ho0),_,rfl,?_⟩;rw[aP];have f0:=fz d1 (show(0:Int) < (A.length:Int)+1 by lia);have f1:=fK d1 (show(0:Int) < (A.length:Int)+1 by lia);obtain⟨k,hk⟩:∃k:Nat,d1.fmod ((A.length:Int)+1)=k:=⟨_,(ie f0).symm⟩;rw[hk] at f1 ⊢;exact⟨by lia,hR _ _ ⟨rfl,k,by lia,rfl⟩⟩
   rintro σ4 G4 ⟨rfl,k,kl,rfl⟩;ktn_end (λ σ G=>Same G4 G/\∃x:Int,0≤x/\x≤mo / ai (A.map aF)/\σ=fY kd dl a o mo [some (.int (k:Int)),some (.int x),none,none,none,none])
   ·cell_end ah ag oY;refine⟨_,hd0,_,aB (j:=2) rfl,A,ho0,sd,by lia,λ G sg=>⟨by lia,by lia,by lia,_,rfl,?_⟩⟩;rw[kG _ (by lia)];have dv:=div_one pb.1 pb.2;generalize mo / ai (A.map aF)=fr at *;have c4:0 < (if fr < 4 then fr else 4)/\(if fr < 4 then fr else 4)≤fr:=by split<;>lia
    generalize (if fr < 4 then fr else 4)=c4' at *;have f0:=fz d2 c4.1;have f1:=fK d2 c4.1;exact⟨by lia,hR _ _ ⟨sg,_,by lia,by lia,rfl⟩⟩
   rintro σ5 G5 hz9;refine hid λ Gz gz=>?_;obtain⟨u5,x,x0,x1,rfl⟩:=hz9;refine gz ?_;clear gz Gz;ktn_end (λ σ G=>G=G5/\∃x:Int,0≤x/\x≤mo / ai (A.map aF)/\σ=fY kd dl a o mo [some (.int (k:Int)),some (.int x),none,none,none,none])
   ·ktr_call ah ag;refine⟨_,u5 _ _ hd0,_,aB (j:=2) rfl,_,rfl,?_⟩;split
    ·exact hR _ _ ⟨rfl,0,by decide,gP x0 x1,rfl⟩
    ·exact hR _ _ ⟨rfl,x,x0,x1,rfl⟩
   rintro σ6 G6 hz9;refine hid λ Gz gz=>?_;obtain⟨rfl,x,x0,x1,rfl⟩:=hz9;refine gz ?_;clear gz Gz;ktr_call ah ag;have ho6:=u5 _ _ ho0;have xm:x≤mo:=gP x1 (qY _ (by have:=hmo.1;lia));have fi:=Ap (k:=k) hf l6 x0 x1;refine⟨smd,λ p hp=>⟨_,af hp _ _ _ ho6,λ r1 H1 s1 h1=>⟨smd,λ p1 hp1=>?_⟩⟩⟩;rw[fV] at h1;refine⟨_,af hp1 _ _ _ h1,small (by simp only[aA,be];lia),λ r2 H2 s2 h2=>?_⟩;have t2:=(af hp (.tup [V.str "spread",V.int (a:Int),V.int (k:Int),V.int x])).trans (s1.trans ((af hp1 (.tup [V.int x])).trans s2));refine⟨_,t2 _ _ ho6,λ r3 H3 s3 h3=>?_⟩;rw[iE] at h3;refine⟨_,s3 _ _ h2,_,h3,small (by simp only[bu,aA,be,fF,aV,aW];lia),λ r4 H4 s4 h4=>⟨smd,λ p5 hp5=>?_⟩⟩;refine q _ p5 (u0.trans (u5.trans (t2.trans (s3.trans (s4.trans (af hp5 _)))))) ⟨p,r4,.spread a k x,ci A k x,ar,?_,?_,⟨A,ea,by unfold lB;lia,by lia,by lia,oM (gB fi hmo),rfl⟩,fi⟩
   ·exact(s3.trans (s4.trans (af hp5 _))) _ _ ((s1.trans ((af hp1 _).trans s2)) _ _ ar)
   ·show _=_;rw[af hp5 _ _ _ h4];unfold ci;rw[aY,aY];rfl
  ·rw[fO c,if_neg (by decide)];have done:=hR _ _ ⟨u0,vK.mpr c,rfl⟩;split;rotate_left
   ·exact done
   refine⟨_,.inr (.of ho0),?_⟩;rw[aP];split;rotate_left
   ·exact done
   have l6:A.length < 6:=by lia
   ktn_end (λ σ G=>G=G0/\∃k:Nat,k≤A.length/\σ=fY kd dl a o mo [some (.int (k:Int)),none,none,none,none,none])
   ·ktr_call ah ag;refine⟨_,hd0,_,aB (j:=1) rfl,_,.inr (.of ho0),_,rfl,?_⟩;rw[aP];have f0:=fz d1 (show(0:Int) < (A.length:Int)+1 by lia);have f1:=fK d1 (show(0:Int) < (A.length:Int)+1 by lia);obtain⟨k,hk⟩:∃k:Nat,d1.fmod ((A.length:Int)+1)=k:=⟨_,(ie f0).symm⟩;rw[hk] at f1 ⊢;exact⟨by lia,hR _ _ ⟨rfl,k,by lia,rfl⟩⟩
   rintro σ4 G4 ⟨rfl,k,kl,rfl⟩;ktn_end (λ σ G=>Same G4 G/\∃x:Int,0≤x/\x≤mo / ai (A.map aF)/\σ=fY kd dl a o mo [some (.int (k:Int)),some (.int x),none,none,none,none])
   ·cell_end ah ag oY;refine⟨_,hd0,_,aB (j:=2) rfl,A,ho0,sd,by lia,λ G sg=>⟨by lia,by lia,by lia,_,rfl,?_⟩⟩;rw[kG _ (by lia)];have dv:=div_one pb.1 pb.2;generalize mo / ai (A.map aF)=fr at *;have c4:0 < (if fr < 4 then fr else 4)/\(if fr < 4 then fr else 4)≤fr:=by split<;>lia
    generalize (if fr < 4 then fr else 4)=c4' at *;have f0:=fz d2 c4.1;have f1:=fK d2 c4.1;exact⟨by lia,hR _ _ ⟨sg,_,by lia,by lia,rfl⟩⟩
   rintro σ5 G5 hz9;refine hid λ Gz gz=>?_;obtain⟨u5,x,x0,x1,rfl⟩:=hz9;refine gz ?_;clear gz Gz;ktn_end (λ σ G=>G=G5/\∃x:Int,0≤x/\x≤mo / ai (A.map aF)/\σ=fY kd dl a o mo [some (.int (k:Int)),some (.int x),none,none,none,none])
   ·ktr_call ah ag;refine⟨_,u5 _ _ hd0,_,aB (j:=2) rfl,_,rfl,?_⟩;split
    ·exact hR _ _ ⟨rfl,0,by decide,gP x0 x1,rfl⟩
    ·exact hR _ _ ⟨rfl,x,x0,x1,rfl⟩
   rintro σ6 G6 hz9;refine hid λ Gz gz=>?_;obtain⟨rfl,x,x0,x1,rfl⟩:=hz9;refine gz ?_;clear gz Gz;ktr_call ah ag;have ho6:=u5 _ _ ho0;have xm:x≤mo:=gP x1 (qY _ (by have:=hmo.1;lia));have fi:=Ap (k:=k) hf l6 x0 x1;refine⟨smd,λ p hp=>⟨_,af hp _ _ _ ho6,λ r1 H1 s1 h1=>⟨smd,λ p1 hp1=>?_⟩⟩⟩;rw[fV] at h1;refine⟨_,af hp1 _ _ _ h1,small (by simp only[aA,be];lia),λ r2 H2 s2 h2=>?_⟩;have t2:=(af hp (.tup [V.str "spread",V.int (a:Int),V.int (k:Int),V.int x])).trans (s1.trans ((af hp1 (.tup [V.int x])).trans s2));refine⟨_,t2 _ _ ho6,λ r3 H3 s3 h3=>?_⟩;rw[iE] at h3;refine⟨_,s3 _ _ h2,_,h3,small (by simp only[bu,aA,be,fF,aV,aW];lia),λ r4 H4 s4 h4=>⟨smd,λ p5 hp5=>?_⟩⟩;refine q _ p5 (u0.trans (u5.trans (t2.trans (s3.trans (s4.trans (af hp5 _)))))) ⟨p,r4,.spread a k x,ci A k x,ar,?_,?_,⟨A,ea,by unfold lB;lia,by lia,by lia,oM (gB fi hmo),rfl⟩,fi⟩
   ·exact(s3.trans (s4.trans (af hp5 _))) _ _ ((s1.trans ((af hp1 _).trans s2)) _ _ ar)
   ·show _=_;rw[af hp5 _ _ _ h4];unfold ci;rw[aY,aY];rfl
 rintro σ3 G3 ⟨s3,a0,rfl⟩;have hd3:=s3 _ _ hd;have ho3:=s3 _ _ ho;ktn_end (λ σ G=>G=G3/\∃k:Nat,k < A.length/\σ=fY kd dl a o mo [none,none,some (.int (k:Int)),none,none,none])
 ·ktr_call ah ag;refine⟨_,hd3,_,aB (j:=1) rfl,_,.inr (.of ho3),_,rfl,?_⟩;rw[aP];have f0:=fz d1 (show(0:Int) < (A.length:Int) by lia);have f1:=fK d1 (show(0:Int) < (A.length:Int) by lia);obtain⟨k,hk⟩:∃k:Nat,d1.fmod (A.length:Int)=k:=⟨_,(ie f0).symm⟩;rw[hk] at f1 ⊢;exact⟨by lia,hR _ _ ⟨rfl,k,by lia,rfl⟩⟩
 rintro σ4 G4 ⟨rfl,k,kl,rfl⟩;ktn_end (λ σ G=>G=G4/\σ=fY kd dl a o mo [none,none,some (.int (k:Int)),none,none,none])
 ·ktr_call ah ag;split;rotate_left
  ·exact hR _ _ ⟨rfl,rfl⟩
  exact⟨smd,λ p hp=>⟨smd,λ p1 hp1=>q _ p1 (s3.trans ((af hp _).trans (af hp1 _))) ⟨p,o,.flip a k,A,ar,af hp1 _ _ _ ar,af hp1 _ _ _ (af hp _ _ _ ho3),⟨ea,by unfold off;lia⟩,hf⟩⟩⟩
 rintro σ5 G5 ⟨rfl,rfl⟩;ktn_end (λ σ G=>G=G5/\∃g:Int,1≤g/\g≤3/\σ=fY kd dl a o mo [none,none,some (.int (k:Int)),some (.int g),none,none])
 ·ktr_call ah ag;exact⟨_,hd3,_,aB (j:=2) rfl,_,rfl,hR _ _ ⟨rfl,_,by lia,by lia,rfl⟩⟩
 rintro σ6 G6 hz9;refine hid λ Gz gz=>?_;obtain⟨rfl,g,g1,g3,rfl⟩:=hz9;refine gz ?_;clear gz Gz;have an:=(hf.1 _ (oK kl)).1;ktn_end (λ σ G=>G=G6/\∃f:Int,0≤f/\σ=fY kd dl a o mo [none,none,some (.int (k:Int)),some (.int g),some (.int f),none])
 ·ktr_call ah ag;have o1:=kr an;have f0:=fz (d2 / 3) (show 0 < aF (A.getD k 0) by lia);refine⟨_,hd3,_,aB (j:=2) rfl,_,rfl,_,ho3,_,oJ kl,_,rfl,?_⟩;rw[Ag an];exact⟨by lia,hR _ _ ⟨rfl,_,f0,rfl⟩⟩
 rintro σ7 G7 ⟨rfl,f,f0,rfl⟩;ktn_end (λ σ G=>G=G7/\∃m:Int,0≤m/\m≤A.getD k 0/\¬(0 < m/\A.getD k 0≤f+(m - 1) * g)/\σ=fY kd dl a o mo [none,none,some (.int (k:Int)),some (.int g),some (.int f),some (.int m)])
 ·ktr_call ah ag;have cm:=Jv (e:=d2 / 300 % 3) an f0 g1 (by lia);exact⟨_,ho3,_,oJ kl,_,rfl,by lia,by lia,by lia,_,hd3,_,aB (j:=2) rfl,_,rfl,hR _ _ ⟨rfl,_,cm.1,cm.2.1,cm.2.2,rfl⟩⟩
 rintro σ8 G8 hz9;refine hid λ Gz gz=>?_;obtain⟨rfl,m,m0,m1,m2,rfl⟩:=hz9;refine gz ?_;clear gz Gz;ktr_call ah ag;have fs:=Jt (k:=k) hf m0 m1;have am:=(hf.1 _ (oK kl)).2;have mo2:=hmo.2;refine⟨smd,λ p hp=>⟨_,af hp _ _ _ ho3,λ r1 H1 s1 h1=>⟨smd,λ p1 hp1=>?_⟩⟩⟩;rw[fV] at h1;refine⟨_,af hp1 _ _ _ h1,small (by simp only[aA,be];lia),λ r2 H2 s2 h2=>?_⟩;have t2:=(af hp (.tup [V.str "cut",V.int (a:Int),V.int (k:Int),V.int f,V.int m,V.int g])).trans (s1.trans ((af hp1 (.tup [V.int m])).trans s2));refine⟨_,t2 _ _ ho3,λ r3 H3 s4 h3=>?_⟩;rw[show(k:Int)+1=((k+1:Nat):Int) by lia,iE] at h3;refine⟨_,s4 _ _ h2,_,h3,small (by simp only[bu,aA,be,fF,aV,aW];lia),λ r4 H4 s5 h4=>⟨smd,λ p5 hp5=>?_⟩⟩;refine q _ p5 (s3.trans (t2.trans (s4.trans (s5.trans (af hp5 _))))) ⟨p,r4,.cut a k f m g,A.set k m,ar,?_,?_,⟨A,ea,by unfold off;lia,by unfold bad;rw[Int.toNat_natCast];exact λ z=>z.elim (by lia) λ z=>z.elim (by lia) λ z=>z.elim (by lia) m2,by lia,by rw[Int.toNat_natCast]⟩,fs⟩
 ·exact(s4.trans (s5.trans (af hp5 _))) _ _ ((s1.trans ((af hp1 _).trans s2)) _ _ ar)
 ·show _=_;rw[af hp5 _ _ _ h4,← Ah kl,aY,aY];rfl
theorem MS(Y0:Cs Z0 74):ca (Cl Z0) 74:=kz3 Z0 Z0.g74 λ f fd F=>by
 have sc:=scq (aH Dj) ["own","other","side"] [];refine F.ok sc (λ vs H Q E h=>?_) (λ cdv A outer s H vs Q E hr h=>?_)
 ·exact el5 vs h λ _ _ _ _ _ _=>rfl
 refine el5 vs h λ a b A B k h=>an6 h λ ha hb kl a6 b6 q=>?_;refine⟨_,(aI (PW.pt (dH (aC gb (bz Z0.zlen (pv 0)) (bz Z0.zlen (pv 1))) (eK (aC (qA hr.units0) (ay dQ (cn cN (pv 0) cu (bY (pv 2))) (cn cN (pv 0) (bY (ay cE (pv 2) ae)) cu)) (ay dQ (cn cN (pv 1) cu (bY (pv 2))) (cn cN (pv 1) (bY (ay cE (pv 2) ae)) cu)))))) (av (aU bK)) (av (ay dQ (ay dQ (cn cN (pv 0) cu (bY (pv 2))) (aU (aG (ay cE (aq aD (pv 0) (pv 2)) (aq aD (pv 1) (pv 2)))))) (cn cN (pv 0) (bY (ay cE (pv 2) ae)) cu)))),?_⟩
 (try dsimp only[bf]);simp only[L2.start,aV,aW,List.replicate,bi,bj,Nat.reduceSub,Nat.reduceAdd,aZ,bh]
 ktn_end (λ σ G=>Same H G/\A.length=B.length/\A.eraseIdx k=B.eraseIdx k/\σ=[some (.ref a),some (.ref b),some (.int (k:Int))])
 ·ktr_call ah ag;refine⟨_,.inr (.of ha),_,.inr (.of hb),?_⟩;rw[aP,aP];by_cases c:A.length=B.length;rotate_left
  ·rw[if_pos (λ z=>c (Int.ofNat_inj.mp z))];exact⟨bc _,λ p hp=>q _ p (af hp _) (by show _=_;unfold gR;rw[if_neg (λ z=>c z.1)];exact ar)⟩
  rw[if_neg (λ z=>z (by rw[c]))];refine⟨_,ha,λ r1 H1 s1 h1=>⟨_,s1 _ _ ha,λ r2 H2 s2 h2=>?_⟩⟩;rw[fV] at h1;rw[show(k:Int)+1=((k+1:Nat):Int) by lia,iE] at h2;refine⟨_,s2 _ _ h1,_,h2,small (by simp only[aA,be,fF];lia),λ r3 H3 s3 h3=>?_⟩;have t3:=s1.trans (s2.trans s3);refine⟨_,t3 _ _ hb,λ r4 H4 s4 h4=>⟨_,s4 _ _ (t3 _ _ hb),λ r5 H5 s5 h5=>?_⟩⟩;rw[fV] at h4;rw[show(k:Int)+1=((k+1:Nat):Int) by lia,iE] at h5;refine⟨_,s5 _ _ h4,_,h5,small (by simp only[aA,be,fF];lia),λ r6 H6 s6 h6=>?_⟩;rw[← aY,← vJ] at h3 h6;refine⟨_,.of ((s4.trans (s5.trans s6)) _ _ h3),_,.of h6,dC _,dC _,?_⟩;have t6:=t3.trans (s4.trans (s5.trans s6));rw[gv];by_cases c2:A.eraseIdx k=B.eraseIdx k
  ·rw[jT c2,if_neg (by decide)];exact hR _ _ ⟨t6,c,c2,rfl⟩
  ·rw[fO c2,if_pos rfl];exact⟨bc _,λ p hp=>q _ p (t6.trans (af hp _)) (by show _=_;unfold gR;rw[if_neg (λ z=>c2 z.2)];exact ar)⟩
 rintro σ1 G1 ⟨s1,c,c2,rfl⟩;ktr_call ah ag;have ha1:=s1 _ _ ha;have hb1:=s1 _ _ hb;refine⟨_,ha1,λ r1 H1 s2 h1=>?_⟩;rw[fV] at h1;refine⟨_,s2 _ _ ha1,_,oJ kl,_,s2 _ _ hb1,_,oJ (by lia),_,rfl,_,rfl,smd,λ p hp=>⟨_,af hp _ _ _ h1,small (by simp only[aA,be];lia),λ r2 H2 s3 h2=>?_⟩⟩;have t3:=s2.trans ((af hp (.tup [V.int (A.getD k 0+B.getD k 0)])).trans s3);refine⟨_,t3 _ _ ha1,λ r3 H3 s4 h3=>?_⟩;rw[show(k:Int)+1=((k+1:Nat):Int) by lia,iE] at h3;refine⟨_,s4 _ _ h2,_,h3,small (by simp only[bu,aA,be,fF,aV,aW];lia),λ r4 H4 s5 h4=>q _ r4 (s1.trans (t3.trans (s4.trans s5))) ?_⟩;show _=_;unfold gR bW;rw[if_pos ⟨c,c2⟩,Int.toNat_natCast,h4,← Ah kl,aY,aY];rfl
theorem MT(Y0:Cs Z0 75):ca (Cl Z0) 75:=kz4 Z0 Z0.g75 λ f fd F=>by
 have sc:=scq (aH Dl) ["kind","d","sides","most"] ["sided","a","own","side","words","made","fit","b"];refine F.ok sc (λ vs H Q E h=>?_) (λ cdv A outer s H vs Q E hr h=>?_)
 ·obtain⟨dl,sl,kd,mo,d0,d1,d2,ps,Ss,rfl,_⟩:=h;rfl
 obtain⟨dl,sl,kd,mo,d0,d1,d2,ps,Ss,rfl,hd,hs,ht,⟨S0,S0m,S0l⟩,k11,k14,hsd,hmo,q⟩:=h;refine⟨_,(bB (mL (own:=["k"]) (fv:=["sides"]) (js:=[2]) sc.nd (i:=4) rfl (by first | exact Or.inl rfl | exact Or.inr rfl) (by first | exact Or.inl rfl | exact Or.inr rfl) rfl (gF (by rfl) Z0.zrange (aG (bz Z0.zlen (pv 2)))) rfl (by decide) rfl (by decide) (by first | exact λ _ _ h=>h | exact dh rfl | exact dk rfl rfl | exact dn rfl rfl rfl) (dg (by rfl)) rfl (eh (by first | exact⟨rfl,.inl rfl,.inl rfl⟩ | exact⟨rfl,.inl rfl,.inr rfl⟩)) (λ _ _ _ _=>(bR 0 ["k","sides"])) (λ _ _ _ _=>(pv 0)) (λ _ _ _ _=>(aC (AA (K:=K) rfl hr.units0) (aq bp (pv 1) (pv 0)) (aU bK)))) (aN 5 sc.nd (ax (cc Y0 68) hr au (ao (pv 4) (aq bp (pv 1) ae))) (aN 6 sc.nd (aq bp (pv 2) (pv 5)) (aN 7 sc.nd (ay dB (aq bp (pv 1) ae) (bz Z0.zlen (pv 6))) (aN 8 sc.nd (dP (aE aO (aE aO (aE aO (aE aO (aE aO (ao aO aO))))))) (aI (aC aR (pv 0) ae) (av (aU (ao (aU (aE aO (aE (aq bp (pv 8) (ay cH (aq bp (pv 1) ae) ae)) (ao (pv 5) (pv 7))))) (ay dQ (cn cN (pv 6) cu (bY (pv 7))) (cn cN (pv 6) (bY (ay cE (pv 7) ae)) cu))))) (aI (aC aR (pv 0) ae) (av (aU (ao (aU (aE aO (aE (aq bp (pv 8) (ay cH (aq bp (pv 1) ae) ae)) (ao (pv 5) (pv 7))))) (pv 6)))) (aN 9 sc.nd (dP (aG (aU bK))) (bB (iq (aC aR (pv 0) ae) (bx (fI 9 sc.nd (dZ (own:=["other"]) (fv:=["own","side"]) (js:=[6,7]) rfl (gE (pv 2)) rfl (by decide) rfl (by decide) (by first | exact λ _ _ h=>h | exact dh rfl | exact dk rfl rfl | exact dn rfl rfl rfl) (dg (by rfl)) rfl (nY (by first | exact⟨rfl,.inl rfl,.inl rfl⟩ | exact⟨rfl,.inl rfl,.inr rfl⟩) (by first | exact⟨rfl,.inl rfl,.inl rfl⟩ | exact⟨rfl,.inl rfl,.inr rfl⟩)) (λ _ _ _ _=>(bR 0 ["other","own","side"])) (λ _ _ _ _=>(ax (cc Y0 74) hr au (aE (pv 1) (ao (pv 0) (pv 2)))))))) (bx (iq (aC gc (aq aD (pv 6) ae) ae) (bx (fI 9 sc.nd (dZ (own:=["other"]) (fv:=["own"]) (js:=[6]) rfl (gE (pv 2)) rfl (by decide) rfl (by decide) (by first | exact λ _ _ h=>h | exact dh rfl | exact dk rfl rfl | exact dn rfl rfl rfl) (dg (by rfl)) rfl (eh (by first | exact⟨rfl,.inl rfl,.inl rfl⟩ | exact⟨rfl,.inl rfl,.inr rfl⟩)) (λ _ _ _ _=>(bR 0 ["other","own"])) (λ _ _ _ _=>(ay dQ (pv 0) (cn cN (pv 1) (bY ae) cu)))))) iX))) (bB (mL (own:=["k"]) (fv:=["kind","made","own"]) (js:=[0,9,6]) sc.nd (i:=10) rfl (by first | exact Or.inl rfl | exact Or.inr rfl) (by first | exact Or.inl rfl | exact Or.inr rfl) rfl (gF (by rfl) Z0.zrange (aG (bz Z0.zlen (pv 9)))) rfl (by decide) rfl (by decide) (by first | exact λ _ _ h=>h | exact dh rfl | exact dk rfl rfl | exact dn rfl rfl rfl) (dg (by rfl)) rfl (Gy (by first | exact⟨rfl,.inl rfl,.inl rfl⟩ | exact⟨rfl,.inl rfl,.inr rfl⟩) (by first | exact⟨rfl,.inl rfl,.inl rfl⟩ | exact⟨rfl,.inl rfl,.inr rfl⟩) (by first | exact⟨rfl,.inl rfl,.inl rfl⟩ | exact⟨rfl,.inl rfl,.inr rfl⟩)) (λ _ _ _ _=>(bR 0 ["k","kind","made","own"])) (λ _ _ _ _=>(pv 0)) (λ _ _ _ _=>(PW.pt (dH (PW.pt (kE (aC aR (pv 1) ae) (kD (aC gc (aq aD (pv 3) ae) ae)))) (eK (aC (AA (K:=K) rfl hr.units0) (aq bp (pv 2) (pv 0)) (aU bK))))))) (bB (mL (own:=["k"]) (fv:=["most","made"]) (js:=[3,9]) sc.nd (i:=10) rfl (by first | exact Or.inl rfl | exact Or.inr rfl) (by first | exact Or.inl rfl | exact Or.inr rfl) rfl (gE (pv 10)) rfl (by decide) rfl (by decide) (by first | exact λ _ _ h=>h | exact dh rfl | exact dk rfl rfl | exact dn rfl rfl rfl) (dg (by rfl)) rfl (nY (by first | exact⟨rfl,.inl rfl,.inl rfl⟩ | exact⟨rfl,.inl rfl,.inr rfl⟩) (by first | exact⟨rfl,.inl rfl,.inl rfl⟩ | exact⟨rfl,.inl rfl,.inr rfl⟩)) (λ _ _ _ _=>(bR 0 ["k","most","made"])) (λ _ _ _ _=>(pv 0)) (λ _ _ _ _=>(PW.pt (kE (aC pL (cq ((ng (K:=K) rfl)) Z0.zlen lj (aG (aq bp (pv 2) (pv 0)))) ae) (kD (aC pL (ax (cc Y0 66) hr au (aG (aq bp (pv 2) (pv 0)))) (pv 1))))))) (aI (aC aR (bz Z0.zlen (pv 10)) ae) (av (aU (ao (aU (aE aO (ao (pv 5) (pv 7)))) (pv 6)))) (aN 11 sc.nd (ax (cc Y0 68) hr au (ao (pv 10) (aq bp (pv 1) ae))) (aI (aC aR (pv 0) ae) (av (aU (ao (aU (aE aO (aE (pv 5) (ao (pv 11) (pv 7))))) (aq bp (pv 9) (pv 11))))) (av (aU (ao (aU (aE aO (ao (pv 5) (pv 11)))) (aq bp (pv 9) (pv 11))))))))))))))))))),?_⟩
 (try dsimp only[bf]);simp only[L2.start,aV,aW,List.replicate,bi,bj,Nat.reduceSub,Nat.reduceAdd,aZ,bh]
 have n4:=hsd.1;obtain⟨j0,j0l,j0e⟩:=List.mem_iff_getElem.mp S0m;have j0e':Ss[j0]?=some S0:=by rw[aX j0l,j0e]
 ktn_end (λ σ G=>Same H G/\∃(si:Addr) (ks:LI),G si=some (.lst (ks.map V.int))/\(∀k,k∈ks ↔ ∃j:Nat,k=j/\j < Ss.length/\∃S,Ss[j]?=some S/\0 < S.length)/\σ=[some (.int kd),some (.ref dl),some (.ref sl),some (.int mo),some (.ref si),none,none,none,none,none,none,none])
 ·ktr_call ah ag;refine⟨_,.inl (.of hs),?_⟩;rw[aA,ht.1];refine⟨by lia,by lia,?_⟩;rw[Int.toNat_natCast];refine zm (by lia) (λ j=>∃S,Ss[j]?=some S/\0 < S.length) [some (.ref sl)] rfl (λ j y G Rt Rf jl u ht1 hf1=>?_) (λ ks G p u hp hk kl=>hR _ _ ⟨u.trans (af hp _),p,ks,ar,hk,rfl⟩);refine hid λ Gz gz=>?_;obtain⟨pk,B,ek,eB,hB⟩:=gS (ht.same u) jl;refine gz ?_;clear gz Gz;ktr_call ah ag;refine⟨_,u _ _ hs,_,ek,bc _,λ p0 hp0=>⟨_,rfl,_,.of (af hp0 _ _ _ hB),_,.of ar,dC _,rfl,?_⟩⟩;rw[show([]:List V)=([]:LI).map V.int from rfl,gv];by_cases c:B=[]
  ·rw[jT c];exact hf1 _ (u.trans (af hp0 _)) λ⟨S,e,z⟩=>by cases eB.symm.trans e;rw[c] at z;exact absurd z (eV _)
  ·rw[fO c];exact ht1 _ (u.trans (af hp0 _)) ⟨B,eB,vK.mpr c⟩
 rintro σ1 G1 hz9;refine hid λ Gz gz=>?_;obtain⟨s1,si,ks,hsi,hk,rfl⟩:=hz9;refine gz ?_;clear gz Gz;have kpos:0 < ks.length:=vL ((hk j0).mpr ⟨j0,rfl,j0l,S0,j0e',S0l⟩);ktn_end (λ σ G=>G=G1/\∃(a:Nat) (A:LI) (pa:Addr),Ss[a]?=some A/\0 < A.length/\atI (ps.map V.ref) (a:Int)=some (.ref pa)/\Tp G pa A/\σ=[some (.int kd),some (.ref dl),some (.ref sl),some (.int mo),some (.ref si),some (.int (a:Int)),none,none,none,none,none,none])
 ·cell_end ah ag lL;refine⟨_,s1 _ _ hd,_,aB (j:=0) rfl,ks,d0,rfl,hsi,kpos,λ k hkm=>?_⟩;refine hid λ Gz gz=>?_;obtain⟨a,rfl,al,A,eA,A0⟩:=(hk k).mp hkm;obtain⟨pa,A',ea,eA',hA⟩:=gS (ht.same s1) al;refine gz ?_;clear gz Gz;cases eA'.symm.trans eA;exact hR _ _ ⟨rfl,a,A,pa,eA,A0,ea,hA,rfl⟩
 rintro σ2 G2 hz9;refine hid λ Gz gz=>?_;obtain⟨rfl,a,A,pa,eA,A0,ea,hA,rfl⟩:=hz9;refine gz ?_;clear gz Gz;have fA:=hsd.2 _ (bw eA);have a6:=fA.2.1;have hd2:=s1 _ _ hd;have hs2:=s1 _ _ hs;ktn_end (λ σ G=>G=G2/\σ=[some (.int kd),some (.ref dl),some (.ref sl),some (.int mo),some (.ref si),some (.int (a:Int)),some (.ref pa),none,none,none,none,none])
 ·ktr_call ah ag;exact⟨_,hs2,_,ea,hR _ _ ⟨rfl,rfl⟩⟩
 rintro σ3 G3 ⟨rfl,rfl⟩;ktn_end (λ σ G=>G=G3/\∃k:Nat,k < A.length/\σ=ii kd dl sl mo si a pa k [none,none,none,none])
 ·ktr_call ah ag;refine⟨_,hd2,_,aB (j:=1) rfl,_,.inr (.of hA),_,rfl,?_⟩;rw[aP];have f0:=fz d1 (show(0:Int) < (A.length:Int) by lia);have f1:=fK d1 (show(0:Int) < (A.length:Int) by lia);obtain⟨k,hk⟩:∃k:Nat,d1.fmod (A.length:Int)=k:=⟨_,(ie f0).symm⟩;rw[hk] at f1 ⊢;exact⟨by lia,hR _ _ ⟨rfl,k,by lia,rfl⟩⟩
 rintro σ4 G4 ⟨rfl,k,kl,rfl⟩;ktn_end (λ σ G=>Same G4 G/\∃wl,G wl=some (.lst (fw.map V.str))/\σ=ii kd dl sl mo si a pa k [some (.ref wl),none,none,none])
 ·ktr_call ah ag;exact⟨smd,λ l hl=>hR _ _ ⟨af hl _,l,ar,rfl⟩⟩
 rintro σ5 G5 ⟨s5,wl,hwl,rfl⟩;have hd5:=s5 _ _ hd2;have hs5:=s5 _ _ hs2;have hA5:=s5 _ _ hA;have t5:=s1.trans s5;obtain⟨w,hw,wm⟩:=uO fw (k:=d2 % 7) (by lia) (by show d2 % 7 < ((7:Nat):Int);lia);ktn_end (λ σ G=>G=G5/\¬kd=13/\σ=ii kd dl sl mo si a pa k [some (.ref wl),none,none,none])
 ·ktr_call ah ag;split;rotate_left
  ·exact hR _ _ ⟨rfl,‹_›,rfl⟩
  refine⟨_,hd5,_,aB (j:=2) rfl,_,rfl,_,hwl,_,hw,smd,λ p hp=>⟨_,af hp _ _ _ hA5,λ r1 H1 u1 h1=>⟨_,u1 _ _ (af hp _ _ _ hA5),λ r2 H2 u2 h2=>?_⟩⟩⟩;rw[fV] at h1;rw[show(k:Int)+1=((k+1:Nat):Int) by lia,iE] at h2;refine⟨_,u2 _ _ h1,_,h2,small (by simp only[aA,be,fF];lia),λ r3 H3 u3 h3=>⟨smd,λ p1 hp1=>?_⟩⟩;rw[← aY,← vJ] at h3;exact q _ p1 (t5.trans ((af hp _).trans (u1.trans (u2.trans (u3.trans (af hp1 _)))))) ⟨p,r3,.fold w a k,A.eraseIdx k,ar,af hp1 _ _ _ (u3 _ _ (u2 _ _ (u1 _ _ ar))),af hp1 _ _ _ h3,⟨A,eA,wm,by unfold off;lia,by rw[Int.toNat_natCast]⟩,Ju fA⟩
 rintro σ6 G6 ⟨rfl,n13,rfl⟩;ktn_end (λ σ G=>G=G6/\¬kd=14/\σ=ii kd dl sl mo si a pa k [some (.ref wl),none,none,none])
 ·ktr_call ah ag;split;rotate_left
  ·exact hR _ _ ⟨rfl,‹_›,rfl⟩
  exact⟨_,hd5,_,aB (j:=2) rfl,_,rfl,_,hwl,_,hw,smd,λ p hp=>⟨smd,λ p1 hp1=>q _ p1 (t5.trans ((af hp _).trans (af hp1 _))) ⟨p,pa,.run w a k,A,ar,af hp1 _ _ _ ar,af hp1 _ _ _ (af hp _ _ _ hA5),⟨eA,wm,by unfold off;lia⟩,fA⟩⟩⟩
 rintro σ7 G7 ⟨rfl,n14,rfl⟩;ktn_end (λ σ G=>Same G7 G/\∃(md pe:Addr),G md=some (.lst [.ref pe])/\Tp G pe []/\σ=ii kd dl sl mo si a pa k [some (.ref wl),some (.ref md),none,none])
 ·ktr_call ah ag;exact⟨bc _,λ p hp=>⟨smd,λ p1 hp1=>hR _ _ ⟨(af hp _).trans (af hp1 _),p1,p,ar,af hp1 _ _ _ ar,rfl⟩⟩⟩
 rintro σ8 G8 hz9;refine hid λ Gz gz=>?_;obtain⟨s8,md0,pe,hmd0,hpe,rfl⟩:=hz9;refine gz ?_;clear gz Gz;have hA8:=s8 _ _ hA5;have hs8:=s8 _ _ hs5;have t8:=t5.trans s8;have at0:atI (A.map V.int) 0=some (.int (A.getD 0 0)):=oJ (k:=0) A0;ktn_end (λ σ G=>Same G8 G/\∃(md:Addr) (qs:List Addr) (Ms:LL),G md=some (.lst (qs.map V.ref))/\TpsM G qs Ms/\Md kd A k Ss Ms/\σ=ii kd dl sl mo si a pa k [some (.ref wl),some (.ref md),none,none])
 ·ktr_call ah ag;split
  ·rename_i c11;refine Aw hs8 (by lia) (ht.same t8) (λ B=>gR A B k) [some (.ref pa),some (.int (k:Int))] rfl (λ p S y G Rt hS u hp ht1=>?_) (λ qs G p u hp tq=>hR _ _ ⟨u.trans (af hp _),p,qs,_,ar,tq.same (af hp _),.inl ⟨c11,rfl⟩,rfl⟩);cell_end ah ag Dk;exact⟨A,S,k,rfl,u _ _ hA8,hp,kl,a6,(hsd.2 S hS).2.1,λ G' r u' h=>ht1 _ _ u' h⟩
  ·rename_i c11;refine⟨_,hA8,_,at0,_,rfl,?_⟩;split
   ·rename_i cA;refine Aw hs8 (by lia) (ht.same t8) (λ B=>B++A.drop 1) [some (.ref pa)] rfl (λ p S y G Rt hS u hp ht1=>?_) (λ qs G p u hp tq=>hR _ _ ⟨u.trans (af hp _),p,qs,_,ar,tq.same (af hp _),.inr (.inl ⟨by lia,cA,rfl⟩),rfl⟩);ktr_call ah ag;refine⟨_,u _ _ hA8,λ r1 H1 u1 h1=>?_⟩;rw[show(1:Int)=((1:Nat):Int) from rfl,iE] at h1;have s6:=(hsd.2 S hS).2.1;refine⟨_,u1 _ _ hp,_,h1,small (by simp only[aA,fF];lia),λ r2 H2 u2 h2=>ht1 _ _ (u1.trans u2) ?_⟩;show _=_;rw[h2,aY]
   ·rename_i cA
    exact hR _ _ ⟨Same.refl _,md0,[pe],[[]],hmd0,⟨rfl,λ i p e=>by
     match i,e with
     | 0,e=>cases e;exact⟨[],rfl,hpe⟩⟩,.inr (.inr ⟨c11,cA,rfl⟩),rfl⟩
 rintro σ9 G9 hz9;refine hid λ Gz gz=>?_;obtain⟨s9,md,qs,Ms,hmd,tq,hM,rfl⟩:=hz9;refine gz ?_;clear gz Gz;have hA9:=s9 _ _ hA8;have t9:=t8.trans s9;have ml:=JE hM n4;have mb:=JF hM fA hsd.2 hmo;ktn_end (λ σ G=>Same G9 G/\∃(f1:Addr) (ks:LI),G f1=some (.lst (ks.map V.int))/\ks.length≤40/\(∀k,k∈ks ↔ ∃j:Nat,k=j/\j < Ms.length/\((kd=12/\0 < A.getD 0 0)\/∃M,Ms[j]?=some M/\¬M=[]))/\σ=ii kd dl sl mo si a pa k [some (.ref wl),some (.ref md),some (.ref f1),none])
 ·ktr_call ah ag;refine⟨_,.inl (.of hmd),?_⟩;rw[aA,tq.1];refine⟨by lia,by lia,?_⟩;rw[Int.toNat_natCast];refine zm (by lia) (λ j=>(kd=12/\0 < A.getD 0 0)\/∃M,Ms[j]?=some M/\¬M=[]) [some (.int kd),some (.ref md),some (.ref pa)] rfl (λ j y G Rt Rf jl u ht1 hf1=>?_) (λ ks G p u hp hk kl=>hR _ _ ⟨u.trans (af hp _),p,ks,ar,by lia,hk,rfl⟩);refine hid λ Gz gz=>?_;obtain⟨pk,M,ek,eM,hMj⟩:=gS (tq.same u) jl;refine gz ?_;clear gz Gz;ktr_call ah ag;by_cases c12:kd=12
  ·rw[if_pos c12];refine⟨_,u _ _ hA9,_,at0,_,rfl,?_⟩;by_cases cA:0 < A.getD 0 0
   ·rw[if_pos cA];exact ht1 _ u (.inl ⟨c12,cA⟩)
   ·rw[if_neg cA];refine⟨_,u _ _ hmd,_,ek,bc _,λ p0 hp0=>⟨_,rfl,_,.of (af hp0 _ _ _ hMj),_,.of ar,dC _,rfl,?_⟩⟩;rw[show([]:List V)=([]:LI).map V.int from rfl,gv];by_cases cM:M=[]
    ·rw[jT cM,if_neg (by decide)];exact hf1 _ (u.trans (af hp0 _)) (λ z=>z.elim (λ z=>cA z.2) λ⟨M2,e2,y⟩=>by cases eM.symm.trans e2;exact y cM)
    ·rw[fO cM,if_pos rfl];exact ht1 _ (u.trans (af hp0 _)) (.inr ⟨M,eM,cM⟩)
  ·rw[if_neg c12];refine⟨_,u _ _ hmd,_,ek,bc _,λ p0 hp0=>⟨_,rfl,_,.of (af hp0 _ _ _ hMj),_,.of ar,dC _,rfl,?_⟩⟩;rw[show([]:List V)=([]:LI).map V.int from rfl,gv];by_cases cM:M=[]
   ·rw[jT cM,if_neg (by decide)];exact hf1 _ (u.trans (af hp0 _)) (λ z=>z.elim (λ z=>c12 z.1) λ⟨M2,e2,y⟩=>by cases eM.symm.trans e2;exact y cM)
   ·rw[fO cM,if_pos rfl];exact ht1 _ (u.trans (af hp0 _)) (.inr ⟨M,eM,cM⟩)
 rintro σ10 G10 hz9;refine hid λ Gz gz=>?_;obtain⟨s10,f1,ks1,hf1,k1l,hk1,rfl⟩:=hz9;refine gz ?_;clear gz Gz;ktn_end (λ σ G=>Same G10 G/\∃(f2:Addr) (ls:LI),G f2=some (.lst (ls.map V.int))/\(∀k,k∈ls ↔ k∈ks1/\∃M,Ms[k.toNat]?=some M/\M.length≤6/\ai (M.map aF)≤mo)/\σ=ii kd dl sl mo si a pa k [some (.ref wl),some (.ref md),some (.ref f2),none])
 ·ktr_call ah ag;refine uf hf1 (by lia) (λ k=>∃M,Ms[k.toNat]?=some M/\M.length≤6/\ai (M.map aF)≤mo) [some (.int mo),some (.ref md)] rfl (λ x y G Rt Rf hx u ht1 hf1=>?_) (λ ls G p u hp hk2 kl2=>hR _ _ ⟨u.trans (af hp _),p,ls,ar,hk2,rfl⟩);refine hid λ Gz gz=>?_;obtain⟨j,rfl,jl,_⟩:=(hk1 x).mp hx;obtain⟨pk,M,ek,eM,hMj⟩:=gS (tq.same (s10.trans u)) jl;refine gz ?_;clear gz Gz;cell_end ah ag oY;refine⟨_,(s10.trans u) _ _ hmd,_,ek,_,rfl,_,.inr (.of hMj),?_⟩;rw[aP];by_cases c6:M.length≤6
  ·rw[if_pos (by lia)];refine⟨_,(s10.trans u) _ _ hmd,_,ek,pk,rfl,M,hMj,JG (mb M (bw eM)),by lia,λ G' u'=>?_⟩;split
   ·exact ht1 _ (u.trans u') ⟨M,eM,c6,‹_›⟩
   ·rename_i cw;exact hf1 _ (u.trans u') λ⟨M2,e2,y1,y2⟩=>by rw[Int.toNat_natCast] at e2;cases eM.symm.trans e2;exact cw y2
  ·rw[if_neg (by lia)];exact hf1 _ u λ⟨M2,e2,y1,_⟩=>by rw[Int.toNat_natCast] at e2;cases eM.symm.trans e2;exact c6 y1
 rintro σ11 G11 hz9;refine hid λ Gz gz=>?_;obtain⟨s11,f2,ls,hf2,hl,rfl⟩:=hz9;refine gz ?_;clear gz Gz;have t11:=t9.trans (s10.trans s11);have hA11:=(s10.trans s11) _ _ hA9;ktn_end (λ σ G=>G=G11/\0 < ls.length/\σ=ii kd dl sl mo si a pa k [some (.ref wl),some (.ref md),some (.ref f2),none])
 ·ktr_call ah ag;refine⟨_,.inl (.of hf2),?_⟩;rw[aP];split
  ·exact⟨smd,λ p hp=>⟨smd,λ p1 hp1=>q _ p1 (t11.trans ((af hp _).trans (af hp1 _))) ⟨p,pa,.flip a k,A,ar,af hp1 _ _ _ ar,af hp1 _ _ _ (af hp _ _ _ hA11),⟨eA,by unfold off;lia⟩,fA⟩⟩⟩
  ·exact hR _ _ ⟨rfl,by lia,rfl⟩
 rintro σ12 G12 ⟨rfl,l0,rfl⟩;ktn_end (λ σ G=>G=G12/\∃(b:Nat) (M:LI) (pm:Addr),b < Ms.length/\Ms[b]?=some M/\((kd=12/\0 < A.getD 0 0)\/¬M=[])/\M.length≤6/\ai (M.map aF)≤mo/\atI (qs.map V.ref) (b:Int)=some (.ref pm)/\Tp G pm M/\σ=ii kd dl sl mo si a pa k [some (.ref wl),some (.ref md),some (.ref f2),some (.int (b:Int))])
 ·cell_end ah ag lL;refine⟨_,t11 _ _ hd,_,aB (j:=2) rfl,ls,d2,rfl,hf2,l0,λ x hx=>?_⟩;refine hid λ Gz gz=>?_;obtain⟨xm,M,eM,m6,mw⟩:=(hl x).mp hx;obtain⟨b,rfl,bl,hb⟩:=(hk1 x).mp xm;refine gz ?_;clear gz Gz;rw[Int.toNat_natCast] at eM;refine hid λ Gz gz=>?_;obtain⟨pm,M',em,eM',hMb⟩:=gS (tq.same (s10.trans s11)) bl;refine gz ?_;clear gz Gz;cases eM'.symm.trans eM;exact hR _ _ ⟨rfl,b,M,pm,bl,eM,hb.imp id λ⟨M2,e2,z⟩=>by cases eM.symm.trans e2;exact z,m6,mw,em,hMb,rfl⟩
 rintro σ13 G13 hz9;refine hid λ Gz gz=>?_;obtain⟨rfl,b,M,pm,bl,eM,hb,m6,mw,em,hMb,rfl⟩:=hz9;refine gz ?_;clear gz Gz;have nb:=JI hmo m6 mw;have fM:=uM (λ n hn=>(mb M (bw eM) n hn).1) m6 mw;have hmd13:=(s10.trans s11) _ _ hmd;ktn_end (λ σ G=>G=G13/\¬kd=11/\σ=ii kd dl sl mo si a pa k [some (.ref wl),some (.ref md),some (.ref f2),some (.int (b:Int))])
 ·ktr_call ah ag;split;rotate_left
  ·exact hR _ _ ⟨rfl,‹_›,rfl⟩
  rename_i c11;have mne:¬M=[]:=hb.elim (λ z=>by lia) id
  obtain⟨B,eB,rfl⟩:∃B,Ss[b]?=some B/\M=gR A B k:=by
   rcases hM with ⟨_,rfl⟩ | ⟨z,_⟩ | ⟨z,_⟩
   ·rw[bA] at eM
    cases hx:Ss[b]? with
    | none=>rw[hx] at eM;cases eM
    | some B=>rw[hx] at eM;cases eM;exact⟨B,rfl,rfl⟩
   ·lia
   ·exact absurd c11 z
  obtain⟨j1,j2,j3⟩:=AF mne;exact⟨smd,λ p hp=>⟨_,af hp _ _ _ hmd13,_,em,smd,λ p1 hp1=>q _ p1 (t11.trans ((af hp _).trans (af hp1 _))) ⟨p,pm,.join a b k,gR A B k,ar,af hp1 _ _ _ ar,af hp1 _ _ _ (af hp _ _ _ hMb),⟨A,B,eA,eB,j1,by unfold off;lia,by rw[Int.toNat_natCast];exact j2,by rw[← j3];exact nb,j3⟩,fM⟩⟩⟩
 rintro σ14 G14 ⟨rfl,n11,rfl⟩;ktr_call ah ag;have k12:kd=12:=by lia
 obtain⟨n,r,rfl⟩:∃n r,A=n::r:=by
  match A,A0 with
  | n::r,_=>exact⟨n,r,rfl⟩
 obtain⟨B,n0,eB,rfl⟩:∃B,0 < n/\Ss[b]?=some B/\M=B++r:=by
  rcases hM with ⟨z,_⟩ | ⟨_,z,rfl⟩ | ⟨_,z,rfl⟩
  ·exact absurd z n11
  ·rw[bA] at eM
   cases hx:Ss[b]? with
   | none=>rw[hx] at eM;cases eM
   | some B=>rw[hx] at eM;cases eM;exact⟨B,z,rfl,rfl⟩
  ·rcases hb with y | y
   ·exact absurd y.2 z
   ·match b,eM with
    | 0,eM=>cases eM;exact absurd rfl y
 exact⟨smd,λ p hp=>⟨_,af hp _ _ _ hmd13,_,em,smd,λ p1 hp1=>q _ p1 (t11.trans ((af hp _).trans (af hp1 _))) ⟨p,pm,.fetch a b,B++r,ar,af hp1 _ _ _ ar,af hp1 _ _ _ (af hp _ _ _ hMb),⟨n,r,B,eA,by lia,eB,nb,rfl⟩,fM⟩⟩⟩
theorem MU(Y0:Cs Z0 76):ca (Cl Z0) 76:=kz3 Z0 Z0.g76 λ f fd F=>by
 have sc:=scq (aH Dm) ["cell","sides","most"] ["n","kind","d","a"];refine F.ok sc (λ vs H Q E h=>?_) (λ cdv A outer s H vs Q E hr h=>?_)
 ·exact el5 vs h λ _ _ _ _ _ _=>rfl
 refine el5 vs h λ sl cell mo ps Ss h=>an5 h λ hs ht hsd hmo q=>?_;refine⟨_,(aN 3 sc.nd (ay dB (ay fR (pv 0) ae) ae) (aN 4 sc.nd (ay cH (pv 3) ae) (aN 5 sc.nd (dP (aE (ay cH (ay eY (pv 3) ae) ae) (ao (ay cH (ay eY (pv 3) ae) ae) (ay eY (pv 3) ae)))) (aI (PW.pt (dH (aC aR (bz Z0.zlen (pv 1)) ae) (eK (aC dO (pv 4) ae)))) (av (ax (cc Y0 69) hr au (aE (ay cH (pv 4) ae) (aE (pv 3) (ao (pv 0) (pv 2)))))) (aI (aC dO (pv 4) ae) (av (ax (cc Y0 71) hr au (aE (pv 4) (ao (pv 5) (pv 1))))) (aI (PW.pt (kE (aC gc (pv 4) ae) (kD (aC gc (cq (GU rfl) Z0.zmax lh (aG (kO (own:=["own"]) rfl (gE (pv 1)) (by decide) (by decide) rfl (by decide) (λ _ _ _ _=>(bR 0 ["own"])) (λ _ _ _ _=>(cq ((ng (K:=K) rfl)) Z0.zlen lj (aG (pv 0))))))) ae)))) (av (ax (cc Y0 75) hr au (aE (pv 4) (aE (pv 5) (ao (pv 1) (pv 2)))))) (aN 6 sc.nd (ax (cc Y0 68) hr au (ao (cC (tL rfl) Z0.zlist s0v (aG (cC tK Z0.zrange s0y (aG (bz Z0.zlen (pv 1)))))) (aq bp (pv 5) ae))) (av (ax (cc Y0 73) hr au (aE (cq (kJ rfl) Z0.zmin lM (ao (pv 4) (ay eN ae (cC DZ Z0.zint boot_int (aG (kI gc (pv 4) ae (jO _))))))) (aE (pv 5) (aE (pv 6) (ao (aq bp (pv 1) (pv 6)) (pv 2)))))))))))))),?_⟩
 (try dsimp only[bf]);simp only[L2.start,aV,aW,List.replicate,bi,bj,Nat.reduceSub,Nat.reduceAdd,aZ,bh]
 have n4:=hsd.1;ktn_end (λ σ G=>G=H/\∃n:Int,σ=[some (.int cell),some (.ref sl),some (.int mo),some (.int n),none,none,none])
 ·ktr_call ah ag;exact⟨by lia,hR _ _ ⟨rfl,_,rfl⟩⟩
 rintro σ1 G1 ⟨rfl,n,rfl⟩;ktn_end (λ σ G=>G=G1/\∃kd:Int,0≤kd/\kd < 15/\σ=nA cell sl mo n kd [none,none])
 ·ktr_call ah ag;exact hR _ _ ⟨rfl,_,by lia,by lia,rfl⟩
 rintro σ2 G2 hz9;refine hid λ Gz gz=>?_;obtain⟨rfl,kd,kd0,kd1,rfl⟩:=hz9;refine gz ?_;clear gz Gz;ktn_end (λ σ G=>Same G2 G/\∃(dl:Addr) (d0 d1 d2:Int),G dl=some (.lst [.int d0,.int d1,.int d2])/\σ=nA cell sl mo n kd [some (.ref dl),none])
 ·ktr_call ah ag;exact⟨smd,λ l hl=>hR _ _ ⟨af hl _,l,_,_,_,ar,rfl⟩⟩
 rintro σ3 G3 hz9;refine hid λ Gz gz=>?_;obtain⟨s3,dl,d0,d1,d2,hd,rfl⟩:=hz9;refine gz ?_;clear gz Gz;have hs3:=s3 _ _ hs;have ht3:=ht.same s3;ktn_end (λ σ G=>G=G3/\0 < Ss.length/\3≤kd/\σ=nA cell sl mo n kd [some (.ref dl),none])
 ·cell_end ah ag Dc;refine⟨_,.inl (.of hs3),?_⟩;rw[aA,ht.1];by_cases c:Ss.length=0
  ·rw[if_pos (by lia)];exact⟨hmo,λ G r u h=>q _ r (s3.trans u) (h _)⟩
  ·rw[if_neg (by lia)];split
   ·exact⟨hmo,λ G r u h=>q _ r (s3.trans u) (h _)⟩
   ·exact hR _ _ ⟨rfl,by lia,by lia,rfl⟩
 rintro σ4 G4 ⟨rfl,n0,kd3,rfl⟩;ktn_end (λ σ G=>G=G4/\σ=nA cell sl mo n kd [some (.ref dl),none])
 ·cell_end ah ag Ax;split
  ·exact⟨mo,d0,d1,d2,hd,ps,hs3,Ss,ht3,n0,hsd,λ G r u h=>q _ r (s3.trans u) h⟩
  ·exact hR _ _ ⟨rfl,rfl⟩
 rintro σ5 G5 ⟨rfl,rfl⟩;ktn_end (λ σ G=>Same G5 G/\σ=nA cell sl mo n kd [some (.ref dl),none])
 ·cell_end ah ag Ay;by_cases c:10 < kd;rotate_left
  ·rw[if_neg (by lia)];exact hR _ _ ⟨Same.refl _,rfl⟩
  rw[if_pos (by lia)];refine CompL.mk (xs:=ps.map V.ref) (.of hs3) (λ i ys σ G=>G=G5/\i≤Ss.length/\ys=((Ss.take i).map (λ S=>(S.length:Int))).map V.int/\∃y,σ=[y]) ⟨rfl,bc _,rfl,_,rfl⟩ (λ i ys σ G _ h=>by rw[h.1];exact .of hs3) (λ i x ys σ G e h=>?_) (λ ys σ G h p hp=>?_)
  ·refine hid λ Gz gz=>?_;obtain⟨rfl,hi,rfl,y,rfl⟩:=h;refine gz ?_;clear gz Gz
   obtain⟨p,rfl,hp⟩:∃p,x=.ref p/\ps[i]?=some p:=by
    rw[bA] at e
    cases hx:ps[i]? with
    | none=>rw[hx] at e;cases e
    | some n=>rw[hx] at e;cases e;exact⟨n,rfl,rfl⟩
   have il:=(bv.mp hp).1;obtain⟨S,eS,hS⟩:=ht3.2 i p hp;have e1:((Ss.take (i+1)).map (λ S=>(S.length:Int))).map V.int=((Ss.take i).map (λ S=>(S.length:Int))).map V.int++[V.int (S.length:Int)]:=by rw[cO,eS,aY,aY];rfl
   refine⟨by rw[aA,aA,be];exact bD (by lia),?_⟩;cell_end ah ag e1;refine⟨_,.inr (.of hS),?_⟩;rw[aP];exact⟨by rw[ht.1] at il;exact il,rfl,_,rfl⟩
  ·refine hid λ Gz gz=>?_;obtain⟨rfl,hi,rfl,y,rfl⟩:=h;refine gz ?_;clear gz Gz;rw[aA,ht.1,cx];refine⟨p,rfl,_,.of ar,by rw[aA];exact n0,λ M hM _=>?_⟩;split
   ·exact⟨d0,d1,d2,af hp _ _ _ hd,ps,af hp _ _ _ hs3,Ss,ht3.same (af hp _),JJ hM (by lia),by lia,by lia,hsd,hmo,λ G r u h=>q _ r (s3.trans ((af hp _).trans u)) h⟩
   ·exact hR _ _ ⟨af hp _,rfl⟩
 rintro σ6 G6 ⟨s6,rfl⟩;ktn_end (λ σ G=>Same G6 G/\∃a:Nat,a < Ss.length/\σ=nA cell sl mo n kd [some (.ref dl),some (.int (a:Int))])
 ·cell_end ah ag lL;refine⟨_,.inl (.of (s6 _ _ hs3)),λ r0 hr0=>⟨Ss.length,by rw[aA,ht.1];rfl,by lia,λ l hl=>?_⟩⟩;have u:=(af hr0 (.rng 0 (((ps.map V.ref).length:Nat):Int))).trans (af hl (.lst ((upL Ss.length).map V.int)));refine⟨_,u _ _ (s6 _ _ hd),_,aB (j:=0) rfl,upL Ss.length,d0,rfl,rfl,by rw[jy];exact n0,λ k hk=>?_⟩;obtain⟨a,rfl,al⟩:=nc hk;exact hR _ _ ⟨u,a,al,rfl⟩
 rintro σ7 G7 hz9;refine hid λ Gz gz=>?_;obtain⟨s7,a,al,rfl⟩:=hz9;have t7:=s6.trans s7;obtain⟨pa,A,ea,eA,hA⟩:=gS (ht3.same t7) al;refine gz ?_;clear gz Gz;cell_end ah ag Ao;exact .inr ⟨_,t7 _ _ hs3,_,ea,pa,mo,d0,d1,d2,a,rfl,rfl,rfl,t7 _ _ hd,A,hA,Ss,eA,hsd.2 _ (bw eA),hmo,λ G r u h=>q _ r (s3.trans (t7.trans u)) h⟩
theorem MV(Y0:Cs Z0 77):ca (Cl Z0) 77:=kz2 Z0 Z0.g77 λ f fd F=>by
 have sc:=scq (aH Dn) ["cells","most"] ["steps","sides","cell","made","outs","n","k"];refine F.ok sc (λ vs H Q E h=>?_) (λ cdv A outer s H vs Q E hr h=>?_)
 ·exact el3 vs h λ _ _ _ _=>rfl
 refine el3 vs h λ ca cs mo h=>an4 h λ hc c40 hmo q=>?_;refine⟨_,(aN 2 sc.nd (dP bK) (aN 3 sc.nd (dP bK) (bB (dN dU rfl (gE (pv 0)) (dD 4 sc.nd) (aN 5 sc.nd (ax (cc Y0 76) hr au (aE (pv 4) (ao (pv 3) (pv 1)))) (bB (cB (gK (pv 2) (aq aD (pv 5) ae))) (bx (cB (gK (pv 3) (aq aD (pv 5) ae))))))) (aI (aC aR (bz Z0.zlen (pv 2)) ae) (bB (cB (gK (pv 2) (aU (ao aO ae)))) (bx (cB (gK (pv 3) (aU bK))))) (aN 6 sc.nd (dP bK) (aN 7 sc.nd (ay dB (ay fR (cq (xX rfl) Z0.zsum boot_sum (aG (pv 0))) ae) ae) (bB (dN dU rfl (gF (by rfl) Z0.zrange (aG (aq bp (dP (aE ae (aE ae (aE ae (aE ae (ao ae ae)))))) (ay cH (pv 7) ae)))) (dD 8 sc.nd) (aN 7 sc.nd (ay dB (ay cE (ay fR (pv 7) ae) ae) ae) (bx (cB (gK (pv 6) (ay dB (ay eY (pv 7) ae) (bz Z0.zlen (pv 2)))))))) (bB (wj (ay eN (bz Z0.zlen (pv 2)) ae) (DL (pv 6) (ay dB (pv 7) (bz Z0.zlen (pv 6))) Ep)) (av (aU (aE (cC fg Z0.ztuple cJ (aG (pv 2))) (ao (cC fg Z0.ztuple cJ (aG (pv 6))) (pv 3))))))))))))),?_⟩
 (try dsimp only[bf]);simp only[L2.start,aV,aW,List.replicate,bi,bj,Nat.reduceSub,Nat.reduceAdd,aZ,bh]
 ktn_end (λ σ G=>∃st,Same H G/\H st=none/\G st=some (.lst [])/\σ=[some (.ref ca),some (.int mo),some (.ref st),none,none,none,none,none,none])
 ·ktr_call ah ag;exact⟨bc _,λ l hl=>hR _ _ ⟨l,af hl _,hl,ar,rfl⟩⟩
 rintro σ1 G1 hz9;refine hid λ Gz gz=>?_;obtain⟨st,s1,st0,hst,rfl⟩:=hz9;refine gz ?_;clear gz Gz;ktn_end (λ σ G=>∃sl,Same H G/\H sl=none/\st≠sl/\G st=some (.lst [])/\G sl=some (.lst [])/\σ=ip ca mo st sl [none,none,none,none,none])
 ·ktr_call ah ag;exact⟨bc _,λ l hl=>hR _ _ ⟨l,s1.trans (af hl _),qS s1 hl,(λ z=>by rw[z,hl] at hst;cases hst),af hl _ _ _ hst,ar,rfl⟩⟩
 rintro σ2 G2 hz9;refine hid λ Gz gz=>?_;obtain⟨sl,s2,sl0,ne,hst,hsl,rfl⟩:=hz9;refine gz ?_;clear gz Gz;ktn_end (λ σ G=>∃(qs ps:List Addr) (ds:List Stp) (Ss:LL) (y4 y5:Option V),Same H G/\G st=some (.lst (qs.map V.ref))/\G sl=some (.lst (ps.map V.ref))/\StL G qs ds/\TpsM G ps Ss/\fX mo ds Ss/\ds.length=cs.length/\σ=ip ca mo st sl [y4,y5,none,none,none])
 ·wp_walk using ah,da,eqV,ag;obtain⟨J,hJ⟩:∃J:Nat->L2.St->Hp->Prop,J=(λ i σ G=>∃(qs ps:List Addr) (ds:List Stp) (Ss:LL) (y4 y5:Option V),Same H G/\G st=some (.lst (qs.map V.ref))/\G sl=some (.lst (ps.map V.ref))/\StL G qs ds/\TpsM G ps Ss/\fX mo ds Ss/\ds.length=i/\i≤cs.length/\σ=ip ca mo st sl [y4,y5,none,none,none]):=⟨_,rfl⟩;refine LoopL.mk (xs:=cs.map V.int) (.of (s2 _ _ hc)) J (by rw[hJ];exact⟨[],[],[],[],_,_,s2,hst,hsl,⟨rfl,λ i p e=>nomatch e⟩,⟨rfl,λ i p e=>nomatch e⟩,AD mo,rfl,bc _,rfl⟩) (λ i σ G _ h=>by rw[hJ] at h;obtain⟨_,_,_,_,_,_,s,_⟩:=h;exact .of (s _ _ hc)) (λ i x σ G0 e h=>?_) (λ σ G h=>?_);rotate_left
  ·rw[hJ] at h;refine hid λ Gz gz=>?_;obtain⟨qs,ps,ds,Ss,y4,y5,s,h1,h2,h3,h4,h5,dl,_,rfl⟩:=h;refine gz ?_;clear gz Gz;rw[aP] at dl;exact hR _ _ ⟨qs,ps,ds,Ss,_,_,s,h1,h2,h3,h4,h5,dl,rfl⟩
  clear hR;rw[hJ] at h;refine hid λ Gz gz=>?_;obtain⟨qs,ps,ds,Ss,y4,y5,s,h1,h2,h3,h4,h5,dl,di,rfl⟩:=h;obtain⟨c,rfl,hc'⟩:=dE e;refine gz ?_;clear gz Gz;have il:=(bv.mp hc').1;simp only[fE,List.set_cons_succ,List.set_cons_zero];ktn_end (λ σ G=>Same G0 G/\∃r,mZ G r mo Ss/\σ=ip ca mo st sl [some (.int c),some (.ref r),none,none,none])
  ·cell_end ah ag Az;exact⟨ps,h2,Ss,h4,⟨by rw[← h5.1];lia,h5.2.1⟩,hmo,λ G r u h=>hR _ _ ⟨u,r,h,rfl⟩⟩
  rintro σ1' G1' hz9;refine hid λ Gz gz=>?_;obtain⟨u1,r,⟨p,b,d,S,hr1,hd,hb,ok,fs⟩,rfl⟩:=hz9;refine gz ?_;clear gz Gz;have h1':=u1 _ _ h1;have h2':=u1 _ _ h2;have ql:qs.length=i:=by rw[h3.1,dl]
  have pl:ps.length=i:=by rw[h4.1,← h5.1,dl]
  ktn_end (λ σ G=>Same H G/\UpT G1' G/\G st=some (.lst ((qs++[p]).map V.ref))/\G sl=some (.lst (ps.map V.ref))/\σ=ip ca mo st sl [some (.int c),some (.ref r),none,none,none])
  ·ktr_call ah ag;refine⟨⟨_,h1'⟩,_,hr1,_,aB (j:=0) rfl,_,h1',by rw[aA,ql];exact bD (by lia),hR _ _ ⟨iN (s.trans u1) st0,jz h1',by rw[ar,aY];rfl,by rw[bo (cY ne)];exact h2',rfl⟩⟩
  rintro σ2' G2' hz9;refine hid λ Gz gz=>?_;obtain⟨s2',up2,h1'',h2'',rfl⟩:=hz9;refine gz ?_;clear gz Gz;ktr_call ah ag;refine⟨⟨_,h2''⟩,_,up2.1 _ _ hr1,_,aB (j:=1) rfl,_,h2'',by rw[aA,pl];exact bD (by lia),?_⟩;have up3:=up2.trans (jz (ys:=ps.map V.ref++[V.ref b]) h2'');rw[hJ];exact⟨qs++[p],ps++[b],ds++[d],Ss++[S],_,_,iN s2' sl0,by rw[bo ne];exact h1'',by rw[ar,aY];rfl,(h3.up ((nh u1).trans up3)).snoc (hd.up up3),(h4.up ((nh u1).trans up3)).snoc (up3.1 _ _ hb),AC h5 ok fs,by rw[bu,dl];rfl,il,rfl⟩
 rintro σ3 G3 hz9;refine hid λ Gz gz=>?_;obtain⟨qs,ps,ds,Ss,y4,y5,s3,h1,h2,h3,h4,h5,dl,rfl⟩:=hz9;refine gz ?_;clear gz Gz;ktn_end (λ σ G=>∃(qs ps:List Addr) (ds:List Stp) (Ss:LL),Same H G/\G st=some (.lst (qs.map V.ref))/\G sl=some (.lst (ps.map V.ref))/\StL G qs ds/\TpsM G ps Ss/\fX mo ds Ss/\0 < ds.length/\ds.length≤40/\σ=ip ca mo st sl [y4,y5,none,none,none])
 ·ktr_call ah ag;refine⟨_,.inl (.of h1),?_⟩;rw[aA,h3.1];by_cases c:ds.length=0;rotate_left
  ·rw[if_neg (by lia)];exact hR _ _ ⟨qs,ps,ds,Ss,s3,h1,h2,h3,h4,h5,by lia,by lia,rfl⟩
  rw[if_pos (by lia)];have e1:ds=[]:=rS.mp c;have e2:Ss=[]:=rS.mp (by rw[← h5.1];exact c);have e3:qs=[]:=rS.mp (by rw[h3.1];exact c);have e4:ps=[]:=rS.mp (by rw[h4.1,e2];rfl);subst e1 e2 e3 e4;refine⟨⟨_,h1⟩,smd,λ p hp=>⟨_,af hp _ _ _ h1,jU (bc _) (bD (aJ _)),?_⟩⟩;have h2p:=af hp (.tup [V.str "num",V.int 0]) _ _ h2;have up1:=jz (ys:=List.map V.ref []++[V.ref p]) (af hp (.tup [V.str "num",V.int 0]) _ _ h1);have hsl1:upd (upd G3 p (.tup [V.str "num",V.int 0])) st (.lst (List.map V.ref []++[V.ref p])) sl=some (.lst (List.map V.ref [])):=by rw[bo (cY ne)];exact h2p
  refine⟨⟨_,hsl1⟩,bc _,λ p1 hp1=>⟨_,af hp1 _ _ _ hsl1,jU (bc _) (bD (aJ _)),?_⟩⟩;have up2:=jz (ys:=List.map V.ref []++[V.ref p1]) (af hp1 (.tup []) _ _ hsl1);refine hR _ _ ⟨[p],[p1],[.num 0],[[]],iN ((iN (s3.trans (af hp _)) st0).trans (af hp1 _)) sl0,by rw[bo ne];exact af hp1 _ _ _ ar,ar,?_,?_,AC (AD mo) (d:=.num 0) (S:=[]) rfl (qX hmo),oz _,jR (bc _),rfl⟩
  ·exact StL.snoc (qs:=[]) (ds:=[]) ⟨rfl,λ i p e=>nomatch e⟩ (up2.1 _ _ (af hp1 _ _ _ (up1.1 _ _ ar)))
  ·exact TpsM.snoc (ps:=[]) (Ss:=[]) ⟨rfl,λ i p e=>nomatch e⟩ (up2.1 _ _ ar)
 rintro σ4 G4 hz9;refine hid λ Gz gz=>?_;obtain⟨qs,ps,ds,Ss,s4,h1,h2,h3,h4,h5,d0,d40,rfl⟩:=hz9;refine gz ?_;clear gz Gz;ktn_end (λ σ G=>∃ou,Same G4 G/\G4 ou=none/\G ou=some (.lst [])/\σ=ip ca mo st sl [y4,y5,some (.ref ou),none,none])
 ·ktr_call ah ag;exact⟨bc _,λ l hl=>hR _ _ ⟨l,af hl _,hl,ar,rfl⟩⟩
 rintro σ5 G5 hz9;refine hid λ Gz gz=>?_;obtain⟨ou,s5,ou0,hou,rfl⟩:=hz9;refine gz ?_;clear gz Gz;ktn_end (λ σ G=>G=G5/\∃n:Int,σ=ip ca mo st sl [y4,y5,some (.ref ou),some (.int n),none])
 ·ktr_call ah ag;exact⟨cs,.of ((s4.trans s5) _ _ hc),by lia,hR _ _ ⟨rfl,_,rfl⟩⟩
 rintro σ6 G6 ⟨rfl,n,rfl⟩;ktn_end (λ σ G=>∃(os:LI) (n:Int) (y8:Option V),Same G4 G/\G ou=some (.lst (os.map V.int))/\0 < os.length/\os.length≤8/\(∀o∈os,0≤o/\o < (ds.length:Int))/\σ=ip ca mo st sl [y4,y5,some (.ref ou),some (.int n),y8])
 ·wp_walk using ah,da,eqV,ag;obtain⟨x,hx,x1,x8⟩:=JH (n % 6) (by lia) (by lia);refine⟨smd,λ l hl=>⟨_,hx,_,rfl,by lia,by lia,?_⟩⟩;obtain⟨J,hJ⟩:∃J:Nat->L2.St->Hp->Prop,J=(λ i σ G=>∃(os:LI) (n:Int) (y8:Option V),Same G4 G/\G ou=some (.lst (os.map V.int))/\os.length=i/\(∀o∈os,0≤o/\o < (ds.length:Int))/\σ=ip ca mo st sl [y4,y5,some (.ref ou),some (.int n),y8]):=⟨_,rfl⟩;refine LoopR.mk J (by rw[hJ];exact⟨[],n,_,s5.trans (af hl _),af hl _ _ _ hou,rfl,(λ o ho=>nomatch ho),rfl⟩) (λ i σ G0 hi h=>?_) (λ σ G h=>?_);rotate_left
  ·rw[hJ] at h;refine hid λ Gz gz=>?_;obtain⟨os,n',y8,s,h6,ol,hb,rfl⟩:=h;refine gz ?_;clear gz Gz;exact hR _ _ ⟨os,n',_,s,h6,by lia,by lia,hb,rfl⟩
  rw[hJ] at h;refine hid λ Gz gz=>?_;obtain⟨os,n',y8,s,h6,ol,hb,rfl⟩:=h;refine gz ?_;clear gz Gz;ktr_call ah ag;refine⟨by lia,⟨_,h6⟩,_,.inl (.of (s _ _ h1)),?_⟩;rw[aA,h3.1];refine⟨by lia,_,h6,by rw[aA];exact bD (by lia),?_⟩;rw[hJ];generalize ((n' * 48271+11).fmod 2147483647) / 16=z at *;have f0:=fz z (show(0:Int) < (ds.length:Int) by lia);have f1:=fK z (show(0:Int) < (ds.length:Int) by lia);refine⟨os++[z.fmod ds.length],_,_,iN s ou0,by rw[ar,aY];rfl,by rw[bu,ol];rfl,λ o ho=>?_,rfl⟩
  rcases cZ.mp ho with y | y
  ·exact hb o y
  ·cases bL.mp y;exact⟨f0,f1⟩
 rintro σ7 G7 hz9;refine hid λ Gz gz=>?_;obtain⟨os,n,y8,s7,hou,o0,o8,hb,rfl⟩:=hz9;refine gz ?_;clear gz Gz;ktn_end (λ σ G=>∃os:LI,Same G4 G/\G ou=some (.lst (os.map V.int))/\0 < os.length/\os.length≤8/\(∀o∈os,0≤o/\o < (ds.length:Int))/\σ=ip ca mo st sl [y4,y5,some (.ref ou),some (.int n),y8])
 ·ktr_call ah ag;refine⟨_,.inl (.of (s7 _ _ h1)),?_⟩;rw[aA,h3.1];refine⟨_,.inl (.of hou),?_⟩;rw[aP];have f0:=fz n (show(0:Int) < (os.length:Int) by lia);have f1:=fK n (show(0:Int) < (os.length:Int) by lia);obtain⟨j,hj⟩:∃j:Nat,n.fmod (os.length:Int)=j:=⟨_,(ie f0).symm⟩;rw[hj] at f1 ⊢;exact⟨by lia,_,hou,j,Ig (by rw[aP];lia),hR _ _ ⟨os.set j ((ds.length:Int) - 1),iN s7 ou0,by rw[ar,List.map_set],by rw[gJ];exact o0,by rw[gJ];exact o8,JK hb d0,rfl⟩⟩
 rintro σ8 G8 hz9;refine hid λ Gz gz=>?_;obtain⟨os,s8,hou,o0,o8,hb,rfl⟩:=hz9;refine gz ?_;clear gz Gz;ktr_call ah ag
 exact⟨_,.inl ⟨.of (s8 _ _ h1),λ t1 ht1=>⟨_,.inl ⟨.of (af ht1 _ _ _ hou),λ t2 ht2=>⟨smd,λ p hp=>by
  have u:=(af ht1 (.tup (qs.map V.ref))).trans ((af ht2 (.tup (os.map V.int))).trans (af hp (.tup [V.ref t1,V.ref t2,V.ref sl])));have t8:=s8.trans u
  exact q _ p ds Ss os (s4.trans t8) ⟨t1,t2,sl,qs,ps,ar,af hp _ _ _ (af ht2 _ _ _ ar),h3.up (nh t8),af hp _ _ _ ar,t8 _ _ h2,h4.same t8,h5,d0,d40,o0,o8,hb⟩⟩⟩⟩⟩⟩
theorem MW(Y0:Cs Z0 78):ca (Cl Z0) 78:=kz2 Z0 Z0.g78 λ f fd F=>by
 have sc:=scq (aH Do) ["cells","steps"] ["made","n","step","row","k","lap","told"];refine F.ok sc (λ vs H Q E h=>?_) (λ cdv A outer s H vs Q E hr h=>?_)
 ·exact el7 vs h λ _ _ _ _ _ _ _ _=>rfl
 refine el7 vs h λ a st cs qs ds Ss mo h=>an8 h λ hS c63 hst sl gl hmo d40 q=>?_;refine⟨_,(aN 2 sc.nd (dP bK) (aN 3 sc.nd ae (bB (dN dU rfl (dM (pv 1)) (dD 4 sc.nd) (bx (iq (aC aR (aq aD (pv 4) ae) aO) (aN 5 sc.nd (dP bK) (bB (dN dU rfl (gF (by rfl) Z0.zrange (aG (ax (cc Y0 65) hr au (aG (aq aD (pv 4) ae))))) (dD 6 sc.nd) (aN 7 sc.nd (ay eY (pv 3) (cq (nJ rfl) Z0.zmax lh (ao ae (bz Z0.zlen (pv 0))))) (aN 8 sc.nd (ay cE (ay fR (ay fR (pv 7) (pv 7)) ae) (ay fR (pv 7) (pv 3))) (aI (aC gc (bz Z0.zlen (pv 0)) ae) (bx (fI 8 sc.nd (ay cE (pv 8) (aq pW (pv 0) (ay dB (pv 3) (bz Z0.zlen (pv 0))))))) (bB (cB (gK (pv 5) (ax (cc Y0 67) hr au (aG (pv 8))))) (bx (fI 3 sc.nd (ay cE (pv 3) ae)))))))) (bx (cB (gK (pv 2) (aU (ao (aq aD (pv 4) ae) (cC ((oq (K:=K) rfl)) Z0.ztuple cJ (aG (pv 5)))))))))) iX))) (av (cC fg Z0.ztuple cJ (aG (pv 2))))))),?_⟩
 (try dsimp only[bf]);simp only[L2.start,aV,aW,List.replicate,bi,bj,Nat.reduceSub,Nat.reduceAdd,aZ,bh]
 ktn_end (λ σ G=>∃md,Same H G/\H md=none/\G md=some (.lst [])/\σ=[some (.ref a),some (.ref st),some (.ref md),none,none,none,none,none,none])
 ·ktr_call ah ag;exact⟨bc _,λ l hl=>hR _ _ ⟨l,af hl _,hl,ar,rfl⟩⟩
 rintro σ1 G1 hz9;refine hid λ Gz gz=>?_;obtain⟨md,s1,md0,hmd,rfl⟩:=hz9;refine gz ?_;clear gz Gz;ktn_end (λ σ G=>G=G1/\σ=[some (.ref a),some (.ref st),some (.ref md),some (.int 0),none,none,none,none,none])
 ·ktr_call ah ag;exact hR _ _ ⟨rfl,rfl⟩
 rintro σ2 G2 ⟨rfl,rfl⟩;ktn_end (λ σ G=>∃(is:List Addr) (Is:List Tb) (y3 y4 y5 y6 y7 y8:Option V),Same H G/\G md=some (.lst (is.map V.ref))/\TbsL G is Is/\Is.map (·.1)=bJ ds/\(∀T∈Is,TbG mo T)/\σ=[some (.ref a),some (.ref st),some (.ref md),y3,y4,y5,y6,y7,y8])
 ·wp_walk using ah,da,eqV,ag;obtain⟨J,hJ⟩:∃J:Nat->L2.St->Hp->Prop,J=(λ i σ G=>∃(is:List Addr) (Is:List Tb) (n:Int) (y4 y5 y6 y7 y8:Option V),Same H G/\G md=some (.lst (is.map V.ref))/\TbsL G is Is/\Is.map (·.1)=bJ (ds.take i)/\(∀T∈Is,TbG mo T)/\0≤n/\n≤512 * i/\i≤ds.length/\σ=[some (.ref a),some (.ref st),some (.ref md),some (.int n),y4,y5,y6,y7,y8]):=⟨_,rfl⟩;refine LoopT.mk (xs:=qs.map V.ref) (.of (s1 _ _ hst)) J (by rw[hJ];exact⟨[],[],0,_,_,_,_,_,s1,hmd,⟨rfl,λ i p e=>nomatch e⟩,rfl,(λ _ h=>nomatch h),by decide,by decide,bc _,rfl⟩) (λ i σ G _ h=>by rw[hJ] at h;obtain⟨_,_,_,_,_,_,_,_,s,_⟩:=h;exact .of (s _ _ hst)) (λ i x σ G0 e h=>?_) (λ σ G h=>?_);rotate_left
  ·rw[hJ] at h;refine hid λ Gz gz=>?_;obtain⟨is,Is,n,y4,y5,y6,y7,y8,s,h1,h2,h3,h4,_,_,_,rfl⟩:=h;refine gz ?_;clear gz Gz;rw[aA,sl.1,cx] at h3;exact hR _ _ ⟨is,Is,_,_,_,_,_,_,s,h1,h2,h3,h4,rfl⟩
  clear hR;rw[hJ] at h;refine hid λ Gz gz=>?_;obtain⟨is,Is,n,y4,y5,y6,y7,y8,s,h1,h2,h3,h4,n0,n1,hi,rfl⟩:=h;obtain⟨p,rfl,hp⟩:=kz e;obtain⟨d,ed,hd⟩:=sl.2 i p hp;refine gz ?_;clear gz Gz;have idl:=(bv.mp ed).1;have il:i < Ss.length:=by rw[← gl.1];exact idl
  have eS:=aX il;generalize Ss[i]=S at eS;have ok:=gl.2.2 i d S ed eS;have fs:=gl.2.1 S (bw eS);refine hid λ Gz gz=>?_;obtain⟨xs,hp',h0,_,_⟩:=ig hd;refine gz ?_;clear gz Gz
  have isl:is.length≤i:=by
   have:=oV (ds.take i);rw[← h3,aA,← h2.1,be] at this;lia
  wp_walk using ah,da,eqV,ag;refine⟨_,s _ _ hp',_,aB (j:=0) h0,rfl,?_⟩;by_cases c:kdN d=0;rotate_left
  ·rw[if_neg (show ¬V.str (aL (kdN d))=V.str "in" from kw 0 (bQ d) (by decide) c),hJ];exact⟨is,Is,n,_,_,_,_,_,s,h1,h2,by rw[iQ ed,rq c];simpa using h3,h4,n0,by lia,idl,rfl⟩
  rw[if_pos (show V.str (aL (kdN d))=V.str "in" by rw[c];rfl)];obtain⟨ms,rfl⟩:=oU c;obtain⟨b,hp1,hb⟩:=hd;have eSm:=ok.1;subst eSm;have sd:=eR (gB fs hmo);have pz:=mN (gQ fs);have pA:=dR (gQ fs);have p5:=(gB fs hmo).2.2.2;ktn_end (λ σ G=>∃rw,Same G0 G/\G0 rw=none/\G rw=some (.lst [])/\σ=[some (.ref a),some (.ref st),some (.ref md),some (.int n),some (.ref p),some (.ref rw),y6,y7,y8])
  ·ktr_call ah ag;exact⟨bc _,λ l hl=>hR _ _ ⟨l,af hl _,hl,ar,rfl⟩⟩
  rintro σ3 G3 hz9;refine hid λ Gz gz=>?_;obtain⟨rw,s3,rw0,hrw,rfl⟩:=hz9;refine gz ?_;clear gz Gz;have s4:=s.trans s3;have rw1:=qS s rw0;have rm:rw≠md:=λ z=>by rw[z,h1] at rw0;cases rw0
  ktn_end (λ σ G=>∃(ns:LI) (y6 y7 y8:Option V),Same G0 G/\(ns.length:Int)=ai S/\(∀c∈ns,inB c)/\G rw=some (.lst (ns.map V.int))/\σ=[some (.ref a),some (.ref st),some (.ref md),some (.int (n+ai S)),some (.ref p),some (.ref rw),y6,y7,y8])
  ·wp_walk using ah,da,eqV,ag,oX;refine⟨_,s4 _ _ hp1,_,aB (j:=1) rfl,b,rfl,S,.inr (s4 _ _ hb),sd,by lia,by lia,?_⟩;refine LoopR.mk (λ k σ G=>∃(ns:LI) (y6 y7 y8:Option V),Same G0 G/\ns.length=k/\(∀c∈ns,inB c)/\G rw=some (.lst (ns.map V.int))/\σ=[some (.ref a),some (.ref st),some (.ref md),some (.int (n+(k:Int))),some (.ref p),some (.ref rw),y6,y7,y8]) ⟨[],_,_,_,s3,rfl,(λ _ h=>nomatch h),hrw,by rw[show((0:Nat):Int)=0 from rfl,Int.add_zero]⟩ (λ k σ G hk h=>?_) (λ σ G h=>?_);rotate_left
   ·refine hid λ Gz gz=>?_;obtain⟨ns,y6,y7,y8,s',nl,nb,hns,rfl⟩:=h;refine gz ?_;clear gz Gz;have e:((ai S).toNat:Int)=ai S:=ie pz;rw[e] at *;exact hR _ _ ⟨ns,_,_,_,s',by lia,nb,hns,rfl⟩
   refine hid λ Gz gz=>?_;obtain⟨ns,y6,y7,y8,s',nl,nb,hns,rfl⟩:=h;have hS':=(s.trans s').seq hS;obtain⟨m,em⟩:∃m,n+(k:Int)=m:=⟨_,rfl⟩;refine gz ?_;clear gz Gz;have em1:n+((k+1:Nat):Int)=m+1:=by lia
   have nk:m≤30000:=by lia
   have nk0:0≤m:=by lia
   simp only[em,em1];cell_end ah ag vE;refine⟨cs.map V.int,.inl hS',?_⟩;obtain⟨z,ez⟩:∃z:Int,(if ((cs.map V.int).length:Int) > 1 then ((cs.map V.int).length:Int) else 1)=z:=⟨_,rfl⟩;have z0:0 < z/\z≤63:=by rw[aA] at ez;split at ez<;>lia
   simp only[ez];have lz:0≤m / z:=uq nk0 (by lia);have lz1:m / z≤m:=qY _ nk0;obtain⟨lp,el⟩:∃lp,m / z=lp:=⟨_,rfl⟩;rw[el] at lz lz1;simp only[el];refine⟨by lia,by lia,.inl ⟨by lia,by lia⟩,.inl ⟨by lia,by lia⟩,cs.map V.int,.inl hS',?_⟩;have nx:∀v:Int,(∃xs,G rw=some (.lst xs))/\∀H',Same G H'->∃xs,H' rw=some (.lst xs)/\xs.length < sizeLine/\Same G0 (upd H' rw (.lst (xs++[V.int (lw v)])))/\∃x:LI,x.length=k+1/\(∀c∈x,inB c)/\xs++[V.int (lw v)]=x.map V.int/\∃y,some (V.int v)=y:=λ v=>⟨⟨_,hns⟩,λ H' u=>⟨_,u _ _ hns,by rw[aA,nl];exact bD (by lia),iN (s'.trans u) rw0,ns++[lw v],by rw[bu,nl];rfl,λ c hc=>(cZ.mp hc).elim (nb c) (λ y=>by cases bL.mp y;exact IE v),by rw[aY];rfl,_,rfl⟩⟩;by_cases c0:0 < cs.length
   ·rw[if_pos (by rw[aA];lia)];have hm:m.fmod ((cs.map V.int).length:Int)=((m % (cs.length:Int)).toNat:Int):=by rw[aA,pJ _ (by lia),ie (oG _ (by lia))]
    have jl:(m % (cs.length:Int)).toNat < cs.length:=by
     have:=qN m (show(0:Int) < cs.length by lia);have:=oG m (show(cs.length:Int)≠0 by lia);lia
    exact⟨cs.map V.int,.inl hS',by rw[aA];lia,_,hS',_,by rw[hm];exact aB (v:=V.int cs[(m % (cs.length:Int)).toNat]) (by rw[bA,aX jl];rfl),_,rfl,nx _⟩
   ·rw[if_neg (by rw[aA];lia)];exact nx _
  rintro σ5 G5 hz9;refine hid λ Gz gz=>?_;obtain⟨ns,y6,y7,y8,s5,nl,nb,hns,rfl⟩:=hz9;refine gz ?_;clear gz Gz;have t5:=s.trans s5;have hm5:=s5 _ _ h1;ktr_call ah ag;refine⟨⟨_,hm5⟩,_,t5 _ _ hp1,_,aB (j:=1) rfl,_,.inl ⟨.of hns,λ t ht=>⟨smd,λ pt hpt=>⟨_,af hpt _ _ _ (af ht _ _ _ hm5),by rw[aA];exact bD (by lia),?_⟩⟩⟩⟩;have v:=(af ht (.tup (ns.map V.int))).trans (af hpt (.tup [V.ref b,V.ref t]));have hmv:=v _ _ hm5;have up:=jz (ys:=is.map V.ref++[V.ref pt]) hmv;rw[hJ];refine⟨is++[pt],Is++[(S,ns)],n+ai S,_,_,_,_,_,iN (t5.trans v) md0,by rw[ar,aY];rfl,(h2.up ((nh (s5.trans v)).trans up)).snoc ⟨b,t,up.1 _ _ ar,up.1 _ _ (v _ _ (t5 _ _ hb)),up.1 _ _ (af hpt _ _ _ ar)⟩,by rw[aY,h3,iQ ed];rfl,λ T hT=>?_,by lia,by lia,idl,rfl⟩
  rcases cZ.mp hT with y | y
  ·exact h4 T y
  ·cases bL.mp y;exact⟨fs,nl,nb⟩
 rintro σ3 G3 hz9;refine hid λ Gz gz=>?_;obtain⟨is,Is,y3,y4,y5,y6,y7,y8,s3,h1,h2,h3,h4,rfl⟩:=hz9;refine gz ?_;clear gz Gz;ktr_call ah ag;exact⟨_,.inl ⟨.of h1,λ t1 ht1=>q _ t1 is Is (s3.trans (af ht1 _)) ar (h2.sm (.of (af ht1 _))) h3 h4⟩⟩
theorem MX(Y0:Cs Z0 79):ca (Cl Z0) 79:=kz2 Z0 Z0.g79 λ f fd F=>by
 have sc:=scq (aH Dp) ["found","sides"] ["n"];refine F.ok sc (λ vs H Q E h=>?_) (λ cdv A outer s H vs Q E hr h=>?_)
 ·obtain⟨f,s,S,C,rfl,_⟩:=h;rfl
 obtain⟨f,s,S,C,rfl,⟨b,c,hf,hb,hc⟩,hs,fs,cl,cb,q⟩:=h;refine⟨_,(aI (PW.pt (dH (gC (eW (cq qo Z0.zisinstance nB (ao (pv 0) (lT (v:=.ty "tuple") (by rfl) Z0.ztuple cJ rfl))))) (dH (aC gb (bz Z0.zlen (pv 0)) ae) (eK (gC (eW (ax (cc Y0 64) hr au (ao (aq aD (pv 0) ae) (pv 1))))))))) (av fZ) (aI (PW.pt (dH (gC (eW (cq qo Z0.zisinstance nB (ao (aq aD (pv 0) ae) (lT (v:=.ty "tuple") (by rfl) Z0.ztuple cJ rfl))))) (eK (aC gb (bz Z0.zlen (aq aD (pv 0) ae)) (ax (cc Y0 65) hr au (aG (pv 1))))))) (av fZ) (bB (dN dU rfl (dM (aq aD (pv 0) ae)) (dD 2 sc.nd) (bx (iq (PW.pt (dH (gC (eW (ax (cc Y0 62) hr au (aG (pv 2))))) (dH (aC dO (pv 2) (lV lW (ay iZ ae ae))) (eK (aC gc (pv 2) (ay eN (ay iZ ae ae) ae)))))) (av fZ) iX))) (av fZ)))),?_⟩
 (try dsimp only[bf]);simp only[L2.start,aV,aW,List.replicate,bi,bj,Nat.reduceSub,Nat.reduceAdd,aZ,bh]
 have sd:=eR fs;have s6:=fs.2.1;ktn_end (λ σ G=>G=H/\σ=[some (.ref f),some (.ref s),none])
 ·cell_end ah ag CV;refine⟨_,hf,_,.inr (.of hf),?_⟩;rw[if_neg (λ z=>z rfl)];exact⟨_,hf,_,aB (j:=0) rfl,b,rfl,S,hb,.inr hs,by lia,hR _ _ ⟨rfl,rfl⟩⟩
 rintro σ1 G1 ⟨rfl,rfl⟩;ktn_end (λ σ G=>G=G1/\σ=[some (.ref f),some (.ref s),none])
 ·cell_end ah ag oX;refine⟨_,hf,_,aB (j:=1) rfl,c,rfl,_,hc,_,hf,_,aB (j:=1) rfl,c,rfl,_,.inr (.of hc),S,.inr hs,sd,?_⟩;rw[aA,cl,if_neg (λ z=>z rfl)];exact hR _ _ ⟨rfl,rfl⟩
 rintro σ2 G2 ⟨rfl,rfl⟩;ktn_end (λ σ G=>G=G2)
 ·ktr_call ah ag;refine⟨_,hf,_,aB (j:=1) rfl,?_⟩;refine LoopT.mk (xs:=C.map V.int) (.of hc) (λ i σ G=>G=G2/\∃y,σ=[some (.ref f),some (.ref s),y]) ⟨rfl,_,rfl⟩ (λ i σ G _ h=>by rw[h.1];exact .of hc) (λ i x σ G e h=>?_) (λ σ G h=>?_)
  ·refine hid λ Gz gz=>?_;obtain⟨rfl,y,rfl⟩:=h;obtain⟨n,rfl,hn⟩:=dE e;refine gz ?_;clear gz Gz;have bn:=cb n (bw hn);have b1:=bn.1;have b2:=bn.2;cell_end ah ag vD;rw[if_neg (by lia),if_neg (by lia)];exact⟨_,rfl⟩
  ·obtain⟨rfl,y,rfl⟩:=h;exact hR _ _ rfl
 rintro σ3 G3 rfl;ktr_call ah ag;exact q
theorem MY(Y0:Cs Z0 80):ca (Cl Z0) 80:=kz3 Z0 Z0.g80 λ f fd F=>by
 have sc:=scq (aH Dq) ["found","due","sides"] ["k"];refine F.ok sc (λ vs H Q E h=>?_) (λ cdv A outer s H vs Q E hr h=>?_)
 ·exact el8 vs h λ _ _ _ _ _ _ _ _ _=>rfl
 refine el8 vs h λ f d s ts us ps Ts mo h=>ny h λ hf hd hs tt tu sd hmo gT t40 q=>?_;refine⟨_,(aI (PW.pt (dH (gC (eW (cq qo Z0.zisinstance nB (ao (pv 0) (lT (v:=.ty "tuple") (by rfl) Z0.ztuple cJ rfl))))) (eK (aC gb (bz Z0.zlen (pv 0)) (bz Z0.zlen (pv 1)))))) (av fZ) (bB (dN dU rfl (gF (by rfl) Z0.zrange (aG (bz Z0.zlen (pv 1)))) (dD 3 sc.nd) (bx (iq (PW.pt (dH (gC (eW (ax (cc Y0 79) hr au (ao (aq aD (pv 0) (pv 3)) (aq bp (pv 2) (pv 3)))))) (eK (aC (yK (yL hr)) (aq aD (pv 0) (pv 3)) (aq qD (pv 1) (pv 3)))))) (av fZ) iX))) (av fZ))),?_⟩
 (try dsimp only[bf]);simp only[L2.start,aV,aW,List.replicate,bi,bj,Nat.reduceSub,Nat.reduceAdd,aZ,bh]
 have dl:∃ys,(SqL K H d ys\/SqT K H d ys)/\ys.length=Ts.length:=by
  rcases hd with e | e
  ·exact⟨_,.inl (.of e),by rw[aA,tu.1]⟩
  ·exact⟨_,.inr (.of e),by rw[aA,tu.1]⟩
 obtain⟨ys,hy,yl⟩:=dl;ktn_end (λ σ G=>G=H/\σ=[some (.ref f),some (.ref d),some (.ref s),none])
 ·ktr_call ah ag;refine⟨_,hf,_,.inr (.of hf),ys,hy,?_⟩;rw[aA,tt.1,yl,if_neg (λ z=>z rfl)];exact hR _ _ ⟨rfl,rfl⟩
 rintro σ1 G1 ⟨rfl,rfl⟩;ktn_end (λ σ G=>G=G1)
 ·ktr_call ah ag;refine⟨ys,hy,?_⟩;rw[yl];refine⟨by lia,by lia,?_⟩;rw[Int.toNat_natCast];refine LoopR.mk (λ i σ G=>G=G1/\∃y,σ=[some (.ref f),some (.ref d),some (.ref s),y]) ⟨rfl,_,rfl⟩ (λ k σ G hk h=>?_) (λ σ G h=>?_)
  ·obtain⟨rfl,y,rfl⟩:=h;rw[mK];have eT:Ts[k]?=some Ts[k]:=aX hk;generalize Ts[k]=T at eT;refine hid λ Gz gz=>?_;obtain⟨t,et,ht⟩:=rk tt eT;obtain⟨u,eu,hu⟩:=rk tu eT;obtain⟨p,ep,hp⟩:=sd k T eT;refine gz ?_;clear gz Gz;have g:=gT T (bw eT);cell_end ah ag Bf;exact⟨_,hf,_,rs et,_,hs,_,rs ep,t,rfl,p,rfl,T.1,T.2,ht,hp,gB g.1 hmo,g.2.1,g.2.2,_,hf,_,rs et,_,hd,_,rs eu,⟨_,rfl⟩,Kr ht hu,_,rfl⟩
  ·exact hR _ _ h.1
 rintro σ2 G2 rfl;ktr_call ah ag;exact q
theorem MZ(Y0:Cs Z0 81)(F:Fun K "law" "law" vG f fd):FnOk P w K mg base CX0 15 f fd ["script"] (qT K [TD,TL,TE,TC,TT,TP,TU,TS,TJ]):=by
 have sc:=scq (aH vG) ["script"] ["steps","outs","sides","inputs","whole","cell","many","own","begun","others","told"];refine F.ok sc (λ vs H Q E h=>?_) (λ cdv A outer s H vs Q E hr h=>?_)
 ·exact el2 vs h λ _ _ _=>rfl
 refine el2 vs h λ a ns h=>an4 h λ hS h63 hTs q=>?_;refine⟨_,(bB (wj (ax (cc Y0 77) hr au (ao (cn Et (pv 0) (bY ae) (bY ae)) (ay cE ae (ay cH (ax (cc Y0 63) hr au (ao (pv 0) ae)) ae)))) (kR (n:=3) (jK rfl (dX (iu (i:=1) sc.nd rfl (by first | exact Or.inl rfl | exact Or.inr rfl)) (dX (iu (i:=2) sc.nd rfl (by first | exact Or.inl rfl | exact Or.inr rfl)) (dX (iu (i:=3) sc.nd rfl (by first | exact Or.inl rfl | exact Or.inr rfl)) jJ)))))) (aN 4 sc.nd (ax (cc Y0 78) hr au (ao (pv 0) (pv 1))) (aN 5 sc.nd (ax (cc Y0 60) hr au (ao (aU (ao (pv 1) (pv 2))) (pv 4))) (aI (gC (eW (ax (cc Y0 80) hr au (aE (pv 5) (ao (cC ((AB (K:=K) rfl)) Z0.zlist s0v (aG (pv 5))) (pv 3)))))) (av fZ) (aN 6 sc.nd (ax (cc Y0 63) hr au (ao (pv 0) ae)) (aN 7 sc.nd (ay cE ae (ay dB (pv 6) (cq ((ng (K:=K) rfl)) Z0.zlen lj (aG (pv 1))))) (bB (zq (own:=["step"]) sc.nd (i:=8) rfl (by first | exact Or.inl rfl | exact Or.inr rfl) (by first | exact Or.inl rfl | exact Or.inr rfl) rfl (dM (cn cN (pv 1) cu (bY (pv 7)))) (by decide) (by decide) rfl (by decide) (λ _ _ _ _=>(iu (i:=0) (show(["step"]:List Str).Nodup by decide +kernel) rfl (by first | exact Or.inl rfl | exact Or.inr rfl))) (λ _ _ _ _=>(pv 0)) (λ _ _ _ _=>(aC aR (aq aD (pv 0) ae) aO))) (aN 9 sc.nd (aU (ao (cn cN (pv 1) cu (bY (pv 7))) (aU (aG (ay dB (ay eY (pv 6) ae) (pv 7)))))) (aI (gC (eW (ax (cc Y0 80) hr au (aE (ax (cc Y0 60) hr au (ao (pv 9) (cn cN (pv 4) cu (bY (bz Z0.zlen (pv 8)))))) (ao (cn cN (pv 5) cu (bY (pv 7))) (pv 3)))))) (av fZ) (aN 10 sc.nd (cC ((oq (K:=K) rfl)) Z0.ztuple cJ (aG (dZ (own:=["k"]) (fv:=["cell","steps"]) (js:=[6,1]) rfl (gF (by rfl) Z0.zrange (aG (ay cE ae (ay cH (pv 6) ae)))) rfl (by decide) rfl (by decide) (by first | exact λ _ _ h=>h | exact dh rfl | exact dk rfl rfl | exact dn rfl rfl rfl) (dg (by rfl)) rfl (nY (by first | exact⟨rfl,.inl rfl,.inl rfl⟩ | exact⟨rfl,.inl rfl,.inr rfl⟩) (by first | exact⟨rfl,.inl rfl,.inl rfl⟩ | exact⟨rfl,.inl rfl,.inr rfl⟩)) (λ _ _ _ _=>(iu (i:=0) (show(["k","cell","steps"]:List Str).Nodup by decide +kernel) rfl (by first | exact Or.inl rfl | exact Or.inr rfl))) (λ _ _ _ _=>(ay dB (ay eY (pv 1) (ay cE (pv 0) ae)) (cq ((ng (K:=K) rfl)) Z0.zlen lj (aG (pv 2)))))))) (aI (gC (eW (ax (cc Y0 80) hr au (aE (ax (cc Y0 60) hr au (ao (aU (ao (pv 1) (pv 10))) (pv 4))) (ao (pv 5) (pv 3)))))) (av fZ) (aN 11 sc.nd (ax (cc Y0 61) hr au (ao (aU (ao (pv 1) (pv 10))) (pv 4))) (av (ax (cc Y0 80) hr au (aE (pv 11) (ao (dZ (own:=["out"]) (fv:=["whole"]) (js:=[5]) rfl (dM (pv 10)) rfl (by decide) rfl (by decide) (by first | exact λ _ _ h=>h | exact dh rfl | exact dk rfl rfl | exact dn rfl rfl rfl) (dg (by rfl)) rfl (eh (by first | exact⟨rfl,.inl rfl,.inl rfl⟩ | exact⟨rfl,.inl rfl,.inr rfl⟩)) (λ _ _ _ _=>(iu (i:=0) (show(["out","whole"]:List Str).Nodup by decide +kernel) rfl (by first | exact Or.inl rfl | exact Or.inr rfl))) (λ _ _ _ _=>(aq aD (pv 1) (pv 0)))) (dZ (own:=["out"]) (fv:=["sides"]) (js:=[3]) rfl (dM (pv 10)) rfl (by decide) rfl (by decide) (by first | exact λ _ _ h=>h | exact dh rfl | exact dk rfl rfl | exact dn rfl rfl rfl) (dg (by rfl)) rfl (eh (by first | exact⟨rfl,.inl rfl,.inl rfl⟩ | exact⟨rfl,.inl rfl,.inr rfl⟩)) (λ _ _ _ _=>(iu (i:=0) (show(["out","sides"]:List Str).Nodup by decide +kernel) rfl (by first | exact Or.inl rfl | exact Or.inr rfl))) (λ _ _ _ _=>(aq bp (pv 1) (pv 0)))))))))))))))))))),?_⟩
 (try dsimp only[bf]);simp only[L2.start,aV,aW,List.replicate,bi,bj,Nat.reduceSub,Nat.reduceAdd,aZ,bh]
 have tt:TabsL (T9 TD TL TE TC TT TP TU TS TJ) H:=λ x hx=>by
  refine⟨#[],hTs _ ?_,trivial,.inl rfl⟩;have:=List.mem_map_of_mem (f:=λ x=>x.1) hx;exact this
 ktn_end (λ σ G=>∃(st ot sl:Addr) (qs ps:List Addr) (ds:List Stp) (Ss:LL) (os:LI) (mo:Int),Same H G/\cW mo/\G st=some (.tup (qs.map V.ref))/\StL G qs ds/\G ot=some (.tup (os.map V.int))/\G sl=some (.lst (ps.map V.ref))/\TpsM G ps Ss/\fX mo ds Ss/\0 < ds.length/\ds.length≤40/\0 < os.length/\os.length≤8/\(∀o∈os,0≤o/\o < (ds.length:Int))/\σ=[some (.ref a),some (.ref st),some (.ref ot),some (.ref sl),none,none,none,none,none,none,none,none])
 ·wp_walk using eX,da,eqV,ah,ag,AE,CT,wY;obtain⟨ms,e8,m8⟩:=Kt ns;refine⟨_,hS,λ p hp=>?_⟩;rw[e8];have sp:=af hp (.lst (ms.map V.int));have hmo:cW (2+ur ns 0 % 23):=⟨by lia,by lia⟩;refine⟨ns,0,rfl,sp.seq hS,ms,rfl,m8,hmo,λ G r ds Ss os u pr=>?_⟩;refine hid λ Gz gz=>?_;obtain⟨st,ot,sl,qs,ps,hr0,h1,h3,hot,h2,h4,h5,d0,d40,o0,o8,ob⟩:=pr;refine gz ?_;clear gz Gz;exact⟨_,hr0,rfl,_,_,rfl,_,_,rfl,_,_,rfl,rfl,hR _ _ ⟨st,ot,sl,qs,ps,ds,Ss,os,_,sp.trans u,hmo,h1,h3,hot,h2,h4,h5,d0,d40,o0,o8,ob,rfl⟩⟩
 rintro σ1 G1 hz9;refine hid λ Gz gz=>?_;obtain⟨st,ot,sl,qs,ps,ds,Ss,os,mo,s1,hmo,h1,h3,hot,h2,h4,h5,d0,d40,o0,o8,ob,rfl⟩:=hz9;refine gz ?_;clear gz Gz;have ft:=AU h5 hmo;have dS:=h5.1;have T1:=tt.same s1;have gd:lD mo ds Ss os:=⟨hmo,h5,d0,d40,o0,o8,ob⟩;ktn_end (λ σ G=>∃(it:Addr) (is:List Addr) (Is:List Tb),Same G1 G/\G it=some (.tup (is.map V.ref))/\TbsL G is Is/\Is.map (·.1)=bJ ds/\(∀T∈Is,TbG mo T)/\σ=[some (.ref a),some (.ref st),some (.ref ot),some (.ref sl),some (.ref it),none,none,none,none,none,none,none])
 ·ktr_call ah ag;exact⟨a,st,ns,qs,ds,Ss,mo,rfl,s1.seq hS,h63,h1,h3,h5,hmo,d40,λ G it is Is u e1 e2 e3 e4=>hR _ _ ⟨it,is,Is,u,e1,e2,e3,e4,rfl⟩⟩
 rintro σ2 G2 hz9;refine hid λ Gz gz=>?_;obtain⟨it,is,Is,s2,hit,tbs,eI,gI,rfl⟩:=hz9;refine gz ?_;clear gz Gz;ktn_end (λ σ G=>∃(fo:Addr) (ts:List Addr),SmT G2 G/\TabsL (T9 TD TL TE TC TT TP TU TS TJ) G/\G fo=some (.tup (ts.map V.ref))/\TbsL G ts (bO ds Ss Is ds.length)/\σ=iR a st ot sl it fo [none,none,none,none,none,none])
 ·ktr_call ah ag;exact⟨smd,λ p hp=>⟨p,it,ds,Ss,os,mo,is,Is,rfl,⟨st,ot,qs,ar,af hp _ _ _ (s2 _ _ h1),h3.up (nh (s2.trans (af hp _))),af hp _ _ _ (s2 _ _ hot)⟩,gd,af hp _ _ _ hit,tbs.sm (.of (af hp _)),eI,gI,(T1.same s2).same (af hp _),λ G t ts u T e1 e2=>hR _ _ ⟨t,ts,(SmT.of (af hp _)).trans u,T,e1,e2,rfl⟩⟩⟩
 rintro σ3 G3 hz9;refine hid λ Gz gz=>?_;obtain⟨fo,ts,s3,T3,hfo,tf,rfl⟩:=hz9;refine gz ?_;clear gz Gz;have tl:ts.length=ds.length:=by rw[tf.1,kA]
 have t3:=(SmT.of s2).trans s3;obtain⟨gN1,gN2⟩:=vh hmo h5 eI gI ds.length (aJ _);have gN0:Ss.take ds.length=Ss:=by rw[dS,cx]
 rw[gN0] at gN1;have tN:(bO ds Ss Is ds.length).length=ds.length:=kA ..
 have sid:∀ {G:Hp},SmT G3 G->By G ps (bO ds Ss Is ds.length):=λ {G} s k T e=>by
  have eS:Ss[k]?=some T.1:=by rw[← gN1,bA,e];rfl
  exact Ks (h4.up (lI (t3.trans s))) eS
 ktn_end (λ σ G=>Same G3 G/\σ=iR a st ot sl it fo [none,none,none,none,none,none])
 ·ktr_call ah ag;refine⟨_,.inr (.of hfo),λ l hl=>?_⟩;have v:=af hl (.lst (ts.map V.ref));have m:=SmT.of v;exact⟨fo,l,sl,ts,ts,ps,_,mo,rfl,v _ _ hfo,.inl ar,m.lst (t3.lst h2),tf.sm m,tf.sm m,sid m,hmo,gN2,by lia,vm (hR _ _ ⟨v,rfl⟩)⟩
 rintro σ4 G4 ⟨s4,rfl⟩;ktn_end (λ σ G=>G=G4/\∃cell:Int,σ=iR a st ot sl it fo [some (.int cell),none,none,none,none,none])
 ·ktr_call ah ag;have m:=(SmT.of s1).trans (t3.trans (.of s4));exact⟨a,ns,1,rfl,m.seq hS,hR _ _ ⟨rfl,_,rfl⟩⟩
 rintro σ5 G5 ⟨rfl,cell,rfl⟩;have t5:=t3.trans (.of s4);ktn_end (λ σ G=>G=G5/\∃m:Nat,0 < m/\m≤ds.length/\σ=iR a st ot sl it fo [some (.int cell),some (.int (m:Int)),none,none,none,none])
 ·ktr_call ah ag;refine⟨_,.inr (.of (t5.tup h1)),?_⟩;rw[aA,h3.1];obtain⟨j,jl,ej⟩:=vk cell (show 0 < ds.length by lia);rw[ej];exact⟨by lia,hR _ _ ⟨rfl,j+1,by lia,by lia,by rw[show((j+1:Nat):Int)=1+(j:Int) by lia]⟩⟩
 rintro σ6 G6 hz9;refine hid λ Gz gz=>?_;obtain⟨rfl,m,m0,m1,rfl⟩:=hz9;refine gz ?_;clear gz Gz;ktn_end (λ σ G=>∃(ow:Addr) (as:List Addr),Same G6 G/\G ow=some (.lst (as.map V.ref))/\as.length=(bJ (ds.take m)).length/\σ=iR a st ot sl it fo [some (.int cell),some (.int (m:Int)),some (.ref ow),none,none,none])
 ·ktr_call ah ag;refine⟨_,t5.tup h1,λ r H' u hr'=>?_⟩;rw[rA,← jr] at hr';refine CompTI.mk (xs:=(qs.take m).map V.ref) (.of hr') (λ i ys σ G=>G=H'/\i≤m/\(∃as:List Addr,ys=as.map V.ref/\as.length=(bJ (ds.take i)).length)/\∃y,σ=[y]) ⟨rfl,bc _,⟨[],rfl,rfl⟩,_,rfl⟩ (λ i ys σ G _ h=>?_) (λ i x ys σ G e h=>?_) (λ ys σ G h p hp=>?_)
  ·refine hid λ Gz gz=>?_;obtain⟨rfl,im,⟨as,rfl,al⟩,y,rfl⟩:=h;refine gz ?_;clear gz Gz;have il:=oV (ds.take i);rw[be] at il;exact⟨.of hr',by rw[aA,al];exact bD (by lia)⟩
  ·refine hid λ Gz gz=>?_;obtain⟨rfl,im,⟨as,rfl,al⟩,y,rfl⟩:=h;obtain⟨p,rfl,hp⟩:=kz e;refine gz ?_;clear gz Gz;have il:=(bv.mp hp).1;have im1:i < m:=by rw[be] at il;lia
   rw[eZ im1] at hp;refine hid λ Gz gz=>?_;obtain⟨d,ed,hd⟩:=h3.2 i p hp;obtain⟨xs,hp',h0,_,_⟩:=ig hd;refine gz ?_;clear gz Gz;ktr_call ah ag;refine⟨_,u _ _ (t5.tup hp'),_,aB (j:=0) h0,rfl,?_⟩;by_cases c:kdN d=0
   ·rw[if_pos (show V.str (aL (kdN d))=V.str "in" by rw[c];rfl)];obtain⟨ms,rfl⟩:=oU c;exact⟨im1,⟨as++[p],by rw[aY];rfl,by rw[iQ ed,bu,bu,al];rfl⟩,_,rfl⟩
   ·rw[if_neg (show ¬V.str (aL (kdN d))=V.str "in" from kw 0 (bQ d) (by decide) c)];exact⟨im1,⟨as,rfl,by rw[iQ ed,rq c];simpa using al⟩,_,rfl⟩
  ·refine hid λ Gz gz=>?_;obtain⟨rfl,im,⟨as,rfl,al⟩,y,rfl⟩:=h;refine gz ?_;clear gz Gz;rw[aA,be,h3.1,kZ m1] at al;exact hR _ _ ⟨p,as,u.trans (af hp _),ar,al,rfl⟩
 rintro σ7 G7 hz9;refine hid λ Gz gz=>?_;obtain⟨ow,as,s7,how,asl,rfl⟩:=hz9;refine gz ?_;clear gz Gz;have t7:=t5.trans (.of s7);ktn_end (λ σ G=>∃(bg qa oa:Addr) (j:Nat),Same G7 G/\j < m/\G bg=some (.tup [.ref qa,.ref oa])/\G qa=some (.tup ((qs.take m).map V.ref))/\G oa=some (.tup [.int (j:Int)])/\σ=iR a st ot sl it fo [some (.int cell),some (.int (m:Int)),some (.ref ow),some (.ref bg),none,none])
 ·ktr_call ah ag;refine⟨_,t7.tup h1,λ r H' u hr'=>⟨by lia,smd,λ p hp=>⟨smd,λ p1 hp1=>?_⟩⟩⟩;rw[rA,← jr] at hr';obtain⟨j,jl,ej⟩:=vk (cell / 64) m0;rw[ej] at hp1 ⊢;exact hR _ _ ⟨p1,r,p,j,u.trans ((af hp _).trans (af hp1 _)),jl,ar,af hp1 _ _ _ (af hp _ _ _ hr'),af hp1 _ _ _ ar,rfl⟩
 rintro σ8 G8 hz9;refine hid λ Gz gz=>?_;obtain⟨bg,qa,oa,j,s8,jm,hbg,hqa,hoa,rfl⟩:=hz9;refine gz ?_;clear gz Gz;have t8:=t7.trans (.of s8);have f8:SmT G3 G8:=.of (s4.trans (s7.trans s8));have T8:=((T3.same s4).same s7).same s8;have dm:(ds.take m).length=m:=by rw[be];lia
 ktn_end (λ σ G=>SmT G8 G/\TabsL (T9 TD TL TE TC TT TP TU TS TJ) G/\σ=iR a st ot sl it fo [some (.int cell),some (.int (m:Int)),some (.ref ow),some (.ref bg),none,none])
 ·ktr_call ah ag;refine⟨_,.inl (.of (s8 _ _ how)),_,f8.tup (s3.tup hit),λ r H' u hr'=>?_⟩;rw[aA,asl,rA,← jr] at hr';have f9:=f8.trans (SmT.of u);have t9:=t8.trans (SmT.of u);refine⟨bg,r,ds.take m,Ss.take m,[(j:Int)],mo,is.take (bJ (ds.take m)).length,Is.take (bJ (ds.take m)).length,rfl,⟨qa,oa,qs.take m,u _ _ hbg,u _ _ hqa,(h3.up (lI t9)).take m,u _ _ hoa⟩,⟨hmo,Kw h5 m,by lia,by lia,by simp,by simp,λ o ho=>by cases bL.mp ho;rw[dm];lia⟩,hr',(tbs.sm (s3.trans f9)).take _,by rw[jr,eI];exact Ku ds m,λ T hT=>gI T (kj hT),T8.same u,λ G t us' s9 T9' e1 e2=>⟨_,(f9.trans s9).tup hfo,λ r2 H2 u2 hr2=>?_⟩⟩;rw[rA,← jr] at hr2;rw[dm,Bw ds Ss Is m m (aJ _)] at e2;have fA:=(f9.trans s9).trans (SmT.of u2);have tk:(bO ds Ss Is ds.length).take m=bO ds Ss Is m:=by have:=Be ds Ss Is m (ds.length - m);rwa [show m+(ds.length - m)=ds.length by lia] at this
  have e3:=(tf.sm fA).take m;rw[tk] at e3;exact⟨t,r2,sl,us',ts.take m,ps,bO ds Ss Is m,mo,rfl,u2 _ _ e1,.inr hr2,fA.lst (t3.lst h2),e2.sm (.of u2),e3,λ k T e=>sid fA k T (by rw[← tk] at e;have il:=(bv.mp e).1;rw[be] at il;rwa [eZ (by lia)] at e),hmo,λ T hT=>gN2 T (by rw[← tk] at hT;exact kj hT),by rw[kA];lia,vm (hR _ _ ⟨(SmT.of u).trans (s9.trans (.of u2)),T9'.same u2,rfl⟩)⟩
 rintro σ9 G9 ⟨s9,T9',rfl⟩;have t9:=t8.trans s9;have f9:=f8.trans s9;ktn_end (λ σ G=>∃(oh:Addr) (us:LI),Same G9 G/\G oh=some (.tup (us.map V.int))/\0 < us.length/\us.length≤8/\(∀o∈us,0≤o/\o < (ds.length:Int))/\σ=iR a st ot sl it fo [some (.int cell),some (.int (m:Int)),some (.ref ow),some (.ref bg),some (.ref oh),none])
 ·ktr_call ah ag;refine⟨by lia,by lia,CompR.mk (λ i ys σ G=>G=G9/\(∃us:LI,ys=us.map V.int/\us.length=i/\∀o∈us,0≤o/\o < (ds.length:Int))/\∃y,σ=[y,some (.int cell),some (.ref st)]) ⟨rfl,⟨[],rfl,rfl,λ _ h=>nomatch h⟩,_,rfl⟩ (λ i ys σ G hi h=>?_) (λ ys σ G h l hl=>?_)⟩
  ·refine hid λ Gz gz=>?_;obtain⟨rfl,⟨us,rfl,ul,ub⟩,y,rfl⟩:=h;refine gz ?_;clear gz Gz;refine⟨by rw[aA,ul];exact bD (by lia),?_⟩;ktr_call ah ag;refine⟨by lia,by lia,_,.inr (.of (t9.tup h1)),?_⟩;rw[aA,h3.1];obtain⟨j,jl,ej⟩:=vk (cell / (0+(i:Int)+3)) d0;rw[ej];refine⟨by lia,⟨us++[(j:Int)],by rw[aY];rfl,by rw[bu,ul];rfl,λ o ho=>?_⟩,_,rfl⟩
   rcases cZ.mp ho with ho | ho
   ·exact ub o ho
   ·cases bL.mp ho;lia
  ·refine hid λ Gz gz=>?_;obtain⟨rfl,⟨us,rfl,ul,ub⟩,y,rfl⟩:=h;refine gz ?_;clear gz Gz;exact⟨l,rfl,_,.inl ⟨.of ar,λ l2 hl2=>hR _ _ ⟨l2,us,(af hl _).trans (af hl2 _),ar,by lia,by lia,ub,rfl⟩⟩⟩
 rintro σA GA hz9;refine hid λ Gz gz=>?_;obtain⟨oh,us,sA,hoh,u0,u8,ub,rfl⟩:=hz9;refine gz ?_;clear gz Gz;have tA:=t9.trans (.of sA);have fA:=f9.trans (.of sA);have TA:=T9'.same sA;have gu:lD mo ds Ss us:=⟨hmo,h5,d0,d40,u0,u8,ub⟩;ktn_end (λ σ G=>SmT GA G/\TabsL (T9 TD TL TE TC TT TP TU TS TJ) G/\σ=iR a st ot sl it fo [some (.int cell),some (.int (m:Int)),some (.ref ow),some (.ref bg),some (.ref oh),none])
 ·ktr_call ah ag;refine⟨smd,λ p hp=>?_⟩;have v:=af hp (.tup [V.ref st,V.ref oh]);have fv:=fA.trans (SmT.of v);exact⟨p,it,ds,Ss,us,mo,is,Is,rfl,⟨st,oh,qs,ar,(tA.trans (.of v)).tup h1,h3.up (lI (tA.trans (.of v))),v _ _ hoh⟩,gu,fv.tup (s3.tup hit),tbs.sm (s3.trans fv),eI,gI,TA.same v,λ G t us' sB TB e1 e2=>⟨t,fo,sl,us',ts,ps,_,mo,rfl,e1,.inr ((fv.trans sB).tup hfo),(fv.trans sB).lst (t3.lst h2),e2,tf.sm (fv.trans sB),sid (fv.trans sB),hmo,gN2,by lia,vm (hR _ _ ⟨(SmT.of v).trans sB,TB,rfl⟩)⟩⟩
 rintro σB GB ⟨sB,TB,rfl⟩;have tB:=tA.trans sB;have fB:=fA.trans sB;ktn_end (λ σ G=>∃(to:Addr) (bs:List Addr),SmT GB G/\G to=some (.tup (bs.map V.ref))/\bs.length=us.length/\(∀(k:Nat) (o:Int) u,us[k]?=some o->bs[k]?=some u->∃T,(bO ds Ss Is ds.length)[o.toNat]?=some T/\TbAt G u T.1 T.2)/\σ=iR a st ot sl it fo [some (.int cell),some (.int (m:Int)),some (.ref ow),some (.ref bg),some (.ref oh),some (.ref to)])
 ·ktr_call ah ag;refine⟨smd,λ p hp=>?_⟩;have v:=af hp (.tup [V.ref st,V.ref oh]);have fv:=fB.trans (SmT.of v);exact⟨p,it,ds,Ss,us,mo,is,Is,rfl,⟨st,oh,qs,ar,(tB.trans (.of v)).tup h1,h3.up (lI (tB.trans (.of v))),v _ _ (sB.tup hoh)⟩,gu,fv.tup (s3.tup hit),tbs.sm (s3.trans fv),eI,gI,TB.same v,λ G t as' sC TC e1 e2=>hR _ _ ⟨t,as',(SmT.of v).trans sC,e1,e2.1,e2.2,rfl⟩⟩
 rintro σC GC hz9;refine hid λ Gz gz=>?_;obtain⟨to,bs,sC,hto,bl,bT,rfl⟩:=hz9;refine gz ?_;clear gz Gz;have fC:=fB.trans sC;have tC:=tB.trans sC;have hohC:=(sB.trans sC).tup hoh;have ub':∀o∈us,0≤o/\o < ((bO ds Ss Is ds.length).length:Int):=by rw[tN];exact ub
 have at_u:∀ {k:Nat}{o:Int},us[k]?=some o->∃T,(bO ds Ss Is ds.length)[o.toNat]?=some T:=λ {k o} e=>⟨_,aX (by have:=ub' o (bw e);lia)⟩;ktr_call ah ag;refine CompT.mk (xs:=us.map V.int) (.of hohC) (λ i ys σ G=>G=GC/\i≤us.length/\(∃as:List Addr,ys=as.map V.ref/\TbsL GC as (gU (bO ds Ss Is ds.length) (us.take i)))/\∃y,σ=[y,some (.ref fo)]) ⟨rfl,bc _,⟨[],rfl,rfl,λ i p e=>nomatch e⟩,_,rfl⟩ (λ i ys σ G _ h=>by rw[h.1];exact .of hohC) (λ i x ys σ G e h=>?_) (λ ys σ G h pa hpa=>?_)
 ·refine hid λ Gz gz=>?_;obtain⟨rfl,hi,⟨as,rfl,ta⟩,y,rfl⟩:=h;obtain⟨o,rfl,eo⟩:=dE e;have il:=(bv.mp eo).1;obtain⟨T,eT⟩:=at_u eo;obtain⟨t,et,ht⟩:=rk (tf.sm fC) eT;refine gz ?_;clear gz Gz;have ol:=ub o (bw eo);refine⟨by rw[aA,ta.1];unfold gU;rw[aA,be];exact bD (by lia),?_⟩;ktr_call ah ag;refine⟨_,fC.tup hfo,_,Bg ol.1 et,il,⟨as++[t],by rw[aY];rfl,?_⟩,_,rfl⟩;have e2:gU (bO ds Ss Is ds.length) (us.take (i+1))=gU (bO ds Ss Is ds.length) (us.take i)++[T]:=by unfold gU;rw[cO,eo,aY];show _++[(bO ds Ss Is ds.length).getD o.toNat ([],[])]=_;rw[cy,eT];rfl
  rw[e2];exact ta.snoc ht
 ·refine hid λ Gz gz=>?_;obtain⟨rfl,hi,⟨as,rfl,ta⟩,y,rfl⟩:=h;refine gz ?_;clear gz Gz;rw[aA,cx] at ta;have va:=af hpa (.lst (as.map V.ref));refine CompT.mk (xs:=us.map V.int) (.of (va _ _ hohC)) (λ i ys σ G'=>G'=upd G pa (.lst (as.map V.ref))/\i≤us.length/\(∃qs':List Addr,ys=qs'.map V.ref/\qs'.length=i/\∀(k:Nat) (o:Int) (q:Addr),us[k]?=some o->qs'[k]?=some q->ps[o.toNat]?=some q)/\∃y,σ=[y,some (.ref sl)]) ⟨rfl,bc _,⟨[],rfl,rfl,λ _ _ _ _ e=>nomatch e⟩,_,rfl⟩ (λ i ys σ G' _ h=>by rw[h.1];exact .of (va _ _ hohC)) (λ i x ys σ G' e h=>?_) (λ ys σ G' h pb hpb=>?_)
  ·refine hid λ Gz gz=>?_;obtain⟨rfl,hi,⟨qs',rfl,ql,qa'⟩,y,rfl⟩:=h;obtain⟨o,rfl,eo⟩:=dE e;refine gz ?_;clear gz Gz;have il:=(bv.mp eo).1;have ol:=ub o (bw eo);obtain⟨pk,ep⟩:∃pk,ps[o.toNat]?=some pk:=⟨_,aX (by rw[h4.1,← dS];lia)⟩;refine⟨by rw[aA,ql];exact bD (by lia),?_⟩;ktr_call ah ag;refine⟨_,va _ _ (fC.lst (t3.lst h2)),_,Bg ol.1 ep,il,⟨qs'++[pk],by rw[aY];rfl,by rw[bu,ql];rfl,λ k o' q' e1 e2=>?_⟩,_,rfl⟩;by_cases c:k < qs'.length
   ·rw[dw c] at e2;exact qa' k o' q' e1 e2
   ·have kl:=(bv.mp e2).1;rw[bu,gh] at kl;have ke:k=qs'.length:=by lia
    subst ke;rw[cS (aJ _),dF] at e2;cases e2;rw[ql,eo] at e1;cases e1;exact ep
  ·refine hid λ Gz gz=>?_;obtain⟨rfl,hi,⟨qs',rfl,ql,qa'⟩,y,rfl⟩:=h;refine gz ?_;clear gz Gz;rw[aA] at ql;have vb:=af hpb (.lst (qs'.map V.ref));have vv:=va.trans vb;refine⟨to,pa,pb,bs,as,qs',gU (bO ds Ss Is ds.length) us,mo,rfl,vv _ _ hto,.inl (vb _ _ ar),ar,⟨by rw[bl];unfold gU;rw[aA],λ k u e=>?_⟩,ta.sm (.of vv),λ k T e=>?_,hmo,λ T hT=>?_,by unfold gU;rw[aA];lia,q _⟩
   ·have kl:=(bv.mp e).1;rw[bl] at kl;obtain⟨T,eT,hT⟩:=bT k _ u (aX kl) e;exact⟨T,Kx (aX kl) eT,(SmT.of vv).tb hT⟩
   ·refine hid λ Gz gz=>?_;obtain⟨o,eo,o0',eT⟩:=Bx e ub';have kl:=(bv.mp eo).1;obtain⟨q',eq',hq'⟩:=sid (fC.trans (.of vv)) o.toNat T eT;refine gz ?_;clear gz Gz;refine⟨q',?_,hq'⟩;have:=qa' k o _ eo (aX (show k < qs'.length by lia));rw[eq'] at this;cases this;exact aX (by lia)
   ·refine hid λ Gz gz=>?_;obtain⟨k,hk⟩:=ve hT;obtain⟨o,eo,o0',eT⟩:=Bx hk ub';refine gz ?_;clear gz Gz;exact gN2 T (bw eT)
end
theorem kts{K:FG}{od:OA}{sl:AV}(h:K.lookup a=some ⟨.type "tuple",od,.seq #[.str x t,.int i u] n,sl⟩):KTup K a [.str x,.int i]:=oA h (small (show(2:Nat)≤1000 by decide)) (.cons ⟨_,rfl⟩ (.cons ⟨_,rfl⟩ .nil))
theorem ktr1{K:FG}{od:OA}{sl:AV}(h:K.lookup a=some ⟨.type "tuple",od,.seq #[.ref a0] n,sl⟩):KTup K a [.ref a0]:=oA h (small (show(1:Nat)≤1000 by decide)) (.cons rfl (.nil))
theorem ktr2{K:FG}{od:OA}{sl:AV}(h:K.lookup a=some ⟨.type "tuple",od,.seq #[.ref a0,.ref a1] n,sl⟩):KTup K a [.ref a0,.ref a1]:=oA h (small (show(2:Nat)≤1000 by decide)) (.cons rfl (.cons rfl (.nil)))
theorem ktr3{K:FG}{od:OA}{sl:AV}(h:K.lookup a=some ⟨.type "tuple",od,.seq #[.ref a0,.ref a1,.ref a2] n,sl⟩):KTup K a [.ref a0,.ref a1,.ref a2]:=oA h (small (show(3:Nat)≤1000 by decide)) (.cons rfl (.cons rfl (.cons rfl (.nil))))
theorem ktr5{K:FG}{od:OA}{sl:AV}(h:K.lookup a=some ⟨.type "tuple",od,.seq #[.ref a0,.ref a1,.ref a2,.ref a3,.ref a4] n,sl⟩):KTup K a [.ref a0,.ref a1,.ref a2,.ref a3,.ref a4]:=oA h (small (show(5:Nat)≤1000 by decide)) (.cons rfl (.cons rfl (.cons rfl (.cons rfl (.cons rfl (.nil))))))
theorem pt_mk{w:World}{K:FG}{tP0 tP1 tP2 tP3 tP4 tP5 tP6 tP7 tP8 tP9 tP10 tP11 tP12 tP13 tP14:Tok}
  (gPT:W.nsIn K mainGlobals "PARTS"=some (some (.ref dPT))) (dPT0:(dPT == sysModules)=false)
  (lPT:K.lookup dPT=some { cls:=.type "dict",data:=.dict #[⟨PyData.keyHash w.params "in",.str "in" tP0,.ref aP0⟩,⟨PyData.keyHash w.params "num",.str "num" tP1,.ref aP1⟩,⟨PyData.keyHash w.params "count",.str "count" tP2,.ref aP2⟩,⟨PyData.keyHash w.params "each",.str "each" tP3,.ref aP3⟩,⟨PyData.keyHash w.params "pair",.str "pair" tP4,.ref aP4⟩,⟨PyData.keyHash w.params "pick",.str "pick" tP5,.ref aP5⟩,⟨PyData.keyHash w.params "turn",.str "turn" tP6,.ref aP6⟩,⟨PyData.keyHash w.params "flip",.str "flip" tP7,.ref aP7⟩,⟨PyData.keyHash w.params "cut",.str "cut" tP8,.ref aP8⟩,⟨PyData.keyHash w.params "spread",.str "spread" tP9,.ref aP9⟩,⟨PyData.keyHash w.params "lay",.str "lay" tP10,.ref aP10⟩,⟨PyData.keyHash w.params "join",.str "join" tP11,.ref aP11⟩,⟨PyData.keyHash w.params "fetch",.str "fetch" tP12,.ref aP12⟩,⟨PyData.keyHash w.params "fold",.str "fold" tP13,.ref aP13⟩,⟨PyData.keyHash w.params "run",.str "run" tP14,.ref aP14⟩] nPT })(lP0:KTup K aP0 [.ref aP0_0])
  (lP0_0:KTup K aP0_0 [.str "sides",.int 1])(lP1:KTup K aP1 [.ref aP1_0])
  (lP1_0:KTup K aP1_0 [.str "number",.int 1])(lP2:KTup K aP2 [.ref aP2_0,.ref aP2_1])
  (lP2_0:KTup K aP2_0 [.str "small",.int 2])
  (lP2_1:KTup K aP2_1 [.str "sides",.int 1])(lP3:KTup K aP3 [.ref aP3_0,.ref aP3_1])
  (lP3_0:KTup K aP3_0 [.str "word",.int 1])
  (lP3_1:KTup K aP3_1 [.str "step",.int 2])(lP4:KTup K aP4 [.ref aP4_0,.ref aP4_1,.ref aP4_2])
  (lP4_0:KTup K aP4_0 [.str "word",.int 1])
  (lP4_1:KTup K aP4_1 [.str "step",.int 2])
  (lP4_2:KTup K aP4_2 [.str "step",.int 3])(lP5:KTup K aP5 [.ref aP5_0,.ref aP5_1,.ref aP5_2])
  (lP5_0:KTup K aP5_0 [.str "step",.int 1])
  (lP5_1:KTup K aP5_1 [.str "step",.int 2])
  (lP5_2:KTup K aP5_2 [.str "step",.int 3])(lP6:KTup K aP6 [.ref aP6_0,.ref aP6_1])
  (lP6_0:KTup K aP6_0 [.str "step",.int 1])
  (lP6_1:KTup K aP6_1 [.str "sides",.int 2])(lP7:KTup K aP7 [.ref aP7_0,.ref aP7_1])
  (lP7_0:KTup K aP7_0 [.str "step",.int 1])
  (lP7_1:KTup K aP7_1 [.str "small",.int 2])(lP8:KTup K aP8 [.ref aP8_0,.ref aP8_1,.ref aP8_2,.ref aP8_3,.ref aP8_4])
  (lP8_0:KTup K aP8_0 [.str "step",.int 1])
  (lP8_1:KTup K aP8_1 [.str "small",.int 2])
  (lP8_2:KTup K aP8_2 [.str "small",.int 3])
  (lP8_3:KTup K aP8_3 [.str "small",.int 4])
  (lP8_4:KTup K aP8_4 [.str "small",.int 5])(lP9:KTup K aP9 [.ref aP9_0,.ref aP9_1,.ref aP9_2])
  (lP9_0:KTup K aP9_0 [.str "step",.int 1])
  (lP9_1:KTup K aP9_1 [.str "small",.int 2])
  (lP9_2:KTup K aP9_2 [.str "small",.int 3])(lP10:KTup K aP10 [.ref aP10_0,.ref aP10_1])
  (lP10_0:KTup K aP10_0 [.str "step",.int 1])
  (lP10_1:KTup K aP10_1 [.str "sides",.int 2])(lP11:KTup K aP11 [.ref aP11_0,.ref aP11_1,.ref aP11_2])
  (lP11_0:KTup K aP11_0 [.str "step",.int 1])
  (lP11_1:KTup K aP11_1 [.str "step",.int 2])
  (lP11_2:KTup K aP11_2 [.str "small",.int 3])(lP12:KTup K aP12 [.ref aP12_0,.ref aP12_1])
  (lP12_0:KTup K aP12_0 [.str "step",.int 1])
  (lP12_1:KTup K aP12_1 [.str "step",.int 2])(lP13:KTup K aP13 [.ref aP13_0,.ref aP13_1,.ref aP13_2])
  (lP13_0:KTup K aP13_0 [.str "word",.int 1])
  (lP13_1:KTup K aP13_1 [.str "step",.int 2])
  (lP13_2:KTup K aP13_2 [.str "small",.int 3])(lP14:KTup K aP14 [.ref aP14_0,.ref aP14_1,.ref aP14_2])
  (lP14_0:KTup K aP14_0 [.str "word",.int 1])
  (lP14_1:KTup K aP14_1 [.str "step",.int 2])
  (lP14_2:KTup K aP14_2 [.str "small",.int 3]):∃d,W.nsIn K mainGlobals "PARTS"=some (some (.ref d))/\uh P w K d:=⟨_,gPT,⟨_,KTab.mk (l:=[("in",tP0,aP0),("num",tP1,aP1),("count",tP2,aP2),("each",tP3,aP3),("pair",tP4,aP4),("pick",tP5,aP5),("turn",tP6,aP6),("flip",tP7,aP7),("cut",tP8,aP8),("spread",tP9,aP9),("lay",tP10,aP10),("join",tP11,aP11),("fetch",tP12,aP12),("fold",tP13,aP13),("run",tP14,aP14)]) dPT0 lPT rfl (show(["in","num","count","each","pair","pick","turn","flip","cut","spread","lay","join","fetch","fold","run"]:List Str).Nodup by decide +kernel),⟨⟨rfl,_,lP0,⟨⟨_,rfl,lP0_0⟩,trivial⟩⟩,⟨⟨rfl,_,lP1,⟨⟨_,rfl,lP1_0⟩,trivial⟩⟩,⟨⟨rfl,_,lP2,⟨⟨_,rfl,lP2_0⟩,⟨⟨_,rfl,lP2_1⟩,trivial⟩⟩⟩,⟨⟨rfl,_,lP3,⟨⟨_,rfl,lP3_0⟩,⟨⟨_,rfl,lP3_1⟩,trivial⟩⟩⟩,⟨⟨rfl,_,lP4,⟨⟨_,rfl,lP4_0⟩,⟨⟨_,rfl,lP4_1⟩,⟨⟨_,rfl,lP4_2⟩,trivial⟩⟩⟩⟩,⟨⟨rfl,_,lP5,⟨⟨_,rfl,lP5_0⟩,⟨⟨_,rfl,lP5_1⟩,⟨⟨_,rfl,lP5_2⟩,trivial⟩⟩⟩⟩,⟨⟨rfl,_,lP6,⟨⟨_,rfl,lP6_0⟩,⟨⟨_,rfl,lP6_1⟩,trivial⟩⟩⟩,⟨⟨rfl,_,lP7,⟨⟨_,rfl,lP7_0⟩,⟨⟨_,rfl,lP7_1⟩,trivial⟩⟩⟩,⟨⟨rfl,_,lP8,⟨⟨_,rfl,lP8_0⟩,⟨⟨_,rfl,lP8_1⟩,⟨⟨_,rfl,lP8_2⟩,⟨⟨_,rfl,lP8_3⟩,⟨⟨_,rfl,lP8_4⟩,trivial⟩⟩⟩⟩⟩⟩,⟨⟨rfl,_,lP9,⟨⟨_,rfl,lP9_0⟩,⟨⟨_,rfl,lP9_1⟩,⟨⟨_,rfl,lP9_2⟩,trivial⟩⟩⟩⟩,⟨⟨rfl,_,lP10,⟨⟨_,rfl,lP10_0⟩,⟨⟨_,rfl,lP10_1⟩,trivial⟩⟩⟩,⟨⟨rfl,_,lP11,⟨⟨_,rfl,lP11_0⟩,⟨⟨_,rfl,lP11_1⟩,⟨⟨_,rfl,lP11_2⟩,trivial⟩⟩⟩⟩,⟨⟨rfl,_,lP12,⟨⟨_,rfl,lP12_0⟩,⟨⟨_,rfl,lP12_1⟩,trivial⟩⟩⟩,⟨⟨rfl,_,lP13,⟨⟨_,rfl,lP13_0⟩,⟨⟨_,rfl,lP13_1⟩,⟨⟨_,rfl,lP13_2⟩,trivial⟩⟩⟩⟩,⟨⟨rfl,_,lP14,⟨⟨_,rfl,lP14_0⟩,⟨⟨_,rfl,lP14_1⟩,⟨⟨_,rfl,lP14_2⟩,trivial⟩⟩⟩⟩,trivial⟩⟩⟩⟩⟩⟩⟩⟩⟩⟩⟩⟩⟩⟩⟩⟩⟩
theorem all_mk{l:W.OpenLaw}{K:FG}{TD TL TE TC TT TP TU TS TJ:Addr}(X:K.In h)(G:h.Ns mainGlobals mg)(hfa:mg "law"=some (.ref fa))(S:Sv l.prog w K TD TL TE TC TT TP TU TS TJ):∃(fd:FuncData) (tbs:List (Str × Addr × Addr)),(∀p∈tbs,W.tabIn K p.1=some p.2/\p.1∈(["fold","lead","fetch","counted","turn","flip","cut","spread","join"]:List Str))/\(∀(s:Shared) (v:Value),BindsTo s fd ⟨[v],[]⟩ [("script",v)])/\∀base:Heap,K.In base->base.Ns mainGlobals mg->(∀p∈tbs,TabF base mg p.2.1 p.2.2)->FnOk l.prog w K mg base CX0 15 fa fd ["script"] (qT K (tbs.map λ p=>p.2.2)):=by
 obtain⟨f,fd,gL⟩:=S.g81;have e:=hfa.symm.trans (W.mg_of X G gL.a);cases e;obtain⟨_,_,kVL,dcL,pmL,anL,cdL,ctL,_,eL,_,_⟩:=gL.F.ex;obtain⟨f43,d43,c43,t43⟩:=S.g43;obtain⟨f45,d45,c45,t45⟩:=S.g45;obtain⟨f49,d49,c49,t49⟩:=S.g49;obtain⟨f50,d50,c50,t50⟩:=S.g50;obtain⟨f51,d51,c51,t51⟩:=S.g51;obtain⟨f52,d52,c52,t52⟩:=S.g52;obtain⟨f53,d53,c53,t53⟩:=S.g53;obtain⟨f54,d54,c54,t54⟩:=S.g54;obtain⟨f56,d56,c56,t56⟩:=S.g56;refine⟨fd,[("fold",c43,TD),("lead",c45,TL),("fetch",c49,TE),("counted",c50,TC),("turn",c51,TT),("flip",c52,TP),("cut",c53,TU),("spread",c54,TS),("join",c56,TJ)],(fc ⟨t43.tb,by simp⟩ (fc ⟨t45.tb,by simp⟩ (fc ⟨t49.tb,by simp⟩ (fc ⟨t50.tb,by simp⟩ (fc ⟨t51.tb,by simp⟩ (fc ⟨t52.tb,by simp⟩ (fc ⟨t53.tb,by simp⟩ (fc ⟨t54.tb,by simp⟩ (fc ⟨t56.tb,by simp⟩ fc0))))))))),λ s v=>by rw[eL];exact .of_eq rfl,λ base KB GB tf=>?_⟩;have Z0:Ev l.prog w K mg base TD TL TE TC TT TP TU TS TJ:=⟨S,λ {x v} z=>by cases v with | none=>exact W.mg_none_of X G z | some u=>exact W.mg_of X G z,⟨_,_,_,t43,tf ("fold",c43,TD) (by simp)⟩,⟨_,_,_,t45,tf ("lead",c45,TL) (by simp)⟩,⟨_,_,_,t49,tf ("fetch",c49,TE) (by simp)⟩,⟨_,_,_,t50,tf ("counted",c50,TC) (by simp)⟩,⟨_,_,_,t51,tf ("turn",c51,TT) (by simp)⟩,⟨_,_,_,t52,tf ("flip",c52,TP) (by simp)⟩,⟨_,_,_,t53,tf ("cut",c53,TU) (by simp)⟩,⟨_,_,_,t54,tf ("spread",c54,TS) (by simp)⟩,⟨_,_,_,t56,tf ("join",c56,TJ) (by simp)⟩⟩;have Y0:Cs Z0 0:=λ _ h=>absurd h (Nat.not_lt_zero _);have Y0:Cs Z0 1:=stp Y0 (Lk Z0 Y0);have Y0:Cs Z0 2:=stp Y0 (Ll Z0 Y0);have Y0:Cs Z0 3:=stp Y0 (Lm Z0 Y0);have Y0:Cs Z0 4:=stp Y0 (Ln Z0 Y0);have Y0:Cs Z0 5:=stp Y0 (Lo Z0 Y0);have Y0:Cs Z0 6:=stp Y0 (Lp Z0 Y0);have Y0:Cs Z0 7:=stp Y0 (Lq Z0 Y0);have Y0:Cs Z0 8:=stp Y0 (Lr Z0 Y0);have Y0:Cs Z0 9:=stp Y0 (Ls Z0 Y0);have Y0:Cs Z0 10:=stp Y0 (Lu Z0 Y0);have Y0:Cs Z0 11:=stp Y0 (Lv Z0 Y0);have Y0:Cs Z0 12:=stp Y0 (Lw Z0 Y0);have Y0:Cs Z0 13:=stp Y0 (Lx Z0 Y0);have Y0:Cs Z0 14:=stp Y0 (Ly Z0 Y0);have Y0:Cs Z0 15:=stp Y0 (Lz Z0 Y0);have Y0:Cs Z0 16:=stp Y0 (LB Z0 Y0);have Y0:Cs Z0 17:=stp Y0 (LC Z0 Y0);have Y0:Cs Z0 18:=stp Y0 (LD Z0 Y0);have Y0:Cs Z0 19:=stp Y0 (LF Z0 Y0);have Y0:Cs Z0 20:=stp Y0 (LG Z0 Y0);have Y0:Cs Z0 21:=stp Y0 (LH Z0 Y0);have Y0:Cs Z0 22:=stp Y0 (LJ Z0 Y0);have Y0:Cs Z0 23:=stp Y0 (LK Z0 Y0);have Y0:Cs Z0 24:=stp Y0 (LM Z0 Y0);have Y0:Cs Z0 25:=stp Y0 (LN Z0 Y0);have Y0:Cs Z0 26:=stp Y0 (LP Z0 Y0);have Y0:Cs Z0 27:=stp Y0 (LQ Z0 Y0);have Y0:Cs Z0 28:=stp Y0 (LR Z0 Y0);have Y0:Cs Z0 29:=stp Y0 (LS Z0 Y0);have Y0:Cs Z0 30:=stp Y0 (LU Z0 Y0);have Y0:Cs Z0 31:=stp Y0 (LW Z0 Y0);have Y0:Cs Z0 32:=stp Y0 (LX Z0 Y0);have Y0:Cs Z0 33:=stp Y0 (LY Z0 Y0);have Y0:Cs Z0 34:=stp Y0 (LZ Z0 Y0);have Y0:Cs Z0 35:=stp Y0 (Ma Z0 Y0);have Y0:Cs Z0 36:=stp Y0 (Mb Z0 Y0);have Y0:Cs Z0 37:=stp Y0 (Mc Z0 Y0);have Y0:Cs Z0 38:=stp Y0 (Me Z0 Y0);have Y0:Cs Z0 39:=stp Y0 (Mf Z0 Y0);have Y0:Cs Z0 40:=stp Y0 (Mg Z0 Y0);have Y0:Cs Z0 41:=stp Y0 (Mh Z0 Y0);have Y0:Cs Z0 42:=stp Y0 (Mi Z0 Y0);have Y0:Cs Z0 43:=stp Y0 (Mj Z0 Y0);have Y0:Cs Z0 44:=stp Y0 (Ml Z0 Y0);have Y0:Cs Z0 45:=stp Y0 (Mm Z0 Y0)
 have Y0:Cs Z0 46:=stp Y0 (Mn Z0 Y0);have Y0:Cs Z0 47:=stp Y0 (Mo Z0 Y0);have Y0:Cs Z0 48:=stp Y0 (Mp Z0 Y0);have Y0:Cs Z0 49:=stp Y0 (Mq Z0 Y0);have Y0:Cs Z0 50:=stp Y0 (Mr Z0 Y0);have Y0:Cs Z0 51:=stp Y0 (Mt Z0 Y0);have Y0:Cs Z0 52:=stp Y0 (Mu Z0 Y0);have Y0:Cs Z0 53:=stp Y0 (Mv Z0 Y0);have Y0:Cs Z0 54:=stp Y0 (Mw Z0 Y0);have Y0:Cs Z0 55:=stp Y0 (Mx Z0 Y0);have Y0:Cs Z0 56:=stp Y0 (Mz Z0 Y0);have Y0:Cs Z0 57:=stp Y0 (MA Z0 Y0);have Y0:Cs Z0 58:=stp Y0 (MB Z0 Y0);have Y0:Cs Z0 59:=stp Y0 (MC Z0 Y0);have Y0:Cs Z0 60:=stp Y0 (MD Z0 Y0);have Y0:Cs Z0 61:=stp Y0 (ME Z0 Y0);have Y0:Cs Z0 62:=stp Y0 (MF Z0 Y0);have Y0:Cs Z0 63:=stp Y0 (MG Z0 Y0);have Y0:Cs Z0 64:=stp Y0 (MH Z0 Y0);have Y0:Cs Z0 65:=stp Y0 (MI Z0 Y0);have Y0:Cs Z0 66:=stp Y0 (MJ Z0 Y0);have Y0:Cs Z0 67:=stp Y0 (MK Z0 Y0);have Y0:Cs Z0 68:=stp Y0 (ML Z0 Y0);have Y0:Cs Z0 69:=stp Y0 (MM Z0 Y0);have Y0:Cs Z0 70:=stp Y0 (MN Z0 Y0);have Y0:Cs Z0 71:=stp Y0 (MO Z0 Y0);have Y0:Cs Z0 72:=stp Y0 (MP Z0 Y0);have Y0:Cs Z0 73:=stp Y0 (MQ Z0 Y0);have Y0:Cs Z0 74:=stp Y0 (MR Z0 Y0);have Y0:Cs Z0 75:=stp Y0 (MS Z0 Y0);have Y0:Cs Z0 76:=stp Y0 (MT Z0 Y0);have Y0:Cs Z0 77:=stp Y0 (MU Z0 Y0);have Y0:Cs Z0 78:=stp Y0 (MV Z0 Y0);have Y0:Cs Z0 79:=stp Y0 (MW Z0 Y0);have Y0:Cs Z0 80:=stp Y0 (MX Z0 Y0);have Y0:Cs Z0 81:=stp Y0 (MY Z0 Y0);exact MZ Z0 Y0 gL.F
open PySem.W in
theorem walk{l:W.OpenLaw}{YP:World->Heap->Prop}{d:DefRec}{K:Params->FG}(hn:l.most=some 63)(hdf:d.params.defaults=[])
  (hY:∀(w:World) (h:Heap),YP w h->(K w.params).In h) (hK0:∀w:World,noTabs (K w.params)=true) (hrec:∀x∈(["fold","lead","fetch","counted","turn","flip","cut","spread","join"]:List Str),((recsOf q).find? λ e=>e.name == x).isSome=true)
  (F:∀(w:World) (mg:SV) (fa:Addr) (h:Heap),(K w.params).In h->h.Ns mainGlobals mg->mg d.name=some (.ref fa) ->
   ∃(fd:FuncData) (tbs:List (Str × Addr × Addr)),(∀p∈tbs,tabIn (K w.params) p.1=some p.2/\p.1∈(["fold","lead","fetch","counted","turn","flip","cut","spread","join"]:List Str))/\(∀(s:Shared) (u:Value),BindsTo s fd ⟨[u],[]⟩ [("script",u)])/\∀base:Heap,(K w.params).In base->base.Ns mainGlobals mg->(∀p∈tbs,TabF base mg p.2.1 p.2.2)->FnOk l.prog w (K w.params) mg base CX0 15 fa fd ["script"] (qT (K w.params) (tbs.map λ p=>p.2.2))) :
  W.WalkO q loose XP YP l.row.toRowW d [] (λ f vs=>PySem.call f vs) :=
 L2.walk_ofT (n:=63) (k:=15) (x := "script") (CX:=λ _=>CX0) (sp:=λ w ts=>qT (K w.params) ts) hn (by decide) hdf ⟨rfl,by decide,by decide⟩ hY hK0 (λ w mg fa h a b c=>by
  obtain⟨fd,tbs,h1,h2⟩:=F w mg fa h a b c
  exact⟨fd,tbs,λ p hp=>⟨(h1 p hp).1,hrec _ (h1 p hp).2⟩,h2⟩) (λ _ _ a ns ts hl hT hS=>⟨a,ns,rfl,hS,hl,hT,λ _=>rfl⟩) λ _ _ _ _ _ z=>z
end My
end
end
open PySem PySem.W PyProof.Rows
set_option maxRecDepth 100000 in
set_option maxHeartbeats 0 in
theorem PySem.Challenge.cw_sideloom_k37_whole_beginnings_holds : PySem.Challenge.rw_sideloom_k37_whole_beginnings.Holds := by
 w_on;o_law;k_head;(case hw=>w_witness2)
 k_fill
 refine My.walk (l:=PySem.Challenge.rw_sideloom_k37_whole_beginnings) rfl rfl (λ w h Y=>W.km_in_of Y) ?K0 ?rec ?F
 case K0=>intro w;kernel_rfl
 case rec=>exact(My.fc (by kernel_rfl) (My.fc (by kernel_rfl) (My.fc (by kernel_rfl) (My.fc (by kernel_rfl) (My.fc (by kernel_rfl) (My.fc (by kernel_rfl) (My.fc (by kernel_rfl) (My.fc (by kernel_rfl) (My.fc (by kernel_rfl) My.fc0)))))))))
 case F =>
  intro w mg fa h KX G hmg
  refine' My.all_mk KX G hmg ?S
  case S =>
   constructor
   iterate 73 (refine' My.gl_ex ?ya ?yb ?yc ?yd;(case ya=>k_is);(case yb=>k_is);(case yc=>k_is);(case yd=>k_is))
   iterate 9 (refine' My.glt_ex ?ya ?yb ?yc ?yd ?ye ?yf;(case ya=>k_is);(case yb=>k_is);(case yc=>k_is);(case yd=>k_is);(case ye=>k_is);(case yf=>rfl))
   iterate 16 (k_is)
   iterate 6 (refine' My.gx_int ?ya;(case ya=>k_is))
   ·refine' My.pt_mk ?gPT ?dPT0 ?lPT ?lP0 ?lP0_0 ?lP1 ?lP1_0 ?lP2 ?lP2_0 ?lP2_1 ?lP3 ?lP3_0 ?lP3_1 ?lP4 ?lP4_0 ?lP4_1 ?lP4_2 ?lP5 ?lP5_0 ?lP5_1 ?lP5_2 ?lP6 ?lP6_0 ?lP6_1 ?lP7 ?lP7_0 ?lP7_1 ?lP8 ?lP8_0 ?lP8_1 ?lP8_2 ?lP8_3 ?lP8_4 ?lP9 ?lP9_0 ?lP9_1 ?lP9_2 ?lP10 ?lP10_0 ?lP10_1 ?lP11 ?lP11_0 ?lP11_1 ?lP11_2 ?lP12 ?lP12_0 ?lP12_1 ?lP13 ?lP13_0 ?lP13_1 ?lP13_2 ?lP14 ?lP14_0 ?lP14_1 ?lP14_2
    (case gPT=>k_is)
    (case dPT0=>first | decide +kernel | rfl)
    (case lPT=>k_is)
    (case lP0=>refine' My.ktr1 ?ya;(case ya=>k_is))
    (case lP1=>refine' My.ktr1 ?ya;(case ya=>k_is))
    (case lP2=>refine' My.ktr2 ?ya;(case ya=>k_is))
    (case lP3=>refine' My.ktr2 ?ya;(case ya=>k_is))
    (case lP4=>refine' My.ktr3 ?ya;(case ya=>k_is))
    (case lP5=>refine' My.ktr3 ?ya;(case ya=>k_is))
    (case lP6=>refine' My.ktr2 ?ya;(case ya=>k_is))
    (case lP7=>refine' My.ktr2 ?ya;(case ya=>k_is))
    (case lP8=>refine' My.ktr5 ?ya;(case ya=>k_is))
    (case lP9=>refine' My.ktr3 ?ya;(case ya=>k_is))
    (case lP10=>refine' My.ktr2 ?ya;(case ya=>k_is))
    (case lP11=>refine' My.ktr3 ?ya;(case ya=>k_is))
    (case lP12=>refine' My.ktr2 ?ya;(case ya=>k_is))
    (case lP13=>refine' My.ktr3 ?ya;(case ya=>k_is))
    (case lP14=>refine' My.ktr3 ?ya;(case ya=>k_is))
    iterate 37 (refine' My.kts ?ya;(case ya=>k_is))
   ·decide
