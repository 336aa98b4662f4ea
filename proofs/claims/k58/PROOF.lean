import PyProof.Rows.All
import Wide.All
import OpenK.AllK
import Wide.FinOn
import Lean
import PyProof.EqAt
import PyProof.EqKinds
import PyProof.TupleCall
import PySem.Challenge.RW_sideloom_k58_whole_rounds_that_wait
set_option Elab.async false
set_option linter.all false
set_option maxRecDepth 100000
section
set_option compiler.extract_closed false
set_option hygiene false

set_option hygiene true
namespace L2
open PySem PySem.Spec PyProof.Rows
abbrev Key:=Sum Int Str
def y6j:Key->Value->Bool
 | .inl k,v=>Value.isInt k v
 | .inr x,v=>Value.isStrOf x v
def w7j (w:World):Key->Int
 | .inl k=>hashInt k
 | .inr x=>hashStr w x
theorem z1v:∀ {k:Key}{v:Value},y6j k v=true->(∃i t,k=Sum.inl i/\v=Value.int i t)\/(∃x t,k=Sum.inr x/\v=Value.str x t)
 | .inl i,v,h=>by
  obtain ⟨t,e⟩:=Value.isInt_shape (k:=i) (v:=v) h
  exact .inl ⟨i,t,rfl,e⟩
 | .inr x,v,h=>by
  obtain ⟨t,e⟩:=Value.isStrOf_shape (x:=x) (v:=v) h
  exact .inr ⟨x,t,rfl,e⟩
theorem x0f (i:Int) (t:Tok):y6j (.inl i) (.int i t)=true:=by simp [y6j,Value.isInt]
theorem z7y (x:Str) (t:Tok):y6j (.inr x) (.str x t)=true:=by simp [y6j,Value.isStrOf]
theorem w1p (a b:Int):decide ((Sum.inl a:Key)=Sum.inl b)=(a == b):=by
 by_cases e:a=b
 ·subst e;simp
 ·have h:¬(Sum.inl a:Key)=Sum.inl b:=λ q=>e (Sum.inl.inj q)
  rw [decide_eq_false h]
  exact (beq_eq_false_iff_ne.mpr e).symm
theorem w1m (a b:Str):decide ((Sum.inr a:Key)=Sum.inr b)=decide (a=b):=by
 by_cases e:a=b
 ·subst e;simp
 ·have h:¬(Sum.inr a:Key)=Sum.inr b:=λ q=>e (Sum.inr.inj q)
  rw [decide_eq_false h,decide_eq_false e]
theorem w1o (a:Int) (b:Str):decide ((Sum.inl a:Key)=Sum.inr b)=false:=decide_eq_false (λ q=>nomatch q)
theorem w1n (a:Str) (b:Int):decide ((Sum.inr a:Key)=Sum.inl b)=false:=decide_eq_false (λ q=>nomatch q)
def z2a (prog:Program) (w:World):PySem.KeyKind prog w Key where
 is:=y6j
 hash:=w7j w
 inj:=λ v a b ha hb=>by
  rcases z1v ha with ⟨i,t,rfl,rfl⟩ | ⟨x,t,rfl,rfl⟩
  ·rcases z1v hb with ⟨j,u,rfl,e⟩ | ⟨y,u,rfl,e⟩
   ·injection e with e1 _;rw [e1]
   ·exact nomatch e
  ·rcases z1v hb with ⟨j,u,rfl,e⟩ | ⟨y,u,rfl,e⟩
   ·exact nomatch e
   ·injection e with e1 _;rw [e1]
 byValue:=λ k v h=>by
  rcases z1v h with ⟨i,t,rfl,rfl⟩ | ⟨x,t,rfl,rfl⟩<;>rfl
 pyHash:=λ hv h=>by
  rcases z1v hv with ⟨i,t,rfl,rfl⟩ | ⟨x,t,rfl,rfl⟩
  ·exact wpAny_pyHash_int h
  ·exact wpAny_pyHash_str h
 eqBool:=λ hu hv h=>by
  rcases z1v hu with ⟨i,t,rfl,rfl⟩ | ⟨x,t,rfl,rfl⟩
  ·rcases z1v hv with ⟨j,u,rfl,rfl⟩ | ⟨y,u,rfl,rfl⟩
   ·rw [w1p] at h;exact wpAny_eqBool_int h
   ·rw [w1o] at h;exact SeqAt.EqAt.int_str i t y u _ _ _ _ h
  ·rcases z1v hv with ⟨j,u,rfl,rfl⟩ | ⟨y,u,rfl,rfl⟩
   ·rw [w1n] at h;exact SeqAt.EqAt.str_int x t j u _ _ _ _ h
   ·rw [w1m] at h;exact wpAny_eqBool_str h
 «strs»:=λ k x t v h=>by
  rcases z1v h with ⟨i,u,rfl,e⟩ | ⟨y,u,rfl,e⟩
  ·exact nomatch e
  ·injection e with e1 _
   subst e1
   cases v<;>rfl
theorem y3d (prog:Program) (w:World) (i:Int) (t:Tok):(z2a prog w).is (.inl i) (.int i t)=true:=x0f i t
theorem y3c (prog:Program) (w:World) (x:Str) (t:Tok):(z2a prog w).is (.inr x) (.str x t)=true:=z7y x t
inductive V where
 | non | bl (b:Bool) | int (i:Int) | str (x:Str) | byt (b:Array UInt8) | flt (b:UInt64) | ref (a:Addr) | ty (n:String)
 deriving DecidableEq
def RelV:V->Value->Prop
 | .non,u=>u=Value.none
 | .bl b,u=>u=Value.bool b
 | .int i,u=>∃t,u=Value.int i t
 | .str x,u=>∃t,u=Value.str x t
 | .byt b,u=>∃t,u=Value.bytes b t
 | .flt b,u=>∃t,u=Value.float b t
 | .ref a,u=>u=Value.ref a
 | .ty n,u=>u=Value.type n
abbrev Vals:List V->List Value->Prop:=Paired RelV
theorem Vals.length {xs:List V}{us:List Value}(r:Vals xs us):xs.length=us.length:=Paired.length r
theorem Vals.get:∀ {xs:List V}{us:List Value}{i:Nat}{x:V},Vals xs us->xs[i]?=some x->∃u,us[i]?=some u/\RelV x u
 | _,_,_,_,.nil,e=>by simp at e
 | _,_,0,_,.cons r _,e=>by simp at e;subst e;exact ⟨_,rfl,r⟩
 | _,_,i+1,x,.cons _ t,e=>by
  obtain ⟨u,h1,h2⟩:=Vals.get (i:=i) (x:=x) t (by simpa using e)
  exact ⟨u,by simpa using h1,h2⟩
theorem Vals.set {x:V}{u:Value}(r:RelV x u):∀ {xs:List V}{us:List Value}(i:Nat),Vals xs us->Vals (xs.set i x) (us.set i u)
 | _,_,_,.nil=>.nil
 | _,_,0,.cons _ t=>.cons r t
 | _,_,i+1,.cons q t=>.cons q (Vals.set r i t)
theorem Vals.append:∀ {xs ys:List V}{us ws:List Value},Vals xs us->Vals ys ws->Vals (xs++ys) (us++ws)
 | _,_,_,_,.nil,s=>s
 | _,_,_,_,.cons r t,s=>.cons r (Vals.append t s)
theorem Vals.take:∀ {xs:List V}{us:List Value}(n:Nat),Vals xs us->Vals (xs.take n) (us.take n)
 | _,_,0,_=>.nil
 | _,_,_+1,.nil=>.nil
 | _,_,n+1,.cons r t=>.cons r (Vals.take n t)
theorem Vals.drop:∀ {xs:List V}{us:List Value}(n:Nat),Vals xs us->Vals (xs.drop n) (us.drop n)
 | _,_,0,r=>r
 | _,_,_+1,.nil=>.nil
 | _,_,n+1,.cons _ t=>Vals.drop n t
theorem Vals.none_of:∀ {xs:List V}{us:List Value}{i:Nat},Vals xs us->xs[i]?=none->us[i]?=none:=λ {xs us i} r e=>by
 have h1:=r.length
 have h2:xs.length≤i:=List.getElem?_eq_none_iff.mp e
 exact List.getElem?_eq_none_iff.mpr (by lia)
def RelO:Option V->Option Value->Prop
 | some v,some u=>RelV v u
 | none,none=>True
 | _,_=>False
def KV {κ:Type}:List (κ × V)->List (κ × Value)->Prop:=Paired λ (p:κ × V) (q:κ × Value)=>p.1=q.1/\RelV p.2 q.2
def kV:Key->V
 | .inl i=>.int i
 | .inr x=>.str x
inductive HO where
 | lst (xs:List V)
 | tup (xs:List V)
 | dK (kvs:List (Key × V)) | dT (kvs:List (List Key × V))
 | set (S:Int->Bool) (n:Nat)
 | ins (C dx:Addr) (fs:List (Str × V))
 | own (x:Addr)
 | xd (fs:List (Str × V))
 | met (f x:Addr)
 | rng (lo hi:Int)
 | frz (o:Obj) (u:HO)
 | tbl (ps:Array Value)
 | ext (φ:Heap->Prop)
abbrev Hp:=Addr->Option HO
def upd (H:Hp) (a:Addr) (o:HO):Hp:=λ b=>if b=a then some o else H b
theorem z0f {H:Hp}{a:Addr}{o:HO}:upd H a o a=some o:=by unfold upd;rw [if_pos rfl]
theorem z0n {H:Hp}{a b:Addr}{o:HO}(h:b≠a):upd H a o b=H b:=by unfold upd;rw [if_neg h]
theorem z8j {H:Hp}{a b:Addr}{o u:HO}(h:H a=some o) (h':H b=some u) (d:o≠u):a≠b:=by
 intro e;subst e;rw [h] at h';exact d (Option.some.inj h')
theorem z2t {H:Hp}{a b:Addr}{o:HO}(h:H a=some o) (h':H b=none):a≠b:=by
 intro e;subst e;rw [h] at h';cases h'
section
variable (P:Program) (w:World)
def ObjOk (H:Hp) (h:Heap) (a:Addr):HO->Prop
 | .lst xs=>xs.length≤sizeLine/\∃(its:List Value) (n:Nat),Vals xs its/\h.get? a=some { cls:=.type "list",data:=.seq its.toArray n }
 | .tup xs=>xs.length≤sizeLine/\∃its:List Value,Vals xs its/\IsTup h a its.toArray
 | .dK kvs=>kvs.length≤sizeLine/\(a == sysModules)=false/\∃vs,KV kvs vs/\h.DictOf (z2a P w) a vs
 | .dT kvs=>kvs.length≤sizeLine/\(a == sysModules)=false/\∃xs:List (List Key × Addr × Value),
   Paired (λ (p:List Key × V) (q:List Key × Addr × Value)=>p.1=q.1/\H q.2.1=some (.tup (p.1.map kV))/\RelV p.2 q.2.2) kvs xs /\
   ∃o es ep,h.get? a=some o/\o.ExactDict/\o.data=.dict es ep/\es.toList=xs.map (entryOfKey (tupleKind (z2a P w)))/\(xs.map (·.1)).Nodup
 | .set S n=>h.SetOf (intKind P w) a S n
 | .ins C dx fs=>H dx=some (.own a)/\fs.length≤1000/\dx≠a/\h.get? a=some (W.instObj C dx) /\
   ∃mA,h.Ns1 dx mA/\(∀f,RelO (fs.lookup f) (mA f))/\PySem.Within mA (fs.map (·.1))
 | .own _=>∃o,h.get? a=some o
 | .xd fs=>∃mA,h.Ns1 a mA/\∀f,RelO (fs.lookup f) (mA f)
 | .rng lo hi=>∃t u v,h.get? a=some { cls:=.type "range",data:=.fields #[.int lo t,.int hi u,.int 1 v] }
 | .frz o u=>h.get? a=some o/\ObjOk H h a u
 | .tbl ps=>h.get? a=some { cls:=.none,data:=.fields ps }
 | .met f x=>h.get? a=some (W.methodObj (.ref f) (.ref x))
 | .ext φ=>φ h/\(∃o,h.get? a=some o)/\∀h1 h2:Heap,φ h1->(∀o,h1.get? a=some o->h2.get? a=some o)->φ h2
def HOk (H:Hp) (h:Heap):Prop:=∀a o,H a=some o->ObjOk P w H h a o
end
section
variable {P:Program}{w:World}{H H':Hp}{h h':Heap}{a:Addr}{o:HO}
theorem ObjOk.lt (x:ObjOk P w H h a o):a < h.objs.size:=by
 cases o with
 | lst xs=>obtain ⟨_,_,_,_,e⟩:=x;exact Heap.lt_size e
 | tup xs=>obtain ⟨_,_,_,p⟩:=x;exact p.lt
 | dK kvs=>obtain ⟨_,_,_,_,o,_,_,e,_⟩:=x;exact Heap.lt_size e
 | dT kvs=>obtain ⟨_,_,_,_,o,_,_,e,_⟩:=x;exact Heap.lt_size e
 | set S n=>obtain ⟨o,_,_,_,e,_⟩:=x;exact Heap.lt_size e
 | ins C dx fs=>obtain ⟨_,_,_,e,_⟩:=x;exact Heap.lt_size e
 | own y=>obtain ⟨_,e⟩:=x;exact Heap.lt_size e
 | xd fs=>obtain ⟨_,⟨_,_,_,e,_⟩,_⟩:=x;exact Heap.lt_size e
 | rng lo hi=>obtain ⟨_,_,_,e⟩:=x;exact Heap.lt_size e
 | frz ob u=>obtain ⟨e,_⟩:=x;exact Heap.lt_size e
 | tbl ps=>exact Heap.lt_size (show h.get? a=some _ from x)
 | met f y=>exact Heap.lt_size (show h.get? a=some _ from x)
 | ext φ=>obtain ⟨_,⟨_,e⟩,_⟩:=x;exact Heap.lt_size e
theorem Paired.mapP {α β:Type}{F G:α->β->Prop}:∀ {l₁:List α}{l₂:List β},Paired F l₁ l₂->(∀a b,F a b->G a b)->Paired G l₁ l₂
 | _,_,.nil,_=>.nil
 | _,_,.cons r t,f=>.cons (f _ _ r) (Paired.mapP t f)
theorem ObjOk.stay (x:ObjOk P w H h a o) (k:∀b u,(b=a\/H b=some (.own a))->h.get? b=some u->h'.get? b=some u)
  (ho:∀b,H b=some (.own a)->H' b=some (.own a)) (ht:∀b xs,H b=some (.tup xs)->H' b=some (.tup xs)):ObjOk P w H' h' a o:=by
 induction o with
 | lst xs=>obtain ⟨z,its,n,r,e⟩:=x;exact ⟨z,its,n,r,k _ _ (.inl rfl) e⟩
 | tup xs=>obtain ⟨z,its,r,ob,e,c⟩:=x;exact ⟨z,its,r,ob,k _ _ (.inl rfl) e,c⟩
 | dK kvs=>obtain ⟨z,y,vs,r,ob,es,ep,e,c⟩:=x;exact ⟨z,y,vs,r,ob,es,ep,k _ _ (.inl rfl) e,c⟩
 | dT kvs =>
  obtain ⟨z,y,xs,r,ob,es,ep,e,c⟩:=x
  exact ⟨z,y,xs,Paired.mapP r λ p q z=>⟨z.1,ht _ _ z.2.1,z.2.2⟩,ob,es,ep,k _ _ (.inl rfl) e,c⟩
 | set S n=>obtain ⟨ob,es,ep,t,e,c⟩:=x;exact ⟨ob,es,ep,t,k _ _ (.inl rfl) e,c⟩
 | ins C dx fs =>
  obtain ⟨d,z,ne,e,mA,⟨od,es,ep,e2,c⟩,r⟩:=x
  exact ⟨ho _ d,z,ne,k _ _ (.inl rfl) e,mA,⟨od,es,ep,k _ _ (.inr d) e2,c⟩,r⟩
 | own y=>obtain ⟨ob,e⟩:=x;exact ⟨ob,k _ _ (.inl rfl) e⟩
 | xd fs=>obtain ⟨mA,⟨od,es,ep,e,c⟩,r⟩:=x;exact ⟨mA,⟨od,es,ep,k _ _ (.inl rfl) e,c⟩,r⟩
 | rng lo hi=>obtain ⟨t,u,v,e⟩:=x;exact ⟨t,u,v,k _ _ (.inl rfl) e⟩
 | frz ob u ih=>obtain ⟨e,q⟩:=x;exact ⟨k _ _ (.inl rfl) e,ih q⟩
 | tbl ps =>
  have e:h.get? a=some { cls:=.none,data:=.fields ps }:=x
  show h'.get? a=some { cls:=.none,data:=.fields ps }
  exact k a _ (.inl rfl) e
 | met f y =>
  have e:h.get? a=some (W.methodObj (.ref f) (.ref y)):=x
  show h'.get? a=some (W.methodObj (.ref f) (.ref y))
  exact k a _ (.inl rfl) e
 | ext φ=>obtain ⟨p,⟨o,e⟩,st⟩:=x;exact ⟨st _ _ p λ o q=>k _ _ (.inl rfl) q,⟨o,k _ _ (.inl rfl) e⟩,st⟩
theorem HOk.lt (x:HOk P w H h) (e:H a=some o):a < h.objs.size:=(x a o e).lt
theorem HOk.fresh (x:HOk P w H h) (e:h.objs.size≤a):H a=none:=by
 cases q:H a with
 | none=>rfl
 | some u=>exact absurd (Nat.lt_of_lt_of_le (x.lt q) e) (Nat.lt_irrefl _)
theorem HOk.kept (x:HOk P w H h) (k:∀b u,h.get? b=some u->h'.get? b=some u):HOk P w H h':=λ a o e =>
 (x a o e).stay (λ b u _ q=>k b u q) (λ _ q=>q) λ _ _ q=>q
theorem HOk.laid (x:HOk P w H h) (k:∀b u,h.get? b=some u->h'.get? b=some u) (hp:h.objs.size≤a) (new:ObjOk P w (upd H a o) h' a o):HOk P w (upd H a o) h':=λ b u e=>by
 have hn:=x.fresh hp
 by_cases hb:b=a
 ·subst hb;rw [z0f] at e;cases e;exact new
 ·rw [z0n hb] at e
  exact (x b u e).stay (λ c v _ q=>k c v q) (λ c q=>by rw [z0n (z2t q hn)];exact q) λ c xs q=>by rw [z0n (z2t q hn)];exact q
end
def Rd (H:Hp) (a:Addr) (u:HO):Prop:=H a=some u\/∃o,H a=some (.frz o u)
theorem Rd.of {H:Hp}{a:Addr}{u:HO}(h:H a=some u):Rd H a u:=.inl h
theorem Rd.ok {P:Program}{w:World}{H:Hp}{h:Heap}{a:Addr}{u:HO}(r:Rd H a u) (x:HOk P w H h):ObjOk P w H h a u:=by
 rcases r with r | ⟨o,r⟩
 ·exact x a u r
 ·obtain ⟨_,q⟩:=x a _ r
  exact q
def Mut:Option HO->Prop
 | some (.lst _)=>True
 | some (.dK _)=>True
 | some (.dT _)=>True
 | some (.set _ _)=>True
 | some (.ins _ _ _)=>True
 | some (.ext _)=>True
 | _=>False
section
variable {P:Program}{w:World}{H:Hp}{h h':Heap}{x e:Addr}{o':HO}
theorem HOk.write (ok:HOk P w H h) (mu:Mut (H x)) (he:e=x\/H e=some (.own x)) (k:∀b u,b≠e->h.get? b=some u->h'.get? b=some u) (heo:∃u,h'.get? e=some u)
  (new:ObjOk P w (upd H x o') h' x o'):HOk P w (upd H x o') h':=λ b u q=>by
 have nown:∀c y,H c=some (.own y)->c≠x:=λ c y r z=>by subst z;rw [r] at mu;exact mu
 have ntup:∀c xs,H c=some (.tup xs)->c≠x:=λ c xs r z=>by subst z;rw [r] at mu;exact mu
 by_cases hb:b=x
 ·subst hb;rw [z0f] at q;cases q;exact new
 ·rw [z0n hb] at q
  by_cases hbe:b=e
  ·have q':H b=some (.own x):=by
    rcases he with z | z
    ·exact absurd (hbe.trans z) hb
    ·rw [hbe];exact z
   rw [q] at q';cases q'
   obtain ⟨v,hv⟩:=heo
   exact ⟨v,by rw [hbe];exact hv⟩
  ·refine (ok b u q).stay (λ c v hc r=>k c v ?_ r) (λ c r=>by rw [z0n (nown c b r)];exact r) λ c xs r=>by rw [z0n (ntup c xs r)];exact r
   rcases hc with rfl | hc
   ·exact hbe
   ·rintro rfl
    rcases he with z | z
    ·exact nown c b hc z
    ·rw [hc] at z;cases z;exact hb rfl
end
structure Un (fs ex:List Addr) (H H':Hp) (h h':Heap):Prop where
 keep:∀b o,h.get? b=some o->H b=none->b ∉ fs->b ∉ ex->h'.get? b=some o
 slot:∀b o,h.get? b=some o->H b=none->b∈fs->b ∉ ex->∃sl,h'.get? b=some { o with slots:=sl }
 free:∀b o,h.get? b=some o->H b=none->b ∉ ex->H' b=none
 there:∀b o,h.get? b=some o->b ∉ ex->∃o',h'.get? b=some o'
 tups:∀b xs,H b=some (.tup xs)->H' b=some (.tup xs)
 frzs:∀b o u,H b=some (.frz o u)->H' b=some (.frz o u)
 tbls:∀b ps,H b=some (.tbl ps)->∃more,H' b=some (.tbl (ps++more))
section
variable {fs fs' ex ex':List Addr}{H H1 H2:Hp}{h h1 h2 h':Heap}{a x e:Addr}{o:HO}
theorem Un.any (u:Un fs ex H H1 h h1) {b:Addr}{ob:Obj}(q:h.get? b=some ob) (n:H b=none) (hx:b ∉ ex):∃sl,h1.get? b=some { ob with slots:=sl }:=by
 by_cases hb:b∈fs
 ·exact u.slot b ob q n hb hx
 ·exact ⟨ob.slots,u.keep b ob q n hb hx⟩
theorem Un.trans (a:Un fs ex H H1 h h1) (b:Un fs ex H1 H2 h1 h2):Un fs ex H H2 h h2 where
 keep:=λ c ob q n hc hx=>b.keep c ob (a.keep c ob q n hc hx) (a.free c ob q n hx) hc hx
 slot:=λ c ob q n hc hx=>by
  obtain ⟨sl,e1⟩:=a.slot c ob q n hc hx
  obtain ⟨sl',e2⟩:=b.slot c _ e1 (a.free c ob q n hx) hc hx
  exact ⟨sl',e2⟩
 free:=λ c ob q n hx=>by
  obtain ⟨o',e1⟩:=a.there c ob q hx
  exact b.free c o' e1 (a.free c ob q n hx) hx
 there:=λ c ob q hx=>by
  obtain ⟨o',e1⟩:=a.there c ob q hx
  exact b.there c o' e1 hx
 tups:=λ c xs q=>b.tups c xs (a.tups c xs q)
 frzs:=λ c ob xs q=>b.frzs c ob xs (a.frzs c ob xs q)
 tbls:=λ c ps q=>by
  obtain ⟨m1,e1⟩:=a.tbls c ps q
  obtain ⟨m2,e2⟩:=b.tbls c _ e1
  exact ⟨m1++m2,by rw [e2,Array.append_assoc]⟩
theorem Un.kept (k:∀b u,h.get? b=some u->h'.get? b=some u):Un fs ex H H h h' :=
 ⟨λ b ob q _ _ _=>k b ob q,λ b ob q _ _ _=>⟨ob.slots,k b ob q⟩,λ _ _ _ n _=>n,λ b ob q _=>⟨ob,k b ob q⟩,λ _ _ q=>q,λ _ _ _ q=>q,λ _ ps q=>⟨#[],by rw [q];simp⟩⟩
theorem Un.refl:Un fs ex H H h h:=Un.kept λ _ _ q=>q
theorem Un.laid (k:∀b u,h.get? b=some u->h'.get? b=some u) (hp:h.objs.size≤a) (hn:H a=none):Un fs ex H (upd H a o) h h' where
 keep:=λ b u q _ _ _=>k b u q
 slot:=λ b u q _ _ _=>⟨u.slots,k b u q⟩
 free:=λ b u q n _=>by rw [z0n (Nat.ne_of_lt (Nat.lt_of_lt_of_le (Heap.lt_size q) hp))];exact n
 there:=λ b u q _=>⟨u,k b u q⟩
 tups:=λ b xs q=>by rw [z0n (z2t q hn)];exact q
 frzs:=λ b u xs q=>by rw [z0n (z2t q hn)];exact q
 tbls:=λ b ps q=>⟨#[],by rw [z0n (z2t q hn),q];simp⟩
theorem Un.write (mu:Mut (H x)) (he:e=x\/H e=some (.own x)) (k:∀b u,b≠e->h.get? b=some u->h'.get? b=some u) (heo:∃u,h'.get? e=some u):Un fs ex H (upd H x o) h h':=by
 have hx:∀b,H b=none->b≠x:=λ b n z=>by subst z;rw [n] at mu;exact mu
 have hb:∀b,H b=none->b≠e:=λ b n z=>by
  subst z
  rcases he with r | r
  ·exact hx b n r
  ·rw [n] at r;cases r
 have hm:∀b u,H b=some u->¬Mut (some u)->b≠x:=λ b u q nm z=>by subst z;rw [q] at mu;exact nm mu
 refine ⟨λ b u q n _ _=>k b u (hb b n) q,λ b u q n _ _=>⟨u.slots,k b u (hb b n) q⟩,λ b u q n _=>by rw [z0n (hx b n)];exact n,λ b u q _=>?_,
  λ b xs q=>by rw [z0n (hm b _ q λ z=>z)];exact q,λ b u xs q=>by rw [z0n (hm b _ q λ z=>z)];exact q,λ b ps q=>⟨#[],by rw [z0n (hm b _ q λ z=>z),q];simp⟩⟩
 by_cases hbe:b=e
 ·subst hbe;exact heo
 ·exact ⟨u,k b u hbe q⟩
theorem Un.mono (u:Un fs ex H H1 h h1) (hs:∀b∈fs,b∈fs') (hx:∀b∈ex,b∈ex'):Un fs' ex' H H1 h h1 :=
 ⟨λ b ob q n hb he=>u.keep b ob q n (λ z=>hb (hs b z)) λ z=>he (hx b z),λ _ _ q n _ he=>u.any q n λ z=>he (hx _ z),λ b ob q n he=>u.free b ob q n λ z=>he (hx b z),λ b ob q he=>u.there b ob q λ z=>he (hx b z),u.tups,u.frzs,u.tbls⟩
end
def trk (h:Heap) (H:Hp):List Addr:=(List.range h.objs.size).filter λ a=>(H a).isSome
def x3r (h:Heap) (H:Hp):Heap:=W.hideAll h (trk h H)
theorem x0k (h:Heap) (H:Hp):(x3r h H).objs.size=h.objs.size:=W.hideAll_size _ _
theorem x3q {h:Heap}{H:Hp}{b:Addr}{o:Obj}(e:h.get? b=some o) (n:H b=none):(x3r h H).get? b=some o :=
 W.hideAll_get _ e λ hm=>by
  have q:(H b).isSome=true:=(List.mem_filter.mp hm).2
  rw [n] at q;simp at q
theorem x7q {h:Heap}{H:Hp}{b:Addr}{o:Obj}(e:(x3r h H).get? b=some o):h.get? b=some o/\H b=none:=by
 have e':h.get? b=some o:=W.of_hideAll (trk h H) e
 refine ⟨e',?_⟩
 cases q:H b with
 | none=>rfl
 | some x =>
  have hm:b∈trk h H:=List.mem_filter.mpr ⟨List.mem_range.mpr (Heap.lt_size e'),by simp [q]⟩
  have z:(x3r h H).get? b=none:=W.hideAll_none (trk h H) hm
  rw [z] at e;cases e
def x8r (g h:Heap) (L:Addr):List (Addr × Obj):=(List.range h.objs.size).filterMap λ a=>if a=L\/(g.get? a).isSome=true then none else (h.get? a).map λ o=>(a,o)
def rest (g h:Heap) (L d:Addr):List (Addr × Obj):=(x8r g h L).filter λ p=>decide (p.1≠d)
structure Mod (K:W.Frag) (mg:Str->Option Value) (base:Heap):Prop where
 kin:K.In base
 glob:base.Ns mainGlobals mg
 blt:∃mb,base.Ns builtinsNs mb/\∀x:Str,x ≠ "__name__" -> mb x=bootBuiltins x
 nolimit:base.NoLimit
structure Cx where
 prog:Program
 w:World
 K:W.Frag
 mg:Str->Option Value
 base:Heap
 A:Around
 N:List Str
 s₀:Shared
 H₀:Hp
 env:Env
 outer:List Env
 stack:List Env
 ex:List Addr
 fn:Str->Bool
 calm:Bool
 pn:List (Addr × Obj)
 xe:Value->Shared->Prop
def frs (l:List Env):List Addr:=l.filterMap (·.frame)
abbrev Cx.fs (X:Cx):List Addr:=frs X.outer
def Vis (sc:Scope) (x:Str):Prop:=sc.names.lookup x=some .local\/sc.names.lookup x=some .cell\/sc.names.lookup x=some .free
def Loc (sc:Scope) (x:Str):Prop:=sc.names.lookup x=some .local\/sc.names.lookup x=some .cell
def w6h (env:Env) (h:Heap) (m:Str->Option Value) (x:Str) (u:Value):Prop :=
 (env.kindOf x=some .local/\m x=some u)\/((env.kindOf x=some .cell\/env.kindOf x=some .free)/\∃c,env.cells.lookup x=some c/\h.IsCell c (some u))
structure Cx.Ok (X:Cx):Prop where
 mod:Mod X.K X.mg X.base
 kind:X.env.scope.kind=.function
 glob:X.env.globals=mainGlobals
 blt:X.env.builtins=builtinsNs
 above:X.s₀.heap.objs.size≤X.env.locals
 inj:∀x y c,X.env.cells.lookup x=some c->X.env.cells.lookup y=some c->x=y
 has:∀x,(X.env.kindOf x=some .cell\/X.env.kindOf x=some .free)->∃c,X.env.cells.lookup x=some c
 cab:∀x c,X.fn x=true->X.env.cells.lookup x=some c->X.s₀.heap.objs.size≤c
 hd:X.calm=true->X.A.handled=none
 frames:X.A.frames=some X.stack
 stk:X.stack=X.outer\/(X.stack=X.env::X.outer/\X.env.frame=some X.env.locals)
 exf:∀b∈X.ex,b≠X.env.locals/\∀x c,X.env.cells.lookup x=some c->c≠b
 bs:∀b o,X.base.get? b=some o->X.s₀.heap.get? b=some o/\X.H₀ b=none
 bsz:X.base.objs.size≤X.s₀.heap.objs.size
 noex:∀b o,X.base.get? b=some o->b ∉ X.ex
 exfs:∀b∈X.ex,b ∉ X.fs
 funs:X.s₀.heap.FunFrames X.base X.outer
 frf:∀b∈X.fs,X.H₀ b=none
structure Inv (X:Cx) (pins:List (Addr × Obj)) (σ:List (Option V)) (H:Hp) (s:Shared):Prop where
 ok:X.Ok
 os:s.os=X.s₀.os
 bare:AllBare s.gens
 base:Un X.fs X.ex X.H₀ H X.s₀.heap s.heap
 loc:∃m,s.heap.Ns X.env.locals m/\∀(i:Nat) (x:Str) (v:V),X.N[i]?=some x->σ[i]?=some (some v)->Vis X.env.scope x->∃u,RelV v u/\w6h X.env s.heap m x u
 cell:∀x c,X.env.cells.lookup x=some c->∃v,s.heap.IsCell c v
 free:H X.env.locals=none
 freeC:∀x c,X.env.cells.lookup x=some c->H c=none
 pin:∀p∈X.pn++pins,s.heap.get? p.1=some p.2/\H p.1=none/\p.1≠X.env.locals/\p.1 ∉ X.fs/\∀v,p.2.data≠.cell v
 hok:HOk X.prog X.w H s.heap
 len:σ.length=X.N.length
section
variable {X:Cx}{pins:List (Addr × Obj)}{σ:List (Option V)}{H H':Hp}{s:Shared}{h':Heap}
theorem Cx.Ok.nofr (ok:X.Ok) {b:Addr}{o:Obj}(e:X.base.get? b=some o):b ∉ X.fs:=λ hb=>by
 have:=(ok.funs.mem hb).1
 rw [e] at this;cases this
theorem Inv.bs (I:Inv X pins σ H s):∀b o,X.base.get? b=some o->s.heap.get? b=some o/\H b=none:=λ b o e =>
 ⟨I.base.keep b o (I.ok.bs b o e).1 (I.ok.bs b o e).2 (I.ok.nofr e) (I.ok.noex b o e),I.base.free b o (I.ok.bs b o e).1 (I.ok.bs b o e).2 (I.ok.noex b o e)⟩
theorem Inv.bk (I:Inv X pins σ H s):∀b o,X.base.get? b=some o->s.heap.get? b=some o:=λ b o e=>(I.bs b o e).1
theorem Inv.mod (I:Inv X pins σ H s):Mod X.K X.mg X.base:=I.ok.mod
theorem Inv.kIn (I:Inv X pins σ H s):X.K.In s.heap:=I.ok.mod.kin.keeps I.bk
theorem Inv.nolimit (I:Inv X pins σ H s):s.heap.NoLimit:=I.ok.mod.nolimit.keeps I.bk
theorem Inv.fr (I:Inv X pins σ H s):∃m,Fr X.base X.env.locals s.heap m :=
 let ⟨m,hn,_⟩:=I.loc
 ⟨m,hn,I.bk,Nat.le_trans I.ok.bsz I.ok.above⟩
theorem Inv.lt (I:Inv X pins σ H s):X.env.locals < s.heap.objs.size:=let ⟨_,hn,_⟩:=I.loc;hn.lt
theorem Inv.sz (I:Inv X pins σ H s):X.s₀.heap.objs.size≤s.heap.objs.size:=Nat.le_trans I.ok.above (Nat.le_of_lt I.lt)
theorem Inv.nofs (I:Inv X pins σ H s) {a:Addr}(h:s.heap.objs.size≤a):a ∉ X.fs:=λ hb=>by
 obtain ⟨_,o,ho,_⟩:=I.ok.funs.mem hb
 exact absurd (Nat.lt_of_lt_of_le (Heap.lt_size ho) (Nat.le_trans I.sz h)) (Nat.lt_irrefl _)
theorem Inv.cne (I:Inv X pins σ H s):∀x c,X.env.cells.lookup x=some c->c≠X.env.locals:=λ x c e z=>by
 obtain ⟨v,o,ho,hd⟩:=I.cell x c e
 obtain ⟨m,⟨o',es,ep,ho',hd',_⟩,_⟩:=I.loc
 rw [z,ho'] at ho;cases ho;rw [hd'] at hd;cases hd
theorem Inv.funs (I:Inv X pins σ H s):s.heap.FunFrames X.base X.outer:=by
 have all:∀(l:List Env),(∀b∈frs l,b∈X.fs)->X.s₀.heap.FunFrames X.base l->s.heap.FunFrames X.base l:=by
  intro l
  induction l with
  | nil=>intro _ _;trivial
  | cons env r ih =>
   intro hs hl
   obtain ⟨hk,⟨L,o,hf,hn,ho,hd⟩,hr⟩:=hl
   have hL:L∈X.fs:=hs L (by unfold frs;rw [List.filterMap_cons,hf];exact List.mem_cons_self)
   obtain ⟨sl,e⟩:=I.base.slot L o ho (I.ok.frf L hL) hL λ z=>I.ok.exfs L z hL
   exact ⟨hk,⟨L,_,hf,hn,e,hd⟩,ih (λ b hb=>hs b (by unfold frs;rw [List.filterMap_cons,hf];exact List.mem_cons_of_mem _ hb)) hr⟩
 exact all X.outer (λ _ hb=>hb) I.ok.funs
theorem Inv.stack (I:Inv X pins σ H s):s.heap.FunFrames X.base X.stack:=by
 rcases I.ok.stk with e | ⟨e,hf⟩
 ·rw [e];exact I.funs
 ·rw [e]
  obtain ⟨m,hn,_⟩:=I.loc
  refine .cons (by rw [I.ok.kind];decide) hf hn ?_ I.funs
  exact Heap.get?_none_of_le (Nat.le_trans I.ok.bsz I.ok.above)
theorem Inv.stkSub (I:Inv X pins σ H s):∀b∈frs X.stack,b∈X.env.locals::X.fs:=λ b hb=>by
 rcases I.ok.stk with e | ⟨e,hf⟩
 ·rw [e] at hb;exact List.mem_cons_of_mem _ hb
 ·rw [e] at hb
  unfold frs at hb
  rw [List.filterMap_cons,hf] at hb
  exact hb
theorem Inv.stkFree (I:Inv X pins σ H s):∀b∈frs X.stack,H b=none:=λ b hb=>by
 rcases List.mem_cons.mp (I.stkSub b hb) with e | hb
 ·rw [e];exact I.free
 ·obtain ⟨_,o,ho,_⟩:=I.ok.funs.mem hb
  exact I.base.free b o ho (I.ok.frf b hb) λ z=>I.ok.exfs b z hb
theorem Inv.step {g':Array GenState}{t':Nat}{d':Drawn}{ch:List Addr}(I:Inv X pins σ H s)
  (hch:∀b∈ch,(b∈X.ex\/X.s₀.heap.objs.size≤b)/\b≠X.env.locals/\(∀x c,X.env.cells.lookup x=some c->c≠b)/\∀p∈X.pn++pins,p.1≠b)
  (keep:∀b o,b≠X.env.locals->b ∉ X.fs->b ∉ ch->s.heap.get? b=some o->H b=none->h'.get? b=some o)
  (slot:∀b o,b≠X.env.locals->b∈X.fs->b ∉ ch->s.heap.get? b=some o->H b=none->∃sl,h'.get? b=some { o with slots:=sl }) (free:∀b o,b ∉ ch->s.heap.get? b=some o->H b=none->H' b=none)
  (there:∀b o,b ∉ ch->s.heap.get? b=some o->∃o',h'.get? b=some o')
  (tups:∀b xs,H b=some (.tup xs)->H' b=some (.tup xs)) (frzs:∀b o u,H b=some (.frz o u)->H' b=some (.frz o u)) (tbls:∀b ps,H b=some (.tbl ps)->∃more,H' b=some (.tbl (ps++more)))
  (ns:∀m,s.heap.Ns X.env.locals m->h'.Ns X.env.locals m) (hok:HOk X.prog X.w H' h') (hg:AllBare g') :
  Inv X pins σ H' { s with heap:=h',gens:=g',drawn:=d',toks:=t' }:=by
 have neL:∀b o,X.s₀.heap.get? b=some o->b≠X.env.locals:=λ b o e=>Nat.ne_of_lt (Nat.lt_of_lt_of_le (Heap.lt_size e) I.ok.above)
 have neC:∀b o,X.s₀.heap.get? b=some o->b ∉ X.ex->b ∉ ch:=λ b o e hx hb=>by
  rcases (hch b hb).1 with z | z
  ·exact hx z
  ·exact absurd (Nat.lt_of_lt_of_le (Heap.lt_size e) z) (Nat.lt_irrefl _)
 have cellK:∀x c,X.env.cells.lookup x=some c->∀v,s.heap.IsCell c v->h'.IsCell c v:=λ x c e v ⟨o,ho,hd⟩=>by
  have nch:c ∉ ch:=λ z=>(hch c z).2.2.1 x c e rfl
  by_cases hc:c∈X.fs
  ·obtain ⟨sl,q⟩:=slot c o (I.cne x c e) hc nch ho (I.freeC x c e)
   exact ⟨_,q,hd⟩
  ·exact ⟨o,keep c o (I.cne x c e) hc nch ho (I.freeC x c e),hd⟩
 refine ⟨I.ok,I.os,hg,⟨λ b o e n hb hx=>?_,λ b o e n hb hx=>?_,λ b o e n hx=>?_,λ b o e hx=>?_,λ b xs e=>tups b xs (I.base.tups b xs e),λ b o xs e=>frzs b o xs (I.base.frzs b o xs e),λ b ps e=>?_⟩,?_,λ x c e=>?_,?_,λ x c e=>?_,λ p hp=>?_,hok,I.len⟩
 ·exact keep b o (neL b o e) hb (neC b o e hx) (I.base.keep b o e n hb hx) (I.base.free b o e n hx)
 ·obtain ⟨sl,e1⟩:=I.base.slot b o e n hb hx
  obtain ⟨sl',e2⟩:=slot b _ (neL b o e) hb (neC b o e hx) e1 (I.base.free b o e n hx)
  exact ⟨sl',e2⟩
 ·obtain ⟨o',e1⟩:=I.base.there b o e hx
  exact free b o' (neC b o e hx) e1 (I.base.free b o e n hx)
 ·obtain ⟨o',e1⟩:=I.base.there b o e hx
  exact there b o' (neC b o e hx) e1
 ·obtain ⟨m1,e1⟩:=I.base.tbls b ps e
  obtain ⟨m2,e2⟩:=tbls b _ e1
  exact ⟨m1++m2,by rw [e2,Array.append_assoc]⟩
 ·obtain ⟨m,hn,hl⟩:=I.loc
  refine ⟨m,ns m hn,λ i x v e1 e2 e3=>?_⟩
  obtain ⟨u,r,l⟩:=hl i x v e1 e2 e3
  refine ⟨u,r,?_⟩
  rcases l with l | ⟨k,c,e,z⟩
  ·exact .inl l
  ·exact .inr ⟨k,c,e,cellK x c e _ z⟩
 ·obtain ⟨v,z⟩:=I.cell x c e
  exact ⟨v,cellK x c e v z⟩
 ·obtain ⟨m,⟨o,_,_,ho,_⟩,_⟩:=I.loc
  exact free _ o (λ z=>(hch _ z).2.1 rfl) ho I.free
 ·obtain ⟨v,o,ho,hd⟩:=I.cell x c e
  exact free c o (λ z=>(hch c z).2.2.1 x c e rfl) ho (I.freeC x c e)
 ·obtain ⟨e,n,ne,nf,d⟩:=I.pin p hp
  have nch:p.1 ∉ ch:=λ z=>(hch p.1 z).2.2.2 p hp rfl
  exact ⟨keep p.1 p.2 ne nf nch e n,free p.1 p.2 nch e n,ne,nf,d⟩
theorem Inv.un {t':Nat}(I:Inv X pins σ H s) (u:Un X.fs [] H H' s.heap h') (hok:HOk X.prog X.w H' h'):Inv X pins σ H' { s with heap:=h',toks:=t' }:=by
 obtain ⟨m,⟨o,es,ep,ho,r⟩,_⟩:=id I.loc
 obtain ⟨sl,hL⟩:=u.any ho I.free (by simp)
 exact I.step (g':=s.gens) (d':=s.drawn) (ch:=[]) (λ _ z=>nomatch z) (λ b o _ hb _ e n=>u.keep b o e n hb (by simp)) (λ b o _ hb _ e n=>u.slot b o e n hb (by simp)) (λ b o _ e n=>u.free b o e n (by simp)) (λ b o _ e=>u.there b o e (by simp)) u.tups u.frzs u.tbls (λ m' hm=>by
  obtain ⟨o',es',ep',ho',r'⟩:=hm
  rw [ho] at ho';cases ho'
  exact ⟨_,es',ep',hL,r'⟩) hok I.bare
theorem Inv.call {g':Array GenState}{t':Nat}{d':Drawn}{ch:List Addr}(I:Inv X pins σ H s) (u:Un (frs X.stack) ch H H' s.heap h') (hok:HOk X.prog X.w H' h') (hg:AllBare g')
  (hch:∀b∈ch,(b∈X.ex\/X.s₀.heap.objs.size≤b)/\b≠X.env.locals/\(∀x c,X.env.cells.lookup x=some c->c≠b)/\∀p∈X.pn++pins,p.1≠b) :
  Inv X pins σ H' { s with heap:=h',gens:=g',drawn:=d',toks:=t' }:=by
 obtain ⟨m,⟨o,es,ep,ho,r⟩,_⟩:=id I.loc
 obtain ⟨sl,hL⟩:=u.any ho I.free λ z=>(hch _ z).2.1 rfl
 exact I.step (ch:=ch) hch (λ b o hL hb hc e n=>u.keep b o e n (λ z=>(List.mem_cons.mp (I.stkSub b z)).elim hL hb) hc) (λ b o _ _ hc e n=>u.any e n hc) (λ b o hc e n=>u.free b o e n hc) (λ b o hc e=>u.there b o e hc) u.tups u.frzs u.tbls (λ m' hm=>by
  obtain ⟨o',es',ep',ho',r'⟩:=hm
  rw [ho] at ho';cases ho'
  exact ⟨_,es',ep',hL,r'⟩) hok hg
theorem Inv.turned {t':Nat}{it:Addr}(I:Inv X pins σ H s) (k:∀b o,b≠it->s.heap.get? b=some o->h'.get? b=some o) (hn:H it=none) (hL:it≠X.env.locals)
  (h1:it∈X.ex\/X.s₀.heap.objs.size≤it) (h2:∀x c,X.env.cells.lookup x=some c->c≠it) (h3:∀p∈X.pn++pins,p.1≠it):Inv X pins σ H { s with heap:=h',toks:=t' }:=by
 have nit:∀b u,H b=some u->b≠it:=λ b u e z=>by rw [z,hn] at e;cases e
 refine I.step (g':=s.gens) (d':=s.drawn) (ch:=[it]) (λ b hb=>?_) (λ b o _ _ hc e _=>k b o (λ z=>hc (by simp [z])) e) (λ b o _ _ hc e _=>⟨o.slots,k b o (λ z=>hc (by simp [z])) e⟩) (λ _ _ _ _ n=>n)
  (λ b o hc e=>⟨o,k b o (λ z=>hc (by simp [z])) e⟩) (λ _ _ e=>e) (λ _ _ _ e=>e) (λ b ps e=>⟨#[],by rw [e];simp⟩) (λ m hm=>?_) (λ b u e=>?_) I.bare
 ·have e:b=it:=by simpa using hb
  subst e
  exact ⟨h1,hL,h2,h3⟩
 ·obtain ⟨o,es,ep,ho,r⟩:=hm
  exact ⟨o,es,ep,k _ o (Ne.symm hL) ho,r⟩
 ·refine (I.hok b u e).stay (λ c v hc q=>k c v ?_ q) (λ _ q=>q) λ _ _ q=>q
  rcases hc with z | z
  ·rw [z];exact nit b u e
  ·exact nit c _ z
theorem Inv.tok (I:Inv X pins σ H s) (t:Nat):Inv X pins σ H { s with toks:=t }:=I.un (h':=s.heap) (t':=t) Un.refl I.hok
theorem Inv.kept {t':Nat}(I:Inv X pins σ H s) (k:∀b u,s.heap.get? b=some u->h'.get? b=some u):Inv X pins σ H { s with heap:=h',toks:=t' }:=I.un (Un.kept k) (I.hok.kept k)
theorem Inv.laid {a:Addr}{o:HO}{t':Nat}(I:Inv X pins σ H s) (k:∀b u,s.heap.get? b=some u->h'.get? b=some u) (hp:s.heap.objs.size≤a) (new:ObjOk X.prog X.w (upd H a o) h' a o) :
  Inv X pins σ (upd H a o) { s with heap:=h',toks:=t' }:=I.un (Un.laid k hp (I.hok.fresh hp)) (I.hok.laid k hp new)
theorem Inv.write {x e:Addr}{o:HO}{t':Nat}(I:Inv X pins σ H s) (mu:Mut (H x)) (he:e=x\/H e=some (.own x)) (k:∀b u,b≠e->s.heap.get? b=some u->h'.get? b=some u) (heo:∃u,h'.get? e=some u)
  (new:ObjOk X.prog X.w (upd H x o) h' x o):Inv X pins σ (upd H x o) { s with heap:=h',toks:=t' }:=I.un (Un.write mu he k heo) (I.hok.write mu he k heo new)
theorem Inv.pins_of {pins':List (Addr × Obj)}(I:Inv X pins σ H s) (h:∀p∈pins',s.heap.get? p.1=some p.2/\H p.1=none/\p.1≠X.env.locals/\p.1 ∉ X.fs/\∀v,p.2.data≠.cell v):Inv X pins' σ H s :=
 ⟨I.ok,I.os,I.bare,I.base,I.loc,I.cell,I.free,I.freeC,λ p hp=>(List.mem_append.mp hp).elim (λ z=>I.pin p (List.mem_append_left _ z)) (h p),I.hok,I.len⟩
theorem y0e {N:List Str}(hN:N.Nodup) {i j:Nat}{x:Str}(a:N[i]?=some x) (b:N[j]?=some x):i=j:=by
 obtain ⟨h1,e1⟩:=List.getElem?_eq_some_iff.mp a
 obtain ⟨h2,e2⟩:=List.getElem?_eq_some_iff.mp b
 exact (List.getElem_inj hN).mp (e1.trans e2.symm)
theorem z7a {M:Model}{A:Around}{E:Value->Shared->Prop}{i:Nat}{x:Str}{v:V}{u:Value}{Q:Unit->Shared->Prop}(I:Inv X pins σ H s) (hN:X.N.Nodup) (hi:X.N[i]?=some x) (hx:Loc X.env.scope x) (r:RelV v u)
  (h:∀s',Inv X pins (σ.set i (some v)) H s'->(∃a,Heap.SameBut a s.heap s'.heap/\(a=X.env.locals\/X.env.cells.lookup x=some a))->Q () s') (hf:X.fn x=true\/X.env.scope.names.lookup x=some .local:=by first | exact .inl rfl | exact .inr rfl | assumption):wpAny M A (storeName X.env x u) Q E s:=by
 obtain ⟨m,hn,hl⟩:=id I.loc
 have hcls:(X.env.scope.kind == .class || (X.env.scope.kind == .module && X.env.locals != X.env.globals))=false:=by rw [I.ok.kind];rfl
 have hiσ:i < σ.length:=by rw [I.len];exact (List.getElem?_eq_some_iff.mp hi).1
 have cne:=I.cne
 have tracked:∀ {a:Addr}{h':Heap},(∃o,s.heap.get? a=some o/\H a=none)->Heap.SameBut a s.heap h'->HOk X.prog X.w H h':=λ {a h'} ha hs b ob e=>by
  obtain ⟨_,_,hfree⟩:=ha
  refine (I.hok b ob e).stay (λ c w' hc q=>(hs.2 c ?_).trans q) (λ _ q=>q) λ _ _ q=>q
  rintro rfl
  rcases hc with rfl | hc
  ·rw [hfree] at e;cases e
  ·rw [hfree] at hc;cases hc
 rcases hx with hk | hk
 ·refine wpAny_storeName_local hk hn (λ h' hn' hs=>?_) hcls
  obtain ⟨oL,_,_,hoL,_⟩:=id hn
  refine h _ ⟨I.ok,I.os,I.bare,⟨λ b o e n hb hx=>?_,λ b o e n hb hx=>?_,I.base.free,λ b o e hx=>?_,I.base.tups,I.base.frzs,I.base.tbls⟩,⟨_,hn',λ j y v' e1 e2 e3=>?_⟩,λ y c e=>?_,I.free,I.freeC,λ p hp=>?_,tracked ⟨oL,hoL,I.free⟩ hs,by simpa using I.len⟩ ⟨_,hs,.inl rfl⟩
  ·exact (hs.2 b (Nat.ne_of_lt (Nat.lt_of_lt_of_le (Heap.lt_size e) I.ok.above))).trans (I.base.keep b o e n hb hx)
  ·obtain ⟨sl,e1⟩:=I.base.slot b o e n hb hx
   exact ⟨sl,(hs.2 b (Nat.ne_of_lt (Nat.lt_of_lt_of_le (Heap.lt_size e) I.ok.above))).trans e1⟩
  ·obtain ⟨o',e1⟩:=I.base.there b o e hx
   exact ⟨o',(hs.2 b (Nat.ne_of_lt (Nat.lt_of_lt_of_le (Heap.lt_size e) I.ok.above))).trans e1⟩
  ·by_cases hj:j=i
   ·subst hj
    rw [hi] at e1;cases e1
    rw [List.getElem?_set_self hiσ] at e2
    cases e2
    exact ⟨u,r,.inl ⟨hk,by simp⟩⟩
   ·rw [List.getElem?_set_ne (Ne.symm hj)] at e2
    obtain ⟨u',r',q⟩:=hl j y v' e1 e2 e3
    refine ⟨u',r',?_⟩
    rcases q with ⟨k,e⟩ | ⟨k,c,e,z⟩
    ·refine .inl ⟨k,?_⟩
     have:y≠x:=λ e=>hj (y0e hN e1 (e ▸ hi))
     simp [this,e]
    ·exact .inr ⟨k,c,e,z.sameBut hs (cne y c e)⟩
  ·obtain ⟨w',z⟩:=I.cell y c e
   exact ⟨w',z.sameBut hs (cne y c e)⟩
  ·obtain ⟨e,n,ne,nf,d⟩:=I.pin p hp
   exact ⟨(hs.2 p.1 ne).trans e,n,ne,nf,d⟩
 ·have hfn:X.fn x=true:=by
   rcases hf with z | z
   ·exact z
   ·rw [z] at hk;cases hk
  obtain ⟨c,hc⟩:=I.ok.has x (.inl hk)
  obtain ⟨w',z⟩:=I.cell x c hc
  refine wpAny_storeName_cell I.ok.kind hk hc z (λ h' hc' hs=>?_)
  obtain ⟨oc,hoc,hocd⟩:=id z
  refine h { s with heap:=h' } ⟨I.ok,I.os,I.bare,⟨λ b o e n hb hx=>?_,λ b o e n hb hx=>?_,I.base.free,λ b o e hx=>?_,I.base.tups,I.base.frzs,I.base.tbls⟩,⟨m,hn.sameBut hs (Ne.symm (cne x c hc)),λ j y v' e1 e2 e3=>?_⟩,λ y c' e=>?_,I.free,I.freeC,λ p hp=>?_,tracked ⟨oc,hoc,I.freeC x c hc⟩ hs,by simpa using I.len⟩ ⟨c,hs,.inr hc⟩
  ·exact (hs.2 b (Nat.ne_of_lt (Nat.lt_of_lt_of_le (Heap.lt_size e) (I.ok.cab x c hfn hc)))).trans (I.base.keep b o e n hb hx)
  ·obtain ⟨sl,e1⟩:=I.base.slot b o e n hb hx
   exact ⟨sl,(hs.2 b (Nat.ne_of_lt (Nat.lt_of_lt_of_le (Heap.lt_size e) (I.ok.cab x c hfn hc)))).trans e1⟩
  ·obtain ⟨o',e1⟩:=I.base.there b o e hx
   exact ⟨o',(hs.2 b (Nat.ne_of_lt (Nat.lt_of_lt_of_le (Heap.lt_size e) (I.ok.cab x c hfn hc)))).trans e1⟩
  ·by_cases hj:j=i
   ·subst hj
    rw [hi] at e1;cases e1
    rw [List.getElem?_set_self hiσ] at e2
    cases e2
    exact ⟨u,r,.inr ⟨.inl hk,c,hc,hc'⟩⟩
   ·rw [List.getElem?_set_ne (Ne.symm hj)] at e2
    obtain ⟨u',r',q⟩:=hl j y v' e1 e2 e3
    refine ⟨u',r',?_⟩
    rcases q with q | ⟨k,c',e,z'⟩
    ·exact .inl q
    ·refine .inr ⟨k,c',e,z'.sameBut hs ?_⟩
     rintro rfl
     exact hj (y0e hN e1 (I.ok.inj _ _ _ e hc ▸ hi))
  ·by_cases hcc:c'=c
   ·subst hcc;exact ⟨_,hc'⟩
   ·obtain ⟨w2,z2⟩:=I.cell y c' e
    exact ⟨w2,z2.sameBut hs hcc⟩
  ·obtain ⟨e,n,ne,nf,d⟩:=I.pin p hp
   refine ⟨(hs.2 p.1 ?_).trans e,n,ne,nf,d⟩
   intro q
   rw [q,hoc] at e
   have q':oc=p.2:=Option.some.inj e
   exact d w' (by rw [← q'];exact hocd)
theorem z9a {M:Model}{A:Around}{E:Value->Shared->Prop}{i:Nat}{x:Str}{v:V}{u:Value}{Q:Unit->Shared->Prop}(I:Inv X pins σ H s) (hN:X.N.Nodup) (hi:X.N[i]?=some x) (hx:Loc X.env.scope x) (r:RelV v u)
  (h:∀s',Inv X pins (σ.set i (some v)) H s'->Q () s') (hf:X.fn x=true\/X.env.scope.names.lookup x=some .local:=by first | exact .inl rfl | exact .inr rfl | assumption):wpAny M A (storeName X.env x u) Q E s :=
 z7a I hN hi hx r (λ s' I' _=>h s' I') hf
theorem Inv.call' {s':Shared}{ch:List Addr}(I:Inv X pins σ H s) (ho:s'.os=s.os) (u:Un (frs X.stack) ch H H' s.heap s'.heap) (hok:HOk X.prog X.w H' s'.heap) (hg:AllBare s'.gens)
  (hch:∀b∈ch,(b∈X.ex\/X.s₀.heap.objs.size≤b)/\b≠X.env.locals/\(∀x c,X.env.cells.lookup x=some c->c≠b)/\∀p∈X.pn++pins,p.1≠b):Inv X pins σ H' s':=by
 obtain ⟨h',g',d',t',o'⟩:=s'
 have e:o'=s.os:=ho
 subst e
 exact I.call (g':=g') (t':=t') (d':=d') u hok hg hch
end
abbrev XK:=Value->Option Addr->Hp->Prop
abbrev St:=List (Option V)
abbrev VK:=V->Hp->Prop
abbrev TE:=St->Hp->VK->Prop
abbrev TT:=St->Hp->(Bool->Hp->Prop)->Prop
abbrev TA:=St->Hp->(List V->Hp->Prop)->Prop
structure Ends where
 nx:St->Hp->Prop
 rt:VK
 bk:St->Hp->Prop:=λ _ _=>False
 ct:St->Hp->Prop:=λ _ _=>False
abbrev TS:=Ends->St->Hp->Prop
def EP (X:Cx) (pins:List (Addr × Obj)) (σ:St) (Q:VK) (u:Value) (s':Shared):Prop:=∃v H',Inv X pins σ H' s'/\RelV v u/\Q v H'
def TP (X:Cx) (pins:List (Addr × Obj)) (σ:St) (Q:Bool->Hp->Prop) (b:Bool) (s':Shared):Prop:=∃H',Inv X pins σ H' s'/\Q b H'
def AP (X:Cx) (pins:List (Addr × Obj)) (σ:St) (Q:List V->Hp->Prop) (us:List Value) (s':Shared):Prop:=∃vs H',Inv X pins σ H' s'/\Vals vs us/\Q vs H'
def SP (X:Cx) (pins:List (Addr × Obj)) (D:Ends) (f:Flow) (s':Shared):Prop :=
 match f with
 | .next=>∃σ' H',Inv X pins σ' H' s'/\D.nx σ' H'
 | .brk=>∃σ' H',Inv X pins σ' H' s'/\D.bk σ' H'
 | .cont=>∃σ' H',Inv X pins σ' H' s'/\D.ct σ' H'
 | .ret u=>∃v σ' H',Inv X pins σ' H' s'/\RelV v u/\D.rt v H'
def PE (X:Cx) (e:Expr) (t:TE):Prop :=
 ∀(pins:List (Addr × Obj)) (s:Shared) (σ:St) (H:Hp) (Q:VK),Inv X pins σ H s->t σ H Q->wpAny (model X.prog X.w) X.A (eval e X.env) (EP X pins σ Q) X.xe s
def PT (X:Cx) (e:Expr) (t:TT):Prop :=
 ∀(pins:List (Addr × Obj)) (s:Shared) (σ:St) (H:Hp) (Q:Bool->Hp->Prop),Inv X pins σ H s->t σ H Q->wpAny (model X.prog X.w) X.A (isTrue e X.env (eval e X.env)) (TP X pins σ Q) X.xe s
def PW (X:Cx) (e:Expr) (t:TT):Prop :=
 ∀(whole:Sem Value) (pins:List (Addr × Obj)) (s:Shared) (σ:St) (H:Hp) (Q:Bool->Hp->Prop),Inv X pins σ H s->t σ H Q->wpAny (model X.prog X.w) X.A (isTrue e X.env whole) (TP X pins σ Q) X.xe s
theorem PW.pt {X:Cx}{e:Expr}{t:TT}(h:PW X e t):PT X e t:=h _
def PA (X:Cx) (es:List Expr) (t:TA):Prop :=
 ∀(pos:Pos) (pins:List (Addr × Obj)) (s:Shared) (σ:St) (H:Hp) (Q:List V->Hp->Prop),Inv X pins σ H s->t σ H Q->wpAny (model X.prog X.w) X.A (spliced (backTo pos (starEach es X.env))) (AP X pins σ Q) X.xe s
def PS (X:Cx) (st:Stmt) (t:TS):Prop :=
 ∀(pins:List (Addr × Obj)) (s:Shared) (σ:St) (H:Hp) (D:Ends),Inv X pins σ H s->t D σ H->wpAny (model X.prog X.w) X.A (exec st X.env) (SP X pins D) X.xe s
def PSs (X:Cx) (st:List Stmt) (t:TS):Prop :=
 ∀(pins:List (Addr × Obj)) (s:Shared) (σ:St) (H:Hp) (D:Ends),Inv X pins σ H s->t D σ H->wpAny (model X.prog X.w) X.A (execs st X.env) (SP X pins D) X.xe s
theorem thn {α:Type}{t:Sem α}{Q Q':α->Shared->Prop}{M:Model}{A:Around}{E:Value->Shared->Prop}{s:Shared}(h:wpAny M A t Q E s) (hQ:∀a s,Q a s->Q' a s):wpAny M A t Q' E s:=wpAny_mono h hQ λ _ _ x=>x
section
variable {X:Cx}
def w3g (i:Nat):TE:=λ σ H Q=>∃v,σ[i]?=some (some v)/\Q v H
def tC (v:V):TE:=λ _ H Q=>Q v H
theorem w1b {i:Nat}{x:Str}{pos:Pos}(hN:X.N[i]?=some x) (hv:Vis X.env.scope x) (hd:(x == ("__debug__" : Str))=false:=by decide) (hcd:(x == ("__classdict__" : Str))=false:=by decide):PE X (.Name x pos) (w3g i):=by
 intro pins s σ H Q I h
 obtain ⟨v,e,h⟩:=h
 obtain ⟨m,hn,hl⟩:=I.loc
 obtain ⟨u,r,l⟩:=hl i x v hN e hv
 have fin:EP X pins σ Q u s:=⟨v,H,I,r,h⟩
 rcases l with ⟨hk,hm⟩ | ⟨hk,c,hc,hcell⟩
 ·exact wpAny_Name (wpAny_loadName_local I.ok.kind hk hn hm fin) hd
 ·rcases hk with hk | hk
  ·exact wpAny_Name (wpAny_loadName_cell I.ok.kind hk hc hcell fin) hd
  ·exact wpAny_Name (wpAny_loadName_free I.ok.kind hk hc hcell fin hcd) hd
theorem z0c {i j pos}:PE X (.Constant (.int i) j pos) (tC (.int i)):=λ _ _ _ H _ I h=>wpAny_Constant_int ⟨.int i,H,I.tok _,⟨_,rfl⟩,h⟩
theorem z4b {b j pos}:PE X (.Constant (.bool b) j pos) (tC (.bl b)):=λ _ _ _ H _ I h=>Constant_bool ⟨.bl b,H,I,rfl,h⟩
theorem z8o {j pos}:PE X (.Constant .none j pos) (tC .non):=λ _ _ _ H _ I h=>Constant_none ⟨.non,H,I,rfl,h⟩
theorem z0s {x j pos}:PE X (.Constant (.str x) j pos) (tC (.str x)):=λ _ _ _ H _ I h=>Calls.Constant_str ⟨.str x,H,I.tok _,⟨_,rfl⟩,h⟩
def Gl (X:Cx) (x:Str):Prop:=X.env.kindOf x=some .globalImplicit
theorem z4i {E:Value->Shared->Prop}{pins:List (Addr × Obj)}{s:Shared}{σ:St}{H:Hp}{x:Str}{u:Value}{pos:Pos}{Q:Value->Shared->Prop}(I:Inv X pins σ H s) (hg:Gl X x) (hm:X.mg x=some u) (h:Q u s)
  (hd:(x == ("__debug__" : Str))=false:=by decide):wpAny (model X.prog X.w) X.A (eval (.Name x pos) X.env) Q E s :=
 Calls.Name_function_global I.ok.kind hg (Calls.loadGlobal_global (by rw [I.ok.glob];exact I.mod.glob.keeps I.bk) hm h) hd
theorem z4r {E:Value->Shared->Prop}{pins:List (Addr × Obj)}{s:Shared}{σ:St}{H:Hp}{x:Str}{u:Value}{pos:Pos}{Q:Value->Shared->Prop}(I:Inv X pins σ H s) (hg:Gl X x) (hm:X.mg x=none) (hv:bootBuiltins x=some u) (h:Q u s)
  (hn:x ≠ "__name__" := by decide) (hd:(x == ("__debug__" : Str))=false:=by decide):wpAny (model X.prog X.w) X.A (eval (.Name x pos) X.env) Q E s:=by
 obtain ⟨mb,h1,h2⟩:=I.mod.blt
 exact Calls.Name_function_global I.ok.kind hg (Calls.loadGlobal_builtin (by rw [I.ok.glob];exact I.mod.glob.keeps I.bk) hm (by rw [I.ok.blt];exact h1.keeps I.bk) ((h2 x hn).trans hv) h) hd
theorem z9y {x:Str}{v:V}{u:Value}{pos:Pos}(hg:Gl X x) (hm:X.mg x=some u) (r:RelV v u) (hd:(x == ("__debug__" : Str))=false:=by decide):PE X (.Name x pos) (tC v) :=
 λ _ _ _ H _ I h=>z4i I hg hm ⟨v,H,I,r,h⟩ hd
theorem y9h {x:Str}{v:V}{u:Value}{pos:Pos}(hg:Gl X x) (hm:X.mg x=none) (hv:bootBuiltins x=some u) (r:RelV v u) (hn:x ≠ "__name__" := by decide) (hd:(x == ("__debug__" : Str))=false:=by decide):PE X (.Name x pos) (tC v) :=
 λ _ _ _ H _ I h=>z4r I hg hm hv ⟨v,H,I,r,h⟩ hn hd
variable {a b:Expr}{ta tb:TE}{pos:Pos}
def PC (X:Cx) (op:CmpOp) (a b:Expr) (t:TE):Prop :=
 ∀(pins:List (Addr × Obj)) (s:Shared) (σ:St) (H:Hp) (Q:VK),Inv X pins σ H s->t σ H Q ->
  wpAny (model X.prog X.w) X.A (eval a X.env) (λ v s₁=>wpAny (model X.prog X.w) X.A (eval b X.env) (λ u s₂=>wpAny (model X.prog X.w) X.A (compareOp op v u) (EP X pins σ Q) X.xe s₂) X.xe s₁) X.xe s
theorem x3d (b:Expr) {op:CmpOp}(h:op≠.In) (h2:op≠.NotIn):behindInMarks op b=false:=by
 have e1:(op == CmpOp.In)=false:=by cases op<;>first | rfl | exact absurd rfl h
 have e2:(op == CmpOp.NotIn)=false:=by cases op<;>first | rfl | exact absurd rfl h2
 cases b<;>simp [behindInMarks,e1,e2]
def tB (t:TE):TT:=λ σ H Q=>t σ H λ x H1=>∃c,x=.bl c/\Q c H1
theorem y8t {op:CmpOp}{t:TE}(h:PC X op a b t) (h1:behindInMarks op b=false:=by first | exact x3d _ (by decide) (by decide) | rfl):PT X (.Compare a [op] [b] pos) (tB t):=by
 intro pins s σ H Q I hw
 refine wpAny_isTrue_Compare1 (thn (h pins s σ H _ I hw) λ v s1 h1=>thn h1 λ u s2 h2=>thn h2 λ c s3 ⟨x,H1,I1,r1,q1⟩=>?_) h1
 obtain ⟨d,rfl,q⟩:=q1
 cases r1
 exact wpAny_truthy_bool ⟨H1,I1,q⟩
theorem z8n {e:Expr}{t:TE}(h:PE X e t) (he:∀whole,isTrue e X.env whole=(do let v ← whole;standAt e.pos;holding [v] (truthy v)):=by intro _;rfl):PT X e (tB t):=by
 intro pins s σ H Q I hw
 refine isTrue_plain (thn (h pins s σ H _ I hw) λ v s1 ⟨x,H1,I1,r1,q1⟩=>?_) (he _)
 obtain ⟨d,rfl,q⟩:=q1
 cases r1
 exact wpAny_truthy_bool ⟨H1,I1,q⟩
variable {tA tB':TT}{rest:List Expr}
def w5k (t u:TT):TT:=λ σ H Q=>t σ H λ c H1=>if c=true then u σ H1 Q else Q false H1
def tOr (t u:TT):TT:=λ σ H Q=>t σ H λ c H1=>if c=true then Q true H1 else u σ H1 Q
def w5e (t:TT):TT:=λ σ H Q=>t σ H λ c H1=>Q (!c) H1
theorem z9t (ha:PT X a tA):PW X (.BoolOp .And [a] pos) tA:=by
 intro wh pins s σ H Q I h
 refine isTrue_and (thn (ha pins s σ H Q I h) λ c s1 e=>?_)
 cases c with
 | true=>exact isTrue_and_nil e
 | false=>exact e
theorem z3i (ha:PT X a tA):PW X (.BoolOp .Or [a] pos) tA:=by
 intro wh pins s σ H Q I h
 refine isTrue_or (thn (ha pins s σ H Q I h) λ c s1 e=>?_)
 cases c with
 | false=>exact isTrue_or_nil e
 | true=>exact e
theorem y4b (ha:PT X a tA) (hb:PW X (.BoolOp .And (b::rest) pos) tB'):PW X (.BoolOp .And (a::b::rest) pos) (w5k tA tB'):=by
 intro wh pins s σ H Q I h
 refine isTrue_and (thn (ha pins s σ H _ I h) λ c s1 ⟨H1,I1,q1⟩=>?_)
 cases c with
 | true=>exact hb wh pins s1 σ H1 Q I1 q1
 | false=>exact ⟨H1,I1,q1⟩
theorem z3s (ha:PT X a tA) (hb:PW X (.BoolOp .Or (b::rest) pos) tB'):PW X (.BoolOp .Or (a::b::rest) pos) (tOr tA tB'):=by
 intro wh pins s σ H Q I h
 refine isTrue_or (thn (ha pins s σ H _ I h) λ c s1 ⟨H1,I1,q1⟩=>?_)
 cases c with
 | true=>exact ⟨H1,I1,q1⟩
 | false=>exact hb wh pins s1 σ H1 Q I1 q1
theorem y0y (ha:PT X a tA):PT X (.UnaryOp .Not a pos) (w5e tA):=by
 intro pins s σ H Q I h
 exact isTrue_not (ha pins s σ H (λ c H1=>Q (!c) H1) I h)
def w3m (ta tb:TE):TE:=λ σ H Q=>ta σ H λ x H1=>∃c,x=.bl c/\if c=true then tb σ H1 Q else Q (.bl false) H1
def w6q (ta tb:TE):TE:=λ σ H Q=>ta σ H λ x H1=>∃c,x=.bl c/\if c=true then Q (.bl true) H1 else tb σ H1 Q
def w3j (ta:TE):TE:=λ σ H Q=>ta σ H λ x H1=>∃c,x=.bl c/\Q (.bl (!c)) H1
def tIf (t:TT) (ta tb:TE):TE:=λ σ H Q=>t σ H λ c H1=>if c=true then ta σ H1 Q else tb σ H1 Q
theorem z2p {c:Expr}(hc:PT X c tA) (ha:PE X a ta) (hb:PE X b tb):PE X (.IfExp c a b pos) (tIf tA ta tb):=by
 intro pins s σ H Q I h
 refine wpAny_IfExp (thn (hc pins s σ H _ I h) λ d s1 ⟨H1,I1,q1⟩=>?_)
 cases d with
 | true=>exact ha pins s1 σ H1 Q I1 q1
 | false=>exact hb pins s1 σ H1 Q I1 q1
end
def SqL (K:W.Frag) (H:Hp) (a:Addr) (xs:List V):Prop :=
 Rd H a (.lst xs) \/
  ∃(o:Obj) (its:Array Value) (n:Nat),K.lookup a=some o/\o.cls=.type "list" /\ o.dict=none/\o.data=.seq its n/\its.size≤sizeLine/\Vals xs its.toList
def SqT (K:W.Frag) (H:Hp) (a:Addr) (xs:List V):Prop :=
 Rd H a (.tup xs) \/
  ∃(o:Obj) (its:Array Value) (n:Nat),K.lookup a=some o/\o.cls=.type "tuple" /\ o.data=.seq its n/\its.size≤sizeLine/\Vals xs its.toList
def w7n:Value->Option V
 | .none=>some .non
 | .bool b=>some (.bl b)
 | .int i _=>some (.int i)
 | .str x _=>some (.str x)
 | .bytes b _=>some (.byt b)
 | .float b _=>some (.flt b)
 | .ref a=>some (.ref a)
 | .type n=>some (.ty n)
 | _=>none
theorem RelV.abs {x:V}{u:Value}(r:RelV x u):w7n u=some x:=by
 cases x with
 | non=>cases r;rfl
 | bl _=>cases r;rfl
 | int _=>obtain ⟨t,rfl⟩:=r;rfl
 | str _=>obtain ⟨t,rfl⟩:=r;rfl
 | byt _=>obtain ⟨t,rfl⟩:=r;rfl
 | flt _=>obtain ⟨t,rfl⟩:=r;rfl
 | ref _=>cases r;rfl
 | ty _=>cases r;rfl
theorem RelV.inj {x y:V}{u:Value}(r:RelV x u) (q:RelV y u):x=y:=Option.some.inj (r.abs.symm.trans q.abs)
theorem Vals.inj:∀ {xs ys:List V}{us:List Value},Vals xs us->Vals ys us->xs=ys
 | _,_,_,.nil,.nil=>rfl
 | _,_,_,.cons r t,.cons r' t'=>by rw [r.inj r',Vals.inj t t']
section
variable {X:Cx}{pins:List (Addr × Obj)}{σ:St}{H:Hp}{s:Shared}{a:Addr}{xs ys:List V}
theorem SqL.of {K:W.Frag}(h:H a=some (.lst xs)):SqL K H a xs:=.inl (.inl h)
theorem SqT.of {K:W.Frag}(h:H a=some (.tup xs)):SqT K H a xs:=.inl (.inl h)
theorem Inv.list (I:Inv X pins σ H s) (h:SqL X.K H a xs):∃its:List Value,Vals xs its/\PlainL s.heap a its.toArray/\xs.length≤sizeLine:=by
 rcases h with h | ⟨o,its,n,hk,hc,hd,hs,hz,r⟩
 ·obtain ⟨z,its,n,r,e⟩:=h.ok I.hok
  exact ⟨its,r,⟨_,n,e,rfl,rfl,rfl⟩,z⟩
 ·refine ⟨its.toList,r,⟨o,n,I.kIn a o hk,hc,hd,by simpa using hs⟩,?_⟩
  have e:=r.length
  simp only [Array.length_toList] at e
  lia
theorem Inv.tuple (I:Inv X pins σ H s) (h:SqT X.K H a xs):∃its:List Value,Vals xs its/\IsTup s.heap a its.toArray/\xs.length≤sizeLine:=by
 rcases h with h | ⟨o,its,n,hk,hc,hs,hz,r⟩
 ·obtain ⟨z,its,r,p⟩:=h.ok I.hok
  exact ⟨its,r,p,z⟩
 ·refine ⟨its.toList,r,⟨o,I.kIn a o hk,hc,n,by simpa using hs⟩,?_⟩
  have e:=r.length
  simp only [Array.length_toList] at e
  lia
theorem Inv.list_inj (I:Inv X pins σ H s) (h:SqL X.K H a xs) (h':SqL X.K H a ys):xs=ys:=by
 obtain ⟨its,r,⟨o,n,e,_,_,d⟩,_⟩:=I.list h
 obtain ⟨its',r',⟨o',n',e',_,_,d'⟩,_⟩:=I.list h'
 rw [e] at e';cases e'
 rw [d] at d'
 injection d' with d1 _
 have:its=its':=by simpa using congrArg Array.toList d1
 subst this
 exact r.inj r'
theorem Inv.tuple_inj (I:Inv X pins σ H s) (h:SqT X.K H a xs) (h':SqT X.K H a ys):xs=ys:=by
 obtain ⟨its,r,⟨o,e,_,n,d⟩,_⟩:=I.tuple h
 obtain ⟨its',r',⟨o',e',_,n',d'⟩,_⟩:=I.tuple h'
 rw [e] at e';cases e'
 rw [d] at d'
 injection d' with d1 _
 have:its=its':=by simpa using congrArg Array.toList d1
 subst this
 exact r.inj r'
end
abbrev Cx.wish (X:Cx) (E:Value->Shared->Prop):Cx:={ X with xe:=E }
abbrev Cx.nox (X:Cx):Cx:=X.wish λ _ _=>False
theorem Cx.Ok.wish {X:Cx}(ok:X.Ok) (E:Value->Shared->Prop):(X.wish E).Ok :=
 ⟨ok.mod,ok.kind,ok.glob,ok.blt,ok.above,ok.inj,ok.has,ok.cab,ok.hd,ok.frames,ok.stk,ok.exf,ok.bs,ok.bsz,ok.noex,ok.exfs,ok.funs,ok.frf⟩
theorem Cx.Ok.unwish {X:Cx}{E:Value->Shared->Prop}(ok:(X.wish E).Ok):X.Ok :=
 ⟨ok.mod,ok.kind,ok.glob,ok.blt,ok.above,ok.inj,ok.has,ok.cab,ok.hd,ok.frames,ok.stk,ok.exf,ok.bs,ok.bsz,ok.noex,ok.exfs,ok.funs,ok.frf⟩
section
variable {X:Cx}{pins:List (Addr × Obj)}{σ:St}{H:Hp}{s:Shared}{E:Value->Shared->Prop}
theorem Inv.wish (I:Inv X pins σ H s) (E:Value->Shared->Prop):Inv (X.wish E) pins σ H s:=⟨I.ok.wish E,I.os,I.bare,I.base,I.loc,I.cell,I.free,I.freeC,I.pin,I.hok,I.len⟩
theorem Inv.unwish (I:Inv (X.wish E) pins σ H s):Inv X pins σ H s:=⟨I.ok.unwish,I.os,I.bare,I.base,I.loc,I.cell,I.free,I.freeC,I.pin,I.hok,I.len⟩
theorem SP.unwish {D:Ends}{f:Flow}{s':Shared}(h:SP (X.wish E) pins D f s'):SP X pins D f s':=by
 cases f with
 | next=>obtain ⟨σ',H',I,q⟩:=h;exact ⟨σ',H',I.unwish,q⟩
 | brk=>obtain ⟨σ',H',I,q⟩:=h;exact ⟨σ',H',I.unwish,q⟩
 | cont=>obtain ⟨σ',H',I,q⟩:=h;exact ⟨σ',H',I.unwish,q⟩
 | ret u=>obtain ⟨v,σ',H',I,r,q⟩:=h;exact ⟨v,σ',H',I.unwish,r,q⟩
theorem PE.nox {e:Expr}{t:TE}(h:PE X.nox e t):PE X e t:=λ pins s σ H Q I hw =>
 wpAny_mono (h pins s σ H Q (I.wish _) hw) (λ _ _ ⟨v,H',I',r,q⟩=>⟨v,H',I'.unwish,r,q⟩) λ _ _ z=>False.elim z
theorem PT.nox {e:Expr}{t:TT}(h:PT X.nox e t):PT X e t:=λ pins s σ H Q I hw =>
 wpAny_mono (h pins s σ H Q (I.wish _) hw) (λ _ _ ⟨H',I',q⟩=>⟨H',I'.unwish,q⟩) λ _ _ z=>False.elim z
theorem PSs.nox {st:List Stmt}{t:TS}(h:PSs X.nox st t):PSs X st t:=λ pins s σ H D I hw =>
 wpAny_mono (h pins s σ H D (I.wish _) hw) (λ _ _ q=>q.unwish) λ _ _ z=>False.elim z
end
section
variable {X:Cx}{st:Stmt}{rest:List Stmt}{t u:TS}{e:Expr}{te:TE}{pos:Pos}
def x9n:TS:=λ D σ H=>D.nx σ H
def z1a (t u:TS):TS:=λ D σ H=>t { D with nx:=u D } σ H
theorem z0m:PSs X [] x9n:=λ _ _ σ H _ I h=>wpAny_execs_nil ⟨σ,H,I,h⟩
theorem z0d (h1:PS X st t) (h2:PSs X rest u):PSs X (st::rest) (z1a t u):=by
 intro pins s σ H D I h
 refine wpAny_execs_cons (thn (h1 pins s σ H { D with nx:=u D } I h) λ f s1 q=>?_)
 cases f with
 | next =>
  obtain ⟨σ',H',I',q⟩:=q
  exact h2 pins s1 σ' H' D I' q
 | ret v=>exact q
 | brk=>exact q
 | cont=>exact q
theorem z0g (h1:PS X st t):PSs X [st] t:=by
 intro pins s σ H D I h
 refine wpAny_execs_cons (thn (h1 pins s σ H D I h) λ f s1 q=>?_)
 cases f with
 | next=>exact wpAny_execs_nil q
 | ret v=>exact q
 | brk=>exact q
 | cont=>exact q
theorem Inv.quiet {pins:List (Addr × Obj)}{σ:St}{H:Hp}{s:Shared}(I:Inv X pins σ H s):interactive X.env=false:=by simp [interactive,I.ok.kind]
def x9p (te:TE):TS:=λ D σ H=>te σ H λ _ H1=>D.nx σ H1
theorem z1z (he:PE X e te) (hs:swapsWith e none pos.line X.env=pure false:=by rfl):PS X (.Expr e pos) (x9p te):=by
 intro pins s σ H D I h
 exact wpAny_Expr_any (thn (he pins s σ H _ I h) λ v s1 ⟨x,H1,I1,r1,q1⟩=>⟨σ,H1,I1,q1⟩) I.quiet hs
def w5d (te:TE):TS:=λ D σ H=>te σ H D.rt
theorem z0q (he:PE X e te):PS X (.Return (some e) pos) (w5d te):=by
 intro pins s σ H D I h
 exact wpAny_Return_some (thn (he pins s σ H _ I h) λ v s1 ⟨x,H1,I1,r1,q1⟩=>⟨x,σ,H1,I1,r1,q1⟩)
def w3i:TS:=λ D _ H=>D.rt .non H
def z0y (c:TT) (t u:TS):TS:=λ D σ H=>c σ H λ b H1=>if b=true then t D σ H1 else u D σ H1
theorem z1c {c:Expr}{a b:List Stmt}{tc:TT}(hc:PT X c tc) (ha:PSs X a t) (hb:PSs X b u):PS X (.If c a b pos) (z0y tc t u):=by
 intro pins s σ H D I h
 refine wpAny_If (thn (hc pins s σ H _ I h) λ d s1 ⟨H1,I1,q1⟩=>?_)
 cases d with
 | true=>exact ha pins s1 σ H1 D I1 q1
 | false=>exact hb pins s1 σ H1 D I1 q1
def x5b:TS:=λ _ _ _=>False
theorem z5o:PS X st x5b:=λ _ _ _ _ _ _ h=>h.elim
end
abbrev TG:=V->St->Hp->(St->Hp->Prop)->Prop
abbrev TGs:=List V->St->Hp->(St->Hp->Prop)->Prop
def PG (X:Cx) (target:Expr) (t:TG):Prop :=
 ∀(pins:List (Addr × Obj)) (s:Shared) (σ:St) (H:Hp) (v:V) (u:Value) (Q:St->Hp->Prop),Inv X pins σ H s->RelV v u->t v σ H Q ->
  wpAny (model X.prog X.w) X.A (assign target X.env u) (λ _ s'=>∃σ' H',Inv X pins σ' H' s'/\Q σ' H') X.xe s
def PGs (X:Cx) (ts:List Expr) (t:TGs):Prop :=
 ∀(pins:List (Addr × Obj)) (s:Shared) (σ:St) (H:Hp) (vs:List V) (us:List Value) (Q:St->Hp->Prop),Inv X pins σ H s->Vals vs us->t vs σ H Q ->
  wpAny (model X.prog X.w) X.A (assignInOrder ((assignEach ts X.env).map (·.2)) us) (λ _ s'=>∃σ' H',Inv X pins σ' H' s'/\Q σ' H') X.xe s
abbrev w4t:=V->V->V->Hp->(Hp->Prop)->Prop
def w6f (X:Cx) (t:w4t):Prop :=
 ∀(pins:List (Addr × Obj)) (s:Shared) (σ:St) (H:Hp) (o i v:V) (ov iv u:Value) (Q:Hp->Prop),Inv X pins σ H s->RelV o ov->RelV i iv->RelV v u->t o i v H Q ->
  wpAny (model X.prog X.w) X.A (setItem ov iv u) (λ _ s'=>∃H',Inv X pins σ H' s'/\Q H') X.xe s
section
variable {X:Cx}{pos:Pos}
def z6g (i:Nat):TG:=λ v σ H Q=>Q (σ.set i (some v)) H
theorem z0w {i:Nat}{x:Str}(hN:X.N.Nodup) (hi:X.N[i]?=some x) (hx:Loc X.env.scope x) (hf:X.fn x=true\/X.env.scope.names.lookup x=some .local:=by first | exact .inl rfl | exact .inr rfl | assumption):PG X (.Name x pos) (z6g i):=by
 intro pins s σ H v u Q I r h
 exact wpAny_assign_Name (z9a I hN hi hx r (λ s' I'=>⟨_,H,I',h⟩) hf)
def w5z:TGs:=λ vs σ H Q=>vs=[]/\Q σ H
def w2e (t:TG) (u:TGs):TGs:=λ vs σ H Q=>∃v r,vs=v::r/\t v σ H λ σ' H'=>u r σ' H' Q
theorem z2h:PGs X [] w5z:=by
 intro pins s σ H vs us Q I r h
 obtain ⟨e,h⟩:=h
 subst e
 cases r
 exact assignInOrder_nil ⟨σ,H,I,h⟩
theorem z1d {e:Expr}{es:List Expr}{t:TG}{u:TGs}(h1:PG X e t) (h2:PGs X es u)
  (hs:(assignEach (e::es) X.env).map (·.2)=assign e X.env::(assignEach es X.env).map (·.2):=by rfl):PGs X (e::es) (w2e t u):=by
 intro pins s σ H vs us Q I r h
 obtain ⟨v,vr,e1,h⟩:=h
 subst e1
 cases r with
 | cons r rr =>
  rw [hs]
  refine assignInOrder_cons (thn (h1 pins s σ H _ _ _ I r h) λ _ s1 ⟨σ1,H1,I1,q1⟩=>?_)
  exact h2 pins s1 σ1 H1 _ _ Q I1 rr q1
def w4k (K:W.Frag) (n:Nat) (t:TGs):TG:=λ v σ H Q=>∃a xs,v=.ref a/\SqT K H a xs/\xs.length=n/\t xs σ H Q
theorem z3j {es:List Expr}{k:Nat}{t:TGs}{n:Nat}(hc:X.calm=true) (h:PGs X es t)
  (hn:(assignEach es X.env).length=n:=by rfl) (hst:(assignEach es X.env).findIdx? (·.1)=none:=by rfl):PG X (.Tuple es k pos) (w4k X.K n t):=by
 intro pins s σ H v u Q I r hw
 obtain ⟨a,xs,e1,hq,hl,hw⟩:=hw
 subst e1
 cases r
 obtain ⟨its,rv,ht,hz⟩:=I.tuple hq
 refine assign_Tuple_tuple (I.ok.hd hc) ht (by simp [hn,← hl,rv.length]) hst λ h' hx=>?_
 have I1:Inv X pins σ H { s with heap:=h' }:=I.kept (t':=s.toks) λ b o e=>hx b o (Nat.ne_of_lt (Heap.lt_size e)) e
 exact h pins _ σ H xs _ Q I1 (by simpa using rv) hw
def w5y (to ti:TE) (t:w4t):TG:=λ v σ H Q=>to σ H λ o H1=>ti σ H1 λ i H2=>t o i v H2 λ H3=>Q σ H3
theorem y9c {o i:Expr}{to ti:TE}{t:w4t}(ho:PE X o to) (hi:PE X i ti) (hs:w6f X t)
  (ha:∀v,assign (.Subscript o i pos) X.env v=(do
   let ov ← holding [v] (eval o X.env)
   let iv ← holding [v,ov] (eval i X.env)
   standAt pos
   holding [v,ov,iv] (setItem ov iv v)
   release [v,ov,iv] []):=by intro _;rfl):PG X (.Subscript o i pos) (w5y to ti t):=by
 intro pins s σ H v u Q I r h
 rw [ha]
 refine wpAny_bind (wpAny_holding (thn (ho pins s σ H _ I h) λ ov s1 ⟨x,H1,I1,r1,q1⟩=>?_))
 refine wpAny_bind (wpAny_holding (thn (hi pins s1 σ H1 _ I1 q1) λ iv s2 ⟨y,H2,I2,r2,q2⟩=>?_))
 refine wpAny_bind (wpAny_standAt (wpAny_bind (wpAny_holding (thn (hs pins s2 σ H2 x y v ov iv u _ I2 r1 r2 r q2) λ _ s3 ⟨H3,I3,q3⟩=>?_))))
 exact wpAny_release ⟨σ,H3,I3,q3⟩
def x9a (te:TE) (g:TG):TS:=λ D σ H=>te σ H λ x H1=>g x σ H1 D.nx
theorem z5p {tg e:Expr}{te:TE}{g:TG}(he:PE X e te) (hg:PG X tg g) (hs:swapsWithSole [tg] e pos.line X.env=pure false:=by rfl) (hw:swappedStores [tg] e X.env=pure none:=by rfl)
  (h1:(assignEach [tg] X.env).map (·.2)=[assign tg X.env]:=by rfl):PS X (.Assign [tg] e pos) (x9a te g):=by
 intro pins s σ H D I h
 refine wpAny_Assign_stores (thn (he pins s σ H _ I h) λ v s1 ⟨x,H1,I1,r1,q1⟩=>?_) hs hw
 rw [h1]
 exact thn (hg pins s1 σ H1 x v _ I1 r1 q1) λ _ s2 q=>q
theorem z0t {i:Nat}{x:Str}{e:Expr}{te:TE}{pos':Pos}(hN:X.N.Nodup) (hi:X.N[i]?=some x) (hx:Loc X.env.scope x) (he:PE X e te) (hs:swapsWith e (some (.Name x pos')) pos.line X.env=pure false:=by rfl) (hf:X.fn x=true\/X.env.scope.names.lookup x=some .local:=by first | exact .inl rfl | exact .inr rfl | assumption) :
  PS X (.Assign [.Name x pos'] e pos) (x9a te (z6g i)):=by
 intro pins s σ H D I h
 refine wpAny_Assign_Name (thn (he pins s σ H _ I h) λ v s1 ⟨y,H1,I1,r1,q1⟩=>?_) hs
 exact z9a I1 hN hi hx r1 (λ s2 I2=>⟨_,H1,I2,q1⟩) hf
end
section
variable {X:Cx}{pos:Pos}
end
structure It where
 go:Nat->Hp->Prop
 yld:Nat->Hp->V->Hp->Prop
 stop:Nat->Hp->Prop
def x5r (X:Cx) (pins:List (Addr × Obj)) (H:Hp) (b:Addr):Prop :=
 H b=none/\b≠X.env.locals/\b ∉ X.fs/\(b∈X.ex\/X.s₀.heap.objs.size≤b)/\(∀x c,X.env.cells.lookup x=some c->c≠b)/\∀p∈X.pn++pins,p.1≠b
theorem Inv.fpOk {X:Cx}{pins:List (Addr × Obj)}{σ:St}{H H':Hp}{s:Shared}{b:Addr}(I:Inv X pins σ H s) (hb:s.heap.objs.size≤b) (hn:H' b=none):x5r X pins H' b:=by
 refine ⟨hn,Nat.ne_of_gt (Nat.lt_of_lt_of_le I.lt hb),I.nofs hb,.inr (Nat.le_trans I.sz hb),λ x c e z=>?_,λ p hp z=>?_⟩
 ·obtain ⟨v,q⟩:=I.cell x c e
  exact absurd (Nat.lt_of_lt_of_le q.lt (by rw [z];exact hb)) (Nat.lt_irrefl _)
 ·exact absurd (Nat.lt_of_lt_of_le (Heap.lt_size (I.pin p hp).1) (by rw [z];exact hb)) (Nat.lt_irrefl _)
structure Turn (P:Program) (w:World) (K:W.Frag) (tg:Expr) (J:It) (fp:List Addr) (it:Addr) (tn:Nat->Heap->Prop):Prop where
 mem:it∈fp
 obj:∀i h,tn i h->∀b∈fp,∃o,h.get? b=some o/\∀v,o.data≠.cell v
 keep:∀i h h',tn i h->(∀b∈fp,∀o,h.get? b=some o->h'.get? b=some o)->tn i h'
 item:∀(X:Cx),X.prog=P->X.w=w->X.K=K->X.calm=true->∀(i:Nat) (pins:List (Addr × Obj)) (s:Shared) (σ:St) (H:Hp) (E:Value->Shared->Prop),Inv X pins σ H s->(∀b∈fp,x5r X pins H b)->tn i s.heap->J.go i H ->
  wpAny (model P w) X.A (pyNext (.ref it)) (λ r s1=>∃u,r=some u /\
   wpAny (model P w) X.A (letOwnedTupleGo tg (.ref it) u) (λ _ s2=>∃x H',Inv X pins σ H' s2/\RelV x u/\J.yld i H x H'/\tn (i+1) s2.heap/\∀b∈fp,H' b=none) E s1) E s
 done:∀(X:Cx),X.prog=P->X.w=w->X.K=K->X.calm=true->∀(i:Nat) (pins:List (Addr × Obj)) (s:Shared) (σ:St) (H:Hp) (E:Value->Shared->Prop),Inv X pins σ H s->(∀b∈fp,x5r X pins H b)->tn i s.heap->J.stop i H ->
  wpAny (model P w) X.A (pyNext (.ref it)) (λ r s1=>r=none/\Inv X pins σ H s1) E s
 self:∀(A:Around) (i:Nat) (s:Shared) (Q:Value->Shared->Prop) (E:Value->Shared->Prop),tn i s.heap->Q (.ref it) s->wpAny (model P w) A (pyIter (.ref it)) Q E s
abbrev TI:=St->Hp->(It->Hp->Prop)->Prop
def PIE (X:Cx) (pins:List (Addr × Obj)) (σ:St) (tg:Expr) (R:It->Hp->Prop) (itv:Value) (s2:Shared):Prop :=
 ∃(it:Addr) (fp:List Addr) (tn:Nat->Heap->Prop) (J:It) (H':Hp),itv=.ref it/\Inv X pins σ H' s2/\Turn X.prog X.w X.K tg J fp it tn/\tn 0 s2.heap/\(∀b∈fp,x5r X pins H' b)/\R J H'
def PI (X:Cx) (tg iter:Expr) (wi:TI):Prop :=
 ∀(pins:List (Addr × Obj)) (s:Shared) (σ:St) (H:Hp) (R:It->Hp->Prop),Inv X pins σ H s->wi σ H R ->
  wpAny (model X.prog X.w) X.A (eval iter X.env) (λ v s1=>wpAny (model X.prog X.w) X.A (pyIter v) (PIE X pins σ tg R) X.xe s1) X.xe s
theorem x3s {M:Model}{A:Around}{E:Value->Shared->Prop}{s:Shared}{tg:Expr}{it:Addr}{u:Value}{o:Obj}{n:String}{vs:Array Value}{Q:Unit->Shared->Prop}(ho:s.heap.get? it=some o) (hc:o.cls=.type n) (hd:o.data=.fields vs)
    (hn:["enumerate","zip","dict_itemiterator","dict_reverseitemiterator","odict_iterator","itertools.zip_longest","itertools.pairwise"].contains n=false) (hQ:Q () s):wpAny M A (letOwnedTupleGo tg (.ref it) u) Q E s:=by
  unfold letOwnedTupleGo
  cases tg<;>first
    | exact wpAny_pure hQ
    | (cases u<;>first
        | exact wpAny_pure hQ
        | (refine wpAny_bind (wpAny_load ho ?_)
           rw [hc,hd]
           show wpAny M A (if (["enumerate","zip","dict_itemiterator","dict_reverseitemiterator","odict_iterator","itertools.zip_longest","itertools.pairwise"].contains n && vs[0]? == some (rawInt _))=true then _ else _) Q E s
           rw [if_neg (by intro h;rw [hn,Bool.false_and] at h;cases h)]
           exact wpAny_pure hQ))
def Itl (K:W.Frag) (a:Addr):It :=
 ⟨λ i H=>∃xs x,SqL K H a xs/\xs[i]?=some x,λ i H x H'=>H'=H/\∀xs,SqL K H a xs->xs[i]?=some x,λ i H=>∃xs,SqL K H a xs/\xs.length≤i⟩
def Itt (K:W.Frag) (a:Addr):It :=
 ⟨λ i H=>∃xs x,SqT K H a xs/\xs[i]?=some x,λ i H x H'=>H'=H/\∀xs,SqT K H a xs->xs[i]?=some x,λ i H=>∃xs,SqT K H a xs/\xs.length≤i⟩
def Itr (lo:Int) (n:Nat):It:=⟨λ i _=>i < n,λ i H x H'=>H'=H/\x=.int (lo+i),λ i _=>n≤i⟩
theorem y7e {P:Program}{w:World}{K:W.Frag}{tg:Expr}(a it:Addr):Turn P w K tg (Itl K a) [it] it (λ i h=>h.IsListIter it a i) where
 mem:=by simp
 obj:=λ i h st b hb=>by
  have e:b=it:=by simpa using hb
  subst e
  obtain ⟨o,e,c,d⟩:=st
  exact ⟨o,e,λ v z=>by rw [d] at z;cases z⟩
 keep:=λ i h h' st k=>st.at λ o e=>k it (by simp) o e
 item:=by
  intro X hP hw hK hc i pins s σ H E I hf st hg
  subst hP hw hK
  obtain ⟨xs,x,hq,hx⟩:=hg
  obtain ⟨its,rv,p,hz⟩:=I.list hq
  obtain ⟨u,hu,ru⟩:=rv.get hx
  obtain ⟨f0,f1,f2,f3,f4,f5⟩:=hf it (by simp)
  refine wpAny_pyNext_list_item st p.isList (x:=u) (by simpa using hu) λ h' st' sb=>?_
  have I1:Inv X pins σ H { s with heap:=h' }:=I.turned (t':=s.toks) (λ b o hb e=>(sb.2 b hb).trans e) f0 f1 f3 f4 f5
  obtain ⟨o,e,c,d⟩:=id st'
  exact ⟨u,rfl,x3s (s:={ s with heap:=h' }) e c d (by decide) ⟨x,H,I1,ru,⟨rfl,λ ys hy=>by rw [I.list_inj hy hq];exact hx⟩,st',λ b hb=>(hf b hb).1⟩⟩
 done:=by
  intro X hP hw hK hc i pins s σ H E I hf st hg
  subst hP hw hK
  obtain ⟨xs,hq,hx⟩:=hg
  obtain ⟨its,rv,p,hz⟩:=I.list hq
  obtain ⟨f0,f1,f2,f3,f4,f5⟩:=hf it (by simp)
  have hl:=rv.length
  exact wpAny_pyNext_list_end (I.ok.hd hc) st p.isList (by simp;lia) λ h' eb=>⟨rfl,I.turned (t':=s.toks) (λ b o hb e=>eb b o hb e) f0 f1 f3 f4 f5⟩
 self:=λ _ _ _ _ _ st h=>wpAny_pyIter_listiter st h
theorem y4z {P:Program}{w:World}{K:W.Frag}{tg:Expr}(a it:Addr):Turn P w K tg (Itt K a) [it] it (λ i h=>h.IsTupleIter it a i) where
 mem:=by simp
 obj:=λ i h st b hb=>by
  have e:b=it:=by simpa using hb
  subst e
  obtain ⟨o,e,c,d⟩:=st
  exact ⟨o,e,λ v z=>by rw [d] at z;cases z⟩
 keep:=λ i h h' st k=>st.at λ o e=>k it (by simp) o e
 item:=by
  intro X hP hw hK hc i pins s σ H E I hf st hg
  subst hP hw hK
  obtain ⟨xs,x,hq,hx⟩:=hg
  obtain ⟨its,rv,p,hz⟩:=I.tuple hq
  obtain ⟨u,hu,ru⟩:=rv.get hx
  obtain ⟨f0,f1,f2,f3,f4,f5⟩:=hf it (by simp)
  refine wpAny_pyNext_tuple_item st (show s.heap.IsTuple a its.toArray from p) (x:=u) (by simpa using hu) λ h' st' sb=>?_
  have I1:Inv X pins σ H { s with heap:=h' }:=I.turned (t':=s.toks) (λ b o hb e=>(sb.2 b hb).trans e) f0 f1 f3 f4 f5
  obtain ⟨o,e,c,d⟩:=id st'
  exact ⟨u,rfl,x3s (s:={ s with heap:=h' }) e c d (by decide) ⟨x,H,I1,ru,⟨rfl,λ ys hy=>by rw [I.tuple_inj hy hq];exact hx⟩,st',λ b hb=>(hf b hb).1⟩⟩
 done:=by
  intro X hP hw hK hc i pins s σ H E I hf st hg
  subst hP hw hK
  obtain ⟨xs,hq,hx⟩:=hg
  obtain ⟨its,rv,p,hz⟩:=I.tuple hq
  obtain ⟨f0,f1,f2,f3,f4,f5⟩:=hf it (by simp)
  have hl:=rv.length
  exact wpAny_pyNext_tuple_end (I.ok.hd hc) st (show s.heap.IsTuple a its.toArray from p) (by simp;lia) λ h' eb=>⟨rfl,I.turned (t':=s.toks) (λ b o hb e=>eb b o hb e) f0 f1 f3 f4 f5⟩
 self:=λ _ _ _ _ _ st h=>wpAny_pyIter_tupleiter st h
theorem y5a {P:Program}{w:World}{K:PySem.W.Frag}{tg:Expr}(it:Addr) (lo:Int) (n:Nat):Turn P w K tg (Itr lo n) [it] it (λ i h=>IsRangeIter h it (lo+(i:Nat) * 1) ((n:Int) - (i:Nat)) 1) where
 mem:=by simp
 obj:=λ i h st b hb=>by
  have e:b=it:=by simpa using hb
  subst e
  exact ⟨_,st,λ v z=>by
   have z':Data.fields _=Data.cell v:=z
   cases z'⟩
 keep:=λ i h h' st k=>k it (by simp) _ st
 item:=by
  intro X hP hw hK hc i pins s σ H E I hf st hg
  subst hP hw hK
  obtain ⟨f0,f1,f2,f3,f4,f5⟩:=hf it (by simp)
  have W:=Walks.range (prog:=X.prog) (w:=X.w) (I.ok.hd hc) it lo 1 n
  refine W.item i s _ _ hg st λ v h' tk hv st' kk=>?_
  obtain ⟨t,rfl⟩:=hv
  have I1:Inv X pins σ H { s with heap:=h',toks:=tk }:=I.turned (λ b o hb e=>kk b o (by simpa using hb) e) f0 f1 f3 f4 f5
  refine ⟨_,rfl,x3s (s:={ s with heap:=h',toks:=tk }) (n := "range_iterator") st' rfl rfl (by decide) ⟨.int (lo+i),H,I1,⟨t,?_⟩,⟨rfl,rfl⟩,st',λ b hb=>(hf b hb).1⟩⟩
  rw [Int.mul_one]
 done:=by
  intro X hP hw hK hc i pins s σ H E I hf st hg
  subst hP hw hK
  obtain ⟨f0,f1,f2,f3,f4,f5⟩:=hf it (by simp)
  exact wpAny_pyNext_range_end (I.ok.hd hc) st (by have:n≤i:=hg;lia) λ h' eb=>⟨rfl,I.turned (t':=s.toks) (λ b o hb e=>eb b o hb e) f0 f1 f3 f4 f5⟩
 self:=λ _ _ _ _ _ st h=>wpAny_pyIter_rangeiter st h
section
variable {X:Cx}{tg:Expr}
def x3n (K:W.Frag) (tl:TE):TI:=λ σ H R=>tl σ H λ x H1=>∃a,x=.ref a/\(∃xs,SqL K H1 a xs)/\R (Itl K a) H1
def w2y (K:W.Frag) (tl:TE):TI:=λ σ H R=>tl σ H λ x H1=>∃a,x=.ref a/\(∃xs,SqT K H1 a xs)/\R (Itt K a) H1
theorem z3t {l:Expr}{tl:TE}(hl:PE X l tl):PI X tg l (x3n X.K tl):=by
 intro pins s σ H R I h
 refine thn (hl pins s σ H _ I h) λ v s1 ⟨x,H1,I1,r1,q1⟩=>?_
 obtain ⟨a,e,⟨xs,hq⟩,q⟩:=q1
 subst e
 cases r1
 obtain ⟨its,rv,p,hz⟩:=I1.list hq
 refine wpAny_pyIter_list p.isList ?_
 refine ⟨s1.heap.objs.size,[s1.heap.objs.size],_,_,H1,rfl,I1.kept (t':=s1.toks) λ b o e=>Heap.get?_push_of_some _ e,y7e a _,⟨_,Heap.get?_push_size _ rfl,rfl,rfl⟩,λ b hb=>?_,q⟩
 have e:b=s1.heap.objs.size:=by simpa using hb
 subst e
 exact I1.fpOk (Nat.le_refl _) (I1.hok.fresh (Nat.le_refl _))
theorem y4f {l:Expr}{tl:TE}(hl:PE X l tl):PI X tg l (w2y X.K tl):=by
 intro pins s σ H R I h
 refine thn (hl pins s σ H _ I h) λ v s1 ⟨x,H1,I1,r1,q1⟩=>?_
 obtain ⟨a,e,⟨xs,hq⟩,q⟩:=q1
 subst e
 cases r1
 obtain ⟨its,rv,p,hz⟩:=I1.tuple hq
 refine wpAny_pyIter_tuple (show s1.heap.IsTuple a its.toArray from p) ?_
 refine ⟨s1.heap.objs.size,[s1.heap.objs.size],_,_,H1,rfl,I1.kept (t':=s1.toks) λ b o e=>Heap.get?_push_of_some _ e,y4z a _,⟨_,Heap.get?_push_size _ rfl,rfl,rfl⟩,λ b hb=>?_,q⟩
 have e:b=s1.heap.objs.size:=by simpa using hb
 subst e
 exact I1.fpOk (Nat.le_refl _) (I1.hok.fresh (Nat.le_refl _))
theorem x2o {pins:List (Addr × Obj)}{σ:St}{H:Hp}{s:Shared}{R:It->Hp->Prop}{E:Value->Shared->Prop}{lo hi:Int}{t u v:Tok}{tk:Nat}(I:Inv X pins σ H s) (h1:-(2 ^ 62)≤lo) (h2:lo < 2 ^ 62) (h3:-(2 ^ 62)≤hi) (h4:hi < 2 ^ 62)
  (q:R (Itr lo (hi - lo).toNat) H):wpAny (model X.prog X.w) X.A (pyIter (.ref s.heap.objs.size)) (PIE X pins σ tg R) E { s with heap:=s.heap.push { cls:=.type "range",data:=.fields #[.int lo t,.int hi u,.int 1 v] },toks:=tk }:=by
 refine wpAny_pyIter_range (IsRange.new ..) (small_one h1 h2 h3 h4) ?_
 have I1:Inv X pins σ H { s with heap:=s.heap.push { cls:=.type "range",data:=.fields #[.int lo t,.int hi u,.int 1 v] },toks:=tk }:=I.kept λ b o e=>Heap.get?_push_of_some _ e
 refine ⟨(s.heap.push { cls:=.type "range",data:=.fields #[.int lo t,.int hi u,.int 1 v] }).objs.size,[(s.heap.push { cls:=.type "range",data:=.fields #[.int lo t,.int hi u,.int 1 v] }).objs.size],_,_,H,rfl,
  I1.kept (t':=tk) λ b o e=>Heap.get?_push_of_some _ e,y5a _ lo (hi - lo).toNat,?_,λ b hb=>?_,q⟩
 ·have e1:lo+((0:Nat):Int) * 1=lo:=by simp
  have e2:(((hi - lo).toNat:Nat):Int) - ((0:Nat):Int)=Builtin.Range.rangeSize lo hi 1:=by rw [rangeSize_one];split<;>lia
  show IsRangeIter _ _ (lo+((0:Nat):Int) * 1) ((((hi - lo).toNat:Nat):Int) - ((0:Nat):Int)) 1
  rw [e1,e2]
  exact Heap.get?_push_size _ rfl
 ·have e:b=(s.heap.push { cls:=.type "range",data:=.fields #[.int lo t,.int hi u,.int 1 v] }).objs.size:=by simpa using hb
  subst e
  exact I1.fpOk (Nat.le_refl _) (I1.hok.fresh (Nat.le_refl _))
def x3m (ta:TA):TI:=λ σ H R=>ta σ H λ vs H1=>∃j:Int,vs=[.int j]/\-(2 ^ 62)≤j/\j < 2 ^ 62/\R (Itr 0 j.toNat) H1
def w4h (ta:TA):TI:=λ σ H R=>ta σ H λ vs H1=>∃i j:Int,vs=[.int i,.int j]/\(-(2 ^ 62)≤i/\i < 2 ^ 62/\-(2 ^ 62)≤j/\j < 2 ^ 62)/\R (Itr i (j - i).toNat) H1
theorem z1s {a:Expr}{ta:TA}{p pos:Pos}(hg:Gl X "range") (hm:X.mg "range"=none) (ha:PA X [a] ta) (hs:starEach [a] X.env=[(false,eval a X.env)]:=by rfl):PI X tg (.Call (.Name "range" p) [a] [] pos) (x3m ta):=by
 intro pins s σ H R I h
 refine Call_ (z4r I hg hm boot_range (PyProof.Rows.callWith_type1 (thn (ha pos pins s σ H _ I h) λ us s1 ⟨vs,H1,I1,r1,q1⟩=>?_) hs rfl))
 obtain ⟨j,e,q1,q2,q⟩:=q1
 subst e
 cases r1 with
 | cons r rr =>
  cases rr
  obtain ⟨t,rfl⟩:=r
  exact call_range_1 (x2o I1 (by lia) (by lia) q1 q2 (by simpa using q))
def y1y (wi:TI) (g:TG) (tb:TS):TS:=λ D σ H=>wi σ H λ J H1=>∃W:Nat->Nat->St->Hp->Prop,(∃m,W 0 m σ H1)/\∀i m σ H,W i m σ H ->
 (J.stop i H/\D.nx σ H)\/(J.go i H/\∃N:St->Hp->Prop,(∀σ' H',N σ' H'->∃m',m' < m/\W (i+1) m' σ' H')/\∀x H',J.yld i H x H'->g x σ H' λ σ2 H2=>tb { D with nx:=N,ct:=N,bk:=D.nx } σ2 H2)
def y4e (fp:List Addr) (h:Heap):List (Addr × Obj):=fp.filterMap λ b=>(h.get? b).map λ o=>(b,o)
theorem z2u {fp:List Addr}{h:Heap}{b:Addr}{o:Obj}(hb:b∈fp) (e:h.get? b=some o):(b,o)∈y4e fp h:=List.mem_filterMap.mpr ⟨b,hb,by rw [e];rfl⟩
theorem y9v {fp:List Addr}{h:Heap}{p:Addr × Obj}(hp:p∈y4e fp h):p.1∈fp/\h.get? p.1=some p.2:=by
 obtain ⟨b,hb,e⟩:=List.mem_filterMap.mp hp
 cases q:h.get? b with
 | none=>rw [q] at e;cases e
 | some o =>
  rw [q] at e
  have e':(b,o)=p:=Option.some.inj e
  subst e'
  exact ⟨hb,q⟩
theorem Inv.pinned {pins:List (Addr × Obj)}{σ:St}{H:Hp}{s:Shared}{fp:List Addr}(I:Inv X pins σ H s) (hf:∀b∈fp,x5r X pins H b) (ho:∀b∈fp,∃o,s.heap.get? b=some o/\∀v,o.data≠.cell v):Inv X (pins++y4e fp s.heap) σ H s :=
 I.pins_of λ p hp=>(List.mem_append.mp hp).elim (λ z=>I.pin p (List.mem_append_right _ z)) λ z=>by
  obtain ⟨hb,e⟩:=y9v z
  obtain ⟨f0,f1,f2,_⟩:=hf p.1 hb
  obtain ⟨o,e',d⟩:=ho p.1 hb
  rw [e] at e';cases e'
  exact ⟨e,f0,f1,f2,d⟩
theorem Inv.unpinned {pins pl:List (Addr × Obj)}{σ:St}{H:Hp}{s:Shared}(I:Inv X (pins++pl) σ H s):Inv X pins σ H s:=I.pins_of λ p hp=>I.pin p (List.mem_append_right _ (List.mem_append_left _ hp))
theorem z2g {iter:Expr}{body:List Stmt}{wi:TI}{g:TG}{tb:TS}{pos:Pos}(hp:PassesOwn (model X.prog X.w) X.A X.env X.xe) (hc:X.calm=true) (hi:PI X tg iter wi) (hg:PG X tg g) (hb:PSs X body tb)
  (hs:∀x,foldedSetIterable iter X.env x=pure x:=by intro _;rfl):PS X (.For tg iter body [] pos) (y1y wi g tb):=by
 intro pins s σ H D I h
 refine wpAny_For (thn (hi pins s σ H _ I h) λ v s1 h1=>thn h1 λ itv s2 h2=>?_) hs
 obtain ⟨it,fp,tn,J,H2,e,I2,T,st2,f2,W,⟨m0,w0⟩,turn⟩:=h2
 subst e
 have stat:∀ {H':Hp},(∀b∈fp,H' b=none)->∀b∈fp,x5r X pins H' b:=λ hn b hb=>⟨hn b hb,(f2 b hb).2⟩
 refine codeAny_forLoop_any (λ n s'=>∃i σ' H',Inv X pins σ' H' s'/\tn i s'.heap/\(∀b∈fp,H' b=none)/\W i n σ' H') ?_ m0 ⟨0,σ,H2,I2,st2,λ b hb=>(f2 b hb).1,w0⟩
 rintro n s3 ⟨i,σ3,H3,I3,st3,fr3,w3⟩
 rcases turn i n σ3 H3 w3 with ⟨stop,qn⟩ | ⟨go,N,hN,step⟩
 ·refine wpAny_passesOwn hp (thn (T.done X rfl rfl rfl hc i pins s3 σ3 H3 X.xe I3 (stat fr3) st3 stop) λ r s4 ⟨hr,I4⟩=>?_)
  subst hr
  exact wpAny_execs_nil ⟨σ3,H3,I4,qn⟩
 ·refine wpAny_passesOwn hp (thn (T.item X rfl rfl rfl hc i pins s3 σ3 H3 X.xe I3 (stat fr3) st3 go) λ r s4 ⟨u,hr,h4⟩=>?_)
  subst hr
  refine wpAny_passesOwn hp (thn h4 λ _ s5 ⟨x,H5,I5,r5,y5,st5,fr5⟩=>?_)
  have I5':=I5.pinned (stat fr5) (T.obj _ _ st5)
  refine wpAny_passesOwn hp (thn (hg _ s5 σ3 H5 x u _ I5' r5 (step x H5 y5)) λ _ s6 ⟨σ6,H6,I6,q6⟩=>?_)
  refine wpAny_passesOwn hp (thn (hb _ s6 σ6 H6 _ I6 q6) λ f s7 q7=>?_)
  have again:∀ {σ7:St}{H7:Hp},Inv X (pins++y4e fp s5.heap) σ7 H7 s7->N σ7 H7->∃m,m < n/\∃i σ' H',Inv X pins σ' H' s7/\tn i s7.heap/\(∀b∈fp,H' b=none)/\W i m σ' H':=λ {σ7 H7} I7 n7=>by
   obtain ⟨m',hm,w7⟩:=hN σ7 H7 n7
   refine ⟨m',hm,i+1,σ7,H7,I7.unpinned,T.keep _ _ _ st5 λ b hb o e=>(I7.pin (b,o) (List.mem_append_right _ (List.mem_append_right _ (z2u hb e)))).1,λ b hb=>?_,w7⟩
   obtain ⟨o,e,d⟩:=T.obj _ _ st5 b hb
   exact (I7.pin (b,o) (List.mem_append_right _ (List.mem_append_right _ (z2u hb e)))).2.1
  cases f with
  | next=>obtain ⟨σ7,H7,I7,n7⟩:=q7;exact again I7 n7
  | cont=>obtain ⟨σ7,H7,I7,n7⟩:=q7;exact again I7 n7
  | brk=>obtain ⟨σ7,H7,I7,q7⟩:=q7;exact ⟨σ7,H7,I7.unpinned,q7⟩
  | ret v=>obtain ⟨x7,σ7,H7,I7,r7,q7⟩:=q7;exact ⟨x7,σ7,H7,I7.unpinned,r7,q7⟩
end
theorem x3u {K:PySem.W.Frag}{a:Addr}{xs:List V}{g:TG}{tb:TS}{D:Ends}{σ:St}{H:Hp}(Pv:Nat->St->Hp->Prop) (h0:Pv 0 σ H) (hl:∀i σ H,i≤xs.length->Pv i σ H->SqL K H a xs)
  (hs:∀i x σ H,xs[i]?=some x->Pv i σ H->g x σ H λ σ2 H2=>tb { D with nx:=Pv (i+1),ct:=Pv (i+1),bk:=D.nx } σ2 H2) (hd:∀σ H,Pv xs.length σ H->D.nx σ H) :
  ∃W:Nat->Nat->St->Hp->Prop,(∃m,W 0 m σ H)/\∀i m σ H,W i m σ H ->
   ((Itl K a).stop i H/\D.nx σ H)\/((Itl K a).go i H/\∃N:St->Hp->Prop,(∀σ' H',N σ' H'->∃m',m' < m/\W (i+1) m' σ' H')/\∀x H',(Itl K a).yld i H x H'->g x σ H' λ σ2 H2=>tb { D with nx:=N,ct:=N,bk:=D.nx } σ2 H2):=by
 refine ⟨λ i m σ H=>m=xs.length - i/\i≤xs.length/\Pv i σ H,⟨xs.length,by simp,Nat.zero_le _,h0⟩,?_⟩
 rintro i m σ H ⟨rfl,hi,p⟩
 have q:=hl i σ H hi p
 by_cases hlt:i < xs.length
 ·refine .inr ⟨⟨xs,xs[i],q,by simp [hlt]⟩,Pv (i+1),λ σ' H' p'=>⟨xs.length - (i+1),by lia,rfl,hlt,p'⟩,λ x H' y=>?_⟩
  obtain ⟨e,y⟩:=y
  subst e
  exact hs i x σ _ (y xs q) p
 ·have e:i=xs.length:=by lia
  subst e
  exact .inl ⟨⟨xs,q,Nat.le_refl _⟩,hd σ H p⟩
theorem x7x {K:PySem.W.Frag}{a:Addr}{xs:List V}{g:TG}{tb:TS}{D:Ends}{σ:St}{H:Hp}(Pv:Nat->St->Hp->Prop) (h0:Pv 0 σ H) (hl:∀i σ H,i≤xs.length->Pv i σ H->SqT K H a xs)
  (hs:∀i x σ H,xs[i]?=some x->Pv i σ H->g x σ H λ σ2 H2=>tb { D with nx:=Pv (i+1),ct:=Pv (i+1),bk:=D.nx } σ2 H2) (hd:∀σ H,Pv xs.length σ H->D.nx σ H) :
  ∃W:Nat->Nat->St->Hp->Prop,(∃m,W 0 m σ H)/\∀i m σ H,W i m σ H ->
   ((Itt K a).stop i H/\D.nx σ H)\/((Itt K a).go i H/\∃N:St->Hp->Prop,(∀σ' H',N σ' H'->∃m',m' < m/\W (i+1) m' σ' H')/\∀x H',(Itt K a).yld i H x H'->g x σ H' λ σ2 H2=>tb { D with nx:=N,ct:=N,bk:=D.nx } σ2 H2):=by
 refine ⟨λ i m σ H=>m=xs.length - i/\i≤xs.length/\Pv i σ H,⟨xs.length,by simp,Nat.zero_le _,h0⟩,?_⟩
 rintro i m σ H ⟨rfl,hi,p⟩
 have q:=hl i σ H hi p
 by_cases hlt:i < xs.length
 ·refine .inr ⟨⟨xs,xs[i],q,by simp [hlt]⟩,Pv (i+1),λ σ' H' p'=>⟨xs.length - (i+1),by lia,rfl,hlt,p'⟩,λ x H' y=>?_⟩
  obtain ⟨e,y⟩:=y
  subst e
  exact hs i x σ _ (y xs q) p
 ·have e:i=xs.length:=by lia
  subst e
  exact .inl ⟨⟨xs,q,Nat.le_refl _⟩,hd σ H p⟩
theorem x0m {lo:Int}{n:Nat}{g:TG}{tb:TS}{D:Ends}{σ:St}{H:Hp}(Pv:Nat->St->Hp->Prop) (h0:Pv 0 σ H)
  (hs:∀i σ H,i < n->Pv i σ H->g (.int (lo+i)) σ H λ σ2 H2=>tb { D with nx:=Pv (i+1),ct:=Pv (i+1),bk:=D.nx } σ2 H2) (hd:∀σ H,Pv n σ H->D.nx σ H) :
  ∃W:Nat->Nat->St->Hp->Prop,(∃m,W 0 m σ H)/\∀i m σ H,W i m σ H ->
   ((Itr lo n).stop i H/\D.nx σ H)\/((Itr lo n).go i H/\∃N:St->Hp->Prop,(∀σ' H',N σ' H'->∃m',m' < m/\W (i+1) m' σ' H')/\∀x H',(Itr lo n).yld i H x H'->g x σ H' λ σ2 H2=>tb { D with nx:=N,ct:=N,bk:=D.nx } σ2 H2):=by
 refine ⟨λ i m σ H=>m=n - i/\i≤n/\Pv i σ H,⟨n,by simp,Nat.zero_le _,h0⟩,?_⟩
 rintro i m σ H ⟨rfl,hi,p⟩
 by_cases hlt:i < n
 ·refine .inr ⟨hlt,Pv (i+1),λ σ' H' p'=>⟨n - (i+1),by lia,rfl,hlt,p'⟩,λ x H' y=>?_⟩
  obtain ⟨e,y⟩:=y
  subst e y
  exact hs i σ _ hlt p
 ·have e:i=n:=by lia
  subst e
  exact .inl ⟨Nat.le_refl _,hd σ H p⟩
abbrev R2:=V->V->Hp->VK->Prop
def OpR (X:Cx) (f:Value->Value->Sem Value) (r:R2):Prop :=
 ∀(pins:List (Addr × Obj)) (s:Shared) (σ:St) (H:Hp) (x y:V) (v u:Value) (Q:VK),Inv X pins σ H s->RelV x v->RelV y u->r x y H Q ->
  wpAny (model X.prog X.w) X.A (f v u) (EP X pins σ Q) X.xe s
def UnR (X:Cx) (f:Value->Sem Value) (r:V->Hp->VK->Prop):Prop :=
 ∀(pins:List (Addr × Obj)) (s:Shared) (σ:St) (H:Hp) (x:V) (v:Value) (Q:VK),Inv X pins σ H s->RelV x v->r x H Q ->
  wpAny (model X.prog X.w) X.A (f v) (EP X pins σ Q) X.xe s
def CallR (X:Cx) (f:Value) (r:List V->Hp->VK->Prop):Prop :=
 ∀(pins:List (Addr × Obj)) (s:Shared) (σ:St) (H:Hp) (xs:List V) (us:List Value) (Q:VK),Inv X pins σ H s->Vals xs us->r xs H Q ->
  wpAny (model X.prog X.w) X.A (call f us) (EP X pins σ Q) X.xe s
def tOp (r:R2) (ta tb:TE):TE:=λ σ H Q=>ta σ H λ x H1=>tb σ H1 λ y H2=>r x y H2 Q
def tUn (r:V->Hp->VK->Prop) (ta:TE):TE:=λ σ H Q=>ta σ H λ x H1=>r x H1 Q
def rI (C:Int->Int->Prop) (g:Int->Int->V):R2:=λ x y H Q=>∃i j,x=.int i/\y=.int j/\C i j/\Q (g i j) H
def rI0 (g:Int->Int->V):R2:=λ x y H Q=>∃i j,x=.int i/\y=.int j/\Q (g i j) H
def rU (g:Int->V):V->Hp->VK->Prop:=λ x H Q=>∃i,x=.int i/\Q (g i) H
section
variable {X:Cx}{a b c:Expr}{ta tb tc:TE}{pos:Pos}
theorem w4s (ha:PE X a ta) (hb:PE X b tb) {pins:List (Addr × Obj)}{s:Shared}{σ:St}{H:Hp}{R:V->V->Hp->Prop}(I:Inv X pins σ H s)
  (h:ta σ H λ x H1=>tb σ H1 λ y H2=>R x y H2) {Q:Value->Shared->Prop}{f:Value->Value->Sem Value}
  (hf:∀v u s2 x y H2,Inv X pins σ H2 s2->RelV x v->RelV y u->R x y H2->wpAny (model X.prog X.w) X.A (f v u) Q X.xe s2) :
  wpAny (model X.prog X.w) X.A (eval a X.env) (λ v s₁=>wpAny (model X.prog X.w) X.A (eval b X.env) (λ u s₂=>wpAny (model X.prog X.w) X.A (f v u) Q X.xe s₂) X.xe s₁) X.xe s:=by
 refine thn (ha pins s σ H _ I h) λ v s1 ⟨x,H1,I1,r1,q1⟩=>?_
 refine thn (hb pins s1 σ H1 _ I1 q1) λ u s2 ⟨y,H2,I2,r2,q2⟩=>?_
 exact hf v u s2 x y H2 I2 r1 r2 q2
theorem z0p {op:Operator}{r:R2}(ho:OpR X (binaryOp op) r) (ha:PE X a ta) (hb:PE X b tb):PE X (.BinOp a op b pos) (tOp r ta tb):=by
 intro pins s σ H Q I h
 exact wpAny_BinOp (w4s ha hb I h λ v u s2 x y H2 I2 rx ry q=>ho pins s2 σ H2 x y v u Q I2 rx ry q)
theorem z6e {op:UnaryOp}{r:V->Hp->VK->Prop}(ho:UnR X (unaryOp op) r) (ha:PE X a ta):PE X (.UnaryOp op a pos) (tUn r ta):=by
 intro pins s σ H Q I h
 exact UnaryOp_ (thn (ha pins s σ H _ I h) λ v s1 ⟨x,H1,I1,r1,q1⟩=>ho pins s1 σ H1 x v Q I1 r1 q1)
theorem opI {f:Value->Value->Sem Value}{C:Int->Int->Prop}{g:Int->Int->Int}
  (rule:∀(i j:Int) (t u:Tok) (s:Shared) (Q:Value->Shared->Prop) (E:Value->Shared->Prop),C i j->Q (.int (g i j) s.toks) { s with toks:=s.toks+1 }->wpAny (model X.prog X.w) X.A (f (.int i t) (.int j u)) Q E s) :
  OpR X f (rI C λ i j=>.int (g i j)):=by
 intro pins s σ H x y v u Q I rx ry h
 obtain ⟨i,j,rfl,rfl,hc,q⟩:=h
 obtain ⟨t,rfl⟩:=rx
 obtain ⟨t',rfl⟩:=ry
 exact rule i j t t' s _ _ hc ⟨.int (g i j),H,I.tok _,⟨_,rfl⟩,q⟩
theorem w1h {f:Value->Value->Sem Value}{g:Int->Int->Int}
  (rule:∀(i j:Int) (t u:Tok) (s:Shared) (Q:Value->Shared->Prop) (E:Value->Shared->Prop),Q (.int (g i j) s.toks) { s with toks:=s.toks+1 }->wpAny (model X.prog X.w) X.A (f (.int i t) (.int j u)) Q E s) :
  OpR X f (rI0 λ i j=>.int (g i j)):=by
 intro pins s σ H x y v u Q I rx ry h
 obtain ⟨i,j,rfl,rfl,q⟩:=h
 obtain ⟨t,rfl⟩:=rx
 obtain ⟨t',rfl⟩:=ry
 exact rule i j t t' s _ _ ⟨.int (g i j),H,I.tok _,⟨_,rfl⟩,q⟩
theorem w4a {f:Value->Value->Sem Value}{g:Int->Int->Bool}
  (rule:∀(i j:Int) (t u:Tok) (s:Shared) (Q:Value->Shared->Prop) (E:Value->Shared->Prop),Q (.bool (g i j)) s->wpAny (model X.prog X.w) X.A (f (.int i t) (.int j u)) Q E s) :
  OpR X f (rI0 λ i j=>.bl (g i j)):=by
 intro pins s σ H x y v u Q I rx ry h
 obtain ⟨i,j,rfl,rfl,q⟩:=h
 obtain ⟨t,rfl⟩:=rx
 obtain ⟨t',rfl⟩:=ry
 exact rule i j t t' s _ _ ⟨.bl (g i j),H,I,rfl,q⟩
def w6m (i j:Int):Prop:=0 < j/\j < 1073741824
def w4y (i j:Int):Prop:=j≠0/\j.natAbs < 1073741824
def w6l (i j:Int):Prop:=0≤j/\j≤1000000/\i.natAbs < 2 ^ 64
def CMul (i j:Int):Prop:=(-(2 ^ 64) < i/\i < 2 ^ 64)\/(-(2 ^ 64) < j/\j < 2 ^ 64)
theorem CMul.ok {i j:Int}(h:CMul i j):IntMulOk i j:=by
 rcases h with ⟨h1,h2⟩ | ⟨h1,h2⟩
 ·exact .of_left (intBits_le_64 h1 h2)
 ·exact .of_right (intBits_le_64 h1 h2)
theorem z1o:OpR X (binaryOp .Add) (rI0 λ i j=>.int (i+j)):=w1h λ _ _ _ _ _ _ _ q=>add_int q
theorem z4a:OpR X (binaryOp .Sub) (rI0 λ i j=>.int (i - j)):=w1h λ _ _ _ _ _ _ _ q=>sub_int q
theorem z3d:OpR X (binaryOp .Mult) (rI CMul λ i j=>.int (i * j)):=opI λ _ _ _ _ _ _ _ hc q=>mul_int q hc.ok
theorem z1h:OpR X (binaryOp .FloorDiv) (rI w6m λ i j=>.int (i / j)):=opI λ i j _ _ _ _ _ hc q=>by
 have h1:(0:Int) < j:=hc.1
 have h2:j < 1073741824:=hc.2
 exact floordiv_int (by lia) (by rw [Int.fdiv_eq_ediv_of_nonneg i (by lia)];exact q) (.inl (PyProof.noPylong_small (by lia)))
theorem z1j:OpR X (binaryOp .Mod) (rI (λ _ j=>0 < j) λ i j=>.int (i % j)):=opI λ i j _ _ _ _ _ hc q=>by
 have h1:(0:Int) < j:=hc
 exact mod_int' (by lia) (by rw [Int.fmod_eq_emod_of_nonneg i (by lia)];exact q)
theorem y0a:OpR X (binaryOp .Mod) (rI (λ _ j=>j≠0) λ i j=>.int (i.fmod j)):=opI λ _ _ _ _ _ _ _ hc q=>mod_int' hc q
theorem z4h:OpR X (binaryOp .Pow) (rI w6l λ i j=>.int (i ^ j.toNat)):=opI λ _ _ _ _ _ _ _ hc q=>pow_int_small hc.1 hc.2.1 hc.2.2 q
theorem w1g:OpR X (binaryOp .BitAnd) (rI0 λ i j=>.int (Builtin.bitAnd i j)):=w1h λ _ _ _ _ _ _ _ q=>and_int q
theorem w3z:OpR X (binaryOp .BitOr) (rI0 λ i j=>.int (Builtin.bitOr i j)):=w1h λ _ _ _ _ _ _ _ q=>or_int q
theorem x5j:OpR X (binaryOp .BitXor) (rI0 λ i j=>.int (Builtin.bitXor i j)):=w1h λ _ _ _ _ _ _ _ q=>xor_int q
theorem unI {f:Value->Sem Value}{g:Int->Int}
  (rule:∀(i:Int) (t:Tok) (s:Shared) (Q:Value->Shared->Prop) (E:Value->Shared->Prop),Q (.int (g i) s.toks) { s with toks:=s.toks+1 }->wpAny (model X.prog X.w) X.A (f (.int i t)) Q E s) :
  UnR X f (rU λ i=>.int (g i)):=by
 intro pins s σ H x v Q I rx h
 obtain ⟨i,rfl,q⟩:=h
 obtain ⟨t,rfl⟩:=rx
 exact rule i t s _ _ ⟨.int (g i),H,I.tok _,⟨_,rfl⟩,q⟩
theorem z3k:UnR X (unaryOp .USub) (rU λ i=>.int (-i)):=unI λ _ _ _ _ _ q=>neg_int q
end
def w3r:V->V->Bool
 | .non,.non=>true | .non,.int _=>true | .int _,.non=>true | .non,.bl _=>true | .bl _,.non=>true | .non,.str _=>true | .str _,.non=>true
 | .int _,.int _=>true | .bl _,.bl _=>true | .str _,.str _=>true | .byt _,.byt _=>true
 | .int _,.str _=>true | .str _,.int _=>true | .bl _,.str _=>true | .str _,.bl _=>true
 | _,_=>false
def rEq:R2:=λ x y H Q=>w3r x y=true/\Q (.bl (decide (x=y))) H
def rNe:R2:=λ x y H Q=>w3r x y=true/\Q (.bl (!decide (x=y))) H
theorem x0x {i j:Int}:decide (V.int i=V.int j)=(i == j):=by
 rw [Bool.eq_iff_iff]
 simp
theorem x5n {i j:Bool}:decide (V.bl i=V.bl j)=(i == j):=by
 rw [Bool.eq_iff_iff]
 simp
theorem x0w {i j:Str}:decide (V.str i=V.str j)=(i == j):=by
 rw [Bool.eq_iff_iff]
 simp
theorem x0y {i j:Array UInt8}:decide (V.byt i=V.byt j)=(i.toList == j.toList):=by
 rw [Bool.eq_iff_iff]
 cases i
 cases j
 simp
section
variable {X:Cx}{a b c:Expr}{ta tb tc:TE}{pos:Pos}
theorem z1p {pins:List (Addr × Obj)}{σ:St}{H:Hp}{s:Shared}{Q:VK}{k k':Bool}(I:Inv X pins σ H s) (q:Q (.bl k) H) (e:k=k'):EP X pins σ Q (.bool k') s:=by
 subst e
 exact ⟨.bl k,H,I,rfl,q⟩
theorem z1g:OpR X (compareOp .Eq) rEq:=by
 intro pins s σ H x y v u Q I rx ry h
 obtain ⟨hs,q⟩:=h
 cases x with
 | non =>
  cases rx
  cases y with
  | non=>cases ry;exact PySem.EqNone.eq_none_none (z1p I q (by simp))
  | bl j=>cases ry;exact PySem.EqNone.eq_none_bool (z1p I q (by simp))
  | int j=>obtain ⟨t',rfl⟩:=ry;exact PySem.EqNone.eq_none_int (z1p I q (by simp))
  | str j=>obtain ⟨t',rfl⟩:=ry;exact PySem.EqNone.eq_none_str (z1p I q (by simp))
  | _=>exact absurd (show false=true from hs) Bool.false_ne_true
 | bl i =>
  cases rx
  cases y with
  | non=>cases ry;exact PySem.EqNone.eq_bool_none (z1p I q (by simp))
  | bl j=>cases ry;exact eq_bool (z1p I q x5n)
  | str j=>obtain ⟨t',rfl⟩:=ry;exact PySem.EqMixed.eq_bool_str (z1p I q (by simp))
  | _=>exact absurd (show false=true from hs) Bool.false_ne_true
 | int i =>
  obtain ⟨t,rfl⟩:=rx
  cases y with
  | non=>cases ry;exact PySem.EqNone.eq_int_none (z1p I q (by simp))
  | int j=>obtain ⟨t',rfl⟩:=ry;exact eq_int (z1p I q x0x)
  | str j=>obtain ⟨t',rfl⟩:=ry;exact PySem.EqMixed.eq_int_str (z1p I q (by simp))
  | _=>exact absurd (show false=true from hs) Bool.false_ne_true
 | str i =>
  obtain ⟨t,rfl⟩:=rx
  cases y with
  | non=>cases ry;exact PySem.EqNone.eq_str_none (z1p I q (by simp))
  | bl j=>cases ry;exact PySem.EqMixed.eq_str_bool (z1p I q (by simp))
  | int j=>obtain ⟨t',rfl⟩:=ry;exact PySem.EqMixed.eq_str_int (z1p I q (by simp))
  | str j=>obtain ⟨t',rfl⟩:=ry;exact eq_str (z1p I q x0w)
  | _=>exact absurd (show false=true from hs) Bool.false_ne_true
 | byt i =>
  obtain ⟨t,rfl⟩:=rx
  cases y with
  | byt j=>obtain ⟨t',rfl⟩:=ry;exact W.eq_bytes (z1p I q x0y)
  | _=>exact absurd (show false=true from hs) Bool.false_ne_true
 | _=>cases y<;>exact absurd (show false=true from hs) Bool.false_ne_true
theorem z8g:OpR X (compareOp .NotEq) rNe:=by
 intro pins s σ H x y v u Q I rx ry h
 obtain ⟨hs,q⟩:=h
 cases x with
 | non =>
  cases rx
  cases y with
  | non=>cases ry;exact PySem.EqNone.ne_none_none (z1p I q (by simp))
  | bl j=>cases ry;exact PySem.EqNone.ne_none_bool (z1p I q (by simp))
  | int j=>obtain ⟨t',rfl⟩:=ry;exact PySem.EqNone.ne_none_int (z1p I q (by simp))
  | str j=>obtain ⟨t',rfl⟩:=ry;exact PySem.EqNone.ne_none_str (z1p I q (by simp))
  | _=>exact absurd (show false=true from hs) Bool.false_ne_true
 | bl i =>
  cases rx
  cases y with
  | non=>cases ry;exact PySem.EqNone.ne_bool_none (z1p I q (by simp))
  | bl j=>cases ry;exact ne_bool (z1p I q (congrArg not x5n))
  | str j=>obtain ⟨t',rfl⟩:=ry;exact PySem.EqMixed.ne_bool_str (z1p I q (by simp))
  | _=>exact absurd (show false=true from hs) Bool.false_ne_true
 | int i =>
  obtain ⟨t,rfl⟩:=rx
  cases y with
  | non=>cases ry;exact PySem.EqNone.ne_int_none (z1p I q (by simp))
  | int j=>obtain ⟨t',rfl⟩:=ry;exact ne_int (z1p I q (congrArg not x0x))
  | str j=>obtain ⟨t',rfl⟩:=ry;exact PySem.EqMixed.ne_int_str (z1p I q (by simp))
  | _=>exact absurd (show false=true from hs) Bool.false_ne_true
 | str i =>
  obtain ⟨t,rfl⟩:=rx
  cases y with
  | non=>cases ry;exact PySem.EqNone.ne_str_none (z1p I q (by simp))
  | bl j=>cases ry;exact PySem.EqMixed.ne_str_bool (z1p I q (by simp))
  | int j=>obtain ⟨t',rfl⟩:=ry;exact PySem.EqMixed.ne_str_int (z1p I q (by simp))
  | str j=>obtain ⟨t',rfl⟩:=ry;exact ne_str (z1p I q (congrArg not x0w))
  | _=>exact absurd (show false=true from hs) Bool.false_ne_true
 | byt i =>
  obtain ⟨t,rfl⟩:=rx
  cases y with
  | byt j=>obtain ⟨t',rfl⟩:=ry;exact W.ne_bytes (z1p I q (congrArg not x0y))
  | _=>exact absurd (show false=true from hs) Bool.false_ne_true
 | _=>cases y<;>exact absurd (show false=true from hs) Bool.false_ne_true
theorem z6f:OpR X (compareOp .Lt) (rI0 λ i j=>.bl (decide (i < j))):=w4a λ _ _ _ _ _ _ _ q=>lt_int q
theorem y5s:OpR X (compareOp .Gt) (rI0 λ i j=>.bl (decide (j < i))):=w4a λ _ _ _ _ _ _ _ q=>gt_int q
theorem y0b:OpR X (compareOp .GtE) (rI0 λ i j=>.bl (decide (j≤i))):=w4a λ _ _ _ _ _ _ _ q=>ge_int q
theorem x5l:OpR X (compareOp .Is) (λ x y H Q=>y=.non/\Q (.bl (decide (x=.non))) H):=by
 intro pins s σ H x y v u Q I rx ry h
 obtain ⟨rfl,q⟩:=h
 cases ry
 refine is_none_gen (z1p I q ?_)
 cases x<;>first
  | (cases rx;rfl)
  | (obtain ⟨t,rfl⟩:=rx;rfl)
theorem y9j:OpR X (compareOp .IsNot) (λ x y H Q=>y=.non/\Q (.bl (!decide (x=.non))) H):=by
 intro pins s σ H x y v u Q I rx ry h
 obtain ⟨rfl,q⟩:=h
 cases ry
 refine isnot_none_gen (z1p I q ?_)
 cases x<;>first
  | (cases rx;rfl)
  | (obtain ⟨t,rfl⟩:=rx;rfl)
theorem OpR.or {f:Value->Value->Sem Value}{r r':R2}(h:OpR X f r) (h':OpR X f r'):OpR X f (λ x y H Q=>r x y H Q\/r' x y H Q):=by
 intro pins s σ H x y v u Q I rx ry q
 rcases q with q | q
 ·exact h pins s σ H x y v u Q I rx ry q
 ·exact h' pins s σ H x y v u Q I rx ry q
theorem z0o (b:Expr) {op:CmpOp}(h:op≠.In:=by decide) (h2:op≠.NotIn:=by decide):behindInMarks op b=false:=by
 have e1:(op == CmpOp.In)=false:=by cases op<;>first | rfl | exact absurd rfl h
 have e2:(op == CmpOp.NotIn)=false:=by cases op<;>first | rfl | exact absurd rfl h2
 cases b<;>simp [behindInMarks,e1,e2]
theorem z7r {op:CmpOp}{r:R2}(ho:OpR X (compareOp op) r) (ha:PE X a ta) (hb:PE X b tb) (hm:behindInMarks op b=false):PE X (.Compare a [op] [b] pos) (tOp r ta tb):=by
 intro pins s σ H Q I h
 exact wpAny_Compare1 (w4s ha hb I h λ v u s2 x y H2 I2 rx ry q=>ho pins s2 σ H2 x y v u Q I2 rx ry q) hm
def x9k (t:TE):TT:=λ σ H Q=>t σ H λ x H'=>∃k,x=.bl k/\Q k H'
theorem z0j {op:CmpOp}{r:R2}(ho:OpR X (compareOp op) r) (ha:PE X a ta) (hb:PE X b tb) (hm:behindInMarks op b=false):PT X (.Compare a [op] [b] pos) (x9k (tOp r ta tb)):=by
 intro pins s σ H Q I h
 refine wpAny_isTrue_Compare1 (thn (ha pins s σ H _ I h) λ v s1 ⟨x,H1,I1,r1,q1⟩=>thn (hb pins s1 σ H1 _ I1 q1) λ u s2 ⟨y,H2,I2,r2,q2⟩ =>
  thn (ho pins s2 σ H2 x y v u _ I2 r1 r2 q2) λ c s3 ⟨z,H3,I3,r3,k,e,q3⟩=>?_) hm
 subst e
 cases r3
 exact wpAny_truthy_bool ⟨H3,I3,q3⟩
def x9u (r r':R2) (ta tb tc:TE):TE:=λ σ H Q=>ta σ H λ x H1=>tb σ H1 λ y H2=>r x y H2 λ z H3=>∃k,z=.bl k /\
 (if k=true then tc σ H3 λ w' H4=>r' y w' H4 Q else Q (.bl false) H3)
theorem y4m:(sizeLine:Nat) < 2 ^ 63:=by rw [sizeLine_eq];decide
theorem z5f {x:V}{us:List Value}(r:Vals [x] us):∃u,us=[u]/\RelV x u:=by
 cases r with
 | cons r1 r2=>cases r2;exact ⟨_,rfl,r1⟩
theorem y4y {x y:V}{us:List Value}(r:Vals [x,y] us):∃u w',us=[u,w']/\RelV x u/\RelV y w':=by
 cases r with
 | cons r1 r2 =>
  cases r2 with
  | cons r3 r4=>cases r4;exact ⟨_,_,rfl,r1,r3⟩
theorem x4u:CallR X (.builtin "abs") (λ xs H Q=>∃i,xs=[.int i]/\Q (.int (if i < 0 then -i else i)) H):=by
 intro pins s σ H xs us Q I r h
 obtain ⟨i,rfl,q⟩:=h
 obtain ⟨u,rfl,t,rfl⟩:=z5f r
 exact call_abs_int λ u tk=>⟨.int (if i < 0 then -i else i),H,I.tok _,⟨_,rfl⟩,q⟩
theorem y1s (hc:X.calm=true):CallR X (.builtin "max") (λ xs H Q=>∃i j,xs=[.int i,.int j]/\Q (.int (if j > i then j else i)) H):=by
 intro pins s σ H xs us Q I r h
 obtain ⟨i,j,rfl,q⟩:=h
 obtain ⟨u,w',rfl,⟨t,rfl⟩,⟨t',rfl⟩⟩:=y4y r
 refine max_two_ints (I.ok.hd hc) λ h' tk k=>⟨_,H,I.kept k,?_,q⟩
 by_cases hj:j > i
 ·rw [if_pos hj,if_pos hj];exact ⟨_,rfl⟩
 ·rw [if_neg hj,if_neg hj];exact ⟨_,rfl⟩
theorem x1s (hc:X.calm=true):CallR X (.builtin "min") (λ xs H Q=>∃i j,xs=[.int i,.int j]/\Q (.int (if j < i then j else i)) H):=by
 intro pins s σ H xs us Q I r h
 obtain ⟨i,j,rfl,q⟩:=h
 obtain ⟨u,w',rfl,⟨t,rfl⟩,⟨t',rfl⟩⟩:=y4y r
 refine min_two_ints (I.ok.hd hc) λ h' tk k=>⟨_,H,I.kept k,?_,q⟩
 by_cases hj:j < i
 ·rw [if_pos hj,if_pos hj];exact ⟨_,rfl⟩
 ·rw [if_neg hj,if_neg hj];exact ⟨_,rfl⟩
theorem z5v:CallR X (.type "int") (λ xs H Q=>(∃i,xs=[.int i]/\Q (.int i) H)\/∃k,xs=[.bl k]/\Q (.int (if k then 1 else 0)) H):=by
 intro pins s σ H xs us Q I r h
 rcases h with ⟨i,rfl,q⟩ | ⟨k,rfl,q⟩
 ·obtain ⟨u,rfl,t,rfl⟩:=z5f r
  exact call_int_int ⟨.int i,H,I,⟨_,rfl⟩,q⟩
 ·obtain ⟨u,rfl,r1⟩:=z5f r
  cases r1
  exact call_int_bool ⟨.int (if k then 1 else 0),H,I.tok _,⟨_,rfl⟩,q⟩
end
structure ObjM (h:Heap) (x dx C:Addr) (mA:Str->Option Value):Prop where
 obj:h.get? x=some (W.instObj C dx)
 ns:h.Ns1 dx mA
 ne:dx≠x
theorem x0c {h:Heap}{dx:Addr}{mA:Str->Option Value}(n:h.Ns1 dx mA):∃od,h.get? dx=some od/\∀name,W.lookIn name od=some (mA name):=by
 obtain ⟨o,es,ep,ho,hd,hk,_,hm⟩:=n
 refine ⟨o,ho,λ name=>?_⟩
 have e:=hm name
 unfold nsFind findBy at e
 rw [← Array.find?_toList] at e
 unfold W.lookIn
 rw [hd]
 dsimp only
 split
 ·rename_i y q
  rw [q] at e
  exact congrArg some e
 ·rename_i q
  rw [q] at e
  have a:es.toList.any (·.refKey)=false:=by
   rw [List.any_eq_false]
   intro y hy
   obtain ⟨z,t,hkey⟩:=hk y (Array.mem_toList_iff.mp hy)
   simp [DictEntry.refKey,hkey]
  have a':¬es.toList.any (·.refKey)=true:=by rw [a];exact Bool.false_ne_true
  rw [if_neg a']
  exact congrArg some e
theorem ObjM.look {h:Heap}{x dx C:Addr}{mA:Str->Option Value}(I:ObjM h x dx C mA):∃od,W.InstAt h x (W.instObj C dx) C (some od)/\∀name,W.lookIn name od=some (mA name) :=
 let ⟨od,ho,hl⟩:=x0c I.ns
 ⟨od,⟨I.obj,rfl,rfl,ho⟩,hl⟩
section
variable {prog:Program}{w:World}{A:Around}{E:Value->Shared->Prop}{s:Shared}{K:W.Frag}{x dx C f:Addr}{mA:Str->Option Value}{name:Str}{v:Value}
theorem x7w {expr:Bool}{Q:Value->Shared->Prop}(X:K.In s.heap) (I:ObjM s.heap x dx C mA) (hg:W.plainGet K C name=true) (hh:W.hasDictIn K C=true)
  (ha:W.findIn K (.ref C) name=some none) (hv:mA name=some v) (hv':W.handedIn v=true) (h:Q v { s with toks:=s.toks+1 }) :
  wpAny (model prog w) A (getAttr (.ref x) name expr) Q E s:=by
 obtain ⟨od,J,hl⟩:=I.look
 exact W.get_value X J (W.plainGet_of hg).1 (W.findObj_own hh ha rfl (by rw [hl,hv])) hv' h
theorem x3t {pl:Sem Bool}{Q:Value × List Value->Shared->Prop}(X:K.In s.heap) (I:ObjM s.heap x dx C mA) (hg:W.plainGet K C name=true)
  (hf:W.findIn K (.ref C) name=some (some (.ref f))) (ht:W.isFn K (.ref f)=true) (hv:mA name=none) (h:Q (.ref f,[.ref x]) s) :
  wpAny (model prog w) A (getMethod (.ref x) name pl) Q E s:=by
 obtain ⟨od,J,hl⟩:=I.look
 exact W.method_fn X J (W.plainGet_of hg).1 (W.plainGet_of hg).2 hf (beq_iff_eq.mp ht) (by show (W.lookIn name od).map (·.isSome)=some false;rw [hl,hv];rfl) h
theorem x6f {ns:List Str}{Q:Unit->Shared->Prop}(X:K.In s.heap) (I:ObjM s.heap x dx C mA)
  (hs:W.findIn K (.ref C) "__setattr__"=some (some (.builtin "object.__setattr__"))) (hp:W.plainOver K C=true) (ht:W.takerIn K C name=some none) (hh:W.hasDictIn K C=true)
  (hw:PySem.Within mA ns) (hsz:ns.length≤sizeLine)
  (h:∀h',ObjM h' x dx C (λ y=>if y=name then some v else mA y)->Heap.SameBut dx s.heap h'->Q () { s with heap:=h',toks:=s.toks+2 }) :
  wpAny (model prog w) A (setAttr (.ref x) name v) Q E s:=by
 obtain ⟨od,J,hl⟩:=I.look
 refine W.set_plain X J hs (W.osa_open (s:={ s with toks:=s.toks+1 }) (r:=none) X J hp ht λ b=>?_)
 obtain ⟨cd,hc,hd'⟩:=W.any_some hh
 have hx:s.heap.get? x=some ⟨.ref C,some dx,.plain,#[]⟩:=I.obj
 refine wpAny_bind (wpAny_pure (wpAny_bind (wpAny_bind (wpAny_loadPart hx (wpAny_bind (W.Looks.here (s:={ s with toks:=s.toks+1 }) (W.looks_clsIn X hc) ?_))))))
 rw [hd']
 refine wpAny_pure (a:=some dx) (wpAny_bind (wpAny_pure (wpAny_bind ?_)))
 refine wpAny_nsSet1 (s:={ s with toks:=s.toks+1 }) I.ns λ h' hn2 hs2=>?_
 obtain ⟨oD,esD,epD,hoD,hdD,hcD⟩:=hn2.count (PySem.Within.cons name v hw)
 refine wpAny_bind (wpAny_lookBehind hoD (by rw [hdD];exact pastItsLine_dict (Nat.le_trans hcD (by rw [List.length_cons];lia))) ?_)
 exact wpAny_pure (h _ ⟨(hs2.2 _ (Ne.symm I.ne)).trans I.obj,hn2,I.ne⟩ hs2)
theorem y4l {R:Result->Shared->Prop}{vs:List Value}{kw:List (Str × Value)}(X:K.In s.heap) (hm:W.makesIn K C=true)
  (hi:W.findIn K (.ref C) "__init__"=some (some (.ref f))) (hf:W.typeIn K (.ref f)=some (.type "function"))
  (h:codeAny (model prog w) (A.under (.builtin "type.__call__" ⟨.ref C::vs,kw⟩)) (.call (.ref f) ⟨.ref (s.heap.objs.size+1)::vs,kw⟩) (W.InitBack (s.heap.objs.size+1) R)
   { s with heap:=(s.heap.push W.emptyDict).push (W.instObj C s.heap.objs.size) }) :
  codeAny (model prog w) A (.call (.ref C) ⟨vs,kw⟩) R s:=by
 obtain ⟨hh,g,d,t,os⟩:=s
 exact W.make_core (W.makes_of X hm) (W.looks_findIn X hi) (λ self=>W.bind_fn X self hf) (.inl rfl) h
end
def z9u (f:Str) (v:V):List (Str × V)->List (Str × V)
 | []=>[(f,v)]
 | (g,x)::r=>if g=f then (g,v)::r else (g,x)::z9u f v r
theorem z7v (f g:Str) (v:V):∀fs:List (Str × V),(z9u f v fs).lookup g=if g=f then some v else fs.lookup g
 | []=>by
  show List.lookup g [(f,v)]=_
  by_cases h:g=f
  ·have hb:(g == f)=true:=beq_iff_eq.mpr h
   simp only [List.lookup,hb,if_pos h]
  ·have hb:(g == f)=false:=beq_eq_false_iff_ne.mpr h
   simp only [List.lookup,hb,if_neg h]
 | (k,x)::r=>by
  have ih:=z7v f g v r
  rw [show z9u f v ((k,x)::r)=(if k=f then (k,v)::r else (k,x)::z9u f v r) from rfl]
  by_cases hk:k=f
  ·rw [if_pos hk]
   by_cases h:g=k
   ·have hb:(g == k)=true:=beq_iff_eq.mpr h
    simp only [List.lookup,hb,if_pos (h.trans hk)]
   ·have hb:(g == k)=false:=beq_eq_false_iff_ne.mpr h
    simp only [List.lookup,hb,if_neg (λ e:g=f=>h (e.trans hk.symm))]
  ·rw [if_neg hk]
   by_cases h:g=k
   ·have hb:(g == k)=true:=beq_iff_eq.mpr h
    simp only [List.lookup,hb,if_neg (λ e:g=f=>hk (h.symm.trans e))]
   ·have hb:(g == k)=false:=beq_eq_false_iff_ne.mpr h
    simp only [List.lookup,hb]
    exact ih
theorem z7x (f:Str) (v:V):∀fs:List (Str × V),f∈(z9u f v fs).map (·.1)/\∀g,g∈fs.map (·.1)->g∈(z9u f v fs).map (·.1)
 | []=>⟨by simp [z9u],λ g h=>by simp at h⟩
 | (k,x)::r=>by
  obtain ⟨i1,i2⟩:=z7x f v r
  rw [show z9u f v ((k,x)::r)=(if k=f then (k,v)::r else (k,x)::z9u f v r) from rfl]
  by_cases hk:k=f
  ·rw [if_pos hk]
   subst hk
   exact ⟨by simp,λ g h=>by simpa using h⟩
  ·rw [if_neg hk]
   refine ⟨?_,λ g h=>?_⟩
   ·rw [List.map_cons]
    exact List.mem_cons_of_mem _ i1
   ·rw [List.map_cons] at h ⊢
    rcases List.mem_cons.mp h with e | e
    ·exact List.mem_cons.mpr (.inl e)
    ·exact List.mem_cons_of_mem _ (i2 g e)
theorem z7w (f:Str) (v:V):∀fs:List (Str × V),(z9u f v fs).length≤fs.length+1
 | []=>by simp [z9u]
 | (k,x)::r=>by
  have ih:=z7w f v r
  rw [show z9u f v ((k,x)::r)=(if k=f then (k,v)::r else (k,x)::z9u f v r) from rfl]
  by_cases hk:k=f
  ·rw [if_pos hk,List.length_cons,List.length_cons];lia
  ·rw [if_neg hk,List.length_cons,List.length_cons];lia
theorem RelO.some_of {v:V}{o:Option Value}(r:RelO (some v) o):∃u,o=some u/\RelV v u:=by
 cases o with
 | none=>exact (show False from r).elim
 | some u=>exact ⟨u,rfl,r⟩
theorem RelO.none_of {o:Option Value}(r:RelO none o):o=none:=by
 cases o with
 | none=>rfl
 | some u=>exact (show False from r).elim
theorem x0l {v:V}{u:Value}(r:RelV v u):W.handedIn u=true:=by
 cases v with
 | non=>cases (show u=Value.none from r);rfl
 | bl b=>cases (show u=Value.bool b from r);rfl
 | int i=>obtain ⟨t,e⟩:=(show ∃t,u=Value.int i t from r);cases e;rfl
 | str x=>obtain ⟨t,e⟩:=(show ∃t,u=Value.str x t from r);cases e;rfl
 | byt b=>obtain ⟨t,e⟩:=(show ∃t,u=Value.bytes b t from r);cases e;rfl
 | flt b=>obtain ⟨t,e⟩:=(show ∃t,u=Value.float b t from r);cases e;rfl
 | ref a=>cases (show u=Value.ref a from r);rfl
 | ty n=>cases (show u=Value.type n from r);rfl
section
variable {P:Program}{w:World}{H H':Hp}{h h':Heap}{a C dx:Addr}{fs fs':List (Str × V)}
theorem y0i (hok:HOk P w H h) (e:H a=some (.ins C dx fs)):∃mA,ObjM h a dx C mA/\(∀f,RelO (fs.lookup f) (mA f))/\PySem.Within mA (fs.map (·.1))/\fs.length≤1000/\H dx=some (.own a):=by
 obtain ⟨d,z,ne,ob,mA,n,r,q⟩:=(show ObjOk P w H h a (.ins C dx fs) from hok a _ e)
 exact ⟨mA,⟨ob,n,ne⟩,r,q,z,d⟩
end
structure Cls (K:W.Frag) (C:Addr):Prop where
 pg:W.plainGet K C Str.empty=true
 hd:W.hasDictIn K C=true
 po:W.plainOver K C=true
 sa:W.findIn K (.ref C) "__setattr__"=some (some (.builtin "object.__setattr__"))
theorem Cls.get {K:W.Frag}{C:Addr}(c:Cls K C) (f:Str):W.plainGet K C f=true:=c.pg
def NoAttr (K:W.Frag) (C:Addr) (f:Str):Prop:=W.findIn K (.ref C) f=some none
theorem NoAttr.taker {K:W.Frag}{C:Addr}{f:Str}(n:NoAttr K C f):W.takerIn K C f=some none:=by
 unfold W.takerIn
 rw [show W.findIn K (.ref C) f=some none from n]
 rfl
structure Con (K:W.Frag) (C:Addr) (f:Str) (v:V) (u:Value):Prop where
 at_:W.findIn K (.ref C) f=some (some u)
 rel:RelV v u
 get:W.specialIn K u "__get__"=some none
 cp:W.copiedNames.contains f=false
structure Meth (K:W.Frag) (C:Addr) (m:Str) (f:Addr):Prop where
 at_:W.findIn K (.ref C) m=some (some (.ref f))
 fn:W.isFn K (.ref f)=true
 kp:W.keepIn K (.ref f)=true
section
variable {X:Cx}{pins:List (Addr × Obj)}{σ:St}{H:Hp}{s:Shared}{a C dx:Addr}{fs:List (Str × V)}{f:Str}{v:V}{A:Around}{E:Value->Shared->Prop}
theorem y6l {b:Bool}{Q:Value->Shared->Prop}(I:Inv X pins σ H s) (e:H a=some (.ins C dx fs)) (c:Cls X.K C) (n:NoAttr X.K C f) (l:fs.lookup f=some v)
  (h:∀u s',Inv X pins σ H s'->RelV v u->Q u s'):wpAny (model X.prog X.w) A (getAttr (.ref a) f b) Q E s:=by
 obtain ⟨mA,O,r,_,_,_⟩:=y0i I.hok e
 obtain ⟨u,hu,ru⟩:=RelO.some_of (v:=v) (o:=mA f) (by rw [← l];exact r f)
 exact x7w I.kIn O (c.get f) c.hd n hu (x0l ru) (h u _ (I.tok _) ru)
theorem z4p {m:Str}{g:Addr}{pl:Sem Bool}{Q:Value × List Value->Shared->Prop}(I:Inv X pins σ H s) (e:H a=some (.ins C dx fs)) (c:Cls X.K C) (k:Meth X.K C m g) (l:fs.lookup m=none)
  (h:Q (.ref g,[.ref a]) s):wpAny (model X.prog X.w) A (getMethod (.ref a) m pl) Q E s:=by
 obtain ⟨mA,O,r,_,_,_⟩:=y0i I.hok e
 have hn:mA m=none:=RelO.none_of (by rw [← l];exact r m)
 exact x3t I.kIn O (c.get m) k.at_ k.fn hn h
theorem y5d {y:V}{u:Value}{Q:Unit->Shared->Prop}(I:Inv X pins σ H s) (e:H a=some (.ins C dx fs)) (c:Cls X.K C) (n:NoAttr X.K C f) (hl:fs.length < 1000) (ry:RelV y u)
  (h:∀s',Inv X pins σ (upd H a (.ins C dx (z9u f y fs))) s'->Q () s'):wpAny (model X.prog X.w) A (setAttr (.ref a) f u) Q E s:=by
 obtain ⟨mA,O,r,wi,_,ho⟩:=y0i I.hok e
 have hz:(fs.map (·.1)).length≤sizeLine:=by rw [List.length_map,sizeLine_eq];lia
 refine x6f I.kIn O c.sa c.po n.taker c.hd wi hz λ h' O' sb=>h _ ?_
 have hd:∃o,h'.get? dx=some o:=let ⟨o,_,_,e',_⟩:=O'.ns;⟨o,e'⟩
 refine I.write (x:=a) (e:=dx) (by rw [e];exact True.intro) (.inr ho) (λ b q hb z=>(sb.2 b hb).trans z) hd ?_
 refine ⟨by rw [z0n O.ne];exact ho,?_,O.ne,O'.obj,_,O'.ns,λ g=>?_,λ g hg=>?_⟩
 ·have:=z7w f y fs;lia
 ·show RelO ((z9u f y fs).lookup g) (if g=f then some u else mA g)
  rw [z7v]
  by_cases q:g=f
  ·rw [if_pos q,if_pos q];exact ry
  ·rw [if_neg q,if_neg q];exact r g
 ·by_cases q:g=f
  ·rw [q];exact (z7x f y fs).1
  ·refine (z7x f y fs).2 g (wi g λ z=>hg ?_)
   show (if g=f then some u else mA g)=none
   rw [if_neg q];exact z
theorem Inv.made (I:Inv X pins σ H s):Inv X pins σ (upd (upd H s.heap.objs.size (.own (s.heap.objs.size+1))) (s.heap.objs.size+1) (.ins C s.heap.objs.size []))
  { s with heap:=(s.heap.push W.emptyDict).push (W.instObj C s.heap.objs.size) }:=by
 have e1:(s.heap.push W.emptyDict).get? s.heap.objs.size=some W.emptyDict:=Heap.get?_push_size s.heap rfl
 have e2:((s.heap.push W.emptyDict).push (W.instObj C s.heap.objs.size)).get? (s.heap.objs.size+1)=some (W.instObj C s.heap.objs.size):=by
  have:=Heap.get?_push_size (s.heap.push W.emptyDict) (o:=W.instObj C s.heap.objs.size) rfl
  rwa [Heap.size_push] at this
 have e3:(s.heap.push W.emptyDict).Ns s.heap.objs.size (λ _=>none):=⟨W.emptyDict,#[],_,e1,rfl,(λ e he=>absurd he (by simp)),λ _=>rfl⟩
 have I1:=I.laid (a:=s.heap.objs.size) (o:=.own (s.heap.objs.size+1)) (h':=s.heap.push W.emptyDict) (t':=s.toks) (λ b u q=>Heap.get?_push_of_some _ q) (Nat.le_refl _) ⟨_,e1⟩
 refine I1.laid (a:=s.heap.objs.size+1) (o:=.ins C s.heap.objs.size []) (t':=s.toks) (λ b u q=>Heap.get?_push_of_some _ q) (Nat.le_of_eq (Heap.size_push _ _)) ?_
 have ne:s.heap.objs.size≠s.heap.objs.size+1:=Nat.ne_of_lt (Nat.lt_succ_self _)
 refine ⟨by rw [z0n ne,z0f],Nat.zero_le _,ne,e2,λ _=>none,(Heap.Ns1.of_empty e3).at λ o q=>Heap.get?_push_of_some _ q,λ _=>True.intro,λ y hy=>absurd rfl hy⟩
theorem x8o {prog:Program}{w:World}{env:Env}{e:Expr}{f:Str}{pos:Pos}{s:Shared}{Q:Value->Shared->Prop}(hb:attributeBase e f env (eval e env)=eval e env)
  (h:wpAny (model prog w) A (eval e env) (λ o s₁=>wpAny (model prog w) A (getAttr o f true) Q E s₁) E s):wpAny (model prog w) A (eval (.Attribute e f pos) env) Q E s :=
 Attribute_any_ h (by rw [arm_eval_Attribute,hb])
end
def w5g (K:W.Frag) (ta:TE) (f:Str):TE:=λ σ H Q=>ta σ H λ x H1=>∃a C dx fs v,x=.ref a/\H1 a=some (.ins C dx fs)/\Cls K C/\NoAttr K C f/\fs.lookup f=some v/\Q v H1
def w5l (K:W.Frag) (ta tv:TE) (f:Str):TS:=λ D σ H=>tv σ H λ y H1=>ta σ H1 λ x H2=>∃a C dx fs,x=.ref a/\H2 a=some (.ins C dx fs)/\Cls K C/\NoAttr K C f/\fs.length < 1000 /\
 D.nx σ (upd H2 a (.ins C dx (z9u f y fs)))
section
variable {X:Cx}{o e value:Expr}{f:Str}{pos pos' tpos:Pos}{ta tv:TE}
theorem z3c (he:PE X e ta) (hb:attributeBase e f X.env (eval e X.env)=eval e X.env):PE X (.Attribute e f pos) (w5g X.K ta f):=by
 intro pins s σ H Q I h
 refine x8o hb (thn (he pins s σ H _ I h) λ u s1 ⟨x,H1,I1,rx,a,C,dx,fs,v,ex,ea,c,n,l,q⟩=>?_)
 subst ex
 obtain rfl:u=Value.ref a:=rx
 exact y6l I1 ea c n l λ u' s2 I2 ru=>⟨v,H1,I2,ru,q⟩
theorem z7q (ha:PE X o ta) (hv:PE X value tv) (hs:swapsWith value (some (.Attribute o f pos')) pos.line X.env=pure false):PS X (.Assign [.Attribute o f pos'] value pos) (w5l X.K ta tv f):=by
 intro pins s σ H D I h
 refine plainObj_wpAny_Assign_Attribute (thn (hv pins s σ H _ I h) λ u s1 ⟨y,H1,I1,ry,q⟩=>thn (ha pins s1 σ H1 _ I1 q) λ ov s2 ⟨x,H2,I2,rx,a,C,dx,fs,ex,ea,c,n,l,q2⟩=>?_) hs
 subst ex
 obtain rfl:ov=Value.ref a:=rx
 exact y5d I2 ea c n l ry λ s3 I3=>⟨σ,_,I3,q2⟩
end
section
variable {X:Cx}{pins:List (Addr × Obj)}{σ:St}{H:Hp}{s:Shared}{A:Around}{E:Value->Shared->Prop}{Q:Value->Shared->Prop}{c:Value}{b:Bool}
inductive TyOf (K:W.Frag) (H:Hp):V->Value->Prop where
 | non:TyOf K H .non (.type "NoneType")
 | bl (x:Bool):TyOf K H (.bl x) (.type "bool")
 | int (i:Int):TyOf K H (.int i) (.type "int")
 | str (x:Str):TyOf K H (.str x) (.type "str")
 | flt (x:UInt64):TyOf K H (.flt x) (.type "float")
 | lst {a:Addr}{xs:List V}(e:H a=some (.lst xs)):TyOf K H (.ref a) (.type "list")
 | frz {a:Addr}{o:Obj}{xs:List V}(e:H a=some (.frz o (.lst xs))):TyOf K H (.ref a) (.type "list")
 | tup {a:Addr}{xs:List V}(e:H a=some (.tup xs)):TyOf K H (.ref a) (.type "tuple")
 | dK {a:Addr}{kvs:List (Key × V)}(e:H a=some (.dK kvs)):TyOf K H (.ref a) (.type "dict")
 | dT {a:Addr}{kvs:List (List Key × V)}(e:H a=some (.dT kvs)):TyOf K H (.ref a) (.type "dict")
 | ins {a C dx:Addr}{fs:List (Str × V)}(e:H a=some (.ins C dx fs)) (cl:Cls K C) (ha:W.findIn K (.ref C) "__class__"=some (some (.builtin "object.__class__")))
   (hn:W.specialIn K (.builtin "object.__class__") "__get__"=some (some (.builtin "getset_descriptor.__get__"))) (htk:W.takesIn K (.builtin "object.__class__")=some true)
   (hm:W.mroIn K C (.type "object")=some true):TyOf K H (.ref a) (.ref C)
theorem x0i {x:V}{u t:Value}(I:Inv X pins σ H s) (rx:RelV x u) (ty:TyOf X.K H x t) (e:W.kitOne X.K t c=some b) (h:∀tk,Q (.bool b) { s with toks:=tk }) :
  wpAny (model X.prog X.w) A (call (.builtin "isinstance") [u,c]) Q E s:=by
 cases ty with
 | non=>cases (show u=Value.none from rx);exact W.kia_one W.kitx_none I.kIn True.intro e (λ z=>nomatch z) h
 | bl y=>cases (show u=Value.bool y from rx);exact W.kia_one W.kitx_bool I.kIn True.intro e (λ z=>nomatch z) h
 | int i=>obtain ⟨t,q⟩:=(show ∃t,u=Value.int i t from rx);cases q;exact W.kia_one W.kitx_int I.kIn True.intro e (λ z=>nomatch z) h
 | str y=>obtain ⟨t,q⟩:=(show ∃t,u=Value.str y t from rx);cases q;exact W.kia_one W.kitx_str I.kIn True.intro e (λ z=>nomatch z) h
 | flt y=>obtain ⟨t,q⟩:=(show ∃t,u=Value.float y t from rx);cases q;exact W.kia_one W.kitx_float I.kIn True.intro e (λ z=>nomatch z) h
 | @lst a xs ea =>
  cases (show u=Value.ref a from rx)
  obtain ⟨_,_,n,_,h1⟩:=(show ObjOk X.prog X.w H s.heap a (.lst xs) from I.hok a _ ea)
  exact W.kia_one W.kitx_list I.kIn ⟨_,h1,rfl⟩ e (λ z=>nomatch z) h
 | @frz a ob xs ea =>
  cases (show u=Value.ref a from rx)
  obtain ⟨_,_,_,n,_,h1⟩:=(show ObjOk X.prog X.w H s.heap a (.frz ob (.lst xs)) from I.hok a _ ea)
  exact W.kia_one W.kitx_list I.kIn ⟨_,h1,rfl⟩ e (λ z=>nomatch z) h
 | @tup a xs ea =>
  cases (show u=Value.ref a from rx)
  obtain ⟨_,_,_,p⟩:=(show ObjOk X.prog X.w H s.heap a (.tup xs) from I.hok a _ ea)
  obtain ⟨o,h1,h2,_⟩:=p
  exact W.kia_one W.kitx_tuple I.kIn ⟨o,h1,h2⟩ e (λ z=>nomatch z) h
 | @dK a kvs ea =>
  cases (show u=Value.ref a from rx)
  obtain ⟨_,_,vs,_,p⟩:=(show ObjOk X.prog X.w H s.heap a (.dK kvs) from I.hok a _ ea)
  obtain ⟨o,es,ep,h1,h2,_⟩:=p
  exact W.kia_one W.kitx_dict I.kIn ⟨o,h1,h2.1⟩ e (λ z=>nomatch z) h
 | @dT a kvs ea =>
  cases (show u=Value.ref a from rx)
  obtain ⟨_,_,xs,_,o,es,ep,h1,h2,_⟩:=(show ObjOk X.prog X.w H s.heap a (.dT kvs) from I.hok a _ ea)
  exact W.kia_one W.kitx_dict I.kIn ⟨o,h1,h2.1⟩ e (λ z=>nomatch z) h
 | @ins a C dx fs ea cl ha hn htk hm =>
  cases (show u=Value.ref a from rx)
  obtain ⟨mA,O,_⟩:=y0i I.hok ea
  obtain ⟨od,J,_⟩:=O.look
  exact W.kia_one (W.kitx_own (cl.get _) cl.hd ha hn htk hm) I.kIn J e (λ z=>nomatch z) h
end
structure Room (k:Nat) (A:Around):Prop where
 hd:A.handled=none
 dp:A.depth+3 * k+5 < recursionLimit
 un:A.units+16 * k+200 < cLine
theorem Room.mono {j k:Nat}{A:Around}(r:Room k A) (h:j≤k):Room j A:=⟨r.hd,by have:=r.dp;lia,by have:=r.un;lia⟩
theorem Room.deeper {k:Nat}{A:Around}(r:Room (k+1) A) (env:Env):Room k (A.deeper env) :=
 ⟨r.hd,by have:=r.dp;show A.depth+1+3 * k+5 < _;lia,by have:=r.un;show A.units+3+16 * k+200 < _;lia⟩
theorem Room.in1 {k:Nat}{A:Around}(r:Room (k+1) A):Room k A.in1 :=
 ⟨r.hd,by have:=r.dp;show A.depth+3 * k+5 < _;lia,by have:=r.un;show A.units+1+16 * k+200 < _;lia⟩
theorem y6i {A:Around}{C:Addr}{us:List Value}{kw:List (Str × Value)}:(A.under (.builtin "type.__call__" ⟨.ref C::us,kw⟩)).depth=A.depth+1:=by
 first | rfl | simp [Around.under,Code.weight,Code.isCreation,Code.isGuard,Code.isCaller,Code.frames,Code.isFrame,guardIds]
theorem y6h {A:Around}{C:Addr}{us:List Value}{kw:List (Str × Value)}:(A.under (.builtin "type.__call__" ⟨.ref C::us,kw⟩)).units=A.units+1:=by
 first | rfl | simp [Around.under,Code.cUnits,Code.frames,Code.isFrame]
theorem Room.make {k:Nat}{A:Around}(r:Room (k+1) A) (C:Addr) (us:List Value) (kw:List (Str × Value)):Room k (A.under (.builtin "type.__call__" ⟨.ref C::us,kw⟩)) :=
 ⟨r.hd,by have:=r.dp;rw [y6i];lia,by have:=r.un;rw [y6h];lia⟩
theorem Room.depth {k:Nat}{A:Around}(r:Room k A):A.depth < recursionLimit:=by have:=r.dp;lia
theorem Room.units {k:Nat}{A:Around}(r:Room k A):A.units+64 < cLine:=by have:=r.un;lia
theorem Room.units0 {k:Nat}{A:Around}(r:Room k A):A.units < cLine:=by have:=r.un;lia
def x9m:TA:=λ _ H Q=>Q [] H
def x5y (ta:TE) (tr:TA):TA:=λ σ H Q=>ta σ H λ x H1=>tr σ H1 λ xs H2=>Q (x::xs) H2
section
variable {X:Cx}{e:Expr}{es:List Expr}{te:TE}{t:TA}{pos:Pos}
theorem z0e:PA X [] x9m:=λ _ _ _ _ H Q I h=>Calls.spliced_nil ⟨[],H,I,.nil,h⟩
theorem z0a (ha:PE X e te) (hr:PA X es t) (hs:starEach (e::es) X.env=(false,eval e X.env)::starEach es X.env:=by rfl):PA X (e::es) (x5y te t):=by
 intro pos pins s σ H Q I h
 rw [hs]
 show wpAny _ _ (spliced ((false,eval e X.env)::backTo pos (starEach es X.env))) _ _ s
 refine Calls.spliced_cons (thn (ha pins s σ H _ I h) λ u s1 ⟨x,H1,I1,r1,q1⟩=>?_)
 exact thn (hr pos pins s1 σ H1 _ I1 q1) λ us s2 ⟨xs,H2,I2,r2,q2⟩=>⟨x::xs,H2,I2,.cons r1 r2,q2⟩
def w5c (t:TA):TE:=λ σ H Q=>t σ H λ xs H1=>xs.length≤sizeLine/\∀p,H1 p=none->Q (.ref p) (upd H1 p (.tup xs))
def w5f (t:TA):TE:=λ σ H Q=>t σ H λ xs H1=>xs.length≤sizeLine/\∀p,H1 p=none->Q (.ref p) (upd H1 p (.lst xs))
theorem z0x {x1} (h:PA X es t):PE X (.Tuple es x1 pos) (w5c t):=by
 intro pins s σ H Q I hq
 refine wpAny_Tuple_spliced (thn (h pos pins s σ H _ I hq) λ us s1 ⟨xs,H1,I1,r,z,q⟩=>⟨by rw [← r.length];exact z,?_⟩)
 have hf:H1 s1.heap.objs.size=none:=I1.hok.fresh (Nat.le_refl _)
 refine ⟨.ref s1.heap.objs.size,upd H1 s1.heap.objs.size (.tup xs),I1.laid (t':=s1.toks) (λ b u e=>Heap.get?_push_of_some _ e) (Nat.le_refl _) ?_,rfl,q _ hf⟩
 exact ⟨z,us,r,⟨_,Heap.get?_push_size _ rfl,rfl,_,rfl⟩⟩
theorem z1n (h:PA X es t):PE X (.List es pos) (w5f t):=by
 intro pins s σ H Q I hq
 refine wpAny_List_spliced (thn (h pos pins s σ H _ I hq) λ us s1 ⟨xs,H1,I1,r,z,q⟩=>⟨by rw [← r.length];exact z,?_⟩)
 have hf:H1 s1.heap.objs.size=none:=I1.hok.fresh (Nat.le_refl _)
 refine ⟨.ref s1.heap.objs.size,upd H1 s1.heap.objs.size (.lst xs),I1.laid (t':=s1.toks) (λ b u e=>Heap.get?_push_of_some _ e) (Nat.le_refl _) ?_,rfl,q _ hf⟩
 exact ⟨z,us,0,r,Heap.get?_push_size _ rfl⟩
end
abbrev Sp:=List V->Hp->VK->XK->Prop
abbrev CXT:=List Env->Hp->Shared->XK->Value->Shared->Prop
structure Env0 (P:Program) (w:World) (K:W.Frag) (mg:Str->Option Value) (base:Heap) (A:Around) (outer:List Env) (s:Shared) (H:Hp):Prop where
 frames:A.frames=some outer
 mod:Mod K mg base
 bs:∀b o,base.get? b=some o->s.heap.get? b=some o/\H b=none
 bsz:base.objs.size≤s.heap.objs.size
 funs:s.heap.FunFrames base outer
 frf:∀b∈frs outer,H b=none
 hok:HOk P w H s.heap
 bare:AllBare s.gens
def CE (outer:List Env) (P:Program) (w:World) (H:Hp) (s:Shared) (Q:VK) (u:Value) (s':Shared):Prop :=
 ∃v H',s'.os=s.os/\AllBare s'.gens/\Un (frs outer) [] H H' s.heap s'.heap/\HOk P w H' s'.heap/\RelV v u/\Q v H'
def CR (CX:CXT) (outer:List Env) (P:Program) (w:World) (H:Hp) (s:Shared) (Q:VK) (E:XK) (r:Result) (s':Shared):Prop :=
 match r with
 | .ok (.ret u)=>CE outer P w H s Q u s'
 | .ok _=>False
 | .error e=>CX outer H s E e s'
structure FnOk (P:Program) (w:World) (K:W.Frag) (mg:Str->Option Value) (base:Heap) (CX:CXT) (k:Nat) (f:Addr) (fd:FuncData) (ps:List Str) (sp:Sp):Prop where
 len:∀vs H Q E,sp vs H Q E->vs.length=ps.length
 run:∀(A:Around) (outer:List Env) (s:Shared) (H:Hp) (args:Args) (us:List Value) (vs:List V) (Q:VK) (E:XK),Room k A->Env0 P w K mg base A outer s H->BindsTo s fd args (ps.zip us)->Vals vs us->sp vs H Q E ->
  codeAny (model P w) A (.call (.ref f) args) (CR CX outer P w H s Q E) s
theorem FnOk.mono {P:Program}{w:World}{K:W.Frag}{mg:Str->Option Value}{base:Heap}{CX:CXT}{j k:Nat}{f:Addr}{fd:FuncData}{ps:List Str}{sp:Sp}(F:FnOk P w K mg base CX j f fd ps sp) (h:j≤k) :
  FnOk P w K mg base CX k f fd ps sp:=⟨F.len,λ A outer s H args us vs Q E hr=>F.run A outer s H args us vs Q E (hr.mono h)⟩
theorem FnOk.imp {P:Program}{w:World}{K:W.Frag}{mg:Str->Option Value}{base:Heap}{CX:CXT}{k:Nat}{f:Addr}{fd:FuncData}{ps:List Str}{sp sp':Sp}(F:FnOk P w K mg base CX k f fd ps sp)
  (h:∀vs H Q E,sp' vs H Q E->sp vs H Q E):FnOk P w K mg base CX k f fd ps sp' :=
 ⟨λ vs H Q E q=>F.len vs H Q E (h _ _ _ _ q),λ A outer s H args us vs Q E hr he hb hv hs=>F.run A outer s H args us vs Q E hr he hb hv (h _ _ _ _ hs)⟩
theorem Env0.make {P:Program}{w:World}{K:W.Frag}{mg:Str->Option Value}{base:Heap}{A:Around}{outer:List Env}{s:Shared}{H:Hp}(e:Env0 P w K mg base A outer s H) (C:Addr) (us:List Value) (kw:List (Str × Value)) :
  Env0 P w K mg base (A.under (.builtin "type.__call__" ⟨.ref C::us,kw⟩)) outer s H:=⟨by first | exact e.frames | (simpa [Around.under,Code.envs,Code.isFrame,pushEnvs] using e.frames),e.mod,e.bs,e.bsz,e.funs,e.frf,e.hok,e.bare⟩
theorem Env0.in1 {P:Program}{w:World}{K:W.Frag}{mg:Str->Option Value}{base:Heap}{A:Around}{outer:List Env}{s:Shared}{H:Hp}(e:Env0 P w K mg base A outer s H) :
  Env0 P w K mg base A.in1 outer s H:=⟨e.frames,e.mod,e.bs,e.bsz,e.funs,e.frf,e.hok,e.bare⟩
section
variable {X:Cx}{pins:List (Addr × Obj)}{σ:St}{H:Hp}{s s':Shared}
theorem Inv.env0 (I:Inv X pins σ H s):Env0 X.prog X.w X.K X.mg X.base X.A X.stack s H :=
 ⟨I.ok.frames,I.ok.mod,I.bs,Nat.le_trans I.ok.bsz I.sz,I.stack,I.stkFree,I.hok,I.bare⟩
theorem Inv.after {Q:VK}{u:Value}(I:Inv X pins σ H s) (h:CE X.stack X.prog X.w H s Q u s'):EP X pins σ Q u s':=by
 obtain ⟨v,H',os,bare,un,hok,r,q⟩:=h
 obtain ⟨hh,g,d,t,os'⟩:=s'
 obtain rfl:os'=s.os:=os
 exact ⟨v,H',I.call (h':=hh) (g':=g) (d':=d) (t':=t) (ch:=[]) un hok bare (λ b z=>absurd z (by simp)),r,q⟩
end
def x5z (sp:Sp) (dvs:List V) (E:XK) (t:TA):TE:=λ σ H Q=>t σ H λ vs H1=>sp (vs++dvs) H1 Q E
def y7l (C:Addr) (m:Str) (sp:Sp) (dvs:List V) (E:XK) (ta:TE) (t:TA):TE:=λ σ H Q=>ta σ H λ x H1=>∃a dx fs,x=.ref a/\H1 a=some (.ins C dx fs)/\fs.lookup m=none /\
 t σ H1 λ vs H2=>sp (x::(vs++dvs)) H2 Q E
def x5x (C:Addr) (sp:Sp) (dvs:List V) (E:XK) (t:TA):TE:=λ σ H Q=>t σ H λ vs H1=>∀x dx,H1 x=none->H1 dx=none->dx≠x ->
 sp (.ref x::(vs++dvs)) (upd (upd H1 dx (.own x)) x (.ins C dx [])) (λ v H2=>v=.non/\Q (.ref x) H2) E
def Binds (K:W.Frag) (fd:FuncData) (ps:List Str) (ds:List Value):Prop :=
 ∀(s:Shared) (us:List Value),K.In s.heap->(us++ds).length=ps.length->BindsTo s fd ⟨us,[]⟩ (ps.zip (us++ds))
theorem Binds.all {K:W.Frag}{fd:FuncData}{ps:List Str}(h:∀us:List Value,us.length=ps.length->bindArgs fd ⟨us,[]⟩=pure (ps.zip us)):Binds K fd ps []:=λ s us _ hl=>by
 rw [List.append_nil] at hl ⊢
 exact .of_eq (h us hl)
def z3o (CX:CXT) (X:Cx) (E:XK):Prop:=∀(pins:List (Addr × Obj)) (σ:St) (H:Hp) (s:Shared) (e:Value) (s':Shared),Inv X pins σ H s->CX X.stack H s E e s'->X.xe e s'
section
variable {X:Cx}{CX:CXT}{k:Nat}{f C:Addr}{fd:FuncData}{ps:List Str}{sp:Sp}{dvs:List V}{ds:List Value}{E:XK}{x m:Str}{p pos apos:Pos}{e o:Expr}{es:List Expr}{ta:TE}{t:TA}
theorem y8m {pins:List (Addr × Obj)}{σ:St}{H:Hp}{s:Shared}{Q:VK}{us:List Value}{vs:List V}(F:FnOk X.prog X.w X.K X.mg X.base CX k f fd ps sp) (hr:Room k X.A) (hb:Binds X.K fd ps ds) (hd:Vals dvs ds) (hx:z3o CX X E)
  (I:Inv X pins σ H s) (r:Vals vs us) (h:sp (vs++dvs) H Q E):wpAny (model X.prog X.w) X.A (call (.ref f) us) (EP X pins σ Q) X.xe s:=by
 have r2:Vals (vs++dvs) (us++ds):=r.append hd
 have hl:(us++ds).length=ps.length:=by rw [← r2.length];exact F.len _ _ _ _ h
 refine wpAny_call (codeAny_mono (F.run X.A X.stack s H ⟨us,[]⟩ (us++ds) (vs++dvs) Q E hr I.env0 (hb s us I.kIn hl) r2 h) λ r s' hq=>?_)
 cases r with
 | error e=>exact hx pins σ H s e s' I hq
 | ok fl =>
  cases fl with
  | ret u=>exact I.after hq
  | next=>exact False.elim hq
  | brk=>exact False.elim hq
  | cont=>exact False.elim hq
theorem x7g (F:FnOk X.prog X.w X.K X.mg X.base CX k f fd ps sp) (hr:Room k X.A) (hg:Gl X x) (hm:X.mg x=some (.ref f)) (hk:W.keepIn X.K (.ref f)=true) (hb:Binds X.K fd ps ds) (hd:Vals dvs ds) (hx:z3o CX X E)
  (ha:PA X (e::es) t) (hdb:(x == ("__debug__" : Str))=false:=by decide) (he:starEach (e::es) X.env=(false,eval e X.env)::starEach es X.env:=by rfl) (hpl:(backTo pos (starEach es X.env)).any (·.1)=false:=by rfl) :
  PE X (.Call (.Name x p) (e::es) [] pos) (x5z sp dvs E t):=by
 intro pins s σ H Q I h
 refine wpAny_Call_Name_kw (z4i I hg hm ?_ hdb)
 refine W.callWith_K (h₀:=X.base) I.ok.mod.kin hk (thn (ha pos pins s σ H _ I h) λ us s1 ⟨vs,H1,I1,r,q⟩=>⟨I1.kIn,?_⟩) he hpl
 exact y8m F hr hb hd hx I1 r q
theorem x7a {pl:Sem Bool}(he:PE X o ta) (c:Cls X.K C) (hm:Meth X.K C m f) (F:FnOk X.prog X.w X.K X.mg X.base CX k f fd ps sp) (hr:Room k X.A) (hb:Binds X.K fd ps ds) (hd:Vals dvs ds) (hx:z3o CX X E) (ha:PA X (e::es) t)
  (hst:starEach (e::es) X.env=(false,eval e X.env)::starEach es X.env:=by rfl) (hpl:(backTo pos (starEach es X.env)).any (·.1)=false:=by rfl)
  (ht:eval (.Call (.Attribute o m apos) (e::es) [] pos) X.env=(do
   let ov ← eval o X.env
   standAt apos.atName
   let (f,first) ← holding [ov] (getMethod ov m pl)
   callWith pos f first (backTo pos (starEach (e::es) X.env)) (backToKw pos (keywordEach [] X.env))):=by rfl) :
  PE X (.Call (.Attribute o m apos) (e::es) [] pos) (y7l C m sp dvs E ta t):=by
 intro pins s σ H Q I h
 refine W.methodCall_KW (pl:=pl) (thn (he pins s σ H _ I h) λ u s1 ⟨x,H1,I1,rx,a,dx,fs,ex,ea,l,q⟩=>?_) ht
 subst ex
 obtain rfl:u=Value.ref a:=rx
 refine z4p I1 ea c hm l ?_
 refine W.callWith_K (first:=[.ref a]) (h₀:=X.base) I.ok.mod.kin hm.kp (thn (ha pos pins s1 σ H1 _ I1 q) λ us s2 ⟨vs,H2,I2,r,q2⟩=>⟨I2.kIn,?_⟩) hst hpl
 exact y8m (us:=.ref a::us) (vs:=.ref a::vs) F hr hb hd hx I2 (.cons rfl r) q2
theorem x2t {pl:Sem Bool}(he:PE X o ta) (c:Cls X.K C) (hm:Meth X.K C m f) (F:FnOk X.prog X.w X.K X.mg X.base CX k f fd ps sp) (hr:Room k X.A) (hb:Binds X.K fd ps ds) (hd:Vals dvs ds) (hx:z3o CX X E)
  (ht:eval (.Call (.Attribute o m apos) [] [] pos) X.env=(do
   let ov ← eval o X.env
   standAt apos.atName
   let (f,first) ← holding [ov] (getMethod ov m pl)
   callWith pos f first (backTo pos (starEach [] X.env)) (backToKw pos (keywordEach [] X.env))):=by rfl) :
  PE X (.Call (.Attribute o m apos) [] [] pos) (y7l C m sp dvs E ta x9m):=by
 intro pins s σ H Q I h
 refine W.methodCall_KW (pl:=pl) (thn (he pins s σ H _ I h) λ u s1 ⟨x,H1,I1,rx,a,dx,fs,ex,ea,l,q⟩=>?_) ht
 subst ex
 obtain rfl:u=Value.ref a:=rx
 refine z4p I1 ea c hm l ?_
 exact W.callWith_K0 (first:=[.ref a]) I1.kIn hm.kp (y8m (us:=[.ref a]) (vs:=[.ref a]) F hr hb hd hx I1 (.cons rfl .nil) q)
structure Mk (K:W.Frag) (C f:Addr):Prop where
 makes:W.makesIn K C=true
 init:W.findIn K (.ref C) "__init__"=some (some (.ref f))
 fn:W.isFn K (.ref f)=true
 kp:W.keepIn K (.ref C)=true
theorem x2m {pins:List (Addr × Obj)}{σ:St}{H:Hp}{s:Shared}{Q:VK}{us:List Value}{vs:List V}(M:Mk X.K C f) (F:FnOk X.prog X.w X.K X.mg X.base CX k f fd ps sp) (hr:Room (k+1) X.A) (hb:Binds X.K fd ps ds) (hd:Vals dvs ds)
  (hx:z3o CX X E) (I:Inv X pins σ H s) (r:Vals vs us)
  (h:∀x dx,H x=none->H dx=none->dx≠x->sp (.ref x::(vs++dvs)) (upd (upd H dx (.own x)) x (.ins C dx [])) (λ v H2=>v=.non/\Q (.ref x) H2) E) :
  wpAny (model X.prog X.w) X.A (call (.ref C) us) (EP X pins σ Q) X.xe s:=by
 have hq:=h (s.heap.objs.size+1) s.heap.objs.size (I.hok.fresh (Nat.le_succ _)) (I.hok.fresh (Nat.le_refl _)) (Nat.ne_of_lt (Nat.lt_succ_self _))
 have I2:=Inv.made (C:=C) I
 have r2:Vals (V.ref (s.heap.objs.size+1)::(vs++dvs)) (Value.ref (s.heap.objs.size+1)::(us++ds)):=.cons rfl (r.append hd)
 have hl:(Value.ref (s.heap.objs.size+1)::us++ds).length=ps.length:=by
  have e:=r2.length
  rw [F.len _ _ _ _ hq] at e
  exact e.symm
 refine wpAny_call (y4l (f:=f) I.kIn M.makes M.init (beq_iff_eq.mp M.fn) (codeAny_mono (F.run _ X.stack _ _ ⟨Value.ref (s.heap.objs.size+1)::us,[]⟩ (Value.ref (s.heap.objs.size+1)::(us++ds)) _ _ E (hr.make C us [])
  (I2.env0.make C us []) (hb _ (Value.ref (s.heap.objs.size+1)::us) I2.kIn hl) r2 hq) λ r s' hq'=>?_))
 cases r with
 | error e=>exact hx pins σ _ _ e s' I2 hq'
 | ok fl =>
  cases fl with
  | ret u =>
   obtain ⟨v,H',I3,rv,ev,q3⟩:=I2.after hq'
   subst ev
   exact ⟨rv,⟨V.ref (s.heap.objs.size+1),H',I3,rfl,q3⟩⟩
  | next=>exact False.elim hq'
  | brk=>exact False.elim hq'
  | cont=>exact False.elim hq'
theorem x7c (M:Mk X.K C f) (F:FnOk X.prog X.w X.K X.mg X.base CX k f fd ps sp) (hr:Room (k+1) X.A) (hg:Gl X x) (hm:X.mg x=some (.ref C)) (hb:Binds X.K fd ps ds) (hd:Vals dvs ds) (hx:z3o CX X E)
  (ha:PA X (e::es) t) (hdb:(x == ("__debug__" : Str))=false:=by decide) (he:starEach (e::es) X.env=(false,eval e X.env)::starEach es X.env:=by rfl) (hpl:(backTo pos (starEach es X.env)).any (·.1)=false:=by rfl) :
  PE X (.Call (.Name x p) (e::es) [] pos) (x5x C sp dvs E t):=by
 intro pins s σ H Q I h
 refine wpAny_Call_Name_kw (z4i I hg hm ?_ hdb)
 refine W.callWith_K (h₀:=X.base) I.ok.mod.kin M.kp (thn (ha pos pins s σ H _ I h) λ us s1 ⟨vs,H1,I1,r,q⟩=>⟨I1.kIn,?_⟩) he hpl
 exact x2m M F hr hb hd hx I1 r q
end
section
variable {X:Cx}{CX:CXT}{k:Nat}{f C:Addr}{fd:FuncData}{ps ks:List Str}{sp:Sp}{E:XK}{x m:Str}{p pos apos kpos:Pos}{e o:Expr}{es:List Expr}{kws:List Keyword}{te ta:TE}{t tk:TA}{nm:Option Str}
structure KBinds (K:W.Frag) (fd:FuncData) (ps ks:List Str) (g:List Value->List Value->List Value) (gV:List V->List V->List V):Prop where
 to:∀(s:Shared) (us ws:List Value),K.In s.heap->(g us ws).length=ps.length->BindsTo s fd ⟨us,ks.zip ws⟩ (ps.zip (g us ws))
 rel:∀ {vs:List V}{us:List Value}{zs:List V}{ws:List Value},Vals vs us->Vals zs ws->Vals (gV vs zs) (g us ws)
variable {g:List Value->List Value->List Value}{gV:List V->List V->List V}
end
structure FnScope (N P:List Str) (sc:Scope):Prop where
 kind:sc.kind=.function
 co:sc.isCoroutine=false
 gen:sc.isGenerator=false
 nd:N.Nodup
 pre:N.take P.length=P
 par:∀x∈P,sc.names.lookup x=some .local\/sc.names.lookup x=some .cell
 nofree:∀y∈sc.names,y.2≠.free
theorem y1u {kindOf:Str->Option NameKind}{x:Str}:∀ {binds:List (Str × Value)}{m:Str->Option Value},(∀v,(x,v) ∉ binds)->bindL kindOf binds m x=m x
 | [],_,_=>rfl
 | (n,v)::r,m,h=>by
  unfold bindL
  rw [y1u λ w hw=>h w (List.mem_cons_of_mem _ hw)]
  split
  ·have:x≠n:=by rintro rfl;exact h v List.mem_cons_self
   simp [this]
  ·rfl
theorem y1w {kindOf:Str->Option NameKind}{x:Str}:∀ {binds:List (Str × Value)}{m:Str->Option Value},(∀v,(x,v) ∉ binds)->bindC kindOf binds m x=m x
 | [],_,_=>rfl
 | (n,v)::r,m,h=>by
  unfold bindC
  rw [y1w λ w hw=>h w (List.mem_cons_of_mem _ hw)]
  split
  ·rfl
  ·have:x≠n:=by rintro rfl;exact h v List.mem_cons_self
   simp [this]
theorem y1v {kindOf:Str->Option NameKind}{x:Str}{v:Value}:∀ {P:List Str}{vs:List Value}{i:Nat}{m:Str->Option Value},P.Nodup->P[i]?=some x->vs[i]?=some v->kindOf x=some .local ->
  bindL kindOf (P.zip vs) m x=some v
 | [],_,_,_,_,h,_,_=>by simp at h
 | _::_,[],_,_,_,_,h,_=>by simp at h
 | p::P,w::vs,0,m,nd,h1,h2,hk=>by
  simp at h1 h2;subst h1;subst h2
  show bindL kindOf ((p,w)::P.zip vs) m p=_
  unfold bindL
  rw [y1u λ v hv=>(List.nodup_cons.mp nd).1 (List.of_mem_zip hv).1,if_pos hk]
  simp
 | p::P,w::vs,i+1,m,nd,h1,h2,hk=>by
  show bindL kindOf ((p,w)::P.zip vs) m x=_
  unfold bindL
  exact y1v (i:=i) (List.nodup_cons.mp nd).2 (by simpa using h1) (by simpa using h2) hk
theorem y1x {kindOf:Str->Option NameKind}{x:Str}{v:Value}:∀ {P:List Str}{vs:List Value}{i:Nat}{m:Str->Option Value},P.Nodup->P[i]?=some x->vs[i]?=some v->kindOf x≠some .local ->
  bindC kindOf (P.zip vs) m x=some v
 | [],_,_,_,_,h,_,_=>by simp at h
 | _::_,[],_,_,_,_,h,_=>by simp at h
 | p::P,w::vs,0,m,nd,h1,h2,hk=>by
  simp at h1 h2;subst h1;subst h2
  show bindC kindOf ((p,w)::P.zip vs) m p=_
  unfold bindC
  rw [y1w λ v hv=>(List.nodup_cons.mp nd).1 (List.of_mem_zip hv).1,if_neg hk]
  simp
 | p::P,w::vs,i+1,m,nd,h1,h2,hk=>by
  show bindC kindOf ((p,w)::P.zip vs) m x=_
  unfold bindC
  exact y1x (i:=i) (List.nodup_cons.mp nd).2 (by simpa using h1) (by simpa using h2) hk
def start (N:List Str) (vs:List V):St:=vs.map some++List.replicate (N.length - vs.length) none
def y6n (CX:CXT) (P:Program) (w:World) (K:W.Frag) (mg:Str->Option Value) (base:Heap) (N:List Str) (qual:Str) (scope:Scope) (f:Addr) (cd:Value) (A:Around) (outer:List Env) (s:Shared) (H:Hp) (E:XK):Cx where
 prog:=P
 w:=w
 K:=K
 mg:=mg
 base:=base
 A:=A.deeper (envOfC qual scope s.heap.objs.size f cd)
 N:=N
 s₀:=s
 H₀:=H
 env:=envOfC qual scope s.heap.objs.size f cd
 outer:=outer
 stack:=envOfC qual scope s.heap.objs.size f cd::outer
 ex:=[]
 calm:=true
 fn:=λ _=>true
 pn:=[]
 xe:=λ e s'=>wpAny (model P w) (A.deeper (envOfC qual scope s.heap.objs.size f cd)) (leaving (envOfC qual scope s.heap.objs.size f cd) e) (λ _ s''=>CX outer H s E e s'') (λ e' s''=>CX outer H s E e' s'') s'
theorem y4t {sc:Scope}{n:Nat}{x:Str}(h:sc.names.lookup x=some .cell):∃c,(cellsFrom n sc.names []).lookup x=some c:=by
 have q:=W.cellsFrom_some sc.names n [] (.inl h)
 exact Option.isSome_iff_exists.mp q
theorem x0j {CX:CXT}{P:Program}{w:World}{K:W.Frag}{mg:Str->Option Value}{base:Heap}{N ps:List Str}{qual:Str}{scope:Scope}{f:Addr}{cd:Value}{A:Around}{outer:List Env}{s s1:Shared}{H:Hp}{E:XK}{us:List Value}{vs:List V}
  (S:FnScope N ps scope) (hd:A.handled=none) (e0:Env0 P w K mg base A outer s H) (hl:vs.length=ps.length) (r:Vals vs us)
  (x:InCallC s s.heap.objs.size (bindL (envOfC qual scope s.heap.objs.size f cd).kindOf (ps.zip us) λ _=>none) (cellsFrom (s.heap.objs.size+1) scope.names []) (bindC (envOfC qual scope s.heap.objs.size f cd).kindOf (ps.zip us) λ _=>none) s1) :
  Inv (y6n CX P w K mg base N qual scope f cd A outer s H E) [] (start N vs) H s1:=by
 have hpl:ps.length≤N.length:=by have:=congrArg List.length S.pre;rw [List.length_take] at this;lia
 obtain ⟨h1,tk,rfl,hk⟩:=x.done
 have noA:∀b:Addr,b ∉ (y6n CX P w K mg base N qual scope f cd A outer s H E).ex:=λ b z=>absurd (show b∈([]:List Addr) from z) (by simp)
 refine ⟨⟨e0.mod,S.kind,rfl,rfl,Nat.le_refl _,λ y z c h1 h2=>?_,λ y hy=>?_,λ y c _ h=>?_,λ _=>hd,Around.frames_deeper e0.frames,.inr ⟨rfl,rfl⟩,λ b z=>absurd z (noA b),e0.bs,e0.bsz,λ b _ _=>noA b,λ b z=>absurd z (noA b),e0.funs,e0.frf⟩,
  rfl,e0.bare,Un.kept hk,⟨_,x.toInCall.ns,λ i y v h1 h2 h3=>?_⟩,λ y c h=>⟨_,x.cell y c h⟩,e0.hok.fresh (Nat.le_refl _),λ y c h=>?_,λ p hp=>absurd (show p∈([]:List (Addr × Obj)) from hp) (by simp),e0.hok.kept hk,?_⟩
 ·exact name_of_addr x.apart (PySem.mem_of_lookup h1) (PySem.mem_of_lookup h2)
 ·have hy:scope.names.lookup y=some .cell\/scope.names.lookup y=some .free:=hy
  rcases hy with hy | hy
  ·exact y4t hy
  ·exact absurd rfl (S.nofree _ (PySem.mem_of_lookup hy))
 ·exact Nat.le_of_lt (x.above y c (PySem.mem_of_lookup h))
 ·have hi:i < vs.length:=by
   unfold start at h2
   by_cases hi:i < vs.length
   ·exact hi
   ·rw [List.getElem?_append_right (by simpa using hi)] at h2
    rw [List.getElem?_replicate] at h2
    split at h2<;>cases h2
  have ha:vs[i]?=some v:=by
   unfold start at h2
   rw [List.getElem?_append_left (by simpa using hi),List.getElem?_map] at h2
   cases e:vs[i]? with
   | none=>rw [e] at h2;cases h2
   | some a=>rw [e] at h2;cases h2;rfl
  obtain ⟨u,hu,rv⟩:=r.get ha
  have hp:ps[i]?=some y:=by
   rw [← S.pre,List.getElem?_take_of_lt (by lia)];exact h1
  have ndP:ps.Nodup:=by rw [← S.pre];exact S.nd.sublist (List.take_sublist _ _)
  refine ⟨u,rv,?_⟩
  rcases S.par y (List.mem_of_getElem? hp) with k | k
  ·exact .inl ⟨k,y1v ndP hp hu k⟩
  ·obtain ⟨c,e⟩:=y4t (n:=s.heap.objs.size+1) k
   refine .inr ⟨.inl k,c,e,?_⟩
   have q:=x.cell y c e
   rw [y1x ndP hp hu (by show scope.names.lookup y≠_;rw [k];decide)] at q
   exact q
 ·exact e0.hok.fresh (Nat.le_of_lt (x.above y c (PySem.mem_of_lookup h)))
 ·unfold start
  show _=N.length
  rw [List.length_append,List.length_map,List.length_replicate]
  lia
theorem x8f {CX:CXT}{P:Program}{w:World}{K:W.Frag}{mg:Str->Option Value}{base:Heap}{k:Nat}{f:Addr}{name qual:Str}{params:Arguments}{body:List Stmt}{scope:Scope}{dV kV doc pm cdv ct oc:Value}{an od:Option Addr}
  {osl:Array (Option Value)}{N ps:List Str}{sp:Sp}(lk:K.lookup f=some ⟨oc,od,.func (W.fnOf name qual params body scope dV kV doc pm an cdv ct),osl⟩) (hcd:W.codeIn K cdv qual=true) (S:FnScope N ps scope)
  (len:∀vs H Q E,sp vs H Q E->vs.length=ps.length)
  (hbody:∀(A:Around) (outer:List Env) (s:Shared) (H:Hp) (vs:List V) (Q:VK) (E:XK),Room k (A.deeper (envOfC qual scope s.heap.objs.size f cdv))->sp vs H Q E ->
   ∃t,PSs (y6n CX P w K mg base N qual scope f cdv A outer s H E) body t/\t { nx:=λ _ H'=>Q .non H',rt:=Q } (start N vs) H) :
  FnOk P w K mg base CX (k+1) f (W.fnOf name qual params body scope dV kV doc pm an cdv ct) ps sp:=by
 refine ⟨len,λ A outer s H args us vs Q E hr e0 hb r hsp=>?_⟩
 have hl:=len _ _ _ _ hsp
 have KX:K.In s.heap:=e0.mod.kin.keeps λ b o e=>(e0.bs b o e).1
 have lim:s.heap.NoLimit:=e0.mod.nolimit.keeps λ b o e=>(e0.bs b o e).1
 have hkind:∀y∈ps.zip us,scope.names.lookup y.1=some .local\/(scope.names.lookup y.1=some .cell/\((cellsFrom (s.heap.objs.size+1) scope.names []).lookup y.1).isSome=true):=λ ⟨n,v⟩ hy=>by
  rcases S.par n (List.of_mem_zip hy).1 with q | q
  ·exact .inl q
  ·exact .inr ⟨q,W.cellsFrom_some _ _ _ (.inl q)⟩
 refine codeAny_call_function hr.depth (KX _ _ lk) rfl S.co S.gen rfl (W.codeRec_of KX hcd) (hb _ _ _ _ ?_)
 refine wpAny_newFunctionEnv_cells S.kind hkind λ env he s1 x=>?_
 subst he
 refine ⟨lim.keeps x.toInCall.keep,codeAny_func ?_⟩
 obtain ⟨t,ht,hq⟩:=hbody A outer s H vs Q E (hr.deeper _) hsp
 have I:Inv (y6n CX P w K mg base N qual scope f cdv A outer s H E) [] (start N vs) H s1:=x0j S hr.hd e0 hl r x
 refine wpAny_mono (ht [] s1 (start N vs) H _ I hq) (λ fl s' hs=>?_) λ e s' hs=>hs
 have fin:∀ {σ':St}{H':Hp}{v:V}{u:Value},Inv (y6n CX P w K mg base N qual scope f cdv A outer s H E) [] σ' H' s'->RelV v u->Q v H'->CE outer P w H s Q u s' :=
  λ {σ' H' v u} J rv q=>⟨v,H',J.os,J.bare,J.base,J.hok,rv,q⟩
 cases fl with
 | ret u =>
  obtain ⟨v,σ',H',J,rv,q⟩:=hs
  exact fin J rv q
 | next =>
  obtain ⟨σ',H',J,q⟩:=hs
  exact fin (v:=V.non) (u:=Value.none) J rfl q
 | brk =>
  obtain ⟨_,_,_,q⟩:=hs
  exact False.elim q
 | cont =>
  obtain ⟨_,_,_,q⟩:=hs
  exact False.elim q
section
variable {X:Cx}{x:Str}{p pos:Pos}{e:Expr}{es:List Expr}{t:TA}{id T:String}{r:List V->Hp->VK->Prop}
def tCB (r:List V->Hp->VK->Prop) (t:TA):TE:=λ σ H Q=>t σ H λ vs H1=>r vs H1 Q
theorem z1b (hc:CallR X (.builtin id) r) (hg:Gl X x) (hm:X.mg x=none) (hv:bootBuiltins x=some (.builtin id)) (ha:PA X (e::es) t) (hn:x ≠ "__name__" := by decide) (hdb:(x == ("__debug__" : Str))=false:=by decide)
  (he:starEach (e::es) X.env=(false,eval e X.env)::starEach es X.env:=by rfl) (hpl:(backTo pos (starEach es X.env)).any (·.1)=false:=by rfl):PE X (.Call (.Name x p) (e::es) [] pos) (tCB r t):=by
 intro pins s σ H Q I h
 refine wpAny_Call_Name_kw (z4r I hg hm hv ?_ hn hdb)
 exact PyProof.Rows.callWith_builtin1 (thn (ha pos pins s σ H _ I h) λ us s1 ⟨vs,H1,I1,r1,q1⟩=>hc pins s1 σ H1 vs us Q I1 r1 q1) he hpl
theorem z1x (hc:CallR X (.type T) r) (hg:Gl X x) (hm:X.mg x=none) (hv:bootBuiltins x=some (.type T)) (ha:PA X (e::es) t) (hn:x ≠ "__name__" := by decide) (hdb:(x == ("__debug__" : Str))=false:=by decide)
  (he:starEach (e::es) X.env=(false,eval e X.env)::starEach es X.env:=by rfl) (hpl:(backTo pos (starEach es X.env)).any (·.1)=false:=by rfl):PE X (.Call (.Name x p) (e::es) [] pos) (tCB r t):=by
 intro pins s σ H Q I h
 refine wpAny_Call_Name_kw (z4r I hg hm hv ?_ hn hdb)
 exact PyProof.Rows.callWith_type1 (thn (ha pos pins s σ H _ I h) λ us s1 ⟨vs,H1,I1,r1,q1⟩=>hc pins s1 σ H1 vs us Q I1 r1 q1) he hpl
end
end L2
namespace HT
open PySem PyProof.Rows
section
open PySem.SeqAt
open PySem.AutoSeq1 (wpAny_loadPart')
open PySem.MeetsSeq PySem.MeetsSeq2 PySem.MeetsSeq3
end
section
variable {prog:Program}{w:World}{A:Around}{E:Value->Shared->Prop}{s:Shared}
theorem cat_tup {t b:Addr}{vs ws:List Value}{Q:Value->Shared->Prop}(ht:IsTup s.heap t vs.toArray) (hb:IsTup s.heap b ws.toArray) (hv:vs≠[])
  (h1:ws=[]->Q (.ref t) s) (h2:ws≠[]->Q (.ref s.heap.objs.size) { s with heap:=s.heap.push { cls:=.type "tuple",data:=.seq (vs++ws).toArray } })
  (hsz:vs.length+ws.length≤sizeLine):wpAny (model prog w) A (binaryOp .Add (.ref t) (.ref b)) Q E s:=by
 obtain ⟨⟨cls,dd,data,sl⟩,ho,hc,n,hd⟩:=id ht
 obtain ⟨⟨cls2,dd2,data2,sl2⟩,ho2,hc2,n2,hd2⟩:=id hb
 simp only at hc hd hc2 hd2
 subst hc hd hc2 hd2
 have e:vs.toArray++ws.toArray=(vs++ws).toArray:=by simp
 by_cases hw:ws=[]
 ·exact concat_meets ⟨_,ho,rfl⟩ ⟨_,ho2,rfl⟩ noFill_tuple_add seq_tuple_add PySem.F.slot_tuple_add PySem.F.entry_tuple_add (PySem.F.args_tuple_add_2 _ _)
   (tuple_addW1 t b vs.toArray ws.toArray n n2 dd dd2 sl sl2 (by simpa using hv) (by simp [hw])) ⟨ho,ho2,h1 hw⟩
 ·refine concat_meets ⟨_,ho,rfl⟩ ⟨_,ho2,rfl⟩ noFill_tuple_add seq_tuple_add PySem.F.slot_tuple_add PySem.F.entry_tuple_add (PySem.F.args_tuple_add_2 _ _)
   (tuple_addW2 t b vs.toArray ws.toArray n n2 dd dd2 sl sl2 (by simpa using hv) (by simpa using hw) (by rw [List.size_toArray,List.size_toArray];exact hsz)) ⟨ho,ho2,?_⟩
  rw [e]
  exact h2 hw
def sIx (n d:Nat):Option Int->Nat
 | none=>d
 | some v=>if v < 0 then (v+(n:Int)).toNat else min v.toNat n
theorem w0d (n d:Nat) (hd:d≤n) (o:Option Int):sIx n d o≤n:=by
 cases o with
 | none=>exact hd
 | some v =>
  show (if v < 0 then (v+(n:Int)).toNat else min v.toNat n)≤n
  by_cases hv:v < 0
  ·rw [if_pos hv];lia
  ·rw [if_neg hv];exact Nat.min_le_right _ _
theorem x1p (v:Int) (n d:Nat):(if v < 0 then max (v+(n:Int)) 0 else min v (n:Int))=((sIx n d (some v):Nat):Int):=by
 show (if v < 0 then max (v+(n:Int)) 0 else min v (n:Int))=(((if v < 0 then (v+(n:Int)).toNat else min v.toNat n):Nat):Int)
 by_cases hv:v < 0
 ·simp only [if_pos hv];lia
 ·simp only [if_neg hv];lia
theorem y6q (lo hi:Option Int) (n:Nat):Builtin.Slice.sliceAdjust lo hi 1 (n:Int)=(((sIx n 0 lo:Nat):Int),((sIx n n hi:Nat):Int)):=by
 have h1:¬((1:Int) < 0):=by lia
 unfold Builtin.Slice.sliceAdjust
 simp only [h1,if_false]
 refine Prod.ext ?_ ?_
 ·cases lo with
  | none=>rfl
  | some v=>exact x1p v n 0
 ·cases hi with
  | none=>rfl
  | some v=>exact x1p v n n
theorem y5r (i j:Nat):Builtin.Slice.slicePlaces (i:Int) (j:Int) 1=j - i:=by
 unfold Builtin.Slice.slicePlaces
 have h1:(1:Int) > 0:=by lia
 simp only [h1,if_true,Int.ediv_one]
 split<;>lia
theorem z8m {v:Value}{o:Option Int}{Q:Option Int->Shared->Prop}(p:IsPart v o) (h:Q o s):wpAny (model prog w) A (Builtin.Slice.slicePartIndex v) Q E s:=by
 cases p with
 | none=>exact slicePart_none h
 | int i t=>exact slicePart_int h
theorem z3y {sl:Addr}{vl vu:Value}{lo hi:Option Int}{n:Nat}{Q:Int × Int × Nat->Shared->Prop}(hs:s.heap.IsSliceOf sl vl vu .none) (pl:IsPart vl lo) (pu:IsPart vu hi)
  (h:Q (((sIx n 0 lo:Nat):Int),1,sIx n n hi - sIx n 0 lo) s):wpAny (model prog w) A (Builtin.Slice.sliceApplied (.ref sl) (pure (n:Int))) Q E s:=by
 obtain ⟨os,hos,hcs,hds⟩:=id hs
 unfold Builtin.Slice.sliceApplied Builtin.Slice.sliceFields
 refine wpAny_bind (wpAny_bind (wpAny_field hos hds (x:=vl) rfl (wpAny_bind (wpAny_field hos hds (x:=vu) rfl (wpAny_bind (wpAny_field hos hds (x:=.none) rfl (wpAny_pure ?_)))))))
 refine wpAny_bind (slicePart_none ?_)
 show wpAny _ _ (if ((1:Int) == 0)=true then _ else _) _ _ s
 rw [if_neg (by decide)]
 refine wpAny_bind (z8m pl (wpAny_bind (z8m pu (wpAny_bind (wpAny_pure ?_)))))
 show wpAny _ _ (match Builtin.Slice.sliceAdjust lo hi 1 (n:Int) with | (lo,hi)=>pure (lo,(1:Int),Builtin.Slice.slicePlaces lo hi 1)) _ _ s
 rw [y6q lo hi n]
 show wpAny _ _ (pure (((sIx n 0 lo:Nat):Int),(1:Int),Builtin.Slice.slicePlaces ((sIx n 0 lo:Nat):Int) ((sIx n n hi:Nat):Int) 1)) _ _ s
 rw [y5r]
 exact wpAny_pure h
theorem x2s (xs:Array Value) (i k:Nat):((List.range k).filterMap λ (m:Nat)=>xs[((i:Int)+(m:Int) * 1).toNat]?).toArray=((xs.toList.drop i).take k).toArray:=by
 have e:(λ (m:Nat)=>xs[((i:Int)+(m:Int) * 1).toNat]?)=λ m=>xs[i+m]?:=by
  funext m
  have:((i:Int)+(m:Int) * 1).toNat=i+m:=by lia
  rw [this]
 rw [e]
 have:=pick_run xs i k
 rw [List.filterMap_map] at this
 have e2:((λ x=>xs[x]?) ∘ λ x=>i+x)=λ m=>xs[i+m]?:=rfl
 rw [e2] at this
 rw [this]
theorem getItem_tuple_cut {t sl:Addr}{items:Array Value}{vl vu:Value}{lo hi:Option Int}{Q:Value->Shared->Prop}(ht:IsTup s.heap t items) (hs:s.heap.IsSliceOf sl vl vu .none) (pl:IsPart vl lo) (pu:IsPart vu hi)
  (hw:¬(sIx items.size 0 lo=0/\sIx items.size items.size hi=items.size))
  (h:Q (.ref s.heap.objs.size) { s with heap:=s.heap.push { cls:=.type "tuple",data:=.seq ((items.toList.drop (sIx items.size 0 lo)).take (sIx items.size items.size hi - sIx items.size 0 lo)).toArray } })
  (hsz:items.size≤sizeLine):wpAny (model prog w) A (getItem (.ref t) (.ref sl)) Q E s:=by
 have htake:sizeOk (.seq ((items.toList.drop (sIx items.size 0 lo)).take (sIx items.size items.size hi - sIx items.size 0 lo)).toArray):=by
  show ((items.toList.drop (sIx items.size 0 lo)).take (sIx items.size items.size hi - sIx items.size 0 lo)).toArray.size≤sizeLine
  rw [List.size_toArray,List.length_take,List.length_drop,Array.length_toList]
  lia
 have hj:sIx items.size items.size hi≤items.size:=w0d _ _ (Nat.le_refl _) hi
 obtain ⟨os,hos,hcs,hds⟩:=id hs
 have hTs:s.TypeIs (.ref sl) "slice" := ⟨os,hos,hcs⟩
 unfold getItem
 try with_reducible refine wpAny_holding ?_
 first | refine wpAny_bind (wpAny_pure ?_) | skip
 refine wpAny_bind (wpAny_sequenceKey ht.typeIs (by decide) ?_)
 refine wpAny_bind (wpAny_callSpecial?_slot (name:=Str.ofString "__getitem__") ht.typeIs PyProof.Rows.slot_tuple_getitem
  (wpAny_call_entry PyProof.Rows.slot_tuple_getitem ht.typeIs entry_tuple_getitem ?_ (args_tuple_getitem _ _)))
 show wpAny _ _ (Builtin.Tuple.tupleItemsOf (.ref t) >>= _) _ _ s
 refine wpAny_bind (tupleItemsOf_ ht ?_)
 refine wpAny_bind (wpAny_typeOf hTs ?_)
 rw [if_pos (by decide)]
 refine wpAny_bind (z3y hs pl pu ?_)
 have hno:¬((((sIx items.size 0 lo:Nat):Int) == 0 && (1:Int) == 1 && (sIx items.size items.size hi - sIx items.size 0 lo) == items.size)=true):=by
  intro q
  rw [Bool.and_eq_true,Bool.and_eq_true] at q
  have q1:((sIx items.size 0 lo:Nat):Int)=0:=eq_of_beq q.1.1
  have q2:sIx items.size items.size hi - sIx items.size 0 lo=items.size:=eq_of_beq q.2
  exact hw ⟨by lia,by lia⟩
 show wpAny _ _ (if (((sIx items.size 0 lo:Nat):Int) == 0 && (1:Int) == 1 && (sIx items.size items.size hi - sIx items.size 0 lo) == items.size)=true then _ else _) _ _ s
 rw [if_neg hno,x2s]
 first
  | exact wpAny_bind (m:=Builtin.Tuple.tupleExact _) (wpAny_newObj_type (wpAny_pure ⟨_,rfl,wpAny_pure h⟩) htake)
  | exact wpAny_bind (m:=Builtin.Tuple.tupleExact _) (wpAny_newObj_type (wpAny_bind (wpAny_pure (wpAny_pure ⟨_,rfl,wpAny_pure h⟩))) htake)
  | exact wpAny_bind (wpAny_bind (m:=Builtin.Tuple.tupleExact _) (wpAny_newObj_type (wpAny_pure (wpAny_pure ⟨_,rfl,wpAny_pure h⟩)) htake))
  | exact wpAny_bind (wpAny_bind (m:=Builtin.Tuple.tupleExact _) (wpAny_newObj_type (wpAny_pure ⟨_,rfl,wpAny_pure h⟩) htake))
end
end HT
namespace L2
open PySem PySem.Spec PyProof.Rows
abbrev TO:=St->Hp->(Option Int->Hp->Prop)->Prop
def PO (X:Cx) (e:Option Expr) (t:TO):Prop :=
 ∀(pins:List (Addr × Obj)) (s:Shared) (σ:St) (H:Hp) (Q:Option Int->Hp->Prop),Inv X pins σ H s->t σ H Q ->
  wpAny (model X.prog X.w) X.A (evalPart e X.env) (λ u s'=>∃o H',Inv X pins σ H' s'/\IsPart u o/\Q o H') X.xe s
def y7j:TO:=λ _ H Q=>Q none H
def x9l (t:TE):TO:=λ σ H Q=>t σ H λ x H1=>∃i,x=.int i/\Q (some i) H1
theorem z8q {ns:List Int}:∀ {us:List Value},Vals (ns.map V.int) us->IntsAre us ns:=by
 induction ns with
 | nil=>intro us r;rw [List.map_nil] at r;cases r;exact .nil
 | cons n ns ih =>
  intro us r
  rw [List.map_cons] at r
  cases r with
  | cons r1 r2 =>
   obtain ⟨t,e⟩:=r1
   subst e
   exact .cons n t (ih r2)
section
variable {X:Cx}{e:Expr}{te:TE}{lo hi:Option Expr}{tl th:TO}{pos p2:Pos}
theorem z3b:PO X none y7j:=by
 intro pins s σ H Q I h
 rw [evalPart_none]
 exact wpAny_pure ⟨none,H,I,.none,h⟩
theorem z3a (h:PE X e te):PO X (some e) (x9l te):=by
 intro pins s σ H Q I hw
 rw [evalPart_some]
 refine thn (h pins s σ H _ I hw) λ u s1 ⟨x,H1,I1,r1,q1⟩=>?_
 obtain ⟨i,rfl,q⟩:=q1
 obtain ⟨t,rfl⟩:=r1
 exact ⟨some i,H1,I1,.int i t,q⟩
def SlR (X:Cx) (r:V->Option Int->Option Int->Hp->VK->Prop):Prop :=
 ∀(pins:List (Addr × Obj)) (s:Shared) (σ:St) (H:Hp) (x:V) (v vl vu:Value) (lo hi:Option Int) (sl:Addr) (Q:VK),Inv X pins σ H s->RelV x v->s.heap.IsSliceOf sl vl vu .none->IsPart vl lo->IsPart vu hi->r x lo hi H Q ->
  ∃T id,typeLookup (.type T) "__getitem__"=pure (some (.builtin id))/\s.TypeIs v T/\wpAny (model X.prog X.w) X.A (getItem v (.ref sl)) (EP X pins σ Q) X.xe s
theorem SlR.or {r r':V->Option Int->Option Int->Hp->VK->Prop}(h:SlR X r) (h':SlR X r'):SlR X (λ x lo hi H Q=>r x lo hi H Q\/r' x lo hi H Q):=by
 intro pins s σ H x v vl vu lo hi sl Q I rx hs pl pu q
 rcases q with q | q
 ·exact h pins s σ H x v vl vu lo hi sl Q I rx hs pl pu q
 ·exact h' pins s σ H x v vl vu lo hi sl Q I rx hs pl pu q
def tSl (r:V->Option Int->Option Int->Hp->VK->Prop) (te:TE) (tl th:TO):TE:=λ σ H Q=>te σ H λ x H1=>tl σ H1 λ l H2=>th σ H2 λ u H3=>r x l u H3 Q
theorem z2j {r:V->Option Int->Option Int->Hp->VK->Prop}(hr:SlR X r) (he:PE X e te) (hl:PO X lo tl) (hu:PO X hi th):PE X (.Subscript e (.Slice lo hi none p2) pos) (tSl r te tl th):=by
 intro pins s σ H Q I h
 refine Subscript_ (thn (he pins s σ H _ I h) λ v s1 ⟨x,H1,I1,r1,q1⟩=>?_)
 refine wpAny_Slice (thn (hl pins s1 σ H1 _ I1 q1) λ vl s2 ⟨l,H2,I2,pl,q2⟩=>thn (hu pins s2 σ H2 _ I2 q2) λ vu s3 ⟨u,H3,I3,pu,q3⟩=>?_)
 rw [evalPart_none]
 refine wpAny_pure ?_
 have I4:Inv X pins σ H3 { s3 with heap:=s3.heap.push { cls:=.type "slice",data:=.fields #[vl,vu,.none] } }:=I3.kept (t':=s3.toks) λ b ob q=>Heap.get?_push_of_some _ q
 obtain ⟨T,id,hT,ht,hg⟩:=hr pins { s3 with heap:=s3.heap.push { cls:=.type "slice",data:=.fields #[vl,vu,.none] } } σ H3 x v vl vu l u s3.heap.objs.size Q I4 r1 (Heap.IsSliceOf.new ..) pl pu q3
 show wpAny (model X.prog X.w) X.A (subscriptTail e (.Slice lo hi none p2) v (.ref s3.heap.objs.size)) (EP X pins σ Q) X.xe { s3 with heap:=s3.heap.push { cls:=.type "slice",data:=.fields #[vl,vu,.none] } }
 exact tail_any (ops:=[.ref s3.heap.objs.size,v]) ht hT hg (by with_unfolding_all rfl)
def y3p (xs:List V) (lo hi:Option Int):List V:=(xs.drop (HT.sIx xs.length 0 lo)).take (HT.sIx xs.length xs.length hi - HT.sIx xs.length 0 lo)
theorem y3o (xs:List V) (lo hi:Option Int):(y3p xs lo hi).length≤xs.length:=by
 unfold y3p
 rw [List.length_take,List.length_drop]
 lia
def w6x (K:W.Frag):V->Option Int->Option Int->Hp->VK->Prop:=λ x lo hi H Q=>∃a xs,x=.ref a/\SqT K H a xs /\
 ¬(HT.sIx xs.length 0 lo=0/\HT.sIx xs.length xs.length hi=xs.length)/\∀p,H p=none->Q (.ref p) (upd H p (.tup (y3p xs lo hi)))
theorem x9y:SlR X (w6x X.K):=by
 intro pins s σ H x v vl vu lo hi sl Q I rx hs pl pu h
 obtain ⟨a,xs,rfl,hx,hw,q⟩:=h
 cases rx
 obtain ⟨its,r,ht,hz⟩:=I.tuple hx
 have hlen:its.toArray.size=xs.length:=by rw [List.size_toArray];exact r.length.symm
 refine ⟨"tuple",_,PyProof.Rows.slot_tuple_getitem.lookup,ht.typeIs,?_⟩
 refine HT.getItem_tuple_cut ht hs pl pu (by rw [hlen];exact hw) ?_ (by rw [hlen];exact hz)
 rw [hlen]
 refine ⟨.ref s.heap.objs.size,_,I.laid (t':=s.toks) (o:=.tup (y3p xs lo hi)) (λ b ob q=>Heap.get?_push_of_some _ q) (Nat.le_refl _) ?_,rfl,q _ (I.hok.fresh (Nat.le_refl _))⟩
 exact ⟨Nat.le_trans (y3o xs lo hi) hz,_,(r.drop (HT.sIx xs.length 0 lo)).take (HT.sIx xs.length xs.length hi - HT.sIx xs.length 0 lo),IsTup.new _ _⟩
def w3x (K:W.Frag):R2:=λ x y H Q=>∃a b xs ys,x=.ref a/\y=.ref b/\SqT K H a xs/\SqT K H b ys/\xs≠[]/\xs.length+ys.length≤sizeLine /\
 (ys=[]->Q (.ref a) H)/\(ys≠[]->∀p,H p=none->Q (.ref p) (upd H p (.tup (xs++ys))))
theorem Vals.nil_iff {xs:List V}{us:List Value}(r:Vals xs us):us=[] ↔ xs=[]:=by
 cases r with
 | nil=>simp
 | cons _ _=>simp
theorem x7k:OpR X (binaryOp .Add) (w3x X.K):=by
 intro pins s σ H x y v u Q I rx ry h
 obtain ⟨a,b,xs,ys,rfl,rfl,ha,hb,hx,hz,q1,q2⟩:=h
 cases rx
 cases ry
 obtain ⟨its,r1,p1,_⟩:=I.tuple ha
 obtain ⟨its2,r2,p2,_⟩:=I.tuple hb
 refine HT.cat_tup p1 p2 (λ z=>hx (r1.nil_iff.mp z)) (λ z=>⟨.ref a,H,I,rfl,q1 (r2.nil_iff.mp z)⟩) (λ z=>?_) (by rw [← r1.length,← r2.length];exact hz)
 refine ⟨.ref s.heap.objs.size,_,I.laid (t':=s.toks) (o:=.tup (xs++ys)) (λ b ob q=>Heap.get?_push_of_some _ q) (Nat.le_refl _) ?_,rfl,q2 (λ w=>z (r2.nil_iff.mpr w)) _ (I.hok.fresh (Nat.le_refl _))⟩
 exact ⟨by rw [List.length_append];exact hz,_,r1.append r2,IsTup.new _ _⟩
end
def ixN (n:Nat) (i:Int):Option Nat:=if 0≤i then (if i < n then some i.toNat else none) else if -(n:Int)≤i then some (i+n).toNat else none
def atI {α:Type}(xs:List α) (i:Int):Option α:=(ixN xs.length i).bind λ j=>xs[j]?
theorem x0h {n:Nat}{i:Int}{j:Nat}(h:ixN n i=some j):seqIndex? i n=some j/\j < n/\-(n:Int)≤i/\i < n:=by
 unfold ixN at h
 by_cases h0:0≤i
 ·rw [if_pos h0] at h
  by_cases h1:i < n
  ·rw [if_pos h1] at h
   have e:i.toNat=j:=Option.some.inj h
   exact ⟨by rw [seqIndex_of h0 h1,e],by lia,by lia,h1⟩
  ·rw [if_neg h1] at h;cases h
 ·rw [if_neg h0] at h
  by_cases h1:-(n:Int)≤i
  ·rw [if_pos h1] at h
   have e:(i+n).toNat=j:=Option.some.inj h
   exact ⟨by rw [seqIndex_neg (by lia) h1,e],by lia,h1,by lia⟩
  ·rw [if_neg h1] at h;cases h
theorem x1u {α:Type}{xs:List α}{i:Int}{v:α}(h:atI xs i=some v):∃j,seqIndex? i xs.length=some j/\xs[j]?=some v/\j < xs.length/\-(xs.length:Int)≤i/\i < xs.length:=by
 unfold atI at h
 cases e:ixN xs.length i with
 | none=>rw [e] at h;cases h
 | some j =>
  rw [e] at h
  obtain ⟨h1,h2,h3,h4⟩:=x0h e
  exact ⟨j,h1,h,h2,h3,h4⟩
theorem z0i {α:Type}{xs:List α}{j:Nat}{v:α}(h:xs[j]?=some v):atI xs (j:Int)=some v:=by
 have hj:j < xs.length:=(List.getElem?_eq_some_iff.mp h).1
 have e:ixN xs.length (j:Int)=some j:=by
  unfold ixN
  rw [if_pos (by lia),if_pos (by lia)];simp
 unfold atI;rw [e];exact h
def x8u (b:Expr):Prop:=∀o i,subscripted b false o i=operate [o,i] (getItem o i)
def IxR (X:Cx) (r:R2):Prop :=
 ∀(value slice:Expr) (pins:List (Addr × Obj)) (s:Shared) (σ:St) (H:Hp) (x y:V) (v u:Value) (Q:VK),Inv X pins σ H s->RelV x v->RelV y u->r x y H Q ->
  subscripted slice false v u=operate [v,u] (getItem v u)->wpAny (model X.prog X.w) X.A (subscriptTail value slice v u) (EP X pins σ Q) X.xe s
def MtR (X:Cx) (id:String) (r:V->List V->Hp->VK->Prop):Prop :=
 ∀(pins:List (Addr × Obj)) (s:Shared) (σ:St) (H:Hp) (x:V) (xs:List V) (v:Value) (us:List Value) (Q:VK),Inv X pins σ H s->RelV x v->Vals xs us->r x xs H Q ->
  wpAny (model X.prog X.w) X.A (call (.builtin id) (v::us)) (EP X pins σ Q) X.xe s
section
variable {X:Cx}{a b:Expr}{ta tb:TE}{pos:Pos}
theorem IxR.or {r r':R2}(h:IxR X r) (h':IxR X r'):IxR X (λ x y H Q=>r x y H Q\/r' x y H Q):=by
 intro value slice pins s σ H x y v u Q I rx ry q hs
 rcases q with q | q
 ·exact h value slice pins s σ H x y v u Q I rx ry q hs
 ·exact h' value slice pins s σ H x y v u Q I rx ry q hs
theorem MtR.or {id:String}{r r':V->List V->Hp->VK->Prop}(h:MtR X id r) (h':MtR X id r'):MtR X id (λ x xs H Q=>r x xs H Q\/r' x xs H Q):=by
 intro pins s σ H x xs v us Q I rx rs q
 rcases q with q | q
 ·exact h pins s σ H x xs v us Q I rx rs q
 ·exact h' pins s σ H x xs v us Q I rx rs q
theorem z0r {r:R2}(hr:IxR X r) (ha:PE X a ta) (hb:PE X b tb) (hs:x8u b):PE X (.Subscript a b pos) (tOp r ta tb):=by
 intro pins s σ H Q I h
 exact Subscript_ (w4s ha hb I h λ v u s2 x y H2 I2 rx ry q=>hr a b pins s2 σ H2 x y v u Q I2 rx ry q (hs _ _))
def w5q (K:W.Frag):R2:=λ x y H Q=>∃p xs i v,x=.ref p/\y=.int i/\SqL K H p xs/\atI xs i=some v/\Q v H
def w5p (K:W.Frag):R2:=λ x y H Q=>∃p xs i v,x=.ref p/\y=.int i/\SqT K H p xs/\atI xs i=some v/\Q v H
theorem y3f:IxR X (w5q X.K):=by
 intro value slice pins s σ H x y v u Q I rx ry h hs
 obtain ⟨p,xs,i,z,rfl,rfl,hq,he,q⟩:=h
 cases rx
 obtain ⟨t,rfl⟩:=ry
 obtain ⟨its,r,pl,hz⟩:=I.list hq
 obtain ⟨j,h1,h2,h3,h4,h5⟩:=x1u he
 obtain ⟨w,ew,rw'⟩:=r.get h2
 have hl:=r.length
 have hn:=y4m
 have fin:EP X pins σ Q w s:=⟨z,H,I,rw',q⟩
 by_cases h0:0≤i
 ·have hj:i.toNat=j:=by
   rw [seqIndex_of h0 h5] at h1
   exact Option.some.inj h1
  exact item_listR pl.isList h0 (by lia) (by rw [hj];simpa using ew) fin hs
 ·have hj:(i+(its.toArray.size:Int)).toNat=j:=by
   rw [seqIndex_neg (by lia) h4] at h1
   rw [List.size_toArray,← hl]
   exact Option.some.inj h1
  exact subscriptTail_builtinR (x:=w) pl.isList.typeIs slot_list_getitem.lookup
   (wpAny_getItem_list_neg (Q:=λ r s'=>r=w/\EP X pins σ Q r s') pl.isList (by lia) (by rw [List.size_toArray]<;>lia) (by lia) (by rw [hj];simpa using ew) ⟨rfl,fin⟩) hs
theorem w1q:IxR X (w5p X.K):=by
 intro value slice pins s σ H x y v u Q I rx ry h hs
 obtain ⟨p,xs,i,z,rfl,rfl,hq,he,q⟩:=h
 cases rx
 obtain ⟨t,rfl⟩:=ry
 obtain ⟨its,r,pl,hz⟩:=I.tuple hq
 obtain ⟨j,h1,h2,h3,h4,h5⟩:=x1u he
 obtain ⟨w,ew,rw'⟩:=r.get h2
 have hl:=r.length
 have hn:=y4m
 have fin:EP X pins σ Q w s:=⟨z,H,I,rw',q⟩
 exact subscriptTail_builtinR (x:=w) pl.typeIs slot_tuple_getitem.lookup
  (getItem_tuple (j:=j) (Q:=λ r s'=>r=w/\EP X pins σ Q r s') pl (by lia) (by lia) (by rw [List.size_toArray,← hl];exact h1) (by simpa using ew) ⟨rfl,fin⟩) hs
theorem y6g (its:List Value) (n j:Nat) (u:Value):Obj.mapSeq (·.setIfInBounds j u) { cls:=.type "list",data:=.seq its.toArray n }={ cls:=.type "list",data:=.seq (its.set j u).toArray n }:=by
 simp [Obj.mapSeq]
theorem Inv.lst {pins:List (Addr × Obj)}{σ:St}{H:Hp}{s:Shared}{p:Addr}{xs:List V}(I:Inv X pins σ H s) (h:H p=some (.lst xs)) :
  ∃(its:List Value) (n:Nat),Vals xs its/\s.heap.get? p=some { cls:=.type "list",data:=.seq its.toArray n }/\xs.length≤sizeLine:=by
 obtain ⟨z,its,n,r,e⟩:=I.hok p _ h
 exact ⟨its,n,r,e,z⟩
theorem Inv.lstUpd {pins:List (Addr × Obj)}{σ:St}{H:Hp}{s:Shared}{p:Addr}{xs ys:List V}{its its':List Value}{n n':Nat}{f:Obj->Obj}(I:Inv X pins σ H s) (h:H p=some (.lst xs))
  (ho:s.heap.get? p=some { cls:=.type "list",data:=.seq its.toArray n }) (hf:f { cls:=.type "list",data:=.seq its.toArray n }={ cls:=.type "list",data:=.seq its'.toArray n' }) (r:Vals ys its') (hz:ys.length≤sizeLine) (t:Nat) :
  Inv X pins σ (upd H p (.lst ys)) { s with heap:=s.heap.update p f,toks:=t }:=by
 have e:(s.heap.update p f).get? p=some { cls:=.type "list",data:=.seq its'.toArray n' }:=by
  rw [Heap.get?_update_self f ho (by rw [hf]<;>rfl),hf]
 refine I.write (x:=p) (e:=p) (by rw [h];trivial) (.inl rfl) (λ b u hb q=>(Heap.get?_update_other _ _ (Ne.symm hb)).trans q) ⟨_,e⟩ ?_
 exact ⟨hz,its',n',r,e⟩
def w0o:V->V->V->Hp->(Hp->Prop)->Prop:=λ o i v H Q=>∃p xs k j,o=.ref p/\i=.int k/\H p=some (.lst xs)/\ixN xs.length k=some j/\Q (upd H p (.lst (xs.set j v)))
theorem z9p:w6f X w0o:=by
 intro pins s σ H o i v ov iv u Q I ro ri rv h
 obtain ⟨p,xs,k,j,rfl,rfl,hp,hj,q⟩:=h
 cases ro
 obtain ⟨t,rfl⟩:=ri
 obtain ⟨its,n,r,ho,hz⟩:=I.lst hp
 obtain ⟨h1,h2,h3,h4⟩:=x0h hj
 have hl:=r.length
 have hn:=y4m
 have I':Inv X pins σ (upd H p (.lst (xs.set j v))) { s with heap:=s.heap.update p (Obj.mapSeq (·.setIfInBounds j u)) } :=
  I.lstUpd hp ho (y6g its n j u) (r.set rv j) (by rw [List.length_set];exact hz) s.toks
 by_cases h0:0≤k
 ·have hk:k.toNat=j:=by
   rw [seqIndex_of h0 h4] at h1
   exact Option.some.inj h1
  exact W.ki_setAt ho h0 (by lia) (by rw [List.size_toArray,← hl];exact h4) (by rw [hk];exact ⟨_,I',q⟩)
 ·have hk:(k+(its.toArray.size:Int)).toNat=j:=by
   rw [seqIndex_neg (by lia) h3] at h1
   rw [List.size_toArray,← hl]
   exact Option.some.inj h1
  exact W.ki_setBack ho (by lia) (by rw [List.size_toArray,← hl];exact h3) (by lia) (by rw [hk];exact ⟨_,I',q⟩)
def z1r:V->Bool
 | .non=>true
 | .bl _=>true
 | .int _=>true
 | .str _=>true
 | _=>false
def eqV:V->V->Bool
 | .non,.non=>true
 | .bl a,.bl b=>a == b
 | .bl a,.int b=>(if a then 1 else 0) == b
 | .int a,.bl b=>a == (if b then 1 else 0)
 | .int a,.int b=>a == b
 | .str a,.str b=>a == b
 | _,_=>false
theorem y4p {A:Around}{s:Shared}{y x:V}{u v:Value}(ry:RelV y u) (rx:RelV x v) (fy:z1r y=true) (fx:z1r x=true):SeqAt.EqAt A s u v (eqV y x):=by
 cases y with
 | non =>
  cases ry
  cases x with
  | non=>cases rx;exact SeqAt.EqAt.same _
  | bl b=>cases rx;exact SeqAt.EqAt.none_bool b
  | int b=>obtain ⟨t,rfl⟩:=rx;exact SeqAt.EqAt.none_int b t
  | str b=>obtain ⟨t,rfl⟩:=rx;exact SeqAt.EqAt.none_str b t
  | _=>exact absurd (show false=true from fx) Bool.false_ne_true
 | bl a =>
  cases ry
  cases x with
  | non=>cases rx;exact SeqAt.EqAt.bool_none a
  | bl b=>cases rx;exact SeqAt.EqAt.bool_bool a b
  | int b=>obtain ⟨t,rfl⟩:=rx;exact SeqAt.EqAt.bool_int a b t
  | str b=>obtain ⟨t,rfl⟩:=rx;exact SeqAt.EqAt.bool_str a b t
  | _=>exact absurd (show false=true from fx) Bool.false_ne_true
 | int a =>
  obtain ⟨t',rfl⟩:=ry
  cases x with
  | non=>cases rx;exact SeqAt.EqAt.int_none a t'
  | bl b=>cases rx;exact SeqAt.EqAt.int_bool a t' b
  | int b=>obtain ⟨t,rfl⟩:=rx;exact SeqAt.EqAt.int_int a t' b t
  | str b=>obtain ⟨t,rfl⟩:=rx;exact SeqAt.EqAt.int_str a t' b t
  | _=>exact absurd (show false=true from fx) Bool.false_ne_true
 | str a =>
  obtain ⟨t',rfl⟩:=ry
  cases x with
  | non=>cases rx;exact SeqAt.EqAt.str_none a t'
  | bl b=>cases rx;exact SeqAt.EqAt.str_bool a t' b
  | int b=>obtain ⟨t,rfl⟩:=rx;exact SeqAt.EqAt.str_int a t' b t
  | str b=>obtain ⟨t,rfl⟩:=rx;exact SeqAt.EqAt.str_str a t' b t
  | _=>exact absurd (show false=true from fx) Bool.false_ne_true
 | _=>exact absurd (show false=true from fy) Bool.false_ne_true
def eqU (x:V) (u:Value):Bool:=match u with
 | .none=>eqV .non x
 | .bool b=>eqV (.bl b) x
 | .int i _=>eqV (.int i) x
 | .str z _=>eqV (.str z) x
 | _=>false
theorem x0q {x y:V}{u:Value}(r:RelV y u) (f:z1r y=true):eqU x u=eqV y x:=by
 cases y with
 | non=>cases r;rfl
 | bl b=>cases r;rfl
 | int i=>obtain ⟨t,rfl⟩:=r;rfl
 | str z=>obtain ⟨t,rfl⟩:=r;rfl
 | _=>exact absurd (show false=true from f) Bool.false_ne_true
theorem z8b {x:V}:∀ {xs:List V}{us:List Value},Vals xs us->xs.all z1r=true->us.any (eqU x)=xs.any λ y=>eqV y x
 | _,_,.nil,_=>rfl
 | y::xs,u::us,.cons r t,f=>by
  rw [List.all_cons,Bool.and_eq_true] at f
  rw [List.any_cons,List.any_cons,x0q r f.1,z8b t f.2]
theorem z4n {A:Around}{s:Shared}{x:V}{v:Value}(rx:RelV x v) (fx:z1r x=true):∀ {xs:List V}{us:List Value},Vals xs us->xs.all z1r=true->∀u∈us,SeqAt.EqAt A s u v (eqU x u)
 | _,_,.nil,_=>λ u hu=>by cases hu
 | y::xs,u::us,.cons r t,f=>λ u' hu=>by
  rw [List.all_cons,Bool.and_eq_true] at f
  rcases List.mem_cons.mp hu with rfl | hu
  ·rw [x0q r f.1];exact y4p r rx f.1 fx
  ·exact z4n rx fx t f.2 u' hu
def inV (x:V) (xs:List V):Bool:=xs.any λ y=>eqV y x
def rIn (K:W.Frag) (neg:Bool):R2:=λ x y H Q=>∃p xs,y=.ref p/\(SqL K H p xs\/SqT K H p xs)/\z1r x=true/\xs.all z1r=true/\Q (.bl (if neg then !inV x xs else inV x xs)) H
theorem y9l:OpR X (compareOp .In) (rIn X.K false):=by
 intro pins s σ H x y v u Q I rx ry h
 obtain ⟨p,xs,rfl,hq,fx,fs,q⟩:=h
 cases ry
 rcases hq with hq | hq
 ·obtain ⟨its,r,pl,hz⟩:=I.list hq
  refine SeqAt.in_listAt (eqU x) pl.isList (λ w hw=>z4n rx fx r fs w (by simpa using hw)) ⟨.bl _,H,I,rfl,?_⟩
  rw [show its.toArray.any (eqU x)=its.any (eqU x) by simp,z8b r fs]
  exact q
 ·obtain ⟨its,r,pl,hz⟩:=I.tuple hq
  refine SeqAt.in_tupleAt (eqU x) pl (λ w hw=>z4n rx fx r fs w (by simpa using hw)) ⟨.bl _,H,I,rfl,?_⟩
  rw [show its.toArray.any (eqU x)=its.any (eqU x) by simp,z8b r fs]
  exact q
theorem y1b:OpR X (compareOp .NotIn) (rIn X.K true):=by
 intro pins s σ H x y v u Q I rx ry h
 obtain ⟨p,xs,rfl,hq,fx,fs,q⟩:=h
 cases ry
 rcases hq with hq | hq
 ·obtain ⟨its,r,pl,hz⟩:=I.list hq
  refine SeqAt.notIn_listAt (eqU x) pl.isList (λ w hw=>z4n rx fx r fs w (by simpa using hw)) ⟨.bl _,H,I,rfl,?_⟩
  rw [show its.toArray.any (eqU x)=its.any (eqU x) by simp,z8b r fs]
  exact q
 ·obtain ⟨its,r,pl,hz⟩:=I.tuple hq
  refine SeqAt.notIn_tupleAt (eqU x) pl (λ w hw=>z4n rx fx r fs w (by simpa using hw)) ⟨.bl _,H,I,rfl,?_⟩
  rw [show its.toArray.any (eqU x)=its.any (eqU x) by simp,z8b r fs]
  exact q
theorem z0v:CallR X (.builtin "len") (λ xs H Q=>∃p ys,xs=[.ref p]/\(SqL X.K H p ys\/SqT X.K H p ys)/\Q (.int ys.length) H):=by
 intro pins s σ H xs us Q I r h
 obtain ⟨p,ys,rfl,hq,q⟩:=h
 obtain ⟨u,rfl,rx⟩:=z5f r
 cases rx
 have hn:=y4m
 rcases hq with hq | hq
 ·obtain ⟨its,r',pl,hz⟩:=I.list hq
  have hlen:=r'.length
  exact Calls.call_len_list pl.isList (by simp only [List.size_toArray]<;>lia) ⟨.int ys.length,H,I.tok _,⟨s.toks+1,by rw [List.size_toArray,hlen]⟩,q⟩
 ·obtain ⟨its,r',pl,hz⟩:=I.tuple hq
  have hlen:=r'.length
  exact len_tuple pl (by simp only [List.size_toArray]<;>lia) ⟨.int ys.length,H,I.tok _,⟨s.toks+1,by rw [List.size_toArray,hlen]⟩,q⟩
theorem CallR.or {f:Value}{r r':List V->Hp->VK->Prop}(h:CallR X f r) (h':CallR X f r'):CallR X f (λ xs H Q=>r xs H Q\/r' xs H Q):=by
 intro pins s σ H xs us Q I rs q
 rcases q with q | q
 ·exact h pins s σ H xs us Q I rs q
 ·exact h' pins s σ H xs us Q I rs q
theorem z4l:CallR X (.type "list") (λ xs H Q=>∃p ys,xs=[.ref p]/\(SqL X.K H p ys\/SqT X.K H p ys)/\∀l,H l=none->Q (.ref l) (upd H l (.lst ys))):=by
 intro pins s σ H xs us Q I r h
 obtain ⟨p,ys,rfl,hq,q⟩:=h
 obtain ⟨u,rfl,rx⟩:=z5f r
 cases rx
 have fin:∀(its:List Value),Vals ys its->ys.length≤sizeLine->∀(h':Heap) (c':Nat),(∀b o',s.heap.get? b=some o'->h'.get? b=some o') ->
   h'.get? s.heap.objs.size=some { cls:=.type "list",dict:=none,data:=.seq its.toArray c',slots:=#[] }->EP X pins σ Q (.ref s.heap.objs.size) { s with heap:=h' }:=λ its r' hz h' c' kp e =>
  ⟨.ref s.heap.objs.size,_,I.laid (t':=s.toks) kp (Nat.le_refl _) (show ObjOk X.prog X.w _ h' _ (.lst ys) from ⟨hz,its,c',r',e⟩),rfl,q _ (I.hok.fresh (Nat.le_refl _))⟩
 rcases hq with hq | hq
 ·obtain ⟨its,r',pl,hz⟩:=I.list hq
  have hlen:=r'.length
  obtain ⟨o,ho,hc,n,hd⟩:=pl.isList
  exact call_list_seq p (.inl rfl) ho hc hd (λ h' c' kp e=>fin its r' hz h' c' kp e) (by simp only [List.size_toArray]<;>lia)
 ·obtain ⟨its,r',pl,hz⟩:=I.tuple hq
  have hlen:=r'.length
  obtain ⟨o,ho,hc,n,hd⟩:=pl
  exact call_list_seq p (.inr rfl) ho hc hd (λ h' c' kp e=>fin its r' hz h' c' kp e) (by simp only [List.size_toArray]<;>lia)
theorem z2q:CallR X (.type "tuple") (λ xs H Q=>∃p ys,xs=[.ref p]/\((SqL X.K H p ys/\∀l,H l=none->Q (.ref l) (upd H l (.tup ys)))\/(SqT X.K H p ys/\Q (.ref p) H))):=by
 intro pins s σ H xs us Q I r h
 obtain ⟨p,ys,rfl,h⟩:=h
 obtain ⟨u,rfl,rx⟩:=z5f r
 cases rx
 rcases h with ⟨hq,q⟩ | ⟨hq,q⟩
 ·obtain ⟨its,r',pl,hz⟩:=I.list hq
  have hlen:=r'.length
  refine call_tuple_list pl.isList (λ h' kp=>?_) (by simp only [List.size_toArray]<;>lia)
  have I1:Inv X pins σ H { s with heap:=h' }:=I.kept (t':=s.toks) kp
  have I2:Inv X pins σ (upd H h'.objs.size (.tup ys)) { s with heap:=h'.push { cls:=.type "tuple",data:=.seq its.toArray } } :=
   I1.laid (t':=s.toks) (λ b o e=>Heap.get?_push_of_some _ e) (Nat.le_refl _) (show ObjOk X.prog X.w _ _ _ (.tup ys) from ⟨hz,its,r',IsTup.new _ _⟩)
  exact ⟨.ref h'.objs.size,_,I2,rfl,q _ (I1.hok.fresh (Nat.le_refl _))⟩
 ·obtain ⟨its,r',pl,hz⟩:=I.tuple hq
  exact call_tuple_same pl ⟨.ref p,H,I,rfl,q⟩
def tyV (K:W.Frag) (T:String) (x:V) (H:Hp):Prop:=match x with
 | .str _=>T="str"
 | .int _=>T="int"
 | .ref p=>(T="list" /\ ∃xs,SqL K H p xs)\/(T="tuple" /\ ∃o,K.lookup p=some o/\o.cls=.type "tuple" /\ o.dict=none) \/
   (T="dict" /\ ((∃kvs,H p=some (.dK kvs))\/∃kvs,H p=some (.dT kvs)))\/(T="set" /\ ∃S n,H p=some (.set S n))
 | _=>False
theorem y7b {pins:List (Addr × Obj)}{σ:St}{H:Hp}{s:Shared}{T:String}{x:V}{v:Value}(I:Inv X pins σ H s) (r:RelV x v) (ty:tyV X.K T x H) :
  s.TypeIs v T/\∀a,v=.ref a->∃ob,s.heap.get? a=some ob/\ob.dict=none:=by
 cases x with
 | str z =>
  obtain ⟨t,rfl⟩:=r
  cases (show T="str" from ty)
  exact ⟨typeIs_str s z t,λ _ e=>nomatch e⟩
 | int i =>
  obtain ⟨t,rfl⟩:=r
  cases (show T="int" from ty)
  exact ⟨typeIs_int s i t,λ _ e=>nomatch e⟩
 | ref p =>
  cases r
  rcases ty with ⟨rfl,xs,hq⟩ | ⟨rfl,o,hk,hc,hd⟩ | ⟨rfl,hk⟩ | ⟨rfl,S,n,hk⟩
  ·obtain ⟨its,_,pl,_⟩:=I.list hq
   refine ⟨pl.isList.typeIs,λ a e=>?_⟩
   cases e
   obtain ⟨o,n,e,c,hd,_⟩:=pl
   exact ⟨o,e,hd⟩
  ·refine ⟨⟨o,I.kIn p o hk,hc⟩,λ a e=>?_⟩
   cases e
   exact ⟨o,I.kIn _ o hk,hd⟩
  ·have z:∃o,s.heap.get? p=some o/\o.ExactDict:=by
    rcases hk with ⟨kvs,hk⟩ | ⟨kvs,hk⟩
    ·obtain ⟨_,_,_,_,o,_,_,e,ex,_⟩:=I.hok p _ hk
     exact ⟨o,e,ex⟩
    ·obtain ⟨_,_,_,_,o,_,_,e,ex,_⟩:=I.hok p _ hk
     exact ⟨o,e,ex⟩
   obtain ⟨o,e,ex⟩:=z
   refine ⟨⟨o,e,ex.1⟩,λ a e2=>?_⟩
   cases e2
   exact ⟨o,e,ex.2.1⟩
  ·obtain ⟨o,_,_,_,e,ex,_⟩:=I.hok p _ hk
   refine ⟨⟨o,e,ex.1⟩,λ a e2=>?_⟩
   cases e2
   exact ⟨o,e,ex.2.1⟩
 | _=>exact False.elim ty
def w5i (K:W.Frag) (T:String) (r:V->List V->Hp->VK->Prop) (to:TE):TE:=λ σ H Q=>to σ H λ x H1=>tyV K T x H1/\r x [] H1 Q
def tBM (K:W.Frag) (T:String) (r:V->List V->Hp->VK->Prop) (to:TE) (t:TA):TE:=λ σ H Q=>to σ H λ x H1=>tyV K T x H1/\t σ H1 λ xs H2=>r x xs H2 Q
variable {o e:Expr}{es:List Expr}{to:TE}{t:TA}{name:Str}{apos cpos:Pos}{T id:String}{r:V->List V->Hp->VK->Prop}
theorem y9g (pa:PlainAttrs T) (slot:Slot T name id) (hty:typeOf (.builtin id)=pure (.type "method_descriptor")) (hm:MtR X id r) (ho:PE X o to)
  (hbase:attributeBase o name X.env (eval o X.env)=eval o X.env:=by rfl) (hline:(apos.endLine == cpos.line)=true:=by rfl):PE X (.Call (.Attribute o name apos) [] [] cpos) (w5i X.K T r to):=by
 intro pins s σ H Q I h
 refine wpAny_Call_method0_late hbase hline (thn (ho pins s σ H _ I h) λ v s1 ⟨x,H1,I1,r1,ty,q1⟩=>?_)
 obtain ⟨h1,h2⟩:=y7b I1 r1 ty
 exact ⟨T,id,pa,slot,hty,h1,h2,Calls.callWith_builtin rfl (PySem.evalArgs_none (hm pins s1 σ H1 x [] v [] Q I1 r1 .nil q1))⟩
theorem w1d (pa:PlainAttrs T) (slot:Slot T name id) (hty:typeOf (.builtin id)=pure (.type "method_descriptor")) (hm:MtR X id r) (ho:PE X o to) (ha:PA X (e::es) t)
  (hbase:attributeBase o name X.env (eval o X.env)=eval o X.env:=by rfl)
  (hfew:((backTo cpos (starEach (e::es) X.env)).all (λ x=>!x.1) && (backToKw cpos (keywordEach [] X.env)).all (λ x=>x.1.isSome)
   && decide ((e::es).length+([]:List Keyword).length+(if ([]:List Keyword).isEmpty then 0 else 1) < 30))=true:=by rfl)
  (hline:(apos.endLine == cpos.line)=true:=by rfl) (hs:starEach (e::es) X.env=(false,eval e X.env)::starEach es X.env:=by rfl) (hplain:(backTo cpos (starEach es X.env)).any (·.1)=false:=by rfl) :
  PE X (.Call (.Attribute o name apos) (e::es) [] cpos) (tBM X.K T r to t):=by
 intro pins s σ H Q I h
 refine wpAny_Call_method_late hbase hfew hline rfl (thn (ho pins s σ H _ I h) λ v s1 ⟨x,H1,I1,r1,ty,q1⟩=>?_)
 obtain ⟨h1,h2⟩:=y7b I1 r1 ty
 refine ⟨T,id,pa,slot,hty,h1,h2,?_⟩
 have hA:=ha cpos pins s1 σ H1 _ I1 q1
 rw [hs] at hA ⊢
 refine Calls.callWith_builtin (by show (false || (backTo cpos (starEach es X.env)).any (·.1))=false;rw [hplain]<;>rfl) (Calls.evalArgs_plain ?_)
 exact thn hA λ us s2 ⟨vs,H2,I2,r2,q2⟩=>hm pins s2 σ H2 x vs v us Q I2 r1 r2 q2
end
def MtM (X:Cx) (id:String) (r:V->List V->Hp->VK->Prop):Prop :=
 ∀(pins:List (Addr × Obj)) (s:Shared) (σ:St) (H:Hp) (x:V) (xs:List V) (v:Value) (us:List Value) (Q:VK),Inv X pins σ H s->RelV x v->Vals xs us->r x xs H Q ->
  wpAny (model X.prog X.w) X.A (call (.builtin id) (v::us)) (EP X pins σ Q) X.xe s
theorem Vals.one:∀ {x:V}{us:List Value},Vals [x] us->∃u,us=[u]/\RelV x u
 | _,_,.cons r .nil=>⟨_,rfl,r⟩
theorem Vals.zero:∀ {us:List Value},Vals [] us->us=[]
 | _,.nil=>rfl
theorem Vals.dropLast {xs:List V}{us:List Value}(h:Vals xs us):Vals xs.dropLast us.dropLast:=by
 induction h with
 | nil=>exact .nil
 | cons r t ih =>
  cases t with
  | nil=>exact .nil
  | cons q t'=>exact .cons r ih
theorem Vals.eraseIdx:∀ {xs:List V}{us:List Value}(i:Nat),Vals xs us->Vals (xs.eraseIdx i) (us.eraseIdx i)
 | _,_,_,.nil=>.nil
 | _,_,0,.cons _ t=>t
 | _,_,i+1,.cons r t=>.cons r (Vals.eraseIdx i t)
theorem Vals.reverse {xs:List V}{us:List Value}(h:Vals xs us):Vals xs.reverse us.reverse:=by
 induction h with
 | nil=>exact .nil
 | cons r t ih=>rw [List.reverse_cons,List.reverse_cons];exact Vals.append ih (.cons r .nil)
theorem Vals.rep {xs:List V}{us:List Value}(h:Vals xs us):∀k:Nat,Vals (List.replicate k xs).flatten (List.replicate k us).flatten
 | 0=>.nil
 | k+1=>by
  rw [List.replicate_succ,List.replicate_succ,List.flatten_cons,List.flatten_cons]
  exact Vals.append h (Vals.rep h k)
theorem y1k (its:List Value):∀(k:Nat) (acc:List Value),
  List.foldl (λ x1 x2=>x1++x2) acc.toArray (List.replicate k its.toArray)=(acc++(List.replicate k its).flatten).toArray
 | 0,acc=>by simp
 | k+1,acc=>by
  have e:acc.toArray++its.toArray=(acc++its).toArray:=by simp
  have e2:(acc++its)++(List.replicate k its).flatten=acc++(List.replicate (k+1) its).flatten:=by
   rw [List.replicate_succ,List.flatten_cons,List.append_assoc]
  rw [← e2,← y1k its k (acc++its),← e,List.replicate_succ,List.foldl_cons]
section
variable {X:Cx}{pins:List (Addr × Obj)}{σ:St}{H:Hp}{s:Shared}{l b:Addr}{xs ys zs:List V}
theorem Inv.lset {its its':List Value}{n:Nat}{f:Array Value->Array Value}{t':Nat}(I:Inv X pins σ H s) (hH:H l=some (.lst xs))
  (e:s.heap.get? l=some { cls:=.type "list",data:=.seq its.toArray n }) (hf:f its.toArray=its'.toArray) (hv:Vals ys its') (hz:ys.length≤sizeLine) :
  Inv X pins σ (upd H l (.lst ys)) { s with heap:=s.heap.update l (Obj.mapSeq f),toks:=t' }:=by
 have q:=PySem.IsL.update e f
 rw [hf] at q
 refine I.write (x:=l) (e:=l) (by rw [hH];exact trivial) (.inl rfl) (λ b' u hb hu=>(Heap.get?_update_other s.heap (Obj.mapSeq f) (Ne.symm hb)).trans hu) ⟨_,q⟩ ?_
 exact ⟨hz,its',_,hv,q⟩
theorem Inv.lnew {its:List Value}{t':Nat}(I:Inv X pins σ H s) (hv:Vals ys its) (hz:ys.length≤sizeLine) :
  Inv X pins σ (upd H s.heap.objs.size (.lst ys)) { s with heap:=s.heap.push { cls:=.type "list",data:=.seq its.toArray },toks:=t' } :=
 I.laid (λ _ _ q=>Heap.get?_push_of_some _ q) (Nat.le_refl _) ⟨hz,its,0,hv,Heap.get?_push_size _ rfl⟩
theorem Inv.fresh (I:Inv X pins σ H s):H s.heap.objs.size=none:=I.hok.fresh (Nat.le_refl _)
theorem Inv.lstM (I:Inv X pins σ H s) (hH:H l=some (.lst xs)):xs.length≤sizeLine/\∃(its:List Value) (n:Nat),Vals xs its/\xs.length=its.length/\s.heap.get? l=some { cls:=.type "list",data:=.seq its.toArray n }:=by
 obtain ⟨z,its,n,r,e⟩:=I.hok l _ hH
 exact ⟨z,its,n,r,r.length,e⟩
theorem x3c {n:Nat}(h:n≤sizeLine):Builtin.List.listTooLong n=false:=by
 unfold Builtin.List.listTooLong
 exact decide_eq_false (by lia)
end
section
variable {X:Cx}
def x6u:V->List V->Hp->VK->Prop:=λ x vs H Q=>∃l xs y,x=.ref l/\vs=[y]/\H l=some (.lst xs)/\xs.length < sizeLine/\Q .non (upd H l (.lst (xs++[y])))
theorem y9y:MtM X "list.append" x6u:=by
 intro pins s σ H x vs v us Q I rx rv h
 obtain ⟨l,xs,y,rfl,rfl,hH,hz,q⟩:=h
 cases rx
 obtain ⟨u,rfl,ru⟩:=rv.one
 obtain ⟨z,its,n,r,hl,e⟩:=I.lstM hH
 refine call_meets F.slot_list_append ⟨_,e,rfl⟩ F.entry_list_append (F.args_list_append_2 _ _) (PySem.list_append l its.toArray n u (by rw [List.size_toArray];lia)) ⟨e,?_⟩
 refine ⟨.non,_,I.lset (its':=its++[u]) hH e (by simp) (r.append (.cons ru .nil)) ?_,rfl,q⟩
 rw [List.length_append,List.length_singleton]
 lia
def x6t:V->List V->Hp->VK->Prop:=λ x vs H Q=>∃l b xs zs,x=.ref l/\vs=[.ref b]/\H l=some (.lst xs)/\H b=some (.lst zs)/\xs.length+zs.length≤sizeLine/\Q .non (upd H l (.lst (xs++zs)))
def w0p:V->List V->Hp->VK->Prop:=λ x vs H Q=>∃l xs i k y,x=.ref l/\vs=[.int i]/\H l=some (.lst xs)/\-(2 ^ 63)≤i/\i < 2 ^ 63/\seqIndex? i xs.length=some k/\xs[k]?=some y/\Q y (upd H l (.lst (xs.eraseIdx k)))
def y8s:V->List V->Hp->VK->Prop:=λ x vs H Q=>∃l xs,x=.ref l/\vs=[]/\H l=some (.lst xs)/\Q .non (upd H l (.lst []))
theorem x3e:MtM X "list.clear" y8s:=by
 intro pins s σ H x vs v us Q I rx rv h
 obtain ⟨l,xs,rfl,rfl,hH,q⟩:=h
 cases rx
 have hus:=rv.zero
 subst hus
 obtain ⟨z,its,n,r,hl,e⟩:=I.lstM hH
 refine call_meets F.slot_list_clear ⟨_,e,rfl⟩ F.entry_list_clear (F.args_list_clear_1 _) (AutoSeq1.list_clear_list_0 l its.toArray n (by rw [List.size_toArray];lia)) ⟨e,?_⟩
 exact ⟨.non,_,I.lset (its':=[]) (ys:=[]) hH e rfl .nil (Nat.zero_le _),rfl,q⟩
def w5s:R2:=λ x y H Q=>∃l b xs zs,x=.ref l/\y=.ref b/\H l=some (.lst xs)/\H b=some (.lst zs)/\xs.length+zs.length≤sizeLine/\∀p,H p=none->Q (.ref p) (upd H p (.lst (xs++zs)))
theorem w1f:OpR X (binaryOp .Add) w5s:=by
 intro pins s σ H x y v u Q I rx ry h
 obtain ⟨l,b,xs,zs,rfl,rfl,hH,hB,hz,q⟩:=h
 cases rx
 cases ry
 obtain ⟨z,its,n,r,hl,e⟩:=I.lstM hH
 obtain ⟨z2,its2,n2,r2,hl2,e2⟩:=I.lstM hB
 refine PySem.P.add_list e e2 ?_ (by rw [List.size_toArray,List.size_toArray];lia)
 have ea:its.toArray++its2.toArray=(its++its2).toArray:=by simp
 rw [ea]
 exact ⟨.ref _,_,I.lnew (t':=s.toks) (r.append r2) (by rw [List.length_append];lia),rfl,q _ I.fresh⟩
def w5m:R2:=λ x y H Q=>∃l k xs,x=.ref l/\y=.int k/\H l=some (.lst xs)/\-(2 ^ 63)≤k/\k < 2 ^ 63/\xs.length * k.toNat≤sizeLine /\
 ∀p,H p=none->Q (.ref p) (upd H p (.lst (List.replicate k.toNat xs).flatten))
theorem x7s {α:Type}(xs:List α) (k:Nat):(List.replicate k xs).flatten.length=k * xs.length:=by
 induction k with
 | zero=>simp
 | succ k ih=>rw [List.replicate_succ,List.flatten_cons,List.length_append,ih,Nat.succ_mul,Nat.add_comm]
theorem x5k:OpR X (binaryOp .Mult) w5m:=by
 intro pins s σ H x y v u Q I rx ry h
 obtain ⟨l,k,xs,rfl,rfl,hH,h1,h2,hz,q⟩:=h
 cases rx
 obtain ⟨t,rfl⟩:=ry
 obtain ⟨z,its,n,r,hl,e⟩:=I.lstM hH
 have hlen:its.toArray.size * k.toNat≤sizeLine:=by rw [List.size_toArray,← hl];exact hz
 have hcap:¬its.toArray.size * k.toNat > (2 ^ 63 - 1) / 8:=by
  have:(sizeLine:Nat)≤(2 ^ 63 - 1) / 8:=by decide
  lia
 have hfit:¬(!Builtin.List.listFitsIndex k)=true:=by
  rw [fitsIndex_both h1 h2]
  exact Bool.false_ne_true
 have hlong:¬Builtin.List.listTooLong (its.toArray.size * k.toNat)=true:=by
  rw [x3c hlen]
  exact Bool.false_ne_true
 have hnew:List.foldl (λ x1 x2=>x1++x2) #[] (List.replicate (if its.toArray.isEmpty=true then 0 else k.toNat) its.toArray)=(List.replicate k.toNat its).flatten.toArray:=by
  have f0:∀m:Nat,List.foldl (λ x1 x2=>x1++x2) #[] (List.replicate m its.toArray)=(List.replicate m its).flatten.toArray:=λ m=>by
   have:=y1k its m []
   rw [List.nil_append] at this
   exact this
  rw [f0]
  cases its with
  | nil=>simp
  | cons a r'=>rw [if_neg (by simp)]
 refine wpAny_binaryOp_repeat_ref (T := "list") (U := "int") (by decide) ⟨_,e,rfl⟩ (λ s'=>typeIs_int s' k t) noFill_list_mul F.fills_int_mul F.slot_int_rmul repeat_list F.slot_int_index.lookup
  (call_meets F.slot_int_rmul (typeIs_int s k t) F.entry_int_rmul (F.args_int_rmul_2 _ _) (int___rmul___int_list k t l its.toArray n)
   ⟨e,rfl,⟨_,e,rfl⟩,call_meets F.slot_list_mul ⟨_,e,rfl⟩ F.entry_list_mul (F.args_list_mul_2 _ _) (AutoListH.list___mul___list_int_3 l its.toArray n k t hfit hcap hlong) ⟨e,?_⟩⟩)
 rw [hnew]
 exact ⟨.ref _,_,I.lnew (t':=s.toks) (r.rep k.toNat) (by rw [x7s,Nat.mul_comm];exact hz),rfl,q _ I.fresh⟩
end
section
variable {prog:Program}{w:World}{A:Around}{E:Value->Shared->Prop}{s:Shared}
end
section
variable {X:Cx}
end
end L2
namespace Att
open PySem PySem.W PySem.Calls PyProof.Rows
theorem z7z {P:Params}{h:Heap}:∀(ns:List Int) (vs:List Value),WellAll P h vs (ns.map WData.int)->IntsAre vs ns:=by
 intro ns
 induction ns with
 | nil =>
  intro vs w
  rw [List.map_nil] at w
  cases w
  exact .nil
 | cons n ns ih =>
  intro vs w
  rw [List.map_cons] at w
  cases w with
  | cons a b =>
   cases a
   exact .cons _ _ (ih _ b)
theorem y8a {l:OpenLaw}{n:Nat}(hn:l.most=some n) {P:Params}{h:Heap}{args:List WData}{vals:List Value}
  (hpre:l.row.toRowW.claim.pre args=true) (hwl:WellAll P h vals args) :
  ∃a vs ns,vals=[Value.ref a]/\args=[WData.list (ns.map WData.int)]/\h.get? a=some { cls:=.type "list",data:=.seq vs.toArray }/\IntsAre vs ns/\ns.length≤n:=by
 have hsh:WShape.hasAll [] args [.list .int]=true:=(pre_splitW hpre).1
 have hc:l.pre.holds [] { args:=args }=true:=(pre_splitW hpre).2
 obtain ⟨d,r,rfl,h1,h2⟩:=hasAllW_cons hsh
 obtain rfl:=hasAllW_nil h2
 obtain ⟨xs,rfl,h3⟩:=hasW_list h1
 obtain ⟨ns,rfl⟩:=items_int h3
 have hlen:ns.length≤n:=by
  unfold OpenLaw.pre at hc
  have h4:(WTm.not (.lt (.lit (.int (n:Int))) (.len (.arg 0)))).holds [] { args:=[.list (ns.map .int)] }=true:=by
   have h4:=(holds_andW hc).1
   rw [hn] at h4
   exact h4
  have h5:=condW_of h4 (w_not (w_lt w_lit (w_len_list (w_arg rfl))))
  rw [List.length_map] at h5
  refine Nat.le_of_not_lt λ q=>?_
  have q':(n:Int) < ((ns.length:Nat):Int):=by lia
  first
   | (rw [decide_eq_true q'] at h5;exact absurd h5 (by decide))
   | (simp at h5;lia)
 cases hwl with
 | cons w1 w2 =>
  cases w2
  cases w1 with
  | list ho hall=>exact ⟨_,_,ns,rfl,rfl,ho,z7z ns _ hall,hlen⟩
theorem y8z (l:OpenLaw) (args:List WData):l.row.toRowW.claim.post args (.bool true) args=true :=
 postW_of (r:=l.row.toRowW) (X:=(true == true))
  (show WShape.has [] (.bool true) .bool=true by first | rfl | decide | simp [WShape.has,WShape.arms,WShape.armsAll])
  (show (WTm.eq .res (.lit (.bool true))).value [] { args:=args,res:=some (.bool true),after:=args }=some (.bool (true == true)) from w_eq_bool (w_res rfl) w_lit) rfl
theorem attach_call {l:OpenLaw}{n:Nat}{q:Program}{loose:List Str}{XP:(Str->Option Value)->Heap->Prop}{YP:World->Heap->Prop}{d:DefRec}
  (hn:l.most=some n) (hdf:d.params.defaults=[])
  (call:∀(w:World) (s₀ s₁:Shared) (mg mb:Str->Option Value) (fa:Addr) (o:Obj) (pm cd doc:Value) (a:Addr) (vs:List Value) (ns:List Int),
   Ground q loose [] XP w s₀ mg mb s₁.heap->YP w s₁.heap ->
   s₁.heap.get? fa=some o->o.data=.func (docDef d.name d.params d.body d.scope pm cd doc)->s₁.heap.CodeRec cd d.name->mg d.name=some (.ref fa) ->
   s₁.heap.get? a=some { cls:=.type "list",data:=.seq vs.toArray }->IntsAre vs ns->ns.length≤n->s₁.gens=#[] ->
   codeAny (model l.prog w) callerA (.call (.ref fa) ⟨[.ref a],[]⟩) (λ r s'=>r=.ok (.ret (.bool true))/\OldK s₁.heap s'.heap/\s'.os=s₁.os/\AllBare s'.gens) s₁) :
  WalkO q loose XP YP l.row.toRowW d [] (λ f vs=>PySem.call f vs):=by
 intro w s₀ s₁ mg mb G Y fa o pm cd doc dV kV ho hd hcd hD hmg hg args vals as hpre hlay hrd hwl hlo
 obtain rfl:dV=.none:=Dflts.none hD hdf
 obtain rfl:kV=.none:=Dflts.noKw hD
 obtain ⟨a,vs,ns,rfl,rfl,hobj,hints,hlen⟩:=y8a hn hpre hwl
 refine enter_call (codeAny_mono (call w s₀ s₁ mg mb fa o pm cd doc a vs ns G Y ho (fd_plain hd) hcd hmg hobj hints hlen hg) λ r s' hq=>?_)
 obtain ⟨rfl,h2,h3,h4⟩:=hq
 exact ⟨.inl ⟨.bool true,.bool true,[],rfl,λ _=>rfl,.bool true,y8z l _,λ _=>⟨List.Pairwise.nil,λ _ hm=>(nomatch hm)⟩⟩,h2,h3,h4⟩
section
variable {prog:Program}{w:World}{A:Around}{E:Value->Shared->Prop}{s:Shared}{K:Frag}
end
end Att
namespace L2
open PySem PySem.Spec PyProof.Rows
theorem y0r:∀ {vs:List Value}{ns:List Int},IntsAre vs ns->Vals (ns.map V.int) vs
 | _,_,.nil=>.nil
 | _,_,.cons n t h=>.cons ⟨t,rfl⟩ (y0r h)
def w4v (H:Hp):Prop:=∀b,H b=none\/∃o xs,H b=some (.frz o (.lst xs))
theorem x3j {P:Program}{w:World}{K:W.Frag}{mg mb:Str->Option Value}{CX:CXT}{k:Nat}{fa a:Addr}{fd:FuncData}{x:Str}{sp:Sp}{s₁:Shared}{vs:List Value}{ns:List Int}
  (KX:K.In s₁.heap) (hns:s₁.heap.Ns mainGlobals mg) (hb:s₁.heap.Ns builtinsNs mb) (hbb:∀x:Str,x ≠ "__name__" -> mb x=bootBuiltins x) (hlim:s₁.heap.NoLimit) (hg:s₁.gens=#[])
  (ha:s₁.heap.get? a=some { cls:=.type "list",data:=.seq vs.toArray }) (hi:IntsAre vs ns) (hl:ns.length≤sizeLine) (hr:Room k callerA)
  (F:∀base:Heap,K.In base->base.Ns mainGlobals mg->FnOk P w K mg base CX k fa fd [x] sp) (hbind:∀(s:Shared) (u:Value),BindsTo s fd ⟨[u],[]⟩ [(x,u)])
  (hsp:∀H:Hp,w4v H->SqL K H a (ns.map V.int)->sp [.ref a] H (λ v _=>v=.bl true) λ _ _ _=>False)
  (hCX:∀H e s',CX [] H s₁ (λ _ _ _=>False) e s'->False) :
  codeAny (model P w) callerA (.call (.ref fa) ⟨[.ref a],[]⟩) (λ r s'=>r=.ok (.ret (.bool true))/\OldK s₁.heap s'.heap/\s'.os=s₁.os/\AllBare s'.gens) s₁:=by
 have rv:=y0r hi
 have lenV:=hi.length
 have core:∀H:Hp,w4v H->SqL K H a (ns.map V.int)->HOk P w H s₁.heap->(∀b,H b≠none->b=a)->(H a≠none->K.lookup a=none) ->
   codeAny (model P w) callerA (.call (.ref fa) ⟨[.ref a],[]⟩) (λ r s'=>r=.ok (.ret (.bool true))/\OldK s₁.heap s'.heap/\s'.os=s₁.os/\AllBare s'.gens) s₁:=by
  intro H hO hS hok hA hK
  have base_of:∀ {b:Addr}{o:Obj},s₁.heap.get? b=some o->H b=none->(x3r s₁.heap H).get? b=some o:=λ e n=>x3q e n
  have noA:∀ {b:Addr}{o:Obj}{es:Array DictEntry}{ep:Nat},s₁.heap.get? b=some o->o.data=.dict es ep->H b=none:=λ {b o es ep} e d=>by
   cases q:H b with
   | none=>rfl
   | some u =>
    have e':b=a:=hA b (by rw [q];simp)
    subst e'
    rw [ha] at e;cases e
    have d':Data.seq vs.toArray _=Data.dict es ep:=d
    cases d'
  have nsK:∀ {b:Addr}{m:Str->Option Value},s₁.heap.Ns b m->(x3r s₁.heap H).Ns b m:=λ {b m} ⟨o,es,ep,e,d,r⟩=>⟨o,es,ep,base_of e (noA e d),d,r⟩
  have hKb:K.In (x3r s₁.heap H):=λ b o e=>base_of (KX b o e) (by
   cases q:H b with
   | none=>rfl
   | some u =>
    have e':b=a:=hA b (by rw [q];simp)
    subst e'
    rw [hK (by rw [q];simp)] at e;cases e)
  have hM:Mod K mg (x3r s₁.heap H):=⟨hKb,nsK hns,⟨mb,nsK hb,hbb⟩,let ⟨mc,h1,h2⟩:=hlim;⟨mc,nsK h1,h2⟩⟩
  have e0:Env0 P w K mg (x3r s₁.heap H) callerA [] s₁ H:=⟨rfl,hM,λ b o e=>x7q e,Nat.le_of_eq (x0k _ _),trivial,λ b hb=>absurd (show b∈([]:List Addr) from hb) (by simp),hok,.of_eq hg⟩
  refine codeAny_mono ((F _ hKb (nsK hns)).run callerA [] s₁ H ⟨[.ref a],[]⟩ [.ref a] [.ref a] _ _ hr e0 (hbind s₁ (.ref a)) (.cons rfl .nil) (hsp H hO hS)) λ r s' h=>?_
  cases r with
  | error e=>exact (hCX H e s' h).elim
  | ok fl =>
   cases fl with
   | next=>exact False.elim h
   | brk=>exact False.elim h
   | cont=>exact False.elim h
   | ret u =>
    obtain ⟨v,H',os,bare,un,hok',r',q⟩:=h
    have q':v=.bl true:=q
    subst q'
    obtain rfl:u=Value.bool true:=r'
    refine ⟨rfl,OldK.of_keep λ b o e=>?_,os,bare⟩
    cases q:H b with
    | none=>exact un.keep b o e q (by intro z;exact absurd (show b∈([]:List Addr) from z) (by simp)) (by simp)
    | some u =>
     rcases hO b with z | ⟨ob,xs,z⟩
     ·rw [q] at z;cases z
     ·have z2:=un.frzs b ob _ z
      obtain ⟨e1,_⟩:=hok b _ z
      obtain ⟨e2,_⟩:=hok' b _ z2
      rw [e] at e1;cases e1
      exact e2
 cases hk:K.lookup a with
 | some o =>
  have e:=KX a o hk
  rw [ha] at e
  cases e
  refine core (λ _=>none) (λ _=>.inl rfl) (.inr ⟨_,vs.toArray,_,hk,rfl,rfl,rfl,by rw [List.size_toArray,lenV];exact hl,by simpa using rv⟩) (λ b u z=>by have z':(none:Option HO)=some u:=z;cases z') (λ b z=>absurd rfl z) λ z=>absurd rfl z
 | none =>
  refine core (λ b=>if b=a then some (.frz { cls:=.type "list",data:=.seq vs.toArray } (.lst (ns.map V.int))) else none) (λ b=>?_) (.inl (.inr ⟨{ cls:=.type "list",data:=.seq vs.toArray },if_pos rfl⟩)) (λ b u z=>?_) (λ b z=>?_) λ _=>hk
  ·by_cases hb:b=a
   ·exact .inr ⟨_,_,if_pos hb⟩
   ·exact .inl (if_neg hb)
  ·by_cases hb:b=a
   ·have z':=(if_pos hb).symm.trans z
    cases z'
    subst hb
    exact ⟨ha,by rw [List.length_map];exact hl,vs,_,rv,ha⟩
   ·have z':=(if_neg hb).symm.trans z
    cases z'
  ·by_cases hb:b=a
   ·exact hb
   ·exact absurd (if_neg hb) z
theorem walk_of {l:W.OpenLaw}{n k:Nat}{q:Program}{loose:List Str}{XP:(Str->Option Value)->Heap->Prop}{YP:World->Heap->Prop}{d:DefRec}{K:Params->W.Frag}{CX:World->CXT}{sp:World->Sp}{x:Str}
  (hn:l.most=some n) (hn2:n≤sizeLine) (hdf:d.params.defaults=[]) (hr:Room k callerA)
  (hY:∀(w:World) (h:Heap),YP w h->(K w.params).In h)
  (F:∀(w:World) (mg:Str->Option Value) (fa:Addr) (h:Heap),(K w.params).In h->h.Ns mainGlobals mg->mg d.name=some (.ref fa) ->
   ∃fd:FuncData,(∀(s:Shared) (u:Value),BindsTo s fd ⟨[u],[]⟩ [(x,u)]) /\
    ∀base:Heap,(K w.params).In base->base.Ns mainGlobals mg->FnOk l.prog w (K w.params) mg base (CX w) k fa fd [x] (sp w))
  (hsp:∀(w:World) (H:Hp) (a:Addr) (ns:List Int),ns.length≤n->w4v H->SqL (K w.params) H a (ns.map V.int)->sp w [.ref a] H (λ v _=>v=.bl true) λ _ _ _=>False)
  (hCX:∀(w:World) (H:Hp) (s:Shared) (e:Value) (s':Shared),CX w [] H s (λ _ _ _=>False) e s'->False) :
  W.WalkO q loose XP YP l.row.toRowW d [] (λ f vs=>PySem.call f vs):=by
 refine Att.attach_call hn hdf λ w s₀ s₁ mg mb fa o pm cd doc a vs ns G Y ho hd hcd hmg hobj hints hlen hg=>?_
 have KX:=hY w _ Y
 obtain ⟨fd,hb,hF⟩:=F w mg fa _ KX G.T.g hmg
 exact x3j KX G.T.g G.T.b G.T.builtins G.T.nolimit hg hobj hints (Nat.le_trans hlen hn2) hr hF hb (λ H hO hS=>hsp w H a ns hlen hO hS) λ H e s'=>hCX w H s₁ e s'
def z1m (s:Stmt):Arguments:=match s with
 | .FunctionDef _ a _ _ _ _ _ _ _ _=>a
 | _=>{ posonlyargs:=[],args:=[],vararg:=none,kwonlyargs:=[],kw_defaults:=[],kwarg:=none,defaults:=[] }
def z1i (s:Stmt):List Stmt:=match s with
 | .FunctionDef _ _ b _ _ _ _ _ _ _=>b
 | _=>[]
def z0k (s:Stmt):Scope:=match s with
 | .FunctionDef _ _ _ _ _ _ sc _ _ _=>sc
 | _=>{ kind:=.function,names:=[],isGenerator:=false,isCoroutine:=false }
abbrev CX0:CXT:=λ _ _ _ _ _ _=>False
abbrev E0:XK:=λ _ _ _=>False
theorem z1f {X:Cx}:z3o CX0 X E0:=λ _ _ _ _ _ _ _ h=>h.elim
structure Fun (K:W.Frag) (x qual:Str) (st:Stmt) (f:Addr) (fd:FuncData):Prop where
 ex:∃(oc:Value) (od:Option Addr) (kV doc pm:Value) (an:Option Addr) (cdv ct:Value) (osl:Array (Option Value)),
  fd=W.fnOf x qual (z1m st) (z1i st) (z0k st) .none kV doc pm an cdv ct/\K.lookup f=some ⟨oc,od,.func fd,osl⟩/\W.codeIn K cdv qual=true
 kp:W.keepIn K (.ref f)=true
section
variable {P:Program}{w:World}{K:W.Frag}{mg:Str->Option Value}{base:Heap}
theorem Fun.ok {x qual:Str}{st:Stmt}{f:Addr}{fd:FuncData}{N ps:List Str}{k:Nat}{sp:Sp}(F:Fun K x qual st f fd) (S:FnScope N ps (z0k st)) (len:∀vs H Q E,sp vs H Q E->vs.length=ps.length)
  (hbody:∀(cdv:Value) (A:Around) (outer:List Env) (s:Shared) (H:Hp) (vs:List V) (Q:VK) (E:XK),Room k (A.deeper (envOfC qual (z0k st) s.heap.objs.size f cdv))->sp vs H Q E ->
   ∃t,PSs (y6n CX0 P w K mg base N qual (z0k st) f cdv A outer s H E).nox (z1i st) t/\t { nx:=λ _ H'=>Q .non H',rt:=Q } (start N vs) H):FnOk P w K mg base CX0 (k+1) f fd ps sp:=by
 obtain ⟨oc,od,kV,doc,pm,an,cdv,ct,osl,rfl,lk,hcd⟩:=F.ex
 refine x8f lk hcd S len λ A outer s H vs Q E hr hsp=>?_
 obtain ⟨t,h,q⟩:=hbody cdv A outer s H vs Q E hr hsp
 exact ⟨t,h.nox,q⟩
theorem Fun.binds {x qual:Str}{st:Stmt}{f:Addr}{fd:FuncData}{ps:List Str}(F:Fun K x qual st f fd)
  (h:∀(kV doc pm:Value) (an:Option Addr) (cdv ct:Value) (us:List Value),us.length=ps.length->bindArgs (W.fnOf x qual (z1m st) (z1i st) (z0k st) .none kV doc pm an cdv ct) ⟨us,[]⟩=pure (ps.zip us)):Binds K fd ps []:=by
 obtain ⟨oc,od,kV,doc,pm,an,cdv,ct,osl,rfl,lk,hcd⟩:=F.ex
 exact .all (h kV doc pm an cdv ct)
theorem z6n {x qual:Str}{st:Stmt}{f:Addr}{oc:Value}{od an:Option Addr}{osl:Array (Option Value)}{kV doc pm cdv ct:Value}(l:K.lookup f=some ⟨oc,od,.func (W.fnOf x qual (z1m st) (z1i st) (z0k st) .none kV doc pm an cdv ct),osl⟩)
  (c:W.codeIn K cdv qual=true) (k:W.keepIn K (.ref f)=true):Fun K x qual st f (W.fnOf x qual (z1m st) (z1i st) (z0k st) .none kV doc pm an cdv ct):=⟨⟨oc,od,kV,doc,pm,an,cdv,ct,osl,rfl,l,c⟩,k⟩
end
theorem z1e {n:Nat}(h:n≤1000):n < sizeLine:=Nat.lt_of_le_of_lt h (by decide)
section
variable {X:Cx}
theorem pv (i:Nat) {x:Str}{pos:Pos}(hN:X.N[i]?=some x:=by rfl) (hv:Vis X.env.scope x:=by first | exact Or.inl rfl | exact Or.inr (Or.inl rfl) | exact Or.inr (Or.inr rfl)) (hd:(x == ("__debug__" : Str))=false:=by decide)
  (hcd:(x == ("__classdict__" : Str))=false:=by decide):PE X (.Name x pos) (w3g i):=w1b hN hv hd hcd
end
def Same (H H':Hp):Prop:=∀b o,H b=some o->H' b=some o
theorem Same.refl (H:Hp):Same H H:=λ _ _ h=>h
theorem Same.trans {H H1 H2:Hp}(a:Same H H1) (b:Same H1 H2):Same H H2:=λ c o h=>b c o (a c o h)
theorem Same.free {H H':Hp}(e:Same H H') {l:Addr}(h:H' l=Option.none):H l=Option.none:=by
 cases q:H l with
 | none=>rfl
 | some o =>
  rw [e l o q] at h
  cases h
theorem Same.seq {K:W.Frag}{H H':Hp}{a:Addr}{xs:List V}(e:Same H H') (h:SqL K H a xs):SqL K H' a xs:=by
 rcases h with (h | ⟨o,h⟩) | h
 ·exact .inl (.inl (e _ _ h))
 ·exact .inl (.inr ⟨o,e _ _ h⟩)
 ·exact .inr h
end L2
set_option maxHeartbeats 4000000
namespace L2
open PySem PySem.Spec PyProof.Rows
section
variable {prog:Program}{w:World}{A:Around}{R:Result->Shared->Prop}{s:Shared}
theorem y1o {elt target iter:Expr}{scope:Scope}{pos:Pos}{it acc:Value}{env:Env}(I:Nat->Shared->Prop)
  (turn:∀n s,I n s->wpAny (model prog w) A (pyNext it) (λ r s₁=>match r with
   | none=>R (.ok .next) s₁
   | some v=>wpAny (model prog w) A (letOwnedTupleGo target it v) (λ _ s₀=>wpAny (model prog w) A (assign target env v) (λ _ s₂=>wpAny (model prog w) A (eval elt env) (λ x s₃ =>
     wpAny (model prog w) A (call (.builtin "list.append") [acc,x]) (λ _ s₄=>∃m,m < n/\I m s₄) (λ _ _=>False) s₃)
     (λ _ _=>False) s₂) (λ _ _=>False) s₀) (λ _ _=>False) s₁) (λ _ _=>False) s)
  (n:Nat) (h:I n s) :
  codeAny (model prog w) A (.compLoop (.ListComp elt [⟨target,iter,[],0⟩] scope pos) 0 it acc env) R s:=by
 refine codeAny_loop rfl I (λ n s hI=>?_) n h
 show wpAny _ _ ((compTurn (.ListComp elt [⟨target,iter,[],0⟩] scope pos) 0 it acc env).onRaise (λ x=>do noteFrame x env;theTreesLotGoes x)) _ _ s
 refine wpAny_noted ?_
 rw [compTurn_list1]
 refine wpAny_bind (wpAny_standAt (wpAny_bind (wpAny_mono (turn n s hI) (λ r s₁ h₁=>?_) λ _ _ h'=>h'.elim)))
 cases r with
 | none=>exact wpAny_pure h₁
 | some v =>
  refine wpAny_bind (wpAny_mono h₁ (λ _ s₀ h₀=>?_) λ _ _ h'=>h'.elim)
  exact wpAny_bind (wpAny_mono h₀ (λ _ s₂ h₂=>wpAny_bind (wpAny_bind (wpAny_mono h₂ (λ x s₃ h₃=>wpAny_bind (wpAny_mono h₃
   (λ _ s₄ h₄=>wpAny_pure (wpAny_pure ⟨rfl,h₄⟩)) λ _ _ h'=>h'.elim)) λ _ _ h'=>h'.elim))) λ _ _ h'=>h'.elim)
end
def z2d (X:Cx) (N:List Str) (scope:Scope) (cl:List (Str × Addr)) (C:Addr) (ex:List Addr) (s:Shared) (H:Hp):Cx where
 prog:=X.prog
 w:=X.w
 K:=X.K
 mg:=X.mg
 base:=X.base
 A:=X.A
 N:=N
 s₀:=s
 H₀:=H
 env:=compEnvC scope cl C X.env
 outer:=X.stack
 stack:=X.stack
 ex:=ex
 fn:=λ _=>false
 calm:=X.calm
 pn:=X.pn
 xe:=λ _ _=>False
def z1l (k:Nat) (js:List Nat) (σ:St):St:=List.replicate k none++js.map λ j=>(σ[j]?).join
def z3p (wi:TI) (k:Nat) (js:List Nat) (g:TG) (te:TE):TE:=λ σ H Q=>wi σ H λ J H1 =>
 ∃W:Nat->Nat->List V->St->Hp->Prop,(∃m,W 0 m [] (z1l k js σ) H1)/\∀i m ys σ' H',W i m ys σ' H' ->
  (J.stop i H'/\∀p,H' p=none->Q (.ref p) (upd H' p (.lst ys))) \/
  (J.go i H'/\ys.length < sizeLine/\∃N:List V->St->Hp->Prop,(∀zs σ2 H2,N zs σ2 H2->∃m',m' < m/\W (i+1) m' zs σ2 H2) /\
   ∀x H2,J.yld i H' x H2->g x σ' H2 λ σ3 H3=>te σ3 H3 λ v H4=>N (ys++[v]) σ3 H4)
structure Cap (X:Cx) (scope:Scope) (cl:List (Str × Addr)) (x:Str) (j:Nat):Prop where
 at_:X.N[j]?=some x
 out:X.env.scope.names.lookup x=some .cell\/X.env.scope.names.lookup x=some .free
 inn:(relabel scope X.env).names.lookup x=some .cell\/(relabel scope X.env).names.lookup x=some .free
theorem x0g {σ:St}{j:Nat}{v:V}(h:(σ[j]?).join=some v):σ[j]?=some (some v):=by
 cases e:σ[j]? with
 | none=>rw [e] at h;cases h
 | some o =>
  rw [e] at h
  cases o with
  | none=>cases h
  | some u=>cases h;rfl
def z4q (wi:TI) (k:Nat) (js:List Nat) (g:TG) (tc:TT) (te:TE):TE:=λ σ H Q=>wi σ H λ J H1 =>
 ∃W:Nat->Nat->List V->St->Hp->Prop,(∃m,W 0 m [] (z1l k js σ) H1)/\∀i m ys σ' H',W i m ys σ' H' ->
  (J.stop i H'/\∀p,H' p=none->Q (.ref p) (upd H' p (.lst ys))) \/
  (J.go i H'/\ys.length < sizeLine/\∃N:List V->St->Hp->Prop,(∀zs σ2 H2,N zs σ2 H2->∃m',m' < m/\W (i+1) m' zs σ2 H2) /\
   ∀x H2,J.yld i H' x H2->g x σ' H2 λ σ3 H3=>tc σ3 H3 λ b H4=>if b=true then te σ3 H4 λ v H5=>N (ys++[v]) σ3 H5 else N ys σ3 H4)
abbrev w2t:=Program->World->Around->Env->(Bool->Shared->Prop)->Shared->Prop
def x8v (ifs:List Expr) (T:w2t):Prop:=(∀ {prog:Program}{w:World}{A:Around}{R:Result->Shared->Prop}{s:Shared}{elt target iter:Expr}{scope:Scope}{pos:Pos}{it acc:Value}{env:Env}(I:Nat->Shared->Prop),
  (∀n s,I n s->wpAny (model prog w) A (pyNext it) (λ r s₁=>match r with
   | none=>R (.ok .next) s₁
   | some v=>wpAny (model prog w) A (letOwnedTupleGo target it v) (λ _ s₀=>wpAny (model prog w) A (assign target env v) (λ _ s₂=>T prog w A env (λ b s₃ =>
     if b=true then wpAny (model prog w) A (eval elt env) (λ x s₄ =>
      wpAny (model prog w) A (call (.builtin "list.append") [acc,x]) (λ _ s₅=>∃m,m < n/\I m s₅) (λ _ _=>False) s₄) (λ _ _=>False) s₃
     else ∃m,m < n/\I m s₃) s₂) (λ _ _=>False) s₀) (λ _ _=>False) s₁) (λ _ _=>False) s)->∀n,I n s ->
  codeAny (model prog w) A (.compLoop (.ListComp elt [⟨target,iter,ifs,0⟩] scope pos) 0 it acc env) R s) /\
 ∀ {p w A e k k' s},T p w A e k s->(∀b s,k b s->k' b s)->T p w A e k' s
def w5b:w2t:=λ _ _ _ _ k s=>k true s
theorem w4f:x8v [] w5b:=⟨λ I t n h=>y1o I t n h,λ h m=>m _ _ h⟩
def PM (X:Cx) (T:w2t) (tc:TT):Prop:=∀(pins:List (Addr × Obj)) (s:Shared) (σ:St) (H:Hp) (K:Bool->Hp->Prop),Inv X pins σ H s->tc σ H K->T X.prog X.w X.A X.env (λ b s'=>∃H',Inv X pins σ H' s'/\K b H') s
theorem z8r {X:Cx}{elt tg iter:Expr}{ifs:List Expr}{T0:w2t}{scope:Scope}{cl:List (Str × Addr)}{pos:Pos}{own fv:List Str}{js:List Nat}{wi:TI}{g:TG}{tc:TT}{te:TE}
    (hc:X.calm=true) (hi:PI X tg iter wi) (hclos:closureFor scope X.env=pure cl) (hcell:∀y∈scope.names,y.2≠.cell) (hkind:scope.kind=.function)
    (hnames:∀y∈scope.names,y.2=.local->scope.names.lookup y.1=some .local)
    (hcl:∀x c,cl.lookup x=some c->X.env.cells.lookup x=some c)
    (hhas:∀x,((relabel scope X.env).names.lookup x=some .cell\/(relabel scope X.env).names.lookup x=some .free)->∃c,cl.lookup x=some c)
    (hlen:js.length=fv.length) (hcap:∀(i:Nat) x j,fv[i]?=some x->js[i]?=some j->Cap X scope cl x j)
    (hg:∀(C:Addr) (ex:List Addr) (s:Shared) (H:Hp),PG (z2d X (own++fv) scope cl C ex s H) tg g)
    (he:∀(C:Addr) (ex:List Addr) (s:Shared) (H:Hp),PE (z2d X (own++fv) scope cl C ex s H) elt te)
    (ht:∀(C:Addr) (ex:List Addr) (s:Shared) (H:Hp),PM (z2d X (own++fv) scope cl C ex s H) T0 tc) (lp:x8v ifs T0)
    (hs:∀x,foldedSetIterable iter X.env x=pure x)
    {pins:List (Addr × Obj)}{s:Shared}{σ:St}{H:Hp}{Q:VK}{use:Option (Value->Sem Unit)}{QQ:Value->Shared->Prop}{fpos:Pos}(I:Inv X pins σ H s) (h:z4q wi own.length js g tc te σ H Q)
    (fin:∀(a C:Addr) (s5:Shared) (H5:Hp) (fl:Flow),Inv X pins σ H5 s5->H5 C=none->C≠X.env.locals->X.s₀.heap.objs.size≤C->(∀x c,X.env.cells.lookup x=some c->c≠C)->(∀p∈X.pn++pins,p.1≠C)->(∃m,s5.heap.Ns C m)->Q (.ref a) H5->compPost (model X.prog X.w) X.A X.xe use QQ (.ref a) C (.ok fl) s5) :
    wpAny (model X.prog X.w) X.A (comprehension (.ListComp elt [⟨tg,iter,ifs,0⟩] scope pos) scope X.env fpos (newList []) false (firstIter [⟨tg,iter,ifs,0⟩] X.env) use) QQ X.xe s:=by
  refine wpAny_comprehension_free (use:=use) rfl hs hclos hkind hnames (thn (hi pins s σ H _ I h) λ v s1 h1=>thn h1 λ itv s2 h2=>?_)
  obtain ⟨it,fp,tn,J,H2,e,I2,T,st2,f2,W,⟨m0,w0⟩,turn⟩:=h2
  subst e
  refine wpAny_newObj_type (wpAny_newFunctionEnv hcell (by intro y hy;simp at hy) (λ h₁ hns₁ hsb₁=>?_) hkind)
  dsimp only at hns₁ hsb₁ ⊢
  generalize hHp:s2.heap.push { cls:=.type "list",dict:=none,data:=.seq ([]:List Value).toArray }=hL at hns₁ hsb₁ ⊢
  have hC:hL.objs.size=s2.heap.objs.size+1:=by rw [← hHp,Heap.size_push]
  have hDC:s2.heap.objs.size≠hL.objs.size:=by rw [hC];exact Nat.ne_of_lt (Nat.lt_succ_self _)
  have ltC:∀b,b < s2.heap.objs.size->b≠hL.objs.size:=λ b hb=>by rw [hC];exact Nat.ne_of_lt (Nat.lt_succ_of_lt hb)
  have old:∀b o,s2.heap.get? b=some o->h₁.get? b=some o:=λ b o e=>hsb₁.extBut b o (ltC b (Heap.lt_size e)) (Heap.get?_push_of_some _ (hHp ▸ Heap.get?_push_of_some _ e))
  have hacc:h₁.get? s2.heap.objs.size=some { cls:=.type "list",data:=.seq ([]:List Value).toArray 0 }:=hsb₁.extBut _ _ hDC (Heap.get?_push_of_some _ (hHp ▸ Heap.get?_push_size _ rfl))
  have hfresh:∀a,s2.heap.objs.size≤a->H2 a=none:=λ a ha=>I2.hok.fresh ha
  have fpL:∀b∈fp,b < s2.heap.objs.size:=λ b hb=>by
    obtain ⟨o,e,_⟩:=T.obj _ _ st2 b hb
    exact Heap.lt_size e
  have cellL:∀x c,cl.lookup x=some c->c < s2.heap.objs.size:=λ x c e=>by
    obtain ⟨v,q⟩:=I2.cell x c (hcl x c e)
    exact q.lt
  have pinL:∀p∈X.pn++pins,p.1 < s2.heap.objs.size:=λ p hp=>Heap.lt_size (I2.pin p hp).1
  generalize hX:z2d X (own++fv) scope cl hL.objs.size fp s2 H2=Y
  have ok:Y.Ok:=by
    subst hX
    refine ⟨I2.ok.mod,hkind,I2.ok.glob,I2.ok.blt,by show s2.heap.objs.size≤hL.objs.size;lia,λ x y c h1 h2=>I2.ok.inj x y c (hcl x c h1) (hcl y c h2),λ x hx=>hhas x hx,
      λ x c hf=>absurd hf (by show ¬(false=true);decide),I2.ok.hd,I2.ok.frames,.inl rfl,λ b hb=>⟨ltC b (fpL b hb),λ x c e=>(f2 b hb).2.2.2.2.1 x c (hcl x c e)⟩,I2.bs,Nat.le_trans I2.ok.bsz I2.sz,λ b o e hb=>?_,λ b hb hz=>?_,I2.stack,I2.stkFree⟩
    · rcases (f2 b hb).2.2.2.1 with z | z
      · exact I2.ok.noex b o e z
      · exact absurd (Nat.lt_of_lt_of_le (Heap.lt_size e) (Nat.le_trans I2.ok.bsz z)) (Nat.lt_irrefl _)
    · rcases List.mem_cons.mp (I2.stkSub b hz) with z | z
      · exact (f2 b hb).2.1 z
      · exact (f2 b hb).2.2.1 z
  have hYl:Y.env.locals=hL.objs.size:=by subst hX;rfl
  have hYs:Y.s₀=s2:=by subst hX;rfl
  have hYH:Y.H₀=H2:=by subst hX;rfl
  have hYx:Y.ex=fp:=by subst hX;rfl
  have hYf:Y.fs=frs X.stack:=by subst hX;rfl
  have hYc:Y.env.cells=cl:=by subst hX;rfl
  have hYp:Y.pn=X.pn:=by subst hX;rfl
  have pinOk:∀p∈X.pn++pins,s2.heap.get? p.1=some p.2/\H2 p.1=none/\p.1≠hL.objs.size/\p.1 ∉ frs X.stack/\∀v,p.2.data≠.cell v:=λ p hp=>by
    obtain ⟨e,n,ne,nf,d⟩:=I2.pin p hp
    refine ⟨e,n,ltC _ (Heap.lt_size e),λ z=>?_,d⟩
    rcases List.mem_cons.mp (I2.stkSub _ z) with q | q
    · exact ne q
    · exact nf q
  have stkL:∀b∈frs X.stack,b < s2.heap.objs.size:=λ b hb=>by
    obtain ⟨_,o,ho,_⟩:=I2.stack.mem hb
    exact Heap.lt_size ho
  have I3:Inv Y (pins++[(s2.heap.objs.size,{ cls:=.type "list",data:=.seq ([]:List Value).toArray 0 })]) (z1l own.length js σ) H2 { s2 with heap:=h₁,toks:=s2.toks+([]:List (Str × Value)).length }:=by
    refine ⟨ok,by subst hX;rfl,I2.bare,by rw [hYH,hYs];exact Un.kept old,⟨_,by rw [hYl];exact hns₁,λ i x v e1 e2 e3=>?_⟩,λ x c e=>?_,by rw [hYl];exact hfresh _ (by lia),λ x c e=>?_,λ p hp=>?_,by subst hX;exact I2.hok.kept old,?_⟩
    · subst hX
      have e1:(own++fv)[i]?=some x:=e1
      unfold z1l at e2
      by_cases hi:i < own.length
      · rw [List.getElem?_append_left (by simpa using hi),List.getElem?_replicate] at e2
        split at e2<;>cases e2
      · rw [List.getElem?_append_right (by simpa using hi),List.length_replicate,List.getElem?_map] at e2
        rw [List.getElem?_append_right (by lia)] at e1
        cases ej:js[i - own.length]? with
        | none=>rw [ej] at e2;cases e2
        | some j =>
          rw [ej] at e2
          have cp:=hcap _ x j e1 ej
          have e2':σ[j]?=some (some v):=x0g (Option.some.inj e2)
          obtain ⟨m,hn,hl⟩:=I2.loc
          obtain ⟨u,r,l⟩:=hl j x v cp.at_ e2' (cp.out.elim (λ z=>.inr (.inl z)) λ z=>.inr (.inr z))
          refine ⟨u,r,.inr ⟨cp.inn,?_⟩⟩
          obtain ⟨c,ec⟩:=hhas x cp.inn
          rcases l with ⟨k,_⟩ | ⟨_,c',ec',z⟩
          · have k:X.env.scope.names.lookup x=some .local:=k
            rcases cp.out with q | q<;>rw [q] at k<;>cases k
          · rw [hcl x c ec] at ec'
            cases ec'
            obtain ⟨o,ho,hd⟩:=z
            exact ⟨c,ec,o,old _ _ ho,hd⟩
    · rw [hYc] at e
      obtain ⟨v,o,ho,hd⟩:=I2.cell x c (hcl x c e)
      exact ⟨v,o,old _ _ ho,hd⟩
    · rw [hYc] at e
      exact I2.freeC x c (hcl x c e)
    · rw [hYp] at hp
      rw [hYl,hYf]
      rcases List.mem_append.mp hp with z | z
      · obtain ⟨a,b,c,d,f⟩:=pinOk p (List.mem_append_left _ z)
        exact ⟨old _ _ a,b,c,d,f⟩
      · rcases List.mem_append.mp z with z | z
        · obtain ⟨a,b,c,d,f⟩:=pinOk p (List.mem_append_right _ z)
          exact ⟨old _ _ a,b,c,d,f⟩
        · have e:p=_:=List.mem_singleton.mp z
          subst e
          exact ⟨hacc,hfresh _ (Nat.le_refl _),hDC,λ z=>absurd (stkL _ z) (Nat.lt_irrefl _),λ v z=>by cases z⟩
    · subst hX
      unfold z1l
      show _=(own++fv).length
      simp [hlen]
  have hYprog:Y.prog=X.prog:=by subst hX;rfl
  have hYw:Y.w=X.w:=by subst hX;rfl
  have hYK:Y.K=X.K:=by subst hX;rfl
  have hYA:Y.A=X.A:=by subst hX;rfl
  have hYcalm:Y.calm=true:=by subst hX;exact hc
  have hYxe:Y.xe=λ _ _=>False:=by subst hX;rfl
  have hYenv:Y.env=compEnvC scope cl hL.objs.size X.env:=by subst hX;rfl
  have hg':=hg hL.objs.size fp s2 H2
  have he':=he hL.objs.size fp s2 H2
  have ht':=ht hL.objs.size fp s2 H2
  rw [hX] at hg' he' ht'
  have fpOk:∀ {H':Hp}{pn:List (Addr × Obj)},(∀b∈fp,H' b=none)->(∀p∈pn,p.1=s2.heap.objs.size\/p∈pins)->∀b∈fp,x5r Y pn H' b:=λ hn hp b hb=>by
    refine ⟨hn b hb,by rw [hYl];exact ltC b (fpL b hb),?_,.inl (by rw [hYx];exact hb),λ x c e=>?_,λ p hq=>?_⟩
    · rw [hYf]
      intro hz
      rcases List.mem_cons.mp (I2.stkSub b hz) with z | z
      · exact (f2 b hb).2.1 z
      · exact (f2 b hb).2.2.1 z
    · rw [hYc] at e
      exact (f2 b hb).2.2.2.2.1 x c (hcl x c e)
    · rw [hYp] at hq
      rcases List.mem_append.mp hq with z | z
      · exact (f2 b hb).2.2.2.2.2 p (List.mem_append_left _ z)
      · rcases hp p z with q | q
        · rw [q];exact Ne.symm (Nat.ne_of_lt (fpL b hb))
        · exact (f2 b hb).2.2.2.2.2 p (List.mem_append_right _ q)
  have loop:∀s₃:Shared,s₃={ s2 with heap:=h₁,toks:=s2.toks+([]:List (Str × Value)).length } ->
      codeAny (model X.prog X.w) X.A (.compLoop (.ListComp elt [⟨tg,iter,ifs,0⟩] scope pos) 0 (.ref it) (.ref s2.heap.objs.size) (compEnvC scope cl hL.objs.size X.env))
        (compPost (model X.prog X.w) X.A X.xe use QQ (.ref s2.heap.objs.size) hL.objs.size) s₃:=by
    rintro s₃ rfl
    refine lp.1 (λ n s'=>∃i ys its k σ' H',Inv Y (pins++[(s2.heap.objs.size,{ cls:=.type "list",data:=.seq (its:List Value).toArray k })]) σ' H' s'/\tn i s'.heap/\(∀b∈fp,H' b=none)/\Vals ys its/\ys.length≤sizeLine/\W i n ys σ' H') ?_ m0
      ⟨0,[],[],0,_,H2,I3,T.keep _ _ _ st2 λ b _ o e=>old b o e,λ b hb=>(f2 b hb).1,.nil,Nat.zero_le _,w0⟩
    rintro n s4 ⟨i,ys,its,k,σ4,H4,I4,st4,fr4,rv,hz,w4⟩
    have pinD:∀p∈(pins++[(s2.heap.objs.size,({ cls:=.type "list",data:=.seq (its:List Value).toArray k }:Obj))]),p.1=s2.heap.objs.size\/p∈pins:=λ p hp=>by
      rcases List.mem_append.mp hp with z | z
      · exact .inr z
      · rw [List.mem_singleton.mp z];exact .inl rfl
    have F4:=fpOk (pn:=pins++[(s2.heap.objs.size,{ cls:=.type "list",data:=.seq (its:List Value).toArray k })]) fr4 pinD
    rcases turn i n ys σ4 H4 w4 with ⟨stop,qn⟩ | ⟨go,hlt,N,hN,step⟩
    · have d:=T.done Y hYprog hYw hYK hYcalm i _ s4 σ4 H4 (λ _ _=>False) I4 F4 st4 stop
      rw [hYA] at d
      refine thn d λ r s5 ⟨hr,I5⟩=>?_
      subst hr
      obtain ⟨m,hn,_⟩:=id I5.loc
      rw [hYl] at hn
      have hD:=I5.pin (s2.heap.objs.size,{ cls:=.type "list",data:=.seq (its:List Value).toArray k }) (List.mem_append_right _ (List.mem_append_right _ (List.mem_singleton.mpr rfl)))
      have hDn:H4 s2.heap.objs.size=none:=hD.2.1
      have kp:∀b o,b≠hL.objs.size->s5.heap.get? b=some o->s5.heap.get? b=some o:=λ b o _ e=>e
      have B:=I5.base
      rw [hYH,hYs,hYx,hYf] at B
      have s2C:∀b o,s2.heap.get? b=some o->b≠hL.objs.size:=λ b o e=>ltC b (Heap.lt_size e)
      have trk:∀b u,H4 b=some u->b≠s2.heap.objs.size:=λ b u e z=>by rw [z,hDn] at e;cases e
      have trC:∀b u,H4 b=some u->b≠hL.objs.size:=λ b u e z=>by
        have:=I5.free
        rw [hYl,← z,e] at this;cases this
      have hH2:∀b u,H2 b=some u->b≠s2.heap.objs.size:=λ b u e z=>by rw [z,hfresh _ (Nat.le_refl _)] at e;cases e
      have IX:Inv X pins σ (upd H4 s2.heap.objs.size (.lst ys)) s5:=by
       refine I2.call' (ch:=fp) (by show s5.os=s2.os;rw [I5.os,hYs]) ⟨λ b o e n hb hx=>kp b o (s2C b o e) (B.keep b o e n hb hx),λ b o e n hb hx=>?_,λ b o e n hx=>?_,λ b o e hx=>?_,λ b xs e=>?_,λ b o u e=>?_,λ b ps e=>?_⟩ ?_ I5.bare (λ b hb=>⟨(f2 b hb).2.2.2.1,(f2 b hb).2.1,(f2 b hb).2.2.2.2.1,(f2 b hb).2.2.2.2.2⟩)
       · obtain ⟨sl,q⟩:=B.slot b o e n hb hx
         exact ⟨sl,kp b _ (s2C b o e) q⟩
       · rw [z0n (Nat.ne_of_lt (Heap.lt_size e))]
         exact B.free b o e n hx
       · obtain ⟨o',q⟩:=B.there b o e hx
         exact ⟨o',kp b o' (s2C b o e) q⟩
       · rw [z0n (hH2 b _ e)]
         exact B.tups b xs e
       · rw [z0n (hH2 b _ e)]
         exact B.frzs b o u e
       · obtain ⟨more,q⟩:=B.tbls b ps e
         exact ⟨more,by rw [z0n (hH2 b _ e)];exact q⟩
       · intro b u e
         by_cases hb:b=s2.heap.objs.size
         · subst hb
           rw [z0f] at e
           cases e
           exact ⟨hz,its,k,rv,kp _ _ hDC hD.1⟩
         · rw [z0n hb] at e
           have okb:=I5.hok b u e
           rw [hYprog,hYw] at okb
           refine okb.stay (λ c v hc q=>kp c v ?_ q) (λ c q=>by rw [z0n (trk c _ q)];exact q) λ c xs q=>by rw [z0n (trk c _ q)];exact q
           rcases hc with z | z
           · rw [z];exact trC b u e
           · exact trC c _ z
      have zC:upd H4 s2.heap.objs.size (.lst ys) hL.objs.size=none:=by
        rw [z0n (Ne.symm hDC)]
        have:=I5.free
        rwa [hYl] at this
      exact fin s2.heap.objs.size hL.objs.size s5 _ _ IX zC (Ne.symm (ltC _ I2.lt)) (by have:=I2.sz;lia) (λ x c e=>ltC c (by obtain ⟨v,q⟩:=I2.cell x c e;exact q.lt)) (λ p hp=>ltC _ (pinL p hp)) ⟨m,hn⟩ (qn _ hDn)
    · have d:=T.item Y hYprog hYw hYK hYcalm i _ s4 σ4 H4 (λ _ _=>False) I4 F4 st4 go
      rw [hYA] at d
      refine thn d λ r s5 ⟨u,hr,h5⟩=>?_
      subst hr
      refine thn h5 λ _ s6 ⟨x,H6,I6,r6,y6,st6,fr6⟩=>?_
      have I6':=I6.pinned (fpOk (pn:=pins++[(s2.heap.objs.size,{ cls:=.type "list",data:=.seq (its:List Value).toArray k })]) fr6 pinD) (T.obj _ _ st6)
      have d7:=hg' _ s6 σ4 H6 x u _ I6' r6 (step x H6 y6)
      rw [hYprog,hYw,hYA,hYxe,hYenv] at d7
      refine thn d7 λ _ s7 ⟨σ7,H7,I7,q7⟩=>?_
      have dt:=ht' _ s7 σ7 H7 _ I7 q7
      rw [hYprog,hYw,hYA,hYenv] at dt
      refine lp.2 dt λ bb s7 ⟨H7,I7,q7⟩=>?_
      cases bb with
      | false =>
        obtain ⟨m',hm,w8⟩:=hN _ _ _ q7
        have tn8:tn (i+1) s7.heap:=T.keep _ _ _ st6 λ b hb o e=>(I7.pin (b,o) (List.mem_append_right _ (List.mem_append_right _ (z2u hb e)))).1
        have fr8:∀b∈fp,H7 b=none:=λ b hb=>by
          obtain ⟨o,e,d⟩:=T.obj _ _ st6 b hb
          exact (I7.pin (b,o) (List.mem_append_right _ (List.mem_append_right _ (z2u hb e)))).2.1
        exact ⟨m',hm,i+1,ys,its,k,σ7,H7,I7.unpinned,tn8,fr8,rv,hz,w8⟩
      | true =>
        have q7:te σ7 H7 _:=q7
        show wpAny _ _ (eval elt _) _ _ s7
        have d8:=he' _ s7 σ7 H7 _ I7 q7
        rw [hYprog,hYw,hYA,hYxe,hYenv] at d8
        refine thn d8 λ u8 s8 ⟨v8,H8,I8,r8,n8⟩=>?_
        obtain ⟨m',hm,w8⟩:=hN _ _ _ n8
        have pD:=I8.pin (s2.heap.objs.size,{ cls:=.type "list",data:=.seq (its:List Value).toArray k }) (List.mem_append_right _ (List.mem_append_left _ (List.mem_append_right _ (List.mem_singleton.mpr rfl))))
        have tn8:tn (i+1) s8.heap:=T.keep _ _ _ st6 λ b hb o e=>(I8.pin (b,o) (List.mem_append_right _ (List.mem_append_right _ (z2u hb e)))).1
        have fr8:∀b∈fp,H8 b=none:=λ b hb=>by
          obtain ⟨o,e,d⟩:=T.obj _ _ st6 b hb
          exact (I8.pin (b,o) (List.mem_append_right _ (List.mem_append_right _ (z2u hb e)))).2.1
        have J8:Inv Y pins σ7 H8 s8:=I8.unpinned.unpinned
        have eD:s8.heap.get? s2.heap.objs.size=some { cls:=.type "list",data:=.seq its.toArray k }:=pD.1
        refine call_meets F.slot_list_append ⟨_,eD,rfl⟩ F.entry_list_append (F.args_list_append_2 _ _) (PySem.list_append _ its.toArray k u8 (by rw [List.size_toArray,← rv.length];lia)) ⟨eD,?_⟩
        have other:∀b o,b≠s2.heap.objs.size->s8.heap.get? b=some o->(s8.heap.update s2.heap.objs.size (Obj.mapSeq λ xs=>xs.push u8)).get? b=some o:=λ b o nb e=>(Heap.get?_update_other s8.heap _ (Ne.symm nb)).trans e
        have J9:=J8.turned (t':=s8.toks) (it:=s2.heap.objs.size) (h':=s8.heap.update s2.heap.objs.size (Obj.mapSeq λ xs=>xs.push u8)) other pD.2.1 (by rw [hYl];exact hDC) (.inr (by rw [hYs];exact Nat.le_refl _))
          (λ x c e=>by rw [hYc] at e;exact Nat.ne_of_lt (cellL x c e)) (λ p hp=>by rw [hYp] at hp;exact Nat.ne_of_lt (pinL p hp))
        have ep:(its.toArray.push u8)=(its++[u8]).toArray:=by simp
        obtain ⟨kk,upD⟩:∃kk,(s8.heap.update s2.heap.objs.size (Obj.mapSeq λ xs=>xs.push u8)).get? s2.heap.objs.size=some { cls:=.type "list",data:=.seq (its++[u8]).toArray kk }:=by
          have z:=PySem.IsL.update eD (λ xs=>xs.push u8)
          rw [ep] at z
          exact ⟨_,z⟩
        refine ⟨m',hm,i+1,ys++[v8],its++[u8],kk,σ7,H8,J9.pins_of λ p hp=>?_,T.keep _ _ _ tn8 λ b hb o e=>other b o (Nat.ne_of_lt (fpL b hb)) e,fr8,rv.append (.cons r8 .nil),?_,w8⟩
        · rcases List.mem_append.mp hp with z | z
          · exact J9.pin p (List.mem_append_right _ z)
          · rw [List.mem_singleton.mp z]
            exact ⟨upD,pD.2.1,by rw [hYl];exact hDC,by rw [hYf];exact λ z=>absurd (stkL _ z) (Nat.lt_irrefl _),λ v z=>by cases z⟩
        · rw [List.length_append,List.length_singleton];lia
  exact codeAny_compStart_list (loop _ rfl) (T.self _ 0 _ _ _ (T.keep _ _ _ st2 λ b _ o e=>old b o e) (loop _ rfl))
theorem x4s {wi:TI}{k:Nat}{js:List Nat}{g:TG}{te:TE}:z4q wi k js g (λ σ H K=>K true H) te=z3p wi k js g te:=by
 unfold z4q z3p
 simp only [if_true]
theorem pm0 {X:Cx}:PM X w5b (λ σ H K=>K true H):=λ _ _ _ H _ I k=>⟨H,I,k⟩
theorem y1n {X:Cx}{elt tg iter:Expr}{scope:Scope}{cl:List (Str × Addr)}{pos:Pos}{own fv:List Str}{js:List Nat}{wi:TI}{g:TG}{te:TE}
  (hc:X.calm=true) (hi:PI X tg iter wi) (hclos:closureFor scope X.env=pure cl) (hcell:∀y∈scope.names,y.2≠.cell) (hkind:scope.kind=.function)
  (hnames:∀y∈scope.names,y.2=.local->scope.names.lookup y.1=some .local)
  (hcl:∀x c,cl.lookup x=some c->X.env.cells.lookup x=some c)
  (hhas:∀x,((relabel scope X.env).names.lookup x=some .cell\/(relabel scope X.env).names.lookup x=some .free)->∃c,cl.lookup x=some c)
  (hlen:js.length=fv.length) (hcap:∀(i:Nat) x j,fv[i]?=some x->js[i]?=some j->Cap X scope cl x j)
  (hg:∀(C:Addr) (ex:List Addr) (s:Shared) (H:Hp),PG (z2d X (own++fv) scope cl C ex s H) tg g)
  (he:∀(C:Addr) (ex:List Addr) (s:Shared) (H:Hp),PE (z2d X (own++fv) scope cl C ex s H) elt te)
  (hs:∀x,foldedSetIterable iter X.env x=pure x)
  {pins:List (Addr × Obj)}{s:Shared}{σ:St}{H:Hp}{Q:VK}{use:Option (Value->Sem Unit)}{QQ:Value->Shared->Prop}{fpos:Pos}(I:Inv X pins σ H s) (h:z3p wi own.length js g te σ H Q)
  (fin:∀(a C:Addr) (s5:Shared) (H5:Hp) (fl:Flow),Inv X pins σ H5 s5->H5 C=none->C≠X.env.locals->X.s₀.heap.objs.size≤C->(∀x c,X.env.cells.lookup x=some c->c≠C)->(∀p∈X.pn++pins,p.1≠C)->(∃m,s5.heap.Ns C m)->Q (.ref a) H5->compPost (model X.prog X.w) X.A X.xe use QQ (.ref a) C (.ok fl) s5) :
  wpAny (model X.prog X.w) X.A (comprehension (.ListComp elt [⟨tg,iter,[],0⟩] scope pos) scope X.env fpos (newList []) false (firstIter [⟨tg,iter,[],0⟩] X.env) use) QQ X.xe s :=
 z8r hc hi hclos hcell hkind hnames hcl hhas hlen hcap hg he (λ _ _ _ _=>pm0) w4f hs I (by rw [x4s];exact h) fin
theorem z9z {X:Cx}{elt tg iter:Expr}{scope:Scope}{cl:List (Str × Addr)}{pos:Pos}{own fv:List Str}{js:List Nat}{wi:TI}{g:TG}{te:TE}
  (hc:X.calm=true) (hi:PI X tg iter wi) (hclos:closureFor scope X.env=pure cl) (hcell:∀y∈scope.names,y.2≠.cell) (hkind:scope.kind=.function)
  (hnames:∀y∈scope.names,y.2=.local->scope.names.lookup y.1=some .local)
  (hcl:∀x c,cl.lookup x=some c->X.env.cells.lookup x=some c)
  (hhas:∀x,((relabel scope X.env).names.lookup x=some .cell\/(relabel scope X.env).names.lookup x=some .free)->∃c,cl.lookup x=some c)
  (hlen:js.length=fv.length) (hcap:∀(i:Nat) x j,fv[i]?=some x->js[i]?=some j->Cap X scope cl x j)
  (hg:∀(C:Addr) (ex:List Addr) (s:Shared) (H:Hp),PG (z2d X (own++fv) scope cl C ex s H) tg g)
  (he:∀(C:Addr) (ex:List Addr) (s:Shared) (H:Hp),PE (z2d X (own++fv) scope cl C ex s H) elt te)
  (hs:∀x,foldedSetIterable iter X.env x=pure x:=by intro _;rfl) :
  PE X (.ListComp elt [⟨tg,iter,[],0⟩] scope pos) (z3p wi own.length js g te):=by
 intro pins s σ H Q I h
 rw [eval_ListComp]
 refine y1n (use:=none) (QQ:=EP X pins σ Q) hc hi hclos hcell hkind hnames hcl hhas hlen hcap hg he hs I h λ a C s5 H5 fl I5 zC zL zS zc zp ⟨m,hn⟩ q=>⟨m,hn,λ h' sc=>?_⟩
 exact ⟨.ref a,H5,I5.turned (t':=s5.toks) (it:=C) (λ d o nd e=>sc.extBut d o nd e) zC zL (.inr zS) zc zp,rfl,q⟩
theorem x1b {K:PySem.W.Frag}{a:Addr}{xs:List V}{g:TG}{te:TE}{Q:VK}{σ:St}{H:Hp}(Pv:Nat->List V->St->Hp->Prop) (h0:Pv 0 [] σ H) (hl:∀i ys σ H,i≤xs.length->Pv i ys σ H->SqL K H a xs)
  (hs:∀i x ys σ H,xs[i]?=some x->Pv i ys σ H->ys.length < sizeLine/\g x σ H λ σ3 H3=>te σ3 H3 λ v H4=>Pv (i+1) (ys++[v]) σ3 H4) (hd:∀ys σ H,Pv xs.length ys σ H->∀p,H p=none->Q (.ref p) (upd H p (.lst ys))) :
  ∃W:Nat->Nat->List V->St->Hp->Prop,(∃m,W 0 m [] σ H)/\∀i m ys σ' H',W i m ys σ' H' ->
   ((Itl K a).stop i H'/\∀p,H' p=none->Q (.ref p) (upd H' p (.lst ys))) \/
   ((Itl K a).go i H'/\ys.length < sizeLine/\∃N:List V->St->Hp->Prop,(∀zs σ2 H2,N zs σ2 H2->∃m',m' < m/\W (i+1) m' zs σ2 H2) /\
    ∀x H2,(Itl K a).yld i H' x H2->g x σ' H2 λ σ3 H3=>te σ3 H3 λ v H4=>N (ys++[v]) σ3 H4):=by
 refine ⟨λ i m ys σ H=>m=xs.length - i/\i≤xs.length/\Pv i ys σ H,⟨xs.length,by simp,Nat.zero_le _,h0⟩,?_⟩
 rintro i m ys σ H ⟨rfl,hi,p⟩
 have q:=hl i ys σ H hi p
 by_cases hlt:i < xs.length
 ·have e:xs[i]?=some xs[i]:=by simp [hlt]
  refine .inr ⟨⟨xs,xs[i],q,e⟩,(hs i _ ys σ H e p).1,Pv (i+1),λ zs σ' H' p'=>⟨xs.length - (i+1),by lia,rfl,hlt,p'⟩,λ x H' y=>?_⟩
  obtain ⟨e,y⟩:=y
  subst e
  exact (hs i x ys σ _ (y xs q) p).2
 ·have e:i=xs.length:=by lia
  subst e
  exact .inl ⟨⟨xs,q,Nat.le_refl _⟩,hd ys σ H p⟩
theorem x4l {K:PySem.W.Frag}{a:Addr}{xs:List V}{g:TG}{te:TE}{Q:VK}{σ:St}{H:Hp}(Pv:Nat->List V->St->Hp->Prop) (h0:Pv 0 [] σ H) (hl:∀i ys σ H,i≤xs.length->Pv i ys σ H->SqT K H a xs)
  (hs:∀i x ys σ H,xs[i]?=some x->Pv i ys σ H->ys.length < sizeLine/\g x σ H λ σ3 H3=>te σ3 H3 λ v H4=>Pv (i+1) (ys++[v]) σ3 H4) (hd:∀ys σ H,Pv xs.length ys σ H->∀p,H p=none->Q (.ref p) (upd H p (.lst ys))) :
  ∃W:Nat->Nat->List V->St->Hp->Prop,(∃m,W 0 m [] σ H)/\∀i m ys σ' H',W i m ys σ' H' ->
   ((Itt K a).stop i H'/\∀p,H' p=none->Q (.ref p) (upd H' p (.lst ys))) \/
   ((Itt K a).go i H'/\ys.length < sizeLine/\∃N:List V->St->Hp->Prop,(∀zs σ2 H2,N zs σ2 H2->∃m',m' < m/\W (i+1) m' zs σ2 H2) /\
    ∀x H2,(Itt K a).yld i H' x H2->g x σ' H2 λ σ3 H3=>te σ3 H3 λ v H4=>N (ys++[v]) σ3 H4):=by
 refine ⟨λ i m ys σ H=>m=xs.length - i/\i≤xs.length/\Pv i ys σ H,⟨xs.length,by simp,Nat.zero_le _,h0⟩,?_⟩
 rintro i m ys σ H ⟨rfl,hi,p⟩
 have q:=hl i ys σ H hi p
 by_cases hlt:i < xs.length
 ·have e:xs[i]?=some xs[i]:=by simp [hlt]
  refine .inr ⟨⟨xs,xs[i],q,e⟩,(hs i _ ys σ H e p).1,Pv (i+1),λ zs σ' H' p'=>⟨xs.length - (i+1),by lia,rfl,hlt,p'⟩,λ x H' y=>?_⟩
  obtain ⟨e,y⟩:=y
  subst e
  exact (hs i x ys σ _ (y xs q) p).2
 ·have e:i=xs.length:=by lia
  subst e
  exact .inl ⟨⟨xs,q,Nat.le_refl _⟩,hd ys σ H p⟩
theorem y6o {lo:Int}{n:Nat}{g:TG}{te:TE}{Q:VK}{σ:St}{H:Hp}(Pv:Nat->List V->St->Hp->Prop) (h0:Pv 0 [] σ H)
  (hs:∀i ys σ H,i < n->Pv i ys σ H->ys.length < sizeLine/\g (.int (lo+i)) σ H λ σ3 H3=>te σ3 H3 λ v H4=>Pv (i+1) (ys++[v]) σ3 H4) (hd:∀ys σ H,Pv n ys σ H->∀p,H p=none->Q (.ref p) (upd H p (.lst ys))) :
  ∃W:Nat->Nat->List V->St->Hp->Prop,(∃m,W 0 m [] σ H)/\∀i m ys σ' H',W i m ys σ' H' ->
   ((Itr lo n).stop i H'/\∀p,H' p=none->Q (.ref p) (upd H' p (.lst ys))) \/
   ((Itr lo n).go i H'/\ys.length < sizeLine/\∃N:List V->St->Hp->Prop,(∀zs σ2 H2,N zs σ2 H2->∃m',m' < m/\W (i+1) m' zs σ2 H2) /\
    ∀x H2,(Itr lo n).yld i H' x H2->g x σ' H2 λ σ3 H3=>te σ3 H3 λ v H4=>N (ys++[v]) σ3 H4):=by
 refine ⟨λ i m ys σ H=>m=n - i/\i≤n/\Pv i ys σ H,⟨n,by simp,Nat.zero_le _,h0⟩,?_⟩
 rintro i m ys σ H ⟨rfl,hi,p⟩
 by_cases hlt:i < n
 ·refine .inr ⟨hlt,(hs i ys σ H hlt p).1,Pv (i+1),λ zs σ' H' p'=>⟨n - (i+1),by lia,rfl,hlt,p'⟩,λ x H' y=>?_⟩
  obtain ⟨e,y⟩:=y
  subst e y
  exact (hs i ys σ _ hlt p).2
 ·have e:i=n:=by lia
  subst e
  exact .inl ⟨Nat.le_refl _,hd ys σ H p⟩
theorem x7h {K:W.Frag}{h:Heap}{gm:Str->Option Value}{nmX:Str}{Cx':Addr}{bmX:List Value}{nid:String}(KI:K.In h) (GN:h.Ns mainGlobals gm)
  (hn:W.nsIn K mainGlobals nmX=some (some (.ref Cx'))) (hq:W.excIn K Cx' bmX nid=true):OwnCls nmX Cx' bmX nid gm h:=by
 constructor
 ·exact W.mg_of KI GN hn
 ·unfold W.excIn at hq
  split at hq
  ·rename_i ddx cdx slx hlk
   split at hq
   ·rename_i C2 bm2 f0 f1 f2 f3 nn f5 hmro hsl0
    simp only [Bool.and_eq_true,beq_iff_eq,Bool.not_eq_true'] at hq
    obtain ⟨⟨⟨⟨⟨eC,eN⟩,hdl⟩,htl⟩,hnsok⟩,hinit⟩:=hq
    subst eC eN
    obtain ⟨c1,c2,c3,c4,c5,c6,c7,c8,c9,c10,c11⟩:=cdx
    dsimp only at hmro hdl hnsok hinit
    subst hmro hdl
    have hsl1:slx=#[f0,f1,f2,f3,some (.builtin nn),f5]:=by
     obtain ⟨lst⟩:=slx
     simp only at hsl0
     rw [hsl0]
    subst hsl1
    refine ⟨bm2,c4,c1,c5,c2,c6,c7,c8,c9,c10,ddx,f0,f1,f2,f3,f5,h.nsMap c4,KI _ _ hlk,?_,?_,?_⟩
    ·exact .of_isNs (W.isNs_of_in KI hnsok)
    ·exact W.nsMap_none_of_in KI hnsok hinit
    ·exact W.tail_of_in KI htl
   ·cases hq
  ·cases hq
def CX1 (P:Program) (w:World):CXT:=λ outer H s E e s' =>
 ∃(a C:Addr) (a0:Value) (H':Hp) (B:Heap),e=.ref a/\s'.os=s.os/\AllBare s'.gens/\Heap.FlyingW B outer a (.ref C) a0 s'.heap /\
  (∀b o,s.heap.get? b=some o->H b=none->b ∉ frs outer->B.get? b=some o)/\(∀b o,s.heap.get? b=some o->b ∉ frs outer->∃o',B.get? b=some o') /\
  Un (frs outer) [] H H' s.heap s'.heap/\HOk P w H' B/\E (.ref C) none H'
section
variable {P:Program}{w:World}{K:W.Frag}{mg:Str->Option Value}{base:Heap}{N:List Str}{qual:Str}{scope:Scope}{f:Addr}{cd:Value}{A:Around}{outer:List Env}{s:Shared}{H:Hp}{E:XK}
theorem x3p {H:Hp}{h:Heap}{l:List Addr}(ok:HOk P w H h) (hl:∀b∈l,H b=none):HOk P w H (W.hideAll h l):=λ b u e=>by
 have nb:∀c v,H c=some v->c ∉ l:=λ c v q z=>by rw [hl c z] at q;cases q
 refine (ok b u e).stay (λ c v hc q=>W.hideAll_get _ q ?_) (λ _ q=>q) λ _ _ q=>q
 rcases hc with z | z
 ·rw [z];exact nb b u e
 ·exact nb c _ z
theorem w2f {l:List Env}:∀env∈l,∀b,env.frame=some b->b∈frs l:=λ env he b hb=>List.mem_filterMap.mpr ⟨env,he,hb⟩
theorem z3u:z3o (CX1 P w) (y6n (CX1 P w) P w K mg base N qual scope f cd A outer s H E) E:=by
 intro pins σ H1 s1 e s' I hx
 obtain ⟨a,C,a0,H',B,rfl,os,bare,fl,inB,thB,un,okB,hE⟩:=hx
 have hfr:(y6n (CX1 P w) P w K mg base N qual scope f cd A outer s H E).A.frames=some (envOfC qual scope s.heap.objs.size f cd::outer):=I.ok.frames
 refine wpAny_leaves_onW hfr rfl fl λ h'' fl'' up''=>?_
 have Bs:∀b o,B.get? b=some o->h''.get? b=some o:=fl''.1
 have ub:Un (frs outer) [] H H1 s.heap s1.heap:=I.base
 have stk:∀b,b ∉ frs outer->b < s.heap.objs.size->b ∉ frs (envOfC qual scope s.heap.objs.size f cd::outer):=λ b hb hlt z=>by
  rcases List.mem_cons.mp (I.stkSub b z) with q | q
  ·have q:b=s.heap.objs.size:=q
   exact Nat.lt_irrefl _ (q ▸ hlt)
  ·exact hb q
 have inB':∀b o,s.heap.get? b=some o->H b=none->b ∉ frs outer->B.get? b=some o:=λ b o e n hb =>
  inB b o (ub.keep b o e n hb (by simp)) (ub.free b o e n (by simp)) (stk b hb (Heap.lt_size e))
 have thB':∀b o,s.heap.get? b=some o->b ∉ frs outer->∃o',B.get? b=some o':=λ b o e hb=>by
  obtain ⟨o1,e1⟩:=ub.there b o e (by simp)
  exact thB b o1 e1 (stk b hb (Heap.lt_size e))
 have sub:∀b,b∈frs outer->b∈frs (envOfC qual scope s.heap.objs.size f cd::outer):=λ b hb=>List.mem_cons_of_mem _ hb
 have slot:∀b o,s.heap.get? b=some o->H b=none->b∈frs outer->∃sl,h''.get? b=some { o with slots:=sl }:=λ b o e n hb=>by
  obtain ⟨sl1,e1⟩:=ub.slot b o e n hb (by simp)
  obtain ⟨sl2,e2⟩:=un.slot b _ e1 (ub.free b o e n (by simp)) (sub b hb) (by simp)
  obtain ⟨_,o3,e3,nf⟩:=I.ok.funs.mem hb
  have e3:s.heap.get? b=some o3:=e3
  rw [e] at e3;cases e3
  obtain ⟨sl3,e4⟩:=up'' b _ e2 nf
  exact ⟨sl3,e4⟩
 have frf:∀b∈frs outer,H b=none:=I.ok.frf
 refine ⟨a,C,a0,H',B,rfl,os.trans I.os,bare,fl'',inB',thB',⟨λ b o e n hb _=>Bs _ _ (inB' b o e n hb),λ b o e n hb _=>slot b o e n hb,λ b o e n _=>?_,λ b o e _=>?_,
  λ b xs e=>un.tups b xs (ub.tups b xs e),λ b o u e=>un.frzs b o u (ub.frzs b o u e),λ b ps e=>?_⟩,okB,hE⟩
 ·obtain ⟨o1,e1⟩:=ub.there b o e (by simp)
  exact un.free b o1 e1 (ub.free b o e n (by simp)) (by simp)
 ·by_cases hb:b∈frs outer
  ·obtain ⟨sl,q⟩:=slot b o e (frf b hb) hb
   exact ⟨_,q⟩
  ·obtain ⟨o',q⟩:=thB' b o e hb
   exact ⟨o',Bs _ _ q⟩
 ·obtain ⟨m1,q1⟩:=ub.tbls b ps e
  obtain ⟨m2,q2⟩:=un.tbls b _ q1
  exact ⟨m1++m2,by rw [q2,Array.append_assoc]⟩
def y4x (X:Cx) (Ex:Value->Hp->Prop):Prop:=∀(pins:List (Addr × Obj)) (σ:St) (H:Hp) (s:Shared) (h':Heap) (e C:Addr) (vs:List Value),Inv X pins σ H s->Heap.MadeExcOf s.heap h' e (.ref C) vs->Ex (.ref C) H->X.xe (.ref e) { s with heap:=h' }
theorem z2n:y4x (y6n (CX1 P w) P w K mg base N qual scope f cd A outer s H E) (λ c H'=>E c none H'):=by
 intro pins σ H1 s1 h' e C vs I hm hE
 have hfr:(y6n (CX1 P w) P w K mg base N qual scope f cd A outer s H E).A.frames=some (envOfC qual scope s.heap.objs.size f cd::outer):=I.ok.frames
 have st:s1.heap.FunFrames base (envOfC qual scope s.heap.objs.size f cd::outer):=I.stack
 refine wpAny_leaves_madeW (base:=W.hideAll s1.heap (frs (envOfC qual scope s.heap.objs.size f cd::outer))) hfr rfl (λ b o q=>W.of_hideAll _ q) (W.funFrames_hide st w2f) hm λ h'' t fl'' tp nt up''=>?_
 have ub:Un (frs outer) [] H H1 s.heap s1.heap:=I.base
 have Bs:=fl''.1
 have stk:∀b,b ∉ frs outer->b < s.heap.objs.size->b ∉ frs (envOfC qual scope s.heap.objs.size f cd::outer):=λ b hb hlt z=>by
  rcases List.mem_cons.mp (I.stkSub b z) with q | q
  ·have q:b=s.heap.objs.size:=q
   exact Nat.lt_irrefl _ (q ▸ hlt)
  ·exact hb q
 have inB':∀b o,s.heap.get? b=some o->H b=none->b ∉ frs outer->(W.hideAll s1.heap (frs (envOfC qual scope s.heap.objs.size f cd::outer))).get? b=some o:=λ b o e n hb =>
  W.hideAll_get _ (ub.keep b o e n hb (by simp)) (stk b hb (Heap.lt_size e))
 have thB':∀b o,s.heap.get? b=some o->b ∉ frs outer->∃o',(W.hideAll s1.heap (frs (envOfC qual scope s.heap.objs.size f cd::outer))).get? b=some o':=λ b o e hb=>by
  obtain ⟨o1,e1⟩:=ub.there b o e (by simp)
  exact ⟨o1,W.hideAll_get _ e1 (stk b hb (Heap.lt_size e))⟩
 have slot:∀b o,s.heap.get? b=some o->H b=none->b∈frs outer->∃sl,h''.get? b=some { o with slots:=sl }:=λ b o e n hb=>by
  obtain ⟨sl1,e1⟩:=ub.slot b o e n hb (by simp)
  obtain ⟨_,o3,e3,nf⟩:=I.ok.funs.mem hb
  have e3:s.heap.get? b=some o3:=e3
  rw [e] at e3;cases e3
  obtain ⟨sl3,e4⟩:=up'' b _ (hm.keeps _ _ e1) nf
  exact ⟨sl3,e4⟩
 have frf:∀b∈frs outer,H b=none:=I.ok.frf
 refine ⟨e,C,.ref t,H1,_,rfl,I.os,I.bare,fl'',inB',thB',⟨λ b o e n hb _=>Bs _ _ (inB' b o e n hb),λ b o e n hb _=>slot b o e n hb,λ b o e n _=>ub.free b o e n (by simp),λ b o e _=>?_,
  ub.tups,ub.frzs,ub.tbls⟩,x3p I.hok I.stkFree,hE⟩
 by_cases hb:b∈frs outer
 ·obtain ⟨sl,q⟩:=slot b o e (frf b hb) hb
  exact ⟨_,q⟩
 ·obtain ⟨o',q⟩:=thB' b o e hb
  exact ⟨o',Bs _ _ q⟩
end
def x5a (C:Addr) (Ex:Value->Hp->Prop) (t:TA):TS:=λ _ σ H=>t σ H λ vs H1=>vs.length≤sizeLine/\Ex (.ref C) H1
theorem z2e {X:Cx}{x:Str}{C:Addr}{B newId initId:String}{bm:List Value}{np cpos pos:Pos}{e₀:Expr}{es:List Expr}{t:TA}{Ex:Value->Hp->Prop}
  (FB:ExcBaseFacts B newId initId bm) (hc:X.calm=true) (hg:Gl X x) (hn:W.nsIn X.K mainGlobals x=some (some (.ref C))) (hq:W.excIn X.K C bm newId=true) (hx:y4x X Ex) (ha:PA X (e₀::es) t)
  (hs:starEach (e₀::es) X.env=(false,eval e₀ X.env)::starEach es X.env:=by rfl) (hpl:(backTo cpos (starEach es X.env)).any (·.1)=false:=by rfl) (hd:(x == ("__debug__" : Str))=false:=by decide) :
  PS X (.Raise (some (.Call (.Name x np) (e₀::es) [] cpos)) none pos) (x5a C Ex t):=by
 intro pins s σ H D I h
 have O:=x7h I.ok.mod.kin I.ok.mod.glob hn hq
 obtain ⟨tl,Nn,n1,q1,b1,d1,m1,u1,a1,l1,dd1,j0,j1,j2,j3,j5,mN,hC,hN,hni,T⟩:=O.obj
 refine wpAny_Raise_call_subT (C:=C) (nm:=n1) (q:=q1) (N:=Nn) (bs:=b1) (bm:=tl) (hdct:=d1) (sn:=m1) (sub:=u1) (ab:=a1) (col:=l1) (dd:=dd1) (k0:=j0) (k1:=j1) (k2:=j2) (k3:=j3) (k5:=j5) (mN:=mN)
  FB (T.hasType FB.hasBase) (I.ok.hd hc) (by rw [hs];show (false || (backTo cpos (starEach es X.env)).any (·.1))=false;rw [hpl];rfl) hni (z4i I hg O.bound ⟨rfl,?_⟩ hd)
 have hA:=ha cpos pins s σ H _ I h
 rw [hs] at hA ⊢
 refine Calls.evalArgs_plain (thn hA λ us s2 ⟨vs,H2,I2,r2,hz,hE⟩=>⟨rfl,?_,I2.bk _ _ hC,hN.keeps I2.bk,T.keeps I2.bk,λ h' e hm=>hx pins σ H2 s2 h' e C us I2 hm hE⟩)
 show us.length≤sizeLine
 rw [← r2.length]
 exact hz
section
variable {P:Program}{w:World}{K:W.Frag}{mg:Str->Option Value}{base:Heap}
theorem Fun.okX {x qual:Str}{st:Stmt}{f:Addr}{fd:FuncData}{N ps:List Str}{k:Nat}{sp:Sp}(F:Fun K x qual st f fd) (S:FnScope N ps (z0k st)) (len:∀vs H Q E,sp vs H Q E->vs.length=ps.length)
  (hbody:∀(cdv:Value) (A:Around) (outer:List Env) (s:Shared) (H:Hp) (vs:List V) (Q:VK) (E:XK),Room k (A.deeper (envOfC qual (z0k st) s.heap.objs.size f cdv))->sp vs H Q E ->
   ∃t,PSs (y6n (CX1 P w) P w K mg base N qual (z0k st) f cdv A outer s H E) (z1i st) t/\t { nx:=λ _ H'=>Q .non H',rt:=Q } (start N vs) H):FnOk P w K mg base (CX1 P w) (k+1) f fd ps sp:=by
 obtain ⟨oc,od,kV,doc,pm,an,cdv,ct,osl,rfl,lk,hcd⟩:=F.ex
 exact x8f lk hcd S len λ A outer s H vs Q E hr hsp=>hbody cdv A outer s H vs Q E hr hsp
theorem FnOk.up {k:Nat}{f:Addr}{fd:FuncData}{ps:List Str}{sp:Sp}(F:FnOk P w K mg base CX0 k f fd ps sp):FnOk P w K mg base (CX1 P w) k f fd ps sp :=
 ⟨F.len,λ A outer s H args us vs Q E h1 h2 h3 h4 h5=>codeAny_mono (F.run A outer s H args us vs Q E h1 h2 h3 h4 h5) λ r s' q=>by
  cases r with
  | error e=>exact False.elim q
  | ok fl=>cases fl<;>exact q⟩
end
theorem x5i {P:Program}{w:World}{X:Cx}:z3o (CX1 P w) X E0:=λ _ _ _ _ _ _ _ h=>by
 obtain ⟨_,_,_,_,_,_,_,_,_,_,_,_,_,q⟩:=h
 exact q.elim
def x8y (a C:Addr):HO:=.ext λ h=>∃o vs,h.get? a=some o/\o.cls=.ref C/\o.data=.fields vs
section
variable {X:Cx}{pins:List (Addr × Obj)}{σ:St}{H:Hp}{s:Shared}
theorem Inv.gone {i:Nat}{x:Str}{v:Option Value}{m:Str->Option Value}{h':Heap}{t':Nat}(I:Inv X pins σ H s) (hN:X.N.Nodup) (hi:X.N[i]?=some x) (hk:X.env.scope.names.lookup x=some .local) (hm:s.heap.Ns X.env.locals m)
  (hl:∀(j:Nat) (y:Str) (z:V),X.N[j]?=some y->σ[j]?=some (some z)->Vis X.env.scope y->∃u,RelV z u/\w6h X.env s.heap m y u) (hn':h'.Ns X.env.locals (λ y=>if y=x then v else m y)) (hs:Heap.SameBut X.env.locals s.heap h') :
  Inv X pins (σ.set i none) H { s with heap:=h',toks:=t' }:=by
 have hiσ:i < σ.length:=by rw [I.len];exact (List.getElem?_eq_some_iff.mp hi).1
 have cne:=I.cne
 have lne:∀b o,X.s₀.heap.get? b=some o->b≠X.env.locals:=λ b o e=>Nat.ne_of_lt (Nat.lt_of_lt_of_le (Heap.lt_size e) I.ok.above)
 refine ⟨I.ok,I.os,I.bare,⟨λ b o e n hb hx=>(hs.2 b (lne b o e)).trans (I.base.keep b o e n hb hx),λ b o e n hb hx=>?_,I.base.free,λ b o e hx=>?_,I.base.tups,I.base.frzs,I.base.tbls⟩,⟨_,hn',λ j y z e1 e2 e3=>?_⟩,
  λ y c e=>?_,I.free,I.freeC,λ p hp=>?_,λ b ob e=>?_,by simpa using I.len⟩
 ·obtain ⟨sl,q⟩:=I.base.slot b o e n hb hx
  exact ⟨sl,(hs.2 b (lne b o e)).trans q⟩
 ·obtain ⟨o',q⟩:=I.base.there b o e hx
  exact ⟨o',(hs.2 b (lne b o e)).trans q⟩
 ·by_cases hj:j=i
  ·subst hj
   rw [List.getElem?_set_self hiσ] at e2
   cases e2
  ·rw [List.getElem?_set_ne (Ne.symm hj)] at e2
   obtain ⟨u,r,q⟩:=hl j y z e1 e2 e3
   refine ⟨u,r,?_⟩
   rcases q with ⟨k,e⟩ | ⟨k,c,e,cz⟩
   ·refine .inl ⟨k,?_⟩
    have ny:y≠x:=λ e=>hj (y0e hN e1 (e ▸ hi))
    simp [ny,e]
   ·exact .inr ⟨k,c,e,cz.sameBut hs (cne y c e)⟩
 ·obtain ⟨w',z⟩:=I.cell y c e
  exact ⟨w',z.sameBut hs (cne y c e)⟩
 ·obtain ⟨e,n,ne,nf,d⟩:=I.pin p hp
  exact ⟨(hs.2 p.1 ne).trans e,n,ne,nf,d⟩
 ·refine (I.hok b ob e).stay (λ c w' hc q=>(hs.2 c ?_).trans q) (λ _ q=>q) λ _ _ q=>q
  rintro rfl
  rcases hc with rfl | hc
  ·rw [I.free] at e;cases e
  ·rw [I.free] at hc;cases hc
theorem Inv.track {a:Addr}{o:HO}(I:Inv X pins σ H s) (hn:H a=none) (new:ObjOk X.prog X.w (upd H a o) s.heap a o) (h1:a≠X.env.locals) (h2:∀x c,X.env.cells.lookup x=some c->c≠a) (h3:∀p∈X.pn++pins,p.1≠a)
  (h4:X.s₀.heap.get? a=none):Inv X pins σ (upd H a o) s:=by
 have ne:∀b u,H b=some u->b≠a:=λ b u e z=>by rw [z,hn] at e;cases e
 have n0:∀b u,X.s₀.heap.get? b=some u->b≠a:=λ b u e z=>by rw [z,h4] at e;cases e
 refine ⟨I.ok,I.os,I.bare,⟨I.base.keep,I.base.slot,λ b u e n hx=>?_,I.base.there,λ b xs e=>?_,λ b u v e=>?_,λ b ps e=>?_⟩,I.loc,I.cell,?_,λ x c e=>?_,λ p hp=>?_,λ b u e=>?_,I.len⟩
 ·rw [z0n (n0 b u e)];exact I.base.free b u e n hx
 ·have q:=I.base.tups b xs e
  rw [z0n (ne b _ q)];exact q
 ·have q:=I.base.frzs b u v e
  rw [z0n (ne b _ q)];exact q
 ·obtain ⟨more,q⟩:=I.base.tbls b ps e
  exact ⟨more,by rw [z0n (ne b _ q)];exact q⟩
 ·rw [z0n (Ne.symm h1)];exact I.free
 ·rw [z0n (h2 x c e)];exact I.freeC x c e
 ·obtain ⟨e,n,ne,nf,d⟩:=I.pin p hp
  exact ⟨e,by rw [z0n (h3 p hp)];exact n,ne,nf,d⟩
 ·by_cases hb:b=a
  ·subst hb;rw [z0f] at e;cases e;exact new
  ·rw [z0n hb] at e
   exact (I.hok b u e).stay (λ c v _ q=>q) (λ c q=>by rw [z0n (ne c _ q)];exact q) λ c xs q=>by rw [z0n (ne c _ q)];exact q
end
abbrev Cx.more (X:Cx) (xe:Value->Shared->Prop) (pn:List (Addr × Obj)):Cx:={ X with xe:=xe,pn:=pn }
abbrev Cx.suite (X:Cx) (a:Addr) (pn:List (Addr × Obj)):Cx:={ X with A:=X.A.mark (some (.ref a)),calm:=false,xe:=λ _ _=>False,pn:=pn }
theorem Cx.Ok.more {X:Cx}(ok:X.Ok) (xe:Value->Shared->Prop) (pn:List (Addr × Obj)):(X.more xe pn).Ok :=
 ⟨ok.mod,ok.kind,ok.glob,ok.blt,ok.above,ok.inj,ok.has,ok.cab,ok.hd,ok.frames,ok.stk,ok.exf,ok.bs,ok.bsz,ok.noex,ok.exfs,ok.funs,ok.frf⟩
theorem Cx.Ok.suite {X:Cx}(ok:X.Ok) (a:Addr) (pn:List (Addr × Obj)):(X.suite a pn).Ok :=
 ⟨ok.mod,ok.kind,ok.glob,ok.blt,ok.above,ok.inj,ok.has,ok.cab,λ z=>absurd z (by show ¬(false=true);decide),ok.frames,ok.stk,ok.exf,ok.bs,ok.bsz,ok.noex,ok.exfs,ok.funs,ok.frf⟩
def z3x (CX:CXT) (X:Cx) (E:XK) (σ:St):Prop:=∀(pins:List (Addr × Obj)) (H:Hp) (s:Shared) (e:Value) (s':Shared),Inv X pins σ H s->CX X.stack H s E e s'->X.xe e s'
section
variable {X:Cx}{CX:CXT}{k:Nat}{f:Addr}{fd:FuncData}{ps:List Str}{sp:Sp}{dvs:List V}{ds:List Value}{EE:St->XK}{x:Str}{p pos:Pos}{e:Expr}{es:List Expr}{t:TA}
def x9v (sp:Sp) (dvs:List V) (EE:St->XK) (t:TA):TE:=λ σ H Q=>t σ H λ vs H1=>sp (vs++dvs) H1 Q (EE σ)
end
def z4o (D:Ends) (i:Nat):Ends:={ nx:=λ σ H=>D.nx (σ.set i none) H,rt:=D.rt,bk:=λ σ H=>D.bk (σ.set i none) H,ct:=λ σ H=>D.ct (σ.set i none) H }
def y4u (C:Addr) (i:Nat) (ts:TS) (D:Ends):St->XK:=λ σ1 cls _ H1=>cls=.ref C/\∀a,H1 a=none->ts (z4o D i) (σ1.set i (some (.ref a))) (upd H1 a (x8y a C))
def w6p (C:Addr) (i:Nat) (tb:(St->XK)->TS) (ts:TS):TS:=λ D σ H=>tb (y4u C i ts D) D σ H
structure Callee (P:Program) (w:World) (K:W.Frag) (mg:Str->Option Value) (base:Heap) (CX:CXT) (k:Nat) (x:Str) (ps:List Str) (sp:Sp):Prop where
 has:∃(f:Addr) (fd:FuncData),FnOk P w K mg base CX k f fd ps sp/\mg x=some (.ref f)/\W.keepIn K (.ref f)=true/\Binds K fd ps []
theorem Callee.mk' {P:Program}{w:World}{K:W.Frag}{mg:Str->Option Value}{base:Heap}{CX:CXT}{k:Nat}{x qual:Str}{st:Stmt}{f:Addr}{fd:FuncData}{ps:List Str}{sp:Sp}(F:Fun K x qual st f fd) (m:mg x=some (.ref f)) (b:Binds K fd ps [])
  (ok:FnOk P w K mg base CX k f fd ps sp):Callee P w K mg base CX k x ps sp:=⟨⟨f,fd,ok,m,F.kp,b⟩⟩
theorem Callee.mono {P:Program}{w:World}{K:W.Frag}{mg:Str->Option Value}{base:Heap}{CX:CXT}{j k:Nat}{x:Str}{ps:List Str}{sp:Sp}(c:Callee P w K mg base CX j x ps sp) (h:j≤k):Callee P w K mg base CX k x ps sp :=
 let ⟨f,fd,ok,m,kp,b⟩:=c.has;⟨⟨f,fd,ok.mono h,m,kp,b⟩⟩
section
variable {X:Cx}{CX:CXT}{k:Nat}{ps:List Str}{sp:Sp}{E:XK}{x:Str}{p pos:Pos}{e:Expr}{es:List Expr}{t:TA}
theorem z0z (c:Callee X.prog X.w X.K X.mg X.base CX k x ps sp) (hr:Room k X.A) (hg:Gl X x) (hx:z3o CX X E) (ha:PA X (e::es) t) (hdb:(x == ("__debug__" : Str))=false:=by decide)
  (he:starEach (e::es) X.env=(false,eval e X.env)::starEach es X.env:=by rfl) (hpl:(backTo pos (starEach es X.env)).any (·.1)=false:=by rfl):PE X (.Call (.Name x p) (e::es) [] pos) (x5z sp [] E t):=by
 obtain ⟨f,fd,ok,m,kp,b⟩:=c.has
 exact x7g ok hr hg m kp b .nil hx ha hdb he hpl
theorem x4t:CallR X (.builtin "isinstance") (λ xs H Q=>∃x n t b,xs=[x,.ty n]/\TyOf X.K H x t/\W.kitOne X.K t (.type n)=some b/\Q (.bl b) H):=by
 intro pins s σ H xs us Q I r h
 obtain ⟨x,n,t,b,rfl,ty,e,q⟩:=h
 obtain ⟨u,w',rfl,rx,ry⟩:=y4y r
 cases (show w'=Value.type n from ry)
 exact x0i I rx ty e λ tk=>⟨.bl b,H,I.tok tk,rfl,q⟩
end
theorem z6k {scope:Scope}{env:Env}(hfree:∀y∈scope.names,y.2≠.free):(relabel scope env).names=scope.names:=by
 show scope.names.map _=scope.names
 have all:∀l:List (Str × NameKind),(∀y∈l,y.2≠.free)->(l.map λ (x:Str × NameKind)=>match x with | (n,k)=>if (k == .free && env.scope.kind == .function && env.kindOf n == some .cell) then (n,.cell) else (n,k))=l:=by
  intro l
  induction l with
  | nil=>intro _;rfl
  | cons y r ih =>
   intro hy
   obtain ⟨n,k⟩:=y
   have hk:(k == NameKind.free)=false:=by simpa using hy (n,k) (List.mem_cons_self ..)
   rw [List.map_cons,ih λ z hz=>hy z (List.mem_cons_of_mem _ hz)]
   simp [hk]
 exact all _ hfree
theorem y4h {X:Cx}{elt tg iter:Expr}{scope:Scope}{pos:Pos}{own:List Str}{wi:TI}{g:TG}{te:TE}
  (hc:X.calm=true) (hi:PI X tg iter wi) (hcell:∀y∈scope.names,y.2≠.cell) (hfree:∀y∈scope.names,y.2≠.free) (hkind:scope.kind=.function)
  (hnames:∀y∈scope.names,y.2=.local->scope.names.lookup y.1=some .local)
  (hg:∀(C:Addr) (ex:List Addr) (s:Shared) (H:Hp),PG (z2d X own scope [] C ex s H) tg g)
  (he:∀(C:Addr) (ex:List Addr) (s:Shared) (H:Hp),PE (z2d X own scope [] C ex s H) elt te)
  (hs:∀x,foldedSetIterable iter X.env x=pure x:=by intro _;rfl) :
  PE X (.ListComp elt [⟨tg,iter,[],0⟩] scope pos) (z3p wi own.length [] g te):=by
 refine z9z (own:=own) (fv:=[]) (js:=[]) (cl:=[]) hc hi (closureFor_none hfree) hcell hkind hnames (λ x c h=>by cases h) (λ x h=>?_) rfl (λ i x j h=>by simp at h) (by simpa using hg) (by simpa using he) hs
 rw [z6k hfree] at h
 rcases h with h | h
 ·exact absurd rfl (hcell _ (PySem.mem_of_lookup h))
 ·exact absurd rfl (hfree _ (PySem.mem_of_lookup h))
def w2w (i j:Int):Prop:=j≠0/\-18446744073709551616 < j/\j < 18446744073709551616
theorem x0d {y:Int}(h0:-18446744073709551616 < y) (h1:y < 18446744073709551616):y.natAbs.log2 < 9000:=by
 by_cases z:y.natAbs=0
 ·rw [z];decide
 ·exact Nat.lt_of_lt_of_le ((Nat.log2_lt z).mpr (show y.natAbs < 2 ^ 64 by lia)) (by decide)
theorem y4j {X:Cx}:OpR X (binaryOp .FloorDiv) (rI w2w λ i j=>.int (i.fdiv j)):=opI λ _ _ _ _ _ _ _ hc q=>floordiv_int hc.1 q (.inl (PyProof.noPylong_of_log2 (x0d hc.2.1 hc.2.2)))
section
variable {K:W.Frag}
def LoopL (K:PySem.W.Frag) (g:TG) (tb:TS) (D:Ends) (σ:St) (x:V) (H1:Hp):Prop:=∃a,x=.ref a/\(∃xs,SqL K H1 a xs)/\∃W:Nat->Nat->St->Hp->Prop,(∃m,W 0 m σ H1)/\∀i m σ H,W i m σ H ->
 ((Itl K a).stop i H/\D.nx σ H)\/((Itl K a).go i H/\∃N:St->Hp->Prop,(∀σ' H',N σ' H'->∃m',m' < m/\W (i+1) m' σ' H')/\∀x H',(Itl K a).yld i H x H'->g x σ H' λ σ2 H2=>tb { D with nx:=N,ct:=N,bk:=D.nx } σ2 H2)
def LoopT (K:PySem.W.Frag) (g:TG) (tb:TS) (D:Ends) (σ:St) (x:V) (H1:Hp):Prop:=∃a,x=.ref a/\(∃xs,SqT K H1 a xs)/\∃W:Nat->Nat->St->Hp->Prop,(∃m,W 0 m σ H1)/\∀i m σ H,W i m σ H ->
 ((Itt K a).stop i H/\D.nx σ H)\/((Itt K a).go i H/\∃N:St->Hp->Prop,(∀σ' H',N σ' H'->∃m',m' < m/\W (i+1) m' σ' H')/\∀x H',(Itt K a).yld i H x H'->g x σ H' λ σ2 H2=>tb { D with nx:=N,ct:=N,bk:=D.nx } σ2 H2)
def LoopR (lo:Int) (n:Nat) (g:TG) (tb:TS) (D:Ends) (σ:St) (H1:Hp):Prop:=∃W:Nat->Nat->St->Hp->Prop,(∃m,W 0 m σ H1)/\∀i m σ H,W i m σ H ->
 ((Itr lo n).stop i H/\D.nx σ H)\/((Itr lo n).go i H/\∃N:St->Hp->Prop,(∀σ' H',N σ' H'->∃m',m' < m/\W (i+1) m' σ' H')/\∀x H',(Itr lo n).yld i H x H'->g x σ H' λ σ2 H2=>tb { D with nx:=N,ct:=N,bk:=D.nx } σ2 H2)
theorem x8d {te:TE}{g:TG}{tb:TS}{D:Ends}{σ:St}{H:Hp}:y1y (x3n K te) g tb D σ H=te σ H λ x H1=>LoopL K g tb D σ x H1:=rfl
theorem x8b {te:TE}{g:TG}{tb:TS}{D:Ends}{σ:St}{H:Hp}:y1y (w2y K te) g tb D σ H=te σ H λ x H1=>LoopT K g tb D σ x H1:=rfl
theorem x4b {ta:TA}{g:TG}{tb:TS}{D:Ends}{σ:St}{H:Hp}:y1y (x3m ta) g tb D σ H=ta σ H λ vs H1=>∃j:Int,vs=[.int j]/\-(2 ^ 62)≤j/\j < 2 ^ 62/\LoopR 0 j.toNat g tb D σ H1:=rfl
theorem x4a {ta:TA}{g:TG}{tb:TS}{D:Ends}{σ:St}{H:Hp}:y1y (w4h ta) g tb D σ H=ta σ H λ vs H1=>∃i j:Int,vs=[.int i,.int j]/\(-(2 ^ 62)≤i/\i < 2 ^ 62/\-(2 ^ 62)≤j/\j < 2 ^ 62)/\LoopR i (j - i).toNat g tb D σ H1:=rfl
theorem LoopL.mk {a:Addr}{xs:List V}{g:TG}{tb:TS}{D:Ends}{σ:St}{H:Hp}(hS:SqL K H a xs) (Pv:Nat->St->Hp->Prop) (h0:Pv 0 σ H) (hl:∀i σ H,i≤xs.length->Pv i σ H->SqL K H a xs)
  (hs:∀i x σ H,xs[i]?=some x->Pv i σ H->g x σ H λ σ2 H2=>tb { D with nx:=Pv (i+1),ct:=Pv (i+1),bk:=D.nx } σ2 H2) (hd:∀σ H,Pv xs.length σ H->D.nx σ H):LoopL K g tb D σ (.ref a) H:=⟨a,rfl,⟨xs,hS⟩,x3u Pv h0 hl hs hd⟩
theorem LoopT.mk {a:Addr}{xs:List V}{g:TG}{tb:TS}{D:Ends}{σ:St}{H:Hp}(hS:SqT K H a xs) (Pv:Nat->St->Hp->Prop) (h0:Pv 0 σ H) (hl:∀i σ H,i≤xs.length->Pv i σ H->SqT K H a xs)
  (hs:∀i x σ H,xs[i]?=some x->Pv i σ H->g x σ H λ σ2 H2=>tb { D with nx:=Pv (i+1),ct:=Pv (i+1),bk:=D.nx } σ2 H2) (hd:∀σ H,Pv xs.length σ H->D.nx σ H):LoopT K g tb D σ (.ref a) H:=⟨a,rfl,⟨xs,hS⟩,x7x Pv h0 hl hs hd⟩
theorem LoopR.mk {lo:Int}{n:Nat}{g:TG}{tb:TS}{D:Ends}{σ:St}{H:Hp}(Pv:Nat->St->Hp->Prop) (h0:Pv 0 σ H)
  (hs:∀i σ H,i < n->Pv i σ H->g (.int (lo+i)) σ H λ σ2 H2=>tb { D with nx:=Pv (i+1),ct:=Pv (i+1),bk:=D.nx } σ2 H2) (hd:∀σ H,Pv n σ H->D.nx σ H):LoopR lo n g tb D σ H:=x0m Pv h0 hs hd
def CompL (K:PySem.W.Frag) (k:Nat) (js:List Nat) (g:TG) (te:TE) (σ:St) (x:V) (H1:Hp) (Q:VK):Prop:=∃a,x=.ref a/\(∃xs,SqL K H1 a xs)/\∃W:Nat->Nat->List V->St->Hp->Prop,(∃m,W 0 m [] (z1l k js σ) H1)/\∀i m ys σ' H',W i m ys σ' H' ->
  ((Itl K a).stop i H'/\∀p,H' p=none->Q (.ref p) (upd H' p (.lst ys))) \/
  ((Itl K a).go i H'/\ys.length < sizeLine/\∃N:List V->St->Hp->Prop,(∀zs σ2 H2,N zs σ2 H2->∃m',m' < m/\W (i+1) m' zs σ2 H2)/\∀x H2,(Itl K a).yld i H' x H2->g x σ' H2 λ σ3 H3=>te σ3 H3 λ v H4=>N (ys++[v]) σ3 H4)
def CompT (K:PySem.W.Frag) (k:Nat) (js:List Nat) (g:TG) (te:TE) (σ:St) (x:V) (H1:Hp) (Q:VK):Prop:=∃a,x=.ref a/\(∃xs,SqT K H1 a xs)/\∃W:Nat->Nat->List V->St->Hp->Prop,(∃m,W 0 m [] (z1l k js σ) H1)/\∀i m ys σ' H',W i m ys σ' H' ->
  ((Itt K a).stop i H'/\∀p,H' p=none->Q (.ref p) (upd H' p (.lst ys))) \/
  ((Itt K a).go i H'/\ys.length < sizeLine/\∃N:List V->St->Hp->Prop,(∀zs σ2 H2,N zs σ2 H2->∃m',m' < m/\W (i+1) m' zs σ2 H2)/\∀x H2,(Itt K a).yld i H' x H2->g x σ' H2 λ σ3 H3=>te σ3 H3 λ v H4=>N (ys++[v]) σ3 H4)
def CompR (lo:Int) (n k:Nat) (js:List Nat) (g:TG) (te:TE) (σ:St) (H1:Hp) (Q:VK):Prop:=∃W:Nat->Nat->List V->St->Hp->Prop,(∃m,W 0 m [] (z1l k js σ) H1)/\∀i m ys σ' H',W i m ys σ' H' ->
  ((Itr lo n).stop i H'/\∀p,H' p=none->Q (.ref p) (upd H' p (.lst ys))) \/
  ((Itr lo n).go i H'/\ys.length < sizeLine/\∃N:List V->St->Hp->Prop,(∀zs σ2 H2,N zs σ2 H2->∃m',m' < m/\W (i+1) m' zs σ2 H2)/\∀x H2,(Itr lo n).yld i H' x H2->g x σ' H2 λ σ3 H3=>te σ3 H3 λ v H4=>N (ys++[v]) σ3 H4)
theorem x4q {k:Nat}{js:List Nat}{ti:TE}{g:TG}{te:TE}{σ:St}{H:Hp}{Q:VK}:z3p (x3n K ti) k js g te σ H Q=ti σ H λ x H1=>CompL K k js g te σ x H1 Q:=rfl
theorem x4o {k:Nat}{js:List Nat}{ti:TE}{g:TG}{te:TE}{σ:St}{H:Hp}{Q:VK}:z3p (w2y K ti) k js g te σ H Q=ti σ H λ x H1=>CompT K k js g te σ x H1 Q:=rfl
theorem x1k {k:Nat}{js:List Nat}{ta:TA}{g:TG}{te:TE}{σ:St}{H:Hp}{Q:VK}:z3p (x3m ta) k js g te σ H Q=ta σ H λ vs H1=>∃j:Int,vs=[.int j]/\-(2 ^ 62)≤j/\j < 2 ^ 62/\CompR 0 j.toNat k js g te σ H1 Q:=rfl
theorem CompL.mk {a:Addr}{xs:List V}{k:Nat}{js:List Nat}{g:TG}{te:TE}{Q:VK}{σ:St}{H:Hp}(hS:SqL K H a xs) (Pv:Nat->List V->St->Hp->Prop) (h0:Pv 0 [] (z1l k js σ) H) (hl:∀i ys σ H,i≤xs.length->Pv i ys σ H->SqL K H a xs)
  (hs:∀i x ys σ H,xs[i]?=some x->Pv i ys σ H->ys.length < sizeLine/\g x σ H λ σ3 H3=>te σ3 H3 λ v H4=>Pv (i+1) (ys++[v]) σ3 H4) (hd:∀ys σ H,Pv xs.length ys σ H->∀p,H p=none->Q (.ref p) (upd H p (.lst ys))) :
  CompL K k js g te σ (.ref a) H Q:=⟨a,rfl,⟨xs,hS⟩,x1b Pv h0 hl hs hd⟩
theorem CompT.mk {a:Addr}{xs:List V}{k:Nat}{js:List Nat}{g:TG}{te:TE}{Q:VK}{σ:St}{H:Hp}(hS:SqT K H a xs) (Pv:Nat->List V->St->Hp->Prop) (h0:Pv 0 [] (z1l k js σ) H) (hl:∀i ys σ H,i≤xs.length->Pv i ys σ H->SqT K H a xs)
  (hs:∀i x ys σ H,xs[i]?=some x->Pv i ys σ H->ys.length < sizeLine/\g x σ H λ σ3 H3=>te σ3 H3 λ v H4=>Pv (i+1) (ys++[v]) σ3 H4) (hd:∀ys σ H,Pv xs.length ys σ H->∀p,H p=none->Q (.ref p) (upd H p (.lst ys))) :
  CompT K k js g te σ (.ref a) H Q:=⟨a,rfl,⟨xs,hS⟩,x4l Pv h0 hl hs hd⟩
theorem CompR.mk {lo:Int}{n k:Nat}{js:List Nat}{g:TG}{te:TE}{Q:VK}{σ:St}{H:Hp}(Pv:Nat->List V->St->Hp->Prop) (h0:Pv 0 [] (z1l k js σ) H)
  (hs:∀i ys σ H,i < n->Pv i ys σ H->ys.length < sizeLine/\g (.int (lo+i)) σ H λ σ3 H3=>te σ3 H3 λ v H4=>Pv (i+1) (ys++[v]) σ3 H4) (hd:∀ys σ H,Pv n ys σ H->∀p,H p=none->Q (.ref p) (upd H p (.lst ys))) :
  CompR lo n k js g te σ H Q:=y6o Pv h0 hs hd
end
theorem w2o {CX:CXT}{P:Program}{w:World}{K:W.Frag}{mg:Str->Option Value}{base:Heap}{N:List Str}{qual:Str}{scope:Scope}{f:Addr}{cd:Value}{A:Around}{outer:List Env}{s:Shared}{H:Hp}{E:XK}:(y6n CX P w K mg base N qual scope f cd A outer s H E).K=K:=rfl
theorem x4k {X:Cx}{N:List Str}{scope:Scope}{cl:List (Str × Addr)}{C:Addr}{ex:List Addr}{s:Shared}{H:Hp}:(z2d X N scope cl C ex s H).K=X.K:=rfl
def tyS:V->Option String
 | .int _=>some "int"
 | .bl _=>some "bool"
 | .str _=>some "str"
 | .non=>some "NoneType"
 | _=>none
def x9b (t n:String):Bool:=t == n || (t == "bool" && n == "int")
def w1w (x:V) (n:String):Bool:=match tyS x with
 | some t=>x9b t n
 | none=>false
theorem w1s {i:Int}:w1w (.int i) "int"=true:=by show x9b "int" "int"=true;decide +kernel
theorem w1t {i:Int}:w1w (.int i) "bool"=false:=by show x9b "int" "bool"=false;decide +kernel
theorem w1u {b:Bool}:w1w (.bl b) "int"=true:=by show x9b "bool" "int"=true;decide +kernel
theorem w1v {b:Bool}:w1w (.bl b) "bool"=true:=by show x9b "bool" "bool"=true;decide +kernel
theorem w1r {i:Int}:w1w (.int i) "tuple"=false:=by show x9b "int" "tuple"=false;decide +kernel
theorem x3l {K:W.Frag}{t n:String}{b:Bool}(e:(if (Value.type t == Value.type n)=true then some true else if W.kitMeta n=true then (fastBuiltinMro t).map (·.contains (.type n)) else none)=some b):W.kitOne K (.type t) (.type n)=some b:=by
 unfold W.kitOne
 split at e
 ·rename_i h;rw [if_pos h];exact e
 ·rename_i h;rw [if_neg h];exact e
theorem na2:(Int.natAbs 2 < 18446744073709551616)=True:=eq_true (by decide)
theorem w7i:(Int.natAbs 10 < 18446744073709551616)=True:=eq_true (by decide)
theorem z0b {H:Hp}{p:Addr}(h:H p=none) (o:HO):Same H (upd H p o):=λ b u q=>by rw [z0n (z2t q h)];exact q
theorem small {n:Nat}(h:n≤1000):n≤sizeLine:=Nat.le_of_lt (z1e h)
theorem Same.tup {K:W.Frag}{H H':Hp}{a:Addr}{xs:List V}(e:Same H H') (h:SqT K H a xs):SqT K H' a xs:=by
 rcases h with (h | ⟨o,h⟩) | h
 ·exact .inl (.inl (e _ _ h))
 ·exact .inl (.inr ⟨o,e _ _ h⟩)
 ·exact .inr h
theorem x9x {σ:St}(h:σ.length=1):∃z,σ=[z]:=by
 match σ,h with
 | [z],_=>exact ⟨z,rfl⟩
theorem y5c {α:Type}{l:List α}{i:Nat}{x:α}(h:l[i]?=some x):l.take (i+1)=l.take i++[x]:=by
 rw [List.take_succ,h];rfl
theorem CompL.vals {K:W.Frag}{a:Addr}{xs:List V}{te:TE}{Q:VK}{σ:St}{H:Hp}{fn:V->V}(hS:SqL K H a xs) (hz:xs.length≤1000)
  (hs:∀x∈xs,∀H1,Same H H1->∀Q':VK,(∀H2,Same H1 H2->Q' (fn x) H2)->te [some x] H1 Q')
  (hd:∀H1,Same H H1->∀p,H1 p=none->Q (.ref p) (upd H1 p (.lst (xs.map fn)))):CompL K 1 [] (z6g 0) te σ (.ref a) H Q:=by
 refine CompL.mk hS (λ i ys σ' H'=>Same H H'/\ys=(xs.take i).map fn/\σ'.length=1) ⟨Same.refl _,rfl,rfl⟩ (λ i ys σ' H' _ h=>h.1.seq hS) (λ i x ys σ' H' e h=>?_) (λ ys σ' H' h p hp=>?_)
 ·obtain ⟨h1,rfl,h3⟩:=h
  obtain ⟨z,rfl⟩:=x9x h3
  refine ⟨?_,?_⟩
  ·rw [List.length_map,List.length_take]
   exact Nat.lt_of_le_of_lt (Nat.min_le_right _ _) (z1e hz)
  ·refine hs x (List.mem_of_getElem? e) H' h1 _ λ H2 h2=>⟨h1.trans h2,?_,rfl⟩
   rw [y5c e,List.map_append];rfl
 ·obtain ⟨h1,rfl,h3⟩:=h
  rw [List.take_length]
  exact hd H' h1 p hp
section
variable {X:Cx}
def w5r:R2:=λ x y H Q=>∃p xs,y=.ref p/\H p=some (.tup xs)/\z1r x=true/\xs.all z1r=true/\Q (.bl (inV x xs)) H
def w7b:R2:=λ x y H Q=>∃p xs,y=.ref p/\H p=some (.lst xs)/\z1r x=true/\xs.all z1r=true/\Q (.bl (inV x xs)) H
theorem y9m:OpR X (compareOp .In) w5r:=by
 intro pins s σ H x y v u Q I rx ry h
 obtain ⟨p,xs,rfl,hq,fx,fs,q⟩:=h
 exact y9l pins s σ H x _ v u Q I rx ry ⟨p,xs,rfl,.inr (.of hq),fx,fs,q⟩
def w0u:R2:=λ x y H Q=>∃p xs i v,x=.ref p/\y=.int i/\H p=some (.lst xs)/\atI xs i=some v/\Q v H
def w0t:R2:=λ x y H Q=>∃p xs i v,x=.ref p/\y=.int i/\H p=some (.tup xs)/\atI xs i=some v/\Q v H
theorem z0u:IxR X w0u:=by
 intro value slice pins s σ H x y v u Q I rx ry h hs
 obtain ⟨p,xs,i,z,rfl,rfl,hq,he,q⟩:=h
 exact y3f value slice pins s σ H _ _ v u Q I rx ry ⟨p,xs,i,z,rfl,rfl,.of hq,he,q⟩ hs
theorem z0l:IxR X w0t:=by
 intro value slice pins s σ H x y v u Q I rx ry h hs
 obtain ⟨p,xs,i,z,rfl,rfl,hq,he,q⟩:=h
 exact w1q value slice pins s σ H _ _ v u Q I rx ry ⟨p,xs,i,z,rfl,rfl,.of hq,he,q⟩ hs
end
section
variable {X:Cx}
def w2d (n:Nat) (t:TGs):TG:=λ v σ H Q=>∃a xs,v=.ref a/\H a=some (.tup xs)/\xs.length=n/\t xs σ H Q
theorem z2i {es:List Expr}{k:Nat}{pos:Pos}{t:TGs}{n:Nat}(h:PG X (.Tuple es k pos) (w4k X.K n t)):PG X (.Tuple es k pos) (w2d n t):=by
 intro pins s σ H v u Q I r q
 obtain ⟨a,xs,e,ha,hl,q⟩:=q
 exact h pins s σ H v u Q I r ⟨a,xs,e,.of ha,hl,q⟩
def w5j (to te:TE):TE:=λ σ H Q=>to σ H λ x H1=>∃l,x=.ref l/\(∃xs,H1 l=some (.lst xs))/\te σ H1 λ v H2=>∃xs,H2 l=some (.lst xs)/\xs.length < sizeLine/\Q .non (upd H2 l (.lst (xs++[v])))
theorem z5q {o e:Expr}{to te:TE}{apos cpos:Pos}(ho:PE X o to) (he:PE X e te)
  (hbase:attributeBase o "append" X.env (eval o X.env)=eval o X.env:=by rfl) (hfew:((backTo cpos (starEach [e] X.env)).all (λ x=>!x.1) && (backToKw cpos (keywordEach [] X.env)).all (λ x=>x.1.isSome)
   && decide ([e].length+([]:List Keyword).length+(if ([]:List Keyword).isEmpty then 0 else 1) < 30))=true:=by rfl)
  (hline:(apos.endLine == cpos.line)=true:=by rfl) (hs:starEach [e] X.env=[(false,eval e X.env)]:=by rfl):PE X (.Call (.Attribute o "append" apos) [e] [] cpos) (w5j to te):=by
 intro pins s σ H Q I h
 refine wpAny_Call_method_late hbase hfew hline rfl (thn (ho pins s σ H _ I h) λ v s1 ⟨x,H1,I1,r1,q1⟩=>?_)
 obtain ⟨l,rfl,⟨xs1,hx1⟩,q2⟩:=q1
 obtain ⟨h1,h2⟩:=y7b (T := "list") I1 r1 (.inl ⟨rfl,_,.of hx1⟩)
 refine ⟨"list","list.append",PySem.F.plainAttrs_list,PySem.F.slot_list_append,PySem.F.type_list_append,h1,h2,?_⟩
 have hA:=(z0a he z0e hs) cpos pins s1 σ H1 (λ vs H2=>match vs with | [v]=>∃xs,H2 l=some (.lst xs)/\xs.length < sizeLine/\Q .non (upd H2 l (.lst (xs++[v]))) | _=>False) I1 q2
 rw [hs] at hA ⊢
 refine Calls.callWith_builtin rfl (Calls.evalArgs_plain ?_)
 refine thn hA λ us s2 ⟨vs,H2,I2,r2,q3⟩=>?_
 match vs,q3 with
 | [v2],⟨xs,hx,hz,q⟩=>exact y9y pins s2 σ H2 (.ref l) [v2] v us Q I2 r1 r2 ⟨l,xs,v2,rfl,rfl,hx,hz,q⟩
end
def SameX (l:Addr) (H H':Hp):Prop:=∀b o,b≠l->H b=some o->H' b=some o
theorem SameX.refl (l:Addr) (H:Hp):SameX l H H:=λ _ _ _ h=>h
theorem SameX.trans {l:Addr}{H H1 H2:Hp}(a:SameX l H H1) (b:SameX l H1 H2):SameX l H H2:=λ c o n h=>b c o n (a c o n h)
theorem SameX.set {l:Addr}(H:Hp) (o:HO):SameX l H (upd H l o):=λ b u n e=>by rw [z0n n];exact e
end L2
namespace L2
open PySem PySem.Spec PyProof.Rows PySem.W PySem.Calls
structure ExcK (K:W.Frag) (C:Addr):Prop where
 cls:(clsIn K C).isSome=true
 ga:findIn K (.ref C) "__getattribute__"=some (some (.builtin "BaseException.__getattribute__"))
 gt:findIn K (.ref C) "__getattr__"=some none
 cl:findIn K (.ref C) "__class__"=some (some (.builtin "object.__class__"))
 mo:mroIn K C (.type "object")=some true
 mb:mroIn K C (.type "BaseException")=some true
section
variable {prog:Program}{w:World}{A:Around}{E:Value->Shared->Prop}{K:W.Frag}{h:Heap}{g:Array GenState}{d:Drawn}{t:Nat}{os:OsState}{a C:Addr}{ox:Obj}
theorem x8h {R:Result->Shared->Prop}(X:K.In h) (k:ExcK K C) (hx:h.get? a=some ox) (hc:ox.cls=.ref C) (hq:R (.ok (.ret (.ref C))) ⟨h,g,d,t,os⟩) :
  codeAny (model prog w) A (.call (.builtin "getset_descriptor.__get__") ⟨[.builtin "object.__class__",.ref a,.ref C],[]⟩) R ⟨h,g,d,t,os⟩:=by
 have L0:Looks (model prog w) h (typeOf (.ref a)) (.ref C):=hc ▸ (Looks.ld hx).andThen .now
 have L1:=looks_mroIn (M:=model prog w) X k.mo
 have hT5:(⟨h,g,d,t,os⟩:Shared).TypeIs (.builtin "object.__class__") "getset_descriptor" := F.typeOf_object_class
 have L2:Looks (model prog w) h (isSubtype (.ref C) (.type (".".intercalate ("object.__class__".cutAt '.').dropLast))) true:=by
  rw [show (".".intercalate ("object.__class__".cutAt '.').dropLast)="object" by decide +kernel]
  exact L1
 refine codeAny_call_builtin F.slot_gs_get.plain F.entry_gs_get (F.slot_gs_get.check _ _ _ _ _ _ _ _ hT5 (F.args_gs_get _ _ _) ?_)
 repeat (any_goals (first | assumption | with_reducible refine L0.at ?_ | with_reducible refine L2.at ?_ | wp_step))
 refine ⟨Code.quiet_builtin _ (by decide +kernel),codeAny_builtin F.entry_object_class ?_⟩
 repeat (any_goals (first | assumption | with_reducible refine L0.at ?_ | wp_step))
theorem x0n {tk:Tok}{Q:Fin->Shared->Prop}(X:K.In h) (k:ExcK K C) (hx:h.get? a=some ox) (hc:ox.cls=.ref C) (hq:Q (.done (.ret (.ref C))) ⟨h,g,d,t,os⟩) :
  wpAny (model prog w) A (Builtin.«object.__getattribute__» ⟨[.ref a,.str "__class__" tk],[]⟩) Q E ⟨h,g,d,t,os⟩:=by
 have L0:Looks (model prog w) h (typeOf (.ref a)) (.ref C):=hc ▸ (Looks.ld hx).andThen .now
 have L3:=looks_findIn (M:=model prog w) X k.cl
 have hT5:(⟨h,g,d,t,os⟩:Shared).TypeIs (.builtin "object.__class__") "getset_descriptor" := F.typeOf_object_class
 have f5:=F.typeOf_object_class
 have f6:=F.slot_gs_get.lookup
 have f7:=F.slot_gs_set.lookup
 repeat (any_goals (first | assumption | with_reducible refine L0.at ?_ | with_reducible refine L3.at ?_ | wp_step))
 refine x8h X k hx hc ?_
 repeat (any_goals (first | assumption | wp_step))
theorem x0o {M:Model}{nameV:Value}{Q:Unit->Shared->Prop}(X:K.In h) (k:ExcK K C) (hx:h.get? a=some ox) (hc:ox.cls=.ref C) (hq:Q () ⟨h,g,d,t,os⟩) :
  wpAny M A (checkBuiltinCall "BaseException.__getattribute__" ⟨[.ref a,nameV],[]⟩) Q E ⟨h,g,d,t,os⟩:=by
 have e1:builtinKind "BaseException.__getattribute__"=some .slot:=by decide +kernel
 have e2:splitId "BaseException.__getattribute__"=some ("BaseException","__getattribute__"):=by decide +kernel
 have e3:=F.args_bexc_ga (.ref a) nameV
 have L0:Looks M h (typeOf (.ref a)) (.ref C):=hc ▸ (Looks.ld hx).andThen .now
 have L5:=looks_mroIn (M:=M) X k.mb
 have LI:Looks M h (isInstance (.ref a) (.type "BaseException")) true:=L0.andThen L5
 simp only [checkBuiltinCall,e1,e2]
 refine wpAny_bind (LI.at ?_)
 repeat (first | assumption | wp_step)
theorem w2h {Q:Option Value->Shared->Prop}{s:Shared}(X:K.In s.heap) (k:ExcK K C) (hx:s.heap.get? a=some ox) (hc:ox.cls=.ref C) (hq:Q (some (.ref C)) { s with toks:=s.toks+1 }) :
  wpAny (model prog w) A (getAttr? (.ref a) "__class__") Q E s:=by
 obtain ⟨h,g,d,t,os⟩:=s
 have L0:Looks (model prog w) h (typeOf (.ref a)) (.ref C):=hc ▸ (Looks.ld hx).andThen .now
 have L1:=looks_findIn (M:=model prog w) X k.ga
 have L2:=looks_findIn (M:=model prog w) X k.gt
 have f3:=F.excAttr_ValueError.ga.bind (.ref a)
 unfold getAttr? getAttrBy? getAttrBy
 refine wpAny_bind (wpAny_mkText (wpAny_bind (wpAny_attempt (wpAny_holding (wpAny_bind (L0.at (wpAny_bind (L1.at ?_))))))))
 dsimp only
 have n1:¬(onTheHeap (Value.ref C) && Value.builtin "BaseException.__getattribute__" == Value.builtin "object.__getattribute__")=true:=by
  show ¬((true && (Value.builtin "BaseException.__getattribute__" == Value.builtin "object.__getattribute__"))=true)
  decide +kernel
 rw [if_neg n1]
 unfold getAttrByItsOwn hookBefore
 refine wpAny_bind ?_
 rw [if_pos (show onTheHeap (Value.ref C)=true from rfl)]
 refine L2.at (wpAny_bind (wpAny_attempt (wpAny_holding ?_)))
 unfold callGetattribute
 rw [if_neg (by decide +kernel)]
 unfold boundAndCalled
 refine wpAny_bind (wpAny_of_eq f3 ?_)
 refine wpAny_call (codeAny_call_builtin F.excAttr_ValueError.ga.plain F.entry_bexc_ga (x0o X k hx hc (x0n X k hx hc ?_)))
 repeat (any_goals (first | assumption | wp_step))
end
theorem x3k {K:W.Frag}{a C:Addr}(k:ExcK K C):KitX K (.ref a) (.ref C) (λ h=>∃o vs,h.get? a=some o/\o.cls=.ref C/\o.data=.fields vs) where
 ty:=λ M h _ ⟨o,_,h1,h2,_⟩=>h2 ▸ (Looks.ld h1).andThen .now
 it:=λ M h X _=>by
  obtain ⟨cd,hcd⟩:=Option.isSome_iff_exists.mp k.cls
  unfold clsIn at hcd
  split at hcd
  ·rename_i z1 z2 z3 z4 hlk
   intro A' Q' E' s' kk q
   unfold isType loadHead
   exact wpAny_bind (wpAny_loadPart (kk _ _ (X _ _ hlk)) (wpAny_pure q))
  ·cases hcd
 ne:=λ h tp dd its n sl X htp=>by
  obtain ⟨cd,hcd⟩:=Option.isSome_iff_exists.mp k.cls
  refine Bool.eq_false_iff.mpr λ q=>?_
  have e:C=tp:=Value.ref.inj (beq_iff_eq.mp q)
  subst e
  unfold clsIn at hcd
  split at hcd
  ·rename_i z1 z2 z3 z4 hlk
   have z:=(X _ _ hlk).symm.trans htp
   cases z
  ·cases hcd
 ca:=λ X ⟨o,_,h1,h2,_⟩ q=>w2h X k h1 h2 q
section
variable {X:Cx}
theorem z6i {C:Addr}{cs:List Addr}{b:Bool}(k:ExcK X.K C) (e:kitAny X.K (.ref C) (cs.map Value.ref)=some b) :
  CallR X (.builtin "isinstance") (λ xs H Q=>∃a p,xs=[.ref a,.ref p]/\H a=some (x8y a C)/\H p=some (.tup (cs.map V.ref))/\Q (.bl b) H):=by
 intro pins s σ H xs us Q I r h
 obtain ⟨a,p,rfl,ha,hp,q⟩:=h
 obtain ⟨u,u',rfl,r1,r2⟩:=y4y r
 cases (show u=Value.ref a from r1)
 cases (show u'=Value.ref p from r2)
 obtain ⟨pe,_⟩:=(show ObjOk X.prog X.w H s.heap a (x8y a C) from I.hok a _ ha)
 obtain ⟨zz,its,rv,ot,h1,h2,n,h3⟩:=(show ObjOk X.prog X.w H s.heap p (.tup (cs.map V.ref)) from I.hok p _ hp)
 have ei:its=cs.map Value.ref:=by
  clear hp h3 h1 e zz
  induction cs generalizing its with
  | nil=>cases rv;rfl
  | cons c r ih =>
   cases rv with
   | cons z rr =>
    rw [ih _ rr]
    cases (show _=Value.ref c from z)
    rfl
 subst ei
 obtain ⟨oc,od,oda,osl⟩:=ot
 dsimp only at h2 h3
 subst h2 h3
 exact kia_tup (x3k k) I.kIn pe h1 e (λ z=>nomatch z) λ tk=>⟨.bl b,H,I.tok tk,rfl,q⟩
theorem z3z {x:Str}{C:Addr}{pos:Pos}(hg:Gl X x) (hn:W.nsIn X.K mainGlobals x=some (some (.ref C))) (hd:(x == ("__debug__" : Str))=false:=by decide):PE X (.Name x pos) (tC (.ref C)):=by
 intro pins s σ H Q I h
 exact z4i I hg (W.mg_of I.ok.mod.kin I.ok.mod.glob hn) ⟨.ref C,H,I,rfl,h⟩ hd
end
def x2l (t:Addr) (i:Int):Obj:={ cls:=.type "reversed",data:=.fields #[.ref t,rawInt i] }
def IsRv (h:Heap) (a t:Addr) (i:Int):Prop:=∃o,h.get? a=some o/\o.cls=.type "reversed" /\ o.data=.fields #[.ref t,rawInt i]
theorem IsRv.typeIs {s:Shared}{a t:Addr}{i:Int}(x:IsRv s.heap a t i):s.TypeIs (.ref a) "reversed" := let ⟨o,ho,hc,_⟩:=x;⟨o,ho,hc⟩
theorem y7g:typeLookup (.type "tuple") "__reversed__"=pure none:=by rw [typeLookup_type,builtinLookup_eq_fast];kernel_rfl
theorem z6y:typeLookup (.type "tuple") "__getitem__"=pure (some (.builtin "tuple.__getitem__")):=by rw [typeLookup_type,builtinLookup_eq_fast];kernel_rfl
theorem y5b:isSubtype (.type "tuple") (.type "dict")=pure false:=by rw [isSubtype_type];kernel_rfl
theorem x6m:Slot "reversed" "__init__" "object.__init__" :=
 .of (owner := "object") (n := "__init__") (by rw [typeLookup_type,builtinLookup_eq_fast];kernel_rfl) (by decide +kernel) (by decide +kernel) (by decide +kernel) (.inl (by decide +kernel)) (by rw [isSubtype_type];kernel_rfl)
theorem rv_next:Slot "reversed" "__next__" "reversed.__next__" :=
 .of (owner := "reversed") (n := "__next__") (by rw [typeLookup_type,builtinLookup_eq_fast];kernel_rfl) (by decide +kernel) (by decide +kernel) (by decide +kernel) (.inl (by decide +kernel)) (by rw [isSubtype_type];kernel_rfl)
theorem y8i:Slot "reversed" "__iter__" "reversed.__iter__" :=
 .of (owner := "reversed") (n := "__iter__") (by rw [typeLookup_type,builtinLookup_eq_fast];kernel_rfl) (by decide +kernel) (by decide +kernel) (by decide +kernel) (.inl (by decide +kernel)) (by rw [isSubtype_type];kernel_rfl)
theorem z5m:entryFor table "reversed.__next__"=some Builtin.«reversed.__next__»:=entryFor_of_tree (by kernel_rfl)
theorem z9s:entryFor table "reversed.__iter__"=some Builtin.«dict_keyiterator.__iter__» :=
 entryFor_alias (id' := "dict_keyiterator.__iter__") (by kernel_rfl) (by first | rfl | decide +kernel) (by decide +kernel) (by kernel_rfl)
theorem z6j (a:Value):argsOk "reversed.__next__" ⟨[a],[]⟩:=by unfold argsOk;kernel_rfl
theorem y0w (a:Value):argsOk "reversed.__iter__" ⟨[a],[]⟩:=by unfold argsOk;kernel_rfl
theorem y8j:TypeCalled "reversed" "reversed.__new__" "object.__init__" :=
 ⟨by decide +kernel,PySem.F.create_reversed,⟨_,_,PySem.F.mro_reversed⟩,PySem.F.made_reversed,PySem.F.plain_reversed_new,PySem.F.sub_reversed_self,x6m⟩
theorem w0f (t:Addr) (items:Array Value) (hz:(items.size:Int) < 2 ^ 63):Meets (Builtin.«reversed.__new__» ⟨[.type "reversed",.ref t],[]⟩)
  (λ _ R s=>IsTup s.heap t items/\∀tk,R (.ok (.ret (.ref s.heap.objs.size))) { s with heap:=s.heap.push (x2l t ((items.size:Int) - 1)),toks:=tk }) :=
 .of_wp λ prog w A R s h=>by
  obtain ⟨ht,h⟩:=h
  have hT:s.TypeIs (.ref t) "tuple" := ht.typeIs
  unfold Builtin.«reversed.__new__»
  refine wpAny_bind (wpAny_of_eq (PySem.newClass_reversed _) ?_)
  try dsimp only
  refine wpAny_bind (wpAny_of_eq (a:=()) (by first | rfl | kernel_rfl) ?_)
  refine wpAny_bind (wpAny_of_eq (a:=()) (by first | rfl | kernel_rfl) ?_)
  try dsimp only
  refine wpAny_bind (wpAny_specialOf hT y7g ?_)
  try dsimp only
  refine wpAny_bind ?_
  k_delta "hasItemSlot"
  refine wpAny_bind (wpAny_isInstance (T := "tuple") (b:=false) hT y5b ?_)
  rw [if_neg Bool.false_ne_true]
  refine wpAny_bind (wpAny_specialOf hT z6y ?_)
  dsimp only
  rw [if_pos (by decide +kernel)]
  refine wpAny_pure ?_
  rw [if_neg (by decide)]
  refine wpAny_bind (len_tuple ht hz ?_)
  refine wpAny_bind (wpAny_of_eq (a:=some (items.size:Int)) rfl ?_)
  dsimp only
  refine wpAny_bind ?_
  unfold Builtin.SmallTypes.newRecord
  refine wpAny_newObj_type (wpAny_pure ⟨_,rfl,h _⟩)
section
variable {prog:Program}{w:World}{A:Around}{E:Value->Shared->Prop}{s:Shared}
theorem x8k {t:Addr}{items:Array Value}{Q:Value->Shared->Prop}(ht:IsTup s.heap t items) (hz:(items.size:Int) < 2 ^ 63)
  (h:∀tk,Q (.ref s.heap.objs.size) { s with heap:=s.heap.push (x2l t ((items.size:Int) - 1)),toks:=tk }):wpAny (model prog w) A (call (.type "reversed") [.ref t]) Q E s :=
 callType_new y8j (by decide) (PySem.F.typeCall_reversed_1 _) (PySem.F.newCall_reversed_1 _) (λ obj=>F.args_object_init_2 obj _) PySem.F.entry_reversed_new (w0f t items hz)
  ⟨ht,λ tk=>⟨⟨_,Heap.get?_push_size _ rfl,rfl⟩,h tk⟩⟩
theorem x6l {it t:Addr}{i:Nat}{items:Array Value}{x:Value}{Q:Option Value->Shared->Prop}(hit:IsRv s.heap it t (i:Int)) (ht:IsTup s.heap t items) (hx:items[i]?=some x) (hz:(items.size:Int) < 2 ^ 63)
  (hQ:∀h' tk,IsRv h' it t ((i:Int) - 1)->Heap.SameBut it s.heap h'->Q (some x) { s with heap:=h',toks:=tk }):wpAny (model prog w) A (pyNext (.ref it)) Q E s:=by
 obtain ⟨o,ho,hc,hd⟩:=id hit
 have hT:s.TypeIs (.ref t) "tuple" := ht.typeIs
 have hi:i < items.size:=(Array.getElem?_eq_some_iff.mp hx).1
 unfold pyNext
 refine wpAny_bind (wpAny_attempt (wpAny_callSpecial?_slot (name:=Str.ofString "__next__") hit.typeIs rv_next (wpAny_call_entry rv_next hit.typeIs z5m ?_ (z6j _))))
 unfold Builtin.«reversed.__next__»
 refine wpAny_bind (wpAny_of_eq (a:=(Value.ref it,[])) rfl ?_)
 try dsimp only
 refine wpAny_bind (wpAny_field ho hd (x:=.ref t) rfl ?_)
 refine wpAny_bind (wpAny_field ho hd (x:=rawInt (i:Int)) rfl ?_)
 show wpAny _ _ (if (i:Int) < 0 then _ else _) _ _ s
 rw [if_neg (by lia)]
 refine wpAny_bind (wpAny_specialOf hT z6y ?_)
 rw [if_neg (by decide)]
 refine wpAny_bind (wpAny_mkInt ?_)
 refine wpAny_bind (wpAny_attempt (getItem_tuple (k:=(i:Int)) (j:=i) ht (by lia) (by lia) (by simp [seqIndex?];lia) hx ?_))
 dsimp only
 refine wpAny_bind (wpAny_field ho hd (x:=rawInt (i:Int)) rfl ?_)
 show wpAny _ _ (setField (.ref it) 1 (rawInt ((i:Int) - 1)) >>= _) _ _ _
 refine wpAny_bind (wpAny_setField ho hd (by simp) ?_)
 refine wpAny_pure ⟨x,rfl,wpAny_pure (hQ _ _ ?_ (Heap.SameBut.update ..))⟩
 exact ⟨_,Heap.get?_update_self _ ho (Obj.isFreed_of_fields (Obj.data_mapFields hd _)),(Obj.cls_mapFields ..).trans hc,by rw [Obj.data_mapFields hd];simp⟩
theorem w0g {it t:Addr}{Q:Option Value->Shared->Prop}(hh:A.handled=none) (hit:IsRv s.heap it t (-1)) (hQ:∀h' tk,Heap.ExtBut it s.heap h'->Q none { s with heap:=h',toks:=tk }):wpAny (model prog w) A (pyNext (.ref it)) Q E s:=by
 obtain ⟨o,ho,hc,hd⟩:=id hit
 unfold pyNext
 refine wpAny_bind (wpAny_attempt (wpAny_callSpecial?_slot (name:=Str.ofString "__next__") hit.typeIs rv_next (wpAny_call_entry rv_next hit.typeIs z5m ?_ (z6j _))))
 unfold Builtin.«reversed.__next__»
 refine wpAny_bind (wpAny_of_eq (a:=(Value.ref it,[])) rfl ?_)
 try dsimp only
 refine wpAny_bind (wpAny_field ho hd (x:=.ref t) rfl ?_)
 refine wpAny_bind (wpAny_field ho hd (x:=rawInt (-1)) rfl ?_)
 show wpAny _ _ (if (-1:Int) < 0 then _ else _) _ _ s
 rw [if_pos (by decide)]
 refine wpAny_bind (wpAny_rule ?_)
 refine wpAny_bind ?_
 k_delta "reversedEnd"
 refine wpAny_bind (wpAny_setField ho hd (by simp) ?_)
 refine wpAny_setField (Heap.get?_update_self _ ho (Obj.isFreed_of_fields (Obj.data_mapFields hd _))) (Obj.data_mapFields hd _) (by simp) ?_
 refine wpAny_bind ?_
 have other:∀b u,b≠it->s.heap.get? b=some u->((s.heap.update it (Obj.mapFields λ x=>x.setIfInBounds 1 (rawInt (-1)))).update it (Obj.mapFields λ x=>x.setIfInBounds 0 Value.none)).get? b=some u:=λ b u nb e=>by
  rw [Heap.get?_update_other _ _ (Ne.symm nb),Heap.get?_update_other _ _ (Ne.symm nb)];exact e
 generalize ((s.heap.update it (Obj.mapFields λ x=>x.setIfInBounds 1 (rawInt (-1)))).update it (Obj.mapFields λ x=>x.setIfInBounds 0 Value.none))=hU at *
 show wpAny _ _ (newExc (.type "StopIteration") [] >>= _) _ _ _
 refine wpAny_bind ?_
 simp only [newExc,newTuple]
 refine wpAny_bind (wpAny_newObj_type ?_ (by size_fits))
 refine wpAny_bind (m:=firstArgMember _ _) (wpAny_of_eq (a:=Value.none) (by first | rfl | (simp only [firstArgMember];rfl)) ?_)
 refine wpAny_newObj_type ?_ (by size_fits)
 simp only [raiseNew]
 refine wpAny_bind (wpAny_handled ?_)
 rw [show A.in1.handled=none from hh]
 refine wpAny_bind (wpAny_pure (wpAny_throw ?_))
 refine wpAny_bind (wpAny_isInstance (T := "StopIteration") (b:=true) ⟨_,Heap.get?_push_size _ rfl,rfl⟩ isSubtype_stop ?_)
 exact wpAny_pure (hQ _ _ λ b u nb e=>Heap.get?_push_of_some _ (Heap.get?_push_of_some _ (other b u nb e)))
theorem y8h {it t:Addr}{i:Int}{Q:Value->Shared->Prop}(hit:IsRv s.heap it t i) (h:Q (.ref it) s):wpAny (model prog w) A (pyIter (.ref it)) Q E s:=by
 refine wpAny_pyIter_slot hit.typeIs y8i (wpAny_call_entry y8i hit.typeIs z9s ?_ (y0w _))
 show wpAny _ _ (ret (.ref it)) _ _ s
 exact wpAny_pure ⟨_,rfl,"reversed",_,hit.typeIs,rv_next.lookup,h⟩
end
def x9d (K:W.Frag) (a:Addr) (n:Nat):It:=⟨λ i H=>∃xs,SqT K H a xs/\xs.length=n/\i < n,λ i H x H'=>H'=H/\∀xs,SqT K H a xs->xs[n - 1 - i]?=some x,λ i H=>∃xs,SqT K H a xs/\xs.length=n/\i=n⟩
theorem x0e:(sizeLine:Int) < 2 ^ 63:=by rw [sizeLine_eq];decide
theorem x5u {P:Program}{w:World}{K:W.Frag}{tg:Expr}(a it:Addr) (n:Nat):Turn P w K tg (x9d K a n) [it] it (λ i h=>IsRv h it a ((n:Int) - 1 - (i:Int))) where
 mem:=by simp
 obj:=λ i h x b hb=>by
  have e:b=it:=by simpa using hb
  subst e
  obtain ⟨o,ho,_,hd⟩:=x
  exact ⟨o,ho,λ v q=>by rw [hd] at q;cases q⟩
 keep:=λ i h h' x k=>let ⟨o,ho,r⟩:=x;⟨o,k it (by simp) o ho,r⟩
 item:=by
  intro X hP hw hK hc i pins s σ H E I hf st hg
  subst hP hw hK
  obtain ⟨xs,hq,hn,hi⟩:=hg
  obtain ⟨its,rv,p,hz⟩:=I.tuple hq
  have hx:xs[n - 1 - i]?=some (xs[n - 1 - i]'(by lia)):=List.getElem?_eq_getElem (by lia)
  obtain ⟨u,hu,ru⟩:=rv.get hx
  obtain ⟨f0,f1,f2,f3,f4,f5⟩:=hf it (by simp)
  have e:(n:Int) - 1 - (i:Int)=((n - 1 - i:Nat):Int):=by lia
  rw [e] at st
  have hl:=rv.length
  have z63:=x0e
  refine x6l st p (x:=u) (by simpa using hu) (by simp;lia) λ h' tk st' sb=>?_
  have I1:Inv X pins σ H { s with heap:=h',toks:=tk }:=I.turned (t':=tk) (λ b o hb e=>(sb.2 b hb).trans e) f0 f1 f3 f4 f5
  obtain ⟨o,e,c,d⟩:=id st'
  have e2:((n - 1 - i:Nat):Int) - 1=(n:Int) - 1 - ((i+1:Nat):Int):=by lia
  rw [e2] at st'
  exact ⟨u,rfl,x3s (s:={ s with heap:=h',toks:=tk }) e c d (by decide) ⟨_,H,I1,ru,⟨rfl,λ ys hy=>by rw [I.tuple_inj hy hq];exact hx⟩,st',λ b hb=>(hf b hb).1⟩⟩
 done:=by
  intro X hP hw hK hc i pins s σ H E I hf st hg
  subst hP hw hK
  obtain ⟨xs,hq,hn,hi⟩:=hg
  obtain ⟨f0,f1,f2,f3,f4,f5⟩:=hf it (by simp)
  have e:(n:Int) - 1 - (i:Int)=-1:=by lia
  rw [e] at st
  exact w0g (I.ok.hd hc) st λ h' tk eb=>⟨rfl,I.turned (t':=tk) (λ b o hb e=>eb b o hb e) f0 f1 f3 f4 f5⟩
 self:=λ _ _ _ _ _ st h=>y8h st h
section
variable {X:Cx}{tg:Expr}
def w2a (K:W.Frag) (te:TE):TI:=λ σ H R=>te σ H λ x H1=>∃a xs,x=.ref a/\SqT K H1 a xs/\R (x9d K a xs.length) H1
theorem x6y {e:Expr}{te:TE}{p pos:Pos}(hg:Gl X "reversed") (hm:X.mg "reversed"=none) (he:PE X e te) (hs:starEach [e] X.env=[(false,eval e X.env)]:=by rfl) :
  PI X tg (.Call (.Name "reversed" p) [e] [] pos) (w2a X.K te):=by
 intro pins s σ H R I h
 have hA:=(z0a he (z0e (X:=X)) hs) pos pins s σ H (λ vs H1=>match vs with | [x]=>∃a xs,x=.ref a/\SqT X.K H1 a xs/\R (x9d X.K a xs.length) H1 | _=>False) I h
 refine Call_ (z4r I hg hm boot_reversed (PyProof.Rows.callWith_type1 (thn hA λ us s1 ⟨vs,H1,I1,r1,q1⟩=>?_) hs rfl))
 match vs,q1 with
 | [x],⟨a,xs,e,hq,q⟩ =>
  subst e
  obtain ⟨u,rfl,ru⟩:=z5f r1
  cases (show u=Value.ref a from ru)
  obtain ⟨its,rv,p,hz⟩:=I1.tuple hq
  have hl:=rv.length
  have z63:=x0e
  refine x8k p (by simp;lia) λ tk=>?_
  have I2:Inv X pins σ H1 { s1 with heap:=s1.heap.push (x2l a ((its.toArray.size:Int) - 1)),toks:=tk }:=I1.kept (t':=tk) λ b o e=>Heap.get?_push_of_some _ e
  have ir:IsRv (s1.heap.push (x2l a ((its.toArray.size:Int) - 1))) s1.heap.objs.size a ((xs.length:Int) - 1 - ((0:Nat):Int)):=by
   refine ⟨_,Heap.get?_push_size _ rfl,rfl,?_⟩
   show Data.fields #[.ref a,rawInt ((its.toArray.size:Int) - 1)]=_
   have e:((its.toArray.size:Nat):Int) - 1=(xs.length:Int) - 1 - ((0:Nat):Int):=by simp;lia
   rw [e]
  refine y8h ir ⟨s1.heap.objs.size,[s1.heap.objs.size],_,_,H1,rfl,I2,x5u a _ xs.length,ir,λ b hb=>?_,q⟩
  have e:b=s1.heap.objs.size:=by simpa using hb
  subst e
  exact I1.fpOk (Nat.le_refl _) (I1.hok.fresh (Nat.le_refl _))
end
def LoopV (K:PySem.W.Frag) (g:TG) (tb:TS) (D:Ends) (σ:St) (x:V) (H1:Hp):Prop:=∃a xs,x=.ref a/\SqT K H1 a xs/\∃W:Nat->Nat->St->Hp->Prop,(∃m,W 0 m σ H1)/\∀i m σ H,W i m σ H ->
 ((x9d K a xs.length).stop i H/\D.nx σ H)\/((x9d K a xs.length).go i H/\∃N:St->Hp->Prop,(∀σ' H',N σ' H'->∃m',m' < m/\W (i+1) m' σ' H')/\∀x H',(x9d K a xs.length).yld i H x H'->g x σ H' λ σ2 H2=>tb { D with nx:=N,ct:=N,bk:=D.nx } σ2 H2)
theorem x8a {K:W.Frag}{te:TE}{g:TG}{tb:TS}{D:Ends}{σ:St}{H:Hp}:y1y (w2a K te) g tb D σ H=te σ H λ x H1=>LoopV K g tb D σ x H1:=rfl
theorem LoopV.mk {K:W.Frag}{a:Addr}{xs:List V}{g:TG}{tb:TS}{D:Ends}{σ:St}{H:Hp}(hS:SqT K H a xs) (Pv:Nat->St->Hp->Prop) (h0:Pv 0 σ H) (hl:∀i σ H,i≤xs.length->Pv i σ H->SqT K H a xs)
  (hs:∀i x σ H,i < xs.length->xs[xs.length - 1 - i]?=some x->Pv i σ H->g x σ H λ σ2 H2=>tb { D with nx:=Pv (i+1),ct:=Pv (i+1),bk:=D.nx } σ2 H2) (hd:∀σ H,Pv xs.length σ H->D.nx σ H):LoopV K g tb D σ (.ref a) H:=by
 refine ⟨a,xs,rfl,hS,λ i m σ H=>m=xs.length - i/\i≤xs.length/\Pv i σ H,⟨xs.length,by simp,Nat.zero_le _,h0⟩,?_⟩
 rintro i m σ H ⟨rfl,hi,p⟩
 have q:=hl i σ H hi p
 by_cases hlt:i < xs.length
 ·refine .inr ⟨⟨xs,q,rfl,hlt⟩,Pv (i+1),λ σ' H' p'=>⟨xs.length - (i+1),by lia,rfl,hlt,p'⟩,λ x H' y=>?_⟩
  obtain ⟨e,y⟩:=y
  subst e
  exact hs i x σ _ hlt (y xs q) p
 ·have e:i=xs.length:=by lia
  subst e
  exact .inl ⟨⟨xs,q,rfl,rfl⟩,hd σ H p⟩
theorem x0b:typeLookup (.type "list_reverseiterator") "__len__"=pure none:=by rw [typeLookup_type,builtinLookup_eq_fast];kernel_rfl
theorem x3g:typeLookup (.type "list_reverseiterator") "__length_hint__"=pure (some (.builtin "list_reverseiterator.__length_hint__")):=by rw [typeLookup_type,builtinLookup_eq_fast];kernel_rfl
section
variable {pg:Program}{wd:World}{B:Around}{X0:Value->Shared->Prop}{s0:Shared}{J:Addr}{fs ws:List Addr}{Gg:Array GenState->Array GenState->Prop}{m:Nat}{Pr:Nat->Value->Prop}{Sx:Nat->Shared->Prop}
theorem y3r {R:List Value->Shared->Prop}(wk:WalksS pg wd B.in1 J fs ws Gg m Pr Sx) (ty:∀j z,Sx j z->z.TypeIs (.ref J) "list_reverseiterator") (z0:Sx 0 s0) (lt:∀b∈fs,b < s0.heap.objs.size) (mJ:J∈fs) (sm:m≤sizeLine)
  (fin:∀z' ac,Moved ws Gg s0 z'->ItemsOf Pr ac m->R ac.toList z'):wpAny (model pg wd) B (collect (.ref J)) R X0 s0:=by
 have out:s0.heap.objs.size ∉ fs:=λ q=>absurd (lt _ q) (Nat.lt_irrefl _)
 have neJ:s0.heap.objs.size≠J:=by rintro rfl;exact out mJ
 let nu:Obj:={ cls:=.type "list",data:=.seq ([]:List Value).toArray }
 unfold collect
 refine wpAny_bind (wpAny_runValue (codeAny_builtin F.entry_proto_collect ?_))
 rw [Around.under_plainId F.plain_proto_collect _]
 show wpAny _ B.in1 (newList [] >>= λ q=>again (.builtin "list.__iadd__" ⟨[q,.ref J],[]⟩)) _ _ s0
 refine wpAny_bind (wpAny_newObj_type ?_)
 refine wpAny_pure ⟨plainId_quiet F.plain_list_iadd _,codeAny_builtin F.entry_list_iadd ?_⟩
 rw [Around.under_plainId F.plain_list_iadd _]
 have z1:=wk.frame 0 s0 (s0.heap.push nu) s0.toks z0 (Nat.le_refl _) λ b _ o e=>Heap.get?_push_of_some _ e
 have at1:(s0.heap.push nu).get? s0.heap.objs.size=some nu:=Heap.get?_push_size _ rfl
 have dif:Builtin.List.listSameRef (.ref s0.heap.objs.size) (.ref J)=false:=by simp [Builtin.List.listSameRef,neJ]
 show wpAny _ B.in1 (Builtin.List.listExtendWith (.ref s0.heap.objs.size) (.ref J) (.ref s0.heap.objs.size)) _ _ _
 unfold Builtin.List.listExtendWith
 refine wpAny_bind (wpAny_typeOf (ty 0 _ z1) ?_)
 rw [if_neg (by rw [dif];decide)]
 refine wpAny_bind (wk.self 0 _ _ _ z1 ?_)
 refine wpAny_bind (wpAny_holding ?_)
 unfold Builtin.List.listLengthHint
 refine wpAny_bind (wpAny_specialOf (ty 0 _ z1) x0b ?_)
 show wpAny _ B.in1 (specialOf (Value.ref J) (Str.ofString "__length_hint__") >>= _) _ _ _
 refine wpAny_bind (wpAny_specialOf (ty 0 _ z1) x3g ?_)
 (generalize hid:("list_reverseiterator.__length_hint__" : String)=id0;wp_delta;rw [show splitId id0=some ("list_reverseiterator","__length_hint__") from by subst hid;decide +kernel];subst hid)
 refine wpAny_bind (wpAny_isInstance (b:=true) (ty 0 _ z1) (by rw [isSubtype_type];kernel_rfl) ?_)
 refine wpAny_pure ?_
 rw [if_neg (by decide)]
 refine wpAny_pure ⟨plainId_quiet F.plain_extend_loop _,codeAny_extend_loopS wk sm _ out _ m 0 _ _ _ rfl (Nat.zero_le _) z1 at1 (ItemsOf.nil Pr) λ z' ac cc mv at2 its=>?_⟩
 show wpAny _ B (load s0.heap.objs.size >>= _) _ _ z'
 exact wpAny_bind (wpAny_load at2 (wpAny_pure (fin z' ac (Moved.drop_new (o:=nu) (tk:=s0.toks) mv (Nat.le_refl _)) its)))
theorem y0f {R:Value->Shared->Prop}(wk:WalksS pg wd B.in1.in1 J fs ws Gg m Pr Sx) (ty:∀j z,Sx j z->z.TypeIs (.ref J) "list_reverseiterator") (z0:Sx 0 s0) (lt:∀b∈fs,b < s0.heap.objs.size) (mJ:J∈fs) (sm:m≤sizeLine)
  (fin:∀z' ac,Moved ws Gg s0 z'->ItemsOf Pr ac m->R (.ref z'.heap.objs.size) { z' with heap:=z'.heap.push { cls:=.type "tuple",data:=.seq ac } }) :
  codeAny (model pg wd) B (.call (.builtin "tuple.__new__") ⟨[.type "tuple",.ref J],[]⟩) (wants R X0) s0:=by
 refine codeAny_of_tree ?_
 show wpAny _ B.in1 (do checkBuiltinCall "tuple.__new__" ⟨[.type "tuple",.ref J],[]⟩;again (.builtin "tuple.__new__" ⟨[.type "tuple",.ref J],[]⟩)) _ _ s0
 refine wpAny_bind (wpAny_of_eq (F.newCall_tuple_1 _) (wpAny_pure ⟨plainId_quiet F.plain_tuple_new _,codeAny_builtin F.entry_tuple_new ?_⟩))
 rw [Around.under_plainId F.plain_tuple_new _]
 have q1:=sub_tuple_self
 have q2:=init_tuple_lookup
 have q3:=madeHere_tuple
 have q4:=ty 0 s0 z0
 wp_walk using wpAny_typeOf q4,y3r (sm:=sm) wk ty z0 lt mJ
 intro z' ac mv its
 show wpAny _ _ (Builtin.Tuple.tupleExact ac.toList.toArray >>= λ q=>ret q) _ _ _
 have e:ac.toList.toArray=ac:=by simp
 rw [e]
 unfold Builtin.Tuple.tupleExact
 exact wpAny_bind (wpAny_newObj_type (wpAny_pure (fin z' ac mv its)) (by show ac.size≤sizeLine;rw [its.1];exact sm))
theorem z8l {R:Value->Shared->Prop}(wk:WalksS pg wd B.in1.in1.in1 J fs ws Gg m Pr Sx) (ty:∀j z,Sx j z->z.TypeIs (.ref J) "list_reverseiterator") (z0:Sx 0 s0) (lt:∀b∈fs,b < s0.heap.objs.size) (mJ:J∈fs) (sm:m≤sizeLine)
  (fin:∀z' ac,Moved ws Gg s0 z'->ItemsOf Pr ac m->R (.ref z'.heap.objs.size) { z' with heap:=z'.heap.push { cls:=.type "tuple",data:=.seq ac } }) :
  wpAny (model pg wd) B (call (.type "tuple") [.ref J]) R X0 s0 :=
 callType_codes (Q₁:=λ ob z=>z.TypeIs ob "tuple" /\ R ob z) F.called_tuple (F.typeCall_tuple_1 _) F.entry_object_init
  (y0f (sm:=sm) wk ty z0 lt mJ λ z' ac mv its=>⟨⟨_,Heap.get?_push_size _ rfl,rfl⟩,fin z' ac mv its⟩)
  λ ob z q=>⟨q.1,F.args_object_init_2 ob _,object_init_meets F.called_tuple.init.lookup F.called_tuple.made (by decide) pg wd B.in1 _ z ⟨q.1,rfl,q.2⟩⟩
end
section
variable {X:Cx}
def y7h (K:W.Frag) (te:TE):TE:=λ σ H Q=>te σ H λ x H1=>∃a xs,x=.ref a/\SqL K H1 a xs/\∀p,H1 p=none->Q (.ref p) (upd H1 p (.tup xs.reverse))
theorem y9d {e:Expr}{te:TE}{p1 p2 pos pos':Pos}(hc:X.calm=true) (ht:Gl X "tuple") (hr:Gl X "reversed") (mt:X.mg "tuple"=none) (mr:X.mg "reversed"=none) (he:PE X e te) (hs:starEach [e] X.env=[(false,eval e X.env)]:=by rfl) :
  PE X (.Call (.Name "tuple" p1) [.Call (.Name "reversed" p2) [e] [] pos'] [] pos) (y7h X.K te):=by
 intro pins s σ H Q I h
 refine Call_ (z4r I ht mt boot_tuple (PyProof.Rows.callWith_type1 ?_ rfl rfl))
 refine Calls.spliced_cons ?_
 have hA:=(z0a he (z0e (X:=X)) hs) pos' pins s σ H (λ vs H1=>match vs with | [x]=>∃a xs,x=.ref a/\SqL X.K H1 a xs/\∀p,H1 p=none->Q (.ref p) (upd H1 p (.tup xs.reverse)) | _=>False) I h
 refine Call_ (z4r I hr mr boot_reversed (PyProof.Rows.callWith_type1 (thn hA λ us s1 ⟨vs,H1,I1,r1,q1⟩=>?_) hs rfl))
 match vs,q1 with
 | [x],⟨a,xs,e,hq,q⟩ =>
  subst e
  obtain ⟨u,rfl,ru⟩:=z5f r1
  cases (show u=Value.ref a from ru)
  obtain ⟨its,rv,pl,hz⟩:=I1.list hq
  have hl:=rv.length
  refine call_reversed_list pl.isList ?_
  refine Calls.spliced_nil ?_
  have I2:Inv X pins σ H1 { s1 with heap:=s1.heap.push (revObj a ((its.toArray.size:Int) - 1)) }:=I1.kept (t':=s1.toks) λ b o e=>Heap.get?_push_of_some _ e
  have al:a < s1.heap.objs.size:=by obtain ⟨o,ho,_⟩:=pl.isList;exact Heap.lt_size ho
  have hne:a≠s1.heap.objs.size:=Nat.ne_of_lt al
  have ir:(s1.heap.push (revObj a ((its.toArray.size:Int) - 1))).IsRevIter s1.heap.objs.size a ((its.toArray.size:Int) - 1 - ((0:Nat):Int)):=by
   refine ⟨_,Heap.get?_push_size _ rfl,rfl,?_⟩
   have e:(its.toArray.size:Int) - 1 - ((0:Nat):Int)=(its.toArray.size:Int) - 1:=by lia
   rw [e];rfl
  have sz:(s1.heap.push (revObj a ((its.toArray.size:Int) - 1))).objs.size=s1.heap.objs.size+1:=by simp [Heap.push]
  have ff:=I1.fpOk (Nat.le_refl s1.heap.objs.size) (I1.hok.fresh (Nat.le_refl _))
  refine z8l (Walks.listRev (A:=X.A.in1.in1.in1) (I.ok.hd hc) s1.heap.objs.size a hne its.toArray).toS (λ j z q=>let ⟨o,ho,hk,_⟩:=q.2.1;⟨o,ho,hk⟩)
   ⟨Nat.zero_le _,ir,pl.isList.at λ o e=>Heap.get?_push_of_some _ e⟩ (λ b hb=>?_) (List.mem_cons_self ..) (by simp only [List.size_toArray];lia) λ z' ac mv io=>?_
  ·show b < (s1.heap.push (revObj a ((its.toArray.size:Int) - 1))).objs.size
   rw [sz]
   simp only [List.mem_cons,List.not_mem_nil,or_false] at hb
   rcases hb with rfl | rfl
   ·exact Nat.lt_succ_self _
   ·exact Nat.lt_succ_of_lt al
  have I3:Inv X pins σ H1 z':=by
   obtain ⟨zh,zg,zd,zt,zo⟩:=z'
   have e1:zg=s1.gens:=mv.gens
   have e2:zd=s1.drawn:=mv.drawn
   have e3:zo=s1.os:=mv.os
   subst e1 e2 e3
   obtain ⟨f0,f1,f2,f3,f4,f5⟩:=ff
   exact I1.turned (t':=zt) (λ b o hb e=>mv.heap b o (by simpa using hb) (Heap.get?_push_of_some _ e)) f0 f1 f3 f4 f5
  have er:ac=its.reverse.toArray:=by
   have sz2:ac.size=its.length:=by simpa using io.1
   apply Array.ext
   ·simp [sz2]
   ·intro j h1 h2
    have q:=io.2 j _ (Array.getElem?_eq_getElem h1)
    simp only [List.size_toArray,List.getElem?_toArray] at q
    have q2:its.reverse[j]?=some ac[j]:=by rw [List.getElem?_reverse (by lia)];exact q
    rw [List.getElem_toArray]
    exact (Option.some.inj ((List.getElem?_eq_getElem (by simpa using h2)).symm.trans q2)).symm
  subst er
  have I4:Inv X pins σ (upd H1 z'.heap.objs.size (.tup xs.reverse)) { z' with heap:=z'.heap.push { cls:=.type "tuple",data:=.seq its.reverse.toArray } } :=
   I3.laid (t':=z'.toks) (λ b o e=>Heap.get?_push_of_some _ e) (Nat.le_refl _) (show ObjOk X.prog X.w _ _ _ (.tup xs.reverse) from ⟨by simpa using hz,its.reverse,rv.reverse,IsTup.new _ _⟩)
  exact ⟨.ref z'.heap.objs.size,_,I4,rfl,q _ (I3.hok.fresh (Nat.le_refl _))⟩
end
section
variable {X:Cx}
def w0z (K:W.Frag):R2:=λ x y H Q=>∃a b xs ys,x=.ref a/\y=.ref b/\SqT K H a xs/\SqT K H b ys/\xs.length+ys.length≤sizeLine /\
 (xs=[]->Q (.ref b) H)/\(xs≠[]->ys=[]->Q (.ref a) H)/\(xs≠[]->ys≠[]->∀p,H p=none->Q (.ref p) (upd H p (.tup (xs++ys))))
theorem x7m:OpR X (binaryOp .Add) (w0z X.K):=by
 intro pins s σ H x y v u Q I rx ry h
 obtain ⟨a,b,xs,ys,rfl,rfl,ha,hb,hz,q0,q1,q2⟩:=h
 by_cases hx:xs=[]
 ·cases rx
  cases ry
  obtain ⟨its,r1,p1,_⟩:=I.tuple ha
  obtain ⟨its2,r2,p2,_⟩:=I.tuple hb
  have e1:its=[]:=r1.nil_iff.mpr hx
  obtain ⟨⟨c1,d1,z1,l1⟩,g1,hc1,n1,hd1⟩:=id p1
  obtain ⟨⟨c2,d2,z2,l2⟩,g2,hc2,n2,hd2⟩:=id p2
  simp only at hc1 hd1 hc2 hd2
  subst hc1 hd1 hc2 hd2
  exact concat_meets ⟨_,g1,rfl⟩ ⟨_,g2,rfl⟩ noFill_tuple_add seq_tuple_add PySem.F.slot_tuple_add PySem.F.entry_tuple_add (PySem.F.args_tuple_add_2 _ _)
   (tuple_addW0 a b its.toArray its2.toArray n1 n2 d1 d2 l1 l2 (by simp [e1])) ⟨g1,g2,.ref b,H,I,rfl,q0 hx⟩
 ·exact x7k pins s σ H _ _ v u Q I rx ry ⟨a,b,xs,ys,rfl,rfl,ha,hb,hx,hz,q1 hx,q2 hx⟩
def y3k:List V->List V->Bool
 | [],[]=>true
 | x::xs,y::ys=>eqV x y && y3k xs ys
 | _,_=>false
theorem y0k:∀ {xs ys:List V},xs.length≠ys.length->y3k xs ys=false
 | [],[],h=>absurd rfl h
 | x::xs,y::ys,h=>by
  have e:xs.length≠ys.length:=λ z=>h (by simp [z])
  simp [y3k,y0k e]
 | [],_::_,_=>rfl
 | _::_,[],_=>rfl
def z8k (xs ys:List V) (j:Nat):Bool:=match xs[j]?,ys[j]? with | some x,some y=>eqV x y | _,_=>false
theorem y0l:∀ {xs ys:List V},xs.length=ys.length->(List.range xs.length).all (z8k xs ys)=y3k xs ys
 | [],[],_=>rfl
 | x::xs,y::ys,h=>by
  have e:xs.length=ys.length:=by simpa using h
  rw [List.length_cons,List.range_succ_eq_map,List.all_cons,List.all_map]
  have z:(z8k (x::xs) (y::ys) ∘ Nat.succ)=z8k xs ys:=by funext j;simp [z8k]
  rw [z,y0l e]
  rfl
 | [],_::_,h=>by cases h
 | _::_,[],h=>by cases h
theorem y4q {A:Around}{s:Shared}{xs ys:List V}{us ws:List Value}(r1:Vals xs us) (r2:Vals ys ws) (f1:xs.all z1r=true) (f2:ys.all z1r=true) (j:Nat) (h1:j < us.toArray.size) (h2:j < ws.toArray.size) :
  SeqAt.EqAt A s us.toArray[j] ws.toArray[j] (z8k xs ys j):=by
 have l1:=r1.length
 have l2:=r2.length
 have k1:j < xs.length:=by rw [l1];simpa using h1
 have k2:j < ys.length:=by rw [l2];simpa using h2
 obtain ⟨u,hu,ru⟩:=r1.get (List.getElem?_eq_getElem k1)
 obtain ⟨v,hv,rv⟩:=r2.get (List.getElem?_eq_getElem k2)
 have e1:us.toArray[j]=u:=by
  have z:us[j]?=some (us[j]'(by simpa using h1)):=List.getElem?_eq_getElem _
  rw [z] at hu
  simpa using hu
 have e2:ws.toArray[j]=v:=by
  have z:ws[j]?=some (ws[j]'(by simpa using h2)):=List.getElem?_eq_getElem _
  rw [z] at hv
  simpa using hv
 rw [e1,e2]
 have e3:z8k xs ys j=eqV xs[j] ys[j]:=by simp [z8k,k1,k2]
 rw [e3]
 exact y4p ru rv (List.all_eq_true.mp f1 _ (List.getElem_mem k1)) (List.all_eq_true.mp f2 _ (List.getElem_mem k2))
def w7d (K:W.Frag):R2:=λ x y H Q=>∃a b xs ys,x=.ref a/\y=.ref b/\SqL K H a xs/\SqL K H b ys/\xs.all z1r=true/\ys.all z1r=true/\Q (.bl (y3k xs ys)) H
def w7c (K:W.Frag):R2:=λ x y H Q=>∃a b xs ys,x=.ref a/\y=.ref b/\SqT K H a xs/\SqT K H b ys/\xs.all z1r=true/\ys.all z1r=true/\Q (.bl (y3k xs ys)) H
theorem z4j:∀(ns:List Int),(ns.map V.int).all z1r=true
 | []=>rfl
 | n::ns=>by simp [z1r]
end
section
variable {pg:Program}{wd:World}{B:Around}{X0:Value->Shared->Prop}{s0:Shared}
theorem z3e {j t:Addr}{k:Nat}{its:Array Value}{x:Value}{R:Value->Shared->Prop}(p:s0.heap.IsTupleIter j t k) (q:s0.heap.IsTuple t its) (e:its[k]?=some x)
  (f:∀h',h'.IsTupleIter j t (k+1)->Heap.SameBut j s0.heap h'->R x { s0 with heap:=h' }):wpAny (model pg wd) B (Builtin.SmallTypes.nextOf (.ref j)) R X0 s0:=by
 obtain ⟨o,g,c,d⟩:=id p
 obtain ⟨ot,gt,_,nt,dt⟩:=q
 unfold Builtin.SmallTypes.nextOf
 refine wpAny_bind (wpAny_callSpecial?_slot (name:=Str.ofString "__next__") p.typeIs F.slot_tuple_iterator_next (wpAny_call_entry F.slot_tuple_iterator_next p.typeIs F.entry_tuple_iterator_next ?_ (F.args_tuple_iterator_next_1 _)))
 show wpAny _ _ (field (.ref j) 0 >>= _) _ _ s0
 refine wpAny_bind (wpAny_field g d (x:=.ref t) rfl ?_)
 show wpAny _ _ (if (Value.ref t == Value.none)=true then _ else _) _ _ s0
 rw [if_neg (show ¬((Value.ref t == Value.none)=true) from Bool.false_ne_true)]
 show wpAny _ _ (field (.ref j) 1 >>= _) _ _ s0
 refine wpAny_bind (wpAny_field g d (x:=.int k 0) rfl ?_)
 show wpAny _ _ (seqItems? (.ref t) >>= _) _ _ s0
 refine wpAny_bind (wpAny_seqItems gt dt ?_)
 simp only [Int.toNat_natCast,e]
 refine wpAny_bind (wpAny_setField g d (by simp) (wpAny_pure ⟨x,rfl,wpAny_pure (f _ ?_ (Heap.SameBut.update ..))⟩))
 exact ⟨_,Heap.get?_update_self _ g (Obj.isFreed_of_fields (Obj.data_mapFields d _)),(Obj.cls_mapFields ..).trans c,by rw [Obj.data_mapFields d];simp [rawInt]⟩
theorem z3n {j t:Addr}{k:Nat}{its:Array Value}{R:Value->Shared->Prop}(hh:B.handled=none) (p:s0.heap.IsTupleIter j t k) (q:s0.heap.IsTuple t its) (e:its[k]?=none)
  (f:∀h' z,Heap.ExtBut j s0.heap h'->(∃o,h'.get? z=some o/\o.cls=.type "StopIteration")->X0 (.ref z) { s0 with heap:=h' }):wpAny (model pg wd) B (Builtin.SmallTypes.nextOf (.ref j)) R X0 s0:=by
 obtain ⟨o,g,c,d⟩:=id p
 obtain ⟨ot,gt,_,nt,dt⟩:=q
 unfold Builtin.SmallTypes.nextOf
 refine wpAny_bind (wpAny_callSpecial?_slot (name:=Str.ofString "__next__") p.typeIs F.slot_tuple_iterator_next (wpAny_call_entry F.slot_tuple_iterator_next p.typeIs F.entry_tuple_iterator_next ?_ (F.args_tuple_iterator_next_1 _)))
 show wpAny _ _ (field (.ref j) 0 >>= _) _ _ s0
 refine wpAny_bind (wpAny_field g d (x:=.ref t) rfl ?_)
 show wpAny _ _ (if (Value.ref t == Value.none)=true then _ else _) _ _ s0
 rw [if_neg (show ¬((Value.ref t == Value.none)=true) from Bool.false_ne_true)]
 show wpAny _ _ (field (.ref j) 1 >>= _) _ _ s0
 refine wpAny_bind (wpAny_field g d (x:=.int k 0) rfl ?_)
 show wpAny _ _ (seqItems? (.ref t) >>= _) _ _ s0
 refine wpAny_bind (wpAny_seqItems gt dt ?_)
 simp only [Int.toNat_natCast,e]
 refine wpAny_bind (wpAny_rule (wpAny_bind (wpAny_setField g d (by simp) ?_)))
 show wpAny _ _ (newExc (.type "StopIteration") [] >>= _) _ _ _
 refine wpAny_bind ?_
 simp only [newExc,newTuple]
 refine wpAny_bind (wpAny_newObj_type ?_ (by size_fits))
 refine wpAny_bind (m:=firstArgMember _ _) (wpAny_of_eq (a:=Value.none) (by first | rfl | (simp only [firstArgMember];rfl)) ?_)
 refine wpAny_newObj_type ?_ (by size_fits)
 simp only [raiseNew]
 refine wpAny_bind (wpAny_handled ?_)
 first | rw [show B.in1.handled=none from hh] | rw [hh]
 refine wpAny_bind (wpAny_pure (wpAny_throw ?_))
 exact f _ _ (((Heap.SameBut.update ..).extBut.push _).push _) ⟨_,Heap.get?_push_size _ rfl,rfl⟩
structure Apart5 (z ti ox j1 j2 t1 t2:Addr):Prop where
 ti_z:ti≠z
 ox_z:ox≠z
 j1_z:j1≠z
 j2_z:j2≠z
 ti_ox:ti≠ox
 ti_j1:ti≠j1
 ti_j2:ti≠j2
 ox_j1:ox≠j1
 ox_j2:ox≠j2
 j12:j1≠j2
 t1_z:t1≠z
 t1_ox:t1≠ox
 t1_j1:t1≠j1
 t1_j2:t1≠j2
 t2_z:t2≠z
 t2_ox:t2≠ox
 t2_j1:t2≠j1
 t2_j2:t2≠j2
def x5s (z ox j1 j2:Addr) (h h':Heap):Prop:=∀c o,c≠z->c≠ox->c≠j1->c≠j2->h.get? c=some o->h'.get? c=some o
theorem z1k {h h':Heap}{j t:Addr}{k:Nat}(p:h.IsTupleIter j t k) (f:∀o,h.get? j=some o->h'.get? j=some o):h'.IsTupleIter j t k:=let ⟨o,g,r⟩:=p;⟨o,f o g,r⟩
theorem z4d {h h':Heap}{t:Addr}{its:Array Value}(p:h.IsTuple t its) (f:∀o,h.get? t=some o->h'.get? t=some o):h'.IsTuple t its:=let ⟨o,g,r⟩:=p;⟨o,f o g,r⟩
theorem y6w {z ti ox j1 j2 t1 t2:Addr}{k:Nat}{as bs:Array Value}{x y u v:Value}{R:Option Value->Shared->Prop}(ap:Apart5 z ti ox j1 j2 t1 t2) (hz:IsZip s0.heap z ti ox .none) (hi:IsPair s0.heap ti (.ref j1) (.ref j2)) (ho:IsPair s0.heap ox u v)
  (p1:s0.heap.IsTupleIter j1 t1 k) (p2:s0.heap.IsTupleIter j2 t2 k) (q1:s0.heap.IsTuple t1 as) (q2:s0.heap.IsTuple t2 bs) (e1:as[k]?=some x) (e2:bs[k]?=some y)
  (f:∀h',IsZip h' z ti ox (rawInt s0.heap.objs.size)->IsPair h' ox x y->h'.IsTupleIter j1 t1 (k+1)->h'.IsTupleIter j2 t2 (k+1)->IsPair h' s0.heap.objs.size x y->x5s z ox j1 j2 s0.heap h'->R (some (.ref s0.heap.objs.size)) { s0 with heap:=h' }) :
  wpAny (model pg wd) B (pyNext (.ref z)) R X0 s0:=by
 have ty:s0.TypeIs (.ref z) "zip" := ⟨_,hz,rfl⟩
 unfold pyNext
 refine wpAny_bind (wpAny_attempt (wpAny_callSpecial?_slot (name:=Str.ofString "__next__") ty F.slot_zip_next (wpAny_call_entry F.slot_zip_next ty F.entry_zip_next ?_ (F.args_zip_next_1 _))))
 show wpAny _ _ (field (.ref z) 2 >>= _) _ _ _
 refine wpAny_bind (wpAny_field hz rfl (x:=.bool false) rfl ?_)
 show wpAny _ _ (field (.ref z) 3 >>= _) _ _ _
 refine wpAny_bind (wpAny_field hz rfl (x:=.ref ti) rfl ?_)
 refine wpAny_bind (wpAny_seqItems hi rfl ?_)
 show wpAny _ _ (Builtin.SmallTypes.ownedTupleIsFree (.ref z) >>= _) _ _ _
 refine wpAny_bind ?_
 unfold Builtin.SmallTypes.ownedTupleIsFree
 refine wpAny_bind (wpAny_field hz rfl (x:=.none) rfl (wpAny_pure ?_))
 simp only [if_true]
 refine wpAny_bind (wpAny_rule ?_)
 refine wpAny_bind (wpAny_field hz rfl (x:=.ref ox) rfl ?_)
 refine wpAny_bind (wpAny_setField_rec hz (by simp) λ m1 zm1 sb1=>?_)
 have zm1:IsZip m1 z ti ox .ellipsis:=zm1
 refine wpAny_bind ?_
 simp only [List.zipIdx_cons,List.zipIdx_nil,List.forIn_cons,List.forIn_nil]
 refine wpAny_bind (wpAny_bind (wpAny_onRaise ?_))
 show wpAny _ _ (Builtin.SmallTypes.nextOf (.ref j1) >>= _) _ _ _
 refine wpAny_bind (z3e (z1k p1 λ o g=>sb1.extBut _ _ ap.j1_z g) (z4d q1 λ o g=>sb1.extBut _ _ ap.t1_z g) e1 λ m2 pm2 sb2=>wpAny_pure ?_)
 have om2:IsPair m2 ox u v:=sb2.extBut _ _ ap.ox_j1 (sb1.extBut _ _ ap.ox_z ho)
 refine wpAny_bind (wpAny_seqItems om2 rfl ?_)
 refine wpAny_bind (wpAny_updateSeq_pair om2 λ m3 om3 sb3=>?_)
 have om3:IsPair m3 ox x v:=om3
 refine wpAny_bind (wpAny_letGo (wpAny_pure ?_))
 refine wpAny_bind (wpAny_bind (wpAny_onRaise ?_))
 show wpAny _ _ (Builtin.SmallTypes.nextOf (.ref j2) >>= _) _ _ _
 have to3:∀c o,c≠z->c≠ox->c≠j1->s0.heap.get? c=some o->m3.get? c=some o:=λ c o a1 a2 a3 g=>sb3.extBut _ _ a2 (sb2.extBut _ _ a3 (sb1.extBut _ _ a1 g))
 refine wpAny_bind (z3e (z1k p2 λ o g=>to3 _ o ap.j2_z ap.ox_j2.symm ap.j12.symm g) (z4d q2 λ o g=>to3 _ o ap.t2_z ap.t2_ox ap.t2_j1 g) e2 λ m4 pm4 sb4=>wpAny_pure ?_)
 have om4:IsPair m4 ox x v:=sb4.extBut _ _ ap.ox_j2 om3
 refine wpAny_bind (wpAny_seqItems om4 rfl ?_)
 refine wpAny_bind (wpAny_updateSeq_pair om4 λ m5 om5 sb5=>?_)
 have om5:IsPair m5 ox x y:=om5
 refine wpAny_bind (wpAny_letGo (wpAny_pure (wpAny_pure ?_)))
 refine wpAny_bind (wpAny_seqItems om5 rfl ?_)
 refine wpAny_bind (wpAny_newTuple ?_)
 have sz5:m5.objs.size=s0.heap.objs.size:=by rw [sb5.1,sb4.1,sb3.1,sb2.1,sb1.1]
 have zm5:IsZip m5 z ti ox .ellipsis:=sb5.extBut _ _ ap.ox_z.symm (sb4.extBut _ _ ap.j2_z.symm (sb3.extBut _ _ ap.ox_z.symm (sb2.extBut _ _ ap.j1_z.symm zm1)))
 have to5:x5s z ox j1 j2 s0.heap m5:=λ c o a1 a2 a3 a4 g=>sb5.extBut _ _ a2 (sb4.extBut _ _ a4 (to3 c o a1 a2 a3 g))
 have pj1:m5.IsTupleIter j1 t1 (k+1):=z1k pm2 λ o g=>sb5.extBut _ _ ap.ox_j1.symm (sb4.extBut _ _ ap.j12 (sb3.extBut _ _ ap.ox_j1.symm g))
 have pj2:m5.IsTupleIter j2 t2 (k+1):=z1k pm4 λ o g=>sb5.extBut _ _ ap.ox_j2.symm g
 have zlt:z < m5.objs.size:=Heap.lt_size zm5
 show wpAny _ _ (Builtin.SmallTypes.ownedTupleHandOut (.ref z) (.ref m5.objs.size) >>= _) _ _ _
 refine wpAny_bind ?_
 unfold Builtin.SmallTypes.ownedTupleHandOut
 have zm6:IsZip (m5.push { cls:=.type "tuple",data:=.seq #[x,y] }) z ti ox .ellipsis:=Heap.get?_push_of_some _ zm5
 refine wpAny_bind (wpAny_setField_rec zm6 (by simp) λ m7 zm7 sb7=>?_)
 have zm7:IsZip m7 z ti ox (rawInt m5.objs.size):=zm7
 refine wpAny_setField_rec zm7 (by simp) λ m8 zm8 sb8=>?_
 have zm8:IsZip m8 z ti ox (rawInt m5.objs.size):=zm8
 have to8:∀c o,c≠z->m5.get? c=some o->m8.get? c=some o:=λ c o a1 g=>sb8.extBut _ _ a1 (sb7.extBut _ _ a1 (Heap.get?_push_of_some _ g))
 have np8:IsPair m8 m5.objs.size x y:=sb8.extBut _ _ (Nat.ne_of_gt zlt) (sb7.extBut _ _ (Nat.ne_of_gt zlt) (Heap.get?_push_size _ rfl))
 rw [sz5] at zm8 np8
 refine wpAny_pure ⟨_,rfl,wpAny_pure ?_⟩
 show R (some (.ref m5.objs.size)) _
 rw [sz5]
 exact f m8 zm8 (to8 _ _ ap.ox_z om5) (z1k pj1 λ o g=>to8 _ o ap.j1_z g) (z1k pj2 λ o g=>to8 _ o ap.j2_z g) np8 λ c o a1 a2 a3 a4 g=>to8 c o a1 (to5 c o a1 a2 a3 a4 g)
theorem x1w {z ti ox j1 j2 t1 t2:Addr}{k:Nat}{as bs:Array Value}{u v:Value}{R:Option Value->Shared->Prop}(hh:B.handled=none) (ap:Apart5 z ti ox j1 j2 t1 t2) (hz:IsZip s0.heap z ti ox .none) (hi:IsPair s0.heap ti (.ref j1) (.ref j2)) (ho:IsPair s0.heap ox u v)
  (p1:s0.heap.IsTupleIter j1 t1 k) (p2:s0.heap.IsTupleIter j2 t2 k) (q1:s0.heap.IsTuple t1 as) (q2:s0.heap.IsTuple t2 bs) (hend:as[k]?=none\/bs[k]?=none)
  (f:∀h',x5s z ox j1 j2 s0.heap h'->R none { s0 with heap:=h' }):wpAny (model pg wd) B (pyNext (.ref z)) R X0 s0:=by
 have ty:s0.TypeIs (.ref z) "zip" := ⟨_,hz,rfl⟩
 have last:∀(h':Heap) (e:Addr),x5s z ox j1 j2 s0.heap h'->(∃o,h'.get? e=some o/\o.cls=.type "StopIteration")->wpAny (model pg wd) B (do if ← isInstance (.ref e) (.type "StopIteration") then pure none else throw (.ref e)) R X0 { s0 with heap:=h' }:=λ h' e bt ⟨o,g,c⟩ =>
  wpAny_bind (wpAny_isInstance (T := "StopIteration") (b:=true) ⟨o,g,c⟩ isSubtype_stop (wpAny_pure (f _ bt)))
 unfold pyNext
 refine wpAny_bind (wpAny_attempt (wpAny_callSpecial?_slot (name:=Str.ofString "__next__") ty F.slot_zip_next (wpAny_call_entry F.slot_zip_next ty F.entry_zip_next ?_ (F.args_zip_next_1 _))))
 show wpAny _ _ (field (.ref z) 2 >>= _) _ _ _
 refine wpAny_bind (wpAny_field hz rfl (x:=.bool false) rfl ?_)
 show wpAny _ _ (field (.ref z) 3 >>= _) _ _ _
 refine wpAny_bind (wpAny_field hz rfl (x:=.ref ti) rfl ?_)
 refine wpAny_bind (wpAny_seqItems hi rfl ?_)
 show wpAny _ _ (Builtin.SmallTypes.ownedTupleIsFree (.ref z) >>= _) _ _ _
 refine wpAny_bind ?_
 unfold Builtin.SmallTypes.ownedTupleIsFree
 refine wpAny_bind (wpAny_field hz rfl (x:=.none) rfl (wpAny_pure ?_))
 simp only [if_true]
 refine wpAny_bind (wpAny_rule ?_)
 refine wpAny_bind (wpAny_field hz rfl (x:=.ref ox) rfl ?_)
 refine wpAny_bind (wpAny_setField_rec hz (by simp) λ m1 zm1 sb1=>?_)
 have zm1:IsZip m1 z ti ox .ellipsis:=zm1
 refine wpAny_bind ?_
 simp only [List.zipIdx_cons,List.zipIdx_nil,List.forIn_cons,List.forIn_nil]
 refine wpAny_bind (wpAny_bind (wpAny_onRaise ?_))
 show wpAny _ _ (Builtin.SmallTypes.nextOf (.ref j1) >>= _) _ _ _
 cases e1:as[k]? with
 | none =>
  refine wpAny_bind (z3n hh (z1k p1 λ o g=>sb1.extBut _ _ ap.j1_z g) (z4d q1 λ o g=>sb1.extBut _ _ ap.t1_z g) e1 λ m2 e xb he=>?_)
  obtain ⟨oe,ge,ce⟩:=he
  have zm2:IsZip m2 z ti ox .ellipsis:=xb _ _ ap.j1_z.symm zm1
  have ez:e≠z:=λ q=>by subst q;rw [zm2] at ge;cases ge;simp at ce
  exact wpAny_setField_rec zm2 (by simp) λ m3 _ sb3=>last m3 e (λ c o a1 _ a3 _ g=>sb3.extBut _ _ a1 (xb _ _ a3 (sb1.extBut _ _ a1 g))) ⟨oe,sb3.extBut _ _ ez ge,ce⟩
 | some x =>
  have e2:bs[k]?=none:=by rcases hend with q | q;rw [e1] at q;cases q;exact q
  refine wpAny_bind (z3e (z1k p1 λ o g=>sb1.extBut _ _ ap.j1_z g) (z4d q1 λ o g=>sb1.extBut _ _ ap.t1_z g) e1 λ m2 pm2 sb2=>wpAny_pure ?_)
  have om2:IsPair m2 ox u v:=sb2.extBut _ _ ap.ox_j1 (sb1.extBut _ _ ap.ox_z ho)
  refine wpAny_bind (wpAny_seqItems om2 rfl ?_)
  refine wpAny_bind (wpAny_updateSeq_pair om2 λ m3 om3 sb3=>?_)
  refine wpAny_bind (wpAny_letGo (wpAny_pure ?_))
  refine wpAny_bind (wpAny_bind (wpAny_onRaise ?_))
  show wpAny _ _ (Builtin.SmallTypes.nextOf (.ref j2) >>= _) _ _ _
  have to3:∀c o,c≠z->c≠ox->c≠j1->s0.heap.get? c=some o->m3.get? c=some o:=λ c o a1 a2 a3 g=>sb3.extBut _ _ a2 (sb2.extBut _ _ a3 (sb1.extBut _ _ a1 g))
  refine wpAny_bind (z3n hh (z1k p2 λ o g=>to3 _ o ap.j2_z ap.ox_j2.symm ap.j12.symm g) (z4d q2 λ o g=>to3 _ o ap.t2_z ap.t2_ox ap.t2_j1 g) e2 λ m4 e xb he=>?_)
  obtain ⟨oe,ge,ce⟩:=he
  have zm4:IsZip m4 z ti ox .ellipsis:=xb _ _ ap.j2_z.symm (sb3.extBut _ _ ap.ox_z.symm (sb2.extBut _ _ ap.j1_z.symm zm1))
  have ez:e≠z:=λ q=>by subst q;rw [zm4] at ge;cases ge;simp at ce
  exact wpAny_setField_rec zm4 (by simp) λ m5 _ sb5=>last m5 e (λ c o a1 a2 a3 a4 g=>sb5.extBut _ _ a1 (xb _ _ a4 (to3 c o a1 a2 a3 g))) ⟨oe,sb5.extBut _ _ ez ge,ce⟩
end
theorem Inv.turnedL {X:Cx}{pins:List (Addr × Obj)}{σ:St}{H:Hp}{s:Shared}{h':Heap}{t':Nat}{fl:List Addr}(I:Inv X pins σ H s) (kk:∀b o,b ∉ fl->s.heap.get? b=some o->h'.get? b=some o) (fo:∀b∈fl,x5r X pins H b):Inv X pins σ H { s with heap:=h',toks:=t' }:=by
 have out:∀b u,H b=some u->b ∉ fl:=λ b u e z=>by rw [(fo b z).1] at e;cases e
 refine I.step (g':=s.gens) (d':=s.drawn) (ch:=fl) (λ b hb=>?_) (λ b o _ _ hc e _=>kk b o hc e) (λ b o _ _ hc e _=>⟨o.slots,kk b o hc e⟩) (λ _ _ _ _ q=>q)
  (λ b o hc e=>⟨o,kk b o hc e⟩) (λ _ _ e=>e) (λ _ _ _ e=>e) (λ b ps e=>⟨#[],by rw [e];simp⟩) (λ m hm=>?_) (λ b u e=>?_) I.bare
 ·obtain ⟨_,f1,_,f3,f4,f5⟩:=fo b hb
  exact ⟨f3,f1,f4,f5⟩
 ·obtain ⟨o,es,ep,ho,r⟩:=hm
  exact ⟨o,es,ep,kk _ o (λ z=>(fo _ z).2.1 rfl) ho,r⟩
 ·refine (I.hok b u e).stay (λ c v hc q=>kk c v ?_ q) (λ _ q=>q) λ _ _ q=>q
  rcases hc with z | z
  ·rw [z];exact out b u e
  ·exact out c _ z
def Itz (K:W.Frag) (a b:Addr):It:=⟨λ i H=>∃xs ys x y,SqT K H a xs/\SqT K H b ys/\xs[i]?=some x/\ys[i]?=some y,
 λ i H v H'=>∃T x y,v=.ref T/\H T=none/\H'=upd H T (.tup [x,y])/\∀xs ys,SqT K H a xs->SqT K H b ys->xs[i]?=some x/\ys[i]?=some y,λ i H=>∃xs ys,SqT K H a xs/\SqT K H b ys/\(xs.length≤i\/ys.length≤i)⟩
theorem x1z {P:Program}{w:World}{K:W.Frag}{es:List Expr}{x1:Nat}{pp:Pos}{a b z ti ox j1 j2:Addr}(ap:Apart5 z ti ox j1 j2 a b) :
  Turn P w K (.Tuple es x1 pp) (Itz K a b) [z,ti,ox,j1,j2] z (λ i h=>IsZip h z ti ox .none/\IsPair h ti (.ref j1) (.ref j2)/\(∃u v,IsPair h ox u v)/\h.IsTupleIter j1 a i/\h.IsTupleIter j2 b i) where
 mem:=by simp
 obj:=λ i h q c hc=>by
  obtain ⟨q1,q2,⟨u,v,q3⟩,⟨o4,g4,_,d4⟩,⟨o5,g5,_,d5⟩⟩:=q
  simp only [List.mem_cons,List.not_mem_nil,or_false] at hc
  rcases hc with rfl | rfl | rfl | rfl | rfl
  ·exact ⟨_,q1,λ v z=>nomatch z⟩
  ·exact ⟨_,q2,λ v z=>nomatch z⟩
  ·exact ⟨_,q3,λ v z=>nomatch z⟩
  ·exact ⟨_,g4,λ v z=>by rw [d4] at z;cases z⟩
  ·exact ⟨_,g5,λ v z=>by rw [d5] at z;cases z⟩
 keep:=λ i h h' q k=>by
  obtain ⟨q1,q2,⟨u,v,q3⟩,q4,q5⟩:=q
  exact ⟨k _ (by simp) _ q1,k _ (by simp) _ q2,⟨u,v,k _ (by simp) _ q3⟩,z1k q4 λ o g=>k _ (by simp) o g,z1k q5 λ o g=>k _ (by simp) o g⟩
 item:=by
  intro X hP hw hK hc i pins s σ H E I hf st hg
  subst hP hw hK
  obtain ⟨xs,ys,x,y,hq1,hq2,hx,hy⟩:=hg
  obtain ⟨q1,q2,⟨u,v,q3⟩,q4,q5⟩:=st
  obtain ⟨as,ra,pa,za⟩:=I.tuple hq1
  obtain ⟨bs,rb,pb,zb⟩:=I.tuple hq2
  obtain ⟨ux,hux,rux⟩:=ra.get hx
  obtain ⟨uy,huy,ruy⟩:=rb.get hy
  refine y6w ap q1 q2 q3 q4 q5 (show s.heap.IsTuple a as.toArray from pa) (show s.heap.IsTuple b bs.toArray from pb) (x:=ux) (y:=uy) (by simpa using hux) (by simpa using huy) λ h' zz oo p1' p2' np bt=>?_
  have I1:Inv X pins σ H { s with heap:=h' }:=I.turnedL (t':=s.toks) (fl:=[z,ti,ox,j1,j2]) (λ c o hc e=>by
   simp only [List.mem_cons,List.not_mem_nil,or_false,not_or] at hc
   exact bt c o hc.1 hc.2.2.1 hc.2.2.2.1 hc.2.2.2.2 e) hf
  obtain ⟨f0,f1,f2,f3,f4,f5⟩:=I.fpOk (Nat.le_refl s.heap.objs.size) (I.hok.fresh (Nat.le_refl _))
  have n0:X.s₀.heap.get? s.heap.objs.size=none:=by
   cases q:X.s₀.heap.get? s.heap.objs.size with
   | none=>rfl
   | some o=>exact absurd (Nat.lt_of_lt_of_le (Heap.lt_size q) I.sz) (Nat.lt_irrefl _)
  have I2:Inv X pins σ (upd H s.heap.objs.size (.tup [x,y])) { s with heap:=h' }:=I1.track f0 ⟨small (by simp),[ux,uy],.cons rux (.cons ruy .nil),⟨_,np,rfl,_,rfl⟩⟩ f1 f4 f5 n0
  have lt:∀ {c o},s.heap.get? c=some o->c≠s.heap.objs.size:=λ e=>Nat.ne_of_lt (Heap.lt_size e)
  have hzT:z≠s.heap.objs.size:=lt q1
  have ti2:IsPair h' ti (.ref j1) (.ref j2):=bt _ _ ap.ti_z ap.ti_ox ap.ti_j1 ap.ti_j2 q2
  obtain ⟨e0,e1,e2,e3,e4,e5⟩:=hf z (by simp)
  refine ⟨_,rfl,wpAny_letOwnedTupleGo_zip zz λ h2 z2 sb=>?_⟩
  have I3:Inv X pins σ (upd H s.heap.objs.size (.tup [x,y])) { s with heap:=h2 }:=Inv.turned (s:={ s with heap:=h' }) (h':=h2) (t':=s.toks) (it:=z) I2 (λ c o hc e=>sb.extBut _ _ hc e) (by rw [z0n hzT];exact e0) e1 e3 e4 e5
  refine ⟨.ref s.heap.objs.size,_,I3,rfl,⟨_,x,y,rfl,f0,rfl,λ xs' ys' k1 k2=>?_⟩,⟨z2,sb.extBut _ _ ap.ti_z ti2,⟨_,_,sb.extBut _ _ ap.ox_z oo⟩,z1k p1' λ o g=>sb.extBut _ _ ap.j1_z g,z1k p2' λ o g=>sb.extBut _ _ ap.j2_z g⟩,λ c hc=>?_⟩
  ·rw [I.tuple_inj k1 hq1,I.tuple_inj k2 hq2];exact ⟨hx,hy⟩
  ·have cT:c≠s.heap.objs.size:=by
    obtain ⟨o4,g4,_⟩:=q4
    obtain ⟨o5,g5,_⟩:=q5
    simp only [List.mem_cons,List.not_mem_nil,or_false] at hc
    rcases hc with rfl | rfl | rfl | rfl | rfl
    ·exact hzT
    ·exact lt q2
    ·exact lt q3
    ·exact lt g4
    ·exact lt g5
   rw [z0n cT];exact (hf c hc).1
 done:=by
  intro X hP hw hK hc i pins s σ H E I hf st hg
  subst hP hw hK
  obtain ⟨xs,ys,hq1,hq2,hx⟩:=hg
  obtain ⟨q1,q2,⟨u,v,q3⟩,q4,q5⟩:=st
  obtain ⟨as,ra,pa,za⟩:=I.tuple hq1
  obtain ⟨bs,rb,pb,zb⟩:=I.tuple hq2
  have la:=ra.length
  have lb:=rb.length
  refine x1w (I.ok.hd hc) ap q1 q2 q3 q4 q5 (show s.heap.IsTuple a as.toArray from pa) (show s.heap.IsTuple b bs.toArray from pb) (by rcases hx with q | q;exact .inl (by simp;lia);exact .inr (by simp;lia)) λ h' bt=>⟨rfl,?_⟩
  exact I.turnedL (t':=s.toks) (fl:=[z,ti,ox,j1,j2]) (λ c o hc e=>by
   simp only [List.mem_cons,List.not_mem_nil,or_false,not_or] at hc
   exact bt c o hc.1 hc.2.2.1 hc.2.2.2.1 hc.2.2.2.2 e) hf
 self:=λ _ _ _ _ _ st h=>wpAny_pyIter_zip st.1 h
abbrev zt1 (h:Heap) (a:Addr):Heap:=h.push { cls:=.type "tuple_iterator",data:=.fields #[.ref a,.int 0 0] }
abbrev zt2 (h:Heap) (a b:Addr):Heap:=(zt1 h a).push { cls:=.type "tuple_iterator",data:=.fields #[.ref b,.int 0 0] }
abbrev zt3 (h:Heap) (a b:Addr):Heap:=(zt2 h a b).push { cls:=.type "tuple",data:=.seq #[.ref h.objs.size,.ref (zt1 h a).objs.size] }
abbrev zt4 (h:Heap) (a b:Addr):Heap:=(zt3 h a b).push { cls:=.type "tuple",data:=.seq #[.none,.none] }
abbrev zt5 (h:Heap) (a b:Addr):Heap:=(zt4 h a b).push { cls:=.type "zip",data:=.fields #[.none,.bool false,.bool false,.ref (zt2 h a b).objs.size,.ref (zt3 h a b).objs.size] }
theorem x1v (a b:Addr) (as bs:Array Value):Meets (Builtin.«zip.__new__» ⟨[.type "zip",.ref a,.ref b],[]⟩) (λ _ R s=>s.heap.IsTuple a as/\s.heap.IsTuple b bs/\R (.ok (.ret (.ref (zt4 s.heap a b).objs.size))) { s with heap:=zt5 s.heap a b }) :=
 .of_wp λ prog w A R s h=>by
  obtain ⟨hp,g,d,tk,os⟩:=s
  obtain ⟨ha,hb,h⟩:=h
  have q0:=sub_zip
  have q1:Heap.IsTuple (Shared.heap ⟨hp,g,d,tk,os⟩) a as:=ha
  have q2:Heap.IsTuple (Shared.heap ⟨hp.push { cls:=.type "tuple_iterator",data:=.fields #[.ref a,.int 0 0] },g,d,tk,os⟩) b bs:=z4d hb λ o e=>Heap.get?_push_of_some _ e
  wp_walk using wpAny_pyIter_tuple q1,wpAny_pyIter_tuple q2
  exact ⟨_,rfl,h⟩
theorem y6x {pg:Program}{wd:World}{B:Around}{X0:Value->Shared->Prop}{s0:Shared}{a b:Addr}{as bs:Array Value}{R:Value->Shared->Prop}(ha:s0.heap.IsTuple a as) (hb:s0.heap.IsTuple b bs)
  (f:∀h',IsZip h' (s0.heap.objs.size+4) (s0.heap.objs.size+2) (s0.heap.objs.size+3) .none->IsPair h' (s0.heap.objs.size+2) (.ref s0.heap.objs.size) (.ref (s0.heap.objs.size+1))->IsPair h' (s0.heap.objs.size+3) .none .none ->
   h'.IsTupleIter s0.heap.objs.size a 0->h'.IsTupleIter (s0.heap.objs.size+1) b 0->(∀c o,s0.heap.get? c=some o->h'.get? c=some o)->R (.ref (s0.heap.objs.size+4)) { s0 with heap:=h' }) :
  wpAny (model pg wd) B (call (.type "zip") [.ref a,.ref b]) R X0 s0:=by
 refine callType_new F.called_zip (by decide) (F.typeCall_zip_2 _ _) (F.newCall_zip_2 _ _) (λ ob=>F.args_object_init_3 ob _ _) F.entry_zip_new (x1v a b as bs) ⟨ha,hb,?_⟩
 have n1:(zt1 s0.heap a).objs.size=s0.heap.objs.size+1:=Heap.size_push ..
 have n2:(zt2 s0.heap a b).objs.size=s0.heap.objs.size+2:=by rw [Heap.size_push,n1]
 have n3:(zt3 s0.heap a b).objs.size=s0.heap.objs.size+3:=by rw [Heap.size_push,n2]
 have n4:(zt4 s0.heap a b).objs.size=s0.heap.objs.size+4:=by rw [Heap.size_push,n3]
 have g5:(zt5 s0.heap a b).get? (zt4 s0.heap a b).objs.size=some _:=Heap.get?_push_size _ rfl
 have g4:(zt5 s0.heap a b).get? (zt3 s0.heap a b).objs.size=some _:=Heap.get?_push_of_some _ (Heap.get?_push_size _ rfl)
 have g3:(zt5 s0.heap a b).get? (zt2 s0.heap a b).objs.size=some _:=Heap.get?_push_of_some _ (Heap.get?_push_of_some _ (Heap.get?_push_size _ rfl))
 have g2:(zt5 s0.heap a b).get? (zt1 s0.heap a).objs.size=some _:=Heap.get?_push_of_some _ (Heap.get?_push_of_some _ (Heap.get?_push_of_some _ (Heap.get?_push_size _ rfl)))
 have g1:(zt5 s0.heap a b).get? s0.heap.objs.size=some _:=Heap.get?_push_of_some _ (Heap.get?_push_of_some _ (Heap.get?_push_of_some _ (Heap.get?_push_of_some _ (Heap.get?_push_size _ rfl))))
 show _/\_
 rw [n2,n3,n4] at g5
 rw [n1,n2] at g3
 rw [n3] at g4
 rw [n1] at g2
 rw [n4]
 exact ⟨⟨_,g5,rfl⟩,f _ g5 g3 g4 ⟨_,g1,rfl,rfl⟩ ⟨_,g2,rfl,rfl⟩ λ c o q=>Heap.get?_push_of_some _ (Heap.get?_push_of_some _ (Heap.get?_push_of_some _ (Heap.get?_push_of_some _ (Heap.get?_push_of_some _ q))))⟩
theorem y4v (n a b:Nat) (ha:a < n) (hb:b < n):Apart5 (n+4) (n+2) (n+3) n (n+1) a b:=by
 constructor<;>first | exact Nat.ne_of_lt (by lia) | exact Nat.ne_of_gt (by lia)
section
variable {X:Cx}{es:List Expr}{x1:Nat}{pp:Pos}
def w2x (K:W.Frag) (ta:TA):TI:=λ σ H R=>ta σ H λ vs H1=>∃a b xs ys,vs=[.ref a,.ref b]/\SqT K H1 a xs/\SqT K H1 b ys/\R (Itz K a b) H1
theorem y9b {e1 e2:Expr}{ta:TA}{p pos:Pos}(hg:Gl X "zip") (hm:X.mg "zip"=none) (ha:PA X [e1,e2] ta) (hs:starEach [e1,e2] X.env=[(false,eval e1 X.env),(false,eval e2 X.env)]:=by rfl) (hs2:starEach [e2] X.env=[(false,eval e2 X.env)]:=by rfl) :
  PI X (.Tuple es x1 pp) (.Call (.Name "zip" p) [e1,e2] [] pos) (w2x X.K ta):=by
 intro pins s σ H R I h
 have hA:=ha pos pins s σ H _ I h
 refine Call_ (z4r I hg hm boot_zip (PyProof.Rows.callWith_type1 (thn hA λ us s1 ⟨vs,H1,I1,r1,q1⟩=>?_) (by rw [hs,hs2]) (by rw [hs2];rfl)))
 obtain ⟨a,b,xs,ys,rfl,ha,hb,q⟩:=q1
 obtain ⟨u,u',rfl,ra,rb⟩:=y4y r1
 cases (show u=Value.ref a from ra)
 cases (show u'=Value.ref b from rb)
 obtain ⟨as,va,pa,za⟩:=I1.tuple ha
 obtain ⟨bs,vb,pb,zb⟩:=I1.tuple hb
 have al:a < s1.heap.objs.size:=by obtain ⟨o,g,_⟩:=pa;exact Heap.lt_size g
 have bl:b < s1.heap.objs.size:=by obtain ⟨o,g,_⟩:=pb;exact Heap.lt_size g
 refine y6x (show s1.heap.IsTuple a as.toArray from pa) (show s1.heap.IsTuple b bs.toArray from pb) λ h' w1 w2 w3 w4 w5 kk=>?_
 have I2:Inv X pins σ H1 { s1 with heap:=h' }:=I1.kept (t':=s1.toks) kk
 have ap:=y4v s1.heap.objs.size a b al bl
 refine wpAny_pyIter_zip w1 ⟨s1.heap.objs.size+4,[s1.heap.objs.size+4,s1.heap.objs.size+2,s1.heap.objs.size+3,s1.heap.objs.size,s1.heap.objs.size+1],_,_,H1,rfl,I2,x1z ap,⟨w1,w2,⟨_,_,w3⟩,w4,w5⟩,λ c hc=>?_,q⟩
 have ge:s1.heap.objs.size≤c:=by
  simp only [List.mem_cons,List.not_mem_nil,or_false] at hc
  rcases hc with rfl | rfl | rfl | rfl | rfl<;>lia
 exact I1.fpOk ge (I1.hok.fresh ge)
end
def LoopZ (K:PySem.W.Frag) (g:TG) (tb:TS) (D:Ends) (σ:St) (vs:List V) (H1:Hp):Prop:=∃a b xs ys,vs=[.ref a,.ref b]/\SqT K H1 a xs/\SqT K H1 b ys/\∃W:Nat->Nat->St->Hp->Prop,(∃m,W 0 m σ H1)/\∀i m σ H,W i m σ H ->
 ((Itz K a b).stop i H/\D.nx σ H)\/((Itz K a b).go i H/\∃N:St->Hp->Prop,(∀σ' H',N σ' H'->∃m',m' < m/\W (i+1) m' σ' H')/\∀x H',(Itz K a b).yld i H x H'->g x σ H' λ σ2 H2=>tb { D with nx:=N,ct:=N,bk:=D.nx } σ2 H2)
theorem x7y {K:W.Frag}{ta:TA}{g:TG}{tb:TS}{D:Ends}{σ:St}{H:Hp}:y1y (w2x K ta) g tb D σ H=ta σ H λ vs H1=>LoopZ K g tb D σ vs H1:=rfl
theorem LoopZ.mk {K:W.Frag}{a b:Addr}{xs ys:List V}{g:TG}{tb:TS}{D:Ends}{σ:St}{H:Hp}(n:Nat) (hn:n=min xs.length ys.length) (h1:SqT K H a xs) (h2:SqT K H b ys) (Pv:Nat->St->Hp->Prop) (h0:Pv 0 σ H) (hl:∀i σ H,i≤n->Pv i σ H->SqT K H a xs/\SqT K H b ys)
  (hs:∀i x y σ H T,i < n->xs[i]?=some x->ys[i]?=some y->Pv i σ H->H T=none->g (.ref T) σ (upd H T (.tup [x,y])) λ σ2 H2=>tb { D with nx:=Pv (i+1),ct:=Pv (i+1),bk:=D.nx } σ2 H2) (hd:∀σ H,Pv n σ H->D.nx σ H) :
  LoopZ K g tb D σ [.ref a,.ref b] H:=by
 subst hn
 refine ⟨a,b,xs,ys,rfl,h1,h2,λ i m σ H=>m=min xs.length ys.length - i/\i≤min xs.length ys.length/\Pv i σ H,⟨_,rfl,Nat.zero_le _,h0⟩,?_⟩
 rintro i m σ H ⟨rfl,hi,p⟩
 obtain ⟨k1,k2⟩:=hl i σ H hi p
 by_cases hlt:i < min xs.length ys.length
 ·have l1:i < xs.length:=by lia
  have l2:i < ys.length:=by lia
  refine .inr ⟨⟨xs,ys,_,_,k1,k2,List.getElem?_eq_getElem l1,List.getElem?_eq_getElem l2⟩,Pv (i+1),λ σ' H' p'=>⟨min xs.length ys.length - (i+1),by lia,rfl,hlt,p'⟩,λ v H' yy=>?_⟩
  obtain ⟨T,x,y,rfl,hT,rfl,ex⟩:=yy
  obtain ⟨ex1,ex2⟩:=ex xs ys k1 k2
  exact hs i x y σ H T hlt ex1 ex2 p hT
 ·have e:i=min xs.length ys.length:=by lia
  exact .inl ⟨⟨xs,ys,k1,k2,by lia⟩,hd σ H (e ▸ p)⟩
def CompZ (K:PySem.W.Frag) (k:Nat) (js:List Nat) (g:TG) (te:TE) (σ:St) (vs:List V) (H1:Hp) (Q:VK):Prop:=∃a b xs ys,vs=[.ref a,.ref b]/\SqT K H1 a xs/\SqT K H1 b ys/\∃W:Nat->Nat->List V->St->Hp->Prop,(∃m,W 0 m [] (z1l k js σ) H1)/\∀i m zs σ' H',W i m zs σ' H' ->
  ((Itz K a b).stop i H'/\∀p,H' p=none->Q (.ref p) (upd H' p (.lst zs))) \/
  ((Itz K a b).go i H'/\zs.length < sizeLine/\∃N:List V->St->Hp->Prop,(∀zs σ2 H2,N zs σ2 H2->∃m',m' < m/\W (i+1) m' zs σ2 H2)/\∀x H2,(Itz K a b).yld i H' x H2->g x σ' H2 λ σ3 H3=>te σ3 H3 λ v H4=>N (zs++[v]) σ3 H4)
theorem x4m {K:W.Frag}{k:Nat}{js:List Nat}{ta:TA}{g:TG}{te:TE}{σ:St}{H:Hp}{Q:VK}:z3p (w2x K ta) k js g te σ H Q=ta σ H λ vs H1=>CompZ K k js g te σ vs H1 Q:=rfl
theorem CompZ.mk {K:W.Frag}{a b:Addr}{xs ys:List V}{k:Nat}{js:List Nat}{g:TG}{te:TE}{Q:VK}{σ:St}{H:Hp}(n:Nat) (hn:n=min xs.length ys.length) (h1:SqT K H a xs) (h2:SqT K H b ys) (Pv:Nat->List V->St->Hp->Prop) (h0:Pv 0 [] (z1l k js σ) H) (hl:∀i zs σ H,i≤n->Pv i zs σ H->SqT K H a xs/\SqT K H b ys)
  (hs:∀i x y zs σ H T,i < n->xs[i]?=some x->ys[i]?=some y->Pv i zs σ H->H T=none->zs.length < sizeLine/\g (.ref T) σ (upd H T (.tup [x,y])) λ σ3 H3=>te σ3 H3 λ v H4=>Pv (i+1) (zs++[v]) σ3 H4) (hz:∀zs σ H,Pv n zs σ H->∀p,H p=none->Q (.ref p) (upd H p (.lst zs))) (hlen:∀i zs σ H,Pv i zs σ H->zs.length < sizeLine) :
  CompZ K k js g te σ [.ref a,.ref b] H Q:=by
 subst hn
 refine ⟨a,b,xs,ys,rfl,h1,h2,λ i m zs σ H=>m=min xs.length ys.length - i/\i≤min xs.length ys.length/\Pv i zs σ H,⟨_,rfl,Nat.zero_le _,h0⟩,?_⟩
 rintro i m zs σ H ⟨rfl,hi,p⟩
 obtain ⟨k1,k2⟩:=hl i zs σ H hi p
 by_cases hlt:i < min xs.length ys.length
 ·have l1:i < xs.length:=by lia
  have l2:i < ys.length:=by lia
  refine .inr ⟨⟨xs,ys,_,_,k1,k2,List.getElem?_eq_getElem l1,List.getElem?_eq_getElem l2⟩,hlen _ _ _ _ p,Pv (i+1),λ zs' σ' H' p'=>⟨min xs.length ys.length - (i+1),by lia,rfl,hlt,p'⟩,λ v H' yy=>?_⟩
  obtain ⟨T,x,y,rfl,hT,rfl,ex⟩:=yy
  obtain ⟨ex1,ex2⟩:=ex xs ys k1 k2
  exact (hs i x y zs σ H T hlt ex1 ex2 p hT).2
 ·have e:i=min xs.length ys.length:=by lia
  exact .inl ⟨⟨xs,ys,k1,k2,by lia⟩,hz zs σ H (e ▸ p)⟩
section
variable {X:Cx}
theorem y1r (hc:X.calm=true):CallR X (.builtin "sum") (λ xs H Q=>∃(a:Addr) (ns:List Int),xs=[.ref a]/\SqL X.K H a (ns.map V.int)/\Q (.int ns.sum) H):=by
 intro pins s σ H xs us Q I r h
 obtain ⟨a,ns,rfl,hq,q⟩:=h
 obtain ⟨u,rfl,ru⟩:=z5f r
 cases (show u=Value.ref a from ru)
 obtain ⟨its,rv,pl,hz⟩:=I.list hq
 have hi:=z8q rv
 have hn:=hi.numsOf
 obtain ⟨ps,e⟩:=hi.allInts.items
 have hl:s.heap.IsList a (intItems ps):=e ▸ pl.isList
 refine sum_intListG (I.ok.hd hc) hl λ h' tk t' kk=>?_
 have e2:preSum (numAt ps) ps.size=ns.sum:=by
  rw [preSum_eq,List.take_of_length_le (by simp),← nums_intItems,← e]
  exact congrArg List.sum hn
 rw [e2]
 exact ⟨.int ns.sum,H,I.kept kk,⟨t',rfl⟩,q⟩
def Its (lo st:Int) (n:Nat):It:=⟨λ i _=>i < n,λ i H x H'=>H'=H/\x=.int (lo+i * st),λ i _=>n≤i⟩
def w1z (ta:TA):TI:=λ σ H R=>ta σ H λ vs H1=>∃i j c:Int,vs=[.int i,.int j,.int c]/\(c≠0/\c.natAbs < 1073741824/\Builtin.Range.small i j c=true)/\R (Its i c (Builtin.Range.rangeSize i j c).toNat) H1
end
def LoopS (lo st:Int) (n:Nat) (g:TG) (tb:TS) (D:Ends) (σ:St) (H1:Hp):Prop:=∃W:Nat->Nat->St->Hp->Prop,(∃m,W 0 m σ H1)/\∀i m σ H,W i m σ H ->
 ((Its lo st n).stop i H/\D.nx σ H)\/((Its lo st n).go i H/\∃N:St->Hp->Prop,(∀σ' H',N σ' H'->∃m',m' < m/\W (i+1) m' σ' H')/\∀x H',(Its lo st n).yld i H x H'->g x σ H' λ σ2 H2=>tb { D with nx:=N,ct:=N,bk:=D.nx } σ2 H2)
theorem x3z {ta:TA}{g:TG}{tb:TS}{D:Ends}{σ:St}{H:Hp}:y1y (w1z ta) g tb D σ H=ta σ H λ vs H1=>∃i j c:Int,vs=[.int i,.int j,.int c]/\(c≠0/\c.natAbs < 1073741824/\Builtin.Range.small i j c=true)/\LoopS i c (Builtin.Range.rangeSize i j c).toNat g tb D σ H1:=rfl
theorem LoopS.mk {lo st:Int}{n:Nat}{g:TG}{tb:TS}{D:Ends}{σ:St}{H:Hp}(Pv:Nat->St->Hp->Prop) (h0:Pv 0 σ H)
  (hs:∀i σ H,i < n->Pv i σ H->g (.int (lo+i * st)) σ H λ σ2 H2=>tb { D with nx:=Pv (i+1),ct:=Pv (i+1),bk:=D.nx } σ2 H2) (hd:∀σ H,Pv n σ H->D.nx σ H):LoopS lo st n g tb D σ H:=by
 refine ⟨λ i m σ H=>m=n - i/\i≤n/\Pv i σ H,⟨_,rfl,Nat.zero_le _,h0⟩,?_⟩
 rintro i m σ H ⟨rfl,hi,p⟩
 by_cases hlt:i < n
 ·refine .inr ⟨hlt,Pv (i+1),λ σ' H' p'=>⟨n - (i+1),by lia,rfl,hlt,p'⟩,λ v H' yy=>?_⟩
  obtain ⟨rfl,rfl⟩:=yy
  exact hs i σ _ hlt p
 ·have e:i=n:=by lia
  exact .inl ⟨(show n≤i by lia),hd σ H (e ▸ p)⟩
def CompS (lo st:Int) (n k:Nat) (js:List Nat) (g:TG) (te:TE) (σ:St) (H1:Hp) (Q:VK):Prop:=∃W:Nat->Nat->List V->St->Hp->Prop,(∃m,W 0 m [] (z1l k js σ) H1)/\∀i m ys σ' H',W i m ys σ' H' ->
  ((Its lo st n).stop i H'/\∀p,H' p=none->Q (.ref p) (upd H' p (.lst ys))) \/
  ((Its lo st n).go i H'/\ys.length < sizeLine/\∃N:List V->St->Hp->Prop,(∀zs σ2 H2,N zs σ2 H2->∃m',m' < m/\W (i+1) m' zs σ2 H2)/\∀x H2,(Its lo st n).yld i H' x H2->g x σ' H2 λ σ3 H3=>te σ3 H3 λ v H4=>N (ys++[v]) σ3 H4)
theorem x1j {k:Nat}{js:List Nat}{ta:TA}{g:TG}{te:TE}{σ:St}{H:Hp}{Q:VK}:z3p (w1z ta) k js g te σ H Q=ta σ H λ vs H1=>∃i j c:Int,vs=[.int i,.int j,.int c]/\(c≠0/\c.natAbs < 1073741824/\Builtin.Range.small i j c=true)/\CompS i c (Builtin.Range.rangeSize i j c).toNat k js g te σ H1 Q:=rfl
theorem CompS.mk {lo st:Int}{n k:Nat}{js:List Nat}{g:TG}{te:TE}{Q:VK}{σ:St}{H:Hp}(Pv:Nat->List V->St->Hp->Prop) (h0:Pv 0 [] (z1l k js σ) H) (hlen:∀i ys σ H,Pv i ys σ H->ys.length < sizeLine)
  (hs:∀i ys σ H,i < n->Pv i ys σ H->g (.int (lo+i * st)) σ H λ σ3 H3=>te σ3 H3 λ v H4=>Pv (i+1) (ys++[v]) σ3 H4) (hd:∀ys σ H,Pv n ys σ H->∀p,H p=none->Q (.ref p) (upd H p (.lst ys))):CompS lo st n k js g te σ H Q:=by
 refine ⟨λ i m ys σ H=>m=n - i/\i≤n/\Pv i ys σ H,⟨_,rfl,Nat.zero_le _,h0⟩,?_⟩
 rintro i m ys σ H ⟨rfl,hi,p⟩
 by_cases hlt:i < n
 ·refine .inr ⟨hlt,hlen _ _ _ _ p,Pv (i+1),λ zs σ' H' p'=>⟨n - (i+1),by lia,rfl,hlt,p'⟩,λ v H' yy=>?_⟩
  obtain ⟨rfl,rfl⟩:=yy
  exact hs i ys σ _ hlt p
 ·have e:i=n:=by lia
  exact .inl ⟨(show n≤i by lia),hd ys σ H (e ▸ p)⟩
section
variable {X:Cx}
def w0x:R2:=λ x y H Q=>∃a b xs ys,x=.ref a/\y=.ref b/\H a=some (.tup xs)/\H b=some (.tup ys)/\xs.length+ys.length≤sizeLine/\∀r H',Same H H'->H' r=some (.tup (xs++ys))->Q (.ref r) H'
theorem z3v:OpR X (binaryOp .Add) w0x:=by
 intro pins s σ H x y v u Q I rx ry h
 obtain ⟨a,b,xs,ys,rfl,rfl,ha,hb,hz,q⟩:=h
 refine x7m pins s σ H _ _ v u Q I rx ry ⟨a,b,xs,ys,rfl,rfl,.of ha,.of hb,hz,λ e=>?_,λ _ e=>?_,λ _ _ p hp=>?_⟩
 ·subst e;exact q b H (Same.refl _) hb
 ·subst e;exact q a H (Same.refl _) (by rw [List.append_nil];exact ha)
 ·exact q p _ (z0b hp _) z0f
def w0l:V->Option Int->Option Int->Hp->VK->Prop:=λ x lo hi H Q=>∃a xs,x=.ref a/\H a=some (.tup xs)/\¬(HT.sIx xs.length 0 lo=0/\HT.sIx xs.length xs.length hi=xs.length)/\∀r H',Same H H'->H' r=some (.tup (y3p xs lo hi))->Q (.ref r) H'
theorem x6e:SlR X w0l:=by
 intro pins s σ H x v vl vu lo hi sl Q I rx hs pl pu h
 obtain ⟨a,xs,e,ha,nw,q⟩:=h
 exact x9y pins s σ H x v vl vu lo hi sl Q I rx hs pl pu ⟨a,xs,e,.of ha,nw,λ p hp=>q p _ (z0b hp _) z0f⟩
end
theorem z8a {names:List (Str × NameKind)}{cl:List (Str × Addr)}(h:names.all (λ y=>match y.2 with | .cell=>(cl.lookup y.1).isSome | .free=>(cl.lookup y.1).isSome | _=>true)=true) :
  ∀x,(names.lookup x=some .cell\/names.lookup x=some .free)->∃c,cl.lookup x=some c:=by
 intro x hx
 have z:=List.all_eq_true.mp h
 rcases hx with hx | hx
 ·exact Option.isSome_iff_exists.mp (z _ (PySem.mem_of_lookup hx))
 ·exact Option.isSome_iff_exists.mp (z _ (PySem.mem_of_lookup hx))
theorem x9c {X:Cx}{scope:Scope}{cl:List (Str × Addr)}{x0:Str}{j0:Nat}(c0:Cap X scope cl x0 j0):∀(i:Nat) x j,[x0][i]?=some x->[j0][i]?=some j->Cap X scope cl x j
 | 0,_,_,h1,h2=>by cases h1;cases h2;exact c0
 | _+1,_,_,h1,_=>by cases h1
theorem w7m {X:Cx}{scope:Scope}{cl:List (Str × Addr)}{x0 x1:Str}{j0 j1:Nat}(c0:Cap X scope cl x0 j0) (c1:Cap X scope cl x1 j1):∀(i:Nat) x j,[x0,x1][i]?=some x->[j0,j1][i]?=some j->Cap X scope cl x j
 | 0,_,_,h1,h2=>by cases h1;cases h2;exact c0
 | 1,_,_,h1,h2=>by cases h1;cases h2;exact c1
 | _+2,_,_,h1,_=>by cases h1
section
variable {prog:Program}{w:World}{A:Around}{R:Result->Shared->Prop}{s:Shared}
theorem y3q {elt target iter cnd:Expr}{scope:Scope}{pos:Pos}{it acc:Value}{env:Env}(I:Nat->Shared->Prop)
  (turn:∀n s,I n s->wpAny (model prog w) A (pyNext it) (λ r s₁=>match r with
   | none=>R (.ok .next) s₁
   | some v=>wpAny (model prog w) A (letOwnedTupleGo target it v) (λ _ s₀=>wpAny (model prog w) A (assign target env v) (λ _ s₂=>wpAny (model prog w) A (isTrue cnd env (eval cnd env)) (λ b s₃ =>
     if b=true then wpAny (model prog w) A (eval elt env) (λ x s₄ =>
      wpAny (model prog w) A (call (.builtin "list.append") [acc,x]) (λ _ s₅=>∃m,m < n/\I m s₅) (λ _ _=>False) s₄) (λ _ _=>False) s₃
     else ∃m,m < n/\I m s₃)
     (λ _ _=>False) s₂) (λ _ _=>False) s₀) (λ _ _=>False) s₁) (λ _ _=>False) s)
  (n:Nat) (h:I n s) :
  codeAny (model prog w) A (.compLoop (.ListComp elt [⟨target,iter,[cnd],0⟩] scope pos) 0 it acc env) R s:=by
 refine codeAny_loop rfl I (λ n s hI=>?_) n h
 show wpAny _ _ ((compTurn (.ListComp elt [⟨target,iter,[cnd],0⟩] scope pos) 0 it acc env).onRaise (λ x=>do noteFrame x env;theTreesLotGoes x)) _ _ s
 refine wpAny_noted ?_
 rw [compTurn_list]
 refine wpAny_bind (wpAny_standAt (wpAny_bind (wpAny_mono (turn n s hI) (λ r s₁ h₁=>?_) λ _ _ h'=>h'.elim)))
 cases r with
 | none=>exact wpAny_pure h₁
 | some v =>
  refine wpAny_bind (wpAny_mono h₁ (λ _ s₀ h₀=>?_) λ _ _ h'=>h'.elim)
  refine wpAny_bind (wpAny_mono h₀ (λ _ s₂ h₂=>?_) λ _ _ h'=>h'.elim)
  refine wpAny_bind (wpAny_mono (wpAny_tests_one h₂) (λ ok s₃ h₃=>?_) λ _ _ h'=>h'.elim)
  cases ok with
  | false=>exact wpAny_pure ⟨rfl,h₃⟩
  | true=>exact wpAny_bind (wpAny_bind (wpAny_mono h₃ (λ x s₄ h₄=>wpAny_bind (wpAny_mono h₄ (λ _ s₅ h₅=>wpAny_pure (wpAny_pure ⟨rfl,h₅⟩)) λ _ _ z=>z.elim)) λ _ _ z=>z.elim))
end
def w5a (cnd:Expr):w2t:=λ p w A env k s=>wpAny (model p w) A (isTrue cnd env (eval cnd env)) k (λ _ _=>False) s
theorem w4e {cnd:Expr}:x8v [cnd] (w5a cnd):=⟨λ I t n h=>y3q I t n h,λ h m=>wpAny_mono h m λ _ _ z=>z⟩
theorem pmI {X:Cx}{cnd:Expr}{tc:TT}(hx:X.xe=λ _ _=>False) (h:PT X cnd tc):PM X (w5a cnd) tc:=λ pins s σ H K I k=>by
 have z:=h pins s σ H K I k
 rw [hx] at z
 exact z
theorem y6p {X:Cx}{elt tg iter cnd:Expr}{scope:Scope}{cl:List (Str × Addr)}{pos:Pos}{own fv:List Str}{js:List Nat}{wi:TI}{g:TG}{tc:TT}{te:TE}
  (hc:X.calm=true) (hi:PI X tg iter wi) (hclos:closureFor scope X.env=pure cl) (hcell:∀y∈scope.names,y.2≠.cell) (hkind:scope.kind=.function)
  (hnames:∀y∈scope.names,y.2=.local->scope.names.lookup y.1=some .local)
  (hcl:∀x c,cl.lookup x=some c->X.env.cells.lookup x=some c)
  (hhas:∀x,((relabel scope X.env).names.lookup x=some .cell\/(relabel scope X.env).names.lookup x=some .free)->∃c,cl.lookup x=some c)
  (hlen:js.length=fv.length) (hcap:∀(i:Nat) x j,fv[i]?=some x->js[i]?=some j->Cap X scope cl x j)
  (hg:∀(C:Addr) (ex:List Addr) (s:Shared) (H:Hp),PG (z2d X (own++fv) scope cl C ex s H) tg g)
  (he:∀(C:Addr) (ex:List Addr) (s:Shared) (H:Hp),PE (z2d X (own++fv) scope cl C ex s H) elt te)
  (ht:∀(C:Addr) (ex:List Addr) (s:Shared) (H:Hp),PT (z2d X (own++fv) scope cl C ex s H) cnd tc)
  (hs:∀x,foldedSetIterable iter X.env x=pure x)
  {pins:List (Addr × Obj)}{s:Shared}{σ:St}{H:Hp}{Q:VK}{use:Option (Value->Sem Unit)}{QQ:Value->Shared->Prop}{fpos:Pos}(I:Inv X pins σ H s) (h:z4q wi own.length js g tc te σ H Q)
  (fin:∀(a C:Addr) (s5:Shared) (H5:Hp) (fl:Flow),Inv X pins σ H5 s5->H5 C=none->C≠X.env.locals->X.s₀.heap.objs.size≤C->(∀x c,X.env.cells.lookup x=some c->c≠C)->(∀p∈X.pn++pins,p.1≠C)->(∃m,s5.heap.Ns C m)->Q (.ref a) H5->compPost (model X.prog X.w) X.A X.xe use QQ (.ref a) C (.ok fl) s5) :
  wpAny (model X.prog X.w) X.A (comprehension (.ListComp elt [⟨tg,iter,[cnd],0⟩] scope pos) scope X.env fpos (newList []) false (firstIter [⟨tg,iter,[cnd],0⟩] X.env) use) QQ X.xe s :=
 z8r hc hi hclos hcell hkind hnames hcl hhas hlen hcap hg he (λ C ex s H=>pmI rfl (ht C ex s H)) w4e hs I h fin
theorem w4o {pg:Program}{wd:World}{B:Around}(hh:B.handled=none) (j t:Addr) (ne:t≠j) (as:Array Value):Draws pg wd B j [j,t] as.size (λ i v=>as[i]?=some v) (λ i h=>h.IsTupleIter j t i/\h.IsTuple t as) where
 live:=λ _ _ q=>let ⟨o,g,_⟩:=q.1;⟨o,g⟩
 frame:=λ _ _ _ q k=>⟨z1k q.1 λ o g=>k j (by simp) o g,z4d q.2 λ o g=>k t (by simp) o g⟩
 item:=λ i s R X0 hi q f=>z3e q.1 q.2 (x:=as[i]) (by simp [hi]) λ m p sb=>f _ m s.toks (by simp [hi]) ⟨p,z4d q.2 λ o g=>sb.extBut _ _ ne g⟩ sb
 done:=λ s R X0 q f=>z3n hh q.1 q.2 (by simp) f
section
variable {pg:Program}{wd:World}{B:Around}{X0:Value->Shared->Prop}{s0:Shared}
theorem x0s {z j t:Addr}{i:Nat}{n:Int}{as:Array Value}{u:Value}{R:Option Value->Shared->Prop}(hh:B.handled=none) (hz:IsEnum s0.heap z j n u) (p:s0.heap.IsTupleIter j t i) (q:s0.heap.IsTuple t as) (ex:as[i]?=none)
  (f:∀m,Heap.ExtBut j s0.heap m->R none { s0 with heap:=m }):wpAny (model pg wd) B (pyNext (.ref z)) R X0 s0:=by
 have ty:s0.TypeIs (.ref z) "enumerate" := ⟨_,hz,rfl⟩
 unfold pyNext
 refine wpAny_bind (wpAny_attempt (wpAny_callSpecial?_slot (name:=Str.ofString "__next__") ty F.slot_enumerate_next (wpAny_call_entry F.slot_enumerate_next ty F.entry_enumerate_next ?_ (F.args_enumerate_next_1 _))))
 show wpAny _ _ (field (.ref z) 2 >>= _) _ _ _
 refine wpAny_bind (wpAny_field hz rfl (x:=.ref j) rfl ?_)
 refine wpAny_bind (z3n hh p q ex λ m w xb hw=>?_)
 obtain ⟨ow,gw,cw⟩:=hw
 exact wpAny_bind (wpAny_isInstance (T := "StopIteration") (b:=true) ⟨ow,gw,cw⟩ isSubtype_stop (wpAny_pure (f _ xb)))
theorem x0r (t:Addr) (as:Array Value) (n:Nat) (dc:Option Addr) (sl:Array (Option Value)) :
  Meets (Builtin.«enumerate.__new__» ⟨[.type "enumerate",.ref t],[]⟩) (λ _ R s=>s.heap.get? t=some { cls:=.type "tuple",dict:=dc,data:=.seq as n,slots:=sl } /\
   R (.ok (.ret (.ref (s.heap.push { cls:=.type "tuple_iterator",data:=.fields #[.ref t,.int 0 0] }).objs.size))) { s with heap:=(s.heap.push { cls:=.type "tuple_iterator",data:=.fields #[.ref t,.int 0 0] }).push { cls:=.type "enumerate",data:=.fields #[.none,.bool false,.ref s.heap.objs.size,rawInt 0,.none,.none] } }) :=
 .of_wp λ pg wd A R s h=>by
  obtain ⟨hp,g,d,tk,os⟩:=s
  obtain ⟨ht,h⟩:=h
  have q0:=sub_enumerate
  have q1:Heap.IsTuple (Shared.heap ⟨hp,g,d,tk,os⟩) t as:=⟨_,ht,rfl,n,rfl⟩
  wp_walk using AutoSeq1.wpAny_loadPart' ht
  refine wpAny_stack_any λ stk=>wpAny_pure ?_
  split
  ·rename_i c _ _ _ _ _
   cases (c == Value.type "enumerate")<;>(wp_walk using AutoSeq1.wpAny_loadPart' ht,wpAny_pyIter_tuple q1)<;>exact ⟨_,rfl,h⟩
  ·wp_walk using AutoSeq1.wpAny_loadPart' ht,wpAny_pyIter_tuple q1
   exact ⟨_,rfl,h⟩
theorem y6m {t:Addr}{as:Array Value}{R:Value->Shared->Prop}(q:s0.heap.IsTuple t as)
  (f:∀m,IsEnum m (s0.heap.objs.size+1) s0.heap.objs.size 0 .none->m.IsTupleIter s0.heap.objs.size t 0->(∀c o,s0.heap.get? c=some o->m.get? c=some o)->R (.ref (s0.heap.objs.size+1)) { s0 with heap:=m }) :
  wpAny (model pg wd) B (call (.type "enumerate") [.ref t]) R X0 s0:=by
 obtain ⟨⟨c,dc,dt,sl⟩,ht,hc,n,hd⟩:=q
 cases (show c=.type "tuple" from hc)
 cases (show dt=.seq as n from hd)
 refine callType_new F.called_enumerate (by decide) (F.typeCall_enumerate_1 _) (F.newCall_enumerate_1 _) (λ ob=>F.args_object_init_2 ob _) F.entry_enumerate_new (x0r t as n dc sl) ⟨ht,?_⟩
 have n1:(s0.heap.push { cls:=.type "tuple_iterator",data:=.fields #[.ref t,.int 0 0] }).objs.size=s0.heap.objs.size+1:=Heap.size_push ..
 show _/\_
 have g2:=Heap.get?_push_size (s0.heap.push { cls:=.type "tuple_iterator",data:=.fields #[.ref t,.int 0 0] }) (o:={ cls:=.type "enumerate",data:=.fields #[.none,.bool false,.ref s0.heap.objs.size,rawInt 0,.none,.none] }) rfl
 rw [n1] at g2 ⊢
 exact ⟨⟨_,g2,rfl⟩,f _ g2 ⟨_,Heap.get?_push_of_some _ (Heap.get?_push_size _ rfl),rfl,rfl⟩ λ c o z=>Heap.get?_push_of_some _ (Heap.get?_push_of_some _ z)⟩
end
def Ite (K:W.Frag) (a:Addr):It:=⟨λ i H=>∃xs x,SqT K H a xs/\xs[i]?=some x,
 λ i H v H'=>∃T x,v=.ref T/\H T=none/\H'=upd H T (.tup [.int i,x])/\∀xs,SqT K H a xs->xs[i]?=some x,λ i H=>∃xs,SqT K H a xs/\xs.length≤i⟩
theorem y7f {P:Program}{w:World}{K:W.Frag}{es:List Expr}{x1:Nat}{pp:Pos}{a z j:Addr}(zj:z≠j) :
  Turn P w K (.Tuple es x1 pp) (Ite K a) [z,j] z (λ i h=>(∃u,IsEnum h z j i u)/\h.IsTupleIter j a i) where
 mem:=by simp
 obj:=λ i h q c hc=>by
  obtain ⟨⟨u,q1⟩,⟨o4,g4,_,d4⟩⟩:=q
  simp only [List.mem_cons,List.not_mem_nil,or_false] at hc
  rcases hc with rfl | rfl
  ·exact ⟨_,q1,λ v y=>nomatch y⟩
  ·exact ⟨_,g4,λ v y=>by rw [d4] at y;cases y⟩
 keep:=λ i h h' q k=>by
  obtain ⟨⟨u,q1⟩,q4⟩:=q
  exact ⟨⟨u,k _ (by simp) _ q1⟩,z1k q4 λ o g=>k _ (by simp) o g⟩
 item:=by
  intro X hP hw hK hc i pins s σ H E I hf st hg
  subst hP hw hK
  obtain ⟨xs,x,hq,hx⟩:=hg
  obtain ⟨⟨u,q1⟩,q4⟩:=st
  obtain ⟨as,ra,pa,za⟩:=I.tuple hq
  obtain ⟨ux,hux,rux⟩:=ra.get hx
  have ta:s.heap.IsTuple a as.toArray:=pa
  have az:a≠z:=by rintro rfl;obtain ⟨o,g,c,_⟩:=ta;rw [q1] at g;cases g;simp at c
  have aj:a≠j:=by rintro rfl;obtain ⟨o,g,c,_⟩:=ta;obtain ⟨o4,g4,c4,_⟩:=q4;rw [g4] at g;cases g;rw [c4] at c;simp at c
  have il:i < as.toArray.size:=by simpa using (List.getElem?_eq_some_iff.mp hux).1
  refine wpAny_pyNext_enum_itemD (w4o (B:=X.A.in1) (I.ok.hd hc) j a aj as.toArray) q1 ⟨q4,ta⟩ il zj (by simp only [List.mem_cons,List.not_mem_nil,or_false,not_or];exact ⟨zj,az.symm⟩) λ y m tk hy zo st' np sz bt=>?_
  have yu:y=ux:=by simp only [List.getElem?_toArray] at hy;rw [hux] at hy;exact (Option.some.inj hy).symm
  subst yu
  have I1:Inv X pins σ H { s with heap:=m,toks:=tk+1 }:=I.turnedL (t':=tk+1) (fl:=[z,j]) (λ c o hc e=>by
   simp only [List.mem_cons,List.not_mem_nil,or_false,not_or] at hc
   exact bt c o hc.1 hc.2 e) hf
  obtain ⟨f0,f1,f2,f3,f4,f5⟩:=I.fpOk (Nat.le_refl s.heap.objs.size) (I.hok.fresh (Nat.le_refl _))
  have n0:X.s₀.heap.get? s.heap.objs.size=none:=by
   cases q:X.s₀.heap.get? s.heap.objs.size with
   | none=>rfl
   | some o=>exact absurd (Nat.lt_of_lt_of_le (Heap.lt_size q) I.sz) (Nat.lt_irrefl _)
  have I2:Inv X pins σ (upd H s.heap.objs.size (.tup [.int i,x])) { s with heap:=m,toks:=tk+1 }:=I1.track f0 ⟨small (by simp),[.int i tk,y],.cons (show RelV (V.int i) (Value.int i tk) from ⟨_,rfl⟩) (.cons rux .nil),⟨_,np,rfl,_,rfl⟩⟩ f1 f4 f5 n0
  have lt:∀ {c o},s.heap.get? c=some o->c≠s.heap.objs.size:=λ e=>Nat.ne_of_lt (Heap.lt_size e)
  have zT:z≠s.heap.objs.size:=lt q1
  obtain ⟨e0,e1,e2,e3,e4,e5⟩:=hf z (by simp)
  refine ⟨_,rfl,wpAny_letOwnedTupleGo_enum zo λ h2 z2 sb=>?_⟩
  have I3:Inv X pins σ (upd H s.heap.objs.size (.tup [.int i,x])) { s with heap:=h2,toks:=tk+1 }:=Inv.turned (s:={ s with heap:=m,toks:=tk+1 }) (h':=h2) (t':=tk+1) (it:=z) I2 (λ c o hc e=>sb.extBut _ _ hc e) (by rw [z0n zT];exact e0) e1 e3 e4 e5
  refine ⟨.ref s.heap.objs.size,_,I3,rfl,⟨_,x,rfl,f0,rfl,λ xs' k1=>?_⟩,⟨⟨_,by simpa using z2⟩,z1k st'.1 λ o g=>sb.extBut _ _ zj.symm g⟩,λ c hc=>?_⟩
  ·rw [I.tuple_inj k1 hq];exact hx
  ·have cT:c≠s.heap.objs.size:=by
    obtain ⟨o4,g4,_⟩:=q4
    simp only [List.mem_cons,List.not_mem_nil,or_false] at hc
    rcases hc with rfl | rfl
    ·exact zT
    ·exact lt g4
   rw [z0n cT];exact (hf c hc).1
 done:=by
  intro X hP hw hK hc i pins s σ H E I hf st hg
  subst hP hw hK
  obtain ⟨xs,hq,hx⟩:=hg
  obtain ⟨⟨u,q1⟩,q4⟩:=st
  obtain ⟨as,ra,pa,za⟩:=I.tuple hq
  have la:=ra.length
  refine x0s (I.ok.hd hc) q1 q4 (show s.heap.IsTuple a as.toArray from pa) (by simp;lia) λ m bt=>⟨rfl,?_⟩
  exact I.turnedL (t':=s.toks) (fl:=[z,j]) (λ c o hc e=>by
   simp only [List.mem_cons,List.not_mem_nil,or_false,not_or] at hc
   exact bt c o hc.2 e) hf
 self:=λ _ _ _ _ _ st h=>let ⟨⟨_,q1⟩,_⟩:=st;wpAny_pyIter_enum q1 h
section
variable {X:Cx}{es:List Expr}{x1:Nat}{pp:Pos}
def x3o (K:W.Frag) (te:TE):TI:=λ σ H R=>te σ H λ v H1=>∃a xs,v=.ref a/\SqT K H1 a xs/\R (Ite K a) H1
theorem x6z {e:Expr}{te:TE}{p pos:Pos}(hg:Gl X "enumerate") (hm:X.mg "enumerate"=none) (he:PE X e te) (hs:starEach [e] X.env=[(false,eval e X.env)]:=by rfl) :
  PI X (.Tuple es x1 pp) (.Call (.Name "enumerate" p) [e] [] pos) (x3o X.K te):=by
 intro pins s σ H R I h
 have hA:=(z0a he (z0e (X:=X)) hs) pos pins s σ H (λ vs H1=>match vs with | [x]=>∃a xs,x=.ref a/\SqT X.K H1 a xs/\R (Ite X.K a) H1 | _=>False) I h
 refine Call_ (z4r I hg hm boot_enumerate (PyProof.Rows.callWith_type1 (thn hA λ us s1 ⟨vs,H1,I1,r1,q1⟩=>?_) hs rfl))
 match vs,q1 with
 | [x],⟨a,xs,e,hq,q⟩ =>
  subst e
  obtain ⟨u,rfl,ru⟩:=z5f r1
  cases (show u=Value.ref a from ru)
  obtain ⟨as,va,pa,za⟩:=I1.tuple hq
  refine y6m (show s1.heap.IsTuple a as.toArray from pa) λ m w1 w2 kk=>?_
  have I2:Inv X pins σ H1 { s1 with heap:=m }:=I1.kept (t':=s1.toks) kk
  refine wpAny_pyIter_enum w1 ⟨s1.heap.objs.size+1,[s1.heap.objs.size+1,s1.heap.objs.size],_,_,H1,rfl,I2,y7f (Nat.succ_ne_self _),⟨⟨_,w1⟩,w2⟩,λ c hc=>?_,q⟩
  have ge:s1.heap.objs.size≤c:=by
   simp only [List.mem_cons,List.not_mem_nil,or_false] at hc
   rcases hc with rfl | rfl<;>lia
  exact I1.fpOk ge (I1.hok.fresh ge)
end
def CompE (K:PySem.W.Frag) (k:Nat) (js:List Nat) (g:TG) (te:TE) (σ:St) (v:V) (H1:Hp) (Q:VK):Prop:=∃a xs,v=.ref a/\SqT K H1 a xs/\∃W:Nat->Nat->List V->St->Hp->Prop,(∃m,W 0 m [] (z1l k js σ) H1)/\∀i m zs σ' H',W i m zs σ' H' ->
  ((Ite K a).stop i H'/\∀p,H' p=none->Q (.ref p) (upd H' p (.lst zs))) \/
  ((Ite K a).go i H'/\zs.length < sizeLine/\∃N:List V->St->Hp->Prop,(∀zs σ2 H2,N zs σ2 H2->∃m',m' < m/\W (i+1) m' zs σ2 H2)/\∀x H2,(Ite K a).yld i H' x H2->g x σ' H2 λ σ3 H3=>te σ3 H3 λ v H4=>N (zs++[v]) σ3 H4)
theorem x4r {K:W.Frag}{k:Nat}{js:List Nat}{tx:TE}{g:TG}{te:TE}{σ:St}{H:Hp}{Q:VK}:z3p (x3o K tx) k js g te σ H Q=tx σ H λ v H1=>CompE K k js g te σ v H1 Q:=rfl
theorem CompE.mk {K:W.Frag}{a:Addr}{xs:List V}{k:Nat}{js:List Nat}{g:TG}{te:TE}{Q:VK}{σ:St}{H:Hp}(h1:SqT K H a xs) (Pv:Nat->List V->St->Hp->Prop) (h0:Pv 0 [] (z1l k js σ) H) (hl:∀i zs σ H,i≤xs.length->Pv i zs σ H->SqT K H a xs/\zs.length < sizeLine)
  (hs:∀i x zs σ H T,xs[i]?=some x->Pv i zs σ H->H T=none->g (.ref T) σ (upd H T (.tup [.int i,x])) λ σ3 H3=>te σ3 H3 λ v H4=>Pv (i+1) (zs++[v]) σ3 H4) (hz:∀zs σ H,Pv xs.length zs σ H->∀p,H p=none->Q (.ref p) (upd H p (.lst zs))) :
  CompE K k js g te σ (.ref a) H Q:=by
 refine ⟨a,xs,rfl,h1,λ i m zs σ H=>m=xs.length - i/\i≤xs.length/\Pv i zs σ H,⟨_,rfl,Nat.zero_le _,h0⟩,?_⟩
 rintro i m zs σ H ⟨rfl,hi,p⟩
 obtain ⟨k1,k2⟩:=hl i zs σ H hi p
 by_cases hlt:i < xs.length
 ·refine .inr ⟨⟨xs,_,k1,List.getElem?_eq_getElem hlt⟩,k2,Pv (i+1),λ zs' σ' H' p'=>⟨xs.length - (i+1),by lia,rfl,hlt,p'⟩,λ v H' yy=>?_⟩
  obtain ⟨T,x,rfl,hT,rfl,ex⟩:=yy
  exact hs i x zs σ H T (ex xs k1) p hT
 ·have e:i=xs.length:=by lia
  exact .inl ⟨⟨xs,k1,by lia⟩,hz zs σ H (e ▸ p)⟩
def CompEI (K:PySem.W.Frag) (k:Nat) (js:List Nat) (g:TG) (tc:TT) (te:TE) (σ:St) (v:V) (H1:Hp) (Q:VK):Prop:=∃a xs,v=.ref a/\SqT K H1 a xs/\∃W:Nat->Nat->List V->St->Hp->Prop,(∃m,W 0 m [] (z1l k js σ) H1)/\∀i m zs σ' H',W i m zs σ' H' ->
  ((Ite K a).stop i H'/\∀p,H' p=none->Q (.ref p) (upd H' p (.lst zs))) \/
  ((Ite K a).go i H'/\zs.length < sizeLine/\∃N:List V->St->Hp->Prop,(∀zs σ2 H2,N zs σ2 H2->∃m',m' < m/\W (i+1) m' zs σ2 H2)/\∀x H2,(Ite K a).yld i H' x H2->g x σ' H2 λ σ3 H3=>tc σ3 H3 λ b H4=>if b=true then te σ3 H4 λ v H5=>N (zs++[v]) σ3 H5 else N zs σ3 H4)
theorem x1m {K:W.Frag}{k:Nat}{js:List Nat}{tx:TE}{g:TG}{tc:TT}{te:TE}{σ:St}{H:Hp}{Q:VK}:z4q (x3o K tx) k js g tc te σ H Q=tx σ H λ v H1=>CompEI K k js g tc te σ v H1 Q:=rfl
theorem CompEI.mk {K:W.Frag}{a:Addr}{xs:List V}{k:Nat}{js:List Nat}{g:TG}{tc:TT}{te:TE}{Q:VK}{σ:St}{H:Hp}(h1:SqT K H a xs) (Pv:Nat->List V->St->Hp->Prop) (h0:Pv 0 [] (z1l k js σ) H) (hl:∀i zs σ H,i≤xs.length->Pv i zs σ H->SqT K H a xs/\zs.length < sizeLine)
  (hs:∀i x zs σ H T,xs[i]?=some x->Pv i zs σ H->H T=none->g (.ref T) σ (upd H T (.tup [.int i,x])) λ σ3 H3=>tc σ3 H3 λ b H4=>if b=true then te σ3 H4 λ v H5=>Pv (i+1) (zs++[v]) σ3 H5 else Pv (i+1) zs σ3 H4) (hz:∀zs σ H,Pv xs.length zs σ H->∀p,H p=none->Q (.ref p) (upd H p (.lst zs))) :
  CompEI K k js g tc te σ (.ref a) H Q:=by
 refine ⟨a,xs,rfl,h1,λ i m zs σ H=>m=xs.length - i/\i≤xs.length/\Pv i zs σ H,⟨_,rfl,Nat.zero_le _,h0⟩,?_⟩
 rintro i m zs σ H ⟨rfl,hi,p⟩
 obtain ⟨k1,k2⟩:=hl i zs σ H hi p
 by_cases hlt:i < xs.length
 ·refine .inr ⟨⟨xs,_,k1,List.getElem?_eq_getElem hlt⟩,k2,Pv (i+1),λ zs' σ' H' p'=>⟨xs.length - (i+1),by lia,rfl,hlt,p'⟩,λ v H' yy=>?_⟩
  obtain ⟨T,x,rfl,hT,rfl,ex⟩:=yy
  exact hs i x zs σ H T (ex xs k1) p hT
 ·have e:i=xs.length:=by lia
  exact .inl ⟨⟨xs,k1,by lia⟩,hz zs σ H (e ▸ p)⟩
end L2
namespace L2
open PySem PySem.Spec PyProof.Rows PySem.W PySem.Calls
def y1p (K:W.Frag):List (Addr × TS)->Value->(TS->Prop)->Prop
 | [],_,_=>False
 | (C,ts)::r,c,k=>(W.exmOne K c (.ref C)=some true/\k ts)\/(W.exmOne K c (.ref C)=some false/\y1p K r c k)
def y3s (K:W.Frag) (cs:List (Addr × TS)) (D:Ends):St->XK:=λ σ1 c _ H1=>y1p K cs c λ ts=>ts D σ1 H1
def x9i (K:W.Frag) (cs:List (Addr × TS)) (tb:(St->XK)->TS):TS:=λ D σ H=>tb (y3s K cs D) D σ H
inductive Clauses (X:Cx):List ExceptHandler->List (Addr × TS)->Prop
 | nil:Clauses X [] []
 | cons {x:Str}{C:Addr}{b₀:Stmt}{suite:List Stmt}{np hpos:Pos}{ts:TS}{r:List ExceptHandler}{tr:List (Addr × TS)}(hg:Gl X x) (hn:W.nsIn X.K mainGlobals x=some (some (.ref C)))
   (hs:∀(a:Addr) (pn:List (Addr × Obj)),PSs (X.suite a pn) (b₀::suite) ts) (hr:Clauses X r tr) (hd:(x == ("__debug__" : Str))=false):Clauses X (.ExceptHandler (some (.Name x np)) none (b₀::suite) hpos::r) ((C,ts)::tr)
theorem y8u {X:Cx}{body:List Stmt}{h₀:ExceptHandler}{hl:List ExceptHandler}{cs:List (Addr × TS)}{pos:Pos}{tb:(St->XK)->TS}(hstk:X.stack=X.env::X.outer/\X.env.frame=some X.env.locals)
  (hb:∀(xe:Value->Shared->Prop) (pn:List (Addr × Obj)) (EE:St->XK),(∀σ,z3x (CX1 X.prog X.w) (X.more xe pn) (EE σ) σ)->PSs (X.more xe pn) body (tb EE)) (hc:Clauses X (h₀::hl) cs) :
  PS X (.Try body (h₀::hl) [] [] pos) (x9i X.K cs tb):=by
 intro pins s σ H D I h
 refine wpAny_Try_except ?_
 generalize hXE:(λ e s₁=>wpAny (model X.prog X.w) X.A (noteFrame e X.env) (λ _ s₂=>wpAny (model X.prog X.w) X.A (setFlight e none) (λ _ s₃=>wpAny (model X.prog X.w) X.A (handleBy e X.env (h₀::hl)) (SP X pins D) X.xe s₃) X.xe s₂) X.xe s₁:Value->Shared->Prop)=XE
 have toY:∀ {σ':St}{H':Hp}{s':Shared},Inv X pins σ' H' s'->Inv (X.more XE (X.pn++pins)) [] σ' H' s':=λ J=>⟨J.ok.more _ _,J.os,J.bare,J.base,J.loc,J.cell,J.free,J.freeC,λ p hp=>J.pin p (by simpa using hp),J.hok,J.len⟩
 have ofY:∀ {σ':St}{H':Hp}{s':Shared}{pp:List (Addr × Obj)},Inv (X.more XE (X.pn++pins)) pp σ' H' s'->Inv X pins σ' H' s':=λ J=>⟨I.ok,J.os,J.bare,J.base,J.loc,J.cell,J.free,J.freeC,λ p hp=>J.pin p (List.mem_append_left _ hp),J.hok,J.len⟩
 have body_ok:=hb XE (X.pn++pins) (y3s X.K cs D) ?_ [] s σ H D (toY I) h
 ·refine thn body_ok λ fl s' q=>?_
  cases fl with
  | next=>obtain ⟨σ',H',J,z⟩:=q;exact wpAny_execs_nil ⟨σ',H',ofY J,z⟩
  | brk=>obtain ⟨σ',H',J,z⟩:=q;exact ⟨σ',H',ofY J,z⟩
  | cont=>obtain ⟨σ',H',J,z⟩:=q;exact ⟨σ',H',ofY J,z⟩
  | ret u=>obtain ⟨v,σ',H',J,r,z⟩:=q;exact ⟨v,σ',H',ofY J,r,z⟩
 intro σ1 pins1 H1 s1 e s' I1 hx
 obtain ⟨a,C',a0,H',B,rfl,os,bare,fl,inB,thB,un,okB,hcatch⟩:=hx
 have hcatch:y1p X.K cs (.ref C') λ ts=>ts D σ1 H':=hcatch
 subst hXE
 have fl:Heap.FlyingW B (X.env::X.outer) a (.ref C') a0 s'.heap:=by
  have z:Heap.FlyingW B X.stack a (.ref C') a0 s'.heap:=fl
  rw [hstk.1] at z;exact z
 have hfr:X.A.frames=some (X.env::X.outer):=by rw [I.ok.frames,hstk.1]
 have at_:∀h2:Heap,Heap.FlyingW B (X.env::X.outer) a (.ref C') a0 h2->s'.heap.UpToSlots h2->∀t2:Nat,Inv X pins σ1 H' { s' with heap:=h2,toks:=t2 }:=λ h2 f2 u2 t2=>by
  have J1:Inv X pins σ1 H1 s1:=ofY I1
  have slot:∀b o,s1.heap.get? b=some o->H1 b=none->b∈frs X.stack->∃sl,h2.get? b=some { o with slots:=sl }:=λ b o e nn hb=>by
   obtain ⟨sl2,e2⟩:=un.slot b o e nn hb (by simp)
   obtain ⟨_,o3,e3,nf⟩:=J1.stack.mem hb
   rw [e] at e3;cases e3
   obtain ⟨sl3,e4⟩:=u2 b _ e2 nf
   exact ⟨sl3,e4⟩
  refine J1.call' (s':={ s' with heap:=h2,toks:=t2 }) (ch:=[]) os ⟨λ b o e nn hb _=>f2.1 _ _ (inB b o e nn hb),λ b o e nn hb _=>slot b o e nn hb,un.free,λ b o e _=>?_,un.tups,un.frzs,un.tbls⟩ (okB.kept f2.1) bare (λ b z=>nomatch z)
  by_cases hb:b∈frs X.stack
  ·obtain ⟨sl,q⟩:=slot b o e (J1.stkFree b hb) hb
   exact ⟨_,q⟩
  ·obtain ⟨o',q⟩:=thB b o e hb
   exact ⟨o',f2.1 _ _ q⟩
 refine wpAny_looks_onW hfr hstk.2 fl λ h4 held4 up4=>?_
 refine wpAny_landsW held4 λ h5 fl5 up5=>?_
 have J5:=at_ h5 fl5 (up4.trans up5) s'.toks
 obtain ⟨oe5,ve5,he5,hc5,hd5,_⟩:=fl5.first
 have toZ:∀ {σ':St}{H':Hp}{s':Shared},Inv X pins σ' H' s'->Inv (X.suite a (X.pn++pins)) [] σ' H' s':=λ J=>⟨J.ok.suite _ _,J.os,J.bare,J.base,J.loc,J.cell,J.free,J.freeC,λ p hp=>J.pin p (by simpa using hp),J.hok,J.len⟩
 have ofZ:∀ {σ':St}{H':Hp}{s':Shared},Inv (X.suite a (X.pn++pins)) [] σ' H' s'->Inv X pins σ' H' s':=λ J=>⟨I.ok,J.os,J.bare,J.base,J.loc,J.cell,J.free,J.freeC,λ p hp=>J.pin p (List.mem_append_left _ hp),J.hok,J.len⟩
 have LT:Looks (model X.prog X.w) h5 (typeOf (.ref a)) (.ref C'):=hc5 ▸ (Looks.ld he5).andThen .now
 have all:∀(hs':List ExceptHandler) (cs':List (Addr × TS)),Clauses X hs' cs'->(y1p X.K cs' (.ref C') λ ts=>ts D σ1 H')->wpAny (model X.prog X.w) X.A (handleBy (.ref a) X.env hs') (SP X pins D) X.xe { s' with heap:=h5 }:=by
  intro hs' cs' hcl
  induction hcl with
  | nil=>intro z;exact z.elim
  | cons hg hn hs hr hd ih =>
   intro z
   have bnd:=W.mg_of J5.ok.mod.kin J5.ok.mod.glob hn
   refine wpAny_handleBy_cons (codeAny_handlers_test ?_) (by intro q;cases q)
   refine z4i (X:=X.suite a (X.pn++pins)) (toZ J5) hg bnd ?_ hd
   rcases z with ⟨z1,z2⟩ | ⟨z1,z2⟩
   ·refine (W.exm_one (M:=model X.prog X.w) J5.kIn LT z1).here ?_
    refine codeAny_handlers_suite ?_
    refine lands_againW fl5 λ h6 fl6 up6=>?_
    have J6:=at_ h6 fl6 ((up4.trans up5).trans up6) s'.toks
    refine wpAny_mono (hs a (X.pn++pins) [] _ _ _ D (toZ J6) z2) (λ fl s9 q=>?_) λ _ _ z=>z.elim
    cases fl with
    | next=>obtain ⟨σ9,H9,J9,z⟩:=q;exact ⟨_,H9,ofZ J9,z⟩
    | brk=>obtain ⟨σ9,H9,J9,z⟩:=q;exact ⟨_,H9,ofZ J9,z⟩
    | cont=>obtain ⟨σ9,H9,J9,z⟩:=q;exact ⟨_,H9,ofZ J9,z⟩
    | ret u=>obtain ⟨v,σ9,H9,J9,r,z⟩:=q;exact ⟨v,_,H9,ofZ J9,r,z⟩
   ·refine (W.exm_one (M:=model X.prog X.w) J5.kIn LT z1).here ?_
    exact ih z2
 exact all _ _ hc hcatch
section
variable {X:Cx}
def w6y (K:W.Frag):R2:=λ x y H Q=>∃a b xs ys,x=.ref a/\y=.ref b/\SqT K H a xs/\SqT K H b ys/\xs.all z1r=true/\ys.all z1r=true/\Q (.bl (!y3k xs ys)) H
def w5n (K:W.Frag):R2:=λ x y H Q=>∃a b xs ys,x=.ref a/\y=.ref b/\SqL K H a xs/\SqL K H b ys/\xs.all z1r=true/\ys.all z1r=true/\Q (.bl (!y3k xs ys)) H
theorem w1e (hu:X.A.units < cLine):OpR X (compareOp .NotEq) (w5n X.K):=by
 intro pins s σ H x y v u Q I rx ry h
 obtain ⟨a,b,xs,ys,rfl,rfl,ha,hb,f1,f2,q⟩:=h
 cases rx
 cases ry
 obtain ⟨us,r1,p1,_⟩:=I.list ha
 obtain ⟨ws,r2,p2,_⟩:=I.list hb
 by_cases hl:xs.length=ys.length
 ·refine SeqAt.RcNeAt.lists p1.isList p2.isList (e:=z8k xs ys) (by simp [← r1.length,← r2.length,hl]) hu (y4q r1 r2 f1 f2) _ _ _ _ ?_
  have e:us.toArray.size=xs.length:=by simp [r1.length]
  rw [e,y0l hl]
  exact ⟨.bl _,H,I,rfl,q⟩
 ·refine SeqAt.RcNeAt.lists_lengths p1.isList p2.isList (by simp [← r1.length,← r2.length,hl]) hu _ _ _ _ ?_
  rw [y0k hl] at q
  exact ⟨.bl _,H,I,rfl,q⟩
end
theorem z5c {cells:List (Str × Addr)}{y:Str}{a:Addr}(h:cells.lookup y=some a):∀x c,[(y,a)].lookup x=some c->cells.lookup x=some c:=λ x c e=>by
 cases List.mem_singleton.mp (PySem.mem_of_lookup e);exact h
theorem z5b {cells:List (Str × Addr)}{y z:Str}{a b:Addr}(h:cells.lookup y=some a) (h2:cells.lookup z=some b):∀x c,[(y,a),(z,b)].lookup x=some c->cells.lookup x=some c:=λ x c e=>by
 rcases List.mem_cons.mp (PySem.mem_of_lookup e) with q | q
 ·cases q;exact h
 ·cases List.mem_singleton.mp q;exact h2
end L2
namespace HT
open PySem PySem.Spec PyProof.Rows L2
theorem whole_tup {prog:Program}{w:World}{A:Around}{E:Value->Shared->Prop}{s:Shared}{t sl:Addr}{its:Array Value}{vl vu:Value}{lo hi:Option Int}{R:Value->Shared->Prop}(ht:IsTup s.heap t its) (hs:s.heap.IsSliceOf sl vl vu .none) (pl:IsPart vl lo) (pu:IsPart vu hi)
  (h0:sIx its.size 0 lo=0) (h1:sIx its.size its.size hi=its.size) (h:R (.ref t) s):wpAny (model prog w) A (getItem (.ref t) (.ref sl)) R E s:=by
 obtain ⟨os,hos,hcs,hds⟩:=id hs
 have hTs:s.TypeIs (.ref sl) "slice" := ⟨os,hos,hcs⟩
 unfold getItem
 try with_reducible refine wpAny_holding ?_
 first | refine wpAny_bind (wpAny_pure ?_) | skip
 refine wpAny_bind (wpAny_sequenceKey ht.typeIs (by decide) ?_)
 refine wpAny_bind (wpAny_callSpecial?_slot (name:=Str.ofString "__getitem__") ht.typeIs PyProof.Rows.slot_tuple_getitem (wpAny_call_entry PyProof.Rows.slot_tuple_getitem ht.typeIs entry_tuple_getitem ?_ (args_tuple_getitem _ _)))
 show wpAny _ _ (Builtin.Tuple.tupleItemsOf (.ref t) >>= _) _ _ s
 refine wpAny_bind (tupleItemsOf_ ht ?_)
 refine wpAny_bind (wpAny_typeOf hTs ?_)
 rw [if_pos (by decide)]
 refine wpAny_bind (z3y hs pl pu ?_)
 show wpAny _ _ (if (((sIx its.size 0 lo:Nat):Int) == 0 && (1:Int) == 1 && (sIx its.size its.size hi - sIx its.size 0 lo) == its.size)=true then _ else _) _ _ s
 rw [if_pos (by rw [h0,h1];simp)]
 unfold Builtin.Tuple.tupleIsExact
 exact wpAny_bind (wpAny_bind (wpAny_typeOf ht.typeIs (wpAny_pure (wpAny_bind (wpAny_rule (wpAny_pure ⟨_,rfl,wpAny_pure h⟩))))))
end HT
namespace L2
open PySem PySem.Spec PyProof.Rows
section
variable {X:Cx}
def w0m:V->Option Int->Option Int->Hp->VK->Prop:=λ x lo hi H Q=>∃a xs,x=.ref a/\H a=some (.tup xs)/\∀r H',Same H H'->H' r=some (.tup (y3p xs lo hi))->Q (.ref r) H'
theorem z2z:SlR X w0m:=by
 intro pins s σ H x v vl vu lo hi sl Q I rx hs pl pu h
 obtain ⟨a,xs,rfl,ha,q⟩:=h
 by_cases c:HT.sIx xs.length 0 lo=0/\HT.sIx xs.length xs.length hi=xs.length
 ·cases rx
  obtain ⟨its,r,ht,hz⟩:=I.tuple (show SqT X.K H a xs from .of ha)
  have hlen:its.toArray.size=xs.length:=by rw [List.size_toArray];exact r.length.symm
  refine ⟨"tuple",_,PyProof.Rows.slot_tuple_getitem.lookup,ht.typeIs,HT.whole_tup ht hs pl pu (by rw [hlen];exact c.1) (by rw [hlen];exact c.2) ⟨.ref a,H,I,rfl,q a H (Same.refl _) ?_⟩⟩
  unfold y3p
  rw [c.1,c.2,List.drop_zero,Nat.sub_zero,List.take_length]
  exact ha
 ·exact x6e pins s σ H _ v vl vu lo hi sl Q I rx hs pl pu ⟨a,xs,rfl,ha,c,q⟩
end
def okS (k:Nat) (x:Str):Prop:=x.length≤k/\∀c∈x.cps.toList,c < 1000
theorem okS.mono {k m:Nat}{x:Str}(h:okS k x) (l:k≤m):okS m x:=⟨Nat.le_trans h.1 l,h.2⟩
theorem okS.app {k m:Nat}{x y:Str}(h:okS k x) (g:okS m y):okS (k+m) (x++y):=by
 refine ⟨by rw [strLen_append];exact Nat.add_le_add h.1 g.1,λ c hc=>?_⟩
 have e:(x++y).cps.toList=x.cps.toList++y.cps.toList:=by show (x.cps++y.cps).toList=_;simp
 rw [e] at hc
 exact (List.mem_append.mp hc).elim (h.2 c) (g.2 c)
section
variable {X:Cx}
def tFR (t1 t2:TE):TE:=λ σ H Q=>t1 σ H λ x H1=>∃a,x=.str a/\okS 1000 a/\t2 σ H1 λ y H2=>∃b,y=.str b/\okS 1000 b/\∀z,Q (.str z) H2
def w0n:V->Option Int->Option Int->Hp->VK->Prop:=λ x lo hi H Q=>∃z,x=.str z/\z.length≤1000/\∀y:Str,y.length≤z.length->(∀c∈y.cps.toList,c∈z.cps.toList)->Q (.str y) H
def w0j:V->List V->Hp->VK->Prop:=λ x xs H Q=>∃z,x=.str z/\xs=[]/\okS 1000 ⟨placed z λ _ c=>Unicode.upperOf c⟩/\Q (.str ⟨placed z λ _ c=>Unicode.upperOf c⟩) H
def w3v (K:W.Frag):V->List V->Hp->VK->Prop:=λ x xs H Q=>∃(z:Str) (l:Addr) (ys:List Str),x=.str z/\z.length=0/\xs=[.ref l]/\SqL K H l (ys.map V.str)/\ys.length≤100/\(∀y∈ys,okS 10 y)/\∀y:Str,okS 1000 y->Q (.str y) H
end
def w3b (K:W.Frag) (a:Addr):It:=⟨λ i H=>∃xs x,SqL K H a xs/\xs[i]?=some x,
 λ i H v H'=>∃T x,v=.ref T/\H T=none/\H'=upd H T (.tup [.int i,x])/\∀xs,SqL K H a xs->xs[i]?=some x,λ i H=>∃xs,SqL K H a xs/\xs.length≤i⟩
section
variable {X:Cx}{es:List Expr}{x1:Nat}{pp:Pos}
def w2b (K:W.Frag) (te:TE):TI:=λ σ H R=>te σ H λ v H1=>∃a xs,v=.ref a/\SqL K H1 a xs/\R (w3b K a) H1
end
def LoopEL (K:PySem.W.Frag) (g:TG) (tb:TS) (D:Ends) (σ:St) (v:V) (H1:Hp):Prop:=∃a xs,v=.ref a/\SqL K H1 a xs/\∃W:Nat->Nat->St->Hp->Prop,(∃m,W 0 m σ H1)/\∀i m σ H,W i m σ H ->
 ((w3b K a).stop i H/\D.nx σ H)\/((w3b K a).go i H/\∃N:St->Hp->Prop,(∀σ' H',N σ' H'->∃m',m' < m/\W (i+1) m' σ' H')/\∀x H',(w3b K a).yld i H x H'->g x σ H' λ σ2 H2=>tb { D with nx:=N,ct:=N,bk:=D.nx } σ2 H2)
theorem x4c {K:W.Frag}{te:TE}{g:TG}{tb:TS}{D:Ends}{σ:St}{H:Hp}:y1y (w2b K te) g tb D σ H=te σ H λ v H1=>LoopEL K g tb D σ v H1:=rfl
theorem LoopEL.mk {K:W.Frag}{a:Addr}{xs:List V}{g:TG}{tb:TS}{D:Ends}{σ:St}{H:Hp}(h1:SqL K H a xs) (Pv:Nat->St->Hp->Prop) (h0:Pv 0 σ H) (hl:∀i σ H,i≤xs.length->Pv i σ H->SqL K H a xs)
  (hs:∀i x σ H T,xs[i]?=some x->Pv i σ H->H T=none->g (.ref T) σ (upd H T (.tup [.int i,x])) λ σ2 H2=>tb { D with nx:=Pv (i+1),ct:=Pv (i+1),bk:=D.nx } σ2 H2) (hd:∀σ H,Pv xs.length σ H->D.nx σ H) :
  LoopEL K g tb D σ (.ref a) H:=by
 refine ⟨a,xs,rfl,h1,λ i m σ H=>m=xs.length - i/\i≤xs.length/\Pv i σ H,⟨_,rfl,Nat.zero_le _,h0⟩,?_⟩
 rintro i m σ H ⟨rfl,hi,p⟩
 have k1:=hl i σ H hi p
 by_cases hlt:i < xs.length
 ·refine .inr ⟨⟨xs,_,k1,List.getElem?_eq_getElem hlt⟩,Pv (i+1),λ σ' H' p'=>⟨xs.length - (i+1),by lia,rfl,hlt,p'⟩,λ v H' yy=>?_⟩
  obtain ⟨T,x,rfl,hT,rfl,ex⟩:=yy
  exact hs i x σ H T (ex xs k1) p hT
 ·have e:i=xs.length:=by lia
  exact .inl ⟨⟨xs,k1,by lia⟩,hd σ H (e ▸ p)⟩
def Itx (x:Str):It:=⟨λ i _=>i < x.cps.size,λ i H v H'=>H'=H/\∃c,x.cps[i]?=some c/\v=.str ⟨#[c]⟩,λ i _=>x.cps.size≤i⟩
section
variable {X:Cx}{tg:Expr}
def w5v (tl:TE):TI:=λ σ H R=>tl σ H λ x H1=>∃z,x=.str z/\R (Itx z) H1
end
def LoopX (g:TG) (tb:TS) (D:Ends) (σ:St) (v:V) (H1:Hp):Prop:=∃z,v=.str z/\∃W:Nat->Nat->St->Hp->Prop,(∃m,W 0 m σ H1)/\∀i m σ H,W i m σ H ->
 ((Itx z).stop i H/\D.nx σ H)\/((Itx z).go i H/\∃N:St->Hp->Prop,(∀σ' H',N σ' H'->∃m',m' < m/\W (i+1) m' σ' H')/\∀x H',(Itx z).yld i H x H'->g x σ H' λ σ2 H2=>tb { D with nx:=N,ct:=N,bk:=D.nx } σ2 H2)
theorem x7z {te:TE}{g:TG}{tb:TS}{D:Ends}{σ:St}{H:Hp}:y1y (w5v te) g tb D σ H=te σ H λ v H1=>LoopX g tb D σ v H1:=rfl
theorem LoopX.mk {z:Str}{g:TG}{tb:TS}{D:Ends}{σ:St}{H:Hp}(Pv:Nat->St->Hp->Prop) (h0:Pv 0 σ H)
  (hs:∀i c σ H,z.cps[i]?=some c->Pv i σ H->g (.str ⟨#[c]⟩) σ H λ σ2 H2=>tb { D with nx:=Pv (i+1),ct:=Pv (i+1),bk:=D.nx } σ2 H2) (hd:∀σ H,Pv z.cps.size σ H->D.nx σ H) :
  LoopX g tb D σ (.str z) H:=by
 refine ⟨z,rfl,λ i m σ H=>m=z.cps.size - i/\i≤z.cps.size/\Pv i σ H,⟨_,rfl,Nat.zero_le _,h0⟩,?_⟩
 rintro i m σ H ⟨rfl,hi,p⟩
 by_cases hlt:i < z.cps.size
 ·refine .inr ⟨hlt,Pv (i+1),λ σ' H' p'=>⟨z.cps.size - (i+1),by lia,rfl,hlt,p'⟩,λ v H' yy=>?_⟩
  obtain ⟨rfl,c,ec,rfl⟩:=yy
  exact hs i c σ H' ec p
 ·have e:i=z.cps.size:=by lia
  exact .inl ⟨by show z.cps.size≤i;lia,hd σ H (e ▸ p)⟩
def CompX (k:Nat) (js:List Nat) (g:TG) (te:TE) (σ:St) (v:V) (H1:Hp) (Q:VK):Prop:=∃z,v=.str z/\∃W:Nat->Nat->List V->St->Hp->Prop,(∃m,W 0 m [] (z1l k js σ) H1)/\∀i m ys σ' H',W i m ys σ' H' ->
  ((Itx z).stop i H'/\∀p,H' p=none->Q (.ref p) (upd H' p (.lst ys))) \/
  ((Itx z).go i H'/\ys.length < sizeLine/\∃N:List V->St->Hp->Prop,(∀zs σ2 H2,N zs σ2 H2->∃m',m' < m/\W (i+1) m' zs σ2 H2)/\∀x H2,(Itx z).yld i H' x H2->g x σ' H2 λ σ3 H3=>te σ3 H3 λ v H4=>N (ys++[v]) σ3 H4)
theorem x4n {k:Nat}{js:List Nat}{ti:TE}{g:TG}{te:TE}{σ:St}{H:Hp}{Q:VK}:z3p (w5v ti) k js g te σ H Q=ti σ H λ x H1=>CompX k js g te σ x H1 Q:=rfl
theorem CompX.mk {z:Str}{k:Nat}{js:List Nat}{g:TG}{te:TE}{Q:VK}{σ:St}{H:Hp}(Pv:Nat->List V->St->Hp->Prop) (h0:Pv 0 [] (z1l k js σ) H)
  (hs:∀i c ys σ H,z.cps[i]?=some c->Pv i ys σ H->ys.length < sizeLine/\g (.str ⟨#[c]⟩) σ H λ σ3 H3=>te σ3 H3 λ v H4=>Pv (i+1) (ys++[v]) σ3 H4) (hd:∀ys σ H,Pv z.cps.size ys σ H->∀p,H p=none->Q (.ref p) (upd H p (.lst ys))) :
  CompX k js g te σ (.str z) H Q:=by
 refine ⟨z,rfl,λ i m ys σ H=>m=z.cps.size - i/\i≤z.cps.size/\Pv i ys σ H,⟨_,rfl,Nat.zero_le _,h0⟩,?_⟩
 rintro i m ys σ H ⟨rfl,hi,p⟩
 by_cases hlt:i < z.cps.size
 ·refine .inr ⟨hlt,(hs i (z.cps[i]'hlt) ys σ H (Array.getElem?_eq_getElem hlt) p).1,Pv (i+1),λ zs σ' H' p'=>⟨z.cps.size - (i+1),by lia,rfl,hlt,p'⟩,λ v H' yy=>?_⟩
  obtain ⟨rfl,c,ec,rfl⟩:=yy
  exact (hs i c ys σ H' ec p).2
 ·have e:i=z.cps.size:=by lia
  exact .inl ⟨by show z.cps.size≤i;lia,hd ys σ H (e ▸ p)⟩
section
variable {X:Cx}
def w4l (x y:Str):Int:=match Builtin.Str.occurrences x y 0 x.length 1 with | i::_=>(i:Int) | []=>-1
def w3w:V->List V->Hp->VK->Prop:=λ x xs H Q=>∃z y,x=.str z/\xs=[.str y]/\Q (.int (w4l z y)) H
end
section
variable {X:Cx}
def w0y (K:W.Frag):R2:=λ x y H Q=>∃l b xs zs,x=.ref l/\y=.ref b/\SqL K H l xs/\SqL K H b zs/\xs.length+zs.length≤sizeLine/\∀p,H p=none->Q (.ref p) (upd H p (.lst (xs++zs)))
theorem x7l:OpR X (binaryOp .Add) (w0y X.K):=by
 intro pins s σ H x y v u Q I rx ry h
 obtain ⟨l,b,xs,zs,rfl,rfl,hH,hB,hz,q⟩:=h
 cases rx
 cases ry
 obtain ⟨its,r,⟨⟨c1,d1,z1,l1⟩,n,e,hc,hd,hs⟩,_⟩:=I.list hH
 obtain ⟨its2,r2,⟨⟨c2,d2,z2,l2⟩,n2,e2,hc2,hd2,hs2⟩,_⟩:=I.list hB
 simp only at hc hd hs hc2 hd2 hs2
 subst hc hd hs hc2 hd2 hs2
 have a1:=r.length
 have a2:=r2.length
 have ea:its.toArray++its2.toArray=(its++its2).toArray:=by simp
 refine concat_meets ⟨_,e,rfl⟩ ⟨_,e2,rfl⟩ noFill_list_add seq_list_add F.slot_list_add F.entry_list_add (F.args_list_add_2 _ _) (list_addW l b its.toArray its2.toArray n n2 _ _ _ _ (by rw [List.size_toArray,List.size_toArray];lia)) ⟨e,e2,?_⟩
 rw [ea]
 exact ⟨.ref _,_,I.lnew (t':=s.toks) (r.append r2) (by rw [List.length_append];lia),rfl,q _ I.fresh⟩
end
section
variable {pg:Program}{wd:World}{B:Around}{X0:Value->Shared->Prop}{s0:Shared}
theorem z3w {h h':Heap}{j t:Addr}{k:Nat}(p:h.IsListIter j t k) (f:∀o,h.get? j=some o->h'.get? j=some o):h'.IsListIter j t k:=let ⟨o,g,r⟩:=p;⟨o,f o g,r⟩
theorem x0a {h h':Heap}{t:Addr}{its:Array Value}(p:h.IsList t its) (f:∀o,h.get? t=some o->h'.get? t=some o):h'.IsList t its:=let ⟨o,g,r⟩:=p;⟨o,f o g,r⟩
end
def x8x (K:W.Frag) (a b:Addr):It:=⟨λ i H=>∃xs ys x y,SqL K H a xs/\SqL K H b ys/\xs[i]?=some x/\ys[i]?=some y,
 λ i H v H'=>∃T x y,v=.ref T/\H T=none/\H'=upd H T (.tup [x,y])/\∀xs ys,SqL K H a xs->SqL K H b ys->xs[i]?=some x/\ys[i]?=some y,λ i H=>∃xs ys,SqL K H a xs/\SqL K H b ys/\(xs.length≤i\/ys.length≤i)⟩
abbrev zl1 (h:Heap) (a:Addr):Heap:=h.push { cls:=.type "list_iterator",data:=.fields #[.ref a,.int 0 0] }
abbrev zl2 (h:Heap) (a b:Addr):Heap:=(zl1 h a).push { cls:=.type "list_iterator",data:=.fields #[.ref b,.int 0 0] }
abbrev zl3 (h:Heap) (a b:Addr):Heap:=(zl2 h a b).push { cls:=.type "tuple",data:=.seq #[.ref h.objs.size,.ref (zl1 h a).objs.size] }
section
variable {X:Cx}{es:List Expr}{x1:Nat}{pp:Pos}
def w1y (K:W.Frag) (ta:TA):TI:=λ σ H R=>ta σ H λ vs H1=>∃a b xs ys,vs=[.ref a,.ref b]/\SqL K H1 a xs/\SqL K H1 b ys/\R (x8x K a b) H1
end
def LoopZL (K:PySem.W.Frag) (g:TG) (tb:TS) (D:Ends) (σ:St) (vs:List V) (H1:Hp):Prop:=∃a b xs ys,vs=[.ref a,.ref b]/\SqL K H1 a xs/\SqL K H1 b ys/\∃W:Nat->Nat->St->Hp->Prop,(∃m,W 0 m σ H1)/\∀i m σ H,W i m σ H ->
 ((x8x K a b).stop i H/\D.nx σ H)\/((x8x K a b).go i H/\∃N:St->Hp->Prop,(∀σ' H',N σ' H'->∃m',m' < m/\W (i+1) m' σ' H')/\∀x H',(x8x K a b).yld i H x H'->g x σ H' λ σ2 H2=>tb { D with nx:=N,ct:=N,bk:=D.nx } σ2 H2)
theorem x3x {K:W.Frag}{ta:TA}{g:TG}{tb:TS}{D:Ends}{σ:St}{H:Hp}:y1y (w1y K ta) g tb D σ H=ta σ H λ vs H1=>LoopZL K g tb D σ vs H1:=rfl
theorem LoopZL.mk {K:W.Frag}{a b:Addr}{xs ys:List V}{g:TG}{tb:TS}{D:Ends}{σ:St}{H:Hp}(n:Nat) (hn:n=min xs.length ys.length) (h1:SqL K H a xs) (h2:SqL K H b ys) (Pv:Nat->St->Hp->Prop) (h0:Pv 0 σ H) (hl:∀i σ H,i≤n->Pv i σ H->SqL K H a xs/\SqL K H b ys)
  (hs:∀i x y σ H T,i < n->xs[i]?=some x->ys[i]?=some y->Pv i σ H->H T=none->g (.ref T) σ (upd H T (.tup [x,y])) λ σ2 H2=>tb { D with nx:=Pv (i+1),ct:=Pv (i+1),bk:=D.nx } σ2 H2) (hd:∀σ H,Pv n σ H->D.nx σ H) :
  LoopZL K g tb D σ [.ref a,.ref b] H:=by
 subst hn
 refine ⟨a,b,xs,ys,rfl,h1,h2,λ i m σ H=>m=min xs.length ys.length - i/\i≤min xs.length ys.length/\Pv i σ H,⟨_,rfl,Nat.zero_le _,h0⟩,?_⟩
 rintro i m σ H ⟨rfl,hi,p⟩
 obtain ⟨k1,k2⟩:=hl i σ H hi p
 by_cases hlt:i < min xs.length ys.length
 ·have l1:i < xs.length:=by lia
  have l2:i < ys.length:=by lia
  refine .inr ⟨⟨xs,ys,_,_,k1,k2,List.getElem?_eq_getElem l1,List.getElem?_eq_getElem l2⟩,Pv (i+1),λ σ' H' p'=>⟨min xs.length ys.length - (i+1),by lia,rfl,hlt,p'⟩,λ v H' yy=>?_⟩
  obtain ⟨T,x,y,rfl,hT,rfl,ex⟩:=yy
  obtain ⟨ex1,ex2⟩:=ex xs ys k1 k2
  exact hs i x y σ H T hlt ex1 ex2 p hT
 ·have e:i=min xs.length ys.length:=by lia
  exact .inl ⟨⟨xs,ys,k1,k2,by lia⟩,hd σ H (e ▸ p)⟩
def CompZL (K:PySem.W.Frag) (k:Nat) (js:List Nat) (g:TG) (te:TE) (σ:St) (vs:List V) (H1:Hp) (Q:VK):Prop:=∃a b xs ys,vs=[.ref a,.ref b]/\SqL K H1 a xs/\SqL K H1 b ys/\∃W:Nat->Nat->List V->St->Hp->Prop,(∃m,W 0 m [] (z1l k js σ) H1)/\∀i m zs σ' H',W i m zs σ' H' ->
  ((x8x K a b).stop i H'/\∀p,H' p=none->Q (.ref p) (upd H' p (.lst zs))) \/
  ((x8x K a b).go i H'/\zs.length < sizeLine/\∃N:List V->St->Hp->Prop,(∀zs σ2 H2,N zs σ2 H2->∃m',m' < m/\W (i+1) m' zs σ2 H2)/\∀x H2,(x8x K a b).yld i H' x H2->g x σ' H2 λ σ3 H3=>te σ3 H3 λ v H4=>N (zs++[v]) σ3 H4)
theorem x1e {K:W.Frag}{k:Nat}{js:List Nat}{ta:TA}{g:TG}{te:TE}{σ:St}{H:Hp}{Q:VK}:z3p (w1y K ta) k js g te σ H Q=ta σ H λ vs H1=>CompZL K k js g te σ vs H1 Q:=rfl
theorem CompZL.mk {K:W.Frag}{a b:Addr}{xs ys:List V}{k:Nat}{js:List Nat}{g:TG}{te:TE}{Q:VK}{σ:St}{H:Hp}(n:Nat) (hn:n=min xs.length ys.length) (h1:SqL K H a xs) (h2:SqL K H b ys) (Pv:Nat->List V->St->Hp->Prop) (h0:Pv 0 [] (z1l k js σ) H) (hl:∀i zs σ H,i≤n->Pv i zs σ H->SqL K H a xs/\SqL K H b ys)
  (hs:∀i x y zs σ H T,i < n->xs[i]?=some x->ys[i]?=some y->Pv i zs σ H->H T=none->zs.length < sizeLine/\g (.ref T) σ (upd H T (.tup [x,y])) λ σ3 H3=>te σ3 H3 λ v H4=>Pv (i+1) (zs++[v]) σ3 H4) (hz:∀zs σ H,Pv n zs σ H->∀p,H p=none->Q (.ref p) (upd H p (.lst zs))) (hlen:∀i zs σ H,Pv i zs σ H->zs.length < sizeLine) :
  CompZL K k js g te σ [.ref a,.ref b] H Q:=by
 subst hn
 refine ⟨a,b,xs,ys,rfl,h1,h2,λ i m zs σ H=>m=min xs.length ys.length - i/\i≤min xs.length ys.length/\Pv i zs σ H,⟨_,rfl,Nat.zero_le _,h0⟩,?_⟩
 rintro i m zs σ H ⟨rfl,hi,p⟩
 obtain ⟨k1,k2⟩:=hl i zs σ H hi p
 by_cases hlt:i < min xs.length ys.length
 ·have l1:i < xs.length:=by lia
  have l2:i < ys.length:=by lia
  refine .inr ⟨⟨xs,ys,_,_,k1,k2,List.getElem?_eq_getElem l1,List.getElem?_eq_getElem l2⟩,hlen _ _ _ _ p,Pv (i+1),λ zs' σ' H' p'=>⟨min xs.length ys.length - (i+1),by lia,rfl,hlt,p'⟩,λ v H' yy=>?_⟩
  obtain ⟨T,x,y,rfl,hT,rfl,ex⟩:=yy
  obtain ⟨ex1,ex2⟩:=ex xs ys k1 k2
  exact (hs i x y zs σ H T hlt ex1 ex2 p hT).2
 ·have e:i=min xs.length ys.length:=by lia
  exact .inl ⟨⟨xs,ys,k1,k2,by lia⟩,hz zs σ H (e ▸ p)⟩
section
variable {prog:Program}{w:World}{A:Around}{E:Value->Shared->Prop}{s:Shared}
end
section
variable {X:Cx}
theorem y1m {x:V}:∀ {xs:List V}{us:List Value},Vals xs us->xs.all z1r=true->us.countP (eqU x)=xs.countP λ y=>eqV y x
 | _,_,.nil,_=>rfl
 | y::xs,u::us,.cons r t,f=>by
  rw [List.all_cons,Bool.and_eq_true] at f
  rw [List.countP_cons,List.countP_cons,x0q r f.1,y1m t f.2]
def w0w:V->List V->Hp->VK->Prop:=λ x ys H Q=>∃a o xs y,x=.ref a/\ys=[y]/\H a=some (.frz o (.tup xs))/\xs.all z1r=true/\z1r y=true/\Q (.int (xs.countP λ z=>eqV z y)) H
def w6t (r:V->List V->Hp->VK->Prop) (to:TE) (t:TA):TE:=λ σ H Q=>to σ H λ x H1=>(∃a o xs,x=.ref a/\H1 a=some (.frz o (.tup xs))/\o.dict=none)/\t σ H1 λ ys H2=>r x ys H2 Q
end
theorem z9v {X:Cx}{i:Nat}{x:Str}{elt tg iter:Expr}{scope:Scope}{cl:List (Str × Addr)}{pos pos' lpos:Pos}{own fv:List Str}{js:List Nat}{wi:TI}{g:TG}{te:TE}
  (hN:X.N.Nodup) (hx1:X.N[i]?=some x) (hx:Loc X.env.scope x) (hf:X.fn x=true\/X.env.scope.names.lookup x=some .local)
  (hc:X.calm=true) (hi:PI X tg iter wi) (hclos:closureFor scope X.env=pure cl) (hcell:∀y∈scope.names,y.2≠.cell) (hkind:scope.kind=.function)
  (hnames:∀y∈scope.names,y.2=.local->scope.names.lookup y.1=some .local)
  (hcl:∀x c,cl.lookup x=some c->X.env.cells.lookup x=some c)
  (hhas:∀x,((relabel scope X.env).names.lookup x=some .cell\/(relabel scope X.env).names.lookup x=some .free)->∃c,cl.lookup x=some c)
  (hlen:js.length=fv.length) (hcap:∀(i:Nat) x j,fv[i]?=some x->js[i]?=some j->Cap X scope cl x j)
  (hg:∀(C:Addr) (ex:List Addr) (s:Shared) (H:Hp),PG (z2d X (own++fv) scope cl C ex s H) tg g)
  (he:∀(C:Addr) (ex:List Addr) (s:Shared) (H:Hp),PE (z2d X (own++fv) scope cl C ex s H) elt te)
  (hsw:swapsWith (.ListComp elt [⟨tg,iter,[],0⟩] scope lpos) (some (.Name x pos')) pos.line X.env=pure true:=by rfl)
  (hs:∀x,foldedSetIterable iter X.env x=pure x:=by intro _;rfl) :
  PS X (.Assign [.Name x pos'] (.ListComp elt [⟨tg,iter,[],0⟩] scope lpos) pos) (x9a (z3p wi own.length js g te) (z6g i)):=by
 intro pins s σ H D I h
 rw [exec_Assign_Name_used _ _ _ _ hsw]
 refine wpAny_bind (wpAny_standAt ?_)
 rw [arm_evalThenUse_ListComp]
 have core:=y1n (use:=some (assign (.Name x pos') X.env)) (QQ:=λ _ s'=>SP X pins D .next s') (fpos:=firstIterPos [⟨tg,iter,[],0⟩] lpos) (pos:=lpos) hc hi hclos hcell hkind hnames hcl hhas hlen hcap hg he hs I h (λ a C s5 H5 fl I5 zC zL zS zc zp ⟨m,hn⟩ q=>?_)
 ·refine wpAny_bind (wpAny_bind (thn core λ _ s' hq=>?_))
  exact wpAny_pure (wpAny_pure hq)
 ·show wpAny (model X.prog X.w) X.A (assign (.Name x pos') X.env (.ref a)) _ X.xe s5
  show wpAny (model X.prog X.w) X.A (do standAt pos';bindName X.env x (.ref a)) _ X.xe s5
  refine wpAny_bind (wpAny_standAt ?_)
  refine bindName_ ?_
  refine z7a I5 hN hx1 hx (show RelV (.ref a) (.ref a) from rfl) (λ s6 I6 ⟨b,sb,hb⟩=>?_) hf
  have cb:C≠b:=by
   rcases hb with rfl | hb
   ·exact zL
   ·exact λ z=>zc x b hb z.symm
  obtain ⟨o,es,ep,e,r⟩:=hn
  refine ⟨m,⟨o,es,ep,(sb.2 C cb).trans e,r⟩,λ h' sc=>?_⟩
  exact ⟨_,H5,I6.turned (t':=s6.toks) (it:=C) (λ d o nd e=>sc.extBut d o nd e) zC zL (.inr zS) zc zp,q⟩
theorem z5n {X:Cx}{i:Nat}{x:Str}{elt tg iter:Expr}{scope:Scope}{pos pos' lpos:Pos}{own:List Str}{wi:TI}{g:TG}{te:TE}
  (hN:X.N.Nodup) (hx1:X.N[i]?=some x) (hx:Loc X.env.scope x) (hf:X.fn x=true\/X.env.scope.names.lookup x=some .local)
  (hc:X.calm=true) (hi:PI X tg iter wi) (hcell:∀y∈scope.names,y.2≠.cell) (hfree:∀y∈scope.names,y.2≠.free) (hkind:scope.kind=.function)
  (hnames:∀y∈scope.names,y.2=.local->scope.names.lookup y.1=some .local)
  (hg:∀(C:Addr) (ex:List Addr) (s:Shared) (H:Hp),PG (z2d X own scope [] C ex s H) tg g)
  (he:∀(C:Addr) (ex:List Addr) (s:Shared) (H:Hp),PE (z2d X own scope [] C ex s H) elt te)
  (hsw:swapsWith (.ListComp elt [⟨tg,iter,[],0⟩] scope lpos) (some (.Name x pos')) pos.line X.env=pure true:=by rfl)
  (hs:∀x,foldedSetIterable iter X.env x=pure x:=by intro _;rfl) :
  PS X (.Assign [.Name x pos'] (.ListComp elt [⟨tg,iter,[],0⟩] scope lpos) pos) (x9a (z3p wi own.length [] g te) (z6g i)):=by
 refine z9v (own:=own) (fv:=[]) (js:=[]) (cl:=[]) hN hx1 hx hf hc hi (closureFor_none hfree) hcell hkind hnames (λ x c h=>by cases h) (λ x h=>?_) rfl (λ i x j h=>by simp at h) (by simpa using hg) (by simpa using he) hsw hs
 rw [z6k hfree] at h
 rcases h with h | h
 ·exact absurd rfl (hcell _ (PySem.mem_of_lookup h))
 ·exact absurd rfl (hfree _ (PySem.mem_of_lookup h))
section
variable {X:Cx}
def x6b (x y:Str):Bool:=decide (0+y.length≤x.length) && Builtin.Str.subAt x y 0
def x6r:V->List V->Hp->VK->Prop:=λ x xs H Q=>∃z y,x=.str z/\xs=[.str y]/\Q (.bl (x6b z y)) H
def x6s:V->Option Int->Option Int->Hp->VK->Prop:=λ x lo hi H Q=>∃z,x=.str z/\z.length≤4000000/\Q (.str (Txt.slice z lo hi)) H
end
section
variable {κ:Type} [DecidableEq κ]
def y2a (kvs:List (κ × V)) (k:κ):Option V:=(kvs.find? λ kv=>decide (kv.1=k)).map (·.2)
def y0p (kvs:List (κ × V)) (k:κ) (v:V):List (κ × V) :=
 if (kvs.any λ kv=>decide (kv.1=k))=true then kvs.map (λ kv=>if kv.1=k then (kv.1,v) else kv) else kvs++[(k,v)]
def w2l (kvs:List (κ × V)) (k:κ):List (κ × V):=kvs.filter λ kv=>decide (kv.1≠k)
theorem z8v {p:κ × V}{r:List (κ × V)}{k:κ}(e:p.1=k):y2a (p::r) k=some p.2:=by simp [y2a,List.find?_cons,e]
theorem z8w {p:κ × V}{r:List (κ × V)}{k:κ}(e:¬p.1=k):y2a (p::r) k=y2a r k:=by simp [y2a,List.find?_cons,e]
theorem y3x (k:κ):∀kvs:List (κ × V),(kvs.any λ kv=>decide (kv.1=k))=(y2a kvs k).isSome
 | []=>rfl
 | p::r=>by
  rw [List.any_cons]
  by_cases e:p.1=k
  ·simp only [z8v e,decide_eq_true e,Bool.true_or,Option.isSome_some]
  ·rw [z8w e,decide_eq_false e,Bool.false_or];exact y3x k r
theorem z4x (kvs:List (κ × V)) (k:κ) (v:V):(y0p kvs k v).length≤kvs.length+1:=by
 unfold y0p
 split
 ·rw [List.length_map];lia
 ·rw [List.length_append,List.length_cons,List.length_nil];lia
theorem RelO.isSome_eq {o:Option V}{u:Option Value}(r:RelO o u):o.isSome=u.isSome:=by
 cases o with
 | none=>cases u with
  | none=>rfl
  | some _=>exact (show False from r).elim
 | some _=>cases u with
  | none=>exact (show False from r).elim
  | some _=>rfl
theorem RelO.getD {o:Option V}{u:Option Value}{d:V}{d':Value}(r:RelO o u) (rd:RelV d d'):RelV (o.getD d) (u.getD d'):=by
 cases o with
 | none=>cases u with
  | none=>exact rd
  | some _=>exact (show False from r).elim
 | some _=>cases u with
  | none=>exact (show False from r).elim
  | some _=>exact r
theorem KV.val {kvs:List (κ × V)}{vs:List (κ × Value)}(r:KV kvs vs) (k:κ):RelO (y2a kvs k) (valueAt vs k):=by
 unfold KV at r
 induction r with
 | nil=>exact True.intro
 | @cons p q ps qs h t ih =>
  obtain ⟨h1,h2⟩:=h
  by_cases e:p.1=k
  ·have e':q.1=k:=h1.symm.trans e
   have b:valueAt (q::qs) k=some q.2:=by simp [valueAt,List.find?_cons,e']
   rw [z8v e,b];exact h2
  ·have e':¬q.1=k:=λ z=>e (h1.trans z)
   have b:valueAt (q::qs) k=valueAt qs k:=by simp [valueAt,List.find?_cons,e']
   rw [z8w e,b];exact ih
theorem KV.any {kvs:List (κ × V)}{vs:List (κ × Value)}(r:KV kvs vs) (k:κ):(kvs.any λ kv=>decide (kv.1=k))=vs.any λ kv=>decide (kv.1=k):=by
 unfold KV at r
 induction r with
 | nil=>rfl
 | cons h t ih=>rw [List.any_cons,List.any_cons,ih,h.1]
theorem KV.repl {kvs:List (κ × V)}{vs:List (κ × Value)}(r:KV kvs vs) (k:κ) {y:V}{u:Value}(ry:RelV y u) :
  KV (kvs.map λ kv=>if kv.1=k then (kv.1,y) else kv) (vs.map λ kv=>if kv.1=k then (kv.1,u) else kv):=by
 unfold KV at r ⊢
 induction r with
 | nil=>exact .nil
 | @cons p q ps qs h t ih =>
  rw [List.map_cons,List.map_cons]
  refine .cons ?_ ih
  obtain ⟨h1,h2⟩:=h
  by_cases e:p.1=k
  ·rw [if_pos e,if_pos (h1.symm.trans e)];exact ⟨h1,ry⟩
  ·rw [if_neg e,if_neg (λ z=>e (h1.trans z))];exact ⟨h1,h2⟩
theorem KV.put {kvs:List (κ × V)}{vs:List (κ × Value)}(r:KV kvs vs) (k:κ) {y:V}{u:Value}(ry:RelV y u):KV (y0p kvs k y) (stored vs k u):=by
 unfold y0p stored
 rw [r.any k]
 by_cases e:(vs.any λ kv=>decide (kv.1=k))=true
 ·rw [if_pos e,if_pos e];exact r.repl k ry
 ·rw [if_neg e,if_neg e];exact Paired.snoc r ⟨rfl,ry⟩
theorem KV.drop {kvs:List (κ × V)}{vs:List (κ × Value)}(r:KV kvs vs) (k:κ):KV (w2l kvs k) (without vs k):=by
 unfold KV at r ⊢
 unfold w2l without
 induction r with
 | nil=>exact .nil
 | @cons p q ps qs h t ih =>
  obtain ⟨h1,h2⟩:=h
  rw [List.filter_cons,List.filter_cons]
  by_cases e:p.1=k
  ·have a:¬decide (p.1≠k)=true:=by simp [e]
   have b:¬decide (q.1≠k)=true:=by simp [h1.symm.trans e]
   rw [if_neg a,if_neg b];exact ih
  ·have e':¬q.1=k:=λ z=>e (h1.trans z)
   have a:decide (p.1≠k)=true:=by simp [e]
   have b:decide (q.1≠k)=true:=by simp [e']
   rw [if_pos a,if_pos b];exact .cons ⟨h1,h2⟩ ih
theorem KV.keys {kvs:List (κ × V)}{vs:List (κ × Value)}(r:KV kvs vs):kvs.map (·.1)=vs.map (·.1):=by
 unfold KV at r
 induction r with
 | nil=>rfl
 | cons h t ih=>rw [List.map_cons,List.map_cons,ih,h.1]
theorem KV.length {kvs:List (κ × V)}{vs:List (κ × Value)}(r:KV kvs vs):kvs.length=vs.length:=Paired.length r
end
theorem y6k {P:Program}{w:World}{k:Key}{u:Value}(r:RelV (kV k) u):(z2a P w).is k u=true:=by
 cases k with
 | inl i=>obtain ⟨t,e⟩:=(show ∃t,u=Value.int i t from r);subst e;exact y3d P w i t
 | inr x=>obtain ⟨t,e⟩:=(show ∃t,u=Value.str x t from r);subst e;exact y3c P w x t
theorem y1i {P:Program}{w:World}:∀ {ks:List Key}{us:List Value},Vals (ks.map kV) us->ItemsAre (z2a P w) ks us
 | [],_,r=>by rw [List.map_nil] at r;cases r;exact .nil
 | k::ks,_,r=>by
  rw [List.map_cons] at r
  cases r with
  | cons h t=>exact .cons (y6k h) (y1i t)
abbrev KT (H:Hp):List (List Key × V)->List (List Key × Addr × Value)->Prop:=Paired λ p q=>p.1=q.1/\H q.2.1=some (.tup (p.1.map kV))/\RelV p.2 q.2.2
theorem KT.val {H:Hp}{kvs:List (List Key × V)}{xs:List (List Key × Addr × Value)}(r:KT H kvs xs) (k:List Key):RelO (y2a kvs k) ((atKey xs k).map (·.2)):=by
 induction r with
 | nil=>exact True.intro
 | @cons p q ps qs h t ih =>
  obtain ⟨h1,_,h2⟩:=h
  by_cases e:p.1=k
  ·have e':q.1=k:=h1.symm.trans e
   have b:atKey (q::qs) k=some q.2:=by simp [atKey,List.find?_cons,e']
   rw [z8v e,b];exact h2
  ·have e':¬q.1=k:=λ z=>e (h1.trans z)
   have b:atKey (q::qs) k=atKey qs k:=by simp [atKey,List.find?_cons,e']
   rw [z8w e,b];exact ih
theorem KT.repl {H:Hp}{kvs:List (List Key × V)}{xs:List (List Key × Addr × Value)}(r:KT H kvs xs) (k:List Key) {y:V}{u:Value}(ry:RelV y u) :
  KT H (kvs.map λ kv=>if kv.1=k then (kv.1,y) else kv) (xs.map (putAt k u)):=by
 induction r with
 | nil=>exact .nil
 | @cons p q ps qs h t ih =>
  rw [List.map_cons,List.map_cons]
  refine .cons ?_ ih
  obtain ⟨h1,h2,h3⟩:=h
  unfold putAt
  by_cases e:p.1=k
  ·rw [if_pos e,if_pos (h1.symm.trans e)];exact ⟨h1,h2,ry⟩
  ·rw [if_neg e,if_neg (λ z=>e (h1.trans z))];exact ⟨h1,h2,h3⟩
theorem KT.put {H:Hp}{kvs:List (List Key × V)}{xs:List (List Key × Addr × Value)}(r:KT H kvs xs) (k:List Key) {b:Addr}{y:V}{u:Value}(hb:H b=some (.tup (k.map kV))) (ry:RelV y u) :
  KT H (y0p kvs k y) (storedH xs k b u):=by
 have e:(kvs.any λ kv=>decide (kv.1=k))=(atKey xs k).isSome:=by
  rw [y3x,(r.val k).isSome_eq,Option.isSome_map]
 unfold y0p storedH
 rw [e]
 by_cases q:(atKey xs k).isSome=true
 ·rw [if_pos q,if_pos q];exact r.repl k ry
 ·rw [if_neg q,if_neg q];exact Paired.snoc r ⟨rfl,hb,ry⟩
theorem KT.keeps {H H':Hp}{kvs:List (List Key × V)}{xs:List (List Key × Addr × Value)}(r:KT H kvs xs) (ht:∀b ys,H b=some (.tup ys)->H' b=some (.tup ys)):KT H' kvs xs :=
 Paired.mapP r λ _ _ z=>⟨z.1,ht _ _ z.2.1,z.2.2⟩
section
variable {P:Program}{w:World}{H:Hp}{h:Heap}{a:Addr}
theorem w0i {u:HO}(ok:HOk P w H h) (e:Rd H a u):ObjOk P w H h a u:=e.ok ok
theorem x0v {kvs:List (Key × V)}(ok:HOk P w H h) (e:Rd H a (.dK kvs)):kvs.length≤sizeLine/\(a == sysModules)=false/\∃vs,KV kvs vs/\h.DictOf (z2a P w) a vs :=
 show ObjOk P w H h a (.dK kvs) from w0i ok e
theorem w2m {kvs:List (Key × V)}(ok:HOk P w H h) (e:H a=some (.dK kvs)):kvs.length≤sizeLine/\(a == sysModules)=false/\∃vs,KV kvs vs/\h.DictOf (z2a P w) a vs:=x0v ok (.inl e)
theorem y1h {ks:List Key}(ok:HOk P w H h) (e:H a=some (.tup (ks.map kV))):(tupleKind (z2a P w)).is h ks a:=by
 obtain ⟨_,its,r,o,h1,h2,n,h3⟩:=(show ObjOk P w H h a (.tup (ks.map kV)) from ok a _ e)
 exact ⟨o,its.toArray,n,h1,h2,h3,by simpa using y1i r⟩
theorem x0t {kvs:List (List Key × V)}(ok:HOk P w H h) (e:Rd H a (.dT kvs)):kvs.length≤sizeLine/\(a == sysModules)=false /\
  ∃xs,KT H kvs xs/\h.DictOfH (tupleKind (z2a P w)) a xs:=by
 obtain ⟨z,y,xs,r,o,es,ep,h1,h2,h3,h4,h5⟩:=(show ObjOk P w H h a (.dT kvs) from w0i ok e)
 refine ⟨z,y,xs,r,o,es,ep,h1,h2,h3,h4,λ x hx=>?_,h5⟩
 have all:∀ {l:List (List Key × V)}{m:List (List Key × Addr × Value)},KT H l m->∀x∈m,(tupleKind (z2a P w)).is h x.1 x.2.1:=by
  intro l m q
  induction q with
  | nil=>intro x hx;exact nomatch hx
  | @cons p q ps qs hq t ih =>
   intro x hx
   rcases List.mem_cons.mp hx with e | hx
   ·subst e
    exact y1h ok (by rw [← hq.1];exact hq.2.1)
   ·exact ih x hx
 exact all r x hx
theorem w4n {kvs:List (List Key × V)}(ok:HOk P w H h) (e:H a=some (.dT kvs)):kvs.length≤sizeLine/\(a == sysModules)=false /\
  ∃xs,KT H kvs xs/\h.DictOfH (tupleKind (z2a P w)) a xs:=x0t ok (.inl e)
end
def DGet (H:Hp) (a:Addr) (y:V) (r:Option V):Prop :=
 (∃kvs k,Rd H a (.dK kvs)/\y=kV k/\r=y2a kvs k)\/∃kvs k b,Rd H a (.dT kvs)/\y=.ref b/\H b=some (.tup (k.map kV))/\r=y2a kvs k
def DPut (H:Hp) (a:Addr) (y v:V) (H':Hp):Prop :=
 (∃kvs k,H a=some (.dK kvs)/\y=kV k/\kvs.length < sizeLine/\H'=upd H a (.dK (y0p kvs k v))) \/
 ∃kvs k b,H a=some (.dT kvs)/\y=.ref b/\H b=some (.tup (k.map kV))/\kvs.length < sizeLine/\H'=upd H a (.dT (y0p kvs k v))
theorem DGet.k {H:Hp}{a:Addr}{kvs:List (Key × V)}{k:Key}(e:H a=some (.dK kvs)):DGet H a (kV k) (y2a kvs k):=.inl ⟨kvs,k,.inl e,rfl,rfl⟩
theorem DGet.t {H:Hp}{a b:Addr}{kvs:List (List Key × V)}{k:List Key}(e:H a=some (.dT kvs)) (eb:H b=some (.tup (k.map kV))):DGet H a (.ref b) (y2a kvs k):=.inr ⟨kvs,k,b,.inl e,rfl,eb,rfl⟩
theorem DPut.k {H:Hp}{a:Addr}{kvs:List (Key × V)}{k:Key}{v:V}(e:H a=some (.dK kvs)) (hl:kvs.length < sizeLine):DPut H a (kV k) v (upd H a (.dK (y0p kvs k v))):=.inl ⟨kvs,k,e,rfl,hl,rfl⟩
theorem DPut.t {H:Hp}{a b:Addr}{kvs:List (List Key × V)}{k:List Key}{v:V}(e:H a=some (.dT kvs)) (eb:H b=some (.tup (k.map kV))) (hl:kvs.length < sizeLine) :
  DPut H a (.ref b) v (upd H a (.dT (y0p kvs k v))):=.inr ⟨kvs,k,b,e,rfl,eb,hl,rfl⟩
section
variable {X:Cx}{pins:List (Addr × Obj)}{σ:St}{H:Hp}{s:Shared}{a:Addr}{y v:V}{u r:Value}{o:Option V}{A:Around}{E:Value->Shared->Prop}
theorem Inv.big (I:Inv X pins σ H s):sysModules < s.heap.objs.size:=by
 have h:mainGlobals < s.heap.objs.size:=(I.mod.glob.keeps I.bk).lt
 exact Nat.lt_trans (by decide) h
theorem x1a {Q:Value->Shared->Prop}(hu:A.units+1 < cLine) (I:Inv X pins σ H s) (g:DGet H a y (some v)) (ry:RelV y u) (h:∀w' s',Inv X pins σ H s'->RelV v w'->Q w' s') :
  wpAny (model X.prog X.w) A (getItem (.ref a) u) Q E s:=by
 rcases g with ⟨kvs,k,e,ey,l⟩ | ⟨kvs,k,b,e,ey,eb,l⟩
 ·subst ey
  obtain ⟨z,hd,vs,rel,dd⟩:=x0v I.hok e
  obtain ⟨w',hw,rw'⟩:=RelO.some_of (v:=v) (o:=valueAt vs k) (by rw [l];exact rel.val k)
  exact wpAny_getItem_of (y6k ry) dd.mapOf hw (h w' _ (I.tok _) rw')
 ·subst ey
  cases (show u=Value.ref b from ry)
  obtain ⟨z,hd,xs,rel,dd⟩:=x0t I.hok e
  obtain ⟨w',hw,rw'⟩:=RelO.some_of (v:=v) (o:=(atKey xs k).map (·.2)) (by rw [l];exact rel.val k)
  obtain ⟨p,hp,hp2⟩:=Option.map_eq_some_iff.mp hw
  refine wpAny_getItem_heap (tupleKind_room_in1 hu) (y1h I.hok eb) dd hp ?_
  rw [hp2]
  exact h w' _ (I.tok _) rw'
theorem w7l {Q:Value->Shared->Prop}(hu:A.units+1 < cLine) (I:Inv X pins σ H s) (g:DGet H a y o) (ry:RelV y u) (h:∀s',Inv X pins σ H s'->Q (.bool o.isSome) s') :
  wpAny (model X.prog X.w) A (compareOp .In u (.ref a)) Q E s:=by
 rcases g with ⟨kvs,k,e,ey,l⟩ | ⟨kvs,k,b,e,ey,eb,l⟩
 ·subst ey
  obtain ⟨z,hd,vs,rel,dd⟩:=x0v I.hok e
  refine wpAny_in_of (y6k ry) hd dd.mapOf ?_
  rw [← (rel.val k).isSome_eq,← l]
  exact h _ (I.tok _)
 ·subst ey
  cases (show u=Value.ref b from ry)
  obtain ⟨z,hd,xs,rel,dd⟩:=x0t I.hok e
  refine wpAny_in_heap (tupleKind_room_in1 hu) (y1h I.hok eb) hd dd ?_
  have q:=(rel.val k).isSome_eq
  rw [Option.isSome_map] at q
  rw [← q,← l]
  exact h _ (I.tok _)
theorem x8j {Q:Value->Shared->Prop}(hu:A.units+1 < cLine) (I:Inv X pins σ H s) (g:DGet H a y o) (ry:RelV y u) (h:∀s',Inv X pins σ H s'->Q (.bool (!o.isSome)) s') :
  wpAny (model X.prog X.w) A (compareOp .NotIn u (.ref a)) Q E s:=by
 rcases g with ⟨kvs,k,e,ey,l⟩ | ⟨kvs,k,b,e,ey,eb,l⟩
 ·subst ey
  obtain ⟨z,hd,vs,rel,dd⟩:=x0v I.hok e
  refine wpAny_notIn_of (y6k ry) hd dd.mapOf ?_
  rw [← (rel.val k).isSome_eq,← l]
  exact h _ (I.tok _)
 ·subst ey
  cases (show u=Value.ref b from ry)
  obtain ⟨z,hd,xs,rel,dd⟩:=x0t I.hok e
  refine wpAny_notIn_heap (tupleKind_room_in1 hu) (y1h I.hok eb) hd dd ?_
  have q:=(rel.val k).isSome_eq
  rw [Option.isSome_map] at q
  rw [← q,← l]
  exact h _ (I.tok _)
theorem y3m {h':Heap}{t':Nat}{ob:HO}(I:Inv X pins σ H s) (mu:Mut (H a)) (hs:Heap.SameBut a s.heap h') (he:∃q,h'.get? a=some q) (new:ObjOk X.prog X.w (upd H a ob) h' a ob) :
  Inv X pins σ (upd H a ob) { s with heap:=h',toks:=t' } :=
 I.write (x:=a) (e:=a) mu (.inl rfl) (λ b q hb z=>(hs.2 b hb).trans z) he new
theorem x5m {P:Program}{w:World}{H':Hp}{h':Heap}{kvs:List (Key × V)}{vs:List (Key × Value)}(z:kvs.length≤sizeLine) (hd:(a == sysModules)=false) (rel:KV kvs vs) (dd:h'.DictOf (z2a P w) a vs) :
  ObjOk P w H' h' a (.dK kvs):=⟨z,hd,vs,rel,dd⟩
theorem x0z {H':Hp}{Q:Unit->Shared->Prop}(hu:A.units+1 < cLine) (I:Inv X pins σ H s) (g:DPut H a y v H') (ry:RelV y u) (rv:RelV v r) (h:∀s',Inv X pins σ H' s'->Q () s') :
  wpAny (model X.prog X.w) A (setItem (.ref a) u r) Q E s:=by
 rcases g with ⟨kvs,k,e,ey,l,eH⟩ | ⟨kvs,k,b,e,ey,eb,l,eH⟩
 ·subst ey eH
  obtain ⟨z,hd,vs,rel,dd⟩:=w2m I.hok e
  have hz:vs.length≤sizeLine:=by rw [← rel.length];exact z
  have hl:(y0p kvs k v).length≤sizeLine:=by have:=z4x kvs k v;lia
  refine wpAny_setItem_pairs (hsz:=hz) (y6k ry) dd λ h' dd' hs=>h _ ?_
  have he:∃q,h'.get? a=some q:=let ⟨q,_,_,hq,_⟩:=dd';⟨q,hq⟩
  exact y3m I (by rw [e];exact True.intro) hs he (x5m hl hd (rel.put k rv) dd')
 ·subst ey eH
  cases (show u=Value.ref b from ry)
  obtain ⟨z,hd,xs,rel,dd⟩:=w4n I.hok e
  have hz:xs.length≤sizeLine:=by rw [← Paired.length rel];exact z
  have hl:(y0p kvs k v).length≤sizeLine:=by have:=z4x kvs k v;lia
  refine wpAny_setItem_heap (hsz:=hz) (tupleKind_room_in1 hu) (y1h I.hok eb) dd λ h' dd' hs=>h _ ?_
  obtain ⟨q,es,ep,hq,h2,h3,h4,_,h5⟩:=dd'
  refine y3m I (by rw [e];exact True.intro) hs ⟨q,hq⟩ ⟨hl,hd,_,(rel.put k eb rv).keeps λ c ys ec=>?_,q,es,ep,hq,h2,h3,h4,h5⟩
  rw [z0n (z8j ec e (λ z=>nomatch z))]
  exact ec
end
section
variable {X:Cx}{pins:List (Addr × Obj)}{σ:St}{H:Hp}{s:Shared}{a:Addr}{kvs:List (Key × V)}{k:Key}{u:Value}{A:Around}{E:Value->Shared->Prop}
end
def w6g (i:Expr):Prop:=∀ov iv,subscripted i false ov iv=operate [ov,iv] (getItem ov iv)
theorem x6a {prog:Program}{w:World}{A:Around}{E:Value->Shared->Prop}{s:Shared}{env:Env}{value slice:Expr}{pos:Pos}{T id:String}{Q:Value->Shared->Prop}
  (hl:typeLookup (.type T) "__getitem__"=pure (some (.builtin id))) (hs:w6g slice)
  (h:wpAny (model prog w) A (eval value env) (λ o s₁=>wpAny (model prog w) A (eval slice env) (λ i s₂=>s₂.TypeIs o T/\wpAny (model prog w) A (getItem o i) Q E s₂) E s₁) E s) :
  wpAny (model prog w) A (eval (.Subscript value slice pos) env) Q E s:=by
 refine Subscript_ (wpAny_mono h (λ o s₁ h₁=>wpAny_mono h₁ (λ i s₂ h₂=>?_) λ _ _ x=>x) λ _ _ x=>x)
 obtain ⟨hT,h₂⟩:=h₂
 unfold subscriptTail
 refine wpAny_bind ?_
 rw [getitemInPython_of_ne hT.not_modules]
 refine wpAny_bind (wpAny_specialOf hT hl ?_)
 have fin:wpAny (model prog w) A (subscripted slice false o i) (λ r s₃=>wpAny (model prog w) A (letTemporaryGo value o r >>= λ _=>pure r) Q E s₃) E s₂:=by
  rw [hs o i]
  exact wpAny_operating (wpAny_mono h₂ (λ r s₃ h₃=>wpAny_bind (wpAny_letTemporaryGo (wpAny_pure h₃))) λ _ _ x=>x)
 first
  | exact wpAny_pure (wpAny_bind fin)
  | exact wpAny_bind (wpAny_pure (wpAny_bind fin))
  | exact wpAny_bind fin
theorem y3l {X:Cx}{pins:List (Addr × Obj)}{σ:St}{H:Hp}{s:Shared}{a:Addr}{y:V}{o:Option V}(I:Inv X pins σ H s) (g:DGet H a y o):s.TypeIs (.ref a) "dict" := by
 rcases g with ⟨kvs,k,e,_,_⟩ | ⟨kvs,k,b,e,_,_,_⟩
 ·obtain ⟨_,_,vs,_,dd⟩:=x0v I.hok e
  exact dd.typeIs
 ·obtain ⟨_,_,xs,_,dd⟩:=x0t I.hok e
  exact dd.typeIs
def x9t (td ty:TE):TE:=λ σ H Q=>td σ H λ x H1=>ty σ H1 λ y H2=>∃a v,x=.ref a/\DGet H2 a y (some v)/\Q v H2
def w5h (ty td:TE):TE:=λ σ H Q=>ty σ H λ y H1=>td σ H1 λ x H2=>∃a o,x=.ref a/\DGet H2 a y o/\Q (.bl o.isSome) H2
def y7m (ty td:TE):TE:=λ σ H Q=>ty σ H λ y H1=>td σ H1 λ x H2=>∃a o,x=.ref a/\DGet H2 a y o/\Q (.bl (!o.isSome)) H2
def w0e (td ty tv:TE):TS:=λ D σ H=>tv σ H λ v H1=>td σ H1 λ x H2=>ty σ H2 λ y H3=>∃a H4,x=.ref a/\DPut H3 a y v H4/\D.nx σ H4
section
variable {X:Cx}{o i e value:Expr}{pos pos' tpos:Pos}{td ty tv:TE}
theorem x7f (hu:X.A.units+1 < cLine) (ho:PE X o td) (hi:PE X i ty) (hs:w6g i):PE X (.Subscript o i pos) (x9t td ty):=by
 intro pins s σ H Q I h
 refine x6a PySem.F.slot_dict_getitem.lookup hs (thn (ho pins s σ H _ I h) λ u s1 ⟨x,H1,I1,rx,q1⟩=>thn (hi pins s1 σ H1 _ I1 q1) λ iv s2 ⟨y,H2,I2,ry,a,v,ex,g,q2⟩=>?_)
 subst ex
 obtain rfl:u=Value.ref a:=rx
 exact ⟨y3l I2 g,x1a hu I2 g ry λ w' s3 I3 rw'=>⟨v,H2,I3,rw',q2⟩⟩
theorem x5h (hu:X.A.units+1 < cLine) (hi:PE X i ty) (ho:PE X o td):PC X .In i o (w5h ty td):=by
 intro pins s σ H Q I h
 refine thn (hi pins s σ H _ I h) λ iv s1 ⟨y,H1,I1,ry,q1⟩=>thn (ho pins s1 σ H1 _ I1 q1) λ u s2 ⟨x,H2,I2,rx,a,ov,ex,g,q2⟩=>?_
 subst ex
 obtain rfl:u=Value.ref a:=rx
 exact w7l hu I2 g ry λ s3 I3=>⟨.bl ov.isSome,H2,I3,rfl,q2⟩
theorem y9i (hu:X.A.units+1 < cLine) (hi:PE X i ty) (ho:PE X o td):PC X .NotIn i o (y7m ty td):=by
 intro pins s σ H Q I h
 refine thn (hi pins s σ H _ I h) λ iv s1 ⟨y,H1,I1,ry,q1⟩=>thn (ho pins s1 σ H1 _ I1 q1) λ u s2 ⟨x,H2,I2,rx,a,ov,ex,g,q2⟩=>?_
 subst ex
 obtain rfl:u=Value.ref a:=rx
 exact x8j hu I2 g ry λ s3 I3=>⟨.bl (!ov.isSome),H2,I3,rfl,q2⟩
theorem y8v (hu:X.A.units+1 < cLine) (ho:PE X o td) (hi:PE X i ty) (hv:PE X value tv) (hs:swapsWith value (some (.Subscript o i pos')) pos.line X.env=pure false) :
  PS X (.Assign [.Subscript o i pos'] value pos) (w0e td ty tv):=by
 intro pins s σ H D I h
 refine wpAny_Assign_Subscript (thn (hv pins s σ H _ I h) λ r s1 ⟨v,H1,I1,rv,q1⟩=>thn (ho pins s1 σ H1 _ I1 q1) λ u s2 ⟨x,H2,I2,rx,q2⟩=>thn (hi pins s2 σ H2 _ I2 q2) λ iv s3 ⟨y,H3,I3,ry,a,H4,ex,g,q3⟩=>?_) hs
 subst ex
 obtain rfl:u=Value.ref a:=rx
 exact x0z hu I3 g ry rv λ s4 I4=>⟨σ,H4,I4,q3⟩
end
theorem x4i {P:Program}{w:World}{H:Hp}(h:Heap) (hb:sysModules < h.objs.size):ObjOk P w H (h.push { cls:=.type "dict",data:=.dict #[] }) h.objs.size (.dK []) :=
 ⟨Nat.zero_le _,beq_eq_false_iff_ne.mpr (Ne.symm (Nat.ne_of_lt hb)),[],.nil,Heap.DictOf.new h⟩
theorem x4h {P:Program}{w:World}{H:Hp}(h:Heap) (hb:sysModules < h.objs.size):ObjOk P w H (h.push { cls:=.type "dict",data:=.dict #[] }) h.objs.size (.dT []) :=
 ⟨Nat.zero_le _,beq_eq_false_iff_ne.mpr (Ne.symm (Nat.ne_of_lt hb)),[],.nil,_,#[],0,Heap.get?_push_size _ rfl,⟨rfl,rfl,rfl⟩,rfl,rfl,List.nodup_nil⟩
def x9r:TE:=λ _ H Q=>∀p,H p=none->Q (.ref p) (upd H p (.dK []))
def x5d:TE:=λ _ H Q=>∀p,H p=none->Q (.ref p) (upd H p (.dT []))
section
variable {X:Cx}{pos:Pos}
theorem y4g:PE X (.Dict [] [] pos) x5d:=λ pins s σ H Q I h =>
 wpAny_Dict_empty ⟨.ref s.heap.objs.size,_,I.laid (a:=s.heap.objs.size) (o:=.dT []) (t':=s.toks) (λ _ _ q=>Heap.get?_push_of_some _ q) (Nat.le_refl _) (x4h s.heap I.big),rfl,h _ (I.hok.fresh (Nat.le_refl _))⟩
end
def y3y:List (TE × TE)->St->Hp->(List (V × V)->Hp->Prop)->Prop
 | [],_,H,Q=>Q [] H
 | (tk,tv)::r,σ,H,Q=>tk σ H λ x H1=>tv σ H1 λ y H2=>y3y r σ H2 λ ps H3=>Q ((x,y)::ps) H3
abbrev VV:List (V × V)->List (Value × Value)->Prop:=Paired λ p q=>RelV p.1 q.1/\RelV p.2 q.2
def PPs (X:Cx) (pos:Pos) (keys:List (Option Expr)) (values:List Expr) (trs:List (TE × TE)):Prop :=
 ∀(pins:List (Addr × Obj)) (s:Shared) (σ:St) (H:Hp) (Q:List (V × V)->Hp->Prop),Inv X pins σ H s->y3y trs σ H Q ->
  wpAny (model X.prog X.w) X.A (evalPairs (pairTrees keys values X.env pos)) (λ vs s'=>∃ps H',Inv X pins σ H' s'/\VV ps vs/\Q ps H') X.xe s
theorem x6w {X:Cx}{pos:Pos}:PPs X pos [] [] []:=λ pins s σ H Q I h=>pairTrees_nil_walk ⟨[],H,I,.nil,h⟩
theorem z9w {X:Cx}{pos:Pos}{k v:Expr}{ks:List (Option Expr)}{vs:List Expr}{tk tv:TE}{trs:List (TE × TE)}(hk:PE X k tk) (hv:PE X v tv) (hr:PPs X pos ks vs trs) :
  PPs X pos (some k::ks) (v::vs) ((tk,tv)::trs):=λ pins s σ H Q I h =>
 pairTrees_cons_walk (thn (hk pins s σ H _ I h) λ u s1 ⟨x,H1,I1,rx,q1⟩=>thn (hv pins s1 σ H1 _ I1 q1) λ w2 s2 ⟨y,H2,I2,ry,q2⟩ =>
  thn (hr pins s2 σ H2 _ I2 q2) λ ws s3 ⟨ps,H3,I3,rel,q3⟩=>⟨(x,y)::ps,H3,I3,.cons ⟨rx,ry⟩ rel,q3⟩)
def z7u (kvs more:List (Key × V)):List (Key × V):=more.foldl (λ acc kv=>y0p acc kv.1 kv.2) kvs
theorem KV.merge:∀ {more:List (Key × V)}{rs:List (Key × Value)}{kvs:List (Key × V)}{vs:List (Key × Value)},KV more rs->KV kvs vs->KV (z7u kvs more) (merged vs rs):=by
 intro more rs kvs vs r
 unfold KV at r
 induction r generalizing kvs vs with
 | nil=>intro q;exact q
 | @cons p q ps qs h t ih =>
  intro r0
  have e:KV (y0p kvs p.1 p.2) (stored vs q.1 q.2):=by
   have:=r0.put p.1 h.2
   rw [← h.1];exact this
  exact ih e
theorem z5s:∀(more kvs:List (Key × V)),(z7u kvs more).length≤kvs.length+more.length
 | [],kvs=>by show kvs.length≤kvs.length+0;lia
 | p::r,kvs=>by
  have h1:=z5s r (y0p kvs p.1 p.2)
  have h2:=z4x kvs p.1 p.2
  show (z7u (y0p kvs p.1 p.2) r).length≤_
  rw [List.length_cons];lia
theorem z8s {P:Program}{w:World}:∀ {kvs:List (Key × V)}{ws:List (Value × Value)},VV (kvs.map λ kv=>(kV kv.1,kv.2)) ws->∃rs,Carries (z2a P w) ws rs/\KV kvs rs
 | [],_,r=>by rw [List.map_nil] at r;cases r;exact ⟨[],True.intro,.nil⟩
 | p::kvs,_,r=>by
  rw [List.map_cons] at r
  cases r with
  | @cons a b as bs h t =>
   obtain ⟨rs,c,q⟩:=z8s (P:=P) (w:=w) t
   obtain ⟨b1,b2⟩:=b
   exact ⟨(p.1,b2)::rs,⟨y6k h.1,rfl,c⟩,.cons ⟨rfl,h.2⟩ q⟩
def x9q (trs:List (TE × TE)):TE:=λ σ H Q=>∀p,H p=none->y3y trs σ (upd H p (.dK [])) λ ps H2=>H2 p=some (.dK [])/\∃kvs:List (Key × V),ps=kvs.map (λ kv=>(kV kv.1,kv.2))/\kvs.length≤15/\Q (.ref p) (upd H2 p (.dK (z7u [] kvs)))
theorem x7e {X:Cx}{pos:Pos}{keys:List (Option Expr)}{values:List Expr}{trs:List (TE × TE)}(h:PPs X pos keys values trs) (hall:keys.all (·.isSome)=true) (hl:keys.length=values.length) (h0:keys≠[])
  (h15:keys.length≤15):PE X (.Dict keys values pos) (x9q trs):=by
 intro pins s σ H Q I q
 have hn:=I.hok.fresh (Nat.le_refl s.heap.objs.size)
 have I1:=I.laid (a:=s.heap.objs.size) (o:=.dK []) (h':=s.heap.push { cls:=.type "dict",data:=.dict #[] }) (t':=s.toks) (λ _ _ q=>Heap.get?_push_of_some _ q) (Nat.le_refl _) (x4i s.heap I.big)
 refine wpAny_Dict_walk (knd:=z2a X.prog X.w) hall hl h0 h15 (thn (h pins _ σ _ _ I1 (q _ hn)) λ ws s2 ⟨ps,H2,I2,rel,e,kvs,ep,lk,q2⟩=>?_)
 subst ep
 obtain ⟨rs,c,rk⟩:=z8s (P:=X.prog) (w:=X.w) rel
 obtain ⟨z,hd,vs0,r0,dd⟩:=w2m I2.hok e
 cases r0
 refine ⟨rs,c,dd,λ h' dd' hs=>⟨.ref s.heap.objs.size,_,?_,rfl,q2⟩⟩
 have hz:(z7u [] kvs).length≤sizeLine:=by
  have h1:=z5s kvs []
  rw [List.length_nil] at h1
  rw [sizeLine_eq];lia
 have he:∃q,h'.get? s.heap.objs.size=some q:=let ⟨q,_,_,hq,_⟩:=dd';⟨q,hq⟩
 exact y3m I2 (by rw [e];exact True.intro) hs he (x5m hz hd (rk.merge .nil) dd')
structure M1 (X:Cx) (o:Expr) (m:Str) (apos:Pos) (e:Expr) (cpos:Pos):Prop where
 base:attributeBase o m X.env (eval o X.env)=eval o X.env
 few:((backTo cpos (starEach [e] X.env)).all (λ x=>!x.1) && (backToKw cpos (keywordEach [] X.env)).all (λ x=>x.1.isSome)
  && decide (([e]:List Expr).length+([]:List Keyword).length+(if ([]:List Keyword).isEmpty then 0 else 1) < 30))=true
 line:(apos.endLine == cpos.line)=true
 trees:backTo cpos (starEach [e] X.env)=[(false,eval e X.env)]
structure M2 (X:Cx) (o:Expr) (m:Str) (apos:Pos) (e f:Expr) (cpos:Pos):Prop where
 base:attributeBase o m X.env (eval o X.env)=eval o X.env
 few:((backTo cpos (starEach [e,f] X.env)).all (λ x=>!x.1) && (backToKw cpos (keywordEach [] X.env)).all (λ x=>x.1.isSome)
  && decide (([e,f]:List Expr).length+([]:List Keyword).length+(if ([]:List Keyword).isEmpty then 0 else 1) < 30))=true
 line:(apos.endLine == cpos.line)=true
 trees:backTo cpos (starEach [e,f] X.env)=[(false,eval e X.env),(false,eval f X.env)]
def IsD (H:Hp) (a:Addr):Prop:=(∃kvs,Rd H a (.dK kvs))\/∃kvs,Rd H a (.dT kvs)
section
variable {X:Cx}{pins:List (Addr × Obj)}{σ:St}{H:Hp}{s:Shared}{a:Addr}{y d:V}{u r:Value}{o:Option V}{A:Around}{E:Value->Shared->Prop}
end
def x9s (td ty:TE):TE:=λ σ H Q=>td σ H λ x H1=>∃a,x=.ref a/\IsD H1 a/\ty σ H1 λ y H2=>∃o,DGet H2 a y o/\Q (o.getD .non) H2
section
variable {X:Cx}{o e f:Expr}{apos cpos:Pos}{td ty tx:TE}
end
section
variable {X:Cx}{pins:List (Addr × Obj)}{σ:St}{H:Hp}{s:Shared}{a:Addr}{kvs:List (Key × V)}{A:Around}{E:Value->Shared->Prop}
end
section
variable {X:Cx}{pins:List (Addr × Obj)}{σ:St}{H:Hp}{s:Shared}{a:Addr}{y:V}{u:Value}{A:Around}{E:Value->Shared->Prop}
end
section
variable {X:Cx}
end
section
variable {κ:Type} [DecidableEq κ]
end
def KTab (P:Program) (w:World) (K:W.Frag) (d:Addr) (kvs:List (Str × Addr)):Prop:=(d == sysModules)=false/\∀h:Heap,K.In h->h.DictOf (z2a P w) d (kvs.map λ p=>((Sum.inr p.1:Key),Value.ref p.2))
def w7k (pm:Params) (l:List (Str × Tok × Addr)):List DictEntry:=l.map λ p=>⟨PyData.keyHash pm p.1,.str p.1 p.2.1,.ref p.2.2⟩
theorem KTab.mk {P:Program}{w:World}{K:W.Frag}{d:Addr}{l:List (Str × Tok × Addr)}{es:Array DictEntry}{n:Nat}(hd:(d == sysModules)=false) (hl:K.lookup d=some { cls:=.type "dict",data:=.dict es n }) (he:es.toList=w7k w.params l) (nd:(l.map (·.1)).Nodup) :
  KTab P w K d (l.map λ p=>(p.1,p.2.2)):=by
 refine ⟨hd,λ h KI=>⟨_,es,n,KI d _ hl,⟨rfl,rfl,rfl⟩,rfl,?_,?_,?_⟩⟩
 ·intro e hm
  have hm:e∈es.toList:=Array.mem_toList_iff.mpr hm
  rw [he] at hm
  obtain ⟨p,_,rfl⟩:=List.mem_map.mp hm
  exact ⟨Sum.inr p.1,z7y p.1 p.2.1,rfl⟩
 ·rw [he]
  clear he nd hl
  induction l with
  | nil=>exact .nil
  | cons p r ih=>exact .cons (z7y p.1 p.2.1) rfl ih
 ·rw [List.map_map,List.map_map]
  have e:((λ x:Key × Value=>x.1) ∘ (λ p:Str × Addr=>((Sum.inr p.1:Key),Value.ref p.2))) ∘ (λ p:Str × Tok × Addr=>(p.1,p.2.2))=(λ x:Str=>(Sum.inr x:Key)) ∘ λ p=>p.1:=rfl
  rw [← List.map_map] at *
  have z:(l.map λ p=>(Sum.inr p.1:Key)).Nodup:=by
   have:(l.map λ p=>(Sum.inr p.1:Key))=(l.map (·.1)).map (λ x:Str=>(Sum.inr x:Key)):=by rw [List.map_map];rfl
   rw [this]
   exact List.Pairwise.map _ (λ a b (h:a≠b) z=>h (Sum.inr.inj z)) nd
  simpa [List.map_map,Function.comp_def] using z
section
variable {X:Cx}
def w0q (kvs:List (Str × Addr)):V->Hp->VK->Prop:=λ y H Q=>∃x a,y=.str x/\kvs.lookup x=some a/\Q (.ref a) H
def w3k (kvs:List (Str × Addr)) (te:TE):TE:=λ σ H Q=>te σ H λ y H1=>w0q kvs y H1 Q
def w6s (kvs:List (Str × Addr)) (te:TE):TE:=λ σ H Q=>te σ H λ y H1=>∃x,y=.str x/\Q (.bl (kvs.lookup x).isSome) H1
end
def KTup (K:W.Frag) (a:Addr) (xs:List V):Prop:=∃(o:Obj) (its:Array Value) (n:Nat),K.lookup a=some o/\o.cls=.type "tuple" /\ o.data=.seq its n/\its.size≤sizeLine/\Vals xs its.toList
theorem KTup.sq {K:W.Frag}{a:Addr}{xs:List V}(h:KTup K a xs) {H:Hp}:SqT K H a xs:=.inr h
section
variable {pg:Program}{wd:World}{B:Around}{X0:Value->Shared->Prop}{s0:Shared}
theorem y6y {z ti ox j1 j2 t1 t2:Addr}{k:Nat}{as bs:Array Value}{x y u v:Value}{R:Option Value->Shared->Prop}(ap:Apart5 z ti ox j1 j2 t1 t2) (hz:IsZip s0.heap z ti ox .none) (hi:IsPair s0.heap ti (.ref j1) (.ref j2)) (ho:IsPair s0.heap ox u v)
  (p1:s0.heap.IsListIter j1 t1 k) (p2:s0.heap.IsTupleIter j2 t2 k) (q1:s0.heap.IsList t1 as) (q2:s0.heap.IsTuple t2 bs) (e1:as[k]?=some x) (e2:bs[k]?=some y)
  (f:∀h',IsZip h' z ti ox (rawInt s0.heap.objs.size)->IsPair h' ox x y->h'.IsListIter j1 t1 (k+1)->h'.IsTupleIter j2 t2 (k+1)->IsPair h' s0.heap.objs.size x y->x5s z ox j1 j2 s0.heap h'->R (some (.ref s0.heap.objs.size)) { s0 with heap:=h' }) :
  wpAny (model pg wd) B (pyNext (.ref z)) R X0 s0:=by
 have ty:s0.TypeIs (.ref z) "zip" := ⟨_,hz,rfl⟩
 unfold pyNext
 refine wpAny_bind (wpAny_attempt (wpAny_callSpecial?_slot (name:=Str.ofString "__next__") ty F.slot_zip_next (wpAny_call_entry F.slot_zip_next ty F.entry_zip_next ?_ (F.args_zip_next_1 _))))
 show wpAny _ _ (field (.ref z) 2 >>= _) _ _ _
 refine wpAny_bind (wpAny_field hz rfl (x:=.bool false) rfl ?_)
 show wpAny _ _ (field (.ref z) 3 >>= _) _ _ _
 refine wpAny_bind (wpAny_field hz rfl (x:=.ref ti) rfl ?_)
 refine wpAny_bind (wpAny_seqItems hi rfl ?_)
 show wpAny _ _ (Builtin.SmallTypes.ownedTupleIsFree (.ref z) >>= _) _ _ _
 refine wpAny_bind ?_
 unfold Builtin.SmallTypes.ownedTupleIsFree
 refine wpAny_bind (wpAny_field hz rfl (x:=.none) rfl (wpAny_pure ?_))
 simp only [if_true]
 refine wpAny_bind (wpAny_rule ?_)
 refine wpAny_bind (wpAny_field hz rfl (x:=.ref ox) rfl ?_)
 refine wpAny_bind (wpAny_setField_rec hz (by simp) λ m1 zm1 sb1=>?_)
 have zm1:IsZip m1 z ti ox .ellipsis:=zm1
 refine wpAny_bind ?_
 simp only [List.zipIdx_cons,List.zipIdx_nil,List.forIn_cons,List.forIn_nil]
 refine wpAny_bind (wpAny_bind (wpAny_onRaise ?_))
 show wpAny _ _ (Builtin.SmallTypes.nextOf (.ref j1) >>= _) _ _ _
 refine wpAny_bind (wpAny_nextOf_list_item (z3w p1 λ o g=>sb1.extBut _ _ ap.j1_z g) (x0a q1 λ o g=>sb1.extBut _ _ ap.t1_z g) e1 λ m2 pm2 sb2=>wpAny_pure ?_)
 have om2:IsPair m2 ox u v:=sb2.extBut _ _ ap.ox_j1 (sb1.extBut _ _ ap.ox_z ho)
 refine wpAny_bind (wpAny_seqItems om2 rfl ?_)
 refine wpAny_bind (wpAny_updateSeq_pair om2 λ m3 om3 sb3=>?_)
 have om3:IsPair m3 ox x v:=om3
 refine wpAny_bind (wpAny_letGo (wpAny_pure ?_))
 refine wpAny_bind (wpAny_bind (wpAny_onRaise ?_))
 show wpAny _ _ (Builtin.SmallTypes.nextOf (.ref j2) >>= _) _ _ _
 have to3:∀c o,c≠z->c≠ox->c≠j1->s0.heap.get? c=some o->m3.get? c=some o:=λ c o a1 a2 a3 g=>sb3.extBut _ _ a2 (sb2.extBut _ _ a3 (sb1.extBut _ _ a1 g))
 refine wpAny_bind (z3e (z1k p2 λ o g=>to3 _ o ap.j2_z ap.ox_j2.symm ap.j12.symm g) (z4d q2 λ o g=>to3 _ o ap.t2_z ap.t2_ox ap.t2_j1 g) e2 λ m4 pm4 sb4=>wpAny_pure ?_)
 have om4:IsPair m4 ox x v:=sb4.extBut _ _ ap.ox_j2 om3
 refine wpAny_bind (wpAny_seqItems om4 rfl ?_)
 refine wpAny_bind (wpAny_updateSeq_pair om4 λ m5 om5 sb5=>?_)
 have om5:IsPair m5 ox x y:=om5
 refine wpAny_bind (wpAny_letGo (wpAny_pure (wpAny_pure ?_)))
 refine wpAny_bind (wpAny_seqItems om5 rfl ?_)
 refine wpAny_bind (wpAny_newTuple ?_)
 have sz5:m5.objs.size=s0.heap.objs.size:=by rw [sb5.1,sb4.1,sb3.1,sb2.1,sb1.1]
 have zm5:IsZip m5 z ti ox .ellipsis:=sb5.extBut _ _ ap.ox_z.symm (sb4.extBut _ _ ap.j2_z.symm (sb3.extBut _ _ ap.ox_z.symm (sb2.extBut _ _ ap.j1_z.symm zm1)))
 have to5:x5s z ox j1 j2 s0.heap m5:=λ c o a1 a2 a3 a4 g=>sb5.extBut _ _ a2 (sb4.extBut _ _ a4 (to3 c o a1 a2 a3 g))
 have pj1:m5.IsListIter j1 t1 (k+1):=z3w pm2 λ o g=>sb5.extBut _ _ ap.ox_j1.symm (sb4.extBut _ _ ap.j12 (sb3.extBut _ _ ap.ox_j1.symm g))
 have pj2:m5.IsTupleIter j2 t2 (k+1):=z1k pm4 λ o g=>sb5.extBut _ _ ap.ox_j2.symm g
 have zlt:z < m5.objs.size:=Heap.lt_size zm5
 show wpAny _ _ (Builtin.SmallTypes.ownedTupleHandOut (.ref z) (.ref m5.objs.size) >>= _) _ _ _
 refine wpAny_bind ?_
 unfold Builtin.SmallTypes.ownedTupleHandOut
 have zm6:IsZip (m5.push { cls:=.type "tuple",data:=.seq #[x,y] }) z ti ox .ellipsis:=Heap.get?_push_of_some _ zm5
 refine wpAny_bind (wpAny_setField_rec zm6 (by simp) λ m7 zm7 sb7=>?_)
 have zm7:IsZip m7 z ti ox (rawInt m5.objs.size):=zm7
 refine wpAny_setField_rec zm7 (by simp) λ m8 zm8 sb8=>?_
 have zm8:IsZip m8 z ti ox (rawInt m5.objs.size):=zm8
 have to8:∀c o,c≠z->m5.get? c=some o->m8.get? c=some o:=λ c o a1 g=>sb8.extBut _ _ a1 (sb7.extBut _ _ a1 (Heap.get?_push_of_some _ g))
 have np8:IsPair m8 m5.objs.size x y:=sb8.extBut _ _ (Nat.ne_of_gt zlt) (sb7.extBut _ _ (Nat.ne_of_gt zlt) (Heap.get?_push_size _ rfl))
 rw [sz5] at zm8 np8
 refine wpAny_pure ⟨_,rfl,wpAny_pure ?_⟩
 show R (some (.ref m5.objs.size)) _
 rw [sz5]
 exact f m8 zm8 (to8 _ _ ap.ox_z om5) (z3w pj1 λ o g=>to8 _ o ap.j1_z g) (z1k pj2 λ o g=>to8 _ o ap.j2_z g) np8 λ c o a1 a2 a3 a4 g=>to8 c o a1 (to5 c o a1 a2 a3 a4 g)
theorem x1y {z ti ox j1 j2 t1 t2:Addr}{k:Nat}{as bs:Array Value}{u v:Value}{R:Option Value->Shared->Prop}(hh:B.handled=none) (ap:Apart5 z ti ox j1 j2 t1 t2) (hz:IsZip s0.heap z ti ox .none) (hi:IsPair s0.heap ti (.ref j1) (.ref j2)) (ho:IsPair s0.heap ox u v)
  (p1:s0.heap.IsListIter j1 t1 k) (p2:s0.heap.IsTupleIter j2 t2 k) (q1:s0.heap.IsList t1 as) (q2:s0.heap.IsTuple t2 bs) (hend:as[k]?=none\/bs[k]?=none)
  (f:∀h',x5s z ox j1 j2 s0.heap h'->R none { s0 with heap:=h' }):wpAny (model pg wd) B (pyNext (.ref z)) R X0 s0:=by
 have ty:s0.TypeIs (.ref z) "zip" := ⟨_,hz,rfl⟩
 have last:∀(h':Heap) (e:Addr),x5s z ox j1 j2 s0.heap h'->(∃o,h'.get? e=some o/\o.cls=.type "StopIteration")->wpAny (model pg wd) B (do if ← isInstance (.ref e) (.type "StopIteration") then pure none else throw (.ref e)) R X0 { s0 with heap:=h' }:=λ h' e bt ⟨o,g,c⟩ =>
  wpAny_bind (wpAny_isInstance (T := "StopIteration") (b:=true) ⟨o,g,c⟩ isSubtype_stop (wpAny_pure (f _ bt)))
 unfold pyNext
 refine wpAny_bind (wpAny_attempt (wpAny_callSpecial?_slot (name:=Str.ofString "__next__") ty F.slot_zip_next (wpAny_call_entry F.slot_zip_next ty F.entry_zip_next ?_ (F.args_zip_next_1 _))))
 show wpAny _ _ (field (.ref z) 2 >>= _) _ _ _
 refine wpAny_bind (wpAny_field hz rfl (x:=.bool false) rfl ?_)
 show wpAny _ _ (field (.ref z) 3 >>= _) _ _ _
 refine wpAny_bind (wpAny_field hz rfl (x:=.ref ti) rfl ?_)
 refine wpAny_bind (wpAny_seqItems hi rfl ?_)
 show wpAny _ _ (Builtin.SmallTypes.ownedTupleIsFree (.ref z) >>= _) _ _ _
 refine wpAny_bind ?_
 unfold Builtin.SmallTypes.ownedTupleIsFree
 refine wpAny_bind (wpAny_field hz rfl (x:=.none) rfl (wpAny_pure ?_))
 simp only [if_true]
 refine wpAny_bind (wpAny_rule ?_)
 refine wpAny_bind (wpAny_field hz rfl (x:=.ref ox) rfl ?_)
 refine wpAny_bind (wpAny_setField_rec hz (by simp) λ m1 zm1 sb1=>?_)
 have zm1:IsZip m1 z ti ox .ellipsis:=zm1
 refine wpAny_bind ?_
 simp only [List.zipIdx_cons,List.zipIdx_nil,List.forIn_cons,List.forIn_nil]
 refine wpAny_bind (wpAny_bind (wpAny_onRaise ?_))
 show wpAny _ _ (Builtin.SmallTypes.nextOf (.ref j1) >>= _) _ _ _
 cases e1:as[k]? with
 | none =>
  refine wpAny_bind (wpAny_nextOf_list_end hh (z3w p1 λ o g=>sb1.extBut _ _ ap.j1_z g) (x0a q1 λ o g=>sb1.extBut _ _ ap.t1_z g) e1 λ m2 e xb he=>?_)
  obtain ⟨oe,ge,ce⟩:=he
  have zm2:IsZip m2 z ti ox .ellipsis:=xb _ _ ap.j1_z.symm zm1
  have ez:e≠z:=λ q=>by subst q;rw [zm2] at ge;cases ge;simp at ce
  exact wpAny_setField_rec zm2 (by simp) λ m3 _ sb3=>last m3 e (λ c o a1 _ a3 _ g=>sb3.extBut _ _ a1 (xb _ _ a3 (sb1.extBut _ _ a1 g))) ⟨oe,sb3.extBut _ _ ez ge,ce⟩
 | some x =>
  have e2:bs[k]?=none:=by rcases hend with q | q;rw [e1] at q;cases q;exact q
  refine wpAny_bind (wpAny_nextOf_list_item (z3w p1 λ o g=>sb1.extBut _ _ ap.j1_z g) (x0a q1 λ o g=>sb1.extBut _ _ ap.t1_z g) e1 λ m2 pm2 sb2=>wpAny_pure ?_)
  have om2:IsPair m2 ox u v:=sb2.extBut _ _ ap.ox_j1 (sb1.extBut _ _ ap.ox_z ho)
  refine wpAny_bind (wpAny_seqItems om2 rfl ?_)
  refine wpAny_bind (wpAny_updateSeq_pair om2 λ m3 om3 sb3=>?_)
  refine wpAny_bind (wpAny_letGo (wpAny_pure ?_))
  refine wpAny_bind (wpAny_bind (wpAny_onRaise ?_))
  show wpAny _ _ (Builtin.SmallTypes.nextOf (.ref j2) >>= _) _ _ _
  have to3:∀c o,c≠z->c≠ox->c≠j1->s0.heap.get? c=some o->m3.get? c=some o:=λ c o a1 a2 a3 g=>sb3.extBut _ _ a2 (sb2.extBut _ _ a3 (sb1.extBut _ _ a1 g))
  refine wpAny_bind (z3n hh (z1k p2 λ o g=>to3 _ o ap.j2_z ap.ox_j2.symm ap.j12.symm g) (z4d q2 λ o g=>to3 _ o ap.t2_z ap.t2_ox ap.t2_j1 g) e2 λ m4 e xb he=>?_)
  obtain ⟨oe,ge,ce⟩:=he
  have zm4:IsZip m4 z ti ox .ellipsis:=xb _ _ ap.j2_z.symm (sb3.extBut _ _ ap.ox_z.symm (sb2.extBut _ _ ap.j1_z.symm zm1))
  have ez:e≠z:=λ q=>by subst q;rw [zm4] at ge;cases ge;simp at ce
  exact wpAny_setField_rec zm4 (by simp) λ m5 _ sb5=>last m5 e (λ c o a1 a2 a3 a4 g=>sb5.extBut _ _ a1 (xb _ _ a4 (to3 c o a1 a2 a3 g))) ⟨oe,sb5.extBut _ _ ez ge,ce⟩
end
def x5q (K:W.Frag) (a b:Addr):It:=⟨λ i H=>∃xs ys x y,SqL K H a xs/\SqT K H b ys/\xs[i]?=some x/\ys[i]?=some y,
 λ i H v H'=>∃T x y,v=.ref T/\H T=none/\H'=upd H T (.tup [x,y])/\∀xs ys,SqL K H a xs->SqT K H b ys->xs[i]?=some x/\ys[i]?=some y,λ i H=>∃xs ys,SqL K H a xs/\SqT K H b ys/\(xs.length≤i\/ys.length≤i)⟩
theorem y7d {P:Program}{w:World}{K:W.Frag}{es:List Expr}{x1:Nat}{pp:Pos}{a b z ti ox j1 j2:Addr}(ap:Apart5 z ti ox j1 j2 a b) :
  Turn P w K (.Tuple es x1 pp) (x5q K a b) [z,ti,ox,j1,j2] z (λ i h=>IsZip h z ti ox .none/\IsPair h ti (.ref j1) (.ref j2)/\(∃u v,IsPair h ox u v)/\h.IsListIter j1 a i/\h.IsTupleIter j2 b i) where
 mem:=by simp
 obj:=λ i h q c hc=>by
  obtain ⟨q1,q2,⟨u,v,q3⟩,⟨o4,g4,_,d4⟩,⟨o5,g5,_,d5⟩⟩:=q
  simp only [List.mem_cons,List.not_mem_nil,or_false] at hc
  rcases hc with rfl | rfl | rfl | rfl | rfl
  ·exact ⟨_,q1,λ v z=>nomatch z⟩
  ·exact ⟨_,q2,λ v z=>nomatch z⟩
  ·exact ⟨_,q3,λ v z=>nomatch z⟩
  ·exact ⟨_,g4,λ v z=>by rw [d4] at z;cases z⟩
  ·exact ⟨_,g5,λ v z=>by rw [d5] at z;cases z⟩
 keep:=λ i h h' q k=>by
  obtain ⟨q1,q2,⟨u,v,q3⟩,q4,q5⟩:=q
  exact ⟨k _ (by simp) _ q1,k _ (by simp) _ q2,⟨u,v,k _ (by simp) _ q3⟩,z3w q4 λ o g=>k _ (by simp) o g,z1k q5 λ o g=>k _ (by simp) o g⟩
 item:=by
  intro X hP hw hK hc i pins s σ H E I hf st hg
  subst hP hw hK
  obtain ⟨xs,ys,x,y,hq1,hq2,hx,hy⟩:=hg
  obtain ⟨q1,q2,⟨u,v,q3⟩,q4,q5⟩:=st
  obtain ⟨as,ra,pa,za⟩:=I.list hq1
  obtain ⟨bs,rb,pb,zb⟩:=I.tuple hq2
  obtain ⟨ux,hux,rux⟩:=ra.get hx
  obtain ⟨uy,huy,ruy⟩:=rb.get hy
  refine y6y ap q1 q2 q3 q4 q5 pa.isList (show s.heap.IsTuple b bs.toArray from pb) (x:=ux) (y:=uy) (by simpa using hux) (by simpa using huy) λ h' zz oo p1' p2' np bt=>?_
  have I1:Inv X pins σ H { s with heap:=h' }:=I.turnedL (t':=s.toks) (fl:=[z,ti,ox,j1,j2]) (λ c o hc e=>by
   simp only [List.mem_cons,List.not_mem_nil,or_false,not_or] at hc
   exact bt c o hc.1 hc.2.2.1 hc.2.2.2.1 hc.2.2.2.2 e) hf
  obtain ⟨f0,f1,f2,f3,f4,f5⟩:=I.fpOk (Nat.le_refl s.heap.objs.size) (I.hok.fresh (Nat.le_refl _))
  have n0:X.s₀.heap.get? s.heap.objs.size=none:=by
   cases q:X.s₀.heap.get? s.heap.objs.size with
   | none=>rfl
   | some o=>exact absurd (Nat.lt_of_lt_of_le (Heap.lt_size q) I.sz) (Nat.lt_irrefl _)
  have I2:Inv X pins σ (upd H s.heap.objs.size (.tup [x,y])) { s with heap:=h' }:=I1.track f0 ⟨small (by simp),[ux,uy],.cons rux (.cons ruy .nil),⟨_,np,rfl,_,rfl⟩⟩ f1 f4 f5 n0
  have lt:∀ {c o},s.heap.get? c=some o->c≠s.heap.objs.size:=λ e=>Nat.ne_of_lt (Heap.lt_size e)
  have hzT:z≠s.heap.objs.size:=lt q1
  have ti2:IsPair h' ti (.ref j1) (.ref j2):=bt _ _ ap.ti_z ap.ti_ox ap.ti_j1 ap.ti_j2 q2
  obtain ⟨e0,e1,e2,e3,e4,e5⟩:=hf z (by simp)
  refine ⟨_,rfl,wpAny_letOwnedTupleGo_zip zz λ h2 z2 sb=>?_⟩
  have I3:Inv X pins σ (upd H s.heap.objs.size (.tup [x,y])) { s with heap:=h2 }:=Inv.turned (s:={ s with heap:=h' }) (h':=h2) (t':=s.toks) (it:=z) I2 (λ c o hc e=>sb.extBut _ _ hc e) (by rw [z0n hzT];exact e0) e1 e3 e4 e5
  refine ⟨.ref s.heap.objs.size,_,I3,rfl,⟨_,x,y,rfl,f0,rfl,λ xs' ys' k1 k2=>?_⟩,⟨z2,sb.extBut _ _ ap.ti_z ti2,⟨_,_,sb.extBut _ _ ap.ox_z oo⟩,z3w p1' λ o g=>sb.extBut _ _ ap.j1_z g,z1k p2' λ o g=>sb.extBut _ _ ap.j2_z g⟩,λ c hc=>?_⟩
  ·rw [I.list_inj k1 hq1,I.tuple_inj k2 hq2];exact ⟨hx,hy⟩
  ·have cT:c≠s.heap.objs.size:=by
    obtain ⟨o4,g4,_⟩:=q4
    obtain ⟨o5,g5,_⟩:=q5
    simp only [List.mem_cons,List.not_mem_nil,or_false] at hc
    rcases hc with rfl | rfl | rfl | rfl | rfl
    ·exact hzT
    ·exact lt q2
    ·exact lt q3
    ·exact lt g4
    ·exact lt g5
   rw [z0n cT];exact (hf c hc).1
 done:=by
  intro X hP hw hK hc i pins s σ H E I hf st hg
  subst hP hw hK
  obtain ⟨xs,ys,hq1,hq2,hx⟩:=hg
  obtain ⟨q1,q2,⟨u,v,q3⟩,q4,q5⟩:=st
  obtain ⟨as,ra,pa,za⟩:=I.list hq1
  obtain ⟨bs,rb,pb,zb⟩:=I.tuple hq2
  have la:=ra.length
  have lb:=rb.length
  refine x1y (I.ok.hd hc) ap q1 q2 q3 q4 q5 pa.isList (show s.heap.IsTuple b bs.toArray from pb) (by rcases hx with q | q;exact .inl (by simp;lia);exact .inr (by simp;lia)) λ h' bt=>⟨rfl,?_⟩
  exact I.turnedL (t':=s.toks) (fl:=[z,ti,ox,j1,j2]) (λ c o hc e=>by
   simp only [List.mem_cons,List.not_mem_nil,or_false,not_or] at hc
   exact bt c o hc.1 hc.2.2.1 hc.2.2.2.1 hc.2.2.2.2 e) hf
 self:=λ _ _ _ _ _ st h=>wpAny_pyIter_zip st.1 h
abbrev zq1 (h:Heap) (a:Addr):Heap:=h.push { cls:=.type "list_iterator",data:=.fields #[.ref a,.int 0 0] }
abbrev zq2 (h:Heap) (a b:Addr):Heap:=(zq1 h a).push { cls:=.type "tuple_iterator",data:=.fields #[.ref b,.int 0 0] }
abbrev zq3 (h:Heap) (a b:Addr):Heap:=(zq2 h a b).push { cls:=.type "tuple",data:=.seq #[.ref h.objs.size,.ref (zq1 h a).objs.size] }
abbrev zq4 (h:Heap) (a b:Addr):Heap:=(zq3 h a b).push { cls:=.type "tuple",data:=.seq #[.none,.none] }
abbrev zq5 (h:Heap) (a b:Addr):Heap:=(zq4 h a b).push { cls:=.type "zip",data:=.fields #[.none,.bool false,.bool false,.ref (zq2 h a b).objs.size,.ref (zq3 h a b).objs.size] }
theorem x1x (a b:Addr) (as bs:Array Value):Meets (Builtin.«zip.__new__» ⟨[.type "zip",.ref a,.ref b],[]⟩) (λ _ R s=>s.heap.IsList a as/\s.heap.IsTuple b bs/\R (.ok (.ret (.ref (zq4 s.heap a b).objs.size))) { s with heap:=zq5 s.heap a b }) :=
 .of_wp λ prog w A R s h=>by
  obtain ⟨hp,g,d,tk,os⟩:=s
  obtain ⟨ha,hb,h⟩:=h
  have q0:=sub_zip
  have q1:Heap.IsList (Shared.heap ⟨hp,g,d,tk,os⟩) a as:=ha
  have q2:Heap.IsTuple (Shared.heap ⟨hp.push { cls:=.type "list_iterator",data:=.fields #[.ref a,.int 0 0] },g,d,tk,os⟩) b bs:=z4d hb λ o e=>Heap.get?_push_of_some _ e
  wp_walk using wpAny_pyIter_list q1,wpAny_pyIter_tuple q2
  exact ⟨_,rfl,h⟩
theorem y6z {pg:Program}{wd:World}{B:Around}{X0:Value->Shared->Prop}{s0:Shared}{a b:Addr}{as bs:Array Value}{R:Value->Shared->Prop}(ha:s0.heap.IsList a as) (hb:s0.heap.IsTuple b bs)
  (f:∀h',IsZip h' (s0.heap.objs.size+4) (s0.heap.objs.size+2) (s0.heap.objs.size+3) .none->IsPair h' (s0.heap.objs.size+2) (.ref s0.heap.objs.size) (.ref (s0.heap.objs.size+1))->IsPair h' (s0.heap.objs.size+3) .none .none ->
   h'.IsListIter s0.heap.objs.size a 0->h'.IsTupleIter (s0.heap.objs.size+1) b 0->(∀c o,s0.heap.get? c=some o->h'.get? c=some o)->R (.ref (s0.heap.objs.size+4)) { s0 with heap:=h' }) :
  wpAny (model pg wd) B (call (.type "zip") [.ref a,.ref b]) R X0 s0:=by
 refine callType_new F.called_zip (by decide) (F.typeCall_zip_2 _ _) (F.newCall_zip_2 _ _) (λ ob=>F.args_object_init_3 ob _ _) F.entry_zip_new (x1x a b as bs) ⟨ha,hb,?_⟩
 have n1:(zq1 s0.heap a).objs.size=s0.heap.objs.size+1:=Heap.size_push ..
 have n2:(zq2 s0.heap a b).objs.size=s0.heap.objs.size+2:=by rw [Heap.size_push,n1]
 have n3:(zq3 s0.heap a b).objs.size=s0.heap.objs.size+3:=by rw [Heap.size_push,n2]
 have n4:(zq4 s0.heap a b).objs.size=s0.heap.objs.size+4:=by rw [Heap.size_push,n3]
 have g5:(zq5 s0.heap a b).get? (zq4 s0.heap a b).objs.size=some _:=Heap.get?_push_size _ rfl
 have g4:(zq5 s0.heap a b).get? (zq3 s0.heap a b).objs.size=some _:=Heap.get?_push_of_some _ (Heap.get?_push_size _ rfl)
 have g3:(zq5 s0.heap a b).get? (zq2 s0.heap a b).objs.size=some _:=Heap.get?_push_of_some _ (Heap.get?_push_of_some _ (Heap.get?_push_size _ rfl))
 have g2:(zq5 s0.heap a b).get? (zq1 s0.heap a).objs.size=some _:=Heap.get?_push_of_some _ (Heap.get?_push_of_some _ (Heap.get?_push_of_some _ (Heap.get?_push_size _ rfl)))
 have g1:(zq5 s0.heap a b).get? s0.heap.objs.size=some _:=Heap.get?_push_of_some _ (Heap.get?_push_of_some _ (Heap.get?_push_of_some _ (Heap.get?_push_of_some _ (Heap.get?_push_size _ rfl))))
 show _/\_
 rw [n2,n3,n4] at g5
 rw [n1,n2] at g3
 rw [n3] at g4
 rw [n1] at g2
 rw [n4]
 exact ⟨⟨_,g5,rfl⟩,f _ g5 g3 g4 ⟨_,g1,rfl,rfl⟩ ⟨_,g2,rfl,rfl⟩ λ c o q=>Heap.get?_push_of_some _ (Heap.get?_push_of_some _ (Heap.get?_push_of_some _ (Heap.get?_push_of_some _ (Heap.get?_push_of_some _ q))))⟩
section
variable {X:Cx}{es:List Expr}{x1:Nat}{pp:Pos}
def x7v (K:W.Frag) (ta:TA):TI:=λ σ H R=>ta σ H λ vs H1=>∃a b xs ys,vs=[.ref a,.ref b]/\SqL K H1 a xs/\SqT K H1 b ys/\R (x5q K a b) H1
theorem x6x {e1 e2:Expr}{ta:TA}{p pos:Pos}(hg:Gl X "zip") (hm:X.mg "zip"=none) (ha:PA X [e1,e2] ta) (hs:starEach [e1,e2] X.env=[(false,eval e1 X.env),(false,eval e2 X.env)]:=by rfl) (hs2:starEach [e2] X.env=[(false,eval e2 X.env)]:=by rfl) :
  PI X (.Tuple es x1 pp) (.Call (.Name "zip" p) [e1,e2] [] pos) (x7v X.K ta):=by
 intro pins s σ H R I h
 have hA:=ha pos pins s σ H _ I h
 refine Call_ (z4r I hg hm boot_zip (PyProof.Rows.callWith_type1 (thn hA λ us s1 ⟨vs,H1,I1,r1,q1⟩=>?_) (by rw [hs,hs2]) (by rw [hs2];rfl)))
 obtain ⟨a,b,xs,ys,rfl,ha,hb,q⟩:=q1
 obtain ⟨u,u',rfl,ra,rb⟩:=y4y r1
 cases (show u=Value.ref a from ra)
 cases (show u'=Value.ref b from rb)
 obtain ⟨as,va,pa,za⟩:=I1.list ha
 obtain ⟨bs,vb,pb,zb⟩:=I1.tuple hb
 have al:a < s1.heap.objs.size:=by obtain ⟨o,g,_⟩:=pa.isList;exact Heap.lt_size g
 have bl:b < s1.heap.objs.size:=by obtain ⟨o,g,_⟩:=pb;exact Heap.lt_size g
 refine y6z pa.isList (show s1.heap.IsTuple b bs.toArray from pb) λ h' w1 w2 w3 w4 w5 kk=>?_
 have I2:Inv X pins σ H1 { s1 with heap:=h' }:=I1.kept (t':=s1.toks) kk
 have ap:=y4v s1.heap.objs.size a b al bl
 refine wpAny_pyIter_zip w1 ⟨s1.heap.objs.size+4,[s1.heap.objs.size+4,s1.heap.objs.size+2,s1.heap.objs.size+3,s1.heap.objs.size,s1.heap.objs.size+1],_,_,H1,rfl,I2,y7d ap,⟨w1,w2,⟨_,_,w3⟩,w4,w5⟩,λ c hc=>?_,q⟩
 have ge:s1.heap.objs.size≤c:=by
  simp only [List.mem_cons,List.not_mem_nil,or_false] at hc
  rcases hc with rfl | rfl | rfl | rfl | rfl<;>lia
 exact I1.fpOk ge (I1.hok.fresh ge)
end
def LoopZM (K:PySem.W.Frag) (g:TG) (tb:TS) (D:Ends) (σ:St) (vs:List V) (H1:Hp):Prop:=∃a b xs ys,vs=[.ref a,.ref b]/\SqL K H1 a xs/\SqT K H1 b ys/\∃W:Nat->Nat->St->Hp->Prop,(∃m,W 0 m σ H1)/\∀i m σ H,W i m σ H ->
 ((x5q K a b).stop i H/\D.nx σ H)\/((x5q K a b).go i H/\∃N:St->Hp->Prop,(∀σ' H',N σ' H'->∃m',m' < m/\W (i+1) m' σ' H')/\∀x H',(x5q K a b).yld i H x H'->g x σ H' λ σ2 H2=>tb { D with nx:=N,ct:=N,bk:=D.nx } σ2 H2)
theorem x3w {K:W.Frag}{ta:TA}{g:TG}{tb:TS}{D:Ends}{σ:St}{H:Hp}:y1y (x7v K ta) g tb D σ H=ta σ H λ vs H1=>LoopZM K g tb D σ vs H1:=rfl
theorem LoopZM.mk {K:W.Frag}{a b:Addr}{xs ys:List V}{g:TG}{tb:TS}{D:Ends}{σ:St}{H:Hp}(n:Nat) (hn:n=min xs.length ys.length) (h1:SqL K H a xs) (h2:SqT K H b ys) (Pv:Nat->St->Hp->Prop) (h0:Pv 0 σ H) (hl:∀i σ H,i≤n->Pv i σ H->SqL K H a xs/\SqT K H b ys)
  (hs:∀i x y σ H T,i < n->xs[i]?=some x->ys[i]?=some y->Pv i σ H->H T=none->g (.ref T) σ (upd H T (.tup [x,y])) λ σ2 H2=>tb { D with nx:=Pv (i+1),ct:=Pv (i+1),bk:=D.nx } σ2 H2) (hd:∀σ H,Pv n σ H->D.nx σ H) :
  LoopZM K g tb D σ [.ref a,.ref b] H:=by
 subst hn
 refine ⟨a,b,xs,ys,rfl,h1,h2,λ i m σ H=>m=min xs.length ys.length - i/\i≤min xs.length ys.length/\Pv i σ H,⟨_,rfl,Nat.zero_le _,h0⟩,?_⟩
 rintro i m σ H ⟨rfl,hi,p⟩
 obtain ⟨k1,k2⟩:=hl i σ H hi p
 by_cases hlt:i < min xs.length ys.length
 ·have l1:i < xs.length:=by lia
  have l2:i < ys.length:=by lia
  refine .inr ⟨⟨xs,ys,_,_,k1,k2,List.getElem?_eq_getElem l1,List.getElem?_eq_getElem l2⟩,Pv (i+1),λ σ' H' p'=>⟨min xs.length ys.length - (i+1),by lia,rfl,hlt,p'⟩,λ v H' yy=>?_⟩
  obtain ⟨T,x,y,rfl,hT,rfl,ex⟩:=yy
  obtain ⟨ex1,ex2⟩:=ex xs ys k1 k2
  exact hs i x y σ H T hlt ex1 ex2 p hT
 ·have e:i=min xs.length ys.length:=by lia
  exact .inl ⟨⟨xs,ys,k1,k2,by lia⟩,hd σ H (e ▸ p)⟩
def CompZM (K:PySem.W.Frag) (k:Nat) (js:List Nat) (g:TG) (te:TE) (σ:St) (vs:List V) (H1:Hp) (Q:VK):Prop:=∃a b xs ys,vs=[.ref a,.ref b]/\SqL K H1 a xs/\SqT K H1 b ys/\∃W:Nat->Nat->List V->St->Hp->Prop,(∃m,W 0 m [] (z1l k js σ) H1)/\∀i m zs σ' H',W i m zs σ' H' ->
  ((x5q K a b).stop i H'/\∀p,H' p=none->Q (.ref p) (upd H' p (.lst zs))) \/
  ((x5q K a b).go i H'/\zs.length < sizeLine/\∃N:List V->St->Hp->Prop,(∀zs σ2 H2,N zs σ2 H2->∃m',m' < m/\W (i+1) m' zs σ2 H2)/\∀x H2,(x5q K a b).yld i H' x H2->g x σ' H2 λ σ3 H3=>te σ3 H3 λ v H4=>N (zs++[v]) σ3 H4)
theorem x1d {K:W.Frag}{k:Nat}{js:List Nat}{ta:TA}{g:TG}{te:TE}{σ:St}{H:Hp}{Q:VK}:z3p (x7v K ta) k js g te σ H Q=ta σ H λ vs H1=>CompZM K k js g te σ vs H1 Q:=rfl
theorem CompZM.mk {K:W.Frag}{a b:Addr}{xs ys:List V}{k:Nat}{js:List Nat}{g:TG}{te:TE}{Q:VK}{σ:St}{H:Hp}(n:Nat) (hn:n=min xs.length ys.length) (h1:SqL K H a xs) (h2:SqT K H b ys) (Pv:Nat->List V->St->Hp->Prop) (h0:Pv 0 [] (z1l k js σ) H) (hl:∀i zs σ H,i≤n->Pv i zs σ H->SqL K H a xs/\SqT K H b ys)
  (hs:∀i x y zs σ H T,i < n->xs[i]?=some x->ys[i]?=some y->Pv i zs σ H->H T=none->zs.length < sizeLine/\g (.ref T) σ (upd H T (.tup [x,y])) λ σ3 H3=>te σ3 H3 λ v H4=>Pv (i+1) (zs++[v]) σ3 H4) (hz:∀zs σ H,Pv n zs σ H->∀p,H p=none->Q (.ref p) (upd H p (.lst zs))) (hlen:∀i zs σ H,Pv i zs σ H->zs.length < sizeLine) :
  CompZM K k js g te σ [.ref a,.ref b] H Q:=by
 subst hn
 refine ⟨a,b,xs,ys,rfl,h1,h2,λ i m zs σ H=>m=min xs.length ys.length - i/\i≤min xs.length ys.length/\Pv i zs σ H,⟨_,rfl,Nat.zero_le _,h0⟩,?_⟩
 rintro i m zs σ H ⟨rfl,hi,p⟩
 obtain ⟨k1,k2⟩:=hl i zs σ H hi p
 by_cases hlt:i < min xs.length ys.length
 ·have l1:i < xs.length:=by lia
  have l2:i < ys.length:=by lia
  refine .inr ⟨⟨xs,ys,_,_,k1,k2,List.getElem?_eq_getElem l1,List.getElem?_eq_getElem l2⟩,hlen _ _ _ _ p,Pv (i+1),λ zs' σ' H' p'=>⟨min xs.length ys.length - (i+1),by lia,rfl,hlt,p'⟩,λ v H' yy=>?_⟩
  obtain ⟨T,x,y,rfl,hT,rfl,ex⟩:=yy
  obtain ⟨ex1,ex2⟩:=ex xs ys k1 k2
  exact (hs i x y zs σ H T hlt ex1 ex2 p hT).2
 ·have e:i=min xs.length ys.length:=by lia
  exact .inl ⟨⟨xs,ys,k1,k2,by lia⟩,hz zs σ H (e ▸ p)⟩
def CompTI (K:PySem.W.Frag) (k:Nat) (js:List Nat) (g:TG) (tc:TT) (te:TE) (σ:St) (v:V) (H1:Hp) (Q:VK):Prop:=∃a,v=.ref a/\(∃xs,SqT K H1 a xs)/\∃W:Nat->Nat->List V->St->Hp->Prop,(∃m,W 0 m [] (z1l k js σ) H1)/\∀i m zs σ' H',W i m zs σ' H' ->
  ((Itt K a).stop i H'/\∀p,H' p=none->Q (.ref p) (upd H' p (.lst zs))) \/
  ((Itt K a).go i H'/\zs.length < sizeLine/\∃N:List V->St->Hp->Prop,(∀zs σ2 H2,N zs σ2 H2->∃m',m' < m/\W (i+1) m' zs σ2 H2)/\∀x H2,(Itt K a).yld i H' x H2->g x σ' H2 λ σ3 H3=>tc σ3 H3 λ b H4=>if b=true then te σ3 H4 λ v H5=>N (zs++[v]) σ3 H5 else N zs σ3 H4)
theorem x1h {K:W.Frag}{k:Nat}{js:List Nat}{tx:TE}{g:TG}{tc:TT}{te:TE}{σ:St}{H:Hp}{Q:VK}:z4q (w2y K tx) k js g tc te σ H Q=tx σ H λ v H1=>CompTI K k js g tc te σ v H1 Q:=rfl
theorem CompTI.mk {K:W.Frag}{a:Addr}{xs:List V}{k:Nat}{js:List Nat}{g:TG}{tc:TT}{te:TE}{Q:VK}{σ:St}{H:Hp}(h1:SqT K H a xs) (Pv:Nat->List V->St->Hp->Prop) (h0:Pv 0 [] (z1l k js σ) H) (hl:∀i zs σ H,i≤xs.length->Pv i zs σ H->SqT K H a xs/\zs.length < sizeLine)
  (hs:∀i x zs σ H,xs[i]?=some x->Pv i zs σ H->g x σ H λ σ3 H3=>tc σ3 H3 λ b H4=>if b=true then te σ3 H4 λ v H5=>Pv (i+1) (zs++[v]) σ3 H5 else Pv (i+1) zs σ3 H4) (hz:∀zs σ H,Pv xs.length zs σ H->∀p,H p=none->Q (.ref p) (upd H p (.lst zs))) :
  CompTI K k js g tc te σ (.ref a) H Q:=by
 refine ⟨a,rfl,⟨xs,h1⟩,λ i m zs σ H=>m=xs.length - i/\i≤xs.length/\Pv i zs σ H,⟨_,rfl,Nat.zero_le _,h0⟩,?_⟩
 rintro i m zs σ H ⟨rfl,hi,p⟩
 obtain ⟨k1,k2⟩:=hl i zs σ H hi p
 by_cases hlt:i < xs.length
 ·refine .inr ⟨⟨xs,_,k1,List.getElem?_eq_getElem hlt⟩,k2,Pv (i+1),λ zs' σ' H' p'=>⟨xs.length - (i+1),by lia,rfl,hlt,p'⟩,λ v H' yy=>?_⟩
  obtain ⟨rfl,ex⟩:=yy
  exact hs i v zs σ _ (ex xs k1) p
 ·have e:i=xs.length:=by lia
  exact .inl ⟨⟨xs,k1,by lia⟩,hz zs σ H (e ▸ p)⟩
section
variable {X:Cx}
def w0s (K:W.Frag):V->List V->Hp->VK->Prop:=λ x xs H Q=>∃(z:Str) (l:Addr) (ys:List Str),x=.str z/\z.length=0/\xs=[.ref l]/\SqL K H l (ys.map V.str)/\ys.length≤100/\(∀y∈ys,okS 10 y)/\(okS 1000 (Builtin.Str.glued z ys)->Q (.str (Builtin.Str.glued z ys)) H)
end
theorem z5a {cells:List (Str × Addr)}{y z u:Str}{a b d:Addr}(h:cells.lookup y=some a) (h2:cells.lookup z=some b) (h3:cells.lookup u=some d):∀x c,[(y,a),(z,b),(u,d)].lookup x=some c->cells.lookup x=some c:=λ x c e=>by
 rcases List.mem_cons.mp (PySem.mem_of_lookup e) with q | q
 ·cases q;exact h
 ·rcases List.mem_cons.mp q with q | q
  ·cases q;exact h2
  ·cases List.mem_singleton.mp q;exact h3
structure FunD (K:W.Frag) (x qual:Str) (st:Stmt) (dV:Addr) (its:Array Value) (f:Addr) (fd:FuncData):Prop where
 ex:∃(oc:Value) (od:Option Addr) (kV doc pm:Value) (an:Option Addr) (cdv ct:Value) (osl:Array (Option Value)),
  fd=W.fnOf x qual (z1m st) (z1i st) (z0k st) (.ref dV) kV doc pm an cdv ct/\K.lookup f=some ⟨oc,od,.func fd,osl⟩/\W.codeIn K cdv qual=true
 kp:W.keepIn K (.ref f)=true
 dt:∃(o:Obj) (n:Nat),K.lookup dV=some o/\o.data=.seq its n
section
variable {P:Program}{w:World}{K:W.Frag}{mg:Str->Option Value}{base:Heap}
theorem FunD.ok {x qual:Str}{st:Stmt}{dV:Addr}{its:Array Value}{f:Addr}{fd:FuncData}{N ps:List Str}{k:Nat}{sp:Sp}(F:FunD K x qual st dV its f fd) (S:FnScope N ps (z0k st)) (len:∀vs H Q E,sp vs H Q E->vs.length=ps.length)
  (hbody:∀(cdv:Value) (A:Around) (outer:List Env) (s:Shared) (H:Hp) (vs:List V) (Q:VK) (E:XK),Room k (A.deeper (envOfC qual (z0k st) s.heap.objs.size f cdv))->sp vs H Q E ->
   ∃t,PSs (y6n CX0 P w K mg base N qual (z0k st) f cdv A outer s H E).nox (z1i st) t/\t { nx:=λ _ H'=>Q .non H',rt:=Q } (start N vs) H):FnOk P w K mg base CX0 (k+1) f fd ps sp:=by
 obtain ⟨oc,od,kV,doc,pm,an,cdv,ct,osl,rfl,lk,hcd⟩:=F.ex
 refine x8f lk hcd S len λ A outer s H vs Q E hr hsp=>?_
 obtain ⟨t,h,q⟩:=hbody cdv A outer s H vs Q E hr hsp
 exact ⟨t,h.nox,q⟩
theorem FunD.binds {x qual:Str}{st:Stmt}{dV:Addr}{its:Array Value}{f:Addr}{fd:FuncData}{ps:List Str}{ds:List Value}(F:FunD K x qual st dV its f fd)
  (h:∀(kV doc pm:Value) (an:Option Addr) (cdv ct:Value) (us:List Value),(us++ds).length=ps.length->∃k,bindArgs (W.fnOf x qual (z1m st) (z1i st) (z0k st) (.ref dV) kV doc pm an cdv ct) ⟨us,[]⟩=seqItems? (.ref dV) >>= k/\k (some its)=pure (ps.zip (us++ds))):Binds K fd ps ds:=by
 obtain ⟨oc,od,kV,doc,pm,an,cdv,ct,osl,rfl,lk,hcd⟩:=F.ex
 obtain ⟨o,n,ho,hs⟩:=F.dt
 intro s us KI hl
 obtain ⟨k,h1,h2⟩:=h kV doc pm an cdv ct us hl
 exact .of_defaults (T:=dV) rfl (KI dV o ho) hs h1 h2
end
structure CalleeD (P:Program) (w:World) (K:W.Frag) (mg:Str->Option Value) (base:Heap) (CX:CXT) (k:Nat) (x:Str) (ps:List Str) (dvs:List V) (sp:Sp):Prop where
 has:∃(f:Addr) (fd:FuncData) (ds:List Value),FnOk P w K mg base CX k f fd ps sp/\mg x=some (.ref f)/\W.keepIn K (.ref f)=true/\Binds K fd ps ds/\Vals dvs ds
theorem CalleeD.mono {P:Program}{w:World}{K:W.Frag}{mg:Str->Option Value}{base:Heap}{CX:CXT}{j k:Nat}{x:Str}{ps:List Str}{dvs:List V}{sp:Sp}(c:CalleeD P w K mg base CX j x ps dvs sp) (h:j≤k):CalleeD P w K mg base CX k x ps dvs sp :=
 let ⟨f,fd,ds,ok,m,kp,b,v⟩:=c.has;⟨⟨f,fd,ds,ok.mono h,m,kp,b,v⟩⟩
section
variable {X:Cx}{CX:CXT}{k:Nat}{ps:List Str}{dvs:List V}{sp:Sp}{E:XK}{x:Str}{p pos:Pos}{e:Expr}{es:List Expr}{t:TA}
end
def w6n (z:Str) (ys:List Str):Nat:=ys.foldl (λ (n:Nat) (y:Str)=>n+y.length+z.length) 0
section
variable {X:Cx}
def w0r (K:W.Frag):V->List V->Hp->VK->Prop:=λ x xs H Q=>∃(z:Str) (l:Addr) (ys:List Str),x=.str z/\xs=[.ref l]/\SqL K H l (ys.map V.str)/\w6n z ys≤4000000/\Q (.str (Builtin.Str.glued z ys)) H
def w3t:R2:=λ x y H Q=>∃a n,x=.str a/\y=.int n/\0≤n/\n≤100/\a.length≤10/\∀z:Str,z.length=a.length * n.toNat->Q (.str z) H
def w6z:R2:=λ x y H Q=>∃p xs i v,x=.ref p/\y=.int i/\(H p=some (.lst xs)\/H p=some (.tup xs))/\atI xs i=some v/\Q v H
end
section
open PySem.Builtin PySem.Builtin.Str
def y7r (c:Nat):List Nat->List (List Nat)
 | []=>[[]]
 | d::r=>if d=c then []::y7r c r else match y7r c r with
  | []=>[[d]]
  | p::ps=>(d::p)::ps
def w3n (L:List Nat):Str:=⟨L.toArray⟩
section
variable {X:Cx}
def w0k:V->List V->Hp->VK->Prop:=λ x ys H Q=>∃(t:Str) (c:Nat),x=.str t/\ys=[.str ⟨#[c]⟩]/\c < 256/\t.length≤4000000/\∀l,H l=none->Q (.ref l) (upd H l (.lst ((y7r c t.cps.toList).map λ w=>V.str (w3n w))))
end
end
theorem hu1 {k:Nat}{A:Around}(r:Room k A):A.units+1 < cLine:=by have:=r.un;lia
section
variable {X:Cx}
def w7a:R2:=λ x y H Q=>∃p xs,x=.non/\y=.ref p/\H p=some (.lst xs)/\(∀z∈xs,z1r z=true\/∃a ys,z=.ref a/\H a=some (.tup ys))/\Q (.bl (xs.any λ z=>eqV z .non)) H
end
section
variable {pg:Program}{wd:World}{B:Around}{X0:Value->Shared->Prop}{s0:Shared}{J d:Addr}{m:Nat}{Pr:Nat->Value->Prop}{OK:Heap->Prop}
end
section
variable {X:Cx}
def w3u:R2:=λ x y H Q=>∃a n,x=.str (w3n a)/\y=.int n/\0≤n/\n≤100/\a.length≤10/\Q (.str (w3n (List.replicate n.toNat a).flatten)) H
end
section
variable {pg:Program}{wd:World}{B:Around}{X0:Value->Shared->Prop}{z0:Shared}
end
section
variable {X:Cx}
def x2p:V->List V->Hp->VK->Prop:=λ x vs H Q=>∃l b xs zs,x=.ref l/\vs=[.ref b]/\H l=some (.lst xs)/\H b=some (.tup zs)/\xs.length+zs.length≤sizeLine/\Q .non (upd H l (.lst (xs++zs)))
def x6q:V->List V->Hp->VK->Prop:=λ x ys H Q=>∃a b kvs more,x=.ref a/\ys=[.ref b]/\a≠b/\H a=some (.dK kvs)/\H b=some (.dK more)/\kvs.length+more.length≤sizeLine/\Q .non (upd H a (.dK (z7u kvs more)))
theorem x7j:OpR X (compareOp .IsNot) (λ x y H Q=>∃a b,x=.bl a/\y=.bl b/\Q (.bl (!(a == b))) H):=by
 intro pins s σ H x y v u Q I rx ry h
 obtain ⟨a,b,rfl,rfl,q⟩:=h
 cases rx
 cases ry
 refine wpAny_isNot_plain (by cases a<;>cases b<;>rfl) ⟨.bl _,H,I,rfl,?_⟩
 have e:((Value.bool a == Value.bool b):Bool)=(a == b):=by cases a<;>cases b<;>rfl
 rw [e]
 exact q
theorem z8t:CallR X (.builtin "isinstance") (λ xs H Q=>∃a ys,xs=[.ref a,.ty "list"]/\H a=some (.lst ys)/\Q (.bl true) H):=by
 intro pins s σ H xs us Q I r h
 obtain ⟨a,ys,rfl,ha,q⟩:=h
 exact x4t pins s σ H _ us Q I r ⟨.ref a,"list",.type "list",true,rfl,.lst ha,x3l (by decide +kernel),q⟩
theorem z7s {es r:List Expr}{k:Nat}{pos:Pos}{te:TE}{t:TA}(h:PE X (.Tuple es k pos) te) (hr:PA X r t):PA X (.Tuple es k pos::r) (x5y te t):=z0a h hr rfl
end
def AlkV (H:Hp):Nat->V->V->Prop
 | 0,x,y=>z1r x=true/\x=y
 | d+1,x,y=>(z1r x=true/\x=y)\/∃(a b:Addr) (xs ys:List V),x=.ref a/\y=.ref b/\((H a=some (.lst xs)/\H b=some (.lst ys))\/(H a=some (.tup xs)/\H b=some (.tup ys)))/\xs.length=ys.length/\∀(i:Nat) z w,xs[i]?=some z->ys[i]?=some w->AlkV H d z w
theorem AlkV.same {H H':Hp}(s:Same H H'):∀ {d:Nat}{x y:V},AlkV H d x y->AlkV H' d x y
 | 0,_,_,h=>h
 | d+1,_,_,.inl h=>.inl h
 | d+1,_,_,.inr ⟨a,b,xs,ys,e1,e2,h,hl,q⟩=>.inr ⟨a,b,xs,ys,e1,e2,h.imp (λ z=>⟨s _ _ z.1,s _ _ z.2⟩) (λ z=>⟨s _ _ z.1,s _ _ z.2⟩),hl,λ i z w e1 e2=>(q i z w e1 e2).same s⟩
theorem AlkV.flat {H:Hp}{d:Nat}{x:V}(h:z1r x=true):AlkV H d x x:=by
 cases d with
 | zero=>exact ⟨h,rfl⟩
 | succ d=>exact .inl ⟨h,rfl⟩
theorem AlkV.lst {H:Hp}{d:Nat}{a b:Addr}{xs:List V}(h1:H a=some (.lst xs)) (h2:H b=some (.lst xs)) (f:xs.all z1r=true):AlkV H (d+1) (.ref a) (.ref b) :=
 .inr ⟨a,b,xs,xs,rfl,rfl,.inl ⟨h1,h2⟩,rfl,λ i z w e1 e2=>by
  rw [e1] at e2;cases e2
  exact .flat (List.all_eq_true.mp f _ (List.mem_of_getElem? e1))⟩
theorem AlkV.tup {H:Hp}{d:Nat}{a b:Addr}{xs:List V}(h1:H a=some (.tup xs)) (h2:H b=some (.tup xs)) (f:xs.all z1r=true):AlkV H (d+1) (.ref a) (.ref b) :=
 .inr ⟨a,b,xs,xs,rfl,rfl,.inr ⟨h1,h2⟩,rfl,λ i z w e1 e2=>by
  rw [e1] at e2;cases e2
  exact .flat (List.all_eq_true.mp f _ (List.mem_of_getElem? e1))⟩
theorem y0m {x:V}(h:z1r x=true):eqV x x=true:=by
 cases x<;>simp_all [eqV,z1r]
theorem z4c {xs:List V}{us:List Value}(r:Vals xs us) {j:Nat}(h:j < us.toArray.size):∃z,xs[j]?=some z/\RelV z us.toArray[j]:=by
 have l:=r.length
 have k:j < xs.length:=by rw [l];simpa using h
 obtain ⟨u,hu,ru⟩:=r.get (List.getElem?_eq_getElem k)
 have e:us.toArray[j]=u:=by
  have z:us[j]?=some (us[j]'(by simpa using h)):=List.getElem?_eq_getElem _
  rw [z] at hu
  simpa using hu
 exact ⟨_,List.getElem?_eq_getElem k,by rw [e];exact ru⟩
theorem z6x {n:Nat}:(List.range n).all (λ _=>true)=true:=by simp
section
variable {X:Cx}{pins:List (Addr × Obj)}{σ:St}{H:Hp}{s:Shared}
theorem y4o (I:Inv X pins σ H s):∀(d:Nat) (A:Around) (x y:V) (v u:Value),A.units+d < cLine->AlkV H d x y->RelV x v->RelV y u->SeqAt.EqAt A s v u true:=by
  intro d
  induction d with
  | zero =>
    intro A x y v u hu h rx ry
    obtain ⟨f,rfl⟩:=h
    have z:=y4p (A:=A) (s:=s) rx ry f f
    rwa [y0m f] at z
  | succ d ih =>
    intro A x y v u hu h rx ry
    rcases h with ⟨f,rfl⟩ | ⟨a,b,xs,ys,rfl,rfl,h,hl,q⟩
    · have z:=y4p (A:=A) (s:=s) rx ry f f
      rwa [y0m f] at z
    · cases rx
      cases ry
      by_cases ab:a=b
      · subst ab;exact SeqAt.EqAt.same _
      · refine SeqAt.EqAt.of_refs ab ?_
        rcases h with ⟨h1,h2⟩ | ⟨h1,h2⟩
        · obtain ⟨us,r1,p1,_⟩:=I.list (.of h1)
          obtain ⟨ws,r2,p2,_⟩:=I.list (.of h2)
          have z:=SeqAt.RcAt.lists (A:=A) p1.isList p2.isList (e:=λ _=>true) (by simp [← r1.length,← r2.length,hl]) (by lia) (λ j k1 k2=>by
            obtain ⟨z,e1,rz⟩:=z4c r1 k1
            obtain ⟨w,e2,rw⟩:=z4c r2 k2
            exact ih A.in1 z w _ _ (by show A.units+1+d < cLine;lia) (q j z w e1 e2) rz rw)
          rwa [z6x] at z
        · obtain ⟨us,r1,p1,_⟩:=I.tuple (.of h1)
          obtain ⟨ws,r2,p2,_⟩:=I.tuple (.of h2)
          have z:=SeqAt.RcAt.tuples (A:=A) (show s.heap.IsTuple a us.toArray from p1) (show s.heap.IsTuple b ws.toArray from p2) (e:=λ _=>true) (by lia) (λ j k1 k2=>by
            obtain ⟨z,e1,rz⟩:=z4c r1 k1
            obtain ⟨w,e2,rw⟩:=z4c r2 k2
            exact ih A.in1 z w _ _ (by show A.units+1+d < cLine;lia) (q j z w e1 e2) rz rw)
          have e:(us.toArray.size == ws.toArray.size)=true:=by simp [← r1.length,← r2.length,hl]
          rw [z6x,e] at z
          exact z
def w7e:R2:=λ x y H Q=>(∃a,x=.ref a)/\AlkV H 9 x y/\Q (.bl true) H
def w5o:R2:=λ x y H Q=>(∃a,x=.ref a)/\AlkV H 9 x y/\Q (.bl false) H
theorem y9k (hu:X.A.units+20 < cLine):OpR X (compareOp .NotEq) w5o:=by
 intro pins s σ H x y v u Q I rx ry h
 obtain ⟨⟨a,rfl⟩,h,q⟩:=h
 rcases h with ⟨f,_⟩ | ⟨a',b,xs,ys,e,rfl,h,hl,al⟩
 ·simp [z1r] at f
 ·cases e
  cases rx
  cases ry
  have fin:EP X pins σ Q (.bool false) s:=⟨.bl false,H,I,rfl,q⟩
  rcases h with ⟨h1,h2⟩ | ⟨h1,h2⟩
  ·obtain ⟨us,r1,p1,_⟩:=I.list (.of h1)
   obtain ⟨ws,r2,p2,_⟩:=I.list (.of h2)
   refine SeqAt.RcNeAt.lists p1.isList p2.isList (e:=λ _=>true) (by simp [← r1.length,← r2.length,hl]) (by lia) (λ j k1 k2=>?_) _ _ _ _ (by rw [z6x];exact fin)
   obtain ⟨z,e1,rz⟩:=z4c r1 k1
   obtain ⟨w,e2,rw⟩:=z4c r2 k2
   exact y4o I 8 X.A.in1 z w _ _ (by show X.A.units+1+8 < cLine;lia) (al j z w e1 e2) rz rw
  ·obtain ⟨us,r1,p1,_⟩:=I.tuple (.of h1)
   obtain ⟨ws,r2,p2,_⟩:=I.tuple (.of h2)
   have e:(us.toArray.size == ws.toArray.size)=true:=by simp [← r1.length,← r2.length,hl]
   refine SeqAt.RcNeAt.tuples (show s.heap.IsTuple a us.toArray from p1) (show s.heap.IsTuple b ws.toArray from p2) (e:=λ _=>true) (by lia) (λ j k1 k2=>?_) _ _ _ _ (by rw [z6x,e];exact fin)
   obtain ⟨z,e1,rz⟩:=z4c r1 k1
   obtain ⟨w,e2,rw⟩:=z4c r2 k2
   exact y4o I 8 X.A.in1 z w _ _ (by show X.A.units+1+8 < cLine;lia) (al j z w e1 e2) rz rw
end
theorem w4j {k:Nat}{A:Around}(r:Room k A):A.units+20 < cLine:=by have:=r.un;lia
section
variable {X:Cx}
def w5w (K:W.Frag) (tl:TE):TI:=λ σ H R=>tl σ H λ x H1=>(∃a,x=.ref a/\(∃xs,SqL K H1 a xs)/\R (Itl K a) H1)\/(∃a,x=.ref a/\(∃xs,SqT K H1 a xs)/\R (Itt K a) H1)
theorem x8c {K:W.Frag}{te:TE}{g:TG}{tb:TS}{D:Ends}{σ:St}{H:Hp}:y1y (w5w K te) g tb D σ H=te σ H λ x H1=>LoopL K g tb D σ x H1\/LoopT K g tb D σ x H1:=rfl
theorem x4p {K:W.Frag}{k:Nat}{js:List Nat}{ti:TE}{g:TG}{te:TE}{σ:St}{H:Hp}{Q:VK}:z3p (w5w K ti) k js g te σ H Q=ti σ H λ x H1=>CompL K k js g te σ x H1 Q\/CompT K k js g te σ x H1 Q:=rfl
end
def w3a (K:W.Frag) (a:Addr) (n:Nat):It:=⟨λ i H=>∃xs,SqL K H a xs/\xs.length=n/\i < n,λ i H x H'=>H'=H/\∀xs,SqL K H a xs->xs[n - 1 - i]?=some x,λ i H=>∃xs,SqL K H a xs/\xs.length=n/\i=n⟩
section
variable {X:Cx}{tg:Expr}
def w4i (K:W.Frag) (te:TE):TI:=λ σ H R=>te σ H λ x H1=>∃a xs,x=.ref a/\SqL K H1 a xs/\R (w3a K a xs.length) H1
end
def LoopVL (K:PySem.W.Frag) (g:TG) (tb:TS) (D:Ends) (σ:St) (x:V) (H1:Hp):Prop:=∃a xs,x=.ref a/\SqL K H1 a xs/\∃W:Nat->Nat->St->Hp->Prop,(∃m,W 0 m σ H1)/\∀i m σ H,W i m σ H ->
 ((w3a K a xs.length).stop i H/\D.nx σ H)\/((w3a K a xs.length).go i H/\∃N:St->Hp->Prop,(∀σ' H',N σ' H'->∃m',m' < m/\W (i+1) m' σ' H')/\∀x H',(w3a K a xs.length).yld i H x H'->g x σ H' λ σ2 H2=>tb { D with nx:=N,ct:=N,bk:=D.nx } σ2 H2)
theorem x3y {K:W.Frag}{te:TE}{g:TG}{tb:TS}{D:Ends}{σ:St}{H:Hp}:y1y (w4i K te) g tb D σ H=te σ H λ x H1=>LoopVL K g tb D σ x H1:=rfl
theorem LoopVL.mk {K:W.Frag}{a:Addr}{xs:List V}{g:TG}{tb:TS}{D:Ends}{σ:St}{H:Hp}(hS:SqL K H a xs) (Pv:Nat->St->Hp->Prop) (h0:Pv 0 σ H) (hl:∀i σ H,i≤xs.length->Pv i σ H->SqL K H a xs)
  (hs:∀i x σ H,i < xs.length->xs[xs.length - 1 - i]?=some x->Pv i σ H->g x σ H λ σ2 H2=>tb { D with nx:=Pv (i+1),ct:=Pv (i+1),bk:=D.nx } σ2 H2) (hd:∀σ H,Pv xs.length σ H->D.nx σ H):LoopVL K g tb D σ (.ref a) H:=by
 refine ⟨a,xs,rfl,hS,λ i m σ H=>m=xs.length - i/\i≤xs.length/\Pv i σ H,⟨xs.length,by simp,Nat.zero_le _,h0⟩,?_⟩
 rintro i m σ H ⟨rfl,hi,p⟩
 have q:=hl i σ H hi p
 by_cases hlt:i < xs.length
 ·refine .inr ⟨⟨xs,q,rfl,hlt⟩,Pv (i+1),λ σ' H' p'=>⟨xs.length - (i+1),by lia,rfl,hlt,p'⟩,λ x H' y=>?_⟩
  obtain ⟨e,y⟩:=y
  subst e
  exact hs i x σ _ hlt (y xs q) p
 ·have e:i=xs.length:=by lia
  subst e
  exact .inl ⟨⟨xs,q,rfl,rfl⟩,hd σ H p⟩
end L2
namespace L2
open PySem PySem.Spec PyProof.Rows PySem.W PySem.Calls
def y1q (K:W.Frag):List (Addr × Nat × TS)->Value->(Nat->TS->Prop)->Prop
 | [],_,_=>False
 | (C,i,ts)::r,c,k=>(W.exmOne K c (.ref C)=some true/\k i ts)\/(W.exmOne K c (.ref C)=some false/\y1q K r c k)
def y3t (K:W.Frag) (cs:List (Addr × Nat × TS)) (D:Ends):St->XK:=λ σ1 c _ H1=>∃C',c=.ref C'/\y1q K cs c λ i ts=>∀a,H1 a=none->ts (z4o D i) (σ1.set i (some (.ref a))) (upd H1 a (x8y a C'))
def x9j (K:W.Frag) (cs:List (Addr × Nat × TS)) (tb:(St->XK)->TS):TS:=λ D σ H=>tb (y3t K cs D) D σ H
inductive ClausesA (X:Cx):List ExceptHandler->List (Addr × Nat × TS)->Prop
 | nil:ClausesA X [] []
 | cons {x n:Str}{C:Addr}{i:Nat}{b₀:Stmt}{suite:List Stmt}{np hpos:Pos}{ts:TS}{r:List ExceptHandler}{tr:List (Addr × Nat × TS)}(hi:X.N[i]?=some n) (hk:X.env.scope.names.lookup n=some .local) (hg:Gl X x) (hn:W.nsIn X.K mainGlobals x=some (some (.ref C)))
   (hs:∀(a:Addr) (pn:List (Addr × Obj)),PSs (X.suite a pn) (b₀::suite) ts) (hr:ClausesA X r tr) (hd:(x == ("__debug__" : Str))=false):ClausesA X (.ExceptHandler (some (.Name x np)) (some n) (b₀::suite) hpos::r) ((C,i,ts)::tr)
theorem x6v {X:Cx}{body:List Stmt}{h₀:ExceptHandler}{hl:List ExceptHandler}{cs:List (Addr × Nat × TS)}{pos:Pos}{tb:(St->XK)->TS}(hstk:X.stack=X.env::X.outer/\X.env.frame=some X.env.locals) (hex:X.ex=[]) (hN:X.N.Nodup)
  (hb:∀(xe:Value->Shared->Prop) (pn:List (Addr × Obj)) (EE:St->XK),(∀σ,z3x (CX1 X.prog X.w) (X.more xe pn) (EE σ) σ)->PSs (X.more xe pn) body (tb EE)) (hc:ClausesA X (h₀::hl) cs) :
  PS X (.Try body (h₀::hl) [] [] pos) (x9j X.K cs tb):=by
 intro pins s σ H D I h
 refine wpAny_Try_except ?_
 generalize hXE:(λ e s₁=>wpAny (model X.prog X.w) X.A (noteFrame e X.env) (λ _ s₂=>wpAny (model X.prog X.w) X.A (setFlight e none) (λ _ s₃=>wpAny (model X.prog X.w) X.A (handleBy e X.env (h₀::hl)) (SP X pins D) X.xe s₃) X.xe s₂) X.xe s₁:Value->Shared->Prop)=XE
 have toY:∀ {σ':St}{H':Hp}{s':Shared},Inv X pins σ' H' s'->Inv (X.more XE (X.pn++pins)) [] σ' H' s':=λ J=>⟨J.ok.more _ _,J.os,J.bare,J.base,J.loc,J.cell,J.free,J.freeC,λ p hp=>J.pin p (by simpa using hp),J.hok,J.len⟩
 have ofY:∀ {σ':St}{H':Hp}{s':Shared}{pp:List (Addr × Obj)},Inv (X.more XE (X.pn++pins)) pp σ' H' s'->Inv X pins σ' H' s':=λ J=>⟨I.ok,J.os,J.bare,J.base,J.loc,J.cell,J.free,J.freeC,λ p hp=>J.pin p (List.mem_append_left _ hp),J.hok,J.len⟩
 have body_ok:=hb XE (X.pn++pins) (y3t X.K cs D) ?_ [] s σ H D (toY I) h
 ·refine thn body_ok λ fl s' q=>?_
  cases fl with
  | next=>obtain ⟨σ',H',J,z⟩:=q;exact wpAny_execs_nil ⟨σ',H',ofY J,z⟩
  | brk=>obtain ⟨σ',H',J,z⟩:=q;exact ⟨σ',H',ofY J,z⟩
  | cont=>obtain ⟨σ',H',J,z⟩:=q;exact ⟨σ',H',ofY J,z⟩
  | ret u=>obtain ⟨v,σ',H',J,r,z⟩:=q;exact ⟨v,σ',H',ofY J,r,z⟩
 intro σ1 pins1 H1 s1 e s' I1 hx
 obtain ⟨a,C',a0,H',B,rfl,os,bare,fl,inB,thB,un,okB,C2,hC2,hcatch⟩:=hx
 obtain rfl:C'=C2:=Value.ref.inj hC2
 have hcatch:y1q X.K cs (.ref C') λ i ts=>∀a,H' a=none->ts (z4o D i) (σ1.set i (some (.ref a))) (upd H' a (x8y a C')):=hcatch
 subst hXE
 have fl:Heap.FlyingW B (X.env::X.outer) a (.ref C') a0 s'.heap:=by
  have z:Heap.FlyingW B X.stack a (.ref C') a0 s'.heap:=fl
  rw [hstk.1] at z;exact z
 have hfr:X.A.frames=some (X.env::X.outer):=by rw [I.ok.frames,hstk.1]
 have at_:∀h2:Heap,Heap.FlyingW B (X.env::X.outer) a (.ref C') a0 h2->s'.heap.UpToSlots h2->∀t2:Nat,Inv X pins σ1 H' { s' with heap:=h2,toks:=t2 }:=λ h2 f2 u2 t2=>by
  have J1:Inv X pins σ1 H1 s1:=ofY I1
  have slot:∀b o,s1.heap.get? b=some o->H1 b=none->b∈frs X.stack->∃sl,h2.get? b=some { o with slots:=sl }:=λ b o e nn hb=>by
   obtain ⟨sl2,e2⟩:=un.slot b o e nn hb (by simp)
   obtain ⟨_,o3,e3,nf⟩:=J1.stack.mem hb
   rw [e] at e3;cases e3
   obtain ⟨sl3,e4⟩:=u2 b _ e2 nf
   exact ⟨sl3,e4⟩
  refine J1.call' (s':={ s' with heap:=h2,toks:=t2 }) (ch:=[]) os ⟨λ b o e nn hb _=>f2.1 _ _ (inB b o e nn hb),λ b o e nn hb _=>slot b o e nn hb,un.free,λ b o e _=>?_,un.tups,un.frzs,un.tbls⟩ (okB.kept f2.1) bare (λ b z=>nomatch z)
  by_cases hb:b∈frs X.stack
  ·obtain ⟨sl,q⟩:=slot b o e (J1.stkFree b hb) hb
   exact ⟨_,q⟩
  ·obtain ⟨o',q⟩:=thB b o e hb
   exact ⟨o',f2.1 _ _ q⟩
 refine wpAny_looks_onW hfr hstk.2 fl λ h4 held4 up4=>?_
 refine wpAny_landsW held4 λ h5 fl5 up5=>?_
 have J5:=at_ h5 fl5 (up4.trans up5) s'.toks
 obtain ⟨oe5,ve5,he5,hc5,hd5,_⟩:=fl5.first
 have toZ:∀ {σ':St}{H':Hp}{s':Shared},Inv X pins σ' H' s'->Inv (X.suite a (X.pn++pins)) [] σ' H' s':=λ J=>⟨J.ok.suite _ _,J.os,J.bare,J.base,J.loc,J.cell,J.free,J.freeC,λ p hp=>J.pin p (by simpa using hp),J.hok,J.len⟩
 have ofZ:∀ {σ':St}{H':Hp}{s':Shared},Inv (X.suite a (X.pn++pins)) [] σ' H' s'->Inv X pins σ' H' s':=λ J=>⟨I.ok,J.os,J.bare,J.base,J.loc,J.cell,J.free,J.freeC,λ p hp=>J.pin p (List.mem_append_left _ hp),J.hok,J.len⟩
 have LT:Looks (model X.prog X.w) h5 (typeOf (.ref a)) (.ref C'):=hc5 ▸ (Looks.ld he5).andThen .now
 have all:∀(hs':List ExceptHandler) (cs':List (Addr × Nat × TS)),ClausesA X hs' cs'->(y1q X.K cs' (.ref C') λ i ts=>∀a,H' a=none->ts (z4o D i) (σ1.set i (some (.ref a))) (upd H' a (x8y a C')))->wpAny (model X.prog X.w) X.A (handleBy (.ref a) X.env hs') (SP X pins D) X.xe { s' with heap:=h5 }:=by
  intro hs' cs' hcl
  induction hcl with
  | nil=>intro z;exact z.elim
  | @cons x n C i b₀ suite np hpos ts r tr hi hk hg hn hs hr hd ih =>
   intro z
   have bnd:=W.mg_of J5.ok.mod.kin J5.ok.mod.glob hn
   refine wpAny_handleBy_cons (codeAny_handlers_test ?_) (by intro q;cases q)
   refine z4i (X:=X.suite a (X.pn++pins)) (toZ J5) hg bnd ?_ hd
   rcases z with ⟨z1,z2⟩ | ⟨z1,z2⟩
   ·refine (W.exm_one (M:=model X.prog X.w) J5.kIn LT z1).here ?_
    refine codeAny_handlers_suite_as ?_
    refine lands_againW fl5 λ h6 fl6 up6=>?_
    have J6:=at_ h6 fl6 ((up4.trans up5).trans up6) s'.toks
    obtain ⟨oe,ve,hoe,hoc,hod,_⟩:=fl6.first
    have Ba:B.get? a=none:=fl6.2.1
    have Ha:H' a=none:=by
     cases q:H' a with
     | none=>rfl
     | some u =>
      have z:a < B.objs.size:=okB.lt q
      have y:=okB a u q
      obtain ⟨o9,e9⟩:∃o9,B.get? a=some o9:=by
       cases u with
       | lst xs=>obtain ⟨_,_,_,_,e⟩:=y;exact ⟨_,e⟩
       | tup xs=>obtain ⟨_,_,_,o,e,_⟩:=y;exact ⟨_,e⟩
       | dK kvs=>obtain ⟨_,_,_,_,o,_,_,e,_⟩:=y;exact ⟨_,e⟩
       | dT kvs=>obtain ⟨_,_,_,_,o,_,_,e,_⟩:=y;exact ⟨_,e⟩
       | set S n=>obtain ⟨o,_,_,_,e,_⟩:=y;exact ⟨_,e⟩
       | ins C dx fs=>obtain ⟨_,_,_,e,_⟩:=y;exact ⟨_,e⟩
       | own y'=>obtain ⟨_,e⟩:=y;exact ⟨_,e⟩
       | xd fs=>obtain ⟨_,⟨_,_,_,e,_⟩,_⟩:=y;exact ⟨_,e⟩
       | rng lo hi=>obtain ⟨_,_,_,e⟩:=y;exact ⟨_,e⟩
       | frz ob u=>obtain ⟨e,_⟩:=y;exact ⟨_,e⟩
       | tbl ps=>exact ⟨_,(show B.get? a=some _ from y)⟩
       | met f y'=>exact ⟨_,(show B.get? a=some _ from y)⟩
       | ext φ=>obtain ⟨_,⟨_,e⟩,_⟩:=y;exact ⟨_,e⟩
      rw [Ba] at e9;cases e9
    have J1:Inv X pins σ1 H1 s1:=ofY I1
    have notfields:∀b o,h6.get? b=some o->(∀vs,o.data≠.fields vs)->b≠a:=λ b o e nf z=>by
     rw [z,hoe] at e;cases e;exact nf _ hod
    obtain ⟨mL,⟨oL,esL,epL,hoL,hdL,_⟩,_⟩:=id J6.loc
    have aL:a≠X.env.locals:=λ z=>(notfields X.env.locals oL hoL λ vs q=>by rw [hdL] at q;cases q) z.symm
    have ac:∀y c,X.env.cells.lookup y=some c->c≠a:=λ y c e=>by
     obtain ⟨v,o,ho,hdc⟩:=J6.cell y c e
     exact notfields c o ho λ vs q=>by rw [hdc] at q;cases q
    have inB2:∀b o,s1.heap.get? b=some o->H1 b=none->b ∉ frs X.stack->b≠a:=λ b o e nn hb z=>by
     have q:=inB b o e nn hb
     rw [z,Ba] at q;cases q
    have nstk:∀b,b≠X.env.locals->b ∉ X.fs->b ∉ frs X.stack:=λ b h1 h2 z=>by
     rcases List.mem_cons.mp (J1.stkSub b z) with q | q
     ·exact h1 q
     ·exact h2 q
    have ap:∀p∈X.pn++pins,p.1≠a:=λ p hp=>by
     obtain ⟨e,nn,ne,nf,_⟩:=J1.pin p hp
     exact inB2 p.1 p.2 e nn (nstk p.1 ne nf)
    have a0n:X.s₀.heap.get? a=none:=by
     cases q:X.s₀.heap.get? a with
     | none=>rfl
     | some o =>
      by_cases hx:a∈X.ex
      ·rw [hex] at hx;cases hx
      ·obtain ⟨o1,e1⟩:=J1.base.there a o q hx
       by_cases hf:a∈frs X.stack
       ·obtain ⟨_,o3,e3,nf⟩:=J6.stack.mem hf
        exact absurd rfl (notfields a o3 e3 nf)
       ·obtain ⟨o',q'⟩:=thB a o1 e1 hf
        rw [Ba] at q';cases q'
    have J7:Inv X pins σ1 (upd H' a (x8y a C')) { s' with heap:=h6 }:=J6.track Ha ⟨⟨oe,ve,hoe,hoc,hod⟩,⟨oe,hoe⟩,λ k1 k2 ⟨o,vs,e,c,d⟩ kk=>⟨o,vs,kk o e,c,d⟩⟩ aL ac ap a0n
    refine z9a (X:=X.suite a (X.pn++pins)) (v:=.ref a) (toZ J7) hN hi (.inl hk) rfl (λ s8 J8=>?_) (.inr hk)
    refine wpAny_mono (hs a (X.pn++pins) [] s8 _ _ _ J8 (z2 a Ha)) (λ fl s9 q=>?_) λ _ _ z=>z.elim
    have hcls:(X.env.scope.kind == .class || (X.env.scope.kind == .module && X.env.locals != X.env.globals))=false:=by rw [I.ok.kind];rfl
    have gone:∀ {σ9:St}{H9:Hp}{QQ:Unit->Shared->Prop},Inv (X.suite a (X.pn++pins)) [] σ9 H9 s9->(∀s10,Inv X pins (σ9.set i none) H9 s10->QQ () s10)->wpAny (model X.prog X.w) X.A (do bindName X.env n .none;unbindBehindTheSuite X.env n hpos) QQ X.xe s9:=λ {σ9 H9 QQ} J9 k=>by
     have J9':=ofZ J9
     obtain ⟨m,hm,hl⟩:=id J9'.loc
     exact wpAny_nameGoes_keeps hk hm hcls λ h' v hn' hs'=>k _ (J9'.gone hN hi hk hm hl hn' hs')
    cases fl with
    | next=>obtain ⟨σ9,H9,J9,z⟩:=q;exact gone J9 λ s10 J10=>⟨_,H9,J10,z⟩
    | brk=>obtain ⟨σ9,H9,J9,z⟩:=q;exact gone J9 λ s10 J10=>⟨_,H9,J10,z⟩
    | cont=>obtain ⟨σ9,H9,J9,z⟩:=q;exact gone J9 λ s10 J10=>⟨_,H9,J10,z⟩
    | ret u=>obtain ⟨v,σ9,H9,J9,r,z⟩:=q;exact gone J9 λ s10 J10=>⟨v,_,H9,J10,r,z⟩
   ·refine (W.exm_one (M:=model X.prog X.w) J5.kIn LT z1).here ?_
    exact ih z2
 exact all _ _ hc hcatch
end L2
namespace L2
open PySem PySem.Spec PyProof.Rows PySem.W PySem.Calls
section
variable {M:Model}{A:Around}{E:Value->Shared->Prop}{s₀ s:Shared}{m cm:Str->Option Value}{env:Env}{cs:List (Str × Addr)}
end
section
variable {M:Model}{A:Around}{E:Value->Shared->Prop}{s:Shared}
end
def w6k (c:Addr) (v:V):HO:=.ext λ h=>∃u,RelV v u/\h.IsCell c (some u)
def w6j (c:Addr) (qual:Str):HO:=.ext λ h=>h.CodeRec (.ref c) qual
def w7p (fa c':Addr) (qual:Str) (params:Arguments) (body:Expr) (scope:Scope) (cl:List (Str × Addr)):HO:=.ext λ h=>∃pm ctv,h.get? fa=some (kla_obj "<lambda>" qual params body scope cl pm c' ctv)
structure CelAt (H:Hp) (cl:List (Str × Addr)) (vcs:List V):Prop where
 len:cl.length=vcs.length
 at_:∀(i:Nat) q,cl[i]?=some q->∃v o,vcs[i]?=some v/\H q.2=some (.frz o (w6k q.2 v))
 apart:cl.Pairwise λ x y=>x.2≠y.2
theorem CelAt.mem {H:Hp}{cl:List (Str × Addr)}{vcs:List V}(h:CelAt H cl vcs) {q:Str × Addr}(hq:q∈cl):∃o v,H q.2=some (.frz o (w6k q.2 v)):=by
 obtain ⟨i,e⟩:=List.mem_iff_getElem?.mp hq
 obtain ⟨v,o,_,e2⟩:=h.at_ i q e
 exact ⟨o,v,e2⟩
theorem CelAt.same {H H':Hp}{cl:List (Str × Addr)}{vcs:List V}(h:CelAt H cl vcs) (s:∀a o,H a=some o->H' a=some o):CelAt H' cl vcs :=
 ⟨h.len,λ i q e=>let ⟨v,o,e1,e2⟩:=h.at_ i q e;⟨v,o,e1,s _ _ e2⟩,h.apart⟩
structure LmScope (N ps fv:List Str) (sc:Scope):Prop where
 kind:sc.kind=.function
 co:sc.isCoroutine=false
 gen:sc.isGenerator=false
 nd:N.Nodup
 pre:N.take (ps++fv).length=ps++fv
 par:∀x∈ps,sc.names.lookup x=some .local\/sc.names.lookup x=some .cell
 fre:∀x∈fv,sc.names.lookup x=some .free
 has:∀y∈sc.names,y.2=.free->y.1∈fv
 own:∀x∈fv,∀y∈sc.names,y.2=.cell->y.1≠x
def CallV (P:Program) (w:World) (K:W.Frag) (mg:Str->Option Value) (base:Heap) (k:Nat) (fa:Addr) (vs:List V) (H:Hp) (Q:VK):Prop :=
 ∀(A:Around) (outer:List Env) (s:Shared) (us:List Value),Room k A->Env0 P w K mg base A outer s H->Vals vs us->codeAny (model P w) A (.call (.ref fa) ⟨us,[]⟩) (CR CX0 outer P w H s Q λ _ _ _=>False) s
end L2
namespace L2
open PySem PySem.Spec PyProof.Rows PySem.W PySem.Calls
def FnV (H:Hp) (fa:Addr):Prop:=∃φ,H fa=some (.ext φ)/\∀h,φ h->FnAt fa h
theorem FnV.same {H H':Hp}{fa:Addr}(h:FnV H fa) (s:∀o,H fa=some o->H' fa=some o):FnV H' fa:=let ⟨φ,e,k⟩:=h;⟨φ,s _ e,k⟩
def w3l (P:Program) (w:World) (K:W.Frag) (mg:Str->Option Value) (base:Heap) (k i:Nat) (t:TA):TE:=λ σ H Q=>∃fa,σ[i]?=some (some (.ref fa))/\FnV H fa/\t σ H λ vs H1=>FnV H1 fa/\CallV P w K mg base k fa vs H1 Q
section
variable {X:Cx}{k:Nat}{x:Str}{p pos:Pos}{e:Expr}{es:List Expr}{t:TA}
end
def w4u (ec:List (Str × Addr)) (fv:List Str) (cl:List (Str × Addr)):Prop:=cl.map (·.1)=fv/\∀q∈cl,ec.lookup q.1=some q.2
def TabOk (H:Hp) (T:Addr) (pos:Pos) (qual:Str):Prop:=∃ps,H T=some (.tbl ps)/\TriplesOk ps.toList/\(codeAmong pos ps.toList=none\/∃c',codeAmong pos ps.toList=some (.ref c')/\H c'=some (w6j c' qual))
theorem TabOk.same {H H':Hp}{T:Addr}{pos:Pos}{qual:Str}(h:TabOk H T pos qual) (s:∀a o,H a=some o->H' a=some o):TabOk H' T pos qual:=by
 obtain ⟨ps,e,t,z⟩:=h
 exact ⟨ps,s _ _ e,t,z.imp id λ ⟨c',a,b⟩=>⟨c',a,s _ _ b⟩⟩
structure TabF (base:Heap) (mg:Str->Option Value) (c T:Addr):Prop where
 hd:CodeHd base c T
 none_:base.get? T=none
 blt:∃bm o,mg "__builtins__"=some (.ref bm)/\bm≠builtinsNs/\bm≠mainGlobals/\bm≠T/\base.get? bm=some o/\o.cls=.type "module" /\ o.dict=some builtinsNs/\o.data=.plain
 ne:mainGlobals≠T
def w6r (ec:List (Str × Addr)) (fv:List Str) (T:Addr) (pos:Pos) (qual:Str) (params:Arguments) (body:Expr) (scope:Scope):TE:=λ _ H Q=>TabOk H T pos qual /\
 ∀fa c' cl H2,w4u ec fv cl->H fa=none->H2 fa=some (w7p fa c' qual params body scope cl)->H2 c'=some (w6j c' qual)->TabOk H2 T pos qual->(∀b o,b≠T->H b=some o->H2 b=some o)->Q (.ref fa) H2
section
variable {X:Cx}{params:Arguments}{body:Expr}{scope:Scope}{pos:Pos}{fv:List Str}{c T:Addr}{cl:List (Str × Addr)}
end
end L2
namespace L2
open PySem PySem.Spec PyProof.Rows PySem.W PySem.Calls
theorem CallV.mono {P:Program}{w:World}{K:W.Frag}{mg:Str->Option Value}{base:Heap}{j k:Nat}{fa:Addr}{vs:List V}{H:Hp}{Q:VK}(h:CallV P w K mg base j fa vs H Q) (l:j≤k):CallV P w K mg base k fa vs H Q :=
 λ A outer s us hr e0 r=>h A outer s us (hr.mono l) e0 r
def LoopE (K:PySem.W.Frag) (g:TG) (tb:TS) (D:Ends) (σ:St) (v:V) (H1:Hp):Prop:=∃a xs,v=.ref a/\SqT K H1 a xs/\∃W:Nat->Nat->St->Hp->Prop,(∃m,W 0 m σ H1)/\∀i m σ H,W i m σ H ->
 ((Ite K a).stop i H/\D.nx σ H)\/((Ite K a).go i H/\∃N:St->Hp->Prop,(∀σ' H',N σ' H'->∃m',m' < m/\W (i+1) m' σ' H')/\∀x H',(Ite K a).yld i H x H'->g x σ H' λ σ2 H2=>tb { D with nx:=N,ct:=N,bk:=D.nx } σ2 H2)
theorem x8e {K:W.Frag}{te:TE}{g:TG}{tb:TS}{D:Ends}{σ:St}{H:Hp}:y1y (x3o K te) g tb D σ H=te σ H λ v H1=>LoopE K g tb D σ v H1:=rfl
theorem LoopE.mk {K:W.Frag}{a:Addr}{xs:List V}{g:TG}{tb:TS}{D:Ends}{σ:St}{H:Hp}(h1:SqT K H a xs) (Pv:Nat->St->Hp->Prop) (h0:Pv 0 σ H) (hl:∀i σ H,i≤xs.length->Pv i σ H->SqT K H a xs)
  (hs:∀i x σ H T,xs[i]?=some x->Pv i σ H->H T=none->g (.ref T) σ (upd H T (.tup [.int i,x])) λ σ2 H2=>tb { D with nx:=Pv (i+1),ct:=Pv (i+1),bk:=D.nx } σ2 H2) (hd:∀σ H,Pv xs.length σ H->D.nx σ H) :
  LoopE K g tb D σ (.ref a) H:=by
 refine ⟨a,xs,rfl,h1,λ i m σ H=>m=xs.length - i/\i≤xs.length/\Pv i σ H,⟨_,rfl,Nat.zero_le _,h0⟩,?_⟩
 rintro i m σ H ⟨rfl,hi,p⟩
 have k1:=hl i σ H hi p
 by_cases hlt:i < xs.length
 ·refine .inr ⟨⟨xs,_,k1,List.getElem?_eq_getElem hlt⟩,Pv (i+1),λ σ' H' p'=>⟨xs.length - (i+1),by lia,rfl,hlt,p'⟩,λ v H' yy=>?_⟩
  obtain ⟨T,x,rfl,hT,rfl,ex⟩:=yy
  exact hs i x σ H T (ex xs k1) p hT
 ·have e:i=xs.length:=by lia
  exact .inl ⟨⟨xs,k1,by lia⟩,hd σ H (e ▸ p)⟩
section
variable {X:Cx}
def w0v (K:W.Frag):V->List V->Hp->VK->Prop:=λ x ys H Q=>∃a xs y j,x=.ref a/\ys=[y]/\SqL K H a xs/\xs.all z1r=true/\z1r y=true/\(∃z,xs[j]?=some z/\eqV z y=true)/\(∀m z,m < j->xs[m]?=some z->eqV z y=false)/\Q (.int (j:Nat)) H
end
section
variable {pg:Program}{wd:World}{B:Around}{X0:Value->Shared->Prop}{s0:Shared}
end
def x8w (K:W.Frag) (a b:Addr):It:=⟨λ i H=>∃xs ys x y,SqT K H a xs/\SqL K H b ys/\xs[i]?=some x/\ys[i]?=some y,
 λ i H v H'=>∃T x y,v=.ref T/\H T=none/\H'=upd H T (.tup [x,y])/\∀xs ys,SqT K H a xs->SqL K H b ys->xs[i]?=some x/\ys[i]?=some y,λ i H=>∃xs ys,SqT K H a xs/\SqL K H b ys/\(xs.length≤i\/ys.length≤i)⟩
section
variable {X:Cx}{es:List Expr}{x1:Nat}{pp:Pos}
def w1x (K:W.Frag) (ta:TA):TI:=λ σ H R=>ta σ H λ vs H1=>∃a b xs ys,vs=[.ref a,.ref b]/\SqT K H1 a xs/\SqL K H1 b ys/\R (x8w K a b) H1
end
def LoopZN (K:PySem.W.Frag) (g:TG) (tb:TS) (D:Ends) (σ:St) (vs:List V) (H1:Hp):Prop:=∃a b xs ys,vs=[.ref a,.ref b]/\SqT K H1 a xs/\SqL K H1 b ys/\∃W:Nat->Nat->St->Hp->Prop,(∃m,W 0 m σ H1)/\∀i m σ H,W i m σ H ->
 ((x8w K a b).stop i H/\D.nx σ H)\/((x8w K a b).go i H/\∃N:St->Hp->Prop,(∀σ' H',N σ' H'->∃m',m' < m/\W (i+1) m' σ' H')/\∀x H',(x8w K a b).yld i H x H'->g x σ H' λ σ2 H2=>tb { D with nx:=N,ct:=N,bk:=D.nx } σ2 H2)
theorem x3v {K:W.Frag}{ta:TA}{g:TG}{tb:TS}{D:Ends}{σ:St}{H:Hp}:y1y (w1x K ta) g tb D σ H=ta σ H λ vs H1=>LoopZN K g tb D σ vs H1:=rfl
theorem LoopZN.mk {K:W.Frag}{a b:Addr}{xs ys:List V}{g:TG}{tb:TS}{D:Ends}{σ:St}{H:Hp}(n:Nat) (hn:n=min xs.length ys.length) (h1:SqT K H a xs) (h2:SqL K H b ys) (Pv:Nat->St->Hp->Prop) (h0:Pv 0 σ H) (hl:∀i σ H,i≤n->Pv i σ H->SqT K H a xs/\SqL K H b ys)
  (hs:∀i x y σ H T,i < n->xs[i]?=some x->ys[i]?=some y->Pv i σ H->H T=none->g (.ref T) σ (upd H T (.tup [x,y])) λ σ2 H2=>tb { D with nx:=Pv (i+1),ct:=Pv (i+1),bk:=D.nx } σ2 H2) (hd:∀σ H,Pv n σ H->D.nx σ H) :
  LoopZN K g tb D σ [.ref a,.ref b] H:=by
 subst hn
 refine ⟨a,b,xs,ys,rfl,h1,h2,λ i m σ H=>m=min xs.length ys.length - i/\i≤min xs.length ys.length/\Pv i σ H,⟨_,rfl,Nat.zero_le _,h0⟩,?_⟩
 rintro i m σ H ⟨rfl,hi,p⟩
 obtain ⟨k1,k2⟩:=hl i σ H hi p
 by_cases hlt:i < min xs.length ys.length
 ·have l1:i < xs.length:=by lia
  have l2:i < ys.length:=by lia
  refine .inr ⟨⟨xs,ys,_,_,k1,k2,List.getElem?_eq_getElem l1,List.getElem?_eq_getElem l2⟩,Pv (i+1),λ σ' H' p'=>⟨min xs.length ys.length - (i+1),by lia,rfl,hlt,p'⟩,λ v H' yy=>?_⟩
  obtain ⟨T,x,y,rfl,hT,rfl,ex⟩:=yy
  obtain ⟨ex1,ex2⟩:=ex xs ys k1 k2
  exact hs i x y σ H T hlt ex1 ex2 p hT
 ·have e:i=min xs.length ys.length:=by lia
  exact .inl ⟨⟨xs,ys,k1,k2,by lia⟩,hd σ H (e ▸ p)⟩
def CompZN (K:PySem.W.Frag) (k:Nat) (js:List Nat) (g:TG) (te:TE) (σ:St) (vs:List V) (H1:Hp) (Q:VK):Prop:=∃a b xs ys,vs=[.ref a,.ref b]/\SqT K H1 a xs/\SqL K H1 b ys/\∃W:Nat->Nat->List V->St->Hp->Prop,(∃m,W 0 m [] (z1l k js σ) H1)/\∀i m zs σ' H',W i m zs σ' H' ->
  ((x8w K a b).stop i H'/\∀p,H' p=none->Q (.ref p) (upd H' p (.lst zs))) \/
  ((x8w K a b).go i H'/\zs.length < sizeLine/\∃N:List V->St->Hp->Prop,(∀zs σ2 H2,N zs σ2 H2->∃m',m' < m/\W (i+1) m' zs σ2 H2)/\∀x H2,(x8w K a b).yld i H' x H2->g x σ' H2 λ σ3 H3=>te σ3 H3 λ v H4=>N (zs++[v]) σ3 H4)
theorem x1c {K:W.Frag}{k:Nat}{js:List Nat}{ta:TA}{g:TG}{te:TE}{σ:St}{H:Hp}{Q:VK}:z3p (w1x K ta) k js g te σ H Q=ta σ H λ vs H1=>CompZN K k js g te σ vs H1 Q:=rfl
theorem CompZN.mk {K:W.Frag}{a b:Addr}{xs ys:List V}{k:Nat}{js:List Nat}{g:TG}{te:TE}{Q:VK}{σ:St}{H:Hp}(n:Nat) (hn:n=min xs.length ys.length) (h1:SqT K H a xs) (h2:SqL K H b ys) (Pv:Nat->List V->St->Hp->Prop) (h0:Pv 0 [] (z1l k js σ) H) (hl:∀i zs σ H,i≤n->Pv i zs σ H->SqT K H a xs/\SqL K H b ys)
  (hs:∀i x y zs σ H T,i < n->xs[i]?=some x->ys[i]?=some y->Pv i zs σ H->H T=none->zs.length < sizeLine/\g (.ref T) σ (upd H T (.tup [x,y])) λ σ3 H3=>te σ3 H3 λ v H4=>Pv (i+1) (zs++[v]) σ3 H4) (hz:∀zs σ H,Pv n zs σ H->∀p,H p=none->Q (.ref p) (upd H p (.lst zs))) (hlen:∀i zs σ H,Pv i zs σ H->zs.length < sizeLine) :
  CompZN K k js g te σ [.ref a,.ref b] H Q:=by
 subst hn
 refine ⟨a,b,xs,ys,rfl,h1,h2,λ i m zs σ H=>m=min xs.length ys.length - i/\i≤min xs.length ys.length/\Pv i zs σ H,⟨_,rfl,Nat.zero_le _,h0⟩,?_⟩
 rintro i m zs σ H ⟨rfl,hi,p⟩
 obtain ⟨k1,k2⟩:=hl i zs σ H hi p
 by_cases hlt:i < min xs.length ys.length
 ·have l1:i < xs.length:=by lia
  have l2:i < ys.length:=by lia
  refine .inr ⟨⟨xs,ys,_,_,k1,k2,List.getElem?_eq_getElem l1,List.getElem?_eq_getElem l2⟩,hlen _ _ _ _ p,Pv (i+1),λ zs' σ' H' p'=>⟨min xs.length ys.length - (i+1),by lia,rfl,hlt,p'⟩,λ v H' yy=>?_⟩
  obtain ⟨T,x,y,rfl,hT,rfl,ex⟩:=yy
  obtain ⟨ex1,ex2⟩:=ex xs ys k1 k2
  exact (hs i x y zs σ H T hlt ex1 ex2 p hT).2
 ·have e:i=min xs.length ys.length:=by lia
  exact .inl ⟨⟨xs,ys,k1,k2,by lia⟩,hz zs σ H (e ▸ p)⟩
structure Apart6 (z ti ox j1 j2 j3 t1 t2 t3:Addr):Prop where
 ti_z:ti≠z
 ox_z:ox≠z
 j1_z:j1≠z
 j2_z:j2≠z
 j3_z:j3≠z
 ti_ox:ti≠ox
 ti_j1:ti≠j1
 ti_j2:ti≠j2
 ti_j3:ti≠j3
 ox_j1:ox≠j1
 ox_j2:ox≠j2
 ox_j3:ox≠j3
 j12:j1≠j2
 j13:j1≠j3
 j23:j2≠j3
 t1_z:t1≠z
 t2_z:t2≠z
 t2_ox:t2≠ox
 t2_j1:t2≠j1
 t3_z:t3≠z
 t3_ox:t3≠ox
 t3_j1:t3≠j1
 t3_j2:t3≠j2
section
variable {pg:Program}{wd:World}{B:Around}{X0:Value->Shared->Prop}{s0:Shared}
end
def w2z (K:W.Frag) (a b c:Addr):It:=⟨λ i H=>∃xs ys zs x y z,SqT K H a xs/\SqT K H b ys/\SqT K H c zs/\xs[i]?=some x/\ys[i]?=some y/\zs[i]?=some z,
 λ i H v H'=>∃T x y z,v=.ref T/\H T=none/\H'=upd H T (.tup [x,y,z])/\∀xs ys zs,SqT K H a xs->SqT K H b ys->SqT K H c zs->xs[i]?=some x/\ys[i]?=some y/\zs[i]?=some z,λ i H=>∃xs,SqT K H a xs/\xs.length≤i⟩
section
variable {X:Cx}{es:List Expr}{x1:Nat}{pp:Pos}
def w4g (K:W.Frag) (ta:TA):TI:=λ σ H R=>ta σ H λ vs H1=>∃a b c xs ys zs,vs=[.ref a,.ref b,.ref c]/\SqT K H1 a xs/\SqT K H1 b ys/\SqT K H1 c zs/\R (w2z K a b c) H1
end
def CompZ3 (K:PySem.W.Frag) (k:Nat) (js:List Nat) (g:TG) (te:TE) (σ:St) (vs:List V) (H1:Hp) (Q:VK):Prop:=∃a b c xs ys zs,vs=[.ref a,.ref b,.ref c]/\SqT K H1 a xs/\SqT K H1 b ys/\SqT K H1 c zs/\∃W:Nat->Nat->List V->St->Hp->Prop,(∃m,W 0 m [] (z1l k js σ) H1)/\∀i m zs σ' H',W i m zs σ' H' ->
  ((w2z K a b c).stop i H'/\∀p,H' p=none->Q (.ref p) (upd H' p (.lst zs))) \/
  ((w2z K a b c).go i H'/\zs.length < sizeLine/\∃N:List V->St->Hp->Prop,(∀zs σ2 H2,N zs σ2 H2->∃m',m' < m/\W (i+1) m' zs σ2 H2)/\∀x H2,(w2z K a b c).yld i H' x H2->g x σ' H2 λ σ3 H3=>te σ3 H3 λ v H4=>N (zs++[v]) σ3 H4)
theorem x1g {K:W.Frag}{k:Nat}{js:List Nat}{ta:TA}{g:TG}{te:TE}{σ:St}{H:Hp}{Q:VK}:z3p (w4g K ta) k js g te σ H Q=ta σ H λ vs H1=>CompZ3 K k js g te σ vs H1 Q:=rfl
theorem CompZ3.mk {K:W.Frag}{a b c:Addr}{xs ys zs:List V}{k:Nat}{js:List Nat}{g:TG}{te:TE}{Q:VK}{σ:St}{H:Hp}(n:Nat) (hn:n=xs.length) (hy:ys.length=n) (hz:zs.length=n) (h1:SqT K H a xs) (h2:SqT K H b ys) (h3:SqT K H c zs) (Pv:Nat->List V->St->Hp->Prop) (h0:Pv 0 [] (z1l k js σ) H) (hl:∀i us σ H,i≤n->Pv i us σ H->SqT K H a xs/\SqT K H b ys/\SqT K H c zs)
  (hs:∀i x y z us σ H T,i < n->xs[i]?=some x->ys[i]?=some y->zs[i]?=some z->Pv i us σ H->H T=none->g (.ref T) σ (upd H T (.tup [x,y,z])) λ σ3 H3=>te σ3 H3 λ v H4=>Pv (i+1) (us++[v]) σ3 H4) (hd:∀us σ H,Pv n us σ H->∀p,H p=none->Q (.ref p) (upd H p (.lst us))) (hlen:∀i us σ H,Pv i us σ H->us.length < sizeLine) :
  CompZ3 K k js g te σ [.ref a,.ref b,.ref c] H Q:=by
 subst hn
 refine ⟨a,b,c,xs,ys,zs,rfl,h1,h2,h3,λ i m us σ H=>m=xs.length - i/\i≤xs.length/\Pv i us σ H,⟨_,rfl,Nat.zero_le _,h0⟩,?_⟩
 rintro i m us σ H ⟨rfl,hi,p⟩
 obtain ⟨k1,k2,k3⟩:=hl i us σ H hi p
 by_cases hlt:i < xs.length
 ·refine .inr ⟨⟨xs,ys,zs,_,_,_,k1,k2,k3,List.getElem?_eq_getElem hlt,List.getElem?_eq_getElem (hy ▸ hlt),List.getElem?_eq_getElem (hz ▸ hlt)⟩,hlen _ _ _ _ p,Pv (i+1),λ us' σ' H' p'=>⟨xs.length - (i+1),by lia,rfl,hlt,p'⟩,λ v H' yy=>?_⟩
  obtain ⟨T,x,y,z,rfl,hT,rfl,ex⟩:=yy
  obtain ⟨ex1,ex2,ex3⟩:=ex xs ys zs k1 k2 k3
  exact hs i x y z us σ H T hlt ex1 ex2 ex3 p hT
 ·have e:i=xs.length:=by lia
  exact .inl ⟨⟨xs,k1,by lia⟩,hd us σ H (e ▸ p)⟩
def CompLI (K:PySem.W.Frag) (k:Nat) (js:List Nat) (g:TG) (tc:TT) (te:TE) (σ:St) (v:V) (H1:Hp) (Q:VK):Prop:=∃a,v=.ref a/\(∃xs,SqL K H1 a xs)/\∃W:Nat->Nat->List V->St->Hp->Prop,(∃m,W 0 m [] (z1l k js σ) H1)/\∀i m zs σ' H',W i m zs σ' H' ->
  ((Itl K a).stop i H'/\∀p,H' p=none->Q (.ref p) (upd H' p (.lst zs))) \/
  ((Itl K a).go i H'/\zs.length < sizeLine/\∃N:List V->St->Hp->Prop,(∀zs σ2 H2,N zs σ2 H2->∃m',m' < m/\W (i+1) m' zs σ2 H2)/\∀x H2,(Itl K a).yld i H' x H2->g x σ' H2 λ σ3 H3=>tc σ3 H3 λ b H4=>if b=true then te σ3 H4 λ v H5=>N (zs++[v]) σ3 H5 else N zs σ3 H4)
theorem x1l {K:W.Frag}{k:Nat}{js:List Nat}{tx:TE}{g:TG}{tc:TT}{te:TE}{σ:St}{H:Hp}{Q:VK}:z4q (x3n K tx) k js g tc te σ H Q=tx σ H λ v H1=>CompLI K k js g tc te σ v H1 Q:=rfl
theorem CompLI.mk {K:W.Frag}{a:Addr}{xs:List V}{k:Nat}{js:List Nat}{g:TG}{tc:TT}{te:TE}{Q:VK}{σ:St}{H:Hp}(h1:SqL K H a xs) (Pv:Nat->List V->St->Hp->Prop) (h0:Pv 0 [] (z1l k js σ) H) (hl:∀i zs σ H,i≤xs.length->Pv i zs σ H->SqL K H a xs/\zs.length < sizeLine)
  (hs:∀i x zs σ H,xs[i]?=some x->Pv i zs σ H->g x σ H λ σ3 H3=>tc σ3 H3 λ b H4=>if b=true then te σ3 H4 λ v H5=>Pv (i+1) (zs++[v]) σ3 H5 else Pv (i+1) zs σ3 H4) (hz:∀zs σ H,Pv xs.length zs σ H->∀p,H p=none->Q (.ref p) (upd H p (.lst zs))) :
  CompLI K k js g tc te σ (.ref a) H Q:=by
 refine ⟨a,rfl,⟨xs,h1⟩,λ i m zs σ H=>m=xs.length - i/\i≤xs.length/\Pv i zs σ H,⟨_,rfl,Nat.zero_le _,h0⟩,?_⟩
 rintro i m zs σ H ⟨rfl,hi,p⟩
 obtain ⟨k1,k2⟩:=hl i zs σ H hi p
 by_cases hlt:i < xs.length
 ·refine .inr ⟨⟨xs,_,k1,List.getElem?_eq_getElem hlt⟩,k2,Pv (i+1),λ zs' σ' H' p'=>⟨xs.length - (i+1),by lia,rfl,hlt,p'⟩,λ v H' yy=>?_⟩
  obtain ⟨rfl,ex⟩:=yy
  exact hs i v zs σ _ (ex xs k1) p
 ·have e:i=xs.length:=by lia
  exact .inl ⟨⟨xs,k1,by lia⟩,hz zs σ H (e ▸ p)⟩
def CompRI (lo:Int) (n k:Nat) (js:List Nat) (g:TG) (tc:TT) (te:TE) (σ:St) (H1:Hp) (Q:VK):Prop:=∃W:Nat->Nat->List V->St->Hp->Prop,(∃m,W 0 m [] (z1l k js σ) H1)/\∀i m zs σ' H',W i m zs σ' H' ->
  ((Itr lo n).stop i H'/\∀p,H' p=none->Q (.ref p) (upd H' p (.lst zs))) \/
  ((Itr lo n).go i H'/\zs.length < sizeLine/\∃N:List V->St->Hp->Prop,(∀zs σ2 H2,N zs σ2 H2->∃m',m' < m/\W (i+1) m' zs σ2 H2)/\∀x H2,(Itr lo n).yld i H' x H2->g x σ' H2 λ σ3 H3=>tc σ3 H3 λ b H4=>if b=true then te σ3 H4 λ v H5=>N (zs++[v]) σ3 H5 else N zs σ3 H4)
theorem x1i {k:Nat}{js:List Nat}{ta:TA}{g:TG}{tc:TT}{te:TE}{σ:St}{H:Hp}{Q:VK}:z4q (x3m ta) k js g tc te σ H Q=ta σ H λ vs H1=>∃j:Int,vs=[.int j]/\-(2 ^ 62)≤j/\j < 2 ^ 62/\CompRI 0 j.toNat k js g tc te σ H1 Q:=rfl
theorem CompRI.mk {lo:Int}{n k:Nat}{js:List Nat}{g:TG}{tc:TT}{te:TE}{Q:VK}{σ:St}{H:Hp}(Pv:Nat->List V->St->Hp->Prop) (h0:Pv 0 [] (z1l k js σ) H) (hl:∀i zs σ H,i≤n->Pv i zs σ H->zs.length < sizeLine)
  (hs:∀i zs σ H,i < n->Pv i zs σ H->g (.int (lo+i)) σ H λ σ3 H3=>tc σ3 H3 λ b H4=>if b=true then te σ3 H4 λ v H5=>Pv (i+1) (zs++[v]) σ3 H5 else Pv (i+1) zs σ3 H4) (hz:∀zs σ H,Pv n zs σ H->∀p,H p=none->Q (.ref p) (upd H p (.lst zs))) :
  CompRI lo n k js g tc te σ H Q:=by
 refine ⟨λ i m zs σ H=>m=n - i/\i≤n/\Pv i zs σ H,⟨_,rfl,Nat.zero_le _,h0⟩,?_⟩
 rintro i m zs σ H ⟨rfl,hi,p⟩
 by_cases hlt:i < n
 ·refine .inr ⟨hlt,hl i zs σ H hi p,Pv (i+1),λ zs' σ' H' p'=>⟨n - (i+1),by lia,rfl,hlt,p'⟩,λ v H' yy=>?_⟩
  obtain ⟨rfl,rfl⟩:=yy
  exact hs i zs σ _ hlt p
 ·have e:i=n:=by lia
  exact .inl ⟨show n≤i by lia,hz zs σ H (e ▸ p)⟩
theorem x2q {X:Cx}{i:Nat}{x:Str}{elt tg iter cnd:Expr}{scope:Scope}{cl:List (Str × Addr)}{pos pos' lpos:Pos}{own fv:List Str}{js:List Nat}{wi:TI}{g:TG}{tc:TT}{te:TE}
  (hN:X.N.Nodup) (hx1:X.N[i]?=some x) (hx:Loc X.env.scope x) (hf:X.fn x=true\/X.env.scope.names.lookup x=some .local)
  (hc:X.calm=true) (hi:PI X tg iter wi) (hclos:closureFor scope X.env=pure cl) (hcell:∀y∈scope.names,y.2≠.cell) (hkind:scope.kind=.function)
  (hnames:∀y∈scope.names,y.2=.local->scope.names.lookup y.1=some .local)
  (hcl:∀x c,cl.lookup x=some c->X.env.cells.lookup x=some c)
  (hhas:∀x,((relabel scope X.env).names.lookup x=some .cell\/(relabel scope X.env).names.lookup x=some .free)->∃c,cl.lookup x=some c)
  (hlen:js.length=fv.length) (hcap:∀(i:Nat) x j,fv[i]?=some x->js[i]?=some j->Cap X scope cl x j)
  (hg:∀(C:Addr) (ex:List Addr) (s:Shared) (H:Hp),PG (z2d X (own++fv) scope cl C ex s H) tg g)
  (he:∀(C:Addr) (ex:List Addr) (s:Shared) (H:Hp),PE (z2d X (own++fv) scope cl C ex s H) elt te)
  (ht:∀(C:Addr) (ex:List Addr) (s:Shared) (H:Hp),PT (z2d X (own++fv) scope cl C ex s H) cnd tc)
  (hsw:swapsWith (.ListComp elt [⟨tg,iter,[cnd],0⟩] scope lpos) (some (.Name x pos')) pos.line X.env=pure true:=by rfl)
  (hs:∀x,foldedSetIterable iter X.env x=pure x:=by intro _;rfl) :
  PS X (.Assign [.Name x pos'] (.ListComp elt [⟨tg,iter,[cnd],0⟩] scope lpos) pos) (x9a (z4q wi own.length js g tc te) (z6g i)):=by
 intro pins s σ H D I h
 rw [exec_Assign_Name_used _ _ _ _ hsw]
 refine wpAny_bind (wpAny_standAt ?_)
 rw [arm_evalThenUse_ListComp]
 have core:=y6p (use:=some (assign (.Name x pos') X.env)) (QQ:=λ _ s'=>SP X pins D .next s') (fpos:=firstIterPos [⟨tg,iter,[cnd],0⟩] lpos) (pos:=lpos) hc hi hclos hcell hkind hnames hcl hhas hlen hcap hg he ht hs I h (λ a C s5 H5 fl I5 zC zL zS zc zp ⟨m,hn⟩ q=>?_)
 ·refine wpAny_bind (wpAny_bind (thn core λ _ s' hq=>?_))
  exact wpAny_pure (wpAny_pure hq)
 ·show wpAny (model X.prog X.w) X.A (assign (.Name x pos') X.env (.ref a)) _ X.xe s5
  show wpAny (model X.prog X.w) X.A (do standAt pos';bindName X.env x (.ref a)) _ X.xe s5
  refine wpAny_bind (wpAny_standAt ?_)
  refine bindName_ ?_
  refine z7a I5 hN hx1 hx (show RelV (.ref a) (.ref a) from rfl) (λ s6 I6 ⟨b,sb,hb⟩=>?_) hf
  have cb:C≠b:=by
   rcases hb with rfl | hb
   ·exact zL
   ·exact λ z=>zc x b hb z.symm
  obtain ⟨o,es,ep,e,r⟩:=hn
  refine ⟨m,⟨o,es,ep,(sb.2 C cb).trans e,r⟩,λ h' sc=>?_⟩
  exact ⟨_,H5,I6.turned (t':=s6.toks) (it:=C) (λ d o nd e=>sc.extBut d o nd e) zC zL (.inr zS) zc zp,q⟩
def w4x (B h:Heap) (e:Addr) (cls:Value) (dx:Addr) (hd:Value):Prop :=
 ∃oe vs,h.get? e=some oe/\(oe.cls=cls/\oe.dict=some dx)/\oe.data=.fields vs/\vs[1]?=some hd
def TrAt (B h:Heap) (e:Addr) (hd fl:Value):Prop:=∃T oT ts,hd=.ref T/\B.get? T=none/\T≠e/\h.get? T=some oT/\oT.data=.fields ts/\ts[3]?=some fl
def FlyD (B:Heap) (l:List Env) (e:Addr) (cls:Value) (dx:Addr) (fl:Value) (h:Heap):Prop :=
 B.StaysIn h/\B.get? e=none/\h.FunFrames B l/\∃hd,w4x B h e cls dx hd/\TrAt B h e hd fl
theorem FlyD.first {B h:Heap}{l:List Env}{e dx:Addr}{cls fl:Value}(x:FlyD B l e cls dx fl h):∃oe vs,h.get? e=some oe/\oe.cls=cls/\oe.data=.fields vs/\oe.dict=some dx :=
 let ⟨_,_,_,_,⟨oe,vs,he,hc,hd,_⟩,_⟩:=x;⟨oe,vs,he,hc.1,hd,hc.2⟩
section
variable {M:Model}{A:Around}{E:Value->Shared->Prop}{s:Shared}{B:Heap}{env:Env}{outer:List Env}{L e dx:Addr}{cls:Value}
end
end L2
namespace L2
open PySem PySem.Spec PyProof.Rows Builtin Builtin.ObjectAttr
def w6b (K:W.Frag) (C:Addr) (bmB:List Value) (nid:String):Bool:=match K.lookup C with
 | some ⟨.type "type",_,.cls cd,kk⟩=>cd.hasDict && (match cd.mro,kk.toList with | .ref C2::tl,[_,_,_,_,some (.builtin n2),_]=>C2 == C && (n2 == nid && (!cd.hasDel && W.tailIn K bmB tl)) | _,_=>false)
 | _=>false
structure HasX (h:Heap) (C:Addr) (bmB:List Value) (nid:String):Prop where
 ex:∃(nm q:Str) (N:Addr) (bs bm:List Value) (sn:List Str) (sub:List Value) (ab:Bool) (col:Option Bool) (dd:Option Addr) (k0 k1 k2 k3 k5:Option Value),
  h.get? C=some (excClassObj nm q C N bs bm true sn sub ab col dd k0 k1 k2 k3 k5 nid)/\OwnTail h bmB bm
abbrev w2i (C t:Addr) (d:Option Addr):Obj:={ cls:=.ref C,dict:=d,data:=.fields #[.ref t,.none,.none,.none,.bool false,.none] }
def x9e (a C:Addr) (d:Option Addr):HO:=.ext λ h=>∃t,h.get? a=some (w2i C t d)
def w3c (d:Addr) (fs:List (Str × V)):HO:=.ext λ h=>fs.length≤1000/\∃mA,h.Ns1 d mA/\(∀f,RelO (fs.lookup f) (mA f))/\PySem.Within mA (fs.map (·.1))
section
variable {prog:Program}{w:World}{A:Around}{E:Value->Shared->Prop}{h:Heap}{g:Array GenState}{dr:Drawn}{tk:Nat}{os:OsState}{C:Addr}{bmB:List Value}{B nid initId:String}
end
end L2
namespace L2
open PySem PySem.Spec PyProof.Rows Builtin Builtin.ObjectAttr
section
variable {prog:Program}{w:World}{A:Around}{E:Value->Shared->Prop}{h:Heap}{g:Array GenState}{dr:Drawn}{tk:Nat}{os:OsState}{C x:Addr}{bmB:List Value}{B nid initId:String}{K:W.Frag}
def x7i:List Value->Bool
 | .ref _::r=>x7i r
 | l=>l == [.type "ValueError",.type "Exception",.type "BaseException",.type "object"]
structure AtX (K:W.Frag) (C:Addr):Prop where
 over:(W.clsIn K C).any (λ cd=>cd.hasDict && x7i cd.mro)=true
 sa:W.findIn K (.ref C) "__setattr__"=some (some (.builtin "object.__setattr__"))
 ga:W.findIn K (.ref C) "__getattribute__"=some (some (.builtin "BaseException.__getattribute__"))
theorem AtX.cls (a:AtX K C):∃cd,W.clsIn K C=some cd/\cd.hasDict=true/\x7i cd.mro=true:=by
 obtain ⟨cd,hc,q⟩:=W.any_some a.over
 rw [Bool.and_eq_true] at q
 exact ⟨cd,hc,q.1,q.2⟩
end
def rm (H:Hp) (a:Addr):Hp:=λ b=>if b=a then none else H b
section
variable {P:Program}{w:World}{K:W.Frag}{mg:Str->Option Value}{base:Heap}{N:List Str}{qual:Str}{scope:Scope}{f:Addr}{cd:Value}{A:Around}{outer:List Env}{s:Shared}{H:Hp}{E:XK}
end
section
variable {M:Model}{A:Around}{E:Value->Shared->Prop}{env:Env}{C:Addr}{bmB:List Value}{nid:String}
end
structure MkX (K:W.Frag) (C f:Addr) (bmB:List Value) (nid:String):Prop where
 cls:w6b K C bmB nid=true
 init:W.findIn K (.ref C) "__init__"=some (some (.ref f))
 fn:W.isFn K (.ref f)=true
 kp:W.keepIn K (.ref C)=true
def x5w (C:Addr) (sp:Sp) (Ex:XK) (t:TA):TS:=λ _ σ H=>t σ H λ vs H1=>vs.length≤sizeLine/\∀a,H1 a=none ->
 sp (.ref a::vs) (upd H1 a (x9e a C none)) (λ v H2=>v=.non/\∃dx,H2 a=some (x9e a C (some dx))/\Ex (.ref C) (some dx) (rm H2 a)) E0
end L2
namespace L2
open PySem PySem.Spec PyProof.Rows PySem.W
def w6i (a C d:Addr):HO:=.ext λ h=>∃o vs,h.get? a=some o/\o.cls=.ref C/\o.data=.fields vs/\o.dict=some d
section
variable {X:Cx}{o e value:Expr}{f:Str}{pos pos' tpos:Pos}{ta tv:TE}
def x9o (K:W.Frag) (bm:List Value) (nid:String) (t:TA):TE:=λ σ H Q=>t σ H λ vs H1=>∃a C d ws,vs=.ref a::ws/\H1 a=some (x9e a C d)/\w6b K C bm nid=true/\ws.length≤sizeLine/\Q .non H1
def w6w (K:W.Frag) (ta tv:TE) (f:Str):TS:=λ D σ H=>tv σ H λ y H1=>ta σ H1 λ x H2=>∃a C,x=.ref a/\H2 a=some (x9e a C none)/\AtX K C/\NoAttr K C f /\
 ∀dx,H2 dx=none->dx≠a->D.nx σ (upd (upd H2 dx (w3c dx [(f,y)])) a (x9e a C (some dx)))
def w6v (K:W.Frag) (ta tv:TE) (f:Str):TS:=λ D σ H=>tv σ H λ y H1=>ta σ H1 λ x H2=>∃a C dx fs,x=.ref a/\H2 a=some (x9e a C (some dx))/\H2 dx=some (w3c dx fs)/\AtX K C/\NoAttr K C f/\fs.length < 1000 /\
 D.nx σ (upd H2 dx (w3c dx (z9u f y fs)))
def w3f (K:W.Frag) (ta:TE) (f:Str):TE:=λ σ H Q=>ta σ H λ x H1=>∃a C d fs v,x=.ref a/\H1 a=some (w6i a C d)/\H1 d=some (w3c d fs)/\AtX K C/\NoAttr K C f/\NoAttr K C "__getattr__" /\ fs.lookup f=some v/\Q v H1
end
def x1q (C:Addr) (i:Nat) (ts:TS) (D:Ends):St->XK:=λ σ1 cls d H1=>cls=.ref C/\∃dx,d=some dx/\∀a,H1 a=none->ts (z4o D i) (σ1.set i (some (.ref a))) (upd H1 a (w6i a C dx))
def w3h (C:Addr) (i:Nat) (tb:(St->XK)->TS) (ts:TS):TS:=λ D σ H=>tb (x1q C i ts D) D σ H
def CompZI (K:PySem.W.Frag) (k:Nat) (js:List Nat) (g:TG) (tc:TT) (te:TE) (σ:St) (vs:List V) (H1:Hp) (Q:VK):Prop:=∃a b xs ys,vs=[.ref a,.ref b]/\SqT K H1 a xs/\SqT K H1 b ys/\∃W:Nat->Nat->List V->St->Hp->Prop,(∃m,W 0 m [] (z1l k js σ) H1)/\∀i m zs σ' H',W i m zs σ' H' ->
  ((Itz K a b).stop i H'/\∀p,H' p=none->Q (.ref p) (upd H' p (.lst zs))) \/
  ((Itz K a b).go i H'/\zs.length < sizeLine/\∃N:List V->St->Hp->Prop,(∀zs σ2 H2,N zs σ2 H2->∃m',m' < m/\W (i+1) m' zs σ2 H2)/\∀x H2,(Itz K a b).yld i H' x H2->g x σ' H2 λ σ3 H3=>tc σ3 H3 λ b H4=>if b=true then te σ3 H4 λ v H5=>N (zs++[v]) σ3 H5 else N zs σ3 H4)
theorem x1f {K:W.Frag}{k:Nat}{js:List Nat}{ta:TA}{g:TG}{tc:TT}{te:TE}{σ:St}{H:Hp}{Q:VK}:z4q (w2x K ta) k js g tc te σ H Q=ta σ H λ vs H1=>CompZI K k js g tc te σ vs H1 Q:=rfl
theorem CompZI.mk {K:W.Frag}{a b:Addr}{xs ys:List V}{k:Nat}{js:List Nat}{g:TG}{tc:TT}{te:TE}{Q:VK}{σ:St}{H:Hp}(n:Nat) (hn:n=min xs.length ys.length) (h1:SqT K H a xs) (h2:SqT K H b ys) (Pv:Nat->List V->St->Hp->Prop) (h0:Pv 0 [] (z1l k js σ) H) (hl:∀i zs σ H,i≤n->Pv i zs σ H->SqT K H a xs/\SqT K H b ys/\zs.length < sizeLine)
  (hs:∀i x y zs σ H T,i < n->xs[i]?=some x->ys[i]?=some y->Pv i zs σ H->H T=none->g (.ref T) σ (upd H T (.tup [x,y])) λ σ3 H3=>tc σ3 H3 λ b H4=>if b=true then te σ3 H4 λ v H5=>Pv (i+1) (zs++[v]) σ3 H5 else Pv (i+1) zs σ3 H4) (hz:∀zs σ H,Pv n zs σ H->∀p,H p=none->Q (.ref p) (upd H p (.lst zs))) :
  CompZI K k js g tc te σ [.ref a,.ref b] H Q:=by
 subst hn
 refine ⟨a,b,xs,ys,rfl,h1,h2,λ i m zs σ H=>m=min xs.length ys.length - i/\i≤min xs.length ys.length/\Pv i zs σ H,⟨_,rfl,Nat.zero_le _,h0⟩,?_⟩
 rintro i m zs σ H ⟨rfl,hi,p⟩
 obtain ⟨k1,k2,k3⟩:=hl i zs σ H hi p
 by_cases hlt:i < min xs.length ys.length
 ·have l1:i < xs.length:=by lia
  have l2:i < ys.length:=by lia
  refine .inr ⟨⟨xs,ys,_,_,k1,k2,List.getElem?_eq_getElem l1,List.getElem?_eq_getElem l2⟩,k3,Pv (i+1),λ zs' σ' H' p'=>⟨min xs.length ys.length - (i+1),by lia,rfl,hlt,p'⟩,λ v H' yy=>?_⟩
  obtain ⟨T,x,y,rfl,hT,rfl,ex⟩:=yy
  obtain ⟨ex1,ex2⟩:=ex xs ys k1 k2
  exact hs i x y zs σ H T hlt ex1 ex2 p hT
 ·have e:i=min xs.length ys.length:=by lia
  exact .inl ⟨⟨xs,ys,k1,k2,by lia⟩,hz zs σ H (e ▸ p)⟩
structure CalM (P:Program) (w:World) (K:W.Frag) (mg:Str->Option Value) (base:Heap) (CX:CXT) (k:Nat) (C:Addr) (m:Str) (ps:List Str) (sp:Sp):Prop where
 has:∃(f:Addr) (fd:FuncData),FnOk P w K mg base CX k f fd ps sp/\Meth K C m f/\Binds K fd ps []
theorem CalM.mono {P:Program}{w:World}{K:W.Frag}{mg:Str->Option Value}{base:Heap}{CX:CXT}{j k:Nat}{C:Addr}{m:Str}{ps:List Str}{sp:Sp}(c:CalM P w K mg base CX j C m ps sp) (h:j≤k):CalM P w K mg base CX k C m ps sp :=
 let ⟨f,fd,ok,m,b⟩:=c.has;⟨⟨f,fd,ok.mono h,m,b⟩⟩
structure MakC (P:Program) (w:World) (K:W.Frag) (mg:Str->Option Value) (base:Heap) (CX:CXT) (k:Nat) (C:Addr) (x:Str) (ps:List Str) (sp:Sp):Prop where
 has:∃(f:Addr) (fd:FuncData),FnOk P w K mg base CX k f fd ps sp/\Mk K C f/\Binds K fd ps []/\mg x=some (.ref C)
theorem MakC.mono {P:Program}{w:World}{K:W.Frag}{mg:Str->Option Value}{base:Heap}{CX:CXT}{j k:Nat}{C:Addr}{x:Str}{ps:List Str}{sp:Sp}(c:MakC P w K mg base CX j C x ps sp) (h:j≤k):MakC P w K mg base CX k C x ps sp :=
 let ⟨f,fd,ok,m,b,g⟩:=c.has;⟨⟨f,fd,ok.mono h,m,b,g⟩⟩
section
variable {X:Cx}{CX:CXT}{k:Nat}{f C:Addr}{fd:FuncData}{ps:List Str}{sp:Sp}{dvs:List V}{ds:List Value}{E:XK}{EE:St->XK}{x m:Str}{p pos apos:Pos}{e o:Expr}{es:List Expr}{ta:TE}{t:TA}
def y7k (C:Addr) (m:Str) (sp:Sp) (EE:St->XK) (ta:TE) (t:TA):TE:=λ σ H Q=>ta σ H λ x H1=>∃a dx fs,x=.ref a/\H1 a=some (.ins C dx fs)/\fs.lookup m=none/\t σ H1 λ vs H2=>sp (x::vs) H2 Q (EE σ)
def x5c (C:Addr) (sp:Sp) (EE:St->XK) (t:TA):TE:=λ σ H Q=>t σ H λ vs H1=>∀x dx,H1 x=none->H1 dx=none->dx≠x->sp (.ref x::vs) (upd (upd H1 dx (.own x)) x (.ins C dx [])) (λ v H2=>v=.non/\Q (.ref x) H2) (EE σ)
theorem y8l {pins:List (Addr × Obj)}{σ:St}{H:Hp}{s:Shared}{Q:VK}{us:List Value}{vs:List V}(F:FnOk X.prog X.w X.K X.mg X.base CX k f fd ps sp) (hr:Room k X.A) (hb:Binds X.K fd ps []) (hx:∀σ,z3x CX X (EE σ) σ)
  (I:Inv X pins σ H s) (r:Vals vs us) (h:sp vs H Q (EE σ)):wpAny (model X.prog X.w) X.A (call (.ref f) us) (EP X pins σ Q) X.xe s:=by
 have hl:(us++[]).length=ps.length:=by rw [List.append_nil,← r.length];exact F.len _ _ _ _ h
 refine wpAny_call (codeAny_mono (F.run X.A X.stack s H ⟨us,[]⟩ (us++[]) vs Q (EE σ) hr I.env0 (hb s us I.kIn hl) (by rw [List.append_nil];exact r) h) λ r s' hq=>?_)
 cases r with
 | error e=>exact hx σ pins H s e s' I hq
 | ok fl =>
  cases fl with
  | ret u=>exact I.after hq
  | next=>exact False.elim hq
  | brk=>exact False.elim hq
  | cont=>exact False.elim hq
theorem y9e {pl:Sem Bool}(c:Cls X.K C) (h:CalM X.prog X.w X.K X.mg X.base CX k C m ps sp) (hr:Room k X.A) (hx:z3o CX X E) (he:PE X o ta) (ha:PA X (e::es) t)
  (hst:starEach (e::es) X.env=(false,eval e X.env)::starEach es X.env:=by rfl) (hpl:(backTo pos (starEach es X.env)).any (·.1)=false:=by rfl)
  (ht:eval (.Call (.Attribute o m apos) (e::es) [] pos) X.env=(do
   let ov ← eval o X.env
   standAt apos.atName
   let (f,first) ← holding [ov] (getMethod ov m pl)
   callWith pos f first (backTo pos (starEach (e::es) X.env)) (backToKw pos (keywordEach [] X.env))):=by rfl) :
  PE X (.Call (.Attribute o m apos) (e::es) [] pos) (y7l C m sp [] E ta t):=by
 obtain ⟨f,fd,F,hm,hb⟩:=h.has
 exact x7a he c hm F hr hb .nil hx ha hst hpl ht
theorem z9x {pl:Sem Bool}(c:Cls X.K C) (h:CalM X.prog X.w X.K X.mg X.base CX k C m ps sp) (hr:Room k X.A) (hx:z3o CX X E) (he:PE X o ta)
  (ht:eval (.Call (.Attribute o m apos) [] [] pos) X.env=(do
   let ov ← eval o X.env
   standAt apos.atName
   let (f,first) ← holding [ov] (getMethod ov m pl)
   callWith pos f first (backTo pos (starEach [] X.env)) (backToKw pos (keywordEach [] X.env))):=by rfl) :
  PE X (.Call (.Attribute o m apos) [] [] pos) (y7l C m sp [] E ta x9m):=by
 obtain ⟨f,fd,F,hm,hb⟩:=h.has
 exact x2t he c hm F hr hb .nil hx ht
theorem x7b {pl:Sem Bool}(c:Cls X.K C) (h:CalM X.prog X.w X.K X.mg X.base CX k C m ps sp) (hr:Room k X.A) (hx:∀σ,z3x CX X (EE σ) σ) (he:PE X o ta) (ha:PA X (e::es) t)
  (hst:starEach (e::es) X.env=(false,eval e X.env)::starEach es X.env:=by rfl) (hpl:(backTo pos (starEach es X.env)).any (·.1)=false:=by rfl)
  (ht:eval (.Call (.Attribute o m apos) (e::es) [] pos) X.env=(do
   let ov ← eval o X.env
   standAt apos.atName
   let (f,first) ← holding [ov] (getMethod ov m pl)
   callWith pos f first (backTo pos (starEach (e::es) X.env)) (backToKw pos (keywordEach [] X.env))):=by rfl) :
  PE X (.Call (.Attribute o m apos) (e::es) [] pos) (y7k C m sp EE ta t):=by
 obtain ⟨f,fd,F,hm,hb⟩:=h.has
 intro pins s σ H Q I h
 refine W.methodCall_KW (pl:=pl) (thn (he pins s σ H _ I h) λ u s1 ⟨x,H1,I1,rx,a,dx,fs,ex,ea,l,q⟩=>?_) ht
 subst ex
 obtain rfl:u=Value.ref a:=rx
 refine z4p I1 ea c hm l ?_
 refine W.callWith_K (first:=[.ref a]) (h₀:=X.base) I.ok.mod.kin hm.kp (thn (ha pos pins s1 σ H1 _ I1 q) λ us s2 ⟨vs,H2,I2,r,q2⟩=>⟨I2.kIn,?_⟩) hst hpl
 exact y8l (us:=.ref a::us) (vs:=.ref a::vs) F hr hb hx I2 (.cons rfl r) q2
theorem x2u {pl:Sem Bool}(c:Cls X.K C) (h:CalM X.prog X.w X.K X.mg X.base CX k C m ps sp) (hr:Room k X.A) (hx:∀σ,z3x CX X (EE σ) σ) (he:PE X o ta)
  (ht:eval (.Call (.Attribute o m apos) [] [] pos) X.env=(do
   let ov ← eval o X.env
   standAt apos.atName
   let (f,first) ← holding [ov] (getMethod ov m pl)
   callWith pos f first (backTo pos (starEach [] X.env)) (backToKw pos (keywordEach [] X.env))):=by rfl) :
  PE X (.Call (.Attribute o m apos) [] [] pos) (y7k C m sp EE ta x9m):=by
 obtain ⟨f,fd,F,hm,hb⟩:=h.has
 intro pins s σ H Q I h
 refine W.methodCall_KW (pl:=pl) (thn (he pins s σ H _ I h) λ u s1 ⟨x,H1,I1,rx,a,dx,fs,ex,ea,l,q⟩=>?_) ht
 subst ex
 obtain rfl:u=Value.ref a:=rx
 refine z4p I1 ea c hm l ?_
 exact W.callWith_K0 (first:=[.ref a]) I1.kIn hm.kp (y8l (us:=[.ref a]) (vs:=[.ref a]) F hr hb hx I1 (.cons rfl .nil) q)
theorem w1c (h:MakC X.prog X.w X.K X.mg X.base CX k C x ps sp) (hr:Room (k+1) X.A) (hg:Gl X x) (hx:z3o CX X E) (ha:PA X (e::es) t)
  (hdb:(x == ("__debug__" : Str))=false:=by decide) (he:starEach (e::es) X.env=(false,eval e X.env)::starEach es X.env:=by rfl) (hpl:(backTo pos (starEach es X.env)).any (·.1)=false:=by rfl) :
  PE X (.Call (.Name x p) (e::es) [] pos) (x5x C sp [] E t):=by
 obtain ⟨f,fd,F,M,hb,hm⟩:=h.has
 exact x7c M F hr hg hm hb .nil hx ha hdb he hpl
theorem y8k {pins:List (Addr × Obj)}{σ:St}{H:Hp}{s:Shared}{Q:VK}{us:List Value}{vs:List V}(M:Mk X.K C f) (F:FnOk X.prog X.w X.K X.mg X.base CX k f fd ps sp) (hr:Room (k+1) X.A) (hb:Binds X.K fd ps [])
  (hx:∀σ,z3x CX X (EE σ) σ) (I:Inv X pins σ H s) (r:Vals vs us)
  (h:∀x dx,H x=none->H dx=none->dx≠x->sp (.ref x::vs) (upd (upd H dx (.own x)) x (.ins C dx [])) (λ v H2=>v=.non/\Q (.ref x) H2) (EE σ)) :
  wpAny (model X.prog X.w) X.A (call (.ref C) us) (EP X pins σ Q) X.xe s:=by
 have hq:=h (s.heap.objs.size+1) s.heap.objs.size (I.hok.fresh (Nat.le_succ _)) (I.hok.fresh (Nat.le_refl _)) (Nat.ne_of_lt (Nat.lt_succ_self _))
 have I2:=Inv.made (C:=C) I
 have r2:Vals (V.ref (s.heap.objs.size+1)::vs) (Value.ref (s.heap.objs.size+1)::us):=.cons rfl r
 have hl:(Value.ref (s.heap.objs.size+1)::us++[]).length=ps.length:=by
  have e:=r2.length
  rw [F.len _ _ _ _ hq] at e
  rw [List.append_nil]
  exact e.symm
 refine wpAny_call (y4l (f:=f) I.kIn M.makes M.init (beq_iff_eq.mp M.fn) (codeAny_mono (F.run _ X.stack _ _ ⟨Value.ref (s.heap.objs.size+1)::us,[]⟩ (Value.ref (s.heap.objs.size+1)::us++[]) _ _ (EE σ) (hr.make C us [])
  (I2.env0.make C us []) (hb _ (Value.ref (s.heap.objs.size+1)::us) I2.kIn hl) (by rw [List.append_nil];exact r2) hq) λ r s' hq'=>?_))
 cases r with
 | error e=>exact hx σ pins _ _ e s' I2 hq'
 | ok fl =>
  cases fl with
  | ret u =>
   obtain ⟨v,H',I3,rv,ev,q3⟩:=I2.after hq'
   subst ev
   exact ⟨rv,⟨V.ref (s.heap.objs.size+1),H',I3,rfl,q3⟩⟩
  | next=>exact False.elim hq'
  | brk=>exact False.elim hq'
  | cont=>exact False.elim hq'
theorem x7d (h:MakC X.prog X.w X.K X.mg X.base CX k C x ps sp) (hr:Room (k+1) X.A) (hg:Gl X x) (hx:∀σ,z3x CX X (EE σ) σ) (ha:PA X (e::es) t)
  (hdb:(x == ("__debug__" : Str))=false:=by decide) (he:starEach (e::es) X.env=(false,eval e X.env)::starEach es X.env:=by rfl) (hpl:(backTo pos (starEach es X.env)).any (·.1)=false:=by rfl) :
  PE X (.Call (.Name x p) (e::es) [] pos) (x5c C sp EE t):=by
 obtain ⟨f,fd,F,M,hb,hm⟩:=h.has
 intro pins s σ H Q I h
 refine wpAny_Call_Name_kw (z4i I hg hm ?_ hdb)
 refine W.callWith_K (h₀:=X.base) I.ok.mod.kin M.kp (thn (ha pos pins s σ H _ I h) λ us s1 ⟨vs,H1,I1,r,q⟩=>⟨I1.kIn,?_⟩) he hpl
 exact y8k M F hr hb hx I1 r q
end
section
variable {X:Cx}
abbrev x3f (ns:List Int):List Int:=firstMet (λ i=>ns.getD i 0) ns.length
theorem x1r (hc:X.calm=true):CallR X (.type "set") (λ xs H Q=>∃p ns,xs=[.ref p]/\SqL X.K H p (List.map V.int ns)/\ns.length≤1000/\∀l,H l=none->Q (.ref l) (upd H l (.set (λ k'=>(x3f ns).any λ x=>x == k') (x3f ns).length))):=by
 intro pins s σ H xs us Q I r h
 obtain ⟨p,ns,rfl,hq,hn,q⟩:=h
 obtain ⟨u,rfl,rx⟩:=z5f r
 cases rx
 obtain ⟨its,r',pl,hz⟩:=I.list hq
 have hi:=z8q r'
 have hl:its.toArray.size=ns.length:=by rw [List.size_toArray];have:=hi.length;simpa using this
 refine call_set_list (I.ok.hd hc) pl.isList hi (by rw [hl];exact Nat.lt_of_le_of_lt (Nat.succ_le_succ hn) (by decide)) λ h' tk so ol=>?_
 rw [hl] at so
 exact ⟨.ref s.heap.objs.size,_,I.laid (a:=s.heap.objs.size) (o:=.set (λ k'=>(x3f ns).any λ x=>x == k') (x3f ns).length) (h':=h') (t':=tk) (λ b o e=>ol b o (Heap.lt_size e) e) (Nat.le_refl _) so,rfl,q _ (I.hok.fresh (Nat.le_refl _))⟩
theorem x1t:CallR X (.builtin "len") (λ xs H Q=>∃a S n,xs=[.ref a]/\H a=some (.set S n)/\Q (.int (n:Nat)) H):=by
 intro pins s σ H xs us Q I r h
 obtain ⟨a,S,n,rfl,ha,q⟩:=h
 obtain ⟨u,rfl,rx⟩:=z5f r
 cases rx
 obtain ⟨o,es,ep,t,h1,h2,h3,_,_,h6,h7,h8⟩:=(show Heap.SetOf (intKind X.prog X.w) s.heap a S n from I.hok a _ ha)
 subst h8
 exact call_len_set h1 h2 h3 h7 (Int.lt_trans (Int.ofNat_lt.mpr h6) (by decide)) ⟨.int es.size,H,I.tok _,⟨_,rfl⟩,q⟩
theorem y0g:MtR X "list.clear" y8s:=x3e
end
theorem w0h {l:Addr}{x:Value}{zs:Array Value}{n j:Nat}{f:Value->Bool}(jl:j < zs.size) (yes:f zs[j]=true) (sz:zs.size≤sizeLine) :
  ∀(m i:Nat),j - i=m->i≤j->(∀t (ht:t < zs.size),i≤t->t < j->f zs[t]=false) ->
   Meets (Builtin.«list.remove.loop» ⟨[.ref l,x,rawInt i],[]⟩) (λ A R s=>s.heap.get? l=some ⟨.type "list",none,.seq zs n,#[]⟩/\(∀y,y∈zs->SeqAt.EqAt A.in1 s y x (f y))/\R (.ok (.ret .none)) { s with heap:=s.heap.update l (Obj.mapSeq λ u=>u.eraseIdxIfInBounds j) }):=by
 intro m
 induction m with
 | zero =>
  intro i mi ij no prog w A R s c
  obtain ⟨c0,c1,c2,c3,c4⟩:=s
  obtain ⟨g,q,c⟩:=c
  obtain rfl:i=j:=by lia
  wp_walk using AutoSeq1.wpAny_loadPart' g
  have at0:zs[((i:Nat):Int).toNat]?=some zs[i]:=by simp [jl]
  rw [at0]
  refine wpAny_bind (q _ (Array.getElem_mem jl) prog w _ _ ?_)
  rw [yes]
  have le1:(zs.eraseIdxIfInBounds i).size≤sizeLine+1:=Nat.le_trans (MeetsSeq.size_erased zs _) (Nat.le_succ_of_le sz)
  wp_walk using (wpAny_updateSeq g rfl (hz:=sz) (_hz':=le1)),AutoSeq1.wpAny_loadPart' g
  simpa using c
 | succ m ih =>
  intro i mi ij no prog w A R s c
  obtain ⟨c0,c1,c2,c3,c4⟩:=s
  obtain ⟨g,q,c⟩:=c
  have il:i < zs.size:=by lia
  wp_walk using AutoSeq1.wpAny_loadPart' g
  have at0:zs[((i:Nat):Int).toNat]?=some zs[i]:=by simp [il]
  have up1:((i:Int)+1)=((i+1:Nat):Int):=by lia
  rw [at0]
  refine wpAny_bind (q _ (Array.getElem_mem il) prog w _ _ ?_)
  rw [no i il (Nat.le_refl _) (by lia)]
  wp_walk
  rw [up1]
  refine ⟨plainId_quiet MeetsSeq.plain_remove_loop _,codeAny_builtin MeetsSeq.entry_remove_loop ?_⟩
  rw [Around.under_plainId MeetsSeq.plain_remove_loop _]
  exact ih (i+1) (by lia) (by lia) (λ t ht a b=>no t ht (by lia) b) prog w A R _ ⟨g,q,c⟩
theorem x6p {l:Addr}{x:Value}{zs:Array Value}{n j:Nat}{f:Value->Bool}(jl:j < zs.size) (yes:f zs[j]=true) (sz:zs.size≤sizeLine) (no:∀t (ht:t < zs.size),t < j->f zs[t]=false) :
  Meets (Builtin.«list.remove» ⟨[.ref l,x],[]⟩) (λ A R s=>s.heap.get? l=some ⟨.type "list",none,.seq zs n,#[]⟩/\(∀y,y∈zs->SeqAt.EqAt A.in1 s y x (f y))/\R (.ok (.ret .none)) { s with heap:=s.heap.update l (Obj.mapSeq λ u=>u.eraseIdxIfInBounds j) }):=by
 intro prog w A R s c
 obtain ⟨c0,c1,c2,c3,c4⟩:=s
 obtain ⟨g,q,c⟩:=c
 wp_walk using AutoSeq1.wpAny_loadPart' g
 refine ⟨plainId_quiet MeetsSeq.plain_remove_loop _,codeAny_builtin MeetsSeq.entry_remove_loop ?_⟩
 rw [Around.under_plainId MeetsSeq.plain_remove_loop _]
 exact w0h jl yes sz _ 0 rfl (Nat.zero_le _) (λ t ht _ b=>no t ht b) prog w A R _ ⟨g,q,c⟩
section
variable {X:Cx}
def x5v (H:Hp) (xs:List V) (u:Value):Bool:=match u with
 | .ref p=>(match H p with | some (.tup zs)=>y3k zs xs | _=>false)
 | _=>false
theorem y3w:∀ {ps:List Addr}{us:List Value},Vals (ps.map V.ref) us->us=ps.map Value.ref
 | [],_,r=>by rw [List.map_nil] at r;cases r;rfl
 | p::ps,_,r=>by
  rw [List.map_cons] at r
  cases r with
  | cons h t=>cases h;rw [y3w t];rfl
theorem y0q:∀ps:List Addr,Vals (ps.map V.ref) (ps.map Value.ref)
 | []=>.nil
 | _::ps=>.cons rfl (y0q ps)
theorem z5u:∀ {xs:List V},xs.all z1r=true->y3k xs xs=true
 | [],_=>rfl
 | x::xs,h=>by
  rw [List.all_cons,Bool.and_eq_true] at h
  show (eqV x x && y3k xs xs)=true
  rw [y0m h.1,z5u h.2];rfl
def y8q:V->List V->Hp->VK->Prop:=λ x ys H Q=>∃(a b:Addr) (ps:List Addr) (xs:List V) (j:Nat),x=.ref a/\ys=[.ref b]/\H a=some (.lst (ps.map V.ref))/\H b=some (.tup xs)/\xs.all z1r=true/\(∀p∈ps,∃zs,H p=some (.tup zs)/\zs.all z1r=true) /\
 (∃p,ps[j]?=some p/\H p=some (.tup xs))/\(∀m p zs,m < j->ps[m]?=some p->H p=some (.tup zs)->y3k zs xs=false)/\Q .non (upd H a (.lst ((ps.eraseIdx j).map V.ref)))
theorem y9w (hu:X.A.units+1 < cLine):MtR X "list.remove" y8q:=by
 intro pins s σ H x ys v us Q I rx rv h
 obtain ⟨a,b,ps,xs,j,rfl,rfl,ha,hb,fx,hp,⟨pj,ej,hj⟩,hn,q⟩:=h
 cases rx
 obtain ⟨u,rfl,ru⟩:=z5f rv
 cases ru
 obtain ⟨z,its,n,r,hl,e⟩:=I.lstM ha
 obtain rfl:=y3w r
 have jl:=(List.getElem?_eq_some_iff.mp ej).1
 rw [List.length_map] at z
 refine call_meets F.slot_list_remove ⟨_,e,rfl⟩ F.entry_list_remove (F.args_list_remove_2 _ _) (x6p (j:=j) (f:=x5v H xs) (by simpa using jl) ?_ (by simpa using z) ?_) ⟨e,λ y hy=>?_,?_⟩
 ·rw [List.getElem?_eq_getElem jl] at ej
  cases Option.some.inj ej
  simp only [List.getElem_toArray,List.getElem_map,x5v,hj]
  exact z5u fx
 ·intro t ht tj
  have tl:t < ps.length:=by simpa using ht
  obtain ⟨zs,e1,_⟩:=hp _ (List.getElem_mem tl)
  simp only [List.getElem_toArray,List.getElem_map,x5v,e1]
  exact hn t _ zs tj (List.getElem?_eq_getElem tl) e1
 ·obtain ⟨p,hpm,rfl⟩:=List.mem_map.mp (by simpa using hy:y∈ps.map Value.ref)
  obtain ⟨zs,e1,fz⟩:=hp p hpm
  by_cases pb:p=b
  ·subst pb
   rw [hb] at e1
   cases e1
   have:x5v H xs (.ref p)=true:=by simp only [x5v,hb];exact z5u fx
   rw [this]
   exact SeqAt.EqAt.same _
  ·obtain ⟨us1,r1,p1,_⟩:=I.tuple (.of e1)
   obtain ⟨us2,r2,p2,_⟩:=I.tuple (.of hb)
   refine SeqAt.EqAt.of_refs pb ?_
   have w:=SeqAt.RcAt.tuples (A:=X.A.in1) (show s.heap.IsTuple p us1.toArray from p1) (show s.heap.IsTuple b us2.toArray from p2) (e:=z8k zs xs) (by show X.A.units+1 < cLine;lia) (y4q r1 r2 fz fx)
   have e1':us1.toArray.size=zs.length:=by simp [r1.length]
   have e2':us2.toArray.size=xs.length:=by simp [r2.length]
   rw [e1',e2'] at w
   have k:((List.range (min zs.length xs.length)).all (z8k zs xs) && zs.length == xs.length)=x5v H xs (.ref p):=by
    simp only [x5v,e1]
    by_cases hl:zs.length=xs.length
    ·rw [← hl,Nat.min_self,y0l hl];simp
    ·rw [y0k hl];simp [hl]
   rw [k] at w
   exact w
 ·refine ⟨.non,_,I.lset (its':=(ps.eraseIdx j).map Value.ref) ha e ?_ ?_ ?_,rfl,q⟩
  ·apply Array.ext'
   simp [Array.eraseIdxIfInBounds,jl,List.eraseIdx_eq_take_drop_succ,List.map_append,List.map_take,List.map_drop]
  ·exact y0q _
  ·rw [List.length_map]
   exact Nat.le_trans (List.length_eraseIdx_le _ _) z
def y8r (K:W.Frag):V->List V->Hp->VK->Prop:=λ x ys H Q=>∃a xs y,x=.ref a/\ys=[y]/\SqL K H a xs/\xs.all z1r=true/\z1r y=true/\Q (.int (xs.countP λ z=>eqV z y)) H
theorem y9x:MtR X "list.count" (y8r X.K):=by
 intro pins s σ H x ys v us Q I rx rv h
 obtain ⟨a,xs,y,rfl,rfl,ha,hfl,fy,q⟩:=h
 cases rx
 obtain ⟨u,rfl,ru⟩:=z5f rv
 obtain ⟨its,r',pl,zl⟩:=I.list ha
 obtain ⟨⟨oc,od,odt,osl⟩,g1,hc,n,hd⟩:=pl.isList
 simp only at hc hd
 subst hc hd
 refine call_meets F.slot_list_count ⟨_,g1,rfl⟩ F.entry_list_count (F.args_list_count_2 _ _) (SeqAt.list_countAt a its.toArray n od osl u (eqU y)) ⟨g1,λ w hw=>z4n ru fy r' hfl w (by simpa using hw),?_⟩
 refine ⟨.int _,H,I.tok _,⟨_,rfl⟩,?_⟩
 rw [show its.toArray.toList=its by simp,y1m r' hfl]
 exact q
end
end L2
namespace PySem.W.Fast
theorem tw18246175908108477190:True:=⟨⟩
theorem tw8387998448967583700:True:=⟨⟩
theorem tw9080812581710432947:True:=⟨⟩
theorem tw7968926561471166388:True:=⟨⟩
theorem tw15277119703782634073:True:=⟨⟩
theorem tw18136207791356094420:True:=⟨⟩
theorem tw15209870018769989877:True:=⟨⟩
theorem tw11239825130031763856:True:=⟨⟩
theorem tw15008616916740104838:True:=⟨⟩
theorem tw10769715489396266425:True:=⟨⟩
theorem tw11897682783348193523:True:=⟨⟩
theorem tw2027774159665397582:True:=⟨⟩
theorem tw12595095202636136837:True:=⟨⟩
theorem tw717974210413649750:True:=⟨⟩
theorem tw14869195910521827929:True:=⟨⟩
theorem tw17985769826615093134:True:=⟨⟩
theorem tw13352655735283209111:True:=⟨⟩
theorem tw8929545949061440826:True:=⟨⟩
theorem tw9134499523622595199:True:=⟨⟩
theorem tw4111410902296637066:True:=⟨⟩
theorem tw7188069772602373867:True:=⟨⟩
theorem tw11112653923422632666:True:=⟨⟩
theorem tw3794697424706905472:True:=⟨⟩
theorem tw13592123114765549016:True:=⟨⟩
theorem tw12351604062573347265:True:=⟨⟩
theorem tw6184027230526620896:True:=⟨⟩
theorem tw17393095381520577165:True:=⟨⟩
theorem tw1291957153398179098:True:=⟨⟩
theorem tw8171288870741448856:True:=⟨⟩
theorem tw9269813834634403817:True:=⟨⟩
theorem tw13684761354050124091:True:=⟨⟩
theorem tw1331453219785830820:True:=⟨⟩
theorem tw12019106832360284423:True:=⟨⟩
theorem tw16730338657766281869:True:=⟨⟩
theorem tw14685759336808536783:True:=⟨⟩
theorem tw9771179559602754091:True:=⟨⟩
theorem tw15869506222671077873:True:=⟨⟩
theorem tw3534158465140178592:True:=⟨⟩
theorem tw13943959726309117192:True:=⟨⟩
theorem tw8425539976152964428:True:=⟨⟩
theorem tw10515272677021077225:True:=⟨⟩
theorem tw14593853071292333937:True:=⟨⟩
theorem tw4096177838782394333:True:=⟨⟩
theorem tw15334170703494906895:True:=⟨⟩
theorem tw8174304606419020108:True:=⟨⟩
theorem tw9768247862295335495:True:=⟨⟩
theorem tw1528877428770034990:True:=⟨⟩
theorem tw7085680135348008791:True:=⟨⟩
theorem tw323955276755573915:True:=⟨⟩
theorem tw14278761686358508262:True:=⟨⟩
theorem tw13677015639331238374:True:=⟨⟩
theorem tw10309987135521114953:True:=⟨⟩
theorem tw7157771785485443817:True:=⟨⟩
theorem tw6451857789843044520:True:=⟨⟩
theorem tw14184965650069375146:True:=⟨⟩
theorem tw1549172017521250072:True:=⟨⟩
theorem tw354920423531368454:True:=⟨⟩
theorem tw16692168803208168106:True:=⟨⟩
theorem tw14853451563576633203:True:=⟨⟩
theorem tw8648469885412331860:True:=⟨⟩
theorem tw6914720630740691887:True:=⟨⟩
theorem tw328599815848475706:True:=⟨⟩
theorem tw9415085500443634197:True:=⟨⟩
theorem tw5390984798927535961:True:=⟨⟩
theorem tw13920500161313386127:True:=⟨⟩
theorem tw4991785795057208092:True:=⟨⟩
theorem tw7986928442232700835:True:=⟨⟩
theorem tw702742444996666588:True:=⟨⟩
theorem tw13052564208017986927:True:=⟨⟩
theorem tw17465460232167974613:True:=⟨⟩
theorem tw13401835942744143500:True:=⟨⟩
theorem tw8989859703135462259:True:=⟨⟩
theorem tw3733705866149399743:True:=⟨⟩
theorem tw14897445601695569802:True:=⟨⟩
theorem tw15451116030640787831:True:=⟨⟩
theorem tw4273750194445693793:True:=⟨⟩
theorem tw9882408858430318823:True:=⟨⟩
theorem tw12750798246827043094:True:=⟨⟩
theorem tw5500873945071107974:True:=⟨⟩
theorem tw3297572631193074280:True:=⟨⟩
theorem tw10930465745803080801:True:=⟨⟩
theorem tw11260163506541370248:True:=⟨⟩
theorem tw4970607731304974772:True:=⟨⟩
theorem tw5868485247567421323:True:=⟨⟩
theorem tw2234135780397523217:True:=⟨⟩
theorem tw10785224844356876934:True:=⟨⟩
theorem tw11324804414049633286:True:=⟨⟩
theorem tw7020511597128524373:True:=⟨⟩
theorem tw16556940434608531444:True:=⟨⟩
theorem tw17745772486779437730:True:=⟨⟩
theorem tw17604241558688690978:True:=⟨⟩
theorem tw4957880948993428113:True:=⟨⟩
theorem tw12791576488650657461:True:=⟨⟩
theorem tw17461867344937224911:True:=⟨⟩
theorem tw5821335352968478256:True:=⟨⟩
theorem tw9999599969816735810:True:=⟨⟩
theorem tw13916035771133064752:True:=⟨⟩
theorem tw11306552338775309462:True:=⟨⟩
theorem tw10204840534794537813:True:=⟨⟩
theorem tw6135750553588794703:True:=⟨⟩
theorem tw1926356882918452240:True:=⟨⟩
theorem tw9304558264912535376:True:=⟨⟩
theorem tw6305616347627742524:True:=⟨⟩
theorem tw5899093467510012526:True:=⟨⟩
theorem tw10176890880636653280:True:=⟨⟩
theorem tw10922479152082356009:True:=⟨⟩
theorem tw1735222125033531794:True:=⟨⟩
theorem tw12140456047429870045:True:=⟨⟩
theorem tw5462825630601525638:True:=⟨⟩
theorem tw10638735747428123231:True:=⟨⟩
theorem tw9940809674768725432:True:=⟨⟩
theorem tw9510624168432393441:True:=⟨⟩
theorem tw1981513930477370709:True:=⟨⟩
theorem tw13828155423731646486:True:=⟨⟩
theorem tw11867355688878251859:True:=⟨⟩
theorem tw11273146482656306062:True:=⟨⟩
theorem tw2902588574542526388:True:=⟨⟩
theorem tw2176232332667015001:True:=⟨⟩
theorem tw5594983197542827599:True:=⟨⟩
theorem tw10909551092306432873:True:=⟨⟩
theorem tw4384652335911916447:True:=⟨⟩
theorem tw9848728894944092820:True:=⟨⟩
theorem tw13134731531133096021:True:=⟨⟩
theorem tw14704708486420308703:True:=⟨⟩
theorem tw4729235785026767189:True:=⟨⟩
theorem tw1009959137634532847:True:=⟨⟩
theorem tw13792508033870238139:True:=⟨⟩
theorem tw15329943585826548601:True:=⟨⟩
theorem tw17541346230490850710:True:=⟨⟩
theorem tw2874140016779556394:True:=⟨⟩
theorem tw4484740971274521824:True:=⟨⟩
theorem tw12823159516541174126:True:=⟨⟩
theorem tw7307130266169877969:True:=⟨⟩
theorem tw3294007345619275830:True:=⟨⟩
theorem tw1309477771206465386:True:=⟨⟩
theorem tw8025263513473601084:True:=⟨⟩
theorem tw10657521631614817280:True:=⟨⟩
theorem tw6273641764822946875:True:=⟨⟩
theorem tw9607111640326250352:True:=⟨⟩
theorem tw16250878770475029052:True:=⟨⟩
theorem tw7419658374634840171:True:=⟨⟩
theorem tw14908726682706713604:True:=⟨⟩
theorem tw3784671388351123170:True:=⟨⟩
theorem tw14330710399294671809:True:=⟨⟩
theorem tw18095657574040767569:True:=⟨⟩
theorem tw18418346095864380685:True:=⟨⟩
theorem tw14756682965443428803:True:=⟨⟩
theorem tw17624442611375851959:True:=⟨⟩
theorem tw17327244373698103823:True:=⟨⟩
theorem tw11241032108615204072:True:=⟨⟩
theorem tw14012369157011278799:True:=⟨⟩
theorem tw3789161059409514180:True:=⟨⟩
theorem tw10698744563822489000:True:=⟨⟩
theorem tw4308277390530582766:True:=⟨⟩
theorem tw1912156791968514889:True:=⟨⟩
theorem tw10011662049881213071:True:=⟨⟩
theorem tw6747233285207102565:True:=⟨⟩
theorem tw5114579001184289281:True:=⟨⟩
theorem tw13137856818938733283:True:=⟨⟩
theorem tw13063663373738129615:True:=⟨⟩
theorem tw17393745172342921930:True:=⟨⟩
theorem tw1616902493500822089:True:=⟨⟩
theorem tw15105580099605371197:True:=⟨⟩
theorem tw3153185099737822952:True:=⟨⟩
theorem tw6842357540810233677:True:=⟨⟩
theorem tw6171769246549291063:True:=⟨⟩
theorem tw10456166827806407177:True:=⟨⟩
theorem tw16154816084269993561:True:=⟨⟩
theorem tw2828980491231294884:True:=⟨⟩
theorem tw11978420952409782969:True:=⟨⟩
theorem tw4326710195934628197:True:=⟨⟩
theorem tw1516668848345043828:True:=⟨⟩
theorem tw17563680081241348789:True:=⟨⟩
theorem tw3668207894738780185:True:=⟨⟩
theorem tw12937413603428538495:True:=⟨⟩
theorem tw6419453023940177141:True:=⟨⟩
theorem tw14780600441152448539:True:=⟨⟩
theorem tw12609127483677042809:True:=⟨⟩
theorem tw12372980380964044989:True:=⟨⟩
theorem tw16112060094982726663:True:=⟨⟩
theorem tw5500004542823547308:True:=⟨⟩
theorem tw8139867961584446187:True:=⟨⟩
theorem tw3969843805935149589:True:=⟨⟩
theorem tw9475893689309954000:True:=⟨⟩
theorem tw10199520730706804822:True:=⟨⟩
theorem tw10469013875254524140:True:=⟨⟩
theorem tw18084337356603456078:True:=⟨⟩
theorem tw12351331090167598676:True:=⟨⟩
theorem tw8890875607997858905:True:=⟨⟩
theorem tw3232807044833941984:True:=⟨⟩
theorem tw298501759438995543:True:=⟨⟩
theorem tw4234534126628218980:True:=⟨⟩
theorem tw12783595009965169542:True:=⟨⟩
theorem tw13061968103952812952:True:=⟨⟩
theorem tw37567478536518767:True:=⟨⟩
end PySem.W.Fast
namespace My
open PySem L2 PyProof.Rows
local macro_rules | `(tactic| wp_walk using $xs:term,*)=>`(tactic| simp only [w0p,w0w,w6t,x6r,x6s,w3k,w0q,w6s,x3w,x1d,x1h,w4k,w0s,w0r,w3t,w6z,x6t,w0k,w7a,w3u,x9s,w5h,w0e,x9r,w5m,x2p,x6q,w7e,w5o,x8c,x4p,x3y,x9j,y3t,y1q,w3l,w6r,x8e,w0v,x3v,x1c,x1g,x1l,x1i,x5w,w3h,x1q,w3f,x9o,w6w,w6v,x1f,y7k,x5c,y7l,x5x,w5g,w5l,y8s,y7m,x5d,y8q,y8r,x9q,y3y,x9t,x3x,x1e,w0y,x7z,x4n,w3w,tFR,w0n,w0j,w3v,w5i,tBM,tyV,x4c,w0m,x9i,y3s,y1p,x4r,x1m,w6y,w5n,x5a,w6p,x9v,y4u,z4o,y7h,w0z,w7d,w7c,x8a,x7y,x4m,x3z,x1j,w0x,w0l,tSl,y7j,x9l,w0o,w5y,w5p,w5d,w3i,x9n,w3g,tC,tOp,tUn,rI,rI0,rU,rEq,rNe,x9k,tB,w5e,w5k,tOr,w3m,w6q,w3j,tIf,x5z,tCB,x9m,x5y,x9u,w5f,w5c,x9a,z6g,x9p,x5b,w5q,w5s,w6l,CMul,w6m,w4y,w2w,L2.start,w3r,x8d,x8b,x4b,x4a,x4q,x4o,x1k,w2o,x4k,w1s,w1t,w1u,w1v,w1r,tyS,w5j,w2d,w2e,w5z,w5r,w7b,w0u,w0t,z1r,z0f,HO.lst.injEq,HO.tup.injEq,List.any_cons,List.any_nil,List.all_cons,List.all_nil,Bool.or_false,Bool.and_self,Bool.and_true,Bool.or_eq_true,beq_iff_eq,V.int.injEq,V.bl.injEq,V.str.injEq,V.ref.injEq,V.ty.injEq,List.map_cons,List.map_nil,List.length_cons,List.length_nil,List.cons_append,List.nil_append,List.getElem?_cons_zero,List.getElem?_cons_succ,Option.some.injEq,exists_eq_left',exists_eq_left,exists_and_left,List.cons.injEq,and_true,true_and,and_assoc,decide_eq_true_eq,List.set_cons_zero,List.set_cons_succ,List.replicate,Nat.sub_self,List.append_nil,Nat.add_sub_cancel,Nat.reduceAdd,Nat.reduceSub,Int.reduceLT,Int.reduceLE,Int.reduceNeg,Int.reduceSub,Int.reduceAdd,Int.reducePow,Int.reduceToNat,na2,w7i,Nat.reducePow,Nat.reduceLT,if_true,if_false,Bool.not_true,Bool.not_false,Bool.false_eq_true,List.mem_cons,List.not_mem_nil,eq_self,true_or,or_true,or_false,false_or,String.reduceEq,Option.isSome_some,ne_eq,not_false_eq_true,not_true_eq_false,Bool.not_eq_true',decide_eq_false_iff_not,Bool.true_eq_false,$[$xs:term],*])
def top (i:Nat):Stmt:=PySem.Challenge.pw_sideloom_k58_whole_rounds_that_wait.main.body.getD i (.Pass ⟨0,0,0,0⟩)
def z1t (ns:List Int):Int:=ns.foldl (λ a b=>a * b) 1
theorem y0z {ns:List Int}{i:Nat}{x:Int}(h:ns[i]?=some x):z1t (ns.take (i+1))=z1t (ns.take i) * x:=by
 unfold z1t
 rw [List.take_add_one,h,List.foldl_append]
 rfl
def x5e (ns:List Int):Prop:=∀n∈ns,0≤n/\n < 1000000000000000000
def w7h (n:Int):Int:=if n=0 then 1 else n
theorem x6g {ns:List Int}(h:x5e ns) {i:Nat}{x:V}(e:(ns.map V.int)[i]?=some x):∃m,x=.int m/\ns[i]?=some m/\0≤m/\m < 1000000000000000000:=by
 rw [List.getElem?_map] at e
 cases q:ns[i]? with
 | none=>rw [q] at e;cases e
 | some m =>
  rw [q] at e
  exact ⟨m,(Option.some.inj e).symm,rfl,h m (List.mem_of_getElem? q)⟩
def w6c (ns:List Int):Prop:=6 < ns.length\/512 < z1t (ns.map w7h)
theorem z0h {A B:TS}{D:Ends}{σ:L2.St}{H:Hp}(J:L2.St->Hp->Prop) (h2:∀σ H,J σ H->B D σ H) (h1:∀R:L2.St->Hp->Prop,(∀σ H,J σ H->R σ H)->A { D with nx:=R } σ H):z1a A B D σ H:=h1 (B D) h2
theorem z2b (ns:List Int):(ns.map V.int).length=ns.length:=List.length_map ..
def w5x (ns ms:List Int):Prop:=ms.length=ns.length/\∀(i:Nat) m n,ms[i]?=some m->ns[i]?=some n->0≤m/\m < n
def z4s (ms ss:List Int):Int:=(List.zipWith (λ a b=>a * b) ms ss).sum
theorem z6m {ms:List Int}{i:Nat}{y:V}(ey:(ms.map V.int)[i]?=some y):∃m,y=.int m/\ms[i]?=some m:=by
 rw [List.getElem?_map] at ey
 cases q:ms[i]? with
 | none=>rw [q] at ey;cases ey
 | some m=>rw [q] at ey;exact ⟨m,(Option.some.inj ey).symm,rfl⟩
def lfI (ns:List Int) (place:Int):Nat->Int
 | 0=>place
 | i+1=>lfI ns place i / ns.reverse.getD i 1
def dgI (ns:List Int) (place:Int) (i:Nat):Int:=lfI ns place i % ns.reverse.getD i 1
def dgL (ns:List Int) (place:Int) (i:Nat):List Int:=(List.range i).map (dgI ns place)
theorem x4j (ns:List Int) (p:Int) (i:Nat):dgL ns p (i+1)=dgL ns p i++[dgI ns p i]:=by
 unfold dgL;rw [List.range_succ,List.map_append];rfl
theorem y8n {ns:List Int}{i:Nat}{m:Int}(hi:i < ns.length) (h:ns[ns.length - 1 - i]?=some m):ns.reverse.getD i 1=m:=by
 rw [List.getD_eq_getElem?_getD,List.getElem?_reverse hi,h];rfl
theorem y8y (xs:List Int):∀a:Int,xs.foldl (λ a b=>a * b) a=a * z1t xs:=by
 induction xs with
 | nil=>intro a;show a=a * 1;rw [Int.mul_one]
 | cons x xs ih=>intro a;show xs.foldl (λ a b=>a * b) (a * x)=a * (xs.foldl (λ a b=>a * b) (1 * x));rw [ih,ih (1 * x),Int.one_mul,Int.mul_assoc]
theorem y1a (x:Int) (xs:List Int):z1t (x::xs)=x * z1t xs:=by
 show xs.foldl (λ a b=>a * b) (1 * x)=_
 rw [y8y,Int.one_mul]
theorem y8w {ns:List Int}(h:z1t ns≠0):∀n∈ns,n≠0:=by
 induction ns with
 | nil=>intro n hn;cases hn
 | cons x xs ih =>
  rw [y1a] at h
  intro n hn
  rcases List.mem_cons.mp hn with rfl | hn
  ·intro z;rw [z,Int.zero_mul] at h;exact h rfl
  ·exact ih (λ z=>h (by rw [z,Int.mul_zero])) n hn
theorem y8x {ns:List Int}(h:∀n∈ns,0≤n):0≤z1t ns:=by
 induction ns with
 | nil=>decide
 | cons x xs ih=>rw [y1a];exact Int.mul_nonneg (h x (List.mem_cons_self ..)) (ih λ n hn=>h n (List.mem_cons_of_mem _ hn))
theorem w4r {ns:List Int}{pl:Int}(nz:∀n∈ns,n≠0) (h:x5e ns) {i:Nat}{m:Int}(hi:i < ns.length) (hm:ns[ns.length - 1 - i]?=some m):0≤dgI ns pl i/\dgI ns pl i < m:=by
 unfold dgI
 rw [y8n hi hm]
 have mm:=List.mem_of_getElem? hm
 have m0:=(h m mm).1
 have mz:=nz m mm
 exact ⟨Int.emod_nonneg _ mz,Int.emod_lt_of_pos _ (by lia)⟩
theorem w2n {ns:List Int}{pl:Int}{k:Nat}(hk:k < ns.length):(dgL ns pl ns.length).reverse[k]?=some (dgI ns pl (ns.length - 1 - k)):=by
 have l:(dgL ns pl ns.length).length=ns.length:=by rw [dgL,List.length_map,List.length_range]
 have z:ns.length - 1 - k < ns.length:=by lia
 rw [List.getElem?_reverse (by rw [l];exact hk),l,dgL,List.getElem?_map,List.getElem?_range z]
 rfl
theorem x8i {ns:List Int}{pl:Int}(nz:∀n∈ns,n≠0) (h:x5e ns):w5x ns (dgL ns pl ns.length).reverse:=by
 refine ⟨by rw [List.length_reverse,dgL,List.length_map,List.length_range],λ i m n hm hn=>?_⟩
 have hi:=(List.getElem?_eq_some_iff.mp hn).1
 rw [w2n hi] at hm
 cases hm
 exact w4r nz h (by lia) (by rw [show ns.length - 1 - (ns.length - 1 - i)=i by lia];exact hn)
def y7u (C:Addr):Sp:=λ vs H Q E=>∃(a:Addr) (ns:List Int) (pl:Int),vs=[.ref a,.int pl]/\H a=some (.tup (ns.map V.int))/\x5e ns/\ns.length≤63/\((pl < 0\/z1t ns≤pl)->∀H',Same H H'->E (.ref C) none H')/\(0≤pl->pl < z1t ns->∀H' p,Same H H'->H' p=some (.tup ((dgL ns pl ns.length).reverse.map V.int))->Q (.ref p) H')
def w2q (ns:List Int) (k:Nat):Int:=ns.getD k 0
def Pair (H:Hp) (p:Addr) (w:String) (ms:List Int):Prop:=∃q,H p=some (.tup [.str w,.ref q])/\H q=some (.tup (ms.map V.int))
theorem Pair.same {H H':Hp}{p:Addr}{w:String}{ms:List Int}(h:Pair H p w ms) (s:Same H H'):Pair H' p w ms:=let ⟨q,a,b⟩:=h;⟨q,s _ _ a,s _ _ b⟩
def bad (ns:List Int) (side first many step:Int):Prop:=first < 0\/many < 0\/step < 1\/(0 < many/\ns.getD side.toNat 0≤first+(many - 1) * step)
instance (ns:List Int):Decidable (w6c ns):=by unfold w6c;infer_instance
def tups (H:Hp) (ps:List Addr) (L:List (List Int)):Prop:=ps.length=L.length/\∀(i:Nat) p m,ps[i]?=some p->L[i]?=some m->H p=some (.tup (m.map V.int))
theorem tups.same {H H':Hp}{ps:List Addr}{L:List (List Int)}(h:tups H ps L) (s:Same H H'):tups H' ps L:=⟨h.1,λ i p m a b=>s _ _ (h.2 i p m a b)⟩
theorem tups.at {H:Hp}{ps:List Addr}{L:List (List Int)}(h:tups H ps L) {i:Nat}{v:V}(e:(ps.map V.ref)[i]?=some v):∃p m,v=.ref p/\L[i]?=some m/\m∈L/\H p=some (.tup (m.map V.int)):=by
 rw [List.getElem?_map] at e
 cases q:ps[i]? with
 | none=>rw [q] at e;cases e
 | some p =>
  rw [q] at e
  have hi:=(List.getElem?_eq_some_iff.mp q).1
  rw [h.1] at hi
  have z:=List.getElem?_eq_getElem hi
  exact ⟨p,L[i],(Option.some.inj e).symm,z,List.getElem_mem hi,h.2 i p _ q z⟩
theorem tups.snoc {H:Hp}{ps:List Addr}{L:List (List Int)}{p:Addr}{m:List Int}(h:tups H ps L) (hp:H p=some (.tup (m.map V.int))):tups H (ps++[p]) (L++[m]):=by
 refine ⟨by rw [List.length_append,List.length_append,h.1];rfl,λ i p' m' a b=>?_⟩
 by_cases c:i < ps.length
 ·rw [List.getElem?_append_left c] at a
  rw [List.getElem?_append_left (by rw [← h.1];exact c)] at b
  exact h.2 i p' m' a b
 ·have e:i=ps.length:=by have:=(List.getElem?_eq_some_iff.mp a).1;simp at this;lia
  subst e
  rw [List.getElem?_append_right (Nat.le_refl _),Nat.sub_self] at a
  rw [h.1,List.getElem?_append_right (Nat.le_refl _),Nat.sub_self] at b
  cases a;cases b;exact hp
theorem tups.take {H:Hp}{ps:List Addr}{L:List (List Int)}(h:tups H ps L) (k:Nat):tups H (ps.take k) (L.take k):=by
 refine ⟨by rw [List.length_take,List.length_take,h.1],λ i p m a b=>?_⟩
 have c:i < k:=by have:=(List.getElem?_eq_some_iff.mp a).1;rw [List.length_take] at this;lia
 rw [List.getElem?_take_of_lt c] at a b
 exact h.2 i p m a b
def sm (ns:List Int):Prop:=∀n∈ns,0≤n/\n≤1000000
def atD (ns:List Int) (p:Int):List Int:=(dgL ns p ns.length).reverse
theorem y3u (ns:List Int) (p:Int):(atD ns p).length=ns.length:=by simp [atD,dgL]
theorem w4c {ns:List Int}{p:Int}(h:x5e ns) (h0:0≤p) (h1:p < z1t ns):∀n∈ns,0 < n:=λ n hn=>by
 have a:=y8w (ns:=ns) (by lia) n hn
 have b:=h n hn
 lia
theorem x4v {ns:List Int}{p:Int}(h:x5e ns) (h0:0≤p) (h1:p < z1t ns):w5x ns (atD ns p):=x8i (λ n hn=>by have:=w4c h h0 h1 n hn;lia) h
def RwI (H:Hp) (a:Addr) (ns:List Int):Prop:=H a=some (.lst (ns.map V.int))\/H a=some (.tup (ns.map V.int))
theorem RwI.same {H H':Hp}{a:Addr}{ns:List Int}(h:RwI H a ns) (s:Same H H'):RwI H' a ns:=h.imp (s _ _) (s _ _)
def TbAt (H:Hp) (t:Addr) (ns cs:List Int):Prop:=∃a c,H t=some (.tup [.ref a,.ref c])/\H a=some (.tup (ns.map V.int))/\H c=some (.tup (cs.map V.int))
theorem TbAt.same {H H':Hp}{t:Addr}{ns cs:List Int}(h:TbAt H t ns cs) (s:Same H H'):TbAt H' t ns cs:=let ⟨a,c,h1,h2,h3⟩:=h;⟨a,c,s _ _ h1,s _ _ h2,s _ _ h3⟩
def TpsAt (H:Hp) (ps:List Addr) (L:List (List Int)):Prop:=ps.length=L.length/\∀(i:Nat) t,L[i]?=some t->∃p,ps[i]?=some p/\H p=some (.tup (t.map V.int))
theorem TpsAt.mono {H H':Hp}{ps:List Addr}{L:List (List Int)}(h:TpsAt H ps L) (s:∀a xs,H a=some (.tup xs)->H' a=some (.tup xs)):TpsAt H' ps L:=⟨h.1,λ i t e=>let ⟨p,e1,g⟩:=h.2 i t e;⟨p,e1,s _ _ g⟩⟩
theorem TpsAt.snoc {H:Hp}{ps:List Addr}{L:List (List Int)}{t:List Int}{q:Addr}(h:TpsAt H ps L) (g:H q=some (.tup (t.map V.int))):TpsAt H (ps++[q]) (L++[t]):=by
 refine ⟨by simp [h.1],λ i u e=>?_⟩
 rcases Nat.lt_trichotomy i L.length with hi | hi | hi
 ·rw [List.getElem?_append_left hi] at e
  obtain ⟨p,e1,l⟩:=h.2 i u e
  exact ⟨p,by rw [List.getElem?_append_left (by rw [h.1];exact hi)];exact e1,l⟩
 ·subst hi
  rw [List.getElem?_append_right (Nat.le_refl _),Nat.sub_self] at e
  cases (Option.some.inj e)
  exact ⟨q,by rw [List.getElem?_append_right (by rw [h.1];exact Nat.le_refl _),h.1,Nat.sub_self];rfl,g⟩
 ·rw [List.getElem?_eq_none (by simp;lia)] at e;cases e
def w2u (T:Addr) (H H':Hp):Prop:=∀a o,a≠T->H a=some o->H' a=some o
def SmT (H H':Hp):Prop:=∀a o,(∀ps,o≠.tbl ps)->H a=some o->H' a=some o
theorem SmT.refl (H:Hp):SmT H H:=λ _ _ _ e=>e
theorem SmT.trans {H H1 H2:Hp}(h:SmT H H1) (g:SmT H1 H2):SmT H H2:=λ a o n e=>g a o n (h a o n e)
theorem SmT.of {H H':Hp}(h:Same H H'):SmT H H':=λ a o _ e=>h a o e
theorem SmT.tup {H H':Hp}(h:SmT H H') {a:Addr}{xs:List V}(e:H a=some (.tup xs)):H' a=some (.tup xs):=h a _ (λ _ z=>by cases z) e
theorem SmT.lst {H H':Hp}(h:SmT H H') {a:Addr}{xs:List V}(e:H a=some (.lst xs)):H' a=some (.lst xs):=h a _ (λ _ z=>by cases z) e
theorem SmT.seq {K:W.Frag}{H H':Hp}{a:Addr}{xs:List V}(e:SmT H H') (h:SqL K H a xs):SqL K H' a xs:=by
 rcases h with (h | ⟨o,h⟩) | h
 ·exact .inl (.inl (e.lst h))
 ·exact .inl (.inr ⟨o,e _ _ (λ _ z=>by cases z) h⟩)
 ·exact .inr h
theorem SmT.tb {H H':Hp}(h:SmT H H') {t:Addr}{ns cs:List Int}(e:TbAt H t ns cs):TbAt H' t ns cs:=let ⟨a,c,h1,h2,h3⟩:=e;⟨a,c,h.tup h1,h.tup h2,h.tup h3⟩
theorem SmT.ofP {H H':Hp}{T:Addr}{pos:Pos}{qual:Str}(t:TabOk H T pos qual) (h:w2u T H H'):SmT H H':=λ a o n e=>h a o (λ z=>by
 obtain ⟨ps,h1,_⟩:=t
 rw [z,h1] at e
 exact n ps (Option.some.inj e).symm) e
theorem TabOk.other {H H':Hp}{T T2:Addr}{pos pos2:Pos}{qual qual2:Str}(ne:T2≠T) (t:TabOk H T pos qual) (t2:TabOk H T2 pos2 qual2) (h:w2u T H H'):TabOk H' T2 pos2 qual2:=by
 obtain ⟨ps,h1,h2,h3⟩:=t2
 refine ⟨ps,h _ _ ne h1,h2,h3.imp id λ ⟨c',e,g⟩=>⟨c',e,(SmT.ofP t h) _ _ (λ _ z=>by cases z) g⟩⟩
theorem y3g {n k:Nat}(h:k < n):ixN n (k:Int)=some k:=by
 unfold ixN;rw [if_pos (by lia),if_pos (by lia)];simp
def z5e (n:Int):Int:=(n+9223372036854775808) % 18446744073709551616 - 9223372036854775808
def fig (n:Int):Int :=
  if n % 5=0 then
    (if n / 5 % 6=0 then -9223372036854775808 else if n / 5 % 6=1 then 9223372036854775807 else if n / 5 % 6=2 then -1
     else if n / 5 % 6=3 then 0 else if n / 5 % 6=4 then 1 else -9223372036854775807)
  else if n % 5=1 then n / 5 % 19 - 9
  else n * 11400714819323198485 % 18446744073709551616 - 9223372036854775808
theorem w2g (n:Int):-9223372036854775808≤fig n/\fig n < 9223372036854775808:=by
 unfold fig
 repeat' split
 all_goals lia
def w6o (k:Int):Int:=if k=0 then -9223372036854775808 else if k=1 then 9223372036854775807 else if k=2 then -1 else if k=3 then 0 else if k=4 then 1 else -9223372036854775807
theorem x9h (k:Int) (h0:0≤k) (h1:k < 6):atI [V.int (-9223372036854775808),.int 9223372036854775807,.int (-1),.int 0,.int 1,.int (-9223372036854775807)] k=some (.int (w6o k)):=by
 rcases (show k=0\/k=1\/k=2\/k=3\/k=4\/k=5 by lia) with e | e | e | e | e | e<;>subst e<;>rfl
def w3y (x y:Int):Int:=if y=0 then 0 else z5e (Int.fdiv x y)
def x6o (x y:Int):Int:=if y=0 then x else Int.fmod x y
def z1w (w:Str) (x y:Int):Int :=
 if w="add" then z5e (x+y) else if w="sub" then z5e (x - y) else if w="mul" then z5e (x * y) else if w="quo" then w3y x y else if w="rest" then x6o x y
 else if w="max" then (if x < y then y else x) else if w="min" then (if y < x then y else x) else if w="less" then (if x < y then 1 else 0) else if w="like" then (if x=y then 1 else 0)
 else if w="and" then Builtin.bitAnd x y else if w="or" then Builtin.bitOr x y else Builtin.bitXor x y
theorem x4z (x y:Int):z1w "add" x y=(z5e (x+y)):=by unfold z1w;rw [if_pos rfl]
theorem y7c (x y:Int):z1w "sub" x y=(z5e (x - y)):=by unfold z1w;rw [if_neg (by decide +kernel),if_pos rfl]
theorem x4y (x y:Int):z1w "max" x y=(if x < y then y else x):=by unfold z1w;rw [if_neg (by decide +kernel),if_neg (by decide +kernel),if_neg (by decide +kernel),if_neg (by decide +kernel),if_neg (by decide +kernel),if_pos rfl]
theorem x4x (x y:Int):z1w "xor" x y=(Builtin.bitXor x y):=by unfold z1w;rw [if_neg (by decide +kernel),if_neg (by decide +kernel),if_neg (by decide +kernel),if_neg (by decide +kernel),if_neg (by decide +kernel),if_neg (by decide +kernel),if_neg (by decide +kernel),if_neg (by decide +kernel),if_neg (by decide +kernel),if_neg (by decide +kernel),if_neg (by decide +kernel)]
abbrev tw:List Str:=["add","sub","mul","quo","rest","max","min","less","like","and","or","xor"]
def inB (x:Int):Prop:=-9223372036854775808≤x/\x < 9223372036854775808
def z4z (s:Stmt):List Stmt:=match s with
 | .ClassDef _ _ _ b _ _ _ _ _ _ _=>b
 | _=>[]
structure BenCls (K:W.Frag) (C:Addr):Prop where
 cl:Cls K C
 n1:NoAttr K C (Str.ofString "cells")
 n2:NoAttr K C (Str.ofString "loops")
 n3:NoAttr K C (Str.ofString "outs")
 n4:NoAttr K C (Str.ofString "done")
 n5:NoAttr K C (Str.ofString "calls")
 n6:NoAttr K C (Str.ofString "log")
def UpT (H H':Hp):Prop:=∀a xs,H a=some (.tup xs)->H' a=some (.tup xs)
theorem UpT.of {H H':Hp}(s:Same H H'):UpT H H':=λ a xs e=>s _ _ e
theorem y1c {X:Cx}{K:W.Frag}(h:X.K=K):OpR X (compareOp .NotIn) (rIn K true):=by subst h;exact y1b
theorem y8o (n:Nat):(List.replicate n [V.non]).flatten=List.replicate n V.non:=by
 induction n with
 | zero=>rfl
 | succ n ih=>rw [List.replicate_succ,List.replicate_succ,List.flatten_cons,ih];rfl
theorem z6u {X:Cx}{e:Expr}:PE X e (λ _ _ _=>False):=λ _ _ _ _ _ _ h=>h.elim
theorem x0u:∀(st c:List Int),(List.zipWith (λ a b=>a * b) c st).sum=z4s st c
 | [],c=>by cases c<;>rfl
 | s::st,[]=>by rfl
 | s::st,x::c=>by
  show x * s+(List.zipWith (λ a b=>a * b) c st).sum=s * x+z4s st c
  rw [x0u st c,Int.mul_comm]
theorem sne {a b:Str}(h:(a == b)=false):¬V.str a=V.str b:=λ z=>by rw [V.str.inj z,beq_self_eq_true] at h;cases h
def w6d (x:Int):Int:=if x < 0 then -x else x
def y1d (w:Str) (x:Int):Int:=if w="neg" then z5e (-x) else if w="abs" then z5e (w6d x) else if w="sign" then (if x < 0 then -1 else if 0 < x then 1 else 0) else if x=0 then 1 else 0
abbrev fw:List Str:=["add","mul","max","min","and","or","xor"]
def y6f (w:Str):Int:=if w="mul" then 1 else if w="max" then -9223372036854775808 else if w="min" then 9223372036854775807 else if w="and" then -1 else 0
inductive Tr where
 | num (n:Int)
 | rd (k:Nat) (s0:Int) (ss:List Int)
 | neg (t:Tr)
 | sub (t u:Tr)
def TrAt (H:Hp):Addr->Tr->Prop
 | a,.num n=>H a=some (.tup [.str (Str.ofString "num"),.int n])
 | a,.rd k s0 ss=>∃p,H a=some (.tup [.str (Str.ofString "read"),.int (k:Int),.int s0,.ref p])/\H p=some (.tup (ss.map V.int))
 | a,.neg t=>∃b,H a=some (.tup [.str (Str.ofString "each"),.str (Str.ofString "neg"),.ref b])/\TrAt H b t
 | a,.sub t u=>∃b c,H a=some (.tup [.str (Str.ofString "pair"),.str (Str.ofString "sub"),.ref b,.ref c])/\TrAt H b t/\TrAt H c u
theorem TrAt.up {H H':Hp}(s:UpT H H'):∀ {a:Addr}{t:Tr},TrAt H a t->TrAt H' a t
 | _,.num _,h=>s _ _ h
 | _,.rd ..,⟨p,h1,h2⟩=>⟨p,s _ _ h1,s _ _ h2⟩
 | _,.neg _,⟨b,h1,h2⟩=>⟨b,s _ _ h1,TrAt.up s h2⟩
 | _,.sub _ _,⟨b,c,h1,h2,h3⟩=>⟨b,c,s _ _ h1,TrAt.up s h2,TrAt.up s h3⟩
def TrG (m:Nat):Tr->Prop
 | .num n=>inB n
 | .rd k _ ss=>k < 3/\ss.length=m
 | .neg t=>TrG m t
 | .sub t u=>TrG m t/\TrG m u
def dep:Tr->Nat
 | .num _=>0
 | .rd ..=>0
 | .neg t=>dep t+1
 | .sub t u=>max (dep t) (dep u)+1
def free:Tr->Prop
 | .num _=>True
 | .rd ..=>True
 | _=>False
def y6u:Tr->List Tr
 | .neg t=>[t]
 | .sub t u=>[t,u]
 | _=>[]
abbrev Sto:=List (Option Int)
def cV:Option Int->V
 | none=>.non
 | some n=>.int n
def StsAt (H:Hp) (ps:List Addr) (S:List Sto):Prop:=ps.length=S.length/\∀(k:Nat) (r:Sto),S[k]?=some r->∃p,ps[k]?=some p/\H p=some (.lst (r.map cV))
theorem StsAt.same {H H':Hp}{ps:List Addr}{S:List Sto}(h:StsAt H ps S) (s:Same H H'):StsAt H' ps S:=⟨h.1,λ k r e=>let ⟨p,a,b⟩:=h.2 k r e;⟨p,a,s _ _ b⟩⟩
def SZ (S:List Sto):Prop:=S.length=3/\∀r∈S,r.length≤8/\∀n,some n∈r->inB n
inductive Rz where
 | ok (v c:Int) | wait | stuck
def tkZ (r:Sto) (i:Int):Rz:=if i < 0\/(r.length:Int)≤i then .stuck else match r.getD i.toNat none with | none=>.wait | some v=>.ok v 0
def evZ (S:List Sto):Tr->List Int->Rz
 | .num n,_=>.ok n 0
 | .rd k s0 ss,c=>tkZ (S.getD k []) (s0+z4s ss c)
 | .neg t,c=>match evZ S t c with | .ok v n=>.ok (y1d (Str.ofString "neg") v) (1+n) | .wait=>.wait | .stuck=>.stuck
 | .sub t u,c=>match evZ S t c with | .ok v n=>(match evZ S u c with | .ok v' n'=>.ok (z1w (Str.ofString "sub") v v') (1+n+n') | .wait=>.wait | .stuck=>.stuck) | .wait=>.wait | .stuck=>.stuck
def OutZ (CN CS:Addr) (H:Hp) (E:XK) (z:Rz) (K:Int->Int->Prop):Prop:=(z=.wait->∀H',Same H H'->E (.ref CN) none H')/\(z=.stuck->∀H',Same H H'->E (.ref CS) none H')/\∀v c,z=.ok v c->K v c
theorem y1z (n:Int):inB (z5e n):=by
 unfold inB z5e
 lia
theorem y1j {S:List Sto}{k:Nat}(h:k < S.length):S.getD k []∈S:=by
 rw [List.getD_eq_getElem?_getD,List.getElem?_eq_getElem h];exact List.getElem_mem h
theorem x0p {S:List Sto}(hs:SZ S) {m:Nat}{c:List Int}:∀ {t:Tr}{v n:Int},TrG m t->evZ S t c=.ok v n->inB v
 | .num x,v,n,h,e=>by simp only [evZ,Rz.ok.injEq] at e;exact e.1 ▸ h
 | .rd k s0 ss,v,n,h,e=>by
  simp only [evZ,tkZ] at e
  split at e
  ·cases e
  ·split at e
   ·cases e
   ·rename_i w ew
    cases e
    have hm:=y1j (S:=S) (k:=k) (by rw [hs.1];exact h.1)
    refine (hs.2 _ hm).2 _ ?_
    rw [List.getD_eq_getElem?_getD] at ew
    cases hx:(S.getD k [])[(s0+z4s ss c).toNat]? with
    | none=>rw [hx] at ew;cases ew
    | some y=>rw [hx] at ew;cases ew;exact List.mem_of_getElem? hx
 | .neg t,v,n,h,e=>by
  simp only [evZ] at e
  split at e<;>cases e
  unfold y1d
  rw [if_pos rfl]
  exact y1z _
 | .sub t u,v,n,h,e=>by
  simp only [evZ] at e
  split at e
  ·split at e<;>cases e
   exact (y7c _ _) ▸ y1z _
  ·cases e
  ·cases e
theorem z6w {r:Sto}{i:Int}(h0:0≤i) (h1:i < r.length):atI (r.map cV) i=some (cV (r.getD i.toNat none)):=by
 have il:i.toNat < r.length:=by lia
 have z:=z0i (xs:=r.map cV) (j:=i.toNat) (v:=cV (r.getD i.toNat none)) (by rw [List.getElem?_map,List.getD_eq_getElem?_getD,List.getElem?_eq_getElem il];rfl)
 rwa [show ((i.toNat:Nat):Int)=i by lia] at z
def y2d (CN CS:Addr):Sp:=λ vs H Q E=>∃(a:Addr) (i:Int) (r:Sto),vs=[.ref a,.int i]/\H a=some (.lst (r.map cV))/\OutZ CN CS H E (tkZ r i) (λ v c=>Q (.int v) H)
def w2v (H:Hp) (ps:List Addr) (ts:List Tr):Prop:=ps.length=ts.length/\∀(i:Nat) (t:Tr),ts[i]?=some t->∃p,ps[i]?=some p/\TrAt H p t
def x8z (c:List Int):Prop:=c.length≤10/\∀x∈c,0≤x/\x≤1000
structure Env58 (H:Hp) (a st:Addr) (c:List Int) (S:List Sto):Prop where
 ha:H a=some (.tup (c.map V.int))
 co:x8z c
 ps:∃ps:List Addr,H st=some (.lst (ps.map V.ref))/\StsAt H ps S
 sz:SZ S
theorem Env58.same {H H':Hp}{a st:Addr}{c:List Int}{S:List Sto}(h:Env58 H a st c S) (s:Same H H'):Env58 H' a st c S:=⟨s _ _ h.ha,h.co,let ⟨ps,x,y⟩:=h.ps;⟨ps,s _ _ x,y.same s⟩,h.sz⟩
theorem OutZ.mono {CN CS:Addr}{H H':Hp}{E:XK}{z:Rz}{K K':Int->Int->Prop}(h:OutZ CN CS H E z K) (s:Same H H') (f:∀v c,z=.ok v c->K v c->K' v c):OutZ CN CS H' E z K':=⟨λ e _ s'=>h.1 e _ (s.trans s'),λ e _ s'=>h.2.1 e _ (s.trans s'),λ v c e=>f v c e (h.2.2 v c e)⟩
def y3z (CN CS:Addr):Sp:=λ vs H Q E=>∃(t a st:Addr) (T:Tr) (c:List Int) (S:List Sto),vs=[.ref t,.ref a,.ref st]/\TrAt H t T/\free T/\TrG c.length T/\Env58 H a st c S/\OutZ CN CS H E (evZ S T c) (λ v n=>∀H',Same H H'->Q (.int v) H')
def z2f (CN CS:Addr):Nat->Sp:=λ d=>match d with | 0=>λ _ _ _ _=>False | d+1=>λ vs H Q E=>∃(t a st:Addr) (T:Tr) (c:List Int) (S:List Sto),vs=[.ref t,.ref a,.ref st]/\TrAt H t T/\dep T≤d/\TrG c.length T/\Env58 H a st c S/\OutZ CN CS H E (evZ S T c) (λ v n=>∀H' p,Same H H'->H' p=some (.tup [.int v,.int n])->Q (.ref p) H')
theorem w1l {T:Tr}{m:Nat}(tg:TrG m T) {i:Nat}{u:Tr}(e:(y6u T)[i]?=some u):TrG m u/\dep u < dep T/\i < 2:=by
 cases T with
 | num=>cases e
 | rd=>cases e
 | neg t =>
  match i,e with
  | 0,e=>cases e;exact ⟨tg,Nat.lt_succ_self _,by lia⟩
 | sub t v =>
  match i,e with
  | 0,e=>cases e;exact ⟨tg.1,by simp only [dep];lia,by lia⟩
  | 1,e=>cases e;exact ⟨tg.2,by simp only [dep];lia,by lia⟩
def ResL (S:List Sto) (c:List Int) (ts:List Tr) (vs:List (Int × Int)):Prop:=∀(j:Nat) (z:Int × Int),vs[j]?=some z->∃u,ts[j]?=some u/\evZ S u c=.ok z.1 z.2
theorem ResL.snoc {S:List Sto}{c:List Int}{ts:List Tr}{vs:List (Int × Int)}(h:ResL S c ts vs) {u:Tr}{z:Int × Int}(e:ts[vs.length]?=some u) (r:evZ S u c=.ok z.1 z.2):ResL S c ts (vs++[z]):=λ j y ey=>by
 by_cases l:j < vs.length
 ·rw [List.getElem?_append_left l] at ey
  exact h j y ey
 ·rw [List.getElem?_append_right (by lia)] at ey
  cases k:j - vs.length with
  | zero =>
   rw [k] at ey
   cases ey
   exact ⟨u,by rwa [show j=vs.length by lia],r⟩
  | succ m=>rw [k] at ey;cases ey
theorem w2k {S:List Sto}{c:List Int}{T u:Tr}{vs:List (Int × Int)}(h:ResL S c (y6u T) vs) (e:(y6u T)[vs.length]?=some u):(evZ S u c=.wait->evZ S T c=.wait)/\(evZ S u c=.stuck->evZ S T c=.stuck):=by
 cases T with
 | num=>cases e
 | rd=>cases e
 | neg t =>
  match vs,e with
  | [],e=>cases e;exact ⟨λ r=>by simp only [evZ,r],λ r=>by simp only [evZ,r]⟩
 | sub t v =>
  match vs,h,e with
  | [],_,e=>cases e;exact ⟨λ r=>by simp only [evZ,r],λ r=>by simp only [evZ,r]⟩
  | [z],h,e =>
   cases e
   obtain ⟨w,ew,rw⟩:=h 0 z rfl
   cases ew
   exact ⟨λ r=>by simp only [evZ,rw,r],λ r=>by simp only [evZ,rw,r]⟩
theorem w2j {S:List Sto}{c:List Int}{T:Tr}{vs:List (Int × Int)}(nf:¬free T) (h:ResL S c (y6u T) vs) (e:vs.length=(y6u T).length) :
  (∃t z,T=.neg t/\vs=[z]/\evZ S T c=.ok (y1d (Str.ofString "neg") z.1) (1+z.2))\/∃t u z y,T=.sub t u/\vs=[z,y]/\evZ S t c=.ok z.1 z.2/\evZ S u c=.ok y.1 y.2/\evZ S T c=.ok (z1w (Str.ofString "sub") z.1 y.1) (1+z.2+y.2):=by
 cases T with
 | num=>exact absurd trivial nf
 | rd=>exact absurd trivial nf
 | neg t =>
  match vs,e,h with
  | [z],_,h =>
   obtain ⟨w,ew,rw⟩:=h 0 z rfl
   cases ew
   exact .inl ⟨t,z,rfl,rfl,by simp only [evZ,rw]⟩
 | sub t u =>
  match vs,e,h with
  | [z,y],_,h =>
   obtain ⟨w,ew,rw⟩:=h 0 z rfl
   cases ew
   obtain ⟨w,ew,rw'⟩:=h 1 y rfl
   cases ew
   exact .inr ⟨t,u,z,y,rfl,rfl,rw,rw',by simp only [evZ,rw,rw']⟩
structure Lp where
 run:Option (Str × Nat)
 st:Nat
 sd:List Int
 s0:Int
 ss:List Int
 t:Tr
def LpAt (H:Hp) (a:Addr) (L:Lp):Prop:=∃p q t:Addr,H p=some (.tup (L.sd.map V.int))/\H q=some (.tup (L.ss.map V.int))/\TrAt H t L.t /\
  ((L.run=none/\H a=some (.tup [.str (Str.ofString "fill"),.int (L.st:Int),.ref p,.int L.s0,.ref q,.ref t])) \/
   ∃w m,L.run=some (w,m)/\H a=some (.tup [.str (Str.ofString "run"),.str w,.int (L.st:Int),.ref p,.int (m:Int),.int L.s0,.ref q,.ref t]))
theorem LpAt.up {H H':Hp}{a:Addr}{L:Lp}(h:LpAt H a L) (u:UpT H H'):LpAt H' a L:=by
 obtain ⟨p,q,t,h1,h2,h3,h4⟩:=h
 exact ⟨p,q,t,u _ _ h1,u _ _ h2,h3.up u,h4.imp (λ h=>⟨h.1,u _ _ h.2⟩) λ ⟨w,m,e,h⟩=>⟨w,m,e,u _ _ h⟩⟩
def y9a (L:Lp):Nat:=match L.run with | none=>0 | some _=>1
def LpOk (L:Lp):Prop:=(L.st=1\/L.st=2)/\(L.sd.length=1\/L.sd.length=2)/\(∀x∈L.sd,0≤x/\x≤4)/\z1t L.sd≤8/\L.ss.length=L.sd.length+y9a L/\TrG (L.sd.length+y9a L) L.t/\dep L.t≤1/\∀w m,L.run=some (w,m)->w∈(["add","max","xor"]:List Str)/\m≤3
theorem LpOk.sd {L:Lp}(h:LpOk L):x5e L.sd:=λ x hx=>by have:=h.2.2.1 x hx;lia
inductive Rr where
 | ok (acc:Int) (rows:List (Int × Int)) (c:Int) | wait | stuck
def x4d (s:Int):Rz->Rr
 | .ok v k=>.ok 0 [(s,v)] k
 | .wait=>.wait
 | .stuck=>.stuck
def w3s (w:Str) (s a k:Int) (rows:List (Int × Int)):Rz->Rr
 | .ok v k'=>.ok (z1w w a v) (rows++[(s,z1w w a v)]) (k+1+k')
 | .wait=>.wait
 | .stuck=>.stuck
def z8f (S:List Sto) (w:Str) (t:Tr) (s0:Int) (ss c:List Int):Nat->Rr
 | 0=>.ok (y6f w) [] 0
 | n+1=>match z8f S w t s0 ss c n with
  | .ok a rows k=>w3s w (s0+z4s ss (c++[(n:Int)])) a k rows (evZ S t (c++[(n:Int)]))
  | .wait=>.wait
  | .stuck=>.stuck
def z8c (S:List Sto) (L:Lp) (c:List Int):Rr:=match L.run with
 | none=>x4d (L.s0+z4s L.ss c) (evZ S L.t c)
 | some (w,m)=>z8f S w L.t L.s0 L.ss c m
def w7o (CN CS:Addr) (H:Hp) (E:XK) (z:Rr) (K:List (Int × Int)->Int->Prop):Prop:=(z=.wait->∀H',Same H H'->E (.ref CN) none H')/\(z=.stuck->∀H',Same H H'->E (.ref CS) none H')/\∀a rows c,z=.ok a rows c->K rows c
def RowsAt (H:Hp) (ps:List Addr) (rows:List (Int × Int)):Prop:=ps.length=rows.length/\∀(i:Nat) (r:Int × Int),rows[i]?=some r->∃p,ps[i]?=some p/\H p=some (.tup [.int r.1,.int r.2])
theorem RowsAt.up {H H':Hp}{ps:List Addr}{rows:List (Int × Int)}(h:RowsAt H ps rows) (u:UpT H H'):RowsAt H' ps rows:=⟨h.1,λ i r e=>let ⟨p,a,b⟩:=h.2 i r e;⟨p,a,u _ _ b⟩⟩
theorem RowsAt.snoc {H:Hp}{ps:List Addr}{rows:List (Int × Int)}{p:Addr}{r:Int × Int}(h:RowsAt H ps rows) (e:H p=some (.tup [.int r.1,.int r.2])):RowsAt H (ps++[p]) (rows++[r]):=by
 refine ⟨by simp [h.1],λ i r' er=>?_⟩
 by_cases c:i < rows.length
 ·rw [List.getElem?_append_left c] at er
  obtain ⟨p',a,b⟩:=h.2 i r' er
  exact ⟨p',by rw [List.getElem?_append_left (by rw [h.1];exact c)];exact a,b⟩
 ·rw [List.getElem?_append_right (by lia)] at er
  cases k:i - rows.length with
  | zero =>
   rw [k] at er
   cases er
   refine ⟨p,?_,e⟩
   rw [List.getElem?_append_right (by rw [h.1];lia),h.1,k];rfl
  | succ m=>rw [k] at er;cases er
def w4w (H:Hp) (Q:VK):List (Int × Int)->Int->Prop:=λ rows k=>∀H' (m l:Addr) (ps:List Addr),Same H H'->H l=none->H' m=some (.tup [.ref l,.int k])->H' l=some (.lst (ps.map V.ref))->RowsAt H' ps rows->Q (.ref m) H'
def y0s (r:Bool) (CN CS:Addr):Sp:=λ vs H Q E=>∃(p a st:Addr) (L:Lp) (c:List Int) (S:List Sto),vs=[.ref p,.ref a,.ref st]/\LpAt H p L/\LpOk L/\L.run.isSome=r/\c.length=L.sd.length/\Env58 H a st c S/\w7o CN CS H E (z8c S L c) (w4w H Q)
section
variable {band:Int->Int->Int}
variable (hv:∀x y,band x y=2 * band (x / 2) (y / 2)+(if x % 2=1/\y % 2=1 then 1 else 0))
include hv
theorem y8p (h00:band 0 0=0) (h01:band 0 (-1)=0) (h10:band (-1) 0=0) (h11:band (-1) (-1)=-1) (n:Nat):∀x y:Int,-2 ^ n≤x->x < 2 ^ n->-2 ^ n≤y->y < 2 ^ n ->
  (-2 ^ n≤band x y/\band x y < 2 ^ n)/\(-2 ^ n≤x+y - band x y/\x+y - band x y < 2 ^ n)/\(-2 ^ n≤x+y - 2 * band x y/\x+y - 2 * band x y < 2 ^ n):=by
 induction n with
 | zero =>
  intro x y a b c d
  simp at a b c d
  have hx:x=0\/x=-1:=by lia
  have hy:y=0\/y=-1:=by lia
  rcases hx with hx | hx<;>rcases hy with hy | hy<;>subst hx<;>subst hy<;>simp [h00,h01,h10,h11]
 | succ n ih =>
  intro x y a b c d
  rw [Int.pow_succ] at *
  have h:=ih (x / 2) (y / 2) (by lia) (by lia) (by lia) (by lia)
  have e:=hv x y
  split at e<;>lia
end
theorem x8m {x y:Int}(hx:inB x) (hy:inB y):inB (Builtin.bitAnd x y)/\inB (Builtin.bitOr x y)/\inB (Builtin.bitXor x y):=by
 have h:=y8p W.kbt_halves (by decide) (by decide) (by decide) (by decide) 63 x y
 unfold inB at *
 rw [bitOr_and,bitXor_and]
 have e:(2:Int) ^ 63=9223372036854775808:=by decide
 rw [e] at h
 exact h hx.1 (by lia) hy.1 (by lia)
theorem x2a {w:Str}(h:w∈(["add","max","xor"]:List Str)):w∈fw/\w∈tw:=by
 simp only [fw,tw,List.mem_cons,List.not_mem_nil,or_false] at *
 rcases h with rfl | rfl | rfl<;>simp
theorem x1n {c:List Int}(h:x8z c) (l:c.length≤9) {k:Nat}(k3:k≤3):x8z (c++[(k:Int)]):=⟨by rw [List.length_append];exact Nat.succ_le_succ l,λ x hx=>by
 rcases List.mem_append.mp hx with z | z
 ·exact h.2 x z
 ·cases List.mem_singleton.mp z;lia⟩
theorem x9f {x y:Int}(hx:inB x) (hy:inB y):inB (Builtin.bitXor x y):=(x8m hx hy).2.2
theorem x2c {w:Str}(h:w∈(["add","max","xor"]:List Str)) {x y:Int}(hx:inB x) (hy:inB y):inB (z1w w x y):=by
 simp only [List.mem_cons,List.not_mem_nil,or_false] at h
 rcases h with rfl | rfl | rfl
 ·rw [x4z];exact y1z _
 ·rw [x4y];split<;>assumption
 ·rw [x4x];exact x9f hx hy
theorem w1k {w:Str}:inB (y6f w):=by
 unfold y6f inB
 repeat' split
 all_goals lia
theorem y0x {S:List Sto}(hs:SZ S) {w:Str}(hw:w∈(["add","max","xor"]:List Str)) {t:Tr}{s0:Int}{ss c:List Int}(tg:TrG (c.length+1) t):∀ {n:Nat}{a:Int}{rows:List (Int × Int)}{k:Int},z8f S w t s0 ss c n=.ok a rows k->inB a/\rows.length=n/\∀r∈rows,inB r.2
 | 0,a,rows,k,e=>by cases e;exact ⟨w1k,rfl,λ r hr=>nomatch hr⟩
 | n+1,a,rows,k,e=>by
  simp only [z8f] at e
  split at e
  ·rename_i a' rows' k' e'
   obtain ⟨i1,i2,i3⟩:=y0x hs hw tg e'
   cases ev:evZ S t (c++[(n:Int)]) with
   | ok v k2 =>
    rw [ev] at e
    cases e
    have z:=x2c hw i1 (x0p hs tg ev)
    refine ⟨z,by rw [List.length_append,i2];rfl,λ r hr=>?_⟩
    rcases List.mem_append.mp hr with h | h
    ·exact i3 r h
    ·cases List.mem_singleton.mp h;exact z
   | wait=>rw [ev] at e;cases e
   | stuck=>rw [ev] at e;cases e
  ·cases e
  ·cases e
theorem y2s {S:List Sto}{w:Str}{t:Tr}{s0:Int}{ss c:List Int}:∀(m n:Nat),(z8f S w t s0 ss c n=.wait->z8f S w t s0 ss c (n+m)=.wait)/\(z8f S w t s0 ss c n=.stuck->z8f S w t s0 ss c (n+m)=.stuck)
 | 0,n=>⟨id,id⟩
 | m+1,n=>by
  obtain ⟨h1,h2⟩:=y2s (S:=S) (w:=w) (t:=t) (s0:=s0) (ss:=ss) (c:=c) m n
  exact ⟨λ e=>by rw [show n+(m+1)=(n+m)+1 from rfl,z8f,h1 e],λ e=>by rw [show n+(m+1)=(n+m)+1 from rfl,z8f,h2 e]⟩
def okW (r:Sto) (sp:List Int):Prop:=sp.Nodup/\∀s∈sp,0≤s/\s < r.length/\r.getD s.toNat none=none
theorem y9z:∀ {ns:List Int},ns.length≤3->((x3f ns).length=ns.length ↔ ns.Nodup)
 | [],_=>by simp [x3f,firstMet]
 | [a],_=>by simp [x3f,firstMet,step_dedup]
 | [a,b],_=>by
  by_cases h:a=b<;>simp [x3f,firstMet,step_dedup,List.range_succ,h]
 | [a,b,c],_=>by
  by_cases h:a=b<;>by_cases h2:a=c<;>by_cases h3:b=c<;>simp_all [x3f,firstMet,step_dedup,List.range_succ]
 | _::_::_::_::_,h=>by simp at h
def y7v (CS:Addr):Sp:=λ vs H Q E=>∃(wa ca:Addr) (ps:List Addr) (rows:List (Int × Int)) (r:Sto),vs=[.ref wa,.ref ca]/\H wa=some (.lst (ps.map V.ref))/\RowsAt H ps rows/\rows.length≤3/\H ca=some (.lst (r.map cV))/\(¬okW r (rows.map (·.1))->∀H',Same H H'->E (.ref CS) none H')/\(okW r (rows.map (·.1))->∀H',Same H H'->Q .non H')
def Keep1 (b:Addr) (H H':Hp):Prop:=∀a o,a≠b->H a=some o->H' a=some o
theorem Keep1.tr {b:Addr}{H H1 H2:Hp}(h:Keep1 b H H1) (g:Keep1 b H1 H2):Keep1 b H H2:=λ a o n e=>g a o n (h a o n e)
theorem Keep1.of {b:Addr}{H H1:Hp}(h:Same H H1):Keep1 b H H1:=λ a o _ e=>h a o e
theorem Keep1.upd {b:Addr}{H:Hp}{o:HO}:Keep1 b H (upd H b o):=λ a x n e=>by rw [z0n n];exact e
theorem y3i (n:Int):∀(ns:List Int),inV (.int n) (ns.map V.int)=decide (n∈ns)
 | []=>rfl
 | m::ns=>by
  have:=y3i n ns
  unfold inV at this ⊢
  rw [List.map_cons,List.any_cons,this]
  by_cases e:n=m
  ·subst e;simp [eqV]
  ·simp [eqV,e];exact λ z=>absurd z.symm e
theorem z8j {H:Hp}{a b:Addr}{o o':HO}(h:H a=some o) (h':H b=some o') (n:o≠o'):a≠b:=λ z=>n (by rw [z,h'] at h;exact (Option.some.inj h).symm)
def LpsAt (H:Hp) (ps:List Addr) (Ls:List Lp):Prop:=ps.length=Ls.length/\∀(i:Nat) (L:Lp),Ls[i]?=some L->∃p,ps[i]?=some p/\LpAt H p L
theorem LpsAt.up {H H':Hp}{ps:List Addr}{Ls:List Lp}(h:LpsAt H ps Ls) (u:UpT H H'):LpsAt H' ps Ls:=⟨h.1,λ i L e=>let ⟨p,a,b⟩:=h.2 i L e;⟨p,a,b.up u⟩⟩
theorem LpsAt.get {H:Hp}{ps:List Addr}{Ls:List Lp}(h:LpsAt H ps Ls) {i:Nat}{x:V}(e:(ps.map V.ref)[i]?=some x):∃p L,x=.ref p/\Ls[i]?=some L/\LpAt H p L:=by
 have il:=(List.getElem?_eq_some_iff.mp e).1
 rw [List.length_map] at il
 have eL:Ls[i]?=some (Ls[i]'(by rw [← h.1];exact il)):=List.getElem?_eq_getElem _
 obtain ⟨p,ep,hp⟩:=h.2 i _ eL
 rw [List.getElem?_map,ep] at e
 exact ⟨p,_,(Option.some.inj e).symm,eL,hp⟩
def TupsAt (H:Hp) (ps:List Addr) (gs:List (List Int)):Prop:=ps.length=gs.length/\∀(i:Nat) (g:List Int),gs[i]?=some g->∃p,ps[i]?=some p/\H p=some (.tup (g.map V.int))
theorem TupsAt.up {H H':Hp}{ps:List Addr}{gs:List (List Int)}(h:TupsAt H ps gs) (u:UpT H H'):TupsAt H' ps gs:=⟨h.1,λ i g e=>let ⟨p,a,b⟩:=h.2 i g e;⟨p,a,u _ _ b⟩⟩
theorem TupsAt.nil {H:Hp}:TupsAt H [] []:=⟨rfl,λ i g e=>by simp at e⟩
theorem TupsAt.snoc {H:Hp}{ps:List Addr}{gs:List (List Int)}{p:Addr}{g:List Int}(h:TupsAt H ps gs) (e:H p=some (.tup (g.map V.int))):TupsAt H (ps++[p]) (gs++[g]):=by
 refine ⟨by simp [h.1],λ i r' er=>?_⟩
 by_cases c:i < gs.length
 ·rw [List.getElem?_append_left c] at er
  obtain ⟨p',a,b⟩:=h.2 i r' er
  exact ⟨p',by rw [List.getElem?_append_left (by rw [h.1];exact c)];exact a,b⟩
 ·rw [List.getElem?_append_right (by lia)] at er
  cases k:i - gs.length with
  | zero =>
   rw [k] at er
   cases er
   refine ⟨p,?_,e⟩
   rw [List.getElem?_append_right (by rw [h.1];lia),h.1,k];rfl
  | succ m=>rw [k] at er;cases er
def DsA (cs:List Addr):Prop:=∀(i j:Nat) (a:Addr),cs[i]?=some a->cs[j]?=some a->i=j
theorem DsA.set {cs:List Addr}(h:DsA cs) {k:Nat}{x:Addr}(n:x ∉ cs):DsA (cs.set k x):=λ i j a ei ej=>by
 rw [List.getElem?_set] at ei ej
 split at ei<;>split at ej
 ·lia
 ·split at ei
  ·cases ei;exact absurd (List.mem_of_getElem? ej) n
  ·cases ei
 ·split at ej
  ·cases ej;exact absurd (List.mem_of_getElem? ei) n
  ·cases ej
 ·exact h i j a ei ej
theorem DsA.snoc {cs:List Addr}(h:DsA cs) {x:Addr}(n:x ∉ cs):DsA (cs++[x]):=λ i j a ei ej=>by
 by_cases ci:i < cs.length<;>by_cases cj:j < cs.length
 ·rw [List.getElem?_append_left ci] at ei
  rw [List.getElem?_append_left cj] at ej
  exact h i j a ei ej
 ·rw [List.getElem?_append_left ci] at ei
  rw [List.getElem?_append_right (by lia)] at ej
  cases List.mem_singleton.mp (List.mem_of_getElem? ej)
  exact absurd (List.mem_of_getElem? ei) n
 ·rw [List.getElem?_append_left cj] at ej
  rw [List.getElem?_append_right (by lia)] at ei
  cases List.mem_singleton.mp (List.mem_of_getElem? ei)
  exact absurd (List.mem_of_getElem? ej) n
 ·rw [List.getElem?_append_right (by lia)] at ei ej
  have a1:=(List.getElem?_eq_some_iff.mp ei).1
  have a2:=(List.getElem?_eq_some_iff.mp ej).1
  simp at a1 a2
  lia
theorem StsAt.snoc {H:Hp}{ps:List Addr}{S:List Sto}{p:Addr}{r:Sto}(h:StsAt H ps S) (e:H p=some (.lst (r.map cV))):StsAt H (ps++[p]) (S++[r]):=by
 refine ⟨by simp [h.1],λ i r' er=>?_⟩
 by_cases c:i < S.length
 ·rw [List.getElem?_append_left c] at er
  obtain ⟨p',a,b⟩:=h.2 i r' er
  exact ⟨p',by rw [List.getElem?_append_left (by rw [h.1];exact c)];exact a,b⟩
 ·rw [List.getElem?_append_right (by lia)] at er
  cases k:i - S.length with
  | zero =>
   rw [k] at er
   cases er
   refine ⟨p,?_,e⟩
   rw [List.getElem?_append_right (by rw [h.1];lia),h.1,k];rfl
  | succ m=>rw [k] at er;cases er
theorem StsAt.put {H:Hp}{ps:List Addr}{S:List Sto}(h:StsAt H ps S) {k:Nat}{p:Addr}{r:Sto}(e:H p=some (.lst (r.map cV))):StsAt H (ps.set k p) (S.set k r):=by
 refine ⟨by rw [List.length_set,List.length_set,h.1],λ i r' er=>?_⟩
 rw [List.getElem?_set] at er
 by_cases c:k=i
 ·subst c
  rw [if_pos rfl] at er
  split at er
  ·rename_i kl
   cases er
   exact ⟨p,by rw [List.getElem?_set,if_pos rfl,if_pos (by rw [h.1];exact kl)],e⟩
  ·cases er
 ·rw [if_neg c] at er
  obtain ⟨p',a,b⟩:=h.2 i r' er
  exact ⟨p',by rw [List.getElem?_set,if_neg c];exact a,b⟩
theorem StsAt.wr {H H':Hp}{ps:List Addr}{S:List Sto}(h:StsAt H ps S) (ds:DsA ps) {k:Nat}{p:Addr}{r:Sto}(ek:ps[k]?=some p) (kp:∀a xs,a∈ps->a≠p->H a=some (.lst xs)->H' a=some (.lst xs)) (e:H' p=some (.lst (r.map cV))):StsAt H' ps (S.set k r):=by
 refine ⟨by rw [List.length_set,h.1],λ i r' er=>?_⟩
 rw [List.getElem?_set] at er
 by_cases c:k=i
 ·subst c
  rw [if_pos rfl] at er
  split at er
  ·cases er;exact ⟨p,ek,e⟩
  ·cases er
 ·rw [if_neg c] at er
  obtain ⟨p',a,b⟩:=h.2 i r' er
  exact ⟨p',a,kp _ _ (List.mem_of_getElem? a) (λ z=>c (ds _ _ _ ek (z ▸ a))) b⟩
theorem StsAt.mono {H H':Hp}{ps:List Addr}{S:List Sto}(h:StsAt H ps S) (u:∀a∈ps,∀xs,H a=some (.lst xs)->H' a=some (.lst xs)):StsAt H' ps S:=⟨h.1,λ k r e=>let ⟨p,a,b⟩:=h.2 k r e;⟨p,a,u p (List.mem_of_getElem? a) _ b⟩⟩
theorem StsAt.ne {H:Hp}{ps:List Addr}{S:List Sto}(h:StsAt H ps S) {a:Addr}(n:∀xs,H a≠some (.lst xs)):a ∉ ps:=λ m=>by
 obtain ⟨i,hi,e⟩:=List.getElem_of_mem m
 obtain ⟨p,ep,hp⟩:=h.2 i _ (List.getElem?_eq_getElem (by rw [← h.1];exact hi))
 rw [List.getElem?_eq_getElem hi,e] at ep
 cases ep
 exact n _ hp
def wsZ (Ls:List Lp):List Int:=Ls.map λ L=>(L.st:Int)
def z2c (Ls:List Lp) (i:Nat):List Int:=((List.range i).map λ k:Nat=>(k:Int)).filter λ k=>decide (k ∉ wsZ Ls)
def z4k (Z:List Nat):List Sto:=Z.map λ n=>List.replicate n none
def z4y (S:List Sto) (kx:List (Int × List Int)):List Sto:=kx.foldl (λ S p=>S.set p.1.toNat (p.2.map some)) S
structure WeftZ (H:Hp) (w lo ou:Addr) (Z:List Nat) (Ls:List Lp):Prop where
 all:∃(st0:Addr) (zs:List Addr),H w=some (.tup [.ref st0,.ref lo,.ref ou])/\H st0=some (.tup (zs.map V.ref))/\TupsAt H zs ((List.range 3).map λ k:Nat=>[(k:Int),((Z.getD k 0:Nat):Int)])
 hlo:∃las:List Addr,H lo=some (.tup (las.map V.ref))/\LpsAt H las Ls
 zl:Z.length=3
 z8:∀n∈Z,n≤8
 ll:Ls.length=3
 lk:∀L∈Ls,LpOk L
theorem WeftZ.up {H H':Hp}{w lo ou:Addr}{Z:List Nat}{Ls:List Lp}(h:WeftZ H w lo ou Z Ls) (u:UpT H H'):WeftZ H' w lo ou Z Ls :=
 ⟨let ⟨a,b,c,d,e⟩:=h.all;⟨a,b,u _ _ c,u _ _ d,e.up u⟩,let ⟨a,b,c⟩:=h.hlo;⟨a,u _ _ b,c.up u⟩,h.zl,h.z8,h.ll,h.lk⟩
def TabsZ (H:Hp) (ts:List Addr) (Xs:List (List Int)):Prop:=ts.length=Xs.length/\∀(i:Nat) (x:List Int),Xs[i]?=some x->∃t sa ca,ts[i]?=some t/\H t=some (.tup [.ref sa,.ref ca])/\H ca=some (.tup (x.map V.int))
theorem TabsZ.up {H H':Hp}{ts:List Addr}{Xs:List (List Int)}(h:TabsZ H ts Xs) (u:UpT H H'):TabsZ H' ts Xs:=⟨h.1,λ i x e=>let ⟨t,sa,ca,a,b,c⟩:=h.2 i x e;⟨t,sa,ca,a,u _ _ b,u _ _ c⟩⟩
def InpZ (H:Hp) (inp:Addr) (Xs:List (List Int)):Prop:=∃ts:List Addr,H inp=some (.tup (ts.map V.ref))/\TabsZ H ts Xs
theorem InpZ.up {H H':Hp}{inp:Addr}{Xs:List (List Int)}(h:InpZ H inp Xs) (u:UpT H H'):InpZ H' inp Xs:=let ⟨ts,a,b⟩:=h;⟨ts,u _ _ a,b.up u⟩
def z5t (Z:List Nat) (kx:List (Int × List Int)):Prop:=∀p∈kx,p.2.length=Z.getD p.1.toNat 0
def y7t (C:Addr):Sp:=λ vs H Q E=>∃(w inp lo ou:Addr) (Z:List Nat) (Ls:List Lp) (Xs:List (List Int)),vs=[.ref w,.ref inp]/\WeftZ H w lo ou Z Ls/\InpZ H inp Xs/\Xs.length=(z2c Ls 3).length/\(¬z5t Z ((z2c Ls 3).zip Xs)->∀H',Same H H'->E (.ref C) none H') /\
 (z5t Z ((z2c Ls 3).zip Xs)->∀H' lc cs,Same H H'->H lc=none->(∀c∈cs,H c=none)->lc ∉ cs->DsA cs->H' lc=some (.lst (cs.map V.ref))->StsAt H' cs (z4y (z4k Z) ((z2c Ls 3).zip Xs))->Q (.ref lc) H')
theorem z6v (Ls:List Lp) (i:Nat):z2c Ls (i+1)=z2c Ls i++if (i:Int)∈wsZ Ls then [] else [(i:Int)]:=by
 unfold z2c
 rw [List.range_succ,List.map_append,List.filter_append]
 congr 1
 by_cases c:(i:Int)∈wsZ Ls<;>simp [c]
theorem y3h {Ls:List Lp}{i:Nat}{k:Int}(h:k∈z2c Ls i):0≤k/\k < i:=by
 unfold z2c at h
 obtain ⟨j,hj,rfl⟩:=List.mem_map.mp (List.mem_filter.mp h).1
 have:=List.mem_range.mp hj
 lia
theorem y0h (Ls:List Lp) (i:Nat):(z2c Ls i).length≤i:=by
 unfold z2c
 have:=List.length_filter_le (λ k=>decide (k ∉ wsZ Ls)) ((List.range i).map λ k:Nat=>(k:Int))
 rwa [List.length_map,List.length_range] at this
theorem y0j (S:List Sto):∀kx:List (Int × List Int),(z4y S kx).length=S.length:=λ kx=>by
 unfold z4y
 induction kx generalizing S with
 | nil=>rfl
 | cons p kx ih=>rw [List.foldl_cons,ih,List.length_set]
theorem x4e {S:List Sto}{kx:List (Int × List Int)}{i:Nat}{p:Int × List Int}(e:kx[i]?=some p):z4y S (kx.take (i+1))=(z4y S (kx.take i)).set p.1.toNat (p.2.map some):=by
 unfold z4y
 rw [List.take_add_one,e,List.foldl_append];rfl
theorem y4k (xs:List Int):(xs.map some).map cV=xs.map V.int:=by rw [List.map_map];rfl
theorem x5g (n:Nat):(List.replicate n (none:Option Int)).map cV=List.replicate n V.non:=by rw [List.map_replicate];rfl
theorem w4z {H:Hp}{zs:List Addr}{Z:List Nat}(h:TupsAt H zs ((List.range 3).map λ k:Nat=>[(k:Int),((Z.getD k 0:Nat):Int)])) {k:Nat}(k3:k < 3):∃p,zs[k]?=some p/\H p=some (.tup [.int (k:Int),.int ((Z.getD k 0:Nat):Int)]):=by
 obtain ⟨p,a,b⟩:=h.2 k [(k:Int),((Z.getD k 0:Nat):Int)] (by rw [List.getElem?_map,List.getElem?_range k3];rfl)
 exact ⟨p,a,b⟩
theorem w2c {Z:List Nat}(h:∀n∈Z,n≤8) (k:Nat):Z.getD k 0≤8:=by
 rw [List.getD_eq_getElem?_getD]
 cases e:Z[k]? with
 | none=>exact Nat.zero_le _
 | some n=>exact h n (List.mem_of_getElem? e)
structure BA3 where
 dx:Addr
 lc:Addr
 d:Addr
 lg:Addr
 lo:Addr
 ou:Addr
 cs:List Addr
structure St3 where
 S:List Sto
 D:List (Nat × Nat)
 G:List (List Int)
 n:Int
def y3e (D:List (Nat × Nat)):List (List Key × V):=D.map λ k=>([Sum.inl (k.1:Int),Sum.inl (k.2:Int)],V.bl true)
def w6a (A:BA3) (n:Int):List (Str × V):=[(Str.ofString "cells",.ref A.lc),(Str.ofString "loops",.ref A.lo),(Str.ofString "outs",.ref A.ou),(Str.ofString "done",.ref A.d),(Str.ofString "calls",.int n),(Str.ofString "log",.ref A.lg)]
structure LsOk (Ls:List Lp):Prop where
 ll:Ls.length=3
 lk:∀L∈Ls,LpOk L
structure TOk (T:St3):Prop where
 sz:SZ T.S
 nd:T.D.Nodup
 lt:∀p∈T.D,p.1 < 3/\p.2 < 8
 gl:T.G.length≤3 * T.D.length
structure BenZ (CB:Addr) (H:Hp) (b:Addr) (A:BA3) (Ls:List Lp) (T:St3):Prop where
 hb:H b=some (.ins CB A.dx (w6a A T.n))
 hlc:H A.lc=some (.lst (A.cs.map V.ref))
 hcs:StsAt H A.cs T.S
 hd:H A.d=some (.dT (y3e T.D))
 hlg:∃ps:List Addr,H A.lg=some (.lst (ps.map V.ref))/\TupsAt H ps T.G
 n1:A.lc ∉ A.cs/\A.lg ∉ A.cs/\A.lc≠A.lg
 ds:DsA A.cs
 hlo:∃las:List Addr,H A.lo=some (.tup (las.map V.ref))/\LpsAt H las Ls
 ok:TOk T
 lk:LsOk Ls
theorem BenZ.same {CB:Addr}{H H':Hp}{b:Addr}{A:BA3}{Ls:List Lp}{T:St3}(h:BenZ CB H b A Ls T) (s:Same H H'):BenZ CB H' b A Ls T :=
 ⟨s _ _ h.hb,s _ _ h.hlc,h.hcs.same s,s _ _ h.hd,let ⟨ps,x,y⟩:=h.hlg;⟨ps,s _ _ x,y.up (.of s)⟩,h.n1,h.ds,let ⟨ps,x,y⟩:=h.hlo;⟨ps,s _ _ x,y.up (.of s)⟩,h.ok,h.lk⟩
def z5j (CB CU:Addr):Sp:=λ vs H Q E=>∃(b dx w inp lo ou:Addr) (Z:List Nat) (Ls:List Lp) (Xs:List (List Int)),vs=[.ref b,.ref w,.ref inp]/\H b=some (.ins CB dx [])/\WeftZ H w lo ou Z Ls/\InpZ H inp Xs/\Xs.length=(z2c Ls 3).length/\(¬z5t Z ((z2c Ls 3).zip Xs)->∀H',Same H H'->E (.ref CU) none H') /\
 (z5t Z ((z2c Ls 3).zip Xs)->∀H' A,Keep1 b H H'->H A.lc=none->(∀c∈A.cs,H c=none)->H A.d=none->H A.lg=none->(SZ (z4y (z4k Z) ((z2c Ls 3).zip Xs))->BenZ CB H' b A Ls ⟨z4y (z4k Z) ((z2c Ls 3).zip Xs),[],[],0⟩)->Q .non H')
def rkZ (Ls:List Lp) (k:Nat):Nat:=match Ls[k]? with | some L=>(z1t L.sd).toNat | none=>0
def y3v (Ls:List Lp) (i:Nat):List (Nat × Nat):=((List.range i).map λ k=>(List.range (rkZ Ls k)).map λ r=>(k,r)).flatten
def z3f (Ls:List Lp) (D:List (Nat × Nat)):List (Nat × Nat):=(y3v Ls 3).filter λ p=>decide (p ∉ D)
def prI (ks:List (Nat × Nat)):List (List Int):=ks.map λ k=>[(k.1:Int),(k.2:Int)]
theorem z5w (Ls:List Lp) (i:Nat):y3v Ls (i+1)=y3v Ls i++(List.range (rkZ Ls i)).map λ r=>(i,r):=by
 unfold y3v
 rw [List.range_succ,List.map_append,List.flatten_append]
 simp
theorem z6r (k:Nat × Nat):∀D:List (Nat × Nat),y2a (y3e D) [Sum.inl (k.1:Int),Sum.inl (k.2:Int)]=if k∈D then some (V.bl true) else none
 | []=>rfl
 | j::D=>by
  have ih:=z6r k D
  unfold y2a y3e at ih ⊢
  rw [List.map_cons,List.find?_cons]
  by_cases c:k=j
  ·subst c
   simp
  ·have n:¬(([Sum.inl (j.1:Int),Sum.inl (j.2:Int)]:List Key)=[Sum.inl (k.1:Int),Sum.inl (k.2:Int)]):=λ z=>by
    simp at z
    exact c (Prod.ext (by lia) (by lia))
   rw [decide_eq_false n]
   show Option.map _ (List.find? _ _)=_
   rw [ih]
   simp [c]
theorem y4d {D:List (Nat × Nat)}{k:Nat × Nat}(n:k ∉ D):y0p (y3e D) [Sum.inl (k.1:Int),Sum.inl (k.2:Int)] (V.bl true)=y3e (D++[k]):=by
 have a:((y3e D).any λ kv=>decide (kv.1=([Sum.inl (k.1:Int),Sum.inl (k.2:Int)]:List Key)))=false:=by
  rw [List.any_eq_false]
  intro kv hkv
  unfold y3e at hkv
  obtain ⟨j,hj,rfl⟩:=List.mem_map.mp hkv
  have:j≠k:=λ z=>n (z ▸ hj)
  simp
  intro h1 h2
  exact this (Prod.ext (by lia) (by lia))
 unfold y0p
 rw [if_neg (by rw [a];decide)]
 unfold y3e
 rw [List.map_append];rfl
theorem x6n {Ls:List Lp}(h:LsOk Ls) (k:Nat):rkZ Ls k≤8:=by
 unfold rkZ
 cases e:Ls[k]? with
 | none=>exact Nat.zero_le _
 | some L=>have:=(h.lk L (List.mem_of_getElem? e)).2.2.2.1;show (z1t L.sd).toNat≤8;lia
theorem y0o {Ls:List Lp}(h:LsOk Ls):∀i,(y3v Ls i).length≤8 * i
 | 0=>Nat.le_refl _
 | i+1=>by rw [z5w,List.length_append,List.length_map,List.length_range];have:=y0o h i;have:=x6n h i;lia
def z7g (CB:Addr):Sp:=λ vs H Q _=>∃(b:Addr) (A:BA3) (Ls:List Lp) (T:St3),vs=[.ref b]/\BenZ CB H b A Ls T/\∀H' l ps,Same H H'->H l=none->H' l=some (.lst (ps.map V.ref))->TupsAt H' ps (prI (z3f Ls T.D))->Q (.ref l) H'
def z9k (CB:Addr):Sp:=λ vs H Q _=>∃(b:Addr) (A:BA3) (Ls:List Lp) (T:St3),vs=[.ref b]/\BenZ CB H b A Ls T/\Q (.int T.n) H
def y7q (CB:Addr):Sp:=λ vs H Q _=>∃(b:Addr) (A:BA3) (Ls:List Lp) (T:St3),vs=[.ref b]/\BenZ CB H b A Ls T/\∀H' l ps,Same H H'->H l=none->H' l=some (.lst (ps.map V.ref))->TupsAt H' ps T.G->Q (.ref l) H'
def z9c (CB:Addr):Sp:=λ vs H Q _=>∃(b:Addr) (A:BA3) (Ls:List Lp) (T:St3) (k:Nat) (r:Sto),vs=[.ref b,.int (k:Int)]/\BenZ CB H b A Ls T/\T.S[k]?=some r/\∀H' l,Same H H'->H l=none->H' l=some (.lst (r.map cV))->Q (.ref l) H'
def y2f (CB C:Addr):Sp:=λ vs H Q E=>∃(b:Addr) (A:BA3) (Ls:List Lp) (T:St3),vs=[.ref b]/\BenZ CB H b A Ls T/\z3f Ls T.D≠[]/\∀H',Same H H'->E (.ref C) none H'
theorem x8l {D:List Nat}{n:Nat}(nd:D.Nodup) (h:∀k∈D,k < n):D.length≤n:=by
 have:=nd.length_le_of_subset (λ k hk=>List.mem_range.mpr (h k hk):D ⊆ List.range n)
 rwa [List.length_range] at this
instance (r:Sto) (sp:List Int):Decidable (okW r sp):=by unfold okW;infer_instance
inductive Oc where
 | none | wait | stuck | ok (rows:List (Int × Int)) (c:Int)
def y5q (r:Sto):Rr->Oc
 | .wait=>.wait
 | .stuck=>.stuck
 | .ok _ rows c=>if okW r (rows.map (·.1)) then .ok rows c else .stuck
def doZ (Ls:List Lp) (T:St3) (lo r:Int):Oc:=if lo < 0\/r < 0 then .none else match Ls[lo.toNat]? with
 | none=>.none
 | some L=>if z1t L.sd≤r\/(lo.toNat,r.toNat)∈T.D then .none else y5q (T.S.getD L.st []) (z8c T.S L (atD L.sd r))
def y6r (r:Sto) (rows:List (Int × Int)):Sto:=rows.foldl (λ r p=>r.set p.1.toNat (some p.2)) r
def y6v (lo r st:Nat) (rows:List (Int × Int)):List (List Int):=rows.map λ p=>[(lo:Int),(r:Int),(st:Int),p.1,p.2]
def nxZ (L:Lp) (T:St3) (lo r:Nat) (rows:List (Int × Int)) (c:Int):St3:=⟨T.S.set L.st (y6r (T.S.getD L.st []) rows),T.D++[(lo,r)],T.G++y6v lo r L.st rows,T.n+c⟩
def KeepZ (b:Addr) (A:BA3) (H H':Hp):Prop:=∀a o,a≠b->a ∉ A.cs->a≠A.d->a≠A.lg->H a=some o->H' a=some o
def x6c (CB CR CN CS:Addr):Sp:=λ vs H Q E=>∃(b:Addr) (A:BA3) (Ls:List Lp) (T:St3) (lo r:Int),vs=[.ref b,.int lo,.int r]/\BenZ CB H b A Ls T/\(doZ Ls T lo r=.none->∀H',Same H H'->E (.ref CR) none H')/\(doZ Ls T lo r=.wait->∀H',Same H H'->E (.ref CN) none H')/\(doZ Ls T lo r=.stuck->∀H',Same H H'->E (.ref CS) none H') /\
 (∀rows c L,doZ Ls T lo r=.ok rows c->Ls[lo.toNat]?=some L->∀H',KeepZ b A H H'->BenZ CB H' b A Ls (nxZ L T lo.toNat r.toNat rows c)->Q (.bl true) H')
theorem z6h {Ls:List Lp}{T:St3}{lo r:Nat}{L:Lp}(e:Ls[lo]?=some L):doZ Ls T lo r=if z1t L.sd≤r\/(lo,r)∈T.D then .none else y5q (T.S.getD L.st []) (z8c T.S L (atD L.sd r)):=by
 unfold doZ
 rw [if_neg (by lia),Int.toNat_natCast,Int.toNat_natCast,e]
theorem w2p {L:Lp}(h:LpOk L) {r:Nat}(hr:(r:Int) < z1t L.sd):x8z (atD L.sd (r:Int)):=by
 have g:=x4v h.sd (Int.natCast_nonneg r) hr
 refine ⟨by rw [g.1];have:=h.2.1;lia,λ x hx=>?_⟩
 obtain ⟨i,hi,e⟩:=List.getElem_of_mem hx
 have il:i < L.sd.length:=by rw [← g.1];exact hi
 have b:=g.2 i x (L.sd[i]) (by rw [List.getElem?_eq_getElem hi,e]) (List.getElem?_eq_getElem il)
 have:=h.2.2.1 _ (List.getElem_mem il)
 lia
theorem x5f {S:List Sto}(hs:SZ S) {L:Lp}(h:LpOk L) {c:List Int}(cl:c.length=L.sd.length) {a k:Int}{rows:List (Int × Int)}(e:z8c S L c=.ok a rows k):rows.length≤3/\∀p∈rows,inB p.2:=by
 unfold z8c at e
 cases rn:L.run with
 | none =>
  rw [rn] at e
  have e:x4d (L.s0+z4s L.ss c) (evZ S L.t c)=.ok a rows k:=e
  cases ev:evZ S L.t c with
  | ok v n =>
   rw [ev] at e
   cases e
   exact ⟨by simp,λ p hp=>by cases List.mem_singleton.mp hp;exact x0p hs h.2.2.2.2.2.1 ev⟩
  | wait=>rw [ev] at e;cases e
  | stuck=>rw [ev] at e;cases e
 | some wm =>
  obtain ⟨w,m⟩:=wm
  rw [rn] at e
  have e:z8f S w L.t L.s0 L.ss c m=.ok a rows k:=e
  obtain ⟨hw,m3⟩:=h.2.2.2.2.2.2.2 w m rn
  have tg:TrG (c.length+1) L.t:=by
   have:=h.2.2.2.2.2.1
   unfold y9a at this
   rw [rn] at this
   rw [cl];exact this
  obtain ⟨_,l,b⟩:=y0x hs hw tg e
  exact ⟨by lia,b⟩
theorem y2t (r:Sto):∀rows:List (Int × Int),(y6r r rows).length=r.length:=λ rows=>by
 unfold y6r
 induction rows generalizing r with
 | nil=>rfl
 | cons p rows ih=>rw [List.foldl_cons,ih,List.length_set]
theorem y4c {r:Sto}{rows:List (Int × Int)}{i:Nat}{p:Int × Int}(e:rows[i]?=some p):y6r r (rows.take (i+1))=(y6r r (rows.take i)).set p.1.toNat (some p.2):=by
 unfold y6r
 rw [List.take_add_one,e,List.foldl_append];rfl
theorem w1a {rows:List (Int × Int)}:∀ {r:Sto},(∀n,some n∈r->inB n)->(∀p∈rows,inB p.2)->∀n,some n∈y6r r rows->inB n:=by
 induction rows with
 | nil=>intro r h _ n hn;exact h n hn
 | cons p rows ih =>
  intro r h hp n hn
  refine ih (r:=r.set p.1.toNat (some p.2)) (λ m hm=>?_) (λ q hq=>hp q (List.mem_cons_of_mem _ hq)) n hn
  rcases List.mem_or_eq_of_mem_set hm with z | z
  ·exact h m z
  ·cases z;exact hp p (List.mem_cons_self ..)
theorem y4r {lo r st:Nat}{rows:List (Int × Int)}{i:Nat}{p:Int × Int}(e:rows[i]?=some p):y6v lo r st (rows.take (i+1))=y6v lo r st (rows.take i)++[[(lo:Int),(r:Int),(st:Int),p.1,p.2]]:=by
 unfold y6v
 rw [List.take_add_one,e,List.map_append];rfl
theorem x4w {T:St3}(h:TOk T):T.D.length≤24:=by
 have nd:(T.D.map λ p=>p.1 * 8+p.2).Nodup:=by
  have:=h.nd
  have lt:=h.lt
  generalize T.D=D at *
  induction D with
  | nil=>exact List.nodup_nil
  | cons p D ih =>
   rw [List.nodup_cons] at this
   rw [List.map_cons,List.nodup_cons]
   refine ⟨λ z=>?_,ih this.2 (λ q hq=>lt q (List.mem_cons_of_mem _ hq))⟩
   obtain ⟨q,hq,e⟩:=List.mem_map.mp z
   have l1:=lt p (List.mem_cons_self ..)
   have l2:=lt q (List.mem_cons_of_mem _ hq)
   exact this.1 ((show q=p from Prod.ext (by lia) (by lia)) ▸ hq)
 have:=x8l (n:=24) nd (λ k hk=>by
  obtain ⟨q,hq,rfl⟩:=List.mem_map.mp hk
  have:=h.lt q hq
  lia)
 rwa [List.length_map] at this
theorem w4d {L:Lp}(h:LpOk L) {T:St3}(t:TOk T) {lo r:Nat}(lo3:lo < 3) (hr:(r:Int) < z1t L.sd) (n:(lo,r) ∉ T.D) {rows:List (Int × Int)}(r3:rows.length≤3) (rb:∀p∈rows,inB p.2) (c:Int):TOk (nxZ L T lo r rows c):=by
 have st3:L.st < T.S.length:=by rw [t.sz.1];have:=h.1;lia
 have hm:=y1j st3
 refine ⟨⟨by show (T.S.set _ _).length=3;rw [List.length_set,t.sz.1],λ x hx=>?_⟩,?_,λ p hp=>?_,?_⟩
 ·rcases List.mem_or_eq_of_mem_set hx with z | z
  ·exact t.sz.2 x z
  ·subst z
   exact ⟨by rw [y2t];exact (t.sz.2 _ hm).1,w1a (t.sz.2 _ hm).2 rb⟩
 ·show (T.D++[(lo,r)]).Nodup
  rw [List.nodup_append]
  refine ⟨t.nd,by simp,λ a ha b hb z=>?_⟩
  cases List.mem_singleton.mp hb
  exact n (z ▸ ha)
 ·rcases List.mem_append.mp hp with z | z
  ·exact t.lt p z
  ·cases List.mem_singleton.mp z
   have:=h.2.2.2.1
   exact ⟨lo3,by show r < 8;lia⟩
 ·show (T.G++y6v lo r L.st rows).length≤3 * (T.D++[(lo,r)]).length
  rw [List.length_append,List.length_append,y6v,List.length_map]
  have:=t.gl
  simp only [List.length_cons,List.length_nil]
  lia
theorem BenZ.tn {CB:Addr}{H:Hp}{b:Addr}{A:BA3}{Ls:List Lp}{T:St3}(h:BenZ CB H b A Ls T) {a:Addr}{xs:List V}(e:H a=some (.tup xs)):a≠b/\a ∉ A.cs/\a≠A.d/\a≠A.lg :=
 ⟨z8j e h.hb (by intro z;cases z),h.hcs.ne (λ xs z=>by rw [e] at z;cases z),z8j e h.hd (by intro z;cases z),let ⟨_,h1,_⟩:=h.hlg;z8j e h1 (by intro z;cases z)⟩
theorem BenZ.bn {CB:Addr}{H:Hp}{b:Addr}{A:BA3}{Ls:List Lp}{T:St3}(h:BenZ CB H b A Ls T):b ∉ A.cs/\b≠A.d/\b≠A.lg :=
 ⟨h.hcs.ne (λ xs z=>by rw [h.hb] at z;cases z),z8j h.hb h.hd (by intro z;cases z),let ⟨_,h1,_⟩:=h.hlg;z8j h.hb h1 (by intro z;cases z)⟩
theorem BenZ.dn {CB:Addr}{H:Hp}{b:Addr}{A:BA3}{Ls:List Lp}{T:St3}(h:BenZ CB H b A Ls T):A.d ∉ A.cs/\A.d≠A.lg :=
 ⟨h.hcs.ne (λ xs z=>by rw [h.hd] at z;cases z),let ⟨_,h1,_⟩:=h.hlg;z8j h.hd h1 (by intro z;cases z)⟩
theorem BenZ.ln {CB:Addr}{H:Hp}{b:Addr}{A:BA3}{Ls:List Lp}{T:St3}(h:BenZ CB H b A Ls T) {a:Addr}{xs:List V}(e:H a=some (.lst xs)):a≠b/\a≠A.d:=⟨z8j e h.hb (by intro z;cases z),z8j e h.hd (by intro z;cases z)⟩
theorem y9f {X:Cx}{e:Expr}{t t':TE}(h:PE X e t) (f:∀σ H Q,t' σ H Q->t σ H Q):PE X e t':=λ pins s σ H Q I q=>h pins s σ H Q I (f _ _ _ q)
theorem y4i {X:Cx}{es:List Expr}{t t':TA}(h:PA X es t) (f:∀σ H Q,t' σ H Q->t σ H Q):PA X es t':=λ pos pins s σ H Q I q=>h pos pins s σ H Q I (f _ _ _ q)
def x2d (g:List Int):TA:=λ _ H Q=>Q (g.map V.int) H
def tT (g:List Int):TE:=λ _ H Q=>∀p,H p=none->Q (.ref p) (upd H p (.tup (g.map V.int)))
def tTs (gs:List (List Int)):TA:=λ _ H Q=>∀H' ps,Same H H'->TupsAt H' ps gs->Q (ps.map V.ref) H'
def y7i (gs:List (List Int)):TE:=λ _ H Q=>∀H' l ps,Same H H'->H' l=some (.lst (ps.map V.ref))->TupsAt H' ps gs->Q (.ref l) H'
theorem y6t {X:Cx}:PA X [] (x2d []):=y4i z0e λ _ _ _ h=>h
theorem z5d {X:Cx}{e:Expr}{es:List Expr}{i:Int}{g:List Int}(h:PE X e (tC (.int i))) (r:PA X es (x2d g)) (hs:starEach (e::es) X.env=(false,eval e X.env)::starEach es X.env):PA X (e::es) (x2d (i::g)):=y4i (z0a h r hs) λ _ _ _ h=>h
theorem w5u {X:Cx}{e:Expr}{i:Int}{pos:Pos}(h:PE X e (tC (.int i))):PE X (.UnaryOp .USub e pos) (tC (.int (-i))):=y9f (z6e z3k h) λ _ _ _ h=>⟨i,rfl,h⟩
theorem ptT {X:Cx}{es:List Expr}{k:Nat}{pos:Pos}{g:List Int}(h:PA X es (x2d g)) (hl:g.length≤1000):PE X (.Tuple es k pos) (tT g):=y9f (z0x h) λ _ _ _ q=>⟨small (by rw [List.length_map];exact hl),q⟩
theorem TupsAt.cons {H:Hp}{p:Addr}{ps:List Addr}{g:List Int}{gs:List (List Int)}(e:H p=some (.tup (g.map V.int))) (h:TupsAt H ps gs):TupsAt H (p::ps) (g::gs):=by
 refine ⟨by simp [h.1],λ i g' eg=>?_⟩
 cases i with
 | zero=>cases eg;exact ⟨p,rfl,e⟩
 | succ i=>exact h.2 i g' eg
theorem w5t {X:Cx}:PA X [] (tTs []):=y4i z0e λ _ H _ h=>h H [] (Same.refl _) TupsAt.nil
theorem y6s {X:Cx}{es r:List Expr}{k:Nat}{pos:Pos}{g:List Int}{gs:List (List Int)}(h:PE X (.Tuple es k pos) (tT g)) (hr:PA X r (tTs gs)):PA X (.Tuple es k pos::r) (tTs (g::gs)) :=
 y4i (z7s h hr) λ _ _ _ q p hp H' ps s ts=>q H' (p::ps) ((z0b hp _).trans s) (.cons (s _ _ z0f) ts)
theorem ptL {X:Cx}{es:List Expr}{pos:Pos}{gs:List (List Int)}(h:PA X es (tTs gs)) (hl:gs.length≤1000):PE X (.List es pos) (y7i gs) :=
 y9f (z1n h) λ _ _ _ q H' ps s ts=>⟨small (by rw [List.length_map,ts.1];exact hl),λ p hp=>q _ p ps (s.trans (z0b hp _)) z0f (ts.up (.of (z0b hp _)))⟩
def stF:List (List Int):=[[1,1,1],[2,1,1],[1,0,1],[0,1,1],[1,2,0],[-1,1,1]]
def w6u:List (List Int):=[[2,1],[1,1],[0,1],[3,-1],[2,1],[2,1]]
theorem x5o (xs:List Int) (k:Nat):y3p (xs.map V.int) none (some (k:Int))=(xs.take k).map V.int:=by
 unfold y3p
 simp only [HT.sIx,List.length_map]
 rw [if_neg (by lia),Int.toNat_natCast,List.drop_zero,Nat.sub_zero,List.map_take]
 by_cases c:k≤xs.length
 ·rw [Nat.min_eq_left c]
 ·rw [Nat.min_eq_right (by lia),List.take_of_length_le (by rw [List.length_map];exact Nat.le_refl _),List.take_of_length_le (by rw [List.length_map];lia)]
theorem y0n (xs:List Int) (k:Nat):y3p (xs.map V.int) (some (k:Int)) none=(xs.drop k).map V.int:=by
 unfold y3p
 simp only [HT.sIx,List.length_map]
 rw [if_neg (by lia),Int.toNat_natCast,List.map_drop]
 by_cases c:k≤xs.length
 ·rw [Nat.min_eq_left c,List.take_of_length_le (by rw [List.length_drop,List.length_map];lia)]
 ·rw [Nat.min_eq_right (by lia),List.drop_eq_nil_of_le (by rw [List.length_map];lia),List.drop_eq_nil_of_le (by rw [List.length_map];lia)];simp
theorem z6l {xs:List Int}{i:Int}(h0:0≤i) (h1:i < xs.length):∃v,v∈xs/\atI (xs.map V.int) i=some (.int v):=by
 have il:i.toNat < xs.length:=by lia
 refine ⟨xs[i.toNat],List.getElem_mem il,?_⟩
 have z:=z0i (xs:=xs.map V.int) (j:=i.toNat) (v:=.int xs[i.toNat]) (by rw [List.getElem?_map,List.getElem?_eq_getElem il];rfl)
 rwa [show ((i.toNat:Nat):Int)=i by lia] at z
theorem TupsAt.ix {H:Hp}{ps:List Addr}{gs:List (List Int)}(h:TupsAt H ps gs) {i:Int}(h0:0≤i) (h1:i < gs.length):∃p g,g∈gs/\atI (ps.map V.ref) i=some (.ref p)/\H p=some (.tup (g.map V.int)):=by
 have il:i.toNat < gs.length:=by lia
 obtain ⟨p,ep,hp⟩:=h.2 i.toNat _ (List.getElem?_eq_getElem il)
 refine ⟨p,gs[i.toNat],List.getElem_mem il,?_,hp⟩
 have z:=z0i (xs:=ps.map V.ref) (j:=i.toNat) (v:=.ref p) (by rw [List.getElem?_map,ep];rfl)
 rwa [show ((i.toNat:Nat):Int)=i by lia] at z
def z5h:Sp:=λ vs H Q _=>∃(n:Int) (cnt:Nat),vs=[.int n,.int cnt]/\1≤cnt/\cnt≤3/\∀H' t T,Same H H'->TrAt H' t T->TrG cnt T->dep T≤1->Q (.ref t) H'
theorem w7g {X:Cx}:PE X (.List [(.Tuple [(.Constant (.int 1) 0 ⟨268,16,268,17⟩),(.Constant (.int 1) 0 ⟨268,19,268,20⟩),(.Constant (.int 1) 0 ⟨268,22,268,23⟩)] 0 ⟨268,15,268,24⟩),(.Tuple [(.Constant (.int 2) 0 ⟨268,27,268,28⟩),(.Constant (.int 1) 0 ⟨268,30,268,31⟩),(.Constant (.int 1) 0 ⟨268,33,268,34⟩)] 0 ⟨268,26,268,35⟩),(.Tuple [(.Constant (.int 1) 0 ⟨268,38,268,39⟩),(.Constant (.int 0) 0 ⟨268,41,268,42⟩),(.Constant (.int 1) 0 ⟨268,44,268,45⟩)] 0 ⟨268,37,268,46⟩),(.Tuple [(.Constant (.int 0) 0 ⟨268,49,268,50⟩),(.Constant (.int 1) 0 ⟨268,52,268,53⟩),(.Constant (.int 1) 0 ⟨268,55,268,56⟩)] 0 ⟨268,48,268,57⟩),(.Tuple [(.Constant (.int 1) 0 ⟨268,60,268,61⟩),(.Constant (.int 2) 0 ⟨268,63,268,64⟩),(.Constant (.int 0) 0 ⟨268,66,268,67⟩)] 0 ⟨268,59,268,68⟩),(.Tuple [(.UnaryOp .USub (.Constant (.int 1) 0 ⟨268,72,268,73⟩) ⟨268,71,268,73⟩),(.Constant (.int 1) 0 ⟨268,75,268,76⟩),(.Constant (.int 1) 0 ⟨268,78,268,79⟩)] 0 ⟨268,70,268,80⟩)] ⟨268,14,268,81⟩) (y7i [[1,1,1],[2,1,1],[1,0,1],[0,1,1],[1,2,0],[-1,1,1]]):=by
 refine @ptL _ _ _ _ ?_ (by decide)
 refine @y6s _ _ _ _ _ _ _ (@ptT _ _ _ _ _ (@z5d _ _ _ _ _ (@z0c _ _ _ _) (@z5d _ _ _ _ _ (@z0c _ _ _ _) (@z5d _ _ _ _ _ (@z0c _ _ _ _) y6t rfl) rfl) rfl) (by decide)) ?_
 refine @y6s _ _ _ _ _ _ _ (@ptT _ _ _ _ _ (@z5d _ _ _ _ _ (@z0c _ _ _ _) (@z5d _ _ _ _ _ (@z0c _ _ _ _) (@z5d _ _ _ _ _ (@z0c _ _ _ _) y6t rfl) rfl) rfl) (by decide)) ?_
 refine @y6s _ _ _ _ _ _ _ (@ptT _ _ _ _ _ (@z5d _ _ _ _ _ (@z0c _ _ _ _) (@z5d _ _ _ _ _ (@z0c _ _ _ _) (@z5d _ _ _ _ _ (@z0c _ _ _ _) y6t rfl) rfl) rfl) (by decide)) ?_
 refine @y6s _ _ _ _ _ _ _ (@ptT _ _ _ _ _ (@z5d _ _ _ _ _ (@z0c _ _ _ _) (@z5d _ _ _ _ _ (@z0c _ _ _ _) (@z5d _ _ _ _ _ (@z0c _ _ _ _) y6t rfl) rfl) rfl) (by decide)) ?_
 refine @y6s _ _ _ _ _ _ _ (@ptT _ _ _ _ _ (@z5d _ _ _ _ _ (@z0c _ _ _ _) (@z5d _ _ _ _ _ (@z0c _ _ _ _) (@z5d _ _ _ _ _ (@z0c _ _ _ _) y6t rfl) rfl) rfl) (by decide)) ?_
 refine @y6s _ _ _ _ _ _ _ (@ptT _ _ _ _ _ (@z5d _ _ _ _ _ (@w5u _ _ _ _ (@z0c _ _ _ _)) (@z5d _ _ _ _ _ (@z0c _ _ _ _) (@z5d _ _ _ _ _ (@z0c _ _ _ _) y6t rfl) rfl) rfl) (by decide)) ?_
 exact w5t
theorem w7f {X:Cx}:PE X (.List [(.Tuple [(.Constant (.int 2) 0 ⟨284,14,284,15⟩),(.Constant (.int 1) 0 ⟨284,17,284,18⟩)] 0 ⟨284,13,284,19⟩),(.Tuple [(.Constant (.int 1) 0 ⟨284,22,284,23⟩),(.Constant (.int 1) 0 ⟨284,25,284,26⟩)] 0 ⟨284,21,284,27⟩),(.Tuple [(.Constant (.int 0) 0 ⟨284,30,284,31⟩),(.Constant (.int 1) 0 ⟨284,33,284,34⟩)] 0 ⟨284,29,284,35⟩),(.Tuple [(.Constant (.int 3) 0 ⟨284,38,284,39⟩),(.UnaryOp .USub (.Constant (.int 1) 0 ⟨284,42,284,43⟩) ⟨284,41,284,43⟩)] 0 ⟨284,37,284,44⟩),(.Tuple [(.Constant (.int 2) 0 ⟨284,47,284,48⟩),(.Constant (.int 1) 0 ⟨284,50,284,51⟩)] 0 ⟨284,46,284,52⟩),(.Tuple [(.Constant (.int 2) 0 ⟨284,55,284,56⟩),(.Constant (.int 1) 0 ⟨284,58,284,59⟩)] 0 ⟨284,54,284,60⟩)] ⟨284,12,284,61⟩) (y7i [[2,1],[1,1],[0,1],[3,-1],[2,1],[2,1]]):=by
 refine @ptL _ _ _ _ ?_ (by decide)
 refine @y6s _ _ _ _ _ _ _ (@ptT _ _ _ _ _ (@z5d _ _ _ _ _ (@z0c _ _ _ _) (@z5d _ _ _ _ _ (@z0c _ _ _ _) y6t rfl) rfl) (by decide)) ?_
 refine @y6s _ _ _ _ _ _ _ (@ptT _ _ _ _ _ (@z5d _ _ _ _ _ (@z0c _ _ _ _) (@z5d _ _ _ _ _ (@z0c _ _ _ _) y6t rfl) rfl) (by decide)) ?_
 refine @y6s _ _ _ _ _ _ _ (@ptT _ _ _ _ _ (@z5d _ _ _ _ _ (@z0c _ _ _ _) (@z5d _ _ _ _ _ (@z0c _ _ _ _) y6t rfl) rfl) (by decide)) ?_
 refine @y6s _ _ _ _ _ _ _ (@ptT _ _ _ _ _ (@z5d _ _ _ _ _ (@z0c _ _ _ _) (@z5d _ _ _ _ _ (@w5u _ _ _ _ (@z0c _ _ _ _)) y6t rfl) rfl) (by decide)) ?_
 refine @y6s _ _ _ _ _ _ _ (@ptT _ _ _ _ _ (@z5d _ _ _ _ _ (@z0c _ _ _ _) (@z5d _ _ _ _ _ (@z0c _ _ _ _) y6t rfl) rfl) (by decide)) ?_
 refine @y6s _ _ _ _ _ _ _ (@ptT _ _ _ _ _ (@z5d _ _ _ _ _ (@z0c _ _ _ _) (@z5d _ _ _ _ _ (@z0c _ _ _ _) y6t rfl) rfl) (by decide)) ?_
 exact w5t
theorem x7r {xs:List Str}{i:Int}(h0:0≤i) (h1:i < xs.length):∃v,v∈xs/\atI (xs.map V.str) i=some (.str v):=by
 have il:i.toNat < xs.length:=by lia
 refine ⟨xs[i.toNat],List.getElem_mem il,?_⟩
 have z:=z0i (xs:=xs.map V.str) (j:=i.toNat) (v:=.str xs[i.toNat]) (by rw [List.getElem?_map,List.getElem?_eq_getElem il];rfl)
 rwa [show ((i.toNat:Nat):Int)=i by lia] at z
def w3p (sd:List Int):Prop:=(sd.length=1\/sd.length=2)/\(∀x∈sd,0≤x/\x≤4)/\z1t sd≤8
def z7h:Sp:=λ vs H Q _=>∃n:Int,vs=[.int n]/\∀H' a L,Same H H'->LpAt H' a L->LpOk L->Q (.ref a) H'
theorem w0a {v:Int}(h:0≤v/\v≤4):w3p [v]:=⟨.inl rfl,λ x hx=>by cases List.mem_singleton.mp hx;exact h,by show 1 * v≤8;lia⟩
theorem x9z {v w:Int}(h:0≤v/\v≤4) (hw:w=1\/w=2):w3p [v,w]:=by
 refine ⟨.inr rfl,λ x hx=>?_,?_⟩
 ·simp only [List.mem_cons,List.not_mem_nil,or_false] at hx
  rcases hx with rfl | rfl<;>lia
 ·show 1 * v * w≤8
  rcases hw with rfl | rfl<;>lia
def z3g:Sp:=λ vs H Q _=>∃(w:Str) (x y:Int),vs=[.str w,.int x,.int y]/\(w∈(["add","max","xor"]:List Str)\/w=Str.ofString "sub")/\Q (.int (z1w w x y)) H
theorem y4s:∀ {ss c:List Int}{i:Nat}{s x:Int},ss[i]?=some s->c[i]?=some x->z4s (ss.take (i+1)) (c.take (i+1))=z4s (ss.take i) (c.take i)+s * x
 | a::ss,b::c,0,s,x,h1,h2=>by cases h1;cases h2;show a * b+z4s (ss.take 0) (c.take 0)=z4s [] [] + a * b;simp [z4s]
 | a::ss,b::c,i+1,s,x,h1,h2=>by
  have ih:=y4s (ss:=ss) (c:=c) (i:=i) (s:=s) (x:=x) h1 h2
  show a * b+z4s (ss.take (i+1)) (c.take (i+1))=a * b+z4s (ss.take i) (c.take i)+s * x
  rw [ih];lia
 | [],_,_,_,_,h1,_=>by simp at h1
 | _::_,[],_,_,_,_,h2=>by simp at h2
def z2y:Sp:=λ vs H Q _=>∃(s0:Int) (p a:Addr) (ss c:List Int),vs=[.int s0,.ref p,.ref a]/\H p=some (.tup (ss.map V.int))/\H a=some (.tup (c.map V.int))/\c.length=ss.length/\x8z c/\∀H',Same H H'->Q (.int (s0+z4s ss c)) H'
def x8t (z:Rz) (w:Str) (v n:Int):Prop:=(z=.wait->w=Str.ofString "wait")/\(z=.stuck->w=Str.ofString "stuck")/\∀v' n',z=.ok v' n'->w=Str.ofString "" /\ v=v'/\n=n'
def z3r:Nat->Sp:=λ d=>match d with | 0=>λ _ _ _ _=>False | d+1=>λ vs H Q _=>∃(t a st:Addr) (T:Tr) (c:List Int) (S:List Sto),vs=[.ref t,.ref a,.ref st]/\TrAt H t T/\dep T≤d/\TrG c.length T/\Env58 H a st c S/\∀H' p w v n,Same H H'->H' p=some (.tup [.str w,.int v,.int n])->x8t (evZ S T c) w v n->Q (.ref p) H'
theorem z4e {z:Rz}{w:Str}{v n:Int}(h:x8t z w v n):(w=Str.ofString "" /\ z=.ok v n)\/(w≠Str.ofString "" /\ ((z=.wait/\w=Str.ofString "wait")\/(z=.stuck/\w=Str.ofString "stuck"))):=by
 cases z with
 | ok v' n'=>obtain ⟨a,b,c⟩:=h.2.2 v' n' rfl;exact .inl ⟨a,by rw [b,c]⟩
 | wait=>exact .inr ⟨by rw [h.1 rfl];decide +kernel,.inl ⟨rfl,h.1 rfl⟩⟩
 | stuck=>exact .inr ⟨by rw [h.2.1 rfl];decide +kernel,.inr ⟨rfl,h.2.1 rfl⟩⟩
theorem x2v (x:Int):y1d (Str.ofString "neg") x=z1w (Str.ofString "sub") 0 x:=by
 rw [show z1w (Str.ofString "sub") 0 x=z5e (0 - x) from y7c 0 x]
 unfold y1d
 rw [if_pos rfl,Int.zero_sub]
def w6e (z:Rr) (w:Str) (rows:List (Int × Int)) (n:Int):Prop:=(z=.wait->w=Str.ofString "wait")/\(z=.stuck->w=Str.ofString "stuck")/\∀a rows' n',z=.ok a rows' n'->w=Str.ofString "" /\ rows=rows'/\n=n'
theorem w4q {w:Str}(h:w∈(["add","max","xor"]:List Str)):y2a (z7u [] [((Sum.inr (Str.ofString "add"):Key),V.int 0),(Sum.inr (Str.ofString "max"),V.int (-9223372036854775808)),(Sum.inr (Str.ofString "xor"),V.int 0)]) (Sum.inr w)=some (.int (y6f w)):=by
 simp only [List.mem_cons,List.not_mem_nil,or_false] at h
 rcases h with rfl | rfl | rfl<;>decide +kernel
def z9g:Sp:=λ vs H Q _=>∃(lp a st:Addr) (L:Lp) (c:List Int) (S:List Sto),vs=[.ref lp,.ref a,.ref st]/\LpAt H lp L/\LpOk L/\c.length=L.sd.length/\Env58 H a st c S/\∀H' p l ps w rows n,Same H H'->H l=none->H' p=some (.tup [.str w,.ref l,.int n])->H' l=some (.lst (ps.map V.ref))->RowsAt H' ps rows->rows.length≤3->w6e (z8c S L c) w rows n->Q (.ref p) H'
theorem x8q {s i:Int}(h0:0≤i) (h1:i < s):atD [s] i=[i]:=by
 simp [atD,dgL,dgI,List.range_succ,lfI]
 exact Int.emod_eq_of_lt h0 h1
theorem x8p {s t i:Int}(tp:0 < t) (h0:0≤i) (h1:i < s * t):atD [s,t] i=[i / t,i % t]:=by
 have a:0≤i / t:=Int.ediv_nonneg h0 (by lia)
 have b:i / t < s:=Int.ediv_lt_of_lt_mul tp h1
 simp [atD,dgL,dgI,List.range_succ,lfI]
 exact Int.emod_eq_of_lt a b
def z2m:Sp:=λ vs H Q _=>∃(lp:Addr) (L:Lp),vs=[.ref lp]/\LpAt H lp L/\LpOk L/\∀H' l ps,Same H H'->H' l=some (.lst (ps.map V.ref))->TupsAt H' ps ((List.range (z1t L.sd).toNat).map λ r:Nat=>atD L.sd (r:Int))->Q (.ref l) H'
structure LawE (H:Hp) (la sa da:Addr) (scs:List Addr) (Ls:List Lp) (T:St3):Prop where
 hla:∃las:List Addr,H la=some (.lst (las.map V.ref))/\LpsAt H las Ls
 hsa:H sa=some (.lst (scs.map V.ref))
 hss:StsAt H scs T.S
 hda:H da=some (.dT (y3e T.D))
theorem LawE.same {H H':Hp}{la sa da:Addr}{scs:List Addr}{Ls:List Lp}{T:St3}(h:LawE H la sa da scs Ls T) (s:Same H H'):LawE H' la sa da scs Ls T:=⟨let ⟨las,x,y⟩:=h.hla;⟨las,s _ _ x,y.up (.of s)⟩,s _ _ h.hsa,h.hss.same s,s _ _ h.hda⟩
def w3d (o:Oc) (w:Str) (rows:List (Int × Int)) (n:Int):Prop:=(o=.none->w=Str.ofString "none")/\(o=.wait->w=Str.ofString "wait")/\(o=.stuck->w=Str.ofString "stuck")/\∀rows' n',o=.ok rows' n'->w=Str.ofString "" /\ rows=rows'/\n=n'
def y7s:Sp:=λ vs H Q _=>∃(la sa da:Addr) (scs:List Addr) (Ls:List Lp) (T:St3) (lo r:Int),vs=[.ref la,.ref sa,.ref da,.int lo,.int r]/\LawE H la sa da scs Ls T/\LsOk Ls/\TOk T/\∀H' p l ps w rows n,Same H H'->H l=none->H' p=some (.tup [.str w,.ref l,.int n])->H' l=some (.lst (ps.map V.ref))->RowsAt H' ps rows->w3d (doZ Ls T lo r) w rows n->Q (.ref p) H'
theorem x1o (s:Int):∀sp:List Int,((sp.map V.int).countP λ z=>eqV z (.int s))=sp.count s
 | []=>rfl
 | x::sp=>by
  rw [List.map_cons,List.countP_cons,List.count_cons,x1o s sp]
  by_cases h:x=s<;>simp [eqV,h]
def w2s (r:Sto) (sp:List Int) (s:Int):Prop:=s < 0\/(r.length:Int)≤s\/r.getD s.toNat none≠none\/1 < sp.count s
theorem okW_iff {r:Sto}{sp:List Int}:okW r sp ↔ ∀s∈sp,¬w2s r sp s:=by
 unfold okW w2s
 constructor
 ·intro ⟨nd,h⟩ s hs z
  obtain ⟨a,b,c⟩:=h s hs
  rcases z with z | z | z | z
  ·lia
  ·lia
  ·exact z c
  ·have:=List.nodup_iff_count.mp nd s;lia
 ·intro h
  refine ⟨List.nodup_iff_count.mpr λ s=>?_,λ s hs=>?_⟩
  ·by_cases m:s∈sp
   ·have:=h s m;lia
   ·rw [List.count_eq_zero_of_not_mem m];lia
  ·have z:=h s hs
   refine ⟨by lia,by lia,?_⟩
   cases e:r.getD s.toNat none with
   | none=>rfl
   | some v=>exact absurd (.inr (.inr (.inl (by rw [e];intro z;cases z)))) z
theorem x4g {w:Str}{rows:List (Int × Int)}{n:Int}(h:w=Str.ofString "none"):w3d .none w rows n:=⟨λ _=>h,(λ z=>nomatch z),(λ z=>nomatch z),λ _ _ z=>nomatch z⟩
theorem y4a {r:Sto}{a:Int}{rows:List (Int × Int)}{c:Int}:y5q r (.ok a rows c)=if okW r (rows.map (·.1)) then .ok rows c else .stuck:=rfl
theorem x2b {α:Type}{l:List α}(h:l.length=3):∃a b c,l=[a,b,c]:=by
 match l,h with
 | [a,b,c],_=>exact ⟨a,b,c,rfl⟩
def z9j (CB:Addr):Sp:=λ vs H Q _=>∃(b:Addr) (A:BA3) (Ls:List Lp) (T:St3) (lo r:Int),vs=[.ref b,.int lo,.int r]/\BenZ CB H b A Ls T /\
 (doZ Ls T lo r=.none->∀H' l,Same H H'->H' l=some (.lst [.str (Str.ofString "none"),.bl false])->Q (.ref l) H')/\(doZ Ls T lo r=.wait->∀H' l,Same H H'->H' l=some (.lst [.str (Str.ofString "wait"),.bl false])->Q (.ref l) H')/\(doZ Ls T lo r=.stuck->∀H' l,Same H H'->H' l=some (.lst [.str (Str.ofString "stuck"),.bl false])->Q (.ref l) H') /\
 (∀rows c L,doZ Ls T lo r=.ok rows c->Ls[lo.toNat]?=some L->∀H' l,KeepZ b A H H'->BenZ CB H' b A Ls (nxZ L T lo.toNat r.toNat rows c)->H' l=some (.lst [.bl true])->Q (.ref l) H')
def z7f:Sp:=λ vs H Q _=>∃(la:Addr) (las:List Addr) (Ls:List Lp) (n:Int),vs=[.ref la,.int n]/\H la=some (.lst (las.map V.ref))/\LpsAt H las Ls/\LsOk Ls/\∀H' p lo r,Same H H'->H' p=some (.tup [.int lo,.int r])->Q (.ref p) H'
def z9h (CB:Addr):Sp:=λ vs H Q _=>∃(b:Addr) (A:BA3) (Ls:List Lp) (T:St3),vs=[.ref b]/\BenZ CB H b A Ls T/\z3f Ls T.D≠[]/\∀H',Same H H'->Q (.bl true) H'
theorem y4w {H:Hp}{a b:Addr}{ps qs:List Addr}{gs:List (List Int)}(h1:H a=some (.lst (ps.map V.ref))) (h2:H b=some (.lst (qs.map V.ref))) (p1:TupsAt H ps gs) (p2:TupsAt H qs gs):AlkV H 9 (.ref a) (.ref b):=by
 refine .inr ⟨a,b,_,_,rfl,rfl,.inl ⟨h1,h2⟩,by rw [List.length_map,List.length_map,p1.1,p2.1],λ i x y hx hy=>?_⟩
 rw [List.getElem?_map] at hx hy
 obtain ⟨p,hp,rfl⟩:=Option.map_eq_some_iff.mp hx
 obtain ⟨q,hq,rfl⟩:=Option.map_eq_some_iff.mp hy
 have il:i < gs.length:=by rw [← p1.1];exact (List.getElem?_eq_some_iff.mp hp).1
 have e:=List.getElem?_eq_getElem il
 obtain ⟨p',ep,e1⟩:=p1.2 i _ e
 obtain ⟨q',eq,e2⟩:=p2.2 i _ e
 rw [hp] at ep
 rw [hq] at eq
 cases ep
 cases eq
 exact .tup e1 e2 (z4j _)
theorem y3j:∀r:Sto,(r.map cV).all z1r=true
 | []=>rfl
 | none::r=>y3j r
 | some _::r=>y3j r
theorem x8s {H:Hp}{a b:Addr}{ps qs:List Addr}{S:List Sto}(h1:H a=some (.lst (ps.map V.ref))) (h2:H b=some (.lst (qs.map V.ref))) (p1:StsAt H ps S) (p2:StsAt H qs S):AlkV H 9 (.ref a) (.ref b):=by
 refine .inr ⟨a,b,_,_,rfl,rfl,.inl ⟨h1,h2⟩,by rw [List.length_map,List.length_map,p1.1,p2.1],λ i x y hx hy=>?_⟩
 rw [List.getElem?_map] at hx hy
 obtain ⟨p,hp,rfl⟩:=Option.map_eq_some_iff.mp hx
 obtain ⟨q,hq,rfl⟩:=Option.map_eq_some_iff.mp hy
 have il:i < S.length:=by rw [← p1.1];exact (List.getElem?_eq_some_iff.mp hp).1
 have e:=List.getElem?_eq_getElem il
 obtain ⟨p',ep,e1⟩:=p1.2 i _ e
 obtain ⟨q',eq,e2⟩:=p2.2 i _ e
 rw [hp] at ep
 rw [hq] at eq
 cases ep
 cases eq
 exact .lst e1 e2 (y3j _)
def z6s (CB:Addr):Sp:=λ vs H Q _=>∃(b sa lf lg:Addr) (A:BA3) (Ls:List Lp) (T:St3) (n:Int) (scs ps qs:List Addr),vs=[.ref b,.int n,.ref sa,.ref lf,.ref lg,.int T.n]/\BenZ CB H b A Ls T/\H sa=some (.lst (scs.map V.ref))/\StsAt H scs T.S/\H lf=some (.lst (ps.map V.ref))/\TupsAt H ps (prI (z3f Ls T.D))/\H lg=some (.lst (qs.map V.ref))/\TupsAt H qs T.G/\∀H',Same H H'->Q (.bl true) H'
theorem y1t {X:Cx}{K:W.Frag}(hK:X.K=K):CallR X (.builtin "len") (λ xs H Q=>∃p ys,xs=[.ref p]/\(SqL K H p ys\/SqT K H p ys)/\Q (.int (ys.length:Nat)) H):=hK ▸ z0v
theorem x8g {S:List Sto}{i:Nat}:∀ {kx:List (Int × List Int)},(∀p∈kx,p.1.toNat≠i)->(z4y S kx)[i]?=S[i]?:=λ {kx}=>by
 unfold z4y
 induction kx generalizing S with
 | nil=>intro _;rfl
 | cons p kx ih =>
  intro h
  rw [List.foldl_cons,ih (λ q hq=>h q (List.mem_cons_of_mem _ hq)),List.getElem?_set,if_neg (h p (List.mem_cons_self ..))]
theorem x4f (S:List Sto) (kx:List (Int × List Int)) (p:Int × List Int):z4y S (kx++[p])=(z4y S kx).set p.1.toNat (p.2.map some):=by
 unfold z4y;rw [List.foldl_append];rfl
theorem z8y {α:Type}{l:List α}{i:Nat}{a:α}(h:i < l.length):(l.set i a).take (i+1)=l.take i++[a]:=by
 rw [List.take_add_one,List.getElem?_set,if_pos rfl,if_pos h,List.take_set,List.set_eq_of_length_le (by rw [List.length_take];lia)];rfl
def w4m (kx:List (Int × List Int)):Prop:=∀p∈kx,∀v∈p.2,inB v
theorem x9w {Z:List Nat}(zl:Z.length=3) (z8:∀n∈Z,n≤8):∀ {kx:List (Int × List Int)},z5t Z kx->w4m kx->SZ (z4y (z4k Z) kx):=λ {kx} g f=>by
 refine ⟨by rw [y0j,z4k,List.length_map,zl],?_⟩
 have base:∀r∈z4k Z,r.length≤8/\∀n,some n∈r->inB n:=λ r hr=>by
  obtain ⟨n,hn,rfl⟩:=List.mem_map.mp hr
  exact ⟨by rw [List.length_replicate];exact z8 n hn,λ m hm=>by have:=List.eq_of_mem_replicate hm;cases this⟩
 generalize z4k Z=S at base
 unfold z4y
 induction kx generalizing S with
 | nil=>exact base
 | cons p kx ih =>
  rw [List.foldl_cons]
  refine ih (λ q hq=>g q (List.mem_cons_of_mem _ hq)) (λ q hq=>f q (List.mem_cons_of_mem _ hq)) _ λ r hr=>?_
  rcases List.mem_or_eq_of_mem_set hr with z | z
  ·exact base r z
  ·subst z
   refine ⟨by rw [List.length_map,g p (List.mem_cons_self ..)];exact w2c z8 _,λ n hn=>?_⟩
   obtain ⟨v,hv,e⟩:=List.mem_map.mp hn
   cases e
   exact f p (List.mem_cons_self ..) _ hv
theorem TabsZ.snoc {H:Hp}{ts:List Addr}{Xs:List (List Int)}{t sa ca:Addr}{x:List Int}(h:TabsZ H ts Xs) (e1:H t=some (.tup [.ref sa,.ref ca])) (e2:H ca=some (.tup (x.map V.int))):TabsZ H (ts++[t]) (Xs++[x]):=by
 refine ⟨by simp [h.1],λ i r' er=>?_⟩
 by_cases c:i < Xs.length
 ·rw [List.getElem?_append_left c] at er
  obtain ⟨t',sa',ca',a,b⟩:=h.2 i r' er
  exact ⟨t',sa',ca',by rw [List.getElem?_append_left (by rw [h.1];exact c)];exact a,b⟩
 ·rw [List.getElem?_append_right (by lia)] at er
  cases k:i - Xs.length with
  | zero =>
   rw [k] at er
   cases er
   refine ⟨t,sa,ca,?_,e1,e2⟩
   rw [List.getElem?_append_right (by rw [h.1];lia),h.1,k];rfl
  | succ m=>rw [k] at er;cases er
theorem w2r {Z:List Nat}(zl:Z.length=3) {Ls:List Lp}{i:Nat}(i3:i < 3) (h:(i:Int)∈wsZ Ls) (Xs:List (List Int)):z2c Ls (i+1)=z2c Ls i/\(z4y (z4k Z) ((z2c Ls (i+1)).zip Xs)).take (i+1)=(z4y (z4k Z) ((z2c Ls i).zip Xs)).take i++[List.replicate (Z.getD i 0) none]:=by
 have e:z2c Ls (i+1)=z2c Ls i:=by rw [z6v,if_pos h,List.append_nil]
 refine ⟨e,?_⟩
 rw [e,List.take_add_one,x8g (λ p hp=>?_)]
 ·have il:i < Z.length:=by lia
  rw [show (z4k Z)[i]?=some (List.replicate (Z.getD i 0) none) by unfold z4k;rw [List.getElem?_map,List.getD_eq_getElem?_getD,List.getElem?_eq_getElem il];rfl]
  rfl
 ·have:=y3h (List.of_mem_zip hp).1
  lia
theorem x8n {Z:List Nat}(zl:Z.length=3) {Ls:List Lp}{i:Nat}(i3:i < 3) (h:¬(i:Int)∈wsZ Ls) {Xs:List (List Int)}(xl:Xs.length=(z2c Ls i).length) (x:List Int):(z2c Ls (i+1)).zip (Xs++[x])=(z2c Ls i).zip Xs++[((i:Int),x)]/\(z4y (z4k Z) ((z2c Ls (i+1)).zip (Xs++[x]))).take (i+1)=(z4y (z4k Z) ((z2c Ls i).zip Xs)).take i++[x.map some]:=by
 have e:(z2c Ls (i+1)).zip (Xs++[x])=(z2c Ls i).zip Xs++[((i:Int),x)]:=by rw [z6v,if_neg h,List.zip_append xl.symm];rfl
 refine ⟨e,?_⟩
 rw [e,x4f]
 show List.take (i+1) ((z4y (z4k Z) ((z2c Ls i).zip Xs)).set ((i:Int)).toNat (x.map some))=_
 rw [Int.toNat_natCast,z8y (by rw [y0j,z4k,List.length_map,zl];exact i3)]
structure BegZ (H0 H:Hp) (w hd st lo ou:Addr) (Z:List Nat) (Ls:List Lp) (Xs:List (List Int)) (scs:List Addr):Prop where
 hw:WeftZ H w lo ou Z Ls
 hi:InpZ H hd Xs
 xl:Xs.length=(z2c Ls 3).length
 gd:z5t Z ((z2c Ls 3).zip Xs)
 sz:SZ (z4y (z4k Z) ((z2c Ls 3).zip Xs))
 z1:∀n∈Z,1≤n
 hst:H st=some (.lst (scs.map V.ref))
 hss:StsAt H scs (z4y (z4k Z) ((z2c Ls 3).zip Xs))
 f1:H0 st=none
 f2:∀c∈scs,H0 c=none
 d1:st ∉ scs
 ds:DsA scs
structure BegI (H G4 G:Hp) (st hl:Addr) (Z:List Nat) (Ls:List Lp) (i:Nat) (Xs:List (List Int)) (scs tps:List Addr):Prop where
 kp:∀a o,a≠st->a≠hl->G4 a=some o->G a=some o
 hst:G st=some (.lst (scs.map V.ref))
 hhl:G hl=some (.lst (tps.map V.ref))
 ht:TabsZ G tps Xs
 xl:Xs.length=(z2c Ls i).length
 gd:z5t Z ((z2c Ls i).zip Xs)
 fg:w4m ((z2c Ls i).zip Xs)
 hss:StsAt G scs ((z4y (z4k Z) ((z2c Ls i).zip Xs)).take i)
 f2:∀c∈scs,H c=none
 d1:st ∉ scs
 d2:hl ∉ scs
 ds:DsA scs
theorem BegI.same {H G4 G G':Hp}{st hl:Addr}{Z:List Nat}{Ls:List Lp}{i:Nat}{Xs:List (List Int)}{scs tps:List Addr}(h:BegI H G4 G st hl Z Ls i Xs scs tps) (s:Same G G'):BegI H G4 G' st hl Z Ls i Xs scs tps :=
 ⟨λ a o n1 n2 e=>s _ _ (h.kp a o n1 n2 e),s _ _ h.hst,s _ _ h.hhl,h.ht.up (.of s),h.xl,h.gd,h.fg,h.hss.same s,h.f2,h.d1,h.d2,h.ds⟩
def z9i (K:W.Frag):Sp:=λ vs H Q _=>∃(sc la ra:Addr) (ns rs:List Int) (las:List Addr) (Ls:List Lp),vs=[.ref sc,.ref la,.ref ra]/\SqL K H sc (ns.map V.int)/\(∀G,Same H G->SqL K G sc (ns.map V.int))/\H la=some (.lst (las.map V.ref))/\LpsAt H las Ls/\LsOk Ls/\H ra=some (.lst (rs.map V.int))/\rs≠[]/\rs.length≤100 /\
 ∀H' p w hd st lo ou Z Xs scs,Same H H'->H' p=some (.tup [.ref w,.ref hd,.ref st])->BegZ H H' w hd st lo ou Z Ls Xs scs->Q (.ref p) H'
theorem y3n (xs:List V) (k:Nat):y3p xs none (some (k:Int))=xs.take k:=by
 unfold y3p
 simp only [HT.sIx]
 rw [if_neg (by lia),Int.toNat_natCast,List.drop_zero,Nat.sub_zero]
 by_cases c:k≤xs.length
 ·rw [Nat.min_eq_left c]
 ·rw [Nat.min_eq_right (by lia),List.take_of_length_le (Nat.le_refl _),List.take_of_length_le (by lia)]
theorem y1l (xs:List V) (k:Nat):y3p xs (some (k:Int)) none=xs.drop k:=by
 unfold y3p
 simp only [HT.sIx]
 rw [if_neg (by lia),Int.toNat_natCast]
 by_cases c:k≤xs.length
 ·rw [Nat.min_eq_left c,List.take_of_length_le (by rw [List.length_drop];lia)]
 ·rw [Nat.min_eq_right (by lia),List.drop_eq_nil_of_le (Nat.le_refl _),List.drop_eq_nil_of_le (by lia)];simp
theorem y7x {α:Type}{l:List α}{n:Nat}{a:α}(h:n < l.length):l.take n++[a]++l.drop (n+1)=l.set n a:=by
 rw [List.set_eq_take_append_cons_drop,if_pos h,List.append_assoc];rfl
theorem TabsZ.set {H:Hp}{ts:List Addr}{Xs:List (List Int)}{t sa ca:Addr}{x:List Int}{n:Nat}(h:TabsZ H ts Xs) (e1:H t=some (.tup [.ref sa,.ref ca])) (e2:H ca=some (.tup (x.map V.int))):TabsZ H (ts.set n t) (Xs.set n x):=by
 refine ⟨by rw [List.length_set,List.length_set,h.1],λ i r' er=>?_⟩
 rw [List.getElem?_set] at er
 by_cases c:n=i
 ·subst c
  rw [if_pos rfl] at er
  split at er
  ·rename_i nl
   cases er
   exact ⟨t,sa,ca,by rw [List.getElem?_set,if_pos rfl,if_pos (by rw [h.1];exact nl)],e1,e2⟩
  ·cases er
 ·rw [if_neg c] at er
  obtain ⟨t',sa',ca',a,b⟩:=h.2 i r' er
  exact ⟨t',sa',ca',by rw [List.getElem?_set,if_neg c];exact a,b⟩
theorem x7u {Ls:List Lp}(h:∀L∈Ls,LpOk L):0 < (z2c Ls 3).length:=by
 refine List.length_pos_of_mem (a:=0) ?_
 unfold z2c
 refine List.mem_filter.mpr ⟨by decide,decide_eq_true λ z=>?_⟩
 obtain ⟨L,hL,e⟩:=List.mem_map.mp z
 have:=(h L hL).1
 lia
theorem w3e {Z:List Nat}{ins:List Int}{Xs:List (List Int)}(xl:Xs.length=ins.length) (g:z5t Z (ins.zip Xs)) {n:Nat}(h:n < Xs.length) {x:List Int}(hx:x.length≠Xs[n].length):¬z5t Z (ins.zip (Xs.set n x)):=λ z=>by
 have n2:n < ins.length:=by lia
 have e1:(ins.zip Xs)[n]?=some (ins[n],Xs[n]):=List.getElem?_zip_eq_some.mpr ⟨List.getElem?_eq_getElem n2,List.getElem?_eq_getElem h⟩
 have e2:(ins.zip (Xs.set n x))[n]?=some (ins[n],x):=List.getElem?_zip_eq_some.mpr ⟨List.getElem?_eq_getElem n2,by rw [List.getElem?_set,if_pos rfl,if_pos h]⟩
 have a:=g _ (List.mem_of_getElem? e1)
 have b:=z _ (List.mem_of_getElem? e2)
 exact hx (by rw [show x.length=_ from b,show Xs[n].length=_ from a])
def z9f:Sp:=λ vs H Q _=>∃(w hd lo ou:Addr) (n:Int) (Z:List Nat) (Ls:List Lp) (Xs:List (List Int)),vs=[.ref w,.ref hd,.int n]/\WeftZ H w lo ou Z Ls/\InpZ H hd Xs/\Xs.length=(z2c Ls 3).length/\z5t Z ((z2c Ls 3).zip Xs)/\(∀n∈Z,1≤n)/\∀H',Same H H'->Q (.bl true) H'
def x2e (K:W.Frag):Sp:=λ vs H Q _=>∃(a:Addr) (ns:List Int),vs=[.ref a]/\SqL K H a (ns.map V.int)/\ns.length≤63/\∀H',Q (.bl true) H'
def x5p (H H':Hp) (x:Addr):Prop:=∀a o,a≠x->H a=some o->H' a=some o
structure DisZ (H:Hp) (la sa da lf lg b:Addr) (scs:List Addr) (A:BA3):Prop where
 o1:∀x,(x∈scs\/x=sa\/x=la\/x=lf\/x=lg\/x=da)->x≠b/\x ∉ A.cs/\x≠A.d/\x≠A.lg/\x≠A.lc
 o2:∀x,(x=b\/x∈A.cs\/x=A.d\/x=A.lg\/x∈scs\/x=lf\/x=lg\/x=da)->H x=none
 o3:la ∉ scs/\sa ∉ scs/\lf ∉ scs/\lg ∉ scs
 o4:la≠lf/\la≠lg/\sa≠lf/\sa≠lg/\lf≠lg
 ds:DsA scs
structure LawI (CB:Addr) (H G:Hp) (la sa da lf lg b:Addr) (scs:List Addr) (A:BA3) (Ls:List Lp) (T T':St3):Prop where
 s0:Same H G
 hE:LawE G la sa da scs Ls T
 hb:BenZ CB G b A Ls T'
 hlf:∃ps:List Addr,G lf=some (.lst (ps.map V.ref))/\TupsAt G ps (prI (z3f Ls T.D))
 hlg:∃qs:List Addr,G lg=some (.lst (qs.map V.ref))/\TupsAt G qs T.G
theorem LawI.same {CB:Addr}{H G G':Hp}{la sa da lf lg b:Addr}{scs:List Addr}{A:BA3}{Ls:List Lp}{T T':St3}(h:LawI CB H G la sa da lf lg b scs A Ls T T') (s:Same G G'):LawI CB H G' la sa da lf lg b scs A Ls T T' :=
 ⟨h.s0.trans s,h.hE.same s,h.hb.same s,let ⟨ps,x,y⟩:=h.hlf;⟨ps,s _ _ x,y.up (.of s)⟩,let ⟨ps,x,y⟩:=h.hlg;⟨ps,s _ _ x,y.up (.of s)⟩⟩
theorem BenZ.wr {CB:Addr}{H H':Hp}{b:Addr}{A:BA3}{Ls:List Lp}{T:St3}(h:BenZ CB H b A Ls T) (u:UpT H H') (k:∀a o,(a=b\/a=A.lc\/a∈A.cs\/a=A.d\/a=A.lg)->H a=some o->H' a=some o):BenZ CB H' b A Ls T :=
 ⟨k _ _ (.inl rfl) h.hb,k _ _ (.inr (.inl rfl)) h.hlc,h.hcs.mono λ a ha xs e=>k _ _ (.inr (.inr (.inl ha))) e,k _ _ (.inr (.inr (.inr (.inl rfl)))) h.hd,let ⟨ps,x,y⟩:=h.hlg;⟨ps,k _ _ (.inr (.inr (.inr (.inr rfl)))) x,y.up u⟩,h.n1,h.ds,let ⟨ps,x,y⟩:=h.hlo;⟨ps,u _ _ x,y.up u⟩,h.ok,h.lk⟩
theorem KeepZ.up {CB:Addr}{H H':Hp}{b:Addr}{A:BA3}{Ls:List Lp}{T:St3}(h:BenZ CB H b A Ls T) (k:KeepZ b A H H'):UpT H H':=λ a xs e=>let t:=h.tn e;k a _ t.1 t.2.1 t.2.2.1 t.2.2.2 e
theorem LawI.did {CB:Addr}{H G G':Hp}{la sa da lf lg b:Addr}{scs:List Addr}{A:BA3}{Ls:List Lp}{T T':St3}(h:LawI CB H G la sa da lf lg b scs A Ls T T) (d:DisZ H la sa da lf lg b scs A) (k:KeepZ b A G G') (hb:BenZ CB G' b A Ls T'):LawI CB H G' la sa da lf lg b scs A Ls T T':=by
 have u:=KeepZ.up h.hb k
 have kk:∀ {x:Addr}{o:HO},(x∈scs\/x=sa\/x=la\/x=lf\/x=lg\/x=da)->G x=some o->G' x=some o:=λ hx e=>let t:=d.o1 _ hx;k _ _ t.1 t.2.1 t.2.2.1 t.2.2.2.1 e
 refine ⟨λ a o e=>k a o (λ z=>?_) (λ z=>?_) (λ z=>?_) (λ z=>?_) (h.s0 _ _ e),⟨let ⟨las,x,y⟩:=h.hE.hla;⟨las,kk (.inr (.inr (.inl rfl))) x,y.up u⟩,kk (.inr (.inl rfl)) h.hE.hsa,h.hE.hss.mono λ a ha xs e=>kk (.inl ha) e,kk (.inr (.inr (.inr (.inr (.inr rfl))))) h.hE.hda⟩,hb,let ⟨ps,x,y⟩:=h.hlf;⟨ps,kk (.inr (.inr (.inr (.inl rfl)))) x,y.up u⟩,let ⟨ps,x,y⟩:=h.hlg;⟨ps,kk (.inr (.inr (.inr (.inr (.inl rfl))))) x,y.up u⟩⟩
 ·rw [z,d.o2 _ (.inl rfl)] at e;cases e
 ·rw [d.o2 _ (.inr (.inl z))] at e;cases e
 ·rw [z,d.o2 _ (.inr (.inr (.inl rfl)))] at e;cases e
 ·rw [z,d.o2 _ (.inr (.inr (.inr (.inl rfl))))] at e;cases e
theorem w4p {Ls:List Lp}{T:St3}{lo r:Int}{rows:List (Int × Int)}{c:Int}(h:doZ Ls T lo r=.ok rows c):∃(lo' k:Nat) (L:Lp) (a:Int),lo=(lo':Int)/\r=(k:Int)/\Ls[lo']?=some L/\(k:Int) < z1t L.sd/\(lo',k) ∉ T.D/\okW (T.S.getD L.st []) (rows.map (·.1))/\z8c T.S L (atD L.sd k)=.ok a rows c:=by
 unfold doZ at h
 split at h
 ·cases h
 ·rename_i hn
  obtain ⟨lo',rfl⟩:∃k:Nat,lo=(k:Int):=⟨lo.toNat,by lia⟩
  obtain ⟨k,rfl⟩:∃k:Nat,r=(k:Int):=⟨r.toNat,by lia⟩
  rw [Int.toNat_natCast,Int.toNat_natCast] at h
  cases eL:Ls[lo']? with
  | none=>rw [eL] at h;cases h
  | some L =>
   rw [eL] at h
   have h:(if z1t L.sd≤(k:Int)\/(lo',k)∈T.D then Oc.none else y5q (T.S.getD L.st []) (z8c T.S L (atD L.sd k)))=.ok rows c:=h
   split at h
   ·cases h
   ·rename_i hm
    cases er:z8c T.S L (atD L.sd k) with
    | wait=>rw [er] at h;cases h
    | stuck=>rw [er] at h;cases h
    | ok a rows' c' =>
     rw [er,y4a] at h
     split at h
     ·rename_i w
      cases h
      exact ⟨lo',k,L,a,rfl,rfl,eL,by lia,λ z=>hm (.inr z),w,er⟩
     ·cases h
theorem allZ_mem {Ls:List Lp}:∀ {i:Nat}{p:Nat × Nat},p∈y3v Ls i ↔ p.1 < i/\p.2 < rkZ Ls p.1
 | 0,p=>by simp [y3v]
 | i+1,p=>by
  rw [z5w,List.mem_append,allZ_mem,List.mem_map]
  constructor
  ·rintro (h | ⟨r,hr,rfl⟩)
   ·exact ⟨by lia,h.2⟩
   ·exact ⟨Nat.lt_succ_self _,List.mem_range.mp hr⟩
  ·rintro ⟨h1,h2⟩
   by_cases c:p.1=i
   ·exact .inr ⟨p.2,List.mem_range.mpr (c ▸ h2),by rw [← c]⟩
   ·exact .inl ⟨by lia,h2⟩
theorem z8u (Ls:List Lp):∀i,(y3v Ls i).Nodup
 | 0=>by simp [y3v]
 | i+1=>by
  rw [z5w,List.nodup_append]
  refine ⟨z8u Ls i,?_,λ a ha b hb z=>?_⟩
  ·generalize rkZ Ls i=m
   induction m with
   | zero=>simp
   | succ m ih =>
    rw [List.range_succ,List.map_append,List.nodup_append]
    refine ⟨ih,by simp,λ a ha b hb z=>?_⟩
    obtain ⟨r,hr,rfl⟩:=List.mem_map.mp ha
    cases List.mem_singleton.mp hb
    have:=List.mem_range.mp hr
    have z:r=m:=congrArg Prod.snd z
    lia
  ·subst z
   obtain ⟨r,_,rfl⟩:=List.mem_map.mp hb
   exact absurd (allZ_mem.mp ha).1 (Nat.lt_irrefl _)
theorem z6o:∀ {l:List (Nat × Nat)}{j:Nat}{p:Nat × Nat},l.Nodup->l[j]?=some p->l.eraseIdx j=l.filter λ q=>decide (q≠p)
 | x::l,0,p,nd,e=>by
  cases e
  rw [List.nodup_cons] at nd
  rw [List.eraseIdx_cons_zero,List.filter_cons,if_neg (by simp)]
  exact (List.filter_eq_self.mpr λ q hq=>by rw [decide_eq_true_eq];intro z;exact nd.1 (z ▸ hq)).symm
 | x::l,j+1,p,nd,e=>by
  rw [List.nodup_cons] at nd
  have e:l[j]?=some p:=e
  have xp:x≠p:=λ z=>nd.1 (z ▸ List.mem_of_getElem? e)
  rw [List.eraseIdx_cons_succ,List.filter_cons,if_pos (decide_eq_true xp),z6o nd.2 e]
theorem x3h {Ls:List Lp}{D:List (Nat × Nat)}{p:Nat × Nat}{j:Nat}(e:(z3f Ls D)[j]?=some p):(z3f Ls D).eraseIdx j=z3f Ls (D++[p]):=by
 have nd:(z3f Ls D).Nodup:=List.Nodup.sublist List.filter_sublist (z8u Ls 3)
 rw [z6o nd e]
 unfold z3f
 rw [List.filter_filter]
 congr 1
 funext q
 by_cases a:q∈D<;>by_cases b:q=p<;>simp [a,b]
theorem x7t {Ls:List Lp}{D:List (Nat × Nat)}{lo k:Nat}{L:Lp}(lo3:lo < 3) (eL:Ls[lo]?=some L) (hk:(k:Int) < z1t L.sd) (n:(lo,k) ∉ D):(lo,k)∈z3f Ls D:=by
 unfold z3f
 refine List.mem_filter.mpr ⟨allZ_mem.mpr ⟨lo3,?_⟩,decide_eq_true n⟩
 show k < rkZ Ls lo
 unfold rkZ
 rw [eL]
 show k < (z1t L.sd).toNat
 lia
theorem x3i (Ls:List Lp):z3f Ls []=y3v Ls 3:=by
 unfold z3f
 exact List.filter_eq_self.mpr λ q _=>decide_eq_true (by simp)
theorem y4n {α:Type} [DecidableEq α] {p:α}:∀ {l:List α},p∈l->∃j:Nat,l[j]?=some p/\∀m:Nat,m < j->l[m]?≠some p
 | x::l,h=>by
  by_cases c:x=p
  ·exact ⟨0,by rw [c];rfl,λ m hm=>absurd hm (Nat.not_lt_zero _)⟩
  ·obtain ⟨j,e,n⟩:=y4n (l:=l) ((List.mem_cons.mp h).resolve_left (λ z=>c z.symm))
   refine ⟨j+1,e,λ m hm=>?_⟩
   cases m with
   | zero=>intro z;exact c (Option.some.inj z)
   | succ m=>exact n m (by lia)
theorem x2r (l:List (Nat × Nat)) (j:Nat):prI (l.eraseIdx j)=(prI l).eraseIdx j:=by
 unfold prI
 simp only [List.eraseIdx_eq_take_drop_succ,List.map_append,List.map_take,List.map_drop]
theorem TupsAt.erase {H:Hp}{ps:List Addr}{gs:List (List Int)}(h:TupsAt H ps gs) (j:Nat):TupsAt H (ps.eraseIdx j) (gs.eraseIdx j):=by
 refine ⟨by rw [List.length_eraseIdx,List.length_eraseIdx,h.1],λ i g e=>?_⟩
 rw [List.getElem?_eraseIdx] at e ⊢
 split at e
 ·rename_i c
  rw [if_pos c]
  exact h.2 i g e
 ·rename_i c
  rw [if_neg c]
  exact h.2 _ g e
theorem x9g {a b c d:Int}:y3k [V.int a,V.int b] [V.int c,V.int d]=(a == c && b == d):=by
 simp [y3k,eqV]
theorem TupsAt.app {H:Hp}{ps qs:List Addr}{gs hs:List (List Int)}(h:TupsAt H ps gs) (k:TupsAt H qs hs):TupsAt H (ps++qs) (gs++hs):=by
 refine ⟨by rw [List.length_append,List.length_append,h.1,k.1],λ i g e=>?_⟩
 by_cases c:i < gs.length
 ·rw [List.getElem?_append_left c] at e
  obtain ⟨p,a,b⟩:=h.2 i g e
  exact ⟨p,by rw [List.getElem?_append_left (by rw [h.1];exact c)];exact a,b⟩
 ·rw [List.getElem?_append_right (by lia)] at e
  obtain ⟨p,a,b⟩:=k.2 _ g e
  exact ⟨p,by rw [List.getElem?_append_right (by rw [h.1];lia),h.1];exact a,b⟩
theorem LpsAt.snoc {H:Hp}{ps:List Addr}{Ls:List Lp}{p:Addr}{L:Lp}(h:LpsAt H ps Ls) (e:LpAt H p L):LpsAt H (ps++[p]) (Ls++[L]):=by
 refine ⟨by simp [h.1],λ i r' er=>?_⟩
 by_cases c:i < Ls.length
 ·rw [List.getElem?_append_left c] at er
  obtain ⟨p',a,b⟩:=h.2 i r' er
  exact ⟨p',by rw [List.getElem?_append_left (by rw [h.1];exact c)];exact a,b⟩
 ·rw [List.getElem?_append_right (by lia)] at er
  cases k:i - Ls.length with
  | zero =>
   rw [k] at er
   cases er
   refine ⟨p,?_,e⟩
   rw [List.getElem?_append_right (by rw [h.1];lia),h.1,k];rfl
  | succ m=>rw [k] at er;cases er
abbrev z8z:Stmt:=top 12
def z2v:Sp:=λ vs H Q _=>∃n:Int,vs=[.int n]/\Q (.int (z5e n)) H
variable {P:Program}{w:World}{K:W.Frag}{mg:Str->Option Value}{base:Heap}{f:Addr}{fd:FuncData}{CNotReady CStuck:Addr}
theorem y7y:FnScope ["n"] ["n"] (z0k z8z):=⟨rfl,rfl,rfl,by decide +kernel,rfl,by decide +kernel,by decide +kernel⟩
theorem y9n (F:Fun K "wrapped" "wrapped" z8z f fd) {tLOW:Tok}(gLOW:mg "LOW"=some (.int (-9223372036854775808) tLOW)):FnOk P w K mg base CX0 (1) f fd ["n"] (z2v):=by
 have sc:=y7y
 refine F.ok sc (λ vs H Q E h=>?_) (λ cdv A outer s H vs Q E hr h=>?_)
 ·obtain ⟨n,rfl,_⟩:=h;rfl
 obtain ⟨n,rfl,q⟩:=h
 refine ⟨_,(z0g (z0q (z0p z1o (z0p z1j (z0p z4a (pv 0) (z9y (v:=.int (-9223372036854775808)) (by rfl) gLOW ⟨_,rfl⟩)) (z0p z4h z0c z0c)) (z9y (v:=.int (-9223372036854775808)) (by rfl) gLOW ⟨_,rfl⟩)))),?_⟩
 wp_walk using z1a,z0y,inV,eqV
 have e:(n - -9223372036854775808) % 18446744073709551616 + -9223372036854775808=z5e n:=by unfold z5e;lia
 rw [e];exact q
abbrev y2c:Stmt:=top 13
def z9e:Sp:=λ vs H Q _=>∃n:Int,vs=[.int n]/\Q (.int (if n < 0 then -1 else if 0 < n then 1 else 0)) H
theorem x2g:FnScope ["x"] ["x"] (z0k y2c):=⟨rfl,rfl,rfl,by decide +kernel,rfl,by decide +kernel,by decide +kernel⟩
theorem x2x (F:Fun K "sign_of" "sign_of" y2c f fd):FnOk P w K mg base CX0 (1) f fd ["x"] (z9e):=by
 have sc:=x2g
 refine F.ok sc (λ vs H Q E h=>?_) (λ cdv A outer s H vs Q E hr h=>?_)
 ·obtain ⟨n,rfl,_⟩:=h;rfl
 obtain ⟨n,rfl,q⟩:=h
 refine ⟨_,(z0d (z1c (z0j z6f (pv 0) z0c (z0o _)) (z0g (z0q (z6e z3k z0c))) z0m) (z0g (z0q (z2p (z0j y5s (pv 0) z0c (z0o _)) z0c z0c)))),?_⟩
 wp_walk using z1a,z0y,inV,eqV
 repeat' split
 all_goals (simp_all;done)
abbrev z7c:Stmt:=top 14
def z5y:Sp:=λ vs H Q _=>∃x y:Int,vs=[.int x,.int y]/\inB x/\inB y/\Q (.int (w3y x y)) H
theorem y5h:FnScope ["x","y"] ["x","y"] (z0k z7c):=⟨rfl,rfl,rfl,by decide +kernel,rfl,by decide +kernel,by decide +kernel⟩
theorem y5w (F:Fun K "quotient" "quotient" z7c f fd) (cwrapped:Callee P w K mg base CX0 (1) "wrapped" ["n"] z2v):FnOk P w K mg base CX0 (2) f fd ["x","y"] (z5y):=by
 have sc:=y5h
 refine F.ok sc (λ vs H Q E h=>?_) (λ cdv A outer s H vs Q E hr h=>?_)
 ·obtain ⟨x,y,rfl,_⟩:=h;rfl
 obtain ⟨x,y,rfl,hx,hy,q⟩:=h
 refine ⟨_,(z0d (z1c (z0j z1g (pv 1) z0c (z0o _)) (z0g (z0q z0c)) z0m) (z0g (z0q (z0z cwrapped hr (by rfl) z1f (z0a (z0p y4j (pv 0) (pv 1)) z0e))))),?_⟩
 wp_walk using z1a,z0y,inV,eqV,z2v
 unfold w3y at q
 by_cases h:y=0
 ·rw [if_pos h]
  rw [if_pos h] at q
  exact q
 ·rw [if_neg h]
  rw [if_neg h] at q
  unfold inB at hy
  exact ⟨h,by lia,by lia,q⟩
abbrev z5x:Stmt:=top 15
def z4t:Sp:=λ vs H Q _=>∃x y:Int,vs=[.int x,.int y]/\Q (.int (x6o x y)) H
theorem y2j:FnScope ["x","y"] ["x","y"] (z0k z5x):=⟨rfl,rfl,rfl,by decide +kernel,rfl,by decide +kernel,by decide +kernel⟩
theorem y2u (F:Fun K "remainder" "remainder" z5x f fd):FnOk P w K mg base CX0 (1) f fd ["x","y"] (z4t):=by
 have sc:=y2j
 refine F.ok sc (λ vs H Q E h=>?_) (λ cdv A outer s H vs Q E hr h=>?_)
 ·obtain ⟨x,y,rfl,_⟩:=h;rfl
 obtain ⟨x,y,rfl,q⟩:=h
 refine ⟨_,(z0g (z0q (z2p (z0j z1g (pv 1) z0c (z0o _)) (pv 0) (z0p y0a (pv 0) (pv 1))))),?_⟩
 wp_walk using z1a,z0y,inV,eqV
 unfold x6o at q
 by_cases h:y=0
 ·rw [if_pos h]
  rw [if_pos h] at q
  exact q
 ·rw [if_neg h]
  rw [if_neg h] at q
  exact ⟨h,q⟩
abbrev x6d:Stmt:=top 16
def y7p:Sp:=λ vs H Q _=>∃(w:Str) (x:Int),vs=[.str w,.int x]/\w∈(["neg","abs","sign","not"]:List Str)/\Q (.int (y1d w x)) H
theorem w0b:FnScope ["word","x"] ["word","x"] (z0k x6d):=⟨rfl,rfl,rfl,by decide +kernel,rfl,by decide +kernel,by decide +kernel⟩
theorem w1i (F:Fun K "once" "once" x6d f fd) (cwrapped:Callee P w K mg base CX0 (1) "wrapped" ["n"] z2v) (csignof:Callee P w K mg base CX0 (1) "sign_of" ["x"] z9e) (zabs:mg "abs"=none):FnOk P w K mg base CX0 (2) f fd ["word","x"] (y7p):=by
 have sc:=w0b
 refine F.ok sc (λ vs H Q E h=>?_) (λ cdv A outer s H vs Q E hr h=>?_)
 ·obtain ⟨a,b,rfl,_⟩:=h;rfl
 obtain ⟨wd,x,rfl,hw,q⟩:=h
 refine ⟨_,(z0d (z1c (z0j z1g (pv 0) z0s (z0o _)) (z0g (z0q (z0z cwrapped hr (by rfl) z1f (z0a (z6e z3k (pv 1)) z0e)))) z0m) (z0d (z1c (z0j z1g (pv 0) z0s (z0o _)) (z0g (z0q (z0z cwrapped hr (by rfl) z1f (z0a (z1b x4u (by rfl) zabs boot_abs (z0a (pv 1) z0e)) z0e)))) z0m) (z0d (z1c (z0j z1g (pv 0) z0s (z0o _)) (z0g (z0q (z0z csignof hr (by rfl) z1f (z0a (pv 1) z0e)))) z0m) (z0d (z1c (z0j z1g (pv 0) z0s (z0o _)) (z0g (z0q (z2p (z0j z1g (pv 1) z0c (z0o _)) z0c z0c))) z0m) (z0g z5o))))),?_⟩
 wp_walk using z1a,z0y,inV,eqV,z2v,z9e
 unfold y1d w6d at q
 by_cases h1:wd=Str.ofString "neg"
 ·simpa [h1] using q
 by_cases h2:wd=Str.ofString "abs"
 ·rw [if_neg h1,if_pos h2] at *;exact q
 by_cases h3:wd=Str.ofString "sign"
 ·rw [if_neg h1,if_neg h2,if_pos h3] at *;exact q
 have h4:wd=Str.ofString "not" := by simpa [h1,h2,h3] using hw
 rw [if_neg h1,if_neg h2,if_neg h3] at *
 rw [if_pos h4]
 split at q<;>simp_all
abbrev y7n:Stmt:=top 17
def z7d:Sp:=λ vs H Q _=>∃(w:Str) (x y:Int),vs=[.str w,.int x,.int y]/\w∈tw/\inB x/\inB y/\Q (.int (z1w w x y)) H
theorem x6h:FnScope ["word","x","y"] ["word","x","y"] (z0k y7n):=⟨rfl,rfl,rfl,by decide +kernel,rfl,by decide +kernel,by decide +kernel⟩
theorem x7n (F:Fun K "twice" "twice" y7n f fd) (cwrapped:Callee P w K mg base CX0 (2) "wrapped" ["n"] z2v) (cquotient:Callee P w K mg base CX0 (2) "quotient" ["x","y"] z5y) (cremainder:Callee P w K mg base CX0 (2) "remainder" ["x","y"] z4t) (zmax:mg "max"=none) (zmin:mg "min"=none):FnOk P w K mg base CX0 (3) f fd ["word","x","y"] (z7d):=by
 have sc:=x6h
 refine F.ok sc (λ vs H Q E h=>?_) (λ cdv A outer s H vs Q E hr h=>?_)
 ·obtain ⟨w,x,y,rfl,_⟩:=h;rfl
 obtain ⟨wd,x,y,rfl,hw,hx,hy,q⟩:=h
 refine ⟨_,(z0d (z1c (z0j z1g (pv 0) z0s (z0o _)) (z0g (z0q (z0z cwrapped hr (by rfl) z1f (z0a (z0p z1o (pv 1) (pv 2)) z0e)))) z0m) (z0d (z1c (z0j z1g (pv 0) z0s (z0o _)) (z0g (z0q (z0z cwrapped hr (by rfl) z1f (z0a (z0p z4a (pv 1) (pv 2)) z0e)))) z0m) (z0d (z1c (z0j z1g (pv 0) z0s (z0o _)) (z0g (z0q (z0z cwrapped hr (by rfl) z1f (z0a (z0p z3d (pv 1) (pv 2)) z0e)))) z0m) (z0d (z1c (z0j z1g (pv 0) z0s (z0o _)) (z0g (z0q (z0z cquotient hr (by rfl) z1f (z0a (pv 1) (z0a (pv 2) z0e))))) z0m) (z0d (z1c (z0j z1g (pv 0) z0s (z0o _)) (z0g (z0q (z0z cremainder hr (by rfl) z1f (z0a (pv 1) (z0a (pv 2) z0e))))) z0m) (z0d (z1c (z0j z1g (pv 0) z0s (z0o _)) (z0g (z0q (z1b (y1s rfl) (by rfl) zmax boot_max (z0a (pv 1) (z0a (pv 2) z0e))))) z0m) (z0d (z1c (z0j z1g (pv 0) z0s (z0o _)) (z0g (z0q (z1b (x1s rfl) (by rfl) zmin boot_min (z0a (pv 1) (z0a (pv 2) z0e))))) z0m) (z0d (z1c (z0j z1g (pv 0) z0s (z0o _)) (z0g (z0q (z2p (z0j z6f (pv 1) (pv 2) (z0o _)) z0c z0c))) z0m) (z0d (z1c (z0j z1g (pv 0) z0s (z0o _)) (z0g (z0q (z2p (z0j z1g (pv 1) (pv 2) (z0o _)) z0c z0c))) z0m) (z0d (z1c (z0j z1g (pv 0) z0s (z0o _)) (z0g (z0q (z0p w1g (pv 1) (pv 2)))) z0m) (z0d (z1c (z0j z1g (pv 0) z0s (z0o _)) (z0g (z0q (z0p w3z (pv 1) (pv 2)))) z0m) (z0d (z1c (z0j z1g (pv 0) z0s (z0o _)) (z0g (z0q (z0p x5j (pv 1) (pv 2)))) z0m) (z0g z5o))))))))))))),?_⟩
 wp_walk using z1a,z0y,inV,eqV,z2v,z5y,z4t
 simp only [tw,List.mem_cons,List.not_mem_nil,or_false] at hw
 unfold z1w at q
 have hm:(-18446744073709551616 < x/\x < 18446744073709551616\/-18446744073709551616 < y/\y < 18446744073709551616):=by
  unfold inB at hx;lia
 by_cases h0:wd=Str.ofString "add"
 ·rw [if_pos h0] at q ⊢
  exact q
 rw [if_neg h0] at q ⊢
 by_cases h1:wd=Str.ofString "sub"
 ·rw [if_pos h1] at q ⊢
  exact q
 rw [if_neg h1] at q ⊢
 by_cases h2:wd=Str.ofString "mul"
 ·rw [if_pos h2] at q ⊢
  exact ⟨hm,q⟩
 rw [if_neg h2] at q ⊢
 by_cases h3:wd=Str.ofString "quo"
 ·rw [if_pos h3] at q ⊢
  exact ⟨hx,hy,q⟩
 rw [if_neg h3] at q ⊢
 by_cases h4:wd=Str.ofString "rest"
 ·rw [if_pos h4] at q ⊢
  exact q
 rw [if_neg h4] at q ⊢
 by_cases h5:wd=Str.ofString "max"
 ·rw [if_pos h5] at q ⊢
  exact q
 rw [if_neg h5] at q ⊢
 by_cases h6:wd=Str.ofString "min"
 ·rw [if_pos h6] at q ⊢
  exact q
 rw [if_neg h6] at q ⊢
 by_cases h7:wd=Str.ofString "less"
 ·rw [if_pos h7] at q ⊢
  split<;>(split at q<;>first | exact q | contradiction)
 rw [if_neg h7] at q ⊢
 by_cases h8:wd=Str.ofString "like"
 ·rw [if_pos h8] at q ⊢
  split<;>(split at q<;>first | exact q | contradiction)
 rw [if_neg h8] at q ⊢
 by_cases h9:wd=Str.ofString "and"
 ·rw [if_pos h9] at q ⊢
  exact q
 rw [if_neg h9] at q ⊢
 by_cases h10:wd=Str.ofString "or"
 ·rw [if_pos h10] at q ⊢
  exact q
 rw [if_neg h10] at q ⊢
 have h11:wd=Str.ofString "xor" := by simpa [h0,h1,h2,h3,h4,h5,h6,h7,h8,h9,h10] using hw
 rw [if_pos h11]
 exact q
abbrev z9l:Stmt:=top 18
def z7e:Sp:=λ vs H Q _=>∃(w:Str),vs=[.str w]/\w∈fw/\∀H',Same H H'->Q (.int (y6f w)) H'
theorem y8b:FnScope ["word"] ["word"] (z0k z9l):=⟨rfl,rfl,rfl,by decide +kernel,rfl,by decide +kernel,by decide +kernel⟩
theorem y9p (F:Fun K "neutral" "neutral" z9l f fd) {tLOW:Tok}(gLOW:mg "LOW"=some (.int (-9223372036854775808) tLOW)) {tHIGH:Tok}(gHIGH:mg "HIGH"=some (.int 9223372036854775807 tHIGH)):FnOk P w K mg base CX0 (1) f fd ["word"] (z7e):=by
 have sc:=y8b
 refine F.ok sc (λ vs H Q E h=>?_) (λ cdv A outer s H vs Q E hr h=>?_)
 ·obtain ⟨w,rfl,_⟩:=h;rfl
 obtain ⟨wd,rfl,hw,q⟩:=h
 refine ⟨_,(z0d (z1c (z0j y9m (pv 0) (z0x (z0a z0s (z0a z0s (z0a z0s z0e)))) rfl) (z0g (z0q z0c)) z0m) (z0d (z1c (z0j z1g (pv 0) z0s (z0o _)) (z0g (z0q z0c)) z0m) (z0d (z1c (z0j z1g (pv 0) z0s (z0o _)) (z0g (z0q (z9y (v:=.int (-9223372036854775808)) (by rfl) gLOW ⟨_,rfl⟩))) z0m) (z0d (z1c (z0j z1g (pv 0) z0s (z0o _)) (z0g (z0q (z9y (v:=.int 9223372036854775807) (by rfl) gHIGH ⟨_,rfl⟩))) z0m) (z0d (z1c (z0j z1g (pv 0) z0s (z0o _)) (z0g (z0q (z6e z3k z0c))) z0m) (z0g z5o)))))),?_⟩
 wp_walk using z1a,z0y,inV,eqV
 refine ⟨small (by decide),λ p hp=>?_⟩
 have q:=q _ (z0b hp (.tup [V.str "add",V.str "or",V.str "xor"]))
 unfold y6f at q
 simp only [fw,List.mem_cons,List.not_mem_nil,or_false] at hw
 by_cases h0:Str.ofString "add"=wd\/Str.ofString "or"=wd\/Str.ofString "xor"=wd
 ·rw [if_pos h0]
  have n1:¬wd=Str.ofString "mul" := by rcases h0 with rfl | rfl | rfl<;>decide +kernel
  have n2:¬wd=Str.ofString "max" := by rcases h0 with rfl | rfl | rfl<;>decide +kernel
  have n3:¬wd=Str.ofString "min" := by rcases h0 with rfl | rfl | rfl<;>decide +kernel
  have n4:¬wd=Str.ofString "and" := by rcases h0 with rfl | rfl | rfl<;>decide +kernel
  rw [if_neg n1,if_neg n2,if_neg n3,if_neg n4] at q
  exact q
 rw [if_neg h0]
 by_cases h1:wd=Str.ofString "mul"
 ·rw [if_pos h1] at q ⊢;exact q
 rw [if_neg h1] at q ⊢
 by_cases h2:wd=Str.ofString "max"
 ·rw [if_pos h2] at q ⊢;exact q
 rw [if_neg h2] at q ⊢
 by_cases h3:wd=Str.ofString "min"
 ·rw [if_pos h3] at q ⊢;exact q
 rw [if_neg h3] at q ⊢
 by_cases h4:wd=Str.ofString "and"
 ·rw [if_pos h4] at q ⊢;exact q
 exact absurd (by rcases hw with z | z | z | z | z | z | z<;>simp_all) h0
abbrev y2r:Stmt:=top 20
def z5k:Sp:=λ vs H Q _=>∃(a:Addr) (ns:List Int),vs=[.ref a]/\(H a=some (.lst (ns.map V.int))\/H a=some (.tup (ns.map V.int)))/\x5e ns/\Q (.int (z1t ns)) H
theorem x2k:FnScope ["sides","product","side"] ["sides"] (z0k y2r):=⟨rfl,rfl,rfl,by decide +kernel,rfl,by decide +kernel,by decide +kernel⟩
theorem x3b (F:Fun K "amount" "amount" y2r f fd):FnOk P w K mg base CX0 (1) f fd ["sides"] (z5k):=by
 have sc:=x2k
 refine F.ok sc (λ vs H Q E h=>?_) (λ cdv A outer s H vs Q E hr h=>?_)
 ·obtain ⟨a,ns,rfl,_⟩:=h;rfl
 obtain ⟨a,ns,rfl,ha | ha,hs,q⟩:=h
 ·refine ⟨_,(z0d (z0t (i:=1) sc.nd rfl (by first | exact Or.inl rfl | exact Or.inr rfl) z0c) (z0d (z2g PassesOwn.never rfl (z3t (pv 0)) (z0w (i:=2) sc.nd rfl (Or.inl rfl)) (z0g (z0t (i:=1) sc.nd rfl (by first | exact Or.inl rfl | exact Or.inr rfl) (z0p z3d (pv 1) (pv 2))))) (z0g (z0q (pv 1))))),?_⟩
  wp_walk using z1a,z0y,inV,eqV
  refine LoopL.mk (xs:=ns.map V.int) (.of ha) (λ i σ H'=>H'=H/\∃y,σ=[some (.ref a),some (.int (z1t (ns.take i))),y]) ⟨rfl,_,rfl⟩ (λ i σ H' _ h=>by rw [h.1];exact .of ha) (λ i x σ H' e h=>?_) (λ σ H' h=>?_)
  ·obtain ⟨h1,y,rfl⟩:=h
   subst h1
   obtain ⟨m,rfl,hm,m0,m1⟩:=x6g hs e
   wp_walk using z1a,z0y,inV,eqV
   rw [y0z hm]
   exact ⟨.inr ⟨by lia,by lia⟩,rfl,_,rfl⟩
  ·obtain ⟨h1,y,rfl⟩:=h
   subst h1
   wp_walk using z1a,z0y,inV,eqV
   rw [z2b,List.take_length]
   exact q
 ·refine ⟨_,(z0d (z0t (i:=1) sc.nd rfl (by first | exact Or.inl rfl | exact Or.inr rfl) z0c) (z0d (z2g PassesOwn.never rfl (y4f (pv 0)) (z0w (i:=2) sc.nd rfl (Or.inl rfl)) (z0g (z0t (i:=1) sc.nd rfl (by first | exact Or.inl rfl | exact Or.inr rfl) (z0p z3d (pv 1) (pv 2))))) (z0g (z0q (pv 1))))),?_⟩
  wp_walk using z1a,z0y,inV,eqV
  refine LoopT.mk (xs:=ns.map V.int) (.of ha) (λ i σ H'=>H'=H/\∃y,σ=[some (.ref a),some (.int (z1t (ns.take i))),y]) ⟨rfl,_,rfl⟩ (λ i σ H' _ h=>by rw [h.1];exact .of ha) (λ i x σ H' e h=>?_) (λ σ H' h=>?_)
  ·obtain ⟨h1,y,rfl⟩:=h
   subst h1
   obtain ⟨m,rfl,hm,m0,m1⟩:=x6g hs e
   wp_walk using z1a,z0y,inV,eqV
   rw [y0z hm]
   exact ⟨.inr ⟨by lia,by lia⟩,rfl,_,rfl⟩
  ·obtain ⟨h1,y,rfl⟩:=h
   subst h1
   wp_walk using z1a,z0y,inV,eqV
   rw [z2b,List.take_length]
   exact q
abbrev x6k:Stmt:=top 21
theorem w0c:FnScope ["sides","place","at","left","side"] ["sides","place"] (z0k x6k):=⟨rfl,rfl,rfl,by decide +kernel,rfl,by decide +kernel,by decide +kernel⟩
theorem w1j (F:Fun K "at_of" "at_of" x6k f fd) {CNoPlace:Addr}(nNoPlace:W.nsIn K mainGlobals "NoPlace"=some (some (.ref CNoPlace))) (camount:Callee P w K mg base CX0 (1) "amount" ["sides"] z5k) (zreversed:mg "reversed"=none) (ztuple:mg "tuple"=none) (xNoPlace:W.excIn K CNoPlace [.type "ValueError",.type "Exception",.type "BaseException",.type "object"] "ValueError.__new__"=true):FnOk P w K mg base (CX1 P w) (2) f fd ["sides","place"] ((y7u CNoPlace)):=by
 have sc:=w0c
 refine F.okX sc (λ vs H Q E h=>?_) (λ cdv A outer s H vs Q E hr h=>?_)
 ·obtain ⟨a,ns,pl,rfl,_⟩:=h;rfl
 obtain ⟨a,ns,pl,rfl,ha,hs,h63,q1,q2⟩:=h
 refine ⟨_,(z0d (z1c (PW.pt (z3s (z0j z6f (pv 1) z0c (z0o _)) (z3i (z0j y0b (pv 1) (z0z camount hr (by rfl) z1f (z0a (pv 0) z0e)) (z0o _))))) (z0g (z2e PySem.F.excBase_ValueError rfl (by rfl) nNoPlace xNoPlace z2n (z0a z0s z0e))) z0m) (z0d (z0t (i:=2) sc.nd rfl (by first | exact Or.inl rfl | exact Or.inr rfl) (z1n z0e)) (z0d (z0t (i:=3) sc.nd rfl (by first | exact Or.inl rfl | exact Or.inr rfl) (pv 1)) (z0d (z2g PassesOwn.leaving rfl (x6y (by rfl) zreversed (pv 0)) (z0w (i:=4) sc.nd rfl (Or.inl rfl)) (z0d (z1z (z5q (pv 2) (z0p z1j (pv 3) (pv 4)))) (z0g (z0t (i:=3) sc.nd rfl (by first | exact Or.inl rfl | exact Or.inr rfl) (z0p y4j (pv 3) (pv 4)))))) (z0g (z0q (y9d rfl (by rfl) (by rfl) ztuple zreversed (pv 2)))))))),?_⟩
 wp_walk using z1a,z0y,inV,eqV,z5k
 by_cases c1:pl < 0
 ·rw [if_pos c1];exact ⟨small (by decide),q1 (.inl c1) _ (Same.refl _)⟩
 rw [if_neg c1]
 refine ⟨ns,.inr ha,hs,?_⟩
 by_cases c2:z1t ns≤pl
 ·rw [if_pos c2];exact ⟨small (by decide),q1 (.inr c2) _ (Same.refl _)⟩
 rw [if_neg c2]
 have nz:=y8w (ns:=ns) (by lia)
 refine ⟨small (by decide),λ p hp=>?_⟩
 refine LoopV.mk (xs:=ns.map V.int) (.of (z0b hp _ _ _ ha)) (λ i σ H'=>Same H H'/\H' p=some (.lst ((dgL ns pl i).map V.int))/\∃y,σ=[some (.ref a),some (.int pl),some (.ref p),some (.int (lfI ns pl i)),y]) ⟨z0b hp _,z0f,_,rfl⟩ (λ i σ H' _ h=>.of (h.1 _ _ ha)) (λ i x σ H' hi e h=>?_) (λ σ H' h=>?_)
 ·obtain ⟨h1,h2,y,rfl⟩:=h
  obtain ⟨m,rfl,hm,m0,m1⟩:=x6g hs e
  rw [z2b] at hi hm
  have mz:=nz m (List.mem_of_getElem? hm)
  have rg:=y8n hi hm
  have sm:((dgL ns pl i).map V.int).length < sizeLine:=by
   rw [List.length_map,dgL,List.length_map,List.length_range];exact z1e (by lia)
  have d1:dgI ns pl i=lfI ns pl i % m:=by unfold dgI;rw [rg]
  have l1:lfI ns pl (i+1)=lfI ns pl i / m:=by show lfI ns pl i / _=_;rw [rg]
  have fd:(lfI ns pl i).fdiv m=lfI ns pl i / m:=Int.fdiv_eq_ediv_of_nonneg _ m0
  have s2:Same H (upd H' p (.lst (((dgL ns pl i).map V.int)++[V.int (lfI ns pl i % m)]))):=λ b o e=>by
   have nb:b≠p:=λ z=>by rw [z,hp] at e;cases e
   rw [z0n nb];exact h1 b o e
  wp_walk using z1a,z0y,inV,eqV
  rw [l1,x4j,List.map_append,d1,fd]
  exact ⟨⟨_,h2⟩,by lia,_,h2,sm,mz,by lia,by lia,s2,rfl,rfl,_,rfl⟩
 ·obtain ⟨h1,h2,y,rfl⟩:=h
  rw [z2b] at h2
  wp_walk using z1a,z0y,inV,eqV
  refine ⟨_,.of h2,λ p2 hp2=>?_⟩
  rw [← List.map_reverse]
  exact q2 (by lia) (by lia) _ _ (h1.trans (z0b hp2 _)) z0f
abbrev y2b:Stmt:=top 23
def z9d:Sp:=λ vs H Q _=>∃(v b e p:Addr) (s:Int) (st c:List Int),vs=[.ref v,.ref b]/\H v=some (.tup [.ref e,.int s,.ref p])/\H e=some (.tup [])/\H p=some (.tup (st.map V.int))/\H b=some (.tup (c.map V.int))/\c.length=st.length/\st.length≤10/\(∀x∈c,0≤x/\x≤1000)/\∀H',Same H H'->Q (.int (s+z4s st c)) H'
theorem x2f:FnScope ["view","at","side","coordinate"] ["view","at"] (z0k y2b):=⟨rfl,rfl,rfl,by decide +kernel,rfl,by decide +kernel,by decide +kernel⟩
theorem x2w (F:Fun K "spot_of" "spot_of" y2b f fd) (zlen:mg "len"=none) (zzip:mg "zip"=none) (zsum:mg "sum"=none):FnOk P w K mg base CX0 (1) f fd ["view","at"] (z9d):=by
 have sc:=x2f
 refine F.ok sc (λ vs H Q E h=>?_) (λ cdv A outer s H vs Q E hr h=>?_)
 ·obtain ⟨v,b,e,p,s,st,c,rfl,_⟩:=h;rfl
 obtain ⟨v,b,ea,p,s0,st,c,rfl,hv,he,hp,hb,hl,h10,hc,q⟩:=h
 refine ⟨_,(z0d (z1c (z0j z8g (z1b z0v (by rfl) zlen PySem.boot_len (z0a (pv 1) z0e)) (z1b z0v (by rfl) zlen PySem.boot_len (z0a (z0r z0l (pv 0) z0c (λ _ _=>rfl)) z0e)) (z0o _)) (z0g z5o) z0m) (z0d (z2g PassesOwn.never rfl (y9b (by rfl) zzip (z0a (z0r z0l (pv 0) z0c (λ _ _=>rfl)) (z0a (pv 1) z0e))) (z2i (n:=2) (z3j rfl (z1d (z0w (i:=2) sc.nd rfl (Or.inl rfl)) (z1d (z0w (i:=3) sc.nd rfl (Or.inl rfl)) z2h)))) (z0g (z1c (PW.pt (z3s (z0j z6f (pv 3) z0c (z0o _)) (z3i (z0j y0b (pv 3) (pv 2) (z0o _))))) (z0g z5o) z0m))) (z0g (z0q (z0p z1o (z0r z0l (pv 0) z0c (λ _ _=>rfl)) (z1b (y1r rfl) (by rfl) zsum boot_sum (z0a (y4h (own:=["coordinate","stride"]) rfl (y9b (by rfl) zzip (z0a (pv 1) (z0a (z0r z0l (pv 0) z0c (λ _ _=>rfl)) z0e))) (by decide) (by decide) rfl (by decide) (λ _ _ _ _=>(z2i (n:=2) (z3j rfl (z1d (z0w (i:=0) (show (["coordinate","stride"]:List Str).Nodup by decide +kernel) rfl (Or.inl rfl)) (z1d (z0w (i:=1) (show (["coordinate","stride"]:List Str).Nodup by decide +kernel) rfl (Or.inl rfl)) z2h))))) (λ _ _ _ _=>(z0p z3d (pv 0) (pv 1)))) z0e))))))),?_⟩
 wp_walk using z1a,z0y,inV,eqV
 refine ⟨_,.inr (.of hb),_,hv,_,z0i (j:=2) rfl,_,rfl,_,.inr (.of hp),?_⟩
 rw [z2b,z2b]
 rw [if_neg (by lia)]
 refine ⟨_,hv,_,z0i (j:=0) rfl,?_⟩
 refine LoopZ.mk (xs:=[]) (ys:=c.map V.int) 0 (by simp) (.of he) (.of hb) (λ i σ H'=>Same H H'/\∃y2 y3,σ=[some (.ref v),some (.ref b),y2,y3]) ⟨Same.refl _,_,_,rfl⟩ (λ i σ H' _ h=>⟨.of (h.1 _ _ he),.of (h.1 _ _ hb)⟩) (λ i x y σ H' T hi ex ey h hT=>absurd hi (Nat.not_lt_zero _)) (λ σ H' h=>?_)
 obtain ⟨h1,y2,y3,rfl⟩:=h
 wp_walk using z1a,z0y,inV,eqV
 have hb1:=h1 _ _ hb
 have hp1:=h1 _ _ hp
 refine ⟨_,h1 _ _ hv,_,z0i (j:=1) rfl,_,h1 _ _ hv,_,z0i (j:=2) rfl,?_⟩
 have lz:(List.zipWith (λ a b=>a * b) c st).length=st.length:=by rw [List.length_zipWith,hl,Nat.min_self]
 refine CompZ.mk (xs:=c.map V.int) (ys:=st.map V.int) st.length (by rw [z2b,z2b,hl,Nat.min_self]) (.of hb1) (.of hp1) (λ i zs σ H2=>Same H' H2/\zs=((List.zipWith (λ a b=>a * b) c st).take i).map V.int/\∃y z,σ=[y,z]) ⟨Same.refl _,rfl,_,_,rfl⟩ (λ i zs σ H2 _ h=>⟨.of (h.1 _ _ hb1),.of (h.1 _ _ hp1)⟩) (λ i x y zs σ H2 T hi ex ey h hT=>?_) (λ zs σ H2 h r hr=>?_) (λ i zs σ H2 h=>?_)
 ·obtain ⟨h3,rfl,y4,y5,rfl⟩:=h
  obtain ⟨m,rfl,hm⟩:=z6m ex
  obtain ⟨t,rfl,ht⟩:=z6m ey
  have ez:(List.zipWith (λ a b=>a * b) c st)[i]?=some (m * t):=by rw [List.getElem?_zipWith,hm,ht]
  have et:((List.zipWith (λ a b=>a * b) c st).take (i+1)).map V.int=((List.zipWith (λ a b=>a * b) c st).take i).map V.int++[V.int (m * t)]:=by
   rw [List.take_add_one,ez,List.map_append];rfl
  have mm:=hc m (List.mem_of_getElem? hm)
  refine ⟨by rw [List.length_map,List.length_take];exact z1e (by lia),?_⟩
  wp_walk using z1a,z0y,inV,eqV,et
  exact ⟨.inl ⟨by lia,by lia⟩,h3.trans (z0b hT _),_,rfl⟩
 ·obtain ⟨h3,rfl,y4,y5,rfl⟩:=h
  rw [List.take_of_length_le (by lia)]
  refine ⟨r,rfl,_,.of z0f,_,rfl,?_⟩
  rw [x0u]
  exact q _ (h1.trans (h3.trans (z0b hr _)))
 ·obtain ⟨h3,rfl,_⟩:=h
  rw [List.length_map,List.length_take]
  exact z1e (by lia)
abbrev y2i:Stmt:=top 25
def z5i:Sp:=λ vs H Q _=>∃(a:Addr) (w:Str) (xs:List V) (b:Bool),vs=[.ref a]/\H a=some (.tup (.str w::xs))/\((b=true/\(w=Str.ofString "num" \/ w=Str.ofString "read"))\/(b=false/\(w=Str.ofString "pair" \/ w=Str.ofString "each")))/\∀H',Same H H'->Q (.bl b) H'
theorem x2j:FnScope ["tree"] ["tree"] (z0k y2i):=⟨rfl,rfl,rfl,by decide +kernel,rfl,by decide +kernel,by decide +kernel⟩
theorem x3a (F:Fun K "is_free" "is_free" y2i f fd):FnOk P w K mg base CX0 (1) f fd ["tree"] (z5i):=by
 have sc:=x2j
 refine F.ok sc (λ vs H Q E h=>?_) (λ cdv A outer s H vs Q E hr h=>?_)
 ·obtain ⟨a,w,xs,b,rfl,_⟩:=h;rfl
 obtain ⟨a,w,xs,b,rfl,ha,hw,q⟩:=h
 refine ⟨_,(z0g (z0q (z7r y9m (z0r z0l (pv 0) z0c (λ _ _=>rfl)) (z0x (z0a z0s (z0a z0s (z0a z0s z0e)))) rfl))),?_⟩
 wp_walk using z1a,z0y
 refine ⟨_,ha,_,z0i (j:=0) rfl,small (by decide),λ p hp=>⟨rfl,?_⟩⟩
 have e:inV (.str w) [V.str (Str.ofString "num"),V.str (Str.ofString "index"),V.str (Str.ofString "read")]=b:=by
  rcases hw with ⟨rfl,rfl | rfl⟩ | ⟨rfl,rfl | rfl⟩<;>decide +kernel
 rw [e]
 exact q _ (z0b hp _)
abbrev z4w:Stmt:=top 26
def z3h:Sp:=λ vs H Q _=>∃(a:Addr) (T:Tr),vs=[.ref a]/\TrAt H a T/\¬free T/\∀H' p ps,Same H H'->H' p=some (.tup (ps.map V.ref))->w2v H' ps (y6u T)->Q (.ref p) H'
theorem y0u:FnScope ["tree","form"] ["tree"] (z0k z4w):=⟨rfl,rfl,rfl,by decide +kernel,rfl,by decide +kernel,by decide +kernel⟩
theorem y1f (F:Fun K "branches_of" "branches_of" z4w f fd):FnOk P w K mg base CX0 (1) f fd ["tree"] (z3h):=by
 have sc:=y0u
 refine F.ok sc (λ vs H Q E h=>?_) (λ cdv A outer s H vs Q E hr h=>?_)
 ·obtain ⟨a,T,rfl,_⟩:=h;rfl
 obtain ⟨a,T,rfl,ha,nf,q⟩:=h
 refine ⟨_,(z0d (z0t (i:=1) sc.nd rfl (by first | exact Or.inl rfl | exact Or.inr rfl) (z0r z0l (pv 0) z0c (λ _ _=>rfl))) (z0d (z1c (z0j z1g (pv 1) z0s (z0o _)) (z0g (z0q (z2j z2z (pv 0) (z3a z0c) z3b))) z0m) (z0d (z1c (z0j y9m (pv 1) (z0x (z0a z0s (z0a z0s z0e))) rfl) (z0g (z0q (z2j z2z (pv 0) (z3a z0c) z3b))) z0m) (z0d (z1c (z0j z1g (pv 1) z0s (z0o _)) (z0g (z0q (z2j z2z (pv 0) (z3a z0c) z3b))) z0m) (z0d (z1c (z0j z1g (pv 1) z0s (z0o _)) (z0g (z0q (z2j z2z (pv 0) (z3a z0c) z3b))) z0m) (z0g (z0q (z0x z0e)))))))),?_⟩
 wp_walk using z1a,z0y,inV,eqV
 cases T with
 | num n=>exact absurd trivial nf
 | rd k s0 ss=>exact absurd trivial nf
 | neg t =>
  obtain ⟨b,e,hb⟩:=ha
  refine ⟨_,e,_,z0i (j:=0) rfl,rfl,?_⟩
  rw [if_neg (sne (by decide +kernel))]
  refine ⟨small (by decide),λ p0 hp0=>⟨rfl,?_⟩⟩
  rw [if_pos (by decide +kernel)]
  exact ⟨_,z0b hp0 _ _ _ e,λ r H' s hr=>q _ r [b] ((z0b hp0 _).trans s) hr ⟨rfl,λ i t' ht=>by
   match i,ht with
   | 0,ht=>cases ht;exact ⟨b,rfl,hb.up (.of ((z0b hp0 _).trans s))⟩⟩⟩
 | sub t u =>
  obtain ⟨b,c,e,hb,hc⟩:=ha
  refine ⟨_,e,_,z0i (j:=0) rfl,rfl,?_⟩
  rw [if_neg (sne (by decide +kernel))]
  refine ⟨small (by decide),λ p0 hp0=>⟨rfl,?_⟩⟩
  rw [if_pos (by decide +kernel)]
  exact ⟨_,z0b hp0 _ _ _ e,λ r H' s hr=>q _ r [b,c] ((z0b hp0 _).trans s) hr ⟨rfl,λ i t' ht=>by
   match i,ht with
   | 0,ht=>cases ht;exact ⟨b,rfl,hb.up (.of ((z0b hp0 _).trans s))⟩
   | 1,ht=>cases ht;exact ⟨c,rfl,hc.up (.of ((z0b hp0 _).trans s))⟩⟩⟩
abbrev y7o:Stmt:=top 27
theorem x6i:FnScope ["store","spot"] ["store","spot"] (z0k y7o):=⟨rfl,rfl,rfl,by decide +kernel,rfl,by decide +kernel,by decide +kernel⟩
theorem x7o (F:Fun K "taken" "taken" y7o f fd) {CStuck:Addr}(nStuck:W.nsIn K mainGlobals "Stuck"=some (some (.ref CStuck))) {CNotReady:Addr}(nNotReady:W.nsIn K mainGlobals "NotReady"=some (some (.ref CNotReady))) (zlen:mg "len"=none) (xStuck:W.excIn K CStuck [.type "ValueError",.type "Exception",.type "BaseException",.type "object"] "ValueError.__new__"=true) (xNotReady:W.excIn K CNotReady [.type "ValueError",.type "Exception",.type "BaseException",.type "object"] "ValueError.__new__"=true):FnOk P w K mg base (CX1 P w) (1) f fd ["store","spot"] ((y2d CNotReady CStuck)):=by
 have sc:=x6i
 refine F.okX sc (λ vs H Q E h=>?_) (λ cdv A outer s H vs Q E hr h=>?_)
 ·obtain ⟨a,i,r,rfl,_⟩:=h;rfl
 obtain ⟨a,i,r,rfl,ha,q1,q2,q3⟩:=h
 refine ⟨_,(z0d (z1c (PW.pt (z3s (z0j z6f (pv 1) z0c (z0o _)) (z3i (z0j y0b (pv 1) (z1b z0v (by rfl) zlen PySem.boot_len (z0a (pv 0) z0e)) (z0o _))))) (z0g (z2e PySem.F.excBase_ValueError rfl (by rfl) nStuck xStuck z2n (z0a z0s z0e))) z0m) (z0d (z1c (z0j x5l (z0r z0u (pv 0) (pv 1) (λ _ _=>rfl)) z8o (z0o _)) (z0g (z2e PySem.F.excBase_ValueError rfl (by rfl) nNotReady xNotReady z2n (z0a z0s z0e))) z0m) (z0g (z0q (z0r z0u (pv 0) (pv 1) (λ _ _=>rfl)))))),?_⟩
 wp_walk using z1a,z0y,inV,eqV
 unfold tkZ at q1 q2 q3
 by_cases c1:i < 0
 ·rw [if_pos c1]
  exact ⟨small (by decide),q2 (by rw [if_pos (.inl c1)]) _ (Same.refl _)⟩
 rw [if_neg c1]
 refine ⟨_,.inl (.of ha),?_⟩
 rw [List.length_map]
 by_cases c2:(r.length:Int)≤i
 ·rw [if_pos c2]
  exact ⟨small (by decide),q2 (by rw [if_pos (.inr c2)]) _ (Same.refl _)⟩
 rw [if_neg c2]
 rw [if_neg (by lia)] at q1 q2 q3
 have hx:=z6w (r:=r) (i:=i) (by lia) (by lia)
 refine ⟨_,ha,_,hx,?_⟩
 cases e:r.getD i.toNat none with
 | none =>
  rw [e] at q1
  rw [if_pos (show cV none=V.non from rfl)]
  exact ⟨small (by decide),q1 rfl _ (Same.refl _)⟩
 | some v =>
  rw [e] at q3 hx
  rw [if_neg (show ¬cV (some v)=V.non from λ z=>by cases z)]
  exact ⟨_,ha,_,hx,q3 _ _ rfl⟩
abbrev z6z:Stmt:=top 28
def z2k:Sp:=λ vs H Q _=>∃(b p:Addr) (s:Int) (st c:List Int),vs=[.int s,.ref p,.ref b]/\H p=some (.tup (st.map V.int))/\H b=some (.tup (c.map V.int))/\c.length=st.length/\st.length≤10/\(∀x∈c,0≤x/\x≤1000)/\∀H',Same H H'->Q (.int (s+z4s st c)) H'
theorem y5e:FnScope ["start","strides","at"] ["start","strides","at"] (z0k z6z):=⟨rfl,rfl,rfl,by decide +kernel,rfl,by decide +kernel,by decide +kernel⟩
theorem y5t (F:Fun K "tree_spot" "tree_spot" z6z f fd) (cspotof:Callee P w K mg base CX0 (1) "spot_of" ["view","at"] z9d):FnOk P w K mg base CX0 (2) f fd ["start","strides","at"] (z2k):=by
 have sc:=y5e
 refine F.ok sc (λ vs H Q E h=>?_) (λ cdv A outer s H vs Q E hr h=>?_)
 ·obtain ⟨b,p,s,st,c,rfl,_⟩:=h;rfl
 obtain ⟨b,p,s0,st,c,rfl,hp,hb,hl,h10,hc,q⟩:=h
 refine ⟨_,(z0g (z0q (z0z cspotof hr (by rfl) z1f (z0a (z0x (z0a (z0x z0e) (z0a (pv 0) (z0a (pv 1) z0e)))) (z0a (pv 2) z0e))))),?_⟩
 wp_walk using z1a,z0y,inV,eqV,z9d
 refine ⟨small (by decide),λ e he=>⟨small (by decide),λ v hv=>?_⟩⟩
 have t1:=z0b he (HO.tup [])
 have t2:=z0b hv (HO.tup [V.ref e,V.int s0,V.ref p])
 have t12:=t1.trans t2
 exact ⟨t2 _ _ z0f,st,t12 _ _ hp,c,t12 _ _ hb,hl,h10,hc,λ H1 s1=>q _ (t12.trans s1)⟩
abbrev z4v:Stmt:=top 29
theorem y0t:FnScope ["tree","at","stores"] ["tree","at","stores"] (z0k z4v):=⟨rfl,rfl,rfl,by decide +kernel,rfl,by decide +kernel,by decide +kernel⟩
theorem y1e (F:Fun K "free_number" "free_number" z4v f fd) (ctreespot:Callee P w K mg base CX0 (2) "tree_spot" ["start","strides","at"] z2k) (ctaken:Callee P w K mg base (CX1 P w) (2) "taken" ["store","spot"] (y2d CNotReady CStuck)):FnOk P w K mg base (CX1 P w) (3) f fd ["tree","at","stores"] ((y3z CNotReady CStuck)):=by
 have sc:=y0t
 refine F.okX sc (λ vs H Q E h=>?_) (λ cdv A outer s H vs Q E hr h=>?_)
 ·obtain ⟨t,a,st,T,c,S,rfl,_⟩:=h;rfl
 obtain ⟨t,a,st,T,c,S,rfl,hT,fr,tg,hV,q⟩:=h
 refine ⟨_,(z0d (z1c (z0j z1g (z0r z0l (pv 0) z0c (λ _ _=>rfl)) z0s (z0o _)) (z0g (z0q (z0r z0l (pv 0) z0c (λ _ _=>rfl)))) z0m) (z0d (z1c (z0j z1g (z0r z0l (pv 0) z0c (λ _ _=>rfl)) z0s (z0o _)) (z0g (z0q (z0z ctreespot hr (by rfl) z1f (z0a (z0r z0l (pv 0) z0c (λ _ _=>rfl)) (z0a (z0r z0l (pv 0) z0c (λ _ _=>rfl)) (z0a (pv 1) z0e)))))) z0m) (z0g (z0q (z0z ctaken hr (by rfl) z3u (z0a (z0r z0u (pv 2) (z0r z0l (pv 0) z0c (λ _ _=>rfl)) (λ _ _=>rfl)) (z0a (z0z ctreespot hr (by rfl) z1f (z0a (z0r z0l (pv 0) z0c (λ _ _=>rfl)) (z0a (z0r z0l (pv 0) z0c (λ _ _=>rfl)) (z0a (pv 1) z0e)))) z0e))))))),?_⟩
 wp_walk using z1a,z0y,inV,eqV,z2k,y2d
 cases T with
 | neg t=>exact fr.elim
 | sub t u=>exact fr.elim
 | num n =>
  refine ⟨_,hT,_,z0i (j:=0) rfl,rfl,?_⟩
  rw [if_pos rfl]
  exact ⟨_,hT,_,z0i (j:=1) rfl,q.2.2 _ _ rfl _ (Same.refl _)⟩
 | rd k s0 ss =>
  obtain ⟨p,h1,h2⟩:=hT
  obtain ⟨ps,h7,hS⟩:=hV.ps
  obtain ⟨k3,sl⟩:=tg
  refine ⟨_,h1,_,z0i (j:=0) rfl,rfl,?_⟩
  rw [if_neg (sne (by decide +kernel))]
  refine ⟨_,h1,_,z0i (j:=0) rfl,rfl,?_⟩
  rw [if_neg (sne (by decide +kernel))]
  have kl:k < S.length:=by rw [hV.sz.1];exact k3
  obtain ⟨sa,h8,h9⟩:=hS.2 k _ (List.getElem?_eq_getElem kl)
  refine ⟨_,h1,_,z0i (j:=1) rfl,_,(k:Int),rfl,h7,_,z0i (j:=k) (v:=.ref sa) (by rw [List.getElem?_map,h8];rfl),_,h1,_,z0i (j:=2) rfl,_,h1,_,z0i (j:=3) rfl,_,p,s0,rfl,rfl,rfl,ss,h2,c,hV.ha,sl.symm,by rw [sl];exact hV.co.1,hV.co.2,λ H' s=>⟨sa,rfl,S[k],s _ _ h9,?_⟩⟩
  have e:S.getD k []=S[k]:=by rw [List.getD_eq_getElem?_getD,List.getElem?_eq_getElem kl];rfl
  simp only [evZ,e] at q
  exact q.mono s λ v n _ h=>h _ s
abbrev z4f:Stmt:=top 30
def z2o:Sp:=λ vs H Q _=>∃(t na a st:Addr),vs=[.ref t,.ref na,.ref a,.ref st]/\((∃b v,H t=some (.tup [.str (Str.ofString "each"),.str (Str.ofString "neg"),.ref b])/\H na=some (.lst [.int v])/\Q (.int (y1d (Str.ofString "neg") v)) H)\/∃b c v1 v2,H t=some (.tup [.str (Str.ofString "pair"),.str (Str.ofString "sub"),.ref b,.ref c])/\inB v1/\inB v2/\H na=some (.lst [.int v1,.int v2])/\Q (.int (z1w (Str.ofString "sub") v1 v2)) H)
theorem z9q:FnScope ["tree","numbers","at","stores","form","row"] ["tree","numbers","at","stores"] (z0k z4f):=⟨rfl,rfl,rfl,by decide +kernel,rfl,by decide +kernel,by decide +kernel⟩
theorem y0c (F:Fun K "put_together" "put_together" z4f f fd) (conce:Callee P w K mg base CX0 (3) "once" ["word","x"] y7p) (ctwice:Callee P w K mg base CX0 (3) "twice" ["word","x","y"] z7d):FnOk P w K mg base CX0 (4) f fd ["tree","numbers","at","stores"] (z2o):=by
 have sc:=z9q
 refine F.ok sc (λ vs H Q E h=>?_) (λ cdv A outer s H vs Q E hr h=>?_)
 ·obtain ⟨t,na,a,st,rfl,_⟩:=h;rfl
 obtain ⟨t,na,a,st,rfl,h⟩:=h
 refine ⟨_,(z0d (z0t (i:=4) sc.nd rfl (by first | exact Or.inl rfl | exact Or.inr rfl) (z0r z0l (pv 0) z0c (λ _ _=>rfl))) (z0d (z1c (z0j z1g (pv 4) z0s (z0o _)) (z0g (z0q (z0z conce hr (by rfl) z1f (z0a (z0r z0l (pv 0) z0c (λ _ _=>rfl)) (z0a (z0r z0u (pv 1) z0c (λ _ _=>rfl)) z0e))))) z0m) (z0d (z1c (z0j z1g (pv 4) z0s (z0o _)) (z0g (z0q (z0z ctwice hr (by rfl) z1f (z0a (z0r z0l (pv 0) z0c (λ _ _=>rfl)) (z0a (z0r z0u (pv 1) z0c (λ _ _=>rfl)) (z0a (z0r z0u (pv 1) z0c (λ _ _=>rfl)) z0e)))))) z0m) (z0d (z1c (z0j z1g (pv 4) z0s (z0o _)) (z0g (z0q (z2p (z0j z8g (z0r z0u (pv 1) z0c (λ _ _=>rfl)) z0c (z0o _)) (z0r z0u (pv 1) z0c (λ _ _=>rfl)) (z0r z0u (pv 1) z0c (λ _ _=>rfl))))) z0m) (z0d (z0t (i:=5) sc.nd rfl (by first | exact Or.inl rfl | exact Or.inr rfl) z6u) (z0g (z0q z6u))))))),?_⟩
 wp_walk using z1a,z0y,inV,eqV,z7d,y7p
 rcases h with ⟨b,v,ht,hn,q⟩ | ⟨b,c,v1,v2,ht,b1,b2,hn,q⟩
 ·refine ⟨_,ht,_,z0i (j:=0) rfl,rfl,?_⟩
  rw [if_pos rfl]
  exact ⟨_,ht,_,z0i (j:=1) rfl,_,hn,_,z0i (j:=0) rfl,_,rfl,_,rfl,by simp,q⟩
 ·refine ⟨_,ht,_,z0i (j:=0) rfl,rfl,?_⟩
  rw [if_neg (sne (by decide +kernel))]
  refine ⟨rfl,?_⟩
  rw [if_pos rfl]
  exact ⟨_,ht,_,z0i (j:=1) rfl,_,hn,_,z0i (j:=0) rfl,_,hn,_,z0i (j:=1) rfl,_,rfl,_,rfl,_,rfl,by simp,b1,b2,q⟩
abbrev z5g:Stmt:=top 32
theorem y5g:FnScope ["tree","at","stores","numbers","calls","branch","told"] ["tree","at","stores"] (z0k z5g):=⟨rfl,rfl,rfl,by decide +kernel,rfl,by decide +kernel,by decide +kernel⟩
theorem y5v (F:Fun K "reckoned" "reckoned" z5g f fd) {d0:Nat}(cisfree:Callee P w K mg base CX0 (d0+4) "is_free" ["tree"] z5i) (cbranchesof:Callee P w K mg base CX0 (d0+4) "branches_of" ["tree"] z3h) (cfreenumber:Callee P w K mg base (CX1 P w) (d0+4) "free_number" ["tree","at","stores"] (y3z CNotReady CStuck)) (cputtogether:Callee P w K mg base CX0 (d0+4) "put_together" ["tree","numbers","at","stores"] z2o) (creckoned:Callee P w K mg base (CX1 P w) (d0+4) "reckoned" ["tree","at","stores"] (z2f CNotReady CStuck d0)):FnOk P w K mg base (CX1 P w) (d0+5) f fd ["tree","at","stores"] (z2f CNotReady CStuck (d0+1)):=by
 have sc:=y5g
 refine F.okX sc (λ vs H Q E h=>?_) (λ cdv A outer s H vs Q E hr h=>?_)
 ·obtain ⟨t,a,st,T,c,S,rfl,_⟩:=h;rfl
 obtain ⟨t,a,st,T,c,S,rfl,hT,dT,tg,hV,q⟩:=h
 refine ⟨_,(z0d (z1c (z8n (z0z cisfree hr (by rfl) z1f (z0a (pv 0) z0e))) (z0g (z0q (z0x (z0a (z0z cfreenumber hr (by rfl) z3u (z0a (pv 0) (z0a (pv 1) (z0a (pv 2) z0e)))) (z0a z0c z0e))))) z0m) (z0d (z1c (z0j z1g (z0r z0l (pv 0) z0c (λ _ _=>rfl)) z0s (z0o _)) (z0g (z0q z6u)) z0m) (z0d (z0t (i:=3) sc.nd rfl (by first | exact Or.inl rfl | exact Or.inr rfl) (z1n z0e)) (z0d (z0t (i:=4) sc.nd rfl (by first | exact Or.inl rfl | exact Or.inr rfl) z0c) (z0d (z2g PassesOwn.leaving rfl (y4f (z0z cbranchesof hr (by rfl) z1f (z0a (pv 0) z0e))) (z0w (i:=5) sc.nd rfl (Or.inl rfl)) (z0d (z0t (i:=6) sc.nd rfl (by first | exact Or.inl rfl | exact Or.inr rfl) (z0z creckoned hr (by rfl) z3u (z0a (pv 5) (z0a (pv 1) (z0a (pv 2) z0e))))) (z0d (z1z (z5q (pv 3) (z0r z0l (pv 6) z0c (λ _ _=>rfl)))) (z0g (z0t (i:=4) sc.nd rfl (by first | exact Or.inl rfl | exact Or.inr rfl) (z0p z1o (pv 4) (z0r z0l (pv 6) z0c (λ _ _=>rfl)))))))) (z0g (z0q (z0x (z0a (z0z cputtogether hr (by rfl) z1f (z0a (pv 0) (z0a (pv 3) (z0a (pv 1) (z0a (pv 2) z0e))))) (z0a (pv 4) z0e)))))))))),?_⟩
 simp only [L2.start,List.length_cons,List.length_nil,List.replicate,List.cons_append,List.nil_append,Nat.reduceSub,Nat.reduceAdd,List.map_cons,List.map_nil]
 obtain ⟨w,xs,ht,hw⟩:∃w xs,H t=some (.tup (.str w::xs))/\((free T/\(w=Str.ofString "num" \/ w=Str.ofString "read"))\/(¬free T/\(w=Str.ofString "pair" \/ w=Str.ofString "each"))):=by
  cases T with
  | num n=>exact ⟨_,_,hT,.inl ⟨trivial,.inl rfl⟩⟩
  | rd k s0 ss=>obtain ⟨p,h1,_⟩:=hT;exact ⟨_,_,h1,.inl ⟨trivial,.inr rfl⟩⟩
  | neg t=>obtain ⟨p,h1,_⟩:=hT;exact ⟨_,_,h1,.inr ⟨id,.inr rfl⟩⟩
  | sub t u=>obtain ⟨p,p',h1,_⟩:=hT;exact ⟨_,_,h1,.inr ⟨id,.inl rfl⟩⟩
 rcases hw with ⟨fr,hw⟩ | ⟨nf,hw⟩
 ·have c0:∀v n,evZ S T c=.ok v n->n=0:=λ v n e=>by
   cases T with
   | num m=>simp only [evZ,Rz.ok.injEq] at e;exact e.2.symm
   | rd k s0 ss =>
    simp only [evZ,tkZ] at e
    split at e
    ·cases e
    ·split at e
     ·cases e
     ·cases e;rfl
   | neg t=>exact fr.elim
   | sub t u=>exact fr.elim
  refine z0h (λ σ G=>False) (λ σ G h=>h.elim) (λ R hR=>?_)
  wp_walk using z1a,z0y,inV,eqV,z5i,y3z
  refine ⟨_,_,ht,true,.inl ⟨rfl,hw⟩,λ H1 s1=>?_⟩
  rw [if_pos rfl]
  refine ⟨T,hT.up (.of s1),fr,c,tg,S,hV.same s1,q.mono s1 λ v n e h H2 s2=>⟨small (by decide),λ p hp=>h _ p ((s1.trans s2).trans (z0b hp _)) ?_⟩⟩
  rw [z0f,c0 v n e]
 refine z0h (λ σ G=>Same H G/\σ=[some (.ref t),some (.ref a),some (.ref st),none,none,none,none]) ?_ (λ R hR=>?_)
 rotate_left
 ·wp_walk using z1a,z0y,inV,eqV,z5i
  refine ⟨_,_,ht,false,.inr ⟨rfl,hw⟩,λ H1 s1=>?_⟩
  rw [if_neg (by decide)]
  exact hR _ _ ⟨s1,rfl⟩
 rintro σ1 G1 ⟨s1,rfl⟩
 refine z0h (λ σ G=>G=G1/\σ=[some (.ref t),some (.ref a),some (.ref st),none,none,none,none]) ?_ (λ R hR=>?_)
 rotate_left
 ·wp_walk using z1a,z0y,inV,eqV
  refine ⟨_,s1 _ _ ht,_,z0i (j:=0) rfl,rfl,?_⟩
  rw [if_neg (sne (by rcases hw with rfl | rfl<;>decide +kernel))]
  exact hR _ _ ⟨rfl,rfl⟩
 rintro σ2 G2 ⟨rfl,rfl⟩
 refine z0h (λ σ G=>∃nl,G2 nl=none/\Same G2 G/\G nl=some (.lst [])/\σ=[some (.ref t),some (.ref a),some (.ref st),some (.ref nl),none,none,none]) ?_ (λ R hR=>?_)
 rotate_left
 ·wp_walk using z1a,z0y,inV,eqV
  exact ⟨small (by decide),λ p hp=>hR _ _ ⟨p,hp,z0b hp _,z0f,rfl⟩⟩
 rintro σ3 G3 ⟨nl,nl0,s3,hnl,rfl⟩
 refine z0h (λ σ G=>G=G3/\σ=[some (.ref t),some (.ref a),some (.ref st),some (.ref nl),some (.int 1),none,none]) ?_ (λ R hR=>?_)
 rotate_left
 ·wp_walk using z1a,z0y,inV,eqV
  exact hR _ _ ⟨rfl,rfl⟩
 rintro σ4 G4 ⟨rfl,rfl⟩
 have s04:=s1.trans s3
 refine z0h (λ σ G=>∃(y5 y6:Option V) (vs:List (Int × Int)),Same G2 G/\vs.length=(y6u T).length/\ResL S c (y6u T) vs/\G nl=some (.lst ((vs.map (·.1)).map V.int))/\σ=[some (.ref t),some (.ref a),some (.ref st),some (.ref nl),some (.int (1+(vs.map (·.2)).sum)),y5,y6]) ?_ (λ R hR=>?_)
 rotate_left
 ·wp_walk using z0y,inV,eqV,z3h
  refine ⟨T,hT.up (.of s04),nf,λ G5 bp ps s5 hbp hk=>?_⟩
  have nlb:∀ {b:Addr}{o:HO},G2 b=some o->b≠nl:=λ e z=>by rw [z,nl0] at e;cases e
  have nb:bp≠nl:=λ z=>by rw [z,s5 _ _ hnl] at hbp;cases hbp
  obtain ⟨J,hJ⟩:∃J:Nat->L2.St->Hp->Prop,J=(λ i σ G=>∃(y5 y6:Option V) (vs:List (Int × Int)),(∀b o,b≠nl->G5 b=some o->G b=some o)/\vs.length=i/\ResL S c (y6u T) vs/\G nl=some (.lst ((vs.map (·.1)).map V.int))/\σ=[some (.ref t),some (.ref a),some (.ref st),some (.ref nl),some (.int (1+(vs.map (·.2)).sum)),y5,y6]):=⟨_,rfl⟩
  refine LoopT.mk (xs:=ps.map V.ref) (.of hbp) J (by rw [hJ];exact ⟨_,_,[],λ _ _ _ h=>h,rfl,λ j z e=>by simp at e,s5 _ _ hnl,rfl⟩) (λ i σ G _ h=>by rw [hJ] at h;obtain ⟨_,_,_,k,_⟩:=h;exact .of (k _ _ nb hbp)) (λ i x σ G ex h=>?_) (λ σ G h=>?_)<;>rw [hJ] at h
  ·obtain ⟨y5,y6,vs,k,rfl,rl,hn,rfl⟩:=h
   have sG:Same G2 G:=λ b o e=>k b o (nlb e) ((s3.trans s5) _ _ e)
   have il:vs.length < ps.length:=by have:=(List.getElem?_eq_some_iff.mp ex).1;rwa [List.length_map] at this
   have ek:(y6u T)[vs.length]?=some ((y6u T)[vs.length]'(by rw [← hk.1];exact il)):=List.getElem?_eq_getElem _
   generalize (y6u T)[vs.length]'(by rw [← hk.1];exact il)=u at ek
   obtain ⟨pu,epu,hu⟩:=hk.2 _ u ek
   rw [List.getElem?_map,epu] at ex
   cases ex
   obtain ⟨tu,du,i2⟩:=w1l tg ek
   obtain ⟨bw,bs⟩:=w2k rl ek
   have ut:UpT G5 G:=λ b xs e=>k b _ (λ z=>by rw [z,s5 _ _ hnl] at e;cases e) e
   have s0G:=s1.trans sG
   simp only [z6g,List.set_cons_succ,List.set_cons_zero]
   refine z0h (λ σ G6=>∃(p6:Addr) (v n:Int),evZ S u c=.ok v n/\Same G G6/\G6 p6=some (.tup [.int v,.int n])/\σ=[some (.ref t),some (.ref a),some (.ref st),some (.ref nl),some (.int (1+(vs.map (·.2)).sum)),some (.ref pu),some (.ref p6)]) ?_ (λ R hR=>?_)
   rotate_left
   ·wp_walk using z1a,z0y,inV,eqV
    cases d0 with
    | zero=>exact absurd dT (by lia)
    | succ d =>
     simp only [z2f]
     exact ⟨pu,a,st,u,c,S,rfl,hu.up ut,by lia,tu,hV.same s0G,λ e H' s'=>q.1 (bw e) _ (s0G.trans s'),λ e H' s'=>q.2.1 (bs e) _ (s0G.trans s'),λ v n e H' p s' h'=>hR _ _ ⟨p,v,n,e,s',h',rfl⟩⟩
   rintro σ6 G6 ⟨p6,v,n,ev,s6,h6,rfl⟩
   have hn6:=s6 _ _ hn
   have np:p6≠nl:=λ z=>by rw [z,hn6] at h6;cases h6
   wp_walk using z1a,z0y,inV,eqV
   refine ⟨⟨_,hn6⟩,_,h6,_,z0i (j:=0) rfl,_,hn6,z1e (by rw [List.length_map,List.length_map];lia),_,by rw [z0n np];exact h6,_,z0i (j:=1) rfl,n,rfl,?_⟩
   rw [hJ]
   refine ⟨some (.ref pu),some (.ref p6),vs++[(v,n)],λ b o nb' e'=>by rw [z0n nb'];exact s6 _ _ (k b o nb' e'),by rw [List.length_append];rfl,rl.snoc ek ev,by rw [z0f,List.map_append,List.map_append];rfl,?_⟩
   rw [show (1+((vs++[(v,n)]).map (·.2)).sum:Int)=1+(vs.map (·.2)).sum+n by rw [List.map_append,List.sum_append];show 1+((vs.map (·.2)).sum+(n+0))=1+(vs.map (·.2)).sum+n;lia]
  ·obtain ⟨y5,y6,vs,k,vl,rl,hn,rfl⟩:=h
   rw [List.length_map,hk.1] at vl
   exact hR _ _ ⟨y5,y6,vs,λ b o e=>k b o (nlb e) ((s3.trans s5) _ _ e),vl,rl,hn,rfl⟩
 rintro σ5 G5 ⟨y5,y6,vs,s5,vl,rl,hn5,rfl⟩
 have s05:=s1.trans s5
 wp_walk using z1a,z0y,inV,eqV,z2o
 rcases w2j nf rl vl with ⟨t',z,rfl,rfl,ev⟩ | ⟨t',u',z,y,rfl,rfl,e1,e2,ev⟩
 ·obtain ⟨b,hb,_⟩:=hT
  refine .inl ⟨b,s05 _ _ hb,z.1,hn5,small (by decide),λ p hp=>q.2.2 _ _ ev _ p (s05.trans (z0b hp _)) ?_⟩
  rw [z0f]
  show some (HO.tup [_,V.int (1+(z.2+0))])=_
  rw [Int.add_zero]
 ·obtain ⟨b,c',hb,_⟩:=hT
  refine .inr ⟨b,c',s05 _ _ hb,z.1,x0p hV.sz tg.1 e1,y.1,x0p hV.sz tg.2 e2,hn5,small (by decide),λ p hp=>q.2.2 _ _ ev _ p (s05.trans (z0b hp _)) ?_⟩
  rw [z0f]
  show some (HO.tup [_,V.int (1+(z.2+(y.2+0)))])=_
  rw [Int.add_zero,Int.add_assoc]
theorem z7t (F:Fun K "reckoned" "reckoned" z5g f fd) (cisfree:Callee P w K mg base CX0 4 "is_free" ["tree"] z5i) (cbranchesof:Callee P w K mg base CX0 4 "branches_of" ["tree"] z3h) (cfreenumber:Callee P w K mg base (CX1 P w) 4 "free_number" ["tree","at","stores"] (y3z CNotReady CStuck)) (cputtogether:Callee P w K mg base CX0 4 "put_together" ["tree","numbers","at","stores"] z2o) (m:mg "reckoned"=some (.ref f)) (b:Binds K fd ["tree","at","stores"] []):∀d0:Nat,FnOk P w K mg base (CX1 P w) (d0+4) f fd ["tree","at","stores"] (z2f CNotReady CStuck d0)
 | 0=>⟨λ _ _ _ _ h=>h.elim,λ _ _ _ _ _ _ _ _ _ _ _ _ _ h=>h.elim⟩
 | d0+1=>(y5v F (cisfree.mono (Nat.le_add_left _ _)) (cbranchesof.mono (Nat.le_add_left _ _)) (cfreenumber.mono (Nat.le_add_left _ _)) (cputtogether.mono (Nat.le_add_left _ _)) (Callee.mk' F m b (z7t F cisfree cbranchesof cfreenumber cputtogether m b d0))).mono (by lia)
abbrev z6a:Stmt:=top 34
def z2x:Sp:=λ vs H Q _=>∃(p:Addr) (L:Lp),vs=[.ref p]/\LpAt H p L/\∀s,H s=some (.tup (L.sd.map V.int))->Q (.ref s) H
theorem y2l:FnScope ["loop"] ["loop"] (z0k z6a):=⟨rfl,rfl,rfl,by decide +kernel,rfl,by decide +kernel,by decide +kernel⟩
theorem y2w (F:Fun K "loop_sides" "loop_sides" z6a f fd):FnOk P w K mg base CX0 (1) f fd ["loop"] (z2x):=by
 have sc:=y2l
 refine F.ok sc (λ vs H Q E h=>?_) (λ cdv A outer s H vs Q E hr h=>?_)
 ·obtain ⟨p,L,rfl,_⟩:=h;rfl
 obtain ⟨p,L,rfl,⟨s,sq,t,hs,h2,h3,h4⟩,q⟩:=h
 refine ⟨_,(z0g (z0q (z2p (z0j z1g (z0r z0l (pv 0) z0c (λ _ _=>rfl)) z0s (z0o _)) (z0r z0l (pv 0) z0c (λ _ _=>rfl)) (z0r z0l (pv 0) z0c (λ _ _=>rfl))))),?_⟩
 wp_walk using z1a,z0y,inV,eqV
 rcases h4 with ⟨_,e⟩ | ⟨w,m,_,e⟩
 ·refine ⟨_,e,_,z0i (j:=0) rfl,rfl,?_⟩
  rw [if_pos rfl]
  exact ⟨_,e,_,z0i (j:=2) rfl,q _ hs⟩
 ·refine ⟨_,e,_,z0i (j:=0) rfl,rfl,?_⟩
  rw [if_neg (sne (by decide +kernel))]
  exact ⟨_,e,_,z0i (j:=3) rfl,q _ hs⟩
abbrev z7b:Stmt:=top 35
def z3l:Sp:=λ vs H Q _=>∃(p:Addr) (L:Lp),vs=[.ref p]/\LpAt H p L/\LpOk L/\Q (.int (z1t L.sd)) H
theorem y5f:FnScope ["loop"] ["loop"] (z0k z7b):=⟨rfl,rfl,rfl,by decide +kernel,rfl,by decide +kernel,by decide +kernel⟩
theorem y5u (F:Fun K "rounds_of" "rounds_of" z7b f fd) (camount:Callee P w K mg base CX0 (1) "amount" ["sides"] z5k) (cloopsides:Callee P w K mg base CX0 (1) "loop_sides" ["loop"] z2x):FnOk P w K mg base CX0 (2) f fd ["loop"] (z3l):=by
 have sc:=y5f
 refine F.ok sc (λ vs H Q E h=>?_) (λ cdv A outer s H vs Q E hr h=>?_)
 ·obtain ⟨p,L,rfl,_⟩:=h;rfl
 obtain ⟨p,L,rfl,hp,ok,q⟩:=h
 refine ⟨_,(z0g (z0q (z0z camount hr (by rfl) z1f (z0a (z0z cloopsides hr (by rfl) z1f (z0a (pv 0) z0e)) z0e)))),?_⟩
 wp_walk using z1a,z0y,inV,eqV,z5k,z2x
 exact ⟨L,hp,λ s hs=>⟨L.sd,.inr hs,ok.sd,q⟩⟩
abbrev z5z:Stmt:=top 37
def z2w:Sp:=λ vs H Q _=>∃(p:Addr) (L:Lp),vs=[.ref p]/\LpAt H p L/\Q (.int (L.st:Int)) H
theorem y2k:FnScope ["loop"] ["loop"] (z0k z5z):=⟨rfl,rfl,rfl,by decide +kernel,rfl,by decide +kernel,by decide +kernel⟩
theorem y2v (F:Fun K "loop_store" "loop_store" z5z f fd):FnOk P w K mg base CX0 (1) f fd ["loop"] (z2w):=by
 have sc:=y2k
 refine F.ok sc (λ vs H Q E h=>?_) (λ cdv A outer s H vs Q E hr h=>?_)
 ·obtain ⟨p,L,rfl,_⟩:=h;rfl
 obtain ⟨p,L,rfl,⟨s,sq,t,hs,h2,h3,h4⟩,q⟩:=h
 refine ⟨_,(z0g (z0q (z2p (z0j z1g (z0r z0l (pv 0) z0c (λ _ _=>rfl)) z0s (z0o _)) (z0r z0l (pv 0) z0c (λ _ _=>rfl)) (z0r z0l (pv 0) z0c (λ _ _=>rfl))))),?_⟩
 wp_walk using z1a,z0y,inV,eqV
 rcases h4 with ⟨_,e⟩ | ⟨w,m,_,e⟩
 ·refine ⟨_,e,_,z0i (j:=0) rfl,rfl,?_⟩
  rw [if_pos rfl]
  exact ⟨_,e,_,z0i (j:=1) rfl,q⟩
 ·refine ⟨_,e,_,z0i (j:=0) rfl,rfl,?_⟩
  rw [if_neg (sne (by decide +kernel))]
  exact ⟨_,e,_,z0i (j:=2) rfl,q⟩
abbrev z7p:Stmt:=top 39
theorem y5p:FnScope ["loop","at","cells","told"] ["loop","at","cells"] (z0k z7p):=⟨rfl,rfl,rfl,by decide +kernel,rfl,by decide +kernel,by decide +kernel⟩
theorem y6e (F:Fun K "fill_made" "fill_made" z7p f fd) (creckoned:Callee P w K mg base (CX1 P w) (8) "reckoned" ["tree","at","stores"] (z2f CNotReady CStuck 3)) (ctreespot:Callee P w K mg base CX0 (8) "tree_spot" ["start","strides","at"] z2k):FnOk P w K mg base (CX1 P w) (9) f fd ["loop","at","cells"] ((y0s false CNotReady CStuck)):=by
 have sc:=y5p
 refine F.okX sc (λ vs H Q E h=>?_) (λ cdv A outer s H vs Q E hr h=>?_)
 ·obtain ⟨p,a,st,L,c,S,rfl,_⟩:=h;rfl
 obtain ⟨p,a,st,L,c,S,rfl,hp,ok,hrn,cl,hV,q⟩:=h
 refine ⟨_,(z0d (z0t (i:=3) sc.nd rfl (by first | exact Or.inl rfl | exact Or.inr rfl) (z0z creckoned hr (by rfl) z3u (z0a (z0r z0l (pv 0) z0c (λ _ _=>rfl)) (z0a (pv 1) (z0a (pv 2) z0e))))) (z0g (z0q (z0x (z0a (z1n (z0a (z0x (z0a (z0z ctreespot hr (by rfl) z1f (z0a (z0r z0l (pv 0) z0c (λ _ _=>rfl)) (z0a (z0r z0l (pv 0) z0c (λ _ _=>rfl)) (z0a (pv 1) z0e)))) (z0a (z0r z0l (pv 3) z0c (λ _ _=>rfl)) z0e))) z0e)) (z0a (z0r z0l (pv 3) z0c (λ _ _=>rfl)) z0e)))))),?_⟩
 obtain ⟨sp,sq,t,h1,h2,h3,h4⟩:=hp
 rcases h4 with ⟨rn,e⟩ | ⟨w,m,rn,e⟩
 rotate_left
 ·rw [rn] at hrn;cases hrn
 have pl:y9a L=0:=by unfold y9a;rw [rn]
 obtain ⟨_,_,_,_,sl,tg,dt,_⟩:=ok
 rw [pl,Nat.add_zero,← cl] at sl tg
 have er:z8c S L c=x4d (L.s0+z4s L.ss c) (evZ S L.t c):=by simp only [z8c,rn]
 rw [er] at q
 wp_walk using z1a,z0y,inV,eqV,z2f,z2k
 refine ⟨_,e,_,z0i (j:=5) rfl,_,rfl,L.t,h3,by lia,c,tg,S,hV,λ z=>q.1 (by rw [z];rfl),λ z=>q.2.1 (by rw [z];rfl),λ v k z H1 p1 s1 e1=>?_⟩
 have q3:=q.2.2 0 _ k (by rw [z];rfl)
 refine ⟨_,s1 _ _ e,_,z0i (j:=3) rfl,_,s1 _ _ e,_,z0i (j:=4) rfl,_,sq,L.s0,rfl,rfl,rfl,L.ss,s1 _ _ h2,c,s1 _ _ hV.ha,sl.symm,by rw [sl];exact hV.co.1,hV.co.2,λ H2 s2=>?_⟩
 exact ⟨_,s2 _ _ e1,_,z0i (j:=0) rfl,small (by decide),λ x hx=>⟨small (by decide),λ l hl=>⟨_,z0b hl _ _ _ (z0b hx _ _ _ (s2 _ _ e1)),_,z0i (j:=1) rfl,small (by decide),λ m hm=>q3 _ m l [x] (s1.trans (s2.trans ((z0b hx _).trans ((z0b hl _).trans (z0b hm _))))) ((s1.trans (s2.trans (z0b hx _))).free hl) z0f (z0b hm _ _ _ z0f) ⟨rfl,λ i r er'=>by
  match i,er' with
  | 0,er'=>cases er';exact ⟨x,rfl,z0b hm _ _ _ (z0b hl _ _ _ z0f)⟩⟩⟩⟩⟩
abbrev z9b:Stmt:=top 40
theorem y7z:FnScope ["loop","at","cells","number","writings","calls","k","told"] ["loop","at","cells"] (z0k z9b):=⟨rfl,rfl,rfl,by decide +kernel,rfl,by decide +kernel,by decide +kernel⟩
theorem y9o (F:Fun K "run_made" "run_made" z9b f fd) (creckoned:Callee P w K mg base (CX1 P w) (8) "reckoned" ["tree","at","stores"] (z2f CNotReady CStuck 3)) (ctreespot:Callee P w K mg base CX0 (8) "tree_spot" ["start","strides","at"] z2k) (cneutral:Callee P w K mg base CX0 (8) "neutral" ["word"] z7e) (ctwice:Callee P w K mg base CX0 (8) "twice" ["word","x","y"] z7d) (zrange:mg "range"=none):FnOk P w K mg base (CX1 P w) (9) f fd ["loop","at","cells"] ((y0s true CNotReady CStuck)):=by
 have sc:=y7z
 refine F.okX sc (λ vs H Q E h=>?_) (λ cdv A outer s H vs Q E hr h=>?_)
 ·obtain ⟨p,a,st,L,c,S,rfl,_⟩:=h;rfl
 obtain ⟨p,a,st,L,c,S,rfl,hp,ok,hrn,cl,hV,q⟩:=h
 refine ⟨_,(z0d (z0t (i:=3) sc.nd rfl (by first | exact Or.inl rfl | exact Or.inr rfl) (z0z cneutral hr (by rfl) z1f (z0a (z0r z0l (pv 0) z0c (λ _ _=>rfl)) z0e))) (z0d (z0t (i:=4) sc.nd rfl (by first | exact Or.inl rfl | exact Or.inr rfl) (z1n z0e)) (z0d (z0t (i:=5) sc.nd rfl (by first | exact Or.inl rfl | exact Or.inr rfl) z0c) (z0d (z2g PassesOwn.leaving rfl (z1s (by rfl) zrange (z0a (z0r z0l (pv 0) z0c (λ _ _=>rfl)) z0e)) (z0w (i:=6) sc.nd rfl (Or.inl rfl)) (z0d (z0t (i:=7) sc.nd rfl (by first | exact Or.inl rfl | exact Or.inr rfl) (z0z creckoned hr (by rfl) z3u (z0a (z0r z0l (pv 0) z0c (λ _ _=>rfl)) (z0a (z0p z3v (pv 1) (z0x (z0a (pv 6) z0e))) (z0a (pv 2) z0e))))) (z0d (z0t (i:=3) sc.nd rfl (by first | exact Or.inl rfl | exact Or.inr rfl) (z0z ctwice hr (by rfl) z1f (z0a (z0r z0l (pv 0) z0c (λ _ _=>rfl)) (z0a (pv 3) (z0a (z0r z0l (pv 7) z0c (λ _ _=>rfl)) z0e))))) (z0d (z1z (z5q (pv 4) (z0x (z0a (z0z ctreespot hr (by rfl) z1f (z0a (z0r z0l (pv 0) z0c (λ _ _=>rfl)) (z0a (z0r z0l (pv 0) z0c (λ _ _=>rfl)) (z0a (z0p z3v (pv 1) (z0x (z0a (pv 6) z0e))) z0e)))) (z0a (pv 3) z0e))))) (z0g (z0t (i:=5) sc.nd rfl (by first | exact Or.inl rfl | exact Or.inr rfl) (z0p z1o (z0p z1o (pv 5) z0c) (z0r z0l (pv 7) z0c (λ _ _=>rfl))))))))) (z0g (z0q (z0x (z0a (pv 4) (z0a (pv 5) z0e))))))))),?_⟩
 simp only [L2.start,List.length_cons,List.length_nil,List.replicate,List.cons_append,List.nil_append,Nat.reduceSub,Nat.reduceAdd,List.map_cons,List.map_nil]
 obtain ⟨sp,sq,t,h1,h2,h3,h4⟩:=hp
 rcases h4 with ⟨rn,e⟩ | ⟨w,m,rn,e⟩
 ·rw [rn] at hrn;cases hrn
 have pl:y9a L=1:=by unfold y9a;rw [rn]
 obtain ⟨_,sd2,_,_,sl,tg,dt,hwm⟩:=ok
 obtain ⟨hw,m3⟩:=hwm w m rn
 obtain ⟨hfw,htw⟩:=x2a hw
 rw [pl,← cl] at sl tg
 have c2:c.length≤2:=by lia
 have er:z8c S L c=z8f S w L.t L.s0 L.ss c m:=by simp only [z8c,rn]
 rw [er] at q
 refine z0h (λ σ G=>Same H G/\σ=[some (.ref p),some (.ref a),some (.ref st),some (.int (y6f w)),none,none,none,none]) ?_ (λ R hR=>?_)
 rotate_left
 ·wp_walk using z1a,z0y,inV,eqV,z7e
  exact ⟨_,e,_,z0i (j:=1) rfl,w,rfl,by simpa [fw] using hfw,λ G s1=>hR _ _ ⟨s1,rfl⟩⟩
 rintro σ1 G1 ⟨s1,rfl⟩
 refine z0h (λ σ G=>∃wl,G1 wl=none/\Same G1 G/\G wl=some (.lst [])/\σ=[some (.ref p),some (.ref a),some (.ref st),some (.int (y6f w)),some (.ref wl),none,none,none]) ?_ (λ R hR=>?_)
 rotate_left
 ·wp_walk using z1a,z0y,inV,eqV
  exact ⟨small (by decide),λ p hp=>hR _ _ ⟨p,hp,z0b hp _,z0f,rfl⟩⟩
 rintro σ2 G2 ⟨wl,wl0,s2,hwl,rfl⟩
 refine z0h (λ σ G=>G=G2/\σ=[some (.ref p),some (.ref a),some (.ref st),some (.int (y6f w)),some (.ref wl),some (.int 0),none,none]) ?_ (λ R hR=>?_)
 rotate_left
 ·wp_walk using z1a,z0y,inV,eqV
  exact hR _ _ ⟨rfl,rfl⟩
 rintro σ3 G3 ⟨rfl,rfl⟩
 have nwl:∀ {b:Addr}{o:HO},G1 b=some o->b≠wl:=λ e z=>by rw [z,wl0] at e;cases e
 refine z0h (λ σ G=>∃(ac k:Int) (rows:List (Int × Int)) (ps:List Addr) (y z:Option V),z8f S w L.t L.s0 L.ss c m=.ok ac rows k/\Same G1 G/\G wl=some (.lst (ps.map V.ref))/\RowsAt G ps rows/\σ=[some (.ref p),some (.ref a),some (.ref st),some (.int ac),some (.ref wl),some (.int k),y,z]) ?_ (λ R hR=>?_)
 rotate_left
 ·wp_walk using z0y,inV,eqV
  refine ⟨_,(s1.trans s2) _ _ e,_,z0i (j:=4) rfl,_,rfl,by lia,by lia,?_⟩
  rw [Int.toNat_natCast]
  obtain ⟨J,hJ⟩:∃J:Nat->L2.St->Hp->Prop,J=(λ i σ G=>∃(ac k:Int) (rows:List (Int × Int)) (ps:List Addr) (y z:Option V),i≤m/\z8f S w L.t L.s0 L.ss c i=.ok ac rows k/\Same G1 G/\G wl=some (.lst (ps.map V.ref))/\RowsAt G ps rows/\σ=[some (.ref p),some (.ref a),some (.ref st),some (.int ac),some (.ref wl),some (.int k),y,z]):=⟨_,rfl⟩
  refine LoopR.mk J (by rw [hJ];exact ⟨_,_,[],[],_,_,Nat.zero_le _,rfl,s2,hwl,⟨rfl,λ i r e=>by simp at e⟩,rfl⟩) (λ i σ G hi h=>?_) (λ σ G h=>?_)<;>rw [hJ] at h
  ·obtain ⟨ac,k,rows,ps,y,z,im,er',sG,hG,hr,rfl⟩:=h
   simp only [z6g,List.set_cons_succ,List.set_cons_zero]
   rw [Int.zero_add]
   have s0G:=s1.trans sG
   have ri:=y0x hV.sz hw tg er'
   have cs:x8z (c++[(i:Int)]):=x1n hV.co (by lia) (by lia)
   have clen:(c++[(i:Int)]).length=c.length+1:=by rw [List.length_append];rfl
   have nx:∀z,evZ S L.t (c++[(i:Int)])=z->z8f S w L.t L.s0 L.ss c (i+1)=w3s w (L.s0+z4s L.ss (c++[(i:Int)])) ac k rows z:=λ z hz=>by simp only [z8f,er',hz]
   have mi:(i+1)+(m - (i+1))=m:=by lia
   have bad:=y2s (S:=S) (w:=w) (t:=L.t) (s0:=L.s0) (ss:=L.ss) (c:=c) (m - (i+1)) (i+1)
   rw [mi] at bad
   refine z0h (λ σ G6=>∃(p6:Addr) (v n:Int),evZ S L.t (c++[(i:Int)])=.ok v n/\Same G G6/\G6 p6=some (.tup [.int v,.int n])/\σ=[some (.ref p),some (.ref a),some (.ref st),some (.int ac),some (.ref wl),some (.int k),some (.int (i:Int)),some (.ref p6)]) ?_ (λ R hR=>?_)
   rotate_left
   ·wp_walk using z1a,z0y,inV,eqV,z2f
    refine ⟨_,s0G _ _ e,_,z0i (j:=7) rfl,small (by decide),λ p1 hp1=>?_⟩
    have t1:=z0b hp1 (HO.tup [V.int (i:Int)])
    refine ⟨_,t1 _ _ (s0G _ _ hV.ha),by rw [List.length_map];exact small (by lia),λ r G4 s4 hr4=>?_⟩
    have s04:=s0G.trans (t1.trans s4)
    refine ⟨t,rfl,L.t,h3.up (.of s04),by lia,c++[(i:Int)],by rw [clen];exact tg,S,⟨by rw [hr4,List.map_append];rfl,cs,(hV.same s04).ps,hV.sz⟩,λ z H' s'=>q.1 (bad.1 (nx _ z)) _ (s04.trans s'),λ z H' s'=>q.2.1 (bad.2 (nx _ z)) _ (s04.trans s'),λ v n z H' p' s' h'=>hR _ _ ⟨p',v,n,z,t1.trans (s4.trans s'),h',rfl⟩⟩
   rintro σ6 G6 ⟨p6,v,n,ev,s6,h6,rfl⟩
   have s06:=s0G.trans s6
   refine z0h (λ σ G7=>G7=G6/\σ=[some (.ref p),some (.ref a),some (.ref st),some (.int (z1w w ac v)),some (.ref wl),some (.int k),some (.int (i:Int)),some (.ref p6)]) ?_ (λ R hR=>?_)
   rotate_left
   ·wp_walk using z1a,z0y,inV,eqV,z7d
    exact ⟨_,s06 _ _ e,_,z0i (j:=1) rfl,_,h6,_,z0i (j:=0) rfl,w,rfl,_,rfl,by simpa [tw] using htw,ri.1,x0p hV.sz tg ev,hR _ _ ⟨rfl,rfl⟩⟩
   rintro σ7 G7 ⟨rfl,rfl⟩
   wp_walk using z1a,z0y,inV,eqV,z2k
   have hG7:=s6 _ _ hG
   refine ⟨⟨_,hG7⟩,_,s06 _ _ e,_,z0i (j:=5) rfl,_,s06 _ _ e,_,z0i (j:=6) rfl,small (by decide),λ p1 hp1=>?_⟩
   have t1:=z0b hp1 (HO.tup [V.int (i:Int)])
   refine ⟨_,t1 _ _ (s06 _ _ hV.ha),by rw [List.length_map];exact small (by lia),λ r G8 s8 hr8=>?_⟩
   have s78:=t1.trans s8
   refine ⟨r,sq,L.s0,rfl,rfl,rfl,L.ss,s78 _ _ (s06 _ _ h2),c++[(i:Int)],by rw [hr8,List.map_append];rfl,by rw [clen,sl],by rw [sl];lia,cs.2,λ G9 s9=>⟨small (by decide),λ x hx=>?_⟩⟩
   have s7x:=s78.trans (s9.trans (z0b hx (.tup [.int (L.s0+z4s L.ss (c++[(i:Int)])),.int (z1w w ac v)])))
   have rlen:rows.length≤3:=by rw [ri.2.1];lia
   have p6n:p6≠wl:=λ z=>by rw [z,hG7] at h6;cases h6
   refine ⟨_,s7x _ _ hG7,z1e (by rw [List.length_map,hr.1];lia),_,by rw [z0n p6n];exact s7x _ _ h6,_,z0i (j:=1) rfl,_,rfl,?_⟩
   rw [hJ]
   have ut:UpT G (upd (upd G9 x (.tup [.int (L.s0+z4s L.ss (c++[(i:Int)])),.int (z1w w ac v)])) wl (.lst (ps.map V.ref++[V.ref x]))):=λ b xs eb=>by
    rw [z0n (λ z=>by rw [z,hG] at eb;cases eb)]
    exact s7x _ _ (s6 _ _ eb)
   have xw:x≠wl:=λ z=>by rw [z,(s78.trans s9) _ _ hG7] at hx;cases hx
   refine ⟨_,_,_,ps++[x],_,_,by lia,nx _ ev,λ b o eb=>?_,?_,(hr.up ut).snoc ?_,rfl⟩
   ·rw [z0n (nwl eb)];exact s7x _ _ (s6 _ _ (sG _ _ eb))
   ·rw [z0f,List.map_append];rfl
   ·rw [z0n xw];exact z0f
  ·obtain ⟨ac,k,rows,ps,y,z,_,er',sG,hG,hr,rfl⟩:=h
   exact hR _ _ ⟨ac,k,rows,ps,y,z,er',sG,hG,hr,rfl⟩
 rintro σ4 G4 ⟨ac,k,rows,ps,y,z,er',sG,hG,hr,rfl⟩
 wp_walk using z1a,z0y,inV,eqV
 exact ⟨small (by decide),λ m hm=>q.2.2 _ _ _ er' _ m wl ps (s1.trans (sG.trans (z0b hm _))) (s1.free wl0) z0f (z0b hm _ _ _ hG) (hr.up (.of (z0b hm _)))⟩
abbrev z4g:Stmt:=top 41
theorem z9r:FnScope ["writings","cells","spots","spot"] ["writings","cells"] (z0k z4g):=⟨rfl,rfl,rfl,by decide +kernel,rfl,by decide +kernel,by decide +kernel⟩
theorem y0d (F:Fun K "ask_writings" "ask_writings" z4g f fd) {CStuck:Addr}(nStuck:W.nsIn K mainGlobals "Stuck"=some (some (.ref CStuck))) (zlen:mg "len"=none) (zset:mg "set"=none) (xStuck:W.excIn K CStuck [.type "ValueError",.type "Exception",.type "BaseException",.type "object"] "ValueError.__new__"=true):FnOk P w K mg base (CX1 P w) (1) f fd ["writings","cells"] ((y7v CStuck)):=by
 have sc:=z9r
 refine F.okX sc (λ vs H Q E h=>?_) (λ cdv A outer s H vs Q E hr h=>?_)
 ·obtain ⟨wa,ca,ps,rows,r,rfl,_⟩:=h;rfl
 obtain ⟨wa,ca,ps,rows,r,rfl,hw,hr0,r3,hc,q1,q2⟩:=h
 refine ⟨_,(z0d (z5n (own:=["spot","number"]) sc.nd (i:=2) rfl (by first | exact Or.inl rfl | exact Or.inr rfl) (by first | exact Or.inl rfl | exact Or.inr rfl) rfl (z3t (pv 0)) (by decide) (by decide) rfl (by decide) (λ _ _ _ _=>(z2i (n:=2) (z3j rfl (z1d (z0w (i:=0) (show (["spot","number"]:List Str).Nodup by decide +kernel) rfl (Or.inl rfl)) (z1d (z0w (i:=1) (show (["spot","number"]:List Str).Nodup by decide +kernel) rfl (Or.inl rfl)) z2h))))) (λ _ _ _ _=>(pv 0))) (z0d (z1c (z0j z8g (z1b x1t (by rfl) zlen PySem.boot_len (z0a (z1x (x1r rfl) (by rfl) zset boot_set (z0a (pv 2) z0e)) z0e)) (z1b z0v (by rfl) zlen PySem.boot_len (z0a (pv 2) z0e)) (z0o _)) (z0g (z2e PySem.F.excBase_ValueError rfl (by rfl) nStuck xStuck z2n (z0a z0s z0e))) z0m) (z0g (z2g PassesOwn.leaving rfl (z3t (pv 2)) (z0w (i:=3) sc.nd rfl (Or.inl rfl)) (z0d (z1c (PW.pt (z3s (z0j z6f (pv 3) z0c (z0o _)) (z3i (z0j y0b (pv 3) (z1b z0v (by rfl) zlen PySem.boot_len (z0a (pv 1) z0e)) (z0o _))))) (z0g (z2e PySem.F.excBase_ValueError rfl (by rfl) nStuck xStuck z2n (z0a z0s z0e))) z0m) (z0g (z1c (z0j y9j (z0r z0u (pv 1) (pv 3) (λ _ _=>rfl)) z8o (z0o _)) (z0g (z2e PySem.F.excBase_ValueError rfl (by rfl) nStuck xStuck z2n (z0a z0s z0e))) z0m))))))),?_⟩
 simp only [L2.start,List.length_cons,List.length_nil,List.replicate,List.cons_append,List.nil_append,Nat.reduceSub,Nat.reduceAdd,List.map_cons,List.map_nil]
 refine z0h (λ σ G=>∃sl,Same H G/\G sl=some (.lst ((rows.map (·.1)).map V.int))/\σ=[some (.ref wa),some (.ref ca),some (.ref sl),none]) ?_ (λ R hR=>?_)
 rotate_left
 ·wp_walk using z1a,z0y,inV,eqV
  refine CompL.mk (xs:=ps.map V.ref) (.of hw) (λ i ys σ G=>G=H/\ys=((rows.map (·.1)).take i).map V.int/\∃y z,σ=[y,z]) ⟨rfl,rfl,_,_,rfl⟩ (λ i ys σ G _ h=>by rw [h.1];exact .of hw) (λ i x ys σ G ex h=>?_) (λ ys σ G h l hl=>?_)
  ·obtain ⟨rfl,rfl,y,z,rfl⟩:=h
   have il:i < rows.length:=by have:=(List.getElem?_eq_some_iff.mp ex).1;rwa [List.length_map,hr0.1] at this
   have e1:rows[i]?=some rows[i]:=List.getElem?_eq_getElem il
   obtain ⟨p,ep,hp⟩:=hr0.2 i _ e1
   rw [List.getElem?_map,ep] at ex
   cases ex
   refine ⟨small (by rw [List.length_map,List.length_take,List.length_map];lia),?_⟩
   wp_walk using z1a,z0y,inV,eqV
   refine ⟨_,hp,rfl,_,_,rfl,_,_,rfl,rfl,?_,_,rfl⟩
   rw [List.take_add_one,List.getElem?_map,e1,List.map_append];rfl
  ·obtain ⟨rfl,rfl,y,z,rfl⟩:=h
   rw [List.length_map,hr0.1,List.take_of_length_le (by rw [List.length_map];exact Nat.le_refl _)]
   exact hR _ _ ⟨l,z0b hl _,z0f,rfl⟩
 rintro σ1 G1 ⟨sl,s1,hsl,rfl⟩
 generalize hsp:rows.map (·.1)=sp at *
 have sl3:sp.length≤3:=by rw [← hsp,List.length_map];exact r3
 refine z0h (λ σ G=>Same G1 G/\sp.Nodup/\σ=[some (.ref wa),some (.ref ca),some (.ref sl),none]) ?_ (λ R hR=>?_)
 rotate_left
 ·wp_walk using z1a,z0y,inV,eqV
  refine ⟨sp,.of hsl,by lia,λ l hl=>⟨_,_,rfl,_,.inl (.of (z0b hl _ _ _ hsl)),?_⟩⟩
  rw [List.length_map]
  by_cases nd:sp.Nodup
  ·rw [if_neg (λ z=>z (by rw [(y9z sl3).mpr nd]))]
   exact hR _ _ ⟨z0b hl _,nd,rfl⟩
  ·rw [if_pos (λ z=>nd ((y9z sl3).mp (by lia)))]
   exact ⟨small (by decide),q1 (λ z=>nd z.1) _ (s1.trans (z0b hl _))⟩
 rintro σ2 G2 ⟨s2,nd,rfl⟩
 have hsl2:=s2 _ _ hsl
 have hc2:=(s1.trans s2) _ _ hc
 wp_walk using z1a,z0y,inV,eqV
 refine LoopL.mk (xs:=sp.map V.int) (.of hsl2) (λ i σ G=>G=G2/\(∀s∈sp.take i,0≤s/\s < r.length/\r.getD s.toNat none=none)/\∃y,σ=[some (.ref wa),some (.ref ca),some (.ref sl),y]) ⟨rfl,(λ s hs=>nomatch hs),_,rfl⟩ (λ i σ G _ h=>by rw [h.1];exact .of hsl2) (λ i x σ G ex h=>?_) (λ σ G h=>?_)
 ·obtain ⟨rfl,hb,y,rfl⟩:=h
  obtain ⟨s,rfl,es⟩:=z6m ex
  have sm:=List.mem_of_getElem? es
  wp_walk using z1a,z0y,inV,eqV
  by_cases c1:s < 0
  ·rw [if_pos c1]
   exact ⟨small (by decide),q1 (λ z=>by have:=(z.2 s sm).1;lia) _ (s1.trans s2)⟩
  rw [if_neg c1]
  refine ⟨_,.inl (.of hc2),?_⟩
  rw [List.length_map]
  by_cases c2:(r.length:Int)≤s
  ·rw [if_pos c2]
   exact ⟨small (by decide),q1 (λ z=>by have:=(z.2 s sm).2.1;lia) _ (s1.trans s2)⟩
  rw [if_neg c2]
  refine ⟨_,hc2,_,z6w (by lia) (by lia),?_⟩
  cases en:r.getD s.toNat none with
  | some v =>
   rw [if_pos (show ¬cV (some v)=V.non from λ z=>by cases z)]
   exact ⟨small (by decide),q1 (λ z=>by have:=(z.2 s sm).2.2;rw [en] at this;cases this) _ (s1.trans s2)⟩
  | none =>
   rw [if_neg (show ¬ ¬cV none=V.non from λ z=>z rfl)]
   refine ⟨λ s' hs'=>?_,_,rfl⟩
   rw [List.take_add_one,es] at hs'
   rcases List.mem_append.mp hs' with z | z
   ·exact hb s' z
   ·cases List.mem_singleton.mp z;exact ⟨by lia,by lia,en⟩
 ·obtain ⟨rfl,hb,y,rfl⟩:=h
  rw [List.length_map,List.take_length] at hb
  exact q2 ⟨nd,hb⟩ _ (s1.trans s2)
abbrev z3q:Stmt:=top 38
theorem z8d:FnScope ["weft","inputs","stores","written_to","ins","cells","k","tab"] ["weft","inputs"] (z0k z3q):=⟨rfl,rfl,rfl,by decide +kernel,rfl,by decide +kernel,by decide +kernel⟩
theorem z8h (F:Fun K "stores_filled" "stores_filled" z3q f fd) {CUnlike:Addr}(nUnlike:W.nsIn K mainGlobals "Unlike"=some (some (.ref CUnlike))) (cloopstore:Callee P w K mg base CX0 (1) "loop_store" ["loop"] z2w) (zlen:mg "len"=none) (zrange:mg "range"=none) (zzip:mg "zip"=none) (zlist:mg "list"=none) (xUnlike:W.excIn K CUnlike [.type "ValueError",.type "Exception",.type "BaseException",.type "object"] "ValueError.__new__"=true):FnOk P w K mg base (CX1 P w) (2) f fd ["weft","inputs"] ((y7t CUnlike)):=by
 have sc:=z8d
 refine F.okX sc (λ vs H Q E h=>?_) (λ cdv A outer s H vs Q E hr h=>?_)
 ·obtain ⟨w,inp,lo,ou,Z,Ls,Xs,rfl,_⟩:=h;rfl
 obtain ⟨w,inp,lo,ou,Z,Ls,Xs,rfl,hw,hi,xl,q1,q2⟩:=h
 refine ⟨_,(z0d (z0t (i:=2) sc.nd rfl (by first | exact Or.inl rfl | exact Or.inr rfl) (z0r z0l (pv 0) z0c (λ _ _=>rfl))) (z0d (z0t (i:=3) sc.nd rfl (by first | exact Or.inl rfl | exact Or.inr rfl) (y4h (own:=["loop"]) rfl (y4f (z0r z0l (pv 0) z0c (λ _ _=>rfl))) (by decide) (by decide) rfl (by decide) (λ _ _ _ _=>(z0w (i:=0) (show (["loop"]:List Str).Nodup by decide +kernel) rfl (Or.inl rfl))) (λ _ _ _ _=>(z0z cloopstore hr (by rfl) z1f (z0a (pv 0) z0e))))) (z0d (x2q (own:=["k"]) (fv:=["written_to"]) (js:=[3]) sc.nd (i:=4) rfl (by first | exact Or.inl rfl | exact Or.inr rfl) (by first | exact Or.inl rfl | exact Or.inr rfl) rfl (z1s (by rfl) zrange (z0a (z1b z0v (by rfl) zlen PySem.boot_len (z0a (pv 2) z0e)) z0e)) rfl (by decide) rfl (by decide) (by first | exact λ _ _ h=>h | exact z5c rfl | exact z5b rfl rfl | exact z5a rfl rfl rfl) (z8a (by rfl)) rfl (x9c (by first | exact ⟨rfl,.inl rfl,.inl rfl⟩ | exact ⟨rfl,.inl rfl,.inr rfl⟩)) (λ _ _ _ _=>(z0w (i:=0) (show (["k","written_to"]:List Str).Nodup by decide +kernel) rfl (Or.inl rfl))) (λ _ _ _ _=>(pv 0)) (λ _ _ _ _=>(z0j (y1c (K:=K) rfl) (pv 0) (pv 1) rfl))) (z0d (z1c (z0j z8g (z1b z0v (by rfl) zlen PySem.boot_len (z0a (pv 1) z0e)) (z1b z0v (by rfl) zlen PySem.boot_len (z0a (pv 4) z0e)) (z0o _)) (z0g (z2e PySem.F.excBase_ValueError rfl (by rfl) nUnlike xUnlike z2n (z0a z0s z0e))) z0m) (z0d (z5n (own:=["store"]) sc.nd (i:=5) rfl (by first | exact Or.inl rfl | exact Or.inr rfl) (by first | exact Or.inl rfl | exact Or.inr rfl) rfl (y4f (pv 2)) (by decide) (by decide) rfl (by decide) (λ _ _ _ _=>(z0w (i:=0) (show (["store"]:List Str).Nodup by decide +kernel) rfl (Or.inl rfl))) (λ _ _ _ _=>(z0p x5k (z1n (z0a z8o z0e)) (z0r z0l (pv 0) z0c (λ _ _=>rfl))))) (z0d (z2g PassesOwn.leaving rfl (x6x (by rfl) zzip (z0a (pv 4) (z0a (pv 1) z0e))) (z2i (n:=2) (z3j rfl (z1d (z0w (i:=6) sc.nd rfl (Or.inl rfl)) (z1d (z0w (i:=7) sc.nd rfl (Or.inl rfl)) z2h)))) (z0d (z1c (z0j z8g (z1b z0v (by rfl) zlen PySem.boot_len (z0a (z0r z0l (pv 7) z0c (λ _ _=>rfl)) z0e)) (z0r z0l (z0r z0l (pv 2) (pv 6) (λ _ _=>rfl)) z0c (λ _ _=>rfl)) (z0o _)) (z0g (z2e PySem.F.excBase_ValueError rfl (by rfl) nUnlike xUnlike z2n (z0a z0s z0e))) z0m) (z0g (z5p (z1x z4l (by rfl) zlist boot_list (z0a (z0r z0l (pv 7) z0c (λ _ _=>rfl)) z0e)) (y9c (pv 5) (pv 6) z9p))))) (z0g (z0q (pv 5))))))))),?_⟩
 simp only [L2.start,List.length_cons,List.length_nil,List.replicate,List.cons_append,List.nil_append,Nat.reduceSub,Nat.reduceAdd,List.map_cons,List.map_nil]
 obtain ⟨ts,hin,hts⟩:=hi
 obtain ⟨st0,zs,hw0,hst,hzs⟩:=hw.all
 obtain ⟨las,hlo,hls⟩:=hw.hlo
 have zl3:zs.length=3:=by rw [hzs.1];rfl
 refine z0h (λ σ G=>G=H/\σ=[some (.ref w),some (.ref inp),some (.ref st0),none,none,none,none,none]) ?_ (λ R hR=>?_)
 rotate_left
 ·wp_walk using z1a,z0y,inV,eqV
  exact ⟨_,hw0,_,z0i (j:=0) rfl,hR _ _ ⟨rfl,rfl⟩⟩
 rintro σ1 G1 ⟨rfl,rfl⟩
 refine z0h (λ σ G=>∃wt,Same G1 G/\G wt=some (.lst ((wsZ Ls).map V.int))/\σ=[some (.ref w),some (.ref inp),some (.ref st0),some (.ref wt),none,none,none,none]) ?_ (λ R hR=>?_)
 rotate_left
 ·wp_walk using z1a,z0y,inV,eqV
  refine ⟨_,hw0,_,z0i (j:=1) rfl,?_⟩
  refine CompT.mk (xs:=las.map V.ref) (.of hlo) (λ i ys σ G=>G=G1/\ys=((wsZ Ls).take i).map V.int/\∃y,σ=[y]) ⟨rfl,rfl,_,rfl⟩ (λ i ys σ G _ h=>by rw [h.1];exact .of hlo) (λ i x ys σ G ex h=>?_) (λ ys σ G h l hl=>?_)
  ·obtain ⟨rfl,rfl,y,rfl⟩:=h
   obtain ⟨p,L,rfl,eL,hL⟩:=hls.get ex
   refine ⟨small (by rw [List.length_map,List.length_take,wsZ,List.length_map,hw.ll];lia),?_⟩
   wp_walk using z1a,z0y,inV,eqV,z2w
   refine ⟨L,hL,?_,_,rfl⟩
   rw [List.take_add_one,wsZ,List.getElem?_map,eL,List.map_append];rfl
  ·obtain ⟨rfl,rfl,y,rfl⟩:=h
   rw [List.length_map,hls.1,List.take_of_length_le (by rw [wsZ,List.length_map];exact Nat.le_refl _)]
   exact hR _ _ ⟨l,z0b hl _,z0f,rfl⟩
 rintro σ2 G2 ⟨wt,s2,hwt,rfl⟩
 refine z0h (λ σ G=>∃ins,Same G2 G/\G ins=some (.lst ((z2c Ls 3).map V.int))/\σ=[some (.ref w),some (.ref inp),some (.ref st0),some (.ref wt),some (.ref ins),none,none,none]) ?_ (λ R hR=>?_)
 rotate_left
 ·wp_walk using z1a,z0y,inV,eqV
  refine ⟨_,.inr (.of (s2 _ _ hst)),by rw [List.length_map,zl3];simp,by rw [List.length_map,zl3];simp,?_⟩
  rw [List.length_map,zl3]
  show CompRI 0 3 1 [3] _ _ _ _ _ _
  refine CompRI.mk (λ i ys σ G=>G=G2/\i≤3/\ys=(z2c Ls i).map V.int/\∃y,σ=[y,some (.ref wt)]) ⟨rfl,by lia,rfl,_,rfl⟩ (λ i ys σ G _ h=>?_) (λ i ys σ G hi h=>?_) (λ ys σ G h l hl=>?_)
  ·obtain ⟨rfl,i3,rfl,y,rfl⟩:=h
   exact z1e (by rw [List.length_map];have:=y0h Ls i;lia)
  ·obtain ⟨rfl,i3,rfl,y,rfl⟩:=h
   wp_walk using z1a,z0y,rIn
   rw [Int.zero_add]
   refine ⟨_,.inl (.of hwt),z4j _,?_⟩
   rw [y3i,z6v]
   by_cases c:(i:Int)∈wsZ Ls
   ·rw [if_pos c,if_neg (by simp [c]),List.append_nil]
    exact ⟨by lia,rfl,_,rfl⟩
   ·rw [if_neg c,if_pos (by simp [c]),List.map_append]
    exact ⟨by lia,rfl,_,rfl⟩
  ·obtain ⟨rfl,_,rfl,y,rfl⟩:=h
   exact hR _ _ ⟨l,z0b hl _,z0f,rfl⟩
 rintro σ3 G3 ⟨ins,s3,hins,rfl⟩
 have s03:=s2.trans s3
 refine z0h (λ σ G=>G=G3/\σ=[some (.ref w),some (.ref inp),some (.ref st0),some (.ref wt),some (.ref ins),none,none,none]) ?_ (λ R hR=>?_)
 rotate_left
 ·wp_walk using z1a,z0y,inV,eqV
  refine ⟨_,.inr (.of (s03 _ _ hin)),_,.inl (.of hins),?_⟩
  rw [List.length_map,List.length_map,hts.1,xl,if_neg (λ z=>z rfl)]
  exact hR _ _ ⟨rfl,rfl⟩
 rintro σ4 G4 ⟨rfl,rfl⟩
 refine z0h (λ σ G=>∃lc cs,Same G4 G/\G4 lc=none/\(∀c∈cs,G4 c=none)/\lc ∉ cs/\DsA cs/\G lc=some (.lst (cs.map V.ref))/\StsAt G cs (z4k Z)/\σ=[some (.ref w),some (.ref inp),some (.ref st0),some (.ref wt),some (.ref ins),some (.ref lc),none,none]) ?_ (λ R hR=>?_)
 rotate_left
 ·wp_walk using z1a,z0y,inV,eqV
  have hs4:=s03 _ _ hst
  refine CompT.mk (xs:=zs.map V.ref) (.of hs4) (λ i ys σ G=>∃cs:List Addr,ys=cs.map V.ref/\Same G4 G/\(∀c∈cs,G4 c=none)/\DsA cs/\StsAt G cs (z4k (Z.take i))/\∃y,σ=[y]) ⟨[],rfl,Same.refl _,(λ c hc=>nomatch hc),(λ i j a e=>by simp at e),⟨rfl,λ k r e=>by simp [z4k] at e⟩,_,rfl⟩ (λ i ys σ G _ ⟨_,_,sG,_⟩=>.of (sG _ _ hs4)) (λ i x ys σ G ex h=>?_) (λ ys σ G h l hl=>?_)
  ·obtain ⟨cs,rfl,sG,hc,ds,hS,y,rfl⟩:=h
   have il:i < 3:=by have:=(List.getElem?_eq_some_iff.mp ex).1;rwa [List.length_map,zl3] at this
   obtain ⟨p,ep,hp⟩:=w4z hzs il
   rw [List.getElem?_map,ep] at ex
   cases ex
   have z8:=w2c hw.z8 i
   have csl:cs.length=i:=by rw [hS.1,z4k,List.length_map,List.length_take,hw.zl];lia
   refine ⟨z1e (by rw [List.length_map,csl];lia),?_⟩
   wp_walk using z1a,z0y,inV,eqV
   refine ⟨small (by decide),λ p1 h1=>⟨_,z0b h1 _ _ _ (sG _ _ (s03 _ _ hp)),_,z0i (j:=1) rfl,_,rfl,by lia,by lia,small (by rw [Int.toNat_natCast];lia),λ p2 h2=>?_⟩⟩
   have t2:=(z0b h1 (.lst [V.non])).trans (z0b h2 (.lst (List.replicate ((Z.getD i 0:Nat):Int).toNat [V.non]).flatten))
   have hn:p2 ∉ cs:=λ m=>by
    obtain ⟨j,hj,ej⟩:=List.getElem_of_mem m
    obtain ⟨p',e',hp'⟩:=hS.2 j _ (List.getElem?_eq_getElem (by rw [← hS.1];exact hj))
    rw [List.getElem?_eq_getElem hj,ej] at e'
    cases e'
    rw [z0b h1 _ _ _ hp'] at h2;cases h2
   refine ⟨cs++[p2],by rw [List.map_append];rfl,sG.trans t2,λ c hcc=>?_,ds.snoc hn,?_,_,rfl⟩
   ·rcases List.mem_append.mp hcc with z | z
    ·exact hc c z
    ·cases List.mem_singleton.mp z
     exact (sG.trans (z0b h1 _)).free h2
   ·have eZ:Z[i]?=some (Z.getD i 0):=by rw [List.getD_eq_getElem?_getD,List.getElem?_eq_getElem (by rw [hw.zl];exact il)];rfl
    rw [show z4k (Z.take (i+1))=z4k (Z.take i)++[List.replicate (Z.getD i 0) none] by unfold z4k;rw [List.take_add_one,eZ,List.map_append];rfl]
    refine (hS.same t2).snoc ?_
    rw [z0f,Int.toNat_natCast,y8o,x5g]
  ·obtain ⟨cs,rfl,sG,hc,ds,hS,y,rfl⟩:=h
   rw [List.length_map,zl3,← hw.zl,List.take_length] at hS
   exact hR _ _ ⟨l,cs,sG.trans (z0b hl _),sG.free hl,hc,hS.ne (λ xs z=>by rw [hl] at z;cases z),ds,z0f,hS.same (z0b hl _),rfl⟩
 rintro σ5 G5 ⟨lc,cs,s5,f1,f2,d1,ds,hlc,hS,rfl⟩
 have s05:=s03.trans s5
 have zipl:((z2c Ls 3).zip Xs).length=Xs.length:=by rw [List.length_zip,xl,Nat.min_self]
 have x3:Xs.length≤3:=by rw [xl];exact y0h Ls 3
 refine z0h (λ σ G=>∃cs y z,z5t Z ((z2c Ls 3).zip Xs)/\(∀b o,b≠lc->G5 b=some o->G b=some o)/\(∀c∈cs,G4 c=none)/\lc ∉ cs/\DsA cs/\G lc=some (.lst (cs.map V.ref))/\StsAt G cs (z4y (z4k Z) ((z2c Ls 3).zip Xs))/\σ=[some (.ref w),some (.ref inp),some (.ref st0),some (.ref wt),some (.ref ins),some (.ref lc),y,z]) ?_ (λ R hR=>?_)
 rotate_left
 ·have hins5:=s5 _ _ hins
  have hin5:=s05 _ _ hin
  have nil_:ins≠lc:=λ z=>by rw [z,f1] at hins;cases hins
  have ninp:inp≠lc:=λ z=>by rw [z,s03.free f1] at hin;cases hin
  wp_walk using z0y,inV,eqV
  obtain ⟨J,hJ⟩:∃J:Nat->L2.St->Hp->Prop,J=(λ i σ G=>∃cs y z,z5t Z (((z2c Ls 3).zip Xs).take i)/\(∀b o,b≠lc->G5 b=some o->G b=some o)/\(∀c∈cs,G4 c=none)/\lc ∉ cs/\DsA cs/\G lc=some (.lst (cs.map V.ref))/\StsAt G cs (z4y (z4k Z) (((z2c Ls 3).zip Xs).take i))/\σ=[some (.ref w),some (.ref inp),some (.ref st0),some (.ref wt),some (.ref ins),some (.ref lc),y,z]):=⟨_,rfl⟩
  refine LoopZM.mk (xs:=(z2c Ls 3).map V.int) (ys:=ts.map V.ref) Xs.length (by rw [List.length_map,List.length_map,hts.1,xl,Nat.min_self]) (.of hins5) (.of hin5) J (by rw [hJ];exact ⟨cs,_,_,(λ p hp=>nomatch hp),(λ _ _ _ h=>h),f2,d1,ds,hlc,hS,rfl⟩) (λ i σ G _ h=>?_) (λ i x y σ G T hi ex ey h hT=>?_) (λ σ G h=>?_)<;>rw [hJ] at h
  ·obtain ⟨cs',y,z,_,k,_⟩:=h
   exact ⟨.of (k _ _ nil_ hins5),.of (k _ _ ninp hin5)⟩
  ·obtain ⟨cs',y0,z0,gd,k,f2',d1',ds',hlc',hS',rfl⟩:=h
   obtain ⟨m,rfl,em⟩:=z6m ex
   have eX:Xs[i]?=some Xs[i]:=List.getElem?_eq_getElem hi
   obtain ⟨t,sa,ca,et,ht,hca⟩:=hts.2 i _ eX
   rw [List.getElem?_map,et] at ey
   cases ey
   have m3:=y3h (List.mem_of_getElem? em)
   obtain ⟨mn,rfl⟩:∃mn:Nat,m=(mn:Int):=⟨m.toNat,by lia⟩
   have ez:((z2c Ls 3).zip Xs)[i]?=some ((mn:Int),Xs[i]):=List.getElem?_zip_eq_some.mpr ⟨em,eX⟩
   obtain ⟨p,ep,hp⟩:=w4z hzs (show mn < 3 by lia)
   have uG:UpT G1 G:=λ b xs e=>k b _ (λ z=>by rw [z,s03.free f1] at e;cases e) (s05 _ _ e)
   have uT:UpT G1 (upd G T (.tup [V.int (mn:Int),V.ref t])):=λ b xs e=>z0b hT _ _ _ (uG _ _ e)
   have xi:Xs[i].length≤8->True:=λ _=>trivial
   wp_walk using z1a,z0y,inV,eqV
   refine ⟨_,uT _ _ ht,_,z0i (j:=1) rfl,_,rfl,_,.inr (.of (uT _ _ hca)),_,uT _ _ hst,_,z0i (j:=mn) (v:=.ref p) (by rw [List.getElem?_map,ep];rfl),_,rfl,_,uT _ _ hp,_,z0i (j:=1) rfl,rfl,?_⟩
   rw [z2b]
   by_cases c:Xs[i].length=Z.getD mn 0
   ·rw [if_neg (λ z=>z (by rw [c]))]
    refine ⟨_,uT _ _ ht,_,z0i (j:=1) rfl,_,rfl,_,.inr (.of (uT _ _ hca)),λ l hl=>⟨_,z0b hl _ _ _ (z0b hT _ _ _ hlc'),mn,?_,?_⟩⟩
    ·have:(cs'.map V.ref).length=3:=by rw [List.length_map,hS'.1,y0j,z4k,List.length_map,hw.zl]
     rw [this]
     exact y3g (by lia)
    have nll:l≠lc:=λ z=>by rw [z,z0b hT _ _ _ hlc'] at hl;cases hl
    have sl:Same G (upd (upd G T (.tup [V.int (mn:Int),V.ref t])) l (.lst (Xs[i].map V.int))):=(z0b hT _).trans (z0b hl _)
    have l4:G4 l=none:=by
     cases e:G4 l with
     | none=>rfl
     | some o =>
      rw [z0b hT _ _ _ (k _ _ (λ z=>by rw [z,f1] at e;cases e) (s5 _ _ e))] at hl
      cases hl
    have lcs:l ∉ cs':=hS'.ne (λ xs z=>by rw [z0b hT _ _ _ z] at hl;cases hl)
    rw [hJ]
    refine ⟨cs'.set mn l,_,_,?_,?_,?_,?_,ds'.set lcs,?_,?_,rfl⟩
    ·intro p' hp'
     rw [List.take_add_one,ez] at hp'
     rcases List.mem_append.mp hp' with z | z
     ·exact gd p' z
     ·cases List.mem_singleton.mp z;exact c
    ·intro b o nb e
     rw [z0n nb];exact sl _ _ (k _ _ nb e)
    ·intro c' hc'
     rcases List.mem_or_eq_of_mem_set hc' with z | z
     ·exact f2' _ z
     ·exact z ▸ l4
    ·intro z
     rcases List.mem_or_eq_of_mem_set z with z | z
     ·exact d1' z
     ·exact nll z.symm
    ·rw [z0f,List.map_set]
    ·rw [x4e ez]
     refine StsAt.put (StsAt.mono (hS'.same sl) λ a ha xs e=>by rw [z0n (show a≠lc from λ z=>d1' (z ▸ ha))];exact e) ?_
     rw [z0n nll,y4k];exact z0f
   ·rw [if_pos (λ z=>c (by have:=V.int.inj z;lia))]
    refine ⟨small (by decide),q1 (λ g=>c (g _ (List.mem_of_getElem? ez))) _ (λ b o e=>z0b hT _ _ _ (k b o (λ z=>by rw [z,s03.free f1] at e;cases e) (s05 _ _ e)))⟩
  ·obtain ⟨cs',y0,z0,gd,k,f2',d1',ds',hlc',hS',rfl⟩:=h
   rw [← zipl,List.take_length] at gd hS'
   exact hR _ _ ⟨cs',y0,z0,gd,k,f2',d1',ds',hlc',hS',rfl⟩
 rintro σ6 G6 ⟨cs',y,z,hgg,k6,f2',d1',ds',h6,h7,rfl⟩
 wp_walk using z1a,z0y,inV,eqV
 exact q2 hgg _ lc cs' (λ b o e=>k6 b o (λ z=>by rw [z,s03.free f1] at e;cases e) (s05 _ _ e)) (s03.free f1) (λ c hc=>s03.free (f2' c hc)) d1' ds' h6 h7
abbrev z2s:Stmt:=(z4z (top 42)).getD 0 (.Pass ⟨0,0,0,0⟩)
theorem y2q:FnScope ["self","weft","inputs"] ["self","weft","inputs"] (z0k z2s):=⟨rfl,rfl,rfl,by decide +kernel,rfl,by decide +kernel,by decide +kernel⟩
theorem y3b (F:Fun K "__init__" "Bench.__init__" z2s f fd) {CUnlike:Addr}(nUnlike:W.nsIn K mainGlobals "Unlike"=some (some (.ref CUnlike))) {CBench:Addr}(nBench:W.nsIn K mainGlobals "Bench"=some (some (.ref CBench))) (cstoresfilled:Callee P w K mg base (CX1 P w) (2) "stores_filled" ["weft","inputs"] (y7t CUnlike)) (BC:BenCls K CBench):FnOk P w K mg base (CX1 P w) (3) f fd ["self","weft","inputs"] ((z5j CBench CUnlike)):=by
 have sc:=y2q
 refine F.okX sc (λ vs H Q E h=>?_) (λ cdv A outer s H vs Q E hr h=>?_)
 ·obtain ⟨b,dx,w,inp,lo,ou,Z,Ls,Xs,rfl,_⟩:=h;rfl
 obtain ⟨b,dx,w,inp,lo,ou,Z,Ls,Xs,rfl,hb,hw,hi,xl,q1,q2⟩:=h
 refine ⟨_,(z0d (z7q (pv 0) (z0z cstoresfilled hr (by rfl) z3u (z0a (pv 1) (z0a (pv 2) z0e))) rfl) (z0d (z7q (pv 0) (z0r z0l (pv 1) z0c (λ _ _=>rfl)) rfl) (z0d (z7q (pv 0) (z0r z0l (pv 1) z0c (λ _ _=>rfl)) rfl) (z0d (z7q (pv 0) y4g rfl) (z0d (z7q (pv 0) z0c rfl) (z0g (z7q (pv 0) (z1n z0e) rfl))))))),?_⟩
 simp only [L2.start,List.length_cons,List.length_nil,List.replicate,List.cons_append,List.nil_append,Nat.reduceSub,Nat.reduceAdd,List.map_cons,List.map_nil]
 obtain ⟨st0,zs,hw0,hst,hzs⟩:=hw.all
 have nb:∀ {x:Addr},H x=none->x≠b:=λ e z=>by rw [z,hb] at e;cases e
 refine z0h (λ σ G=>∃lc cs,z5t Z ((z2c Ls 3).zip Xs)/\Keep1 b H G/\H lc=none/\(∀c∈cs,H c=none)/\lc ∉ cs/\DsA cs/\G lc=some (.lst (cs.map V.ref))/\StsAt G cs (z4y (z4k Z) ((z2c Ls 3).zip Xs))/\G b=some (.ins CBench dx [(Str.ofString "cells",.ref lc)])/\σ=[some (.ref b),some (.ref w),some (.ref inp)]) ?_ (λ R hR=>?_)
 rotate_left
 ·wp_walk using z1a,z0y,inV,eqV,y7t
  exact ⟨lo,ou,Z,Ls,hw,Xs,hi,xl,q1,λ hg G lc cs sG f1 f2 d1 ds h1 h2=>⟨_,_,_,sG _ _ hb,BC.cl,BC.n1,by decide,hR _ _ ⟨lc,cs,hg,(Keep1.of sG).tr .upd,f1,f2,d1,ds,by rw [z0n (nb f1)];exact h1,h2.mono λ a ha xs e=>by rw [z0n (nb (f2 a ha))];exact e,z0f,rfl⟩⟩⟩
 rintro σ1 G1 ⟨lc,cs,hg,k1,f1,f2,d1,ds,h1,h2,hb1,rfl⟩
 have nw:w≠b:=λ z=>by rw [z,hb] at hw0;cases hw0
 have hw1:=k1 _ _ nw hw0
 refine z0h (λ σ G=>Keep1 b G1 G/\G b=some (.ins CBench dx [(Str.ofString "cells",.ref lc),(Str.ofString "loops",.ref lo)])/\σ=[some (.ref b),some (.ref w),some (.ref inp)]) ?_ (λ R hR=>?_)
 rotate_left
 ·wp_walk using z1a,z0y,inV,eqV
  exact ⟨_,hw1,_,z0i (j:=1) rfl,_,_,_,hb1,BC.cl,BC.n2,by simp,hR _ _ ⟨.upd,z0f,rfl⟩⟩
 rintro σ2 G2 ⟨k2,hb2,rfl⟩
 refine z0h (λ σ G=>Keep1 b G2 G/\G b=some (.ins CBench dx [(Str.ofString "cells",.ref lc),(Str.ofString "loops",.ref lo),(Str.ofString "outs",.ref ou)])/\σ=[some (.ref b),some (.ref w),some (.ref inp)]) ?_ (λ R hR=>?_)
 rotate_left
 ·wp_walk using z1a,z0y,inV,eqV
  exact ⟨_,k2 _ _ nw hw1,_,z0i (j:=2) rfl,_,_,_,hb2,BC.cl,BC.n3,by simp,hR _ _ ⟨.upd,z0f,rfl⟩⟩
 rintro σ3 G3 ⟨k3,hb3,rfl⟩
 refine z0h (λ σ G=>∃d,Keep1 b G3 G/\G3 d=none/\G d=some (.dT [])/\G b=some (.ins CBench dx [(Str.ofString "cells",.ref lc),(Str.ofString "loops",.ref lo),(Str.ofString "outs",.ref ou),(Str.ofString "done",.ref d)])/\σ=[some (.ref b),some (.ref w),some (.ref inp)]) ?_ (λ R hR=>?_)
 rotate_left
 ·wp_walk using z1a,z0y,inV,eqV
  exact λ d hd=>⟨_,_,_,z0b hd _ _ _ hb3,BC.cl,BC.n4,by simp,hR _ _ ⟨d,(Keep1.of (z0b hd _)).tr .upd,hd,by rw [z0n (λ z=>by rw [z,hb3] at hd;cases hd)];exact z0f,z0f,rfl⟩⟩
 rintro σ4 G4 ⟨d,k4,fd,hd,hb4,rfl⟩
 refine z0h (λ σ G=>Keep1 b G4 G/\G b=some (.ins CBench dx [(Str.ofString "cells",.ref lc),(Str.ofString "loops",.ref lo),(Str.ofString "outs",.ref ou),(Str.ofString "done",.ref d),(Str.ofString "calls",.int 0)])/\σ=[some (.ref b),some (.ref w),some (.ref inp)]) ?_ (λ R hR=>?_)
 rotate_left
 ·wp_walk using z1a,z0y,inV,eqV
  exact ⟨_,_,_,hb4,BC.cl,BC.n5,by simp,hR _ _ ⟨.upd,z0f,rfl⟩⟩
 rintro σ5 G5 ⟨k5,hb5,rfl⟩
 wp_walk using z1a,z0y,inV,eqV
 refine ⟨small (by decide),λ lg hlg=>⟨_,_,_,z0b hlg _ _ _ hb5,BC.cl,BC.n6,by simp,?_⟩⟩
 have k15:=k2.tr (k3.tr (k4.tr k5))
 have kA:Keep1 b G1 (upd (upd G5 lg (.lst [])) b (.ins CBench dx (z9u (Str.ofString "log") (V.ref lg) [(Str.ofString "cells",.ref lc),(Str.ofString "loops",.ref lo),(Str.ofString "outs",.ref ou),(Str.ofString "done",.ref d),(Str.ofString "calls",.int 0)]))):=k15.tr ((Keep1.of (z0b hlg _)).tr .upd)
 have kH:=k1.tr kA
 have up:UpT H (upd (upd G5 lg (.lst [])) b (.ins CBench dx (z9u (Str.ofString "log") (V.ref lg) [(Str.ofString "cells",.ref lc),(Str.ofString "loops",.ref lo),(Str.ofString "outs",.ref ou),(Str.ofString "done",.ref d),(Str.ofString "calls",.int 0)]))):=λ a xs e=>kH _ _ (λ z=>by rw [z,hb] at e;cases e) e
 have hw':=hw.up up
 have fn:∀ {x:Addr}{G:Hp},Keep1 b H G->G x=none->H x=none\/x=b:=λ {x G} k e=>by
  by_cases c:x=b
  ·exact .inr c
  ·cases h:H x with
   | none=>exact .inl rfl
   | some o=>rw [k _ _ c h] at e;cases e
 have dnb:d≠b:=λ z=>by rw [z,hb3] at fd;cases fd
 have gnb:lg≠b:=λ z=>by rw [z,hb5] at hlg;cases hlg
 have d5:G5 d=some (.dT []):=k5 _ _ dnb hd
 have ne5:∀ {x:Addr}{o:HO},x≠b->G1 x=some o->x≠lg:=λ n e z=>by rw [← z,k15 _ _ n e] at hlg;cases hlg
 refine q2 hg _ ⟨dx,lc,d,lg,lo,ou,cs⟩ kH f1 f2 ((fn (k1.tr (k2.tr k3)) fd).resolve_right dnb) ((fn (k1.tr k15) hlg).resolve_right gnb) λ sz=>⟨z0f,kA _ _ (nb f1) h1,h2.mono λ a ha xs e=>kA _ _ (nb (f2 a ha)) e,by rw [z0n dnb];exact z0b hlg _ _ _ d5,⟨[],by rw [z0n gnb];exact z0f,TupsAt.nil⟩,⟨d1,λ m=>?_,ne5 (nb f1) h1⟩,ds,hw'.hlo,⟨sz,List.nodup_nil,(λ p hp=>nomatch hp),Nat.zero_le _⟩,⟨hw.ll,hw.lk⟩⟩
 obtain ⟨i,hi',e⟩:=List.getElem_of_mem m
 obtain ⟨p,ep,hp⟩:=h2.2 i _ (List.getElem?_eq_getElem (by rw [← h2.1];exact hi'))
 rw [List.getElem?_eq_getElem hi',e] at ep
 cases ep
 exact ne5 gnb hp rfl
abbrev z2r:Stmt:=(z4z (top 42)).getD 1 (.Pass ⟨0,0,0,0⟩)
theorem y2p:FnScope ["self","rounds","k","loop","round_at"] ["self"] (z0k z2r):=⟨rfl,rfl,rfl,by decide +kernel,rfl,by decide +kernel,by decide +kernel⟩
theorem y3a (F:Fun K "left" "Bench.left" z2r f fd) {CBench:Addr}(nBench:PySem.W.nsIn K mainGlobals "Bench"=some (some (.ref CBench))) (croundsof:Callee P w K mg base CX0 (3) "rounds_of" ["loop"] z3l) (zenumerate:mg "enumerate"=none) (zrange:mg "range"=none) (BC:BenCls K CBench):FnOk P w K mg base CX0 (4) f fd ["self"] ((z7g CBench)):=by
 have sc:=y2p
 refine F.ok sc (λ vs H Q E h=>?_) (λ cdv A outer s H vs Q E hr h=>?_)
 ·obtain ⟨b,A,Ls,T,rfl,_⟩:=h;rfl
 obtain ⟨b,A,Ls,T,rfl,hb,q⟩:=h
 refine ⟨_,(z0d (z0t (i:=1) sc.nd rfl (by first | exact Or.inl rfl | exact Or.inr rfl) (z1n z0e)) (z0d (z2g PassesOwn.never rfl (x6z (by rfl) zenumerate (z3c (pv 0) rfl)) (z2i (n:=2) (z3j rfl (z1d (z0w (i:=2) sc.nd rfl (Or.inl rfl)) (z1d (z0w (i:=3) sc.nd rfl (Or.inl rfl)) z2h)))) (z0g (z2g PassesOwn.never rfl (z1s (by rfl) zrange (z0a (z0z croundsof hr (by rfl) z1f (z0a (pv 3) z0e)) z0e)) (z0w (i:=4) sc.nd rfl (Or.inl rfl)) (z0g (z1c (y8t (y9i (hu1 hr) (z0x (z0a (pv 2) (z0a (pv 4) z0e))) (z3c (pv 0) rfl)) rfl) (z0g (z1z (z5q (pv 1) (z0x (z0a (pv 2) (z0a (pv 4) z0e)))))) z0m))))) (z0g (z0q (pv 1))))),?_⟩
 simp only [L2.start,List.length_cons,List.length_nil,List.replicate,List.cons_append,List.nil_append,Nat.reduceSub,Nat.reduceAdd,List.map_cons,List.map_nil]
 obtain ⟨las,hlo,hls⟩:=hb.hlo
 refine z0h (λ σ G=>∃l,Same H G/\H l=none/\G l=some (.lst [])/\σ=[some (.ref b),some (.ref l),none,none,none]) ?_ (λ R hR=>?_)
 rotate_left
 ·wp_walk using z1a,z0y,inV,eqV
  exact ⟨small (by decide),λ p hp=>hR _ _ ⟨p,z0b hp _,hp,z0f,rfl⟩⟩
 rintro σ1 G1 ⟨l,s1,l0,hl,rfl⟩
 refine z0h (λ σ G=>∃ps y2 y3 y4,Same H G/\G l=some (.lst (ps.map V.ref))/\TupsAt G ps (prI (z3f Ls T.D))/\σ=[some (.ref b),some (.ref l),y2,y3,y4]) ?_ (λ R hR=>?_)
 rotate_left
 ·wp_walk using z0y,inV,eqV
  refine ⟨_,_,_,s1 _ _ hb.hb,BC.cl,BC.n2,_,rfl,?_⟩
  have nl:∀ {x:Addr}{o:HO},H x=some o->x≠l:=λ e z=>by rw [z,l0] at e;cases e
  obtain ⟨J,hJ⟩:∃J:Nat->L2.St->Hp->Prop,J=(λ i σ G=>∃ps y2 y3 y4,Same H G/\G l=some (.lst (ps.map V.ref))/\TupsAt G ps (prI ((y3v Ls i).filter λ p=>decide (p ∉ T.D)))/\σ=[some (.ref b),some (.ref l),y2,y3,y4]):=⟨_,rfl⟩
  refine LoopE.mk (xs:=las.map V.ref) (.of (s1 _ _ hlo)) J (by rw [hJ];exact ⟨[],_,_,_,s1,hl,TupsAt.nil,rfl⟩) (λ i σ G _ h=>by rw [hJ] at h;obtain ⟨_,_,_,_,sG,_⟩:=h;exact .of (sG _ _ hlo)) (λ i x σ G W ex h hW=>?_) (λ σ G h=>?_)<;>rw [hJ] at h
  ·obtain ⟨ps,y2,y3,y4,sG,hlG,hps,rfl⟩:=h
   obtain ⟨p,L,rfl,eL,hL⟩:=hls.get ex
   have il:i < 3:=by have:=(List.getElem?_eq_some_iff.mp eL).1;rwa [hb.lk.ll] at this
   have sT:=sG.trans (z0b hW (.tup [V.int ((i:Nat):Int),V.ref p]))
   have hlT:=z0b hW (.tup [V.int ((i:Nat):Int),V.ref p]) _ _ hlG
   have hpT:=hps.up (.of (z0b hW (.tup [V.int ((i:Nat):Int),V.ref p])))
   have hTT:upd G W (.tup [V.int ((i:Nat):Int),V.ref p]) W=some (.tup [V.int ((i:Nat):Int),V.ref p]):=z0f
   generalize upd G W (.tup [V.int ((i:Nat):Int),V.ref p])=GT at *
   have lk:=hb.lk.lk L (List.mem_of_getElem? eL)
   have p8:=lk.2.2.2.1
   have p0:0≤z1t L.sd:=y8x λ n hn=>(lk.sd n hn).1
   have rk:rkZ Ls i=(z1t L.sd).toNat:=by unfold rkZ;rw [eL]
   have al:=y0o hb.lk i
   have rk8:=x6n hb.lk i
   wp_walk using inV,eqV,z3l
   refine ⟨_,hTT,rfl,_,_,rfl,_,_,rfl,rfl,_,rfl,L,hL.up (.of sT),lk,by lia,by lia,?_⟩
   rw [← rk]
   obtain ⟨I,hI⟩:∃I:Nat->L2.St->Hp->Prop,I=(λ j σ G=>∃ps y4,j≤rkZ Ls i/\Same H G/\G l=some (.lst (ps.map V.ref))/\TupsAt G ps (prI ((y3v Ls i).filter (λ p=>decide (p ∉ T.D))++((List.range j).map λ r=>(i,r)).filter λ p=>decide (p ∉ T.D)))/\σ=[some (.ref b),some (.ref l),some (.int ((i:Nat):Int)),some (.ref p),y4]):=⟨_,rfl⟩
   refine LoopR.mk I (by rw [hI];exact ⟨ps,_,Nat.zero_le _,sT,hlT,by simpa using hpT,rfl⟩) (λ j σ G hj h=>?_) (λ σ G h=>?_)<;>rw [hI] at h
   ·obtain ⟨ps,y4,jk,sG,hlG,hps,rfl⟩:=h
    have pl:=hps.1
    rw [prI,List.length_map,List.length_append] at pl
    have fl:=List.length_filter_le (λ p=>decide (p ∉ T.D)) (y3v Ls i)
    have fl2:=List.length_filter_le (λ p=>decide (p ∉ T.D)) ((List.range j).map λ r=>(i,r))
    rw [List.length_map,List.length_range] at fl2
    wp_walk using z1a,z0y,inV,eqV
    rw [Int.zero_add]
    refine ⟨small (by decide),λ p1 hp=>⟨_,_,_,z0b hp _ _ _ (sG _ _ hb.hb),BC.cl,BC.n4,_,rfl,_,rfl,_,DGet.t (k:=[Sum.inl (i:Int),Sum.inl (j:Int)]) (z0b hp _ _ _ (sG _ _ hb.hd)) z0f,?_⟩⟩
    rw [z6r (i,j)]
    have s1':=sG.trans (z0b hp (.tup [V.int ((i:Nat):Int),V.int (j:Int)]))
    by_cases c:(i,j)∈T.D
    ·rw [if_pos c,if_neg (by simp)]
     show I (j+1) _ _
     rw [hI]
     refine ⟨ps,_,by lia,s1',z0b hp _ _ _ hlG,?_,rfl⟩
     rw [List.range_succ,List.map_append,List.filter_append,show List.filter (λ p=>decide (p ∉ T.D)) (List.map (λ r=>(i,r)) [j])=[] by simp [c],List.append_nil]
     exact hps.up (.of (z0b hp _))
    ·rw [if_neg c,if_pos (show (none:Option V).isSome=false from rfl)]
     refine ⟨⟨_,z0b hp _ _ _ hlG⟩,small (by decide),λ p2 hp1=>⟨_,z0b hp1 _ _ _ (z0b hp _ _ _ hlG),z1e (by rw [List.length_map];lia),?_⟩⟩
     show I (j+1) _ _
     rw [hI]
     refine ⟨ps++[p2],_,by lia,?_,by rw [z0f,List.map_append];rfl,?_,rfl⟩
     ·intro a o e
      rw [z0n (nl e)]
      exact (s1'.trans (z0b hp1 _)) a o e
     ·rw [List.range_succ,List.map_append,List.filter_append,show List.filter (λ p=>decide (p ∉ T.D)) (List.map (λ r=>(i,r)) [j])=[(i,j)] by simp [c],← List.append_assoc,prI,List.map_append]
      refine TupsAt.snoc ?_ ?_
      ·exact hps.up λ a xs e=>by rw [z0n (λ z=>by rw [z,hlG] at e;cases e)];exact z0b hp1 _ _ _ (z0b hp _ _ _ e)
      ·have n1:p2≠l:=λ z=>by rw [z,z0b hp _ _ _ hlG] at hp1;cases hp1
       rw [z0n n1]
       exact z0f
   ·obtain ⟨ps,y4,_,sG,hlG,hps,rfl⟩:=h
    show J (i+1) _ _
    rw [hJ]
    refine ⟨ps,_,_,_,sG,hlG,?_,rfl⟩
    rw [z5w,List.filter_append]
    exact hps
  ·obtain ⟨ps,y2,y3,y4,sG,hlG,hps,rfl⟩:=h
   rw [List.length_map,hls.1,hb.lk.ll] at hps
   exact hR _ _ ⟨ps,y2,y3,y4,sG,hlG,hps,rfl⟩
 rintro σ2 G2 ⟨ps,y2,y3,y4,s2,hl2,hp2,rfl⟩
 wp_walk using z1a,z0y,inV,eqV
 exact q _ l ps s2 l0 hl2 hp2
abbrev z1u:Stmt:=(z4z (top 42)).getD 3 (.Pass ⟨0,0,0,0⟩)
theorem z6p:FnScope ["self"] ["self"] (z0k z1u):=⟨rfl,rfl,rfl,by decide +kernel,rfl,by decide +kernel,by decide +kernel⟩
theorem z6q (F:Fun K "calls_made" "Bench.calls_made" z1u f fd) {CBench:Addr}(nBench:W.nsIn K mainGlobals "Bench"=some (some (.ref CBench))) (BC:BenCls K CBench):FnOk P w K mg base CX0 (1) f fd ["self"] ((z9k CBench)):=by
 have sc:=z6p
 refine F.ok sc (λ vs H Q E h=>?_) (λ cdv A outer s H vs Q E hr h=>?_)
 ·obtain ⟨b,A,Ls,T,rfl,_⟩:=h;rfl
 obtain ⟨b,A,Ls,T,rfl,hb,q⟩:=h
 refine ⟨_,(z0g (z0q (z3c (pv 0) rfl))),?_⟩
 wp_walk using z1a,z0y,inV,eqV
 exact ⟨_,_,_,hb.hb,BC.cl,BC.n5,_,rfl,q⟩
abbrev z1y:Stmt:=(z4z (top 42)).getD 4 (.Pass ⟨0,0,0,0⟩)
theorem z8e:FnScope ["self"] ["self"] (z0k z1y):=⟨rfl,rfl,rfl,by decide +kernel,rfl,by decide +kernel,by decide +kernel⟩
theorem z8i (F:Fun K "log_told" "Bench.log_told" z1y f fd) {CBench:Addr}(nBench:W.nsIn K mainGlobals "Bench"=some (some (.ref CBench))) (zlist:mg "list"=none) (BC:BenCls K CBench):FnOk P w K mg base CX0 (1) f fd ["self"] ((y7q CBench)):=by
 have sc:=z8e
 refine F.ok sc (λ vs H Q E h=>?_) (λ cdv A outer s H vs Q E hr h=>?_)
 ·obtain ⟨b,A,Ls,T,rfl,_⟩:=h;rfl
 obtain ⟨b,A,Ls,T,rfl,hb,q⟩:=h
 refine ⟨_,(z0g (z0q (z1x z4l (by rfl) zlist boot_list (z0a (z3c (pv 0) rfl) z0e)))),?_⟩
 obtain ⟨ps,hl,hp⟩:=hb.hlg
 wp_walk using z1a,z0y,inV,eqV
 exact ⟨_,_,_,hb.hb,BC.cl,BC.n6,_,rfl,_,rfl,_,.inl (.of hl),λ l h0=>q _ l ps (z0b h0 _) h0 z0f (hp.up (.of (z0b h0 _)))⟩
abbrev z2l:Stmt:=(z4z (top 42)).getD 5 (.Pass ⟨0,0,0,0⟩)
theorem y0v:FnScope ["self","k"] ["self","k"] (z0k z2l):=⟨rfl,rfl,rfl,by decide +kernel,rfl,by decide +kernel,by decide +kernel⟩
theorem y1g (F:Fun K "store" "Bench.store" z2l f fd) {CBench:Addr}(nBench:W.nsIn K mainGlobals "Bench"=some (some (.ref CBench))) (zlist:mg "list"=none) (BC:BenCls K CBench):FnOk P w K mg base CX0 (1) f fd ["self","k"] ((z9c CBench)):=by
 have sc:=y0v
 refine F.ok sc (λ vs H Q E h=>?_) (λ cdv A outer s H vs Q E hr h=>?_)
 ·obtain ⟨b,A,Ls,T,k,r,rfl,_⟩:=h;rfl
 obtain ⟨b,A,Ls,T,k,r,rfl,hb,ek,q⟩:=h
 refine ⟨_,(z0g (z0q (z1x z4l (by rfl) zlist boot_list (z0a (z0r z0u (z3c (pv 0) rfl) (pv 1) (λ _ _=>rfl)) z0e)))),?_⟩
 obtain ⟨p,ep,hp⟩:=hb.hcs.2 k r ek
 wp_walk using z1a,z0y,inV,eqV
 exact ⟨_,_,_,hb.hb,BC.cl,BC.n1,_,rfl,_,rfl,_,hb.hlc,_,z0i (j:=k) (v:=.ref p) (by rw [List.getElem?_map,ep];rfl),_,rfl,_,.inl (.of hp),λ l h0=>q _ l (z0b h0 _) h0 z0f⟩
abbrev z1q:Stmt:=(z4z (top 42)).getD 6 (.Pass ⟨0,0,0,0⟩)
theorem z5l:FnScope ["self"] ["self"] (z0k z1q):=⟨rfl,rfl,rfl,by decide +kernel,rfl,by decide +kernel,by decide +kernel⟩
theorem z5r (F:Fun K "answers_told" "Bench.answers_told" z1q f fd) {CBench:Addr}(nBench:W.nsIn K mainGlobals "Bench"=some (some (.ref CBench))) {CNotDone:Addr}(nNotDone:W.nsIn K mainGlobals "NotDone"=some (some (.ref CNotDone))) (cBenchleft:CalM P w K mg base CX0 4 CBench "left" ["self"] (z7g CBench)) (zlen:mg "len"=none) (ztuple:mg "tuple"=none) (BC:BenCls K CBench) (xNotDone:W.excIn K CNotDone [.type "ValueError",.type "Exception",.type "BaseException",.type "object"] "ValueError.__new__"=true):FnOk P w K mg base (CX1 P w) (5) f fd ["self"] ((y2f CBench CNotDone)):=by
 have sc:=z5l
 refine F.okX sc (λ vs H Q E h=>?_) (λ cdv A outer s H vs Q E hr h=>?_)
 ·obtain ⟨b,A,Ls,T,rfl,_⟩:=h;rfl
 obtain ⟨b,A,Ls,T,rfl,hb,ne,q⟩:=h
 refine ⟨_,(z0d (z1c (z0j y5s (z1b z0v (by rfl) zlen PySem.boot_len (z0a (z9x BC.cl cBenchleft hr z1f (pv 0)) z0e)) z0c (z0o _)) (z0g (z2e PySem.F.excBase_ValueError rfl (by rfl) nNotDone xNotDone z2n (z0a z0s z0e))) z0m) (z0g (z0q z6u))),?_⟩
 simp only [L2.start,List.length_cons,List.length_nil,List.replicate,List.cons_append,List.nil_append,Nat.reduceSub,Nat.reduceAdd,List.map_cons,List.map_nil]
 refine z0h (λ σ G=>False) (λ σ G h=>h.elim) (λ R hR=>?_)
 wp_walk using z1a,z0y,inV,eqV,z7g
 refine ⟨_,_,hb.hb,rfl,A,Ls,T,hb,λ H1 l ps s1 l0 hl hp=>⟨_,.inl (.of hl),?_⟩⟩
 have ln:0 < (z3f Ls T.D).length:=List.length_pos_iff.mpr ne
 have pl:=hp.1
 rw [prI,List.length_map] at pl
 rw [List.length_map,if_pos (by lia)]
 exact ⟨small (by decide),q _ s1⟩
abbrev z4m:Stmt:=(z4z (top 42)).getD 2 (.Pass ⟨0,0,0,0⟩)
theorem y8g:FnScope ["self","loop","round_at","told","at","made","to","spot","number"] ["self","loop","round_at"] (z0k z4m):=⟨rfl,rfl,rfl,by decide +kernel,rfl,by decide +kernel,by decide +kernel⟩
theorem y9u (F:Fun K "do" "Bench.do" z4m f fd) {CBench:Addr}(nBench:W.nsIn K mainGlobals "Bench"=some (some (.ref CBench))) {CNoRound:Addr}(nNoRound:W.nsIn K mainGlobals "NoRound"=some (some (.ref CNoRound))) {CNoPlace:Addr}(nNoPlace:W.nsIn K mainGlobals "NoPlace"=some (some (.ref CNoPlace))) {CNotReady:Addr}(nNotReady:W.nsIn K mainGlobals "NotReady"=some (some (.ref CNotReady))) {CStuck:Addr}(nStuck:W.nsIn K mainGlobals "Stuck"=some (some (.ref CStuck))) (croundsof:Callee P w K mg base CX0 (9) "rounds_of" ["loop"] z3l) (catof:Callee P w K mg base (CX1 P w) (9) "at_of" ["sides","place"] (y7u CNoPlace)) (cloopsides:Callee P w K mg base CX0 (9) "loop_sides" ["loop"] z2x) (cfillmade:Callee P w K mg base (CX1 P w) (9) "fill_made" ["loop","at","cells"] (y0s false CNotReady CStuck)) (crunmade:Callee P w K mg base (CX1 P w) (9) "run_made" ["loop","at","cells"] (y0s true CNotReady CStuck)) (cloopstore:Callee P w K mg base CX0 (9) "loop_store" ["loop"] z2w) (caskwritings:Callee P w K mg base (CX1 P w) (9) "ask_writings" ["writings","cells"] (y7v CStuck)) (zlen:mg "len"=none) (BC:BenCls K CBench) (xNoRound:W.excIn K CNoRound [.type "ValueError",.type "Exception",.type "BaseException",.type "object"] "ValueError.__new__"=true):FnOk P w K mg base (CX1 P w) (10) f fd ["self","loop","round_at"] ((x6c CBench CNoRound CNotReady CStuck)):=by
 have sc:=y8g
 refine F.okX sc (λ vs H Q E h=>?_) (λ cdv A outer s H vs Q E hr h=>?_)
 ·obtain ⟨b,A,Ls,T,lo,r,rfl,_⟩:=h;rfl
 obtain ⟨b,A,Ls,T,lo,r,rfl,hb,qn,qw,qs,qo⟩:=h
 refine ⟨_,(z0d (z1c (PW.pt (z3s (z0j z6f (pv 1) z0c (z0o _)) (z3i (z0j y0b (pv 1) (z1b z0v (by rfl) zlen PySem.boot_len (z0a (z3c (pv 0) rfl) z0e)) (z0o _))))) (z0g (z2e PySem.F.excBase_ValueError rfl (by rfl) nNoRound xNoRound z2n (z0a z0s z0e))) z0m) (z0d (z0t (i:=3) sc.nd rfl (by first | exact Or.inl rfl | exact Or.inr rfl) (z0r z0l (z3c (pv 0) rfl) (pv 1) (λ _ _=>rfl))) (z0d (z1c (PW.pt (z3s (z0j z6f (pv 2) z0c (z0o _)) (z3i (z0j y0b (pv 2) (z0z croundsof hr (by rfl) z1f (z0a (pv 3) z0e)) (z0o _))))) (z0g (z2e PySem.F.excBase_ValueError rfl (by rfl) nNoRound xNoRound z2n (z0a z0s z0e))) z0m) (z0d (z1c (y8t (x5h (hu1 hr) (z0x (z0a (pv 1) (z0a (pv 2) z0e))) (z3c (pv 0) rfl)) rfl) (z0g (z2e PySem.F.excBase_ValueError rfl (by rfl) nNoRound xNoRound z2n (z0a z0s z0e))) z0m) (z0d (z0t (i:=4) sc.nd rfl (by first | exact Or.inl rfl | exact Or.inr rfl) (z0z catof hr (by rfl) x5i (z0a (z0z cloopsides hr (by rfl) z1f (z0a (pv 3) z0e)) (z0a (pv 2) z0e)))) (z0d (z0t (i:=5) sc.nd rfl (by first | exact Or.inl rfl | exact Or.inr rfl) (z2p (z0j z1g (z0r z0l (pv 3) z0c (λ _ _=>rfl)) z0s (z0o _)) (z0z cfillmade hr (by rfl) z3u (z0a (pv 3) (z0a (pv 4) (z0a (z3c (pv 0) rfl) z0e)))) (z0z crunmade hr (by rfl) z3u (z0a (pv 3) (z0a (pv 4) (z0a (z3c (pv 0) rfl) z0e)))))) (z0d (z0t (i:=6) sc.nd rfl (by first | exact Or.inl rfl | exact Or.inr rfl) (z0z cloopstore hr (by rfl) z1f (z0a (pv 3) z0e))) (z0d (z1z (z0z caskwritings hr (by rfl) z3u (z0a (z0r z0l (pv 5) z0c (λ _ _=>rfl)) (z0a (z0r z0u (z3c (pv 0) rfl) (pv 6) (λ _ _=>rfl)) z0e)))) (z0d (z2g PassesOwn.leaving rfl (z3t (z0r z0l (pv 5) z0c (λ _ _=>rfl))) (z2i (n:=2) (z3j rfl (z1d (z0w (i:=7) sc.nd rfl (Or.inl rfl)) (z1d (z0w (i:=8) sc.nd rfl (Or.inl rfl)) z2h)))) (z0d (z5p (pv 8) (y9c (z0r z0u (z3c (pv 0) rfl) (pv 6) (λ _ _=>rfl)) (pv 7) z9p)) (z0g (z1z (z5q (z3c (pv 0) rfl) (z0x (z0a (pv 1) (z0a (pv 2) (z0a (pv 6) (z0a (pv 7) (z0a (pv 8) z0e))))))))))) (z0d (z7q (pv 0) (z0p z1o (z3c (pv 0) rfl) (z0r z0l (pv 5) z0c (λ _ _=>rfl))) rfl) (z0d (y8v (hu1 hr) (z3c (pv 0) rfl) (z0x (z0a (pv 1) (z0a (pv 2) z0e))) z4b rfl) (z0g (z0q z4b))))))))))))),?_⟩
 simp only [L2.start,List.length_cons,List.length_nil,List.replicate,List.cons_append,List.nil_append,Nat.reduceSub,Nat.reduceAdd,List.map_cons,List.map_nil]
 obtain ⟨las,hlo,hls⟩:=hb.hlo
 have ll3:las.length=3:=by rw [hls.1,hb.lk.ll]
 refine z0h (λ σ G=>G=H/\0≤lo/\lo < 3/\σ=[some (.ref b),some (.int lo),some (.int r),none,none,none,none,none,none]) ?_ (λ R hR=>?_)
 rotate_left
 ·wp_walk using z1a,z0y,inV,eqV
  by_cases c1:lo < 0
  ·rw [if_pos c1]
   exact ⟨small (by decide),qn (by unfold doZ;rw [if_pos (.inl c1)]) _ (Same.refl _)⟩
  rw [if_neg c1]
  refine ⟨_,_,_,hb.hb,BC.cl,BC.n2,_,rfl,_,rfl,_,.inr (.of hlo),?_⟩
  rw [List.length_map,ll3]
  by_cases c2:lo < 3
  ·rw [if_neg (by lia)]
   exact hR _ _ ⟨rfl,by lia,c2,rfl⟩
  ·rw [if_pos (by lia)]
   refine ⟨small (by decide),qn ?_ _ (Same.refl _)⟩
   unfold doZ
   split
   ·rfl
   ·rw [List.getElem?_eq_none (by rw [hb.lk.ll];lia)]
 rintro σ1 G1 ⟨rfl,lo0,lo3,rfl⟩
 obtain ⟨lo,rfl⟩:∃k:Nat,lo=(k:Int):=⟨lo.toNat,by lia⟩
 have lo3:lo < 3:=by lia
 obtain ⟨L,eL⟩:∃L,Ls[lo]?=some L:=⟨_,List.getElem?_eq_getElem (by rw [hb.lk.ll];exact lo3)⟩
 obtain ⟨lp,elp,hlp⟩:=hls.2 lo L eL
 have ok:=hb.lk.lk L (List.mem_of_getElem? eL)
 refine z0h (λ σ G=>G=G1/\σ=[some (.ref b),some (.int (lo:Int)),some (.int r),some (.ref lp),none,none,none,none,none]) ?_ (λ R hR=>?_)
 rotate_left
 ·wp_walk using z1a,z0y,inV,eqV
  exact ⟨_,_,_,hb.hb,BC.cl,BC.n2,_,rfl,_,rfl,_,hlo,_,z0i (j:=lo) (v:=.ref lp) (by rw [List.getElem?_map,elp];rfl),hR _ _ ⟨rfl,rfl⟩⟩
 rintro σ2 G2 ⟨rfl,rfl⟩
 refine z0h (λ σ G=>G=G2/\0≤r/\r < z1t L.sd/\σ=[some (.ref b),some (.int (lo:Int)),some (.int r),some (.ref lp),none,none,none,none,none]) ?_ (λ R hR=>?_)
 rotate_left
 ·wp_walk using z1a,z0y,inV,eqV,z3l
  by_cases c1:r < 0
  ·rw [if_pos c1]
   exact ⟨small (by decide),qn (by unfold doZ;rw [if_pos (.inr c1)]) _ (Same.refl _)⟩
  rw [if_neg c1]
  refine ⟨L,hlp,ok,?_⟩
  by_cases c2:z1t L.sd≤r
  ·rw [if_pos c2]
   refine ⟨small (by decide),qn ?_ _ (Same.refl _)⟩
   obtain ⟨k,rfl⟩:∃k:Nat,r=(k:Int):=⟨r.toNat,by lia⟩
   rw [z6h eL,if_pos (.inl c2)]
  ·rw [if_neg c2]
   exact hR _ _ ⟨rfl,by lia,by lia,rfl⟩
 rintro σ3 G3 ⟨rfl,r0,r1,rfl⟩
 obtain ⟨k,rfl⟩:∃k:Nat,r=(k:Int):=⟨r.toNat,by lia⟩
 rw [Int.toNat_natCast,Int.toNat_natCast] at qo
 refine z0h (λ σ G=>Same G3 G/\(lo,k) ∉ T.D/\σ=[some (.ref b),some (.int (lo:Int)),some (.int (k:Int)),some (.ref lp),none,none,none,none,none]) ?_ (λ R hR=>?_)
 rotate_left
 ·wp_walk using z1a,z0y,inV,eqV
  refine ⟨small (by decide),λ p hp=>⟨_,_,_,z0b hp _ _ _ hb.hb,BC.cl,BC.n4,_,rfl,_,rfl,_,DGet.t (k:=[Sum.inl (lo:Int),Sum.inl (k:Int)]) (z0b hp _ _ _ hb.hd) z0f,?_⟩⟩
  rw [z6r (lo,k)]
  by_cases c:(lo,k)∈T.D
  ·rw [if_pos c,if_pos (show (some (V.bl true)).isSome=true from rfl)]
   exact ⟨small (by decide),qn (by rw [z6h eL,if_pos (.inr c)]) _ (z0b hp _)⟩
  ·rw [if_neg c,if_neg (show ¬(none:Option V).isSome=true by decide)]
   exact hR _ _ ⟨z0b hp _,c,rfl⟩
 rintro σ4 G4 ⟨s4,nk,rfl⟩
 have dz:doZ Ls T lo k=y5q (T.S.getD L.st []) (z8c T.S L (atD L.sd k)):=by rw [z6h eL,if_neg (λ z=>z.elim (λ z=>by lia) nk)]
 rw [dz] at qw qs qo
 clear qn
 have hb4:=hb.same s4
 have cl:=y3u L.sd (k:Int)
 refine z0h (λ σ G=>∃at_,Same G4 G/\G at_=some (.tup ((atD L.sd (k:Int)).map V.int))/\σ=[some (.ref b),some (.int (lo:Int)),some (.int (k:Int)),some (.ref lp),some (.ref at_),none,none,none,none]) ?_ (λ R hR=>?_)
 rotate_left
 ·wp_walk using z1a,z0y,inV,eqV,y7u,z2x
  exact ⟨L,hlp.up (.of s4),λ sd hsd=>⟨L.sd,hsd,ok.sd,by have:=ok.2.1;lia,(λ z=>by lia),λ _ _ G p s hp=>hR _ _ ⟨p,s,hp,rfl⟩⟩⟩
 rintro σ5 G5 ⟨at_,s5,hat,rfl⟩
 have s05:=s4.trans s5
 have hb5:=hb.same s05
 have hlp5:=hlp.up (.of s05)
 refine z0h (λ σ G=>∃(m l:Addr) (ps:List Addr) (ac n:Int) (rows:List (Int × Int)),z8c T.S L (atD L.sd k)=.ok ac rows n/\G5 l=none/\Same G5 G/\G m=some (.tup [.ref l,.int n])/\G l=some (.lst (ps.map V.ref))/\RowsAt G ps rows/\σ=[some (.ref b),some (.int (lo:Int)),some (.int (k:Int)),some (.ref lp),some (.ref at_),some (.ref m),none,none,none]) ?_ (λ R hR=>?_)
 rotate_left
 ·wp_walk using z1a,z0y,inV,eqV,y0s
  have V5:Env58 G5 at_ A.lc (atD L.sd k) T.S:=⟨hat,w2p ok r1,⟨A.cs,hb5.hlc,hb5.hcs⟩,hb.ok.sz⟩
  obtain ⟨sp,sq,t,h1,h2,h3,h4⟩:=id hlp5
  rcases h4 with ⟨rn,e⟩ | ⟨w,mm,rn,e⟩
  ·refine ⟨_,e,_,z0i (j:=0) rfl,rfl,?_⟩
   rw [if_pos rfl]
   exact ⟨_,_,_,hb5.hb,BC.cl,BC.n1,_,rfl,_,rfl,L,hlp5,ok,by rw [rn];rfl,_,cl,T.S,V5,λ z H' s'=>qw (by rw [z];rfl) _ (s05.trans s'),λ z H' s'=>qs (by rw [z];rfl) _ (s05.trans s'),λ ac rows n z G m l ps s l0 h1 h2 h3=>hR _ _ ⟨m,l,ps,ac,n,rows,z,l0,s,h1,h2,h3,rfl⟩⟩
  ·refine ⟨_,e,_,z0i (j:=0) rfl,rfl,?_⟩
   rw [if_neg (sne (by decide +kernel))]
   exact ⟨_,_,_,hb5.hb,BC.cl,BC.n1,_,rfl,_,rfl,L,hlp5,ok,by rw [rn];rfl,_,cl,T.S,V5,λ z H' s'=>qw (by rw [z];rfl) _ (s05.trans s'),λ z H' s'=>qs (by rw [z];rfl) _ (s05.trans s'),λ ac rows n z G m l ps s l0 h1 h2 h3=>hR _ _ ⟨m,l,ps,ac,n,rows,z,l0,s,h1,h2,h3,rfl⟩⟩
 rintro σ6 G6 ⟨m,l,ps,ac,n,rows,er,l0,s6,hm,hl,hrw,rfl⟩
 rw [er] at qw qs qo
 obtain ⟨r3,rb⟩:=x5f hb.ok.sz ok cl er
 have hb6:=hb5.same s6
 clear qw
 refine z0h (λ σ G=>G=G6/\σ=[some (.ref b),some (.int (lo:Int)),some (.int (k:Int)),some (.ref lp),some (.ref at_),some (.ref m),some (.int (L.st:Int)),none,none]) ?_ (λ R hR=>?_)
 rotate_left
 ·wp_walk using z1a,z0y,inV,eqV,z2w
  exact ⟨L,hlp5.up (.of s6),hR _ _ ⟨rfl,rfl⟩⟩
 rintro σ7 G7 ⟨rfl,rfl⟩
 have st3:L.st < T.S.length:=by rw [hb.ok.sz.1];have:=ok.1;lia
 obtain ⟨ca,eca,hca⟩:=hb6.hcs.2 L.st _ (List.getElem?_eq_getElem st3)
 have eS:T.S.getD L.st []=T.S[L.st]:=by rw [List.getD_eq_getElem?_getD,List.getElem?_eq_getElem st3];rfl
 rw [← eS] at hca
 generalize hq:T.S.getD L.st []=rS at *
 refine z0h (λ σ G=>Same G7 G/\okW rS (rows.map (·.1))/\σ=[some (.ref b),some (.int (lo:Int)),some (.int (k:Int)),some (.ref lp),some (.ref at_),some (.ref m),some (.int (L.st:Int)),none,none]) ?_ (λ R hR=>?_)
 rotate_left
 ·wp_walk using z1a,z0y,inV,eqV,y7v
  refine ⟨_,hm,_,z0i (j:=0) rfl,_,_,_,hb6.hb,BC.cl,BC.n1,_,rfl,_,rfl,_,hb6.hlc,_,z0i (j:=L.st) (v:=.ref ca) (by rw [List.getElem?_map,eca];rfl),?_⟩
  exact ⟨_,rfl,_,rfl,ps,hl,rows,hrw,r3,rS,hca,λ z H' s'=>qs (by show (if okW rS (rows.map (·.1)) then Oc.ok rows n else Oc.stuck)=_;rw [if_neg z]) _ (s05.trans (s6.trans s')),λ z H' s'=>hR _ _ ⟨s',z,rfl⟩⟩
 rintro σ8 G8 ⟨s8,hokW,rfl⟩
 have qo:=qo rows n L (by show (if okW rS (rows.map (·.1)) then Oc.ok rows n else Oc.stuck)=_;rw [if_pos hokW]) eL
 clear qs
 have hb8:=hb6.same s8
 have up8:=s05.trans (s6.trans s8)
 have cam:=List.mem_of_getElem? eca
 have bca:b≠ca:=λ z=>hb8.bn.1 (z ▸ cam)
 have dca:A.d≠ca:=λ z=>hb8.dn.1 (z ▸ cam)
 have lgca:A.lg≠ca:=λ z=>hb.n1.2.1 (z ▸ cam)
 have lcca:A.lc≠ca:=λ z=>hb.n1.1 (z ▸ cam)
 obtain ⟨lgs,hlg8,hlgs⟩:=hb8.hlg
 refine z0h (λ σ G=>∃y z qs,(∀a o,a≠ca->a≠A.lg->G8 a=some o->G a=some o)/\G ca=some (.lst ((y6r rS rows).map cV))/\G A.lg=some (.lst (qs.map V.ref))/\TupsAt G qs (T.G++y6v lo k L.st rows)/\σ=[some (.ref b),some (.int (lo:Int)),some (.int (k:Int)),some (.ref lp),some (.ref at_),some (.ref m),some (.int (L.st:Int)),y,z]) ?_ (λ R hR=>?_)
 rotate_left
 ·wp_walk using z0y,inV,eqV
  refine ⟨_,s8 _ _ hm,_,z0i (j:=0) rfl,?_⟩
  have hl8:=s8 _ _ hl
  have hrw8:=hrw.up (.of s8)
  have lca:l≠ca:=λ z=>by
   obtain ⟨c5,e5,h5⟩:=hb5.hcs.2 L.st _ (List.getElem?_eq_getElem st3)
   rw [eca] at e5
   cases e5
   rw [z,h5] at l0;cases l0
  have llg:l≠A.lg:=λ z=>by
   obtain ⟨_,e',_⟩:=hb5.hlg
   rw [z,e'] at l0;cases l0
  have gl:T.G.length≤72:=by have:=hb.ok.gl;have:=x4w hb.ok;lia
  obtain ⟨J,hJ⟩:∃J:Nat->L2.St->Hp->Prop,J=(λ i σ G=>∃y z qs,(∀a o,a≠ca->a≠A.lg->G8 a=some o->G a=some o)/\G ca=some (.lst ((y6r rS (rows.take i)).map cV))/\G A.lg=some (.lst (qs.map V.ref))/\TupsAt G qs (T.G++y6v lo k L.st (rows.take i))/\σ=[some (.ref b),some (.int (lo:Int)),some (.int (k:Int)),some (.ref lp),some (.ref at_),some (.ref m),some (.int (L.st:Int)),y,z]):=⟨_,rfl⟩
  refine LoopL.mk (xs:=ps.map V.ref) (.of hl8) J (by rw [hJ];exact ⟨_,_,lgs,(λ _ _ _ _ h=>h),s8 _ _ hca,hlg8,by rw [List.take_zero];show TupsAt G8 lgs (T.G++[]);rw [List.append_nil];exact hlgs,rfl⟩) (λ i σ G _ h=>by rw [hJ] at h;obtain ⟨_,_,_,k9,_⟩:=h;exact .of (k9 _ _ lca llg hl8)) (λ i v σ G ex h=>?_) (λ σ G h=>?_)<;>rw [hJ] at h
  ·obtain ⟨y,z,qs,k9,hca9,hlg9,hq9,rfl⟩:=h
   have il:i < rows.length:=by have:=(List.getElem?_eq_some_iff.mp ex).1;rwa [List.length_map,hrw.1] at this
   have e1:rows[i]?=some rows[i]:=List.getElem?_eq_getElem il
   obtain ⟨x,ep,hx⟩:=hrw8.2 i _ e1
   rw [List.getElem?_map,ep] at ex
   cases ex
   generalize rows[i]=row at e1 hx
   obtain ⟨w0,w1,w2⟩:=hokW.2 row.1 (List.mem_map.mpr ⟨row,List.mem_of_getElem? e1,rfl⟩)
   have tn:=λ {a:Addr}{xs:List V}(e:G8 a=some (.tup xs))=>show a≠ca/\a≠A.lg from ⟨λ z=>(hb8.tn e).2.1 (z ▸ cam),(hb8.tn e).2.2.2⟩
   have hb9:=k9 _ _ bca hb8.bn.2.2 hb8.hb
   have hlc9:=k9 _ _ lcca hb8.n1.2.2 hb8.hlc
   wp_walk using z1a,z0y,inV,eqV
   refine ⟨_,k9 _ _ (tn hx).1 (tn hx).2 hx,rfl,_,_,rfl,_,_,rfl,rfl,_,_,_,hb9,BC.cl,BC.n1,_,rfl,_,rfl,_,hlc9,_,z0i (j:=L.st) (v:=.ref ca) (by rw [List.getElem?_map,eca];rfl),_,rfl,_,row.1,rfl,hca9,row.1.toNat,?_,?_⟩
   ·rw [List.length_map,y2t]
    have:=y3g (n:=rS.length) (k:=row.1.toNat) (by lia)
    rwa [show ((row.1.toNat:Nat):Int)=row.1 by lia] at this
   refine ⟨_,_,_,by rw [z0n bca];exact hb9,BC.cl,BC.n6,_,rfl,_,rfl,⟨_,by rw [z0n lgca];exact hlg9⟩,small (by decide),λ p hp=>?_⟩
   have pc:p≠ca:=λ z=>by rw [z,z0f] at hp;cases hp
   have pG:=hp
   rw [z0n pc] at pG
   have np:∀ {a:Addr}{o:HO},G a=some o->a≠p:=λ e z=>by rw [z,pG] at e;cases e
   have ql:=hq9.1
   rw [List.length_append,y6v,List.length_map,List.length_take] at ql
   refine ⟨_,z0b hp _ _ _ (by rw [z0n lgca];exact hlg9),z1e (by rw [List.length_map];lia),?_⟩
   rw [hJ]
   refine ⟨_,_,qs++[p],λ a o n1 n2 e=>?_,?_,?_,?_,rfl⟩
   ·rw [z0n n2,z0n (np (k9 _ _ n1 n2 e)),z0n n1];exact k9 _ _ n1 n2 e
   ·rw [z0n lgca.symm,z0n (np hca9),z0f,y4c e1,List.map_set];rfl
   ·rw [z0f,List.map_append];rfl
   ·rw [y4r e1,← List.append_assoc]
    refine TupsAt.snoc (hq9.up λ a xs e=>?_) ?_
    ·rw [z0n (λ z=>by rw [z,hlg9] at e;cases e),z0n (np e),z0n (λ z=>by rw [z,hca9] at e;cases e)];exact e
    ·rw [z0n (λ z=>by rw [z,hlg9] at pG;cases pG)];exact z0f
  ·obtain ⟨y,z,qs,k9,hca9,hlg9,hq9,rfl⟩:=h
   rw [List.length_map,hrw.1,List.take_length] at hca9 hq9
   exact hR _ _ ⟨y,z,qs,k9,hca9,hlg9,hq9,rfl⟩
 rintro σ9 G9 ⟨y,z,qs,k9,hc9,hl9,hq9,rfl⟩
 have bne:=hb8.bn
 have dne:=hb8.dn
 have hb9:=k9 _ _ bca bne.2.2 hb8.hb
 have hd9:=k9 _ _ dca dne.2 hb8.hd
 refine z0h (λ σ G=>Keep1 b G9 G/\G b=some (.ins CBench A.dx (w6a A (T.n+n)))/\σ=[some (.ref b),some (.int (lo:Int)),some (.int (k:Int)),some (.ref lp),some (.ref at_),some (.ref m),some (.int (L.st:Int)),y,z]) ?_ (λ R hR=>?_)
 rotate_left
 ·wp_walk using z1a,z0y,inV,eqV
  have hm8:=s8 _ _ hm
  have tm:=hb8.tn hm8
  exact ⟨_,_,_,hb9,BC.cl,BC.n5,_,rfl,_,k9 m _ (show m≠ca from λ z=>tm.2.1 (z ▸ cam)) tm.2.2.2 hm8,_,z0i (j:=1) rfl,_,rfl,_,rfl,_,_,_,hb9,BC.cl,BC.n5,by show 6 < 1000;decide,hR _ _ ⟨.upd,z0f,rfl⟩⟩
 rintro σ10 G10 ⟨k10,hb10,rfl⟩
 have hd10:=k10 _ _ bne.2.1.symm hd9
 have dl:=x4w hb.ok
 wp_walk using z1a,z0y,inV,eqV
 refine ⟨_,_,_,hb10,BC.cl,BC.n4,_,rfl,small (by decide),λ p hp=>⟨_,rfl,_,DPut.t (k:=[Sum.inl (lo:Int),Sum.inl (k:Int)]) (z0b hp _ _ _ hd10) z0f (z1e (by unfold y3e;rw [List.length_map];lia)),?_⟩⟩
 rw [y4d (k:=(lo,k)) nk]
 have fin:∀ {a:Addr}{o:HO},a≠b->a≠ca->a≠A.d->a≠A.lg->G8 a=some o->upd (upd G10 p (.tup [V.int (lo:Int),V.int (k:Int)])) A.d (.dT (y3e (T.D++[(lo,k)]))) a=some o:=λ n1 n2 n3 n4 e=>by
  rw [z0n n3];exact z0b hp _ _ _ (k10 _ _ n1 (k9 _ _ n2 n4 e))
 have fin9:∀ {a:Addr}{o:HO},a≠b->a≠A.d->G9 a=some o->upd (upd G10 p (.tup [V.int (lo:Int),V.int (k:Int)])) A.d (.dT (y3e (T.D++[(lo,k)]))) a=some o:=λ n1 n3 e=>by
  rw [z0n n3];exact z0b hp _ _ _ (k10 _ _ n1 e)
 have ft:UpT G8 (upd (upd G10 p (.tup [V.int (lo:Int),V.int (k:Int)])) A.d (.dT (y3e (T.D++[(lo,k)])))):=λ a xs e=>let t:=hb8.tn e;fin t.1 (show a≠ca from λ z=>t.2.1 (z ▸ cam)) t.2.2.1 t.2.2.2 e
 have l1:=hb8.ln hb8.hlc
 have l4:=hb8.ln hlg8
 have l5:=hb8.ln (s8 _ _ hca)
 refine qo _ (λ a o n1 n2 n3 n4 e=>fin n1 (show a≠ca from λ z=>n2 (z ▸ cam)) n3 n4 (up8 _ _ e)) ⟨by rw [z0n bne.2.1];exact z0b hp _ _ _ hb10,fin l1.1 lcca l1.2 hb.n1.2.2 hb8.hlc,?_,z0f,⟨qs,fin9 l4.1 l4.2 hl9,hq9.up λ a xs e=>?_⟩,hb.n1,hb.ds,let ⟨las8,x,y⟩:=hb8.hlo;⟨las8,ft _ _ x,y.up ft⟩,w4d ok hb.ok lo3 r1 nk r3 rb n,hb.lk⟩
 ·show StsAt _ A.cs (T.S.set L.st (y6r (T.S.getD L.st []) rows))
  rw [hq]
  exact StsAt.wr (H:=G8) hb8.hcs hb8.ds eca (λ a xs ma na e=>fin (hb8.ln e).1 na (hb8.ln e).2 (show a≠A.lg from λ z=>hb.n1.2.1 (z ▸ ma)) e) (fin9 l5.1 l5.2 hc9)
 ·refine fin9 (λ z=>?_) (λ z=>?_) e
  ·rw [z,hb9] at e;cases e
  ·rw [z,hd9] at e;cases e
abbrev y7w:Stmt:=top 44
def y2e:W.Frag->Sp:=λ K=>λ vs H Q _=>∃(a:Addr) (ns:List Int) (k:Nat),vs=[.ref a,.int k]/\SqL K H a (ns.map V.int)/\Q (.int (w2q ns k)) H
theorem x6j:FnScope ["row","k"] ["row","k"] (z0k y7w):=⟨rfl,rfl,rfl,by decide +kernel,rfl,by decide +kernel,by decide +kernel⟩
theorem x7p (F:Fun K "_law_at" "_law_at" y7w f fd) (zlen:mg "len"=none):FnOk P w K mg base CX0 (1) f fd ["row","k"] ((y2e K)):=by
 have sc:=x6j
 refine F.ok sc (λ vs H Q E h=>?_) (λ cdv A outer s H vs Q E hr h=>?_)
 ·obtain ⟨a,ns,k,rfl,_⟩:=h;rfl
 obtain ⟨a,ns,k,rfl,hS,q⟩:=h
 refine ⟨_,(z0d (z1c (z0j z6f (pv 1) (z1b z0v (by rfl) zlen PySem.boot_len (z0a (pv 0) z0e)) (z0o _)) (z0g (z0q (z0r y3f (pv 0) (pv 1) (λ _ _=>rfl)))) z0m) (z0g (z0q z0c))),?_⟩
 wp_walk using z1a,z0y,inV,eqV
 refine ⟨_,.inl hS,?_⟩
 rw [z2b]
 unfold w2q at q
 by_cases c:k < ns.length
 ·rw [if_pos (by lia)]
  exact ⟨_,hS,_,z0i (j:=k) (by rw [List.getElem?_map,List.getElem?_eq_getElem c];rfl),by rw [List.getD_eq_getElem?_getD,List.getElem?_eq_getElem c] at q;exact q⟩
 ·rw [if_neg (by lia)]
  rw [List.getD_eq_getElem?_getD,List.getElem?_eq_none (by lia)] at q
  exact q
abbrev z6d:Stmt:=top 45
def z4u:Sp:=λ vs H Q _=>∃n:Int,vs=[.int n]/\∀H',Same H H'->Q (.int (fig n)) H'
theorem y2o:FnScope ["one"] ["one"] (z0k z6d):=⟨rfl,rfl,rfl,by decide +kernel,rfl,by decide +kernel,by decide +kernel⟩
theorem y2z (F:Fun K "_law_figure" "_law_figure" z6d f fd):FnOk P w K mg base CX0 (1) f fd ["one"] (z4u):=by
 have sc:=y2o
 refine F.ok sc (λ vs H Q E h=>?_) (λ cdv A outer s H vs Q E hr h=>?_)
 ·obtain ⟨n,rfl,_⟩:=h;rfl
 obtain ⟨n,rfl,q⟩:=h
 refine ⟨_,(z0d (z1c (z0j z1g (z0p z1j (pv 0) z0c) z0c (z0o _)) (z0g (z0q (z0r y3f (z1n (z0a (z6e z3k (z0p z4h z0c z0c)) (z0a (z0p z4a (z0p z4h z0c z0c) z0c) (z0a (z6e z3k z0c) (z0a z0c (z0a z0c (z0a (z0p z4a z0c (z0p z4h z0c z0c)) z0e))))))) (z0p z1j (z0p z1h (pv 0) z0c) z0c) (λ _ _=>rfl)))) z0m) (z0d (z1c (z0j z1g (z0p z1j (pv 0) z0c) z0c (z0o _)) (z0g (z0q (z0p z4a (z0p z1j (z0p z1h (pv 0) z0c) z0c) z0c))) z0m) (z0g (z0q (z0p z4a (z0p z1j (z0p z3d (pv 0) z0c) (z0p z4h z0c z0c)) (z0p z4h z0c z0c)))))),?_⟩
 wp_walk using z1a,z0y,inV,eqV
 unfold fig at q
 by_cases h5:n % 5=0
 ·rw [if_pos h5]
  rw [if_pos h5] at q
  refine ⟨small (by decide),λ p hp=>⟨_,.of z0f,_,x9h (n / 5 % 6) (by lia) (by lia),q _ (z0b hp _)⟩⟩
 ·rw [if_neg h5]
  rw [if_neg h5] at q
  by_cases h6:n % 5=1
  ·rw [if_pos h6]
   rw [if_pos h6] at q
   exact q _ (Same.refl _)
  ·rw [if_neg h6]
   rw [if_neg h6] at q
   exact q _ (Same.refl _)
abbrev z7k:Stmt:=top 46
def z3m:W.Frag->Sp:=λ K vs H Q _=>∃(a:Addr) (ns:List Int) (k:Nat),vs=[.ref a,.int k]/\SqL K H a (ns.map V.int)/\k≤10/\∀n:Int,0≤n->n < 2305843009213693951->Q (.int n) H
theorem y5k:FnScope ["script","k"] ["script","k"] (z0k z7k):=⟨rfl,rfl,rfl,by decide +kernel,rfl,by decide +kernel,by decide +kernel⟩
theorem y5z (F:Fun K "_law_mixed" "_law_mixed" z7k f fd) (clawat:Callee P w K mg base CX0 (1) "_law_at" ["row","k"] (y2e K)):FnOk P w K mg base CX0 (2) f fd ["script","k"] ((z3m K)):=by
 have sc:=y5k
 refine F.ok sc (λ vs H Q E h=>?_) (λ cdv A outer s H vs Q E hr h=>?_)
 ·obtain ⟨a,ns,k,rfl,_⟩:=h;rfl
 obtain ⟨a,ns,k,rfl,hS,k1,q⟩:=h
 refine ⟨_,(z0g (z0q (z0p y0a (z0p z1o (z0p z3d (z0z clawat hr (by rfl) z1f (z0a (pv 0) (z0a (pv 1) z0e))) z0c) (z0p z3d (z0p z3d (pv 1) (pv 1)) z0c)) (z0p z4a (z0p z4h z0c z0c) z0c)))),?_⟩
 wp_walk using z1a,z0y,inV,eqV,y2e
 exact ⟨ns,k,rfl,hS,.inl ⟨by lia,by lia⟩,by decide,q _ (Int.fmod_nonneg_of_pos _ (by decide)) (Int.fmod_lt_of_pos _ (by decide))⟩
abbrev z9m:Stmt:=top 47
theorem y8c:FnScope ["n","count","strides","tree","way"] ["n","count"] (z0k z9m):=⟨rfl,rfl,rfl,by decide +kernel,rfl,by decide +kernel,by decide +kernel⟩
theorem y9q (F:Fun K "_law_tree" "_law_tree" z9m f fd):FnOk P w K mg base CX0 (1) f fd ["n","count"] (z5h):=by
 have sc:=y8c
 refine F.ok sc (λ vs H Q E h=>?_) (λ cdv A outer s H vs Q E hr h=>?_)
 ·obtain ⟨n,cnt,rfl,_⟩:=h;rfl
 obtain ⟨n,cnt,rfl,c1,c3,q⟩:=h
 refine ⟨_,(@z0d _ _ _ _ _ (@z0t _ _ 2 _ _ _ _ sc.nd rfl (by first | exact Or.inl rfl | exact Or.inr rfl) (@z2j _ _ _ _ _ _ _ _ _ _ z2z (@z0r _ _ _ _ _ _ _ z0u (@w7g _) (@z0p _ _ _ _ _ _ _ _ z1j (pv 0) z0c) (λ _ _=>rfl)) z3b (z3a (pv 1))) (by rfl) (by first | exact Or.inl rfl | exact Or.inr rfl)) (@z0d _ _ _ _ _ (@z0t _ _ 3 _ _ _ _ sc.nd rfl (by first | exact Or.inl rfl | exact Or.inr rfl) (@z0x _ _ _ _ _ (@z0a _ _ _ _ _ z0s (@z0a _ _ _ _ _ (@z0r _ _ _ _ _ _ _ z0u (@z1n _ _ _ _ (@z0a _ _ _ _ _ z0c (@z0a _ _ _ _ _ z0c (@z0a _ _ _ _ _ z0c (@z0a _ _ _ _ _ z0c z0e rfl) rfl) rfl) rfl)) (@z0p _ _ _ _ _ _ _ _ z1j (@z0p _ _ _ _ _ _ _ _ z1h (pv 0) z0c) z0c) (λ _ _=>rfl)) (@z0a _ _ _ _ _ (@z0r _ _ _ _ _ _ _ z0u (@z1n _ _ _ _ (@z0a _ _ _ _ _ z0c (@z0a _ _ _ _ _ z0c (@z0a _ _ _ _ _ z0c (@z0a _ _ _ _ _ z0c (@z0a _ _ _ _ _ (@z6e _ _ _ _ _ _ z3k z0c) z0e rfl) rfl) rfl) rfl) rfl)) (@z0p _ _ _ _ _ _ _ _ z1j (@z0p _ _ _ _ _ _ _ _ z1h (pv 0) z0c) z0c) (λ _ _=>rfl)) (@z0a _ _ _ _ _ (pv 2) z0e rfl) rfl) rfl) rfl)) (by rfl) (by first | exact Or.inl rfl | exact Or.inr rfl)) (@z0d _ _ _ _ _ (@z0t _ _ 4 _ _ _ _ sc.nd rfl (by first | exact Or.inl rfl | exact Or.inr rfl) (@z0p _ _ _ _ _ _ _ _ z1j (@z0p _ _ _ _ _ _ _ _ z1h (pv 0) z0c) z0c) (by rfl) (by first | exact Or.inl rfl | exact Or.inr rfl)) (@z0d _ _ _ _ _ (@z1c _ _ _ _ _ _ _ _ (@z0j _ _ _ _ _ _ _ _ z1g (pv 4) z0c (z0o _)) (@z0g _ _ _ (@z0q _ _ _ _ (@z0x _ _ _ _ _ (@z0a _ _ _ _ _ z0s (@z0a _ _ _ _ _ z0s (@z0a _ _ _ _ _ (pv 3) z0e rfl) rfl) rfl)))) z0m) (@z0d _ _ _ _ _ (@z1c _ _ _ _ _ _ _ _ (@z0j _ _ _ _ _ _ _ _ z1g (pv 4) z0c (z0o _)) (@z0g _ _ _ (@z0q _ _ _ _ (@z0x _ _ _ _ _ (@z0a _ _ _ _ _ z0s (@z0a _ _ _ _ _ z0s (@z0a _ _ _ _ _ (pv 3) (@z0a _ _ _ _ _ (@z0x _ _ _ _ _ (@z0a _ _ _ _ _ z0s (@z0a _ _ _ _ _ (@z0p _ _ _ _ _ _ _ _ z1j (@z0p _ _ _ _ _ _ _ _ z1h (pv 0) z0c) z0c) (@z0a _ _ _ _ _ (@z0p _ _ _ _ _ _ _ _ z1j (@z0p _ _ _ _ _ _ _ _ z1h (pv 0) z0c) z0c) (@z0a _ _ _ _ _ (@z2j _ _ _ _ _ _ _ _ _ _ z2z (@z0x _ _ _ _ _ (@z0a _ _ _ _ _ z0c (@z0a _ _ _ _ _ z0c (@z0a _ _ _ _ _ z0c z0e rfl) rfl) rfl)) z3b (z3a (pv 1))) z0e rfl) rfl) rfl) rfl)) z0e rfl) rfl) rfl) rfl)))) z0m) (@z0d _ _ _ _ _ (@z1c _ _ _ _ _ _ _ _ (@z0j _ _ _ _ _ _ _ _ z1g (pv 4) z0c (z0o _)) (@z0g _ _ _ (@z0q _ _ _ _ (@z0x _ _ _ _ _ (@z0a _ _ _ _ _ z0s (@z0a _ _ _ _ _ (@z0p _ _ _ _ _ _ _ _ z1j (@z0p _ _ _ _ _ _ _ _ z1h (pv 0) z0c) z0c) z0e rfl) rfl)))) z0m) (@z0g _ _ _ (@z0q _ _ _ _ (pv 3))))))))),?_⟩
 simp only [L2.start,List.length_cons,List.length_nil,List.replicate,List.cons_append,List.nil_append,Nat.reduceSub,Nat.reduceAdd,List.map_cons,List.map_nil]
 refine z0h (λ σ G=>∃(p:Addr) (ss:List Int),Same H G/\G p=some (.tup (ss.map V.int))/\ss.length=cnt/\σ=[some (.int n),some (.int cnt),some (.ref p),none,none]) ?_ (λ R hR=>?_)
 rotate_left
 ·wp_walk using z1a,z0y,inV,eqV,y7i
  intro H1 l ps s1 hl hps
  obtain ⟨p,g,gm,e1,e2⟩:=hps.ix (i:=n % 6) (by lia) (by simp only [List.length_cons,List.length_nil];lia)
  have gl:g.length=3:=(show ∀g∈stF,g.length=3 by decide) g gm
  refine ⟨_,hl,_,e1,p,rfl,_,e2,λ r H2 s2 hr=>hR _ _ ⟨r,g.take cnt,s1.trans s2,by rw [hr,x5o],by rw [List.length_take];lia,rfl⟩⟩
 rintro σ1 G1 ⟨p,ss,s1,hp,sl,rfl⟩
 refine z0h (λ σ G=>∃(t:Addr) (k:Nat) (s0:Int),Same H G/\TrAt G t (.rd k s0 ss)/\k < 3/\σ=[some (.int n),some (.int cnt),some (.ref p),some (.ref t),none]) ?_ (λ R hR=>?_)
 rotate_left
 ·wp_walk using z1a,z0y,inV,eqV
  obtain ⟨v,vm,e1⟩:=z6l (xs:=[0,0,1,2]) (i:=n / 6 % 4) (by lia) (by simp only [List.length_cons,List.length_nil];lia)
  obtain ⟨v',_,e2⟩:=z6l (xs:=[0,0,1,2,-1]) (i:=n / 24 % 5) (by lia) (by simp only [List.length_cons,List.length_nil];lia)
  have vb:0≤v/\v < 3:=(show ∀x∈([0,0,1,2]:List Int),0≤x/\x < 3 by decide) v vm
  obtain ⟨k,rfl⟩:∃k:Nat,v=(k:Int):=⟨v.toNat,by lia⟩
  exact ⟨small (by decide),λ p1 h1=>⟨_,e1,small (by decide),λ p2 h2=>⟨_,e2,small (by decide),λ p3 h3=>hR _ _ ⟨p3,k,v',s1.trans ((z0b h1 _).trans ((z0b h2 _).trans (z0b h3 _))),⟨p,z0f,z0b h3 _ _ _ (z0b h2 _ _ _ (z0b h1 _ _ _ hp))⟩,by lia,rfl⟩⟩⟩⟩
 rintro σ2 G2 ⟨t,k,s0,s2,ht,k3,rfl⟩
 wp_walk using z1a,z0y,inV,eqV
 split
 ·exact ⟨small (by decide),λ p1 h1=>q _ p1 (.neg (.rd k s0 ss)) (s2.trans (z0b h1 _)) ⟨t,z0f,TrAt.up (.of (z0b h1 _)) ht⟩ ⟨k3,sl⟩ (Nat.le_refl _)⟩
 split
 ·refine ⟨small (by decide),λ p1 h1 r H' s' hr=>⟨small (by decide),λ p2 h2=>⟨small (by decide),λ p3 h3=>?_⟩⟩⟩
  obtain ⟨k',ek⟩:∃k':Nat,n / 600 % 3=(k':Int):=⟨(n / 600 % 3).toNat,by lia⟩
  rw [show [V.int 1,V.int 1,V.int 1]=[(1:Int),1,1].map V.int from rfl,x5o] at hr
  refine q _ p3 (.sub (.rd k s0 ss) (.rd k' (n / 1800 % 3) ([1,1,1].take cnt))) (s2.trans ((z0b h1 _).trans (s'.trans ((z0b h2 _).trans (z0b h3 _))))) ⟨t,p2,z0f,TrAt.up (.of ((z0b h1 _).trans (s'.trans ((z0b h2 _).trans (z0b h3 _))))) ht,⟨r,?_,z0b h3 _ _ _ (z0b h2 _ _ _ hr)⟩⟩ ⟨⟨k3,sl⟩,by lia,by rw [List.length_take];simp only [List.length_cons,List.length_nil];lia⟩ (Nat.le_refl _)
  rw [← ek]
  exact z0b h3 _ _ _ z0f
 split
 ·exact ⟨small (by decide),λ p1 h1=>q _ p1 (.num (n / 600 % 1000)) (s2.trans (z0b h1 _)) z0f (show inB _ by unfold inB;lia) (Nat.zero_le _)⟩
 exact q _ t (.rd k s0 ss) s2 ht ⟨k3,sl⟩ (Nat.zero_le _)
abbrev z9o:Stmt:=top 48
theorem y8f:FnScope ["n","store","sides","start","steps","many","word"] ["n"] (z0k z9o):=⟨rfl,rfl,rfl,by decide +kernel,rfl,by decide +kernel,by decide +kernel⟩
theorem y9t (F:Fun K "_law_loop" "_law_loop" z9o f fd) (clawtree:Callee P w K mg base CX0 (1) "_law_tree" ["n","count"] z5h) (zlen:mg "len"=none):FnOk P w K mg base CX0 (2) f fd ["n"] (z7h):=by
 have sc:=y8f
 refine F.ok sc (λ vs H Q E h=>?_) (λ cdv A outer s H vs Q E hr h=>?_)
 ·obtain ⟨n,rfl,_⟩:=h;rfl
 obtain ⟨n,rfl,q⟩:=h
 refine ⟨_,(@z0d _ _ _ _ _ (@z0t _ _ 1 _ _ _ _ sc.nd rfl (by first | exact Or.inl rfl | exact Or.inr rfl) (@z0p _ _ _ _ _ _ _ _ z1o z0c (@z0p _ _ _ _ _ _ _ _ z1j (pv 0) z0c)) (by rfl) (by first | exact Or.inl rfl | exact Or.inr rfl)) (@z0d _ _ _ _ _ (@z0t _ _ 2 _ _ _ _ sc.nd rfl (by first | exact Or.inl rfl | exact Or.inr rfl) (@z0x _ _ _ _ _ (@z0a _ _ _ _ _ (@z0r _ _ _ _ _ _ _ z0u (@z1n _ _ _ _ (@z0a _ _ _ _ _ z0c (@z0a _ _ _ _ _ z0c (@z0a _ _ _ _ _ z0c (@z0a _ _ _ _ _ z0c (@z0a _ _ _ _ _ z0c (@z0a _ _ _ _ _ z0c z0e rfl) rfl) rfl) rfl) rfl) rfl)) (@z0p _ _ _ _ _ _ _ _ z1j (@z0p _ _ _ _ _ _ _ _ z1h (pv 0) z0c) z0c) (λ _ _=>rfl)) z0e rfl)) (by rfl) (by first | exact Or.inl rfl | exact Or.inr rfl)) (@z0d _ _ _ _ _ (@z1c _ _ _ _ _ _ _ _ (@z0j _ _ _ _ _ _ _ _ z1g (@z0p _ _ _ _ _ _ _ _ z1j (@z0p _ _ _ _ _ _ _ _ z1h (pv 0) z0c) z0c) z0c (z0o _)) (@z0g _ _ _ (@z0t _ _ 2 _ _ _ _ sc.nd rfl (by first | exact Or.inl rfl | exact Or.inr rfl) (@z0p _ _ _ _ _ _ _ _ z3v (pv 2) (@z0x _ _ _ _ _ (@z0a _ _ _ _ _ (@z0p _ _ _ _ _ _ _ _ z1o z0c (@z0p _ _ _ _ _ _ _ _ z1j (@z0p _ _ _ _ _ _ _ _ z1h (pv 0) z0c) z0c)) z0e rfl))) (by rfl) (by first | exact Or.inl rfl | exact Or.inr rfl))) z0m) (@z0d _ _ _ _ _ (@z0t _ _ 3 _ _ _ _ sc.nd rfl (by first | exact Or.inl rfl | exact Or.inr rfl) (@z0r _ _ _ _ _ _ _ z0u (@z1n _ _ _ _ (@z0a _ _ _ _ _ z0c (@z0a _ _ _ _ _ z0c (@z0a _ _ _ _ _ z0c (@z0a _ _ _ _ _ z0c (@z0a _ _ _ _ _ z0c (@z0a _ _ _ _ _ (@z6e _ _ _ _ _ _ z3k z0c) z0e rfl) rfl) rfl) rfl) rfl) rfl)) (@z0p _ _ _ _ _ _ _ _ z1j (@z0p _ _ _ _ _ _ _ _ z1h (pv 0) z0c) z0c) (λ _ _=>rfl)) (by rfl) (by first | exact Or.inl rfl | exact Or.inr rfl)) (@z0d _ _ _ _ _ (@z0t _ _ 4 _ _ _ _ sc.nd rfl (by first | exact Or.inl rfl | exact Or.inr rfl) (@z0r _ _ _ _ _ _ _ z0u (@w7f _) (@z0p _ _ _ _ _ _ _ _ z1j (@z0p _ _ _ _ _ _ _ _ z1h (pv 0) z0c) z0c) (λ _ _=>rfl)) (by rfl) (by first | exact Or.inl rfl | exact Or.inr rfl)) (@z0d _ _ _ _ _ (@z1c _ _ _ _ _ _ _ _ (@z0j _ _ _ _ _ _ _ _ y5s (@z0p _ _ _ _ _ _ _ _ z1j (@z0p _ _ _ _ _ _ _ _ z1h (pv 0) z0c) z0c) z0c (z0o _)) (@z0g _ _ _ (@z0q _ _ _ _ (@z0x _ _ _ _ _ (@z0a _ _ _ _ _ z0s (@z0a _ _ _ _ _ (pv 1) (@z0a _ _ _ _ _ (pv 2) (@z0a _ _ _ _ _ (pv 3) (@z0a _ _ _ _ _ (@z2j _ _ _ _ _ _ _ _ _ _ z2z (pv 4) (z3a (@z0p _ _ _ _ _ _ _ _ z4a z0c (z1b z0v (by rfl) zlen PySem.boot_len (@z0a _ _ _ _ _ (pv 2) z0e rfl)))) z3b) (@z0a _ _ _ _ _ (z0z clawtree hr (by rfl) z1f (@z0a _ _ _ _ _ (@z0p _ _ _ _ _ _ _ _ z1h (pv 0) z0c) (@z0a _ _ _ _ _ (z1b z0v (by rfl) zlen PySem.boot_len (@z0a _ _ _ _ _ (pv 2) z0e rfl)) z0e rfl) rfl)) z0e rfl) rfl) rfl) rfl) rfl) rfl)))) z0m) (@z0d _ _ _ _ _ (@z0t _ _ 5 _ _ _ _ sc.nd rfl (by first | exact Or.inl rfl | exact Or.inr rfl) (@z0r _ _ _ _ _ _ _ z0u (@z1n _ _ _ _ (@z0a _ _ _ _ _ z0c (@z0a _ _ _ _ _ z0c (@z0a _ _ _ _ _ z0c (@z0a _ _ _ _ _ z0c (@z0a _ _ _ _ _ z0c z0e rfl) rfl) rfl) rfl) rfl)) (@z0p _ _ _ _ _ _ _ _ z1j (@z0p _ _ _ _ _ _ _ _ z1h (pv 0) z0c) z0c) (λ _ _=>rfl)) (by rfl) (by first | exact Or.inl rfl | exact Or.inr rfl)) (@z0d _ _ _ _ _ (@z0t _ _ 6 _ _ _ _ sc.nd rfl (by first | exact Or.inl rfl | exact Or.inr rfl) (@z0r _ _ _ _ _ _ _ z0u (@z1n _ _ _ _ (@z0a _ _ _ _ _ z0s (@z0a _ _ _ _ _ z0s (@z0a _ _ _ _ _ z0s z0e rfl) rfl) rfl)) (@z0p _ _ _ _ _ _ _ _ z1j (@z0p _ _ _ _ _ _ _ _ z1h (pv 0) z0c) z0c) (λ _ _=>rfl)) (by rfl) (by first | exact Or.inl rfl | exact Or.inr rfl)) (@z0d _ _ _ _ _ (@z0t _ _ 4 _ _ _ _ sc.nd rfl (by first | exact Or.inl rfl | exact Or.inr rfl) (@z0p _ _ _ _ _ _ _ _ z3v (@z2j _ _ _ _ _ _ _ _ _ _ z2z (pv 4) (z3a (@z0p _ _ _ _ _ _ _ _ z4a z0c (z1b z0v (by rfl) zlen PySem.boot_len (@z0a _ _ _ _ _ (pv 2) z0e rfl)))) z3b) (@z0x _ _ _ _ _ (@z0a _ _ _ _ _ (@z0r _ _ _ _ _ _ _ z0u (@z1n _ _ _ _ (@z0a _ _ _ _ _ z0c (@z0a _ _ _ _ _ z0c (@z0a _ _ _ _ _ z0c (@z0a _ _ _ _ _ (@z6e _ _ _ _ _ _ z3k z0c) z0e rfl) rfl) rfl) rfl)) (@z0p _ _ _ _ _ _ _ _ z1j (@z0p _ _ _ _ _ _ _ _ z1h (pv 0) z0c) z0c) (λ _ _=>rfl)) z0e rfl))) (by rfl) (by first | exact Or.inl rfl | exact Or.inr rfl)) (@z0g _ _ _ (@z0q _ _ _ _ (@z0x _ _ _ _ _ (@z0a _ _ _ _ _ z0s (@z0a _ _ _ _ _ (pv 6) (@z0a _ _ _ _ _ (pv 1) (@z0a _ _ _ _ _ (pv 2) (@z0a _ _ _ _ _ (pv 5) (@z0a _ _ _ _ _ (pv 3) (@z0a _ _ _ _ _ (pv 4) (@z0a _ _ _ _ _ (z0z clawtree hr (by rfl) z1f (@z0a _ _ _ _ _ (@z0p _ _ _ _ _ _ _ _ z1h (pv 0) z0c) (@z0a _ _ _ _ _ (@z0p _ _ _ _ _ _ _ _ z1o (z1b z0v (by rfl) zlen PySem.boot_len (@z0a _ _ _ _ _ (pv 2) z0e rfl)) z0c) z0e rfl) rfl)) z0e rfl) rfl) rfl) rfl) rfl) rfl) rfl) rfl))))))))))))),?_⟩
 simp only [L2.start,List.length_cons,List.length_nil,List.replicate,List.cons_append,List.nil_append,Nat.reduceSub,Nat.reduceAdd,List.map_cons,List.map_nil]
 obtain ⟨st,est,hst⟩:∃st:Nat,1+n % 2=(st:Int)/\(st=1\/st=2):=⟨(1+n % 2).toNat,by lia,by lia⟩
 refine z0h (λ σ G=>G=H/\σ=[some (.int n),some (.int (st:Int)),none,none,none,none,none]) ?_ (λ R hR=>?_)
 rotate_left
 ·wp_walk using z1a,z0y,inV,eqV
  rw [est]
  exact hR _ _ ⟨rfl,rfl⟩
 rintro σ1 G1 ⟨rfl,rfl⟩
 refine z0h (λ σ G=>∃(p:Addr) (v:Int),Same G1 G/\G p=some (.tup ([v].map V.int))/\0≤v/\v≤4/\σ=[some (.int n),some (.int (st:Int)),some (.ref p),none,none,none,none]) ?_ (λ R hR=>?_)
 rotate_left
 ·wp_walk using z1a,z0y,inV,eqV
  obtain ⟨v,vm,e1⟩:=z6l (xs:=[1,2,2,3,4,0]) (i:=n / 2 % 6) (by lia) (by simp only [List.length_cons,List.length_nil];lia)
  have vb:0≤v/\v≤4:=(show ∀x∈([1,2,2,3,4,0]:List Int),0≤x/\x≤4 by decide) v vm
  exact ⟨small (by decide),λ p1 h1=>⟨_,e1,small (by decide),λ p2 h2=>hR _ _ ⟨p2,v,(z0b h1 _).trans (z0b h2 _),z0f,vb.1,vb.2,rfl⟩⟩⟩
 rintro σ2 G2 ⟨p2,v,s2,hp2,v0,v4,rfl⟩
 refine z0h (λ σ G=>∃(p:Addr) (sd:List Int),Same G1 G/\G p=some (.tup (sd.map V.int))/\w3p sd/\σ=[some (.int n),some (.int (st:Int)),some (.ref p),none,none,none,none]) ?_ (λ R hR=>?_)
 rotate_left
 ·wp_walk using z1a,z0y,inV,eqV
  split
  ·refine ⟨small (by decide),λ p3 h3=>⟨_,z0b h3 _ _ _ hp2,small (by simp),λ r G3 s3 hr=>hR _ _ ⟨r,[v,1+n / 36 % 2],s2.trans ((z0b h3 _).trans s3),hr,x9z ⟨v0,v4⟩ (by lia),rfl⟩⟩⟩
  ·exact hR _ _ ⟨p2,[v],s2,hp2,w0a ⟨v0,v4⟩,rfl⟩
 rintro σ3 G3 ⟨p,sd,s3,hp,hsd,rfl⟩
 refine z0h (λ σ G=>∃s0:Int,Same G1 G/\G p=some (.tup (sd.map V.int))/\σ=[some (.int n),some (.int (st:Int)),some (.ref p),some (.int s0),none,none,none]) ?_ (λ R hR=>?_)
 rotate_left
 ·wp_walk using z1a,z0y,inV,eqV
  obtain ⟨v,vm,e1⟩:=z6l (xs:=[0,0,0,1,2,-1]) (i:=n / 72 % 6) (by lia) (by simp only [List.length_cons,List.length_nil];lia)
  exact ⟨small (by decide),λ p1 h1=>⟨_,e1,hR _ _ ⟨v,s3.trans (z0b h1 _),z0b h1 _ _ _ hp,rfl⟩⟩⟩
 rintro σ4 G4 ⟨s0,s4,hp4,rfl⟩
 refine z0h (λ σ G=>∃(q:Addr) (g:List Int),Same G1 G/\G p=some (.tup (sd.map V.int))/\G q=some (.tup (g.map V.int))/\g.length=2/\σ=[some (.int n),some (.int (st:Int)),some (.ref p),some (.int s0),some (.ref q),none,none]) ?_ (λ R hR=>?_)
 rotate_left
 ·wp_walk using z1a,z0y,inV,eqV,y7i
  intro H1 l ps s1 hl hps
  obtain ⟨q,g,gm,e1,e2⟩:=hps.ix (i:=n / 432 % 6) (by lia) (by simp only [List.length_cons,List.length_nil];lia)
  have gl:g.length=2:=(show ∀g∈w6u,g.length=2 by decide) g gm
  exact ⟨_,hl,_,e1,hR _ _ ⟨q,g,s4.trans s1,s1 _ _ hp4,e2,gl,rfl⟩⟩
 rintro σ5 G5 ⟨sq,g,s5,hp5,hq5,gl,rfl⟩
 have sl:=hsd.1
 have e2:(2:Int) - (sd.length:Int)=((2 - sd.length:Nat):Int):=by lia
 refine z0h (λ σ G=>G=G5/\σ=[some (.int n),some (.int (st:Int)),some (.ref p),some (.int s0),some (.ref sq),none,none]) ?_ (λ R hR=>?_)
 rotate_left
 ·wp_walk using z1a,z0y,inV,eqV,z5h
  split
  ·refine ⟨_,.inr (.of hp5),_,hq5,λ r H1 s1 hr=>⟨_,.inr (.of (s1 _ _ hp5)),?_⟩⟩
   rw [z2b,e2,y0n] at hr
   rw [z2b]
   refine ⟨sd.length,rfl,by lia,by lia,λ H2 t T s2 ht tg dt=>⟨small (by decide),λ a ha=>?_⟩⟩
   have s12:=s1.trans (s2.trans (z0b ha (.tup [V.str (Str.ofString "fill"),V.int (st:Int),V.ref p,V.int s0,V.ref r,V.ref t])))
   exact q _ a ⟨none,st,sd,s0,g.drop (2 - sd.length),T⟩ (s5.trans s12) ⟨p,r,t,s12 _ _ hp5,z0b ha _ _ _ (s2 _ _ hr),ht.up (.of (z0b ha _)),.inl ⟨rfl,z0f⟩⟩ ⟨hst,hsd.1,hsd.2.1,hsd.2.2,by show (g.drop (2 - sd.length)).length=sd.length;rw [List.length_drop];lia,tg,dt,λ w m z=>nomatch z⟩
  ·exact hR _ _ ⟨rfl,rfl⟩
 rintro σ6 G6 ⟨rfl,rfl⟩
 refine z0h (λ σ G=>∃m:Nat,m≤3/\Same G6 G/\σ=[some (.int n),some (.int (st:Int)),some (.ref p),some (.int s0),some (.ref sq),some (.int (m:Int)),none]) ?_ (λ R hR=>?_)
 rotate_left
 ·wp_walk using z1a,z0y,inV,eqV
  obtain ⟨v,vm,e1⟩:=z6l (xs:=[1,2,3,2,0]) (i:=n / 7776 % 5) (by lia) (by simp only [List.length_cons,List.length_nil];lia)
  have vb:0≤v/\v≤3:=(show ∀x∈([1,2,3,2,0]:List Int),0≤x/\x≤3 by decide) v vm
  obtain ⟨m,rfl⟩:∃m:Nat,v=(m:Int):=⟨v.toNat,by lia⟩
  exact ⟨small (by decide),λ p1 h1=>⟨_,e1,hR _ _ ⟨m,by lia,z0b h1 _,rfl⟩⟩⟩
 rintro σ7 G7 ⟨m,m3,s7,rfl⟩
 refine z0h (λ σ G=>∃w:Str,w∈(["add","max","xor"]:List Str)/\Same G6 G/\σ=[some (.int n),some (.int (st:Int)),some (.ref p),some (.int s0),some (.ref sq),some (.int (m:Int)),some (.str w)]) ?_ (λ R hR=>?_)
 rotate_left
 ·wp_walk using z1a,z0y,inV,eqV
  obtain ⟨w,wm,e1⟩:=x7r (xs:=["add","max","xor"]) (i:=n / 38880 % 3) (by lia) (by simp only [List.length_cons,List.length_nil];lia)
  exact ⟨small (by decide),λ p1 h1=>⟨_,e1,hR _ _ ⟨w,wm,s7.trans (z0b h1 _),rfl⟩⟩⟩
 rintro σ8 G8 ⟨w,wm,s8,rfl⟩
 refine z0h (λ σ G=>∃(r:Addr) (ss:List Int),Same G6 G/\G r=some (.tup (ss.map V.int))/\ss.length=sd.length+1/\σ=[some (.int n),some (.int (st:Int)),some (.ref p),some (.int s0),some (.ref r),some (.int (m:Int)),some (.str w)]) ?_ (λ R hR=>?_)
 rotate_left
 ·wp_walk using z1a,z0y,inV,eqV
  obtain ⟨v,vm,e1⟩:=z6l (xs:=[1,1,0,-1]) (i:=n / 116640 % 4) (by lia) (by simp only [List.length_cons,List.length_nil];lia)
  refine ⟨_,.inr (.of (s8 _ _ hp5)),_,s8 _ _ hq5,λ r H1 s1 hr=>⟨small (by decide),λ p1 h1=>⟨_,e1,small (by decide),λ p2 h2=>?_⟩⟩⟩
  rw [z2b,e2,y0n] at hr
  have dl:(g.drop (2 - sd.length)).length=sd.length:=by rw [List.length_drop];lia
  refine ⟨_,z0b h2 _ _ _ (z0b h1 _ _ _ hr),small (by rw [List.length_map,dl];lia),λ r2 H2 s2 hr2=>hR _ _ ⟨r2,g.drop (2 - sd.length)++[v],s8.trans (s1.trans ((z0b h1 _).trans ((z0b h2 _).trans s2))),by rw [hr2,List.map_append];rfl,by rw [List.length_append,dl];rfl,rfl⟩⟩
 rintro σ9 G9 ⟨r,ss,s9,hr9,ssl,rfl⟩
 wp_walk using z1a,z0y,inV,eqV,z5h
 refine ⟨_,.inr (.of (s9 _ _ hp5)),?_⟩
 rw [z2b]
 refine ⟨sd.length+1,by lia,by lia,by lia,λ H2 t T s2 ht tg dt=>⟨small (by decide),λ a ha=>?_⟩⟩
 have s12:=s9.trans (s2.trans (z0b ha (.tup [V.str (Str.ofString "run"),V.str w,V.int (st:Int),V.ref p,V.int (m:Int),V.int s0,V.ref r,V.ref t])))
 exact q _ a ⟨some (w,m),st,sd,s0,ss,T⟩ (s5.trans s12) ⟨p,r,t,s12 _ _ hp5,z0b ha _ _ _ (s2 _ _ hr9),ht.up (.of (z0b ha _)),.inr ⟨w,m,rfl,z0f⟩⟩ ⟨hst,hsd.1,hsd.2.1,hsd.2.2,ssl,tg,dt,λ w' m' z=>by cases z;exact ⟨wm,m3⟩⟩
abbrev y2g:Stmt:=top 49
theorem x2h:FnScope ["word","x","y"] ["word","x","y"] (z0k y2g):=⟨rfl,rfl,rfl,by decide +kernel,rfl,by decide +kernel,by decide +kernel⟩
theorem x2y (F:Fun K "_law_own" "_law_own" y2g f fd) (zmax:mg "max"=none):FnOk P w K mg base CX0 (1) f fd ["word","x","y"] (z3g):=by
 have sc:=x2h
 refine F.ok sc (λ vs H Q E h=>?_) (λ cdv A outer s H vs Q E hr h=>?_)
 ·obtain ⟨w,x,y,rfl,_⟩:=h;rfl
 obtain ⟨w,x,y,rfl,hw,q⟩:=h
 refine ⟨_,(z0d (z1c (z0j z1g (pv 0) z0s (z0o _)) (z0g (z0q (z1b (y1s rfl) (by rfl) zmax boot_max (z0a (pv 1) (z0a (pv 2) z0e))))) z0m) (z0d (z1c (z0j z1g (pv 0) z0s (z0o _)) (z0g (z0q (z0p x5j (pv 1) (pv 2)))) z0m) (z0d (z1c (z0j z1g (pv 0) z0s (z0o _)) (z0g (z0t (i:=2) sc.nd rfl (by first | exact Or.inl rfl | exact Or.inr rfl) (z0p z4a z0c (pv 2)))) z0m) (z0g (z0q (z0p z4a (z0p z1j (z0p z1o (z0p z1o (pv 1) (pv 2)) (z0p z4h z0c z0c)) (z0p z4h z0c z0c)) (z0p z4h z0c z0c))))))),?_⟩
 simp only [L2.start,List.length_cons,List.length_nil,List.replicate,List.cons_append,List.nil_append,Nat.reduceSub,Nat.reduceAdd,List.map_cons,List.map_nil]
 wp_walk using z1a,z0y,inV,eqV
 rcases hw with hw | rfl
 ·simp only [List.mem_cons,List.not_mem_nil,or_false] at hw
  rcases hw with rfl | rfl | rfl
  ·rw [if_neg (by decide +kernel),if_neg (by decide +kernel),if_neg (by decide +kernel)]
   rw [x4z] at q
   exact q
  ·rw [if_pos rfl]
   rw [x4y] at q
   exact q
  ·rw [if_neg (by decide +kernel),if_pos rfl]
   rw [x4x] at q
   exact q
 ·rw [if_neg (by decide +kernel),if_neg (by decide +kernel),if_pos rfl,show x+(0 - y)=x - y by lia]
  rw [y7c] at q
  exact q
abbrev z9n:Stmt:=top 50
theorem y8e:FnScope ["start","steps","at","step","one"] ["start","steps","at"] (z0k z9n):=⟨rfl,rfl,rfl,by decide +kernel,rfl,by decide +kernel,by decide +kernel⟩
theorem y9s (F:Fun K "_law_spot" "_law_spot" z9n f fd) (zzip:mg "zip"=none):FnOk P w K mg base CX0 (1) f fd ["start","steps","at"] (z2y):=by
 have sc:=y8e
 refine F.ok sc (λ vs H Q E h=>?_) (λ cdv A outer s H vs Q E hr h=>?_)
 ·obtain ⟨s0,p,a,ss,c,rfl,_⟩:=h;rfl
 obtain ⟨s0,p,a,ss,c,rfl,hp,ha,cl,co,q⟩:=h
 refine ⟨_,(z0d (z2g PassesOwn.never rfl (y9b (by rfl) zzip (z0a (pv 1) (z0a (pv 2) z0e))) (z2i (n:=2) (z3j rfl (z1d (z0w (i:=3) sc.nd rfl (Or.inl rfl)) (z1d (z0w (i:=4) sc.nd rfl (Or.inl rfl)) z2h)))) (z0g (z0t (i:=0) sc.nd rfl (by first | exact Or.inl rfl | exact Or.inr rfl) (z0p z1o (pv 0) (z0p z3d (pv 3) (pv 4)))))) (z0g (z0q (pv 0)))),?_⟩
 wp_walk using z1a,z0y,inV,eqV
 refine LoopZ.mk (xs:=ss.map V.int) (ys:=c.map V.int) ss.length (by rw [z2b,z2b,cl,Nat.min_self]) (.of hp) (.of ha) (λ i σ H'=>Same H H'/\∃y2 y3,σ=[some (.int (s0+z4s (ss.take i) (c.take i))),some (.ref p),some (.ref a),y2,y3]) ⟨Same.refl _,none,none,by simp [z4s]⟩ (λ i σ H' _ h=>⟨.of (h.1 _ _ hp),.of (h.1 _ _ ha)⟩) (λ i x y σ H' T hi ex ey h hT=>?_) (λ σ H' h=>?_)
 ·obtain ⟨sH,y2,y3,rfl⟩:=h
  obtain ⟨m,rfl,hm⟩:=z6m ex
  obtain ⟨t,rfl,ht⟩:=z6m ey
  have mm:=co.2 t (List.mem_of_getElem? ht)
  wp_walk using z1a,z0y,inV,eqV
  rw [y4s hm ht]
  exact ⟨.inr ⟨by lia,by lia⟩,sH.trans (z0b hT _),Int.add_assoc _ _ _,_,rfl⟩
 ·obtain ⟨sH,y2,y3,rfl⟩:=h
  rw [List.take_length,← cl,List.take_length]
  wp_walk using z1a,z0y,inV,eqV
  exact q _ sH
abbrev z6t:Stmt:=top 51
theorem y8d:FnScope ["tree","at","stores","spot","first","second"] ["tree","at","stores"] (z0k z6t):=⟨rfl,rfl,rfl,by decide +kernel,rfl,by decide +kernel,by decide +kernel⟩
theorem y9r (F:Fun K "_law_told" "_law_told" z6t f fd) {d0:Nat}(clawown:Callee P w K mg base CX0 (d0+1) "_law_own" ["word","x","y"] z3g) (clawspot:Callee P w K mg base CX0 (d0+1) "_law_spot" ["start","steps","at"] z2y) (clawtold:Callee P w K mg base CX0 (d0+1) "_law_told" ["tree","at","stores"] (z3r d0)) (zlen:mg "len"=none):FnOk P w K mg base CX0 (d0+2) f fd ["tree","at","stores"] (z3r (d0+1)):=by
 have sc:=y8d
 refine F.ok sc (λ vs H Q E h=>?_) (λ cdv A outer s H vs Q E hr h=>?_)
 ·obtain ⟨t,a,st,T,c,S,rfl,_⟩:=h;rfl
 obtain ⟨t,a,st,T,c,S,rfl,hT,dT,tg,hV,q⟩:=h
 refine ⟨_,(@z0d _ _ _ _ _ (@z1c _ _ _ _ _ _ _ _ (@z0j _ _ _ _ _ _ _ _ z1g (@z0r _ _ _ _ _ _ _ z0l (pv 0) z0c (λ _ _=>rfl)) z0s (z0o _)) (@z0g _ _ _ (@z0q _ _ _ _ (@z0x _ _ _ _ _ (@z0a _ _ _ _ _ z0s (@z0a _ _ _ _ _ (@z0r _ _ _ _ _ _ _ z0l (pv 0) z0c (λ _ _=>rfl)) (@z0a _ _ _ _ _ z0c z0e rfl) rfl) rfl)))) z0m) (@z0d _ _ _ _ _ (@z1c _ _ _ _ _ _ _ _ (@z0j _ _ _ _ _ _ _ _ z1g (@z0r _ _ _ _ _ _ _ z0l (pv 0) z0c (λ _ _=>rfl)) z0s (z0o _)) (@z0d _ _ _ _ _ (@z0t _ _ 3 _ _ _ _ sc.nd rfl (by first | exact Or.inl rfl | exact Or.inr rfl) (z0z clawspot hr (by rfl) z1f (@z0a _ _ _ _ _ (@z0r _ _ _ _ _ _ _ z0l (pv 0) z0c (λ _ _=>rfl)) (@z0a _ _ _ _ _ (@z0r _ _ _ _ _ _ _ z0l (pv 0) z0c (λ _ _=>rfl)) (@z0a _ _ _ _ _ (pv 1) z0e rfl) rfl) rfl)) (by rfl) (by first | exact Or.inl rfl | exact Or.inr rfl)) (@z0d _ _ _ _ _ (@z1c _ _ _ _ _ _ _ _ (PW.pt (z3s (@z0j _ _ _ _ _ _ _ _ z6f (pv 3) z0c (z0o _)) (z3i (@z0j _ _ _ _ _ _ _ _ y0b (pv 3) (z1b z0v (by rfl) zlen PySem.boot_len (@z0a _ _ _ _ _ (@z0r _ _ _ _ _ _ _ z0u (pv 2) (@z0r _ _ _ _ _ _ _ z0l (pv 0) z0c (λ _ _=>rfl)) (λ _ _=>rfl)) z0e rfl)) (z0o _))))) (@z0g _ _ _ (@z0q _ _ _ _ (@z0x _ _ _ _ _ (@z0a _ _ _ _ _ z0s (@z0a _ _ _ _ _ z0c (@z0a _ _ _ _ _ z0c z0e rfl) rfl) rfl)))) z0m) (@z0d _ _ _ _ _ (@z1c _ _ _ _ _ _ _ _ (@z0j _ _ _ _ _ _ _ _ x5l (@z0r _ _ _ _ _ _ _ z0u (@z0r _ _ _ _ _ _ _ z0u (pv 2) (@z0r _ _ _ _ _ _ _ z0l (pv 0) z0c (λ _ _=>rfl)) (λ _ _=>rfl)) (pv 3) (λ _ _=>rfl)) z8o (z0o _)) (@z0g _ _ _ (@z0q _ _ _ _ (@z0x _ _ _ _ _ (@z0a _ _ _ _ _ z0s (@z0a _ _ _ _ _ z0c (@z0a _ _ _ _ _ z0c z0e rfl) rfl) rfl)))) z0m) (@z0g _ _ _ (@z0q _ _ _ _ (@z0x _ _ _ _ _ (@z0a _ _ _ _ _ z0s (@z0a _ _ _ _ _ (@z0r _ _ _ _ _ _ _ z0u (@z0r _ _ _ _ _ _ _ z0u (pv 2) (@z0r _ _ _ _ _ _ _ z0l (pv 0) z0c (λ _ _=>rfl)) (λ _ _=>rfl)) (pv 3) (λ _ _=>rfl)) (@z0a _ _ _ _ _ z0c z0e rfl) rfl) rfl))))))) z0m) (@z0d _ _ _ _ _ (@z0t _ _ 4 _ _ _ _ sc.nd rfl (by first | exact Or.inl rfl | exact Or.inr rfl) (z0z clawtold hr (by rfl) z1f (@z0a _ _ _ _ _ (@z0r _ _ _ _ _ _ _ z0l (pv 0) z0c (λ _ _=>rfl)) (@z0a _ _ _ _ _ (pv 1) (@z0a _ _ _ _ _ (pv 2) z0e rfl) rfl) rfl)) (by rfl) (by first | exact Or.inl rfl | exact Or.inr rfl)) (@z0d _ _ _ _ _ (@z1c _ _ _ _ _ _ _ _ (PW.pt (z3s (@z0j _ _ _ _ _ _ _ _ z1g (@z0r _ _ _ _ _ _ _ z0l (pv 0) z0c (λ _ _=>rfl)) z0s (z0o _)) (z3i (@z0j _ _ _ _ _ _ _ _ z8g (@z0r _ _ _ _ _ _ _ z0l (pv 4) z0c (λ _ _=>rfl)) z0s (z0o _))))) (@z0g _ _ _ (@z0q _ _ _ _ (@z0x _ _ _ _ _ (@z0a _ _ _ _ _ (@z0r _ _ _ _ _ _ _ z0l (pv 4) z0c (λ _ _=>rfl)) (@z0a _ _ _ _ _ (z0z clawown hr (by rfl) z1f (@z0a _ _ _ _ _ z0s (@z0a _ _ _ _ _ z0c (@z0a _ _ _ _ _ (@z0r _ _ _ _ _ _ _ z0l (pv 4) z0c (λ _ _=>rfl)) z0e rfl) rfl) rfl)) (@z0a _ _ _ _ _ (@z0p _ _ _ _ _ _ _ _ z1o (@z0r _ _ _ _ _ _ _ z0l (pv 4) z0c (λ _ _=>rfl)) z0c) z0e rfl) rfl) rfl)))) z0m) (@z0d _ _ _ _ _ (@z0t _ _ 5 _ _ _ _ sc.nd rfl (by first | exact Or.inl rfl | exact Or.inr rfl) (z0z clawtold hr (by rfl) z1f (@z0a _ _ _ _ _ (@z0r _ _ _ _ _ _ _ z0l (pv 0) z0c (λ _ _=>rfl)) (@z0a _ _ _ _ _ (pv 1) (@z0a _ _ _ _ _ (pv 2) z0e rfl) rfl) rfl)) (by rfl) (by first | exact Or.inl rfl | exact Or.inr rfl)) (@z0g _ _ _ (@z0q _ _ _ _ (@z0x _ _ _ _ _ (@z0a _ _ _ _ _ (@z0r _ _ _ _ _ _ _ z0l (pv 5) z0c (λ _ _=>rfl)) (@z0a _ _ _ _ _ (z0z clawown hr (by rfl) z1f (@z0a _ _ _ _ _ z0s (@z0a _ _ _ _ _ (@z0r _ _ _ _ _ _ _ z0l (pv 4) z0c (λ _ _=>rfl)) (@z0a _ _ _ _ _ (@z0r _ _ _ _ _ _ _ z0l (pv 5) z0c (λ _ _=>rfl)) z0e rfl) rfl) rfl)) (@z0a _ _ _ _ _ (@z0p _ _ _ _ _ _ _ _ z1o (@z0p _ _ _ _ _ _ _ _ z1o (@z0r _ _ _ _ _ _ _ z0l (pv 4) z0c (λ _ _=>rfl)) (@z0r _ _ _ _ _ _ _ z0l (pv 5) z0c (λ _ _=>rfl))) z0c) z0e rfl) rfl) rfl))))))))),?_⟩
 simp only [L2.start,List.length_cons,List.length_nil,List.replicate,List.cons_append,List.nil_append,Nat.reduceSub,Nat.reduceAdd,List.map_cons,List.map_nil]
 cases T with
 | num m =>
  refine z0h (λ σ G=>False) (λ σ G h=>h.elim) (λ R hR=>?_)
  wp_walk using z1a,z0y,inV,eqV
  refine ⟨_,hT,_,z0i (j:=0) rfl,rfl,?_⟩
  rw [if_pos rfl]
  exact ⟨_,hT,_,z0i (j:=1) rfl,small (by decide),λ p hp=>q _ p _ _ _ (z0b hp _) z0f ⟨(λ z=>nomatch z),(λ z=>nomatch z),λ v' n' z=>by cases z;exact ⟨rfl,rfl,rfl⟩⟩⟩
 | rd k s0 ss =>
  obtain ⟨p,h1,h2⟩:=hT
  obtain ⟨ps,h7,hS⟩:=hV.ps
  obtain ⟨k3,sl⟩:=tg
  have kl:k < S.length:=by rw [hV.sz.1];exact k3
  obtain ⟨sa,h8,h9⟩:=hS.2 k _ (List.getElem?_eq_getElem kl)
  have e:S.getD k []=S[k]:=by rw [List.getD_eq_getElem?_getD,List.getElem?_eq_getElem kl];rfl
  refine z0h (λ σ G=>G=H/\σ=[some (.ref t),some (.ref a),some (.ref st),none,none,none]) ?_ (λ R hR=>?_)
  rotate_left
  ·wp_walk using z1a,z0y,inV,eqV
   refine ⟨_,h1,_,z0i (j:=0) rfl,rfl,?_⟩
   rw [if_neg (sne (by decide +kernel))]
   exact hR _ _ ⟨rfl,rfl⟩
  rintro σ1 G1 ⟨rfl,rfl⟩
  refine z0h (λ σ G=>False) (λ σ G h=>h.elim) (λ R hR=>?_)
  simp only [evZ,e,tkZ] at q
  have hst:∀ {G:Hp},Same G1 G->∃x,G st=some (.lst x)/\atI x (k:Int)=some (V.ref sa)/\G sa=some (.lst (S[k].map cV)):=λ s=>⟨_,s _ _ h7,z0i (j:=k) (v:=V.ref sa) (by rw [List.getElem?_map,h8];rfl),s _ _ h9⟩
  wp_walk using z1a,z0y,inV,eqV,z2y
  refine ⟨_,h1,_,z0i (j:=0) rfl,rfl,?_⟩
  rw [if_pos rfl]
  refine ⟨_,h1,_,z0i (j:=2) rfl,_,h1,_,z0i (j:=3) rfl,s0,rfl,p,rfl,ss,h2,c,hV.ha,sl.symm,hV.co,λ G2 s2=>?_⟩
  by_cases i0:s0+z4s ss c < 0
  ·rw [if_pos i0]
   rw [if_pos (.inl i0)] at q
   exact ⟨small (by decide),λ p hp=>q _ p _ _ _ (s2.trans (z0b hp _)) z0f ⟨(λ z=>nomatch z),(λ _=>rfl),λ _ _ z=>nomatch z⟩⟩
  rw [if_neg i0]
  obtain ⟨xs,e1,e2,e3⟩:=hst s2
  refine ⟨_,s2 _ _ h1,_,z0i (j:=1) rfl,_,_,rfl,e1,_,e2,sa,rfl,_,.inl (.of e3),?_⟩
  rw [List.length_map]
  by_cases i1:(S[k].length:Int)≤s0+z4s ss c
  ·rw [if_pos i1]
   rw [if_pos (.inr i1)] at q
   exact ⟨small (by decide),λ p hp=>q _ p _ _ _ (s2.trans (z0b hp _)) z0f ⟨(λ z=>nomatch z),(λ _=>rfl),λ _ _ z=>nomatch z⟩⟩
  rw [if_neg i1]
  rw [if_neg (λ z=>z.elim i0 i1)] at q
  have hx:=z6w (r:=S[k]) (i:=s0+z4s ss c) (by lia) (by lia)
  refine ⟨_,s2 _ _ h1,_,z0i (j:=1) rfl,_,_,rfl,e1,_,e2,sa,rfl,_,e3,_,hx,?_⟩
  cases en:S[k].getD (s0+z4s ss c).toNat none with
  | none =>
   rw [en] at q
   rw [if_pos (show cV none=V.non from rfl)]
   exact ⟨small (by decide),λ p hp=>q _ p _ _ _ (s2.trans (z0b hp _)) z0f ⟨(λ _=>rfl),(λ z=>nomatch z),λ _ _ z=>nomatch z⟩⟩
  | some v =>
   rw [en] at q hx
   rw [if_neg (show ¬cV (some v)=V.non from λ z=>by cases z)]
   exact ⟨_,s2 _ _ h1,_,z0i (j:=1) rfl,_,_,rfl,e1,_,e2,sa,rfl,_,e3,_,hx,small (by decide),λ p hp=>q _ p _ v 0 (s2.trans (z0b hp _)) z0f ⟨(λ z=>nomatch z),(λ z=>nomatch z),λ v' n' z=>by cases z;exact ⟨rfl,rfl,rfl⟩⟩⟩
 | neg u =>
  obtain ⟨b,h1,hb⟩:=hT
  refine z0h (λ σ G=>G=H/\σ=[some (.ref t),some (.ref a),some (.ref st),none,none,none]) ?_ (λ R hR=>?_)
  rotate_left
  ·wp_walk using z1a,z0y,inV,eqV
   refine ⟨_,h1,_,z0i (j:=0) rfl,rfl,?_⟩
   rw [if_neg (sne (by decide +kernel))]
   exact hR _ _ ⟨rfl,rfl⟩
  rintro σ1 G1 ⟨rfl,rfl⟩
  refine z0h (λ σ G=>G=G1/\σ=[some (.ref t),some (.ref a),some (.ref st),none,none,none]) ?_ (λ R hR=>?_)
  rotate_left
  ·wp_walk using z1a,z0y,inV,eqV
   refine ⟨_,h1,_,z0i (j:=0) rfl,rfl,?_⟩
   rw [if_neg (sne (by decide +kernel))]
   exact hR _ _ ⟨rfl,rfl⟩
  rintro σ2 G2 ⟨rfl,rfl⟩
  simp only [dep] at dT
  refine z0h (λ σ G=>∃(p:Addr) (w:Str) (v n:Int),Same G2 G/\G p=some (.tup [.str w,.int v,.int n])/\x8t (evZ S u c) w v n/\σ=[some (.ref t),some (.ref a),some (.ref st),none,some (.ref p),none]) ?_ (λ R hR=>?_)
  rotate_left
  ·wp_walk using z1a,z0y,inV,eqV
   cases d0 with
   | zero=>exact absurd dT (by lia)
   | succ d =>
    simp only [z3r]
    exact ⟨_,h1,_,z0i (j:=2) rfl,b,a,st,u,c,S,rfl,hb,by lia,tg,hV,λ H' p w v n s' h' tz=>hR _ _ ⟨p,w,v,n,s',h',tz,rfl⟩⟩
  rintro σ3 G3 ⟨p,w,v,n,s3,hp,tz,rfl⟩
  refine z0h (λ σ G=>False) (λ σ G h=>h.elim) (λ R hR=>?_)
  wp_walk using z1a,z0y,inV,eqV,z3g
  refine ⟨_,s3 _ _ h1,_,z0i (j:=0) rfl,rfl,?_⟩
  rw [if_pos rfl]
  refine ⟨_,hp,_,z0i (j:=0) rfl,_,hp,_,z0i (j:=1) rfl,v,rfl,_,hp,_,z0i (j:=2) rfl,_,rfl,small (by decide),λ p2 hp2=>q _ p2 w _ _ (s3.trans (z0b hp2 _)) z0f ?_⟩
  rcases z4e tz with ⟨rfl,e⟩ | ⟨_,⟨e,rfl⟩ | ⟨e,rfl⟩⟩
  ·refine ⟨λ z=>?_,λ z=>?_,λ v' n' z=>?_⟩<;>simp only [evZ,e] at z
   ·cases z
   ·cases z
   ·cases z
    exact ⟨rfl,(x2v v).symm,Int.add_comm _ _⟩
  ·refine ⟨λ z=>rfl,λ z=>?_,λ v' n' z=>?_⟩<;>simp only [evZ,e] at z<;>cases z
  ·refine ⟨λ z=>?_,λ z=>rfl,λ v' n' z=>?_⟩<;>simp only [evZ,e] at z<;>cases z
 | sub u x =>
  obtain ⟨b,b',h1,hb,hb'⟩:=hT
  refine z0h (λ σ G=>G=H/\σ=[some (.ref t),some (.ref a),some (.ref st),none,none,none]) ?_ (λ R hR=>?_)
  rotate_left
  ·wp_walk using z1a,z0y,inV,eqV
   refine ⟨_,h1,_,z0i (j:=0) rfl,rfl,?_⟩
   rw [if_neg (sne (by decide +kernel))]
   exact hR _ _ ⟨rfl,rfl⟩
  rintro σ1 G1 ⟨rfl,rfl⟩
  refine z0h (λ σ G=>G=G1/\σ=[some (.ref t),some (.ref a),some (.ref st),none,none,none]) ?_ (λ R hR=>?_)
  rotate_left
  ·wp_walk using z1a,z0y,inV,eqV
   refine ⟨_,h1,_,z0i (j:=0) rfl,rfl,?_⟩
   rw [if_neg (sne (by decide +kernel))]
   exact hR _ _ ⟨rfl,rfl⟩
  rintro σ2 G2 ⟨rfl,rfl⟩
  simp only [dep] at dT
  refine z0h (λ σ G=>∃(p:Addr) (w:Str) (v n:Int),Same G2 G/\G p=some (.tup [.str w,.int v,.int n])/\x8t (evZ S u c) w v n/\σ=[some (.ref t),some (.ref a),some (.ref st),none,some (.ref p),none]) ?_ (λ R hR=>?_)
  rotate_left
  ·wp_walk using z1a,z0y,inV,eqV
   cases d0 with
   | zero=>exact absurd dT (by lia)
   | succ d =>
    simp only [z3r]
    exact ⟨_,h1,_,z0i (j:=2) rfl,b,a,st,u,c,S,rfl,hb,by lia,tg.1,hV,λ H' p w v n s' h' tz=>hR _ _ ⟨p,w,v,n,s',h',tz,rfl⟩⟩
  rintro σ3 G3 ⟨p,w,v,n,s3,hp,tz,rfl⟩
  refine z0h (λ σ G=>G=G3/\w=Str.ofString "" /\ evZ S u c=.ok v n/\σ=[some (.ref t),some (.ref a),some (.ref st),none,some (.ref p),none]) ?_ (λ R hR=>?_)
  rotate_left
  ·wp_walk using z1a,z0y,inV,eqV,z3g
   refine ⟨_,s3 _ _ h1,_,z0i (j:=0) rfl,rfl,?_⟩
   rw [if_neg (sne (by decide +kernel))]
   refine ⟨_,hp,_,z0i (j:=0) rfl,rfl,?_⟩
   rcases z4e tz with ⟨rfl,e⟩ | ⟨nw,e⟩
   ·rw [if_neg (λ z=>z rfl)]
    exact hR _ _ ⟨rfl,rfl,e,rfl⟩
   ·rw [if_pos (λ z=>nw (V.str.inj z))]
    refine ⟨_,hp,_,z0i (j:=0) rfl,_,hp,_,z0i (j:=1) rfl,v,rfl,_,hp,_,z0i (j:=2) rfl,_,rfl,small (by decide),λ p2 hp2=>q _ p2 w _ _ (s3.trans (z0b hp2 _)) z0f ?_⟩
    rcases e with ⟨e,rfl⟩ | ⟨e,rfl⟩
    ·refine ⟨λ z=>rfl,λ z=>?_,λ v' n' z=>?_⟩<;>simp only [evZ,e] at z<;>cases z
    ·refine ⟨λ z=>?_,λ z=>rfl,λ v' n' z=>?_⟩<;>simp only [evZ,e] at z<;>cases z
  rintro σ4 G4 ⟨rfl,rfl,e,rfl⟩
  refine z0h (λ σ G=>∃(p':Addr) (w':Str) (v' n':Int),Same G4 G/\G p'=some (.tup [.str w',.int v',.int n'])/\x8t (evZ S x c) w' v' n'/\σ=[some (.ref t),some (.ref a),some (.ref st),none,some (.ref p),some (.ref p')]) ?_ (λ R hR=>?_)
  rotate_left
  ·wp_walk using z1a,z0y,inV,eqV
   cases d0 with
   | zero=>exact absurd dT (by lia)
   | succ d =>
    simp only [z3r]
    exact ⟨_,s3 _ _ h1,_,z0i (j:=3) rfl,b',a,st,x,c,S,rfl,hb'.up (.of s3),by lia,tg.2,hV.same s3,λ H' p w v n s' h' tz=>hR _ _ ⟨p,w,v,n,s',h',tz,rfl⟩⟩
  rintro σ5 G5 ⟨p',w',v',n',s5,hp',tz',rfl⟩
  wp_walk using z1a,z0y,inV,eqV,z3g
  have hp5:=s5 _ _ hp
  refine ⟨_,hp',_,z0i (j:=0) rfl,_,hp5,_,z0i (j:=1) rfl,_,hp',_,z0i (j:=1) rfl,v,rfl,v',rfl,_,hp5,_,z0i (j:=2) rfl,_,hp',_,z0i (j:=2) rfl,_,rfl,_,rfl,small (by decide),λ p2 hp2=>q _ p2 w' _ _ (s3.trans (s5.trans (z0b hp2 _))) z0f ?_⟩
  rcases z4e tz' with ⟨rfl,e'⟩ | ⟨_,⟨e',rfl⟩ | ⟨e',rfl⟩⟩
  ·refine ⟨λ z=>?_,λ z=>?_,λ v2 n2 z=>?_⟩<;>simp only [evZ,e,e'] at z
   ·cases z
   ·cases z
   ·cases z
    exact ⟨rfl,rfl,by lia⟩
  ·refine ⟨λ z=>rfl,λ z=>?_,λ v' n' z=>?_⟩<;>simp only [evZ,e,e'] at z<;>cases z
  ·refine ⟨λ z=>?_,λ z=>rfl,λ v' n' z=>?_⟩<;>simp only [evZ,e,e'] at z<;>cases z
theorem z8p (F:Fun K "_law_told" "_law_told" z6t f fd) (clawown:Callee P w K mg base CX0 1 "_law_own" ["word","x","y"] z3g) (clawspot:Callee P w K mg base CX0 1 "_law_spot" ["start","steps","at"] z2y) (zlen:mg "len"=none) (m:mg "_law_told"=some (.ref f)) (b:Binds K fd ["tree","at","stores"] []):∀d0:Nat,FnOk P w K mg base CX0 (d0+1) f fd ["tree","at","stores"] (z3r d0)
 | 0=>⟨λ _ _ _ _ h=>h.elim,λ _ _ _ _ _ _ _ _ _ _ _ _ _ h=>h.elim⟩
 | d0+1=>(y9r F (clawown.mono (Nat.le_add_left _ _)) (clawspot.mono (Nat.le_add_left _ _)) (Callee.mk' F m b (z8p F clawown clawspot zlen m b d0)) zlen).mono (by lia)
abbrev z7j:Stmt:=top 52
theorem y5j:FnScope ["loop","at","stores","word","n","calls","made","rows","k","some"] ["loop","at","stores"] (z0k z7j):=⟨rfl,rfl,rfl,by decide +kernel,rfl,by decide +kernel,by decide +kernel⟩
theorem y5y (F:Fun K "_law_round" "_law_round" z7j f fd) (clawtold:Callee P w K mg base CX0 (5) "_law_told" ["tree","at","stores"] (z3r 3)) (clawspot:Callee P w K mg base CX0 (5) "_law_spot" ["start","steps","at"] z2y) (clawown:Callee P w K mg base CX0 (5) "_law_own" ["word","x","y"] z3g) (zrange:mg "range"=none):FnOk P w K mg base CX0 (6) f fd ["loop","at","stores"] (z9g):=by
 have sc:=y5j
 refine F.ok sc (λ vs H Q E h=>?_) (λ cdv A outer s H vs Q E hr h=>?_)
 ·obtain ⟨lp,a,st,L,c,S,rfl,_⟩:=h;rfl
 obtain ⟨lp,a,st,L,c,S,rfl,hp,ok,cl,hV,q⟩:=h
 refine ⟨_,(@z0d _ _ _ _ _ (@z1c _ _ _ _ _ _ _ _ (@z0j _ _ _ _ _ _ _ _ z1g (@z0r _ _ _ _ _ _ _ z0l (pv 0) z0c (λ _ _=>rfl)) z0s (z0o _)) (@z0d _ _ _ _ _ (z5p (z0z clawtold hr (by rfl) z1f (@z0a _ _ _ _ _ (@z0r _ _ _ _ _ _ _ z0l (pv 0) z0c (λ _ _=>rfl)) (@z0a _ _ _ _ _ (pv 1) (@z0a _ _ _ _ _ (pv 2) z0e rfl) rfl) rfl)) (z2i (n:=3) (z3j rfl (z1d (z0w (i:=3) sc.nd rfl (Or.inl rfl)) (z1d (z0w (i:=4) sc.nd rfl (Or.inl rfl)) (z1d (z0w (i:=5) sc.nd rfl (Or.inl rfl)) z2h)))))) (@z0g _ _ _ (@z0q _ _ _ _ (@z0x _ _ _ _ _ (@z0a _ _ _ _ _ (pv 3) (@z0a _ _ _ _ _ (@z1n _ _ _ _ (@z0a _ _ _ _ _ (@z0x _ _ _ _ _ (@z0a _ _ _ _ _ (z0z clawspot hr (by rfl) z1f (@z0a _ _ _ _ _ (@z0r _ _ _ _ _ _ _ z0l (pv 0) z0c (λ _ _=>rfl)) (@z0a _ _ _ _ _ (@z0r _ _ _ _ _ _ _ z0l (pv 0) z0c (λ _ _=>rfl)) (@z0a _ _ _ _ _ (pv 1) z0e rfl) rfl) rfl)) (@z0a _ _ _ _ _ (pv 4) z0e rfl) rfl)) z0e rfl)) (@z0a _ _ _ _ _ (pv 5) z0e rfl) rfl) rfl))))) z0m) (@z0d _ _ _ _ _ (@z0t _ _ 6 _ _ _ _ sc.nd rfl (by first | exact Or.inl rfl | exact Or.inr rfl) (@x7f _ _ _ _ _ _ (hu1 hr) (@x7e _ _ _ _ _ (@z9w _ _ _ _ _ _ _ _ _ z0s z0c (@z9w _ _ _ _ _ _ _ _ _ z0s (@z6e _ _ _ _ _ _ z3k (@z0p _ _ _ _ _ _ _ _ z4h z0c z0c)) (@z9w _ _ _ _ _ _ _ _ _ z0s z0c x6w))) rfl rfl (by simp) (by decide)) (@z0r _ _ _ _ _ _ _ z0l (pv 0) z0c (λ _ _=>rfl)) (λ _ _=>rfl)) (by rfl) (by first | exact Or.inl rfl | exact Or.inr rfl)) (@z0d _ _ _ _ _ (@z0t _ _ 7 _ _ _ _ sc.nd rfl (by first | exact Or.inl rfl | exact Or.inr rfl) (@z1n _ _ _ _ z0e) (by rfl) (by first | exact Or.inl rfl | exact Or.inr rfl)) (@z0d _ _ _ _ _ (@z0t _ _ 5 _ _ _ _ sc.nd rfl (by first | exact Or.inl rfl | exact Or.inr rfl) z0c (by rfl) (by first | exact Or.inl rfl | exact Or.inr rfl)) (@z0d _ _ _ _ _ (z2g PassesOwn.never rfl (z1s (by rfl) zrange (@z0a _ _ _ _ _ (@z0r _ _ _ _ _ _ _ z0l (pv 0) z0c (λ _ _=>rfl)) z0e rfl)) (z0w (i:=8) sc.nd rfl (Or.inl rfl)) (@z0d _ _ _ _ _ (z5p (z0z clawtold hr (by rfl) z1f (@z0a _ _ _ _ _ (@z0r _ _ _ _ _ _ _ z0l (pv 0) z0c (λ _ _=>rfl)) (@z0a _ _ _ _ _ (@z0p _ _ _ _ _ _ _ _ z3v (pv 1) (@z0x _ _ _ _ _ (@z0a _ _ _ _ _ (pv 8) z0e rfl))) (@z0a _ _ _ _ _ (pv 2) z0e rfl) rfl) rfl)) (z2i (n:=3) (z3j rfl (z1d (z0w (i:=3) sc.nd rfl (Or.inl rfl)) (z1d (z0w (i:=4) sc.nd rfl (Or.inl rfl)) (z1d (z0w (i:=9) sc.nd rfl (Or.inl rfl)) z2h)))))) (@z0d _ _ _ _ _ (@z1c _ _ _ _ _ _ _ _ (@z0j _ _ _ _ _ _ _ _ z8g (pv 3) z0s (z0o _)) (@z0g _ _ _ (@z0q _ _ _ _ (@z0x _ _ _ _ _ (@z0a _ _ _ _ _ (pv 3) (@z0a _ _ _ _ _ (@z1n _ _ _ _ z0e) (@z0a _ _ _ _ _ z0c z0e rfl) rfl) rfl)))) z0m) (@z0d _ _ _ _ _ (@z0t _ _ 6 _ _ _ _ sc.nd rfl (by first | exact Or.inl rfl | exact Or.inr rfl) (z0z clawown hr (by rfl) z1f (@z0a _ _ _ _ _ (@z0r _ _ _ _ _ _ _ z0l (pv 0) z0c (λ _ _=>rfl)) (@z0a _ _ _ _ _ (pv 6) (@z0a _ _ _ _ _ (pv 4) z0e rfl) rfl) rfl)) (by rfl) (by first | exact Or.inl rfl | exact Or.inr rfl)) (@z0d _ _ _ _ _ (z1z (z5q (pv 7) (@z0x _ _ _ _ _ (@z0a _ _ _ _ _ (z0z clawspot hr (by rfl) z1f (@z0a _ _ _ _ _ (@z0r _ _ _ _ _ _ _ z0l (pv 0) z0c (λ _ _=>rfl)) (@z0a _ _ _ _ _ (@z0r _ _ _ _ _ _ _ z0l (pv 0) z0c (λ _ _=>rfl)) (@z0a _ _ _ _ _ (@z0p _ _ _ _ _ _ _ _ z3v (pv 1) (@z0x _ _ _ _ _ (@z0a _ _ _ _ _ (pv 8) z0e rfl))) z0e rfl) rfl) rfl)) (@z0a _ _ _ _ _ (pv 6) z0e rfl) rfl)))) (@z0g _ _ _ (@z0t _ _ 5 _ _ _ _ sc.nd rfl (by first | exact Or.inl rfl | exact Or.inr rfl) (@z0p _ _ _ _ _ _ _ _ z1o (@z0p _ _ _ _ _ _ _ _ z1o (pv 5) (pv 9)) z0c) (by rfl) (by first | exact Or.inl rfl | exact Or.inr rfl)))))))) (@z0g _ _ _ (@z0q _ _ _ _ (@z0x _ _ _ _ _ (@z0a _ _ _ _ _ z0s (@z0a _ _ _ _ _ (pv 7) (@z0a _ _ _ _ _ (pv 5) z0e rfl) rfl) rfl))))))))),?_⟩
 simp only [L2.start,List.length_cons,List.length_nil,List.replicate,List.cons_append,List.nil_append,Nat.reduceSub,Nat.reduceAdd,List.map_cons,List.map_nil]
 obtain ⟨sp,sq,t,h1,h2,h3,h4⟩:=hp
 rcases h4 with ⟨rn,e⟩ | ⟨w,m,rn,e⟩
 ·have pl:y9a L=0:=by unfold y9a;rw [rn]
  obtain ⟨_,_,_,_,sl,tg,dt,_⟩:=ok
  rw [pl,Nat.add_zero,← cl] at sl tg
  have er:z8c S L c=x4d (L.s0+z4s L.ss c) (evZ S L.t c):=by simp only [z8c,rn]
  rw [er] at q
  refine z0h (λ σ G=>False) (λ σ G h=>h.elim) (λ R hR=>?_)
  wp_walk using z0y,inV,eqV
  refine ⟨_,e,_,z0i (j:=0) rfl,rfl,?_⟩
  rw [if_pos rfl]
  refine z0h (λ σ G=>∃(w:Str) (v n:Int),Same H G/\x8t (evZ S L.t c) w v n/\σ=[some (.ref lp),some (.ref a),some (.ref st),some (.str w),some (.int v),some (.int n),none,none,none,none]) ?_ (λ R hR=>?_)
  rotate_left
  ·wp_walk using z1a,z0y,inV,eqV,z3r
   exact ⟨_,e,_,z0i (j:=5) rfl,t,rfl,L.t,h3,by lia,c,tg,S,hV,λ H' p w v n s' h' tz=>⟨_,h',rfl,_,_,rfl,_,_,rfl,_,_,rfl,rfl,hR _ _ ⟨w,v,n,s',tz,rfl⟩⟩⟩
  rintro σ1 G1 ⟨w,v,n,s1,tz,rfl⟩
  wp_walk using z1a,z0y,inV,eqV,z2y
  refine ⟨_,s1 _ _ e,_,z0i (j:=3) rfl,_,s1 _ _ e,_,z0i (j:=4) rfl,L.s0,rfl,sq,rfl,L.ss,s1 _ _ h2,c,s1 _ _ hV.ha,sl.symm,hV.co,λ G2 s2=>⟨small (by decide),λ x hx=>⟨small (by decide),λ l hl=>⟨small (by decide),λ p hp=>?_⟩⟩⟩⟩
  refine q _ p l [x] w [(L.s0+z4s L.ss c,v)] n (s1.trans (s2.trans ((z0b hx _).trans ((z0b hl _).trans (z0b hp _))))) ((s1.trans (s2.trans (z0b hx _))).free hl) z0f (z0b hp _ _ _ z0f) ⟨rfl,λ i r er'=>by
   match i,er' with
   | 0,er'=>cases er';exact ⟨x,rfl,z0b hp _ _ _ (z0b hl _ _ _ z0f)⟩⟩ (by simp) ?_
  rcases z4e tz with ⟨rfl,ev⟩ | ⟨_,⟨ev,rfl⟩ | ⟨ev,rfl⟩⟩<;>rw [ev]
  ·exact ⟨(λ z=>nomatch z),(λ z=>nomatch z),λ a' rows' n' z=>by cases z;exact ⟨rfl,rfl,rfl⟩⟩
  ·exact ⟨(λ _=>rfl),(λ z=>nomatch z),λ _ _ _ z=>nomatch z⟩
  ·exact ⟨(λ z=>nomatch z),(λ _=>rfl),λ _ _ _ z=>nomatch z⟩
 have pl:y9a L=1:=by unfold y9a;rw [rn]
 obtain ⟨_,sd2,_,_,sl,tg,dt,hwm⟩:=ok
 obtain ⟨hw,m3⟩:=hwm w m rn
 rw [pl,← cl] at sl tg
 have c2:c.length≤2:=by lia
 have er:z8c S L c=z8f S w L.t L.s0 L.ss c m:=by simp only [z8c,rn]
 rw [er] at q
 refine z0h (λ σ G=>G=H/\σ=[some (.ref lp),some (.ref a),some (.ref st),none,none,none,none,none,none,none]) ?_ (λ R hR=>?_)
 rotate_left
 ·wp_walk using z0y,inV,eqV
  refine ⟨_,e,_,z0i (j:=0) rfl,rfl,?_⟩
  rw [if_neg (sne (by decide +kernel))]
  exact hR _ _ ⟨rfl,rfl⟩
 rintro σ1 G1 ⟨rfl,rfl⟩
 refine z0h (λ σ G=>Same G1 G/\σ=[some (.ref lp),some (.ref a),some (.ref st),none,none,none,some (.int (y6f w)),none,none,none]) ?_ (λ R hR=>?_)
 rotate_left
 ·wp_walk using z1a,z0y,inV,eqV
  intro p hp
  have lpn:lp≠p:=λ z=>by rw [z,hp] at e;cases e
  refine ⟨[(Sum.inr (Str.ofString "add"),V.int 0),(Sum.inr (Str.ofString "max"),V.int (-9223372036854775808)),(Sum.inr (Str.ofString "xor"),V.int 0)],rfl,by simp,_,by rw [z0n lpn,z0n lpn];exact e,_,z0i (j:=1) rfl,.int (y6f w),?_,hR _ _ ⟨λ b o eb=>?_,rfl⟩⟩
  ·rw [← w4q hw]
   exact DGet.k (k:=Sum.inr w) z0f
  ·have bn:b≠p:=λ z=>by rw [z,hp] at eb;cases eb
   rw [z0n bn,z0n bn];exact eb
 rintro σ2 G2 ⟨s2,rfl⟩
 refine z0h (λ σ G=>∃wl,G2 wl=none/\Same G2 G/\G wl=some (.lst [])/\σ=[some (.ref lp),some (.ref a),some (.ref st),none,none,none,some (.int (y6f w)),some (.ref wl),none,none]) ?_ (λ R hR=>?_)
 rotate_left
 ·wp_walk using z1a,z0y,inV,eqV
  exact ⟨small (by decide),λ p hp=>hR _ _ ⟨p,hp,z0b hp _,z0f,rfl⟩⟩
 rintro σ3 G3 ⟨wl,wl0,s3,hwl,rfl⟩
 refine z0h (λ σ G=>G=G3/\σ=[some (.ref lp),some (.ref a),some (.ref st),none,none,some (.int 0),some (.int (y6f w)),some (.ref wl),none,none]) ?_ (λ R hR=>?_)
 rotate_left
 ·wp_walk using z1a,z0y,inV,eqV
  exact hR _ _ ⟨rfl,rfl⟩
 rintro σ4 G4 ⟨rfl,rfl⟩
 have nwl:∀ {b:Addr}{o:HO},G2 b=some o->b≠wl:=λ e z=>by rw [z,wl0] at e;cases e
 refine z0h (λ σ G=>∃(ac k:Int) (rows:List (Int × Int)) (ps:List Addr) (y3 y4 y8 y9:Option V),z8f S w L.t L.s0 L.ss c m=.ok ac rows k/\Same G2 G/\G wl=some (.lst (ps.map V.ref))/\RowsAt G ps rows/\σ=[some (.ref lp),some (.ref a),some (.ref st),y3,y4,some (.int k),some (.int ac),some (.ref wl),y8,y9]) ?_ (λ R hR=>?_)
 rotate_left
 ·wp_walk using z0y,inV,eqV
  refine ⟨_,(s2.trans s3) _ _ e,_,z0i (j:=4) rfl,_,rfl,by lia,by lia,?_⟩
  rw [Int.toNat_natCast]
  obtain ⟨J,hJ⟩:∃J:Nat->L2.St->Hp->Prop,J=(λ i σ G=>∃(ac k:Int) (rows:List (Int × Int)) (ps:List Addr) (y3 y4 y8 y9:Option V),i≤m/\z8f S w L.t L.s0 L.ss c i=.ok ac rows k/\Same G2 G/\G wl=some (.lst (ps.map V.ref))/\RowsAt G ps rows/\σ=[some (.ref lp),some (.ref a),some (.ref st),y3,y4,some (.int k),some (.int ac),some (.ref wl),y8,y9]):=⟨_,rfl⟩
  refine LoopR.mk J (by rw [hJ];exact ⟨_,_,[],[],_,_,_,_,Nat.zero_le _,rfl,s3,hwl,⟨rfl,λ i r e=>by simp at e⟩,rfl⟩) (λ i σ G hi h=>?_) (λ σ G h=>?_)<;>rw [hJ] at h
  ·obtain ⟨ac,k,rows,ps,y3,y4,y8,y9,im,er',sG,hG,hr,rfl⟩:=h
   simp only [z6g,List.set_cons_succ,List.set_cons_zero]
   rw [Int.zero_add]
   have s0G:=s2.trans sG
   have ri:=y0x hV.sz hw tg er'
   have cs:x8z (c++[(i:Int)]):=x1n hV.co (by lia) (by lia)
   have clen:(c++[(i:Int)]).length=c.length+1:=by rw [List.length_append];rfl
   have nx:∀z,evZ S L.t (c++[(i:Int)])=z->z8f S w L.t L.s0 L.ss c (i+1)=w3s w (L.s0+z4s L.ss (c++[(i:Int)])) ac k rows z:=λ z hz=>by simp only [z8f,er',hz]
   have mi:(i+1)+(m - (i+1))=m:=by lia
   have bad:=y2s (S:=S) (w:=w) (t:=L.t) (s0:=L.s0) (ss:=L.ss) (c:=c) (m - (i+1)) (i+1)
   rw [mi] at bad
   refine z0h (λ σ G6=>∃(w':Str) (v n:Int),x8t (evZ S L.t (c++[(i:Int)])) w' v n/\Same G G6/\σ=[some (.ref lp),some (.ref a),some (.ref st),some (.str w'),some (.int v),some (.int k),some (.int ac),some (.ref wl),some (.int (i:Int)),some (.int n)]) ?_ (λ R hR=>?_)
   rotate_left
   ·wp_walk using z1a,z0y,inV,eqV,z3r
    refine ⟨_,s0G _ _ e,_,z0i (j:=7) rfl,small (by decide),λ p1 hp1=>?_⟩
    have t1:=z0b hp1 (HO.tup [V.int (i:Int)])
    refine ⟨_,t1 _ _ (s0G _ _ hV.ha),by rw [List.length_map];exact small (by lia),λ r G4 s4 hr4=>?_⟩
    have s04:=s0G.trans (t1.trans s4)
    exact ⟨t,rfl,L.t,h3.up (.of s04),by lia,c++[(i:Int)],by rw [clen];exact tg,S,⟨by rw [hr4,List.map_append];rfl,cs,(hV.same s04).ps,hV.sz⟩,λ H' p w v n s' h' tz=>⟨_,h',rfl,_,_,rfl,_,_,rfl,_,_,rfl,rfl,hR _ _ ⟨w,v,n,tz,t1.trans (s4.trans s'),rfl⟩⟩⟩
   rintro σ6 G6 ⟨w',v,n,tz,s6,rfl⟩
   have s06:=s0G.trans s6
   refine z0h (λ σ G7=>G7=G6/\w'=Str.ofString "" /\ evZ S L.t (c++[(i:Int)])=.ok v n/\σ=[some (.ref lp),some (.ref a),some (.ref st),some (.str w'),some (.int v),some (.int k),some (.int ac),some (.ref wl),some (.int (i:Int)),some (.int n)]) ?_ (λ R hR=>?_)
   rotate_left
   ·wp_walk using z1a,z0y,inV,eqV
    rcases z4e tz with ⟨rfl,ev⟩ | ⟨nw,ev⟩
    ·rw [if_neg (λ z=>z rfl)]
     exact hR _ _ ⟨rfl,rfl,ev,rfl⟩
    ·rw [if_pos nw]
     refine ⟨small (by decide),λ l hl=>⟨small (by decide),λ p hp=>q _ p l [] w' [] 0 (s06.trans ((z0b hl _).trans (z0b hp _))) (s06.free hl) z0f (z0b hp _ _ _ z0f) ⟨rfl,λ i r e=>by simp at e⟩ (by simp) ?_⟩⟩
     rcases ev with ⟨ev,rfl⟩ | ⟨ev,rfl⟩
     ·rw [bad.1 (nx _ ev)]
      exact ⟨(λ _=>rfl),(λ z=>nomatch z),λ _ _ _ z=>nomatch z⟩
     ·rw [bad.2 (nx _ ev)]
      exact ⟨(λ z=>nomatch z),(λ _=>rfl),λ _ _ _ z=>nomatch z⟩
   rintro σ7 G7 ⟨rfl,rfl,ev,rfl⟩
   refine z0h (λ σ G8=>G8=G7/\σ=[some (.ref lp),some (.ref a),some (.ref st),some (.str (Str.ofString "")),some (.int v),some (.int k),some (.int (z1w w ac v)),some (.ref wl),some (.int (i:Int)),some (.int n)]) ?_ (λ R hR=>?_)
   rotate_left
   ·wp_walk using z1a,z0y,inV,eqV,z3g
    exact ⟨_,s06 _ _ e,_,z0i (j:=1) rfl,w,rfl,by simpa using Or.inl hw,hR _ _ ⟨rfl,rfl⟩⟩
   rintro σ8 G8 ⟨rfl,rfl⟩
   wp_walk using z1a,z0y,inV,eqV,z2y
   have hG7:=s6 _ _ hG
   refine ⟨⟨_,hG7⟩,_,s06 _ _ e,_,z0i (j:=5) rfl,_,s06 _ _ e,_,z0i (j:=6) rfl,small (by decide),λ p1 hp1=>?_⟩
   have t1:=z0b hp1 (HO.tup [V.int (i:Int)])
   refine ⟨_,t1 _ _ (s06 _ _ hV.ha),by rw [List.length_map];exact small (by lia),λ r G9 s9 hr9=>?_⟩
   have s79:=t1.trans s9
   refine ⟨L.s0,rfl,sq,rfl,L.ss,s79 _ _ (s06 _ _ h2),c++[(i:Int)],by rw [hr9,List.map_append];rfl,by rw [clen,sl],cs,λ G10 s10=>⟨small (by decide),λ x hx=>?_⟩⟩
   have s7x:=s79.trans (s10.trans (z0b hx (.tup [.int (L.s0+z4s L.ss (c++[(i:Int)])),.int (z1w w ac v)])))
   have rlen:rows.length≤3:=by rw [ri.2.1];lia
   refine ⟨_,s7x _ _ hG7,z1e (by rw [List.length_map,hr.1];lia),?_⟩
   rw [hJ]
   have ut:UpT G (upd (upd G10 x (.tup [.int (L.s0+z4s L.ss (c++[(i:Int)])),.int (z1w w ac v)])) wl (.lst (ps.map V.ref++[V.ref x]))):=λ b xs eb=>by
    rw [z0n (λ z=>by rw [z,hG] at eb;cases eb)]
    exact s7x _ _ (s6 _ _ eb)
   have xw:x≠wl:=λ z=>by rw [z,(s79.trans s10) _ _ hG7] at hx;cases hx
   refine ⟨_,k+1+n,_,ps++[x],some (.str (Str.ofString "")),some (.int v),some (.int (i:Int)),some (.int n),by lia,nx _ ev,λ b o eb=>?_,?_,(hr.up ut).snoc ?_,?_⟩
   ·rw [z0n (nwl eb)];exact s7x _ _ (s6 _ _ (sG _ _ eb))
   ·rw [z0f,List.map_append];rfl
   ·rw [z0n xw];exact z0f
   ·rw [show k+n+1=k+1+n by lia]
  ·obtain ⟨ac,k,rows,ps,y3,y4,y8,y9,_,er',sG,hG,hr,rfl⟩:=h
   exact hR _ _ ⟨ac,k,rows,ps,y3,y4,y8,y9,er',sG,hG,hr,rfl⟩
 rintro σ5 G5 ⟨ac,k,rows,ps,y3,y4,y8,y9,er',sG,hG,hr,rfl⟩
 wp_walk using z1a,z0y,inV,eqV
 have ri:=y0x hV.sz hw tg er'
 refine ⟨small (by decide),λ p hp=>q _ p wl ps _ rows k (s2.trans (sG.trans (z0b hp _))) (s2.free wl0) z0f (z0b hp _ _ _ hG) (hr.up (.of (z0b hp _))) (by rw [ri.2.1];exact m3) ?_⟩
 rw [er']
 exact ⟨(λ z=>nomatch z),(λ z=>nomatch z),λ a' rows' n' z=>by cases z;exact ⟨rfl,rfl,rfl⟩⟩
abbrev z6b:Stmt:=top 53
theorem y2m:FnScope ["loop","sides","rounds"] ["loop"] (z0k z6b):=⟨rfl,rfl,rfl,by decide +kernel,rfl,by decide +kernel,by decide +kernel⟩
theorem y2x (F:Fun K "_law_rounds" "_law_rounds" z6b f fd) (zint:mg "int"=none) (zrange:mg "range"=none) (zlen:mg "len"=none):FnOk P w K mg base CX0 (1) f fd ["loop"] (z2m):=by
 have sc:=y2m
 refine F.ok sc (λ vs H Q E h=>?_) (λ cdv A outer s H vs Q E hr h=>?_)
 ·obtain ⟨lp,L,rfl,_⟩:=h;rfl
 obtain ⟨lp,L,rfl,hp,ok,q⟩:=h
 refine ⟨_,(@z0d _ _ _ _ _ (@z0t _ _ 1 _ _ _ _ sc.nd rfl (by first | exact Or.inl rfl | exact Or.inr rfl) (@z0r _ _ _ _ _ _ _ z0l (pv 0) (@z0p _ _ _ _ _ _ _ _ z1o z0c (z1x z5v (by rfl) zint boot_int (@z0a _ _ _ _ _ (z7r z1g (@z0r _ _ _ _ _ _ _ z0l (pv 0) z0c (λ _ _=>rfl)) z0s (z0o _)) z0e rfl))) (λ _ _=>rfl)) (by rfl) (by first | exact Or.inl rfl | exact Or.inr rfl)) (@z0d _ _ _ _ _ (z5n (own:=["k"]) sc.nd (i:=2) rfl (by first | exact Or.inl rfl | exact Or.inr rfl) (by first | exact Or.inl rfl | exact Or.inr rfl) rfl (z1s (by rfl) zrange (@z0a _ _ _ _ _ (@z0r _ _ _ _ _ _ _ z0l (pv 1) z0c (λ _ _=>rfl)) z0e rfl)) (by decide) (by decide) rfl (by decide) (λ _ _ _ _=>(z0w (i:=0) (show (["k"]:List Str).Nodup by decide +kernel) rfl (Or.inl rfl))) (λ _ _ _ _=>(@z0x _ _ _ _ _ (@z0a _ _ _ _ _ (pv 0) z0e rfl)))) (@z0d _ _ _ _ _ (@z1c _ _ _ _ _ _ _ _ (@z0j _ _ _ _ _ _ _ _ z1g (z1b z0v (by rfl) zlen PySem.boot_len (@z0a _ _ _ _ _ (pv 1) z0e rfl)) z0c (z0o _)) (@z0g _ _ _ (z9v (own:=["k"]) (fv:=["sides"]) (js:=[1]) sc.nd (i:=2) rfl (by first | exact Or.inl rfl | exact Or.inr rfl) (by first | exact Or.inl rfl | exact Or.inr rfl) rfl (z1s (by rfl) zrange (@z0a _ _ _ _ _ (@z0p _ _ _ _ _ _ _ _ z3d (@z0r _ _ _ _ _ _ _ z0l (pv 1) z0c (λ _ _=>rfl)) (@z0r _ _ _ _ _ _ _ z0l (pv 1) z0c (λ _ _=>rfl))) z0e rfl)) rfl (by decide) rfl (by decide) (by first | exact λ _ _ h=>h | exact z5c rfl | exact z5b rfl rfl | exact z5a rfl rfl rfl) (z8a (by rfl)) rfl (x9c (by first | exact ⟨rfl,.inl rfl,.inl rfl⟩ | exact ⟨rfl,.inl rfl,.inr rfl⟩)) (λ _ _ _ _=>(z0w (i:=0) (show (["k","sides"]:List Str).Nodup by decide +kernel) rfl (Or.inl rfl))) (λ _ _ _ _=>(@z0x _ _ _ _ _ (@z0a _ _ _ _ _ (@z0p _ _ _ _ _ _ _ _ z1h (pv 0) (@z0r _ _ _ _ _ _ _ z0l (pv 1) z0c (λ _ _=>rfl))) (@z0a _ _ _ _ _ (@z0p _ _ _ _ _ _ _ _ z1j (pv 0) (@z0r _ _ _ _ _ _ _ z0l (pv 1) z0c (λ _ _=>rfl))) z0e rfl) rfl))))) z0m) (@z0g _ _ _ (@z0q _ _ _ _ (pv 2)))))),?_⟩
 simp only [L2.start,List.length_cons,List.length_nil,List.replicate,List.cons_append,List.nil_append,Nat.reduceSub,Nat.reduceAdd,List.map_cons,List.map_nil]
 obtain ⟨sp,sq,t,h1,h2,h3,h4⟩:=hp
 refine z0h (λ σ G=>G=H/\σ=[some (.ref lp),some (.ref sp),none]) ?_ (λ R hR=>?_)
 rotate_left
 ·wp_walk using z1a,z0y,inV,eqV
  rcases h4 with ⟨_,e⟩ | ⟨w,m,_,e⟩
  ·refine ⟨_,e,_,z0i (j:=0) rfl,rfl,.inr ⟨_,e,_,?_,hR _ _ ⟨rfl,rfl⟩⟩⟩
   rw [if_neg (sne (by decide +kernel))]
   exact z0i (j:=2) rfl
  ·refine ⟨_,e,_,z0i (j:=0) rfl,rfl,.inr ⟨_,e,_,?_,hR _ _ ⟨rfl,rfl⟩⟩⟩
   rw [if_pos rfl]
   exact z0i (j:=3) rfl
 rintro σ1 G1 ⟨rfl,rfl⟩
 have ok4:=ok.2.2.1
 have pe8:=ok.2.2.2.1
 clear h2 h3 h4
 rcases hsd:L.sd with _ | ⟨s0,_ | ⟨s1,_ | ⟨_,_⟩⟩⟩
 ·have:=ok.2.1;rw [hsd] at this;simp at this
 ·rw [hsd] at h1 ok4 pe8 q
  have b0:=ok4 s0 (by simp)
  have pr:z1t [s0]=s0:=by show 1 * s0=s0;lia
  rw [pr] at q
  refine z0h (λ σ G=>∃(l:Addr) (ps:List Addr),Same G1 G/\G l=some (.lst (ps.map V.ref))/\TupsAt G ps ((List.range s0.toNat).map λ r:Nat=>atD [s0] (r:Int))/\σ=[some (.ref lp),some (.ref sp),some (.ref l)]) ?_ (λ R hR=>?_)
  rotate_left
  ·wp_walk using z1a,z0y,inV,eqV
   refine ⟨_,h1,_,z0i (j:=0) rfl,_,rfl,by lia,by lia,?_⟩
   refine CompR.mk (λ i ys σ G=>∃qs:List Addr,ys=qs.map V.ref/\i≤s0.toNat/\Same G1 G/\TupsAt G qs ((List.range i).map λ r:Nat=>atD [s0] (r:Int))/\∃y,σ=[y]) ⟨[],rfl,Nat.zero_le _,Same.refl _,TupsAt.nil,_,rfl⟩ (λ i ys σ G hi h=>?_) (λ ys σ G h l7 h7=>?_)
   ·obtain ⟨qs,rfl,_,sG,hq,y,rfl⟩:=h
    have ql:=hq.1
    rw [List.length_map,List.length_range] at ql
    refine ⟨z1e (by rw [List.length_map];lia),?_⟩
    wp_walk using z1a,z0y,inV,eqV
    refine ⟨small (by decide),λ p' hp'=>⟨qs++[p'],by rw [List.map_append];rfl,by lia,sG.trans (z0b hp' _),?_,_,rfl⟩⟩
    rw [List.range_succ,List.map_append]
    refine (hq.up (.of (z0b hp' _))).snoc ?_
    rw [z0f,show (λ r:Nat=>atD [s0] (r:Int)) i=[(i:Int)] from x8q (by lia) (by lia),Int.zero_add];rfl
   ·obtain ⟨qs,rfl,_,sG,hq,y,rfl⟩:=h
    exact hR _ _ ⟨l7,qs,sG.trans (z0b h7 _),z0f,hq.up (.of (z0b h7 _)),rfl⟩
  rintro σ2 G2 ⟨l,ps,s2,hl,hps,rfl⟩
  wp_walk using z1a,z0y,inV,eqV
  refine ⟨_,.inr (.of (s2 _ _ h1)),?_⟩
  rw [if_neg (by simp)]
  exact q _ l ps s2 hl hps
 ·rw [hsd] at h1 ok4 pe8 q
  have b0:=ok4 s0 (by simp)
  have b1:=ok4 s1 (by simp)
  refine z0h (λ σ G=>∃l:Addr,Same G1 G/\σ=[some (.ref lp),some (.ref sp),some (.ref l)]) ?_ (λ R hR=>?_)
  rotate_left
  ·wp_walk using z1a,z0y,inV,eqV
   refine ⟨_,h1,_,z0i (j:=0) rfl,_,rfl,by lia,by lia,?_⟩
   refine CompR.mk (λ i ys σ G=>∃qs:List Addr,ys=qs.map V.ref/\qs.length=i/\i≤s0.toNat/\Same G1 G/\∃y,σ=[y]) ⟨[],rfl,rfl,Nat.zero_le _,Same.refl _,_,rfl⟩ (λ i ys σ G hi h=>?_) (λ ys σ G h l7 h7=>?_)
   ·obtain ⟨qs,rfl,ql,_,sG,y,rfl⟩:=h
    refine ⟨z1e (by rw [List.length_map];lia),?_⟩
    wp_walk using z1a,z0y,inV,eqV
    exact ⟨small (by decide),λ p' hp'=>⟨qs++[p'],by rw [List.map_append];rfl,by rw [List.length_append,ql];rfl,by lia,sG.trans (z0b hp' _),_,rfl⟩⟩
   ·obtain ⟨qs,rfl,ql,_,sG,y,rfl⟩:=h
    exact hR _ _ ⟨l7,sG.trans (z0b h7 _),rfl⟩
  rintro σ2 G2 ⟨l,s2,rfl⟩
  wp_walk using z1a,z0y,inV,eqV
  refine ⟨_,.inr (.of (s2 _ _ h1)),?_⟩
  rw [if_pos (by simp)]
  have h12:=s2 _ _ h1
  have pr:z1t [s0,s1]=s0 * s1:=by show 1 * s0 * s1=s0 * s1;rw [Int.one_mul]
  rw [pr] at q pe8
  have p0:0≤s0 * s1:=Int.mul_nonneg b0.1 b1.1
  refine ⟨_,h12,_,z0i (j:=0) rfl,_,h12,_,z0i (j:=1) rfl,_,rfl,_,rfl,.inl ⟨by lia,by lia⟩,by lia,by lia,?_⟩
  refine CompR.mk (λ i ys σ G=>∃qs:List Addr,ys=qs.map V.ref/\i≤(s0 * s1).toNat/\Same G2 G/\TupsAt G qs ((List.range i).map λ r:Nat=>atD [s0,s1] (r:Int))/\∃y,σ=[y,some (.ref sp)]) ⟨[],rfl,Nat.zero_le _,Same.refl _,TupsAt.nil,_,rfl⟩ (λ i ys σ G hi h=>?_) (λ ys σ G h l7 h7=>?_)
  ·obtain ⟨qs,rfl,_,sG,hq,y,rfl⟩:=h
   have ql:=hq.1
   rw [List.length_map,List.length_range] at ql
   have s1p:0 < s1:=by
    rcases Int.lt_or_eq_of_le b1.1 with z | z
    ·exact z
    ·rw [← z,Int.mul_zero] at hi;simp at hi
   refine ⟨z1e (by rw [List.length_map];lia),?_⟩
   wp_walk using z1a,z0y,inV,eqV
   have hG:=sG _ _ h12
   refine ⟨_,hG,_,z0i (j:=1) rfl,_,rfl,s1p,by lia,_,hG,_,z0i (j:=1) rfl,_,rfl,s1p,small (by decide),λ p' hp'=>⟨qs++[p'],by rw [List.map_append];rfl,by lia,sG.trans (z0b hp' _),?_,_,rfl⟩⟩
   rw [List.range_succ,List.map_append]
   refine (hq.up (.of (z0b hp' _))).snoc ?_
   rw [z0f,show (λ r:Nat=>atD [s0,s1] (r:Int)) i=[(i:Int) / s1,(i:Int) % s1] from x8p s1p (by lia) (by lia),Int.zero_add];rfl
  ·obtain ⟨qs,rfl,_,sG,hq,y,rfl⟩:=h
   exact q _ l7 qs (s2.trans (sG.trans (z0b h7 _))) z0f (hq.up (.of (z0b h7 _)))
 ·have:=ok.2.1;rw [hsd] at this;simp at this
abbrev y2h:Stmt:=top 54
theorem x2i:FnScope ["loops","stores","done","loop","number","word","rows","calls","store","spots","spot"] ["loops","stores","done","loop","number"] (z0k y2h):=⟨rfl,rfl,rfl,by decide +kernel,rfl,by decide +kernel,by decide +kernel⟩
theorem x2z (F:Fun K "_law_due" "_law_due" y2h f fd) (clawrounds:Callee P w K mg base CX0 (6) "_law_rounds" ["loop"] z2m) (clawround:Callee P w K mg base CX0 (6) "_law_round" ["loop","at","stores"] z9g) (zlen:mg "len"=none) (zint:mg "int"=none):FnOk P w K mg base CX0 (7) f fd ["loops","stores","done","loop","number"] (y7s):=by
 have sc:=x2i
 refine F.ok sc (λ vs H Q E h=>?_) (λ cdv A outer s H vs Q E hr h=>?_)
 ·obtain ⟨la,sa,da,scs,Ls,T,lo,r,rfl,_⟩:=h;rfl
 obtain ⟨la,sa,da,scs,Ls,T,lo,r,rfl,hE,lk,tk,q⟩:=h
 refine ⟨_,(@z0d _ _ _ _ _ (@z1c _ _ _ _ _ _ _ _ (PW.pt (z3s (@z0j _ _ _ _ _ _ _ _ z6f (pv 3) z0c (z0o _)) (z3s (@z0j _ _ _ _ _ _ _ _ y5s (pv 3) z0c (z0o _)) (z3s (@z0j _ _ _ _ _ _ _ _ z6f (pv 4) z0c (z0o _)) (z3s (@z0j _ _ _ _ _ _ _ _ y0b (pv 4) (z1b z0v (by rfl) zlen PySem.boot_len (@z0a _ _ _ _ _ (z0z clawrounds hr (by rfl) z1f (@z0a _ _ _ _ _ (@z0r _ _ _ _ _ _ _ z0u (pv 0) (pv 3) (λ _ _=>rfl)) z0e rfl)) z0e rfl)) (z0o _)) (z3i (y8t (x5h (hu1 hr) (@z0x _ _ _ _ _ (@z0a _ _ _ _ _ (pv 3) (@z0a _ _ _ _ _ (pv 4) z0e rfl) rfl)) (pv 2)) rfl))))))) (@z0g _ _ _ (@z0q _ _ _ _ (@z0x _ _ _ _ _ (@z0a _ _ _ _ _ z0s (@z0a _ _ _ _ _ (@z1n _ _ _ _ z0e) (@z0a _ _ _ _ _ z0c z0e rfl) rfl) rfl)))) z0m) (@z0d _ _ _ _ _ (z5p (z0z clawround hr (by rfl) z1f (@z0a _ _ _ _ _ (@z0r _ _ _ _ _ _ _ z0u (pv 0) (pv 3) (λ _ _=>rfl)) (@z0a _ _ _ _ _ (@z0r _ _ _ _ _ _ _ z0u (z0z clawrounds hr (by rfl) z1f (@z0a _ _ _ _ _ (@z0r _ _ _ _ _ _ _ z0u (pv 0) (pv 3) (λ _ _=>rfl)) z0e rfl)) (pv 4) (λ _ _=>rfl)) (@z0a _ _ _ _ _ (pv 1) z0e rfl) rfl) rfl)) (z2i (n:=3) (z3j rfl (z1d (z0w (i:=5) sc.nd rfl (Or.inl rfl)) (z1d (z0w (i:=6) sc.nd rfl (Or.inl rfl)) (z1d (z0w (i:=7) sc.nd rfl (Or.inl rfl)) z2h)))))) (@z0d _ _ _ _ _ (@z0t _ _ 8 _ _ _ _ sc.nd rfl (by first | exact Or.inl rfl | exact Or.inr rfl) (@z0r _ _ _ _ _ _ _ z0u (pv 1) (@z0r _ _ _ _ _ _ _ z0l (@z0r _ _ _ _ _ _ _ z0u (pv 0) (pv 3) (λ _ _=>rfl)) (@z0p _ _ _ _ _ _ _ _ z1o z0c (z1x z5v (by rfl) zint boot_int (@z0a _ _ _ _ _ (z7r z1g (@z0r _ _ _ _ _ _ _ z0l (@z0r _ _ _ _ _ _ _ z0u (pv 0) (pv 3) (λ _ _=>rfl)) z0c (λ _ _=>rfl)) z0s (z0o _)) z0e rfl))) (λ _ _=>rfl)) (λ _ _=>rfl)) (by rfl) (by first | exact Or.inl rfl | exact Or.inr rfl)) (@z0d _ _ _ _ _ (z5n (own:=["row"]) sc.nd (i:=9) rfl (by first | exact Or.inl rfl | exact Or.inr rfl) (by first | exact Or.inl rfl | exact Or.inr rfl) rfl (z3t (pv 6)) (by decide) (by decide) rfl (by decide) (λ _ _ _ _=>(z0w (i:=0) (show (["row"]:List Str).Nodup by decide +kernel) rfl (Or.inl rfl))) (λ _ _ _ _=>(@z0r _ _ _ _ _ _ _ z0l (pv 0) z0c (λ _ _=>rfl)))) (@z0d _ _ _ _ _ (@z1c _ _ _ _ _ _ _ _ (@z0j _ _ _ _ _ _ _ _ z1g (pv 5) z0s (z0o _)) (@z0g _ _ _ (z2g PassesOwn.never rfl (z3t (pv 9)) (z0w (i:=10) sc.nd rfl (Or.inl rfl)) (@z0g _ _ _ (@z1c _ _ _ _ _ _ _ _ (PW.pt (z3s (@z0j _ _ _ _ _ _ _ _ z6f (pv 10) z0c (z0o _)) (z3s (@z0j _ _ _ _ _ _ _ _ y0b (pv 10) (z1b z0v (by rfl) zlen PySem.boot_len (@z0a _ _ _ _ _ (pv 8) z0e rfl)) (z0o _)) (z3s (@z0j _ _ _ _ _ _ _ _ y9j (@z0r _ _ _ _ _ _ _ z0u (pv 8) (pv 10) (λ _ _=>rfl)) z8o (z0o _)) (z3i (@z0j _ _ _ _ _ _ _ _ y5s (w1d PySem.F.plainAttrs_list PySem.F.slot_list_count PySem.F.type_list_count y9x (pv 9) (@z0a _ _ _ _ _ (pv 10) z0e rfl)) z0c (z0o _))))))) (@z0g _ _ _ (@z0t _ _ 5 _ _ _ _ sc.nd rfl (by first | exact Or.inl rfl | exact Or.inr rfl) z0s (by rfl) (by first | exact Or.inl rfl | exact Or.inr rfl))) z0m)))) z0m) (@z0g _ _ _ (@z0q _ _ _ _ (@z0x _ _ _ _ _ (@z0a _ _ _ _ _ (pv 5) (@z0a _ _ _ _ _ (pv 6) (@z0a _ _ _ _ _ (pv 7) z0e rfl) rfl) rfl))))))))),?_⟩
 simp only [L2.start,List.length_cons,List.length_nil,List.replicate,List.cons_append,List.nil_append,Nat.reduceSub,Nat.reduceAdd,List.map_cons,List.map_nil]
 obtain ⟨las,hla,hls⟩:=hE.hla
 have noneR:∀ {G:Hp}{p l:Addr},doZ Ls T lo r=.none->Same H G->(hl:G l=none)->(hp:upd G l (.lst []) p=none)->Q (.ref p) (upd (upd G l (.lst [])) p (.tup [.str (Str.ofString "none"),.ref l,.int 0])):=λ {G p l} e s hl hp=>q _ p l [] _ [] 0 (s.trans ((z0b hl _).trans (z0b hp _))) (s.free hl) z0f (z0b hp _ _ _ z0f) ⟨rfl,λ i r e=>by simp at e⟩ (by rw [e];exact x4g rfl)
 refine z0h (λ σ G=>∃(lo' k:Nat),lo=(lo':Int)/\r=(k:Int)/\lo' < 3/\(∀L,Ls[lo']?=some L->(k:Int) < z1t L.sd)/\(lo',k) ∉ T.D/\Same H G/\σ=[some (.ref la),some (.ref sa),some (.ref da),some (.int lo),some (.int r),none,none,none,none,none,none]) ?_ (λ R hR=>?_)
 rotate_left
 ·wp_walk using z1a,z0y,inV,eqV,z2m
  by_cases c1:lo < 0
  ·rw [if_pos c1]
   exact ⟨small (by decide),λ l hl=>⟨small (by decide),λ p hp=>noneR (by unfold doZ;rw [if_pos (.inl c1)]) (Same.refl _) hl hp⟩⟩
  rw [if_neg c1]
  by_cases c2:lo > 2
  ·rw [if_pos c2]
   refine ⟨small (by decide),λ l hl=>⟨small (by decide),λ p hp=>noneR ?_ (Same.refl _) hl hp⟩⟩
   unfold doZ
   split
   ·rfl
   ·rw [List.getElem?_eq_none (by rw [lk.ll];lia)]
  rw [if_neg c2]
  by_cases c3:r < 0
  ·rw [if_pos c3]
   exact ⟨small (by decide),λ l hl=>⟨small (by decide),λ p hp=>noneR (by unfold doZ;rw [if_pos (.inr c3)]) (Same.refl _) hl hp⟩⟩
  rw [if_neg c3]
  obtain ⟨lo',rfl⟩:∃k:Nat,lo=(k:Int):=⟨lo.toNat,by lia⟩
  obtain ⟨k,rfl⟩:∃k:Nat,r=(k:Int):=⟨r.toNat,by lia⟩
  have lo3:lo' < 3:=by lia
  obtain ⟨L,eL⟩:∃L,Ls[lo']?=some L:=⟨_,List.getElem?_eq_getElem (by rw [lk.ll];exact lo3)⟩
  obtain ⟨lp,elp,hlp⟩:=hls.2 lo' L eL
  have ok:=lk.lk L (List.mem_of_getElem? eL)
  refine ⟨_,hla,_,z0i (j:=lo') (v:=.ref lp) (by rw [List.getElem?_map,elp];rfl),lp,rfl,L,hlp,ok,λ G1 l1 ps1 s1 hl1 hp1=>⟨_,.inl (.of hl1),?_⟩⟩
  have p0:0≤z1t L.sd:=y8x λ n hn=>(ok.sd n hn).1
  have pl:ps1.length=(z1t L.sd).toNat:=by rw [hp1.1,List.length_map,List.length_range]
  rw [List.length_map,pl]
  by_cases c4:(((z1t L.sd).toNat:Nat):Int)≤(k:Int)
  ·rw [if_pos c4]
   exact ⟨small (by decide),λ l hl=>⟨small (by decide),λ p hp=>noneR (by rw [z6h eL,if_pos (.inl (by lia))]) s1 hl hp⟩⟩
  rw [if_neg c4]
  refine ⟨small (by decide),λ p2 h2=>⟨_,DGet.t (k:=[Sum.inl (lo':Int),Sum.inl (k:Int)]) (z0b h2 _ _ _ (s1 _ _ hE.hda)) z0f,?_⟩⟩
  rw [z6r (lo',k)]
  by_cases c:(lo',k)∈T.D
  ·rw [if_pos c,if_pos (show (some (V.bl true)).isSome=true from rfl)]
   exact ⟨small (by decide),λ l hl=>⟨small (by decide),λ p hp=>noneR (by rw [z6h eL,if_pos (.inr c)]) (s1.trans (z0b h2 _)) hl hp⟩⟩
  ·rw [if_neg c,if_neg (show ¬(none:Option V).isSome=true by decide)]
   exact hR _ _ ⟨lo',k,rfl,rfl,lo3,λ L' e'=>by rw [eL] at e';cases e';lia,c,s1.trans (z0b h2 _),rfl⟩
 rintro σ1 G1 ⟨lo,k,rfl,rfl,lo3,hk,nk,s1,rfl⟩
 clear noneR
 obtain ⟨L,eL⟩:∃L,Ls[lo]?=some L:=⟨_,List.getElem?_eq_getElem (by rw [lk.ll];exact lo3)⟩
 obtain ⟨lp,elp,hlp⟩:=hls.2 lo L eL
 have ok:=lk.lk L (List.mem_of_getElem? eL)
 have hk:=hk L eL
 rw [z6h eL,if_neg (λ z=>z.elim (λ z=>by lia) nk)] at q
 have ela:atI (las.map V.ref) (lo:Int)=some (.ref lp):=z0i (j:=lo) (v:=V.ref lp) (by rw [List.getElem?_map,elp];rfl)
 refine z0h (λ σ G=>∃(l:Addr) (ps:List Addr) (w:Str) (rows:List (Int × Int)) (n:Int),Same G1 G/\G1 l=none/\G l=some (.lst (ps.map V.ref))/\RowsAt G ps rows/\rows.length≤3/\w6e (z8c T.S L (atD L.sd k)) w rows n/\σ=[some (.ref la),some (.ref sa),some (.ref da),some (.int (lo:Int)),some (.int (k:Int)),some (.str w),some (.ref l),some (.int n),none,none,none]) ?_ (λ R hR=>?_)
 rotate_left
 ·wp_walk using z1a,z0y,inV,eqV,z9g,z2m
  refine ⟨_,s1 _ _ hla,_,ela,_,s1 _ _ hla,_,ela,lp,rfl,L,hlp.up (.of s1),ok,λ G2 l2 ps2 s2 hl2 hp2=>?_⟩
  obtain ⟨pa,epa,hpa⟩:=hp2.2 k (atD L.sd k) (by rw [List.getElem?_map,List.getElem?_range (by lia)];rfl)
  have s12:=s1.trans s2
  refine ⟨_,hl2,_,z0i (j:=k) (v:=.ref pa) (by rw [List.getElem?_map,epa];rfl),lp,rfl,pa,rfl,L,hlp.up (.of s12),ok,_,y3u L.sd k,T.S,⟨hpa,w2p ok hk,⟨scs,s12 _ _ hE.hsa,hE.hss.same s12⟩,tk.sz⟩,λ G3 p3 l3 ps3 w rows n s3 l30 h3 hl3 hr3 r3 rz=>⟨_,h3,rfl,_,_,rfl,_,_,rfl,_,_,rfl,rfl,hR _ _ ⟨l3,ps3,w,rows,n,s2.trans s3,s2.free l30,hl3,hr3,r3,rz,rfl⟩⟩⟩
 rintro σ2 G2 ⟨l,ps,w,rows,n,s2,l0,hl,hr,r3,rz,rfl⟩
 have s12:=s1.trans s2
 have st3:L.st < T.S.length:=by rw [tk.sz.1];have:=ok.1;lia
 obtain ⟨ca,eca,hca⟩:=hE.hss.2 L.st _ (List.getElem?_eq_getElem st3)
 have eS:T.S.getD L.st []=T.S[L.st]:=by rw [List.getD_eq_getElem?_getD,List.getElem?_eq_getElem st3];rfl
 rw [← eS] at hca
 generalize T.S.getD L.st []=rS at *
 refine z0h (λ σ G=>G=G2/\σ=[some (.ref la),some (.ref sa),some (.ref da),some (.int (lo:Int)),some (.int (k:Int)),some (.str w),some (.ref l),some (.int n),some (.ref ca),none,none]) ?_ (λ R hR=>?_)
 rotate_left
 ·wp_walk using z1a,z0y,inV,eqV
  have hla2:=s12 _ _ hla
  have ecs:atI (scs.map V.ref) (L.st:Int)=some (.ref ca):=z0i (j:=L.st) (v:=V.ref ca) (by rw [List.getElem?_map,eca];rfl)
  obtain ⟨sp,sq,t,h1,h2,h3,h4⟩:=hlp.up (.of s12)
  rcases h4 with ⟨_,e⟩ | ⟨w',m,_,e⟩
  ·refine ⟨_,hla2,_,ela,_,hla2,_,ela,lp,rfl,_,e,_,z0i (j:=0) rfl,rfl,.inr ⟨lp,rfl,_,e,.int (L.st:Int),?_,_,_,rfl,s12 _ _ hE.hsa,_,ecs,hR _ _ ⟨rfl,rfl⟩⟩⟩
   rw [if_neg (sne (by decide +kernel))]
   exact z0i (j:=1) rfl
  ·refine ⟨_,hla2,_,ela,_,hla2,_,ela,lp,rfl,_,e,_,z0i (j:=0) rfl,rfl,.inr ⟨lp,rfl,_,e,.int (L.st:Int),?_,_,_,rfl,s12 _ _ hE.hsa,_,ecs,hR _ _ ⟨rfl,rfl⟩⟩⟩
   rw [if_pos rfl]
   exact z0i (j:=2) rfl
 rintro σ3 G3 ⟨rfl,rfl⟩
 refine z0h (λ σ G=>∃sl,Same G3 G/\G sl=some (.lst ((rows.map (·.1)).map V.int))/\σ=[some (.ref la),some (.ref sa),some (.ref da),some (.int (lo:Int)),some (.int (k:Int)),some (.str w),some (.ref l),some (.int n),some (.ref ca),some (.ref sl),none]) ?_ (λ R hR=>?_)
 rotate_left
 ·wp_walk using z1a,z0y,inV,eqV
  refine CompL.mk (xs:=ps.map V.ref) (.of hl) (λ i ys σ G=>G=G3/\ys=((rows.map (·.1)).take i).map V.int/\∃y,σ=[y]) ⟨rfl,rfl,_,rfl⟩ (λ i ys σ G _ h=>by rw [h.1];exact .of hl) (λ i x ys σ G ex h=>?_) (λ ys σ G h l7 h7=>?_)
  ·obtain ⟨rfl,rfl,y,rfl⟩:=h
   have il:i < rows.length:=by have:=(List.getElem?_eq_some_iff.mp ex).1;rwa [List.length_map,hr.1] at this
   have e1:rows[i]?=some rows[i]:=List.getElem?_eq_getElem il
   obtain ⟨p,ep,hp⟩:=hr.2 i _ e1
   rw [List.getElem?_map,ep] at ex
   cases ex
   refine ⟨small (by rw [List.length_map,List.length_take,List.length_map];lia),?_⟩
   wp_walk using z1a,z0y,inV,eqV
   refine ⟨_,hp,_,z0i (j:=0) rfl,?_,_,rfl⟩
   rw [List.take_add_one,List.getElem?_map,e1,List.map_append];rfl
  ·obtain ⟨rfl,rfl,y,rfl⟩:=h
   rw [List.length_map,hr.1,List.take_of_length_le (by rw [List.length_map];exact Nat.le_refl _)]
   exact hR _ _ ⟨l7,z0b h7 _,z0f,rfl⟩
 rintro σ4 G4 ⟨sl,s4,hsl,rfl⟩
 have hca4:=(s12.trans s4) _ _ hca
 refine z0h (λ σ G=>∃(w':Str) (y:Option V),G=G4/\w3d (y5q rS (z8c T.S L (atD L.sd k))) w' rows n/\σ=[some (.ref la),some (.ref sa),some (.ref da),some (.int (lo:Int)),some (.int (k:Int)),some (.str w'),some (.ref l),some (.int n),some (.ref ca),some (.ref sl),y]) ?_ (λ R hR=>?_)
 rotate_left
 ·wp_walk using z0y,inV,eqV
  cases er:z8c T.S L (atD L.sd k) with
  | wait =>
   rw [er] at rz
   cases rz.1 rfl
   rw [if_neg (by decide +kernel)]
   exact hR _ _ ⟨_,_,rfl,by rw [er];exact ⟨(λ z=>nomatch z),(λ _=>rfl),(λ z=>nomatch z),λ _ _ z=>nomatch z⟩,rfl⟩
  | stuck =>
   rw [er] at rz
   cases rz.2.1 rfl
   rw [if_neg (by decide +kernel)]
   exact hR _ _ ⟨_,_,rfl,by rw [er];exact ⟨(λ z=>nomatch z),(λ z=>nomatch z),(λ _=>rfl),λ _ _ z=>nomatch z⟩,rfl⟩
  | ok ac rows' n' =>
   rw [er] at rz
   obtain ⟨rfl,rfl,rfl⟩:=rz.2.2 ac rows' n' rfl
   rw [if_pos rfl]
   generalize hsp:rows.map (·.1)=sp at *
   obtain ⟨J,hJ⟩:∃J:Nat->L2.St->Hp->Prop,J=(λ i σ G=>∃(w':Str) (y:Option V),G=G4/\((w'=Str.ofString "" /\ ∀s∈sp.take i,¬w2s rS sp s)\/(w'=Str.ofString "stuck" /\ ∃s∈sp,w2s rS sp s))/\σ=[some (.ref la),some (.ref sa),some (.ref da),some (.int (lo:Int)),some (.int (k:Int)),some (.str w'),some (.ref l),some (.int n),some (.ref ca),some (.ref sl),y]):=⟨_,rfl⟩
   refine LoopL.mk (xs:=sp.map V.int) (.of hsl) J (by rw [hJ];exact ⟨_,_,rfl,.inl ⟨rfl,λ s hs=>nomatch hs⟩,rfl⟩) (λ i σ G _ h=>by rw [hJ] at h;obtain ⟨_,_,rfl,_⟩:=h;exact .of hsl) (λ i x σ G ex h=>?_) (λ σ G h=>?_)<;>rw [hJ] at h
   ·obtain ⟨w',y,rfl,hw',rfl⟩:=h
    obtain ⟨s,rfl,es⟩:=z6m ex
    have sm:=List.mem_of_getElem? es
    have bad:w2s rS sp s->J (i+1) [some (.ref la),some (.ref sa),some (.ref da),some (.int (lo:Int)),some (.int (k:Int)),some (.str (Str.ofString "stuck")),some (.ref l),some (.int n),some (.ref ca),some (.ref sl),some (.int s)] G:=λ b=>by
     rw [hJ];exact ⟨_,_,rfl,.inr ⟨rfl,s,sm,b⟩,rfl⟩
    wp_walk using z1a,z0y
    by_cases c1:s < 0
    ·rw [if_pos c1];exact bad (.inl c1)
    rw [if_neg c1]
    refine ⟨_,.inl (.of hca4),?_⟩
    rw [List.length_map]
    by_cases c2:(rS.length:Int)≤s
    ·rw [if_pos c2];exact bad (.inr (.inl c2))
    rw [if_neg c2]
    refine ⟨_,hca4,_,z6w (by lia) (by lia),?_⟩
    cases en:rS.getD s.toNat none with
    | some v =>
     rw [if_pos (show ¬cV (some v)=V.non from λ z=>by cases z)]
     exact bad (.inr (.inr (.inl (by rw [en];intro z;cases z))))
    | none =>
     rw [if_neg (show ¬ ¬cV none=V.non from λ z=>z rfl)]
     refine ⟨.inl ⟨_,.of hsl⟩,_,.of hsl,z4j _,?_⟩
     rw [x1o]
     by_cases c4:(1:Int) < (sp.count s:Nat)
     ·rw [if_pos c4];exact bad (.inr (.inr (.inr (by lia))))
     ·rw [if_neg c4]
      rw [hJ]
      refine ⟨w',_,rfl,hw'.imp (λ ⟨a,b⟩=>⟨a,λ s' hs'=>?_⟩) id,rfl⟩
      rw [List.take_add_one,es] at hs'
      rcases List.mem_append.mp hs' with z | z
      ·exact b s' z
      ·cases List.mem_singleton.mp z
       intro z
       rcases z with z | z | z | z
       ·exact c1 z
       ·exact c2 z
       ·exact z en
       ·lia
   ·obtain ⟨w',y,rfl,hw',rfl⟩:=h
    rw [List.length_map,List.take_length] at hw'
    refine hR _ _ ⟨w',y,rfl,?_,rfl⟩
    rw [er,y4a,hsp]
    rcases hw' with ⟨rfl,g⟩ | ⟨rfl,s,sm,b⟩
    ·rw [if_pos (okW_iff.mpr g)]
     exact ⟨(λ z=>nomatch z),(λ z=>nomatch z),(λ z=>nomatch z),λ rows' n' z=>by cases z;exact ⟨rfl,rfl,rfl⟩⟩
    ·rw [if_neg (λ z=>okW_iff.mp z s sm b)]
     exact ⟨(λ z=>nomatch z),(λ z=>nomatch z),(λ _=>rfl),λ _ _ z=>nomatch z⟩
 rintro σ5 G5 ⟨w',y,rfl,dz,rfl⟩
 wp_walk using z1a,z0y,inV,eqV
 exact ⟨small (by decide),λ p hp=>q _ p l ps w' rows n (s12.trans (s4.trans (z0b hp _))) (s1.free l0) z0f (z0b hp _ _ _ (s4 _ _ hl)) (hr.up (.of (s4.trans (z0b hp _)))) dz⟩
abbrev z7o:Stmt:=top 55
theorem y5o:FnScope ["bench","loop","number","told","e"] ["bench","loop","number"] (z0k z7o):=⟨rfl,rfl,rfl,by decide +kernel,rfl,by decide +kernel,by decide +kernel⟩
theorem y6d (F:Fun K "_law_asked" "_law_asked" z7o f fd) {CBench:Addr}(nBench:W.nsIn K mainGlobals "Bench"=some (some (.ref CBench))) {CNoRound:Addr}(nNoRound:W.nsIn K mainGlobals "NoRound"=some (some (.ref CNoRound))) {CNotReady:Addr}(nNotReady:W.nsIn K mainGlobals "NotReady"=some (some (.ref CNotReady))) {CStuck:Addr}(nStuck:W.nsIn K mainGlobals "Stuck"=some (some (.ref CStuck))) {CNotDone:Addr}(nNotDone:W.nsIn K mainGlobals "NotDone"=some (some (.ref CNotDone))) {CUnlike:Addr}(nUnlike:W.nsIn K mainGlobals "Unlike"=some (some (.ref CUnlike))) (cBenchdo:CalM P w K mg base (CX1 P w) 10 CBench "do" ["self","loop","round_at"] (x6c CBench CNoRound CNotReady CStuck)) (zisinstance:mg "isinstance"=none) (BC:BenCls K CBench) (kxR:ExcK K CNoRound) (kxN:ExcK K CNotReady) (kxS:ExcK K CStuck) (kR:W.kitAny K (.ref CNoRound) ([CNotReady,CStuck,CNotDone,CUnlike].map Value.ref)=some false) (kN:W.kitAny K (.ref CNotReady) ([CNoRound,CStuck,CNotDone,CUnlike].map Value.ref)=some false) (kS:W.kitAny K (.ref CStuck) ([CNoRound,CNotReady,CNotDone,CUnlike].map Value.ref)=some false) (eRR:W.exmOne K (.ref CNoRound) (.ref CNoRound)=some true) (eNR:W.exmOne K (.ref CNotReady) (.ref CNoRound)=some false) (eNN:W.exmOne K (.ref CNotReady) (.ref CNotReady)=some true) (eSR:W.exmOne K (.ref CStuck) (.ref CNoRound)=some false) (eSN:W.exmOne K (.ref CStuck) (.ref CNotReady)=some false) (eSS:W.exmOne K (.ref CStuck) (.ref CStuck)=some true):FnOk P w K mg base CX0 (11) f fd ["bench","loop","number"] ((z9j CBench)):=by
 have sc:=y5o
 refine F.ok sc (λ vs H Q E h=>?_) (λ cdv A outer s H vs Q E hr h=>?_)
 ·obtain ⟨b,A,Ls,T,lo,r,rfl,_⟩:=h;rfl
 obtain ⟨b,A,Ls,T,lo,r,rfl,hb,qn,qw,qs,qo⟩:=h
 refine ⟨_,(z0d (z0t (i:=3) sc.nd rfl (by first | exact Or.inl rfl | exact Or.inr rfl) (z1n (z0a z0s z0e))) (z0d (x6v ⟨rfl,rfl⟩ rfl sc.nd (λ xe pn EE hx=>(z0g (z0t (i:=3) sc.nd rfl (by first | exact Or.inl rfl | exact Or.inr rfl) (z1n (z0a (x7b BC.cl cBenchdo hr hx (pv 0) (z0a (pv 1) (z0a (pv 2) z0e))) z0e))))) (.cons (i:=4) rfl rfl (by rfl) nNoRound (λ ae pn=>(z0g (z0t (i:=3) sc.nd rfl (by first | exact Or.inl rfl | exact Or.inr rfl) (z1n (z0a z0s (z0a (z1b (z6i kxR kR) (by rfl) zisinstance boot_isinstance (z0a (pv 4) (z0a (z0x (z0a (z3z (by rfl) nNotReady) (z0a (z3z (by rfl) nStuck) (z0a (z3z (by rfl) nNotDone) (z0a (z3z (by rfl) nUnlike) z0e))))) z0e))) z0e)))))) (.cons (i:=4) rfl rfl (by rfl) nNotReady (λ ae pn=>(z0g (z0t (i:=3) sc.nd rfl (by first | exact Or.inl rfl | exact Or.inr rfl) (z1n (z0a z0s (z0a (z1b (z6i kxN kN) (by rfl) zisinstance boot_isinstance (z0a (pv 4) (z0a (z0x (z0a (z3z (by rfl) nNoRound) (z0a (z3z (by rfl) nStuck) (z0a (z3z (by rfl) nNotDone) (z0a (z3z (by rfl) nUnlike) z0e))))) z0e))) z0e)))))) (.cons (i:=4) rfl rfl (by rfl) nStuck (λ ae pn=>(z0g (z0t (i:=3) sc.nd rfl (by first | exact Or.inl rfl | exact Or.inr rfl) (z1n (z0a z0s (z0a (z1b (z6i kxS kS) (by rfl) zisinstance boot_isinstance (z0a (pv 4) (z0a (z0x (z0a (z3z (by rfl) nNoRound) (z0a (z3z (by rfl) nNotReady) (z0a (z3z (by rfl) nNotDone) (z0a (z3z (by rfl) nUnlike) z0e))))) z0e))) z0e)))))) .nil (by decide)) (by decide)) (by decide))) (z0g (z0q (pv 3))))),?_⟩
 wp_walk using z1a,z0y,inV,eqV,x6c
 refine ⟨small (by decide),λ p hp=>⟨_,_,z0b hp _ _ _ hb.hb,rfl,A,Ls,T,hb.same (z0b hp _),λ e H1 s1=>?_,λ e H1 s1=>?_,λ e H1 s1=>?_,λ rows c L e eL H1 k1 hb1=>?_⟩⟩
 ·exact ⟨_,rfl,.inl ⟨eRR,λ a ha=>⟨small (by decide),λ p1 hp1=>⟨z0b hp1 _ _ _ z0f,small (by decide),λ p2 hp2=>qn e _ p2 ((z0b hp _).trans (s1.trans ((z0b ha _).trans ((z0b hp1 _).trans (z0b hp2 _))))) z0f⟩⟩⟩⟩
 ·exact ⟨_,rfl,.inr ⟨eNR,.inl ⟨eNN,λ a ha=>⟨small (by decide),λ p1 hp1=>⟨z0b hp1 _ _ _ z0f,small (by decide),λ p2 hp2=>qw e _ p2 ((z0b hp _).trans (s1.trans ((z0b ha _).trans ((z0b hp1 _).trans (z0b hp2 _))))) z0f⟩⟩⟩⟩⟩
 ·exact ⟨_,rfl,.inr ⟨eSR,.inr ⟨eSN,.inl ⟨eSS,λ a ha=>⟨small (by decide),λ p1 hp1=>⟨z0b hp1 _ _ _ z0f,small (by decide),λ p2 hp2=>qs e _ p2 ((z0b hp _).trans (s1.trans ((z0b ha _).trans ((z0b hp1 _).trans (z0b hp2 _))))) z0f⟩⟩⟩⟩⟩⟩
 ·exact ⟨small (by decide),λ p1 hp1=>qo rows c L e eL _ p1 (λ a o n1 n2 n3 n4 e=>z0b hp1 _ _ _ (k1 a o n1 n2 n3 n4 (z0b hp _ _ _ e))) (hb1.same (z0b hp1 _)) z0f⟩
abbrev z6c:Stmt:=top 56
theorem y2n:FnScope ["loops","n","loop","number"] ["loops","n"] (z0k z6c):=⟨rfl,rfl,rfl,by decide +kernel,rfl,by decide +kernel,by decide +kernel⟩
theorem y2y (F:Fun K "_law_picked" "_law_picked" z6c f fd) (clawrounds:Callee P w K mg base CX0 (1) "_law_rounds" ["loop"] z2m) (zlen:mg "len"=none):FnOk P w K mg base CX0 (2) f fd ["loops","n"] (z7f):=by
 have sc:=y2n
 refine F.ok sc (λ vs H Q E h=>?_) (λ cdv A outer s H vs Q E hr h=>?_)
 ·obtain ⟨la,las,Ls,n,rfl,_⟩:=h;rfl
 obtain ⟨la,las,Ls,n,rfl,hla,hls,lk,q⟩:=h
 refine ⟨_,(@z0d _ _ _ _ _ (@z0t _ _ 2 _ _ _ _ sc.nd rfl (by first | exact Or.inl rfl | exact Or.inr rfl) (@z0p _ _ _ _ _ _ _ _ z1j (pv 1) z0c) (by rfl) (by first | exact Or.inl rfl | exact Or.inr rfl)) (@z0d _ _ _ _ _ (@z0t _ _ 3 _ _ _ _ sc.nd rfl (by first | exact Or.inl rfl | exact Or.inr rfl) (@z0p _ _ _ _ _ _ _ _ z1j (@z0p _ _ _ _ _ _ _ _ z1h (pv 1) z0c) (@z0p _ _ _ _ _ _ _ _ z1o (z1b z0v (by rfl) zlen PySem.boot_len (@z0a _ _ _ _ _ (z0z clawrounds hr (by rfl) z1f (@z0a _ _ _ _ _ (@z0r _ _ _ _ _ _ _ z0u (pv 0) (pv 2) (λ _ _=>rfl)) z0e rfl)) z0e rfl)) z0c)) (by rfl) (by first | exact Or.inl rfl | exact Or.inr rfl)) (@z0d _ _ _ _ _ (@z1c _ _ _ _ _ _ _ _ (@z0j _ _ _ _ _ _ _ _ z1g (@z0p _ _ _ _ _ _ _ _ z1j (@z0p _ _ _ _ _ _ _ _ z1h (pv 1) z0c) z0c) z0c (z0o _)) (@z0g _ _ _ (@z0t _ _ 2 _ _ _ _ sc.nd rfl (by first | exact Or.inl rfl | exact Or.inr rfl) (@z0r _ _ _ _ _ _ _ z0u (@z1n _ _ _ _ (@z0a _ _ _ _ _ (@z6e _ _ _ _ _ _ z3k z0c) (@z0a _ _ _ _ _ z0c (@z0a _ _ _ _ _ (@z6e _ _ _ _ _ _ z3k z0c) (@z0a _ _ _ _ _ z0c z0e rfl) rfl) rfl) rfl)) (@z0p _ _ _ _ _ _ _ _ z1j (@z0p _ _ _ _ _ _ _ _ z1h (pv 1) z0c) z0c) (λ _ _=>rfl)) (by rfl) (by first | exact Or.inl rfl | exact Or.inr rfl))) z0m) (@z0d _ _ _ _ _ (@z1c _ _ _ _ _ _ _ _ (@z0j _ _ _ _ _ _ _ _ z1g (@z0p _ _ _ _ _ _ _ _ z1j (@z0p _ _ _ _ _ _ _ _ z1h (pv 1) z0c) z0c) z0c (z0o _)) (@z0g _ _ _ (@z0t _ _ 3 _ _ _ _ sc.nd rfl (by first | exact Or.inl rfl | exact Or.inr rfl) (@z0p _ _ _ _ _ _ _ _ z4a (@z6e _ _ _ _ _ _ z3k z0c) (@z0p _ _ _ _ _ _ _ _ z1j (@z0p _ _ _ _ _ _ _ _ z1h (pv 1) z0c) z0c)) (by rfl) (by first | exact Or.inl rfl | exact Or.inr rfl))) z0m) (@z0g _ _ _ (@z0q _ _ _ _ (@z0x _ _ _ _ _ (@z0a _ _ _ _ _ (pv 2) (@z0a _ _ _ _ _ (pv 3) z0e rfl) rfl)))))))),?_⟩
 simp only [L2.start,List.length_cons,List.length_nil,List.replicate,List.cons_append,List.nil_append,Nat.reduceSub,Nat.reduceAdd,List.map_cons,List.map_nil]
 refine z0h (λ σ G=>G=H/\σ=[some (.ref la),some (.int n),some (.int (n % 3)),none]) ?_ (λ R hR=>?_)
 rotate_left
 ·wp_walk using z1a,z0y,inV,eqV
  exact hR _ _ ⟨rfl,rfl⟩
 rintro σ1 G1 ⟨rfl,rfl⟩
 obtain ⟨lo,elo,lo3⟩:∃lo:Nat,n % 3=(lo:Int)/\lo < 3:=⟨(n % 3).toNat,by lia,by lia⟩
 obtain ⟨L,eL⟩:∃L,Ls[lo]?=some L:=⟨_,List.getElem?_eq_getElem (by rw [lk.ll];exact lo3)⟩
 obtain ⟨lp,elp,hlp⟩:=hls.2 lo L eL
 refine z0h (λ σ G=>∃r:Int,Same G1 G/\σ=[some (.ref la),some (.int n),some (.int (n % 3)),some (.int r)]) ?_ (λ R hR=>?_)
 rotate_left
 ·wp_walk using z1a,z0y,inV,eqV,z2m
  rw [elo]
  refine ⟨_,hla,_,z0i (j:=lo) (v:=.ref lp) (by rw [List.getElem?_map,elp];rfl),lp,rfl,L,hlp,lk.lk L (List.mem_of_getElem? eL),λ G2 l2 ps2 s2 hl2 _=>⟨_,.inl (.of hl2),?_⟩⟩
  exact ⟨by lia,hR _ _ ⟨_,s2,by rw [elo]⟩⟩
 rintro σ2 G2 ⟨r,s2,rfl⟩
 refine z0h (λ σ G=>∃lo r:Int,Same G1 G/\σ=[some (.ref la),some (.int n),some (.int lo),some (.int r)]) ?_ (λ R hR=>?_)
 rotate_left
 ·wp_walk using z1a,z0y,inV,eqV
  split
  ·obtain ⟨v,_,e1⟩:=z6l (xs:=[-1,3,-3,77]) (i:=n / 128 % 4) (by lia) (by simp only [List.length_cons,List.length_nil];lia)
   exact ⟨small (by decide),λ p1 h1=>⟨_,e1,hR _ _ ⟨v,r,s2.trans (z0b h1 _),rfl⟩⟩⟩
  ·exact hR _ _ ⟨_,r,s2,rfl⟩
 rintro σ3 G3 ⟨lo',r',s3,rfl⟩
 refine z0h (λ σ G=>∃lo r:Int,G=G3/\σ=[some (.ref la),some (.int n),some (.int lo),some (.int r)]) ?_ (λ R hR=>?_)
 rotate_left
 ·wp_walk using z1a,z0y,inV,eqV
  split
  ·exact hR _ _ ⟨_,_,rfl,rfl⟩
  ·exact hR _ _ ⟨_,_,rfl,rfl⟩
 rintro σ4 G4 ⟨lo2,r2,rfl,rfl⟩
 wp_walk using z1a,z0y,inV,eqV
 exact ⟨small (by decide),λ p hp=>q _ p lo2 r2 (s3.trans (z0b hp _)) z0f⟩
abbrev z7m:Stmt:=top 58
theorem y5m:FnScope ["bench","early"] ["bench"] (z0k z7m):=⟨rfl,rfl,rfl,by decide +kernel,rfl,by decide +kernel,by decide +kernel⟩
theorem y6b (F:Fun K "_law_early" "_law_early" z7m f fd) {CBench:Addr}(nBench:W.nsIn K mainGlobals "Bench"=some (some (.ref CBench))) {CNotDone:Addr}(nNotDone:W.nsIn K mainGlobals "NotDone"=some (some (.ref CNotDone))) (cBenchanswerstold:CalM P w K mg base (CX1 P w) 5 CBench "answers_told" ["self"] (y2f CBench CNotDone)) (BC:BenCls K CBench) (eDD:W.exmOne K (.ref CNotDone) (.ref CNotDone)=some true):FnOk P w K mg base CX0 (6) f fd ["bench"] ((z9h CBench)):=by
 have sc:=y5m
 refine F.ok sc (λ vs H Q E h=>?_) (λ cdv A outer s H vs Q E hr h=>?_)
 ·obtain ⟨b,A,Ls,T,rfl,_⟩:=h;rfl
 obtain ⟨b,A,Ls,T,rfl,hb,ne,q⟩:=h
 refine ⟨_,(z0d (z0t (i:=1) sc.nd rfl (by first | exact Or.inl rfl | exact Or.inr rfl) z4b) (z0d (y8u ⟨rfl,rfl⟩ (λ xe pn EE hx=>(z0g (z1z (x2u BC.cl cBenchanswerstold hr hx (pv 0))))) (.cons (by rfl) nNotDone (λ ae pn=>(z0g (z0t (i:=1) sc.nd rfl (by first | exact Or.inl rfl | exact Or.inr rfl) z4b))) .nil (by decide))) (z0g (z0q (pv 1))))),?_⟩
 wp_walk using z1a,z0y,inV,eqV,y2f
 exact ⟨_,_,hb.hb,rfl,A,Ls,T,hb,ne,λ H1 s1=>.inl ⟨eDD,q _ s1⟩⟩
abbrev z7l:Stmt:=top 57
theorem y5l:FnScope ["bench","n","stores","left","log","calls","k","way","told"] ["bench","n","stores","left","log","calls"] (z0k z7l):=⟨rfl,rfl,rfl,by decide +kernel,rfl,by decide +kernel,by decide +kernel⟩
theorem y6a (F:Fun K "_law_looks" "_law_looks" z7l f fd) {CBench:Addr}(nBench:W.nsIn K mainGlobals "Bench"=some (some (.ref CBench))) (cBenchleft:CalM P w K mg base CX0 4 CBench "left" ["self"] (z7g CBench)) (cBenchlogtold:CalM P w K mg base CX0 4 CBench "log_told" ["self"] (y7q CBench)) (cBenchcallsmade:CalM P w K mg base CX0 4 CBench "calls_made" ["self"] (z9k CBench)) (cBenchstore:CalM P w K mg base CX0 4 CBench "store" ["self","k"] (z9c CBench)) (zrange:mg "range"=none) (zisinstance:mg "isinstance"=none) (zlist:mg "list"=none) (BC:BenCls K CBench):FnOk P w K mg base CX0 (5) f fd ["bench","n","stores","left","log","calls"] ((z6s CBench)):=by
 have sc:=y5l
 refine F.ok sc (λ vs H Q E h=>?_) (λ cdv A outer s H vs Q E hr h=>?_)
 ·obtain ⟨b,sa,lf,lg,A,Ls,T,n,scs,ps,qs,rfl,_⟩:=h;rfl
 obtain ⟨b,sa,lf,lg,A,Ls,T,n,scs,ps,qs,rfl,hb,hsa,hss,hlf,hps,hlg,hqs,q⟩:=h
 refine ⟨_,(@z0d _ _ _ _ _ (z2g PassesOwn.never rfl (z1s (by rfl) zrange (@z0a _ _ _ _ _ z0c z0e rfl)) (z0w (i:=6) sc.nd rfl (Or.inl rfl)) (@z0d _ _ _ _ _ (@z0t _ _ 7 _ _ _ _ sc.nd rfl (by first | exact Or.inl rfl | exact Or.inr rfl) (@z0p _ _ _ _ _ _ _ _ z1j (@z0p _ _ _ _ _ _ _ _ z1o (pv 1) (@z0p _ _ _ _ _ _ _ _ z3d (pv 6) (@z0p _ _ _ _ _ _ _ _ z1o z0c (@z0p _ _ _ _ _ _ _ _ z3d (@z0p _ _ _ _ _ _ _ _ z1j (@z0p _ _ _ _ _ _ _ _ z1h (pv 1) z0c) z0c) z0c)))) z0c) (by rfl) (by first | exact Or.inl rfl | exact Or.inr rfl)) (@z0d _ _ _ _ _ (@z1c _ _ _ _ _ _ _ _ (@z0j _ _ _ _ _ _ _ _ z1g (pv 7) z0c (z0o _)) (@z0d _ _ _ _ _ (@z0t _ _ 8 _ _ _ _ sc.nd rfl (by first | exact Or.inl rfl | exact Or.inr rfl) (z9x BC.cl cBenchleft hr z1f (pv 0)) (by rfl) (by first | exact Or.inl rfl | exact Or.inr rfl)) (@z0d _ _ _ _ _ (@z1c _ _ _ _ _ _ _ _ (PW.pt (z3s (y0y (z8n (z1b z8t (by rfl) zisinstance boot_isinstance (@z0a _ _ _ _ _ (pv 8) (@z0a _ _ _ _ _ (y9h (v:=.ty "list") (by rfl) zlist boot_list rfl) z0e rfl) rfl)))) (z3i (@z0j _ _ _ _ _ _ _ _ (y9k (w4j hr)) (pv 8) (pv 3) (z0o _))))) (@z0g _ _ _ (@z0q _ _ _ _ z4b)) z0m) (@z0g _ _ _ (z1z (y9g PySem.F.plainAttrs_list PySem.F.slot_list_clear PySem.F.type_list_clear y0g (pv 8)))))) z0m) (@z0d _ _ _ _ _ (@z1c _ _ _ _ _ _ _ _ (@z0j _ _ _ _ _ _ _ _ z1g (pv 7) z0c (z0o _)) (@z0d _ _ _ _ _ (@z0t _ _ 8 _ _ _ _ sc.nd rfl (by first | exact Or.inl rfl | exact Or.inr rfl) (z9x BC.cl cBenchlogtold hr z1f (pv 0)) (by rfl) (by first | exact Or.inl rfl | exact Or.inr rfl)) (@z0d _ _ _ _ _ (@z1c _ _ _ _ _ _ _ _ (PW.pt (z3s (y0y (z8n (z1b z8t (by rfl) zisinstance boot_isinstance (@z0a _ _ _ _ _ (pv 8) (@z0a _ _ _ _ _ (y9h (v:=.ty "list") (by rfl) zlist boot_list rfl) z0e rfl) rfl)))) (z3i (@z0j _ _ _ _ _ _ _ _ (y9k (w4j hr)) (pv 8) (pv 4) (z0o _))))) (@z0g _ _ _ (@z0q _ _ _ _ z4b)) z0m) (@z0g _ _ _ (z1z (y9g PySem.F.plainAttrs_list PySem.F.slot_list_clear PySem.F.type_list_clear y0g (pv 8)))))) z0m) (@z0d _ _ _ _ _ (@z1c _ _ _ _ _ _ _ _ (PW.pt (y4b (@z0j _ _ _ _ _ _ _ _ z1g (pv 7) z0c (z0o _)) (z9t (@z0j _ _ _ _ _ _ _ _ z8g (z9x BC.cl cBenchcallsmade hr z1f (pv 0)) (pv 5) (z0o _))))) (@z0g _ _ _ (@z0q _ _ _ _ z4b)) z0m) (@z0g _ _ _ (@z1c _ _ _ _ _ _ _ _ (@z0j _ _ _ _ _ _ _ _ z1g (pv 7) z0c (z0o _)) (@z0d _ _ _ _ _ (@z0t _ _ 8 _ _ _ _ sc.nd rfl (by first | exact Or.inl rfl | exact Or.inr rfl) (@z1n _ _ _ _ (@z0a _ _ _ _ _ (y9e BC.cl cBenchstore hr z1f (pv 0) (@z0a _ _ _ _ _ z0c z0e rfl)) (@z0a _ _ _ _ _ (y9e BC.cl cBenchstore hr z1f (pv 0) (@z0a _ _ _ _ _ z0c z0e rfl)) (@z0a _ _ _ _ _ (y9e BC.cl cBenchstore hr z1f (pv 0) (@z0a _ _ _ _ _ z0c z0e rfl)) z0e rfl) rfl) rfl)) (by rfl) (by first | exact Or.inl rfl | exact Or.inr rfl)) (@z0d _ _ _ _ _ (@z1c _ _ _ _ _ _ _ _ (@z0j _ _ _ _ _ _ _ _ (y9k (w4j hr)) (pv 8) (pv 2) (z0o _)) (@z0g _ _ _ (@z0q _ _ _ _ z4b)) z0m) (@z0g _ _ _ (z1z (y9g PySem.F.plainAttrs_list PySem.F.slot_list_clear PySem.F.type_list_clear y0g (@z0r _ _ _ _ _ _ _ z0u (pv 8) (@z0p _ _ _ _ _ _ _ _ z1j (@z0p _ _ _ _ _ _ _ _ z1h (pv 1) z0c) z0c) (λ _ _=>rfl))))))) z0m))))))) (@z0g _ _ _ (@z0q _ _ _ _ z4b))),?_⟩
 simp only [L2.start,List.length_cons,List.length_nil,List.replicate,List.cons_append,List.nil_append,Nat.reduceSub,Nat.reduceAdd,List.map_cons,List.map_nil]
 refine z0h (λ σ G=>Same H G) ?_ (λ R hR=>?_)
 rotate_left
 ·wp_walk using z0y,inV,eqV
  obtain ⟨J,hJ⟩:∃J:Nat->L2.St->Hp->Prop,J=(λ i σ G=>∃y6 y7 y8:Option V,Same H G/\σ=[some (.ref b),some (.int n),some (.ref sa),some (.ref lf),some (.ref lg),some (.int T.n),y6,y7,y8]):=⟨_,rfl⟩
  refine LoopR.mk J (by rw [hJ];exact ⟨_,_,_,Same.refl _,rfl⟩) (λ i σ G hi h=>?_) (λ σ G h=>?_)<;>rw [hJ] at h
  ·obtain ⟨y6,y7,y8,sG,rfl⟩:=h
   simp only [z6g,List.set_cons_succ,List.set_cons_zero]
   rw [Int.zero_add]
   have fin:∀ {σ:L2.St}{G':Hp},(∃y6 y7 y8:Option V,Same H G'/\σ=[some (.ref b),some (.int n),some (.ref sa),some (.ref lf),some (.ref lg),some (.int T.n),y6,y7,y8])->J (i+1) σ G':=λ h=>by rw [hJ];exact h
   refine z0h (λ σ G'=>∃w:Int,G'=G/\σ=[some (.ref b),some (.int n),some (.ref sa),some (.ref lf),some (.ref lg),some (.int T.n),some (.int (i:Int)),some (.int w),y8]) ?_ (λ R hR=>?_)
   rotate_left
   ·wp_walk using z1a,z0y,inV,eqV
    exact ⟨.inl ⟨by lia,by lia⟩,hR _ _ ⟨_,rfl,rfl⟩⟩
   rintro σ2 G2 ⟨w,rfl,rfl⟩
   refine z0h (λ σ G=>∃y:Option V,Same H G/\σ=[some (.ref b),some (.int n),some (.ref sa),some (.ref lf),some (.ref lg),some (.int T.n),some (.int (i:Int)),some (.int w),y]) ?_ (λ R hR=>?_)
   rotate_left
   ·wp_walk using z1a,z0y,inV,eqV,z7g
    have hb2:=hb.same sG
    split
    ·refine ⟨_,_,hb2.hb,rfl,A,Ls,T,hb2,λ G3 l3 ps3 s3 l30 hl3 hp3=>?_⟩
     have s03:=sG.trans s3
     refine ⟨_,hl3,⟨_,rfl⟩,y4w hl3 (s03 _ _ hlf) hp3 (hps.up (.of s03)),?_⟩
     exact ⟨.inl ⟨_,.of hl3⟩,_,hl3,hR _ _ ⟨_,λ a o e=>by rw [z0n (λ z=>by rw [z,sG.free l30] at e;cases e)];exact s03 _ _ e,rfl⟩⟩
    ·exact hR _ _ ⟨_,sG,rfl⟩
   rintro σ3 G3 ⟨y3,s3,rfl⟩
   refine z0h (λ σ G=>∃y:Option V,Same H G/\σ=[some (.ref b),some (.int n),some (.ref sa),some (.ref lf),some (.ref lg),some (.int T.n),some (.int (i:Int)),some (.int w),y]) ?_ (λ R hR=>?_)
   rotate_left
   ·wp_walk using z1a,z0y,inV,eqV,y7q
    have hb2:=hb.same s3
    split
    ·refine ⟨_,_,hb2.hb,rfl,A,Ls,T,hb2,λ G4 l4 ps4 s4 l40 hl4 hp4=>?_⟩
     have s04:=s3.trans s4
     refine ⟨_,hl4,⟨_,rfl⟩,y4w hl4 (s04 _ _ hlg) hp4 (hqs.up (.of s04)),?_⟩
     exact ⟨.inl ⟨_,.of hl4⟩,_,hl4,hR _ _ ⟨_,λ a o e=>by rw [z0n (λ z=>by rw [z,s3.free l40] at e;cases e)];exact s04 _ _ e,rfl⟩⟩
    ·exact hR _ _ ⟨_,s3,rfl⟩
   rintro σ4 G4 ⟨y4,s4,rfl⟩
   refine z0h (λ σ G=>Same H G/\σ=[some (.ref b),some (.int n),some (.ref sa),some (.ref lf),some (.ref lg),some (.int T.n),some (.int (i:Int)),some (.int w),y4]) ?_ (λ R hR=>?_)
   rotate_left
   ·wp_walk using z1a,z0y,inV,eqV,z9k
    have hb2:=hb.same s4
    split
    ·refine ⟨_,_,hb2.hb,rfl,A,Ls,T,hb2,?_⟩
     rw [if_neg (λ z=>z rfl)]
     exact hR _ _ ⟨s4,rfl⟩
    ·exact hR _ _ ⟨s4,rfl⟩
   rintro σ5 G5 ⟨s5,rfl⟩
   wp_walk using z1a,z0y,inV,eqV,z9c
   have hb5:=hb.same s5
   split
   ·obtain ⟨r0,r1,r2,eS⟩:∃r0 r1 r2,T.S=[r0,r1,r2]:=x2b hb.ok.sz.1
    refine ⟨_,_,hb5.hb,rfl,A,Ls,T,0,rfl,hb5,r0,by rw [eS];rfl,λ G6 l6 s6 f6 h6=>⟨_,_,s6 _ _ hb5.hb,rfl,A,Ls,T,1,rfl,hb5.same s6,r1,by rw [eS];rfl,λ G7 l7 s7 f7 h7=>⟨_,_,s7 _ _ (s6 _ _ hb5.hb),rfl,A,Ls,T,2,rfl,(hb5.same s6).same s7,r2,by rw [eS];rfl,λ G8 l8 s8 f8 h8=>⟨small (by decide),λ p hp=>?_⟩⟩⟩⟩
    have s58:=s6.trans (s7.trans s8)
    have s0p:=s5.trans (s58.trans (z0b hp (.lst [V.ref l6,V.ref l7,V.ref l8])))
    have a6:=z0b hp (.lst [V.ref l6,V.ref l7,V.ref l8]) _ _ (s8 _ _ (s7 _ _ h6))
    have a7:=z0b hp (.lst [V.ref l6,V.ref l7,V.ref l8]) _ _ (s8 _ _ h7)
    have a8:=z0b hp (.lst [V.ref l6,V.ref l7,V.ref l8]) _ _ h8
    have n6:H l6=none:=s5.free f6
    have n7:H l7=none:=(s5.trans s6).free f7
    have n8:H l8=none:=(s5.trans (s6.trans s7)).free f8
    refine ⟨⟨_,rfl⟩,x8s (ps:=[l6,l7,l8]) z0f (s0p _ _ hsa) ⟨by rw [eS];rfl,λ k r er=>?_⟩ (hss.same s0p),?_⟩
    ·rw [eS] at er
     match k,er with
     | 0,er=>cases er;exact ⟨l6,rfl,a6⟩
     | 1,er=>cases er;exact ⟨l7,rfl,a7⟩
     | 2,er=>cases er;exact ⟨l8,rfl,a8⟩
    obtain ⟨x,rx,ex,nx,hx⟩:∃(x:Addr) (rx:Sto),atI [V.ref l6,V.ref l7,V.ref l8] (n / 8 % 3)=some (.ref x)/\H x=none/\upd G8 p (.lst [V.ref l6,V.ref l7,V.ref l8]) x=some (.lst (rx.map cV)):=by
     rcases (show n / 8 % 3=0\/n / 8 % 3=1\/n / 8 % 3=2 by lia) with z | z | z<;>rw [z]
     ·exact ⟨l6,r0,rfl,n6,a6⟩
     ·exact ⟨l7,r1,rfl,n7,a7⟩
     ·exact ⟨l8,r2,rfl,n8,a8⟩
    exact ⟨_,ex,.inl ⟨_,.of hx⟩,x,rfl,_,hx,fin ⟨_,_,_,λ a o e=>by rw [z0n (λ z=>by rw [z,nx] at e;cases e)];exact s0p _ _ e,rfl⟩⟩
   ·exact fin ⟨_,_,_,s5,rfl⟩
  ·obtain ⟨y6,y7,y8,sG,rfl⟩:=h
   exact hR _ _ sG
 rintro σ1 G1 s1
 wp_walk using z1a,z0y,inV,eqV
 exact q _ s1
abbrev z7n:Stmt:=top 59
theorem y5n:FnScope ["script","loops","row","sizes","filled","stores","handed","k","cells","outs"] ["script","loops","row"] (z0k z7n):=⟨rfl,rfl,rfl,by decide +kernel,rfl,by decide +kernel,by decide +kernel⟩
theorem y6c (F:Fun K "_law_begun" "_law_begun" z7n f fd) (clawmixed:Callee P w K mg base CX0 (3) "_law_mixed" ["script","k"] (z3m K)) (clawfigure:Callee P w K mg base CX0 (3) "_law_figure" ["one"] z4u) (zrange:mg "range"=none) (zint:mg "int"=none) (zlen:mg "len"=none) (ztuple:mg "tuple"=none):FnOk P w K mg base CX0 (4) f fd ["script","loops","row"] ((z9i K)):=by
 have sc:=y5n
 refine F.ok sc (λ vs H Q E h=>?_) (λ cdv A outer s H vs Q E hr h=>?_)
 ·obtain ⟨sr,la,ra,ns,rs,las,Ls,rfl,_⟩:=h;rfl
 obtain ⟨sr,la,ra,ns,rs,las,Ls,rfl,hS,hS2,hla,hls,lk,hra,r0,r100,q⟩:=h
 refine ⟨_,(z0d (z0t (i:=3) sc.nd rfl (by first | exact Or.inl rfl | exact Or.inr rfl) (z9z (own:=["k"]) (fv:=["script"]) (js:=[0]) rfl (z1s (by rfl) zrange (z0a z0c z0e)) rfl (by decide) rfl (by decide) (by first | exact λ _ _ h=>h | exact z5c rfl | exact z5b rfl rfl | exact z5a rfl rfl rfl) (z8a (by rfl)) rfl (x9c (by first | exact ⟨rfl,.inl rfl,.inl rfl⟩ | exact ⟨rfl,.inl rfl,.inr rfl⟩)) (λ _ _ _ _=>(z0w (i:=0) (show (["k","script"]:List Str).Nodup by decide +kernel) rfl (by first | exact Or.inl rfl | exact Or.inr rfl))) (λ _ _ _ _=>(z0p z1o z0c (z0p z1j (z0p z1h (z0z clawmixed hr (by rfl) z1f (z0a (pv 1) (z0a (pv 0) z0e))) z0c) z0c))))) (z0d (z5n (own:=["loop"]) sc.nd (i:=4) rfl (by first | exact Or.inl rfl | exact Or.inr rfl) (by first | exact Or.inl rfl | exact Or.inr rfl) rfl (z3t (pv 1)) (by decide) (by decide) rfl (by decide) (λ _ _ _ _=>(z0w (i:=0) (show (["loop"]:List Str).Nodup by decide +kernel) rfl (by first | exact Or.inl rfl | exact Or.inr rfl))) (λ _ _ _ _=>(z0r z0l (pv 0) (z0p z1o z0c (z1x z5v (by rfl) zint boot_int (z0a (z7r z1g (z0r z0l (pv 0) z0c (λ _ _=>rfl)) z0s (z0o _)) z0e))) (λ _ _=>rfl)))) (z0d (z0t (i:=5) sc.nd rfl (by first | exact Or.inl rfl | exact Or.inr rfl) (z1n z0e)) (z0d (z0t (i:=6) sc.nd rfl (by first | exact Or.inl rfl | exact Or.inr rfl) (z1n z0e)) (z0d (z2g PassesOwn.never rfl (z1s (by rfl) zrange (z0a z0c z0e)) (z0w (i:=7) sc.nd rfl (by first | exact Or.inl rfl | exact Or.inr rfl)) (z0d (z0t (i:=8) sc.nd rfl (by first | exact Or.inl rfl | exact Or.inr rfl) (z0p x5k (z1n (z0a z8o z0e)) (z0r z0u (pv 3) (pv 7) (λ _ _=>rfl)))) (z0d (z1c (z0j (y1c (K:=K) rfl) (pv 7) (pv 4) rfl) (z0d (z9v (own:=["one"]) (fv:=["row","k"]) (js:=[2,7]) sc.nd (i:=8) rfl (by first | exact Or.inl rfl | exact Or.inr rfl) (by first | exact Or.inl rfl | exact Or.inr rfl) rfl (z1s (by rfl) zrange (z0a (z0r z0u (pv 3) (pv 7) (λ _ _=>rfl)) z0e)) rfl (by decide) rfl (by decide) (by first | exact λ _ _ h=>h | exact z5c rfl | exact z5b rfl rfl | exact z5a rfl rfl rfl) (z8a (by rfl)) rfl (w7m (by first | exact ⟨rfl,.inl rfl,.inl rfl⟩ | exact ⟨rfl,.inl rfl,.inr rfl⟩) (by first | exact ⟨rfl,.inl rfl,.inl rfl⟩ | exact ⟨rfl,.inl rfl,.inr rfl⟩)) (λ _ _ _ _=>(z0w (i:=0) (show (["one","row","k"]:List Str).Nodup by decide +kernel) rfl (by first | exact Or.inl rfl | exact Or.inr rfl))) (λ _ _ _ _=>(z0z clawfigure hr (by rfl) z1f (z0a (z0p z1o (z0r z0u (pv 1) (z0p y0a (z0p z1o (z0p z3d (pv 2) z0c) (pv 0)) (z1b (y1t (K:=K) rfl) (by rfl) zlen PySem.boot_len (z0a (pv 1) z0e))) (λ _ _=>rfl)) (pv 0)) z0e)))) (z0g (z1z (z5q (pv 6) (z0x (z7s (z0x (z0a (z0r z0u (pv 3) (pv 7) (λ _ _=>rfl)) z0e)) (z0a (z1x z2q (by rfl) ztuple boot_tuple (z0a (pv 8) z0e)) z0e))))))) z0m) (z0g (z1z (z5q (pv 5) (pv 8))))))) (z0d (z0t (i:=9) sc.nd rfl (by first | exact Or.inl rfl | exact Or.inr rfl) (z0x (z7s (z0x (z0a z0c (z7s (z0x (z0a (z0r z0u (pv 3) z0c (λ _ _=>rfl)) z0e)) z0e))) (z7s (z0x (z0a z0c (z7s (z0x (z0a (z0r z0u (pv 3) z0c (λ _ _=>rfl)) z0e)) z0e))) z0e)))) (z0g (z0q (z0x (z7s (z0x (z0a (z1x z2q (by rfl) ztuple boot_tuple (z0a (z9z (own:=["k"]) (fv:=["sizes"]) (js:=[3]) rfl (z1s (by rfl) zrange (z0a z0c z0e)) rfl (by decide) rfl (by decide) (by first | exact λ _ _ h=>h | exact z5c rfl | exact z5b rfl rfl | exact z5a rfl rfl rfl) (z8a (by rfl)) rfl (x9c (by first | exact ⟨rfl,.inl rfl,.inl rfl⟩ | exact ⟨rfl,.inl rfl,.inr rfl⟩)) (λ _ _ _ _=>(z0w (i:=0) (show (["k","sizes"]:List Str).Nodup by decide +kernel) rfl (by first | exact Or.inl rfl | exact Or.inr rfl))) (λ _ _ _ _=>(z0x (z0a (pv 0) (z0a (z0r z0u (pv 1) (pv 0) (λ _ _=>rfl)) z0e))))) z0e)) (z0a (z1x z2q (by rfl) ztuple boot_tuple (z0a (pv 1) z0e)) (z0a (pv 9) z0e)))) (z0a (z1x z2q (by rfl) ztuple boot_tuple (z0a (pv 6) z0e)) (z0a (pv 5) z0e)))))))))))),?_⟩
 simp only [L2.start,List.length_cons,List.length_nil,List.replicate,List.cons_append,List.nil_append,Nat.reduceSub,Nat.reduceAdd,List.map_cons,List.map_nil]
 refine z0h (λ σ G=>∃(sz:Addr) (Z:List Nat),Same H G/\G sz=some (.lst ((Z.map λ k:Nat=>(k:Int)).map V.int))/\Z.length=3/\(∀n∈Z,3≤n/\n≤8)/\σ=[some (.ref sr),some (.ref la),some (.ref ra),some (.ref sz),none,none,none,none,none,none]) ?_ (λ R hR=>?_)
 rotate_left
 ·wp_walk using z1a,z0y,inV,eqV
  refine CompR.mk (λ i ys σ G=>∃Z:List Nat,ys=(Z.map λ k:Nat=>(k:Int)).map V.int/\Z.length=i/\i≤3/\(∀n∈Z,3≤n/\n≤8)/\G=H/\∃y,σ=[y,some (.ref sr)]) ⟨[],rfl,rfl,Nat.zero_le _,(λ n hn=>nomatch hn),rfl,_,rfl⟩ (λ i ys σ G hi h=>?_) (λ ys σ G h l hl=>?_)
  ·obtain ⟨Z,rfl,zl,_,zb,rfl,y,rfl⟩:=h
   refine ⟨z1e (by rw [List.length_map,List.length_map];lia),?_⟩
   wp_walk using z1a,z0y,inV,eqV,z3m
   refine ⟨ns,i,by lia,hS,by lia,λ n n0 n1=>⟨Z++[(3+n / 977 % 6).toNat],?_,by rw [List.length_append,zl];rfl,by lia,λ m hm=>?_,_,rfl⟩⟩
   ·rw [List.map_append,List.map_append]
    show _++[V.int (3+n / 977 % 6)]=_++[V.int (((3+n / 977 % 6).toNat:Nat):Int)]
    rw [show (((3+n / 977 % 6).toNat:Nat):Int)=3+n / 977 % 6 by lia]
   ·rcases List.mem_append.mp hm with z | z
    ·exact zb m z
    ·cases List.mem_singleton.mp z;lia
  ·obtain ⟨Z,rfl,zl,_,zb,rfl,y,rfl⟩:=h
   exact hR _ _ ⟨l,Z,z0b hl _,z0f,zl,zb,rfl⟩
 rintro σ1 G1 ⟨sz,Z,s1,hsz,zl,z8,rfl⟩
 refine z0h (λ σ G=>∃fl,Same G1 G/\G fl=some (.lst ((wsZ Ls).map V.int))/\σ=[some (.ref sr),some (.ref la),some (.ref ra),some (.ref sz),some (.ref fl),none,none,none,none,none]) ?_ (λ R hR=>?_)
 rotate_left
 ·wp_walk using z1a,z0y,inV,eqV
  have hla1:=s1 _ _ hla
  have hls1:=hls.up (.of s1)
  refine CompL.mk (xs:=las.map V.ref) (.of hla1) (λ i ys σ G=>G=G1/\ys=((wsZ Ls).take i).map V.int/\∃y,σ=[y]) ⟨rfl,rfl,_,rfl⟩ (λ i ys σ G _ h=>by rw [h.1];exact .of hla1) (λ i x ys σ G ex h=>?_) (λ ys σ G h l hl=>?_)
  ·obtain ⟨rfl,rfl,y,rfl⟩:=h
   obtain ⟨p,L,rfl,eL,hL⟩:=hls1.get ex
   refine ⟨small (by rw [List.length_map,List.length_take,wsZ,List.length_map,lk.ll];lia),?_⟩
   have tk:((wsZ Ls).take (i+1)).map V.int=((wsZ Ls).take i).map V.int++[V.int (L.st:Int)]:=by
    rw [List.take_add_one,wsZ,List.getElem?_map,eL,List.map_append];rfl
   rw [tk]
   wp_walk using z1a,z0y,inV,eqV
   obtain ⟨sp,sq,t,h1,h2,h3,h4⟩:=hL
   rcases h4 with ⟨_,e⟩ | ⟨w',m,_,e⟩
   ·refine ⟨_,e,_,z0i (j:=0) rfl,rfl,.inr ⟨_,e,.int (L.st:Int),?_,rfl,_,rfl⟩⟩
    rw [if_neg (sne (by decide +kernel))]
    exact z0i (j:=1) rfl
   ·refine ⟨_,e,_,z0i (j:=0) rfl,rfl,.inr ⟨_,e,.int (L.st:Int),?_,rfl,_,rfl⟩⟩
    rw [if_pos rfl]
    exact z0i (j:=2) rfl
  ·obtain ⟨rfl,rfl,y,rfl⟩:=h
   rw [List.length_map,hls.1,List.take_of_length_le (by rw [wsZ,List.length_map];exact Nat.le_refl _)]
   exact hR _ _ ⟨l,z0b hl _,z0f,rfl⟩
 rintro σ2 G2 ⟨fl,s2,hfl,rfl⟩
 refine z0h (λ σ G=>∃st,G2 st=none/\Same G2 G/\G st=some (.lst [])/\σ=[some (.ref sr),some (.ref la),some (.ref ra),some (.ref sz),some (.ref fl),some (.ref st),none,none,none,none]) ?_ (λ R hR=>?_)
 rotate_left
 ·wp_walk using z1a,z0y,inV,eqV
  exact ⟨small (by decide),λ p hp=>hR _ _ ⟨p,hp,z0b hp _,z0f,rfl⟩⟩
 rintro σ3 G3 ⟨st,st0,s3,hst,rfl⟩
 refine z0h (λ σ G=>∃hl,G3 hl=none/\Same G3 G/\G hl=some (.lst [])/\σ=[some (.ref sr),some (.ref la),some (.ref ra),some (.ref sz),some (.ref fl),some (.ref st),some (.ref hl),none,none,none]) ?_ (λ R hR=>?_)
 rotate_left
 ·wp_walk using z1a,z0y,inV,eqV
  exact ⟨small (by decide),λ p hp=>hR _ _ ⟨p,hp,z0b hp _,z0f,rfl⟩⟩
 rintro σ4 G4 ⟨hl,hl0,s4,hhl,rfl⟩
 have s14:=s2.trans (s3.trans s4)
 have s04:=s1.trans s14
 have sthl:st≠hl:=λ z=>by rw [← z,hst] at hl0;cases hl0
 have nst:∀ {a:Addr}{o:HO},G2 a=some o->a≠st:=λ e z=>by rw [z,st0] at e;cases e
 have nhl:∀ {a:Addr}{o:HO},G3 a=some o->a≠hl:=λ e z=>by rw [z,hl0] at e;cases e
 have z88:∀n∈Z,n≤8:=λ n hn=>(z8 n hn).2
 refine z0h (λ σ G=>∃(y7 y8:Option V) (Xs:List (List Int)) (scs tps:List Addr),BegI H G4 G st hl Z Ls 3 Xs scs tps/\σ=[some (.ref sr),some (.ref la),some (.ref ra),some (.ref sz),some (.ref fl),some (.ref st),some (.ref hl),y7,y8,none]) ?_ (λ R hR=>?_)
 rotate_left
 ·wp_walk using z0y,inV,eqV
  obtain ⟨J,hJ⟩:∃J:Nat->L2.St->Hp->Prop,J=(λ i σ G=>∃(y7 y8:Option V) (Xs:List (List Int)) (scs tps:List Addr),i≤3/\BegI H G4 G st hl Z Ls i Xs scs tps/\σ=[some (.ref sr),some (.ref la),some (.ref ra),some (.ref sz),some (.ref fl),some (.ref st),some (.ref hl),y7,y8,none]):=⟨_,rfl⟩
  refine LoopR.mk J (by rw [hJ];exact ⟨_,_,[],[],[],Nat.zero_le _,⟨λ _ _ _ _ h=>h,s4 _ _ hst,hhl,⟨rfl,λ i x e=>by simp at e⟩,rfl,(λ p hp=>nomatch hp),(λ p hp=>nomatch hp),⟨rfl,λ k r e=>by simp at e⟩,(λ c hc=>nomatch hc),(λ z=>nomatch z),(λ z=>nomatch z),(λ i j a e=>by simp at e)⟩,rfl⟩) (λ i σ G hi h=>?_) (λ σ G h=>?_)<;>rw [hJ] at h
  ·obtain ⟨y7,y8,Xs,scs,tps,i3,B,rfl⟩:=h
   simp only [z6g,List.set_cons_succ,List.set_cons_zero]
   rw [Int.zero_add]
   have kS:Same H G:=λ a o e=>B.kp a o (nst ((s1.trans s2) _ _ e)) (nhl ((s1.trans (s2.trans s3)) _ _ e)) (s04 _ _ e)
   have iZ:i < Z.length:=by lia
   have eZ:Z[i]?=some (Z.getD i 0):=by rw [List.getD_eq_getElem?_getD,List.getElem?_eq_getElem iZ];rfl
   have zi:=z8 (Z.getD i 0) (List.mem_of_getElem? eZ)
   have hszG:G sz=some (.lst ((Z.map λ k:Nat=>(k:Int)).map V.int)):=B.kp _ _ (nst (s2 _ _ hsz)) (nhl ((s2.trans s3) _ _ hsz)) (s14 _ _ hsz)
   have hflG:G fl=some (.lst ((wsZ Ls).map V.int)):=B.kp _ _ (nst hfl) (nhl (s3 _ _ hfl)) ((s3.trans s4) _ _ hfl)
   have esz:atI ((Z.map λ k:Nat=>(k:Int)).map V.int) (i:Int)=some (.int ((Z.getD i 0:Nat):Int)):=z0i (j:=i) (v:=V.int ((Z.getD i 0:Nat):Int)) (by rw [List.getElem?_map,List.getElem?_map,eZ];rfl)
   refine z0h (λ σ K0=>∃c0,G c0=none/\Same G K0/\K0 c0=some (.lst ((List.replicate (Z.getD i 0) none).map cV))/\σ=[some (.ref sr),some (.ref la),some (.ref ra),some (.ref sz),some (.ref fl),some (.ref st),some (.ref hl),some (.int (i:Int)),some (.ref c0),none]) ?_ (λ R hR=>?_)
   rotate_left
   ·wp_walk using z1a,z0y,inV,eqV
    refine ⟨small (by decide),λ p1 h1=>⟨_,z0b h1 _ _ _ hszG,_,esz,_,rfl,by lia,by lia,small (by rw [Int.toNat_natCast];lia),λ p2 h2=>hR _ _ ⟨p2,(z0b h1 _).free h2,(z0b h1 _).trans (z0b h2 _),?_,rfl⟩⟩⟩
    rw [z0f,Int.toNat_natCast,y8o,x5g]
   rintro σ5 G5 ⟨c0,c00,s5,hc0,rfl⟩
   refine z0h (λ σ K0=>∃(c:Addr) (r:Sto) (Xs':List (List Int)) (tps':List Addr),G c=none/\(∀a o,a≠hl->G a=some o->K0 a=some o)/\K0 c=some (.lst (r.map cV))/\K0 hl=some (.lst (tps'.map V.ref))/\TabsZ K0 tps' Xs'/\Xs'.length=(z2c Ls (i+1)).length/\z5t Z ((z2c Ls (i+1)).zip Xs')/\w4m ((z2c Ls (i+1)).zip Xs')/\(z4y (z4k Z) ((z2c Ls (i+1)).zip Xs')).take (i+1)=(z4y (z4k Z) ((z2c Ls i).zip Xs)).take i++[r]/\σ=[some (.ref sr),some (.ref la),some (.ref ra),some (.ref sz),some (.ref fl),some (.ref st),some (.ref hl),some (.int (i:Int)),some (.ref c),none]) ?_ (λ R hR=>?_)
   rotate_left
   ·wp_walk using z0y,rIn
    refine ⟨_,.inl (.of (s5 _ _ hflG)),z4j _,?_⟩
    rw [y3i]
    by_cases cw:(i:Int)∈wsZ Ls
    ·rw [if_neg (by simp [cw])]
     obtain ⟨e1,e2⟩:=w2r (Z:=Z) zl (by lia) cw Xs
     exact hR _ _ ⟨c0,_,Xs,tps,c00,λ a o _ e=>s5 _ _ e,hc0,s5 _ _ B.hhl,B.ht.up (.of s5),by rw [e1];exact B.xl,by rw [e1];exact B.gd,by rw [e1];exact B.fg,e2,rfl⟩
    ·rw [if_pos (by simp [cw])]
     have hraG:G5 ra=some (.lst (rs.map V.int)):=(kS.trans s5) _ _ hra
     have rl:0 < rs.length:=List.length_pos_iff.mpr r0
     refine z0h (λ σ K0=>∃(c:Addr) (x:List Int),G c=none/\Same G K0/\K0 c=some (.lst (x.map V.int))/\x.length=Z.getD i 0/\(∀v∈x,inB v)/\σ=[some (.ref sr),some (.ref la),some (.ref ra),some (.ref sz),some (.ref fl),some (.ref st),some (.ref hl),some (.int (i:Int)),some (.ref c),none]) ?_ (λ R hR=>?_)
     rotate_left
     ·wp_walk using z1a,z0y,inV,eqV
      refine ⟨_,s5 _ _ hszG,_,esz,_,rfl,by lia,by lia,?_⟩
      rw [Int.toNat_natCast]
      refine CompR.mk (λ j ys σ K0=>∃x:List Int,ys=x.map V.int/\x.length=j/\j≤Z.getD i 0/\(∀v∈x,inB v)/\Same G5 K0/\∃y,σ=[y,some (.ref ra),some (.int (i:Int))]) ⟨[],rfl,rfl,Nat.zero_le _,(λ v hv=>nomatch hv),Same.refl _,_,rfl⟩ (λ j ys σ K0 hj h=>?_) (λ ys σ K0 h l hl'=>?_)
      ·obtain ⟨x,rfl,xl,_,xb,sK,y,rfl⟩:=h
       refine ⟨z1e (by rw [List.length_map];lia),?_⟩
       wp_walk using z1a,z0y,inV,eqV,z4u
       have rp:(0:Int) < ((rs.map V.int).length:Int):=by rw [List.length_map];lia
       obtain ⟨v,_,ev⟩:=z6l (xs:=rs) (i:=((i:Int) * 8+(0+(j:Int))).fmod ((rs.map V.int).length:Int)) (Int.fmod_nonneg_of_pos _ rp) (by have:=Int.fmod_lt_of_pos ((i:Int) * 8+(0+(j:Int))) rp;rwa [List.length_map] at this ⊢)
       refine ⟨_,.inl (.of (sK _ _ hraG)),by lia,_,sK _ _ hraG,_,ev,v,rfl,λ H' s'=>⟨x++[fig (v+(0+(j:Int)))],by rw [List.map_append];rfl,by rw [List.length_append,xl];rfl,by lia,λ v' hv'=>?_,sK.trans s',_,rfl⟩⟩
       rcases List.mem_append.mp hv' with z | z
       ·exact xb v' z
       ·cases List.mem_singleton.mp z;exact w2g _
      ·obtain ⟨x,rfl,xl,_,xb,sK,y,rfl⟩:=h
       exact hR _ _ ⟨l,x,(s5.trans sK).free hl',s5.trans (sK.trans (z0b hl' _)),z0f,xl,xb,rfl⟩
     rintro σ6 G6 ⟨c,x,cG,s6,hc,xz,xb,rfl⟩
     wp_walk using z1a,z0y,inV,eqV
     have chl:c≠hl:=λ z=>by rw [z,B.hhl] at cG;cases cG
     have tl:tps.length≤3:=by rw [B.ht.1,B.xl];have:=y0h Ls i;lia
     obtain ⟨e1,e2⟩:=x8n (Z:=Z) zl (by lia) cw B.xl x
     refine ⟨⟨_,s6 _ _ B.hhl⟩,_,s6 _ _ hszG,_,esz,small (by decide),λ p1 h1=>⟨_,.inl ⟨.of (z0b h1 _ _ _ hc),λ p2 h2=>⟨small (by decide),λ p3 h3=>?_⟩⟩⟩⟩
     have t1:=z0b h1 (.tup [V.int ((Z.getD i 0:Nat):Int)])
     have t2:=z0b h2 (.tup (x.map V.int))
     have t3:=z0b h3 (.tup [V.ref p1,V.ref p2])
     have s63:=s6.trans (t1.trans (t2.trans t3))
     have hhl3:=s63 _ _ B.hhl
     have ut:UpT G (upd (upd (upd (upd G6 p1 (.tup [V.int ((Z.getD i 0:Nat):Int)])) p2 (.tup (x.map V.int))) p3 (.tup [V.ref p1,V.ref p2])) hl (.lst (tps.map V.ref++[V.ref p3]))):=λ b xs eb=>by
      rw [z0n (λ z=>by rw [z,B.hhl] at eb;cases eb)];exact s63 _ _ eb
     refine ⟨_,hhl3,z1e (by rw [List.length_map];lia),hR _ _ ⟨c,x.map some,Xs++[x],tps++[p3],cG,λ a o n e=>by rw [z0n n];exact s63 _ _ e,?_,?_,(B.ht.up ut).snoc (sa:=p1) (ca:=p2) ?_ ?_,?_,?_,?_,e2,rfl⟩⟩
     ·rw [z0n chl,y4k];exact t3 _ _ (t2 _ _ (t1 _ _ hc))
     ·rw [z0f,List.map_append];rfl
     ·rw [z0n (λ z=>by rw [z,t2 _ _ (t1 _ _ (s6 _ _ B.hhl))] at h3;cases h3)];exact z0f
     ·rw [z0n (λ z=>by rw [z,t1 _ _ (s6 _ _ B.hhl)] at h2;cases h2)];exact t3 _ _ z0f
     ·rw [List.length_append,B.xl,z6v,if_neg cw,List.length_append];rfl
     ·rw [e1]
      intro p hp
      rcases List.mem_append.mp hp with z | z
      ·exact B.gd p z
      ·cases List.mem_singleton.mp z;exact xz
     ·rw [e1]
      intro p hp
      rcases List.mem_append.mp hp with z | z
      ·exact B.fg p z
      ·cases List.mem_singleton.mp z;exact xb
   rintro σ7 G7 ⟨c,r,Xs',tps',cG,k7,hc,hhl7,ht7,xl7,gd7,fg7,tk7,rfl⟩
   wp_walk using z1a,z0y,inV,eqV
   have cst:c≠st:=λ z=>by rw [z,B.hst] at cG;cases cG
   have chl:c≠hl:=λ z=>by rw [z,B.hhl] at cG;cases cG
   have hst7:=k7 _ _ sthl B.hst
   have scl:scs.length≤3:=by rw [B.hss.1,List.length_take];lia
   have ccs:c ∉ scs:=B.hss.ne (λ xs z=>by rw [cG] at z;cases z)
   refine ⟨⟨_,hst7⟩,_,hst7,z1e (by rw [List.length_map];lia),?_⟩
   rw [hJ]
   have ut:UpT G7 (upd G7 st (.lst (scs.map V.ref++[V.ref c]))):=λ b xs eb=>by
    rw [z0n (λ z=>by rw [z,hst7] at eb;cases eb)];exact eb
   refine ⟨_,_,Xs',scs++[c],tps',by lia,⟨λ a o n1 n2 e=>?_,?_,?_,ht7.up ut,xl7,gd7,fg7,?_,?_,?_,?_,B.ds.snoc ccs⟩,rfl⟩
   ·rw [z0n n1];exact k7 _ _ n2 (B.kp a o n1 n2 e)
   ·rw [z0f,List.map_append];rfl
   ·rw [z0n sthl.symm];exact hhl7
   ·rw [tk7]
    refine StsAt.snoc (StsAt.mono B.hss λ a ha xs e=>?_) (by rw [z0n cst];exact hc)
    rw [z0n (show a≠st from λ z=>B.d1 (z ▸ ha))]
    exact k7 _ _ (show a≠hl from λ z=>B.d2 (z ▸ ha)) e
   ·intro c' hc'
    rcases List.mem_append.mp hc' with z | z
    ·exact B.f2 _ z
    ·cases List.mem_singleton.mp z;exact kS.free cG
   ·intro z
    rcases List.mem_append.mp z with z | z
    ·exact B.d1 z
    ·exact cst (List.mem_singleton.mp z).symm
   ·intro z
    rcases List.mem_append.mp z with z | z
    ·exact B.d2 z
    ·exact chl (List.mem_singleton.mp z).symm
  ·obtain ⟨y7,y8,Xs,scs,tps,_,B,rfl⟩:=h
   exact hR _ _ ⟨y7,y8,Xs,scs,tps,B,rfl⟩
 rintro σ5 G5 ⟨y7,y8,Xs,scs,tps,B,rfl⟩
 have hsz5:G5 sz=some (.lst ((Z.map λ k:Nat=>(k:Int)).map V.int)):=B.kp _ _ (nst (s2 _ _ hsz)) (nhl ((s2.trans s3) _ _ hsz)) (s14 _ _ hsz)
 have esz:∀ {i:Nat},i < 3->atI ((Z.map λ k:Nat=>(k:Int)).map V.int) (i:Int)=some (.int ((Z.getD i 0:Nat):Int)):=λ {i} i3=>z0i (j:=i) (v:=V.int ((Z.getD i 0:Nat):Int)) (by rw [List.getElem?_map,List.getElem?_map,List.getD_eq_getElem?_getD,List.getElem?_eq_getElem (by lia)];rfl)
 have kS:Same H G5:=λ a o e=>B.kp a o (nst ((s1.trans s2) _ _ e)) (nhl ((s1.trans (s2.trans s3)) _ _ e)) (s04 _ _ e)
 refine z0h (λ σ G=>∃ou,Same G5 G/\σ=[some (.ref sr),some (.ref la),some (.ref ra),some (.ref sz),some (.ref fl),some (.ref st),some (.ref hl),y7,y8,some (.ref ou)]) ?_ (λ R hR=>?_)
 rotate_left
 ·wp_walk using z1a,z0y,inV,eqV
  exact ⟨_,hsz5,_,esz (i:=2) (by decide),small (by decide),λ p1 h1=>⟨small (by decide),λ p2 h2=>⟨_,z0b h2 _ _ _ (z0b h1 _ _ _ hsz5),_,esz (i:=1) (by decide),small (by decide),λ p3 h3=>⟨small (by decide),λ p4 h4=>⟨small (by decide),λ p5 h5=>hR _ _ ⟨p5,(z0b h1 _).trans ((z0b h2 _).trans ((z0b h3 _).trans ((z0b h4 _).trans (z0b h5 _)))),rfl⟩⟩⟩⟩⟩⟩
 rintro σ6 G6 ⟨ou,s6,rfl⟩
 wp_walk using z1a,z0y,inV,eqV
 have hsz6:=s6 _ _ hsz5
 refine CompR.mk (λ i ys σ G=>∃qs:List Addr,ys=qs.map V.ref/\i≤3/\Same G6 G/\TupsAt G qs ((List.range i).map λ k:Nat=>[(k:Int),((Z.getD k 0:Nat):Int)])/\∃y,σ=[y,some (.ref sz)]) ⟨[],rfl,Nat.zero_le _,Same.refl _,TupsAt.nil,_,rfl⟩ (λ i ys σ G hi h=>?_) (λ ys σ G h l7 h7=>?_)
 ·obtain ⟨qs,rfl,_,sG,hq,y,rfl⟩:=h
  have ql:=hq.1
  rw [List.length_map,List.length_range] at ql
  refine ⟨z1e (by rw [List.length_map];lia),?_⟩
  wp_walk using z1a,z0y,inV,eqV
  rw [Int.zero_add]
  refine ⟨_,sG _ _ hsz6,_,esz hi,small (by decide),λ p' hp'=>⟨qs++[p'],by rw [List.map_append];rfl,by lia,sG.trans (z0b hp' _),?_,_,rfl⟩⟩
  rw [List.range_succ,List.map_append]
  exact (hq.up (.of (z0b hp' _))).snoc z0f
 ·obtain ⟨qs,rfl,_,sG,hq,y,rfl⟩:=h
  have s7:=s6.trans (sG.trans (z0b h7 (.lst (qs.map V.ref))))
  refine ⟨l7,rfl,_,.inl ⟨.of z0f,λ t1 h1=>⟨_,.inl ⟨.of (z0b h1 _ _ _ (s7 _ _ (kS _ _ hla))),λ t2 h2=>⟨small (by decide),λ w hw=>⟨_,.inl ⟨.of (z0b hw _ _ _ (z0b h2 _ _ _ (z0b h1 _ _ _ (s7 _ _ B.hhl)))),λ t3 h3=>⟨small (by decide),λ p hp=>?_⟩⟩⟩⟩⟩⟩⟩⟩
  have u1:=z0b h1 (.tup (qs.map V.ref))
  have u2:=z0b h2 (.tup (las.map V.ref))
  have u3:=z0b hw (.tup [V.ref t1,V.ref t2,V.ref ou])
  have u4:=z0b h3 (.tup (tps.map V.ref))
  have u5:=z0b hp (.tup [V.ref w,V.ref t3,V.ref st])
  have v3:=u3.trans (u4.trans u5)
  have v2:=u2.trans v3
  have v1:=u1.trans v2
  have s5f:=s7.trans v1
  have B':=B.same s5f
  exact q _ p w t3 st t2 ou Z Xs scs (kS.trans s5f) z0f ⟨⟨⟨t1,qs,(u4.trans u5) _ _ z0f,v2 _ _ z0f,hq.up (.of ((z0b h7 _).trans v1))⟩,⟨las,v3 _ _ z0f,hls.up (.of (kS.trans s5f))⟩,zl,z88,lk.ll,lk.lk⟩,⟨tps,u5 _ _ z0f,B'.ht⟩,B.xl,B.gd,x9w zl z88 B.gd B.fg,λ n hn=>by have:=z8 n hn;lia,B'.hst,by have:=B'.hss;rwa [List.take_of_length_le (by rw [y0j,z4k,List.length_map,zl];exact Nat.le_refl _)] at this,(s1.trans s2).free st0,B.f2,B.d1,B.ds⟩
abbrev z7i:Stmt:=top 60
theorem y5i:FnScope ["weft","handed","one","at","cells","refused"] ["weft","handed","one"] (z0k z7i):=⟨rfl,rfl,rfl,by decide +kernel,rfl,by decide +kernel,by decide +kernel⟩
theorem y5x (F:Fun K "_law_unfit" "_law_unfit" z7i f fd) {CBench:Addr}(nBench:W.nsIn K mainGlobals "Bench"=some (some (.ref CBench))) {CUnlike:Addr}(nUnlike:W.nsIn K mainGlobals "Unlike"=some (some (.ref CUnlike))) (cBenchinit:MakC P w K mg base (CX1 P w) 3 CBench "Bench" ["self","weft","inputs"] (z5j CBench CUnlike)) (zlen:mg "len"=none) (eUU:W.exmOne K (.ref CUnlike) (.ref CUnlike)=some true):FnOk P w K mg base CX0 (5) f fd ["weft","handed","one"] (z9f):=by
 have sc:=y5i
 refine F.ok sc (λ vs H Q E h=>?_) (λ cdv A outer s H vs Q E hr h=>?_)
 ·obtain ⟨w,hd,lo,ou,n,Z,Ls,Xs,rfl,_⟩:=h;rfl
 obtain ⟨w,hd,lo,ou,n,Z,Ls,Xs,rfl,hw,hi,xl,gd,z1,q⟩:=h
 refine ⟨_,(@z0d _ _ _ _ _ (@z0t _ _ 3 _ _ _ _ sc.nd rfl (by first | exact Or.inl rfl | exact Or.inr rfl) (@z0p _ _ _ _ _ _ _ _ z1j (pv 2) (z1b z0v (by rfl) zlen PySem.boot_len (@z0a _ _ _ _ _ (pv 1) z0e rfl))) (by rfl) (by first | exact Or.inl rfl | exact Or.inr rfl)) (@z0d _ _ _ _ _ (@z0t _ _ 4 _ _ _ _ sc.nd rfl (by first | exact Or.inl rfl | exact Or.inr rfl) (@z0p _ _ _ _ _ _ _ _ z3v (@z0r _ _ _ _ _ _ _ z0l (@z0r _ _ _ _ _ _ _ z0l (pv 1) (pv 3) (λ _ _=>rfl)) z0c (λ _ _=>rfl)) (@z0x _ _ _ _ _ (@z0a _ _ _ _ _ z0c z0e rfl))) (by rfl) (by first | exact Or.inl rfl | exact Or.inr rfl)) (@z0d _ _ _ _ _ (@z1c _ _ _ _ _ _ _ _ (@z0j _ _ _ _ _ _ _ _ z1g (@z0p _ _ _ _ _ _ _ _ z1j (@z0p _ _ _ _ _ _ _ _ z1h (pv 2) z0c) z0c) z0c (z0o _)) (@z0g _ _ _ (@z0t _ _ 4 _ _ _ _ sc.nd rfl (by first | exact Or.inl rfl | exact Or.inr rfl) (@z2j _ _ _ _ _ _ _ _ _ _ z2z (@z0r _ _ _ _ _ _ _ z0l (@z0r _ _ _ _ _ _ _ z0l (pv 1) (pv 3) (λ _ _=>rfl)) z0c (λ _ _=>rfl)) (z3a z0c) z3b) (by rfl) (by first | exact Or.inl rfl | exact Or.inr rfl))) z0m) (@z0d _ _ _ _ _ (@z0t _ _ 5 _ _ _ _ sc.nd rfl (by first | exact Or.inl rfl | exact Or.inr rfl) z4b (by rfl) (by first | exact Or.inl rfl | exact Or.inr rfl)) (@z0d _ _ _ _ _ (y8u ⟨rfl,rfl⟩ (λ xe pn EE hx=>(@z0g _ _ _ (z1z (x7d cBenchinit hr (by rfl) hx (@z0a _ _ _ _ _ (pv 0) (@z0a _ _ _ _ _ (@z0p _ _ _ _ _ _ _ _ z3v (@z0p _ _ _ _ _ _ _ _ z3v (@z2j _ _ _ _ _ _ _ _ _ _ z2z (pv 1) z3b (z3a (pv 3))) (@z0x _ _ _ _ _ (@z0a _ _ _ _ _ (@z0x _ _ _ _ _ (@z0a _ _ _ _ _ (@z0x _ _ _ _ _ (@z0a _ _ _ _ _ (z1b (y1t (K:=K) rfl) (by rfl) zlen PySem.boot_len (@z0a _ _ _ _ _ (pv 4) z0e rfl)) z0e rfl)) (@z0a _ _ _ _ _ (pv 4) z0e rfl) rfl)) z0e rfl))) (@z2j _ _ _ _ _ _ _ _ _ _ z2z (pv 1) (z3a (@z0p _ _ _ _ _ _ _ _ z1o (pv 3) z0c)) z3b)) z0e rfl) rfl))))) (.cons (by rfl) nUnlike (λ ae pn=>(@z0g _ _ _ (@z0t _ _ 5 _ _ _ _ sc.nd rfl (by first | exact Or.inl rfl | exact Or.inr rfl) z4b (by rfl) (by first | exact Or.inl rfl | exact Or.inr rfl)))) .nil (by decide))) (@z0g _ _ _ (@z0q _ _ _ _ (pv 5)))))))),?_⟩
 simp only [L2.start,List.length_cons,List.length_nil,List.replicate,List.cons_append,List.nil_append,Nat.reduceSub,Nat.reduceAdd,List.map_cons,List.map_nil]
 obtain ⟨ts,hts,ht⟩:=hi
 have xp:0 < Xs.length:=by rw [xl];exact x7u hw.lk
 have x3:Xs.length≤3:=by rw [xl];exact y0h Ls 3
 refine z0h (λ σ G=>∃m:Nat,m < Xs.length/\G=H/\σ=[some (.ref w),some (.ref hd),some (.int n),some (.int (m:Int)),none,none]) ?_ (λ R hR=>?_)
 rotate_left
 ·wp_walk using z1a,z0y,inV,eqV
  refine ⟨_,.inr (.of hts),?_⟩
  rw [List.length_map,ht.1]
  refine ⟨by lia,hR _ _ ⟨(n % (Xs.length:Int)).toNat,?_,rfl,?_⟩⟩
  ·have:=Int.emod_lt_of_pos n (show (0:Int) < Xs.length by lia);have:=Int.emod_nonneg n (show (Xs.length:Int)≠0 by lia);lia
  ·rw [show (((n % (Xs.length:Int)).toNat:Nat):Int)=n % (Xs.length:Int) by have:=Int.emod_nonneg n (show (Xs.length:Int)≠0 by lia);lia]
 rintro σ1 G1 ⟨m,ml,rfl,rfl⟩
 obtain ⟨t,sa,ca,et,h1,h2⟩:=ht.2 m _ (List.getElem?_eq_getElem ml)
 have eti:atI (ts.map V.ref) (m:Int)=some (.ref t):=z0i (j:=m) (v:=V.ref t) (by rw [List.getElem?_map,et];rfl)
 have xm:1≤Xs[m].length/\Xs[m].length≤8:=by
  have n2:m < (z2c Ls 3).length:=by lia
  have e1:((z2c Ls 3).zip Xs)[m]?=some ((z2c Ls 3)[m],Xs[m]):=List.getElem?_zip_eq_some.mpr ⟨List.getElem?_eq_getElem n2,List.getElem?_eq_getElem ml⟩
  have a:=gd _ (List.mem_of_getElem? e1)
  have im:=y3h (List.getElem_mem n2)
  have kl:(z2c Ls 3)[m].toNat < Z.length:=by rw [hw.zl];lia
  have zm:Z.getD (z2c Ls 3)[m].toNat 0∈Z:=by rw [List.getD_eq_getElem?_getD,List.getElem?_eq_getElem kl];exact List.getElem_mem kl
  have a:Xs[m].length=Z.getD (z2c Ls 3)[m].toNat 0:=a
  rw [a];exact ⟨z1 _ zm,hw.z8 _ zm⟩
 refine z0h (λ σ G=>∃(c:Addr) (x:List Int),Same G1 G/\G c=some (.tup (x.map V.int))/\x.length≠Xs[m].length/\x.length≤9/\σ=[some (.ref w),some (.ref hd),some (.int n),some (.int (m:Int)),some (.ref c),none]) ?_ (λ R hR=>?_)
 rotate_left
 ·wp_walk using z1a,z0y,inV,eqV
  refine ⟨_,hts,_,eti,t,rfl,_,h1,_,z0i (j:=1) rfl,small (by decide),λ p1 hp1=>?_⟩
  refine ⟨_,rfl,_,z0b hp1 _ _ _ h2,small (by rw [List.length_map];lia),λ r G2 s2 hr=>hR _ _ ⟨r,Xs[m]++[7],(z0b hp1 _).trans s2,by rw [hr,List.map_append];rfl,by rw [List.length_append];simp,by rw [List.length_append];simp only [List.length_cons,List.length_nil];lia,rfl⟩⟩
 rintro σ2 G2 ⟨c2,x2,s2,hc2,x2n,x29,rfl⟩
 refine z0h (λ σ G=>∃(c:Addr) (x:List Int),Same G1 G/\G c=some (.tup (x.map V.int))/\x.length≠Xs[m].length/\x.length≤9/\σ=[some (.ref w),some (.ref hd),some (.int n),some (.int (m:Int)),some (.ref c),none]) ?_ (λ R hR=>?_)
 rotate_left
 ·wp_walk using z1a,z0y,inV,eqV
  split
  ·refine ⟨_,s2 _ _ hts,_,eti,t,rfl,_,s2 _ _ h1,_,z0i (j:=1) rfl,ca,rfl,_,s2 _ _ h2,λ r G3 s3 hr=>hR _ _ ⟨r,Xs[m].drop 1,s2.trans s3,?_,by rw [List.length_drop];lia,by rw [List.length_drop];lia,rfl⟩⟩
   rw [hr,show (some 1:Option Int)=some ((1:Nat):Int) from rfl,y0n]
  ·exact hR _ _ ⟨c2,x2,s2,hc2,x2n,x29,rfl⟩
 rintro σ3 G3 ⟨c,x,s3,hc,xn,x9,rfl⟩
 refine z0h (λ σ G=>G=G3/\σ=[some (.ref w),some (.ref hd),some (.int n),some (.int (m:Int)),some (.ref c),some (.bl false)]) ?_ (λ R hR=>?_)
 rotate_left
 ·wp_walk using z1a,z0y,inV,eqV
  exact hR _ _ ⟨rfl,rfl⟩
 rintro σ4 G4 ⟨rfl,rfl⟩
 wp_walk using z1a,z0y,inV,eqV,z5j
 have tl:ts.length≤3:=by rw [ht.1];exact x3
 refine ⟨_,s3 _ _ hts,λ r1 K1 t1 e1=>⟨_,.inr (.of (t1 _ _ hc)),small (by decide),λ p1 h1=>⟨small (by decide),λ p2 h2=>⟨small (by decide),λ p3 h3=>⟨_,z0b h3 _ _ _ (z0b h2 _ _ _ (z0b h1 _ _ _ e1)),small (by rw [y3n,List.length_take,List.length_map];lia),λ r2 K2 t2 e2=>?_⟩⟩⟩⟩⟩
 have v1:=z0b h1 (.tup [V.int (((x.map V.int).length:Nat):Int)])
 have v2:=z0b h2 (.tup [V.ref p1,V.ref c])
 have v3:=z0b h3 (.tup [V.ref p2])
 have s2':=s3.trans (t1.trans (v1.trans (v2.trans (v3.trans t2))))
 refine ⟨_,s2' _ _ hts,λ r3 K3 t3 e3=>⟨_,t3 _ _ e2,_,e3,?_,λ r4 K4 t4 e4=>?_⟩⟩
 ·rw [y3n,show ((m:Int)+1)=((m+1:Nat):Int) by lia,y1l]
  exact small (by rw [List.length_append,List.length_take,List.length_drop,List.length_map];simp only [List.length_cons,List.length_nil];lia)
 rw [y3n,show ((m:Int)+1)=((m+1:Nat):Int) by lia,y1l] at e4
 have e4:K4 r4=some (.tup ((ts.set m p2).map V.ref)):=by
  rw [e4,← y7x (by rw [ht.1];exact ml),List.map_append,List.map_append,List.map_take,List.map_drop];rfl
 intro x' dx hx hdx ne
 have sB:=(z0b hdx (.own x')).trans (z0b (show upd K4 dx (.own x') x'=none by rw [z0n (λ z=>ne z.symm)];exact hx) (.ins CBench dx []))
 have s4':=s2'.trans (t3.trans (t4.trans sB))
 exact ⟨dx,rfl,lo,ou,Z,Ls,hw.up (.of s4'),Xs.set m x,⟨ts.set m p2,sB _ _ e4,TabsZ.set (sa:=p1) (ca:=c) (ht.up (.of s4')) ((v3.trans (t2.trans (t3.trans (t4.trans sB)))) _ _ z0f) ((t1.trans (v1.trans (v2.trans (v3.trans (t2.trans (t3.trans (t4.trans sB))))))) _ _ hc)⟩,by rw [List.length_set];exact xl,λ _ H' s'=>.inl ⟨eUU,q _ (s4'.trans s')⟩,λ g=>absurd g (w3e xl gd ml xn)⟩
abbrev w3o:Stmt:=top 61
theorem w3q:FnScope ["script","loops","weft","handed","stores","bench","left","loop","log","done","calls","one","n","number","word","rows","more","told","store","spot","made"] ["script"] (z0k w3o):=⟨rfl,rfl,rfl,by decide +kernel,rfl,by decide +kernel,by decide +kernel⟩
theorem w4b (F:Fun K "law" "law" w3o f fd) {CBench:Addr}(nBench:W.nsIn K mainGlobals "Bench"=some (some (.ref CBench))) {CUnlike:Addr}(nUnlike:W.nsIn K mainGlobals "Unlike"=some (some (.ref CUnlike))) (clawloop:Callee P w K mg base CX0 (11) "_law_loop" ["n"] z7h) (clawmixed:Callee P w K mg base CX0 (11) "_law_mixed" ["script","k"] (z3m K)) (clawbegun:Callee P w K mg base CX0 (11) "_law_begun" ["script","loops","row"] (z9i K)) (clawunfit:Callee P w K mg base CX0 (11) "_law_unfit" ["weft","handed","one"] z9f) (clawrounds:Callee P w K mg base CX0 (11) "_law_rounds" ["loop"] z2m) (clawpicked:Callee P w K mg base CX0 (11) "_law_picked" ["loops","n"] z7f) (clawdue:Callee P w K mg base CX0 (11) "_law_due" ["loops","stores","done","loop","number"] y7s) (clawasked:Callee P w K mg base CX0 (11) "_law_asked" ["bench","loop","number"] (z9j CBench)) (clawlooks:Callee P w K mg base CX0 (11) "_law_looks" ["bench","n","stores","left","log","calls"] (z6s CBench)) (clawearly:Callee P w K mg base CX0 (11) "_law_early" ["bench"] (z9h CBench)) (cBenchinit:MakC P w K mg base (CX1 P w) 10 CBench "Bench" ["self","weft","inputs"] (z5j CBench CUnlike)) (zrange:mg "range"=none) (zsum:mg "sum"=none) (zlen:mg "len"=none) (zint:mg "int"=none) (BC:BenCls K CBench):FnOk P w K mg base CX0 (12) f fd ["script"] ((x2e K)):=by
 have sc:=w3q
 refine F.ok sc (λ vs H Q E h=>?_) (λ cdv A outer s H vs Q E hr h=>?_)
 ·obtain ⟨a,ns,rfl,_⟩:=h;rfl
 obtain ⟨a,ns,rfl,hS,h63,q⟩:=h
 refine ⟨_,(z0d (z9v (own:=["k"]) (fv:=["script"]) (js:=[0]) sc.nd (i:=1) rfl (by first | exact Or.inl rfl | exact Or.inr rfl) (by first | exact Or.inl rfl | exact Or.inr rfl) rfl (z1s (by rfl) zrange (z0a z0c z0e)) rfl (by decide) rfl (by decide) (by first | exact λ _ _ h=>h | exact z5c rfl | exact z5b rfl rfl | exact z5a rfl rfl rfl) (z8a (by rfl)) rfl (x9c (by first | exact ⟨rfl,.inl rfl,.inl rfl⟩ | exact ⟨rfl,.inl rfl,.inr rfl⟩)) (λ _ _ _ _=>(z0w (i:=0) (show (["k","script"]:List Str).Nodup by decide +kernel) rfl (by first | exact Or.inl rfl | exact Or.inr rfl))) (λ _ _ _ _=>(z0z clawloop hr (by rfl) z1f (z0a (z0z clawmixed hr (by rfl) z1f (z0a (pv 1) (z0a (pv 0) z0e))) z0e)))) (z0d (z5p (z0z clawbegun hr (by rfl) z1f (z0a (pv 0) (z0a (pv 1) (z0a (z0p x7l (pv 0) (z1n (z0a z0c z0e))) z0e)))) (z2i (n:=3) (z3j rfl (z1d (z0w (i:=2) sc.nd rfl (by first | exact Or.inl rfl | exact Or.inr rfl)) (z1d (z0w (i:=3) sc.nd rfl (by first | exact Or.inl rfl | exact Or.inr rfl)) (z1d (z0w (i:=4) sc.nd rfl (by first | exact Or.inl rfl | exact Or.inr rfl)) z2h)))))) (z0d (z1c (y0y (z8n (z0z clawunfit hr (by rfl) z1f (z0a (pv 2) (z0a (pv 3) (z0a (z1b (y1r rfl) (by rfl) zsum boot_sum (z0a (pv 0) z0e)) z0e)))))) (z0g (z0q z4b)) z0m) (z0d (z0t (i:=5) sc.nd rfl (by first | exact Or.inl rfl | exact Or.inr rfl) (w1c cBenchinit hr (by rfl) x5i (z0a (pv 2) (z0a (pv 3) z0e)))) (z0d (z0t (i:=6) sc.nd rfl (by first | exact Or.inl rfl | exact Or.inr rfl) (z1n z0e)) (z0d (z2g PassesOwn.never rfl (z1s (by rfl) zrange (z0a z0c z0e)) (z0w (i:=7) sc.nd rfl (by first | exact Or.inl rfl | exact Or.inr rfl)) (z0g (z0t (i:=6) sc.nd rfl (by first | exact Or.inl rfl | exact Or.inr rfl) (z0p w1f (pv 6) (z9z (own:=["number"]) (fv:=["loop"]) (js:=[7]) rfl (z1s (by rfl) zrange (z0a (z1b z0v (by rfl) zlen PySem.boot_len (z0a (z0z clawrounds hr (by rfl) z1f (z0a (z0r z0u (pv 1) (pv 7) (λ _ _=>rfl)) z0e)) z0e)) z0e)) rfl (by decide) rfl (by decide) (by first | exact λ _ _ h=>h | exact z5c rfl | exact z5b rfl rfl | exact z5a rfl rfl rfl) (z8a (by rfl)) rfl (x9c (by first | exact ⟨rfl,.inl rfl,.inl rfl⟩ | exact ⟨rfl,.inl rfl,.inr rfl⟩)) (λ _ _ _ _=>(z0w (i:=0) (show (["number","loop"]:List Str).Nodup by decide +kernel) rfl (by first | exact Or.inl rfl | exact Or.inr rfl))) (λ _ _ _ _=>(z0x (z0a (pv 1) (z0a (pv 0) z0e))))))))) (z0d (z0t (i:=8) sc.nd rfl (by first | exact Or.inl rfl | exact Or.inr rfl) (z1n z0e)) (z0d (z0t (i:=9) sc.nd rfl (by first | exact Or.inl rfl | exact Or.inr rfl) y4g) (z0d (z0t (i:=10) sc.nd rfl (by first | exact Or.inl rfl | exact Or.inr rfl) z0c) (z0d (z2g PassesOwn.never rfl (z3t (pv 0)) (z0w (i:=11) sc.nd rfl (by first | exact Or.inl rfl | exact Or.inr rfl)) (z0d (z0t (i:=12) sc.nd rfl (by first | exact Or.inl rfl | exact Or.inr rfl) (z0p z1o (z0p y0a (z0p z3d (pv 11) z0c) z0c) (z0p z3d (z0p z1j (pv 11) z0c) z0c))) (z0d (z5p (z0z clawpicked hr (by rfl) z1f (z0a (pv 1) (z0a (pv 12) z0e))) (z2i (n:=2) (z3j rfl (z1d (z0w (i:=7) sc.nd rfl (by first | exact Or.inl rfl | exact Or.inr rfl)) (z1d (z0w (i:=13) sc.nd rfl (by first | exact Or.inl rfl | exact Or.inr rfl)) z2h))))) (z0d (z5p (z0z clawdue hr (by rfl) z1f (z0a (pv 1) (z0a (pv 4) (z0a (pv 9) (z0a (pv 7) (z0a (pv 13) z0e)))))) (z2i (n:=3) (z3j rfl (z1d (z0w (i:=14) sc.nd rfl (by first | exact Or.inl rfl | exact Or.inr rfl)) (z1d (z0w (i:=15) sc.nd rfl (by first | exact Or.inl rfl | exact Or.inr rfl)) (z1d (z0w (i:=16) sc.nd rfl (by first | exact Or.inl rfl | exact Or.inr rfl)) z2h)))))) (z0d (z0t (i:=17) sc.nd rfl (by first | exact Or.inl rfl | exact Or.inr rfl) (z0z clawasked hr (by rfl) z1f (z0a (pv 5) (z0a (pv 7) (z0a (pv 13) z0e))))) (z0d (z1c (PW.pt (z3s (PW.pt (y4b (z0j z8g (pv 14) z0s (z0o _)) (z9t (z0j (w1e hr.units0) (pv 17) (z1n (z0a (pv 14) (z0a z4b z0e))) (z0o _))))) (z3i (PW.pt (y4b (z0j z1g (pv 14) z0s (z0o _)) (z9t (PW.pt (z3s (z0j z8g (z1b z0v (by rfl) zlen PySem.boot_len (z0a (pv 17) z0e)) z0c (z0o _)) (z3i (z0j x7j (z0r z0u (pv 17) z0c (λ _ _=>rfl)) z4b (z0o _))))))))))) (z0g (z0q z4b)) z0m) (z0d (z1c (z0j z1g (pv 14) z0s (z0o _)) (z0d (z0t (i:=18) sc.nd rfl (by first | exact Or.inl rfl | exact Or.inr rfl) (z0r z0l (z0r z0u (pv 1) (pv 7) (λ _ _=>rfl)) (z0p z1o z0c (z1x z5v (by rfl) zint boot_int (z0a (z7r z1g (z0r z0l (z0r z0u (pv 1) (pv 7) (λ _ _=>rfl)) z0c (λ _ _=>rfl)) z0s (z0o _)) z0e))) (λ _ _=>rfl))) (z0d (z2g PassesOwn.never rfl (z3t (pv 15)) (z2i (n:=2) (z3j rfl (z1d (z0w (i:=19) sc.nd rfl (by first | exact Or.inl rfl | exact Or.inr rfl)) (z1d (z0w (i:=20) sc.nd rfl (by first | exact Or.inl rfl | exact Or.inr rfl)) z2h)))) (z0d (z5p (pv 20) (y9c (z0r z0u (pv 4) (pv 18) (λ _ _=>rfl)) (pv 19) z9p)) (z0g (z1z (z5q (pv 8) (z0x (z0a (pv 7) (z0a (pv 13) (z0a (pv 18) (z0a (pv 19) (z0a (pv 20) z0e))))))))))) (z0d (y8v (hu1 hr) (pv 9) (z0x (z0a (pv 7) (z0a (pv 13) z0e))) z4b rfl) (z0d (z1z (w1d PySem.F.plainAttrs_list PySem.F.slot_list_remove PySem.F.type_list_remove (y9w (hu1 hr)) (pv 6) (z0a (z0x (z0a (pv 7) (z0a (pv 13) z0e))) z0e))) (z0g (z0t (i:=10) sc.nd rfl (by first | exact Or.inl rfl | exact Or.inr rfl) (z0p z1o (pv 10) (pv 16)))))))) z0m) (z0d (z1c (y0y (z8n (z0z clawlooks hr (by rfl) z1f (z0a (pv 5) (z0a (z0p z1h (pv 12) z0c) (z0a (pv 4) (z0a (pv 6) (z0a (pv 8) (z0a (pv 10) z0e))))))))) (z0g (z0q z4b)) z0m) (z0g (z1c (PW.pt (y4b (z0j y5s (z1b z0v (by rfl) zlen PySem.boot_len (z0a (pv 6) z0e)) z0c (z0o _)) (z9t (y0y (z8n (z0z clawearly hr (by rfl) z1f (z0a (pv 5) z0e))))))) (z0g (z0q z4b)) z0m)))))))))) (z0g (z0q (z0z clawlooks hr (by rfl) z1f (z0a (pv 5) (z0a z0c (z0a (pv 4) (z0a (pv 6) (z0a (pv 8) (z0a (pv 10) z0e))))))))))))))))))),?_⟩
 simp only [L2.start,List.length_cons,List.length_nil,List.replicate,List.cons_append,List.nil_append,Nat.reduceSub,Nat.reduceAdd,List.map_cons,List.map_nil]
 refine z0h (λ σ G=>∃(la:Addr) (las:List Addr) (Ls:List Lp),Same H G/\H la=none/\G la=some (.lst (las.map V.ref))/\LpsAt G las Ls/\LsOk Ls/\σ=[some (.ref a),some (.ref la),none,none,none,none,none,none,none,none,none,none,none,none,none,none,none,none,none,none,none]) ?_ (λ R hR=>?_)
 rotate_left
 ·wp_walk using z1a,z0y,inV,eqV
  refine CompR.mk (λ i ys σ G=>∃(las:List Addr) (Ls:List Lp),ys=las.map V.ref/\Ls.length=i/\i≤3/\Same H G/\LpsAt G las Ls/\(∀L∈Ls,LpOk L)/\∃y,σ=[y,some (.ref a)]) ⟨[],[],rfl,rfl,Nat.zero_le _,Same.refl _,⟨rfl,λ i L e=>by simp at e⟩,(λ L hL=>nomatch hL),_,rfl⟩ (λ i ys σ G hi h=>?_) (λ ys σ G h l hl=>?_)
  ·obtain ⟨las,Ls,rfl,ll,_,sG,hls,lk,y,rfl⟩:=h
   refine ⟨z1e (by rw [List.length_map,hls.1];lia),?_⟩
   wp_walk using z1a,z0y,inV,eqV,z3m,z7h
   refine ⟨ns,i,by lia,sG.seq hS,by lia,λ n _ _ H' p L s' hL ok=>⟨las++[p],by rw [List.map_append];rfl,Ls++[L],by rw [List.length_append,ll];rfl,by lia,sG.trans s',(hls.up (.of s')).snoc hL,λ L' hL'=>?_,_,rfl⟩⟩
   rcases List.mem_append.mp hL' with z | z
   ·exact lk L' z
   ·cases List.mem_singleton.mp z;exact ok
  ·obtain ⟨las,Ls,rfl,ll,_,sG,hls,lk,y,rfl⟩:=h
   exact hR _ _ ⟨l,las,Ls,sG.trans (z0b hl _),sG.free hl,z0f,hls.up (.of (z0b hl _)),⟨ll,lk⟩,rfl⟩
 rintro σ1 G1 ⟨la,las,Ls,s1,la0,hla,hls,lk,rfl⟩
 refine z0h (λ σ G=>∃(w hd sa lo ou:Addr) (Z:List Nat) (Xs:List (List Int)) (scs:List Addr),Same G1 G/\BegZ G1 G w hd sa lo ou Z Ls Xs scs/\σ=[some (.ref a),some (.ref la),some (.ref w),some (.ref hd),some (.ref sa),none,none,none,none,none,none,none,none,none,none,none,none,none,none,none,none]) ?_ (λ R hR=>?_)
 rotate_left
 ·wp_walk using z1a,z0y,inV,eqV,z9i
  refine ⟨small (by decide),λ p1 h1=>⟨_,(s1.trans (z0b h1 _)).seq hS,_,.of z0f,small (by rw [List.length_map];simp only [List.length_cons,List.length_nil];lia),λ p2 h2=>?_⟩⟩
  have t:=(z0b h1 (.lst [V.int 11])).trans (z0b h2 (.lst (ns.map V.int++[V.int 11])))
  exact ⟨ns,(s1.trans t).seq hS,λ G s=>(s1.trans (t.trans s)).seq hS,ns++[11],las,t _ _ hla,Ls,hls.up (.of t),lk,by rw [List.map_append];rfl,by simp,by rw [List.length_append];simp only [List.length_cons,List.length_nil];lia,λ H' p w hd sa lo ou Z Xs scs s' hp B=>⟨_,hp,rfl,_,_,rfl,_,_,rfl,_,_,rfl,rfl,hR _ _ ⟨w,hd,sa,lo,ou,Z,Xs,scs,t.trans s',⟨B.hw,B.hi,B.xl,B.gd,B.sz,B.z1,B.hst,B.hss,t.free B.f1,λ c hc=>t.free (B.f2 c hc),B.d1,B.ds⟩,rfl⟩⟩⟩
 rintro σ2 G2 ⟨w,hd,sa,lo,ou,Z,Xs,scs,s2,B,rfl⟩
 have s02:=s1.trans s2
 refine z0h (λ σ G=>Same G2 G/\σ=[some (.ref a),some (.ref la),some (.ref w),some (.ref hd),some (.ref sa),none,none,none,none,none,none,none,none,none,none,none,none,none,none,none,none]) ?_ (λ R hR=>?_)
 rotate_left
 ·wp_walk using z1a,z0y,inV,eqV,z9f
  exact ⟨ns,s02.seq hS,lo,ou,Z,Ls,B.hw,Xs,B.hi,B.xl,B.gd,B.z1,λ H' s'=>hR _ _ ⟨s',rfl⟩⟩
 rintro σ3 G3 ⟨s3,rfl⟩
 have s03:=s02.trans s3
 refine z0h (λ σ G=>∃(b:Addr) (A:BA3),Same G3 G/\BenZ CBench G b A Ls ⟨z4y (z4k Z) ((z2c Ls 3).zip Xs),[],[],0⟩/\(∀x,(x=b\/x=A.lc\/x∈A.cs\/x=A.d\/x=A.lg)->G3 x=none)/\σ=[some (.ref a),some (.ref la),some (.ref w),some (.ref hd),some (.ref sa),some (.ref b),none,none,none,none,none,none,none,none,none,none,none,none,none,none,none]) ?_ (λ R hR=>?_)
 rotate_left
 ·wp_walk using z1a,z0y,inV,eqV,z5j
  intro x dx hx hdx ne
  have sB:=(z0b hdx (.own x)).trans (z0b (show upd G3 dx (.own x) x=none by rw [z0n (λ z=>ne z.symm)];exact hx) (.ins CBench dx []))
  refine ⟨dx,rfl,lo,ou,Z,Ls,B.hw.up (.of (s3.trans sB)),Xs,B.hi.up (.of (s3.trans sB)),B.xl,λ ng=>absurd B.gd ng,λ g H' A k f1 f2 f3 f4 hB=>hR _ _ ⟨x,A,λ y o e=>k y o (λ z=>by rw [z,hx] at e;cases e) (sB _ _ e),hB B.sz,λ y hy=>?_,rfl⟩⟩
  rcases hy with rfl | rfl | hy | rfl | rfl
  ·exact hx
  ·exact sB.free f1
  ·exact sB.free (f2 _ hy)
  ·exact sB.free f3
  ·exact sB.free f4
 rintro σ4 G4 ⟨b,A,s4,hb,nb,rfl⟩
 have s04:=s03.trans s4
 have s14:=s2.trans (s3.trans s4)
 have s24:=s3.trans s4
 refine z0h (λ σ G=>∃lf,Same G4 G/\G lf=some (.lst [])/\G4 lf=none/\σ=[some (.ref a),some (.ref la),some (.ref w),some (.ref hd),some (.ref sa),some (.ref b),some (.ref lf),none,none,none,none,none,none,none,none,none,none,none,none,none,none]) ?_ (λ R hR=>?_)
 rotate_left
 ·wp_walk using z1a,z0y,inV,eqV
  exact ⟨small (by decide),λ p hp=>hR _ _ ⟨p,z0b hp _,z0f,hp,rfl⟩⟩
 rintro σ5 G5 ⟨lf0,s5,hlf0,fr0,rfl⟩
 refine z0h (λ σ G=>∃(lf:Addr) (ps:List Addr) (y7:Option V),Same G4 G/\G lf=some (.lst (ps.map V.ref))/\TupsAt G ps (prI (y3v Ls 3))/\G4 lf=none/\σ=[some (.ref a),some (.ref la),some (.ref w),some (.ref hd),some (.ref sa),some (.ref b),some (.ref lf),y7,none,none,none,none,none,none,none,none,none,none,none,none,none]) ?_ (λ R hR=>?_)
 rotate_left
 ·wp_walk using z1a,z0y,inV,eqV
  obtain ⟨J,hJ⟩:∃J:Nat->L2.St->Hp->Prop,J=(λ i σ G=>∃(lf:Addr) (ps:List Addr) (y7:Option V),i≤3/\Same G4 G/\G lf=some (.lst (ps.map V.ref))/\TupsAt G ps (prI (y3v Ls i))/\G4 lf=none/\σ=[some (.ref a),some (.ref la),some (.ref w),some (.ref hd),some (.ref sa),some (.ref b),some (.ref lf),y7,none,none,none,none,none,none,none,none,none,none,none,none,none]):=⟨_,rfl⟩
  refine LoopR.mk J (by rw [hJ];exact ⟨lf0,[],_,Nat.zero_le _,s5,hlf0,TupsAt.nil,fr0,rfl⟩) (λ i σ G hi h=>?_) (λ σ G h=>?_)<;>rw [hJ] at h
  ·obtain ⟨lf,ps,y7,i3,sG,hlf,hps,fr,rfl⟩:=h
   obtain ⟨L,eL⟩:∃L,Ls[i]?=some L:=⟨_,List.getElem?_eq_getElem (by rw [lk.ll];exact hi)⟩
   obtain ⟨lp,elp,hlp⟩:=hls.2 i L eL
   have ok:=lk.lk L (List.mem_of_getElem? eL)
   have s1G:=s14.trans sG
   have rk:rkZ Ls i=(z1t L.sd).toNat:=by unfold rkZ;rw [eL]
   have rk8:=x6n lk i
   have al:=y0o lk i
   wp_walk using z1a,z0y,inV,eqV,z2m
   rw [Int.zero_add]
   refine ⟨_,s1G _ _ hla,_,z0i (j:=i) (v:=.ref lp) (by rw [List.getElem?_map,elp];rfl),lp,rfl,L,hlp.up (.of s1G),ok,λ K1 l1 ps1 t1 hl1 hp1=>⟨_,.inl (.of hl1),?_⟩⟩
   have pl1:ps1.length=rkZ Ls i:=by rw [hp1.1,List.length_map,List.length_range,rk]
   rw [List.length_map,pl1]
   refine ⟨by lia,by lia,?_⟩
   rw [Int.toNat_natCast]
   refine CompR.mk (λ j ys σ G'=>∃qs:List Addr,ys=qs.map V.ref/\j≤rkZ Ls i/\Same K1 G'/\TupsAt G' qs (prI ((List.range j).map λ r=>(i,r)))/\∃y,σ=[y,some (.int (i:Int))]) ⟨[],rfl,Nat.zero_le _,Same.refl _,TupsAt.nil,_,rfl⟩ (λ j ys σ G' hj h=>?_) (λ ys σ G' h l7 h7=>?_)
   ·obtain ⟨qs,rfl,_,sG',hq,y,rfl⟩:=h
    have ql:=hq.1
    rw [prI,List.length_map,List.length_map,List.length_range] at ql
    refine ⟨z1e (by rw [List.length_map];lia),?_⟩
    wp_walk using z1a,z0y,inV,eqV
    refine ⟨small (by decide),λ p' hp'=>⟨qs++[p'],by rw [List.map_append];rfl,by lia,sG'.trans (z0b hp' _),?_,_,rfl⟩⟩
    rw [List.range_succ,List.map_append,prI,List.map_append]
    refine (hq.up (.of (z0b hp' _))).snoc ?_
    rw [z0f,Int.zero_add];rfl
   ·obtain ⟨qs,rfl,_,sG',hq,y,rfl⟩:=h
    have t7:=t1.trans (sG'.trans (z0b h7 (.lst (qs.map V.ref))))
    have ql:=hq.1
    rw [prI,List.length_map,List.length_map,List.length_range] at ql
    have pl:=hps.1
    rw [prI,List.length_map] at pl
    refine ⟨_,rfl,_,t7 _ _ hlf,_,z0f,small (by rw [List.length_map,List.length_map];lia),λ l8 h8=>?_⟩
    have t8:=t7.trans (z0b h8 (.lst (ps.map V.ref++qs.map V.ref)))
    rw [hJ]
    refine ⟨l8,ps++qs,_,by lia,sG.trans t8,by rw [z0f,List.map_append],?_,(sG.trans t7).free h8,rfl⟩
    rw [z5w,prI,List.map_append]
    exact (hps.up (.of t8)).app (hq.up (.of ((z0b h7 _).trans (z0b h8 _))))
  ·obtain ⟨lf,ps,y7,_,sG,hlf,hps,fr,rfl⟩:=h
   exact hR _ _ ⟨lf,ps,y7,sG,hlf,hps,fr,rfl⟩
 rintro σ6 G6 ⟨lf,ps,y7,s6,hlf,hps,frf,rfl⟩
 refine z0h (λ σ G=>∃lg,Same G6 G/\G lg=some (.lst [])/\G6 lg=none/\σ=[some (.ref a),some (.ref la),some (.ref w),some (.ref hd),some (.ref sa),some (.ref b),some (.ref lf),y7,some (.ref lg),none,none,none,none,none,none,none,none,none,none,none,none]) ?_ (λ R hR=>?_)
 rotate_left
 ·wp_walk using z1a,z0y,inV,eqV
  exact ⟨small (by decide),λ p hp=>hR _ _ ⟨p,z0b hp _,z0f,hp,rfl⟩⟩
 rintro σ7 G7 ⟨lg,s7,hlg,frg,rfl⟩
 refine z0h (λ σ G=>∃da,Same G7 G/\G da=some (.dT [])/\G7 da=none/\σ=[some (.ref a),some (.ref la),some (.ref w),some (.ref hd),some (.ref sa),some (.ref b),some (.ref lf),y7,some (.ref lg),some (.ref da),none,none,none,none,none,none,none,none,none,none,none]) ?_ (λ R hR=>?_)
 rotate_left
 ·wp_walk using z1a,z0y,inV,eqV
  exact λ d hd=>hR _ _ ⟨d,z0b hd _,z0f,hd,rfl⟩
 rintro σ8 G8 ⟨da,s8,hda,frd,rfl⟩
 refine z0h (λ σ G=>G=G8/\σ=[some (.ref a),some (.ref la),some (.ref w),some (.ref hd),some (.ref sa),some (.ref b),some (.ref lf),y7,some (.ref lg),some (.ref da),some (.int 0),none,none,none,none,none,none,none,none,none,none]) ?_ (λ R hR=>?_)
 rotate_left
 ·wp_walk using z1a,z0y,inV,eqV
  exact hR _ _ ⟨rfl,rfl⟩
 rintro σ9 G9 ⟨rfl,rfl⟩
 have s49:=s6.trans (s7.trans s8)
 have s09:=s04.trans s49
 have ex3:∀x,(x∈scs\/x=sa\/x=la)->∃o,G3 x=some o:=λ x hx=>by
  rcases hx with hx | rfl | rfl
  ·obtain ⟨i,hi,e⟩:=List.getElem_of_mem hx
   obtain ⟨p,ep,hp⟩:=B.hss.2 i _ (List.getElem?_eq_getElem (by rw [← B.hss.1];exact hi))
   rw [List.getElem?_eq_getElem hi,e] at ep
   cases ep
   exact ⟨_,s3 _ _ hp⟩
  ·exact ⟨_,s3 _ _ B.hst⟩
  ·exact ⟨_,(s2.trans s3) _ _ hla⟩
 have exb:∀x,(x=b\/x=A.lc\/x∈A.cs\/x=A.d\/x=A.lg)->∃o,G4 x=some o:=λ x hx=>by
  rcases hx with rfl | rfl | hx | rfl | rfl
  ·exact ⟨_,hb.hb⟩
  ·exact ⟨_,hb.hlc⟩
  ·obtain ⟨i,hi,e⟩:=List.getElem_of_mem hx
   obtain ⟨p,ep,hp⟩:=hb.hcs.2 i _ (List.getElem?_eq_getElem (by rw [← hb.hcs.1];exact hi))
   rw [List.getElem?_eq_getElem hi,e] at ep
   cases ep
   exact ⟨_,hp⟩
  ·exact ⟨_,hb.hd⟩
  ·obtain ⟨_,h,_⟩:=hb.hlg;exact ⟨_,h⟩
 have ne1:∀ {x y:Addr},(x∈scs\/x=sa\/x=la)->(y=b\/y=A.lc\/y∈A.cs\/y=A.d\/y=A.lg)->x≠y:=λ hx hy z=>by
  obtain ⟨o,e⟩:=ex3 _ hx
  rw [z,nb _ hy] at e;cases e
 have ne2:∀ {x y:Addr},G4 x=none->(y=b\/y=A.lc\/y∈A.cs\/y=A.d\/y=A.lg)->x≠y:=λ hx hy z=>by
  obtain ⟨o,e⟩:=exb _ hy
  rw [← z,hx] at e;cases e
 have ne3:∀ {x y:Addr},(x∈scs\/x=sa\/x=la)->G4 y=none->x≠y:=λ hx hy z=>by
  obtain ⟨o,e⟩:=ex3 _ hx
  rw [z,s4.free hy] at e;cases e
 have frg4:=s6.free frg
 have frd4:=(s6.trans s7).free frd
 have D:DisZ H la sa da lf lg b scs A:=by
  refine ⟨λ x hx=>?_,λ x hx=>?_,⟨λ z=>?_,B.d1,λ z=>ne3 (.inl z) frf rfl,λ z=>ne3 (.inl z) frg4 rfl⟩,⟨ne3 (.inr (.inr rfl)) frf,ne3 (.inr (.inr rfl)) frg4,ne3 (.inr (.inl rfl)) frf,ne3 (.inr (.inl rfl)) frg4,λ z=>by rw [z,frg] at hlf;cases hlf⟩,B.ds⟩
  ·rcases hx with hx | rfl | rfl | rfl | rfl | rfl
   ·exact ⟨ne1 (.inl hx) (.inl rfl),λ z=>ne1 (.inl hx) (.inr (.inr (.inl z))) rfl,ne1 (.inl hx) (.inr (.inr (.inr (.inl rfl)))),ne1 (.inl hx) (.inr (.inr (.inr (.inr rfl)))),ne1 (.inl hx) (.inr (.inl rfl))⟩
   ·exact ⟨ne1 (.inr (.inl rfl)) (.inl rfl),λ z=>ne1 (.inr (.inl rfl)) (.inr (.inr (.inl z))) rfl,ne1 (.inr (.inl rfl)) (.inr (.inr (.inr (.inl rfl)))),ne1 (.inr (.inl rfl)) (.inr (.inr (.inr (.inr rfl)))),ne1 (.inr (.inl rfl)) (.inr (.inl rfl))⟩
   ·exact ⟨ne1 (.inr (.inr rfl)) (.inl rfl),λ z=>ne1 (.inr (.inr rfl)) (.inr (.inr (.inl z))) rfl,ne1 (.inr (.inr rfl)) (.inr (.inr (.inr (.inl rfl)))),ne1 (.inr (.inr rfl)) (.inr (.inr (.inr (.inr rfl)))),ne1 (.inr (.inr rfl)) (.inr (.inl rfl))⟩
   ·exact ⟨ne2 frf (.inl rfl),λ z=>ne2 frf (.inr (.inr (.inl z))) rfl,ne2 frf (.inr (.inr (.inr (.inl rfl)))),ne2 frf (.inr (.inr (.inr (.inr rfl)))),ne2 frf (.inr (.inl rfl))⟩
   ·exact ⟨ne2 frg4 (.inl rfl),λ z=>ne2 frg4 (.inr (.inr (.inl z))) rfl,ne2 frg4 (.inr (.inr (.inr (.inl rfl)))),ne2 frg4 (.inr (.inr (.inr (.inr rfl)))),ne2 frg4 (.inr (.inl rfl))⟩
   ·exact ⟨ne2 frd4 (.inl rfl),λ z=>ne2 frd4 (.inr (.inr (.inl z))) rfl,ne2 frd4 (.inr (.inr (.inr (.inl rfl)))),ne2 frd4 (.inr (.inr (.inr (.inr rfl)))),ne2 frd4 (.inr (.inl rfl))⟩
  ·rcases hx with rfl | hx | rfl | rfl | hx | rfl | rfl | rfl
   ·exact s03.free (nb _ (.inl rfl))
   ·exact s03.free (nb _ (.inr (.inr (.inl hx))))
   ·exact s03.free (nb _ (.inr (.inr (.inr (.inl rfl)))))
   ·exact s03.free (nb _ (.inr (.inr (.inr (.inr rfl)))))
   ·exact s1.free (B.f2 _ hx)
   ·exact s04.free frf
   ·exact s04.free frg4
   ·exact s04.free frd4
  ·have:=B.f2 _ z;rw [hla] at this;cases this
 have I0:LawI CBench H G9 la sa da lf lg b scs A Ls ⟨z4y (z4k Z) ((z2c Ls 3).zip Xs),[],[],0⟩ ⟨z4y (z4k Z) ((z2c Ls 3).zip Xs),[],[],0⟩:=by
  refine ⟨s09,⟨⟨las,(s14.trans s49) _ _ hla,hls.up (.of (s14.trans s49))⟩,(s24.trans s49) _ _ B.hst,B.hss.same (s24.trans s49),hda⟩,hb.same s49,⟨ps,(s7.trans s8) _ _ hlf,?_⟩,⟨[],s8 _ _ hlg,TupsAt.nil⟩⟩
  rw [x3i]
  exact hps.up (.of (s7.trans s8))
 refine z0h (λ σ G=>∃(T:St3) (y7 y11 y12 y13 y14 y15 y16 y17 y18 y19 y20:Option V),LawI CBench H G la sa da lf lg b scs A Ls T T/\σ=[some (.ref a),some (.ref la),some (.ref w),some (.ref hd),some (.ref sa),some (.ref b),some (.ref lf),y7,some (.ref lg),some (.ref da),some (.int T.n),y11,y12,y13,y14,y15,y16,y17,y18,y19,y20]) ?_ (λ R hR=>?_)
 rotate_left
 ·wp_walk using z0y,inV,eqV
  obtain ⟨J,hJ⟩:∃J:Nat->L2.St->Hp->Prop,J=(λ i σ G=>∃(T:St3) (y7 y11 y12 y13 y14 y15 y16 y17 y18 y19 y20:Option V),LawI CBench H G la sa da lf lg b scs A Ls T T/\σ=[some (.ref a),some (.ref la),some (.ref w),some (.ref hd),some (.ref sa),some (.ref b),some (.ref lf),y7,some (.ref lg),some (.ref da),some (.int T.n),y11,y12,y13,y14,y15,y16,y17,y18,y19,y20]):=⟨_,rfl⟩
  refine LoopL.mk (xs:=ns.map V.int) (s09.seq hS) J (by rw [hJ];exact ⟨_,_,_,_,_,_,_,_,_,_,_,_,I0,rfl⟩) (λ i σ G _ h=>by rw [hJ] at h;obtain ⟨T,_,_,_,_,_,_,_,_,_,_,_,I,_⟩:=h;exact I.s0.seq hS) (λ i x σ G ex h=>?_) (λ σ G h=>?_)<;>rw [hJ] at h
  ·obtain ⟨T,y7,y11,y12,y13,y14,y15,y16,y17,y18,y19,y20,I,rfl⟩:=h
   obtain ⟨x,rfl,_⟩:=z6m ex
   simp only [z6g,List.set_cons_succ,List.set_cons_zero]
   refine z0h (λ σ K0=>∃n:Int,K0=G/\σ=[some (.ref a),some (.ref la),some (.ref w),some (.ref hd),some (.ref sa),some (.ref b),some (.ref lf),y7,some (.ref lg),some (.ref da),some (.int T.n),some (.int x),some (.int n),y13,y14,y15,y16,y17,y18,y19,y20]) ?_ (λ R hR=>?_)
   rotate_left
   ·wp_walk using z1a,z0y,inV,eqV
    exact ⟨by decide,hR _ _ ⟨_,rfl,rfl⟩⟩
   rintro σa Ga ⟨n,rfl,rfl⟩
   obtain ⟨las',hla',hls'⟩:=I.hE.hla
   refine z0h (λ σ K0=>∃lo r:Int,Same Ga K0/\σ=[some (.ref a),some (.ref la),some (.ref w),some (.ref hd),some (.ref sa),some (.ref b),some (.ref lf),some (.int lo),some (.ref lg),some (.ref da),some (.int T.n),some (.int x),some (.int n),some (.int r),y14,y15,y16,y17,y18,y19,y20]) ?_ (λ R hR=>?_)
   rotate_left
   ·wp_walk using z1a,z0y,inV,eqV,z7f
    exact ⟨las',hla',Ls,hls',lk,λ H' p lo r s' hp=>⟨_,hp,rfl,_,_,rfl,_,_,rfl,rfl,hR _ _ ⟨lo,r,s',rfl⟩⟩⟩
   rintro σb Gb ⟨lo,r,sb,rfl⟩
   have Ib:=I.same sb
   refine z0h (λ σ K0=>∃(l:Addr) (ps:List Addr) (wd:Str) (rows:List (Int × Int)) (m:Int),Same Gb K0/\Gb l=none/\K0 l=some (.lst (ps.map V.ref))/\RowsAt K0 ps rows/\w3d (doZ Ls T lo r) wd rows m/\σ=[some (.ref a),some (.ref la),some (.ref w),some (.ref hd),some (.ref sa),some (.ref b),some (.ref lf),some (.int lo),some (.ref lg),some (.ref da),some (.int T.n),some (.int x),some (.int n),some (.int r),some (.str wd),some (.ref l),some (.int m),y17,y18,y19,y20]) ?_ (λ R hR=>?_)
   rotate_left
   ·wp_walk using z1a,z0y,inV,eqV,y7s
    exact ⟨scs,Ls,T,Ib.hE,lk,Ib.hb.ok,λ H' p l ps wd rows m s' l0 hp hl hr dz=>⟨_,hp,rfl,_,_,rfl,_,_,rfl,_,_,rfl,rfl,hR _ _ ⟨l,ps,wd,rows,m,s',l0,hl,hr,dz,rfl⟩⟩⟩
   rintro σc Gc ⟨l,ps,wd,rows,m,sc',l0,hl,hrw,dz,rfl⟩
   have Ic:=Ib.same sc'
   refine z0h (λ σ K0=>∃tl:Addr,((wd≠Str.ofString "" /\ LawI CBench H K0 la sa da lf lg b scs A Ls T T/\K0 tl=some (.lst [.str wd,.bl false]))\/(wd=Str.ofString "" /\ ∃L,doZ Ls T lo r=.ok rows m/\Ls[lo.toNat]?=some L/\LawI CBench H K0 la sa da lf lg b scs A Ls T (nxZ L T lo.toNat r.toNat rows m)/\K0 l=some (.lst (ps.map V.ref))/\RowsAt K0 ps rows/\K0 tl=some (.lst [.bl true])))/\σ=[some (.ref a),some (.ref la),some (.ref w),some (.ref hd),some (.ref sa),some (.ref b),some (.ref lf),some (.int lo),some (.ref lg),some (.ref da),some (.int T.n),some (.int x),some (.int n),some (.int r),some (.str wd),some (.ref l),some (.int m),some (.ref tl),y18,y19,y20]) ?_ (λ R hR=>?_)
   rotate_left
   ·wp_walk using z1a,z0y,inV,eqV,z9j
    refine ⟨A,Ls,T,Ic.hb,λ e H' tl s' h'=>hR _ _ ⟨tl,.inl ⟨?_,Ic.same s',?_⟩,rfl⟩,λ e H' tl s' h'=>hR _ _ ⟨tl,.inl ⟨?_,Ic.same s',?_⟩,rfl⟩,λ e H' tl s' h'=>hR _ _ ⟨tl,.inl ⟨?_,Ic.same s',?_⟩,rfl⟩,λ rows' c' L e eL H' tl k' hb' h'=>?_⟩
    ·rw [dz.1 e];decide +kernel
    ·rw [dz.1 e];exact h'
    ·rw [dz.2.1 e];decide +kernel
    ·rw [dz.2.1 e];exact h'
    ·rw [dz.2.2.1 e];decide +kernel
    ·rw [dz.2.2.1 e];exact h'
    ·obtain ⟨ew,rfl,rfl⟩:=dz.2.2.2 _ _ e
     have lb:l≠b/\l ∉ A.cs/\l≠A.d/\l≠A.lg:=by
      have hbb:=Ib.hb
      refine ⟨(λ z=>by rw [z,hbb.hb] at l0;cases l0),λ z=>?_,(λ z=>by rw [z,hbb.hd] at l0;cases l0),λ z=>?_⟩
      ·obtain ⟨i,hi,e⟩:=List.getElem_of_mem z
       obtain ⟨p,ep,hp⟩:=hbb.hcs.2 i _ (List.getElem?_eq_getElem (by rw [← hbb.hcs.1];exact hi))
       rw [List.getElem?_eq_getElem hi,e] at ep
       cases ep
       rw [hp] at l0;cases l0
      ·obtain ⟨_,h,_⟩:=hbb.hlg
       rw [z,h] at l0;cases l0
     exact hR _ _ ⟨tl,.inr ⟨ew,L,e,eL,Ic.did D k' hb',k' _ _ lb.1 lb.2.1 lb.2.2.1 lb.2.2.2 hl,hrw.up (KeepZ.up Ic.hb k'),h'⟩,rfl⟩
   rintro σd Gd ⟨tl,hcase,rfl⟩
   refine z0h (λ σ K0=>Same Gd K0/\σ=[some (.ref a),some (.ref la),some (.ref w),some (.ref hd),some (.ref sa),some (.ref b),some (.ref lf),some (.int lo),some (.ref lg),some (.ref da),some (.int T.n),some (.int x),some (.int n),some (.int r),some (.str wd),some (.ref l),some (.int m),some (.ref tl),y18,y19,y20]) ?_ (λ R hR=>?_)
   rotate_left
   ·wp_walk using z1a,z0y,inV,eqV
    rcases hcase with ⟨nw,Id,htl⟩ | ⟨rfl,L,ez,eL,Id,hld,hrd,htl⟩
    ·rw [if_pos nw]
     refine ⟨small (by decide),λ p hp=>⟨_,.of (z0b hp _ _ _ htl),_,.of z0f,rfl,rfl,?_⟩⟩
     rw [if_neg (by rw [z5u rfl];decide),if_neg nw]
     exact hR _ _ ⟨z0b hp _,rfl⟩
    ·rw [if_neg (λ z=>z rfl),if_pos rfl]
     refine ⟨_,.inl (.of htl),?_⟩
     rw [if_neg (by simp)]
     refine ⟨_,htl,_,z0i (j:=0) rfl,_,rfl,?_⟩
     rw [if_neg (by decide)]
     exact hR _ _ ⟨Same.refl _,rfl⟩
   rintro σe Ge ⟨se,rfl⟩
   refine z0h (λ σ K0=>∃(T':St3) (y18 y19 y20:Option V),LawI CBench H K0 la sa da lf lg b scs A Ls T' T'/\σ=[some (.ref a),some (.ref la),some (.ref w),some (.ref hd),some (.ref sa),some (.ref b),some (.ref lf),some (.int lo),some (.ref lg),some (.ref da),some (.int T'.n),some (.int x),some (.int n),some (.int r),some (.str wd),some (.ref l),some (.int m),some (.ref tl),y18,y19,y20]) ?_ (λ R hR=>?_)
   rotate_left
   ·wp_walk using z0y,inV,eqV
    rcases hcase with ⟨nw,Id,htl⟩ | ⟨rfl,L,ez,eL,Id,hld,hrd,htl⟩
    ·rw [if_neg nw]
     exact hR _ _ ⟨T,_,_,_,Id.same se,rfl⟩
    rw [if_pos rfl]
    obtain ⟨lo,k,L',ac,rfl,rfl,eL',hk,nk,hokW,er⟩:=w4p ez
    rw [Int.toNat_natCast] at eL
    rw [eL] at eL'
    cases eL'
    rw [Int.toNat_natCast,Int.toNat_natCast] at Id
    have ok:=lk.lk L (List.mem_of_getElem? eL)
    have lo3:lo < 3:=by have:=(List.getElem?_eq_some_iff.mp eL).1;rwa [lk.ll] at this
    have Ie:=Id.same se
    have tk:=Ic.hb.ok
    obtain ⟨r3,rb⟩:=x5f tk.sz ok (y3u L.sd k) er
    obtain ⟨lase,hlae,hlse⟩:=Ie.hE.hla
    obtain ⟨lp,elp,hlp⟩:=hlse.2 lo L eL
    have st3:L.st < T.S.length:=by rw [tk.sz.1];have:=ok.1;lia
    obtain ⟨ca,eca,hca⟩:=Ie.hE.hss.2 L.st _ (List.getElem?_eq_getElem st3)
    have eS:T.S.getD L.st []=T.S[L.st]:=by rw [List.getD_eq_getElem?_getD,List.getElem?_eq_getElem st3];rfl
    rw [← eS] at hca
    have cam:=List.mem_of_getElem? eca
    obtain ⟨lgs,hlge,hlgse⟩:=Ie.hlg
    obtain ⟨lfs,hlfe,hlfse⟩:=Ie.hlf
    have hle:=se _ _ hld
    have hre:=hrd.up (.of se)
    have ecs:atI (scs.map V.ref) (L.st:Int)=some (.ref ca):=z0i (j:=L.st) (v:=V.ref ca) (by rw [List.getElem?_map,eca];rfl)
    have calg:ca≠lg:=λ z=>D.o3.2.2.2 (z ▸ cam)
    have tn:∀ {x:Addr}{xs:List V},Ge x=some (.tup xs)->x≠ca/\x≠lg:=λ e=>⟨(λ z=>by rw [z,hca] at e;cases e),(λ z=>by rw [z,hlge] at e;cases e)⟩
    refine z0h (λ σ K0=>K0=Ge/\σ=[some (.ref a),some (.ref la),some (.ref w),some (.ref hd),some (.ref sa),some (.ref b),some (.ref lf),some (.int (lo:Int)),some (.ref lg),some (.ref da),some (.int T.n),some (.int x),some (.int n),some (.int (k:Int)),some (.str (Str.ofString "")),some (.ref l),some (.int m),some (.ref tl),some (.int (L.st:Int)),y19,y20]) ?_ (λ R hR=>?_)
    rotate_left
    ·wp_walk using z1a,z0y,inV,eqV
     obtain ⟨sp,sq,t,h1,h2,h3,h4⟩:=hlp
     have ela:atI (lase.map V.ref) (lo:Int)=some (.ref lp):=z0i (j:=lo) (v:=V.ref lp) (by rw [List.getElem?_map,elp];rfl)
     rcases h4 with ⟨_,e⟩ | ⟨w',m',_,e⟩
     ·refine ⟨_,hlae,_,ela,_,hlae,_,ela,lp,rfl,_,e,_,z0i (j:=0) rfl,rfl,.inr ⟨lp,rfl,_,e,.int (L.st:Int),?_,hR _ _ ⟨rfl,rfl⟩⟩⟩
      rw [if_neg (sne (by decide +kernel))]
      exact z0i (j:=1) rfl
     ·refine ⟨_,hlae,_,ela,_,hlae,_,ela,lp,rfl,_,e,_,z0i (j:=0) rfl,rfl,.inr ⟨lp,rfl,_,e,.int (L.st:Int),?_,hR _ _ ⟨rfl,rfl⟩⟩⟩
      rw [if_pos rfl]
      exact z0i (j:=2) rfl
    rintro σ11 G11 ⟨rfl,rfl⟩
    refine z0h (λ σ K0=>∃(y19 y20:Option V) (qs:List Addr),(∀x o,x≠ca->x≠lg->G11 x=some o->K0 x=some o)/\K0 ca=some (.lst ((y6r (T.S.getD L.st []) rows).map cV))/\K0 lg=some (.lst (qs.map V.ref))/\TupsAt K0 qs (T.G++y6v lo k L.st rows)/\σ=[some (.ref a),some (.ref la),some (.ref w),some (.ref hd),some (.ref sa),some (.ref b),some (.ref lf),some (.int (lo:Int)),some (.ref lg),some (.ref da),some (.int T.n),some (.int x),some (.int n),some (.int (k:Int)),some (.str (Str.ofString "")),some (.ref l),some (.int m),some (.ref tl),some (.int (L.st:Int)),y19,y20]) ?_ (λ R hR=>?_)
    rotate_left
    ·wp_walk using z0y,inV,eqV
     have gl:T.G.length≤72:=by have:=tk.gl;have:=x4w tk;lia
     have lca:l≠ca:=λ z=>by
      obtain ⟨p',e',h'⟩:=Ib.hE.hss.2 L.st _ (List.getElem?_eq_getElem st3)
      rw [eca] at e'
      cases e'
      rw [z,h'] at l0;cases l0
     have llg:l≠lg:=λ z=>by
      obtain ⟨_,h',_⟩:=Ib.hlg
      rw [z,h'] at l0;cases l0
     obtain ⟨J2,hJ2⟩:∃J2:Nat->L2.St->Hp->Prop,J2=(λ i σ K0=>∃(y19 y20:Option V) (qs:List Addr),(∀x o,x≠ca->x≠lg->G11 x=some o->K0 x=some o)/\K0 ca=some (.lst ((y6r (T.S.getD L.st []) (rows.take i)).map cV))/\K0 lg=some (.lst (qs.map V.ref))/\TupsAt K0 qs (T.G++y6v lo k L.st (rows.take i))/\σ=[some (.ref a),some (.ref la),some (.ref w),some (.ref hd),some (.ref sa),some (.ref b),some (.ref lf),some (.int (lo:Int)),some (.ref lg),some (.ref da),some (.int T.n),some (.int x),some (.int n),some (.int (k:Int)),some (.str (Str.ofString "")),some (.ref l),some (.int m),some (.ref tl),some (.int (L.st:Int)),y19,y20]):=⟨_,rfl⟩
     refine LoopL.mk (xs:=ps.map V.ref) (.of hle) J2 (by rw [hJ2];exact ⟨_,_,lgs,(λ _ _ _ _ h=>h),hca,hlge,by rw [List.take_zero];show TupsAt G11 lgs (T.G++[]);rw [List.append_nil];exact hlgse,rfl⟩) (λ i σ K0 _ h=>by rw [hJ2] at h;obtain ⟨_,_,_,k9,_⟩:=h;exact .of (k9 _ _ lca llg hle)) (λ i v σ K0 ex h=>?_) (λ σ K0 h=>?_)<;>rw [hJ2] at h
     ·obtain ⟨y19,y20,qs,k9,hca9,hlg9,hq9,rfl⟩:=h
      have il:i < rows.length:=by have:=(List.getElem?_eq_some_iff.mp ex).1;rwa [List.length_map,hre.1] at this
      have e1:rows[i]?=some rows[i]:=List.getElem?_eq_getElem il
      obtain ⟨px,ep,hx⟩:=hre.2 i _ e1
      rw [List.getElem?_map,ep] at ex
      cases ex
      generalize rows[i]=row at e1 hx
      obtain ⟨w0,w1,w2⟩:=hokW.2 row.1 (List.mem_map.mpr ⟨row,List.mem_of_getElem? e1,rfl⟩)
      have hsa9:=k9 _ _ (show sa≠ca from λ z=>D.o3.2.1 (z ▸ cam)) D.o4.2.2.2.1 Ie.hE.hsa
      wp_walk using z1a,z0y,inV,eqV
      refine ⟨_,k9 _ _ (tn hx).1 (tn hx).2 hx,rfl,_,_,rfl,_,_,rfl,rfl,_,hsa9,_,ecs,_,rfl,_,row.1,rfl,hca9,row.1.toNat,?_,?_⟩
      ·rw [List.length_map,y2t]
       have:=y3g (n:=(T.S.getD L.st []).length) (k:=row.1.toNat) (by lia)
       rwa [show ((row.1.toNat:Nat):Int)=row.1 by lia] at this
      refine ⟨⟨_,by rw [z0n calg.symm];exact hlg9⟩,small (by decide),λ p hp=>?_⟩
      have pc:p≠ca:=λ z=>by rw [z,z0f] at hp;cases hp
      have pG:=hp
      rw [z0n pc] at pG
      have np:∀ {x:Addr}{o:HO},K0 x=some o->x≠p:=λ e z=>by rw [z,pG] at e;cases e
      have ql:=hq9.1
      rw [List.length_append,y6v,List.length_map,List.length_take] at ql
      refine ⟨_,z0b hp _ _ _ (by rw [z0n calg.symm];exact hlg9),z1e (by rw [List.length_map];lia),?_⟩
      rw [hJ2]
      refine ⟨_,_,qs++[p],λ x o n1 n2 e=>?_,?_,?_,?_,rfl⟩
      ·rw [z0n n2,z0n (np (k9 _ _ n1 n2 e)),z0n n1];exact k9 _ _ n1 n2 e
      ·rw [z0n calg,z0n (np hca9),z0f,y4c e1,List.map_set];rfl
      ·rw [z0f,List.map_append];rfl
      ·rw [y4r e1,← List.append_assoc]
       refine TupsAt.snoc (hq9.up λ x xs e=>?_) ?_
       ·rw [z0n (λ z=>by rw [z,hlg9] at e;cases e),z0n (np e),z0n (λ z=>by rw [z,hca9] at e;cases e)];exact e
       ·rw [z0n (λ z=>by rw [z,hlg9] at pG;cases pG)];exact z0f
     ·obtain ⟨y19,y20,qs,k9,hca9,hlg9,hq9,rfl⟩:=h
      rw [List.length_map,hre.1,List.take_length] at hca9 hq9
      exact hR _ _ ⟨y19,y20,qs,k9,hca9,hlg9,hq9,rfl⟩
    rintro σ12 G12 ⟨y19,y20,qs,k9,hc9,hl9,hq9,rfl⟩
    have hda9:=k9 _ _ (λ z=>by rw [← z,Ie.hE.hda] at hca;cases hca) (λ z=>by rw [← z,Ie.hE.hda] at hlge;cases hlge) Ie.hE.hda
    have dl:=x4w tk
    refine z0h (λ σ K0=>x5p G12 K0 da/\K0 da=some (.dT (y3e (T.D++[(lo,k)])))/\σ=[some (.ref a),some (.ref la),some (.ref w),some (.ref hd),some (.ref sa),some (.ref b),some (.ref lf),some (.int (lo:Int)),some (.ref lg),some (.ref da),some (.int T.n),some (.int x),some (.int n),some (.int (k:Int)),some (.str (Str.ofString "")),some (.ref l),some (.int m),some (.ref tl),some (.int (L.st:Int)),y19,y20]) ?_ (λ R hR=>?_)
    rotate_left
    ·wp_walk using z1a,z0y,inV,eqV
     refine ⟨small (by decide),λ p hp=>⟨_,DPut.t (k:=[Sum.inl (lo:Int),Sum.inl (k:Int)]) (z0b hp _ _ _ hda9) z0f (z1e (by unfold y3e;rw [List.length_map];lia)),hR _ _ ⟨λ x o n e=>by rw [z0n n];exact z0b hp _ _ _ e,?_,rfl⟩⟩⟩
     rw [z0f,y4d (k:=(lo,k)) nk]
    rintro σ13 G13 ⟨k13,hda13,rfl⟩
    have lfca:lf≠ca:=λ z=>D.o3.2.2.1 (z ▸ cam)
    have daca:ca≠da:=λ z=>by rw [z,Ie.hE.hda] at hca;cases hca
    have dalg:lg≠da:=λ z=>by rw [z,Ie.hE.hda] at hlge;cases hlge
    have dalf:lf≠da:=λ z=>by rw [z,Ie.hE.hda] at hlfe;cases hlfe
    have hlf12:=k9 _ _ lfca D.o4.2.2.2.2 hlfe
    have hlf13:=k13 _ _ dalf hlf12
    have u12:UpT G11 G12:=λ x xs e=>k9 _ _ (tn e).1 (tn e).2 e
    have u13:UpT G12 G13:=λ x xs e=>k13 _ _ (λ z=>by rw [z,hda9] at e;cases e) e
    have hlfs13:=(hlfse.up u12).up u13
    refine z0h (λ σ K0=>∃lfs,x5p G13 K0 lf/\K0 lf=some (.lst (lfs.map V.ref))/\TupsAt K0 lfs (prI (z3f Ls (T.D++[(lo,k)])))/\σ=[some (.ref a),some (.ref la),some (.ref w),some (.ref hd),some (.ref sa),some (.ref b),some (.ref lf),some (.int (lo:Int)),some (.ref lg),some (.ref da),some (.int T.n),some (.int x),some (.int n),some (.int (k:Int)),some (.str (Str.ofString "")),some (.ref l),some (.int m),some (.ref tl),some (.int (L.st:Int)),y19,y20]) ?_ (λ R hR=>?_)
    rotate_left
    ·obtain ⟨j,ej,nj⟩:=y4n (x7t lo3 eL hk nk)
     obtain ⟨pj,epj,hpj⟩:=hlfs13.2 j [(lo:Int),(k:Int)] (by rw [prI,List.getElem?_map,ej];rfl)
     wp_walk using z1a,z0y,inV,eqV
     refine ⟨.inl ⟨_,.of hlf13⟩,small (by decide),λ p hp=>⟨lfs,z0b hp _ _ _ hlf13,λ p1 m1=>?_,j,⟨pj,epj,z0b hp _ _ _ hpj⟩,λ m' p1 zs mj e1 e2=>?_,hR _ _ ⟨lfs.eraseIdx j,λ x o n e=>by rw [z0n n];exact z0b hp _ _ _ e,z0f,?_,rfl⟩⟩⟩
     ·obtain ⟨i',hi',e'⟩:=List.getElem_of_mem m1
      obtain ⟨p',ep',hp'⟩:=hlfs13.2 i' _ (List.getElem?_eq_getElem (by rw [← hlfs13.1];exact hi'))
      rw [List.getElem?_eq_getElem hi',e'] at ep'
      cases ep'
      exact ⟨_,z0b hp _ _ _ hp',z4j _⟩
     ·have ml:m' < (z3f Ls T.D).length:=by have:=(List.getElem?_eq_some_iff.mp e1).1;rw [hlfs13.1,prI,List.length_map] at this;exact this
      have el:(z3f Ls T.D)[m']?=some (z3f Ls T.D)[m']:=List.getElem?_eq_getElem ml
      have ne:=nj m' mj
      generalize (z3f Ls T.D)[m']=pr at el
      obtain ⟨p',ep',hp'⟩:=hlfs13.2 m' [(pr.1:Int),(pr.2:Int)] (by rw [prI,List.getElem?_map,el];rfl)
      rw [e1] at ep'
      cases ep'
      rw [z0b hp _ _ _ hp'] at e2
      cases e2
      show y3k [V.int (pr.1:Int),V.int (pr.2:Int)] [V.int (lo:Int),V.int (k:Int)]=false
      rw [x9g]
      have:pr≠(lo,k):=λ z=>ne (z ▸ el)
      by_cases a1:(pr.1:Int)=lo<;>by_cases a2:(pr.2:Int)=k<;>simp [a1,a2]
      exact this (Prod.ext (by lia) (by lia))
     ·rw [← x3h ej,x2r]
      refine TupsAt.erase (hlfs13.up λ x xs e=>?_) j
      rw [z0n (λ z=>by rw [z,hlf13] at e;cases e)]
      exact z0b hp _ _ _ e
    rintro σ14 G14 ⟨lfs',k14,hlf14,hp14,rfl⟩
    wp_walk using z1a,z0y,inV,eqV
    refine hR _ _ ⟨nxZ L T lo k rows m,_,_,_,?_,rfl⟩
    have u14:UpT G13 G14:=λ x xs e=>k14 _ _ (λ z=>by rw [z,hlf13] at e;cases e) e
    have ut:UpT G11 G14:=λ x xs e=>u14 _ _ (u13 _ _ (u12 _ _ e))
    have fin:∀ {x:Addr}{o:HO},x≠ca->x≠lg->x≠da->x≠lf->G11 x=some o->G14 x=some o:=λ n1 n2 n3 n4 e=>k14 _ _ n4 (k13 _ _ n3 (k9 _ _ n1 n2 e))
    have dla:la≠da:=λ z=>by rw [z,Ie.hE.hda] at hlae;cases hlae
    have dsa:sa≠da:=λ z=>by have:=Ie.hE.hsa;rw [z,Ie.hE.hda] at this;cases this
    have oc:=D.o1 ca (.inl cam)
    have og:=D.o1 lg (.inr (.inr (.inr (.inr (.inl rfl)))))
    have od:=D.o1 da (.inr (.inr (.inr (.inr (.inr rfl)))))
    have of_:=D.o1 lf (.inr (.inr (.inr (.inl rfl))))
    refine ⟨λ x o e=>fin (λ z=>?_) (λ z=>?_) (λ z=>?_) (λ z=>?_) (Ie.s0 _ _ e),⟨⟨lase,fin (show la≠ca from λ z=>D.o3.1 (z ▸ cam)) D.o4.2.1 dla D.o4.1 hlae,hlse.up ut⟩,fin (show sa≠ca from λ z=>D.o3.2.1 (z ▸ cam)) D.o4.2.2.2.1 dsa D.o4.2.2.1 Ie.hE.hsa,StsAt.wr Ie.hE.hss D.ds eca (λ x xs mx nx e=>fin nx (show x≠lg from λ z=>D.o3.2.2.2 (z ▸ mx)) (λ z=>by rw [z,Ie.hE.hda] at e;cases e) (show x≠lf from λ z=>D.o3.2.2.1 (z ▸ mx)) e) (k14 _ _ lfca.symm (k13 _ _ daca hc9)),k14 _ _ dalf.symm hda13⟩,BenZ.wr Ie.hb ut (λ x o hx e=>?_),⟨lfs',hlf14,hp14⟩,⟨qs,k14 _ _ D.o4.2.2.2.2.symm (k13 _ _ dalg hl9),(hq9.up u13).up u14⟩⟩
    ·rw [z,D.o2 _ (.inr (.inr (.inr (.inr (.inl cam)))))] at e;cases e
    ·rw [z,D.o2 _ (.inr (.inr (.inr (.inr (.inr (.inr (.inl rfl)))))))] at e;cases e
    ·rw [z,D.o2 _ (.inr (.inr (.inr (.inr (.inr (.inr (.inr rfl)))))))] at e;cases e
    ·rw [z,D.o2 _ (.inr (.inr (.inr (.inr (.inr (.inl rfl))))))] at e;cases e
    ·rcases hx with rfl | rfl | hx | rfl | rfl
     ·exact fin oc.1.symm og.1.symm od.1.symm of_.1.symm e
     ·exact fin oc.2.2.2.2.symm og.2.2.2.2.symm od.2.2.2.2.symm of_.2.2.2.2.symm e
     ·exact fin (show x≠ca from λ z=>oc.2.1 (z ▸ hx)) (show x≠lg from λ z=>og.2.1 (z ▸ hx)) (show x≠da from λ z=>od.2.1 (z ▸ hx)) (show x≠lf from λ z=>of_.2.1 (z ▸ hx)) e
     ·exact fin oc.2.2.1.symm og.2.2.1.symm od.2.2.1.symm of_.2.2.1.symm e
     ·exact fin oc.2.2.2.1.symm og.2.2.2.1.symm od.2.2.2.1.symm of_.2.2.2.1.symm e
   rintro σf Gf ⟨T',y18,y19,y20,If,rfl⟩
   obtain ⟨psf,hlf',hpsf⟩:=If.hlf
   obtain ⟨qsf,hlg',hqsf⟩:=If.hlg
   refine z0h (λ σ K0=>Same Gf K0/\σ=[some (.ref a),some (.ref la),some (.ref w),some (.ref hd),some (.ref sa),some (.ref b),some (.ref lf),some (.int lo),some (.ref lg),some (.ref da),some (.int T'.n),some (.int x),some (.int n),some (.int r),some (.str wd),some (.ref l),some (.int m),some (.ref tl),y18,y19,y20]) ?_ (λ R hR=>?_)
   rotate_left
   ·wp_walk using z1a,z0y,inV,eqV,z6s
    exact ⟨A,Ls,T',rfl,If.hb,scs,If.hE.hsa,If.hE.hss,psf,hlf',hpsf,qsf,hlg',hqsf,λ H' s'=>hR _ _ ⟨s',rfl⟩⟩
   rintro σg Gg ⟨sg,rfl⟩
   have Ig:=If.same sg
   wp_walk using z1a,z0y,inV,eqV,z9h
   have fin:∀ {H':Hp},Same Gg H'->J (i+1) [some (.ref a),some (.ref la),some (.ref w),some (.ref hd),some (.ref sa),some (.ref b),some (.ref lf),some (.int lo),some (.ref lg),some (.ref da),some (.int T'.n),some (.int x),some (.int n),some (.int r),some (.str wd),some (.ref l),some (.int m),some (.ref tl),y18,y19,y20] H':=λ s'=>by
    rw [hJ];exact ⟨T',_,_,_,_,_,_,_,_,_,_,_,Ig.same s',rfl⟩
   refine ⟨_,.inl (.of (sg _ _ hlf')),?_⟩
   have pl:=hpsf.1
   rw [prI,List.length_map] at pl
   rw [List.length_map,pl]
   by_cases c:z3f Ls T'.D=[]
   ·rw [c,if_neg (by simp)]
    exact fin (Same.refl _)
   ·rw [if_pos (by have:=List.length_pos_iff.mpr c;lia)]
    exact ⟨A,Ls,T',Ig.hb,c,λ H' s'=>fin s'⟩
  ·obtain ⟨T,y7,y11,y12,y13,y14,y15,y16,y17,y18,y19,y20,I,rfl⟩:=h
   exact hR _ _ ⟨T,y7,y11,y12,y13,y14,y15,y16,y17,y18,y19,y20,I,rfl⟩
 rintro σm Gm ⟨T,y7,y11,y12,y13,y14,y15,y16,y17,y18,y19,y20,I,rfl⟩
 obtain ⟨psm,hlfm,hpsm⟩:=I.hlf
 obtain ⟨qsm,hlgm,hqsm⟩:=I.hlg
 wp_walk using z1a,z0y,inV,eqV,z6s
 exact ⟨A,Ls,T,rfl,I.hb,scs,I.hE.hsa,I.hE.hss,psm,hlfm,hpsm,qsm,hlgm,hqsm,λ H' _=>q H'⟩
theorem z8x {α:Type}{us:List α}(h:us.length=1):∃x0,us=[x0]:=by
 match us,h with
 | [x0],_=>exact ⟨_,rfl⟩
theorem x5t {α:Type}{us:List α}(h:us.length=2):∃x0 x1,us=[x0,x1]:=by
 match us,h with
 | [x0,x1],_=>exact ⟨_,_,rfl⟩
theorem y7a {α:Type}{us:List α}(h:us.length=3):∃x0 x1 x2,us=[x0,x1,x2]:=by
 match us,h with
 | [x0,x1,x2],_=>exact ⟨_,_,_,rfl⟩
structure Gl (K:W.Frag) (x:Str) (st:Stmt) (f:Addr) (fd:FuncData):Prop where
 F:Fun K x x st f fd
 a:W.nsIn K mainGlobals x=some (some (.ref f))
theorem gl_mk {K:W.Frag}{x:Str}{st:Stmt}{f:Addr}{oc:Value}{od an:Option Addr}{osl:Array (Option Value)}{kV doc pm cdv ct:Value}(a:W.nsIn K mainGlobals x=some (some (.ref f))) (l:K.lookup f=some ⟨oc,od,.func (W.fnOf x x (z1m st) (z1i st) (z0k st) .none kV doc pm an cdv ct),osl⟩) (c:W.codeIn K cdv x=true) (k:W.keepIn K (.ref f)=true):Gl K x st f (W.fnOf x x (z1m st) (z1i st) (z0k st) .none kV doc pm an cdv ct):=⟨z6n l c k,a⟩
structure Zx (P:Program) (w:World) (K:W.Frag) (mg:Str->Option Value) (base h:Heap):Prop where
 X:K.In h
 G:h.Ns mainGlobals mg
section
variable {P:Program}{w:World}{K:W.Frag}{mg:Str->Option Value}{base h:Heap}{x:Str}{st:Stmt}{f:Addr}{fd:FuncData}{CX:CXT}{k:Nat}{sp:Sp}
theorem Zx.n (Z:Zx P w K mg base h) (z:W.nsIn K mainGlobals x=some none):mg x=none:=W.mg_none_of Z.X Z.G z
theorem Zx.g (Z:Zx P w K mg base h) {v:Value}(z:W.nsIn K mainGlobals x=some (some v)):mg x=some v:=W.mg_of Z.X Z.G z
theorem Zx.b1 {p0:Str}(g:Gl K x st f fd) (b:∀(kV doc pm:Value) (an:Option Addr) (cdv ct:Value) (u0:Value),bindArgs (W.fnOf x x (z1m st) (z1i st) (z0k st) .none kV doc pm an cdv ct) ⟨[u0],[]⟩=pure [(p0,u0)]:=by intros;rfl):Binds K fd [p0] []:=g.F.binds λ kV doc pm an cdv ct us hl=>by
 match us,hl with
 | [u0],_=>exact b kV doc pm an cdv ct u0
theorem Zx.c1 (Z:Zx P w K mg base h) {p0:Str}(g:Gl K x st f fd) (ok:FnOk P w K mg base CX k f fd [p0] sp) (b:∀(kV doc pm:Value) (an:Option Addr) (cdv ct:Value) (u0:Value),bindArgs (W.fnOf x x (z1m st) (z1i st) (z0k st) .none kV doc pm an cdv ct) ⟨[u0],[]⟩=pure [(p0,u0)]:=by intros;rfl):Callee P w K mg base CX k x [p0] sp:=Callee.mk' g.F (Z.g g.a) (Zx.b1 g b) ok
theorem Zx.b2 {p0 p1:Str}(g:Gl K x st f fd) (b:∀(kV doc pm:Value) (an:Option Addr) (cdv ct:Value) (u0 u1:Value),bindArgs (W.fnOf x x (z1m st) (z1i st) (z0k st) .none kV doc pm an cdv ct) ⟨[u0,u1],[]⟩=pure [(p0,u0),(p1,u1)]:=by intros;rfl):Binds K fd [p0,p1] []:=g.F.binds λ kV doc pm an cdv ct us hl=>by
 match us,hl with
 | [u0,u1],_=>exact b kV doc pm an cdv ct u0 u1
theorem Zx.c2 (Z:Zx P w K mg base h) {p0 p1:Str}(g:Gl K x st f fd) (ok:FnOk P w K mg base CX k f fd [p0,p1] sp) (b:∀(kV doc pm:Value) (an:Option Addr) (cdv ct:Value) (u0 u1:Value),bindArgs (W.fnOf x x (z1m st) (z1i st) (z0k st) .none kV doc pm an cdv ct) ⟨[u0,u1],[]⟩=pure [(p0,u0),(p1,u1)]:=by intros;rfl):Callee P w K mg base CX k x [p0,p1] sp:=Callee.mk' g.F (Z.g g.a) (Zx.b2 g b) ok
theorem Zx.b3 {p0 p1 p2:Str}(g:Gl K x st f fd) (b:∀(kV doc pm:Value) (an:Option Addr) (cdv ct:Value) (u0 u1 u2:Value),bindArgs (W.fnOf x x (z1m st) (z1i st) (z0k st) .none kV doc pm an cdv ct) ⟨[u0,u1,u2],[]⟩=pure [(p0,u0),(p1,u1),(p2,u2)]:=by intros;rfl):Binds K fd [p0,p1,p2] []:=g.F.binds λ kV doc pm an cdv ct us hl=>by
 match us,hl with
 | [u0,u1,u2],_=>exact b kV doc pm an cdv ct u0 u1 u2
theorem Zx.c3 (Z:Zx P w K mg base h) {p0 p1 p2:Str}(g:Gl K x st f fd) (ok:FnOk P w K mg base CX k f fd [p0,p1,p2] sp) (b:∀(kV doc pm:Value) (an:Option Addr) (cdv ct:Value) (u0 u1 u2:Value),bindArgs (W.fnOf x x (z1m st) (z1i st) (z0k st) .none kV doc pm an cdv ct) ⟨[u0,u1,u2],[]⟩=pure [(p0,u0),(p1,u1),(p2,u2)]:=by intros;rfl):Callee P w K mg base CX k x [p0,p1,p2] sp:=Callee.mk' g.F (Z.g g.a) (Zx.b3 g b) ok
theorem Zx.b4 {p0 p1 p2 p3:Str}(g:Gl K x st f fd) (b:∀(kV doc pm:Value) (an:Option Addr) (cdv ct:Value) (u0 u1 u2 u3:Value),bindArgs (W.fnOf x x (z1m st) (z1i st) (z0k st) .none kV doc pm an cdv ct) ⟨[u0,u1,u2,u3],[]⟩=pure [(p0,u0),(p1,u1),(p2,u2),(p3,u3)]:=by intros;rfl):Binds K fd [p0,p1,p2,p3] []:=g.F.binds λ kV doc pm an cdv ct us hl=>by
 match us,hl with
 | [u0,u1,u2,u3],_=>exact b kV doc pm an cdv ct u0 u1 u2 u3
theorem Zx.c4 (Z:Zx P w K mg base h) {p0 p1 p2 p3:Str}(g:Gl K x st f fd) (ok:FnOk P w K mg base CX k f fd [p0,p1,p2,p3] sp) (b:∀(kV doc pm:Value) (an:Option Addr) (cdv ct:Value) (u0 u1 u2 u3:Value),bindArgs (W.fnOf x x (z1m st) (z1i st) (z0k st) .none kV doc pm an cdv ct) ⟨[u0,u1,u2,u3],[]⟩=pure [(p0,u0),(p1,u1),(p2,u2),(p3,u3)]:=by intros;rfl):Callee P w K mg base CX k x [p0,p1,p2,p3] sp:=Callee.mk' g.F (Z.g g.a) (Zx.b4 g b) ok
theorem Zx.b5 {p0 p1 p2 p3 p4:Str}(g:Gl K x st f fd) (b:∀(kV doc pm:Value) (an:Option Addr) (cdv ct:Value) (u0 u1 u2 u3 u4:Value),bindArgs (W.fnOf x x (z1m st) (z1i st) (z0k st) .none kV doc pm an cdv ct) ⟨[u0,u1,u2,u3,u4],[]⟩=pure [(p0,u0),(p1,u1),(p2,u2),(p3,u3),(p4,u4)]:=by intros;rfl):Binds K fd [p0,p1,p2,p3,p4] []:=g.F.binds λ kV doc pm an cdv ct us hl=>by
 match us,hl with
 | [u0,u1,u2,u3,u4],_=>exact b kV doc pm an cdv ct u0 u1 u2 u3 u4
theorem Zx.c5 (Z:Zx P w K mg base h) {p0 p1 p2 p3 p4:Str}(g:Gl K x st f fd) (ok:FnOk P w K mg base CX k f fd [p0,p1,p2,p3,p4] sp) (b:∀(kV doc pm:Value) (an:Option Addr) (cdv ct:Value) (u0 u1 u2 u3 u4:Value),bindArgs (W.fnOf x x (z1m st) (z1i st) (z0k st) .none kV doc pm an cdv ct) ⟨[u0,u1,u2,u3,u4],[]⟩=pure [(p0,u0),(p1,u1),(p2,u2),(p3,u3),(p4,u4)]:=by intros;rfl):Callee P w K mg base CX k x [p0,p1,p2,p3,p4] sp:=Callee.mk' g.F (Z.g g.a) (Zx.b5 g b) ok
theorem Zx.b6 {p0 p1 p2 p3 p4 p5:Str}(g:Gl K x st f fd) (b:∀(kV doc pm:Value) (an:Option Addr) (cdv ct:Value) (u0 u1 u2 u3 u4 u5:Value),bindArgs (W.fnOf x x (z1m st) (z1i st) (z0k st) .none kV doc pm an cdv ct) ⟨[u0,u1,u2,u3,u4,u5],[]⟩=pure [(p0,u0),(p1,u1),(p2,u2),(p3,u3),(p4,u4),(p5,u5)]:=by intros;rfl):Binds K fd [p0,p1,p2,p3,p4,p5] []:=g.F.binds λ kV doc pm an cdv ct us hl=>by
 match us,hl with
 | [u0,u1,u2,u3,u4,u5],_=>exact b kV doc pm an cdv ct u0 u1 u2 u3 u4 u5
theorem Zx.c6 (Z:Zx P w K mg base h) {p0 p1 p2 p3 p4 p5:Str}(g:Gl K x st f fd) (ok:FnOk P w K mg base CX k f fd [p0,p1,p2,p3,p4,p5] sp) (b:∀(kV doc pm:Value) (an:Option Addr) (cdv ct:Value) (u0 u1 u2 u3 u4 u5:Value),bindArgs (W.fnOf x x (z1m st) (z1i st) (z0k st) .none kV doc pm an cdv ct) ⟨[u0,u1,u2,u3,u4,u5],[]⟩=pure [(p0,u0),(p1,u1),(p2,u2),(p3,u3),(p4,u4),(p5,u5)]:=by intros;rfl):Callee P w K mg base CX k x [p0,p1,p2,p3,p4,p5] sp:=Callee.mk' g.F (Z.g g.a) (Zx.b6 g b) ok
end
theorem all_mk {l:W.OpenLaw}{w:World}{K:W.Frag}{h:Heap}{mg:Str->Option Value}{fa f0 f1 f2 f3 f4 f5 f6 f7 f8 f9 f10 f11 f12 f13 f14 f15 f16 f17 f18 f19 f20 f21 f22 f23 f24 f25 f26 f27 f28 f29 f30 f31 f32 f33 f34 f35 f36 f37 f38 f39 f40 f41 f42 f43 f44 f45 f46 f47 f48:Addr}{d0 d1 d2 d3 d4 d5 d6 d7 d8 d9 d10 d11 d12 d13 d14 d15 d16 d17 d18 d19 d20 d21 d22 d23 d31 d32 d33 d34 d35 d36 d37 d38 d39 d40 d41 d42 d43 d44 d45 d46 d47 d48:FuncData}(X:K.In h) (G:h.Ns mainGlobals mg) (hfa:mg "law"=some (.ref fa))
  {od24 an24 od25 an25 od26 an26 od27 an27 od28 an28 od29 an29 od30 an30:Option Addr}{sl24 sl25 sl26 sl27 sl28 sl29 sl30:Array (Option Value)}{oc24 kV24 dc24 pm24 ct24 cd24 oc25 kV25 dc25 pm25 ct25 cd25 oc26 kV26 dc26 pm26 ct26 cd26 oc27 kV27 dc27 pm27 ct27 cd27 oc28 kV28 dc28 pm28 ct28 cd28 oc29 kV29 dc29 pm29 ct29 cd29 oc30 kV30 dc30 pm30 ct30 cd30:Value}
  {CNoPlace:Addr}(nNoPlace:W.nsIn K mainGlobals "NoPlace"=some (some (.ref CNoPlace)))
  {CStuck:Addr}(nStuck:W.nsIn K mainGlobals "Stuck"=some (some (.ref CStuck)))
  {CNotReady:Addr}(nNotReady:W.nsIn K mainGlobals "NotReady"=some (some (.ref CNotReady)))
  {CUnlike:Addr}(nUnlike:W.nsIn K mainGlobals "Unlike"=some (some (.ref CUnlike)))
  {CBench:Addr}(nBench:W.nsIn K mainGlobals "Bench"=some (some (.ref CBench)))
  {CNotDone:Addr}(nNotDone:W.nsIn K mainGlobals "NotDone"=some (some (.ref CNotDone)))
  {CNoRound:Addr}(nNoRound:W.nsIn K mainGlobals "NoRound"=some (some (.ref CNoRound)))
  (g0:Gl K "wrapped" z8z f0 d0)
  (g1:Gl K "sign_of" y2c f1 d1)
  (g2:Gl K "quotient" z7c f2 d2)
  (g3:Gl K "remainder" z5x f3 d3)
  (g4:Gl K "once" x6d f4 d4)
  (g5:Gl K "twice" y7n f5 d5)
  (g6:Gl K "neutral" z9l f6 d6)
  (g7:Gl K "amount" y2r f7 d7)
  (g8:Gl K "at_of" x6k f8 d8)
  (g9:Gl K "spot_of" y2b f9 d9)
  (g10:Gl K "is_free" y2i f10 d10)
  (g11:Gl K "branches_of" z4w f11 d11)
  (g12:Gl K "taken" y7o f12 d12)
  (g13:Gl K "tree_spot" z6z f13 d13)
  (g14:Gl K "free_number" z4v f14 d14)
  (g15:Gl K "put_together" z4f f15 d15)
  (g16:Gl K "reckoned" z5g f16 d16)
  (g17:Gl K "loop_sides" z6a f17 d17)
  (g18:Gl K "rounds_of" z7b f18 d18)
  (g19:Gl K "loop_store" z5z f19 d19)
  (g20:Gl K "fill_made" z7p f20 d20)
  (g21:Gl K "run_made" z9b f21 d21)
  (g22:Gl K "ask_writings" z4g f22 d22)
  (g23:Gl K "stores_filled" z3q f23 d23)
  (a24:W.findIn K (.ref CBench) "__init__"=some (some (.ref f24))) (i24:W.isFn K (.ref f24)=true) (l24:K.lookup f24=some ⟨oc24,od24,.func (W.fnOf "__init__" "Bench.__init__" (z1m z2s) (z1i z2s) (z0k z2s) .none kV24 dc24 pm24 an24 cd24 ct24),sl24⟩) (q24:W.codeIn K cd24 "Bench.__init__"=true) (k24:W.keepIn K (.ref f24)=true)
  (a25:W.findIn K (.ref CBench) "left"=some (some (.ref f25))) (i25:W.isFn K (.ref f25)=true) (l25:K.lookup f25=some ⟨oc25,od25,.func (W.fnOf "left" "Bench.left" (z1m z2r) (z1i z2r) (z0k z2r) .none kV25 dc25 pm25 an25 cd25 ct25),sl25⟩) (q25:W.codeIn K cd25 "Bench.left"=true) (k25:W.keepIn K (.ref f25)=true)
  (a26:W.findIn K (.ref CBench) "calls_made"=some (some (.ref f26))) (i26:W.isFn K (.ref f26)=true) (l26:K.lookup f26=some ⟨oc26,od26,.func (W.fnOf "calls_made" "Bench.calls_made" (z1m z1u) (z1i z1u) (z0k z1u) .none kV26 dc26 pm26 an26 cd26 ct26),sl26⟩) (q26:W.codeIn K cd26 "Bench.calls_made"=true) (k26:W.keepIn K (.ref f26)=true)
  (a27:W.findIn K (.ref CBench) "log_told"=some (some (.ref f27))) (i27:W.isFn K (.ref f27)=true) (l27:K.lookup f27=some ⟨oc27,od27,.func (W.fnOf "log_told" "Bench.log_told" (z1m z1y) (z1i z1y) (z0k z1y) .none kV27 dc27 pm27 an27 cd27 ct27),sl27⟩) (q27:W.codeIn K cd27 "Bench.log_told"=true) (k27:W.keepIn K (.ref f27)=true)
  (a28:W.findIn K (.ref CBench) "store"=some (some (.ref f28))) (i28:W.isFn K (.ref f28)=true) (l28:K.lookup f28=some ⟨oc28,od28,.func (W.fnOf "store" "Bench.store" (z1m z2l) (z1i z2l) (z0k z2l) .none kV28 dc28 pm28 an28 cd28 ct28),sl28⟩) (q28:W.codeIn K cd28 "Bench.store"=true) (k28:W.keepIn K (.ref f28)=true)
  (a29:W.findIn K (.ref CBench) "answers_told"=some (some (.ref f29))) (i29:W.isFn K (.ref f29)=true) (l29:K.lookup f29=some ⟨oc29,od29,.func (W.fnOf "answers_told" "Bench.answers_told" (z1m z1q) (z1i z1q) (z0k z1q) .none kV29 dc29 pm29 an29 cd29 ct29),sl29⟩) (q29:W.codeIn K cd29 "Bench.answers_told"=true) (k29:W.keepIn K (.ref f29)=true)
  (a30:W.findIn K (.ref CBench) "do"=some (some (.ref f30))) (i30:W.isFn K (.ref f30)=true) (l30:K.lookup f30=some ⟨oc30,od30,.func (W.fnOf "do" "Bench.do" (z1m z4m) (z1i z4m) (z0k z4m) .none kV30 dc30 pm30 an30 cd30 ct30),sl30⟩) (q30:W.codeIn K cd30 "Bench.do"=true) (k30:W.keepIn K (.ref f30)=true)
  (g31:Gl K "_law_at" y7w f31 d31)
  (g32:Gl K "_law_figure" z6d f32 d32)
  (g33:Gl K "_law_mixed" z7k f33 d33)
  (g34:Gl K "_law_tree" z9m f34 d34)
  (g35:Gl K "_law_loop" z9o f35 d35)
  (g36:Gl K "_law_own" y2g f36 d36)
  (g37:Gl K "_law_spot" z9n f37 d37)
  (g38:Gl K "_law_told" z6t f38 d38)
  (g39:Gl K "_law_round" z7j f39 d39)
  (g40:Gl K "_law_rounds" z6b f40 d40)
  (g41:Gl K "_law_due" y2h f41 d41)
  (g42:Gl K "_law_asked" z7o f42 d42)
  (g43:Gl K "_law_picked" z6c f43 d43)
  (g44:Gl K "_law_early" z7m f44 d44)
  (g45:Gl K "_law_looks" z7l f45 d45)
  (g46:Gl K "_law_begun" z7n f46 d46)
  (g47:Gl K "_law_unfit" z7i f47 d47)
  (g48:Gl K "law" w3o f48 d48)
  (zabs:W.nsIn K mainGlobals "abs"=some none)
  (zmax:W.nsIn K mainGlobals "max"=some none)
  (zmin:W.nsIn K mainGlobals "min"=some none)
  (zreversed:W.nsIn K mainGlobals "reversed"=some none)
  (ztuple:W.nsIn K mainGlobals "tuple"=some none)
  (zlen:W.nsIn K mainGlobals "len"=some none)
  (zzip:W.nsIn K mainGlobals "zip"=some none)
  (zsum:W.nsIn K mainGlobals "sum"=some none)
  (zrange:W.nsIn K mainGlobals "range"=some none)
  (zset:W.nsIn K mainGlobals "set"=some none)
  (zlist:W.nsIn K mainGlobals "list"=some none)
  (zenumerate:W.nsIn K mainGlobals "enumerate"=some none)
  (zint:W.nsIn K mainGlobals "int"=some none)
  (zisinstance:W.nsIn K mainGlobals "isinstance"=some none)
  {tLOW:Tok}(gLOW:W.nsIn K mainGlobals "LOW"=some (some (.int (-9223372036854775808) tLOW)))
  {tHIGH:Tok}(gHIGH:W.nsIn K mainGlobals "HIGH"=some (some (.int 9223372036854775807 tHIGH)))
  (xNoPlace:W.excIn K CNoPlace [.type "ValueError",.type "Exception",.type "BaseException",.type "object"] "ValueError.__new__"=true)
  (xUnlike:W.excIn K CUnlike [.type "ValueError",.type "Exception",.type "BaseException",.type "object"] "ValueError.__new__"=true)
  (xNotDone:W.excIn K CNotDone [.type "ValueError",.type "Exception",.type "BaseException",.type "object"] "ValueError.__new__"=true)
  (xNoRound:W.excIn K CNoRound [.type "ValueError",.type "Exception",.type "BaseException",.type "object"] "ValueError.__new__"=true)
  (xStuck:W.excIn K CStuck [.type "ValueError",.type "Exception",.type "BaseException",.type "object"] "ValueError.__new__"=true)
  (xNotReady:W.excIn K CNotReady [.type "ValueError",.type "Exception",.type "BaseException",.type "object"] "ValueError.__new__"=true)
  (eRR:W.exmOne K (.ref CNoRound) (.ref CNoRound)=some true)
  (eNR:W.exmOne K (.ref CNotReady) (.ref CNoRound)=some false)
  (eNN:W.exmOne K (.ref CNotReady) (.ref CNotReady)=some true)
  (eSR:W.exmOne K (.ref CStuck) (.ref CNoRound)=some false)
  (eSN:W.exmOne K (.ref CStuck) (.ref CNotReady)=some false)
  (eSS:W.exmOne K (.ref CStuck) (.ref CStuck)=some true)
  (eDD:W.exmOne K (.ref CNotDone) (.ref CNotDone)=some true)
  (eUU:W.exmOne K (.ref CUnlike) (.ref CUnlike)=some true)
  (Rc:(W.clsIn K CNoRound).isSome=true)
  (Rga:W.findIn K (.ref CNoRound) "__getattribute__"=some (some (.builtin "BaseException.__getattribute__")))
  (Rgt:W.findIn K (.ref CNoRound) "__getattr__"=some none)
  (Rcl:W.findIn K (.ref CNoRound) "__class__"=some (some (.builtin "object.__class__")))
  (Rmo:W.mroIn K CNoRound (.type "object")=some true)
  (Rmb:W.mroIn K CNoRound (.type "BaseException")=some true)
  (Nc:(W.clsIn K CNotReady).isSome=true)
  (Nga:W.findIn K (.ref CNotReady) "__getattribute__"=some (some (.builtin "BaseException.__getattribute__")))
  (Ngt:W.findIn K (.ref CNotReady) "__getattr__"=some none)
  (Ncl:W.findIn K (.ref CNotReady) "__class__"=some (some (.builtin "object.__class__")))
  (Nmo:W.mroIn K CNotReady (.type "object")=some true)
  (Nmb:W.mroIn K CNotReady (.type "BaseException")=some true)
  (Sc:(W.clsIn K CStuck).isSome=true)
  (Sga:W.findIn K (.ref CStuck) "__getattribute__"=some (some (.builtin "BaseException.__getattribute__")))
  (Sgt:W.findIn K (.ref CStuck) "__getattr__"=some none)
  (Scl:W.findIn K (.ref CStuck) "__class__"=some (some (.builtin "object.__class__")))
  (Smo:W.mroIn K CStuck (.type "object")=some true)
  (Smb:W.mroIn K CStuck (.type "BaseException")=some true)
  (kR:W.kitAny K (.ref CNoRound) [Value.ref CNotReady,Value.ref CStuck,Value.ref CNotDone,Value.ref CUnlike]=some false)
  (kN:W.kitAny K (.ref CNotReady) [Value.ref CNoRound,Value.ref CStuck,Value.ref CNotDone,Value.ref CUnlike]=some false)
  (kS:W.kitAny K (.ref CStuck) [Value.ref CNoRound,Value.ref CNotReady,Value.ref CNotDone,Value.ref CUnlike]=some false)
  (Bpg:W.plainGet K CBench Str.empty=true)
  (Bhd:W.hasDictIn K CBench=true)
  (Bpo:W.plainOver K CBench=true)
  (Bsa:W.findIn K (.ref CBench) "__setattr__"=some (some (.builtin "object.__setattr__")))
  (mkBench:W.makesIn K CBench=true)
  (kpBench:W.keepIn K (.ref CBench)=true)
  (Bn0:W.findIn K (.ref CBench) "cells"=some none)
  (Bn1:W.findIn K (.ref CBench) "loops"=some none)
  (Bn2:W.findIn K (.ref CBench) "outs"=some none)
  (Bn3:W.findIn K (.ref CBench) "done"=some none)
  (Bn4:W.findIn K (.ref CBench) "calls"=some none)
  (Bn5:W.findIn K (.ref CBench) "log"=some none)
  : ∃fd:FuncData,(∀(s:Shared) (v:Value),BindsTo s fd ⟨[v],[]⟩ [("script",v)])/\∀base:Heap,K.In base->base.Ns mainGlobals mg->FnOk l.prog w K mg base CX0 12 fa fd ["script"] (x2e K):=by
 have e:=hfa.symm.trans (W.mg_of X G g48.a)
 cases e
 have F24:=z6n (st:=z2s) l24 q24 k24
 have b24:=F24.binds (ps:=["self","weft","inputs"]) λ _ _ _ _ _ _ us hl=>by
  obtain ⟨_,_,_,rfl⟩:=y7a hl
  rfl
 have F25:=z6n (st:=z2r) l25 q25 k25
 have b25:=F25.binds (ps:=["self"]) λ _ _ _ _ _ _ us hl=>by
  obtain ⟨_,rfl⟩:=z8x hl
  rfl
 have F26:=z6n (st:=z1u) l26 q26 k26
 have b26:=F26.binds (ps:=["self"]) λ _ _ _ _ _ _ us hl=>by
  obtain ⟨_,rfl⟩:=z8x hl
  rfl
 have F27:=z6n (st:=z1y) l27 q27 k27
 have b27:=F27.binds (ps:=["self"]) λ _ _ _ _ _ _ us hl=>by
  obtain ⟨_,rfl⟩:=z8x hl
  rfl
 have F28:=z6n (st:=z2l) l28 q28 k28
 have b28:=F28.binds (ps:=["self","k"]) λ _ _ _ _ _ _ us hl=>by
  obtain ⟨_,_,rfl⟩:=x5t hl
  rfl
 have F29:=z6n (st:=z1q) l29 q29 k29
 have b29:=F29.binds (ps:=["self"]) λ _ _ _ _ _ _ us hl=>by
  obtain ⟨_,rfl⟩:=z8x hl
  rfl
 have F30:=z6n (st:=z4m) l30 q30 k30
 have b30:=F30.binds (ps:=["self","loop","round_at"]) λ _ _ _ _ _ _ us hl=>by
  obtain ⟨_,_,_,rfl⟩:=y7a hl
  rfl
 obtain ⟨_,_,kVL,dcL,pmL,anL,cdL,ctL,_,eL,_,_⟩:=g48.F.ex
 refine ⟨d48,λ s v=>by rw [eL];exact .of_eq rfl,λ base KB GB=>?_⟩
 have Z:Zx l.prog w K mg base h:=⟨X,G⟩
 have BC:BenCls K CBench:=⟨⟨Bpg,Bhd,Bpo,Bsa⟩,Bn0,Bn1,Bn2,Bn3,Bn4,Bn5⟩
 have kxR:ExcK K CNoRound:=⟨Rc,Rga,Rgt,Rcl,Rmo,Rmb⟩
 have kxN:ExcK K CNotReady:=⟨Nc,Nga,Ngt,Ncl,Nmo,Nmb⟩
 have kxS:ExcK K CStuck:=⟨Sc,Sga,Sgt,Scl,Smo,Smb⟩
 have C_wrapped:=Z.c1 g0 (y9n g0.F (Z.g gLOW))
 have C_signof:=Z.c1 g1 (x2x g1.F)
 have C_quotient:=Z.c2 g2 (y5w g2.F (C_wrapped.mono (by decide)))
 have C_remainder:=Z.c2 g3 (y2u g3.F)
 have C_once:=Z.c2 g4 (w1i g4.F (C_wrapped.mono (by decide)) (C_signof.mono (by decide)) (Z.n zabs))
 have C_twice:=Z.c3 g5 (x7n g5.F (C_wrapped.mono (by decide)) (C_quotient.mono (by decide)) (C_remainder.mono (by decide)) (Z.n zmax) (Z.n zmin))
 have C_neutral:=Z.c1 g6 (y9p g6.F (Z.g gLOW) (Z.g gHIGH))
 have C_amount:=Z.c1 g7 (x3b g7.F)
 have C_atof:=Z.c2 g8 (w1j g8.F nNoPlace (C_amount.mono (by decide)) (Z.n zreversed) (Z.n ztuple) xNoPlace)
 have C_spotof:=Z.c2 g9 (x2w g9.F (Z.n zlen) (Z.n zzip) (Z.n zsum))
 have C_isfree:=Z.c1 g10 (x3a g10.F)
 have C_branchesof:=Z.c1 g11 (y1f g11.F)
 have C_taken:=Z.c2 g12 (x7o g12.F nStuck nNotReady (Z.n zlen) xStuck xNotReady)
 have C_treespot:=Z.c3 g13 (y5t g13.F (C_spotof.mono (by decide)))
 have C_freenumber:=Z.c3 g14 (y1e g14.F (C_treespot.mono (by decide)) (C_taken.mono (by decide)))
 have C_puttogether:=Z.c4 g15 (y0c g15.F (C_once.mono (by decide)) (C_twice.mono (by decide)))
 have C_reckoned:=Z.c3 g16 (z7t g16.F (C_isfree.mono (by decide)) (C_branchesof.mono (by decide)) (C_freenumber.mono (by decide)) (C_puttogether.mono (by decide)) (Z.g g16.a) (Zx.b3 g16) 3)
 have C_loopsides:=Z.c1 g17 (y2w g17.F)
 have C_roundsof:=Z.c1 g18 (y5u g18.F (C_amount.mono (by decide)) (C_loopsides.mono (by decide)))
 have C_loopstore:=Z.c1 g19 (y2v g19.F)
 have C_fillmade:=Z.c3 g20 (y6e g20.F (C_reckoned.mono (by decide)) (C_treespot.mono (by decide)))
 have C_runmade:=Z.c3 g21 (y9o g21.F (C_reckoned.mono (by decide)) (C_treespot.mono (by decide)) (C_neutral.mono (by decide)) (C_twice.mono (by decide)) (Z.n zrange))
 have C_askwritings:=Z.c2 g22 (y0d g22.F nStuck (Z.n zlen) (Z.n zset) xStuck)
 have C_storesfilled:=Z.c2 g23 (z8h g23.F nUnlike (C_loopstore.mono (by decide)) (Z.n zlen) (Z.n zrange) (Z.n zzip) (Z.n zlist) xUnlike)
 have O_Benchinit:=y3b (P:=l.prog) (w:=w) (base:=base) (mg:=mg) F24 nUnlike nBench (C_storesfilled.mono (by decide)) BC
 have C_Benchinit:MakC l.prog w K mg base _ 3 CBench "Bench" _ _:=⟨⟨_,_,O_Benchinit,⟨mkBench,a24,i24,kpBench⟩,b24,W.mg_of X G nBench⟩⟩
 have O_Benchleft:=y3a (P:=l.prog) (w:=w) (base:=base) (mg:=mg) F25 nBench (C_roundsof.mono (by decide)) (Z.n zenumerate) (Z.n zrange) BC
 have C_Benchleft:CalM l.prog w K mg base _ 4 CBench "left" _ _:=⟨⟨_,_,O_Benchleft,⟨a25,i25,k25⟩,b25⟩⟩
 have O_Benchcallsmade:=z6q (P:=l.prog) (w:=w) (base:=base) (mg:=mg) F26 nBench BC
 have C_Benchcallsmade:CalM l.prog w K mg base _ 1 CBench "calls_made" _ _:=⟨⟨_,_,O_Benchcallsmade,⟨a26,i26,k26⟩,b26⟩⟩
 have O_Benchlogtold:=z8i (P:=l.prog) (w:=w) (base:=base) (mg:=mg) F27 nBench (Z.n zlist) BC
 have C_Benchlogtold:CalM l.prog w K mg base _ 1 CBench "log_told" _ _:=⟨⟨_,_,O_Benchlogtold,⟨a27,i27,k27⟩,b27⟩⟩
 have O_Benchstore:=y1g (P:=l.prog) (w:=w) (base:=base) (mg:=mg) F28 nBench (Z.n zlist) BC
 have C_Benchstore:CalM l.prog w K mg base _ 1 CBench "store" _ _:=⟨⟨_,_,O_Benchstore,⟨a28,i28,k28⟩,b28⟩⟩
 have O_Benchanswerstold:=z5r (P:=l.prog) (w:=w) (base:=base) (mg:=mg) F29 nBench nNotDone (C_Benchleft.mono (by decide)) (Z.n zlen) (Z.n ztuple) BC xNotDone
 have C_Benchanswerstold:CalM l.prog w K mg base _ 5 CBench "answers_told" _ _:=⟨⟨_,_,O_Benchanswerstold,⟨a29,i29,k29⟩,b29⟩⟩
 have O_Benchdo:=y9u (P:=l.prog) (w:=w) (base:=base) (mg:=mg) F30 nBench nNoRound nNoPlace nNotReady nStuck (C_roundsof.mono (by decide)) (C_atof.mono (by decide)) (C_loopsides.mono (by decide)) (C_fillmade.mono (by decide)) (C_runmade.mono (by decide)) (C_loopstore.mono (by decide)) (C_askwritings.mono (by decide)) (Z.n zlen) BC xNoRound
 have C_Benchdo:CalM l.prog w K mg base _ 10 CBench "do" _ _:=⟨⟨_,_,O_Benchdo,⟨a30,i30,k30⟩,b30⟩⟩
 have C_lawat:=Z.c2 g31 (x7p g31.F (Z.n zlen))
 have C_lawfigure:=Z.c1 g32 (y2z g32.F)
 have C_lawmixed:=Z.c2 g33 (y5z g33.F (C_lawat.mono (by decide)))
 have C_lawtree:=Z.c2 g34 (y9q g34.F)
 have C_lawloop:=Z.c1 g35 (y9t g35.F (C_lawtree.mono (by decide)) (Z.n zlen))
 have C_lawown:=Z.c3 g36 (x2y g36.F (Z.n zmax))
 have C_lawspot:=Z.c3 g37 (y9s g37.F (Z.n zzip))
 have C_lawtold:=Z.c3 g38 (z8p g38.F (C_lawown.mono (by decide)) (C_lawspot.mono (by decide)) (Z.n zlen) (Z.g g38.a) (Zx.b3 g38) 3)
 have C_lawround:=Z.c3 g39 (y5y g39.F (C_lawtold.mono (by decide)) (C_lawspot.mono (by decide)) (C_lawown.mono (by decide)) (Z.n zrange))
 have C_lawrounds:=Z.c1 g40 (y2x g40.F (Z.n zint) (Z.n zrange) (Z.n zlen))
 have C_lawdue:=Z.c5 g41 (x2z g41.F (C_lawrounds.mono (by decide)) (C_lawround.mono (by decide)) (Z.n zlen) (Z.n zint))
 have C_lawasked:=Z.c3 g42 (y6d g42.F nBench nNoRound nNotReady nStuck nNotDone nUnlike (C_Benchdo.mono (by decide)) (Z.n zisinstance) BC kxR kxN kxS kR kN kS eRR eNR eNN eSR eSN eSS)
 have C_lawpicked:=Z.c2 g43 (y2y g43.F (C_lawrounds.mono (by decide)) (Z.n zlen))
 have C_lawearly:=Z.c1 g44 (y6b g44.F nBench nNotDone (C_Benchanswerstold.mono (by decide)) BC eDD)
 have C_lawlooks:=Z.c6 g45 (y6a g45.F nBench (C_Benchleft.mono (by decide)) (C_Benchlogtold.mono (by decide)) (C_Benchcallsmade.mono (by decide)) (C_Benchstore.mono (by decide)) (Z.n zrange) (Z.n zisinstance) (Z.n zlist) BC)
 have C_lawbegun:=Z.c3 g46 (y6c g46.F (C_lawmixed.mono (by decide)) (C_lawfigure.mono (by decide)) (Z.n zrange) (Z.n zint) (Z.n zlen) (Z.n ztuple))
 have C_lawunfit:=Z.c3 g47 (y5x g47.F nBench nUnlike (C_Benchinit.mono (by decide)) (Z.n zlen) eUU)
 exact w4b g48.F nBench nUnlike (C_lawloop.mono (by decide)) (C_lawmixed.mono (by decide)) (C_lawbegun.mono (by decide)) (C_lawunfit.mono (by decide)) (C_lawrounds.mono (by decide)) (C_lawpicked.mono (by decide)) (C_lawdue.mono (by decide)) (C_lawasked.mono (by decide)) (C_lawlooks.mono (by decide)) (C_lawearly.mono (by decide)) (C_Benchinit.mono (by decide)) (Z.n zrange) (Z.n zsum) (Z.n zlen) (Z.n zint) BC
theorem walk {l:W.OpenLaw}{q:Program}{loose:List Str}{XP:(Str->Option Value)->Heap->Prop}{YP:World->Heap->Prop}{d:DefRec}{K:Params->W.Frag}(hn:l.most=some 63) (hdf:d.params.defaults=[])
  (hY:∀(w:World) (h:Heap),YP w h->(K w.params).In h)
  (F:∀(w:World) (mg:Str->Option Value) (fa:Addr) (h:Heap),(K w.params).In h->h.Ns mainGlobals mg->mg d.name=some (.ref fa) ->
   ∃fd:FuncData,(∀(s:Shared) (u:Value),BindsTo s fd ⟨[u],[]⟩ [("script",u)])/\∀base:Heap,(K w.params).In base->base.Ns mainGlobals mg->FnOk l.prog w (K w.params) mg base (CX0) 12 fa fd ["script"] (x2e (K w.params))) :
  W.WalkO q loose XP YP l.row.toRowW d [] (λ f vs=>PySem.call f vs) :=
 L2.walk_of (n:=63) (k:=12) (x := "script") (CX:=λ _=>CX0) (sp:=λ w=>x2e (K w.params)) hn (by decide) hdf ⟨rfl,by decide,by decide⟩ hY F (λ _ _ a ns hl hfew hS=>⟨a,ns,rfl,hS,hl,λ _=>rfl⟩) λ _ _ _ _ _ z=>z
end My
end
open PySem PySem.W PyProof.Rows
set_option maxRecDepth 100000 in
set_option maxHeartbeats 0 in
theorem PySem.Challenge.cw_sideloom_k58_whole_rounds_that_wait_holds : PySem.Challenge.rw_sideloom_k58_whole_rounds_that_wait.Holds := by
 w_on;o_law;k_head;(case hw=>w_witness2)
 k_fill
 refine My.walk (l:=PySem.Challenge.rw_sideloom_k58_whole_rounds_that_wait) rfl rfl (λ w h Y=>W.kIn_of Y) ?F
 case F =>
  intro w mg fa h KX G hmg
  refine' My.all_mk KX G hmg ?nNoPlace ?nStuck ?nNotReady ?nUnlike ?nBench ?nNotDone ?nNoRound ?gg0 ?gg1 ?gg2 ?gg3 ?gg4 ?gg5 ?gg6 ?gg7 ?gg8 ?gg9 ?gg10 ?gg11 ?gg12 ?gg13 ?gg14 ?gg15 ?gg16 ?gg17 ?gg18 ?gg19 ?gg20 ?gg21 ?gg22 ?gg23 ?a24 ?i24 ?l24 ?q24 ?k24 ?a25 ?i25 ?l25 ?q25 ?k25 ?a26 ?i26 ?l26 ?q26 ?k26 ?a27 ?i27 ?l27 ?q27 ?k27 ?a28 ?i28 ?l28 ?q28 ?k28 ?a29 ?i29 ?l29 ?q29 ?k29 ?a30 ?i30 ?l30 ?q30 ?k30 ?gg31 ?gg32 ?gg33 ?gg34 ?gg35 ?gg36 ?gg37 ?gg38 ?gg39 ?gg40 ?gg41 ?gg42 ?gg43 ?gg44 ?gg45 ?gg46 ?gg47 ?gg48 ?zabs ?zmax ?zmin ?zreversed ?ztuple ?zlen ?zzip ?zsum ?zrange ?zset ?zlist ?zenumerate ?zint ?zisinstance ?gLOW ?gHIGH ?xNoPlace ?xUnlike ?xNotDone ?xNoRound ?xStuck ?xNotReady ?eRR ?eNR ?eNN ?eSR ?eSN ?eSS ?eDD ?eUU ?Rc ?Rga ?Rgt ?Rcl ?Rmo ?Rmb ?Nc ?Nga ?Ngt ?Ncl ?Nmo ?Nmb ?Sc ?Sga ?Sgt ?Scl ?Smo ?Smb ?kR ?kN ?kS ?Bpg ?Bhd ?Bpo ?Bsa ?mkBench ?kpBench ?Bn0 ?Bn1 ?Bn2 ?Bn3 ?Bn4 ?Bn5
  (case nNoPlace=>k_is)
  (case nStuck=>k_is)
  (case nNotReady=>k_is)
  (case nUnlike=>k_is)
  (case nBench=>k_is)
  (case nNotDone=>k_is)
  (case nNoRound=>k_is)
  (case gg0=>refine' My.gl_mk ?ya ?yb ?yc ?yd;(case ya=>k_is);(case yb=>k_is);(case yc=>k_is);(case yd=>k_is))
  (case gg1=>refine' My.gl_mk ?ya ?yb ?yc ?yd;(case ya=>k_is);(case yb=>k_is);(case yc=>k_is);(case yd=>k_is))
  (case gg2=>refine' My.gl_mk ?ya ?yb ?yc ?yd;(case ya=>k_is);(case yb=>k_is);(case yc=>k_is);(case yd=>k_is))
  (case gg3=>refine' My.gl_mk ?ya ?yb ?yc ?yd;(case ya=>k_is);(case yb=>k_is);(case yc=>k_is);(case yd=>k_is))
  (case gg4=>refine' My.gl_mk ?ya ?yb ?yc ?yd;(case ya=>k_is);(case yb=>k_is);(case yc=>k_is);(case yd=>k_is))
  (case gg5=>refine' My.gl_mk ?ya ?yb ?yc ?yd;(case ya=>k_is);(case yb=>k_is);(case yc=>k_is);(case yd=>k_is))
  (case gg6=>refine' My.gl_mk ?ya ?yb ?yc ?yd;(case ya=>k_is);(case yb=>k_is);(case yc=>k_is);(case yd=>k_is))
  (case gg7=>refine' My.gl_mk ?ya ?yb ?yc ?yd;(case ya=>k_is);(case yb=>k_is);(case yc=>k_is);(case yd=>k_is))
  (case gg8=>refine' My.gl_mk ?ya ?yb ?yc ?yd;(case ya=>k_is);(case yb=>k_is);(case yc=>k_is);(case yd=>k_is))
  (case gg9=>refine' My.gl_mk ?ya ?yb ?yc ?yd;(case ya=>k_is);(case yb=>k_is);(case yc=>k_is);(case yd=>k_is))
  (case gg10=>refine' My.gl_mk ?ya ?yb ?yc ?yd;(case ya=>k_is);(case yb=>k_is);(case yc=>k_is);(case yd=>k_is))
  (case gg11=>refine' My.gl_mk ?ya ?yb ?yc ?yd;(case ya=>k_is);(case yb=>k_is);(case yc=>k_is);(case yd=>k_is))
  (case gg12=>refine' My.gl_mk ?ya ?yb ?yc ?yd;(case ya=>k_is);(case yb=>k_is);(case yc=>k_is);(case yd=>k_is))
  (case gg13=>refine' My.gl_mk ?ya ?yb ?yc ?yd;(case ya=>k_is);(case yb=>k_is);(case yc=>k_is);(case yd=>k_is))
  (case gg14=>refine' My.gl_mk ?ya ?yb ?yc ?yd;(case ya=>k_is);(case yb=>k_is);(case yc=>k_is);(case yd=>k_is))
  (case gg15=>refine' My.gl_mk ?ya ?yb ?yc ?yd;(case ya=>k_is);(case yb=>k_is);(case yc=>k_is);(case yd=>k_is))
  (case gg16=>refine' My.gl_mk ?ya ?yb ?yc ?yd;(case ya=>k_is);(case yb=>k_is);(case yc=>k_is);(case yd=>k_is))
  (case gg17=>refine' My.gl_mk ?ya ?yb ?yc ?yd;(case ya=>k_is);(case yb=>k_is);(case yc=>k_is);(case yd=>k_is))
  (case gg18=>refine' My.gl_mk ?ya ?yb ?yc ?yd;(case ya=>k_is);(case yb=>k_is);(case yc=>k_is);(case yd=>k_is))
  (case gg19=>refine' My.gl_mk ?ya ?yb ?yc ?yd;(case ya=>k_is);(case yb=>k_is);(case yc=>k_is);(case yd=>k_is))
  (case gg20=>refine' My.gl_mk ?ya ?yb ?yc ?yd;(case ya=>k_is);(case yb=>k_is);(case yc=>k_is);(case yd=>k_is))
  (case gg21=>refine' My.gl_mk ?ya ?yb ?yc ?yd;(case ya=>k_is);(case yb=>k_is);(case yc=>k_is);(case yd=>k_is))
  (case gg22=>refine' My.gl_mk ?ya ?yb ?yc ?yd;(case ya=>k_is);(case yb=>k_is);(case yc=>k_is);(case yd=>k_is))
  (case gg23=>refine' My.gl_mk ?ya ?yb ?yc ?yd;(case ya=>k_is);(case yb=>k_is);(case yc=>k_is);(case yd=>k_is))
  (case a24=>k_is)
  (case i24=>k_is)
  (case l24=>k_is)
  (case q24=>k_is)
  (case k24=>k_is)
  (case a25=>k_is)
  (case i25=>k_is)
  (case l25=>k_is)
  (case q25=>k_is)
  (case k25=>k_is)
  (case a26=>k_is)
  (case i26=>k_is)
  (case l26=>k_is)
  (case q26=>k_is)
  (case k26=>k_is)
  (case a27=>k_is)
  (case i27=>k_is)
  (case l27=>k_is)
  (case q27=>k_is)
  (case k27=>k_is)
  (case a28=>k_is)
  (case i28=>k_is)
  (case l28=>k_is)
  (case q28=>k_is)
  (case k28=>k_is)
  (case a29=>k_is)
  (case i29=>k_is)
  (case l29=>k_is)
  (case q29=>k_is)
  (case k29=>k_is)
  (case a30=>k_is)
  (case i30=>k_is)
  (case l30=>k_is)
  (case q30=>k_is)
  (case k30=>k_is)
  (case gg31=>refine' My.gl_mk ?ya ?yb ?yc ?yd;(case ya=>k_is);(case yb=>k_is);(case yc=>k_is);(case yd=>k_is))
  (case gg32=>refine' My.gl_mk ?ya ?yb ?yc ?yd;(case ya=>k_is);(case yb=>k_is);(case yc=>k_is);(case yd=>k_is))
  (case gg33=>refine' My.gl_mk ?ya ?yb ?yc ?yd;(case ya=>k_is);(case yb=>k_is);(case yc=>k_is);(case yd=>k_is))
  (case gg34=>refine' My.gl_mk ?ya ?yb ?yc ?yd;(case ya=>k_is);(case yb=>k_is);(case yc=>k_is);(case yd=>k_is))
  (case gg35=>refine' My.gl_mk ?ya ?yb ?yc ?yd;(case ya=>k_is);(case yb=>k_is);(case yc=>k_is);(case yd=>k_is))
  (case gg36=>refine' My.gl_mk ?ya ?yb ?yc ?yd;(case ya=>k_is);(case yb=>k_is);(case yc=>k_is);(case yd=>k_is))
  (case gg37=>refine' My.gl_mk ?ya ?yb ?yc ?yd;(case ya=>k_is);(case yb=>k_is);(case yc=>k_is);(case yd=>k_is))
  (case gg38=>refine' My.gl_mk ?ya ?yb ?yc ?yd;(case ya=>k_is);(case yb=>k_is);(case yc=>k_is);(case yd=>k_is))
  (case gg39=>refine' My.gl_mk ?ya ?yb ?yc ?yd;(case ya=>k_is);(case yb=>k_is);(case yc=>k_is);(case yd=>k_is))
  (case gg40=>refine' My.gl_mk ?ya ?yb ?yc ?yd;(case ya=>k_is);(case yb=>k_is);(case yc=>k_is);(case yd=>k_is))
  (case gg41=>refine' My.gl_mk ?ya ?yb ?yc ?yd;(case ya=>k_is);(case yb=>k_is);(case yc=>k_is);(case yd=>k_is))
  (case gg42=>refine' My.gl_mk ?ya ?yb ?yc ?yd;(case ya=>k_is);(case yb=>k_is);(case yc=>k_is);(case yd=>k_is))
  (case gg43=>refine' My.gl_mk ?ya ?yb ?yc ?yd;(case ya=>k_is);(case yb=>k_is);(case yc=>k_is);(case yd=>k_is))
  (case gg44=>refine' My.gl_mk ?ya ?yb ?yc ?yd;(case ya=>k_is);(case yb=>k_is);(case yc=>k_is);(case yd=>k_is))
  (case gg45=>refine' My.gl_mk ?ya ?yb ?yc ?yd;(case ya=>k_is);(case yb=>k_is);(case yc=>k_is);(case yd=>k_is))
  (case gg46=>refine' My.gl_mk ?ya ?yb ?yc ?yd;(case ya=>k_is);(case yb=>k_is);(case yc=>k_is);(case yd=>k_is))
  (case gg47=>refine' My.gl_mk ?ya ?yb ?yc ?yd;(case ya=>k_is);(case yb=>k_is);(case yc=>k_is);(case yd=>k_is))
  (case gg48=>refine' My.gl_mk ?ya ?yb ?yc ?yd;(case ya=>k_is);(case yb=>k_is);(case yc=>k_is);(case yd=>k_is))
  (case zabs=>k_is)
  (case zmax=>k_is)
  (case zmin=>k_is)
  (case zreversed=>k_is)
  (case ztuple=>k_is)
  (case zlen=>k_is)
  (case zzip=>k_is)
  (case zsum=>k_is)
  (case zrange=>k_is)
  (case zset=>k_is)
  (case zlist=>k_is)
  (case zenumerate=>k_is)
  (case zint=>k_is)
  (case zisinstance=>k_is)
  (case gLOW=>k_is)
  (case gHIGH=>k_is)
  (case xNoPlace=>k_exc)
  (case xUnlike=>k_exc)
  (case xNotDone=>k_exc)
  (case xNoRound=>k_exc)
  (case xStuck=>k_exc)
  (case xNotReady=>k_exc)
  (case eRR=>kts_exm)
  (case eNR=>kts_exm)
  (case eNN=>kts_exm)
  (case eSR=>kts_exm)
  (case eSN=>kts_exm)
  (case eSS=>kts_exm)
  (case eDD=>kts_exm)
  (case eUU=>kts_exm)
  (case Rc=>exact Option.isSome_iff_exists.mpr ⟨_,by k_is⟩)
  (case Rga=>k_is)
  (case Rgt=>k_is)
  (case Rcl=>k_is)
  (case Rmo=>k_is)
  (case Rmb=>k_is)
  (case Nc=>exact Option.isSome_iff_exists.mpr ⟨_,by k_is⟩)
  (case Nga=>k_is)
  (case Ngt=>k_is)
  (case Ncl=>k_is)
  (case Nmo=>k_is)
  (case Nmb=>k_is)
  (case Sc=>exact Option.isSome_iff_exists.mpr ⟨_,by k_is⟩)
  (case Sga=>k_is)
  (case Sgt=>k_is)
  (case Scl=>k_is)
  (case Smo=>k_is)
  (case Smb=>k_is)
  (case kR=>kit_is)
  (case kN=>kit_is)
  (case kS=>kit_is)
  (case Bpg=>k_is)
  (case Bhd=>k_is)
  (case Bpo=>k_is)
  (case Bsa=>k_is)
  (case mkBench=>k_is)
  (case kpBench=>k_is)
  (case Bn0=>k_is)
  (case Bn1=>k_is)
  (case Bn2=>k_is)
  (case Bn3=>k_is)
  (case Bn4=>k_is)
  (case Bn5=>k_is)
