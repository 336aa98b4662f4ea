import PyProof.Rows.All
import Wide.All
import OpenK.AllK
import Wide.FinOn
import Lean
import PyProof.EqAt
import PyProof.EqKinds
import PyProof.TupleCall
import PySem.Challenge.RW_sideloom_k30_rows_at_fault
set_option Elab.async false
set_option linter.all false
set_option maxRecDepth 100000
section
set_option compiler.extract_closed false
set_option hygiene false

set_option hygiene true
namespace L2
open PySem PySem.Spec PyProof.Rows
abbrev Key:=Sum Int Str
def y9t:Key->Value->Bool
 | .inl k,v=>Value.isInt k v
 | .inr x,v=>Value.isStrOf x v
def v3w (w:World):Key->Int
 | .inl k=>hashInt k
 | .inr x=>hashStr w x
theorem z1v:∀ {k:Key}{v:Value},y9t k v=true->(∃i t,k=Sum.inl i/\v=Value.int i t)\/(∃x t,k=Sum.inr x/\v=Value.str x t)
 | .inl i,v,h=>by
  obtain ⟨t,e⟩:=Value.isInt_shape (k:=i) (v:=v) h
  exact .inl ⟨i,t,rfl,e⟩
 | .inr x,v,h=>by
  obtain ⟨t,e⟩:=Value.isStrOf_shape (x:=x) (v:=v) h
  exact .inr ⟨x,t,rfl,e⟩
theorem x4f (i:Int) (t:Tok):y9t (.inl i) (.int i t)=true:=by simp [y9t,Value.isInt]
theorem z4u (x:Str) (t:Tok):y9t (.inr x) (.str x t)=true:=by simp [y9t,Value.isStrOf]
theorem w7v (a b:Int):decide ((Sum.inl a:Key)=Sum.inl b)=(a == b):=by
 by_cases e:a=b
 ·subst e;simp
 ·have h:¬(Sum.inl a:Key)=Sum.inl b:=λ q=>e (Sum.inl.inj q)
  rw [decide_eq_false h]
  exact (beq_eq_false_iff_ne.mpr e).symm
theorem w7s (a b:Str):decide ((Sum.inr a:Key)=Sum.inr b)=decide (a=b):=by
 by_cases e:a=b
 ·subst e;simp
 ·have h:¬(Sum.inr a:Key)=Sum.inr b:=λ q=>e (Sum.inr.inj q)
  rw [decide_eq_false h,decide_eq_false e]
theorem w7u (a:Int) (b:Str):decide ((Sum.inl a:Key)=Sum.inr b)=false:=decide_eq_false (λ q=>nomatch q)
theorem w7t (a:Str) (b:Int):decide ((Sum.inr a:Key)=Sum.inl b)=false:=decide_eq_false (λ q=>nomatch q)
def z1y (prog:Program) (w:World):PySem.KeyKind prog w Key where
 is:=y9t
 hash:=v3w w
 inj:=λ v a b ha hb=>by
  rcases z1v ha with ⟨i,t,rfl,rfl⟩ | ⟨x,t,rfl,rfl⟩
  ·rcases z1v hb with ⟨j,u,rfl,e⟩ | ⟨y,u,rfl,e⟩
   ·injection e with e1 _;rw [e1]
   ·exact nomatch e
  ·rcases z1v hb with ⟨j,u,rfl,e⟩ | ⟨y,u,rfl,e⟩
   ·exact nomatch e
   ·injection e with e1 _;rw [e1]
 byValue:=λ k v h=>by
  rcases z1v h with ⟨i,t,rfl,rfl⟩ | ⟨x,t,rfl,rfl⟩<;>rfl
 pyHash:=λ hv h=>by
  rcases z1v hv with ⟨i,t,rfl,rfl⟩ | ⟨x,t,rfl,rfl⟩
  ·exact wpAny_pyHash_int h
  ·exact wpAny_pyHash_str h
 eqBool:=λ hu hv h=>by
  rcases z1v hu with ⟨i,t,rfl,rfl⟩ | ⟨x,t,rfl,rfl⟩
  ·rcases z1v hv with ⟨j,u,rfl,rfl⟩ | ⟨y,u,rfl,rfl⟩
   ·rw [w7v] at h;exact wpAny_eqBool_int h
   ·rw [w7u] at h;exact SeqAt.EqAt.int_str i t y u _ _ _ _ h
  ·rcases z1v hv with ⟨j,u,rfl,rfl⟩ | ⟨y,u,rfl,rfl⟩
   ·rw [w7t] at h;exact SeqAt.EqAt.str_int x t j u _ _ _ _ h
   ·rw [w7s] at h;exact wpAny_eqBool_str h
 «strs»:=λ k x t v h=>by
  rcases z1v h with ⟨i,u,rfl,e⟩ | ⟨y,u,rfl,e⟩
  ·exact nomatch e
  ·injection e with e1 _
   subst e1
   cases v<;>rfl
theorem y5l (prog:Program) (w:World) (i:Int) (t:Tok):(z1y prog w).is (.inl i) (.int i t)=true:=x4f i t
theorem y5k (prog:Program) (w:World) (x:Str) (t:Tok):(z1y prog w).is (.inr x) (.str x t)=true:=z4u x t
inductive V where
 | non | bl (b:Bool) | int (i:Int) | str (x:Str) | byt (b:Array UInt8) | flt (b:UInt64) | ref (a:Addr) | ty (n:String)
 deriving DecidableEq
def RelV:V->Value->Prop
 | .non,u=>u=Value.none
 | .bl b,u=>u=Value.bool b
 | .int i,u=>∃t,u=Value.int i t
 | .str x,u=>∃t,u=Value.str x t
 | .byt b,u=>∃t,u=Value.bytes b t
 | .flt b,u=>∃t,u=Value.float b t
 | .ref a,u=>u=Value.ref a
 | .ty n,u=>u=Value.type n
abbrev Vals:List V->List Value->Prop:=Paired RelV
theorem Vals.length {xs:List V}{us:List Value}(r:Vals xs us):xs.length=us.length:=Paired.length r
theorem Vals.get:∀ {xs:List V}{us:List Value}{i:Nat}{x:V},Vals xs us->xs[i]?=some x->∃u,us[i]?=some u/\RelV x u
 | _,_,_,_,.nil,e=>by simp at e
 | _,_,0,_,.cons r _,e=>by simp at e;subst e;exact ⟨_,rfl,r⟩
 | _,_,i+1,x,.cons _ t,e=>by
  obtain ⟨u,h1,h2⟩:=Vals.get (i:=i) (x:=x) t (by simpa using e)
  exact ⟨u,by simpa using h1,h2⟩
theorem Vals.set {x:V}{u:Value}(r:RelV x u):∀ {xs:List V}{us:List Value}(i:Nat),Vals xs us->Vals (xs.set i x) (us.set i u)
 | _,_,_,.nil=>.nil
 | _,_,0,.cons _ t=>.cons r t
 | _,_,i+1,.cons q t=>.cons q (Vals.set r i t)
theorem Vals.append:∀ {xs ys:List V}{us ws:List Value},Vals xs us->Vals ys ws->Vals (xs++ys) (us++ws)
 | _,_,_,_,.nil,s=>s
 | _,_,_,_,.cons r t,s=>.cons r (Vals.append t s)
theorem Vals.take:∀ {xs:List V}{us:List Value}(n:Nat),Vals xs us->Vals (xs.take n) (us.take n)
 | _,_,0,_=>.nil
 | _,_,_+1,.nil=>.nil
 | _,_,n+1,.cons r t=>.cons r (Vals.take n t)
theorem Vals.drop:∀ {xs:List V}{us:List Value}(n:Nat),Vals xs us->Vals (xs.drop n) (us.drop n)
 | _,_,0,r=>r
 | _,_,_+1,.nil=>.nil
 | _,_,n+1,.cons _ t=>Vals.drop n t
def RelO:Option V->Option Value->Prop
 | some v,some u=>RelV v u
 | none,none=>True
 | _,_=>False
def KV {κ:Type}:List (κ × V)->List (κ × Value)->Prop:=Paired λ (p:κ × V) (q:κ × Value)=>p.1=q.1/\RelV p.2 q.2
def kV:Key->V
 | .inl i=>.int i
 | .inr x=>.str x
inductive HO where
 | lst (xs:List V)
 | tup (xs:List V)
 | dK (kvs:List (Key × V)) | dT (kvs:List (List Key × V))
 | set (S:Int->Bool) (n:Nat)
 | ins (C dx:Addr) (fs:List (Str × V))
 | own (x:Addr)
 | xd (fs:List (Str × V))
 | met (f x:Addr)
 | rng (lo hi:Int)
 | frz (o:Obj) (u:HO)
 | tbl (ps:Array Value)
 | ext (φ:Heap->Prop)
abbrev Hp:=Addr->Option HO
def upd (H:Hp) (a:Addr) (o:HO):Hp:=λ b=>if b=a then some o else H b
theorem z0d {H:Hp}{a:Addr}{o:HO}:upd H a o a=some o:=by unfold upd;rw [if_pos rfl]
theorem z0o {H:Hp}{a b:Addr}{o:HO}(h:b≠a):upd H a o b=H b:=by unfold upd;rw [if_neg h]
theorem v0v {H:Hp}{a b:Addr}{o u:HO}(h:H a=some o) (h':H b=some u) (d:o≠u):a≠b:=by
 intro e;subst e;rw [h] at h';exact d (Option.some.inj h')
theorem z3f {H:Hp}{a b:Addr}{o:HO}(h:H a=some o) (h':H b=none):a≠b:=by
 intro e;subst e;rw [h] at h';cases h'
section
variable (P:Program) (w:World)
def ObjOk (H:Hp) (h:Heap) (a:Addr):HO->Prop
 | .lst xs=>xs.length≤sizeLine/\∃(its:List Value) (n:Nat),Vals xs its/\h.get? a=some { cls:=.type "list",data:=.seq its.toArray n }
 | .tup xs=>xs.length≤sizeLine/\∃its:List Value,Vals xs its/\IsTup h a its.toArray
 | .dK kvs=>kvs.length≤sizeLine/\(a == sysModules)=false/\∃vs,KV kvs vs/\h.DictOf (z1y P w) a vs
 | .dT kvs=>kvs.length≤sizeLine/\(a == sysModules)=false/\∃xs:List (List Key × Addr × Value),
   Paired (λ (p:List Key × V) (q:List Key × Addr × Value)=>p.1=q.1/\H q.2.1=some (.tup (p.1.map kV))/\RelV p.2 q.2.2) kvs xs /\
   ∃o es ep,h.get? a=some o/\o.ExactDict/\o.data=.dict es ep/\es.toList=xs.map (entryOfKey (tupleKind (z1y P w)))/\(xs.map (·.1)).Nodup
 | .set S n=>h.SetOf (intKind P w) a S n
 | .ins C dx fs=>H dx=some (.own a)/\fs.length≤1000/\dx≠a/\h.get? a=some (W.instObj C dx) /\
   ∃mA,h.Ns1 dx mA/\(∀f,RelO (fs.lookup f) (mA f))/\PySem.Within mA (fs.map (·.1))
 | .own _=>∃o,h.get? a=some o
 | .xd fs=>∃mA,h.Ns1 a mA/\∀f,RelO (fs.lookup f) (mA f)
 | .rng lo hi=>∃t u v,h.get? a=some { cls:=.type "range",data:=.fields #[.int lo t,.int hi u,.int 1 v] }
 | .frz o u=>h.get? a=some o/\ObjOk H h a u
 | .tbl ps=>h.get? a=some { cls:=.none,data:=.fields ps }
 | .met f x=>h.get? a=some (W.methodObj (.ref f) (.ref x))
 | .ext φ=>φ h/\(∃o,h.get? a=some o)/\∀h1 h2:Heap,φ h1->(∀o,h1.get? a=some o->h2.get? a=some o)->φ h2
def HOk (H:Hp) (h:Heap):Prop:=∀a o,H a=some o->ObjOk P w H h a o
end
section
variable {P:Program}{w:World}{H H':Hp}{h h':Heap}{a:Addr}{o:HO}
theorem ObjOk.lt (x:ObjOk P w H h a o):a < h.objs.size:=by
 cases o with
 | lst xs=>obtain ⟨_,_,_,_,e⟩:=x;exact Heap.lt_size e
 | tup xs=>obtain ⟨_,_,_,p⟩:=x;exact p.lt
 | dK kvs=>obtain ⟨_,_,_,_,o,_,_,e,_⟩:=x;exact Heap.lt_size e
 | dT kvs=>obtain ⟨_,_,_,_,o,_,_,e,_⟩:=x;exact Heap.lt_size e
 | set S n=>obtain ⟨o,_,_,_,e,_⟩:=x;exact Heap.lt_size e
 | ins C dx fs=>obtain ⟨_,_,_,e,_⟩:=x;exact Heap.lt_size e
 | own y=>obtain ⟨_,e⟩:=x;exact Heap.lt_size e
 | xd fs=>obtain ⟨_,⟨_,_,_,e,_⟩,_⟩:=x;exact Heap.lt_size e
 | rng lo hi=>obtain ⟨_,_,_,e⟩:=x;exact Heap.lt_size e
 | frz ob u=>obtain ⟨e,_⟩:=x;exact Heap.lt_size e
 | tbl ps=>exact Heap.lt_size (show h.get? a=some _ from x)
 | met f y=>exact Heap.lt_size (show h.get? a=some _ from x)
 | ext φ=>obtain ⟨_,⟨_,e⟩,_⟩:=x;exact Heap.lt_size e
theorem Paired.mapP {α β:Type}{F G:α->β->Prop}:∀ {l₁:List α}{l₂:List β},Paired F l₁ l₂->(∀a b,F a b->G a b)->Paired G l₁ l₂
 | _,_,.nil,_=>.nil
 | _,_,.cons r t,f=>.cons (f _ _ r) (Paired.mapP t f)
theorem ObjOk.stay (x:ObjOk P w H h a o) (k:∀b u,(b=a\/H b=some (.own a))->h.get? b=some u->h'.get? b=some u)
  (ho:∀b,H b=some (.own a)->H' b=some (.own a)) (ht:∀b xs,H b=some (.tup xs)->H' b=some (.tup xs)):ObjOk P w H' h' a o:=by
 induction o with
 | lst xs=>obtain ⟨z,its,n,r,e⟩:=x;exact ⟨z,its,n,r,k _ _ (.inl rfl) e⟩
 | tup xs=>obtain ⟨z,its,r,ob,e,c⟩:=x;exact ⟨z,its,r,ob,k _ _ (.inl rfl) e,c⟩
 | dK kvs=>obtain ⟨z,y,vs,r,ob,es,ep,e,c⟩:=x;exact ⟨z,y,vs,r,ob,es,ep,k _ _ (.inl rfl) e,c⟩
 | dT kvs =>
  obtain ⟨z,y,xs,r,ob,es,ep,e,c⟩:=x
  exact ⟨z,y,xs,Paired.mapP r λ p q z=>⟨z.1,ht _ _ z.2.1,z.2.2⟩,ob,es,ep,k _ _ (.inl rfl) e,c⟩
 | set S n=>obtain ⟨ob,es,ep,t,e,c⟩:=x;exact ⟨ob,es,ep,t,k _ _ (.inl rfl) e,c⟩
 | ins C dx fs =>
  obtain ⟨d,z,ne,e,mA,⟨od,es,ep,e2,c⟩,r⟩:=x
  exact ⟨ho _ d,z,ne,k _ _ (.inl rfl) e,mA,⟨od,es,ep,k _ _ (.inr d) e2,c⟩,r⟩
 | own y=>obtain ⟨ob,e⟩:=x;exact ⟨ob,k _ _ (.inl rfl) e⟩
 | xd fs=>obtain ⟨mA,⟨od,es,ep,e,c⟩,r⟩:=x;exact ⟨mA,⟨od,es,ep,k _ _ (.inl rfl) e,c⟩,r⟩
 | rng lo hi=>obtain ⟨t,u,v,e⟩:=x;exact ⟨t,u,v,k _ _ (.inl rfl) e⟩
 | frz ob u ih=>obtain ⟨e,q⟩:=x;exact ⟨k _ _ (.inl rfl) e,ih q⟩
 | tbl ps =>
  have e:h.get? a=some { cls:=.none,data:=.fields ps }:=x
  show h'.get? a=some { cls:=.none,data:=.fields ps }
  exact k a _ (.inl rfl) e
 | met f y =>
  have e:h.get? a=some (W.methodObj (.ref f) (.ref y)):=x
  show h'.get? a=some (W.methodObj (.ref f) (.ref y))
  exact k a _ (.inl rfl) e
 | ext φ=>obtain ⟨p,⟨o,e⟩,st⟩:=x;exact ⟨st _ _ p λ o q=>k _ _ (.inl rfl) q,⟨o,k _ _ (.inl rfl) e⟩,st⟩
theorem HOk.lt (x:HOk P w H h) (e:H a=some o):a < h.objs.size:=(x a o e).lt
theorem HOk.fresh (x:HOk P w H h) (e:h.objs.size≤a):H a=none:=by
 cases q:H a with
 | none=>rfl
 | some u=>exact absurd (Nat.lt_of_lt_of_le (x.lt q) e) (Nat.lt_irrefl _)
theorem HOk.kept (x:HOk P w H h) (k:∀b u,h.get? b=some u->h'.get? b=some u):HOk P w H h':=λ a o e =>
 (x a o e).stay (λ b u _ q=>k b u q) (λ _ q=>q) λ _ _ q=>q
theorem HOk.laid (x:HOk P w H h) (k:∀b u,h.get? b=some u->h'.get? b=some u) (hp:h.objs.size≤a) (new:ObjOk P w (upd H a o) h' a o):HOk P w (upd H a o) h':=λ b u e=>by
 have hn:=x.fresh hp
 by_cases hb:b=a
 ·subst hb;rw [z0d] at e;cases e;exact new
 ·rw [z0o hb] at e
  exact (x b u e).stay (λ c v _ q=>k c v q) (λ c q=>by rw [z0o (z3f q hn)];exact q) λ c xs q=>by rw [z0o (z3f q hn)];exact q
end
def Rd (H:Hp) (a:Addr) (u:HO):Prop:=H a=some u\/∃o,H a=some (.frz o u)
theorem Rd.of {H:Hp}{a:Addr}{u:HO}(h:H a=some u):Rd H a u:=.inl h
theorem Rd.ok {P:Program}{w:World}{H:Hp}{h:Heap}{a:Addr}{u:HO}(r:Rd H a u) (x:HOk P w H h):ObjOk P w H h a u:=by
 rcases r with r | ⟨o,r⟩
 ·exact x a u r
 ·obtain ⟨_,q⟩:=x a _ r
  exact q
def Mut:Option HO->Prop
 | some (.lst _)=>True
 | some (.dK _)=>True
 | some (.dT _)=>True
 | some (.set _ _)=>True
 | some (.ins _ _ _)=>True
 | some (.ext _)=>True
 | _=>False
section
variable {P:Program}{w:World}{H:Hp}{h h':Heap}{x e:Addr}{o':HO}
theorem HOk.write (ok:HOk P w H h) (mu:Mut (H x)) (he:e=x\/H e=some (.own x)) (k:∀b u,b≠e->h.get? b=some u->h'.get? b=some u) (heo:∃u,h'.get? e=some u)
  (new:ObjOk P w (upd H x o') h' x o'):HOk P w (upd H x o') h':=λ b u q=>by
 have nown:∀c y,H c=some (.own y)->c≠x:=λ c y r z=>by subst z;rw [r] at mu;exact mu
 have ntup:∀c xs,H c=some (.tup xs)->c≠x:=λ c xs r z=>by subst z;rw [r] at mu;exact mu
 by_cases hb:b=x
 ·subst hb;rw [z0d] at q;cases q;exact new
 ·rw [z0o hb] at q
  by_cases hbe:b=e
  ·have q':H b=some (.own x):=by
    rcases he with z | z
    ·exact absurd (hbe.trans z) hb
    ·rw [hbe];exact z
   rw [q] at q';cases q'
   obtain ⟨v,hv⟩:=heo
   exact ⟨v,by rw [hbe];exact hv⟩
  ·refine (ok b u q).stay (λ c v hc r=>k c v ?_ r) (λ c r=>by rw [z0o (nown c b r)];exact r) λ c xs r=>by rw [z0o (ntup c xs r)];exact r
   rcases hc with rfl | hc
   ·exact hbe
   ·rintro rfl
    rcases he with z | z
    ·exact nown c b hc z
    ·rw [hc] at z;cases z;exact hb rfl
end
structure Un (fs ex:List Addr) (H H':Hp) (h h':Heap):Prop where
 keep:∀b o,h.get? b=some o->H b=none->b ∉ fs->b ∉ ex->h'.get? b=some o
 slot:∀b o,h.get? b=some o->H b=none->b∈fs->b ∉ ex->∃sl,h'.get? b=some { o with slots:=sl }
 free:∀b o,h.get? b=some o->H b=none->b ∉ ex->H' b=none
 there:∀b o,h.get? b=some o->b ∉ ex->∃o',h'.get? b=some o'
 tups:∀b xs,H b=some (.tup xs)->H' b=some (.tup xs)
 frzs:∀b o u,H b=some (.frz o u)->H' b=some (.frz o u)
 tbls:∀b ps,H b=some (.tbl ps)->∃more,H' b=some (.tbl (ps++more))
section
variable {fs fs' ex ex':List Addr}{H H1 H2:Hp}{h h1 h2 h':Heap}{a x e:Addr}{o:HO}
theorem Un.any (u:Un fs ex H H1 h h1) {b:Addr}{ob:Obj}(q:h.get? b=some ob) (n:H b=none) (hx:b ∉ ex):∃sl,h1.get? b=some { ob with slots:=sl }:=by
 by_cases hb:b∈fs
 ·exact u.slot b ob q n hb hx
 ·exact ⟨ob.slots,u.keep b ob q n hb hx⟩
theorem Un.trans (a:Un fs ex H H1 h h1) (b:Un fs ex H1 H2 h1 h2):Un fs ex H H2 h h2 where
 keep:=λ c ob q n hc hx=>b.keep c ob (a.keep c ob q n hc hx) (a.free c ob q n hx) hc hx
 slot:=λ c ob q n hc hx=>by
  obtain ⟨sl,e1⟩:=a.slot c ob q n hc hx
  obtain ⟨sl',e2⟩:=b.slot c _ e1 (a.free c ob q n hx) hc hx
  exact ⟨sl',e2⟩
 free:=λ c ob q n hx=>by
  obtain ⟨o',e1⟩:=a.there c ob q hx
  exact b.free c o' e1 (a.free c ob q n hx) hx
 there:=λ c ob q hx=>by
  obtain ⟨o',e1⟩:=a.there c ob q hx
  exact b.there c o' e1 hx
 tups:=λ c xs q=>b.tups c xs (a.tups c xs q)
 frzs:=λ c ob xs q=>b.frzs c ob xs (a.frzs c ob xs q)
 tbls:=λ c ps q=>by
  obtain ⟨m1,e1⟩:=a.tbls c ps q
  obtain ⟨m2,e2⟩:=b.tbls c _ e1
  exact ⟨m1++m2,by rw [e2,Array.append_assoc]⟩
theorem Un.kept (k:∀b u,h.get? b=some u->h'.get? b=some u):Un fs ex H H h h' :=
 ⟨λ b ob q _ _ _=>k b ob q,λ b ob q _ _ _=>⟨ob.slots,k b ob q⟩,λ _ _ _ n _=>n,λ b ob q _=>⟨ob,k b ob q⟩,λ _ _ q=>q,λ _ _ _ q=>q,λ _ ps q=>⟨#[],by rw [q];simp⟩⟩
theorem Un.refl:Un fs ex H H h h:=Un.kept λ _ _ q=>q
theorem Un.laid (k:∀b u,h.get? b=some u->h'.get? b=some u) (hp:h.objs.size≤a) (hn:H a=none):Un fs ex H (upd H a o) h h' where
 keep:=λ b u q _ _ _=>k b u q
 slot:=λ b u q _ _ _=>⟨u.slots,k b u q⟩
 free:=λ b u q n _=>by rw [z0o (Nat.ne_of_lt (Nat.lt_of_lt_of_le (Heap.lt_size q) hp))];exact n
 there:=λ b u q _=>⟨u,k b u q⟩
 tups:=λ b xs q=>by rw [z0o (z3f q hn)];exact q
 frzs:=λ b u xs q=>by rw [z0o (z3f q hn)];exact q
 tbls:=λ b ps q=>⟨#[],by rw [z0o (z3f q hn),q];simp⟩
theorem Un.write (mu:Mut (H x)) (he:e=x\/H e=some (.own x)) (k:∀b u,b≠e->h.get? b=some u->h'.get? b=some u) (heo:∃u,h'.get? e=some u):Un fs ex H (upd H x o) h h':=by
 have hx:∀b,H b=none->b≠x:=λ b n z=>by subst z;rw [n] at mu;exact mu
 have hb:∀b,H b=none->b≠e:=λ b n z=>by
  subst z
  rcases he with r | r
  ·exact hx b n r
  ·rw [n] at r;cases r
 have hm:∀b u,H b=some u->¬Mut (some u)->b≠x:=λ b u q nm z=>by subst z;rw [q] at mu;exact nm mu
 refine ⟨λ b u q n _ _=>k b u (hb b n) q,λ b u q n _ _=>⟨u.slots,k b u (hb b n) q⟩,λ b u q n _=>by rw [z0o (hx b n)];exact n,λ b u q _=>?_,
  λ b xs q=>by rw [z0o (hm b _ q λ z=>z)];exact q,λ b u xs q=>by rw [z0o (hm b _ q λ z=>z)];exact q,λ b ps q=>⟨#[],by rw [z0o (hm b _ q λ z=>z),q];simp⟩⟩
 by_cases hbe:b=e
 ·subst hbe;exact heo
 ·exact ⟨u,k b u hbe q⟩
theorem Un.mono (u:Un fs ex H H1 h h1) (hs:∀b∈fs,b∈fs') (hx:∀b∈ex,b∈ex'):Un fs' ex' H H1 h h1 :=
 ⟨λ b ob q n hb he=>u.keep b ob q n (λ z=>hb (hs b z)) λ z=>he (hx b z),λ _ _ q n _ he=>u.any q n λ z=>he (hx _ z),λ b ob q n he=>u.free b ob q n λ z=>he (hx b z),λ b ob q he=>u.there b ob q λ z=>he (hx b z),u.tups,u.frzs,u.tbls⟩
end
def trk (h:Heap) (H:Hp):List Addr:=(List.range h.objs.size).filter λ a=>(H a).isSome
def x8u (h:Heap) (H:Hp):Heap:=W.hideAll h (trk h H)
theorem x4k (h:Heap) (H:Hp):(x8u h H).objs.size=h.objs.size:=W.hideAll_size _ _
theorem x8t {h:Heap}{H:Hp}{b:Addr}{o:Obj}(e:h.get? b=some o) (n:H b=none):(x8u h H).get? b=some o :=
 W.hideAll_get _ e λ hm=>by
  have q:(H b).isSome=true:=(List.mem_filter.mp hm).2
  rw [n] at q;simp at q
theorem w2x {h:Heap}{H:Hp}{b:Addr}{o:Obj}(e:(x8u h H).get? b=some o):h.get? b=some o/\H b=none:=by
 have e':h.get? b=some o:=W.of_hideAll (trk h H) e
 refine ⟨e',?_⟩
 cases q:H b with
 | none=>rfl
 | some x =>
  have hm:b∈trk h H:=List.mem_filter.mpr ⟨List.mem_range.mpr (Heap.lt_size e'),by simp [q]⟩
  have z:(x8u h H).get? b=none:=W.hideAll_none (trk h H) hm
  rw [z] at e;cases e
def w4m (g h:Heap) (L:Addr):List (Addr × Obj):=(List.range h.objs.size).filterMap λ a=>if a=L\/(g.get? a).isSome=true then none else (h.get? a).map λ o=>(a,o)
def rest (g h:Heap) (L d:Addr):List (Addr × Obj):=(w4m g h L).filter λ p=>decide (p.1≠d)
structure Mod (K:W.Frag) (mg:Str->Option Value) (base:Heap):Prop where
 kin:K.In base
 glob:base.Ns mainGlobals mg
 blt:∃mb,base.Ns builtinsNs mb/\∀x:Str,x ≠ "__name__" -> mb x=bootBuiltins x
 nolimit:base.NoLimit
structure Cx where
 prog:Program
 w:World
 K:W.Frag
 mg:Str->Option Value
 base:Heap
 A:Around
 N:List Str
 s₀:Shared
 H₀:Hp
 env:Env
 outer:List Env
 stack:List Env
 ex:List Addr
 fn:Str->Bool
 calm:Bool
 pn:List (Addr × Obj)
 xe:Value->Shared->Prop
def frs (l:List Env):List Addr:=l.filterMap (·.frame)
abbrev Cx.fs (X:Cx):List Addr:=frs X.outer
def Vis (sc:Scope) (x:Str):Prop:=sc.names.lookup x=some .local\/sc.names.lookup x=some .cell\/sc.names.lookup x=some .free
def Loc (sc:Scope) (x:Str):Prop:=sc.names.lookup x=some .local\/sc.names.lookup x=some .cell
def v2z (env:Env) (h:Heap) (m:Str->Option Value) (x:Str) (u:Value):Prop :=
 (env.kindOf x=some .local/\m x=some u)\/((env.kindOf x=some .cell\/env.kindOf x=some .free)/\∃c,env.cells.lookup x=some c/\h.IsCell c (some u))
structure Cx.Ok (X:Cx):Prop where
 mod:Mod X.K X.mg X.base
 kind:X.env.scope.kind=.function
 glob:X.env.globals=mainGlobals
 blt:X.env.builtins=builtinsNs
 above:X.s₀.heap.objs.size≤X.env.locals
 inj:∀x y c,X.env.cells.lookup x=some c->X.env.cells.lookup y=some c->x=y
 has:∀x,(X.env.kindOf x=some .cell\/X.env.kindOf x=some .free)->∃c,X.env.cells.lookup x=some c
 cab:∀x c,X.fn x=true->X.env.cells.lookup x=some c->X.s₀.heap.objs.size≤c
 hd:X.calm=true->X.A.handled=none
 frames:X.A.frames=some X.stack
 stk:X.stack=X.outer\/(X.stack=X.env::X.outer/\X.env.frame=some X.env.locals)
 exf:∀b∈X.ex,b≠X.env.locals/\∀x c,X.env.cells.lookup x=some c->c≠b
 bs:∀b o,X.base.get? b=some o->X.s₀.heap.get? b=some o/\X.H₀ b=none
 bsz:X.base.objs.size≤X.s₀.heap.objs.size
 noex:∀b o,X.base.get? b=some o->b ∉ X.ex
 exfs:∀b∈X.ex,b ∉ X.fs
 funs:X.s₀.heap.FunFrames X.base X.outer
 frf:∀b∈X.fs,X.H₀ b=none
structure Inv (X:Cx) (pins:List (Addr × Obj)) (σ:List (Option V)) (H:Hp) (s:Shared):Prop where
 ok:X.Ok
 os:s.os=X.s₀.os
 bare:AllBare s.gens
 base:Un X.fs X.ex X.H₀ H X.s₀.heap s.heap
 loc:∃m,s.heap.Ns X.env.locals m/\∀(i:Nat) (x:Str) (v:V),X.N[i]?=some x->σ[i]?=some (some v)->Vis X.env.scope x->∃u,RelV v u/\v2z X.env s.heap m x u
 cell:∀x c,X.env.cells.lookup x=some c->∃v,s.heap.IsCell c v
 free:H X.env.locals=none
 freeC:∀x c,X.env.cells.lookup x=some c->H c=none
 pin:∀p∈X.pn++pins,s.heap.get? p.1=some p.2/\H p.1=none/\p.1≠X.env.locals/\p.1 ∉ X.fs/\∀v,p.2.data≠.cell v
 hok:HOk X.prog X.w H s.heap
 len:σ.length=X.N.length
section
variable {X:Cx}{pins:List (Addr × Obj)}{σ:List (Option V)}{H H':Hp}{s:Shared}{h':Heap}
theorem Cx.Ok.nofr (ok:X.Ok) {b:Addr}{o:Obj}(e:X.base.get? b=some o):b ∉ X.fs:=λ hb=>by
 have:=(ok.funs.mem hb).1
 rw [e] at this;cases this
theorem Inv.bs (I:Inv X pins σ H s):∀b o,X.base.get? b=some o->s.heap.get? b=some o/\H b=none:=λ b o e =>
 ⟨I.base.keep b o (I.ok.bs b o e).1 (I.ok.bs b o e).2 (I.ok.nofr e) (I.ok.noex b o e),I.base.free b o (I.ok.bs b o e).1 (I.ok.bs b o e).2 (I.ok.noex b o e)⟩
theorem Inv.bk (I:Inv X pins σ H s):∀b o,X.base.get? b=some o->s.heap.get? b=some o:=λ b o e=>(I.bs b o e).1
theorem Inv.mod (I:Inv X pins σ H s):Mod X.K X.mg X.base:=I.ok.mod
theorem Inv.kIn (I:Inv X pins σ H s):X.K.In s.heap:=I.ok.mod.kin.keeps I.bk
theorem Inv.nolimit (I:Inv X pins σ H s):s.heap.NoLimit:=I.ok.mod.nolimit.keeps I.bk
theorem Inv.lt (I:Inv X pins σ H s):X.env.locals < s.heap.objs.size:=let ⟨_,hn,_⟩:=I.loc;hn.lt
theorem Inv.sz (I:Inv X pins σ H s):X.s₀.heap.objs.size≤s.heap.objs.size:=Nat.le_trans I.ok.above (Nat.le_of_lt I.lt)
theorem Inv.nofs (I:Inv X pins σ H s) {a:Addr}(h:s.heap.objs.size≤a):a ∉ X.fs:=λ hb=>by
 obtain ⟨_,o,ho,_⟩:=I.ok.funs.mem hb
 exact absurd (Nat.lt_of_lt_of_le (Heap.lt_size ho) (Nat.le_trans I.sz h)) (Nat.lt_irrefl _)
theorem Inv.cne (I:Inv X pins σ H s):∀x c,X.env.cells.lookup x=some c->c≠X.env.locals:=λ x c e z=>by
 obtain ⟨v,o,ho,hd⟩:=I.cell x c e
 obtain ⟨m,⟨o',es,ep,ho',hd',_⟩,_⟩:=I.loc
 rw [z,ho'] at ho;cases ho;rw [hd'] at hd;cases hd
theorem Inv.funs (I:Inv X pins σ H s):s.heap.FunFrames X.base X.outer:=by
 have all:∀(l:List Env),(∀b∈frs l,b∈X.fs)->X.s₀.heap.FunFrames X.base l->s.heap.FunFrames X.base l:=by
  intro l
  induction l with
  | nil=>intro _ _;trivial
  | cons env r ih =>
   intro hs hl
   obtain ⟨hk,⟨L,o,hf,hn,ho,hd⟩,hr⟩:=hl
   have hL:L∈X.fs:=hs L (by unfold frs;rw [List.filterMap_cons,hf];exact List.mem_cons_self)
   obtain ⟨sl,e⟩:=I.base.slot L o ho (I.ok.frf L hL) hL λ z=>I.ok.exfs L z hL
   exact ⟨hk,⟨L,_,hf,hn,e,hd⟩,ih (λ b hb=>hs b (by unfold frs;rw [List.filterMap_cons,hf];exact List.mem_cons_of_mem _ hb)) hr⟩
 exact all X.outer (λ _ hb=>hb) I.ok.funs
theorem Inv.stack (I:Inv X pins σ H s):s.heap.FunFrames X.base X.stack:=by
 rcases I.ok.stk with e | ⟨e,hf⟩
 ·rw [e];exact I.funs
 ·rw [e]
  obtain ⟨m,hn,_⟩:=I.loc
  refine .cons (by rw [I.ok.kind];decide) hf hn ?_ I.funs
  exact Heap.get?_none_of_le (Nat.le_trans I.ok.bsz I.ok.above)
theorem Inv.stkSub (I:Inv X pins σ H s):∀b∈frs X.stack,b∈X.env.locals::X.fs:=λ b hb=>by
 rcases I.ok.stk with e | ⟨e,hf⟩
 ·rw [e] at hb;exact List.mem_cons_of_mem _ hb
 ·rw [e] at hb
  unfold frs at hb
  rw [List.filterMap_cons,hf] at hb
  exact hb
theorem Inv.stkFree (I:Inv X pins σ H s):∀b∈frs X.stack,H b=none:=λ b hb=>by
 rcases List.mem_cons.mp (I.stkSub b hb) with e | hb
 ·rw [e];exact I.free
 ·obtain ⟨_,o,ho,_⟩:=I.ok.funs.mem hb
  exact I.base.free b o ho (I.ok.frf b hb) λ z=>I.ok.exfs b z hb
theorem Inv.step {g':Array GenState}{t':Nat}{d':Drawn}{ch:List Addr}(I:Inv X pins σ H s)
  (hch:∀b∈ch,(b∈X.ex\/X.s₀.heap.objs.size≤b)/\b≠X.env.locals/\(∀x c,X.env.cells.lookup x=some c->c≠b)/\∀p∈X.pn++pins,p.1≠b)
  (keep:∀b o,b≠X.env.locals->b ∉ X.fs->b ∉ ch->s.heap.get? b=some o->H b=none->h'.get? b=some o)
  (slot:∀b o,b≠X.env.locals->b∈X.fs->b ∉ ch->s.heap.get? b=some o->H b=none->∃sl,h'.get? b=some { o with slots:=sl }) (free:∀b o,b ∉ ch->s.heap.get? b=some o->H b=none->H' b=none)
  (there:∀b o,b ∉ ch->s.heap.get? b=some o->∃o',h'.get? b=some o')
  (tups:∀b xs,H b=some (.tup xs)->H' b=some (.tup xs)) (frzs:∀b o u,H b=some (.frz o u)->H' b=some (.frz o u)) (tbls:∀b ps,H b=some (.tbl ps)->∃more,H' b=some (.tbl (ps++more)))
  (ns:∀m,s.heap.Ns X.env.locals m->h'.Ns X.env.locals m) (hok:HOk X.prog X.w H' h') (hg:AllBare g') :
  Inv X pins σ H' { s with heap:=h',gens:=g',drawn:=d',toks:=t' }:=by
 have neL:∀b o,X.s₀.heap.get? b=some o->b≠X.env.locals:=λ b o e=>Nat.ne_of_lt (Nat.lt_of_lt_of_le (Heap.lt_size e) I.ok.above)
 have neC:∀b o,X.s₀.heap.get? b=some o->b ∉ X.ex->b ∉ ch:=λ b o e hx hb=>by
  rcases (hch b hb).1 with z | z
  ·exact hx z
  ·exact absurd (Nat.lt_of_lt_of_le (Heap.lt_size e) z) (Nat.lt_irrefl _)
 have cellK:∀x c,X.env.cells.lookup x=some c->∀v,s.heap.IsCell c v->h'.IsCell c v:=λ x c e v ⟨o,ho,hd⟩=>by
  have nch:c ∉ ch:=λ z=>(hch c z).2.2.1 x c e rfl
  by_cases hc:c∈X.fs
  ·obtain ⟨sl,q⟩:=slot c o (I.cne x c e) hc nch ho (I.freeC x c e)
   exact ⟨_,q,hd⟩
  ·exact ⟨o,keep c o (I.cne x c e) hc nch ho (I.freeC x c e),hd⟩
 refine ⟨I.ok,I.os,hg,⟨λ b o e n hb hx=>?_,λ b o e n hb hx=>?_,λ b o e n hx=>?_,λ b o e hx=>?_,λ b xs e=>tups b xs (I.base.tups b xs e),λ b o xs e=>frzs b o xs (I.base.frzs b o xs e),λ b ps e=>?_⟩,?_,λ x c e=>?_,?_,λ x c e=>?_,λ p hp=>?_,hok,I.len⟩
 ·exact keep b o (neL b o e) hb (neC b o e hx) (I.base.keep b o e n hb hx) (I.base.free b o e n hx)
 ·obtain ⟨sl,e1⟩:=I.base.slot b o e n hb hx
  obtain ⟨sl',e2⟩:=slot b _ (neL b o e) hb (neC b o e hx) e1 (I.base.free b o e n hx)
  exact ⟨sl',e2⟩
 ·obtain ⟨o',e1⟩:=I.base.there b o e hx
  exact free b o' (neC b o e hx) e1 (I.base.free b o e n hx)
 ·obtain ⟨o',e1⟩:=I.base.there b o e hx
  exact there b o' (neC b o e hx) e1
 ·obtain ⟨m1,e1⟩:=I.base.tbls b ps e
  obtain ⟨m2,e2⟩:=tbls b _ e1
  exact ⟨m1++m2,by rw [e2,Array.append_assoc]⟩
 ·obtain ⟨m,hn,hl⟩:=I.loc
  refine ⟨m,ns m hn,λ i x v e1 e2 e3=>?_⟩
  obtain ⟨u,r,l⟩:=hl i x v e1 e2 e3
  refine ⟨u,r,?_⟩
  rcases l with l | ⟨k,c,e,z⟩
  ·exact .inl l
  ·exact .inr ⟨k,c,e,cellK x c e _ z⟩
 ·obtain ⟨v,z⟩:=I.cell x c e
  exact ⟨v,cellK x c e v z⟩
 ·obtain ⟨m,⟨o,_,_,ho,_⟩,_⟩:=I.loc
  exact free _ o (λ z=>(hch _ z).2.1 rfl) ho I.free
 ·obtain ⟨v,o,ho,hd⟩:=I.cell x c e
  exact free c o (λ z=>(hch c z).2.2.1 x c e rfl) ho (I.freeC x c e)
 ·obtain ⟨e,n,ne,nf,d⟩:=I.pin p hp
  have nch:p.1 ∉ ch:=λ z=>(hch p.1 z).2.2.2 p hp rfl
  exact ⟨keep p.1 p.2 ne nf nch e n,free p.1 p.2 nch e n,ne,nf,d⟩
theorem Inv.un {t':Nat}(I:Inv X pins σ H s) (u:Un X.fs [] H H' s.heap h') (hok:HOk X.prog X.w H' h'):Inv X pins σ H' { s with heap:=h',toks:=t' }:=by
 obtain ⟨m,⟨o,es,ep,ho,r⟩,_⟩:=id I.loc
 obtain ⟨sl,hL⟩:=u.any ho I.free (by simp)
 exact I.step (g':=s.gens) (d':=s.drawn) (ch:=[]) (λ _ z=>nomatch z) (λ b o _ hb _ e n=>u.keep b o e n hb (by simp)) (λ b o _ hb _ e n=>u.slot b o e n hb (by simp)) (λ b o _ e n=>u.free b o e n (by simp)) (λ b o _ e=>u.there b o e (by simp)) u.tups u.frzs u.tbls (λ m' hm=>by
  obtain ⟨o',es',ep',ho',r'⟩:=hm
  rw [ho] at ho';cases ho'
  exact ⟨_,es',ep',hL,r'⟩) hok I.bare
theorem Inv.call {g':Array GenState}{t':Nat}{d':Drawn}{ch:List Addr}(I:Inv X pins σ H s) (u:Un (frs X.stack) ch H H' s.heap h') (hok:HOk X.prog X.w H' h') (hg:AllBare g')
  (hch:∀b∈ch,(b∈X.ex\/X.s₀.heap.objs.size≤b)/\b≠X.env.locals/\(∀x c,X.env.cells.lookup x=some c->c≠b)/\∀p∈X.pn++pins,p.1≠b) :
  Inv X pins σ H' { s with heap:=h',gens:=g',drawn:=d',toks:=t' }:=by
 obtain ⟨m,⟨o,es,ep,ho,r⟩,_⟩:=id I.loc
 obtain ⟨sl,hL⟩:=u.any ho I.free λ z=>(hch _ z).2.1 rfl
 exact I.step (ch:=ch) hch (λ b o hL hb hc e n=>u.keep b o e n (λ z=>(List.mem_cons.mp (I.stkSub b z)).elim hL hb) hc) (λ b o _ _ hc e n=>u.any e n hc) (λ b o hc e n=>u.free b o e n hc) (λ b o hc e=>u.there b o e hc) u.tups u.frzs u.tbls (λ m' hm=>by
  obtain ⟨o',es',ep',ho',r'⟩:=hm
  rw [ho] at ho';cases ho'
  exact ⟨_,es',ep',hL,r'⟩) hok hg
theorem Inv.turned {t':Nat}{it:Addr}(I:Inv X pins σ H s) (k:∀b o,b≠it->s.heap.get? b=some o->h'.get? b=some o) (hn:H it=none) (hL:it≠X.env.locals)
  (h1:it∈X.ex\/X.s₀.heap.objs.size≤it) (h2:∀x c,X.env.cells.lookup x=some c->c≠it) (h3:∀p∈X.pn++pins,p.1≠it):Inv X pins σ H { s with heap:=h',toks:=t' }:=by
 have nit:∀b u,H b=some u->b≠it:=λ b u e z=>by rw [z,hn] at e;cases e
 refine I.step (g':=s.gens) (d':=s.drawn) (ch:=[it]) (λ b hb=>?_) (λ b o _ _ hc e _=>k b o (λ z=>hc (by simp [z])) e) (λ b o _ _ hc e _=>⟨o.slots,k b o (λ z=>hc (by simp [z])) e⟩) (λ _ _ _ _ n=>n)
  (λ b o hc e=>⟨o,k b o (λ z=>hc (by simp [z])) e⟩) (λ _ _ e=>e) (λ _ _ _ e=>e) (λ b ps e=>⟨#[],by rw [e];simp⟩) (λ m hm=>?_) (λ b u e=>?_) I.bare
 ·have e:b=it:=by simpa using hb
  subst e
  exact ⟨h1,hL,h2,h3⟩
 ·obtain ⟨o,es,ep,ho,r⟩:=hm
  exact ⟨o,es,ep,k _ o (Ne.symm hL) ho,r⟩
 ·refine (I.hok b u e).stay (λ c v hc q=>k c v ?_ q) (λ _ q=>q) λ _ _ q=>q
  rcases hc with z | z
  ·rw [z];exact nit b u e
  ·exact nit c _ z
theorem Inv.tok (I:Inv X pins σ H s) (t:Nat):Inv X pins σ H { s with toks:=t }:=I.un (h':=s.heap) (t':=t) Un.refl I.hok
theorem Inv.kept {t':Nat}(I:Inv X pins σ H s) (k:∀b u,s.heap.get? b=some u->h'.get? b=some u):Inv X pins σ H { s with heap:=h',toks:=t' }:=I.un (Un.kept k) (I.hok.kept k)
theorem Inv.laid {a:Addr}{o:HO}{t':Nat}(I:Inv X pins σ H s) (k:∀b u,s.heap.get? b=some u->h'.get? b=some u) (hp:s.heap.objs.size≤a) (new:ObjOk X.prog X.w (upd H a o) h' a o) :
  Inv X pins σ (upd H a o) { s with heap:=h',toks:=t' }:=I.un (Un.laid k hp (I.hok.fresh hp)) (I.hok.laid k hp new)
theorem Inv.write {x e:Addr}{o:HO}{t':Nat}(I:Inv X pins σ H s) (mu:Mut (H x)) (he:e=x\/H e=some (.own x)) (k:∀b u,b≠e->s.heap.get? b=some u->h'.get? b=some u) (heo:∃u,h'.get? e=some u)
  (new:ObjOk X.prog X.w (upd H x o) h' x o):Inv X pins σ (upd H x o) { s with heap:=h',toks:=t' }:=I.un (Un.write mu he k heo) (I.hok.write mu he k heo new)
theorem Inv.pins_of {pins':List (Addr × Obj)}(I:Inv X pins σ H s) (h:∀p∈pins',s.heap.get? p.1=some p.2/\H p.1=none/\p.1≠X.env.locals/\p.1 ∉ X.fs/\∀v,p.2.data≠.cell v):Inv X pins' σ H s :=
 ⟨I.ok,I.os,I.bare,I.base,I.loc,I.cell,I.free,I.freeC,λ p hp=>(List.mem_append.mp hp).elim (λ z=>I.pin p (List.mem_append_left _ z)) (h p),I.hok,I.len⟩
theorem y1f {N:List Str}(hN:N.Nodup) {i j:Nat}{x:Str}(a:N[i]?=some x) (b:N[j]?=some x):i=j:=by
 obtain ⟨h1,e1⟩:=List.getElem?_eq_some_iff.mp a
 obtain ⟨h2,e2⟩:=List.getElem?_eq_some_iff.mp b
 exact (List.getElem_inj hN).mp (e1.trans e2.symm)
theorem y1z {M:Model}{A:Around}{E:Value->Shared->Prop}{i:Nat}{x:Str}{v:V}{u:Value}{Q:Unit->Shared->Prop}(I:Inv X pins σ H s) (hN:X.N.Nodup) (hi:X.N[i]?=some x) (hx:Loc X.env.scope x) (r:RelV v u)
  (h:∀s',Inv X pins (σ.set i (some v)) H s'->(∃a,Heap.SameBut a s.heap s'.heap/\(a=X.env.locals\/X.env.cells.lookup x=some a))->Q () s') (hf:X.fn x=true\/X.env.scope.names.lookup x=some .local:=by first | exact .inl rfl | exact .inr rfl | assumption):wpAny M A (storeName X.env x u) Q E s:=by
 obtain ⟨m,hn,hl⟩:=id I.loc
 have hcls:(X.env.scope.kind == .class || (X.env.scope.kind == .module && X.env.locals != X.env.globals))=false:=by rw [I.ok.kind];rfl
 have hiσ:i < σ.length:=by rw [I.len];exact (List.getElem?_eq_some_iff.mp hi).1
 have cne:=I.cne
 have tracked:∀ {a:Addr}{h':Heap},(∃o,s.heap.get? a=some o/\H a=none)->Heap.SameBut a s.heap h'->HOk X.prog X.w H h':=λ {a h'} ha hs b ob e=>by
  obtain ⟨_,_,hfree⟩:=ha
  refine (I.hok b ob e).stay (λ c w' hc q=>(hs.2 c ?_).trans q) (λ _ q=>q) λ _ _ q=>q
  rintro rfl
  rcases hc with rfl | hc
  ·rw [hfree] at e;cases e
  ·rw [hfree] at hc;cases hc
 rcases hx with hk | hk
 ·refine wpAny_storeName_local hk hn (λ h' hn' hs=>?_) hcls
  obtain ⟨oL,_,_,hoL,_⟩:=id hn
  refine h _ ⟨I.ok,I.os,I.bare,⟨λ b o e n hb hx=>?_,λ b o e n hb hx=>?_,I.base.free,λ b o e hx=>?_,I.base.tups,I.base.frzs,I.base.tbls⟩,⟨_,hn',λ j y v' e1 e2 e3=>?_⟩,λ y c e=>?_,I.free,I.freeC,λ p hp=>?_,tracked ⟨oL,hoL,I.free⟩ hs,by simpa using I.len⟩ ⟨_,hs,.inl rfl⟩
  ·exact (hs.2 b (Nat.ne_of_lt (Nat.lt_of_lt_of_le (Heap.lt_size e) I.ok.above))).trans (I.base.keep b o e n hb hx)
  ·obtain ⟨sl,e1⟩:=I.base.slot b o e n hb hx
   exact ⟨sl,(hs.2 b (Nat.ne_of_lt (Nat.lt_of_lt_of_le (Heap.lt_size e) I.ok.above))).trans e1⟩
  ·obtain ⟨o',e1⟩:=I.base.there b o e hx
   exact ⟨o',(hs.2 b (Nat.ne_of_lt (Nat.lt_of_lt_of_le (Heap.lt_size e) I.ok.above))).trans e1⟩
  ·by_cases hj:j=i
   ·subst hj
    rw [hi] at e1;cases e1
    rw [List.getElem?_set_self hiσ] at e2
    cases e2
    exact ⟨u,r,.inl ⟨hk,by simp⟩⟩
   ·rw [List.getElem?_set_ne (Ne.symm hj)] at e2
    obtain ⟨u',r',q⟩:=hl j y v' e1 e2 e3
    refine ⟨u',r',?_⟩
    rcases q with ⟨k,e⟩ | ⟨k,c,e,z⟩
    ·refine .inl ⟨k,?_⟩
     have:y≠x:=λ e=>hj (y1f hN e1 (e ▸ hi))
     simp [this,e]
    ·exact .inr ⟨k,c,e,z.sameBut hs (cne y c e)⟩
  ·obtain ⟨w',z⟩:=I.cell y c e
   exact ⟨w',z.sameBut hs (cne y c e)⟩
  ·obtain ⟨e,n,ne,nf,d⟩:=I.pin p hp
   exact ⟨(hs.2 p.1 ne).trans e,n,ne,nf,d⟩
 ·have hfn:X.fn x=true:=by
   rcases hf with z | z
   ·exact z
   ·rw [z] at hk;cases hk
  obtain ⟨c,hc⟩:=I.ok.has x (.inl hk)
  obtain ⟨w',z⟩:=I.cell x c hc
  refine wpAny_storeName_cell I.ok.kind hk hc z (λ h' hc' hs=>?_)
  obtain ⟨oc,hoc,hocd⟩:=id z
  refine h { s with heap:=h' } ⟨I.ok,I.os,I.bare,⟨λ b o e n hb hx=>?_,λ b o e n hb hx=>?_,I.base.free,λ b o e hx=>?_,I.base.tups,I.base.frzs,I.base.tbls⟩,⟨m,hn.sameBut hs (Ne.symm (cne x c hc)),λ j y v' e1 e2 e3=>?_⟩,λ y c' e=>?_,I.free,I.freeC,λ p hp=>?_,tracked ⟨oc,hoc,I.freeC x c hc⟩ hs,by simpa using I.len⟩ ⟨c,hs,.inr hc⟩
  ·exact (hs.2 b (Nat.ne_of_lt (Nat.lt_of_lt_of_le (Heap.lt_size e) (I.ok.cab x c hfn hc)))).trans (I.base.keep b o e n hb hx)
  ·obtain ⟨sl,e1⟩:=I.base.slot b o e n hb hx
   exact ⟨sl,(hs.2 b (Nat.ne_of_lt (Nat.lt_of_lt_of_le (Heap.lt_size e) (I.ok.cab x c hfn hc)))).trans e1⟩
  ·obtain ⟨o',e1⟩:=I.base.there b o e hx
   exact ⟨o',(hs.2 b (Nat.ne_of_lt (Nat.lt_of_lt_of_le (Heap.lt_size e) (I.ok.cab x c hfn hc)))).trans e1⟩
  ·by_cases hj:j=i
   ·subst hj
    rw [hi] at e1;cases e1
    rw [List.getElem?_set_self hiσ] at e2
    cases e2
    exact ⟨u,r,.inr ⟨.inl hk,c,hc,hc'⟩⟩
   ·rw [List.getElem?_set_ne (Ne.symm hj)] at e2
    obtain ⟨u',r',q⟩:=hl j y v' e1 e2 e3
    refine ⟨u',r',?_⟩
    rcases q with q | ⟨k,c',e,z'⟩
    ·exact .inl q
    ·refine .inr ⟨k,c',e,z'.sameBut hs ?_⟩
     rintro rfl
     exact hj (y1f hN e1 (I.ok.inj _ _ _ e hc ▸ hi))
  ·by_cases hcc:c'=c
   ·subst hcc;exact ⟨_,hc'⟩
   ·obtain ⟨w2,z2⟩:=I.cell y c' e
    exact ⟨w2,z2.sameBut hs hcc⟩
  ·obtain ⟨e,n,ne,nf,d⟩:=I.pin p hp
   refine ⟨(hs.2 p.1 ?_).trans e,n,ne,nf,d⟩
   intro q
   rw [q,hoc] at e
   have q':oc=p.2:=Option.some.inj e
   exact d w' (by rw [← q'];exact hocd)
theorem z5t {M:Model}{A:Around}{E:Value->Shared->Prop}{i:Nat}{x:Str}{v:V}{u:Value}{Q:Unit->Shared->Prop}(I:Inv X pins σ H s) (hN:X.N.Nodup) (hi:X.N[i]?=some x) (hx:Loc X.env.scope x) (r:RelV v u)
  (h:∀s',Inv X pins (σ.set i (some v)) H s'->Q () s') (hf:X.fn x=true\/X.env.scope.names.lookup x=some .local:=by first | exact .inl rfl | exact .inr rfl | assumption):wpAny M A (storeName X.env x u) Q E s :=
 y1z I hN hi hx r (λ s' I' _=>h s' I') hf
theorem Inv.call' {s':Shared}{ch:List Addr}(I:Inv X pins σ H s) (ho:s'.os=s.os) (u:Un (frs X.stack) ch H H' s.heap s'.heap) (hok:HOk X.prog X.w H' s'.heap) (hg:AllBare s'.gens)
  (hch:∀b∈ch,(b∈X.ex\/X.s₀.heap.objs.size≤b)/\b≠X.env.locals/\(∀x c,X.env.cells.lookup x=some c->c≠b)/\∀p∈X.pn++pins,p.1≠b):Inv X pins σ H' s':=by
 obtain ⟨h',g',d',t',o'⟩:=s'
 have e:o'=s.os:=ho
 subst e
 exact I.call (g':=g') (t':=t') (d':=d') u hok hg hch
end
abbrev XK:=Value->Option Addr->Hp->Prop
abbrev St:=List (Option V)
abbrev VK:=V->Hp->Prop
abbrev TE:=St->Hp->VK->Prop
abbrev TT:=St->Hp->(Bool->Hp->Prop)->Prop
abbrev TA:=St->Hp->(List V->Hp->Prop)->Prop
structure Ends where
 nx:St->Hp->Prop
 rt:VK
 bk:St->Hp->Prop:=λ _ _=>False
 ct:St->Hp->Prop:=λ _ _=>False
abbrev TS:=Ends->St->Hp->Prop
def EP (X:Cx) (pins:List (Addr × Obj)) (σ:St) (Q:VK) (u:Value) (s':Shared):Prop:=∃v H',Inv X pins σ H' s'/\RelV v u/\Q v H'
def TP (X:Cx) (pins:List (Addr × Obj)) (σ:St) (Q:Bool->Hp->Prop) (b:Bool) (s':Shared):Prop:=∃H',Inv X pins σ H' s'/\Q b H'
def AP (X:Cx) (pins:List (Addr × Obj)) (σ:St) (Q:List V->Hp->Prop) (us:List Value) (s':Shared):Prop:=∃vs H',Inv X pins σ H' s'/\Vals vs us/\Q vs H'
def SP (X:Cx) (pins:List (Addr × Obj)) (D:Ends) (f:Flow) (s':Shared):Prop :=
 match f with
 | .next=>∃σ' H',Inv X pins σ' H' s'/\D.nx σ' H'
 | .brk=>∃σ' H',Inv X pins σ' H' s'/\D.bk σ' H'
 | .cont=>∃σ' H',Inv X pins σ' H' s'/\D.ct σ' H'
 | .ret u=>∃v σ' H',Inv X pins σ' H' s'/\RelV v u/\D.rt v H'
def PE (X:Cx) (e:Expr) (t:TE):Prop :=
 ∀(pins:List (Addr × Obj)) (s:Shared) (σ:St) (H:Hp) (Q:VK),Inv X pins σ H s->t σ H Q->wpAny (model X.prog X.w) X.A (eval e X.env) (EP X pins σ Q) X.xe s
def PT (X:Cx) (e:Expr) (t:TT):Prop :=
 ∀(pins:List (Addr × Obj)) (s:Shared) (σ:St) (H:Hp) (Q:Bool->Hp->Prop),Inv X pins σ H s->t σ H Q->wpAny (model X.prog X.w) X.A (isTrue e X.env (eval e X.env)) (TP X pins σ Q) X.xe s
def PW (X:Cx) (e:Expr) (t:TT):Prop :=
 ∀(whole:Sem Value) (pins:List (Addr × Obj)) (s:Shared) (σ:St) (H:Hp) (Q:Bool->Hp->Prop),Inv X pins σ H s->t σ H Q->wpAny (model X.prog X.w) X.A (isTrue e X.env whole) (TP X pins σ Q) X.xe s
theorem PW.pt {X:Cx}{e:Expr}{t:TT}(h:PW X e t):PT X e t:=h _
def PA (X:Cx) (es:List Expr) (t:TA):Prop :=
 ∀(pos:Pos) (pins:List (Addr × Obj)) (s:Shared) (σ:St) (H:Hp) (Q:List V->Hp->Prop),Inv X pins σ H s->t σ H Q->wpAny (model X.prog X.w) X.A (spliced (backTo pos (starEach es X.env))) (AP X pins σ Q) X.xe s
def PS (X:Cx) (st:Stmt) (t:TS):Prop :=
 ∀(pins:List (Addr × Obj)) (s:Shared) (σ:St) (H:Hp) (D:Ends),Inv X pins σ H s->t D σ H->wpAny (model X.prog X.w) X.A (exec st X.env) (SP X pins D) X.xe s
def PSs (X:Cx) (st:List Stmt) (t:TS):Prop :=
 ∀(pins:List (Addr × Obj)) (s:Shared) (σ:St) (H:Hp) (D:Ends),Inv X pins σ H s->t D σ H->wpAny (model X.prog X.w) X.A (execs st X.env) (SP X pins D) X.xe s
theorem thn {α:Type}{t:Sem α}{Q Q':α->Shared->Prop}{M:Model}{A:Around}{E:Value->Shared->Prop}{s:Shared}(h:wpAny M A t Q E s) (hQ:∀a s,Q a s->Q' a s):wpAny M A t Q' E s:=wpAny_mono h hQ λ _ _ x=>x
section
variable {X:Cx}
def w9t (i:Nat):TE:=λ σ H Q=>∃v,σ[i]?=some (some v)/\Q v H
def tC (v:V):TE:=λ _ H Q=>Q v H
theorem w6y {i:Nat}{x:Str}{pos:Pos}(hN:X.N[i]?=some x) (hv:Vis X.env.scope x) (hd:(x == ("__debug__" : Str))=false:=by decide) (hcd:(x == ("__classdict__" : Str))=false:=by decide):PE X (.Name x pos) (w9t i):=by
 intro pins s σ H Q I h
 obtain ⟨v,e,h⟩:=h
 obtain ⟨m,hn,hl⟩:=I.loc
 obtain ⟨u,r,l⟩:=hl i x v hN e hv
 have fin:EP X pins σ Q u s:=⟨v,H,I,r,h⟩
 rcases l with ⟨hk,hm⟩ | ⟨hk,c,hc,hcell⟩
 ·exact wpAny_Name (wpAny_loadName_local I.ok.kind hk hn hm fin) hd
 ·rcases hk with hk | hk
  ·exact wpAny_Name (wpAny_loadName_cell I.ok.kind hk hc hcell fin) hd
  ·exact wpAny_Name (wpAny_loadName_free I.ok.kind hk hc hcell fin hcd) hd
theorem z0g {i j pos}:PE X (.Constant (.int i) j pos) (tC (.int i)):=λ _ _ _ H _ I h=>wpAny_Constant_int ⟨.int i,H,I.tok _,⟨_,rfl⟩,h⟩
theorem w2q {b j pos}:PE X (.Constant (.bool b) j pos) (tC (.bl b)):=λ _ _ _ H _ I h=>Constant_bool ⟨.bl b,H,I,rfl,h⟩
theorem z2n {j pos}:PE X (.Constant .none j pos) (tC .non):=λ _ _ _ H _ I h=>Constant_none ⟨.non,H,I,rfl,h⟩
theorem z0i {x j pos}:PE X (.Constant (.str x) j pos) (tC (.str x)):=λ _ _ _ H _ I h=>Calls.Constant_str ⟨.str x,H,I.tok _,⟨_,rfl⟩,h⟩
def Gl (X:Cx) (x:Str):Prop:=X.env.kindOf x=some .globalImplicit
theorem z3o {E:Value->Shared->Prop}{pins:List (Addr × Obj)}{s:Shared}{σ:St}{H:Hp}{x:Str}{u:Value}{pos:Pos}{Q:Value->Shared->Prop}(I:Inv X pins σ H s) (hg:Gl X x) (hm:X.mg x=some u) (h:Q u s)
  (hd:(x == ("__debug__" : Str))=false:=by decide):wpAny (model X.prog X.w) X.A (eval (.Name x pos) X.env) Q E s :=
 Calls.Name_function_global I.ok.kind hg (Calls.loadGlobal_global (by rw [I.ok.glob];exact I.mod.glob.keeps I.bk) hm h) hd
theorem z9w {E:Value->Shared->Prop}{pins:List (Addr × Obj)}{s:Shared}{σ:St}{H:Hp}{x:Str}{u:Value}{pos:Pos}{Q:Value->Shared->Prop}(I:Inv X pins σ H s) (hg:Gl X x) (hm:X.mg x=none) (hv:bootBuiltins x=some u) (h:Q u s)
  (hn:x ≠ "__name__" := by decide) (hd:(x == ("__debug__" : Str))=false:=by decide):wpAny (model X.prog X.w) X.A (eval (.Name x pos) X.env) Q E s:=by
 obtain ⟨mb,h1,h2⟩:=I.mod.blt
 exact Calls.Name_function_global I.ok.kind hg (Calls.loadGlobal_builtin (by rw [I.ok.glob];exact I.mod.glob.keeps I.bk) hm (by rw [I.ok.blt];exact h1.keeps I.bk) ((h2 x hn).trans hv) h) hd
theorem z4s {x:Str}{v:V}{u:Value}{pos:Pos}(hg:Gl X x) (hm:X.mg x=some u) (r:RelV v u) (hd:(x == ("__debug__" : Str))=false:=by decide):PE X (.Name x pos) (tC v) :=
 λ _ _ _ H _ I h=>z3o I hg hm ⟨v,H,I,r,h⟩ hd
theorem z8n {x:Str}{v:V}{u:Value}{pos:Pos}(hg:Gl X x) (hm:X.mg x=none) (hv:bootBuiltins x=some u) (r:RelV v u) (hn:x ≠ "__name__" := by decide) (hd:(x == ("__debug__" : Str))=false:=by decide):PE X (.Name x pos) (tC v) :=
 λ _ _ _ H _ I h=>z9w I hg hm hv ⟨v,H,I,r,h⟩ hn hd
variable {a b:Expr}{ta tb:TE}{pos:Pos}
def PC (X:Cx) (op:CmpOp) (a b:Expr) (t:TE):Prop :=
 ∀(pins:List (Addr × Obj)) (s:Shared) (σ:St) (H:Hp) (Q:VK),Inv X pins σ H s->t σ H Q ->
  wpAny (model X.prog X.w) X.A (eval a X.env) (λ v s₁=>wpAny (model X.prog X.w) X.A (eval b X.env) (λ u s₂=>wpAny (model X.prog X.w) X.A (compareOp op v u) (EP X pins σ Q) X.xe s₂) X.xe s₁) X.xe s
theorem y7k (b:Expr) {op:CmpOp}(h:op≠.In) (h2:op≠.NotIn):behindInMarks op b=false:=by
 have e1:(op == CmpOp.In)=false:=by cases op<;>first | rfl | exact absurd rfl h
 have e2:(op == CmpOp.NotIn)=false:=by cases op<;>first | rfl | exact absurd rfl h2
 cases b<;>simp [behindInMarks,e1,e2]
def tB (t:TE):TT:=λ σ H Q=>t σ H λ x H1=>∃c,x=.bl c/\Q c H1
theorem w7a {op:CmpOp}{t:TE}(h:PC X op a b t) (h1:behindInMarks op b=false:=by first | exact y7k _ (by decide) (by decide) | rfl):PE X (.Compare a [op] [b] pos) t:=λ pins s σ H Q I hw=>wpAny_Compare1 (h pins s σ H Q I hw) h1
theorem w6k {op:CmpOp}{t:TE}(h:PC X op a b t) (h1:behindInMarks op b=false:=by first | exact y7k _ (by decide) (by decide) | rfl):PT X (.Compare a [op] [b] pos) (tB t):=by
 intro pins s σ H Q I hw
 refine wpAny_isTrue_Compare1 (thn (h pins s σ H _ I hw) λ v s1 h1=>thn h1 λ u s2 h2=>thn h2 λ c s3 ⟨x,H1,I1,r1,q1⟩=>?_) h1
 obtain ⟨d,rfl,q⟩:=q1
 cases r1
 exact wpAny_truthy_bool ⟨H1,I1,q⟩
theorem z5m {e:Expr}{t:TE}(h:PE X e t) (he:∀whole,isTrue e X.env whole=(do let v ← whole;standAt e.pos;holding [v] (truthy v)):=by intro _;rfl):PT X e (tB t):=by
 intro pins s σ H Q I hw
 refine isTrue_plain (thn (h pins s σ H _ I hw) λ v s1 ⟨x,H1,I1,r1,q1⟩=>?_) (he _)
 obtain ⟨d,rfl,q⟩:=q1
 cases r1
 exact wpAny_truthy_bool ⟨H1,I1,q⟩
variable {tA tB':TT}{rest:List Expr}
def v2e (t u:TT):TT:=λ σ H Q=>t σ H λ c H1=>if c=true then u σ H1 Q else Q false H1
def tOr (t u:TT):TT:=λ σ H Q=>t σ H λ c H1=>if c=true then Q true H1 else u σ H1 Q
def v1y (t:TT):TT:=λ σ H Q=>t σ H λ c H1=>Q (!c) H1
theorem y0y (ha:PT X a tA):PW X (.BoolOp .And [a] pos) tA:=by
 intro wh pins s σ H Q I h
 refine isTrue_and (thn (ha pins s σ H Q I h) λ c s1 e=>?_)
 cases c with
 | true=>exact isTrue_and_nil e
 | false=>exact e
theorem z4m (ha:PT X a tA):PW X (.BoolOp .Or [a] pos) tA:=by
 intro wh pins s σ H Q I h
 refine isTrue_or (thn (ha pins s σ H Q I h) λ c s1 e=>?_)
 cases c with
 | false=>exact isTrue_or_nil e
 | true=>exact e
theorem y6m (ha:PT X a tA) (hb:PW X (.BoolOp .And (b::rest) pos) tB'):PW X (.BoolOp .And (a::b::rest) pos) (v2e tA tB'):=by
 intro wh pins s σ H Q I h
 refine isTrue_and (thn (ha pins s σ H _ I h) λ c s1 ⟨H1,I1,q1⟩=>?_)
 cases c with
 | true=>exact hb wh pins s1 σ H1 Q I1 q1
 | false=>exact ⟨H1,I1,q1⟩
theorem z4r (ha:PT X a tA) (hb:PW X (.BoolOp .Or (b::rest) pos) tB'):PW X (.BoolOp .Or (a::b::rest) pos) (tOr tA tB'):=by
 intro wh pins s σ H Q I h
 refine isTrue_or (thn (ha pins s σ H _ I h) λ c s1 ⟨H1,I1,q1⟩=>?_)
 cases c with
 | true=>exact ⟨H1,I1,q1⟩
 | false=>exact hb wh pins s1 σ H1 Q I1 q1
theorem y2q (ha:PT X a tA):PT X (.UnaryOp .Not a pos) (v1y tA):=by
 intro pins s σ H Q I h
 exact isTrue_not (ha pins s σ H (λ c H1=>Q (!c) H1) I h)
def w5p (ta tb:TE):TE:=λ σ H Q=>ta σ H λ x H1=>∃c,x=.bl c/\if c=true then tb σ H1 Q else Q (.bl false) H1
def v1x (ta tb:TE):TE:=λ σ H Q=>ta σ H λ x H1=>∃c,x=.bl c/\if c=true then Q (.bl true) H1 else tb σ H1 Q
def w5h (ta:TE):TE:=λ σ H Q=>ta σ H λ x H1=>∃c,x=.bl c/\Q (.bl (!c)) H1
theorem y7c {op} {t:TE}(h:PE X a t):PE X (.BoolOp op [a] pos) t:=λ pins s σ H Q I hw=>BoolOp_one (h pins s σ H Q I hw)
theorem y7e (ha:PE X a ta) (hb:PE X (.BoolOp .And (b::rest) pos) tb):PE X (.BoolOp .And (a::b::rest) pos) (w5p ta tb):=by
 intro pins s σ H Q I h
 refine BoolOp_and (thn (ha pins s σ H _ I h) λ v s1 ⟨x,H1,I1,r1,q1⟩=>?_)
 obtain ⟨c,rfl,q1⟩:=q1
 cases r1
 refine wpAny_truthy_bool ?_
 cases c with
 | true=>exact hb pins s1 σ H1 Q I1 q1
 | false=>exact ⟨.bl false,H1,I1,rfl,q1⟩
theorem v0p (ha:PE X a ta) (hb:PE X (.BoolOp .Or (b::rest) pos) tb):PE X (.BoolOp .Or (a::b::rest) pos) (v1x ta tb):=by
 intro pins s σ H Q I h
 refine BoolOp_or (thn (ha pins s σ H _ I h) λ v s1 ⟨x,H1,I1,r1,q1⟩=>?_)
 obtain ⟨c,rfl,q1⟩:=q1
 cases r1
 refine wpAny_truthy_bool ?_
 cases c with
 | false=>exact hb pins s1 σ H1 Q I1 q1
 | true=>exact ⟨.bl true,H1,I1,rfl,q1⟩
theorem w6z (ha:PE X a ta):PE X (.UnaryOp .Not a pos) (w5h ta):=by
 intro pins s σ H Q I h
 refine UnaryOp_ (thn (ha pins s σ H _ I h) λ v s1 ⟨x,H1,I1,r1,q1⟩=>?_)
 obtain ⟨c,rfl,q1⟩:=q1
 cases r1
 exact not_of (wpAny_truthy_bool ⟨.bl (!c),H1,I1,rfl,q1⟩)
def tIf (t:TT) (ta tb:TE):TE:=λ σ H Q=>t σ H λ c H1=>if c=true then ta σ H1 Q else tb σ H1 Q
theorem z5g {c:Expr}(hc:PT X c tA) (ha:PE X a ta) (hb:PE X b tb):PE X (.IfExp c a b pos) (tIf tA ta tb):=by
 intro pins s σ H Q I h
 refine wpAny_IfExp (thn (hc pins s σ H _ I h) λ d s1 ⟨H1,I1,q1⟩=>?_)
 cases d with
 | true=>exact ha pins s1 σ H1 Q I1 q1
 | false=>exact hb pins s1 σ H1 Q I1 q1
end
def SqL (K:W.Frag) (H:Hp) (a:Addr) (xs:List V):Prop :=
 Rd H a (.lst xs) \/
  ∃(o:Obj) (its:Array Value) (n:Nat),K.lookup a=some o/\o.cls=.type "list" /\ o.dict=none/\o.data=.seq its n/\its.size≤sizeLine/\Vals xs its.toList
def SqT (K:W.Frag) (H:Hp) (a:Addr) (xs:List V):Prop :=
 Rd H a (.tup xs) \/
  ∃(o:Obj) (its:Array Value) (n:Nat),K.lookup a=some o/\o.cls=.type "tuple" /\ o.data=.seq its n/\its.size≤sizeLine/\Vals xs its.toList
def v4i:Value->Option V
 | .none=>some .non
 | .bool b=>some (.bl b)
 | .int i _=>some (.int i)
 | .str x _=>some (.str x)
 | .bytes b _=>some (.byt b)
 | .float b _=>some (.flt b)
 | .ref a=>some (.ref a)
 | .type n=>some (.ty n)
 | _=>none
theorem RelV.abs {x:V}{u:Value}(r:RelV x u):v4i u=some x:=by
 cases x with
 | non=>cases r;rfl
 | bl _=>cases r;rfl
 | int _=>obtain ⟨t,rfl⟩:=r;rfl
 | str _=>obtain ⟨t,rfl⟩:=r;rfl
 | byt _=>obtain ⟨t,rfl⟩:=r;rfl
 | flt _=>obtain ⟨t,rfl⟩:=r;rfl
 | ref _=>cases r;rfl
 | ty _=>cases r;rfl
theorem RelV.inj {x y:V}{u:Value}(r:RelV x u) (q:RelV y u):x=y:=Option.some.inj (r.abs.symm.trans q.abs)
theorem Vals.inj:∀ {xs ys:List V}{us:List Value},Vals xs us->Vals ys us->xs=ys
 | _,_,_,.nil,.nil=>rfl
 | _,_,_,.cons r t,.cons r' t'=>by rw [r.inj r',Vals.inj t t']
section
variable {X:Cx}{pins:List (Addr × Obj)}{σ:St}{H:Hp}{s:Shared}{a:Addr}{xs ys:List V}
theorem SqL.of {K:W.Frag}(h:H a=some (.lst xs)):SqL K H a xs:=.inl (.inl h)
theorem SqT.of {K:W.Frag}(h:H a=some (.tup xs)):SqT K H a xs:=.inl (.inl h)
theorem Inv.list (I:Inv X pins σ H s) (h:SqL X.K H a xs):∃its:List Value,Vals xs its/\PlainL s.heap a its.toArray/\xs.length≤sizeLine:=by
 rcases h with h | ⟨o,its,n,hk,hc,hd,hs,hz,r⟩
 ·obtain ⟨z,its,n,r,e⟩:=h.ok I.hok
  exact ⟨its,r,⟨_,n,e,rfl,rfl,rfl⟩,z⟩
 ·refine ⟨its.toList,r,⟨o,n,I.kIn a o hk,hc,hd,by simpa using hs⟩,?_⟩
  have e:=r.length
  simp only [Array.length_toList] at e
  lia
theorem Inv.tuple (I:Inv X pins σ H s) (h:SqT X.K H a xs):∃its:List Value,Vals xs its/\IsTup s.heap a its.toArray/\xs.length≤sizeLine:=by
 rcases h with h | ⟨o,its,n,hk,hc,hs,hz,r⟩
 ·obtain ⟨z,its,r,p⟩:=h.ok I.hok
  exact ⟨its,r,p,z⟩
 ·refine ⟨its.toList,r,⟨o,I.kIn a o hk,hc,n,by simpa using hs⟩,?_⟩
  have e:=r.length
  simp only [Array.length_toList] at e
  lia
theorem Inv.list_inj (I:Inv X pins σ H s) (h:SqL X.K H a xs) (h':SqL X.K H a ys):xs=ys:=by
 obtain ⟨its,r,⟨o,n,e,_,_,d⟩,_⟩:=I.list h
 obtain ⟨its',r',⟨o',n',e',_,_,d'⟩,_⟩:=I.list h'
 rw [e] at e';cases e'
 rw [d] at d'
 injection d' with d1 _
 have:its=its':=by simpa using congrArg Array.toList d1
 subst this
 exact r.inj r'
theorem Inv.tuple_inj (I:Inv X pins σ H s) (h:SqT X.K H a xs) (h':SqT X.K H a ys):xs=ys:=by
 obtain ⟨its,r,⟨o,e,_,n,d⟩,_⟩:=I.tuple h
 obtain ⟨its',r',⟨o',e',_,n',d'⟩,_⟩:=I.tuple h'
 rw [e] at e';cases e'
 rw [d] at d'
 injection d' with d1 _
 have:its=its':=by simpa using congrArg Array.toList d1
 subst this
 exact r.inj r'
end
abbrev Cx.wish (X:Cx) (E:Value->Shared->Prop):Cx:={ X with xe:=E }
abbrev Cx.nox (X:Cx):Cx:=X.wish λ _ _=>False
theorem Cx.Ok.wish {X:Cx}(ok:X.Ok) (E:Value->Shared->Prop):(X.wish E).Ok :=
 ⟨ok.mod,ok.kind,ok.glob,ok.blt,ok.above,ok.inj,ok.has,ok.cab,ok.hd,ok.frames,ok.stk,ok.exf,ok.bs,ok.bsz,ok.noex,ok.exfs,ok.funs,ok.frf⟩
theorem Cx.Ok.unwish {X:Cx}{E:Value->Shared->Prop}(ok:(X.wish E).Ok):X.Ok :=
 ⟨ok.mod,ok.kind,ok.glob,ok.blt,ok.above,ok.inj,ok.has,ok.cab,ok.hd,ok.frames,ok.stk,ok.exf,ok.bs,ok.bsz,ok.noex,ok.exfs,ok.funs,ok.frf⟩
section
variable {X:Cx}{pins:List (Addr × Obj)}{σ:St}{H:Hp}{s:Shared}{E:Value->Shared->Prop}
theorem Inv.wish (I:Inv X pins σ H s) (E:Value->Shared->Prop):Inv (X.wish E) pins σ H s:=⟨I.ok.wish E,I.os,I.bare,I.base,I.loc,I.cell,I.free,I.freeC,I.pin,I.hok,I.len⟩
theorem Inv.unwish (I:Inv (X.wish E) pins σ H s):Inv X pins σ H s:=⟨I.ok.unwish,I.os,I.bare,I.base,I.loc,I.cell,I.free,I.freeC,I.pin,I.hok,I.len⟩
theorem SP.unwish {D:Ends}{f:Flow}{s':Shared}(h:SP (X.wish E) pins D f s'):SP X pins D f s':=by
 cases f with
 | next=>obtain ⟨σ',H',I,q⟩:=h;exact ⟨σ',H',I.unwish,q⟩
 | brk=>obtain ⟨σ',H',I,q⟩:=h;exact ⟨σ',H',I.unwish,q⟩
 | cont=>obtain ⟨σ',H',I,q⟩:=h;exact ⟨σ',H',I.unwish,q⟩
 | ret u=>obtain ⟨v,σ',H',I,r,q⟩:=h;exact ⟨v,σ',H',I.unwish,r,q⟩
theorem PE.nox {e:Expr}{t:TE}(h:PE X.nox e t):PE X e t:=λ pins s σ H Q I hw =>
 wpAny_mono (h pins s σ H Q (I.wish _) hw) (λ _ _ ⟨v,H',I',r,q⟩=>⟨v,H',I'.unwish,r,q⟩) λ _ _ z=>False.elim z
theorem PT.nox {e:Expr}{t:TT}(h:PT X.nox e t):PT X e t:=λ pins s σ H Q I hw =>
 wpAny_mono (h pins s σ H Q (I.wish _) hw) (λ _ _ ⟨H',I',q⟩=>⟨H',I'.unwish,q⟩) λ _ _ z=>False.elim z
theorem PSs.nox {st:List Stmt}{t:TS}(h:PSs X.nox st t):PSs X st t:=λ pins s σ H D I hw =>
 wpAny_mono (h pins s σ H D (I.wish _) hw) (λ _ _ q=>q.unwish) λ _ _ z=>False.elim z
end
section
variable {X:Cx}{st:Stmt}{rest:List Stmt}{t u:TS}{e:Expr}{te:TE}{pos:Pos}
def w5i:TS:=λ D σ H=>D.nx σ H
def z1b (t u:TS):TS:=λ D σ H=>t { D with nx:=u D } σ H
theorem z0t:PSs X [] w5i:=λ _ _ σ H _ I h=>wpAny_execs_nil ⟨σ,H,I,h⟩
theorem z0f (h1:PS X st t) (h2:PSs X rest u):PSs X (st::rest) (z1b t u):=by
 intro pins s σ H D I h
 refine wpAny_execs_cons (thn (h1 pins s σ H { D with nx:=u D } I h) λ f s1 q=>?_)
 cases f with
 | next =>
  obtain ⟨σ',H',I',q⟩:=q
  exact h2 pins s1 σ' H' D I' q
 | ret v=>exact q
 | brk=>exact q
 | cont=>exact q
theorem z0k (h1:PS X st t):PSs X [st] t:=by
 intro pins s σ H D I h
 refine wpAny_execs_cons (thn (h1 pins s σ H D I h) λ f s1 q=>?_)
 cases f with
 | next=>exact wpAny_execs_nil q
 | ret v=>exact q
 | brk=>exact q
 | cont=>exact q
theorem Inv.quiet {pins:List (Addr × Obj)}{σ:St}{H:Hp}{s:Shared}(I:Inv X pins σ H s):interactive X.env=false:=by simp [interactive,I.ok.kind]
def w5n (te:TE):TS:=λ D σ H=>te σ H λ _ H1=>D.nx σ H1
theorem z3n (he:PE X e te) (hs:swapsWith e none pos.line X.env=pure false:=by rfl):PS X (.Expr e pos) (w5n te):=by
 intro pins s σ H D I h
 exact wpAny_Expr_any (thn (he pins s σ H _ I h) λ v s1 ⟨x,H1,I1,r1,q1⟩=>⟨σ,H1,I1,q1⟩) I.quiet hs
def v1w (te:TE):TS:=λ D σ H=>te σ H D.rt
theorem z0p (he:PE X e te):PS X (.Return (some e) pos) (v1w te):=by
 intro pins s σ H D I h
 exact wpAny_Return_some (thn (he pins s σ H _ I h) λ v s1 ⟨x,H1,I1,r1,q1⟩=>⟨x,σ,H1,I1,r1,q1⟩)
def w9v:TS:=λ D _ H=>D.rt .non H
def z1c (c:TT) (t u:TS):TS:=λ D σ H=>c σ H λ b H1=>if b=true then t D σ H1 else u D σ H1
theorem z1l {c:Expr}{a b:List Stmt}{tc:TT}(hc:PT X c tc) (ha:PSs X a t) (hb:PSs X b u):PS X (.If c a b pos) (z1c tc t u):=by
 intro pins s σ H D I h
 refine wpAny_If (thn (hc pins s σ H _ I h) λ d s1 ⟨H1,I1,q1⟩=>?_)
 cases d with
 | true=>exact ha pins s1 σ H1 D I1 q1
 | false=>exact hb pins s1 σ H1 D I1 q1
def w5j:TS:=λ _ _ _=>False
end
abbrev TG:=V->St->Hp->(St->Hp->Prop)->Prop
abbrev TGs:=List V->St->Hp->(St->Hp->Prop)->Prop
def PG (X:Cx) (target:Expr) (t:TG):Prop :=
 ∀(pins:List (Addr × Obj)) (s:Shared) (σ:St) (H:Hp) (v:V) (u:Value) (Q:St->Hp->Prop),Inv X pins σ H s->RelV v u->t v σ H Q ->
  wpAny (model X.prog X.w) X.A (assign target X.env u) (λ _ s'=>∃σ' H',Inv X pins σ' H' s'/\Q σ' H') X.xe s
def PGs (X:Cx) (ts:List Expr) (t:TGs):Prop :=
 ∀(pins:List (Addr × Obj)) (s:Shared) (σ:St) (H:Hp) (vs:List V) (us:List Value) (Q:St->Hp->Prop),Inv X pins σ H s->Vals vs us->t vs σ H Q ->
  wpAny (model X.prog X.w) X.A (assignInOrder ((assignEach ts X.env).map (·.2)) us) (λ _ s'=>∃σ' H',Inv X pins σ' H' s'/\Q σ' H') X.xe s
abbrev v1n:=V->V->V->Hp->(Hp->Prop)->Prop
def v2x (X:Cx) (t:v1n):Prop :=
 ∀(pins:List (Addr × Obj)) (s:Shared) (σ:St) (H:Hp) (o i v:V) (ov iv u:Value) (Q:Hp->Prop),Inv X pins σ H s->RelV o ov->RelV i iv->RelV v u->t o i v H Q ->
  wpAny (model X.prog X.w) X.A (setItem ov iv u) (λ _ s'=>∃H',Inv X pins σ H' s'/\Q H') X.xe s
section
variable {X:Cx}{pos:Pos}
def z9f (i:Nat):TG:=λ v σ H Q=>Q (σ.set i (some v)) H
theorem z2a {i:Nat}{x:Str}(hN:X.N.Nodup) (hi:X.N[i]?=some x) (hx:Loc X.env.scope x) (hf:X.fn x=true\/X.env.scope.names.lookup x=some .local:=by first | exact .inl rfl | exact .inr rfl | assumption):PG X (.Name x pos) (z9f i):=by
 intro pins s σ H v u Q I r h
 exact wpAny_assign_Name (z5t I hN hi hx r (λ s' I'=>⟨_,H,I',h⟩) hf)
def v2r:TGs:=λ vs σ H Q=>vs=[]/\Q σ H
def w8n (t:TG) (u:TGs):TGs:=λ vs σ H Q=>∃v r,vs=v::r/\t v σ H λ σ' H'=>u r σ' H' Q
theorem x2m:PGs X [] v2r:=by
 intro pins s σ H vs us Q I r h
 obtain ⟨e,h⟩:=h
 subst e
 cases r
 exact assignInOrder_nil ⟨σ,H,I,h⟩
theorem z7j {e:Expr}{es:List Expr}{t:TG}{u:TGs}(h1:PG X e t) (h2:PGs X es u)
  (hs:(assignEach (e::es) X.env).map (·.2)=assign e X.env::(assignEach es X.env).map (·.2):=by rfl):PGs X (e::es) (w8n t u):=by
 intro pins s σ H vs us Q I r h
 obtain ⟨v,vr,e1,h⟩:=h
 subst e1
 cases r with
 | cons r rr =>
  rw [hs]
  refine assignInOrder_cons (thn (h1 pins s σ H _ _ _ I r h) λ _ s1 ⟨σ1,H1,I1,q1⟩=>?_)
  exact h2 pins s1 σ1 H1 _ _ Q I1 rr q1
def w8m (K:W.Frag) (n:Nat) (t:TGs):TG:=λ v σ H Q=>∃a xs,v=.ref a/\SqT K H a xs/\xs.length=n/\t xs σ H Q
theorem w0o {es:List Expr}{k:Nat}{t:TGs}{n:Nat}(hc:X.calm=true) (h:PGs X es t)
  (hn:(assignEach es X.env).length=n:=by rfl) (hst:(assignEach es X.env).findIdx? (·.1)=none:=by rfl):PG X (.Tuple es k pos) (w8m X.K n t):=by
 intro pins s σ H v u Q I r hw
 obtain ⟨a,xs,e1,hq,hl,hw⟩:=hw
 subst e1
 cases r
 obtain ⟨its,rv,ht,hz⟩:=I.tuple hq
 refine assign_Tuple_tuple (I.ok.hd hc) ht (by simp [hn,← hl,rv.length]) hst λ h' hx=>?_
 have I1:Inv X pins σ H { s with heap:=h' }:=I.kept (t':=s.toks) λ b o e=>hx b o (Nat.ne_of_lt (Heap.lt_size e)) e
 exact h pins _ σ H xs _ Q I1 (by simpa using rv) hw
def v2q (to ti:TE) (t:v1n):TG:=λ v σ H Q=>to σ H λ o H1=>ti σ H1 λ i H2=>t o i v H2 λ H3=>Q σ H3
theorem y3a {o i:Expr}{to ti:TE}{t:v1n}(ho:PE X o to) (hi:PE X i ti) (hs:v2x X t)
  (ha:∀v,assign (.Subscript o i pos) X.env v=(do
   let ov ← holding [v] (eval o X.env)
   let iv ← holding [v,ov] (eval i X.env)
   standAt pos
   holding [v,ov,iv] (setItem ov iv v)
   release [v,ov,iv] []):=by intro _;rfl):PG X (.Subscript o i pos) (v2q to ti t):=by
 intro pins s σ H v u Q I r h
 rw [ha]
 refine wpAny_bind (wpAny_holding (thn (ho pins s σ H _ I h) λ ov s1 ⟨x,H1,I1,r1,q1⟩=>?_))
 refine wpAny_bind (wpAny_holding (thn (hi pins s1 σ H1 _ I1 q1) λ iv s2 ⟨y,H2,I2,r2,q2⟩=>?_))
 refine wpAny_bind (wpAny_standAt (wpAny_bind (wpAny_holding (thn (hs pins s2 σ H2 x y v ov iv u _ I2 r1 r2 r q2) λ _ s3 ⟨H3,I3,q3⟩=>?_))))
 exact wpAny_release ⟨σ,H3,I3,q3⟩
def w0f (te:TE) (g:TG):TS:=λ D σ H=>te σ H λ x H1=>g x σ H1 D.nx
theorem y6q {tg e:Expr}{te:TE}{g:TG}(he:PE X e te) (hg:PG X tg g) (hs:swapsWithSole [tg] e pos.line X.env=pure false:=by rfl) (hw:swappedStores [tg] e X.env=pure none:=by rfl)
  (h1:(assignEach [tg] X.env).map (·.2)=[assign tg X.env]:=by rfl):PS X (.Assign [tg] e pos) (w0f te g):=by
 intro pins s σ H D I h
 refine wpAny_Assign_stores (thn (he pins s σ H _ I h) λ v s1 ⟨x,H1,I1,r1,q1⟩=>?_) hs hw
 rw [h1]
 exact thn (hg pins s1 σ H1 x v _ I1 r1 q1) λ _ s2 q=>q
theorem z0s {i:Nat}{x:Str}{e:Expr}{te:TE}{pos':Pos}(hN:X.N.Nodup) (hi:X.N[i]?=some x) (hx:Loc X.env.scope x) (he:PE X e te) (hs:swapsWith e (some (.Name x pos')) pos.line X.env=pure false:=by rfl) (hf:X.fn x=true\/X.env.scope.names.lookup x=some .local:=by first | exact .inl rfl | exact .inr rfl | assumption) :
  PS X (.Assign [.Name x pos'] e pos) (w0f te (z9f i)):=by
 intro pins s σ H D I h
 refine wpAny_Assign_Name (thn (he pins s σ H _ I h) λ v s1 ⟨y,H1,I1,r1,q1⟩=>?_) hs
 exact z5t I1 hN hi hx r1 (λ s2 I2=>⟨_,H1,I2,q1⟩) hf
end
section
variable {X:Cx}{pos:Pos}
end
structure It where
 go:Nat->Hp->Prop
 yld:Nat->Hp->V->Hp->Prop
 stop:Nat->Hp->Prop
def w0a (X:Cx) (pins:List (Addr × Obj)) (H:Hp) (b:Addr):Prop :=
 H b=none/\b≠X.env.locals/\b ∉ X.fs/\(b∈X.ex\/X.s₀.heap.objs.size≤b)/\(∀x c,X.env.cells.lookup x=some c->c≠b)/\∀p∈X.pn++pins,p.1≠b
theorem Inv.fpOk {X:Cx}{pins:List (Addr × Obj)}{σ:St}{H H':Hp}{s:Shared}{b:Addr}(I:Inv X pins σ H s) (hb:s.heap.objs.size≤b) (hn:H' b=none):w0a X pins H' b:=by
 refine ⟨hn,Nat.ne_of_gt (Nat.lt_of_lt_of_le I.lt hb),I.nofs hb,.inr (Nat.le_trans I.sz hb),λ x c e z=>?_,λ p hp z=>?_⟩
 ·obtain ⟨v,q⟩:=I.cell x c e
  exact absurd (Nat.lt_of_lt_of_le q.lt (by rw [z];exact hb)) (Nat.lt_irrefl _)
 ·exact absurd (Nat.lt_of_lt_of_le (Heap.lt_size (I.pin p hp).1) (by rw [z];exact hb)) (Nat.lt_irrefl _)
structure Turn (P:Program) (w:World) (K:W.Frag) (tg:Expr) (J:It) (fp:List Addr) (it:Addr) (tn:Nat->Heap->Prop):Prop where
 mem:it∈fp
 obj:∀i h,tn i h->∀b∈fp,∃o,h.get? b=some o/\∀v,o.data≠.cell v
 keep:∀i h h',tn i h->(∀b∈fp,∀o,h.get? b=some o->h'.get? b=some o)->tn i h'
 item:∀(X:Cx),X.prog=P->X.w=w->X.K=K->X.calm=true->∀(i:Nat) (pins:List (Addr × Obj)) (s:Shared) (σ:St) (H:Hp) (E:Value->Shared->Prop),Inv X pins σ H s->(∀b∈fp,w0a X pins H b)->tn i s.heap->J.go i H ->
  wpAny (model P w) X.A (pyNext (.ref it)) (λ r s1=>∃u,r=some u /\
   wpAny (model P w) X.A (letOwnedTupleGo tg (.ref it) u) (λ _ s2=>∃x H',Inv X pins σ H' s2/\RelV x u/\J.yld i H x H'/\tn (i+1) s2.heap/\∀b∈fp,H' b=none) E s1) E s
 done:∀(X:Cx),X.prog=P->X.w=w->X.K=K->X.calm=true->∀(i:Nat) (pins:List (Addr × Obj)) (s:Shared) (σ:St) (H:Hp) (E:Value->Shared->Prop),Inv X pins σ H s->(∀b∈fp,w0a X pins H b)->tn i s.heap->J.stop i H ->
  wpAny (model P w) X.A (pyNext (.ref it)) (λ r s1=>r=none/\Inv X pins σ H s1) E s
 self:∀(A:Around) (i:Nat) (s:Shared) (Q:Value->Shared->Prop) (E:Value->Shared->Prop),tn i s.heap->Q (.ref it) s->wpAny (model P w) A (pyIter (.ref it)) Q E s
abbrev TI:=St->Hp->(It->Hp->Prop)->Prop
def PIE (X:Cx) (pins:List (Addr × Obj)) (σ:St) (tg:Expr) (R:It->Hp->Prop) (itv:Value) (s2:Shared):Prop :=
 ∃(it:Addr) (fp:List Addr) (tn:Nat->Heap->Prop) (J:It) (H':Hp),itv=.ref it/\Inv X pins σ H' s2/\Turn X.prog X.w X.K tg J fp it tn/\tn 0 s2.heap/\(∀b∈fp,w0a X pins H' b)/\R J H'
def PI (X:Cx) (tg iter:Expr) (wi:TI):Prop :=
 ∀(pins:List (Addr × Obj)) (s:Shared) (σ:St) (H:Hp) (R:It->Hp->Prop),Inv X pins σ H s->wi σ H R ->
  wpAny (model X.prog X.w) X.A (eval iter X.env) (λ v s1=>wpAny (model X.prog X.w) X.A (pyIter v) (PIE X pins σ tg R) X.xe s1) X.xe s
theorem x4m {M:Model}{A:Around}{E:Value->Shared->Prop}{s:Shared}{tg:Expr}{it:Addr}{u:Value}{o:Obj}{n:String}{vs:Array Value}{Q:Unit->Shared->Prop}(ho:s.heap.get? it=some o) (hc:o.cls=.type n) (hd:o.data=.fields vs)
    (hn:["enumerate","zip","dict_itemiterator","dict_reverseitemiterator","odict_iterator","itertools.zip_longest","itertools.pairwise"].contains n=false) (hQ:Q () s):wpAny M A (letOwnedTupleGo tg (.ref it) u) Q E s:=by
  unfold letOwnedTupleGo
  cases tg<;>first
    | exact wpAny_pure hQ
    | (cases u<;>first
        | exact wpAny_pure hQ
        | (refine wpAny_bind (wpAny_load ho ?_)
           rw [hc,hd]
           show wpAny M A (if (["enumerate","zip","dict_itemiterator","dict_reverseitemiterator","odict_iterator","itertools.zip_longest","itertools.pairwise"].contains n && vs[0]? == some (rawInt _))=true then _ else _) Q E s
           rw [if_neg (by intro h;rw [hn,Bool.false_and] at h;cases h)]
           exact wpAny_pure hQ))
def Itl (K:W.Frag) (a:Addr):It :=
 ⟨λ i H=>∃xs x,SqL K H a xs/\xs[i]?=some x,λ i H x H'=>H'=H/\∀xs,SqL K H a xs->xs[i]?=some x,λ i H=>∃xs,SqL K H a xs/\xs.length≤i⟩
def Itt (K:W.Frag) (a:Addr):It :=
 ⟨λ i H=>∃xs x,SqT K H a xs/\xs[i]?=some x,λ i H x H'=>H'=H/\∀xs,SqT K H a xs->xs[i]?=some x,λ i H=>∃xs,SqT K H a xs/\xs.length≤i⟩
def Itr (lo:Int) (n:Nat):It:=⟨λ i _=>i < n,λ i H x H'=>H'=H/\x=.int (lo+i),λ i _=>n≤i⟩
theorem x0l {P:Program}{w:World}{K:W.Frag}{tg:Expr}(a it:Addr):Turn P w K tg (Itl K a) [it] it (λ i h=>h.IsListIter it a i) where
 mem:=by simp
 obj:=λ i h st b hb=>by
  have e:b=it:=by simpa using hb
  subst e
  obtain ⟨o,e,c,d⟩:=st
  exact ⟨o,e,λ v z=>by rw [d] at z;cases z⟩
 keep:=λ i h h' st k=>st.at λ o e=>k it (by simp) o e
 item:=by
  intro X hP hw hK hc i pins s σ H E I hf st hg
  subst hP hw hK
  obtain ⟨xs,x,hq,hx⟩:=hg
  obtain ⟨its,rv,p,hz⟩:=I.list hq
  obtain ⟨u,hu,ru⟩:=rv.get hx
  obtain ⟨f0,f1,f2,f3,f4,f5⟩:=hf it (by simp)
  refine wpAny_pyNext_list_item st p.isList (x:=u) (by simpa using hu) λ h' st' sb=>?_
  have I1:Inv X pins σ H { s with heap:=h' }:=I.turned (t':=s.toks) (λ b o hb e=>(sb.2 b hb).trans e) f0 f1 f3 f4 f5
  obtain ⟨o,e,c,d⟩:=id st'
  exact ⟨u,rfl,x4m (s:={ s with heap:=h' }) e c d (by decide) ⟨x,H,I1,ru,⟨rfl,λ ys hy=>by rw [I.list_inj hy hq];exact hx⟩,st',λ b hb=>(hf b hb).1⟩⟩
 done:=by
  intro X hP hw hK hc i pins s σ H E I hf st hg
  subst hP hw hK
  obtain ⟨xs,hq,hx⟩:=hg
  obtain ⟨its,rv,p,hz⟩:=I.list hq
  obtain ⟨f0,f1,f2,f3,f4,f5⟩:=hf it (by simp)
  have hl:=rv.length
  exact wpAny_pyNext_list_end (I.ok.hd hc) st p.isList (by simp;lia) λ h' eb=>⟨rfl,I.turned (t':=s.toks) (λ b o hb e=>eb b o hb e) f0 f1 f3 f4 f5⟩
 self:=λ _ _ _ _ _ st h=>wpAny_pyIter_listiter st h
theorem y8o {P:Program}{w:World}{K:W.Frag}{tg:Expr}(a it:Addr):Turn P w K tg (Itt K a) [it] it (λ i h=>h.IsTupleIter it a i) where
 mem:=by simp
 obj:=λ i h st b hb=>by
  have e:b=it:=by simpa using hb
  subst e
  obtain ⟨o,e,c,d⟩:=st
  exact ⟨o,e,λ v z=>by rw [d] at z;cases z⟩
 keep:=λ i h h' st k=>st.at λ o e=>k it (by simp) o e
 item:=by
  intro X hP hw hK hc i pins s σ H E I hf st hg
  subst hP hw hK
  obtain ⟨xs,x,hq,hx⟩:=hg
  obtain ⟨its,rv,p,hz⟩:=I.tuple hq
  obtain ⟨u,hu,ru⟩:=rv.get hx
  obtain ⟨f0,f1,f2,f3,f4,f5⟩:=hf it (by simp)
  refine wpAny_pyNext_tuple_item st (show s.heap.IsTuple a its.toArray from p) (x:=u) (by simpa using hu) λ h' st' sb=>?_
  have I1:Inv X pins σ H { s with heap:=h' }:=I.turned (t':=s.toks) (λ b o hb e=>(sb.2 b hb).trans e) f0 f1 f3 f4 f5
  obtain ⟨o,e,c,d⟩:=id st'
  exact ⟨u,rfl,x4m (s:={ s with heap:=h' }) e c d (by decide) ⟨x,H,I1,ru,⟨rfl,λ ys hy=>by rw [I.tuple_inj hy hq];exact hx⟩,st',λ b hb=>(hf b hb).1⟩⟩
 done:=by
  intro X hP hw hK hc i pins s σ H E I hf st hg
  subst hP hw hK
  obtain ⟨xs,hq,hx⟩:=hg
  obtain ⟨its,rv,p,hz⟩:=I.tuple hq
  obtain ⟨f0,f1,f2,f3,f4,f5⟩:=hf it (by simp)
  have hl:=rv.length
  exact wpAny_pyNext_tuple_end (I.ok.hd hc) st (show s.heap.IsTuple a its.toArray from p) (by simp;lia) λ h' eb=>⟨rfl,I.turned (t':=s.toks) (λ b o hb e=>eb b o hb e) f0 f1 f3 f4 f5⟩
 self:=λ _ _ _ _ _ st h=>wpAny_pyIter_tupleiter st h
theorem y8p {P:Program}{w:World}{K:PySem.W.Frag}{tg:Expr}(it:Addr) (lo:Int) (n:Nat):Turn P w K tg (Itr lo n) [it] it (λ i h=>IsRangeIter h it (lo+(i:Nat) * 1) ((n:Int) - (i:Nat)) 1) where
 mem:=by simp
 obj:=λ i h st b hb=>by
  have e:b=it:=by simpa using hb
  subst e
  exact ⟨_,st,λ v z=>by
   have z':Data.fields _=Data.cell v:=z
   cases z'⟩
 keep:=λ i h h' st k=>k it (by simp) _ st
 item:=by
  intro X hP hw hK hc i pins s σ H E I hf st hg
  subst hP hw hK
  obtain ⟨f0,f1,f2,f3,f4,f5⟩:=hf it (by simp)
  have W:=Walks.range (prog:=X.prog) (w:=X.w) (I.ok.hd hc) it lo 1 n
  refine W.item i s _ _ hg st λ v h' tk hv st' kk=>?_
  obtain ⟨t,rfl⟩:=hv
  have I1:Inv X pins σ H { s with heap:=h',toks:=tk }:=I.turned (λ b o hb e=>kk b o (by simpa using hb) e) f0 f1 f3 f4 f5
  refine ⟨_,rfl,x4m (s:={ s with heap:=h',toks:=tk }) (n := "range_iterator") st' rfl rfl (by decide) ⟨.int (lo+i),H,I1,⟨t,?_⟩,⟨rfl,rfl⟩,st',λ b hb=>(hf b hb).1⟩⟩
  rw [Int.mul_one]
 done:=by
  intro X hP hw hK hc i pins s σ H E I hf st hg
  subst hP hw hK
  obtain ⟨f0,f1,f2,f3,f4,f5⟩:=hf it (by simp)
  exact wpAny_pyNext_range_end (I.ok.hd hc) st (by have:n≤i:=hg;lia) λ h' eb=>⟨rfl,I.turned (t':=s.toks) (λ b o hb e=>eb b o hb e) f0 f1 f3 f4 f5⟩
 self:=λ _ _ _ _ _ st h=>wpAny_pyIter_rangeiter st h
section
variable {X:Cx}{tg:Expr}
def x8s (K:W.Frag) (tl:TE):TI:=λ σ H R=>tl σ H λ x H1=>∃a,x=.ref a/\(∃xs,SqL K H1 a xs)/\R (Itl K a) H1
def w9n (K:W.Frag) (tl:TE):TI:=λ σ H R=>tl σ H λ x H1=>∃a,x=.ref a/\(∃xs,SqT K H1 a xs)/\R (Itt K a) H1
theorem y5b {l:Expr}{tl:TE}(hl:PE X l tl):PI X tg l (x8s X.K tl):=by
 intro pins s σ H R I h
 refine thn (hl pins s σ H _ I h) λ v s1 ⟨x,H1,I1,r1,q1⟩=>?_
 obtain ⟨a,e,⟨xs,hq⟩,q⟩:=q1
 subst e
 cases r1
 obtain ⟨its,rv,p,hz⟩:=I1.list hq
 refine wpAny_pyIter_list p.isList ?_
 refine ⟨s1.heap.objs.size,[s1.heap.objs.size],_,_,H1,rfl,I1.kept (t':=s1.toks) λ b o e=>Heap.get?_push_of_some _ e,x0l a _,⟨_,Heap.get?_push_size _ rfl,rfl,rfl⟩,λ b hb=>?_,q⟩
 have e:b=s1.heap.objs.size:=by simpa using hb
 subst e
 exact I1.fpOk (Nat.le_refl _) (I1.hok.fresh (Nat.le_refl _))
theorem x2k {l:Expr}{tl:TE}(hl:PE X l tl):PI X tg l (w9n X.K tl):=by
 intro pins s σ H R I h
 refine thn (hl pins s σ H _ I h) λ v s1 ⟨x,H1,I1,r1,q1⟩=>?_
 obtain ⟨a,e,⟨xs,hq⟩,q⟩:=q1
 subst e
 cases r1
 obtain ⟨its,rv,p,hz⟩:=I1.tuple hq
 refine wpAny_pyIter_tuple (show s1.heap.IsTuple a its.toArray from p) ?_
 refine ⟨s1.heap.objs.size,[s1.heap.objs.size],_,_,H1,rfl,I1.kept (t':=s1.toks) λ b o e=>Heap.get?_push_of_some _ e,y8o a _,⟨_,Heap.get?_push_size _ rfl,rfl,rfl⟩,λ b hb=>?_,q⟩
 have e:b=s1.heap.objs.size:=by simpa using hb
 subst e
 exact I1.fpOk (Nat.le_refl _) (I1.hok.fresh (Nat.le_refl _))
theorem y6l {pins:List (Addr × Obj)}{σ:St}{H:Hp}{s:Shared}{R:It->Hp->Prop}{E:Value->Shared->Prop}{lo hi:Int}{t u v:Tok}{tk:Nat}(I:Inv X pins σ H s) (h1:-(2 ^ 62)≤lo) (h2:lo < 2 ^ 62) (h3:-(2 ^ 62)≤hi) (h4:hi < 2 ^ 62)
  (q:R (Itr lo (hi - lo).toNat) H):wpAny (model X.prog X.w) X.A (pyIter (.ref s.heap.objs.size)) (PIE X pins σ tg R) E { s with heap:=s.heap.push { cls:=.type "range",data:=.fields #[.int lo t,.int hi u,.int 1 v] },toks:=tk }:=by
 refine wpAny_pyIter_range (IsRange.new ..) (small_one h1 h2 h3 h4) ?_
 have I1:Inv X pins σ H { s with heap:=s.heap.push { cls:=.type "range",data:=.fields #[.int lo t,.int hi u,.int 1 v] },toks:=tk }:=I.kept λ b o e=>Heap.get?_push_of_some _ e
 refine ⟨(s.heap.push { cls:=.type "range",data:=.fields #[.int lo t,.int hi u,.int 1 v] }).objs.size,[(s.heap.push { cls:=.type "range",data:=.fields #[.int lo t,.int hi u,.int 1 v] }).objs.size],_,_,H,rfl,
  I1.kept (t':=tk) λ b o e=>Heap.get?_push_of_some _ e,y8p _ lo (hi - lo).toNat,?_,λ b hb=>?_,q⟩
 ·have e1:lo+((0:Nat):Int) * 1=lo:=by simp
  have e2:(((hi - lo).toNat:Nat):Int) - ((0:Nat):Int)=Builtin.Range.rangeSize lo hi 1:=by rw [rangeSize_one];split<;>lia
  show IsRangeIter _ _ (lo+((0:Nat):Int) * 1) ((((hi - lo).toNat:Nat):Int) - ((0:Nat):Int)) 1
  rw [e1,e2]
  exact Heap.get?_push_size _ rfl
 ·have e:b=(s.heap.push { cls:=.type "range",data:=.fields #[.int lo t,.int hi u,.int 1 v] }).objs.size:=by simpa using hb
  subst e
  exact I1.fpOk (Nat.le_refl _) (I1.hok.fresh (Nat.le_refl _))
def x8r (ta:TA):TI:=λ σ H R=>ta σ H λ vs H1=>∃j:Int,vs=[.int j]/\-(2 ^ 62)≤j/\j < 2 ^ 62/\R (Itr 0 j.toNat) H1
def w8i (ta:TA):TI:=λ σ H R=>ta σ H λ vs H1=>∃i j:Int,vs=[.int i,.int j]/\(-(2 ^ 62)≤i/\i < 2 ^ 62/\-(2 ^ 62)≤j/\j < 2 ^ 62)/\R (Itr i (j - i).toNat) H1
theorem z2x {a:Expr}{ta:TA}{p pos:Pos}(hg:Gl X "range") (hm:X.mg "range"=none) (ha:PA X [a] ta) (hs:starEach [a] X.env=[(false,eval a X.env)]:=by rfl):PI X tg (.Call (.Name "range" p) [a] [] pos) (x8r ta):=by
 intro pins s σ H R I h
 refine Call_ (z9w I hg hm boot_range (PyProof.Rows.callWith_type1 (thn (ha pos pins s σ H _ I h) λ us s1 ⟨vs,H1,I1,r1,q1⟩=>?_) hs rfl))
 obtain ⟨j,e,q1,q2,q⟩:=q1
 subst e
 cases r1 with
 | cons r rr =>
  cases rr
  obtain ⟨t,rfl⟩:=r
  exact call_range_1 (y6l I1 (by lia) (by lia) q1 q2 (by simpa using q))
theorem x2l {a b:Expr}{ta:TA}{p pos:Pos}(hg:Gl X "range") (hm:X.mg "range"=none) (ha:PA X [a,b] ta) (hs:starEach [a,b] X.env=[(false,eval a X.env),(false,eval b X.env)]:=by rfl) (hs2:starEach [b] X.env=[(false,eval b X.env)]:=by rfl) :
  PI X tg (.Call (.Name "range" p) [a,b] [] pos) (w8i ta):=by
 intro pins s σ H R I h
 refine Call_ (z9w I hg hm boot_range (PyProof.Rows.callWith_type1 (thn (ha pos pins s σ H _ I h) λ us s1 ⟨vs,H1,I1,r1,q1⟩=>?_) (by rw [hs,hs2]) (by rw [hs2];rfl)))
 obtain ⟨i,j,e,⟨q1,q2,q3,q4⟩,q⟩:=q1
 subst e
 cases r1 with
 | cons r rr =>
  cases rr with
  | cons r' rr =>
   cases rr
   obtain ⟨t,rfl⟩:=r
   obtain ⟨t',rfl⟩:=r'
   exact call_range_2 (y6l I1 q1 q2 q3 q4 q)
def y4g (wi:TI) (g:TG) (tb:TS):TS:=λ D σ H=>wi σ H λ J H1=>∃W:Nat->Nat->St->Hp->Prop,(∃m,W 0 m σ H1)/\∀i m σ H,W i m σ H ->
 (J.stop i H/\D.nx σ H)\/(J.go i H/\∃N:St->Hp->Prop,(∀σ' H',N σ' H'->∃m',m' < m/\W (i+1) m' σ' H')/\∀x H',J.yld i H x H'->g x σ H' λ σ2 H2=>tb { D with nx:=N,ct:=N,bk:=D.nx } σ2 H2)
def y7b (fp:List Addr) (h:Heap):List (Addr × Obj):=fp.filterMap λ b=>(h.get? b).map λ o=>(b,o)
theorem z3g {fp:List Addr}{h:Heap}{b:Addr}{o:Obj}(hb:b∈fp) (e:h.get? b=some o):(b,o)∈y7b fp h:=List.mem_filterMap.mpr ⟨b,hb,by rw [e];rfl⟩
theorem x3l {fp:List Addr}{h:Heap}{p:Addr × Obj}(hp:p∈y7b fp h):p.1∈fp/\h.get? p.1=some p.2:=by
 obtain ⟨b,hb,e⟩:=List.mem_filterMap.mp hp
 cases q:h.get? b with
 | none=>rw [q] at e;cases e
 | some o =>
  rw [q] at e
  have e':(b,o)=p:=Option.some.inj e
  subst e'
  exact ⟨hb,q⟩
theorem Inv.pinned {pins:List (Addr × Obj)}{σ:St}{H:Hp}{s:Shared}{fp:List Addr}(I:Inv X pins σ H s) (hf:∀b∈fp,w0a X pins H b) (ho:∀b∈fp,∃o,s.heap.get? b=some o/\∀v,o.data≠.cell v):Inv X (pins++y7b fp s.heap) σ H s :=
 I.pins_of λ p hp=>(List.mem_append.mp hp).elim (λ z=>I.pin p (List.mem_append_right _ z)) λ z=>by
  obtain ⟨hb,e⟩:=x3l z
  obtain ⟨f0,f1,f2,_⟩:=hf p.1 hb
  obtain ⟨o,e',d⟩:=ho p.1 hb
  rw [e] at e';cases e'
  exact ⟨e,f0,f1,f2,d⟩
theorem Inv.unpinned {pins pl:List (Addr × Obj)}{σ:St}{H:Hp}{s:Shared}(I:Inv X (pins++pl) σ H s):Inv X pins σ H s:=I.pins_of λ p hp=>I.pin p (List.mem_append_right _ (List.mem_append_left _ hp))
theorem z9r {iter:Expr}{body:List Stmt}{wi:TI}{g:TG}{tb:TS}{pos:Pos}(hp:PassesOwn (model X.prog X.w) X.A X.env X.xe) (hc:X.calm=true) (hi:PI X tg iter wi) (hg:PG X tg g) (hb:PSs X body tb)
  (hs:∀x,foldedSetIterable iter X.env x=pure x:=by intro _;rfl):PS X (.For tg iter body [] pos) (y4g wi g tb):=by
 intro pins s σ H D I h
 refine wpAny_For (thn (hi pins s σ H _ I h) λ v s1 h1=>thn h1 λ itv s2 h2=>?_) hs
 obtain ⟨it,fp,tn,J,H2,e,I2,T,st2,f2,W,⟨m0,w0⟩,turn⟩:=h2
 subst e
 have stat:∀ {H':Hp},(∀b∈fp,H' b=none)->∀b∈fp,w0a X pins H' b:=λ hn b hb=>⟨hn b hb,(f2 b hb).2⟩
 refine codeAny_forLoop_any (λ n s'=>∃i σ' H',Inv X pins σ' H' s'/\tn i s'.heap/\(∀b∈fp,H' b=none)/\W i n σ' H') ?_ m0 ⟨0,σ,H2,I2,st2,λ b hb=>(f2 b hb).1,w0⟩
 rintro n s3 ⟨i,σ3,H3,I3,st3,fr3,w3⟩
 rcases turn i n σ3 H3 w3 with ⟨stop,qn⟩ | ⟨go,N,hN,step⟩
 ·refine wpAny_passesOwn hp (thn (T.done X rfl rfl rfl hc i pins s3 σ3 H3 X.xe I3 (stat fr3) st3 stop) λ r s4 ⟨hr,I4⟩=>?_)
  subst hr
  exact wpAny_execs_nil ⟨σ3,H3,I4,qn⟩
 ·refine wpAny_passesOwn hp (thn (T.item X rfl rfl rfl hc i pins s3 σ3 H3 X.xe I3 (stat fr3) st3 go) λ r s4 ⟨u,hr,h4⟩=>?_)
  subst hr
  refine wpAny_passesOwn hp (thn h4 λ _ s5 ⟨x,H5,I5,r5,y5,st5,fr5⟩=>?_)
  have I5':=I5.pinned (stat fr5) (T.obj _ _ st5)
  refine wpAny_passesOwn hp (thn (hg _ s5 σ3 H5 x u _ I5' r5 (step x H5 y5)) λ _ s6 ⟨σ6,H6,I6,q6⟩=>?_)
  refine wpAny_passesOwn hp (thn (hb _ s6 σ6 H6 _ I6 q6) λ f s7 q7=>?_)
  have again:∀ {σ7:St}{H7:Hp},Inv X (pins++y7b fp s5.heap) σ7 H7 s7->N σ7 H7->∃m,m < n/\∃i σ' H',Inv X pins σ' H' s7/\tn i s7.heap/\(∀b∈fp,H' b=none)/\W i m σ' H':=λ {σ7 H7} I7 n7=>by
   obtain ⟨m',hm,w7⟩:=hN σ7 H7 n7
   refine ⟨m',hm,i+1,σ7,H7,I7.unpinned,T.keep _ _ _ st5 λ b hb o e=>(I7.pin (b,o) (List.mem_append_right _ (List.mem_append_right _ (z3g hb e)))).1,λ b hb=>?_,w7⟩
   obtain ⟨o,e,d⟩:=T.obj _ _ st5 b hb
   exact (I7.pin (b,o) (List.mem_append_right _ (List.mem_append_right _ (z3g hb e)))).2.1
  cases f with
  | next=>obtain ⟨σ7,H7,I7,n7⟩:=q7;exact again I7 n7
  | cont=>obtain ⟨σ7,H7,I7,n7⟩:=q7;exact again I7 n7
  | brk=>obtain ⟨σ7,H7,I7,q7⟩:=q7;exact ⟨σ7,H7,I7.unpinned,q7⟩
  | ret v=>obtain ⟨x7,σ7,H7,I7,r7,q7⟩:=q7;exact ⟨x7,σ7,H7,I7.unpinned,r7,q7⟩
end
theorem x8x {K:PySem.W.Frag}{a:Addr}{xs:List V}{g:TG}{tb:TS}{D:Ends}{σ:St}{H:Hp}(Pv:Nat->St->Hp->Prop) (h0:Pv 0 σ H) (hl:∀i σ H,i≤xs.length->Pv i σ H->SqL K H a xs)
  (hs:∀i x σ H,xs[i]?=some x->Pv i σ H->g x σ H λ σ2 H2=>tb { D with nx:=Pv (i+1),ct:=Pv (i+1),bk:=D.nx } σ2 H2) (hd:∀σ H,Pv xs.length σ H->D.nx σ H) :
  ∃W:Nat->Nat->St->Hp->Prop,(∃m,W 0 m σ H)/\∀i m σ H,W i m σ H ->
   ((Itl K a).stop i H/\D.nx σ H)\/((Itl K a).go i H/\∃N:St->Hp->Prop,(∀σ' H',N σ' H'->∃m',m' < m/\W (i+1) m' σ' H')/\∀x H',(Itl K a).yld i H x H'->g x σ H' λ σ2 H2=>tb { D with nx:=N,ct:=N,bk:=D.nx } σ2 H2):=by
 refine ⟨λ i m σ H=>m=xs.length - i/\i≤xs.length/\Pv i σ H,⟨xs.length,by simp,Nat.zero_le _,h0⟩,?_⟩
 rintro i m σ H ⟨rfl,hi,p⟩
 have q:=hl i σ H hi p
 by_cases hlt:i < xs.length
 ·refine .inr ⟨⟨xs,xs[i],q,by simp [hlt]⟩,Pv (i+1),λ σ' H' p'=>⟨xs.length - (i+1),by lia,rfl,hlt,p'⟩,λ x H' y=>?_⟩
  obtain ⟨e,y⟩:=y
  subst e
  exact hs i x σ _ (y xs q) p
 ·have e:i=xs.length:=by lia
  subst e
  exact .inl ⟨⟨xs,q,Nat.le_refl _⟩,hd σ H p⟩
theorem w3l {K:PySem.W.Frag}{a:Addr}{xs:List V}{g:TG}{tb:TS}{D:Ends}{σ:St}{H:Hp}(Pv:Nat->St->Hp->Prop) (h0:Pv 0 σ H) (hl:∀i σ H,i≤xs.length->Pv i σ H->SqT K H a xs)
  (hs:∀i x σ H,xs[i]?=some x->Pv i σ H->g x σ H λ σ2 H2=>tb { D with nx:=Pv (i+1),ct:=Pv (i+1),bk:=D.nx } σ2 H2) (hd:∀σ H,Pv xs.length σ H->D.nx σ H) :
  ∃W:Nat->Nat->St->Hp->Prop,(∃m,W 0 m σ H)/\∀i m σ H,W i m σ H ->
   ((Itt K a).stop i H/\D.nx σ H)\/((Itt K a).go i H/\∃N:St->Hp->Prop,(∀σ' H',N σ' H'->∃m',m' < m/\W (i+1) m' σ' H')/\∀x H',(Itt K a).yld i H x H'->g x σ H' λ σ2 H2=>tb { D with nx:=N,ct:=N,bk:=D.nx } σ2 H2):=by
 refine ⟨λ i m σ H=>m=xs.length - i/\i≤xs.length/\Pv i σ H,⟨xs.length,by simp,Nat.zero_le _,h0⟩,?_⟩
 rintro i m σ H ⟨rfl,hi,p⟩
 have q:=hl i σ H hi p
 by_cases hlt:i < xs.length
 ·refine .inr ⟨⟨xs,xs[i],q,by simp [hlt]⟩,Pv (i+1),λ σ' H' p'=>⟨xs.length - (i+1),by lia,rfl,hlt,p'⟩,λ x H' y=>?_⟩
  obtain ⟨e,y⟩:=y
  subst e
  exact hs i x σ _ (y xs q) p
 ·have e:i=xs.length:=by lia
  subst e
  exact .inl ⟨⟨xs,q,Nat.le_refl _⟩,hd σ H p⟩
theorem x4s {lo:Int}{n:Nat}{g:TG}{tb:TS}{D:Ends}{σ:St}{H:Hp}(Pv:Nat->St->Hp->Prop) (h0:Pv 0 σ H)
  (hs:∀i σ H,i < n->Pv i σ H->g (.int (lo+i)) σ H λ σ2 H2=>tb { D with nx:=Pv (i+1),ct:=Pv (i+1),bk:=D.nx } σ2 H2) (hd:∀σ H,Pv n σ H->D.nx σ H) :
  ∃W:Nat->Nat->St->Hp->Prop,(∃m,W 0 m σ H)/\∀i m σ H,W i m σ H ->
   ((Itr lo n).stop i H/\D.nx σ H)\/((Itr lo n).go i H/\∃N:St->Hp->Prop,(∀σ' H',N σ' H'->∃m',m' < m/\W (i+1) m' σ' H')/\∀x H',(Itr lo n).yld i H x H'->g x σ H' λ σ2 H2=>tb { D with nx:=N,ct:=N,bk:=D.nx } σ2 H2):=by
 refine ⟨λ i m σ H=>m=n - i/\i≤n/\Pv i σ H,⟨n,by simp,Nat.zero_le _,h0⟩,?_⟩
 rintro i m σ H ⟨rfl,hi,p⟩
 by_cases hlt:i < n
 ·refine .inr ⟨hlt,Pv (i+1),λ σ' H' p'=>⟨n - (i+1),by lia,rfl,hlt,p'⟩,λ x H' y=>?_⟩
  obtain ⟨e,y⟩:=y
  subst e y
  exact hs i σ _ hlt p
 ·have e:i=n:=by lia
  subst e
  exact .inl ⟨Nat.le_refl _,hd σ H p⟩
abbrev R2:=V->V->Hp->VK->Prop
def OpR (X:Cx) (f:Value->Value->Sem Value) (r:R2):Prop :=
 ∀(pins:List (Addr × Obj)) (s:Shared) (σ:St) (H:Hp) (x y:V) (v u:Value) (Q:VK),Inv X pins σ H s->RelV x v->RelV y u->r x y H Q ->
  wpAny (model X.prog X.w) X.A (f v u) (EP X pins σ Q) X.xe s
def UnR (X:Cx) (f:Value->Sem Value) (r:V->Hp->VK->Prop):Prop :=
 ∀(pins:List (Addr × Obj)) (s:Shared) (σ:St) (H:Hp) (x:V) (v:Value) (Q:VK),Inv X pins σ H s->RelV x v->r x H Q ->
  wpAny (model X.prog X.w) X.A (f v) (EP X pins σ Q) X.xe s
def z4l (X:Cx) (f:Value) (r:List V->Hp->VK->Prop):Prop :=
 ∀(pins:List (Addr × Obj)) (s:Shared) (σ:St) (H:Hp) (xs:List V) (us:List Value) (Q:VK),Inv X pins σ H s->Vals xs us->r xs H Q ->
  wpAny (model X.prog X.w) X.A (call f us) (EP X pins σ Q) X.xe s
def tOp (r:R2) (ta tb:TE):TE:=λ σ H Q=>ta σ H λ x H1=>tb σ H1 λ y H2=>r x y H2 Q
def tUn (r:V->Hp->VK->Prop) (ta:TE):TE:=λ σ H Q=>ta σ H λ x H1=>r x H1 Q
def rI (C:Int->Int->Prop) (g:Int->Int->V):R2:=λ x y H Q=>∃i j,x=.int i/\y=.int j/\C i j/\Q (g i j) H
def rI0 (g:Int->Int->V):R2:=λ x y H Q=>∃i j,x=.int i/\y=.int j/\Q (g i j) H
def rU (g:Int->V):V->Hp->VK->Prop:=λ x H Q=>∃i,x=.int i/\Q (g i) H
section
variable {X:Cx}{a b c:Expr}{ta tb tc:TE}{pos:Pos}
theorem w9o (ha:PE X a ta) (hb:PE X b tb) {pins:List (Addr × Obj)}{s:Shared}{σ:St}{H:Hp}{R:V->V->Hp->Prop}(I:Inv X pins σ H s)
  (h:ta σ H λ x H1=>tb σ H1 λ y H2=>R x y H2) {Q:Value->Shared->Prop}{f:Value->Value->Sem Value}
  (hf:∀v u s2 x y H2,Inv X pins σ H2 s2->RelV x v->RelV y u->R x y H2->wpAny (model X.prog X.w) X.A (f v u) Q X.xe s2) :
  wpAny (model X.prog X.w) X.A (eval a X.env) (λ v s₁=>wpAny (model X.prog X.w) X.A (eval b X.env) (λ u s₂=>wpAny (model X.prog X.w) X.A (f v u) Q X.xe s₂) X.xe s₁) X.xe s:=by
 refine thn (ha pins s σ H _ I h) λ v s1 ⟨x,H1,I1,r1,q1⟩=>?_
 refine thn (hb pins s1 σ H1 _ I1 q1) λ u s2 ⟨y,H2,I2,r2,q2⟩=>?_
 exact hf v u s2 x y H2 I2 r1 r2 q2
theorem z0l {op:Operator}{r:R2}(ho:OpR X (binaryOp op) r) (ha:PE X a ta) (hb:PE X b tb):PE X (.BinOp a op b pos) (tOp r ta tb):=by
 intro pins s σ H Q I h
 exact wpAny_BinOp (w9o ha hb I h λ v u s2 x y H2 I2 rx ry q=>ho pins s2 σ H2 x y v u Q I2 rx ry q)
theorem y9f {op:UnaryOp}{r:V->Hp->VK->Prop}(ho:UnR X (unaryOp op) r) (ha:PE X a ta):PE X (.UnaryOp op a pos) (tUn r ta):=by
 intro pins s σ H Q I h
 exact UnaryOp_ (thn (ha pins s σ H _ I h) λ v s1 ⟨x,H1,I1,r1,q1⟩=>ho pins s1 σ H1 x v Q I1 r1 q1)
theorem opI {f:Value->Value->Sem Value}{C:Int->Int->Prop}{g:Int->Int->Int}
  (rule:∀(i j:Int) (t u:Tok) (s:Shared) (Q:Value->Shared->Prop) (E:Value->Shared->Prop),C i j->Q (.int (g i j) s.toks) { s with toks:=s.toks+1 }->wpAny (model X.prog X.w) X.A (f (.int i t) (.int j u)) Q E s) :
  OpR X f (rI C λ i j=>.int (g i j)):=by
 intro pins s σ H x y v u Q I rx ry h
 obtain ⟨i,j,rfl,rfl,hc,q⟩:=h
 obtain ⟨t,rfl⟩:=rx
 obtain ⟨t',rfl⟩:=ry
 exact rule i j t t' s _ _ hc ⟨.int (g i j),H,I.tok _,⟨_,rfl⟩,q⟩
theorem v2o {f:Value->Value->Sem Value}{g:Int->Int->Int}
  (rule:∀(i j:Int) (t u:Tok) (s:Shared) (Q:Value->Shared->Prop) (E:Value->Shared->Prop),Q (.int (g i j) s.toks) { s with toks:=s.toks+1 }->wpAny (model X.prog X.w) X.A (f (.int i t) (.int j u)) Q E s) :
  OpR X f (rI0 λ i j=>.int (g i j)):=by
 intro pins s σ H x y v u Q I rx ry h
 obtain ⟨i,j,rfl,rfl,q⟩:=h
 obtain ⟨t,rfl⟩:=rx
 obtain ⟨t',rfl⟩:=ry
 exact rule i j t t' s _ _ ⟨.int (g i j),H,I.tok _,⟨_,rfl⟩,q⟩
theorem v0r {f:Value->Value->Sem Value}{g:Int->Int->Bool}
  (rule:∀(i j:Int) (t u:Tok) (s:Shared) (Q:Value->Shared->Prop) (E:Value->Shared->Prop),Q (.bool (g i j)) s->wpAny (model X.prog X.w) X.A (f (.int i t) (.int j u)) Q E s) :
  OpR X f (rI0 λ i j=>.bl (g i j)):=by
 intro pins s σ H x y v u Q I rx ry h
 obtain ⟨i,j,rfl,rfl,q⟩:=h
 obtain ⟨t,rfl⟩:=rx
 obtain ⟨t',rfl⟩:=ry
 exact rule i j t t' s _ _ ⟨.bl (g i j),H,I,rfl,q⟩
def v3e (i j:Int):Prop:=0 < j/\j < 1073741824
def v1t (i j:Int):Prop:=j≠0/\j.natAbs < 1073741824
def v3d (i j:Int):Prop:=0≤j/\j≤1000000/\i.natAbs < 2 ^ 64
def CMul (i j:Int):Prop:=(-(2 ^ 64) < i/\i < 2 ^ 64)\/(-(2 ^ 64) < j/\j < 2 ^ 64)
theorem CMul.ok {i j:Int}(h:CMul i j):IntMulOk i j:=by
 rcases h with ⟨h1,h2⟩ | ⟨h1,h2⟩
 ·exact .of_left (intBits_le_64 h1 h2)
 ·exact .of_right (intBits_le_64 h1 h2)
theorem z2h:OpR X (binaryOp .Add) (rI0 λ i j=>.int (i+j)):=v2o λ _ _ _ _ _ _ _ q=>add_int q
theorem z7c:OpR X (binaryOp .Sub) (rI0 λ i j=>.int (i - j)):=v2o λ _ _ _ _ _ _ _ q=>sub_int q
theorem z8p:OpR X (binaryOp .Mult) (rI CMul λ i j=>.int (i * j)):=opI λ _ _ _ _ _ _ _ hc q=>mul_int q hc.ok
theorem y5g:OpR X (binaryOp .FloorDiv) (rI v3e λ i j=>.int (i / j)):=opI λ i j _ _ _ _ _ hc q=>by
 have h1:(0:Int) < j:=hc.1
 have h2:j < 1073741824:=hc.2
 exact floordiv_int (by lia) (by rw [Int.fdiv_eq_ediv_of_nonneg i (by lia)];exact q) (.inl (PyProof.noPylong_small (by lia)))
theorem z4e:OpR X (binaryOp .Mod) (rI (λ _ j=>0 < j) λ i j=>.int (i % j)):=opI λ i j _ _ _ _ _ hc q=>by
 have h1:(0:Int) < j:=hc
 exact mod_int' (by lia) (by rw [Int.fmod_eq_emod_of_nonneg i (by lia)];exact q)
theorem y7h:OpR X (binaryOp .Pow) (rI v3d λ i j=>.int (i ^ j.toNat)):=opI λ _ _ _ _ _ _ _ hc q=>pow_int_small hc.1 hc.2.1 hc.2.2 q
theorem unI {f:Value->Sem Value}{g:Int->Int}
  (rule:∀(i:Int) (t:Tok) (s:Shared) (Q:Value->Shared->Prop) (E:Value->Shared->Prop),Q (.int (g i) s.toks) { s with toks:=s.toks+1 }->wpAny (model X.prog X.w) X.A (f (.int i t)) Q E s) :
  UnR X f (rU λ i=>.int (g i)):=by
 intro pins s σ H x v Q I rx h
 obtain ⟨i,rfl,q⟩:=h
 obtain ⟨t,rfl⟩:=rx
 exact rule i t s _ _ ⟨.int (g i),H,I.tok _,⟨_,rfl⟩,q⟩
theorem z9m:UnR X (unaryOp .USub) (rU λ i=>.int (-i)):=unI λ _ _ _ _ _ q=>neg_int q
end
def v0g:V->V->Bool
 | .non,.non=>true | .non,.int _=>true | .int _,.non=>true | .non,.bl _=>true | .bl _,.non=>true | .non,.str _=>true | .str _,.non=>true
 | .int _,.int _=>true | .bl _,.bl _=>true | .str _,.str _=>true | .byt _,.byt _=>true
 | .int _,.str _=>true | .str _,.int _=>true | .bl _,.str _=>true | .str _,.bl _=>true
 | _,_=>false
def rEq:R2:=λ x y H Q=>v0g x y=true/\Q (.bl (decide (x=y))) H
def rNe:R2:=λ x y H Q=>v0g x y=true/\Q (.bl (!decide (x=y))) H
theorem x5d {i j:Int}:decide (V.int i=V.int j)=(i == j):=by
 rw [Bool.eq_iff_iff]
 simp
theorem w0y {i j:Bool}:decide (V.bl i=V.bl j)=(i == j):=by
 rw [Bool.eq_iff_iff]
 simp
theorem x5c {i j:Str}:decide (V.str i=V.str j)=(i == j):=by
 rw [Bool.eq_iff_iff]
 simp
theorem x5e {i j:Array UInt8}:decide (V.byt i=V.byt j)=(i.toList == j.toList):=by
 rw [Bool.eq_iff_iff]
 cases i
 cases j
 simp
section
variable {X:Cx}{a b c:Expr}{ta tb tc:TE}{pos:Pos}
theorem z1o {pins:List (Addr × Obj)}{σ:St}{H:Hp}{s:Shared}{Q:VK}{k k':Bool}(I:Inv X pins σ H s) (q:Q (.bl k) H) (e:k=k'):EP X pins σ Q (.bool k') s:=by
 subst e
 exact ⟨.bl k,H,I,rfl,q⟩
theorem z1w:OpR X (compareOp .Eq) rEq:=by
 intro pins s σ H x y v u Q I rx ry h
 obtain ⟨hs,q⟩:=h
 cases x with
 | non =>
  cases rx
  cases y with
  | non=>cases ry;exact PySem.EqNone.eq_none_none (z1o I q (by simp))
  | bl j=>cases ry;exact PySem.EqNone.eq_none_bool (z1o I q (by simp))
  | int j=>obtain ⟨t',rfl⟩:=ry;exact PySem.EqNone.eq_none_int (z1o I q (by simp))
  | str j=>obtain ⟨t',rfl⟩:=ry;exact PySem.EqNone.eq_none_str (z1o I q (by simp))
  | _=>exact absurd (show false=true from hs) Bool.false_ne_true
 | bl i =>
  cases rx
  cases y with
  | non=>cases ry;exact PySem.EqNone.eq_bool_none (z1o I q (by simp))
  | bl j=>cases ry;exact eq_bool (z1o I q w0y)
  | str j=>obtain ⟨t',rfl⟩:=ry;exact PySem.EqMixed.eq_bool_str (z1o I q (by simp))
  | _=>exact absurd (show false=true from hs) Bool.false_ne_true
 | int i =>
  obtain ⟨t,rfl⟩:=rx
  cases y with
  | non=>cases ry;exact PySem.EqNone.eq_int_none (z1o I q (by simp))
  | int j=>obtain ⟨t',rfl⟩:=ry;exact eq_int (z1o I q x5d)
  | str j=>obtain ⟨t',rfl⟩:=ry;exact PySem.EqMixed.eq_int_str (z1o I q (by simp))
  | _=>exact absurd (show false=true from hs) Bool.false_ne_true
 | str i =>
  obtain ⟨t,rfl⟩:=rx
  cases y with
  | non=>cases ry;exact PySem.EqNone.eq_str_none (z1o I q (by simp))
  | bl j=>cases ry;exact PySem.EqMixed.eq_str_bool (z1o I q (by simp))
  | int j=>obtain ⟨t',rfl⟩:=ry;exact PySem.EqMixed.eq_str_int (z1o I q (by simp))
  | str j=>obtain ⟨t',rfl⟩:=ry;exact eq_str (z1o I q x5c)
  | _=>exact absurd (show false=true from hs) Bool.false_ne_true
 | byt i =>
  obtain ⟨t,rfl⟩:=rx
  cases y with
  | byt j=>obtain ⟨t',rfl⟩:=ry;exact W.eq_bytes (z1o I q x5e)
  | _=>exact absurd (show false=true from hs) Bool.false_ne_true
 | _=>cases y<;>exact absurd (show false=true from hs) Bool.false_ne_true
theorem w2v:OpR X (compareOp .NotEq) rNe:=by
 intro pins s σ H x y v u Q I rx ry h
 obtain ⟨hs,q⟩:=h
 cases x with
 | non =>
  cases rx
  cases y with
  | non=>cases ry;exact PySem.EqNone.ne_none_none (z1o I q (by simp))
  | bl j=>cases ry;exact PySem.EqNone.ne_none_bool (z1o I q (by simp))
  | int j=>obtain ⟨t',rfl⟩:=ry;exact PySem.EqNone.ne_none_int (z1o I q (by simp))
  | str j=>obtain ⟨t',rfl⟩:=ry;exact PySem.EqNone.ne_none_str (z1o I q (by simp))
  | _=>exact absurd (show false=true from hs) Bool.false_ne_true
 | bl i =>
  cases rx
  cases y with
  | non=>cases ry;exact PySem.EqNone.ne_bool_none (z1o I q (by simp))
  | bl j=>cases ry;exact ne_bool (z1o I q (congrArg not w0y))
  | str j=>obtain ⟨t',rfl⟩:=ry;exact PySem.EqMixed.ne_bool_str (z1o I q (by simp))
  | _=>exact absurd (show false=true from hs) Bool.false_ne_true
 | int i =>
  obtain ⟨t,rfl⟩:=rx
  cases y with
  | non=>cases ry;exact PySem.EqNone.ne_int_none (z1o I q (by simp))
  | int j=>obtain ⟨t',rfl⟩:=ry;exact ne_int (z1o I q (congrArg not x5d))
  | str j=>obtain ⟨t',rfl⟩:=ry;exact PySem.EqMixed.ne_int_str (z1o I q (by simp))
  | _=>exact absurd (show false=true from hs) Bool.false_ne_true
 | str i =>
  obtain ⟨t,rfl⟩:=rx
  cases y with
  | non=>cases ry;exact PySem.EqNone.ne_str_none (z1o I q (by simp))
  | bl j=>cases ry;exact PySem.EqMixed.ne_str_bool (z1o I q (by simp))
  | int j=>obtain ⟨t',rfl⟩:=ry;exact PySem.EqMixed.ne_str_int (z1o I q (by simp))
  | str j=>obtain ⟨t',rfl⟩:=ry;exact ne_str (z1o I q (congrArg not x5c))
  | _=>exact absurd (show false=true from hs) Bool.false_ne_true
 | byt i =>
  obtain ⟨t,rfl⟩:=rx
  cases y with
  | byt j=>obtain ⟨t',rfl⟩:=ry;exact W.ne_bytes (z1o I q (congrArg not x5e))
  | _=>exact absurd (show false=true from hs) Bool.false_ne_true
 | _=>cases y<;>exact absurd (show false=true from hs) Bool.false_ne_true
theorem x2u:OpR X (compareOp .Lt) (rI0 λ i j=>.bl (decide (i < j))):=v0r λ _ _ _ _ _ _ _ q=>lt_int q
theorem y9g:OpR X (compareOp .LtE) (rI0 λ i j=>.bl (decide (i≤j))):=v0r λ _ _ _ _ _ _ _ q=>le_int q
theorem y3d:OpR X (compareOp .Gt) (rI0 λ i j=>.bl (decide (j < i))):=v0r λ _ _ _ _ _ _ _ q=>gt_int q
theorem x2v:OpR X (compareOp .In) (λ x y H Q=>∃i j,x=.str i/\y=.str j/\Q (.bl (!(Builtin.Str.occurrences j i 0 j.length 1).isEmpty)) H):=by
 intro pins s σ H x y v u Q I rx ry h
 obtain ⟨i,j,rfl,rfl,q⟩:=h
 obtain ⟨t,rfl⟩:=rx
 obtain ⟨t',rfl⟩:=ry
 exact in_str (z1o I q rfl)
theorem y7i:OpR X (compareOp .Is) (λ x y H Q=>y=.non/\Q (.bl (decide (x=.non))) H):=by
 intro pins s σ H x y v u Q I rx ry h
 obtain ⟨rfl,q⟩:=h
 cases ry
 refine is_none_gen (z1o I q ?_)
 cases x<;>first
  | (cases rx;rfl)
  | (obtain ⟨t,rfl⟩:=rx;rfl)
theorem z0v (b:Expr) {op:CmpOp}(h:op≠.In:=by decide) (h2:op≠.NotIn:=by decide):behindInMarks op b=false:=by
 have e1:(op == CmpOp.In)=false:=by cases op<;>first | rfl | exact absurd rfl h
 have e2:(op == CmpOp.NotIn)=false:=by cases op<;>first | rfl | exact absurd rfl h2
 cases b<;>simp [behindInMarks,e1,e2]
theorem x2n {op:CmpOp}{r:R2}(ho:OpR X (compareOp op) r) (ha:PE X a ta) (hb:PE X b tb) (hm:behindInMarks op b=false):PE X (.Compare a [op] [b] pos) (tOp r ta tb):=by
 intro pins s σ H Q I h
 exact wpAny_Compare1 (w9o ha hb I h λ v u s2 x y H2 I2 rx ry q=>ho pins s2 σ H2 x y v u Q I2 rx ry q) hm
def w1l (t:TE):TT:=λ σ H Q=>t σ H λ x H'=>∃k,x=.bl k/\Q k H'
theorem z0n {op:CmpOp}{r:R2}(ho:OpR X (compareOp op) r) (ha:PE X a ta) (hb:PE X b tb) (hm:behindInMarks op b=false):PT X (.Compare a [op] [b] pos) (w1l (tOp r ta tb)):=by
 intro pins s σ H Q I h
 refine wpAny_isTrue_Compare1 (thn (ha pins s σ H _ I h) λ v s1 ⟨x,H1,I1,r1,q1⟩=>thn (hb pins s1 σ H1 _ I1 q1) λ u s2 ⟨y,H2,I2,r2,q2⟩ =>
  thn (ho pins s2 σ H2 x y v u _ I2 r1 r2 q2) λ c s3 ⟨z,H3,I3,r3,k,e,q3⟩=>?_) hm
 subst e
 cases r3
 exact wpAny_truthy_bool ⟨H3,I3,q3⟩
def x0s (r r':R2) (ta tb tc:TE):TE:=λ σ H Q=>ta σ H λ x H1=>tb σ H1 λ y H2=>r x y H2 λ z H3=>∃k,z=.bl k /\
 (if k=true then tc σ H3 λ w' H4=>r' y w' H4 Q else Q (.bl false) H3)
theorem x7o {op op':CmpOp}{r r':R2}(ho:OpR X (compareOp op) r) (ho':OpR X (compareOp op') r') (ha:PE X a ta) (hb:PE X b tb) (hc:PE X c tc)
  (hm:lastMarks [op,op'] [b,c]=false:=by with_unfolding_all rfl):PE X (.Compare a [op,op'] [b,c] pos) (x0s r r' ta tb tc):=by
 intro pins s σ H Q I h
 refine Compare_chain (thn (ha pins s σ H _ I h) λ v s1 ⟨x,H1,I1,r1,q1⟩=>chain_link (thn (hb pins s1 σ H1 _ I1 q1) λ u s2 ⟨y,H2,I2,r2,q2⟩ =>
  thn (ho pins s2 σ H2 x y v u _ I2 r1 r2 q2) λ d s3 ⟨z,H3,I3,r3,k,e,q3⟩=>?_)) hm
 subst e
 cases r3
 refine wpAny_truthy_bool ?_
 cases k with
 | false=>exact ite_ff ⟨.bl false,H3,I3,rfl,q3⟩
 | true=>exact ite_tt (chain_last (thn (hc pins s3 σ H3 _ I3 q3) λ w' s4 ⟨z',H4,I4,r4,q4⟩=>ho' pins s4 σ H4 y z' u w' Q I4 r2 r4 q4))
theorem y6o {op op':CmpOp}{r r':R2}(ho:OpR X (compareOp op) r) (ho':OpR X (compareOp op') r') (ha:PE X a ta) (hb:PE X b tb) (hc:PE X c tc)
  (hm:lastMarks [op,op'] [b,c]=false:=by with_unfolding_all rfl):PT X (.Compare a [op,op'] [b,c] pos) (w1l (x0s r r' ta tb tc)):=by
 intro pins s σ H Q I h
 refine isTrue_chain (thn (ha pins s σ H _ I h) λ v s1 ⟨x,H1,I1,r1,q1⟩=>test_link (thn (hb pins s1 σ H1 _ I1 q1) λ u s2 ⟨y,H2,I2,r2,q2⟩ =>
  thn (ho pins s2 σ H2 x y v u _ I2 r1 r2 q2) λ d s3 ⟨z,H3,I3,r3,k,e,q3⟩=>?_)) hm
 subst e
 cases r3
 refine wpAny_truthy_bool ?_
 cases k with
 | false =>
  obtain ⟨k',e',q'⟩:=q3
  cases e'
  exact ite_ff ⟨H3,I3,q'⟩
 | true =>
  refine ite_tt (test_last (thn (hc pins s3 σ H3 _ I3 q3) λ w' s4 ⟨z',H4,I4,r4,q4⟩=>thn (ho' pins s4 σ H4 y z' u w' _ I4 r2 r4 q4) λ d' s5 ⟨z2,H5,I5,r5,k2,e2,q5⟩=>?_))
  subst e2
  cases r5
  exact wpAny_truthy_bool ⟨H5,I5,q5⟩
theorem y3j:(sizeLine:Nat) < 2 ^ 63:=by rw [sizeLine_eq];decide
theorem z0c:OpR X (binaryOp .Add) (λ x y H Q=>∃i j,x=.str i/\y=.str j/\i.length+j.length≤sizeLine/\Q (.str (i++j)) H):=by
 intro pins s σ H x y v u Q I rx ry h
 obtain ⟨i,j,rfl,rfl,hz,q⟩:=h
 obtain ⟨t,rfl⟩:=rx
 obtain ⟨t',rfl⟩:=ry
 exact add_str (λ t' tk=>⟨.str (i++j),H,I.tok _,⟨_,rfl⟩,q⟩) hz
def x9z (b:Expr):Prop:=∀o i,subscripted b false o i=operate [o,i] (getItem o i)
theorem z2b (ha:PE X a ta) (hb:PE X b tb) (hs:x9z b) :
  PE X (.Subscript a b pos) (tOp (λ x y H Q=>∃z i c,x=.str z/\y=.int i/\0≤i/\i < 2 ^ 63/\i < z.length/\z.cps[i.toNat]?=some c/\Q (.str ⟨#[c]⟩) H) ta tb):=by
 intro pins s σ H Q I h
 refine Subscript_ (w9o ha hb I h λ v u s2 x y H2 I2 rx ry q=>?_)
 obtain ⟨z,i,c,rfl,rfl,h0,h63,h1,hc,q⟩:=q
 obtain ⟨t,rfl⟩:=rx
 obtain ⟨t',rfl⟩:=ry
 have e:seqIndex? i z.length=some i.toNat:=PySem.StrLaws.seqIndex_nonneg h0 h1
 exact tail_any (typeIs_str s2 z t) slot_str_getitem.lookup (getItem_str (c:=c) (by
  have e1:decide (i < -(2 ^ 63:Int))=false:=decide_eq_false (by lia)
  have e2:decide (i ≥ 2 ^ 63)=false:=decide_eq_false (by lia)
  rw [e1,e2]<;>rfl) (by rw [e];exact hc) ⟨.str ⟨#[c]⟩,H2,I2.tok _,⟨_,rfl⟩,q⟩) (hs _ _)
theorem z5r {x:V}{us:List Value}(r:Vals [x] us):∃u,us=[u]/\RelV x u:=by
 cases r with
 | cons r1 r2=>cases r2;exact ⟨_,rfl,r1⟩
theorem y8m {x y:V}{us:List Value}(r:Vals [x,y] us):∃u w',us=[u,w']/\RelV x u/\RelV y w':=by
 cases r with
 | cons r1 r2 =>
  cases r2 with
  | cons r3 r4=>cases r4;exact ⟨_,_,rfl,r1,r3⟩
theorem y3w (hc:X.calm=true):z4l X (.builtin "max") (λ xs H Q=>∃i j,xs=[.int i,.int j]/\Q (.int (if j > i then j else i)) H):=by
 intro pins s σ H xs us Q I r h
 obtain ⟨i,j,rfl,q⟩:=h
 obtain ⟨u,w',rfl,⟨t,rfl⟩,⟨t',rfl⟩⟩:=y8m r
 refine max_two_ints (I.ok.hd hc) λ h' tk k=>⟨_,H,I.kept k,?_,q⟩
 by_cases hj:j > i
 ·rw [if_pos hj,if_pos hj];exact ⟨_,rfl⟩
 ·rw [if_neg hj,if_neg hj];exact ⟨_,rfl⟩
theorem x5w (hc:X.calm=true):z4l X (.builtin "min") (λ xs H Q=>∃i j,xs=[.int i,.int j]/\Q (.int (if j < i then j else i)) H):=by
 intro pins s σ H xs us Q I r h
 obtain ⟨i,j,rfl,q⟩:=h
 obtain ⟨u,w',rfl,⟨t,rfl⟩,⟨t',rfl⟩⟩:=y8m r
 refine min_two_ints (I.ok.hd hc) λ h' tk k=>⟨_,H,I.kept k,?_,q⟩
 by_cases hj:j < i
 ·rw [if_pos hj,if_pos hj];exact ⟨_,rfl⟩
 ·rw [if_neg hj,if_neg hj];exact ⟨_,rfl⟩
end
structure ObjM (h:Heap) (x dx C:Addr) (mA:Str->Option Value):Prop where
 obj:h.get? x=some (W.instObj C dx)
 ns:h.Ns1 dx mA
 ne:dx≠x
theorem y3h {h:Heap}{dx:Addr}{mA:Str->Option Value}(n:h.Ns1 dx mA):∃od,h.get? dx=some od/\∀name,W.lookIn name od=some (mA name):=by
 obtain ⟨o,es,ep,ho,hd,hk,_,hm⟩:=n
 refine ⟨o,ho,λ name=>?_⟩
 have e:=hm name
 unfold nsFind findBy at e
 rw [← Array.find?_toList] at e
 unfold W.lookIn
 rw [hd]
 dsimp only
 split
 ·rename_i y q
  rw [q] at e
  exact congrArg some e
 ·rename_i q
  rw [q] at e
  have a:es.toList.any (·.refKey)=false:=by
   rw [List.any_eq_false]
   intro y hy
   obtain ⟨z,t,hkey⟩:=hk y (Array.mem_toList_iff.mp hy)
   simp [DictEntry.refKey,hkey]
  have a':¬es.toList.any (·.refKey)=true:=by rw [a];exact Bool.false_ne_true
  rw [if_neg a']
  exact congrArg some e
theorem ObjM.look {h:Heap}{x dx C:Addr}{mA:Str->Option Value}(I:ObjM h x dx C mA):∃od,W.InstAt h x (W.instObj C dx) C (some od)/\∀name,W.lookIn name od=some (mA name) :=
 let ⟨od,ho,hl⟩:=y3h I.ns
 ⟨od,⟨I.obj,rfl,rfl,ho⟩,hl⟩
section
variable {prog:Program}{w:World}{A:Around}{E:Value->Shared->Prop}{s:Shared}{K:W.Frag}{x dx C f:Addr}{mA:Str->Option Value}{name:Str}{v:Value}
end
def v0n (f:Str) (v:V):List (Str × V)->List (Str × V)
 | []=>[(f,v)]
 | (g,x)::r=>if g=f then (g,v)::r else (g,x)::v0n f v r
theorem RelO.some_of {v:V}{o:Option Value}(r:RelO (some v) o):∃u,o=some u/\RelV v u:=by
 cases o with
 | none=>exact (show False from r).elim
 | some u=>exact ⟨u,rfl,r⟩
theorem x4l {v:V}{u:Value}(r:RelV v u):W.handedIn u=true:=by
 cases v with
 | non=>cases (show u=Value.none from r);rfl
 | bl b=>cases (show u=Value.bool b from r);rfl
 | int i=>obtain ⟨t,e⟩:=(show ∃t,u=Value.int i t from r);cases e;rfl
 | str x=>obtain ⟨t,e⟩:=(show ∃t,u=Value.str x t from r);cases e;rfl
 | byt b=>obtain ⟨t,e⟩:=(show ∃t,u=Value.bytes b t from r);cases e;rfl
 | flt b=>obtain ⟨t,e⟩:=(show ∃t,u=Value.float b t from r);cases e;rfl
 | ref a=>cases (show u=Value.ref a from r);rfl
 | ty n=>cases (show u=Value.type n from r);rfl
section
variable {P:Program}{w:World}{H H':Hp}{h h':Heap}{a C dx:Addr}{fs fs':List (Str × V)}
theorem w3i (hok:HOk P w H h) (e:H a=some (.ins C dx fs)):∃mA,ObjM h a dx C mA/\(∀f,RelO (fs.lookup f) (mA f))/\PySem.Within mA (fs.map (·.1))/\fs.length≤1000/\H dx=some (.own a):=by
 obtain ⟨d,z,ne,ob,mA,n,r,q⟩:=(show ObjOk P w H h a (.ins C dx fs) from hok a _ e)
 exact ⟨mA,⟨ob,n,ne⟩,r,q,z,d⟩
end
structure Cls (K:W.Frag) (C:Addr):Prop where
 pg:W.plainGet K C Str.empty=true
 hd:W.hasDictIn K C=true
 po:W.plainOver K C=true
 sa:W.findIn K (.ref C) "__setattr__"=some (some (.builtin "object.__setattr__"))
theorem Cls.get {K:W.Frag}{C:Addr}(c:Cls K C) (f:Str):W.plainGet K C f=true:=c.pg
def NoAttr (K:W.Frag) (C:Addr) (f:Str):Prop:=W.findIn K (.ref C) f=some none
theorem NoAttr.taker {K:W.Frag}{C:Addr}{f:Str}(n:NoAttr K C f):W.takerIn K C f=some none:=by
 unfold W.takerIn
 rw [show W.findIn K (.ref C) f=some none from n]
 rfl
structure Con (K:W.Frag) (C:Addr) (f:Str) (v:V) (u:Value):Prop where
 at_:W.findIn K (.ref C) f=some (some u)
 rel:RelV v u
 get:W.specialIn K u "__get__"=some none
 cp:W.copiedNames.contains f=false
structure Meth (K:W.Frag) (C:Addr) (m:Str) (f:Addr):Prop where
 at_:W.findIn K (.ref C) m=some (some (.ref f))
 fn:W.isFn K (.ref f)=true
 kp:W.keepIn K (.ref f)=true
section
variable {X:Cx}{pins:List (Addr × Obj)}{σ:St}{H:Hp}{s:Shared}{a C dx:Addr}{fs:List (Str × V)}{f:Str}{v:V}{A:Around}{E:Value->Shared->Prop}
theorem Inv.made (I:Inv X pins σ H s):Inv X pins σ (upd (upd H s.heap.objs.size (.own (s.heap.objs.size+1))) (s.heap.objs.size+1) (.ins C s.heap.objs.size []))
  { s with heap:=(s.heap.push W.emptyDict).push (W.instObj C s.heap.objs.size) }:=by
 have e1:(s.heap.push W.emptyDict).get? s.heap.objs.size=some W.emptyDict:=Heap.get?_push_size s.heap rfl
 have e2:((s.heap.push W.emptyDict).push (W.instObj C s.heap.objs.size)).get? (s.heap.objs.size+1)=some (W.instObj C s.heap.objs.size):=by
  have:=Heap.get?_push_size (s.heap.push W.emptyDict) (o:=W.instObj C s.heap.objs.size) rfl
  rwa [Heap.size_push] at this
 have e3:(s.heap.push W.emptyDict).Ns s.heap.objs.size (λ _=>none):=⟨W.emptyDict,#[],_,e1,rfl,(λ e he=>absurd he (by simp)),λ _=>rfl⟩
 have I1:=I.laid (a:=s.heap.objs.size) (o:=.own (s.heap.objs.size+1)) (h':=s.heap.push W.emptyDict) (t':=s.toks) (λ b u q=>Heap.get?_push_of_some _ q) (Nat.le_refl _) ⟨_,e1⟩
 refine I1.laid (a:=s.heap.objs.size+1) (o:=.ins C s.heap.objs.size []) (t':=s.toks) (λ b u q=>Heap.get?_push_of_some _ q) (Nat.le_of_eq (Heap.size_push _ _)) ?_
 have ne:s.heap.objs.size≠s.heap.objs.size+1:=Nat.ne_of_lt (Nat.lt_succ_self _)
 refine ⟨by rw [z0o ne,z0d],Nat.zero_le _,ne,e2,λ _=>none,(Heap.Ns1.of_empty e3).at λ o q=>Heap.get?_push_of_some _ q,λ _=>True.intro,λ y hy=>absurd rfl hy⟩
theorem w4j {prog:Program}{w:World}{env:Env}{e:Expr}{f:Str}{pos:Pos}{s:Shared}{Q:Value->Shared->Prop}(hb:attributeBase e f env (eval e env)=eval e env)
  (h:wpAny (model prog w) A (eval e env) (λ o s₁=>wpAny (model prog w) A (getAttr o f true) Q E s₁) E s):wpAny (model prog w) A (eval (.Attribute e f pos) env) Q E s :=
 Attribute_any_ h (by rw [arm_eval_Attribute,hb])
end
def v3j (K:W.Frag) (ta:TE) (f:Str):TE:=λ σ H Q=>ta σ H λ x H1=>∃a C dx fs v,x=.ref a/\H1 a=some (.ins C dx fs)/\Cls K C/\NoAttr K C f/\fs.lookup f=some v/\Q v H1
def v3m (K:W.Frag) (ta tv:TE) (f:Str):TS:=λ D σ H=>tv σ H λ y H1=>ta σ H1 λ x H2=>∃a C dx fs,x=.ref a/\H2 a=some (.ins C dx fs)/\Cls K C/\NoAttr K C f/\fs.length < 1000 /\
 D.nx σ (upd H2 a (.ins C dx (v0n f y fs)))
section
variable {X:Cx}{o e value:Expr}{f:Str}{pos pos' tpos:Pos}{ta tv:TE}
end
section
variable {X:Cx}{pins:List (Addr × Obj)}{σ:St}{H:Hp}{s:Shared}{A:Around}{E:Value->Shared->Prop}{Q:Value->Shared->Prop}{c:Value}{b:Bool}
inductive TyOf (K:W.Frag) (H:Hp):V->Value->Prop where
 | non:TyOf K H .non (.type "NoneType")
 | bl (x:Bool):TyOf K H (.bl x) (.type "bool")
 | int (i:Int):TyOf K H (.int i) (.type "int")
 | str (x:Str):TyOf K H (.str x) (.type "str")
 | flt (x:UInt64):TyOf K H (.flt x) (.type "float")
 | lst {a:Addr}{xs:List V}(e:H a=some (.lst xs)):TyOf K H (.ref a) (.type "list")
 | frz {a:Addr}{o:Obj}{xs:List V}(e:H a=some (.frz o (.lst xs))):TyOf K H (.ref a) (.type "list")
 | tup {a:Addr}{xs:List V}(e:H a=some (.tup xs)):TyOf K H (.ref a) (.type "tuple")
 | dK {a:Addr}{kvs:List (Key × V)}(e:H a=some (.dK kvs)):TyOf K H (.ref a) (.type "dict")
 | dT {a:Addr}{kvs:List (List Key × V)}(e:H a=some (.dT kvs)):TyOf K H (.ref a) (.type "dict")
 | ins {a C dx:Addr}{fs:List (Str × V)}(e:H a=some (.ins C dx fs)) (cl:Cls K C) (ha:W.findIn K (.ref C) "__class__"=some (some (.builtin "object.__class__")))
   (hn:W.specialIn K (.builtin "object.__class__") "__get__"=some (some (.builtin "getset_descriptor.__get__"))) (htk:W.takesIn K (.builtin "object.__class__")=some true)
   (hm:W.mroIn K C (.type "object")=some true):TyOf K H (.ref a) (.ref C)
theorem x4j {x:V}{u t:Value}(I:Inv X pins σ H s) (rx:RelV x u) (ty:TyOf X.K H x t) (e:W.kitOne X.K t c=some b) (h:∀tk,Q (.bool b) { s with toks:=tk }) :
  wpAny (model X.prog X.w) A (call (.builtin "isinstance") [u,c]) Q E s:=by
 cases ty with
 | non=>cases (show u=Value.none from rx);exact W.kia_one W.kitx_none I.kIn True.intro e (λ z=>nomatch z) h
 | bl y=>cases (show u=Value.bool y from rx);exact W.kia_one W.kitx_bool I.kIn True.intro e (λ z=>nomatch z) h
 | int i=>obtain ⟨t,q⟩:=(show ∃t,u=Value.int i t from rx);cases q;exact W.kia_one W.kitx_int I.kIn True.intro e (λ z=>nomatch z) h
 | str y=>obtain ⟨t,q⟩:=(show ∃t,u=Value.str y t from rx);cases q;exact W.kia_one W.kitx_str I.kIn True.intro e (λ z=>nomatch z) h
 | flt y=>obtain ⟨t,q⟩:=(show ∃t,u=Value.float y t from rx);cases q;exact W.kia_one W.kitx_float I.kIn True.intro e (λ z=>nomatch z) h
 | @lst a xs ea =>
  cases (show u=Value.ref a from rx)
  obtain ⟨_,_,n,_,h1⟩:=(show ObjOk X.prog X.w H s.heap a (.lst xs) from I.hok a _ ea)
  exact W.kia_one W.kitx_list I.kIn ⟨_,h1,rfl⟩ e (λ z=>nomatch z) h
 | @frz a ob xs ea =>
  cases (show u=Value.ref a from rx)
  obtain ⟨_,_,_,n,_,h1⟩:=(show ObjOk X.prog X.w H s.heap a (.frz ob (.lst xs)) from I.hok a _ ea)
  exact W.kia_one W.kitx_list I.kIn ⟨_,h1,rfl⟩ e (λ z=>nomatch z) h
 | @tup a xs ea =>
  cases (show u=Value.ref a from rx)
  obtain ⟨_,_,_,p⟩:=(show ObjOk X.prog X.w H s.heap a (.tup xs) from I.hok a _ ea)
  obtain ⟨o,h1,h2,_⟩:=p
  exact W.kia_one W.kitx_tuple I.kIn ⟨o,h1,h2⟩ e (λ z=>nomatch z) h
 | @dK a kvs ea =>
  cases (show u=Value.ref a from rx)
  obtain ⟨_,_,vs,_,p⟩:=(show ObjOk X.prog X.w H s.heap a (.dK kvs) from I.hok a _ ea)
  obtain ⟨o,es,ep,h1,h2,_⟩:=p
  exact W.kia_one W.kitx_dict I.kIn ⟨o,h1,h2.1⟩ e (λ z=>nomatch z) h
 | @dT a kvs ea =>
  cases (show u=Value.ref a from rx)
  obtain ⟨_,_,xs,_,o,es,ep,h1,h2,_⟩:=(show ObjOk X.prog X.w H s.heap a (.dT kvs) from I.hok a _ ea)
  exact W.kia_one W.kitx_dict I.kIn ⟨o,h1,h2.1⟩ e (λ z=>nomatch z) h
 | @ins a C dx fs ea cl ha hn htk hm =>
  cases (show u=Value.ref a from rx)
  obtain ⟨mA,O,_⟩:=w3i I.hok ea
  obtain ⟨od,J,_⟩:=O.look
  exact W.kia_one (W.kitx_own (cl.get _) cl.hd ha hn htk hm) I.kIn J e (λ z=>nomatch z) h
end
structure Room (k:Nat) (A:Around):Prop where
 hd:A.handled=none
 dp:A.depth+3 * k+5 < recursionLimit
 un:A.units+16 * k+200 < cLine
theorem Room.mono {j k:Nat}{A:Around}(r:Room k A) (h:j≤k):Room j A:=⟨r.hd,by have:=r.dp;lia,by have:=r.un;lia⟩
theorem Room.deeper {k:Nat}{A:Around}(r:Room (k+1) A) (env:Env):Room k (A.deeper env) :=
 ⟨r.hd,by have:=r.dp;show A.depth+1+3 * k+5 < _;lia,by have:=r.un;show A.units+3+16 * k+200 < _;lia⟩
theorem Room.in1 {k:Nat}{A:Around}(r:Room (k+1) A):Room k A.in1 :=
 ⟨r.hd,by have:=r.dp;show A.depth+3 * k+5 < _;lia,by have:=r.un;show A.units+1+16 * k+200 < _;lia⟩
theorem y9r {A:Around}{C:Addr}{us:List Value}{kw:List (Str × Value)}:(A.under (.builtin "type.__call__" ⟨.ref C::us,kw⟩)).depth=A.depth+1:=by
 first | rfl | simp [Around.under,Code.weight,Code.isCreation,Code.isGuard,Code.isCaller,Code.frames,Code.isFrame,guardIds]
theorem y9q {A:Around}{C:Addr}{us:List Value}{kw:List (Str × Value)}:(A.under (.builtin "type.__call__" ⟨.ref C::us,kw⟩)).units=A.units+1:=by
 first | rfl | simp [Around.under,Code.cUnits,Code.frames,Code.isFrame]
theorem Room.make {k:Nat}{A:Around}(r:Room (k+1) A) (C:Addr) (us:List Value) (kw:List (Str × Value)):Room k (A.under (.builtin "type.__call__" ⟨.ref C::us,kw⟩)) :=
 ⟨r.hd,by have:=r.dp;rw [y9r];lia,by have:=r.un;rw [y9q];lia⟩
theorem Room.depth {k:Nat}{A:Around}(r:Room k A):A.depth < recursionLimit:=by have:=r.dp;lia
theorem Room.units {k:Nat}{A:Around}(r:Room k A):A.units+64 < cLine:=by have:=r.un;lia
theorem Room.units0 {k:Nat}{A:Around}(r:Room k A):A.units < cLine:=by have:=r.un;lia
def v1z:TA:=λ _ H Q=>Q [] H
def y4j (ta:TE) (tr:TA):TA:=λ σ H Q=>ta σ H λ x H1=>tr σ H1 λ xs H2=>Q (x::xs) H2
section
variable {X:Cx}{e:Expr}{es:List Expr}{te:TE}{t:TA}{pos:Pos}
theorem z0e:PA X [] v1z:=λ _ _ _ _ H Q I h=>Calls.spliced_nil ⟨[],H,I,.nil,h⟩
theorem z0a (ha:PE X e te) (hr:PA X es t) (hs:starEach (e::es) X.env=(false,eval e X.env)::starEach es X.env:=by rfl):PA X (e::es) (y4j te t):=by
 intro pos pins s σ H Q I h
 rw [hs]
 show wpAny _ _ (spliced ((false,eval e X.env)::backTo pos (starEach es X.env))) _ _ s
 refine Calls.spliced_cons (thn (ha pins s σ H _ I h) λ u s1 ⟨x,H1,I1,r1,q1⟩=>?_)
 exact thn (hr pos pins s1 σ H1 _ I1 q1) λ us s2 ⟨xs,H2,I2,r2,q2⟩=>⟨x::xs,H2,I2,.cons r1 r2,q2⟩
def v1v (t:TA):TE:=λ σ H Q=>t σ H λ xs H1=>xs.length≤sizeLine/\∀p,H1 p=none->Q (.ref p) (upd H1 p (.tup xs))
def w9j (t:TA):TE:=λ σ H Q=>t σ H λ xs H1=>xs.length≤sizeLine/\∀p,H1 p=none->Q (.ref p) (upd H1 p (.lst xs))
theorem z2k {x1} (h:PA X es t):PE X (.Tuple es x1 pos) (v1v t):=by
 intro pins s σ H Q I hq
 refine wpAny_Tuple_spliced (thn (h pos pins s σ H _ I hq) λ us s1 ⟨xs,H1,I1,r,z,q⟩=>⟨by rw [← r.length];exact z,?_⟩)
 have hf:H1 s1.heap.objs.size=none:=I1.hok.fresh (Nat.le_refl _)
 refine ⟨.ref s1.heap.objs.size,upd H1 s1.heap.objs.size (.tup xs),I1.laid (t':=s1.toks) (λ b u e=>Heap.get?_push_of_some _ e) (Nat.le_refl _) ?_,rfl,q _ hf⟩
 exact ⟨z,us,r,⟨_,Heap.get?_push_size _ rfl,rfl,_,rfl⟩⟩
theorem z1j (h:PA X es t):PE X (.List es pos) (w9j t):=by
 intro pins s σ H Q I hq
 refine wpAny_List_spliced (thn (h pos pins s σ H _ I hq) λ us s1 ⟨xs,H1,I1,r,z,q⟩=>⟨by rw [← r.length];exact z,?_⟩)
 have hf:H1 s1.heap.objs.size=none:=I1.hok.fresh (Nat.le_refl _)
 refine ⟨.ref s1.heap.objs.size,upd H1 s1.heap.objs.size (.lst xs),I1.laid (t':=s1.toks) (λ b u e=>Heap.get?_push_of_some _ e) (Nat.le_refl _) ?_,rfl,q _ hf⟩
 exact ⟨z,us,0,r,Heap.get?_push_size _ rfl⟩
end
abbrev Sp:=List V->Hp->VK->XK->Prop
abbrev CXT:=List Env->Hp->Shared->XK->Value->Shared->Prop
structure Env0 (P:Program) (w:World) (K:W.Frag) (mg:Str->Option Value) (base:Heap) (A:Around) (outer:List Env) (s:Shared) (H:Hp):Prop where
 frames:A.frames=some outer
 mod:Mod K mg base
 bs:∀b o,base.get? b=some o->s.heap.get? b=some o/\H b=none
 bsz:base.objs.size≤s.heap.objs.size
 funs:s.heap.FunFrames base outer
 frf:∀b∈frs outer,H b=none
 hok:HOk P w H s.heap
 bare:AllBare s.gens
def CE (outer:List Env) (P:Program) (w:World) (H:Hp) (s:Shared) (Q:VK) (u:Value) (s':Shared):Prop :=
 ∃v H',s'.os=s.os/\AllBare s'.gens/\Un (frs outer) [] H H' s.heap s'.heap/\HOk P w H' s'.heap/\RelV v u/\Q v H'
def CR (CX:CXT) (outer:List Env) (P:Program) (w:World) (H:Hp) (s:Shared) (Q:VK) (E:XK) (r:Result) (s':Shared):Prop :=
 match r with
 | .ok (.ret u)=>CE outer P w H s Q u s'
 | .ok _=>False
 | .error e=>CX outer H s E e s'
structure FnOk (P:Program) (w:World) (K:W.Frag) (mg:Str->Option Value) (base:Heap) (CX:CXT) (k:Nat) (f:Addr) (fd:FuncData) (ps:List Str) (sp:Sp):Prop where
 len:∀vs H Q E,sp vs H Q E->vs.length=ps.length
 run:∀(A:Around) (outer:List Env) (s:Shared) (H:Hp) (args:Args) (us:List Value) (vs:List V) (Q:VK) (E:XK),Room k A->Env0 P w K mg base A outer s H->BindsTo s fd args (ps.zip us)->Vals vs us->sp vs H Q E ->
  codeAny (model P w) A (.call (.ref f) args) (CR CX outer P w H s Q E) s
theorem FnOk.mono {P:Program}{w:World}{K:W.Frag}{mg:Str->Option Value}{base:Heap}{CX:CXT}{j k:Nat}{f:Addr}{fd:FuncData}{ps:List Str}{sp:Sp}(F:FnOk P w K mg base CX j f fd ps sp) (h:j≤k) :
  FnOk P w K mg base CX k f fd ps sp:=⟨F.len,λ A outer s H args us vs Q E hr=>F.run A outer s H args us vs Q E (hr.mono h)⟩
theorem FnOk.imp {P:Program}{w:World}{K:W.Frag}{mg:Str->Option Value}{base:Heap}{CX:CXT}{k:Nat}{f:Addr}{fd:FuncData}{ps:List Str}{sp sp':Sp}(F:FnOk P w K mg base CX k f fd ps sp)
  (h:∀vs H Q E,sp' vs H Q E->sp vs H Q E):FnOk P w K mg base CX k f fd ps sp' :=
 ⟨λ vs H Q E q=>F.len vs H Q E (h _ _ _ _ q),λ A outer s H args us vs Q E hr he hb hv hs=>F.run A outer s H args us vs Q E hr he hb hv (h _ _ _ _ hs)⟩
theorem Env0.make {P:Program}{w:World}{K:W.Frag}{mg:Str->Option Value}{base:Heap}{A:Around}{outer:List Env}{s:Shared}{H:Hp}(e:Env0 P w K mg base A outer s H) (C:Addr) (us:List Value) (kw:List (Str × Value)) :
  Env0 P w K mg base (A.under (.builtin "type.__call__" ⟨.ref C::us,kw⟩)) outer s H:=⟨by first | exact e.frames | (simpa [Around.under,Code.envs,Code.isFrame,pushEnvs] using e.frames),e.mod,e.bs,e.bsz,e.funs,e.frf,e.hok,e.bare⟩
theorem Env0.in1 {P:Program}{w:World}{K:W.Frag}{mg:Str->Option Value}{base:Heap}{A:Around}{outer:List Env}{s:Shared}{H:Hp}(e:Env0 P w K mg base A outer s H) :
  Env0 P w K mg base A.in1 outer s H:=⟨e.frames,e.mod,e.bs,e.bsz,e.funs,e.frf,e.hok,e.bare⟩
section
variable {X:Cx}{pins:List (Addr × Obj)}{σ:St}{H:Hp}{s s':Shared}
theorem Inv.env0 (I:Inv X pins σ H s):Env0 X.prog X.w X.K X.mg X.base X.A X.stack s H :=
 ⟨I.ok.frames,I.ok.mod,I.bs,Nat.le_trans I.ok.bsz I.sz,I.stack,I.stkFree,I.hok,I.bare⟩
theorem Inv.after {Q:VK}{u:Value}(I:Inv X pins σ H s) (h:CE X.stack X.prog X.w H s Q u s'):EP X pins σ Q u s':=by
 obtain ⟨v,H',os,bare,un,hok,r,q⟩:=h
 obtain ⟨hh,g,d,t,os'⟩:=s'
 obtain rfl:os'=s.os:=os
 exact ⟨v,H',I.call (h':=hh) (g':=g) (d':=d) (t':=t) (ch:=[]) un hok bare (λ b z=>absurd z (by simp)),r,q⟩
end
def x0u (sp:Sp) (dvs:List V) (E:XK) (t:TA):TE:=λ σ H Q=>t σ H λ vs H1=>sp (vs++dvs) H1 Q E
def w9x (C:Addr) (m:Str) (sp:Sp) (dvs:List V) (E:XK) (ta:TE) (t:TA):TE:=λ σ H Q=>ta σ H λ x H1=>∃a dx fs,x=.ref a/\H1 a=some (.ins C dx fs)/\fs.lookup m=none /\
 t σ H1 λ vs H2=>sp (x::(vs++dvs)) H2 Q E
def w9y (C:Addr) (sp:Sp) (dvs:List V) (E:XK) (t:TA):TE:=λ σ H Q=>t σ H λ vs H1=>∀x dx,H1 x=none->H1 dx=none->dx≠x ->
 sp (.ref x::(vs++dvs)) (upd (upd H1 dx (.own x)) x (.ins C dx [])) (λ v H2=>v=.non/\Q (.ref x) H2) E
def Binds (K:W.Frag) (fd:FuncData) (ps:List Str) (ds:List Value):Prop :=
 ∀(s:Shared) (us:List Value),K.In s.heap->(us++ds).length=ps.length->BindsTo s fd ⟨us,[]⟩ (ps.zip (us++ds))
theorem Binds.all {K:W.Frag}{fd:FuncData}{ps:List Str}(h:∀us:List Value,us.length=ps.length->bindArgs fd ⟨us,[]⟩=pure (ps.zip us)):Binds K fd ps []:=λ s us _ hl=>by
 rw [List.append_nil] at hl ⊢
 exact .of_eq (h us hl)
def z8z (CX:CXT) (X:Cx) (E:XK):Prop:=∀(pins:List (Addr × Obj)) (σ:St) (H:Hp) (s:Shared) (e:Value) (s':Shared),Inv X pins σ H s->CX X.stack H s E e s'->X.xe e s'
section
variable {X:Cx}{CX:CXT}{k:Nat}{f C:Addr}{fd:FuncData}{ps:List Str}{sp:Sp}{dvs:List V}{ds:List Value}{E:XK}{x m:Str}{p pos apos:Pos}{e o:Expr}{es:List Expr}{ta:TE}{t:TA}
theorem w0h {pins:List (Addr × Obj)}{σ:St}{H:Hp}{s:Shared}{Q:VK}{us:List Value}{vs:List V}(F:FnOk X.prog X.w X.K X.mg X.base CX k f fd ps sp) (hr:Room k X.A) (hb:Binds X.K fd ps ds) (hd:Vals dvs ds) (hx:z8z CX X E)
  (I:Inv X pins σ H s) (r:Vals vs us) (h:sp (vs++dvs) H Q E):wpAny (model X.prog X.w) X.A (call (.ref f) us) (EP X pins σ Q) X.xe s:=by
 have r2:Vals (vs++dvs) (us++ds):=r.append hd
 have hl:(us++ds).length=ps.length:=by rw [← r2.length];exact F.len _ _ _ _ h
 refine wpAny_call (codeAny_mono (F.run X.A X.stack s H ⟨us,[]⟩ (us++ds) (vs++dvs) Q E hr I.env0 (hb s us I.kIn hl) r2 h) λ r s' hq=>?_)
 cases r with
 | error e=>exact hx pins σ H s e s' I hq
 | ok fl =>
  cases fl with
  | ret u=>exact I.after hq
  | next=>exact False.elim hq
  | brk=>exact False.elim hq
  | cont=>exact False.elim hq
theorem w2p (F:FnOk X.prog X.w X.K X.mg X.base CX k f fd ps sp) (hr:Room k X.A) (hg:Gl X x) (hm:X.mg x=some (.ref f)) (hk:W.keepIn X.K (.ref f)=true) (hb:Binds X.K fd ps ds) (hd:Vals dvs ds) (hx:z8z CX X E)
  (ha:PA X (e::es) t) (hdb:(x == ("__debug__" : Str))=false:=by decide) (he:starEach (e::es) X.env=(false,eval e X.env)::starEach es X.env:=by rfl) (hpl:(backTo pos (starEach es X.env)).any (·.1)=false:=by rfl) :
  PE X (.Call (.Name x p) (e::es) [] pos) (x0u sp dvs E t):=by
 intro pins s σ H Q I h
 refine wpAny_Call_Name_kw (z3o I hg hm ?_ hdb)
 refine W.callWith_K (h₀:=X.base) I.ok.mod.kin hk (thn (ha pos pins s σ H _ I h) λ us s1 ⟨vs,H1,I1,r,q⟩=>⟨I1.kIn,?_⟩) he hpl
 exact w0h F hr hb hd hx I1 r q
structure Mk (K:W.Frag) (C f:Addr):Prop where
 makes:W.makesIn K C=true
 init:W.findIn K (.ref C) "__init__"=some (some (.ref f))
 fn:W.isFn K (.ref f)=true
 kp:W.keepIn K (.ref C)=true
end
section
variable {X:Cx}{CX:CXT}{k:Nat}{f C:Addr}{fd:FuncData}{ps ks:List Str}{sp:Sp}{E:XK}{x m:Str}{p pos apos kpos:Pos}{e o:Expr}{es:List Expr}{kws:List Keyword}{te ta:TE}{t tk:TA}{nm:Option Str}
structure KBinds (K:W.Frag) (fd:FuncData) (ps ks:List Str) (g:List Value->List Value->List Value) (gV:List V->List V->List V):Prop where
 to:∀(s:Shared) (us ws:List Value),K.In s.heap->(g us ws).length=ps.length->BindsTo s fd ⟨us,ks.zip ws⟩ (ps.zip (g us ws))
 rel:∀ {vs:List V}{us:List Value}{zs:List V}{ws:List Value},Vals vs us->Vals zs ws->Vals (gV vs zs) (g us ws)
variable {g:List Value->List Value->List Value}{gV:List V->List V->List V}
end
structure FnScope (N P:List Str) (sc:Scope):Prop where
 kind:sc.kind=.function
 co:sc.isCoroutine=false
 gen:sc.isGenerator=false
 nd:N.Nodup
 pre:N.take P.length=P
 par:∀x∈P,sc.names.lookup x=some .local\/sc.names.lookup x=some .cell
 nofree:∀y∈sc.names,y.2≠.free
theorem y3z {kindOf:Str->Option NameKind}{x:Str}:∀ {binds:List (Str × Value)}{m:Str->Option Value},(∀v,(x,v) ∉ binds)->bindL kindOf binds m x=m x
 | [],_,_=>rfl
 | (n,v)::r,m,h=>by
  unfold bindL
  rw [y3z λ w hw=>h w (List.mem_cons_of_mem _ hw)]
  split
  ·have:x≠n:=by rintro rfl;exact h v List.mem_cons_self
   simp [this]
  ·rfl
theorem y4b {kindOf:Str->Option NameKind}{x:Str}:∀ {binds:List (Str × Value)}{m:Str->Option Value},(∀v,(x,v) ∉ binds)->bindC kindOf binds m x=m x
 | [],_,_=>rfl
 | (n,v)::r,m,h=>by
  unfold bindC
  rw [y4b λ w hw=>h w (List.mem_cons_of_mem _ hw)]
  split
  ·rfl
  ·have:x≠n:=by rintro rfl;exact h v List.mem_cons_self
   simp [this]
theorem y4a {kindOf:Str->Option NameKind}{x:Str}{v:Value}:∀ {P:List Str}{vs:List Value}{i:Nat}{m:Str->Option Value},P.Nodup->P[i]?=some x->vs[i]?=some v->kindOf x=some .local ->
  bindL kindOf (P.zip vs) m x=some v
 | [],_,_,_,_,h,_,_=>by simp at h
 | _::_,[],_,_,_,_,h,_=>by simp at h
 | p::P,w::vs,0,m,nd,h1,h2,hk=>by
  simp at h1 h2;subst h1;subst h2
  show bindL kindOf ((p,w)::P.zip vs) m p=_
  unfold bindL
  rw [y3z λ v hv=>(List.nodup_cons.mp nd).1 (List.of_mem_zip hv).1,if_pos hk]
  simp
 | p::P,w::vs,i+1,m,nd,h1,h2,hk=>by
  show bindL kindOf ((p,w)::P.zip vs) m x=_
  unfold bindL
  exact y4a (i:=i) (List.nodup_cons.mp nd).2 (by simpa using h1) (by simpa using h2) hk
theorem y4c {kindOf:Str->Option NameKind}{x:Str}{v:Value}:∀ {P:List Str}{vs:List Value}{i:Nat}{m:Str->Option Value},P.Nodup->P[i]?=some x->vs[i]?=some v->kindOf x≠some .local ->
  bindC kindOf (P.zip vs) m x=some v
 | [],_,_,_,_,h,_,_=>by simp at h
 | _::_,[],_,_,_,_,h,_=>by simp at h
 | p::P,w::vs,0,m,nd,h1,h2,hk=>by
  simp at h1 h2;subst h1;subst h2
  show bindC kindOf ((p,w)::P.zip vs) m p=_
  unfold bindC
  rw [y4b λ v hv=>(List.nodup_cons.mp nd).1 (List.of_mem_zip hv).1,if_neg hk]
  simp
 | p::P,w::vs,i+1,m,nd,h1,h2,hk=>by
  show bindC kindOf ((p,w)::P.zip vs) m x=_
  unfold bindC
  exact y4c (i:=i) (List.nodup_cons.mp nd).2 (by simpa using h1) (by simpa using h2) hk
def start (N:List Str) (vs:List V):St:=vs.map some++List.replicate (N.length - vs.length) none
def y5o (CX:CXT) (P:Program) (w:World) (K:W.Frag) (mg:Str->Option Value) (base:Heap) (N:List Str) (qual:Str) (scope:Scope) (f:Addr) (cd:Value) (A:Around) (outer:List Env) (s:Shared) (H:Hp) (E:XK):Cx where
 prog:=P
 w:=w
 K:=K
 mg:=mg
 base:=base
 A:=A.deeper (envOfC qual scope s.heap.objs.size f cd)
 N:=N
 s₀:=s
 H₀:=H
 env:=envOfC qual scope s.heap.objs.size f cd
 outer:=outer
 stack:=envOfC qual scope s.heap.objs.size f cd::outer
 ex:=[]
 calm:=true
 fn:=λ _=>true
 pn:=[]
 xe:=λ e s'=>wpAny (model P w) (A.deeper (envOfC qual scope s.heap.objs.size f cd)) (leaving (envOfC qual scope s.heap.objs.size f cd) e) (λ _ s''=>CX outer H s E e s'') (λ e' s''=>CX outer H s E e' s'') s'
theorem y8f {sc:Scope}{n:Nat}{x:Str}(h:sc.names.lookup x=some .cell):∃c,(cellsFrom n sc.names []).lookup x=some c:=by
 have q:=W.cellsFrom_some sc.names n [] (.inl h)
 exact Option.isSome_iff_exists.mp q
theorem y3o {CX:CXT}{P:Program}{w:World}{K:W.Frag}{mg:Str->Option Value}{base:Heap}{N ps:List Str}{qual:Str}{scope:Scope}{f:Addr}{cd:Value}{A:Around}{outer:List Env}{s s1:Shared}{H:Hp}{E:XK}{us:List Value}{vs:List V}
  (S:FnScope N ps scope) (hd:A.handled=none) (e0:Env0 P w K mg base A outer s H) (hl:vs.length=ps.length) (r:Vals vs us)
  (x:InCallC s s.heap.objs.size (bindL (envOfC qual scope s.heap.objs.size f cd).kindOf (ps.zip us) λ _=>none) (cellsFrom (s.heap.objs.size+1) scope.names []) (bindC (envOfC qual scope s.heap.objs.size f cd).kindOf (ps.zip us) λ _=>none) s1) :
  Inv (y5o CX P w K mg base N qual scope f cd A outer s H E) [] (start N vs) H s1:=by
 have hpl:ps.length≤N.length:=by have:=congrArg List.length S.pre;rw [List.length_take] at this;lia
 obtain ⟨h1,tk,rfl,hk⟩:=x.done
 have noA:∀b:Addr,b ∉ (y5o CX P w K mg base N qual scope f cd A outer s H E).ex:=λ b z=>absurd (show b∈([]:List Addr) from z) (by simp)
 refine ⟨⟨e0.mod,S.kind,rfl,rfl,Nat.le_refl _,λ y z c h1 h2=>?_,λ y hy=>?_,λ y c _ h=>?_,λ _=>hd,Around.frames_deeper e0.frames,.inr ⟨rfl,rfl⟩,λ b z=>absurd z (noA b),e0.bs,e0.bsz,λ b _ _=>noA b,λ b z=>absurd z (noA b),e0.funs,e0.frf⟩,
  rfl,e0.bare,Un.kept hk,⟨_,x.toInCall.ns,λ i y v h1 h2 h3=>?_⟩,λ y c h=>⟨_,x.cell y c h⟩,e0.hok.fresh (Nat.le_refl _),λ y c h=>?_,λ p hp=>absurd (show p∈([]:List (Addr × Obj)) from hp) (by simp),e0.hok.kept hk,?_⟩
 ·exact name_of_addr x.apart (PySem.mem_of_lookup h1) (PySem.mem_of_lookup h2)
 ·have hy:scope.names.lookup y=some .cell\/scope.names.lookup y=some .free:=hy
  rcases hy with hy | hy
  ·exact y8f hy
  ·exact absurd rfl (S.nofree _ (PySem.mem_of_lookup hy))
 ·exact Nat.le_of_lt (x.above y c (PySem.mem_of_lookup h))
 ·have hi:i < vs.length:=by
   unfold start at h2
   by_cases hi:i < vs.length
   ·exact hi
   ·rw [List.getElem?_append_right (by simpa using hi)] at h2
    rw [List.getElem?_replicate] at h2
    split at h2<;>cases h2
  have ha:vs[i]?=some v:=by
   unfold start at h2
   rw [List.getElem?_append_left (by simpa using hi),List.getElem?_map] at h2
   cases e:vs[i]? with
   | none=>rw [e] at h2;cases h2
   | some a=>rw [e] at h2;cases h2;rfl
  obtain ⟨u,hu,rv⟩:=r.get ha
  have hp:ps[i]?=some y:=by
   rw [← S.pre,List.getElem?_take_of_lt (by lia)];exact h1
  have ndP:ps.Nodup:=by rw [← S.pre];exact S.nd.sublist (List.take_sublist _ _)
  refine ⟨u,rv,?_⟩
  rcases S.par y (List.mem_of_getElem? hp) with k | k
  ·exact .inl ⟨k,y4a ndP hp hu k⟩
  ·obtain ⟨c,e⟩:=y8f (n:=s.heap.objs.size+1) k
   refine .inr ⟨.inl k,c,e,?_⟩
   have q:=x.cell y c e
   rw [y4c ndP hp hu (by show scope.names.lookup y≠_;rw [k];decide)] at q
   exact q
 ·exact e0.hok.fresh (Nat.le_of_lt (x.above y c (PySem.mem_of_lookup h)))
 ·unfold start
  show _=N.length
  rw [List.length_append,List.length_map,List.length_replicate]
  lia
theorem w3t {CX:CXT}{P:Program}{w:World}{K:W.Frag}{mg:Str->Option Value}{base:Heap}{k:Nat}{f:Addr}{name qual:Str}{params:Arguments}{body:List Stmt}{scope:Scope}{dV kV doc pm cdv ct oc:Value}{an od:Option Addr}
  {osl:Array (Option Value)}{N ps:List Str}{sp:Sp}(lk:K.lookup f=some ⟨oc,od,.func (W.fnOf name qual params body scope dV kV doc pm an cdv ct),osl⟩) (hcd:W.codeIn K cdv qual=true) (S:FnScope N ps scope)
  (len:∀vs H Q E,sp vs H Q E->vs.length=ps.length)
  (hbody:∀(A:Around) (outer:List Env) (s:Shared) (H:Hp) (vs:List V) (Q:VK) (E:XK),Room k (A.deeper (envOfC qual scope s.heap.objs.size f cdv))->sp vs H Q E ->
   ∃t,PSs (y5o CX P w K mg base N qual scope f cdv A outer s H E) body t/\t { nx:=λ _ H'=>Q .non H',rt:=Q } (start N vs) H) :
  FnOk P w K mg base CX (k+1) f (W.fnOf name qual params body scope dV kV doc pm an cdv ct) ps sp:=by
 refine ⟨len,λ A outer s H args us vs Q E hr e0 hb r hsp=>?_⟩
 have hl:=len _ _ _ _ hsp
 have KX:K.In s.heap:=e0.mod.kin.keeps λ b o e=>(e0.bs b o e).1
 have lim:s.heap.NoLimit:=e0.mod.nolimit.keeps λ b o e=>(e0.bs b o e).1
 have hkind:∀y∈ps.zip us,scope.names.lookup y.1=some .local\/(scope.names.lookup y.1=some .cell/\((cellsFrom (s.heap.objs.size+1) scope.names []).lookup y.1).isSome=true):=λ ⟨n,v⟩ hy=>by
  rcases S.par n (List.of_mem_zip hy).1 with q | q
  ·exact .inl q
  ·exact .inr ⟨q,W.cellsFrom_some _ _ _ (.inl q)⟩
 refine codeAny_call_function hr.depth (KX _ _ lk) rfl S.co S.gen rfl (W.codeRec_of KX hcd) (hb _ _ _ _ ?_)
 refine wpAny_newFunctionEnv_cells S.kind hkind λ env he s1 x=>?_
 subst he
 refine ⟨lim.keeps x.toInCall.keep,codeAny_func ?_⟩
 obtain ⟨t,ht,hq⟩:=hbody A outer s H vs Q E (hr.deeper _) hsp
 have I:Inv (y5o CX P w K mg base N qual scope f cdv A outer s H E) [] (start N vs) H s1:=y3o S hr.hd e0 hl r x
 refine wpAny_mono (ht [] s1 (start N vs) H _ I hq) (λ fl s' hs=>?_) λ e s' hs=>hs
 have fin:∀ {σ':St}{H':Hp}{v:V}{u:Value},Inv (y5o CX P w K mg base N qual scope f cdv A outer s H E) [] σ' H' s'->RelV v u->Q v H'->CE outer P w H s Q u s' :=
  λ {σ' H' v u} J rv q=>⟨v,H',J.os,J.bare,J.base,J.hok,rv,q⟩
 cases fl with
 | ret u =>
  obtain ⟨v,σ',H',J,rv,q⟩:=hs
  exact fin J rv q
 | next =>
  obtain ⟨σ',H',J,q⟩:=hs
  exact fin (v:=V.non) (u:=Value.none) J rfl q
 | brk =>
  obtain ⟨_,_,_,q⟩:=hs
  exact False.elim q
 | cont =>
  obtain ⟨_,_,_,q⟩:=hs
  exact False.elim q
section
variable {X:Cx}{x:Str}{p pos:Pos}{e:Expr}{es:List Expr}{t:TA}{id T:String}{r:List V->Hp->VK->Prop}
def tCB (r:List V->Hp->VK->Prop) (t:TA):TE:=λ σ H Q=>t σ H λ vs H1=>r vs H1 Q
theorem z0w (hc:z4l X (.builtin id) r) (hg:Gl X x) (hm:X.mg x=none) (hv:bootBuiltins x=some (.builtin id)) (ha:PA X (e::es) t) (hn:x ≠ "__name__" := by decide) (hdb:(x == ("__debug__" : Str))=false:=by decide)
  (he:starEach (e::es) X.env=(false,eval e X.env)::starEach es X.env:=by rfl) (hpl:(backTo pos (starEach es X.env)).any (·.1)=false:=by rfl):PE X (.Call (.Name x p) (e::es) [] pos) (tCB r t):=by
 intro pins s σ H Q I h
 refine wpAny_Call_Name_kw (z9w I hg hm hv ?_ hn hdb)
 exact PyProof.Rows.callWith_builtin1 (thn (ha pos pins s σ H _ I h) λ us s1 ⟨vs,H1,I1,r1,q1⟩=>hc pins s1 σ H1 vs us Q I1 r1 q1) he hpl
theorem z1s (hc:z4l X (.type T) r) (hg:Gl X x) (hm:X.mg x=none) (hv:bootBuiltins x=some (.type T)) (ha:PA X (e::es) t) (hn:x ≠ "__name__" := by decide) (hdb:(x == ("__debug__" : Str))=false:=by decide)
  (he:starEach (e::es) X.env=(false,eval e X.env)::starEach es X.env:=by rfl) (hpl:(backTo pos (starEach es X.env)).any (·.1)=false:=by rfl):PE X (.Call (.Name x p) (e::es) [] pos) (tCB r t):=by
 intro pins s σ H Q I h
 refine wpAny_Call_Name_kw (z9w I hg hm hv ?_ hn hdb)
 exact PyProof.Rows.callWith_type1 (thn (ha pos pins s σ H _ I h) λ us s1 ⟨vs,H1,I1,r1,q1⟩=>hc pins s1 σ H1 vs us Q I1 r1 q1) he hpl
end
end L2
namespace HT
open PySem PyProof.Rows
section
open PySem.SeqAt
open PySem.AutoSeq1 (wpAny_loadPart')
open PySem.MeetsSeq PySem.MeetsSeq2 PySem.MeetsSeq3
end
section
variable {prog:Program}{w:World}{A:Around}{E:Value->Shared->Prop}{s:Shared}
def sIx (n d:Nat):Option Int->Nat
 | none=>d
 | some v=>if v < 0 then (v+(n:Int)).toNat else min v.toNat n
end
end HT
namespace L2
open PySem PySem.Spec PyProof.Rows
abbrev TO:=St->Hp->(Option Int->Hp->Prop)->Prop
def PO (X:Cx) (e:Option Expr) (t:TO):Prop :=
 ∀(pins:List (Addr × Obj)) (s:Shared) (σ:St) (H:Hp) (Q:Option Int->Hp->Prop),Inv X pins σ H s->t σ H Q ->
  wpAny (model X.prog X.w) X.A (evalPart e X.env) (λ u s'=>∃o H',Inv X pins σ H' s'/\IsPart u o/\Q o H') X.xe s
def x0r:TO:=λ _ H Q=>Q none H
def w5g (t:TE):TO:=λ σ H Q=>t σ H λ x H1=>∃i,x=.int i/\Q (some i) H1
theorem y9u {ns:List Int}:∀ {us:List Value},Vals (ns.map V.int) us->IntsAre us ns:=by
 induction ns with
 | nil=>intro us r;rw [List.map_nil] at r;cases r;exact .nil
 | cons n ns ih =>
  intro us r
  rw [List.map_cons] at r
  cases r with
  | cons r1 r2 =>
   obtain ⟨t,e⟩:=r1
   subst e
   exact .cons n t (ih r2)
section
variable {X:Cx}{e:Expr}{te:TE}{lo hi:Option Expr}{tl th:TO}{pos p2:Pos}
theorem z3v:PO X none x0r:=by
 intro pins s σ H Q I h
 rw [evalPart_none]
 exact wpAny_pure ⟨none,H,I,.none,h⟩
theorem z3u (h:PE X e te):PO X (some e) (w5g te):=by
 intro pins s σ H Q I hw
 rw [evalPart_some]
 refine thn (h pins s σ H _ I hw) λ u s1 ⟨x,H1,I1,r1,q1⟩=>?_
 obtain ⟨i,rfl,q⟩:=q1
 obtain ⟨t,rfl⟩:=r1
 exact ⟨some i,H1,I1,.int i t,q⟩
def SlR (X:Cx) (r:V->Option Int->Option Int->Hp->VK->Prop):Prop :=
 ∀(pins:List (Addr × Obj)) (s:Shared) (σ:St) (H:Hp) (x:V) (v vl vu:Value) (lo hi:Option Int) (sl:Addr) (Q:VK),Inv X pins σ H s->RelV x v->s.heap.IsSliceOf sl vl vu .none->IsPart vl lo->IsPart vu hi->r x lo hi H Q ->
  ∃T id,typeLookup (.type T) "__getitem__"=pure (some (.builtin id))/\s.TypeIs v T/\wpAny (model X.prog X.w) X.A (getItem v (.ref sl)) (EP X pins σ Q) X.xe s
def tSl (r:V->Option Int->Option Int->Hp->VK->Prop) (te:TE) (tl th:TO):TE:=λ σ H Q=>te σ H λ x H1=>tl σ H1 λ l H2=>th σ H2 λ u H3=>r x l u H3 Q
theorem z2v {r:V->Option Int->Option Int->Hp->VK->Prop}(hr:SlR X r) (he:PE X e te) (hl:PO X lo tl) (hu:PO X hi th):PE X (.Subscript e (.Slice lo hi none p2) pos) (tSl r te tl th):=by
 intro pins s σ H Q I h
 refine Subscript_ (thn (he pins s σ H _ I h) λ v s1 ⟨x,H1,I1,r1,q1⟩=>?_)
 refine wpAny_Slice (thn (hl pins s1 σ H1 _ I1 q1) λ vl s2 ⟨l,H2,I2,pl,q2⟩=>thn (hu pins s2 σ H2 _ I2 q2) λ vu s3 ⟨u,H3,I3,pu,q3⟩=>?_)
 rw [evalPart_none]
 refine wpAny_pure ?_
 have I4:Inv X pins σ H3 { s3 with heap:=s3.heap.push { cls:=.type "slice",data:=.fields #[vl,vu,.none] } }:=I3.kept (t':=s3.toks) λ b ob q=>Heap.get?_push_of_some _ q
 obtain ⟨T,id,hT,ht,hg⟩:=hr pins { s3 with heap:=s3.heap.push { cls:=.type "slice",data:=.fields #[vl,vu,.none] } } σ H3 x v vl vu l u s3.heap.objs.size Q I4 r1 (Heap.IsSliceOf.new ..) pl pu q3
 show wpAny (model X.prog X.w) X.A (subscriptTail e (.Slice lo hi none p2) v (.ref s3.heap.objs.size)) (EP X pins σ Q) X.xe { s3 with heap:=s3.heap.push { cls:=.type "slice",data:=.fields #[vl,vu,.none] } }
 exact tail_any (ops:=[.ref s3.heap.objs.size,v]) ht hT hg (by with_unfolding_all rfl)
def z9h (xs:List V) (lo hi:Option Int):List V:=(xs.drop (HT.sIx xs.length 0 lo)).take (HT.sIx xs.length xs.length hi - HT.sIx xs.length 0 lo)
theorem y5p (xs:List V) (lo hi:Option Int):(z9h xs lo hi).length≤xs.length:=by
 unfold z9h
 rw [List.length_take,List.length_drop]
 lia
end
def ixN (n:Nat) (i:Int):Option Nat:=if 0≤i then (if i < n then some i.toNat else none) else if -(n:Int)≤i then some (i+n).toNat else none
def atI {α:Type}(xs:List α) (i:Int):Option α:=(ixN xs.length i).bind λ j=>xs[j]?
theorem x4i {n:Nat}{i:Int}{j:Nat}(h:ixN n i=some j):seqIndex? i n=some j/\j < n/\-(n:Int)≤i/\i < n:=by
 unfold ixN at h
 by_cases h0:0≤i
 ·rw [if_pos h0] at h
  by_cases h1:i < n
  ·rw [if_pos h1] at h
   have e:i.toNat=j:=Option.some.inj h
   exact ⟨by rw [seqIndex_of h0 h1,e],by lia,by lia,h1⟩
  ·rw [if_neg h1] at h;cases h
 ·rw [if_neg h0] at h
  by_cases h1:-(n:Int)≤i
  ·rw [if_pos h1] at h
   have e:(i+n).toNat=j:=Option.some.inj h
   exact ⟨by rw [seqIndex_neg (by lia) h1,e],by lia,h1,by lia⟩
  ·rw [if_neg h1] at h;cases h
theorem x6e {α:Type}{xs:List α}{i:Int}{v:α}(h:atI xs i=some v):∃j,seqIndex? i xs.length=some j/\xs[j]?=some v/\j < xs.length/\-(xs.length:Int)≤i/\i < xs.length:=by
 unfold atI at h
 cases e:ixN xs.length i with
 | none=>rw [e] at h;cases h
 | some j =>
  rw [e] at h
  obtain ⟨h1,h2,h3,h4⟩:=x4i e
  exact ⟨j,h1,h,h2,h3,h4⟩
theorem z0q {α:Type}{xs:List α}{j:Nat}{v:α}(h:xs[j]?=some v):atI xs (j:Int)=some v:=by
 have hj:j < xs.length:=(List.getElem?_eq_some_iff.mp h).1
 have e:ixN xs.length (j:Int)=some j:=by
  unfold ixN
  rw [if_pos (by lia),if_pos (by lia)];simp
 unfold atI;rw [e];exact h
def w4n (b:Expr):Prop:=∀o i,subscripted b false o i=operate [o,i] (getItem o i)
def IxR (X:Cx) (r:R2):Prop :=
 ∀(value slice:Expr) (pins:List (Addr × Obj)) (s:Shared) (σ:St) (H:Hp) (x y:V) (v u:Value) (Q:VK),Inv X pins σ H s->RelV x v->RelV y u->r x y H Q ->
  subscripted slice false v u=operate [v,u] (getItem v u)->wpAny (model X.prog X.w) X.A (subscriptTail value slice v u) (EP X pins σ Q) X.xe s
def MtR (X:Cx) (id:String) (r:V->List V->Hp->VK->Prop):Prop :=
 ∀(pins:List (Addr × Obj)) (s:Shared) (σ:St) (H:Hp) (x:V) (xs:List V) (v:Value) (us:List Value) (Q:VK),Inv X pins σ H s->RelV x v->Vals xs us->r x xs H Q ->
  wpAny (model X.prog X.w) X.A (call (.builtin id) (v::us)) (EP X pins σ Q) X.xe s
section
variable {X:Cx}{a b:Expr}{ta tb:TE}{pos:Pos}
theorem z1f {r:R2}(hr:IxR X r) (ha:PE X a ta) (hb:PE X b tb) (hs:w4n b):PE X (.Subscript a b pos) (tOp r ta tb):=by
 intro pins s σ H Q I h
 exact Subscript_ (w9o ha hb I h λ v u s2 x y H2 I2 rx ry q=>hr a b pins s2 σ H2 x y v u Q I2 rx ry q (hs _ _))
def v2j (K:W.Frag):R2:=λ x y H Q=>∃p xs i v,x=.ref p/\y=.int i/\SqL K H p xs/\atI xs i=some v/\Q v H
def v2h (K:W.Frag):R2:=λ x y H Q=>∃p xs i v,x=.ref p/\y=.int i/\SqT K H p xs/\atI xs i=some v/\Q v H
theorem z6u:IxR X (v2j X.K):=by
 intro value slice pins s σ H x y v u Q I rx ry h hs
 obtain ⟨p,xs,i,z,rfl,rfl,hq,he,q⟩:=h
 cases rx
 obtain ⟨t,rfl⟩:=ry
 obtain ⟨its,r,pl,hz⟩:=I.list hq
 obtain ⟨j,h1,h2,h3,h4,h5⟩:=x6e he
 obtain ⟨w,ew,rw'⟩:=r.get h2
 have hl:=r.length
 have hn:=y3j
 have fin:EP X pins σ Q w s:=⟨z,H,I,rw',q⟩
 by_cases h0:0≤i
 ·have hj:i.toNat=j:=by
   rw [seqIndex_of h0 h5] at h1
   exact Option.some.inj h1
  exact item_listR pl.isList h0 (by lia) (by rw [hj];simpa using ew) fin hs
 ·have hj:(i+(its.toArray.size:Int)).toNat=j:=by
   rw [seqIndex_neg (by lia) h4] at h1
   rw [List.size_toArray,← hl]
   exact Option.some.inj h1
  exact subscriptTail_builtinR (x:=w) pl.isList.typeIs slot_list_getitem.lookup
   (wpAny_getItem_list_neg (Q:=λ r s'=>r=w/\EP X pins σ Q r s') pl.isList (by lia) (by rw [List.size_toArray]<;>lia) (by lia) (by rw [hj];simpa using ew) ⟨rfl,fin⟩) hs
theorem w7w:IxR X (v2h X.K):=by
 intro value slice pins s σ H x y v u Q I rx ry h hs
 obtain ⟨p,xs,i,z,rfl,rfl,hq,he,q⟩:=h
 cases rx
 obtain ⟨t,rfl⟩:=ry
 obtain ⟨its,r,pl,hz⟩:=I.tuple hq
 obtain ⟨j,h1,h2,h3,h4,h5⟩:=x6e he
 obtain ⟨w,ew,rw'⟩:=r.get h2
 have hl:=r.length
 have hn:=y3j
 have fin:EP X pins σ Q w s:=⟨z,H,I,rw',q⟩
 exact subscriptTail_builtinR (x:=w) pl.typeIs slot_tuple_getitem.lookup
  (getItem_tuple (j:=j) (Q:=λ r s'=>r=w/\EP X pins σ Q r s') pl (by lia) (by lia) (by rw [List.size_toArray,← hl];exact h1) (by simpa using ew) ⟨rfl,fin⟩) hs
theorem y9p (its:List Value) (n j:Nat) (u:Value):Obj.mapSeq (·.setIfInBounds j u) { cls:=.type "list",data:=.seq its.toArray n }={ cls:=.type "list",data:=.seq (its.set j u).toArray n }:=by
 simp [Obj.mapSeq]
theorem Inv.lst {pins:List (Addr × Obj)}{σ:St}{H:Hp}{s:Shared}{p:Addr}{xs:List V}(I:Inv X pins σ H s) (h:H p=some (.lst xs)) :
  ∃(its:List Value) (n:Nat),Vals xs its/\s.heap.get? p=some { cls:=.type "list",data:=.seq its.toArray n }/\xs.length≤sizeLine:=by
 obtain ⟨z,its,n,r,e⟩:=I.hok p _ h
 exact ⟨its,n,r,e,z⟩
theorem Inv.lstUpd {pins:List (Addr × Obj)}{σ:St}{H:Hp}{s:Shared}{p:Addr}{xs ys:List V}{its its':List Value}{n n':Nat}{f:Obj->Obj}(I:Inv X pins σ H s) (h:H p=some (.lst xs))
  (ho:s.heap.get? p=some { cls:=.type "list",data:=.seq its.toArray n }) (hf:f { cls:=.type "list",data:=.seq its.toArray n }={ cls:=.type "list",data:=.seq its'.toArray n' }) (r:Vals ys its') (hz:ys.length≤sizeLine) (t:Nat) :
  Inv X pins σ (upd H p (.lst ys)) { s with heap:=s.heap.update p f,toks:=t }:=by
 have e:(s.heap.update p f).get? p=some { cls:=.type "list",data:=.seq its'.toArray n' }:=by
  rw [Heap.get?_update_self f ho (by rw [hf]<;>rfl),hf]
 refine I.write (x:=p) (e:=p) (by rw [h];trivial) (.inl rfl) (λ b u hb q=>(Heap.get?_update_other _ _ (Ne.symm hb)).trans q) ⟨_,e⟩ ?_
 exact ⟨hz,its',n',r,e⟩
def w6b:V->V->V->Hp->(Hp->Prop)->Prop:=λ o i v H Q=>∃p xs k j,o=.ref p/\i=.int k/\H p=some (.lst xs)/\ixN xs.length k=some j/\Q (upd H p (.lst (xs.set j v)))
theorem z5x:v2x X w6b:=by
 intro pins s σ H o i v ov iv u Q I ro ri rv h
 obtain ⟨p,xs,k,j,rfl,rfl,hp,hj,q⟩:=h
 cases ro
 obtain ⟨t,rfl⟩:=ri
 obtain ⟨its,n,r,ho,hz⟩:=I.lst hp
 obtain ⟨h1,h2,h3,h4⟩:=x4i hj
 have hl:=r.length
 have hn:=y3j
 have I':Inv X pins σ (upd H p (.lst (xs.set j v))) { s with heap:=s.heap.update p (Obj.mapSeq (·.setIfInBounds j u)) } :=
  I.lstUpd hp ho (y9p its n j u) (r.set rv j) (by rw [List.length_set];exact hz) s.toks
 by_cases h0:0≤k
 ·have hk:k.toNat=j:=by
   rw [seqIndex_of h0 h4] at h1
   exact Option.some.inj h1
  exact W.ki_setAt ho h0 (by lia) (by rw [List.size_toArray,← hl];exact h4) (by rw [hk];exact ⟨_,I',q⟩)
 ·have hk:(k+(its.toArray.size:Int)).toNat=j:=by
   rw [seqIndex_neg (by lia) h3] at h1
   rw [List.size_toArray,← hl]
   exact Option.some.inj h1
  exact W.ki_setBack ho (by lia) (by rw [List.size_toArray,← hl];exact h3) (by lia) (by rw [hk];exact ⟨_,I',q⟩)
theorem y2h (lo hi:Option Int) (n:Nat):(sliceBounds lo hi none n).1=((HT.sIx n 0 lo:Nat):Int)/\(sliceBounds lo hi none n).2.1=((HT.sIx n n hi:Nat):Int)/\(sliceBounds lo hi none n).2.2=1:=by
 refine ⟨?_,?_,rfl⟩
 ·cases lo with
  | none=>simp [sliceBounds,HT.sIx]
  | some i =>
   simp only [sliceBounds,HT.sIx,Option.getD_none,show (1:Int) > 0 by decide,if_true]
   by_cases h:i < 0
   ·simp only [h,if_true]<;>lia
   ·simp only [h,if_false]<;>lia
 ·cases hi with
  | none=>simp [sliceBounds,HT.sIx]
  | some i =>
   simp only [sliceBounds,HT.sIx,Option.getD_none,show (1:Int) > 0 by decide,if_true]
   by_cases h:i < 0
   ·simp only [h,if_true]<;>lia
   ·simp only [h,if_false]<;>lia
theorem y0m (its:List Value) (lo hi:Option Int):slicePick its.toArray lo hi none=((its.drop (HT.sIx its.length 0 lo)).take (HT.sIx its.length its.length hi - HT.sIx its.length 0 lo)).toArray:=by
 obtain ⟨h1,h2,h3⟩:=y2h lo hi its.toArray.size
 unfold slicePick
 rw [h1,h2,h3]
 simp only [sliceRange_one,pick_run,List.size_toArray]<;>rfl
def w4u (K:W.Frag):V->Option Int->Option Int->Hp->VK->Prop:=λ x lo hi H Q=>∃a xs,x=.ref a/\SqL K H a xs/\∀p,H p=none->Q (.ref p) (upd H p (.lst (z9h xs lo hi)))
theorem z6n:SlR X (w4u X.K):=by
 intro pins s σ H x v vl vu lo hi sl Q I rx hs pl pu h
 obtain ⟨a,xs,rfl,hx,q⟩:=h
 cases rx
 obtain ⟨its,r,ht,hz⟩:=I.list hx
 have hlen:=r.length
 refine ⟨"list",_,slot_list_getitem.lookup,ht.isList.typeIs,?_⟩
 refine wpAny_getItem_list_slice ht.isList hs pl pu .none (by simp) ?_ (by rw [List.size_toArray]<;>lia)
 rw [y0m,← hlen]
 refine ⟨.ref s.heap.objs.size,_,I.laid (t':=s.toks) (o:=.lst (z9h xs lo hi)) (λ b ob q=>Heap.get?_push_of_some _ q) (Nat.le_refl _) ?_,rfl,q _ (I.hok.fresh (Nat.le_refl _))⟩
 exact ⟨Nat.le_trans (y5p xs lo hi) hz,_,0,(r.drop (HT.sIx xs.length 0 lo)).take (HT.sIx xs.length xs.length hi - HT.sIx xs.length 0 lo),Heap.get?_push_size _ rfl⟩
def z1r:V->Bool
 | .non=>true
 | .bl _=>true
 | .int _=>true
 | .str _=>true
 | _=>false
def eqV:V->V->Bool
 | .non,.non=>true
 | .bl a,.bl b=>a == b
 | .bl a,.int b=>(if a then 1 else 0) == b
 | .int a,.bl b=>a == (if b then 1 else 0)
 | .int a,.int b=>a == b
 | .str a,.str b=>a == b
 | _,_=>false
theorem x4z {A:Around}{s:Shared}{y x:V}{u v:Value}(ry:RelV y u) (rx:RelV x v) (fy:z1r y=true) (fx:z1r x=true):SeqAt.EqAt A s u v (eqV y x):=by
 cases y with
 | non =>
  cases ry
  cases x with
  | non=>cases rx;exact SeqAt.EqAt.same _
  | bl b=>cases rx;exact SeqAt.EqAt.none_bool b
  | int b=>obtain ⟨t,rfl⟩:=rx;exact SeqAt.EqAt.none_int b t
  | str b=>obtain ⟨t,rfl⟩:=rx;exact SeqAt.EqAt.none_str b t
  | _=>exact absurd (show false=true from fx) Bool.false_ne_true
 | bl a =>
  cases ry
  cases x with
  | non=>cases rx;exact SeqAt.EqAt.bool_none a
  | bl b=>cases rx;exact SeqAt.EqAt.bool_bool a b
  | int b=>obtain ⟨t,rfl⟩:=rx;exact SeqAt.EqAt.bool_int a b t
  | str b=>obtain ⟨t,rfl⟩:=rx;exact SeqAt.EqAt.bool_str a b t
  | _=>exact absurd (show false=true from fx) Bool.false_ne_true
 | int a =>
  obtain ⟨t',rfl⟩:=ry
  cases x with
  | non=>cases rx;exact SeqAt.EqAt.int_none a t'
  | bl b=>cases rx;exact SeqAt.EqAt.int_bool a t' b
  | int b=>obtain ⟨t,rfl⟩:=rx;exact SeqAt.EqAt.int_int a t' b t
  | str b=>obtain ⟨t,rfl⟩:=rx;exact SeqAt.EqAt.int_str a t' b t
  | _=>exact absurd (show false=true from fx) Bool.false_ne_true
 | str a =>
  obtain ⟨t',rfl⟩:=ry
  cases x with
  | non=>cases rx;exact SeqAt.EqAt.str_none a t'
  | bl b=>cases rx;exact SeqAt.EqAt.str_bool a t' b
  | int b=>obtain ⟨t,rfl⟩:=rx;exact SeqAt.EqAt.str_int a t' b t
  | str b=>obtain ⟨t,rfl⟩:=rx;exact SeqAt.EqAt.str_str a t' b t
  | _=>exact absurd (show false=true from fx) Bool.false_ne_true
 | _=>exact absurd (show false=true from fy) Bool.false_ne_true
def eqU (x:V) (u:Value):Bool:=match u with
 | .none=>eqV .non x
 | .bool b=>eqV (.bl b) x
 | .int i _=>eqV (.int i) x
 | .str z _=>eqV (.str z) x
 | _=>false
theorem y8c {x y:V}{u:Value}(r:RelV y u) (f:z1r y=true):eqU x u=eqV y x:=by
 cases y with
 | non=>cases r;rfl
 | bl b=>cases r;rfl
 | int i=>obtain ⟨t,rfl⟩:=r;rfl
 | str z=>obtain ⟨t,rfl⟩:=r;rfl
 | _=>exact absurd (show false=true from f) Bool.false_ne_true
theorem y5s {x:V}:∀ {xs:List V}{us:List Value},Vals xs us->xs.all z1r=true->us.any (eqU x)=xs.any λ y=>eqV y x
 | _,_,.nil,_=>rfl
 | y::xs,u::us,.cons r t,f=>by
  rw [List.all_cons,Bool.and_eq_true] at f
  rw [List.any_cons,List.any_cons,y8c r f.1,y5s t f.2]
theorem y1j {A:Around}{s:Shared}{x:V}{v:Value}(rx:RelV x v) (fx:z1r x=true):∀ {xs:List V}{us:List Value},Vals xs us->xs.all z1r=true->∀u∈us,SeqAt.EqAt A s u v (eqU x u)
 | _,_,.nil,_=>λ u hu=>by cases hu
 | y::xs,u::us,.cons r t,f=>λ u' hu=>by
  rw [List.all_cons,Bool.and_eq_true] at f
  rcases List.mem_cons.mp hu with rfl | hu
  ·rw [y8c r f.1];exact x4z r rx f.1 fx
  ·exact y1j rx fx t f.2 u' hu
def inV (x:V) (xs:List V):Bool:=xs.any λ y=>eqV y x
def rIn (K:W.Frag) (neg:Bool):R2:=λ x y H Q=>∃p xs,y=.ref p/\(SqL K H p xs\/SqT K H p xs)/\z1r x=true/\xs.all z1r=true/\Q (.bl (if neg then !inV x xs else inV x xs)) H
theorem x2w:OpR X (compareOp .In) (rIn X.K false):=by
 intro pins s σ H x y v u Q I rx ry h
 obtain ⟨p,xs,rfl,hq,fx,fs,q⟩:=h
 cases ry
 rcases hq with hq | hq
 ·obtain ⟨its,r,pl,hz⟩:=I.list hq
  refine SeqAt.in_listAt (eqU x) pl.isList (λ w hw=>y1j rx fx r fs w (by simpa using hw)) ⟨.bl _,H,I,rfl,?_⟩
  rw [show its.toArray.any (eqU x)=its.any (eqU x) by simp,y5s r fs]
  exact q
 ·obtain ⟨its,r,pl,hz⟩:=I.tuple hq
  refine SeqAt.in_tupleAt (eqU x) pl (λ w hw=>y1j rx fx r fs w (by simpa using hw)) ⟨.bl _,H,I,rfl,?_⟩
  rw [show its.toArray.any (eqU x)=its.any (eqU x) by simp,y5s r fs]
  exact q
theorem z0y:z4l X (.builtin "len") (λ xs H Q=>∃p ys,xs=[.ref p]/\(SqL X.K H p ys\/SqT X.K H p ys)/\Q (.int ys.length) H):=by
 intro pins s σ H xs us Q I r h
 obtain ⟨p,ys,rfl,hq,q⟩:=h
 obtain ⟨u,rfl,rx⟩:=z5r r
 cases rx
 have hn:=y3j
 rcases hq with hq | hq
 ·obtain ⟨its,r',pl,hz⟩:=I.list hq
  have hlen:=r'.length
  exact Calls.call_len_list pl.isList (by simp only [List.size_toArray]<;>lia) ⟨.int ys.length,H,I.tok _,⟨s.toks+1,by rw [List.size_toArray,hlen]⟩,q⟩
 ·obtain ⟨its,r',pl,hz⟩:=I.tuple hq
  have hlen:=r'.length
  exact len_tuple pl (by simp only [List.size_toArray]<;>lia) ⟨.int ys.length,H,I.tok _,⟨s.toks+1,by rw [List.size_toArray,hlen]⟩,q⟩
theorem z4z:z4l X (.builtin "len") (λ xs H Q=>∃z,xs=[.str z]/\z.length≤sizeLine/\Q (.int z.length) H):=by
 intro pins s σ H xs us Q I r h
 obtain ⟨z,rfl,hz,q⟩:=h
 obtain ⟨u,rfl,t,rfl⟩:=z5r r
 have hn:=y3j
 exact len_str (by lia) ⟨.int z.length,H,I.tok _,⟨_,rfl⟩,q⟩
theorem y3x:z4l X (.type "list") (λ xs H Q=>∃p ys,xs=[.ref p]/\(SqL X.K H p ys\/SqT X.K H p ys)/\∀l,H l=none->Q (.ref l) (upd H l (.lst ys))):=by
 intro pins s σ H xs us Q I r h
 obtain ⟨p,ys,rfl,hq,q⟩:=h
 obtain ⟨u,rfl,rx⟩:=z5r r
 cases rx
 have fin:∀(its:List Value),Vals ys its->ys.length≤sizeLine->∀(h':Heap) (c':Nat),(∀b o',s.heap.get? b=some o'->h'.get? b=some o') ->
   h'.get? s.heap.objs.size=some { cls:=.type "list",dict:=none,data:=.seq its.toArray c',slots:=#[] }->EP X pins σ Q (.ref s.heap.objs.size) { s with heap:=h' }:=λ its r' hz h' c' kp e =>
  ⟨.ref s.heap.objs.size,_,I.laid (t':=s.toks) kp (Nat.le_refl _) (show ObjOk X.prog X.w _ h' _ (.lst ys) from ⟨hz,its,c',r',e⟩),rfl,q _ (I.hok.fresh (Nat.le_refl _))⟩
 rcases hq with hq | hq
 ·obtain ⟨its,r',pl,hz⟩:=I.list hq
  have hlen:=r'.length
  obtain ⟨o,ho,hc,n,hd⟩:=pl.isList
  exact call_list_seq p (.inl rfl) ho hc hd (λ h' c' kp e=>fin its r' hz h' c' kp e) (by simp only [List.size_toArray]<;>lia)
 ·obtain ⟨its,r',pl,hz⟩:=I.tuple hq
  have hlen:=r'.length
  obtain ⟨o,ho,hc,n,hd⟩:=pl
  exact call_list_seq p (.inr rfl) ho hc hd (λ h' c' kp e=>fin its r' hz h' c' kp e) (by simp only [List.size_toArray]<;>lia)
theorem z1t:z4l X (.type "tuple") (λ xs H Q=>∃p ys,xs=[.ref p]/\((SqL X.K H p ys/\∀l,H l=none->Q (.ref l) (upd H l (.tup ys)))\/(SqT X.K H p ys/\Q (.ref p) H))):=by
 intro pins s σ H xs us Q I r h
 obtain ⟨p,ys,rfl,h⟩:=h
 obtain ⟨u,rfl,rx⟩:=z5r r
 cases rx
 rcases h with ⟨hq,q⟩ | ⟨hq,q⟩
 ·obtain ⟨its,r',pl,hz⟩:=I.list hq
  have hlen:=r'.length
  refine call_tuple_list pl.isList (λ h' kp=>?_) (by simp only [List.size_toArray]<;>lia)
  have I1:Inv X pins σ H { s with heap:=h' }:=I.kept (t':=s.toks) kp
  have I2:Inv X pins σ (upd H h'.objs.size (.tup ys)) { s with heap:=h'.push { cls:=.type "tuple",data:=.seq its.toArray } } :=
   I1.laid (t':=s.toks) (λ b o e=>Heap.get?_push_of_some _ e) (Nat.le_refl _) (show ObjOk X.prog X.w _ _ _ (.tup ys) from ⟨hz,its,r',IsTup.new _ _⟩)
  exact ⟨.ref h'.objs.size,_,I2,rfl,q _ (I1.hok.fresh (Nat.le_refl _))⟩
 ·obtain ⟨its,r',pl,hz⟩:=I.tuple hq
  exact call_tuple_same pl ⟨.ref p,H,I,rfl,q⟩
def tyV (K:W.Frag) (T:String) (x:V) (H:Hp):Prop:=match x with
 | .str _=>T="str"
 | .int _=>T="int"
 | .ref p=>(T="list" /\ ∃xs,SqL K H p xs)\/(T="tuple" /\ ∃o,K.lookup p=some o/\o.cls=.type "tuple" /\ o.dict=none) \/
   (T="dict" /\ ((∃kvs,H p=some (.dK kvs))\/∃kvs,H p=some (.dT kvs)))\/(T="set" /\ ∃S n,H p=some (.set S n))
 | _=>False
theorem y5z {pins:List (Addr × Obj)}{σ:St}{H:Hp}{s:Shared}{T:String}{x:V}{v:Value}(I:Inv X pins σ H s) (r:RelV x v) (ty:tyV X.K T x H) :
  s.TypeIs v T/\∀a,v=.ref a->∃ob,s.heap.get? a=some ob/\ob.dict=none:=by
 cases x with
 | str z =>
  obtain ⟨t,rfl⟩:=r
  cases (show T="str" from ty)
  exact ⟨typeIs_str s z t,λ _ e=>nomatch e⟩
 | int i =>
  obtain ⟨t,rfl⟩:=r
  cases (show T="int" from ty)
  exact ⟨typeIs_int s i t,λ _ e=>nomatch e⟩
 | ref p =>
  cases r
  rcases ty with ⟨rfl,xs,hq⟩ | ⟨rfl,o,hk,hc,hd⟩ | ⟨rfl,hk⟩ | ⟨rfl,S,n,hk⟩
  ·obtain ⟨its,_,pl,_⟩:=I.list hq
   refine ⟨pl.isList.typeIs,λ a e=>?_⟩
   cases e
   obtain ⟨o,n,e,c,hd,_⟩:=pl
   exact ⟨o,e,hd⟩
  ·refine ⟨⟨o,I.kIn p o hk,hc⟩,λ a e=>?_⟩
   cases e
   exact ⟨o,I.kIn _ o hk,hd⟩
  ·have z:∃o,s.heap.get? p=some o/\o.ExactDict:=by
    rcases hk with ⟨kvs,hk⟩ | ⟨kvs,hk⟩
    ·obtain ⟨_,_,_,_,o,_,_,e,ex,_⟩:=I.hok p _ hk
     exact ⟨o,e,ex⟩
    ·obtain ⟨_,_,_,_,o,_,_,e,ex,_⟩:=I.hok p _ hk
     exact ⟨o,e,ex⟩
   obtain ⟨o,e,ex⟩:=z
   refine ⟨⟨o,e,ex.1⟩,λ a e2=>?_⟩
   cases e2
   exact ⟨o,e,ex.2.1⟩
  ·obtain ⟨o,_,_,_,e,ex,_⟩:=I.hok p _ hk
   refine ⟨⟨o,e,ex.1⟩,λ a e2=>?_⟩
   cases e2
   exact ⟨o,e,ex.2.1⟩
 | _=>exact False.elim ty
def v2c (K:W.Frag) (T:String) (r:V->List V->Hp->VK->Prop) (to:TE):TE:=λ σ H Q=>to σ H λ x H1=>tyV K T x H1/\r x [] H1 Q
def tBM (K:W.Frag) (T:String) (r:V->List V->Hp->VK->Prop) (to:TE) (t:TA):TE:=λ σ H Q=>to σ H λ x H1=>tyV K T x H1/\t σ H1 λ xs H2=>r x xs H2 Q
variable {o e:Expr}{es:List Expr}{to:TE}{t:TA}{name:Str}{apos cpos:Pos}{T id:String}{r:V->List V->Hp->VK->Prop}
theorem w0p (pa:PlainAttrs T) (slot:Slot T name id) (hty:typeOf (.builtin id)=pure (.type "method_descriptor")) (hm:MtR X id r) (ho:PE X o to)
  (hbase:attributeBase o name X.env (eval o X.env)=eval o X.env:=by rfl) (hline:(apos.endLine == cpos.line)=true:=by rfl):PE X (.Call (.Attribute o name apos) [] [] cpos) (v2c X.K T r to):=by
 intro pins s σ H Q I h
 refine wpAny_Call_method0_late hbase hline (thn (ho pins s σ H _ I h) λ v s1 ⟨x,H1,I1,r1,ty,q1⟩=>?_)
 obtain ⟨h1,h2⟩:=y5z I1 r1 ty
 exact ⟨T,id,pa,slot,hty,h1,h2,Calls.callWith_builtin rfl (PySem.evalArgs_none (hm pins s1 σ H1 x [] v [] Q I1 r1 .nil q1))⟩
theorem y3b (pa:PlainAttrs T) (slot:Slot T name id) (hty:typeOf (.builtin id)=pure (.type "method_descriptor")) (hm:MtR X id r) (ho:PE X o to) (ha:PA X (e::es) t)
  (hbase:attributeBase o name X.env (eval o X.env)=eval o X.env:=by rfl)
  (hfew:((backTo cpos (starEach (e::es) X.env)).all (λ x=>!x.1) && (backToKw cpos (keywordEach [] X.env)).all (λ x=>x.1.isSome)
   && decide ((e::es).length+([]:List Keyword).length+(if ([]:List Keyword).isEmpty then 0 else 1) < 30))=true:=by rfl)
  (hline:(apos.endLine == cpos.line)=true:=by rfl) (hs:starEach (e::es) X.env=(false,eval e X.env)::starEach es X.env:=by rfl) (hplain:(backTo cpos (starEach es X.env)).any (·.1)=false:=by rfl) :
  PE X (.Call (.Attribute o name apos) (e::es) [] cpos) (tBM X.K T r to t):=by
 intro pins s σ H Q I h
 refine wpAny_Call_method_late hbase hfew hline rfl (thn (ho pins s σ H _ I h) λ v s1 ⟨x,H1,I1,r1,ty,q1⟩=>?_)
 obtain ⟨h1,h2⟩:=y5z I1 r1 ty
 refine ⟨T,id,pa,slot,hty,h1,h2,?_⟩
 have hA:=ha cpos pins s1 σ H1 _ I1 q1
 rw [hs] at hA ⊢
 refine Calls.callWith_builtin (by show (false || (backTo cpos (starEach es X.env)).any (·.1))=false;rw [hplain]<;>rfl) (Calls.evalArgs_plain ?_)
 exact thn hA λ us s2 ⟨vs,H2,I2,r2,q2⟩=>hm pins s2 σ H2 x vs v us Q I2 r1 r2 q2
end
def MtM (X:Cx) (id:String) (r:V->List V->Hp->VK->Prop):Prop :=
 ∀(pins:List (Addr × Obj)) (s:Shared) (σ:St) (H:Hp) (x:V) (xs:List V) (v:Value) (us:List Value) (Q:VK),Inv X pins σ H s->RelV x v->Vals xs us->r x xs H Q ->
  wpAny (model X.prog X.w) X.A (call (.builtin id) (v::us)) (EP X pins σ Q) X.xe s
theorem Vals.one:∀ {x:V}{us:List Value},Vals [x] us->∃u,us=[u]/\RelV x u
 | _,_,.cons r .nil=>⟨_,rfl,r⟩
theorem Vals.two:∀ {x y:V}{us:List Value},Vals [x,y] us->∃u v,us=[u,v]/\RelV x u/\RelV y v
 | _,_,_,.cons r (.cons q .nil)=>⟨_,_,rfl,r,q⟩
theorem Vals.zero:∀ {us:List Value},Vals [] us->us=[]
 | _,.nil=>rfl
theorem Vals.dropLast {xs:List V}{us:List Value}(h:Vals xs us):Vals xs.dropLast us.dropLast:=by
 induction h with
 | nil=>exact .nil
 | cons r t ih =>
  cases t with
  | nil=>exact .nil
  | cons q t'=>exact .cons r ih
theorem Vals.eraseIdx:∀ {xs:List V}{us:List Value}(i:Nat),Vals xs us->Vals (xs.eraseIdx i) (us.eraseIdx i)
 | _,_,_,.nil=>.nil
 | _,_,0,.cons _ t=>t
 | _,_,i+1,.cons r t=>.cons r (Vals.eraseIdx i t)
theorem Vals.rep {xs:List V}{us:List Value}(h:Vals xs us):∀k:Nat,Vals (List.replicate k xs).flatten (List.replicate k us).flatten
 | 0=>.nil
 | k+1=>by
  rw [List.replicate_succ,List.replicate_succ,List.flatten_cons,List.flatten_cons]
  exact Vals.append h (Vals.rep h k)
theorem y3l {α:Type}:∀(l:List α) (i:Nat),(l.eraseIdx i).length≤l.length
 | [],_=>Nat.le_refl _
 | _::_,0=>Nat.le_succ _
 | _::r,i+1=>Nat.succ_le_succ (y3l r i)
theorem y3q (its:List Value):∀(k:Nat) (acc:List Value),
  List.foldl (λ x1 x2=>x1++x2) acc.toArray (List.replicate k its.toArray)=(acc++(List.replicate k its).flatten).toArray
 | 0,acc=>by simp
 | k+1,acc=>by
  have e:acc.toArray++its.toArray=(acc++its).toArray:=by simp
  have e2:(acc++its)++(List.replicate k its).flatten=acc++(List.replicate (k+1) its).flatten:=by
   rw [List.replicate_succ,List.flatten_cons,List.append_assoc]
  rw [← e2,← y3q its k (acc++its),← e,List.replicate_succ,List.foldl_cons]
section
variable {X:Cx}{pins:List (Addr × Obj)}{σ:St}{H:Hp}{s:Shared}{l b:Addr}{xs ys zs:List V}
theorem Inv.lset {its its':List Value}{n:Nat}{f:Array Value->Array Value}{t':Nat}(I:Inv X pins σ H s) (hH:H l=some (.lst xs))
  (e:s.heap.get? l=some { cls:=.type "list",data:=.seq its.toArray n }) (hf:f its.toArray=its'.toArray) (hv:Vals ys its') (hz:ys.length≤sizeLine) :
  Inv X pins σ (upd H l (.lst ys)) { s with heap:=s.heap.update l (Obj.mapSeq f),toks:=t' }:=by
 have q:=PySem.IsL.update e f
 rw [hf] at q
 refine I.write (x:=l) (e:=l) (by rw [hH];exact trivial) (.inl rfl) (λ b' u hb hu=>(Heap.get?_update_other s.heap (Obj.mapSeq f) (Ne.symm hb)).trans hu) ⟨_,q⟩ ?_
 exact ⟨hz,its',_,hv,q⟩
theorem Inv.lnew {its:List Value}{t':Nat}(I:Inv X pins σ H s) (hv:Vals ys its) (hz:ys.length≤sizeLine) :
  Inv X pins σ (upd H s.heap.objs.size (.lst ys)) { s with heap:=s.heap.push { cls:=.type "list",data:=.seq its.toArray },toks:=t' } :=
 I.laid (λ _ _ q=>Heap.get?_push_of_some _ q) (Nat.le_refl _) ⟨hz,its,0,hv,Heap.get?_push_size _ rfl⟩
theorem Inv.fresh (I:Inv X pins σ H s):H s.heap.objs.size=none:=I.hok.fresh (Nat.le_refl _)
theorem Inv.lstM (I:Inv X pins σ H s) (hH:H l=some (.lst xs)):xs.length≤sizeLine/\∃(its:List Value) (n:Nat),Vals xs its/\xs.length=its.length/\s.heap.get? l=some { cls:=.type "list",data:=.seq its.toArray n }:=by
 obtain ⟨z,its,n,r,e⟩:=I.hok l _ hH
 exact ⟨z,its,n,r,r.length,e⟩
theorem x8a {n:Nat}(h:n≤sizeLine):Builtin.List.listTooLong n=false:=by
 unfold Builtin.List.listTooLong
 exact decide_eq_false (by lia)
end
section
variable {X:Cx}
def w2d:V->List V->Hp->VK->Prop:=λ x vs H Q=>∃l xs y,x=.ref l/\vs=[y]/\H l=some (.lst xs)/\xs.length < sizeLine/\Q .non (upd H l (.lst (xs++[y])))
theorem x3s:MtM X "list.append" w2d:=by
 intro pins s σ H x vs v us Q I rx rv h
 obtain ⟨l,xs,y,rfl,rfl,hH,hz,q⟩:=h
 cases rx
 obtain ⟨u,rfl,ru⟩:=rv.one
 obtain ⟨z,its,n,r,hl,e⟩:=I.lstM hH
 refine call_meets F.slot_list_append ⟨_,e,rfl⟩ F.entry_list_append (F.args_list_append_2 _ _) (PySem.list_append l its.toArray n u (by rw [List.size_toArray];lia)) ⟨e,?_⟩
 refine ⟨.non,_,I.lset (its':=its++[u]) hH e (by simp) (r.append (.cons ru .nil)) ?_,rfl,q⟩
 rw [List.length_append,List.length_singleton]
 lia
def w2b:V->List V->Hp->VK->Prop:=λ x vs H Q=>∃l b xs zs,x=.ref l/\vs=[.ref b]/\H l=some (.lst xs)/\H b=some (.lst zs)/\xs.length+zs.length≤sizeLine/\Q .non (upd H l (.lst (xs++zs)))
def x1w:V->List V->Hp->VK->Prop:=λ x vs H Q=>∃l xs i k y,x=.ref l/\vs=[.int i]/\H l=some (.lst xs)/\-(2 ^ 63)≤i/\i < 2 ^ 63/\seqIndex? i xs.length=some k/\xs[k]?=some y/\Q y (upd H l (.lst (xs.eraseIdx k)))
theorem x8f:MtM X "list.pop" x1w:=by
 intro pins s σ H x vs v us Q I rx rv h
 obtain ⟨l,xs,i,k,y,rfl,rfl,hH,h1,h2,hk,hy,q⟩:=h
 cases rx
 obtain ⟨u,rfl,ru⟩:=rv.one
 obtain ⟨t,rfl⟩:=ru
 obtain ⟨z,its,n,r,hl,e⟩:=I.lstM hH
 obtain ⟨w,hw,rw'⟩:=r.get hy
 refine call_meets F.slot_list_pop ⟨_,e,rfl⟩ F.entry_list_pop (F.args_list_pop_2 _ _)
  (MeetsSeq.list_pop_at l its.toArray n i t k w (fitsIndex_both h1 h2) (by rw [List.size_toArray,← hl];exact hk) (by rw [← Array.getElem?_toList];exact hw) (by rw [List.size_toArray];lia)) ⟨e,?_⟩
 refine ⟨y,_,I.lset (its':=its.eraseIdx k) hH e ?_ (r.eraseIdx k) ?_,rw',q⟩
 ·show its.toArray.eraseIdxIfInBounds k=(its.eraseIdx k).toArray
  rw [List.eraseIdxIfInBounds_toArray]
 ·have:=y3l xs k
  lia
def w6j:V->List V->Hp->VK->Prop:=λ x vs H Q=>∃l xs,x=.ref l/\vs=[]/\H l=some (.lst xs)/\Q .non (upd H l (.lst []))
def v2n:R2:=λ x y H Q=>∃l b xs zs,x=.ref l/\y=.ref b/\H l=some (.lst xs)/\H b=some (.lst zs)/\xs.length+zs.length≤sizeLine/\∀p,H p=none->Q (.ref p) (upd H p (.lst (xs++zs)))
theorem z2l:OpR X (binaryOp .Add) v2n:=by
 intro pins s σ H x y v u Q I rx ry h
 obtain ⟨l,b,xs,zs,rfl,rfl,hH,hB,hz,q⟩:=h
 cases rx
 cases ry
 obtain ⟨z,its,n,r,hl,e⟩:=I.lstM hH
 obtain ⟨z2,its2,n2,r2,hl2,e2⟩:=I.lstM hB
 refine PySem.P.add_list e e2 ?_ (by rw [List.size_toArray,List.size_toArray];lia)
 have ea:its.toArray++its2.toArray=(its++its2).toArray:=by simp
 rw [ea]
 exact ⟨.ref _,_,I.lnew (t':=s.toks) (r.append r2) (by rw [List.length_append];lia),rfl,q _ I.fresh⟩
def v2g:R2:=λ x y H Q=>∃l k xs,x=.ref l/\y=.int k/\H l=some (.lst xs)/\-(2 ^ 63)≤k/\k < 2 ^ 63/\xs.length * k.toNat≤sizeLine /\
 ∀p,H p=none->Q (.ref p) (upd H p (.lst (List.replicate k.toNat xs).flatten))
theorem w3e {α:Type}(xs:List α) (k:Nat):(List.replicate k xs).flatten.length=k * xs.length:=by
 induction k with
 | zero=>simp
 | succ k ih=>rw [List.replicate_succ,List.flatten_cons,List.length_append,ih,Nat.succ_mul,Nat.add_comm]
theorem w7f:OpR X (binaryOp .Mult) v2g:=by
 intro pins s σ H x y v u Q I rx ry h
 obtain ⟨l,k,xs,rfl,rfl,hH,h1,h2,hz,q⟩:=h
 cases rx
 obtain ⟨t,rfl⟩:=ry
 obtain ⟨z,its,n,r,hl,e⟩:=I.lstM hH
 have hlen:its.toArray.size * k.toNat≤sizeLine:=by rw [List.size_toArray,← hl];exact hz
 have hcap:¬its.toArray.size * k.toNat > (2 ^ 63 - 1) / 8:=by
  have:(sizeLine:Nat)≤(2 ^ 63 - 1) / 8:=by decide
  lia
 have hfit:¬(!Builtin.List.listFitsIndex k)=true:=by
  rw [fitsIndex_both h1 h2]
  exact Bool.false_ne_true
 have hlong:¬Builtin.List.listTooLong (its.toArray.size * k.toNat)=true:=by
  rw [x8a hlen]
  exact Bool.false_ne_true
 have hnew:List.foldl (λ x1 x2=>x1++x2) #[] (List.replicate (if its.toArray.isEmpty=true then 0 else k.toNat) its.toArray)=(List.replicate k.toNat its).flatten.toArray:=by
  have f0:∀m:Nat,List.foldl (λ x1 x2=>x1++x2) #[] (List.replicate m its.toArray)=(List.replicate m its).flatten.toArray:=λ m=>by
   have:=y3q its m []
   rw [List.nil_append] at this
   exact this
  rw [f0]
  cases its with
  | nil=>simp
  | cons a r'=>rw [if_neg (by simp)]
 refine wpAny_binaryOp_repeat_ref (T := "list") (U := "int") (by decide) ⟨_,e,rfl⟩ (λ s'=>typeIs_int s' k t) noFill_list_mul F.fills_int_mul F.slot_int_rmul repeat_list F.slot_int_index.lookup
  (call_meets F.slot_int_rmul (typeIs_int s k t) F.entry_int_rmul (F.args_int_rmul_2 _ _) (int___rmul___int_list k t l its.toArray n)
   ⟨e,rfl,⟨_,e,rfl⟩,call_meets F.slot_list_mul ⟨_,e,rfl⟩ F.entry_list_mul (F.args_list_mul_2 _ _) (AutoListH.list___mul___list_int_3 l its.toArray n k t hfit hcap hlong) ⟨e,?_⟩⟩)
 rw [hnew]
 exact ⟨.ref _,_,I.lnew (t':=s.toks) (r.rep k.toNat) (by rw [w3e,Nat.mul_comm];exact hz),rfl,q _ I.fresh⟩
end
section
variable {prog:Program}{w:World}{A:Around}{E:Value->Shared->Prop}{s:Shared}
end
section
variable {X:Cx}
end
end L2
namespace Att
open PySem PySem.W PySem.Calls PyProof.Rows
theorem z8t {P:Params}{h:Heap}:∀(ns:List Int) (vs:List Value),WellAll P h vs (ns.map WData.int)->IntsAre vs ns:=by
 intro ns
 induction ns with
 | nil =>
  intro vs w
  rw [List.map_nil] at w
  cases w
  exact .nil
 | cons n ns ih =>
  intro vs w
  rw [List.map_cons] at w
  cases w with
  | cons a b =>
   cases a
   exact .cons _ _ (ih _ b)
theorem x1d {l:OpenLaw}{n:Nat}(hn:l.most=some n) {P:Params}{h:Heap}{args:List WData}{vals:List Value}
  (hpre:l.row.toRowW.claim.pre args=true) (hwl:WellAll P h vals args) :
  ∃a vs ns,vals=[Value.ref a]/\args=[WData.list (ns.map WData.int)]/\h.get? a=some { cls:=.type "list",data:=.seq vs.toArray }/\IntsAre vs ns/\ns.length≤n:=by
 have hsh:WShape.hasAll [] args [.list .int]=true:=(pre_splitW hpre).1
 have hc:l.pre.holds [] { args:=args }=true:=(pre_splitW hpre).2
 obtain ⟨d,r,rfl,h1,h2⟩:=hasAllW_cons hsh
 obtain rfl:=hasAllW_nil h2
 obtain ⟨xs,rfl,h3⟩:=hasW_list h1
 obtain ⟨ns,rfl⟩:=items_int h3
 have hlen:ns.length≤n:=by
  unfold OpenLaw.pre at hc
  have h4:(WTm.not (.lt (.lit (.int (n:Int))) (.len (.arg 0)))).holds [] { args:=[.list (ns.map .int)] }=true:=by
   have h4:=(holds_andW hc).1
   rw [hn] at h4
   exact h4
  have h5:=condW_of h4 (w_not (w_lt w_lit (w_len_list (w_arg rfl))))
  rw [List.length_map] at h5
  refine Nat.le_of_not_lt λ q=>?_
  have q':(n:Int) < ((ns.length:Nat):Int):=by lia
  first
   | (rw [decide_eq_true q'] at h5;exact absurd h5 (by decide))
   | (simp at h5;lia)
 cases hwl with
 | cons w1 w2 =>
  cases w2
  cases w1 with
  | list ho hall=>exact ⟨_,_,ns,rfl,rfl,ho,z8t ns _ hall,hlen⟩
theorem x2h (l:OpenLaw) (args:List WData):l.row.toRowW.claim.post args (.bool true) args=true :=
 postW_of (r:=l.row.toRowW) (X:=(true == true))
  (show WShape.has [] (.bool true) .bool=true by first | rfl | decide | simp [WShape.has,WShape.arms,WShape.armsAll])
  (show (WTm.eq .res (.lit (.bool true))).value [] { args:=args,res:=some (.bool true),after:=args }=some (.bool (true == true)) from w_eq_bool (w_res rfl) w_lit) rfl
theorem attach_call {l:OpenLaw}{n:Nat}{q:Program}{loose:List Str}{XP:(Str->Option Value)->Heap->Prop}{YP:World->Heap->Prop}{d:DefRec}
  (hn:l.most=some n) (hdf:d.params.defaults=[])
  (call:∀(w:World) (s₀ s₁:Shared) (mg mb:Str->Option Value) (fa:Addr) (o:Obj) (pm cd doc:Value) (a:Addr) (vs:List Value) (ns:List Int),
   Ground q loose [] XP w s₀ mg mb s₁.heap->YP w s₁.heap ->
   s₁.heap.get? fa=some o->o.data=.func (docDef d.name d.params d.body d.scope pm cd doc)->s₁.heap.CodeRec cd d.name->mg d.name=some (.ref fa) ->
   s₁.heap.get? a=some { cls:=.type "list",data:=.seq vs.toArray }->IntsAre vs ns->ns.length≤n->s₁.gens=#[] ->
   codeAny (model l.prog w) callerA (.call (.ref fa) ⟨[.ref a],[]⟩) (λ r s'=>r=.ok (.ret (.bool true))/\OldK s₁.heap s'.heap/\s'.os=s₁.os/\AllBare s'.gens) s₁) :
  WalkO q loose XP YP l.row.toRowW d [] (λ f vs=>PySem.call f vs):=by
 intro w s₀ s₁ mg mb G Y fa o pm cd doc dV kV ho hd hcd hD hmg hg args vals as hpre hlay hrd hwl hlo
 obtain rfl:dV=.none:=Dflts.none hD hdf
 obtain rfl:kV=.none:=Dflts.noKw hD
 obtain ⟨a,vs,ns,rfl,rfl,hobj,hints,hlen⟩:=x1d hn hpre hwl
 refine enter_call (codeAny_mono (call w s₀ s₁ mg mb fa o pm cd doc a vs ns G Y ho (fd_plain hd) hcd hmg hobj hints hlen hg) λ r s' hq=>?_)
 obtain ⟨rfl,h2,h3,h4⟩:=hq
 exact ⟨.inl ⟨.bool true,.bool true,[],rfl,λ _=>rfl,.bool true,x2h l _,λ _=>⟨List.Pairwise.nil,λ _ hm=>(nomatch hm)⟩⟩,h2,h3,h4⟩
section
variable {prog:Program}{w:World}{A:Around}{E:Value->Shared->Prop}{s:Shared}{K:Frag}
end
end Att
namespace L2
open PySem PySem.Spec PyProof.Rows
theorem y1v:∀ {vs:List Value}{ns:List Int},IntsAre vs ns->Vals (ns.map V.int) vs
 | _,_,.nil=>.nil
 | _,_,.cons n t h=>.cons ⟨t,rfl⟩ (y1v h)
def v1p (H:Hp):Prop:=∀b,H b=none\/∃o xs,H b=some (.frz o (.lst xs))
theorem x8l {P:Program}{w:World}{K:W.Frag}{mg mb:Str->Option Value}{CX:CXT}{k:Nat}{fa a:Addr}{fd:FuncData}{x:Str}{sp:Sp}{s₁:Shared}{vs:List Value}{ns:List Int}
  (KX:K.In s₁.heap) (hns:s₁.heap.Ns mainGlobals mg) (hb:s₁.heap.Ns builtinsNs mb) (hbb:∀x:Str,x ≠ "__name__" -> mb x=bootBuiltins x) (hlim:s₁.heap.NoLimit) (hg:s₁.gens=#[])
  (ha:s₁.heap.get? a=some { cls:=.type "list",data:=.seq vs.toArray }) (hi:IntsAre vs ns) (hl:ns.length≤sizeLine) (hr:Room k callerA)
  (F:∀base:Heap,K.In base->base.Ns mainGlobals mg->FnOk P w K mg base CX k fa fd [x] sp) (hbind:∀(s:Shared) (u:Value),BindsTo s fd ⟨[u],[]⟩ [(x,u)])
  (hsp:∀H:Hp,v1p H->SqL K H a (ns.map V.int)->sp [.ref a] H (λ v _=>v=.bl true) λ _ _ _=>False)
  (hCX:∀H e s',CX [] H s₁ (λ _ _ _=>False) e s'->False) :
  codeAny (model P w) callerA (.call (.ref fa) ⟨[.ref a],[]⟩) (λ r s'=>r=.ok (.ret (.bool true))/\OldK s₁.heap s'.heap/\s'.os=s₁.os/\AllBare s'.gens) s₁:=by
 have rv:=y1v hi
 have lenV:=hi.length
 have core:∀H:Hp,v1p H->SqL K H a (ns.map V.int)->HOk P w H s₁.heap->(∀b,H b≠none->b=a)->(H a≠none->K.lookup a=none) ->
   codeAny (model P w) callerA (.call (.ref fa) ⟨[.ref a],[]⟩) (λ r s'=>r=.ok (.ret (.bool true))/\OldK s₁.heap s'.heap/\s'.os=s₁.os/\AllBare s'.gens) s₁:=by
  intro H hO hS hok hA hK
  have base_of:∀ {b:Addr}{o:Obj},s₁.heap.get? b=some o->H b=none->(x8u s₁.heap H).get? b=some o:=λ e n=>x8t e n
  have noA:∀ {b:Addr}{o:Obj}{es:Array DictEntry}{ep:Nat},s₁.heap.get? b=some o->o.data=.dict es ep->H b=none:=λ {b o es ep} e d=>by
   cases q:H b with
   | none=>rfl
   | some u =>
    have e':b=a:=hA b (by rw [q];simp)
    subst e'
    rw [ha] at e;cases e
    have d':Data.seq vs.toArray _=Data.dict es ep:=d
    cases d'
  have nsK:∀ {b:Addr}{m:Str->Option Value},s₁.heap.Ns b m->(x8u s₁.heap H).Ns b m:=λ {b m} ⟨o,es,ep,e,d,r⟩=>⟨o,es,ep,base_of e (noA e d),d,r⟩
  have hKb:K.In (x8u s₁.heap H):=λ b o e=>base_of (KX b o e) (by
   cases q:H b with
   | none=>rfl
   | some u =>
    have e':b=a:=hA b (by rw [q];simp)
    subst e'
    rw [hK (by rw [q];simp)] at e;cases e)
  have hM:Mod K mg (x8u s₁.heap H):=⟨hKb,nsK hns,⟨mb,nsK hb,hbb⟩,let ⟨mc,h1,h2⟩:=hlim;⟨mc,nsK h1,h2⟩⟩
  have e0:Env0 P w K mg (x8u s₁.heap H) callerA [] s₁ H:=⟨rfl,hM,λ b o e=>w2x e,Nat.le_of_eq (x4k _ _),trivial,λ b hb=>absurd (show b∈([]:List Addr) from hb) (by simp),hok,.of_eq hg⟩
  refine codeAny_mono ((F _ hKb (nsK hns)).run callerA [] s₁ H ⟨[.ref a],[]⟩ [.ref a] [.ref a] _ _ hr e0 (hbind s₁ (.ref a)) (.cons rfl .nil) (hsp H hO hS)) λ r s' h=>?_
  cases r with
  | error e=>exact (hCX H e s' h).elim
  | ok fl =>
   cases fl with
   | next=>exact False.elim h
   | brk=>exact False.elim h
   | cont=>exact False.elim h
   | ret u =>
    obtain ⟨v,H',os,bare,un,hok',r',q⟩:=h
    have q':v=.bl true:=q
    subst q'
    obtain rfl:u=Value.bool true:=r'
    refine ⟨rfl,OldK.of_keep λ b o e=>?_,os,bare⟩
    cases q:H b with
    | none=>exact un.keep b o e q (by intro z;exact absurd (show b∈([]:List Addr) from z) (by simp)) (by simp)
    | some u =>
     rcases hO b with z | ⟨ob,xs,z⟩
     ·rw [q] at z;cases z
     ·have z2:=un.frzs b ob _ z
      obtain ⟨e1,_⟩:=hok b _ z
      obtain ⟨e2,_⟩:=hok' b _ z2
      rw [e] at e1;cases e1
      exact e2
 cases hk:K.lookup a with
 | some o =>
  have e:=KX a o hk
  rw [ha] at e
  cases e
  refine core (λ _=>none) (λ _=>.inl rfl) (.inr ⟨_,vs.toArray,_,hk,rfl,rfl,rfl,by rw [List.size_toArray,lenV];exact hl,by simpa using rv⟩) (λ b u z=>by have z':(none:Option HO)=some u:=z;cases z') (λ b z=>absurd rfl z) λ z=>absurd rfl z
 | none =>
  refine core (λ b=>if b=a then some (.frz { cls:=.type "list",data:=.seq vs.toArray } (.lst (ns.map V.int))) else none) (λ b=>?_) (.inl (.inr ⟨{ cls:=.type "list",data:=.seq vs.toArray },if_pos rfl⟩)) (λ b u z=>?_) (λ b z=>?_) λ _=>hk
  ·by_cases hb:b=a
   ·exact .inr ⟨_,_,if_pos hb⟩
   ·exact .inl (if_neg hb)
  ·by_cases hb:b=a
   ·have z':=(if_pos hb).symm.trans z
    cases z'
    subst hb
    exact ⟨ha,by rw [List.length_map];exact hl,vs,_,rv,ha⟩
   ·have z':=(if_neg hb).symm.trans z
    cases z'
  ·by_cases hb:b=a
   ·exact hb
   ·exact absurd (if_neg hb) z
theorem walk_of {l:W.OpenLaw}{n k:Nat}{q:Program}{loose:List Str}{XP:(Str->Option Value)->Heap->Prop}{YP:World->Heap->Prop}{d:DefRec}{K:Params->W.Frag}{CX:World->CXT}{sp:World->Sp}{x:Str}
  (hn:l.most=some n) (hn2:n≤sizeLine) (hdf:d.params.defaults=[]) (hr:Room k callerA)
  (hY:∀(w:World) (h:Heap),YP w h->(K w.params).In h)
  (F:∀(w:World) (mg:Str->Option Value) (fa:Addr) (h:Heap),(K w.params).In h->h.Ns mainGlobals mg->mg d.name=some (.ref fa) ->
   ∃fd:FuncData,(∀(s:Shared) (u:Value),BindsTo s fd ⟨[u],[]⟩ [(x,u)]) /\
    ∀base:Heap,(K w.params).In base->base.Ns mainGlobals mg->FnOk l.prog w (K w.params) mg base (CX w) k fa fd [x] (sp w))
  (hsp:∀(w:World) (H:Hp) (a:Addr) (ns:List Int),ns.length≤n->v1p H->SqL (K w.params) H a (ns.map V.int)->sp w [.ref a] H (λ v _=>v=.bl true) λ _ _ _=>False)
  (hCX:∀(w:World) (H:Hp) (s:Shared) (e:Value) (s':Shared),CX w [] H s (λ _ _ _=>False) e s'->False) :
  W.WalkO q loose XP YP l.row.toRowW d [] (λ f vs=>PySem.call f vs):=by
 refine Att.attach_call hn hdf λ w s₀ s₁ mg mb fa o pm cd doc a vs ns G Y ho hd hcd hmg hobj hints hlen hg=>?_
 have KX:=hY w _ Y
 obtain ⟨fd,hb,hF⟩:=F w mg fa _ KX G.T.g hmg
 exact x8l KX G.T.g G.T.b G.T.builtins G.T.nolimit hg hobj hints (Nat.le_trans hlen hn2) hr hF hb (λ H hO hS=>hsp w H a ns hlen hO hS) λ H e s'=>hCX w H s₁ e s'
def z2d (s:Stmt):Arguments:=match s with
 | .FunctionDef _ a _ _ _ _ _ _ _ _=>a
 | _=>{ posonlyargs:=[],args:=[],vararg:=none,kwonlyargs:=[],kw_defaults:=[],kwarg:=none,defaults:=[] }
def z1a (s:Stmt):List Stmt:=match s with
 | .FunctionDef _ _ b _ _ _ _ _ _ _=>b
 | _=>[]
def z0m (s:Stmt):Scope:=match s with
 | .FunctionDef _ _ _ _ _ _ sc _ _ _=>sc
 | _=>{ kind:=.function,names:=[],isGenerator:=false,isCoroutine:=false }
abbrev CX0:CXT:=λ _ _ _ _ _ _=>False
abbrev E0:XK:=λ _ _ _=>False
theorem z1g {X:Cx}:z8z CX0 X E0:=λ _ _ _ _ _ _ _ h=>h.elim
structure Fun (K:W.Frag) (x qual:Str) (st:Stmt) (f:Addr) (fd:FuncData):Prop where
 ex:∃(oc:Value) (od:Option Addr) (kV doc pm:Value) (an:Option Addr) (cdv ct:Value) (osl:Array (Option Value)),
  fd=W.fnOf x qual (z2d st) (z1a st) (z0m st) .none kV doc pm an cdv ct/\K.lookup f=some ⟨oc,od,.func fd,osl⟩/\W.codeIn K cdv qual=true
 kp:W.keepIn K (.ref f)=true
section
variable {P:Program}{w:World}{K:W.Frag}{mg:Str->Option Value}{base:Heap}
theorem Fun.ok {x qual:Str}{st:Stmt}{f:Addr}{fd:FuncData}{N ps:List Str}{k:Nat}{sp:Sp}(F:Fun K x qual st f fd) (S:FnScope N ps (z0m st)) (len:∀vs H Q E,sp vs H Q E->vs.length=ps.length)
  (hbody:∀(cdv:Value) (A:Around) (outer:List Env) (s:Shared) (H:Hp) (vs:List V) (Q:VK) (E:XK),Room k (A.deeper (envOfC qual (z0m st) s.heap.objs.size f cdv))->sp vs H Q E ->
   ∃t,PSs (y5o CX0 P w K mg base N qual (z0m st) f cdv A outer s H E).nox (z1a st) t/\t { nx:=λ _ H'=>Q .non H',rt:=Q } (start N vs) H):FnOk P w K mg base CX0 (k+1) f fd ps sp:=by
 obtain ⟨oc,od,kV,doc,pm,an,cdv,ct,osl,rfl,lk,hcd⟩:=F.ex
 refine w3t lk hcd S len λ A outer s H vs Q E hr hsp=>?_
 obtain ⟨t,h,q⟩:=hbody cdv A outer s H vs Q E hr hsp
 exact ⟨t,h.nox,q⟩
theorem Fun.binds {x qual:Str}{st:Stmt}{f:Addr}{fd:FuncData}{ps:List Str}(F:Fun K x qual st f fd)
  (h:∀(kV doc pm:Value) (an:Option Addr) (cdv ct:Value) (us:List Value),us.length=ps.length->bindArgs (W.fnOf x qual (z2d st) (z1a st) (z0m st) .none kV doc pm an cdv ct) ⟨us,[]⟩=pure (ps.zip us)):Binds K fd ps []:=by
 obtain ⟨oc,od,kV,doc,pm,an,cdv,ct,osl,rfl,lk,hcd⟩:=F.ex
 exact .all (h kV doc pm an cdv ct)
theorem w0w {x qual:Str}{st:Stmt}{f:Addr}{oc:Value}{od an:Option Addr}{osl:Array (Option Value)}{kV doc pm cdv ct:Value}(l:K.lookup f=some ⟨oc,od,.func (W.fnOf x qual (z2d st) (z1a st) (z0m st) .none kV doc pm an cdv ct),osl⟩)
  (c:W.codeIn K cdv qual=true) (k:W.keepIn K (.ref f)=true):Fun K x qual st f (W.fnOf x qual (z2d st) (z1a st) (z0m st) .none kV doc pm an cdv ct):=⟨⟨oc,od,kV,doc,pm,an,cdv,ct,osl,rfl,l,c⟩,k⟩
end
theorem z1i {n:Nat}(h:n≤1000):n < sizeLine:=Nat.lt_of_le_of_lt h (by decide)
section
variable {X:Cx}
theorem pv (i:Nat) {x:Str}{pos:Pos}(hN:X.N[i]?=some x:=by rfl) (hv:Vis X.env.scope x:=by first | exact Or.inl rfl | exact Or.inr (Or.inl rfl) | exact Or.inr (Or.inr rfl)) (hd:(x == ("__debug__" : Str))=false:=by decide)
  (hcd:(x == ("__classdict__" : Str))=false:=by decide):PE X (.Name x pos) (w9t i):=w6y hN hv hd hcd
end
def Same (H H':Hp):Prop:=∀b o,H b=some o->H' b=some o
theorem Same.refl (H:Hp):Same H H:=λ _ _ h=>h
theorem Same.trans {H H1 H2:Hp}(a:Same H H1) (b:Same H1 H2):Same H H2:=λ c o h=>b c o (a c o h)
theorem Same.free {H H':Hp}(e:Same H H') {l:Addr}(h:H' l=Option.none):H l=Option.none:=by
 cases q:H l with
 | none=>rfl
 | some o =>
  rw [e l o q] at h
  cases h
theorem Same.seq {K:W.Frag}{H H':Hp}{a:Addr}{xs:List V}(e:Same H H') (h:SqL K H a xs):SqL K H' a xs:=by
 rcases h with (h | ⟨o,h⟩) | h
 ·exact .inl (.inl (e _ _ h))
 ·exact .inl (.inr ⟨o,e _ _ h⟩)
 ·exact .inr h
end L2
set_option maxHeartbeats 4000000
namespace L2
open PySem PySem.Spec PyProof.Rows
section
variable {prog:Program}{w:World}{A:Around}{R:Result->Shared->Prop}{s:Shared}
theorem y3u {elt target iter:Expr}{scope:Scope}{pos:Pos}{it acc:Value}{env:Env}(I:Nat->Shared->Prop)
  (turn:∀n s,I n s->wpAny (model prog w) A (pyNext it) (λ r s₁=>match r with
   | none=>R (.ok .next) s₁
   | some v=>wpAny (model prog w) A (letOwnedTupleGo target it v) (λ _ s₀=>wpAny (model prog w) A (assign target env v) (λ _ s₂=>wpAny (model prog w) A (eval elt env) (λ x s₃ =>
     wpAny (model prog w) A (call (.builtin "list.append") [acc,x]) (λ _ s₄=>∃m,m < n/\I m s₄) (λ _ _=>False) s₃)
     (λ _ _=>False) s₂) (λ _ _=>False) s₀) (λ _ _=>False) s₁) (λ _ _=>False) s)
  (n:Nat) (h:I n s) :
  codeAny (model prog w) A (.compLoop (.ListComp elt [⟨target,iter,[],0⟩] scope pos) 0 it acc env) R s:=by
 refine codeAny_loop rfl I (λ n s hI=>?_) n h
 show wpAny _ _ ((compTurn (.ListComp elt [⟨target,iter,[],0⟩] scope pos) 0 it acc env).onRaise (λ x=>do noteFrame x env;theTreesLotGoes x)) _ _ s
 refine wpAny_noted ?_
 rw [compTurn_list1]
 refine wpAny_bind (wpAny_standAt (wpAny_bind (wpAny_mono (turn n s hI) (λ r s₁ h₁=>?_) λ _ _ h'=>h'.elim)))
 cases r with
 | none=>exact wpAny_pure h₁
 | some v =>
  refine wpAny_bind (wpAny_mono h₁ (λ _ s₀ h₀=>?_) λ _ _ h'=>h'.elim)
  exact wpAny_bind (wpAny_mono h₀ (λ _ s₂ h₂=>wpAny_bind (wpAny_bind (wpAny_mono h₂ (λ x s₃ h₃=>wpAny_bind (wpAny_mono h₃
   (λ _ s₄ h₄=>wpAny_pure (wpAny_pure ⟨rfl,h₄⟩)) λ _ _ h'=>h'.elim)) λ _ _ h'=>h'.elim))) λ _ _ h'=>h'.elim)
end
def z3p (X:Cx) (N:List Str) (scope:Scope) (cl:List (Str × Addr)) (C:Addr) (ex:List Addr) (s:Shared) (H:Hp):Cx where
 prog:=X.prog
 w:=X.w
 K:=X.K
 mg:=X.mg
 base:=X.base
 A:=X.A
 N:=N
 s₀:=s
 H₀:=H
 env:=compEnvC scope cl C X.env
 outer:=X.stack
 stack:=X.stack
 ex:=ex
 fn:=λ _=>false
 calm:=X.calm
 pn:=X.pn
 xe:=λ _ _=>False
def z1k (k:Nat) (js:List Nat) (σ:St):St:=List.replicate k none++js.map λ j=>(σ[j]?).join
def z4g (wi:TI) (k:Nat) (js:List Nat) (g:TG) (te:TE):TE:=λ σ H Q=>wi σ H λ J H1 =>
 ∃W:Nat->Nat->List V->St->Hp->Prop,(∃m,W 0 m [] (z1k k js σ) H1)/\∀i m ys σ' H',W i m ys σ' H' ->
  (J.stop i H'/\∀p,H' p=none->Q (.ref p) (upd H' p (.lst ys))) \/
  (J.go i H'/\ys.length < sizeLine/\∃N:List V->St->Hp->Prop,(∀zs σ2 H2,N zs σ2 H2->∃m',m' < m/\W (i+1) m' zs σ2 H2) /\
   ∀x H2,J.yld i H' x H2->g x σ' H2 λ σ3 H3=>te σ3 H3 λ v H4=>N (ys++[v]) σ3 H4)
structure Cap (X:Cx) (scope:Scope) (cl:List (Str × Addr)) (x:Str) (j:Nat):Prop where
 at_:X.N[j]?=some x
 out:X.env.scope.names.lookup x=some .cell\/X.env.scope.names.lookup x=some .free
 inn:(relabel scope X.env).names.lookup x=some .cell\/(relabel scope X.env).names.lookup x=some .free
theorem x4h {σ:St}{j:Nat}{v:V}(h:(σ[j]?).join=some v):σ[j]?=some (some v):=by
 cases e:σ[j]? with
 | none=>rw [e] at h;cases h
 | some o =>
  rw [e] at h
  cases o with
  | none=>cases h
  | some u=>cases h;rfl
def z6y (wi:TI) (k:Nat) (js:List Nat) (g:TG) (tc:TT) (te:TE):TE:=λ σ H Q=>wi σ H λ J H1 =>
 ∃W:Nat->Nat->List V->St->Hp->Prop,(∃m,W 0 m [] (z1k k js σ) H1)/\∀i m ys σ' H',W i m ys σ' H' ->
  (J.stop i H'/\∀p,H' p=none->Q (.ref p) (upd H' p (.lst ys))) \/
  (J.go i H'/\ys.length < sizeLine/\∃N:List V->St->Hp->Prop,(∀zs σ2 H2,N zs σ2 H2->∃m',m' < m/\W (i+1) m' zs σ2 H2) /\
   ∀x H2,J.yld i H' x H2->g x σ' H2 λ σ3 H3=>tc σ3 H3 λ b H4=>if b=true then te σ3 H4 λ v H5=>N (ys++[v]) σ3 H5 else N ys σ3 H4)
abbrev w9e:=Program->World->Around->Env->(Bool->Shared->Prop)->Shared->Prop
def w9f (ifs:List Expr) (T:w9e):Prop:=(∀ {prog:Program}{w:World}{A:Around}{R:Result->Shared->Prop}{s:Shared}{elt target iter:Expr}{scope:Scope}{pos:Pos}{it acc:Value}{env:Env}(I:Nat->Shared->Prop),
  (∀n s,I n s->wpAny (model prog w) A (pyNext it) (λ r s₁=>match r with
   | none=>R (.ok .next) s₁
   | some v=>wpAny (model prog w) A (letOwnedTupleGo target it v) (λ _ s₀=>wpAny (model prog w) A (assign target env v) (λ _ s₂=>T prog w A env (λ b s₃ =>
     if b=true then wpAny (model prog w) A (eval elt env) (λ x s₄ =>
      wpAny (model prog w) A (call (.builtin "list.append") [acc,x]) (λ _ s₅=>∃m,m < n/\I m s₅) (λ _ _=>False) s₄) (λ _ _=>False) s₃
     else ∃m,m < n/\I m s₃) s₂) (λ _ _=>False) s₀) (λ _ _=>False) s₁) (λ _ _=>False) s)->∀n,I n s ->
  codeAny (model prog w) A (.compLoop (.ListComp elt [⟨target,iter,ifs,0⟩] scope pos) 0 it acc env) R s) /\
 ∀ {p w A e k k' s},T p w A e k s->(∀b s,k b s->k' b s)->T p w A e k' s
def v1u:w9e:=λ _ _ _ _ k s=>k true s
theorem v0w:w9f [] v1u:=⟨λ I t n h=>y3u I t n h,λ h m=>m _ _ h⟩
def PM (X:Cx) (T:w9e) (tc:TT):Prop:=∀(pins:List (Addr × Obj)) (s:Shared) (σ:St) (H:Hp) (K:Bool->Hp->Prop),Inv X pins σ H s->tc σ H K->T X.prog X.w X.A X.env (λ b s'=>∃H',Inv X pins σ H' s'/\K b H') s
theorem y9z {X:Cx}{elt tg iter:Expr}{ifs:List Expr}{T0:w9e}{scope:Scope}{cl:List (Str × Addr)}{pos:Pos}{own fv:List Str}{js:List Nat}{wi:TI}{g:TG}{tc:TT}{te:TE}
    (hc:X.calm=true) (hi:PI X tg iter wi) (hclos:closureFor scope X.env=pure cl) (hcell:∀y∈scope.names,y.2≠.cell) (hkind:scope.kind=.function)
    (hnames:∀y∈scope.names,y.2=.local->scope.names.lookup y.1=some .local)
    (hcl:∀x c,cl.lookup x=some c->X.env.cells.lookup x=some c)
    (hhas:∀x,((relabel scope X.env).names.lookup x=some .cell\/(relabel scope X.env).names.lookup x=some .free)->∃c,cl.lookup x=some c)
    (hlen:js.length=fv.length) (hcap:∀(i:Nat) x j,fv[i]?=some x->js[i]?=some j->Cap X scope cl x j)
    (hg:∀(C:Addr) (ex:List Addr) (s:Shared) (H:Hp),PG (z3p X (own++fv) scope cl C ex s H) tg g)
    (he:∀(C:Addr) (ex:List Addr) (s:Shared) (H:Hp),PE (z3p X (own++fv) scope cl C ex s H) elt te)
    (ht:∀(C:Addr) (ex:List Addr) (s:Shared) (H:Hp),PM (z3p X (own++fv) scope cl C ex s H) T0 tc) (lp:w9f ifs T0)
    (hs:∀x,foldedSetIterable iter X.env x=pure x)
    {pins:List (Addr × Obj)}{s:Shared}{σ:St}{H:Hp}{Q:VK}{use:Option (Value->Sem Unit)}{QQ:Value->Shared->Prop}{fpos:Pos}(I:Inv X pins σ H s) (h:z6y wi own.length js g tc te σ H Q)
    (fin:∀(a C:Addr) (s5:Shared) (H5:Hp) (fl:Flow),Inv X pins σ H5 s5->H5 C=none->C≠X.env.locals->X.s₀.heap.objs.size≤C->(∀x c,X.env.cells.lookup x=some c->c≠C)->(∀p∈X.pn++pins,p.1≠C)->(∃m,s5.heap.Ns C m)->Q (.ref a) H5->compPost (model X.prog X.w) X.A X.xe use QQ (.ref a) C (.ok fl) s5) :
    wpAny (model X.prog X.w) X.A (comprehension (.ListComp elt [⟨tg,iter,ifs,0⟩] scope pos) scope X.env fpos (newList []) false (firstIter [⟨tg,iter,ifs,0⟩] X.env) use) QQ X.xe s:=by
  refine wpAny_comprehension_free (use:=use) rfl hs hclos hkind hnames (thn (hi pins s σ H _ I h) λ v s1 h1=>thn h1 λ itv s2 h2=>?_)
  obtain ⟨it,fp,tn,J,H2,e,I2,T,st2,f2,W,⟨m0,w0⟩,turn⟩:=h2
  subst e
  refine wpAny_newObj_type (wpAny_newFunctionEnv hcell (by intro y hy;simp at hy) (λ h₁ hns₁ hsb₁=>?_) hkind)
  dsimp only at hns₁ hsb₁ ⊢
  generalize hHp:s2.heap.push { cls:=.type "list",dict:=none,data:=.seq ([]:List Value).toArray }=hL at hns₁ hsb₁ ⊢
  have hC:hL.objs.size=s2.heap.objs.size+1:=by rw [← hHp,Heap.size_push]
  have hDC:s2.heap.objs.size≠hL.objs.size:=by rw [hC];exact Nat.ne_of_lt (Nat.lt_succ_self _)
  have ltC:∀b,b < s2.heap.objs.size->b≠hL.objs.size:=λ b hb=>by rw [hC];exact Nat.ne_of_lt (Nat.lt_succ_of_lt hb)
  have old:∀b o,s2.heap.get? b=some o->h₁.get? b=some o:=λ b o e=>hsb₁.extBut b o (ltC b (Heap.lt_size e)) (Heap.get?_push_of_some _ (hHp ▸ Heap.get?_push_of_some _ e))
  have hacc:h₁.get? s2.heap.objs.size=some { cls:=.type "list",data:=.seq ([]:List Value).toArray 0 }:=hsb₁.extBut _ _ hDC (Heap.get?_push_of_some _ (hHp ▸ Heap.get?_push_size _ rfl))
  have hfresh:∀a,s2.heap.objs.size≤a->H2 a=none:=λ a ha=>I2.hok.fresh ha
  have fpL:∀b∈fp,b < s2.heap.objs.size:=λ b hb=>by
    obtain ⟨o,e,_⟩:=T.obj _ _ st2 b hb
    exact Heap.lt_size e
  have cellL:∀x c,cl.lookup x=some c->c < s2.heap.objs.size:=λ x c e=>by
    obtain ⟨v,q⟩:=I2.cell x c (hcl x c e)
    exact q.lt
  have pinL:∀p∈X.pn++pins,p.1 < s2.heap.objs.size:=λ p hp=>Heap.lt_size (I2.pin p hp).1
  generalize hX:z3p X (own++fv) scope cl hL.objs.size fp s2 H2=Y
  have ok:Y.Ok:=by
    subst hX
    refine ⟨I2.ok.mod,hkind,I2.ok.glob,I2.ok.blt,by show s2.heap.objs.size≤hL.objs.size;lia,λ x y c h1 h2=>I2.ok.inj x y c (hcl x c h1) (hcl y c h2),λ x hx=>hhas x hx,
      λ x c hf=>absurd hf (by show ¬(false=true);decide),I2.ok.hd,I2.ok.frames,.inl rfl,λ b hb=>⟨ltC b (fpL b hb),λ x c e=>(f2 b hb).2.2.2.2.1 x c (hcl x c e)⟩,I2.bs,Nat.le_trans I2.ok.bsz I2.sz,λ b o e hb=>?_,λ b hb hz=>?_,I2.stack,I2.stkFree⟩
    · rcases (f2 b hb).2.2.2.1 with z | z
      · exact I2.ok.noex b o e z
      · exact absurd (Nat.lt_of_lt_of_le (Heap.lt_size e) (Nat.le_trans I2.ok.bsz z)) (Nat.lt_irrefl _)
    · rcases List.mem_cons.mp (I2.stkSub b hz) with z | z
      · exact (f2 b hb).2.1 z
      · exact (f2 b hb).2.2.1 z
  have hYl:Y.env.locals=hL.objs.size:=by subst hX;rfl
  have hYs:Y.s₀=s2:=by subst hX;rfl
  have hYH:Y.H₀=H2:=by subst hX;rfl
  have hYx:Y.ex=fp:=by subst hX;rfl
  have hYf:Y.fs=frs X.stack:=by subst hX;rfl
  have hYc:Y.env.cells=cl:=by subst hX;rfl
  have hYp:Y.pn=X.pn:=by subst hX;rfl
  have pinOk:∀p∈X.pn++pins,s2.heap.get? p.1=some p.2/\H2 p.1=none/\p.1≠hL.objs.size/\p.1 ∉ frs X.stack/\∀v,p.2.data≠.cell v:=λ p hp=>by
    obtain ⟨e,n,ne,nf,d⟩:=I2.pin p hp
    refine ⟨e,n,ltC _ (Heap.lt_size e),λ z=>?_,d⟩
    rcases List.mem_cons.mp (I2.stkSub _ z) with q | q
    · exact ne q
    · exact nf q
  have stkL:∀b∈frs X.stack,b < s2.heap.objs.size:=λ b hb=>by
    obtain ⟨_,o,ho,_⟩:=I2.stack.mem hb
    exact Heap.lt_size ho
  have I3:Inv Y (pins++[(s2.heap.objs.size,{ cls:=.type "list",data:=.seq ([]:List Value).toArray 0 })]) (z1k own.length js σ) H2 { s2 with heap:=h₁,toks:=s2.toks+([]:List (Str × Value)).length }:=by
    refine ⟨ok,by subst hX;rfl,I2.bare,by rw [hYH,hYs];exact Un.kept old,⟨_,by rw [hYl];exact hns₁,λ i x v e1 e2 e3=>?_⟩,λ x c e=>?_,by rw [hYl];exact hfresh _ (by lia),λ x c e=>?_,λ p hp=>?_,by subst hX;exact I2.hok.kept old,?_⟩
    · subst hX
      have e1:(own++fv)[i]?=some x:=e1
      unfold z1k at e2
      by_cases hi:i < own.length
      · rw [List.getElem?_append_left (by simpa using hi),List.getElem?_replicate] at e2
        split at e2<;>cases e2
      · rw [List.getElem?_append_right (by simpa using hi),List.length_replicate,List.getElem?_map] at e2
        rw [List.getElem?_append_right (by lia)] at e1
        cases ej:js[i - own.length]? with
        | none=>rw [ej] at e2;cases e2
        | some j =>
          rw [ej] at e2
          have cp:=hcap _ x j e1 ej
          have e2':σ[j]?=some (some v):=x4h (Option.some.inj e2)
          obtain ⟨m,hn,hl⟩:=I2.loc
          obtain ⟨u,r,l⟩:=hl j x v cp.at_ e2' (cp.out.elim (λ z=>.inr (.inl z)) λ z=>.inr (.inr z))
          refine ⟨u,r,.inr ⟨cp.inn,?_⟩⟩
          obtain ⟨c,ec⟩:=hhas x cp.inn
          rcases l with ⟨k,_⟩ | ⟨_,c',ec',z⟩
          · have k:X.env.scope.names.lookup x=some .local:=k
            rcases cp.out with q | q<;>rw [q] at k<;>cases k
          · rw [hcl x c ec] at ec'
            cases ec'
            obtain ⟨o,ho,hd⟩:=z
            exact ⟨c,ec,o,old _ _ ho,hd⟩
    · rw [hYc] at e
      obtain ⟨v,o,ho,hd⟩:=I2.cell x c (hcl x c e)
      exact ⟨v,o,old _ _ ho,hd⟩
    · rw [hYc] at e
      exact I2.freeC x c (hcl x c e)
    · rw [hYp] at hp
      rw [hYl,hYf]
      rcases List.mem_append.mp hp with z | z
      · obtain ⟨a,b,c,d,f⟩:=pinOk p (List.mem_append_left _ z)
        exact ⟨old _ _ a,b,c,d,f⟩
      · rcases List.mem_append.mp z with z | z
        · obtain ⟨a,b,c,d,f⟩:=pinOk p (List.mem_append_right _ z)
          exact ⟨old _ _ a,b,c,d,f⟩
        · have e:p=_:=List.mem_singleton.mp z
          subst e
          exact ⟨hacc,hfresh _ (Nat.le_refl _),hDC,λ z=>absurd (stkL _ z) (Nat.lt_irrefl _),λ v z=>by cases z⟩
    · subst hX
      unfold z1k
      show _=(own++fv).length
      simp [hlen]
  have hYprog:Y.prog=X.prog:=by subst hX;rfl
  have hYw:Y.w=X.w:=by subst hX;rfl
  have hYK:Y.K=X.K:=by subst hX;rfl
  have hYA:Y.A=X.A:=by subst hX;rfl
  have hYcalm:Y.calm=true:=by subst hX;exact hc
  have hYxe:Y.xe=λ _ _=>False:=by subst hX;rfl
  have hYenv:Y.env=compEnvC scope cl hL.objs.size X.env:=by subst hX;rfl
  have hg':=hg hL.objs.size fp s2 H2
  have he':=he hL.objs.size fp s2 H2
  have ht':=ht hL.objs.size fp s2 H2
  rw [hX] at hg' he' ht'
  have fpOk:∀ {H':Hp}{pn:List (Addr × Obj)},(∀b∈fp,H' b=none)->(∀p∈pn,p.1=s2.heap.objs.size\/p∈pins)->∀b∈fp,w0a Y pn H' b:=λ hn hp b hb=>by
    refine ⟨hn b hb,by rw [hYl];exact ltC b (fpL b hb),?_,.inl (by rw [hYx];exact hb),λ x c e=>?_,λ p hq=>?_⟩
    · rw [hYf]
      intro hz
      rcases List.mem_cons.mp (I2.stkSub b hz) with z | z
      · exact (f2 b hb).2.1 z
      · exact (f2 b hb).2.2.1 z
    · rw [hYc] at e
      exact (f2 b hb).2.2.2.2.1 x c (hcl x c e)
    · rw [hYp] at hq
      rcases List.mem_append.mp hq with z | z
      · exact (f2 b hb).2.2.2.2.2 p (List.mem_append_left _ z)
      · rcases hp p z with q | q
        · rw [q];exact Ne.symm (Nat.ne_of_lt (fpL b hb))
        · exact (f2 b hb).2.2.2.2.2 p (List.mem_append_right _ q)
  have loop:∀s₃:Shared,s₃={ s2 with heap:=h₁,toks:=s2.toks+([]:List (Str × Value)).length } ->
      codeAny (model X.prog X.w) X.A (.compLoop (.ListComp elt [⟨tg,iter,ifs,0⟩] scope pos) 0 (.ref it) (.ref s2.heap.objs.size) (compEnvC scope cl hL.objs.size X.env))
        (compPost (model X.prog X.w) X.A X.xe use QQ (.ref s2.heap.objs.size) hL.objs.size) s₃:=by
    rintro s₃ rfl
    refine lp.1 (λ n s'=>∃i ys its k σ' H',Inv Y (pins++[(s2.heap.objs.size,{ cls:=.type "list",data:=.seq (its:List Value).toArray k })]) σ' H' s'/\tn i s'.heap/\(∀b∈fp,H' b=none)/\Vals ys its/\ys.length≤sizeLine/\W i n ys σ' H') ?_ m0
      ⟨0,[],[],0,_,H2,I3,T.keep _ _ _ st2 λ b _ o e=>old b o e,λ b hb=>(f2 b hb).1,.nil,Nat.zero_le _,w0⟩
    rintro n s4 ⟨i,ys,its,k,σ4,H4,I4,st4,fr4,rv,hz,w4⟩
    have pinD:∀p∈(pins++[(s2.heap.objs.size,({ cls:=.type "list",data:=.seq (its:List Value).toArray k }:Obj))]),p.1=s2.heap.objs.size\/p∈pins:=λ p hp=>by
      rcases List.mem_append.mp hp with z | z
      · exact .inr z
      · rw [List.mem_singleton.mp z];exact .inl rfl
    have F4:=fpOk (pn:=pins++[(s2.heap.objs.size,{ cls:=.type "list",data:=.seq (its:List Value).toArray k })]) fr4 pinD
    rcases turn i n ys σ4 H4 w4 with ⟨stop,qn⟩ | ⟨go,hlt,N,hN,step⟩
    · have d:=T.done Y hYprog hYw hYK hYcalm i _ s4 σ4 H4 (λ _ _=>False) I4 F4 st4 stop
      rw [hYA] at d
      refine thn d λ r s5 ⟨hr,I5⟩=>?_
      subst hr
      obtain ⟨m,hn,_⟩:=id I5.loc
      rw [hYl] at hn
      have hD:=I5.pin (s2.heap.objs.size,{ cls:=.type "list",data:=.seq (its:List Value).toArray k }) (List.mem_append_right _ (List.mem_append_right _ (List.mem_singleton.mpr rfl)))
      have hDn:H4 s2.heap.objs.size=none:=hD.2.1
      have kp:∀b o,b≠hL.objs.size->s5.heap.get? b=some o->s5.heap.get? b=some o:=λ b o _ e=>e
      have B:=I5.base
      rw [hYH,hYs,hYx,hYf] at B
      have s2C:∀b o,s2.heap.get? b=some o->b≠hL.objs.size:=λ b o e=>ltC b (Heap.lt_size e)
      have trk:∀b u,H4 b=some u->b≠s2.heap.objs.size:=λ b u e z=>by rw [z,hDn] at e;cases e
      have trC:∀b u,H4 b=some u->b≠hL.objs.size:=λ b u e z=>by
        have:=I5.free
        rw [hYl,← z,e] at this;cases this
      have hH2:∀b u,H2 b=some u->b≠s2.heap.objs.size:=λ b u e z=>by rw [z,hfresh _ (Nat.le_refl _)] at e;cases e
      have IX:Inv X pins σ (upd H4 s2.heap.objs.size (.lst ys)) s5:=by
       refine I2.call' (ch:=fp) (by show s5.os=s2.os;rw [I5.os,hYs]) ⟨λ b o e n hb hx=>kp b o (s2C b o e) (B.keep b o e n hb hx),λ b o e n hb hx=>?_,λ b o e n hx=>?_,λ b o e hx=>?_,λ b xs e=>?_,λ b o u e=>?_,λ b ps e=>?_⟩ ?_ I5.bare (λ b hb=>⟨(f2 b hb).2.2.2.1,(f2 b hb).2.1,(f2 b hb).2.2.2.2.1,(f2 b hb).2.2.2.2.2⟩)
       · obtain ⟨sl,q⟩:=B.slot b o e n hb hx
         exact ⟨sl,kp b _ (s2C b o e) q⟩
       · rw [z0o (Nat.ne_of_lt (Heap.lt_size e))]
         exact B.free b o e n hx
       · obtain ⟨o',q⟩:=B.there b o e hx
         exact ⟨o',kp b o' (s2C b o e) q⟩
       · rw [z0o (hH2 b _ e)]
         exact B.tups b xs e
       · rw [z0o (hH2 b _ e)]
         exact B.frzs b o u e
       · obtain ⟨more,q⟩:=B.tbls b ps e
         exact ⟨more,by rw [z0o (hH2 b _ e)];exact q⟩
       · intro b u e
         by_cases hb:b=s2.heap.objs.size
         · subst hb
           rw [z0d] at e
           cases e
           exact ⟨hz,its,k,rv,kp _ _ hDC hD.1⟩
         · rw [z0o hb] at e
           have okb:=I5.hok b u e
           rw [hYprog,hYw] at okb
           refine okb.stay (λ c v hc q=>kp c v ?_ q) (λ c q=>by rw [z0o (trk c _ q)];exact q) λ c xs q=>by rw [z0o (trk c _ q)];exact q
           rcases hc with z | z
           · rw [z];exact trC b u e
           · exact trC c _ z
      have zC:upd H4 s2.heap.objs.size (.lst ys) hL.objs.size=none:=by
        rw [z0o (Ne.symm hDC)]
        have:=I5.free
        rwa [hYl] at this
      exact fin s2.heap.objs.size hL.objs.size s5 _ _ IX zC (Ne.symm (ltC _ I2.lt)) (by have:=I2.sz;lia) (λ x c e=>ltC c (by obtain ⟨v,q⟩:=I2.cell x c e;exact q.lt)) (λ p hp=>ltC _ (pinL p hp)) ⟨m,hn⟩ (qn _ hDn)
    · have d:=T.item Y hYprog hYw hYK hYcalm i _ s4 σ4 H4 (λ _ _=>False) I4 F4 st4 go
      rw [hYA] at d
      refine thn d λ r s5 ⟨u,hr,h5⟩=>?_
      subst hr
      refine thn h5 λ _ s6 ⟨x,H6,I6,r6,y6,st6,fr6⟩=>?_
      have I6':=I6.pinned (fpOk (pn:=pins++[(s2.heap.objs.size,{ cls:=.type "list",data:=.seq (its:List Value).toArray k })]) fr6 pinD) (T.obj _ _ st6)
      have d7:=hg' _ s6 σ4 H6 x u _ I6' r6 (step x H6 y6)
      rw [hYprog,hYw,hYA,hYxe,hYenv] at d7
      refine thn d7 λ _ s7 ⟨σ7,H7,I7,q7⟩=>?_
      have dt:=ht' _ s7 σ7 H7 _ I7 q7
      rw [hYprog,hYw,hYA,hYenv] at dt
      refine lp.2 dt λ bb s7 ⟨H7,I7,q7⟩=>?_
      cases bb with
      | false =>
        obtain ⟨m',hm,w8⟩:=hN _ _ _ q7
        have tn8:tn (i+1) s7.heap:=T.keep _ _ _ st6 λ b hb o e=>(I7.pin (b,o) (List.mem_append_right _ (List.mem_append_right _ (z3g hb e)))).1
        have fr8:∀b∈fp,H7 b=none:=λ b hb=>by
          obtain ⟨o,e,d⟩:=T.obj _ _ st6 b hb
          exact (I7.pin (b,o) (List.mem_append_right _ (List.mem_append_right _ (z3g hb e)))).2.1
        exact ⟨m',hm,i+1,ys,its,k,σ7,H7,I7.unpinned,tn8,fr8,rv,hz,w8⟩
      | true =>
        have q7:te σ7 H7 _:=q7
        show wpAny _ _ (eval elt _) _ _ s7
        have d8:=he' _ s7 σ7 H7 _ I7 q7
        rw [hYprog,hYw,hYA,hYxe,hYenv] at d8
        refine thn d8 λ u8 s8 ⟨v8,H8,I8,r8,n8⟩=>?_
        obtain ⟨m',hm,w8⟩:=hN _ _ _ n8
        have pD:=I8.pin (s2.heap.objs.size,{ cls:=.type "list",data:=.seq (its:List Value).toArray k }) (List.mem_append_right _ (List.mem_append_left _ (List.mem_append_right _ (List.mem_singleton.mpr rfl))))
        have tn8:tn (i+1) s8.heap:=T.keep _ _ _ st6 λ b hb o e=>(I8.pin (b,o) (List.mem_append_right _ (List.mem_append_right _ (z3g hb e)))).1
        have fr8:∀b∈fp,H8 b=none:=λ b hb=>by
          obtain ⟨o,e,d⟩:=T.obj _ _ st6 b hb
          exact (I8.pin (b,o) (List.mem_append_right _ (List.mem_append_right _ (z3g hb e)))).2.1
        have J8:Inv Y pins σ7 H8 s8:=I8.unpinned.unpinned
        have eD:s8.heap.get? s2.heap.objs.size=some { cls:=.type "list",data:=.seq its.toArray k }:=pD.1
        refine call_meets F.slot_list_append ⟨_,eD,rfl⟩ F.entry_list_append (F.args_list_append_2 _ _) (PySem.list_append _ its.toArray k u8 (by rw [List.size_toArray,← rv.length];lia)) ⟨eD,?_⟩
        have other:∀b o,b≠s2.heap.objs.size->s8.heap.get? b=some o->(s8.heap.update s2.heap.objs.size (Obj.mapSeq λ xs=>xs.push u8)).get? b=some o:=λ b o nb e=>(Heap.get?_update_other s8.heap _ (Ne.symm nb)).trans e
        have J9:=J8.turned (t':=s8.toks) (it:=s2.heap.objs.size) (h':=s8.heap.update s2.heap.objs.size (Obj.mapSeq λ xs=>xs.push u8)) other pD.2.1 (by rw [hYl];exact hDC) (.inr (by rw [hYs];exact Nat.le_refl _))
          (λ x c e=>by rw [hYc] at e;exact Nat.ne_of_lt (cellL x c e)) (λ p hp=>by rw [hYp] at hp;exact Nat.ne_of_lt (pinL p hp))
        have ep:(its.toArray.push u8)=(its++[u8]).toArray:=by simp
        obtain ⟨kk,upD⟩:∃kk,(s8.heap.update s2.heap.objs.size (Obj.mapSeq λ xs=>xs.push u8)).get? s2.heap.objs.size=some { cls:=.type "list",data:=.seq (its++[u8]).toArray kk }:=by
          have z:=PySem.IsL.update eD (λ xs=>xs.push u8)
          rw [ep] at z
          exact ⟨_,z⟩
        refine ⟨m',hm,i+1,ys++[v8],its++[u8],kk,σ7,H8,J9.pins_of λ p hp=>?_,T.keep _ _ _ tn8 λ b hb o e=>other b o (Nat.ne_of_lt (fpL b hb)) e,fr8,rv.append (.cons r8 .nil),?_,w8⟩
        · rcases List.mem_append.mp hp with z | z
          · exact J9.pin p (List.mem_append_right _ z)
          · rw [List.mem_singleton.mp z]
            exact ⟨upD,pD.2.1,by rw [hYl];exact hDC,by rw [hYf];exact λ z=>absurd (stkL _ z) (Nat.lt_irrefl _),λ v z=>by cases z⟩
        · rw [List.length_append,List.length_singleton];lia
  exact codeAny_compStart_list (loop _ rfl) (T.self _ 0 _ _ _ (T.keep _ _ _ st2 λ b _ o e=>old b o e) (loop _ rfl))
theorem x9v {wi:TI}{k:Nat}{js:List Nat}{g:TG}{te:TE}:z6y wi k js g (λ σ H K=>K true H) te=z4g wi k js g te:=by
 unfold z6y z4g
 simp only [if_true]
theorem pm0 {X:Cx}:PM X v1u (λ σ H K=>K true H):=λ _ _ _ H _ I k=>⟨H,I,k⟩
theorem y3t {X:Cx}{elt tg iter:Expr}{scope:Scope}{cl:List (Str × Addr)}{pos:Pos}{own fv:List Str}{js:List Nat}{wi:TI}{g:TG}{te:TE}
  (hc:X.calm=true) (hi:PI X tg iter wi) (hclos:closureFor scope X.env=pure cl) (hcell:∀y∈scope.names,y.2≠.cell) (hkind:scope.kind=.function)
  (hnames:∀y∈scope.names,y.2=.local->scope.names.lookup y.1=some .local)
  (hcl:∀x c,cl.lookup x=some c->X.env.cells.lookup x=some c)
  (hhas:∀x,((relabel scope X.env).names.lookup x=some .cell\/(relabel scope X.env).names.lookup x=some .free)->∃c,cl.lookup x=some c)
  (hlen:js.length=fv.length) (hcap:∀(i:Nat) x j,fv[i]?=some x->js[i]?=some j->Cap X scope cl x j)
  (hg:∀(C:Addr) (ex:List Addr) (s:Shared) (H:Hp),PG (z3p X (own++fv) scope cl C ex s H) tg g)
  (he:∀(C:Addr) (ex:List Addr) (s:Shared) (H:Hp),PE (z3p X (own++fv) scope cl C ex s H) elt te)
  (hs:∀x,foldedSetIterable iter X.env x=pure x)
  {pins:List (Addr × Obj)}{s:Shared}{σ:St}{H:Hp}{Q:VK}{use:Option (Value->Sem Unit)}{QQ:Value->Shared->Prop}{fpos:Pos}(I:Inv X pins σ H s) (h:z4g wi own.length js g te σ H Q)
  (fin:∀(a C:Addr) (s5:Shared) (H5:Hp) (fl:Flow),Inv X pins σ H5 s5->H5 C=none->C≠X.env.locals->X.s₀.heap.objs.size≤C->(∀x c,X.env.cells.lookup x=some c->c≠C)->(∀p∈X.pn++pins,p.1≠C)->(∃m,s5.heap.Ns C m)->Q (.ref a) H5->compPost (model X.prog X.w) X.A X.xe use QQ (.ref a) C (.ok fl) s5) :
  wpAny (model X.prog X.w) X.A (comprehension (.ListComp elt [⟨tg,iter,[],0⟩] scope pos) scope X.env fpos (newList []) false (firstIter [⟨tg,iter,[],0⟩] X.env) use) QQ X.xe s :=
 y9z hc hi hclos hcell hkind hnames hcl hhas hlen hcap hg he (λ _ _ _ _=>pm0) v0w hs I (by rw [x9v];exact h) fin
theorem z6r {X:Cx}{elt tg iter:Expr}{scope:Scope}{cl:List (Str × Addr)}{pos:Pos}{own fv:List Str}{js:List Nat}{wi:TI}{g:TG}{te:TE}
  (hc:X.calm=true) (hi:PI X tg iter wi) (hclos:closureFor scope X.env=pure cl) (hcell:∀y∈scope.names,y.2≠.cell) (hkind:scope.kind=.function)
  (hnames:∀y∈scope.names,y.2=.local->scope.names.lookup y.1=some .local)
  (hcl:∀x c,cl.lookup x=some c->X.env.cells.lookup x=some c)
  (hhas:∀x,((relabel scope X.env).names.lookup x=some .cell\/(relabel scope X.env).names.lookup x=some .free)->∃c,cl.lookup x=some c)
  (hlen:js.length=fv.length) (hcap:∀(i:Nat) x j,fv[i]?=some x->js[i]?=some j->Cap X scope cl x j)
  (hg:∀(C:Addr) (ex:List Addr) (s:Shared) (H:Hp),PG (z3p X (own++fv) scope cl C ex s H) tg g)
  (he:∀(C:Addr) (ex:List Addr) (s:Shared) (H:Hp),PE (z3p X (own++fv) scope cl C ex s H) elt te)
  (hs:∀x,foldedSetIterable iter X.env x=pure x:=by intro _;rfl) :
  PE X (.ListComp elt [⟨tg,iter,[],0⟩] scope pos) (z4g wi own.length js g te):=by
 intro pins s σ H Q I h
 rw [eval_ListComp]
 refine y3t (use:=none) (QQ:=EP X pins σ Q) hc hi hclos hcell hkind hnames hcl hhas hlen hcap hg he hs I h λ a C s5 H5 fl I5 zC zL zS zc zp ⟨m,hn⟩ q=>⟨m,hn,λ h' sc=>?_⟩
 exact ⟨.ref a,H5,I5.turned (t':=s5.toks) (it:=C) (λ d o nd e=>sc.extBut d o nd e) zC zL (.inr zS) zc zp,rfl,q⟩
theorem x5i {K:PySem.W.Frag}{a:Addr}{xs:List V}{g:TG}{te:TE}{Q:VK}{σ:St}{H:Hp}(Pv:Nat->List V->St->Hp->Prop) (h0:Pv 0 [] σ H) (hl:∀i ys σ H,i≤xs.length->Pv i ys σ H->SqL K H a xs)
  (hs:∀i x ys σ H,xs[i]?=some x->Pv i ys σ H->ys.length < sizeLine/\g x σ H λ σ3 H3=>te σ3 H3 λ v H4=>Pv (i+1) (ys++[v]) σ3 H4) (hd:∀ys σ H,Pv xs.length ys σ H->∀p,H p=none->Q (.ref p) (upd H p (.lst ys))) :
  ∃W:Nat->Nat->List V->St->Hp->Prop,(∃m,W 0 m [] σ H)/\∀i m ys σ' H',W i m ys σ' H' ->
   ((Itl K a).stop i H'/\∀p,H' p=none->Q (.ref p) (upd H' p (.lst ys))) \/
   ((Itl K a).go i H'/\ys.length < sizeLine/\∃N:List V->St->Hp->Prop,(∀zs σ2 H2,N zs σ2 H2->∃m',m' < m/\W (i+1) m' zs σ2 H2) /\
    ∀x H2,(Itl K a).yld i H' x H2->g x σ' H2 λ σ3 H3=>te σ3 H3 λ v H4=>N (ys++[v]) σ3 H4):=by
 refine ⟨λ i m ys σ H=>m=xs.length - i/\i≤xs.length/\Pv i ys σ H,⟨xs.length,by simp,Nat.zero_le _,h0⟩,?_⟩
 rintro i m ys σ H ⟨rfl,hi,p⟩
 have q:=hl i ys σ H hi p
 by_cases hlt:i < xs.length
 ·have e:xs[i]?=some xs[i]:=by simp [hlt]
  refine .inr ⟨⟨xs,xs[i],q,e⟩,(hs i _ ys σ H e p).1,Pv (i+1),λ zs σ' H' p'=>⟨xs.length - (i+1),by lia,rfl,hlt,p'⟩,λ x H' y=>?_⟩
  obtain ⟨e,y⟩:=y
  subst e
  exact (hs i x ys σ _ (y xs q) p).2
 ·have e:i=xs.length:=by lia
  subst e
  exact .inl ⟨⟨xs,q,Nat.le_refl _⟩,hd ys σ H p⟩
theorem x9o {K:PySem.W.Frag}{a:Addr}{xs:List V}{g:TG}{te:TE}{Q:VK}{σ:St}{H:Hp}(Pv:Nat->List V->St->Hp->Prop) (h0:Pv 0 [] σ H) (hl:∀i ys σ H,i≤xs.length->Pv i ys σ H->SqT K H a xs)
  (hs:∀i x ys σ H,xs[i]?=some x->Pv i ys σ H->ys.length < sizeLine/\g x σ H λ σ3 H3=>te σ3 H3 λ v H4=>Pv (i+1) (ys++[v]) σ3 H4) (hd:∀ys σ H,Pv xs.length ys σ H->∀p,H p=none->Q (.ref p) (upd H p (.lst ys))) :
  ∃W:Nat->Nat->List V->St->Hp->Prop,(∃m,W 0 m [] σ H)/\∀i m ys σ' H',W i m ys σ' H' ->
   ((Itt K a).stop i H'/\∀p,H' p=none->Q (.ref p) (upd H' p (.lst ys))) \/
   ((Itt K a).go i H'/\ys.length < sizeLine/\∃N:List V->St->Hp->Prop,(∀zs σ2 H2,N zs σ2 H2->∃m',m' < m/\W (i+1) m' zs σ2 H2) /\
    ∀x H2,(Itt K a).yld i H' x H2->g x σ' H2 λ σ3 H3=>te σ3 H3 λ v H4=>N (ys++[v]) σ3 H4):=by
 refine ⟨λ i m ys σ H=>m=xs.length - i/\i≤xs.length/\Pv i ys σ H,⟨xs.length,by simp,Nat.zero_le _,h0⟩,?_⟩
 rintro i m ys σ H ⟨rfl,hi,p⟩
 have q:=hl i ys σ H hi p
 by_cases hlt:i < xs.length
 ·have e:xs[i]?=some xs[i]:=by simp [hlt]
  refine .inr ⟨⟨xs,xs[i],q,e⟩,(hs i _ ys σ H e p).1,Pv (i+1),λ zs σ' H' p'=>⟨xs.length - (i+1),by lia,rfl,hlt,p'⟩,λ x H' y=>?_⟩
  obtain ⟨e,y⟩:=y
  subst e
  exact (hs i x ys σ _ (y xs q) p).2
 ·have e:i=xs.length:=by lia
  subst e
  exact .inl ⟨⟨xs,q,Nat.le_refl _⟩,hd ys σ H p⟩
theorem y9y {lo:Int}{n:Nat}{g:TG}{te:TE}{Q:VK}{σ:St}{H:Hp}(Pv:Nat->List V->St->Hp->Prop) (h0:Pv 0 [] σ H)
  (hs:∀i ys σ H,i < n->Pv i ys σ H->ys.length < sizeLine/\g (.int (lo+i)) σ H λ σ3 H3=>te σ3 H3 λ v H4=>Pv (i+1) (ys++[v]) σ3 H4) (hd:∀ys σ H,Pv n ys σ H->∀p,H p=none->Q (.ref p) (upd H p (.lst ys))) :
  ∃W:Nat->Nat->List V->St->Hp->Prop,(∃m,W 0 m [] σ H)/\∀i m ys σ' H',W i m ys σ' H' ->
   ((Itr lo n).stop i H'/\∀p,H' p=none->Q (.ref p) (upd H' p (.lst ys))) \/
   ((Itr lo n).go i H'/\ys.length < sizeLine/\∃N:List V->St->Hp->Prop,(∀zs σ2 H2,N zs σ2 H2->∃m',m' < m/\W (i+1) m' zs σ2 H2) /\
    ∀x H2,(Itr lo n).yld i H' x H2->g x σ' H2 λ σ3 H3=>te σ3 H3 λ v H4=>N (ys++[v]) σ3 H4):=by
 refine ⟨λ i m ys σ H=>m=n - i/\i≤n/\Pv i ys σ H,⟨n,by simp,Nat.zero_le _,h0⟩,?_⟩
 rintro i m ys σ H ⟨rfl,hi,p⟩
 by_cases hlt:i < n
 ·refine .inr ⟨hlt,(hs i ys σ H hlt p).1,Pv (i+1),λ zs σ' H' p'=>⟨n - (i+1),by lia,rfl,hlt,p'⟩,λ x H' y=>?_⟩
  obtain ⟨e,y⟩:=y
  subst e y
  exact (hs i ys σ _ hlt p).2
 ·have e:i=n:=by lia
  subst e
  exact .inl ⟨Nat.le_refl _,hd ys σ H p⟩
section
variable {P:Program}{w:World}{K:W.Frag}{mg:Str->Option Value}{base:Heap}{N:List Str}{qual:Str}{scope:Scope}{f:Addr}{cd:Value}{A:Around}{outer:List Env}{s:Shared}{H:Hp}{E:XK}
theorem w8o {l:List Env}:∀env∈l,∀b,env.frame=some b->b∈frs l:=λ env he b hb=>List.mem_filterMap.mpr ⟨env,he,hb⟩
end
def w5f (C:Addr) (Ex:Value->Hp->Prop) (t:TA):TS:=λ _ σ H=>t σ H λ vs H1=>vs.length≤sizeLine/\Ex (.ref C) H1
section
variable {P:Program}{w:World}{K:W.Frag}{mg:Str->Option Value}{base:Heap}
end
def v4m (a C:Addr):HO:=.ext λ h=>∃o vs,h.get? a=some o/\o.cls=.ref C/\o.data=.fields vs
section
variable {X:Cx}{pins:List (Addr × Obj)}{σ:St}{H:Hp}{s:Shared}
theorem Inv.gone {i:Nat}{x:Str}{v:Option Value}{m:Str->Option Value}{h':Heap}{t':Nat}(I:Inv X pins σ H s) (hN:X.N.Nodup) (hi:X.N[i]?=some x) (hk:X.env.scope.names.lookup x=some .local) (hm:s.heap.Ns X.env.locals m)
  (hl:∀(j:Nat) (y:Str) (z:V),X.N[j]?=some y->σ[j]?=some (some z)->Vis X.env.scope y->∃u,RelV z u/\v2z X.env s.heap m y u) (hn':h'.Ns X.env.locals (λ y=>if y=x then v else m y)) (hs:Heap.SameBut X.env.locals s.heap h') :
  Inv X pins (σ.set i none) H { s with heap:=h',toks:=t' }:=by
 have hiσ:i < σ.length:=by rw [I.len];exact (List.getElem?_eq_some_iff.mp hi).1
 have cne:=I.cne
 have lne:∀b o,X.s₀.heap.get? b=some o->b≠X.env.locals:=λ b o e=>Nat.ne_of_lt (Nat.lt_of_lt_of_le (Heap.lt_size e) I.ok.above)
 refine ⟨I.ok,I.os,I.bare,⟨λ b o e n hb hx=>(hs.2 b (lne b o e)).trans (I.base.keep b o e n hb hx),λ b o e n hb hx=>?_,I.base.free,λ b o e hx=>?_,I.base.tups,I.base.frzs,I.base.tbls⟩,⟨_,hn',λ j y z e1 e2 e3=>?_⟩,
  λ y c e=>?_,I.free,I.freeC,λ p hp=>?_,λ b ob e=>?_,by simpa using I.len⟩
 ·obtain ⟨sl,q⟩:=I.base.slot b o e n hb hx
  exact ⟨sl,(hs.2 b (lne b o e)).trans q⟩
 ·obtain ⟨o',q⟩:=I.base.there b o e hx
  exact ⟨o',(hs.2 b (lne b o e)).trans q⟩
 ·by_cases hj:j=i
  ·subst hj
   rw [List.getElem?_set_self hiσ] at e2
   cases e2
  ·rw [List.getElem?_set_ne (Ne.symm hj)] at e2
   obtain ⟨u,r,q⟩:=hl j y z e1 e2 e3
   refine ⟨u,r,?_⟩
   rcases q with ⟨k,e⟩ | ⟨k,c,e,cz⟩
   ·refine .inl ⟨k,?_⟩
    have ny:y≠x:=λ e=>hj (y1f hN e1 (e ▸ hi))
    simp [ny,e]
   ·exact .inr ⟨k,c,e,cz.sameBut hs (cne y c e)⟩
 ·obtain ⟨w',z⟩:=I.cell y c e
  exact ⟨w',z.sameBut hs (cne y c e)⟩
 ·obtain ⟨e,n,ne,nf,d⟩:=I.pin p hp
  exact ⟨(hs.2 p.1 ne).trans e,n,ne,nf,d⟩
 ·refine (I.hok b ob e).stay (λ c w' hc q=>(hs.2 c ?_).trans q) (λ _ q=>q) λ _ _ q=>q
  rintro rfl
  rcases hc with rfl | hc
  ·rw [I.free] at e;cases e
  ·rw [I.free] at hc;cases hc
theorem Inv.track {a:Addr}{o:HO}(I:Inv X pins σ H s) (hn:H a=none) (new:ObjOk X.prog X.w (upd H a o) s.heap a o) (h1:a≠X.env.locals) (h2:∀x c,X.env.cells.lookup x=some c->c≠a) (h3:∀p∈X.pn++pins,p.1≠a)
  (h4:X.s₀.heap.get? a=none):Inv X pins σ (upd H a o) s:=by
 have ne:∀b u,H b=some u->b≠a:=λ b u e z=>by rw [z,hn] at e;cases e
 have n0:∀b u,X.s₀.heap.get? b=some u->b≠a:=λ b u e z=>by rw [z,h4] at e;cases e
 refine ⟨I.ok,I.os,I.bare,⟨I.base.keep,I.base.slot,λ b u e n hx=>?_,I.base.there,λ b xs e=>?_,λ b u v e=>?_,λ b ps e=>?_⟩,I.loc,I.cell,?_,λ x c e=>?_,λ p hp=>?_,λ b u e=>?_,I.len⟩
 ·rw [z0o (n0 b u e)];exact I.base.free b u e n hx
 ·have q:=I.base.tups b xs e
  rw [z0o (ne b _ q)];exact q
 ·have q:=I.base.frzs b u v e
  rw [z0o (ne b _ q)];exact q
 ·obtain ⟨more,q⟩:=I.base.tbls b ps e
  exact ⟨more,by rw [z0o (ne b _ q)];exact q⟩
 ·rw [z0o (Ne.symm h1)];exact I.free
 ·rw [z0o (h2 x c e)];exact I.freeC x c e
 ·obtain ⟨e,n,ne,nf,d⟩:=I.pin p hp
  exact ⟨e,by rw [z0o (h3 p hp)];exact n,ne,nf,d⟩
 ·by_cases hb:b=a
  ·subst hb;rw [z0d] at e;cases e;exact new
  ·rw [z0o hb] at e
   exact (I.hok b u e).stay (λ c v _ q=>q) (λ c q=>by rw [z0o (ne c _ q)];exact q) λ c xs q=>by rw [z0o (ne c _ q)];exact q
end
abbrev Cx.more (X:Cx) (xe:Value->Shared->Prop) (pn:List (Addr × Obj)):Cx:={ X with xe:=xe,pn:=pn }
abbrev Cx.suite (X:Cx) (a:Addr) (pn:List (Addr × Obj)):Cx:={ X with A:=X.A.mark (some (.ref a)),calm:=false,xe:=λ _ _=>False,pn:=pn }
theorem Cx.Ok.more {X:Cx}(ok:X.Ok) (xe:Value->Shared->Prop) (pn:List (Addr × Obj)):(X.more xe pn).Ok :=
 ⟨ok.mod,ok.kind,ok.glob,ok.blt,ok.above,ok.inj,ok.has,ok.cab,ok.hd,ok.frames,ok.stk,ok.exf,ok.bs,ok.bsz,ok.noex,ok.exfs,ok.funs,ok.frf⟩
theorem Cx.Ok.suite {X:Cx}(ok:X.Ok) (a:Addr) (pn:List (Addr × Obj)):(X.suite a pn).Ok :=
 ⟨ok.mod,ok.kind,ok.glob,ok.blt,ok.above,ok.inj,ok.has,ok.cab,λ z=>absurd z (by show ¬(false=true);decide),ok.frames,ok.stk,ok.exf,ok.bs,ok.bsz,ok.noex,ok.exfs,ok.funs,ok.frf⟩
def y1t (CX:CXT) (X:Cx) (E:XK) (σ:St):Prop:=∀(pins:List (Addr × Obj)) (H:Hp) (s:Shared) (e:Value) (s':Shared),Inv X pins σ H s->CX X.stack H s E e s'->X.xe e s'
section
variable {X:Cx}{CX:CXT}{k:Nat}{f:Addr}{fd:FuncData}{ps:List Str}{sp:Sp}{dvs:List V}{ds:List Value}{EE:St->XK}{x:Str}{p pos:Pos}{e:Expr}{es:List Expr}{t:TA}
def x0t (sp:Sp) (dvs:List V) (EE:St->XK) (t:TA):TE:=λ σ H Q=>t σ H λ vs H1=>sp (vs++dvs) H1 Q (EE σ)
theorem x7p (F:FnOk X.prog X.w X.K X.mg X.base CX k f fd ps sp) (hr:Room k X.A) (hg:Gl X x) (hm:X.mg x=some (.ref f)) (hk:W.keepIn X.K (.ref f)=true) (hb:Binds X.K fd ps ds) (hd:Vals dvs ds) (hx:∀σ,y1t CX X (EE σ) σ)
  (ha:PA X (e::es) t) (hdb:(x == ("__debug__" : Str))=false:=by decide) (he:starEach (e::es) X.env=(false,eval e X.env)::starEach es X.env:=by rfl) (hpl:(backTo pos (starEach es X.env)).any (·.1)=false:=by rfl) :
  PE X (.Call (.Name x p) (e::es) [] pos) (x0t sp dvs EE t):=by
 intro pins s σ H Q I h
 refine wpAny_Call_Name_kw (z3o I hg hm ?_ hdb)
 refine W.callWith_K (h₀:=X.base) I.ok.mod.kin hk (thn (ha pos pins s σ H _ I h) λ us s1 ⟨vs,H1,I1,r,q⟩=>⟨I1.kIn,?_⟩) he hpl
 have r2:Vals (vs++dvs) (us++ds):=r.append hd
 have hl:(us++ds).length=ps.length:=by rw [← r2.length];exact F.len _ _ _ _ q
 refine wpAny_call (codeAny_mono (F.run X.A X.stack s1 H1 ⟨us,[]⟩ (us++ds) (vs++dvs) Q (EE σ) hr I1.env0 (hb s1 us I1.kIn hl) r2 q) λ r s' hq=>?_)
 cases r with
 | error e=>exact hx σ pins H1 s1 e s' I1 hq
 | ok fl =>
  cases fl with
  | ret u=>exact I1.after hq
  | next=>exact False.elim hq
  | brk=>exact False.elim hq
  | cont=>exact False.elim hq
end
def z7n (D:Ends) (i:Nat):Ends:={ nx:=λ σ H=>D.nx (σ.set i none) H,rt:=D.rt,bk:=λ σ H=>D.bk (σ.set i none) H,ct:=λ σ H=>D.ct (σ.set i none) H }
def y8g (C:Addr) (i:Nat) (ts:TS) (D:Ends):St->XK:=λ σ1 cls _ H1=>cls=.ref C/\∀a,H1 a=none->ts (z7n D i) (σ1.set i (some (.ref a))) (upd H1 a (v4m a C))
def v3h (C:Addr) (i:Nat) (tb:(St->XK)->TS) (ts:TS):TS:=λ D σ H=>tb (y8g C i ts D) D σ H
structure Callee (P:Program) (w:World) (K:W.Frag) (mg:Str->Option Value) (base:Heap) (CX:CXT) (k:Nat) (x:Str) (ps:List Str) (sp:Sp):Prop where
 has:∃(f:Addr) (fd:FuncData),FnOk P w K mg base CX k f fd ps sp/\mg x=some (.ref f)/\W.keepIn K (.ref f)=true/\Binds K fd ps []
theorem Callee.mk' {P:Program}{w:World}{K:W.Frag}{mg:Str->Option Value}{base:Heap}{CX:CXT}{k:Nat}{x qual:Str}{st:Stmt}{f:Addr}{fd:FuncData}{ps:List Str}{sp:Sp}(F:Fun K x qual st f fd) (m:mg x=some (.ref f)) (b:Binds K fd ps [])
  (ok:FnOk P w K mg base CX k f fd ps sp):Callee P w K mg base CX k x ps sp:=⟨⟨f,fd,ok,m,F.kp,b⟩⟩
theorem Callee.mono {P:Program}{w:World}{K:W.Frag}{mg:Str->Option Value}{base:Heap}{CX:CXT}{j k:Nat}{x:Str}{ps:List Str}{sp:Sp}(c:Callee P w K mg base CX j x ps sp) (h:j≤k):Callee P w K mg base CX k x ps sp :=
 let ⟨f,fd,ok,m,kp,b⟩:=c.has;⟨⟨f,fd,ok.mono h,m,kp,b⟩⟩
section
variable {X:Cx}{CX:CXT}{k:Nat}{ps:List Str}{sp:Sp}{E:XK}{x:Str}{p pos:Pos}{e:Expr}{es:List Expr}{t:TA}
theorem z0u (c:Callee X.prog X.w X.K X.mg X.base CX k x ps sp) (hr:Room k X.A) (hg:Gl X x) (hx:z8z CX X E) (ha:PA X (e::es) t) (hdb:(x == ("__debug__" : Str))=false:=by decide)
  (he:starEach (e::es) X.env=(false,eval e X.env)::starEach es X.env:=by rfl) (hpl:(backTo pos (starEach es X.env)).any (·.1)=false:=by rfl):PE X (.Call (.Name x p) (e::es) [] pos) (x0u sp [] E t):=by
 obtain ⟨f,fd,ok,m,kp,b⟩:=c.has
 exact w2p ok hr hg m kp b .nil hx ha hdb he hpl
theorem x2o {EE:St->XK}(c:Callee X.prog X.w X.K X.mg X.base CX k x ps sp) (hr:Room k X.A) (hg:Gl X x) (hx:∀σ,y1t CX X (EE σ) σ) (ha:PA X (e::es) t) (hdb:(x == ("__debug__" : Str))=false:=by decide)
  (he:starEach (e::es) X.env=(false,eval e X.env)::starEach es X.env:=by rfl) (hpl:(backTo pos (starEach es X.env)).any (·.1)=false:=by rfl):PE X (.Call (.Name x p) (e::es) [] pos) (x0t sp [] EE t):=by
 obtain ⟨f,fd,ok,m,kp,b⟩:=c.has
 exact x7p ok hr hg m kp b .nil hx ha hdb he hpl
theorem y8h:z4l X (.builtin "isinstance") (λ xs H Q=>∃x n t b,xs=[x,.ty n]/\TyOf X.K H x t/\W.kitOne X.K t (.type n)=some b/\Q (.bl b) H):=by
 intro pins s σ H xs us Q I r h
 obtain ⟨x,n,t,b,rfl,ty,e,q⟩:=h
 obtain ⟨u,w',rfl,rx,ry⟩:=y8m r
 cases (show w'=Value.type n from ry)
 exact x4j I rx ty e λ tk=>⟨.bl b,H,I.tok tk,rfl,q⟩
end
theorem z6z {scope:Scope}{env:Env}(hfree:∀y∈scope.names,y.2≠.free):(relabel scope env).names=scope.names:=by
 show scope.names.map _=scope.names
 have all:∀l:List (Str × NameKind),(∀y∈l,y.2≠.free)->(l.map λ (x:Str × NameKind)=>match x with | (n,k)=>if (k == .free && env.scope.kind == .function && env.kindOf n == some .cell) then (n,.cell) else (n,k))=l:=by
  intro l
  induction l with
  | nil=>intro _;rfl
  | cons y r ih =>
   intro hy
   obtain ⟨n,k⟩:=y
   have hk:(k == NameKind.free)=false:=by simpa using hy (n,k) (List.mem_cons_self ..)
   rw [List.map_cons,ih λ z hz=>hy z (List.mem_cons_of_mem _ hz)]
   simp [hk]
 exact all _ hfree
theorem x7n {X:Cx}{elt tg iter:Expr}{scope:Scope}{pos:Pos}{own:List Str}{wi:TI}{g:TG}{te:TE}
  (hc:X.calm=true) (hi:PI X tg iter wi) (hcell:∀y∈scope.names,y.2≠.cell) (hfree:∀y∈scope.names,y.2≠.free) (hkind:scope.kind=.function)
  (hnames:∀y∈scope.names,y.2=.local->scope.names.lookup y.1=some .local)
  (hg:∀(C:Addr) (ex:List Addr) (s:Shared) (H:Hp),PG (z3p X own scope [] C ex s H) tg g)
  (he:∀(C:Addr) (ex:List Addr) (s:Shared) (H:Hp),PE (z3p X own scope [] C ex s H) elt te)
  (hs:∀x,foldedSetIterable iter X.env x=pure x:=by intro _;rfl) :
  PE X (.ListComp elt [⟨tg,iter,[],0⟩] scope pos) (z4g wi own.length [] g te):=by
 refine z6r (own:=own) (fv:=[]) (js:=[]) (cl:=[]) hc hi (closureFor_none hfree) hcell hkind hnames (λ x c h=>by cases h) (λ x h=>?_) rfl (λ i x j h=>by simp at h) (by simpa using hg) (by simpa using he) hs
 rw [z6z hfree] at h
 rcases h with h | h
 ·exact absurd rfl (hcell _ (PySem.mem_of_lookup h))
 ·exact absurd rfl (hfree _ (PySem.mem_of_lookup h))
def v1s (i j:Int):Prop:=j≠0/\-18446744073709551616 < j/\j < 18446744073709551616
section
variable {K:W.Frag}
def LoopL (K:PySem.W.Frag) (g:TG) (tb:TS) (D:Ends) (σ:St) (x:V) (H1:Hp):Prop:=∃a,x=.ref a/\(∃xs,SqL K H1 a xs)/\∃W:Nat->Nat->St->Hp->Prop,(∃m,W 0 m σ H1)/\∀i m σ H,W i m σ H ->
 ((Itl K a).stop i H/\D.nx σ H)\/((Itl K a).go i H/\∃N:St->Hp->Prop,(∀σ' H',N σ' H'->∃m',m' < m/\W (i+1) m' σ' H')/\∀x H',(Itl K a).yld i H x H'->g x σ H' λ σ2 H2=>tb { D with nx:=N,ct:=N,bk:=D.nx } σ2 H2)
def LoopT (K:PySem.W.Frag) (g:TG) (tb:TS) (D:Ends) (σ:St) (x:V) (H1:Hp):Prop:=∃a,x=.ref a/\(∃xs,SqT K H1 a xs)/\∃W:Nat->Nat->St->Hp->Prop,(∃m,W 0 m σ H1)/\∀i m σ H,W i m σ H ->
 ((Itt K a).stop i H/\D.nx σ H)\/((Itt K a).go i H/\∃N:St->Hp->Prop,(∀σ' H',N σ' H'->∃m',m' < m/\W (i+1) m' σ' H')/\∀x H',(Itt K a).yld i H x H'->g x σ H' λ σ2 H2=>tb { D with nx:=N,ct:=N,bk:=D.nx } σ2 H2)
def LoopR (lo:Int) (n:Nat) (g:TG) (tb:TS) (D:Ends) (σ:St) (H1:Hp):Prop:=∃W:Nat->Nat->St->Hp->Prop,(∃m,W 0 m σ H1)/\∀i m σ H,W i m σ H ->
 ((Itr lo n).stop i H/\D.nx σ H)\/((Itr lo n).go i H/\∃N:St->Hp->Prop,(∀σ' H',N σ' H'->∃m',m' < m/\W (i+1) m' σ' H')/\∀x H',(Itr lo n).yld i H x H'->g x σ H' λ σ2 H2=>tb { D with nx:=N,ct:=N,bk:=D.nx } σ2 H2)
theorem w3r {te:TE}{g:TG}{tb:TS}{D:Ends}{σ:St}{H:Hp}:y4g (x8s K te) g tb D σ H=te σ H λ x H1=>LoopL K g tb D σ x H1:=rfl
theorem w3p {te:TE}{g:TG}{tb:TS}{D:Ends}{σ:St}{H:Hp}:y4g (w9n K te) g tb D σ H=te σ H λ x H1=>LoopT K g tb D σ x H1:=rfl
theorem x9e {ta:TA}{g:TG}{tb:TS}{D:Ends}{σ:St}{H:Hp}:y4g (x8r ta) g tb D σ H=ta σ H λ vs H1=>∃j:Int,vs=[.int j]/\-(2 ^ 62)≤j/\j < 2 ^ 62/\LoopR 0 j.toNat g tb D σ H1:=rfl
theorem x9d {ta:TA}{g:TG}{tb:TS}{D:Ends}{σ:St}{H:Hp}:y4g (w8i ta) g tb D σ H=ta σ H λ vs H1=>∃i j:Int,vs=[.int i,.int j]/\(-(2 ^ 62)≤i/\i < 2 ^ 62/\-(2 ^ 62)≤j/\j < 2 ^ 62)/\LoopR i (j - i).toNat g tb D σ H1:=rfl
theorem LoopL.mk {a:Addr}{xs:List V}{g:TG}{tb:TS}{D:Ends}{σ:St}{H:Hp}(hS:SqL K H a xs) (Pv:Nat->St->Hp->Prop) (h0:Pv 0 σ H) (hl:∀i σ H,i≤xs.length->Pv i σ H->SqL K H a xs)
  (hs:∀i x σ H,xs[i]?=some x->Pv i σ H->g x σ H λ σ2 H2=>tb { D with nx:=Pv (i+1),ct:=Pv (i+1),bk:=D.nx } σ2 H2) (hd:∀σ H,Pv xs.length σ H->D.nx σ H):LoopL K g tb D σ (.ref a) H:=⟨a,rfl,⟨xs,hS⟩,x8x Pv h0 hl hs hd⟩
theorem LoopT.mk {a:Addr}{xs:List V}{g:TG}{tb:TS}{D:Ends}{σ:St}{H:Hp}(hS:SqT K H a xs) (Pv:Nat->St->Hp->Prop) (h0:Pv 0 σ H) (hl:∀i σ H,i≤xs.length->Pv i σ H->SqT K H a xs)
  (hs:∀i x σ H,xs[i]?=some x->Pv i σ H->g x σ H λ σ2 H2=>tb { D with nx:=Pv (i+1),ct:=Pv (i+1),bk:=D.nx } σ2 H2) (hd:∀σ H,Pv xs.length σ H->D.nx σ H):LoopT K g tb D σ (.ref a) H:=⟨a,rfl,⟨xs,hS⟩,w3l Pv h0 hl hs hd⟩
theorem LoopR.mk {lo:Int}{n:Nat}{g:TG}{tb:TS}{D:Ends}{σ:St}{H:Hp}(Pv:Nat->St->Hp->Prop) (h0:Pv 0 σ H)
  (hs:∀i σ H,i < n->Pv i σ H->g (.int (lo+i)) σ H λ σ2 H2=>tb { D with nx:=Pv (i+1),ct:=Pv (i+1),bk:=D.nx } σ2 H2) (hd:∀σ H,Pv n σ H->D.nx σ H):LoopR lo n g tb D σ H:=x4s Pv h0 hs hd
def CompL (K:PySem.W.Frag) (k:Nat) (js:List Nat) (g:TG) (te:TE) (σ:St) (x:V) (H1:Hp) (Q:VK):Prop:=∃a,x=.ref a/\(∃xs,SqL K H1 a xs)/\∃W:Nat->Nat->List V->St->Hp->Prop,(∃m,W 0 m [] (z1k k js σ) H1)/\∀i m ys σ' H',W i m ys σ' H' ->
  ((Itl K a).stop i H'/\∀p,H' p=none->Q (.ref p) (upd H' p (.lst ys))) \/
  ((Itl K a).go i H'/\ys.length < sizeLine/\∃N:List V->St->Hp->Prop,(∀zs σ2 H2,N zs σ2 H2->∃m',m' < m/\W (i+1) m' zs σ2 H2)/\∀x H2,(Itl K a).yld i H' x H2->g x σ' H2 λ σ3 H3=>te σ3 H3 λ v H4=>N (ys++[v]) σ3 H4)
def CompT (K:PySem.W.Frag) (k:Nat) (js:List Nat) (g:TG) (te:TE) (σ:St) (x:V) (H1:Hp) (Q:VK):Prop:=∃a,x=.ref a/\(∃xs,SqT K H1 a xs)/\∃W:Nat->Nat->List V->St->Hp->Prop,(∃m,W 0 m [] (z1k k js σ) H1)/\∀i m ys σ' H',W i m ys σ' H' ->
  ((Itt K a).stop i H'/\∀p,H' p=none->Q (.ref p) (upd H' p (.lst ys))) \/
  ((Itt K a).go i H'/\ys.length < sizeLine/\∃N:List V->St->Hp->Prop,(∀zs σ2 H2,N zs σ2 H2->∃m',m' < m/\W (i+1) m' zs σ2 H2)/\∀x H2,(Itt K a).yld i H' x H2->g x σ' H2 λ σ3 H3=>te σ3 H3 λ v H4=>N (ys++[v]) σ3 H4)
def CompR (lo:Int) (n k:Nat) (js:List Nat) (g:TG) (te:TE) (σ:St) (H1:Hp) (Q:VK):Prop:=∃W:Nat->Nat->List V->St->Hp->Prop,(∃m,W 0 m [] (z1k k js σ) H1)/\∀i m ys σ' H',W i m ys σ' H' ->
  ((Itr lo n).stop i H'/\∀p,H' p=none->Q (.ref p) (upd H' p (.lst ys))) \/
  ((Itr lo n).go i H'/\ys.length < sizeLine/\∃N:List V->St->Hp->Prop,(∀zs σ2 H2,N zs σ2 H2->∃m',m' < m/\W (i+1) m' zs σ2 H2)/\∀x H2,(Itr lo n).yld i H' x H2->g x σ' H2 λ σ3 H3=>te σ3 H3 λ v H4=>N (ys++[v]) σ3 H4)
theorem x9t {k:Nat}{js:List Nat}{ti:TE}{g:TG}{te:TE}{σ:St}{H:Hp}{Q:VK}:z4g (x8s K ti) k js g te σ H Q=ti σ H λ x H1=>CompL K k js g te σ x H1 Q:=rfl
theorem x9r {k:Nat}{js:List Nat}{ti:TE}{g:TG}{te:TE}{σ:St}{H:Hp}{Q:VK}:z4g (w9n K ti) k js g te σ H Q=ti σ H λ x H1=>CompT K k js g te σ x H1 Q:=rfl
theorem x5r {k:Nat}{js:List Nat}{ta:TA}{g:TG}{te:TE}{σ:St}{H:Hp}{Q:VK}:z4g (x8r ta) k js g te σ H Q=ta σ H λ vs H1=>∃j:Int,vs=[.int j]/\-(2 ^ 62)≤j/\j < 2 ^ 62/\CompR 0 j.toNat k js g te σ H1 Q:=rfl
theorem CompL.mk {a:Addr}{xs:List V}{k:Nat}{js:List Nat}{g:TG}{te:TE}{Q:VK}{σ:St}{H:Hp}(hS:SqL K H a xs) (Pv:Nat->List V->St->Hp->Prop) (h0:Pv 0 [] (z1k k js σ) H) (hl:∀i ys σ H,i≤xs.length->Pv i ys σ H->SqL K H a xs)
  (hs:∀i x ys σ H,xs[i]?=some x->Pv i ys σ H->ys.length < sizeLine/\g x σ H λ σ3 H3=>te σ3 H3 λ v H4=>Pv (i+1) (ys++[v]) σ3 H4) (hd:∀ys σ H,Pv xs.length ys σ H->∀p,H p=none->Q (.ref p) (upd H p (.lst ys))) :
  CompL K k js g te σ (.ref a) H Q:=⟨a,rfl,⟨xs,hS⟩,x5i Pv h0 hl hs hd⟩
theorem CompT.mk {a:Addr}{xs:List V}{k:Nat}{js:List Nat}{g:TG}{te:TE}{Q:VK}{σ:St}{H:Hp}(hS:SqT K H a xs) (Pv:Nat->List V->St->Hp->Prop) (h0:Pv 0 [] (z1k k js σ) H) (hl:∀i ys σ H,i≤xs.length->Pv i ys σ H->SqT K H a xs)
  (hs:∀i x ys σ H,xs[i]?=some x->Pv i ys σ H->ys.length < sizeLine/\g x σ H λ σ3 H3=>te σ3 H3 λ v H4=>Pv (i+1) (ys++[v]) σ3 H4) (hd:∀ys σ H,Pv xs.length ys σ H->∀p,H p=none->Q (.ref p) (upd H p (.lst ys))) :
  CompT K k js g te σ (.ref a) H Q:=⟨a,rfl,⟨xs,hS⟩,x9o Pv h0 hl hs hd⟩
theorem CompR.mk {lo:Int}{n k:Nat}{js:List Nat}{g:TG}{te:TE}{Q:VK}{σ:St}{H:Hp}(Pv:Nat->List V->St->Hp->Prop) (h0:Pv 0 [] (z1k k js σ) H)
  (hs:∀i ys σ H,i < n->Pv i ys σ H->ys.length < sizeLine/\g (.int (lo+i)) σ H λ σ3 H3=>te σ3 H3 λ v H4=>Pv (i+1) (ys++[v]) σ3 H4) (hd:∀ys σ H,Pv n ys σ H->∀p,H p=none->Q (.ref p) (upd H p (.lst ys))) :
  CompR lo n k js g te σ H Q:=y9y Pv h0 hs hd
end
theorem w8y {CX:CXT}{P:Program}{w:World}{K:W.Frag}{mg:Str->Option Value}{base:Heap}{N:List Str}{qual:Str}{scope:Scope}{f:Addr}{cd:Value}{A:Around}{outer:List Env}{s:Shared}{H:Hp}{E:XK}:(y5o CX P w K mg base N qual scope f cd A outer s H E).K=K:=rfl
theorem x9n {X:Cx}{N:List Str}{scope:Scope}{cl:List (Str × Addr)}{C:Addr}{ex:List Addr}{s:Shared}{H:Hp}:(z3p X N scope cl C ex s H).K=X.K:=rfl
def tyS:V->Option String
 | .int _=>some "int"
 | .bl _=>some "bool"
 | .str _=>some "str"
 | .non=>some "NoneType"
 | _=>none
def w0u (t n:String):Bool:=t == n || (t == "bool" && n == "int")
def x6n (x:V) (n:String):Bool:=match tyS x with
 | some t=>w0u t n
 | none=>false
theorem w7y {i:Int}:x6n (.int i) "int"=true:=by show w0u "int" "int"=true;decide +kernel
theorem w7z {i:Int}:x6n (.int i) "bool"=false:=by show w0u "int" "bool"=false;decide +kernel
theorem w8a {b:Bool}:x6n (.bl b) "int"=true:=by show w0u "bool" "int"=true;decide +kernel
theorem w8b {b:Bool}:x6n (.bl b) "bool"=true:=by show w0u "bool" "bool"=true;decide +kernel
theorem w7x {i:Int}:x6n (.int i) "tuple"=false:=by show w0u "int" "tuple"=false;decide +kernel
theorem y7q {K:W.Frag}{t n:String}{b:Bool}(e:(if (Value.type t == Value.type n)=true then some true else if W.kitMeta n=true then (fastBuiltinMro t).map (·.contains (.type n)) else none)=some b):W.kitOne K (.type t) (.type n)=some b:=by
 unfold W.kitOne
 split at e
 ·rename_i h;rw [if_pos h];exact e
 ·rename_i h;rw [if_neg h];exact e
theorem x4d {K:W.Frag}{x:V}{t n:String}(hn:n∈["int","bool","tuple","list","str"]) (ht:tyS x=some t):W.kitOne K (.type t) (.type n)=some (x6n x n):=by
 simp only [List.mem_cons,List.mem_nil_iff,or_false] at hn
 cases x<;>simp only [tyS,reduceCtorEq,Option.some.injEq] at ht<;>subst ht<;>rcases hn with rfl | rfl | rfl | rfl | rfl<;>refine y7q ?_<;>simp only [x6n,tyS]<;>decide +kernel
theorem x5x {X:Cx}:z4l X (.builtin "isinstance") (λ xs H Q=>∃x n,xs=[x,.ty n]/\(n∈["int","bool","tuple","list","str"]/\(tyS x).isSome=true)/\Q (.bl (x6n x n)) H):=by
 intro pins s σ H xs us Q I r h
 obtain ⟨x,n,rfl,⟨hn,hx⟩,q⟩:=h
 obtain ⟨t,ht⟩:=Option.isSome_iff_exists.mp hx
 refine y8h pins s σ H _ us Q I r ⟨x,n,.type t,x6n x n,rfl,?_,x4d hn ht,q⟩
 cases x<;>simp only [tyS,reduceCtorEq,Option.some.injEq] at ht<;>subst ht
 ·exact .non
 ·exact .bl _
 ·exact .int _
 ·exact .str _
theorem na2:(Int.natAbs 2 < 18446744073709551616)=True:=eq_true (by decide)
theorem v3u:(Int.natAbs 10 < 18446744073709551616)=True:=eq_true (by decide)
theorem z0b {H:Hp}{p:Addr}(h:H p=none) (o:HO):Same H (upd H p o):=λ b u q=>by rw [z0o (z3f q h)];exact q
theorem small {n:Nat}(h:n≤1000):n≤sizeLine:=Nat.le_of_lt (z1i h)
theorem Same.tup {K:W.Frag}{H H':Hp}{a:Addr}{xs:List V}(e:Same H H') (h:SqT K H a xs):SqT K H' a xs:=by
 rcases h with (h | ⟨o,h⟩) | h
 ·exact .inl (.inl (e _ _ h))
 ·exact .inl (.inr ⟨o,e _ _ h⟩)
 ·exact .inr h
theorem w5q {σ:St}(h:σ.length=1):∃z,σ=[z]:=by
 match σ,h with
 | [z],_=>exact ⟨z,rfl⟩
theorem w8k {α β:Type}{f:α->β}{l:List α}{i:Nat}{y:β}(h:(l.map f)[i]?=some y):∃x,l[i]?=some x/\y=f x:=by
 rw [List.getElem?_map] at h
 obtain ⟨x,h1,h2⟩:=Option.map_eq_some_iff.mp h
 exact ⟨x,h1,h2.symm⟩
theorem y8s {α:Type}{l:List α}{i:Nat}{x:α}(h:l[i]?=some x):l.take (i+1)=l.take i++[x]:=by
 rw [List.take_succ,h];rfl
theorem CompL.vals {K:W.Frag}{a:Addr}{xs:List V}{te:TE}{Q:VK}{σ:St}{H:Hp}{fn:V->V}(hS:SqL K H a xs) (hz:xs.length≤1000)
  (hs:∀x∈xs,∀H1,Same H H1->∀Q':VK,(∀H2,Same H1 H2->Q' (fn x) H2)->te [some x] H1 Q')
  (hd:∀H1,Same H H1->∀p,H1 p=none->Q (.ref p) (upd H1 p (.lst (xs.map fn)))):CompL K 1 [] (z9f 0) te σ (.ref a) H Q:=by
 refine CompL.mk hS (λ i ys σ' H'=>Same H H'/\ys=(xs.take i).map fn/\σ'.length=1) ⟨Same.refl _,rfl,rfl⟩ (λ i ys σ' H' _ h=>h.1.seq hS) (λ i x ys σ' H' e h=>?_) (λ ys σ' H' h p hp=>?_)
 ·obtain ⟨h1,rfl,h3⟩:=h
  obtain ⟨z,rfl⟩:=w5q h3
  refine ⟨?_,?_⟩
  ·rw [List.length_map,List.length_take]
   exact Nat.lt_of_le_of_lt (Nat.min_le_right _ _) (z1i hz)
  ·refine hs x (List.mem_of_getElem? e) H' h1 _ λ H2 h2=>⟨h1.trans h2,?_,rfl⟩
   rw [y8s e,List.map_append];rfl
 ·obtain ⟨h1,rfl,h3⟩:=h
  rw [List.take_length]
  exact hd H' h1 p hp
section
variable {X:Cx}
def v3q:R2:=λ x y H Q=>∃p xs,y=.ref p/\H p=some (.tup xs)/\z1r x=true/\xs.all z1r=true/\Q (.bl (inV x xs)) H
def v2l:R2:=λ x y H Q=>∃p xs,y=.ref p/\H p=some (.lst xs)/\z1r x=true/\xs.all z1r=true/\Q (.bl (inV x xs)) H
theorem w7g:OpR X (compareOp .In) v2l:=by
 intro pins s σ H x y v u Q I rx ry h
 obtain ⟨p,xs,rfl,hq,fx,fs,q⟩:=h
 exact x2w pins s σ H x _ v u Q I rx ry ⟨p,xs,rfl,.inl (.of hq),fx,fs,q⟩
def w6g:R2:=λ x y H Q=>∃p xs i v,x=.ref p/\y=.int i/\H p=some (.lst xs)/\atI xs i=some v/\Q v H
def w6f:R2:=λ x y H Q=>∃p xs i v,x=.ref p/\y=.int i/\H p=some (.tup xs)/\atI xs i=some v/\Q v H
theorem z0z:IxR X w6g:=by
 intro value slice pins s σ H x y v u Q I rx ry h hs
 obtain ⟨p,xs,i,z,rfl,rfl,hq,he,q⟩:=h
 exact z6u value slice pins s σ H _ _ v u Q I rx ry ⟨p,xs,i,z,rfl,rfl,.of hq,he,q⟩ hs
theorem z1h:IxR X w6f:=by
 intro value slice pins s σ H x y v u Q I rx ry h hs
 obtain ⟨p,xs,i,z,rfl,rfl,hq,he,q⟩:=h
 exact w7w value slice pins s σ H _ _ v u Q I rx ry ⟨p,xs,i,z,rfl,rfl,.of hq,he,q⟩ hs
end
section
variable {X:Cx}
def w8l (n:Nat) (t:TGs):TG:=λ v σ H Q=>∃a xs,v=.ref a/\H a=some (.tup xs)/\xs.length=n/\t xs σ H Q
theorem w2j {es:List Expr}{k:Nat}{pos:Pos}{t:TGs}{n:Nat}(h:PG X (.Tuple es k pos) (w8m X.K n t)):PG X (.Tuple es k pos) (w8l n t):=by
 intro pins s σ H v u Q I r q
 obtain ⟨a,xs,e,ha,hl,q⟩:=q
 exact h pins s σ H v u Q I r ⟨a,xs,e,.of ha,hl,q⟩
def v2d (to te:TE):TE:=λ σ H Q=>to σ H λ x H1=>∃l,x=.ref l/\(∃xs,H1 l=some (.lst xs))/\te σ H1 λ v H2=>∃xs,H2 l=some (.lst xs)/\xs.length < sizeLine/\Q .non (upd H2 l (.lst (xs++[v])))
theorem z7a {o e:Expr}{to te:TE}{apos cpos:Pos}(ho:PE X o to) (he:PE X e te)
  (hbase:attributeBase o "append" X.env (eval o X.env)=eval o X.env:=by rfl) (hfew:((backTo cpos (starEach [e] X.env)).all (λ x=>!x.1) && (backToKw cpos (keywordEach [] X.env)).all (λ x=>x.1.isSome)
   && decide ([e].length+([]:List Keyword).length+(if ([]:List Keyword).isEmpty then 0 else 1) < 30))=true:=by rfl)
  (hline:(apos.endLine == cpos.line)=true:=by rfl) (hs:starEach [e] X.env=[(false,eval e X.env)]:=by rfl):PE X (.Call (.Attribute o "append" apos) [e] [] cpos) (v2d to te):=by
 intro pins s σ H Q I h
 refine wpAny_Call_method_late hbase hfew hline rfl (thn (ho pins s σ H _ I h) λ v s1 ⟨x,H1,I1,r1,q1⟩=>?_)
 obtain ⟨l,rfl,⟨xs1,hx1⟩,q2⟩:=q1
 obtain ⟨h1,h2⟩:=y5z (T := "list") I1 r1 (.inl ⟨rfl,_,.of hx1⟩)
 refine ⟨"list","list.append",PySem.F.plainAttrs_list,PySem.F.slot_list_append,PySem.F.type_list_append,h1,h2,?_⟩
 have hA:=(z0a he z0e hs) cpos pins s1 σ H1 (λ vs H2=>match vs with | [v]=>∃xs,H2 l=some (.lst xs)/\xs.length < sizeLine/\Q .non (upd H2 l (.lst (xs++[v]))) | _=>False) I1 q2
 rw [hs] at hA ⊢
 refine Calls.callWith_builtin rfl (Calls.evalArgs_plain ?_)
 refine thn hA λ us s2 ⟨vs,H2,I2,r2,q3⟩=>?_
 match vs,q3 with
 | [v2],⟨xs,hx,hz,q⟩=>exact x3s pins s2 σ H2 (.ref l) [v2] v us Q I2 r1 r2 ⟨l,xs,v2,rfl,rfl,hx,hz,q⟩
end
def SameX (l:Addr) (H H':Hp):Prop:=∀b o,b≠l->H b=some o->H' b=some o
theorem SameX.refl (l:Addr) (H:Hp):SameX l H H:=λ _ _ _ h=>h
theorem SameX.trans {l:Addr}{H H1 H2:Hp}(a:SameX l H H1) (b:SameX l H1 H2):SameX l H H2:=λ c o n h=>b c o n (a c o n h)
theorem SameX.set {l:Addr}(H:Hp) (o:HO):SameX l H (upd H l o):=λ b u n e=>by rw [z0o n];exact e
end L2
namespace L2
open PySem PySem.Spec PyProof.Rows PySem.W PySem.Calls
structure ExcK (K:W.Frag) (C:Addr):Prop where
 cls:(clsIn K C).isSome=true
 ga:findIn K (.ref C) "__getattribute__"=some (some (.builtin "BaseException.__getattribute__"))
 gt:findIn K (.ref C) "__getattr__"=some none
 cl:findIn K (.ref C) "__class__"=some (some (.builtin "object.__class__"))
 mo:mroIn K C (.type "object")=some true
 mb:mroIn K C (.type "BaseException")=some true
section
variable {prog:Program}{w:World}{A:Around}{E:Value->Shared->Prop}{K:W.Frag}{h:Heap}{g:Array GenState}{d:Drawn}{t:Nat}{os:OsState}{a C:Addr}{ox:Obj}
theorem w3x {R:Result->Shared->Prop}(X:K.In h) (k:ExcK K C) (hx:h.get? a=some ox) (hc:ox.cls=.ref C) (hq:R (.ok (.ret (.ref C))) ⟨h,g,d,t,os⟩) :
  codeAny (model prog w) A (.call (.builtin "getset_descriptor.__get__") ⟨[.builtin "object.__class__",.ref a,.ref C],[]⟩) R ⟨h,g,d,t,os⟩:=by
 have L0:Looks (model prog w) h (typeOf (.ref a)) (.ref C):=hc ▸ (Looks.ld hx).andThen .now
 have L1:=looks_mroIn (M:=model prog w) X k.mo
 have hT5:(⟨h,g,d,t,os⟩:Shared).TypeIs (.builtin "object.__class__") "getset_descriptor" := F.typeOf_object_class
 have L2:Looks (model prog w) h (isSubtype (.ref C) (.type (".".intercalate ("object.__class__".cutAt '.').dropLast))) true:=by
  rw [show (".".intercalate ("object.__class__".cutAt '.').dropLast)="object" by decide +kernel]
  exact L1
 refine codeAny_call_builtin F.slot_gs_get.plain F.entry_gs_get (F.slot_gs_get.check _ _ _ _ _ _ _ _ hT5 (F.args_gs_get _ _ _) ?_)
 repeat (any_goals (first | assumption | with_reducible refine L0.at ?_ | with_reducible refine L2.at ?_ | wp_step))
 refine ⟨Code.quiet_builtin _ (by decide +kernel),codeAny_builtin F.entry_object_class ?_⟩
 repeat (any_goals (first | assumption | with_reducible refine L0.at ?_ | wp_step))
theorem x4w {tk:Tok}{Q:Fin->Shared->Prop}(X:K.In h) (k:ExcK K C) (hx:h.get? a=some ox) (hc:ox.cls=.ref C) (hq:Q (.done (.ret (.ref C))) ⟨h,g,d,t,os⟩) :
  wpAny (model prog w) A (Builtin.«object.__getattribute__» ⟨[.ref a,.str "__class__" tk],[]⟩) Q E ⟨h,g,d,t,os⟩:=by
 have L0:Looks (model prog w) h (typeOf (.ref a)) (.ref C):=hc ▸ (Looks.ld hx).andThen .now
 have L3:=looks_findIn (M:=model prog w) X k.cl
 have hT5:(⟨h,g,d,t,os⟩:Shared).TypeIs (.builtin "object.__class__") "getset_descriptor" := F.typeOf_object_class
 have f5:=F.typeOf_object_class
 have f6:=F.slot_gs_get.lookup
 have f7:=F.slot_gs_set.lookup
 repeat (any_goals (first | assumption | with_reducible refine L0.at ?_ | with_reducible refine L3.at ?_ | wp_step))
 refine w3x X k hx hc ?_
 repeat (any_goals (first | assumption | wp_step))
theorem x4x {M:Model}{nameV:Value}{Q:Unit->Shared->Prop}(X:K.In h) (k:ExcK K C) (hx:h.get? a=some ox) (hc:ox.cls=.ref C) (hq:Q () ⟨h,g,d,t,os⟩) :
  wpAny M A (checkBuiltinCall "BaseException.__getattribute__" ⟨[.ref a,nameV],[]⟩) Q E ⟨h,g,d,t,os⟩:=by
 have e1:builtinKind "BaseException.__getattribute__"=some .slot:=by decide +kernel
 have e2:splitId "BaseException.__getattribute__"=some ("BaseException","__getattribute__"):=by decide +kernel
 have e3:=F.args_bexc_ga (.ref a) nameV
 have L0:Looks M h (typeOf (.ref a)) (.ref C):=hc ▸ (Looks.ld hx).andThen .now
 have L5:=looks_mroIn (M:=M) X k.mb
 have LI:Looks M h (isInstance (.ref a) (.type "BaseException")) true:=L0.andThen L5
 simp only [checkBuiltinCall,e1,e2]
 refine wpAny_bind (LI.at ?_)
 repeat (first | assumption | wp_step)
theorem w8r {Q:Option Value->Shared->Prop}{s:Shared}(X:K.In s.heap) (k:ExcK K C) (hx:s.heap.get? a=some ox) (hc:ox.cls=.ref C) (hq:Q (some (.ref C)) { s with toks:=s.toks+1 }) :
  wpAny (model prog w) A (getAttr? (.ref a) "__class__") Q E s:=by
 obtain ⟨h,g,d,t,os⟩:=s
 have L0:Looks (model prog w) h (typeOf (.ref a)) (.ref C):=hc ▸ (Looks.ld hx).andThen .now
 have L1:=looks_findIn (M:=model prog w) X k.ga
 have L2:=looks_findIn (M:=model prog w) X k.gt
 have f3:=F.excAttr_ValueError.ga.bind (.ref a)
 unfold getAttr? getAttrBy? getAttrBy
 refine wpAny_bind (wpAny_mkText (wpAny_bind (wpAny_attempt (wpAny_holding (wpAny_bind (L0.at (wpAny_bind (L1.at ?_))))))))
 dsimp only
 have n1:¬(onTheHeap (Value.ref C) && Value.builtin "BaseException.__getattribute__" == Value.builtin "object.__getattribute__")=true:=by
  show ¬((true && (Value.builtin "BaseException.__getattribute__" == Value.builtin "object.__getattribute__"))=true)
  decide +kernel
 rw [if_neg n1]
 unfold getAttrByItsOwn hookBefore
 refine wpAny_bind ?_
 rw [if_pos (show onTheHeap (Value.ref C)=true from rfl)]
 refine L2.at (wpAny_bind (wpAny_attempt (wpAny_holding ?_)))
 unfold callGetattribute
 rw [if_neg (by decide +kernel)]
 unfold boundAndCalled
 refine wpAny_bind (wpAny_of_eq f3 ?_)
 refine wpAny_call (codeAny_call_builtin F.excAttr_ValueError.ga.plain F.entry_bexc_ga (x4x X k hx hc (x4w X k hx hc ?_)))
 repeat (any_goals (first | assumption | wp_step))
end
theorem y1n {K:W.Frag}{a C:Addr}(k:ExcK K C):KitX K (.ref a) (.ref C) (λ h=>∃o vs,h.get? a=some o/\o.cls=.ref C/\o.data=.fields vs) where
 ty:=λ M h _ ⟨o,_,h1,h2,_⟩=>h2 ▸ (Looks.ld h1).andThen .now
 it:=λ M h X _=>by
  obtain ⟨cd,hcd⟩:=Option.isSome_iff_exists.mp k.cls
  unfold clsIn at hcd
  split at hcd
  ·rename_i z1 z2 z3 z4 hlk
   intro A' Q' E' s' kk q
   unfold isType loadHead
   exact wpAny_bind (wpAny_loadPart (kk _ _ (X _ _ hlk)) (wpAny_pure q))
  ·cases hcd
 ne:=λ h tp dd its n sl X htp=>by
  obtain ⟨cd,hcd⟩:=Option.isSome_iff_exists.mp k.cls
  refine Bool.eq_false_iff.mpr λ q=>?_
  have e:C=tp:=Value.ref.inj (beq_iff_eq.mp q)
  subst e
  unfold clsIn at hcd
  split at hcd
  ·rename_i z1 z2 z3 z4 hlk
   have z:=(X _ _ hlk).symm.trans htp
   cases z
  ·cases hcd
 ca:=λ X ⟨o,_,h1,h2,_⟩ q=>w8r X k h1 h2 q
section
variable {X:Cx}
theorem z4d {x:Str}{C:Addr}{pos:Pos}(hg:Gl X x) (hn:W.nsIn X.K mainGlobals x=some (some (.ref C))) (hd:(x == ("__debug__" : Str))=false:=by decide):PE X (.Name x pos) (tC (.ref C)):=by
 intro pins s σ H Q I h
 exact z3o I hg (W.mg_of I.ok.mod.kin I.ok.mod.glob hn) ⟨.ref C,H,I,rfl,h⟩ hd
end
def IsRv (h:Heap) (a t:Addr) (i:Int):Prop:=∃o,h.get? a=some o/\o.cls=.type "reversed" /\ o.data=.fields #[.ref t,rawInt i]
theorem IsRv.typeIs {s:Shared}{a t:Addr}{i:Int}(x:IsRv s.heap a t i):s.TypeIs (.ref a) "reversed" := let ⟨o,ho,hc,_⟩:=x;⟨o,ho,hc⟩
section
variable {prog:Program}{w:World}{A:Around}{E:Value->Shared->Prop}{s:Shared}
end
def w9q (K:W.Frag) (a:Addr) (n:Nat):It:=⟨λ i H=>∃xs,SqT K H a xs/\xs.length=n/\i < n,λ i H x H'=>H'=H/\∀xs,SqT K H a xs->xs[n - 1 - i]?=some x,λ i H=>∃xs,SqT K H a xs/\xs.length=n/\i=n⟩
section
variable {X:Cx}{tg:Expr}
def v1c (K:W.Frag) (te:TE):TI:=λ σ H R=>te σ H λ x H1=>∃a xs,x=.ref a/\SqT K H1 a xs/\R (w9q K a xs.length) H1
end
def LoopV (K:PySem.W.Frag) (g:TG) (tb:TS) (D:Ends) (σ:St) (x:V) (H1:Hp):Prop:=∃a xs,x=.ref a/\SqT K H1 a xs/\∃W:Nat->Nat->St->Hp->Prop,(∃m,W 0 m σ H1)/\∀i m σ H,W i m σ H ->
 ((w9q K a xs.length).stop i H/\D.nx σ H)\/((w9q K a xs.length).go i H/\∃N:St->Hp->Prop,(∀σ' H',N σ' H'->∃m',m' < m/\W (i+1) m' σ' H')/\∀x H',(w9q K a xs.length).yld i H x H'->g x σ H' λ σ2 H2=>tb { D with nx:=N,ct:=N,bk:=D.nx } σ2 H2)
theorem w3o {K:W.Frag}{te:TE}{g:TG}{tb:TS}{D:Ends}{σ:St}{H:Hp}:y4g (v1c K te) g tb D σ H=te σ H λ x H1=>LoopV K g tb D σ x H1:=rfl
theorem LoopV.mk {K:W.Frag}{a:Addr}{xs:List V}{g:TG}{tb:TS}{D:Ends}{σ:St}{H:Hp}(hS:SqT K H a xs) (Pv:Nat->St->Hp->Prop) (h0:Pv 0 σ H) (hl:∀i σ H,i≤xs.length->Pv i σ H->SqT K H a xs)
  (hs:∀i x σ H,i < xs.length->xs[xs.length - 1 - i]?=some x->Pv i σ H->g x σ H λ σ2 H2=>tb { D with nx:=Pv (i+1),ct:=Pv (i+1),bk:=D.nx } σ2 H2) (hd:∀σ H,Pv xs.length σ H->D.nx σ H):LoopV K g tb D σ (.ref a) H:=by
 refine ⟨a,xs,rfl,hS,λ i m σ H=>m=xs.length - i/\i≤xs.length/\Pv i σ H,⟨xs.length,by simp,Nat.zero_le _,h0⟩,?_⟩
 rintro i m σ H ⟨rfl,hi,p⟩
 have q:=hl i σ H hi p
 by_cases hlt:i < xs.length
 ·refine .inr ⟨⟨xs,q,rfl,hlt⟩,Pv (i+1),λ σ' H' p'=>⟨xs.length - (i+1),by lia,rfl,hlt,p'⟩,λ x H' y=>?_⟩
  obtain ⟨e,y⟩:=y
  subst e
  exact hs i x σ _ hlt (y xs q) p
 ·have e:i=xs.length:=by lia
  subst e
  exact .inl ⟨⟨xs,q,rfl,rfl⟩,hd σ H p⟩
section
variable {X:Cx}
def v0m (K:W.Frag):R2:=λ x y H Q=>∃a b xs ys,x=.ref a/\y=.ref b/\SqT K H a xs/\SqT K H b ys/\xs.length+ys.length≤sizeLine /\
 (xs=[]->Q (.ref b) H)/\(xs≠[]->ys=[]->Q (.ref a) H)/\(xs≠[]->ys≠[]->∀p,H p=none->Q (.ref p) (upd H p (.tup (xs++ys))))
def x0e:List V->List V->Bool
 | [],[]=>true
 | x::xs,y::ys=>eqV x y && x0e xs ys
 | _,_=>false
theorem y8a:∀ {xs ys:List V},xs.length≠ys.length->x0e xs ys=false
 | [],[],h=>absurd rfl h
 | x::xs,y::ys,h=>by
  have e:xs.length≠ys.length:=λ z=>h (by simp [z])
  simp [x0e,y8a e]
 | [],_::_,_=>rfl
 | _::_,[],_=>rfl
def z9g (xs ys:List V) (j:Nat):Bool:=match xs[j]?,ys[j]? with | some x,some y=>eqV x y | _,_=>false
theorem y8b:∀ {xs ys:List V},xs.length=ys.length->(List.range xs.length).all (z9g xs ys)=x0e xs ys
 | [],[],_=>rfl
 | x::xs,y::ys,h=>by
  have e:xs.length=ys.length:=by simpa using h
  rw [List.length_cons,List.range_succ_eq_map,List.all_cons,List.all_map]
  have z:(z9g (x::xs) (y::ys) ∘ Nat.succ)=z9g xs ys:=by funext j;simp [z9g]
  rw [z,y8b e]
  rfl
 | [],_::_,h=>by cases h
 | _::_,[],h=>by cases h
theorem x9j {A:Around}{s:Shared}{xs ys:List V}{us ws:List Value}(r1:Vals xs us) (r2:Vals ys ws) (f1:xs.all z1r=true) (f2:ys.all z1r=true) (j:Nat) (h1:j < us.toArray.size) (h2:j < ws.toArray.size) :
  SeqAt.EqAt A s us.toArray[j] ws.toArray[j] (z9g xs ys j):=by
 have l1:=r1.length
 have l2:=r2.length
 have k1:j < xs.length:=by rw [l1];simpa using h1
 have k2:j < ys.length:=by rw [l2];simpa using h2
 obtain ⟨u,hu,ru⟩:=r1.get (List.getElem?_eq_getElem k1)
 obtain ⟨v,hv,rv⟩:=r2.get (List.getElem?_eq_getElem k2)
 have e1:us.toArray[j]=u:=by
  have z:us[j]?=some (us[j]'(by simpa using h1)):=List.getElem?_eq_getElem _
  rw [z] at hu
  simpa using hu
 have e2:ws.toArray[j]=v:=by
  have z:ws[j]?=some (ws[j]'(by simpa using h2)):=List.getElem?_eq_getElem _
  rw [z] at hv
  simpa using hv
 rw [e1,e2]
 have e3:z9g xs ys j=eqV xs[j] ys[j]:=by simp [z9g,k1,k2]
 rw [e3]
 exact x4z ru rv (List.all_eq_true.mp f1 _ (List.getElem_mem k1)) (List.all_eq_true.mp f2 _ (List.getElem_mem k2))
def v3r (K:W.Frag):R2:=λ x y H Q=>∃a b xs ys,x=.ref a/\y=.ref b/\SqL K H a xs/\SqL K H b ys/\xs.all z1r=true/\ys.all z1r=true/\Q (.bl (x0e xs ys)) H
def v2m (K:W.Frag):R2:=λ x y H Q=>∃a b xs ys,x=.ref a/\y=.ref b/\SqT K H a xs/\SqT K H b ys/\xs.all z1r=true/\ys.all z1r=true/\Q (.bl (x0e xs ys)) H
theorem w7h (hu:X.A.units < cLine):OpR X (compareOp .Eq) (v2m X.K):=by
 intro pins s σ H x y v u Q I rx ry h
 obtain ⟨a,b,xs,ys,rfl,rfl,ha,hb,f1,f2,q⟩:=h
 cases rx
 cases ry
 obtain ⟨us,r1,p1,_⟩:=I.tuple ha
 obtain ⟨ws,r2,p2,_⟩:=I.tuple hb
 refine SeqAt.eq_tupleAt (show s.heap.IsTuple a us.toArray from p1) (show s.heap.IsTuple b ws.toArray from p2) (e:=z9g xs ys) hu (x9j r1 r2 f1 f2) ?_
 have e1:us.toArray.size=xs.length:=by simp [r1.length]
 have e2:ws.toArray.size=ys.length:=by simp [r2.length]
 rw [e1,e2]
 by_cases hl:xs.length=ys.length
 ·have z:((List.range (min xs.length ys.length)).all (z9g xs ys) && xs.length == ys.length)=x0e xs ys:=by
   rw [← hl,Nat.min_self,y8b hl];simp
  rw [z]
  exact ⟨.bl _,H,I,rfl,q⟩
 ·have z:((List.range (min xs.length ys.length)).all (z9g xs ys) && xs.length == ys.length)=x0e xs ys:=by
   rw [y8a hl];simp [hl]
  rw [z]
  exact ⟨.bl _,H,I,rfl,q⟩
theorem x4u:∀(ns:List Int),(ns.map V.int).all z1r=true
 | []=>rfl
 | n::ns=>by simp [z1r]
end
section
variable {pg:Program}{wd:World}{B:Around}{X0:Value->Shared->Prop}{s0:Shared}
structure Apart5 (z ti ox j1 j2 t1 t2:Addr):Prop where
 ti_z:ti≠z
 ox_z:ox≠z
 j1_z:j1≠z
 j2_z:j2≠z
 ti_ox:ti≠ox
 ti_j1:ti≠j1
 ti_j2:ti≠j2
 ox_j1:ox≠j1
 ox_j2:ox≠j2
 j12:j1≠j2
 t1_z:t1≠z
 t1_ox:t1≠ox
 t1_j1:t1≠j1
 t1_j2:t1≠j2
 t2_z:t2≠z
 t2_ox:t2≠ox
 t2_j1:t2≠j1
 t2_j2:t2≠j2
end
theorem Inv.turnedL {X:Cx}{pins:List (Addr × Obj)}{σ:St}{H:Hp}{s:Shared}{h':Heap}{t':Nat}{fl:List Addr}(I:Inv X pins σ H s) (kk:∀b o,b ∉ fl->s.heap.get? b=some o->h'.get? b=some o) (fo:∀b∈fl,w0a X pins H b):Inv X pins σ H { s with heap:=h',toks:=t' }:=by
 have out:∀b u,H b=some u->b ∉ fl:=λ b u e z=>by rw [(fo b z).1] at e;cases e
 refine I.step (g':=s.gens) (d':=s.drawn) (ch:=fl) (λ b hb=>?_) (λ b o _ _ hc e _=>kk b o hc e) (λ b o _ _ hc e _=>⟨o.slots,kk b o hc e⟩) (λ _ _ _ _ q=>q)
  (λ b o hc e=>⟨o,kk b o hc e⟩) (λ _ _ e=>e) (λ _ _ _ e=>e) (λ b ps e=>⟨#[],by rw [e];simp⟩) (λ m hm=>?_) (λ b u e=>?_) I.bare
 ·obtain ⟨_,f1,_,f3,f4,f5⟩:=fo b hb
  exact ⟨f3,f1,f4,f5⟩
 ·obtain ⟨o,es,ep,ho,r⟩:=hm
  exact ⟨o,es,ep,kk _ o (λ z=>(fo _ z).2.1 rfl) ho,r⟩
 ·refine (I.hok b u e).stay (λ c v hc q=>kk c v ?_ q) (λ _ q=>q) λ _ _ q=>q
  rcases hc with z | z
  ·rw [z];exact out b u e
  ·exact out c _ z
def Itz (K:W.Frag) (a b:Addr):It:=⟨λ i H=>∃xs ys x y,SqT K H a xs/\SqT K H b ys/\xs[i]?=some x/\ys[i]?=some y,
 λ i H v H'=>∃T x y,v=.ref T/\H T=none/\H'=upd H T (.tup [x,y])/\∀xs ys,SqT K H a xs->SqT K H b ys->xs[i]?=some x/\ys[i]?=some y,λ i H=>∃xs ys,SqT K H a xs/\SqT K H b ys/\(xs.length≤i\/ys.length≤i)⟩
section
variable {X:Cx}{es:List Expr}{x1:Nat}{pp:Pos}
def v1a (K:W.Frag) (ta:TA):TI:=λ σ H R=>ta σ H λ vs H1=>∃a b xs ys,vs=[.ref a,.ref b]/\SqT K H1 a xs/\SqT K H1 b ys/\R (Itz K a b) H1
end
def LoopZ (K:PySem.W.Frag) (g:TG) (tb:TS) (D:Ends) (σ:St) (vs:List V) (H1:Hp):Prop:=∃a b xs ys,vs=[.ref a,.ref b]/\SqT K H1 a xs/\SqT K H1 b ys/\∃W:Nat->Nat->St->Hp->Prop,(∃m,W 0 m σ H1)/\∀i m σ H,W i m σ H ->
 ((Itz K a b).stop i H/\D.nx σ H)\/((Itz K a b).go i H/\∃N:St->Hp->Prop,(∀σ' H',N σ' H'->∃m',m' < m/\W (i+1) m' σ' H')/\∀x H',(Itz K a b).yld i H x H'->g x σ H' λ σ2 H2=>tb { D with nx:=N,ct:=N,bk:=D.nx } σ2 H2)
theorem w3m {K:W.Frag}{ta:TA}{g:TG}{tb:TS}{D:Ends}{σ:St}{H:Hp}:y4g (v1a K ta) g tb D σ H=ta σ H λ vs H1=>LoopZ K g tb D σ vs H1:=rfl
theorem LoopZ.mk {K:W.Frag}{a b:Addr}{xs ys:List V}{g:TG}{tb:TS}{D:Ends}{σ:St}{H:Hp}(n:Nat) (hn:n=min xs.length ys.length) (h1:SqT K H a xs) (h2:SqT K H b ys) (Pv:Nat->St->Hp->Prop) (h0:Pv 0 σ H) (hl:∀i σ H,i≤n->Pv i σ H->SqT K H a xs/\SqT K H b ys)
  (hs:∀i x y σ H T,i < n->xs[i]?=some x->ys[i]?=some y->Pv i σ H->H T=none->g (.ref T) σ (upd H T (.tup [x,y])) λ σ2 H2=>tb { D with nx:=Pv (i+1),ct:=Pv (i+1),bk:=D.nx } σ2 H2) (hd:∀σ H,Pv n σ H->D.nx σ H) :
  LoopZ K g tb D σ [.ref a,.ref b] H:=by
 subst hn
 refine ⟨a,b,xs,ys,rfl,h1,h2,λ i m σ H=>m=min xs.length ys.length - i/\i≤min xs.length ys.length/\Pv i σ H,⟨_,rfl,Nat.zero_le _,h0⟩,?_⟩
 rintro i m σ H ⟨rfl,hi,p⟩
 obtain ⟨k1,k2⟩:=hl i σ H hi p
 by_cases hlt:i < min xs.length ys.length
 ·have l1:i < xs.length:=by lia
  have l2:i < ys.length:=by lia
  refine .inr ⟨⟨xs,ys,_,_,k1,k2,List.getElem?_eq_getElem l1,List.getElem?_eq_getElem l2⟩,Pv (i+1),λ σ' H' p'=>⟨min xs.length ys.length - (i+1),by lia,rfl,hlt,p'⟩,λ v H' yy=>?_⟩
  obtain ⟨T,x,y,rfl,hT,rfl,ex⟩:=yy
  obtain ⟨ex1,ex2⟩:=ex xs ys k1 k2
  exact hs i x y σ H T hlt ex1 ex2 p hT
 ·have e:i=min xs.length ys.length:=by lia
  exact .inl ⟨⟨xs,ys,k1,k2,by lia⟩,hd σ H (e ▸ p)⟩
def CompZ (K:PySem.W.Frag) (k:Nat) (js:List Nat) (g:TG) (te:TE) (σ:St) (vs:List V) (H1:Hp) (Q:VK):Prop:=∃a b xs ys,vs=[.ref a,.ref b]/\SqT K H1 a xs/\SqT K H1 b ys/\∃W:Nat->Nat->List V->St->Hp->Prop,(∃m,W 0 m [] (z1k k js σ) H1)/\∀i m zs σ' H',W i m zs σ' H' ->
  ((Itz K a b).stop i H'/\∀p,H' p=none->Q (.ref p) (upd H' p (.lst zs))) \/
  ((Itz K a b).go i H'/\zs.length < sizeLine/\∃N:List V->St->Hp->Prop,(∀zs σ2 H2,N zs σ2 H2->∃m',m' < m/\W (i+1) m' zs σ2 H2)/\∀x H2,(Itz K a b).yld i H' x H2->g x σ' H2 λ σ3 H3=>te σ3 H3 λ v H4=>N (zs++[v]) σ3 H4)
theorem x9p {K:W.Frag}{k:Nat}{js:List Nat}{ta:TA}{g:TG}{te:TE}{σ:St}{H:Hp}{Q:VK}:z4g (v1a K ta) k js g te σ H Q=ta σ H λ vs H1=>CompZ K k js g te σ vs H1 Q:=rfl
theorem CompZ.mk {K:W.Frag}{a b:Addr}{xs ys:List V}{k:Nat}{js:List Nat}{g:TG}{te:TE}{Q:VK}{σ:St}{H:Hp}(n:Nat) (hn:n=min xs.length ys.length) (h1:SqT K H a xs) (h2:SqT K H b ys) (Pv:Nat->List V->St->Hp->Prop) (h0:Pv 0 [] (z1k k js σ) H) (hl:∀i zs σ H,i≤n->Pv i zs σ H->SqT K H a xs/\SqT K H b ys)
  (hs:∀i x y zs σ H T,i < n->xs[i]?=some x->ys[i]?=some y->Pv i zs σ H->H T=none->zs.length < sizeLine/\g (.ref T) σ (upd H T (.tup [x,y])) λ σ3 H3=>te σ3 H3 λ v H4=>Pv (i+1) (zs++[v]) σ3 H4) (hz:∀zs σ H,Pv n zs σ H->∀p,H p=none->Q (.ref p) (upd H p (.lst zs))) (hlen:∀i zs σ H,Pv i zs σ H->zs.length < sizeLine) :
  CompZ K k js g te σ [.ref a,.ref b] H Q:=by
 subst hn
 refine ⟨a,b,xs,ys,rfl,h1,h2,λ i m zs σ H=>m=min xs.length ys.length - i/\i≤min xs.length ys.length/\Pv i zs σ H,⟨_,rfl,Nat.zero_le _,h0⟩,?_⟩
 rintro i m zs σ H ⟨rfl,hi,p⟩
 obtain ⟨k1,k2⟩:=hl i zs σ H hi p
 by_cases hlt:i < min xs.length ys.length
 ·have l1:i < xs.length:=by lia
  have l2:i < ys.length:=by lia
  refine .inr ⟨⟨xs,ys,_,_,k1,k2,List.getElem?_eq_getElem l1,List.getElem?_eq_getElem l2⟩,hlen _ _ _ _ p,Pv (i+1),λ zs' σ' H' p'=>⟨min xs.length ys.length - (i+1),by lia,rfl,hlt,p'⟩,λ v H' yy=>?_⟩
  obtain ⟨T,x,y,rfl,hT,rfl,ex⟩:=yy
  obtain ⟨ex1,ex2⟩:=ex xs ys k1 k2
  exact (hs i x y zs σ H T hlt ex1 ex2 p hT).2
 ·have e:i=min xs.length ys.length:=by lia
  exact .inl ⟨⟨xs,ys,k1,k2,by lia⟩,hz zs σ H (e ▸ p)⟩
section
variable {X:Cx}
theorem y3v (hc:X.calm=true):z4l X (.builtin "sum") (λ xs H Q=>∃(a:Addr) (ns:List Int),xs=[.ref a]/\SqL X.K H a (ns.map V.int)/\Q (.int ns.sum) H):=by
 intro pins s σ H xs us Q I r h
 obtain ⟨a,ns,rfl,hq,q⟩:=h
 obtain ⟨u,rfl,ru⟩:=z5r r
 cases (show u=Value.ref a from ru)
 obtain ⟨its,rv,pl,hz⟩:=I.list hq
 have hi:=y9u rv
 have hn:=hi.numsOf
 obtain ⟨ps,e⟩:=hi.allInts.items
 have hl:s.heap.IsList a (intItems ps):=e ▸ pl.isList
 refine sum_intListG (I.ok.hd hc) hl λ h' tk t' kk=>?_
 have e2:preSum (numAt ps) ps.size=ns.sum:=by
  rw [preSum_eq,List.take_of_length_le (by simp),← nums_intItems,← e]
  exact congrArg List.sum hn
 rw [e2]
 exact ⟨.int ns.sum,H,I.kept kk,⟨t',rfl⟩,q⟩
def Its (lo st:Int) (n:Nat):It:=⟨λ i _=>i < n,λ i H x H'=>H'=H/\x=.int (lo+i * st),λ i _=>n≤i⟩
def w8h (ta:TA):TI:=λ σ H R=>ta σ H λ vs H1=>∃i j c:Int,vs=[.int i,.int j,.int c]/\(c≠0/\c.natAbs < 1073741824/\Builtin.Range.small i j c=true)/\R (Its i c (Builtin.Range.rangeSize i j c).toNat) H1
end
def LoopS (lo st:Int) (n:Nat) (g:TG) (tb:TS) (D:Ends) (σ:St) (H1:Hp):Prop:=∃W:Nat->Nat->St->Hp->Prop,(∃m,W 0 m σ H1)/\∀i m σ H,W i m σ H ->
 ((Its lo st n).stop i H/\D.nx σ H)\/((Its lo st n).go i H/\∃N:St->Hp->Prop,(∀σ' H',N σ' H'->∃m',m' < m/\W (i+1) m' σ' H')/\∀x H',(Its lo st n).yld i H x H'->g x σ H' λ σ2 H2=>tb { D with nx:=N,ct:=N,bk:=D.nx } σ2 H2)
theorem x9c {ta:TA}{g:TG}{tb:TS}{D:Ends}{σ:St}{H:Hp}:y4g (w8h ta) g tb D σ H=ta σ H λ vs H1=>∃i j c:Int,vs=[.int i,.int j,.int c]/\(c≠0/\c.natAbs < 1073741824/\Builtin.Range.small i j c=true)/\LoopS i c (Builtin.Range.rangeSize i j c).toNat g tb D σ H1:=rfl
theorem LoopS.mk {lo st:Int}{n:Nat}{g:TG}{tb:TS}{D:Ends}{σ:St}{H:Hp}(Pv:Nat->St->Hp->Prop) (h0:Pv 0 σ H)
  (hs:∀i σ H,i < n->Pv i σ H->g (.int (lo+i * st)) σ H λ σ2 H2=>tb { D with nx:=Pv (i+1),ct:=Pv (i+1),bk:=D.nx } σ2 H2) (hd:∀σ H,Pv n σ H->D.nx σ H):LoopS lo st n g tb D σ H:=by
 refine ⟨λ i m σ H=>m=n - i/\i≤n/\Pv i σ H,⟨_,rfl,Nat.zero_le _,h0⟩,?_⟩
 rintro i m σ H ⟨rfl,hi,p⟩
 by_cases hlt:i < n
 ·refine .inr ⟨hlt,Pv (i+1),λ σ' H' p'=>⟨n - (i+1),by lia,rfl,hlt,p'⟩,λ v H' yy=>?_⟩
  obtain ⟨rfl,rfl⟩:=yy
  exact hs i σ _ hlt p
 ·have e:i=n:=by lia
  exact .inl ⟨(show n≤i by lia),hd σ H (e ▸ p)⟩
def CompS (lo st:Int) (n k:Nat) (js:List Nat) (g:TG) (te:TE) (σ:St) (H1:Hp) (Q:VK):Prop:=∃W:Nat->Nat->List V->St->Hp->Prop,(∃m,W 0 m [] (z1k k js σ) H1)/\∀i m ys σ' H',W i m ys σ' H' ->
  ((Its lo st n).stop i H'/\∀p,H' p=none->Q (.ref p) (upd H' p (.lst ys))) \/
  ((Its lo st n).go i H'/\ys.length < sizeLine/\∃N:List V->St->Hp->Prop,(∀zs σ2 H2,N zs σ2 H2->∃m',m' < m/\W (i+1) m' zs σ2 H2)/\∀x H2,(Its lo st n).yld i H' x H2->g x σ' H2 λ σ3 H3=>te σ3 H3 λ v H4=>N (ys++[v]) σ3 H4)
theorem x5q {k:Nat}{js:List Nat}{ta:TA}{g:TG}{te:TE}{σ:St}{H:Hp}{Q:VK}:z4g (w8h ta) k js g te σ H Q=ta σ H λ vs H1=>∃i j c:Int,vs=[.int i,.int j,.int c]/\(c≠0/\c.natAbs < 1073741824/\Builtin.Range.small i j c=true)/\CompS i c (Builtin.Range.rangeSize i j c).toNat k js g te σ H1 Q:=rfl
theorem CompS.mk {lo st:Int}{n k:Nat}{js:List Nat}{g:TG}{te:TE}{Q:VK}{σ:St}{H:Hp}(Pv:Nat->List V->St->Hp->Prop) (h0:Pv 0 [] (z1k k js σ) H) (hlen:∀i ys σ H,Pv i ys σ H->ys.length < sizeLine)
  (hs:∀i ys σ H,i < n->Pv i ys σ H->g (.int (lo+i * st)) σ H λ σ3 H3=>te σ3 H3 λ v H4=>Pv (i+1) (ys++[v]) σ3 H4) (hd:∀ys σ H,Pv n ys σ H->∀p,H p=none->Q (.ref p) (upd H p (.lst ys))):CompS lo st n k js g te σ H Q:=by
 refine ⟨λ i m ys σ H=>m=n - i/\i≤n/\Pv i ys σ H,⟨_,rfl,Nat.zero_le _,h0⟩,?_⟩
 rintro i m ys σ H ⟨rfl,hi,p⟩
 by_cases hlt:i < n
 ·refine .inr ⟨hlt,hlen _ _ _ _ p,Pv (i+1),λ zs σ' H' p'=>⟨n - (i+1),by lia,rfl,hlt,p'⟩,λ v H' yy=>?_⟩
  obtain ⟨rfl,rfl⟩:=yy
  exact hs i ys σ _ hlt p
 ·have e:i=n:=by lia
  exact .inl ⟨(show n≤i by lia),hd ys σ H (e ▸ p)⟩
theorem z7d {names:List (Str × NameKind)}{cl:List (Str × Addr)}(h:names.all (λ y=>match y.2 with | .cell=>(cl.lookup y.1).isSome | .free=>(cl.lookup y.1).isSome | _=>true)=true) :
  ∀x,(names.lookup x=some .cell\/names.lookup x=some .free)->∃c,cl.lookup x=some c:=by
 intro x hx
 have z:=List.all_eq_true.mp h
 rcases hx with hx | hx
 ·exact Option.isSome_iff_exists.mp (z _ (PySem.mem_of_lookup hx))
 ·exact Option.isSome_iff_exists.mp (z _ (PySem.mem_of_lookup hx))
theorem w9a {X:Cx}{scope:Scope}{cl:List (Str × Addr)}{x0:Str}{j0:Nat}(c0:Cap X scope cl x0 j0):∀(i:Nat) x j,[x0][i]?=some x->[j0][i]?=some j->Cap X scope cl x j
 | 0,_,_,h1,h2=>by cases h1;cases h2;exact c0
 | _+1,_,_,h1,_=>by cases h1
theorem v2u {X:Cx}{scope:Scope}{cl:List (Str × Addr)}{x0 x1:Str}{j0 j1:Nat}(c0:Cap X scope cl x0 j0) (c1:Cap X scope cl x1 j1):∀(i:Nat) x j,[x0,x1][i]?=some x->[j0,j1][i]?=some j->Cap X scope cl x j
 | 0,_,_,h1,h2=>by cases h1;cases h2;exact c0
 | 1,_,_,h1,h2=>by cases h1;cases h2;exact c1
 | _+2,_,_,h1,_=>by cases h1
section
variable {prog:Program}{w:World}{A:Around}{R:Result->Shared->Prop}{s:Shared}
end
def v3g (cnd:Expr):w9e:=λ p w A env k s=>wpAny (model p w) A (isTrue cnd env (eval cnd env)) k (λ _ _=>False) s
theorem pmI {X:Cx}{cnd:Expr}{tc:TT}(hx:X.xe=λ _ _=>False) (h:PT X cnd tc):PM X (v3g cnd) tc:=λ pins s σ H K I k=>by
 have z:=h pins s σ H K I k
 rw [hx] at z
 exact z
section
variable {pg:Program}{wd:World}{B:Around}{X0:Value->Shared->Prop}{s0:Shared}
end
def Ite (K:W.Frag) (a:Addr):It:=⟨λ i H=>∃xs x,SqT K H a xs/\xs[i]?=some x,
 λ i H v H'=>∃T x,v=.ref T/\H T=none/\H'=upd H T (.tup [.int i,x])/\∀xs,SqT K H a xs->xs[i]?=some x,λ i H=>∃xs,SqT K H a xs/\xs.length≤i⟩
section
variable {X:Cx}{es:List Expr}{x1:Nat}{pp:Pos}
def w3j (K:W.Frag) (te:TE):TI:=λ σ H R=>te σ H λ v H1=>∃a xs,v=.ref a/\SqT K H1 a xs/\R (Ite K a) H1
end
def CompE (K:PySem.W.Frag) (k:Nat) (js:List Nat) (g:TG) (te:TE) (σ:St) (v:V) (H1:Hp) (Q:VK):Prop:=∃a xs,v=.ref a/\SqT K H1 a xs/\∃W:Nat->Nat->List V->St->Hp->Prop,(∃m,W 0 m [] (z1k k js σ) H1)/\∀i m zs σ' H',W i m zs σ' H' ->
  ((Ite K a).stop i H'/\∀p,H' p=none->Q (.ref p) (upd H' p (.lst zs))) \/
  ((Ite K a).go i H'/\zs.length < sizeLine/\∃N:List V->St->Hp->Prop,(∀zs σ2 H2,N zs σ2 H2->∃m',m' < m/\W (i+1) m' zs σ2 H2)/\∀x H2,(Ite K a).yld i H' x H2->g x σ' H2 λ σ3 H3=>te σ3 H3 λ v H4=>N (zs++[v]) σ3 H4)
theorem x9u {K:W.Frag}{k:Nat}{js:List Nat}{tx:TE}{g:TG}{te:TE}{σ:St}{H:Hp}{Q:VK}:z4g (w3j K tx) k js g te σ H Q=tx σ H λ v H1=>CompE K k js g te σ v H1 Q:=rfl
theorem CompE.mk {K:W.Frag}{a:Addr}{xs:List V}{k:Nat}{js:List Nat}{g:TG}{te:TE}{Q:VK}{σ:St}{H:Hp}(h1:SqT K H a xs) (Pv:Nat->List V->St->Hp->Prop) (h0:Pv 0 [] (z1k k js σ) H) (hl:∀i zs σ H,i≤xs.length->Pv i zs σ H->SqT K H a xs/\zs.length < sizeLine)
  (hs:∀i x zs σ H T,xs[i]?=some x->Pv i zs σ H->H T=none->g (.ref T) σ (upd H T (.tup [.int i,x])) λ σ3 H3=>te σ3 H3 λ v H4=>Pv (i+1) (zs++[v]) σ3 H4) (hz:∀zs σ H,Pv xs.length zs σ H->∀p,H p=none->Q (.ref p) (upd H p (.lst zs))) :
  CompE K k js g te σ (.ref a) H Q:=by
 refine ⟨a,xs,rfl,h1,λ i m zs σ H=>m=xs.length - i/\i≤xs.length/\Pv i zs σ H,⟨_,rfl,Nat.zero_le _,h0⟩,?_⟩
 rintro i m zs σ H ⟨rfl,hi,p⟩
 obtain ⟨k1,k2⟩:=hl i zs σ H hi p
 by_cases hlt:i < xs.length
 ·refine .inr ⟨⟨xs,_,k1,List.getElem?_eq_getElem hlt⟩,k2,Pv (i+1),λ zs' σ' H' p'=>⟨xs.length - (i+1),by lia,rfl,hlt,p'⟩,λ v H' yy=>?_⟩
  obtain ⟨T,x,rfl,hT,rfl,ex⟩:=yy
  exact hs i x zs σ H T (ex xs k1) p hT
 ·have e:i=xs.length:=by lia
  exact .inl ⟨⟨xs,k1,by lia⟩,hz zs σ H (e ▸ p)⟩
def CompEI (K:PySem.W.Frag) (k:Nat) (js:List Nat) (g:TG) (tc:TT) (te:TE) (σ:St) (v:V) (H1:Hp) (Q:VK):Prop:=∃a xs,v=.ref a/\SqT K H1 a xs/\∃W:Nat->Nat->List V->St->Hp->Prop,(∃m,W 0 m [] (z1k k js σ) H1)/\∀i m zs σ' H',W i m zs σ' H' ->
  ((Ite K a).stop i H'/\∀p,H' p=none->Q (.ref p) (upd H' p (.lst zs))) \/
  ((Ite K a).go i H'/\zs.length < sizeLine/\∃N:List V->St->Hp->Prop,(∀zs σ2 H2,N zs σ2 H2->∃m',m' < m/\W (i+1) m' zs σ2 H2)/\∀x H2,(Ite K a).yld i H' x H2->g x σ' H2 λ σ3 H3=>tc σ3 H3 λ b H4=>if b=true then te σ3 H4 λ v H5=>N (zs++[v]) σ3 H5 else N zs σ3 H4)
theorem x5t {K:W.Frag}{k:Nat}{js:List Nat}{tx:TE}{g:TG}{tc:TT}{te:TE}{σ:St}{H:Hp}{Q:VK}:z6y (w3j K tx) k js g tc te σ H Q=tx σ H λ v H1=>CompEI K k js g tc te σ v H1 Q:=rfl
theorem CompEI.mk {K:W.Frag}{a:Addr}{xs:List V}{k:Nat}{js:List Nat}{g:TG}{tc:TT}{te:TE}{Q:VK}{σ:St}{H:Hp}(h1:SqT K H a xs) (Pv:Nat->List V->St->Hp->Prop) (h0:Pv 0 [] (z1k k js σ) H) (hl:∀i zs σ H,i≤xs.length->Pv i zs σ H->SqT K H a xs/\zs.length < sizeLine)
  (hs:∀i x zs σ H T,xs[i]?=some x->Pv i zs σ H->H T=none->g (.ref T) σ (upd H T (.tup [.int i,x])) λ σ3 H3=>tc σ3 H3 λ b H4=>if b=true then te σ3 H4 λ v H5=>Pv (i+1) (zs++[v]) σ3 H5 else Pv (i+1) zs σ3 H4) (hz:∀zs σ H,Pv xs.length zs σ H->∀p,H p=none->Q (.ref p) (upd H p (.lst zs))) :
  CompEI K k js g tc te σ (.ref a) H Q:=by
 refine ⟨a,xs,rfl,h1,λ i m zs σ H=>m=xs.length - i/\i≤xs.length/\Pv i zs σ H,⟨_,rfl,Nat.zero_le _,h0⟩,?_⟩
 rintro i m zs σ H ⟨rfl,hi,p⟩
 obtain ⟨k1,k2⟩:=hl i zs σ H hi p
 by_cases hlt:i < xs.length
 ·refine .inr ⟨⟨xs,_,k1,List.getElem?_eq_getElem hlt⟩,k2,Pv (i+1),λ zs' σ' H' p'=>⟨xs.length - (i+1),by lia,rfl,hlt,p'⟩,λ v H' yy=>?_⟩
  obtain ⟨T,x,rfl,hT,rfl,ex⟩:=yy
  exact hs i x zs σ H T (ex xs k1) p hT
 ·have e:i=xs.length:=by lia
  exact .inl ⟨⟨xs,k1,by lia⟩,hz zs σ H (e ▸ p)⟩
section
variable {X:Cx}
def v3n (K:W.Frag):R2:=λ x y H Q=>∃a b xs ys,x=.ref a/\y=.ref b/\SqT K H a xs/\SqT K H b ys/\xs.all z1r=true/\ys.all z1r=true/\Q (.bl (!x0e xs ys)) H
def v3o (K:W.Frag):R2:=λ x y H Q=>∃a b xs ys,x=.ref a/\y=.ref b/\SqL K H a xs/\SqL K H b ys/\xs.all z1r=true/\ys.all z1r=true/\Q (.bl (!x0e xs ys)) H
end
theorem z4y {cells:List (Str × Addr)}{y:Str}{a:Addr}(h:cells.lookup y=some a):∀x c,[(y,a)].lookup x=some c->cells.lookup x=some c:=λ x c e=>by
 cases List.mem_singleton.mp (PySem.mem_of_lookup e);exact h
theorem z4x {cells:List (Str × Addr)}{y z:Str}{a b:Addr}(h:cells.lookup y=some a) (h2:cells.lookup z=some b):∀x c,[(y,a),(z,b)].lookup x=some c->cells.lookup x=some c:=λ x c e=>by
 rcases List.mem_cons.mp (PySem.mem_of_lookup e) with q | q
 ·cases q;exact h
 ·cases List.mem_singleton.mp q;exact h2
def okS (k:Nat) (x:Str):Prop:=x.length≤k/\∀c∈x.cps.toList,c < 1000
theorem okS.mono {k m:Nat}{x:Str}(h:okS k x) (l:k≤m):okS m x:=⟨Nat.le_trans h.1 l,h.2⟩
theorem okS.app {k m:Nat}{x y:Str}(h:okS k x) (g:okS m y):okS (k+m) (x++y):=by
 refine ⟨by rw [strLen_append];exact Nat.add_le_add h.1 g.1,λ c hc=>?_⟩
 have e:(x++y).cps.toList=x.cps.toList++y.cps.toList:=by show (x.cps++y.cps).toList=_;simp
 rw [e] at hc
 exact (List.mem_append.mp hc).elim (h.2 c) (g.2 c)
theorem okS.repr {k:Nat}{x:Str}(h:okS k x):(reprText x).length≤10 * k+2:=by
 have:=StrLaws.reprText_len x λ c hc=>Nat.lt_of_lt_of_le (h.2 c hc) (by decide)
 have:=h.1
 lia
section
variable {X:Cx}
def tFR (t1 t2:TE):TE:=λ σ H Q=>t1 σ H λ x H1=>∃a,x=.str a/\okS 1000 a/\t2 σ H1 λ y H2=>∃b,y=.str b/\okS 1000 b/\∀z,Q (.str z) H2
def w6a:V->Option Int->Option Int->Hp->VK->Prop:=λ x lo hi H Q=>∃z,x=.str z/\z.length≤1000/\∀y:Str,y.length≤z.length->(∀c∈y.cps.toList,c∈z.cps.toList)->Q (.str y) H
def w0j:V->List V->Hp->VK->Prop:=λ x xs H Q=>∃z,x=.str z/\xs=[]/\okS 1000 ⟨placed z λ _ c=>Unicode.upperOf c⟩/\Q (.str ⟨placed z λ _ c=>Unicode.upperOf c⟩) H
theorem y7m:MtR X "str.upper" w0j:=by
 intro pins s σ H x xs v us Q I rx rv h
 obtain ⟨z,rfl,rfl,hz,q⟩:=h
 obtain ⟨t,rfl⟩:=rx
 cases rv
 have s20:20000≤sizeLine:=by rw [sizeLine_eq];decide
 have l:(placed z λ _ c=>Unicode.upperOf c).size≤1000:=hz.1
 exact call_gives F.slot_str_upper (typeIs_str s z t) F.entry_str_upper (F.args_str_upper_1 _) (gives_str_upper z t (by simp [Builtin.Str.tooLong];lia)) ⟨by show (placed z λ _ c=>Unicode.upperOf c).size≤sizeLine;lia,.str _,H,I.tok _,⟨_,rfl⟩,q⟩
theorem x7z (sep:Str) (h0:sep.length=0):∀(ys:List Str),ys.length≤100->(∀y∈ys,okS 10 y)->okS 1000 (Builtin.Str.glued sep ys):=by
 have hs:sep.cps.toList=[]:=List.eq_nil_of_length_eq_zero (by rw [Array.length_toList];exact h0)
 have all:∀(ys:List Str) (a:Array Nat) (n:Nat),a.size≤n->(∀c∈a.toList,c < 1000)->(∀y∈ys,okS 10 y)->(ys.foldl (λ acc p=>acc++sep.cps++p.cps) a).size≤n+10 * ys.length/\∀c∈(ys.foldl (λ acc p=>acc++sep.cps++p.cps) a).toList,c < 1000:=by
  intro ys
  induction ys with
  | nil=>intro a n h1 h2 _;exact ⟨by simpa using h1,h2⟩
  | cons y r ih =>
   intro a n h1 h2 h3
   have oy:=h3 y (List.mem_cons_self ..)
   have yl:y.cps.size≤10:=oy.1
   have sz:sep.cps.size=0:=h0
   have:=ih (a++sep.cps++y.cps) (n+10) (by simp;lia) (λ c hc=>by
    simp only [Array.toList_append,List.mem_append] at hc
    rcases hc with (hc | hc) | hc
    ·exact h2 c hc
    ·rw [hs] at hc;cases hc
    ·exact oy.2 c hc) λ z hz=>h3 z (List.mem_cons_of_mem _ hz)
   refine ⟨?_,this.2⟩
   have t1:=this.1
   simp only [List.length_cons,List.foldl_cons]
   lia
 intro ys hl h
 cases ys with
 | nil=>exact ⟨(show Str.empty.length≤1000 by decide),λ c hc=>nomatch hc⟩
 | cons y r =>
  have oy:=h y (List.mem_cons_self ..)
  obtain ⟨z1,z2⟩:=all r y.cps 10 oy.1 oy.2 λ z hz=>h z (List.mem_cons_of_mem _ hz)
  refine ⟨?_,z2⟩
  show (r.foldl (λ acc p=>acc++sep.cps++p.cps) y.cps).size≤1000
  simp at hl
  lia
def v0j (K:W.Frag):V->List V->Hp->VK->Prop:=λ x xs H Q=>∃(z:Str) (l:Addr) (ys:List Str),x=.str z/\z.length=0/\xs=[.ref l]/\SqL K H l (ys.map V.str)/\ys.length≤100/\(∀y∈ys,okS 10 y)/\∀y:Str,okS 1000 y->Q (.str y) H
end
def w4v (K:W.Frag) (a:Addr):It:=⟨λ i H=>∃xs x,SqL K H a xs/\xs[i]?=some x,
 λ i H v H'=>∃T x,v=.ref T/\H T=none/\H'=upd H T (.tup [.int i,x])/\∀xs,SqL K H a xs->xs[i]?=some x,λ i H=>∃xs,SqL K H a xs/\xs.length≤i⟩
theorem y8q {P:Program}{w:World}{K:W.Frag}{es:List Expr}{x1:Nat}{pp:Pos}{a z j:Addr}(zj:z≠j) :
  Turn P w K (.Tuple es x1 pp) (w4v K a) [z,j] z (λ i h=>(∃u,IsEnum h z j i u)/\h.IsListIter j a i) where
 mem:=by simp
 obj:=λ i h q c hc=>by
  obtain ⟨⟨u,q1⟩,⟨o4,g4,_,d4⟩⟩:=q
  simp only [List.mem_cons,List.not_mem_nil,or_false] at hc
  rcases hc with rfl | rfl
  ·exact ⟨_,q1,λ v y=>nomatch y⟩
  ·exact ⟨_,g4,λ v y=>by rw [d4] at y;cases y⟩
 keep:=λ i h h' q k=>by
  obtain ⟨⟨u,q1⟩,q4⟩:=q
  exact ⟨⟨u,k _ (by simp) _ q1⟩,q4.at λ o g=>k _ (by simp) o g⟩
 item:=by
  intro X hP hw hK hc i pins s σ H E I hf st hg
  subst hP hw hK
  obtain ⟨xs,x,hq,hx⟩:=hg
  obtain ⟨⟨u,q1⟩,q4⟩:=st
  obtain ⟨as,ra,pa,za⟩:=I.list hq
  obtain ⟨ux,hux,rux⟩:=ra.get hx
  have ta:s.heap.IsList a as.toArray:=pa.isList
  have az:a≠z:=by rintro rfl;obtain ⟨o,g,c,_⟩:=ta;rw [q1] at g;cases g;simp at c
  have aj:a≠j:=by rintro rfl;obtain ⟨o,g,c,_⟩:=ta;obtain ⟨o4,g4,c4,_⟩:=q4;rw [g4] at g;cases g;rw [c4] at c;simp at c
  have il:i < as.toArray.size:=by simpa using (List.getElem?_eq_some_iff.mp hux).1
  refine wpAny_pyNext_enum_itemD (Draws.list (A:=X.A.in1) (I.ok.hd hc) j a aj as.toArray) q1 ⟨q4,ta⟩ il zj (by simp only [List.mem_cons,List.not_mem_nil,or_false,not_or];exact ⟨zj,az.symm⟩) λ y m tk hy zo st' np sz bt=>?_
  have yu:y=ux:=by simp only [List.getElem?_toArray] at hy;rw [hux] at hy;exact (Option.some.inj hy).symm
  subst yu
  have I1:Inv X pins σ H { s with heap:=m,toks:=tk+1 }:=I.turnedL (t':=tk+1) (fl:=[z,j]) (λ c o hc e=>by
   simp only [List.mem_cons,List.not_mem_nil,or_false,not_or] at hc
   exact bt c o hc.1 hc.2 e) hf
  obtain ⟨f0,f1,f2,f3,f4,f5⟩:=I.fpOk (Nat.le_refl s.heap.objs.size) (I.hok.fresh (Nat.le_refl _))
  have n0:X.s₀.heap.get? s.heap.objs.size=none:=by
   cases q:X.s₀.heap.get? s.heap.objs.size with
   | none=>rfl
   | some o=>exact absurd (Nat.lt_of_lt_of_le (Heap.lt_size q) I.sz) (Nat.lt_irrefl _)
  have I2:Inv X pins σ (upd H s.heap.objs.size (.tup [.int i,x])) { s with heap:=m,toks:=tk+1 }:=I1.track f0 ⟨small (by simp),[.int i tk,y],.cons (show RelV (V.int i) (Value.int i tk) from ⟨_,rfl⟩) (.cons rux .nil),⟨_,np,rfl,_,rfl⟩⟩ f1 f4 f5 n0
  have lt:∀ {c o},s.heap.get? c=some o->c≠s.heap.objs.size:=λ e=>Nat.ne_of_lt (Heap.lt_size e)
  have zT:z≠s.heap.objs.size:=lt q1
  obtain ⟨e0,e1,e2,e3,e4,e5⟩:=hf z (by simp)
  refine ⟨_,rfl,wpAny_letOwnedTupleGo_enum zo λ h2 z2 sb=>?_⟩
  have I3:Inv X pins σ (upd H s.heap.objs.size (.tup [.int i,x])) { s with heap:=h2,toks:=tk+1 }:=Inv.turned (s:={ s with heap:=m,toks:=tk+1 }) (h':=h2) (t':=tk+1) (it:=z) I2 (λ c o hc e=>sb.extBut _ _ hc e) (by rw [z0o zT];exact e0) e1 e3 e4 e5
  refine ⟨.ref s.heap.objs.size,_,I3,rfl,⟨_,x,rfl,f0,rfl,λ xs' k1=>?_⟩,⟨⟨_,by simpa using z2⟩,st'.1.at λ o g=>sb.extBut _ _ zj.symm g⟩,λ c hc=>?_⟩
  ·rw [I.list_inj k1 hq];exact hx
  ·have cT:c≠s.heap.objs.size:=by
    obtain ⟨o4,g4,_⟩:=q4
    simp only [List.mem_cons,List.not_mem_nil,or_false] at hc
    rcases hc with rfl | rfl
    ·exact zT
    ·exact lt g4
   rw [z0o cT];exact (hf c hc).1
 done:=by
  intro X hP hw hK hc i pins s σ H E I hf st hg
  subst hP hw hK
  obtain ⟨xs,hq,hx⟩:=hg
  obtain ⟨⟨u,q1⟩,q4⟩:=st
  obtain ⟨as,ra,pa,za⟩:=I.list hq
  have la:=ra.length
  refine wpAny_pyNext_enum_end (I.ok.hd hc) (i:=i) (by simpa using q1) q4 pa.isList (by simp;lia) λ m bt=>⟨rfl,?_⟩
  exact I.turnedL (t':=s.toks) (fl:=[z,j]) (λ c o hc e=>by
   simp only [List.mem_cons,List.not_mem_nil,or_false,not_or] at hc
   exact bt c o hc.2 e) hf
 self:=λ _ _ _ _ _ st h=>let ⟨⟨_,q1⟩,_⟩:=st;wpAny_pyIter_enum q1 h
section
variable {X:Cx}{es:List Expr}{x1:Nat}{pp:Pos}
def w0v (K:W.Frag) (te:TE):TI:=λ σ H R=>te σ H λ v H1=>∃a xs,v=.ref a/\SqL K H1 a xs/\R (w4v K a) H1
theorem x7j {e:Expr}{te:TE}{p pos:Pos}(hg:Gl X "enumerate") (hm:X.mg "enumerate"=none) (he:PE X e te) (hs:starEach [e] X.env=[(false,eval e X.env)]:=by rfl) :
  PI X (.Tuple es x1 pp) (.Call (.Name "enumerate" p) [e] [] pos) (w0v X.K te):=by
 intro pins s σ H R I h
 have hA:=(z0a he (z0e (X:=X)) hs) pos pins s σ H (λ vs H1=>match vs with | [x]=>∃a xs,x=.ref a/\SqL X.K H1 a xs/\R (w4v X.K a) H1 | _=>False) I h
 refine Call_ (z9w I hg hm boot_enumerate (PyProof.Rows.callWith_type1 (thn hA λ us s1 ⟨vs,H1,I1,r1,q1⟩=>?_) hs rfl))
 match vs,q1 with
 | [x],⟨a,xs,e,hq,q⟩ =>
  subst e
  obtain ⟨u,rfl,ru⟩:=z5r r1
  cases (show u=Value.ref a from ru)
  obtain ⟨as,va,pa,za⟩:=I1.list hq
  refine call_enumerate_list pa.isList λ m w1 w2 sz kk=>?_
  have I2:Inv X pins σ H1 { s1 with heap:=m }:=I1.kept (t':=s1.toks) kk
  refine wpAny_pyIter_enum w1 ⟨s1.heap.objs.size+1,[s1.heap.objs.size+1,s1.heap.objs.size],_,_,H1,rfl,I2,y8q (Nat.succ_ne_self _),⟨⟨_,w1⟩,w2⟩,λ c hc=>?_,q⟩
  have ge:s1.heap.objs.size≤c:=by
   simp only [List.mem_cons,List.not_mem_nil,or_false] at hc
   rcases hc with rfl | rfl<;>lia
  exact I1.fpOk ge (I1.hok.fresh ge)
end
def LoopEL (K:PySem.W.Frag) (g:TG) (tb:TS) (D:Ends) (σ:St) (v:V) (H1:Hp):Prop:=∃a xs,v=.ref a/\SqL K H1 a xs/\∃W:Nat->Nat->St->Hp->Prop,(∃m,W 0 m σ H1)/\∀i m σ H,W i m σ H ->
 ((w4v K a).stop i H/\D.nx σ H)\/((w4v K a).go i H/\∃N:St->Hp->Prop,(∀σ' H',N σ' H'->∃m',m' < m/\W (i+1) m' σ' H')/\∀x H',(w4v K a).yld i H x H'->g x σ H' λ σ2 H2=>tb { D with nx:=N,ct:=N,bk:=D.nx } σ2 H2)
theorem x9f {K:W.Frag}{te:TE}{g:TG}{tb:TS}{D:Ends}{σ:St}{H:Hp}:y4g (w0v K te) g tb D σ H=te σ H λ v H1=>LoopEL K g tb D σ v H1:=rfl
theorem LoopEL.mk {K:W.Frag}{a:Addr}{xs:List V}{g:TG}{tb:TS}{D:Ends}{σ:St}{H:Hp}(h1:SqL K H a xs) (Pv:Nat->St->Hp->Prop) (h0:Pv 0 σ H) (hl:∀i σ H,i≤xs.length->Pv i σ H->SqL K H a xs)
  (hs:∀i x σ H T,xs[i]?=some x->Pv i σ H->H T=none->g (.ref T) σ (upd H T (.tup [.int i,x])) λ σ2 H2=>tb { D with nx:=Pv (i+1),ct:=Pv (i+1),bk:=D.nx } σ2 H2) (hd:∀σ H,Pv xs.length σ H->D.nx σ H) :
  LoopEL K g tb D σ (.ref a) H:=by
 refine ⟨a,xs,rfl,h1,λ i m σ H=>m=xs.length - i/\i≤xs.length/\Pv i σ H,⟨_,rfl,Nat.zero_le _,h0⟩,?_⟩
 rintro i m σ H ⟨rfl,hi,p⟩
 have k1:=hl i σ H hi p
 by_cases hlt:i < xs.length
 ·refine .inr ⟨⟨xs,_,k1,List.getElem?_eq_getElem hlt⟩,Pv (i+1),λ σ' H' p'=>⟨xs.length - (i+1),by lia,rfl,hlt,p'⟩,λ v H' yy=>?_⟩
  obtain ⟨T,x,rfl,hT,rfl,ex⟩:=yy
  exact hs i x σ H T (ex xs k1) p hT
 ·have e:i=xs.length:=by lia
  exact .inl ⟨⟨xs,k1,by lia⟩,hd σ H (e ▸ p)⟩
theorem z3a {X:Cx}{x j pos} {es:List Expr}{t:TA}(hr:PA X es t):PA X (.Constant (.str x) j pos::es) (y4j (tC (.str x)) t):=z0a z0i hr rfl
def w1p (l:List (Str × Pos)):List Expr:=l.map λ p=>.Constant (.str p.1) 0 p.2
def w1m (l:List Str):TA:=λ _ H Q=>Q (l.map V.str) H
theorem y5e {X:Cx}:∀l:List (Str × Pos),PA X (w1p l) (w1m (l.map (·.1)))
 | []=>z0e
 | _::l=>z3a (y5e l)
instance (k:Nat) (x:Str):Decidable (okS k x):=by unfold okS;infer_instance
def Itx (x:Str):It:=⟨λ i _=>i < x.cps.size,λ i H v H'=>H'=H/\∃c,x.cps[i]?=some c/\v=.str ⟨#[c]⟩,λ i _=>x.cps.size≤i⟩
def v0c (it:Addr) (x:Str) (t:Tok) (i:Nat) (h:Heap):Prop:=h.IsStrIter it "str_ascii_iterator" x t i\/h.IsStrIter it "str_iterator" x t i
theorem y6a {P:Program}{w:World}{K:W.Frag}{tg:Expr}(it:Addr) (x:Str) (t:Tok):Turn P w K tg (Itx x) [it] it (v0c it x t) where
 mem:=by simp
 obj:=λ i h st b hb=>by
  have e:b=it:=by simpa using hb
  subst e
  rcases st with ⟨o,e,c,d⟩ | ⟨o,e,c,d⟩<;>exact ⟨o,e,λ v z=>by rw [d] at z;cases z⟩
 keep:=λ i h h' st k=>by
  rcases st with ⟨o,e,r⟩ | ⟨o,e,r⟩
  ·exact .inl ⟨o,k it (by simp) o e,r⟩
  ·exact .inr ⟨o,k it (by simp) o e,r⟩
 item:=by
  intro X hP hw hK hc i pins s σ H E I hf st hg
  subst hP hw hK
  obtain ⟨f0,f1,f2,f3,f4,f5⟩:=hf it (by simp)
  have hi:x.cps[i]?=some (x.cps[i]'hg):=Array.getElem?_eq_getElem hg
  rcases st with st | st
  ·refine wpAny_pyNext_ascii_item st hi λ h' st' sb=>?_
   have I1:Inv X pins σ H { s with heap:=h',toks:=s.toks+1 }:=I.turned (λ b o hb e=>(sb.2 b hb).trans e) f0 f1 f3 f4 f5
   obtain ⟨o,e,c,d⟩:=id st'
   exact ⟨_,rfl,x4m (s:={ s with heap:=h',toks:=s.toks+1 }) e c d (by decide) ⟨.str ⟨#[x.cps[i]'hg]⟩,H,I1,⟨_,rfl⟩,⟨rfl,_,hi,rfl⟩,.inl st',λ b hb=>(hf b hb).1⟩⟩
  ·refine wpAny_pyNext_wide_item st hi λ h' st' sb=>?_
   have I1:Inv X pins σ H { s with heap:=h',toks:=s.toks+1 }:=I.turned (λ b o hb e=>(sb.2 b hb).trans e) f0 f1 f3 f4 f5
   obtain ⟨o,e,c,d⟩:=id st'
   exact ⟨_,rfl,x4m (s:={ s with heap:=h',toks:=s.toks+1 }) e c d (by decide) ⟨.str ⟨#[x.cps[i]'hg]⟩,H,I1,⟨_,rfl⟩,⟨rfl,_,hi,rfl⟩,.inr st',λ b hb=>(hf b hb).1⟩⟩
 done:=by
  intro X hP hw hK hc i pins s σ H E I hf st hg
  subst hP hw hK
  obtain ⟨f0,f1,f2,f3,f4,f5⟩:=hf it (by simp)
  have hi:x.cps[i]?=none:=Array.getElem?_eq_none hg
  rcases st with st | st
  ·exact wpAny_pyNext_ascii_end (I.ok.hd hc) st hi λ h' eb=>⟨rfl,I.turned (t':=s.toks) (λ b o hb e=>eb b o hb e) f0 f1 f3 f4 f5⟩
  ·exact wpAny_pyNext_wide_end (I.ok.hd hc) st hi λ h' eb=>⟨rfl,I.turned (t':=s.toks) (λ b o hb e=>eb b o hb e) f0 f1 f3 f4 f5⟩
 self:=λ _ _ _ _ _ st h=>st.elim (λ st=>wpAny_pyIter_striter_ascii st h) (λ st=>wpAny_pyIter_striter_wide st h)
section
variable {X:Cx}{tg:Expr}
def v1b (tl:TE):TI:=λ σ H R=>tl σ H λ x H1=>∃z,x=.str z/\R (Itx z) H1
theorem w6x {l:Expr}{tl:TE}(hl:PE X l tl):PI X tg l (v1b tl):=by
 intro pins s σ H R I h
 refine thn (hl pins s σ H _ I h) λ v s1 ⟨x,H1,I1,r1,q1⟩=>?_
 obtain ⟨z,e,q⟩:=q1
 subst e
 obtain ⟨t,rfl⟩:=r1
 have fin:∀b∈[s1.heap.objs.size],w0a X pins H1 b:=λ b hb=>by
  have e:b=s1.heap.objs.size:=by simpa using hb
  subst e
  exact I1.fpOk (Nat.le_refl _) (I1.hok.fresh (Nat.le_refl _))
 cases ha:z.cps.all (· < 128)
 ·exact wpAny_pyIter_wide ha ⟨s1.heap.objs.size,[s1.heap.objs.size],_,_,H1,rfl,I1.kept (t':=s1.toks) λ b o e=>Heap.get?_push_of_some _ e,y6a _ z t,.inr ⟨_,Heap.get?_push_size _ rfl,rfl,rfl⟩,fin,q⟩
 ·exact wpAny_pyIter_ascii ha ⟨s1.heap.objs.size,[s1.heap.objs.size],_,_,H1,rfl,I1.kept (t':=s1.toks) λ b o e=>Heap.get?_push_of_some _ e,y6a _ z t,.inl ⟨_,Heap.get?_push_size _ rfl,rfl,rfl⟩,fin,q⟩
end
def LoopX (g:TG) (tb:TS) (D:Ends) (σ:St) (v:V) (H1:Hp):Prop:=∃z,v=.str z/\∃W:Nat->Nat->St->Hp->Prop,(∃m,W 0 m σ H1)/\∀i m σ H,W i m σ H ->
 ((Itx z).stop i H/\D.nx σ H)\/((Itx z).go i H/\∃N:St->Hp->Prop,(∀σ' H',N σ' H'->∃m',m' < m/\W (i+1) m' σ' H')/\∀x H',(Itx z).yld i H x H'->g x σ H' λ σ2 H2=>tb { D with nx:=N,ct:=N,bk:=D.nx } σ2 H2)
theorem w3n {te:TE}{g:TG}{tb:TS}{D:Ends}{σ:St}{H:Hp}:y4g (v1b te) g tb D σ H=te σ H λ v H1=>LoopX g tb D σ v H1:=rfl
theorem LoopX.mk {z:Str}{g:TG}{tb:TS}{D:Ends}{σ:St}{H:Hp}(Pv:Nat->St->Hp->Prop) (h0:Pv 0 σ H)
  (hs:∀i c σ H,z.cps[i]?=some c->Pv i σ H->g (.str ⟨#[c]⟩) σ H λ σ2 H2=>tb { D with nx:=Pv (i+1),ct:=Pv (i+1),bk:=D.nx } σ2 H2) (hd:∀σ H,Pv z.cps.size σ H->D.nx σ H) :
  LoopX g tb D σ (.str z) H:=by
 refine ⟨z,rfl,λ i m σ H=>m=z.cps.size - i/\i≤z.cps.size/\Pv i σ H,⟨_,rfl,Nat.zero_le _,h0⟩,?_⟩
 rintro i m σ H ⟨rfl,hi,p⟩
 by_cases hlt:i < z.cps.size
 ·refine .inr ⟨hlt,Pv (i+1),λ σ' H' p'=>⟨z.cps.size - (i+1),by lia,rfl,hlt,p'⟩,λ v H' yy=>?_⟩
  obtain ⟨rfl,c,ec,rfl⟩:=yy
  exact hs i c σ H' ec p
 ·have e:i=z.cps.size:=by lia
  exact .inl ⟨by show z.cps.size≤i;lia,hd σ H (e ▸ p)⟩
def CompX (k:Nat) (js:List Nat) (g:TG) (te:TE) (σ:St) (v:V) (H1:Hp) (Q:VK):Prop:=∃z,v=.str z/\∃W:Nat->Nat->List V->St->Hp->Prop,(∃m,W 0 m [] (z1k k js σ) H1)/\∀i m ys σ' H',W i m ys σ' H' ->
  ((Itx z).stop i H'/\∀p,H' p=none->Q (.ref p) (upd H' p (.lst ys))) \/
  ((Itx z).go i H'/\ys.length < sizeLine/\∃N:List V->St->Hp->Prop,(∀zs σ2 H2,N zs σ2 H2->∃m',m' < m/\W (i+1) m' zs σ2 H2)/\∀x H2,(Itx z).yld i H' x H2->g x σ' H2 λ σ3 H3=>te σ3 H3 λ v H4=>N (ys++[v]) σ3 H4)
theorem x9q {k:Nat}{js:List Nat}{ti:TE}{g:TG}{te:TE}{σ:St}{H:Hp}{Q:VK}:z4g (v1b ti) k js g te σ H Q=ti σ H λ x H1=>CompX k js g te σ x H1 Q:=rfl
theorem CompX.mk {z:Str}{k:Nat}{js:List Nat}{g:TG}{te:TE}{Q:VK}{σ:St}{H:Hp}(Pv:Nat->List V->St->Hp->Prop) (h0:Pv 0 [] (z1k k js σ) H)
  (hs:∀i c ys σ H,z.cps[i]?=some c->Pv i ys σ H->ys.length < sizeLine/\g (.str ⟨#[c]⟩) σ H λ σ3 H3=>te σ3 H3 λ v H4=>Pv (i+1) (ys++[v]) σ3 H4) (hd:∀ys σ H,Pv z.cps.size ys σ H->∀p,H p=none->Q (.ref p) (upd H p (.lst ys))) :
  CompX k js g te σ (.str z) H Q:=by
 refine ⟨z,rfl,λ i m ys σ H=>m=z.cps.size - i/\i≤z.cps.size/\Pv i ys σ H,⟨_,rfl,Nat.zero_le _,h0⟩,?_⟩
 rintro i m ys σ H ⟨rfl,hi,p⟩
 by_cases hlt:i < z.cps.size
 ·refine .inr ⟨hlt,(hs i (z.cps[i]'hlt) ys σ H (Array.getElem?_eq_getElem hlt) p).1,Pv (i+1),λ zs σ' H' p'=>⟨z.cps.size - (i+1),by lia,rfl,hlt,p'⟩,λ v H' yy=>?_⟩
  obtain ⟨rfl,c,ec,rfl⟩:=yy
  exact (hs i c ys σ H' ec p).2
 ·have e:i=z.cps.size:=by lia
  exact .inl ⟨by show z.cps.size≤i;lia,hd ys σ H (e ▸ p)⟩
section
variable {X:Cx}
def v1f (x y:Str):Int:=match Builtin.Str.occurrences x y 0 x.length 1 with | i::_=>(i:Int) | []=>-1
def v0k:V->List V->Hp->VK->Prop:=λ x xs H Q=>∃z y,x=.str z/\xs=[.str y]/\Q (.int (v1f z y)) H
end
section
variable {X:Cx}
def v0l (K:W.Frag):R2:=λ x y H Q=>∃l b xs zs,x=.ref l/\y=.ref b/\SqL K H l xs/\SqL K H b zs/\xs.length+zs.length≤sizeLine/\∀p,H p=none->Q (.ref p) (upd H p (.lst (xs++zs)))
end
section
variable {pg:Program}{wd:World}{B:Around}{X0:Value->Shared->Prop}{s0:Shared}
end
def w4q (K:W.Frag) (a b:Addr):It:=⟨λ i H=>∃xs ys x y,SqL K H a xs/\SqL K H b ys/\xs[i]?=some x/\ys[i]?=some y,
 λ i H v H'=>∃T x y,v=.ref T/\H T=none/\H'=upd H T (.tup [x,y])/\∀xs ys,SqL K H a xs->SqL K H b ys->xs[i]?=some x/\ys[i]?=some y,λ i H=>∃xs ys,SqL K H a xs/\SqL K H b ys/\(xs.length≤i\/ys.length≤i)⟩
section
variable {X:Cx}{es:List Expr}{x1:Nat}{pp:Pos}
def w8g (K:W.Frag) (ta:TA):TI:=λ σ H R=>ta σ H λ vs H1=>∃a b xs ys,vs=[.ref a,.ref b]/\SqL K H1 a xs/\SqL K H1 b ys/\R (w4q K a b) H1
end
def LoopZL (K:PySem.W.Frag) (g:TG) (tb:TS) (D:Ends) (σ:St) (vs:List V) (H1:Hp):Prop:=∃a b xs ys,vs=[.ref a,.ref b]/\SqL K H1 a xs/\SqL K H1 b ys/\∃W:Nat->Nat->St->Hp->Prop,(∃m,W 0 m σ H1)/\∀i m σ H,W i m σ H ->
 ((w4q K a b).stop i H/\D.nx σ H)\/((w4q K a b).go i H/\∃N:St->Hp->Prop,(∀σ' H',N σ' H'->∃m',m' < m/\W (i+1) m' σ' H')/\∀x H',(w4q K a b).yld i H x H'->g x σ H' λ σ2 H2=>tb { D with nx:=N,ct:=N,bk:=D.nx } σ2 H2)
theorem x9a {K:W.Frag}{ta:TA}{g:TG}{tb:TS}{D:Ends}{σ:St}{H:Hp}:y4g (w8g K ta) g tb D σ H=ta σ H λ vs H1=>LoopZL K g tb D σ vs H1:=rfl
theorem LoopZL.mk {K:W.Frag}{a b:Addr}{xs ys:List V}{g:TG}{tb:TS}{D:Ends}{σ:St}{H:Hp}(n:Nat) (hn:n=min xs.length ys.length) (h1:SqL K H a xs) (h2:SqL K H b ys) (Pv:Nat->St->Hp->Prop) (h0:Pv 0 σ H) (hl:∀i σ H,i≤n->Pv i σ H->SqL K H a xs/\SqL K H b ys)
  (hs:∀i x y σ H T,i < n->xs[i]?=some x->ys[i]?=some y->Pv i σ H->H T=none->g (.ref T) σ (upd H T (.tup [x,y])) λ σ2 H2=>tb { D with nx:=Pv (i+1),ct:=Pv (i+1),bk:=D.nx } σ2 H2) (hd:∀σ H,Pv n σ H->D.nx σ H) :
  LoopZL K g tb D σ [.ref a,.ref b] H:=by
 subst hn
 refine ⟨a,b,xs,ys,rfl,h1,h2,λ i m σ H=>m=min xs.length ys.length - i/\i≤min xs.length ys.length/\Pv i σ H,⟨_,rfl,Nat.zero_le _,h0⟩,?_⟩
 rintro i m σ H ⟨rfl,hi,p⟩
 obtain ⟨k1,k2⟩:=hl i σ H hi p
 by_cases hlt:i < min xs.length ys.length
 ·have l1:i < xs.length:=by lia
  have l2:i < ys.length:=by lia
  refine .inr ⟨⟨xs,ys,_,_,k1,k2,List.getElem?_eq_getElem l1,List.getElem?_eq_getElem l2⟩,Pv (i+1),λ σ' H' p'=>⟨min xs.length ys.length - (i+1),by lia,rfl,hlt,p'⟩,λ v H' yy=>?_⟩
  obtain ⟨T,x,y,rfl,hT,rfl,ex⟩:=yy
  obtain ⟨ex1,ex2⟩:=ex xs ys k1 k2
  exact hs i x y σ H T hlt ex1 ex2 p hT
 ·have e:i=min xs.length ys.length:=by lia
  exact .inl ⟨⟨xs,ys,k1,k2,by lia⟩,hd σ H (e ▸ p)⟩
def CompZL (K:PySem.W.Frag) (k:Nat) (js:List Nat) (g:TG) (te:TE) (σ:St) (vs:List V) (H1:Hp) (Q:VK):Prop:=∃a b xs ys,vs=[.ref a,.ref b]/\SqL K H1 a xs/\SqL K H1 b ys/\∃W:Nat->Nat->List V->St->Hp->Prop,(∃m,W 0 m [] (z1k k js σ) H1)/\∀i m zs σ' H',W i m zs σ' H' ->
  ((w4q K a b).stop i H'/\∀p,H' p=none->Q (.ref p) (upd H' p (.lst zs))) \/
  ((w4q K a b).go i H'/\zs.length < sizeLine/\∃N:List V->St->Hp->Prop,(∀zs σ2 H2,N zs σ2 H2->∃m',m' < m/\W (i+1) m' zs σ2 H2)/\∀x H2,(w4q K a b).yld i H' x H2->g x σ' H2 λ σ3 H3=>te σ3 H3 λ v H4=>N (zs++[v]) σ3 H4)
theorem x5l {K:W.Frag}{k:Nat}{js:List Nat}{ta:TA}{g:TG}{te:TE}{σ:St}{H:Hp}{Q:VK}:z4g (w8g K ta) k js g te σ H Q=ta σ H λ vs H1=>CompZL K k js g te σ vs H1 Q:=rfl
theorem CompZL.mk {K:W.Frag}{a b:Addr}{xs ys:List V}{k:Nat}{js:List Nat}{g:TG}{te:TE}{Q:VK}{σ:St}{H:Hp}(n:Nat) (hn:n=min xs.length ys.length) (h1:SqL K H a xs) (h2:SqL K H b ys) (Pv:Nat->List V->St->Hp->Prop) (h0:Pv 0 [] (z1k k js σ) H) (hl:∀i zs σ H,i≤n->Pv i zs σ H->SqL K H a xs/\SqL K H b ys)
  (hs:∀i x y zs σ H T,i < n->xs[i]?=some x->ys[i]?=some y->Pv i zs σ H->H T=none->zs.length < sizeLine/\g (.ref T) σ (upd H T (.tup [x,y])) λ σ3 H3=>te σ3 H3 λ v H4=>Pv (i+1) (zs++[v]) σ3 H4) (hz:∀zs σ H,Pv n zs σ H->∀p,H p=none->Q (.ref p) (upd H p (.lst zs))) (hlen:∀i zs σ H,Pv i zs σ H->zs.length < sizeLine) :
  CompZL K k js g te σ [.ref a,.ref b] H Q:=by
 subst hn
 refine ⟨a,b,xs,ys,rfl,h1,h2,λ i m zs σ H=>m=min xs.length ys.length - i/\i≤min xs.length ys.length/\Pv i zs σ H,⟨_,rfl,Nat.zero_le _,h0⟩,?_⟩
 rintro i m zs σ H ⟨rfl,hi,p⟩
 obtain ⟨k1,k2⟩:=hl i zs σ H hi p
 by_cases hlt:i < min xs.length ys.length
 ·have l1:i < xs.length:=by lia
  have l2:i < ys.length:=by lia
  refine .inr ⟨⟨xs,ys,_,_,k1,k2,List.getElem?_eq_getElem l1,List.getElem?_eq_getElem l2⟩,hlen _ _ _ _ p,Pv (i+1),λ zs' σ' H' p'=>⟨min xs.length ys.length - (i+1),by lia,rfl,hlt,p'⟩,λ v H' yy=>?_⟩
  obtain ⟨T,x,y,rfl,hT,rfl,ex⟩:=yy
  obtain ⟨ex1,ex2⟩:=ex xs ys k1 k2
  exact (hs i x y zs σ H T hlt ex1 ex2 p hT).2
 ·have e:i=min xs.length ys.length:=by lia
  exact .inl ⟨⟨xs,ys,k1,k2,by lia⟩,hz zs σ H (e ▸ p)⟩
section
variable {prog:Program}{w:World}{A:Around}{E:Value->Shared->Prop}{s:Shared}
end
theorem z7q:∀ {xs:List V}{us:List Value},xs.length=us.length->(∀(i:Nat) u,us[i]?=some u->∃x,xs[i]?=some x/\RelV x u)->Vals xs us
 | [],[],_,_=>.nil
 | [],_::_,h,_=>by simp at h
 | _::_,[],h,_=>by simp at h
 | x::xs,u::us,h,f=>by
  obtain ⟨y,e,r⟩:=f 0 u rfl
  cases (Option.some.inj e)
  exact .cons r (z7q (by simpa using h) λ i v e=>f (i+1) v e)
section
variable {X:Cx}
def w6i:V->List V->Hp->VK->Prop:=λ x ys H Q=>∃a o xs y,x=.ref a/\ys=[y]/\H a=some (.frz o (.tup xs))/\xs.all z1r=true/\z1r y=true/\Q (.int (xs.countP λ z=>eqV z y)) H
def v3k (r:V->List V->Hp->VK->Prop) (to:TE) (t:TA):TE:=λ σ H Q=>to σ H λ x H1=>(∃a o xs,x=.ref a/\H1 a=some (.frz o (.tup xs))/\o.dict=none)/\t σ H1 λ ys H2=>r x ys H2 Q
theorem x8h:MtR X "list.pop" x1w:=x8f
end
theorem y1a {X:Cx}{i:Nat}{x:Str}{elt tg iter:Expr}{scope:Scope}{cl:List (Str × Addr)}{pos pos' lpos:Pos}{own fv:List Str}{js:List Nat}{wi:TI}{g:TG}{te:TE}
  (hN:X.N.Nodup) (hx1:X.N[i]?=some x) (hx:Loc X.env.scope x) (hf:X.fn x=true\/X.env.scope.names.lookup x=some .local)
  (hc:X.calm=true) (hi:PI X tg iter wi) (hclos:closureFor scope X.env=pure cl) (hcell:∀y∈scope.names,y.2≠.cell) (hkind:scope.kind=.function)
  (hnames:∀y∈scope.names,y.2=.local->scope.names.lookup y.1=some .local)
  (hcl:∀x c,cl.lookup x=some c->X.env.cells.lookup x=some c)
  (hhas:∀x,((relabel scope X.env).names.lookup x=some .cell\/(relabel scope X.env).names.lookup x=some .free)->∃c,cl.lookup x=some c)
  (hlen:js.length=fv.length) (hcap:∀(i:Nat) x j,fv[i]?=some x->js[i]?=some j->Cap X scope cl x j)
  (hg:∀(C:Addr) (ex:List Addr) (s:Shared) (H:Hp),PG (z3p X (own++fv) scope cl C ex s H) tg g)
  (he:∀(C:Addr) (ex:List Addr) (s:Shared) (H:Hp),PE (z3p X (own++fv) scope cl C ex s H) elt te)
  (hsw:swapsWith (.ListComp elt [⟨tg,iter,[],0⟩] scope lpos) (some (.Name x pos')) pos.line X.env=pure true:=by rfl)
  (hs:∀x,foldedSetIterable iter X.env x=pure x:=by intro _;rfl) :
  PS X (.Assign [.Name x pos'] (.ListComp elt [⟨tg,iter,[],0⟩] scope lpos) pos) (w0f (z4g wi own.length js g te) (z9f i)):=by
 intro pins s σ H D I h
 rw [exec_Assign_Name_used _ _ _ _ hsw]
 refine wpAny_bind (wpAny_standAt ?_)
 rw [arm_evalThenUse_ListComp]
 have core:=y3t (use:=some (assign (.Name x pos') X.env)) (QQ:=λ _ s'=>SP X pins D .next s') (fpos:=firstIterPos [⟨tg,iter,[],0⟩] lpos) (pos:=lpos) hc hi hclos hcell hkind hnames hcl hhas hlen hcap hg he hs I h (λ a C s5 H5 fl I5 zC zL zS zc zp ⟨m,hn⟩ q=>?_)
 ·refine wpAny_bind (wpAny_bind (thn core λ _ s' hq=>?_))
  exact wpAny_pure (wpAny_pure hq)
 ·show wpAny (model X.prog X.w) X.A (assign (.Name x pos') X.env (.ref a)) _ X.xe s5
  show wpAny (model X.prog X.w) X.A (do standAt pos';bindName X.env x (.ref a)) _ X.xe s5
  refine wpAny_bind (wpAny_standAt ?_)
  refine bindName_ ?_
  refine y1z I5 hN hx1 hx (show RelV (.ref a) (.ref a) from rfl) (λ s6 I6 ⟨b,sb,hb⟩=>?_) hf
  have cb:C≠b:=by
   rcases hb with rfl | hb
   ·exact zL
   ·exact λ z=>zc x b hb z.symm
  obtain ⟨o,es,ep,e,r⟩:=hn
  refine ⟨m,⟨o,es,ep,(sb.2 C cb).trans e,r⟩,λ h' sc=>?_⟩
  exact ⟨_,H5,I6.turned (t':=s6.toks) (it:=C) (λ d o nd e=>sc.extBut d o nd e) zC zL (.inr zS) zc zp,q⟩
theorem y6p {X:Cx}{i:Nat}{x:Str}{elt tg iter:Expr}{scope:Scope}{pos pos' lpos:Pos}{own:List Str}{wi:TI}{g:TG}{te:TE}
  (hN:X.N.Nodup) (hx1:X.N[i]?=some x) (hx:Loc X.env.scope x) (hf:X.fn x=true\/X.env.scope.names.lookup x=some .local)
  (hc:X.calm=true) (hi:PI X tg iter wi) (hcell:∀y∈scope.names,y.2≠.cell) (hfree:∀y∈scope.names,y.2≠.free) (hkind:scope.kind=.function)
  (hnames:∀y∈scope.names,y.2=.local->scope.names.lookup y.1=some .local)
  (hg:∀(C:Addr) (ex:List Addr) (s:Shared) (H:Hp),PG (z3p X own scope [] C ex s H) tg g)
  (he:∀(C:Addr) (ex:List Addr) (s:Shared) (H:Hp),PE (z3p X own scope [] C ex s H) elt te)
  (hsw:swapsWith (.ListComp elt [⟨tg,iter,[],0⟩] scope lpos) (some (.Name x pos')) pos.line X.env=pure true:=by rfl)
  (hs:∀x,foldedSetIterable iter X.env x=pure x:=by intro _;rfl) :
  PS X (.Assign [.Name x pos'] (.ListComp elt [⟨tg,iter,[],0⟩] scope lpos) pos) (w0f (z4g wi own.length [] g te) (z9f i)):=by
 refine y1a (own:=own) (fv:=[]) (js:=[]) (cl:=[]) hN hx1 hx hf hc hi (closureFor_none hfree) hcell hkind hnames (λ x c h=>by cases h) (λ x h=>?_) rfl (λ i x j h=>by simp at h) (by simpa using hg) (by simpa using he) hsw hs
 rw [z6z hfree] at h
 rcases h with h | h
 ·exact absurd rfl (hcell _ (PySem.mem_of_lookup h))
 ·exact absurd rfl (hfree _ (PySem.mem_of_lookup h))
section
variable {X:Cx}
theorem z8x:z4l X (.type "str") (λ xs H Q=>∃i:Int,xs=[.int i]/\i.natAbs.log2 < 1920/\Q (.str (Str.ofString (toString i))) H):=by
 intro pins s σ H xs us Q I r h
 obtain ⟨i,rfl,hl,q⟩:=h
 obtain ⟨u,rfl,t,rfl⟩:=z5r r
 exact PySem.P.str_of_int hl ⟨.str _,H,I.tok _,⟨_,rfl⟩,q⟩
theorem x5y:z4l X (.type "int") (λ xs H Q=>∃(x:Str) (n:Int),xs=[.str x]/\PySem.intText? x=some n/\x.length≤640/\Q (.int n) H):=by
 intro pins s σ H xs us Q I r h
 obtain ⟨x,n,rfl,hn,hl,q⟩:=h
 obtain ⟨u,rfl,t,rfl⟩:=z5r r
 exact W.KIN.call_text hn hl ⟨.int n,H,I.tok _,⟨_,rfl⟩,q⟩
def z6d (x y:Str):Bool:=decide (0+y.length≤x.length) && Builtin.Str.subAt x y 0
def x1u:V->List V->Hp->VK->Prop:=λ x xs H Q=>∃z y,x=.str z/\xs=[.str y]/\Q (.bl (z6d z y)) H
theorem x3r:MtR X "str.startswith" x1u:=by
 intro pins s σ H x xs v us Q I rx rv h
 obtain ⟨z,y,rfl,rfl,q⟩:=h
 obtain ⟨t,rfl⟩:=rx
 obtain ⟨u,rfl,ru⟩:=z5r rv
 obtain ⟨ty,rfl⟩:=(show ∃ty,u=Value.str y ty from ru)
 exact call_gives F.slot_str_startswith (typeIs_str s z t) F.entry_str_startswith (F.args_str_startswith_2 _ _) (gives_str_startswith z y t ty) ⟨.bl (z6d z y),H,I,rfl,q⟩
def x1v:V->Option Int->Option Int->Hp->VK->Prop:=λ x lo hi H Q=>∃z,x=.str z/\z.length≤4000000/\Q (.str (Txt.slice z lo hi)) H
theorem y0t:SlR X x1v:=by
 intro pins s σ H x v vl vu lo hi sl Q I rx hs pl pu h
 obtain ⟨z,rfl,hz,q⟩:=h
 obtain ⟨t,rfl⟩:=rx
 have s20:4000000≤sizeLine:=by rw [sizeLine_eq];decide
 have part:∀ {u:Value}{o:Option Int},IsPart u o->∃l,u=partValue l/\o=l.map λ p:Int × Tok=>p.1:=λ p=>by
  cases p with
  | none=>exact ⟨none,rfl,rfl⟩
  | int i t=>exact ⟨some (i,t),rfl,rfl⟩
 obtain ⟨l,rfl,rfl⟩:=part pl
 obtain ⟨u,rfl,rfl⟩:=part pu
 obtain ⟨o,ho,hc,hd⟩:=hs
 refine ⟨"str",_,F.slot_str_getitem.lookup,typeIs_str _ _ _,wpAny_getItem_str_slice (l:=l) (u:=u) (st:=none) ⟨o,ho,hc,hd⟩ rfl ?_⟩
 have le:=Txt.slice_le z (l.map λ p:Int × Tok=>p.1) (u.map λ p:Int × Tok=>p.1)
 exact post_val_or_str ⟨Nat.le_trans le (by lia),λ t' k=>⟨.str _,H,I.tok k,⟨t',rfl⟩,q⟩⟩
theorem z9l:∀ {bs:List Bool}{us:List Value},Vals (bs.map V.bl) us->us=bs.map Value.bool
 | [],_,.nil=>rfl
 | b::bs,_,.cons r t=>by
  cases (show _=Value.bool b from r)
  rw [z9l t];rfl
theorem x6a (hc:X.calm=true):z4l X (.builtin "all") (λ xs H Q=>∃(a:Addr) (bs:List Bool),xs=[.ref a]/\SqL X.K H a (bs.map V.bl)/\Q (.bl (bs.all id)) H):=by
 intro pins s σ H xs us Q I r h
 obtain ⟨a,bs,rfl,hq,q⟩:=h
 obtain ⟨u,rfl,ru⟩:=z5r r
 cases (show u=Value.ref a from ru)
 obtain ⟨its,rv,pl,hz⟩:=I.list hq
 have hl:=pl.isList
 have hlt:a < s.heap.objs.size:=by obtain ⟨_,e,_⟩:=hl;exact Heap.lt_size e
 have hb:=z9l rv
 subst hb
 refine call_all_walk (wpAny_pyIter_list hl ?_)
 refine ⟨s.heap.objs.size,[s.heap.objs.size,a],[s.heap.objs.size],(bs.map Value.bool).toArray.size,_,_,λ i=>(bs[i]?).getD true,rfl,Walks.list (A:=X.A.in1) (I.ok.hd hc) _ a (Nat.ne_of_lt hlt) (bs.map Value.bool).toArray,
  ⟨⟨_,Heap.get?_push_size _ rfl,rfl,rfl⟩,hl.push _⟩,λ i v s' Q' E' hP hQ=>?_,λ h' tk hk=>?_⟩
 ·have hP:(bs.map Value.bool)[i]?=some v:=by simpa using hP
  rw [List.getElem?_map] at hP
  cases e:bs[i]? with
  | none=>rw [e] at hP;cases hP
  | some b =>
   rw [e] at hP;cases hP
   simp only [e,Option.getD_some] at hQ
   exact wpAny_truthy_bool hQ
 ·have e:((List.range (bs.map Value.bool).toArray.size).all λ i=>(bs[i]?).getD true)=bs.all id:=by
   rw [List.size_toArray,List.length_map];exact LSm.range_all bs
  rw [e]
  exact ⟨.bl _,H,I.kept (t':=tk) (LSm.kept_iter hk),rfl,q⟩
end
section
variable {κ:Type} [DecidableEq κ]
def z2o (kvs:List (κ × V)) (k:κ):Option V:=(kvs.find? λ kv=>decide (kv.1=k)).map (·.2)
def z9c (kvs:List (κ × V)) (k:κ) (v:V):List (κ × V) :=
 if (kvs.any λ kv=>decide (kv.1=k))=true then kvs.map (λ kv=>if kv.1=k then (kv.1,v) else kv) else kvs++[(k,v)]
def w8u (kvs:List (κ × V)) (k:κ):List (κ × V):=kvs.filter λ kv=>decide (kv.1≠k)
theorem z2r {p:κ × V}{r:List (κ × V)}{k:κ}(e:p.1=k):z2o (p::r) k=some p.2:=by simp [z2o,List.find?_cons,e]
theorem z2s {p:κ × V}{r:List (κ × V)}{k:κ}(e:¬p.1=k):z2o (p::r) k=z2o r k:=by simp [z2o,List.find?_cons,e]
theorem z5s (k:κ):∀kvs:List (κ × V),(kvs.any λ kv=>decide (kv.1=k))=(z2o kvs k).isSome
 | []=>rfl
 | p::r=>by
  rw [List.any_cons]
  by_cases e:p.1=k
  ·simp only [z2r e,decide_eq_true e,Bool.true_or,Option.isSome_some]
  ·rw [z2s e,decide_eq_false e,Bool.false_or];exact z5s k r
theorem y5x (k j:κ) (y:V):∀kvs:List (κ × V),z2o (kvs.map λ kv=>if kv.1=k then (kv.1,y) else kv) j=(z2o kvs j).map λ x=>if j=k then y else x
 | []=>rfl
 | p::r=>by
  have ih:=y5x k j y r
  rw [List.map_cons]
  by_cases h:p.1=k
  ·rw [if_pos h]
   by_cases e:p.1=j
   ·rw [z2r (p:=(p.1,y)) e,z2r e,Option.map_some,if_pos (e.symm.trans h)]
   ·rw [z2s (p:=(p.1,y)) e,z2s e,ih]
  ·rw [if_neg h]
   by_cases e:p.1=j
   ·rw [z2r (p:=p) e,z2r e,Option.map_some,if_neg (λ z=>h (e.trans z))]
   ·rw [z2s (p:=p) e,z2s e,ih]
theorem y1w (k j:κ) (y:V):∀kvs:List (κ × V),z2o kvs k=none->z2o (kvs++[(k,y)]) j=if j=k then some y else z2o kvs j
 | [],_=>by
  by_cases e:k=j
  ·rw [if_pos e.symm];exact z2r (p:=(k,y)) e
  ·rw [if_neg (λ z=>e z.symm)];exact z2s (p:=(k,y)) e
 | p::r,hn=>by
  rw [List.cons_append]
  have hk:¬p.1=k:=λ z=>by rw [z2r z] at hn;cases hn
  rw [z2s hk] at hn
  have ih:=y1w k j y r hn
  by_cases e:p.1=j
  ·rw [z2r e,z2r e,if_neg (λ z=>hk (e.trans z))]
  ·rw [z2s e,z2s e,ih]
theorem y0b (kvs:List (κ × V)) (k j:κ) (y:V):z2o (z9c kvs k y) j=if j=k then some y else z2o kvs j:=by
 unfold z9c
 by_cases a:(kvs.any λ kv=>decide (kv.1=k))=true
 ·rw [if_pos a,y5x]
  rw [z5s] at a
  by_cases e:j=k
  ·obtain ⟨x,hx⟩:=Option.isSome_iff_exists.mp a
   rw [if_pos e,e,hx,Option.map_some,if_pos rfl]
  ·rw [if_neg e]
   cases z2o kvs j with
   | none=>rfl
   | some x=>rw [Option.map_some,if_neg e]
 ·rw [if_neg a]
  refine y1w k j y kvs ?_
  rw [z5s] at a
  cases q:z2o kvs k with
  | none=>rfl
  | some x=>rw [q] at a;exact (a rfl).elim
theorem z8q (kvs:List (κ × V)) (k:κ) (v:V):(z9c kvs k v).length≤kvs.length+1:=by
 unfold z9c
 split
 ·rw [List.length_map];lia
 ·rw [List.length_append,List.length_cons,List.length_nil];lia
theorem y6n {kvs:List (κ × V)}{k:κ}(v:V) (h:z2o kvs k=none):z9c kvs k v=kvs++[(k,v)]:=by
 unfold z9c
 rw [z5s,h]
 exact if_neg (by decide)
theorem RelO.isSome_eq {o:Option V}{u:Option Value}(r:RelO o u):o.isSome=u.isSome:=by
 cases o with
 | none=>cases u with
  | none=>rfl
  | some _=>exact (show False from r).elim
 | some _=>cases u with
  | none=>exact (show False from r).elim
  | some _=>rfl
theorem RelO.getD {o:Option V}{u:Option Value}{d:V}{d':Value}(r:RelO o u) (rd:RelV d d'):RelV (o.getD d) (u.getD d'):=by
 cases o with
 | none=>cases u with
  | none=>exact rd
  | some _=>exact (show False from r).elim
 | some _=>cases u with
  | none=>exact (show False from r).elim
  | some _=>exact r
theorem KV.val {kvs:List (κ × V)}{vs:List (κ × Value)}(r:KV kvs vs) (k:κ):RelO (z2o kvs k) (valueAt vs k):=by
 unfold KV at r
 induction r with
 | nil=>exact True.intro
 | @cons p q ps qs h t ih =>
  obtain ⟨h1,h2⟩:=h
  by_cases e:p.1=k
  ·have e':q.1=k:=h1.symm.trans e
   have b:valueAt (q::qs) k=some q.2:=by simp [valueAt,List.find?_cons,e']
   rw [z2r e,b];exact h2
  ·have e':¬q.1=k:=λ z=>e (h1.trans z)
   have b:valueAt (q::qs) k=valueAt qs k:=by simp [valueAt,List.find?_cons,e']
   rw [z2s e,b];exact ih
theorem KV.any {kvs:List (κ × V)}{vs:List (κ × Value)}(r:KV kvs vs) (k:κ):(kvs.any λ kv=>decide (kv.1=k))=vs.any λ kv=>decide (kv.1=k):=by
 unfold KV at r
 induction r with
 | nil=>rfl
 | cons h t ih=>rw [List.any_cons,List.any_cons,ih,h.1]
theorem KV.repl {kvs:List (κ × V)}{vs:List (κ × Value)}(r:KV kvs vs) (k:κ) {y:V}{u:Value}(ry:RelV y u) :
  KV (kvs.map λ kv=>if kv.1=k then (kv.1,y) else kv) (vs.map λ kv=>if kv.1=k then (kv.1,u) else kv):=by
 unfold KV at r ⊢
 induction r with
 | nil=>exact .nil
 | @cons p q ps qs h t ih =>
  rw [List.map_cons,List.map_cons]
  refine .cons ?_ ih
  obtain ⟨h1,h2⟩:=h
  by_cases e:p.1=k
  ·rw [if_pos e,if_pos (h1.symm.trans e)];exact ⟨h1,ry⟩
  ·rw [if_neg e,if_neg (λ z=>e (h1.trans z))];exact ⟨h1,h2⟩
theorem KV.put {kvs:List (κ × V)}{vs:List (κ × Value)}(r:KV kvs vs) (k:κ) {y:V}{u:Value}(ry:RelV y u):KV (z9c kvs k y) (stored vs k u):=by
 unfold z9c stored
 rw [r.any k]
 by_cases e:(vs.any λ kv=>decide (kv.1=k))=true
 ·rw [if_pos e,if_pos e];exact r.repl k ry
 ·rw [if_neg e,if_neg e];exact Paired.snoc r ⟨rfl,ry⟩
theorem KV.drop {kvs:List (κ × V)}{vs:List (κ × Value)}(r:KV kvs vs) (k:κ):KV (w8u kvs k) (without vs k):=by
 unfold KV at r ⊢
 unfold w8u without
 induction r with
 | nil=>exact .nil
 | @cons p q ps qs h t ih =>
  obtain ⟨h1,h2⟩:=h
  rw [List.filter_cons,List.filter_cons]
  by_cases e:p.1=k
  ·have a:¬decide (p.1≠k)=true:=by simp [e]
   have b:¬decide (q.1≠k)=true:=by simp [h1.symm.trans e]
   rw [if_neg a,if_neg b];exact ih
  ·have e':¬q.1=k:=λ z=>e (h1.trans z)
   have a:decide (p.1≠k)=true:=by simp [e]
   have b:decide (q.1≠k)=true:=by simp [e']
   rw [if_pos a,if_pos b];exact .cons ⟨h1,h2⟩ ih
theorem KV.keys {kvs:List (κ × V)}{vs:List (κ × Value)}(r:KV kvs vs):kvs.map (·.1)=vs.map (·.1):=by
 unfold KV at r
 induction r with
 | nil=>rfl
 | cons h t ih=>rw [List.map_cons,List.map_cons,ih,h.1]
theorem KV.length {kvs:List (κ × V)}{vs:List (κ × Value)}(r:KV kvs vs):kvs.length=vs.length:=Paired.length r
end
theorem x8q {P:Program}{w:World}{k:Key}{u:Value}(r:RelV (kV k) u):(z1y P w).is k u=true:=by
 cases k with
 | inl i=>obtain ⟨t,e⟩:=(show ∃t,u=Value.int i t from r);subst e;exact y5l P w i t
 | inr x=>obtain ⟨t,e⟩:=(show ∃t,u=Value.str x t from r);subst e;exact y5k P w x t
theorem y3n {P:Program}{w:World}:∀ {ks:List Key}{us:List Value},Vals (ks.map kV) us->ItemsAre (z1y P w) ks us
 | [],_,r=>by rw [List.map_nil] at r;cases r;exact .nil
 | k::ks,_,r=>by
  rw [List.map_cons] at r
  cases r with
  | cons h t=>exact .cons (x8q h) (y3n t)
abbrev KT (H:Hp):List (List Key × V)->List (List Key × Addr × Value)->Prop:=Paired λ p q=>p.1=q.1/\H q.2.1=some (.tup (p.1.map kV))/\RelV p.2 q.2.2
theorem KT.val {H:Hp}{kvs:List (List Key × V)}{xs:List (List Key × Addr × Value)}(r:KT H kvs xs) (k:List Key):RelO (z2o kvs k) ((atKey xs k).map (·.2)):=by
 induction r with
 | nil=>exact True.intro
 | @cons p q ps qs h t ih =>
  obtain ⟨h1,_,h2⟩:=h
  by_cases e:p.1=k
  ·have e':q.1=k:=h1.symm.trans e
   have b:atKey (q::qs) k=some q.2:=by simp [atKey,List.find?_cons,e']
   rw [z2r e,b];exact h2
  ·have e':¬q.1=k:=λ z=>e (h1.trans z)
   have b:atKey (q::qs) k=atKey qs k:=by simp [atKey,List.find?_cons,e']
   rw [z2s e,b];exact ih
theorem KT.repl {H:Hp}{kvs:List (List Key × V)}{xs:List (List Key × Addr × Value)}(r:KT H kvs xs) (k:List Key) {y:V}{u:Value}(ry:RelV y u) :
  KT H (kvs.map λ kv=>if kv.1=k then (kv.1,y) else kv) (xs.map (putAt k u)):=by
 induction r with
 | nil=>exact .nil
 | @cons p q ps qs h t ih =>
  rw [List.map_cons,List.map_cons]
  refine .cons ?_ ih
  obtain ⟨h1,h2,h3⟩:=h
  unfold putAt
  by_cases e:p.1=k
  ·rw [if_pos e,if_pos (h1.symm.trans e)];exact ⟨h1,h2,ry⟩
  ·rw [if_neg e,if_neg (λ z=>e (h1.trans z))];exact ⟨h1,h2,h3⟩
theorem KT.put {H:Hp}{kvs:List (List Key × V)}{xs:List (List Key × Addr × Value)}(r:KT H kvs xs) (k:List Key) {b:Addr}{y:V}{u:Value}(hb:H b=some (.tup (k.map kV))) (ry:RelV y u) :
  KT H (z9c kvs k y) (storedH xs k b u):=by
 have e:(kvs.any λ kv=>decide (kv.1=k))=(atKey xs k).isSome:=by
  rw [z5s,(r.val k).isSome_eq,Option.isSome_map]
 unfold z9c storedH
 rw [e]
 by_cases q:(atKey xs k).isSome=true
 ·rw [if_pos q,if_pos q];exact r.repl k ry
 ·rw [if_neg q,if_neg q];exact Paired.snoc r ⟨rfl,hb,ry⟩
theorem KT.keeps {H H':Hp}{kvs:List (List Key × V)}{xs:List (List Key × Addr × Value)}(r:KT H kvs xs) (ht:∀b ys,H b=some (.tup ys)->H' b=some (.tup ys)):KT H' kvs xs :=
 Paired.mapP r λ _ _ z=>⟨z.1,ht _ _ z.2.1,z.2.2⟩
section
variable {P:Program}{w:World}{H:Hp}{h:Heap}{a:Addr}
theorem w5y {u:HO}(ok:HOk P w H h) (e:Rd H a u):ObjOk P w H h a u:=e.ok ok
theorem x9l {kvs:List (Key × V)}(ok:HOk P w H h) (e:Rd H a (.dK kvs)):kvs.length≤sizeLine/\(a == sysModules)=false/\∃vs,KV kvs vs/\h.DictOf (z1y P w) a vs :=
 show ObjOk P w H h a (.dK kvs) from w5y ok e
theorem w8v {kvs:List (Key × V)}(ok:HOk P w H h) (e:H a=some (.dK kvs)):kvs.length≤sizeLine/\(a == sysModules)=false/\∃vs,KV kvs vs/\h.DictOf (z1y P w) a vs:=x9l ok (.inl e)
theorem y7s {ks:List Key}(ok:HOk P w H h) (e:H a=some (.tup (ks.map kV))):(tupleKind (z1y P w)).is h ks a:=by
 obtain ⟨_,its,r,o,h1,h2,n,h3⟩:=(show ObjOk P w H h a (.tup (ks.map kV)) from ok a _ e)
 exact ⟨o,its.toArray,n,h1,h2,h3,by simpa using y3n r⟩
theorem x9k {kvs:List (List Key × V)}(ok:HOk P w H h) (e:Rd H a (.dT kvs)):kvs.length≤sizeLine/\(a == sysModules)=false /\
  ∃xs,KT H kvs xs/\h.DictOfH (tupleKind (z1y P w)) a xs:=by
 obtain ⟨z,y,xs,r,o,es,ep,h1,h2,h3,h4,h5⟩:=(show ObjOk P w H h a (.dT kvs) from w5y ok e)
 refine ⟨z,y,xs,r,o,es,ep,h1,h2,h3,h4,λ x hx=>?_,h5⟩
 have all:∀ {l:List (List Key × V)}{m:List (List Key × Addr × Value)},KT H l m->∀x∈m,(tupleKind (z1y P w)).is h x.1 x.2.1:=by
  intro l m q
  induction q with
  | nil=>intro x hx;exact nomatch hx
  | @cons p q ps qs hq t ih =>
   intro x hx
   rcases List.mem_cons.mp hx with e | hx
   ·subst e
    exact y7s ok (by rw [← hq.1];exact hq.2.1)
   ·exact ih x hx
 exact all r x hx
theorem v1i {kvs:List (List Key × V)}(ok:HOk P w H h) (e:H a=some (.dT kvs)):kvs.length≤sizeLine/\(a == sysModules)=false /\
  ∃xs,KT H kvs xs/\h.DictOfH (tupleKind (z1y P w)) a xs:=x9k ok (.inl e)
end
def DGet (H:Hp) (a:Addr) (y:V) (r:Option V):Prop :=
 (∃kvs k,Rd H a (.dK kvs)/\y=kV k/\r=z2o kvs k)\/∃kvs k b,Rd H a (.dT kvs)/\y=.ref b/\H b=some (.tup (k.map kV))/\r=z2o kvs k
def DPut (H:Hp) (a:Addr) (y v:V) (H':Hp):Prop :=
 (∃kvs k,H a=some (.dK kvs)/\y=kV k/\kvs.length < sizeLine/\H'=upd H a (.dK (z9c kvs k v))) \/
 ∃kvs k b,H a=some (.dT kvs)/\y=.ref b/\H b=some (.tup (k.map kV))/\kvs.length < sizeLine/\H'=upd H a (.dT (z9c kvs k v))
theorem DGet.k {H:Hp}{a:Addr}{kvs:List (Key × V)}{k:Key}(e:H a=some (.dK kvs)):DGet H a (kV k) (z2o kvs k):=.inl ⟨kvs,k,.inl e,rfl,rfl⟩
theorem DGet.t {H:Hp}{a b:Addr}{kvs:List (List Key × V)}{k:List Key}(e:H a=some (.dT kvs)) (eb:H b=some (.tup (k.map kV))):DGet H a (.ref b) (z2o kvs k):=.inr ⟨kvs,k,b,.inl e,rfl,eb,rfl⟩
theorem DPut.k {H:Hp}{a:Addr}{kvs:List (Key × V)}{k:Key}{v:V}(e:H a=some (.dK kvs)) (hl:kvs.length < sizeLine):DPut H a (kV k) v (upd H a (.dK (z9c kvs k v))):=.inl ⟨kvs,k,e,rfl,hl,rfl⟩
theorem DPut.t {H:Hp}{a b:Addr}{kvs:List (List Key × V)}{k:List Key}{v:V}(e:H a=some (.dT kvs)) (eb:H b=some (.tup (k.map kV))) (hl:kvs.length < sizeLine) :
  DPut H a (.ref b) v (upd H a (.dT (z9c kvs k v))):=.inr ⟨kvs,k,b,e,rfl,eb,hl,rfl⟩
section
variable {X:Cx}{pins:List (Addr × Obj)}{σ:St}{H:Hp}{s:Shared}{a:Addr}{y v:V}{u r:Value}{o:Option V}{A:Around}{E:Value->Shared->Prop}
theorem Inv.big (I:Inv X pins σ H s):sysModules < s.heap.objs.size:=by
 have h:mainGlobals < s.heap.objs.size:=(I.mod.glob.keeps I.bk).lt
 exact Nat.lt_trans (by decide) h
theorem v3y {Q:Value->Shared->Prop}(hu:A.units+1 < cLine) (I:Inv X pins σ H s) (g:DGet H a y o) (ry:RelV y u) (h:∀s',Inv X pins σ H s'->Q (.bool o.isSome) s') :
  wpAny (model X.prog X.w) A (compareOp .In u (.ref a)) Q E s:=by
 rcases g with ⟨kvs,k,e,ey,l⟩ | ⟨kvs,k,b,e,ey,eb,l⟩
 ·subst ey
  obtain ⟨z,hd,vs,rel,dd⟩:=x9l I.hok e
  refine wpAny_in_of (x8q ry) hd dd.mapOf ?_
  rw [← (rel.val k).isSome_eq,← l]
  exact h _ (I.tok _)
 ·subst ey
  cases (show u=Value.ref b from ry)
  obtain ⟨z,hd,xs,rel,dd⟩:=x9k I.hok e
  refine wpAny_in_heap (tupleKind_room_in1 hu) (y7s I.hok eb) hd dd ?_
  have q:=(rel.val k).isSome_eq
  rw [Option.isSome_map] at q
  rw [← q,← l]
  exact h _ (I.tok _)
theorem x5f {h':Heap}{t':Nat}{ob:HO}(I:Inv X pins σ H s) (mu:Mut (H a)) (hs:Heap.SameBut a s.heap h') (he:∃q,h'.get? a=some q) (new:ObjOk X.prog X.w (upd H a ob) h' a ob) :
  Inv X pins σ (upd H a ob) { s with heap:=h',toks:=t' } :=
 I.write (x:=a) (e:=a) mu (.inl rfl) (λ b q hb z=>(hs.2 b hb).trans z) he new
theorem w8w {P:Program}{w:World}{H':Hp}{h':Heap}{kvs:List (Key × V)}{vs:List (Key × Value)}(z:kvs.length≤sizeLine) (hd:(a == sysModules)=false) (rel:KV kvs vs) (dd:h'.DictOf (z1y P w) a vs) :
  ObjOk P w H' h' a (.dK kvs):=⟨z,hd,vs,rel,dd⟩
theorem x5g {H':Hp}{Q:Unit->Shared->Prop}(hu:A.units+1 < cLine) (I:Inv X pins σ H s) (g:DPut H a y v H') (ry:RelV y u) (rv:RelV v r) (h:∀s',Inv X pins σ H' s'->Q () s') :
  wpAny (model X.prog X.w) A (setItem (.ref a) u r) Q E s:=by
 rcases g with ⟨kvs,k,e,ey,l,eH⟩ | ⟨kvs,k,b,e,ey,eb,l,eH⟩
 ·subst ey eH
  obtain ⟨z,hd,vs,rel,dd⟩:=w8v I.hok e
  have hz:vs.length≤sizeLine:=by rw [← rel.length];exact z
  have hl:(z9c kvs k v).length≤sizeLine:=by have:=z8q kvs k v;lia
  refine wpAny_setItem_pairs (hsz:=hz) (x8q ry) dd λ h' dd' hs=>h _ ?_
  have he:∃q,h'.get? a=some q:=let ⟨q,_,_,hq,_⟩:=dd';⟨q,hq⟩
  exact x5f I (by rw [e];exact True.intro) hs he (w8w hl hd (rel.put k rv) dd')
 ·subst ey eH
  cases (show u=Value.ref b from ry)
  obtain ⟨z,hd,xs,rel,dd⟩:=v1i I.hok e
  have hz:xs.length≤sizeLine:=by rw [← Paired.length rel];exact z
  have hl:(z9c kvs k v).length≤sizeLine:=by have:=z8q kvs k v;lia
  refine wpAny_setItem_heap (hsz:=hz) (tupleKind_room_in1 hu) (y7s I.hok eb) dd λ h' dd' hs=>h _ ?_
  obtain ⟨q,es,ep,hq,h2,h3,h4,_,h5⟩:=dd'
  refine x5f I (by rw [e];exact True.intro) hs ⟨q,hq⟩ ⟨hl,hd,_,(rel.put k eb rv).keeps λ c ys ec=>?_,q,es,ep,hq,h2,h3,h4,h5⟩
  rw [z0o (v0v ec e (λ z=>nomatch z))]
  exact ec
end
section
variable {X:Cx}{pins:List (Addr × Obj)}{σ:St}{H:Hp}{s:Shared}{a:Addr}{kvs:List (Key × V)}{k:Key}{u:Value}{A:Around}{E:Value->Shared->Prop}
end
def v2y (i:Expr):Prop:=∀ov iv,subscripted i false ov iv=operate [ov,iv] (getItem ov iv)
theorem w1o {prog:Program}{w:World}{A:Around}{E:Value->Shared->Prop}{s:Shared}{env:Env}{value slice:Expr}{pos:Pos}{T id:String}{Q:Value->Shared->Prop}
  (hl:typeLookup (.type T) "__getitem__"=pure (some (.builtin id))) (hs:v2y slice)
  (h:wpAny (model prog w) A (eval value env) (λ o s₁=>wpAny (model prog w) A (eval slice env) (λ i s₂=>s₂.TypeIs o T/\wpAny (model prog w) A (getItem o i) Q E s₂) E s₁) E s) :
  wpAny (model prog w) A (eval (.Subscript value slice pos) env) Q E s:=by
 refine Subscript_ (wpAny_mono h (λ o s₁ h₁=>wpAny_mono h₁ (λ i s₂ h₂=>?_) λ _ _ x=>x) λ _ _ x=>x)
 obtain ⟨hT,h₂⟩:=h₂
 unfold subscriptTail
 refine wpAny_bind ?_
 rw [getitemInPython_of_ne hT.not_modules]
 refine wpAny_bind (wpAny_specialOf hT hl ?_)
 have fin:wpAny (model prog w) A (subscripted slice false o i) (λ r s₃=>wpAny (model prog w) A (letTemporaryGo value o r >>= λ _=>pure r) Q E s₃) E s₂:=by
  rw [hs o i]
  exact wpAny_operating (wpAny_mono h₂ (λ r s₃ h₃=>wpAny_bind (wpAny_letTemporaryGo (wpAny_pure h₃))) λ _ _ x=>x)
 first
  | exact wpAny_pure (wpAny_bind fin)
  | exact wpAny_bind (wpAny_pure (wpAny_bind fin))
  | exact wpAny_bind fin
def v0a (td ty:TE):TE:=λ σ H Q=>td σ H λ x H1=>ty σ H1 λ y H2=>∃a v,x=.ref a/\DGet H2 a y (some v)/\Q v H2
def v2b (ty td:TE):TE:=λ σ H Q=>ty σ H λ y H1=>td σ H1 λ x H2=>∃a o,x=.ref a/\DGet H2 a y o/\Q (.bl o.isSome) H2
def w1n (ty td:TE):TE:=λ σ H Q=>ty σ H λ y H1=>td σ H1 λ x H2=>∃a o,x=.ref a/\DGet H2 a y o/\Q (.bl (!o.isSome)) H2
def w5w (td ty tv:TE):TS:=λ D σ H=>tv σ H λ v H1=>td σ H1 λ x H2=>ty σ H2 λ y H3=>∃a H4,x=.ref a/\DPut H3 a y v H4/\D.nx σ H4
section
variable {X:Cx}{o i e value:Expr}{pos pos' tpos:Pos}{td ty tv:TE}
theorem w7d (hu:X.A.units+1 < cLine) (hi:PE X i ty) (ho:PE X o td):PC X .In i o (v2b ty td):=by
 intro pins s σ H Q I h
 refine thn (hi pins s σ H _ I h) λ iv s1 ⟨y,H1,I1,ry,q1⟩=>thn (ho pins s1 σ H1 _ I1 q1) λ u s2 ⟨x,H2,I2,rx,a,ov,ex,g,q2⟩=>?_
 subst ex
 obtain rfl:u=Value.ref a:=rx
 exact v3y hu I2 g ry λ s3 I3=>⟨.bl ov.isSome,H2,I3,rfl,q2⟩
theorem w2f (hu:X.A.units+1 < cLine) (ho:PE X o td) (hi:PE X i ty) (hv:PE X value tv) (hs:swapsWith value (some (.Subscript o i pos')) pos.line X.env=pure false) :
  PS X (.Assign [.Subscript o i pos'] value pos) (w5w td ty tv):=by
 intro pins s σ H D I h
 refine wpAny_Assign_Subscript (thn (hv pins s σ H _ I h) λ r s1 ⟨v,H1,I1,rv,q1⟩=>thn (ho pins s1 σ H1 _ I1 q1) λ u s2 ⟨x,H2,I2,rx,q2⟩=>thn (hi pins s2 σ H2 _ I2 q2) λ iv s3 ⟨y,H3,I3,ry,a,H4,ex,g,q3⟩=>?_) hs
 subst ex
 obtain rfl:u=Value.ref a:=rx
 exact x5g hu I3 g ry rv λ s4 I4=>⟨σ,H4,I4,q3⟩
end
theorem x9m {P:Program}{w:World}{H:Hp}(h:Heap) (hb:sysModules < h.objs.size):ObjOk P w H (h.push { cls:=.type "dict",data:=.dict #[] }) h.objs.size (.dK []) :=
 ⟨Nat.zero_le _,beq_eq_false_iff_ne.mpr (Ne.symm (Nat.ne_of_lt hb)),[],.nil,Heap.DictOf.new h⟩
def w0d:TE:=λ _ H Q=>∀p,H p=none->Q (.ref p) (upd H p (.dK []))
def w5o:TE:=λ _ H Q=>∀p,H p=none->Q (.ref p) (upd H p (.dT []))
section
variable {X:Cx}{pos:Pos}
theorem x7m:PE X (.Dict [] [] pos) w0d:=λ pins s σ H Q I h =>
 wpAny_Dict_empty ⟨.ref s.heap.objs.size,_,I.laid (a:=s.heap.objs.size) (o:=.dK []) (t':=s.toks) (λ _ _ q=>Heap.get?_push_of_some _ q) (Nat.le_refl _) (x9m s.heap I.big),rfl,h _ (I.hok.fresh (Nat.le_refl _))⟩
end
def x0q:List (TE × TE)->St->Hp->(List (V × V)->Hp->Prop)->Prop
 | [],_,H,Q=>Q [] H
 | (tk,tv)::r,σ,H,Q=>tk σ H λ x H1=>tv σ H1 λ y H2=>x0q r σ H2 λ ps H3=>Q ((x,y)::ps) H3
def w7o (kvs more:List (Key × V)):List (Key × V):=more.foldl (λ acc kv=>z9c acc kv.1 kv.2) kvs
def w9z (trs:List (TE × TE)):TE:=λ σ H Q=>∀p,H p=none->x0q trs σ (upd H p (.dK [])) λ ps H2=>H2 p=some (.dK [])/\∃kvs:List (Key × V),ps=kvs.map (λ kv=>(kV kv.1,kv.2))/\kvs.length≤15/\Q (.ref p) (upd H2 p (.dK (w7o [] kvs)))
structure M1 (X:Cx) (o:Expr) (m:Str) (apos:Pos) (e:Expr) (cpos:Pos):Prop where
 base:attributeBase o m X.env (eval o X.env)=eval o X.env
 few:((backTo cpos (starEach [e] X.env)).all (λ x=>!x.1) && (backToKw cpos (keywordEach [] X.env)).all (λ x=>x.1.isSome)
  && decide (([e]:List Expr).length+([]:List Keyword).length+(if ([]:List Keyword).isEmpty then 0 else 1) < 30))=true
 line:(apos.endLine == cpos.line)=true
 trees:backTo cpos (starEach [e] X.env)=[(false,eval e X.env)]
structure M2 (X:Cx) (o:Expr) (m:Str) (apos:Pos) (e f:Expr) (cpos:Pos):Prop where
 base:attributeBase o m X.env (eval o X.env)=eval o X.env
 few:((backTo cpos (starEach [e,f] X.env)).all (λ x=>!x.1) && (backToKw cpos (keywordEach [] X.env)).all (λ x=>x.1.isSome)
  && decide (([e,f]:List Expr).length+([]:List Keyword).length+(if ([]:List Keyword).isEmpty then 0 else 1) < 30))=true
 line:(apos.endLine == cpos.line)=true
 trees:backTo cpos (starEach [e,f] X.env)=[(false,eval e X.env),(false,eval f X.env)]
def IsD (H:Hp) (a:Addr):Prop:=(∃kvs,Rd H a (.dK kvs))\/∃kvs,Rd H a (.dT kvs)
theorem w8c {X:Cx}{pins:List (Addr × Obj)}{σ:St}{H:Hp}{s:Shared}{a:Addr}(I:Inv X pins σ H s) (d:IsD H a) :
  s.TypeIs (.ref a) "dict" /\ (∀b,Value.ref a=.ref b->∃ob,s.heap.get? b=some ob/\ob.dict=none)/\(a == sysModules)=false:=by
 rcases d with ⟨kvs,e⟩ | ⟨kvs,e⟩
 ·obtain ⟨_,hd,vs,_,dd⟩:=x9l I.hok e
  refine ⟨dd.typeIs,λ b q=>?_,hd⟩
  cases q
  obtain ⟨ob,_,_,h1,h2,_⟩:=dd
  exact ⟨ob,h1,h2.2.1⟩
 ·obtain ⟨_,hd,xs,_,dd⟩:=x9k I.hok e
  refine ⟨dd.typeIs,λ b q=>?_,hd⟩
  cases q
  obtain ⟨ob,_,_,h1,h2,_⟩:=dd
  exact ⟨ob,h1,h2.2.1⟩
section
variable {X:Cx}{pins:List (Addr × Obj)}{σ:St}{H:Hp}{s:Shared}{a:Addr}{y d:V}{u r:Value}{o:Option V}{A:Around}{E:Value->Shared->Prop}
theorem w8x {Q:Value->Shared->Prop}(hu:A.units+1 < cLine) (I:Inv X pins σ H s) (g:DGet H a y o) (ry:RelV y u) (h:∀w' s',Inv X pins σ H s'->RelV (o.getD .non) w'->Q w' s') :
  wpAny (model X.prog X.w) A (call (.builtin "dict.get") [.ref a,u]) Q E s:=by
 rcases g with ⟨kvs,k,e,ey,l⟩ | ⟨kvs,k,b,e,ey,eb,l⟩
 ·subst ey
  obtain ⟨z,hd,vs,rel,dd⟩:=x9l I.hok e
  refine call_meetsIn PySem.F.slot_dict_get dd.typeIs PySem.F.entry_dict_get (PySem.F.args_dict_get_2 _ _) (meets_dict_get (z1y X.prog X.w) a (x8q ry) hd) ⟨_,dd.mapOf,h _ _ (I.tok _) ?_⟩
  rw [l]
  exact (rel.val k).getD rfl
 ·subst ey
  cases (show u=Value.ref b from ry)
  obtain ⟨z,hd,xs,rel,dd⟩:=x9k I.hok e
  refine call_meetsIn PySem.F.slot_dict_get dd.typeIs PySem.F.entry_dict_get (PySem.F.args_dict_get_2 _ _) (meetsH_dict_get (tupleKind (z1y X.prog X.w)) a b hd) ⟨tupleKind_room_in1 hu,k,xs,y7s I.hok eb,dd,h _ _ (I.tok _) ?_⟩
  rw [l]
  exact (rel.val k).getD rfl
end
def w0e (td ty:TE):TE:=λ σ H Q=>td σ H λ x H1=>∃a,x=.ref a/\IsD H1 a/\ty σ H1 λ y H2=>∃o,DGet H2 a y o/\Q (o.getD .non) H2
section
variable {X:Cx}{o e f:Expr}{apos cpos:Pos}{td ty tx:TE}
theorem y7d (hu:X.A.units+1 < cLine) (ho:PE X o td) (he:PE X e ty) (m:M1 X o "get" apos e cpos):PE X (.Call (.Attribute o "get" apos) [e] [] cpos) (w0e td ty):=by
 intro pins s σ H Q I h
 refine wpAny_Call_method m.base m.few m.line PySem.F.plainAttrs_dict PySem.F.slot_dict_get PySem.F.type_dict_get (thn (ho pins s σ H _ I h) λ u s1 ⟨x,H1,I1,rx,a,ex,d,q1⟩=>?_)
 subst ex
 obtain rfl:u=Value.ref a:=rx
 obtain ⟨t1,t2,_⟩:=w8c I1 d
 refine ⟨t1,t2,?_⟩
 rw [m.trees]
 refine Calls.callWith_builtin rfl (Calls.evalArgs_plain (Calls.spliced_cons (thn (he pins s1 σ H1 _ I1 q1) λ iv s2 ⟨y,H2,I2,ry,ov,g,q2⟩=>Calls.spliced_nil ?_)))
 exact w8x hu I2 g ry λ w' s3 I3 rw'=>⟨_,H2,I3,rw',q2⟩
end
section
variable {X:Cx}{pins:List (Addr × Obj)}{σ:St}{H:Hp}{s:Shared}{a:Addr}{kvs:List (Key × V)}{A:Around}{E:Value->Shared->Prop}
end
section
variable {X:Cx}{pins:List (Addr × Obj)}{σ:St}{H:Hp}{s:Shared}{a:Addr}{y:V}{u:Value}{A:Around}{E:Value->Shared->Prop}
end
section
variable {X:Cx}
end
section
variable {κ:Type} [DecidableEq κ]
end
def KTab (P:Program) (w:World) (K:W.Frag) (d:Addr) (kvs:List (Str × Addr)):Prop:=(d == sysModules)=false/\∀h:Heap,K.In h->h.DictOf (z1y P w) d (kvs.map λ p=>((Sum.inr p.1:Key),Value.ref p.2))
def v3x (pm:Params) (l:List (Str × Tok × Addr)):List DictEntry:=l.map λ p=>⟨PyData.keyHash pm p.1,.str p.1 p.2.1,.ref p.2.2⟩
theorem KTab.mk {P:Program}{w:World}{K:W.Frag}{d:Addr}{l:List (Str × Tok × Addr)}{es:Array DictEntry}{n:Nat}(hd:(d == sysModules)=false) (hl:K.lookup d=some { cls:=.type "dict",data:=.dict es n }) (he:es.toList=v3x w.params l) (nd:(l.map (·.1)).Nodup) :
  KTab P w K d (l.map λ p=>(p.1,p.2.2)):=by
 refine ⟨hd,λ h KI=>⟨_,es,n,KI d _ hl,⟨rfl,rfl,rfl⟩,rfl,?_,?_,?_⟩⟩
 ·intro e hm
  have hm:e∈es.toList:=Array.mem_toList_iff.mpr hm
  rw [he] at hm
  obtain ⟨p,_,rfl⟩:=List.mem_map.mp hm
  exact ⟨Sum.inr p.1,z4u p.1 p.2.1,rfl⟩
 ·rw [he]
  clear he nd hl
  induction l with
  | nil=>exact .nil
  | cons p r ih=>exact .cons (z4u p.1 p.2.1) rfl ih
 ·rw [List.map_map,List.map_map]
  have e:((λ x:Key × Value=>x.1) ∘ (λ p:Str × Addr=>((Sum.inr p.1:Key),Value.ref p.2))) ∘ (λ p:Str × Tok × Addr=>(p.1,p.2.2))=(λ x:Str=>(Sum.inr x:Key)) ∘ λ p=>p.1:=rfl
  rw [← List.map_map] at *
  have z:(l.map λ p=>(Sum.inr p.1:Key)).Nodup:=by
   have:(l.map λ p=>(Sum.inr p.1:Key))=(l.map (·.1)).map (λ x:Str=>(Sum.inr x:Key)):=by rw [List.map_map];rfl
   rw [this]
   exact List.Pairwise.map _ (λ a b (h:a≠b) z=>h (Sum.inr.inj z)) nd
  simpa [List.map_map,Function.comp_def] using z
theorem y7p {kvs:List (Str × Addr)}{x:Str}:valueAt (kvs.map λ p=>((Sum.inr p.1:Key),Value.ref p.2)) (Sum.inr x)=(kvs.lookup x).map Value.ref:=by
 induction kvs with
 | nil=>rfl
 | cons p r ih =>
  obtain ⟨k,a⟩:=p
  unfold valueAt at *
  rw [List.map_cons,List.find?_cons,List.lookup_cons]
  by_cases e:x=k
  ·subst e;simp
  ·have h1:decide ((Sum.inr k:Key)=Sum.inr x)=false:=decide_eq_false λ z=>e (Sum.inr.inj z).symm
   have h2:(x == k)=false:=beq_eq_false_iff_ne.mpr e
   rw [h2]
   simp only [h1]
   exact ih
section
variable {X:Cx}
def w6e (kvs:List (Str × Addr)):V->Hp->VK->Prop:=λ y H Q=>∃x a,y=.str x/\kvs.lookup x=some a/\Q (.ref a) H
def w5m (kvs:List (Str × Addr)) (te:TE):TE:=λ σ H Q=>te σ H λ y H1=>w6e kvs y H1 Q
theorem w2o {n:Str}{i:Expr}{np pos:Pos}{d:Addr}{kvs:List (Str × Addr)}{te:TE}(hg:Gl X n) (hm:X.mg n=some (.ref d)) (T:KTab X.prog X.w X.K d kvs) (hi:PE X i te) (hs:v2y i) (hdb:(n == ("__debug__" : Str))=false:=by decide) :
  PE X (.Subscript (.Name n np) i pos) (w5m kvs te):=by
 intro pins s σ H Q I h
 refine w1o PySem.F.slot_dict_getitem.lookup hs (z3o I hg hm (thn (hi pins s σ H _ I h) λ iv s2 ⟨y,H2,I2,ry,x,a,ey,l,q⟩=>?_) hdb)
 subst ey
 obtain ⟨t,rfl⟩:=ry
 have dd:=T.2 s2.heap I2.kIn
 refine ⟨dd.typeIs,wpAny_getItem_of (z4u x t) dd.mapOf (v:=.ref a) (by rw [y7p,l];rfl) ⟨.ref a,H2,I2.tok _,rfl,q⟩⟩
def v2a (kvs:List (Str × Addr)) (te:TE):TE:=λ σ H Q=>te σ H λ y H1=>∃x,y=.str x/\Q (.bl (kvs.lookup x).isSome) H1
theorem w7c {n:Str}{i:Expr}{np:Pos}{d:Addr}{kvs:List (Str × Addr)}{te:TE}(hg:Gl X n) (hm:X.mg n=some (.ref d)) (T:KTab X.prog X.w X.K d kvs) (hi:PE X i te) (hdb:(n == ("__debug__" : Str))=false:=by decide) :
  PC X .In i (.Name n np) (v2a kvs te):=by
 intro pins s σ H Q I h
 refine thn (hi pins s σ H _ I h) λ iv s1 ⟨y,H1,I1,ry,x,ey,q⟩=>z3o I1 hg hm ?_ hdb
 subst ey
 obtain ⟨t,rfl⟩:=ry
 have dd:=T.2 s1.heap I1.kIn
 refine wpAny_in_of (k:=Sum.inr x) (show (z1y X.prog X.w).is (Sum.inr x) (Value.str x t)=true from z4u x t) T.1 dd.mapOf ?_
 rw [y7p,Option.isSome_map]
 exact ⟨.bl _,H1,I1.tok _,rfl,q⟩
end
def KTup (K:W.Frag) (a:Addr) (xs:List V):Prop:=∃(o:Obj) (its:Array Value) (n:Nat),K.lookup a=some o/\o.cls=.type "tuple" /\ o.data=.seq its n/\its.size≤sizeLine/\Vals xs its.toList
theorem KTup.sq {K:W.Frag}{a:Addr}{xs:List V}(h:KTup K a xs) {H:Hp}:SqT K H a xs:=.inr h
section
variable {pg:Program}{wd:World}{B:Around}{X0:Value->Shared->Prop}{s0:Shared}
end
def w4p (K:W.Frag) (a b:Addr):It:=⟨λ i H=>∃xs ys x y,SqL K H a xs/\SqT K H b ys/\xs[i]?=some x/\ys[i]?=some y,
 λ i H v H'=>∃T x y,v=.ref T/\H T=none/\H'=upd H T (.tup [x,y])/\∀xs ys,SqL K H a xs->SqT K H b ys->xs[i]?=some x/\ys[i]?=some y,λ i H=>∃xs ys,SqL K H a xs/\SqT K H b ys/\(xs.length≤i\/ys.length≤i)⟩
section
variable {X:Cx}{es:List Expr}{x1:Nat}{pp:Pos}
def w8f (K:W.Frag) (ta:TA):TI:=λ σ H R=>ta σ H λ vs H1=>∃a b xs ys,vs=[.ref a,.ref b]/\SqL K H1 a xs/\SqT K H1 b ys/\R (w4p K a b) H1
end
def LoopZM (K:PySem.W.Frag) (g:TG) (tb:TS) (D:Ends) (σ:St) (vs:List V) (H1:Hp):Prop:=∃a b xs ys,vs=[.ref a,.ref b]/\SqL K H1 a xs/\SqT K H1 b ys/\∃W:Nat->Nat->St->Hp->Prop,(∃m,W 0 m σ H1)/\∀i m σ H,W i m σ H ->
 ((w4p K a b).stop i H/\D.nx σ H)\/((w4p K a b).go i H/\∃N:St->Hp->Prop,(∀σ' H',N σ' H'->∃m',m' < m/\W (i+1) m' σ' H')/\∀x H',(w4p K a b).yld i H x H'->g x σ H' λ σ2 H2=>tb { D with nx:=N,ct:=N,bk:=D.nx } σ2 H2)
theorem x8z {K:W.Frag}{ta:TA}{g:TG}{tb:TS}{D:Ends}{σ:St}{H:Hp}:y4g (w8f K ta) g tb D σ H=ta σ H λ vs H1=>LoopZM K g tb D σ vs H1:=rfl
theorem LoopZM.mk {K:W.Frag}{a b:Addr}{xs ys:List V}{g:TG}{tb:TS}{D:Ends}{σ:St}{H:Hp}(n:Nat) (hn:n=min xs.length ys.length) (h1:SqL K H a xs) (h2:SqT K H b ys) (Pv:Nat->St->Hp->Prop) (h0:Pv 0 σ H) (hl:∀i σ H,i≤n->Pv i σ H->SqL K H a xs/\SqT K H b ys)
  (hs:∀i x y σ H T,i < n->xs[i]?=some x->ys[i]?=some y->Pv i σ H->H T=none->g (.ref T) σ (upd H T (.tup [x,y])) λ σ2 H2=>tb { D with nx:=Pv (i+1),ct:=Pv (i+1),bk:=D.nx } σ2 H2) (hd:∀σ H,Pv n σ H->D.nx σ H) :
  LoopZM K g tb D σ [.ref a,.ref b] H:=by
 subst hn
 refine ⟨a,b,xs,ys,rfl,h1,h2,λ i m σ H=>m=min xs.length ys.length - i/\i≤min xs.length ys.length/\Pv i σ H,⟨_,rfl,Nat.zero_le _,h0⟩,?_⟩
 rintro i m σ H ⟨rfl,hi,p⟩
 obtain ⟨k1,k2⟩:=hl i σ H hi p
 by_cases hlt:i < min xs.length ys.length
 ·have l1:i < xs.length:=by lia
  have l2:i < ys.length:=by lia
  refine .inr ⟨⟨xs,ys,_,_,k1,k2,List.getElem?_eq_getElem l1,List.getElem?_eq_getElem l2⟩,Pv (i+1),λ σ' H' p'=>⟨min xs.length ys.length - (i+1),by lia,rfl,hlt,p'⟩,λ v H' yy=>?_⟩
  obtain ⟨T,x,y,rfl,hT,rfl,ex⟩:=yy
  obtain ⟨ex1,ex2⟩:=ex xs ys k1 k2
  exact hs i x y σ H T hlt ex1 ex2 p hT
 ·have e:i=min xs.length ys.length:=by lia
  exact .inl ⟨⟨xs,ys,k1,k2,by lia⟩,hd σ H (e ▸ p)⟩
def CompZM (K:PySem.W.Frag) (k:Nat) (js:List Nat) (g:TG) (te:TE) (σ:St) (vs:List V) (H1:Hp) (Q:VK):Prop:=∃a b xs ys,vs=[.ref a,.ref b]/\SqL K H1 a xs/\SqT K H1 b ys/\∃W:Nat->Nat->List V->St->Hp->Prop,(∃m,W 0 m [] (z1k k js σ) H1)/\∀i m zs σ' H',W i m zs σ' H' ->
  ((w4p K a b).stop i H'/\∀p,H' p=none->Q (.ref p) (upd H' p (.lst zs))) \/
  ((w4p K a b).go i H'/\zs.length < sizeLine/\∃N:List V->St->Hp->Prop,(∀zs σ2 H2,N zs σ2 H2->∃m',m' < m/\W (i+1) m' zs σ2 H2)/\∀x H2,(w4p K a b).yld i H' x H2->g x σ' H2 λ σ3 H3=>te σ3 H3 λ v H4=>N (zs++[v]) σ3 H4)
theorem x5k {K:W.Frag}{k:Nat}{js:List Nat}{ta:TA}{g:TG}{te:TE}{σ:St}{H:Hp}{Q:VK}:z4g (w8f K ta) k js g te σ H Q=ta σ H λ vs H1=>CompZM K k js g te σ vs H1 Q:=rfl
theorem CompZM.mk {K:W.Frag}{a b:Addr}{xs ys:List V}{k:Nat}{js:List Nat}{g:TG}{te:TE}{Q:VK}{σ:St}{H:Hp}(n:Nat) (hn:n=min xs.length ys.length) (h1:SqL K H a xs) (h2:SqT K H b ys) (Pv:Nat->List V->St->Hp->Prop) (h0:Pv 0 [] (z1k k js σ) H) (hl:∀i zs σ H,i≤n->Pv i zs σ H->SqL K H a xs/\SqT K H b ys)
  (hs:∀i x y zs σ H T,i < n->xs[i]?=some x->ys[i]?=some y->Pv i zs σ H->H T=none->zs.length < sizeLine/\g (.ref T) σ (upd H T (.tup [x,y])) λ σ3 H3=>te σ3 H3 λ v H4=>Pv (i+1) (zs++[v]) σ3 H4) (hz:∀zs σ H,Pv n zs σ H->∀p,H p=none->Q (.ref p) (upd H p (.lst zs))) (hlen:∀i zs σ H,Pv i zs σ H->zs.length < sizeLine) :
  CompZM K k js g te σ [.ref a,.ref b] H Q:=by
 subst hn
 refine ⟨a,b,xs,ys,rfl,h1,h2,λ i m zs σ H=>m=min xs.length ys.length - i/\i≤min xs.length ys.length/\Pv i zs σ H,⟨_,rfl,Nat.zero_le _,h0⟩,?_⟩
 rintro i m zs σ H ⟨rfl,hi,p⟩
 obtain ⟨k1,k2⟩:=hl i zs σ H hi p
 by_cases hlt:i < min xs.length ys.length
 ·have l1:i < xs.length:=by lia
  have l2:i < ys.length:=by lia
  refine .inr ⟨⟨xs,ys,_,_,k1,k2,List.getElem?_eq_getElem l1,List.getElem?_eq_getElem l2⟩,hlen _ _ _ _ p,Pv (i+1),λ zs' σ' H' p'=>⟨min xs.length ys.length - (i+1),by lia,rfl,hlt,p'⟩,λ v H' yy=>?_⟩
  obtain ⟨T,x,y,rfl,hT,rfl,ex⟩:=yy
  obtain ⟨ex1,ex2⟩:=ex xs ys k1 k2
  exact (hs i x y zs σ H T hlt ex1 ex2 p hT).2
 ·have e:i=min xs.length ys.length:=by lia
  exact .inl ⟨⟨xs,ys,k1,k2,by lia⟩,hz zs σ H (e ▸ p)⟩
def CompTI (K:PySem.W.Frag) (k:Nat) (js:List Nat) (g:TG) (tc:TT) (te:TE) (σ:St) (v:V) (H1:Hp) (Q:VK):Prop:=∃a,v=.ref a/\(∃xs,SqT K H1 a xs)/\∃W:Nat->Nat->List V->St->Hp->Prop,(∃m,W 0 m [] (z1k k js σ) H1)/\∀i m zs σ' H',W i m zs σ' H' ->
  ((Itt K a).stop i H'/\∀p,H' p=none->Q (.ref p) (upd H' p (.lst zs))) \/
  ((Itt K a).go i H'/\zs.length < sizeLine/\∃N:List V->St->Hp->Prop,(∀zs σ2 H2,N zs σ2 H2->∃m',m' < m/\W (i+1) m' zs σ2 H2)/\∀x H2,(Itt K a).yld i H' x H2->g x σ' H2 λ σ3 H3=>tc σ3 H3 λ b H4=>if b=true then te σ3 H4 λ v H5=>N (zs++[v]) σ3 H5 else N zs σ3 H4)
theorem x5o {K:W.Frag}{k:Nat}{js:List Nat}{tx:TE}{g:TG}{tc:TT}{te:TE}{σ:St}{H:Hp}{Q:VK}:z6y (w9n K tx) k js g tc te σ H Q=tx σ H λ v H1=>CompTI K k js g tc te σ v H1 Q:=rfl
theorem CompTI.mk {K:W.Frag}{a:Addr}{xs:List V}{k:Nat}{js:List Nat}{g:TG}{tc:TT}{te:TE}{Q:VK}{σ:St}{H:Hp}(h1:SqT K H a xs) (Pv:Nat->List V->St->Hp->Prop) (h0:Pv 0 [] (z1k k js σ) H) (hl:∀i zs σ H,i≤xs.length->Pv i zs σ H->SqT K H a xs/\zs.length < sizeLine)
  (hs:∀i x zs σ H,xs[i]?=some x->Pv i zs σ H->g x σ H λ σ3 H3=>tc σ3 H3 λ b H4=>if b=true then te σ3 H4 λ v H5=>Pv (i+1) (zs++[v]) σ3 H5 else Pv (i+1) zs σ3 H4) (hz:∀zs σ H,Pv xs.length zs σ H->∀p,H p=none->Q (.ref p) (upd H p (.lst zs))) :
  CompTI K k js g tc te σ (.ref a) H Q:=by
 refine ⟨a,rfl,⟨xs,h1⟩,λ i m zs σ H=>m=xs.length - i/\i≤xs.length/\Pv i zs σ H,⟨_,rfl,Nat.zero_le _,h0⟩,?_⟩
 rintro i m zs σ H ⟨rfl,hi,p⟩
 obtain ⟨k1,k2⟩:=hl i zs σ H hi p
 by_cases hlt:i < xs.length
 ·refine .inr ⟨⟨xs,_,k1,List.getElem?_eq_getElem hlt⟩,k2,Pv (i+1),λ zs' σ' H' p'=>⟨xs.length - (i+1),by lia,rfl,hlt,p'⟩,λ v H' yy=>?_⟩
  obtain ⟨rfl,ex⟩:=yy
  exact hs i v zs σ _ (ex xs k1) p
 ·have e:i=xs.length:=by lia
  exact .inl ⟨⟨xs,k1,by lia⟩,hz zs σ H (e ▸ p)⟩
section
variable {X:Cx}
def w0m (K:W.Frag):V->List V->Hp->VK->Prop:=λ x xs H Q=>∃(z:Str) (l:Addr) (ys:List Str),x=.str z/\z.length=0/\xs=[.ref l]/\SqL K H l (ys.map V.str)/\ys.length≤100/\(∀y∈ys,okS 10 y)/\(okS 1000 (Builtin.Str.glued z ys)->Q (.str (Builtin.Str.glued z ys)) H)
theorem x8g:MtR X "str.join" (w0m X.K):=by
 intro pins s σ H x xs v us Q I rx rv h
 obtain ⟨z,l,ys,rfl,hz,rfl,hq,hl,hy,q⟩:=h
 obtain ⟨t,rfl⟩:=rx
 obtain ⟨u,rfl,ru⟩:=z5r rv
 cases (show u=Value.ref l from ru)
 obtain ⟨its,r,pl,hs⟩:=I.list hq
 have s20:20000≤sizeLine:=by rw [sizeLine_eq];decide
 obtain ⟨ps,e1,e2⟩:∃ps:List (Str × Tok),its=strValues ps/\ps.map (·.1)=ys:=by
  clear hq pl hs hl hy q
  induction ys generalizing its with
  | nil=>cases r;exact ⟨[],rfl,rfl⟩
  | cons y r2 ih =>
   cases r with
   | cons a b =>
    obtain ⟨ty,rfl⟩:=a
    obtain ⟨ps,e1,e2⟩:=ih _ b
    exact ⟨(y,ty)::ps,by rw [e1];rfl,by rw [List.map_cons,e2]⟩
 subst e1 e2
 have tot:∀(ks:List Str) (n:Nat),(∀y∈ks,okS 10 y)->ks.foldl (λ (n:Nat) (y:Str)=>n+y.length+z.length) n≤n+10 * ks.length:=by
  intro ks
  induction ks with
  | nil=>intro n _;simp
  | cons y r ih =>
   intro n h
   have:=ih (n+y.length+z.length) λ w hw=>h w (List.mem_cons_of_mem _ hw)
   have oy:=(h y (List.mem_cons_self ..)).1
   simp only [List.foldl_cons,List.length_cons]
   lia
 have tl:Builtin.Str.tooLong ((ps.map (·.1)).toArray.foldl (λ (n:Nat) (y:Str)=>n+y.length+z.length) 0)=false:=by
  have:=tot (ps.map (·.1)) 0 hy
  simp only [Builtin.Str.tooLong,List.size_toArray,List.foldl_toArray',decide_eq_false_iff_not]
  lia
 refine call_meets F.slot_str_join (typeIs_str s z t) F.entry_str_join (F.args_str_join_2 _ _) (meets_str_join_list z t l ps tl) ⟨pl.isList,?_⟩
 have og:=x7z z hz (ps.map (·.1)) hl hy
 match ps,hy,og,q with
 | [p],hy,_,q=>exact ⟨.str p.1,H,I,⟨_,rfl⟩,q ((hy p.1 (by simp)).mono (by decide))⟩
 | [],_,og,q=>exact ⟨by have:=og.1;lia,.str _,H,I.tok _,⟨_,rfl⟩,q og⟩
 | a::b::r,_,og,q=>exact ⟨by have:=og.1;lia,.str _,H,I.tok _,⟨_,rfl⟩,q og⟩
theorem w2i {es:List Expr}{k:Nat}{pos:Pos}{t:TGs}{n:Nat}{K:W.Frag}(hK:X.K=K) (h:PG X (.Tuple es k pos) (w8m X.K n t)):PG X (.Tuple es k pos) (w8m K n t):=hK ▸ h
theorem z6c:z4l X (.builtin "isinstance") (λ xs H Q=>∃x n t,xs=[x,.ty n]/\n∈["int","bool","tuple","list","str"]/\(tyS x=some t\/∃a ys,x=.ref a/\H a=some (.tup ys)/\t="tuple")/\Q (.bl (w0u t n)) H):=by
 intro pins s σ H xs us Q I r h
 obtain ⟨x,n,t,rfl,hn,hx,q⟩:=h
 rcases hx with hx | ⟨a,ys,rfl,ha,rfl⟩
 ·refine x5x pins s σ H _ us Q I r ⟨x,n,rfl,⟨hn,by rw [hx];rfl⟩,?_⟩
  unfold x6n
  rw [hx]
  exact q
 ·refine y8h pins s σ H _ us Q I r ⟨.ref a,n,.type "tuple",w0u "tuple" n,rfl,.tup ha,?_,q⟩
  simp only [List.mem_cons,List.not_mem_nil,or_false] at hn
  rcases hn with rfl | rfl | rfl | rfl | rfl<;>exact y7q (by decide +kernel)
end
theorem v3z {X:Cx}{scope:Scope}{cl:List (Str × Addr)}{x0 x1 x2:Str}{j0 j1 j2:Nat}(c0:Cap X scope cl x0 j0) (c1:Cap X scope cl x1 j1) (c2:Cap X scope cl x2 j2):∀(i:Nat) x j,[x0,x1,x2][i]?=some x->[j0,j1,j2][i]?=some j->Cap X scope cl x j
 | 0,_,_,h1,h2=>by cases h1;cases h2;exact c0
 | 1,_,_,h1,h2=>by cases h1;cases h2;exact c1
 | 2,_,_,h1,h2=>by cases h1;cases h2;exact c2
 | _+3,_,_,h1,_=>by cases h1
theorem z4w {cells:List (Str × Addr)}{y z u:Str}{a b d:Addr}(h:cells.lookup y=some a) (h2:cells.lookup z=some b) (h3:cells.lookup u=some d):∀x c,[(y,a),(z,b),(u,d)].lookup x=some c->cells.lookup x=some c:=λ x c e=>by
 rcases List.mem_cons.mp (PySem.mem_of_lookup e) with q | q
 ·cases q;exact h
 ·rcases List.mem_cons.mp q with q | q
  ·cases q;exact h2
  ·cases List.mem_singleton.mp q;exact h3
structure FunD (K:W.Frag) (x qual:Str) (st:Stmt) (dV:Addr) (its:Array Value) (f:Addr) (fd:FuncData):Prop where
 ex:∃(oc:Value) (od:Option Addr) (kV doc pm:Value) (an:Option Addr) (cdv ct:Value) (osl:Array (Option Value)),
  fd=W.fnOf x qual (z2d st) (z1a st) (z0m st) (.ref dV) kV doc pm an cdv ct/\K.lookup f=some ⟨oc,od,.func fd,osl⟩/\W.codeIn K cdv qual=true
 kp:W.keepIn K (.ref f)=true
 dt:∃(o:Obj) (n:Nat),K.lookup dV=some o/\o.data=.seq its n
section
variable {P:Program}{w:World}{K:W.Frag}{mg:Str->Option Value}{base:Heap}
theorem FunD.ok {x qual:Str}{st:Stmt}{dV:Addr}{its:Array Value}{f:Addr}{fd:FuncData}{N ps:List Str}{k:Nat}{sp:Sp}(F:FunD K x qual st dV its f fd) (S:FnScope N ps (z0m st)) (len:∀vs H Q E,sp vs H Q E->vs.length=ps.length)
  (hbody:∀(cdv:Value) (A:Around) (outer:List Env) (s:Shared) (H:Hp) (vs:List V) (Q:VK) (E:XK),Room k (A.deeper (envOfC qual (z0m st) s.heap.objs.size f cdv))->sp vs H Q E ->
   ∃t,PSs (y5o CX0 P w K mg base N qual (z0m st) f cdv A outer s H E).nox (z1a st) t/\t { nx:=λ _ H'=>Q .non H',rt:=Q } (start N vs) H):FnOk P w K mg base CX0 (k+1) f fd ps sp:=by
 obtain ⟨oc,od,kV,doc,pm,an,cdv,ct,osl,rfl,lk,hcd⟩:=F.ex
 refine w3t lk hcd S len λ A outer s H vs Q E hr hsp=>?_
 obtain ⟨t,h,q⟩:=hbody cdv A outer s H vs Q E hr hsp
 exact ⟨t,h.nox,q⟩
theorem FunD.binds {x qual:Str}{st:Stmt}{dV:Addr}{its:Array Value}{f:Addr}{fd:FuncData}{ps:List Str}{ds:List Value}(F:FunD K x qual st dV its f fd)
  (h:∀(kV doc pm:Value) (an:Option Addr) (cdv ct:Value) (us:List Value),(us++ds).length=ps.length->∃k,bindArgs (W.fnOf x qual (z2d st) (z1a st) (z0m st) (.ref dV) kV doc pm an cdv ct) ⟨us,[]⟩=seqItems? (.ref dV) >>= k/\k (some its)=pure (ps.zip (us++ds))):Binds K fd ps ds:=by
 obtain ⟨oc,od,kV,doc,pm,an,cdv,ct,osl,rfl,lk,hcd⟩:=F.ex
 obtain ⟨o,n,ho,hs⟩:=F.dt
 intro s us KI hl
 obtain ⟨k,h1,h2⟩:=h kV doc pm an cdv ct us hl
 exact .of_defaults (T:=dV) rfl (KI dV o ho) hs h1 h2
end
structure CalleeD (P:Program) (w:World) (K:W.Frag) (mg:Str->Option Value) (base:Heap) (CX:CXT) (k:Nat) (x:Str) (ps:List Str) (dvs:List V) (sp:Sp):Prop where
 has:∃(f:Addr) (fd:FuncData) (ds:List Value),FnOk P w K mg base CX k f fd ps sp/\mg x=some (.ref f)/\W.keepIn K (.ref f)=true/\Binds K fd ps ds/\Vals dvs ds
theorem CalleeD.mono {P:Program}{w:World}{K:W.Frag}{mg:Str->Option Value}{base:Heap}{CX:CXT}{j k:Nat}{x:Str}{ps:List Str}{dvs:List V}{sp:Sp}(c:CalleeD P w K mg base CX j x ps dvs sp) (h:j≤k):CalleeD P w K mg base CX k x ps dvs sp :=
 let ⟨f,fd,ds,ok,m,kp,b,v⟩:=c.has;⟨⟨f,fd,ds,ok.mono h,m,kp,b,v⟩⟩
section
variable {X:Cx}{CX:CXT}{k:Nat}{ps:List Str}{dvs:List V}{sp:Sp}{E:XK}{x:Str}{p pos:Pos}{e:Expr}{es:List Expr}{t:TA}
end
def y0c (z:Str) (ys:List Str):Nat:=ys.foldl (λ (n:Nat) (y:Str)=>n+y.length+z.length) 0
theorem x6o (z:Str):∀(ys:List Str) (n:Nat),ys.foldl (λ (n:Nat) (y:Str)=>n+y.length+z.length) n=n+y0c z ys:=by
 intro ys
 unfold y0c
 induction ys with
 | nil=>intro n;rfl
 | cons y r ih=>intro n;rw [List.foldl_cons,List.foldl_cons,ih,ih (0+y.length+z.length)];lia
theorem z3c (z y:Str) (ys:List Str):y0c z (y::ys)=y.length+z.length+y0c z ys:=by
 show ys.foldl _ (0+y.length+z.length)=_
 rw [x6o];lia
theorem x0m (z:Str):∀(xs ys:List Str),y0c z (xs++ys)=y0c z xs+y0c z ys
 | [],ys=>by show _=0+_;simp
 | x::xs,ys=>by rw [List.cons_append,z3c,z3c,x0m z xs ys];lia
theorem z9n {z:Str}{k:Nat}:∀ {ys:List Str},(∀y∈ys,y.length≤k)->y0c z ys≤(k+z.length) * ys.length
 | [],_=>Nat.zero_le _
 | y::ys,h=>by
  have:=z9n (z:=z) (ys:=ys) λ x hx=>h x (List.mem_cons_of_mem _ hx)
  have h1:=h y (List.mem_cons_self ..)
  rw [z3c,List.length_cons,Nat.mul_succ];lia
theorem z4f (z:Str) (ys:List Str):(Builtin.Str.glued z ys).length≤y0c z ys:=by
 cases ys with
 | nil=>exact Nat.zero_le _
 | cons y r =>
  have all:∀(r:List Str) (a:Array Nat),(r.foldl (λ acc p=>acc++z.cps++p.cps) a).size=a.size+y0c z r:=by
   intro r
   induction r with
   | nil=>intro a;rfl
   | cons p r ih =>
    intro a
    rw [List.foldl_cons,ih,z3c]
    have e1:p.length=p.cps.size:=rfl
    have e2:z.length=z.cps.size:=rfl
    simp only [Array.size_append];lia
  show (r.foldl (λ acc p=>acc++z.cps++p.cps) y.cps).size≤_
  rw [all,z3c]
  have e1:y.length=y.cps.size:=rfl
  lia
section
variable {X:Cx}
def w0l (K:W.Frag):V->List V->Hp->VK->Prop:=λ x xs H Q=>∃(z:Str) (l:Addr) (ys:List Str),x=.str z/\xs=[.ref l]/\SqL K H l (ys.map V.str)/\y0c z ys≤4000000/\Q (.str (Builtin.Str.glued z ys)) H
theorem y1i:MtR X "str.join" (w0l X.K):=by
 intro pins s σ H x xs v us Q I rx rv h
 obtain ⟨z,l,ys,rfl,rfl,hq,hl,q⟩:=h
 obtain ⟨t,rfl⟩:=rx
 obtain ⟨u,rfl,ru⟩:=z5r rv
 cases (show u=Value.ref l from ru)
 obtain ⟨its,r,pl,hs⟩:=I.list hq
 have s20:4000000≤sizeLine:=by rw [sizeLine_eq];decide
 obtain ⟨ps,e1,e2⟩:∃ps:List (Str × Tok),its=strValues ps/\ps.map (·.1)=ys:=by
  clear hq pl hs hl q
  induction ys generalizing its with
  | nil=>cases r;exact ⟨[],rfl,rfl⟩
  | cons y r2 ih =>
   cases r with
   | cons a b =>
    obtain ⟨ty,rfl⟩:=a
    obtain ⟨ps,e1,e2⟩:=ih _ b
    exact ⟨(y,ty)::ps,by rw [e1];rfl,by rw [List.map_cons,e2]⟩
 subst e1 e2
 have tl:Builtin.Str.tooLong ((ps.map (·.1)).toArray.foldl (λ (n:Nat) (y:Str)=>n+y.length+z.length) 0)=false:=by
  have:y0c z (ps.map (·.1))≤4000000:=hl
  unfold y0c at this
  simp only [Builtin.Str.tooLong,List.size_toArray,List.foldl_toArray',decide_eq_false_iff_not]
  lia
 refine call_meets F.slot_str_join (typeIs_str s z t) F.entry_str_join (F.args_str_join_2 _ _) (meets_str_join_list z t l ps tl) ⟨pl.isList,?_⟩
 have og:=Nat.le_trans (z4f z (ps.map (·.1))) hl
 match ps,og,q with
 | [p],_,q=>exact ⟨.str p.1,H,I,⟨_,rfl⟩,q⟩
 | [],og,q=>exact ⟨Nat.le_trans og s20,.str _,H,I.tok _,⟨_,rfl⟩,q⟩
 | a::b::r,og,q=>exact ⟨Nat.le_trans og s20,.str _,H,I.tok _,⟨_,rfl⟩,q⟩
def v0i:R2:=λ x y H Q=>∃a n,x=.str a/\y=.int n/\0≤n/\n≤100/\a.length≤10/\∀z:Str,z.length=a.length * n.toNat->Q (.str z) H
def v2i:R2:=λ x y H Q=>∃p xs i v,x=.ref p/\y=.int i/\(H p=some (.lst xs)\/H p=some (.tup xs))/\atI xs i=some v/\Q v H
theorem w3h:IxR X v2i:=by
 intro value slice pins s σ H x y v u Q I rx ry h hs
 obtain ⟨p,xs,i,z,e1,e2,hh | hh,ha,q⟩:=h
 ·exact z0z value slice pins s σ H x y v u Q I rx ry ⟨p,xs,i,z,e1,e2,hh,ha,q⟩ hs
 ·exact z1h value slice pins s σ H x y v u Q I rx ry ⟨p,xs,i,z,e1,e2,hh,ha,q⟩ hs
end
section
open PySem.Builtin PySem.Builtin.Str
def z8m (c:Nat):List Nat->Nat->List Nat
 | [],_=>[]
 | d::r,a=>if d=c then a::z8m c r (a+1) else z8m c r (a+1)
def z0x (c:Nat):List Nat->List (List Nat)
 | []=>[[]]
 | d::r=>if d=c then []::z0x c r else match z0x c r with
  | []=>[[d]]
  | p::ps=>(d::p)::ps
theorem z3h (c:Nat):∀L:List Nat,∃p ps,z0x c L=p::ps
 | []=>⟨_,_,rfl⟩
 | d::r=>by
  obtain ⟨p,ps,e⟩:=z3h c r
  unfold z0x
  split
  ·exact ⟨_,_,rfl⟩
  ·rw [e];exact ⟨_,_,rfl⟩
theorem y1d (x:Str) (c:Nat):∀(m i:Nat) (st:Array Nat × Nat),i+m=x.length+1->st.2≤i->st.1.size≤i ->
  (forIn (List.range' i m) st (StrLaws.occBody x ⟨#[c]⟩ x.length (x.length+1))).run.fst.toList=st.1.toList++z8m c (x.cps.toList.drop i) i
 | 0,i,st,hi,_,_=>by
  have e:x.cps.toList.drop i=[]:=List.drop_eq_nil_of_le (by simp [Str.length] at hi ⊢;lia)
  rw [e];simp [z8m]
 | m+1,i,st,hi,h1,h2=>by
  rw [List.range'_succ,List.forIn_cons]
  have key:=StrLaws.subAt_one x c i
  unfold StrLaws.occBody
  cases e:x.cps.toList[i]? with
  | none =>
   have en:x.cps.toList.drop i=[]:=List.drop_eq_nil_of_le (List.getElem?_eq_none_iff.mp e)
   rw [if_neg (λ z=>by have:=key.mp ⟨z.1.2,z.2⟩;rw [e] at this;cases this)]
   refine (y1d x c m (i+1) _ (by lia) (by show st.2≤i+1;lia) (by show st.1.size≤i+1;lia)).trans ?_
   rw [en,List.drop_eq_nil_of_le (by have:=List.getElem?_eq_none_iff.mp e;lia)]
   simp [z8m]
  | some d =>
   have hl:=(List.getElem?_eq_some_iff.mp e).1
   have ed:x.cps.toList.drop i=d::x.cps.toList.drop (i+1):=by
    rw [List.drop_eq_getElem_cons hl];congr 1;exact (List.getElem?_eq_some_iff.mp e).2
   by_cases z:d=c
   ·subst z
    obtain ⟨k1,k2⟩:=key.mpr e
    rw [if_pos ⟨⟨⟨by lia,h1⟩,k1⟩,k2⟩]
    refine (y1d x d m (i+1) (st.1.push i,i+1) (by lia) (Nat.le_refl _) (by show (st.1.push i).size≤i+1;simp;lia)).trans ?_
    rw [ed,z8m,if_pos rfl,Array.toList_push,List.append_assoc];rfl
   ·rw [if_neg (λ y=>by have:=key.mp ⟨y.1.2,y.2⟩;rw [e] at this;exact z (Option.some.inj this))]
    refine (y1d x c m (i+1) _ (by lia) (by show st.2≤i+1;lia) (by show st.1.size≤i+1;lia)).trans ?_
    rw [ed,z8m,if_neg z]
theorem x3m (x:Str) (c:Nat):occurrences x ⟨#[c]⟩ 0 x.length (x.length+1)=z8m c x.cps.toList 0:=by
 rw [StrLaws.occ_eq]
 have:=y1d x c (x.length+1) 0 (#[],0) (by lia) (Nat.le_refl _) (Nat.le_refl _)
 rw [Nat.sub_zero,this]
 simp
def z1p (L:List Nat):Str:=⟨L.toArray⟩
theorem z2f {x:Str}{L:List Nat}(h:x.cps.toList=L):x=z1p L:=by
 obtain ⟨a⟩:=x
 unfold z1p
 congr 1
 exact Array.ext' h
theorem z8o (x:Str) (c:Nat):∀(r:List Nat) (a b:Nat),x.cps.toList.drop b=r->a≤b->b≤x.length->∀p ps,z0x c r=p::ps ->
  StrLaws.partsFrom x 1 a (z8m c r b)=z1p ((x.cps.toList.drop a).take (b - a)++p)::ps.map z1p
 | [],a,b,e,hab,hb,p,ps,es=>by
  have hn:x.cps.toList.length=x.length:=by simp [Str.length]
  have:b=x.length:=by have:=congrArg List.length e;simp only [List.length_drop,List.length_nil] at this;lia
  subst this
  cases es
  show [strSub x a x.length]=_
  rw [z2f (StrLaws.strSub_toList x a x.length),List.append_nil]
  rfl
 | d::r,a,b,e,hab,hb,p,ps,es=>by
  have hn:x.cps.toList.length=x.length:=by simp [Str.length]
  have hl:b < x.length:=by have:=congrArg List.length e;simp only [List.length_drop,List.length_cons] at this;lia
  have e2:x.cps.toList.drop (b+1)=r:=by rw [← List.drop_drop,e];rfl
  have eb:x.cps.toList[b]?=some d:=by rw [show x.cps.toList[b]?=(x.cps.toList.drop b)[0]? by rw [List.getElem?_drop];rfl,e];rfl
  obtain ⟨p',ps',es'⟩:=z3h c r
  unfold z8m
  unfold z0x at es
  by_cases z:d=c
  ·rw [if_pos z] at es ⊢
   cases es
   show strSub x a b::StrLaws.partsFrom x 1 (b+1) (z8m c r (b+1))=_
   rw [z8o x c r (b+1) (b+1) e2 (Nat.le_refl _) hl p' ps' es',es',z2f (StrLaws.strSub_toList x a b),List.append_nil,Nat.sub_self]
   rfl
  ·rw [if_neg z] at es ⊢
   rw [es'] at es
   cases es
   rw [z8o x c r a (b+1) e2 (by lia) hl _ _ es']
   congr 2
   rw [show b+1 - a=(b - a)+1 by lia,List.take_add_one,List.getElem?_drop,show a+(b - a)=b by lia,eb]
   simp
theorem x8n (x:Str):¬Builtin.Str.strKind x < 1:=by unfold Builtin.Str.strKind;split<;>(try split)<;>lia
def z5l (c:Nat):List (List Nat)->List Nat
 | []=>[]
 | [w]=>w
 | w::v::r=>w++c::z5l c (v::r)
theorem z2g (c:Nat):∀(w r:List Nat),c ∉ w->z0x c (w++c::r)=w::z0x c r
 | [],r,_=>by show z0x c (c::r)=_;rw [z0x,if_pos rfl]
 | d::w,r,h=>by
  show z0x c (d::(w++c::r))=_
  rw [z0x,if_neg (λ z=>h (by rw [z];exact List.mem_cons_self ..)),z2g c w r (λ z=>h (List.mem_cons_of_mem _ z))]
theorem z4p (c:Nat):∀(w:List Nat),c ∉ w->z0x c w=[w]
 | [],_=>rfl
 | d::w,h=>by rw [z0x,if_neg (λ z=>h (by rw [z];exact List.mem_cons_self ..)),z4p c w (λ z=>h (List.mem_cons_of_mem _ z))]
theorem z5d (c:Nat):∀(ws:List (List Nat)),ws≠[]->(∀w∈ws,c ∉ w)->z0x c (z5l c ws)=ws
 | [],h,_=>absurd rfl h
 | [w],_,h=>z4p c w (h w (List.mem_cons_self ..))
 | w::v::r,_,h=>by
  rw [z5l,z2g c w _ (h w (List.mem_cons_self ..)),z5d c (v::r) (by simp) (λ y hy=>h y (List.mem_cons_of_mem _ hy))]
theorem x2i (c:Nat):∀(L:List Nat) (a:Nat),z8m c L a=[]->c ∉ L
 | [],_,_=>by simp
 | d::r,a,h=>by
  unfold z8m at h
  split at h
  ·cases h
  ·rename_i z
   intro m
   rcases List.mem_cons.mp m with e | m
   ·exact z e.symm
   ·exact x2i c r _ h m
theorem x8o {c:Nat}(h:c < 256):Builtin.Str.strKind ⟨#[c]⟩=1:=by unfold Builtin.Str.strKind;rw [if_pos (by simpa using h)]
theorem x6u (x:Str) {c:Nat}(h:c < 256):Txt.split x ⟨#[c]⟩=(z0x c x.cps.toList).map z1p:=by
 have hn:x.cps.toList.length=x.length:=by simp [Str.length]
 have x1:x=z1p x.cps.toList:=z2f rfl
 unfold Txt.split
 split
 ·rename_i e
  rw [x8o h,decide_eq_false (x8n x),Bool.or_false,decide_eq_true_eq] at e
  have e:x.length < 1:=e
  have z:x.cps.toList=[]:=List.eq_nil_of_length_eq_zero (by lia)
  rw [z] at x1 ⊢
  rw [x1];rfl
 ·split
  ·rename_i e
   rw [x3m,List.isEmpty_iff] at e
   rw [z4p c _ (x2i c _ _ e),List.map_cons,List.map_nil,← x1]
  ·obtain ⟨p,ps,es⟩:=z3h c x.cps.toList
   rw [StrLaws.partsBetween_eq,x3m]
   refine (z8o x c x.cps.toList 0 0 rfl (Nat.le_refl _) (Nat.zero_le _) p ps es).trans ?_
   rw [es];rfl
theorem z4v (c:Nat):∀(ws:List Str),(Str.join ⟨#[c]⟩ ws).cps.toList=z5l c (ws.map λ w=>w.cps.toList)
 | []=>rfl
 | [w]=>rfl
 | w::v::r=>by
  have ih:=z4v c (v::r)
  show ((w++⟨#[c]⟩)++Str.join ⟨#[c]⟩ (v::r)).cps.toList=_
  rw [Str.cps_append,Str.cps_append,Array.toList_append,Array.toList_append,ih]
  simp [z5l]
theorem y4l {c:Nat}{ws:List Str}(n:ws≠[]) (h:∀w∈ws,c ∉ w.cps.toList):(z0x c (glued ⟨#[c]⟩ ws).cps.toList).map (λ w=>V.str (z1p w))=ws.map V.str:=by
 rw [StrLaws.glued_eq_join,z4v,z5d c _ (by simpa using n) (λ w hw=>by obtain ⟨v,hv,rfl⟩:=List.mem_map.mp hw;exact h v hv),List.map_map]
 exact List.map_congr_left λ w _=>congrArg V.str (z2f rfl).symm
theorem z5f (c:Nat):∀L:List Nat,(z0x c L).length≤L.length+1
 | []=>by simp [z0x]
 | d::r=>by
  have ih:=z5f c r
  obtain ⟨p,ps,e⟩:=z3h c r
  unfold z0x
  rw [e] at ih ⊢
  split<;>simp at ih ⊢<;>lia
theorem y7v (c a:Nat):∀(ws:List (List Nat)),a∈z5l c ws->a=c\/∃w∈ws,a∈w
 | [],h=>by simp [z5l] at h
 | [w],h=>.inr ⟨w,List.mem_cons_self ..,h⟩
 | w::v::r,h=>by
  rcases List.mem_append.mp h with h | h
  ·exact .inr ⟨w,List.mem_cons_self ..,h⟩
  ·rcases List.mem_cons.mp h with h | h
   ·exact .inl h
   ·rcases y7v c a (v::r) h with h | ⟨y,hy,h⟩
    ·exact .inl h
    ·exact .inr ⟨y,List.mem_cons_of_mem _ hy,h⟩
theorem y3p {c a:Nat}{ws:List Str}(h:a∈(glued ⟨#[c]⟩ ws).cps.toList):a=c\/∃w∈ws,a∈w.cps.toList:=by
 rw [StrLaws.glued_eq_join,z4v] at h
 rcases y7v c a _ h with h | ⟨y,hy,h⟩
 ·exact .inl h
 ·obtain ⟨w,hw,rfl⟩:=List.mem_map.mp hy
  exact .inr ⟨w,hw,h⟩
theorem z9o:∀(ps:List (Str × Tok)),Vals (ps.map λ p=>V.str p.1) (strValues ps)
 | []=>.nil
 | p::r=>.cons ⟨_,rfl⟩ (z9o r)
section
variable {X:Cx}
def w0k:V->List V->Hp->VK->Prop:=λ x ys H Q=>∃(t:Str) (c:Nat),x=.str t/\ys=[.str ⟨#[c]⟩]/\c < 256/\t.length≤4000000/\∀l,H l=none->Q (.ref l) (upd H l (.lst ((z0x c t.cps.toList).map λ w=>V.str (z1p w))))
theorem y7n:MtR X "str.split" w0k:=by
 intro pins s σ H x xs v us Q I rx rv h
 obtain ⟨x,c,rfl,rfl,c2,hl,q⟩:=h
 obtain ⟨t,rfl⟩:=rx
 obtain ⟨u,rfl,ru⟩:=z5r rv
 obtain ⟨u,rfl⟩:=ru
 have s20:4000010≤sizeLine:=by rw [sizeLine_eq];decide
 have hy:((⟨#[c]⟩:Str).length == 0)=false:=rfl
 have fin:∀(l:List (Str × Tok)) (k:Nat),l.map (·.1)=Txt.split x ⟨#[c]⟩->EP X pins σ Q (.ref s.heap.objs.size) { s with heap:=s.heap.push { cls:=.type "list",data:=.seq (strValues l).toArray },toks:=k }:=by
  intro l k e
  rw [x6u x c2] at e
  have r:Vals ((z0x c x.cps.toList).map λ w=>V.str (z1p w)) (strValues l):=by
   have:=z9o l
   rw [show l.map (λ p=>V.str p.1)=(l.map (·.1)).map V.str by rw [List.map_map];rfl,e,List.map_map] at this
   exact this
  have hz:((z0x c x.cps.toList).map λ w=>V.str (z1p w)).length≤sizeLine:=by
   rw [List.length_map]
   have:=z5f c x.cps.toList
   have e2:x.cps.toList.length=x.length:=by simp [Str.length]
   lia
  exact ⟨.ref _,_,I.lnew (t':=k) r hz,rfl,q _ I.fresh⟩
 have hn:(partsBetween x (occurrences x ⟨#[c]⟩ 0 x.length (x.length+1)) (⟨#[c]⟩:Str).length).length≤sizeLine:=by
  have e1:=StrLaws.occ_length_le x ⟨#[c]⟩ 0 x.length (x.length+1)
  rw [length_partsBetween];lia
 cases h1:(decide (x.length < (⟨#[c]⟩:Str).length) || decide (Builtin.Str.strKind x < Builtin.Str.strKind ⟨#[c]⟩))
 ·cases hf:(occurrences x ⟨#[c]⟩ 0 x.length (x.length+1)).isEmpty
  ·refine call_meets F.slot_str_split (typeIs_str _ _ _) F.entry_str_split (F.args_str_split_2 _ _) (meets_str_split_sep x ⟨#[c]⟩ t u h1 hy hf (by lia) hn) ?_
   show EP X pins σ Q (.ref s.heap.objs.size) { s with toks:=_,heap:=s.heap.push { cls:=.type "list",data:=.seq (strsFrom s.toks (partsBetween x (occurrences x ⟨#[c]⟩ 0 x.length (x.length+1)) (⟨#[c]⟩:Str).length)).toArray } }
   rw [strsFrom_eq]
   exact fin (numbered s.toks _) _ ((numbered_texts _ _).trans ((if_neg (ne_true_of_eq_false h1)).trans (if_neg (ne_true_of_eq_false hf))).symm)
  ·exact call_meets F.slot_str_split (typeIs_str _ _ _) F.entry_str_split (F.args_str_split_2 _ _) (meets_str_split_not_found x ⟨#[c]⟩ t u h1 hy hf) (fin [(x,t)] s.toks ((if_neg (ne_true_of_eq_false h1)).trans (if_pos hf)).symm)
 ·exact call_meets F.slot_str_split (typeIs_str _ _ _) F.entry_str_split (F.args_str_split_2 _ _) (meets_str_split_cannot_occur x ⟨#[c]⟩ t u h1) (fin [(x,t)] s.toks (if_pos h1).symm)
end
end
theorem hu1 {k:Nat}{A:Around}(r:Room k A):A.units+1 < cLine:=by have:=r.un;lia
theorem y5w:∀ {xs:List V}{us:List Value},Vals xs us->∀u∈us,∃z∈xs,RelV z u
 | _,_,.nil,u,h=>by cases h
 | x::xs,v::us,.cons r t,u,h=>by
  rcases List.mem_cons.mp h with rfl | h
  ·exact ⟨x,List.mem_cons_self ..,r⟩
  ·obtain ⟨z,h1,h2⟩:=y5w t u h
   exact ⟨z,List.mem_cons_of_mem _ h1,h2⟩
section
variable {X:Cx}
def v2k:R2:=λ x y H Q=>∃p xs,x=.non/\y=.ref p/\H p=some (.lst xs)/\(∀z∈xs,z1r z=true\/∃a ys,z=.ref a/\H a=some (.tup ys))/\Q (.bl (xs.any λ z=>eqV z .non)) H
theorem w4a {z:V}{u:Value}(r:RelV z u) (f:z1r z=true\/∃a,z=.ref a):eqU .non u=eqV z .non:=by
 rcases f with f | ⟨a,rfl⟩
 ·exact y8c r f
 ·cases r;rfl
theorem x6g:∀ {xs:List V}{us:List Value},Vals xs us->(∀z∈xs,z1r z=true\/∃a,z=.ref a)->us.any (eqU .non)=xs.any λ y=>eqV y .non
 | _,_,.nil,_=>rfl
 | y::xs,u::us,.cons r t,f=>by rw [List.any_cons,List.any_cons,x6g t λ z hz=>f z (List.mem_cons_of_mem _ hz),w4a r (f y (List.mem_cons_self ..))]
theorem x2x (hu:X.A.units+1 < cLine):OpR X (compareOp .In) v2k:=by
 intro pins s σ H x y v u Q I rx ry h
 obtain ⟨p,xs,rfl,rfl,hq,hf,q⟩:=h
 cases ry
 cases rx
 obtain ⟨its,r,pl,hz⟩:=I.list (.of hq)
 refine SeqAt.in_listAt (eqU .non) pl.isList (λ w hw=>?_) ⟨.bl _,H,I,rfl,?_⟩
 ·obtain ⟨z,mz,rz⟩:=y5w r w (by simpa using hw)
  rcases hf z mz with f | ⟨a,ys,rfl,ha⟩
  ·rw [y8c rz f];exact x4z rz rfl f rfl
  ·cases rz
   obtain ⟨its2,r2,pl2,hz2⟩:=I.tuple (.of ha)
   exact SeqAt.EqAt.tuple_none pl2 hu
 ·rw [show its.toArray.any (eqU .non)=its.any (eqU .non) by simp,x6g r λ z hz=>(hf z hz).imp id λ ⟨a,_,e,_⟩=>⟨a,e⟩]
  exact q
end
section
variable {pg:Program}{wd:World}{B:Around}{X0:Value->Shared->Prop}{s0:Shared}{J d:Addr}{m:Nat}{Pr:Nat->Value->Prop}{OK:Heap->Prop}
theorem z9e {R:Value->Shared->Prop}(K:W.KdlSrc pg wd "dict" J d m Pr OK) (hh:B.handled=none) (ok:OK s0.heap) (sm:m≤sizeLine)
  (fin:∀(h':Heap) (tk:Nat) (ac:Array Value),(∀b o,s0.heap.get? b=some o->h'.get? b=some o)->ItemsOf Pr ac m->R (.ref h'.objs.size) { s0 with heap:=h'.push { cls:=.type "tuple",data:=.seq ac },toks:=tk }) :
  codeAny (model pg wd) B (.call (.builtin "tuple.__new__") ⟨[.type "tuple",.ref J],[]⟩) (wants R X0) s0:=by
 refine codeAny_of_tree ?_
 show wpAny _ B.in1 (do checkBuiltinCall "tuple.__new__" ⟨[.type "tuple",.ref J],[]⟩;again (.builtin "tuple.__new__" ⟨[.type "tuple",.ref J],[]⟩)) _ _ s0
 refine wpAny_bind (wpAny_of_eq (F.newCall_tuple_1 _) (wpAny_pure ⟨plainId_quiet F.plain_tuple_new _,codeAny_builtin F.entry_tuple_new ?_⟩))
 rw [Around.under_plainId F.plain_tuple_new _]
 have q1:=sub_tuple_self
 have q2:=init_tuple_lookup
 have q3:=madeHere_tuple
 have q4:=K.type s0 ok
 have hh1:B.in1.handled=none:=hh
 wp_walk using wpAny_typeOf q4,W.kdu_collect (A:=B.in1) K hh1 ok sm
 intro h' tk ac hk its
 show wpAny _ _ (Builtin.Tuple.tupleExact ac.toList.toArray >>= λ q=>ret q) _ _ _
 have e:ac.toList.toArray=ac:=by simp
 rw [e]
 unfold Builtin.Tuple.tupleExact
 exact wpAny_bind (wpAny_newObj_type (wpAny_pure (fin h' tk ac hk its)) (by show ac.size≤sizeLine;rw [its.1];exact sm))
theorem z8w {R:Value->Shared->Prop}(K:W.KdlSrc pg wd "dict" J d m Pr OK) (hh:B.handled=none) (ok:OK s0.heap) (sm:m≤sizeLine)
  (fin:∀(h':Heap) (tk:Nat) (ac:Array Value),(∀b o,s0.heap.get? b=some o->h'.get? b=some o)->ItemsOf Pr ac m->R (.ref h'.objs.size) { s0 with heap:=h'.push { cls:=.type "tuple",data:=.seq ac },toks:=tk }) :
  wpAny (model pg wd) B (call (.type "tuple") [.ref J]) R X0 s0 :=
 callType_codes (Q₁:=λ ob z=>z.TypeIs ob "tuple" /\ R ob z) F.called_tuple (F.typeCall_tuple_1 _) F.entry_object_init
  (z9e (B:=B.in1) K hh ok sm λ h' tk ac hk its=>⟨⟨_,Heap.get?_push_size _ rfl,rfl⟩,fin h' tk ac hk its⟩)
  λ ob z q=>⟨q.1,F.args_object_init_2 ob _,object_init_meets F.called_tuple.init.lookup F.called_tuple.made (by decide) pg wd B.in1 _ z ⟨q.1,rfl,q.2⟩⟩
end
theorem w3f {P:Program}{w:World}{k:Key}{v:Value}(h:(z1y P w).is k v=true):RelV (kV k) v:=by
 rcases z1v h with ⟨i,t,rfl,rfl⟩ | ⟨x,t,rfl,rfl⟩<;>exact ⟨t,rfl⟩
theorem x4e {P:Program}{w:World}{kvs:List (Key × V)}{vs:List (Key × Value)}{ac:Array Value}(r:KV kvs vs) (it:ItemsOf (λ i v=>∃k x,vs[i]?=some (k,x)/\(z1y P w).is k v=true) ac vs.length):Vals (kvs.map λ kv=>kV kv.1) ac.toList:=by
 refine z7q (by rw [List.length_map,r.length,← it.1];exact Array.length_toList.symm) λ i u e=>?_
 rw [Array.getElem?_toList] at e
 obtain ⟨k,x,e1,e2⟩:=it.2 i u e
 refine ⟨kV k,?_,w3f e2⟩
 have z:=congrArg (λ l:List Key=>l[i]?) r.keys
 simp only [List.getElem?_map,e1,Option.map_some] at z
 rw [List.getElem?_map]
 cases g:kvs[i]? with
 | none=>rw [g] at z;cases z
 | some kv=>rw [g] at z;simp only [Option.map_some,Option.some.injEq] at z ⊢;rw [z]
section
variable {X:Cx}
theorem y5r (hc:X.calm=true):z4l X (.type "tuple") (λ xs H Q=>∃p kvs,xs=[.ref p]/\H p=some (.dK kvs)/\∀l,H l=none->Q (.ref l) (upd H l (.tup (kvs.map λ kv=>kV kv.1)))):=by
 intro pins s σ H xs us Q I r h
 obtain ⟨p,kvs,rfl,hp,q⟩:=h
 obtain ⟨u,rfl,rx⟩:=z5r r
 cases rx
 obtain ⟨z,hd,vs,rel,dd⟩:=w8v I.hok hp
 obtain ⟨ep,da⟩:=dd.dictAt
 refine z8w (W.kdl_dict (knd:=z1y X.prog X.w) (kvs:=vs) (ep:=ep) hd) (I.ok.hd hc) da (by rw [← rel.length];exact z) λ h' tk ac hk it=>?_
 have I1:Inv X pins σ H { s with heap:=h',toks:=tk }:=I.kept (t':=tk) hk
 have hv:=x4e rel it
 have hl:(kvs.map λ kv=>kV kv.1).length≤sizeLine:=by rw [List.length_map];exact z
 refine ⟨.ref h'.objs.size,_,I1.laid (t':=tk) (o:=.tup (kvs.map λ kv=>kV kv.1)) (λ b ob e=>Heap.get?_push_of_some _ e) (Nat.le_refl _) ⟨hl,ac.toList,hv,?_⟩,rfl,q _ (I1.hok.fresh (Nat.le_refl _))⟩
 rw [Array.toArray_toList]
 exact IsTup.new _ _
def w6d:R2:=λ x y H Q=>∃a n,x=.str (z1p a)/\y=.int n/\0≤n/\n≤100/\a.length≤10/\Q (.str (z1p (List.replicate n.toNat a).flatten)) H
theorem y6j (c:List Nat):∀(n:Nat) (a:List Nat),((List.replicate n (⟨c⟩:Array Nat)).foldl (·++·) ⟨a⟩)=⟨a++(List.replicate n c).flatten⟩
 | 0,a=>by simp
 | n+1,a=>by
  rw [List.replicate_succ,List.foldl_cons,List.append_toArray,y6j c n,List.replicate_succ,List.flatten_cons,List.append_assoc]
theorem z5h:OpR X (binaryOp .Mult) w6d:=by
 intro pins s σ H x y v u Q I rx ry h
 obtain ⟨a,n,rfl,rfl,n0,n1,al,q⟩:=h
 obtain ⟨t,rfl⟩:=rx
 obtain ⟨t',rfl⟩:=ry
 have s20:1000000≤sizeLine:=by rw [sizeLine_eq];decide
 have z1:(z1p a).length * n.toNat≤10 * 100:=Nat.mul_le_mul (by show a.toArray.size≤10;simpa using al) (by lia)
 have al:(z1p a).length≤10:=by show a.toArray.size≤10;simpa using al
 have ql:∀b:Str,b=z1p (List.replicate n.toNat a).flatten->Q (.str b) H:=λ b e=>by rw [e];exact q
 refine P.mul_str (by simp;lia) (λ c _=>?_) (λ _ _=>?_) ?_
 ·have:(2 ^ 63 - 1) / (100:Int)≤(2 ^ 63 - 1) / n:=by
   refine Int.le_ediv_of_mul_le (by lia) ?_
   have:(2 ^ 63 - 1) / (100:Int) * n≤(2 ^ 63 - 1) / (100:Int) * 100:=Int.mul_le_mul_of_nonneg_left n1 (by decide)
   exact Int.le_trans this (by decide)
  have b:(10:Int)≤(2 ^ 63 - 1) / 100:=by decide
  lia
 ·simp only [Builtin.Str.tooLong,decide_eq_false_iff_not];lia
 ·split
  ·refine ⟨Nat.le_trans (show (0:Nat)≤1000000 by decide) s20,.str _,H,I.tok _,⟨_,rfl⟩,ql _ ?_⟩
   have:n.toNat=0:=by lia
   rw [this];rfl
  ·split
   ·rename_i c1 c2
    refine ⟨.str _,H,I,⟨_,rfl⟩,ql _ ?_⟩
    simp only [Bool.or_eq_true,beq_iff_eq] at c2
    rcases c2 with e | e
    ·subst e;simp [z1p]
    ·have:a=[]:=List.eq_nil_of_length_eq_zero (by have e:a.toArray.size=0:=e;simpa using e)
     subst this;simp
   ·have e:(⟨(List.replicate n.toNat (z1p a).cps).foldl (·++·) #[]⟩:Str)=z1p (List.replicate n.toNat a).flatten:=by
     unfold z1p;congr 1;have:=y6j a n.toNat [];simpa using this
    have e2:(z1p (List.replicate n.toNat a).flatten).length=(z1p a).length * n.toNat:=by
     show (List.replicate n.toNat a).flatten.toArray.size=a.toArray.size * n.toNat
     simp [List.length_flatten,Nat.mul_comm]
    exact ⟨by show Str.length ⟨(List.replicate n.toNat (z1p a).cps).foldl (·++·) #[]⟩≤sizeLine;rw [e,e2];lia,.str _,H,I.tok _,⟨_,rfl⟩,ql _ e⟩
theorem w7b {K:W.Frag}{o e:Expr}{es:List Expr}{to:TE}{t:TA}{name:Str}{apos cpos:Pos}{T id:String}{r:V->List V->Hp->VK->Prop}(hK:X.K=K) (pa:PlainAttrs T) (slot:Slot T name id) (hty:typeOf (.builtin id)=pure (.type "method_descriptor")) (hm:MtR X id r) (ho:PE X o to) (ha:PA X (e::es) t)
  (hbase:attributeBase o name X.env (eval o X.env)=eval o X.env:=by rfl)
  (hfew:((backTo cpos (starEach (e::es) X.env)).all (λ x=>!x.1) && (backToKw cpos (keywordEach [] X.env)).all (λ x=>x.1.isSome)
   && decide ((e::es).length+([]:List Keyword).length+(if ([]:List Keyword).isEmpty then 0 else 1) < 30))=true:=by rfl)
  (hline:(apos.endLine == cpos.line)=true:=by rfl) (hs:starEach (e::es) X.env=(false,eval e X.env)::starEach es X.env:=by rfl) (hplain:(backTo cpos (starEach es X.env)).any (·.1)=false:=by rfl) :
  PE X (.Call (.Attribute o name apos) (e::es) [] cpos) (tBM K T r to t):=by
 subst hK
 exact y3b pa slot hty hm ho ha hbase hfew hline hs hplain
end
def AlkV (H:Hp):Nat->V->V->Prop
 | 0,x,y=>z1r x=true/\x=y
 | d+1,x,y=>(z1r x=true/\x=y)\/∃(a b:Addr) (xs ys:List V),x=.ref a/\y=.ref b/\((H a=some (.lst xs)/\H b=some (.lst ys))\/(H a=some (.tup xs)/\H b=some (.tup ys)))/\xs.length=ys.length/\∀(i:Nat) z w,xs[i]?=some z->ys[i]?=some w->AlkV H d z w
theorem AlkV.same {H H':Hp}(s:Same H H'):∀ {d:Nat}{x y:V},AlkV H d x y->AlkV H' d x y
 | 0,_,_,h=>h
 | d+1,_,_,.inl h=>.inl h
 | d+1,_,_,.inr ⟨a,b,xs,ys,e1,e2,h,hl,q⟩=>.inr ⟨a,b,xs,ys,e1,e2,h.imp (λ z=>⟨s _ _ z.1,s _ _ z.2⟩) (λ z=>⟨s _ _ z.1,s _ _ z.2⟩),hl,λ i z w e1 e2=>(q i z w e1 e2).same s⟩
theorem AlkV.flat {H:Hp}{d:Nat}{x:V}(h:z1r x=true):AlkV H d x x:=by
 cases d with
 | zero=>exact ⟨h,rfl⟩
 | succ d=>exact .inl ⟨h,rfl⟩
theorem AlkV.lst {H:Hp}{d:Nat}{a b:Addr}{xs:List V}(h1:H a=some (.lst xs)) (h2:H b=some (.lst xs)) (f:xs.all z1r=true):AlkV H (d+1) (.ref a) (.ref b) :=
 .inr ⟨a,b,xs,xs,rfl,rfl,.inl ⟨h1,h2⟩,rfl,λ i z w e1 e2=>by
  rw [e1] at e2;cases e2
  exact .flat (List.all_eq_true.mp f _ (List.mem_of_getElem? e1))⟩
theorem AlkV.tup {H:Hp}{d:Nat}{a b:Addr}{xs:List V}(h1:H a=some (.tup xs)) (h2:H b=some (.tup xs)) (f:xs.all z1r=true):AlkV H (d+1) (.ref a) (.ref b) :=
 .inr ⟨a,b,xs,xs,rfl,rfl,.inr ⟨h1,h2⟩,rfl,λ i z w e1 e2=>by
  rw [e1] at e2;cases e2
  exact .flat (List.all_eq_true.mp f _ (List.mem_of_getElem? e1))⟩
section
variable {X:Cx}{pins:List (Addr × Obj)}{σ:St}{H:Hp}{s:Shared}
def v3s:R2:=λ x y H Q=>(∃a,x=.ref a)/\AlkV H 9 x y/\Q (.bl true) H
def v3p:R2:=λ x y H Q=>(∃a,x=.ref a)/\AlkV H 9 x y/\Q (.bl false) H
end
section
variable {X:Cx}
def v2p (K:W.Frag) (tl:TE):TI:=λ σ H R=>tl σ H λ x H1=>(∃a,x=.ref a/\(∃xs,SqL K H1 a xs)/\R (Itl K a) H1)\/(∃a,x=.ref a/\(∃xs,SqT K H1 a xs)/\R (Itt K a) H1)
theorem w3q {K:W.Frag}{te:TE}{g:TG}{tb:TS}{D:Ends}{σ:St}{H:Hp}:y4g (v2p K te) g tb D σ H=te σ H λ x H1=>LoopL K g tb D σ x H1\/LoopT K g tb D σ x H1:=rfl
theorem x9s {K:W.Frag}{k:Nat}{js:List Nat}{ti:TE}{g:TG}{te:TE}{σ:St}{H:Hp}{Q:VK}:z4g (v2p K ti) k js g te σ H Q=ti σ H λ x H1=>CompL K k js g te σ x H1 Q\/CompT K k js g te σ x H1 Q:=rfl
end
def w9r (K:W.Frag) (a:Addr) (n:Nat):It:=⟨λ i H=>∃xs,SqL K H a xs/\xs.length=n/\i < n,λ i H x H'=>H'=H/\∀xs,SqL K H a xs->xs[n - 1 - i]?=some x,λ i H=>∃xs,SqL K H a xs/\xs.length=n/\i=n⟩
section
variable {X:Cx}{tg:Expr}
def v1d (K:W.Frag) (te:TE):TI:=λ σ H R=>te σ H λ x H1=>∃a xs,x=.ref a/\SqL K H1 a xs/\R (w9r K a xs.length) H1
end
def LoopVL (K:PySem.W.Frag) (g:TG) (tb:TS) (D:Ends) (σ:St) (x:V) (H1:Hp):Prop:=∃a xs,x=.ref a/\SqL K H1 a xs/\∃W:Nat->Nat->St->Hp->Prop,(∃m,W 0 m σ H1)/\∀i m σ H,W i m σ H ->
 ((w9r K a xs.length).stop i H/\D.nx σ H)\/((w9r K a xs.length).go i H/\∃N:St->Hp->Prop,(∀σ' H',N σ' H'->∃m',m' < m/\W (i+1) m' σ' H')/\∀x H',(w9r K a xs.length).yld i H x H'->g x σ H' λ σ2 H2=>tb { D with nx:=N,ct:=N,bk:=D.nx } σ2 H2)
theorem x9b {K:W.Frag}{te:TE}{g:TG}{tb:TS}{D:Ends}{σ:St}{H:Hp}:y4g (v1d K te) g tb D σ H=te σ H λ x H1=>LoopVL K g tb D σ x H1:=rfl
theorem LoopVL.mk {K:W.Frag}{a:Addr}{xs:List V}{g:TG}{tb:TS}{D:Ends}{σ:St}{H:Hp}(hS:SqL K H a xs) (Pv:Nat->St->Hp->Prop) (h0:Pv 0 σ H) (hl:∀i σ H,i≤xs.length->Pv i σ H->SqL K H a xs)
  (hs:∀i x σ H,i < xs.length->xs[xs.length - 1 - i]?=some x->Pv i σ H->g x σ H λ σ2 H2=>tb { D with nx:=Pv (i+1),ct:=Pv (i+1),bk:=D.nx } σ2 H2) (hd:∀σ H,Pv xs.length σ H->D.nx σ H):LoopVL K g tb D σ (.ref a) H:=by
 refine ⟨a,xs,rfl,hS,λ i m σ H=>m=xs.length - i/\i≤xs.length/\Pv i σ H,⟨xs.length,by simp,Nat.zero_le _,h0⟩,?_⟩
 rintro i m σ H ⟨rfl,hi,p⟩
 have q:=hl i σ H hi p
 by_cases hlt:i < xs.length
 ·refine .inr ⟨⟨xs,q,rfl,hlt⟩,Pv (i+1),λ σ' H' p'=>⟨xs.length - (i+1),by lia,rfl,hlt,p'⟩,λ x H' y=>?_⟩
  obtain ⟨e,y⟩:=y
  subst e
  exact hs i x σ _ hlt (y xs q) p
 ·have e:i=xs.length:=by lia
  subst e
  exact .inl ⟨⟨xs,q,rfl,rfl⟩,hd σ H p⟩
end L2
namespace L2
open PySem PySem.Spec PyProof.Rows PySem.W PySem.Calls
section
variable {M:Model}{A:Around}{E:Value->Shared->Prop}{s₀ s:Shared}{m cm:Str->Option Value}{env:Env}{cs:List (Str × Addr)}
end
section
variable {M:Model}{A:Around}{E:Value->Shared->Prop}{s:Shared}
end
def v3c (c:Addr) (v:V):HO:=.ext λ h=>∃u,RelV v u/\h.IsCell c (some u)
def v3b (c:Addr) (qual:Str):HO:=.ext λ h=>h.CodeRec (.ref c) qual
def v4l (fa c':Addr) (qual:Str) (params:Arguments) (body:Expr) (scope:Scope) (cl:List (Str × Addr)):HO:=.ext λ h=>∃pm ctv,h.get? fa=some (kla_obj "<lambda>" qual params body scope cl pm c' ctv)
structure CelAt (H:Hp) (cl:List (Str × Addr)) (vcs:List V):Prop where
 len:cl.length=vcs.length
 at_:∀(i:Nat) q,cl[i]?=some q->∃v o,vcs[i]?=some v/\H q.2=some (.frz o (v3c q.2 v))
 apart:cl.Pairwise λ x y=>x.2≠y.2
theorem CelAt.mem {H:Hp}{cl:List (Str × Addr)}{vcs:List V}(h:CelAt H cl vcs) {q:Str × Addr}(hq:q∈cl):∃o v,H q.2=some (.frz o (v3c q.2 v)):=by
 obtain ⟨i,e⟩:=List.mem_iff_getElem?.mp hq
 obtain ⟨v,o,_,e2⟩:=h.at_ i q e
 exact ⟨o,v,e2⟩
theorem CelAt.same {H H':Hp}{cl:List (Str × Addr)}{vcs:List V}(h:CelAt H cl vcs) (s:∀a o,H a=some o->H' a=some o):CelAt H' cl vcs :=
 ⟨h.len,λ i q e=>let ⟨v,o,e1,e2⟩:=h.at_ i q e;⟨v,o,e1,s _ _ e2⟩,h.apart⟩
structure LmScope (N ps fv:List Str) (sc:Scope):Prop where
 kind:sc.kind=.function
 co:sc.isCoroutine=false
 gen:sc.isGenerator=false
 nd:N.Nodup
 pre:N.take (ps++fv).length=ps++fv
 par:∀x∈ps,sc.names.lookup x=some .local\/sc.names.lookup x=some .cell
 fre:∀x∈fv,sc.names.lookup x=some .free
 has:∀y∈sc.names,y.2=.free->y.1∈fv
 own:∀x∈fv,∀y∈sc.names,y.2=.cell->y.1≠x
def CallV (P:Program) (w:World) (K:W.Frag) (mg:Str->Option Value) (base:Heap) (k:Nat) (fa:Addr) (vs:List V) (H:Hp) (Q:VK):Prop :=
 ∀(A:Around) (outer:List Env) (s:Shared) (us:List Value),Room k A->Env0 P w K mg base A outer s H->Vals vs us->codeAny (model P w) A (.call (.ref fa) ⟨us,[]⟩) (CR CX0 outer P w H s Q λ _ _ _=>False) s
end L2
namespace L2
open PySem PySem.Spec PyProof.Rows PySem.W PySem.Calls
def FnV (H:Hp) (fa:Addr):Prop:=∃φ,H fa=some (.ext φ)/\∀h,φ h->FnAt fa h
theorem FnV.same {H H':Hp}{fa:Addr}(h:FnV H fa) (s:∀o,H fa=some o->H' fa=some o):FnV H' fa:=let ⟨φ,e,k⟩:=h;⟨φ,s _ e,k⟩
def v0b (P:Program) (w:World) (K:W.Frag) (mg:Str->Option Value) (base:Heap) (k i:Nat) (t:TA):TE:=λ σ H Q=>∃fa,σ[i]?=some (some (.ref fa))/\FnV H fa/\t σ H λ vs H1=>FnV H1 fa/\CallV P w K mg base k fa vs H1 Q
section
variable {X:Cx}{k:Nat}{x:Str}{p pos:Pos}{e:Expr}{es:List Expr}{t:TA}
end
def v1o (ec:List (Str × Addr)) (fv:List Str) (cl:List (Str × Addr)):Prop:=cl.map (·.1)=fv/\∀q∈cl,ec.lookup q.1=some q.2
def TabOk (H:Hp) (T:Addr) (pos:Pos) (qual:Str):Prop:=∃ps,H T=some (.tbl ps)/\TriplesOk ps.toList/\(codeAmong pos ps.toList=none\/∃c',codeAmong pos ps.toList=some (.ref c')/\H c'=some (v3b c' qual))
theorem TabOk.same {H H':Hp}{T:Addr}{pos:Pos}{qual:Str}(h:TabOk H T pos qual) (s:∀a o,H a=some o->H' a=some o):TabOk H' T pos qual:=by
 obtain ⟨ps,e,t,z⟩:=h
 exact ⟨ps,s _ _ e,t,z.imp id λ ⟨c',a,b⟩=>⟨c',a,s _ _ b⟩⟩
structure TabF (base:Heap) (mg:Str->Option Value) (c T:Addr):Prop where
 hd:CodeHd base c T
 none_:base.get? T=none
 blt:∃bm o,mg "__builtins__"=some (.ref bm)/\bm≠builtinsNs/\bm≠mainGlobals/\bm≠T/\base.get? bm=some o/\o.cls=.type "module" /\ o.dict=some builtinsNs/\o.data=.plain
 ne:mainGlobals≠T
def v3i (ec:List (Str × Addr)) (fv:List Str) (T:Addr) (pos:Pos) (qual:Str) (params:Arguments) (body:Expr) (scope:Scope):TE:=λ _ H Q=>TabOk H T pos qual /\
 ∀fa c' cl H2,v1o ec fv cl->H fa=none->H2 fa=some (v4l fa c' qual params body scope cl)->H2 c'=some (v3b c' qual)->TabOk H2 T pos qual->(∀b o,b≠T->H b=some o->H2 b=some o)->Q (.ref fa) H2
section
variable {X:Cx}{params:Arguments}{body:Expr}{scope:Scope}{pos:Pos}{fv:List Str}{c T:Addr}{cl:List (Str × Addr)}
end
end L2
namespace L2
open PySem PySem.Spec PyProof.Rows PySem.W PySem.Calls
theorem CallV.mono {P:Program}{w:World}{K:W.Frag}{mg:Str->Option Value}{base:Heap}{j k:Nat}{fa:Addr}{vs:List V}{H:Hp}{Q:VK}(h:CallV P w K mg base j fa vs H Q) (l:j≤k):CallV P w K mg base k fa vs H Q :=
 λ A outer s us hr e0 r=>h A outer s us (hr.mono l) e0 r
def LoopE (K:PySem.W.Frag) (g:TG) (tb:TS) (D:Ends) (σ:St) (v:V) (H1:Hp):Prop:=∃a xs,v=.ref a/\SqT K H1 a xs/\∃W:Nat->Nat->St->Hp->Prop,(∃m,W 0 m σ H1)/\∀i m σ H,W i m σ H ->
 ((Ite K a).stop i H/\D.nx σ H)\/((Ite K a).go i H/\∃N:St->Hp->Prop,(∀σ' H',N σ' H'->∃m',m' < m/\W (i+1) m' σ' H')/\∀x H',(Ite K a).yld i H x H'->g x σ H' λ σ2 H2=>tb { D with nx:=N,ct:=N,bk:=D.nx } σ2 H2)
theorem w3s {K:W.Frag}{te:TE}{g:TG}{tb:TS}{D:Ends}{σ:St}{H:Hp}:y4g (w3j K te) g tb D σ H=te σ H λ v H1=>LoopE K g tb D σ v H1:=rfl
theorem LoopE.mk {K:W.Frag}{a:Addr}{xs:List V}{g:TG}{tb:TS}{D:Ends}{σ:St}{H:Hp}(h1:SqT K H a xs) (Pv:Nat->St->Hp->Prop) (h0:Pv 0 σ H) (hl:∀i σ H,i≤xs.length->Pv i σ H->SqT K H a xs)
  (hs:∀i x σ H T,xs[i]?=some x->Pv i σ H->H T=none->g (.ref T) σ (upd H T (.tup [.int i,x])) λ σ2 H2=>tb { D with nx:=Pv (i+1),ct:=Pv (i+1),bk:=D.nx } σ2 H2) (hd:∀σ H,Pv xs.length σ H->D.nx σ H) :
  LoopE K g tb D σ (.ref a) H:=by
 refine ⟨a,xs,rfl,h1,λ i m σ H=>m=xs.length - i/\i≤xs.length/\Pv i σ H,⟨_,rfl,Nat.zero_le _,h0⟩,?_⟩
 rintro i m σ H ⟨rfl,hi,p⟩
 have k1:=hl i σ H hi p
 by_cases hlt:i < xs.length
 ·refine .inr ⟨⟨xs,_,k1,List.getElem?_eq_getElem hlt⟩,Pv (i+1),λ σ' H' p'=>⟨xs.length - (i+1),by lia,rfl,hlt,p'⟩,λ v H' yy=>?_⟩
  obtain ⟨T,x,rfl,hT,rfl,ex⟩:=yy
  exact hs i x σ H T (ex xs k1) p hT
 ·have e:i=xs.length:=by lia
  exact .inl ⟨⟨xs,k1,by lia⟩,hd σ H (e ▸ p)⟩
section
variable {X:Cx}
def w6h (K:W.Frag):V->List V->Hp->VK->Prop:=λ x ys H Q=>∃a xs y j,x=.ref a/\ys=[y]/\SqL K H a xs/\xs.all z1r=true/\z1r y=true/\(∃z,xs[j]?=some z/\eqV z y=true)/\(∀m z,m < j->xs[m]?=some z->eqV z y=false)/\Q (.int (j:Nat)) H
end
section
variable {pg:Program}{wd:World}{B:Around}{X0:Value->Shared->Prop}{s0:Shared}
end
def w4o (K:W.Frag) (a b:Addr):It:=⟨λ i H=>∃xs ys x y,SqT K H a xs/\SqL K H b ys/\xs[i]?=some x/\ys[i]?=some y,
 λ i H v H'=>∃T x y,v=.ref T/\H T=none/\H'=upd H T (.tup [x,y])/\∀xs ys,SqT K H a xs->SqL K H b ys->xs[i]?=some x/\ys[i]?=some y,λ i H=>∃xs ys,SqT K H a xs/\SqL K H b ys/\(xs.length≤i\/ys.length≤i)⟩
section
variable {X:Cx}{es:List Expr}{x1:Nat}{pp:Pos}
def w8e (K:W.Frag) (ta:TA):TI:=λ σ H R=>ta σ H λ vs H1=>∃a b xs ys,vs=[.ref a,.ref b]/\SqT K H1 a xs/\SqL K H1 b ys/\R (w4o K a b) H1
end
def LoopZN (K:PySem.W.Frag) (g:TG) (tb:TS) (D:Ends) (σ:St) (vs:List V) (H1:Hp):Prop:=∃a b xs ys,vs=[.ref a,.ref b]/\SqT K H1 a xs/\SqL K H1 b ys/\∃W:Nat->Nat->St->Hp->Prop,(∃m,W 0 m σ H1)/\∀i m σ H,W i m σ H ->
 ((w4o K a b).stop i H/\D.nx σ H)\/((w4o K a b).go i H/\∃N:St->Hp->Prop,(∀σ' H',N σ' H'->∃m',m' < m/\W (i+1) m' σ' H')/\∀x H',(w4o K a b).yld i H x H'->g x σ H' λ σ2 H2=>tb { D with nx:=N,ct:=N,bk:=D.nx } σ2 H2)
theorem x8y {K:W.Frag}{ta:TA}{g:TG}{tb:TS}{D:Ends}{σ:St}{H:Hp}:y4g (w8e K ta) g tb D σ H=ta σ H λ vs H1=>LoopZN K g tb D σ vs H1:=rfl
theorem LoopZN.mk {K:W.Frag}{a b:Addr}{xs ys:List V}{g:TG}{tb:TS}{D:Ends}{σ:St}{H:Hp}(n:Nat) (hn:n=min xs.length ys.length) (h1:SqT K H a xs) (h2:SqL K H b ys) (Pv:Nat->St->Hp->Prop) (h0:Pv 0 σ H) (hl:∀i σ H,i≤n->Pv i σ H->SqT K H a xs/\SqL K H b ys)
  (hs:∀i x y σ H T,i < n->xs[i]?=some x->ys[i]?=some y->Pv i σ H->H T=none->g (.ref T) σ (upd H T (.tup [x,y])) λ σ2 H2=>tb { D with nx:=Pv (i+1),ct:=Pv (i+1),bk:=D.nx } σ2 H2) (hd:∀σ H,Pv n σ H->D.nx σ H) :
  LoopZN K g tb D σ [.ref a,.ref b] H:=by
 subst hn
 refine ⟨a,b,xs,ys,rfl,h1,h2,λ i m σ H=>m=min xs.length ys.length - i/\i≤min xs.length ys.length/\Pv i σ H,⟨_,rfl,Nat.zero_le _,h0⟩,?_⟩
 rintro i m σ H ⟨rfl,hi,p⟩
 obtain ⟨k1,k2⟩:=hl i σ H hi p
 by_cases hlt:i < min xs.length ys.length
 ·have l1:i < xs.length:=by lia
  have l2:i < ys.length:=by lia
  refine .inr ⟨⟨xs,ys,_,_,k1,k2,List.getElem?_eq_getElem l1,List.getElem?_eq_getElem l2⟩,Pv (i+1),λ σ' H' p'=>⟨min xs.length ys.length - (i+1),by lia,rfl,hlt,p'⟩,λ v H' yy=>?_⟩
  obtain ⟨T,x,y,rfl,hT,rfl,ex⟩:=yy
  obtain ⟨ex1,ex2⟩:=ex xs ys k1 k2
  exact hs i x y σ H T hlt ex1 ex2 p hT
 ·have e:i=min xs.length ys.length:=by lia
  exact .inl ⟨⟨xs,ys,k1,k2,by lia⟩,hd σ H (e ▸ p)⟩
def CompZN (K:PySem.W.Frag) (k:Nat) (js:List Nat) (g:TG) (te:TE) (σ:St) (vs:List V) (H1:Hp) (Q:VK):Prop:=∃a b xs ys,vs=[.ref a,.ref b]/\SqT K H1 a xs/\SqL K H1 b ys/\∃W:Nat->Nat->List V->St->Hp->Prop,(∃m,W 0 m [] (z1k k js σ) H1)/\∀i m zs σ' H',W i m zs σ' H' ->
  ((w4o K a b).stop i H'/\∀p,H' p=none->Q (.ref p) (upd H' p (.lst zs))) \/
  ((w4o K a b).go i H'/\zs.length < sizeLine/\∃N:List V->St->Hp->Prop,(∀zs σ2 H2,N zs σ2 H2->∃m',m' < m/\W (i+1) m' zs σ2 H2)/\∀x H2,(w4o K a b).yld i H' x H2->g x σ' H2 λ σ3 H3=>te σ3 H3 λ v H4=>N (zs++[v]) σ3 H4)
theorem x5j {K:W.Frag}{k:Nat}{js:List Nat}{ta:TA}{g:TG}{te:TE}{σ:St}{H:Hp}{Q:VK}:z4g (w8e K ta) k js g te σ H Q=ta σ H λ vs H1=>CompZN K k js g te σ vs H1 Q:=rfl
theorem CompZN.mk {K:W.Frag}{a b:Addr}{xs ys:List V}{k:Nat}{js:List Nat}{g:TG}{te:TE}{Q:VK}{σ:St}{H:Hp}(n:Nat) (hn:n=min xs.length ys.length) (h1:SqT K H a xs) (h2:SqL K H b ys) (Pv:Nat->List V->St->Hp->Prop) (h0:Pv 0 [] (z1k k js σ) H) (hl:∀i zs σ H,i≤n->Pv i zs σ H->SqT K H a xs/\SqL K H b ys)
  (hs:∀i x y zs σ H T,i < n->xs[i]?=some x->ys[i]?=some y->Pv i zs σ H->H T=none->zs.length < sizeLine/\g (.ref T) σ (upd H T (.tup [x,y])) λ σ3 H3=>te σ3 H3 λ v H4=>Pv (i+1) (zs++[v]) σ3 H4) (hz:∀zs σ H,Pv n zs σ H->∀p,H p=none->Q (.ref p) (upd H p (.lst zs))) (hlen:∀i zs σ H,Pv i zs σ H->zs.length < sizeLine) :
  CompZN K k js g te σ [.ref a,.ref b] H Q:=by
 subst hn
 refine ⟨a,b,xs,ys,rfl,h1,h2,λ i m zs σ H=>m=min xs.length ys.length - i/\i≤min xs.length ys.length/\Pv i zs σ H,⟨_,rfl,Nat.zero_le _,h0⟩,?_⟩
 rintro i m zs σ H ⟨rfl,hi,p⟩
 obtain ⟨k1,k2⟩:=hl i zs σ H hi p
 by_cases hlt:i < min xs.length ys.length
 ·have l1:i < xs.length:=by lia
  have l2:i < ys.length:=by lia
  refine .inr ⟨⟨xs,ys,_,_,k1,k2,List.getElem?_eq_getElem l1,List.getElem?_eq_getElem l2⟩,hlen _ _ _ _ p,Pv (i+1),λ zs' σ' H' p'=>⟨min xs.length ys.length - (i+1),by lia,rfl,hlt,p'⟩,λ v H' yy=>?_⟩
  obtain ⟨T,x,y,rfl,hT,rfl,ex⟩:=yy
  obtain ⟨ex1,ex2⟩:=ex xs ys k1 k2
  exact (hs i x y zs σ H T hlt ex1 ex2 p hT).2
 ·have e:i=min xs.length ys.length:=by lia
  exact .inl ⟨⟨xs,ys,k1,k2,by lia⟩,hz zs σ H (e ▸ p)⟩
structure Apart6 (z ti ox j1 j2 j3 t1 t2 t3:Addr):Prop where
 ti_z:ti≠z
 ox_z:ox≠z
 j1_z:j1≠z
 j2_z:j2≠z
 j3_z:j3≠z
 ti_ox:ti≠ox
 ti_j1:ti≠j1
 ti_j2:ti≠j2
 ti_j3:ti≠j3
 ox_j1:ox≠j1
 ox_j2:ox≠j2
 ox_j3:ox≠j3
 j12:j1≠j2
 j13:j1≠j3
 j23:j2≠j3
 t1_z:t1≠z
 t2_z:t2≠z
 t2_ox:t2≠ox
 t2_j1:t2≠j1
 t3_z:t3≠z
 t3_ox:t3≠ox
 t3_j1:t3≠j1
 t3_j2:t3≠j2
section
variable {pg:Program}{wd:World}{B:Around}{X0:Value->Shared->Prop}{s0:Shared}
end
def w9p (K:W.Frag) (a b c:Addr):It:=⟨λ i H=>∃xs ys zs x y z,SqT K H a xs/\SqT K H b ys/\SqT K H c zs/\xs[i]?=some x/\ys[i]?=some y/\zs[i]?=some z,
 λ i H v H'=>∃T x y z,v=.ref T/\H T=none/\H'=upd H T (.tup [x,y,z])/\∀xs ys zs,SqT K H a xs->SqT K H b ys->SqT K H c zs->xs[i]?=some x/\ys[i]?=some y/\zs[i]?=some z,λ i H=>∃xs,SqT K H a xs/\xs.length≤i⟩
section
variable {X:Cx}{es:List Expr}{x1:Nat}{pp:Pos}
def v0z (K:W.Frag) (ta:TA):TI:=λ σ H R=>ta σ H λ vs H1=>∃a b c xs ys zs,vs=[.ref a,.ref b,.ref c]/\SqT K H1 a xs/\SqT K H1 b ys/\SqT K H1 c zs/\R (w9p K a b c) H1
end
def CompZ3 (K:PySem.W.Frag) (k:Nat) (js:List Nat) (g:TG) (te:TE) (σ:St) (vs:List V) (H1:Hp) (Q:VK):Prop:=∃a b c xs ys zs,vs=[.ref a,.ref b,.ref c]/\SqT K H1 a xs/\SqT K H1 b ys/\SqT K H1 c zs/\∃W:Nat->Nat->List V->St->Hp->Prop,(∃m,W 0 m [] (z1k k js σ) H1)/\∀i m zs σ' H',W i m zs σ' H' ->
  ((w9p K a b c).stop i H'/\∀p,H' p=none->Q (.ref p) (upd H' p (.lst zs))) \/
  ((w9p K a b c).go i H'/\zs.length < sizeLine/\∃N:List V->St->Hp->Prop,(∀zs σ2 H2,N zs σ2 H2->∃m',m' < m/\W (i+1) m' zs σ2 H2)/\∀x H2,(w9p K a b c).yld i H' x H2->g x σ' H2 λ σ3 H3=>te σ3 H3 λ v H4=>N (zs++[v]) σ3 H4)
theorem x5n {K:W.Frag}{k:Nat}{js:List Nat}{ta:TA}{g:TG}{te:TE}{σ:St}{H:Hp}{Q:VK}:z4g (v0z K ta) k js g te σ H Q=ta σ H λ vs H1=>CompZ3 K k js g te σ vs H1 Q:=rfl
theorem CompZ3.mk {K:W.Frag}{a b c:Addr}{xs ys zs:List V}{k:Nat}{js:List Nat}{g:TG}{te:TE}{Q:VK}{σ:St}{H:Hp}(n:Nat) (hn:n=xs.length) (hy:ys.length=n) (hz:zs.length=n) (h1:SqT K H a xs) (h2:SqT K H b ys) (h3:SqT K H c zs) (Pv:Nat->List V->St->Hp->Prop) (h0:Pv 0 [] (z1k k js σ) H) (hl:∀i us σ H,i≤n->Pv i us σ H->SqT K H a xs/\SqT K H b ys/\SqT K H c zs)
  (hs:∀i x y z us σ H T,i < n->xs[i]?=some x->ys[i]?=some y->zs[i]?=some z->Pv i us σ H->H T=none->g (.ref T) σ (upd H T (.tup [x,y,z])) λ σ3 H3=>te σ3 H3 λ v H4=>Pv (i+1) (us++[v]) σ3 H4) (hd:∀us σ H,Pv n us σ H->∀p,H p=none->Q (.ref p) (upd H p (.lst us))) (hlen:∀i us σ H,Pv i us σ H->us.length < sizeLine) :
  CompZ3 K k js g te σ [.ref a,.ref b,.ref c] H Q:=by
 subst hn
 refine ⟨a,b,c,xs,ys,zs,rfl,h1,h2,h3,λ i m us σ H=>m=xs.length - i/\i≤xs.length/\Pv i us σ H,⟨_,rfl,Nat.zero_le _,h0⟩,?_⟩
 rintro i m us σ H ⟨rfl,hi,p⟩
 obtain ⟨k1,k2,k3⟩:=hl i us σ H hi p
 by_cases hlt:i < xs.length
 ·refine .inr ⟨⟨xs,ys,zs,_,_,_,k1,k2,k3,List.getElem?_eq_getElem hlt,List.getElem?_eq_getElem (hy ▸ hlt),List.getElem?_eq_getElem (hz ▸ hlt)⟩,hlen _ _ _ _ p,Pv (i+1),λ us' σ' H' p'=>⟨xs.length - (i+1),by lia,rfl,hlt,p'⟩,λ v H' yy=>?_⟩
  obtain ⟨T,x,y,z,rfl,hT,rfl,ex⟩:=yy
  obtain ⟨ex1,ex2,ex3⟩:=ex xs ys zs k1 k2 k3
  exact hs i x y z us σ H T hlt ex1 ex2 ex3 p hT
 ·have e:i=xs.length:=by lia
  exact .inl ⟨⟨xs,k1,by lia⟩,hd us σ H (e ▸ p)⟩
theorem w1e {α:Type}{M:Model}{Γ:PySem.Ctx}(n:Nat) (t:Sem α):∀ {Q:α->Pos->Shared->Prop}{E:Value->Pos->Shared->Prop}{p:Pos}{s:Shared},n≤s.toks->Sem.wp M Γ t Q E p s->Sem.wp M Γ t (λ a p' s'=>Q a p' s'/\n≤s'.toks) E p s:=by
 induction t with
 | pure a=>intro Q E p s hn h;exact ⟨h,hn⟩
 | raise e=>intro Q E p s hn h;exact h
 | unsupported _=>intro Q E p s hn h;exact h
 | finish _=>intro Q E p s hn h;exact h
 | rule _ k ih=>intro Q E p s hn h;exact ih () hn h
 | «at» p' k ih=>intro Q E p s hn h;exact ih () hn h
 | load a _ k ih=>intro Q E p s hn h;obtain ⟨o,e,h⟩:=h;exact ⟨o,e,ih o hn h⟩
 | update a _ f k ih=>intro Q E p s hn h;exact ⟨h.1,ih () hn h.2⟩
 | loadIfAlive a k ih=>intro Q E p s hn h;exact ih _ hn h
 | point _ k ih=>intro Q E p s hn h;exact ih () hn h
 | register _ _=>intro Q E p s hn h;exact h
 | alloc o k ih=>intro Q E p s hn h;exact ih _ hn h
 | fresh k ih=>intro Q E p s hn h;exact ih _ (Nat.le_succ_of_le hn) h
 | ask k ih=>intro Q E p s hn h;exact ih _ hn h
 | choose src m k ih=>intro Q E p s hn h;exact ⟨h.1,ih _ hn h.2⟩
 | os q _ k ih=>intro Q E p s hn h;exact ih _ hn h
 | call c hh _ _ k ih =>
  intro Q E p s hn h
  obtain ⟨r,s',hr,h⟩:=h
  exact ⟨r,s',hr,ih r (Nat.le_trans hn (Returns.toks_le hr)) h⟩
 | handled own k ih=>intro Q E p s hn h;exact ih _ hn h
 | genState g k ih=>intro Q E p s hn h;obtain ⟨st,e,h⟩:=h;exact ⟨st,e,ih _ hn h⟩
 | newGen c k ih=>intro Q E p s hn h;exact ih _ hn h
 | resume g r _ k ih=>intro Q E p s hn h;obtain ⟨res,s',hw,h⟩:=h;exact ⟨res,s',hw,ih _ (Nat.le_trans hn (Wakes.toks_le hw)) h⟩
 | yield _ _=>intro Q E p s hn h;exact h
 | stack k ih=>intro Q E p s hn h;exact ih _ hn h
 | fork _ _=>intro Q E p s hn h;exact h
 | thread k ih=>intro Q E p s hn h;exact ih _ hn h
 | await _ _=>intro Q E p s hn h;exact h
theorem z2w {α:Type}{M:Model}{A:Around}{t:Sem α}{Q:α->Shared->Prop}{E:Value->Shared->Prop}{s:Shared}(n:Nat) (hn:n≤s.toks) (h:wpAny M A t Q E s):wpAny M A t (λ a s'=>Q a s'/\n≤s'.toks) E s:=λ Γ p hΓ=>w1e n t hn (h Γ p hΓ)
section
variable {X:Cx}{st:Stmt}{rest:List Stmt}{t u:TS}{e:Expr}{es:List Expr}{te:TE}{ta:TA}{pos:Pos}
def PET (X:Cx) (e:Expr) (t:TE):Prop:=∀(pins:List (Addr × Obj)) (s:Shared) (σ:St) (H:Hp) (Q:VK),1≤s.toks->Inv X pins σ H s->t σ H Q->wpAny (model X.prog X.w) X.A (eval e X.env) (EP X pins σ Q) X.xe s
def PST (X:Cx) (st:Stmt) (t:TS):Prop:=∀(pins:List (Addr × Obj)) (s:Shared) (σ:St) (H:Hp) (D:Ends),1≤s.toks->Inv X pins σ H s->t D σ H->wpAny (model X.prog X.w) X.A (exec st X.env) (SP X pins D) X.xe s
def PSsT (X:Cx) (st:List Stmt) (t:TS):Prop:=∀(pins:List (Addr × Obj)) (s:Shared) (σ:St) (H:Hp) (D:Ends),1≤s.toks->Inv X pins σ H s->t D σ H->wpAny (model X.prog X.w) X.A (execs st X.env) (SP X pins D) X.xe s
theorem y0z (h1:PST X st t):PSsT X [st] t:=by
 intro pins s σ H D k I h
 refine wpAny_execs_cons (thn (h1 pins s σ H D k I h) λ f s1 q=>?_)
 cases f with
 | next=>exact wpAny_execs_nil q
 | ret v=>exact q
 | brk=>exact q
 | cont=>exact q
def w9w (y z:Str) (to:TE):TE:=λ σ H Q=>to σ H λ x H1=>∃w:Str,x=.str w/\w.length≤1000/\(y == z)=false/\z.length≤14/\Q (.str (Txt.replace w y z)) H1
end
def CompLI (K:PySem.W.Frag) (k:Nat) (js:List Nat) (g:TG) (tc:TT) (te:TE) (σ:St) (v:V) (H1:Hp) (Q:VK):Prop:=∃a,v=.ref a/\(∃xs,SqL K H1 a xs)/\∃W:Nat->Nat->List V->St->Hp->Prop,(∃m,W 0 m [] (z1k k js σ) H1)/\∀i m zs σ' H',W i m zs σ' H' ->
  ((Itl K a).stop i H'/\∀p,H' p=none->Q (.ref p) (upd H' p (.lst zs))) \/
  ((Itl K a).go i H'/\zs.length < sizeLine/\∃N:List V->St->Hp->Prop,(∀zs σ2 H2,N zs σ2 H2->∃m',m' < m/\W (i+1) m' zs σ2 H2)/\∀x H2,(Itl K a).yld i H' x H2->g x σ' H2 λ σ3 H3=>tc σ3 H3 λ b H4=>if b=true then te σ3 H4 λ v H5=>N (zs++[v]) σ3 H5 else N zs σ3 H4)
theorem x5s {K:W.Frag}{k:Nat}{js:List Nat}{tx:TE}{g:TG}{tc:TT}{te:TE}{σ:St}{H:Hp}{Q:VK}:z6y (x8s K tx) k js g tc te σ H Q=tx σ H λ v H1=>CompLI K k js g tc te σ v H1 Q:=rfl
theorem CompLI.mk {K:W.Frag}{a:Addr}{xs:List V}{k:Nat}{js:List Nat}{g:TG}{tc:TT}{te:TE}{Q:VK}{σ:St}{H:Hp}(h1:SqL K H a xs) (Pv:Nat->List V->St->Hp->Prop) (h0:Pv 0 [] (z1k k js σ) H) (hl:∀i zs σ H,i≤xs.length->Pv i zs σ H->SqL K H a xs/\zs.length < sizeLine)
  (hs:∀i x zs σ H,xs[i]?=some x->Pv i zs σ H->g x σ H λ σ3 H3=>tc σ3 H3 λ b H4=>if b=true then te σ3 H4 λ v H5=>Pv (i+1) (zs++[v]) σ3 H5 else Pv (i+1) zs σ3 H4) (hz:∀zs σ H,Pv xs.length zs σ H->∀p,H p=none->Q (.ref p) (upd H p (.lst zs))) :
  CompLI K k js g tc te σ (.ref a) H Q:=by
 refine ⟨a,rfl,⟨xs,h1⟩,λ i m zs σ H=>m=xs.length - i/\i≤xs.length/\Pv i zs σ H,⟨_,rfl,Nat.zero_le _,h0⟩,?_⟩
 rintro i m zs σ H ⟨rfl,hi,p⟩
 obtain ⟨k1,k2⟩:=hl i zs σ H hi p
 by_cases hlt:i < xs.length
 ·refine .inr ⟨⟨xs,_,k1,List.getElem?_eq_getElem hlt⟩,k2,Pv (i+1),λ zs' σ' H' p'=>⟨xs.length - (i+1),by lia,rfl,hlt,p'⟩,λ v H' yy=>?_⟩
  obtain ⟨rfl,ex⟩:=yy
  exact hs i v zs σ _ (ex xs k1) p
 ·have e:i=xs.length:=by lia
  exact .inl ⟨⟨xs,k1,by lia⟩,hz zs σ H (e ▸ p)⟩
def CompRI (lo:Int) (n k:Nat) (js:List Nat) (g:TG) (tc:TT) (te:TE) (σ:St) (H1:Hp) (Q:VK):Prop:=∃W:Nat->Nat->List V->St->Hp->Prop,(∃m,W 0 m [] (z1k k js σ) H1)/\∀i m zs σ' H',W i m zs σ' H' ->
  ((Itr lo n).stop i H'/\∀p,H' p=none->Q (.ref p) (upd H' p (.lst zs))) \/
  ((Itr lo n).go i H'/\zs.length < sizeLine/\∃N:List V->St->Hp->Prop,(∀zs σ2 H2,N zs σ2 H2->∃m',m' < m/\W (i+1) m' zs σ2 H2)/\∀x H2,(Itr lo n).yld i H' x H2->g x σ' H2 λ σ3 H3=>tc σ3 H3 λ b H4=>if b=true then te σ3 H4 λ v H5=>N (zs++[v]) σ3 H5 else N zs σ3 H4)
theorem x5p {k:Nat}{js:List Nat}{ta:TA}{g:TG}{tc:TT}{te:TE}{σ:St}{H:Hp}{Q:VK}:z6y (x8r ta) k js g tc te σ H Q=ta σ H λ vs H1=>∃j:Int,vs=[.int j]/\-(2 ^ 62)≤j/\j < 2 ^ 62/\CompRI 0 j.toNat k js g tc te σ H1 Q:=rfl
theorem CompRI.mk {lo:Int}{n k:Nat}{js:List Nat}{g:TG}{tc:TT}{te:TE}{Q:VK}{σ:St}{H:Hp}(Pv:Nat->List V->St->Hp->Prop) (h0:Pv 0 [] (z1k k js σ) H) (hl:∀i zs σ H,i≤n->Pv i zs σ H->zs.length < sizeLine)
  (hs:∀i zs σ H,i < n->Pv i zs σ H->g (.int (lo+i)) σ H λ σ3 H3=>tc σ3 H3 λ b H4=>if b=true then te σ3 H4 λ v H5=>Pv (i+1) (zs++[v]) σ3 H5 else Pv (i+1) zs σ3 H4) (hz:∀zs σ H,Pv n zs σ H->∀p,H p=none->Q (.ref p) (upd H p (.lst zs))) :
  CompRI lo n k js g tc te σ H Q:=by
 refine ⟨λ i m zs σ H=>m=n - i/\i≤n/\Pv i zs σ H,⟨_,rfl,Nat.zero_le _,h0⟩,?_⟩
 rintro i m zs σ H ⟨rfl,hi,p⟩
 by_cases hlt:i < n
 ·refine .inr ⟨hlt,hl i zs σ H hi p,Pv (i+1),λ zs' σ' H' p'=>⟨n - (i+1),by lia,rfl,hlt,p'⟩,λ v H' yy=>?_⟩
  obtain ⟨rfl,rfl⟩:=yy
  exact hs i zs σ _ hlt p
 ·have e:i=n:=by lia
  exact .inl ⟨show n≤i by lia,hz zs σ H (e ▸ p)⟩
theorem x5b (f:Array Value->Array Value) (o:Obj):(Obj.mapFields f o).dict=o.dict:=by
 unfold Obj.mapFields
 split<;>rfl
def w4s (B h:Heap) (e:Addr) (cls:Value) (dx:Addr) (hd:Value):Prop :=
 ∃oe vs,h.get? e=some oe/\(oe.cls=cls/\oe.dict=some dx)/\oe.data=.fields vs/\vs[1]?=some hd
def v4j (B h:Heap) (e:Addr) (hd fl:Value):Prop:=∃T oT ts,hd=.ref T/\B.get? T=none/\T≠e/\h.get? T=some oT/\oT.data=.fields ts/\ts[3]?=some fl
def FlyD (B:Heap) (l:List Env) (e:Addr) (cls:Value) (dx:Addr) (fl:Value) (h:Heap):Prop :=
 B.StaysIn h/\B.get? e=none/\h.FunFrames B l/\∃hd,w4s B h e cls dx hd/\v4j B h e hd fl
def w4r (B:Heap) (l:List Env) (e:Addr) (cls:Value) (dx:Addr) (h:Heap):Prop :=
 B.StaysIn h/\B.get? e=none/\h.FunFrames B l/\w4s B h e cls dx .none
theorem FlyD.first {B h:Heap}{l:List Env}{e dx:Addr}{cls fl:Value}(x:FlyD B l e cls dx fl h):∃oe vs,h.get? e=some oe/\oe.cls=cls/\oe.data=.fields vs/\oe.dict=some dx :=
 let ⟨_,_,_,_,⟨oe,vs,he,hc,hd,_⟩,_⟩:=x;⟨oe,vs,he,hc.1,hd,hc.2⟩
section
variable {M:Model}{A:Around}{E:Value->Shared->Prop}{s:Shared}{B:Heap}{env:Env}{outer:List Env}{L e dx:Addr}{cls:Value}
theorem w0x {hd:Value}{nx:Bool}{Q:Unit->Shared->Prop}(hfr:A.frames=some (env::outer)) (hf:env.frame=some L) (kb:B.StaysIn s.heap) (nb:B.get? e=none) (fl:s.heap.FunFrames B (env::outer)) (x:w4s B s.heap e cls dx hd)
  (q:∀h2,FlyD B (env::outer) e cls dx (rawInt L) h2->s.heap.UpToSlots h2->Q () { s with heap:=h2 }) :
  wpAny M A (do let fo ← frameOf env;let pl ← entryPlaceOf L nx;let tb ← EntryCells.newEntry hd fo .none (rawInt L) .none pl;setField (.ref e) 1 tb) Q E s:=by
 obtain ⟨oe,vs,he,hc,hdt,h1⟩:=x
 have z1:1 < vs.size:=(Array.getElem?_eq_some_iff.mp h1).1
 have nfr:e ∉ (env::outer).filterMap (·.frame):=λ m=>by
  obtain ⟨_,o3,e3,nf3⟩:=fl.mem m
  rw [he] at e3;cases e3
  exact nf3 vs hdt
 refine wpAny_bind (wpAny_frameOf_fun hfr fl hf λ g1 u1=>wpAny_bind (wpAny_entryPlaceOf λ pl ipl=>?_))
 unfold EntryCells.newEntry newFields
 refine wpAny_bind (wpAny_newObj_type ?_ (ipl.sizeOk5 _ _ _ _ _))
 generalize hTO:({ cls:=.type "traceback",dict:=none,data:=.fields ([hd,.ref L,.none,rawInt L,.none]++(if pl.isEmpty then List.replicate 6 Value.none else pl)).toArray }:Obj)=TO
 have e1:g1.get? e=some oe:=(u1.2.1 e nfr).trans he
 have kb1:B.StaysIn g1:=λ b o hb=>(u1.2.1 b λ m=>by rw [(fl.mem m).1] at hb;cases hb).trans (kb b o hb)
 have e2:(g1.push TO).get? e=some oe:=Heap.get?_push_of_some TO e1
 have ne:g1.objs.size≠e:=Nat.ne_of_gt (Heap.lt_size e1)
 have d3:=Obj.data_mapFields hdt (λ a:Array Value=>a.setIfInBounds 1 (Value.ref g1.objs.size))
 have e3:=Heap.get?_update_self (Obj.mapFields (λ a:Array Value=>a.setIfInBounds 1 (Value.ref g1.objs.size))) e2 (Obj.isFreed_of_fields d3)
 have oth:∀b o,b≠e->g1.get? b=some o->((g1.push TO).update e (Obj.mapFields (λ a:Array Value=>a.setIfInBounds 1 (Value.ref g1.objs.size)))).get? b=some o:=λ b o nbe hb=>by
  rw [Heap.get?_update_other _ _ (Ne.symm nbe)]
  exact Heap.get?_push_of_some TO hb
 have norec:∀b o,s.heap.get? b=some o->(∀ws,o.data≠.fields ws)->b≠e:=λ b o hb nf z=>by
  rw [z,he] at hb;cases hb
  exact nf vs hdt
 refine wpAny_setField e2 hdt z1 (q _ ?_ ?_)
 ·refine ⟨λ b o hb=>oth b o (λ z=>by rw [z,nb] at hb;cases hb) (kb1 b o hb),nb,fl.of_keeps λ b o hb nf=>?_,.ref g1.objs.size,?_,?_⟩
  ·obtain ⟨sl,hs⟩:=u1.2.2 b o hb
   exact ⟨_,oth b _ (norec b o hb nf) hs,rfl⟩
  ·exact ⟨_,_,e3,⟨(Obj.cls_mapFields _ _).trans hc.1,(x5b _ _).trans hc.2⟩,d3,by simp [z1]⟩
  ·subst hTO
   refine ⟨g1.objs.size,_,_,rfl,kb1.fresh,ne,(Heap.get?_update_other _ _ (Ne.symm ne)).trans (Heap.get?_push_size g1 rfl),rfl,?_⟩
   first | (simp;done) | (rcases ipl with rfl | ⟨_,_,_,_,_,_,_,rfl⟩<;>simp)
 ·intro b o hb nf
  obtain ⟨sl,hs⟩:=u1.2.2 b o hb
  exact ⟨sl,oth b _ (norec b o hb nf) hs⟩
theorem v0u {Q:Unit->Shared->Prop}(hfr:A.frames=some (env::outer)) (hf:env.frame=some L) (x:w4r B (env::outer) e cls dx s.heap)
  (q:∀h2,FlyD B (env::outer) e cls dx (rawInt L) h2->s.heap.UpToSlots h2->Q () { s with heap:=h2 }):wpAny M A (noteFrame (.ref e) env) Q E s:=by
 obtain ⟨kb,nb,fl,oe,vs,he,hc,hdt,h1⟩:=x
 unfold noteFrame
 simp only [hf]
 refine wpAny_bind (wpAny_field he hdt h1 ?_)
 rw [if_neg (by decide)]
 exact w0x hfr hf kb nb fl ⟨oe,vs,he,hc,hdt,h1⟩ q
theorem v0t {Q:Unit->Shared->Prop}(hfr:A.frames=some (env::outer)) (hf:env.frame=some L) (x:FlyD B (env::outer) e cls dx .none s.heap)
  (q:∀h2,FlyD B (env::outer) e cls dx (rawInt L) h2->s.heap.UpToSlots h2->Q () { s with heap:=h2 }):wpAny M A (noteFrame (.ref e) env) Q E s:=by
 obtain ⟨kb,nb,fl,hd,⟨oe,vs,he,hc,hdt,h1⟩,T,oT,ts,rfl,nT,Te,hT,dT,h3⟩:=x
 unfold noteFrame
 simp only [hf]
 refine wpAny_bind (wpAny_field he hdt h1 ?_)
 rw [if_pos (by simp:(Value.ref T != Value.none)=true)]
 refine wpAny_bind (wpAny_field hT dT h3 ?_)
 rw [if_neg (by simp [rawInt]:¬((Value.none == rawInt L)=true))]
 refine wpAny_bind (wpAny_setField hT dT (Array.getElem?_eq_some_iff.mp h3).1 ?_)
 have oth:∀b,b≠T->(s.heap.update T (Obj.mapFields (λ a:Array Value=>a.setIfInBounds 3 Value.none))).get? b=s.heap.get? b:=λ b z=>Heap.get?_update_other _ _ (Ne.symm z)
 have norec:∀b o,s.heap.get? b=some o->(∀ws,o.data≠.fields ws)->b≠T:=λ b o hb nf z=>by
  rw [z,hT] at hb;cases hb
  exact nf ts dT
 refine w0x hfr hf (λ b o hb=>(oth b λ z=>by rw [z,nT] at hb;cases hb).trans (kb b o hb)) nb (fl.of_keeps λ b o hb nf=>⟨o,(oth b (norec b o hb nf)).trans hb,rfl⟩) ⟨oe,vs,(oth e (Ne.symm Te)).trans he,hc,hdt,h1⟩ λ h2 f2 u2=>q h2 f2 λ b o hb nf=>?_
 exact u2 b o ((oth b (norec b o hb nf)).trans hb) nf
theorem w3u {l:List Env}{fl:Value}{Q:Unit->Shared->Prop}(x:FlyD B l e cls dx fl s.heap)
  (q:∀h2,FlyD B l e cls dx .none h2->s.heap.UpToSlots h2->Q () { s with heap:=h2 }):wpAny M A (setFlight (.ref e) none) Q E s:=by
 obtain ⟨kb,nb,ff,hd,⟨oe,vs,he,hc,hdt,h1⟩,T,oT,ts,rfl,nT,Te,hT,dT,h3⟩:=x
 have z3:3 < ts.size:=(Array.getElem?_eq_some_iff.mp h3).1
 have oth:∀b,b≠T->(s.heap.update T (Obj.mapFields (λ a:Array Value=>a.setIfInBounds 3 ((none:Option Addr).elim Value.none λ f=>rawInt f)))).get? b=s.heap.get? b:=λ b z=>Heap.get?_update_other _ _ (Ne.symm z)
 have norec:∀b o,s.heap.get? b=some o->(∀ws,o.data≠.fields ws)->b≠T:=λ b o hb nf z=>by
  rw [z,hT] at hb;cases hb
  exact nf ts dT
 unfold setFlight
 refine wpAny_bind (wpAny_field he hdt h1 ?_)
 rw [if_pos (by simp:(Value.ref T != Value.none)=true)]
 refine wpAny_setField hT dT z3 (q _ ⟨λ b o hb=>(oth b λ z=>by rw [z,nT] at hb;cases hb).trans (kb b o hb),nb,ff.of_keeps λ b o hb nf=>⟨o,(oth b (norec b o hb nf)).trans hb,rfl⟩,.ref T,⟨oe,vs,(oth e (Ne.symm Te)).trans he,hc,hdt,h1⟩,T,_,_,rfl,nT,Te,Heap.get?_update_self _ hT (Obj.isFreed_of_fields (Obj.data_mapFields dT _)),Obj.data_mapFields dT _,by simp [z3]⟩ λ b o hb nf=>⟨o.slots,(oth b (norec b o hb nf)).trans hb⟩)
theorem FlyD.pop {fl:Value}{h:Heap}(x:FlyD B (env::outer) e cls dx fl h):FlyD B outer e cls dx fl h:=let ⟨a,b,⟨_,_,c⟩,d⟩:=x;⟨a,b,c,d⟩
theorem w7q {Q:Unit->Shared->Prop}(hfr:A.frames=some (env::outer)) (hf:env.frame=some L) (x:w4r B (env::outer) e cls dx s.heap)
  (q:∀h2,FlyD B outer e cls dx .none h2->s.heap.UpToSlots h2->Q () { s with heap:=h2 }):wpAny M A (leaving env (.ref e)) Q E s:=by
 unfold leaving
 refine wpAny_bind (v0u hfr hf x λ h1 f1 u1=>?_)
 exact w3u (s:={ s with heap:=h1 }) f1 λ h2 f2 u2=>q h2 f2.pop (u1.trans u2)
end
end L2
namespace L2
open PySem PySem.Spec PyProof.Rows Builtin Builtin.ObjectAttr
def w4g (K:W.Frag) (C:Addr) (bmB:List Value) (nid:String):Bool:=match K.lookup C with
 | some ⟨.type "type",_,.cls cd,kk⟩=>cd.hasDict && (match cd.mro,kk.toList with | .ref C2::tl,[_,_,_,_,some (.builtin n2),_]=>C2 == C && (n2 == nid && (!cd.hasDel && W.tailIn K bmB tl)) | _,_=>false)
 | _=>false
structure HasX (h:Heap) (C:Addr) (bmB:List Value) (nid:String):Prop where
 ex:∃(nm q:Str) (N:Addr) (bs bm:List Value) (sn:List Str) (sub:List Value) (ab:Bool) (col:Option Bool) (dd:Option Addr) (k0 k1 k2 k3 k5:Option Value),
  h.get? C=some (excClassObj nm q C N bs bm true sn sub ab col dd k0 k1 k2 k3 k5 nid)/\OwnTail h bmB bm
theorem v1e {K:W.Frag}{h:Heap}{C:Addr}{bmB:List Value}{nid:String}(KI:K.In h) (q:w4g K C bmB nid=true):HasX h C bmB nid:=by
 unfold w4g at q
 split at q
 ·rename_i ddx cdx slx hlk
  rw [Bool.and_eq_true] at q
  obtain ⟨hdict,q⟩:=q
  split at q
  ·rename_i C2 bm2 f0 f1 f2 f3 nn f5 hmro hsl0
   simp only [Bool.and_eq_true,beq_iff_eq,Bool.not_eq_true'] at q
   obtain ⟨eC,eN,hdl,htl⟩:=q
   subst eC eN
   obtain ⟨c1,c2,c3,c4,c5,c6,c7,c8,c9,c10,c11⟩:=cdx
   dsimp only at hmro hdl hdict
   subst hmro hdl hdict
   have hsl1:slx=#[f0,f1,f2,f3,some (.builtin nn),f5]:=by
    obtain ⟨lst⟩:=slx
    simp only at hsl0
    rw [hsl0]
   subst hsl1
   exact ⟨⟨_,_,_,_,_,_,_,_,_,_,_,_,_,_,_,KI _ _ hlk,W.tail_of_in KI htl⟩⟩
  ·cases q
 ·cases q
abbrev z3b (C t:Addr) (d:Option Addr):Obj:={ cls:=.ref C,dict:=d,data:=.fields #[.ref t,.none,.none,.none,.bool false,.none] }
def z5j (a C:Addr) (d:Option Addr):HO:=.ext λ h=>∃t,h.get? a=some (z3b C t d)
theorem y5n {P:Program}{w:World}{H:Hp}{h:Heap}{a C t:Addr}{d:Option Addr}(e:h.get? a=some (z3b C t d)):ObjOk P w H h a (z5j a C d):=⟨⟨t,e⟩,⟨_,e⟩,λ _ _ ⟨t2,q⟩ k=>⟨t2,k _ q⟩⟩
def x0f (d:Addr) (fs:List (Str × V)):HO:=.ext λ h=>fs.length≤1000/\∃mA,h.Ns1 d mA/\(∀f,RelO (fs.lookup f) (mA f))/\PySem.Within mA (fs.map (·.1))
theorem w3y {P:Program}{w:World}{H:Hp}{h:Heap}{d:Addr}{fs:List (Str × V)}{mA:Str->Option Value}(z:fs.length≤1000) (e:h.Ns1 d mA) (r:∀f,RelO (fs.lookup f) (mA f)) (wi:PySem.Within mA (fs.map (·.1))):ObjOk P w H h d (x0f d fs) :=
 ⟨⟨z,mA,e,r,wi⟩,let ⟨o,_,_,q,_⟩:=e;⟨o,q⟩,λ _ _ ⟨z2,m2,n2,r2,w2⟩ k=>⟨z2,m2,let ⟨o,es,ep,q,c⟩:=n2;⟨o,es,ep,k o q,c⟩,r2,w2⟩⟩
section
variable {prog:Program}{w:World}{A:Around}{E:Value->Shared->Prop}{h:Heap}{g:Array GenState}{dr:Drawn}{tk:Nat}{os:OsState}{C:Addr}{bmB:List Value}{B nid initId:String}
theorem x5z {K:W.Frag}{us:List Value}{fI:Addr}{Q:Value->Shared->Prop}(F:ExcBaseFacts B nid initId bmB) (KI:K.In h) (X:HasX h C bmB nid) (hi:W.findIn K (.ref C) "__init__"=some (some (.ref fI))) (hf:W.typeIn K (.ref fI)=some (.type "function"))
  (hq:wpAny (model prog w) (A.under (.builtin "type.__call__" ⟨.ref C::us,[]⟩)) (call (.ref fI) (.ref (h.objs.size+1)::us)) (λ r s2=>r=.none/\Q (.ref (h.objs.size+1)) s2) E ⟨(h.push { cls:=.type "tuple",data:=.seq us.toArray }).push (z3b C h.objs.size none),g,dr,tk,os⟩)
  (hz:us.length≤sizeLine):wpAny (model prog w) A (call (.ref C) us) Q E ⟨h,g,dr,tk,os⟩:=by
 obtain ⟨nm,q,N,bs,bm,sn,sub,ab,col,dd,k0,k1,k2,k3,k5,hC,T⟩:=X.ex
 have tcl:=tc_lookup
 have tcb:=tc_bind (.ref C)
 have isT:(⟨h,g,dr,tk,os⟩:Shared).TypeIs (.ref C) "type" := ⟨_,hC,rfl⟩
 refine wpAny_call (codeAny_of_tree ?_)
 show wpAny _ _ (callAny (.ref C) _) _ _ _
 repeat (any_goals (first | assumption | wp_step | with_reducible refine wpAny_loadPart_at hC ?_))
 refine And.intro rfl (codeAny_call_builtin_at (Code.quiet_builtin _ (by decide +kernel)) entry_typeCall (wpAny_check_type_call_sub hC ?_))
 repeat (first | wp_step | with_reducible refine wpAny_madeBy_exc hC ?_ | with_reducible refine wpAny_loadPart_at hC ?_)
 refine codeAny_call_builtin_code (Code.quiet_builtin _ F.quiet) (wpAny_check_new_subT F T hC (codeAny_exc_new_subT F T hC ?_ hz))
 show wpAny _ _ _ _ _ (⟨(h.push { cls:=.type "tuple",data:=.seq us.toArray }).push (z3b C h.objs.size none),g,dr,tk,os⟩:Shared)
 generalize hh2:(h.push { cls:=.type "tuple",data:=.seq us.toArray }).push (z3b C h.objs.size none)=h2 at hq ⊢
 have kk:∀b o,h.get? b=some o->h2.get? b=some o:=λ b o e=>by rw [← hh2];exact Heap.get?_push_of_some _ (Heap.get?_push_of_some _ e)
 have hg2:h2.get? (h.objs.size+1)=some (z3b C h.objs.size none):=by rw [← hh2];heap_get
 have hC2:=kk _ _ hC
 have cc:(Value.ref C::bm).contains (.ref C)=true:=by simp
 unfold isInstance
 repeat (first | wp_step | with_reducible refine wpAny_loadPart_at hg2 ?_ | (with_reducible refine wpAny_isSubtype_exc hC2 ?_;rw [cc]))
 refine (W.looks_findIn (KI.keeps kk) hi).at ?_
 refine wpAny_holding (wpAny_bind ((W.bind_fn (KI.keeps kk) _ hf).at (wpAny_bind (wpAny_mono hq (λ r s2 hr=>?_) λ _ _ z=>z))))
 obtain ⟨rfl,z⟩:=hr
 wp_walk
 exact z
end
end L2
namespace L2
open PySem PySem.Spec PyProof.Rows Builtin Builtin.ObjectAttr
section
variable {prog:Program}{w:World}{A:Around}{E:Value->Shared->Prop}{h:Heap}{g:Array GenState}{dr:Drawn}{tk:Nat}{os:OsState}{C x:Addr}{bmB:List Value}{B nid initId:String}{K:W.Frag}
theorem x0b {us:List Value}{t:Addr}{d:Option Addr}{Q:Value->Shared->Prop}(F:ExcBaseFacts B nid initId bmB) (X:HasX h C bmB nid) (hx:h.get? x=some (z3b C t d)) (hz:us.length≤sizeLine)
  (hq:∀h2:Heap,h2.get? x=some (z3b C h.objs.size d)->(∀b o,b≠x->h.get? b=some o->h2.get? b=some o)->Q .none ⟨h2,g,dr,tk,os⟩) :
  wpAny (model prog w) A (call (.builtin initId) (.ref x::us)) Q E ⟨h,g,dr,tk,os⟩:=by
 obtain ⟨nm,q,N,bs,bm,sn,sub,ab,col,dd,k0,k1,k2,k3,k5,hC,T⟩:=X.ex
 refine wpAny_call (codeAny_call_builtin F.init.plain F.initEntry (wpAny_check_init_subT F T hC hx rfl ?_))
 wp_walk
 refine hq _ ?_ λ b o ne e=>?_
 ·rw [Heap.get?_update_self _ (Heap.get?_push_of_some _ hx) rfl]
  rfl
 ·rw [Heap.get?_update_other _ _ (Ne.symm ne)]
  exact Heap.get?_push_of_some _ e
def y5f:List Value->Bool
 | .ref _::r=>y5f r
 | l=>l == [.type "ValueError",.type "Exception",.type "BaseException",.type "object"]
theorem z7b (self:Value):∀ {l:List Value},y5f l=true->refuseLoop self "__setattr__" l=pure ()
 | [],e=>by cases e
 | .ref c::r,e=>by rw [refuseLoop_ref];exact z7b self e
 | .type n::r,e=>by rw [beq_iff_eq.mp (show (Value.type n::r == _)=true from e)];exact PySem.F.store_ValueError.passes self
 | .int _ _::r,e | .bool _::r,e | .none::r,e | .str _ _::r,e | .builtin _::r,e | .float _ _::r,e | .bytes _ _::r,e=>by cases e
theorem y3c:∀ {l:List Value},y5f l=true->l.contains (.type "object")=true
 | [],e=>by cases e
 | .ref c::r,e=>by rw [List.contains_cons,y3c (l:=r) e,Bool.or_true]
 | .type n::r,e=>by rw [beq_iff_eq.mp (show (Value.type n::r == _)=true from e)];decide +kernel
 | .int _ _::r,e | .bool _::r,e | .none::r,e | .str _ _::r,e | .builtin _::r,e | .float _ _::r,e | .bytes _ _::r,e=>by cases e
theorem z9u:∀ {l:List Value},y5f l=true->l.contains (.type "BaseException")=true
 | [],e=>by cases e
 | .ref c::r,e=>by rw [List.contains_cons,z9u (l:=r) e,Bool.or_true]
 | .type n::r,e=>by rw [beq_iff_eq.mp (show (Value.type n::r == _)=true from e)];decide +kernel
 | .int _ _::r,e | .bool _::r,e | .none::r,e | .str _ _::r,e | .builtin _::r,e | .float _ _::r,e | .bytes _ _::r,e=>by cases e
structure AtX (K:W.Frag) (C:Addr):Prop where
 over:(W.clsIn K C).any (λ cd=>cd.hasDict && y5f cd.mro)=true
 sa:W.findIn K (.ref C) "__setattr__"=some (some (.builtin "object.__setattr__"))
 ga:W.findIn K (.ref C) "__getattribute__"=some (some (.builtin "BaseException.__getattribute__"))
theorem AtX.cls (a:AtX K C):∃cd,W.clsIn K C=some cd/\cd.hasDict=true/\y5f cd.mro=true:=by
 obtain ⟨cd,hc,q⟩:=W.any_some a.over
 rw [Bool.and_eq_true] at q
 exact ⟨cd,hc,q.1,q.2⟩
theorem w8d {o:Obj}{vs:Array Value}(hx:h.get? x=some o) (hc:o.cls=.ref C) (hd:o.data=.fields vs) (od:Option Obj) (hod:match o.dict,od with | some dx,some ob=>h.get? dx=some ob | none,none=>True | _,_=>False):W.InstAt h x o C od :=
 ⟨hx,hc,by unfold W.notCls;rw [hd],hod⟩
theorem v3t {s:Shared}{ox:Obj}{od:Option Obj}{name:Str}{tn:Tok}{v:Value}{R:Result->Shared->Prop}(KI:K.In s.heap) (I:W.InstAt s.heap x ox C od) (a:AtX K C) (ht:W.takerIn K C name=some none)
  (hq:∀b,wpAny (model prog w) A.in1 (storeInOwnDict (.ref x) (.ref C) (.str name tn) name v b) (λ fin s2=>match fin with | .done f=>R (.ok f) s2 | .again c2=>c2.quiet=true/\codeAny (model prog w) A c2 R s2) (λ e s2=>R (.error e) s2) s) :
  codeAny (model prog w) A (.call (.builtin "object.__setattr__") ⟨[.ref x,.str name tn,v],[]⟩) R s:=by
 obtain ⟨cd,hc,_,ho⟩:=a.cls
 have SO:=PySem.F.store_object
 have nem:cd.mro.isEmpty=false:=by cases q:cd.mro with | nil=>rw [q] at ho;cases ho | cons _ _=>rfl
 have isO:W.Looks (model prog w) s.heap (isInstance (.ref x) (.type "object")) true:=I.type.andThen (W.looks_mroIn KI (by unfold W.mroIn;rw [hc,Option.bind_some,if_neg (by rw [nem];decide),y3c ho]))
 obtain ⟨attr,ha,hr⟩:=Option.bind_eq_some_iff.mp ht
 have L3:W.Looks (model prog w) s.heap (storeTaker? attr) none:=by
  cases attr with
  | none=>exact W.Looks.now
  | some at_ =>
   obtain ⟨b,hb,e⟩:=Option.map_eq_some_iff.mp hr
   cases b with
   | true=>cases e
   | false=>exact (W.looks_takesIn KI hb).andThen W.Looks.now
 refine codeAny_call_builtin SO.slot.plain SO.entry (@W.check_slot (model prog w) _ _ s "object.__setattr__" "object" "__setattr__" (.ref x) [.str name tn,v] [] _ SO.kind SO.split isO (SO.args (.ref x) (.str name tn) v) ?_)
 rw [W.osa_eq,refuse_eq]
 have mr:W.Looks (model prog w) s.heap (mroOf (.ref C)) cd.mro:=(W.looks_clsIn KI hc).andThen W.Looks.now
 refine wpAny_bind (wpAny_bind (I.type.here (wpAny_bind (mr.here ?_))))
 rw [z7b _ ho]
 refine wpAny_pure (wpAny_bind (I.type.here (wpAny_bind ((W.looks_findIn KI ha).here (wpAny_bind (L3.here (hq _)))))))
theorem w9s {name:Str}{v:Value}{t:Addr}{Q:Unit->Shared->Prop}(KI:K.In h) (a:AtX K C) (ht:W.takerIn K C name=some none) (hx:h.get? x=some (z3b C t none))
  (hq:∀(h2:Heap) (tk2:Nat),h2.get? x=some (z3b C t (some h.objs.size))->h2.Ns1 h.objs.size (λ y=>if y=name then some v else none)->(∀b o,b≠x->h.get? b=some o->h2.get? b=some o)->Q () ⟨h2,g,dr,tk2,os⟩) :
  wpAny (model prog w) A (setAttr (.ref x) name v) Q E ⟨h,g,dr,tk,os⟩:=by
 have I:=w8d hx rfl rfl none True.intro
 refine W.set_plain KI I a.sa (v3t (s:=⟨h,g,dr,tk+1,os⟩) KI I a ht λ b=>?_)
 obtain ⟨cd,hc,hdct,_⟩:=a.cls
 have hxs:x≠h.objs.size:=Nat.ne_of_lt (Heap.lt_size hx)
 refine wpAny_bind (wpAny_pure (wpAny_bind (wpAny_bind (wpAny_loadPart hx (wpAny_bind (W.Looks.here (s:=⟨h,g,dr,tk+1,os⟩) (W.looks_clsIn KI hc) ?_))))))
 rw [hdct]
 have hx1:(h.push { cls:=.type "dict",data:=.dict #[] }).get? x=some (z3b C t none):=Heap.get?_push_of_some _ hx
 refine wpAny_bind (wpAny_alloc' (wpAny_bind (wpAny_update' hx1 (wpAny_pure ?_))))
 generalize hU:(h.push { cls:=.type "dict",data:=.dict #[] }).update x (λ o=>{ cls:=o.cls,dict:=some h.objs.size,data:=o.data,slots:=o.slots })=U
 have gx:U.get? x=some (z3b C t (some h.objs.size)):=by rw [← hU];exact Heap.get?_update_self _ hx1 rfl
 have gd:U.get? h.objs.size=some { cls:=.type "dict",data:=.dict #[] }:=by rw [← hU];exact (Heap.get?_update_ne _ _ _ _ (Ne.symm hxs)).trans (Heap.get?_push_at rfl rfl)
 have go:∀b o,b≠x->h.get? b=some o->U.get? b=some o:=λ b o ne e=>by rw [← hU];exact (Heap.get?_update_ne _ _ _ _ ne).trans (Heap.get?_push_of_some _ e)
 have nd:U.Ns h.objs.size (λ _=>none):=⟨_,#[],_,gd,rfl,λ e he=>absurd he (by simp),λ _=>rfl⟩
 show wpAny _ _ (storeInDict h.objs.size _ name v) _ _ _
 unfold storeInDict newKeyGuard
 refine wpAny_bind (wpAny_pure (wpAny_bind (wpAny_nsSet1 (Heap.Ns1.of_empty nd) λ h2 n2 s2=>?_)))
 obtain ⟨oD,esD,epD,hoD,hdD,hcD⟩:=n2.count (PySem.Within.cons name v PySem.Within.nil)
 refine wpAny_bind (wpAny_lookBehind hoD (by rw [hdD];refine pastItsLine_dict (Nat.le_trans hcD ?_);rw [List.length_cons,List.length_nil,sizeLine_eq];lia) ?_)
 exact wpAny_pure (hq _ _ ((s2.2 x hxs).trans gx) n2 λ b o ne e=>(s2.2 b (Nat.ne_of_lt (Heap.lt_size e))).trans (go b o ne e))
theorem v3f {name:Str}{v:Value}{o:Obj}{vs:Array Value}{dx:Addr}{mA:Str->Option Value}{expr:Bool}{Q:Value->Shared->Prop}(KI:K.In h) (a:AtX K C) (hn:W.findIn K (.ref C) name=some none) (hg2:W.findIn K (.ref C) "__getattr__"=some none)
  (hx:h.get? x=some o) (hc:o.cls=.ref C) (hd:o.data=.fields vs) (hdx:o.dict=some dx) (hns:h.Ns1 dx mA) (hv:mA name=some v) (hh:W.handedIn v=true) (hq:Q v ⟨h,g,dr,tk+1,os⟩) :
  wpAny (model prog w) A (getAttr (.ref x) name expr) Q E ⟨h,g,dr,tk,os⟩:=by
 obtain ⟨cd,hcl,hdct,hov⟩:=a.cls
 have FB:=PySem.F.excAttr_ValueError
 obtain ⟨od,ho,hl⟩:=y3h hns
 have I:=w8d hx hc hd (some od) (by rw [hdx];exact ho)
 have LT:W.Looks (model prog w) h (typeOf (.ref x)) (.ref C):=I.type
 have L1:=W.looks_findIn (M:=model prog w) KI a.ga
 have L2':=W.looks_findIn (M:=model prog w) KI hg2
 have nem:cd.mro.isEmpty=false:=by cases q:cd.mro with | nil=>rw [q] at hov;cases hov | cons _ _=>rfl
 have isB:W.Looks (model prog w) h (isInstance (.ref x) (.type "BaseException")) true:=LT.andThen (W.looks_mroIn KI (by unfold W.mroIn;rw [hcl,Option.bind_some,if_neg (by rw [nem];decide),z9u hov]))
 have LF:W.Looks (model prog w) h (find (.ref x) (.ref C) name) (.value v):=W.looks_find KI I (W.findObj_own (by unfold W.hasDictIn;rw [hcl];exact hdct) hn rfl (by rw [hl,hv]))
 have f3:=FB.ga.bind (.ref x)
 have hx0:(expr && onTheHeap (Value.builtin "BaseException.__getattribute__"))=false:=by cases expr<;>rfl
 have hx2:(Value.builtin "BaseException.__getattribute__" == Value.builtin "object.__getattribute__")=false:=by decide +kernel
 have hx1:(onTheHeap (Value.ref C) && Value.builtin "BaseException.__getattribute__" == Value.builtin "object.__getattribute__")=false:=by rw [hx2];rfl
 unfold getAttr getAttrBy
 refine wpAny_bind (wpAny_mkText (wpAny_holding (wpAny_bind (LT.at (wpAny_bind (L1.at ?_))))))
 dsimp only
 rw [hx1,if_neg (by decide)]
 have LH:W.Looks (model prog w) h (hookBefore (.ref C)) none:=W.looks_hook KI hg2
 refine wpAny_bind (LH.at (wpAny_bind (wpAny_attempt (wpAny_holding ?_))))
 unfold callGetattribute
 rw [hx0,if_neg (by decide)]
 unfold boundAndCalled
 rw [f3]
 refine wpAny_bind (wpAny_pure ?_)
 show wpAny _ _ (call (.builtin "BaseException.__getattribute__") [.ref x,.str name tk]) _ _ _
 refine wpAny_call (codeAny_call_builtin FB.ga.plain PySem.F.entry_bexc_ga (@W.check_slot (model prog w) _ _ ⟨h,g,dr,tk+1,os⟩ "BaseException.__getattribute__" "BaseException" "__getattribute__" (.ref x) [.str name tk] [] _ (by decide +kernel) (by decide +kernel) isB (PySem.F.args_bexc_ga _ _) ?_))
 unfold Builtin.«object.__getattribute__»
 refine wpAny_bind (wpAny_pure (wpAny_bind (wpAny_pure (wpAny_bind (LT.at (wpAny_bind (LF.at ?_)))))))
 refine wpAny_pure ?_
 show wpAny _ _ (handedOut v) _ _ _
 rw [W.handedOut_of hh]
 exact wpAny_pure hq
end
def rm (H:Hp) (a:Addr):Hp:=λ b=>if b=a then none else H b
theorem y2l {H:Hp}{a b:Addr}(h:b≠a):rm H a b=H b:=by unfold rm;rw [if_neg h]
theorem w1z {H:Hp}{a:Addr}:rm H a a=none:=by unfold rm;rw [if_pos rfl]
def CX2 (P:Program) (w:World):CXT:=λ outer H s E e s' =>
 ∃(a C dx:Addr) (H':Hp) (B:Heap),e=.ref a/\s'.os=s.os/\AllBare s'.gens/\FlyD B outer a (.ref C) dx .none s'.heap /\
  (∀b o,s.heap.get? b=some o->H b=none->b ∉ frs outer->B.get? b=some o)/\(∀b o,s.heap.get? b=some o->b ∉ frs outer->∃o',B.get? b=some o') /\
  Un (frs outer) [] H H' s.heap s'.heap/\HOk P w H' B/\E (.ref C) (some dx) H'
section
variable {P:Program}{w:World}{K:W.Frag}{mg:Str->Option Value}{base:Heap}{N:List Str}{qual:Str}{scope:Scope}{f:Addr}{cd:Value}{A:Around}{outer:List Env}{s:Shared}{H:Hp}{E:XK}
theorem w8j {H:Hp}{h:Heap}{a C:Addr}{d:Option Addr}{l:List Addr}(ok:HOk P w H h) (ha:H a=some (z5j a C d)) (hl:∀b∈l,H b=none):HOk P w (rm H a) (W.hideAll h (a::l)):=λ b u e=>by
 have ne:b≠a:=λ z=>by rw [z,w1z] at e;cases e
 rw [y2l ne] at e
 have nb:∀c v,H c=some v->c≠a->c ∉ a::l:=λ c v q nc z=>by
  rcases List.mem_cons.mp z with z | z
  ·exact nc z
  ·rw [hl c z] at q;cases q
 have nx:∀c v,H c=some v->v≠z5j a C d->c≠a:=λ c v q nv z=>by rw [z,ha] at q;cases q;exact nv rfl
 refine (ok b u e).stay (λ c v hc q=>W.hideAll_get _ q ?_) (λ c q=>?_) λ c xs q=>?_
 ·rcases hc with z | z
  ·rw [z];exact nb b u e ne
  ·exact nb c _ z (nx c _ z (by unfold z5j;intro z;cases z))
 ·rw [y2l (nx c _ q (by unfold z5j;intro z;cases z))];exact q
 ·rw [y2l (nx c _ q (by unfold z5j;intro z;cases z))];exact q
def x6i (X:Cx) (Ex:XK):Prop:=∀(pins:List (Addr × Obj)) (σ:St) (H:Hp) (s:Shared) (a C dx:Addr),Inv X pins σ H s->H a=some (z5j a C (some dx))->X.s₀.heap.objs.size≤a->Ex (.ref C) (some dx) (rm H a)->X.xe (.ref a) s
theorem x1t:x6i (y5o (CX2 P w) P w K mg base N qual scope f cd A outer s H E) E:=by
 intro pins σ H1 s1 a C dx I ha hnew hE
 have hnew:s.heap.objs.size≤a:=hnew
 have hfr:(y5o (CX2 P w) P w K mg base N qual scope f cd A outer s H E).A.frames=some (envOfC qual scope s.heap.objs.size f cd::outer):=I.ok.frames
 have st:s1.heap.FunFrames base (envOfC qual scope s.heap.objs.size f cd::outer):=I.stack
 obtain ⟨⟨t,hrec⟩,_⟩:=(show ObjOk P w H1 s1.heap a (z5j a C (some dx)) from I.hok a _ ha)
 generalize hB:W.hideAll s1.heap (a::frs (envOfC qual scope s.heap.objs.size f cd::outer))=B
 have f0:w4r B (envOfC qual scope s.heap.objs.size f cd::outer) a (.ref C) dx s1.heap:=by
  rw [← hB]
  exact ⟨λ b o q=>W.of_hideAll _ q,W.hideAll_none _ (.head _),W.funFrames_hide st (λ env he b hb=>List.mem_cons_of_mem _ (w8o env he b hb)),_,_,hrec,⟨rfl,rfl⟩,rfl,rfl⟩
 refine w7q hfr rfl f0 λ h'' fl'' up''=>?_
 have ub:Un (frs outer) [] H H1 s.heap s1.heap:=I.base
 have Bs:=fl''.1
 have na:∀b o,s.heap.get? b=some o->b≠a:=λ b o e z=>Nat.lt_irrefl _ (Nat.lt_of_lt_of_le (Heap.lt_size (z ▸ e)) hnew)
 have stk:∀b,b ∉ frs outer->b < s.heap.objs.size->b ∉ a::frs (envOfC qual scope s.heap.objs.size f cd::outer):=λ b hb hlt z=>by
  rcases List.mem_cons.mp z with q | q
  ·rw [q] at hlt;exact Nat.lt_irrefl _ (Nat.lt_of_lt_of_le hlt hnew)
  ·rcases List.mem_cons.mp (I.stkSub b q) with q | q
   ·have q:b=s.heap.objs.size:=q
    exact Nat.lt_irrefl _ (q ▸ hlt)
   ·exact hb q
 have inB':∀b o,s.heap.get? b=some o->H b=none->b ∉ frs outer->B.get? b=some o:=λ b o e n hb=>by
  rw [← hB];exact W.hideAll_get _ (ub.keep b o e n hb (by simp)) (stk b hb (Heap.lt_size e))
 have thB':∀b o,s.heap.get? b=some o->b ∉ frs outer->∃o',B.get? b=some o':=λ b o e hb=>by
  obtain ⟨o1,e1⟩:=ub.there b o e (by simp)
  exact ⟨o1,by rw [← hB];exact W.hideAll_get _ e1 (stk b hb (Heap.lt_size e))⟩
 have slot:∀b o,s.heap.get? b=some o->H b=none->b∈frs outer->∃sl,h''.get? b=some { o with slots:=sl }:=λ b o e n hb=>by
  obtain ⟨sl1,e1⟩:=ub.slot b o e n hb (by simp)
  obtain ⟨_,o3,e3,nf⟩:=I.ok.funs.mem hb
  have e3:s.heap.get? b=some o3:=e3
  rw [e] at e3;cases e3
  obtain ⟨sl3,e4⟩:=up'' b _ e1 nf
  exact ⟨sl3,e4⟩
 have frf:∀b∈frs outer,H b=none:=I.ok.frf
 have nx:∀c v,H1 c=some v->v≠z5j a C (some dx)->rm H1 a c=some v:=λ c v q nv=>by
  rw [y2l (λ z=>by rw [z,ha] at q;cases q;exact nv rfl)];exact q
 refine ⟨a,C,dx,rm H1 a,B,rfl,I.os,I.bare,fl'',inB',thB',⟨λ b o e n hb _=>Bs _ _ (inB' b o e n hb),λ b o e n hb _=>slot b o e n hb,λ b o e n _=>?_,λ b o e _=>?_,
  λ b xs e=>nx b _ (ub.tups b xs e) (by unfold z5j;intro z;cases z),λ b o u e=>nx b _ (ub.frzs b o u e) (by unfold z5j;intro z;cases z),λ b ps e=>?_⟩,by rw [← hB];exact w8j I.hok ha I.stkFree,hE⟩
 ·rw [y2l (na b o e)];exact ub.free b o e n (by simp)
 ·by_cases hb:b∈frs outer
  ·obtain ⟨sl,q⟩:=slot b o e (frf b hb) hb
   exact ⟨_,q⟩
  ·obtain ⟨o',q⟩:=thB' b o e hb
   exact ⟨o',Bs _ _ q⟩
 ·obtain ⟨more,q⟩:=ub.tbls b ps e
  exact ⟨more,nx b _ q (by unfold z5j;intro z;cases z)⟩
theorem Fun.okX2 {x qual:Str}{st:Stmt}{f:Addr}{fd:FuncData}{N ps:List Str}{k:Nat}{sp:Sp}(F:Fun K x qual st f fd) (S:FnScope N ps (z0m st)) (len:∀vs H Q E,sp vs H Q E->vs.length=ps.length)
  (hbody:∀(cdv:Value) (A:Around) (outer:List Env) (s:Shared) (H:Hp) (vs:List V) (Q:VK) (E:XK),Room k (A.deeper (envOfC qual (z0m st) s.heap.objs.size f cdv))->sp vs H Q E ->
   ∃t,PSs (y5o (CX2 P w) P w K mg base N qual (z0m st) f cdv A outer s H E) (z1a st) t/\t { nx:=λ _ H'=>Q .non H',rt:=Q } (start N vs) H):FnOk P w K mg base (CX2 P w) (k+1) f fd ps sp:=by
 obtain ⟨oc,od,kV,doc,pm,an,cdv,ct,osl,rfl,lk,hcd⟩:=F.ex
 exact w3t lk hcd S len λ A outer s H vs Q E hr hsp=>hbody cdv A outer s H vs Q E hr hsp
end
section
variable {M:Model}{A:Around}{E:Value->Shared->Prop}{env:Env}{C:Addr}{bmB:List Value}{nid:String}
theorem w5z {s:Shared}{v:Sem Value}{Q:Flow->Shared->Prop}(hb:bmB.contains (.type "BaseException")=true) (hh:A.handled=none)
  (q:wpAny M A v (λ u s1=>∃e t d,u=.ref e/\HasX s1.heap C bmB nid/\s1.heap.get? e=some (z3b C t d)/\E (.ref e) s1) E s):wpAny M A (raiseStmt env (some v) none) Q E s:=by
 unfold raiseStmt
 refine wpAny_bind (wpAny_mono q (λ u s1 z=>?_) λ _ _ z=>z)
 obtain ⟨e,t,d,rfl,X,he,hE⟩:=z
 obtain ⟨nm,qn,N,bs,bm,sn,sub,ab,col,dd,k0,k1,k2,k3,k5,hC,T⟩:=X.ex
 obtain ⟨hp,g,dr,tk,os⟩:=s1
 have isB:(Value.ref C::bm).contains (.type "BaseException")=true:=by rw [List.contains_cons,T.hasType hb,Bool.or_true]
 repeat (first | with_reducible refine wpAny_loadPart_at he ?_ | (with_reducible refine wpAny_isSubtype_exc hC ?_;rw [isB]) | with_reducible refine wpAny_loadPart_at hC ?_ | wp_step)
 exact wpAny_raiseNew_none hh hE
end
structure MkX (K:W.Frag) (C f:Addr) (bmB:List Value) (nid:String):Prop where
 cls:w4g K C bmB nid=true
 init:W.findIn K (.ref C) "__init__"=some (some (.ref f))
 fn:W.isFn K (.ref f)=true
 kp:W.keepIn K (.ref C)=true
def x0p (C:Addr) (sp:Sp) (Ex:XK) (t:TA):TS:=λ _ σ H=>t σ H λ vs H1=>vs.length≤sizeLine/\∀a,H1 a=none ->
 sp (.ref a::vs) (upd H1 a (z5j a C none)) (λ v H2=>v=.non/\∃dx,H2 a=some (z5j a C (some dx))/\Ex (.ref C) (some dx) (rm H2 a)) E0
theorem y2r {X:Cx}{x:Str}{C f:Addr}{B nid initId:String}{bm:List Value}{np cpos pos:Pos}{e₀:Expr}{es:List Expr}{t:TA}{Ex:XK}{k:Nat}{fd:FuncData}{ps:List Str}{sp:Sp}
  (FB:ExcBaseFacts B nid initId bm) (hc:X.calm=true) (hg:Gl X x) (hm:X.mg x=some (.ref C)) (M:MkX X.K C f bm nid) (F:FnOk X.prog X.w X.K X.mg X.base CX0 k f fd ps sp) (hr:Room (k+1) X.A) (hbi:Binds X.K fd ps []) (hx:x6i X Ex) (ha:PA X (e₀::es) t)
  (hdb:(x == ("__debug__" : Str))=false:=by decide) (he:starEach (e₀::es) X.env=(false,eval e₀ X.env)::starEach es X.env:=by rfl) (hpl:(backTo cpos (starEach es X.env)).any (·.1)=false:=by rfl) :
  PS X (.Raise (some (.Call (.Name x np) (e₀::es) [] cpos)) none pos) (x0p C sp Ex t):=by
 intro pins s σ H D I h
 rw [arm_exec_Raise]
 show wpAny (model X.prog X.w) X.A (do standAt pos;raiseStmt X.env (some (do let v ← eval (.Call (.Name x np) (e₀::es) [] cpos) X.env;standAt pos;pure v)) none) _ _ s
 refine wpAny_bind (wpAny_standAt (w5z (C:=C) (bmB:=bm) (nid:=nid) FB.hasBase (I.ok.hd hc) (wpAny_bind ?_)))
 refine wpAny_Call_Name_kw (z3o I hg hm ?_ hdb)
 refine W.callWith_K (h₀:=X.base) I.ok.mod.kin M.kp (thn (ha cpos pins s σ H _ I h) λ us s1 ⟨vs,H1,I1,r,hz,q⟩=>⟨I1.kIn,?_⟩) he hpl
 have hzu:us.length≤sizeLine:=by rw [← r.length];exact hz
 obtain ⟨hp,g,dr,tk,os⟩:=s1
 have hX:=v1e I1.kIn M.cls
 have hq:=q (hp.objs.size+1) (I1.hok.fresh (Nat.le_succ _))
 show wpAny _ _ (call (.ref C) us) _ _ _
 refine x5z FB I1.kIn hX M.init (beq_iff_eq.mp M.fn) ?_ hzu
 have gx:((hp.push { cls:=.type "tuple",data:=.seq us.toArray }).push (z3b C hp.objs.size none)).get? (hp.objs.size+1)=some (z3b C hp.objs.size none):=by heap_get
 generalize hh2:(hp.push { cls:=.type "tuple",data:=.seq us.toArray }).push (z3b C hp.objs.size none)=h2 at gx ⊢
 have kk:∀b o,hp.get? b=some o->h2.get? b=some o:=λ b o e=>by rw [← hh2];exact Heap.get?_push_of_some _ (Heap.get?_push_of_some _ e)
 have I2:Inv X pins σ (upd H1 (hp.objs.size+1) (z5j (hp.objs.size+1) C none)) ⟨h2,g,dr,tk,os⟩:=I1.laid (t':=tk) kk (Nat.le_succ _) (y5n gx)
 have r2:Vals (V.ref (hp.objs.size+1)::vs) (Value.ref (hp.objs.size+1)::us):=.cons rfl r
 have hl:(Value.ref (hp.objs.size+1)::us++[]).length=ps.length:=by
  have e:=r2.length
  rw [F.len _ _ _ _ hq] at e
  simpa using e.symm
 have hl2:=hbi ⟨h2,g,dr,tk,os⟩ (Value.ref (hp.objs.size+1)::us) I2.kIn hl
 rw [List.append_nil] at hl2
 refine wpAny_call (codeAny_mono (F.run _ X.stack _ _ ⟨Value.ref (hp.objs.size+1)::us,[]⟩ (Value.ref (hp.objs.size+1)::us) _ _ E0 (hr.make C us []) (I2.env0.make C us []) hl2 r2 hq) λ r s' hq'=>?_)
 cases r with
 | error e=>exact False.elim hq'
 | ok fl =>
  cases fl with
  | ret u =>
   obtain ⟨v,H',I3,rv,ev,dx,ha3,q3⟩:=I2.after hq'
   subst ev
   refine ⟨rv,wpAny_bind (wpAny_standAt (wpAny_pure ?_))⟩
   obtain ⟨⟨t3,hr3⟩,_⟩:=(show ObjOk X.prog X.w H' s'.heap (hp.objs.size+1) (z5j (hp.objs.size+1) C (some dx)) from I3.hok _ _ ha3)
   exact ⟨_,t3,some dx,rfl,v1e I3.kIn M.cls,hr3,hx pins σ H' s' _ C dx I3 ha3 (Nat.le_trans I1.sz (Nat.le_succ _)) q3⟩
  | next=>exact False.elim hq'
  | brk=>exact False.elim hq'
  | cont=>exact False.elim hq'
end L2
namespace L2
open PySem PySem.Spec PyProof.Rows PySem.W
def y8l (a C d:Addr):HO:=.ext λ h=>∃o vs,h.get? a=some o/\o.cls=.ref C/\o.data=.fields vs/\o.dict=some d
theorem w4y {H:Hp}{a:Addr}{o:HO}(h:H a=some o):upd H a o=H:=by
 funext b
 by_cases e:b=a
 ·rw [e,z0d,h]
 ·rw [z0o e]
section
variable {X:Cx}{o e value:Expr}{f:Str}{pos pos' tpos:Pos}{ta tv:TE}
def w0c (K:W.Frag) (bm:List Value) (nid:String) (t:TA):TE:=λ σ H Q=>t σ H λ vs H1=>∃a C d ws,vs=.ref a::ws/\H1 a=some (z5j a C d)/\w4g K C bm nid=true/\ws.length≤sizeLine/\Q .non H1
theorem x7l {x:Str}{C0:Addr}{B nid initId:String}{bm:List Value}{np apos:Pos}{e₀:Expr}{es:List Expr}{t:TA}{pl:Sem Bool}(FB:ExcBaseFacts B nid initId bm) (hg:Gl X x) (hm:X.mg x=some (.ref C0))
  (h1:W.specialIn X.K (.ref C0) "__getattribute__"=some (some (.builtin "type.__getattribute__"))) (h2:W.readsIn X.K C0 (.type "type")=true) (h3:W.findCls X.K (.ref C0) (.type "type") "__init__"=some (.val (.builtin initId)))
  (h4:W.handedIn (.builtin initId)=true) (ha:PA X (e₀::es) t)
  (hb:eval (.Call (.Attribute (.Name x np) "__init__" apos) (e₀::es) [] pos) X.env=(do
   let ov ← eval (.Name x np) X.env
   standAt apos.atName
   let (f,first) ← holding [ov] (getMethod ov "__init__" pl)
   callWith pos f first (backTo pos (starEach (e₀::es) X.env)) (backToKw pos (keywordEach [] X.env))):=by rfl)
  (hdb:(x == ("__debug__" : Str))=false:=by decide) (he:starEach (e₀::es) X.env=(false,eval e₀ X.env)::starEach es X.env:=by rfl) (hpl:(backTo pos (starEach es X.env)).any (·.1)=false:=by rfl) :
  PE X (.Call (.Attribute (.Name x np) "__init__" apos) (e₀::es) [] pos) (w0c X.K bm nid t):=by
 intro pins s σ H Q I h
 refine W.methodCall_KW (pl:=pl) (z3o I hg hm ?_ hdb) hb
 refine W.method_cls I.kIn h1 (W.cls_value I.kIn h2 h3 h4 ?_)
 have hA:=ha pos pins { s with toks:=s.toks+1 } σ H _ (I.tok _) h
 rw [he] at hA ⊢
 refine W.callWith_of (P:=λ _=>True) (by show ((false || (backTo pos (starEach es X.env)).any (·.1)) || false)=false;rw [hpl];rfl) (λ _ _=>⟨.machine,.inr (.inl rfl),W.Looks.of_pure rfl⟩) (Calls.evalArgs_plain (thn hA λ us s1 ⟨vs,H1,I1,r,a,C,d,ws,ev,hH,hc,hz,q⟩=>⟨trivial,?_⟩))
 subst ev
 cases r with
 | cons r0 r =>
  rename_i u us' hAP
  obtain rfl:u=Value.ref a:=r0
  obtain ⟨hp,g,dr,tk,os⟩:=s1
  obtain ⟨⟨t0,hrec⟩,_⟩:=(show ObjOk X.prog X.w H1 hp a (z5j a C d) from I1.hok a _ hH)
  refine x0b FB (v1e I1.kIn hc) hrec (by rw [← r.length];exact hz) λ h2 hx2 kk=>⟨.non,H1,?_,rfl,q⟩
  have J:=I1.write (x:=a) (e:=a) (o:=z5j a C d) (h':=h2) (t':=tk) (by rw [hH];exact True.intro) (.inl rfl) kk ⟨_,hx2⟩ (y5n hx2)
  rw [w4y hH] at J
  exact J
def v2f (K:W.Frag) (ta tv:TE) (f:Str):TS:=λ D σ H=>tv σ H λ y H1=>ta σ H1 λ x H2=>∃a C,x=.ref a/\H2 a=some (z5j a C none)/\AtX K C/\NoAttr K C f /\
 ∀dx,H2 dx=none->dx≠a->D.nx σ (upd (upd H2 dx (x0f dx [(f,y)])) a (z5j a C (some dx)))
theorem w6l (ha:PE X o ta) (hv:PE X value tv) (hs:swapsWith value (some (.Attribute o f pos')) pos.line X.env=pure false):PS X (.Assign [.Attribute o f pos'] value pos) (v2f X.K ta tv f):=by
 intro pins s σ H D I h
 refine plainObj_wpAny_Assign_Attribute (thn (hv pins s σ H _ I h) λ u s1 ⟨y,H1,I1,ry,q⟩=>thn (ha pins s1 σ H1 _ I1 q) λ ov s2 ⟨x,H2,I2,rx,a,C,ex,ea,c,n,q2⟩=>?_) hs
 subst ex
 obtain rfl:ov=Value.ref a:=rx
 obtain ⟨hp,g,dr,tk,os⟩:=s2
 obtain ⟨⟨t0,hrec⟩,_⟩:=(show ObjOk X.prog X.w H2 hp a (z5j a C none) from I2.hok a _ ea)
 refine w9s I2.kIn c n.taker hrec λ h2 tk2 hx2 hn2 kk=>⟨σ,_,?_,q2 hp.objs.size (I2.hok.fresh (Nat.le_refl _)) (Nat.ne_of_gt (Heap.lt_size hrec))⟩
 have Hd:H2 hp.objs.size=none:=I2.hok.fresh (Nat.le_refl _)
 have nda:hp.objs.size≠a:=Nat.ne_of_gt (Heap.lt_size hrec)
 have nA:∀b v,H2 b=some v->v≠z5j a C none->b≠a:=λ b v e nv z=>by rw [z,ea] at e;cases e;exact nv rfl
 have nA0:∀b,H2 b=none->b≠a:=λ b e z=>by rw [z,ea] at e;cases e
 have nD:∀b v,H2 b=some v->b≠hp.objs.size:=λ b v e z=>by rw [z,Hd] at e;cases e
 have nS:∀b ob,hp.get? b=some ob->b≠hp.objs.size:=λ b ob e=>Nat.ne_of_lt (Heap.lt_size e)
 have keepT:∀b v,H2 b=some v->v≠z5j a C none->upd (upd H2 hp.objs.size (x0f hp.objs.size [(f,y)])) a (z5j a C (some hp.objs.size)) b=some v:=λ b v e nv=>by
  rw [z0o (nA b v e nv),z0o (nD b v e)];exact e
 refine I2.un (h':=h2) (t':=tk2) ⟨λ b ob e n' _ _=>kk b ob (nA0 b n') e,λ b ob e n' _ _=>⟨ob.slots,kk b ob (nA0 b n') e⟩,λ b ob e n' _=>?_,λ b ob e _=>?_,λ b xs e=>keepT b _ e (by unfold z5j;intro z;cases z),λ b ob v e=>keepT b _ e (by unfold z5j;intro z;cases z),λ b ps e=>⟨#[],?_⟩⟩ λ b v e=>?_
 ·rw [z0o (nA0 b n'),z0o (nS b ob e)];exact n'
 ·by_cases hb:b=a
  ·exact ⟨_,hb ▸ hx2⟩
  ·exact ⟨ob,kk b ob hb e⟩
 ·rw [keepT b _ e (by unfold z5j;intro z;cases z)];simp
 ·by_cases hb:b=a
  ·subst hb;rw [z0d] at e;cases e;exact y5n hx2
  ·rw [z0o hb] at e
   by_cases hd:b=hp.objs.size
   ·subst hd;rw [z0d] at e;cases e
    refine w3y (by simp) hn2 (λ g2=>?_) λ g2 hg2=>?_
    ·by_cases z:g2=f
     ·subst z;simp only [List.lookup_cons_self,if_true];exact ry
     ·have z2:(g2 == f)=false:=by simpa using z
      rw [List.lookup_cons,z2,if_neg z];exact True.intro
    ·by_cases z:g2=f
     ·simp [z]
     ·exact absurd (if_neg z) hg2
   ·rw [z0o hd] at e
    refine (I2.hok b v e).stay (λ c2 w hc q=>kk c2 w ?_ q) (λ c2 q=>keepT c2 _ q (by unfold z5j;intro z;cases z)) λ c2 xs q=>keepT c2 _ q (by unfold z5j;intro z;cases z)
    rcases hc with z | z
    ·rw [z];exact hb
    ·exact nA c2 _ z (by unfold z5j;intro z;cases z)
def v3l (K:W.Frag) (ta tv:TE) (f:Str):TS:=λ D σ H=>tv σ H λ y H1=>ta σ H1 λ x H2=>∃a C dx fs,x=.ref a/\H2 a=some (z5j a C (some dx))/\H2 dx=some (x0f dx fs)/\AtX K C/\NoAttr K C f/\fs.length < 1000 /\
 D.nx σ (upd H2 dx (x0f dx (v0n f y fs)))
def w1k (K:W.Frag) (ta:TE) (f:Str):TE:=λ σ H Q=>ta σ H λ x H1=>∃a C d fs v,x=.ref a/\H1 a=some (y8l a C d)/\H1 d=some (x0f d fs)/\AtX K C/\NoAttr K C f/\NoAttr K C "__getattr__" /\ fs.lookup f=some v/\Q v H1
theorem w2n (he:PE X e ta) (hb:attributeBase e f X.env (eval e X.env)=eval e X.env):PE X (.Attribute e f pos) (w1k X.K ta f):=by
 intro pins s σ H Q I h
 refine w4j hb (thn (he pins s σ H _ I h) λ u s1 ⟨x,H1,I1,rx,a,C,d,fs,v,ex,ea,ed,c,n,n2,l,q⟩=>?_)
 subst ex
 obtain rfl:u=Value.ref a:=rx
 obtain ⟨hp,g,dr,tk,os⟩:=s1
 obtain ⟨⟨o1,vs1,ho,hcl,hdt,hdi⟩,_⟩:=(show ObjOk X.prog X.w H1 hp a (y8l a C d) from I1.hok a _ ea)
 obtain ⟨⟨_,mA,hn,rr,_⟩,_⟩:=(show ObjOk X.prog X.w H1 hp d (x0f d fs) from I1.hok d _ ed)
 obtain ⟨w',hw,rw'⟩:=RelO.some_of (v:=v) (o:=mA f) (by rw [← l];exact rr f)
 exact v3f I1.kIn c n n2 ho hcl hdt hdi hn hw (x4l rw') ⟨v,H1,I1.tok _,rw',q⟩
theorem y3y {C:Addr}{c:Addr}{b:Bool}(k:ExcK X.K C) (e:kitOne X.K (.ref C) (.ref c)=some b) :
  z4l X (.builtin "isinstance") (λ xs H Q=>∃a d,xs=[.ref a,.ref c]/\H a=some (y8l a C d)/\Q (.bl b) H):=by
 intro pins s σ H xs us Q I r h
 obtain ⟨a,d,rfl,ha,q⟩:=h
 obtain ⟨u,u',rfl,r1,r2⟩:=y8m r
 cases (show u=Value.ref a from r1)
 cases (show u'=Value.ref c from r2)
 obtain ⟨⟨o1,vs1,ho,hcl,hdt,_⟩,_⟩:=(show ObjOk X.prog X.w H s.heap a (y8l a C d) from I.hok a _ ha)
 exact kia_one (y1n k) I.kIn ⟨o1,vs1,ho,hcl,hdt⟩ e (λ z=>nomatch z) λ tk=>⟨.bl b,H,I.tok tk,rfl,q⟩
end
def x5u (C:Addr) (i:Nat) (ts:TS) (D:Ends):St->XK:=λ σ1 cls d H1=>cls=.ref C/\∃dx,d=some dx/\∀a,H1 a=none->ts (z7n D i) (σ1.set i (some (.ref a))) (upd H1 a (y8l a C dx))
def w9u (C:Addr) (i:Nat) (tb:(St->XK)->TS) (ts:TS):TS:=λ D σ H=>tb (x5u C i ts D) D σ H
theorem x7k {X:Cx}{K:W.Frag}{e:Expr}{f:Str}{pos:Pos}{ta:TE}(hK:X.K=K) (he:PE X e ta) (hb:attributeBase e f X.env (eval e X.env)=eval e X.env):PE X (.Attribute e f pos) (w1k K ta f):=by
 subst hK
 exact w2n he hb
def CompZI (K:PySem.W.Frag) (k:Nat) (js:List Nat) (g:TG) (tc:TT) (te:TE) (σ:St) (vs:List V) (H1:Hp) (Q:VK):Prop:=∃a b xs ys,vs=[.ref a,.ref b]/\SqT K H1 a xs/\SqT K H1 b ys/\∃W:Nat->Nat->List V->St->Hp->Prop,(∃m,W 0 m [] (z1k k js σ) H1)/\∀i m zs σ' H',W i m zs σ' H' ->
  ((Itz K a b).stop i H'/\∀p,H' p=none->Q (.ref p) (upd H' p (.lst zs))) \/
  ((Itz K a b).go i H'/\zs.length < sizeLine/\∃N:List V->St->Hp->Prop,(∀zs σ2 H2,N zs σ2 H2->∃m',m' < m/\W (i+1) m' zs σ2 H2)/\∀x H2,(Itz K a b).yld i H' x H2->g x σ' H2 λ σ3 H3=>tc σ3 H3 λ b H4=>if b=true then te σ3 H4 λ v H5=>N (zs++[v]) σ3 H5 else N zs σ3 H4)
theorem x5m {K:W.Frag}{k:Nat}{js:List Nat}{ta:TA}{g:TG}{tc:TT}{te:TE}{σ:St}{H:Hp}{Q:VK}:z6y (v1a K ta) k js g tc te σ H Q=ta σ H λ vs H1=>CompZI K k js g tc te σ vs H1 Q:=rfl
theorem CompZI.mk {K:W.Frag}{a b:Addr}{xs ys:List V}{k:Nat}{js:List Nat}{g:TG}{tc:TT}{te:TE}{Q:VK}{σ:St}{H:Hp}(n:Nat) (hn:n=min xs.length ys.length) (h1:SqT K H a xs) (h2:SqT K H b ys) (Pv:Nat->List V->St->Hp->Prop) (h0:Pv 0 [] (z1k k js σ) H) (hl:∀i zs σ H,i≤n->Pv i zs σ H->SqT K H a xs/\SqT K H b ys/\zs.length < sizeLine)
  (hs:∀i x y zs σ H T,i < n->xs[i]?=some x->ys[i]?=some y->Pv i zs σ H->H T=none->g (.ref T) σ (upd H T (.tup [x,y])) λ σ3 H3=>tc σ3 H3 λ b H4=>if b=true then te σ3 H4 λ v H5=>Pv (i+1) (zs++[v]) σ3 H5 else Pv (i+1) zs σ3 H4) (hz:∀zs σ H,Pv n zs σ H->∀p,H p=none->Q (.ref p) (upd H p (.lst zs))) :
  CompZI K k js g tc te σ [.ref a,.ref b] H Q:=by
 subst hn
 refine ⟨a,b,xs,ys,rfl,h1,h2,λ i m zs σ H=>m=min xs.length ys.length - i/\i≤min xs.length ys.length/\Pv i zs σ H,⟨_,rfl,Nat.zero_le _,h0⟩,?_⟩
 rintro i m zs σ H ⟨rfl,hi,p⟩
 obtain ⟨k1,k2,k3⟩:=hl i zs σ H hi p
 by_cases hlt:i < min xs.length ys.length
 ·have l1:i < xs.length:=by lia
  have l2:i < ys.length:=by lia
  refine .inr ⟨⟨xs,ys,_,_,k1,k2,List.getElem?_eq_getElem l1,List.getElem?_eq_getElem l2⟩,k3,Pv (i+1),λ zs' σ' H' p'=>⟨min xs.length ys.length - (i+1),by lia,rfl,hlt,p'⟩,λ v H' yy=>?_⟩
  obtain ⟨T,x,y,rfl,hT,rfl,ex⟩:=yy
  obtain ⟨ex1,ex2⟩:=ex xs ys k1 k2
  exact hs i x y zs σ H T hlt ex1 ex2 p hT
 ·have e:i=min xs.length ys.length:=by lia
  exact .inl ⟨⟨xs,ys,k1,k2,by lia⟩,hz zs σ H (e ▸ p)⟩
structure CalM (P:Program) (w:World) (K:W.Frag) (mg:Str->Option Value) (base:Heap) (CX:CXT) (k:Nat) (C:Addr) (m:Str) (ps:List Str) (sp:Sp):Prop where
 has:∃(f:Addr) (fd:FuncData),FnOk P w K mg base CX k f fd ps sp/\Meth K C m f/\Binds K fd ps []
theorem CalM.mono {P:Program}{w:World}{K:W.Frag}{mg:Str->Option Value}{base:Heap}{CX:CXT}{j k:Nat}{C:Addr}{m:Str}{ps:List Str}{sp:Sp}(c:CalM P w K mg base CX j C m ps sp) (h:j≤k):CalM P w K mg base CX k C m ps sp :=
 let ⟨f,fd,ok,m,b⟩:=c.has;⟨⟨f,fd,ok.mono h,m,b⟩⟩
structure MakC (P:Program) (w:World) (K:W.Frag) (mg:Str->Option Value) (base:Heap) (CX:CXT) (k:Nat) (C:Addr) (x:Str) (ps:List Str) (sp:Sp):Prop where
 has:∃(f:Addr) (fd:FuncData),FnOk P w K mg base CX k f fd ps sp/\Mk K C f/\Binds K fd ps []/\mg x=some (.ref C)
theorem MakC.mono {P:Program}{w:World}{K:W.Frag}{mg:Str->Option Value}{base:Heap}{CX:CXT}{j k:Nat}{C:Addr}{x:Str}{ps:List Str}{sp:Sp}(c:MakC P w K mg base CX j C x ps sp) (h:j≤k):MakC P w K mg base CX k C x ps sp :=
 let ⟨f,fd,ok,m,b,g⟩:=c.has;⟨⟨f,fd,ok.mono h,m,b,g⟩⟩
section
variable {X:Cx}{CX:CXT}{k:Nat}{f C:Addr}{fd:FuncData}{ps:List Str}{sp:Sp}{dvs:List V}{ds:List Value}{E:XK}{EE:St->XK}{x m:Str}{p pos apos:Pos}{e o:Expr}{es:List Expr}{ta:TE}{t:TA}
def w5k (C:Addr) (m:Str) (sp:Sp) (EE:St->XK) (ta:TE) (t:TA):TE:=λ σ H Q=>ta σ H λ x H1=>∃a dx fs,x=.ref a/\H1 a=some (.ins C dx fs)/\fs.lookup m=none/\t σ H1 λ vs H2=>sp (x::vs) H2 Q (EE σ)
def w5l (C:Addr) (sp:Sp) (EE:St->XK) (t:TA):TE:=λ σ H Q=>t σ H λ vs H1=>∀x dx,H1 x=none->H1 dx=none->dx≠x->sp (.ref x::vs) (upd (upd H1 dx (.own x)) x (.ins C dx [])) (λ v H2=>v=.non/\Q (.ref x) H2) (EE σ)
end
section
variable {X:Cx}
end
section
open PySem.Builtin PySem.Builtin.Str
theorem y3g (x:Str) (c:Nat):∀(m i:Nat) (st:Array Nat × Nat),1≤st.1.size->(forIn (List.range' i m) st (StrLaws.occBody x ⟨#[c]⟩ x.length 1)).run.fst.toList=st.1.toList
 | 0,i,st,_=>rfl
 | m+1,i,st,h=>by
  rw [List.range'_succ,List.forIn_cons]
  unfold StrLaws.occBody
  rw [if_neg (λ z=>by have:=z.1.1.1;lia)]
  exact y3g x c m (i+1) _ h
theorem y1e (x:Str) (c:Nat):∀(m i k:Nat),i+m=x.length+1->k≤i ->
  (forIn (List.range' i m) ((#[],k):Array Nat × Nat) (StrLaws.occBody x ⟨#[c]⟩ x.length 1)).run.fst.toList=(z8m c (x.cps.toList.drop i) i).take 1
 | 0,i,k,hi,_=>by
  have e:x.cps.toList.drop i=[]:=List.drop_eq_nil_of_le (by simp [Str.length] at hi ⊢;lia)
  rw [e];simp [z8m]
 | m+1,i,k,hi,h1=>by
  rw [List.range'_succ,List.forIn_cons]
  have key:=StrLaws.subAt_one x c i
  unfold StrLaws.occBody
  cases e:x.cps.toList[i]? with
  | none =>
   have en:x.cps.toList.drop i=[]:=List.drop_eq_nil_of_le (List.getElem?_eq_none_iff.mp e)
   rw [if_neg (λ z=>by have:=key.mp ⟨z.1.2,z.2⟩;rw [e] at this;cases this)]
   refine (y1e x c m (i+1) _ (by lia) (by show k≤i+1;lia)).trans ?_
   rw [en,List.drop_eq_nil_of_le (by have:=List.getElem?_eq_none_iff.mp e;lia)]
   simp [z8m]
  | some d =>
   have hl:=(List.getElem?_eq_some_iff.mp e).1
   have ed:x.cps.toList.drop i=d::x.cps.toList.drop (i+1):=by
    rw [List.drop_eq_getElem_cons hl];congr 1;exact (List.getElem?_eq_some_iff.mp e).2
   by_cases z:d=c
   ·subst z
    obtain ⟨k1,k2⟩:=key.mpr e
    rw [if_pos ⟨⟨⟨(by show (0:Nat) < 1;decide),h1⟩,k1⟩,k2⟩]
    refine (y3g x d m (i+1) (#[].push i,i+1) (by show 1≤(#[].push i).size;simp)).trans ?_
    rw [ed,z8m,if_pos rfl];simp
   ·rw [if_neg (λ y=>by have:=key.mp ⟨y.1.2,y.2⟩;rw [e] at this;exact z (Option.some.inj this))]
    refine (y1e x c m (i+1) _ (by lia) (by show k≤i+1;lia)).trans ?_
    rw [ed,z8m,if_neg z]
theorem w2y (x:Str) (c:Nat):occurrences x ⟨#[c]⟩ 0 x.length 1=(z8m c x.cps.toList 0).take 1:=by
 rw [StrLaws.occ_eq]
 have:=y1e x c (x.length+1) 0 0 (by lia) (Nat.le_refl _)
 rw [Nat.sub_zero,this]
 simp
variable {X:Cx}
def w6c:V->List V->Hp->VK->Prop:=λ x ys H Q=>∃(t:Str) (c:Nat),x=.str t/\ys=[.str ⟨#[c]⟩]/\t.length≤4000000/\∀l u v,H l=none->Q (.ref l) (upd H l (.tup [.str (z1p ((z0x c t.cps.toList).headD [])),.str u,.str v]))
end
section
variable {X:Cx}
theorem y5v:∀ {ps:List Addr}{us:List Value},Vals (ps.map V.ref) us->us=ps.map Value.ref
 | [],_,r=>by rw [List.map_nil] at r;cases r;rfl
 | p::ps,_,r=>by
  rw [List.map_cons] at r
  cases r with
  | cons h t=>cases h;rw [y5v t];rfl
def w2a:V->List V->Hp->VK->Prop:=λ x ys H Q=>∃(a b:Addr) (ps:List Addr) (xs:List V) (j:Nat),x=.ref a/\ys=[.ref b]/\H a=some (.lst (ps.map V.ref))/\H b=some (.tup xs)/\xs.all z1r=true/\(∀p∈ps,∃zs,H p=some (.tup zs)/\zs.all z1r=true) /\
 (∃p,ps[j]?=some p/\H p=some (.tup xs))/\(∀m p zs,m < j->ps[m]?=some p->H p=some (.tup zs)->x0e zs xs=false)/\Q .non (upd H a (.lst ((ps.eraseIdx j).map V.ref)))
def w2c (K:W.Frag):V->List V->Hp->VK->Prop:=λ x ys H Q=>∃a xs y,x=.ref a/\ys=[y]/\SqL K H a xs/\xs.all z1r=true/\z1r y=true/\Q (.int (xs.countP λ z=>eqV z y)) H
end
open Builtin Builtin.Str in
def y2m (x y z:Str):Str:=if (occurrences x y 0 x.length 1).isEmpty=true then x else glued z (partsBetween x (occurrences x y 0 x.length 1) y.length)
open Builtin Builtin.Str in
theorem y9v {x y z:Str}{t u v k:Tok}(yl:(y.length == 0)=false) (u0:u≠0) (v0:v≠0) (uv:u≠v) (yz:(y == z)=false) (hl:tooLong (x.length+(occurrences x y 0 x.length 1).length * z.length)=false) :
  Gives («str.replace» ⟨[.str x t,.str y u,.str z v,.int 1 k],[]⟩) (if (occurrences x y 0 x.length 1).isEmpty=true then .val (.str x t) else .str (glued z (partsBetween x (occurrences x y 0 x.length 1) y.length))):=by
 show Gives (if ((occurrences x y 0 x.length 1).isEmpty || (y.length == 0 && z.length == 0))=true then (do rule "str.replace.nothing";ret (.str x t)) else (do let sm ← isSame (.str y u) (.str z v);if sm=true then (do rule "str.replace.old-is-new";ret (.str x t)) else if tooLong (x.length+(occurrences x y 0 x.length 1).length * z.length)=true then unsupported "str.replace:memory" else retStr (glued z (partsBetween x (occurrences x y 0 x.length 1) y.length)))) _
 rw [yl,Bool.false_and,Bool.or_false]
 cases c:(occurrences x y 0 x.length 1).isEmpty
 ·rw [isSame_str_other y z u v (by simp [u0,v0]) (by simp [uv]) yz,hl]
  exact .of_eq rfl
 ·exact .rule (.of_eq rfl)
open Builtin Builtin.Str in
theorem w2z (x y:Str):(occurrences x y 0 x.length 1).length≤1:=StrLaws.occ_length_le x y 0 x.length 1
open Builtin Builtin.Str in
theorem x5v {prog:Program}{w:World}{A:Around}{E:Value->Shared->Prop}{s:Shared}{x y z:Str}{t u v k:Tok}{Q:Value->Shared->Prop}(yl:(y.length == 0)=false) (u0:u≠0) (v0:v≠0) (uv:u≠v) (yz:(y == z)=false) (xl:x.length≤1000000) (zl:z.length≤14)
  (hq:∀t' k',Q (.str (y2m x y z) t') { s with toks:=k' }):wpAny (model prog w) A (call (.builtin "str.replace") [.str x t,.str y u,.str z v,.int 1 k]) Q E s:=by
 have o1:=w2z x y
 have hm:(occurrences x y 0 x.length 1).length * z.length≤1 * 14:=Nat.mul_le_mul o1 zl
 have hl:tooLong (x.length+(occurrences x y 0 x.length 1).length * z.length)=false:=by
  unfold tooLong
  rw [sizeLine_eq]
  exact decide_eq_false (by lia)
 refine call_gives F.slot_str_replace (typeIs_str _ _ _) F.entry_str_replace (F.args_str_replace_4 _ _ _ _) (y9v yl u0 v0 uv yz hl) ?_
 unfold y2m at hq
 cases c:(occurrences x y 0 x.length 1).isEmpty
 ·rw [c] at hq
  simp only [Bool.false_eq_true,if_false] at hq ⊢
  refine ⟨?_,hq _ _⟩
  have hy:(glued y (partsBetween x (occurrences x y 0 x.length 1) y.length)).length=x.length:=by rw [StrLaws.glued_between_self]
  rw [size_glued,length_partsBetween,Nat.add_sub_cancel] at hy ⊢
  rw [sizeLine_eq]
  lia
 ·rw [c] at hq
  simp only [if_true] at hq ⊢
  exact hq t s.toks
section
variable {X:Cx}{st:Stmt}{rest:List Stmt}{t u:TS}{e a b:Expr}{es:List Expr}{te tb:TE}{ta:TA}{pos:Pos}
theorem PE.pet (h:PE X e te):PET X e te:=λ pins s σ H Q _ I q=>h pins s σ H Q I q
theorem PS.pst (h:PS X st t):PST X st t:=λ pins s σ H D _ I q=>h pins s σ H D I q
def PAT (X:Cx) (es:List Expr) (t:TA):Prop:=∀(pos:Pos) (pins:List (Addr × Obj)) (s:Shared) (σ:St) (H:Hp) (Q:List V->Hp->Prop),1≤s.toks->Inv X pins σ H s->t σ H Q ->
 wpAny (model X.prog X.w) X.A (spliced (backTo pos (starEach es X.env))) (λ us s'=>∃xs H',Inv X pins σ H' s'/\Vals xs us/\Q xs H') X.xe s
theorem PA.pat (h:PA X es ta):PAT X es ta:=λ pos pins s σ H Q _ I q=>h pos pins s σ H Q I q
theorem z2c (ha:PET X e te) (hr:PAT X es ta) (hs:starEach (e::es) X.env=(false,eval e X.env)::starEach es X.env:=by rfl):PAT X (e::es) (y4j te ta):=by
 intro pos pins s σ H Q k I h
 rw [hs]
 show wpAny _ _ (spliced ((false,eval e X.env)::backTo pos (starEach es X.env))) _ _ s
 refine Calls.spliced_cons (thn (z2w 1 k (ha pins s σ H _ k I h)) λ u s1 ⟨⟨x,H1,I1,r1,q1⟩,k1⟩=>?_)
 exact thn (hr pos pins s1 σ H1 _ k1 I1 q1) λ us s2 ⟨xs,H2,I2,r2,q2⟩=>⟨x::xs,H2,I2,.cons r1 r2,q2⟩
theorem y5c (h:PAT X es ta):PET X (.List es pos) (w9j ta):=by
 intro pins s σ H Q k I hq
 refine wpAny_List_spliced (thn (h pos pins s σ H _ k I hq) λ us s1 ⟨xs,H1,I1,r,z,q⟩=>⟨by rw [← r.length];exact z,?_⟩)
 have hf:H1 s1.heap.objs.size=none:=I1.hok.fresh (Nat.le_refl _)
 exact ⟨.ref s1.heap.objs.size,upd H1 s1.heap.objs.size (.lst xs),I1.laid (t':=s1.toks) (λ b u e=>Heap.get?_push_of_some _ e) (Nat.le_refl _) ⟨z,us,0,r,Heap.get?_push_size _ rfl⟩,rfl,q _ hf⟩
theorem z2t {op:Operator}{r:R2}(ho:OpR X (binaryOp op) r) (ha:PET X a te) (hb:PET X b tb):PET X (.BinOp a op b pos) (tOp r te tb):=by
 intro pins s σ H Q k I h
 refine wpAny_BinOp (thn (z2w 1 k (ha pins s σ H _ k I h)) λ v s1 ⟨⟨x,H1,I1,r1,q1⟩,k1⟩=>?_)
 exact thn (hb pins s1 σ H1 _ k1 I1 q1) λ u s2 ⟨y,H2,I2,r2,q2⟩=>ho pins s2 σ H2 x y v u Q I2 r1 r2 q2
theorem z1z {i:Nat}{x:Str}{pos':Pos}(hN:X.N.Nodup) (hi:X.N[i]?=some x) (hx:Loc X.env.scope x) (he:PET X e te) (hs:swapsWith e (some (.Name x pos')) pos.line X.env=pure false:=by rfl) (hf:X.fn x=true\/X.env.scope.names.lookup x=some .local:=by first | exact .inl rfl | exact .inr rfl | assumption) :
  PST X (.Assign [.Name x pos'] e pos) (w0f te (z9f i)):=by
 intro pins s σ H D k I h
 refine wpAny_Assign_Name (thn (he pins s σ H _ k I h) λ v s1 ⟨y,H1,I1,r1,q1⟩=>?_) hs
 exact z5t I1 hN hi hx r1 (λ s2 I2=>⟨_,H1,I2,q1⟩) hf
theorem w2e {tg:Expr}{g:TG}(he:PET X e te) (hg:PG X tg g) (hs:swapsWithSole [tg] e pos.line X.env=pure false:=by rfl) (hw:swappedStores [tg] e X.env=pure none:=by rfl)
  (h1:(assignEach [tg] X.env).map (·.2)=[assign tg X.env]:=by rfl):PST X (.Assign [tg] e pos) (w0f te g):=by
 intro pins s σ H D k I h
 refine wpAny_Assign_stores (thn (he pins s σ H _ k I h) λ v s1 ⟨x,H1,I1,r1,q1⟩=>?_) hs hw
 rw [h1]
 exact thn (hg pins s1 σ H1 x v _ I1 r1 q1) λ _ s2 q=>q
theorem z1e (h1:PST X st t) (h2:PSsT X rest u):PSsT X (st::rest) (z1b t u):=by
 intro pins s σ H D k I h
 refine wpAny_execs_cons (thn (z2w 1 k (h1 pins s σ H { D with nx:=u D } k I h)) λ f s1 ⟨q,k1⟩=>?_)
 cases f with
 | next =>
  obtain ⟨σ',H',I',q⟩:=q
  exact h2 pins s1 σ' H' D k1 I' q
 | ret v=>exact q
 | brk=>exact q
 | cont=>exact q
def w5e (y z:Str) (to:TE):TE:=λ σ H Q=>to σ H λ x H1=>∃w:Str,x=.str w/\w.length≤1000000/\(y.length == 0)=false/\(y == z)=false/\z.length≤14/\Q (.str (y2m w y z)) H1
theorem z7k {o:Expr}{y z:Str}{k1 k2 k3:Nat}{p1 p2 p3 apos cpos:Pos}{to:TE}(ho:PE X o to)
  (hbase:attributeBase o (Str.ofString "replace") X.env (eval o X.env)=eval o X.env:=by rfl)
  (hfew:((backTo cpos (starEach [.Constant (.str y) k1 p1,.Constant (.str z) k2 p2,.Constant (.int 1) k3 p3] X.env)).all (λ x=>!x.1) && (backToKw cpos (keywordEach [] X.env)).all (λ x=>x.1.isSome)
   && decide (([.Constant (.str y) k1 p1,.Constant (.str z) k2 p2,.Constant (.int 1) k3 p3]:List Expr).length+([]:List Keyword).length+(if ([]:List Keyword).isEmpty then 0 else 1) < 30))=true:=by rfl)
  (hline:(apos.endLine == cpos.line)=true:=by rfl) (hs:starEach [.Constant (.str y) k1 p1,.Constant (.str z) k2 p2,.Constant (.int 1) k3 p3] X.env=[(false,eval (.Constant (.str y) k1 p1) X.env),(false,eval (.Constant (.str z) k2 p2) X.env),(false,eval (.Constant (.int 1) k3 p3) X.env)]:=by rfl) :
  PET X (.Call (.Attribute o (Str.ofString "replace") apos) [.Constant (.str y) k1 p1,.Constant (.str z) k2 p2,.Constant (.int 1) k3 p3] [] cpos) (w5e y z to):=by
 intro pins s σ H Q k I h
 refine wpAny_Call_method_late hbase hfew hline rfl (thn (z2w 1 k (ho pins s σ H _ I h)) λ v s1 ⟨⟨x,H1,I1,r1,q1⟩,kk⟩=>?_)
 obtain ⟨w,rfl,wl,yl,yz,zl,q⟩:=q1
 obtain ⟨h1,h2⟩:=y5z I1 r1 (T := "str") rfl
 obtain ⟨tk,rfl⟩:=r1
 refine ⟨"str","str.replace",PySem.F.plainAttrs_str,PySem.F.slot_str_replace,PySem.F.type_str_replace,h1,h2,?_⟩
 rw [hs]
 refine Calls.callWith_builtin rfl (Calls.evalArgs_plain ?_)
 show wpAny _ _ (spliced ((false,eval (.Constant (.str y) k1 p1) X.env)::[(false,eval (.Constant (.str z) k2 p2) X.env),(false,eval (.Constant (.int 1) k3 p3) X.env)])) _ _ s1
 refine Calls.spliced_cons (Calls.Constant_str (Calls.spliced_cons (Calls.Constant_str (Calls.spliced_cons (wpAny_Constant_int (Calls.spliced_nil ?_))))))
 exact x5v yl (Nat.ne_of_gt kk) (Nat.succ_ne_zero _) (Nat.ne_of_lt (Nat.lt_succ_self _)) yz wl zl λ t' k'=>⟨.str _,H1,I1.kept (λ _ _ e=>e),⟨t',rfl⟩,q⟩
end
structure FnOkK (P:Program) (w:World) (K:W.Frag) (mg:Str->Option Value) (base:Heap) (CX:CXT) (k:Nat) (f:Addr) (fd:FuncData) (ps:List Str) (sp:Sp):Prop where
 len:∀vs H Q E,sp vs H Q E->vs.length=ps.length
 run:∀(A:Around) (outer:List Env) (s:Shared) (H:Hp) (args:Args) (us:List Value) (vs:List V) (Q:VK) (E:XK),1≤s.toks->Room k A->Env0 P w K mg base A outer s H->BindsTo s fd args (ps.zip us)->Vals vs us->sp vs H Q E->codeAny (model P w) A (.call (.ref f) args) (CR CX outer P w H s Q E) s
theorem FnOkK.mono {P:Program}{w:World}{K:W.Frag}{mg:Str->Option Value}{base:Heap}{CX:CXT}{j k:Nat}{f:Addr}{fd:FuncData}{ps:List Str}{sp:Sp}(F:FnOkK P w K mg base CX j f fd ps sp) (h:j≤k):FnOkK P w K mg base CX k f fd ps sp:=⟨F.len,λ A outer s H args us vs Q E h1 hr=>F.run A outer s H args us vs Q E h1 (hr.mono h)⟩
theorem w8p {CX:CXT}{P:Program}{w:World}{K:W.Frag}{mg:Str->Option Value}{base:Heap}{k:Nat}{f:Addr}{name qual:Str}{params:Arguments}{body:List Stmt}{scope:Scope}{dV kV doc pm cdv ct oc:Value}{an od:Option Addr}
  {osl:Array (Option Value)}{N ps:List Str}{sp:Sp}(lk:K.lookup f=some ⟨oc,od,.func (W.fnOf name qual params body scope dV kV doc pm an cdv ct),osl⟩) (hcd:W.codeIn K cdv qual=true) (S:FnScope N ps scope) (len:∀vs H Q E,sp vs H Q E->vs.length=ps.length)
  (hbody:∀(A:Around) (outer:List Env) (s:Shared) (H:Hp) (vs:List V) (Q:VK) (E:XK),Room k (A.deeper (envOfC qual scope s.heap.objs.size f cdv))->sp vs H Q E->∃t,PSsT (y5o CX P w K mg base N qual scope f cdv A outer s H E) body t/\t { nx:=λ _ H'=>Q .non H',rt:=Q } (start N vs) H) :
  FnOkK P w K mg base CX (k+1) f (W.fnOf name qual params body scope dV kV doc pm an cdv ct) ps sp:=by
 refine ⟨len,λ A outer s H args us vs Q E tk1 hr e0 hb r hsp=>?_⟩
 have hl:=len _ _ _ _ hsp
 have KX:K.In s.heap:=e0.mod.kin.keeps λ b o e=>(e0.bs b o e).1
 have lim:s.heap.NoLimit:=e0.mod.nolimit.keeps λ b o e=>(e0.bs b o e).1
 have hkind:∀y∈ps.zip us,scope.names.lookup y.1=some .local\/(scope.names.lookup y.1=some .cell/\((cellsFrom (s.heap.objs.size+1) scope.names []).lookup y.1).isSome=true):=λ ⟨n,v⟩ hy=>(S.par n (List.of_mem_zip hy).1).imp id λ q=>⟨q,W.cellsFrom_some _ _ _ (.inl q)⟩
 refine codeAny_call_function hr.depth (KX _ _ lk) rfl S.co S.gen rfl (W.codeRec_of KX hcd) (hb _ _ _ _ ?_)
 refine wpAny_mono (z2w 1 tk1 (Q:=λ env s1=>1≤s1.toks->_) (wpAny_newFunctionEnv_cells S.kind hkind λ env he s1 x k1=>?_)) (λ env s1 ⟨q,k1⟩=>q k1) λ e s' hs=>hs
 subst he
 refine ⟨lim.keeps x.toInCall.keep,codeAny_func ?_⟩
 obtain ⟨t,ht,hq⟩:=hbody A outer s H vs Q E (hr.deeper _) hsp
 have I:Inv (y5o CX P w K mg base N qual scope f cdv A outer s H E) [] (start N vs) H s1:=y3o S hr.hd e0 hl r x
 refine wpAny_mono (ht [] s1 (start N vs) H _ k1 I hq) (λ fl s' hs=>?_) λ e s' hs=>hs
 have fin:∀ {σ':St}{H':Hp}{v:V}{u:Value},Inv (y5o CX P w K mg base N qual scope f cdv A outer s H E) [] σ' H' s'->RelV v u->Q v H'->CE outer P w H s Q u s':=λ {σ' H' v u} J rv q=>⟨v,H',J.os,J.bare,J.base,J.hok,rv,q⟩
 cases fl with
 | ret u=>obtain ⟨v,σ',H',J,rv,q⟩:=hs;exact fin J rv q
 | next=>obtain ⟨σ',H',J,q⟩:=hs;exact fin (v:=V.non) (u:=Value.none) J rfl q
 | brk=>obtain ⟨_,_,_,q⟩:=hs;exact q.elim
 | cont=>obtain ⟨_,_,_,q⟩:=hs;exact q.elim
theorem PSsT.nox {X:Cx}{sts:List Stmt}{t:TS}(h:PSsT X.nox sts t):PSsT X sts t:=λ pins s σ H D k I hw=>wpAny_mono (h pins s σ H D k (I.wish _) hw) (λ _ _ q=>q.unwish) λ _ _ z=>False.elim z
theorem Fun.okK {P:Program}{w:World}{K:W.Frag}{mg:Str->Option Value}{base:Heap}{x qual:Str}{st:Stmt}{f:Addr}{fd:FuncData}{N ps:List Str}{k:Nat}{sp:Sp}(F:Fun K x qual st f fd) (S:FnScope N ps (z0m st)) (len:∀vs H Q E,sp vs H Q E->vs.length=ps.length)
  (hbody:∀(cdv:Value) (A:Around) (outer:List Env) (s:Shared) (H:Hp) (vs:List V) (Q:VK) (E:XK),Room k (A.deeper (envOfC qual (z0m st) s.heap.objs.size f cdv))->sp vs H Q E->∃t,PSsT (y5o CX0 P w K mg base N qual (z0m st) f cdv A outer s H E).nox (z1a st) t/\t { nx:=λ _ H'=>Q .non H',rt:=Q } (start N vs) H):FnOkK P w K mg base CX0 (k+1) f fd ps sp:=by
 obtain ⟨oc,od,kV,doc,pm,an,cdv,ct,osl,rfl,lk,hcd⟩:=F.ex
 refine w8p lk hcd S len λ A outer s H vs Q E hr hsp=>?_
 obtain ⟨t,h,q⟩:=hbody cdv A outer s H vs Q E hr hsp
 exact ⟨t,h.nox,q⟩
structure CalleeK (P:Program) (w:World) (K:W.Frag) (mg:Str->Option Value) (base:Heap) (CX:CXT) (k:Nat) (x:Str) (ps:List Str) (sp:Sp):Prop where
 has:∃(f:Addr) (fd:FuncData),FnOkK P w K mg base CX k f fd ps sp/\mg x=some (.ref f)/\W.keepIn K (.ref f)=true/\Binds K fd ps []
theorem CalleeK.mk' {P:Program}{w:World}{K:W.Frag}{mg:Str->Option Value}{base:Heap}{CX:CXT}{k:Nat}{x qual:Str}{st:Stmt}{f:Addr}{fd:FuncData}{ps:List Str}{sp:Sp}(F:Fun K x qual st f fd) (m:mg x=some (.ref f)) (b:Binds K fd ps []) (ok:FnOkK P w K mg base CX k f fd ps sp):CalleeK P w K mg base CX k x ps sp:=⟨⟨f,fd,ok,m,F.kp,b⟩⟩
theorem CalleeK.mono {P:Program}{w:World}{K:W.Frag}{mg:Str->Option Value}{base:Heap}{CX:CXT}{j k:Nat}{x:Str}{ps:List Str}{sp:Sp}(c:CalleeK P w K mg base CX j x ps sp) (h:j≤k):CalleeK P w K mg base CX k x ps sp:=let ⟨f,fd,ok,m,kp,b⟩:=c.has;⟨⟨f,fd,ok.mono h,m,kp,b⟩⟩
section
variable {X:Cx}{CX:CXT}{k:Nat}{f:Addr}{fd:FuncData}{ps:List Str}{sp:Sp}{E:XK}{x:Str}{p pos:Pos}{e:Expr}{es:List Expr}{te:TE}{t:TA}{st:Stmt}{rest:List Stmt}{ts u:TS}
theorem w1v {pins:List (Addr × Obj)}{σ:St}{H:Hp}{s:Shared}{Q:VK}{us:List Value}{vs:List V}(F:FnOkK X.prog X.w X.K X.mg X.base CX k f fd ps sp) (hr:Room k X.A) (hb:Binds X.K fd ps []) (hx:z8z CX X E) (tk:1≤s.toks) (I:Inv X pins σ H s) (r:Vals vs us) (h:sp vs H Q E):wpAny (model X.prog X.w) X.A (call (.ref f) us) (EP X pins σ Q) X.xe s:=by
 have hl:(us++[]).length=ps.length:=by rw [List.append_nil,← r.length];exact F.len _ _ _ _ h
 refine wpAny_call (codeAny_mono (F.run X.A X.stack s H ⟨us,[]⟩ (us++[]) vs Q E tk hr I.env0 (hb s us I.kIn hl) (by rw [List.append_nil];exact r) h) λ r s' hq=>?_)
 cases r with
 | error e=>exact hx pins σ H s e s' I hq
 | ok fl =>
  cases fl with
  | ret u=>exact I.after hq
  | next=>exact hq.elim
  | brk=>exact hq.elim
  | cont=>exact hq.elim
theorem w2k (c:CalleeK X.prog X.w X.K X.mg X.base CX k x ps sp) (hr:Room k X.A) (hg:Gl X x) (hx:z8z CX X E) (ha:PA X (e::es) t) (hdb:(x == ("__debug__" : Str))=false:=by decide) (he:starEach (e::es) X.env=(false,eval e X.env)::starEach es X.env:=by rfl) (hpl:(backTo pos (starEach es X.env)).any (·.1)=false:=by rfl) :
  PET X (.Call (.Name x p) (e::es) [] pos) (x0u sp [] E t):=by
 obtain ⟨f,fd,F,m,kp,b⟩:=c.has
 intro pins s σ H Q tk I h
 refine wpAny_Call_Name_kw (z3o I hg m ?_ hdb)
 refine W.callWith_K (h₀:=X.base) I.ok.mod.kin kp (thn (z2w 1 tk (ha pos pins s σ H _ I h)) λ us s1 ⟨⟨vs,H1,I1,r,q⟩,tk1⟩=>⟨I1.kIn,?_⟩) he hpl
 exact w1v F hr b hx tk1 I1 r (by have q:sp (vs++[]) H1 Q E:=q;rwa [List.append_nil] at q)
def PAK (X:Cx) (es:List Expr) (t:TA):Prop:=∀(pos:Pos) (pins:List (Addr × Obj)) (s:Shared) (σ:St) (H:Hp) (Q:List V->Hp->Prop),Inv X pins σ H s->t σ H Q->wpAny (model X.prog X.w) X.A (spliced (backTo pos (starEach es X.env))) (λ us s'=>(∃xs H',Inv X pins σ H' s'/\Vals xs us/\Q xs H')/\1≤s'.toks) X.xe s
theorem x7q (ha:PE X e te) (hr:PAK X es t) (hs:starEach (e::es) X.env=(false,eval e X.env)::starEach es X.env:=by rfl):PAK X (e::es) (y4j te t):=by
 intro pos pins s σ H Q I h
 rw [hs]
 show wpAny _ _ (spliced ((false,eval e X.env)::backTo pos (starEach es X.env))) _ _ s
 refine Calls.spliced_cons (thn (ha pins s σ H _ I h) λ u s1 ⟨x,H1,I1,r1,q1⟩=>?_)
 exact thn (hr pos pins s1 σ H1 _ I1 q1) λ us s2 ⟨⟨xs,H2,I2,r2,q2⟩,k2⟩=>⟨⟨x::xs,H2,I2,.cons r1 r2,q2⟩,k2⟩
theorem w2s {i:Int}{j:Nat}(hr:PA X es t) (hs:starEach (.Constant (.int i) j p::es) X.env=(false,eval (.Constant (.int i) j p) X.env)::starEach es X.env:=by rfl):PAK X (.Constant (.int i) j p::es) (y4j (tC (.int i)) t):=by
 intro pos pins s σ H Q I h
 rw [hs]
 show wpAny _ _ (spliced ((false,eval (.Constant (.int i) j p) X.env)::backTo pos (starEach es X.env))) _ _ s
 refine Calls.spliced_cons (wpAny_Constant_int ?_)
 exact thn (z2w 1 (Nat.succ_le_succ (Nat.zero_le _)) (hr pos pins _ σ H _ (I.tok _) h)) λ us s2 ⟨⟨xs,H2,I2,r2,q2⟩,k2⟩=>⟨⟨.int i::xs,H2,I2,.cons ⟨_,rfl⟩ r2,q2⟩,k2⟩
theorem w2r {y:Str}{j:Nat}(hr:PA X es t) (hs:starEach (.Constant (.str y) j p::es) X.env=(false,eval (.Constant (.str y) j p) X.env)::starEach es X.env:=by rfl):PAK X (.Constant (.str y) j p::es) (y4j (tC (.str y)) t):=by
 intro pos pins s σ H Q I h
 rw [hs]
 show wpAny _ _ (spliced ((false,eval (.Constant (.str y) j p) X.env)::backTo pos (starEach es X.env))) _ _ s
 refine Calls.spliced_cons (Calls.Constant_str ?_)
 exact thn (z2w 1 (Nat.succ_le_succ (Nat.zero_le _)) (hr pos pins _ σ H _ (I.tok _) h)) λ us s2 ⟨⟨xs,H2,I2,r2,q2⟩,k2⟩=>⟨⟨.str y::xs,H2,I2,.cons ⟨_,rfl⟩ r2,q2⟩,k2⟩
def PEK (X:Cx) (e:Expr) (t:TE):Prop:=∀(pins:List (Addr × Obj)) (s:Shared) (σ:St) (H:Hp) (Q:VK),Inv X pins σ H s->t σ H Q->wpAny (model X.prog X.w) X.A (eval e X.env) (λ v s'=>EP X pins σ Q v s'/\1≤s'.toks) X.xe s
theorem w2l (h:PAK X es t):PEK X (.List es pos) (w9j t):=by
 intro pins s σ H Q I hq
 refine wpAny_List_spliced (thn (h pos pins s σ H _ I hq) λ us s1 ⟨⟨xs,H1,I1,r,z,q⟩,k1⟩=>⟨by rw [← r.length];exact z,?_⟩)
 have hf:H1 s1.heap.objs.size=none:=I1.hok.fresh (Nat.le_refl _)
 exact ⟨⟨.ref s1.heap.objs.size,upd H1 s1.heap.objs.size (.lst xs),I1.laid (t':=s1.toks) (λ b u e=>Heap.get?_push_of_some _ e) (Nat.le_refl _) ⟨z,us,0,r,Heap.get?_push_size _ rfl⟩,rfl,q _ hf⟩,k1⟩
theorem w2m (c:Callee X.prog X.w X.K X.mg X.base CX k x ps sp) (hr:Room k X.A) (hg:Gl X x) (hx:z8z CX X E) (ha:PAK X (e::es) t) (hdb:(x == ("__debug__" : Str))=false:=by decide) (he:starEach (e::es) X.env=(false,eval e X.env)::starEach es X.env:=by rfl) (hpl:(backTo pos (starEach es X.env)).any (·.1)=false:=by rfl) :
  PEK X (.Call (.Name x p) (e::es) [] pos) (x0u sp [] E t):=by
 obtain ⟨f,fd,F,m,kp,b⟩:=c.has
 intro pins s σ H Q I h
 refine wpAny_Call_Name_kw (z3o I hg m ?_ hdb)
 refine W.callWith_K (h₀:=X.base) I.ok.mod.kin kp (thn (ha pos pins s σ H _ I h) λ us s1 ⟨⟨vs,H1,I1,r,q⟩,tk1⟩=>⟨I1.kIn,?_⟩) he hpl
 exact z2w 1 tk1 (w0h F hr b .nil hx I1 r q)
theorem x1x {i:Nat}{pos':Pos}(hN:X.N.Nodup) (hi:X.N[i]?=some x) (hl:Loc X.env.scope x) (he:PEK X e te) (h2:PSsT X rest u) (hs:swapsWith e (some (.Name x pos')) pos.line X.env=pure false:=by rfl) (hf:X.fn x=true\/X.env.scope.names.lookup x=some .local:=by first | exact .inl rfl | exact .inr rfl | assumption) :
  PSs X (.Assign [.Name x pos'] e pos::rest) (z1b (w0f te (z9f i)) u):=by
 intro pins s σ H D I h
 refine wpAny_execs_cons (thn (Q:=λ f s1=>SP X pins { D with nx:=u D } f s1/\1≤s1.toks) ?_ λ f s1 ⟨q,k1⟩=>?_)
 ·refine wpAny_Assign_Name (thn (he pins s σ H _ I h) λ v s1 ⟨⟨y,H1,I1,r1,q1⟩,k1⟩=>?_) hs
  exact z2w 1 k1 (z5t I1 hN hi hl r1 (λ s2 I2=>⟨_,H1,I2,q1⟩) hf)
 cases f with
 | next =>
  obtain ⟨σ',H',I',q⟩:=q
  exact h2 pins s1 σ' H' D k1 I' q
 | ret v=>exact q
 | brk=>exact q
 | cont=>exact q
end
section
open PySem.W
variable {X:Cx}
theorem z9y {C:Addr}{cs:List Addr}{b:Bool}(k:ExcK X.K C) (e:W.kitAny X.K (.ref C) (cs.map Value.ref)=some b) :
  z4l X (.builtin "isinstance") (λ xs H Q=>∃a p d,xs=[.ref a,.ref p]/\H a=some (y8l a C d)/\H p=some (.tup (cs.map V.ref))/\Q (.bl b) H):=by
 intro pins s σ H xs us Q I r h
 obtain ⟨a,p,d,rfl,ha,hp,q⟩:=h
 obtain ⟨u,u',rfl,r1,r2⟩:=y8m r
 cases (show u=Value.ref a from r1)
 cases (show u'=Value.ref p from r2)
 obtain ⟨⟨o1,vs1,ho,hcl,hdt,_⟩,_⟩:=(show ObjOk X.prog X.w H s.heap a (y8l a C d) from I.hok a _ ha)
 obtain ⟨zz,its,rv,ot,h1,h2,n,h3⟩:=(show ObjOk X.prog X.w H s.heap p (.tup (cs.map V.ref)) from I.hok p _ hp)
 obtain rfl:=y5v rv
 obtain ⟨oc,od,oda,osl⟩:=ot
 dsimp only at h2 h3
 subst h2 h3
 exact kia_tup (y1n k) I.kIn ⟨o1,vs1,ho,hcl,hdt⟩ h1 e (λ z=>nomatch z) λ tk=>⟨.bl b,H,I.tok tk,rfl,q⟩
theorem x0a {C:Addr}{n:String}{b:Bool}(k:ExcK X.K C) (e:W.kitOne X.K (.ref C) (.type n)=some b) :
  z4l X (.builtin "isinstance") (λ xs H Q=>∃a d,xs=[.ref a,.ty n]/\H a=some (y8l a C d)/\Q (.bl b) H):=by
 intro pins s σ H xs us Q I r h
 obtain ⟨a,d,rfl,ha,q⟩:=h
 obtain ⟨u,u',rfl,r1,r2⟩:=y8m r
 cases (show u=Value.ref a from r1)
 cases (show u'=Value.type n from r2)
 obtain ⟨⟨o1,vs1,ho,hcl,hdt,_⟩,_⟩:=(show ObjOk X.prog X.w H s.heap a (y8l a C d) from I.hok a _ ha)
 exact kia_one (y1n k) I.kIn ⟨o1,vs1,ho,hcl,hdt⟩ e (λ z=>nomatch z) λ tk=>⟨.bl b,H,I.tok tk,rfl,q⟩
end
def y5q (K:W.Frag) (C:Addr) (i:Nat) (ts:TS) (D:Ends):St->XK:=λ σ1 cls d H1=>∃C',cls=.ref C'/\W.exmOne K (.ref C') (.ref C)=some true/\∃dx,d=some dx/\∀a,H1 a=none->ts (z7n D i) (σ1.set i (some (.ref a))) (upd H1 a (y8l a C' dx))
def w5d (K:W.Frag) (C:Addr) (i:Nat) (tb:(St->XK)->TS) (ts:TS):TS:=λ D σ H=>tb (y5q K C i ts D) D σ H
theorem x1y {X:Cx}{x n:Str}{C:Addr}{body suite:List Stmt}{b₀:Stmt}{np hpos pos:Pos}{i:Nat}{tb:(St->XK)->TS}{ts:TS}
  (hstk:X.stack=X.env::X.outer/\X.env.frame=some X.env.locals) (hex:X.ex=[]) (hN:X.N.Nodup) (hi:X.N[i]?=some n) (hk:X.env.scope.names.lookup n=some .local)
  (hg:Gl X x) (hm:X.mg x=some (.ref C))
  (hb:∀(xe:Value->Shared->Prop) (pn:List (Addr × Obj)) (EE:St->XK),(∀σ,y1t (CX2 X.prog X.w) (X.more xe pn) (EE σ) σ)->PSs (X.more xe pn) body (tb EE))
  (hs:∀(a:Addr) (pn:List (Addr × Obj)),PSs (X.suite a pn) (b₀::suite) ts) (hd:(x == ("__debug__" : Str))=false:=by decide) :
  PS X (.Try body [.ExceptHandler (some (.Name x np)) (some n) (b₀::suite) hpos] [] [] pos) (w5d X.K C i tb ts):=by
 intro pins s σ H D I h
 refine wpAny_Try_except ?_
 generalize hXE:(λ e s₁=>wpAny (model X.prog X.w) X.A (noteFrame e X.env) (λ _ s₂=>wpAny (model X.prog X.w) X.A (setFlight e none) (λ _ s₃=>wpAny (model X.prog X.w) X.A (handleBy e X.env [.ExceptHandler (some (.Name x np)) (some n) (b₀::suite) hpos]) (SP X pins D) X.xe s₃) X.xe s₂) X.xe s₁:Value->Shared->Prop)=XE
 have toY:∀ {σ':St}{H':Hp}{s':Shared},Inv X pins σ' H' s'->Inv (X.more XE (X.pn++pins)) [] σ' H' s':=λ J=>⟨J.ok.more _ _,J.os,J.bare,J.base,J.loc,J.cell,J.free,J.freeC,λ p hp=>J.pin p (by simpa using hp),J.hok,J.len⟩
 have ofY:∀ {σ':St}{H':Hp}{s':Shared}{pp:List (Addr × Obj)},Inv (X.more XE (X.pn++pins)) pp σ' H' s'->Inv X pins σ' H' s':=λ J=>⟨I.ok,J.os,J.bare,J.base,J.loc,J.cell,J.free,J.freeC,λ p hp=>J.pin p (List.mem_append_left _ hp),J.hok,J.len⟩
 have body_ok:=hb XE (X.pn++pins) (y5q X.K C i ts D) ?_ [] s σ H D (toY I) h
 ·refine thn body_ok λ fl s' q=>?_
  cases fl with
  | next=>obtain ⟨σ',H',J,z⟩:=q;exact wpAny_execs_nil ⟨σ',H',ofY J,z⟩
  | brk=>obtain ⟨σ',H',J,z⟩:=q;exact ⟨σ',H',ofY J,z⟩
  | cont=>obtain ⟨σ',H',J,z⟩:=q;exact ⟨σ',H',ofY J,z⟩
  | ret u=>obtain ⟨v,σ',H',J,r,z⟩:=q;exact ⟨v,σ',H',ofY J,r,z⟩
 intro σ1 pins1 H1 s1 e s' I1 hx
 obtain ⟨a,C',dx,H',B,rfl,os,bare,fl,inB,thB,un,okB,C2,hC2,z1,d2,ed2,hsuite⟩:=hx
 cases ed2
 obtain rfl:C'=C2:=Value.ref.inj hC2
 subst hXE
 have fl:FlyD B (X.env::X.outer) a (.ref C') dx .none s'.heap:=by
  have z:FlyD B X.stack a (.ref C') dx .none s'.heap:=fl
  rw [hstk.1] at z;exact z
 have hfr:X.A.frames=some (X.env::X.outer):=by rw [I.ok.frames,hstk.1]
 have at_:∀h2:Heap,FlyD B (X.env::X.outer) a (.ref C') dx .none h2->s'.heap.UpToSlots h2->∀t2:Nat,Inv X pins σ1 H' { s' with heap:=h2,toks:=t2 }:=λ h2 f2 u2 t2=>by
  have J1:Inv X pins σ1 H1 s1:=ofY I1
  have slot:∀b o,s1.heap.get? b=some o->H1 b=none->b∈frs X.stack->∃sl,h2.get? b=some { o with slots:=sl }:=λ b o e nn hb=>by
   obtain ⟨sl2,e2⟩:=un.slot b o e nn hb (by simp)
   obtain ⟨_,o3,e3,nf⟩:=J1.stack.mem hb
   rw [e] at e3;cases e3
   obtain ⟨sl3,e4⟩:=u2 b _ e2 nf
   exact ⟨sl3,e4⟩
  refine J1.call' (s':={ s' with heap:=h2,toks:=t2 }) (ch:=[]) os ⟨λ b o e nn hb _=>f2.1 _ _ (inB b o e nn hb),λ b o e nn hb _=>slot b o e nn hb,un.free,λ b o e _=>?_,un.tups,un.frzs,un.tbls⟩ (okB.kept f2.1) bare (λ b z=>nomatch z)
  by_cases hb:b∈frs X.stack
  ·obtain ⟨sl,q⟩:=slot b o e (J1.stkFree b hb) hb
   exact ⟨_,q⟩
  ·obtain ⟨o',q⟩:=thB b o e hb
   exact ⟨o',f2.1 _ _ q⟩
 refine v0t hfr hstk.2 fl λ h4 held4 up4=>?_
 refine w3u (s:={ s' with heap:=h4 }) held4 λ h5 fl5 up5=>?_
 have J5:=at_ h5 fl5 (up4.trans up5) s'.toks
 obtain ⟨oe5,ve5,he5,hc5,hd5,_⟩:=fl5.first
 have LT:W.Looks (model X.prog X.w) h5 (typeOf (.ref a)) (.ref C'):=hc5 ▸ (W.Looks.ld he5).andThen .now
 have toZ:∀ {σ':St}{H':Hp}{s':Shared},Inv X pins σ' H' s'->Inv (X.suite a (X.pn++pins)) [] σ' H' s':=λ J=>⟨J.ok.suite _ _,J.os,J.bare,J.base,J.loc,J.cell,J.free,J.freeC,λ p hp=>J.pin p (by simpa using hp),J.hok,J.len⟩
 have ofZ:∀ {σ':St}{H':Hp}{s':Shared},Inv (X.suite a (X.pn++pins)) [] σ' H' s'->Inv X pins σ' H' s':=λ J=>⟨I.ok,J.os,J.bare,J.base,J.loc,J.cell,J.free,J.freeC,λ p hp=>J.pin p (List.mem_append_left _ hp),J.hok,J.len⟩
 refine wpAny_handleBy_cons (codeAny_handlers_test ?_) (by intro q;cases q)
 refine z3o (X:=X.suite a (X.pn++pins)) (toZ J5) hg hm ?_ hd
 obtain ⟨hh,gg,dd,tt,oo⟩:=s'
 refine (W.exm_one (M:=model X.prog X.w) J5.kIn LT z1).here ?_
 refine codeAny_handlers_suite_as ?_
 refine w3u (s:=⟨h5,gg,dd,tt,oo⟩) fl5 λ h6 fl6 up6=>?_
 have J6:=at_ h6 fl6 ((up4.trans up5).trans up6) tt
 obtain ⟨oe,ve,hoe,hoc,hod,hox⟩:=fl6.first
 have Ba:B.get? a=none:=fl6.2.1
 have Ha:H' a=none:=by
  cases q:H' a with
  | none=>rfl
  | some u =>
   have z:a < B.objs.size:=okB.lt q
   have y:=okB a u q
   obtain ⟨o9,e9⟩:∃o9,B.get? a=some o9:=by
    cases u with
    | lst xs=>obtain ⟨_,_,_,_,e⟩:=y;exact ⟨_,e⟩
    | tup xs=>obtain ⟨_,_,_,o,e,_⟩:=y;exact ⟨_,e⟩
    | dK kvs=>obtain ⟨_,_,_,_,o,_,_,e,_⟩:=y;exact ⟨_,e⟩
    | dT kvs=>obtain ⟨_,_,_,_,o,_,_,e,_⟩:=y;exact ⟨_,e⟩
    | set S n=>obtain ⟨o,_,_,_,e,_⟩:=y;exact ⟨_,e⟩
    | ins C dx fs=>obtain ⟨_,_,_,e,_⟩:=y;exact ⟨_,e⟩
    | own y'=>obtain ⟨_,e⟩:=y;exact ⟨_,e⟩
    | xd fs=>obtain ⟨_,⟨_,_,_,e,_⟩,_⟩:=y;exact ⟨_,e⟩
    | rng lo hi=>obtain ⟨_,_,_,e⟩:=y;exact ⟨_,e⟩
    | frz ob u=>obtain ⟨e,_⟩:=y;exact ⟨_,e⟩
    | tbl ps=>exact ⟨_,(show B.get? a=some _ from y)⟩
    | met f y'=>exact ⟨_,(show B.get? a=some _ from y)⟩
    | ext φ=>obtain ⟨_,⟨_,e⟩,_⟩:=y;exact ⟨_,e⟩
   rw [Ba] at e9;cases e9
 have J1:Inv X pins σ1 H1 s1:=ofY I1
 have notfields:∀b o,h6.get? b=some o->(∀vs,o.data≠.fields vs)->b≠a:=λ b o e nf z=>by
  rw [z,hoe] at e;cases e;exact nf _ hod
 obtain ⟨mL,⟨oL,esL,epL,hoL,hdL,_⟩,_⟩:=id J6.loc
 have aL:a≠X.env.locals:=λ z=>(notfields X.env.locals oL hoL λ vs q=>by rw [hdL] at q;cases q) z.symm
 have ac:∀y c,X.env.cells.lookup y=some c->c≠a:=λ y c e=>by
  obtain ⟨v,o,ho,hdc⟩:=J6.cell y c e
  exact notfields c o ho λ vs q=>by rw [hdc] at q;cases q
 have inB2:∀b o,s1.heap.get? b=some o->H1 b=none->b ∉ frs X.stack->b≠a:=λ b o e nn hb z=>by
  have q:=inB b o e nn hb
  rw [z,Ba] at q;cases q
 have nstk:∀b,b≠X.env.locals->b ∉ X.fs->b ∉ frs X.stack:=λ b h1 h2 z=>by
  rcases List.mem_cons.mp (J1.stkSub b z) with q | q
  ·exact h1 q
  ·exact h2 q
 have ap:∀p∈X.pn++pins,p.1≠a:=λ p hp=>by
  obtain ⟨e,nn,ne,nf,_⟩:=J1.pin p hp
  exact inB2 p.1 p.2 e nn (nstk p.1 ne nf)
 have a0n:X.s₀.heap.get? a=none:=by
  cases q:X.s₀.heap.get? a with
  | none=>rfl
  | some o =>
   by_cases hx:a∈X.ex
   ·rw [hex] at hx;cases hx
   ·obtain ⟨o1,e1⟩:=J1.base.there a o q hx
    by_cases hf:a∈frs X.stack
    ·obtain ⟨_,o3,e3,nf⟩:=J6.stack.mem hf
     exact absurd rfl (notfields a o3 e3 nf)
    ·obtain ⟨o',q'⟩:=thB a o1 e1 hf
     rw [Ba] at q';cases q'
 have J7:Inv X pins σ1 (upd H' a (y8l a C' dx)) { heap:=h6,gens:=gg,drawn:=dd,toks:=tt,os:=oo }:=J6.track Ha ⟨⟨oe,ve,hoe,hoc,hod,hox⟩,⟨oe,hoe⟩,λ k1 k2 ⟨o,vs,e,c,d⟩ kk=>⟨o,vs,kk o e,c,d⟩⟩ aL ac ap a0n
 refine z5t (X:=X.suite a (X.pn++pins)) (v:=.ref a) (toZ J7) hN hi (.inl hk) rfl (λ s8 J8=>?_) (.inr hk)
 refine wpAny_mono (hs a (X.pn++pins) [] s8 _ _ _ J8 (hsuite a Ha)) (λ fl s9 q=>?_) λ _ _ z=>z.elim
 have hcls:(X.env.scope.kind == .class || (X.env.scope.kind == .module && X.env.locals != X.env.globals))=false:=by rw [I.ok.kind];rfl
 have gone:∀ {σ9:St}{H9:Hp}{QQ:Unit->Shared->Prop},Inv (X.suite a (X.pn++pins)) [] σ9 H9 s9->(∀s10,Inv X pins (σ9.set i none) H9 s10->QQ () s10)->wpAny (model X.prog X.w) X.A (do bindName X.env n .none;unbindBehindTheSuite X.env n hpos) QQ X.xe s9:=λ {σ9 H9 QQ} J9 k=>by
  have J9':=ofZ J9
  obtain ⟨m,hm,hl⟩:=id J9'.loc
  exact wpAny_nameGoes_keeps hk hm hcls λ h' v hn' hs'=>k _ (J9'.gone hN hi hk hm hl hn' hs')
 cases fl with
 | next=>obtain ⟨σ9,H9,J9,z⟩:=q;exact gone J9 λ s10 J10=>⟨_,H9,J10,z⟩
 | brk=>obtain ⟨σ9,H9,J9,z⟩:=q;exact gone J9 λ s10 J10=>⟨_,H9,J10,z⟩
 | cont=>obtain ⟨σ9,H9,J9,z⟩:=q;exact gone J9 λ s10 J10=>⟨_,H9,J10,z⟩
 | ret u=>obtain ⟨v,σ9,H9,J9,r,z⟩:=q;exact gone J9 λ s10 J10=>⟨v,_,H9,J10,r,z⟩
end L2
namespace PySem.W.Fast
theorem tw18230579354169217235:True:=⟨⟩
theorem tw5841773025989389439:True:=⟨⟩
theorem tw741037931379639248:True:=⟨⟩
theorem tw9124921825804255706:True:=⟨⟩
theorem tw7424496122648560426:True:=⟨⟩
theorem tw11917598202145122406:True:=⟨⟩
theorem tw5830492052314735926:True:=⟨⟩
theorem tw7041095504117696092:True:=⟨⟩
theorem tw11783973540568493328:True:=⟨⟩
theorem tw14311327679276387348:True:=⟨⟩
theorem tw14920829647684990425:True:=⟨⟩
theorem tw2250514610743719534:True:=⟨⟩
theorem tw7474650936555611407:True:=⟨⟩
theorem tw13148210888029983291:True:=⟨⟩
theorem tw14180594690305025901:True:=⟨⟩
theorem tw6066068433835918757:True:=⟨⟩
theorem tw16744545238966748386:True:=⟨⟩
theorem tw4914517843480252380:True:=⟨⟩
theorem tw11735105785636568938:True:=⟨⟩
theorem tw7240001988760847829:True:=⟨⟩
theorem tw1860375404053747123:True:=⟨⟩
theorem tw8105857166696764169:True:=⟨⟩
theorem tw6283253017565670548:True:=⟨⟩
theorem tw4849013061895858236:True:=⟨⟩
theorem tw13290912798014332553:True:=⟨⟩
theorem tw3722384051412301303:True:=⟨⟩
theorem tw4837638400190980682:True:=⟨⟩
theorem tw17505687639073110361:True:=⟨⟩
theorem tw4492980003729422007:True:=⟨⟩
theorem tw5525535335004866856:True:=⟨⟩
theorem tw7223973072388421611:True:=⟨⟩
theorem tw15995493335243489599:True:=⟨⟩
theorem tw13107231547343785190:True:=⟨⟩
theorem tw9849122373307801679:True:=⟨⟩
theorem tw4586110847423444130:True:=⟨⟩
theorem tw8981515874055240924:True:=⟨⟩
theorem tw6804313584843191956:True:=⟨⟩
theorem tw11515911352807449801:True:=⟨⟩
theorem tw1908988658066407927:True:=⟨⟩
theorem tw14034428691201742178:True:=⟨⟩
theorem tw9387557703440274666:True:=⟨⟩
theorem tw10675137081712778817:True:=⟨⟩
theorem tw6678808774239749760:True:=⟨⟩
theorem tw1446013621465166009:True:=⟨⟩
theorem tw13255081121521234345:True:=⟨⟩
theorem tw13876549864012447596:True:=⟨⟩
theorem tw83554876438657880:True:=⟨⟩
theorem tw5576290815836941387:True:=⟨⟩
theorem tw9633041038543500723:True:=⟨⟩
theorem tw6317502621001669657:True:=⟨⟩
theorem tw14114927633698541478:True:=⟨⟩
theorem tw17284904011298655098:True:=⟨⟩
theorem tw2155952173498404315:True:=⟨⟩
theorem tw3066639464126136554:True:=⟨⟩
theorem tw6129519266098313309:True:=⟨⟩
theorem tw10409296342815807976:True:=⟨⟩
theorem tw8519206183065908100:True:=⟨⟩
theorem tw13421699536786780532:True:=⟨⟩
theorem tw15357264454226911623:True:=⟨⟩
theorem tw12417150692992370443:True:=⟨⟩
theorem tw8420707388935979198:True:=⟨⟩
theorem tw7512436772097768880:True:=⟨⟩
theorem tw13938887341945595018:True:=⟨⟩
theorem tw14981001513834752312:True:=⟨⟩
theorem tw1692096485003652485:True:=⟨⟩
theorem tw3878162588151916837:True:=⟨⟩
theorem tw10411222176491717565:True:=⟨⟩
theorem tw5879991126074044108:True:=⟨⟩
theorem tw14153222088646006679:True:=⟨⟩
theorem tw13396889430831684207:True:=⟨⟩
theorem tw3389791842172842845:True:=⟨⟩
theorem tw1813761573377199187:True:=⟨⟩
theorem tw4535455550292774691:True:=⟨⟩
theorem tw11868190396813767650:True:=⟨⟩
theorem tw13308835890905047828:True:=⟨⟩
theorem tw8986879189101260949:True:=⟨⟩
theorem tw3576569812404889210:True:=⟨⟩
theorem tw13355736904562051256:True:=⟨⟩
theorem tw12130007801619010473:True:=⟨⟩
theorem tw930626024074390507:True:=⟨⟩
theorem tw9115710481974000126:True:=⟨⟩
theorem tw10185559557102222209:True:=⟨⟩
theorem tw2880570776263403886:True:=⟨⟩
theorem tw11842038501149218322:True:=⟨⟩
theorem tw220112311984251512:True:=⟨⟩
theorem tw17877886045493189731:True:=⟨⟩
theorem tw2740633792904558952:True:=⟨⟩
theorem tw16150052564444519460:True:=⟨⟩
theorem tw4970911325018636765:True:=⟨⟩
theorem tw2828702774795576035:True:=⟨⟩
theorem tw12996769466712731770:True:=⟨⟩
theorem tw6303721341338946724:True:=⟨⟩
theorem tw13772799289774948544:True:=⟨⟩
theorem tw15335467774183947681:True:=⟨⟩
theorem tw7368487595204464429:True:=⟨⟩
theorem tw13823444349054999203:True:=⟨⟩
theorem tw10216663222186876383:True:=⟨⟩
theorem tw10241509336662130653:True:=⟨⟩
theorem tw11547112043291253474:True:=⟨⟩
theorem tw13175604390617363777:True:=⟨⟩
theorem tw972969368821646831:True:=⟨⟩
theorem tw13220607692415956186:True:=⟨⟩
theorem tw3849198566450442708:True:=⟨⟩
theorem tw17826727433857362174:True:=⟨⟩
theorem tw13216900283714869120:True:=⟨⟩
theorem tw8253678605846609515:True:=⟨⟩
theorem tw17494101369736989048:True:=⟨⟩
theorem tw7422717848217366022:True:=⟨⟩
theorem tw1523589511787167744:True:=⟨⟩
theorem tw12192439274614797823:True:=⟨⟩
theorem tw2644975842450592404:True:=⟨⟩
theorem tw12009517054677493995:True:=⟨⟩
theorem tw7899408106226248850:True:=⟨⟩
theorem tw3787058712971967186:True:=⟨⟩
theorem tw12339672523650068527:True:=⟨⟩
theorem tw11285851206752479824:True:=⟨⟩
theorem tw4814042118220198739:True:=⟨⟩
theorem tw2560226421271209368:True:=⟨⟩
theorem tw9369177763884647879:True:=⟨⟩
theorem tw7209900774189460020:True:=⟨⟩
theorem tw17228572159533344931:True:=⟨⟩
theorem tw15812466563058116199:True:=⟨⟩
theorem tw3380958463050624194:True:=⟨⟩
theorem tw14467380394217280707:True:=⟨⟩
theorem tw2383098667968645097:True:=⟨⟩
theorem tw13406250009358599448:True:=⟨⟩
theorem tw14970523932710639969:True:=⟨⟩
theorem tw9356919635926307944:True:=⟨⟩
theorem tw11304100948174621732:True:=⟨⟩
theorem tw14502466684994926625:True:=⟨⟩
theorem tw18130685580231746666:True:=⟨⟩
theorem tw15870684815236321173:True:=⟨⟩
theorem tw8012377714060047586:True:=⟨⟩
theorem tw11572814351054847343:True:=⟨⟩
theorem tw14939666182605781037:True:=⟨⟩
theorem tw11865037328475233093:True:=⟨⟩
theorem tw7540678502518473508:True:=⟨⟩
theorem tw11739196817041553650:True:=⟨⟩
theorem tw3160461642291471920:True:=⟨⟩
theorem tw13596502550960271332:True:=⟨⟩
theorem tw15408429440388412155:True:=⟨⟩
theorem tw2283784337787297429:True:=⟨⟩
theorem tw8553981567407727547:True:=⟨⟩
theorem tw13158705634261122634:True:=⟨⟩
theorem tw1831353395242583956:True:=⟨⟩
theorem tw1056645073185219458:True:=⟨⟩
theorem tw17024406799357799440:True:=⟨⟩
theorem tw4663905026386662948:True:=⟨⟩
theorem tw2308273894069529033:True:=⟨⟩
theorem tw4626448368524953446:True:=⟨⟩
theorem tw17388677186963715089:True:=⟨⟩
theorem tw15272667040068748367:True:=⟨⟩
theorem tw17727485223368818570:True:=⟨⟩
theorem tw5167818955514872251:True:=⟨⟩
theorem tw16893217745042717264:True:=⟨⟩
theorem tw13207020580542163190:True:=⟨⟩
theorem tw17675965226720288436:True:=⟨⟩
theorem tw3309539153530173210:True:=⟨⟩
theorem tw1531428297387310554:True:=⟨⟩
theorem tw713099923860594570:True:=⟨⟩
theorem tw2362644064357517130:True:=⟨⟩
theorem tw16397271353995619386:True:=⟨⟩
theorem tw9864142160115418510:True:=⟨⟩
theorem tw10099393414838715167:True:=⟨⟩
theorem tw1091573096008745940:True:=⟨⟩
theorem tw6859829927928117552:True:=⟨⟩
theorem tw8815049474262497539:True:=⟨⟩
theorem tw5215251921187100714:True:=⟨⟩
theorem tw14641641304800671711:True:=⟨⟩
theorem tw8801637793447390707:True:=⟨⟩
theorem tw13929808681074010349:True:=⟨⟩
theorem tw3472843343227779646:True:=⟨⟩
theorem tw8917558313094819051:True:=⟨⟩
theorem tw4190551830122407567:True:=⟨⟩
theorem tw7139345106069737058:True:=⟨⟩
theorem tw6337482695874766060:True:=⟨⟩
theorem tw14564132446470128193:True:=⟨⟩
theorem tw16869494494700300414:True:=⟨⟩
end PySem.W.Fast
namespace My
open PySem L2 PyProof.Rows
local macro_rules | `(tactic| wp_walk using $xs:term,*)=>`(tactic| simp only [x1w,w6i,v3k,x1u,x1v,w5m,w6e,v2a,x8z,x5k,x5o,w8m,w0m,w0l,v0i,v2i,w2b,w0k,v2k,w6d,w0e,v2b,w5w,w0d,v2g,v3s,v3p,w3q,x9s,x9b,v0b,v3i,w3s,w6h,x8y,x5j,x5n,w9w,x5s,x5p,x0p,w9u,x5u,w1k,w0c,v2f,v3l,x5m,w5k,w5l,w9x,w9y,v3j,v3m,w6j,w1n,w5o,w6c,w2a,w2c,w9z,x0q,v0a,w5e,w5d,y5q,x9a,x5l,v0l,w3n,x9q,v0k,tFR,w6a,w0j,v0j,v2c,tBM,tyV,x9f,x9u,x5t,v3n,v3o,w5f,v3h,x0t,y8g,z7n,v0m,v3r,v2m,w3o,w3m,x9p,x9c,x5q,tSl,x0r,w5g,w6b,v2q,v2h,v1w,w9v,w5i,w9t,tC,tOp,tUn,rI,rI0,rU,rEq,rNe,w1l,tB,v1y,v2e,tOr,w5p,v1x,w5h,tIf,x0u,tCB,v1z,y4j,x0s,w9j,v1v,w0f,z9f,w5n,w5j,v2j,v2n,v3d,CMul,v3e,v1t,v1s,L2.start,v0g,w3r,w3p,x9e,x9d,x9t,x9r,x5r,w8y,x9n,w7y,w7z,w8a,w8b,w7x,v2d,w8l,w8n,v2r,v3q,v2l,w6g,w6f,z1r,z0d,HO.lst.injEq,HO.tup.injEq,List.any_cons,List.any_nil,List.all_cons,List.all_nil,Bool.or_false,Bool.and_self,Bool.and_true,Bool.or_eq_true,beq_iff_eq,V.int.injEq,V.bl.injEq,V.str.injEq,V.ref.injEq,V.ty.injEq,List.map_cons,List.map_nil,List.length_cons,List.length_nil,List.cons_append,List.nil_append,List.getElem?_cons_zero,List.getElem?_cons_succ,Option.some.injEq,exists_eq_left',exists_eq_left,exists_and_left,List.cons.injEq,and_true,true_and,and_assoc,decide_eq_true_eq,List.set_cons_zero,List.set_cons_succ,List.replicate,Nat.sub_self,List.append_nil,Nat.add_sub_cancel,Nat.reduceAdd,Nat.reduceSub,Int.reduceLT,Int.reduceLE,Int.reduceNeg,Int.reduceSub,Int.reduceAdd,Int.reducePow,Int.reduceToNat,na2,v3u,Nat.reducePow,Nat.reduceLT,if_true,if_false,Bool.not_true,Bool.not_false,Bool.false_eq_true,List.mem_cons,List.not_mem_nil,eq_self,true_or,or_true,or_false,false_or,String.reduceEq,Option.isSome_some,ne_eq,not_false_eq_true,not_true_eq_false,Bool.not_eq_true',decide_eq_false_iff_not,Bool.true_eq_false,$[$xs:term],*])
def top (i:Nat):Stmt:=PySem.Challenge.pw_sideloom_k30_rows_at_fault.main.body.getD i (.Pass ⟨0,0,0,0⟩)
def formsL:List (Str × List (Str × Int)):=[("in",[("sides",1)]),("num",[("number",1)]),("count",[("small",2),("sides",1)]),("each",[("word",1),("step",2)]),("pair",[("word",1),("step",2),("step",3)]),("pick",[("step",1),("step",2),("step",3)]),("turn",[("step",1),("sides",2)]),("flip",[("step",1),("small",2)]),("cut",[("step",1),("small",2),("small",3),("small",4),("small",5)]),("spread",[("step",1),("small",2),("small",3)]),("lay",[("step",1),("sides",2)]),("join",[("step",1),("step",2),("small",3)]),("fetch",[("step",1),("step",2)]),("fold",[("word",1),("step",2),("small",3)]),("run",[("word",1),("step",2),("small",3)])]
def z5i (K:W.Frag):List (Str × Int)->List V->Prop
 | [],[]=>True
 | f::fs,x::xs=>(∃a,x=.ref a/\KTup K a [.str f.1,.int f.2])/\z5i K fs xs
 | _,_=>False
def z7p (K:W.Frag):List (Str × List (Str × Int))->List (Str × Addr)->Prop
 | [],[]=>True
 | f::fs,p::ps=>(p.1=f.1/\∃xs,KTup K p.2 xs/\z5i K f.2 xs)/\z7p K fs ps
 | _,_=>False
def y5t (P:Program) (w:World) (K:W.Frag) (d:Addr):Prop:=∃kvs,KTab P w K d kvs/\z7p K formsL kvs
theorem z8r {K:W.Frag}{a:Addr}{od:Option Addr}{its:Array Value}{n:Nat}{sl:Array (Option Value)}{xs:List V}(h:K.lookup a=some ⟨.type "tuple",od,.seq its n,sl⟩) (z:its.size≤sizeLine) (v:Vals xs its.toList):KTup K a xs:=⟨_,its,n,h,rfl,rfl,z,v⟩
theorem z6s {K:W.Frag}:∀ {fs:List (Str × List (Str × Int))}{kvs:List (Str × Addr)},z7p K fs kvs->∀ {x:Str}{f:List (Str × Int)},fs.lookup x=some f->∃a xs,kvs.lookup x=some a/\KTup K a xs/\z5i K f xs
 | [],_,_,x,f,e=>nomatch e
 | _::_,[],h,_,_,_=>h.elim
 | (g,gs)::fs,(p,pa)::ps,h,x,f,e=>by
  obtain ⟨⟨e1,xs,k1,k2⟩,h2⟩:=h
  cases (show p=g from e1)
  rw [List.lookup_cons] at e ⊢
  by_cases c:x == g
  ·rw [c] at e ⊢
   cases e
   exact ⟨pa,xs,rfl,k1,k2⟩
  ·have c:(x == g)=false:=by simpa using c
   rw [c] at e ⊢
   exact z6s h2 e
theorem y7u {K:W.Frag}:∀ {fs:List (Str × Int)}{xs:List V},z5i K fs xs->xs.length=fs.length/\∀ {i:Nat}{x:V},xs[i]?=some x->∃f a,fs[i]?=some f/\x=.ref a/\KTup K a [.str f.1,.int f.2]
 | [],[],_=>⟨rfl,λ e=>by simp at e⟩
 | [],_::_,h=>h.elim
 | _::_,[],h=>h.elim
 | f::fs,y::ys,h=>by
  obtain ⟨⟨a,e1,k1⟩,h2⟩:=h
  obtain ⟨l,at2⟩:=y7u h2
  refine ⟨by simp [l],λ {i x} e=>?_⟩
  cases i with
  | zero=>cases e;exact ⟨f,a,rfl,e1,k1⟩
  | succ i=>exact at2 e
theorem w9m {n:Nat}(h:n < 15):n=0\/n=1\/n=2\/n=3\/n=4\/n=5\/n=6\/n=7\/n=8\/n=9\/n=10\/n=11\/n=12\/n=13\/n=14:=by lia
theorem z6t (ns:List Int):(ns.map V.int).length=ns.length:=List.length_map ..
theorem z0j {A B:TS}{D:Ends}{σ:L2.St}{H:Hp}(J:L2.St->Hp->Prop) (h2:∀σ H,J σ H->B D σ H) (h1:∀R:L2.St->Hp->Prop,(∀σ H,J σ H->R σ H)->A { D with nx:=R } σ H):z1b A B D σ H:=h1 (B D) h2
theorem w4c (ns:List Int) (k:Nat):z9h (ns.map V.int) none (some (k:Int))=(ns.take k).map V.int:=by
 unfold z9h;simp only [HT.sIx,z6t];rw [if_neg (by lia),List.drop_zero,Nat.sub_zero,← List.map_take];congr 1
 by_cases c:k≤ns.length
 ·congr 1;lia
 ·rw [List.take_of_length_le (by lia),List.take_of_length_le (by lia)]
def z1q (c k m:Int):Int:=(c * 48271+(k+1) * (k+1) * 69621) % 2147483647 * ((c * 48271+(k+1) * (k+1) * 69621) % 2147483647) % 2147483629 % m
theorem z1d (c k:Int) {m:Int}(h:0 < m):0≤z1q c k m/\z1q c k m < m:=⟨Int.emod_nonneg _ (by lia),Int.emod_lt_of_pos _ h⟩
def x6p (c k:Int):Int:=if z1q c k 2=0 then 5 else 1000
theorem x0n (c k:Int):0 < x6p c k:=by unfold x6p;split<;>decide
theorem w5c (c k:Int):atI [V.int 5,V.int 1000] (z1q c k 2)=some (.int (x6p c k)):=by
 have h:=z1d c k (show (0:Int) < 2 by decide)
 unfold x6p
 rcases (show z1q c k 2=0\/z1q c k 2=1 by lia) with e | e<;>rw [e]<;>rfl
def z3k (c k:Int) (n:Nat):List Int:=(List.range n).map λ (j:Nat)=>z1q c (k+1+(0+(j:Int))) (x6p c k)
theorem z9p (c k:Int) (n:Nat):(z3k c k n).length=n:=by simp [z3k]
theorem y4o (c k:Int) (n:Nat):z3k c k (n+1)=z3k c k n++[z1q c (k+1+(0+(n:Int))) (x6p c k)]:=by
 unfold z3k;rw [List.range_succ,List.map_append];rfl
def wl8:List Str:=["neg","add","max","xor","zzzzzzzz","q","in","out"]
def x3y (i:Int):Str:=⟨#[97+i.toNat]⟩
def z3e (c:Int) (n:Nat):List Str:=(List.range n).map λ (j:Nat)=>x3y (z1q c (22+(0+(j:Int))) 26)
theorem y3k (c:Int) (n:Nat):z3e c (n+1)=z3e c n++[x3y (z1q c (22+(0+(n:Int))) 26)]:=by
 unfold z3e;rw [List.range_succ,List.map_append];rfl
theorem z5q (c:Int) (n:Nat):(z3e c n).length=n:=by simp [z3e]
theorem w1c:∀i:Fin 26,("abcdefghijklmnopqrstuvwxyz" : Str).cps[i.val]?=some (97+i.val):=by decide +kernel
theorem z5b:("abcdefghijklmnopqrstuvwxyz" : Str).length=26:=by decide +kernel
def z2q (c:Int):Str:=if z1q c 20 12 < 8 then wl8.getD (z1q c 20 12).toNat "" else Builtin.Str.glued "" (z3e c (1+z1q c 21 8).toNat)
theorem y6b {ws:List Str}{m:Int}(h0:0≤m) (h1:m < ws.length):atI (ws.map V.str) m=some (.str (ws.getD m.toNat "")):=by
 have z:=z0q (xs:=ws.map V.str) (j:=m.toNat) (v:=.str (ws.getD m.toNat "")) (by rw [List.getElem?_map,List.getD_eq_getElem?_getD,List.getElem?_eq_getElem (by lia)];rfl)
 rwa [show ((m.toNat:Nat):Int)=m by lia] at z
def y8i (c:Int):Int:=if z1q c 4 4=0 then [-9223372036854775808,9223372036854775807,0,-1].getD (z1q c 5 4).toNat 0 else if z1q c 4 4=1 then c % 21 - 10 else c % 18446744073709551616 - 9223372036854775808
def kinds:List Str:=["in","num","count","each","pair","pick","turn","flip","cut","spread","lay","join","fetch","fold","run"]
def z0h (i:Nat):Str:=kinds.getD i ""
def w2h (fs:List (Str × Int)):List Int:=fs.filterMap λ f=>if f.1=("step" : Str) then some f.2 else none
def z1m (i:Nat):List Int:=w2h ((formsL.getD i ("",[])).2)
theorem y7x {i:Nat}(h:i < 15):formsL.lookup (z0h i)=some ((formsL.getD i ("",[])).2):=by
 have z:∀j:Fin 15,formsL.lookup (z0h j.val)=some ((formsL.getD j.val ("",[])).2):=by decide +kernel
 exact z ⟨i,h⟩
theorem z6a {i:Nat}:((formsL.getD i ("",[])).2).length≤5:=by
 by_cases h:i < 15
 ·have z:∀j:Fin 15,((formsL.getD j.val ("",[])).2).length≤5:=by decide +kernel
  exact z ⟨i,h⟩
 ·rw [List.getD_eq_getElem?_getD,List.getElem?_eq_none (by simp [formsL];lia)];decide
def z3x (i:Nat) (ra:Addr) (w:Str) (b s0 s1 s2 s3 u0 u1 u2:Int):List V :=
 match i with
 | 0=>[.str "in",.ref ra]
 | 1=>[.str "num",.int b]
 | 2=>[.str "count",.ref ra,.int s0]
 | 3=>[.str "each",.str w,.int u0]
 | 4=>[.str "pair",.str w,.int u0,.int u1]
 | 5=>[.str "pick",.int u0,.int u1,.int u2]
 | 6=>[.str "turn",.int u0,.ref ra]
 | 7=>[.str "flip",.int u0,.int s0]
 | 8=>[.str "cut",.int u0,.int s0,.int s1,.int s2,.int s3]
 | 9=>[.str "spread",.int u0,.int s0,.int s1]
 | 10=>[.str "lay",.int u0,.ref ra]
 | 11=>[.str "join",.int u0,.int u1,.int s0]
 | 12=>[.str "fetch",.int u0,.int u1]
 | 13=>[.str "fold",.str w,.int u0,.int s0]
 | _=>[.str "run",.str w,.int u0,.int s0]
theorem z6x {P:Nat->Prop}{i:Nat}(h:i < 15) (h0:P 0) (h1:P 1) (h2:P 2) (h3:P 3) (h4:P 4) (h5:P 5) (h6:P 6) (h7:P 7) (h8:P 8) (h9:P 9) (h10:P 10) (h11:P 11) (h12:P 12) (h13:P 13) (h14:P 14):P i:=by
 match i,h with
 | 0,_=>exact h0
 | 1,_=>exact h1
 | 2,_=>exact h2
 | 3,_=>exact h3
 | 4,_=>exact h4
 | 5,_=>exact h5
 | 6,_=>exact h6
 | 7,_=>exact h7
 | 8,_=>exact h8
 | 9,_=>exact h9
 | 10,_=>exact h10
 | 11,_=>exact h11
 | 12,_=>exact h12
 | 13,_=>exact h13
 | 14,_=>exact h14
 | n+15,h=>lia
theorem y2a {i:Nat}(h:i < 15) (ra:Addr) (w:Str) (b s0 s1 s2 s3 u0 u1 u2:Int):(z3x i ra w b s0 s1 s2 s3 u0 u1 u2)[0]?=some (.str (z0h i)):=by
 revert h
 exact λ h=>z6x (P:=λ i=>(z3x i ra w b s0 s1 s2 s3 u0 u1 u2)[0]?=some (.str (z0h i))) h rfl rfl rfl rfl rfl rfl rfl rfl rfl rfl rfl rfl rfl rfl rfl
def AlAt (H:Hp):Nat->V->V->Prop
 | 0,_,_=>False
 | d+1,x,y=>(∃n,x=.int n/\y=.int n)\/(∃s,x=.str s/\y=.str s)\/∃a b xs ys,x=.ref a/\y=.ref b/\H a=some (.tup xs)/\H b=some (.tup ys)/\xs.length=ys.length/\xs.length≤1000/\∀(i:Nat) x y,xs[i]?=some x->ys[i]?=some y->AlAt H d x y
def AlL (H:Hp) (d:Nat):List V->List V->Prop
 | [],[]=>True
 | x::xs,y::ys=>AlAt H d x y/\AlL H d xs ys
 | _,_=>False
theorem AlL.get {H:Hp}{d:Nat}:∀ {xs ys:List V},AlL H d xs ys->xs.length=ys.length/\∀(i:Nat) x y,xs[i]?=some x->ys[i]?=some y->AlAt H d x y
 | [],[],_=>⟨rfl,λ i x y e=>by simp at e⟩
 | [],_::_,h=>h.elim
 | _::_,[],h=>h.elim
 | x::xs,y::ys,h=>⟨by simp [h.2.get.1],λ i x' y' e1 e2=>by
  cases i with
  | zero=>cases e1;cases e2;exact h.1
  | succ i=>exact h.2.get.2 i x' y' e1 e2⟩
theorem AlAt.tup {H:Hp}{d:Nat}{a b:Addr}{xs ys:List V}(ha:H a=some (.tup xs)) (hb:H b=some (.tup ys)) (l:xs.length≤1000) (h:AlL H d xs ys):AlAt H (d+1) (.ref a) (.ref b)   := Or.inr (.inr ⟨a,b,xs,ys,rfl,rfl,ha,hb,h.get.1,l,h.get.2⟩)
theorem AlAt.same {H H':Hp}(s:Same H H'):∀ {d:Nat}{x y:V},AlAt H d x y->AlAt H' d x y
 | 0,_,_,h=>h.elim
 | d+1,_,_,.inl h=>Or.inl h
 | d+1,_,_,.inr (.inl h)=>Or.inr (.inl h)
 | d+1,_,_,.inr (.inr ⟨a,b,xs,ys,e1,e2,h1,h2,l1,l2,h⟩)=>Or.inr (.inr ⟨a,b,xs,ys,e1,e2,s _ _ h1,s _ _ h2,l1,l2,λ i x y g1 g2=>(h i x y g1 g2).same s⟩)
theorem x6r {i:Nat}(h:i < 15) (ra:Addr) (w:Str) (b s0 s1 s2 s3 u0 u1 u2:Int):(z3x i ra w b s0 s1 s2 s3 u0 u1 u2).length≤6 :=
 z6x (P:=λ i=>(z3x i ra w b s0 s1 s2 s3 u0 u1 u2).length≤6) h (by simp [z3x]) (by simp [z3x]) (by simp [z3x]) (by simp [z3x]) (by simp [z3x]) (by simp [z3x]) (by simp [z3x]) (by simp [z3x]) (by simp [z3x]) (by simp [z3x]) (by simp [z3x]) (by simp [z3x]) (by simp [z3x]) (by simp [z3x]) (by simp [z3x])
def smF (c:Int) (k:Nat):Int:=(z3k c 50 4).getD k 0
def w3d (i:Nat) (ra:Addr) (c u0 u1 u2:Int):List V:=z3x i ra (z2q c) (y8i c) (smF c 0) (smF c 1) (smF c 2) (smF c 3) u0 u1 u2
def z5y (c:Int):List Int:=z3k c 40 (z1q c 31 9).toNat
open PySem.NumText in
def D (m:Nat):List Nat:=(Nat.toDigits 10 m).map Char.toNat
theorem v2s:∀d:Nat,d < 10->(Nat.digitChar d).toNat=48+d:=by decide
theorem w4w {m:Nat}(h:m < 10):D m=[48+m]:=by unfold D;rw [Nat.toDigits_of_lt_base h];show [(Nat.digitChar m).toNat]=_;rw [v2s m h]
theorem w9i {m:Nat}(h:10≤m):D m=D (m / 10)++[48+m % 10]:=by
 have hm:m % 10 < 10:=Nat.mod_lt m (by decide)
 have t:Nat.toDigits 10 (m / 10)++Nat.toDigits 10 (m % 10)=Nat.toDigits 10 (10 * (m / 10)+m % 10):=Nat.toDigits_append_toDigits (by decide) (by lia) hm
 rw [Nat.div_add_mod] at t
 unfold D
 rw [← t,List.map_append,Nat.toDigits_of_lt_base hm]
 show _++[(Nat.digitChar (m % 10)).toNat]=_
 rw [v2s _ hm]
theorem y4f (m:Nat):∀c∈D m,48≤c/\c≤57:=by
 induction m using Nat.strongRecOn with
 | _ m ih =>
  intro c hc
  by_cases h:m < 10
  ·rw [w4w h] at hc;cases List.mem_singleton.mp hc;lia
  ·rw [w9i (by lia)] at hc
   rcases List.mem_append.mp hc with hc | hc
   ·exact ih (m / 10) (by lia) c hc
   ·cases List.mem_singleton.mp hc;lia
theorem v1r (m:Nat):PySem.NumText.digitsVal (D m)=m:=W.KIN.val_back m
theorem w4t (m:Nat):1≤(D m).length:=by
 by_cases h:m < 10
 ·rw [w4w h];simp
 ·rw [w9i (by lia)];simp
theorem w9h (k:Nat):∀m:Nat,(D m).length≤k+1 ↔ m < 10 ^ (k+1):=by
 induction k with
 | zero =>
  intro m
  by_cases h:m < 10
  ·rw [w4w h];simp;lia
  ·rw [w9i (by lia),List.length_append]
   have p:=w4t (m / 10)
   constructor
   ·intro z;have z2:(D (m / 10)).length+1≤1:=z;lia
   ·intro z;have z2:m < 10:=z;lia
 | succ k ih =>
  intro m
  by_cases h:m < 10
  ·rw [w4w h]
   have:10≤10 ^ (k+1+1):=Nat.le_trans (by decide) (Nat.pow_le_pow_right (by decide) (show 1≤k+1+1 by lia))
   simp;lia
  ·rw [w9i (by lia),List.length_append]
   have:=ih (m / 10)
   rw [Nat.pow_succ,show (D (m / 10)).length + [48+m % 10].length≤k+1+1 ↔ (D (m / 10)).length≤k+1 by simp,this]
   lia
theorem w1d (m:Nat) (r:List Nat) (h:D m=48::r):m=0:=by
 revert r
 induction m using Nat.strongRecOn with
 | _ m ih =>
  intro r e
  by_cases h:m < 10
  ·rw [w4w h] at e;injection e with e1 _;lia
  ·rw [w9i (by lia)] at e
   have p:=w4t (m / 10)
   cases hd:D (m / 10) with
   | nil=>rw [hd] at p;simp at p
   | cons c cs =>
    rw [hd] at e
    injection e with e1 _
    have:=ih (m / 10) (by lia) cs (by rw [hd,e1])
    lia
def y8d (c:Nat):Bool:=decide (48≤c) && decide (c≤57)
def y1k (L:List Nat) (m:Int):Bool:=decide (1≤(L.length:Int)) && (decide ((L.length:Int)≤m) && L.all y8d)
def z4o (L:List Nat) (m:Int):Option Nat:=if y1k L m=true then (if L.head?=some 48/\1 < L.length then none else some (PySem.NumText.digitsVal L)) else none
def x6k (n:Int):Option Int:=if -9223372036854775808≤n/\n≤9223372036854775807 then some n else none
def y7j (L:List Nat):Option Int :=
 if L=[45,48] then none else if L.head?=some 45 then (z4o (L.drop 1) 19).bind (λ n=>x6k (-(n:Int))) else (z4o L 19).bind (λ n=>x6k (n:Int))
def w7e:Option Int->V | none=>.non | some n=>.int n
def y7g:Option Nat->V | none=>.non | some n=>.int (n:Int)
def v3v (x:Str):Prop:=x.cps.size≤100/\∀c∈x.cps.toList,c < 128
theorem w8q:∀c:Fin 128,(!(Builtin.Str.occurrences "0123456789" ⟨#[c.val]⟩ 0 ("0123456789" : Str).length 1).isEmpty)=y8d c.val:=by decide +kernel
theorem made_D {m:Nat}{k:Nat}:y1k (D m) ((k+1:Nat):Int)=true ↔ m < 10 ^ (k+1):=by
 unfold y1k
 have a:(D m).all y8d=true:=List.all_eq_true.mpr λ c hc=>by have:=y4f m c hc;simp [y8d];lia
 have b:=w4t m
 have c:=w9h k m
 rw [a]
 simp only [Bool.and_true,Bool.and_eq_true,decide_eq_true_eq]
 lia
theorem w3w {m k:Nat}:z4o (D m) ((k+1:Nat):Int)=if m < 10 ^ (k+1) then some m else none:=by
 unfold z4o
 by_cases h:m < 10 ^ (k+1)
 ·rw [if_pos (made_D.mpr h),if_pos h,v1r]
  rw [if_neg]
  rintro ⟨h1,h2⟩
  cases e:D m with
  | nil=>rw [e] at h1;cases h1
  | cons c r =>
   rw [e] at h1
   have z:=w1d m r (by rw [e];injection h1 with h1;rw [h1])
   subst z
   rw [w4w (by decide)] at h2
   simp at h2
 ·rw [if_neg (λ z=>h (made_D.mp z)),if_neg h]
theorem w3v {L:List Nat}{m:Int}{c:Nat}(h:c∈L) (b:y8d c=false):z4o L m=none:=by
 unfold z4o
 rw [if_neg]
 intro z
 unfold y1k at z
 simp only [Bool.and_eq_true] at z
 have:=List.all_eq_true.mp z.2.2 c h
 rw [b] at this;cases this
theorem v3a (m:Nat):(D m).head?≠some 45:=by
 intro h
 have:=y4f m 45 (List.mem_of_head? h)
 lia
theorem w3a {m:Nat}(h:m < 10 ^ 20):y7j (D m)=x6k (m:Int):=by
 unfold y7j
 rw [if_neg (λ z=>v3a m (by rw [z];rfl)),if_neg (v3a m),show (19:Int)=((18+1:Nat):Int) from rfl,w3w]
 by_cases c:m < 10 ^ (18+1)
 ·rw [if_pos c];rfl
 ·rw [if_neg c]
  unfold x6k
  rw [if_neg (by lia)];rfl
theorem w3c {m:Nat}(h0:m≠0) (h:m < 10 ^ 20):y7j (45::D m)=x6k (-(m:Int)):=by
 unfold y7j
 rw [if_neg (λ z=>by injection z with _ z;exact h0 (w1d m [] z)),if_pos (show (45::D m).head?=some 45 from rfl),List.drop_one,List.tail_cons,show (19:Int)=((18+1:Nat):Int) from rfl,w3w]
 by_cases c:m < 10 ^ (18+1)
 ·rw [if_pos c];rfl
 ·rw [if_neg c]
  unfold x6k
  rw [if_neg (by lia)];rfl
def x6j (n:Int):List Nat:=if 0≤n then D n.toNat else 45::D (-n).toNat
theorem y1x (n:Int):(Str.ofString (toString n)).cps.toList=x6j n:=by
 unfold x6j
 by_cases h:0≤n
 ·rw [if_pos h]
  obtain ⟨m,rfl⟩:=Int.eq_ofNat_of_zero_le h
  exact W.KIN.signs_num m
 ·rw [if_neg h]
  obtain ⟨k,rfl⟩:∃k:Nat,n=Int.negSucc k:=⟨(-n - 1).toNat,by lia⟩
  have e:(-(Int.negSucc k)).toNat=k+1:=by lia
  rw [e,PyProof.Rows.signs_ofString]
  show ("-" ++ Nat.repr (k+1)).toList.map Char.toNat=45::D (k+1)
  rw [String.toList_append,List.map_append,Nat.toList_repr]
  rfl
theorem w1i (n:Int) (h:n.natAbs < 10 ^ 20):v3v (Str.ofString (toString n)):=by
 have e:=y1x n
 have l:∀m:Nat,m < 10 ^ 20->(D m).length≤20:=λ m hm=>(w9h 19 m).mpr hm
 refine ⟨?_,?_⟩
 ·rw [← Array.length_toList,e]
  unfold x6j
  split
  ·have:=l n.toNat (by lia);lia
  ·have:=l (-n).toNat (by lia);simp;lia
 ·rw [e]
  unfold x6j
  intro c hc
  split at hc
  ·have:=y4f _ c hc;lia
  ·rcases List.mem_cons.mp hc with rfl | hc
   ·decide
   ·have:=y4f _ c hc;lia
structure Sd where
 kd:Nat
 c:Int
 u0:Nat
 u1:Nat
 u2:Nat
def sI (n:Int):Str:=Str.ofString (toString n)
def stV (d:Sd) (ra:Addr):List V:=w3d d.kd ra d.c d.u0 d.u1 d.u2
def SdAt (H:Hp) (d:Sd) (a:Addr):Prop:=∃ra,H a=some (.tup (stV d ra))/\H ra=some (.tup ((z5y d.c).map V.int))
theorem SdAt.same {H H':Hp}(s:Same H H') {d:Sd}{a:Addr}(h:SdAt H d a):SdAt H' d a:=let ⟨ra,h1,h2⟩:=h;⟨ra,s _ _ h1,s _ _ h2⟩
def y4e (n:Nat) (d:Sd):Prop:=d.kd < 15/\d.u0 < n/\d.u1 < n/\d.u2 < n
def NmAt (H:Hp) (a:Addr) (nm:List Str):Prop:=H a=some (.lst (nm.map V.str))\/H a=some (.tup (nm.map V.str))
theorem NmAt.same {H H':Hp}(s:Same H H') {a:Addr}{nm:List Str}(h:NmAt H a nm):NmAt H' a nm:=h.imp (s _ _) (s _ _)
def SdsAt (H:Hp) (ds:List Sd) (as:List Addr):Prop:=as.length=ds.length/\∀(i:Nat) d,ds[i]?=some d->∃a,as[i]?=some a/\SdAt H d a
theorem SdsAt.same {H H':Hp}{ds:List Sd}{as:List Addr}(h:SdsAt H ds as) (s:Same H H'):SdsAt H' ds as:=⟨h.1,λ i d e=>let ⟨a,e1,l⟩:=h.2 i d e;⟨a,e1,l.same s⟩⟩
theorem SdAt.lst {H:Hp}{d:Sd}{a l:Addr}{xs:List V}{o:HO}(h:SdAt H d a) (hl:H l=some (.lst xs)):SdAt (upd H l o) d a:=by
 obtain ⟨ra,h1,h2⟩:=h
 exact ⟨ra,by rw [z0o (λ z=>by rw [z,hl] at h1;cases h1)];exact h1,by rw [z0o (λ z=>by rw [z,hl] at h2;cases h2)];exact h2⟩
theorem SdsAt.lst {H:Hp}{ds:List Sd}{as:List Addr}{l:Addr}{xs:List V}{o:HO}(h:SdsAt H ds as) (hl:H l=some (.lst xs)):SdsAt (upd H l o) ds as:=⟨h.1,λ i d e=>let ⟨a,e1,g⟩:=h.2 i d e;⟨a,e1,g.lst hl⟩⟩
theorem SdsAt.snoc {H:Hp}{ds:List Sd}{as:List Addr}{d:Sd}{a:Addr}(h:SdsAt H ds as) (g:SdAt H d a):SdsAt H (ds++[d]) (as++[a]):=by
 refine ⟨by simp [h.1],λ i d' e=>?_⟩
 rcases Nat.lt_trichotomy i ds.length with hi | hi | hi
 ·rw [List.getElem?_append_left hi] at e
  obtain ⟨b,e1,l⟩:=h.2 i d' e
  exact ⟨b,by rw [List.getElem?_append_left (by rw [h.1];exact hi)];exact e1,l⟩
 ·subst hi
  rw [List.getElem?_append_right (Nat.le_refl _),Nat.sub_self] at e
  cases (Option.some.inj e)
  exact ⟨a,by rw [List.getElem?_append_right (by rw [h.1];exact Nat.le_refl _),h.1,Nat.sub_self];rfl,g⟩
 ·rw [List.getElem?_eq_none (by simp;lia)] at e;cases e
theorem w9b {ns:List Int}{k:Nat}(h:k < ns.length):atI (ns.map V.int) (k:Int)=some (.int (ns.getD k 0)):=z0q (by rw [List.getElem?_map,List.getD_eq_getElem?_getD,List.getElem?_eq_getElem h];rfl)
def x3n (nm:List Str):Prop:=nm.length≤44/\∀x∈nm,x.length≤20
def smR (row:List Int):Prop:=row.length≤8/\∀n∈row,0≤n/\n < 1000
theorem y2f (c k:Int) (n:Nat):∀x∈z3k c k n,0≤x/\x < 1000:=λ x hx=>by
 obtain ⟨j,_,rfl⟩:=List.mem_map.mp hx
 have r:=z1d c (k+1+(0+(j:Int))) (x0n c k)
 have t:x6p c k≤1000:=by unfold x6p;split<;>decide
 lia
theorem y6h (c:Int):smR (z5y c):=by
 refine ⟨?_,y2f _ _ _⟩
 unfold z5y;rw [z9p]
 have:=z1d c 31 (show (0:Int) < 9 by decide)
 lia
theorem z3l (c:Int) (k:Nat):0≤smF c k/\smF c k < 1000:=by
 unfold smF
 rw [List.getD_eq_getElem?_getD]
 cases e:(z3k c 50 4)[k]? with
 | none=>simp
 | some x=>exact y2f _ _ _ x (List.mem_of_getElem? e)
theorem z3q (c:Int) (k:Nat):(smF c k).natAbs < 10 ^ 20:=by have:=z3l c k;lia
theorem w1a (c:Int):(y8i c).natAbs < 10 ^ 20:=by
 unfold y8i
 split
 ·have r:=z1d c 5 (show (0:Int) < 4 by decide)
  generalize z1q c 5 4=z at *
  rcases (show z=0\/z=1\/z=2\/z=3 by lia) with rfl | rfl | rfl | rfl<;>decide
 ·split<;>lia
theorem x3w {n:Int}(h:n.natAbs < 10 ^ 20):n.natAbs.log2 < 1920:=by
 by_cases z:n.natAbs=0
 ·rw [z];decide
 ·exact Nat.lt_of_lt_of_le ((Nat.log2_lt z).mpr (Nat.lt_of_lt_of_le h (show 10 ^ 20≤2 ^ 67 by decide))) (by decide)
theorem z3r (c:Int):(z2q c).length≤100:=by
 unfold z2q
 split
 ·have r:=z1d c 20 (show (0:Int) < 12 by decide)
  have z:∀i:Fin 8,(wl8.getD i.val "").length≤100:=by decide +kernel
  exact z ⟨(z1q c 20 12).toNat,by lia⟩
 ·have r:=z1d c 21 (show (0:Int) < 8 by decide)
  refine Nat.le_trans (z4f _ _) (Nat.le_trans (z9n (k:=1) λ y hy=>?_) ?_)
  ·obtain ⟨j,_,rfl⟩:=List.mem_map.mp hy
   exact Nat.le_refl 1
  ·rw [z5q]
   have:("" : Str).length=0:=by decide +kernel
   rw [this];lia
theorem w0g {n:Int}(h:n.natAbs < 10 ^ 20):(sI n).length≤100:=(w1i n h).1
def PwOk (H:Hp) (nm:List Str) (kind:Str) (part:V) (ws:List Str):Prop :=
 (kind="step" /\ ∃(u:Nat) (x:Str),part=.int (u:Int)/\nm[u]?=some x/\ws=[x])\/(kind="sides" /\ ∃a row,part=.ref a/\H a=some (.tup (row.map V.int))/\smR row/\ws=row.map sI) \/
 (kind ≠ "step" /\ kind ≠ "sides" /\ ((∃n:Int,part=.int n/\n.natAbs < 10 ^ 20/\ws=[sI n])\/∃t,part=.str t/\t.length≤100/\ws=[t]))
def z2z (d:Sd) (nm:List Str):List (List Str) :=
 match d.kd with
 | 0=>[(z5y d.c).map sI]
 | 1=>[[sI (y8i d.c)]]
 | 2=>[[sI (smF d.c 0)],(z5y d.c).map sI]
 | 3=>[[z2q d.c],[nm.getD d.u0 ""]]
 | 4=>[[z2q d.c],[nm.getD d.u0 ""],[nm.getD d.u1 ""]]
 | 5=>[[nm.getD d.u0 ""],[nm.getD d.u1 ""],[nm.getD d.u2 ""]]
 | 6=>[[nm.getD d.u0 ""],(z5y d.c).map sI]
 | 7=>[[nm.getD d.u0 ""],[sI (smF d.c 0)]]
 | 8=>[[nm.getD d.u0 ""],[sI (smF d.c 0)],[sI (smF d.c 1)],[sI (smF d.c 2)],[sI (smF d.c 3)]]
 | 9=>[[nm.getD d.u0 ""],[sI (smF d.c 0)],[sI (smF d.c 1)]]
 | 10=>[[nm.getD d.u0 ""],(z5y d.c).map sI]
 | 11=>[[nm.getD d.u0 ""],[nm.getD d.u1 ""],[sI (smF d.c 0)]]
 | 12=>[[nm.getD d.u0 ""],[nm.getD d.u1 ""]]
 | 13=>[[z2q d.c],[nm.getD d.u0 ""],[sI (smF d.c 0)]]
 | _=>[[z2q d.c],[nm.getD d.u0 ""],[sI (smF d.c 0)]]
def x0d (d:Sd) (nm:List Str):List (List Str) :=
 match d.kd with
 | 0=>[(z5y d.c).map sI]
 | 1=>[[sI (y8i d.c)]]
 | 2=>[(z5y d.c).map sI,[]]
 | 3=>[[z2q d.c],[nm.getD d.u0 ""]]
 | 4=>[[z2q d.c],[nm.getD d.u0 ""],[nm.getD d.u1 ""]]
 | 5=>[[nm.getD d.u0 ""],[nm.getD d.u1 ""],[nm.getD d.u2 ""]]
 | 6=>[[nm.getD d.u0 ""],(z5y d.c).map sI]
 | 7=>[[nm.getD d.u0 ""],[sI (smF d.c 0)]]
 | 8=>[[nm.getD d.u0 ""],[sI (smF d.c 0)],[sI (smF d.c 1)],[sI (smF d.c 2)],[sI (smF d.c 3)]]
 | 9=>[[nm.getD d.u0 ""],[sI (smF d.c 0)],[sI (smF d.c 1)]]
 | 10=>[[nm.getD d.u0 ""],(z5y d.c).map sI]
 | 11=>[[nm.getD d.u0 ""],[nm.getD d.u1 ""],[sI (smF d.c 0)]]
 | 12=>[[nm.getD d.u0 ""],[nm.getD d.u1 ""]]
 | 13=>[[z2q d.c],[nm.getD d.u0 ""],[sI (smF d.c 0)]]
 | _=>[[z2q d.c],[nm.getD d.u0 ""],[sI (smF d.c 0)]]
def z2p (d:Sd) (nm:List Str):List Str:=(z2z d nm).flatten
def w9k (d:Sd) (name:Str) (nm:List Str):Str:=Builtin.Str.glued " " ([name,"=",z0h d.kd]++z2p d nm)
theorem y9w {nm:List Str}{u:Nat}(h:u < nm.length):nm[u]?=some (nm.getD u ""):=by
 rw [List.getD_eq_getElem?_getD,List.getElem?_eq_getElem h];rfl
theorem y5d {H:Hp}{nm:List Str}{d:Sd}{ra:Addr}(ok:y4e nm.length d) (hr:H ra=some (.tup ((z5y d.c).map V.int))):∀(j:Nat) f,((formsL.getD d.kd ("",[])).2)[j]?=some f->∃x ws,atI (stV d ra) f.2=some x/\(z2z d nm)[j]?=some ws/\PwOk H nm f.1 x ws:=by
 obtain ⟨hk,l0,l1,l2⟩:=ok
 have hu0:=y9w l0
 have hu1:=y9w l1
 have hu2:=y9w l2
 have smr:=y6h d.c
 rcases (w9m ‹d.kd < 15›) with hk | hk | hk | hk | hk | hk | hk | hk | hk | hk | hk | hk | hk | hk | hk
 ·rcases d with ⟨kd,c,u0,u1,u2⟩;cases (show kd=0 from hk)
  intro j f e
  match j,e with
  | 0,e=>cases (Option.some.inj (show some (("sides" : Str),(1:Int))=some f from e));exact ⟨_,_,rfl,rfl,Or.inr (.inl ⟨rfl,ra,z5y (⟨0,c,u0,u1,u2⟩:Sd).c,rfl,hr,smr,rfl⟩)⟩
  | n+1,e=>cases e
 ·rcases d with ⟨kd,c,u0,u1,u2⟩;cases (show kd=1 from hk)
  intro j f e
  match j,e with
  | 0,e=>cases (Option.some.inj (show some (("number" : Str),(1:Int))=some f from e));exact ⟨_,_,rfl,rfl,Or.inr (.inr ⟨by decide +kernel,by decide +kernel,.inl ⟨y8i (⟨1,c,u0,u1,u2⟩:Sd).c,rfl,w1a c,rfl⟩⟩)⟩
  | n+1,e=>cases e
 ·rcases d with ⟨kd,c,u0,u1,u2⟩;cases (show kd=2 from hk)
  intro j f e
  match j,e with
  | 0,e=>cases (Option.some.inj (show some (("small" : Str),(2:Int))=some f from e));exact ⟨_,_,rfl,rfl,Or.inr (.inr ⟨by decide +kernel,by decide +kernel,.inl ⟨smF (⟨2,c,u0,u1,u2⟩:Sd).c 0,rfl,z3q c 0,rfl⟩⟩)⟩
  | 1,e=>cases (Option.some.inj (show some (("sides" : Str),(1:Int))=some f from e));exact ⟨_,_,rfl,rfl,Or.inr (.inl ⟨rfl,ra,z5y (⟨2,c,u0,u1,u2⟩:Sd).c,rfl,hr,smr,rfl⟩)⟩
  | n+2,e=>cases e
 ·rcases d with ⟨kd,c,u0,u1,u2⟩;cases (show kd=3 from hk)
  intro j f e
  match j,e with
  | 0,e=>cases (Option.some.inj (show some (("word" : Str),(1:Int))=some f from e));exact ⟨_,_,rfl,rfl,Or.inr (.inr ⟨by decide +kernel,by decide +kernel,.inr ⟨z2q (⟨3,c,u0,u1,u2⟩:Sd).c,rfl,z3r c,rfl⟩⟩)⟩
  | 1,e=>cases (Option.some.inj (show some (("step" : Str),(2:Int))=some f from e));exact ⟨_,_,rfl,rfl,Or.inl ⟨rfl,(⟨3,c,u0,u1,u2⟩:Sd).u0,_,rfl,hu0,rfl⟩⟩
  | n+2,e=>cases e
 ·rcases d with ⟨kd,c,u0,u1,u2⟩;cases (show kd=4 from hk)
  intro j f e
  match j,e with
  | 0,e=>cases (Option.some.inj (show some (("word" : Str),(1:Int))=some f from e));exact ⟨_,_,rfl,rfl,Or.inr (.inr ⟨by decide +kernel,by decide +kernel,.inr ⟨z2q (⟨4,c,u0,u1,u2⟩:Sd).c,rfl,z3r c,rfl⟩⟩)⟩
  | 1,e=>cases (Option.some.inj (show some (("step" : Str),(2:Int))=some f from e));exact ⟨_,_,rfl,rfl,Or.inl ⟨rfl,(⟨4,c,u0,u1,u2⟩:Sd).u0,_,rfl,hu0,rfl⟩⟩
  | 2,e=>cases (Option.some.inj (show some (("step" : Str),(3:Int))=some f from e));exact ⟨_,_,rfl,rfl,Or.inl ⟨rfl,(⟨4,c,u0,u1,u2⟩:Sd).u1,_,rfl,hu1,rfl⟩⟩
  | n+3,e=>cases e
 ·rcases d with ⟨kd,c,u0,u1,u2⟩;cases (show kd=5 from hk)
  intro j f e
  match j,e with
  | 0,e=>cases (Option.some.inj (show some (("step" : Str),(1:Int))=some f from e));exact ⟨_,_,rfl,rfl,Or.inl ⟨rfl,(⟨5,c,u0,u1,u2⟩:Sd).u0,_,rfl,hu0,rfl⟩⟩
  | 1,e=>cases (Option.some.inj (show some (("step" : Str),(2:Int))=some f from e));exact ⟨_,_,rfl,rfl,Or.inl ⟨rfl,(⟨5,c,u0,u1,u2⟩:Sd).u1,_,rfl,hu1,rfl⟩⟩
  | 2,e=>cases (Option.some.inj (show some (("step" : Str),(3:Int))=some f from e));exact ⟨_,_,rfl,rfl,Or.inl ⟨rfl,(⟨5,c,u0,u1,u2⟩:Sd).u2,_,rfl,hu2,rfl⟩⟩
  | n+3,e=>cases e
 ·rcases d with ⟨kd,c,u0,u1,u2⟩;cases (show kd=6 from hk)
  intro j f e
  match j,e with
  | 0,e=>cases (Option.some.inj (show some (("step" : Str),(1:Int))=some f from e));exact ⟨_,_,rfl,rfl,Or.inl ⟨rfl,(⟨6,c,u0,u1,u2⟩:Sd).u0,_,rfl,hu0,rfl⟩⟩
  | 1,e=>cases (Option.some.inj (show some (("sides" : Str),(2:Int))=some f from e));exact ⟨_,_,rfl,rfl,Or.inr (.inl ⟨rfl,ra,z5y (⟨6,c,u0,u1,u2⟩:Sd).c,rfl,hr,smr,rfl⟩)⟩
  | n+2,e=>cases e
 ·rcases d with ⟨kd,c,u0,u1,u2⟩;cases (show kd=7 from hk)
  intro j f e
  match j,e with
  | 0,e=>cases (Option.some.inj (show some (("step" : Str),(1:Int))=some f from e));exact ⟨_,_,rfl,rfl,Or.inl ⟨rfl,(⟨7,c,u0,u1,u2⟩:Sd).u0,_,rfl,hu0,rfl⟩⟩
  | 1,e=>cases (Option.some.inj (show some (("small" : Str),(2:Int))=some f from e));exact ⟨_,_,rfl,rfl,Or.inr (.inr ⟨by decide +kernel,by decide +kernel,.inl ⟨smF (⟨7,c,u0,u1,u2⟩:Sd).c 0,rfl,z3q c 0,rfl⟩⟩)⟩
  | n+2,e=>cases e
 ·rcases d with ⟨kd,c,u0,u1,u2⟩;cases (show kd=8 from hk)
  intro j f e
  match j,e with
  | 0,e=>cases (Option.some.inj (show some (("step" : Str),(1:Int))=some f from e));exact ⟨_,_,rfl,rfl,Or.inl ⟨rfl,(⟨8,c,u0,u1,u2⟩:Sd).u0,_,rfl,hu0,rfl⟩⟩
  | 1,e=>cases (Option.some.inj (show some (("small" : Str),(2:Int))=some f from e));exact ⟨_,_,rfl,rfl,Or.inr (.inr ⟨by decide +kernel,by decide +kernel,.inl ⟨smF (⟨8,c,u0,u1,u2⟩:Sd).c 0,rfl,z3q c 0,rfl⟩⟩)⟩
  | 2,e=>cases (Option.some.inj (show some (("small" : Str),(3:Int))=some f from e));exact ⟨_,_,rfl,rfl,Or.inr (.inr ⟨by decide +kernel,by decide +kernel,.inl ⟨smF (⟨8,c,u0,u1,u2⟩:Sd).c 1,rfl,z3q c 1,rfl⟩⟩)⟩
  | 3,e=>cases (Option.some.inj (show some (("small" : Str),(4:Int))=some f from e));exact ⟨_,_,rfl,rfl,Or.inr (.inr ⟨by decide +kernel,by decide +kernel,.inl ⟨smF (⟨8,c,u0,u1,u2⟩:Sd).c 2,rfl,z3q c 2,rfl⟩⟩)⟩
  | 4,e=>cases (Option.some.inj (show some (("small" : Str),(5:Int))=some f from e));exact ⟨_,_,rfl,rfl,Or.inr (.inr ⟨by decide +kernel,by decide +kernel,.inl ⟨smF (⟨8,c,u0,u1,u2⟩:Sd).c 3,rfl,z3q c 3,rfl⟩⟩)⟩
  | n+5,e=>cases e
 ·rcases d with ⟨kd,c,u0,u1,u2⟩;cases (show kd=9 from hk)
  intro j f e
  match j,e with
  | 0,e=>cases (Option.some.inj (show some (("step" : Str),(1:Int))=some f from e));exact ⟨_,_,rfl,rfl,Or.inl ⟨rfl,(⟨9,c,u0,u1,u2⟩:Sd).u0,_,rfl,hu0,rfl⟩⟩
  | 1,e=>cases (Option.some.inj (show some (("small" : Str),(2:Int))=some f from e));exact ⟨_,_,rfl,rfl,Or.inr (.inr ⟨by decide +kernel,by decide +kernel,.inl ⟨smF (⟨9,c,u0,u1,u2⟩:Sd).c 0,rfl,z3q c 0,rfl⟩⟩)⟩
  | 2,e=>cases (Option.some.inj (show some (("small" : Str),(3:Int))=some f from e));exact ⟨_,_,rfl,rfl,Or.inr (.inr ⟨by decide +kernel,by decide +kernel,.inl ⟨smF (⟨9,c,u0,u1,u2⟩:Sd).c 1,rfl,z3q c 1,rfl⟩⟩)⟩
  | n+3,e=>cases e
 ·rcases d with ⟨kd,c,u0,u1,u2⟩;cases (show kd=10 from hk)
  intro j f e
  match j,e with
  | 0,e=>cases (Option.some.inj (show some (("step" : Str),(1:Int))=some f from e));exact ⟨_,_,rfl,rfl,Or.inl ⟨rfl,(⟨10,c,u0,u1,u2⟩:Sd).u0,_,rfl,hu0,rfl⟩⟩
  | 1,e=>cases (Option.some.inj (show some (("sides" : Str),(2:Int))=some f from e));exact ⟨_,_,rfl,rfl,Or.inr (.inl ⟨rfl,ra,z5y (⟨10,c,u0,u1,u2⟩:Sd).c,rfl,hr,smr,rfl⟩)⟩
  | n+2,e=>cases e
 ·rcases d with ⟨kd,c,u0,u1,u2⟩;cases (show kd=11 from hk)
  intro j f e
  match j,e with
  | 0,e=>cases (Option.some.inj (show some (("step" : Str),(1:Int))=some f from e));exact ⟨_,_,rfl,rfl,Or.inl ⟨rfl,(⟨11,c,u0,u1,u2⟩:Sd).u0,_,rfl,hu0,rfl⟩⟩
  | 1,e=>cases (Option.some.inj (show some (("step" : Str),(2:Int))=some f from e));exact ⟨_,_,rfl,rfl,Or.inl ⟨rfl,(⟨11,c,u0,u1,u2⟩:Sd).u1,_,rfl,hu1,rfl⟩⟩
  | 2,e=>cases (Option.some.inj (show some (("small" : Str),(3:Int))=some f from e));exact ⟨_,_,rfl,rfl,Or.inr (.inr ⟨by decide +kernel,by decide +kernel,.inl ⟨smF (⟨11,c,u0,u1,u2⟩:Sd).c 0,rfl,z3q c 0,rfl⟩⟩)⟩
  | n+3,e=>cases e
 ·rcases d with ⟨kd,c,u0,u1,u2⟩;cases (show kd=12 from hk)
  intro j f e
  match j,e with
  | 0,e=>cases (Option.some.inj (show some (("step" : Str),(1:Int))=some f from e));exact ⟨_,_,rfl,rfl,Or.inl ⟨rfl,(⟨12,c,u0,u1,u2⟩:Sd).u0,_,rfl,hu0,rfl⟩⟩
  | 1,e=>cases (Option.some.inj (show some (("step" : Str),(2:Int))=some f from e));exact ⟨_,_,rfl,rfl,Or.inl ⟨rfl,(⟨12,c,u0,u1,u2⟩:Sd).u1,_,rfl,hu1,rfl⟩⟩
  | n+2,e=>cases e
 ·rcases d with ⟨kd,c,u0,u1,u2⟩;cases (show kd=13 from hk)
  intro j f e
  match j,e with
  | 0,e=>cases (Option.some.inj (show some (("word" : Str),(1:Int))=some f from e));exact ⟨_,_,rfl,rfl,Or.inr (.inr ⟨by decide +kernel,by decide +kernel,.inr ⟨z2q (⟨13,c,u0,u1,u2⟩:Sd).c,rfl,z3r c,rfl⟩⟩)⟩
  | 1,e=>cases (Option.some.inj (show some (("step" : Str),(2:Int))=some f from e));exact ⟨_,_,rfl,rfl,Or.inl ⟨rfl,(⟨13,c,u0,u1,u2⟩:Sd).u0,_,rfl,hu0,rfl⟩⟩
  | 2,e=>cases (Option.some.inj (show some (("small" : Str),(3:Int))=some f from e));exact ⟨_,_,rfl,rfl,Or.inr (.inr ⟨by decide +kernel,by decide +kernel,.inl ⟨smF (⟨13,c,u0,u1,u2⟩:Sd).c 0,rfl,z3q c 0,rfl⟩⟩)⟩
  | n+3,e=>cases e
 ·rcases d with ⟨kd,c,u0,u1,u2⟩;cases (show kd=14 from hk)
  intro j f e
  match j,e with
  | 0,e=>cases (Option.some.inj (show some (("word" : Str),(1:Int))=some f from e));exact ⟨_,_,rfl,rfl,Or.inr (.inr ⟨by decide +kernel,by decide +kernel,.inr ⟨z2q (⟨14,c,u0,u1,u2⟩:Sd).c,rfl,z3r c,rfl⟩⟩)⟩
  | 1,e=>cases (Option.some.inj (show some (("step" : Str),(2:Int))=some f from e));exact ⟨_,_,rfl,rfl,Or.inl ⟨rfl,(⟨14,c,u0,u1,u2⟩:Sd).u0,_,rfl,hu0,rfl⟩⟩
  | 2,e=>cases (Option.some.inj (show some (("small" : Str),(3:Int))=some f from e));exact ⟨_,_,rfl,rfl,Or.inr (.inr ⟨by decide +kernel,by decide +kernel,.inl ⟨smF (⟨14,c,u0,u1,u2⟩:Sd).c 0,rfl,z3q c 0,rfl⟩⟩)⟩
  | n+3,e=>cases e
def v4k (H:Hp) (nm:List Str) (kd:Nat) (k:Nat) (part:V) (ws:List Str):Prop :=
 (∃a row,part=.ref a/\H a=some (.tup (row.map V.int))/\smR row/\ws=row.map sI)\/(∃t,part=.str t/\t.length≤100/\ws=[t])\/(∃n:Int,part=.int n/\kd=2/\ws=[]) \/
 (∃n:Int,part=.int n/\kd≠2/\(((k:Int)∈z1m kd/\∃(u:Nat) (x:Str),n=(u:Int)/\nm[u]?=some x/\ws=[x])\/((k:Int) ∉ z1m kd/\n.natAbs < 10 ^ 20/\ws=[sI n])))
theorem w7r {H:Hp}{nm:List Str}{d:Sd}{ra:Addr}(ok:y4e nm.length d) (hr:H ra=some (.tup ((z5y d.c).map V.int))):∀(i:Nat),i+1 < (stV d ra).length->∃x ws,(stV d ra)[i+1]?=some x/\(x0d d nm)[i]?=some ws/\v4k H nm d.kd (i+1) x ws:=by
 obtain ⟨hk,l0,l1,l2⟩:=ok
 have hu0:=y9w l0
 have hu1:=y9w l1
 have hu2:=y9w l2
 have smr:=y6h d.c
 rcases (w9m ‹d.kd < 15›) with hk | hk | hk | hk | hk | hk | hk | hk | hk | hk | hk | hk | hk | hk | hk
 ·rcases d with ⟨kd,c,u0,u1,u2⟩;cases (show kd=0 from hk)
  intro i hi
  match i,hi with
  | 0,_=>exact ⟨_,_,rfl,rfl,Or.inl ⟨ra,z5y c,rfl,hr,smr,rfl⟩⟩
  | n+1,hi=>exact absurd hi (by show ¬n+1+1 < 2;lia)
 ·rcases d with ⟨kd,c,u0,u1,u2⟩;cases (show kd=1 from hk)
  intro i hi
  match i,hi with
  | 0,_=>exact ⟨_,_,rfl,rfl,Or.inr (.inr (.inr ⟨y8i c,rfl,(show (1:Nat)≠2 by decide),.inr ⟨(show ((1:Nat):Int) ∉ z1m 1 by decide +kernel),w1a c,rfl⟩⟩))⟩
  | n+1,hi=>exact absurd hi (by show ¬n+1+1 < 2;lia)
 ·rcases d with ⟨kd,c,u0,u1,u2⟩;cases (show kd=2 from hk)
  intro i hi
  match i,hi with
  | 0,_=>exact ⟨_,_,rfl,rfl,Or.inl ⟨ra,z5y c,rfl,hr,smr,rfl⟩⟩
  | 1,_=>exact ⟨_,_,rfl,rfl,Or.inr (.inr (.inl ⟨smF c 0,rfl,rfl,rfl⟩))⟩
  | n+2,hi=>exact absurd hi (by show ¬n+2+1 < 3;lia)
 ·rcases d with ⟨kd,c,u0,u1,u2⟩;cases (show kd=3 from hk)
  intro i hi
  match i,hi with
  | 0,_=>exact ⟨_,_,rfl,rfl,Or.inr (.inl ⟨z2q c,rfl,z3r c,rfl⟩)⟩
  | 1,_=>exact ⟨_,_,rfl,rfl,Or.inr (.inr (.inr ⟨(u0:Int),rfl,(show (3:Nat)≠2 by decide),.inl ⟨(show ((2:Nat):Int)∈z1m 3 by decide +kernel),u0,_,rfl,hu0,rfl⟩⟩))⟩
  | n+2,hi=>exact absurd hi (by show ¬n+2+1 < 3;lia)
 ·rcases d with ⟨kd,c,u0,u1,u2⟩;cases (show kd=4 from hk)
  intro i hi
  match i,hi with
  | 0,_=>exact ⟨_,_,rfl,rfl,Or.inr (.inl ⟨z2q c,rfl,z3r c,rfl⟩)⟩
  | 1,_=>exact ⟨_,_,rfl,rfl,Or.inr (.inr (.inr ⟨(u0:Int),rfl,(show (4:Nat)≠2 by decide),.inl ⟨(show ((2:Nat):Int)∈z1m 4 by decide +kernel),u0,_,rfl,hu0,rfl⟩⟩))⟩
  | 2,_=>exact ⟨_,_,rfl,rfl,Or.inr (.inr (.inr ⟨(u1:Int),rfl,(show (4:Nat)≠2 by decide),.inl ⟨(show ((3:Nat):Int)∈z1m 4 by decide +kernel),u1,_,rfl,hu1,rfl⟩⟩))⟩
  | n+3,hi=>exact absurd hi (by show ¬n+3+1 < 4;lia)
 ·rcases d with ⟨kd,c,u0,u1,u2⟩;cases (show kd=5 from hk)
  intro i hi
  match i,hi with
  | 0,_=>exact ⟨_,_,rfl,rfl,Or.inr (.inr (.inr ⟨(u0:Int),rfl,(show (5:Nat)≠2 by decide),.inl ⟨(show ((1:Nat):Int)∈z1m 5 by decide +kernel),u0,_,rfl,hu0,rfl⟩⟩))⟩
  | 1,_=>exact ⟨_,_,rfl,rfl,Or.inr (.inr (.inr ⟨(u1:Int),rfl,(show (5:Nat)≠2 by decide),.inl ⟨(show ((2:Nat):Int)∈z1m 5 by decide +kernel),u1,_,rfl,hu1,rfl⟩⟩))⟩
  | 2,_=>exact ⟨_,_,rfl,rfl,Or.inr (.inr (.inr ⟨(u2:Int),rfl,(show (5:Nat)≠2 by decide),.inl ⟨(show ((3:Nat):Int)∈z1m 5 by decide +kernel),u2,_,rfl,hu2,rfl⟩⟩))⟩
  | n+3,hi=>exact absurd hi (by show ¬n+3+1 < 4;lia)
 ·rcases d with ⟨kd,c,u0,u1,u2⟩;cases (show kd=6 from hk)
  intro i hi
  match i,hi with
  | 0,_=>exact ⟨_,_,rfl,rfl,Or.inr (.inr (.inr ⟨(u0:Int),rfl,(show (6:Nat)≠2 by decide),.inl ⟨(show ((1:Nat):Int)∈z1m 6 by decide +kernel),u0,_,rfl,hu0,rfl⟩⟩))⟩
  | 1,_=>exact ⟨_,_,rfl,rfl,Or.inl ⟨ra,z5y c,rfl,hr,smr,rfl⟩⟩
  | n+2,hi=>exact absurd hi (by show ¬n+2+1 < 3;lia)
 ·rcases d with ⟨kd,c,u0,u1,u2⟩;cases (show kd=7 from hk)
  intro i hi
  match i,hi with
  | 0,_=>exact ⟨_,_,rfl,rfl,Or.inr (.inr (.inr ⟨(u0:Int),rfl,(show (7:Nat)≠2 by decide),.inl ⟨(show ((1:Nat):Int)∈z1m 7 by decide +kernel),u0,_,rfl,hu0,rfl⟩⟩))⟩
  | 1,_=>exact ⟨_,_,rfl,rfl,Or.inr (.inr (.inr ⟨smF c 0,rfl,(show (7:Nat)≠2 by decide),.inr ⟨(show ((2:Nat):Int) ∉ z1m 7 by decide +kernel),z3q c 0,rfl⟩⟩))⟩
  | n+2,hi=>exact absurd hi (by show ¬n+2+1 < 3;lia)
 ·rcases d with ⟨kd,c,u0,u1,u2⟩;cases (show kd=8 from hk)
  intro i hi
  match i,hi with
  | 0,_=>exact ⟨_,_,rfl,rfl,Or.inr (.inr (.inr ⟨(u0:Int),rfl,(show (8:Nat)≠2 by decide),.inl ⟨(show ((1:Nat):Int)∈z1m 8 by decide +kernel),u0,_,rfl,hu0,rfl⟩⟩))⟩
  | 1,_=>exact ⟨_,_,rfl,rfl,Or.inr (.inr (.inr ⟨smF c 0,rfl,(show (8:Nat)≠2 by decide),.inr ⟨(show ((2:Nat):Int) ∉ z1m 8 by decide +kernel),z3q c 0,rfl⟩⟩))⟩
  | 2,_=>exact ⟨_,_,rfl,rfl,Or.inr (.inr (.inr ⟨smF c 1,rfl,(show (8:Nat)≠2 by decide),.inr ⟨(show ((3:Nat):Int) ∉ z1m 8 by decide +kernel),z3q c 1,rfl⟩⟩))⟩
  | 3,_=>exact ⟨_,_,rfl,rfl,Or.inr (.inr (.inr ⟨smF c 2,rfl,(show (8:Nat)≠2 by decide),.inr ⟨(show ((4:Nat):Int) ∉ z1m 8 by decide +kernel),z3q c 2,rfl⟩⟩))⟩
  | 4,_=>exact ⟨_,_,rfl,rfl,Or.inr (.inr (.inr ⟨smF c 3,rfl,(show (8:Nat)≠2 by decide),.inr ⟨(show ((5:Nat):Int) ∉ z1m 8 by decide +kernel),z3q c 3,rfl⟩⟩))⟩
  | n+5,hi=>exact absurd hi (by show ¬n+5+1 < 6;lia)
 ·rcases d with ⟨kd,c,u0,u1,u2⟩;cases (show kd=9 from hk)
  intro i hi
  match i,hi with
  | 0,_=>exact ⟨_,_,rfl,rfl,Or.inr (.inr (.inr ⟨(u0:Int),rfl,(show (9:Nat)≠2 by decide),.inl ⟨(show ((1:Nat):Int)∈z1m 9 by decide +kernel),u0,_,rfl,hu0,rfl⟩⟩))⟩
  | 1,_=>exact ⟨_,_,rfl,rfl,Or.inr (.inr (.inr ⟨smF c 0,rfl,(show (9:Nat)≠2 by decide),.inr ⟨(show ((2:Nat):Int) ∉ z1m 9 by decide +kernel),z3q c 0,rfl⟩⟩))⟩
  | 2,_=>exact ⟨_,_,rfl,rfl,Or.inr (.inr (.inr ⟨smF c 1,rfl,(show (9:Nat)≠2 by decide),.inr ⟨(show ((3:Nat):Int) ∉ z1m 9 by decide +kernel),z3q c 1,rfl⟩⟩))⟩
  | n+3,hi=>exact absurd hi (by show ¬n+3+1 < 4;lia)
 ·rcases d with ⟨kd,c,u0,u1,u2⟩;cases (show kd=10 from hk)
  intro i hi
  match i,hi with
  | 0,_=>exact ⟨_,_,rfl,rfl,Or.inr (.inr (.inr ⟨(u0:Int),rfl,(show (10:Nat)≠2 by decide),.inl ⟨(show ((1:Nat):Int)∈z1m 10 by decide +kernel),u0,_,rfl,hu0,rfl⟩⟩))⟩
  | 1,_=>exact ⟨_,_,rfl,rfl,Or.inl ⟨ra,z5y c,rfl,hr,smr,rfl⟩⟩
  | n+2,hi=>exact absurd hi (by show ¬n+2+1 < 3;lia)
 ·rcases d with ⟨kd,c,u0,u1,u2⟩;cases (show kd=11 from hk)
  intro i hi
  match i,hi with
  | 0,_=>exact ⟨_,_,rfl,rfl,Or.inr (.inr (.inr ⟨(u0:Int),rfl,(show (11:Nat)≠2 by decide),.inl ⟨(show ((1:Nat):Int)∈z1m 11 by decide +kernel),u0,_,rfl,hu0,rfl⟩⟩))⟩
  | 1,_=>exact ⟨_,_,rfl,rfl,Or.inr (.inr (.inr ⟨(u1:Int),rfl,(show (11:Nat)≠2 by decide),.inl ⟨(show ((2:Nat):Int)∈z1m 11 by decide +kernel),u1,_,rfl,hu1,rfl⟩⟩))⟩
  | 2,_=>exact ⟨_,_,rfl,rfl,Or.inr (.inr (.inr ⟨smF c 0,rfl,(show (11:Nat)≠2 by decide),.inr ⟨(show ((3:Nat):Int) ∉ z1m 11 by decide +kernel),z3q c 0,rfl⟩⟩))⟩
  | n+3,hi=>exact absurd hi (by show ¬n+3+1 < 4;lia)
 ·rcases d with ⟨kd,c,u0,u1,u2⟩;cases (show kd=12 from hk)
  intro i hi
  match i,hi with
  | 0,_=>exact ⟨_,_,rfl,rfl,Or.inr (.inr (.inr ⟨(u0:Int),rfl,(show (12:Nat)≠2 by decide),.inl ⟨(show ((1:Nat):Int)∈z1m 12 by decide +kernel),u0,_,rfl,hu0,rfl⟩⟩))⟩
  | 1,_=>exact ⟨_,_,rfl,rfl,Or.inr (.inr (.inr ⟨(u1:Int),rfl,(show (12:Nat)≠2 by decide),.inl ⟨(show ((2:Nat):Int)∈z1m 12 by decide +kernel),u1,_,rfl,hu1,rfl⟩⟩))⟩
  | n+2,hi=>exact absurd hi (by show ¬n+2+1 < 3;lia)
 ·rcases d with ⟨kd,c,u0,u1,u2⟩;cases (show kd=13 from hk)
  intro i hi
  match i,hi with
  | 0,_=>exact ⟨_,_,rfl,rfl,Or.inr (.inl ⟨z2q c,rfl,z3r c,rfl⟩)⟩
  | 1,_=>exact ⟨_,_,rfl,rfl,Or.inr (.inr (.inr ⟨(u0:Int),rfl,(show (13:Nat)≠2 by decide),.inl ⟨(show ((2:Nat):Int)∈z1m 13 by decide +kernel),u0,_,rfl,hu0,rfl⟩⟩))⟩
  | 2,_=>exact ⟨_,_,rfl,rfl,Or.inr (.inr (.inr ⟨smF c 0,rfl,(show (13:Nat)≠2 by decide),.inr ⟨(show ((3:Nat):Int) ∉ z1m 13 by decide +kernel),z3q c 0,rfl⟩⟩))⟩
  | n+3,hi=>exact absurd hi (by show ¬n+3+1 < 4;lia)
 ·rcases d with ⟨kd,c,u0,u1,u2⟩;cases (show kd=14 from hk)
  intro i hi
  match i,hi with
  | 0,_=>exact ⟨_,_,rfl,rfl,Or.inr (.inl ⟨z2q c,rfl,z3r c,rfl⟩)⟩
  | 1,_=>exact ⟨_,_,rfl,rfl,Or.inr (.inr (.inr ⟨(u0:Int),rfl,(show (14:Nat)≠2 by decide),.inl ⟨(show ((2:Nat):Int)∈z1m 14 by decide +kernel),u0,_,rfl,hu0,rfl⟩⟩))⟩
  | 2,_=>exact ⟨_,_,rfl,rfl,Or.inr (.inr (.inr ⟨smF c 0,rfl,(show (14:Nat)≠2 by decide),.inr ⟨(show ((3:Nat):Int) ∉ z1m 14 by decide +kernel),z3q c 0,rfl⟩⟩))⟩
  | n+3,hi=>exact absurd hi (by show ¬n+3+1 < 4;lia)
theorem PwOk.len {H:Hp}{nm:List Str}{kind:Str}{part:V}{ws:List Str}(h:PwOk H nm kind part ws) (n:x3n nm):ws.length≤8/\∀w∈ws,w.length≤100:=by
 rcases h with ⟨_,u,x,_,e,rfl⟩ | ⟨_,a,row,_,_,r,rfl⟩ | ⟨_,_,⟨m,_,b,rfl⟩ | ⟨t,_,b,rfl⟩⟩
 ·refine ⟨by simp,λ w hw=>?_⟩
  cases List.mem_singleton.mp hw
  have:=n.2 x (List.mem_of_getElem? e);lia
 ·refine ⟨by rw [List.length_map];exact r.1,λ w hw=>?_⟩
  obtain ⟨m,hm,rfl⟩:=List.mem_map.mp hw
  have:=r.2 m hm
  exact w0g (by lia)
 ·exact ⟨by simp,λ w hw=>by cases List.mem_singleton.mp hw;exact w0g b⟩
 ·exact ⟨by simp,λ w hw=>by cases List.mem_singleton.mp hw;exact b⟩
theorem z4k {d:Sd}{nm:List Str}(h:d.kd < 15):(z2z d nm).length=((formsL.getD d.kd ("",[])).2).length:=by
 rcases d with ⟨kd,c,u0,u1,u2⟩
 exact z6x (P:=λ kd=>(z2z ⟨kd,c,u0,u1,u2⟩ nm).length=((formsL.getD kd ("",[])).2).length) h rfl rfl rfl rfl rfl rfl rfl rfl rfl rfl rfl rfl rfl rfl rfl
theorem v0x {d:Sd}{nm:List Str}{ra:Addr}(h:d.kd < 15):(x0d d nm).length+1=(stV d ra).length:=by
 rcases d with ⟨kd,c,u0,u1,u2⟩
 exact z6x (P:=λ kd=>(x0d ⟨kd,c,u0,u1,u2⟩ nm).length+1=(stV ⟨kd,c,u0,u1,u2⟩ ra).length) h rfl rfl rfl rfl rfl rfl rfl rfl rfl rfl rfl rfl rfl rfl rfl
def x7h (d:Sd):List Str:=if d.kd=2 then [sI (smF d.c 0)] else []
theorem w0s {d:Sd}{nm:List Str}(h:d.kd < 15) (n:d.kd≠2):x0d d nm=z2z d nm:=by
 rcases d with ⟨kd,c,u0,u1,u2⟩
 exact z6x (P:=λ kd=>kd≠2->x0d ⟨kd,c,u0,u1,u2⟩ nm=z2z ⟨kd,c,u0,u1,u2⟩ nm) h (λ _=>rfl) (λ _=>rfl) (λ z=>absurd rfl z) (λ _=>rfl) (λ _=>rfl) (λ _=>rfl) (λ _=>rfl) (λ _=>rfl) (λ _=>rfl) (λ _=>rfl) (λ _=>rfl) (λ _=>rfl) (λ _=>rfl) (λ _=>rfl) (λ _=>rfl) n
theorem x3z {d:Sd}{nm:List Str}(h:d.kd < 15):x7h d++(x0d d nm).flatten=z2p d nm:=by
 by_cases c:d.kd=2
 ·rcases d with ⟨kd,c0,u0,u1,u2⟩
  cases (show kd=2 from c)
  unfold x7h z2p x0d z2z
  generalize sI (smF c0 0)=z
  generalize (z5y c0).map sI=r
  simp
 ·unfold x7h z2p
  rw [if_neg c,w0s h c,List.nil_append]
theorem x4t {ls:List (List Str)}{i:Nat}{ws:List Str}(h:ls[i]?=some ws):(ls.take (i+1)).flatten=(ls.take i).flatten++ws:=by
 rw [List.take_add_one,h,List.flatten_append];simp
theorem v2t:∀(ls:List (List Str)),(∀l∈ls,l.length≤8)->ls.flatten.length≤8 * ls.length:=by
 intro ls
 induction ls with
 | nil=>intro _;simp
 | cons l ls ih=>intro h;have:=ih λ x hx=>h x (List.mem_cons_of_mem _ hx);have:=h l (List.mem_cons_self ..);simp only [List.flatten_cons,List.length_append,List.length_cons];lia
theorem x9g {H:Hp}{nm:List Str}{d:Sd}{ra:Addr}(ok:y4e nm.length d) (n:x3n nm) (hr:H ra=some (.tup ((z5y d.c).map V.int))) (i:Nat):((z2z d nm).take i).flatten.length≤40:=by
 have c8:=v2t ((z2z d nm).take i) λ ws h1=>by
  obtain ⟨j,hj⟩:=List.getElem?_of_mem (List.mem_of_mem_take h1)
  have jl:j < ((formsL.getD d.kd ("",[])).2).length:=by rw [← z4k ok.1 (nm:=nm)];exact (List.getElem?_eq_some_iff.mp hj).1
  obtain ⟨x,ws',_,e2,pw⟩:=y5d (H:=H) ok hr j _ (List.getElem?_eq_getElem jl)
  rw [hj] at e2;cases e2
  exact (pw.len n).1
 have f5:=z6a (i:=d.kd)
 have l:=List.length_take_le i (z2z d nm)
 have l2:((z2z d nm).take i).length≤(z2z d nm).length:=by rw [List.length_take];lia
 rw [z4k ok.1] at l2
 lia
theorem x3x {H:Hp}{nm:List Str}{d:Sd}{ra:Addr}(ok:y4e nm.length d) (n:x3n nm) (hr:H ra=some (.tup ((z5y d.c).map V.int))) (i:Nat):((x0d d nm).take i).flatten.length≤40:=by
 by_cases c:d.kd=2
 ·have e:∀k,((x0d d nm).take k).flatten.length≤8 * 2:=λ k=>by
   have z:x0d d nm=[(z5y d.c).map sI,[]]:=by rcases d with ⟨kd,c0,u0,u1,u2⟩;cases (show kd=2 from c);rfl
   rw [z]
   refine Nat.le_trans (v2t _ λ l hl=>?_) (Nat.mul_le_mul_left _ (List.length_take_le' ..))
   rcases List.mem_cons.mp (List.mem_of_mem_take hl) with rfl | hl
   ·rw [List.length_map];exact (y6h d.c).1
   ·cases List.mem_singleton.mp hl;exact Nat.zero_le _
  exact Nat.le_trans (e i) (by decide)
 ·rw [w0s ok.1 c];exact x9g ok n hr i
theorem y1y {H:Hp}{nm:List Str}{d:Sd}{ra:Addr}{a b e:Str}(ok:y4e nm.length d) (n:x3n nm) (hr:H ra=some (.tup ((z5y d.c).map V.int))) (ha:a.length≤100) (hb:b.length≤100) (he:e.length≤100):y0c " " ([a,b,e]++z2p d nm)≤5000:=by
 have one:(" " : Str).length=1:=by decide +kernel
 have all:∀w∈z2p d nm,w.length≤100:=λ w hw=>by
  obtain ⟨ws,h1,h2⟩:=List.mem_flatten.mp hw
  obtain ⟨j,hj⟩:=List.getElem?_of_mem h1
  have jl:j < ((formsL.getD d.kd ("",[])).2).length:=by rw [← z4k ok.1 (nm:=nm)];exact (List.getElem?_eq_some_iff.mp hj).1
  obtain ⟨x,ws',_,e2,pw⟩:=y5d (H:=H) ok hr j _ (List.getElem?_eq_getElem jl)
  rw [hj] at e2;cases e2
  exact (pw.len n).2 w h2
 have cnt:∀ls:List (List Str),(∀l∈ls,l.length≤8)->ls.flatten.length≤8 * ls.length:=by
  intro ls
  induction ls with
  | nil=>intro _;simp
  | cons l ls ih=>intro h;have:=ih λ x hx=>h x (List.mem_cons_of_mem _ hx);have:=h l (List.mem_cons_self ..);simp only [List.flatten_cons,List.length_append,List.length_cons];lia
 have c8:(z2p d nm).length≤8 * (z2z d nm).length:=cnt _ λ ws h1=>by
  obtain ⟨j,hj⟩:=List.getElem?_of_mem h1
  have jl:j < ((formsL.getD d.kd ("",[])).2).length:=by rw [← z4k ok.1 (nm:=nm)];exact (List.getElem?_eq_some_iff.mp hj).1
  obtain ⟨x,ws',_,e2,pw⟩:=y5d (H:=H) ok hr j _ (List.getElem?_eq_getElem jl)
  rw [hj] at e2;cases e2
  exact (pw.len n).1
 rw [z4k ok.1] at c8
 have f5:=z6a (i:=d.kd)
 have t:=z9n (z := " ") all
 rw [one] at t
 have t2:(100+1) * (z2p d nm).length≤101 * 40:=Nat.mul_le_mul_left _ (by lia)
 rw [x0m,z3c,z3c,z3c,one]
 have:y0c " " []=0:=rfl
 lia
theorem y7r {i:Nat}(h:i < 15) (e:z0h i=Str.ofString "count"):i=2:=by
 have z:∀j:Fin 15,z0h j.val=Str.ofString "count" -> j.val=2:=by decide +kernel
 exact z ⟨i,h⟩ e
theorem y1o (n:Int):∀(ns:List Int),inV (V.int n) (ns.map V.int)=decide (n∈ns)
 | []=>by simp [inV]
 | m::ns=>by
  have ih:=y1o n ns
  show (m == n || inV (V.int n) (ns.map V.int))=decide (n∈m::ns)
  rw [ih]
  by_cases e:n=m
  ·subst e;simp
  ·have e':(m == n)=false:=by simpa using λ z=>e z.symm
   rw [e'];simp [e]
def z5z (k:Nat):Str:=if k < 26 then ⟨#[97+k]⟩ else (⟨#[97+(k / 26 - 1)]⟩:Str)++⟨#[97+k % 26]⟩
theorem x9y {k:Nat}(h:k < 26):("abcdefghijklmnopqrstuvwxyz" : Str).cps[k]?=some (97+k):=w1c ⟨k,h⟩
theorem w9d {k:Int}(h0:0≤k) (h:k < 26):("abcdefghijklmnopqrstuvwxyz" : Str).cps[k.toNat]?=some (97+k.toNat):=x9y (by lia)
theorem x0k (x y:Nat):((⟨#[x]⟩:Str)++⟨#[y]⟩).length=2:=by rw [strLen_append];rfl
def ProgAt (H:Hp) (p:Addr) (ds:List Sd) (os:List Nat):Prop:=∃st ou as,H p=some (.tup [.ref st,.ref ou])/\H st=some (.tup (as.map V.ref))/\SdsAt H ds as/\H ou=some (.tup (os.map λ (o:Nat)=>V.int (o:Int)))/\1≤ds.length/\ds.length≤44/\(∀d∈ds,y4e ds.length d)/\1≤os.length/\os.length≤8/\∀o∈os,o < ds.length
theorem ProgAt.same {H H':Hp}{p:Addr}{ds:List Sd}{os:List Nat}(h:ProgAt H p ds os) (s:Same H H'):ProgAt H' p ds os:=by
 obtain ⟨st,ou,as,h1,h2,h3,h4,h5⟩:=h
 exact ⟨st,ou,as,s _ _ h1,s _ _ h2,h3.same s,s _ _ h4,h5⟩
def y0v (ds:List Sd) (nm:List Str) (n:Nat):List Str:=(List.range n).map λ i=>w9k (ds.getD i ⟨0,0,0,0,0⟩) (nm.getD i "") nm
def z4t (os:List Nat) (nm:List Str):List Str:=os.map λ o=>nm.getD o ""
def v0q (os:List Nat) (nm:List Str):Str:=Builtin.Str.glued " " ("out" :: z4t os nm)
def z2j (ds:List Sd) (os:List Nat) (nm:List Str):List Str:=y0v ds nm ds.length++[v0q os nm]
theorem x1p (ds:List Sd) (nm:List Str) (n:Nat):y0v ds nm (n+1)=y0v ds nm n++[w9k (ds.getD n ⟨0,0,0,0,0⟩) (nm.getD n "") nm]:=by
 unfold y0v;rw [List.range_succ,List.map_append];rfl
theorem y6g (ds:List Sd) (nm:List Str) (n:Nat):(y0v ds nm n).length=n:=by simp [y0v]
theorem x4n (x:Str) (r:List Str):(Str.ofString "out ")++Builtin.Str.glued " " (x::r)=Builtin.Str.glued " " ("out" :: x::r):=by
 have all:∀(r:List Str) (a b:Array Nat),b++r.foldl (λ acc p=>acc++(" " : Str).cps++p.cps) a=r.foldl (λ acc p=>acc++(" " : Str).cps++p.cps) (b++a):=by
  intro r
  induction r with
  | nil=>intro a b;rfl
  | cons p r ih=>intro a b;rw [List.foldl_cons,List.foldl_cons,ih];simp only [Array.append_assoc]
 show (⟨(Str.ofString "out ").cps++r.foldl (λ acc p=>acc++(" " : Str).cps++p.cps) x.cps⟩:Str)=⟨(x::r).foldl (λ acc p=>acc++(" " : Str).cps++p.cps) ("out" : Str).cps⟩
 rw [all,List.foldl_cons]
 have e:(Str.ofString "out ").cps=("out" : Str).cps++(" " : Str).cps:=by decide +kernel
 rw [e]
theorem y3m {i:Nat}(h:i < 15):(z0h i).length≤100:=by
 have z:∀j:Fin 15,(z0h j.val).length≤100:=by decide +kernel
 exact z ⟨i,h⟩
theorem w1w {H:Hp}{nm:List Str}{d:Sd}{a:Addr}{name:Str}(ok:y4e nm.length d) (n:x3n nm) (h:SdAt H d a) (hn:name.length≤20):(w9k d name nm).length≤5000:=by
 obtain ⟨ra,_,hr⟩:=h
 exact Nat.le_trans (z4f _ _) (y1y ok n hr (by lia) (by decide +kernel) (y3m ok.1))
theorem w2t {nm:List Str}{os:List Nat}(n:x3n nm) (o8:os.length≤8) (ob:∀o∈os,o < nm.length):y0c " " ("out" :: z4t os nm)≤300:=by
 have one:(" " : Str).length=1:=by decide +kernel
 have o3:("out" : Str).length=3:=by decide +kernel
 have t:=z9n (z := " ") (ys:=z4t os nm) (k:=20) λ x hx=>by
  obtain ⟨o,ho,rfl⟩:=List.mem_map.mp hx
  exact n.2 _ (List.mem_of_getElem? (y9w (ob o ho)))
 have on:(z4t os nm).length=os.length:=by simp [z4t]
 rw [one,on] at t
 rw [z3c,one,o3]
 lia
def k19:List Str:=["out","in","num","count","each","pair","pick","turn","flip","cut","spread","lay","join","fetch","fold","run","add","neg","xor"]
abbrev ABC:Str := "abcdefghijklmnopqrstuvwxyz"
theorem y7y:∀(n:Nat) (r:List Nat),n≤r.length->(List.range n).filterMap (λ k=>r[k]?)=r.take n
 | 0,_,_=>rfl
 | n+1,r,h=>by
  rw [List.range_succ,List.filterMap_append,y7y n r (by lia),List.take_add_one,List.getElem?_eq_getElem (by lia)]
  simp [List.filterMap,List.getElem?_eq_getElem (show n < r.length by lia)]
theorem y4p (x:Str):(Txt.slice x (some 1) none).cps.toList=x.cps.toList.drop 1:=by
 obtain ⟨a⟩:=x
 obtain ⟨L⟩:=a
 unfold Txt.slice
 cases L with
 | nil=>rfl
 | cons c r =>
  have e:Builtin.Str.strSliceIndices (some 1) none 1 (r.length+1)=(List.range r.length).map λ k=>1+k:=by
   unfold Builtin.Str.strSliceIndices sliceRange
   simp only [show (1:Int) > 0 by decide,show ¬(1:Int) < 0 by decide,if_true,if_false,Int.ediv_one]
   have m:max 0 (min (1:Int) ((r.length+1:Nat):Int))=1:=by lia
   rw [m]
   have n:(if (1:Int) < ((r.length+1:Nat):Int) then (((r.length+1:Nat):Int) - 1+1 - 1) else 0).toNat=r.length:=by split<;>lia
   rw [n]
   exact List.map_congr_left λ k _=>by lia
  have e:Builtin.Str.strSliceIndices (some 1) none 1 (Str.length ⟨⟨c::r⟩⟩)=(List.range r.length).map λ k=>1+k:=e
  rw [e,if_neg]
  ·show (List.filterMap (λ k=>(⟨c::r⟩:Array Nat)[k]?) ((List.range r.length).map λ k=>1+k))=r
   rw [List.filterMap_map]
   have z:(λ k=>(⟨c::r⟩:Array Nat)[k]?) ∘ (λ k=>1+k)=λ k=>r[k]?:=by
    funext k
    show (⟨c::r⟩:Array Nat)[1+k]?=r[k]?
    rw [Nat.add_comm,List.getElem?_toArray,List.getElem?_cons_succ]
   rw [z,y7y _ _ (Nat.le_refl _),List.take_length]
  ·show ¬((1:Int) == 1 && ((List.range r.length).map λ k=>1+k).length == (c::r).length)=true
   rw [List.length_map,List.length_range]
   simp
theorem y2b (x:Str):z6d x (Str.ofString "-")=true ↔ x.cps.toList.head?=some 45:=by
 obtain ⟨a⟩:=x
 obtain ⟨L⟩:=a
 have e:(Str.ofString "-")=⟨⟨[45]⟩⟩:=by decide +kernel
 rw [e]
 cases L with
 | nil=>constructor<;>intro h<;>exact absurd h (by decide)
 | cons c r =>
  have z:z6d ⟨⟨c::r⟩⟩ ⟨⟨[45]⟩⟩=(c == 45):=by
   unfold z6d Builtin.Str.subAt
   show (decide (0+1≤r.length+1) && ((⟨c::r⟩:Array Nat).extract 0 (0+1) == ⟨[45]⟩))=_
   have y:(⟨c::r⟩:Array Nat).extract 0 (0+1)=⟨[c]⟩:=by
    apply Array.ext'
    simp
   rw [y,decide_eq_true (by lia),Bool.true_and]
   show ([c] == [45])=(c == 45)
   simp
  rw [z]
  simp
theorem w8s (x:Str):x=Str.ofString "-0" ↔ x.cps.toList=[45,48]:=by
 have e:(Str.ofString "-0").cps.toList=[45,48]:=by decide +kernel
 constructor
 ·rintro rfl;exact e
 ·intro h
  obtain ⟨a⟩:=x
  rw [show Str.ofString "-0"=⟨⟨[45,48]⟩⟩ by decide +kernel]
  congr 1
  exact Array.ext' h
theorem x0g (c:Nat):(⟨#[c]⟩:Str)=Str.ofString "0" ↔ c=48:=by
 rw [show Str.ofString "0"=⟨#[48]⟩ by decide +kernel]
 constructor
 ·intro h;have:=congrArg (λ s:Str=>s.cps.toList) h;simpa using this
 ·rintro rfl;rfl
def v0d (n:Int):Option Int:=if 0≤n/\n≤999 then some n else none
theorem w2u (o:Option Nat):y7g o=w7e (o.map λ n=>(n:Int)):=by cases o<;>rfl
theorem w1h {n:Int}(h:n.natAbs < 10 ^ 20):y7j (x6j n)=x6k n:=by
 unfold x6j
 by_cases c:0≤n
 ·rw [if_pos c,w3a (by lia),show ((n.toNat:Nat):Int)=n by lia]
 ·rw [if_neg c,w3c (by lia) (by lia),show -(((-n).toNat:Nat):Int)=n by lia]
theorem w1g (n:Int):(z4o (x6j n) 3).map (λ n=>(n:Int))=v0d n:=by
 unfold x6j v0d
 by_cases c:0≤n
 ·rw [if_pos c,show (3:Int)=((2+1:Nat):Int) from rfl,w3w]
  by_cases d:n.toNat < 10 ^ (2+1)
  ·rw [if_pos d,if_pos (by lia)];show some ((n.toNat:Nat):Int)=some n;rw [show ((n.toNat:Nat):Int)=n by lia]
  ·rw [if_neg d,if_neg (by lia)];rfl
 ·rw [if_neg c,w3v (c:=45) (List.mem_cons_self ..) (by decide),if_neg (by lia)];rfl
def nameOk (x:Str):Prop:=1≤x.cps.toList.length/\x.cps.toList.length≤8/\∀c∈x.cps.toList,97≤c/\c≤122
def z4n (nm:List Str):Prop:=(∀x∈nm,nameOk x)/\∀i j,i < nm.length->j < nm.length->nm.getD i ""=nm.getD j "" -> i=j
theorem z1u (x:Str):x.cps.toList.length=x.length:=Array.length_toList
theorem nameOk.len {x:Str}(h:nameOk x):x.length≤8:=by rw [← z1u];exact h.2.1
def clean (x:Str):Prop:=∀c∈x.cps.toList,c≠32/\c≠10
theorem nameOk.clean {x:Str}(h:nameOk x):clean x:=λ c hc=>by have:=h.2.2 c hc;lia
theorem y0u (n:Int):clean (sI n):=λ c hc=>by
 unfold sI at hc
 rw [y1x] at hc
 unfold x6j at hc
 split at hc
 ·have:=y4f _ c hc;lia
 ·rcases List.mem_cons.mp hc with rfl | hc
  ·lia
  ·have:=y4f _ c hc;lia
theorem y7l {L:List Nat}(h1:1≤L.length) (h2:L.length≤8) (h3:∀c∈L,97≤c/\c≤122):nameOk (z1p L):=⟨h1,h2,h3⟩
def x3q (x:Str):Bool:=decide (1≤x.cps.toList.length) && decide (x.cps.toList.length≤8) && x.cps.toList.all λ c=>decide (97≤c) && decide (c≤122)
theorem y1h {x:Str}(h:x3q x=true):nameOk x:=by
 unfold x3q at h
 simp only [Bool.and_eq_true,decide_eq_true_eq,List.all_eq_true] at h
 exact ⟨h.1.1,h.1.2,h.2⟩
theorem w7l {n:Nat}{f:Nat->Str}(h1:∀i,i < n->nameOk (f i)) (h2:∀i j,i < n->j < n->f i=f j->i=j):z4n ((List.range n).map f):=by
 have g:∀i,i < n->((List.range n).map f).getD i ""=f i:=λ i hi=>by
  rw [List.getD_eq_getElem?_getD,List.getElem?_map,List.getElem?_range hi];rfl
 refine ⟨λ x hx=>?_,λ i j hi hj e=>?_⟩
 ·obtain ⟨i,hi,rfl⟩:=List.mem_map.mp hx
  exact h1 i (List.mem_range.mp hi)
 ·rw [List.length_map,List.length_range] at hi hj
  rw [g i hi,g j hj] at e
  exact h2 i j hi hj e
def y1g (way fill spot step k:Nat):List Nat :=
 if way=1 then List.replicate (k % 8) (97+fill)++[97+(step+k / 8) % 26]
 else if way=3/\k < 19 then (k19.getD ((k+step) % 19) "").cps.toList
 else if way=2\/way=3 then List.replicate spot (97+fill)++[97+(step+k) % 26,97+k / 26]++List.replicate (6 - spot) (97+fill)
 else (z5z k).cps.toList
theorem x4g:∀j:Fin 19,x3q (k19.getD j.val "")=true/\(k19.getD j.val "").cps.toList.length≤6:=by decide +kernel
theorem w3g:∀i j:Fin 19,k19.getD i.val ""=k19.getD j.val "" -> i=j:=by decide +kernel
theorem x7i:∀j:Fin 44,x3q (z5z j.val)=true:=by decide +kernel
theorem x2j:∀i j:Fin 44,z5z i.val=z5z j.val->i=j:=by decide +kernel
theorem x5h {x y:Str}(h:x.cps.toList=y.cps.toList):x=y:=(z2f h).trans (z2f rfl).symm
theorem y4y {n a c:Nat}(h:c∈List.replicate n a):c=a:=(List.mem_replicate.mp h).2
theorem x8e {way fill spot step k:Nat}(hf:fill < 26) (hs:spot < 7) (hk:k < 44):nameOk (z1p (y1g way fill spot step k)):=by
 unfold y1g
 split
 ·refine y7l (by simp) (by simp;lia) λ c hc=>?_
  rcases List.mem_append.mp hc with hc | hc
  ·cases y4y hc;lia
  ·cases List.mem_singleton.mp hc;lia
 ·split
  ·rw [← z2f rfl]
   exact y1h (x4g ⟨(k+step) % 19,Nat.mod_lt _ (by decide)⟩).1
  ·split
   ·refine y7l (by simp;lia) (by simp;lia) λ c hc=>?_
    rcases List.mem_append.mp hc with hc | hc
    ·rcases List.mem_append.mp hc with hc | hc
     ·cases y4y hc;lia
     ·simp only [List.mem_cons,List.not_mem_nil,or_false] at hc
      lia
    ·cases y4y hc;lia
   ·rw [← z2f rfl]
    exact y1h (x7i ⟨k,hk⟩)
theorem x6q {a b:List Nat}(h:z1p a=z1p b):a=b:=congrArg (λ x:Str=>x.cps.toList) h
theorem x3p {way fill spot step i j:Nat}(hi:i < 44) (hj:j < 44) (h:y1g way fill spot step i=y1g way fill spot step j) (hs:spot < 7):i=j:=by
 have mid:∀a b c d:Nat,List.replicate spot (97+fill)++[97+a,97+b]++List.replicate (6 - spot) (97+fill)=List.replicate spot (97+fill)++[97+c,97+d]++List.replicate (6 - spot) (97+fill)->a=c/\b=d:=λ a b c d e=>by
  rw [List.append_assoc,List.append_assoc] at e
  have e:=List.append_cancel_left e
  injection e with e1 e
  injection e with e2 e
  lia
 have l8:∀a b:Nat,(List.replicate spot (97+fill)++[97+a,97+b]++List.replicate (6 - spot) (97+fill)).length=8:=λ a b=>by simp;lia
 unfold y1g at h
 by_cases w1:way=1
 ·rw [if_pos w1,if_pos w1] at h
  have l:=congrArg List.length h
  simp only [List.length_append,List.length_replicate,List.length_cons,List.length_nil] at l
  have e:i % 8=j % 8:=by lia
  rw [e] at h
  have h:=List.append_cancel_left h
  injection h with h _
  lia
 ·rw [if_neg w1,if_neg w1] at h
  by_cases w3:way=3
  ·by_cases c1:i < 19
   ·rw [if_pos ⟨w3,c1⟩] at h
    have li:=(x4g ⟨(i+step) % 19,Nat.mod_lt _ (by decide)⟩).2
    by_cases c2:j < 19
    ·rw [if_pos ⟨w3,c2⟩] at h
     have z:=w3g ⟨(i+step) % 19,Nat.mod_lt _ (by decide)⟩ ⟨(j+step) % 19,Nat.mod_lt _ (by decide)⟩ (x5h h)
     have z:(i+step) % 19=(j+step) % 19:=congrArg (λ x:Fin 19=>x.val) z
     lia
    ·rw [if_neg (λ z=>c2 z.2),if_pos (.inr w3)] at h
     have l:=congrArg List.length h
     rw [l8] at l
     have li:(k19.getD ((i+step) % 19) "").cps.toList.length≤6:=li
     lia
   ·rw [if_neg (λ z=>c1 z.2),if_pos (.inr w3)] at h
    by_cases c2:j < 19
    ·rw [if_pos ⟨w3,c2⟩] at h
     have li:(k19.getD ((j+step) % 19) "").cps.toList.length≤6:=(x4g ⟨(j+step) % 19,Nat.mod_lt _ (by decide)⟩).2
     have l:=congrArg List.length h
     rw [l8] at l
     lia
    ·rw [if_neg (λ z=>c2 z.2),if_pos (.inr w3)] at h
     have:=mid _ _ _ _ h
     lia
  ·rw [if_neg (c:=way=3/\i < 19) (λ z=>w3 z.1),if_neg (c:=way=3/\j < 19) (λ z=>w3 z.1)] at h
   by_cases w2:way=2
   ·rw [if_pos (.inl w2),if_pos (.inl w2)] at h
    have:=mid _ _ _ _ h
    lia
   ·rw [if_neg (λ z=>z.elim w2 w3),if_neg (λ z=>z.elim w2 w3)] at h
    have z:=x2j ⟨i,hi⟩ ⟨j,hj⟩ (x5h h)
    exact congrArg (λ x:Fin 44=>x.val) z
def z9v (way fill spot step n:Nat):List Str:=(List.range n).map λ k=>z1p (y1g way fill spot step k)
theorem y9o {way fill spot step n:Nat}(hf:fill < 26) (hs:spot < 7) (hn:n≤44):z4n (z9v way fill spot step n) :=
 w7l (λ i hi=>x8e hf hs (by lia)) λ i j hi hj e=>x3p (by lia) (by lia) (x6q e) hs
theorem x6c (c:Int):-9223372036854775808≤y8i c/\y8i c≤9223372036854775807:=by
 unfold y8i
 split
 ·have r:=z1d c 5 (show (0:Int) < 4 by decide)
  generalize z1q c 5 4=z at *
  rcases (show z=0\/z=1\/z=2\/z=3 by lia) with rfl | rfl | rfl | rfl<;>decide
 ·split<;>lia
theorem w4x:∀i:Fin 8,x3q (wl8.getD i.val "")=true:=by decide +kernel
theorem y7t:∀(ws:List Str),(Str.join "" ws).cps.toList=(ws.map λ w=>w.cps.toList).flatten
 | []=>rfl
 | [w]=>by simp [Str.join]
 | w::v::r=>by
  have ih:=y7t (v::r)
  show ((w++("" : Str))++Str.join "" (v::r)).cps.toList=_
  have e0:("" : Str).cps=#[]:=by decide +kernel
  rw [Str.cps_append,Str.cps_append,Array.toList_append,Array.toList_append,ih,e0]
  simp
theorem y0a (c:Int):nameOk (z2q c):=by
 unfold z2q
 split
 ·have r:=z1d c 20 (show (0:Int) < 12 by decide)
  exact y1h (w4x ⟨(z1q c 20 12).toNat,by lia⟩)
 ·have r:=z1d c 21 (show (0:Int) < 8 by decide)
  have hL:(Builtin.Str.glued (Str.ofString "") (z3e c (1+z1q c 21 8).toNat)).cps.toList=(List.range (1+z1q c 21 8).toNat).map λ (j:Nat)=>97+(z1q c (22+(0+(j:Int))) 26).toNat:=by
   rw [StrLaws.glued_eq_join]
   refine (y7t _).trans ?_
   unfold z3e
   rw [List.map_map]
   generalize List.range (1+z1q c 21 8).toNat=l
   induction l with
   | nil=>rfl
   | cons a l ih=>rw [List.map_cons,List.flatten_cons,ih];rfl
  unfold nameOk
  rw [hL,List.length_map,List.length_range]
  refine ⟨by lia,by lia,λ x hx=>?_⟩
  obtain ⟨j,_,rfl⟩:=List.mem_map.mp hx
  have:=z1d c (22+(0+(j:Int))) (show (0:Int) < 26 by decide)
  lia
def v2w (nm:List Str) (k:Nat) (ra:Addr) (row:List Int) (kind:Str) (part:V) (ws:List Str):Prop :=
 (kind="step" /\ ∃u:Nat,part=.int (u:Int)/\u < k/\ws=[nm.getD u ""])\/(kind="sides" /\ part=.ref ra/\ws=row.map sI)\/(kind="word" /\ ∃t,part=.str t/\nameOk t/\ws=[t]) \/
 (kind="number" /\ ∃n:Int,part=.int n/\-9223372036854775808≤n/\n≤9223372036854775807/\ws=[sI n])\/(kind="small" /\ ∃n:Int,part=.int n/\0≤n/\n < 1000/\ws=[sI n])
abbrev z2i (d:Sd):List (Str × Int):=(formsL.getD d.kd ("",[])).2
theorem y4z {nm:List Str}{d:Sd}{k:Nat}(ra:Addr) (hd:d.kd < 15) (hu:d.kd < 3\/(d.u0 < k/\d.u1 < k/\d.u2 < k)):∀(j:Nat) f,(z2i d)[j]?=some f->∃x ws,(stV d ra)[f.2.toNat]?=some x/\(z2z d nm)[j]?=some ws/\v2w nm k ra (z5y d.c) f.1 x ws:=by
 rcases (w9m ‹d.kd < 15›) with hk | hk | hk | hk | hk | hk | hk | hk | hk | hk | hk | hk | hk | hk | hk
 ·rcases d with ⟨kd,c,u0,u1,u2⟩;cases (show kd=0 from hk)
  intro j f e
  match j,e with
  | 0,e=>cases (Option.some.inj (show some (("sides" : Str),(1:Int))=some f from e));exact ⟨_,_,rfl,rfl,Or.inr (.inl ⟨rfl,rfl,rfl⟩)⟩
  | n+1,e=>cases e
 ·rcases d with ⟨kd,c,u0,u1,u2⟩;cases (show kd=1 from hk)
  intro j f e
  match j,e with
  | 0,e=>cases (Option.some.inj (show some (("number" : Str),(1:Int))=some f from e));exact ⟨_,_,rfl,rfl,Or.inr (.inr (.inr (.inl ⟨rfl,y8i c,rfl,(x6c c).1,(x6c c).2,rfl⟩)))⟩
  | n+1,e=>cases e
 ·rcases d with ⟨kd,c,u0,u1,u2⟩;cases (show kd=2 from hk)
  intro j f e
  match j,e with
  | 0,e=>cases (Option.some.inj (show some (("small" : Str),(2:Int))=some f from e));exact ⟨_,_,rfl,rfl,Or.inr (.inr (.inr (.inr ⟨rfl,smF c 0,rfl,(z3l c 0).1,(z3l c 0).2,rfl⟩)))⟩
  | 1,e=>cases (Option.some.inj (show some (("sides" : Str),(1:Int))=some f from e));exact ⟨_,_,rfl,rfl,Or.inr (.inl ⟨rfl,rfl,rfl⟩)⟩
  | n+2,e=>cases e
 ·rcases d with ⟨kd,c,u0,u1,u2⟩;cases (show kd=3 from hk)
  have hu:u0 < k/\u1 < k/\u2 < k:=hu.resolve_left (show ¬(3:Nat) < 3 by decide)
  intro j f e
  match j,e with
  | 0,e=>cases (Option.some.inj (show some (("word" : Str),(1:Int))=some f from e));exact ⟨_,_,rfl,rfl,Or.inr (.inr (.inl ⟨rfl,z2q c,rfl,y0a c,rfl⟩))⟩
  | 1,e=>cases (Option.some.inj (show some (("step" : Str),(2:Int))=some f from e));exact ⟨_,_,rfl,rfl,Or.inl ⟨rfl,u0,rfl,hu.1,rfl⟩⟩
  | n+2,e=>cases e
 ·rcases d with ⟨kd,c,u0,u1,u2⟩;cases (show kd=4 from hk)
  have hu:u0 < k/\u1 < k/\u2 < k:=hu.resolve_left (show ¬(4:Nat) < 3 by decide)
  intro j f e
  match j,e with
  | 0,e=>cases (Option.some.inj (show some (("word" : Str),(1:Int))=some f from e));exact ⟨_,_,rfl,rfl,Or.inr (.inr (.inl ⟨rfl,z2q c,rfl,y0a c,rfl⟩))⟩
  | 1,e=>cases (Option.some.inj (show some (("step" : Str),(2:Int))=some f from e));exact ⟨_,_,rfl,rfl,Or.inl ⟨rfl,u0,rfl,hu.1,rfl⟩⟩
  | 2,e=>cases (Option.some.inj (show some (("step" : Str),(3:Int))=some f from e));exact ⟨_,_,rfl,rfl,Or.inl ⟨rfl,u1,rfl,hu.2.1,rfl⟩⟩
  | n+3,e=>cases e
 ·rcases d with ⟨kd,c,u0,u1,u2⟩;cases (show kd=5 from hk)
  have hu:u0 < k/\u1 < k/\u2 < k:=hu.resolve_left (show ¬(5:Nat) < 3 by decide)
  intro j f e
  match j,e with
  | 0,e=>cases (Option.some.inj (show some (("step" : Str),(1:Int))=some f from e));exact ⟨_,_,rfl,rfl,Or.inl ⟨rfl,u0,rfl,hu.1,rfl⟩⟩
  | 1,e=>cases (Option.some.inj (show some (("step" : Str),(2:Int))=some f from e));exact ⟨_,_,rfl,rfl,Or.inl ⟨rfl,u1,rfl,hu.2.1,rfl⟩⟩
  | 2,e=>cases (Option.some.inj (show some (("step" : Str),(3:Int))=some f from e));exact ⟨_,_,rfl,rfl,Or.inl ⟨rfl,u2,rfl,hu.2.2,rfl⟩⟩
  | n+3,e=>cases e
 ·rcases d with ⟨kd,c,u0,u1,u2⟩;cases (show kd=6 from hk)
  have hu:u0 < k/\u1 < k/\u2 < k:=hu.resolve_left (show ¬(6:Nat) < 3 by decide)
  intro j f e
  match j,e with
  | 0,e=>cases (Option.some.inj (show some (("step" : Str),(1:Int))=some f from e));exact ⟨_,_,rfl,rfl,Or.inl ⟨rfl,u0,rfl,hu.1,rfl⟩⟩
  | 1,e=>cases (Option.some.inj (show some (("sides" : Str),(2:Int))=some f from e));exact ⟨_,_,rfl,rfl,Or.inr (.inl ⟨rfl,rfl,rfl⟩)⟩
  | n+2,e=>cases e
 ·rcases d with ⟨kd,c,u0,u1,u2⟩;cases (show kd=7 from hk)
  have hu:u0 < k/\u1 < k/\u2 < k:=hu.resolve_left (show ¬(7:Nat) < 3 by decide)
  intro j f e
  match j,e with
  | 0,e=>cases (Option.some.inj (show some (("step" : Str),(1:Int))=some f from e));exact ⟨_,_,rfl,rfl,Or.inl ⟨rfl,u0,rfl,hu.1,rfl⟩⟩
  | 1,e=>cases (Option.some.inj (show some (("small" : Str),(2:Int))=some f from e));exact ⟨_,_,rfl,rfl,Or.inr (.inr (.inr (.inr ⟨rfl,smF c 0,rfl,(z3l c 0).1,(z3l c 0).2,rfl⟩)))⟩
  | n+2,e=>cases e
 ·rcases d with ⟨kd,c,u0,u1,u2⟩;cases (show kd=8 from hk)
  have hu:u0 < k/\u1 < k/\u2 < k:=hu.resolve_left (show ¬(8:Nat) < 3 by decide)
  intro j f e
  match j,e with
  | 0,e=>cases (Option.some.inj (show some (("step" : Str),(1:Int))=some f from e));exact ⟨_,_,rfl,rfl,Or.inl ⟨rfl,u0,rfl,hu.1,rfl⟩⟩
  | 1,e=>cases (Option.some.inj (show some (("small" : Str),(2:Int))=some f from e));exact ⟨_,_,rfl,rfl,Or.inr (.inr (.inr (.inr ⟨rfl,smF c 0,rfl,(z3l c 0).1,(z3l c 0).2,rfl⟩)))⟩
  | 2,e=>cases (Option.some.inj (show some (("small" : Str),(3:Int))=some f from e));exact ⟨_,_,rfl,rfl,Or.inr (.inr (.inr (.inr ⟨rfl,smF c 1,rfl,(z3l c 1).1,(z3l c 1).2,rfl⟩)))⟩
  | 3,e=>cases (Option.some.inj (show some (("small" : Str),(4:Int))=some f from e));exact ⟨_,_,rfl,rfl,Or.inr (.inr (.inr (.inr ⟨rfl,smF c 2,rfl,(z3l c 2).1,(z3l c 2).2,rfl⟩)))⟩
  | 4,e=>cases (Option.some.inj (show some (("small" : Str),(5:Int))=some f from e));exact ⟨_,_,rfl,rfl,Or.inr (.inr (.inr (.inr ⟨rfl,smF c 3,rfl,(z3l c 3).1,(z3l c 3).2,rfl⟩)))⟩
  | n+5,e=>cases e
 ·rcases d with ⟨kd,c,u0,u1,u2⟩;cases (show kd=9 from hk)
  have hu:u0 < k/\u1 < k/\u2 < k:=hu.resolve_left (show ¬(9:Nat) < 3 by decide)
  intro j f e
  match j,e with
  | 0,e=>cases (Option.some.inj (show some (("step" : Str),(1:Int))=some f from e));exact ⟨_,_,rfl,rfl,Or.inl ⟨rfl,u0,rfl,hu.1,rfl⟩⟩
  | 1,e=>cases (Option.some.inj (show some (("small" : Str),(2:Int))=some f from e));exact ⟨_,_,rfl,rfl,Or.inr (.inr (.inr (.inr ⟨rfl,smF c 0,rfl,(z3l c 0).1,(z3l c 0).2,rfl⟩)))⟩
  | 2,e=>cases (Option.some.inj (show some (("small" : Str),(3:Int))=some f from e));exact ⟨_,_,rfl,rfl,Or.inr (.inr (.inr (.inr ⟨rfl,smF c 1,rfl,(z3l c 1).1,(z3l c 1).2,rfl⟩)))⟩
  | n+3,e=>cases e
 ·rcases d with ⟨kd,c,u0,u1,u2⟩;cases (show kd=10 from hk)
  have hu:u0 < k/\u1 < k/\u2 < k:=hu.resolve_left (show ¬(10:Nat) < 3 by decide)
  intro j f e
  match j,e with
  | 0,e=>cases (Option.some.inj (show some (("step" : Str),(1:Int))=some f from e));exact ⟨_,_,rfl,rfl,Or.inl ⟨rfl,u0,rfl,hu.1,rfl⟩⟩
  | 1,e=>cases (Option.some.inj (show some (("sides" : Str),(2:Int))=some f from e));exact ⟨_,_,rfl,rfl,Or.inr (.inl ⟨rfl,rfl,rfl⟩)⟩
  | n+2,e=>cases e
 ·rcases d with ⟨kd,c,u0,u1,u2⟩;cases (show kd=11 from hk)
  have hu:u0 < k/\u1 < k/\u2 < k:=hu.resolve_left (show ¬(11:Nat) < 3 by decide)
  intro j f e
  match j,e with
  | 0,e=>cases (Option.some.inj (show some (("step" : Str),(1:Int))=some f from e));exact ⟨_,_,rfl,rfl,Or.inl ⟨rfl,u0,rfl,hu.1,rfl⟩⟩
  | 1,e=>cases (Option.some.inj (show some (("step" : Str),(2:Int))=some f from e));exact ⟨_,_,rfl,rfl,Or.inl ⟨rfl,u1,rfl,hu.2.1,rfl⟩⟩
  | 2,e=>cases (Option.some.inj (show some (("small" : Str),(3:Int))=some f from e));exact ⟨_,_,rfl,rfl,Or.inr (.inr (.inr (.inr ⟨rfl,smF c 0,rfl,(z3l c 0).1,(z3l c 0).2,rfl⟩)))⟩
  | n+3,e=>cases e
 ·rcases d with ⟨kd,c,u0,u1,u2⟩;cases (show kd=12 from hk)
  have hu:u0 < k/\u1 < k/\u2 < k:=hu.resolve_left (show ¬(12:Nat) < 3 by decide)
  intro j f e
  match j,e with
  | 0,e=>cases (Option.some.inj (show some (("step" : Str),(1:Int))=some f from e));exact ⟨_,_,rfl,rfl,Or.inl ⟨rfl,u0,rfl,hu.1,rfl⟩⟩
  | 1,e=>cases (Option.some.inj (show some (("step" : Str),(2:Int))=some f from e));exact ⟨_,_,rfl,rfl,Or.inl ⟨rfl,u1,rfl,hu.2.1,rfl⟩⟩
  | n+2,e=>cases e
 ·rcases d with ⟨kd,c,u0,u1,u2⟩;cases (show kd=13 from hk)
  have hu:u0 < k/\u1 < k/\u2 < k:=hu.resolve_left (show ¬(13:Nat) < 3 by decide)
  intro j f e
  match j,e with
  | 0,e=>cases (Option.some.inj (show some (("word" : Str),(1:Int))=some f from e));exact ⟨_,_,rfl,rfl,Or.inr (.inr (.inl ⟨rfl,z2q c,rfl,y0a c,rfl⟩))⟩
  | 1,e=>cases (Option.some.inj (show some (("step" : Str),(2:Int))=some f from e));exact ⟨_,_,rfl,rfl,Or.inl ⟨rfl,u0,rfl,hu.1,rfl⟩⟩
  | 2,e=>cases (Option.some.inj (show some (("small" : Str),(3:Int))=some f from e));exact ⟨_,_,rfl,rfl,Or.inr (.inr (.inr (.inr ⟨rfl,smF c 0,rfl,(z3l c 0).1,(z3l c 0).2,rfl⟩)))⟩
  | n+3,e=>cases e
 ·rcases d with ⟨kd,c,u0,u1,u2⟩;cases (show kd=14 from hk)
  have hu:u0 < k/\u1 < k/\u2 < k:=hu.resolve_left (show ¬(14:Nat) < 3 by decide)
  intro j f e
  match j,e with
  | 0,e=>cases (Option.some.inj (show some (("word" : Str),(1:Int))=some f from e));exact ⟨_,_,rfl,rfl,Or.inr (.inr (.inl ⟨rfl,z2q c,rfl,y0a c,rfl⟩))⟩
  | 1,e=>cases (Option.some.inj (show some (("step" : Str),(2:Int))=some f from e));exact ⟨_,_,rfl,rfl,Or.inl ⟨rfl,u0,rfl,hu.1,rfl⟩⟩
  | 2,e=>cases (Option.some.inj (show some (("small" : Str),(3:Int))=some f from e));exact ⟨_,_,rfl,rfl,Or.inr (.inr (.inr (.inr ⟨rfl,smF c 0,rfl,(z3l c 0).1,(z3l c 0).2,rfl⟩)))⟩
  | n+3,e=>cases e
theorem w5s {d:Sd}(ra rb:Addr) (hd:d.kd < 15):∀(j:Nat) f,(z2i d)[j]?=some f->f.1 ≠ "sides" -> (stV d ra)[f.2.toNat]?=(stV d rb)[f.2.toNat]?:=by
 rcases (w9m ‹d.kd < 15›) with hk | hk | hk | hk | hk | hk | hk | hk | hk | hk | hk | hk | hk | hk | hk
 ·rcases d with ⟨kd,c,u0,u1,u2⟩;cases (show kd=0 from hk)
  intro j f e n
  match j,e with
  | 0,e=>cases (Option.some.inj (show some (("sides" : Str),(1:Int))=some f from e));exact absurd rfl n
  | n+1,e=>cases e
 ·rcases d with ⟨kd,c,u0,u1,u2⟩;cases (show kd=1 from hk)
  intro j f e n
  match j,e with
  | 0,e=>cases (Option.some.inj (show some (("number" : Str),(1:Int))=some f from e));exact rfl
  | n+1,e=>cases e
 ·rcases d with ⟨kd,c,u0,u1,u2⟩;cases (show kd=2 from hk)
  intro j f e n
  match j,e with
  | 0,e=>cases (Option.some.inj (show some (("small" : Str),(2:Int))=some f from e));exact rfl
  | 1,e=>cases (Option.some.inj (show some (("sides" : Str),(1:Int))=some f from e));exact absurd rfl n
  | n+2,e=>cases e
 ·rcases d with ⟨kd,c,u0,u1,u2⟩;cases (show kd=3 from hk)
  intro j f e n
  match j,e with
  | 0,e=>cases (Option.some.inj (show some (("word" : Str),(1:Int))=some f from e));exact rfl
  | 1,e=>cases (Option.some.inj (show some (("step" : Str),(2:Int))=some f from e));exact rfl
  | n+2,e=>cases e
 ·rcases d with ⟨kd,c,u0,u1,u2⟩;cases (show kd=4 from hk)
  intro j f e n
  match j,e with
  | 0,e=>cases (Option.some.inj (show some (("word" : Str),(1:Int))=some f from e));exact rfl
  | 1,e=>cases (Option.some.inj (show some (("step" : Str),(2:Int))=some f from e));exact rfl
  | 2,e=>cases (Option.some.inj (show some (("step" : Str),(3:Int))=some f from e));exact rfl
  | n+3,e=>cases e
 ·rcases d with ⟨kd,c,u0,u1,u2⟩;cases (show kd=5 from hk)
  intro j f e n
  match j,e with
  | 0,e=>cases (Option.some.inj (show some (("step" : Str),(1:Int))=some f from e));exact rfl
  | 1,e=>cases (Option.some.inj (show some (("step" : Str),(2:Int))=some f from e));exact rfl
  | 2,e=>cases (Option.some.inj (show some (("step" : Str),(3:Int))=some f from e));exact rfl
  | n+3,e=>cases e
 ·rcases d with ⟨kd,c,u0,u1,u2⟩;cases (show kd=6 from hk)
  intro j f e n
  match j,e with
  | 0,e=>cases (Option.some.inj (show some (("step" : Str),(1:Int))=some f from e));exact rfl
  | 1,e=>cases (Option.some.inj (show some (("sides" : Str),(2:Int))=some f from e));exact absurd rfl n
  | n+2,e=>cases e
 ·rcases d with ⟨kd,c,u0,u1,u2⟩;cases (show kd=7 from hk)
  intro j f e n
  match j,e with
  | 0,e=>cases (Option.some.inj (show some (("step" : Str),(1:Int))=some f from e));exact rfl
  | 1,e=>cases (Option.some.inj (show some (("small" : Str),(2:Int))=some f from e));exact rfl
  | n+2,e=>cases e
 ·rcases d with ⟨kd,c,u0,u1,u2⟩;cases (show kd=8 from hk)
  intro j f e n
  match j,e with
  | 0,e=>cases (Option.some.inj (show some (("step" : Str),(1:Int))=some f from e));exact rfl
  | 1,e=>cases (Option.some.inj (show some (("small" : Str),(2:Int))=some f from e));exact rfl
  | 2,e=>cases (Option.some.inj (show some (("small" : Str),(3:Int))=some f from e));exact rfl
  | 3,e=>cases (Option.some.inj (show some (("small" : Str),(4:Int))=some f from e));exact rfl
  | 4,e=>cases (Option.some.inj (show some (("small" : Str),(5:Int))=some f from e));exact rfl
  | n+5,e=>cases e
 ·rcases d with ⟨kd,c,u0,u1,u2⟩;cases (show kd=9 from hk)
  intro j f e n
  match j,e with
  | 0,e=>cases (Option.some.inj (show some (("step" : Str),(1:Int))=some f from e));exact rfl
  | 1,e=>cases (Option.some.inj (show some (("small" : Str),(2:Int))=some f from e));exact rfl
  | 2,e=>cases (Option.some.inj (show some (("small" : Str),(3:Int))=some f from e));exact rfl
  | n+3,e=>cases e
 ·rcases d with ⟨kd,c,u0,u1,u2⟩;cases (show kd=10 from hk)
  intro j f e n
  match j,e with
  | 0,e=>cases (Option.some.inj (show some (("step" : Str),(1:Int))=some f from e));exact rfl
  | 1,e=>cases (Option.some.inj (show some (("sides" : Str),(2:Int))=some f from e));exact absurd rfl n
  | n+2,e=>cases e
 ·rcases d with ⟨kd,c,u0,u1,u2⟩;cases (show kd=11 from hk)
  intro j f e n
  match j,e with
  | 0,e=>cases (Option.some.inj (show some (("step" : Str),(1:Int))=some f from e));exact rfl
  | 1,e=>cases (Option.some.inj (show some (("step" : Str),(2:Int))=some f from e));exact rfl
  | 2,e=>cases (Option.some.inj (show some (("small" : Str),(3:Int))=some f from e));exact rfl
  | n+3,e=>cases e
 ·rcases d with ⟨kd,c,u0,u1,u2⟩;cases (show kd=12 from hk)
  intro j f e n
  match j,e with
  | 0,e=>cases (Option.some.inj (show some (("step" : Str),(1:Int))=some f from e));exact rfl
  | 1,e=>cases (Option.some.inj (show some (("step" : Str),(2:Int))=some f from e));exact rfl
  | n+2,e=>cases e
 ·rcases d with ⟨kd,c,u0,u1,u2⟩;cases (show kd=13 from hk)
  intro j f e n
  match j,e with
  | 0,e=>cases (Option.some.inj (show some (("word" : Str),(1:Int))=some f from e));exact rfl
  | 1,e=>cases (Option.some.inj (show some (("step" : Str),(2:Int))=some f from e));exact rfl
  | 2,e=>cases (Option.some.inj (show some (("small" : Str),(3:Int))=some f from e));exact rfl
  | n+3,e=>cases e
 ·rcases d with ⟨kd,c,u0,u1,u2⟩;cases (show kd=14 from hk)
  intro j f e n
  match j,e with
  | 0,e=>cases (Option.some.inj (show some (("word" : Str),(1:Int))=some f from e));exact rfl
  | 1,e=>cases (Option.some.inj (show some (("step" : Str),(2:Int))=some f from e));exact rfl
  | 2,e=>cases (Option.some.inj (show some (("small" : Str),(3:Int))=some f from e));exact rfl
  | n+3,e=>cases e
theorem x4o:∀(kd:Fin 15) (i j:Fin 5),((formsL.getD kd.val ("",[])).2.getD i.val ("",0)).1="sides" -> ((formsL.getD kd.val ("",[])).2.getD j.val ("",0)).1="sides" -> i=j:=by decide +kernel
theorem x4q:∀(kd:Fin 15) (i j:Fin 5),i.val < (formsL.getD kd.val ("",[])).2.length->j.val < (formsL.getD kd.val ("",[])).2.length->((formsL.getD kd.val ("",[])).2.getD i.val ("",0)).2=((formsL.getD kd.val ("",[])).2.getD j.val ("",0)).2->i=j:=by decide +kernel
theorem z8v:∀(kd:Fin 15) (i:Fin 5),i.val < (formsL.getD kd.val ("",[])).2.length->1≤((formsL.getD kd.val ("",[])).2.getD i.val ("",0)).2/\((formsL.getD kd.val ("",[])).2.getD i.val ("",0)).2≤(formsL.getD kd.val ("",[])).2.length:=by decide +kernel
theorem x4r:∀(kd:Fin 15) (p:Fin 5),p.val < (formsL.getD kd.val ("",[])).2.length->∃i:Fin 5,i.val < (formsL.getD kd.val ("",[])).2.length/\((formsL.getD kd.val ("",[])).2.getD i.val ("",0)).2=(p.val:Int)+1:=by decide +kernel
theorem z8u {α:Type}{l:List α}{i:Nat}{x a:α}(h:l[i]?=some x):l.getD i a=x:=by rw [List.getD_eq_getElem?_getD,h];rfl
theorem w5r {d:Sd}(ra:Addr) (h:d.kd < 15):(stV d ra).length=(z2i d).length+1:=by
 rcases d with ⟨kd,c,u0,u1,u2⟩
 exact z6x (P:=λ kd=>(stV ⟨kd,c,u0,u1,u2⟩ ra).length=((formsL.getD kd ("",[])).2).length+1) h rfl rfl rfl rfl rfl rfl rfl rfl rfl rfl rfl rfl rfl rfl rfl
theorem w1q {d:Sd}(ra:Addr) (h:d.kd < 15):(stV d ra)[0]?=some (.str (z0h d.kd)):=y2a h ..
def Filled (d:Sd) (ra:Addr) (j:Nat) (xs:List V):Prop:=xs.length=(z2i d).length+1/\xs[0]?=some (.str (z0h d.kd))/\∀i f,i < j->(z2i d)[i]?=some f->xs[f.2.toNat]?=(stV d ra)[f.2.toNat]?
theorem y1p (d:Sd):(z2i d).length≤5:=z6a (i:=d.kd)
theorem Filled.put {d:Sd}{ra rb:Addr}{j:Nat}{xs:List V}{f:Str × Int}{x:V}(h:Filled d ra j xs) (hd:d.kd < 15) (e:(z2i d)[j]?=some f) (ex:(stV d rb)[f.2.toNat]?=some x) (n:rb=ra\/f.1="sides"):Filled d rb (j+1) (xs.set f.2.toNat x):=by
 have l5:=y1p d
 have jl:=(List.getElem?_eq_some_iff.mp e).1
 have fj:=z8v ⟨d.kd,hd⟩ ⟨j,by lia⟩ jl
 have gj:=z8u (a:=(("",0):Str × Int)) e
 rw [show ((formsL.getD (⟨d.kd,hd⟩:Fin 15).val ("",[])).2.getD (⟨j,by lia⟩:Fin 5).val ("",0))=f from gj] at fj
 obtain ⟨l,h0,hh⟩:=h
 refine ⟨by rw [List.length_set];exact l,by rw [List.getElem?_set_ne (by lia)];exact h0,λ i g hi eg=>?_⟩
 by_cases c:i=j
 ·subst c
  rw [e] at eg;cases eg
  rw [List.getElem?_set_self (by have:=fj.2;show f.2.toNat < xs.length;have e2:(formsL.getD (⟨d.kd,hd⟩:Fin 15).val ("",[])).2.length=(z2i d).length:=rfl;lia),ex]
 ·have il:=(List.getElem?_eq_some_iff.mp eg).1
  have gi:=z8u (a:=(("",0):Str × Int)) eg
  have fi:=z8v ⟨d.kd,hd⟩ ⟨i,by lia⟩ il
  rw [show ((formsL.getD (⟨d.kd,hd⟩:Fin 15).val ("",[])).2.getD (⟨i,by lia⟩:Fin 5).val ("",0))=g from gi] at fi
  have ne:f.2.toNat≠g.2.toNat:=λ z=>c (by
   have:=x4q ⟨d.kd,hd⟩ ⟨i,by lia⟩ ⟨j,by lia⟩ il jl (by
    rw [show ((formsL.getD (⟨d.kd,hd⟩:Fin 15).val ("",[])).2.getD (⟨i,by lia⟩:Fin 5).val ("",0))=g from gi,show ((formsL.getD (⟨d.kd,hd⟩:Fin 15).val ("",[])).2.getD (⟨j,by lia⟩:Fin 5).val ("",0))=f from gj];lia)
   exact congrArg (λ x:Fin 5=>x.val) this)
  rw [List.getElem?_set_ne ne,hh i g (by lia) eg]
  rcases n with rfl | n
  ·rfl
  ·refine w5s ra rb hd i g eg λ z=>c ?_
   have:=x4o ⟨d.kd,hd⟩ ⟨i,by lia⟩ ⟨j,by lia⟩ (by rw [show ((formsL.getD (⟨d.kd,hd⟩:Fin 15).val ("",[])).2.getD (⟨i,by lia⟩:Fin 5).val ("",0))=g from gi];exact z) (by rw [show ((formsL.getD (⟨d.kd,hd⟩:Fin 15).val ("",[])).2.getD (⟨j,by lia⟩:Fin 5).val ("",0))=f from gj];exact n)
   exact congrArg (λ x:Fin 5=>x.val) this
theorem Filled.all {d:Sd}{ra:Addr}{xs:List V}(h:Filled d ra (z2i d).length xs) (hd:d.kd < 15):xs=stV d ra:=by
 obtain ⟨l,h0,hh⟩:=h
 have l5:=y1p d
 refine List.ext_getElem? λ p=>?_
 match p with
 | 0=>rw [h0,w1q ra hd]
 | p+1 =>
  by_cases c:p < (z2i d).length
  ·obtain ⟨i,hi,ei⟩:=x4r ⟨d.kd,hd⟩ ⟨p,by lia⟩ c
   have hi:i.val < (z2i d).length:=hi
   have:=hh i.val _ hi (List.getElem?_eq_getElem hi)
   have ei:((z2i d).getD i.val ("",0)).2=(p:Int)+1:=ei
   rw [z8u (List.getElem?_eq_getElem hi)] at ei
   rw [ei,show ((p:Int)+1).toNat=p+1 by lia] at this
   exact this
  ·rw [List.getElem?_eq_none (by lia),List.getElem?_eq_none (by rw [w5r ra hd];lia)]
def y9d (ds:List Sd) (nm:List Str) (i:Nat):List Str:=[nm.getD i "","=",z0h (ds.getD i ⟨0,0,0,0,0⟩).kd]++z2p (ds.getD i ⟨0,0,0,0,0⟩) nm
def x6l (os:List Nat) (nm:List Str):List Str := "out" :: z4t os nm
def y1u (ds:List Sd) (os:List Nat) (nm:List Str):List (List Str):=(List.range ds.length).map (y9d ds nm)++[x6l os nm]
theorem z5c (ds:List Sd) (os:List Nat) (nm:List Str):z2j ds os nm=(y1u ds os nm).map (Builtin.Str.glued " "):=by
 unfold z2j y1u y0v v0q x6l
 rw [List.map_append,List.map_map]
 rfl
theorem y1r (ds:List Sd) (os:List Nat) (nm:List Str):(y1u ds os nm).length=ds.length+1:=by simp [y1u]
theorem z5a {ds:List Sd}{os:List Nat}{nm:List Str}{i:Nat}(h:i < ds.length):(y1u ds os nm)[i]?=some (y9d ds nm i):=by
 unfold y1u
 rw [List.getElem?_append_left (by simpa using h),List.getElem?_map,List.getElem?_range h];rfl
theorem y1s (ds:List Sd) (os:List Nat) (nm:List Str):(y1u ds os nm)[ds.length]?=some (x6l os nm):=by
 unfold y1u
 rw [List.getElem?_append_right (by simp)];simp
def z9i (ds:List Sd):Prop:=∀(i:Nat) (d:Sd),ds[i]?=some d->d.kd < 3\/(d.u0 < i/\d.u1 < i/\d.u2 < i)
theorem x9i:clean "=" := by unfold clean;decide +kernel
theorem x2s:clean "out" := by unfold clean;decide +kernel
theorem y9s {i:Nat}(h:i < 15):clean (z0h i):=by
 have z:∀j:Fin 15,∀c∈(z0h j.val).cps.toList,c≠32/\c≠10:=by decide +kernel
 exact z ⟨i,h⟩
theorem z1n {nm:List Str}(g:z4n nm) {u:Nat}(h:u < nm.length):nameOk (nm.getD u ""):=g.1 _ (List.mem_of_getElem? (y9w h))
theorem y4h {d:Sd}{nm:List Str}{k:Nat}(g:z4n nm) (hd:d.kd < 15) (hu:d.kd < 3\/(d.u0 < k/\d.u1 < k/\d.u2 < k)) (hk:k≤nm.length):∀w∈z2p d nm,clean w:=by
 intro w hw
 obtain ⟨ws,h1,h2⟩:=List.mem_flatten.mp hw
 obtain ⟨j,hj⟩:=List.getElem?_of_mem h1
 have jl:j < (z2i d).length:=by show j < ((formsL.getD d.kd ("",[])).2).length;rw [← z4k hd (nm:=nm)];exact (List.getElem?_eq_some_iff.mp hj).1
 obtain ⟨x,ws',_,e2,r⟩:=y4z (nm:=nm) (k:=k) 0 hd hu j _ (List.getElem?_eq_getElem jl)
 rw [hj] at e2;cases e2
 rcases r with ⟨_,u,_,hu,rfl⟩ | ⟨_,_,rfl⟩ | ⟨_,t,_,ht,rfl⟩ | ⟨_,n,_,_,_,rfl⟩ | ⟨_,n,_,_,_,rfl⟩
 ·cases List.mem_singleton.mp h2;exact (z1n g (by lia)).clean
 ·obtain ⟨n,_,rfl⟩:=List.mem_map.mp h2;exact y0u n
 ·cases List.mem_singleton.mp h2;exact ht.clean
 ·cases List.mem_singleton.mp h2;exact y0u n
 ·cases List.mem_singleton.mp h2;exact y0u n
theorem y4d {ds:List Sd}{os:List Nat}{nm:List Str}(g:z4n nm) (nl:nm.length=ds.length) (dk:∀d∈ds,y4e ds.length d) (od:z9i ds) (ob:∀o∈os,o < ds.length):∀ws∈y1u ds os nm,ws≠[]/\∀w∈ws,clean w:=by
 intro ws h
 rcases List.mem_append.mp h with h | h
 ·obtain ⟨i,hi,rfl⟩:=List.mem_map.mp h
  have hi:=List.mem_range.mp hi
  have gi:ds[i]?=some (ds.getD i ⟨0,0,0,0,0⟩):=by rw [List.getD_eq_getElem?_getD,List.getElem?_eq_getElem hi];rfl
  refine ⟨by unfold y9d;simp,λ w hw=>?_⟩
  rcases List.mem_append.mp hw with hw | hw
  ·simp only [List.mem_cons,List.not_mem_nil,or_false] at hw
   rcases hw with rfl | rfl | rfl
   ·exact (z1n g (by lia)).clean
   ·exact x9i
   ·exact y9s (dk _ (List.mem_of_getElem? gi)).1
  ·exact y4h g (dk _ (List.mem_of_getElem? gi)).1 (od i _ gi) (by lia) w hw
 ·cases List.mem_singleton.mp h
  refine ⟨by unfold x6l;simp,λ w hw=>?_⟩
  rcases List.mem_cons.mp hw with rfl | hw
  ·exact x2s
  ·obtain ⟨o,ho,rfl⟩:=List.mem_map.mp hw
   exact (z1n g (by have:=ob o ho;lia)).clean
theorem x8c:("\n" : Str)=⟨#[10]⟩:=by decide +kernel
theorem x6w:(" " : Str)=⟨#[32]⟩:=by decide +kernel
def RowsAt (H:Hp) (wss:List (List Str)) (ps:List Addr):Prop:=ps.length=wss.length/\∀(i:Nat) ws,wss[i]?=some ws->∃a,ps[i]?=some a/\H a=some (.lst (ws.map V.str))
theorem RowsAt.same {H H':Hp}{wss:List (List Str)}{ps:List Addr}(h:RowsAt H wss ps) (s:Same H H'):RowsAt H' wss ps:=⟨h.1,λ i ws e=>let ⟨a,e1,l⟩:=h.2 i ws e;⟨a,e1,s _ _ l⟩⟩
theorem RowsAt.snoc {H:Hp}{wss:List (List Str)}{ps:List Addr}{ws:List Str}{a:Addr}(h:RowsAt H wss ps) (g:H a=some (.lst (ws.map V.str))):RowsAt H (wss++[ws]) (ps++[a]):=by
 refine ⟨by simp [h.1],λ i d' e=>?_⟩
 rcases Nat.lt_trichotomy i wss.length with hi | hi | hi
 ·rw [List.getElem?_append_left hi] at e
  obtain ⟨b,e1,l⟩:=h.2 i d' e
  exact ⟨b,by rw [List.getElem?_append_left (by rw [h.1];exact hi)];exact e1,l⟩
 ·subst hi
  rw [List.getElem?_append_right (Nat.le_refl _),Nat.sub_self] at e
  cases (Option.some.inj e)
  exact ⟨a,by rw [List.getElem?_append_right (by rw [h.1];exact Nat.le_refl _),h.1,Nat.sub_self];rfl,g⟩
 ·rw [List.getElem?_eq_none (by simp;lia)] at e;cases e
theorem x0x {n:Int}(h0:0≤n) (h1:n < 1000):y7g (z4o (sI n).cps.toList 3)=V.int n:=by
 unfold sI
 rw [y1x,w2u,w1g]
 unfold v0d
 rw [if_pos ⟨h0,by lia⟩];rfl
theorem w3b {n:Int}(h0:-9223372036854775808≤n) (h1:n≤9223372036854775807):w7e (y7j (sI n).cps.toList)=V.int n:=by
 unfold sI
 rw [y1x,w1h (by lia)]
 unfold x6k
 rw [if_pos ⟨h0,h1⟩];rfl
theorem x4p:∀(kd:Fin 15) (i:Fin 5),((formsL.getD kd.val ("",[])).2.getD i.val ("",0)).1="sides" -> i.val+1=(formsL.getD kd.val ("",[])).2.length:=by decide +kernel
theorem x5a {ls:List (List Str)}{j:Nat}{ws:List Str}(h:ls[j]?=some ws):(ls.drop j).flatten=ws++(ls.drop (j+1)).flatten:=by
 have hl:=(List.getElem?_eq_some_iff.mp h).1
 rw [List.drop_eq_getElem_cons hl,List.flatten_cons,(List.getElem?_eq_some_iff.mp h).2]
theorem v1j (a b c:Str) (r:List Str):z9h (([a,b,c]++r).map V.str) (some 3) none=r.map V.str:=by
 unfold z9h
 simp only [HT.sIx]
 rw [if_neg (by decide)]
 simp
 exact List.take_of_length_le (by simp)
theorem v1k (a:Str) (r:List Str):z9h ((a::r).map V.str) (some 1) none=r.map V.str:=by
 unfold z9h
 simp only [HT.sIx]
 rw [if_neg (by decide)]
 simp
 exact List.take_of_length_le (by simp)
theorem z6q {α:Type}(a:α):∀n:Nat,(List.replicate n [a]).flatten=List.replicate n a
 | 0=>rfl
 | n+1=>by rw [List.replicate_succ,List.flatten_cons,z6q a n,List.replicate_succ];rfl
def nA (way fill step k:Nat):List Nat:=if way=1 then List.replicate (k % 8) (97+fill)++[97+(step+k / 8) % 26] else (z5z k).cps.toList
def nB (way fill spot step k:Nat):List Nat:=if way=2\/way=3 then List.replicate spot (97+fill)++[97+(step+k) % 26,97+k / 26]++List.replicate (6 - spot) (97+fill) else nA way fill step k
theorem z7o (a b:List Nat):z1p a++z1p b=z1p (a++b):=by unfold z1p;show (⟨a.toArray++b.toArray⟩:Str)=_;rw [List.append_toArray]
theorem z7m (a:List Nat):(z1p a).length=a.length:=by show a.toArray.size=_;simp
theorem y1m (n:Nat) (a:Nat):(z1p (List.replicate n [a]).flatten).length=n:=by rw [z7m,z6q,List.length_replicate]
theorem nameOk.nm {nm:List Str}(g:z4n nm) (l:nm.length≤44):x3n nm:=⟨l,λ x hx=>by have:=(g.1 x hx).len;lia⟩
theorem y8r {H:Hp}{ds:List Sd}{os:List Nat}{nm:List Str}{as:List Addr}(sd:SdsAt H ds as) (dk:∀d∈ds,y4e ds.length d) (nl:nm.length=ds.length) (n:x3n nm) (o8:os.length≤8) (ob:∀o∈os,o < ds.length):∀x∈z2j ds os nm,x.length≤5000:=λ x hx=>by
 rcases List.mem_append.mp hx with hx | hx
 ·obtain ⟨i,hi,rfl⟩:=List.mem_map.mp hx
  have hi:=List.mem_range.mp hi
  have gi:ds[i]?=some (ds.getD i ⟨0,0,0,0,0⟩):=by rw [List.getD_eq_getElem?_getD,List.getElem?_eq_getElem hi];rfl
  obtain ⟨b,_,db⟩:=sd.2 i _ gi
  exact w1w (by rw [nl];exact dk _ (List.mem_of_getElem? gi)) n db (n.2 _ (List.mem_of_getElem? (y9w (by lia))))
 ·cases List.mem_singleton.mp hx
  exact Nat.le_trans (z4f _ _) (Nat.le_trans (w2t n o8 λ o ho=>by rw [nl];exact ob o ho) (by decide))
theorem w8z (xs:List V):z9h xs none (some (-1))=xs.take (xs.length - 1):=by
 unfold z9h
 simp only [HT.sIx]
 rcases Nat.eq_zero_or_pos xs.length with h | h
 ·have:xs=[]:=List.eq_nil_of_length_eq_zero h
  subst this;rfl
 ·rw [List.drop_zero]
  congr 1
  split<;>lia
theorem v1m {xs:List V}{n:Nat}{v:V}(l:xs.length=n+1) (h:xs[n]?=some v):atI xs (-1)=some v:=by
 unfold atI
 rw [show ixN xs.length (-1)=some n from by rw [l];unfold ixN;simp;lia]
 exact h
theorem SdAt.upd {H:Hp}{d:Sd}{a l:Addr}{o:HO}(h:SdAt H d a) (n:∀xs,H l≠some (.tup xs)):SdAt (upd H l o) d a:=by
 obtain ⟨ra,h1,h2⟩:=h
 exact ⟨ra,by rw [z0o (λ z=>n _ (z ▸ h1))];exact h1,by rw [z0o (λ z=>n _ (z ▸ h2))];exact h2⟩
theorem SdsAt.upd {H:Hp}{ds:List Sd}{as:List Addr}{l:Addr}{o:HO}(h:SdsAt H ds as) (n:∀xs,H l≠some (.tup xs)):SdsAt (L2.upd H l o) ds as:=⟨h.1,λ i d e=>let ⟨a,e1,g⟩:=h.2 i d e;⟨a,e1,g.upd n⟩⟩
def x8j (x:Str):Prop:=x.cps.size≤4000000/\∀c∈x.cps.toList,c < 128
theorem x3v {x:Str}(h:x8j x):x8j (Txt.slice x (some 1) none):=by
 refine ⟨Nat.le_trans (Txt.slice_le x (some 1) none) h.1,λ c hc=>?_⟩
 rw [y4p] at hc
 exact h.2 c (List.mem_of_mem_drop hc)
theorem w4i {n:Nat}(h:n≤4000000):n < sizeLine:=Nat.lt_of_le_of_lt h (by rw [sizeLine_eq];decide)
def x6h (c:Nat):Bool:=decide (97≤c) && decide (c≤122)
def x3t (L:List Nat) (m:Int):Bool:=decide (1≤(L.length:Int)) && (decide ((L.length:Int)≤m) && L.all x6h)
theorem w9c:∀c:Fin 128,(!(Builtin.Str.occurrences "abcdefghijklmnopqrstuvwxyz" ⟨#[c.val]⟩ 0 ("abcdefghijklmnopqrstuvwxyz" : Str).length 1).isEmpty)=x6h c.val:=by decide +kernel
def nmB (x:Str):Bool:=x3t x.cps.toList 8
def z3t (ws:List Str):Option (List Int):=if ws.length≤8/\(ws.all λ w=>(z4o w.cps.toList 3).isSome)=true then some (ws.map λ w=>(((z4o w.cps.toList 3).getD 0:Nat):Int)) else none
def z5k (kvs:List (Key × V)) (kind w:Str):V:=if kind=Str.ofString "step" then (z2o kvs (Sum.inr w:Key)).getD .non else if kind=Str.ofString "word" then (if nmB w=true then .str w else .non) else if kind=Str.ofString "number" then w7e (y7j w.cps.toList) else y7g (z4o w.cps.toList 3)
def lowW (ws:List Str):Prop:=ws.length≤4000000/\∀w∈ws,x8j w
theorem x2t {o:Option Nat}(h:o.isSome=true):y7g o=.int ((o.getD 0:Nat):Int):=by
 cases o with
 | none=>cases h
 | some n=>rfl
theorem w4k {ws:List Str}:((ws.map λ w=>y7g (z4o w.cps.toList 3)).any λ z=>eqV z .non)=!(ws.all λ w=>(z4o w.cps.toList 3).isSome):=by
 induction ws with
 | nil=>rfl
 | cons w ws ih =>
  rw [List.map_cons,List.any_cons,ih,List.all_cons]
  cases z4o w.cps.toList 3<;>simp [y7g,eqV]
theorem w7k {ws:List Str}(h:(ws.all λ w=>(z4o w.cps.toList 3).isSome)=true):ws.map (λ w=>y7g (z4o w.cps.toList 3))=(ws.map λ w=>(((z4o w.cps.toList 3).getD 0:Nat):Int)).map V.int:=by
 rw [List.map_map]
 exact List.map_congr_left λ w hw=>x2t (List.all_eq_true.mp h w hw)
inductive PC where
 | v:V->PC
 | t:List Int->PC
def PCAt (H:Hp):PC->V->Prop
 | .v x,y=>z1r x=true/\y=x
 | .t row,y=>∃a,y=.ref a/\H a=some (.tup (row.map V.int))
def z8s:PC->Bool
 | .v .non=>true
 | _=>false
def PCs (H:Hp) (cs:List PC) (xs:List V):Prop:=xs.length=cs.length/\∀(i:Nat) c x,cs[i]?=some c->xs[i]?=some x->PCAt H c x
theorem PCAt.mono {H H':Hp}{c:PC}{x:V}(h:PCAt H c x) (u:∀a xs,H a=some (.tup xs)->H' a=some (.tup xs)):PCAt H' c x:=by
 cases c with
 | v y=>exact h
 | t row=>obtain ⟨a,e,h⟩:=h;exact ⟨a,e,u _ _ h⟩
theorem PCs.mono {H H':Hp}{cs:List PC}{xs:List V}(h:PCs H cs xs) (u:∀a xs,H a=some (.tup xs)->H' a=some (.tup xs)):PCs H' cs xs:=⟨h.1,λ i c x e1 e2=>(h.2 i c x e1 e2).mono u⟩
theorem PCs.set {H:Hp}{cs:List PC}{xs:List V}{c:PC}{x:V}(h:PCs H cs xs) (k:Nat) (e:PCAt H c x):PCs H (cs.set k c) (xs.set k x):=by
 refine ⟨by rw [List.length_set,List.length_set];exact h.1,λ i c' x' e1 e2=>?_⟩
 rw [List.getElem?_set] at e1 e2
 by_cases z:k=i
 ·subst z
  by_cases l:k < cs.length
  ·rw [if_pos rfl,if_pos l] at e1
   rw [if_pos rfl,if_pos (by rw [h.1];exact l)] at e2
   cases e1;cases e2;exact e
  ·rw [if_pos rfl,if_neg l] at e1;cases e1
 ·rw [if_neg z] at e1 e2
  exact h.2 i c' x' e1 e2
def z5w (ws:List Str):PC:=match z3t ws with
 | some r=>.t r
 | none=>.v .non
def y1c (kvs:List (Key × V)) (s:List PC × List Str) (f:Str × Int):List PC × List Str :=
 if f.1=Str.ofString "sides" then (s.1.set f.2.toNat (z5w s.2),[]) else match s.2 with
  | []=>(s.1.set f.2.toNat (.v .non),[])
  | w::ws=>(s.1.set f.2.toNat (.v (z5k kvs f.1 w)),ws)
def z4c (kvs:List (Key × V)) (kd:Nat) (ws:List Str) (j:Nat):List PC × List Str:=(((formsL.getD kd ("",[])).2).take j).foldl (y1c kvs) (List.replicate (((formsL.getD kd ("",[])).2).length+1) (.v (.str (z0h kd))),ws)
theorem z9q {kvs:List (Key × V)}{kd:Nat}{ws:List Str}{j:Nat}{f:Str × Int}(h:((formsL.getD kd ("",[])).2)[j]?=some f):z4c kvs kd ws (j+1)=y1c kvs (z4c kvs kd ws j) f:=by
 unfold z4c
 rw [List.take_add_one,h,List.foldl_append]
 rfl
theorem x7s {kvs:List (Key × V)}{s:List PC × List Str}{f:Str × Int}:(y1c kvs s f).1.length=s.1.length:=by
 unfold y1c
 split
 ·exact List.length_set
 ·split<;>exact List.length_set
theorem y3s {kvs:List (Key × V)}:∀ {fs:List (Str × Int)}{s:List PC × List Str},(fs.foldl (y1c kvs) s).1.length=s.1.length
 | [],_=>rfl
 | f::fs,s=>by rw [List.foldl_cons,y3s,x7s]
theorem y2o {kvs:List (Key × V)}{kd:Nat}{ws:List Str}{j:Nat}:(z4c kvs kd ws j).1.length=((formsL.getD kd ("",[])).2).length+1:=by
 unfold z4c
 rw [y3s,List.length_replicate]
def z9a (kvs:List (Key × V)) (kd:Nat) (ws:List Str):Option (List PC):=if (z4c kvs kd ws ((formsL.getD kd ("",[])).2).length).2=[]/\(z4c kvs kd ws ((formsL.getD kd ("",[])).2).length).1.any z8s=false then some (z4c kvs kd ws ((formsL.getD kd ("",[])).2).length).1 else none
def knI (kvs:List (Key × V)):Prop:=∀k v,z2o kvs k=some v->∃u:Nat,v=.int (u:Int)
theorem x2q {kvs:List (Key × V)}(h:knI kvs) (kind w:Str):z1r (z5k kvs kind w)=true:=by
 unfold z5k
 split
 ·cases e:z2o kvs (Sum.inr w:Key) with
  | none=>rfl
  | some v=>obtain ⟨u,rfl⟩:=h _ _ e;rfl
 ·split
  ·split<;>rfl
  ·split
   ·cases y7j w.cps.toList<;>rfl
   ·cases z4o w.cps.toList 3<;>rfl
theorem PCAt.non {H:Hp}{c:PC}{x:V}(h:PCAt H c x):eqV x .non=z8s c:=by
 cases c with
 | v y=>obtain ⟨_,rfl⟩:=h;cases x<;>simp [eqV,z8s]
 | t row=>obtain ⟨a,rfl,_⟩:=h;simp [eqV,z8s]
theorem PCs.any {H:Hp}:∀ {cs:List PC}{xs:List V},PCs H cs xs->(xs.any λ z=>eqV z .non)=cs.any z8s
 | [],[],_=>rfl
 | [],_::_,h=>by cases h.1
 | _::_,[],h=>by cases h.1
 | c::cs,x::xs,h=>by
  rw [List.any_cons,List.any_cons,(h.2 0 c x rfl rfl).non,PCs.any (cs:=cs) (xs:=xs) ⟨Nat.succ.inj h.1,λ i c' x' e1 e2=>h.2 (i+1) c' x' e1 e2⟩]
theorem PCs.flat {H:Hp}{cs:List PC}{xs:List V}(h:PCs H cs xs):∀z∈xs,z1r z=true\/∃a,z=.ref a/\∃ys,H a=some (.tup ys):=λ z hz=>by
 obtain ⟨i,hi⟩:=List.mem_iff_getElem?.mp hz
 have il:i < cs.length:=by rw [← h.1];exact (List.getElem?_eq_some_iff.mp hi).1
 have e:=h.2 i _ z (List.getElem?_eq_getElem il) hi
 cases hc:cs[i] with
 | v y=>rw [hc] at e;exact .inl (by rw [e.2];exact e.1)
 | t row=>rw [hc] at e;obtain ⟨a,e,h⟩:=e;exact .inr ⟨a,e,_,h⟩
theorem lowW.tl {w:Str}{ws:List Str}(h:lowW (w::ws)):lowW ws:=⟨Nat.le_of_succ_le h.1,λ x hx=>h.2 x (List.mem_cons_of_mem _ hx)⟩
theorem z9t {K:W.Frag}:∀ {fs:List (Str × List (Str × Int))}{kvs:List (Str × Addr)},z7p K fs kvs->∀ {x:Str},fs.lookup x=none->kvs.lookup x=none
 | [],[],_,_,_=>rfl
 | [],_::_,h,_,_=>h.elim
 | _::_,[],h,_,_=>h.elim
 | (g,gs)::fs,(p,pa)::ps,h,x,e=>by
  obtain ⟨⟨e1,xs,k1,k2⟩,h2⟩:=h
  cases (show p=g from e1)
  rw [List.lookup_cons] at e ⊢
  by_cases c:x == g
  ·rw [c] at e;cases e
  ·have c:(x == g)=false:=by simpa using c
   rw [c] at e ⊢
   exact z9t h2 e
theorem y7o {β:Type}{x:Str}:∀ {l:List (Str × β)},(l.lookup x).isSome=true->x∈l.map (·.1)
 | [],h=>by cases h
 | (g,b)::l,h=>by
  rw [List.lookup_cons] at h
  by_cases c:x == g
  ·rw [eq_of_beq c];exact List.mem_cons_self
  ·have c:(x == g)=false:=by simpa using c
   rw [c] at h
   exact List.mem_cons_of_mem _ (y7o h)
theorem y9x:formsL.map (·.1)=(List.range 15).map z0h:=by decide +kernel
def z6w (x:Str):Nat:=((List.range 15).find? λ i=>z0h i == x).getD 15
theorem w3k {x:Str}(h:(formsL.lookup x).isSome=true):z6w x < 15/\z0h (z6w x)=x:=by
 have m:=y7o h
 rw [y9x] at m
 obtain ⟨i,hi,e⟩:=List.mem_map.mp m
 unfold z6w
 cases hf:(List.range 15).find? λ i=>z0h i == x with
 | none=>exact absurd (by rw [e];exact beq_self_eq_true x) (List.find?_eq_none.mp hf i hi)
 | some j =>
  have z:(z0h j == x)=true:=List.find?_some (p:=λ i=>z0h i == x) hf
  exact ⟨List.mem_range.mp (List.mem_of_find?_eq_some hf),eq_of_beq z⟩
def z7i (kvs:List (Key × V)) (ws:List Str):Option (List PC):=match ws with
 | a::e::k::rest=>if e=Str.ofString "=" /\ (formsL.lookup k).isSome=true/\nmB a=true/\(z2o kvs (Sum.inr a:Key)).isSome=false then z9a kvs (z6w k) rest else none
 | _=>none
theorem knI.flat {kvs:List (Key × V)}(h:knI kvs) (w:Str):z1r ((z2o kvs (Sum.inr w:Key)).getD .non)=true:=by
 cases e:z2o kvs (Sum.inr w:Key) with
 | none=>rfl
 | some v=>obtain ⟨u,rfl⟩:=h _ _ e;rfl
theorem knI.any {kvs:List (Key × V)}(h:knI kvs):∀ws:List Str,((ws.map λ w=>(z2o kvs (Sum.inr w:Key)).getD .non).any λ z=>eqV z .non)=!(ws.all λ w=>(z2o kvs (Sum.inr w:Key)).isSome)
 | []=>rfl
 | w::ws=>by
  rw [List.map_cons,List.any_cons,knI.any h ws,List.all_cons]
  cases e:z2o kvs (Sum.inr w:Key) with
  | none=>simp [eqV]
  | some v=>obtain ⟨u,rfl⟩:=h _ _ e;simp [eqV]
def z5p (kvs:List (Key × V)) (ws:List Str):Option (List V):=match ws with
 | o::rest=>if o=Str.ofString "out" /\ 1≤rest.length/\rest.length≤8/\(rest.all λ w=>(z2o kvs (Sum.inr w:Key)).isSome)=true then some (rest.map λ w=>(z2o kvs (Sum.inr w:Key)).getD .non) else none
 | []=>none
theorem lowW.nil:lowW []:=⟨by decide,λ x hx=>nomatch hx⟩
def w4h (s:Stmt):List Stmt:=match s with
 | .ClassDef _ _ _ b _ _ _ _ _ _ _=>b
 | _=>[]
abbrev y8v:Stmt:=(w4h (top 12)).getD 0 (.Pass ⟨0,0,0,0⟩)
def w9g (x:V):List (Str × V):=[(Str.ofString "row",x)]
def y6d (K:W.Frag):Sp:=λ vs H Q _=>∃(a C:Addr) (tx:Str) (x:V),vs=[.ref a,.str tx,x]/\H a=some (z5j a C none)/\w4g K C [.type "ValueError",.type "Exception",.type "BaseException",.type "object"] "ValueError.__new__"=true/\AtX K C/\NoAttr K C (Str.ofString "row") /\
 ∀dx H',H dx=none->dx≠a->H' a=some (z5j a C (some dx))->H' dx=some (x0f dx (w9g x))->(∀b,b≠a->b≠dx->H' b=H b)->Q .non H'
variable {P:Program}{w:World}{K:W.Frag}{mg:Str->Option Value}{base:Heap}{f:Addr}{fd:FuncData}
theorem w5v:FnScope ["self","text","row"] ["self","text","row"] (z0m y8v):=⟨rfl,rfl,rfl,by decide +kernel,rfl,by decide +kernel,by decide +kernel⟩
theorem w7j (F:Fun K "__init__" "BadText.__init__" y8v f fd) {C0:Addr}(gL:mg "LoomError"=some (.ref C0)) (h1:W.specialIn K (.ref C0) "__getattribute__"=some (some (.builtin "type.__getattribute__"))) (h2:W.readsIn K C0 (.type "type")=true) (h3:W.findCls K (.ref C0) (.type "type") "__init__"=some (.val (.builtin "ValueError.__init__")))
  (h4:W.handedIn (.builtin "ValueError.__init__")=true):FnOk P w K mg base CX0 7 f fd ["self","text","row"] (y6d K):=by
 have sc:=w5v
 refine F.ok sc (λ vs H Q E h=>?_) (λ cdv A outer s H vs Q E hr h=>?_)
 ·obtain ⟨a,C,tx,x,rfl,_⟩:=h;rfl
 obtain ⟨a,C,tx,x,rfl,ha,hc,hA,n1,q⟩:=h
 refine ⟨_,(z0f (z3n (x7l PySem.F.excBase_ValueError (by rfl) gL h1 h2 h3 h4 (z0a (pv 0) (z0a (pv 1) z0e)))) (z0k (w6l (pv 0) (pv 2) rfl))),?_⟩
 wp_walk using z1b,z1c,tyS,inV,eqV
 exact ⟨C,none,ha,hc,small (by decide),C,ha,hA,n1,λ dx hd ne=>q dx _ hd ne (by rw [z0d]) (by rw [z0o ne,z0d];rfl) λ b n1 n2=>by rw [z0o n1,z0o n2]⟩
def z2m (T:Str):List (List Str):=(z0x 10 T.cps.toList).map λ r=>(z0x 32 (z1p r).cps.toList).map z1p
def StsAt (H:Hp) (sts:List (List PC)) (ps:List Addr):Prop:=ps.length=sts.length/\∀(i:Nat) cs,sts[i]?=some cs->∃a xs,ps[i]?=some a/\H a=some (.tup xs)/\PCs H cs xs
def rdS (rows:List (List Str)):Nat->Option (List (Key × V) × List (List PC))
 | 0=>some ([],[])
 | i+1=>(rdS rows i).bind λ s=>(rows[i]?).bind λ r=>if i < 40 then (z7i s.1 r).map λ cs=>(z9c s.1 (Sum.inr (r.headD ""):Key) (.int (i:Int)),s.2++[cs]) else none
theorem y0w {kvs:List (Key × V)}{r:List Str}{cs:List PC}(h:z7i kvs r=some cs):z2o kvs (Sum.inr (r.headD ""):Key)=none/\∃a r',r=a::r':=by
 unfold z7i at h
 split at h
 ·split at h
  ·rename_i c
   exact ⟨by have:=c.2.2.2;simpa using this,_,_,rfl⟩
  ·cases h
 ·cases h
theorem knI.put {kvs:List (Key × V)}(h:knI kvs) (k:Key) (n:Nat):knI (z9c kvs k (.int (n:Int))):=λ j v e=>by
 rw [y0b] at e
 split at e
 ·cases e;exact ⟨n,rfl⟩
 ·exact h _ _ e
theorem y2p {rows:List (List Str)}:∀ {i:Nat}{s:List (Key × V) × List (List PC)},rdS rows i=some s->knI s.1/\s.1.length=i/\s.2.length=i
 | 0,s,h=>by cases h;exact ⟨λ k v e=>(by cases e),rfl,rfl⟩
 | i+1,s,h=>by
  unfold rdS at h
  obtain ⟨s',h1,h⟩:=Option.bind_eq_some_iff.mp h
  obtain ⟨r,h2,h⟩:=Option.bind_eq_some_iff.mp h
  split at h
  ·obtain ⟨cs,h3,rfl⟩:=Option.map_eq_some_iff.mp h
   obtain ⟨a,b,c⟩:=y2p h1
   refine ⟨a.put _ i,?_,?_⟩
   ·rw [y6n _ (y0w h3).1,List.length_append,b];rfl
   ·rw [List.length_append,c];rfl
  ·cases h
theorem w5b {G:Hp}{l:Addr}{o o':HO}(e:G l=some o) (n:∀xs,o≠.tup xs):∀a ys,G a=some (.tup ys)->upd G l o' a=some (.tup ys):=λ a ys h=>by
 rw [z0o (λ z=>by rw [z,e] at h;cases h;exact n _ rfl)]
 exact h
theorem w5x {H G H':Hp}{a dx:Addr}{o:HO}(s:Same H G) (ha:G a=none) (hd:upd G a o dx=none) (ne:¬dx=a) (e3:∀b,¬b=a->¬b=dx->H' b=upd G a o b):Same H (rm H' a):=λ b u e=>by
 rw [z0o ne] at hd
 have eb:=s _ _ e
 have na:b≠a:=λ z=>by rw [z,ha] at eb;cases eb
 have nd:b≠dx:=λ z=>by rw [z,hd] at eb;cases eb
 rw [y2l na,e3 b na nd,z0o na]
 exact eb
theorem z6h (c:Nat) (L:List Nat):z0x c L≠[]:=by
 cases L with
 | nil=>simp [z0x]
 | cons d r =>
  unfold z0x
  split
  ·simp
  ·split<;>simp
theorem y2k (T:Str):1≤(z2m T).length:=by
 unfold z2m
 rw [List.length_map]
 exact List.length_pos_iff.mpr (z6h _ _)
theorem x7d (T:Str):∀ws∈z2m T,ws≠[]:=λ ws h=>by
 obtain ⟨r,_,rfl⟩:=List.mem_map.mp h
 intro z
 exact z6h _ _ (List.map_eq_nil_iff.mp z)
theorem y6k {W:List (List Str)}{i:Nat}(h:rdS W i=none):∀k,rdS W (i+k)=none
 | 0=>h
 | k+1=>by
  show rdS W (i+k+1)=none
  unfold rdS
  rw [y6k h k]
  rfl
theorem z5e (c:Nat):∀(L:List Nat),∀r∈z0x c L,r.length≤L.length/\(∀a∈r,a∈L)/\c ∉ r
 | [],r,h=>by cases List.mem_singleton.mp h;exact ⟨Nat.le_refl _,λ a ha=>ha,λ z=>nomatch z⟩
 | d::L,r,h=>by
  obtain ⟨p,ps,e⟩:=z3h c L
  have ih:=z5e c L
  unfold z0x at h
  split at h
  ·rcases List.mem_cons.mp h with rfl | h
   ·exact ⟨Nat.zero_le _,(λ a ha=>nomatch ha),λ z=>nomatch z⟩
   ·exact ⟨Nat.le_succ_of_le (ih r h).1,λ a ha=>List.mem_cons_of_mem _ ((ih r h).2.1 a ha),(ih r h).2.2⟩
  ·rename_i z
   rw [e] at h ih
   rcases List.mem_cons.mp h with rfl | h
   ·have i:=ih p List.mem_cons_self
    refine ⟨Nat.succ_le_succ i.1,λ a ha=>?_,λ m=>?_⟩
    ·rcases List.mem_cons.mp ha with rfl | ha
     ·exact List.mem_cons_self
     ·exact List.mem_cons_of_mem _ (i.2.1 a ha)
    ·rcases List.mem_cons.mp m with m | m
     ·exact z m.symm
     ·exact i.2.2 m
   ·have i:=ih r (List.mem_cons_of_mem _ h)
    exact ⟨Nat.le_succ_of_le i.1,λ a ha=>List.mem_cons_of_mem _ (i.2.1 a ha),i.2.2⟩
def w7p (T:Str):Prop:=T.length≤3999990/\∀c∈T.cps.toList,c < 128
theorem y8e (r:List Nat):(z1p r).cps.toList=r:=rfl
theorem x8i {T:Str}(h:w7p T):(∀r∈z0x 10 T.cps.toList,(z1p r).length≤4000000)/\(∀ws∈z2m T,lowW ws)/\(z2m T).length≤4000000:=by
 have tl:T.cps.toList.length=T.length:=z1u T
 have h1:=h.1
 refine ⟨λ r hr=>?_,λ ws hw=>?_,?_⟩
 ·have:=(z5e 10 _ r hr).1
  rw [z7m];lia
 ·obtain ⟨r,hr,rfl⟩:=List.mem_map.mp hw
  have i:=z5e 10 _ r hr
  rw [y8e]
  refine ⟨?_,λ w hw=>?_⟩
  ·have:=z5f 32 r
   rw [List.length_map];lia
  ·obtain ⟨v,hv,rfl⟩:=List.mem_map.mp hw
   have j:=z5e 32 _ v hv
   refine ⟨?_,λ c hc=>h.2 c (i.2.1 c (j.2.1 c hc))⟩
   have:(z1p v).length≤4000000:=by rw [z7m];lia
   exact this
 ·have:=z5f 10 T.cps.toList
  unfold z2m
  rw [List.length_map];lia
def z7u (C:Addr):Sp:=λ vs H Q E=>∃T:Str,vs=[.str T]/\w7p T /\
 (∀i s,i+1 < (z2m T).length->rdS (z2m T) i=some s->rdS (z2m T) (i+1)=none->∀H' dx,Same H H'->H' dx=some (x0f dx (w9g (.int ((i:Int)+1))))->E (.ref C) (some dx) H') /\
 (∀s,rdS (z2m T) ((z2m T).length - 1)=some s->z5p s.1 ((z2m T).getLastD [])=none->∀H' dx,Same H H'->H' dx=some (x0f dx (w9g (.int ((z2m T).length:Int))))->E (.ref C) (some dx) H') /\
 (∀s os,rdS (z2m T) ((z2m T).length - 1)=some s->z5p s.1 ((z2m T).getLastD [])=some os->∀H' p q na st oa ps,Same H H'->H' p=some (.tup [.ref q,.ref na])->H' q=some (.tup [.ref st,.ref oa])->H' st=some (.tup (ps.map V.ref))->StsAt H' s.2 ps->H' oa=some (.tup os)->H' na=some (.tup (s.1.map λ kv=>kV kv.1))->Q (.ref p) H')
theorem StsAt.mono {H H':Hp}{sts:List (List PC)}{ps:List Addr}(h:StsAt H sts ps) (u:∀a xs,H a=some (.tup xs)->H' a=some (.tup xs)):StsAt H' sts ps:=⟨h.1,λ i cs e=>let ⟨a,xs,e1,e2,e3⟩:=h.2 i cs e;⟨a,xs,e1,u _ _ e2,e3.mono u⟩⟩
theorem StsAt.snoc {H:Hp}{sts:List (List PC)}{ps:List Addr}{cs:List PC}{p:Addr}{xs:List V}(h:StsAt H sts ps) (e:H p=some (.tup xs)) (c:PCs H cs xs):StsAt H (sts++[cs]) (ps++[p]):=by
 refine ⟨by rw [List.length_append,List.length_append,h.1];rfl,λ i cs' hi=>?_⟩
 by_cases l:i < sts.length
 ·rw [List.getElem?_append_left l] at hi
  rw [List.getElem?_append_left (by rw [h.1];exact l)]
  exact h.2 i cs' hi
 ·have il:=(List.getElem?_eq_some_iff.mp hi).1
  rw [List.length_append] at il
  have z:i=sts.length:=by simp only [List.length_cons,List.length_nil] at il;lia
  subst z
  rw [List.getElem?_append_right (Nat.le_refl _),Nat.sub_self] at hi
  cases hi
  exact ⟨p,xs,by rw [← h.1,List.getElem?_append_right (Nat.le_refl _),Nat.sub_self];rfl,e,c⟩
def PcW (nm:List Str) (kind:Str) (c:PC) (ws:List Str):Prop :=
 (kind="step" /\ ∃(u:Nat) (x:Str),c=.v (.int (u:Int))/\nm[u]?=some x/\ws=[x])\/(kind="sides" /\ ∃row,c=.t row/\smR row/\ws=row.map sI) \/
 (kind ≠ "step" /\ kind ≠ "sides" /\ ((∃n:Int,c=.v (.int n)/\n.natAbs < 10 ^ 20/\ws=[sI n])\/∃t:Str,c=.v (.str t)/\t.length≤100/\ws=[t]))
theorem PcW.at {H:Hp}{nm:List Str}{kind:Str}{c:PC}{ws:List Str}{x:V}(h:PcW nm kind c ws) (a:PCAt H c x):PwOk H nm kind x ws:=by
 rcases h with ⟨e,u,y,rfl,hu,hw⟩ | ⟨e,row,rfl,sm,hw⟩ | ⟨n1,n2,⟨n,rfl,b,hw⟩ | ⟨t,rfl,b,hw⟩⟩
 ·obtain ⟨_,rfl⟩:=a;exact .inl ⟨e,u,y,rfl,hu,hw⟩
 ·obtain ⟨b,rfl,hb⟩:=a;exact .inr (.inl ⟨e,b,row,rfl,hb,sm,hw⟩)
 ·obtain ⟨_,rfl⟩:=a;exact .inr (.inr ⟨n1,n2,.inl ⟨n,rfl,b,hw⟩⟩)
 ·obtain ⟨_,rfl⟩:=a;exact .inr (.inr ⟨n1,n2,.inr ⟨t,rfl,b,hw⟩⟩)
def w9l (W:List (List Str)) (i:Nat):List Str:=(W.take i).map λ r=>r.headD ""
theorem x8b {W:List (List Str)}{i:Nat}{r:List Str}(h:W[i]?=some r):w9l W (i+1)=w9l W i++[r.headD ""]:=by unfold w9l;rw [List.take_add_one,h,List.map_append];rfl
theorem x1s {W:List (List Str)}:∀ {i:Nat}{s:List (Key × V) × List (List PC)},rdS W i=some s->i≤40/\i≤W.length/\(s.1.map λ kv=>kV kv.1)=(w9l W i).map V.str/\(∀w v,z2o s.1 (Sum.inr w:Key)=some v->∃(u:Nat) (r:List Str),v=.int (u:Int)/\u < i/\W[u]?=some r/\r.headD ""=w)/\(∀(u:Nat) (r:List Str),u < i->W[u]?=some r->(z2o s.1 (Sum.inr (r.headD ""):Key)).isSome=true) /\
  ∀j,j < i->∃s' r cs,rdS W j=some s'/\W[j]?=some r/\z7i s'.1 r=some cs/\s.2[j]?=some cs
 | 0,s,h=>by cases h;exact ⟨by decide,Nat.zero_le _,rfl,λ w v e=>(by cases e),λ u r h=>absurd h (Nat.not_lt_zero _),λ j h=>absurd h (Nat.not_lt_zero _)⟩
 | i+1,s,h=>by
  have h0:=h
  unfold rdS at h
  obtain ⟨s',h1,h⟩:=Option.bind_eq_some_iff.mp h
  obtain ⟨r,h2,h⟩:=Option.bind_eq_some_iff.mp h
  split at h
  ·rename_i c40
   obtain ⟨cs,h3,rfl⟩:=Option.map_eq_some_iff.mp h
   obtain ⟨a0,a1,a2,a3,a4,a5⟩:=x1s h1
   have sl:=(y2p h1).2.2
   have nw:=(y0w h3).1
   refine ⟨c40,(List.getElem?_eq_some_iff.mp h2).1,?_,λ w v e=>?_,λ u r' hu er=>?_,λ j hj=>?_⟩
   ·rw [y6n _ nw,List.map_append,a2,x8b h2,List.map_append];rfl
   ·rw [y0b] at e
    split at e
    ·rename_i ek
     cases e
     exact ⟨i,r,rfl,Nat.lt_succ_self _,h2,(Sum.inr.inj ek).symm⟩
    ·obtain ⟨u,r',e1,e2,e3⟩:=a3 w v e
     exact ⟨u,r',e1,Nat.lt_succ_of_lt e2,e3⟩
   ·rw [y0b]
    split
    ·rfl
    ·rename_i ne
     refine a4 u r' (Nat.lt_of_le_of_ne (Nat.le_of_lt_succ hu) λ z=>ne ?_) er
     subst z
     rw [h2] at er;cases er;rfl
   ·rcases Nat.lt_or_ge j i with h | h
    ·obtain ⟨s2,r2,cs2,e1,e2,e3,e4⟩:=a5 j h
     exact ⟨s2,r2,cs2,e1,e2,e3,by rw [List.getElem?_append_left (by lia)];exact e4⟩
    ·have z:j=i:=by lia
     subst z
     exact ⟨s',r,cs,h1,h2,h3,by rw [List.getElem?_append_right (by lia),sl,Nat.sub_self];rfl⟩
  ·cases h
def z9j (W:List (List Str)) (i:Nat):Prop:=(i+1 < W.length/\(∃s,rdS W i=some s)/\rdS W (i+1)=none)\/(i+1=W.length/\∃s,rdS W i=some s/\z5p s.1 (W.getLastD [])=none)
def v1q (W:List (List Str)) (s:List (Key × V) × List (List PC)) (os:List V):Prop:=rdS W (W.length - 1)=some s/\z5p s.1 (W.getLastD [])=some os
theorem x1r {W:List (List Str)}{i j:Nat}{s:List (Key × V) × List (List PC)}(h:rdS W i=some s) (l:j≤i):∃s',rdS W j=some s':=by
 cases e:rdS W j with
 | some s'=>exact ⟨s',rfl⟩
 | none =>
  have:=y6k e (i - j)
  rw [show j+(i - j)=i by lia,h] at this
  cases this
theorem x6d {W:List (List Str)}{i j:Nat}(hi:z9j W i) (hj:z9j W j):i=j:=by
 have key:∀ {a b:Nat},z9j W a->z9j W b->¬a < b:=λ {a b} ha hb l=>by
  rcases ha with ⟨_,_,na⟩ | ⟨ea,_⟩
  ·have:∃s,rdS W b=some s:=by rcases hb with ⟨_,h,_⟩ | ⟨_,s,h,_⟩;exact h;exact ⟨s,h⟩
   obtain ⟨s,h⟩:=this
   obtain ⟨s',h'⟩:=x1r h (show a+1≤b by lia)
   rw [na] at h';cases h'
  ·rcases hb with ⟨hb,_⟩ | ⟨hb,_⟩<;>lia
 have:=key hi hj
 have:=key hj hi
 lia
theorem y8j {W:List (List Str)}{i:Nat}{s:List (Key × V) × List (List PC)}{os:List V}(hi:z9j W i) (h:v1q W s os):False:=by
 rcases hi with ⟨l,_,na⟩ | ⟨e,s',h1,h2⟩
 ·obtain ⟨s',h'⟩:=x1r h.1 (show i+1≤W.length - 1 by lia)
  rw [na] at h';cases h'
 ·have:=h.1
  rw [show W.length - 1=i by lia,h1] at this
  cases this
  rw [h.2] at h2;cases h2
theorem x8m {α:Type}(l:List α) (a d:α):(l++[a]).getLastD d=a:=by rw [List.getLastD_eq_getLast?,List.getLast?_append];rfl
def rwT (c:Nat) (T:Str):List Str:=(z0x c T.cps.toList).map z1p
theorem x1n (T:Str):z2m T=(rwT 10 T).map (rwT 32):=by unfold z2m rwT;rw [List.map_map];rfl
theorem y6f {c:Nat}{ws:List Str}(n:ws≠[]) (h:∀w∈ws,c ∉ w.cps.toList):rwT c (Builtin.Str.glued ⟨#[c]⟩ ws)=ws:=by
 have e:=y4l n h
 unfold rwT
 refine (List.map_inj_right (f:=V.str) (λ a b z=>by cases z;rfl)).mp ?_
 rw [List.map_map];exact e
theorem x3u {c N:Nat}{ws:List Str}(hc:c < 128) (hN:y0c ⟨#[c]⟩ ws≤N) (hw:∀w∈ws,∀a∈w.cps.toList,a < 128):(Builtin.Str.glued ⟨#[c]⟩ ws).length≤N/\∀a∈(Builtin.Str.glued ⟨#[c]⟩ ws).cps.toList,a < 128:=by
 refine ⟨Nat.le_trans (z4f _ _) hN,λ a ha=>?_⟩
 rcases y3p ha with rfl | ⟨w,h,m⟩
 ·exact hc
 ·exact hw w h a m
theorem z3w (x y:Str):(x++y).cps.toList=x.cps.toList++y.cps.toList:=by rw [Str.cps_append,Array.toList_append]
theorem x1m (n:Int):∀c∈(sI n).cps.toList,c < 128:=λ c hc=>by
 unfold sI at hc
 rw [y1x] at hc
 unfold x6j at hc
 split at hc
 ·have:=y4f _ c hc;lia
 ·rcases List.mem_cons.mp hc with rfl | hc
  ·lia
  ·have:=y4f _ c hc;lia
def lowC (x:Str):Prop:=∀c∈x.cps.toList,c < 128
theorem nameOk.lowC {x:Str}(h:nameOk x):lowC x:=λ c hc=>by have:=h.2.2 c hc;lia
theorem x8p {i:Nat}(h:i < 15):lowC (z0h i):=by
 have z:∀j:Fin 15,∀c∈(z0h j.val).cps.toList,c < 128:=by decide +kernel
 exact z ⟨i,h⟩
theorem x0i {d:Sd}{nm:List Str}{k:Nat}(g:z4n nm) (hd:d.kd < 15) (hu:d.kd < 3\/(d.u0 < k/\d.u1 < k/\d.u2 < k)) (hk:k≤nm.length):∀w∈z2p d nm,lowC w:=by
 intro w hw
 obtain ⟨ws,h1,h2⟩:=List.mem_flatten.mp hw
 obtain ⟨j,hj⟩:=List.getElem?_of_mem h1
 have jl:j < (z2i d).length:=by show j < ((formsL.getD d.kd ("",[])).2).length;rw [← z4k hd (nm:=nm)];exact (List.getElem?_eq_some_iff.mp hj).1
 obtain ⟨x,ws',_,e2,r⟩:=y4z (nm:=nm) (k:=k) 0 hd hu j _ (List.getElem?_eq_getElem jl)
 rw [hj] at e2;cases e2
 rcases r with ⟨_,u,_,hu,rfl⟩ | ⟨_,_,rfl⟩ | ⟨_,t,_,ht,rfl⟩ | ⟨_,n,_,_,_,rfl⟩ | ⟨_,n,_,_,_,rfl⟩
 ·cases List.mem_singleton.mp h2;exact (z1n g (by lia)).lowC
 ·obtain ⟨n,_,rfl⟩:=List.mem_map.mp h2;exact x1m n
 ·cases List.mem_singleton.mp h2;exact ht.lowC
 ·cases List.mem_singleton.mp h2;exact x1m n
 ·cases List.mem_singleton.mp h2;exact x1m n
theorem w4l {ds:List Sd}{os:List Nat}{nm:List Str}(g:z4n nm) (nl:nm.length=ds.length) (dk:∀d∈ds,y4e ds.length d) (od:z9i ds) (ob:∀o∈os,o < ds.length):∀ws∈y1u ds os nm,∀w∈ws,lowC w:=by
 intro ws h w hw
 rcases List.mem_append.mp h with h | h
 ·obtain ⟨i,hi,rfl⟩:=List.mem_map.mp h
  have hi:=List.mem_range.mp hi
  have gi:ds[i]?=some (ds.getD i ⟨0,0,0,0,0⟩):=by rw [List.getD_eq_getElem?_getD,List.getElem?_eq_getElem hi];rfl
  rcases List.mem_append.mp hw with hw | hw
  ·simp only [List.mem_cons,List.not_mem_nil,or_false] at hw
   rcases hw with rfl | rfl | rfl
   ·exact (z1n g (by lia)).lowC
   ·unfold lowC;decide +kernel
   ·exact x8p (dk _ (List.mem_of_getElem? gi)).1
  ·exact x0i g (dk _ (List.mem_of_getElem? gi)).1 (od i _ gi) (by lia) w hw
 ·cases List.mem_singleton.mp h
  rcases List.mem_cons.mp hw with rfl | hw
  ·unfold lowC;decide +kernel
  ·obtain ⟨o,ho,rfl⟩:=List.mem_map.mp hw
   exact (z1n g (by have:=ob o ho;lia)).lowC
inductive BW where
 | lit (s:Str) | nm | ah | be
deriving DecidableEq
def BW.ev (n a b:Str):BW->Str
 | .lit s=>s
 | .nm=>n
 | .ah=>a
 | .be=>b
def BW.noFig:BW->Bool
 | .lit s=>(z4o s.cps.toList 3).isNone
 | _=>true
def BW.noPart (kind:Str):BW->Bool
 | .lit s=>if kind=Str.ofString "step" then !(nmB s) else if kind=Str.ofString "word" then !(nmB s) else if kind=Str.ofString "number" then (y7j s.cps.toList).isNone else (z4o s.cps.toList 3).isNone
 | .nm=>decide (kind=Str.ofString "step")
 | .be=>decide (kind=Str.ofString "step")
 | .ah=>false
def y8k:List (Str × Int)->List BW->Bool
 | [],ws=>!ws.isEmpty
 | f::fs,ws=>if f.1=Str.ofString "sides" then decide (8 < ws.length) || ws.any BW.noFig || y8k fs [] else match ws with
  | []=>true
  | w::ws=>w.noPart f.1 || y8k fs ws
def v1l:List BW->Bool
 | a::e::k::rest=>(match e with | .lit s=>decide (s≠Str.ofString "=") | _=>true) || (match a with | .lit s=>!(nmB s) | _=>false) || (match k with | .lit s=>(formsL.lookup s).isNone || y8k ((formsL.getD (z6w s) ("",[])).2) rest | _=>false)
 | _=>true
structure Kn (kvs:List (Key × V)) (n a b:Str):Prop where
 keys:∀w:Str,(z2o kvs (Sum.inr w:Key)).isSome=true->nameOk w
 hn:nameOk n
 ha:nameOk a
 hb:nameOk b
 nn:z2o kvs (Sum.inr n:Key)=none
 nb:z2o kvs (Sum.inr b:Key)=none
theorem nameOk.nmB {x:Str}(h:nameOk x):nmB x=true:=by
 unfold My.nmB x3t
 simp only [Bool.and_eq_true,decide_eq_true_eq,List.all_eq_true]
 refine ⟨by have:=h.1;lia,by have:=h.2.1;lia,λ c hc=>?_⟩
 have:=h.2.2 c hc
 unfold x6h
 simp only [Bool.and_eq_true,decide_eq_true_eq]
 exact this
theorem nmB.name {x:Str}(h:My.nmB x=true):nameOk x:=by
 unfold My.nmB x3t at h
 simp only [Bool.and_eq_true,decide_eq_true_eq,List.all_eq_true] at h
 refine ⟨by lia,by lia,λ c hc=>?_⟩
 have:=h.2.2 c hc
 unfold x6h at this
 simp only [Bool.and_eq_true,decide_eq_true_eq] at this
 exact this
theorem nameOk.noFig {x:Str}(h:nameOk x) (m:Int):z4o x.cps.toList m=none:=by
 unfold z4o
 rw [if_neg]
 intro z
 unfold y1k at z
 simp only [Bool.and_eq_true,decide_eq_true_eq,List.all_eq_true] at z
 obtain ⟨c,hc⟩:∃c,c∈x.cps.toList:=by
  cases e:x.cps.toList with
  | nil=>have:=h.1;rw [e] at this;simp at this
  | cons c r=>exact ⟨c,List.mem_cons_self ..⟩
 have a:=h.2.2 c hc
 have b:=z.2.2 c hc
 unfold y8d at b
 simp at b
 lia
theorem x9h {kvs:List (Key × V)}{n a b:Str}(k:Kn kvs n a b) {w:BW}(h:w.noFig=true):z4o (w.ev n a b).cps.toList 3=none:=by
 cases w with
 | lit s=>show z4o s.cps.toList 3=none;simpa [BW.noFig] using h
 | nm=>exact k.hn.noFig 3
 | ah=>exact k.ha.noFig 3
 | be=>exact k.hb.noFig 3
theorem x4y {kvs:List (Key × V)}{n a b:Str}(k:Kn kvs n a b) {kind:Str}{w:BW}(h:w.noPart kind=true):z5k kvs kind (w.ev n a b)=.non:=by
 have step:∀x:Str,z2o kvs (Sum.inr x:Key)=none->z5k kvs (Str.ofString "step") x=.non:=λ x e=>by unfold z5k;rw [if_pos rfl,e];rfl
 cases w with
 | lit s =>
  have h:(if kind=Str.ofString "step" then !(My.nmB s) else if kind=Str.ofString "word" then !(My.nmB s) else if kind=Str.ofString "number" then (y7j s.cps.toList).isNone else (z4o s.cps.toList 3).isNone)=true:=h
  show z5k kvs kind s=.non
  unfold z5k
  split at h
  ·rename_i c
   rw [if_pos c]
   cases e:z2o kvs (Sum.inr s:Key) with
   | none=>rfl
   | some v =>
    have:=(k.keys s (by rw [e];rfl)).nmB
    rw [this] at h;cases h
  ·rename_i c
   rw [if_neg c]
   split at h
   ·rename_i c2
    rw [if_pos c2,if_neg (by intro z;rw [z] at h;cases h)]
   ·rename_i c2
    rw [if_neg c2]
    split at h
    ·rename_i c3
     rw [if_pos c3]
     have:y7j s.cps.toList=none:=by simpa using h
     rw [this];rfl
    ·rename_i c3
     rw [if_neg c3]
     have:z4o s.cps.toList 3=none:=by simpa using h
     rw [this];rfl
 | nm=>have:=of_decide_eq_true h;subst this;exact step _ k.nn
 | be=>have:=of_decide_eq_true h;subst this;exact step _ k.nb
 | ah=>cases h
theorem x2y {kvs:List (Key × V)}{s:List PC × List Str}{f:Str × Int}{p:Nat}(h:f.2.toNat≠p):(y1c kvs s f).1[p]?=s.1[p]?:=by
 unfold y1c
 split
 ·rw [List.getElem?_set,if_neg h]
 ·split<;>rw [List.getElem?_set,if_neg h]
theorem y3r {kvs:List (Key × V)}{p:Nat}:∀ {fs:List (Str × Int)}{s:List PC × List Str},(∀f∈fs,f.2.toNat≠p)->(fs.foldl (y1c kvs) s).1[p]?=s.1[p]?
 | [],_,_=>rfl
 | f::fs,s,h=>by rw [List.foldl_cons,y3r (λ g hg=>h g (List.mem_cons_of_mem _ hg)),x2y (h f (List.mem_cons_self ..))]
theorem x0y {kvs:List (Key × V)}{n a b:Str}(k:Kn kvs n a b) {ws:List BW}(h:(decide (8 < ws.length) || ws.any BW.noFig)=true):z5w (ws.map (BW.ev n a b))=.v .non:=by
 have e:z3t (ws.map (BW.ev n a b))=none:=by
  unfold z3t
  rw [if_neg]
  rintro ⟨h1,h2⟩
  rw [Bool.or_eq_true] at h
  rcases h with h | h
  ·have:=of_decide_eq_true h
   rw [List.length_map] at h1
   lia
  ·obtain ⟨w,hw,nf⟩:=List.any_eq_true.mp h
   have:=List.all_eq_true.mp h2 _ (List.mem_map.mpr ⟨w,hw,rfl⟩)
   rw [x9h k nf] at this
   cases this
 unfold z5w
 rw [e]
theorem y1q {kvs:List (Key × V)}{n a b:Str}(k:Kn kvs n a b):∀(fs:List (Str × Int)) (s:List PC) (ws:List BW),(fs.map λ f=>f.2.toNat).Nodup->(∀f∈fs,f.2.toNat < s.length)->y8k fs ws=true ->
  (fs.foldl (y1c kvs) (s,ws.map (BW.ev n a b))).2≠[]\/∃p:Nat,(fs.foldl (y1c kvs) (s,ws.map (BW.ev n a b))).1[p]?=some (.v .non)
 | [],s,ws,_,_,h=>by
  refine .inl ?_
  cases ws with
  | nil=>cases h
  | cons w ws=>intro z;cases z
 | f::fs,s,ws,nd,hl,h=>by
  rw [List.map_cons,List.nodup_cons] at nd
  have fl:=hl f (List.mem_cons_self ..)
  have kp:∀g∈fs,g.2.toNat≠f.2.toNat:=λ g hg z=>nd.1 (z ▸ List.mem_map.mpr ⟨g,hg,rfl⟩)
  have hl':∀(c:PC),∀g∈fs,g.2.toNat < (s.set f.2.toNat c).length:=λ c g hg=>by rw [List.length_set];exact hl g (List.mem_cons_of_mem _ hg)
  have fin:∀(ws':List Str),∃p:Nat,(fs.foldl (y1c kvs) (s.set f.2.toNat (.v .non),ws')).1[p]?=some (.v .non):=λ ws'=>⟨f.2.toNat,by rw [y3r kp];show (s.set f.2.toNat (.v .non))[f.2.toNat]?=_;rw [List.getElem?_set,if_pos rfl,if_pos fl]⟩
  rw [List.foldl_cons]
  unfold y8k at h
  by_cases c:f.1=Str.ofString "sides"
  ·rw [if_pos c,Bool.or_eq_true] at h
   rw [show y1c kvs (s,ws.map (BW.ev n a b)) f=(s.set f.2.toNat (z5w (ws.map (BW.ev n a b))),[]) by unfold y1c;rw [if_pos c]]
   rcases h with h | h
   ·rw [x0y k h]
    exact .inr (fin _)
   ·exact y1q k fs _ [] nd.2 (hl' _) h
  ·rw [if_neg c] at h
   cases ws with
   | nil =>
    rw [show y1c kvs (s,[].map (BW.ev n a b)) f=(s.set f.2.toNat (.v .non),[]) by unfold y1c;rw [if_neg c];rfl]
    exact .inr (fin _)
   | cons w ws =>
    rw [show y1c kvs (s,(w::ws).map (BW.ev n a b)) f=(s.set f.2.toNat (.v (z5k kvs f.1 (w.ev n a b))),ws.map (BW.ev n a b)) by unfold y1c;rw [if_neg c];rfl]
    have h:(w.noPart f.1 || y8k fs ws)=true:=h
    rw [Bool.or_eq_true] at h
    rcases h with h | h
    ·rw [x4y k h]
     exact .inr (fin _)
    ·exact y1q k fs _ ws nd.2 (hl' _) h
theorem x8v:∀kd:Fin 16,(((formsL.getD kd.val ("",[])).2).map λ f=>f.2.toNat).Nodup/\∀f∈(formsL.getD kd.val ("",[])).2,f.2.toNat < ((formsL.getD kd.val ("",[])).2).length+1:=by decide +kernel
theorem x6s {kvs:List (Key × V)}{n a b:Str}(k:Kn kvs n a b) {kd:Nat}(hk:kd < 16) {ws:List BW}(h:y8k ((formsL.getD kd ("",[])).2) ws=true):z9a kvs kd (ws.map (BW.ev n a b))=none:=by
 obtain ⟨p1,p2⟩:=x8v ⟨kd,hk⟩
 unfold z9a
 rw [if_neg]
 rintro ⟨z1,z2⟩
 unfold z4c at z1 z2
 rw [List.take_length] at z1 z2
 rcases y1q k _ (List.replicate (((formsL.getD kd ("",[])).2).length+1) (.v (.str (z0h kd)))) ws p1 (λ f hf=>by rw [List.length_replicate];exact p2 f hf) h with y | ⟨p,y⟩
 ·exact y z1
 ·have m:=List.mem_of_getElem? y
  have:=List.any_eq_false.mp z2 _ m
  exact this rfl
theorem x8w (s:Str):z6w s < 16:=by
 unfold z6w
 cases e:(List.range 15).find? λ i=>z0h i == s with
 | none=>decide
 | some j=>have:=List.mem_range.mp (List.mem_of_find?_eq_some e);show j < 16;lia
theorem nameOk.ne_eq {x:Str}(h:nameOk x):x≠Str.ofString "=" := λ z=>by
 have:=h.2.2 61 (by rw [z];decide +kernel)
 lia
theorem x1q {kvs:List (Key × V)}{n a b:Str}(k:Kn kvs n a b) {ws:List BW}(h:v1l ws=true):z7i kvs (ws.map (BW.ev n a b))=none:=by
 match ws,h with
 | [],_=>rfl
 | [_],_=>rfl
 | [_,_],_=>rfl
 | x::e::kw::rest,h =>
  unfold v1l at h
  rw [Bool.or_eq_true,Bool.or_eq_true] at h
  show (if e.ev n a b=Str.ofString "=" /\ (formsL.lookup (kw.ev n a b)).isSome=true/\My.nmB (x.ev n a b)=true/\(z2o kvs (Sum.inr (x.ev n a b):Key)).isSome=false then z9a kvs (z6w (kw.ev n a b)) (rest.map (BW.ev n a b)) else none)=none
  split
  ·rename_i c
   rcases h with (h | h) | h
   ·exfalso
    cases e with
    | lit s=>exact of_decide_eq_true h c.1
    | nm=>exact k.hn.ne_eq c.1
    | ah=>exact k.ha.ne_eq c.1
    | be=>exact k.hb.ne_eq c.1
   ·exfalso
    cases x with
    | lit s=>have h:(!(My.nmB s))=true:=h;rw [show My.nmB s=true from c.2.2.1] at h;cases h
    | nm=>cases h
    | ah=>cases h
    | be=>cases h
   ·cases kw with
    | lit s =>
     have h:((formsL.lookup s).isNone || y8k ((formsL.getD (z6w s) ("",[])).2) rest)=true:=h
     rw [Bool.or_eq_true] at h
     rcases h with h | h
     ·have c2:(formsL.lookup s).isSome=true:=c.2.1
      cases e2:formsL.lookup s with
      | none=>rw [e2] at c2;cases c2
      | some v=>rw [e2] at h;cases h
     ·exact x6s k (x8w s) h
    | nm=>cases h
    | ah=>cases h
    | be=>cases h
  ·rfl
def badW:List (List BW):=[
 [.lit ""],[.nm,.lit "=",.lit "ins",.lit "2"],[.nm,.lit "=",.lit "each",.lit "neg",.nm],[.nm,.lit "=",.lit "in",.lit "02"],[.nm,.lit "=",.lit "in",.lit "1000"],
 [.nm,.lit "=",.lit "in",.lit "1",.lit "1",.lit "1",.lit "1",.lit "1",.lit "1",.lit "1",.lit "1",.lit "1"],[.lit "out",.ah],[.lit "abcdefghi",.lit "=",.lit "in"],
 [.nm,.lit "=",.lit "each",.lit "abcdefghi",.ah],[.nm,.lit "=",.lit "pair",.lit "add",.ah],[.nm,.lit "=",.lit "count"],
 [.nm,.lit "=",.lit "cut",.ah,.lit "0",.lit "0",.lit "1"],[.nm,.lit "=",.lit "flip",.ah,.lit "-1"],[.nm,.lit "=",.lit "num",.lit "1",.lit "2"],
 [.nm,.lit "=",.lit "each",.lit "n2g",.ah],[.nm,.lit "=",.lit "each",.lit "neg",.be],[.nm,.lit "=",.lit "num",.lit "-0"],
 [.nm,.lit "=",.lit "num",.lit "9223372036854775808"],[.nm,.lit "=",.lit "num",.lit "-9223372036854775809"],[.nm],[.nm,.lit "="],
 [.nm,.lit "=",.lit "num",.lit "+1"],[.nm,.lit "=",.lit "num"],[.nm,.lit "=",.lit "turn",.ah,.lit "1",.lit "0",.lit "x"],[.nm,.lit "=",.lit "fetch",.ah],
 [.nm,.lit "=",.lit "join",.ah,.lit "0"],[.nm,.lit "=",.lit "lay",.ah,.lit "1",.lit "2",.lit "3",.lit "4",.lit "5",.lit "6",.lit "7",.lit "8",.lit "9"],[.lit "=",.lit "in"],
 [.nm,.lit "=",.lit "run",.ah,.lit "0"],[.nm,.lit "=",.lit "count",.lit "0",.lit "1",.lit "2",.lit "3",.lit "4",.lit "5",.lit "6",.lit "7",.lit "8",.lit "9"],[.nm,.lit "=",.lit "in",.lit "2,3"],
 [.nm,.lit "=",.lit "fold",.lit "add",.ah],[.nm,.lit "=",.lit "fold",.lit "add",.ah,.lit "0",.lit "0"],[.nm,.lit "=",.lit "spread",.ah],
 [.lit "",.lit "=",.lit "in",.lit "2"],[.nm,.lit "=",.lit "each",.lit "",.ah],[.nm,.lit "=",.lit "fold",.lit "",.ah,.lit "0"],[.lit "a1",.lit "=",.lit "in",.lit "2"],[.lit "aB",.lit "=",.lit "in",.lit "2"],
 [.nm,.lit "=",.lit "pair",.lit "",.ah,.ah],[.nm,.lit "=",.lit "pair",.lit "abcdefghi",.ah,.ah],[.nm,.lit "=",.lit "fold",.lit "abcdefghi",.ah,.lit "0"],[.nm,.lit "=",.lit "run",.lit "n2g",.ah,.lit "0"],
 [.nm,.lit "=",.lit "pair",.lit "Add",.ah,.ah],[.nm,.lit "=",.lit "turn",.ah,.lit "0",.lit "1",.lit "2",.lit "3",.lit "4",.lit "5",.lit "6",.lit "7",.lit "8"],
 [.nm,.lit "=",.lit "flip",.ah,.lit "1000"],[.nm,.lit "=",.lit "spread",.ah,.lit "0",.lit "1000"],[.nm,.lit "=",.lit "count",.lit "1000"],
 [.nm,.lit "=",.lit "lay",.ah,.lit "01"],[.nm,.lit "=",.lit "fetch",.ah,.ah,.lit "0"]]
theorem x9x:∀ws∈badW,v1l ws=true:=by decide +kernel
def upS (x:Str):Str:=⟨placed x λ _ c=>Unicode.upperOf c⟩
theorem ap {x y:Str}{m k:Nat}(h:x.length≤m) (g:y.length≤k):(x++y).length≤m+k:=by rw [strLen_append];exact Nat.add_le_add h g
theorem f2 {x y:Str}{m k:Nat}(h:x.length≤m) (g:y.length≤k) (d:m+k≤100000:=by decide):x.length+y.length≤sizeLine:=Nat.le_trans (Nat.le_trans (Nat.add_le_add h g) d) (by rw [sizeLine_eq];decide)
def bs0 (row n a b:Str):List Str:=[(y2m row (Str.ofString " ") (Str.ofString "  ")),(row++(Str.ofString " ")),((Str.ofString " ")++row),(y2m row (Str.ofString "=") (Str.ofString ":")),((upS (Txt.slice row none (some 1)))++(Txt.slice row (some 1) none))]
def bs1 (row n a b:Str):List Str:=[(Str.ofString ""),(n++(Str.ofString " = ins 2")),((n++(Str.ofString " = each neg "))++n),(n++(Str.ofString " = in 02")),(n++(Str.ofString " = in 1000"))]
def bs2 (row n a b:Str):List Str:=[(n++(Str.ofString " = in 1 1 1 1 1 1 1 1 1")),((Str.ofString "out ")++a),(Str.ofString "abcdefghi = in"),(y2m row (Str.ofString " ") (Str.ofString "\t"))]
def bs3 (row n a b:Str):List Str:=[((n++(Str.ofString " = each abcdefghi "))++a),((n++(Str.ofString " = pair add "))++a),(n++(Str.ofString " = count"))]
def bs4 (row n a b:Str):List Str:=[(((n++(Str.ofString " = cut "))++a)++(Str.ofString " 0 0 1")),(((n++(Str.ofString " = flip "))++a)++(Str.ofString " -1")),(n++(Str.ofString " = num 1 2"))]
def bs5 (row n a b:Str):List Str:=[((n++(Str.ofString " = each n2g "))++a),((n++(Str.ofString " = each neg "))++b),(n++(Str.ofString " = num -0"))]
def bs6 (row n a b:Str):List Str:=[(n++(Str.ofString " = num 9223372036854775808")),(n++(Str.ofString " = num -9223372036854775809")),n,(n++(Str.ofString " ="))]
def bs7 (row n a b:Str):List Str:=[(n++(Str.ofString " = num +1")),(n++(Str.ofString " = num")),(((n++(Str.ofString " = turn "))++a)++(Str.ofString " 1 0 x"))]
def bs8 (row n a b:Str):List Str:=[((n++(Str.ofString " = fetch "))++a)]
def bs9 (row n a b:Str):List Str:=[(((n++(Str.ofString " = join "))++a)++(Str.ofString " 0")),(((n++(Str.ofString " = lay "))++a)++(Str.ofString " 1 2 3 4 5 6 7 8 9")),(Str.ofString "= in")]
def v4h (row n a b:Str):List Str:=[(((n++(Str.ofString " = run "))++a)++(Str.ofString " 0")),(n++(Str.ofString " = count 0 1 2 3 4 5 6 7 8 9")),(n++(Str.ofString " = in 2,3"))]
def v4g (row n a b:Str):List Str:=[((n++(Str.ofString " = fold add "))++a),(((n++(Str.ofString " = fold add "))++a)++(Str.ofString " 0 0")),((n++(Str.ofString " = spread "))++a)]
def v4f (row n a b:Str):List Str:=[(Str.ofString " = in 2"),((n++(Str.ofString " = each  "))++a),(((n++(Str.ofString " = fold  "))++a)++(Str.ofString " 0")),(Str.ofString "a1 = in 2"),(Str.ofString "aB = in 2")]
def v4e (row n a b:Str):List Str:=[((((n++(Str.ofString " = pair  "))++a)++(Str.ofString " "))++a),((((n++(Str.ofString " = pair abcdefghi "))++a)++(Str.ofString " "))++a)]
def v4d (row n a b:Str):List Str:=[(((n++(Str.ofString " = fold abcdefghi "))++a)++(Str.ofString " 0")),(((n++(Str.ofString " = run n2g "))++a)++(Str.ofString " 0"))]
def v4c (row n a b:Str):List Str:=[((((n++(Str.ofString " = pair Add "))++a)++(Str.ofString " "))++a),(((n++(Str.ofString " = turn "))++a)++(Str.ofString " 0 1 2 3 4 5 6 7 8"))]
def v4b (row n a b:Str):List Str:=[(((n++(Str.ofString " = flip "))++a)++(Str.ofString " 1000")),(((n++(Str.ofString " = spread "))++a)++(Str.ofString " 0 1000")),(n++(Str.ofString " = count 1000"))]
def v4a (row n a b:Str):List Str:=[(((n++(Str.ofString " = lay "))++a)++(Str.ofString " 01")),(((((n++(Str.ofString " = fetch "))++a)++(Str.ofString " "))++a)++(Str.ofString " 0"))]
def v0o (row n a b:Str):List Str:=bs0 row n a b
def w6w (row n a b:Str):List Str:=v0o row n a b++bs1 row n a b
def w6v (row n a b:Str):List Str:=w6w row n a b++bs2 row n a b
def w6u (row n a b:Str):List Str:=w6v row n a b++bs3 row n a b
def w6t (row n a b:Str):List Str:=w6u row n a b++bs4 row n a b
def w6s (row n a b:Str):List Str:=w6t row n a b++bs5 row n a b
def w6r (row n a b:Str):List Str:=w6s row n a b++bs6 row n a b
def w6q (row n a b:Str):List Str:=w6r row n a b++bs7 row n a b
def w6p (row n a b:Str):List Str:=w6q row n a b++bs8 row n a b
def w6o (row n a b:Str):List Str:=w6p row n a b++bs9 row n a b
def x2g (row n a b:Str):List Str:=w6o row n a b++v4h row n a b
def x2f (row n a b:Str):List Str:=x2g row n a b++v4g row n a b
def x2e (row n a b:Str):List Str:=x2f row n a b++v4f row n a b
def x2d (row n a b:Str):List Str:=x2e row n a b++v4e row n a b
def x2c (row n a b:Str):List Str:=x2d row n a b++v4d row n a b
def x2b (row n a b:Str):List Str:=x2c row n a b++v4c row n a b
def x2a (row n a b:Str):List Str:=x2b row n a b++v4b row n a b
def z8l (row n a b:Str):List Str:=x2a row n a b++v4a row n a b
theorem y7a (row n a b:Str):(v0o row n a b).length=5:=rfl
theorem y6z (row n a b:Str):(w6w row n a b).length=10:=by unfold w6w;rw [List.length_append,y7a];rfl
theorem y6y (row n a b:Str):(w6v row n a b).length=14:=by unfold w6v;rw [List.length_append,y6z];rfl
theorem y6x (row n a b:Str):(w6u row n a b).length=17:=by unfold w6u;rw [List.length_append,y6y];rfl
theorem y6w (row n a b:Str):(w6t row n a b).length=20:=by unfold w6t;rw [List.length_append,y6x];rfl
theorem y6v (row n a b:Str):(w6s row n a b).length=23:=by unfold w6s;rw [List.length_append,y6w];rfl
theorem y6u (row n a b:Str):(w6r row n a b).length=27:=by unfold w6r;rw [List.length_append,y6v];rfl
theorem y6t (row n a b:Str):(w6q row n a b).length=30:=by unfold w6q;rw [List.length_append,y6u];rfl
theorem y6s (row n a b:Str):(w6p row n a b).length=31:=by unfold w6p;rw [List.length_append,y6t];rfl
theorem y6r (row n a b:Str):(w6o row n a b).length=34:=by unfold w6o;rw [List.length_append,y6s];rfl
theorem y2z (row n a b:Str):(x2g row n a b).length=37:=by unfold x2g;rw [List.length_append,y6r];rfl
theorem y2y (row n a b:Str):(x2f row n a b).length=40:=by unfold x2f;rw [List.length_append,y2z];rfl
theorem y2x (row n a b:Str):(x2e row n a b).length=45:=by unfold x2e;rw [List.length_append,y2y];rfl
theorem y2w (row n a b:Str):(x2d row n a b).length=47:=by unfold x2d;rw [List.length_append,y2x];rfl
theorem y2v (row n a b:Str):(x2c row n a b).length=49:=by unfold x2c;rw [List.length_append,y2w];rfl
theorem y2u (row n a b:Str):(x2b row n a b).length=51:=by unfold x2b;rw [List.length_append,y2v];rfl
theorem y2t (row n a b:Str):(x2a row n a b).length=54:=by unfold x2a;rw [List.length_append,y2u];rfl
theorem x1z (row n a b:Str):(z8l row n a b).length=56:=by unfold z8l;rw [List.length_append,y2t];rfl
def z8a:Sp:=λ vs H Q _=>∃(way:Int) (row n a b:Str),vs=[.int way,.str row,.str n,.str a,.str b]/\row.length≤5000/\n.length≤20/\a.length≤20/\b.length≤20/\okS 1000 (upS (Txt.slice row none (some 1)))/\∀H' x,Same H H'->x∈z8l row n a b->Q (.str x) H'
theorem y3i {xs:List Str}{i:Int}(h0:0≤i) (h1:i < xs.length):∃v,v∈xs/\atI (xs.map V.str) i=some (.str v):=by
 have il:i.toNat < xs.length:=by lia
 refine ⟨xs[i.toNat],List.getElem_mem il,?_⟩
 have z:=z0q (xs:=xs.map V.str) (j:=i.toNat) (v:=.str xs[i.toNat]) (by rw [List.getElem?_map,List.getElem?_eq_getElem il];rfl)
 rwa [show ((i.toNat:Nat):Int)=i by lia] at z
def z7w (n:Str):List Nat:=(Str.ofString " " ++ n).cps.toList
def w7n (n:Str):Str:=z1p [z7w n,z7w n,z7w n,z7w n,z7w n,z7w n,z7w n,z7w n,z7w n].flatten
def bo0 (row n:Str):List Str:=[Str.ofString "out",Str.ofString "out ",Str.ofString "out" ++ w7n n,Str.ofString "outs " ++ n,row++Str.ofString " ",Str.ofString "out  " ++ n,Str.ofString "out zzzzzzzzz",Str.ofString ""]
def bo1 (row n:Str):List Str:=[Str.ofString "Out " ++ n,row++Str.ofString "\n",Str.ofString "out " ++ upS n,n,Str.ofString "out = in 2",y2m row (Str.ofString " ") (Str.ofString "\t")]
theorem y6c {n:Str}(h:n.length≤8):(z7w n).length≤9:=by
 unfold z7w
 rw [z1u,strLen_append]
 have:(Str.ofString " ").length=1:=by decide +kernel
 lia
theorem x8d {n:Str}(h:n.length≤8):(w7n n).length≤81:=by
 have:=y6c h
 unfold w7n
 rw [z7m]
 simp only [List.flatten_cons,List.flatten_nil,List.length_append,List.length_nil]
 lia
def z6i:Sp:=λ vs H Q _=>∃(way:Int) (row n:Str),vs=[.int way,.str row,.str n]/\row.length≤5000/\n.length≤8/\okS 1000 (upS n)/\∀H' x,Same H H'->x∈bo0 row n++bo1 row n->Q (.str x) H'
theorem z3s {l:List Str}{k:Nat}(h:k < l.length):atI (l.map V.str) (k:Int)=some (.str (l.getD k "")):=z0q (j:=k) (v:=V.str (l.getD k "")) (by rw [List.getElem?_map,List.getD_eq_getElem?_getD,List.getElem?_eq_getElem h];rfl)
theorem x4a {l:List Str}(h:1≤l.length):atI (l.map V.str) (-1)=some (.str (l.getD (l.length - 1) "")):=by
 have e:ixN (l.map V.str).length (-1)=some (l.length - 1):=by
  unfold ixN
  rw [List.length_map]
  rw [if_neg (by lia),if_pos (by lia)]
  congr 1
  lia
 unfold atI
 rw [e,Option.bind_some,List.getElem?_map,List.getD_eq_getElem?_getD,List.getElem?_eq_getElem (show l.length - 1 < l.length by lia)]
 rfl
theorem z2u {l:List Str}{k:Nat}(h:k < l.length):l.getD k "" ∈ l:=by rw [List.getD_eq_getElem?_getD,List.getElem?_eq_getElem h];exact List.getElem_mem h
theorem z6b (c k:Int) {m:Nat}(h:0 < m):∃j:Nat,j < m/\z1q c k (m:Int)=(j:Int):=by
 have r:=z1d c k (show (0:Int) < (m:Int) by lia)
 exact ⟨(z1q c k (m:Int)).toNat,by lia,by lia⟩
theorem y5m {n k:Nat}(h:k < n):ixN n (k:Int)=some k:=by
 unfold ixN;rw [if_pos (by lia),if_pos (by lia)];simp
def Spo (R nm:List Str) (k:Nat) (x:Str):Prop:=(k+1=R.length/\∃j,j < nm.length/\x∈bo0 (R.getD k "") (nm.getD j "")++bo1 (R.getD k "") (nm.getD j ""))\/(k+1 < R.length/\((0 < k/\∃j,j < k/\x=nm.getD j "" ++ Txt.slice (R.getD k "") (some ((nm.getD k "").length:Int)) none)\/∃j,j < max 1 k/\x∈z8l (R.getD k "") (nm.getD k "") (nm.getD j "") (nm.getD (nm.length - 1) "")))
def z7h:Sp:=λ vs H Q _=>∃(ra na:Addr) (k:Nat) (c:Int) (R nm:List Str),vs=[.ref ra,.ref na,.int (k:Int),.int c]/\H ra=some (.lst (R.map V.str))/\H na=some (.tup (nm.map V.str))/\k < R.length/\R.length=nm.length+1/\1≤nm.length/\nm.length≤44/\(R.getD k "").length≤5000/\(∀x∈nm,x.length≤8/\okS 1000 (upS x))/\okS 1000 (upS (Txt.slice (R.getD k "") none (some 1))) /\
 ∀H' x,(∀a o,a≠ra->H a=some o->H' a=some o)->Spo R nm k x->H' ra=some (.lst ((R.set k x).map V.str))->Q (.ref ra) H'
theorem z8y:bootBuiltins "ValueError"=some (.type "ValueError"):=by decide +kernel
def z7x:Sp:=λ vs H Q _=>∃(T:Str) (i:Nat),vs=[.str T]/\w7p T/\z9j (z2m T) i/\∀H' t,Same H H'->H' t=some (.tup [.int ((i:Int)+1),.bl true])->Q (.ref t) H'
def z6g:Sp:=λ vs H Q _=>∃(T:Str) (i:Nat),vs=[.str T]/\w7p T/\z9j (z2m T) i/\∀H',Same H H'->Q (.bl true) H'
theorem z9s {c:Nat}:∀(u r:List Nat) (a:Nat),c ∉ u->(z8m c (u++c::r) a).take 1=[a+u.length]
 | [],r,a,_=>by simp [z8m]
 | d::u,r,a,h=>by
  have hd:d≠c:=λ z=>h (z ▸ List.mem_cons_self)
  show (z8m c (d::(u++c::r)) a).take 1=_
  rw [z8m,if_neg hd,z9s u r (a+1) (λ z=>h (List.mem_cons_of_mem _ z)),List.length_cons,show a+1+u.length=a+(u.length+1) by lia]
theorem y0x {x z:Str}{c:Nat}{u r:List Nat}(hx:x.cps.toList=u++c::r) (hc:c ∉ u):(y2m x ⟨#[c]⟩ z).cps.toList=u++(z.cps.toList++r):=by
 have l:x.cps.size=u.length+(r.length+1):=by rw [← Array.length_toList,hx];simp
 unfold y2m
 rw [w2y,hx,z9s u r 0 hc,Nat.zero_add]
 rw [if_neg (by simp)]
 show ((x.cps.extract 0 u.length++z.cps)++x.cps.extract (u.length+1) x.cps.size).toList=_
 rw [Array.toList_append,Array.toList_append,Array.toList_extract,Array.toList_extract,hx,List.extract_eq_take_drop,List.extract_eq_take_drop,l]
 rw [List.drop_zero,Nat.sub_zero,List.take_left,List.append_assoc,show u.length+(r.length+1) - (u.length+1)=r.length by lia,← List.drop_drop,List.drop_left]
 simp
theorem y8u {x:Str}{a:Nat}(h:a≤x.length):(Txt.slice x (some (a:Int)) none).cps.toList=x.cps.toList.drop a:=by
 have hl:=z1u x
 have e:Txt.slice x (some (a:Int)) none=StrLaws.sliceText x (some (a:Int)) none:=rfl
 rw [e,StrLaws.sliceText_from ⟨by lia,by lia⟩]
 show (x.cps.toList.drop (a:Int).toNat).take _=_
 rw [Int.toNat_natCast,List.take_of_length_le (by rw [List.length_drop];lia)]
theorem y2g {x:Str}(h:1≤x.length):(Txt.slice x none (some 1)).cps.toList=x.cps.toList.take 1:=by
 have hl:=z1u x
 have e:Txt.slice x none (some 1)=StrLaws.sliceText x none (some 1):=rfl
 rw [e,StrLaws.sliceText_to ⟨by lia,by lia⟩]
 rfl
theorem z3z (c:Nat):∀(w r:List Nat),z0x c (w++c::r)=z0x c w++z0x c r
 | [],r=>by
  have e:z0x c (c::r)=[]::z0x c r:=by rw [z0x,if_pos rfl]
  exact e
 | d::w,r=>by
  obtain ⟨p,ps,e⟩:=z3h c w
  show z0x c (d::(w++c::r))=_
  by_cases z:d=c
  ·rw [z0x,if_pos z,z0x,if_pos z,z3z c w r];rfl
  ·rw [z0x,if_neg z,z0x,if_neg z,z3z c w r,e];rfl
theorem y2c (c:Nat):∀(ws:List (List Nat)),ws≠[]->z0x c (z5l c ws)=ws.flatMap (z0x c)
 | [],h=>absurd rfl h
 | [w],_=>by simp [z5l]
 | w::v::r,_=>by rw [z5l,z3z,y2c c (v::r) (by simp)];rfl
theorem w1u {c:Nat}{ws:List Str}(n:ws≠[]):rwT c (Builtin.Str.glued ⟨#[c]⟩ ws)=ws.flatMap (rwT c):=by
 unfold rwT
 rw [StrLaws.glued_eq_join,z4v,y2c c _ (by simpa using n),List.flatMap_map,List.map_flatMap]
theorem z7y (c:Nat):∀(w L:List Nat),c ∉ w->z0x c (w++L)=(w++(z0x c L).headD [])::(z0x c L).tail
 | [],L,_=>by obtain ⟨p,ps,e⟩:=z3h c L;rw [List.nil_append,e];rfl
 | d::w,L,h=>by
  show z0x c (d::(w++L))=_
  rw [z0x,if_neg (λ z:d=c=>h (z ▸ List.mem_cons_self)),z7y c w L (λ z=>h (List.mem_cons_of_mem _ z))]
  rfl
inductive BE where
 | lit (s:Str) | v (k:Nat) | r (k:Nat) | app (x y:BE)
def BE.ev (f g:Nat->Str):BE->Str
 | .lit s=>s
 | .v k=>f k
 | .r k=>g k
 | .app x y=>x.ev f g++y.ev f g
def BE.pure:BE->Bool
 | .r _=>false
 | .app x y=>x.pure && y.pure
 | _=>true
def BE.ats:BE->List (Nat ⊕ Nat)
 | .lit s=>s.cps.toList.map .inl
 | .v k=>[.inr k]
 | .r _=>[]
 | .app x y=>x.ats++y.ats
def atL (f:Nat->Str):Nat ⊕ Nat->List Nat
 | .inl c=>[c]
 | .inr k=>(f k).cps.toList
theorem y1l (f:Nat->Str):∀L:List Nat,(L.map (Sum.inl:Nat->Nat ⊕ Nat)).flatMap (atL f)=L
 | []=>rfl
 | c::L=>by rw [List.map_cons,List.flatMap_cons,y1l f L];rfl
theorem BE.cps {f g:Nat->Str}:∀e:BE,e.pure=true->(e.ev f g).cps.toList=e.ats.flatMap (atL f)
 | .lit s,_=>(y1l f _).symm
 | .v k,_=>by simp [BE.ev,BE.ats,atL]
 | .r _,h=>by cases h
 | .app x y,h=>by
  have h:=Bool.and_eq_true_iff.mp h
  show (x.ev f g++y.ev f g).cps.toList=(x.ats++y.ats).flatMap (atL f)
  rw [z3w,BE.cps x h.1,BE.cps y h.2,List.flatMap_append]
def z3i:List (Nat ⊕ Nat)->List (List (Nat ⊕ Nat))
 | []=>[[]]
 | d::r=>if d=.inl 32 then []::z3i r else match z3i r with
  | []=>[[d]]
  | p::ps=>(d::p)::ps
theorem y2d:∀l,∃p ps,z3i l=p::ps
 | []=>⟨_,_,rfl⟩
 | d::r=>by
  obtain ⟨p,ps,e⟩:=y2d r
  unfold z3i
  split
  ·exact ⟨_,_,rfl⟩
  ·rw [e];exact ⟨_,_,rfl⟩
theorem z7z {f:Nat->Str}(h:∀k,32 ∉ (f k).cps.toList):∀l,z0x 32 (l.flatMap (atL f))=(z3i l).map λ w=>w.flatMap (atL f)
 | []=>rfl
 | d::l=>by
  obtain ⟨p,ps,e⟩:=y2d l
  have ih:=z7z h l
  rw [List.flatMap_cons]
  unfold z3i
  by_cases z:d=.inl 32
  ·subst z
   rw [if_pos rfl,show atL f (.inl 32)++l.flatMap (atL f)=32::l.flatMap (atL f) from rfl,z0x,if_pos rfl,ih];rfl
  ·rw [if_neg z]
   have nd:32 ∉ atL f d:=by
    cases d with
    | inl c=>intro m;exact z (by rw [List.mem_singleton.mp m])
    | inr k=>exact h k
   rw [z7y 32 _ _ nd,ih,e]
   rfl
def BW.ats:BW->List (Nat ⊕ Nat)
 | .lit s=>s.cps.toList.map .inl
 | .nm=>[.inr 0]
 | .ah=>[.inr 1]
 | .be=>[.inr 2]
def nmF (n a b:Str):Nat->Str
 | 0=>n
 | 1=>a
 | _=>b
theorem BW.cps {n a b:Str}(w:BW):z1p (w.ats.flatMap (atL (nmF n a b)))=w.ev n a b:=by
 refine (z2f ?_).symm
 cases w with
 | lit s=>exact (y1l _ _).symm
 | _=>simp [BW.ev,BW.ats,atL,nmF]
theorem y5u {n a b:Str}{g:Nat->Str}{e:BE}{ws:List BW}(hn:32 ∉ n.cps.toList) (ha:32 ∉ a.cps.toList) (hb:32 ∉ b.cps.toList) (p:e.pure=true) (h:z3i e.ats=ws.map BW.ats):rwT 32 (e.ev (nmF n a b) g)=ws.map (BW.ev n a b):=by
 unfold rwT
 rw [BE.cps e p,z7z (λ k=>by match k with | 0=>exact hn | 1=>exact ha | _+2=>exact hb),h,List.map_map,List.map_map]
 exact List.map_congr_left λ w _=>BW.cps w
theorem y7z {f:Nat->Str}(h:∀k,lowC (f k)/\(f k).length≤8):∀ {l:List (Nat ⊕ Nat)},(∀d∈l,∀c,d=.inl c->c < 128)->(l.flatMap (atL f)).length≤8 * l.length/\∀c∈l.flatMap (atL f),c < 128
 | [],_=>⟨Nat.le_refl _,λ c h=>nomatch h⟩
 | d::l,hd=>by
  obtain ⟨i1,i2⟩:=y7z h (l:=l) λ e he=>hd e (List.mem_cons_of_mem _ he)
  have k1:(atL f d).length≤8/\∀c∈atL f d,c < 128:=by
   cases d with
   | inl c=>exact ⟨by show 1≤8;decide,λ x hx=>by cases List.mem_singleton.mp hx;exact hd _ List.mem_cons_self c rfl⟩
   | inr k=>exact ⟨by show (f k).cps.toList.length≤8;rw [z1u];exact (h k).2,(h k).1⟩
  rw [List.flatMap_cons,List.length_append,List.length_cons]
  refine ⟨by lia,λ c hc=>?_⟩
  rcases List.mem_append.mp hc with hc | hc
  ·exact k1.2 c hc
  ·exact i2 c hc
theorem z9x:∀k:Fin 15,z6w (z0h k.val)=k.val/\z0h k.val≠Str.ofString "=" := by decide +kernel
theorem y4n {row:List Int}(h:smR row):∃r,z3t (row.map sI)=some r:=by
 unfold z3t
 rw [if_pos]
 ·exact ⟨_,rfl⟩
 refine ⟨by rw [List.length_map];exact h.1,List.all_eq_true.mpr λ w hw=>?_⟩
 obtain ⟨n,hn,rfl⟩:=List.mem_map.mp hw
 have:=x0x (h.2 n hn).1 (h.2 n hn).2
 cases e:z4o (sI n).cps.toList 3 with
 | none=>rw [e] at this;cases this
 | some m=>rfl
theorem x2p {kvs:List (Key × V)}{nm:List Str}{k:Nat}{ra:Addr}{row:List Int}{kind:Str}{x:V}{ws:List Str}(hk:∀u,u < k->∃v:Int,z2o kvs (Sum.inr (nm.getD u ""):Key)=some (.int v)) (h:v2w nm k ra row kind x ws) (ns:kind ≠ "sides"):∃w,ws=[w]/\z8s (.v (z5k kvs kind w))=false:=by
 rcases h with ⟨rfl,u,_,hu,rfl⟩ | ⟨e,_⟩ | ⟨rfl,t,_,ht,rfl⟩ | ⟨rfl,n,_,n0,n1,rfl⟩ | ⟨rfl,n,_,n0,n1,rfl⟩
 ·obtain ⟨v,e⟩:=hk u hu
  exact ⟨_,rfl,by unfold z5k;rw [if_pos rfl,e];rfl⟩
 ·exact absurd e ns
 ·exact ⟨_,rfl,by unfold z5k;rw [if_neg (by decide +kernel),if_pos rfl,if_pos ht.nmB];rfl⟩
 ·exact ⟨_,rfl,by unfold z5k;rw [if_neg (by decide +kernel),if_neg (by decide +kernel),if_pos rfl,w3b n0 n1];rfl⟩
 ·exact ⟨_,rfl,by unfold z5k;rw [if_neg (by decide +kernel),if_neg (by decide +kernel),if_neg (by decide +kernel),x0x n0 n1];rfl⟩
theorem x6f {l:List PC}{i:Nat}{c:PC}(h:l.any z8s=false) (e:z8s c=false):(l.set i c).any z8s=false:=List.any_eq_false.mpr λ x hx=>by
 rcases List.mem_or_eq_of_mem_set hx with hx | rfl
 ·exact List.any_eq_false.mp h x hx
 ·rw [e];decide
theorem y2n {kvs:List (Key × V)}{nm:List Str}{d:Sd}{k:Nat}(hd:d.kd < 15) (hu:d.kd < 3\/(d.u0 < k/\d.u1 < k/\d.u2 < k)) (hk:∀u,u < k->∃v:Int,z2o kvs (Sum.inr (nm.getD u ""):Key)=some (.int v)):∀j,j≤(z2i d).length->(z4c kvs d.kd (z2p d nm) j).2=((z2z d nm).drop j).flatten/\(z4c kvs d.kd (z2p d nm) j).1.any z8s=false
 | 0,_=>⟨rfl,List.any_eq_false.mpr λ x hx=>by rw [(List.mem_replicate.mp hx).2];intro z;cases z⟩
 | j+1,hj=>by
  obtain ⟨i1,i2⟩:=y2n hd hu hk j (Nat.le_of_succ_le hj)
  obtain ⟨f,ef⟩:∃f,(z2i d)[j]?=some f:=⟨_,List.getElem?_eq_getElem hj⟩
  obtain ⟨x,ws,_,ew,rd⟩:=y4z (nm:=nm) (k:=k) 0 hd hu j f ef
  rw [z9q ef]
  have df:=x5a ew
  generalize z4c kvs d.kd (z2p d nm) j=S at *
  unfold y1c
  by_cases cs:f.1=Str.ofString "sides"
  ·rw [if_pos cs]
   have l5:=y1p d
   have fe:=x4p ⟨d.kd,hd⟩ ⟨j,by lia⟩ (by rw [show ((formsL.getD (⟨d.kd,hd⟩:Fin 15).val ("",[])).2.getD (⟨j,by lia⟩:Fin 5).val ("",0))=f from z8u ef];exact cs)
   have fe:j+1=((formsL.getD d.kd ("",[])).2).length:=fe
   have dn:(z2z d nm).drop (j+1)=[]:=List.drop_eq_nil_of_le (by rw [z4k hd];lia)
   rw [dn] at df ⊢
   have e2:S.2=ws:=by rw [i1,df];simp
   refine ⟨rfl,x6f i2 ?_⟩
   rcases rd with ⟨e,_⟩ | ⟨_,_,e⟩ | ⟨e,_⟩ | ⟨e,_⟩ | ⟨e,_⟩
   ·rw [cs] at e;exact absurd e (by decide +kernel)
   ·obtain ⟨r,er⟩:=y4n (y6h d.c)
    unfold z5w
    rw [e2,e,er];rfl
   ·rw [cs] at e;exact absurd e (by decide +kernel)
   ·rw [cs] at e;exact absurd e (by decide +kernel)
   ·rw [cs] at e;exact absurd e (by decide +kernel)
  ·rw [if_neg cs]
   obtain ⟨w,rfl,nn⟩:=x2p hk rd cs
   rw [i1,df]
   exact ⟨rfl,x6f i2 nn⟩
theorem x0v {kvs:List (Key × V)}{nm:List Str}{d:Sd}{k:Nat}(hd:d.kd < 15) (hu:d.kd < 3\/(d.u0 < k/\d.u1 < k/\d.u2 < k)) (hk:∀u,u < k->∃v:Int,z2o kvs (Sum.inr (nm.getD u ""):Key)=some (.int v)):∃cs,z9a kvs d.kd (z2p d nm)=some cs:=by
 obtain ⟨i1,i2⟩:=y2n hd hu hk (z2i d).length (Nat.le_refl _)
 have e0:(z4c kvs d.kd (z2p d nm) ((formsL.getD d.kd ("",[])).2).length).2=[]:=by
  refine Eq.trans i1 ?_
  rw [List.drop_eq_nil_of_le (by rw [z4k hd];exact Nat.le_refl _)];rfl
 unfold z9a
 rw [if_pos ⟨e0,i2⟩]
 exact ⟨_,rfl⟩
structure Gd (ds:List Sd) (os:List Nat) (nm:List Str):Prop where
 g:z4n nm
 nl:nm.length=ds.length
 dk:∀d∈ds,y4e ds.length d
 od:z9i ds
 ob:∀o∈os,o < ds.length
 o1:1≤os.length
theorem x4c {ds:List Sd}{os:List Nat}{nm:List Str}{W:List (List Str)}{k:Nat}{s:List (Key × V) × List (List PC)}(G:Gd ds os nm) (hk:k≤ds.length) (hW:∀j,j < k->W[j]?=some (y9d ds nm j)) (hs:rdS W k=some s) :
  (∀w v,z2o s.1 (Sum.inr w:Key)=some v->∃u,u < k/\w=nm.getD u "")/\∀u,u < k->∃v:Int,z2o s.1 (Sum.inr (nm.getD u ""):Key)=some (.int v):=by
 obtain ⟨_,_,_,a3,a4,_⟩:=x1s hs
 have kn:=(y2p hs).1
 refine ⟨λ w v e=>?_,λ u hu=>?_⟩
 ·obtain ⟨u,r,_,hu,er,rfl⟩:=a3 w v e
  rw [hW u hu] at er;cases er
  exact ⟨u,hu,rfl⟩
 ·obtain ⟨v,e⟩:=Option.isSome_iff_exists.mp (a4 u _ hu (hW u hu))
  obtain ⟨z,rfl⟩:=kn _ _ e
  exact ⟨_,e⟩
theorem x4b {ds:List Sd}{os:List Nat}{nm:List Str}{W:List (List Str)}{k i:Nat}{s:List (Key × V) × List (List PC)}(G:Gd ds os nm) (hk:k≤i) (hi:i < ds.length) (hW:∀j,j < k->W[j]?=some (y9d ds nm j)) (hs:rdS W k=some s):z2o s.1 (Sum.inr (nm.getD i ""):Key)=none:=by
 cases e:z2o s.1 (Sum.inr (nm.getD i ""):Key) with
 | none=>rfl
 | some v =>
  obtain ⟨u,hu,z⟩:=(x4c G (by lia) hW hs).1 _ v e
  have nl:=G.nl
  have:=G.g.2 i u (by lia) (by lia) z
  lia
theorem y5a {ds:List Sd}{os:List Nat}{nm:List Str}{W:List (List Str)}(G:Gd ds os nm):∀k,k≤40->k≤ds.length->(∀j,j < k->W[j]?=some (y9d ds nm j))->∃s,rdS W k=some s
 | 0,_,_,_=>⟨_,rfl⟩
 | k+1,k40,kd,hW=>by
  have hW':∀j,j < k->W[j]?=some (y9d ds nm j):=λ j hj=>hW j (Nat.lt_succ_of_lt hj)
  obtain ⟨s,hs⟩:=y5a G k (by lia) (by lia) hW'
  have gi:ds[k]?=some (ds.getD k ⟨0,0,0,0,0⟩):=by rw [List.getD_eq_getElem?_getD,List.getElem?_eq_getElem kd];rfl
  have hd:=(G.dk _ (List.mem_of_getElem? gi)).1
  obtain ⟨cs,hc⟩:=x0v (nm:=nm) hd (G.od k _ gi) (x4c G (by lia) hW' hs).2
  have nl:=G.nl
  have ro:z7i s.1 (y9d ds nm k)=some cs:=by
   show (if Str.ofString "="=Str.ofString "=" /\ (formsL.lookup (z0h (ds.getD k ⟨0,0,0,0,0⟩).kd)).isSome=true/\nmB (nm.getD k "")=true/\(z2o s.1 (Sum.inr (nm.getD k ""):Key)).isSome=false then z9a s.1 (z6w (z0h (ds.getD k ⟨0,0,0,0,0⟩).kd)) (z2p (ds.getD k ⟨0,0,0,0,0⟩) nm) else none)=some cs
   rw [if_pos ⟨rfl,by rw [y7x hd];rfl,(z1n G.g (by lia)).nmB,by rw [x4b G (Nat.le_refl _) kd hW' hs];rfl⟩,(z9x ⟨_,hd⟩).1]
   exact hc
  exact ⟨_,by rw [rdS,hs,Option.bind_some,hW k (Nat.lt_succ_self k),Option.bind_some,if_pos (by lia),ro];rfl⟩
theorem v0y {ds:List Sd}{os:List Nat}{nm:List Str}{W:List (List Str)}{k j:Nat}{s:List (Key × V) × List (List PC)}(G:Gd ds os nm) (hk:k < ds.length) (hj:j < ds.length) (hW:∀j,j < k->W[j]?=some (y9d ds nm j)) (hs:rdS W k=some s):Kn s.1 (nm.getD k "") (nm.getD j "") (nm.getD (nm.length - 1) ""):=by
 have nl:=G.nl
 refine ⟨λ w h=>?_,z1n G.g (by lia),z1n G.g (by lia),z1n G.g (by lia),x4b G (Nat.le_refl _) hk hW hs,x4b G (by lia) (by lia) hW hs⟩
 obtain ⟨v,e⟩:=Option.isSome_iff_exists.mp h
 obtain ⟨u,hu,rfl⟩:=(x4c G (by lia) hW hs).1 w v e
 exact z1n G.g (by lia)
theorem z8k {kvs:List (Key × V)}{a e:Str}{r:List Str}(h:e≠Str.ofString "="):z7i kvs (a::e::r)=none:=by
 cases r with
 | nil=>rfl
 | cons k r=>simp only [z7i];rw [if_neg λ z=>h z.1]
theorem w1x {kvs:List (Key × V)}{a:Str}{r:List Str}(h:nmB a=false):z7i kvs (a::r)=none:=by
 match r with
 | []=>rfl
 | [_]=>rfl
 | e::k::r=>simp only [z7i];rw [if_neg λ z=>by rw [h] at z;cases z.2.2.1]
theorem x7e {kvs:List (Key × V)}{a:Str}{r:List Str}(h:(z2o kvs (Sum.inr a:Key)).isSome=true):z7i kvs (a::r)=none:=by
 match r with
 | []=>rfl
 | [_]=>rfl
 | e::k::r=>simp only [z7i];rw [if_neg λ z=>by rw [h] at z;cases z.2.2.2]
theorem z9z:∀(fs:List (Str × Int)) (ws:List BW),y8k fs (ws++[.lit ""])=true
 | [],ws=>by unfold y8k;cases ws<;>rfl
 | f::fs,ws=>by
  unfold y8k
  split
  ·rw [Bool.or_eq_true]
   refine .inl (Bool.or_eq_true_iff.mpr (.inr ?_))
   rw [List.any_append,Bool.or_eq_true]
   exact .inr (by decide +kernel)
  ·cases ws with
   | nil =>
    show (BW.noPart f.1 (.lit "") || y8k fs [])=true
    rw [Bool.or_eq_true]
    refine .inl ?_
    show (if f.1=Str.ofString "step" then !(nmB "") else if f.1=Str.ofString "word" then !(nmB "") else if f.1=Str.ofString "number" then (y7j ("" : Str).cps.toList).isNone else (z4o ("" : Str).cps.toList 3).isNone)=true
    split
    ·decide +kernel
    ·split
     ·decide +kernel
     ·split<;>decide +kernel
   | cons w ws =>
    show (w.noPart f.1 || y8k fs (ws++[.lit ""]))=true
    rw [z9z fs ws,Bool.or_true]
theorem x7f {kvs:List (Key × V)}{n a b:Str}(k:Kn kvs n a b) (x e kw:Str) (r:List Str):z7i kvs (x::e::kw::(r++[("" : Str)]))=none:=by
 have:=x1q k (ws:=.lit x::.lit e::.lit kw::(r.map BW.lit++[.lit ""])) (by
  show (_ || _ || ((formsL.lookup kw).isNone || y8k ((formsL.getD (z6w kw) ("",[])).2) (r.map BW.lit++[.lit ""])))=true
  rw [z9z,Bool.or_true,Bool.or_true])
 rw [List.map_cons,List.map_cons,List.map_cons,List.map_append,List.map_map,show (BW.ev n a b ∘ BW.lit)=id from rfl,List.map_id] at this
 exact this
theorem y7w (ws:List Str):(Builtin.Str.glued " " ws).cps.toList=z5l 32 (ws.map λ w=>w.cps.toList):=by rw [x6w,StrLaws.glued_eq_join,z4v]
def z2y (k:Str) (r:List Str):List Nat:=z5l 32 ((k::r).map λ w=>w.cps.toList)
theorem w8t:("=" : Str).cps.toList=[61]:=by decide +kernel
theorem z6p (a k:Str) (r:List Str):(Builtin.Str.glued " " (a :: "=" :: k::r)).cps.toList=a.cps.toList++32::61::32::z2y k r:=by
 rw [y7w]
 show a.cps.toList++32::(("=" : Str).cps.toList++32::z2y k r)=_
 rw [w8t];rfl
theorem y8t {k:Str}{r:List Str}(h:∀w∈k::r,clean w):(z0x 32 (z2y k r)).map z1p=k::r:=by
 unfold z2y
 rw [z5d 32 _ (by simp) (λ w hw=>by obtain ⟨v,hv,rfl⟩:=List.mem_map.mp hw;exact λ m=>(h v hv 32 m).1 rfl),List.map_map]
 conv=>rhs;rw [← List.map_id (k::r)]
 exact List.map_congr_left λ w _=>(z2f rfl).symm
theorem w4z:∀c:Fin 26,Unicode.upperOf (97+c.val)=[65+c.val]:=by decide +kernel
theorem x0j:∀(L:List Nat),(∀c∈L,97≤c/\c≤122)->(upS (z1p L)).cps.toList=L.map (· - 32):=λ L h=>by
 have e:(upS (z1p L)).cps.toList=L.flatMap Unicode.upperOf:=by
  show ((L.toArray.mapIdx λ _ c=>(Unicode.upperOf c).toArray).flatten).toList=_
  rw [Array.toList_flatten,Array.toList_mapIdx]
  clear h
  induction L with
  | nil=>rfl
  | cons c L ih =>
   rw [List.flatMap_cons,← ih]
   simp [List.mapIdx_cons]
 rw [e]
 clear e
 induction L with
 | nil=>rfl
 | cons c L ih =>
  have hc:=h c List.mem_cons_self
  rw [List.flatMap_cons,ih (λ d hd=>h d (List.mem_cons_of_mem _ hd)),List.map_cons]
  have:=w4z ⟨c - 97,by lia⟩
  rw [show 97+(⟨c - 97,by lia⟩:Fin 26).val=c by show 97+(c - 97)=c;lia] at this
  rw [this,show 65+(⟨c - 97,by lia⟩:Fin 26).val=c - 32 by show 65+(c - 97)=c - 32;lia]
  rfl
theorem y4i {x:Str}(h:nameOk x):(upS x).cps.toList=x.cps.toList.map (· - 32):=by
 have:=x0j x.cps.toList h.2.2
 rwa [← z2f rfl] at this
theorem w1j:(Str.ofString "  ").cps.toList=[32,32]:=by decide +kernel
theorem y6e:(Str.ofString " ").cps.toList=[32]:=by decide +kernel
theorem w4f:(Str.ofString ":").cps.toList=[58]:=by decide +kernel
theorem x0o:(Str.ofString "\t").cps.toList=[9]:=by decide +kernel
theorem w1t:Str.ofString " "=⟨#[32]⟩:=by decide +kernel
theorem w3z:Str.ofString "="=⟨#[61]⟩:=by decide +kernel
def y9e (row:Str):Nat->Str
 | 0=>y2m row (Str.ofString " ") (Str.ofString "  ")
 | 1=>row++Str.ofString " "
 | 2=>Str.ofString " " ++ row
 | 3=>y2m row (Str.ofString "=") (Str.ofString ":")
 | 4=>upS (Txt.slice row none (some 1))++Txt.slice row (some 1) none
 | _=>y2m row (Str.ofString " ") (Str.ofString "\t")
def Fn (x:Str):Prop:=(∀c∈x.cps.toList,c < 128/\c≠10)/\x.length≤5100
theorem nameOk.no32 {x:Str}(h:nameOk x):32 ∉ x.cps.toList:=λ m=>by have:=h.2.2 _ m;lia
theorem nameOk.ex {x:Str}(h:nameOk x):∃c N,x.cps.toList=c::N/\97≤c/\c≤122:=by
 cases e:x.cps.toList with
 | nil=>have:=h.1;rw [e] at this;simp at this
 | cons c N=>have:=h.2.2 c (by rw [e];exact List.mem_cons_self);exact ⟨c,N,rfl,this.1,this.2⟩
theorem y6i {n kd:Str}{r:List Str}(hn:nameOk n) (row:Str) (hr:row=Builtin.Str.glued " " (n :: "=" :: kd::r)) :
  (y9e row 0).cps.toList=n.cps.toList++32::32::61::32::z2y kd r/\(y9e row 1).cps.toList=(n.cps.toList++32::61::32::z2y kd r)++32::[]/\(y9e row 2).cps.toList=32::(n.cps.toList++32::61::32::z2y kd r)/\(y9e row 3).cps.toList=n.cps.toList++32::58::32::z2y kd r /\
  (∃c N,n.cps.toList=c::N/\97≤c/\c≤122/\(y9e row 4).cps.toList=((c - 32)::N)++32::61::32::z2y kd r)/\(y9e row 5).cps.toList=(n.cps.toList++[9,61])++32::z2y kd r:=by
 have L:=z6p n kd r
 rw [← hr] at L
 refine ⟨?_,?_,?_,?_,?_,?_⟩
 ·show (y2m row (Str.ofString " ") (Str.ofString "  ")).cps.toList=_;rw [w1t,y0x L hn.no32,w1j];rfl
 ·show (row++Str.ofString " ").cps.toList=_;rw [z3w,L,y6e]
 ·show (Str.ofString " " ++ row).cps.toList=_;rw [z3w,L,y6e];rfl
 ·show (y2m row (Str.ofString "=") (Str.ofString ":")).cps.toList=_
  rw [w3z,y0x (u:=n.cps.toList++[32]) (r:=32::z2y kd r) (by rw [L];simp) (λ m=>by
   rcases List.mem_append.mp m with m | m
   ·have:=hn.2.2 _ m;lia
   ·simp at m),w4f]
  simp
 ·obtain ⟨c,N,e,c1,c2⟩:=hn.ex
  refine ⟨c,N,e,c1,c2,?_⟩
  have l1:1≤row.length:=by rw [← z1u,L,e];simp
  have u:(upS (Txt.slice row none (some 1))).cps.toList=[c - 32]:=by
   have h1:=y2g l1
   rw [L,e] at h1
   have h1:(Txt.slice row none (some 1)).cps.toList=[c]:=h1
   have:=x0j [c] (λ d hd=>by cases List.mem_singleton.mp hd;exact ⟨c1,c2⟩)
   rw [← z2f h1] at this
   exact this
  show (upS (Txt.slice row none (some 1))++Txt.slice row (some 1) none).cps.toList=_
  rw [z3w,u,y4p,L,e];rfl
 ·show (y2m row (Str.ofString " ") (Str.ofString "\t")).cps.toList=_
  rw [w1t,y0x L hn.no32,x0o];simp
theorem z7g (x:Str):z1p x.cps.toList=x:=(z2f rfl).symm
theorem x7g {kvs:List (Key × V)}{n a b kd:Str}{r:List Str}(K:Kn kvs n a b) (hk:kd≠Str.ofString "=") (hc:∀w∈kd::r,clean w) (row:Str) (hr:row=Builtin.Str.glued " " (n :: "=" :: kd::r)):∀i,i < 6->z7i kvs (rwT 32 (y9e row i))=none:=by
 obtain ⟨h0,h1,h2,h3,⟨c,N,hN,c1,c2,h4⟩,h5⟩:=y6i K.hn row hr
 have n32:=K.hn.no32
 have tw:=y8t hc
 have L:=z6p n kd r
 rw [← hr] at L
 have sw:z0x 32 (n.cps.toList++32::61::32::z2y kd r)=n.cps.toList::[61]::z0x 32 (z2y kd r):=by
  rw [z2g 32 _ _ n32,show (61::32::z2y kd r)=[61]++32::z2y kd r from rfl,z2g 32 [61] _ (by decide)]
 intro i hi
 match i,hi with
 | 0,_ =>
  unfold rwT
  rw [h0,z2g 32 _ _ n32,z0x,if_pos rfl]
  exact z8k (by decide +kernel)
 | 1,_ =>
  unfold rwT
  rw [h1,z3z,sw,List.map_append,List.map_cons,List.map_cons,tw]
  exact x7f K _ _ _ _
 | 2,_ =>
  unfold rwT
  rw [h2,z0x,if_pos rfl,sw,List.map_cons,List.map_cons,z7g]
  exact z8k K.hn.ne_eq
 | 3,_ =>
  unfold rwT
  rw [h3,z2g 32 _ _ n32,show (58::32::z2y kd r)=[58]++32::z2y kd r from rfl,z2g 32 [58] _ (by decide)]
  exact z8k (by decide +kernel)
 | 4,_ =>
  unfold rwT
  rw [h4,z2g 32 _ _ (λ m=>by
   rcases List.mem_cons.mp m with m | m
   ·lia
   ·exact n32 (by rw [hN];exact List.mem_cons_of_mem _ m))]
  refine w1x ?_
  cases z:nmB (z1p ((c - 32)::N)) with
  | false=>rfl
  | true =>
   have:=(nmB.name z).2.2 (c - 32) List.mem_cons_self
   lia
 | 5,_ =>
  unfold rwT
  rw [h5,z2g 32 _ _ (λ m=>by
   rcases List.mem_append.mp m with m | m
   ·exact n32 m
   ·simp at m),List.map_cons,tw]
  exact z8k hk
theorem w1y {n kd:Str}{r:List Str}(hn:nameOk n) (row:Str) (hr:row=Builtin.Str.glued " " (n :: "=" :: kd::r)) (hf:(∀c∈row.cps.toList,c < 128/\c≠10)/\row.length≤5000):∀i,i < 6->Fn (y9e row i):=by
 obtain ⟨h0,h1,h2,h3,⟨c,N,hN,c1,c2,h4⟩,h5⟩:=y6i hn row hr
 have L:=z6p n kd r
 rw [← hr] at L
 obtain ⟨f1,f2⟩:=hf
 rw [← z1u] at f2
 rw [L] at f1 f2
 have fm:∀c∈z2y kd r,c < 128/\c≠10:=λ c hc=>f1 c (by simp [hc])
 have fn:∀c∈n.cps.toList,c < 128/\c≠10:=λ c hc=>f1 c (by simp [hc])
 have fN:∀c∈N,c < 128/\c≠10:=λ c hc=>fn c (by rw [hN];exact List.mem_cons_of_mem _ hc)
 have nN:n.cps.toList.length=N.length+1:=by rw [hN];rfl
 simp only [List.length_append,List.length_cons] at f2
 clear L hr
 have key:∀ {x:Str}{l:List Nat},x.cps.toList=l->(∀c∈l,c < 128/\c≠10)->l.length≤5100->Fn x:=λ {x l} e a b=>by
  subst e
  exact ⟨a,by rw [← z1u];exact b⟩
 intro i hi
 match i,hi with
 | 0,_=>exact key h0 (by intro d hd;simp only [List.mem_append,List.mem_cons] at hd;rcases hd with h | rfl | rfl | rfl | rfl | h;exact fn d h;all_goals first | decide | exact fm d h) (by simp only [List.length_append,List.length_cons];lia)
 | 1,_=>exact key h1 (by intro d hd;simp only [List.mem_append,List.mem_cons,List.not_mem_nil,or_false] at hd;rcases hd with (h | rfl | rfl | rfl | h) | rfl;exact fn d h;all_goals first | decide | exact fm d h) (by simp only [List.length_append,List.length_cons,List.length_nil];lia)
 | 2,_=>exact key h2 (by intro d hd;simp only [List.mem_append,List.mem_cons] at hd;rcases hd with rfl | h | rfl | rfl | rfl | h;decide;exact fn d h;all_goals first | decide | exact fm d h) (by simp only [List.length_append,List.length_cons];lia)
 | 3,_=>exact key h3 (by intro d hd;simp only [List.mem_append,List.mem_cons] at hd;rcases hd with h | rfl | rfl | rfl | h;exact fn d h;all_goals first | decide | exact fm d h) (by simp only [List.length_append,List.length_cons];lia)
 | 4,_=>exact key h4 (by intro d hd;simp only [List.mem_append,List.mem_cons] at hd;rcases hd with (rfl | h) | rfl | rfl | rfl | h;lia;exact fN d h;all_goals first | decide | exact fm d h) (by simp only [List.length_append,List.length_cons];lia)
 | 5,_=>exact key h5 (by intro d hd;simp only [List.mem_append,List.mem_cons,List.not_mem_nil,or_false] at hd;rcases hd with (h | rfl | rfl) | rfl | h;exact fn d h;all_goals first | decide | exact fm d h) (by simp only [List.length_append,List.length_cons,List.length_nil];lia)
theorem x2z {n m kd:Str}{r:List Str}(row:Str) (hr:row=Builtin.Str.glued " " (n :: "=" :: kd::r)):(m++Txt.slice row (some (n.length:Int)) none).cps.toList=m.cps.toList++32::61::32::z2y kd r:=by
 have L:=z6p n kd r
 rw [← hr] at L
 have hl:n.length≤row.length:=by rw [← z1u row,← z1u n,L];simp
 rw [z3w,y8u hl,L,← z1u n,List.drop_left]
theorem w2w {kvs:List (Key × V)}{n m kd:Str}{r:List Str}(hm:nameOk m) (ho:(z2o kvs (Sum.inr m:Key)).isSome=true) (row:Str) (hr:row=Builtin.Str.glued " " (n :: "=" :: kd::r)):z7i kvs (rwT 32 (m++Txt.slice row (some (n.length:Int)) none))=none:=by
 unfold rwT
 rw [x2z row hr,z2g 32 _ _ hm.no32,List.map_cons,z7g]
 exact x7e ho
theorem w0q {n m kd:Str}{r:List Str}(hm:nameOk m) (row:Str) (hr:row=Builtin.Str.glued " " (n :: "=" :: kd::r)) (hf:(∀c∈row.cps.toList,c < 128/\c≠10)/\row.length≤5000):Fn (m++Txt.slice row (some (n.length:Int)) none):=by
 have e:=x2z (m:=m) row hr
 have L:=z6p n kd r
 rw [← hr] at L
 obtain ⟨f1,f2⟩:=hf
 rw [← z1u] at f2
 rw [L] at f1 f2
 have m8:=hm.2.1
 refine ⟨λ c hc=>?_,?_⟩
 ·rw [e] at hc
  rcases List.mem_append.mp hc with h | h
  ·have:=hm.2.2 c h;lia
  ·exact f1 c (List.mem_append_right _ h)
 ·rw [← z1u,e]
  simp only [List.length_append,List.length_cons] at f2 ⊢
  lia
def eb:List BE:=[.r 0,.r 1,.r 2,.r 3,.r 4,(.lit (Str.ofString "")),(.app (.v 0) (.lit (Str.ofString " = ins 2"))),(.app (.app (.v 0) (.lit (Str.ofString " = each neg "))) (.v 0)),(.app (.v 0) (.lit (Str.ofString " = in 02"))),(.app (.v 0) (.lit (Str.ofString " = in 1000"))),(.app (.v 0) (.lit (Str.ofString " = in 1 1 1 1 1 1 1 1 1"))),(.app (.lit (Str.ofString "out ")) (.v 1)),(.lit (Str.ofString "abcdefghi = in")),.r 5,(.app (.app (.v 0) (.lit (Str.ofString " = each abcdefghi "))) (.v 1)),(.app (.app (.v 0) (.lit (Str.ofString " = pair add "))) (.v 1)),(.app (.v 0) (.lit (Str.ofString " = count"))),(.app (.app (.app (.v 0) (.lit (Str.ofString " = cut "))) (.v 1)) (.lit (Str.ofString " 0 0 1"))),(.app (.app (.app (.v 0) (.lit (Str.ofString " = flip "))) (.v 1)) (.lit (Str.ofString " -1"))),(.app (.v 0) (.lit (Str.ofString " = num 1 2"))),(.app (.app (.v 0) (.lit (Str.ofString " = each n2g "))) (.v 1)),(.app (.app (.v 0) (.lit (Str.ofString " = each neg "))) (.v 2)),(.app (.v 0) (.lit (Str.ofString " = num -0"))),(.app (.v 0) (.lit (Str.ofString " = num 9223372036854775808"))),(.app (.v 0) (.lit (Str.ofString " = num -9223372036854775809"))),(.v 0),(.app (.v 0) (.lit (Str.ofString " ="))),(.app (.v 0) (.lit (Str.ofString " = num +1"))),(.app (.v 0) (.lit (Str.ofString " = num"))),(.app (.app (.app (.v 0) (.lit (Str.ofString " = turn "))) (.v 1)) (.lit (Str.ofString " 1 0 x"))),(.app (.app (.v 0) (.lit (Str.ofString " = fetch "))) (.v 1)),(.app (.app (.app (.v 0) (.lit (Str.ofString " = join "))) (.v 1)) (.lit (Str.ofString " 0"))),(.app (.app (.app (.v 0) (.lit (Str.ofString " = lay "))) (.v 1)) (.lit (Str.ofString " 1 2 3 4 5 6 7 8 9"))),(.lit (Str.ofString "= in")),(.app (.app (.app (.v 0) (.lit (Str.ofString " = run "))) (.v 1)) (.lit (Str.ofString " 0"))),(.app (.v 0) (.lit (Str.ofString " = count 0 1 2 3 4 5 6 7 8 9"))),(.app (.v 0) (.lit (Str.ofString " = in 2,3"))),(.app (.app (.v 0) (.lit (Str.ofString " = fold add "))) (.v 1)),(.app (.app (.app (.v 0) (.lit (Str.ofString " = fold add "))) (.v 1)) (.lit (Str.ofString " 0 0"))),(.app (.app (.v 0) (.lit (Str.ofString " = spread "))) (.v 1)),(.lit (Str.ofString " = in 2")),(.app (.app (.v 0) (.lit (Str.ofString " = each  "))) (.v 1)),(.app (.app (.app (.v 0) (.lit (Str.ofString " = fold  "))) (.v 1)) (.lit (Str.ofString " 0"))),(.lit (Str.ofString "a1 = in 2")),(.lit (Str.ofString "aB = in 2")),(.app (.app (.app (.app (.v 0) (.lit (Str.ofString " = pair  "))) (.v 1)) (.lit (Str.ofString " "))) (.v 1)),(.app (.app (.app (.app (.v 0) (.lit (Str.ofString " = pair abcdefghi "))) (.v 1)) (.lit (Str.ofString " "))) (.v 1)),(.app (.app (.app (.v 0) (.lit (Str.ofString " = fold abcdefghi "))) (.v 1)) (.lit (Str.ofString " 0"))),(.app (.app (.app (.v 0) (.lit (Str.ofString " = run n2g "))) (.v 1)) (.lit (Str.ofString " 0"))),(.app (.app (.app (.app (.v 0) (.lit (Str.ofString " = pair Add "))) (.v 1)) (.lit (Str.ofString " "))) (.v 1)),(.app (.app (.app (.v 0) (.lit (Str.ofString " = turn "))) (.v 1)) (.lit (Str.ofString " 0 1 2 3 4 5 6 7 8"))),(.app (.app (.app (.v 0) (.lit (Str.ofString " = flip "))) (.v 1)) (.lit (Str.ofString " 1000"))),(.app (.app (.app (.v 0) (.lit (Str.ofString " = spread "))) (.v 1)) (.lit (Str.ofString " 0 1000"))),(.app (.v 0) (.lit (Str.ofString " = count 1000"))),(.app (.app (.app (.v 0) (.lit (Str.ofString " = lay "))) (.v 1)) (.lit (Str.ofString " 01"))),(.app (.app (.app (.app (.app (.v 0) (.lit (Str.ofString " = fetch "))) (.v 1)) (.lit (Str.ofString " "))) (.v 1)) (.lit (Str.ofString " 0")))]
def ebC (e:BE):Bool:=match e with
 | .r k=>decide (k < 6)
 | e=>e.pure && badW.any (λ ws=>decide (z3i e.ats=ws.map BW.ats)) && e.ats.all (λ d=>match d with | .inl c=>decide (c < 128) && decide (c≠10) | .inr _=>true) && decide (e.ats.length≤100)
theorem v1h:∀e∈eb,ebC e=true:=by decide +kernel
theorem w6n (row n a b:Str):z8l row n a b=eb.map (BE.ev (nmF n a b) (y9e row)):=rfl
theorem w1b {f:Nat->Str}(h:∀k,(∀c∈(f k).cps.toList,c < 128/\c≠10)/\(f k).length≤8) {x:Str}{l:List (Nat ⊕ Nat)}(e:x.cps.toList=l.flatMap (atL f)) (a:(l.all λ d=>match d with | .inl c=>decide (c < 128) && decide (c≠10) | .inr _=>true)=true) (b:l.length≤100):Fn x:=by
 have a':∀d∈l,∀c,d=.inl c->c < 128/\c≠10:=λ d hd c z=>by
  have:=List.all_eq_true.mp a d hd
  subst z
  simpa using this
 obtain ⟨l1,l2⟩:=y7z (f:=f) (λ k=>⟨λ c hc=>((h k).1 c hc).1,(h k).2⟩) (l:=l) λ d hd c z=>(a' d hd c z).1
 refine ⟨λ c hc=>?_,by rw [← z1u,e];lia⟩
 rw [e] at hc
 refine ⟨l2 c hc,?_⟩
 obtain ⟨d,hd,hm⟩:=List.mem_flatMap.mp hc
 cases d with
 | inl z=>cases List.mem_singleton.mp hm;exact (a' _ hd _ rfl).2
 | inr k=>exact ((h k).1 c hm).2
theorem nameOk.f8 {x:Str}(h:nameOk x):(∀c∈x.cps.toList,c < 128/\c≠10)/\x.length≤8:=⟨λ c hc=>by have:=h.2.2 c hc;lia,h.len⟩
theorem w7m {n a b:Str}(hn:nameOk n) (ha:nameOk a) (hb:nameOk b):∀k,nameOk (nmF n a b k)
 | 0=>hn
 | 1=>ha
 | _+2=>hb
theorem y2s {row n a b x:Str}(h:x∈z8l row n a b):(∃i,i < 6/\x=y9e row i)\/∃e,ebC e=true/\e.pure=true/\x=e.ev (nmF n a b) (y9e row)/\(∃ws∈badW,z3i e.ats=ws.map BW.ats)/\(e.ats.all λ d=>match d with | .inl c=>decide (c < 128) && decide (c≠10) | .inr _=>true)=true/\e.ats.length≤100:=by
 rw [w6n] at h
 obtain ⟨e,he,rfl⟩:=List.mem_map.mp h
 have ok:=v1h e he
 have key:(e.pure && badW.any (λ ws=>decide (z3i e.ats=ws.map BW.ats)) && e.ats.all (λ d=>match d with | .inl c=>decide (c < 128) && decide (c≠10) | .inr _=>true) && decide (e.ats.length≤100))=true->∃e',ebC e'=true/\e'.pure=true/\e.ev (nmF n a b) (y9e row)=e'.ev (nmF n a b) (y9e row)/\(∃ws∈badW,z3i e'.ats=ws.map BW.ats)/\(e'.ats.all λ d=>match d with | .inl c=>decide (c < 128) && decide (c≠10) | .inr _=>true)=true/\e'.ats.length≤100:=λ z=>by
  simp only [Bool.and_eq_true] at z
  obtain ⟨⟨⟨z1,z2⟩,z3⟩,z4⟩:=z
  obtain ⟨ws,w1,w2⟩:=List.any_eq_true.mp z2
  exact ⟨e,ok,z1,rfl,⟨ws,w1,of_decide_eq_true w2⟩,z3,of_decide_eq_true z4⟩
 cases e with
 | r k=>exact .inl ⟨k,of_decide_eq_true ok,rfl⟩
 | lit s=>exact .inr (key ok)
 | v k=>exact .inr (key ok)
 | app x y=>exact .inr (key ok)
theorem w2g {kvs:List (Key × V)}{n a b kd x:Str}{r:List Str}(K:Kn kvs n a b) (hk:kd≠Str.ofString "=") (hc:∀w∈kd::r,clean w) (row:Str) (hr:row=Builtin.Str.glued " " (n :: "=" :: kd::r)) (h:x∈z8l row n a b):z7i kvs (rwT 32 x)=none:=by
 rcases y2s h with ⟨i,hi,rfl⟩ | ⟨e,_,p,rfl,⟨ws,w1,w2⟩,_⟩
 ·exact x7g K hk hc row hr i hi
 ·rw [y5u K.hn.no32 K.ha.no32 K.hb.no32 p w2]
  exact x1q K (x9x ws w1)
theorem w0n {n a b kd x:Str}{r:List Str}(hn:nameOk n) (ha:nameOk a) (hb:nameOk b) (row:Str) (hr:row=Builtin.Str.glued " " (n :: "=" :: kd::r)) (hf:(∀c∈row.cps.toList,c < 128/\c≠10)/\row.length≤5000) (h:x∈z8l row n a b):Fn x:=by
 rcases y2s h with ⟨i,hi,rfl⟩ | ⟨e,_,p,rfl,_,e2,e3⟩
 ·exact w1y hn row hr hf i hi
 ·exact w1b (λ k=>(w7m hn ha hb k).f8) (BE.cps e p) e2 e3
def x6m (row n:Str):Nat->Str
 | 0=>row++Str.ofString " "
 | 1=>row++Str.ofString "\n"
 | 2=>y2m row (Str.ofString " ") (Str.ofString "\t")
 | _=>Str.ofString "out" ++ w7n n
def eo:List BE:=[.lit (Str.ofString "out"),.lit (Str.ofString "out "),.r 3,.app (.lit (Str.ofString "outs ")) (.v 0),.r 0,.app (.lit (Str.ofString "out  ")) (.v 0),.lit (Str.ofString "out zzzzzzzzz"),.lit (Str.ofString ""),.app (.lit (Str.ofString "Out ")) (.v 0),.r 1,.app (.lit (Str.ofString "out ")) (.v 2),.v 0,.lit (Str.ofString "out = in 2"),.r 2]
theorem w6m (row n:Str):bo0 row n++bo1 row n=eo.map (BE.ev (nmF n n (upS n)) (x6m row n)):=rfl
def eoW:List (List BW):=[[.lit "out"],[.lit "out",.lit ""],[.lit "outs",.nm],[.lit "out",.lit "",.nm],[.lit "out",.lit "zzzzzzzzz"],[.lit ""],[.lit "Out",.nm],[.lit "out",.be],[.nm],[.lit "out",.lit "=",.lit "in",.lit "2"]]
def v2v:List BW->Bool
 | .lit o::rest=>decide (o≠Str.ofString "out") || rest.isEmpty || rest.any λ w=>match w with | .lit s=>!(nmB s) | .be=>true | _=>false
 | _::rest=>rest.isEmpty
 | []=>true
theorem w4b:∀ws∈eoW,v2v ws=true:=by decide +kernel
theorem z7l {kvs:List (Key × V)}{o:Str}{rest:List Str}(h:o≠Str.ofString "out" \/ rest=[]\/8 < rest.length\/∃w∈rest,z2o kvs (Sum.inr w:Key)=none):z5p kvs (o::rest)=none:=by
 simp only [z5p]
 rw [if_neg]
 rintro ⟨h1,h2,h3,h4⟩
 rcases h with h | rfl | h | ⟨w,hw,e⟩
 ·exact h h1
 ·cases h2
 ·lia
 ·have:=List.all_eq_true.mp h4 w hw
  rw [e] at this;cases this
theorem w0t {kvs:List (Key × V)}(keys:∀w:Str,(z2o kvs (Sum.inr w:Key)).isSome=true->nameOk w) {w:Str}(h:¬nameOk w):z2o kvs (Sum.inr w:Key)=none:=by
 cases e:z2o kvs (Sum.inr w:Key) with
 | none=>rfl
 | some v=>exact absurd (keys w (by rw [e];rfl)) h
theorem x7r {kvs:List (Key × V)}{n a b:Str}(keys:∀w:Str,(z2o kvs (Sum.inr w:Key)).isSome=true->nameOk w) (hb:¬nameOk b) {ws:List BW}(h:v2v ws=true):z5p kvs (ws.map (BW.ev n a b))=none:=by
 match ws,h with
 | [],_=>rfl
 | w::rest,h =>
  rw [List.map_cons]
  refine z7l ?_
  cases w with
  | lit o =>
   have h:(decide (o≠Str.ofString "out") || rest.isEmpty || rest.any λ w=>match w with | .lit s=>!(nmB s) | .be=>true | _=>false)=true:=h
   rw [Bool.or_eq_true,Bool.or_eq_true] at h
   rcases h with (h | h) | h
   ·exact .inl (of_decide_eq_true h)
   ·exact .inr (.inl (by rw [List.isEmpty_iff.mp h];rfl))
   ·obtain ⟨w,hw,e⟩:=List.any_eq_true.mp h
    refine .inr (.inr (.inr ⟨_,List.mem_map.mpr ⟨w,hw,rfl⟩,w0t keys ?_⟩))
    cases w with
    | lit s=>intro z;have e:(!(nmB s))=true:=e;rw [show nmB s=true from z.nmB] at e;cases e
    | be=>exact hb
    | nm=>cases e
    | ah=>cases e
  | nm=>exact .inr (.inl (by rw [List.isEmpty_iff.mp h];rfl))
  | ah=>exact .inr (.inl (by rw [List.isEmpty_iff.mp h];rfl))
  | be=>exact .inr (.inl (by rw [List.isEmpty_iff.mp h];rfl))
def eoC (e:BE):Bool:=match e with
 | .r k=>decide (k < 4)
 | e=>e.pure && eoW.any (λ ws=>decide (z3i e.ats=ws.map BW.ats)) && e.ats.all (λ d=>match d with | .inl c=>decide (c < 128) && decide (c≠10) | .inr _=>true) && decide (e.ats.length≤100)
theorem v1g:∀e∈eo,eoC e=true:=by decide +kernel
theorem x9w {row n x:Str}(h:x∈bo0 row n++bo1 row n):(∃i,i < 4/\x=x6m row n i)\/∃e:BE,e.pure=true/\x=e.ev (nmF n n (upS n)) (x6m row n)/\(∃ws∈eoW,z3i e.ats=ws.map BW.ats)/\(e.ats.all λ d=>match d with | .inl c=>decide (c < 128) && decide (c≠10) | .inr _=>true)=true/\e.ats.length≤100:=by
 rw [w6m] at h
 obtain ⟨e,he,rfl⟩:=List.mem_map.mp h
 have ok:=v1g e he
 have key:(e.pure && eoW.any (λ ws=>decide (z3i e.ats=ws.map BW.ats)) && e.ats.all (λ d=>match d with | .inl c=>decide (c < 128) && decide (c≠10) | .inr _=>true) && decide (e.ats.length≤100))=true->∃e':BE,e'.pure=true/\e.ev (nmF n n (upS n)) (x6m row n)=e'.ev (nmF n n (upS n)) (x6m row n)/\(∃ws∈eoW,z3i e'.ats=ws.map BW.ats)/\(e'.ats.all λ d=>match d with | .inl c=>decide (c < 128) && decide (c≠10) | .inr _=>true)=true/\e'.ats.length≤100:=λ z=>by
  simp only [Bool.and_eq_true] at z
  obtain ⟨⟨⟨z1,z2⟩,z3⟩,z4⟩:=z
  obtain ⟨ws,w1,w2⟩:=List.any_eq_true.mp z2
  exact ⟨e,z1,rfl,⟨ws,w1,of_decide_eq_true w2⟩,z3,of_decide_eq_true z4⟩
 cases e with
 | r k=>exact .inl ⟨k,of_decide_eq_true ok,rfl⟩
 | lit s=>exact .inr (key ok)
 | v k=>exact .inr (key ok)
 | app x y=>exact .inr (key ok)
theorem w5a {x:Str}(h:nameOk x):¬nameOk (upS x):=λ z=>by
 obtain ⟨c,N,e,c1,c2⟩:=h.ex
 have:=z.2.2 (c - 32) (by rw [y4i h,e];exact List.mem_cons_self)
 lia
theorem y8n {x:Str}(h:nameOk x):(∀c∈(upS x).cps.toList,c < 128/\c≠10/\c≠32)/\(upS x).length≤8:=by
 refine ⟨λ c hc=>?_,by rw [← z1u,y4i h,List.length_map];exact h.2.1⟩
 rw [y4i h] at hc
 obtain ⟨d,hd,rfl⟩:=List.mem_map.mp hc
 have:=h.2.2 d hd
 lia
theorem y1b:(Str.ofString "out").cps.toList=[111,117,116]:=by decide +kernel
theorem w0r:(Str.ofString "\n").cps.toList=[10]:=by decide +kernel
theorem y7f {n:Str}{o:Str}{os:List Str}(row:Str) (hr:row=Builtin.Str.glued " " ("out" :: o::os)) :
  row.cps.toList=[111,117,116]++32::z2y o os/\(x6m row n 0).cps.toList=([111,117,116]++32::z2y o os)++32::[]/\(x6m row n 2).cps.toList=[111,117,116,9]++z2y o os/\(x6m row n 3).cps.toList=z5l 32 ([111,117,116]::List.replicate 9 n.cps.toList):=by
 have L:row.cps.toList=[111,117,116]++32::z2y o os:=by
  rw [hr,y7w]
  show ("out" : Str).cps.toList++32::z2y o os=_
  rw [show ("out" : Str).cps.toList=[111,117,116] from y1b]
 refine ⟨L,?_,?_,?_⟩
 ·show (row++Str.ofString " ").cps.toList=_;rw [z3w,L,y6e]
 ·show (y2m row (Str.ofString " ") (Str.ofString "\t")).cps.toList=_;rw [w1t,y0x L (by decide),x0o];rfl
 ·show (Str.ofString "out" ++ w7n n).cps.toList=_
  rw [z3w,y1b]
  have s1:z7w n=32::n.cps.toList:=by unfold z7w;rw [show (Str.ofString " " ++ n)=(Str.ofString " " ++ n) from rfl,z3w,y6e];rfl
  show [111,117,116]++[z7w n,z7w n,z7w n,z7w n,z7w n,z7w n,z7w n,z7w n,z7w n].flatten=_
  rw [s1]
  simp [z5l,List.replicate]
theorem w0z {kvs:List (Key × V)}{n o x:Str}{os:List Str}(keys:∀w:Str,(z2o kvs (Sum.inr w:Key)).isSome=true->nameOk w) (hn:nameOk n) (hos:∀w∈o::os,nameOk w) (row:Str) (hr:row=Builtin.Str.glued " " ("out" :: o::os)) (hf:(∀c∈row.cps.toList,c < 128/\c≠10)/\row.length≤5000) (h:x∈bo0 row n++bo1 row n) :
  (∀c∈x.cps.toList,c < 128)/\x.length≤5100/\(x=row++Str.ofString "\n" \/ ((∀c∈x.cps.toList,c≠10)/\z5p kvs (rwT 32 x)=none)):=by
 obtain ⟨L,h0,h2,h3⟩:=y7f (n:=n) row hr
 have e0:¬nameOk (z1p []):=λ z=>by have:=z.1;exact absurd this (by decide)
 rcases x9w h with ⟨i,hi,rfl⟩ | ⟨e,p,rfl,⟨ws,w1,w2⟩,e2,e3⟩
 ·obtain ⟨f1,f2⟩:=hf
  rw [← z1u] at f2
  rw [L] at f1 f2
  have fm:∀c∈z2y o os,c < 128/\c≠10:=λ c hc=>f1 c (by simp [hc])
  simp only [List.length_append,List.length_cons,List.length_nil] at f2
  have key:∀ {x:Str}{l:List Nat},x.cps.toList=l->(∀c∈l,c < 128/\c≠10)->l.length≤5100->z5p kvs (rwT 32 x)=none->(∀c∈x.cps.toList,c < 128)/\x.length≤5100/\(x=row++Str.ofString "\n" \/ ((∀c∈x.cps.toList,c≠10)/\z5p kvs (rwT 32 x)=none)):=λ {x l} e a b c=>by
   subst e
   exact ⟨λ d hd=>(a d hd).1,by rw [← z1u];exact b,.inr ⟨λ d hd=>(a d hd).2,c⟩⟩
  match i,hi with
  | 0,_ =>
   refine key h0 (by intro d hd;simp only [List.mem_append,List.mem_cons,List.not_mem_nil,or_false] at hd;rcases hd with ((rfl | rfl | rfl) | rfl | h) | rfl<;>first | decide | exact fm d h) (by simp only [List.length_append,List.length_cons,List.length_nil];lia) ?_
   unfold rwT
   rw [h0,z3z,z2g 32 _ _ (by decide),List.map_append,List.map_cons,List.cons_append]
   exact z7l (.inr (.inr (.inr ⟨z1p [],List.mem_append_right _ List.mem_cons_self,w0t keys e0⟩)))
  | 1,_ =>
   have e1:(x6m row n 1).cps.toList=row.cps.toList++[10]:=by show (row++Str.ofString "\n").cps.toList=_;rw [z3w,w0r]
   refine ⟨λ c hc=>?_,by rw [← z1u,e1,L];simp only [List.length_append,List.length_cons,List.length_nil];lia,.inl rfl⟩
   rw [e1] at hc
   rcases List.mem_append.mp hc with hc | hc
   ·rw [L] at hc;exact (f1 c hc).1
   ·cases List.mem_singleton.mp hc;decide
  | 2,_ =>
   refine key h2 (by intro d hd;simp only [List.mem_append,List.mem_cons,List.not_mem_nil,or_false] at hd;rcases hd with (rfl | rfl | rfl | rfl) | h<;>first | decide | exact fm d h) (by simp only [List.length_append,List.length_cons,List.length_nil];lia) ?_
   unfold rwT
   rw [h2,z7y 32 _ _ (by decide),List.map_cons]
   refine z7l (.inl λ z=>?_)
   have:=congrArg (λ s:Str=>s.cps.toList) z
   simp only [y1b] at this
   rw [y8e] at this
   cases this
  | 3,_ =>
   have n8:=hn.2.1
   refine key h3 (by
    intro d hd
    simp only [z5l,List.replicate,List.mem_append,List.mem_cons,List.not_mem_nil,or_false] at hd
    have fn:=λ z=>hn.f8.1 d z
    by_cases dn:d∈n.cps.toList
    ·exact fn dn
    ·simp only [dn,false_or,or_false,or_self] at hd
     rcases hd with (rfl | rfl | rfl) | rfl<;>decide) (by simp only [z5l,List.replicate,List.length_append,List.length_cons,List.length_nil];lia) ?_
   unfold rwT
   rw [h3,z5d 32 _ (by simp) (λ w hw=>by
    rcases List.mem_cons.mp hw with rfl | hw
    ·decide
    ·rw [(List.mem_replicate.mp hw).2];exact hn.no32),List.map_cons]
   exact z7l (.inr (.inr (.inl (by simp))))
 ·have f8:∀k,(∀c∈(nmF n n (upS n) k).cps.toList,c < 128/\c≠10)/\(nmF n n (upS n) k).length≤8
   | 0=>hn.f8
   | 1=>hn.f8
   | _+2=>⟨λ c hc=>⟨((y8n hn).1 c hc).1,((y8n hn).1 c hc).2.1⟩,(y8n hn).2⟩
  obtain ⟨a1,a2⟩:=w1b f8 (BE.cps (g:=x6m row n) e p) e2 e3
  refine ⟨λ c hc=>(a1 c hc).1,a2,.inr ⟨λ c hc=>(a1 c hc).2,?_⟩⟩
  rw [y5u hn.no32 hn.no32 (λ m=>((y8n hn).1 _ m).2.2 rfl) p w2]
  exact x7r keys (w5a hn) (w4b ws w1)
theorem v0h {c:Nat}{x:Str}(h:∀d∈x.cps.toList,d≠c):rwT c x=[x]:=by
 unfold rwT
 rw [z4p c _ (λ m=>h c m rfl)]
 exact congrArg (λ y=>[y]) (z7g x)
theorem z8j {ws:List Str}(h:ws≠[]/\∀w∈ws,clean w):rwT 32 (Builtin.Str.glued " " ws)=ws:=by rw [x6w];exact y6f h.1 λ w hw m=>(h.2 w hw 32 m).1 rfl
theorem x4v {f:Str->List Str}:∀ {l:List Str},(∀r∈l,f r=[r])->l.flatMap f=l
 | [],_=>rfl
 | r::l,h=>by rw [List.flatMap_cons,h r List.mem_cons_self,x4v λ z hz=>h z (List.mem_cons_of_mem _ hz)];rfl
theorem x6t {R1:List Str}{k:Nat}{x:Str}(hx:R1[k]?=some x):rwT 10 (Builtin.Str.glued "\n" R1)=(R1.take k).flatMap (rwT 10)++(rwT 10 x++(R1.drop (k+1)).flatMap (rwT 10)):=by
 have kl:=(List.getElem?_eq_some_iff.mp hx).1
 rw [x8c,w1u (λ z=>by rw [z] at kl;cases kl)]
 conv=>lhs;rw [← List.take_append_drop k R1,List.drop_eq_getElem_cons kl,(List.getElem?_eq_some_iff.mp hx).2]
 rw [List.flatMap_append,List.flatMap_cons]
theorem z3d {ds:List Sd}{os:List Nat}{nm:List Str}{k:Nat}{ws:List Str}(h:(y1u ds os nm)[k]?=some ws):(z2j ds os nm)[k]?=some (Builtin.Str.glued " " ws):=by rw [z5c,List.getElem?_map,h];rfl
theorem y4x {ds:List Sd}{os:List Nat}{nm:List Str}{k:Nat}{ws:List Str}(G:Gd ds os nm) (tl:∀r∈z2j ds os nm,r.length≤5000) (h:(y1u ds os nm)[k]?=some ws):(ws≠[]/\∀w∈ws,clean w)/\(∀c∈(Builtin.Str.glued " " ws).cps.toList,c < 128/\c≠10)/\(Builtin.Str.glued " " ws).length≤5000:=by
 have m:=List.mem_of_getElem? h
 have cl:=y4d G.g G.nl G.dk G.od G.ob ws m
 have lo:=w4l G.g G.nl G.dk G.od G.ob ws m
 refine ⟨cl,λ c hc=>?_,tl _ (List.mem_of_getElem? (z3d h))⟩
 rw [x6w] at hc
 rcases y3p hc with rfl | ⟨w,hw,m⟩
 ·decide
 ·exact ⟨lo w hw c m,(cl.2 w hw c m).2⟩
theorem z6v {l:List Str}{k:Nat}{x:Str}(h:l[k]?=some x):l.getD k ""=x:=by rw [List.getD_eq_getElem?_getD,h];rfl
theorem x2r {ds:List Sd}{os:List Nat}{nm:List Str}(G:Gd ds os nm):∃(o:Str) (r:List Str),x6l os nm=("out" : Str)::o::r/\∀w∈o::r,nameOk w:=by
 have o1:=G.o1
 have nl:=G.nl
 have all:∀w∈z4t os nm,nameOk w:=λ w hw=>by
  obtain ⟨o,ho,rfl⟩:=List.mem_map.mp hw
  exact z1n G.g (by have:=G.ob o ho;lia)
 cases os with
 | nil=>cases o1
 | cons o os=>exact ⟨_,_,rfl,all⟩
theorem w1s {ds:List Sd}{os:List Nat}{nm R1:List Str}{k:Nat}{x:Str}(G:Gd ds os nm) (tl:∀r∈z2j ds os nm,r.length≤5000) (k40:k < ds.length->k < 40) (e40:k=ds.length->k≤40) (h:Spo (z2j ds os nm) nm k x) (r1:R1.length=ds.length+1) (r2:∀j,j < k->R1[j]?=(z2j ds os nm)[j]?) (r3:R1[k]?=some x) :
  z9j (z2m (Builtin.Str.glued "\n" R1)) k:=by
 have kl:=(List.getElem?_eq_some_iff.mp r3).1
 have nl:=G.nl
 have tn:(z2j ds os nm).length=ds.length+1:=by rw [z5c,List.length_map,y1r]
 have tkl:(R1.take k).length=k:=by rw [List.length_take];lia
 have good:∀j,j < k->R1[j]?=some (Builtin.Str.glued " " (y9d ds nm j)):=λ j hj=>by rw [r2 j hj];exact z3d (z5a (by lia))
 have tk:(R1.take k).flatMap (rwT 10)=R1.take k:=x4v λ r hr=>by
  obtain ⟨j,hj⟩:=List.getElem?_of_mem hr
  have jl:=(List.getElem?_eq_some_iff.mp hj).1
  rw [tkl] at jl
  rw [List.getElem?_take_of_lt jl,good j jl] at hj
  cases hj
  exact v0h λ d hd=>((y4x G tl (z5a (by lia))).2.1 d hd).2
 obtain ⟨Z,hZ⟩:∃Z,Z=(R1.drop (k+1)).flatMap (rwT 10):=⟨_,rfl⟩
 have hW0:z2m (Builtin.Str.glued "\n" R1)=(R1.take k++(rwT 10 x++Z)).map (rwT 32):=by rw [x1n,x6t r3,tk,hZ]
 rw [hW0]
 have hW:∀j,j < k->((R1.take k++(rwT 10 x++Z)).map (rwT 32))[j]?=some (y9d ds nm j):=λ j hj=>by
  rw [List.getElem?_map,List.getElem?_append_left (by lia),List.getElem?_take_of_lt hj,good j hj]
  exact congrArg some (z8j (y4x G tl (os:=os) (z5a (by lia))).1)
 obtain ⟨s,hs⟩:=y5a G k (by rcases Nat.lt_or_ge k ds.length with z | z;exact Nat.le_of_lt (k40 z);exact e40 (by lia)) (by lia) hW
 have keys:∀w:Str,(z2o s.1 (Sum.inr w:Key)).isSome=true->nameOk w:=λ w hw=>by
  obtain ⟨v,e⟩:=Option.isSome_iff_exists.mp hw
  obtain ⟨u,hu,rfl⟩:=(x4c G (by lia) hW hs).1 w v e
  exact z1n G.g (by lia)
 have at1:∀y Y,rwT 10 x=y::Y->((R1.take k++(rwT 10 x++Z)).map (rwT 32))[k]?=some (rwT 32 y):=λ y Y e=>by
  rw [List.getElem?_map,List.getElem?_append_right (by lia),tkl,Nat.sub_self,e];rfl
 have stop:∀r,((R1.take k++(rwT 10 x++Z)).map (rwT 32))[k]?=some r->z7i s.1 r=none->rdS ((R1.take k++(rwT 10 x++Z)).map (rwT 32)) (k+1)=none:=λ r e1 e2=>by
  rw [rdS,hs,Option.bind_some,e1,Option.bind_some,e2]
  split<;>rfl
 rcases h with ⟨kR,j,jn,hx⟩ | ⟨kR,hh⟩
 ·have ke:k=ds.length:=by lia
  have hZ0:Z=[]:=by rw [hZ,List.drop_eq_nil_of_le (by lia)];rfl
  have ew:(y1u ds os nm)[k]?=some (x6l os nm):=by rw [ke];exact y1s ds os nm
  obtain ⟨f1,f2⟩:=y4x G tl ew
  rw [z6v (z3d ew)] at hx
  obtain ⟨o,r,eo',ho⟩:=x2r G
  obtain ⟨_,_,hb⟩:=w0z keys (z1n G.g (by lia)) ho _ (by rw [eo']) f2 hx
  rcases hb with rfl | ⟨n10,bad⟩
  ·have e2:rwT 10 (Builtin.Str.glued " " (x6l os nm)++Str.ofString "\n")=[Builtin.Str.glued " " (x6l os nm),z1p []]:=by
    unfold rwT
    rw [z3w,w0r,z3z,z4p 10 _ (λ m=>(f2.1 10 m).2 rfl),List.map_append,List.map_cons,List.map_nil,z7g];rfl
   refine .inl ⟨?_,⟨s,hs⟩,stop _ (at1 _ _ e2) ?_⟩
   ·rw [List.length_map,List.length_append,tkl,e2];simp
   ·rw [z8j f1,eo']
    exact z8k (ho o List.mem_cons_self).ne_eq
  ·have e2:=v0h n10
   refine .inr ⟨?_,s,hs,?_⟩
   ·rw [List.length_map,List.length_append,tkl,e2,hZ0];simp
   ·rw [e2,hZ0,List.append_nil,List.map_append,List.map_cons,List.map_nil,x8m];exact bad
 ·have kd:k < ds.length:=by lia
  have ew:(y1u ds os nm)[k]?=some (y9d ds nm k):=z5a kd
  obtain ⟨f1,f2⟩:=y4x G tl ew
  have gi:ds[k]?=some (ds.getD k ⟨0,0,0,0,0⟩):=by rw [List.getD_eq_getElem?_getD,List.getElem?_eq_getElem kd];rfl
  have hd:=(G.dk _ (List.mem_of_getElem? gi)).1
  have hc:∀w∈z0h (ds.getD k ⟨0,0,0,0,0⟩).kd::z2p (ds.getD k ⟨0,0,0,0,0⟩) nm,clean w:=λ w hw=>f1.2 w (List.mem_cons_of_mem _ (List.mem_cons_of_mem _ hw))
  rw [z6v (z3d ew)] at hh
  obtain ⟨bad,n10⟩:z7i s.1 (rwT 32 x)=none/\∀c∈x.cps.toList,c≠10:=by
   rcases hh with ⟨k0,j,jk,rfl⟩ | ⟨j,jk,hx⟩
   ·have hm:=z1n G.g (show j < nm.length by lia)
    obtain ⟨v,e⟩:=(x4c G (by lia) hW hs).2 j jk
    exact ⟨w2w hm (by rw [e];rfl) _ rfl,λ c hc'=>((w0q hm _ rfl f2).1 c hc').2⟩
   ·have jn:j < ds.length:=by lia
    exact ⟨w2g (v0y G kd jn hW hs) (z9x ⟨_,hd⟩).2 hc _ rfl hx,λ c hc'=>((w0n (z1n G.g (by lia)) (z1n G.g (by lia)) (z1n G.g (by lia)) _ rfl f2 hx).1 c hc').2⟩
  have e2:=v0h n10
  refine .inl ⟨?_,⟨s,hs⟩,stop _ (at1 _ _ e2) bad⟩
  have z1:1≤Z.length:=by
   rw [hZ,List.drop_eq_getElem_cons (show k+1 < R1.length by lia),List.flatMap_cons,List.length_append]
   have:1≤(rwT 10 (R1[k+1]'(by lia))).length:=by unfold rwT;rw [List.length_map];exact List.length_pos_iff.mpr (z6h _ _)
   lia
  rw [List.length_map,List.length_append,List.length_append,tkl,e2,List.length_singleton]
  lia
theorem x0w {ds:List Sd}{os:List Nat}{nm:List Str}{k:Nat}{x:Str}(G:Gd ds os nm) (tl:∀r∈z2j ds os nm,r.length≤5000) (h:Spo (z2j ds os nm) nm k x):(∀c∈x.cps.toList,c < 128)/\x.length≤5100:=by
 have nl:=G.nl
 have tn:(z2j ds os nm).length=ds.length+1:=by rw [z5c,List.length_map,y1r]
 rcases h with ⟨kR,j,jn,hx⟩ | ⟨kR,hh⟩
 ·have ke:k=ds.length:=by lia
  have ew:(y1u ds os nm)[k]?=some (x6l os nm):=by rw [ke];exact y1s ds os nm
  obtain ⟨f1,f2⟩:=y4x G tl ew
  rw [z6v (z3d ew)] at hx
  obtain ⟨o,r,eo',ho⟩:=x2r G
  obtain ⟨a,b,_⟩:=w0z (kvs:=[]) (λ w hw=>by cases hw) (z1n G.g (by lia)) ho _ (by rw [eo']) f2 hx
  exact ⟨a,b⟩
 ·have kd:k < ds.length:=by lia
  have ew:(y1u ds os nm)[k]?=some (y9d ds nm k):=z5a kd
  obtain ⟨f1,f2⟩:=y4x G tl ew
  rw [z6v (z3d ew)] at hh
  have fin:Fn x:=by
   rcases hh with ⟨k0,j,jk,rfl⟩ | ⟨j,jk,hx⟩
   ·exact w0q (z1n G.g (show j < nm.length by lia)) _ rfl f2
   ·exact w0n (z1n G.g (by lia)) (z1n G.g (by lia)) (z1n G.g (by lia)) _ rfl f2 hx
  exact ⟨λ c hc=>(fin.1 c hc).1,fin.2⟩
theorem x1o {R1:List Str}(h:∀r∈R1,(∀c∈r.cps.toList,c < 128)/\r.length≤5100) (l:R1.length≤45):y0c "\n" R1≤4000000/\w7p (Builtin.Str.glued "\n" R1):=by
 have one:("\n" : Str).length=1:=by decide +kernel
 have t:=z9n (z := "\n") (ys:=R1) (k:=5100) λ r hr=>(h r hr).2
 rw [one] at t
 have:(5100+1) * R1.length≤5101 * 45:=Nat.mul_le_mul_left _ l
 rw [x8c] at t ⊢
 obtain ⟨a,b⟩:=x3u (c:=10) (ws:=R1) (by decide) (show _≤229545 by lia) λ w hw=>(h w hw).1
 exact ⟨by lia,by lia,b⟩
theorem w0b {ds:List Sd}{os:List Nat}{nm:List Str}(G:Gd ds os nm) (tl:∀r∈z2j ds os nm,r.length≤5000):∀r∈z2j ds os nm,(∀c∈r.cps.toList,c < 128/\c≠10)/\r.length≤5100:=λ r hr=>by
 obtain ⟨j,hj⟩:=List.getElem?_of_mem hr
 have jl:=(List.getElem?_eq_some_iff.mp hj).1
 rw [z5c,List.length_map] at jl
 have e:=z3d (List.getElem?_eq_getElem jl)
 rw [hj] at e
 cases e
 obtain ⟨_,f1,f2⟩:=y4x G tl (List.getElem?_eq_getElem jl)
 exact ⟨f1,by lia⟩
theorem x8k {ds:List Sd}{os:List Nat}{nm:List Str}(G:Gd ds os nm) (tl:∀r∈z2j ds os nm,r.length≤5000) (h:40 < ds.length):z9j (z2m (Builtin.Str.glued "\n" (z2j ds os nm))) 40:=by
 have e:z2m (Builtin.Str.glued "\n" (z2j ds os nm))=y1u ds os nm:=by
  rw [x1n,x8c,y6f (by unfold z2j;simp) (λ w hw m=>((w0b G tl w hw).1 10 m).2 rfl),z5c,List.map_map]
  conv=>rhs;rw [← List.map_id (y1u ds os nm)]
  exact List.map_congr_left λ ws hw=>z8j (y4d G.g G.nl G.dk G.od G.ob ws hw)
 rw [e]
 obtain ⟨s,hs⟩:=y5a G 40 (Nat.le_refl _) (by lia) (λ j hj=>z5a (os:=os) (show j < ds.length by lia))
 exact .inl ⟨by rw [y1r];lia,⟨s,hs⟩,by rw [rdS,hs,Option.bind_some,z5a (by lia),Option.bind_some,if_neg (by decide)]⟩
theorem w4d (ws:List Str) (k:Nat):z9h (ws.map V.str) none (some (k:Int))=(ws.take k).map V.str:=by
 unfold z9h
 simp only [HT.sIx,List.drop_zero,Nat.sub_zero,List.length_map]
 rw [if_neg (by lia),List.map_take,Int.toNat_natCast,Nat.min_def]
 split
 ·rfl
 ·rw [List.take_of_length_le (by rw [List.length_map];lia),List.take_of_length_le (by rw [List.length_map];lia)]
theorem w4e (ws:List Str) (k:Nat):z9h (ws.map V.str) (some (k:Int)) none=(ws.drop k).map V.str:=by
 unfold z9h
 simp only [HT.sIx,List.length_map]
 rw [if_neg (by lia),List.map_drop,Int.toNat_natCast,List.take_of_length_le (by rw [List.length_drop,List.length_map];lia),Nat.min_def]
 split
 ·rfl
 ·rw [List.drop_eq_nil_of_le (by rw [List.length_map];lia),List.drop_eq_nil_of_le (by rw [List.length_map];lia)]
theorem y5y {row:Str}{c:Nat}{L:List Nat}(h:row.cps.toList=c::L) (c1:97≤c) (c2:c≤122):okS 1000 (upS (Txt.slice row none (some 1))):=by
 have l1:1≤row.length:=by rw [← z1u,h];simp
 have h1:=y2g l1
 rw [h] at h1
 have h1:(Txt.slice row none (some 1)).cps.toList=[c]:=h1
 have:=x0j [c] (λ d hd=>by cases List.mem_singleton.mp hd;exact ⟨c1,c2⟩)
 rw [← z2f h1] at this
 have this:(upS (Txt.slice row none (some 1))).cps.toList=[c - 32]:=this
 refine ⟨by rw [← z1u,this];exact (by decide:1≤1000),λ d hd=>?_⟩
 rw [this] at hd
 cases List.mem_singleton.mp hd
 lia
theorem w0i {ds:List Sd}{os:List Nat}{nm:List Str}(G:Gd ds os nm) {k:Nat}(h:k < ds.length+1):okS 1000 (upS (Txt.slice ((z2j ds os nm).getD k "") none (some 1))):=by
 have nl:=G.nl
 rcases Nat.lt_or_ge k ds.length with z | z
 ·rw [z6v (z3d (z5a z))]
  obtain ⟨c,N,e,c1,c2⟩:=(z1n G.g (show k < nm.length by lia)).ex
  have L:=z6p (nm.getD k "") (z0h (ds.getD k ⟨0,0,0,0,0⟩).kd) (z2p (ds.getD k ⟨0,0,0,0,0⟩) nm)
  rw [e] at L
  exact y5y L c1 c2
 ·have:k=ds.length:=by lia
  subst this
  rw [z6v (z3d (y1s ds os nm))]
  obtain ⟨o,r,eo',_⟩:=x2r G
  have L:=(y7f (n:=o) (Builtin.Str.glued " " (x6l os nm)) (by rw [eo'])).1
  exact y5y L (by decide) (by decide)
theorem x3o {nm:List Str}(g:z4n nm):∀x∈nm,x.length≤8/\okS 1000 (upS x):=λ x hx=>⟨(g.1 x hx).len,Nat.le_trans (y8n (g.1 x hx)).2 (by decide),λ c hc=>by have:=((y8n (g.1 x hx)).1 c hc).1;lia⟩
theorem w5t {R R' nm:List Str}{k:Nat}{x:Str}(l:R'.length=R.length) (e:R'.getD k ""=R.getD k "") (h:Spo R' nm k x):Spo R nm k x:=by
 unfold Spo at h ⊢
 rw [l,e] at h
 exact h
theorem if3 {c1 c2 c3 A B:Prop} [Decidable c1] [Decidable c2] [Decidable c3] (h1:c1/\(c2\/c3)->A) (h2:¬(c1/\(c2\/c3))->B):if c1 then (if c2 then A else if c3 then A else B) else B:=by
 split
 ·rename_i a
  split
  ·rename_i b;exact h1 ⟨a,.inl b⟩
  ·rename_i b
   split
   ·rename_i d;exact h1 ⟨a,.inr d⟩
   ·rename_i d;exact h2 λ z=>z.2.elim b d
 ·rename_i a;exact h2 λ z=>a z.1
theorem SdAt.tups {H H':Hp}(s:∀a xs,H a=some (.tup xs)->H' a=some (.tup xs)) {d:Sd}{a:Addr}(h:SdAt H d a):SdAt H' d a:=let ⟨ra,h1,h2⟩:=h;⟨ra,s _ _ h1,s _ _ h2⟩
theorem ProgAt.tups {H H':Hp}{p:Addr}{ds:List Sd}{os:List Nat}(h:ProgAt H p ds os) (s:∀a xs,H a=some (.tup xs)->H' a=some (.tup xs)):ProgAt H' p ds os:=by
 obtain ⟨st,ou,as,h1,h2,h3,h4,h5⟩:=h
 exact ⟨st,ou,as,s _ _ h1,s _ _ h2,⟨h3.1,λ i d e=>let ⟨a,e1,l⟩:=h3.2 i d e;⟨a,e1,l.tups s⟩⟩,s _ _ h4,h5⟩
theorem x0z {R:List Str}{k:Nat}{x:Str}{P:Str->Prop}(h:∀r∈R,P r) (hx:P x):∀r∈R.set k x,P r:=λ r hr=>by
 rcases List.mem_or_eq_of_mem_set hr with hr | rfl
 ·exact h r hr
 ·exact hx
abbrev z8i:Stmt:=top 27
def z4b:Sp:=λ vs H Q _=>∃(x sg:Str) (most:Int),vs=[.str x,.str sg,.int most]/\x8j x/\((sg="0123456789" /\ ∀H',Same H H'->Q (.bl (y1k x.cps.toList most)) H')\/(sg="abcdefghijklmnopqrstuvwxyz" /\ ∀H',Same H H'->Q (.bl (x3t x.cps.toList most)) H'))
theorem y9c:FnScope ["word","signs","most"] ["word","signs","most"] (z0m z8i):=⟨rfl,rfl,rfl,by decide +kernel,rfl,by decide +kernel,by decide +kernel⟩
theorem y9n (F:Fun K "is_made_of" "is_made_of" z8i f fd) (zlen:mg "len"=none) (zall:mg "all"=none):FnOk P w K mg base CX0 (1) f fd ["word","signs","most"] (z4b):=by
 have sc:=y9c
 refine F.ok sc (λ vs H Q E h=>?_) (λ cdv A outer s H vs Q E hr h=>?_)
 ·obtain ⟨x,sg,most,rfl,_⟩:=h;rfl
 obtain ⟨x,sg,most,rfl,hx,hq⟩:=h
 refine ⟨_,(z0k (z0p (y7e (x7o y9g y9g z0g (z0w z4z (by rfl) zlen PySem.boot_len (z0a (pv 0) z0e)) (pv 2)) (y7c (z0w (x6a rfl) (by rfl) zall boot_all (z0a (z6r (own:=["sign"]) (fv:=["signs"]) (js:=[1]) rfl (w6x (pv 0)) rfl (by decide) rfl (by decide) (by first | exact λ _ _ h=>h | exact z4y rfl | exact z4x rfl rfl | exact z4w rfl rfl rfl) (z7d (by rfl)) rfl (w9a (by first | exact ⟨rfl,.inl rfl,.inl rfl⟩ | exact ⟨rfl,.inl rfl,.inr rfl⟩)) (λ _ _ _ _=>(z2a (i:=0) (show (["sign","signs"]:List Str).Nodup by decide +kernel) rfl (Or.inl rfl))) (λ _ _ _ _=>(x2n x2v (pv 0) (pv 1) rfl))) z0e)))))),?_⟩
 rcases hq with ⟨rfl,q⟩ | ⟨rfl,q⟩
 ·wp_walk using z1b,z1c,tyS,inV,eqV
  have xl:x.length=x.cps.toList.length:=Array.length_toList.symm
  have xs:=hx.1
  have e0:x.cps.toList.length≤4000000:=by rw [Array.length_toList];exact xs
  rw [xl]
  unfold y1k at q
  refine ⟨Nat.le_of_lt (w4i (by lia)),?_⟩
  by_cases c1:(1:Int)≤(x.cps.toList.length:Nat)
  ·rw [if_pos c1]
   rw [decide_eq_true c1,Bool.true_and] at q
   by_cases c2:((x.cps.toList.length:Nat):Int)≤most
   ·rw [if_pos c2]
    rw [decide_eq_true c2,Bool.true_and] at q
    refine CompX.mk (λ i ys σ H'=>H'=H/\ys=((x.cps.toList.take i).map y8d).map V.bl/\∃y,σ=[y,some (.str (Str.ofString "0123456789"))]) ⟨rfl,rfl,_,rfl⟩ (λ i c ys σ H' e h=>?_) (λ ys σ H' h p hp=>?_)
    ·obtain ⟨rfl,rfl,y,rfl⟩:=h
     have e':x.cps.toList[i]?=some c:=by rw [Array.getElem?_toList];exact e
     have cl:=hx.2 c (List.mem_of_getElem? e')
     have fi:=w8q ⟨c,cl⟩
     simp only at fi
     have e1:((x.cps.toList.take (i+1)).map y8d).map V.bl=((x.cps.toList.take i).map y8d).map V.bl++[V.bl (y8d c)]:=by
      rw [List.take_add_one,e',List.map_append,List.map_append];rfl
     have sm:(((x.cps.toList.take i).map y8d).map V.bl).length < sizeLine:=by rw [List.length_map,List.length_map,List.length_take];exact w4i (by lia)
     wp_walk using z1b,z1c,tyS,inV,eqV,e1,fi
     exact ⟨sm,_,rfl⟩
    ·obtain ⟨rfl,rfl,y,rfl⟩:=h
     rw [← Array.length_toList,List.take_length]
     refine ⟨p,rfl,_,.of z0d,?_⟩
     rw [List.all_map,show (id ∘ y8d)=y8d from rfl]
     exact q _ (z0b hp _)
   ·rw [if_neg c2]
    rw [decide_eq_false c2,Bool.false_and] at q
    exact q _ (Same.refl _)
  ·rw [if_neg c1]
   rw [decide_eq_false c1,Bool.false_and] at q
   exact q _ (Same.refl _)
 ·wp_walk using z1b,z1c,tyS,inV,eqV
  have xl:x.length=x.cps.toList.length:=Array.length_toList.symm
  have xs:=hx.1
  have e0:x.cps.toList.length≤4000000:=by rw [Array.length_toList];exact xs
  rw [xl]
  unfold x3t at q
  refine ⟨Nat.le_of_lt (w4i (by lia)),?_⟩
  by_cases c1:(1:Int)≤(x.cps.toList.length:Nat)
  ·rw [if_pos c1]
   rw [decide_eq_true c1,Bool.true_and] at q
   by_cases c2:((x.cps.toList.length:Nat):Int)≤most
   ·rw [if_pos c2]
    rw [decide_eq_true c2,Bool.true_and] at q
    refine CompX.mk (λ i ys σ H'=>H'=H/\ys=((x.cps.toList.take i).map x6h).map V.bl/\∃y,σ=[y,some (.str (Str.ofString "abcdefghijklmnopqrstuvwxyz"))]) ⟨rfl,rfl,_,rfl⟩ (λ i c ys σ H' e h=>?_) (λ ys σ H' h p hp=>?_)
    ·obtain ⟨rfl,rfl,y,rfl⟩:=h
     have e':x.cps.toList[i]?=some c:=by rw [Array.getElem?_toList];exact e
     have cl:=hx.2 c (List.mem_of_getElem? e')
     have fi:=w9c ⟨c,cl⟩
     simp only at fi
     have e1:((x.cps.toList.take (i+1)).map x6h).map V.bl=((x.cps.toList.take i).map x6h).map V.bl++[V.bl (x6h c)]:=by
      rw [List.take_add_one,e',List.map_append,List.map_append];rfl
     have sm:(((x.cps.toList.take i).map x6h).map V.bl).length < sizeLine:=by rw [List.length_map,List.length_map,List.length_take];exact w4i (by lia)
     wp_walk using z1b,z1c,tyS,inV,eqV,e1,fi
     exact ⟨sm,_,rfl⟩
    ·obtain ⟨rfl,rfl,y,rfl⟩:=h
     rw [← Array.length_toList,List.take_length]
     refine ⟨p,rfl,_,.of z0d,?_⟩
     rw [List.all_map,show (id ∘ x6h)=x6h from rfl]
     exact q _ (z0b hp _)
   ·rw [if_neg c2]
    rw [decide_eq_false c2,Bool.false_and] at q
    exact q _ (Same.refl _)
  ·rw [if_neg c1]
   rw [decide_eq_false c1,Bool.false_and] at q
   exact q _ (Same.refl _)
abbrev y4s:Stmt:=top 28
def z5v:Sp:=λ vs H Q _=>∃x:Str,vs=[.str x]/\x8j x/\∀H',Same H H'->Q (.bl (nmB x)) H'
theorem x7b:FnScope ["word"] ["word"] (z0m y4s):=⟨rfl,rfl,rfl,by decide +kernel,rfl,by decide +kernel,by decide +kernel⟩
theorem x7x (F:Fun K "is_name" "is_name" y4s f fd) (cismadeof:Callee P w K mg base CX0 (1) "is_made_of" ["word","signs","most"] z4b) {tLETTERS:Tok}(gLETTERS:mg "LETTERS"=some (.str "abcdefghijklmnopqrstuvwxyz" tLETTERS)) {tMOST_LETTERS:Tok}(gMOST_LETTERS:mg "MOST_LETTERS"=some (.int 8 tMOST_LETTERS)):FnOk P w K mg base CX0 (2) f fd ["word"] (z5v):=by
 have sc:=x7b
 refine F.ok sc (λ vs H Q E h=>?_) (λ cdv A outer s H vs Q E hr h=>?_)
 ·obtain ⟨x,rfl,_⟩:=h;rfl
 obtain ⟨x,rfl,hx,q⟩:=h
 refine ⟨_,(z0k (z0p (z0u cismadeof hr (by rfl) z1g (z0a (pv 0) (z0a (z4s (v:=.str "abcdefghijklmnopqrstuvwxyz") (by rfl) gLETTERS ⟨_,rfl⟩) (z0a (z4s (v:=.int 8) (by rfl) gMOST_LETTERS ⟨_,rfl⟩) z0e)))))),?_⟩
 wp_walk using z1b,z1c,tyS,inV,eqV,z4b
 exact ⟨hx,.inr q⟩
abbrev z6o:Stmt:=top 29
def z3j:Sp:=λ vs H Q _=>∃(x:Str) (most:Int),vs=[.str x,.int most]/\x8j x/\most≤19/\∀H',Same H H'->Q (y7g (z4o x.cps.toList most)) H'
theorem y4w:FnScope ["word","most"] ["word","most"] (z0m z6o):=⟨rfl,rfl,rfl,by decide +kernel,rfl,by decide +kernel,by decide +kernel⟩
theorem y5j (F:Fun K "figures_of" "figures_of" z6o f fd) (cismadeof:Callee P w K mg base CX0 (1) "is_made_of" ["word","signs","most"] z4b) (zlen:mg "len"=none) (zint:mg "int"=none) {tFIGURES:Tok}(gFIGURES:mg "FIGURES"=some (.str "0123456789" tFIGURES)):FnOk P w K mg base CX0 (2) f fd ["word","most"] (z3j):=by
 have sc:=y4w
 refine F.ok sc (λ vs H Q E h=>?_) (λ cdv A outer s H vs Q E hr h=>?_)
 ·obtain ⟨x,most,rfl,_⟩:=h;rfl
 obtain ⟨x,most,rfl,hx,m19,q⟩:=h
 refine ⟨_,(z0f (z1l (y2q (z5m (z0u cismadeof hr (by rfl) z1g (z0a (pv 0) (z0a (z4s (v:=.str "0123456789") (by rfl) gFIGURES ⟨_,rfl⟩) (z0a (pv 1) z0e)))))) (z0k (z0p z2n)) z0t) (z0f (z1l (PW.pt (y6m (z0n z1w (z2b (pv 0) z0g (λ _ _=>rfl)) z0i (z0v _)) (y0y (z0n y3d (z0w z4z (by rfl) zlen PySem.boot_len (z0a (pv 0) z0e)) z0g (z0v _))))) (z0k (z0p z2n)) z0t) (z0k (z0p (z1s x5y (by rfl) zint boot_int (z0a (pv 0) z0e)))))),?_⟩
 wp_walk using z1b,z1c,tyS,inV,eqV,z4b
 have xl:x.length=x.cps.toList.length:=Array.length_toList.symm
 unfold z4o at q
 refine ⟨hx,.inl λ H1 s1=>?_⟩
 cases hm:y1k x.cps.toList most with
 | false =>
  rw [if_pos rfl]
  rw [hm,if_neg (by decide)] at q
  exact q _ s1
 | true =>
  rw [if_neg (by decide)]
  rw [hm,if_pos rfl] at q
  unfold y1k at hm
  simp only [Bool.and_eq_true,decide_eq_true_eq] at hm
  have e0:x.cps.toList.length≤100:=by have:=hm.2.1;lia
  have dg:PySem.NumText.AllDigits x.cps.toList:=λ c hc=>by have:=List.all_eq_true.mp hm.2.2 c hc;simp [y8d] at this;exact this
  have ne:x.cps.toList≠[]:=λ z=>by rw [z] at hm;exact absurd hm.1 (by decide)
  have it:=PySem.intText_digits dg ne (by lia)
  have fin:∃n,intText? x=some n/\x.length≤640/\(¬(x.cps.toList.head?=some 48/\1 < x.cps.toList.length)->Q (V.int n) H1):=⟨_,it,by lia,λ nz=>by rw [if_neg nz] at q;exact q _ s1⟩
  obtain ⟨c,r,ec⟩:∃c r,x.cps.toList=c::r:=by cases h:x.cps.toList with | nil=>exact absurd h ne | cons c r=>exact ⟨c,r,rfl⟩
  have e1:x.cps[0]?=some c:=by rw [← Array.getElem?_toList,ec];rfl
  refine ⟨by rw [xl];lia,c,e1,?_⟩
  obtain ⟨n,f1,f2,f3⟩:=fin
  by_cases z:(⟨#[c]⟩:Str)=Str.ofString "0"
  ·rw [if_pos z]
   have z2:=(x0g c).mp z
   refine ⟨small (by lia),?_⟩
   by_cases l:(1:Int) < (x.length:Nat)
   ·rw [if_pos l]
    rw [if_pos ⟨by rw [ec,z2];rfl,by lia⟩] at q
    exact q _ s1
   ·rw [if_neg l]
    exact ⟨n,f1,f2,f3 λ w=>by have:=w.2;lia⟩
  ·rw [if_neg z]
   exact ⟨n,f1,f2,f3 λ w=>z ((x0g c).mpr (by have:=w.1;rw [ec] at this;injection this))⟩
abbrev y0d:Stmt:=top 30
def z3y:Sp:=λ vs H Q _=>∃(x:Str),vs=[.str x]/\x8j x/\∀H',Same H H'->Q (y7g (z4o x.cps.toList 3)) H'
theorem x1a:FnScope ["word"] ["word"] (z0m y0d):=⟨rfl,rfl,rfl,by decide +kernel,rfl,by decide +kernel,by decide +kernel⟩
theorem x3a (F:Fun K "small_of" "small_of" y0d f fd) (cfiguresof:Callee P w K mg base CX0 (2) "figures_of" ["word","most"] z3j):FnOk P w K mg base CX0 (3) f fd ["word"] (z3y):=by
 have sc:=x1a
 refine F.ok sc (λ vs H Q E h=>?_) (λ cdv A outer s H vs Q E hr h=>?_)
 ·obtain ⟨x,rfl,_⟩:=h;rfl
 obtain ⟨x,rfl,hx,q⟩:=h
 refine ⟨_,(z0k (z0p (z0u cfiguresof hr (by rfl) z1g (z0a (pv 0) (z0a z0g z0e))))),?_⟩
 wp_walk using z1b,z1c,tyS,inV,eqV,z3j
 exact ⟨hx,q⟩
abbrev z8e:Stmt:=top 31
def z6f:Sp:=λ vs H Q _=>∃(x:Str),vs=[.str x]/\x8j x/\∀H',Same H H'->Q (w7e (y7j x.cps.toList)) H'
theorem y8x:FnScope ["word","is_below","figure","number"] ["word"] (z0m z8e):=⟨rfl,rfl,rfl,by decide +kernel,rfl,by decide +kernel,by decide +kernel⟩
theorem y9i (F:Fun K "number_of" "number_of" z8e f fd) (cfiguresof:Callee P w K mg base CX0 (2) "figures_of" ["word","most"] z3j) {tLOW:Tok}(gLOW:mg "LOW"=some (.int (-9223372036854775808) tLOW)) {tHIGH:Tok}(gHIGH:mg "HIGH"=some (.int 9223372036854775807 tHIGH)):FnOk P w K mg base CX0 (3) f fd ["word"] (z6f):=by
 have sc:=y8x
 refine F.ok sc (λ vs H Q E h=>?_) (λ cdv A outer s H vs Q E hr h=>?_)
 ·obtain ⟨x,rfl,_⟩:=h;rfl
 obtain ⟨x,rfl,hx,q⟩:=h
 refine ⟨_,(z0f (z1l (z0n z1w (pv 0) z0i (z0v _)) (z0k (z0p z2n)) z0t) (z0f (z0s (i:=1) sc.nd rfl (by first | exact Or.inl rfl | exact Or.inr rfl) (y3b PySem.F.plainAttrs_str PySem.F.slot_str_startswith PySem.F.type_str_startswith x3r (pv 0) (z0a z0i z0e))) (z0f (z0s (i:=2) sc.nd rfl (by first | exact Or.inl rfl | exact Or.inr rfl) (z0u cfiguresof hr (by rfl) z1g (z0a (z5g (z5m (pv 1)) (z2v y0t (pv 0) (z3u z0g) z3v) (pv 0)) (z0a z0g z0e)))) (z0f (z1l (z0n y7i (pv 2) z2n (z0v _)) (z0k (z0p z2n)) z0t) (z0f (z0s (i:=3) sc.nd rfl (by first | exact Or.inl rfl | exact Or.inr rfl) (z5g (z5m (pv 1)) (y9f z9m (pv 2)) (pv 2))) (z0k (z0p (z5g (y6o y9g y9g (z4s (v:=.int (-9223372036854775808)) (by rfl) gLOW ⟨_,rfl⟩) (pv 3) (z4s (v:=.int 9223372036854775807) (by rfl) gHIGH ⟨_,rfl⟩)) (pv 3) z2n)))))))),?_⟩
 wp_walk using z1b,z1c,tyS,inV,eqV,z3j
 have fin:∀(o:Option Nat) (H':Hp) (f:Int->Int),(∀n:Nat,o=some n->Q (w7e (x6k (f n))) H')->(∀n:Nat,o=some n->(if -9223372036854775808≤f n then if f n≤9223372036854775807 then Q (V.int (f n)) H' else Q V.non H' else Q V.non H')):=by
  intro o H' f h n e
  have h:=h n e
  unfold x6k at h
  by_cases c1:-9223372036854775808≤f n
  ·rw [if_pos c1]
   by_cases c2:f n≤9223372036854775807
   ·rw [if_pos c2];rw [if_pos ⟨c1,c2⟩] at h;exact h
   ·rw [if_neg c2];rw [if_neg (λ z=>c2 z.2)] at h;exact h
  ·rw [if_neg c1];rw [if_neg (λ z=>c1 z.1)] at h;exact h
 unfold y7j at q
 by_cases c1:x=Str.ofString "-0"
 ·rw [if_pos c1]
  rw [if_pos ((w8s x).mp c1)] at q
  exact q _ (Same.refl _)
 rw [if_neg c1]
 rw [if_neg (λ z=>c1 ((w8s x).mpr z))] at q
 by_cases c2:z6d x (Str.ofString "-")=true
 ·simp only [if_pos c2]
  rw [if_pos ((y2b x).mp c2)] at q
  refine ⟨by have:=hx.1;show x.cps.size≤4000000;lia,x3v hx,λ H1 s1=>?_⟩
  rw [y4p]
  have q:=q _ s1
  cases hf:z4o (x.cps.toList.drop 1) 19 with
  | none=>rw [hf] at q;rw [if_pos (show y7g none=V.non from rfl)];exact q
  | some n =>
   rw [hf] at q
   rw [if_neg (by intro z;cases z)]
   exact ⟨n,rfl,fin (some n) H1 (λ n=>-n) (λ m e=>by cases e;exact q) n rfl⟩
 ·simp only [if_neg c2]
  rw [if_neg (λ z=>c2 ((y2b x).mpr z))] at q
  refine ⟨hx,λ H1 s1=>?_⟩
  have q:=q _ s1
  cases hf:z4o x.cps.toList 19 with
  | none=>rw [hf] at q;rw [if_pos (show y7g none=V.non from rfl)];exact q
  | some n =>
   rw [hf] at q
   rw [if_neg (by intro z;cases z)]
   have f:=fin (some n) H1 (λ n=>n) (λ m e=>by cases e;exact q) n rfl
   refine ⟨n,rfl,?_⟩
   by_cases b1:-9223372036854775808≤(n:Int)
   ·rw [if_pos b1] at f ⊢
    exact ⟨n,rfl,f⟩
   ·rw [if_neg b1] at f ⊢
    exact f
abbrev z7r:Stmt:=top 32
def z6e:Sp:=λ vs H Q _=>∃(a:Addr) (ws:List Str),vs=[.ref a]/\H a=some (.lst (ws.map V.str))/\lowW ws/\(z3t ws=none->∀H',Same H H'->Q .non H')/\(∀row,z3t ws=some row->∀H' t,Same H H'->H' t=some (.tup (row.map V.int))->Q (.ref t) H')
theorem y8w:FnScope ["words","numbers"] ["words"] (z0m z7r):=⟨rfl,rfl,rfl,by decide +kernel,rfl,by decide +kernel,by decide +kernel⟩
theorem y9h (F:Fun K "smalls_of" "smalls_of" z7r f fd) (csmallof:Callee P w K mg base CX0 (3) "small_of" ["word"] z3y) (zlen:mg "len"=none) (ztuple:mg "tuple"=none) {tMOST_SIDES_WRITTEN:Tok}(gMOST_SIDES_WRITTEN:mg "MOST_SIDES_WRITTEN"=some (.int 8 tMOST_SIDES_WRITTEN)):FnOk P w K mg base CX0 (4) f fd ["words"] (z6e):=by
 have sc:=y8w
 refine F.ok sc (λ vs H Q E h=>?_) (λ cdv A outer s H vs Q E hr h=>?_)
 ·obtain ⟨a,ws,rfl,_⟩:=h;rfl
 obtain ⟨a,ws,rfl,ha,lw,q1,q2⟩:=h
 refine ⟨_,(z0f (y6p (own:=["word"]) sc.nd (i:=1) rfl (by first | exact Or.inl rfl | exact Or.inr rfl) (by first | exact Or.inl rfl | exact Or.inr rfl) rfl (y5b (pv 0)) (by decide) (by decide) rfl (by decide) (λ _ _ _ _=>(z2a (i:=0) (show (["word"]:List Str).Nodup by decide +kernel) rfl (Or.inl rfl))) (λ _ _ _ _=>(z0u csmallof hr (by rfl) z1g (z0a (pv 0) z0e)))) (z0f (z1l (PW.pt (z4r (z0n y3d (z0w z0y (by rfl) zlen PySem.boot_len (z0a (pv 1) z0e)) (z4s (v:=.int 8) (by rfl) gMOST_SIDES_WRITTEN ⟨_,rfl⟩) (z0v _)) (z4m (z0n (x2x (hu1 hr)) z2n (pv 1) rfl)))) (z0k (z0p z2n)) z0t) (z0k (z0p (z1s z1t (by rfl) ztuple boot_tuple (z0a (pv 1) z0e)))))),?_⟩
 simp only [L2.start,List.length_cons,List.length_nil,List.replicate,List.cons_append,List.nil_append,Nat.reduceSub,Nat.reduceAdd,List.map_cons,List.map_nil]
 refine z0j (λ σ H1=>∃l,σ=[some (.ref a),some (.ref l)]/\Same H H1/\H1 l=some (.lst (ws.map λ w=>y7g (z4o w.cps.toList 3)))) ?_ (λ R hR=>?_)
 rotate_left
 ·wp_walk using z1b,z1c,tyS,inV,eqV,z3y
  refine CompL.mk (xs:=ws.map V.str) (.of ha) (λ i ys σ G=>Same H G/\ys=(ws.take i).map (λ w=>y7g (z4o w.cps.toList 3))/\∃y,σ=[y]) ⟨Same.refl _,rfl,_,rfl⟩ (λ i ys σ G _ h=>.of (h.1 _ _ ha)) (λ i x ys σ G ex h=>?_) (λ ys σ G h l hl=>?_)
  ·obtain ⟨sG,rfl,y,rfl⟩:=h
   rw [List.getElem?_map] at ex
   obtain ⟨w,hw,rfl⟩:=Option.map_eq_some_iff.mp ex
   have l5:=lw.1
   refine ⟨w4i (by rw [List.length_map,List.length_take];lia),?_⟩
   wp_walk using z1b,z1c,tyS,inV,eqV,z3y
   exact ⟨lw.2 w (List.mem_of_getElem? hw),λ G' s'=>⟨sG.trans s',by rw [List.take_add_one,hw,List.map_append];rfl,_,rfl⟩⟩
  ·obtain ⟨sG,rfl,y,rfl⟩:=h
   rw [List.length_map,List.take_length]
   exact hR _ _ ⟨l,rfl,sG.trans (z0b hl _),z0d⟩
 rintro σ1 G1 ⟨l,rfl,s1,hl⟩
 wp_walk using z1b,z1c,tyS
 refine ⟨_,.inl (.of hl),?_⟩
 by_cases c8:(8:Int) < ((ws.map λ w=>y7g (z4o w.cps.toList 3)).length:Int)
 ·rw [if_pos c8]
  exact q1 (by unfold z3t;rw [if_neg (λ z=>by rw [List.length_map] at c8;lia)]) _ s1
 rw [if_neg c8]
 refine ⟨_,hl,λ z hz=>.inl (by obtain ⟨w,_,rfl⟩:=List.mem_map.mp hz;cases z4o w.cps.toList 3<;>rfl),?_⟩
 have an:=w4k (ws:=ws)
 cases ca:ws.all λ w=>(z4o w.cps.toList 3).isSome with
 | false =>
  rw [ca,Bool.not_false] at an
  rw [if_pos an]
  exact q1 (by unfold z3t;rw [if_neg (λ z=>by rw [ca] at z;exact absurd z.2 (by decide))]) _ s1
 | true =>
  rw [ca,Bool.not_true] at an
  rw [if_neg (by rw [an];decide)]
  exact ⟨_,.inl ⟨.of hl,λ p hp=>q2 _ (by unfold z3t;rw [if_pos ⟨by rw [List.length_map] at c8;lia,ca⟩]) _ _ (s1.trans (z0b hp _)) (by rw [z0d,w7k ca])⟩⟩
abbrev y4m:Stmt:=top 33
def y0h:Sp:=λ vs H Q _=>∃(kind w:Str) (ka:Addr) (kvs:List (Key × V)),vs=[.str kind,.str w,.ref ka]/\H ka=some (.dK kvs)/\x8j w/\∀H',Same H H'->Q (z5k kvs kind w) H'
theorem x6y:FnScope ["kind","word","known"] ["kind","word","known"] (z0m y4m):=⟨rfl,rfl,rfl,by decide +kernel,rfl,by decide +kernel,by decide +kernel⟩
theorem x7u (F:Fun K "part_of" "part_of" y4m f fd) (cisname:Callee P w K mg base CX0 (3) "is_name" ["word"] z5v) (cnumberof:Callee P w K mg base CX0 (3) "number_of" ["word"] z6f) (csmallof:Callee P w K mg base CX0 (3) "small_of" ["word"] z3y):FnOk P w K mg base CX0 (4) f fd ["kind","word","known"] (y0h):=by
 have sc:=x6y
 refine F.ok sc (λ vs H Q E h=>?_) (λ cdv A outer s H vs Q E hr h=>?_)
 ·obtain ⟨k,w,ka,kvs,rfl,_⟩:=h;rfl
 obtain ⟨kind,w,ka,kvs,rfl,hk,hw,q⟩:=h
 refine ⟨_,(z0f (z1l (z0n z1w (pv 0) z0i (z0v _)) (z0k (z0p (y7d (hu1 hr) (pv 2) (pv 1) ⟨by rfl,by rfl,by rfl,by rfl⟩))) z0t) (z0f (z1l (z0n z1w (pv 0) z0i (z0v _)) (z0k (z0p (z5g (z5m (z0u cisname hr (by rfl) z1g (z0a (pv 1) z0e))) (pv 1) z2n))) z0t) (z0f (z1l (z0n z1w (pv 0) z0i (z0v _)) (z0k (z0p (z0u cnumberof hr (by rfl) z1g (z0a (pv 1) z0e)))) z0t) (z0k (z0p (z0u csmallof hr (by rfl) z1g (z0a (pv 1) z0e))))))),?_⟩
 wp_walk using z1b,z1c,tyS,inV,eqV,z5v,z6f,z3y
 unfold z5k at q
 by_cases c1:kind=Str.ofString "step"
 ·rw [if_pos c1]
  simp only [if_pos c1] at q
  refine ⟨.inl ⟨kvs,.inl hk⟩,_,.inl ⟨kvs,.inr w,.inl hk,rfl,rfl⟩,?_⟩
  exact q _ (Same.refl _)
 rw [if_neg c1]
 simp only [if_neg c1] at q
 by_cases c2:kind=Str.ofString "word"
 ·rw [if_pos c2]
  simp only [if_pos c2] at q
  refine ⟨hw,λ H1 s1=>?_⟩
  have q:=q _ s1
  cases cb:nmB w with
  | true =>
   simp only [cb,if_true] at q
   rw [if_pos rfl]
   exact q
  | false =>
   simp only [cb] at q
   rw [if_neg (by decide)] at q ⊢
   exact q
 rw [if_neg c2]
 simp only [if_neg c2] at q
 by_cases c3:kind=Str.ofString "number"
 ·rw [if_pos c3]
  simp only [if_pos c3] at q
  exact ⟨hw,q⟩
 rw [if_neg c3]
 simp only [if_neg c3] at q
 exact ⟨hw,q⟩
abbrev y0l:Stmt:=top 21
def z7v:W.Frag->Sp:=λ K=>λ vs H Q _=>∃i:Nat,i < 15/\vs=[.str (z0h i)]/\∀a xs,KTup K a xs->z5i K (formsL.getD i ("",[])).2 xs->Q (.ref a) H
theorem x1e:FnScope ["form"] ["form"] (z0m y0l):=⟨rfl,rfl,rfl,by decide +kernel,rfl,by decide +kernel,by decide +kernel⟩
theorem x3d (F:Fun K "parts_of" "parts_of" y0l f fd) {dPARTS:Addr}(gPARTS:mg "PARTS"=some (.ref dPARTS)) (TPo:y5t P w K dPARTS):FnOk P w K mg base CX0 (1) f fd ["form"] (z7v K):=by
 have sc:=x1e
 refine F.ok sc (λ vs H Q E h=>?_) (λ cdv A outer s H vs Q E hr h=>?_)
 ·obtain ⟨i,_,rfl,_⟩:=h;rfl
 obtain ⟨kvs,TK,TF⟩:=TPo
 obtain ⟨i,hi,rfl,q⟩:=h
 refine ⟨_,(z0k (z0p (w2o (by rfl) gPARTS TK (pv 0) (λ _ _=>rfl)))),?_⟩
 wp_walk using z1b,z1c,tyS,inV,eqV
 obtain ⟨a,xs,e1,e2,e3⟩:=z6s TF (y7x hi)
 exact ⟨a,e1,q a xs e2 e3⟩
abbrev y4t:Stmt:=top 20
def y0k:Sp:=λ vs H Q _=>∃x:Str,vs=[.str x]/\Q (.bl (formsL.lookup x).isSome) H
theorem x7c:FnScope ["word"] ["word"] (z0m y4t):=⟨rfl,rfl,rfl,by decide +kernel,rfl,by decide +kernel,by decide +kernel⟩
theorem x7y (F:Fun K "is_form" "is_form" y4t f fd) {dPARTS:Addr}(gPARTS:mg "PARTS"=some (.ref dPARTS)) (TPo:y5t P w K dPARTS):FnOk P w K mg base CX0 (1) f fd ["word"] (y0k):=by
 have sc:=x7c
 refine F.ok sc (λ vs H Q E h=>?_) (λ cdv A outer s H vs Q E hr h=>?_)
 ·obtain ⟨x,rfl,_⟩:=h;rfl
 obtain ⟨kvs,TK,TF⟩:=TPo
 obtain ⟨x,rfl,q⟩:=h
 refine ⟨_,(z0k (z0p (w7a (w7c (by rfl) gPARTS TK (pv 0)) rfl))),?_⟩
 wp_walk using z1b,z1c,tyS,inV,eqV
 cases e:formsL.lookup x with
 | some fs =>
  rw [e] at q
  obtain ⟨a,xs,e1,e2,e3⟩:=z6s TF e
  rw [e1]
  exact q
 | none =>
  rw [e] at q
  rw [z9t TF e]
  exact q
abbrev y4k:Stmt:=top 34
def y0g:Sp:=λ vs H Q _=>∃(wa ka:Addr) (kd:Nat) (ws:List Str) (kvs:List (Key × V)),vs=[.str (z0h kd),.ref wa,.ref ka]/\kd < 15/\H wa=some (.lst (ws.map V.str))/\lowW ws/\H ka=some (.dK kvs)/\knI kvs/\(z9a kvs kd ws=none->∀H',Same H H'->Q .non H')/\(∀cs,z9a kvs kd ws=some cs->∀H' p xs,Same H H'->H' p=some (.tup xs)->PCs H' cs xs->Q (.ref p) H')
theorem x6x:FnScope ["form","words","known","parts","step","left","kind","place"] ["form","words","known"] (z0m y4k):=⟨rfl,rfl,rfl,by decide +kernel,rfl,by decide +kernel,by decide +kernel⟩
theorem x7t (F:Fun K "step_of" "step_of" y4k f fd) (cpartsof:Callee P w K mg base CX0 (4) "parts_of" ["form"] (z7v K)) (csmallsof:Callee P w K mg base CX0 (4) "smalls_of" ["words"] z6e) (cpartof:Callee P w K mg base CX0 (4) "part_of" ["kind","word","known"] y0h) (zlen:mg "len"=none) (zlist:mg "list"=none) (ztuple:mg "tuple"=none):FnOk P w K mg base CX0 (5) f fd ["form","words","known"] (y0g):=by
 have sc:=x6x
 refine F.ok sc (λ vs H Q E h=>?_) (λ cdv A outer s H vs Q E hr h=>?_)
 ·obtain ⟨wa,ka,kd,ws,kvs,rfl,_⟩:=h;rfl
 obtain ⟨wa,ka,kd,ws,kvs,rfl,hd,hw,lw,hka,kn,q1,q2⟩:=h
 refine ⟨_,(z0f (z0s (i:=3) sc.nd rfl (by first | exact Or.inl rfl | exact Or.inr rfl) (z0u cpartsof hr (by rfl) z1g (z0a (pv 0) z0e))) (z0f (z0s (i:=4) sc.nd rfl (by first | exact Or.inl rfl | exact Or.inr rfl) (z0l w7f (z1j (z0a (pv 0) z0e)) (z0l z2h (z0w z0y (by rfl) zlen PySem.boot_len (z0a (pv 3) z0e)) z0g))) (z0f (z0s (i:=5) sc.nd rfl (by first | exact Or.inl rfl | exact Or.inr rfl) (z1s y3x (by rfl) zlist boot_list (z0a (pv 1) z0e))) (z0f (z9r PassesOwn.never rfl (x2k (pv 3)) (w2i (K:=K) (n:=2) rfl (w0o rfl (z7j (z2a (i:=6) sc.nd rfl (Or.inl rfl)) (z7j (z2a (i:=7) sc.nd rfl (Or.inl rfl)) x2m)))) (z0k (z1l (z0n z1w (pv 6) z0i (z0v _)) (z0f (y6q (z0u csmallsof hr (by rfl) z1g (z0a (pv 5) z0e)) (y3a (pv 4) (pv 7) z5x)) (z0k (z0s (i:=5) sc.nd rfl (by first | exact Or.inl rfl | exact Or.inr rfl) (z1j z0e)))) (z0k (y6q (z5g (z0n y3d (z0w z0y (by rfl) zlen PySem.boot_len (z0a (pv 5) z0e)) z0g (z0v _)) (z0u cpartof hr (by rfl) z1g (z0a (pv 6) (z0a (y3b PySem.F.plainAttrs_list PySem.F.slot_list_pop PySem.F.type_list_pop x8h (pv 5) (z0a z0g z0e)) (z0a (pv 2) z0e)))) z2n) (y3a (pv 4) (pv 7) z5x)))))) (z0f (z1l (PW.pt (z4r (z0n y3d (z0w z0y (by rfl) zlen PySem.boot_len (z0a (pv 5) z0e)) z0g (z0v _)) (z4m (z0n (x2x (hu1 hr)) z2n (pv 4) rfl)))) (z0k (z0p z2n)) z0t) (z0k (z0p (z1s z1t (by rfl) ztuple boot_tuple (z0a (pv 4) z0e))))))))),?_⟩
 simp only [L2.start,List.length_cons,List.length_nil,List.replicate,List.cons_append,List.nil_append,Nat.reduceSub,Nat.reduceAdd,List.map_cons,List.map_nil]
 have l5:=z6a (i:=kd)
 refine z0j (λ σ H1=>H1=H/\∃pa xs,σ=[some (.str (z0h kd)),some (.ref wa),some (.ref ka),some (.ref pa),none,none,none,none]/\KTup K pa xs/\z5i K ((formsL.getD kd ("",[])).2) xs) ?_ (λ R hR=>?_)
 rotate_left
 ·wp_walk using z1b,z1c,tyS,inV,eqV,z7v
  exact ⟨kd,hd,rfl,λ a xs e1 e2=>hR _ _ ⟨rfl,a,xs,rfl,e1,e2⟩⟩
 rintro σ1 H1 ⟨rfl,pa,its,rfl,kt,ia⟩
 obtain ⟨l3,at3⟩:=y7u ia
 refine z0j (λ σ H2=>∃sa,σ=[some (.str (z0h kd)),some (.ref wa),some (.ref ka),some (.ref pa),some (.ref sa),none,none,none]/\Same H1 H2/\H1 sa=none/\H2 sa=some (.lst (List.replicate (((formsL.getD kd ("",[])).2).length+1) (V.str (z0h kd))))) ?_ (λ R hR=>?_)
 rotate_left
 ·wp_walk using z1b,z1c,tyS,inV,eqV
  refine ⟨small (by decide),λ p hp=>?_⟩
  refine ⟨_,.inr kt.sq,?_⟩
  refine ⟨by lia,by lia,?_,λ p1 hp1=>?_⟩
  ·rw [l3];exact small (by lia)
  ·refine hR _ _ ⟨p1,rfl,(z0b hp _).trans (z0b hp1 _),(z0b hp _).free hp1,?_⟩
   rw [z0d,z6q,l3]
   rw [show (((((formsL.getD kd ("",[])).2).length:Nat):Int)+1).toNat=((formsL.getD kd ("",[])).2).length+1 by lia]
 rintro σ2 H2 ⟨sa,rfl,s2,sa0,h2⟩
 refine z0j (λ σ H3=>∃la,σ=[some (.str (z0h kd)),some (.ref wa),some (.ref ka),some (.ref pa),some (.ref sa),some (.ref la),none,none]/\Same H2 H3/\H2 la=none/\H3 la=some (.lst (ws.map V.str))) ?_ (λ R hR=>?_)
 rotate_left
 ·wp_walk using z1b,z1c,tyS,inV,eqV
  exact ⟨_,.inl (.of (s2 _ _ hw)),λ p hp=>hR _ _ ⟨p,rfl,z0b hp _,hp,z0d⟩⟩
 rintro σ3 H3 ⟨la,rfl,s3,la0,h3⟩
 have same:∀ {G:Hp}{a:Addr},H1 a=none->Same H1 G->∀o,Same H1 (upd G a o):=λ {G a} a0 sg o b u e=>by rw [z0o (λ z=>by rw [z,a0] at e;cases e)];exact sg _ _ e
 have nL:∀ {G':Hp}{l:Addr}{zs:List V}{o:HO},G' l=some (.lst zs)->∀a ys,G' a=some (.tup ys)->upd G' l o a=some (.tup ys):=λ e a ys h=>by rw [z0o (λ z=>by rw [z,e] at h;cases h)];exact h
 have la1:H1 la=none:=s2.free la0
 have sne:sa≠la:=λ z=>by rw [z,la0] at h2;cases h2
 refine z0j (λ σ G=>∃(y6 y7:Option V) (la:Addr) (xs:List V),σ=[some (.str (z0h kd)),some (.ref wa),some (.ref ka),some (.ref pa),some (.ref sa),some (.ref la),y6,y7]/\Same H1 G/\G sa=some (.lst xs)/\PCs G (z4c kvs kd ws ((formsL.getD kd ("",[])).2).length).1 xs/\G la=some (.lst ((z4c kvs kd ws ((formsL.getD kd ("",[])).2).length).2.map V.str))) ?_ (λ R hR=>?_)
 rotate_left
 ·wp_walk using z1b,z1c,tyS,inV,eqV
  refine LoopT.mk (xs:=its) kt.sq (λ j σ G=>∃(y6 y7:Option V) (la:Addr) (xs:List V),σ=[some (.str (z0h kd)),some (.ref wa),some (.ref ka),some (.ref pa),some (.ref sa),some (.ref la),y6,y7]/\Same H1 G/\H1 la=none/\sa≠la/\G sa=some (.lst xs)/\PCs G (z4c kvs kd ws j).1 xs/\lowW (z4c kvs kd ws j).2/\G la=some (.lst ((z4c kvs kd ws j).2.map V.str))) ?_ (λ j σ G _ _=>kt.sq) (λ j x σ G e h=>?_) (λ σ G h=>?_)
  ·refine ⟨_,_,la,_,rfl,s2.trans s3,la1,sne,s3 _ _ h2,⟨?_,λ i c x e1 e2=>?_⟩,lw,h3⟩
   ·rw [y2o,List.length_replicate]
   ·have e1:=List.mem_of_getElem? e1
    have e2:=List.mem_of_getElem? e2
    cases (List.mem_replicate.mp e1).2
    cases (List.mem_replicate.mp e2).2
    exact ⟨rfl,rfl⟩
  ·obtain ⟨y6,y7,la,xs,rfl,sG,la1,sne,gsa,pc,lw,gla⟩:=h
   obtain ⟨f,b,ef,rfl,kb⟩:=at3 e
   have jl:=(List.getElem?_eq_some_iff.mp ef).1
   have rng:=z8v ⟨kd,hd⟩ ⟨j,by lia⟩ jl
   have gj:=z8u (a:=(("",0):Str × Int)) ef
   rw [show ((formsL.getD (⟨kd,hd⟩:Fin 15).val ("",[])).2.getD (⟨j,by lia⟩:Fin 5).val ("",0))=f from gj] at rng
   have rng:1≤f.2/\f.2≤((formsL.getD kd ("",[])).2).length:=rng
   have xl:=pc.1
   rw [y2o] at xl
   have ixe:ixN xs.length f.2=some f.2.toNat:=by unfold ixN;rw [if_pos (by lia),if_pos (by lia)]
   rw [z9q ef]
   generalize z4c kvs kd ws j=S at *
   wp_walk using z1b,z1c,tyS,inV,eqV,z6e,y0h
   refine ⟨_,kb.sq,rfl,_,_,rfl,_,_,rfl,rfl,rfl,?_⟩
   wp_walk using z1b,z1c,tyS,inV,eqV
   unfold y1c
   by_cases cs:f.1=Str.ofString "sides"
   ·rw [if_pos cs,if_pos cs]
    refine ⟨S.2,gla,lw,λ sn G2 t2=>?_,λ row sr G2 t t2 ht=>?_⟩
    ·have gs2:=t2 _ _ gsa
     have s12:=same sa0 (sG.trans t2) (HO.lst (xs.set f.2.toNat .non))
     refine ⟨xs,gs2,_,ixe,Nat.zero_le _,λ p hp=>⟨s12.trans (z0b hp _),s12.free hp,(λ z=>by rw [← z,z0d] at hp;cases hp),_,z0b hp _ _ _ z0d,?_,lowW.nil,rfl⟩⟩
     rw [show z5w S.2=.v .non by unfold z5w;rw [sn]]
     exact (((pc.mono λ a ys h=>t2 _ _ h).mono (nL gs2)).mono λ a ys h=>z0b hp _ _ _ h).set _ ⟨rfl,rfl⟩
    ·have gs2:=t2 _ _ gsa
     have s12:=same sa0 (sG.trans t2) (HO.lst (xs.set f.2.toNat (.ref t)))
     refine ⟨xs,gs2,_,ixe,Nat.zero_le _,λ p hp=>⟨s12.trans (z0b hp _),s12.free hp,(λ z=>by rw [← z,z0d] at hp;cases hp),_,z0b hp _ _ _ z0d,?_,lowW.nil,rfl⟩⟩
     rw [show z5w S.2=.t row by unfold z5w;rw [sr]]
     exact (((pc.mono λ a ys h=>t2 _ _ h).mono (nL gs2)).mono λ a ys h=>z0b hp _ _ _ h).set _ ⟨t,rfl,z0b hp _ _ _ (nL gs2 _ _ ht)⟩
   ·rw [if_neg cs,if_neg cs]
    refine ⟨_,.inl (.of gla),?_⟩
    rw [List.length_map]
    have gka:=sG _ _ hka
    have kla:ka≠la:=λ z=>by rw [z,gla] at gka;cases gka
    cases e2:S.2 with
    | nil =>
     rw [if_neg (by simp)]
     rw [e2] at gla
     refine ⟨xs,gsa,_,ixe,same sa0 sG _,la1,sne,?_,lowW.nil,?_⟩
     ·exact (pc.mono (nL gsa)).set _ ⟨rfl,rfl⟩
     ·rw [z0o sne.symm];exact gla
    | cons w ws' =>
     rw [e2] at gla lw
     rw [if_pos (by rw [List.length_cons];lia)]
     refine ⟨.inl ⟨_,.of gla⟩,_,gla,0,(by rw [StrLaws.seqIndex_nonneg (by decide) (by rw [List.length_map,List.length_cons];lia)];rfl),_,rfl,w,rfl,kvs,(z0o kla).trans gka,lw.2 w List.mem_cons_self,λ G2 t2=>?_⟩
     have gs2:=t2 _ _ ((z0o sne).trans gsa)
     refine ⟨xs,gs2,_,ixe,same sa0 ((same la1 sG _).trans t2) _,la1,sne,?_,lw.tl,?_⟩
     ·exact (((pc.mono (nL gla)).mono λ a ys h=>t2 _ _ h).mono (nL gs2)).set _ ⟨x2q kn _ _,rfl⟩
     ·rw [z0o sne.symm];exact t2 _ _ z0d
  ·rw [l3] at h
   obtain ⟨y6,y7,la,xs,rfl,sG,la1,sne,gsa,pc,lw,gla⟩:=h
   exact hR _ _ ⟨y6,y7,la,xs,rfl,sG,gsa,pc,gla⟩
 rintro σ4 G ⟨y6,y7,la,xs,rfl,sG,gsa,pc,gla⟩
 wp_walk using z1b,z1c,tyS,inV
 refine ⟨_,.inl (.of gla),?_⟩
 unfold z9a at q1 q2
 generalize z4c kvs kd ws ((formsL.getD kd ("",[])).2).length=S at *
 rw [List.length_map]
 by_cases c0:S.2=[]
 ·rw [c0,if_neg (by simp)]
  refine ⟨_,gsa,λ z hz=>pc.flat z hz,?_⟩
  rw [pc.any]
  cases cn:S.1.any z8s with
  | true =>
   rw [if_pos rfl]
   exact q1 (by rw [if_neg (λ z=>by rw [cn] at z;cases z.2)]) _ sG
  | false =>
   rw [if_neg (by decide)]
   exact ⟨_,.inl ⟨.of gsa,λ p hp=>q2 S.1 (by rw [if_pos ⟨c0,cn⟩]) _ p _ (sG.trans (z0b hp _)) z0d (pc.mono λ a ys h=>z0b hp _ _ _ h)⟩⟩
 ·have lp:=List.length_pos_iff.mpr c0
  rw [if_pos (by lia)]
  exact q1 (by rw [if_neg (λ z=>c0 z.1)]) _ sG
abbrev y0e:Stmt:=top 35
def z7s:Sp:=λ vs H Q _=>∃(wa ka:Addr) (ws:List Str) (kvs:List (Key × V)),vs=[.ref wa,.ref ka]/\H wa=some (.lst (ws.map V.str))/\lowW ws/\H ka=some (.dK kvs)/\knI kvs/\(z7i kvs ws=none->∀H',Same H H'->Q .non H')/\(∀cs,z7i kvs ws=some cs->∀H' p xs,Same H H'->H' p=some (.tup xs)->PCs H' cs xs->Q (.ref p) H')
theorem x1b:FnScope ["words","known"] ["words","known"] (z0m y0e):=⟨rfl,rfl,rfl,by decide +kernel,rfl,by decide +kernel,by decide +kernel⟩
theorem x3b (F:Fun K "row_step" "row_step" y0e f fd) (cisform:Callee P w K mg base CX0 (5) "is_form" ["word"] y0k) (cisname:Callee P w K mg base CX0 (5) "is_name" ["word"] z5v) (cstepof:Callee P w K mg base CX0 (5) "step_of" ["form","words","known"] y0g) (zlen:mg "len"=none):FnOk P w K mg base CX0 (6) f fd ["words","known"] (z7s):=by
 have sc:=x1b
 refine F.ok sc (λ vs H Q E h=>?_) (λ cdv A outer s H vs Q E hr h=>?_)
 ·obtain ⟨wa,ka,ws,kvs,rfl,_⟩:=h;rfl
 obtain ⟨wa,ka,ws,kvs,rfl,hw,lw,hka,kn,q1,q2⟩:=h
 refine ⟨_,(z0f (z1l (PW.pt (z4r (z0n x2u (z0w z0y (by rfl) zlen PySem.boot_len (z0a (pv 0) z0e)) z0g (z0v _)) (z4r (z0n w2v (z1f z0z (pv 0) z0g (λ _ _=>rfl)) z0i (z0v _)) (z4m (y2q (z5m (z0u cisform hr (by rfl) z1g (z0a (z1f z0z (pv 0) z0g (λ _ _=>rfl)) z0e)))))))) (z0k (z0p z2n)) z0t) (z0f (z1l (PW.pt (z4r (y2q (z5m (z0u cisname hr (by rfl) z1g (z0a (z1f z0z (pv 0) z0g (λ _ _=>rfl)) z0e)))) (z4m (w6k (w7d (hu1 hr) (z1f z0z (pv 0) z0g (λ _ _=>rfl)) (pv 1)) rfl)))) (z0k (z0p z2n)) z0t) (z0k (z0p (z0u cstepof hr (by rfl) z1g (z0a (z1f z0z (pv 0) z0g (λ _ _=>rfl)) (z0a (z2v z6n (pv 0) (z3u z0g) z3v) (z0a (pv 1) z0e)))))))),?_⟩
 wp_walk using z1b,z1c,tyS,inV,eqV,y0k,z5v,y0g,w4u
 refine ⟨_,.inl (.of hw),?_⟩
 rw [List.length_map]
 match ws,hw,lw,q1,q2 with
 | [],hw,lw,q1,q2=>rw [if_pos (by simp)];exact q1 rfl _ (Same.refl _)
 | [_],hw,lw,q1,q2=>rw [if_pos (by simp)];exact q1 rfl _ (Same.refl _)
 | [_,_],hw,lw,q1,q2=>rw [if_pos (by simp)];exact q1 rfl _ (Same.refl _)
 | a::e::k::rest,hw,lw,q1,q2 =>
  rw [if_neg (by rw [List.length_cons,List.length_cons,List.length_cons];lia)]
  have a0:atI ((a::e::k::rest).map V.str) 0=some (.str a):=z0q (j:=0) rfl
  have a1:atI ((a::e::k::rest).map V.str) 1=some (.str e):=z0q (j:=1) rfl
  have a2:atI ((a::e::k::rest).map V.str) 2=some (.str k):=z0q (j:=2) rfl
  refine ⟨_,hw,_,a1,rfl,?_⟩
  simp only [z7i] at q1 q2
  by_cases c1:e=Str.ofString "="
  ·rw [if_neg (λ z=>z (by rw [c1]))]
   refine ⟨_,hw,_,a2,k,rfl,?_⟩
   cases c2:(formsL.lookup k).isSome with
   | false =>
    rw [if_pos rfl]
    exact q1 (by rw [if_neg (λ z=>by rw [c2] at z;cases z.2.1)]) _ (Same.refl _)
   | true =>
    rw [if_neg (by decide)]
    refine ⟨_,hw,_,a0,a,rfl,lw.2 a List.mem_cons_self,λ H1 s1=>?_⟩
    cases c3:nmB a with
    | false =>
     rw [if_pos rfl]
     exact q1 (by rw [if_neg (λ z=>by rw [c3] at z;cases z.2.2.1)]) _ s1
    | true =>
     rw [if_neg (by decide)]
     refine ⟨_,s1 _ _ hw,_,a0,_,.inl ⟨_,.inr a,.inl (s1 _ _ hka),rfl,rfl⟩,?_⟩
     cases c4:(z2o kvs (Sum.inr a:Key)).isSome with
     | true =>
      rw [if_pos rfl]
      exact q1 (by rw [if_neg (λ z=>by rw [c4] at z;cases z.2.2.2)]) _ s1
     | false =>
      rw [if_neg (by decide)]
      obtain ⟨n15,nk⟩:=w3k c2
      have cc:=And.intro c1 (And.intro c2 (And.intro c3 c4))
      rw [if_pos cc] at q1 q2
      refine ⟨_,s1 _ _ hw,_,a2,_,.of (s1 _ _ hw),λ p hp=>?_⟩
      rw [show z9h ((a::e::k::rest).map V.str) (some 3) none=rest.map V.str from v1j _ _ _ _]
      exact ⟨p,ka,z6w k,by rw [nk],rfl,rfl,n15,rest,z0d,lw.tl.tl.tl,kvs,z0b hp _ _ _ (s1 _ _ hka),kn,λ z H2 s2=>q1 z _ (s1.trans ((z0b hp _).trans s2)),λ cs z H2 p2 xs s2 e2 pc=>q2 cs z _ p2 xs (s1.trans ((z0b hp _).trans s2)) e2 pc⟩
  ·rw [if_pos (λ z=>c1 (by cases z;rfl))]
   exact q1 (by rw [if_neg (λ z=>c1 z.1)]) _ (Same.refl _)
abbrev y0f:Stmt:=top 36
def z7t:Sp:=λ vs H Q _=>∃(wa ka:Addr) (ws:List Str) (kvs:List (Key × V)),vs=[.ref wa,.ref ka]/\H wa=some (.lst (ws.map V.str))/\ws≠[]/\ws.length≤4000000/\H ka=some (.dK kvs)/\knI kvs/\(z5p kvs ws=none->∀H',Same H H'->Q .non H')/\(∀os,z5p kvs ws=some os->∀H' p,Same H H'->H' p=some (.tup os)->Q (.ref p) H')
theorem x1c:FnScope ["words","known","outs"] ["words","known"] (z0m y0f):=⟨rfl,rfl,rfl,by decide +kernel,rfl,by decide +kernel,by decide +kernel⟩
theorem x3c (F:Fun K "row_outs" "row_outs" y0f f fd) (zlen:mg "len"=none) (ztuple:mg "tuple"=none) {tMOST_OUTS:Tok}(gMOST_OUTS:mg "MOST_OUTS"=some (.int 8 tMOST_OUTS)):FnOk P w K mg base CX0 (1) f fd ["words","known"] (z7t):=by
 have sc:=x1c
 refine F.ok sc (λ vs H Q E h=>?_) (λ cdv A outer s H vs Q E hr h=>?_)
 ·obtain ⟨wa,ka,ws,kvs,rfl,_⟩:=h;rfl
 obtain ⟨wa,ka,ws,kvs,rfl,hw,ne,l5,hka,kn,q1,q2⟩:=h
 refine ⟨_,(z0f (y1a (own:=["word"]) (fv:=["known"]) (js:=[1]) sc.nd (i:=2) rfl (by first | exact Or.inl rfl | exact Or.inr rfl) (by first | exact Or.inl rfl | exact Or.inr rfl) rfl (y5b (z2v z6n (pv 0) (z3u z0g) z3v)) rfl (by decide) rfl (by decide) (by first | exact λ _ _ h=>h | exact z4y rfl | exact z4x rfl rfl | exact z4w rfl rfl rfl) (z7d (by rfl)) rfl (w9a (by first | exact ⟨rfl,.inl rfl,.inl rfl⟩ | exact ⟨rfl,.inl rfl,.inr rfl⟩)) (λ _ _ _ _=>(z2a (i:=0) (show (["word","known"]:List Str).Nodup by decide +kernel) rfl (Or.inl rfl))) (λ _ _ _ _=>(y7d (hu1 hr) (pv 1) (pv 0) ⟨by rfl,by rfl,by rfl,by rfl⟩))) (z0f (z1l (PW.pt (z4r (z0n w2v (z1f z0z (pv 0) z0g (λ _ _=>rfl)) z0i (z0v _)) (z4r (z0n (x2x (hu1 hr)) z2n (pv 2) rfl) (z4m (y2q (y6o y9g y9g z0g (z0w z0y (by rfl) zlen PySem.boot_len (z0a (pv 2) z0e)) (z4s (v:=.int 8) (by rfl) gMOST_OUTS ⟨_,rfl⟩))))))) (z0k (z0p z2n)) z0t) (z0k (z0p (z1s z1t (by rfl) ztuple boot_tuple (z0a (pv 2) z0e)))))),?_⟩
 simp only [L2.start,List.length_cons,List.length_nil,List.replicate,List.cons_append,List.nil_append,Nat.reduceSub,Nat.reduceAdd,List.map_cons,List.map_nil]
 obtain ⟨o,rest,rfl⟩:∃o rest,ws=o::rest:=by cases ws with | nil=>exact absurd rfl ne | cons o rest=>exact ⟨o,rest,rfl⟩
 rw [List.length_cons] at l5
 refine z0j (λ σ H1=>∃l,σ=[some (.ref wa),some (.ref ka),some (.ref l)]/\Same H H1/\H1 l=some (.lst (rest.map λ w=>(z2o kvs (Sum.inr w:Key)).getD .non))) ?_ (λ R hR=>?_)
 rotate_left
 ·wp_walk using z1b,z1c,tyS,inV,eqV,w4u
  refine ⟨_,.of hw,λ p hp=>?_⟩
  rw [show z9h ((o::rest).map V.str) (some 1) none=rest.map V.str from v1k _ _]
  have hka1:=z0b hp (HO.lst (rest.map V.str)) _ _ hka
  refine CompL.mk (xs:=rest.map V.str) (.of z0d) (λ i ys σ G=>G=upd H p (HO.lst (rest.map V.str))/\ys=(rest.take i).map (λ w=>(z2o kvs (Sum.inr w:Key)).getD .non)/\∃y,σ=[y,some (.ref ka)]) ⟨rfl,rfl,_,rfl⟩ (λ i ys σ G _ h=>by rw [h.1];exact .of z0d) (λ i x ys σ G ex h=>?_) (λ ys σ G h l hl=>?_)
  ·obtain ⟨rfl,rfl,y,rfl⟩:=h
   rw [List.getElem?_map] at ex
   obtain ⟨w,hw',rfl⟩:=Option.map_eq_some_iff.mp ex
   have il:=(List.getElem?_eq_some_iff.mp hw').1
   refine ⟨by rw [List.length_map,List.length_take];exact w4i (by lia),?_⟩
   wp_walk using z1b,z1c,tyS,inV,eqV
   exact ⟨.inl ⟨_,.inl hka1⟩,_,.inl ⟨_,.inr w,.inl hka1,rfl,rfl⟩,by rw [List.take_add_one,hw',List.map_append];rfl,_,rfl⟩
  ·obtain ⟨rfl,rfl,y,rfl⟩:=h
   rw [List.length_map,List.take_length]
   exact hR _ _ ⟨l,rfl,(z0b hp _).trans (z0b hl _),z0d⟩
 rintro σ1 G1 ⟨l,rfl,s1,hl⟩
 wp_walk using z1b,z1c,tyS
 simp only [z5p] at q1 q2
 refine ⟨_,s1 _ _ hw,_,z0q (j:=0) rfl,rfl,?_⟩
 by_cases c1:o=Str.ofString "out"
 ·rw [if_neg (λ z=>z (by rw [c1]))]
  refine ⟨_,hl,λ z hz=>.inl (by obtain ⟨w,_,rfl⟩:=List.mem_map.mp hz;exact kn.flat w),?_⟩
  have an:=kn.any rest
  cases ca:rest.all λ w=>(z2o kvs (Sum.inr w:Key)).isSome with
  | false =>
   rw [ca,Bool.not_false] at an
   rw [if_pos an]
   exact q1 (by rw [if_neg (λ z=>by rw [ca] at z;cases z.2.2.2)]) _ s1
  | true =>
   rw [ca,Bool.not_true] at an
   rw [if_neg (by rw [an];decide)]
   refine ⟨_,.inl (.of hl),?_⟩
   rw [List.length_map]
   by_cases c2:1≤rest.length
   ·rw [if_pos (by lia)]
    by_cases c3:rest.length≤8
    ·rw [if_neg (by lia)]
     exact ⟨_,.inl ⟨.of hl,λ p hp=>q2 _ (by rw [if_pos ⟨c1,c2,c3,ca⟩]) _ _ (s1.trans (z0b hp _)) z0d⟩⟩
    ·rw [if_pos (by lia)]
     exact q1 (by rw [if_neg (λ z=>c3 z.2.2.1)]) _ s1
   ·rw [if_neg (by lia)]
    exact q1 (by rw [if_neg (λ z=>c2 z.2.1)]) _ s1
 ·rw [if_pos (λ z=>c1 (by cases z;rfl))]
  exact q1 (by rw [if_neg (λ z=>c1 z.1)]) _ s1
abbrev w1r:Stmt:=top 37
theorem w5u:FnScope ["text","rows","known","steps","k","words","step","outs"] ["text"] (z0m w1r):=⟨rfl,rfl,rfl,by decide +kernel,rfl,by decide +kernel,by decide +kernel⟩
theorem w7i (F:Fun K "read" "read" w1r f fd) {CBadText:Addr}(nBadText:PySem.W.nsIn K mainGlobals "BadText"=some (some (.ref CBadText))) (crowstep:Callee P w K mg base CX0 (8) "row_step" ["words","known"] z7s) (crowouts:Callee P w K mg base CX0 (8) "row_outs" ["words","known"] z7t) (zenumerate:mg "enumerate"=none) (zlen:mg "len"=none) (ztuple:mg "tuple"=none) {tMOST_STEPS:Tok}(gMOST_STEPS:mg "MOST_STEPS"=some (.int 40 tMOST_STEPS)) (gBadText:mg "BadText"=some (.ref CBadText)) {fI:Addr}{fdI:FuncData}(MBadText:MkX K CBadText fI [.type "ValueError",.type "Exception",.type "BaseException",.type "object"] "ValueError.__new__") (FBadText:FnOk P w K mg base CX0 7 fI fdI ["self","text","row"] (y6d K)) (bBadText:Binds K fdI ["self","text","row"] []) (aBS:AtX K CBadText) (n1:NoAttr K CBadText (Str.ofString "row")):FnOk P w K mg base (CX2 P w) (9) f fd ["text"] ((z7u CBadText)):=by
 have sc:=w5u
 refine F.okX2 sc (λ vs H Q E h=>?_) (λ cdv A outer s H vs Q E hr h=>?_)
 ·obtain ⟨T,rfl,_⟩:=h;rfl
 obtain ⟨T,rfl,lt,q1,q2,q3⟩:=h
 refine ⟨_,(z0f (y6p (own:=["row"]) sc.nd (i:=1) rfl (by first | exact Or.inl rfl | exact Or.inr rfl) (by first | exact Or.inl rfl | exact Or.inr rfl) rfl (y5b (y3b PySem.F.plainAttrs_str PySem.F.slot_str_split PySem.F.type_str_split y7n (pv 0) (z0a z0i z0e))) (by decide) (by decide) rfl (by decide) (λ _ _ _ _=>(z2a (i:=0) (show (["row"]:List Str).Nodup by decide +kernel) rfl (Or.inl rfl))) (λ _ _ _ _=>(w7b (K:=K) rfl PySem.F.plainAttrs_str PySem.F.slot_str_split PySem.F.type_str_split y7n (pv 0) (z0a z0i z0e)))) (z0f (z0s (i:=2) sc.nd rfl (by first | exact Or.inl rfl | exact Or.inr rfl) x7m) (z0f (z0s (i:=3) sc.nd rfl (by first | exact Or.inl rfl | exact Or.inr rfl) (z1j z0e)) (z0f (z9r PassesOwn.leaving rfl (x7j (by rfl) zenumerate (z2v z6n (pv 1) z3v (z3u (y9f z9m z0g)))) (w2j (n:=2) (w0o rfl (z7j (z2a (i:=4) sc.nd rfl (Or.inl rfl)) (z7j (z2a (i:=5) sc.nd rfl (Or.inl rfl)) x2m)))) (z0f (z0s (i:=6) sc.nd rfl (by first | exact Or.inl rfl | exact Or.inr rfl) (z5g (z0n x2u (pv 4) (z4s (v:=.int 40) (by rfl) gMOST_STEPS ⟨_,rfl⟩) (z0v _)) (z0u crowstep hr (by rfl) z1g (z0a (pv 5) (z0a (pv 2) z0e))) z2n)) (z0f (z1l (z0n y7i (pv 6) z2n (z0v _)) (z0k (y2r PySem.F.excBase_ValueError rfl (by rfl) gBadText MBadText FBadText hr bBadText x1t (z0a z0i (z0a (z0l z2h (pv 4) z0g) z0e)))) z0t) (z0f (w2f (hu1 hr) (pv 2) (z1f z0z (pv 5) z0g (λ _ _=>rfl)) (pv 4) rfl) (z0k (z3n (z7a (pv 3) (pv 6)))))))) (z0f (z0s (i:=7) sc.nd rfl (by first | exact Or.inl rfl | exact Or.inr rfl) (z0u crowouts hr (by rfl) z1g (z0a (z1f z0z (pv 1) (y9f z9m z0g) (λ _ _=>rfl)) (z0a (pv 2) z0e)))) (z0f (z1l (z0n y7i (pv 7) z2n (z0v _)) (z0k (y2r PySem.F.excBase_ValueError rfl (by rfl) gBadText MBadText FBadText hr bBadText x1t (z0a z0i (z0a (z0w z0y (by rfl) zlen PySem.boot_len (z0a (pv 1) z0e)) z0e)))) z0t) (z0k (z0p (z2k (z0a (z2k (z0a (z1s z1t (by rfl) ztuple boot_tuple (z0a (pv 3) z0e)) (z0a (pv 7) z0e))) (z0a (z1s (y5r rfl) (by rfl) ztuple boot_tuple (z0a (pv 2) z0e)) z0e))))))))))),?_⟩
 simp only [L2.start,List.length_cons,List.length_nil,List.replicate,List.cons_append,List.nil_append,Nat.reduceSub,Nat.reduceAdd,List.map_cons,List.map_nil]
 obtain ⟨rl,lw,rn⟩:=x8i lt
 have tl:T.length≤4000000:=by have:=lt.1;lia
 refine z0j (λ σ H1=>∃ro ps,σ=[some (.str T),some (.ref ro),none,none,none,none,none,none]/\Same H H1/\H1 ro=some (.lst (ps.map V.ref))/\RowsAt H1 (z2m T) ps) ?_ (λ R hR=>?_)
 rotate_left
 ·wp_walk using z1b,z1c,tyS,inV,eqV
  refine ⟨10,x8c,by decide,tl,λ l hl=>?_⟩
  refine CompL.mk (xs:=(z0x 10 T.cps.toList).map (λ w=>V.str (z1p w))) (.of z0d) (λ i ys σ G=>Same (upd H l (HO.lst ((z0x 10 T.cps.toList).map (λ w=>V.str (z1p w))))) G/\(∃ps,ys=ps.map V.ref/\RowsAt G ((z2m T).take i) ps)/\∃y,σ=[y]) ⟨Same.refl _,⟨[],rfl,rfl,λ i ws e=>by simp at e⟩,_,rfl⟩ (λ i ys σ G _ h=>.of (h.1 _ _ z0d)) (λ i x ys σ G ex h=>?_) (λ ys σ G h p hp=>?_)
  ·obtain ⟨sG,⟨ps,rfl,ra⟩,y,rfl⟩:=h
   rw [List.getElem?_map] at ex
   obtain ⟨r,hr',rfl⟩:=Option.map_eq_some_iff.mp ex
   have r5:=rl r (List.mem_of_getElem? hr')
   have ra1:=ra.1
   rw [List.length_take] at ra1
   refine ⟨by rw [List.length_map,ra1];exact w4i (by lia),?_⟩
   wp_walk using z1b,z1c,tyS,inV,eqV
   refine ⟨32,x6w,by decide,by lia,λ l2 hl2=>⟨sG.trans (z0b hl2 _),⟨ps++[l2],by rw [List.map_append];rfl,?_⟩,_,rfl⟩⟩
   have er:(z2m T)[i]?=some ((z0x 32 (z1p r).cps.toList).map z1p):=by unfold z2m;rw [List.getElem?_map,hr'];rfl
   rw [List.take_add_one,er]
   exact (ra.same (z0b hl2 _)).snoc (by rw [z0d,List.map_map];rfl)
  ·obtain ⟨sG,⟨ps,rfl,ra⟩,y,rfl⟩:=h
   rw [List.length_map,List.take_of_length_le (by unfold z2m;rw [List.length_map];exact Nat.le_refl _)] at ra
   exact hR _ _ ⟨p,ps,rfl,(z0b hl _).trans (sG.trans (z0b hp _)),z0d,ra.same (z0b hp _)⟩
 rintro σ1 H1 ⟨ro,ps,rfl,s1,hro,rws⟩
 refine z0j (λ σ H2=>∃ka,σ=[some (.str T),some (.ref ro),some (.ref ka),none,none,none,none,none]/\Same H1 H2/\H1 ka=none/\H2 ka=some (.dK [])) ?_ (λ R hR=>?_)
 rotate_left
 ·wp_walk using z1b,z1c,tyS,inV,eqV
  exact λ p hp=>hR _ _ ⟨p,rfl,z0b hp _,hp,z0d⟩
 rintro σ2 H2 ⟨ka,rfl,s2,ka0,h2⟩
 refine z0j (λ σ H3=>∃sa,σ=[some (.str T),some (.ref ro),some (.ref ka),some (.ref sa),none,none,none,none]/\Same H2 H3/\H2 sa=none/\H3 sa=some (.lst [])) ?_ (λ R hR=>?_)
 rotate_left
 ·wp_walk using z1b,z1c,tyS,inV,eqV
  exact ⟨small (by decide),λ p hp=>hR _ _ ⟨p,rfl,z0b hp _,hp,z0d⟩⟩
 rintro σ3 H3 ⟨sa,rfl,s3,sa0,h3⟩
 have sa1:H1 sa=none:=s2.free sa0
 have ksa:ka≠sa:=λ z=>by rw [z,sa0] at h2;cases h2
 have same:∀ {G:Hp}{a:Addr},H1 a=none->Same H1 G->∀o,Same H1 (upd G a o):=λ {G a} a0 sg o b u e=>by rw [z0o (λ z=>by rw [z,a0] at e;cases e)];exact sg _ _ e
 have pl:=rws.1
 have w1:=y2k T
 have wn:=x7d T
 generalize z2m T=W at *
 refine z0j (λ σ G=>∃(y4 y5 y6:Option V) (as:List Addr) (S:List (Key × V) × List (List PC)),σ=[some (.str T),some (.ref ro),some (.ref ka),some (.ref sa),y4,y5,y6,none]/\Same H1 G/\rdS W (W.length - 1)=some S/\G ka=some (.dK S.1)/\G sa=some (.lst (as.map V.ref))/\StsAt G S.2 as) ?_ (λ R hR=>?_)
 rotate_left
 ·wp_walk using z1b,z1c,tyS,inV,eqV,w4u
  refine ⟨_,.of ((s2.trans s3) _ _ hro),λ e he=>?_⟩
  rw [w8z,List.length_map,pl,← List.map_take]
  have tkl:(ps.take (W.length - 1)).length=W.length - 1:=by rw [List.length_take];lia
  have e1:H1 e=none:=(s2.trans s3).free he
  have eka:e≠ka:=λ z=>by rw [z,s3 _ _ h2] at he;cases he
  have esa:e≠sa:=λ z=>by rw [z,h3] at he;cases he
  obtain ⟨J,hJ⟩:∃J:Nat->L2.St->Hp->Prop,J=(λ i σ G=>∃(y4 y5 y6:Option V) (as:List Addr) (S:List (Key × V) × List (List PC)),σ=[some (.str T),some (.ref ro),some (.ref ka),some (.ref sa),y4,y5,y6,none]/\Same H1 G/\G e=some (.lst ((ps.take (W.length - 1)).map V.ref))/\rdS W i=some S/\G ka=some (.dK S.1)/\G sa=some (.lst (as.map V.ref))/\StsAt G S.2 as):=⟨_,rfl⟩
  refine LoopEL.mk (xs:=(ps.take (W.length - 1)).map V.ref) (.of z0d) J ?_ (λ i σ G _ h=>by rw [hJ] at h;obtain ⟨_,_,_,_,_,_,_,ge,_⟩:=h;exact .of ge) (λ i x σ G TT ex h hT=>?_) (λ σ G h=>?_)
  ·rw [hJ]
   exact ⟨_,_,_,[],([],[]),rfl,(s2.trans s3).trans (z0b he _),z0d,rfl,by rw [z0o eka.symm];exact s3 _ _ h2,by rw [z0o esa.symm];exact h3,⟨rfl,λ i d e=>by simp at e⟩⟩
  ·rw [hJ] at h
   obtain ⟨y4,y5,y6,as,S,rfl,sG,ge,rs,gk,gs,sd⟩:=h
   have hi:i < W.length - 1:=by have:=(List.getElem?_eq_some_iff.mp ex).1;rw [List.length_map] at this;lia
   obtain ⟨r,er⟩:∃r,W[i]?=some r:=⟨_,List.getElem?_eq_getElem (by lia)⟩
   obtain ⟨wa,ew,hwa⟩:=rws.2 i r er
   rw [List.getElem?_map,List.getElem?_take_of_lt hi,ew] at ex
   cases (Option.some.inj ex)
   obtain ⟨kn,kl,sl⟩:=y2p rs
   have lwr:=lw r (List.mem_of_getElem? er)
   have tT:=z0b hT (HO.tup [V.int (i:Int),V.ref wa])
   have stp:∀x,z7i S.1 r=x->i < 40->rdS W (i+1)=x.map λ cs=>(z9c S.1 (Sum.inr (r.headD ""):Key) (.int (i:Int)),S.2++[cs]):=λ x hx c=>by
    rw [rdS,rs,Option.bind_some,er,Option.bind_some,if_pos c,hx]
   have st40:¬i < 40->rdS W (i+1)=none:=λ c=>by rw [rdS,rs,Option.bind_some,er,Option.bind_some,if_neg c]
   wp_walk using tyS,inV,eqV
   refine z0j (λ σ G3=>Same G G3/\((∃pn xs cs,σ=[some (.str T),some (.ref ro),some (.ref ka),some (.ref sa),some (.int (i:Int)),some (.ref wa),some (.ref pn),none]/\i < 40/\z7i S.1 r=some cs/\G3 pn=some (.tup xs)/\PCs G3 cs xs)\/(σ=[some (.str T),some (.ref ro),some (.ref ka),some (.ref sa),some (.int (i:Int)),some (.ref wa),some .non,none]/\rdS W (i+1)=none))) ?_ (λ R hR=>?_)
   rotate_left
   ·wp_walk using z1b,z1c,tyS,inV,eqV,z7s
    by_cases c40:(i:Int) < 40
    ·rw [if_pos c40]
     have c41:i < 40:=by lia
     cases rc:z7i S.1 r with
     | none=>exact ⟨r,tT _ _ (sG _ _ hwa),lwr,S.1,tT _ _ gk,kn,λ _ G3 t3=>hR _ _ ⟨tT.trans t3,.inr ⟨rfl,stp _ rc c41⟩⟩,λ cs z=>by rw [rc] at z;cases z⟩
     | some cs=>exact ⟨r,tT _ _ (sG _ _ hwa),lwr,S.1,tT _ _ gk,kn,λ z=>(by rw [rc] at z;cases z),λ cs' z G3 pn xs t3 e3 pc=>hR _ _ ⟨tT.trans t3,.inl ⟨pn,xs,cs',rfl,c41,z,e3,pc⟩⟩⟩
    ·rw [if_neg c40]
     exact hR _ _ ⟨tT,.inr ⟨rfl,st40 (by lia)⟩⟩
   rintro σa G3 ⟨t3,⟨pn,xs,cs,rfl,c40,rc,hpn,pc⟩ | ⟨rfl,nb⟩⟩
   ·wp_walk using z1b,z1c,tyS,inV,eqV
    rw [if_neg (by intro z;cases z)]
    obtain ⟨nw,a,r',rfl⟩:=y0w rc
    have gk3:=t3 _ _ gk
    have gs3:=t3 _ _ gs
    refine ⟨_,t3 _ _ (sG _ _ hwa),_,z0q (j:=0) rfl,_,.inl ⟨_,.inr a,gk3,rfl,by rw [kl];exact z1i (by lia),rfl⟩,?_⟩
    have hs4:upd G3 ka (HO.dK (z9c S.1 (Sum.inr a:Key) (.int (i:Int)))) sa=some (HO.lst (as.map V.ref)):=by rw [z0o ksa.symm];exact gs3
    refine ⟨⟨_,hs4⟩,_,hs4,by rw [List.length_map,sd.1,sl];exact z1i (by lia),?_⟩
    rw [hJ]
    refine ⟨_,_,_,as++[pn],_,rfl,same sa1 (same ka0 (sG.trans t3) _) _,by rw [z0o esa,z0o eka];exact t3 _ _ ge,stp _ rc c40,by rw [z0o ksa];exact z0d,by rw [z0d,List.map_append];rfl,?_⟩
    exact (((sd.mono λ a ys h=>t3 _ _ h).snoc hpn pc).mono (w5b gk3 (by intro xs z;cases z))).mono (w5b hs4 (by intro xs z;cases z))
   ·wp_walk using z1b,z1c,tyS,inV,eqV,y6d
    exact ⟨small (by decide),λ a ha=>⟨CBadText,rfl,MBadText.cls,aBS,n1,λ dx H' hd ne e1 e2 e3=>⟨dx,e1,q1 i S (by lia) rs nb _ dx (w5x (s1.trans (sG.trans t3)) ha hd ne e3) (by rw [y2l ne];exact e2)⟩⟩⟩
  ·rw [hJ] at h
   obtain ⟨y4,y5,y6,as,S,rfl,sG,ge,rs,gk,gs,sd⟩:=h
   rw [List.length_map,tkl] at rs
   exact hR _ _ ⟨y4,y5,y6,as,S,rfl,sG,rs,gk,gs,sd⟩
 rintro σ4 G ⟨y4,y5,y6,as,S,rfl,sG,rs,gk,gs,sd⟩
 obtain ⟨kn,kl,sl⟩:=y2p rs
 obtain ⟨r,er⟩:∃r,W[W.length - 1]?=some r:=⟨_,List.getElem?_eq_getElem (by lia)⟩
 have gl:W.getLastD []=r:=by rw [List.getLastD_eq_getLast?,List.getLast?_eq_getElem?,er];rfl
 rw [gl] at q2 q3
 obtain ⟨wl,el,hwl⟩:=rws.2 _ r er
 have rme:=List.mem_of_getElem? er
 refine z0j (λ σ G2=>Same G G2/\((∃oa os,σ=[some (.str T),some (.ref ro),some (.ref ka),some (.ref sa),y4,y5,y6,some (.ref oa)]/\z5p S.1 r=some os/\G2 oa=some (.tup os))\/(σ=[some (.str T),some (.ref ro),some (.ref ka),some (.ref sa),y4,y5,y6,some .non]/\z5p S.1 r=none))) ?_ (λ R hR=>?_)
 rotate_left
 ·wp_walk using z1b,z1c,tyS,inV,eqV,z7t
  refine ⟨_,sG _ _ hro,_,v1m (n:=W.length - 1) (by rw [List.length_map,pl];lia) (by rw [List.getElem?_map,el];rfl),?_⟩
  exact ⟨wl,rfl,r,sG _ _ hwl,wn r rme,(lw r rme).1,S.1,gk,kn,λ z G2 t2=>hR _ _ ⟨t2,.inr ⟨rfl,z⟩⟩,λ os z G2 p t2 e2=>hR _ _ ⟨t2,.inl ⟨p,os,rfl,z,e2⟩⟩⟩
 rintro σ5 G2 ⟨t5,⟨oa,os,rfl,ho,hoa⟩ | ⟨rfl,ho⟩⟩
 ·wp_walk using z1b,z1c,tyS,inV,eqV
  rw [if_neg (by intro z;cases z)]
  refine ⟨_,.inl ⟨.of (t5 _ _ gs),λ l hl=>⟨small (by decide),λ p1 hp1=>⟨_,z0b hp1 _ _ _ (z0b hl _ _ _ (t5 _ _ gk)),λ l1 hl1=>⟨small (by decide),λ p2 hp2=>?_⟩⟩⟩⟩⟩
  have s8:=(z0b hl1 (HO.tup (S.1.map λ kv=>kV kv.1))).trans (z0b hp2 (HO.tup [V.ref p1,V.ref l1]))
  have s7:=(z0b hp1 (HO.tup [V.ref l,V.ref oa])).trans s8
  have s6:=(z0b hl (HO.tup (as.map V.ref))).trans s7
  exact q3 S os rs ho _ p2 p1 l1 l oa as (s1.trans (sG.trans (t5.trans s6))) z0d (s8 _ _ z0d) (s7 _ _ z0d) (sd.mono λ a ys h=>(t5.trans s6) _ _ h) (s6 _ _ hoa) (z0b hp2 _ _ _ z0d)
 ·wp_walk using z1b,z1c,tyS,inV,eqV,y6d
  exact ⟨_,.inl (.of (t5 _ _ (sG _ _ hro))),small (by decide),λ a ha=>⟨CBadText,rfl,MBadText.cls,aBS,n1,λ dx H' hd ne e1 e2 e3=>⟨dx,e1,q2 S rs ho _ dx (w5x (s1.trans (sG.trans t5)) ha hd ne e3) (by rw [y2l ne,e2,List.length_map,pl])⟩⟩⟩
abbrev y0s:Stmt:=top 39
def z0r:Sp:=λ vs H Q _=>∃(c k m:Int),vs=[.int c,.int k,.int m]/\0≤k/\k < 100000/\0 < m/\Q (.int (z1q c k m)) H
theorem x1l:FnScope ["cell","k","many","m"] ["cell","k","many"] (z0m y0s):=⟨rfl,rfl,rfl,by decide +kernel,rfl,by decide +kernel,by decide +kernel⟩
theorem x3k (F:Fun K "_law_draw" "_law_draw" y0s f fd):FnOk P w K mg base CX0 (1) f fd ["cell","k","many"] (z0r):=by
 have sc:=x1l
 refine F.ok sc (λ vs H Q E h=>?_) (λ cdv A outer s H vs Q E hr h=>?_)
 ·obtain ⟨c,k,m,rfl,_⟩:=h;rfl
 obtain ⟨c,k,m,rfl,k0,k1,m0,q⟩:=h
 refine ⟨_,(z0f (z0s (i:=3) sc.nd rfl (by first | exact Or.inl rfl | exact Or.inr rfl) (z0l z4e (z0l z2h (z0l z8p (pv 0) z0g) (z0l z8p (z0l z8p (z0l z2h (pv 1) z0g) (z0l z2h (pv 1) z0g)) z0g)) z0g)) (z0k (z0p (z0l z4e (z0l z4e (z0l z8p (pv 3) (pv 3)) z0g) (pv 2))))),?_⟩
 wp_walk using z1b,z1c,tyS,inV,eqV
 have b0:=Int.emod_nonneg (c * 48271+(k+1) * (k+1) * 69621) (show (2147483647:Int)≠0 by decide)
 have b1:=Int.emod_lt_of_pos (c * 48271+(k+1) * (k+1) * 69621) (show (0:Int) < 2147483647 by decide)
 exact ⟨.inl ⟨by lia,by lia⟩,.inl ⟨by lia,by lia⟩,m0,q⟩
abbrev z6l:Stmt:=top 40
def z4h:Sp:=λ vs H Q _=>∃(c k n:Int),vs=[.int c,.int k,.int n]/\0≤k/\k < 1000/\0≤n/\n < 100/\∀H' p,Same H H'->H' p=some (.tup ((z3k c k n.toNat).map V.int))->Q (.ref p) H'
theorem y4u:FnScope ["cell","at","many","top"] ["cell","at","many"] (z0m z6l):=⟨rfl,rfl,rfl,by decide +kernel,rfl,by decide +kernel,by decide +kernel⟩
theorem y5h (F:Fun K "_law_smalls" "_law_smalls" z6l f fd) (clawdraw:Callee P w K mg base CX0 (1) "_law_draw" ["cell","k","many"] z0r) (ztuple:mg "tuple"=none) (zrange:mg "range"=none):FnOk P w K mg base CX0 (2) f fd ["cell","at","many"] (z4h):=by
 have sc:=y4u
 refine F.ok sc (λ vs H Q E h=>?_) (λ cdv A outer s H vs Q E hr h=>?_)
 ·obtain ⟨c,k,n,rfl,_⟩:=h;rfl
 obtain ⟨c,k,n,rfl,k0,k1,n0,n1,q⟩:=h
 refine ⟨_,(z0f (z0s (i:=3) sc.nd rfl (by first | exact Or.inl rfl | exact Or.inr rfl) (z1f z6u (z1j (z0a z0g (z0a z0g z0e))) (z0u clawdraw hr (by rfl) z1g (z0a (pv 0) (z0a (pv 1) (z0a z0g z0e)))) (λ _ _=>rfl))) (z0k (z0p (z1s z1t (by rfl) ztuple boot_tuple (z0a (z6r (own:=["k"]) (fv:=["cell","top","at"]) (js:=[0,3,1]) rfl (z2x (by rfl) zrange (z0a (pv 2) z0e)) rfl (by decide) rfl (by decide) (by first | exact λ _ _ h=>h | exact z4y rfl | exact z4x rfl rfl | exact z4w rfl rfl rfl) (z7d (by rfl)) rfl (v3z (by first | exact ⟨rfl,.inl rfl,.inl rfl⟩ | exact ⟨rfl,.inl rfl,.inr rfl⟩) (by first | exact ⟨rfl,.inl rfl,.inl rfl⟩ | exact ⟨rfl,.inl rfl,.inr rfl⟩) (by first | exact ⟨rfl,.inl rfl,.inl rfl⟩ | exact ⟨rfl,.inl rfl,.inr rfl⟩)) (λ _ _ _ _=>(z2a (i:=0) (show (["k","cell","top","at"]:List Str).Nodup by decide +kernel) rfl (Or.inl rfl))) (λ _ _ _ _=>(z0u clawdraw hr (by rfl) z1g (z0a (pv 1) (z0a (z0l z2h (z0l z2h (pv 3) z0g) (pv 0)) (z0a (pv 2) z0e)))))) z0e))))),?_⟩
 wp_walk using z1b,z1c,tyS,inV,eqV,z0r
 refine ⟨small (by decide),λ p hp=>⟨k0,by lia,_,.of z0d,_,w5c c k,by lia,by lia,?_⟩⟩
 have s1:=z0b hp (.lst [V.int 5,V.int 1000])
 generalize upd H p (.lst [V.int 5,V.int 1000])=H1 at *
 refine CompR.mk (λ i ys σ H2=>H2=H1/\ys=(z3k c k i).map V.int/\∃y,σ=[y,some (.int c),some (.int (x6p c k)),some (.int k)]) ⟨rfl,rfl,_,rfl⟩ (λ i ys σ H2 hi h=>?_) (λ ys σ H2 h p2 hp2=>?_)
 ·obtain ⟨rfl,rfl,y,rfl⟩:=h
  refine ⟨by rw [List.length_map,z9p];exact z1i (by lia),?_⟩
  wp_walk using z1b,z1c,tyS,inV,eqV,z0r
  exact ⟨by lia,by lia,x0n c k,by rw [y4o,List.map_append];rfl,_,rfl⟩
 ·obtain ⟨rfl,rfl,y,rfl⟩:=h
  exact ⟨p2,rfl,_,.inl ⟨.of z0d,λ l hl=>q _ _ (s1.trans ((z0b hp2 _).trans (z0b hl _))) z0d⟩⟩
abbrev y0n:Stmt:=top 41
def z8b:Sp:=λ vs H Q _=>∃(c:Int),vs=[.int c]/\∀H',Same H H'->Q (.str (z2q c)) H'
theorem x1f:FnScope ["cell","some","way","size"] ["cell"] (z0m y0n):=⟨rfl,rfl,rfl,by decide +kernel,rfl,by decide +kernel,by decide +kernel⟩
theorem x3e (F:Fun K "_law_word" "_law_word" y0n f fd) (clawdraw:Callee P w K mg base CX0 (1) "_law_draw" ["cell","k","many"] z0r) (zrange:mg "range"=none):FnOk P w K mg base CX0 (2) f fd ["cell"] (z8b):=by
 have sc:=x1f
 refine F.ok sc (λ vs H Q E h=>?_) (λ cdv A outer s H vs Q E hr h=>?_)
 ·obtain ⟨c,rfl,_⟩:=h;rfl
 obtain ⟨c,rfl,q⟩:=h
 refine ⟨_,(z0f (z0s (i:=1) sc.nd rfl (by first | exact Or.inl rfl | exact Or.inr rfl) (z1j (z3a (z3a (z3a (z3a (z3a (z3a (z3a (z3a z0e)))))))))) (z0f (z0s (i:=2) sc.nd rfl (by first | exact Or.inl rfl | exact Or.inr rfl) (z0u clawdraw hr (by rfl) z1g (z0a (pv 0) (z0a z0g (z0a z0g z0e))))) (z0f (z1l (z0n x2u (pv 2) z0g (z0v _)) (z0k (z0p (z1f z6u (pv 1) (pv 2) (λ _ _=>rfl)))) z0t) (z0f (z0s (i:=3) sc.nd rfl (by first | exact Or.inl rfl | exact Or.inr rfl) (z0l z2h z0g (z0u clawdraw hr (by rfl) z1g (z0a (pv 0) (z0a z0g (z0a z0g z0e)))))) (z0k (z0p (y3b PySem.F.plainAttrs_str PySem.F.slot_str_join PySem.F.type_str_join x8g z0i (z0a (z6r (own:=["k"]) (fv:=["cell"]) (js:=[0]) rfl (z2x (by rfl) zrange (z0a (pv 3) z0e)) rfl (by decide) rfl (by decide) (by first | exact λ _ _ h=>h | exact z4y rfl | exact z4x rfl rfl | exact z4w rfl rfl rfl) (z7d (by rfl)) rfl (w9a (by first | exact ⟨rfl,.inl rfl,.inl rfl⟩ | exact ⟨rfl,.inl rfl,.inr rfl⟩)) (λ _ _ _ _=>(z2a (i:=0) (show (["k","cell"]:List Str).Nodup by decide +kernel) rfl (Or.inl rfl))) (λ _ _ _ _=>(z2b z0i (z0u clawdraw hr (by rfl) z1g (z0a (pv 1) (z0a (z0l z2h z0g (pv 0)) (z0a z0g z0e)))) (λ _ _=>rfl)))) z0e)))))))),?_⟩
 wp_walk using z1b,z1c,tyS,inV,eqV,z0r
 refine ⟨small (by decide),λ p hp=>?_⟩
 have s1:=z0b hp (.lst [V.str "neg",V.str "add",V.str "max",V.str "xor",V.str "zzzzzzzz",V.str "q",V.str "in",V.str "out"])
 have g1:upd H p (.lst [V.str "neg",V.str "add",V.str "max",V.str "xor",V.str "zzzzzzzz",V.str "q",V.str "in",V.str "out"]) p=some (.lst (wl8.map V.str)):=z0d
 generalize upd H p (.lst [V.str "neg",V.str "add",V.str "max",V.str "xor",V.str "zzzzzzzz",V.str "q",V.str "in",V.str "out"])=H1 at *
 have r:=z1d c 20 (show (0:Int) < 12 by decide)
 have r8:=z1d c 21 (show (0:Int) < 8 by decide)
 unfold z2q at q
 by_cases c8:z1q c 20 12 < 8
 ·rw [if_pos c8]
  rw [if_pos c8] at q
  exact ⟨_,.of g1,_,y6b r.1 (by show z1q c 20 12 < ((8:Nat):Int);lia),q _ s1⟩
 ·rw [if_neg c8]
  rw [if_neg c8] at q
  refine ⟨by lia,by lia,?_⟩
  generalize hz:(1+z1q c 21 8).toNat=nz at *
  refine CompR.mk (λ i ys σ H2=>H2=H1/\ys=(z3e c i).map V.str/\∃y,σ=[y,some (.int c)]) ⟨rfl,rfl,_,rfl⟩ (λ i ys σ H2 hi h=>?_) (λ ys σ H2 h p2 hp2=>?_)
  ·obtain ⟨rfl,rfl,y,rfl⟩:=h
   refine ⟨by rw [List.length_map,z5q];exact z1i (by lia),?_⟩
   wp_walk using z1b,z1c,tyS,inV,eqV,z0r
   have r26:=z1d c (22+(0+(i:Int))) (show (0:Int) < 26 by decide)
   refine ⟨by lia,by lia,r26.1,by lia,by rw [z5b];lia,_,w1c ⟨(z1q c (22+(0+(i:Int))) 26).toNat,by lia⟩,?_⟩
   exact ⟨by rw [y3k,List.map_append];rfl,_,rfl⟩
  ·obtain ⟨rfl,rfl,y,rfl⟩:=h
   refine ⟨by decide +kernel,p2,rfl,_,.of z0d,by rw [z5q];lia,λ y hy=>?_,λ _=>q _ (s1.trans (z0b hp2 _))⟩
   obtain ⟨j,hj,rfl⟩:=List.mem_map.mp hy
   have r26:=z1d c (22+(0+(j:Int))) (show (0:Int) < 26 by decide)
   exact ⟨(show 1≤10 by decide),λ d hd=>by cases List.mem_singleton.mp hd;lia⟩
abbrev y4r:Stmt:=top 42
def y0j:Sp:=λ vs H Q _=>∃(c:Int),vs=[.int c]/\∀H',Same H H'->Q (.int (y8i c)) H'
theorem x7a:FnScope ["cell","way"] ["cell"] (z0m y4r):=⟨rfl,rfl,rfl,by decide +kernel,rfl,by decide +kernel,by decide +kernel⟩
theorem x7w (F:Fun K "_law_big" "_law_big" y4r f fd) (clawdraw:Callee P w K mg base CX0 (1) "_law_draw" ["cell","k","many"] z0r):FnOk P w K mg base CX0 (2) f fd ["cell"] (y0j):=by
 have sc:=x7a
 refine F.ok sc (λ vs H Q E h=>?_) (λ cdv A outer s H vs Q E hr h=>?_)
 ·obtain ⟨c,rfl,_⟩:=h;rfl
 obtain ⟨c,rfl,q⟩:=h
 refine ⟨_,(z0f (z0s (i:=1) sc.nd rfl (by first | exact Or.inl rfl | exact Or.inr rfl) (z0u clawdraw hr (by rfl) z1g (z0a (pv 0) (z0a z0g (z0a z0g z0e))))) (z0f (z1l (z0n z1w (pv 1) z0g (z0v _)) (z0k (z0p (z1f z6u (z1j (z0a (y9f z9m (z0l y7h z0g z0g)) (z0a (z0l z7c (z0l y7h z0g z0g) z0g) (z0a z0g (z0a (y9f z9m z0g) z0e))))) (z0u clawdraw hr (by rfl) z1g (z0a (pv 0) (z0a z0g (z0a z0g z0e)))) (λ _ _=>rfl)))) z0t) (z0f (z1l (z0n z1w (pv 1) z0g (z0v _)) (z0k (z0p (z0l z7c (z0l z4e (pv 0) z0g) z0g))) z0t) (z0k (z0p (z0l z7c (z0l z4e (pv 0) (z0l y7h z0g z0g)) (z0l y7h z0g z0g))))))),?_⟩
 wp_walk using z1b,z1c,tyS,inV,eqV,z0r
 unfold y8i at q
 by_cases c0:z1q c 4 4=0
 ·rw [if_pos c0]
  rw [if_pos c0] at q
  refine ⟨small (by decide),λ p hp=>⟨_,.of z0d,_,?_,q _ (z0b hp _)⟩⟩
  have r:=z1d c 5 (show (0:Int) < 4 by decide)
  generalize z1q c 5 4=z at *
  rcases (show z=0\/z=1\/z=2\/z=3 by lia) with rfl | rfl | rfl | rfl<;>rfl
 rw [if_neg c0]
 rw [if_neg c0] at q
 by_cases c1:z1q c 4 4=1
 ·rw [if_pos c1]
  rw [if_pos c1] at q
  exact q _ (Same.refl _)
 rw [if_neg c1]
 rw [if_neg c1] at q
 exact q _ (Same.refl _)
abbrev y0r:Stmt:=top 43
def z8c:Sp:=λ vs H Q _=>∃(i:Nat) (c u0 u1 u2:Int) (u:Addr),i < 15/\vs=[.str (z0h i),.int c,.ref u]/\H u=some (.lst [.int u0,.int u1,.int u2])/\∀H' p ra,Same H H'->H' p=some (.tup (w3d i ra c u0 u1 u2))->H' ra=some (.tup ((z5y c).map V.int))->Q (.ref p) H'
theorem x1j:FnScope ["kind","cell","used","small","row","word"] ["kind","cell","used"] (z0m y0r):=⟨rfl,rfl,rfl,by decide +kernel,rfl,by decide +kernel,by decide +kernel⟩
theorem x3i (F:Fun K "_law_made" "_law_made" y0r f fd) (clawsmalls:Callee P w K mg base CX0 (2) "_law_smalls" ["cell","at","many"] z4h) (clawdraw:Callee P w K mg base CX0 (2) "_law_draw" ["cell","k","many"] z0r) (clawword:Callee P w K mg base CX0 (2) "_law_word" ["cell"] z8b) (clawbig:Callee P w K mg base CX0 (2) "_law_big" ["cell"] y0j):FnOk P w K mg base CX0 (3) f fd ["kind","cell","used"] (z8c):=by
 have sc:=x1j
 refine F.ok sc (λ vs H Q E h=>?_) (λ cdv A outer s H vs Q E hr h=>?_)
 ·obtain ⟨i,c,u0,u1,u2,u,_,rfl,_⟩:=h;rfl
 obtain ⟨i,c,u0,u1,u2,u,hi,rfl,hu,q⟩:=h
 refine ⟨_,(z0f (z0s (i:=3) sc.nd rfl (by first | exact Or.inl rfl | exact Or.inr rfl) (z0u clawsmalls hr (by rfl) z1g (z0a (pv 1) (z0a z0g (z0a z0g z0e))))) (z0f (z0s (i:=4) sc.nd rfl (by first | exact Or.inl rfl | exact Or.inr rfl) (z0u clawsmalls hr (by rfl) z1g (z0a (pv 1) (z0a z0g (z0a (z0u clawdraw hr (by rfl) z1g (z0a (pv 1) (z0a z0g (z0a z0g z0e)))) z0e))))) (z0f (z0s (i:=5) sc.nd rfl (by first | exact Or.inl rfl | exact Or.inr rfl) (z0u clawword hr (by rfl) z1g (z0a (pv 1) z0e))) (z0f (z1l (z0n z1w (pv 0) z0i (z0v _)) (z0k (z0p (z2k (z0a z0i (z0a (pv 4) z0e))))) z0t) (z0f (z1l (z0n z1w (pv 0) z0i (z0v _)) (z0k (z0p (z2k (z0a z0i (z0a (z0u clawbig hr (by rfl) z1g (z0a (pv 1) z0e)) z0e))))) z0t) (z0f (z1l (z0n z1w (pv 0) z0i (z0v _)) (z0k (z0p (z2k (z0a z0i (z0a (pv 4) (z0a (z1f z1h (pv 3) z0g (λ _ _=>rfl)) z0e)))))) z0t) (z0f (z1l (z0n z1w (pv 0) z0i (z0v _)) (z0k (z0p (z2k (z0a z0i (z0a (pv 5) (z0a (z1f z0z (pv 2) z0g (λ _ _=>rfl)) z0e)))))) z0t) (z0f (z1l (z0n z1w (pv 0) z0i (z0v _)) (z0k (z0p (z2k (z0a z0i (z0a (pv 5) (z0a (z1f z0z (pv 2) z0g (λ _ _=>rfl)) (z0a (z1f z0z (pv 2) z0g (λ _ _=>rfl)) z0e))))))) z0t) (z0f (z1l (z0n z1w (pv 0) z0i (z0v _)) (z0k (z0p (z2k (z0a z0i (z0a (z1f z0z (pv 2) z0g (λ _ _=>rfl)) (z0a (z1f z0z (pv 2) z0g (λ _ _=>rfl)) (z0a (z1f z0z (pv 2) z0g (λ _ _=>rfl)) z0e))))))) z0t) (z0f (z1l (PW.pt (z4r (z0n z1w (pv 0) z0i (z0v _)) (z4m (z0n z1w (pv 0) z0i (z0v _))))) (z0k (z0p (z2k (z0a (pv 0) (z0a (z1f z0z (pv 2) z0g (λ _ _=>rfl)) (z0a (pv 4) z0e)))))) z0t) (z0f (z1l (z0n z1w (pv 0) z0i (z0v _)) (z0k (z0p (z2k (z0a z0i (z0a (z1f z0z (pv 2) z0g (λ _ _=>rfl)) (z0a (z1f z1h (pv 3) z0g (λ _ _=>rfl)) z0e)))))) z0t) (z0f (z1l (z0n z1w (pv 0) z0i (z0v _)) (z0k (z0p (z2k (z0a z0i (z0a (z1f z0z (pv 2) z0g (λ _ _=>rfl)) (z0a (z1f z1h (pv 3) z0g (λ _ _=>rfl)) (z0a (z1f z1h (pv 3) z0g (λ _ _=>rfl)) (z0a (z1f z1h (pv 3) z0g (λ _ _=>rfl)) (z0a (z1f z1h (pv 3) z0g (λ _ _=>rfl)) z0e))))))))) z0t) (z0f (z1l (z0n z1w (pv 0) z0i (z0v _)) (z0k (z0p (z2k (z0a z0i (z0a (z1f z0z (pv 2) z0g (λ _ _=>rfl)) (z0a (z1f z1h (pv 3) z0g (λ _ _=>rfl)) (z0a (z1f z1h (pv 3) z0g (λ _ _=>rfl)) z0e))))))) z0t) (z0f (z1l (z0n z1w (pv 0) z0i (z0v _)) (z0k (z0p (z2k (z0a z0i (z0a (z1f z0z (pv 2) z0g (λ _ _=>rfl)) (z0a (z1f z0z (pv 2) z0g (λ _ _=>rfl)) (z0a (z1f z1h (pv 3) z0g (λ _ _=>rfl)) z0e))))))) z0t) (z0f (z1l (z0n z1w (pv 0) z0i (z0v _)) (z0k (z0p (z2k (z0a z0i (z0a (z1f z0z (pv 2) z0g (λ _ _=>rfl)) (z0a (z1f z0z (pv 2) z0g (λ _ _=>rfl)) z0e)))))) z0t) (z0k (z0p (z2k (z0a (pv 0) (z0a (pv 5) (z0a (z1f z0z (pv 2) z0g (λ _ _=>rfl)) (z0a (z1f z1h (pv 3) z0g (λ _ _=>rfl)) z0e)))))))))))))))))))))),?_⟩
 simp only [L2.start,List.length_cons,List.length_nil,List.replicate,List.cons_append,List.nil_append,Nat.reduceSub,Nat.reduceAdd,List.map_cons,List.map_nil]
 refine z0j (λ σ H1=>∃sm,σ=[some (.str (z0h i)),some (.int c),some (.ref u),some (.ref sm),none,none]/\Same H H1/\H1 sm=some (.tup [.int (smF c 0),.int (smF c 1),.int (smF c 2),.int (smF c 3)])) ?_ (λ R hR=>?_)
 rotate_left
 ·wp_walk using z1b,z1c,tyS,inV,eqV,z4h
  exact λ H1 p s1 h1=>hR _ _ ⟨p,rfl,s1,h1⟩
 rintro σ1 H1 ⟨sm,rfl,s1,h1⟩
 refine z0j (λ σ H2=>∃ra,σ=[some (.str (z0h i)),some (.int c),some (.ref u),some (.ref sm),some (.ref ra),none]/\Same H1 H2/\H2 ra=some (.tup ((z5y c).map V.int))) ?_ (λ R hR=>?_)
 rotate_left
 ·wp_walk using z1b,z1c,tyS,inV,eqV,z4h,z0r
  have r:=z1d c 31 (show (0:Int) < 9 by decide)
  exact ⟨r.1,by lia,λ H2 p s2 h2=>hR _ _ ⟨p,rfl,s2,h2⟩⟩
 rintro σ2 H2 ⟨ra,rfl,s2,h2⟩
 refine z0j (λ σ H3=>σ=[some (.str (z0h i)),some (.int c),some (.ref u),some (.ref sm),some (.ref ra),some (.str (z2q c))]/\Same H2 H3) ?_ (λ R hR=>?_)
 rotate_left
 ·wp_walk using z1b,z1c,tyS,inV,eqV,z8b
  exact λ H3 s3=>hR _ _ ⟨rfl,s3⟩
 rintro σ3 H3 ⟨rfl,s3⟩
 have sm3:=s3 _ _ (s2 _ _ h1)
 have ra3:=s3 _ _ h2
 have u3:=s3 _ _ (s2 _ _ (s1 _ _ hu))
 have s03:=s1.trans (s2.trans s3)
 have fin:∀H4 p,Same H3 H4->H4 p=some (.tup (w3d i ra c u0 u1 u2))->Q (.ref p) H4:=λ H4 p s4 e=>q _ _ ra (s03.trans s4) e (s4 _ _ ra3)
 clear q
 wp_walk using z1b,z1c,tyS,inV,eqV,y0j
 match i,hi with
 | 0,_ =>
  rw [if_pos (show z0h 0=Str.ofString "in" by decide +kernel)]
  exact ⟨small (by decide),λ p hp=>fin _ _ (z0b hp _) z0d⟩
 | 1,_ =>
  rw [if_neg (show ¬z0h 1=Str.ofString "in" by decide +kernel),if_pos (show z0h 1=Str.ofString "num" by decide +kernel)]
  exact λ H4 s4=>⟨small (by decide),λ p hp=>fin _ _ (s4.trans (z0b hp _)) z0d⟩
 | 2,_ =>
  rw [if_neg (show ¬z0h 2=Str.ofString "in" by decide +kernel),if_neg (show ¬z0h 2=Str.ofString "num" by decide +kernel),if_pos (show z0h 2=Str.ofString "count" by decide +kernel)]
  exact ⟨_,sm3,_,z0q (j:=0) rfl,small (by decide),λ p hp=>fin _ _ (z0b hp _) z0d⟩
 | 3,_ =>
  rw [if_neg (show ¬z0h 3=Str.ofString "in" by decide +kernel),if_neg (show ¬z0h 3=Str.ofString "num" by decide +kernel),if_neg (show ¬z0h 3=Str.ofString "count" by decide +kernel),if_pos (show z0h 3=Str.ofString "each" by decide +kernel)]
  exact ⟨_,u3,_,z0q (j:=0) rfl,small (by decide),λ p hp=>fin _ _ (z0b hp _) z0d⟩
 | 4,_ =>
  rw [if_neg (show ¬z0h 4=Str.ofString "in" by decide +kernel),if_neg (show ¬z0h 4=Str.ofString "num" by decide +kernel),if_neg (show ¬z0h 4=Str.ofString "count" by decide +kernel),if_neg (show ¬z0h 4=Str.ofString "each" by decide +kernel),if_pos (show z0h 4=Str.ofString "pair" by decide +kernel)]
  exact ⟨_,u3,_,z0q (j:=0) rfl,_,u3,_,z0q (j:=1) rfl,small (by decide),λ p hp=>fin _ _ (z0b hp _) z0d⟩
 | 5,_ =>
  rw [if_neg (show ¬z0h 5=Str.ofString "in" by decide +kernel),if_neg (show ¬z0h 5=Str.ofString "num" by decide +kernel),if_neg (show ¬z0h 5=Str.ofString "count" by decide +kernel),if_neg (show ¬z0h 5=Str.ofString "each" by decide +kernel),if_neg (show ¬z0h 5=Str.ofString "pair" by decide +kernel),if_pos (show z0h 5=Str.ofString "pick" by decide +kernel)]
  exact ⟨_,u3,_,z0q (j:=0) rfl,_,u3,_,z0q (j:=1) rfl,_,u3,_,z0q (j:=2) rfl,small (by decide),λ p hp=>fin _ _ (z0b hp _) z0d⟩
 | 6,_ =>
  rw [if_neg (show ¬z0h 6=Str.ofString "in" by decide +kernel),if_neg (show ¬z0h 6=Str.ofString "num" by decide +kernel),if_neg (show ¬z0h 6=Str.ofString "count" by decide +kernel),if_neg (show ¬z0h 6=Str.ofString "each" by decide +kernel),if_neg (show ¬z0h 6=Str.ofString "pair" by decide +kernel),if_neg (show ¬z0h 6=Str.ofString "pick" by decide +kernel),if_pos (show z0h 6=Str.ofString "turn" by decide +kernel)]
  exact ⟨_,u3,_,z0q (j:=0) rfl,small (by decide),λ p hp=>fin _ _ (z0b hp _) z0d⟩
 | 7,_ =>
  rw [if_neg (show ¬z0h 7=Str.ofString "in" by decide +kernel),if_neg (show ¬z0h 7=Str.ofString "num" by decide +kernel),if_neg (show ¬z0h 7=Str.ofString "count" by decide +kernel),if_neg (show ¬z0h 7=Str.ofString "each" by decide +kernel),if_neg (show ¬z0h 7=Str.ofString "pair" by decide +kernel),if_neg (show ¬z0h 7=Str.ofString "pick" by decide +kernel),if_neg (show ¬z0h 7=Str.ofString "turn" by decide +kernel),if_neg (show ¬z0h 7=Str.ofString "lay" by decide +kernel),if_pos (show z0h 7=Str.ofString "flip" by decide +kernel)]
  exact ⟨_,u3,_,z0q (j:=0) rfl,_,sm3,_,z0q (j:=0) rfl,small (by decide),λ p hp=>fin _ _ (z0b hp _) z0d⟩
 | 8,_ =>
  rw [if_neg (show ¬z0h 8=Str.ofString "in" by decide +kernel),if_neg (show ¬z0h 8=Str.ofString "num" by decide +kernel),if_neg (show ¬z0h 8=Str.ofString "count" by decide +kernel),if_neg (show ¬z0h 8=Str.ofString "each" by decide +kernel),if_neg (show ¬z0h 8=Str.ofString "pair" by decide +kernel),if_neg (show ¬z0h 8=Str.ofString "pick" by decide +kernel),if_neg (show ¬z0h 8=Str.ofString "turn" by decide +kernel),if_neg (show ¬z0h 8=Str.ofString "lay" by decide +kernel),if_neg (show ¬z0h 8=Str.ofString "flip" by decide +kernel),if_pos (show z0h 8=Str.ofString "cut" by decide +kernel)]
  exact ⟨_,u3,_,z0q (j:=0) rfl,_,sm3,_,z0q (j:=0) rfl,_,sm3,_,z0q (j:=1) rfl,_,sm3,_,z0q (j:=2) rfl,_,sm3,_,z0q (j:=3) rfl,small (by decide),λ p hp=>fin _ _ (z0b hp _) z0d⟩
 | 9,_ =>
  rw [if_neg (show ¬z0h 9=Str.ofString "in" by decide +kernel),if_neg (show ¬z0h 9=Str.ofString "num" by decide +kernel),if_neg (show ¬z0h 9=Str.ofString "count" by decide +kernel),if_neg (show ¬z0h 9=Str.ofString "each" by decide +kernel),if_neg (show ¬z0h 9=Str.ofString "pair" by decide +kernel),if_neg (show ¬z0h 9=Str.ofString "pick" by decide +kernel),if_neg (show ¬z0h 9=Str.ofString "turn" by decide +kernel),if_neg (show ¬z0h 9=Str.ofString "lay" by decide +kernel),if_neg (show ¬z0h 9=Str.ofString "flip" by decide +kernel),if_neg (show ¬z0h 9=Str.ofString "cut" by decide +kernel),if_pos (show z0h 9=Str.ofString "spread" by decide +kernel)]
  exact ⟨_,u3,_,z0q (j:=0) rfl,_,sm3,_,z0q (j:=0) rfl,_,sm3,_,z0q (j:=1) rfl,small (by decide),λ p hp=>fin _ _ (z0b hp _) z0d⟩
 | 10,_ =>
  rw [if_neg (show ¬z0h 10=Str.ofString "in" by decide +kernel),if_neg (show ¬z0h 10=Str.ofString "num" by decide +kernel),if_neg (show ¬z0h 10=Str.ofString "count" by decide +kernel),if_neg (show ¬z0h 10=Str.ofString "each" by decide +kernel),if_neg (show ¬z0h 10=Str.ofString "pair" by decide +kernel),if_neg (show ¬z0h 10=Str.ofString "pick" by decide +kernel),if_neg (show ¬z0h 10=Str.ofString "turn" by decide +kernel),if_pos (show z0h 10=Str.ofString "lay" by decide +kernel)]
  exact ⟨_,u3,_,z0q (j:=0) rfl,small (by decide),λ p hp=>fin _ _ (z0b hp _) z0d⟩
 | 11,_ =>
  rw [if_neg (show ¬z0h 11=Str.ofString "in" by decide +kernel),if_neg (show ¬z0h 11=Str.ofString "num" by decide +kernel),if_neg (show ¬z0h 11=Str.ofString "count" by decide +kernel),if_neg (show ¬z0h 11=Str.ofString "each" by decide +kernel),if_neg (show ¬z0h 11=Str.ofString "pair" by decide +kernel),if_neg (show ¬z0h 11=Str.ofString "pick" by decide +kernel),if_neg (show ¬z0h 11=Str.ofString "turn" by decide +kernel),if_neg (show ¬z0h 11=Str.ofString "lay" by decide +kernel),if_neg (show ¬z0h 11=Str.ofString "flip" by decide +kernel),if_neg (show ¬z0h 11=Str.ofString "cut" by decide +kernel),if_neg (show ¬z0h 11=Str.ofString "spread" by decide +kernel),if_pos (show z0h 11=Str.ofString "join" by decide +kernel)]
  exact ⟨_,u3,_,z0q (j:=0) rfl,_,u3,_,z0q (j:=1) rfl,_,sm3,_,z0q (j:=0) rfl,small (by decide),λ p hp=>fin _ _ (z0b hp _) z0d⟩
 | 12,_ =>
  rw [if_neg (show ¬z0h 12=Str.ofString "in" by decide +kernel),if_neg (show ¬z0h 12=Str.ofString "num" by decide +kernel),if_neg (show ¬z0h 12=Str.ofString "count" by decide +kernel),if_neg (show ¬z0h 12=Str.ofString "each" by decide +kernel),if_neg (show ¬z0h 12=Str.ofString "pair" by decide +kernel),if_neg (show ¬z0h 12=Str.ofString "pick" by decide +kernel),if_neg (show ¬z0h 12=Str.ofString "turn" by decide +kernel),if_neg (show ¬z0h 12=Str.ofString "lay" by decide +kernel),if_neg (show ¬z0h 12=Str.ofString "flip" by decide +kernel),if_neg (show ¬z0h 12=Str.ofString "cut" by decide +kernel),if_neg (show ¬z0h 12=Str.ofString "spread" by decide +kernel),if_neg (show ¬z0h 12=Str.ofString "join" by decide +kernel),if_pos (show z0h 12=Str.ofString "fetch" by decide +kernel)]
  exact ⟨_,u3,_,z0q (j:=0) rfl,_,u3,_,z0q (j:=1) rfl,small (by decide),λ p hp=>fin _ _ (z0b hp _) z0d⟩
 | 13,_ =>
  rw [if_neg (show ¬z0h 13=Str.ofString "in" by decide +kernel),if_neg (show ¬z0h 13=Str.ofString "num" by decide +kernel),if_neg (show ¬z0h 13=Str.ofString "count" by decide +kernel),if_neg (show ¬z0h 13=Str.ofString "each" by decide +kernel),if_neg (show ¬z0h 13=Str.ofString "pair" by decide +kernel),if_neg (show ¬z0h 13=Str.ofString "pick" by decide +kernel),if_neg (show ¬z0h 13=Str.ofString "turn" by decide +kernel),if_neg (show ¬z0h 13=Str.ofString "lay" by decide +kernel),if_neg (show ¬z0h 13=Str.ofString "flip" by decide +kernel),if_neg (show ¬z0h 13=Str.ofString "cut" by decide +kernel),if_neg (show ¬z0h 13=Str.ofString "spread" by decide +kernel),if_neg (show ¬z0h 13=Str.ofString "join" by decide +kernel),if_neg (show ¬z0h 13=Str.ofString "fetch" by decide +kernel)]
  exact ⟨_,u3,_,z0q (j:=0) rfl,_,sm3,_,z0q (j:=0) rfl,small (by decide),λ p hp=>fin _ _ (z0b hp _) z0d⟩
 | 14,_ =>
  rw [if_neg (show ¬z0h 14=Str.ofString "in" by decide +kernel),if_neg (show ¬z0h 14=Str.ofString "num" by decide +kernel),if_neg (show ¬z0h 14=Str.ofString "count" by decide +kernel),if_neg (show ¬z0h 14=Str.ofString "each" by decide +kernel),if_neg (show ¬z0h 14=Str.ofString "pair" by decide +kernel),if_neg (show ¬z0h 14=Str.ofString "pick" by decide +kernel),if_neg (show ¬z0h 14=Str.ofString "turn" by decide +kernel),if_neg (show ¬z0h 14=Str.ofString "lay" by decide +kernel),if_neg (show ¬z0h 14=Str.ofString "flip" by decide +kernel),if_neg (show ¬z0h 14=Str.ofString "cut" by decide +kernel),if_neg (show ¬z0h 14=Str.ofString "spread" by decide +kernel),if_neg (show ¬z0h 14=Str.ofString "join" by decide +kernel),if_neg (show ¬z0h 14=Str.ofString "fetch" by decide +kernel)]
  exact ⟨_,u3,_,z0q (j:=0) rfl,_,sm3,_,z0q (j:=0) rfl,small (by decide),λ p hp=>fin _ _ (z0b hp _) z0d⟩
 | n+15,h=>exact absurd h (by lia)
abbrev z4j:Stmt:=top 44
def z8d:Sp:=λ vs H Q _=>∃c k:Int,vs=[.int c,.int k]/\∀H' i,i < 15->(k=0->i < 3)->Same H H'->Q (.str (z0h i)) H'
@[irreducible] def wplawkind:List (Str × Pos):=[("in",⟨173,12,173,16⟩),("num",⟨173,18,173,23⟩),("count",⟨173,25,173,32⟩),("each",⟨173,34,173,40⟩),("pair",⟨173,42,173,48⟩),("pick",⟨173,50,173,56⟩),("turn",⟨173,58,173,64⟩),("flip",⟨173,66,173,72⟩),("cut",⟨173,74,173,79⟩),("spread",⟨173,81,173,89⟩),("lay",⟨173,91,173,96⟩),("join",⟨173,98,173,104⟩)]
theorem x6b:z1a z4j=[.Assign [.Name "some" ⟨173,4,173,8⟩] (.List (w1p wplawkind) ⟨173,11,173,105⟩) ⟨173,4,173,105⟩,(z1a z4j).getD 1 (.Pass ⟨0,0,0,0⟩),(z1a z4j).getD 2 (.Pass ⟨0,0,0,0⟩),(z1a z4j).getD 3 (.Pass ⟨0,0,0,0⟩)]:=by kernel_rfl
theorem x0h:(wplawkind.map (·.1)).map V.str=[V.str "in",V.str "num",V.str "count",V.str "each",V.str "pair",V.str "pick",V.str "turn",V.str "flip",V.str "cut",V.str "spread",V.str "lay",V.str "join"]:=by unfold wplawkind;rfl
theorem x1k:FnScope ["cell","ahead","some"] ["cell","ahead"] (z0m z4j):=⟨rfl,rfl,rfl,by decide +kernel,rfl,by decide +kernel,by decide +kernel⟩
theorem x3j (F:Fun K "_law_kind" "_law_kind" z4j f fd) (clawdraw:Callee P w K mg base CX0 (1) "_law_draw" ["cell","k","many"] z0r):FnOk P w K mg base CX0 (2) f fd ["cell","ahead"] (z8d):=by
 have sc:=x1k
 refine F.ok sc (λ vs H Q E h=>?_) (λ cdv A outer s H vs Q E hr h=>?_)
 ·obtain ⟨c,k,rfl,_⟩:=h;rfl
 obtain ⟨c,k,rfl,q⟩:=h
 rw [x6b]
 refine ⟨_,(z0f (z0s (i:=2) sc.nd rfl (by first | exact Or.inl rfl | exact Or.inr rfl) (z1j (y5e wplawkind))) (z0f (z0s (i:=2) sc.nd rfl (by first | exact Or.inl rfl | exact Or.inr rfl) (z0l z2l (pv 2) (z1j (z0a z0i (z0a z0i (z0a z0i z0e)))))) (z0f (z1l (z0n z1w (pv 1) z0g (z0v _)) (z0k (z0p (z1f z6u (pv 2) (z0u clawdraw hr (by rfl) z1g (z0a (pv 0) (z0a z0g (z0a z0g z0e)))) (λ _ _=>rfl)))) z0t) (z0k (z0p (z1f z6u (pv 2) (z0u clawdraw hr (by rfl) z1g (z0a (pv 0) (z0a z0g (z0a z0g z0e)))) (λ _ _=>rfl))))))),?_⟩
 wp_walk using z1b,z1c,tyS,inV,eqV,z0r,w1m
 rw [x0h]
 wp_walk using z1b,z1c,tyS,inV,eqV
 refine ⟨small (by decide),λ p hp=>⟨small (by decide),λ p1 hp1=>⟨_,z0b hp1 _ _ _ z0d,small (by decide),λ p2 hp2=>?_⟩⟩⟩
 have r:=z1d c 30 (show (0:Int) < 15 by decide)
 have r3:=z1d c 30 (show (0:Int) < 3 by decide)
 split
 ·exact ⟨kinds.map V.str,.of z0d,_,y6b (ws:=kinds) r3.1 (by show z1q c 30 3 < ((15:Nat):Int);lia),q _ _ (by lia) (λ z=>by lia) ((z0b hp _).trans ((z0b hp1 _).trans (z0b hp2 _)))⟩
 ·exact ⟨kinds.map V.str,.of z0d,_,y6b (ws:=kinds) r.1 (by show z1q c 30 15 < ((15:Nat):Int);lia),q _ _ (by lia) (λ z=>by lia) ((z0b hp _).trans ((z0b hp1 _).trans (z0b hp2 _)))⟩
abbrev z8g:Stmt:=top 51
def z6j:Sp:=λ vs H Q _=>∃i:Nat,i < 15/\vs=[.str (z0h i)]/\∀H' p,Same H H'->H' p=some (.lst ((z1m i).map V.int))->Q (.ref p) H'
theorem y8z:FnScope ["kind"] ["kind"] (z0m z8g):=⟨rfl,rfl,rfl,by decide +kernel,rfl,by decide +kernel,by decide +kernel⟩
theorem y9k (F:Fun K "_law_spots" "_law_spots" z8g f fd):FnOk P w K mg base CX0 (1) f fd ["kind"] (z6j):=by
 have sc:=y8z
 refine F.ok sc (λ vs H Q E h=>?_) (λ cdv A outer s H vs Q E hr h=>?_)
 ·obtain ⟨i,_,rfl,_⟩:=h;rfl
 obtain ⟨i,hi,rfl,q⟩:=h
 refine ⟨_,(z0f (z1l (PW.pt (z4r (z0n z1w (pv 0) z0i (z0v _)) (z4r (z0n z1w (pv 0) z0i (z0v _)) (z4m (z0n z1w (pv 0) z0i (z0v _)))))) (z0k (z0p (z1j z0e))) z0t) (z0f (z1l (z0n z1w (pv 0) z0i (z0v _)) (z0k (z0p (z1j (z0a z0g (z0a z0g (z0a z0g z0e)))))) z0t) (z0f (z1l (z0n z1w (pv 0) z0i (z0v _)) (z0k (z0p (z1j (z0a z0g (z0a z0g z0e))))) z0t) (z0f (z1l (PW.pt (z4r (z0n z1w (pv 0) z0i (z0v _)) (z4r (z0n z1w (pv 0) z0i (z0v _)) (z4m (z0n z1w (pv 0) z0i (z0v _)))))) (z0k (z0p (z1j (z0a z0g z0e)))) z0t) (z0f (z1l (PW.pt (z4r (z0n z1w (pv 0) z0i (z0v _)) (z4m (z0n z1w (pv 0) z0i (z0v _))))) (z0k (z0p (z1j (z0a z0g (z0a z0g z0e))))) z0t) (z0k (z0p (z1j (z0a z0g z0e))))))))),?_⟩
 wp_walk using z1b,z1c,tyS,inV,eqV
 match i,hi with
 | 0,_ =>
  rw [if_neg (show ¬z0h 0=Str.ofString "num" by decide +kernel),if_pos (show z0h 0=Str.ofString "in" by decide +kernel)]
  rw [show z1m 0=[] by decide +kernel] at q
  exact ⟨small (by decide),λ p hp=>q _ _ (z0b hp _) z0d⟩
 | 1,_ =>
  rw [if_pos (show z0h 1=Str.ofString "num" by decide +kernel)]
  rw [show z1m 1=[] by decide +kernel] at q
  exact ⟨small (by decide),λ p hp=>q _ _ (z0b hp _) z0d⟩
 | 2,_ =>
  rw [if_neg (show ¬z0h 2=Str.ofString "num" by decide +kernel),if_neg (show ¬z0h 2=Str.ofString "in" by decide +kernel),if_pos (show z0h 2=Str.ofString "count" by decide +kernel)]
  rw [show z1m 2=[] by decide +kernel] at q
  exact ⟨small (by decide),λ p hp=>q _ _ (z0b hp _) z0d⟩
 | 3,_ =>
  rw [if_neg (show ¬z0h 3=Str.ofString "num" by decide +kernel),if_neg (show ¬z0h 3=Str.ofString "in" by decide +kernel),if_neg (show ¬z0h 3=Str.ofString "count" by decide +kernel),if_neg (show ¬z0h 3=Str.ofString "pick" by decide +kernel),if_neg (show ¬z0h 3=Str.ofString "pair" by decide +kernel),if_pos (show z0h 3=Str.ofString "each" by decide +kernel)]
  rw [show z1m 3=[2] by decide +kernel] at q
  exact ⟨small (by decide),λ p hp=>q _ _ (z0b hp _) z0d⟩
 | 4,_ =>
  rw [if_neg (show ¬z0h 4=Str.ofString "num" by decide +kernel),if_neg (show ¬z0h 4=Str.ofString "in" by decide +kernel),if_neg (show ¬z0h 4=Str.ofString "count" by decide +kernel),if_neg (show ¬z0h 4=Str.ofString "pick" by decide +kernel),if_pos (show z0h 4=Str.ofString "pair" by decide +kernel)]
  rw [show z1m 4=[2,3] by decide +kernel] at q
  exact ⟨small (by decide),λ p hp=>q _ _ (z0b hp _) z0d⟩
 | 5,_ =>
  rw [if_neg (show ¬z0h 5=Str.ofString "num" by decide +kernel),if_neg (show ¬z0h 5=Str.ofString "in" by decide +kernel),if_neg (show ¬z0h 5=Str.ofString "count" by decide +kernel),if_pos (show z0h 5=Str.ofString "pick" by decide +kernel)]
  rw [show z1m 5=[1,2,3] by decide +kernel] at q
  exact ⟨small (by decide),λ p hp=>q _ _ (z0b hp _) z0d⟩
 | 6,_ =>
  rw [if_neg (show ¬z0h 6=Str.ofString "num" by decide +kernel),if_neg (show ¬z0h 6=Str.ofString "in" by decide +kernel),if_neg (show ¬z0h 6=Str.ofString "count" by decide +kernel),if_neg (show ¬z0h 6=Str.ofString "pick" by decide +kernel),if_neg (show ¬z0h 6=Str.ofString "pair" by decide +kernel),if_neg (show ¬z0h 6=Str.ofString "each" by decide +kernel),if_neg (show ¬z0h 6=Str.ofString "fold" by decide +kernel),if_neg (show ¬z0h 6=Str.ofString "run" by decide +kernel),if_neg (show ¬z0h 6=Str.ofString "join" by decide +kernel),if_neg (show ¬z0h 6=Str.ofString "fetch" by decide +kernel)]
  rw [show z1m 6=[1] by decide +kernel] at q
  exact ⟨small (by decide),λ p hp=>q _ _ (z0b hp _) z0d⟩
 | 7,_ =>
  rw [if_neg (show ¬z0h 7=Str.ofString "num" by decide +kernel),if_neg (show ¬z0h 7=Str.ofString "in" by decide +kernel),if_neg (show ¬z0h 7=Str.ofString "count" by decide +kernel),if_neg (show ¬z0h 7=Str.ofString "pick" by decide +kernel),if_neg (show ¬z0h 7=Str.ofString "pair" by decide +kernel),if_neg (show ¬z0h 7=Str.ofString "each" by decide +kernel),if_neg (show ¬z0h 7=Str.ofString "fold" by decide +kernel),if_neg (show ¬z0h 7=Str.ofString "run" by decide +kernel),if_neg (show ¬z0h 7=Str.ofString "join" by decide +kernel),if_neg (show ¬z0h 7=Str.ofString "fetch" by decide +kernel)]
  rw [show z1m 7=[1] by decide +kernel] at q
  exact ⟨small (by decide),λ p hp=>q _ _ (z0b hp _) z0d⟩
 | 8,_ =>
  rw [if_neg (show ¬z0h 8=Str.ofString "num" by decide +kernel),if_neg (show ¬z0h 8=Str.ofString "in" by decide +kernel),if_neg (show ¬z0h 8=Str.ofString "count" by decide +kernel),if_neg (show ¬z0h 8=Str.ofString "pick" by decide +kernel),if_neg (show ¬z0h 8=Str.ofString "pair" by decide +kernel),if_neg (show ¬z0h 8=Str.ofString "each" by decide +kernel),if_neg (show ¬z0h 8=Str.ofString "fold" by decide +kernel),if_neg (show ¬z0h 8=Str.ofString "run" by decide +kernel),if_neg (show ¬z0h 8=Str.ofString "join" by decide +kernel),if_neg (show ¬z0h 8=Str.ofString "fetch" by decide +kernel)]
  rw [show z1m 8=[1] by decide +kernel] at q
  exact ⟨small (by decide),λ p hp=>q _ _ (z0b hp _) z0d⟩
 | 9,_ =>
  rw [if_neg (show ¬z0h 9=Str.ofString "num" by decide +kernel),if_neg (show ¬z0h 9=Str.ofString "in" by decide +kernel),if_neg (show ¬z0h 9=Str.ofString "count" by decide +kernel),if_neg (show ¬z0h 9=Str.ofString "pick" by decide +kernel),if_neg (show ¬z0h 9=Str.ofString "pair" by decide +kernel),if_neg (show ¬z0h 9=Str.ofString "each" by decide +kernel),if_neg (show ¬z0h 9=Str.ofString "fold" by decide +kernel),if_neg (show ¬z0h 9=Str.ofString "run" by decide +kernel),if_neg (show ¬z0h 9=Str.ofString "join" by decide +kernel),if_neg (show ¬z0h 9=Str.ofString "fetch" by decide +kernel)]
  rw [show z1m 9=[1] by decide +kernel] at q
  exact ⟨small (by decide),λ p hp=>q _ _ (z0b hp _) z0d⟩
 | 10,_ =>
  rw [if_neg (show ¬z0h 10=Str.ofString "num" by decide +kernel),if_neg (show ¬z0h 10=Str.ofString "in" by decide +kernel),if_neg (show ¬z0h 10=Str.ofString "count" by decide +kernel),if_neg (show ¬z0h 10=Str.ofString "pick" by decide +kernel),if_neg (show ¬z0h 10=Str.ofString "pair" by decide +kernel),if_neg (show ¬z0h 10=Str.ofString "each" by decide +kernel),if_neg (show ¬z0h 10=Str.ofString "fold" by decide +kernel),if_neg (show ¬z0h 10=Str.ofString "run" by decide +kernel),if_neg (show ¬z0h 10=Str.ofString "join" by decide +kernel),if_neg (show ¬z0h 10=Str.ofString "fetch" by decide +kernel)]
  rw [show z1m 10=[1] by decide +kernel] at q
  exact ⟨small (by decide),λ p hp=>q _ _ (z0b hp _) z0d⟩
 | 11,_ =>
  rw [if_neg (show ¬z0h 11=Str.ofString "num" by decide +kernel),if_neg (show ¬z0h 11=Str.ofString "in" by decide +kernel),if_neg (show ¬z0h 11=Str.ofString "count" by decide +kernel),if_neg (show ¬z0h 11=Str.ofString "pick" by decide +kernel),if_neg (show ¬z0h 11=Str.ofString "pair" by decide +kernel),if_neg (show ¬z0h 11=Str.ofString "each" by decide +kernel),if_neg (show ¬z0h 11=Str.ofString "fold" by decide +kernel),if_neg (show ¬z0h 11=Str.ofString "run" by decide +kernel),if_pos (show z0h 11=Str.ofString "join" by decide +kernel)]
  rw [show z1m 11=[1,2] by decide +kernel] at q
  exact ⟨small (by decide),λ p hp=>q _ _ (z0b hp _) z0d⟩
 | 12,_ =>
  rw [if_neg (show ¬z0h 12=Str.ofString "num" by decide +kernel),if_neg (show ¬z0h 12=Str.ofString "in" by decide +kernel),if_neg (show ¬z0h 12=Str.ofString "count" by decide +kernel),if_neg (show ¬z0h 12=Str.ofString "pick" by decide +kernel),if_neg (show ¬z0h 12=Str.ofString "pair" by decide +kernel),if_neg (show ¬z0h 12=Str.ofString "each" by decide +kernel),if_neg (show ¬z0h 12=Str.ofString "fold" by decide +kernel),if_neg (show ¬z0h 12=Str.ofString "run" by decide +kernel),if_neg (show ¬z0h 12=Str.ofString "join" by decide +kernel),if_pos (show z0h 12=Str.ofString "fetch" by decide +kernel)]
  rw [show z1m 12=[1,2] by decide +kernel] at q
  exact ⟨small (by decide),λ p hp=>q _ _ (z0b hp _) z0d⟩
 | 13,_ =>
  rw [if_neg (show ¬z0h 13=Str.ofString "num" by decide +kernel),if_neg (show ¬z0h 13=Str.ofString "in" by decide +kernel),if_neg (show ¬z0h 13=Str.ofString "count" by decide +kernel),if_neg (show ¬z0h 13=Str.ofString "pick" by decide +kernel),if_neg (show ¬z0h 13=Str.ofString "pair" by decide +kernel),if_neg (show ¬z0h 13=Str.ofString "each" by decide +kernel),if_pos (show z0h 13=Str.ofString "fold" by decide +kernel)]
  rw [show z1m 13=[2] by decide +kernel] at q
  exact ⟨small (by decide),λ p hp=>q _ _ (z0b hp _) z0d⟩
 | 14,_ =>
  rw [if_neg (show ¬z0h 14=Str.ofString "num" by decide +kernel),if_neg (show ¬z0h 14=Str.ofString "in" by decide +kernel),if_neg (show ¬z0h 14=Str.ofString "count" by decide +kernel),if_neg (show ¬z0h 14=Str.ofString "pick" by decide +kernel),if_neg (show ¬z0h 14=Str.ofString "pair" by decide +kernel),if_neg (show ¬z0h 14=Str.ofString "each" by decide +kernel),if_neg (show ¬z0h 14=Str.ofString "fold" by decide +kernel),if_pos (show z0h 14=Str.ofString "run" by decide +kernel)]
  rw [show z1m 14=[2] by decide +kernel] at q
  exact ⟨small (by decide),λ p hp=>q _ _ (z0b hp _) z0d⟩
 | n+15,h=>exact absurd h (by lia)
abbrev y0q:Stmt:=top 50
def y2e:Sp:=λ vs H Q _=>∃(a na:Addr) (i k:Nat) (xs:List V) (nm:List Str) (n:Int) (z:Str),vs=[.ref a,.int (k:Int),.ref na]/\i < 15/\H a=some (.tup xs)/\xs[0]?=some (.str (z0h i))/\xs[k]?=some (.int n)/\NmAt H na nm/\(((k:Int)∈z1m i/\∃u:Nat,n=(u:Int)/\nm[u]?=some z)\/((k:Int) ∉ z1m i/\n.natAbs < 10 ^ 20/\z=sI n))/\∀H',Same H H'->Q (.str z) H'
theorem x1i:FnScope ["step","k","names"] ["step","k","names"] (z0m y0q):=⟨rfl,rfl,rfl,by decide +kernel,rfl,by decide +kernel,by decide +kernel⟩
theorem x3h (F:Fun K "_law_part" "_law_part" y0q f fd) (clawspots:Callee P w K mg base CX0 (1) "_law_spots" ["kind"] z6j) (zstr:mg "str"=none):FnOk P w K mg base CX0 (2) f fd ["step","k","names"] (y2e):=by
 have sc:=x1i
 refine F.ok sc (λ vs H Q E h=>?_) (λ cdv A outer s H vs Q E hr h=>?_)
 ·obtain ⟨a,na,i,k,xs,nm,n,z,rfl,_⟩:=h;rfl
 obtain ⟨a,na,i,k,xs,nm,n,z,rfl,hi,ha,h0,hk,hn,hz,q⟩:=h
 refine ⟨_,(z0f (z1l (z0n w7g (pv 1) (z0u clawspots hr (by rfl) z1g (z0a (z1f z1h (pv 0) z0g (λ _ _=>rfl)) z0e)) rfl) (z0k (z0p (z1f w3h (pv 2) (z1f z1h (pv 0) (pv 1) (λ _ _=>rfl)) (λ _ _=>rfl)))) z0t) (z0k (z0p (z1s z8x (by rfl) zstr boot_str (z0a (z1f z1h (pv 0) (pv 1) (λ _ _=>rfl)) z0e))))),?_⟩
 wp_walk using z1b,z1c,tyS,z6j
 refine ⟨_,ha,_,z0q h0,i,hi,rfl,λ H1 p s1 h1=>?_⟩
 refine ⟨_,h1,x4u _,?_⟩
 rcases hz with ⟨m,u,rfl,hu⟩ | ⟨m,b,rfl⟩
 ·rw [if_pos (by rw [y1o];exact decide_eq_true m)]
  exact ⟨_,s1 _ _ ha,_,z0q hk,_,_,rfl,hn.same s1,_,z0q (by rw [List.getElem?_map,hu];rfl),q _ s1⟩
 ·rw [if_neg (by rw [y1o];simpa using m)]
  exact ⟨_,s1 _ _ ha,_,z0q hk,n,rfl,x3w b,q _ s1⟩
abbrev y4q:Stmt:=top 49
def y0i:Sp:=λ vs H Q _=>∃(name:Str) (a na:Addr) (d:Sd) (nm:List Str),vs=[.str name,.ref a,.ref na]/\SdAt H d a/\y4e nm.length d/\NmAt H na nm/\x3n nm/\name.length≤20/\∀H',Same H H'->Q (.str (w9k d name nm)) H'
theorem x6z:FnScope ["name","step","names","kind","words","k","part"] ["name","step","names"] (z0m y4q):=⟨rfl,rfl,rfl,by decide +kernel,rfl,by decide +kernel,by decide +kernel⟩
theorem x7v (F:Fun K "_law_row" "_law_row" y4q f fd) (clawpart:Callee P w K mg base CX0 (2) "_law_part" ["step","k","names"] y2e) (zlen:mg "len"=none) (zrange:mg "range"=none) (zisinstance:mg "isinstance"=none) (ztuple:mg "tuple"=none) (zstr:mg "str"=none):FnOk P w K mg base CX0 (3) f fd ["name","step","names"] (y0i):=by
 have sc:=x6z
 refine F.ok sc (λ vs H Q E h=>?_) (λ cdv A outer s H vs Q E hr h=>?_)
 ·obtain ⟨name,a,na,d,nm,rfl,_⟩:=h;rfl
 obtain ⟨name,a,na,d,nm,rfl,⟨ra,ha,hra⟩,ok,hn,no,nl,q⟩:=h
 refine ⟨_,(z0f (z0s (i:=3) sc.nd rfl (by first | exact Or.inl rfl | exact Or.inr rfl) (z1f z1h (pv 1) z0g (λ _ _=>rfl))) (z0f (z0s (i:=4) sc.nd rfl (by first | exact Or.inl rfl | exact Or.inr rfl) (z1j (z0a (pv 0) (z0a z0i (z0a (pv 3) z0e))))) (z0f (z1l (z0n z1w (pv 3) z0i (z0v _)) (z0k (z3n (z7a (pv 4) (z1s z8x (by rfl) zstr boot_str (z0a (z1f z1h (pv 1) z0g (λ _ _=>rfl)) z0e))))) z0t) (z0f (z9r PassesOwn.never rfl (x2l (by rfl) zrange (z0a z0g (z0a (z0w z0y (by rfl) zlen PySem.boot_len (z0a (pv 1) z0e)) z0e))) (z2a (i:=5) sc.nd rfl (Or.inl rfl)) (z0f (z0s (i:=6) sc.nd rfl (by first | exact Or.inl rfl | exact Or.inr rfl) (z1f z1h (pv 1) (pv 5) (λ _ _=>rfl))) (z0k (z1l (z5m (z0w z6c (by rfl) zisinstance boot_isinstance (z0a (pv 6) (z0a (z8n (v:=.ty "tuple") (by rfl) ztuple boot_tuple rfl) z0e)))) (z0k (z0s (i:=4) sc.nd rfl (by first | exact Or.inl rfl | exact Or.inr rfl) (z0l z2l (pv 4) (x7n (own:=["n"]) rfl (x2k (pv 6)) (by decide) (by decide) rfl (by decide) (λ _ _ _ _=>(z2a (i:=0) (show (["n"]:List Str).Nodup by decide +kernel) rfl (Or.inl rfl))) (λ _ _ _ _=>(z1s z8x (by rfl) zstr boot_str (z0a (pv 0) z0e))))))) (z0k (z1l (z5m (z0w z6c (by rfl) zisinstance boot_isinstance (z0a (pv 6) (z0a (z8n (v:=.ty "str") (by rfl) zstr boot_str rfl) z0e)))) (z0k (z3n (z7a (pv 4) (pv 6)))) (z0k (z1l (z0n w2v (pv 3) z0i (z0v _)) (z0k (z3n (z7a (pv 4) (z0u clawpart hr (by rfl) z1g (z0a (pv 1) (z0a (pv 5) (z0a (pv 2) z0e))))))) z0t)))))))) (z0k (z0p (y3b PySem.F.plainAttrs_str PySem.F.slot_str_join PySem.F.type_str_join y1i z0i (z0a (pv 4) z0e)))))))),?_⟩
 simp only [L2.start,List.length_cons,List.length_nil,List.replicate,List.cons_append,List.nil_append,Nat.reduceSub,Nat.reduceAdd,List.map_cons,List.map_nil]
 have hd:(stV d ra)[0]?=some (.str (z0h d.kd)):=y2a ok.1 ..
 refine z0j (λ σ H1=>σ=[some (.str name),some (.ref a),some (.ref na),some (.str (z0h d.kd)),none,none,none]/\H1=H) ?_ (λ R hR=>?_)
 rotate_left
 ·wp_walk using z1b,z1c,tyS,inV,eqV
  exact ⟨_,ha,_,z0q hd,hR _ _ ⟨rfl,rfl⟩⟩
 rintro σ0 H0 ⟨rfl,rfl⟩
 refine z0j (λ σ H1=>∃l,σ=[some (.str name),some (.ref a),some (.ref na),some (.str (z0h d.kd)),some (.ref l),none,none]/\H0 l=none/\Same H0 H1/\H1 l=some (.lst (([name,"=",z0h d.kd]:List Str).map V.str))) ?_ (λ R hR=>?_)
 rotate_left
 ·wp_walk using z1b,z1c,tyS,inV,eqV
  exact ⟨small (by decide),λ p hp=>hR _ _ ⟨p,rfl,hp,z0b hp _,z0d⟩⟩
 rintro σ1 H1 ⟨l,rfl,hl0,s1,hl⟩
 refine z0j (λ σ H1=>σ=[some (.str name),some (.ref a),some (.ref na),some (.str (z0h d.kd)),some (.ref l),none,none]/\Same H0 H1/\H1 l=some (.lst ((([name,"=",z0h d.kd]:List Str)++x7h d).map V.str))) ?_ (λ R hR=>?_)
 rotate_left
 ·wp_walk using z1b,z1c,tyS,inV,eqV
  by_cases c:d.kd=2
  ·have ek:z0h d.kd="count" := by rw [c];rfl
   have e2:(stV d ra)[2]?=some (.int (smF d.c 0)):=by rcases d with ⟨kd,c0,u0,u1,u2⟩;cases (show kd=2 from c);rfl
   rw [if_pos ek]
   refine ⟨⟨_,hl⟩,_,s1 _ _ ha,_,z0q e2,_,rfl,x3w (z3q _ _),_,hl,z1i (by simp),hR _ _ ⟨rfl,λ b' o' e'=>?_,?_⟩⟩
   ·rw [z0o (λ z=>by rw [z,hl0] at e';cases e')];exact s1 _ _ e'
   ·rw [z0d];unfold x7h;rw [if_pos c];rfl
  ·rw [if_neg (λ z=>c (y7r ok.1 z))]
   exact hR _ _ ⟨rfl,s1,by unfold x7h;rw [if_neg c,List.append_nil];exact hl⟩
 rintro σ2 H2 ⟨rfl,s2,h2⟩
 refine z0j (λ σ H3=>∃l y5 y6,σ=[some (.str name),some (.ref a),some (.ref na),some (.str (z0h d.kd)),some (.ref l),y5,y6]/\Same H0 H3/\H3 l=some (.lst ((([name,"=",z0h d.kd]:List Str)++z2p d nm).map V.str))) ?_ (λ R hR=>?_)
 rotate_left
 ·wp_walk using z1b,z1c,tyS,inV,eqV
  have ln:=v0x (nm:=nm) (ra:=ra) ok.1
  have sl:=x6r (i:=d.kd) ok.1 ra (z2q d.c) (y8i d.c) (smF d.c 0) (smF d.c 1) (smF d.c 2) (smF d.c 3) d.u0 d.u1 d.u2
  have sl:(stV d ra).length≤6:=sl
  refine ⟨_,.inr (.of (s2 _ _ ha)),by lia,by lia,?_⟩
  refine LoopR.mk (λ i σ H3=>∃l y5 y6,σ=[some (.str name),some (.ref a),some (.ref na),some (.str (z0h d.kd)),some (.ref l),y5,y6]/\H0 l=none/\Same H0 H3/\H3 l=some (.lst ((([name,"=",z0h d.kd]:List Str)++x7h d++((x0d d nm).take i).flatten).map V.str))) ⟨l,_,_,rfl,hl0,s2,by rw [h2];simp⟩ (λ i σ H3 hi h=>?_) (λ σ H3 h=>?_)
  ·obtain ⟨l,y5,y6,rfl,l0,s3,h3⟩:=h
   have hra3:=s3 _ _ hra
   obtain ⟨x,ws,e1,e2,lw⟩:=w7r (H:=H3) (nm:=nm) ok hra3 i (by lia)
   have few:=x3x ok no hra3 i
   have pl:(x7h d).length≤1:=by unfold x7h;split<;>simp
   have same:∀ {G:Hp},Same H0 G->∀o,Same H0 (upd G l o):=λ {G} sg o b u e=>by rw [z0o (λ z=>by rw [z,l0] at e;cases e)];exact sg _ _ e
   rw [show (1:Int)+(i:Int)=((i+1:Nat):Int) by lia]
   wp_walk using z1b,z1c,inV,eqV
   refine ⟨_,s3 _ _ ha,_,z0q e1,?_⟩
   rw [x4t e2]
   rcases lw with ⟨ar,row,rfl,har,sm,rfl⟩ | ⟨t,rfl,tl,rfl⟩ | ⟨n,rfl,k2,rfl⟩ | ⟨n,rfl,k2,lp⟩
   ·refine ⟨"tuple",.inr ⟨_,rfl,_,har,rfl⟩,?_⟩
    rw [if_pos (by decide +kernel)]
    refine CompT.mk (xs:=row.map V.int) (.of har) (λ j ys σ G=>G=H3/\ys=((row.take j).map sI).map V.str/\∃y,σ=[y]) ⟨rfl,rfl,_,rfl⟩ (λ j ys σ G _ h=>by rw [h.1];exact .of har) (λ j x ys σ G e h=>?_) (λ ys σ G h p2 hp2=>?_)
    ·obtain ⟨rfl,rfl,y,rfl⟩:=h
     obtain ⟨n,hn2,rfl⟩:=w8k e
     have b:=sm.2 n (List.mem_of_getElem? hn2)
     refine ⟨by rw [List.length_map,List.length_map,List.length_take];have:=sm.1;exact z1i (by lia),?_⟩
     wp_walk using z1b,z1c,tyS,inV,eqV
     exact ⟨x3w (by lia),by rw [List.take_add_one,hn2,List.map_append,List.map_append];rfl,_,rfl⟩
    ·obtain ⟨rfl,rfl,y,rfl⟩:=h
     rw [z6t,List.take_length]
     have sr:=sm.1
     have s4:=s3.trans (z0b hp2 (HO.lst ((row.map sI).map V.str)))
     refine ⟨p2,rfl,_,z0b hp2 _ _ _ h3,_,z0d,by simp only [List.length_map,List.length_append,List.length_cons,List.length_nil];exact small (by lia),λ p hp=>⟨s4.free hp,s4.trans (z0b hp _),?_⟩⟩
     simp only [List.map_append,List.map_cons,List.map_nil,List.append_assoc,List.cons_append,List.nil_append,List.append_nil]
   ·refine ⟨"str",.inl rfl,?_⟩
    rw [if_neg (by decide +kernel)]
    refine ⟨"str",.inl rfl,?_⟩
    rw [if_pos (by decide +kernel)]
    refine ⟨⟨_,h3⟩,_,h3,by simp only [List.length_map,List.length_append,List.length_cons,List.length_nil];exact z1i (by lia),l0,same s3 _,?_⟩
    simp only [List.map_append,List.map_cons,List.map_nil,List.append_assoc,List.cons_append,List.nil_append,List.append_nil]
   ·refine ⟨"int",.inl rfl,?_⟩
    rw [if_neg (by decide +kernel)]
    refine ⟨"int",.inl rfl,?_⟩
    rw [if_neg (by decide +kernel),if_neg (by rw [k2];simp;decide +kernel)]
    refine ⟨l0,s3,?_⟩
    rw [h3]
    simp only [List.map_append,List.map_cons,List.map_nil,List.append_assoc,List.cons_append,List.nil_append,List.append_nil]
   ·refine ⟨"int",.inl rfl,?_⟩
    rw [if_neg (by decide +kernel)]
    refine ⟨"int",.inl rfl,?_⟩
    rw [if_neg (by decide +kernel),if_pos (λ z=>k2 (y7r ok.1 z))]
    refine ⟨⟨_,h3⟩,?_⟩
    obtain ⟨z,rfl,hz⟩:∃z,ws=[z]/\((((i+1:Nat):Int)∈z1m d.kd/\∃u:Nat,n=(u:Int)/\nm[u]?=some z)\/(((i+1:Nat):Int) ∉ z1m d.kd/\n.natAbs < 10 ^ 20/\z=sI n)):=by
     rcases lp with ⟨m,u,x,e3,hx,rfl⟩ | ⟨m,b,rfl⟩
     ·exact ⟨x,rfl,.inl ⟨m,u,e3,hx⟩⟩
     ·exact ⟨_,rfl,.inr ⟨m,b,rfl⟩⟩
    refine ⟨a,na,d.kd,i+1,_,nm,n,z,rfl,ok.1,s3 _ _ ha,hd,e1,hn.same s3,hz,λ G sG=>?_⟩
    refine ⟨_,sG _ _ h3,by simp only [List.length_map,List.length_append,List.length_cons,List.length_nil];exact z1i (by lia),l0,same (s3.trans sG) _,?_⟩
    simp only [List.map_append,List.map_cons,List.map_nil,List.append_assoc,List.cons_append,List.nil_append,List.append_nil]
  ·obtain ⟨l,y5,y6,rfl,l0,s3,h3⟩:=h
   rw [show ((((stV d ra).length:Nat):Int) - 1).toNat=(x0d d nm).length by lia,List.take_length,List.append_assoc,x3z ok.1] at h3
   exact hR _ _ ⟨l,y5,y6,rfl,s3,h3⟩
 rintro σ3 H3 ⟨l,y5,y6,rfl,s3,h3⟩
 wp_walk using z1b,z1c,tyS,inV,eqV
 exact ⟨_,.of h3,Nat.le_trans (y1y (H:=H0) ok no hra (by lia) (by decide +kernel) (y3m ok.1)) (by decide),q _ s3⟩
abbrev z8f:Stmt:=top 45
def z4a:Sp:=λ vs H Q _=>∃(a:Addr) (ns:List Int),vs=[.ref a]/\H a=some (.lst (ns.map V.int))/\1≤ns.length/\ns.length≤44/\∀H' p ds as,Same H H'->H' p=some (.tup (as.map V.ref))->SdsAt H' ds as->ds.length=ns.length->(∀d∈ds,y4e ns.length d)->z9i ds->Q (.ref p) H'
theorem y8y:FnScope ["cells","steps","k","cell","ahead","used"] ["cells"] (z0m z8f):=⟨rfl,rfl,rfl,by decide +kernel,rfl,by decide +kernel,by decide +kernel⟩
theorem y9j (F:Fun K "_law_steps" "_law_steps" z8f f fd) (clawdraw:Callee P w K mg base CX0 (3) "_law_draw" ["cell","k","many"] z0r) (clawkind:Callee P w K mg base CX0 (3) "_law_kind" ["cell","ahead"] z8d) (clawmade:Callee P w K mg base CX0 (3) "_law_made" ["kind","cell","used"] z8c) (zrange:mg "range"=none) (zlen:mg "len"=none) (zmax:mg "max"=none) (ztuple:mg "tuple"=none):FnOk P w K mg base CX0 (4) f fd ["cells"] (z4a):=by
 have sc:=y8y
 refine F.ok sc (λ vs H Q E h=>?_) (λ cdv A outer s H vs Q E hr h=>?_)
 ·obtain ⟨a,ns,rfl,_⟩:=h;rfl
 obtain ⟨a,ns,rfl,ha,n1,n40,q⟩:=h
 refine ⟨_,(z0f (z0s (i:=1) sc.nd rfl (by first | exact Or.inl rfl | exact Or.inr rfl) (z1j z0e)) (z0f (z9r PassesOwn.never rfl (z2x (by rfl) zrange (z0a (z0w z0y (by rfl) zlen PySem.boot_len (z0a (pv 0) z0e)) z0e)) (z2a (i:=2) sc.nd rfl (Or.inl rfl)) (z0f (z0s (i:=3) sc.nd rfl (by first | exact Or.inl rfl | exact Or.inr rfl) (z0l z2h (z1f z0z (pv 0) (pv 2) (λ _ _=>rfl)) (z0l z8p (z0l z8p (pv 2) (pv 2)) z0g))) (z0f (z0s (i:=4) sc.nd rfl (by first | exact Or.inl rfl | exact Or.inr rfl) (z0w (y3w rfl) (by rfl) zmax boot_max (z0a z0g (z0a (pv 2) z0e)))) (z0f (y1a (own:=["j"]) (fv:=["cell","ahead"]) (js:=[3,4]) sc.nd (i:=5) rfl (by first | exact Or.inl rfl | exact Or.inr rfl) (by first | exact Or.inl rfl | exact Or.inr rfl) rfl (z2x (by rfl) zrange (z0a z0g z0e)) rfl (by decide) rfl (by decide) (by first | exact λ _ _ h=>h | exact z4y rfl | exact z4x rfl rfl | exact z4w rfl rfl rfl) (z7d (by rfl)) rfl (v2u (by first | exact ⟨rfl,.inl rfl,.inl rfl⟩ | exact ⟨rfl,.inl rfl,.inr rfl⟩) (by first | exact ⟨rfl,.inl rfl,.inl rfl⟩ | exact ⟨rfl,.inl rfl,.inr rfl⟩)) (λ _ _ _ _=>(z2a (i:=0) (show (["j","cell","ahead"]:List Str).Nodup by decide +kernel) rfl (Or.inl rfl))) (λ _ _ _ _=>(z0u clawdraw hr (by rfl) z1g (z0a (pv 1) (z0a (pv 0) (z0a (pv 2) z0e)))))) (z0k (z3n (z7a (pv 1) (z0u clawmade hr (by rfl) z1g (z0a (z0u clawkind hr (by rfl) z1g (z0a (pv 3) (z0a (pv 2) z0e))) (z0a (pv 3) (z0a (pv 5) z0e))))))))))) (z0k (z0p (z1s z1t (by rfl) ztuple boot_tuple (z0a (pv 1) z0e)))))),?_⟩
 simp only [L2.start,List.length_cons,List.length_nil,List.replicate,List.cons_append,List.nil_append,Nat.reduceSub,Nat.reduceAdd,List.map_cons,List.map_nil]
 refine z0j (λ σ H1=>∃l,σ=[some (.ref a),some (.ref l),none,none,none,none]/\H l=none/\Same H H1/\H1 l=some (.lst [])) ?_ (λ R hR=>?_)
 rotate_left
 ·wp_walk using z1b,z1c,tyS,inV,eqV
  exact ⟨small (by decide),λ p hp=>hR _ _ ⟨p,rfl,hp,z0b hp _,z0d⟩⟩
 rintro σ1 H1 ⟨l,rfl,l0,s1,h1⟩
 have same:∀ {G:Hp},Same H G->∀o,Same H (upd G l o):=λ {G} sg o b u e=>by rw [z0o (λ z=>by rw [z,l0] at e;cases e)];exact sg _ _ e
 refine z0j (λ σ H2=>∃y2 y3 y4 y5 ds as,σ=[some (.ref a),some (.ref l),y2,y3,y4,y5]/\Same H H2/\H2 l=some (.lst (as.map V.ref))/\SdsAt H2 ds as/\ds.length=ns.length/\(∀d∈ds,y4e ns.length d)/\z9i ds) ?_ (λ R hR=>?_)
 rotate_left
 ·wp_walk using z1b,z1c,tyS,inV,eqV
  refine ⟨_,.inl (.of (s1 _ _ ha)),by rw [z6t];lia,by rw [z6t];lia,?_⟩
  rw [z6t,Int.toNat_natCast]
  refine LoopR.mk (λ i σ H2=>∃y2 y3 y4 y5 ds as,σ=[some (.ref a),some (.ref l),y2,y3,y4,y5]/\Same H H2/\H2 l=some (.lst (as.map V.ref))/\SdsAt H2 ds as/\ds.length=i/\(∀d∈ds,y4e ns.length d)/\z9i ds) ⟨_,_,_,_,[],[],rfl,s1,h1,⟨rfl,λ i d e=>by simp at e⟩,rfl,(λ d hd=>nomatch hd),λ i d e=>by simp at e⟩ (λ i σ H2 hi h=>?_) (λ σ H2 h=>?_)
  ·obtain ⟨y2,y3,y4,y5,ds,as,rfl,s2,h2,sd,dl,dk,od⟩:=h
   simp only [z9f,List.set_cons_succ,List.set_cons_zero]
   rw [Int.zero_add]
   refine z0j (λ σ H3=>H3=H2/\∃c:Int,σ=[some (.ref a),some (.ref l),some (.int (i:Int)),some (.int c),y4,y5]) ?_ (λ R hR=>?_)
   rotate_left
   ·wp_walk using z1b,z1c,tyS,inV,eqV
    exact ⟨_,s2 _ _ ha,_,w9b (by lia),.inl ⟨by lia,by lia⟩,_,rfl,hR _ _ ⟨rfl,_,rfl⟩⟩
   rintro σ3 H3 ⟨rfl,c,rfl⟩
   refine z0j (λ σ H4=>H4=H3/\∃m:Int,1≤m/\m≤ns.length/\((i:Int)=0\/m≤(i:Int))/\σ=[some (.ref a),some (.ref l),some (.int (i:Int)),some (.int c),some (.int m),y5]) ?_ (λ R hR=>?_)
   rotate_left
   ·wp_walk using z1b,z1c,tyS,inV,eqV
    exact hR _ _ ⟨rfl,_,by split<;>lia,by split<;>lia,by split<;>lia,rfl⟩
   rintro σ4 H4 ⟨rfl,m,m1,mn,mi,rfl⟩
   refine z0j (λ σ H5=>Same H4 H5/\∃(pu:Addr) (u0 u1 u2:Nat),(u0 < ns.length/\u1 < ns.length/\u2 < ns.length)/\((i:Int)=0\/(u0 < i/\u1 < i/\u2 < i))/\H5 pu=some (.lst [.int (u0:Int),.int (u1:Int),.int (u2:Int)])/\σ=[some (.ref a),some (.ref l),some (.int (i:Int)),some (.int c),some (.int m),some (.ref pu)]) ?_ (λ R hR=>?_)
   rotate_left
   ·wp_walk using z1b,z1c,tyS,inV,eqV
    refine CompR.mk (λ j ys σ G=>G=H4/\(∃us:List Nat,ys=us.map (λ (u:Nat)=>V.int (u:Int))/\us.length=j/\∀u∈us,u < ns.length/\((i:Int)=0\/u < i))/\∃y,σ=[y,some (.int c),some (.int m)]) ⟨rfl,⟨[],rfl,rfl,λ u hu=>nomatch hu⟩,_,rfl⟩ (λ j ys σ G hj h=>?_) (λ ys σ G h p2 hp2=>?_)
    ·obtain ⟨rfl,⟨us,rfl,hus,hub⟩,y,rfl⟩:=h
     refine ⟨by rw [List.length_map];exact z1i (by lia),?_⟩
     wp_walk using z1b,z1c,tyS,inV,eqV,z0r
     have r:=z1d c (0+(j:Int)) (show 0 < m by lia)
     refine ⟨by lia,by lia,by lia,⟨us++[(z1q c (0+(j:Int)) m).toNat],?_,by simp [hus],λ u hu=>?_⟩,_,rfl⟩
     ·rw [List.map_append]
      show _++[V.int _]=_++[V.int (((z1q c (0+(j:Int)) m).toNat:Nat):Int)]
      rw [Int.toNat_of_nonneg r.1]
     ·rcases List.mem_append.mp hu with hu | hu
      ·exact hub u hu
      ·cases List.mem_singleton.mp hu;exact ⟨by lia,by lia⟩
    ·obtain ⟨rfl,⟨us,rfl,hus,hub⟩,y,rfl⟩:=h
     match us,hus,hub with
     | [u0,u1,u2],_,hub=>exact hR _ _ ⟨z0b hp2 _,p2,u0,u1,u2,⟨(hub u0 (by simp)).1,(hub u1 (by simp)).1,(hub u2 (by simp)).1⟩,by have a:=(hub u0 (by simp)).2;have b:=(hub u1 (by simp)).2;have c:=(hub u2 (by simp)).2;lia,z0d,rfl⟩
   rintro σ5 H5 ⟨s5,pu,u0,u1,u2,⟨b0,b1,b2⟩,bi,h5,rfl⟩
   wp_walk using z1b,z1c,tyS,inV,eqV,z8d,z8c
   refine ⟨⟨_,s5 _ _ h2⟩,λ H6 kd hk hk0 s6=>⟨kd,hk,rfl,u0,u1,u2,s6 _ _ h5,λ H7 p ra s7 h7 g7=>?_⟩⟩
   have s47:=s5.trans (s6.trans s7)
   have l7:=s47 _ _ h2
   refine ⟨_,l7,by rw [List.length_map];have:=sd.1;exact z1i (by lia),same (s2.trans s47) _,?_⟩
   refine ⟨ds++[⟨kd,c,u0,u1,u2⟩],as++[p],by rw [List.map_append];rfl,?_,by simp [dl],λ d hd=>?_,λ z d e=>?_⟩
   ·exact ((sd.same s47).snoc ⟨ra,h7,g7⟩).lst l7
   ·rcases List.mem_append.mp hd with hd | hd
    ·exact dk d hd
    ·cases List.mem_singleton.mp hd;exact ⟨hk,b0,b1,b2⟩
   ·rcases Nat.lt_or_ge z ds.length with hz | hz
    ·rw [List.getElem?_append_left hz] at e
     exact od z d e
    ·rw [List.getElem?_append_right hz] at e
     have z0:z - ds.length=0:=by
      cases h0:z - ds.length with
      | zero=>rfl
      | succ n=>rw [h0] at e;cases e
     rw [z0] at e
     cases (Option.some.inj e)
     have zi:z=i:=by lia
     subst zi
     rcases bi with bi | bi
     ·exact .inl (hk0 bi)
     ·exact .inr bi
  ·exact hR _ _ h
 rintro σ2 H2 ⟨y2,y3,y4,y5,ds,as,rfl,s2,h2,sd,dl,dk,od⟩
 wp_walk using z1b,z1c,tyS,inV,eqV
 refine ⟨_,.inl ⟨.of h2,λ p hp=>q _ _ ds as (s2.trans (z0b hp _)) z0d (sd.same (z0b hp _)) dl dk od⟩⟩
abbrev z5n:Stmt:=top 46
def z4q:W.Frag->Sp:=λ K=>λ vs H Q _=>∃(a:Addr) (ns:List Int),vs=[.ref a]/\SqL K H a (ns.map V.int)/\ns.length≤63/\∀H' p st ou ds as (os:List Nat),Same H H'->H' p=some (.tup [.ref st,.ref ou])->H' st=some (.tup (as.map V.ref))->SdsAt H' ds as->1≤ds.length->ds.length≤40->(∀d∈ds,y4e ds.length d)->H' ou=some (.tup (os.map λ (o:Nat)=>V.int (o:Int)))->1≤os.length->os.length≤8->(∀o∈os,o < ds.length)->z9i ds->Q (.ref p) H'
theorem y2i:FnScope ["script","cells","steps","total","outs","j"] ["script"] (z0m z5n):=⟨rfl,rfl,rfl,by decide +kernel,rfl,by decide +kernel,by decide +kernel⟩
theorem y3e (F:Fun K "_law_program" "_law_program" z5n f fd) (clawsteps:Callee P w K mg base CX0 (4) "_law_steps" ["cells"] z4a) (clawdraw:Callee P w K mg base CX0 (4) "_law_draw" ["cell","k","many"] z0r) (zlen:mg "len"=none) (zsum:mg "sum"=none) (zrange:mg "range"=none) (ztuple:mg "tuple"=none):FnOk P w K mg base CX0 (5) f fd ["script"] (z4q K):=by
 have sc:=y2i
 refine F.ok sc (λ vs H Q E h=>?_) (λ cdv A outer s H vs Q E hr h=>?_)
 ·obtain ⟨a,ns,rfl,_⟩:=h;rfl
 obtain ⟨a,ns,rfl,hS,h63,q⟩:=h
 refine ⟨_,(z0f (z0s (i:=1) sc.nd rfl (by first | exact Or.inl rfl | exact Or.inr rfl) (z2v z6n (pv 0) z3v (z3u z0g))) (z0f (z1l (z0n z1w (z0w z0y (by rfl) zlen PySem.boot_len (z0a (pv 1) z0e)) z0g (z0v _)) (z0k (z0s (i:=1) sc.nd rfl (by first | exact Or.inl rfl | exact Or.inr rfl) (z1j (z0a z0g z0e)))) z0t) (z0f (z0s (i:=2) sc.nd rfl (by first | exact Or.inl rfl | exact Or.inr rfl) (z0u clawsteps hr (by rfl) z1g (z0a (pv 1) z0e))) (z0f (z0s (i:=3) sc.nd rfl (by first | exact Or.inl rfl | exact Or.inr rfl) (z0w (y3v rfl) (by rfl) zsum boot_sum (z0a (pv 0) z0e))) (z0f (z0s (i:=4) sc.nd rfl (by first | exact Or.inl rfl | exact Or.inr rfl) (z1j z0e)) (z0f (z9r PassesOwn.never rfl (z2x (by rfl) zrange (z0a (z0l z2h z0g (z0u clawdraw hr (by rfl) z1g (z0a (pv 3) (z0a z0g (z0a z0g z0e))))) z0e)) (z2a (i:=5) sc.nd rfl (Or.inl rfl)) (z0k (z3n (z7a (pv 4) (z0u clawdraw hr (by rfl) z1g (z0a (z0l z2h (pv 3) (z0l z8p (pv 5) (pv 5))) (z0a (z0l z2h z0g (pv 5)) (z0a (z0w z0y (by rfl) zlen PySem.boot_len (z0a (pv 2) z0e)) z0e)))))))) (z0k (z0p (z2k (z0a (pv 2) (z0a (z1s z1t (by rfl) ztuple boot_tuple (z0a (pv 4) z0e)) z0e))))))))))),?_⟩
 simp only [L2.start,List.length_cons,List.length_nil,List.replicate,List.cons_append,List.nil_append,Nat.reduceSub,Nat.reduceAdd,List.map_cons,List.map_nil]
 refine z0j (λ σ H1=>∃ca,σ=[some (.ref a),some (.ref ca),none,none,none,none]/\Same H H1/\H1 ca=some (.lst ((ns.take 40).map V.int))) ?_ (λ R hR=>?_)
 rotate_left
 ·wp_walk using z1b,z1c,tyS,inV,eqV,w4u
  refine ⟨_,hS,λ p hp=>?_⟩
  rw [show z9h (ns.map V.int) none (some 40)=(ns.take 40).map V.int from w4c ns 40]
  exact hR _ _ ⟨p,rfl,z0b hp _,z0d⟩
 rintro σ1 H1 ⟨ca,rfl,s1,h1⟩
 refine z0j (λ σ H2=>∃(ca:Addr) (ms:List Int),σ=[some (.ref a),some (.ref ca),none,none,none,none]/\Same H H2/\H2 ca=some (.lst (ms.map V.int))/\1≤ms.length/\ms.length≤40) ?_ (λ R hR=>?_)
 rotate_left
 ·wp_walk using z1b,z1c,tyS,inV,eqV
  refine ⟨_,.inl (.of h1),?_⟩
  have tl:(ns.take 40).length≤40:=by rw [List.length_take];lia
  split
  ·exact ⟨small (by decide),λ p hp=>hR _ _ ⟨p,[0],rfl,s1.trans (z0b hp _),z0d,by simp,by simp⟩⟩
  ·rename_i c
   rw [z6t] at c
   exact hR _ _ ⟨ca,_,rfl,s1,h1,by lia,tl⟩
 rintro σ2 H2 ⟨ca,ms,rfl,s2,h2,m1,m40⟩
 refine z0j (λ σ H3=>∃(st:Addr) (ds:List Sd) (as:List Addr),σ=[some (.ref a),some (.ref ca),some (.ref st),none,none,none]/\Same H H3/\H3 st=some (.tup (as.map V.ref))/\SdsAt H3 ds as/\ds.length=ms.length/\(∀d∈ds,y4e ds.length d)/\z9i ds) ?_ (λ R hR=>?_)
 rotate_left
 ·wp_walk using z1b,z1c,tyS,inV,eqV,z4a
  exact ⟨ms,h2,m1,Nat.le_trans m40 (by decide),λ H3 p ds as s3 h3 sd dl dk od=>hR _ _ ⟨p,ds,as,rfl,s2.trans s3,h3,sd,dl,(λ d hd=>by rw [dl];exact dk d hd),od⟩⟩
 rintro σ3 H3 ⟨st,ds,as,rfl,s3,h3,sd,dl,dk,od⟩
 refine z0j (λ σ H4=>H4=H3/\∃t:Int,σ=[some (.ref a),some (.ref ca),some (.ref st),some (.int t),none,none]) ?_ (λ R hR=>?_)
 rotate_left
 ·wp_walk using z1b,z1c,tyS,inV,eqV
  exact ⟨ns,s3.seq hS,hR _ _ ⟨rfl,_,rfl⟩⟩
 rintro σ4 H4 ⟨rfl,t,rfl⟩
 refine z0j (λ σ H5=>∃l,σ=[some (.ref a),some (.ref ca),some (.ref st),some (.int t),some (.ref l),none]/\H4 l=none/\Same H4 H5/\H5 l=some (.lst [])) ?_ (λ R hR=>?_)
 rotate_left
 ·wp_walk using z1b,z1c,tyS,inV,eqV
  exact ⟨small (by decide),λ p hp=>hR _ _ ⟨p,rfl,hp,z0b hp _,z0d⟩⟩
 rintro σ5 H5 ⟨l,rfl,l0,s5,h5⟩
 have same:∀ {G:Hp},Same H4 G->∀o,Same H4 (upd G l o):=λ {G} sg o b u e=>by rw [z0o (λ z=>by rw [z,l0] at e;cases e)];exact sg _ _ e
 have r8:=z1d t 61 (show (0:Int) < 8 by decide)
 refine z0j (λ σ H6=>∃(y5:Option V) (os:List Nat),σ=[some (.ref a),some (.ref ca),some (.ref st),some (.int t),some (.ref l),y5]/\Same H4 H6/\H6 l=some (.lst (os.map λ (o:Nat)=>V.int (o:Int)))/\1≤os.length/\os.length≤8/\∀o∈os,o < ds.length) ?_ (λ R hR=>?_)
 rotate_left
 ·wp_walk using z1b,z1c,tyS,inV,eqV,z0r
  refine ⟨by lia,by lia,?_⟩
  generalize hz:(1+z1q t 61 8).toNat=nz at *
  refine LoopR.mk (λ i σ H6=>∃(y5:Option V) (os:List Nat),σ=[some (.ref a),some (.ref ca),some (.ref st),some (.int t),some (.ref l),y5]/\Same H4 H6/\H6 l=some (.lst (os.map λ (o:Nat)=>V.int (o:Int)))/\os.length=i/\∀o∈os,o < ds.length) ⟨_,[],rfl,s5,h5,rfl,λ o ho=>nomatch ho⟩ (λ i σ H6 hi h=>?_) (λ σ H6 h=>?_)
  ·obtain ⟨y5,os,rfl,s6,h6,ol,ob⟩:=h
   wp_walk using z1b,z1c,tyS,inV,eqV,z0r
   have al:(as.map V.ref).length=ds.length:=by rw [List.length_map,sd.1]
   have r:=z1d (t+(0+(i:Int)) * (0+(i:Int))) (60+(0+(i:Int))) (show (0:Int) < ((as.map V.ref).length:Int) by rw [al];lia)
   refine ⟨⟨_,h6⟩,.inl ⟨by lia,by lia⟩,_,.inr (.of (s6 _ _ h3)),by lia,by lia,by rw [al];lia,_,h6,by rw [List.length_map];exact z1i (by lia),same s6 _,os++[(z1q (t+(0+(i:Int)) * (0+(i:Int))) (60+(0+(i:Int))) ((as.map V.ref).length:Int)).toNat],?_,by simp [ol],λ o ho=>?_⟩
   ·rw [List.map_append,List.map_cons,List.map_nil,Int.toNat_of_nonneg r.1]
   ·rcases List.mem_append.mp ho with ho | ho
    ·exact ob o ho
    ·cases List.mem_singleton.mp ho;rw [al] at r;rw [al];lia
  ·obtain ⟨y5,os,rfl,s6,h6,ol,ob⟩:=h
   exact hR _ _ ⟨y5,os,rfl,s6,h6,by lia,by lia,ob⟩
 rintro σ6 H6 ⟨y5,os,rfl,s6,h6,o1,o8,ob⟩
 wp_walk using z1b,z1c,tyS,inV,eqV
 refine ⟨_,.inl ⟨.of h6,λ p hp=>⟨small (by decide),λ p1 hp1=>?_⟩⟩⟩
 have s8:=s6.trans ((z0b hp (HO.tup (os.map λ (o:Nat)=>V.int (o:Int)))).trans (z0b hp1 (HO.tup [V.ref st,V.ref p])))
 exact q _ p1 st p ds as os (s3.trans s8) z0d (s8 _ _ h3) (sd.same s8) (by lia) (by lia) dk (z0b hp1 _ _ _ z0d) o1 o8 ob od
abbrev z4i:Stmt:=top 47
def z2e:Sp:=λ vs H Q _=>∃k:Nat,vs=[.int (k:Int)]/\k < 44/\Q (.str (z5z k)) H
theorem z9b:FnScope ["k","some"] ["k"] (z0m z4i):=⟨rfl,rfl,rfl,by decide +kernel,rfl,by decide +kernel,by decide +kernel⟩
theorem z9d (F:Fun K "_law_plain_name" "_law_plain_name" z4i f fd):FnOk P w K mg base CX0 (1) f fd ["k"] (z2e):=by
 have sc:=z9b
 refine F.ok sc (λ vs H Q E h=>?_) (λ cdv A outer s H vs Q E hr h=>?_)
 ·obtain ⟨k,rfl,_⟩:=h;rfl
 obtain ⟨k,rfl,k40,q⟩:=h
 refine ⟨_,(z0f (z0s (i:=1) sc.nd rfl (by first | exact Or.inl rfl | exact Or.inr rfl) z0i) (z0f (z1l (z0n x2u (pv 0) z0g (z0v _)) (z0k (z0p (z2b (pv 1) (pv 0) (λ _ _=>rfl)))) z0t) (z0k (z0p (z0l z0c (z2b (pv 1) (z0l z7c (z0l y5g (pv 0) z0g) z0g) (λ _ _=>rfl)) (z2b (pv 1) (z0l z4e (pv 0) z0g) (λ _ _=>rfl))))))),?_⟩
 wp_walk using z1b,z1c,tyS,inV,eqV
 unfold z5z at q
 by_cases c:k < 26
 ·rw [if_pos (by lia)]
  rw [if_pos c] at q
  exact ⟨by lia,by lia,by rw [z5b];lia,_,x9y c,q⟩
 ·rw [if_neg (by lia)]
  rw [if_neg c] at q
  have e1:((k:Int) / 26 - 1).toNat=k / 26 - 1:=by lia
  have e2:((k:Int) % 26).toNat=k % 26:=by lia
  refine ⟨by lia,by lia,by rw [z5b];lia,97+(k / 26 - 1),by rw [e1];exact x9y (by lia),by lia,by lia,by rw [z5b];lia,97+k % 26,by rw [e2];exact x9y (by lia),?_⟩
  exact ⟨small (show 2≤1000 by decide),q⟩
abbrev z1x:Stmt:=top 48
def z6k:Sp:=λ vs H Q _=>∃(c:Int) (n:Nat),vs=[.int c,.int (n:Int)]/\n≤44/\∀H' p nm,Same H H'->H' p=some (.tup (nm.map V.str))->nm.length=n->z4n nm->Q (.ref p) H'
@[irreducible] def wplawnames:List (Str × Pos):=[("out",⟨207,13,207,18⟩),("in",⟨207,20,207,24⟩),("num",⟨207,26,207,31⟩),("count",⟨207,33,207,40⟩),("each",⟨207,42,207,48⟩),("pair",⟨207,50,207,56⟩),("pick",⟨207,58,207,64⟩),("turn",⟨207,66,207,72⟩),("flip",⟨207,74,207,80⟩),("cut",⟨207,82,207,87⟩),("spread",⟨207,89,207,97⟩),("lay",⟨207,99,207,104⟩)]
theorem x0c:z1a z1x=[(z1a z1x).getD 0 (.Pass ⟨0,0,0,0⟩),(z1a z1x).getD 1 (.Pass ⟨0,0,0,0⟩),(z1a z1x).getD 2 (.Pass ⟨0,0,0,0⟩),(z1a z1x).getD 3 (.Pass ⟨0,0,0,0⟩),(z1a z1x).getD 4 (.Pass ⟨0,0,0,0⟩),.Assign [.Name "kinds" ⟨207,4,207,9⟩] (.List (w1p wplawnames) ⟨207,12,207,105⟩) ⟨207,4,207,105⟩,(z1a z1x).getD 6 (.Pass ⟨0,0,0,0⟩),(z1a z1x).getD 7 (.Pass ⟨0,0,0,0⟩),(z1a z1x).getD 8 (.Pass ⟨0,0,0,0⟩),(z1a z1x).getD 9 (.Pass ⟨0,0,0,0⟩)]:=by kernel_rfl
theorem z9k:(wplawnames.map (·.1)).map V.str=[V.str "out",V.str "in",V.str "num",V.str "count",V.str "each",V.str "pair",V.str "pick",V.str "turn",V.str "flip",V.str "cut",V.str "spread",V.str "lay"]:=by unfold wplawnames;rfl
theorem y9b:FnScope ["cell","many","some","way","fill","spot","step","kinds","names","k","name"] ["cell","many"] (z0m z1x):=⟨rfl,rfl,rfl,by decide +kernel,rfl,by decide +kernel,by decide +kernel⟩
theorem y9m (F:Fun K "_law_names" "_law_names" z1x f fd) (clawdraw:Callee P w K mg base CX0 (1) "_law_draw" ["cell","k","many"] z0r) (clawplainname:Callee P w K mg base CX0 (1) "_law_plain_name" ["k"] z2e) (zrange:mg "range"=none) (ztuple:mg "tuple"=none):FnOk P w K mg base CX0 (2) f fd ["cell","many"] (z6k):=by
 have sc:=y9b
 refine F.ok sc (λ vs H Q E h=>?_) (λ cdv A outer s H vs Q E hr h=>?_)
 ·obtain ⟨c,n,rfl,_⟩:=h;rfl
 obtain ⟨c,n,rfl,n40,q⟩:=h
 rw [x0c]
 refine ⟨_,(z0f (z0s (i:=2) sc.nd rfl (by first | exact Or.inl rfl | exact Or.inr rfl) z0i) (z0f (z0s (i:=3) sc.nd rfl (by first | exact Or.inl rfl | exact Or.inr rfl) (z0u clawdraw hr (by rfl) z1g (z0a (pv 0) (z0a z0g (z0a z0g z0e))))) (z0f (z0s (i:=4) sc.nd rfl (by first | exact Or.inl rfl | exact Or.inr rfl) (z2b (pv 2) (z0u clawdraw hr (by rfl) z1g (z0a (pv 0) (z0a z0g (z0a z0g z0e)))) (λ _ _=>rfl))) (z0f (z0s (i:=5) sc.nd rfl (by first | exact Or.inl rfl | exact Or.inr rfl) (z0u clawdraw hr (by rfl) z1g (z0a (pv 0) (z0a z0g (z0a z0g z0e))))) (z0f (z0s (i:=6) sc.nd rfl (by first | exact Or.inl rfl | exact Or.inr rfl) (z0u clawdraw hr (by rfl) z1g (z0a (pv 0) (z0a z0g (z0a z0g z0e))))) (z0f (z0s (i:=7) sc.nd rfl (by first | exact Or.inl rfl | exact Or.inr rfl) (z1j (y5e wplawnames))) (z0f (z0s (i:=7) sc.nd rfl (by first | exact Or.inl rfl | exact Or.inr rfl) (z0l z2l (pv 7) (z1j (z3a (z3a (z3a (z3a (z3a (z3a (z3a z0e)))))))))) (z0f (z0s (i:=8) sc.nd rfl (by first | exact Or.inl rfl | exact Or.inr rfl) (z1j z0e)) (z0f (z9r PassesOwn.never rfl (z2x (by rfl) zrange (z0a (pv 1) z0e)) (z2a (i:=9) sc.nd rfl (Or.inl rfl)) (z0f (z0s (i:=10) sc.nd rfl (by first | exact Or.inl rfl | exact Or.inr rfl) (z0u clawplainname hr (by rfl) z1g (z0a (pv 9) z0e))) (z0f (z1l (z0n z1w (pv 3) z0g (z0v _)) (z0k (z0s (i:=10) sc.nd rfl (by first | exact Or.inl rfl | exact Or.inr rfl) (z0l z0c (z0l z5h (pv 4) (z0l z4e (pv 9) z0g)) (z2b (pv 2) (z0l z4e (z0l z2h (pv 6) (z0l y5g (pv 9) z0g)) z0g) (λ _ _=>rfl))))) z0t) (z0f (z1l (PW.pt (z4r (z0n z1w (pv 3) z0g (z0v _)) (z4m (z0n z1w (pv 3) z0g (z0v _))))) (z0f (z0s (i:=10) sc.nd rfl (by first | exact Or.inl rfl | exact Or.inr rfl) (z0l z0c (z2b (pv 2) (z0l z4e (z0l z2h (pv 6) (pv 9)) z0g) (λ _ _=>rfl)) (z2b (pv 2) (z0l y5g (pv 9) z0g) (λ _ _=>rfl)))) (z0k (z0s (i:=10) sc.nd rfl (by first | exact Or.inl rfl | exact Or.inr rfl) (z0l z0c (z0l z0c (z0l z5h (pv 4) (pv 5)) (pv 10)) (z0l z5h (pv 4) (z0l z7c z0g (pv 5))))))) z0t) (z0f (z1l (PW.pt (y6m (z0n z1w (pv 3) z0g (z0v _)) (y0y (z0n x2u (pv 9) z0g (z0v _))))) (z0k (z0s (i:=10) sc.nd rfl (by first | exact Or.inl rfl | exact Or.inr rfl) (z1f z0z (pv 7) (z0l z4e (z0l z2h (pv 9) (pv 6)) z0g) (λ _ _=>rfl)))) z0t) (z0k (z3n (z7a (pv 8) (pv 10))))))))) (z0k (z0p (z1s z1t (by rfl) ztuple boot_tuple (z0a (pv 8) z0e))))))))))))),?_⟩
 simp only [L2.start,List.length_cons,List.length_nil,List.replicate,List.cons_append,List.nil_append,Nat.reduceSub,Nat.reduceAdd,List.map_cons,List.map_nil]
 refine z0j (λ σ H1=>H1=H/\σ=[some (.int c),some (.int (n:Int)),some (.str ABC),none,none,none,none,none,none,none,none]) ?_ (λ R hR=>?_)
 rotate_left
 ·wp_walk using z1b,z1c,tyS,inV,eqV
  exact hR _ _ ⟨rfl,rfl⟩
 rintro σ1 H1 ⟨rfl,rfl⟩
 have two (f:Nat):z1p [97+f]=⟨#[97+f]⟩:=rfl
 refine z0j (λ σ H2=>H2=H1/\∃way:Nat,σ=[some (.int c),some (.int (n:Int)),some (.str ABC),some (.int (way:Int)),none,none,none,none,none,none,none]) ?_ (λ R hR=>?_)
 rotate_left
 ·wp_walk using z1b,z1c,tyS,inV,eqV,z0r
  have r:=z1d c 70 (show (0:Int) < 4 by decide)
  exact hR _ _ ⟨rfl,(z1q c 70 4).toNat,by rw [Int.toNat_of_nonneg r.1]⟩
 rintro σ2 H2 ⟨rfl,way,rfl⟩
 refine z0j (λ σ H3=>H3=H2/\∃fl:Nat,fl < 26/\σ=[some (.int c),some (.int (n:Int)),some (.str ABC),some (.int (way:Int)),some (.str (z1p [97+fl])),none,none,none,none,none,none]) ?_ (λ R hR=>?_)
 rotate_left
 ·wp_walk using z1b,z1c,tyS,inV,eqV,z0r
  have r:=z1d c 71 (show (0:Int) < 26 by decide)
  exact ⟨r.1,by lia,by rw [z5b];lia,_,w9d r.1 r.2,hR _ _ ⟨rfl,(z1q c 71 26).toNat,by lia,rfl⟩⟩
 rintro σ3 H3 ⟨rfl,fl,fl1,rfl⟩
 refine z0j (λ σ H4=>H4=H3/\∃sp:Nat,sp < 7/\σ=[some (.int c),some (.int (n:Int)),some (.str ABC),some (.int (way:Int)),some (.str (z1p [97+fl])),some (.int (sp:Int)),none,none,none,none,none]) ?_ (λ R hR=>?_)
 rotate_left
 ·wp_walk using z1b,z1c,tyS,inV,eqV,z0r
  have r:=z1d c 72 (show (0:Int) < 7 by decide)
  exact hR _ _ ⟨rfl,(z1q c 72 7).toNat,by lia,by rw [Int.toNat_of_nonneg r.1]⟩
 rintro σ4 H4 ⟨rfl,sp,sp7,rfl⟩
 refine z0j (λ σ H5=>H5=H4/\∃st:Nat,st < 26/\σ=[some (.int c),some (.int (n:Int)),some (.str ABC),some (.int (way:Int)),some (.str (z1p [97+fl])),some (.int (sp:Int)),some (.int (st:Int)),none,none,none,none]) ?_ (λ R hR=>?_)
 rotate_left
 ·wp_walk using z1b,z1c,tyS,inV,eqV,z0r
  have r:=z1d c 73 (show (0:Int) < 26 by decide)
  exact hR _ _ ⟨rfl,(z1q c 73 26).toNat,by lia,by rw [Int.toNat_of_nonneg r.1]⟩
 rintro σ5 H5 ⟨rfl,st,st26,rfl⟩
 refine z0j (λ σ H6=>∃pk,σ=[some (.int c),some (.int (n:Int)),some (.str ABC),some (.int (way:Int)),some (.str (z1p [97+fl])),some (.int (sp:Int)),some (.int (st:Int)),some (.ref pk),none,none,none]/\Same H5 H6/\H6 pk=some (.lst ((wplawnames.map (·.1)).map V.str))) ?_ (λ R hR=>?_)
 rotate_left
 ·wp_walk using z1b,z1c,tyS,inV,eqV,w1m
  exact ⟨by rw [z9k];exact small (by decide),λ p hp=>hR _ _ ⟨p,rfl,z0b hp _,z0d⟩⟩
 rintro σ6 H6 ⟨pk,rfl,s6,h6⟩
 rw [z9k] at h6
 refine z0j (λ σ H7=>∃pk,σ=[some (.int c),some (.int (n:Int)),some (.str ABC),some (.int (way:Int)),some (.str (z1p [97+fl])),some (.int (sp:Int)),some (.int (st:Int)),some (.ref pk),none,none,none]/\Same H5 H7/\H7 pk=some (.lst (k19.map V.str))) ?_ (λ R hR=>?_)
 rotate_left
 ·wp_walk using z1b,z1c,tyS,inV,eqV
  exact ⟨small (by decide),λ p hp=>⟨_,z0b hp _ _ _ h6,small (by decide),λ p1 hp1=>hR _ _ ⟨p1,rfl,s6.trans ((z0b hp _).trans (z0b hp1 _)),z0d⟩⟩⟩
 clear h6 s6
 rintro σ7 H7 ⟨pk,rfl,s7,h7⟩
 refine z0j (λ σ H8=>∃l,σ=[some (.int c),some (.int (n:Int)),some (.str ABC),some (.int (way:Int)),some (.str (z1p [97+fl])),some (.int (sp:Int)),some (.int (st:Int)),some (.ref pk),some (.ref l),none,none]/\H7 l=none/\Same H7 H8/\H8 l=some (.lst [])) ?_ (λ R hR=>?_)
 rotate_left
 ·wp_walk using z1b,z1c,tyS,inV,eqV
  exact ⟨small (by decide),λ p hp=>hR _ _ ⟨p,rfl,hp,z0b hp _,z0d⟩⟩
 rintro σ8 H8 ⟨l,rfl,l0,s8,h8⟩
 have same:∀ {G:Hp},Same H7 G->∀o,Same H7 (upd G l o):=λ {G} sg o b u e=>by rw [z0o (λ z=>by rw [z,l0] at e;cases e)];exact sg _ _ e
 have mid26:∀ {m:Int}(f:Nat),0≤m->m < 26->f=m.toNat->ABC.cps[m.toNat]?=some (97+f):=λ f h0 h1 e=>by rw [e];exact w9d h0 h1
 refine z0j (λ σ H9=>∃(y9 y10:Option V),σ=[some (.int c),some (.int (n:Int)),some (.str ABC),some (.int (way:Int)),some (.str (z1p [97+fl])),some (.int (sp:Int)),some (.int (st:Int)),some (.ref pk),some (.ref l),y9,y10]/\Same H7 H9/\H9 l=some (.lst ((z9v way fl sp st n).map V.str))) ?_ (λ R hR=>?_)
 rotate_left
 ·wp_walk using z1b,z1c,tyS,inV,eqV
  refine ⟨by lia,by lia,?_⟩
  rw [Int.toNat_natCast]
  refine LoopR.mk (λ i σ H9=>∃(y9 y10:Option V),σ=[some (.int c),some (.int (n:Int)),some (.str ABC),some (.int (way:Int)),some (.str (z1p [97+fl])),some (.int (sp:Int)),some (.int (st:Int)),some (.ref pk),some (.ref l),y9,y10]/\Same H7 H9/\H9 l=some (.lst ((z9v way fl sp st i).map V.str))) ⟨_,_,rfl,s8,h8⟩ (λ i σ H9 hi h=>?_) (λ σ H9 h=>?_)
  ·obtain ⟨y9,y10,rfl,s9,h9⟩:=h
   rw [Int.zero_add]
   simp only [z9f,List.set_cons_succ,List.set_cons_zero]
   refine z0j (λ σ G=>G=H9/\σ=[some (.int c),some (.int (n:Int)),some (.str ABC),some (.int (way:Int)),some (.str (z1p [97+fl])),some (.int (sp:Int)),some (.int (st:Int)),some (.ref pk),some (.ref l),some (.int (i:Int)),some (.str (z1p (z5z i).cps.toList))]) ?_ (λ R hR=>?_)
   rotate_left
   ·wp_walk using z1b,z1c,tyS,inV,eqV,z2e
    exact ⟨i,rfl,by lia,hR _ _ ⟨rfl,by rw [← z2f rfl]⟩⟩
   rintro σA G ⟨rfl,rfl⟩
   refine z0j (λ σ G'=>G'=G/\σ=[some (.int c),some (.int (n:Int)),some (.str ABC),some (.int (way:Int)),some (.str (z1p [97+fl])),some (.int (sp:Int)),some (.int (st:Int)),some (.ref pk),some (.ref l),some (.int (i:Int)),some (.str (z1p (nA way fl st i)))]) ?_ (λ R hR=>?_)
   rotate_left
   ·wp_walk using z1b,z1c,tyS,inV,eqV,z2e
    unfold nA at hR
    split
    ·rename_i c1
     rw [if_pos (by lia)] at hR
     refine ⟨[97+fl],rfl,by lia,by lia,by simp,?_⟩
     refine ⟨by lia,by lia,by rw [z5b];lia,97+(st+i / 8) % 26,mid26 _ (by lia) (by lia) (by lia),by rw [y1m];show _+1≤sizeLine;exact small (by lia),hR _ _ ⟨rfl,?_⟩⟩
     rw [show (⟨#[97+(st+i / 8) % 26]⟩:Str)=z1p [97+(st+i / 8) % 26] from rfl,z7o,show ((i:Int) % 8).toNat=i % 8 by lia,z6q]
    ·rename_i c1
     rw [if_neg (by lia)] at hR
     exact hR _ _ ⟨rfl,rfl⟩
   rintro σB G ⟨rfl,rfl⟩
   refine z0j (λ σ G'=>G'=G/\σ=[some (.int c),some (.int (n:Int)),some (.str ABC),some (.int (way:Int)),some (.str (z1p [97+fl])),some (.int (sp:Int)),some (.int (st:Int)),some (.ref pk),some (.ref l),some (.int (i:Int)),some (.str (z1p (nB way fl sp st i)))]) ?_ (λ R hR=>?_)
   rotate_left
   ·wp_walk using z1b,z1c,tyS,inV,eqV,z2e
    have go:R [some (.int c),some (.int (n:Int)),some (.str ABC),some (.int (way:Int)),some (.str (z1p [97+fl])),some (.int (sp:Int)),some (.int (st:Int)),some (.ref pk),some (.ref l),some (.int (i:Int)),some (.str (z1p (nB way fl sp st i)))] G:=hR _ _ ⟨rfl,rfl⟩
    have i40:i < 44:=by lia
    have put:∀a b:List Nat,a=List.replicate sp (97+fl)->b=List.replicate (6 - sp) (97+fl)->(way=2\/way=3)->z1p a++((⟨#[97+(st+i) % 26]⟩:Str)++⟨#[97+i / 26]⟩)++z1p b=z1p (nB way fl sp st i):=λ a b ea eb hw=>by
     subst ea eb
     unfold nB
     rw [if_pos hw,show (⟨#[97+(st+i) % 26]⟩:Str)++⟨#[97+i / 26]⟩=z1p [97+(st+i) % 26,97+i / 26] from z7o [_] [_],z7o,z7o]
    have l1:(z1p (List.replicate ((sp:Int)).toNat [97+fl]).flatten).length=sp:=by rw [y1m];lia
    have l2:(z1p (List.replicate (6 - (sp:Int)).toNat [97+fl]).flatten).length=6 - sp:=by rw [y1m];lia
    have arm:(way=2\/way=3)->∀S:Str->L2.St,R (S (z1p (nB way fl sp st i))) G->0≤((st:Int)+(i:Int)) % 26/\((st:Int)+(i:Int)) % 26 < 9223372036854775808/\((st:Int)+(i:Int)) % 26 < ↑ABC.length/\∃x,ABC.cps[(((st:Int)+(i:Int)) % 26).toNat]?=some x/\0≤(i:Int) / 26/\(i:Int) / 26 < 9223372036854775808/\(i:Int) / 26 < ↑ABC.length/\∃x_1,ABC.cps[((i:Int) / 26).toNat]?=some x_1 /\
      (⟨#[x]⟩:Str).length+(⟨#[x_1]⟩:Str).length≤sizeLine/\∃a,z1p [97+fl]=z1p a/\0≤(sp:Int)/\(sp:Int)≤100/\a.length≤10/\(z1p (List.replicate ((sp:Int)).toNat a).flatten).length+((⟨#[x]⟩:Str)++⟨#[x_1]⟩).length≤sizeLine/\∃a_1,z1p [97+fl]=z1p a_1/\0≤6 - (sp:Int)/\6 - (sp:Int)≤100/\a_1.length≤10 /\
       (z1p (List.replicate ((sp:Int)).toNat a).flatten++((⟨#[x]⟩:Str)++⟨#[x_1]⟩)).length+(z1p (List.replicate (6 - (sp:Int)).toNat a_1).flatten).length≤sizeLine/\R (S (z1p (List.replicate ((sp:Int)).toNat a).flatten++((⟨#[x]⟩:Str)++⟨#[x_1]⟩)++z1p (List.replicate (6 - (sp:Int)).toNat a_1).flatten)) G:=λ hw S go=>by
     refine ⟨by lia,by lia,by rw [z5b];lia,97+(st+i) % 26,mid26 _ (by lia) (by lia) (by lia),by lia,by lia,by rw [z5b];lia,97+i / 26,mid26 _ (by lia) (by lia) (by lia),small (show 2≤1000 by decide),[97+fl],rfl,by lia,by lia,by simp,by rw [l1,x0k];exact small (by lia),[97+fl],rfl,by lia,by lia,by simp,by rw [strLen_append,l1,l2,x0k];exact small (by lia),?_⟩
     rw [put _ _ (by rw [z6q,Int.toNat_natCast]) (by rw [z6q];congr 1;lia) hw]
     exact go
    split
    ·exact arm (.inl (by lia)) (λ z=>[some (.int c),some (.int (n:Int)),some (.str ABC),some (.int (way:Int)),some (.str (z1p [97+fl])),some (.int (sp:Int)),some (.int (st:Int)),some (.ref pk),some (.ref l),some (.int (i:Int)),some (.str z)]) go
    ·split
     ·exact arm (.inr (by lia)) (λ z=>[some (.int c),some (.int (n:Int)),some (.str ABC),some (.int (way:Int)),some (.str (z1p [97+fl])),some (.int (sp:Int)),some (.int (st:Int)),some (.ref pk),some (.ref l),some (.int (i:Int)),some (.str z)]) go
     ·have e:nB way fl sp st i=nA way fl st i:=by unfold nB;rw [if_neg (by lia)]
      rw [e] at go
      exact go
   rintro σC G ⟨rfl,rfl⟩
   refine z0j (λ σ G'=>G'=G/\σ=[some (.int c),some (.int (n:Int)),some (.str ABC),some (.int (way:Int)),some (.str (z1p [97+fl])),some (.int (sp:Int)),some (.int (st:Int)),some (.ref pk),some (.ref l),some (.int (i:Int)),some (.str (z1p (y1g way fl sp st i)))]) ?_ (λ R hR=>?_)
   rotate_left
   ·wp_walk using z1b,z1c,tyS,inV,eqV,z2e
    have fin:∀x:Str,x.cps.toList=y1g way fl sp st i->R [some (.int c),some (.int (n:Int)),some (.str ABC),some (.int (way:Int)),some (.str (z1p [97+fl])),some (.int (sp:Int)),some (.int (st:Int)),some (.ref pk),some (.ref l),some (.int (i:Int)),some (.str x)] G:=λ x e=>hR _ _ ⟨rfl,by rw [z2f e]⟩
    unfold y1g at fin
    have nb:¬(way=3/\i < 19)->nB way fl sp st i=(if way=1 then List.replicate (i % 8) (97+fl)++[97+(st+i / 8) % 26] else if way=3/\i < 19 then (k19.getD ((i+st) % 19) "").cps.toList else if way=2\/way=3 then List.replicate sp (97+fl)++[97+(st+i) % 26,97+i / 26]++List.replicate (6 - sp) (97+fl) else (z5z i).cps.toList):=λ z=>by
     unfold nB nA
     rw [if_neg (c:=way=3/\i < 19) z]
     by_cases w1:way=1
     ·subst w1;rfl
     ·rw [if_neg w1,if_neg w1]
    split
    ·split
     ·refine ⟨_,s9 _ _ h7,_,y6b (ws:=k19) (m:=((i:Int)+(st:Int)) % 19) (by lia) (by show _ < ((19:Nat):Int);lia),fin _ ?_⟩
      rw [if_neg (by lia),if_pos (by lia),show (((i:Int)+(st:Int)) % 19).toNat=(i+st) % 19 by lia]
     ·exact fin _ (nb (by lia))
    ·exact fin _ (nb (by lia))
   rintro σD G ⟨rfl,rfl⟩
   wp_walk using z1b,z1c,tyS,inV,eqV
   refine ⟨⟨_,h9⟩,_,h9,by unfold z9v;rw [List.length_map,List.length_map,List.length_range];exact z1i (by lia),?_⟩
   exact ⟨same s9 _,by unfold z9v;rw [List.range_succ,List.map_append,List.map_append];rfl⟩
  ·exact hR _ _ h
 rintro σ9 H9 ⟨y9,y10,rfl,s9,h9⟩
 wp_walk using z1b,z1c,tyS,inV,eqV
 exact ⟨_,.inl ⟨.of h9,λ p hp=>q _ _ _ (s7.trans (s9.trans (z0b hp _))) z0d (by simp [z9v]) (y9o fl1 sp7 n40)⟩⟩
abbrev y0p:Stmt:=top 52
def z5u:Sp:=λ vs H Q _=>∃(p na:Addr) (ds:List Sd) (os:List Nat) (nm:List Str),vs=[.ref p,.ref na]/\ProgAt H p ds os/\H na=some (.tup (nm.map V.str))/\nm.length=ds.length/\x3n nm/\∀H' r,Same H H'->H' r=some (.lst ((z2j ds os nm).map V.str))->Q (.ref r) H'
theorem x1h:FnScope ["program","names","rows"] ["program","names"] (z0m y0p):=⟨rfl,rfl,rfl,by decide +kernel,rfl,by decide +kernel,by decide +kernel⟩
theorem x3g (F:Fun K "_law_rows" "_law_rows" y0p f fd) (clawrow:Callee P w K mg base CX0 (3) "_law_row" ["name","step","names"] y0i) (zlen:mg "len"=none) (zrange:mg "range"=none):FnOk P w K mg base CX0 (4) f fd ["program","names"] (z5u):=by
 have sc:=x1h
 refine F.ok sc (λ vs H Q E h=>?_) (λ cdv A outer s H vs Q E hr h=>?_)
 ·obtain ⟨p,na,ds,os,nm,rfl,_⟩:=h;rfl
 obtain ⟨p,na,ds,os,nm,rfl,⟨st,ou,as,hp,hst,sd,hou,d1,d40,dk,o1,o8,ob⟩,hna,nl,no,q⟩:=h
 refine ⟨_,(z0f (y1a (own:=["k"]) (fv:=["names","program"]) (js:=[1,0]) sc.nd (i:=2) rfl (by first | exact Or.inl rfl | exact Or.inr rfl) (by first | exact Or.inl rfl | exact Or.inr rfl) rfl (z2x (by rfl) zrange (z0a (z0w z0y (by rfl) zlen PySem.boot_len (z0a (pv 1) z0e)) z0e)) rfl (by decide) rfl (by decide) (by first | exact λ _ _ h=>h | exact z4y rfl | exact z4x rfl rfl | exact z4w rfl rfl rfl) (z7d (by rfl)) rfl (v2u (by first | exact ⟨rfl,.inl rfl,.inl rfl⟩ | exact ⟨rfl,.inl rfl,.inr rfl⟩) (by first | exact ⟨rfl,.inl rfl,.inl rfl⟩ | exact ⟨rfl,.inl rfl,.inr rfl⟩)) (λ _ _ _ _=>(z2a (i:=0) (show (["k","names","program"]:List Str).Nodup by decide +kernel) rfl (Or.inl rfl))) (λ _ _ _ _=>(z0u clawrow hr (by rfl) z1g (z0a (z1f z1h (pv 1) (pv 0) (λ _ _=>rfl)) (z0a (z1f z1h (z1f z1h (pv 2) z0g (λ _ _=>rfl)) (pv 0) (λ _ _=>rfl)) (z0a (pv 1) z0e)))))) (z0f (z3n (z7a (pv 2) (z0l z0c z0i (y3b PySem.F.plainAttrs_str PySem.F.slot_str_join PySem.F.type_str_join y1i z0i (z0a (z6r (own:=["k"]) (fv:=["names"]) (js:=[1]) rfl (x2k (z1f z1h (pv 0) z0g (λ _ _=>rfl))) rfl (by decide) rfl (by decide) (by first | exact λ _ _ h=>h | exact z4y rfl | exact z4x rfl rfl | exact z4w rfl rfl rfl) (z7d (by rfl)) rfl (w9a (by first | exact ⟨rfl,.inl rfl,.inl rfl⟩ | exact ⟨rfl,.inl rfl,.inr rfl⟩)) (λ _ _ _ _=>(z2a (i:=0) (show (["k","names"]:List Str).Nodup by decide +kernel) rfl (Or.inl rfl))) (λ _ _ _ _=>(z1f z1h (pv 1) (pv 0) (λ _ _=>rfl)))) z0e))))) (z0k (z0p (pv 2))))),?_⟩
 simp only [L2.start,List.length_cons,List.length_nil,List.replicate,List.cons_append,List.nil_append,Nat.reduceSub,Nat.reduceAdd,List.map_cons,List.map_nil]
 refine z0j (λ σ H1=>∃l,σ=[some (.ref p),some (.ref na),some (.ref l)]/\Same H H1/\H l=none/\H1 l=some (.lst ((y0v ds nm ds.length).map V.str))) ?_ (λ R hR=>?_)
 rotate_left
 ·wp_walk using z1b,z1c,tyS,inV,eqV
  refine ⟨_,.inr (.of hna),by rw [List.length_map];lia,by rw [List.length_map];lia,?_⟩
  rw [List.length_map,Int.toNat_natCast]
  refine CompR.mk (λ i ys σ G=>Same H G/\ys=(y0v ds nm i).map V.str/\∃y,σ=[y,some (.ref na),some (.ref p)]) ⟨Same.refl _,rfl,_,rfl⟩ (λ i ys σ G hi h=>?_) (λ ys σ G h p2 hp2=>?_)
  ·obtain ⟨sG,rfl,y,rfl⟩:=h
   refine ⟨by rw [List.length_map,y6g];exact z1i (by lia),?_⟩
   have gi:ds[i]?=some (ds.getD i ⟨0,0,0,0,0⟩):=by rw [List.getD_eq_getElem?_getD,List.getElem?_eq_getElem (by lia)];rfl
   obtain ⟨b,eb,db⟩:=sd.2 i _ gi
   have nb:=no.2 (nm.getD i "") (List.mem_of_getElem? (y9w (by lia)))
   wp_walk using z1b,z1c,tyS,inV,eqV,y0i
   rw [Int.zero_add]
   refine ⟨_,sG _ _ hna,_,z0q (v:=.str (nm.getD i "")) (by rw [List.getElem?_map,y9w (by lia)];rfl),_,sG _ _ hp,_,z0q (j:=0) rfl,?_⟩
   exact ⟨st,rfl,_,sG _ _ hst,_,z0q (v:=.ref b) (by rw [List.getElem?_map,eb];rfl),_,rfl,b,rfl,_,db.same sG,nm,by rw [nl];exact dk _ (List.mem_of_getElem? gi),.inr (sG _ _ hna),no,nb,λ G2 s2=>⟨sG.trans s2,by rw [x1p,List.map_append];rfl,_,rfl⟩⟩
  ·obtain ⟨sG,rfl,y,rfl⟩:=h
   rw [nl]
   exact hR _ _ ⟨p2,rfl,sG.trans (z0b hp2 _),sG.free hp2,z0d⟩
 rintro σ1 H1 ⟨l,rfl,s1,l0,h1⟩
 have ol:∀x∈z4t os nm,x.length≤20:=λ x hx=>by
  obtain ⟨o,ho,rfl⟩:=List.mem_map.mp hx
  exact no.2 _ (List.mem_of_getElem? (y9w (by have:=ob o ho;lia)))
 have on:(z4t os nm).length=os.length:=by simp [z4t]
 have one:(" " : Str).length=1:=by decide +kernel
 have tot:y0c " " (z4t os nm)≤200:=by
  have:=z9n (z := " ") ol
  rw [one,on] at this
  lia
 have gl:=z4f " " (z4t os nm)
 wp_walk using z1b,z1c,tyS,inV,eqV
 refine ⟨⟨_,h1⟩,_,s1 _ _ hp,_,z0q (j:=1) rfl,?_⟩
 refine CompT.mk (xs:=os.map λ (o:Nat)=>V.int (o:Int)) (.of (s1 _ _ hou)) (λ i ys σ G=>G=H1/\ys=((z4t os nm).take i).map V.str/\∃y,σ=[y,some (.ref na)]) ⟨rfl,rfl,_,rfl⟩ (λ i ys σ G _ h=>by rw [h.1];exact .of (s1 _ _ hou)) (λ i x ys σ G e h=>?_) (λ ys σ G h p2 hp2=>?_)
 ·obtain ⟨rfl,rfl,y,rfl⟩:=h
  rw [List.getElem?_map] at e
  cases eo:os[i]? with
  | none=>rw [eo] at e;cases e
  | some o =>
   rw [eo] at e
   cases (Option.some.inj e)
   have oi:(z4t os nm)[i]?=some (nm.getD o ""):=by unfold z4t;rw [List.getElem?_map,eo];rfl
   have ob':=ob o (List.mem_of_getElem? eo)
   refine ⟨by rw [List.length_map,List.length_take];exact z1i (by lia),?_⟩
   wp_walk using z1b,z1c,tyS,inV,eqV
   exact ⟨_,s1 _ _ hna,_,z0q (v:=.str (nm.getD o "")) (by rw [List.getElem?_map,y9w (by lia)];rfl),by rw [List.take_add_one,oi,List.map_append];rfl,_,rfl⟩
 ·obtain ⟨rfl,rfl,y,rfl⟩:=h
  rw [List.take_of_length_le (by simp [on])]
  refine ⟨p2,rfl,_,.of z0d,by lia,?_,_,z0b hp2 _ _ _ h1,by rw [List.length_map,y6g];exact z1i (by lia),q _ l ?_ ?_⟩
  ·rw [show (Str.ofString "out ").length=4 by decide +kernel];exact small (by lia)
  ·intro b' o' e'
   rw [z0o (λ z=>by rw [z,l0] at e';cases e')]
   exact z0b hp2 _ _ _ (s1 _ _ e')
  ·rw [z0d]
   obtain ⟨x,r,er⟩:∃x r,z4t os nm=x::r:=by
    cases h:z4t os nm with
    | nil=>rw [h] at on;simp at on;lia
    | cons x r=>exact ⟨x,r,rfl⟩
   unfold z2j v0q
   rw [er,x4n,List.map_append]
   rfl
abbrev z6m:Stmt:=top 53
theorem y4v:FnScope ["way","row","name","ahead","behind","some"] ["way","row","name","ahead","behind"] (z0m z6m):=⟨rfl,rfl,rfl,by decide +kernel,rfl,by decide +kernel,by decide +kernel⟩
theorem y5i (F:Fun K "_law_bad_row" "_law_bad_row" z6m f fd):FnOkK P w K mg base CX0 (1) f fd ["way","row","name","ahead","behind"] (z8a):=by
 have sc:=y4v
 refine F.okK sc (λ vs H Q E h=>?_) (λ cdv A outer s H vs Q E hr h=>?_)
 ·obtain ⟨way,row,n,a,b,rfl,_⟩:=h;rfl
 obtain ⟨way,row,n,a,b,rfl,rl,nl,al,bl,uok,q⟩:=h
 refine ⟨_,(z1e (z1z (i:=5) sc.nd rfl (by first | exact Or.inl rfl | exact Or.inr rfl) (y5c (z2c (z7k (pv 1)) (z2c (PE.pet (z0l z0c (pv 1) z0i)) (z2c (PE.pet (z0l z0c z0i (pv 1))) (z2c (z7k (pv 1)) (z2c (PE.pet (z0l z0c (w0p PySem.F.plainAttrs_str PySem.F.slot_str_upper PySem.F.type_str_upper y7m (z2v y0t (pv 1) z3v (z3u z0g))) (z2v y0t (pv 1) (z3u z0g) z3v))) (PA.pat z0e)))))))) (z1e (z1z (i:=5) sc.nd rfl (by first | exact Or.inl rfl | exact Or.inr rfl) (z2t z2l (PE.pet (pv 5)) (PE.pet (z1j (z0a z0i (z0a (z0l z0c (pv 2) z0i) (z0a (z0l z0c (z0l z0c (pv 2) z0i) (pv 2)) (z0a (z0l z0c (pv 2) z0i) (z0a (z0l z0c (pv 2) z0i) z0e))))))))) (z1e (z1z (i:=5) sc.nd rfl (by first | exact Or.inl rfl | exact Or.inr rfl) (z2t z2l (PE.pet (pv 5)) (y5c (z2c (PE.pet (z0l z0c (pv 2) z0i)) (z2c (PE.pet (z0l z0c z0i (pv 3))) (z2c (PE.pet z0i) (z2c (z7k (pv 1)) (PA.pat z0e)))))))) (z1e (z1z (i:=5) sc.nd rfl (by first | exact Or.inl rfl | exact Or.inr rfl) (z2t z2l (PE.pet (pv 5)) (PE.pet (z1j (z0a (z0l z0c (z0l z0c (pv 2) z0i) (pv 3)) (z0a (z0l z0c (z0l z0c (pv 2) z0i) (pv 3)) (z0a (z0l z0c (pv 2) z0i) z0e))))))) (z1e (z1z (i:=5) sc.nd rfl (by first | exact Or.inl rfl | exact Or.inr rfl) (z2t z2l (PE.pet (pv 5)) (PE.pet (z1j (z0a (z0l z0c (z0l z0c (z0l z0c (pv 2) z0i) (pv 3)) z0i) (z0a (z0l z0c (z0l z0c (z0l z0c (pv 2) z0i) (pv 3)) z0i) (z0a (z0l z0c (pv 2) z0i) z0e))))))) (z1e (z1z (i:=5) sc.nd rfl (by first | exact Or.inl rfl | exact Or.inr rfl) (z2t z2l (PE.pet (pv 5)) (PE.pet (z1j (z0a (z0l z0c (z0l z0c (pv 2) z0i) (pv 3)) (z0a (z0l z0c (z0l z0c (pv 2) z0i) (pv 4)) (z0a (z0l z0c (pv 2) z0i) z0e))))))) (z1e (z1z (i:=5) sc.nd rfl (by first | exact Or.inl rfl | exact Or.inr rfl) (z2t z2l (PE.pet (pv 5)) (PE.pet (z1j (z0a (z0l z0c (pv 2) z0i) (z0a (z0l z0c (pv 2) z0i) (z0a (pv 2) (z0a (z0l z0c (pv 2) z0i) z0e)))))))) (z1e (z1z (i:=5) sc.nd rfl (by first | exact Or.inl rfl | exact Or.inr rfl) (z2t z2l (PE.pet (pv 5)) (PE.pet (z1j (z0a (z0l z0c (pv 2) z0i) (z0a (z0l z0c (pv 2) z0i) (z0a (z0l z0c (z0l z0c (z0l z0c (pv 2) z0i) (pv 3)) z0i) z0e))))))) (z1e (z1z (i:=5) sc.nd rfl (by first | exact Or.inl rfl | exact Or.inr rfl) (z2t z2l (PE.pet (pv 5)) (PE.pet (z1j (z0a (z0l z0c (z0l z0c (pv 2) z0i) (pv 3)) z0e))))) (z1e (z1z (i:=5) sc.nd rfl (by first | exact Or.inl rfl | exact Or.inr rfl) (z2t z2l (PE.pet (pv 5)) (PE.pet (z1j (z0a (z0l z0c (z0l z0c (z0l z0c (pv 2) z0i) (pv 3)) z0i) (z0a (z0l z0c (z0l z0c (z0l z0c (pv 2) z0i) (pv 3)) z0i) (z0a z0i z0e))))))) (z1e (z1z (i:=5) sc.nd rfl (by first | exact Or.inl rfl | exact Or.inr rfl) (z2t z2l (PE.pet (pv 5)) (PE.pet (z1j (z0a (z0l z0c (z0l z0c (z0l z0c (pv 2) z0i) (pv 3)) z0i) (z0a (z0l z0c (pv 2) z0i) (z0a (z0l z0c (pv 2) z0i) z0e))))))) (z1e (z1z (i:=5) sc.nd rfl (by first | exact Or.inl rfl | exact Or.inr rfl) (z2t z2l (PE.pet (pv 5)) (PE.pet (z1j (z0a (z0l z0c (z0l z0c (pv 2) z0i) (pv 3)) (z0a (z0l z0c (z0l z0c (z0l z0c (pv 2) z0i) (pv 3)) z0i) (z0a (z0l z0c (z0l z0c (pv 2) z0i) (pv 3)) z0e))))))) (z1e (z1z (i:=5) sc.nd rfl (by first | exact Or.inl rfl | exact Or.inr rfl) (z2t z2l (PE.pet (pv 5)) (PE.pet (z1j (z0a z0i (z0a (z0l z0c (z0l z0c (pv 2) z0i) (pv 3)) (z0a (z0l z0c (z0l z0c (z0l z0c (pv 2) z0i) (pv 3)) z0i) (z0a z0i (z0a z0i z0e))))))))) (z1e (z1z (i:=5) sc.nd rfl (by first | exact Or.inl rfl | exact Or.inr rfl) (z2t z2l (PE.pet (pv 5)) (PE.pet (z1j (z0a (z0l z0c (z0l z0c (z0l z0c (z0l z0c (pv 2) z0i) (pv 3)) z0i) (pv 3)) (z0a (z0l z0c (z0l z0c (z0l z0c (z0l z0c (pv 2) z0i) (pv 3)) z0i) (pv 3)) z0e)))))) (z1e (z1z (i:=5) sc.nd rfl (by first | exact Or.inl rfl | exact Or.inr rfl) (z2t z2l (PE.pet (pv 5)) (PE.pet (z1j (z0a (z0l z0c (z0l z0c (z0l z0c (pv 2) z0i) (pv 3)) z0i) (z0a (z0l z0c (z0l z0c (z0l z0c (pv 2) z0i) (pv 3)) z0i) z0e)))))) (z1e (z1z (i:=5) sc.nd rfl (by first | exact Or.inl rfl | exact Or.inr rfl) (z2t z2l (PE.pet (pv 5)) (PE.pet (z1j (z0a (z0l z0c (z0l z0c (z0l z0c (z0l z0c (pv 2) z0i) (pv 3)) z0i) (pv 3)) (z0a (z0l z0c (z0l z0c (z0l z0c (pv 2) z0i) (pv 3)) z0i) z0e)))))) (z1e (z1z (i:=5) sc.nd rfl (by first | exact Or.inl rfl | exact Or.inr rfl) (z2t z2l (PE.pet (pv 5)) (PE.pet (z1j (z0a (z0l z0c (z0l z0c (z0l z0c (pv 2) z0i) (pv 3)) z0i) (z0a (z0l z0c (z0l z0c (z0l z0c (pv 2) z0i) (pv 3)) z0i) (z0a (z0l z0c (pv 2) z0i) z0e))))))) (z1e (z1z (i:=5) sc.nd rfl (by first | exact Or.inl rfl | exact Or.inr rfl) (z2t z2l (PE.pet (pv 5)) (PE.pet (z1j (z0a (z0l z0c (z0l z0c (z0l z0c (pv 2) z0i) (pv 3)) z0i) (z0a (z0l z0c (z0l z0c (z0l z0c (z0l z0c (z0l z0c (pv 2) z0i) (pv 3)) z0i) (pv 3)) z0i) z0e)))))) (y0z (PS.pst (z0p (z1f z0z (pv 5) (z0l z4e (pv 0) z0g) (λ _ _=>rfl))))))))))))))))))))))),?_⟩
 simp only [L2.start,List.length_cons,List.length_nil,List.replicate,List.cons_append,List.nil_append,Nat.reduceSub,Nat.reduceAdd,List.map_cons,List.map_nil]
 have ul:(upS (Txt.slice row none (some 1))).length≤1000:=uok.1
 refine z0j (λ σ G=>∃p,Same H G/\G p=some (.lst ((v0o row n a b).map V.str))/\σ=[some (.int way),some (.str row),some (.str n),some (.str a),some (.str b),some (.ref p)]) ?_ (λ R hR=>?_)
 rotate_left
 ·wp_walk using z1b,z1c,tyS,inV,eqV
  exact ⟨by lia,by decide +kernel,by decide +kernel,by decide +kernel,f2 rl (by decide +kernel:(Str.ofString " ").length≤64),f2 (by decide +kernel:(Str.ofString " ").length≤64) rl,by lia,by decide +kernel,by decide +kernel,by decide +kernel,by lia,uok,by lia,f2 ul (Nat.le_trans (Txt.slice_le _ _ _) rl),small (by decide),λ p hp=>hR _ _ ⟨p,z0b hp _,z0d,rfl⟩⟩
 rintro σ0 G0 ⟨p0,s0,h0,rfl⟩
 refine z0j (λ σ G=>∃p,Same H G/\G p=some (.lst ((w6w row n a b).map V.str))/\σ=[some (.int way),some (.str row),some (.str n),some (.str a),some (.str b),some (.ref p)]) ?_ (λ R hR=>?_)
 rotate_left
 ·wp_walk using z1b,z1c,tyS,inV,eqV
  refine ⟨f2 nl (by decide +kernel:(Str.ofString " = ins 2").length≤64),f2 nl (by decide +kernel:(Str.ofString " = each neg ").length≤64),f2 (ap nl (by decide +kernel:(Str.ofString " = each neg ").length≤64)) nl,f2 nl (by decide +kernel:(Str.ofString " = in 02").length≤64),f2 nl (by decide +kernel:(Str.ofString " = in 1000").length≤64),small (by decide),λ p hp=>⟨_,z0b hp _ _ _ h0,small (by rw [List.length_map,y7a];decide),λ p' hp'=>hR _ _ ⟨p',s0.trans ((z0b hp _).trans (z0b hp' _)),?_,rfl⟩⟩⟩
  rw [z0d]
  unfold w6w
  rw [List.map_append]
  rfl
 rintro σ1 G1 ⟨p1,s1,h1,rfl⟩
 refine z0j (λ σ G=>∃p,Same H G/\G p=some (.lst ((w6v row n a b).map V.str))/\σ=[some (.int way),some (.str row),some (.str n),some (.str a),some (.str b),some (.ref p)]) ?_ (λ R hR=>?_)
 rotate_left
 ·wp_walk using z1b,z1c,tyS,inV,eqV
  refine ⟨f2 nl (by decide +kernel:(Str.ofString " = in 1 1 1 1 1 1 1 1 1").length≤64),f2 (by decide +kernel:(Str.ofString "out ").length≤64) al,by lia,by decide +kernel,by decide +kernel,by decide +kernel,small (by decide),λ p hp=>⟨_,z0b hp _ _ _ h1,small (by rw [List.length_map,y6z];decide),λ p' hp'=>hR _ _ ⟨p',s1.trans ((z0b hp _).trans (z0b hp' _)),?_,rfl⟩⟩⟩
  rw [z0d]
  unfold w6v
  rw [List.map_append]
  rfl
 rintro σ2 G2 ⟨p2,s2,h2,rfl⟩
 refine z0j (λ σ G=>∃p,Same H G/\G p=some (.lst ((w6u row n a b).map V.str))/\σ=[some (.int way),some (.str row),some (.str n),some (.str a),some (.str b),some (.ref p)]) ?_ (λ R hR=>?_)
 rotate_left
 ·wp_walk using z1b,z1c,tyS,inV,eqV
  refine ⟨f2 nl (by decide +kernel:(Str.ofString " = each abcdefghi ").length≤64),f2 (ap nl (by decide +kernel:(Str.ofString " = each abcdefghi ").length≤64)) al,f2 nl (by decide +kernel:(Str.ofString " = pair add ").length≤64),f2 (ap nl (by decide +kernel:(Str.ofString " = pair add ").length≤64)) al,f2 nl (by decide +kernel:(Str.ofString " = count").length≤64),small (by decide),λ p hp=>⟨_,z0b hp _ _ _ h2,small (by rw [List.length_map,y6y];decide),λ p' hp'=>hR _ _ ⟨p',s2.trans ((z0b hp _).trans (z0b hp' _)),?_,rfl⟩⟩⟩
  rw [z0d]
  unfold w6u
  rw [List.map_append]
  rfl
 rintro σ3 G3 ⟨p3,s3,h3,rfl⟩
 refine z0j (λ σ G=>∃p,Same H G/\G p=some (.lst ((w6t row n a b).map V.str))/\σ=[some (.int way),some (.str row),some (.str n),some (.str a),some (.str b),some (.ref p)]) ?_ (λ R hR=>?_)
 rotate_left
 ·wp_walk using z1b,z1c,tyS,inV,eqV
  refine ⟨f2 nl (by decide +kernel:(Str.ofString " = cut ").length≤64),f2 (ap nl (by decide +kernel:(Str.ofString " = cut ").length≤64)) al,f2 (ap (ap nl (by decide +kernel:(Str.ofString " = cut ").length≤64)) al) (by decide +kernel:(Str.ofString " 0 0 1").length≤64),f2 nl (by decide +kernel:(Str.ofString " = flip ").length≤64),f2 (ap nl (by decide +kernel:(Str.ofString " = flip ").length≤64)) al,f2 (ap (ap nl (by decide +kernel:(Str.ofString " = flip ").length≤64)) al) (by decide +kernel:(Str.ofString " -1").length≤64),f2 nl (by decide +kernel:(Str.ofString " = num 1 2").length≤64),small (by decide),λ p hp=>⟨_,z0b hp _ _ _ h3,small (by rw [List.length_map,y6x];decide),λ p' hp'=>hR _ _ ⟨p',s3.trans ((z0b hp _).trans (z0b hp' _)),?_,rfl⟩⟩⟩
  rw [z0d]
  unfold w6t
  rw [List.map_append]
  rfl
 rintro σ4 G4 ⟨p4,s4,h4,rfl⟩
 refine z0j (λ σ G=>∃p,Same H G/\G p=some (.lst ((w6s row n a b).map V.str))/\σ=[some (.int way),some (.str row),some (.str n),some (.str a),some (.str b),some (.ref p)]) ?_ (λ R hR=>?_)
 rotate_left
 ·wp_walk using z1b,z1c,tyS,inV,eqV
  refine ⟨f2 nl (by decide +kernel:(Str.ofString " = each n2g ").length≤64),f2 (ap nl (by decide +kernel:(Str.ofString " = each n2g ").length≤64)) al,f2 nl (by decide +kernel:(Str.ofString " = each neg ").length≤64),f2 (ap nl (by decide +kernel:(Str.ofString " = each neg ").length≤64)) bl,f2 nl (by decide +kernel:(Str.ofString " = num -0").length≤64),small (by decide),λ p hp=>⟨_,z0b hp _ _ _ h4,small (by rw [List.length_map,y6w];decide),λ p' hp'=>hR _ _ ⟨p',s4.trans ((z0b hp _).trans (z0b hp' _)),?_,rfl⟩⟩⟩
  rw [z0d]
  unfold w6s
  rw [List.map_append]
  rfl
 rintro σ5 G5 ⟨p5,s5,h5,rfl⟩
 refine z0j (λ σ G=>∃p,Same H G/\G p=some (.lst ((w6r row n a b).map V.str))/\σ=[some (.int way),some (.str row),some (.str n),some (.str a),some (.str b),some (.ref p)]) ?_ (λ R hR=>?_)
 rotate_left
 ·wp_walk using z1b,z1c,tyS,inV,eqV
  refine ⟨f2 nl (by decide +kernel:(Str.ofString " = num 9223372036854775808").length≤64),f2 nl (by decide +kernel:(Str.ofString " = num -9223372036854775809").length≤64),f2 nl (by decide +kernel:(Str.ofString " =").length≤64),small (by decide),λ p hp=>⟨_,z0b hp _ _ _ h5,small (by rw [List.length_map,y6v];decide),λ p' hp'=>hR _ _ ⟨p',s5.trans ((z0b hp _).trans (z0b hp' _)),?_,rfl⟩⟩⟩
  rw [z0d]
  unfold w6r
  rw [List.map_append]
  rfl
 rintro σ6 G6 ⟨p6,s6,h6,rfl⟩
 refine z0j (λ σ G=>∃p,Same H G/\G p=some (.lst ((w6q row n a b).map V.str))/\σ=[some (.int way),some (.str row),some (.str n),some (.str a),some (.str b),some (.ref p)]) ?_ (λ R hR=>?_)
 rotate_left
 ·wp_walk using z1b,z1c,tyS,inV,eqV
  refine ⟨f2 nl (by decide +kernel:(Str.ofString " = num +1").length≤64),f2 nl (by decide +kernel:(Str.ofString " = num").length≤64),f2 nl (by decide +kernel:(Str.ofString " = turn ").length≤64),f2 (ap nl (by decide +kernel:(Str.ofString " = turn ").length≤64)) al,f2 (ap (ap nl (by decide +kernel:(Str.ofString " = turn ").length≤64)) al) (by decide +kernel:(Str.ofString " 1 0 x").length≤64),small (by decide),λ p hp=>⟨_,z0b hp _ _ _ h6,small (by rw [List.length_map,y6u];decide),λ p' hp'=>hR _ _ ⟨p',s6.trans ((z0b hp _).trans (z0b hp' _)),?_,rfl⟩⟩⟩
  rw [z0d]
  unfold w6q
  rw [List.map_append]
  rfl
 rintro σ7 G7 ⟨p7,s7,h7,rfl⟩
 refine z0j (λ σ G=>∃p,Same H G/\G p=some (.lst ((w6p row n a b).map V.str))/\σ=[some (.int way),some (.str row),some (.str n),some (.str a),some (.str b),some (.ref p)]) ?_ (λ R hR=>?_)
 rotate_left
 ·wp_walk using z1b,z1c,tyS,inV,eqV
  refine ⟨f2 nl (by decide +kernel:(Str.ofString " = fetch ").length≤64),f2 (ap nl (by decide +kernel:(Str.ofString " = fetch ").length≤64)) al,small (by decide),λ p hp=>⟨_,z0b hp _ _ _ h7,small (by rw [List.length_map,y6t];decide),λ p' hp'=>hR _ _ ⟨p',s7.trans ((z0b hp _).trans (z0b hp' _)),?_,rfl⟩⟩⟩
  rw [z0d]
  unfold w6p
  rw [List.map_append]
  rfl
 rintro σ8 G8 ⟨p8,s8,h8,rfl⟩
 refine z0j (λ σ G=>∃p,Same H G/\G p=some (.lst ((w6o row n a b).map V.str))/\σ=[some (.int way),some (.str row),some (.str n),some (.str a),some (.str b),some (.ref p)]) ?_ (λ R hR=>?_)
 rotate_left
 ·wp_walk using z1b,z1c,tyS,inV,eqV
  refine ⟨f2 nl (by decide +kernel:(Str.ofString " = join ").length≤64),f2 (ap nl (by decide +kernel:(Str.ofString " = join ").length≤64)) al,f2 (ap (ap nl (by decide +kernel:(Str.ofString " = join ").length≤64)) al) (by decide +kernel:(Str.ofString " 0").length≤64),f2 nl (by decide +kernel:(Str.ofString " = lay ").length≤64),f2 (ap nl (by decide +kernel:(Str.ofString " = lay ").length≤64)) al,f2 (ap (ap nl (by decide +kernel:(Str.ofString " = lay ").length≤64)) al) (by decide +kernel:(Str.ofString " 1 2 3 4 5 6 7 8 9").length≤64),small (by decide),λ p hp=>⟨_,z0b hp _ _ _ h8,small (by rw [List.length_map,y6s];decide),λ p' hp'=>hR _ _ ⟨p',s8.trans ((z0b hp _).trans (z0b hp' _)),?_,rfl⟩⟩⟩
  rw [z0d]
  unfold w6o
  rw [List.map_append]
  rfl
 rintro σ9 G9 ⟨p9,s9,h9,rfl⟩
 refine z0j (λ σ G=>∃p,Same H G/\G p=some (.lst ((x2g row n a b).map V.str))/\σ=[some (.int way),some (.str row),some (.str n),some (.str a),some (.str b),some (.ref p)]) ?_ (λ R hR=>?_)
 rotate_left
 ·wp_walk using z1b,z1c,tyS,inV,eqV
  refine ⟨f2 nl (by decide +kernel:(Str.ofString " = run ").length≤64),f2 (ap nl (by decide +kernel:(Str.ofString " = run ").length≤64)) al,f2 (ap (ap nl (by decide +kernel:(Str.ofString " = run ").length≤64)) al) (by decide +kernel:(Str.ofString " 0").length≤64),f2 nl (by decide +kernel:(Str.ofString " = count 0 1 2 3 4 5 6 7 8 9").length≤64),f2 nl (by decide +kernel:(Str.ofString " = in 2,3").length≤64),small (by decide),λ p hp=>⟨_,z0b hp _ _ _ h9,small (by rw [List.length_map,y6r];decide),λ p' hp'=>hR _ _ ⟨p',s9.trans ((z0b hp _).trans (z0b hp' _)),?_,rfl⟩⟩⟩
  rw [z0d]
  unfold x2g
  rw [List.map_append]
  rfl
 rintro σ10 G10 ⟨p10,s10,h10,rfl⟩
 refine z0j (λ σ G=>∃p,Same H G/\G p=some (.lst ((x2f row n a b).map V.str))/\σ=[some (.int way),some (.str row),some (.str n),some (.str a),some (.str b),some (.ref p)]) ?_ (λ R hR=>?_)
 rotate_left
 ·wp_walk using z1b,z1c,tyS,inV,eqV
  refine ⟨f2 nl (by decide +kernel:(Str.ofString " = fold add ").length≤64),f2 (ap nl (by decide +kernel:(Str.ofString " = fold add ").length≤64)) al,f2 nl (by decide +kernel:(Str.ofString " = fold add ").length≤64),f2 (ap nl (by decide +kernel:(Str.ofString " = fold add ").length≤64)) al,f2 (ap (ap nl (by decide +kernel:(Str.ofString " = fold add ").length≤64)) al) (by decide +kernel:(Str.ofString " 0 0").length≤64),f2 nl (by decide +kernel:(Str.ofString " = spread ").length≤64),f2 (ap nl (by decide +kernel:(Str.ofString " = spread ").length≤64)) al,small (by decide),λ p hp=>⟨_,z0b hp _ _ _ h10,small (by rw [List.length_map,y2z];decide),λ p' hp'=>hR _ _ ⟨p',s10.trans ((z0b hp _).trans (z0b hp' _)),?_,rfl⟩⟩⟩
  rw [z0d]
  unfold x2f
  rw [List.map_append]
  rfl
 rintro σ11 G11 ⟨p11,s11,h11,rfl⟩
 refine z0j (λ σ G=>∃p,Same H G/\G p=some (.lst ((x2e row n a b).map V.str))/\σ=[some (.int way),some (.str row),some (.str n),some (.str a),some (.str b),some (.ref p)]) ?_ (λ R hR=>?_)
 rotate_left
 ·wp_walk using z1b,z1c,tyS,inV,eqV
  refine ⟨f2 nl (by decide +kernel:(Str.ofString " = each  ").length≤64),f2 (ap nl (by decide +kernel:(Str.ofString " = each  ").length≤64)) al,f2 nl (by decide +kernel:(Str.ofString " = fold  ").length≤64),f2 (ap nl (by decide +kernel:(Str.ofString " = fold  ").length≤64)) al,f2 (ap (ap nl (by decide +kernel:(Str.ofString " = fold  ").length≤64)) al) (by decide +kernel:(Str.ofString " 0").length≤64),small (by decide),λ p hp=>⟨_,z0b hp _ _ _ h11,small (by rw [List.length_map,y2y];decide),λ p' hp'=>hR _ _ ⟨p',s11.trans ((z0b hp _).trans (z0b hp' _)),?_,rfl⟩⟩⟩
  rw [z0d]
  unfold x2e
  rw [List.map_append]
  rfl
 rintro σ12 G12 ⟨p12,s12,h12,rfl⟩
 refine z0j (λ σ G=>∃p,Same H G/\G p=some (.lst ((x2d row n a b).map V.str))/\σ=[some (.int way),some (.str row),some (.str n),some (.str a),some (.str b),some (.ref p)]) ?_ (λ R hR=>?_)
 rotate_left
 ·wp_walk using z1b,z1c,tyS,inV,eqV
  refine ⟨f2 nl (by decide +kernel:(Str.ofString " = pair  ").length≤64),f2 (ap nl (by decide +kernel:(Str.ofString " = pair  ").length≤64)) al,f2 (ap (ap nl (by decide +kernel:(Str.ofString " = pair  ").length≤64)) al) (by decide +kernel:(Str.ofString " ").length≤64),f2 (ap (ap (ap nl (by decide +kernel:(Str.ofString " = pair  ").length≤64)) al) (by decide +kernel:(Str.ofString " ").length≤64)) al,f2 nl (by decide +kernel:(Str.ofString " = pair abcdefghi ").length≤64),f2 (ap nl (by decide +kernel:(Str.ofString " = pair abcdefghi ").length≤64)) al,f2 (ap (ap nl (by decide +kernel:(Str.ofString " = pair abcdefghi ").length≤64)) al) (by decide +kernel:(Str.ofString " ").length≤64),f2 (ap (ap (ap nl (by decide +kernel:(Str.ofString " = pair abcdefghi ").length≤64)) al) (by decide +kernel:(Str.ofString " ").length≤64)) al,small (by decide),λ p hp=>⟨_,z0b hp _ _ _ h12,small (by rw [List.length_map,y2x];decide),λ p' hp'=>hR _ _ ⟨p',s12.trans ((z0b hp _).trans (z0b hp' _)),?_,rfl⟩⟩⟩
  rw [z0d]
  unfold x2d
  rw [List.map_append]
  rfl
 rintro σ13 G13 ⟨p13,s13,h13,rfl⟩
 refine z0j (λ σ G=>∃p,Same H G/\G p=some (.lst ((x2c row n a b).map V.str))/\σ=[some (.int way),some (.str row),some (.str n),some (.str a),some (.str b),some (.ref p)]) ?_ (λ R hR=>?_)
 rotate_left
 ·wp_walk using z1b,z1c,tyS,inV,eqV
  refine ⟨f2 nl (by decide +kernel:(Str.ofString " = fold abcdefghi ").length≤64),f2 (ap nl (by decide +kernel:(Str.ofString " = fold abcdefghi ").length≤64)) al,f2 (ap (ap nl (by decide +kernel:(Str.ofString " = fold abcdefghi ").length≤64)) al) (by decide +kernel:(Str.ofString " 0").length≤64),f2 nl (by decide +kernel:(Str.ofString " = run n2g ").length≤64),f2 (ap nl (by decide +kernel:(Str.ofString " = run n2g ").length≤64)) al,f2 (ap (ap nl (by decide +kernel:(Str.ofString " = run n2g ").length≤64)) al) (by decide +kernel:(Str.ofString " 0").length≤64),small (by decide),λ p hp=>⟨_,z0b hp _ _ _ h13,small (by rw [List.length_map,y2w];decide),λ p' hp'=>hR _ _ ⟨p',s13.trans ((z0b hp _).trans (z0b hp' _)),?_,rfl⟩⟩⟩
  rw [z0d]
  unfold x2c
  rw [List.map_append]
  rfl
 rintro σ14 G14 ⟨p14,s14,h14,rfl⟩
 refine z0j (λ σ G=>∃p,Same H G/\G p=some (.lst ((x2b row n a b).map V.str))/\σ=[some (.int way),some (.str row),some (.str n),some (.str a),some (.str b),some (.ref p)]) ?_ (λ R hR=>?_)
 rotate_left
 ·wp_walk using z1b,z1c,tyS,inV,eqV
  refine ⟨f2 nl (by decide +kernel:(Str.ofString " = pair Add ").length≤64),f2 (ap nl (by decide +kernel:(Str.ofString " = pair Add ").length≤64)) al,f2 (ap (ap nl (by decide +kernel:(Str.ofString " = pair Add ").length≤64)) al) (by decide +kernel:(Str.ofString " ").length≤64),f2 (ap (ap (ap nl (by decide +kernel:(Str.ofString " = pair Add ").length≤64)) al) (by decide +kernel:(Str.ofString " ").length≤64)) al,f2 nl (by decide +kernel:(Str.ofString " = turn ").length≤64),f2 (ap nl (by decide +kernel:(Str.ofString " = turn ").length≤64)) al,f2 (ap (ap nl (by decide +kernel:(Str.ofString " = turn ").length≤64)) al) (by decide +kernel:(Str.ofString " 0 1 2 3 4 5 6 7 8").length≤64),small (by decide),λ p hp=>⟨_,z0b hp _ _ _ h14,small (by rw [List.length_map,y2v];decide),λ p' hp'=>hR _ _ ⟨p',s14.trans ((z0b hp _).trans (z0b hp' _)),?_,rfl⟩⟩⟩
  rw [z0d]
  unfold x2b
  rw [List.map_append]
  rfl
 rintro σ15 G15 ⟨p15,s15,h15,rfl⟩
 refine z0j (λ σ G=>∃p,Same H G/\G p=some (.lst ((x2a row n a b).map V.str))/\σ=[some (.int way),some (.str row),some (.str n),some (.str a),some (.str b),some (.ref p)]) ?_ (λ R hR=>?_)
 rotate_left
 ·wp_walk using z1b,z1c,tyS,inV,eqV
  refine ⟨f2 nl (by decide +kernel:(Str.ofString " = flip ").length≤64),f2 (ap nl (by decide +kernel:(Str.ofString " = flip ").length≤64)) al,f2 (ap (ap nl (by decide +kernel:(Str.ofString " = flip ").length≤64)) al) (by decide +kernel:(Str.ofString " 1000").length≤64),f2 nl (by decide +kernel:(Str.ofString " = spread ").length≤64),f2 (ap nl (by decide +kernel:(Str.ofString " = spread ").length≤64)) al,f2 (ap (ap nl (by decide +kernel:(Str.ofString " = spread ").length≤64)) al) (by decide +kernel:(Str.ofString " 0 1000").length≤64),f2 nl (by decide +kernel:(Str.ofString " = count 1000").length≤64),small (by decide),λ p hp=>⟨_,z0b hp _ _ _ h15,small (by rw [List.length_map,y2u];decide),λ p' hp'=>hR _ _ ⟨p',s15.trans ((z0b hp _).trans (z0b hp' _)),?_,rfl⟩⟩⟩
  rw [z0d]
  unfold x2a
  rw [List.map_append]
  rfl
 rintro σ16 G16 ⟨p16,s16,h16,rfl⟩
 refine z0j (λ σ G=>∃p,Same H G/\G p=some (.lst ((z8l row n a b).map V.str))/\σ=[some (.int way),some (.str row),some (.str n),some (.str a),some (.str b),some (.ref p)]) ?_ (λ R hR=>?_)
 rotate_left
 ·wp_walk using z1b,z1c,tyS,inV,eqV
  refine ⟨f2 nl (by decide +kernel:(Str.ofString " = lay ").length≤64),f2 (ap nl (by decide +kernel:(Str.ofString " = lay ").length≤64)) al,f2 (ap (ap nl (by decide +kernel:(Str.ofString " = lay ").length≤64)) al) (by decide +kernel:(Str.ofString " 01").length≤64),f2 nl (by decide +kernel:(Str.ofString " = fetch ").length≤64),f2 (ap nl (by decide +kernel:(Str.ofString " = fetch ").length≤64)) al,f2 (ap (ap nl (by decide +kernel:(Str.ofString " = fetch ").length≤64)) al) (by decide +kernel:(Str.ofString " ").length≤64),f2 (ap (ap (ap nl (by decide +kernel:(Str.ofString " = fetch ").length≤64)) al) (by decide +kernel:(Str.ofString " ").length≤64)) al,f2 (ap (ap (ap (ap nl (by decide +kernel:(Str.ofString " = fetch ").length≤64)) al) (by decide +kernel:(Str.ofString " ").length≤64)) al) (by decide +kernel:(Str.ofString " 0").length≤64),small (by decide),λ p hp=>⟨_,z0b hp _ _ _ h16,small (by rw [List.length_map,y2t];decide),λ p' hp'=>hR _ _ ⟨p',s16.trans ((z0b hp _).trans (z0b hp' _)),?_,rfl⟩⟩⟩
  rw [z0d]
  unfold z8l
  rw [List.map_append]
  rfl
 rintro σ17 G17 ⟨p17,s17,h17,rfl⟩
 wp_walk using z1b,z1c,tyS,inV,eqV
 obtain ⟨v,vm,e1⟩:=y3i (xs:=z8l row n a b) (i:=way % 56) (by lia) (by rw [x1z];lia)
 exact ⟨_,h17,_,e1,q _ v s17 vm⟩
abbrev z5o:Stmt:=top 54
theorem y2j:FnScope ["way","row","name","some"] ["way","row","name"] (z0m z5o):=⟨rfl,rfl,rfl,by decide +kernel,rfl,by decide +kernel,by decide +kernel⟩
theorem y3f (F:Fun K "_law_bad_outs" "_law_bad_outs" z5o f fd):FnOk P w K mg base CX0 (1) f fd ["way","row","name"] (z6i):=by
 have sc:=y2j
 refine F.ok sc (λ vs H Q E h=>?_) (λ cdv A outer s H vs Q E hr h=>?_)
 ·obtain ⟨way,row,n,rfl,_⟩:=h;rfl
 obtain ⟨way,row,n,rfl,rl,nl,uok,q⟩:=h
 refine ⟨_,(x1x (i:=3) sc.nd rfl (by first | exact Or.inl rfl | exact Or.inr rfl) (w2l (w2r (z0a z0i (z0a (z0l z0c z0i (z0l z5h (z0l z0c z0i (pv 2)) z0g)) (z0a (z0l z0c z0i (pv 2)) (z0a (z0l z0c (pv 1) z0i) (z0a (z0l z0c z0i (pv 2)) (z0a z0i (z0a z0i z0e))))))))) (z1e (z1z (i:=3) sc.nd rfl (by first | exact Or.inl rfl | exact Or.inr rfl) (z2t z2l (PE.pet (pv 3)) (y5c (z2c (PE.pet (z0l z0c z0i (pv 2))) (z2c (PE.pet (z0l z0c (pv 1) z0i)) (z2c (PE.pet (z0l z0c z0i (w0p PySem.F.plainAttrs_str PySem.F.slot_str_upper PySem.F.type_str_upper y7m (pv 2)))) (z2c (PE.pet (pv 2)) (z2c (PE.pet z0i) (z2c (z7k (pv 1)) (PA.pat z0e)))))))))) (y0z (PS.pst (z0p (z1f z0z (pv 3) (z0l z4e (pv 0) z0g) (λ _ _=>rfl))))))),?_⟩
 simp only [L2.start,List.length_cons,List.length_nil,List.replicate,List.cons_append,List.nil_append,Nat.reduceSub,Nat.reduceAdd,List.map_cons,List.map_nil]
 refine z0j (λ σ G=>∃p,Same H G/\G p=some (.lst ((bo0 row n).map V.str))/\σ=[some (.int way),some (.str row),some (.str n),some (.ref p)]) ?_ (λ R hR=>?_)
 rotate_left
 ·wp_walk using z1b,z1c,tyS,inV,eqV
  exact ⟨f2 (by decide +kernel:(Str.ofString " ").length≤64) nl,z7w n,z2f rfl,by have:=y6c nl;lia,f2 (by decide +kernel:(Str.ofString "out").length≤64) (x8d nl),f2 (by decide +kernel:(Str.ofString "outs ").length≤64) nl,f2 rl (by decide +kernel:(Str.ofString " ").length≤64),f2 (by decide +kernel:(Str.ofString "out  ").length≤64) nl,small (by decide),λ p hp=>hR _ _ ⟨p,z0b hp _,z0d,rfl⟩⟩
 rintro σ0 G0 ⟨p0,s0,h0,rfl⟩
 refine z0j (λ σ G=>∃p,Same H G/\G p=some (.lst ((bo0 row n++bo1 row n).map V.str))/\σ=[some (.int way),some (.str row),some (.str n),some (.ref p)]) ?_ (λ R hR=>?_)
 rotate_left
 ·wp_walk using z1b,z1c,tyS,inV,eqV
  refine ⟨f2 (by decide +kernel:(Str.ofString "Out ").length≤64) nl,f2 rl (by decide +kernel:(Str.ofString "\n").length≤64),uok,f2 (by decide +kernel:(Str.ofString "out ").length≤64) uok.1,by lia,by decide +kernel,by decide +kernel,by decide +kernel,small (by decide),λ p hp=>⟨_,z0b hp _ _ _ h0,small (by rw [List.length_map];show 8+6≤1000;decide),λ p' hp'=>hR _ _ ⟨p',s0.trans ((z0b hp _).trans (z0b hp' _)),?_,rfl⟩⟩⟩
  rw [z0d,List.map_append]
  rfl
 rintro σ1 G1 ⟨p1,s1,h1,rfl⟩
 wp_walk using z1b,z1c,tyS,inV,eqV
 obtain ⟨v,vm,e1⟩:=y3i (xs:=bo0 row n++bo1 row n) (i:=way % 14) (by lia) (by rw [List.length_append];show way % 14 < 14;lia)
 exact ⟨_,h1,_,e1,q _ v s1 vm⟩
abbrev z8h:Stmt:=top 55
theorem y9a:FnScope ["rows","names","at","cell","way"] ["rows","names","at","cell"] (z0m z8h):=⟨rfl,rfl,rfl,by decide +kernel,rfl,by decide +kernel,by decide +kernel⟩
theorem y9l (F:Fun K "_law_spoil" "_law_spoil" z8h f fd) (clawdraw:Callee P w K mg base CX0 (1) "_law_draw" ["cell","k","many"] z0r) (clawbadouts:Callee P w K mg base CX0 (1) "_law_bad_outs" ["way","row","name"] z6i) (clawbadrow:CalleeK P w K mg base CX0 (1) "_law_bad_row" ["way","row","name","ahead","behind"] z8a) (zlen:mg "len"=none) (zmax:mg "max"=none):FnOk P w K mg base CX0 (2) f fd ["rows","names","at","cell"] (z7h):=by
 have sc:=y9a
 refine F.ok sc (λ vs H Q E h=>?_) (λ cdv A outer s H vs Q E hr h=>?_)
 ·obtain ⟨ra,na,k,c,Rw,nm,rfl,_⟩:=h;rfl
 obtain ⟨ra,na,k,c,Rw,nm,rfl,hra,hna,kR,Rn,n1,n44,rl,nl,uk,q⟩:=h
 refine ⟨_,(x1x (i:=4) sc.nd rfl (by first | exact Or.inl rfl | exact Or.inr rfl) (w2m clawdraw hr (by rfl) z1g (x7q (pv 3) (w2s (z0a z0g z0e)))) (z1e (PS.pst (z1l (z0n z1w (pv 2) (z0l z7c (z0w z0y (by rfl) zlen PySem.boot_len (z0a (pv 0) z0e)) z0g) (z0v _)) (z0f (y6q (z0u clawbadouts hr (by rfl) z1g (z0a (pv 4) (z0a (z1f z0z (pv 0) (pv 2) (λ _ _=>rfl)) (z0a (z1f z1h (pv 1) (z0u clawdraw hr (by rfl) z1g (z0a (pv 3) (z0a z0g (z0a (z0w z0y (by rfl) zlen PySem.boot_len (z0a (pv 1) z0e)) z0e)))) (λ _ _=>rfl)) z0e)))) (y3a (pv 0) (pv 2) z5x)) (z0k (z0p (pv 0)))) z0t)) (z1e (PS.pst (z1l (PW.pt (y6m (z0n z1w (z0l z4e (pv 4) z0g) z0g (z0v _)) (y0y (z0n y3d (pv 2) z0g (z0v _))))) (z0f (y6q (z0l z0c (z1f z1h (pv 1) (z0u clawdraw hr (by rfl) z1g (z0a (pv 3) (z0a z0g (z0a (pv 2) z0e)))) (λ _ _=>rfl)) (z2v y0t (z1f z0z (pv 0) (pv 2) (λ _ _=>rfl)) (z3u (z0w z4z (by rfl) zlen PySem.boot_len (z0a (z1f z1h (pv 1) (pv 2) (λ _ _=>rfl)) z0e))) z3v)) (y3a (pv 0) (pv 2) z5x)) (z0k (z0p (pv 0)))) z0t)) (z1e (w2e (w2k clawbadrow hr (by rfl) z1g (z0a (pv 4) (z0a (z1f z0z (pv 0) (pv 2) (λ _ _=>rfl)) (z0a (z1f z1h (pv 1) (pv 2) (λ _ _=>rfl)) (z0a (z1f z1h (pv 1) (z0u clawdraw hr (by rfl) z1g (z0a (pv 3) (z0a z0g (z0a (z0w (y3w rfl) (by rfl) zmax boot_max (z0a z0g (z0a (pv 2) z0e))) z0e)))) (λ _ _=>rfl)) (z0a (z1f z1h (pv 1) (y9f z9m z0g) (λ _ _=>rfl)) z0e)))))) (y3a (pv 0) (pv 2) z5x)) (y0z (PS.pst (z0p (pv 0)))))))),?_⟩
 simp only [L2.start,List.length_cons,List.length_nil,List.replicate,List.cons_append,List.nil_append,Nat.reduceSub,Nat.reduceAdd,List.map_cons,List.map_nil]
 refine z0j (λ σ G=>∃w:Int,G=H/\σ=[some (.ref ra),some (.ref na),some (.int (k:Int)),some (.int c),some (.int w)]) ?_ (λ R hR=>?_)
 rotate_left
 ·wp_walk using z1b,z1c,tyS,inV,eqV,z0r
  exact hR _ _ ⟨_,rfl,rfl⟩
 rintro σ1 G1 ⟨w,rfl,rfl⟩
 refine z0j (λ σ G=>G=G1/\k+1 < Rw.length/\σ=[some (.ref ra),some (.ref na),some (.int (k:Int)),some (.int c),some (.int w)]) ?_ (λ R hR=>?_)
 rotate_left
 ·wp_walk using z1b,z1c,tyS,inV,eqV,z6i,z0r
  refine ⟨_,.inl (.of hra),?_⟩
  rw [List.length_map]
  by_cases c1:k+1=Rw.length
  ·rw [if_pos (by lia)]
   obtain ⟨j,jl,ej⟩:=z6b c 66 (show 0 < nm.length by lia)
   refine ⟨_,hra,_,z3s kR,_,.inr (.of hna),by rw [List.length_map];lia,_,hna,.str (nm.getD j ""),?_,_,rfl,_,rfl,rl,(nl _ (z2u jl)).1,(nl _ (z2u jl)).2,λ H' x s' hx=>⟨_,s' _ _ hra,k,by rw [List.length_map];exact y5m kR,q _ x (λ y o ny e=>by rw [z0o ny];exact s' _ _ e) (.inl ⟨c1,j,jl,hx⟩) (by rw [z0d,List.map_set])⟩⟩
   rw [List.length_map,ej]
   exact z3s jl
  ·rw [if_neg (by lia)]
   exact hR _ _ ⟨rfl,by lia,rfl⟩
 rintro σ2 G2 ⟨rfl,k1,rfl⟩
 refine z0j (λ σ G=>G=G2/\σ=[some (.ref ra),some (.ref na),some (.int (k:Int)),some (.int c),some (.int w)]) ?_ (λ R hR=>?_)
 rotate_left
 ·wp_walk using z1b,z1c,tyS,inV,eqV,z0r
  have kn:k < nm.length:=by lia
  split
  ·split
   ·rename_i _ k0
    obtain ⟨j,jl,ej⟩:=z6b c 67 (show 0 < k by lia)
    rw [ej]
    have l1:=rl
    have l2:=(nl _ (z2u kn)).1
    have l3:=(nl _ (z2u (show j < nm.length by lia))).1
    have l4:=Txt.slice_le (Rw.getD k "") (some ((nm.getD k "").length:Int)) none
    have sl:10000≤sizeLine:=by rw [sizeLine_eq];decide
    exact ⟨k0,_,hna,_,z3s (show j < nm.length by lia),_,hra,_,z3s kR,_,hna,_,z3s kn,_,rfl,by lia,_,rfl,by lia,_,rfl,by lia,_,hra,k,by rw [List.length_map];exact y5m kR,q _ _ (λ y o ny e=>by rw [z0o ny];exact e) (.inr ⟨k1,.inl ⟨by lia,j,jl,rfl⟩⟩) (by rw [z0d,List.map_set])⟩
   ·exact hR _ _ ⟨rfl,rfl⟩
  ·exact hR _ _ ⟨rfl,rfl⟩
 rintro σ3 G3 ⟨rfl,rfl⟩
 refine z0j (λ σ G=>∃x,(∀y o,y≠ra->G3 y=some o->G y=some o)/\Spo Rw nm k x/\G ra=some (.lst ((Rw.set k x).map V.str))/\σ=[some (.ref ra),some (.ref na),some (.int (k:Int)),some (.int c),some (.int w)]) ?_ (λ R hR=>?_)
 rotate_left
 ·wp_walk using z1b,z1c,tyS,inV,eqV,z0r,z8a
  have kn:k < nm.length:=by lia
  obtain ⟨m,em,mk⟩:∃m:Nat,(if (k:Int) > 1 then (k:Int) else 1)=(m:Int)/\m=max 1 k:=⟨max 1 k,by split<;>lia,rfl⟩
  rw [em]
  obtain ⟨j,jl,ej⟩:=z6b c 68 (show 0 < m by lia)
  rw [ej]
  have jn:j < nm.length:=by lia
  have l5:∀ {i:Nat},i < nm.length->(nm.getD i "").length≤20:=λ h=>by have:=(nl _ (z2u h)).1;lia
  exact ⟨_,hra,_,z3s kR,_,hna,_,z3s kn,by lia,_,hna,_,z3s jn,_,hna,_,x4a n1,_,rfl,_,rfl,_,rfl,_,rfl,rl,l5 kn,l5 jn,l5 (show nm.length - 1 < nm.length by lia),uk,λ H' x s' hx=>⟨_,s' _ _ hra,k,by rw [List.length_map];exact y5m kR,hR _ _ ⟨x,λ y o ny e=>by rw [z0o ny];exact s' _ _ e,.inr ⟨k1,.inr ⟨j,by lia,hx⟩⟩,by rw [z0d,List.map_set],rfl⟩⟩⟩
 rintro σ4 G4 ⟨x,k4,sp4,h4,rfl⟩
 wp_walk using z1b,z1c,tyS,inV,eqV
 exact q _ x k4 sp4 h4
abbrev y0o:Stmt:=top 56
theorem x1g:FnScope ["text","told","e","other"] ["text"] (z0m y0o):=⟨rfl,rfl,rfl,by decide +kernel,rfl,by decide +kernel,by decide +kernel⟩
theorem x3f (F:Fun K "_law_told" "_law_told" y0o f fd) {CBadText:Addr}(nBadText:W.nsIn K mainGlobals "BadText"=some (some (.ref CBadText))) {CLoomError:Addr}(nLoomError:W.nsIn K mainGlobals "LoomError"=some (some (.ref CLoomError))) {CBadStep:Addr}(nBadStep:W.nsIn K mainGlobals "BadStep"=some (some (.ref CBadStep))) {CNoWord:Addr}(nNoWord:W.nsIn K mainGlobals "NoWord"=some (some (.ref CNoWord))) {CNoPlace:Addr}(nNoPlace:W.nsIn K mainGlobals "NoPlace"=some (some (.ref CNoPlace))) {CUnlike:Addr}(nUnlike:W.nsIn K mainGlobals "Unlike"=some (some (.ref CUnlike))) {CTooLarge:Addr}(nTooLarge:W.nsIn K mainGlobals "TooLarge"=some (some (.ref CTooLarge))) {CNoSide:Addr}(nNoSide:W.nsIn K mainGlobals "NoSide"=some (some (.ref CNoSide))) {CBeyond:Addr}(nBeyond:W.nsIn K mainGlobals "Beyond"=some (some (.ref CBeyond))) {CNoRound:Addr}(nNoRound:W.nsIn K mainGlobals "NoRound"=some (some (.ref CNoRound))) {CNotReady:Addr}(nNotReady:W.nsIn K mainGlobals "NotReady"=some (some (.ref CNotReady))) {CNotDone:Addr}(nNotDone:W.nsIn K mainGlobals "NotDone"=some (some (.ref CNotDone))) {CStuck:Addr}(nStuck:W.nsIn K mainGlobals "Stuck"=some (some (.ref CStuck))) (cread:Callee P w K mg base (CX2 P w) (9) "read" ["text"] (z7u CBadText)) (zisinstance:mg "isinstance"=none) (zValueError:mg "ValueError"=none) (gBadText:mg "BadText"=some (.ref CBadText)) (xBadText:w4g K CBadText [.type "ValueError",.type "Exception",.type "BaseException",.type "object"] "ValueError.__new__"=true) (aBS:AtX K CBadText) (n1:NoAttr K CBadText (Str.ofString "row")) (n3:NoAttr K CBadText (Str.ofString "__getattr__")) (ek:ExcK K CBadText) (em:W.exmOne K (.ref CBadText) (.ref CBadText)=some true) (ei:W.kitOne K (.ref CBadText) (.ref CLoomError)=some true) (ev:W.kitOne K (.ref CBadText) (.type "ValueError")=some true) (k8:W.kitAny K (.ref CBadText) ([CBadStep,CNoWord,CNoPlace,CUnlike,CTooLarge,CNoSide,CBeyond,CNoRound].map Value.ref)=some false) (k3:W.kitAny K (.ref CBadText) ([CNotReady,CNotDone,CStuck].map Value.ref)=some false):FnOk P w K mg base CX0 (10) f fd ["text"] (z7x):=by
 have sc:=x1g
 refine F.ok sc (λ vs H Q E h=>?_) (λ cdv A outer s H vs Q E hr h=>?_)
 ·obtain ⟨T,i,rfl,_⟩:=h;rfl
 obtain ⟨T,i,rfl,lt,bad,q⟩:=h
 refine ⟨_,(z0f (z0s (i:=1) sc.nd rfl (by first | exact Or.inl rfl | exact Or.inr rfl) z2n) (z0f (x1y (i:=2) ⟨rfl,rfl⟩ rfl sc.nd rfl rfl (by rfl) gBadText (λ xe pn EE hx=>(z0k (z3n (x2o cread hr (by rfl) hx (z0a (pv 0) z0e))))) (λ ae pn=>(z0f (z0s (i:=3) sc.nd rfl (by first | exact Or.inl rfl | exact Or.inr rfl) (z0w (z9y ek k8) (by rfl) zisinstance boot_isinstance (z0a (pv 2) (z0a (z2k (z0a (z4d (by rfl) nBadStep) (z0a (z4d (by rfl) nNoWord) (z0a (z4d (by rfl) nNoPlace) (z0a (z4d (by rfl) nUnlike) (z0a (z4d (by rfl) nTooLarge) (z0a (z4d (by rfl) nNoSide) (z0a (z4d (by rfl) nBeyond) (z0a (z4d (by rfl) nNoRound) z0e))))))))) z0e)))) (z0f (z0s (i:=3) sc.nd rfl (by first | exact Or.inl rfl | exact Or.inr rfl) (v0p (pv 3) (y7c (z0w (z9y ek k3) (by rfl) zisinstance boot_isinstance (z0a (pv 2) (z0a (z2k (z0a (z4d (by rfl) nNotReady) (z0a (z4d (by rfl) nNotDone) (z0a (z4d (by rfl) nStuck) z0e)))) z0e)))))) (z0k (z0s (i:=1) sc.nd rfl (by first | exact Or.inl rfl | exact Or.inr rfl) (z2k (z0a (x7k (K:=K) rfl (pv 2) (by rfl)) (z0a (y7e (z0w (y3y ek ei) (by rfl) zisinstance boot_isinstance (z0a (pv 2) (z0a (z4d (by rfl) nLoomError) z0e))) (y7e (z0w (x0a ek ev) (by rfl) zisinstance boot_isinstance (z0a (pv 2) (z0a (z8n (v:=.ty "ValueError") (by rfl) zValueError z8y rfl) z0e))) (y7c (w6z (pv 3))))) z0e))))))))) (z0k (z0p (pv 1))))),?_⟩
 simp only [L2.start,List.length_cons,List.length_nil,List.replicate,List.cons_append,List.nil_append,Nat.reduceSub,Nat.reduceAdd,List.map_cons,List.map_nil]
 refine z0j (λ σ G=>G=H/\σ=[some (.str T),some .non,none,none]) ?_ (λ R hR=>?_)
 rotate_left
 ·wp_walk using z1b,z1c,tyS,inV,eqV
  exact hR _ _ ⟨rfl,rfl⟩
 rintro σ1 G1 ⟨rfl,rfl⟩
 refine z0j (λ σ G=>∃(t:Addr) (y:Option V),Same G1 G/\G t=some (.tup [.int ((i:Int)+1),.bl true])/\σ=[some (.str T),some (.ref t),none,y]) ?_ (λ R hR=>?_)
 rotate_left
 ·wp_walk using z1b,z1c,tyS,inV,eqV,z7u
  have w1:=y2k T
  have key:∀(x:V) (H':Hp) (dx:Addr),H' dx=some (x0f dx (w9g x))->∀(a:Addr),H' a=none->upd H' a (y8l a CBadText dx) dx=some (x0f dx (w9g x)):=λ x H' dx e a ha=>by
   rw [z0o (λ z=>by rw [z,ha] at e;cases e)];exact e
  refine ⟨lt,λ i' s hi h1 h2 H' dx u e=>⟨CBadText,rfl,em,λ a ha=>?_⟩,λ s h1 h2 H' dx u e=>⟨CBadText,rfl,em,λ a ha=>?_⟩,λ s os h1 h2 H' p q' na st oa ps u e1 e2 e3 e4 e5 e6=>(y8j bad ⟨h1,h2⟩).elim⟩
  ·cases x6d (.inl ⟨hi,⟨s,h1⟩,h2⟩) bad
   refine ⟨small (by decide),λ p hp=>⟨dx,z0b hp _ _ _ z0d,small (by decide),λ p1 hp1=>?_⟩⟩
   have ea:=z0b hp1 (.tup [V.ref CNotReady,V.ref CNotDone,V.ref CStuck]) _ _ (z0b hp (.tup [V.ref CBadStep,V.ref CNoWord,V.ref CNoPlace,V.ref CUnlike,V.ref CTooLarge,V.ref CNoSide,V.ref CBeyond,V.ref CNoRound]) _ _ (z0d (H:=H') (a:=a) (o:=y8l a CBadText dx)))
   have ed:=z0b hp1 (.tup [V.ref CNotReady,V.ref CNotDone,V.ref CStuck]) _ _ (z0b hp (.tup [V.ref CBadStep,V.ref CNoWord,V.ref CNoPlace,V.ref CUnlike,V.ref CTooLarge,V.ref CNoSide,V.ref CBeyond,V.ref CNoRound]) _ _ (key _ H' dx e a ha))
   exact ⟨dx,ea,CBadText,dx,ea,_,ed,aBS,n1,n3,_,rfl,dx,ea,dx,ea,small (by decide),λ p2 hp2=>hR _ _ ⟨p2,_,u.trans ((z0b ha _).trans ((z0b hp _).trans ((z0b hp1 _).trans (z0b hp2 _)))),z0d,rfl⟩⟩
  ·have ei':(z2m T).length - 1=i:=x6d (.inr ⟨by lia,s,h1,h2⟩) bad
   rw [show ((z2m T).length:Int)=(i:Int)+1 by lia] at e
   refine ⟨small (by decide),λ p hp=>⟨dx,z0b hp _ _ _ z0d,small (by decide),λ p1 hp1=>?_⟩⟩
   have ea:=z0b hp1 (.tup [V.ref CNotReady,V.ref CNotDone,V.ref CStuck]) _ _ (z0b hp (.tup [V.ref CBadStep,V.ref CNoWord,V.ref CNoPlace,V.ref CUnlike,V.ref CTooLarge,V.ref CNoSide,V.ref CBeyond,V.ref CNoRound]) _ _ (z0d (H:=H') (a:=a) (o:=y8l a CBadText dx)))
   have ed:=z0b hp1 (.tup [V.ref CNotReady,V.ref CNotDone,V.ref CStuck]) _ _ (z0b hp (.tup [V.ref CBadStep,V.ref CNoWord,V.ref CNoPlace,V.ref CUnlike,V.ref CTooLarge,V.ref CNoSide,V.ref CBeyond,V.ref CNoRound]) _ _ (key _ H' dx e a ha))
   exact ⟨dx,ea,CBadText,dx,ea,_,ed,aBS,n1,n3,_,rfl,dx,ea,dx,ea,small (by decide),λ p2 hp2=>hR _ _ ⟨p2,_,u.trans ((z0b ha _).trans ((z0b hp _).trans ((z0b hp1 _).trans (z0b hp2 _)))),z0d,rfl⟩⟩
 rintro σ2 G2 ⟨t,y,s2,ht,rfl⟩
 wp_walk using z1b,z1c,tyS,inV,eqV
 exact q _ t s2 ht
abbrev z3m:Stmt:=top 57
theorem z7e:FnScope ["text","told","e"] ["text"] (z0m z3m):=⟨rfl,rfl,rfl,by decide +kernel,rfl,by decide +kernel,by decide +kernel⟩
theorem z7f (F:Fun K "_law_taken_by_base" "_law_taken_by_base" z3m f fd) {CBadText:Addr}(nBadText:W.nsIn K mainGlobals "BadText"=some (some (.ref CBadText))) {CLoomError:Addr}(nLoomError:W.nsIn K mainGlobals "LoomError"=some (some (.ref CLoomError))) (cread:Callee P w K mg base (CX2 P w) (9) "read" ["text"] (z7u CBadText)) (zisinstance:mg "isinstance"=none) (gLoomError:mg "LoomError"=some (.ref CLoomError)) (ek:ExcK K CBadText) (em:W.exmOne K (.ref CBadText) (.ref CLoomError)=some true) (es:W.kitOne K (.ref CBadText) (.ref CBadText)=some true):FnOk P w K mg base CX0 (10) f fd ["text"] (z6g):=by
 have sc:=z7e
 refine F.ok sc (λ vs H Q E h=>?_) (λ cdv A outer s H vs Q E hr h=>?_)
 ·obtain ⟨T,i,rfl,_⟩:=h;rfl
 obtain ⟨T,i,rfl,lt,bad,q⟩:=h
 refine ⟨_,(z0f (z0s (i:=1) sc.nd rfl (by first | exact Or.inl rfl | exact Or.inr rfl) w2q) (z0f (x1y (i:=2) ⟨rfl,rfl⟩ rfl sc.nd rfl rfl (by rfl) gLoomError (λ xe pn EE hx=>(z0k (z3n (x2o cread hr (by rfl) hx (z0a (pv 0) z0e))))) (λ ae pn=>(z0k (z0s (i:=1) sc.nd rfl (by first | exact Or.inl rfl | exact Or.inr rfl) (z0w (y3y ek es) (by rfl) zisinstance boot_isinstance (z0a (pv 2) (z0a (z4d (by rfl) nBadText) z0e))))))) (z0k (z0p (pv 1))))),?_⟩
 simp only [L2.start,List.length_cons,List.length_nil,List.replicate,List.cons_append,List.nil_append,Nat.reduceSub,Nat.reduceAdd,List.map_cons,List.map_nil]
 refine z0j (λ σ G=>G=H/\σ=[some (.str T),some (.bl false),none]) ?_ (λ R hR=>?_)
 rotate_left
 ·wp_walk using z1b,z1c,tyS,inV,eqV
  exact hR _ _ ⟨rfl,rfl⟩
 rintro σ1 G1 ⟨rfl,rfl⟩
 refine z0j (λ σ G=>Same G1 G/\σ=[some (.str T),some (.bl true),none]) ?_ (λ R hR=>?_)
 rotate_left
 ·wp_walk using z1b,z1c,tyS,inV,eqV,z7u
  exact ⟨lt,λ i' s hi h1 h2 H' dx u e=>⟨CBadText,rfl,em,λ a ha=>⟨dx,rfl,hR _ _ ⟨u.trans (z0b ha _),rfl⟩⟩⟩,λ s h1 h2 H' dx u e=>⟨CBadText,rfl,em,λ a ha=>⟨dx,rfl,hR _ _ ⟨u.trans (z0b ha _),rfl⟩⟩⟩,λ s os h1 h2 H' p q' na st oa ps u e1 e2 e3 e4 e5 e6=>(y8j bad ⟨h1,h2⟩).elim⟩
 rintro σ2 G2 ⟨s2,rfl⟩
 wp_walk using z1b,z1c,tyS,inV,eqV
 exact q _ s2
abbrev v0e:Stmt:=top 58
def x6v:W.Frag->Sp:=λ K=>λ vs H Q _=>∃(a:Addr) (ns:List Int),vs=[.ref a]/\SqL K H a (ns.map V.int)/\ns.length≤63/\∀H',Q (.bl true) H'
theorem v0f:FnScope ["script","total","program","steps","names","rows","first","text","told"] ["script"] (z0m v0e):=⟨rfl,rfl,rfl,by decide +kernel,rfl,by decide +kernel,by decide +kernel⟩
theorem v0s (F:Fun K "law" "law" v0e f fd) (clawprogram:Callee P w K mg base CX0 (10) "_law_program" ["script"] (z4q K)) (clawdraw:Callee P w K mg base CX0 (10) "_law_draw" ["cell","k","many"] z0r) (clawsteps:Callee P w K mg base CX0 (10) "_law_steps" ["cells"] z4a) (clawnames:Callee P w K mg base CX0 (10) "_law_names" ["cell","many"] z6k) (clawrows:Callee P w K mg base CX0 (10) "_law_rows" ["program","names"] z5u) (clawspoil:Callee P w K mg base CX0 (10) "_law_spoil" ["rows","names","at","cell"] z7h) (clawtold:Callee P w K mg base CX0 (10) "_law_told" ["text"] z7x) (clawtakenbybase:Callee P w K mg base CX0 (10) "_law_taken_by_base" ["text"] z6g) (zsum:mg "sum"=none) (zlen:mg "len"=none) (zrange:mg "range"=none) (zmin:mg "min"=none) (zisinstance:mg "isinstance"=none) (zint:mg "int"=none) (zbool:mg "bool"=none):FnOk P w K mg base CX0 (11) f fd ["script"] (x6v K):=by
 have sc:=v0f
 refine F.ok sc (λ vs H Q E h=>?_) (λ cdv A outer s H vs Q E hr h=>?_)
 ·obtain ⟨a,ns,rfl,_⟩:=h;rfl
 obtain ⟨a,ns,rfl,hS,h63,q⟩:=h
 refine ⟨_,(z0f (z0s (i:=1) sc.nd rfl (by first | exact Or.inl rfl | exact Or.inr rfl) (z0w (y3v rfl) (by rfl) zsum boot_sum (z0a (pv 0) z0e))) (z0f (z0s (i:=2) sc.nd rfl (by first | exact Or.inl rfl | exact Or.inr rfl) (z0u clawprogram hr (by rfl) z1g (z0a (pv 0) z0e))) (z0f (z1l (z0n z1w (z0u clawdraw hr (by rfl) z1g (z0a (pv 1) (z0a z0g (z0a z0g z0e)))) z0g (z0v _)) (z0f (z0s (i:=3) sc.nd rfl (by first | exact Or.inl rfl | exact Or.inr rfl) (z0u clawsteps hr (by rfl) z1g (z0a (z6r (own:=["k"]) (fv:=["total"]) (js:=[1]) rfl (z2x (by rfl) zrange (z0a (z0l z2h z0g (z0u clawdraw hr (by rfl) z1g (z0a (pv 1) (z0a z0g (z0a z0g z0e))))) z0e)) rfl (by decide) rfl (by decide) (by first | exact λ _ _ h=>h | exact z4y rfl | exact z4x rfl rfl | exact z4w rfl rfl rfl) (z7d (by rfl)) rfl (w9a (by first | exact ⟨rfl,.inl rfl,.inl rfl⟩ | exact ⟨rfl,.inl rfl,.inr rfl⟩)) (λ _ _ _ _=>(z2a (i:=0) (show (["k","total"]:List Str).Nodup by decide +kernel) rfl (Or.inl rfl))) (λ _ _ _ _=>(z0l z2h (pv 1) (pv 0)))) z0e))) (z0k (z0s (i:=2) sc.nd rfl (by first | exact Or.inl rfl | exact Or.inr rfl) (z2k (z0a (pv 3) (z0a (z2k (z0a (z0l z7c (z0w z0y (by rfl) zlen PySem.boot_len (z0a (pv 3) z0e)) z0g) z0e)) z0e)))))) z0t) (z0f (z0s (i:=4) sc.nd rfl (by first | exact Or.inl rfl | exact Or.inr rfl) (z0u clawnames hr (by rfl) z1g (z0a (pv 1) (z0a (z0w z0y (by rfl) zlen PySem.boot_len (z0a (z1f z1h (pv 2) z0g (λ _ _=>rfl)) z0e)) z0e)))) (z0f (z0s (i:=5) sc.nd rfl (by first | exact Or.inl rfl | exact Or.inr rfl) (z0u clawrows hr (by rfl) z1g (z0a (pv 2) (z0a (pv 4) z0e)))) (z0f (z0s (i:=6) sc.nd rfl (by first | exact Or.inl rfl | exact Or.inr rfl) (z0u clawdraw hr (by rfl) z1g (z0a (pv 1) (z0a z0g (z0a (z0w (x5w rfl) (by rfl) zmin boot_min (z0a z0g (z0a (z0w z0y (by rfl) zlen PySem.boot_len (z0a (pv 5) z0e)) z0e))) z0e))))) (z0f (z1l (PW.pt (y6m (z0n y3d (z0w z0y (by rfl) zlen PySem.boot_len (z0a (z1f z1h (pv 2) z0g (λ _ _=>rfl)) z0e)) z0g (z0v _)) (y0y (PW.pt (z4r (z0n y3d (pv 6) z0g (z0v _)) (z4m (z0n y3d (z0u clawdraw hr (by rfl) z1g (z0a (pv 1) (z0a z0g (z0a z0g z0e)))) z0g (z0v _)))))))) (z0k (z0s (i:=6) sc.nd rfl (by first | exact Or.inl rfl | exact Or.inr rfl) z0g)) (z0f (z1l (z0n z1w (z0u clawdraw hr (by rfl) z1g (z0a (pv 1) (z0a z0g (z0a z0g z0e)))) z0g (z0v _)) (z0k (z0s (i:=5) sc.nd rfl (by first | exact Or.inl rfl | exact Or.inr rfl) (z0u clawspoil hr (by rfl) z1g (z0a (pv 5) (z0a (pv 4) (z0a (z0l z2h (pv 6) (z0u clawdraw hr (by rfl) z1g (z0a (pv 1) (z0a z0g (z0a (z0l z7c (z0w z0y (by rfl) zlen PySem.boot_len (z0a (pv 5) z0e)) (pv 6)) z0e))))) (z0a (z0l z2h (pv 1) z0g) z0e))))))) z0t) (z0k (z0s (i:=5) sc.nd rfl (by first | exact Or.inl rfl | exact Or.inr rfl) (z0u clawspoil hr (by rfl) z1g (z0a (z0l z2l (z2v z6n (z0u clawrows hr (by rfl) z1g (z0a (pv 2) (z0a (pv 4) z0e))) z3v (z3u (z0l z2h (pv 6) z0g))) (z2v z6n (pv 5) (z3u (z0l z2h (pv 6) z0g)) z3v)) (z0a (pv 4) (z0a (pv 6) (z0a (pv 1) z0e))))))))) (z0f (z0s (i:=7) sc.nd rfl (by first | exact Or.inl rfl | exact Or.inr rfl) (y3b PySem.F.plainAttrs_str PySem.F.slot_str_join PySem.F.type_str_join y1i z0i (z0a (pv 5) z0e))) (z0f (z0s (i:=8) sc.nd rfl (by first | exact Or.inl rfl | exact Or.inr rfl) (z0u clawtold hr (by rfl) z1g (z0a (pv 7) z0e))) (z0f (z1l (PW.pt (z4r (z0n y7i (pv 8) z2n (z0v _)) (z4r (y2q (z5m (z0w z6c (by rfl) zisinstance boot_isinstance (z0a (z1f z1h (pv 8) z0g (λ _ _=>rfl)) (z0a (z8n (v:=.ty "int") (by rfl) zint boot_int rfl) z0e))))) (z4m (z5m (z0w z6c (by rfl) zisinstance boot_isinstance (z0a (z1f z1h (pv 8) z0g (λ _ _=>rfl)) (z0a (z8n (v:=.ty "bool") (by rfl) zbool boot_bool rfl) z0e)))))))) (z0k (z0p w2q)) z0t) (z0k (z0p (y7e (x2n (w7h hr.units0) (pv 8) (z2k (z0a (z0l z2h (pv 6) z0g) (z0a w2q z0e))) (z0v _)) (y7c (z0u clawtakenbybase hr (by rfl) z1g (z0a (pv 7) z0e)))))))))))))))),?_⟩
 simp only [L2.start,List.length_cons,List.length_nil,List.replicate,List.cons_append,List.nil_append,Nat.reduceSub,Nat.reduceAdd,List.map_cons,List.map_nil]
 refine z0j (λ σ G=>G=H/\∃tot:Int,σ=[some (.ref a),some (.int tot),none,none,none,none,none,none,none]) ?_ (λ R hR=>?_)
 rotate_left
 ·wp_walk using z1b,z1c,tyS,inV,eqV
  exact ⟨ns,hS,hR _ _ ⟨rfl,_,rfl⟩⟩
 rintro σ1 H1 ⟨rfl,tot,rfl⟩
 refine z0j (λ σ G=>∃(pr:Addr) (ds:List Sd) (os:List Nat),ProgAt G pr ds os/\z9i ds/\σ=[some (.ref a),some (.int tot),some (.ref pr),none,none,none,none,none,none]) ?_ (λ R hR=>?_)
 rotate_left
 ·wp_walk using z1b,z1c,tyS,inV,eqV,z4q
  exact ⟨ns,hS,h63,λ H1 p st ou ds as os s1 e1 e2 e3 e4 e5 e6 e7 e8 e9 e10 e11=>hR _ _ ⟨p,ds,os,⟨st,ou,as,e1,e2,e3,e7,e4,Nat.le_trans e5 (by decide),e6,e8,e9,e10⟩,e11,rfl⟩⟩
 rintro σ2 H2 ⟨pr,ds,os,pg,od,rfl⟩
 refine z0j (λ σ G=>∃(pr:Addr) (ds:List Sd) (os:List Nat) (y3:Option V),ProgAt G pr ds os/\z9i ds/\σ=[some (.ref a),some (.int tot),some (.ref pr),y3,none,none,none,none,none]) ?_ (λ R hR=>?_)
 rotate_left
 ·wp_walk using z1b,z1c,tyS,inV,eqV,z0r,z4a
  split
  ·have r3:=z1d tot 63 (show (0:Int) < 3 by decide)
   obtain ⟨n,en,n1,n44⟩:∃n:Nat,(41+z1q tot 63 3).toNat=n/\1≤n/\n≤44:=⟨_,rfl,by lia,by lia⟩
   rw [en]
   refine ⟨by lia,by lia,CompR.mk (λ i ys σ G=>G=H2/\ys=(List.range i).map (λ (j:Nat)=>V.int (tot+(0+(j:Int))))/\∃y,σ=[y,some (.int tot)]) ⟨rfl,rfl,_,rfl⟩ (λ i ys σ G hi h=>?_) (λ ys σ G h l hl=>?_)⟩
   ·obtain ⟨rfl,rfl,y,rfl⟩:=h
    refine ⟨by rw [List.length_map,List.length_range];exact z1i (by lia),?_⟩
    wp_walk using z1b,z1c,tyS,inV,eqV
    exact ⟨by rw [List.range_succ,List.map_append];rfl,_,rfl⟩
   ·obtain ⟨rfl,rfl,y,rfl⟩:=h
    refine ⟨l,rfl,(List.range n).map (λ (j:Nat)=>tot+(0+(j:Int))),by rw [z0d,List.map_map];rfl,by rw [List.length_map,List.length_range];exact n1,by rw [List.length_map,List.length_range];exact n44,λ H' p ds as u h sd dl dk od=>⟨_,.inr (.of h),small (by decide),λ p1 hp1=>⟨small (by decide),λ p2 hp2=>?_⟩⟩⟩
    rw [List.length_map,List.length_range] at dl dk
    rw [List.length_map,sd.1] at hp2 ⊢
    have u1:=z0b hp1 (HO.tup [V.int ((ds.length:Int) - 1)])
    have u2:=z0b hp2 (HO.tup [V.ref p,V.ref p1])
    exact hR _ _ ⟨p2,ds,[ds.length - 1],_,⟨p,p1,as,z0d,u2 _ _ (u1 _ _ h),(sd.same u1).same u2,by rw [u2 _ _ z0d];simp only [List.map_cons,List.map_nil];rw [show ((ds.length - 1:Nat):Int)=(ds.length:Int) - 1 by lia],by lia,by lia,by rw [dl];exact dk,by simp,by simp,λ o ho=>by cases List.mem_singleton.mp ho;lia⟩,od,rfl⟩
  ·exact hR _ _ ⟨pr,ds,os,_,pg,od,rfl⟩
 clear pg od
 clear pr ds os
 rintro σ3 H3 ⟨pr,ds,os,y3,pg,od,rfl⟩
 obtain ⟨st,ou,as,hp,hst,sd,hou,d1,d44,dk,o1,o8,ob⟩:=id pg
 refine z0j (λ σ G=>∃(na:Addr) (nm:List Str),Same H3 G/\G na=some (.tup (nm.map V.str))/\nm.length=ds.length/\z4n nm/\σ=[some (.ref a),some (.int tot),some (.ref pr),y3,some (.ref na),none,none,none,none]) ?_ (λ R hR=>?_)
 rotate_left
 ·wp_walk using z1b,z1c,tyS,inV,eqV,z6k
  refine ⟨_,hp,_,z0q (j:=0) rfl,st,rfl,_,.inr (.of hst),?_⟩
  rw [List.length_map,sd.1]
  exact ⟨ds.length,rfl,d44,λ G na nm g1 e1 nl g=>hR _ _ ⟨na,nm,g1,e1,nl,g,rfl⟩⟩
 rintro σ4 H4 ⟨na,nm,s4,hna,nl,g,rfl⟩
 have no:x3n nm:=nameOk.nm g (by lia)
 have G:Gd ds os nm:=⟨g,nl,dk,od,ob,o1⟩
 have tl:=y8r sd dk nl no o8 ob
 have tn:(z2j ds os nm).length=ds.length+1:=by rw [z5c,List.length_map,y1r]
 have tf:=w0b G tl
 have hp4:=s4 _ _ hp
 have hst4:=s4 _ _ hst
 have pg4:=pg.same s4
 refine z0j (λ σ G=>∃ro:Addr,Same H4 G/\G ro=some (.lst ((z2j ds os nm).map V.str))/\σ=[some (.ref a),some (.int tot),some (.ref pr),y3,some (.ref na),some (.ref ro),none,none,none]) ?_ (λ R hR=>?_)
 rotate_left
 ·wp_walk using z1b,z1c,tyS,inV,eqV,z5u
  exact ⟨ds,os,pg4,nm,hna,nl,no,λ H' r u h=>hR _ _ ⟨r,u,h,rfl⟩⟩
 rintro σ5 H5 ⟨ro,s5,hro,rfl⟩
 have hp5:=s5 _ _ hp4
 have hst5:=s5 _ _ hst4
 have pg5:=pg4.same s5
 have hna5:=s5 _ _ hna
 refine z0j (λ σ G=>∃k:Nat,G=H5/\k < ds.length+1/\k < 42/\σ=[some (.ref a),some (.int tot),some (.ref pr),y3,some (.ref na),some (.ref ro),some (.int (k:Int)),none,none]) ?_ (λ R hR=>?_)
 rotate_left
 ·wp_walk using z1b,z1c,tyS,inV,eqV,z0r
  refine ⟨_,.inl (.of hro),?_⟩
  rw [List.length_map,tn]
  obtain ⟨m,em,mk⟩:∃m:Nat,(if ((ds.length+1:Nat):Int) < 42 then ((ds.length+1:Nat):Int) else 42)=(m:Int)/\m=min 42 (ds.length+1):=⟨min 42 (ds.length+1),by split<;>lia,rfl⟩
  rw [em]
  obtain ⟨j,jl,ej⟩:=z6b tot 62 (show 0 < m by lia)
  rw [ej]
  exact ⟨by lia,hR _ _ ⟨j,rfl,by lia,by lia,rfl⟩⟩
 rintro σ6 H6 ⟨k,rfl,kd,k42,rfl⟩
 refine z0j (λ σ G=>∃(r1:Addr) (R1:List Str) (k:Nat),G r1=some (.lst (R1.map V.str))/\R1.length≤45/\(∀r∈R1,(∀c∈r.cps.toList,c < 128)/\r.length≤5100)/\z9j (z2m (Builtin.Str.glued "\n" R1)) k/\σ=[some (.ref a),some (.int tot),some (.ref pr),y3,some (.ref na),some (.ref r1),some (.int (k:Int)),none,none]) ?_ (λ R hR=>?_)
 rotate_left
 ·wp_walk using z1c,tyS,inV,eqV,z0r
  refine ⟨_,hp5,_,z0q (j:=0) rfl,st,rfl,_,.inr (.of hst5),?_⟩
  rw [List.length_map,sd.1]
  refine if3 (λ c=>hR _ _ ⟨ro,z2j ds os nm,40,hro,by lia,λ r hr=>⟨λ c hc=>((tf r hr).1 c hc).1,(tf r hr).2⟩,x8k G tl (by lia),rfl⟩) (λ c=>?_)
  have c4:ds.length≤40\/k≤39:=by lia
  refine z0j (λ σ G=>∃R2:List Str,G ro=some (.lst (R2.map V.str))/\R2.length=ds.length+1/\(∀r∈R2,(∀c∈r.cps.toList,c < 128)/\r.length≤5100)/\(∀a xs,H6 a=some (.tup xs)->G a=some (.tup xs))/\σ=[some (.ref a),some (.int tot),some (.ref pr),y3,some (.ref na),some (.ref ro),some (.int (k:Int)),none,none]) ?_ (λ R' hR'=>?_)
  rotate_left
  ·wp_walk using z1b,z1c,tyS,inV,eqV,z0r,z7h
   split
   ·refine ⟨_,.inl (.of hro),?_⟩
    rw [List.length_map,tn]
    rw [show ((ds.length+1:Nat):Int) - (k:Int)=((ds.length+1 - k:Nat):Int) by lia]
    obtain ⟨j,jl,ej⟩:=z6b tot 59 (show 0 < ds.length+1 - k by lia)
    rw [ej]
    exact ⟨by lia,k+j,by lia,z2j ds os nm,hro,nm,hna5,by lia,by lia,by lia,by lia,tl _ (z2u (by lia)),x3o g,w0i G (by lia),λ H' x ks sp hx=>hR' _ _ ⟨_,hx,by rw [List.length_set];exact tn,x0z (λ r hr=>⟨λ c hc=>((tf r hr).1 c hc).1,(tf r hr).2⟩) (x0w G tl sp),λ a xs h=>ks a _ (λ z=>by rw [z,hro] at h;cases h) h,rfl⟩⟩
   ·exact hR' _ _ ⟨_,hro,tn,λ r hr=>⟨λ c hc=>((tf r hr).1 c hc).1,(tf r hr).2⟩,λ a xs h=>h,rfl⟩
  rintro σa Ga ⟨R2,hR2,l2,f2,ka,rfl⟩
  wp_walk using z1b,z1c,tyS,inV,eqV,z0r,z7h,z5u,w4u
  refine ⟨ds,os,pg5.tups ka,nm,ka _ _ hna5,nl,no,λ H' r u hr'=>⟨_,.of hr',λ p hp=>⟨_,.of (z0b hp _ _ _ (u _ _ hR2)),λ p1 hp1=>?_⟩⟩⟩
  have cl:z9h ((z2j ds os nm).map V.str) none (some ((k:Int)+1))=((z2j ds os nm).take (k+1)).map V.str:=w4d _ (k+1)
  have ch:z9h (R2.map V.str) (some ((k:Int)+1)) none=(R2.drop (k+1)).map V.str:=w4e _ (k+1)
  rw [cl] at hp1 ⊢
  rw [ch]
  have l3:((z2j ds os nm).take (k+1)++R2.drop (k+1)).length=ds.length+1:=by rw [List.length_append,List.length_take,List.length_drop];lia
  have at3:∀j,j < k+1->((z2j ds os nm).take (k+1)++R2.drop (k+1))[j]?=(z2j ds os nm)[j]?:=λ j hj=>by rw [List.getElem?_append_left (by rw [List.length_take];lia),List.getElem?_take_of_lt hj]
  have gk:((z2j ds os nm).take (k+1)++R2.drop (k+1)).getD k ""=(z2j ds os nm).getD k "" := by rw [List.getD_eq_getElem?_getD,at3 k (by lia),← List.getD_eq_getElem?_getD]
  have f3:∀r∈(z2j ds os nm).take (k+1)++R2.drop (k+1),(∀c∈r.cps.toList,c < 128)/\r.length≤5100:=λ r hr=>by
   rcases List.mem_append.mp hr with hr | hr
   ·have hr:=List.mem_of_mem_take hr
    exact ⟨λ c hc=>((tf r hr).1 c hc).1,(tf r hr).2⟩
   ·exact f2 r (List.mem_of_mem_drop hr)
  refine ⟨_,z0b hp1 _ _ _ z0d,small (by rw [← List.length_append,← List.map_append,List.length_map,l3];lia),λ p2 hp2=>⟨k,rfl,(z2j ds os nm).take (k+1)++R2.drop (k+1),(List.map_append ..).symm,nm,z0b hp2 _ _ _ (z0b hp1 _ _ _ (z0b hp _ _ _ (u _ _ (ka _ _ hna5)))),by lia,by lia,by lia,by lia,by rw [gk];exact tl _ (z2u (by lia)),x3o g,by rw [gk];exact w0i G kd,λ H2 x ks sp hx=>?_⟩⟩
  have sp:=w5t (by rw [l3,tn]) gk sp
  refine hR _ _ ⟨p2,_,k,hx,by rw [List.length_set,l3];lia,x0z f3 (x0w G tl sp),w1s G tl (by lia) (by lia) sp (by rw [List.length_set];exact l3) (λ j hj=>?_) ?_,rfl⟩
  ·rw [List.getElem?_set_ne (by lia)];exact at3 j (by lia)
  ·exact List.getElem?_set_self (by lia)
 rintro σ7 H7 ⟨r1,R1,k,hr1,l45,rf,bad,rfl⟩
 obtain ⟨t1,t2⟩:=x1o rf l45
 refine z0j (λ σ G=>Same H7 G/\σ=[some (.ref a),some (.int tot),some (.ref pr),y3,some (.ref na),some (.ref r1),some (.int (k:Int)),some (.str (Builtin.Str.glued "\n" R1)),none]) ?_ (λ R hR=>?_)
 rotate_left
 ·wp_walk using z1b,z1c,tyS,inV,eqV
  exact ⟨_,.of hr1,t1,hR _ _ ⟨Same.refl _,rfl⟩⟩
 rintro σ8 H8 ⟨s8,rfl⟩
 refine z0j (λ σ G=>∃t,G t=some (.tup [.int ((k:Int)+1),.bl true])/\σ=[some (.ref a),some (.int tot),some (.ref pr),y3,some (.ref na),some (.ref r1),some (.int (k:Int)),some (.str (Builtin.Str.glued "\n" R1)),some (.ref t)]) ?_ (λ R hR=>?_)
 rotate_left
 ·wp_walk using z1b,z1c,tyS,inV,eqV,z7x
  exact ⟨t2,k,bad,λ H' t u ht=>hR _ _ ⟨t,ht,rfl⟩⟩
 rintro σ9 H9 ⟨t,ht,rfl⟩
 refine z0j (λ σ G=>G=H9/\σ=[some (.ref a),some (.int tot),some (.ref pr),y3,some (.ref na),some (.ref r1),some (.int (k:Int)),some (.str (Builtin.Str.glued "\n" R1)),some (.ref t)]) ?_ (λ R hR=>?_)
 rotate_left
 ·wp_walk using z1b,z1c,tyS,inV,eqV
  rw [if_neg (by intro z;cases z)]
  refine ⟨_,ht,_,z0q (j:=0) rfl,"int",.inl rfl,?_⟩
  rw [if_neg (by decide)]
  refine ⟨_,ht,_,z0q (j:=0) rfl,"int",.inl rfl,?_⟩
  rw [if_neg (by decide)]
  exact hR _ _ ⟨rfl,rfl⟩
 rintro σ10 H10 ⟨rfl,rfl⟩
 wp_walk using z1b,z1c,tyS,inV,eqV,z6g
 refine ⟨small (by decide),λ p hp=>⟨_,.of (z0b hp _ _ _ ht),_,.of z0d,rfl,rfl,?_⟩⟩
 rw [if_pos (by simp [x0e,eqV])]
 exact ⟨t2,k,bad,λ H' _=>q H'⟩
theorem w1f {α:Type}{us:List α}(h:us.length=3):∃x0 x1 x2,us=[x0,x1,x2]:=by
 match us,h with
 | [x0,x1,x2],_=>exact ⟨_,_,_,rfl⟩
structure Gl (K:W.Frag) (x:Str) (st:Stmt) (f:Addr) (fd:FuncData):Prop where
 F:Fun K x x st f fd
 a:W.nsIn K mainGlobals x=some (some (.ref f))
theorem gl_mk {K:W.Frag}{x:Str}{st:Stmt}{f:Addr}{oc:Value}{od an:Option Addr}{osl:Array (Option Value)}{kV doc pm cdv ct:Value}(a:W.nsIn K mainGlobals x=some (some (.ref f))) (l:K.lookup f=some ⟨oc,od,.func (W.fnOf x x (z2d st) (z1a st) (z0m st) .none kV doc pm an cdv ct),osl⟩) (c:W.codeIn K cdv x=true) (k:W.keepIn K (.ref f)=true):Gl K x st f (W.fnOf x x (z2d st) (z1a st) (z0m st) .none kV doc pm an cdv ct):=⟨w0w l c k,a⟩
structure Zx (P:Program) (w:World) (K:W.Frag) (mg:Str->Option Value) (base h:Heap):Prop where
 X:K.In h
 G:h.Ns mainGlobals mg
section
variable {P:Program}{w:World}{K:W.Frag}{mg:Str->Option Value}{base h:Heap}{x:Str}{st:Stmt}{f:Addr}{fd:FuncData}{CX:CXT}{k:Nat}{sp:Sp}
theorem Zx.n (Z:Zx P w K mg base h) (z:W.nsIn K mainGlobals x=some none):mg x=none:=W.mg_none_of Z.X Z.G z
theorem Zx.g (Z:Zx P w K mg base h) {v:Value}(z:W.nsIn K mainGlobals x=some (some v)):mg x=some v:=W.mg_of Z.X Z.G z
theorem Zx.b1 {p0:Str}(g:Gl K x st f fd) (b:∀(kV doc pm:Value) (an:Option Addr) (cdv ct:Value) (u0:Value),bindArgs (W.fnOf x x (z2d st) (z1a st) (z0m st) .none kV doc pm an cdv ct) ⟨[u0],[]⟩=pure [(p0,u0)]:=by intros;rfl):Binds K fd [p0] []:=g.F.binds λ kV doc pm an cdv ct us hl=>by
 match us,hl with
 | [u0],_=>exact b kV doc pm an cdv ct u0
theorem Zx.c1 (Z:Zx P w K mg base h) {p0:Str}(g:Gl K x st f fd) (ok:FnOk P w K mg base CX k f fd [p0] sp) (b:∀(kV doc pm:Value) (an:Option Addr) (cdv ct:Value) (u0:Value),bindArgs (W.fnOf x x (z2d st) (z1a st) (z0m st) .none kV doc pm an cdv ct) ⟨[u0],[]⟩=pure [(p0,u0)]:=by intros;rfl):Callee P w K mg base CX k x [p0] sp:=Callee.mk' g.F (Z.g g.a) (Zx.b1 g b) ok
theorem Zx.b2 {p0 p1:Str}(g:Gl K x st f fd) (b:∀(kV doc pm:Value) (an:Option Addr) (cdv ct:Value) (u0 u1:Value),bindArgs (W.fnOf x x (z2d st) (z1a st) (z0m st) .none kV doc pm an cdv ct) ⟨[u0,u1],[]⟩=pure [(p0,u0),(p1,u1)]:=by intros;rfl):Binds K fd [p0,p1] []:=g.F.binds λ kV doc pm an cdv ct us hl=>by
 match us,hl with
 | [u0,u1],_=>exact b kV doc pm an cdv ct u0 u1
theorem Zx.c2 (Z:Zx P w K mg base h) {p0 p1:Str}(g:Gl K x st f fd) (ok:FnOk P w K mg base CX k f fd [p0,p1] sp) (b:∀(kV doc pm:Value) (an:Option Addr) (cdv ct:Value) (u0 u1:Value),bindArgs (W.fnOf x x (z2d st) (z1a st) (z0m st) .none kV doc pm an cdv ct) ⟨[u0,u1],[]⟩=pure [(p0,u0),(p1,u1)]:=by intros;rfl):Callee P w K mg base CX k x [p0,p1] sp:=Callee.mk' g.F (Z.g g.a) (Zx.b2 g b) ok
theorem Zx.b3 {p0 p1 p2:Str}(g:Gl K x st f fd) (b:∀(kV doc pm:Value) (an:Option Addr) (cdv ct:Value) (u0 u1 u2:Value),bindArgs (W.fnOf x x (z2d st) (z1a st) (z0m st) .none kV doc pm an cdv ct) ⟨[u0,u1,u2],[]⟩=pure [(p0,u0),(p1,u1),(p2,u2)]:=by intros;rfl):Binds K fd [p0,p1,p2] []:=g.F.binds λ kV doc pm an cdv ct us hl=>by
 match us,hl with
 | [u0,u1,u2],_=>exact b kV doc pm an cdv ct u0 u1 u2
theorem Zx.c3 (Z:Zx P w K mg base h) {p0 p1 p2:Str}(g:Gl K x st f fd) (ok:FnOk P w K mg base CX k f fd [p0,p1,p2] sp) (b:∀(kV doc pm:Value) (an:Option Addr) (cdv ct:Value) (u0 u1 u2:Value),bindArgs (W.fnOf x x (z2d st) (z1a st) (z0m st) .none kV doc pm an cdv ct) ⟨[u0,u1,u2],[]⟩=pure [(p0,u0),(p1,u1),(p2,u2)]:=by intros;rfl):Callee P w K mg base CX k x [p0,p1,p2] sp:=Callee.mk' g.F (Z.g g.a) (Zx.b3 g b) ok
theorem Zx.b4 {p0 p1 p2 p3:Str}(g:Gl K x st f fd) (b:∀(kV doc pm:Value) (an:Option Addr) (cdv ct:Value) (u0 u1 u2 u3:Value),bindArgs (W.fnOf x x (z2d st) (z1a st) (z0m st) .none kV doc pm an cdv ct) ⟨[u0,u1,u2,u3],[]⟩=pure [(p0,u0),(p1,u1),(p2,u2),(p3,u3)]:=by intros;rfl):Binds K fd [p0,p1,p2,p3] []:=g.F.binds λ kV doc pm an cdv ct us hl=>by
 match us,hl with
 | [u0,u1,u2,u3],_=>exact b kV doc pm an cdv ct u0 u1 u2 u3
theorem Zx.c4 (Z:Zx P w K mg base h) {p0 p1 p2 p3:Str}(g:Gl K x st f fd) (ok:FnOk P w K mg base CX k f fd [p0,p1,p2,p3] sp) (b:∀(kV doc pm:Value) (an:Option Addr) (cdv ct:Value) (u0 u1 u2 u3:Value),bindArgs (W.fnOf x x (z2d st) (z1a st) (z0m st) .none kV doc pm an cdv ct) ⟨[u0,u1,u2,u3],[]⟩=pure [(p0,u0),(p1,u1),(p2,u2),(p3,u3)]:=by intros;rfl):Callee P w K mg base CX k x [p0,p1,p2,p3] sp:=Callee.mk' g.F (Z.g g.a) (Zx.b4 g b) ok
theorem Zx.b5 {p0 p1 p2 p3 p4:Str}(g:Gl K x st f fd) (b:∀(kV doc pm:Value) (an:Option Addr) (cdv ct:Value) (u0 u1 u2 u3 u4:Value),bindArgs (W.fnOf x x (z2d st) (z1a st) (z0m st) .none kV doc pm an cdv ct) ⟨[u0,u1,u2,u3,u4],[]⟩=pure [(p0,u0),(p1,u1),(p2,u2),(p3,u3),(p4,u4)]:=by intros;rfl):Binds K fd [p0,p1,p2,p3,p4] []:=g.F.binds λ kV doc pm an cdv ct us hl=>by
 match us,hl with
 | [u0,u1,u2,u3,u4],_=>exact b kV doc pm an cdv ct u0 u1 u2 u3 u4
theorem Zx.c5 (Z:Zx P w K mg base h) {p0 p1 p2 p3 p4:Str}(g:Gl K x st f fd) (ok:FnOk P w K mg base CX k f fd [p0,p1,p2,p3,p4] sp) (b:∀(kV doc pm:Value) (an:Option Addr) (cdv ct:Value) (u0 u1 u2 u3 u4:Value),bindArgs (W.fnOf x x (z2d st) (z1a st) (z0m st) .none kV doc pm an cdv ct) ⟨[u0,u1,u2,u3,u4],[]⟩=pure [(p0,u0),(p1,u1),(p2,u2),(p3,u3),(p4,u4)]:=by intros;rfl):Callee P w K mg base CX k x [p0,p1,p2,p3,p4] sp:=Callee.mk' g.F (Z.g g.a) (Zx.b5 g b) ok
end
theorem kts {K:W.Frag}{a:Addr}{od:Option Addr}{n:Nat}{sl:Array (Option Value)}{x:Str}{i:Int}{t u:Tok}(h:K.lookup a=some ⟨.type "tuple",od,.seq #[.str x t,.int i u] n,sl⟩):KTup K a [.str x,.int i]:=z8r h (small (show (2:Nat)≤1000 by decide)) (.cons ⟨_,rfl⟩ (.cons ⟨_,rfl⟩ .nil))
theorem ktr1 {K:W.Frag}{a a0:Addr}{od:Option Addr}{n:Nat}{sl:Array (Option Value)}(h:K.lookup a=some ⟨.type "tuple",od,.seq #[.ref a0] n,sl⟩):KTup K a [.ref a0]:=z8r h (small (show (1:Nat)≤1000 by decide)) (.cons rfl (.nil))
theorem ktr2 {K:W.Frag}{a a0 a1:Addr}{od:Option Addr}{n:Nat}{sl:Array (Option Value)}(h:K.lookup a=some ⟨.type "tuple",od,.seq #[.ref a0,.ref a1] n,sl⟩):KTup K a [.ref a0,.ref a1]:=z8r h (small (show (2:Nat)≤1000 by decide)) (.cons rfl (.cons rfl (.nil)))
theorem ktr3 {K:W.Frag}{a a0 a1 a2:Addr}{od:Option Addr}{n:Nat}{sl:Array (Option Value)}(h:K.lookup a=some ⟨.type "tuple",od,.seq #[.ref a0,.ref a1,.ref a2] n,sl⟩):KTup K a [.ref a0,.ref a1,.ref a2]:=z8r h (small (show (3:Nat)≤1000 by decide)) (.cons rfl (.cons rfl (.cons rfl (.nil))))
theorem ktr5 {K:W.Frag}{a a0 a1 a2 a3 a4:Addr}{od:Option Addr}{n:Nat}{sl:Array (Option Value)}(h:K.lookup a=some ⟨.type "tuple",od,.seq #[.ref a0,.ref a1,.ref a2,.ref a3,.ref a4] n,sl⟩):KTup K a [.ref a0,.ref a1,.ref a2,.ref a3,.ref a4]:=z8r h (small (show (5:Nat)≤1000 by decide)) (.cons rfl (.cons rfl (.cons rfl (.cons rfl (.cons rfl (.nil))))))
theorem all_mk {l:W.OpenLaw}{w:World}{K:W.Frag}{h:Heap}{mg:Str->Option Value}{fa f0 f1 f2 f3 f4 f5 f6 f7 f8 f9 f10 f11 f12 f13 f14 f15 f16 f17 f18 f19 f20 f21 f22 f23 f24 f25 f26 f27 f28 f29 f30 f31 f32:Addr}{d0 d1 d2 d3 d4 d5 d6 d7 d8 d9 d10 d11 d12 d13 d14 d15 d16 d17 d18 d19 d20 d21 d22 d23 d24 d25 d26 d27 d28 d29 d30 d31 d32:FuncData}(X:K.In h) (G:h.Ns mainGlobals mg) (hfa:mg "law"=some (.ref fa))
  (g0:Gl K "is_made_of" z8i f0 d0)
  (g1:Gl K "is_name" y4s f1 d1)
  (g2:Gl K "figures_of" z6o f2 d2)
  (g3:Gl K "small_of" y0d f3 d3)
  (g4:Gl K "number_of" z8e f4 d4)
  (g5:Gl K "smalls_of" z7r f5 d5)
  (g6:Gl K "part_of" y4m f6 d6)
  (g7:Gl K "parts_of" y0l f7 d7)
  (g8:Gl K "is_form" y4t f8 d8)
  (g9:Gl K "step_of" y4k f9 d9)
  (g10:Gl K "row_step" y0e f10 d10)
  (g11:Gl K "row_outs" y0f f11 d11)
  (g12:Gl K "read" w1r f12 d12)
  (g13:Gl K "_law_draw" y0s f13 d13)
  (g14:Gl K "_law_smalls" z6l f14 d14)
  (g15:Gl K "_law_word" y0n f15 d15)
  (g16:Gl K "_law_big" y4r f16 d16)
  (g17:Gl K "_law_made" y0r f17 d17)
  (g18:Gl K "_law_kind" z4j f18 d18)
  (g19:Gl K "_law_spots" z8g f19 d19)
  (g20:Gl K "_law_part" y0q f20 d20)
  (g21:Gl K "_law_row" y4q f21 d21)
  (g22:Gl K "_law_steps" z8f f22 d22)
  (g23:Gl K "_law_program" z5n f23 d23)
  (g24:Gl K "_law_plain_name" z4i f24 d24)
  (g25:Gl K "_law_names" z1x f25 d25)
  (g26:Gl K "_law_rows" y0p f26 d26)
  (g27:Gl K "_law_bad_row" z6m f27 d27)
  (g28:Gl K "_law_bad_outs" z5o f28 d28)
  (g29:Gl K "_law_spoil" z8h f29 d29)
  (g30:Gl K "_law_told" y0o f30 d30)
  (g31:Gl K "_law_taken_by_base" z3m f31 d31)
  (g32:Gl K "law" v0e f32 d32)
  (zlen:W.nsIn K mainGlobals "len"=some none)
  (zall:W.nsIn K mainGlobals "all"=some none)
  (zint:W.nsIn K mainGlobals "int"=some none)
  (ztuple:W.nsIn K mainGlobals "tuple"=some none)
  (zlist:W.nsIn K mainGlobals "list"=some none)
  (zenumerate:W.nsIn K mainGlobals "enumerate"=some none)
  (zrange:W.nsIn K mainGlobals "range"=some none)
  (zstr:W.nsIn K mainGlobals "str"=some none)
  (zisinstance:W.nsIn K mainGlobals "isinstance"=some none)
  (zmax:W.nsIn K mainGlobals "max"=some none)
  (zsum:W.nsIn K mainGlobals "sum"=some none)
  (zValueError:W.nsIn K mainGlobals "ValueError"=some none)
  (zmin:W.nsIn K mainGlobals "min"=some none)
  (zbool:W.nsIn K mainGlobals "bool"=some none)
  {tLETTERS:Tok}(gLETTERS:W.nsIn K mainGlobals "LETTERS"=some (some (.str "abcdefghijklmnopqrstuvwxyz" tLETTERS)))
  {tMOST_LETTERS:Tok}(gMOST_LETTERS:W.nsIn K mainGlobals "MOST_LETTERS"=some (some (.int 8 tMOST_LETTERS)))
  {tFIGURES:Tok}(gFIGURES:W.nsIn K mainGlobals "FIGURES"=some (some (.str "0123456789" tFIGURES)))
  {tLOW:Tok}(gLOW:W.nsIn K mainGlobals "LOW"=some (some (.int (-9223372036854775808) tLOW)))
  {tHIGH:Tok}(gHIGH:W.nsIn K mainGlobals "HIGH"=some (some (.int 9223372036854775807 tHIGH)))
  {tMOST_SIDES_WRITTEN:Tok}(gMOST_SIDES_WRITTEN:W.nsIn K mainGlobals "MOST_SIDES_WRITTEN"=some (some (.int 8 tMOST_SIDES_WRITTEN)))
  {tMOST_OUTS:Tok}(gMOST_OUTS:W.nsIn K mainGlobals "MOST_OUTS"=some (some (.int 8 tMOST_OUTS)))
  {tMOST_STEPS:Tok}(gMOST_STEPS:W.nsIn K mainGlobals "MOST_STEPS"=some (some (.int 40 tMOST_STEPS)))
  {CBadText:Addr}(nBadText:W.nsIn K mainGlobals "BadText"=some (some (.ref CBadText)))
  {CLoomError:Addr}(nLoomError:W.nsIn K mainGlobals "LoomError"=some (some (.ref CLoomError)))
  {CBadStep:Addr}(nBadStep:W.nsIn K mainGlobals "BadStep"=some (some (.ref CBadStep)))
  {CNoWord:Addr}(nNoWord:W.nsIn K mainGlobals "NoWord"=some (some (.ref CNoWord)))
  {CNoPlace:Addr}(nNoPlace:W.nsIn K mainGlobals "NoPlace"=some (some (.ref CNoPlace)))
  {CUnlike:Addr}(nUnlike:W.nsIn K mainGlobals "Unlike"=some (some (.ref CUnlike)))
  {CTooLarge:Addr}(nTooLarge:W.nsIn K mainGlobals "TooLarge"=some (some (.ref CTooLarge)))
  {CNoSide:Addr}(nNoSide:W.nsIn K mainGlobals "NoSide"=some (some (.ref CNoSide)))
  {CBeyond:Addr}(nBeyond:W.nsIn K mainGlobals "Beyond"=some (some (.ref CBeyond)))
  {CNoRound:Addr}(nNoRound:W.nsIn K mainGlobals "NoRound"=some (some (.ref CNoRound)))
  {CNotReady:Addr}(nNotReady:W.nsIn K mainGlobals "NotReady"=some (some (.ref CNotReady)))
  {CNotDone:Addr}(nNotDone:W.nsIn K mainGlobals "NotDone"=some (some (.ref CNotDone)))
  {CStuck:Addr}(nStuck:W.nsIn K mainGlobals "Stuck"=some (some (.ref CStuck)))
  {dPT:Addr}{nPT:Nat}{tP0 tP1 tP2 tP3 tP4 tP5 tP6 tP7 tP8 tP9 tP10 tP11 tP12 tP13 tP14:Tok}{aP0 aP1 aP2 aP3 aP4 aP5 aP6 aP7 aP8 aP9 aP10 aP11 aP12 aP13 aP14:Addr}
  (gPT:W.nsIn K mainGlobals "PARTS"=some (some (.ref dPT))) (dPT0:(dPT == sysModules)=false)
  (lPT:K.lookup dPT=some { cls:=.type "dict",data:=.dict #[⟨PyData.keyHash w.params "in",.str "in" tP0,.ref aP0⟩,⟨PyData.keyHash w.params "num",.str "num" tP1,.ref aP1⟩,⟨PyData.keyHash w.params "count",.str "count" tP2,.ref aP2⟩,⟨PyData.keyHash w.params "each",.str "each" tP3,.ref aP3⟩,⟨PyData.keyHash w.params "pair",.str "pair" tP4,.ref aP4⟩,⟨PyData.keyHash w.params "pick",.str "pick" tP5,.ref aP5⟩,⟨PyData.keyHash w.params "turn",.str "turn" tP6,.ref aP6⟩,⟨PyData.keyHash w.params "flip",.str "flip" tP7,.ref aP7⟩,⟨PyData.keyHash w.params "cut",.str "cut" tP8,.ref aP8⟩,⟨PyData.keyHash w.params "spread",.str "spread" tP9,.ref aP9⟩,⟨PyData.keyHash w.params "lay",.str "lay" tP10,.ref aP10⟩,⟨PyData.keyHash w.params "join",.str "join" tP11,.ref aP11⟩,⟨PyData.keyHash w.params "fetch",.str "fetch" tP12,.ref aP12⟩,⟨PyData.keyHash w.params "fold",.str "fold" tP13,.ref aP13⟩,⟨PyData.keyHash w.params "run",.str "run" tP14,.ref aP14⟩] nPT })
  {aP0_0:Addr}(lP0:KTup K aP0 [.ref aP0_0])
  (lP0_0:KTup K aP0_0 [.str "sides",.int 1])
  {aP1_0:Addr}(lP1:KTup K aP1 [.ref aP1_0])
  (lP1_0:KTup K aP1_0 [.str "number",.int 1])
  {aP2_0 aP2_1:Addr}(lP2:KTup K aP2 [.ref aP2_0,.ref aP2_1])
  (lP2_0:KTup K aP2_0 [.str "small",.int 2])
  (lP2_1:KTup K aP2_1 [.str "sides",.int 1])
  {aP3_0 aP3_1:Addr}(lP3:KTup K aP3 [.ref aP3_0,.ref aP3_1])
  (lP3_0:KTup K aP3_0 [.str "word",.int 1])
  (lP3_1:KTup K aP3_1 [.str "step",.int 2])
  {aP4_0 aP4_1 aP4_2:Addr}(lP4:KTup K aP4 [.ref aP4_0,.ref aP4_1,.ref aP4_2])
  (lP4_0:KTup K aP4_0 [.str "word",.int 1])
  (lP4_1:KTup K aP4_1 [.str "step",.int 2])
  (lP4_2:KTup K aP4_2 [.str "step",.int 3])
  {aP5_0 aP5_1 aP5_2:Addr}(lP5:KTup K aP5 [.ref aP5_0,.ref aP5_1,.ref aP5_2])
  (lP5_0:KTup K aP5_0 [.str "step",.int 1])
  (lP5_1:KTup K aP5_1 [.str "step",.int 2])
  (lP5_2:KTup K aP5_2 [.str "step",.int 3])
  {aP6_0 aP6_1:Addr}(lP6:KTup K aP6 [.ref aP6_0,.ref aP6_1])
  (lP6_0:KTup K aP6_0 [.str "step",.int 1])
  (lP6_1:KTup K aP6_1 [.str "sides",.int 2])
  {aP7_0 aP7_1:Addr}(lP7:KTup K aP7 [.ref aP7_0,.ref aP7_1])
  (lP7_0:KTup K aP7_0 [.str "step",.int 1])
  (lP7_1:KTup K aP7_1 [.str "small",.int 2])
  {aP8_0 aP8_1 aP8_2 aP8_3 aP8_4:Addr}(lP8:KTup K aP8 [.ref aP8_0,.ref aP8_1,.ref aP8_2,.ref aP8_3,.ref aP8_4])
  (lP8_0:KTup K aP8_0 [.str "step",.int 1])
  (lP8_1:KTup K aP8_1 [.str "small",.int 2])
  (lP8_2:KTup K aP8_2 [.str "small",.int 3])
  (lP8_3:KTup K aP8_3 [.str "small",.int 4])
  (lP8_4:KTup K aP8_4 [.str "small",.int 5])
  {aP9_0 aP9_1 aP9_2:Addr}(lP9:KTup K aP9 [.ref aP9_0,.ref aP9_1,.ref aP9_2])
  (lP9_0:KTup K aP9_0 [.str "step",.int 1])
  (lP9_1:KTup K aP9_1 [.str "small",.int 2])
  (lP9_2:KTup K aP9_2 [.str "small",.int 3])
  {aP10_0 aP10_1:Addr}(lP10:KTup K aP10 [.ref aP10_0,.ref aP10_1])
  (lP10_0:KTup K aP10_0 [.str "step",.int 1])
  (lP10_1:KTup K aP10_1 [.str "sides",.int 2])
  {aP11_0 aP11_1 aP11_2:Addr}(lP11:KTup K aP11 [.ref aP11_0,.ref aP11_1,.ref aP11_2])
  (lP11_0:KTup K aP11_0 [.str "step",.int 1])
  (lP11_1:KTup K aP11_1 [.str "step",.int 2])
  (lP11_2:KTup K aP11_2 [.str "small",.int 3])
  {aP12_0 aP12_1:Addr}(lP12:KTup K aP12 [.ref aP12_0,.ref aP12_1])
  (lP12_0:KTup K aP12_0 [.str "step",.int 1])
  (lP12_1:KTup K aP12_1 [.str "step",.int 2])
  {aP13_0 aP13_1 aP13_2:Addr}(lP13:KTup K aP13 [.ref aP13_0,.ref aP13_1,.ref aP13_2])
  (lP13_0:KTup K aP13_0 [.str "word",.int 1])
  (lP13_1:KTup K aP13_1 [.str "step",.int 2])
  (lP13_2:KTup K aP13_2 [.str "small",.int 3])
  {aP14_0 aP14_1 aP14_2:Addr}(lP14:KTup K aP14 [.ref aP14_0,.ref aP14_1,.ref aP14_2])
  (lP14_0:KTup K aP14_0 [.str "word",.int 1])
  (lP14_1:KTup K aP14_1 [.str "step",.int 2])
  (lP14_2:KTup K aP14_2 [.str "small",.int 3])
  {fI:Addr}{ocI kVI dcI pmI cdI ctI:Value}{odI anI:Option Addr}{slI:Array (Option Value)}
  (aI:W.findIn K (.ref CBadText) "__init__"=some (some (.ref fI)))
  (lI:K.lookup fI=some ⟨ocI,odI,.func (W.fnOf "__init__" "BadText.__init__" (z2d y8v) (z1a y8v) (z0m y8v) .none kVI dcI pmI anI cdI ctI),slI⟩)
  (qI:W.codeIn K cdI "BadText.__init__"=true)
  (kI:W.keepIn K (.ref fI)=true)
  (iI:W.isFn K (.ref fI)=true)
  (kC:W.keepIn K (.ref CBadText)=true)
  (clsI:w4g K CBadText [.type "ValueError",.type "Exception",.type "BaseException",.type "object"] "ValueError.__new__"=true)
  (ovI:(W.clsIn K CBadText).any (λ cd=>cd.hasDict && y5f cd.mro)=true)
  (saI:W.findIn K (.ref CBadText) "__setattr__"=some (some (.builtin "object.__setattr__")))
  (gaI:W.findIn K (.ref CBadText) "__getattribute__"=some (some (.builtin "BaseException.__getattribute__")))
  (n1:W.findIn K (.ref CBadText) (Str.ofString "row")=some none)
  (n3:W.findIn K (.ref CBadText) (Str.ofString "__getattr__")=some none)
  (hL1:W.specialIn K (.ref CLoomError) "__getattribute__"=some (some (.builtin "type.__getattribute__")))
  (hL2:W.readsIn K CLoomError (.type "type")=true)
  (hL3:W.findCls K (.ref CLoomError) (.type "type") "__init__"=some (.val (.builtin "ValueError.__init__")))
  (kc:(W.clsIn K CBadText).isSome=true)
  (kcl:W.findIn K (.ref CBadText) "__class__"=some (some (.builtin "object.__class__")))
  (kmo:W.mroIn K CBadText (.type "object")=some true)
  (kmb:W.mroIn K CBadText (.type "BaseException")=some true)
  (em:W.exmOne K (.ref CBadText) (.ref CBadText)=some true)
  (emL:W.exmOne K (.ref CBadText) (.ref CLoomError)=some true)
  (ei:W.kitOne K (.ref CBadText) (.ref CLoomError)=some true)
  (es:W.kitOne K (.ref CBadText) (.ref CBadText)=some true)
  (ev:W.kitOne K (.ref CBadText) (.type "ValueError")=some true)
  (k8:W.kitAny K (.ref CBadText) [Value.ref CBadStep,Value.ref CNoWord,Value.ref CNoPlace,Value.ref CUnlike,Value.ref CTooLarge,Value.ref CNoSide,Value.ref CBeyond,Value.ref CNoRound]=some false)
  (k3:W.kitAny K (.ref CBadText) [Value.ref CNotReady,Value.ref CNotDone,Value.ref CStuck]=some false)
  : ∃fd:FuncData,(∀(s:Shared) (v:Value),BindsTo s fd ⟨[v],[]⟩ [("script",v)])/\∀base:Heap,K.In base->base.Ns mainGlobals mg->FnOk l.prog w K mg base CX0 11 fa fd ["script"] (x6v K):=by
 have e:=hfa.symm.trans (W.mg_of X G g32.a)
 cases e
 have TPo:y5t l.prog w K dPT:=⟨_,KTab.mk (l:=[("in",tP0,aP0),("num",tP1,aP1),("count",tP2,aP2),("each",tP3,aP3),("pair",tP4,aP4),("pick",tP5,aP5),("turn",tP6,aP6),("flip",tP7,aP7),("cut",tP8,aP8),("spread",tP9,aP9),("lay",tP10,aP10),("join",tP11,aP11),("fetch",tP12,aP12),("fold",tP13,aP13),("run",tP14,aP14)]) dPT0 lPT rfl (show (["in","num","count","each","pair","pick","turn","flip","cut","spread","lay","join","fetch","fold","run"]:List Str).Nodup by decide +kernel),⟨⟨rfl,_,lP0,⟨⟨_,rfl,lP0_0⟩,trivial⟩⟩,⟨⟨rfl,_,lP1,⟨⟨_,rfl,lP1_0⟩,trivial⟩⟩,⟨⟨rfl,_,lP2,⟨⟨_,rfl,lP2_0⟩,⟨⟨_,rfl,lP2_1⟩,trivial⟩⟩⟩,⟨⟨rfl,_,lP3,⟨⟨_,rfl,lP3_0⟩,⟨⟨_,rfl,lP3_1⟩,trivial⟩⟩⟩,⟨⟨rfl,_,lP4,⟨⟨_,rfl,lP4_0⟩,⟨⟨_,rfl,lP4_1⟩,⟨⟨_,rfl,lP4_2⟩,trivial⟩⟩⟩⟩,⟨⟨rfl,_,lP5,⟨⟨_,rfl,lP5_0⟩,⟨⟨_,rfl,lP5_1⟩,⟨⟨_,rfl,lP5_2⟩,trivial⟩⟩⟩⟩,⟨⟨rfl,_,lP6,⟨⟨_,rfl,lP6_0⟩,⟨⟨_,rfl,lP6_1⟩,trivial⟩⟩⟩,⟨⟨rfl,_,lP7,⟨⟨_,rfl,lP7_0⟩,⟨⟨_,rfl,lP7_1⟩,trivial⟩⟩⟩,⟨⟨rfl,_,lP8,⟨⟨_,rfl,lP8_0⟩,⟨⟨_,rfl,lP8_1⟩,⟨⟨_,rfl,lP8_2⟩,⟨⟨_,rfl,lP8_3⟩,⟨⟨_,rfl,lP8_4⟩,trivial⟩⟩⟩⟩⟩⟩,⟨⟨rfl,_,lP9,⟨⟨_,rfl,lP9_0⟩,⟨⟨_,rfl,lP9_1⟩,⟨⟨_,rfl,lP9_2⟩,trivial⟩⟩⟩⟩,⟨⟨rfl,_,lP10,⟨⟨_,rfl,lP10_0⟩,⟨⟨_,rfl,lP10_1⟩,trivial⟩⟩⟩,⟨⟨rfl,_,lP11,⟨⟨_,rfl,lP11_0⟩,⟨⟨_,rfl,lP11_1⟩,⟨⟨_,rfl,lP11_2⟩,trivial⟩⟩⟩⟩,⟨⟨rfl,_,lP12,⟨⟨_,rfl,lP12_0⟩,⟨⟨_,rfl,lP12_1⟩,trivial⟩⟩⟩,⟨⟨rfl,_,lP13,⟨⟨_,rfl,lP13_0⟩,⟨⟨_,rfl,lP13_1⟩,⟨⟨_,rfl,lP13_2⟩,trivial⟩⟩⟩⟩,⟨⟨rfl,_,lP14,⟨⟨_,rfl,lP14_0⟩,⟨⟨_,rfl,lP14_1⟩,⟨⟨_,rfl,lP14_2⟩,trivial⟩⟩⟩⟩,trivial⟩⟩⟩⟩⟩⟩⟩⟩⟩⟩⟩⟩⟩⟩⟩⟩
 obtain ⟨_,_,kVL,dcL,pmL,anL,cdL,ctL,_,eL,_,_⟩:=g32.F.ex
 refine ⟨d32,λ s v=>by rw [eL];exact .of_eq rfl,λ base KB GB=>?_⟩
 have Z:Zx l.prog w K mg base h:=⟨X,G⟩
 have FI:=w0w (st:=y8v) lI qI kI
 have MB:MkX K CBadText fI [.type "ValueError",.type "Exception",.type "BaseException",.type "object"] "ValueError.__new__" := ⟨clsI,aI,iI,kC⟩
 have aBS:AtX K CBadText:=⟨ovI,saI,gaI⟩
 have bB:=FI.binds (ps:=["self","text","row"]) λ _ _ _ _ _ _ us hl=>by
  obtain ⟨_,_,_,rfl⟩:=w1f hl
  rfl
 have FB:=w7j (P:=l.prog) (w:=w) (base:=base) (mg:=mg) FI (W.mg_of X G nLoomError) hL1 hL2 hL3 (by decide +kernel)
 have ek:ExcK K CBadText:=⟨kc,gaI,n3,kcl,kmo,kmb⟩
 have C_ismadeof:=Z.c3 g0 (y9n g0.F (Z.n zlen) (Z.n zall))
 have C_isname:=Z.c1 g1 (x7x g1.F (C_ismadeof.mono (by decide)) (Z.g gLETTERS) (Z.g gMOST_LETTERS))
 have C_figuresof:=Z.c2 g2 (y5j g2.F (C_ismadeof.mono (by decide)) (Z.n zlen) (Z.n zint) (Z.g gFIGURES))
 have C_smallof:=Z.c1 g3 (x3a g3.F (C_figuresof.mono (by decide)))
 have C_numberof:=Z.c1 g4 (y9i g4.F (C_figuresof.mono (by decide)) (Z.g gLOW) (Z.g gHIGH))
 have C_smallsof:=Z.c1 g5 (y9h g5.F (C_smallof.mono (by decide)) (Z.n zlen) (Z.n ztuple) (Z.g gMOST_SIDES_WRITTEN))
 have C_partof:=Z.c3 g6 (x7u g6.F (C_isname.mono (by decide)) (C_numberof.mono (by decide)) (C_smallof.mono (by decide)))
 have C_partsof:=Z.c1 g7 (x3d g7.F (Z.g gPT) TPo)
 have C_isform:=Z.c1 g8 (x7y g8.F (Z.g gPT) TPo)
 have C_stepof:=Z.c3 g9 (x7t g9.F (C_partsof.mono (by decide)) (C_smallsof.mono (by decide)) (C_partof.mono (by decide)) (Z.n zlen) (Z.n zlist) (Z.n ztuple))
 have C_rowstep:=Z.c2 g10 (x3b g10.F (C_isform.mono (by decide)) (C_isname.mono (by decide)) (C_stepof.mono (by decide)) (Z.n zlen))
 have C_rowouts:=Z.c2 g11 (x3c g11.F (Z.n zlen) (Z.n ztuple) (Z.g gMOST_OUTS))
 have C_read:=Z.c1 g12 (w7i g12.F nBadText (C_rowstep.mono (by decide)) (C_rowouts.mono (by decide)) (Z.n zenumerate) (Z.n zlen) (Z.n ztuple) (Z.g gMOST_STEPS) (W.mg_of X G nBadText) MB FB bB aBS n1)
 have C_lawdraw:=Z.c3 g13 (x3k g13.F)
 have C_lawsmalls:=Z.c3 g14 (y5h g14.F (C_lawdraw.mono (by decide)) (Z.n ztuple) (Z.n zrange))
 have C_lawword:=Z.c1 g15 (x3e g15.F (C_lawdraw.mono (by decide)) (Z.n zrange))
 have C_lawbig:=Z.c1 g16 (x7w g16.F (C_lawdraw.mono (by decide)))
 have C_lawmade:=Z.c3 g17 (x3i g17.F (C_lawsmalls.mono (by decide)) (C_lawdraw.mono (by decide)) (C_lawword.mono (by decide)) (C_lawbig.mono (by decide)))
 have C_lawkind:=Z.c2 g18 (x3j g18.F (C_lawdraw.mono (by decide)))
 have C_lawspots:=Z.c1 g19 (y9k g19.F)
 have C_lawpart:=Z.c3 g20 (x3h g20.F (C_lawspots.mono (by decide)) (Z.n zstr))
 have C_lawrow:=Z.c3 g21 (x7v g21.F (C_lawpart.mono (by decide)) (Z.n zlen) (Z.n zrange) (Z.n zisinstance) (Z.n ztuple) (Z.n zstr))
 have C_lawsteps:=Z.c1 g22 (y9j g22.F (C_lawdraw.mono (by decide)) (C_lawkind.mono (by decide)) (C_lawmade.mono (by decide)) (Z.n zrange) (Z.n zlen) (Z.n zmax) (Z.n ztuple))
 have C_lawprogram:=Z.c1 g23 (y3e g23.F (C_lawsteps.mono (by decide)) (C_lawdraw.mono (by decide)) (Z.n zlen) (Z.n zsum) (Z.n zrange) (Z.n ztuple))
 have C_lawplainname:=Z.c1 g24 (z9d g24.F)
 have C_lawnames:=Z.c2 g25 (y9m g25.F (C_lawdraw.mono (by decide)) (C_lawplainname.mono (by decide)) (Z.n zrange) (Z.n ztuple))
 have C_lawrows:=Z.c2 g26 (x3g g26.F (C_lawrow.mono (by decide)) (Z.n zlen) (Z.n zrange))
 have C_lawbadrow:=CalleeK.mk' (P:=l.prog) (w:=w) (base:=base) g27.F (Z.g g27.a) (Zx.b5 g27) (y5i g27.F)
 have C_lawbadouts:=Z.c3 g28 (y3f g28.F)
 have C_lawspoil:=Z.c4 g29 (y9l g29.F (C_lawdraw.mono (by decide)) (C_lawbadouts.mono (by decide)) (C_lawbadrow.mono (by decide)) (Z.n zlen) (Z.n zmax))
 have C_lawtold:=Z.c1 g30 (x3f g30.F nBadText nLoomError nBadStep nNoWord nNoPlace nUnlike nTooLarge nNoSide nBeyond nNoRound nNotReady nNotDone nStuck (C_read.mono (by decide)) (Z.n zisinstance) (Z.n zValueError) (W.mg_of X G nBadText) MB.cls aBS n1 n3 ek em ei ev k8 k3)
 have C_lawtakenbybase:=Z.c1 g31 (z7f g31.F nBadText nLoomError (C_read.mono (by decide)) (Z.n zisinstance) (W.mg_of X G nLoomError) ek emL es)
 exact v0s g32.F (C_lawprogram.mono (by decide)) (C_lawdraw.mono (by decide)) (C_lawsteps.mono (by decide)) (C_lawnames.mono (by decide)) (C_lawrows.mono (by decide)) (C_lawspoil.mono (by decide)) (C_lawtold.mono (by decide)) (C_lawtakenbybase.mono (by decide)) (Z.n zsum) (Z.n zlen) (Z.n zrange) (Z.n zmin) (Z.n zisinstance) (Z.n zint) (Z.n zbool)
theorem walk {l:W.OpenLaw}{q:Program}{loose:List Str}{XP:(Str->Option Value)->Heap->Prop}{YP:World->Heap->Prop}{d:DefRec}{K:Params->W.Frag}(hn:l.most=some 63) (hdf:d.params.defaults=[])
  (hY:∀(w:World) (h:Heap),YP w h->(K w.params).In h)
  (F:∀(w:World) (mg:Str->Option Value) (fa:Addr) (h:Heap),(K w.params).In h->h.Ns mainGlobals mg->mg d.name=some (.ref fa) ->
   ∃fd:FuncData,(∀(s:Shared) (u:Value),BindsTo s fd ⟨[u],[]⟩ [("script",u)])/\∀base:Heap,(K w.params).In base->base.Ns mainGlobals mg->FnOk l.prog w (K w.params) mg base (CX0) 11 fa fd ["script"] (x6v (K w.params))) :
  W.WalkO q loose XP YP l.row.toRowW d [] (λ f vs=>PySem.call f vs) :=
 L2.walk_of (n:=63) (k:=11) (x := "script") (CX:=λ _=>CX0) (sp:=λ w=>x6v (K w.params)) hn (by decide) hdf ⟨rfl,by decide,by decide⟩ hY F (λ _ _ a ns hl hfew hS=>⟨a,ns,rfl,hS,hl,λ _=>rfl⟩) λ _ _ _ _ _ z=>z
end My
end
open PySem PySem.W PyProof.Rows
set_option maxRecDepth 100000 in
set_option maxHeartbeats 0 in
theorem PySem.Challenge.cw_sideloom_k30_rows_at_fault_holds : PySem.Challenge.rw_sideloom_k30_rows_at_fault.Holds := by
 w_on;o_law;k_head;(case hw=>w_witness2)
 k_fill
 refine My.walk (l:=PySem.Challenge.rw_sideloom_k30_rows_at_fault) rfl rfl (λ w h Y=>W.kIn_of Y) ?F
 case F =>
  intro w mg fa h KX G hmg
  refine' My.all_mk KX G hmg ?gg0 ?gg1 ?gg2 ?gg3 ?gg4 ?gg5 ?gg6 ?gg7 ?gg8 ?gg9 ?gg10 ?gg11 ?gg12 ?gg13 ?gg14 ?gg15 ?gg16 ?gg17 ?gg18 ?gg19 ?gg20 ?gg21 ?gg22 ?gg23 ?gg24 ?gg25 ?gg26 ?gg27 ?gg28 ?gg29 ?gg30 ?gg31 ?gg32 ?zlen ?zall ?zint ?ztuple ?zlist ?zenumerate ?zrange ?zstr ?zisinstance ?zmax ?zsum ?zValueError ?zmin ?zbool ?gLETTERS ?gMOST_LETTERS ?gFIGURES ?gLOW ?gHIGH ?gMOST_SIDES_WRITTEN ?gMOST_OUTS ?gMOST_STEPS ?nBadText ?nLoomError ?nBadStep ?nNoWord ?nNoPlace ?nUnlike ?nTooLarge ?nNoSide ?nBeyond ?nNoRound ?nNotReady ?nNotDone ?nStuck ?gPT ?dPT0 ?lPT ?lP0 ?lP0_0 ?lP1 ?lP1_0 ?lP2 ?lP2_0 ?lP2_1 ?lP3 ?lP3_0 ?lP3_1 ?lP4 ?lP4_0 ?lP4_1 ?lP4_2 ?lP5 ?lP5_0 ?lP5_1 ?lP5_2 ?lP6 ?lP6_0 ?lP6_1 ?lP7 ?lP7_0 ?lP7_1 ?lP8 ?lP8_0 ?lP8_1 ?lP8_2 ?lP8_3 ?lP8_4 ?lP9 ?lP9_0 ?lP9_1 ?lP9_2 ?lP10 ?lP10_0 ?lP10_1 ?lP11 ?lP11_0 ?lP11_1 ?lP11_2 ?lP12 ?lP12_0 ?lP12_1 ?lP13 ?lP13_0 ?lP13_1 ?lP13_2 ?lP14 ?lP14_0 ?lP14_1 ?lP14_2 ?aI ?lI ?qI ?kI ?iI ?kC ?clsI ?ovI ?saI ?gaI ?n1 ?n3 ?hL1 ?hL2 ?hL3 ?kc ?kcl ?kmo ?kmb ?em ?emL ?ei ?es ?ev ?k8 ?k3
  (case gg0=>refine' My.gl_mk ?ya ?yb ?yc ?yd;(case ya=>k_is);(case yb=>k_is);(case yc=>k_is);(case yd=>k_is))
  (case gg1=>refine' My.gl_mk ?ya ?yb ?yc ?yd;(case ya=>k_is);(case yb=>k_is);(case yc=>k_is);(case yd=>k_is))
  (case gg2=>refine' My.gl_mk ?ya ?yb ?yc ?yd;(case ya=>k_is);(case yb=>k_is);(case yc=>k_is);(case yd=>k_is))
  (case gg3=>refine' My.gl_mk ?ya ?yb ?yc ?yd;(case ya=>k_is);(case yb=>k_is);(case yc=>k_is);(case yd=>k_is))
  (case gg4=>refine' My.gl_mk ?ya ?yb ?yc ?yd;(case ya=>k_is);(case yb=>k_is);(case yc=>k_is);(case yd=>k_is))
  (case gg5=>refine' My.gl_mk ?ya ?yb ?yc ?yd;(case ya=>k_is);(case yb=>k_is);(case yc=>k_is);(case yd=>k_is))
  (case gg6=>refine' My.gl_mk ?ya ?yb ?yc ?yd;(case ya=>k_is);(case yb=>k_is);(case yc=>k_is);(case yd=>k_is))
  (case gg7=>refine' My.gl_mk ?ya ?yb ?yc ?yd;(case ya=>k_is);(case yb=>k_is);(case yc=>k_is);(case yd=>k_is))
  (case gg8=>refine' My.gl_mk ?ya ?yb ?yc ?yd;(case ya=>k_is);(case yb=>k_is);(case yc=>k_is);(case yd=>k_is))
  (case gg9=>refine' My.gl_mk ?ya ?yb ?yc ?yd;(case ya=>k_is);(case yb=>k_is);(case yc=>k_is);(case yd=>k_is))
  (case gg10=>refine' My.gl_mk ?ya ?yb ?yc ?yd;(case ya=>k_is);(case yb=>k_is);(case yc=>k_is);(case yd=>k_is))
  (case gg11=>refine' My.gl_mk ?ya ?yb ?yc ?yd;(case ya=>k_is);(case yb=>k_is);(case yc=>k_is);(case yd=>k_is))
  (case gg12=>refine' My.gl_mk ?ya ?yb ?yc ?yd;(case ya=>k_is);(case yb=>k_is);(case yc=>k_is);(case yd=>k_is))
  (case gg13=>refine' My.gl_mk ?ya ?yb ?yc ?yd;(case ya=>k_is);(case yb=>k_is);(case yc=>k_is);(case yd=>k_is))
  (case gg14=>refine' My.gl_mk ?ya ?yb ?yc ?yd;(case ya=>k_is);(case yb=>k_is);(case yc=>k_is);(case yd=>k_is))
  (case gg15=>refine' My.gl_mk ?ya ?yb ?yc ?yd;(case ya=>k_is);(case yb=>k_is);(case yc=>k_is);(case yd=>k_is))
  (case gg16=>refine' My.gl_mk ?ya ?yb ?yc ?yd;(case ya=>k_is);(case yb=>k_is);(case yc=>k_is);(case yd=>k_is))
  (case gg17=>refine' My.gl_mk ?ya ?yb ?yc ?yd;(case ya=>k_is);(case yb=>k_is);(case yc=>k_is);(case yd=>k_is))
  (case gg18=>refine' My.gl_mk ?ya ?yb ?yc ?yd;(case ya=>k_is);(case yb=>k_is);(case yc=>k_is);(case yd=>k_is))
  (case gg19=>refine' My.gl_mk ?ya ?yb ?yc ?yd;(case ya=>k_is);(case yb=>k_is);(case yc=>k_is);(case yd=>k_is))
  (case gg20=>refine' My.gl_mk ?ya ?yb ?yc ?yd;(case ya=>k_is);(case yb=>k_is);(case yc=>k_is);(case yd=>k_is))
  (case gg21=>refine' My.gl_mk ?ya ?yb ?yc ?yd;(case ya=>k_is);(case yb=>k_is);(case yc=>k_is);(case yd=>k_is))
  (case gg22=>refine' My.gl_mk ?ya ?yb ?yc ?yd;(case ya=>k_is);(case yb=>k_is);(case yc=>k_is);(case yd=>k_is))
  (case gg23=>refine' My.gl_mk ?ya ?yb ?yc ?yd;(case ya=>k_is);(case yb=>k_is);(case yc=>k_is);(case yd=>k_is))
  (case gg24=>refine' My.gl_mk ?ya ?yb ?yc ?yd;(case ya=>k_is);(case yb=>k_is);(case yc=>k_is);(case yd=>k_is))
  (case gg25=>refine' My.gl_mk ?ya ?yb ?yc ?yd;(case ya=>k_is);(case yb=>k_is);(case yc=>k_is);(case yd=>k_is))
  (case gg26=>refine' My.gl_mk ?ya ?yb ?yc ?yd;(case ya=>k_is);(case yb=>k_is);(case yc=>k_is);(case yd=>k_is))
  (case gg27=>refine' My.gl_mk ?ya ?yb ?yc ?yd;(case ya=>k_is);(case yb=>k_is);(case yc=>k_is);(case yd=>k_is))
  (case gg28=>refine' My.gl_mk ?ya ?yb ?yc ?yd;(case ya=>k_is);(case yb=>k_is);(case yc=>k_is);(case yd=>k_is))
  (case gg29=>refine' My.gl_mk ?ya ?yb ?yc ?yd;(case ya=>k_is);(case yb=>k_is);(case yc=>k_is);(case yd=>k_is))
  (case gg30=>refine' My.gl_mk ?ya ?yb ?yc ?yd;(case ya=>k_is);(case yb=>k_is);(case yc=>k_is);(case yd=>k_is))
  (case gg31=>refine' My.gl_mk ?ya ?yb ?yc ?yd;(case ya=>k_is);(case yb=>k_is);(case yc=>k_is);(case yd=>k_is))
  (case gg32=>refine' My.gl_mk ?ya ?yb ?yc ?yd;(case ya=>k_is);(case yb=>k_is);(case yc=>k_is);(case yd=>k_is))
  (case zlen=>k_is)
  (case zall=>k_is)
  (case zint=>k_is)
  (case ztuple=>k_is)
  (case zlist=>k_is)
  (case zenumerate=>k_is)
  (case zrange=>k_is)
  (case zstr=>k_is)
  (case zisinstance=>k_is)
  (case zmax=>k_is)
  (case zsum=>k_is)
  (case zValueError=>k_is)
  (case zmin=>k_is)
  (case zbool=>k_is)
  (case gLETTERS=>k_is)
  (case gMOST_LETTERS=>k_is)
  (case gFIGURES=>k_is)
  (case gLOW=>k_is)
  (case gHIGH=>k_is)
  (case gMOST_SIDES_WRITTEN=>k_is)
  (case gMOST_OUTS=>k_is)
  (case gMOST_STEPS=>k_is)
  (case nBadText=>k_is)
  (case nLoomError=>k_is)
  (case nBadStep=>k_is)
  (case nNoWord=>k_is)
  (case nNoPlace=>k_is)
  (case nUnlike=>k_is)
  (case nTooLarge=>k_is)
  (case nNoSide=>k_is)
  (case nBeyond=>k_is)
  (case nNoRound=>k_is)
  (case nNotReady=>k_is)
  (case nNotDone=>k_is)
  (case nStuck=>k_is)
  (case gPT=>k_is)
  (case dPT0=>first | decide +kernel | rfl)
  (case lPT=>k_is)
  (case lP0=>refine' My.ktr1 ?ya;(case ya=>k_is))
  (case lP0_0=>refine' My.kts ?ya;(case ya=>k_is))
  (case lP1=>refine' My.ktr1 ?ya;(case ya=>k_is))
  (case lP1_0=>refine' My.kts ?ya;(case ya=>k_is))
  (case lP2=>refine' My.ktr2 ?ya;(case ya=>k_is))
  (case lP2_0=>refine' My.kts ?ya;(case ya=>k_is))
  (case lP2_1=>refine' My.kts ?ya;(case ya=>k_is))
  (case lP3=>refine' My.ktr2 ?ya;(case ya=>k_is))
  (case lP3_0=>refine' My.kts ?ya;(case ya=>k_is))
  (case lP3_1=>refine' My.kts ?ya;(case ya=>k_is))
  (case lP4=>refine' My.ktr3 ?ya;(case ya=>k_is))
  (case lP4_0=>refine' My.kts ?ya;(case ya=>k_is))
  (case lP4_1=>refine' My.kts ?ya;(case ya=>k_is))
  (case lP4_2=>refine' My.kts ?ya;(case ya=>k_is))
  (case lP5=>refine' My.ktr3 ?ya;(case ya=>k_is))
  (case lP5_0=>refine' My.kts ?ya;(case ya=>k_is))
  (case lP5_1=>refine' My.kts ?ya;(case ya=>k_is))
  (case lP5_2=>refine' My.kts ?ya;(case ya=>k_is))
  (case lP6=>refine' My.ktr2 ?ya;(case ya=>k_is))
  (case lP6_0=>refine' My.kts ?ya;(case ya=>k_is))
  (case lP6_1=>refine' My.kts ?ya;(case ya=>k_is))
  (case lP7=>refine' My.ktr2 ?ya;(case ya=>k_is))
  (case lP7_0=>refine' My.kts ?ya;(case ya=>k_is))
  (case lP7_1=>refine' My.kts ?ya;(case ya=>k_is))
  (case lP8=>refine' My.ktr5 ?ya;(case ya=>k_is))
  (case lP8_0=>refine' My.kts ?ya;(case ya=>k_is))
  (case lP8_1=>refine' My.kts ?ya;(case ya=>k_is))
  (case lP8_2=>refine' My.kts ?ya;(case ya=>k_is))
  (case lP8_3=>refine' My.kts ?ya;(case ya=>k_is))
  (case lP8_4=>refine' My.kts ?ya;(case ya=>k_is))
  (case lP9=>refine' My.ktr3 ?ya;(case ya=>k_is))
  (case lP9_0=>refine' My.kts ?ya;(case ya=>k_is))
  (case lP9_1=>refine' My.kts ?ya;(case ya=>k_is))
  (case lP9_2=>refine' My.kts ?ya;(case ya=>k_is))
  (case lP10=>refine' My.ktr2 ?ya;(case ya=>k_is))
  (case lP10_0=>refine' My.kts ?ya;(case ya=>k_is))
  (case lP10_1=>refine' My.kts ?ya;(case ya=>k_is))
  (case lP11=>refine' My.ktr3 ?ya;(case ya=>k_is))
  (case lP11_0=>refine' My.kts ?ya;(case ya=>k_is))
  (case lP11_1=>refine' My.kts ?ya;(case ya=>k_is))
  (case lP11_2=>refine' My.kts ?ya;(case ya=>k_is))
  (case lP12=>refine' My.ktr2 ?ya;(case ya=>k_is))
  (case lP12_0=>refine' My.kts ?ya;(case ya=>k_is))
  (case lP12_1=>refine' My.kts ?ya;(case ya=>k_is))
  (case lP13=>refine' My.ktr3 ?ya;(case ya=>k_is))
  (case lP13_0=>refine' My.kts ?ya;(case ya=>k_is))
  (case lP13_1=>refine' My.kts ?ya;(case ya=>k_is))
  (case lP13_2=>refine' My.kts ?ya;(case ya=>k_is))
  (case lP14=>refine' My.ktr3 ?ya;(case ya=>k_is))
  (case lP14_0=>refine' My.kts ?ya;(case ya=>k_is))
  (case lP14_1=>refine' My.kts ?ya;(case ya=>k_is))
  (case lP14_2=>refine' My.kts ?ya;(case ya=>k_is))
  (case aI=>k_is)
  (case lI=>k_is)
  (case qI=>k_is)
  (case kI=>k_is)
  (case iI=>k_is)
  (case kC=>k_is)
  (case clsI=>kernel_rfl)
  (case ovI=>kernel_rfl)
  (case saI=>k_is)
  (case gaI=>k_is)
  (case n1=>k_is)
  (case n3=>k_is)
  (case hL1=>k_is)
  (case hL2=>k_is)
  (case hL3=>k_is)
  (case kc=>exact Option.isSome_iff_exists.mpr ⟨_,by k_is⟩)
  (case kcl=>k_is)
  (case kmo=>k_is)
  (case kmb=>k_is)
  (case em=>kts_exm)
  (case emL=>kts_exm)
  (case ei=>kit_is)
  (case es=>kit_is)
  (case ev=>kit_is)
  (case k8=>kit_is)
  (case k3=>kit_is)
