import PyProof.Rows.All
import Wide.All
import OpenK.AllK
import Wide.FinOn
import Lean
import PyProof.EqAt
import PyProof.EqKinds
import PyProof.TupleCall
import PySem.Challenge.RW_sideloom_k31_whole_texts
set_option Elab.async false
set_option linter.all false
set_option maxRecDepth 100000
section
set_option hygiene false

set_option hygiene true
namespace L2
open PySem PySem.Spec PyProof.Rows
abbrev Key:=Sum Int Str
def keyIs:Key->Value->Bool
 | .inl k,v=>Value.isInt k v
 | .inr x,v=>Value.isStrOf x v
def keyH (w:World):Key->Int
 | .inl k=>hashInt k
 | .inr x=>hashStr w x
theorem z1l:∀ {k:Key}{v:Value},keyIs k v=true->(∃i t,k=Sum.inl i/\v=Value.int i t)\/(∃x t,k=Sum.inr x/\v=Value.str x t)
 | .inl i,v,h=>by
  obtain ⟨t,e⟩:=Value.isInt_shape (k:=i) (v:=v) h
  exact .inl ⟨i,t,rfl,e⟩
 | .inr x,v,h=>by
  obtain ⟨t,e⟩:=Value.isStrOf_shape (x:=x) (v:=v) h
  exact .inr ⟨x,t,rfl,e⟩
theorem y5e (i:Int) (t:Tok):keyIs (.inl i) (.int i t)=true:=by simp [keyIs,Value.isInt]
theorem z3g (x:Str) (t:Tok):keyIs (.inr x) (.str x t)=true:=by simp [keyIs,Value.isStrOf]
theorem x3o (a b:Int):decide ((Sum.inl a:Key)=Sum.inl b)=(a == b):=by
 by_cases e:a=b
 ·subst e;simp
 ·have h:¬(Sum.inl a:Key)=Sum.inl b:=λ q=>e (Sum.inl.inj q)
  rw [decide_eq_false h]
  exact (beq_eq_false_iff_ne.mpr e).symm
theorem x3l (a b:Str):decide ((Sum.inr a:Key)=Sum.inr b)=decide (a=b):=by
 by_cases e:a=b
 ·subst e;simp
 ·have h:¬(Sum.inr a:Key)=Sum.inr b:=λ q=>e (Sum.inr.inj q)
  rw [decide_eq_false h,decide_eq_false e]
theorem x3n (a:Int) (b:Str):decide ((Sum.inl a:Key)=Sum.inr b)=false:=decide_eq_false (λ q=>nomatch q)
theorem x3m (a:Str) (b:Int):decide ((Sum.inr a:Key)=Sum.inl b)=false:=decide_eq_false (λ q=>nomatch q)
def mixKind (prog:Program) (w:World):PySem.KeyKind prog w Key where
 is:=keyIs
 hash:=keyH w
 inj:=λ v a b ha hb=>by
  rcases z1l ha with ⟨i,t,rfl,rfl⟩ | ⟨x,t,rfl,rfl⟩
  ·rcases z1l hb with ⟨j,u,rfl,e⟩ | ⟨y,u,rfl,e⟩
   ·injection e with e1 _;rw [e1]
   ·exact nomatch e
  ·rcases z1l hb with ⟨j,u,rfl,e⟩ | ⟨y,u,rfl,e⟩
   ·exact nomatch e
   ·injection e with e1 _;rw [e1]
 byValue:=λ k v h=>by
  rcases z1l h with ⟨i,t,rfl,rfl⟩ | ⟨x,t,rfl,rfl⟩<;>rfl
 pyHash:=λ hv h=>by
  rcases z1l hv with ⟨i,t,rfl,rfl⟩ | ⟨x,t,rfl,rfl⟩
  ·exact wpAny_pyHash_int h
  ·exact wpAny_pyHash_str h
 eqBool:=λ hu hv h=>by
  rcases z1l hu with ⟨i,t,rfl,rfl⟩ | ⟨x,t,rfl,rfl⟩
  ·rcases z1l hv with ⟨j,u,rfl,rfl⟩ | ⟨y,u,rfl,rfl⟩
   ·rw [x3o] at h;exact wpAny_eqBool_int h
   ·rw [x3n] at h;exact SeqAt.EqAt.int_str i t y u _ _ _ _ h
  ·rcases z1l hv with ⟨j,u,rfl,rfl⟩ | ⟨y,u,rfl,rfl⟩
   ·rw [x3m] at h;exact SeqAt.EqAt.str_int x t j u _ _ _ _ h
   ·rw [x3l] at h;exact wpAny_eqBool_str h
 «strs»:=λ k x t v h=>by
  rcases z1l h with ⟨i,u,rfl,e⟩ | ⟨y,u,rfl,e⟩
  ·exact nomatch e
  ·injection e with e1 _
   subst e1
   cases v<;>rfl
theorem z9f (prog:Program) (w:World) (i:Int) (t:Tok):(mixKind prog w).is (.inl i) (.int i t)=true:=y5e i t
theorem z9e (prog:Program) (w:World) (x:Str) (t:Tok):(mixKind prog w).is (.inr x) (.str x t)=true:=z3g x t
inductive V where
 | non | bl (b:Bool) | int (i:Int) | str (x:Str) | byt (b:Array UInt8) | flt (b:UInt64) | ref (a:Addr) | ty (n:String)
 deriving DecidableEq
def RelV:V->Value->Prop
 | .non,u=>u=Value.none
 | .bl b,u=>u=Value.bool b
 | .int i,u=>∃t,u=Value.int i t
 | .str x,u=>∃t,u=Value.str x t
 | .byt b,u=>∃t,u=Value.bytes b t
 | .flt b,u=>∃t,u=Value.float b t
 | .ref a,u=>u=Value.ref a
 | .ty n,u=>u=Value.type n
abbrev Vals:List V->List Value->Prop:=Paired RelV
theorem Vals.length {xs:List V}{us:List Value}(r:Vals xs us):xs.length=us.length:=Paired.length r
theorem Vals.get:∀ {xs:List V}{us:List Value}{i:Nat}{x:V},Vals xs us->xs[i]?=some x->∃u,us[i]?=some u/\RelV x u
 | _,_,_,_,.nil,e=>by simp at e
 | _,_,0,_,.cons r _,e=>by simp at e;subst e;exact ⟨_,rfl,r⟩
 | _,_,i+1,x,.cons _ t,e=>by
  obtain ⟨u,h1,h2⟩:=Vals.get (i:=i) (x:=x) t (by simpa using e)
  exact ⟨u,by simpa using h1,h2⟩
theorem Vals.set {x:V}{u:Value}(r:RelV x u):∀ {xs:List V}{us:List Value}(i:Nat),Vals xs us->Vals (xs.set i x) (us.set i u)
 | _,_,_,.nil=>.nil
 | _,_,0,.cons _ t=>.cons r t
 | _,_,i+1,.cons q t=>.cons q (Vals.set r i t)
theorem Vals.append:∀ {xs ys:List V}{us ws:List Value},Vals xs us->Vals ys ws->Vals (xs++ys) (us++ws)
 | _,_,_,_,.nil,s=>s
 | _,_,_,_,.cons r t,s=>.cons r (Vals.append t s)
theorem Vals.take:∀ {xs:List V}{us:List Value}(n:Nat),Vals xs us->Vals (xs.take n) (us.take n)
 | _,_,0,_=>.nil
 | _,_,_+1,.nil=>.nil
 | _,_,n+1,.cons r t=>.cons r (Vals.take n t)
theorem Vals.drop:∀ {xs:List V}{us:List Value}(n:Nat),Vals xs us->Vals (xs.drop n) (us.drop n)
 | _,_,0,r=>r
 | _,_,_+1,.nil=>.nil
 | _,_,n+1,.cons _ t=>Vals.drop n t
def RelO:Option V->Option Value->Prop
 | some v,some u=>RelV v u
 | none,none=>True
 | _,_=>False
def KV {κ:Type}:List (κ × V)->List (κ × Value)->Prop:=Paired λ (p:κ × V) (q:κ × Value)=>p.1=q.1/\RelV p.2 q.2
def kV:Key->V
 | .inl i=>.int i
 | .inr x=>.str x
inductive HO where
 | lst (xs:List V)
 | tup (xs:List V)
 | dK (kvs:List (Key × V)) | dT (kvs:List (List Key × V))
 | set (S:Int->Bool) (n:Nat)
 | ins (C dx:Addr) (fs:List (Str × V))
 | own (x:Addr)
 | xd (fs:List (Str × V))
 | met (f x:Addr)
 | rng (lo hi:Int)
 | frz (o:Obj) (u:HO)
 | tbl (ps:Array Value)
 | ext (φ:Heap->Prop)
abbrev Hp:=Addr->Option HO
def upd (H:Hp) (a:Addr) (o:HO):Hp:=λ b=>if b=a then some o else H b
theorem z0d {H:Hp}{a:Addr}{o:HO}:upd H a o a=some o:=by unfold upd;rw [if_pos rfl]
theorem z0m {H:Hp}{a b:Addr}{o:HO}(h:b≠a):upd H a o b=H b:=by unfold upd;rw [if_neg h]
theorem x4v {H:Hp}{a b:Addr}{o u:HO}(h:H a=some o) (h':H b=some u) (d:o≠u):a≠b:=by
 intro e;subst e;rw [h] at h';exact d (Option.some.inj h')
theorem z2f {H:Hp}{a b:Addr}{o:HO}(h:H a=some o) (h':H b=none):a≠b:=by
 intro e;subst e;rw [h] at h';cases h'
section
variable (P:Program) (w:World)
def ObjOk (H:Hp) (h:Heap) (a:Addr):HO->Prop
 | .lst xs=>xs.length≤sizeLine/\∃(its:List Value) (n:Nat),Vals xs its/\h.get? a=some { cls:=.type "list",data:=.seq its.toArray n }
 | .tup xs=>xs.length≤sizeLine/\∃its:List Value,Vals xs its/\IsTup h a its.toArray
 | .dK kvs=>kvs.length≤sizeLine/\(a == sysModules)=false/\∃vs,KV kvs vs/\h.DictOf (mixKind P w) a vs
 | .dT kvs=>kvs.length≤sizeLine/\(a == sysModules)=false/\∃xs:List (List Key × Addr × Value),
   Paired (λ (p:List Key × V) (q:List Key × Addr × Value)=>p.1=q.1/\H q.2.1=some (.tup (p.1.map kV))/\RelV p.2 q.2.2) kvs xs /\
   ∃o es ep,h.get? a=some o/\o.ExactDict/\o.data=.dict es ep/\es.toList=xs.map (entryOfKey (tupleKind (mixKind P w)))/\(xs.map (·.1)).Nodup
 | .set S n=>h.SetOf (intKind P w) a S n
 | .ins C dx fs=>H dx=some (.own a)/\fs.length≤1000/\dx≠a/\h.get? a=some (W.instObj C dx) /\
   ∃mA,h.Ns1 dx mA/\(∀f,RelO (fs.lookup f) (mA f))/\PySem.Within mA (fs.map (·.1))
 | .own _=>∃o,h.get? a=some o
 | .xd fs=>∃mA,h.Ns1 a mA/\∀f,RelO (fs.lookup f) (mA f)
 | .rng lo hi=>∃t u v,h.get? a=some { cls:=.type "range",data:=.fields #[.int lo t,.int hi u,.int 1 v] }
 | .frz o u=>h.get? a=some o/\ObjOk H h a u
 | .tbl ps=>h.get? a=some { cls:=.none,data:=.fields ps }
 | .met f x=>h.get? a=some (W.methodObj (.ref f) (.ref x))
 | .ext φ=>φ h/\(∃o,h.get? a=some o)/\∀h1 h2:Heap,φ h1->(∀o,h1.get? a=some o->h2.get? a=some o)->φ h2
def HOk (H:Hp) (h:Heap):Prop:=∀a o,H a=some o->ObjOk P w H h a o
end
section
variable {P:Program}{w:World}{H H':Hp}{h h':Heap}{a:Addr}{o:HO}
theorem ObjOk.lt (x:ObjOk P w H h a o):a < h.objs.size:=by
 cases o with
 | lst xs=>obtain ⟨_,_,_,_,e⟩:=x;exact Heap.lt_size e
 | tup xs=>obtain ⟨_,_,_,p⟩:=x;exact p.lt
 | dK kvs=>obtain ⟨_,_,_,_,o,_,_,e,_⟩:=x;exact Heap.lt_size e
 | dT kvs=>obtain ⟨_,_,_,_,o,_,_,e,_⟩:=x;exact Heap.lt_size e
 | set S n=>obtain ⟨o,_,_,_,e,_⟩:=x;exact Heap.lt_size e
 | ins C dx fs=>obtain ⟨_,_,_,e,_⟩:=x;exact Heap.lt_size e
 | own y=>obtain ⟨_,e⟩:=x;exact Heap.lt_size e
 | xd fs=>obtain ⟨_,⟨_,_,_,e,_⟩,_⟩:=x;exact Heap.lt_size e
 | rng lo hi=>obtain ⟨_,_,_,e⟩:=x;exact Heap.lt_size e
 | frz ob u=>obtain ⟨e,_⟩:=x;exact Heap.lt_size e
 | tbl ps=>exact Heap.lt_size (show h.get? a=some _ from x)
 | met f y=>exact Heap.lt_size (show h.get? a=some _ from x)
 | ext φ=>obtain ⟨_,⟨_,e⟩,_⟩:=x;exact Heap.lt_size e
theorem Paired.mapP {α β:Type}{F G:α->β->Prop}:∀ {l₁:List α}{l₂:List β},Paired F l₁ l₂->(∀a b,F a b->G a b)->Paired G l₁ l₂
 | _,_,.nil,_=>.nil
 | _,_,.cons r t,f=>.cons (f _ _ r) (Paired.mapP t f)
theorem ObjOk.stay (x:ObjOk P w H h a o) (k:∀b u,(b=a\/H b=some (.own a))->h.get? b=some u->h'.get? b=some u)
  (ho:∀b,H b=some (.own a)->H' b=some (.own a)) (ht:∀b xs,H b=some (.tup xs)->H' b=some (.tup xs)):ObjOk P w H' h' a o:=by
 induction o with
 | lst xs=>obtain ⟨z,its,n,r,e⟩:=x;exact ⟨z,its,n,r,k _ _ (.inl rfl) e⟩
 | tup xs=>obtain ⟨z,its,r,ob,e,c⟩:=x;exact ⟨z,its,r,ob,k _ _ (.inl rfl) e,c⟩
 | dK kvs=>obtain ⟨z,y,vs,r,ob,es,ep,e,c⟩:=x;exact ⟨z,y,vs,r,ob,es,ep,k _ _ (.inl rfl) e,c⟩
 | dT kvs =>
  obtain ⟨z,y,xs,r,ob,es,ep,e,c⟩:=x
  exact ⟨z,y,xs,Paired.mapP r λ p q z=>⟨z.1,ht _ _ z.2.1,z.2.2⟩,ob,es,ep,k _ _ (.inl rfl) e,c⟩
 | set S n=>obtain ⟨ob,es,ep,t,e,c⟩:=x;exact ⟨ob,es,ep,t,k _ _ (.inl rfl) e,c⟩
 | ins C dx fs =>
  obtain ⟨d,z,ne,e,mA,⟨od,es,ep,e2,c⟩,r⟩:=x
  exact ⟨ho _ d,z,ne,k _ _ (.inl rfl) e,mA,⟨od,es,ep,k _ _ (.inr d) e2,c⟩,r⟩
 | own y=>obtain ⟨ob,e⟩:=x;exact ⟨ob,k _ _ (.inl rfl) e⟩
 | xd fs=>obtain ⟨mA,⟨od,es,ep,e,c⟩,r⟩:=x;exact ⟨mA,⟨od,es,ep,k _ _ (.inl rfl) e,c⟩,r⟩
 | rng lo hi=>obtain ⟨t,u,v,e⟩:=x;exact ⟨t,u,v,k _ _ (.inl rfl) e⟩
 | frz ob u ih=>obtain ⟨e,q⟩:=x;exact ⟨k _ _ (.inl rfl) e,ih q⟩
 | tbl ps =>
  have e:h.get? a=some { cls:=.none,data:=.fields ps }:=x
  show h'.get? a=some { cls:=.none,data:=.fields ps }
  exact k a _ (.inl rfl) e
 | met f y =>
  have e:h.get? a=some (W.methodObj (.ref f) (.ref y)):=x
  show h'.get? a=some (W.methodObj (.ref f) (.ref y))
  exact k a _ (.inl rfl) e
 | ext φ=>obtain ⟨p,⟨o,e⟩,st⟩:=x;exact ⟨st _ _ p λ o q=>k _ _ (.inl rfl) q,⟨o,k _ _ (.inl rfl) e⟩,st⟩
theorem HOk.lt (x:HOk P w H h) (e:H a=some o):a < h.objs.size:=(x a o e).lt
theorem HOk.fresh (x:HOk P w H h) (e:h.objs.size≤a):H a=none:=by
 cases q:H a with
 | none=>rfl
 | some u=>exact absurd (Nat.lt_of_lt_of_le (x.lt q) e) (Nat.lt_irrefl _)
theorem HOk.kept (x:HOk P w H h) (k:∀b u,h.get? b=some u->h'.get? b=some u):HOk P w H h':=λ a o e =>
 (x a o e).stay (λ b u _ q=>k b u q) (λ _ q=>q) λ _ _ q=>q
theorem HOk.laid (x:HOk P w H h) (k:∀b u,h.get? b=some u->h'.get? b=some u) (hp:h.objs.size≤a) (new:ObjOk P w (upd H a o) h' a o):HOk P w (upd H a o) h':=λ b u e=>by
 have hn:=x.fresh hp
 by_cases hb:b=a
 ·subst hb;rw [z0d] at e;cases e;exact new
 ·rw [z0m hb] at e
  exact (x b u e).stay (λ c v _ q=>k c v q) (λ c q=>by rw [z0m (z2f q hn)];exact q) λ c xs q=>by rw [z0m (z2f q hn)];exact q
end
def Rd (H:Hp) (a:Addr) (u:HO):Prop:=H a=some u\/∃o,H a=some (.frz o u)
theorem Rd.of {H:Hp}{a:Addr}{u:HO}(h:H a=some u):Rd H a u:=.inl h
theorem Rd.ok {P:Program}{w:World}{H:Hp}{h:Heap}{a:Addr}{u:HO}(r:Rd H a u) (x:HOk P w H h):ObjOk P w H h a u:=by
 rcases r with r | ⟨o,r⟩
 ·exact x a u r
 ·obtain ⟨_,q⟩:=x a _ r
  exact q
def Mut:Option HO->Prop
 | some (.lst _)=>True
 | some (.dK _)=>True
 | some (.dT _)=>True
 | some (.set _ _)=>True
 | some (.ins _ _ _)=>True
 | some (.ext _)=>True
 | _=>False
section
variable {P:Program}{w:World}{H:Hp}{h h':Heap}{x e:Addr}{o':HO}
theorem HOk.write (ok:HOk P w H h) (mu:Mut (H x)) (he:e=x\/H e=some (.own x)) (k:∀b u,b≠e->h.get? b=some u->h'.get? b=some u) (heo:∃u,h'.get? e=some u)
  (new:ObjOk P w (upd H x o') h' x o'):HOk P w (upd H x o') h':=λ b u q=>by
 have nown:∀c y,H c=some (.own y)->c≠x:=λ c y r z=>by subst z;rw [r] at mu;exact mu
 have ntup:∀c xs,H c=some (.tup xs)->c≠x:=λ c xs r z=>by subst z;rw [r] at mu;exact mu
 by_cases hb:b=x
 ·subst hb;rw [z0d] at q;cases q;exact new
 ·rw [z0m hb] at q
  by_cases hbe:b=e
  ·have q':H b=some (.own x):=by
    rcases he with z | z
    ·exact absurd (hbe.trans z) hb
    ·rw [hbe];exact z
   rw [q] at q';cases q'
   obtain ⟨v,hv⟩:=heo
   exact ⟨v,by rw [hbe];exact hv⟩
  ·refine (ok b u q).stay (λ c v hc r=>k c v ?_ r) (λ c r=>by rw [z0m (nown c b r)];exact r) λ c xs r=>by rw [z0m (ntup c xs r)];exact r
   rcases hc with rfl | hc
   ·exact hbe
   ·rintro rfl
    rcases he with z | z
    ·exact nown c b hc z
    ·rw [hc] at z;cases z;exact hb rfl
end
structure Un (fs ex:List Addr) (H H':Hp) (h h':Heap):Prop where
 keep:∀b o,h.get? b=some o->H b=none->b ∉ fs->b ∉ ex->h'.get? b=some o
 slot:∀b o,h.get? b=some o->H b=none->b∈fs->b ∉ ex->∃sl,h'.get? b=some { o with slots:=sl }
 free:∀b o,h.get? b=some o->H b=none->b ∉ ex->H' b=none
 there:∀b o,h.get? b=some o->b ∉ ex->∃o',h'.get? b=some o'
 tups:∀b xs,H b=some (.tup xs)->H' b=some (.tup xs)
 frzs:∀b o u,H b=some (.frz o u)->H' b=some (.frz o u)
 tbls:∀b ps,H b=some (.tbl ps)->∃more,H' b=some (.tbl (ps++more))
section
variable {fs fs' ex ex':List Addr}{H H1 H2:Hp}{h h1 h2 h':Heap}{a x e:Addr}{o:HO}
theorem Un.any (u:Un fs ex H H1 h h1) {b:Addr}{ob:Obj}(q:h.get? b=some ob) (n:H b=none) (hx:b ∉ ex):∃sl,h1.get? b=some { ob with slots:=sl }:=by
 by_cases hb:b∈fs
 ·exact u.slot b ob q n hb hx
 ·exact ⟨ob.slots,u.keep b ob q n hb hx⟩
theorem Un.trans (a:Un fs ex H H1 h h1) (b:Un fs ex H1 H2 h1 h2):Un fs ex H H2 h h2 where
 keep:=λ c ob q n hc hx=>b.keep c ob (a.keep c ob q n hc hx) (a.free c ob q n hx) hc hx
 slot:=λ c ob q n hc hx=>by
  obtain ⟨sl,e1⟩:=a.slot c ob q n hc hx
  obtain ⟨sl',e2⟩:=b.slot c _ e1 (a.free c ob q n hx) hc hx
  exact ⟨sl',e2⟩
 free:=λ c ob q n hx=>by
  obtain ⟨o',e1⟩:=a.there c ob q hx
  exact b.free c o' e1 (a.free c ob q n hx) hx
 there:=λ c ob q hx=>by
  obtain ⟨o',e1⟩:=a.there c ob q hx
  exact b.there c o' e1 hx
 tups:=λ c xs q=>b.tups c xs (a.tups c xs q)
 frzs:=λ c ob xs q=>b.frzs c ob xs (a.frzs c ob xs q)
 tbls:=λ c ps q=>by
  obtain ⟨m1,e1⟩:=a.tbls c ps q
  obtain ⟨m2,e2⟩:=b.tbls c _ e1
  exact ⟨m1++m2,by rw [e2,Array.append_assoc]⟩
theorem Un.kept (k:∀b u,h.get? b=some u->h'.get? b=some u):Un fs ex H H h h' :=
 ⟨λ b ob q _ _ _=>k b ob q,λ b ob q _ _ _=>⟨ob.slots,k b ob q⟩,λ _ _ _ n _=>n,λ b ob q _=>⟨ob,k b ob q⟩,λ _ _ q=>q,λ _ _ _ q=>q,λ _ ps q=>⟨#[],by rw [q];simp⟩⟩
theorem Un.refl:Un fs ex H H h h:=Un.kept λ _ _ q=>q
theorem Un.laid (k:∀b u,h.get? b=some u->h'.get? b=some u) (hp:h.objs.size≤a) (hn:H a=none):Un fs ex H (upd H a o) h h' where
 keep:=λ b u q _ _ _=>k b u q
 slot:=λ b u q _ _ _=>⟨u.slots,k b u q⟩
 free:=λ b u q n _=>by rw [z0m (Nat.ne_of_lt (Nat.lt_of_lt_of_le (Heap.lt_size q) hp))];exact n
 there:=λ b u q _=>⟨u,k b u q⟩
 tups:=λ b xs q=>by rw [z0m (z2f q hn)];exact q
 frzs:=λ b u xs q=>by rw [z0m (z2f q hn)];exact q
 tbls:=λ b ps q=>⟨#[],by rw [z0m (z2f q hn),q];simp⟩
theorem Un.write (mu:Mut (H x)) (he:e=x\/H e=some (.own x)) (k:∀b u,b≠e->h.get? b=some u->h'.get? b=some u) (heo:∃u,h'.get? e=some u):Un fs ex H (upd H x o) h h':=by
 have hx:∀b,H b=none->b≠x:=λ b n z=>by subst z;rw [n] at mu;exact mu
 have hb:∀b,H b=none->b≠e:=λ b n z=>by
  subst z
  rcases he with r | r
  ·exact hx b n r
  ·rw [n] at r;cases r
 have hm:∀b u,H b=some u->¬Mut (some u)->b≠x:=λ b u q nm z=>by subst z;rw [q] at mu;exact nm mu
 refine ⟨λ b u q n _ _=>k b u (hb b n) q,λ b u q n _ _=>⟨u.slots,k b u (hb b n) q⟩,λ b u q n _=>by rw [z0m (hx b n)];exact n,λ b u q _=>?_,
  λ b xs q=>by rw [z0m (hm b _ q λ z=>z)];exact q,λ b u xs q=>by rw [z0m (hm b _ q λ z=>z)];exact q,λ b ps q=>⟨#[],by rw [z0m (hm b _ q λ z=>z),q];simp⟩⟩
 by_cases hbe:b=e
 ·subst hbe;exact heo
 ·exact ⟨u,k b u hbe q⟩
theorem Un.mono (u:Un fs ex H H1 h h1) (hs:∀b∈fs,b∈fs') (hx:∀b∈ex,b∈ex'):Un fs' ex' H H1 h h1 :=
 ⟨λ b ob q n hb he=>u.keep b ob q n (λ z=>hb (hs b z)) λ z=>he (hx b z),λ _ _ q n _ he=>u.any q n λ z=>he (hx _ z),λ b ob q n he=>u.free b ob q n λ z=>he (hx b z),λ b ob q he=>u.there b ob q λ z=>he (hx b z),u.tups,u.frzs,u.tbls⟩
end
def trk (h:Heap) (H:Hp):List Addr:=(List.range h.objs.size).filter λ a=>(H a).isSome
def hidT (h:Heap) (H:Hp):Heap:=W.hideAll h (trk h H)
theorem y5l (h:Heap) (H:Hp):(hidT h H).objs.size=h.objs.size:=W.hideAll_size _ _
theorem y8x {h:Heap}{H:Hp}{b:Addr}{o:Obj}(e:h.get? b=some o) (n:H b=none):(hidT h H).get? b=some o :=
 W.hideAll_get _ e λ hm=>by
  have q:(H b).isSome=true:=(List.mem_filter.mp hm).2
  rw [n] at q;simp at q
theorem x1b {h:Heap}{H:Hp}{b:Addr}{o:Obj}(e:(hidT h H).get? b=some o):h.get? b=some o/\H b=none:=by
 have e':h.get? b=some o:=W.of_hideAll (trk h H) e
 refine ⟨e',?_⟩
 cases q:H b with
 | none=>rfl
 | some x =>
  have hm:b∈trk h H:=List.mem_filter.mpr ⟨List.mem_range.mpr (Heap.lt_size e'),by simp [q]⟩
  have z:(hidT h H).get? b=none:=W.hideAll_none (trk h H) hm
  rw [z] at e;cases e
def allNews (g h:Heap) (L:Addr):List (Addr × Obj):=(List.range h.objs.size).filterMap λ a=>if a=L\/(g.get? a).isSome=true then none else (h.get? a).map λ o=>(a,o)
def rest (g h:Heap) (L d:Addr):List (Addr × Obj):=(allNews g h L).filter λ p=>decide (p.1≠d)
structure Mod (K:W.Frag) (mg:Str->Option Value) (base:Heap):Prop where
 kin:K.In base
 glob:base.Ns mainGlobals mg
 blt:∃mb,base.Ns builtinsNs mb/\∀x:Str,x ≠ "__name__" -> mb x=bootBuiltins x
 nolimit:base.NoLimit
structure Cx where
 prog:Program
 w:World
 K:W.Frag
 mg:Str->Option Value
 base:Heap
 A:Around
 N:List Str
 s₀:Shared
 H₀:Hp
 env:Env
 outer:List Env
 stack:List Env
 ex:List Addr
 fn:Str->Bool
 calm:Bool
 pn:List (Addr × Obj)
 xe:Value->Shared->Prop
def frs (l:List Env):List Addr:=l.filterMap (·.frame)
abbrev Cx.fs (X:Cx):List Addr:=frs X.outer
def Vis (sc:Scope) (x:Str):Prop:=sc.names.lookup x=some .local\/sc.names.lookup x=some .cell\/sc.names.lookup x=some .free
def Loc (sc:Scope) (x:Str):Prop:=sc.names.lookup x=some .local\/sc.names.lookup x=some .cell
def Look (env:Env) (h:Heap) (m:Str->Option Value) (x:Str) (u:Value):Prop :=
 (env.kindOf x=some .local/\m x=some u)\/((env.kindOf x=some .cell\/env.kindOf x=some .free)/\∃c,env.cells.lookup x=some c/\h.IsCell c (some u))
structure Cx.Ok (X:Cx):Prop where
 mod:Mod X.K X.mg X.base
 kind:X.env.scope.kind=.function
 glob:X.env.globals=mainGlobals
 blt:X.env.builtins=builtinsNs
 above:X.s₀.heap.objs.size≤X.env.locals
 inj:∀x y c,X.env.cells.lookup x=some c->X.env.cells.lookup y=some c->x=y
 has:∀x,(X.env.kindOf x=some .cell\/X.env.kindOf x=some .free)->∃c,X.env.cells.lookup x=some c
 cab:∀x c,X.fn x=true->X.env.cells.lookup x=some c->X.s₀.heap.objs.size≤c
 hd:X.calm=true->X.A.handled=none
 frames:X.A.frames=some X.stack
 stk:X.stack=X.outer\/(X.stack=X.env::X.outer/\X.env.frame=some X.env.locals)
 exf:∀b∈X.ex,b≠X.env.locals/\∀x c,X.env.cells.lookup x=some c->c≠b
 bs:∀b o,X.base.get? b=some o->X.s₀.heap.get? b=some o/\X.H₀ b=none
 bsz:X.base.objs.size≤X.s₀.heap.objs.size
 noex:∀b o,X.base.get? b=some o->b ∉ X.ex
 exfs:∀b∈X.ex,b ∉ X.fs
 funs:X.s₀.heap.FunFrames X.base X.outer
 frf:∀b∈X.fs,X.H₀ b=none
structure Inv (X:Cx) (pins:List (Addr × Obj)) (σ:List (Option V)) (H:Hp) (s:Shared):Prop where
 ok:X.Ok
 os:s.os=X.s₀.os
 bare:AllBare s.gens
 base:Un X.fs X.ex X.H₀ H X.s₀.heap s.heap
 loc:∃m,s.heap.Ns X.env.locals m/\∀(i:Nat) (x:Str) (v:V),X.N[i]?=some x->σ[i]?=some (some v)->Vis X.env.scope x->∃u,RelV v u/\Look X.env s.heap m x u
 cell:∀x c,X.env.cells.lookup x=some c->∃v,s.heap.IsCell c v
 free:H X.env.locals=none
 freeC:∀x c,X.env.cells.lookup x=some c->H c=none
 pin:∀p∈X.pn++pins,s.heap.get? p.1=some p.2/\H p.1=none/\p.1≠X.env.locals/\p.1 ∉ X.fs/\∀v,p.2.data≠.cell v
 hok:HOk X.prog X.w H s.heap
 len:σ.length=X.N.length
section
variable {X:Cx}{pins:List (Addr × Obj)}{σ:List (Option V)}{H H':Hp}{s:Shared}{h':Heap}
theorem Cx.Ok.nofr (ok:X.Ok) {b:Addr}{o:Obj}(e:X.base.get? b=some o):b ∉ X.fs:=λ hb=>by
 have:=(ok.funs.mem hb).1
 rw [e] at this;cases this
theorem Inv.bs (I:Inv X pins σ H s):∀b o,X.base.get? b=some o->s.heap.get? b=some o/\H b=none:=λ b o e =>
 ⟨I.base.keep b o (I.ok.bs b o e).1 (I.ok.bs b o e).2 (I.ok.nofr e) (I.ok.noex b o e),I.base.free b o (I.ok.bs b o e).1 (I.ok.bs b o e).2 (I.ok.noex b o e)⟩
theorem Inv.bk (I:Inv X pins σ H s):∀b o,X.base.get? b=some o->s.heap.get? b=some o:=λ b o e=>(I.bs b o e).1
theorem Inv.mod (I:Inv X pins σ H s):Mod X.K X.mg X.base:=I.ok.mod
theorem Inv.kIn (I:Inv X pins σ H s):X.K.In s.heap:=I.ok.mod.kin.keeps I.bk
theorem Inv.nolimit (I:Inv X pins σ H s):s.heap.NoLimit:=I.ok.mod.nolimit.keeps I.bk
theorem Inv.lt (I:Inv X pins σ H s):X.env.locals < s.heap.objs.size:=let ⟨_,hn,_⟩:=I.loc;hn.lt
theorem Inv.sz (I:Inv X pins σ H s):X.s₀.heap.objs.size≤s.heap.objs.size:=Nat.le_trans I.ok.above (Nat.le_of_lt I.lt)
theorem Inv.nofs (I:Inv X pins σ H s) {a:Addr}(h:s.heap.objs.size≤a):a ∉ X.fs:=λ hb=>by
 obtain ⟨_,o,ho,_⟩:=I.ok.funs.mem hb
 exact absurd (Nat.lt_of_lt_of_le (Heap.lt_size ho) (Nat.le_trans I.sz h)) (Nat.lt_irrefl _)
theorem Inv.cne (I:Inv X pins σ H s):∀x c,X.env.cells.lookup x=some c->c≠X.env.locals:=λ x c e z=>by
 obtain ⟨v,o,ho,hd⟩:=I.cell x c e
 obtain ⟨m,⟨o',es,ep,ho',hd',_⟩,_⟩:=I.loc
 rw [z,ho'] at ho;cases ho;rw [hd'] at hd;cases hd
theorem Inv.funs (I:Inv X pins σ H s):s.heap.FunFrames X.base X.outer:=by
 have all:∀(l:List Env),(∀b∈frs l,b∈X.fs)->X.s₀.heap.FunFrames X.base l->s.heap.FunFrames X.base l:=by
  intro l
  induction l with
  | nil=>intro _ _;trivial
  | cons env r ih =>
   intro hs hl
   obtain ⟨hk,⟨L,o,hf,hn,ho,hd⟩,hr⟩:=hl
   have hL:L∈X.fs:=hs L (by unfold frs;rw [List.filterMap_cons,hf];exact List.mem_cons_self)
   obtain ⟨sl,e⟩:=I.base.slot L o ho (I.ok.frf L hL) hL λ z=>I.ok.exfs L z hL
   exact ⟨hk,⟨L,_,hf,hn,e,hd⟩,ih (λ b hb=>hs b (by unfold frs;rw [List.filterMap_cons,hf];exact List.mem_cons_of_mem _ hb)) hr⟩
 exact all X.outer (λ _ hb=>hb) I.ok.funs
theorem Inv.stack (I:Inv X pins σ H s):s.heap.FunFrames X.base X.stack:=by
 rcases I.ok.stk with e | ⟨e,hf⟩
 ·rw [e];exact I.funs
 ·rw [e]
  obtain ⟨m,hn,_⟩:=I.loc
  refine .cons (by rw [I.ok.kind];decide) hf hn ?_ I.funs
  exact Heap.get?_none_of_le (Nat.le_trans I.ok.bsz I.ok.above)
theorem Inv.stkSub (I:Inv X pins σ H s):∀b∈frs X.stack,b∈X.env.locals::X.fs:=λ b hb=>by
 rcases I.ok.stk with e | ⟨e,hf⟩
 ·rw [e] at hb;exact List.mem_cons_of_mem _ hb
 ·rw [e] at hb
  unfold frs at hb
  rw [List.filterMap_cons,hf] at hb
  exact hb
theorem Inv.stkFree (I:Inv X pins σ H s):∀b∈frs X.stack,H b=none:=λ b hb=>by
 rcases List.mem_cons.mp (I.stkSub b hb) with e | hb
 ·rw [e];exact I.free
 ·obtain ⟨_,o,ho,_⟩:=I.ok.funs.mem hb
  exact I.base.free b o ho (I.ok.frf b hb) λ z=>I.ok.exfs b z hb
theorem Inv.step {g':Array GenState}{t':Nat}{d':Drawn}{ch:List Addr}(I:Inv X pins σ H s)
  (hch:∀b∈ch,(b∈X.ex\/X.s₀.heap.objs.size≤b)/\b≠X.env.locals/\(∀x c,X.env.cells.lookup x=some c->c≠b)/\∀p∈X.pn++pins,p.1≠b)
  (keep:∀b o,b≠X.env.locals->b ∉ X.fs->b ∉ ch->s.heap.get? b=some o->H b=none->h'.get? b=some o)
  (slot:∀b o,b≠X.env.locals->b∈X.fs->b ∉ ch->s.heap.get? b=some o->H b=none->∃sl,h'.get? b=some { o with slots:=sl }) (free:∀b o,b ∉ ch->s.heap.get? b=some o->H b=none->H' b=none)
  (there:∀b o,b ∉ ch->s.heap.get? b=some o->∃o',h'.get? b=some o')
  (tups:∀b xs,H b=some (.tup xs)->H' b=some (.tup xs)) (frzs:∀b o u,H b=some (.frz o u)->H' b=some (.frz o u)) (tbls:∀b ps,H b=some (.tbl ps)->∃more,H' b=some (.tbl (ps++more)))
  (ns:∀m,s.heap.Ns X.env.locals m->h'.Ns X.env.locals m) (hok:HOk X.prog X.w H' h') (hg:AllBare g') :
  Inv X pins σ H' { s with heap:=h',gens:=g',drawn:=d',toks:=t' }:=by
 have neL:∀b o,X.s₀.heap.get? b=some o->b≠X.env.locals:=λ b o e=>Nat.ne_of_lt (Nat.lt_of_lt_of_le (Heap.lt_size e) I.ok.above)
 have neC:∀b o,X.s₀.heap.get? b=some o->b ∉ X.ex->b ∉ ch:=λ b o e hx hb=>by
  rcases (hch b hb).1 with z | z
  ·exact hx z
  ·exact absurd (Nat.lt_of_lt_of_le (Heap.lt_size e) z) (Nat.lt_irrefl _)
 have cellK:∀x c,X.env.cells.lookup x=some c->∀v,s.heap.IsCell c v->h'.IsCell c v:=λ x c e v ⟨o,ho,hd⟩=>by
  have nch:c ∉ ch:=λ z=>(hch c z).2.2.1 x c e rfl
  by_cases hc:c∈X.fs
  ·obtain ⟨sl,q⟩:=slot c o (I.cne x c e) hc nch ho (I.freeC x c e)
   exact ⟨_,q,hd⟩
  ·exact ⟨o,keep c o (I.cne x c e) hc nch ho (I.freeC x c e),hd⟩
 refine ⟨I.ok,I.os,hg,⟨λ b o e n hb hx=>?_,λ b o e n hb hx=>?_,λ b o e n hx=>?_,λ b o e hx=>?_,λ b xs e=>tups b xs (I.base.tups b xs e),λ b o xs e=>frzs b o xs (I.base.frzs b o xs e),λ b ps e=>?_⟩,?_,λ x c e=>?_,?_,λ x c e=>?_,λ p hp=>?_,hok,I.len⟩
 ·exact keep b o (neL b o e) hb (neC b o e hx) (I.base.keep b o e n hb hx) (I.base.free b o e n hx)
 ·obtain ⟨sl,e1⟩:=I.base.slot b o e n hb hx
  obtain ⟨sl',e2⟩:=slot b _ (neL b o e) hb (neC b o e hx) e1 (I.base.free b o e n hx)
  exact ⟨sl',e2⟩
 ·obtain ⟨o',e1⟩:=I.base.there b o e hx
  exact free b o' (neC b o e hx) e1 (I.base.free b o e n hx)
 ·obtain ⟨o',e1⟩:=I.base.there b o e hx
  exact there b o' (neC b o e hx) e1
 ·obtain ⟨m1,e1⟩:=I.base.tbls b ps e
  obtain ⟨m2,e2⟩:=tbls b _ e1
  exact ⟨m1++m2,by rw [e2,Array.append_assoc]⟩
 ·obtain ⟨m,hn,hl⟩:=I.loc
  refine ⟨m,ns m hn,λ i x v e1 e2 e3=>?_⟩
  obtain ⟨u,r,l⟩:=hl i x v e1 e2 e3
  refine ⟨u,r,?_⟩
  rcases l with l | ⟨k,c,e,z⟩
  ·exact .inl l
  ·exact .inr ⟨k,c,e,cellK x c e _ z⟩
 ·obtain ⟨v,z⟩:=I.cell x c e
  exact ⟨v,cellK x c e v z⟩
 ·obtain ⟨m,⟨o,_,_,ho,_⟩,_⟩:=I.loc
  exact free _ o (λ z=>(hch _ z).2.1 rfl) ho I.free
 ·obtain ⟨v,o,ho,hd⟩:=I.cell x c e
  exact free c o (λ z=>(hch c z).2.2.1 x c e rfl) ho (I.freeC x c e)
 ·obtain ⟨e,n,ne,nf,d⟩:=I.pin p hp
  have nch:p.1 ∉ ch:=λ z=>(hch p.1 z).2.2.2 p hp rfl
  exact ⟨keep p.1 p.2 ne nf nch e n,free p.1 p.2 nch e n,ne,nf,d⟩
theorem Inv.un {t':Nat}(I:Inv X pins σ H s) (u:Un X.fs [] H H' s.heap h') (hok:HOk X.prog X.w H' h'):Inv X pins σ H' { s with heap:=h',toks:=t' }:=by
 obtain ⟨m,⟨o,es,ep,ho,r⟩,_⟩:=id I.loc
 obtain ⟨sl,hL⟩:=u.any ho I.free (by simp)
 exact I.step (g':=s.gens) (d':=s.drawn) (ch:=[]) (λ _ z=>nomatch z) (λ b o _ hb _ e n=>u.keep b o e n hb (by simp)) (λ b o _ hb _ e n=>u.slot b o e n hb (by simp)) (λ b o _ e n=>u.free b o e n (by simp)) (λ b o _ e=>u.there b o e (by simp)) u.tups u.frzs u.tbls (λ m' hm=>by
  obtain ⟨o',es',ep',ho',r'⟩:=hm
  rw [ho] at ho';cases ho'
  exact ⟨_,es',ep',hL,r'⟩) hok I.bare
theorem Inv.call {g':Array GenState}{t':Nat}{d':Drawn}{ch:List Addr}(I:Inv X pins σ H s) (u:Un (frs X.stack) ch H H' s.heap h') (hok:HOk X.prog X.w H' h') (hg:AllBare g')
  (hch:∀b∈ch,(b∈X.ex\/X.s₀.heap.objs.size≤b)/\b≠X.env.locals/\(∀x c,X.env.cells.lookup x=some c->c≠b)/\∀p∈X.pn++pins,p.1≠b) :
  Inv X pins σ H' { s with heap:=h',gens:=g',drawn:=d',toks:=t' }:=by
 obtain ⟨m,⟨o,es,ep,ho,r⟩,_⟩:=id I.loc
 obtain ⟨sl,hL⟩:=u.any ho I.free λ z=>(hch _ z).2.1 rfl
 exact I.step (ch:=ch) hch (λ b o hL hb hc e n=>u.keep b o e n (λ z=>(List.mem_cons.mp (I.stkSub b z)).elim hL hb) hc) (λ b o _ _ hc e n=>u.any e n hc) (λ b o hc e n=>u.free b o e n hc) (λ b o hc e=>u.there b o e hc) u.tups u.frzs u.tbls (λ m' hm=>by
  obtain ⟨o',es',ep',ho',r'⟩:=hm
  rw [ho] at ho';cases ho'
  exact ⟨_,es',ep',hL,r'⟩) hok hg
theorem Inv.turned {t':Nat}{it:Addr}(I:Inv X pins σ H s) (k:∀b o,b≠it->s.heap.get? b=some o->h'.get? b=some o) (hn:H it=none) (hL:it≠X.env.locals)
  (h1:it∈X.ex\/X.s₀.heap.objs.size≤it) (h2:∀x c,X.env.cells.lookup x=some c->c≠it) (h3:∀p∈X.pn++pins,p.1≠it):Inv X pins σ H { s with heap:=h',toks:=t' }:=by
 have nit:∀b u,H b=some u->b≠it:=λ b u e z=>by rw [z,hn] at e;cases e
 refine I.step (g':=s.gens) (d':=s.drawn) (ch:=[it]) (λ b hb=>?_) (λ b o _ _ hc e _=>k b o (λ z=>hc (by simp [z])) e) (λ b o _ _ hc e _=>⟨o.slots,k b o (λ z=>hc (by simp [z])) e⟩) (λ _ _ _ _ n=>n)
  (λ b o hc e=>⟨o,k b o (λ z=>hc (by simp [z])) e⟩) (λ _ _ e=>e) (λ _ _ _ e=>e) (λ b ps e=>⟨#[],by rw [e];simp⟩) (λ m hm=>?_) (λ b u e=>?_) I.bare
 ·have e:b=it:=by simpa using hb
  subst e
  exact ⟨h1,hL,h2,h3⟩
 ·obtain ⟨o,es,ep,ho,r⟩:=hm
  exact ⟨o,es,ep,k _ o (Ne.symm hL) ho,r⟩
 ·refine (I.hok b u e).stay (λ c v hc q=>k c v ?_ q) (λ _ q=>q) λ _ _ q=>q
  rcases hc with z | z
  ·rw [z];exact nit b u e
  ·exact nit c _ z
theorem Inv.tok (I:Inv X pins σ H s) (t:Nat):Inv X pins σ H { s with toks:=t }:=I.un (h':=s.heap) (t':=t) Un.refl I.hok
theorem Inv.kept {t':Nat}(I:Inv X pins σ H s) (k:∀b u,s.heap.get? b=some u->h'.get? b=some u):Inv X pins σ H { s with heap:=h',toks:=t' }:=I.un (Un.kept k) (I.hok.kept k)
theorem Inv.laid {a:Addr}{o:HO}{t':Nat}(I:Inv X pins σ H s) (k:∀b u,s.heap.get? b=some u->h'.get? b=some u) (hp:s.heap.objs.size≤a) (new:ObjOk X.prog X.w (upd H a o) h' a o) :
  Inv X pins σ (upd H a o) { s with heap:=h',toks:=t' }:=I.un (Un.laid k hp (I.hok.fresh hp)) (I.hok.laid k hp new)
theorem Inv.write {x e:Addr}{o:HO}{t':Nat}(I:Inv X pins σ H s) (mu:Mut (H x)) (he:e=x\/H e=some (.own x)) (k:∀b u,b≠e->s.heap.get? b=some u->h'.get? b=some u) (heo:∃u,h'.get? e=some u)
  (new:ObjOk X.prog X.w (upd H x o) h' x o):Inv X pins σ (upd H x o) { s with heap:=h',toks:=t' }:=I.un (Un.write mu he k heo) (I.hok.write mu he k heo new)
theorem Inv.pins_of {pins':List (Addr × Obj)}(I:Inv X pins σ H s) (h:∀p∈pins',s.heap.get? p.1=some p.2/\H p.1=none/\p.1≠X.env.locals/\p.1 ∉ X.fs/\∀v,p.2.data≠.cell v):Inv X pins' σ H s :=
 ⟨I.ok,I.os,I.bare,I.base,I.loc,I.cell,I.free,I.freeC,λ p hp=>(List.mem_append.mp hp).elim (λ z=>I.pin p (List.mem_append_left _ z)) (h p),I.hok,I.len⟩
theorem z6k {N:List Str}(hN:N.Nodup) {i j:Nat}{x:Str}(a:N[i]?=some x) (b:N[j]?=some x):i=j:=by
 obtain ⟨h1,e1⟩:=List.getElem?_eq_some_iff.mp a
 obtain ⟨h2,e2⟩:=List.getElem?_eq_some_iff.mp b
 exact (List.getElem_inj hN).mp (e1.trans e2.symm)
theorem z6y {M:Model}{A:Around}{E:Value->Shared->Prop}{i:Nat}{x:Str}{v:V}{u:Value}{Q:Unit->Shared->Prop}(I:Inv X pins σ H s) (hN:X.N.Nodup) (hi:X.N[i]?=some x) (hx:Loc X.env.scope x) (r:RelV v u)
  (h:∀s',Inv X pins (σ.set i (some v)) H s'->(∃a,Heap.SameBut a s.heap s'.heap/\(a=X.env.locals\/X.env.cells.lookup x=some a))->Q () s') (hf:X.fn x=true\/X.env.scope.names.lookup x=some .local:=by first | exact .inl rfl | exact .inr rfl | assumption):wpAny M A (storeName X.env x u) Q E s:=by
 obtain ⟨m,hn,hl⟩:=id I.loc
 have hcls:(X.env.scope.kind == .class || (X.env.scope.kind == .module && X.env.locals != X.env.globals))=false:=by rw [I.ok.kind];rfl
 have hiσ:i < σ.length:=by rw [I.len];exact (List.getElem?_eq_some_iff.mp hi).1
 have cne:=I.cne
 have tracked:∀ {a:Addr}{h':Heap},(∃o,s.heap.get? a=some o/\H a=none)->Heap.SameBut a s.heap h'->HOk X.prog X.w H h':=λ {a h'} ha hs b ob e=>by
  obtain ⟨_,_,hfree⟩:=ha
  refine (I.hok b ob e).stay (λ c w' hc q=>(hs.2 c ?_).trans q) (λ _ q=>q) λ _ _ q=>q
  rintro rfl
  rcases hc with rfl | hc
  ·rw [hfree] at e;cases e
  ·rw [hfree] at hc;cases hc
 rcases hx with hk | hk
 ·refine wpAny_storeName_local hk hn (λ h' hn' hs=>?_) hcls
  obtain ⟨oL,_,_,hoL,_⟩:=id hn
  refine h _ ⟨I.ok,I.os,I.bare,⟨λ b o e n hb hx=>?_,λ b o e n hb hx=>?_,I.base.free,λ b o e hx=>?_,I.base.tups,I.base.frzs,I.base.tbls⟩,⟨_,hn',λ j y v' e1 e2 e3=>?_⟩,λ y c e=>?_,I.free,I.freeC,λ p hp=>?_,tracked ⟨oL,hoL,I.free⟩ hs,by simpa using I.len⟩ ⟨_,hs,.inl rfl⟩
  ·exact (hs.2 b (Nat.ne_of_lt (Nat.lt_of_lt_of_le (Heap.lt_size e) I.ok.above))).trans (I.base.keep b o e n hb hx)
  ·obtain ⟨sl,e1⟩:=I.base.slot b o e n hb hx
   exact ⟨sl,(hs.2 b (Nat.ne_of_lt (Nat.lt_of_lt_of_le (Heap.lt_size e) I.ok.above))).trans e1⟩
  ·obtain ⟨o',e1⟩:=I.base.there b o e hx
   exact ⟨o',(hs.2 b (Nat.ne_of_lt (Nat.lt_of_lt_of_le (Heap.lt_size e) I.ok.above))).trans e1⟩
  ·by_cases hj:j=i
   ·subst hj
    rw [hi] at e1;cases e1
    rw [List.getElem?_set_self hiσ] at e2
    cases e2
    exact ⟨u,r,.inl ⟨hk,by simp⟩⟩
   ·rw [List.getElem?_set_ne (Ne.symm hj)] at e2
    obtain ⟨u',r',q⟩:=hl j y v' e1 e2 e3
    refine ⟨u',r',?_⟩
    rcases q with ⟨k,e⟩ | ⟨k,c,e,z⟩
    ·refine .inl ⟨k,?_⟩
     have:y≠x:=λ e=>hj (z6k hN e1 (e ▸ hi))
     simp [this,e]
    ·exact .inr ⟨k,c,e,z.sameBut hs (cne y c e)⟩
  ·obtain ⟨w',z⟩:=I.cell y c e
   exact ⟨w',z.sameBut hs (cne y c e)⟩
  ·obtain ⟨e,n,ne,nf,d⟩:=I.pin p hp
   exact ⟨(hs.2 p.1 ne).trans e,n,ne,nf,d⟩
 ·have hfn:X.fn x=true:=by
   rcases hf with z | z
   ·exact z
   ·rw [z] at hk;cases hk
  obtain ⟨c,hc⟩:=I.ok.has x (.inl hk)
  obtain ⟨w',z⟩:=I.cell x c hc
  refine wpAny_storeName_cell I.ok.kind hk hc z (λ h' hc' hs=>?_)
  obtain ⟨oc,hoc,hocd⟩:=id z
  refine h { s with heap:=h' } ⟨I.ok,I.os,I.bare,⟨λ b o e n hb hx=>?_,λ b o e n hb hx=>?_,I.base.free,λ b o e hx=>?_,I.base.tups,I.base.frzs,I.base.tbls⟩,⟨m,hn.sameBut hs (Ne.symm (cne x c hc)),λ j y v' e1 e2 e3=>?_⟩,λ y c' e=>?_,I.free,I.freeC,λ p hp=>?_,tracked ⟨oc,hoc,I.freeC x c hc⟩ hs,by simpa using I.len⟩ ⟨c,hs,.inr hc⟩
  ·exact (hs.2 b (Nat.ne_of_lt (Nat.lt_of_lt_of_le (Heap.lt_size e) (I.ok.cab x c hfn hc)))).trans (I.base.keep b o e n hb hx)
  ·obtain ⟨sl,e1⟩:=I.base.slot b o e n hb hx
   exact ⟨sl,(hs.2 b (Nat.ne_of_lt (Nat.lt_of_lt_of_le (Heap.lt_size e) (I.ok.cab x c hfn hc)))).trans e1⟩
  ·obtain ⟨o',e1⟩:=I.base.there b o e hx
   exact ⟨o',(hs.2 b (Nat.ne_of_lt (Nat.lt_of_lt_of_le (Heap.lt_size e) (I.ok.cab x c hfn hc)))).trans e1⟩
  ·by_cases hj:j=i
   ·subst hj
    rw [hi] at e1;cases e1
    rw [List.getElem?_set_self hiσ] at e2
    cases e2
    exact ⟨u,r,.inr ⟨.inl hk,c,hc,hc'⟩⟩
   ·rw [List.getElem?_set_ne (Ne.symm hj)] at e2
    obtain ⟨u',r',q⟩:=hl j y v' e1 e2 e3
    refine ⟨u',r',?_⟩
    rcases q with q | ⟨k,c',e,z'⟩
    ·exact .inl q
    ·refine .inr ⟨k,c',e,z'.sameBut hs ?_⟩
     rintro rfl
     exact hj (z6k hN e1 (I.ok.inj _ _ _ e hc ▸ hi))
  ·by_cases hcc:c'=c
   ·subst hcc;exact ⟨_,hc'⟩
   ·obtain ⟨w2,z2⟩:=I.cell y c' e
    exact ⟨w2,z2.sameBut hs hcc⟩
  ·obtain ⟨e,n,ne,nf,d⟩:=I.pin p hp
   refine ⟨(hs.2 p.1 ?_).trans e,n,ne,nf,d⟩
   intro q
   rw [q,hoc] at e
   have q':oc=p.2:=Option.some.inj e
   exact d w' (by rw [← q'];exact hocd)
theorem z6b {M:Model}{A:Around}{E:Value->Shared->Prop}{i:Nat}{x:Str}{v:V}{u:Value}{Q:Unit->Shared->Prop}(I:Inv X pins σ H s) (hN:X.N.Nodup) (hi:X.N[i]?=some x) (hx:Loc X.env.scope x) (r:RelV v u)
  (h:∀s',Inv X pins (σ.set i (some v)) H s'->Q () s') (hf:X.fn x=true\/X.env.scope.names.lookup x=some .local:=by first | exact .inl rfl | exact .inr rfl | assumption):wpAny M A (storeName X.env x u) Q E s :=
 z6y I hN hi hx r (λ s' I' _=>h s' I') hf
theorem Inv.call' {s':Shared}{ch:List Addr}(I:Inv X pins σ H s) (ho:s'.os=s.os) (u:Un (frs X.stack) ch H H' s.heap s'.heap) (hok:HOk X.prog X.w H' s'.heap) (hg:AllBare s'.gens)
  (hch:∀b∈ch,(b∈X.ex\/X.s₀.heap.objs.size≤b)/\b≠X.env.locals/\(∀x c,X.env.cells.lookup x=some c->c≠b)/\∀p∈X.pn++pins,p.1≠b):Inv X pins σ H' s':=by
 obtain ⟨h',g',d',t',o'⟩:=s'
 have e:o'=s.os:=ho
 subst e
 exact I.call (g':=g') (t':=t') (d':=d') u hok hg hch
end
abbrev XK:=Value->Option Addr->Hp->Prop
abbrev St:=List (Option V)
abbrev VK:=V->Hp->Prop
abbrev TE:=St->Hp->VK->Prop
abbrev TT:=St->Hp->(Bool->Hp->Prop)->Prop
abbrev TA:=St->Hp->(List V->Hp->Prop)->Prop
structure Ends where
 nx:St->Hp->Prop
 rt:VK
 bk:St->Hp->Prop:=λ _ _=>False
 ct:St->Hp->Prop:=λ _ _=>False
abbrev TS:=Ends->St->Hp->Prop
def EP (X:Cx) (pins:List (Addr × Obj)) (σ:St) (Q:VK) (u:Value) (s':Shared):Prop:=∃v H',Inv X pins σ H' s'/\RelV v u/\Q v H'
def TP (X:Cx) (pins:List (Addr × Obj)) (σ:St) (Q:Bool->Hp->Prop) (b:Bool) (s':Shared):Prop:=∃H',Inv X pins σ H' s'/\Q b H'
def AP (X:Cx) (pins:List (Addr × Obj)) (σ:St) (Q:List V->Hp->Prop) (us:List Value) (s':Shared):Prop:=∃vs H',Inv X pins σ H' s'/\Vals vs us/\Q vs H'
def SP (X:Cx) (pins:List (Addr × Obj)) (D:Ends) (f:Flow) (s':Shared):Prop :=
 match f with
 | .next=>∃σ' H',Inv X pins σ' H' s'/\D.nx σ' H'
 | .brk=>∃σ' H',Inv X pins σ' H' s'/\D.bk σ' H'
 | .cont=>∃σ' H',Inv X pins σ' H' s'/\D.ct σ' H'
 | .ret u=>∃v σ' H',Inv X pins σ' H' s'/\RelV v u/\D.rt v H'
def PE (X:Cx) (e:Expr) (t:TE):Prop :=
 ∀(pins:List (Addr × Obj)) (s:Shared) (σ:St) (H:Hp) (Q:VK),Inv X pins σ H s->t σ H Q->wpAny (model X.prog X.w) X.A (eval e X.env) (EP X pins σ Q) X.xe s
def PT (X:Cx) (e:Expr) (t:TT):Prop :=
 ∀(pins:List (Addr × Obj)) (s:Shared) (σ:St) (H:Hp) (Q:Bool->Hp->Prop),Inv X pins σ H s->t σ H Q->wpAny (model X.prog X.w) X.A (isTrue e X.env (eval e X.env)) (TP X pins σ Q) X.xe s
def PW (X:Cx) (e:Expr) (t:TT):Prop :=
 ∀(whole:Sem Value) (pins:List (Addr × Obj)) (s:Shared) (σ:St) (H:Hp) (Q:Bool->Hp->Prop),Inv X pins σ H s->t σ H Q->wpAny (model X.prog X.w) X.A (isTrue e X.env whole) (TP X pins σ Q) X.xe s
theorem PW.pt {X:Cx}{e:Expr}{t:TT}(h:PW X e t):PT X e t:=h _
def PA (X:Cx) (es:List Expr) (t:TA):Prop :=
 ∀(pos:Pos) (pins:List (Addr × Obj)) (s:Shared) (σ:St) (H:Hp) (Q:List V->Hp->Prop),Inv X pins σ H s->t σ H Q->wpAny (model X.prog X.w) X.A (spliced (backTo pos (starEach es X.env))) (AP X pins σ Q) X.xe s
def PS (X:Cx) (st:Stmt) (t:TS):Prop :=
 ∀(pins:List (Addr × Obj)) (s:Shared) (σ:St) (H:Hp) (D:Ends),Inv X pins σ H s->t D σ H->wpAny (model X.prog X.w) X.A (exec st X.env) (SP X pins D) X.xe s
def PSs (X:Cx) (st:List Stmt) (t:TS):Prop :=
 ∀(pins:List (Addr × Obj)) (s:Shared) (σ:St) (H:Hp) (D:Ends),Inv X pins σ H s->t D σ H->wpAny (model X.prog X.w) X.A (execs st X.env) (SP X pins D) X.xe s
theorem thn {α:Type}{t:Sem α}{Q Q':α->Shared->Prop}{M:Model}{A:Around}{E:Value->Shared->Prop}{s:Shared}(h:wpAny M A t Q E s) (hQ:∀a s,Q a s->Q' a s):wpAny M A t Q' E s:=wpAny_mono h hQ λ _ _ x=>x
section
variable {X:Cx}
def tVar (i:Nat):TE:=λ σ H Q=>∃v,σ[i]?=some (some v)/\Q v H
def tC (v:V):TE:=λ _ H Q=>Q v H
theorem x2v {i:Nat}{x:Str}{pos:Pos}(hN:X.N[i]?=some x) (hv:Vis X.env.scope x) (hd:(x == ("__debug__" : Str))=false:=by decide) (hcd:(x == ("__classdict__" : Str))=false:=by decide):PE X (.Name x pos) (tVar i):=by
 intro pins s σ H Q I h
 obtain ⟨v,e,h⟩:=h
 obtain ⟨m,hn,hl⟩:=I.loc
 obtain ⟨u,r,l⟩:=hl i x v hN e hv
 have fin:EP X pins σ Q u s:=⟨v,H,I,r,h⟩
 rcases l with ⟨hk,hm⟩ | ⟨hk,c,hc,hcell⟩
 ·exact wpAny_Name (wpAny_loadName_local I.ok.kind hk hn hm fin) hd
 ·rcases hk with hk | hk
  ·exact wpAny_Name (wpAny_loadName_cell I.ok.kind hk hc hcell fin) hd
  ·exact wpAny_Name (wpAny_loadName_free I.ok.kind hk hc hcell fin hcd) hd
theorem z0f {i j pos}:PE X (.Constant (.int i) j pos) (tC (.int i)):=λ _ _ _ H _ I h=>wpAny_Constant_int ⟨.int i,H,I.tok _,⟨_,rfl⟩,h⟩
theorem z8u {b j pos}:PE X (.Constant (.bool b) j pos) (tC (.bl b)):=λ _ _ _ H _ I h=>Constant_bool ⟨.bl b,H,I,rfl,h⟩
theorem z1s {j pos}:PE X (.Constant .none j pos) (tC .non):=λ _ _ _ H _ I h=>Constant_none ⟨.non,H,I,rfl,h⟩
theorem z0l {x j pos}:PE X (.Constant (.str x) j pos) (tC (.str x)):=λ _ _ _ H _ I h=>Calls.Constant_str ⟨.str x,H,I.tok _,⟨_,rfl⟩,h⟩
def Gl (X:Cx) (x:Str):Prop:=X.env.kindOf x=some .globalImplicit
theorem z3f {E:Value->Shared->Prop}{pins:List (Addr × Obj)}{s:Shared}{σ:St}{H:Hp}{x:Str}{u:Value}{pos:Pos}{Q:Value->Shared->Prop}(I:Inv X pins σ H s) (hg:Gl X x) (hm:X.mg x=some u) (h:Q u s)
  (hd:(x == ("__debug__" : Str))=false:=by decide):wpAny (model X.prog X.w) X.A (eval (.Name x pos) X.env) Q E s :=
 Calls.Name_function_global I.ok.kind hg (Calls.loadGlobal_global (by rw [I.ok.glob];exact I.mod.glob.keeps I.bk) hm h) hd
theorem z5b {E:Value->Shared->Prop}{pins:List (Addr × Obj)}{s:Shared}{σ:St}{H:Hp}{x:Str}{u:Value}{pos:Pos}{Q:Value->Shared->Prop}(I:Inv X pins σ H s) (hg:Gl X x) (hm:X.mg x=none) (hv:bootBuiltins x=some u) (h:Q u s)
  (hn:x ≠ "__name__" := by decide) (hd:(x == ("__debug__" : Str))=false:=by decide):wpAny (model X.prog X.w) X.A (eval (.Name x pos) X.env) Q E s:=by
 obtain ⟨mb,h1,h2⟩:=I.mod.blt
 exact Calls.Name_function_global I.ok.kind hg (Calls.loadGlobal_builtin (by rw [I.ok.glob];exact I.mod.glob.keeps I.bk) hm (by rw [I.ok.blt];exact h1.keeps I.bk) ((h2 x hn).trans hv) h) hd
theorem z3d {x:Str}{v:V}{u:Value}{pos:Pos}(hg:Gl X x) (hm:X.mg x=some u) (r:RelV v u) (hd:(x == ("__debug__" : Str))=false:=by decide):PE X (.Name x pos) (tC v) :=
 λ _ _ _ H _ I h=>z3f I hg hm ⟨v,H,I,r,h⟩ hd
theorem z4e {x:Str}{v:V}{u:Value}{pos:Pos}(hg:Gl X x) (hm:X.mg x=none) (hv:bootBuiltins x=some u) (r:RelV v u) (hn:x ≠ "__name__" := by decide) (hd:(x == ("__debug__" : Str))=false:=by decide):PE X (.Name x pos) (tC v) :=
 λ _ _ _ H _ I h=>z5b I hg hm hv ⟨v,H,I,r,h⟩ hn hd
variable {a b:Expr}{ta tb:TE}{pos:Pos}
def PC (X:Cx) (op:CmpOp) (a b:Expr) (t:TE):Prop :=
 ∀(pins:List (Addr × Obj)) (s:Shared) (σ:St) (H:Hp) (Q:VK),Inv X pins σ H s->t σ H Q ->
  wpAny (model X.prog X.w) X.A (eval a X.env) (λ v s₁=>wpAny (model X.prog X.w) X.A (eval b X.env) (λ u s₂=>wpAny (model X.prog X.w) X.A (compareOp op v u) (EP X pins σ Q) X.xe s₂) X.xe s₁) X.xe s
theorem y0h (b:Expr) {op:CmpOp}(h:op≠.In) (h2:op≠.NotIn):behindInMarks op b=false:=by
 have e1:(op == CmpOp.In)=false:=by cases op<;>first | rfl | exact absurd rfl h
 have e2:(op == CmpOp.NotIn)=false:=by cases op<;>first | rfl | exact absurd rfl h2
 cases b<;>simp [behindInMarks,e1,e2]
def tB (t:TE):TT:=λ σ H Q=>t σ H λ x H1=>∃c,x=.bl c/\Q c H1
theorem x2x {op:CmpOp}{t:TE}(h:PC X op a b t) (h1:behindInMarks op b=false:=by first | exact y0h _ (by decide) (by decide) | rfl):PE X (.Compare a [op] [b] pos) t:=λ pins s σ H Q I hw=>wpAny_Compare1 (h pins s σ H Q I hw) h1
theorem x2r {op:CmpOp}{t:TE}(h:PC X op a b t) (h1:behindInMarks op b=false:=by first | exact y0h _ (by decide) (by decide) | rfl):PT X (.Compare a [op] [b] pos) (tB t):=by
 intro pins s σ H Q I hw
 refine wpAny_isTrue_Compare1 (thn (h pins s σ H _ I hw) λ v s1 h1=>thn h1 λ u s2 h2=>thn h2 λ c s3 ⟨x,H1,I1,r1,q1⟩=>?_) h1
 obtain ⟨d,rfl,q⟩:=q1
 cases r1
 exact wpAny_truthy_bool ⟨H1,I1,q⟩
theorem z2q {e:Expr}{t:TE}(h:PE X e t) (he:∀whole,isTrue e X.env whole=(do let v ← whole;standAt e.pos;holding [v] (truthy v)):=by intro _;rfl):PT X e (tB t):=by
 intro pins s σ H Q I hw
 refine isTrue_plain (thn (h pins s σ H _ I hw) λ v s1 ⟨x,H1,I1,r1,q1⟩=>?_) (he _)
 obtain ⟨d,rfl,q⟩:=q1
 cases r1
 exact wpAny_truthy_bool ⟨H1,I1,q⟩
variable {tA tB':TT}{rest:List Expr}
def tAnd (t u:TT):TT:=λ σ H Q=>t σ H λ c H1=>if c=true then u σ H1 Q else Q false H1
def tOr (t u:TT):TT:=λ σ H Q=>t σ H λ c H1=>if c=true then Q true H1 else u σ H1 Q
def tNot (t:TT):TT:=λ σ H Q=>t σ H λ c H1=>Q (!c) H1
theorem z8s (ha:PT X a tA):PW X (.BoolOp .And [a] pos) tA:=by
 intro wh pins s σ H Q I h
 refine isTrue_and (thn (ha pins s σ H Q I h) λ c s1 e=>?_)
 cases c with
 | true=>exact isTrue_and_nil e
 | false=>exact e
theorem z2z (ha:PT X a tA):PW X (.BoolOp .Or [a] pos) tA:=by
 intro wh pins s σ H Q I h
 refine isTrue_or (thn (ha pins s σ H Q I h) λ c s1 e=>?_)
 cases c with
 | false=>exact isTrue_or_nil e
 | true=>exact e
theorem y3k (ha:PT X a tA) (hb:PW X (.BoolOp .And (b::rest) pos) tB'):PW X (.BoolOp .And (a::b::rest) pos) (tAnd tA tB'):=by
 intro wh pins s σ H Q I h
 refine isTrue_and (thn (ha pins s σ H _ I h) λ c s1 ⟨H1,I1,q1⟩=>?_)
 cases c with
 | true=>exact hb wh pins s1 σ H1 Q I1 q1
 | false=>exact ⟨H1,I1,q1⟩
theorem z3b (ha:PT X a tA) (hb:PW X (.BoolOp .Or (b::rest) pos) tB'):PW X (.BoolOp .Or (a::b::rest) pos) (tOr tA tB'):=by
 intro wh pins s σ H Q I h
 refine isTrue_or (thn (ha pins s σ H _ I h) λ c s1 ⟨H1,I1,q1⟩=>?_)
 cases c with
 | true=>exact ⟨H1,I1,q1⟩
 | false=>exact hb wh pins s1 σ H1 Q I1 q1
theorem z4v (ha:PT X a tA):PT X (.UnaryOp .Not a pos) (tNot tA):=by
 intro pins s σ H Q I h
 exact isTrue_not (ha pins s σ H (λ c H1=>Q (!c) H1) I h)
def tAndV (ta tb:TE):TE:=λ σ H Q=>ta σ H λ x H1=>∃c,x=.bl c/\if c=true then tb σ H1 Q else Q (.bl false) H1
def tOrV (ta tb:TE):TE:=λ σ H Q=>ta σ H λ x H1=>∃c,x=.bl c/\if c=true then Q (.bl true) H1 else tb σ H1 Q
def tNotV (ta:TE):TE:=λ σ H Q=>ta σ H λ x H1=>∃c,x=.bl c/\Q (.bl (!c)) H1
theorem y3u {op} {t:TE}(h:PE X a t):PE X (.BoolOp op [a] pos) t:=λ pins s σ H Q I hw=>BoolOp_one (h pins s σ H Q I hw)
theorem y3v (ha:PE X a ta) (hb:PE X (.BoolOp .And (b::rest) pos) tb):PE X (.BoolOp .And (a::b::rest) pos) (tAndV ta tb):=by
 intro pins s σ H Q I h
 refine BoolOp_and (thn (ha pins s σ H _ I h) λ v s1 ⟨x,H1,I1,r1,q1⟩=>?_)
 obtain ⟨c,rfl,q1⟩:=q1
 cases r1
 refine wpAny_truthy_bool ?_
 cases c with
 | true=>exact hb pins s1 σ H1 Q I1 q1
 | false=>exact ⟨.bl false,H1,I1,rfl,q1⟩
theorem x2w (ha:PE X a ta):PE X (.UnaryOp .Not a pos) (tNotV ta):=by
 intro pins s σ H Q I h
 refine UnaryOp_ (thn (ha pins s σ H _ I h) λ v s1 ⟨x,H1,I1,r1,q1⟩=>?_)
 obtain ⟨c,rfl,q1⟩:=q1
 cases r1
 exact not_of (wpAny_truthy_bool ⟨.bl (!c),H1,I1,rfl,q1⟩)
def tIf (t:TT) (ta tb:TE):TE:=λ σ H Q=>t σ H λ c H1=>if c=true then ta σ H1 Q else tb σ H1 Q
theorem z2v {c:Expr}(hc:PT X c tA) (ha:PE X a ta) (hb:PE X b tb):PE X (.IfExp c a b pos) (tIf tA ta tb):=by
 intro pins s σ H Q I h
 refine wpAny_IfExp (thn (hc pins s σ H _ I h) λ d s1 ⟨H1,I1,q1⟩=>?_)
 cases d with
 | true=>exact ha pins s1 σ H1 Q I1 q1
 | false=>exact hb pins s1 σ H1 Q I1 q1
end
def SqL (K:W.Frag) (H:Hp) (a:Addr) (xs:List V):Prop :=
 Rd H a (.lst xs) \/
  ∃(o:Obj) (its:Array Value) (n:Nat),K.lookup a=some o/\o.cls=.type "list" /\ o.dict=none/\o.data=.seq its n/\its.size≤sizeLine/\Vals xs its.toList
def SqT (K:W.Frag) (H:Hp) (a:Addr) (xs:List V):Prop :=
 Rd H a (.tup xs) \/
  ∃(o:Obj) (its:Array Value) (n:Nat),K.lookup a=some o/\o.cls=.type "tuple" /\ o.data=.seq its n/\its.size≤sizeLine/\Vals xs its.toList
def absV:Value->Option V
 | .none=>some .non
 | .bool b=>some (.bl b)
 | .int i _=>some (.int i)
 | .str x _=>some (.str x)
 | .bytes b _=>some (.byt b)
 | .float b _=>some (.flt b)
 | .ref a=>some (.ref a)
 | .type n=>some (.ty n)
 | _=>none
theorem RelV.abs {x:V}{u:Value}(r:RelV x u):absV u=some x:=by
 cases x with
 | non=>cases r;rfl
 | bl _=>cases r;rfl
 | int _=>obtain ⟨t,rfl⟩:=r;rfl
 | str _=>obtain ⟨t,rfl⟩:=r;rfl
 | byt _=>obtain ⟨t,rfl⟩:=r;rfl
 | flt _=>obtain ⟨t,rfl⟩:=r;rfl
 | ref _=>cases r;rfl
 | ty _=>cases r;rfl
theorem RelV.inj {x y:V}{u:Value}(r:RelV x u) (q:RelV y u):x=y:=Option.some.inj (r.abs.symm.trans q.abs)
theorem Vals.inj:∀ {xs ys:List V}{us:List Value},Vals xs us->Vals ys us->xs=ys
 | _,_,_,.nil,.nil=>rfl
 | _,_,_,.cons r t,.cons r' t'=>by rw [r.inj r',Vals.inj t t']
section
variable {X:Cx}{pins:List (Addr × Obj)}{σ:St}{H:Hp}{s:Shared}{a:Addr}{xs ys:List V}
theorem SqL.of {K:W.Frag}(h:H a=some (.lst xs)):SqL K H a xs:=.inl (.inl h)
theorem SqT.of {K:W.Frag}(h:H a=some (.tup xs)):SqT K H a xs:=.inl (.inl h)
theorem Inv.list (I:Inv X pins σ H s) (h:SqL X.K H a xs):∃its:List Value,Vals xs its/\PlainL s.heap a its.toArray/\xs.length≤sizeLine:=by
 rcases h with h | ⟨o,its,n,hk,hc,hd,hs,hz,r⟩
 ·obtain ⟨z,its,n,r,e⟩:=h.ok I.hok
  exact ⟨its,r,⟨_,n,e,rfl,rfl,rfl⟩,z⟩
 ·refine ⟨its.toList,r,⟨o,n,I.kIn a o hk,hc,hd,by simpa using hs⟩,?_⟩
  have e:=r.length
  simp only [Array.length_toList] at e
  omega
theorem Inv.tuple (I:Inv X pins σ H s) (h:SqT X.K H a xs):∃its:List Value,Vals xs its/\IsTup s.heap a its.toArray/\xs.length≤sizeLine:=by
 rcases h with h | ⟨o,its,n,hk,hc,hs,hz,r⟩
 ·obtain ⟨z,its,r,p⟩:=h.ok I.hok
  exact ⟨its,r,p,z⟩
 ·refine ⟨its.toList,r,⟨o,I.kIn a o hk,hc,n,by simpa using hs⟩,?_⟩
  have e:=r.length
  simp only [Array.length_toList] at e
  omega
theorem Inv.list_inj (I:Inv X pins σ H s) (h:SqL X.K H a xs) (h':SqL X.K H a ys):xs=ys:=by
 obtain ⟨its,r,⟨o,n,e,_,_,d⟩,_⟩:=I.list h
 obtain ⟨its',r',⟨o',n',e',_,_,d'⟩,_⟩:=I.list h'
 rw [e] at e';cases e'
 rw [d] at d'
 injection d' with d1 _
 have:its=its':=by simpa using congrArg Array.toList d1
 subst this
 exact r.inj r'
theorem Inv.tuple_inj (I:Inv X pins σ H s) (h:SqT X.K H a xs) (h':SqT X.K H a ys):xs=ys:=by
 obtain ⟨its,r,⟨o,e,_,n,d⟩,_⟩:=I.tuple h
 obtain ⟨its',r',⟨o',e',_,n',d'⟩,_⟩:=I.tuple h'
 rw [e] at e';cases e'
 rw [d] at d'
 injection d' with d1 _
 have:its=its':=by simpa using congrArg Array.toList d1
 subst this
 exact r.inj r'
end
abbrev Cx.wish (X:Cx) (E:Value->Shared->Prop):Cx:={ X with xe:=E }
abbrev Cx.nox (X:Cx):Cx:=X.wish λ _ _=>False
theorem Cx.Ok.wish {X:Cx}(ok:X.Ok) (E:Value->Shared->Prop):(X.wish E).Ok :=
 ⟨ok.mod,ok.kind,ok.glob,ok.blt,ok.above,ok.inj,ok.has,ok.cab,ok.hd,ok.frames,ok.stk,ok.exf,ok.bs,ok.bsz,ok.noex,ok.exfs,ok.funs,ok.frf⟩
theorem Cx.Ok.unwish {X:Cx}{E:Value->Shared->Prop}(ok:(X.wish E).Ok):X.Ok :=
 ⟨ok.mod,ok.kind,ok.glob,ok.blt,ok.above,ok.inj,ok.has,ok.cab,ok.hd,ok.frames,ok.stk,ok.exf,ok.bs,ok.bsz,ok.noex,ok.exfs,ok.funs,ok.frf⟩
section
variable {X:Cx}{pins:List (Addr × Obj)}{σ:St}{H:Hp}{s:Shared}{E:Value->Shared->Prop}
theorem Inv.wish (I:Inv X pins σ H s) (E:Value->Shared->Prop):Inv (X.wish E) pins σ H s:=⟨I.ok.wish E,I.os,I.bare,I.base,I.loc,I.cell,I.free,I.freeC,I.pin,I.hok,I.len⟩
theorem Inv.unwish (I:Inv (X.wish E) pins σ H s):Inv X pins σ H s:=⟨I.ok.unwish,I.os,I.bare,I.base,I.loc,I.cell,I.free,I.freeC,I.pin,I.hok,I.len⟩
theorem SP.unwish {D:Ends}{f:Flow}{s':Shared}(h:SP (X.wish E) pins D f s'):SP X pins D f s':=by
 cases f with
 | next=>obtain ⟨σ',H',I,q⟩:=h;exact ⟨σ',H',I.unwish,q⟩
 | brk=>obtain ⟨σ',H',I,q⟩:=h;exact ⟨σ',H',I.unwish,q⟩
 | cont=>obtain ⟨σ',H',I,q⟩:=h;exact ⟨σ',H',I.unwish,q⟩
 | ret u=>obtain ⟨v,σ',H',I,r,q⟩:=h;exact ⟨v,σ',H',I.unwish,r,q⟩
theorem PE.nox {e:Expr}{t:TE}(h:PE X.nox e t):PE X e t:=λ pins s σ H Q I hw =>
 wpAny_mono (h pins s σ H Q (I.wish _) hw) (λ _ _ ⟨v,H',I',r,q⟩=>⟨v,H',I'.unwish,r,q⟩) λ _ _ z=>False.elim z
theorem PT.nox {e:Expr}{t:TT}(h:PT X.nox e t):PT X e t:=λ pins s σ H Q I hw =>
 wpAny_mono (h pins s σ H Q (I.wish _) hw) (λ _ _ ⟨H',I',q⟩=>⟨H',I'.unwish,q⟩) λ _ _ z=>False.elim z
theorem PSs.nox {st:List Stmt}{t:TS}(h:PSs X.nox st t):PSs X st t:=λ pins s σ H D I hw =>
 wpAny_mono (h pins s σ H D (I.wish _) hw) (λ _ _ q=>q.unwish) λ _ _ z=>False.elim z
end
section
variable {X:Cx}{st:Stmt}{rest:List Stmt}{t u:TS}{e:Expr}{te:TE}{pos:Pos}
def tNext:TS:=λ D σ H=>D.nx σ H
def tSeq (t u:TS):TS:=λ D σ H=>t { D with nx:=u D } σ H
theorem z0n:PSs X [] tNext:=λ _ _ σ H _ I h=>wpAny_execs_nil ⟨σ,H,I,h⟩
theorem z0c (h1:PS X st t) (h2:PSs X rest u):PSs X (st::rest) (tSeq t u):=by
 intro pins s σ H D I h
 refine wpAny_execs_cons (thn (h1 pins s σ H { D with nx:=u D } I h) λ f s1 q=>?_)
 cases f with
 | next =>
  obtain ⟨σ',H',I',q⟩:=q
  exact h2 pins s1 σ' H' D I' q
 | ret v=>exact q
 | brk=>exact q
 | cont=>exact q
theorem z0g (h1:PS X st t):PSs X [st] t:=by
 intro pins s σ H D I h
 refine wpAny_execs_cons (thn (h1 pins s σ H D I h) λ f s1 q=>?_)
 cases f with
 | next=>exact wpAny_execs_nil q
 | ret v=>exact q
 | brk=>exact q
 | cont=>exact q
theorem Inv.quiet {pins:List (Addr × Obj)}{σ:St}{H:Hp}{s:Shared}(I:Inv X pins σ H s):interactive X.env=false:=by simp [interactive,I.ok.kind]
def tDrop (te:TE):TS:=λ D σ H=>te σ H λ _ H1=>D.nx σ H1
theorem z2h (he:PE X e te) (hs:swapsWith e none pos.line X.env=pure false:=by rfl):PS X (.Expr e pos) (tDrop te):=by
 intro pins s σ H D I h
 exact wpAny_Expr_any (thn (he pins s σ H _ I h) λ v s1 ⟨x,H1,I1,r1,q1⟩=>⟨σ,H1,I1,q1⟩) I.quiet hs
def tRet (te:TE):TS:=λ D σ H=>te σ H D.rt
theorem z0k (he:PE X e te):PS X (.Return (some e) pos) (tRet te):=by
 intro pins s σ H D I h
 exact wpAny_Return_some (thn (he pins s σ H _ I h) λ v s1 ⟨x,H1,I1,r1,q1⟩=>⟨x,σ,H1,I1,r1,q1⟩)
def tRetN:TS:=λ D _ H=>D.rt .non H
def tIfS (c:TT) (t u:TS):TS:=λ D σ H=>c σ H λ b H1=>if b=true then t D σ H1 else u D σ H1
theorem z1b {c:Expr}{a b:List Stmt}{tc:TT}(hc:PT X c tc) (ha:PSs X a t) (hb:PSs X b u):PS X (.If c a b pos) (tIfS tc t u):=by
 intro pins s σ H D I h
 refine wpAny_If (thn (hc pins s σ H _ I h) λ d s1 ⟨H1,I1,q1⟩=>?_)
 cases d with
 | true=>exact ha pins s1 σ H1 D I1 q1
 | false=>exact hb pins s1 σ H1 D I1 q1
def tNever:TS:=λ _ _ _=>False
end
abbrev TG:=V->St->Hp->(St->Hp->Prop)->Prop
abbrev TGs:=List V->St->Hp->(St->Hp->Prop)->Prop
def PG (X:Cx) (target:Expr) (t:TG):Prop :=
 ∀(pins:List (Addr × Obj)) (s:Shared) (σ:St) (H:Hp) (v:V) (u:Value) (Q:St->Hp->Prop),Inv X pins σ H s->RelV v u->t v σ H Q ->
  wpAny (model X.prog X.w) X.A (assign target X.env u) (λ _ s'=>∃σ' H',Inv X pins σ' H' s'/\Q σ' H') X.xe s
def PGs (X:Cx) (ts:List Expr) (t:TGs):Prop :=
 ∀(pins:List (Addr × Obj)) (s:Shared) (σ:St) (H:Hp) (vs:List V) (us:List Value) (Q:St->Hp->Prop),Inv X pins σ H s->Vals vs us->t vs σ H Q ->
  wpAny (model X.prog X.w) X.A (assignInOrder ((assignEach ts X.env).map (·.2)) us) (λ _ s'=>∃σ' H',Inv X pins σ' H' s'/\Q σ' H') X.xe s
abbrev TSet:=V->V->V->Hp->(Hp->Prop)->Prop
def PSet (X:Cx) (t:TSet):Prop :=
 ∀(pins:List (Addr × Obj)) (s:Shared) (σ:St) (H:Hp) (o i v:V) (ov iv u:Value) (Q:Hp->Prop),Inv X pins σ H s->RelV o ov->RelV i iv->RelV v u->t o i v H Q ->
  wpAny (model X.prog X.w) X.A (setItem ov iv u) (λ _ s'=>∃H',Inv X pins σ H' s'/\Q H') X.xe s
section
variable {X:Cx}{pos:Pos}
def gName (i:Nat):TG:=λ v σ H Q=>Q (σ.set i (some v)) H
theorem z1f {i:Nat}{x:Str}(hN:X.N.Nodup) (hi:X.N[i]?=some x) (hx:Loc X.env.scope x) (hf:X.fn x=true\/X.env.scope.names.lookup x=some .local:=by first | exact .inl rfl | exact .inr rfl | assumption):PG X (.Name x pos) (gName i):=by
 intro pins s σ H v u Q I r h
 exact wpAny_assign_Name (z6b I hN hi hx r (λ s' I'=>⟨_,H,I',h⟩) hf)
def gNil:TGs:=λ vs σ H Q=>vs=[]/\Q σ H
def gCons (t:TG) (u:TGs):TGs:=λ vs σ H Q=>∃v r,vs=v::r/\t v σ H λ σ' H'=>u r σ' H' Q
theorem z6g:PGs X [] gNil:=by
 intro pins s σ H vs us Q I r h
 obtain ⟨e,h⟩:=h
 subst e
 cases r
 exact assignInOrder_nil ⟨σ,H,I,h⟩
theorem z2l {e:Expr}{es:List Expr}{t:TG}{u:TGs}(h1:PG X e t) (h2:PGs X es u)
  (hs:(assignEach (e::es) X.env).map (·.2)=assign e X.env::(assignEach es X.env).map (·.2):=by rfl):PGs X (e::es) (gCons t u):=by
 intro pins s σ H vs us Q I r h
 obtain ⟨v,vr,e1,h⟩:=h
 subst e1
 cases r with
 | cons r rr =>
  rw [hs]
  refine assignInOrder_cons (thn (h1 pins s σ H _ _ _ I r h) λ _ s1 ⟨σ1,H1,I1,q1⟩=>?_)
  exact h2 pins s1 σ1 H1 _ _ Q I1 rr q1
def gTup (K:W.Frag) (n:Nat) (t:TGs):TG:=λ v σ H Q=>∃a xs,v=.ref a/\SqT K H a xs/\xs.length=n/\t xs σ H Q
theorem y0b {es:List Expr}{k:Nat}{t:TGs}{n:Nat}(hc:X.calm=true) (h:PGs X es t)
  (hn:(assignEach es X.env).length=n:=by rfl) (hst:(assignEach es X.env).findIdx? (·.1)=none:=by rfl):PG X (.Tuple es k pos) (gTup X.K n t):=by
 intro pins s σ H v u Q I r hw
 obtain ⟨a,xs,e1,hq,hl,hw⟩:=hw
 subst e1
 cases r
 obtain ⟨its,rv,ht,hz⟩:=I.tuple hq
 refine assign_Tuple_tuple (I.ok.hd hc) ht (by simp [hn,← hl,rv.length]) hst λ h' hx=>?_
 have I1:Inv X pins σ H { s with heap:=h' }:=I.kept (t':=s.toks) λ b o e=>hx b o (Nat.ne_of_lt (Heap.lt_size e)) e
 exact h pins _ σ H xs _ Q I1 (by simpa using rv) hw
def gSub (to ti:TE) (t:TSet):TG:=λ v σ H Q=>to σ H λ o H1=>ti σ H1 λ i H2=>t o i v H2 λ H3=>Q σ H3
theorem y3s {o i:Expr}{to ti:TE}{t:TSet}(ho:PE X o to) (hi:PE X i ti) (hs:PSet X t)
  (ha:∀v,assign (.Subscript o i pos) X.env v=(do
   let ov ← holding [v] (eval o X.env)
   let iv ← holding [v,ov] (eval i X.env)
   standAt pos
   holding [v,ov,iv] (setItem ov iv v)
   release [v,ov,iv] []):=by intro _;rfl):PG X (.Subscript o i pos) (gSub to ti t):=by
 intro pins s σ H v u Q I r h
 rw [ha]
 refine wpAny_bind (wpAny_holding (thn (ho pins s σ H _ I h) λ ov s1 ⟨x,H1,I1,r1,q1⟩=>?_))
 refine wpAny_bind (wpAny_holding (thn (hi pins s1 σ H1 _ I1 q1) λ iv s2 ⟨y,H2,I2,r2,q2⟩=>?_))
 refine wpAny_bind (wpAny_standAt (wpAny_bind (wpAny_holding (thn (hs pins s2 σ H2 x y v ov iv u _ I2 r1 r2 r q2) λ _ s3 ⟨H3,I3,q3⟩=>?_))))
 exact wpAny_release ⟨σ,H3,I3,q3⟩
def tAsg (te:TE) (g:TG):TS:=λ D σ H=>te σ H λ x H1=>g x σ H1 D.nx
theorem y3l {tg e:Expr}{te:TE}{g:TG}(he:PE X e te) (hg:PG X tg g) (hs:swapsWithSole [tg] e pos.line X.env=pure false:=by rfl) (hw:swappedStores [tg] e X.env=pure none:=by rfl)
  (h1:(assignEach [tg] X.env).map (·.2)=[assign tg X.env]:=by rfl):PS X (.Assign [tg] e pos) (tAsg te g):=by
 intro pins s σ H D I h
 refine wpAny_Assign_stores (thn (he pins s σ H _ I h) λ v s1 ⟨x,H1,I1,r1,q1⟩=>?_) hs hw
 rw [h1]
 exact thn (hg pins s1 σ H1 x v _ I1 r1 q1) λ _ s2 q=>q
theorem z0o {i:Nat}{x:Str}{e:Expr}{te:TE}{pos':Pos}(hN:X.N.Nodup) (hi:X.N[i]?=some x) (hx:Loc X.env.scope x) (he:PE X e te) (hs:swapsWith e (some (.Name x pos')) pos.line X.env=pure false:=by rfl) (hf:X.fn x=true\/X.env.scope.names.lookup x=some .local:=by first | exact .inl rfl | exact .inr rfl | assumption) :
  PS X (.Assign [.Name x pos'] e pos) (tAsg te (gName i)):=by
 intro pins s σ H D I h
 refine wpAny_Assign_Name (thn (he pins s σ H _ I h) λ v s1 ⟨y,H1,I1,r1,q1⟩=>?_) hs
 exact z6b I1 hN hi hx r1 (λ s2 I2=>⟨_,H1,I2,q1⟩) hf
end
section
variable {X:Cx}{pos:Pos}
end
structure It where
 go:Nat->Hp->Prop
 yld:Nat->Hp->V->Hp->Prop
 stop:Nat->Hp->Prop
def FpOk (X:Cx) (pins:List (Addr × Obj)) (H:Hp) (b:Addr):Prop :=
 H b=none/\b≠X.env.locals/\b ∉ X.fs/\(b∈X.ex\/X.s₀.heap.objs.size≤b)/\(∀x c,X.env.cells.lookup x=some c->c≠b)/\∀p∈X.pn++pins,p.1≠b
theorem Inv.fpOk {X:Cx}{pins:List (Addr × Obj)}{σ:St}{H H':Hp}{s:Shared}{b:Addr}(I:Inv X pins σ H s) (hb:s.heap.objs.size≤b) (hn:H' b=none):FpOk X pins H' b:=by
 refine ⟨hn,Nat.ne_of_gt (Nat.lt_of_lt_of_le I.lt hb),I.nofs hb,.inr (Nat.le_trans I.sz hb),λ x c e z=>?_,λ p hp z=>?_⟩
 ·obtain ⟨v,q⟩:=I.cell x c e
  exact absurd (Nat.lt_of_lt_of_le q.lt (by rw [z];exact hb)) (Nat.lt_irrefl _)
 ·exact absurd (Nat.lt_of_lt_of_le (Heap.lt_size (I.pin p hp).1) (by rw [z];exact hb)) (Nat.lt_irrefl _)
structure Turn (P:Program) (w:World) (K:W.Frag) (tg:Expr) (J:It) (fp:List Addr) (it:Addr) (tn:Nat->Heap->Prop):Prop where
 mem:it∈fp
 obj:∀i h,tn i h->∀b∈fp,∃o,h.get? b=some o/\∀v,o.data≠.cell v
 keep:∀i h h',tn i h->(∀b∈fp,∀o,h.get? b=some o->h'.get? b=some o)->tn i h'
 item:∀(X:Cx),X.prog=P->X.w=w->X.K=K->X.calm=true->∀(i:Nat) (pins:List (Addr × Obj)) (s:Shared) (σ:St) (H:Hp) (E:Value->Shared->Prop),Inv X pins σ H s->(∀b∈fp,FpOk X pins H b)->tn i s.heap->J.go i H ->
  wpAny (model P w) X.A (pyNext (.ref it)) (λ r s1=>∃u,r=some u /\
   wpAny (model P w) X.A (letOwnedTupleGo tg (.ref it) u) (λ _ s2=>∃x H',Inv X pins σ H' s2/\RelV x u/\J.yld i H x H'/\tn (i+1) s2.heap/\∀b∈fp,H' b=none) E s1) E s
 done:∀(X:Cx),X.prog=P->X.w=w->X.K=K->X.calm=true->∀(i:Nat) (pins:List (Addr × Obj)) (s:Shared) (σ:St) (H:Hp) (E:Value->Shared->Prop),Inv X pins σ H s->(∀b∈fp,FpOk X pins H b)->tn i s.heap->J.stop i H ->
  wpAny (model P w) X.A (pyNext (.ref it)) (λ r s1=>r=none/\Inv X pins σ H s1) E s
 self:∀(A:Around) (i:Nat) (s:Shared) (Q:Value->Shared->Prop) (E:Value->Shared->Prop),tn i s.heap->Q (.ref it) s->wpAny (model P w) A (pyIter (.ref it)) Q E s
abbrev TI:=St->Hp->(It->Hp->Prop)->Prop
def PIE (X:Cx) (pins:List (Addr × Obj)) (σ:St) (tg:Expr) (R:It->Hp->Prop) (itv:Value) (s2:Shared):Prop :=
 ∃(it:Addr) (fp:List Addr) (tn:Nat->Heap->Prop) (J:It) (H':Hp),itv=.ref it/\Inv X pins σ H' s2/\Turn X.prog X.w X.K tg J fp it tn/\tn 0 s2.heap/\(∀b∈fp,FpOk X pins H' b)/\R J H'
def PI (X:Cx) (tg iter:Expr) (wi:TI):Prop :=
 ∀(pins:List (Addr × Obj)) (s:Shared) (σ:St) (H:Hp) (R:It->Hp->Prop),Inv X pins σ H s->wi σ H R ->
  wpAny (model X.prog X.w) X.A (eval iter X.env) (λ v s1=>wpAny (model X.prog X.w) X.A (pyIter v) (PIE X pins σ tg R) X.xe s1) X.xe s
theorem y5n {M:Model}{A:Around}{E:Value->Shared->Prop}{s:Shared}{tg:Expr}{it:Addr}{u:Value}{o:Obj}{n:String}{vs:Array Value}{Q:Unit->Shared->Prop}(ho:s.heap.get? it=some o) (hc:o.cls=.type n) (hd:o.data=.fields vs)
    (hn:["enumerate", "zip", "dict_itemiterator", "dict_reverseitemiterator", "odict_iterator", "itertools.zip_longest", "itertools.pairwise"].contains n=false) (hQ:Q () s):wpAny M A (letOwnedTupleGo tg (.ref it) u) Q E s:=by
  unfold letOwnedTupleGo
  cases tg<;>first
    | exact wpAny_pure hQ
    | (cases u<;>first
        | exact wpAny_pure hQ
        | (refine wpAny_bind (wpAny_load ho ?_)
           rw [hc,hd]
           show wpAny M A (if (["enumerate", "zip", "dict_itemiterator", "dict_reverseitemiterator", "odict_iterator", "itertools.zip_longest", "itertools.pairwise"].contains n && vs[0]? == some (rawInt _))=true then _ else _) Q E s
           rw [if_neg (by intro h;rw [hn,Bool.false_and] at h;cases h)]
           exact wpAny_pure hQ))
def Itl (K:W.Frag) (a:Addr):It :=
 ⟨λ i H=>∃xs x,SqL K H a xs/\xs[i]?=some x,λ i H x H'=>H'=H/\∀xs,SqL K H a xs->xs[i]?=some x,λ i H=>∃xs,SqL K H a xs/\xs.length≤i⟩
def Itt (K:W.Frag) (a:Addr):It :=
 ⟨λ i H=>∃xs x,SqT K H a xs/\xs[i]?=some x,λ i H x H'=>H'=H/\∀xs,SqT K H a xs->xs[i]?=some x,λ i H=>∃xs,SqT K H a xs/\xs.length≤i⟩
def Itr (lo:Int) (n:Nat):It:=⟨λ i _=>i < n,λ i H x H'=>H'=H/\x=.int (lo+i),λ i _=>n≤i⟩
theorem y2i {P:Program}{w:World}{K:W.Frag}{tg:Expr}(a it:Addr):Turn P w K tg (Itl K a) [it] it (λ i h=>h.IsListIter it a i) where
 mem:=by simp
 obj:=λ i h st b hb=>by
  have e:b=it:=by simpa using hb
  subst e
  obtain ⟨o,e,c,d⟩:=st
  exact ⟨o,e,λ v z=>by rw [d] at z;cases z⟩
 keep:=λ i h h' st k=>st.at λ o e=>k it (by simp) o e
 item:=by
  intro X hP hw hK hc i pins s σ H E I hf st hg
  subst hP hw hK
  obtain ⟨xs,x,hq,hx⟩:=hg
  obtain ⟨its,rv,p,hz⟩:=I.list hq
  obtain ⟨u,hu,ru⟩:=rv.get hx
  obtain ⟨f0,f1,f2,f3,f4,f5⟩:=hf it (by simp)
  refine wpAny_pyNext_list_item st p.isList (x:=u) (by simpa using hu) λ h' st' sb=>?_
  have I1:Inv X pins σ H { s with heap:=h' }:=I.turned (t':=s.toks) (λ b o hb e=>(sb.2 b hb).trans e) f0 f1 f3 f4 f5
  obtain ⟨o,e,c,d⟩:=id st'
  exact ⟨u,rfl,y5n (s:={ s with heap:=h' }) e c d (by decide) ⟨x,H,I1,ru,⟨rfl,λ ys hy=>by rw [I.list_inj hy hq];exact hx⟩,st',λ b hb=>(hf b hb).1⟩⟩
 done:=by
  intro X hP hw hK hc i pins s σ H E I hf st hg
  subst hP hw hK
  obtain ⟨xs,hq,hx⟩:=hg
  obtain ⟨its,rv,p,hz⟩:=I.list hq
  obtain ⟨f0,f1,f2,f3,f4,f5⟩:=hf it (by simp)
  have hl:=rv.length
  exact wpAny_pyNext_list_end (I.ok.hd hc) st p.isList (by simp;omega) λ h' eb=>⟨rfl,I.turned (t':=s.toks) (λ b o hb e=>eb b o hb e) f0 f1 f3 f4 f5⟩
 self:=λ _ _ _ _ _ st h=>wpAny_pyIter_listiter st h
theorem y0x {P:Program}{w:World}{K:W.Frag}{tg:Expr}(a it:Addr):Turn P w K tg (Itt K a) [it] it (λ i h=>h.IsTupleIter it a i) where
 mem:=by simp
 obj:=λ i h st b hb=>by
  have e:b=it:=by simpa using hb
  subst e
  obtain ⟨o,e,c,d⟩:=st
  exact ⟨o,e,λ v z=>by rw [d] at z;cases z⟩
 keep:=λ i h h' st k=>st.at λ o e=>k it (by simp) o e
 item:=by
  intro X hP hw hK hc i pins s σ H E I hf st hg
  subst hP hw hK
  obtain ⟨xs,x,hq,hx⟩:=hg
  obtain ⟨its,rv,p,hz⟩:=I.tuple hq
  obtain ⟨u,hu,ru⟩:=rv.get hx
  obtain ⟨f0,f1,f2,f3,f4,f5⟩:=hf it (by simp)
  refine wpAny_pyNext_tuple_item st (show s.heap.IsTuple a its.toArray from p) (x:=u) (by simpa using hu) λ h' st' sb=>?_
  have I1:Inv X pins σ H { s with heap:=h' }:=I.turned (t':=s.toks) (λ b o hb e=>(sb.2 b hb).trans e) f0 f1 f3 f4 f5
  obtain ⟨o,e,c,d⟩:=id st'
  exact ⟨u,rfl,y5n (s:={ s with heap:=h' }) e c d (by decide) ⟨x,H,I1,ru,⟨rfl,λ ys hy=>by rw [I.tuple_inj hy hq];exact hx⟩,st',λ b hb=>(hf b hb).1⟩⟩
 done:=by
  intro X hP hw hK hc i pins s σ H E I hf st hg
  subst hP hw hK
  obtain ⟨xs,hq,hx⟩:=hg
  obtain ⟨its,rv,p,hz⟩:=I.tuple hq
  obtain ⟨f0,f1,f2,f3,f4,f5⟩:=hf it (by simp)
  have hl:=rv.length
  exact wpAny_pyNext_tuple_end (I.ok.hd hc) st (show s.heap.IsTuple a its.toArray from p) (by simp;omega) λ h' eb=>⟨rfl,I.turned (t':=s.toks) (λ b o hb e=>eb b o hb e) f0 f1 f3 f4 f5⟩
 self:=λ _ _ _ _ _ st h=>wpAny_pyIter_tupleiter st h
theorem y0y {P:Program}{w:World}{K:PySem.W.Frag}{tg:Expr}(it:Addr) (lo:Int) (n:Nat):Turn P w K tg (Itr lo n) [it] it (λ i h=>IsRangeIter h it (lo+(i:Nat) * 1) ((n:Int) - (i:Nat)) 1) where
 mem:=by simp
 obj:=λ i h st b hb=>by
  have e:b=it:=by simpa using hb
  subst e
  exact ⟨_,st,λ v z=>by
   have z':Data.fields _=Data.cell v:=z
   cases z'⟩
 keep:=λ i h h' st k=>k it (by simp) _ st
 item:=by
  intro X hP hw hK hc i pins s σ H E I hf st hg
  subst hP hw hK
  obtain ⟨f0,f1,f2,f3,f4,f5⟩:=hf it (by simp)
  have W:=Walks.range (prog:=X.prog) (w:=X.w) (I.ok.hd hc) it lo 1 n
  refine W.item i s _ _ hg st λ v h' tk hv st' kk=>?_
  obtain ⟨t,rfl⟩:=hv
  have I1:Inv X pins σ H { s with heap:=h',toks:=tk }:=I.turned (λ b o hb e=>kk b o (by simpa using hb) e) f0 f1 f3 f4 f5
  refine ⟨_,rfl,y5n (s:={ s with heap:=h',toks:=tk }) (n := "range_iterator") st' rfl rfl (by decide) ⟨.int (lo+i),H,I1,⟨t,?_⟩,⟨rfl,rfl⟩,st',λ b hb=>(hf b hb).1⟩⟩
  rw [Int.mul_one]
 done:=by
  intro X hP hw hK hc i pins s σ H E I hf st hg
  subst hP hw hK
  obtain ⟨f0,f1,f2,f3,f4,f5⟩:=hf it (by simp)
  exact wpAny_pyNext_range_end (I.ok.hd hc) st (by have:n≤i:=hg;omega) λ h' eb=>⟨rfl,I.turned (t':=s.toks) (λ b o hb e=>eb b o hb e) f0 f1 f3 f4 f5⟩
 self:=λ _ _ _ _ _ st h=>wpAny_pyIter_rangeiter st h
section
variable {X:Cx}{tg:Expr}
def iList (K:W.Frag) (tl:TE):TI:=λ σ H R=>tl σ H λ x H1=>∃a,x=.ref a/\(∃xs,SqL K H1 a xs)/\R (Itl K a) H1
def iTup (K:W.Frag) (tl:TE):TI:=λ σ H R=>tl σ H λ x H1=>∃a,x=.ref a/\(∃xs,SqT K H1 a xs)/\R (Itt K a) H1
theorem z8t {l:Expr}{tl:TE}(hl:PE X l tl):PI X tg l (iList X.K tl):=by
 intro pins s σ H R I h
 refine thn (hl pins s σ H _ I h) λ v s1 ⟨x,H1,I1,r1,q1⟩=>?_
 obtain ⟨a,e,⟨xs,hq⟩,q⟩:=q1
 subst e
 cases r1
 obtain ⟨its,rv,p,hz⟩:=I1.list hq
 refine wpAny_pyIter_list p.isList ?_
 refine ⟨s1.heap.objs.size,[s1.heap.objs.size],_,_,H1,rfl,I1.kept (t':=s1.toks) λ b o e=>Heap.get?_push_of_some _ e,y2i a _,⟨_,Heap.get?_push_size _ rfl,rfl,rfl⟩,λ b hb=>?_,q⟩
 have e:b=s1.heap.objs.size:=by simpa using hb
 subst e
 exact I1.fpOk (Nat.le_refl _) (I1.hok.fresh (Nat.le_refl _))
theorem z5u {l:Expr}{tl:TE}(hl:PE X l tl):PI X tg l (iTup X.K tl):=by
 intro pins s σ H R I h
 refine thn (hl pins s σ H _ I h) λ v s1 ⟨x,H1,I1,r1,q1⟩=>?_
 obtain ⟨a,e,⟨xs,hq⟩,q⟩:=q1
 subst e
 cases r1
 obtain ⟨its,rv,p,hz⟩:=I1.tuple hq
 refine wpAny_pyIter_tuple (show s1.heap.IsTuple a its.toArray from p) ?_
 refine ⟨s1.heap.objs.size,[s1.heap.objs.size],_,_,H1,rfl,I1.kept (t':=s1.toks) λ b o e=>Heap.get?_push_of_some _ e,y0x a _,⟨_,Heap.get?_push_size _ rfl,rfl,rfl⟩,λ b hb=>?_,q⟩
 have e:b=s1.heap.objs.size:=by simpa using hb
 subst e
 exact I1.fpOk (Nat.le_refl _) (I1.hok.fresh (Nat.le_refl _))
theorem z9x {pins:List (Addr × Obj)}{σ:St}{H:Hp}{s:Shared}{R:It->Hp->Prop}{E:Value->Shared->Prop}{lo hi:Int}{t u v:Tok}{tk:Nat}(I:Inv X pins σ H s) (h1:-(2 ^ 62)≤lo) (h2:lo < 2 ^ 62) (h3:-(2 ^ 62)≤hi) (h4:hi < 2 ^ 62)
  (q:R (Itr lo (hi - lo).toNat) H):wpAny (model X.prog X.w) X.A (pyIter (.ref s.heap.objs.size)) (PIE X pins σ tg R) E { s with heap:=s.heap.push { cls:=.type "range",data:=.fields #[.int lo t,.int hi u,.int 1 v] },toks:=tk }:=by
 refine wpAny_pyIter_range (IsRange.new ..) (small_one h1 h2 h3 h4) ?_
 have I1:Inv X pins σ H { s with heap:=s.heap.push { cls:=.type "range",data:=.fields #[.int lo t,.int hi u,.int 1 v] },toks:=tk }:=I.kept λ b o e=>Heap.get?_push_of_some _ e
 refine ⟨(s.heap.push { cls:=.type "range",data:=.fields #[.int lo t,.int hi u,.int 1 v] }).objs.size,[(s.heap.push { cls:=.type "range",data:=.fields #[.int lo t,.int hi u,.int 1 v] }).objs.size],_,_,H,rfl,
  I1.kept (t':=tk) λ b o e=>Heap.get?_push_of_some _ e,y0y _ lo (hi - lo).toNat,?_,λ b hb=>?_,q⟩
 ·have e1:lo+((0:Nat):Int) * 1=lo:=by simp
  have e2:(((hi - lo).toNat:Nat):Int) - ((0:Nat):Int)=Builtin.Range.rangeSize lo hi 1:=by rw [rangeSize_one];split<;>omega
  show IsRangeIter _ _ (lo+((0:Nat):Int) * 1) ((((hi - lo).toNat:Nat):Int) - ((0:Nat):Int)) 1
  rw [e1,e2]
  exact Heap.get?_push_size _ rfl
 ·have e:b=(s.heap.push { cls:=.type "range",data:=.fields #[.int lo t,.int hi u,.int 1 v] }).objs.size:=by simpa using hb
  subst e
  exact I1.fpOk (Nat.le_refl _) (I1.hok.fresh (Nat.le_refl _))
def iRng1 (ta:TA):TI:=λ σ H R=>ta σ H λ vs H1=>∃j:Int,vs=[.int j]/\-(2 ^ 62)≤j/\j < 2 ^ 62/\R (Itr 0 j.toNat) H1
def iRng2 (ta:TA):TI:=λ σ H R=>ta σ H λ vs H1=>∃i j:Int,vs=[.int i,.int j]/\(-(2 ^ 62)≤i/\i < 2 ^ 62/\-(2 ^ 62)≤j/\j < 2 ^ 62)/\R (Itr i (j - i).toNat) H1
theorem z2a {a:Expr}{ta:TA}{p pos:Pos}(hg:Gl X "range") (hm:X.mg "range" = none) (ha:PA X [a] ta) (hs:starEach [a] X.env=[(false,eval a X.env)]:=by rfl):PI X tg (.Call (.Name "range" p) [a] [] pos) (iRng1 ta):=by
 intro pins s σ H R I h
 refine Call_ (z5b I hg hm boot_range (PyProof.Rows.callWith_type1 (thn (ha pos pins s σ H _ I h) λ us s1 ⟨vs,H1,I1,r1,q1⟩=>?_) hs rfl))
 obtain ⟨j,e,q1,q2,q⟩:=q1
 subst e
 cases r1 with
 | cons r rr =>
  cases rr
  obtain ⟨t,rfl⟩:=r
  exact call_range_1 (z9x I1 (by omega) (by omega) q1 q2 (by simpa using q))
theorem y3p {a b:Expr}{ta:TA}{p pos:Pos}(hg:Gl X "range") (hm:X.mg "range" = none) (ha:PA X [a,b] ta) (hs:starEach [a,b] X.env=[(false,eval a X.env),(false,eval b X.env)]:=by rfl) (hs2:starEach [b] X.env=[(false,eval b X.env)]:=by rfl) :
  PI X tg (.Call (.Name "range" p) [a,b] [] pos) (iRng2 ta):=by
 intro pins s σ H R I h
 refine Call_ (z5b I hg hm boot_range (PyProof.Rows.callWith_type1 (thn (ha pos pins s σ H _ I h) λ us s1 ⟨vs,H1,I1,r1,q1⟩=>?_) (by rw [hs,hs2]) (by rw [hs2];rfl)))
 obtain ⟨i,j,e,⟨q1,q2,q3,q4⟩,q⟩:=q1
 subst e
 cases r1 with
 | cons r rr =>
  cases rr with
  | cons r' rr =>
   cases rr
   obtain ⟨t,rfl⟩:=r
   obtain ⟨t',rfl⟩:=r'
   exact call_range_2 (z9x I1 q1 q2 q3 q4 q)
def tFor (wi:TI) (g:TG) (tb:TS):TS:=λ D σ H=>wi σ H λ J H1=>∃W:Nat->Nat->St->Hp->Prop,(∃m,W 0 m σ H1)/\∀i m σ H,W i m σ H ->
 (J.stop i H/\D.nx σ H)\/(J.go i H/\∃N:St->Hp->Prop,(∀σ' H',N σ' H'->∃m',m' < m/\W (i+1) m' σ' H')/\∀x H',J.yld i H x H'->g x σ H' λ σ2 H2=>tb { D with nx:=N,ct:=N,bk:=D.nx } σ2 H2)
def pinsAt (fp:List Addr) (h:Heap):List (Addr × Obj):=fp.filterMap λ b=>(h.get? b).map λ o=>(b,o)
theorem z3l {fp:List Addr}{h:Heap}{b:Addr}{o:Obj}(hb:b∈fp) (e:h.get? b=some o):(b,o)∈pinsAt fp h:=List.mem_filterMap.mpr ⟨b,hb,by rw [e];rfl⟩
theorem y4r {fp:List Addr}{h:Heap}{p:Addr × Obj}(hp:p∈pinsAt fp h):p.1∈fp/\h.get? p.1=some p.2:=by
 obtain ⟨b,hb,e⟩:=List.mem_filterMap.mp hp
 cases q:h.get? b with
 | none=>rw [q] at e;cases e
 | some o =>
  rw [q] at e
  have e':(b,o)=p:=Option.some.inj e
  subst e'
  exact ⟨hb,q⟩
theorem Inv.pinned {pins:List (Addr × Obj)}{σ:St}{H:Hp}{s:Shared}{fp:List Addr}(I:Inv X pins σ H s) (hf:∀b∈fp,FpOk X pins H b) (ho:∀b∈fp,∃o,s.heap.get? b=some o/\∀v,o.data≠.cell v):Inv X (pins++pinsAt fp s.heap) σ H s :=
 I.pins_of λ p hp=>(List.mem_append.mp hp).elim (λ z=>I.pin p (List.mem_append_right _ z)) λ z=>by
  obtain ⟨hb,e⟩:=y4r z
  obtain ⟨f0,f1,f2,_⟩:=hf p.1 hb
  obtain ⟨o,e',d⟩:=ho p.1 hb
  rw [e] at e';cases e'
  exact ⟨e,f0,f1,f2,d⟩
theorem Inv.unpinned {pins pl:List (Addr × Obj)}{σ:St}{H:Hp}{s:Shared}(I:Inv X (pins++pl) σ H s):Inv X pins σ H s:=I.pins_of λ p hp=>I.pin p (List.mem_append_right _ (List.mem_append_left _ hp))
theorem z4m {iter:Expr}{body:List Stmt}{wi:TI}{g:TG}{tb:TS}{pos:Pos}(hp:PassesOwn (model X.prog X.w) X.A X.env X.xe) (hc:X.calm=true) (hi:PI X tg iter wi) (hg:PG X tg g) (hb:PSs X body tb)
  (hs:∀x,foldedSetIterable iter X.env x=pure x:=by intro _;rfl):PS X (.For tg iter body [] pos) (tFor wi g tb):=by
 intro pins s σ H D I h
 refine wpAny_For (thn (hi pins s σ H _ I h) λ v s1 h1=>thn h1 λ itv s2 h2=>?_) hs
 obtain ⟨it,fp,tn,J,H2,e,I2,T,st2,f2,W,⟨m0,w0⟩,turn⟩:=h2
 subst e
 have stat:∀ {H':Hp},(∀b∈fp,H' b=none)->∀b∈fp,FpOk X pins H' b:=λ hn b hb=>⟨hn b hb,(f2 b hb).2⟩
 refine codeAny_forLoop_any (λ n s'=>∃i σ' H',Inv X pins σ' H' s'/\tn i s'.heap/\(∀b∈fp,H' b=none)/\W i n σ' H') ?_ m0 ⟨0,σ,H2,I2,st2,λ b hb=>(f2 b hb).1,w0⟩
 rintro n s3 ⟨i,σ3,H3,I3,st3,fr3,w3⟩
 rcases turn i n σ3 H3 w3 with ⟨stop,qn⟩ | ⟨go,N,hN,step⟩
 ·refine wpAny_passesOwn hp (thn (T.done X rfl rfl rfl hc i pins s3 σ3 H3 X.xe I3 (stat fr3) st3 stop) λ r s4 ⟨hr,I4⟩=>?_)
  subst hr
  exact wpAny_execs_nil ⟨σ3,H3,I4,qn⟩
 ·refine wpAny_passesOwn hp (thn (T.item X rfl rfl rfl hc i pins s3 σ3 H3 X.xe I3 (stat fr3) st3 go) λ r s4 ⟨u,hr,h4⟩=>?_)
  subst hr
  refine wpAny_passesOwn hp (thn h4 λ _ s5 ⟨x,H5,I5,r5,y5,st5,fr5⟩=>?_)
  have I5':=I5.pinned (stat fr5) (T.obj _ _ st5)
  refine wpAny_passesOwn hp (thn (hg _ s5 σ3 H5 x u _ I5' r5 (step x H5 y5)) λ _ s6 ⟨σ6,H6,I6,q6⟩=>?_)
  refine wpAny_passesOwn hp (thn (hb _ s6 σ6 H6 _ I6 q6) λ f s7 q7=>?_)
  have again:∀ {σ7:St}{H7:Hp},Inv X (pins++pinsAt fp s5.heap) σ7 H7 s7->N σ7 H7->∃m,m < n/\∃i σ' H',Inv X pins σ' H' s7/\tn i s7.heap/\(∀b∈fp,H' b=none)/\W i m σ' H':=λ {σ7 H7} I7 n7=>by
   obtain ⟨m',hm,w7⟩:=hN σ7 H7 n7
   refine ⟨m',hm,i+1,σ7,H7,I7.unpinned,T.keep _ _ _ st5 λ b hb o e=>(I7.pin (b,o) (List.mem_append_right _ (List.mem_append_right _ (z3l hb e)))).1,λ b hb=>?_,w7⟩
   obtain ⟨o,e,d⟩:=T.obj _ _ st5 b hb
   exact (I7.pin (b,o) (List.mem_append_right _ (List.mem_append_right _ (z3l hb e)))).2.1
  cases f with
  | next=>obtain ⟨σ7,H7,I7,n7⟩:=q7;exact again I7 n7
  | cont=>obtain ⟨σ7,H7,I7,n7⟩:=q7;exact again I7 n7
  | brk=>obtain ⟨σ7,H7,I7,q7⟩:=q7;exact ⟨σ7,H7,I7.unpinned,q7⟩
  | ret v=>obtain ⟨x7,σ7,H7,I7,r7,q7⟩:=q7;exact ⟨x7,σ7,H7,I7.unpinned,r7,q7⟩
end
theorem y8z {K:PySem.W.Frag}{a:Addr}{xs:List V}{g:TG}{tb:TS}{D:Ends}{σ:St}{H:Hp}(Pv:Nat->St->Hp->Prop) (h0:Pv 0 σ H) (hl:∀i σ H,i≤xs.length->Pv i σ H->SqL K H a xs)
  (hs:∀i x σ H,xs[i]?=some x->Pv i σ H->g x σ H λ σ2 H2=>tb { D with nx:=Pv (i+1),ct:=Pv (i+1),bk:=D.nx } σ2 H2) (hd:∀σ H,Pv xs.length σ H->D.nx σ H) :
  ∃W:Nat->Nat->St->Hp->Prop,(∃m,W 0 m σ H)/\∀i m σ H,W i m σ H ->
   ((Itl K a).stop i H/\D.nx σ H)\/((Itl K a).go i H/\∃N:St->Hp->Prop,(∀σ' H',N σ' H'->∃m',m' < m/\W (i+1) m' σ' H')/\∀x H',(Itl K a).yld i H x H'->g x σ H' λ σ2 H2=>tb { D with nx:=N,ct:=N,bk:=D.nx } σ2 H2):=by
 refine ⟨λ i m σ H=>m=xs.length - i/\i≤xs.length/\Pv i σ H,⟨xs.length,by simp,Nat.zero_le _,h0⟩,?_⟩
 rintro i m σ H ⟨rfl,hi,p⟩
 have q:=hl i σ H hi p
 by_cases hlt:i < xs.length
 ·refine .inr ⟨⟨xs,xs[i],q,by simp [hlt]⟩,Pv (i+1),λ σ' H' p'=>⟨xs.length - (i+1),by omega,rfl,hlt,p'⟩,λ x H' y=>?_⟩
  obtain ⟨e,y⟩:=y
  subst e
  exact hs i x σ _ (y xs q) p
 ·have e:i=xs.length:=by omega
  subst e
  exact .inl ⟨⟨xs,q,Nat.le_refl _⟩,hd σ H p⟩
theorem x1j {K:PySem.W.Frag}{a:Addr}{xs:List V}{g:TG}{tb:TS}{D:Ends}{σ:St}{H:Hp}(Pv:Nat->St->Hp->Prop) (h0:Pv 0 σ H) (hl:∀i σ H,i≤xs.length->Pv i σ H->SqT K H a xs)
  (hs:∀i x σ H,xs[i]?=some x->Pv i σ H->g x σ H λ σ2 H2=>tb { D with nx:=Pv (i+1),ct:=Pv (i+1),bk:=D.nx } σ2 H2) (hd:∀σ H,Pv xs.length σ H->D.nx σ H) :
  ∃W:Nat->Nat->St->Hp->Prop,(∃m,W 0 m σ H)/\∀i m σ H,W i m σ H ->
   ((Itt K a).stop i H/\D.nx σ H)\/((Itt K a).go i H/\∃N:St->Hp->Prop,(∀σ' H',N σ' H'->∃m',m' < m/\W (i+1) m' σ' H')/\∀x H',(Itt K a).yld i H x H'->g x σ H' λ σ2 H2=>tb { D with nx:=N,ct:=N,bk:=D.nx } σ2 H2):=by
 refine ⟨λ i m σ H=>m=xs.length - i/\i≤xs.length/\Pv i σ H,⟨xs.length,by simp,Nat.zero_le _,h0⟩,?_⟩
 rintro i m σ H ⟨rfl,hi,p⟩
 have q:=hl i σ H hi p
 by_cases hlt:i < xs.length
 ·refine .inr ⟨⟨xs,xs[i],q,by simp [hlt]⟩,Pv (i+1),λ σ' H' p'=>⟨xs.length - (i+1),by omega,rfl,hlt,p'⟩,λ x H' y=>?_⟩
  obtain ⟨e,y⟩:=y
  subst e
  exact hs i x σ _ (y xs q) p
 ·have e:i=xs.length:=by omega
  subst e
  exact .inl ⟨⟨xs,q,Nat.le_refl _⟩,hd σ H p⟩
theorem y5s {lo:Int}{n:Nat}{g:TG}{tb:TS}{D:Ends}{σ:St}{H:Hp}(Pv:Nat->St->Hp->Prop) (h0:Pv 0 σ H)
  (hs:∀i σ H,i < n->Pv i σ H->g (.int (lo+i)) σ H λ σ2 H2=>tb { D with nx:=Pv (i+1),ct:=Pv (i+1),bk:=D.nx } σ2 H2) (hd:∀σ H,Pv n σ H->D.nx σ H) :
  ∃W:Nat->Nat->St->Hp->Prop,(∃m,W 0 m σ H)/\∀i m σ H,W i m σ H ->
   ((Itr lo n).stop i H/\D.nx σ H)\/((Itr lo n).go i H/\∃N:St->Hp->Prop,(∀σ' H',N σ' H'->∃m',m' < m/\W (i+1) m' σ' H')/\∀x H',(Itr lo n).yld i H x H'->g x σ H' λ σ2 H2=>tb { D with nx:=N,ct:=N,bk:=D.nx } σ2 H2):=by
 refine ⟨λ i m σ H=>m=n - i/\i≤n/\Pv i σ H,⟨n,by simp,Nat.zero_le _,h0⟩,?_⟩
 rintro i m σ H ⟨rfl,hi,p⟩
 by_cases hlt:i < n
 ·refine .inr ⟨hlt,Pv (i+1),λ σ' H' p'=>⟨n - (i+1),by omega,rfl,hlt,p'⟩,λ x H' y=>?_⟩
  obtain ⟨e,y⟩:=y
  subst e y
  exact hs i σ _ hlt p
 ·have e:i=n:=by omega
  subst e
  exact .inl ⟨Nat.le_refl _,hd σ H p⟩
abbrev R2:=V->V->Hp->VK->Prop
def OpR (X:Cx) (f:Value->Value->Sem Value) (r:R2):Prop :=
 ∀(pins:List (Addr × Obj)) (s:Shared) (σ:St) (H:Hp) (x y:V) (v u:Value) (Q:VK),Inv X pins σ H s->RelV x v->RelV y u->r x y H Q ->
  wpAny (model X.prog X.w) X.A (f v u) (EP X pins σ Q) X.xe s
def UnR (X:Cx) (f:Value->Sem Value) (r:V->Hp->VK->Prop):Prop :=
 ∀(pins:List (Addr × Obj)) (s:Shared) (σ:St) (H:Hp) (x:V) (v:Value) (Q:VK),Inv X pins σ H s->RelV x v->r x H Q ->
  wpAny (model X.prog X.w) X.A (f v) (EP X pins σ Q) X.xe s
def CallR (X:Cx) (f:Value) (r:List V->Hp->VK->Prop):Prop :=
 ∀(pins:List (Addr × Obj)) (s:Shared) (σ:St) (H:Hp) (xs:List V) (us:List Value) (Q:VK),Inv X pins σ H s->Vals xs us->r xs H Q ->
  wpAny (model X.prog X.w) X.A (call f us) (EP X pins σ Q) X.xe s
def tOp (r:R2) (ta tb:TE):TE:=λ σ H Q=>ta σ H λ x H1=>tb σ H1 λ y H2=>r x y H2 Q
def tUn (r:V->Hp->VK->Prop) (ta:TE):TE:=λ σ H Q=>ta σ H λ x H1=>r x H1 Q
def rI (C:Int->Int->Prop) (g:Int->Int->V):R2:=λ x y H Q=>∃i j,x=.int i/\y=.int j/\C i j/\Q (g i j) H
def rI0 (g:Int->Int->V):R2:=λ x y H Q=>∃i j,x=.int i/\y=.int j/\Q (g i j) H
def rU (g:Int->V):V->Hp->VK->Prop:=λ x H Q=>∃i,x=.int i/\Q (g i) H
section
variable {X:Cx}{a b c:Expr}{ta tb tc:TE}{pos:Pos}
theorem x4o (ha:PE X a ta) (hb:PE X b tb) {pins:List (Addr × Obj)}{s:Shared}{σ:St}{H:Hp}{R:V->V->Hp->Prop}(I:Inv X pins σ H s)
  (h:ta σ H λ x H1=>tb σ H1 λ y H2=>R x y H2) {Q:Value->Shared->Prop}{f:Value->Value->Sem Value}
  (hf:∀v u s2 x y H2,Inv X pins σ H2 s2->RelV x v->RelV y u->R x y H2->wpAny (model X.prog X.w) X.A (f v u) Q X.xe s2) :
  wpAny (model X.prog X.w) X.A (eval a X.env) (λ v s₁=>wpAny (model X.prog X.w) X.A (eval b X.env) (λ u s₂=>wpAny (model X.prog X.w) X.A (f v u) Q X.xe s₂) X.xe s₁) X.xe s:=by
 refine thn (ha pins s σ H _ I h) λ v s1 ⟨x,H1,I1,r1,q1⟩=>?_
 refine thn (hb pins s1 σ H1 _ I1 q1) λ u s2 ⟨y,H2,I2,r2,q2⟩=>?_
 exact hf v u s2 x y H2 I2 r1 r2 q2
theorem z0w {op:Operator}{r:R2}(ho:OpR X (binaryOp op) r) (ha:PE X a ta) (hb:PE X b tb):PE X (.BinOp a op b pos) (tOp r ta tb):=by
 intro pins s σ H Q I h
 exact wpAny_BinOp (x4o ha hb I h λ v u s2 x y H2 I2 rx ry q=>ho pins s2 σ H2 x y v u Q I2 rx ry q)
theorem y3t {op:UnaryOp}{r:V->Hp->VK->Prop}(ho:UnR X (unaryOp op) r) (ha:PE X a ta):PE X (.UnaryOp op a pos) (tUn r ta):=by
 intro pins s σ H Q I h
 exact UnaryOp_ (thn (ha pins s σ H _ I h) λ v s1 ⟨x,H1,I1,r1,q1⟩=>ho pins s1 σ H1 x v Q I1 r1 q1)
theorem opI {f:Value->Value->Sem Value}{C:Int->Int->Prop}{g:Int->Int->Int}
  (rule:∀(i j:Int) (t u:Tok) (s:Shared) (Q:Value->Shared->Prop) (E:Value->Shared->Prop),C i j->Q (.int (g i j) s.toks) { s with toks:=s.toks+1 }->wpAny (model X.prog X.w) X.A (f (.int i t) (.int j u)) Q E s) :
  OpR X f (rI C λ i j=>.int (g i j)):=by
 intro pins s σ H x y v u Q I rx ry h
 obtain ⟨i,j,rfl,rfl,hc,q⟩:=h
 obtain ⟨t,rfl⟩:=rx
 obtain ⟨t',rfl⟩:=ry
 exact rule i j t t' s _ _ hc ⟨.int (g i j),H,I.tok _,⟨_,rfl⟩,q⟩
theorem x5d {f:Value->Value->Sem Value}{g:Int->Int->Int}
  (rule:∀(i j:Int) (t u:Tok) (s:Shared) (Q:Value->Shared->Prop) (E:Value->Shared->Prop),Q (.int (g i j) s.toks) { s with toks:=s.toks+1 }->wpAny (model X.prog X.w) X.A (f (.int i t) (.int j u)) Q E s) :
  OpR X f (rI0 λ i j=>.int (g i j)):=by
 intro pins s σ H x y v u Q I rx ry h
 obtain ⟨i,j,rfl,rfl,q⟩:=h
 obtain ⟨t,rfl⟩:=rx
 obtain ⟨t',rfl⟩:=ry
 exact rule i j t t' s _ _ ⟨.int (g i j),H,I.tok _,⟨_,rfl⟩,q⟩
theorem x4r {f:Value->Value->Sem Value}{g:Int->Int->Bool}
  (rule:∀(i j:Int) (t u:Tok) (s:Shared) (Q:Value->Shared->Prop) (E:Value->Shared->Prop),Q (.bool (g i j)) s->wpAny (model X.prog X.w) X.A (f (.int i t) (.int j u)) Q E s) :
  OpR X f (rI0 λ i j=>.bl (g i j)):=by
 intro pins s σ H x y v u Q I rx ry h
 obtain ⟨i,j,rfl,rfl,q⟩:=h
 obtain ⟨t,rfl⟩:=rx
 obtain ⟨t',rfl⟩:=ry
 exact rule i j t t' s _ _ ⟨.bl (g i j),H,I,rfl,q⟩
def CDiv (i j:Int):Prop:=0 < j/\j < 1073741824
def CDivN (i j:Int):Prop:=j≠0/\j.natAbs < 1073741824
def CPow (i j:Int):Prop:=0≤j/\j≤1000000/\i.natAbs < 2 ^ 64
def CMul (i j:Int):Prop:=(-(2 ^ 64) < i/\i < 2 ^ 64)\/(-(2 ^ 64) < j/\j < 2 ^ 64)
theorem CMul.ok {i j:Int}(h:CMul i j):IntMulOk i j:=by
 rcases h with ⟨h1,h2⟩ | ⟨h1,h2⟩
 ·exact .of_left (intBits_le_64 h1 h2)
 ·exact .of_right (intBits_le_64 h1 h2)
theorem z1m:OpR X (binaryOp .Add) (rI0 λ i j=>.int (i+j)):=x5d λ _ _ _ _ _ _ _ q=>add_int q
theorem z4y:OpR X (binaryOp .Sub) (rI0 λ i j=>.int (i - j)):=x5d λ _ _ _ _ _ _ _ q=>sub_int q
theorem z3t:OpR X (binaryOp .Mult) (rI CMul λ i j=>.int (i * j)):=opI λ _ _ _ _ _ _ _ hc q=>mul_int q hc.ok
theorem z8z:OpR X (binaryOp .FloorDiv) (rI CDiv λ i j=>.int (i / j)):=opI λ i j _ _ _ _ _ hc q=>by
 have h1:(0:Int) < j:=hc.1
 have h2:j < 1073741824:=hc.2
 exact floordiv_int (by omega) (by rw [Int.fdiv_eq_ediv_of_nonneg i (by omega)];exact q) (.inl (PyProof.noPylong_small (by omega)))
theorem z3e:OpR X (binaryOp .Mod) (rI (λ _ j=>0 < j) λ i j=>.int (i % j)):=opI λ i j _ _ _ _ _ hc q=>by
 have h1:(0:Int) < j:=hc
 exact mod_int' (by omega) (by rw [Int.fmod_eq_emod_of_nonneg i (by omega)];exact q)
theorem y0e:OpR X (binaryOp .Pow) (rI CPow λ i j=>.int (i ^ j.toNat)):=opI λ _ _ _ _ _ _ _ hc q=>pow_int_small hc.1 hc.2.1 hc.2.2 q
theorem unI {f:Value->Sem Value}{g:Int->Int}
  (rule:∀(i:Int) (t:Tok) (s:Shared) (Q:Value->Shared->Prop) (E:Value->Shared->Prop),Q (.int (g i) s.toks) { s with toks:=s.toks+1 }->wpAny (model X.prog X.w) X.A (f (.int i t)) Q E s) :
  UnR X f (rU λ i=>.int (g i)):=by
 intro pins s σ H x v Q I rx h
 obtain ⟨i,rfl,q⟩:=h
 obtain ⟨t,rfl⟩:=rx
 exact rule i t s _ _ ⟨.int (g i),H,I.tok _,⟨_,rfl⟩,q⟩
theorem z6v:UnR X (unaryOp .USub) (rU λ i=>.int (-i)):=unI λ _ _ _ _ _ q=>neg_int q
end
def scal:V->V->Bool
 | .non,.non=>true | .non,.int _=>true | .int _,.non=>true | .non,.bl _=>true | .bl _,.non=>true | .non,.str _=>true | .str _,.non=>true
 | .int _,.int _=>true | .bl _,.bl _=>true | .str _,.str _=>true | .byt _,.byt _=>true
 | .int _,.str _=>true | .str _,.int _=>true | .bl _,.str _=>true | .str _,.bl _=>true
 | _,_=>false
def rEq:R2:=λ x y H Q=>scal x y=true/\Q (.bl (decide (x=y))) H
def rNe:R2:=λ x y H Q=>scal x y=true/\Q (.bl (!decide (x=y))) H
theorem y5x {i j:Int}:decide (V.int i=V.int j)=(i == j):=by
 rw [Bool.eq_iff_iff]
 simp
theorem x0i {i j:Bool}:decide (V.bl i=V.bl j)=(i == j):=by
 rw [Bool.eq_iff_iff]
 simp
theorem y5w {i j:Str}:decide (V.str i=V.str j)=(i == j):=by
 rw [Bool.eq_iff_iff]
 simp
theorem y5y {i j:Array UInt8}:decide (V.byt i=V.byt j)=(i.toList == j.toList):=by
 rw [Bool.eq_iff_iff]
 cases i
 cases j
 simp
section
variable {X:Cx}{a b c:Expr}{ta tb tc:TE}{pos:Pos}
theorem z1g {pins:List (Addr × Obj)}{σ:St}{H:Hp}{s:Shared}{Q:VK}{k k':Bool}(I:Inv X pins σ H s) (q:Q (.bl k) H) (e:k=k'):EP X pins σ Q (.bool k') s:=by
 subst e
 exact ⟨.bl k,H,I,rfl,q⟩
theorem z1i:OpR X (compareOp .Eq) rEq:=by
 intro pins s σ H x y v u Q I rx ry h
 obtain ⟨hs,q⟩:=h
 cases x with
 | non =>
  cases rx
  cases y with
  | non=>cases ry;exact PySem.EqNone.eq_none_none (z1g I q (by simp))
  | bl j=>cases ry;exact PySem.EqNone.eq_none_bool (z1g I q (by simp))
  | int j=>obtain ⟨t',rfl⟩:=ry;exact PySem.EqNone.eq_none_int (z1g I q (by simp))
  | str j=>obtain ⟨t',rfl⟩:=ry;exact PySem.EqNone.eq_none_str (z1g I q (by simp))
  | _=>exact absurd (show false=true from hs) Bool.false_ne_true
 | bl i =>
  cases rx
  cases y with
  | non=>cases ry;exact PySem.EqNone.eq_bool_none (z1g I q (by simp))
  | bl j=>cases ry;exact eq_bool (z1g I q x0i)
  | str j=>obtain ⟨t',rfl⟩:=ry;exact PySem.EqMixed.eq_bool_str (z1g I q (by simp))
  | _=>exact absurd (show false=true from hs) Bool.false_ne_true
 | int i =>
  obtain ⟨t,rfl⟩:=rx
  cases y with
  | non=>cases ry;exact PySem.EqNone.eq_int_none (z1g I q (by simp))
  | int j=>obtain ⟨t',rfl⟩:=ry;exact eq_int (z1g I q y5x)
  | str j=>obtain ⟨t',rfl⟩:=ry;exact PySem.EqMixed.eq_int_str (z1g I q (by simp))
  | _=>exact absurd (show false=true from hs) Bool.false_ne_true
 | str i =>
  obtain ⟨t,rfl⟩:=rx
  cases y with
  | non=>cases ry;exact PySem.EqNone.eq_str_none (z1g I q (by simp))
  | bl j=>cases ry;exact PySem.EqMixed.eq_str_bool (z1g I q (by simp))
  | int j=>obtain ⟨t',rfl⟩:=ry;exact PySem.EqMixed.eq_str_int (z1g I q (by simp))
  | str j=>obtain ⟨t',rfl⟩:=ry;exact eq_str (z1g I q y5w)
  | _=>exact absurd (show false=true from hs) Bool.false_ne_true
 | byt i =>
  obtain ⟨t,rfl⟩:=rx
  cases y with
  | byt j=>obtain ⟨t',rfl⟩:=ry;exact W.eq_bytes (z1g I q y5y)
  | _=>exact absurd (show false=true from hs) Bool.false_ne_true
 | _=>cases y<;>exact absurd (show false=true from hs) Bool.false_ne_true
theorem y8c:OpR X (compareOp .NotEq) rNe:=by
 intro pins s σ H x y v u Q I rx ry h
 obtain ⟨hs,q⟩:=h
 cases x with
 | non =>
  cases rx
  cases y with
  | non=>cases ry;exact PySem.EqNone.ne_none_none (z1g I q (by simp))
  | bl j=>cases ry;exact PySem.EqNone.ne_none_bool (z1g I q (by simp))
  | int j=>obtain ⟨t',rfl⟩:=ry;exact PySem.EqNone.ne_none_int (z1g I q (by simp))
  | str j=>obtain ⟨t',rfl⟩:=ry;exact PySem.EqNone.ne_none_str (z1g I q (by simp))
  | _=>exact absurd (show false=true from hs) Bool.false_ne_true
 | bl i =>
  cases rx
  cases y with
  | non=>cases ry;exact PySem.EqNone.ne_bool_none (z1g I q (by simp))
  | bl j=>cases ry;exact ne_bool (z1g I q (congrArg not x0i))
  | str j=>obtain ⟨t',rfl⟩:=ry;exact PySem.EqMixed.ne_bool_str (z1g I q (by simp))
  | _=>exact absurd (show false=true from hs) Bool.false_ne_true
 | int i =>
  obtain ⟨t,rfl⟩:=rx
  cases y with
  | non=>cases ry;exact PySem.EqNone.ne_int_none (z1g I q (by simp))
  | int j=>obtain ⟨t',rfl⟩:=ry;exact ne_int (z1g I q (congrArg not y5x))
  | str j=>obtain ⟨t',rfl⟩:=ry;exact PySem.EqMixed.ne_int_str (z1g I q (by simp))
  | _=>exact absurd (show false=true from hs) Bool.false_ne_true
 | str i =>
  obtain ⟨t,rfl⟩:=rx
  cases y with
  | non=>cases ry;exact PySem.EqNone.ne_str_none (z1g I q (by simp))
  | bl j=>cases ry;exact PySem.EqMixed.ne_str_bool (z1g I q (by simp))
  | int j=>obtain ⟨t',rfl⟩:=ry;exact PySem.EqMixed.ne_str_int (z1g I q (by simp))
  | str j=>obtain ⟨t',rfl⟩:=ry;exact ne_str (z1g I q (congrArg not y5w))
  | _=>exact absurd (show false=true from hs) Bool.false_ne_true
 | byt i =>
  obtain ⟨t,rfl⟩:=rx
  cases y with
  | byt j=>obtain ⟨t',rfl⟩:=ry;exact W.ne_bytes (z1g I q (congrArg not y5y))
  | _=>exact absurd (show false=true from hs) Bool.false_ne_true
 | _=>cases y<;>exact absurd (show false=true from hs) Bool.false_ne_true
theorem z8y:OpR X (compareOp .Lt) (rI0 λ i j=>.bl (decide (i < j))):=x4r λ _ _ _ _ _ _ _ q=>lt_int q
theorem y1j:OpR X (compareOp .LtE) (rI0 λ i j=>.bl (decide (i≤j))):=x4r λ _ _ _ _ _ _ _ q=>le_int q
theorem y1k:OpR X (compareOp .Gt) (rI0 λ i j=>.bl (decide (j < i))):=x4r λ _ _ _ _ _ _ _ q=>gt_int q
theorem y4a:OpR X (compareOp .In) (λ x y H Q=>∃i j,x=.str i/\y=.str j/\Q (.bl (!(Builtin.Str.occurrences j i 0 j.length 1).isEmpty)) H):=by
 intro pins s σ H x y v u Q I rx ry h
 obtain ⟨i,j,rfl,rfl,q⟩:=h
 obtain ⟨t,rfl⟩:=rx
 obtain ⟨t',rfl⟩:=ry
 exact in_str (z1g I q rfl)
theorem y0f:OpR X (compareOp .Is) (λ x y H Q=>y=.non/\Q (.bl (decide (x=.non))) H):=by
 intro pins s σ H x y v u Q I rx ry h
 obtain ⟨rfl,q⟩:=h
 cases ry
 refine is_none_gen (z1g I q ?_)
 cases x<;>first
  | (cases rx;rfl)
  | (obtain ⟨t,rfl⟩:=rx;rfl)
theorem z0q (b:Expr) {op:CmpOp}(h:op≠.In:=by decide) (h2:op≠.NotIn:=by decide):behindInMarks op b=false:=by
 have e1:(op == CmpOp.In)=false:=by cases op<;>first | rfl | exact absurd rfl h
 have e2:(op == CmpOp.NotIn)=false:=by cases op<;>first | rfl | exact absurd rfl h2
 cases b<;>simp [behindInMarks,e1,e2]
theorem z6h {op:CmpOp}{r:R2}(ho:OpR X (compareOp op) r) (ha:PE X a ta) (hb:PE X b tb) (hm:behindInMarks op b=false):PE X (.Compare a [op] [b] pos) (tOp r ta tb):=by
 intro pins s σ H Q I h
 exact wpAny_Compare1 (x4o ha hb I h λ v u s2 x y H2 I2 rx ry q=>ho pins s2 σ H2 x y v u Q I2 rx ry q) hm
def tTest (t:TE):TT:=λ σ H Q=>t σ H λ x H'=>∃k,x=.bl k/\Q k H'
theorem z0j {op:CmpOp}{r:R2}(ho:OpR X (compareOp op) r) (ha:PE X a ta) (hb:PE X b tb) (hm:behindInMarks op b=false):PT X (.Compare a [op] [b] pos) (tTest (tOp r ta tb)):=by
 intro pins s σ H Q I h
 refine wpAny_isTrue_Compare1 (thn (ha pins s σ H _ I h) λ v s1 ⟨x,H1,I1,r1,q1⟩=>thn (hb pins s1 σ H1 _ I1 q1) λ u s2 ⟨y,H2,I2,r2,q2⟩ =>
  thn (ho pins s2 σ H2 x y v u _ I2 r1 r2 q2) λ c s3 ⟨z,H3,I3,r3,k,e,q3⟩=>?_) hm
 subst e
 cases r3
 exact wpAny_truthy_bool ⟨H3,I3,q3⟩
def tChain (r r':R2) (ta tb tc:TE):TE:=λ σ H Q=>ta σ H λ x H1=>tb σ H1 λ y H2=>r x y H2 λ z H3=>∃k,z=.bl k /\
 (if k=true then tc σ H3 λ w' H4=>r' y w' H4 Q else Q (.bl false) H3)
theorem y8a {op op':CmpOp}{r r':R2}(ho:OpR X (compareOp op) r) (ho':OpR X (compareOp op') r') (ha:PE X a ta) (hb:PE X b tb) (hc:PE X c tc)
  (hm:lastMarks [op,op'] [b,c]=false:=by with_unfolding_all rfl):PE X (.Compare a [op,op'] [b,c] pos) (tChain r r' ta tb tc):=by
 intro pins s σ H Q I h
 refine Compare_chain (thn (ha pins s σ H _ I h) λ v s1 ⟨x,H1,I1,r1,q1⟩=>chain_link (thn (hb pins s1 σ H1 _ I1 q1) λ u s2 ⟨y,H2,I2,r2,q2⟩ =>
  thn (ho pins s2 σ H2 x y v u _ I2 r1 r2 q2) λ d s3 ⟨z,H3,I3,r3,k,e,q3⟩=>?_)) hm
 subst e
 cases r3
 refine wpAny_truthy_bool ?_
 cases k with
 | false=>exact ite_ff ⟨.bl false,H3,I3,rfl,q3⟩
 | true=>exact ite_tt (chain_last (thn (hc pins s3 σ H3 _ I3 q3) λ w' s4 ⟨z',H4,I4,r4,q4⟩=>ho' pins s4 σ H4 y z' u w' Q I4 r2 r4 q4))
theorem z9z {op op':CmpOp}{r r':R2}(ho:OpR X (compareOp op) r) (ho':OpR X (compareOp op') r') (ha:PE X a ta) (hb:PE X b tb) (hc:PE X c tc)
  (hm:lastMarks [op,op'] [b,c]=false:=by with_unfolding_all rfl):PT X (.Compare a [op,op'] [b,c] pos) (tTest (tChain r r' ta tb tc)):=by
 intro pins s σ H Q I h
 refine isTrue_chain (thn (ha pins s σ H _ I h) λ v s1 ⟨x,H1,I1,r1,q1⟩=>test_link (thn (hb pins s1 σ H1 _ I1 q1) λ u s2 ⟨y,H2,I2,r2,q2⟩ =>
  thn (ho pins s2 σ H2 x y v u _ I2 r1 r2 q2) λ d s3 ⟨z,H3,I3,r3,k,e,q3⟩=>?_)) hm
 subst e
 cases r3
 refine wpAny_truthy_bool ?_
 cases k with
 | false =>
  obtain ⟨k',e',q'⟩:=q3
  cases e'
  exact ite_ff ⟨H3,I3,q'⟩
 | true =>
  refine ite_tt (test_last (thn (hc pins s3 σ H3 _ I3 q3) λ w' s4 ⟨z',H4,I4,r4,q4⟩=>thn (ho' pins s4 σ H4 y z' u w' _ I4 r2 r4 q4) λ d' s5 ⟨z2,H5,I5,r5,k2,e2,q5⟩=>?_))
  subst e2
  cases r5
  exact wpAny_truthy_bool ⟨H5,I5,q5⟩
theorem z7q:(sizeLine:Nat) < 2 ^ 63:=by rw [sizeLine_eq];decide
theorem z1p:OpR X (binaryOp .Add) (λ x y H Q=>∃i j,x=.str i/\y=.str j/\i.length+j.length≤sizeLine/\Q (.str (i++j)) H):=by
 intro pins s σ H x y v u Q I rx ry h
 obtain ⟨i,j,rfl,rfl,hz,q⟩:=h
 obtain ⟨t,rfl⟩:=rx
 obtain ⟨t',rfl⟩:=ry
 exact add_str (λ t' tk=>⟨.str (i++j),H,I.tok _,⟨_,rfl⟩,q⟩) hz
def PlainIxT (b:Expr):Prop:=∀o i,subscripted b false o i=operate [o,i] (getItem o i)
theorem z1h (ha:PE X a ta) (hb:PE X b tb) (hs:PlainIxT b) :
  PE X (.Subscript a b pos) (tOp (λ x y H Q=>∃z i c,x=.str z/\y=.int i/\0≤i/\i < 2 ^ 63/\i < z.length/\z.cps[i.toNat]?=some c/\Q (.str ⟨#[c]⟩) H) ta tb):=by
 intro pins s σ H Q I h
 refine Subscript_ (x4o ha hb I h λ v u s2 x y H2 I2 rx ry q=>?_)
 obtain ⟨z,i,c,rfl,rfl,h0,h63,h1,hc,q⟩:=q
 obtain ⟨t,rfl⟩:=rx
 obtain ⟨t',rfl⟩:=ry
 have e:seqIndex? i z.length=some i.toNat:=PySem.StrLaws.seqIndex_nonneg h0 h1
 exact tail_any (typeIs_str s2 z t) slot_str_getitem.lookup (getItem_str (c:=c) (by
  have e1:decide (i < -(2 ^ 63:Int))=false:=decide_eq_false (by omega)
  have e2:decide (i ≥ 2 ^ 63)=false:=decide_eq_false (by omega)
  rw [e1,e2]<;>rfl) (by rw [e];exact hc) ⟨.str ⟨#[c]⟩,H2,I2.tok _,⟨_,rfl⟩,q⟩) (hs _ _)
theorem z3a {x:V}{us:List Value}(r:Vals [x] us):∃u,us=[u]/\RelV x u:=by
 cases r with
 | cons r1 r2=>cases r2;exact ⟨_,rfl,r1⟩
theorem y7d {x y:V}{us:List Value}(r:Vals [x,y] us):∃u w',us=[u,w']/\RelV x u/\RelV y w':=by
 cases r with
 | cons r1 r2 =>
  cases r2 with
  | cons r3 r4=>cases r4;exact ⟨_,_,rfl,r1,r3⟩
theorem y6q (hc:X.calm=true):CallR X (.builtin "max") (λ xs H Q=>∃i j,xs=[.int i,.int j]/\Q (.int (if j > i then j else i)) H):=by
 intro pins s σ H xs us Q I r h
 obtain ⟨i,j,rfl,q⟩:=h
 obtain ⟨u,w',rfl,⟨t,rfl⟩,⟨t',rfl⟩⟩:=y7d r
 refine max_two_ints (I.ok.hd hc) λ h' tk k=>⟨_,H,I.kept k,?_,q⟩
 by_cases hj:j > i
 ·rw [if_pos hj,if_pos hj];exact ⟨_,rfl⟩
 ·rw [if_neg hj,if_neg hj];exact ⟨_,rfl⟩
theorem y6p (hc:X.calm=true):CallR X (.builtin "min") (λ xs H Q=>∃i j,xs=[.int i,.int j]/\Q (.int (if j < i then j else i)) H):=by
 intro pins s σ H xs us Q I r h
 obtain ⟨i,j,rfl,q⟩:=h
 obtain ⟨u,w',rfl,⟨t,rfl⟩,⟨t',rfl⟩⟩:=y7d r
 refine min_two_ints (I.ok.hd hc) λ h' tk k=>⟨_,H,I.kept k,?_,q⟩
 by_cases hj:j < i
 ·rw [if_pos hj,if_pos hj];exact ⟨_,rfl⟩
 ·rw [if_neg hj,if_neg hj];exact ⟨_,rfl⟩
theorem y6t:CallR X (.type "int") (λ xs H Q=>(∃i,xs=[.int i]/\Q (.int i) H)\/∃k,xs=[.bl k]/\Q (.int (if k then 1 else 0)) H):=by
 intro pins s σ H xs us Q I r h
 rcases h with ⟨i,rfl,q⟩ | ⟨k,rfl,q⟩
 ·obtain ⟨u,rfl,t,rfl⟩:=z3a r
  exact call_int_int ⟨.int i,H,I,⟨_,rfl⟩,q⟩
 ·obtain ⟨u,rfl,r1⟩:=z3a r
  cases r1
  exact call_int_bool ⟨.int (if k then 1 else 0),H,I.tok _,⟨_,rfl⟩,q⟩
end
structure ObjM (h:Heap) (x dx C:Addr) (mA:Str->Option Value):Prop where
 obj:h.get? x=some (W.instObj C dx)
 ns:h.Ns1 dx mA
 ne:dx≠x
theorem z7o {h:Heap}{dx:Addr}{mA:Str->Option Value}(n:h.Ns1 dx mA):∃od,h.get? dx=some od/\∀name,W.lookIn name od=some (mA name):=by
 obtain ⟨o,es,ep,ho,hd,hk,_,hm⟩:=n
 refine ⟨o,ho,λ name=>?_⟩
 have e:=hm name
 unfold nsFind findBy at e
 rw [← Array.find?_toList] at e
 unfold W.lookIn
 rw [hd]
 dsimp only
 split
 ·rename_i y q
  rw [q] at e
  exact congrArg some e
 ·rename_i q
  rw [q] at e
  have a:es.toList.any (·.refKey)=false:=by
   rw [List.any_eq_false]
   intro y hy
   obtain ⟨z,t,hkey⟩:=hk y (Array.mem_toList_iff.mp hy)
   simp [DictEntry.refKey,hkey]
  have a':¬es.toList.any (·.refKey)=true:=by rw [a];exact Bool.false_ne_true
  rw [if_neg a']
  exact congrArg some e
theorem ObjM.look {h:Heap}{x dx C:Addr}{mA:Str->Option Value}(I:ObjM h x dx C mA):∃od,W.InstAt h x (W.instObj C dx) C (some od)/\∀name,W.lookIn name od=some (mA name) :=
 let ⟨od,ho,hl⟩:=z7o I.ns
 ⟨od,⟨I.obj,rfl,rfl,ho⟩,hl⟩
section
variable {prog:Program}{w:World}{A:Around}{E:Value->Shared->Prop}{s:Shared}{K:W.Frag}{x dx C f:Addr}{mA:Str->Option Value}{name:Str}{v:Value}
end
def putF (f:Str) (v:V):List (Str × V)->List (Str × V)
 | []=>[(f,v)]
 | (g,x)::r=>if g=f then (g,v)::r else (g,x)::putF f v r
theorem RelO.some_of {v:V}{o:Option Value}(r:RelO (some v) o):∃u,o=some u/\RelV v u:=by
 cases o with
 | none=>exact (show False from r).elim
 | some u=>exact ⟨u,rfl,r⟩
theorem y5m {v:V}{u:Value}(r:RelV v u):W.handedIn u=true:=by
 cases v with
 | non=>cases (show u=Value.none from r);rfl
 | bl b=>cases (show u=Value.bool b from r);rfl
 | int i=>obtain ⟨t,e⟩:=(show ∃t,u=Value.int i t from r);cases e;rfl
 | str x=>obtain ⟨t,e⟩:=(show ∃t,u=Value.str x t from r);cases e;rfl
 | byt b=>obtain ⟨t,e⟩:=(show ∃t,u=Value.bytes b t from r);cases e;rfl
 | flt b=>obtain ⟨t,e⟩:=(show ∃t,u=Value.float b t from r);cases e;rfl
 | ref a=>cases (show u=Value.ref a from r);rfl
 | ty n=>cases (show u=Value.type n from r);rfl
section
variable {P:Program}{w:World}{H H':Hp}{h h':Heap}{a C dx:Addr}{fs fs':List (Str × V)}
theorem x1g (hok:HOk P w H h) (e:H a=some (.ins C dx fs)):∃mA,ObjM h a dx C mA/\(∀f,RelO (fs.lookup f) (mA f))/\PySem.Within mA (fs.map (·.1))/\fs.length≤1000/\H dx=some (.own a):=by
 obtain ⟨d,z,ne,ob,mA,n,r,q⟩:=(show ObjOk P w H h a (.ins C dx fs) from hok a _ e)
 exact ⟨mA,⟨ob,n,ne⟩,r,q,z,d⟩
end
structure Cls (K:W.Frag) (C:Addr):Prop where
 pg:W.plainGet K C Str.empty=true
 hd:W.hasDictIn K C=true
 po:W.plainOver K C=true
 sa:W.findIn K (.ref C) "__setattr__" = some (some (.builtin "object.__setattr__"))
theorem Cls.get {K:W.Frag}{C:Addr}(c:Cls K C) (f:Str):W.plainGet K C f=true:=c.pg
def NoAttr (K:W.Frag) (C:Addr) (f:Str):Prop:=W.findIn K (.ref C) f=some none
theorem NoAttr.taker {K:W.Frag}{C:Addr}{f:Str}(n:NoAttr K C f):W.takerIn K C f=some none:=by
 unfold W.takerIn
 rw [show W.findIn K (.ref C) f=some none from n]
 rfl
structure Con (K:W.Frag) (C:Addr) (f:Str) (v:V) (u:Value):Prop where
 at_:W.findIn K (.ref C) f=some (some u)
 rel:RelV v u
 get:W.specialIn K u "__get__" = some none
 cp:W.copiedNames.contains f=false
structure Meth (K:W.Frag) (C:Addr) (m:Str) (f:Addr):Prop where
 at_:W.findIn K (.ref C) m=some (some (.ref f))
 fn:W.isFn K (.ref f)=true
 kp:W.keepIn K (.ref f)=true
section
variable {X:Cx}{pins:List (Addr × Obj)}{σ:St}{H:Hp}{s:Shared}{a C dx:Addr}{fs:List (Str × V)}{f:Str}{v:V}{A:Around}{E:Value->Shared->Prop}
theorem Inv.made (I:Inv X pins σ H s):Inv X pins σ (upd (upd H s.heap.objs.size (.own (s.heap.objs.size+1))) (s.heap.objs.size+1) (.ins C s.heap.objs.size []))
  { s with heap:=(s.heap.push W.emptyDict).push (W.instObj C s.heap.objs.size) }:=by
 have e1:(s.heap.push W.emptyDict).get? s.heap.objs.size=some W.emptyDict:=Heap.get?_push_size s.heap rfl
 have e2:((s.heap.push W.emptyDict).push (W.instObj C s.heap.objs.size)).get? (s.heap.objs.size+1)=some (W.instObj C s.heap.objs.size):=by
  have:=Heap.get?_push_size (s.heap.push W.emptyDict) (o:=W.instObj C s.heap.objs.size) rfl
  rwa [Heap.size_push] at this
 have e3:(s.heap.push W.emptyDict).Ns s.heap.objs.size (λ _=>none):=⟨W.emptyDict,#[],_,e1,rfl,(λ e he=>absurd he (by simp)),λ _=>rfl⟩
 have I1:=I.laid (a:=s.heap.objs.size) (o:=.own (s.heap.objs.size+1)) (h':=s.heap.push W.emptyDict) (t':=s.toks) (λ b u q=>Heap.get?_push_of_some _ q) (Nat.le_refl _) ⟨_,e1⟩
 refine I1.laid (a:=s.heap.objs.size+1) (o:=.ins C s.heap.objs.size []) (t':=s.toks) (λ b u q=>Heap.get?_push_of_some _ q) (Nat.le_of_eq (Heap.size_push _ _)) ?_
 have ne:s.heap.objs.size≠s.heap.objs.size+1:=Nat.ne_of_lt (Nat.lt_succ_self _)
 refine ⟨by rw [z0m ne,z0d],Nat.zero_le _,ne,e2,λ _=>none,(Heap.Ns1.of_empty e3).at λ o q=>Heap.get?_push_of_some _ q,λ _=>True.intro,λ y hy=>absurd rfl hy⟩
theorem x1y {prog:Program}{w:World}{env:Env}{e:Expr}{f:Str}{pos:Pos}{s:Shared}{Q:Value->Shared->Prop}(hb:attributeBase e f env (eval e env)=eval e env)
  (h:wpAny (model prog w) A (eval e env) (λ o s₁=>wpAny (model prog w) A (getAttr o f true) Q E s₁) E s):wpAny (model prog w) A (eval (.Attribute e f pos) env) Q E s :=
 Attribute_any_ h (by rw [arm_eval_Attribute,hb])
end
def tFld (K:W.Frag) (ta:TE) (f:Str):TE:=λ σ H Q=>ta σ H λ x H1=>∃a C dx fs v,x=.ref a/\H1 a=some (.ins C dx fs)/\Cls K C/\NoAttr K C f/\fs.lookup f=some v/\Q v H1
def sFld (K:W.Frag) (ta tv:TE) (f:Str):TS:=λ D σ H=>tv σ H λ y H1=>ta σ H1 λ x H2=>∃a C dx fs,x=.ref a/\H2 a=some (.ins C dx fs)/\Cls K C/\NoAttr K C f/\fs.length < 1000 /\
 D.nx σ (upd H2 a (.ins C dx (putF f y fs)))
section
variable {X:Cx}{o e value:Expr}{f:Str}{pos pos' tpos:Pos}{ta tv:TE}
end
section
variable {X:Cx}{pins:List (Addr × Obj)}{σ:St}{H:Hp}{s:Shared}{A:Around}{E:Value->Shared->Prop}{Q:Value->Shared->Prop}{c:Value}{b:Bool}
inductive TyOf (K:W.Frag) (H:Hp):V->Value->Prop where
 | non:TyOf K H .non (.type "NoneType")
 | bl (x:Bool):TyOf K H (.bl x) (.type "bool")
 | int (i:Int):TyOf K H (.int i) (.type "int")
 | str (x:Str):TyOf K H (.str x) (.type "str")
 | flt (x:UInt64):TyOf K H (.flt x) (.type "float")
 | lst {a:Addr}{xs:List V}(e:H a=some (.lst xs)):TyOf K H (.ref a) (.type "list")
 | frz {a:Addr}{o:Obj}{xs:List V}(e:H a=some (.frz o (.lst xs))):TyOf K H (.ref a) (.type "list")
 | tup {a:Addr}{xs:List V}(e:H a=some (.tup xs)):TyOf K H (.ref a) (.type "tuple")
 | dK {a:Addr}{kvs:List (Key × V)}(e:H a=some (.dK kvs)):TyOf K H (.ref a) (.type "dict")
 | dT {a:Addr}{kvs:List (List Key × V)}(e:H a=some (.dT kvs)):TyOf K H (.ref a) (.type "dict")
 | ins {a C dx:Addr}{fs:List (Str × V)}(e:H a=some (.ins C dx fs)) (cl:Cls K C) (ha:W.findIn K (.ref C) "__class__" = some (some (.builtin "object.__class__")))
   (hn:W.specialIn K (.builtin "object.__class__") "__get__" = some (some (.builtin "getset_descriptor.__get__"))) (htk:W.takesIn K (.builtin "object.__class__")=some true)
   (hm:W.mroIn K C (.type "object")=some true):TyOf K H (.ref a) (.ref C)
theorem y5j {x:V}{u t:Value}(I:Inv X pins σ H s) (rx:RelV x u) (ty:TyOf X.K H x t) (e:W.kitOne X.K t c=some b) (h:∀tk,Q (.bool b) { s with toks:=tk }) :
  wpAny (model X.prog X.w) A (call (.builtin "isinstance") [u,c]) Q E s:=by
 cases ty with
 | non=>cases (show u=Value.none from rx);exact W.kia_one W.kitx_none I.kIn True.intro e (λ z=>nomatch z) h
 | bl y=>cases (show u=Value.bool y from rx);exact W.kia_one W.kitx_bool I.kIn True.intro e (λ z=>nomatch z) h
 | int i=>obtain ⟨t,q⟩:=(show ∃t,u=Value.int i t from rx);cases q;exact W.kia_one W.kitx_int I.kIn True.intro e (λ z=>nomatch z) h
 | str y=>obtain ⟨t,q⟩:=(show ∃t,u=Value.str y t from rx);cases q;exact W.kia_one W.kitx_str I.kIn True.intro e (λ z=>nomatch z) h
 | flt y=>obtain ⟨t,q⟩:=(show ∃t,u=Value.float y t from rx);cases q;exact W.kia_one W.kitx_float I.kIn True.intro e (λ z=>nomatch z) h
 | @lst a xs ea =>
  cases (show u=Value.ref a from rx)
  obtain ⟨_,_,n,_,h1⟩:=(show ObjOk X.prog X.w H s.heap a (.lst xs) from I.hok a _ ea)
  exact W.kia_one W.kitx_list I.kIn ⟨_,h1,rfl⟩ e (λ z=>nomatch z) h
 | @frz a ob xs ea =>
  cases (show u=Value.ref a from rx)
  obtain ⟨_,_,_,n,_,h1⟩:=(show ObjOk X.prog X.w H s.heap a (.frz ob (.lst xs)) from I.hok a _ ea)
  exact W.kia_one W.kitx_list I.kIn ⟨_,h1,rfl⟩ e (λ z=>nomatch z) h
 | @tup a xs ea =>
  cases (show u=Value.ref a from rx)
  obtain ⟨_,_,_,p⟩:=(show ObjOk X.prog X.w H s.heap a (.tup xs) from I.hok a _ ea)
  obtain ⟨o,h1,h2,_⟩:=p
  exact W.kia_one W.kitx_tuple I.kIn ⟨o,h1,h2⟩ e (λ z=>nomatch z) h
 | @dK a kvs ea =>
  cases (show u=Value.ref a from rx)
  obtain ⟨_,_,vs,_,p⟩:=(show ObjOk X.prog X.w H s.heap a (.dK kvs) from I.hok a _ ea)
  obtain ⟨o,es,ep,h1,h2,_⟩:=p
  exact W.kia_one W.kitx_dict I.kIn ⟨o,h1,h2.1⟩ e (λ z=>nomatch z) h
 | @dT a kvs ea =>
  cases (show u=Value.ref a from rx)
  obtain ⟨_,_,xs,_,o,es,ep,h1,h2,_⟩:=(show ObjOk X.prog X.w H s.heap a (.dT kvs) from I.hok a _ ea)
  exact W.kia_one W.kitx_dict I.kIn ⟨o,h1,h2.1⟩ e (λ z=>nomatch z) h
 | @ins a C dx fs ea cl ha hn htk hm =>
  cases (show u=Value.ref a from rx)
  obtain ⟨mA,O,_⟩:=x1g I.hok ea
  obtain ⟨od,J,_⟩:=O.look
  exact W.kia_one (W.kitx_own (cl.get _) cl.hd ha hn htk hm) I.kIn J e (λ z=>nomatch z) h
end
structure Room (k:Nat) (A:Around):Prop where
 hd:A.handled=none
 dp:A.depth+3 * k+5 < recursionLimit
 un:A.units+16 * k+200 < cLine
theorem Room.mono {j k:Nat}{A:Around}(r:Room k A) (h:j≤k):Room j A:=⟨r.hd,by have:=r.dp;omega,by have:=r.un;omega⟩
theorem Room.deeper {k:Nat}{A:Around}(r:Room (k+1) A) (env:Env):Room k (A.deeper env) :=
 ⟨r.hd,by have:=r.dp;show A.depth+1+3 * k+5 < _;omega,by have:=r.un;show A.units+3+16 * k+200 < _;omega⟩
theorem Room.in1 {k:Nat}{A:Around}(r:Room (k+1) A):Room k A.in1 :=
 ⟨r.hd,by have:=r.dp;show A.depth+3 * k+5 < _;omega,by have:=r.un;show A.units+1+16 * k+200 < _;omega⟩
theorem y1u {A:Around}{C:Addr}{us:List Value}{kw:List (Str × Value)}:(A.under (.builtin "type.__call__" ⟨.ref C::us,kw⟩)).depth=A.depth+1:=by
 first | rfl | simp [Around.under,Code.weight,Code.isCreation,Code.isGuard,Code.isCaller,Code.frames,Code.isFrame,guardIds]
theorem y1t {A:Around}{C:Addr}{us:List Value}{kw:List (Str × Value)}:(A.under (.builtin "type.__call__" ⟨.ref C::us,kw⟩)).units=A.units+1:=by
 first | rfl | simp [Around.under,Code.cUnits,Code.frames,Code.isFrame]
theorem Room.make {k:Nat}{A:Around}(r:Room (k+1) A) (C:Addr) (us:List Value) (kw:List (Str × Value)):Room k (A.under (.builtin "type.__call__" ⟨.ref C::us,kw⟩)) :=
 ⟨r.hd,by have:=r.dp;rw [y1u];omega,by have:=r.un;rw [y1t];omega⟩
theorem Room.depth {k:Nat}{A:Around}(r:Room k A):A.depth < recursionLimit:=by have:=r.dp;omega
theorem Room.units {k:Nat}{A:Around}(r:Room k A):A.units+64 < cLine:=by have:=r.un;omega
def tNil:TA:=λ _ H Q=>Q [] H
def tCons (ta:TE) (tr:TA):TA:=λ σ H Q=>ta σ H λ x H1=>tr σ H1 λ xs H2=>Q (x::xs) H2
section
variable {X:Cx}{e:Expr}{es:List Expr}{te:TE}{t:TA}{pos:Pos}
theorem z0e:PA X [] tNil:=λ _ _ _ _ H Q I h=>Calls.spliced_nil ⟨[],H,I,.nil,h⟩
theorem z0a (ha:PE X e te) (hr:PA X es t) (hs:starEach (e::es) X.env=(false,eval e X.env)::starEach es X.env:=by rfl):PA X (e::es) (tCons te t):=by
 intro pos pins s σ H Q I h
 rw [hs]
 show wpAny _ _ (spliced ((false,eval e X.env)::backTo pos (starEach es X.env))) _ _ s
 refine Calls.spliced_cons (thn (ha pins s σ H _ I h) λ u s1 ⟨x,H1,I1,r1,q1⟩=>?_)
 exact thn (hr pos pins s1 σ H1 _ I1 q1) λ us s2 ⟨xs,H2,I2,r2,q2⟩=>⟨x::xs,H2,I2,.cons r1 r2,q2⟩
def tTup (t:TA):TE:=λ σ H Q=>t σ H λ xs H1=>xs.length≤sizeLine/\∀p,H1 p=none->Q (.ref p) (upd H1 p (.tup xs))
def tLst (t:TA):TE:=λ σ H Q=>t σ H λ xs H1=>xs.length≤sizeLine/\∀p,H1 p=none->Q (.ref p) (upd H1 p (.lst xs))
theorem z1w {x1} (h:PA X es t):PE X (.Tuple es x1 pos) (tTup t):=by
 intro pins s σ H Q I hq
 refine wpAny_Tuple_spliced (thn (h pos pins s σ H _ I hq) λ us s1 ⟨xs,H1,I1,r,z,q⟩=>⟨by rw [← r.length];exact z,?_⟩)
 have hf:H1 s1.heap.objs.size=none:=I1.hok.fresh (Nat.le_refl _)
 refine ⟨.ref s1.heap.objs.size,upd H1 s1.heap.objs.size (.tup xs),I1.laid (t':=s1.toks) (λ b u e=>Heap.get?_push_of_some _ e) (Nat.le_refl _) ?_,rfl,q _ hf⟩
 exact ⟨z,us,r,⟨_,Heap.get?_push_size _ rfl,rfl,_,rfl⟩⟩
theorem z1j (h:PA X es t):PE X (.List es pos) (tLst t):=by
 intro pins s σ H Q I hq
 refine wpAny_List_spliced (thn (h pos pins s σ H _ I hq) λ us s1 ⟨xs,H1,I1,r,z,q⟩=>⟨by rw [← r.length];exact z,?_⟩)
 have hf:H1 s1.heap.objs.size=none:=I1.hok.fresh (Nat.le_refl _)
 refine ⟨.ref s1.heap.objs.size,upd H1 s1.heap.objs.size (.lst xs),I1.laid (t':=s1.toks) (λ b u e=>Heap.get?_push_of_some _ e) (Nat.le_refl _) ?_,rfl,q _ hf⟩
 exact ⟨z,us,0,r,Heap.get?_push_size _ rfl⟩
end
abbrev Sp:=List V->Hp->VK->XK->Prop
abbrev CXT:=List Env->Hp->Shared->XK->Value->Shared->Prop
structure Env0 (P:Program) (w:World) (K:W.Frag) (mg:Str->Option Value) (base:Heap) (A:Around) (outer:List Env) (s:Shared) (H:Hp):Prop where
 frames:A.frames=some outer
 mod:Mod K mg base
 bs:∀b o,base.get? b=some o->s.heap.get? b=some o/\H b=none
 bsz:base.objs.size≤s.heap.objs.size
 funs:s.heap.FunFrames base outer
 frf:∀b∈frs outer,H b=none
 hok:HOk P w H s.heap
 bare:AllBare s.gens
def CE (outer:List Env) (P:Program) (w:World) (H:Hp) (s:Shared) (Q:VK) (u:Value) (s':Shared):Prop :=
 ∃v H',s'.os=s.os/\AllBare s'.gens/\Un (frs outer) [] H H' s.heap s'.heap/\HOk P w H' s'.heap/\RelV v u/\Q v H'
def CR (CX:CXT) (outer:List Env) (P:Program) (w:World) (H:Hp) (s:Shared) (Q:VK) (E:XK) (r:Result) (s':Shared):Prop :=
 match r with
 | .ok (.ret u)=>CE outer P w H s Q u s'
 | .ok _=>False
 | .error e=>CX outer H s E e s'
structure FnOk (P:Program) (w:World) (K:W.Frag) (mg:Str->Option Value) (base:Heap) (CX:CXT) (k:Nat) (f:Addr) (fd:FuncData) (ps:List Str) (sp:Sp):Prop where
 len:∀vs H Q E,sp vs H Q E->vs.length=ps.length
 run:∀(A:Around) (outer:List Env) (s:Shared) (H:Hp) (args:Args) (us:List Value) (vs:List V) (Q:VK) (E:XK),Room k A->Env0 P w K mg base A outer s H->BindsTo s fd args (ps.zip us)->Vals vs us->sp vs H Q E ->
  codeAny (model P w) A (.call (.ref f) args) (CR CX outer P w H s Q E) s
theorem FnOk.mono {P:Program}{w:World}{K:W.Frag}{mg:Str->Option Value}{base:Heap}{CX:CXT}{j k:Nat}{f:Addr}{fd:FuncData}{ps:List Str}{sp:Sp}(F:FnOk P w K mg base CX j f fd ps sp) (h:j≤k) :
  FnOk P w K mg base CX k f fd ps sp:=⟨F.len,λ A outer s H args us vs Q E hr=>F.run A outer s H args us vs Q E (hr.mono h)⟩
theorem FnOk.imp {P:Program}{w:World}{K:W.Frag}{mg:Str->Option Value}{base:Heap}{CX:CXT}{k:Nat}{f:Addr}{fd:FuncData}{ps:List Str}{sp sp':Sp}(F:FnOk P w K mg base CX k f fd ps sp)
  (h:∀vs H Q E,sp' vs H Q E->sp vs H Q E):FnOk P w K mg base CX k f fd ps sp' :=
 ⟨λ vs H Q E q=>F.len vs H Q E (h _ _ _ _ q),λ A outer s H args us vs Q E hr he hb hv hs=>F.run A outer s H args us vs Q E hr he hb hv (h _ _ _ _ hs)⟩
theorem Env0.make {P:Program}{w:World}{K:W.Frag}{mg:Str->Option Value}{base:Heap}{A:Around}{outer:List Env}{s:Shared}{H:Hp}(e:Env0 P w K mg base A outer s H) (C:Addr) (us:List Value) (kw:List (Str × Value)) :
  Env0 P w K mg base (A.under (.builtin "type.__call__" ⟨.ref C::us,kw⟩)) outer s H:=⟨by first | exact e.frames | (simpa [Around.under,Code.envs,Code.isFrame,pushEnvs] using e.frames),e.mod,e.bs,e.bsz,e.funs,e.frf,e.hok,e.bare⟩
theorem Env0.in1 {P:Program}{w:World}{K:W.Frag}{mg:Str->Option Value}{base:Heap}{A:Around}{outer:List Env}{s:Shared}{H:Hp}(e:Env0 P w K mg base A outer s H) :
  Env0 P w K mg base A.in1 outer s H:=⟨e.frames,e.mod,e.bs,e.bsz,e.funs,e.frf,e.hok,e.bare⟩
section
variable {X:Cx}{pins:List (Addr × Obj)}{σ:St}{H:Hp}{s s':Shared}
theorem Inv.env0 (I:Inv X pins σ H s):Env0 X.prog X.w X.K X.mg X.base X.A X.stack s H :=
 ⟨I.ok.frames,I.ok.mod,I.bs,Nat.le_trans I.ok.bsz I.sz,I.stack,I.stkFree,I.hok,I.bare⟩
theorem Inv.after {Q:VK}{u:Value}(I:Inv X pins σ H s) (h:CE X.stack X.prog X.w H s Q u s'):EP X pins σ Q u s':=by
 obtain ⟨v,H',os,bare,un,hok,r,q⟩:=h
 obtain ⟨hh,g,d,t,os'⟩:=s'
 obtain rfl:os'=s.os:=os
 exact ⟨v,H',I.call (h':=hh) (g':=g) (d':=d) (t':=t) (ch:=[]) un hok bare (λ b z=>absurd z (by simp)),r,q⟩
end
def tCall (sp:Sp) (dvs:List V) (E:XK) (t:TA):TE:=λ σ H Q=>t σ H λ vs H1=>sp (vs++dvs) H1 Q E
def tMeth (C:Addr) (m:Str) (sp:Sp) (dvs:List V) (E:XK) (ta:TE) (t:TA):TE:=λ σ H Q=>ta σ H λ x H1=>∃a dx fs,x=.ref a/\H1 a=some (.ins C dx fs)/\fs.lookup m=none /\
 t σ H1 λ vs H2=>sp (x::(vs++dvs)) H2 Q E
def tMake (C:Addr) (sp:Sp) (dvs:List V) (E:XK) (t:TA):TE:=λ σ H Q=>t σ H λ vs H1=>∀x dx,H1 x=none->H1 dx=none->dx≠x ->
 sp (.ref x::(vs++dvs)) (upd (upd H1 dx (.own x)) x (.ins C dx [])) (λ v H2=>v=.non/\Q (.ref x) H2) E
def Binds (K:W.Frag) (fd:FuncData) (ps:List Str) (ds:List Value):Prop :=
 ∀(s:Shared) (us:List Value),K.In s.heap->(us++ds).length=ps.length->BindsTo s fd ⟨us,[]⟩ (ps.zip (us++ds))
theorem Binds.all {K:W.Frag}{fd:FuncData}{ps:List Str}(h:∀us:List Value,us.length=ps.length->bindArgs fd ⟨us,[]⟩=pure (ps.zip us)):Binds K fd ps []:=λ s us _ hl=>by
 rw [List.append_nil] at hl ⊢
 exact .of_eq (h us hl)
def Passes (CX:CXT) (X:Cx) (E:XK):Prop:=∀(pins:List (Addr × Obj)) (σ:St) (H:Hp) (s:Shared) (e:Value) (s':Shared),Inv X pins σ H s->CX X.stack H s E e s'->X.xe e s'
section
variable {X:Cx}{CX:CXT}{k:Nat}{f C:Addr}{fd:FuncData}{ps:List Str}{sp:Sp}{dvs:List V}{ds:List Value}{E:XK}{x m:Str}{p pos apos:Pos}{e o:Expr}{es:List Expr}{ta:TE}{t:TA}
theorem x2n {pins:List (Addr × Obj)}{σ:St}{H:Hp}{s:Shared}{Q:VK}{us:List Value}{vs:List V}(F:FnOk X.prog X.w X.K X.mg X.base CX k f fd ps sp) (hr:Room k X.A) (hb:Binds X.K fd ps ds) (hd:Vals dvs ds) (hx:Passes CX X E)
  (I:Inv X pins σ H s) (r:Vals vs us) (h:sp (vs++dvs) H Q E):wpAny (model X.prog X.w) X.A (call (.ref f) us) (EP X pins σ Q) X.xe s:=by
 have r2:Vals (vs++dvs) (us++ds):=r.append hd
 have hl:(us++ds).length=ps.length:=by rw [← r2.length];exact F.len _ _ _ _ h
 refine wpAny_call (codeAny_mono (F.run X.A X.stack s H ⟨us,[]⟩ (us++ds) (vs++dvs) Q E hr I.env0 (hb s us I.kIn hl) r2 h) λ r s' hq=>?_)
 cases r with
 | error e=>exact hx pins σ H s e s' I hq
 | ok fl =>
  cases fl with
  | ret u=>exact I.after hq
  | next=>exact False.elim hq
  | brk=>exact False.elim hq
  | cont=>exact False.elim hq
theorem x0y (F:FnOk X.prog X.w X.K X.mg X.base CX k f fd ps sp) (hr:Room k X.A) (hg:Gl X x) (hm:X.mg x=some (.ref f)) (hk:W.keepIn X.K (.ref f)=true) (hb:Binds X.K fd ps ds) (hd:Vals dvs ds) (hx:Passes CX X E)
  (ha:PA X (e::es) t) (hdb:(x == ("__debug__" : Str))=false:=by decide) (he:starEach (e::es) X.env=(false,eval e X.env)::starEach es X.env:=by rfl) (hpl:(backTo pos (starEach es X.env)).any (·.1)=false:=by rfl) :
  PE X (.Call (.Name x p) (e::es) [] pos) (tCall sp dvs E t):=by
 intro pins s σ H Q I h
 refine wpAny_Call_Name_kw (z3f I hg hm ?_ hdb)
 refine W.callWith_K (h₀:=X.base) I.ok.mod.kin hk (thn (ha pos pins s σ H _ I h) λ us s1 ⟨vs,H1,I1,r,q⟩=>⟨I1.kIn,?_⟩) he hpl
 exact x2n F hr hb hd hx I1 r q
structure Mk (K:W.Frag) (C f:Addr):Prop where
 makes:W.makesIn K C=true
 init:W.findIn K (.ref C) "__init__" = some (some (.ref f))
 fn:W.isFn K (.ref f)=true
 kp:W.keepIn K (.ref C)=true
end
section
variable {X:Cx}{CX:CXT}{k:Nat}{f C:Addr}{fd:FuncData}{ps ks:List Str}{sp:Sp}{E:XK}{x m:Str}{p pos apos kpos:Pos}{e o:Expr}{es:List Expr}{kws:List Keyword}{te ta:TE}{t tk:TA}{nm:Option Str}
structure KBinds (K:W.Frag) (fd:FuncData) (ps ks:List Str) (g:List Value->List Value->List Value) (gV:List V->List V->List V):Prop where
 to:∀(s:Shared) (us ws:List Value),K.In s.heap->(g us ws).length=ps.length->BindsTo s fd ⟨us,ks.zip ws⟩ (ps.zip (g us ws))
 rel:∀ {vs:List V}{us:List Value}{zs:List V}{ws:List Value},Vals vs us->Vals zs ws->Vals (gV vs zs) (g us ws)
variable {g:List Value->List Value->List Value}{gV:List V->List V->List V}
end
structure FnScope (N P:List Str) (sc:Scope):Prop where
 kind:sc.kind=.function
 co:sc.isCoroutine=false
 gen:sc.isGenerator=false
 nd:N.Nodup
 pre:N.take P.length=P
 par:∀x∈P,sc.names.lookup x=some .local\/sc.names.lookup x=some .cell
 nofree:∀y∈sc.names,y.2≠.free
theorem z8d {kindOf:Str->Option NameKind}{x:Str}:∀ {binds:List (Str × Value)}{m:Str->Option Value},(∀v,(x,v) ∉ binds)->bindL kindOf binds m x=m x
 | [],_,_=>rfl
 | (n,v)::r,m,h=>by
  unfold bindL
  rw [z8d λ w hw=>h w (List.mem_cons_of_mem _ hw)]
  split
  ·have:x≠n:=by rintro rfl;exact h v List.mem_cons_self
   simp [this]
  ·rfl
theorem z8f {kindOf:Str->Option NameKind}{x:Str}:∀ {binds:List (Str × Value)}{m:Str->Option Value},(∀v,(x,v) ∉ binds)->bindC kindOf binds m x=m x
 | [],_,_=>rfl
 | (n,v)::r,m,h=>by
  unfold bindC
  rw [z8f λ w hw=>h w (List.mem_cons_of_mem _ hw)]
  split
  ·rfl
  ·have:x≠n:=by rintro rfl;exact h v List.mem_cons_self
   simp [this]
theorem z8e {kindOf:Str->Option NameKind}{x:Str}{v:Value}:∀ {P:List Str}{vs:List Value}{i:Nat}{m:Str->Option Value},P.Nodup->P[i]?=some x->vs[i]?=some v->kindOf x=some .local ->
  bindL kindOf (P.zip vs) m x=some v
 | [],_,_,_,_,h,_,_=>by simp at h
 | _::_,[],_,_,_,_,h,_=>by simp at h
 | p::P,w::vs,0,m,nd,h1,h2,hk=>by
  simp at h1 h2;subst h1;subst h2
  show bindL kindOf ((p,w)::P.zip vs) m p=_
  unfold bindL
  rw [z8d λ v hv=>(List.nodup_cons.mp nd).1 (List.of_mem_zip hv).1,if_pos hk]
  simp
 | p::P,w::vs,i+1,m,nd,h1,h2,hk=>by
  show bindL kindOf ((p,w)::P.zip vs) m x=_
  unfold bindL
  exact z8e (i:=i) (List.nodup_cons.mp nd).2 (by simpa using h1) (by simpa using h2) hk
theorem z8g {kindOf:Str->Option NameKind}{x:Str}{v:Value}:∀ {P:List Str}{vs:List Value}{i:Nat}{m:Str->Option Value},P.Nodup->P[i]?=some x->vs[i]?=some v->kindOf x≠some .local ->
  bindC kindOf (P.zip vs) m x=some v
 | [],_,_,_,_,h,_,_=>by simp at h
 | _::_,[],_,_,_,_,h,_=>by simp at h
 | p::P,w::vs,0,m,nd,h1,h2,hk=>by
  simp at h1 h2;subst h1;subst h2
  show bindC kindOf ((p,w)::P.zip vs) m p=_
  unfold bindC
  rw [z8f λ v hv=>(List.nodup_cons.mp nd).1 (List.of_mem_zip hv).1,if_neg hk]
  simp
 | p::P,w::vs,i+1,m,nd,h1,h2,hk=>by
  show bindC kindOf ((p,w)::P.zip vs) m x=_
  unfold bindC
  exact z8g (i:=i) (List.nodup_cons.mp nd).2 (by simpa using h1) (by simpa using h2) hk
def start (N:List Str) (vs:List V):St:=vs.map some++List.replicate (N.length - vs.length) none
def cxOf (CX:CXT) (P:Program) (w:World) (K:W.Frag) (mg:Str->Option Value) (base:Heap) (N:List Str) (qual:Str) (scope:Scope) (f:Addr) (cd:Value) (A:Around) (outer:List Env) (s:Shared) (H:Hp) (E:XK):Cx where
 prog:=P
 w:=w
 K:=K
 mg:=mg
 base:=base
 A:=A.deeper (envOfC qual scope s.heap.objs.size f cd)
 N:=N
 s₀:=s
 H₀:=H
 env:=envOfC qual scope s.heap.objs.size f cd
 outer:=outer
 stack:=envOfC qual scope s.heap.objs.size f cd::outer
 ex:=[]
 calm:=true
 fn:=λ _=>true
 pn:=[]
 xe:=λ e s'=>wpAny (model P w) (A.deeper (envOfC qual scope s.heap.objs.size f cd)) (leaving (envOfC qual scope s.heap.objs.size f cd) e) (λ _ s''=>CX outer H s E e s'') (λ e' s''=>CX outer H s E e' s'') s'
theorem y0u {sc:Scope}{n:Nat}{x:Str}(h:sc.names.lookup x=some .cell):∃c,(cellsFrom n sc.names []).lookup x=some c:=by
 have q:=W.cellsFrom_some sc.names n [] (.inl h)
 exact Option.isSome_iff_exists.mp q
theorem y5k {CX:CXT}{P:Program}{w:World}{K:W.Frag}{mg:Str->Option Value}{base:Heap}{N ps:List Str}{qual:Str}{scope:Scope}{f:Addr}{cd:Value}{A:Around}{outer:List Env}{s s1:Shared}{H:Hp}{E:XK}{us:List Value}{vs:List V}
  (S:FnScope N ps scope) (hd:A.handled=none) (e0:Env0 P w K mg base A outer s H) (hl:vs.length=ps.length) (r:Vals vs us)
  (x:InCallC s s.heap.objs.size (bindL (envOfC qual scope s.heap.objs.size f cd).kindOf (ps.zip us) λ _=>none) (cellsFrom (s.heap.objs.size+1) scope.names []) (bindC (envOfC qual scope s.heap.objs.size f cd).kindOf (ps.zip us) λ _=>none) s1) :
  Inv (cxOf CX P w K mg base N qual scope f cd A outer s H E) [] (start N vs) H s1:=by
 have hpl:ps.length≤N.length:=by have:=congrArg List.length S.pre;rw [List.length_take] at this;omega
 obtain ⟨h1,tk,rfl,hk⟩:=x.done
 have noA:∀b:Addr,b ∉ (cxOf CX P w K mg base N qual scope f cd A outer s H E).ex:=λ b z=>absurd (show b∈([]:List Addr) from z) (by simp)
 refine ⟨⟨e0.mod,S.kind,rfl,rfl,Nat.le_refl _,λ y z c h1 h2=>?_,λ y hy=>?_,λ y c _ h=>?_,λ _=>hd,Around.frames_deeper e0.frames,.inr ⟨rfl,rfl⟩,λ b z=>absurd z (noA b),e0.bs,e0.bsz,λ b _ _=>noA b,λ b z=>absurd z (noA b),e0.funs,e0.frf⟩,
  rfl,e0.bare,Un.kept hk,⟨_,x.toInCall.ns,λ i y v h1 h2 h3=>?_⟩,λ y c h=>⟨_,x.cell y c h⟩,e0.hok.fresh (Nat.le_refl _),λ y c h=>?_,λ p hp=>absurd (show p∈([]:List (Addr × Obj)) from hp) (by simp),e0.hok.kept hk,?_⟩
 ·exact name_of_addr x.apart (PySem.mem_of_lookup h1) (PySem.mem_of_lookup h2)
 ·have hy:scope.names.lookup y=some .cell\/scope.names.lookup y=some .free:=hy
  rcases hy with hy | hy
  ·exact y0u hy
  ·exact absurd rfl (S.nofree _ (PySem.mem_of_lookup hy))
 ·exact Nat.le_of_lt (x.above y c (PySem.mem_of_lookup h))
 ·have hi:i < vs.length:=by
   unfold start at h2
   by_cases hi:i < vs.length
   ·exact hi
   ·rw [List.getElem?_append_right (by simpa using hi)] at h2
    rw [List.getElem?_replicate] at h2
    split at h2<;>cases h2
  have ha:vs[i]?=some v:=by
   unfold start at h2
   rw [List.getElem?_append_left (by simpa using hi),List.getElem?_map] at h2
   cases e:vs[i]? with
   | none=>rw [e] at h2;cases h2
   | some a=>rw [e] at h2;cases h2;rfl
  obtain ⟨u,hu,rv⟩:=r.get ha
  have hp:ps[i]?=some y:=by
   rw [← S.pre,List.getElem?_take_of_lt (by omega)];exact h1
  have ndP:ps.Nodup:=by rw [← S.pre];exact S.nd.sublist (List.take_sublist _ _)
  refine ⟨u,rv,?_⟩
  rcases S.par y (List.mem_of_getElem? hp) with k | k
  ·exact .inl ⟨k,z8e ndP hp hu k⟩
  ·obtain ⟨c,e⟩:=y0u (n:=s.heap.objs.size+1) k
   refine .inr ⟨.inl k,c,e,?_⟩
   have q:=x.cell y c e
   rw [z8g ndP hp hu (by show scope.names.lookup y≠_;rw [k];decide)] at q
   exact q
 ·exact e0.hok.fresh (Nat.le_of_lt (x.above y c (PySem.mem_of_lookup h)))
 ·unfold start
  show _=N.length
  rw [List.length_append,List.length_map,List.length_replicate]
  omega
theorem x1r {CX:CXT}{P:Program}{w:World}{K:W.Frag}{mg:Str->Option Value}{base:Heap}{k:Nat}{f:Addr}{name qual:Str}{params:Arguments}{body:List Stmt}{scope:Scope}{dV kV doc pm cdv ct oc:Value}{an od:Option Addr}
  {osl:Array (Option Value)}{N ps:List Str}{sp:Sp}(lk:K.lookup f=some ⟨oc,od,.func (W.fnOf name qual params body scope dV kV doc pm an cdv ct),osl⟩) (hcd:W.codeIn K cdv qual=true) (S:FnScope N ps scope)
  (len:∀vs H Q E,sp vs H Q E->vs.length=ps.length)
  (hbody:∀(A:Around) (outer:List Env) (s:Shared) (H:Hp) (vs:List V) (Q:VK) (E:XK),Room k (A.deeper (envOfC qual scope s.heap.objs.size f cdv))->sp vs H Q E ->
   ∃t,PSs (cxOf CX P w K mg base N qual scope f cdv A outer s H E) body t/\t { nx:=λ _ H'=>Q .non H',rt:=Q } (start N vs) H) :
  FnOk P w K mg base CX (k+1) f (W.fnOf name qual params body scope dV kV doc pm an cdv ct) ps sp:=by
 refine ⟨len,λ A outer s H args us vs Q E hr e0 hb r hsp=>?_⟩
 have hl:=len _ _ _ _ hsp
 have KX:K.In s.heap:=e0.mod.kin.keeps λ b o e=>(e0.bs b o e).1
 have lim:s.heap.NoLimit:=e0.mod.nolimit.keeps λ b o e=>(e0.bs b o e).1
 have hkind:∀y∈ps.zip us,scope.names.lookup y.1=some .local\/(scope.names.lookup y.1=some .cell/\((cellsFrom (s.heap.objs.size+1) scope.names []).lookup y.1).isSome=true):=λ ⟨n,v⟩ hy=>by
  rcases S.par n (List.of_mem_zip hy).1 with q | q
  ·exact .inl q
  ·exact .inr ⟨q,W.cellsFrom_some _ _ _ (.inl q)⟩
 refine codeAny_call_function hr.depth (KX _ _ lk) rfl S.co S.gen rfl (W.codeRec_of KX hcd) (hb _ _ _ _ ?_)
 refine wpAny_newFunctionEnv_cells S.kind hkind λ env he s1 x=>?_
 subst he
 refine ⟨lim.keeps x.toInCall.keep,codeAny_func ?_⟩
 obtain ⟨t,ht,hq⟩:=hbody A outer s H vs Q E (hr.deeper _) hsp
 have I:Inv (cxOf CX P w K mg base N qual scope f cdv A outer s H E) [] (start N vs) H s1:=y5k S hr.hd e0 hl r x
 refine wpAny_mono (ht [] s1 (start N vs) H _ I hq) (λ fl s' hs=>?_) λ e s' hs=>hs
 have fin:∀ {σ':St}{H':Hp}{v:V}{u:Value},Inv (cxOf CX P w K mg base N qual scope f cdv A outer s H E) [] σ' H' s'->RelV v u->Q v H'->CE outer P w H s Q u s' :=
  λ {σ' H' v u} J rv q=>⟨v,H',J.os,J.bare,J.base,J.hok,rv,q⟩
 cases fl with
 | ret u =>
  obtain ⟨v,σ',H',J,rv,q⟩:=hs
  exact fin J rv q
 | next =>
  obtain ⟨σ',H',J,q⟩:=hs
  exact fin (v:=V.non) (u:=Value.none) J rfl q
 | brk =>
  obtain ⟨_,_,_,q⟩:=hs
  exact False.elim q
 | cont =>
  obtain ⟨_,_,_,q⟩:=hs
  exact False.elim q
section
variable {X:Cx}{x:Str}{p pos:Pos}{e:Expr}{es:List Expr}{t:TA}{id T:String}{r:List V->Hp->VK->Prop}
def tCB (r:List V->Hp->VK->Prop) (t:TA):TE:=λ σ H Q=>t σ H λ vs H1=>r vs H1 Q
theorem z0s (hc:CallR X (.builtin id) r) (hg:Gl X x) (hm:X.mg x=none) (hv:bootBuiltins x=some (.builtin id)) (ha:PA X (e::es) t) (hn:x ≠ "__name__" := by decide) (hdb:(x == ("__debug__" : Str))=false:=by decide)
  (he:starEach (e::es) X.env=(false,eval e X.env)::starEach es X.env:=by rfl) (hpl:(backTo pos (starEach es X.env)).any (·.1)=false:=by rfl):PE X (.Call (.Name x p) (e::es) [] pos) (tCB r t):=by
 intro pins s σ H Q I h
 refine wpAny_Call_Name_kw (z5b I hg hm hv ?_ hn hdb)
 exact PyProof.Rows.callWith_builtin1 (thn (ha pos pins s σ H _ I h) λ us s1 ⟨vs,H1,I1,r1,q1⟩=>hc pins s1 σ H1 vs us Q I1 r1 q1) he hpl
theorem z1c (hc:CallR X (.type T) r) (hg:Gl X x) (hm:X.mg x=none) (hv:bootBuiltins x=some (.type T)) (ha:PA X (e::es) t) (hn:x ≠ "__name__" := by decide) (hdb:(x == ("__debug__" : Str))=false:=by decide)
  (he:starEach (e::es) X.env=(false,eval e X.env)::starEach es X.env:=by rfl) (hpl:(backTo pos (starEach es X.env)).any (·.1)=false:=by rfl):PE X (.Call (.Name x p) (e::es) [] pos) (tCB r t):=by
 intro pins s σ H Q I h
 refine wpAny_Call_Name_kw (z5b I hg hm hv ?_ hn hdb)
 exact PyProof.Rows.callWith_type1 (thn (ha pos pins s σ H _ I h) λ us s1 ⟨vs,H1,I1,r1,q1⟩=>hc pins s1 σ H1 vs us Q I1 r1 q1) he hpl
end
end L2
namespace HT
open PySem PyProof.Rows
section
open PySem.SeqAt
open PySem.AutoSeq1 (wpAny_loadPart')
open PySem.MeetsSeq PySem.MeetsSeq2 PySem.MeetsSeq3
end
section
variable {prog:Program}{w:World}{A:Around}{E:Value->Shared->Prop}{s:Shared}
def sIx (n d:Nat):Option Int->Nat
 | none=>d
 | some v=>if v < 0 then (v+(n:Int)).toNat else min v.toNat n
end
end HT
namespace L2
open PySem PySem.Spec PyProof.Rows
abbrev TO:=St->Hp->(Option Int->Hp->Prop)->Prop
def PO (X:Cx) (e:Option Expr) (t:TO):Prop :=
 ∀(pins:List (Addr × Obj)) (s:Shared) (σ:St) (H:Hp) (Q:Option Int->Hp->Prop),Inv X pins σ H s->t σ H Q ->
  wpAny (model X.prog X.w) X.A (evalPart e X.env) (λ u s'=>∃o H',Inv X pins σ H' s'/\IsPart u o/\Q o H') X.xe s
def tNoPart:TO:=λ _ H Q=>Q none H
def tPart (t:TE):TO:=λ σ H Q=>t σ H λ x H1=>∃i,x=.int i/\Q (some i) H1
theorem y1w {ns:List Int}:∀ {us:List Value},Vals (ns.map V.int) us->IntsAre us ns:=by
 induction ns with
 | nil=>intro us r;rw [List.map_nil] at r;cases r;exact .nil
 | cons n ns ih =>
  intro us r
  rw [List.map_cons] at r
  cases r with
  | cons r1 r2 =>
   obtain ⟨t,e⟩:=r1
   subst e
   exact .cons n t (ih r2)
section
variable {X:Cx}{e:Expr}{te:TE}{lo hi:Option Expr}{tl th:TO}{pos p2:Pos}
theorem z1y:PO X none tNoPart:=by
 intro pins s σ H Q I h
 rw [evalPart_none]
 exact wpAny_pure ⟨none,H,I,.none,h⟩
theorem z1x (h:PE X e te):PO X (some e) (tPart te):=by
 intro pins s σ H Q I hw
 rw [evalPart_some]
 refine thn (h pins s σ H _ I hw) λ u s1 ⟨x,H1,I1,r1,q1⟩=>?_
 obtain ⟨i,rfl,q⟩:=q1
 obtain ⟨t,rfl⟩:=r1
 exact ⟨some i,H1,I1,.int i t,q⟩
def SlR (X:Cx) (r:V->Option Int->Option Int->Hp->VK->Prop):Prop :=
 ∀(pins:List (Addr × Obj)) (s:Shared) (σ:St) (H:Hp) (x:V) (v vl vu:Value) (lo hi:Option Int) (sl:Addr) (Q:VK),Inv X pins σ H s->RelV x v->s.heap.IsSliceOf sl vl vu .none->IsPart vl lo->IsPart vu hi->r x lo hi H Q ->
  ∃T id,typeLookup (.type T) "__getitem__" = pure (some (.builtin id))/\s.TypeIs v T/\wpAny (model X.prog X.w) X.A (getItem v (.ref sl)) (EP X pins σ Q) X.xe s
def tSl (r:V->Option Int->Option Int->Hp->VK->Prop) (te:TE) (tl th:TO):TE:=λ σ H Q=>te σ H λ x H1=>tl σ H1 λ l H2=>th σ H2 λ u H3=>r x l u H3 Q
theorem z1o {r:V->Option Int->Option Int->Hp->VK->Prop}(hr:SlR X r) (he:PE X e te) (hl:PO X lo tl) (hu:PO X hi th):PE X (.Subscript e (.Slice lo hi none p2) pos) (tSl r te tl th):=by
 intro pins s σ H Q I h
 refine Subscript_ (thn (he pins s σ H _ I h) λ v s1 ⟨x,H1,I1,r1,q1⟩=>?_)
 refine wpAny_Slice (thn (hl pins s1 σ H1 _ I1 q1) λ vl s2 ⟨l,H2,I2,pl,q2⟩=>thn (hu pins s2 σ H2 _ I2 q2) λ vu s3 ⟨u,H3,I3,pu,q3⟩=>?_)
 rw [evalPart_none]
 refine wpAny_pure ?_
 have I4:Inv X pins σ H3 { s3 with heap:=s3.heap.push { cls:=.type "slice",data:=.fields #[vl,vu,.none] } }:=I3.kept (t':=s3.toks) λ b ob q=>Heap.get?_push_of_some _ q
 obtain ⟨T,id,hT,ht,hg⟩:=hr pins { s3 with heap:=s3.heap.push { cls:=.type "slice",data:=.fields #[vl,vu,.none] } } σ H3 x v vl vu l u s3.heap.objs.size Q I4 r1 (Heap.IsSliceOf.new ..) pl pu q3
 show wpAny (model X.prog X.w) X.A (subscriptTail e (.Slice lo hi none p2) v (.ref s3.heap.objs.size)) (EP X pins σ Q) X.xe { s3 with heap:=s3.heap.push { cls:=.type "slice",data:=.fields #[vl,vu,.none] } }
 exact tail_any (ops:=[.ref s3.heap.objs.size,v]) ht hT hg (by with_unfolding_all rfl)
def cutV (xs:List V) (lo hi:Option Int):List V:=(xs.drop (HT.sIx xs.length 0 lo)).take (HT.sIx xs.length xs.length hi - HT.sIx xs.length 0 lo)
theorem z9i (xs:List V) (lo hi:Option Int):(cutV xs lo hi).length≤xs.length:=by
 unfold cutV
 rw [List.length_take,List.length_drop]
 omega
end
def ixN (n:Nat) (i:Int):Option Nat:=if 0≤i then (if i < n then some i.toNat else none) else if -(n:Int)≤i then some (i+n).toNat else none
def atI {α:Type}(xs:List α) (i:Int):Option α:=(ixN xs.length i).bind λ j=>xs[j]?
theorem y5i {n:Nat}{i:Int}{j:Nat}(h:ixN n i=some j):seqIndex? i n=some j/\j < n/\-(n:Int)≤i/\i < n:=by
 unfold ixN at h
 by_cases h0:0≤i
 ·rw [if_pos h0] at h
  by_cases h1:i < n
  ·rw [if_pos h1] at h
   have e:i.toNat=j:=Option.some.inj h
   exact ⟨by rw [seqIndex_of h0 h1,e],by omega,by omega,h1⟩
  ·rw [if_neg h1] at h;cases h
 ·rw [if_neg h0] at h
  by_cases h1:-(n:Int)≤i
  ·rw [if_pos h1] at h
   have e:(i+n).toNat=j:=Option.some.inj h
   exact ⟨by rw [seqIndex_neg (by omega) h1,e],by omega,h1,by omega⟩
  ·rw [if_neg h1] at h;cases h
theorem y6z {α:Type}{xs:List α}{i:Int}{v:α}(h:atI xs i=some v):∃j,seqIndex? i xs.length=some j/\xs[j]?=some v/\j < xs.length/\-(xs.length:Int)≤i/\i < xs.length:=by
 unfold atI at h
 cases e:ixN xs.length i with
 | none=>rw [e] at h;cases h
 | some j =>
  rw [e] at h
  obtain ⟨h1,h2,h3,h4⟩:=y5i e
  exact ⟨j,h1,h,h2,h3,h4⟩
theorem z0i {α:Type}{xs:List α}{j:Nat}{v:α}(h:xs[j]?=some v):atI xs (j:Int)=some v:=by
 have hj:j < xs.length:=(List.getElem?_eq_some_iff.mp h).1
 have e:ixN xs.length (j:Int)=some j:=by
  unfold ixN
  rw [if_pos (by omega),if_pos (by omega)];simp
 unfold atI;rw [e];exact h
def PlainIx (b:Expr):Prop:=∀o i,subscripted b false o i=operate [o,i] (getItem o i)
def IxR (X:Cx) (r:R2):Prop :=
 ∀(value slice:Expr) (pins:List (Addr × Obj)) (s:Shared) (σ:St) (H:Hp) (x y:V) (v u:Value) (Q:VK),Inv X pins σ H s->RelV x v->RelV y u->r x y H Q ->
  subscripted slice false v u=operate [v,u] (getItem v u)->wpAny (model X.prog X.w) X.A (subscriptTail value slice v u) (EP X pins σ Q) X.xe s
def MtR (X:Cx) (id:String) (r:V->List V->Hp->VK->Prop):Prop :=
 ∀(pins:List (Addr × Obj)) (s:Shared) (σ:St) (H:Hp) (x:V) (xs:List V) (v:Value) (us:List Value) (Q:VK),Inv X pins σ H s->RelV x v->Vals xs us->r x xs H Q ->
  wpAny (model X.prog X.w) X.A (call (.builtin id) (v::us)) (EP X pins σ Q) X.xe s
section
variable {X:Cx}{a b:Expr}{ta tb:TE}{pos:Pos}
theorem z0y {r:R2}(hr:IxR X r) (ha:PE X a ta) (hb:PE X b tb) (hs:PlainIx b):PE X (.Subscript a b pos) (tOp r ta tb):=by
 intro pins s σ H Q I h
 exact Subscript_ (x4o ha hb I h λ v u s2 x y H2 I2 rx ry q=>hr a b pins s2 σ H2 x y v u Q I2 rx ry q (hs _ _))
def rIxL (K:W.Frag):R2:=λ x y H Q=>∃p xs i v,x=.ref p/\y=.int i/\SqL K H p xs/\atI xs i=some v/\Q v H
def rIxT (K:W.Frag):R2:=λ x y H Q=>∃p xs i v,x=.ref p/\y=.int i/\SqT K H p xs/\atI xs i=some v/\Q v H
theorem z4i:IxR X (rIxL X.K):=by
 intro value slice pins s σ H x y v u Q I rx ry h hs
 obtain ⟨p,xs,i,z,rfl,rfl,hq,he,q⟩:=h
 cases rx
 obtain ⟨t,rfl⟩:=ry
 obtain ⟨its,r,pl,hz⟩:=I.list hq
 obtain ⟨j,h1,h2,h3,h4,h5⟩:=y6z he
 obtain ⟨w,ew,rw'⟩:=r.get h2
 have hl:=r.length
 have hn:=z7q
 have fin:EP X pins σ Q w s:=⟨z,H,I,rw',q⟩
 by_cases h0:0≤i
 ·have hj:i.toNat=j:=by
   rw [seqIndex_of h0 h5] at h1
   exact Option.some.inj h1
  exact item_listR pl.isList h0 (by omega) (by rw [hj];simpa using ew) fin hs
 ·have hj:(i+(its.toArray.size:Int)).toNat=j:=by
   rw [seqIndex_neg (by omega) h4] at h1
   rw [List.size_toArray,← hl]
   exact Option.some.inj h1
  exact subscriptTail_builtinR (x:=w) pl.isList.typeIs slot_list_getitem.lookup
   (wpAny_getItem_list_neg (Q:=λ r s'=>r=w/\EP X pins σ Q r s') pl.isList (by omega) (by rw [List.size_toArray]<;>omega) (by omega) (by rw [hj];simpa using ew) ⟨rfl,fin⟩) hs
theorem x3p:IxR X (rIxT X.K):=by
 intro value slice pins s σ H x y v u Q I rx ry h hs
 obtain ⟨p,xs,i,z,rfl,rfl,hq,he,q⟩:=h
 cases rx
 obtain ⟨t,rfl⟩:=ry
 obtain ⟨its,r,pl,hz⟩:=I.tuple hq
 obtain ⟨j,h1,h2,h3,h4,h5⟩:=y6z he
 obtain ⟨w,ew,rw'⟩:=r.get h2
 have hl:=r.length
 have hn:=z7q
 have fin:EP X pins σ Q w s:=⟨z,H,I,rw',q⟩
 exact subscriptTail_builtinR (x:=w) pl.typeIs slot_tuple_getitem.lookup
  (getItem_tuple (j:=j) (Q:=λ r s'=>r=w/\EP X pins σ Q r s') pl (by omega) (by omega) (by rw [List.size_toArray,← hl];exact h1) (by simpa using ew) ⟨rfl,fin⟩) hs
theorem y1s (its:List Value) (n j:Nat) (u:Value):Obj.mapSeq (·.setIfInBounds j u) { cls:=.type "list",data:=.seq its.toArray n }={ cls:=.type "list",data:=.seq (its.set j u).toArray n }:=by
 simp [Obj.mapSeq]
theorem Inv.lst {pins:List (Addr × Obj)}{σ:St}{H:Hp}{s:Shared}{p:Addr}{xs:List V}(I:Inv X pins σ H s) (h:H p=some (.lst xs)) :
  ∃(its:List Value) (n:Nat),Vals xs its/\s.heap.get? p=some { cls:=.type "list",data:=.seq its.toArray n }/\xs.length≤sizeLine:=by
 obtain ⟨z,its,n,r,e⟩:=I.hok p _ h
 exact ⟨its,n,r,e,z⟩
theorem Inv.lstUpd {pins:List (Addr × Obj)}{σ:St}{H:Hp}{s:Shared}{p:Addr}{xs ys:List V}{its its':List Value}{n n':Nat}{f:Obj->Obj}(I:Inv X pins σ H s) (h:H p=some (.lst xs))
  (ho:s.heap.get? p=some { cls:=.type "list",data:=.seq its.toArray n }) (hf:f { cls:=.type "list",data:=.seq its.toArray n }={ cls:=.type "list",data:=.seq its'.toArray n' }) (r:Vals ys its') (hz:ys.length≤sizeLine) (t:Nat) :
  Inv X pins σ (upd H p (.lst ys)) { s with heap:=s.heap.update p f,toks:=t }:=by
 have e:(s.heap.update p f).get? p=some { cls:=.type "list",data:=.seq its'.toArray n' }:=by
  rw [Heap.get?_update_self f ho (by rw [hf]<;>rfl),hf]
 refine I.write (x:=p) (e:=p) (by rw [h];trivial) (.inl rfl) (λ b u hb q=>(Heap.get?_update_other _ _ (Ne.symm hb)).trans q) ⟨_,e⟩ ?_
 exact ⟨hz,its',n',r,e⟩
def rSetL:V->V->V->Hp->(Hp->Prop)->Prop:=λ o i v H Q=>∃p xs k j,o=.ref p/\i=.int k/\H p=some (.lst xs)/\ixN xs.length k=some j/\Q (upd H p (.lst (xs.set j v)))
theorem z6d:PSet X rSetL:=by
 intro pins s σ H o i v ov iv u Q I ro ri rv h
 obtain ⟨p,xs,k,j,rfl,rfl,hp,hj,q⟩:=h
 cases ro
 obtain ⟨t,rfl⟩:=ri
 obtain ⟨its,n,r,ho,hz⟩:=I.lst hp
 obtain ⟨h1,h2,h3,h4⟩:=y5i hj
 have hl:=r.length
 have hn:=z7q
 have I':Inv X pins σ (upd H p (.lst (xs.set j v))) { s with heap:=s.heap.update p (Obj.mapSeq (·.setIfInBounds j u)) } :=
  I.lstUpd hp ho (y1s its n j u) (r.set rv j) (by rw [List.length_set];exact hz) s.toks
 by_cases h0:0≤k
 ·have hk:k.toNat=j:=by
   rw [seqIndex_of h0 h4] at h1
   exact Option.some.inj h1
  exact W.ki_setAt ho h0 (by omega) (by rw [List.size_toArray,← hl];exact h4) (by rw [hk];exact ⟨_,I',q⟩)
 ·have hk:(k+(its.toArray.size:Int)).toNat=j:=by
   rw [seqIndex_neg (by omega) h3] at h1
   rw [List.size_toArray,← hl]
   exact Option.some.inj h1
  exact W.ki_setBack ho (by omega) (by rw [List.size_toArray,← hl];exact h3) (by omega) (by rw [hk];exact ⟨_,I',q⟩)
theorem z7c (lo hi:Option Int) (n:Nat):(sliceBounds lo hi none n).1=((HT.sIx n 0 lo:Nat):Int)/\(sliceBounds lo hi none n).2.1=((HT.sIx n n hi:Nat):Int)/\(sliceBounds lo hi none n).2.2=1:=by
 refine ⟨?_,?_,rfl⟩
 ·cases lo with
  | none=>simp [sliceBounds,HT.sIx]
  | some i =>
   simp only [sliceBounds,HT.sIx,Option.getD_none,show (1:Int) > 0 by decide,if_true]
   by_cases h:i < 0
   ·simp only [h,if_true]<;>omega
   ·simp only [h,if_false]<;>omega
 ·cases hi with
  | none=>simp [sliceBounds,HT.sIx]
  | some i =>
   simp only [sliceBounds,HT.sIx,Option.getD_none,show (1:Int) > 0 by decide,if_true]
   by_cases h:i < 0
   ·simp only [h,if_true]<;>omega
   ·simp only [h,if_false]<;>omega
theorem z6c (its:List Value) (lo hi:Option Int):slicePick its.toArray lo hi none=((its.drop (HT.sIx its.length 0 lo)).take (HT.sIx its.length its.length hi - HT.sIx its.length 0 lo)).toArray:=by
 obtain ⟨h1,h2,h3⟩:=z7c lo hi its.toArray.size
 unfold slicePick
 rw [h1,h2,h3]
 simp only [sliceRange_one,pick_run,List.size_toArray]<;>rfl
def rSlL (K:W.Frag):V->Option Int->Option Int->Hp->VK->Prop:=λ x lo hi H Q=>∃a xs,x=.ref a/\SqL K H a xs/\∀p,H p=none->Q (.ref p) (upd H p (.lst (cutV xs lo hi)))
theorem z2n:SlR X (rSlL X.K):=by
 intro pins s σ H x v vl vu lo hi sl Q I rx hs pl pu h
 obtain ⟨a,xs,rfl,hx,q⟩:=h
 cases rx
 obtain ⟨its,r,ht,hz⟩:=I.list hx
 have hlen:=r.length
 refine ⟨"list",_,slot_list_getitem.lookup,ht.isList.typeIs,?_⟩
 refine wpAny_getItem_list_slice ht.isList hs pl pu .none (by simp) ?_ (by rw [List.size_toArray]<;>omega)
 rw [z6c,← hlen]
 refine ⟨.ref s.heap.objs.size,_,I.laid (t':=s.toks) (o:=.lst (cutV xs lo hi)) (λ b ob q=>Heap.get?_push_of_some _ q) (Nat.le_refl _) ?_,rfl,q _ (I.hok.fresh (Nat.le_refl _))⟩
 exact ⟨Nat.le_trans (z9i xs lo hi) hz,_,0,(r.drop (HT.sIx xs.length 0 lo)).take (HT.sIx xs.length xs.length hi - HT.sIx xs.length 0 lo),Heap.get?_push_size _ rfl⟩
def flatV:V->Bool
 | .non=>true
 | .bl _=>true
 | .int _=>true
 | .str _=>true
 | _=>false
def eqV:V->V->Bool
 | .non,.non=>true
 | .bl a,.bl b=>a == b
 | .bl a,.int b=>(if a then 1 else 0) == b
 | .int a,.bl b=>a == (if b then 1 else 0)
 | .int a,.int b=>a == b
 | .str a,.str b=>a == b
 | _,_=>false
theorem x0g {A:Around}{s:Shared}{y x:V}{u v:Value}(ry:RelV y u) (rx:RelV x v) (fy:flatV y=true) (fx:flatV x=true):SeqAt.EqAt A s u v (eqV y x):=by
 cases y with
 | non =>
  cases ry
  cases x with
  | non=>cases rx;exact SeqAt.EqAt.same _
  | bl b=>cases rx;exact SeqAt.EqAt.none_bool b
  | int b=>obtain ⟨t,rfl⟩:=rx;exact SeqAt.EqAt.none_int b t
  | str b=>obtain ⟨t,rfl⟩:=rx;exact SeqAt.EqAt.none_str b t
  | _=>exact absurd (show false=true from fx) Bool.false_ne_true
 | bl a =>
  cases ry
  cases x with
  | non=>cases rx;exact SeqAt.EqAt.bool_none a
  | bl b=>cases rx;exact SeqAt.EqAt.bool_bool a b
  | int b=>obtain ⟨t,rfl⟩:=rx;exact SeqAt.EqAt.bool_int a b t
  | str b=>obtain ⟨t,rfl⟩:=rx;exact SeqAt.EqAt.bool_str a b t
  | _=>exact absurd (show false=true from fx) Bool.false_ne_true
 | int a =>
  obtain ⟨t',rfl⟩:=ry
  cases x with
  | non=>cases rx;exact SeqAt.EqAt.int_none a t'
  | bl b=>cases rx;exact SeqAt.EqAt.int_bool a t' b
  | int b=>obtain ⟨t,rfl⟩:=rx;exact SeqAt.EqAt.int_int a t' b t
  | str b=>obtain ⟨t,rfl⟩:=rx;exact SeqAt.EqAt.int_str a t' b t
  | _=>exact absurd (show false=true from fx) Bool.false_ne_true
 | str a =>
  obtain ⟨t',rfl⟩:=ry
  cases x with
  | non=>cases rx;exact SeqAt.EqAt.str_none a t'
  | bl b=>cases rx;exact SeqAt.EqAt.str_bool a t' b
  | int b=>obtain ⟨t,rfl⟩:=rx;exact SeqAt.EqAt.str_int a t' b t
  | str b=>obtain ⟨t,rfl⟩:=rx;exact SeqAt.EqAt.str_str a t' b t
  | _=>exact absurd (show false=true from fx) Bool.false_ne_true
 | _=>exact absurd (show false=true from fy) Bool.false_ne_true
def eqU (x:V) (u:Value):Bool:=match u with
 | .none=>eqV .non x
 | .bool b=>eqV (.bl b) x
 | .int i _=>eqV (.int i) x
 | .str z _=>eqV (.str z) x
 | _=>false
theorem y0s {x y:V}{u:Value}(r:RelV y u) (f:flatV y=true):eqU x u=eqV y x:=by
 cases y with
 | non=>cases r;rfl
 | bl b=>cases r;rfl
 | int i=>obtain ⟨t,rfl⟩:=r;rfl
 | str z=>obtain ⟨t,rfl⟩:=r;rfl
 | _=>exact absurd (show false=true from f) Bool.false_ne_true
theorem z9k {x:V}:∀ {xs:List V}{us:List Value},Vals xs us->xs.all flatV=true->us.any (eqU x)=xs.any λ y=>eqV y x
 | _,_,.nil,_=>rfl
 | y::xs,u::us,.cons r t,f=>by
  rw [List.all_cons,Bool.and_eq_true] at f
  rw [List.any_cons,List.any_cons,y0s r f.1,z9k t f.2]
theorem z6m {A:Around}{s:Shared}{x:V}{v:Value}(rx:RelV x v) (fx:flatV x=true):∀ {xs:List V}{us:List Value},Vals xs us->xs.all flatV=true->∀u∈us,SeqAt.EqAt A s u v (eqU x u)
 | _,_,.nil,_=>λ u hu=>by cases hu
 | y::xs,u::us,.cons r t,f=>λ u' hu=>by
  rw [List.all_cons,Bool.and_eq_true] at f
  rcases List.mem_cons.mp hu with rfl | hu
  ·rw [y0s r f.1];exact x0g r rx f.1 fx
  ·exact z6m rx fx t f.2 u' hu
def inV (x:V) (xs:List V):Bool:=xs.any λ y=>eqV y x
def rIn (K:W.Frag) (neg:Bool):R2:=λ x y H Q=>∃p xs,y=.ref p/\(SqL K H p xs\/SqT K H p xs)/\flatV x=true/\xs.all flatV=true/\Q (.bl (if neg then !inV x xs else inV x xs)) H
theorem y4b:OpR X (compareOp .In) (rIn X.K false):=by
 intro pins s σ H x y v u Q I rx ry h
 obtain ⟨p,xs,rfl,hq,fx,fs,q⟩:=h
 cases ry
 rcases hq with hq | hq
 ·obtain ⟨its,r,pl,hz⟩:=I.list hq
  refine SeqAt.in_listAt (eqU x) pl.isList (λ w hw=>z6m rx fx r fs w (by simpa using hw)) ⟨.bl _,H,I,rfl,?_⟩
  rw [show its.toArray.any (eqU x)=its.any (eqU x) by simp,z9k r fs]
  exact q
 ·obtain ⟨its,r,pl,hz⟩:=I.tuple hq
  refine SeqAt.in_tupleAt (eqU x) pl (λ w hw=>z6m rx fx r fs w (by simpa using hw)) ⟨.bl _,H,I,rfl,?_⟩
  rw [show its.toArray.any (eqU x)=its.any (eqU x) by simp,z9k r fs]
  exact q
theorem z0t:CallR X (.builtin "len") (λ xs H Q=>∃p ys,xs=[.ref p]/\(SqL X.K H p ys\/SqT X.K H p ys)/\Q (.int ys.length) H):=by
 intro pins s σ H xs us Q I r h
 obtain ⟨p,ys,rfl,hq,q⟩:=h
 obtain ⟨u,rfl,rx⟩:=z3a r
 cases rx
 have hn:=z7q
 rcases hq with hq | hq
 ·obtain ⟨its,r',pl,hz⟩:=I.list hq
  have hlen:=r'.length
  exact Calls.call_len_list pl.isList (by simp only [List.size_toArray]<;>omega) ⟨.int ys.length,H,I.tok _,⟨s.toks+1,by rw [List.size_toArray,hlen]⟩,q⟩
 ·obtain ⟨its,r',pl,hz⟩:=I.tuple hq
  have hlen:=r'.length
  exact len_tuple pl (by simp only [List.size_toArray]<;>omega) ⟨.int ys.length,H,I.tok _,⟨s.toks+1,by rw [List.size_toArray,hlen]⟩,q⟩
theorem z2c:CallR X (.builtin "len") (λ xs H Q=>∃z,xs=[.str z]/\z.length≤sizeLine/\Q (.int z.length) H):=by
 intro pins s σ H xs us Q I r h
 obtain ⟨z,rfl,hz,q⟩:=h
 obtain ⟨u,rfl,t,rfl⟩:=z3a r
 have hn:=z7q
 exact len_str (by omega) ⟨.int z.length,H,I.tok _,⟨_,rfl⟩,q⟩
theorem z8c:CallR X (.type "list") (λ xs H Q=>∃p ys,xs=[.ref p]/\(SqL X.K H p ys\/SqT X.K H p ys)/\∀l,H l=none->Q (.ref l) (upd H l (.lst ys))):=by
 intro pins s σ H xs us Q I r h
 obtain ⟨p,ys,rfl,hq,q⟩:=h
 obtain ⟨u,rfl,rx⟩:=z3a r
 cases rx
 have fin:∀(its:List Value),Vals ys its->ys.length≤sizeLine->∀(h':Heap) (c':Nat),(∀b o',s.heap.get? b=some o'->h'.get? b=some o') ->
   h'.get? s.heap.objs.size=some { cls:=.type "list",dict:=none,data:=.seq its.toArray c',slots:=#[] }->EP X pins σ Q (.ref s.heap.objs.size) { s with heap:=h' }:=λ its r' hz h' c' kp e =>
  ⟨.ref s.heap.objs.size,_,I.laid (t':=s.toks) kp (Nat.le_refl _) (show ObjOk X.prog X.w _ h' _ (.lst ys) from ⟨hz,its,c',r',e⟩),rfl,q _ (I.hok.fresh (Nat.le_refl _))⟩
 rcases hq with hq | hq
 ·obtain ⟨its,r',pl,hz⟩:=I.list hq
  have hlen:=r'.length
  obtain ⟨o,ho,hc,n,hd⟩:=pl.isList
  exact call_list_seq p (.inl rfl) ho hc hd (λ h' c' kp e=>fin its r' hz h' c' kp e) (by simp only [List.size_toArray]<;>omega)
 ·obtain ⟨its,r',pl,hz⟩:=I.tuple hq
  have hlen:=r'.length
  obtain ⟨o,ho,hc,n,hd⟩:=pl
  exact call_list_seq p (.inr rfl) ho hc hd (λ h' c' kp e=>fin its r' hz h' c' kp e) (by simp only [List.size_toArray]<;>omega)
theorem z1k:CallR X (.type "tuple") (λ xs H Q=>∃p ys,xs=[.ref p]/\((SqL X.K H p ys/\∀l,H l=none->Q (.ref l) (upd H l (.tup ys)))\/(SqT X.K H p ys/\Q (.ref p) H))):=by
 intro pins s σ H xs us Q I r h
 obtain ⟨p,ys,rfl,h⟩:=h
 obtain ⟨u,rfl,rx⟩:=z3a r
 cases rx
 rcases h with ⟨hq,q⟩ | ⟨hq,q⟩
 ·obtain ⟨its,r',pl,hz⟩:=I.list hq
  have hlen:=r'.length
  refine call_tuple_list pl.isList (λ h' kp=>?_) (by simp only [List.size_toArray]<;>omega)
  have I1:Inv X pins σ H { s with heap:=h' }:=I.kept (t':=s.toks) kp
  have I2:Inv X pins σ (upd H h'.objs.size (.tup ys)) { s with heap:=h'.push { cls:=.type "tuple",data:=.seq its.toArray } } :=
   I1.laid (t':=s.toks) (λ b o e=>Heap.get?_push_of_some _ e) (Nat.le_refl _) (show ObjOk X.prog X.w _ _ _ (.tup ys) from ⟨hz,its,r',IsTup.new _ _⟩)
  exact ⟨.ref h'.objs.size,_,I2,rfl,q _ (I1.hok.fresh (Nat.le_refl _))⟩
 ·obtain ⟨its,r',pl,hz⟩:=I.tuple hq
  exact call_tuple_same pl ⟨.ref p,H,I,rfl,q⟩
def tyV (K:W.Frag) (T:String) (x:V) (H:Hp):Prop:=match x with
 | .str _=>T = "str"
 | .int _=>T = "int"
 | .ref p=>(T = "list" /\ ∃xs,SqL K H p xs)\/(T = "tuple" /\ ∃o,K.lookup p=some o/\o.cls=.type "tuple" /\ o.dict=none) \/
   (T = "dict" /\ ((∃kvs,H p=some (.dK kvs))\/∃kvs,H p=some (.dT kvs)))\/(T = "set" /\ ∃S n,H p=some (.set S n))
 | _=>False
theorem x0a {pins:List (Addr × Obj)}{σ:St}{H:Hp}{s:Shared}{T:String}{x:V}{v:Value}(I:Inv X pins σ H s) (r:RelV x v) (ty:tyV X.K T x H) :
  s.TypeIs v T/\∀a,v=.ref a->∃ob,s.heap.get? a=some ob/\ob.dict=none:=by
 cases x with
 | str z =>
  obtain ⟨t,rfl⟩:=r
  cases (show T = "str" from ty)
  exact ⟨typeIs_str s z t,λ _ e=>nomatch e⟩
 | int i =>
  obtain ⟨t,rfl⟩:=r
  cases (show T = "int" from ty)
  exact ⟨typeIs_int s i t,λ _ e=>nomatch e⟩
 | ref p =>
  cases r
  rcases ty with ⟨rfl,xs,hq⟩ | ⟨rfl,o,hk,hc,hd⟩ | ⟨rfl,hk⟩ | ⟨rfl,S,n,hk⟩
  ·obtain ⟨its,_,pl,_⟩:=I.list hq
   refine ⟨pl.isList.typeIs,λ a e=>?_⟩
   cases e
   obtain ⟨o,n,e,c,hd,_⟩:=pl
   exact ⟨o,e,hd⟩
  ·refine ⟨⟨o,I.kIn p o hk,hc⟩,λ a e=>?_⟩
   cases e
   exact ⟨o,I.kIn _ o hk,hd⟩
  ·have z:∃o,s.heap.get? p=some o/\o.ExactDict:=by
    rcases hk with ⟨kvs,hk⟩ | ⟨kvs,hk⟩
    ·obtain ⟨_,_,_,_,o,_,_,e,ex,_⟩:=I.hok p _ hk
     exact ⟨o,e,ex⟩
    ·obtain ⟨_,_,_,_,o,_,_,e,ex,_⟩:=I.hok p _ hk
     exact ⟨o,e,ex⟩
   obtain ⟨o,e,ex⟩:=z
   refine ⟨⟨o,e,ex.1⟩,λ a e2=>?_⟩
   cases e2
   exact ⟨o,e,ex.2.1⟩
  ·obtain ⟨o,_,_,_,e,ex,_⟩:=I.hok p _ hk
   refine ⟨⟨o,e,ex.1⟩,λ a e2=>?_⟩
   cases e2
   exact ⟨o,e,ex.2.1⟩
 | _=>exact False.elim ty
def tBM0 (K:W.Frag) (T:String) (r:V->List V->Hp->VK->Prop) (to:TE):TE:=λ σ H Q=>to σ H λ x H1=>tyV K T x H1/\r x [] H1 Q
def tBM (K:W.Frag) (T:String) (r:V->List V->Hp->VK->Prop) (to:TE) (t:TA):TE:=λ σ H Q=>to σ H λ x H1=>tyV K T x H1/\t σ H1 λ xs H2=>r x xs H2 Q
variable {o e:Expr}{es:List Expr}{to:TE}{t:TA}{name:Str}{apos cpos:Pos}{T id:String}{r:V->List V->Hp->VK->Prop}
theorem z2r (pa:PlainAttrs T) (slot:Slot T name id) (hty:typeOf (.builtin id)=pure (.type "method_descriptor")) (hm:MtR X id r) (ho:PE X o to) (ha:PA X (e::es) t)
  (hbase:attributeBase o name X.env (eval o X.env)=eval o X.env:=by rfl)
  (hfew:((backTo cpos (starEach (e::es) X.env)).all (λ x=>!x.1) && (backToKw cpos (keywordEach [] X.env)).all (λ x=>x.1.isSome)
   && decide ((e::es).length+([]:List Keyword).length+(if ([]:List Keyword).isEmpty then 0 else 1) < 30))=true:=by rfl)
  (hline:(apos.endLine == cpos.line)=true:=by rfl) (hs:starEach (e::es) X.env=(false,eval e X.env)::starEach es X.env:=by rfl) (hplain:(backTo cpos (starEach es X.env)).any (·.1)=false:=by rfl) :
  PE X (.Call (.Attribute o name apos) (e::es) [] cpos) (tBM X.K T r to t):=by
 intro pins s σ H Q I h
 refine wpAny_Call_method_late hbase hfew hline rfl (thn (ho pins s σ H _ I h) λ v s1 ⟨x,H1,I1,r1,ty,q1⟩=>?_)
 obtain ⟨h1,h2⟩:=x0a I1 r1 ty
 refine ⟨T,id,pa,slot,hty,h1,h2,?_⟩
 have hA:=ha cpos pins s1 σ H1 _ I1 q1
 rw [hs] at hA ⊢
 refine Calls.callWith_builtin (by show (false || (backTo cpos (starEach es X.env)).any (·.1))=false;rw [hplain]<;>rfl) (Calls.evalArgs_plain ?_)
 exact thn hA λ us s2 ⟨vs,H2,I2,r2,q2⟩=>hm pins s2 σ H2 x vs v us Q I2 r1 r2 q2
end
def MtM (X:Cx) (id:String) (r:V->List V->Hp->VK->Prop):Prop :=
 ∀(pins:List (Addr × Obj)) (s:Shared) (σ:St) (H:Hp) (x:V) (xs:List V) (v:Value) (us:List Value) (Q:VK),Inv X pins σ H s->RelV x v->Vals xs us->r x xs H Q ->
  wpAny (model X.prog X.w) X.A (call (.builtin id) (v::us)) (EP X pins σ Q) X.xe s
theorem Vals.one:∀ {x:V}{us:List Value},Vals [x] us->∃u,us=[u]/\RelV x u
 | _,_,.cons r .nil=>⟨_,rfl,r⟩
theorem Vals.two:∀ {x y:V}{us:List Value},Vals [x,y] us->∃u v,us=[u,v]/\RelV x u/\RelV y v
 | _,_,_,.cons r (.cons q .nil)=>⟨_,_,rfl,r,q⟩
theorem Vals.zero:∀ {us:List Value},Vals [] us->us=[]
 | _,.nil=>rfl
theorem Vals.dropLast {xs:List V}{us:List Value}(h:Vals xs us):Vals xs.dropLast us.dropLast:=by
 induction h with
 | nil=>exact .nil
 | cons r t ih =>
  cases t with
  | nil=>exact .nil
  | cons q t'=>exact .cons r ih
theorem Vals.eraseIdx:∀ {xs:List V}{us:List Value}(i:Nat),Vals xs us->Vals (xs.eraseIdx i) (us.eraseIdx i)
 | _,_,_,.nil=>.nil
 | _,_,0,.cons _ t=>t
 | _,_,i+1,.cons r t=>.cons r (Vals.eraseIdx i t)
theorem Vals.rep {xs:List V}{us:List Value}(h:Vals xs us):∀k:Nat,Vals (List.replicate k xs).flatten (List.replicate k us).flatten
 | 0=>.nil
 | k+1=>by
  rw [List.replicate_succ,List.replicate_succ,List.flatten_cons,List.flatten_cons]
  exact Vals.append h (Vals.rep h k)
theorem z7s {α:Type}:∀(l:List α) (i:Nat),(l.eraseIdx i).length≤l.length
 | [],_=>Nat.le_refl _
 | _::_,0=>Nat.le_succ _
 | _::r,i+1=>Nat.succ_le_succ (z7s r i)
theorem z7w (its:List Value):∀(k:Nat) (acc:List Value),
  List.foldl (λ x1 x2=>x1++x2) acc.toArray (List.replicate k its.toArray)=(acc++(List.replicate k its).flatten).toArray
 | 0,acc=>by simp
 | k+1,acc=>by
  have e:acc.toArray++its.toArray=(acc++its).toArray:=by simp
  have e2:(acc++its)++(List.replicate k its).flatten=acc++(List.replicate (k+1) its).flatten:=by
   rw [List.replicate_succ,List.flatten_cons,List.append_assoc]
  rw [← e2,← z7w its k (acc++its),← e,List.replicate_succ,List.foldl_cons]
section
variable {X:Cx}{pins:List (Addr × Obj)}{σ:St}{H:Hp}{s:Shared}{l b:Addr}{xs ys zs:List V}
theorem Inv.lset {its its':List Value}{n:Nat}{f:Array Value->Array Value}{t':Nat}(I:Inv X pins σ H s) (hH:H l=some (.lst xs))
  (e:s.heap.get? l=some { cls:=.type "list",data:=.seq its.toArray n }) (hf:f its.toArray=its'.toArray) (hv:Vals ys its') (hz:ys.length≤sizeLine) :
  Inv X pins σ (upd H l (.lst ys)) { s with heap:=s.heap.update l (Obj.mapSeq f),toks:=t' }:=by
 have q:=PySem.IsL.update e f
 rw [hf] at q
 refine I.write (x:=l) (e:=l) (by rw [hH];exact trivial) (.inl rfl) (λ b' u hb hu=>(Heap.get?_update_other s.heap (Obj.mapSeq f) (Ne.symm hb)).trans hu) ⟨_,q⟩ ?_
 exact ⟨hz,its',_,hv,q⟩
theorem Inv.lnew {its:List Value}{t':Nat}(I:Inv X pins σ H s) (hv:Vals ys its) (hz:ys.length≤sizeLine) :
  Inv X pins σ (upd H s.heap.objs.size (.lst ys)) { s with heap:=s.heap.push { cls:=.type "list",data:=.seq its.toArray },toks:=t' } :=
 I.laid (λ _ _ q=>Heap.get?_push_of_some _ q) (Nat.le_refl _) ⟨hz,its,0,hv,Heap.get?_push_size _ rfl⟩
theorem Inv.fresh (I:Inv X pins σ H s):H s.heap.objs.size=none:=I.hok.fresh (Nat.le_refl _)
theorem Inv.lstM (I:Inv X pins σ H s) (hH:H l=some (.lst xs)):xs.length≤sizeLine/\∃(its:List Value) (n:Nat),Vals xs its/\xs.length=its.length/\s.heap.get? l=some { cls:=.type "list",data:=.seq its.toArray n }:=by
 obtain ⟨z,its,n,r,e⟩:=I.hok l _ hH
 exact ⟨z,its,n,r,r.length,e⟩
theorem y0g {n:Nat}(h:n≤sizeLine):Builtin.List.listTooLong n=false:=by
 unfold Builtin.List.listTooLong
 exact decide_eq_false (by omega)
end
section
variable {X:Cx}
def rAppend:V->List V->Hp->VK->Prop:=λ x vs H Q=>∃l xs y,x=.ref l/\vs=[y]/\H l=some (.lst xs)/\xs.length < sizeLine/\Q .non (upd H l (.lst (xs++[y])))
theorem y4x:MtM X "list.append" rAppend:=by
 intro pins s σ H x vs v us Q I rx rv h
 obtain ⟨l,xs,y,rfl,rfl,hH,hz,q⟩:=h
 cases rx
 obtain ⟨u,rfl,ru⟩:=rv.one
 obtain ⟨z,its,n,r,hl,e⟩:=I.lstM hH
 refine call_meets F.slot_list_append ⟨_,e,rfl⟩ F.entry_list_append (F.args_list_append_2 _ _) (PySem.list_append l its.toArray n u (by rw [List.size_toArray];omega)) ⟨e,?_⟩
 refine ⟨.non,_,I.lset (its':=its++[u]) hH e (by simp) (r.append (.cons ru .nil)) ?_,rfl,q⟩
 rw [List.length_append,List.length_singleton]
 omega
def rExtend:V->List V->Hp->VK->Prop:=λ x vs H Q=>∃l b xs zs,x=.ref l/\vs=[.ref b]/\H l=some (.lst xs)/\H b=some (.lst zs)/\xs.length+zs.length≤sizeLine/\Q .non (upd H l (.lst (xs++zs)))
theorem y4w:MtM X "list.extend" rExtend:=by
 intro pins s σ H x vs v us Q I rx rv h
 obtain ⟨l,b,xs,zs,rfl,rfl,hH,hB,hz,q⟩:=h
 cases rx
 obtain ⟨u,rfl,ru⟩:=rv.one
 cases ru
 obtain ⟨z,its,n,r,hl,e⟩:=I.lstM hH
 obtain ⟨z2,its2,n2,r2,hl2,e2⟩:=I.lstM hB
 have hsz:its.toArray.size+its2.toArray.size≤sizeLine:=by rw [List.size_toArray,List.size_toArray];omega
 have hlong:¬(!its.toArray.isEmpty && Builtin.List.listTooLong (its.toArray.size+its2.toArray.size))=true:=by
  rw [y0g hsz,Bool.and_false]
  exact Bool.false_ne_true
 refine call_meets F.slot_list_extend ⟨_,e,rfl⟩ F.entry_list_extend (F.args_list_extend_2 _ _)
  (AutoSeq1.list_extend_list_list_0 l its.toArray n b its2.toArray n2 hlong (by rw [List.size_toArray];omega) (by omega)) ⟨e,e2,?_⟩
 refine ⟨.non,_,I.lset (its':=its++its2) hH e (by simp) (r.append r2) ?_,rfl,q⟩
 rw [List.length_append]
 omega
def rPopAt:V->List V->Hp->VK->Prop:=λ x vs H Q=>∃l xs i k y,x=.ref l/\vs=[.int i]/\H l=some (.lst xs)/\-(2 ^ 63)≤i/\i < 2 ^ 63/\seqIndex? i xs.length=some k/\xs[k]?=some y/\Q y (upd H l (.lst (xs.eraseIdx k)))
theorem y8n:MtM X "list.pop" rPopAt:=by
 intro pins s σ H x vs v us Q I rx rv h
 obtain ⟨l,xs,i,k,y,rfl,rfl,hH,h1,h2,hk,hy,q⟩:=h
 cases rx
 obtain ⟨u,rfl,ru⟩:=rv.one
 obtain ⟨t,rfl⟩:=ru
 obtain ⟨z,its,n,r,hl,e⟩:=I.lstM hH
 obtain ⟨w,hw,rw'⟩:=r.get hy
 refine call_meets F.slot_list_pop ⟨_,e,rfl⟩ F.entry_list_pop (F.args_list_pop_2 _ _)
  (MeetsSeq.list_pop_at l its.toArray n i t k w (fitsIndex_both h1 h2) (by rw [List.size_toArray,← hl];exact hk) (by rw [← Array.getElem?_toList];exact hw) (by rw [List.size_toArray];omega)) ⟨e,?_⟩
 refine ⟨y,_,I.lset (its':=its.eraseIdx k) hH e ?_ (r.eraseIdx k) ?_,rw',q⟩
 ·show its.toArray.eraseIdxIfInBounds k=(its.eraseIdx k).toArray
  rw [List.eraseIdxIfInBounds_toArray]
 ·have:=z7s xs k
  omega
def rClear:V->List V->Hp->VK->Prop:=λ x vs H Q=>∃l xs,x=.ref l/\vs=[]/\H l=some (.lst xs)/\Q .non (upd H l (.lst []))
def rCat:R2:=λ x y H Q=>∃l b xs zs,x=.ref l/\y=.ref b/\H l=some (.lst xs)/\H b=some (.lst zs)/\xs.length+zs.length≤sizeLine/\∀p,H p=none->Q (.ref p) (upd H p (.lst (xs++zs)))
theorem z3u:OpR X (binaryOp .Add) rCat:=by
 intro pins s σ H x y v u Q I rx ry h
 obtain ⟨l,b,xs,zs,rfl,rfl,hH,hB,hz,q⟩:=h
 cases rx
 cases ry
 obtain ⟨z,its,n,r,hl,e⟩:=I.lstM hH
 obtain ⟨z2,its2,n2,r2,hl2,e2⟩:=I.lstM hB
 refine PySem.P.add_list e e2 ?_ (by rw [List.size_toArray,List.size_toArray];omega)
 have ea:its.toArray++its2.toArray=(its++its2).toArray:=by simp
 rw [ea]
 exact ⟨.ref _,_,I.lnew (t':=s.toks) (r.append r2) (by rw [List.length_append];omega),rfl,q _ I.fresh⟩
def rRep:R2:=λ x y H Q=>∃l k xs,x=.ref l/\y=.int k/\H l=some (.lst xs)/\-(2 ^ 63)≤k/\k < 2 ^ 63/\xs.length * k.toNat≤sizeLine /\
 ∀p,H p=none->Q (.ref p) (upd H p (.lst (List.replicate k.toNat xs).flatten))
theorem x1d {α:Type}(xs:List α) (k:Nat):(List.replicate k xs).flatten.length=k * xs.length:=by
 induction k with
 | zero=>simp
 | succ k ih=>rw [List.replicate_succ,List.flatten_cons,List.length_append,ih,Nat.succ_mul,Nat.add_comm]
theorem x3b:OpR X (binaryOp .Mult) rRep:=by
 intro pins s σ H x y v u Q I rx ry h
 obtain ⟨l,k,xs,rfl,rfl,hH,h1,h2,hz,q⟩:=h
 cases rx
 obtain ⟨t,rfl⟩:=ry
 obtain ⟨z,its,n,r,hl,e⟩:=I.lstM hH
 have hlen:its.toArray.size * k.toNat≤sizeLine:=by rw [List.size_toArray,← hl];exact hz
 have hcap:¬its.toArray.size * k.toNat > (2 ^ 63 - 1) / 8:=by
  have:(sizeLine:Nat)≤(2 ^ 63 - 1) / 8:=by decide
  omega
 have hfit:¬(!Builtin.List.listFitsIndex k)=true:=by
  rw [fitsIndex_both h1 h2]
  exact Bool.false_ne_true
 have hlong:¬Builtin.List.listTooLong (its.toArray.size * k.toNat)=true:=by
  rw [y0g hlen]
  exact Bool.false_ne_true
 have hnew:List.foldl (λ x1 x2=>x1++x2) #[] (List.replicate (if its.toArray.isEmpty=true then 0 else k.toNat) its.toArray)=(List.replicate k.toNat its).flatten.toArray:=by
  have f0:∀m:Nat,List.foldl (λ x1 x2=>x1++x2) #[] (List.replicate m its.toArray)=(List.replicate m its).flatten.toArray:=λ m=>by
   have:=z7w its m []
   rw [List.nil_append] at this
   exact this
  rw [f0]
  cases its with
  | nil=>simp
  | cons a r'=>rw [if_neg (by simp)]
 refine wpAny_binaryOp_repeat_ref (T := "list") (U := "int") (by decide) ⟨_,e,rfl⟩ (λ s'=>typeIs_int s' k t) noFill_list_mul F.fills_int_mul F.slot_int_rmul repeat_list F.slot_int_index.lookup
  (call_meets F.slot_int_rmul (typeIs_int s k t) F.entry_int_rmul (F.args_int_rmul_2 _ _) (int___rmul___int_list k t l its.toArray n)
   ⟨e,rfl,⟨_,e,rfl⟩,call_meets F.slot_list_mul ⟨_,e,rfl⟩ F.entry_list_mul (F.args_list_mul_2 _ _) (AutoListH.list___mul___list_int_3 l its.toArray n k t hfit hcap hlong) ⟨e,?_⟩⟩)
 rw [hnew]
 exact ⟨.ref _,_,I.lnew (t':=s.toks) (r.rep k.toNat) (by rw [x1d,Nat.mul_comm];exact hz),rfl,q _ I.fresh⟩
end
section
variable {prog:Program}{w:World}{A:Around}{E:Value->Shared->Prop}{s:Shared}
end
section
variable {X:Cx}
end
end L2
namespace Att
open PySem PySem.W PySem.Calls PyProof.Rows
theorem z5c {P:Params}{h:Heap}:∀(ns:List Int) (vs:List Value),WellAll P h vs (ns.map WData.int)->IntsAre vs ns:=by
 intro ns
 induction ns with
 | nil =>
  intro vs w
  rw [List.map_nil] at w
  cases w
  exact .nil
 | cons n ns ih =>
  intro vs w
  rw [List.map_cons] at w
  cases w with
  | cons a b =>
   cases a
   exact .cons _ _ (ih _ b)
theorem y2s {l:OpenLaw}{n:Nat}(hn:l.most=some n) {P:Params}{h:Heap}{args:List WData}{vals:List Value}
  (hpre:l.row.toRowW.claim.pre args=true) (hwl:WellAll P h vals args) :
  ∃a vs ns,vals=[Value.ref a]/\args=[WData.list (ns.map WData.int)]/\h.get? a=some { cls:=.type "list",data:=.seq vs.toArray }/\IntsAre vs ns/\ns.length≤n:=by
 have hsh:WShape.hasAll [] args [.list .int]=true:=(pre_splitW hpre).1
 have hc:l.pre.holds [] { args:=args }=true:=(pre_splitW hpre).2
 obtain ⟨d,r,rfl,h1,h2⟩:=hasAllW_cons hsh
 obtain rfl:=hasAllW_nil h2
 obtain ⟨xs,rfl,h3⟩:=hasW_list h1
 obtain ⟨ns,rfl⟩:=items_int h3
 have hlen:ns.length≤n:=by
  unfold OpenLaw.pre at hc
  have h4:(WTm.not (.lt (.lit (.int (n:Int))) (.len (.arg 0)))).holds [] { args:=[.list (ns.map .int)] }=true:=by
   have h4:=(holds_andW hc).1
   rw [hn] at h4
   exact h4
  have h5:=condW_of h4 (w_not (w_lt w_lit (w_len_list (w_arg rfl))))
  rw [List.length_map] at h5
  refine Nat.le_of_not_lt λ q=>?_
  have q':(n:Int) < ((ns.length:Nat):Int):=by omega
  first
   | (rw [decide_eq_true q'] at h5;exact absurd h5 (by decide))
   | (simp at h5;omega)
 cases hwl with
 | cons w1 w2 =>
  cases w2
  cases w1 with
  | list ho hall=>exact ⟨_,_,ns,rfl,rfl,ho,z5c ns _ hall,hlen⟩
theorem y3m (l:OpenLaw) (args:List WData):l.row.toRowW.claim.post args (.bool true) args=true :=
 postW_of (r:=l.row.toRowW) (X:=(true == true))
  (show WShape.has [] (.bool true) .bool=true by first | rfl | decide | simp [WShape.has,WShape.arms,WShape.armsAll])
  (show (WTm.eq .res (.lit (.bool true))).value [] { args:=args,res:=some (.bool true),after:=args }=some (.bool (true == true)) from w_eq_bool (w_res rfl) w_lit) rfl
theorem attach_call {l:OpenLaw}{n:Nat}{q:Program}{loose:List Str}{XP:(Str->Option Value)->Heap->Prop}{YP:World->Heap->Prop}{d:DefRec}
  (hn:l.most=some n) (hdf:d.params.defaults=[])
  (call:∀(w:World) (s₀ s₁:Shared) (mg mb:Str->Option Value) (fa:Addr) (o:Obj) (pm cd doc:Value) (a:Addr) (vs:List Value) (ns:List Int),
   Ground q loose [] XP w s₀ mg mb s₁.heap->YP w s₁.heap ->
   s₁.heap.get? fa=some o->o.data=.func (docDef d.name d.params d.body d.scope pm cd doc)->s₁.heap.CodeRec cd d.name->mg d.name=some (.ref fa) ->
   s₁.heap.get? a=some { cls:=.type "list",data:=.seq vs.toArray }->IntsAre vs ns->ns.length≤n->s₁.gens=#[] ->
   codeAny (model l.prog w) callerA (.call (.ref fa) ⟨[.ref a],[]⟩) (λ r s'=>r=.ok (.ret (.bool true))/\OldK s₁.heap s'.heap/\s'.os=s₁.os/\AllBare s'.gens) s₁) :
  WalkO q loose XP YP l.row.toRowW d [] (λ f vs=>PySem.call f vs):=by
 intro w s₀ s₁ mg mb G Y fa o pm cd doc dV kV ho hd hcd hD hmg hg args vals as hpre hlay hrd hwl hlo
 obtain rfl:dV=.none:=Dflts.none hD hdf
 obtain rfl:kV=.none:=Dflts.noKw hD
 obtain ⟨a,vs,ns,rfl,rfl,hobj,hints,hlen⟩:=y2s hn hpre hwl
 refine enter_call (codeAny_mono (call w s₀ s₁ mg mb fa o pm cd doc a vs ns G Y ho (fd_plain hd) hcd hmg hobj hints hlen hg) λ r s' hq=>?_)
 obtain ⟨rfl,h2,h3,h4⟩:=hq
 exact ⟨.inl ⟨.bool true,.bool true,[],rfl,λ _=>rfl,.bool true,y3m l _,λ _=>⟨List.Pairwise.nil,λ _ hm=>(nomatch hm)⟩⟩,h2,h3,h4⟩
section
variable {prog:Program}{w:World}{A:Around}{E:Value->Shared->Prop}{s:Shared}{K:Frag}
end
end Att
namespace L2
open PySem PySem.Spec PyProof.Rows
theorem z6t:∀ {vs:List Value}{ns:List Int},IntsAre vs ns->Vals (ns.map V.int) vs
 | _,_,.nil=>.nil
 | _,_,.cons n t h=>.cons ⟨t,rfl⟩ (z6t h)
def Only (H:Hp):Prop:=∀b,H b=none\/∃o xs,H b=some (.frz o (.lst xs))
theorem y8r {P:Program}{w:World}{K:W.Frag}{mg mb:Str->Option Value}{CX:CXT}{k:Nat}{fa a:Addr}{fd:FuncData}{x:Str}{sp:Sp}{s₁:Shared}{vs:List Value}{ns:List Int}
  (KX:K.In s₁.heap) (hns:s₁.heap.Ns mainGlobals mg) (hb:s₁.heap.Ns builtinsNs mb) (hbb:∀x:Str,x ≠ "__name__" -> mb x=bootBuiltins x) (hlim:s₁.heap.NoLimit) (hg:s₁.gens=#[])
  (ha:s₁.heap.get? a=some { cls:=.type "list",data:=.seq vs.toArray }) (hi:IntsAre vs ns) (hl:ns.length≤sizeLine) (hr:Room k callerA)
  (F:∀base:Heap,K.In base->base.Ns mainGlobals mg->FnOk P w K mg base CX k fa fd [x] sp) (hbind:∀(s:Shared) (u:Value),BindsTo s fd ⟨[u],[]⟩ [(x,u)])
  (hsp:∀H:Hp,Only H->SqL K H a (ns.map V.int)->sp [.ref a] H (λ v _=>v=.bl true) λ _ _ _=>False)
  (hCX:∀H e s',CX [] H s₁ (λ _ _ _=>False) e s'->False) :
  codeAny (model P w) callerA (.call (.ref fa) ⟨[.ref a],[]⟩) (λ r s'=>r=.ok (.ret (.bool true))/\OldK s₁.heap s'.heap/\s'.os=s₁.os/\AllBare s'.gens) s₁:=by
 have rv:=z6t hi
 have lenV:=hi.length
 have core:∀H:Hp,Only H->SqL K H a (ns.map V.int)->HOk P w H s₁.heap->(∀b,H b≠none->b=a)->(H a≠none->K.lookup a=none) ->
   codeAny (model P w) callerA (.call (.ref fa) ⟨[.ref a],[]⟩) (λ r s'=>r=.ok (.ret (.bool true))/\OldK s₁.heap s'.heap/\s'.os=s₁.os/\AllBare s'.gens) s₁:=by
  intro H hO hS hok hA hK
  have base_of:∀ {b:Addr}{o:Obj},s₁.heap.get? b=some o->H b=none->(hidT s₁.heap H).get? b=some o:=λ e n=>y8x e n
  have noA:∀ {b:Addr}{o:Obj}{es:Array DictEntry}{ep:Nat},s₁.heap.get? b=some o->o.data=.dict es ep->H b=none:=λ {b o es ep} e d=>by
   cases q:H b with
   | none=>rfl
   | some u =>
    have e':b=a:=hA b (by rw [q];simp)
    subst e'
    rw [ha] at e;cases e
    have d':Data.seq vs.toArray _=Data.dict es ep:=d
    cases d'
  have nsK:∀ {b:Addr}{m:Str->Option Value},s₁.heap.Ns b m->(hidT s₁.heap H).Ns b m:=λ {b m} ⟨o,es,ep,e,d,r⟩=>⟨o,es,ep,base_of e (noA e d),d,r⟩
  have hKb:K.In (hidT s₁.heap H):=λ b o e=>base_of (KX b o e) (by
   cases q:H b with
   | none=>rfl
   | some u =>
    have e':b=a:=hA b (by rw [q];simp)
    subst e'
    rw [hK (by rw [q];simp)] at e;cases e)
  have hM:Mod K mg (hidT s₁.heap H):=⟨hKb,nsK hns,⟨mb,nsK hb,hbb⟩,let ⟨mc,h1,h2⟩:=hlim;⟨mc,nsK h1,h2⟩⟩
  have e0:Env0 P w K mg (hidT s₁.heap H) callerA [] s₁ H:=⟨rfl,hM,λ b o e=>x1b e,Nat.le_of_eq (y5l _ _),trivial,λ b hb=>absurd (show b∈([]:List Addr) from hb) (by simp),hok,.of_eq hg⟩
  refine codeAny_mono ((F _ hKb (nsK hns)).run callerA [] s₁ H ⟨[.ref a],[]⟩ [.ref a] [.ref a] _ _ hr e0 (hbind s₁ (.ref a)) (.cons rfl .nil) (hsp H hO hS)) λ r s' h=>?_
  cases r with
  | error e=>exact (hCX H e s' h).elim
  | ok fl =>
   cases fl with
   | next=>exact False.elim h
   | brk=>exact False.elim h
   | cont=>exact False.elim h
   | ret u =>
    obtain ⟨v,H',os,bare,un,hok',r',q⟩:=h
    have q':v=.bl true:=q
    subst q'
    obtain rfl:u=Value.bool true:=r'
    refine ⟨rfl,OldK.of_keep λ b o e=>?_,os,bare⟩
    cases q:H b with
    | none=>exact un.keep b o e q (by intro z;exact absurd (show b∈([]:List Addr) from z) (by simp)) (by simp)
    | some u =>
     rcases hO b with z | ⟨ob,xs,z⟩
     ·rw [q] at z;cases z
     ·have z2:=un.frzs b ob _ z
      obtain ⟨e1,_⟩:=hok b _ z
      obtain ⟨e2,_⟩:=hok' b _ z2
      rw [e] at e1;cases e1
      exact e2
 cases hk:K.lookup a with
 | some o =>
  have e:=KX a o hk
  rw [ha] at e
  cases e
  refine core (λ _=>none) (λ _=>.inl rfl) (.inr ⟨_,vs.toArray,_,hk,rfl,rfl,rfl,by rw [List.size_toArray,lenV];exact hl,by simpa using rv⟩) (λ b u z=>by have z':(none:Option HO)=some u:=z;cases z') (λ b z=>absurd rfl z) λ z=>absurd rfl z
 | none =>
  refine core (λ b=>if b=a then some (.frz { cls:=.type "list",data:=.seq vs.toArray } (.lst (ns.map V.int))) else none) (λ b=>?_) (.inl (.inr ⟨{ cls:=.type "list",data:=.seq vs.toArray },if_pos rfl⟩)) (λ b u z=>?_) (λ b z=>?_) λ _=>hk
  ·by_cases hb:b=a
   ·exact .inr ⟨_,_,if_pos hb⟩
   ·exact .inl (if_neg hb)
  ·by_cases hb:b=a
   ·have z':=(if_pos hb).symm.trans z
    cases z'
    subst hb
    exact ⟨ha,by rw [List.length_map];exact hl,vs,_,rv,ha⟩
   ·have z':=(if_neg hb).symm.trans z
    cases z'
  ·by_cases hb:b=a
   ·exact hb
   ·exact absurd (if_neg hb) z
theorem walk_of {l:W.OpenLaw}{n k:Nat}{q:Program}{loose:List Str}{XP:(Str->Option Value)->Heap->Prop}{YP:World->Heap->Prop}{d:DefRec}{K:Params->W.Frag}{CX:World->CXT}{sp:World->Sp}{x:Str}
  (hn:l.most=some n) (hn2:n≤sizeLine) (hdf:d.params.defaults=[]) (hr:Room k callerA)
  (hY:∀(w:World) (h:Heap),YP w h->(K w.params).In h)
  (F:∀(w:World) (mg:Str->Option Value) (fa:Addr) (h:Heap),(K w.params).In h->h.Ns mainGlobals mg->mg d.name=some (.ref fa) ->
   ∃fd:FuncData,(∀(s:Shared) (u:Value),BindsTo s fd ⟨[u],[]⟩ [(x,u)]) /\
    ∀base:Heap,(K w.params).In base->base.Ns mainGlobals mg->FnOk l.prog w (K w.params) mg base (CX w) k fa fd [x] (sp w))
  (hsp:∀(w:World) (H:Hp) (a:Addr) (ns:List Int),ns.length≤n->Only H->SqL (K w.params) H a (ns.map V.int)->sp w [.ref a] H (λ v _=>v=.bl true) λ _ _ _=>False)
  (hCX:∀(w:World) (H:Hp) (s:Shared) (e:Value) (s':Shared),CX w [] H s (λ _ _ _=>False) e s'->False) :
  W.WalkO q loose XP YP l.row.toRowW d [] (λ f vs=>PySem.call f vs):=by
 refine Att.attach_call hn hdf λ w s₀ s₁ mg mb fa o pm cd doc a vs ns G Y ho hd hcd hmg hobj hints hlen hg=>?_
 have KX:=hY w _ Y
 obtain ⟨fd,hb,hF⟩:=F w mg fa _ KX G.T.g hmg
 exact y8r KX G.T.g G.T.b G.T.builtins G.T.nolimit hg hobj hints (Nat.le_trans hlen hn2) hr hF hb (λ H hO hS=>hsp w H a ns hlen hO hS) λ H e s'=>hCX w H s₁ e s'
def defArgs (s:Stmt):Arguments:=match s with
 | .FunctionDef _ a _ _ _ _ _ _ _ _=>a
 | _=>{ posonlyargs:=[],args:=[],vararg:=none,kwonlyargs:=[],kw_defaults:=[],kwarg:=none,defaults:=[] }
def defBody (s:Stmt):List Stmt:=match s with
 | .FunctionDef _ _ b _ _ _ _ _ _ _=>b
 | _=>[]
def defScope (s:Stmt):Scope:=match s with
 | .FunctionDef _ _ _ _ _ _ sc _ _ _=>sc
 | _=>{ kind:=.function,names:=[],isGenerator:=false,isCoroutine:=false }
abbrev CX0:CXT:=λ _ _ _ _ _ _=>False
abbrev E0:XK:=λ _ _ _=>False
theorem z1a {X:Cx}:Passes CX0 X E0:=λ _ _ _ _ _ _ _ h=>h.elim
structure Fun (K:W.Frag) (x qual:Str) (st:Stmt) (f:Addr) (fd:FuncData):Prop where
 ex:∃(oc:Value) (od:Option Addr) (kV doc pm:Value) (an:Option Addr) (cdv ct:Value) (osl:Array (Option Value)),
  fd=W.fnOf x qual (defArgs st) (defBody st) (defScope st) .none kV doc pm an cdv ct/\K.lookup f=some ⟨oc,od,.func fd,osl⟩/\W.codeIn K cdv qual=true
 kp:W.keepIn K (.ref f)=true
section
variable {P:Program}{w:World}{K:W.Frag}{mg:Str->Option Value}{base:Heap}
theorem Fun.ok {x qual:Str}{st:Stmt}{f:Addr}{fd:FuncData}{N ps:List Str}{k:Nat}{sp:Sp}(F:Fun K x qual st f fd) (S:FnScope N ps (defScope st)) (len:∀vs H Q E,sp vs H Q E->vs.length=ps.length)
  (hbody:∀(cdv:Value) (A:Around) (outer:List Env) (s:Shared) (H:Hp) (vs:List V) (Q:VK) (E:XK),Room k (A.deeper (envOfC qual (defScope st) s.heap.objs.size f cdv))->sp vs H Q E ->
   ∃t,PSs (cxOf CX0 P w K mg base N qual (defScope st) f cdv A outer s H E).nox (defBody st) t/\t { nx:=λ _ H'=>Q .non H',rt:=Q } (start N vs) H):FnOk P w K mg base CX0 (k+1) f fd ps sp:=by
 obtain ⟨oc,od,kV,doc,pm,an,cdv,ct,osl,rfl,lk,hcd⟩:=F.ex
 refine x1r lk hcd S len λ A outer s H vs Q E hr hsp=>?_
 obtain ⟨t,h,q⟩:=hbody cdv A outer s H vs Q E hr hsp
 exact ⟨t,h.nox,q⟩
theorem Fun.binds {x qual:Str}{st:Stmt}{f:Addr}{fd:FuncData}{ps:List Str}(F:Fun K x qual st f fd)
  (h:∀(kV doc pm:Value) (an:Option Addr) (cdv ct:Value) (us:List Value),us.length=ps.length->bindArgs (W.fnOf x qual (defArgs st) (defBody st) (defScope st) .none kV doc pm an cdv ct) ⟨us,[]⟩=pure (ps.zip us)):Binds K fd ps []:=by
 obtain ⟨oc,od,kV,doc,pm,an,cdv,ct,osl,rfl,lk,hcd⟩:=F.ex
 exact .all (h kV doc pm an cdv ct)
theorem z1d {x qual:Str}{st:Stmt}{f:Addr}{oc:Value}{od an:Option Addr}{osl:Array (Option Value)}{kV doc pm cdv ct:Value}(l:K.lookup f=some ⟨oc,od,.func (W.fnOf x qual (defArgs st) (defBody st) (defScope st) .none kV doc pm an cdv ct),osl⟩)
  (c:W.codeIn K cdv qual=true) (k:W.keepIn K (.ref f)=true):Fun K x qual st f (W.fnOf x qual (defArgs st) (defBody st) (defScope st) .none kV doc pm an cdv ct):=⟨⟨oc,od,kV,doc,pm,an,cdv,ct,osl,rfl,l,c⟩,k⟩
end
theorem z0z {n:Nat}(h:n≤1000):n < sizeLine:=Nat.lt_of_le_of_lt h (by decide)
section
variable {X:Cx}
theorem pv (i:Nat) {x:Str}{pos:Pos}(hN:X.N[i]?=some x:=by rfl) (hv:Vis X.env.scope x:=by first | exact Or.inl rfl | exact Or.inr (Or.inl rfl) | exact Or.inr (Or.inr rfl)) (hd:(x == ("__debug__" : Str))=false:=by decide)
  (hcd:(x == ("__classdict__" : Str))=false:=by decide):PE X (.Name x pos) (tVar i):=x2v hN hv hd hcd
end
def Same (H H':Hp):Prop:=∀b o,H b=some o->H' b=some o
theorem Same.refl (H:Hp):Same H H:=λ _ _ h=>h
theorem Same.trans {H H1 H2:Hp}(a:Same H H1) (b:Same H1 H2):Same H H2:=λ c o h=>b c o (a c o h)
theorem Same.free {H H':Hp}(e:Same H H') {l:Addr}(h:H' l=Option.none):H l=Option.none:=by
 cases q:H l with
 | none=>rfl
 | some o =>
  rw [e l o q] at h
  cases h
theorem Same.seq {K:W.Frag}{H H':Hp}{a:Addr}{xs:List V}(e:Same H H') (h:SqL K H a xs):SqL K H' a xs:=by
 rcases h with (h | ⟨o,h⟩) | h
 ·exact .inl (.inl (e _ _ h))
 ·exact .inl (.inr ⟨o,e _ _ h⟩)
 ·exact .inr h
end L2
set_option maxHeartbeats 4000000
namespace L2
open PySem PySem.Spec PyProof.Rows
section
variable {prog:Program}{w:World}{A:Around}{R:Result->Shared->Prop}{s:Shared}
theorem z8a {elt target iter:Expr}{scope:Scope}{pos:Pos}{it acc:Value}{env:Env}(I:Nat->Shared->Prop)
  (turn:∀n s,I n s->wpAny (model prog w) A (pyNext it) (λ r s₁=>match r with
   | none=>R (.ok .next) s₁
   | some v=>wpAny (model prog w) A (letOwnedTupleGo target it v) (λ _ s₀=>wpAny (model prog w) A (assign target env v) (λ _ s₂=>wpAny (model prog w) A (eval elt env) (λ x s₃ =>
     wpAny (model prog w) A (call (.builtin "list.append") [acc,x]) (λ _ s₄=>∃m,m < n/\I m s₄) (λ _ _=>False) s₃)
     (λ _ _=>False) s₂) (λ _ _=>False) s₀) (λ _ _=>False) s₁) (λ _ _=>False) s)
  (n:Nat) (h:I n s) :
  codeAny (model prog w) A (.compLoop (.ListComp elt [⟨target,iter,[],0⟩] scope pos) 0 it acc env) R s:=by
 refine codeAny_loop rfl I (λ n s hI=>?_) n h
 show wpAny _ _ ((compTurn (.ListComp elt [⟨target,iter,[],0⟩] scope pos) 0 it acc env).onRaise (λ x=>do noteFrame x env;theTreesLotGoes x)) _ _ s
 refine wpAny_noted ?_
 rw [compTurn_list1]
 refine wpAny_bind (wpAny_standAt (wpAny_bind (wpAny_mono (turn n s hI) (λ r s₁ h₁=>?_) λ _ _ h'=>h'.elim)))
 cases r with
 | none=>exact wpAny_pure h₁
 | some v =>
  refine wpAny_bind (wpAny_mono h₁ (λ _ s₀ h₀=>?_) λ _ _ h'=>h'.elim)
  exact wpAny_bind (wpAny_mono h₀ (λ _ s₂ h₂=>wpAny_bind (wpAny_bind (wpAny_mono h₂ (λ x s₃ h₃=>wpAny_bind (wpAny_mono h₃
   (λ _ s₄ h₄=>wpAny_pure (wpAny_pure ⟨rfl,h₄⟩)) λ _ _ h'=>h'.elim)) λ _ _ h'=>h'.elim))) λ _ _ h'=>h'.elim)
end
def cxComp (X:Cx) (N:List Str) (scope:Scope) (cl:List (Str × Addr)) (C:Addr) (ex:List Addr) (s:Shared) (H:Hp):Cx where
 prog:=X.prog
 w:=X.w
 K:=X.K
 mg:=X.mg
 base:=X.base
 A:=X.A
 N:=N
 s₀:=s
 H₀:=H
 env:=compEnvC scope cl C X.env
 outer:=X.stack
 stack:=X.stack
 ex:=ex
 fn:=λ _=>false
 calm:=X.calm
 pn:=X.pn
 xe:=λ _ _=>False
def compSt (k:Nat) (js:List Nat) (σ:St):St:=List.replicate k none++js.map λ j=>(σ[j]?).join
def tComp (wi:TI) (k:Nat) (js:List Nat) (g:TG) (te:TE):TE:=λ σ H Q=>wi σ H λ J H1 =>
 ∃W:Nat->Nat->List V->St->Hp->Prop,(∃m,W 0 m [] (compSt k js σ) H1)/\∀i m ys σ' H',W i m ys σ' H' ->
  (J.stop i H'/\∀p,H' p=none->Q (.ref p) (upd H' p (.lst ys))) \/
  (J.go i H'/\ys.length < sizeLine/\∃N:List V->St->Hp->Prop,(∀zs σ2 H2,N zs σ2 H2->∃m',m' < m/\W (i+1) m' zs σ2 H2) /\
   ∀x H2,J.yld i H' x H2->g x σ' H2 λ σ3 H3=>te σ3 H3 λ v H4=>N (ys++[v]) σ3 H4)
structure Cap (X:Cx) (scope:Scope) (cl:List (Str × Addr)) (x:Str) (j:Nat):Prop where
 at_:X.N[j]?=some x
 out:X.env.scope.names.lookup x=some .cell\/X.env.scope.names.lookup x=some .free
 inn:(relabel scope X.env).names.lookup x=some .cell\/(relabel scope X.env).names.lookup x=some .free
theorem y5g {σ:St}{j:Nat}{v:V}(h:(σ[j]?).join=some v):σ[j]?=some (some v):=by
 cases e:σ[j]? with
 | none=>rw [e] at h;cases h
 | some o =>
  rw [e] at h
  cases o with
  | none=>cases h
  | some u=>cases h;rfl
theorem z7z {X:Cx}{elt tg iter:Expr}{scope:Scope}{cl:List (Str × Addr)}{pos:Pos}{own fv:List Str}{js:List Nat}{wi:TI}{g:TG}{te:TE}
    (hc:X.calm=true) (hi:PI X tg iter wi) (hclos:closureFor scope X.env=pure cl) (hcell:∀y∈scope.names,y.2≠.cell) (hkind:scope.kind=.function)
    (hnames:∀y∈scope.names,y.2=.local->scope.names.lookup y.1=some .local)
    (hcl:∀x c,cl.lookup x=some c->X.env.cells.lookup x=some c)
    (hhas:∀x,((relabel scope X.env).names.lookup x=some .cell\/(relabel scope X.env).names.lookup x=some .free)->∃c,cl.lookup x=some c)
    (hlen:js.length=fv.length) (hcap:∀(i:Nat) x j,fv[i]?=some x->js[i]?=some j->Cap X scope cl x j)
    (hg:∀(C:Addr) (ex:List Addr) (s:Shared) (H:Hp),PG (cxComp X (own++fv) scope cl C ex s H) tg g)
    (he:∀(C:Addr) (ex:List Addr) (s:Shared) (H:Hp),PE (cxComp X (own++fv) scope cl C ex s H) elt te)
    (hs:∀x,foldedSetIterable iter X.env x=pure x)
    {pins:List (Addr × Obj)}{s:Shared}{σ:St}{H:Hp}{Q:VK}{use:Option (Value->Sem Unit)}{QQ:Value->Shared->Prop}{fpos:Pos}(I:Inv X pins σ H s) (h:tComp wi own.length js g te σ H Q)
    (fin:∀(a C:Addr) (s5:Shared) (H5:Hp) (fl:Flow),Inv X pins σ H5 s5->H5 C=none->C≠X.env.locals->X.s₀.heap.objs.size≤C->(∀x c,X.env.cells.lookup x=some c->c≠C)->(∀p∈X.pn++pins,p.1≠C)->(∃m,s5.heap.Ns C m)->Q (.ref a) H5->compPost (model X.prog X.w) X.A X.xe use QQ (.ref a) C (.ok fl) s5) :
    wpAny (model X.prog X.w) X.A (comprehension (.ListComp elt [⟨tg,iter,[],0⟩] scope pos) scope X.env fpos (newList []) false (firstIter [⟨tg,iter,[],0⟩] X.env) use) QQ X.xe s:=by
  refine wpAny_comprehension_free (use:=use) rfl hs hclos hkind hnames (thn (hi pins s σ H _ I h) λ v s1 h1=>thn h1 λ itv s2 h2=>?_)
  obtain ⟨it,fp,tn,J,H2,e,I2,T,st2,f2,W,⟨m0,w0⟩,turn⟩:=h2
  subst e
  refine wpAny_newObj_type (wpAny_newFunctionEnv hcell (by intro y hy;simp at hy) (λ h₁ hns₁ hsb₁=>?_) hkind)
  dsimp only at hns₁ hsb₁ ⊢
  generalize hHp:s2.heap.push { cls:=.type "list",dict:=none,data:=.seq ([]:List Value).toArray }=hL at hns₁ hsb₁ ⊢
  have hC:hL.objs.size=s2.heap.objs.size+1:=by rw [← hHp,Heap.size_push]
  have hDC:s2.heap.objs.size≠hL.objs.size:=by rw [hC];exact Nat.ne_of_lt (Nat.lt_succ_self _)
  have ltC:∀b,b < s2.heap.objs.size->b≠hL.objs.size:=λ b hb=>by rw [hC];exact Nat.ne_of_lt (Nat.lt_succ_of_lt hb)
  have old:∀b o,s2.heap.get? b=some o->h₁.get? b=some o:=λ b o e=>hsb₁.extBut b o (ltC b (Heap.lt_size e)) (Heap.get?_push_of_some _ (hHp ▸ Heap.get?_push_of_some _ e))
  have hacc:h₁.get? s2.heap.objs.size=some { cls:=.type "list",data:=.seq ([]:List Value).toArray 0 }:=hsb₁.extBut _ _ hDC (Heap.get?_push_of_some _ (hHp ▸ Heap.get?_push_size _ rfl))
  have hfresh:∀a,s2.heap.objs.size≤a->H2 a=none:=λ a ha=>I2.hok.fresh ha
  have fpL:∀b∈fp,b < s2.heap.objs.size:=λ b hb=>by
    obtain ⟨o,e,_⟩:=T.obj _ _ st2 b hb
    exact Heap.lt_size e
  have cellL:∀x c,cl.lookup x=some c->c < s2.heap.objs.size:=λ x c e=>by
    obtain ⟨v,q⟩:=I2.cell x c (hcl x c e)
    exact q.lt
  have pinL:∀p∈X.pn++pins,p.1 < s2.heap.objs.size:=λ p hp=>Heap.lt_size (I2.pin p hp).1
  generalize hX:cxComp X (own++fv) scope cl hL.objs.size fp s2 H2=Y
  have ok:Y.Ok:=by
    subst hX
    refine ⟨I2.ok.mod,hkind,I2.ok.glob,I2.ok.blt,by show s2.heap.objs.size≤hL.objs.size;omega,λ x y c h1 h2=>I2.ok.inj x y c (hcl x c h1) (hcl y c h2),λ x hx=>hhas x hx,
      λ x c hf=>absurd hf (by show ¬(false=true);decide),I2.ok.hd,I2.ok.frames,.inl rfl,λ b hb=>⟨ltC b (fpL b hb),λ x c e=>(f2 b hb).2.2.2.2.1 x c (hcl x c e)⟩,I2.bs,Nat.le_trans I2.ok.bsz I2.sz,λ b o e hb=>?_,λ b hb hz=>?_,I2.stack,I2.stkFree⟩
    · rcases (f2 b hb).2.2.2.1 with z | z
      · exact I2.ok.noex b o e z
      · exact absurd (Nat.lt_of_lt_of_le (Heap.lt_size e) (Nat.le_trans I2.ok.bsz z)) (Nat.lt_irrefl _)
    · rcases List.mem_cons.mp (I2.stkSub b hz) with z | z
      · exact (f2 b hb).2.1 z
      · exact (f2 b hb).2.2.1 z
  have hYl:Y.env.locals=hL.objs.size:=by subst hX;rfl
  have hYs:Y.s₀=s2:=by subst hX;rfl
  have hYH:Y.H₀=H2:=by subst hX;rfl
  have hYx:Y.ex=fp:=by subst hX;rfl
  have hYf:Y.fs=frs X.stack:=by subst hX;rfl
  have hYc:Y.env.cells=cl:=by subst hX;rfl
  have hYp:Y.pn=X.pn:=by subst hX;rfl
  have pinOk:∀p∈X.pn++pins,s2.heap.get? p.1=some p.2/\H2 p.1=none/\p.1≠hL.objs.size/\p.1 ∉ frs X.stack/\∀v,p.2.data≠.cell v:=λ p hp=>by
    obtain ⟨e,n,ne,nf,d⟩:=I2.pin p hp
    refine ⟨e,n,ltC _ (Heap.lt_size e),λ z=>?_,d⟩
    rcases List.mem_cons.mp (I2.stkSub _ z) with q | q
    · exact ne q
    · exact nf q
  have stkL:∀b∈frs X.stack,b < s2.heap.objs.size:=λ b hb=>by
    obtain ⟨_,o,ho,_⟩:=I2.stack.mem hb
    exact Heap.lt_size ho
  have I3:Inv Y (pins++[(s2.heap.objs.size,{ cls:=.type "list",data:=.seq ([]:List Value).toArray 0 })]) (compSt own.length js σ) H2 { s2 with heap:=h₁,toks:=s2.toks+([]:List (Str × Value)).length }:=by
    refine ⟨ok,by subst hX;rfl,I2.bare,by rw [hYH,hYs];exact Un.kept old,⟨_,by rw [hYl];exact hns₁,λ i x v e1 e2 e3=>?_⟩,λ x c e=>?_,by rw [hYl];exact hfresh _ (by omega),λ x c e=>?_,λ p hp=>?_,by subst hX;exact I2.hok.kept old,?_⟩
    · subst hX
      have e1:(own++fv)[i]?=some x:=e1
      unfold compSt at e2
      by_cases hi:i < own.length
      · rw [List.getElem?_append_left (by simpa using hi),List.getElem?_replicate] at e2
        split at e2<;>cases e2
      · rw [List.getElem?_append_right (by simpa using hi),List.length_replicate,List.getElem?_map] at e2
        rw [List.getElem?_append_right (by omega)] at e1
        cases ej:js[i - own.length]? with
        | none=>rw [ej] at e2;cases e2
        | some j =>
          rw [ej] at e2
          have cp:=hcap _ x j e1 ej
          have e2':σ[j]?=some (some v):=y5g (Option.some.inj e2)
          obtain ⟨m,hn,hl⟩:=I2.loc
          obtain ⟨u,r,l⟩:=hl j x v cp.at_ e2' (cp.out.elim (λ z=>.inr (.inl z)) λ z=>.inr (.inr z))
          refine ⟨u,r,.inr ⟨cp.inn,?_⟩⟩
          obtain ⟨c,ec⟩:=hhas x cp.inn
          rcases l with ⟨k,_⟩ | ⟨_,c',ec',z⟩
          · have k:X.env.scope.names.lookup x=some .local:=k
            rcases cp.out with q | q<;>rw [q] at k<;>cases k
          · rw [hcl x c ec] at ec'
            cases ec'
            obtain ⟨o,ho,hd⟩:=z
            exact ⟨c,ec,o,old _ _ ho,hd⟩
    · rw [hYc] at e
      obtain ⟨v,o,ho,hd⟩:=I2.cell x c (hcl x c e)
      exact ⟨v,o,old _ _ ho,hd⟩
    · rw [hYc] at e
      exact I2.freeC x c (hcl x c e)
    · rw [hYp] at hp
      rw [hYl,hYf]
      rcases List.mem_append.mp hp with z | z
      · obtain ⟨a,b,c,d,f⟩:=pinOk p (List.mem_append_left _ z)
        exact ⟨old _ _ a,b,c,d,f⟩
      · rcases List.mem_append.mp z with z | z
        · obtain ⟨a,b,c,d,f⟩:=pinOk p (List.mem_append_right _ z)
          exact ⟨old _ _ a,b,c,d,f⟩
        · have e:p=_:=List.mem_singleton.mp z
          subst e
          exact ⟨hacc,hfresh _ (Nat.le_refl _),hDC,λ z=>absurd (stkL _ z) (Nat.lt_irrefl _),λ v z=>by cases z⟩
    · subst hX
      unfold compSt
      show _=(own++fv).length
      simp [hlen]
  have hYprog:Y.prog=X.prog:=by subst hX;rfl
  have hYw:Y.w=X.w:=by subst hX;rfl
  have hYK:Y.K=X.K:=by subst hX;rfl
  have hYA:Y.A=X.A:=by subst hX;rfl
  have hYcalm:Y.calm=true:=by subst hX;exact hc
  have hYxe:Y.xe=λ _ _=>False:=by subst hX;rfl
  have hYenv:Y.env=compEnvC scope cl hL.objs.size X.env:=by subst hX;rfl
  have hg':=hg hL.objs.size fp s2 H2
  have he':=he hL.objs.size fp s2 H2
  rw [hX] at hg' he'
  have fpOk:∀ {H':Hp}{pn:List (Addr × Obj)},(∀b∈fp,H' b=none)->(∀p∈pn,p.1=s2.heap.objs.size\/p∈pins)->∀b∈fp,FpOk Y pn H' b:=λ hn hp b hb=>by
    refine ⟨hn b hb,by rw [hYl];exact ltC b (fpL b hb),?_,.inl (by rw [hYx];exact hb),λ x c e=>?_,λ p hq=>?_⟩
    · rw [hYf]
      intro hz
      rcases List.mem_cons.mp (I2.stkSub b hz) with z | z
      · exact (f2 b hb).2.1 z
      · exact (f2 b hb).2.2.1 z
    · rw [hYc] at e
      exact (f2 b hb).2.2.2.2.1 x c (hcl x c e)
    · rw [hYp] at hq
      rcases List.mem_append.mp hq with z | z
      · exact (f2 b hb).2.2.2.2.2 p (List.mem_append_left _ z)
      · rcases hp p z with q | q
        · rw [q];exact Ne.symm (Nat.ne_of_lt (fpL b hb))
        · exact (f2 b hb).2.2.2.2.2 p (List.mem_append_right _ q)
  have loop:∀s₃:Shared,s₃={ s2 with heap:=h₁,toks:=s2.toks+([]:List (Str × Value)).length } ->
      codeAny (model X.prog X.w) X.A (.compLoop (.ListComp elt [⟨tg,iter,[],0⟩] scope pos) 0 (.ref it) (.ref s2.heap.objs.size) (compEnvC scope cl hL.objs.size X.env))
        (compPost (model X.prog X.w) X.A X.xe use QQ (.ref s2.heap.objs.size) hL.objs.size) s₃:=by
    rintro s₃ rfl
    refine z8a (λ n s'=>∃i ys its k σ' H',Inv Y (pins++[(s2.heap.objs.size,{ cls:=.type "list",data:=.seq (its:List Value).toArray k })]) σ' H' s'/\tn i s'.heap/\(∀b∈fp,H' b=none)/\Vals ys its/\ys.length≤sizeLine/\W i n ys σ' H') ?_ m0
      ⟨0,[],[],0,_,H2,I3,T.keep _ _ _ st2 λ b _ o e=>old b o e,λ b hb=>(f2 b hb).1,.nil,Nat.zero_le _,w0⟩
    rintro n s4 ⟨i,ys,its,k,σ4,H4,I4,st4,fr4,rv,hz,w4⟩
    have pinD:∀p∈(pins++[(s2.heap.objs.size,({ cls:=.type "list",data:=.seq (its:List Value).toArray k }:Obj))]),p.1=s2.heap.objs.size\/p∈pins:=λ p hp=>by
      rcases List.mem_append.mp hp with z | z
      · exact .inr z
      · rw [List.mem_singleton.mp z];exact .inl rfl
    have F4:=fpOk (pn:=pins++[(s2.heap.objs.size,{ cls:=.type "list",data:=.seq (its:List Value).toArray k })]) fr4 pinD
    rcases turn i n ys σ4 H4 w4 with ⟨stop,qn⟩ | ⟨go,hlt,N,hN,step⟩
    · have d:=T.done Y hYprog hYw hYK hYcalm i _ s4 σ4 H4 (λ _ _=>False) I4 F4 st4 stop
      rw [hYA] at d
      refine thn d λ r s5 ⟨hr,I5⟩=>?_
      subst hr
      obtain ⟨m,hn,_⟩:=id I5.loc
      rw [hYl] at hn
      have hD:=I5.pin (s2.heap.objs.size,{ cls:=.type "list",data:=.seq (its:List Value).toArray k }) (List.mem_append_right _ (List.mem_append_right _ (List.mem_singleton.mpr rfl)))
      have hDn:H4 s2.heap.objs.size=none:=hD.2.1
      have kp:∀b o,b≠hL.objs.size->s5.heap.get? b=some o->s5.heap.get? b=some o:=λ b o _ e=>e
      have B:=I5.base
      rw [hYH,hYs,hYx,hYf] at B
      have s2C:∀b o,s2.heap.get? b=some o->b≠hL.objs.size:=λ b o e=>ltC b (Heap.lt_size e)
      have trk:∀b u,H4 b=some u->b≠s2.heap.objs.size:=λ b u e z=>by rw [z,hDn] at e;cases e
      have trC:∀b u,H4 b=some u->b≠hL.objs.size:=λ b u e z=>by
        have:=I5.free
        rw [hYl,← z,e] at this;cases this
      have hH2:∀b u,H2 b=some u->b≠s2.heap.objs.size:=λ b u e z=>by rw [z,hfresh _ (Nat.le_refl _)] at e;cases e
      have IX:Inv X pins σ (upd H4 s2.heap.objs.size (.lst ys)) s5:=by
       refine I2.call' (ch:=fp) (by show s5.os=s2.os;rw [I5.os,hYs]) ⟨λ b o e n hb hx=>kp b o (s2C b o e) (B.keep b o e n hb hx),λ b o e n hb hx=>?_,λ b o e n hx=>?_,λ b o e hx=>?_,λ b xs e=>?_,λ b o u e=>?_,λ b ps e=>?_⟩ ?_ I5.bare (λ b hb=>⟨(f2 b hb).2.2.2.1,(f2 b hb).2.1,(f2 b hb).2.2.2.2.1,(f2 b hb).2.2.2.2.2⟩)
       · obtain ⟨sl,q⟩:=B.slot b o e n hb hx
         exact ⟨sl,kp b _ (s2C b o e) q⟩
       · rw [z0m (Nat.ne_of_lt (Heap.lt_size e))]
         exact B.free b o e n hx
       · obtain ⟨o',q⟩:=B.there b o e hx
         exact ⟨o',kp b o' (s2C b o e) q⟩
       · rw [z0m (hH2 b _ e)]
         exact B.tups b xs e
       · rw [z0m (hH2 b _ e)]
         exact B.frzs b o u e
       · obtain ⟨more,q⟩:=B.tbls b ps e
         exact ⟨more,by rw [z0m (hH2 b _ e)];exact q⟩
       · intro b u e
         by_cases hb:b=s2.heap.objs.size
         · subst hb
           rw [z0d] at e
           cases e
           exact ⟨hz,its,k,rv,kp _ _ hDC hD.1⟩
         · rw [z0m hb] at e
           have okb:=I5.hok b u e
           rw [hYprog,hYw] at okb
           refine okb.stay (λ c v hc q=>kp c v ?_ q) (λ c q=>by rw [z0m (trk c _ q)];exact q) λ c xs q=>by rw [z0m (trk c _ q)];exact q
           rcases hc with z | z
           · rw [z];exact trC b u e
           · exact trC c _ z
      have zC:upd H4 s2.heap.objs.size (.lst ys) hL.objs.size=none:=by
        rw [z0m (Ne.symm hDC)]
        have:=I5.free
        rwa [hYl] at this
      exact fin s2.heap.objs.size hL.objs.size s5 _ _ IX zC (Ne.symm (ltC _ I2.lt)) (by have:=I2.sz;omega) (λ x c e=>ltC c (by obtain ⟨v,q⟩:=I2.cell x c e;exact q.lt)) (λ p hp=>ltC _ (pinL p hp)) ⟨m,hn⟩ (qn _ hDn)
    · have d:=T.item Y hYprog hYw hYK hYcalm i _ s4 σ4 H4 (λ _ _=>False) I4 F4 st4 go
      rw [hYA] at d
      refine thn d λ r s5 ⟨u,hr,h5⟩=>?_
      subst hr
      refine thn h5 λ _ s6 ⟨x,H6,I6,r6,y6,st6,fr6⟩=>?_
      have I6':=I6.pinned (fpOk (pn:=pins++[(s2.heap.objs.size,{ cls:=.type "list",data:=.seq (its:List Value).toArray k })]) fr6 pinD) (T.obj _ _ st6)
      have d7:=hg' _ s6 σ4 H6 x u _ I6' r6 (step x H6 y6)
      rw [hYprog,hYw,hYA,hYxe,hYenv] at d7
      refine thn d7 λ _ s7 ⟨σ7,H7,I7,q7⟩=>?_
      have d8:=he' _ s7 σ7 H7 _ I7 q7
      rw [hYprog,hYw,hYA,hYxe,hYenv] at d8
      refine thn d8 λ u8 s8 ⟨v8,H8,I8,r8,n8⟩=>?_
      obtain ⟨m',hm,w8⟩:=hN _ _ _ n8
      have pD:=I8.pin (s2.heap.objs.size,{ cls:=.type "list",data:=.seq (its:List Value).toArray k }) (List.mem_append_right _ (List.mem_append_left _ (List.mem_append_right _ (List.mem_singleton.mpr rfl))))
      have tn8:tn (i+1) s8.heap:=T.keep _ _ _ st6 λ b hb o e=>(I8.pin (b,o) (List.mem_append_right _ (List.mem_append_right _ (z3l hb e)))).1
      have fr8:∀b∈fp,H8 b=none:=λ b hb=>by
        obtain ⟨o,e,d⟩:=T.obj _ _ st6 b hb
        exact (I8.pin (b,o) (List.mem_append_right _ (List.mem_append_right _ (z3l hb e)))).2.1
      have J8:Inv Y pins σ7 H8 s8:=I8.unpinned.unpinned
      have eD:s8.heap.get? s2.heap.objs.size=some { cls:=.type "list",data:=.seq its.toArray k }:=pD.1
      refine call_meets F.slot_list_append ⟨_,eD,rfl⟩ F.entry_list_append (F.args_list_append_2 _ _) (PySem.list_append _ its.toArray k u8 (by rw [List.size_toArray,← rv.length];omega)) ⟨eD,?_⟩
      have other:∀b o,b≠s2.heap.objs.size->s8.heap.get? b=some o->(s8.heap.update s2.heap.objs.size (Obj.mapSeq λ xs=>xs.push u8)).get? b=some o:=λ b o nb e=>(Heap.get?_update_other s8.heap _ (Ne.symm nb)).trans e
      have J9:=J8.turned (t':=s8.toks) (it:=s2.heap.objs.size) (h':=s8.heap.update s2.heap.objs.size (Obj.mapSeq λ xs=>xs.push u8)) other pD.2.1 (by rw [hYl];exact hDC) (.inr (by rw [hYs];exact Nat.le_refl _))
        (λ x c e=>by rw [hYc] at e;exact Nat.ne_of_lt (cellL x c e)) (λ p hp=>by rw [hYp] at hp;exact Nat.ne_of_lt (pinL p hp))
      have ep:(its.toArray.push u8)=(its++[u8]).toArray:=by simp
      obtain ⟨kk,upD⟩:∃kk,(s8.heap.update s2.heap.objs.size (Obj.mapSeq λ xs=>xs.push u8)).get? s2.heap.objs.size=some { cls:=.type "list",data:=.seq (its++[u8]).toArray kk }:=by
        have z:=PySem.IsL.update eD (λ xs=>xs.push u8)
        rw [ep] at z
        exact ⟨_,z⟩
      refine ⟨m',hm,i+1,ys++[v8],its++[u8],kk,σ7,H8,J9.pins_of λ p hp=>?_,T.keep _ _ _ tn8 λ b hb o e=>other b o (Nat.ne_of_lt (fpL b hb)) e,fr8,rv.append (.cons r8 .nil),?_,w8⟩
      · rcases List.mem_append.mp hp with z | z
        · exact J9.pin p (List.mem_append_right _ z)
        · rw [List.mem_singleton.mp z]
          exact ⟨upD,pD.2.1,by rw [hYl];exact hDC,by rw [hYf];exact λ z=>absurd (stkL _ z) (Nat.lt_irrefl _),λ v z=>by cases z⟩
      · rw [List.length_append,List.length_singleton];omega
  exact codeAny_compStart_list (loop _ rfl) (T.self _ 0 _ _ _ (T.keep _ _ _ st2 λ b _ o e=>old b o e) (loop _ rfl))
theorem z4d {X:Cx}{elt tg iter:Expr}{scope:Scope}{cl:List (Str × Addr)}{pos:Pos}{own fv:List Str}{js:List Nat}{wi:TI}{g:TG}{te:TE}
  (hc:X.calm=true) (hi:PI X tg iter wi) (hclos:closureFor scope X.env=pure cl) (hcell:∀y∈scope.names,y.2≠.cell) (hkind:scope.kind=.function)
  (hnames:∀y∈scope.names,y.2=.local->scope.names.lookup y.1=some .local)
  (hcl:∀x c,cl.lookup x=some c->X.env.cells.lookup x=some c)
  (hhas:∀x,((relabel scope X.env).names.lookup x=some .cell\/(relabel scope X.env).names.lookup x=some .free)->∃c,cl.lookup x=some c)
  (hlen:js.length=fv.length) (hcap:∀(i:Nat) x j,fv[i]?=some x->js[i]?=some j->Cap X scope cl x j)
  (hg:∀(C:Addr) (ex:List Addr) (s:Shared) (H:Hp),PG (cxComp X (own++fv) scope cl C ex s H) tg g)
  (he:∀(C:Addr) (ex:List Addr) (s:Shared) (H:Hp),PE (cxComp X (own++fv) scope cl C ex s H) elt te)
  (hs:∀x,foldedSetIterable iter X.env x=pure x:=by intro _;rfl) :
  PE X (.ListComp elt [⟨tg,iter,[],0⟩] scope pos) (tComp wi own.length js g te):=by
 intro pins s σ H Q I h
 rw [eval_ListComp]
 refine z7z (use:=none) (QQ:=EP X pins σ Q) hc hi hclos hcell hkind hnames hcl hhas hlen hcap hg he hs I h λ a C s5 H5 fl I5 zC zL zS zc zp ⟨m,hn⟩ q=>⟨m,hn,λ h' sc=>?_⟩
 exact ⟨.ref a,H5,I5.turned (t':=s5.toks) (it:=C) (λ d o nd e=>sc.extBut d o nd e) zC zL (.inr zS) zc zp,rfl,q⟩
theorem y6c {K:PySem.W.Frag}{a:Addr}{xs:List V}{g:TG}{te:TE}{Q:VK}{σ:St}{H:Hp}(Pv:Nat->List V->St->Hp->Prop) (h0:Pv 0 [] σ H) (hl:∀i ys σ H,i≤xs.length->Pv i ys σ H->SqL K H a xs)
  (hs:∀i x ys σ H,xs[i]?=some x->Pv i ys σ H->ys.length < sizeLine/\g x σ H λ σ3 H3=>te σ3 H3 λ v H4=>Pv (i+1) (ys++[v]) σ3 H4) (hd:∀ys σ H,Pv xs.length ys σ H->∀p,H p=none->Q (.ref p) (upd H p (.lst ys))) :
  ∃W:Nat->Nat->List V->St->Hp->Prop,(∃m,W 0 m [] σ H)/\∀i m ys σ' H',W i m ys σ' H' ->
   ((Itl K a).stop i H'/\∀p,H' p=none->Q (.ref p) (upd H' p (.lst ys))) \/
   ((Itl K a).go i H'/\ys.length < sizeLine/\∃N:List V->St->Hp->Prop,(∀zs σ2 H2,N zs σ2 H2->∃m',m' < m/\W (i+1) m' zs σ2 H2) /\
    ∀x H2,(Itl K a).yld i H' x H2->g x σ' H2 λ σ3 H3=>te σ3 H3 λ v H4=>N (ys++[v]) σ3 H4):=by
 refine ⟨λ i m ys σ H=>m=xs.length - i/\i≤xs.length/\Pv i ys σ H,⟨xs.length,by simp,Nat.zero_le _,h0⟩,?_⟩
 rintro i m ys σ H ⟨rfl,hi,p⟩
 have q:=hl i ys σ H hi p
 by_cases hlt:i < xs.length
 ·have e:xs[i]?=some xs[i]:=by simp [hlt]
  refine .inr ⟨⟨xs,xs[i],q,e⟩,(hs i _ ys σ H e p).1,Pv (i+1),λ zs σ' H' p'=>⟨xs.length - (i+1),by omega,rfl,hlt,p'⟩,λ x H' y=>?_⟩
  obtain ⟨e,y⟩:=y
  subst e
  exact (hs i x ys σ _ (y xs q) p).2
 ·have e:i=xs.length:=by omega
  subst e
  exact .inl ⟨⟨xs,q,Nat.le_refl _⟩,hd ys σ H p⟩
theorem y9o {K:PySem.W.Frag}{a:Addr}{xs:List V}{g:TG}{te:TE}{Q:VK}{σ:St}{H:Hp}(Pv:Nat->List V->St->Hp->Prop) (h0:Pv 0 [] σ H) (hl:∀i ys σ H,i≤xs.length->Pv i ys σ H->SqT K H a xs)
  (hs:∀i x ys σ H,xs[i]?=some x->Pv i ys σ H->ys.length < sizeLine/\g x σ H λ σ3 H3=>te σ3 H3 λ v H4=>Pv (i+1) (ys++[v]) σ3 H4) (hd:∀ys σ H,Pv xs.length ys σ H->∀p,H p=none->Q (.ref p) (upd H p (.lst ys))) :
  ∃W:Nat->Nat->List V->St->Hp->Prop,(∃m,W 0 m [] σ H)/\∀i m ys σ' H',W i m ys σ' H' ->
   ((Itt K a).stop i H'/\∀p,H' p=none->Q (.ref p) (upd H' p (.lst ys))) \/
   ((Itt K a).go i H'/\ys.length < sizeLine/\∃N:List V->St->Hp->Prop,(∀zs σ2 H2,N zs σ2 H2->∃m',m' < m/\W (i+1) m' zs σ2 H2) /\
    ∀x H2,(Itt K a).yld i H' x H2->g x σ' H2 λ σ3 H3=>te σ3 H3 λ v H4=>N (ys++[v]) σ3 H4):=by
 refine ⟨λ i m ys σ H=>m=xs.length - i/\i≤xs.length/\Pv i ys σ H,⟨xs.length,by simp,Nat.zero_le _,h0⟩,?_⟩
 rintro i m ys σ H ⟨rfl,hi,p⟩
 have q:=hl i ys σ H hi p
 by_cases hlt:i < xs.length
 ·have e:xs[i]?=some xs[i]:=by simp [hlt]
  refine .inr ⟨⟨xs,xs[i],q,e⟩,(hs i _ ys σ H e p).1,Pv (i+1),λ zs σ' H' p'=>⟨xs.length - (i+1),by omega,rfl,hlt,p'⟩,λ x H' y=>?_⟩
  obtain ⟨e,y⟩:=y
  subst e
  exact (hs i x ys σ _ (y xs q) p).2
 ·have e:i=xs.length:=by omega
  subst e
  exact .inl ⟨⟨xs,q,Nat.le_refl _⟩,hd ys σ H p⟩
theorem y1z {lo:Int}{n:Nat}{g:TG}{te:TE}{Q:VK}{σ:St}{H:Hp}(Pv:Nat->List V->St->Hp->Prop) (h0:Pv 0 [] σ H)
  (hs:∀i ys σ H,i < n->Pv i ys σ H->ys.length < sizeLine/\g (.int (lo+i)) σ H λ σ3 H3=>te σ3 H3 λ v H4=>Pv (i+1) (ys++[v]) σ3 H4) (hd:∀ys σ H,Pv n ys σ H->∀p,H p=none->Q (.ref p) (upd H p (.lst ys))) :
  ∃W:Nat->Nat->List V->St->Hp->Prop,(∃m,W 0 m [] σ H)/\∀i m ys σ' H',W i m ys σ' H' ->
   ((Itr lo n).stop i H'/\∀p,H' p=none->Q (.ref p) (upd H' p (.lst ys))) \/
   ((Itr lo n).go i H'/\ys.length < sizeLine/\∃N:List V->St->Hp->Prop,(∀zs σ2 H2,N zs σ2 H2->∃m',m' < m/\W (i+1) m' zs σ2 H2) /\
    ∀x H2,(Itr lo n).yld i H' x H2->g x σ' H2 λ σ3 H3=>te σ3 H3 λ v H4=>N (ys++[v]) σ3 H4):=by
 refine ⟨λ i m ys σ H=>m=n - i/\i≤n/\Pv i ys σ H,⟨n,by simp,Nat.zero_le _,h0⟩,?_⟩
 rintro i m ys σ H ⟨rfl,hi,p⟩
 by_cases hlt:i < n
 ·refine .inr ⟨hlt,(hs i ys σ H hlt p).1,Pv (i+1),λ zs σ' H' p'=>⟨n - (i+1),by omega,rfl,hlt,p'⟩,λ x H' y=>?_⟩
  obtain ⟨e,y⟩:=y
  subst e y
  exact (hs i ys σ _ hlt p).2
 ·have e:i=n:=by omega
  subst e
  exact .inl ⟨Nat.le_refl _,hd ys σ H p⟩
section
variable {P:Program}{w:World}{K:W.Frag}{mg:Str->Option Value}{base:Heap}{N:List Str}{qual:Str}{scope:Scope}{f:Addr}{cd:Value}{A:Around}{outer:List Env}{s:Shared}{H:Hp}{E:XK}
theorem x3y {l:List Env}:∀env∈l,∀b,env.frame=some b->b∈frs l:=λ env he b hb=>List.mem_filterMap.mpr ⟨env,he,hb⟩
end
def tRaise (C:Addr) (Ex:Value->Hp->Prop) (t:TA):TS:=λ _ σ H=>t σ H λ vs H1=>vs.length≤sizeLine/\Ex (.ref C) H1
section
variable {P:Program}{w:World}{K:W.Frag}{mg:Str->Option Value}{base:Heap}
end
def ExcO (a C:Addr):HO:=.ext λ h=>∃o vs,h.get? a=some o/\o.cls=.ref C/\o.data=.fields vs
section
variable {X:Cx}{pins:List (Addr × Obj)}{σ:St}{H:Hp}{s:Shared}
theorem Inv.gone {i:Nat}{x:Str}{v:Option Value}{m:Str->Option Value}{h':Heap}{t':Nat}(I:Inv X pins σ H s) (hN:X.N.Nodup) (hi:X.N[i]?=some x) (hk:X.env.scope.names.lookup x=some .local) (hm:s.heap.Ns X.env.locals m)
  (hl:∀(j:Nat) (y:Str) (z:V),X.N[j]?=some y->σ[j]?=some (some z)->Vis X.env.scope y->∃u,RelV z u/\Look X.env s.heap m y u) (hn':h'.Ns X.env.locals (λ y=>if y=x then v else m y)) (hs:Heap.SameBut X.env.locals s.heap h') :
  Inv X pins (σ.set i none) H { s with heap:=h',toks:=t' }:=by
 have hiσ:i < σ.length:=by rw [I.len];exact (List.getElem?_eq_some_iff.mp hi).1
 have cne:=I.cne
 have lne:∀b o,X.s₀.heap.get? b=some o->b≠X.env.locals:=λ b o e=>Nat.ne_of_lt (Nat.lt_of_lt_of_le (Heap.lt_size e) I.ok.above)
 refine ⟨I.ok,I.os,I.bare,⟨λ b o e n hb hx=>(hs.2 b (lne b o e)).trans (I.base.keep b o e n hb hx),λ b o e n hb hx=>?_,I.base.free,λ b o e hx=>?_,I.base.tups,I.base.frzs,I.base.tbls⟩,⟨_,hn',λ j y z e1 e2 e3=>?_⟩,
  λ y c e=>?_,I.free,I.freeC,λ p hp=>?_,λ b ob e=>?_,by simpa using I.len⟩
 ·obtain ⟨sl,q⟩:=I.base.slot b o e n hb hx
  exact ⟨sl,(hs.2 b (lne b o e)).trans q⟩
 ·obtain ⟨o',q⟩:=I.base.there b o e hx
  exact ⟨o',(hs.2 b (lne b o e)).trans q⟩
 ·by_cases hj:j=i
  ·subst hj
   rw [List.getElem?_set_self hiσ] at e2
   cases e2
  ·rw [List.getElem?_set_ne (Ne.symm hj)] at e2
   obtain ⟨u,r,q⟩:=hl j y z e1 e2 e3
   refine ⟨u,r,?_⟩
   rcases q with ⟨k,e⟩ | ⟨k,c,e,cz⟩
   ·refine .inl ⟨k,?_⟩
    have ny:y≠x:=λ e=>hj (z6k hN e1 (e ▸ hi))
    simp [ny,e]
   ·exact .inr ⟨k,c,e,cz.sameBut hs (cne y c e)⟩
 ·obtain ⟨w',z⟩:=I.cell y c e
  exact ⟨w',z.sameBut hs (cne y c e)⟩
 ·obtain ⟨e,n,ne,nf,d⟩:=I.pin p hp
  exact ⟨(hs.2 p.1 ne).trans e,n,ne,nf,d⟩
 ·refine (I.hok b ob e).stay (λ c w' hc q=>(hs.2 c ?_).trans q) (λ _ q=>q) λ _ _ q=>q
  rintro rfl
  rcases hc with rfl | hc
  ·rw [I.free] at e;cases e
  ·rw [I.free] at hc;cases hc
theorem Inv.track {a:Addr}{o:HO}(I:Inv X pins σ H s) (hn:H a=none) (new:ObjOk X.prog X.w (upd H a o) s.heap a o) (h1:a≠X.env.locals) (h2:∀x c,X.env.cells.lookup x=some c->c≠a) (h3:∀p∈X.pn++pins,p.1≠a)
  (h4:X.s₀.heap.get? a=none):Inv X pins σ (upd H a o) s:=by
 have ne:∀b u,H b=some u->b≠a:=λ b u e z=>by rw [z,hn] at e;cases e
 have n0:∀b u,X.s₀.heap.get? b=some u->b≠a:=λ b u e z=>by rw [z,h4] at e;cases e
 refine ⟨I.ok,I.os,I.bare,⟨I.base.keep,I.base.slot,λ b u e n hx=>?_,I.base.there,λ b xs e=>?_,λ b u v e=>?_,λ b ps e=>?_⟩,I.loc,I.cell,?_,λ x c e=>?_,λ p hp=>?_,λ b u e=>?_,I.len⟩
 ·rw [z0m (n0 b u e)];exact I.base.free b u e n hx
 ·have q:=I.base.tups b xs e
  rw [z0m (ne b _ q)];exact q
 ·have q:=I.base.frzs b u v e
  rw [z0m (ne b _ q)];exact q
 ·obtain ⟨more,q⟩:=I.base.tbls b ps e
  exact ⟨more,by rw [z0m (ne b _ q)];exact q⟩
 ·rw [z0m (Ne.symm h1)];exact I.free
 ·rw [z0m (h2 x c e)];exact I.freeC x c e
 ·obtain ⟨e,n,ne,nf,d⟩:=I.pin p hp
  exact ⟨e,by rw [z0m (h3 p hp)];exact n,ne,nf,d⟩
 ·by_cases hb:b=a
  ·subst hb;rw [z0d] at e;cases e;exact new
  ·rw [z0m hb] at e
   exact (I.hok b u e).stay (λ c v _ q=>q) (λ c q=>by rw [z0m (ne c _ q)];exact q) λ c xs q=>by rw [z0m (ne c _ q)];exact q
end
abbrev Cx.more (X:Cx) (xe:Value->Shared->Prop) (pn:List (Addr × Obj)):Cx:={ X with xe:=xe,pn:=pn }
abbrev Cx.suite (X:Cx) (a:Addr) (pn:List (Addr × Obj)):Cx:={ X with A:=X.A.mark (some (.ref a)),calm:=false,xe:=λ _ _=>False,pn:=pn }
theorem Cx.Ok.more {X:Cx}(ok:X.Ok) (xe:Value->Shared->Prop) (pn:List (Addr × Obj)):(X.more xe pn).Ok :=
 ⟨ok.mod,ok.kind,ok.glob,ok.blt,ok.above,ok.inj,ok.has,ok.cab,ok.hd,ok.frames,ok.stk,ok.exf,ok.bs,ok.bsz,ok.noex,ok.exfs,ok.funs,ok.frf⟩
theorem Cx.Ok.suite {X:Cx}(ok:X.Ok) (a:Addr) (pn:List (Addr × Obj)):(X.suite a pn).Ok :=
 ⟨ok.mod,ok.kind,ok.glob,ok.blt,ok.above,ok.inj,ok.has,ok.cab,λ z=>absurd z (by show ¬(false=true);decide),ok.frames,ok.stk,ok.exf,ok.bs,ok.bsz,ok.noex,ok.exfs,ok.funs,ok.frf⟩
def PassesAt (CX:CXT) (X:Cx) (E:XK) (σ:St):Prop:=∀(pins:List (Addr × Obj)) (H:Hp) (s:Shared) (e:Value) (s':Shared),Inv X pins σ H s->CX X.stack H s E e s'->X.xe e s'
section
variable {X:Cx}{CX:CXT}{k:Nat}{f:Addr}{fd:FuncData}{ps:List Str}{sp:Sp}{dvs:List V}{ds:List Value}{EE:St->XK}{x:Str}{p pos:Pos}{e:Expr}{es:List Expr}{t:TA}
def tCallX (sp:Sp) (dvs:List V) (EE:St->XK) (t:TA):TE:=λ σ H Q=>t σ H λ vs H1=>sp (vs++dvs) H1 Q (EE σ)
theorem y8b (F:FnOk X.prog X.w X.K X.mg X.base CX k f fd ps sp) (hr:Room k X.A) (hg:Gl X x) (hm:X.mg x=some (.ref f)) (hk:W.keepIn X.K (.ref f)=true) (hb:Binds X.K fd ps ds) (hd:Vals dvs ds) (hx:∀σ,PassesAt CX X (EE σ) σ)
  (ha:PA X (e::es) t) (hdb:(x == ("__debug__" : Str))=false:=by decide) (he:starEach (e::es) X.env=(false,eval e X.env)::starEach es X.env:=by rfl) (hpl:(backTo pos (starEach es X.env)).any (·.1)=false:=by rfl) :
  PE X (.Call (.Name x p) (e::es) [] pos) (tCallX sp dvs EE t):=by
 intro pins s σ H Q I h
 refine wpAny_Call_Name_kw (z3f I hg hm ?_ hdb)
 refine W.callWith_K (h₀:=X.base) I.ok.mod.kin hk (thn (ha pos pins s σ H _ I h) λ us s1 ⟨vs,H1,I1,r,q⟩=>⟨I1.kIn,?_⟩) he hpl
 have r2:Vals (vs++dvs) (us++ds):=r.append hd
 have hl:(us++ds).length=ps.length:=by rw [← r2.length];exact F.len _ _ _ _ q
 refine wpAny_call (codeAny_mono (F.run X.A X.stack s1 H1 ⟨us,[]⟩ (us++ds) (vs++dvs) Q (EE σ) hr I1.env0 (hb s1 us I1.kIn hl) r2 q) λ r s' hq=>?_)
 cases r with
 | error e=>exact hx σ pins H1 s1 e s' I1 hq
 | ok fl =>
  cases fl with
  | ret u=>exact I1.after hq
  | next=>exact False.elim hq
  | brk=>exact False.elim hq
  | cont=>exact False.elim hq
end
def goneEnds (D:Ends) (i:Nat):Ends:={ nx:=λ σ H=>D.nx (σ.set i none) H,rt:=D.rt,bk:=λ σ H=>D.bk (σ.set i none) H,ct:=λ σ H=>D.ct (σ.set i none) H }
def caughtBy (C:Addr) (i:Nat) (ts:TS) (D:Ends):St->XK:=λ σ1 cls _ H1=>cls=.ref C/\∀a,H1 a=none->ts (goneEnds D i) (σ1.set i (some (.ref a))) (upd H1 a (ExcO a C))
def tTry (C:Addr) (i:Nat) (tb:(St->XK)->TS) (ts:TS):TS:=λ D σ H=>tb (caughtBy C i ts D) D σ H
structure Callee (P:Program) (w:World) (K:W.Frag) (mg:Str->Option Value) (base:Heap) (CX:CXT) (k:Nat) (x:Str) (ps:List Str) (sp:Sp):Prop where
 has:∃(f:Addr) (fd:FuncData),FnOk P w K mg base CX k f fd ps sp/\mg x=some (.ref f)/\W.keepIn K (.ref f)=true/\Binds K fd ps []
theorem Callee.mk' {P:Program}{w:World}{K:W.Frag}{mg:Str->Option Value}{base:Heap}{CX:CXT}{k:Nat}{x qual:Str}{st:Stmt}{f:Addr}{fd:FuncData}{ps:List Str}{sp:Sp}(F:Fun K x qual st f fd) (m:mg x=some (.ref f)) (b:Binds K fd ps [])
  (ok:FnOk P w K mg base CX k f fd ps sp):Callee P w K mg base CX k x ps sp:=⟨⟨f,fd,ok,m,F.kp,b⟩⟩
theorem Callee.mono {P:Program}{w:World}{K:W.Frag}{mg:Str->Option Value}{base:Heap}{CX:CXT}{j k:Nat}{x:Str}{ps:List Str}{sp:Sp}(c:Callee P w K mg base CX j x ps sp) (h:j≤k):Callee P w K mg base CX k x ps sp :=
 let ⟨f,fd,ok,m,kp,b⟩:=c.has;⟨⟨f,fd,ok.mono h,m,kp,b⟩⟩
section
variable {X:Cx}{CX:CXT}{k:Nat}{ps:List Str}{sp:Sp}{E:XK}{x:Str}{p pos:Pos}{e:Expr}{es:List Expr}{t:TA}
theorem z0r (c:Callee X.prog X.w X.K X.mg X.base CX k x ps sp) (hr:Room k X.A) (hg:Gl X x) (hx:Passes CX X E) (ha:PA X (e::es) t) (hdb:(x == ("__debug__" : Str))=false:=by decide)
  (he:starEach (e::es) X.env=(false,eval e X.env)::starEach es X.env:=by rfl) (hpl:(backTo pos (starEach es X.env)).any (·.1)=false:=by rfl):PE X (.Call (.Name x p) (e::es) [] pos) (tCall sp [] E t):=by
 obtain ⟨f,fd,ok,m,kp,b⟩:=c.has
 exact x0y ok hr hg m kp b .nil hx ha hdb he hpl
theorem x0z {EE:St->XK}(c:Callee X.prog X.w X.K X.mg X.base CX k x ps sp) (hr:Room k X.A) (hg:Gl X x) (hx:∀σ,PassesAt CX X (EE σ) σ) (ha:PA X (e::es) t) (hdb:(x == ("__debug__" : Str))=false:=by decide)
  (he:starEach (e::es) X.env=(false,eval e X.env)::starEach es X.env:=by rfl) (hpl:(backTo pos (starEach es X.env)).any (·.1)=false:=by rfl):PE X (.Call (.Name x p) (e::es) [] pos) (tCallX sp [] EE t):=by
 obtain ⟨f,fd,ok,m,kp,b⟩:=c.has
 exact y8b ok hr hg m kp b .nil hx ha hdb he hpl
theorem y0v:CallR X (.builtin "isinstance") (λ xs H Q=>∃x n t b,xs=[x,.ty n]/\TyOf X.K H x t/\W.kitOne X.K t (.type n)=some b/\Q (.bl b) H):=by
 intro pins s σ H xs us Q I r h
 obtain ⟨x,n,t,b,rfl,ty,e,q⟩:=h
 obtain ⟨u,w',rfl,rx,ry⟩:=y7d r
 cases (show w'=Value.type n from ry)
 exact y5j I rx ty e λ tk=>⟨.bl b,H,I.tok tk,rfl,q⟩
end
theorem z4l {scope:Scope}{env:Env}(hfree:∀y∈scope.names,y.2≠.free):(relabel scope env).names=scope.names:=by
 show scope.names.map _=scope.names
 have all:∀l:List (Str × NameKind),(∀y∈l,y.2≠.free)->(l.map λ (x:Str × NameKind)=>match x with | (n,k)=>if (k == .free && env.scope.kind == .function && env.kindOf n == some .cell) then (n,.cell) else (n,k))=l:=by
  intro l
  induction l with
  | nil=>intro _;rfl
  | cons y r ih =>
   intro hy
   obtain ⟨n,k⟩:=y
   have hk:(k == NameKind.free)=false:=by simpa using hy (n,k) (List.mem_cons_self ..)
   rw [List.map_cons,ih λ z hz=>hy z (List.mem_cons_of_mem _ hz)]
   simp [hk]
 exact all _ hfree
theorem y0d {X:Cx}{elt tg iter:Expr}{scope:Scope}{pos:Pos}{own:List Str}{wi:TI}{g:TG}{te:TE}
  (hc:X.calm=true) (hi:PI X tg iter wi) (hcell:∀y∈scope.names,y.2≠.cell) (hfree:∀y∈scope.names,y.2≠.free) (hkind:scope.kind=.function)
  (hnames:∀y∈scope.names,y.2=.local->scope.names.lookup y.1=some .local)
  (hg:∀(C:Addr) (ex:List Addr) (s:Shared) (H:Hp),PG (cxComp X own scope [] C ex s H) tg g)
  (he:∀(C:Addr) (ex:List Addr) (s:Shared) (H:Hp),PE (cxComp X own scope [] C ex s H) elt te)
  (hs:∀x,foldedSetIterable iter X.env x=pure x:=by intro _;rfl) :
  PE X (.ListComp elt [⟨tg,iter,[],0⟩] scope pos) (tComp wi own.length [] g te):=by
 refine z4d (own:=own) (fv:=[]) (js:=[]) (cl:=[]) hc hi (closureFor_none hfree) hcell hkind hnames (λ x c h=>by cases h) (λ x h=>?_) rfl (λ i x j h=>by simp at h) (by simpa using hg) (by simpa using he) hs
 rw [z4l hfree] at h
 rcases h with h | h
 ·exact absurd rfl (hcell _ (PySem.mem_of_lookup h))
 ·exact absurd rfl (hfree _ (PySem.mem_of_lookup h))
def CDivW (i j:Int):Prop:=j≠0/\-18446744073709551616 < j/\j < 18446744073709551616
section
variable {K:W.Frag}
def LoopL (K:PySem.W.Frag) (g:TG) (tb:TS) (D:Ends) (σ:St) (x:V) (H1:Hp):Prop:=∃a,x=.ref a/\(∃xs,SqL K H1 a xs)/\∃W:Nat->Nat->St->Hp->Prop,(∃m,W 0 m σ H1)/\∀i m σ H,W i m σ H ->
 ((Itl K a).stop i H/\D.nx σ H)\/((Itl K a).go i H/\∃N:St->Hp->Prop,(∀σ' H',N σ' H'->∃m',m' < m/\W (i+1) m' σ' H')/\∀x H',(Itl K a).yld i H x H'->g x σ H' λ σ2 H2=>tb { D with nx:=N,ct:=N,bk:=D.nx } σ2 H2)
def LoopT (K:PySem.W.Frag) (g:TG) (tb:TS) (D:Ends) (σ:St) (x:V) (H1:Hp):Prop:=∃a,x=.ref a/\(∃xs,SqT K H1 a xs)/\∃W:Nat->Nat->St->Hp->Prop,(∃m,W 0 m σ H1)/\∀i m σ H,W i m σ H ->
 ((Itt K a).stop i H/\D.nx σ H)\/((Itt K a).go i H/\∃N:St->Hp->Prop,(∀σ' H',N σ' H'->∃m',m' < m/\W (i+1) m' σ' H')/\∀x H',(Itt K a).yld i H x H'->g x σ H' λ σ2 H2=>tb { D with nx:=N,ct:=N,bk:=D.nx } σ2 H2)
def LoopR (lo:Int) (n:Nat) (g:TG) (tb:TS) (D:Ends) (σ:St) (H1:Hp):Prop:=∃W:Nat->Nat->St->Hp->Prop,(∃m,W 0 m σ H1)/\∀i m σ H,W i m σ H ->
 ((Itr lo n).stop i H/\D.nx σ H)\/((Itr lo n).go i H/\∃N:St->Hp->Prop,(∀σ' H',N σ' H'->∃m',m' < m/\W (i+1) m' σ' H')/\∀x H',(Itr lo n).yld i H x H'->g x σ H' λ σ2 H2=>tb { D with nx:=N,ct:=N,bk:=D.nx } σ2 H2)
theorem x1p {te:TE}{g:TG}{tb:TS}{D:Ends}{σ:St}{H:Hp}:tFor (iList K te) g tb D σ H=te σ H λ x H1=>LoopL K g tb D σ x H1:=rfl
theorem x1n {te:TE}{g:TG}{tb:TS}{D:Ends}{σ:St}{H:Hp}:tFor (iTup K te) g tb D σ H=te σ H λ x H1=>LoopT K g tb D σ x H1:=rfl
theorem y9g {ta:TA}{g:TG}{tb:TS}{D:Ends}{σ:St}{H:Hp}:tFor (iRng1 ta) g tb D σ H=ta σ H λ vs H1=>∃j:Int,vs=[.int j]/\-(2 ^ 62)≤j/\j < 2 ^ 62/\LoopR 0 j.toNat g tb D σ H1:=rfl
theorem y9f {ta:TA}{g:TG}{tb:TS}{D:Ends}{σ:St}{H:Hp}:tFor (iRng2 ta) g tb D σ H=ta σ H λ vs H1=>∃i j:Int,vs=[.int i,.int j]/\(-(2 ^ 62)≤i/\i < 2 ^ 62/\-(2 ^ 62)≤j/\j < 2 ^ 62)/\LoopR i (j - i).toNat g tb D σ H1:=rfl
theorem LoopL.mk {a:Addr}{xs:List V}{g:TG}{tb:TS}{D:Ends}{σ:St}{H:Hp}(hS:SqL K H a xs) (Pv:Nat->St->Hp->Prop) (h0:Pv 0 σ H) (hl:∀i σ H,i≤xs.length->Pv i σ H->SqL K H a xs)
  (hs:∀i x σ H,xs[i]?=some x->Pv i σ H->g x σ H λ σ2 H2=>tb { D with nx:=Pv (i+1),ct:=Pv (i+1),bk:=D.nx } σ2 H2) (hd:∀σ H,Pv xs.length σ H->D.nx σ H):LoopL K g tb D σ (.ref a) H:=⟨a,rfl,⟨xs,hS⟩,y8z Pv h0 hl hs hd⟩
theorem LoopT.mk {a:Addr}{xs:List V}{g:TG}{tb:TS}{D:Ends}{σ:St}{H:Hp}(hS:SqT K H a xs) (Pv:Nat->St->Hp->Prop) (h0:Pv 0 σ H) (hl:∀i σ H,i≤xs.length->Pv i σ H->SqT K H a xs)
  (hs:∀i x σ H,xs[i]?=some x->Pv i σ H->g x σ H λ σ2 H2=>tb { D with nx:=Pv (i+1),ct:=Pv (i+1),bk:=D.nx } σ2 H2) (hd:∀σ H,Pv xs.length σ H->D.nx σ H):LoopT K g tb D σ (.ref a) H:=⟨a,rfl,⟨xs,hS⟩,x1j Pv h0 hl hs hd⟩
theorem LoopR.mk {lo:Int}{n:Nat}{g:TG}{tb:TS}{D:Ends}{σ:St}{H:Hp}(Pv:Nat->St->Hp->Prop) (h0:Pv 0 σ H)
  (hs:∀i σ H,i < n->Pv i σ H->g (.int (lo+i)) σ H λ σ2 H2=>tb { D with nx:=Pv (i+1),ct:=Pv (i+1),bk:=D.nx } σ2 H2) (hd:∀σ H,Pv n σ H->D.nx σ H):LoopR lo n g tb D σ H:=y5s Pv h0 hs hd
def CompL (K:PySem.W.Frag) (k:Nat) (js:List Nat) (g:TG) (te:TE) (σ:St) (x:V) (H1:Hp) (Q:VK):Prop:=∃a,x=.ref a/\(∃xs,SqL K H1 a xs)/\∃W:Nat->Nat->List V->St->Hp->Prop,(∃m,W 0 m [] (compSt k js σ) H1)/\∀i m ys σ' H',W i m ys σ' H' ->
  ((Itl K a).stop i H'/\∀p,H' p=none->Q (.ref p) (upd H' p (.lst ys))) \/
  ((Itl K a).go i H'/\ys.length < sizeLine/\∃N:List V->St->Hp->Prop,(∀zs σ2 H2,N zs σ2 H2->∃m',m' < m/\W (i+1) m' zs σ2 H2)/\∀x H2,(Itl K a).yld i H' x H2->g x σ' H2 λ σ3 H3=>te σ3 H3 λ v H4=>N (ys++[v]) σ3 H4)
def CompT (K:PySem.W.Frag) (k:Nat) (js:List Nat) (g:TG) (te:TE) (σ:St) (x:V) (H1:Hp) (Q:VK):Prop:=∃a,x=.ref a/\(∃xs,SqT K H1 a xs)/\∃W:Nat->Nat->List V->St->Hp->Prop,(∃m,W 0 m [] (compSt k js σ) H1)/\∀i m ys σ' H',W i m ys σ' H' ->
  ((Itt K a).stop i H'/\∀p,H' p=none->Q (.ref p) (upd H' p (.lst ys))) \/
  ((Itt K a).go i H'/\ys.length < sizeLine/\∃N:List V->St->Hp->Prop,(∀zs σ2 H2,N zs σ2 H2->∃m',m' < m/\W (i+1) m' zs σ2 H2)/\∀x H2,(Itt K a).yld i H' x H2->g x σ' H2 λ σ3 H3=>te σ3 H3 λ v H4=>N (ys++[v]) σ3 H4)
def CompR (lo:Int) (n k:Nat) (js:List Nat) (g:TG) (te:TE) (σ:St) (H1:Hp) (Q:VK):Prop:=∃W:Nat->Nat->List V->St->Hp->Prop,(∃m,W 0 m [] (compSt k js σ) H1)/\∀i m ys σ' H',W i m ys σ' H' ->
  ((Itr lo n).stop i H'/\∀p,H' p=none->Q (.ref p) (upd H' p (.lst ys))) \/
  ((Itr lo n).go i H'/\ys.length < sizeLine/\∃N:List V->St->Hp->Prop,(∀zs σ2 H2,N zs σ2 H2->∃m',m' < m/\W (i+1) m' zs σ2 H2)/\∀x H2,(Itr lo n).yld i H' x H2->g x σ' H2 λ σ3 H3=>te σ3 H3 λ v H4=>N (ys++[v]) σ3 H4)
theorem y9t {k:Nat}{js:List Nat}{ti:TE}{g:TG}{te:TE}{σ:St}{H:Hp}{Q:VK}:tComp (iList K ti) k js g te σ H Q=ti σ H λ x H1=>CompL K k js g te σ x H1 Q:=rfl
theorem y9r {k:Nat}{js:List Nat}{ti:TE}{g:TG}{te:TE}{σ:St}{H:Hp}{Q:VK}:tComp (iTup K ti) k js g te σ H Q=ti σ H λ x H1=>CompT K k js g te σ x H1 Q:=rfl
theorem y6l {k:Nat}{js:List Nat}{ta:TA}{g:TG}{te:TE}{σ:St}{H:Hp}{Q:VK}:tComp (iRng1 ta) k js g te σ H Q=ta σ H λ vs H1=>∃j:Int,vs=[.int j]/\-(2 ^ 62)≤j/\j < 2 ^ 62/\CompR 0 j.toNat k js g te σ H1 Q:=rfl
theorem CompL.mk {a:Addr}{xs:List V}{k:Nat}{js:List Nat}{g:TG}{te:TE}{Q:VK}{σ:St}{H:Hp}(hS:SqL K H a xs) (Pv:Nat->List V->St->Hp->Prop) (h0:Pv 0 [] (compSt k js σ) H) (hl:∀i ys σ H,i≤xs.length->Pv i ys σ H->SqL K H a xs)
  (hs:∀i x ys σ H,xs[i]?=some x->Pv i ys σ H->ys.length < sizeLine/\g x σ H λ σ3 H3=>te σ3 H3 λ v H4=>Pv (i+1) (ys++[v]) σ3 H4) (hd:∀ys σ H,Pv xs.length ys σ H->∀p,H p=none->Q (.ref p) (upd H p (.lst ys))) :
  CompL K k js g te σ (.ref a) H Q:=⟨a,rfl,⟨xs,hS⟩,y6c Pv h0 hl hs hd⟩
theorem CompT.mk {a:Addr}{xs:List V}{k:Nat}{js:List Nat}{g:TG}{te:TE}{Q:VK}{σ:St}{H:Hp}(hS:SqT K H a xs) (Pv:Nat->List V->St->Hp->Prop) (h0:Pv 0 [] (compSt k js σ) H) (hl:∀i ys σ H,i≤xs.length->Pv i ys σ H->SqT K H a xs)
  (hs:∀i x ys σ H,xs[i]?=some x->Pv i ys σ H->ys.length < sizeLine/\g x σ H λ σ3 H3=>te σ3 H3 λ v H4=>Pv (i+1) (ys++[v]) σ3 H4) (hd:∀ys σ H,Pv xs.length ys σ H->∀p,H p=none->Q (.ref p) (upd H p (.lst ys))) :
  CompT K k js g te σ (.ref a) H Q:=⟨a,rfl,⟨xs,hS⟩,y9o Pv h0 hl hs hd⟩
theorem CompR.mk {lo:Int}{n k:Nat}{js:List Nat}{g:TG}{te:TE}{Q:VK}{σ:St}{H:Hp}(Pv:Nat->List V->St->Hp->Prop) (h0:Pv 0 [] (compSt k js σ) H)
  (hs:∀i ys σ H,i < n->Pv i ys σ H->ys.length < sizeLine/\g (.int (lo+i)) σ H λ σ3 H3=>te σ3 H3 λ v H4=>Pv (i+1) (ys++[v]) σ3 H4) (hd:∀ys σ H,Pv n ys σ H->∀p,H p=none->Q (.ref p) (upd H p (.lst ys))) :
  CompR lo n k js g te σ H Q:=y1z Pv h0 hs hd
end
theorem x4f {CX:CXT}{P:Program}{w:World}{K:W.Frag}{mg:Str->Option Value}{base:Heap}{N:List Str}{qual:Str}{scope:Scope}{f:Addr}{cd:Value}{A:Around}{outer:List Env}{s:Shared}{H:Hp}{E:XK}:(cxOf CX P w K mg base N qual scope f cd A outer s H E).K=K:=rfl
theorem y9m {X:Cx}{N:List Str}{scope:Scope}{cl:List (Str × Addr)}{C:Addr}{ex:List Addr}{s:Shared}{H:Hp}:(cxComp X N scope cl C ex s H).K=X.K:=rfl
def tyS:V->Option String
 | .int _=>some "int"
 | .bl _=>some "bool"
 | .str _=>some "str"
 | .non=>some "NoneType"
 | _=>none
def isiN (t n:String):Bool:=t == n || (t == "bool" && n == "int")
def isiB (x:V) (n:String):Bool:=match tyS x with
 | some t=>isiN t n
 | none=>false
theorem x3r {i:Int}:isiB (.int i) "int" = true:=by show isiN "int" "int" = true;decide +kernel
theorem x3s {i:Int}:isiB (.int i) "bool" = false:=by show isiN "int" "bool" = false;decide +kernel
theorem x3t {b:Bool}:isiB (.bl b) "int" = true:=by show isiN "bool" "int" = true;decide +kernel
theorem x3u {b:Bool}:isiB (.bl b) "bool" = true:=by show isiN "bool" "bool" = true;decide +kernel
theorem x3q {i:Int}:isiB (.int i) "tuple" = false:=by show isiN "int" "tuple" = false;decide +kernel
theorem y0l {K:W.Frag}{t n:String}{b:Bool}(e:(if (Value.type t == Value.type n)=true then some true else if W.kitMeta n=true then (fastBuiltinMro t).map (·.contains (.type n)) else none)=some b):W.kitOne K (.type t) (.type n)=some b:=by
 unfold W.kitOne
 split at e
 ·rename_i h;rw [if_pos h];exact e
 ·rename_i h;rw [if_neg h];exact e
theorem y5c {K:W.Frag}{x:V}{t n:String}(hn:n∈["int", "bool", "tuple", "list", "str"]) (ht:tyS x=some t):W.kitOne K (.type t) (.type n)=some (isiB x n):=by
 simp only [List.mem_cons,List.mem_nil_iff,or_false] at hn
 cases x<;>simp only [tyS,reduceCtorEq,Option.some.injEq] at ht<;>subst ht<;>rcases hn with rfl | rfl | rfl | rfl | rfl<;>refine y0l ?_<;>simp only [isiB,tyS]<;>decide +kernel
theorem y6r {X:Cx}:CallR X (.builtin "isinstance") (λ xs H Q=>∃x n,xs=[x,.ty n]/\(n∈["int", "bool", "tuple", "list", "str"]/\(tyS x).isSome=true)/\Q (.bl (isiB x n)) H):=by
 intro pins s σ H xs us Q I r h
 obtain ⟨x,n,rfl,⟨hn,hx⟩,q⟩:=h
 obtain ⟨t,ht⟩:=Option.isSome_iff_exists.mp hx
 refine y0v pins s σ H _ us Q I r ⟨x,n,.type t,isiB x n,rfl,?_,y5c hn ht,q⟩
 cases x<;>simp only [tyS,reduceCtorEq,Option.some.injEq] at ht<;>subst ht
 ·exact .non
 ·exact .bl _
 ·exact .int _
 ·exact .str _
theorem na2:(Int.natAbs 2 < 18446744073709551616)=True:=eq_true (by decide)
theorem x5i:(Int.natAbs 10 < 18446744073709551616)=True:=eq_true (by decide)
theorem z0b {H:Hp}{p:Addr}(h:H p=none) (o:HO):Same H (upd H p o):=λ b u q=>by rw [z0m (z2f q h)];exact q
theorem small {n:Nat}(h:n≤1000):n≤sizeLine:=Nat.le_of_lt (z0z h)
theorem Same.tup {K:W.Frag}{H H':Hp}{a:Addr}{xs:List V}(e:Same H H') (h:SqT K H a xs):SqT K H' a xs:=by
 rcases h with (h | ⟨o,h⟩) | h
 ·exact .inl (.inl (e _ _ h))
 ·exact .inl (.inr ⟨o,e _ _ h⟩)
 ·exact .inr h
theorem x2i {σ:St}(h:σ.length=1):∃z,σ=[z]:=by
 match σ,h with
 | [z],_=>exact ⟨z,rfl⟩
theorem x0f {α β:Type}{f:α->β}{l:List α}{i:Nat}{y:β}(h:(l.map f)[i]?=some y):∃x,l[i]?=some x/\y=f x:=by
 rw [List.getElem?_map] at h
 obtain ⟨x,h1,h2⟩:=Option.map_eq_some_iff.mp h
 exact ⟨x,h1,h2.symm⟩
theorem y1b {α:Type}{l:List α}{i:Nat}{x:α}(h:l[i]?=some x):l.take (i+1)=l.take i++[x]:=by
 rw [List.take_succ,h];rfl
theorem CompL.vals {K:W.Frag}{a:Addr}{xs:List V}{te:TE}{Q:VK}{σ:St}{H:Hp}{fn:V->V}(hS:SqL K H a xs) (hz:xs.length≤1000)
  (hs:∀x∈xs,∀H1,Same H H1->∀Q':VK,(∀H2,Same H1 H2->Q' (fn x) H2)->te [some x] H1 Q')
  (hd:∀H1,Same H H1->∀p,H1 p=none->Q (.ref p) (upd H1 p (.lst (xs.map fn)))):CompL K 1 [] (gName 0) te σ (.ref a) H Q:=by
 refine CompL.mk hS (λ i ys σ' H'=>Same H H'/\ys=(xs.take i).map fn/\σ'.length=1) ⟨Same.refl _,rfl,rfl⟩ (λ i ys σ' H' _ h=>h.1.seq hS) (λ i x ys σ' H' e h=>?_) (λ ys σ' H' h p hp=>?_)
 ·obtain ⟨h1,rfl,h3⟩:=h
  obtain ⟨z,rfl⟩:=x2i h3
  refine ⟨?_,?_⟩
  ·rw [List.length_map,List.length_take]
   exact Nat.lt_of_le_of_lt (Nat.min_le_right _ _) (z0z hz)
  ·refine hs x (List.mem_of_getElem? e) H' h1 _ λ H2 h2=>⟨h1.trans h2,?_,rfl⟩
   rw [y1b e,List.map_append];rfl
 ·obtain ⟨h1,rfl,h3⟩:=h
  rw [List.take_length]
  exact hd H' h1 p hp
section
variable {X:Cx}
def rInT:R2:=λ x y H Q=>∃p xs,y=.ref p/\H p=some (.tup xs)/\flatV x=true/\xs.all flatV=true/\Q (.bl (inV x xs)) H
def rInL:R2:=λ x y H Q=>∃p xs,y=.ref p/\H p=some (.lst xs)/\flatV x=true/\xs.all flatV=true/\Q (.bl (inV x xs)) H
theorem x3c:OpR X (compareOp .In) rInL:=by
 intro pins s σ H x y v u Q I rx ry h
 obtain ⟨p,xs,rfl,hq,fx,fs,q⟩:=h
 exact y4b pins s σ H x _ v u Q I rx ry ⟨p,xs,rfl,.inl (.of hq),fx,fs,q⟩
def rIxLH:R2:=λ x y H Q=>∃p xs i v,x=.ref p/\y=.int i/\H p=some (.lst xs)/\atI xs i=some v/\Q v H
def rIxTH:R2:=λ x y H Q=>∃p xs i v,x=.ref p/\y=.int i/\H p=some (.tup xs)/\atI xs i=some v/\Q v H
theorem z0x:IxR X rIxLH:=by
 intro value slice pins s σ H x y v u Q I rx ry h hs
 obtain ⟨p,xs,i,z,rfl,rfl,hq,he,q⟩:=h
 exact z4i value slice pins s σ H _ _ v u Q I rx ry ⟨p,xs,i,z,rfl,rfl,.of hq,he,q⟩ hs
theorem z0u:IxR X rIxTH:=by
 intro value slice pins s σ H x y v u Q I rx ry h hs
 obtain ⟨p,xs,i,z,rfl,rfl,hq,he,q⟩:=h
 exact x3p value slice pins s σ H _ _ v u Q I rx ry ⟨p,xs,i,z,rfl,rfl,.of hq,he,q⟩ hs
end
section
variable {X:Cx}
def gTupH (n:Nat) (t:TGs):TG:=λ v σ H Q=>∃a xs,v=.ref a/\H a=some (.tup xs)/\xs.length=n/\t xs σ H Q
theorem y3r {es:List Expr}{k:Nat}{pos:Pos}{t:TGs}{n:Nat}(h:PG X (.Tuple es k pos) (gTup X.K n t)):PG X (.Tuple es k pos) (gTupH n t):=by
 intro pins s σ H v u Q I r q
 obtain ⟨a,xs,e,ha,hl,q⟩:=q
 exact h pins s σ H v u Q I r ⟨a,xs,e,.of ha,hl,q⟩
def tApp (to te:TE):TE:=λ σ H Q=>to σ H λ x H1=>∃l,x=.ref l/\(∃xs,H1 l=some (.lst xs))/\te σ H1 λ v H2=>∃xs,H2 l=some (.lst xs)/\xs.length < sizeLine/\Q .non (upd H2 l (.lst (xs++[v])))
theorem z3s {o e:Expr}{to te:TE}{apos cpos:Pos}(ho:PE X o to) (he:PE X e te)
  (hbase:attributeBase o "append" X.env (eval o X.env)=eval o X.env:=by rfl) (hfew:((backTo cpos (starEach [e] X.env)).all (λ x=>!x.1) && (backToKw cpos (keywordEach [] X.env)).all (λ x=>x.1.isSome)
   && decide ([e].length+([]:List Keyword).length+(if ([]:List Keyword).isEmpty then 0 else 1) < 30))=true:=by rfl)
  (hline:(apos.endLine == cpos.line)=true:=by rfl) (hs:starEach [e] X.env=[(false,eval e X.env)]:=by rfl):PE X (.Call (.Attribute o "append" apos) [e] [] cpos) (tApp to te):=by
 intro pins s σ H Q I h
 refine wpAny_Call_method_late hbase hfew hline rfl (thn (ho pins s σ H _ I h) λ v s1 ⟨x,H1,I1,r1,q1⟩=>?_)
 obtain ⟨l,rfl,⟨xs1,hx1⟩,q2⟩:=q1
 obtain ⟨h1,h2⟩:=x0a (T := "list") I1 r1 (.inl ⟨rfl,_,.of hx1⟩)
 refine ⟨"list", "list.append",PySem.F.plainAttrs_list,PySem.F.slot_list_append,PySem.F.type_list_append,h1,h2,?_⟩
 have hA:=(z0a he z0e hs) cpos pins s1 σ H1 (λ vs H2=>match vs with | [v]=>∃xs,H2 l=some (.lst xs)/\xs.length < sizeLine/\Q .non (upd H2 l (.lst (xs++[v]))) | _=>False) I1 q2
 rw [hs] at hA ⊢
 refine Calls.callWith_builtin rfl (Calls.evalArgs_plain ?_)
 refine thn hA λ us s2 ⟨vs,H2,I2,r2,q3⟩=>?_
 match vs,q3 with
 | [v2],⟨xs,hx,hz,q⟩=>exact y4x pins s2 σ H2 (.ref l) [v2] v us Q I2 r1 r2 ⟨l,xs,v2,rfl,rfl,hx,hz,q⟩
end
def SameX (l:Addr) (H H':Hp):Prop:=∀b o,b≠l->H b=some o->H' b=some o
theorem SameX.refl (l:Addr) (H:Hp):SameX l H H:=λ _ _ _ h=>h
theorem SameX.trans {l:Addr}{H H1 H2:Hp}(a:SameX l H H1) (b:SameX l H1 H2):SameX l H H2:=λ c o n h=>b c o n (a c o n h)
theorem SameX.set {l:Addr}(H:Hp) (o:HO):SameX l H (upd H l o):=λ b u n e=>by rw [z0m n];exact e
end L2
namespace L2
open PySem PySem.Spec PyProof.Rows PySem.W PySem.Calls
structure ExcK (K:W.Frag) (C:Addr):Prop where
 cls:(clsIn K C).isSome=true
 ga:findIn K (.ref C) "__getattribute__" = some (some (.builtin "BaseException.__getattribute__"))
 gt:findIn K (.ref C) "__getattr__" = some none
 cl:findIn K (.ref C) "__class__" = some (some (.builtin "object.__class__"))
 mo:mroIn K C (.type "object")=some true
 mb:mroIn K C (.type "BaseException")=some true
section
variable {prog:Program}{w:World}{A:Around}{E:Value->Shared->Prop}{K:W.Frag}{h:Heap}{g:Array GenState}{d:Drawn}{t:Nat}{os:OsState}{a C:Addr}{ox:Obj}
end
section
variable {X:Cx}
end
def IsRv (h:Heap) (a t:Addr) (i:Int):Prop:=∃o,h.get? a=some o/\o.cls=.type "reversed" /\ o.data=.fields #[.ref t,rawInt i]
theorem IsRv.typeIs {s:Shared}{a t:Addr}{i:Int}(x:IsRv s.heap a t i):s.TypeIs (.ref a) "reversed" := let ⟨o,ho,hc,_⟩:=x;⟨o,ho,hc⟩
section
variable {prog:Program}{w:World}{A:Around}{E:Value->Shared->Prop}{s:Shared}
end
def Itrv (K:W.Frag) (a:Addr) (n:Nat):It:=⟨λ i H=>∃xs,SqT K H a xs/\xs.length=n/\i < n,λ i H x H'=>H'=H/\∀xs,SqT K H a xs->xs[n - 1 - i]?=some x,λ i H=>∃xs,SqT K H a xs/\xs.length=n/\i=n⟩
section
variable {X:Cx}{tg:Expr}
def iRevT (K:W.Frag) (te:TE):TI:=λ σ H R=>te σ H λ x H1=>∃a xs,x=.ref a/\SqT K H1 a xs/\R (Itrv K a xs.length) H1
end
def LoopV (K:PySem.W.Frag) (g:TG) (tb:TS) (D:Ends) (σ:St) (x:V) (H1:Hp):Prop:=∃a xs,x=.ref a/\SqT K H1 a xs/\∃W:Nat->Nat->St->Hp->Prop,(∃m,W 0 m σ H1)/\∀i m σ H,W i m σ H ->
 ((Itrv K a xs.length).stop i H/\D.nx σ H)\/((Itrv K a xs.length).go i H/\∃N:St->Hp->Prop,(∀σ' H',N σ' H'->∃m',m' < m/\W (i+1) m' σ' H')/\∀x H',(Itrv K a xs.length).yld i H x H'->g x σ H' λ σ2 H2=>tb { D with nx:=N,ct:=N,bk:=D.nx } σ2 H2)
theorem x1m {K:W.Frag}{te:TE}{g:TG}{tb:TS}{D:Ends}{σ:St}{H:Hp}:tFor (iRevT K te) g tb D σ H=te σ H λ x H1=>LoopV K g tb D σ x H1:=rfl
theorem LoopV.mk {K:W.Frag}{a:Addr}{xs:List V}{g:TG}{tb:TS}{D:Ends}{σ:St}{H:Hp}(hS:SqT K H a xs) (Pv:Nat->St->Hp->Prop) (h0:Pv 0 σ H) (hl:∀i σ H,i≤xs.length->Pv i σ H->SqT K H a xs)
  (hs:∀i x σ H,i < xs.length->xs[xs.length - 1 - i]?=some x->Pv i σ H->g x σ H λ σ2 H2=>tb { D with nx:=Pv (i+1),ct:=Pv (i+1),bk:=D.nx } σ2 H2) (hd:∀σ H,Pv xs.length σ H->D.nx σ H):LoopV K g tb D σ (.ref a) H:=by
 refine ⟨a,xs,rfl,hS,λ i m σ H=>m=xs.length - i/\i≤xs.length/\Pv i σ H,⟨xs.length,by simp,Nat.zero_le _,h0⟩,?_⟩
 rintro i m σ H ⟨rfl,hi,p⟩
 have q:=hl i σ H hi p
 by_cases hlt:i < xs.length
 ·refine .inr ⟨⟨xs,q,rfl,hlt⟩,Pv (i+1),λ σ' H' p'=>⟨xs.length - (i+1),by omega,rfl,hlt,p'⟩,λ x H' y=>?_⟩
  obtain ⟨e,y⟩:=y
  subst e
  exact hs i x σ _ hlt (y xs q) p
 ·have e:i=xs.length:=by omega
  subst e
  exact .inl ⟨⟨xs,q,rfl,rfl⟩,hd σ H p⟩
section
variable {X:Cx}
def rCatA (K:W.Frag):R2:=λ x y H Q=>∃a b xs ys,x=.ref a/\y=.ref b/\SqT K H a xs/\SqT K H b ys/\xs.length+ys.length≤sizeLine /\
 (xs=[]->Q (.ref b) H)/\(xs≠[]->ys=[]->Q (.ref a) H)/\(xs≠[]->ys≠[]->∀p,H p=none->Q (.ref p) (upd H p (.tup (xs++ys))))
def eqVs:List V->List V->Bool
 | [],[]=>true
 | x::xs,y::ys=>eqV x y && eqVs xs ys
 | _,_=>false
def rEqL (K:W.Frag):R2:=λ x y H Q=>∃a b xs ys,x=.ref a/\y=.ref b/\SqL K H a xs/\SqL K H b ys/\xs.all flatV=true/\ys.all flatV=true/\Q (.bl (eqVs xs ys)) H
def rEqT (K:W.Frag):R2:=λ x y H Q=>∃a b xs ys,x=.ref a/\y=.ref b/\SqT K H a xs/\SqT K H b ys/\xs.all flatV=true/\ys.all flatV=true/\Q (.bl (eqVs xs ys)) H
theorem y5t:∀(ns:List Int),(ns.map V.int).all flatV=true
 | []=>rfl
 | n::ns=>by simp [flatV]
end
section
variable {pg:Program}{wd:World}{B:Around}{X0:Value->Shared->Prop}{s0:Shared}
theorem z3m {j t:Addr}{k:Nat}{its:Array Value}{x:Value}{R:Value->Shared->Prop}(p:s0.heap.IsTupleIter j t k) (q:s0.heap.IsTuple t its) (e:its[k]?=some x)
  (f:∀h',h'.IsTupleIter j t (k+1)->Heap.SameBut j s0.heap h'->R x { s0 with heap:=h' }):wpAny (model pg wd) B (Builtin.SmallTypes.nextOf (.ref j)) R X0 s0:=by
 obtain ⟨o,g,c,d⟩:=id p
 obtain ⟨ot,gt,_,nt,dt⟩:=q
 unfold Builtin.SmallTypes.nextOf
 refine wpAny_bind (wpAny_callSpecial?_slot (name:=Str.ofString "__next__") p.typeIs F.slot_tuple_iterator_next (wpAny_call_entry F.slot_tuple_iterator_next p.typeIs F.entry_tuple_iterator_next ?_ (F.args_tuple_iterator_next_1 _)))
 show wpAny _ _ (field (.ref j) 0 >>= _) _ _ s0
 refine wpAny_bind (wpAny_field g d (x:=.ref t) rfl ?_)
 show wpAny _ _ (if (Value.ref t == Value.none)=true then _ else _) _ _ s0
 rw [if_neg (show ¬((Value.ref t == Value.none)=true) from Bool.false_ne_true)]
 show wpAny _ _ (field (.ref j) 1 >>= _) _ _ s0
 refine wpAny_bind (wpAny_field g d (x:=.int k 0) rfl ?_)
 show wpAny _ _ (seqItems? (.ref t) >>= _) _ _ s0
 refine wpAny_bind (wpAny_seqItems gt dt ?_)
 simp only [Int.toNat_natCast,e]
 refine wpAny_bind (wpAny_setField g d (by simp) (wpAny_pure ⟨x,rfl,wpAny_pure (f _ ?_ (Heap.SameBut.update ..))⟩))
 exact ⟨_,Heap.get?_update_self _ g (Obj.isFreed_of_fields (Obj.data_mapFields d _)),(Obj.cls_mapFields ..).trans c,by rw [Obj.data_mapFields d];simp [rawInt]⟩
theorem z5x {j t:Addr}{k:Nat}{its:Array Value}{R:Value->Shared->Prop}(hh:B.handled=none) (p:s0.heap.IsTupleIter j t k) (q:s0.heap.IsTuple t its) (e:its[k]?=none)
  (f:∀h' z,Heap.ExtBut j s0.heap h'->(∃o,h'.get? z=some o/\o.cls=.type "StopIteration")->X0 (.ref z) { s0 with heap:=h' }):wpAny (model pg wd) B (Builtin.SmallTypes.nextOf (.ref j)) R X0 s0:=by
 obtain ⟨o,g,c,d⟩:=id p
 obtain ⟨ot,gt,_,nt,dt⟩:=q
 unfold Builtin.SmallTypes.nextOf
 refine wpAny_bind (wpAny_callSpecial?_slot (name:=Str.ofString "__next__") p.typeIs F.slot_tuple_iterator_next (wpAny_call_entry F.slot_tuple_iterator_next p.typeIs F.entry_tuple_iterator_next ?_ (F.args_tuple_iterator_next_1 _)))
 show wpAny _ _ (field (.ref j) 0 >>= _) _ _ s0
 refine wpAny_bind (wpAny_field g d (x:=.ref t) rfl ?_)
 show wpAny _ _ (if (Value.ref t == Value.none)=true then _ else _) _ _ s0
 rw [if_neg (show ¬((Value.ref t == Value.none)=true) from Bool.false_ne_true)]
 show wpAny _ _ (field (.ref j) 1 >>= _) _ _ s0
 refine wpAny_bind (wpAny_field g d (x:=.int k 0) rfl ?_)
 show wpAny _ _ (seqItems? (.ref t) >>= _) _ _ s0
 refine wpAny_bind (wpAny_seqItems gt dt ?_)
 simp only [Int.toNat_natCast,e]
 refine wpAny_bind (wpAny_rule (wpAny_bind (wpAny_setField g d (by simp) ?_)))
 show wpAny _ _ (newExc (.type "StopIteration") [] >>= _) _ _ _
 refine wpAny_bind ?_
 simp only [newExc,newTuple]
 refine wpAny_bind (wpAny_newObj_type ?_ (by size_fits))
 refine wpAny_bind (m:=firstArgMember _ _) (wpAny_of_eq (a:=Value.none) (by first | rfl | (simp only [firstArgMember];rfl)) ?_)
 refine wpAny_newObj_type ?_ (by size_fits)
 simp only [raiseNew]
 refine wpAny_bind (wpAny_handled ?_)
 first | rw [show B.in1.handled=none from hh] | rw [hh]
 refine wpAny_bind (wpAny_pure (wpAny_throw ?_))
 exact f _ _ (((Heap.SameBut.update ..).extBut.push _).push _) ⟨_,Heap.get?_push_size _ rfl,rfl⟩
structure Apart5 (z ti ox j1 j2 t1 t2:Addr):Prop where
 ti_z:ti≠z
 ox_z:ox≠z
 j1_z:j1≠z
 j2_z:j2≠z
 ti_ox:ti≠ox
 ti_j1:ti≠j1
 ti_j2:ti≠j2
 ox_j1:ox≠j1
 ox_j2:ox≠j2
 j12:j1≠j2
 t1_z:t1≠z
 t1_ox:t1≠ox
 t1_j1:t1≠j1
 t1_j2:t1≠j2
 t2_z:t2≠z
 t2_ox:t2≠ox
 t2_j1:t2≠j1
 t2_j2:t2≠j2
def But4 (z ox j1 j2:Addr) (h h':Heap):Prop:=∀c o,c≠z->c≠ox->c≠j1->c≠j2->h.get? c=some o->h'.get? c=some o
theorem z1n {h h':Heap}{j t:Addr}{k:Nat}(p:h.IsTupleIter j t k) (f:∀o,h.get? j=some o->h'.get? j=some o):h'.IsTupleIter j t k:=let ⟨o,g,r⟩:=p;⟨o,f o g,r⟩
theorem z5l {h h':Heap}{t:Addr}{its:Array Value}(p:h.IsTuple t its) (f:∀o,h.get? t=some o->h'.get? t=some o):h'.IsTuple t its:=let ⟨o,g,r⟩:=p;⟨o,f o g,r⟩
theorem y2c {z ti ox j1 j2 t1 t2:Addr}{k:Nat}{as bs:Array Value}{x y u v:Value}{R:Option Value->Shared->Prop}(ap:Apart5 z ti ox j1 j2 t1 t2) (hz:IsZip s0.heap z ti ox .none) (hi:IsPair s0.heap ti (.ref j1) (.ref j2)) (ho:IsPair s0.heap ox u v)
  (p1:s0.heap.IsTupleIter j1 t1 k) (p2:s0.heap.IsTupleIter j2 t2 k) (q1:s0.heap.IsTuple t1 as) (q2:s0.heap.IsTuple t2 bs) (e1:as[k]?=some x) (e2:bs[k]?=some y)
  (f:∀h',IsZip h' z ti ox (rawInt s0.heap.objs.size)->IsPair h' ox x y->h'.IsTupleIter j1 t1 (k+1)->h'.IsTupleIter j2 t2 (k+1)->IsPair h' s0.heap.objs.size x y->But4 z ox j1 j2 s0.heap h'->R (some (.ref s0.heap.objs.size)) { s0 with heap:=h' }) :
  wpAny (model pg wd) B (pyNext (.ref z)) R X0 s0:=by
 have ty:s0.TypeIs (.ref z) "zip" := ⟨_,hz,rfl⟩
 unfold pyNext
 refine wpAny_bind (wpAny_attempt (wpAny_callSpecial?_slot (name:=Str.ofString "__next__") ty F.slot_zip_next (wpAny_call_entry F.slot_zip_next ty F.entry_zip_next ?_ (F.args_zip_next_1 _))))
 show wpAny _ _ (field (.ref z) 2 >>= _) _ _ _
 refine wpAny_bind (wpAny_field hz rfl (x:=.bool false) rfl ?_)
 show wpAny _ _ (field (.ref z) 3 >>= _) _ _ _
 refine wpAny_bind (wpAny_field hz rfl (x:=.ref ti) rfl ?_)
 refine wpAny_bind (wpAny_seqItems hi rfl ?_)
 show wpAny _ _ (Builtin.SmallTypes.ownedTupleIsFree (.ref z) >>= _) _ _ _
 refine wpAny_bind ?_
 unfold Builtin.SmallTypes.ownedTupleIsFree
 refine wpAny_bind (wpAny_field hz rfl (x:=.none) rfl (wpAny_pure ?_))
 simp only [if_true]
 refine wpAny_bind (wpAny_rule ?_)
 refine wpAny_bind (wpAny_field hz rfl (x:=.ref ox) rfl ?_)
 refine wpAny_bind (wpAny_setField_rec hz (by simp) λ m1 zm1 sb1=>?_)
 have zm1:IsZip m1 z ti ox .ellipsis:=zm1
 refine wpAny_bind ?_
 simp only [List.zipIdx_cons,List.zipIdx_nil,List.forIn_cons,List.forIn_nil]
 refine wpAny_bind (wpAny_bind (wpAny_onRaise ?_))
 show wpAny _ _ (Builtin.SmallTypes.nextOf (.ref j1) >>= _) _ _ _
 refine wpAny_bind (z3m (z1n p1 λ o g=>sb1.extBut _ _ ap.j1_z g) (z5l q1 λ o g=>sb1.extBut _ _ ap.t1_z g) e1 λ m2 pm2 sb2=>wpAny_pure ?_)
 have om2:IsPair m2 ox u v:=sb2.extBut _ _ ap.ox_j1 (sb1.extBut _ _ ap.ox_z ho)
 refine wpAny_bind (wpAny_seqItems om2 rfl ?_)
 refine wpAny_bind (wpAny_updateSeq_pair om2 λ m3 om3 sb3=>?_)
 have om3:IsPair m3 ox x v:=om3
 refine wpAny_bind (wpAny_letGo (wpAny_pure ?_))
 refine wpAny_bind (wpAny_bind (wpAny_onRaise ?_))
 show wpAny _ _ (Builtin.SmallTypes.nextOf (.ref j2) >>= _) _ _ _
 have to3:∀c o,c≠z->c≠ox->c≠j1->s0.heap.get? c=some o->m3.get? c=some o:=λ c o a1 a2 a3 g=>sb3.extBut _ _ a2 (sb2.extBut _ _ a3 (sb1.extBut _ _ a1 g))
 refine wpAny_bind (z3m (z1n p2 λ o g=>to3 _ o ap.j2_z ap.ox_j2.symm ap.j12.symm g) (z5l q2 λ o g=>to3 _ o ap.t2_z ap.t2_ox ap.t2_j1 g) e2 λ m4 pm4 sb4=>wpAny_pure ?_)
 have om4:IsPair m4 ox x v:=sb4.extBut _ _ ap.ox_j2 om3
 refine wpAny_bind (wpAny_seqItems om4 rfl ?_)
 refine wpAny_bind (wpAny_updateSeq_pair om4 λ m5 om5 sb5=>?_)
 have om5:IsPair m5 ox x y:=om5
 refine wpAny_bind (wpAny_letGo (wpAny_pure (wpAny_pure ?_)))
 refine wpAny_bind (wpAny_seqItems om5 rfl ?_)
 refine wpAny_bind (wpAny_newTuple ?_)
 have sz5:m5.objs.size=s0.heap.objs.size:=by rw [sb5.1,sb4.1,sb3.1,sb2.1,sb1.1]
 have zm5:IsZip m5 z ti ox .ellipsis:=sb5.extBut _ _ ap.ox_z.symm (sb4.extBut _ _ ap.j2_z.symm (sb3.extBut _ _ ap.ox_z.symm (sb2.extBut _ _ ap.j1_z.symm zm1)))
 have to5:But4 z ox j1 j2 s0.heap m5:=λ c o a1 a2 a3 a4 g=>sb5.extBut _ _ a2 (sb4.extBut _ _ a4 (to3 c o a1 a2 a3 g))
 have pj1:m5.IsTupleIter j1 t1 (k+1):=z1n pm2 λ o g=>sb5.extBut _ _ ap.ox_j1.symm (sb4.extBut _ _ ap.j12 (sb3.extBut _ _ ap.ox_j1.symm g))
 have pj2:m5.IsTupleIter j2 t2 (k+1):=z1n pm4 λ o g=>sb5.extBut _ _ ap.ox_j2.symm g
 have zlt:z < m5.objs.size:=Heap.lt_size zm5
 show wpAny _ _ (Builtin.SmallTypes.ownedTupleHandOut (.ref z) (.ref m5.objs.size) >>= _) _ _ _
 refine wpAny_bind ?_
 unfold Builtin.SmallTypes.ownedTupleHandOut
 have zm6:IsZip (m5.push { cls:=.type "tuple",data:=.seq #[x,y] }) z ti ox .ellipsis:=Heap.get?_push_of_some _ zm5
 refine wpAny_bind (wpAny_setField_rec zm6 (by simp) λ m7 zm7 sb7=>?_)
 have zm7:IsZip m7 z ti ox (rawInt m5.objs.size):=zm7
 refine wpAny_setField_rec zm7 (by simp) λ m8 zm8 sb8=>?_
 have zm8:IsZip m8 z ti ox (rawInt m5.objs.size):=zm8
 have to8:∀c o,c≠z->m5.get? c=some o->m8.get? c=some o:=λ c o a1 g=>sb8.extBut _ _ a1 (sb7.extBut _ _ a1 (Heap.get?_push_of_some _ g))
 have np8:IsPair m8 m5.objs.size x y:=sb8.extBut _ _ (Nat.ne_of_gt zlt) (sb7.extBut _ _ (Nat.ne_of_gt zlt) (Heap.get?_push_size _ rfl))
 rw [sz5] at zm8 np8
 refine wpAny_pure ⟨_,rfl,wpAny_pure ?_⟩
 show R (some (.ref m5.objs.size)) _
 rw [sz5]
 exact f m8 zm8 (to8 _ _ ap.ox_z om5) (z1n pj1 λ o g=>to8 _ o ap.j1_z g) (z1n pj2 λ o g=>to8 _ o ap.j2_z g) np8 λ c o a1 a2 a3 a4 g=>to8 c o a1 (to5 c o a1 a2 a3 a4 g)
theorem y7c {z ti ox j1 j2 t1 t2:Addr}{k:Nat}{as bs:Array Value}{u v:Value}{R:Option Value->Shared->Prop}(hh:B.handled=none) (ap:Apart5 z ti ox j1 j2 t1 t2) (hz:IsZip s0.heap z ti ox .none) (hi:IsPair s0.heap ti (.ref j1) (.ref j2)) (ho:IsPair s0.heap ox u v)
  (p1:s0.heap.IsTupleIter j1 t1 k) (p2:s0.heap.IsTupleIter j2 t2 k) (q1:s0.heap.IsTuple t1 as) (q2:s0.heap.IsTuple t2 bs) (hend:as[k]?=none\/bs[k]?=none)
  (f:∀h',But4 z ox j1 j2 s0.heap h'->R none { s0 with heap:=h' }):wpAny (model pg wd) B (pyNext (.ref z)) R X0 s0:=by
 have ty:s0.TypeIs (.ref z) "zip" := ⟨_,hz,rfl⟩
 have last:∀(h':Heap) (e:Addr),But4 z ox j1 j2 s0.heap h'->(∃o,h'.get? e=some o/\o.cls=.type "StopIteration")->wpAny (model pg wd) B (do if ← isInstance (.ref e) (.type "StopIteration") then pure none else throw (.ref e)) R X0 { s0 with heap:=h' }:=λ h' e bt ⟨o,g,c⟩ =>
  wpAny_bind (wpAny_isInstance (T := "StopIteration") (b:=true) ⟨o,g,c⟩ isSubtype_stop (wpAny_pure (f _ bt)))
 unfold pyNext
 refine wpAny_bind (wpAny_attempt (wpAny_callSpecial?_slot (name:=Str.ofString "__next__") ty F.slot_zip_next (wpAny_call_entry F.slot_zip_next ty F.entry_zip_next ?_ (F.args_zip_next_1 _))))
 show wpAny _ _ (field (.ref z) 2 >>= _) _ _ _
 refine wpAny_bind (wpAny_field hz rfl (x:=.bool false) rfl ?_)
 show wpAny _ _ (field (.ref z) 3 >>= _) _ _ _
 refine wpAny_bind (wpAny_field hz rfl (x:=.ref ti) rfl ?_)
 refine wpAny_bind (wpAny_seqItems hi rfl ?_)
 show wpAny _ _ (Builtin.SmallTypes.ownedTupleIsFree (.ref z) >>= _) _ _ _
 refine wpAny_bind ?_
 unfold Builtin.SmallTypes.ownedTupleIsFree
 refine wpAny_bind (wpAny_field hz rfl (x:=.none) rfl (wpAny_pure ?_))
 simp only [if_true]
 refine wpAny_bind (wpAny_rule ?_)
 refine wpAny_bind (wpAny_field hz rfl (x:=.ref ox) rfl ?_)
 refine wpAny_bind (wpAny_setField_rec hz (by simp) λ m1 zm1 sb1=>?_)
 have zm1:IsZip m1 z ti ox .ellipsis:=zm1
 refine wpAny_bind ?_
 simp only [List.zipIdx_cons,List.zipIdx_nil,List.forIn_cons,List.forIn_nil]
 refine wpAny_bind (wpAny_bind (wpAny_onRaise ?_))
 show wpAny _ _ (Builtin.SmallTypes.nextOf (.ref j1) >>= _) _ _ _
 cases e1:as[k]? with
 | none =>
  refine wpAny_bind (z5x hh (z1n p1 λ o g=>sb1.extBut _ _ ap.j1_z g) (z5l q1 λ o g=>sb1.extBut _ _ ap.t1_z g) e1 λ m2 e xb he=>?_)
  obtain ⟨oe,ge,ce⟩:=he
  have zm2:IsZip m2 z ti ox .ellipsis:=xb _ _ ap.j1_z.symm zm1
  have ez:e≠z:=λ q=>by subst q;rw [zm2] at ge;cases ge;simp at ce
  exact wpAny_setField_rec zm2 (by simp) λ m3 _ sb3=>last m3 e (λ c o a1 _ a3 _ g=>sb3.extBut _ _ a1 (xb _ _ a3 (sb1.extBut _ _ a1 g))) ⟨oe,sb3.extBut _ _ ez ge,ce⟩
 | some x =>
  have e2:bs[k]?=none:=by rcases hend with q | q;rw [e1] at q;cases q;exact q
  refine wpAny_bind (z3m (z1n p1 λ o g=>sb1.extBut _ _ ap.j1_z g) (z5l q1 λ o g=>sb1.extBut _ _ ap.t1_z g) e1 λ m2 pm2 sb2=>wpAny_pure ?_)
  have om2:IsPair m2 ox u v:=sb2.extBut _ _ ap.ox_j1 (sb1.extBut _ _ ap.ox_z ho)
  refine wpAny_bind (wpAny_seqItems om2 rfl ?_)
  refine wpAny_bind (wpAny_updateSeq_pair om2 λ m3 om3 sb3=>?_)
  refine wpAny_bind (wpAny_letGo (wpAny_pure ?_))
  refine wpAny_bind (wpAny_bind (wpAny_onRaise ?_))
  show wpAny _ _ (Builtin.SmallTypes.nextOf (.ref j2) >>= _) _ _ _
  have to3:∀c o,c≠z->c≠ox->c≠j1->s0.heap.get? c=some o->m3.get? c=some o:=λ c o a1 a2 a3 g=>sb3.extBut _ _ a2 (sb2.extBut _ _ a3 (sb1.extBut _ _ a1 g))
  refine wpAny_bind (z5x hh (z1n p2 λ o g=>to3 _ o ap.j2_z ap.ox_j2.symm ap.j12.symm g) (z5l q2 λ o g=>to3 _ o ap.t2_z ap.t2_ox ap.t2_j1 g) e2 λ m4 e xb he=>?_)
  obtain ⟨oe,ge,ce⟩:=he
  have zm4:IsZip m4 z ti ox .ellipsis:=xb _ _ ap.j2_z.symm (sb3.extBut _ _ ap.ox_z.symm (sb2.extBut _ _ ap.j1_z.symm zm1))
  have ez:e≠z:=λ q=>by subst q;rw [zm4] at ge;cases ge;simp at ce
  exact wpAny_setField_rec zm4 (by simp) λ m5 _ sb5=>last m5 e (λ c o a1 a2 a3 a4 g=>sb5.extBut _ _ a1 (xb _ _ a4 (to3 c o a1 a2 a3 g))) ⟨oe,sb5.extBut _ _ ez ge,ce⟩
end
theorem Inv.turnedL {X:Cx}{pins:List (Addr × Obj)}{σ:St}{H:Hp}{s:Shared}{h':Heap}{t':Nat}{fl:List Addr}(I:Inv X pins σ H s) (kk:∀b o,b ∉ fl->s.heap.get? b=some o->h'.get? b=some o) (fo:∀b∈fl,FpOk X pins H b):Inv X pins σ H { s with heap:=h',toks:=t' }:=by
 have out:∀b u,H b=some u->b ∉ fl:=λ b u e z=>by rw [(fo b z).1] at e;cases e
 refine I.step (g':=s.gens) (d':=s.drawn) (ch:=fl) (λ b hb=>?_) (λ b o _ _ hc e _=>kk b o hc e) (λ b o _ _ hc e _=>⟨o.slots,kk b o hc e⟩) (λ _ _ _ _ q=>q)
  (λ b o hc e=>⟨o,kk b o hc e⟩) (λ _ _ e=>e) (λ _ _ _ e=>e) (λ b ps e=>⟨#[],by rw [e];simp⟩) (λ m hm=>?_) (λ b u e=>?_) I.bare
 ·obtain ⟨_,f1,_,f3,f4,f5⟩:=fo b hb
  exact ⟨f3,f1,f4,f5⟩
 ·obtain ⟨o,es,ep,ho,r⟩:=hm
  exact ⟨o,es,ep,kk _ o (λ z=>(fo _ z).2.1 rfl) ho,r⟩
 ·refine (I.hok b u e).stay (λ c v hc q=>kk c v ?_ q) (λ _ q=>q) λ _ _ q=>q
  rcases hc with z | z
  ·rw [z];exact out b u e
  ·exact out c _ z
def Itz (K:W.Frag) (a b:Addr):It:=⟨λ i H=>∃xs ys x y,SqT K H a xs/\SqT K H b ys/\xs[i]?=some x/\ys[i]?=some y,
 λ i H v H'=>∃T x y,v=.ref T/\H T=none/\H'=upd H T (.tup [x,y])/\∀xs ys,SqT K H a xs->SqT K H b ys->xs[i]?=some x/\ys[i]?=some y,λ i H=>∃xs ys,SqT K H a xs/\SqT K H b ys/\(xs.length≤i\/ys.length≤i)⟩
theorem y7e {P:Program}{w:World}{K:W.Frag}{es:List Expr}{x1:Nat}{pp:Pos}{a b z ti ox j1 j2:Addr}(ap:Apart5 z ti ox j1 j2 a b) :
  Turn P w K (.Tuple es x1 pp) (Itz K a b) [z,ti,ox,j1,j2] z (λ i h=>IsZip h z ti ox .none/\IsPair h ti (.ref j1) (.ref j2)/\(∃u v,IsPair h ox u v)/\h.IsTupleIter j1 a i/\h.IsTupleIter j2 b i) where
 mem:=by simp
 obj:=λ i h q c hc=>by
  obtain ⟨q1,q2,⟨u,v,q3⟩,⟨o4,g4,_,d4⟩,⟨o5,g5,_,d5⟩⟩:=q
  simp only [List.mem_cons,List.not_mem_nil,or_false] at hc
  rcases hc with rfl | rfl | rfl | rfl | rfl
  ·exact ⟨_,q1,λ v z=>nomatch z⟩
  ·exact ⟨_,q2,λ v z=>nomatch z⟩
  ·exact ⟨_,q3,λ v z=>nomatch z⟩
  ·exact ⟨_,g4,λ v z=>by rw [d4] at z;cases z⟩
  ·exact ⟨_,g5,λ v z=>by rw [d5] at z;cases z⟩
 keep:=λ i h h' q k=>by
  obtain ⟨q1,q2,⟨u,v,q3⟩,q4,q5⟩:=q
  exact ⟨k _ (by simp) _ q1,k _ (by simp) _ q2,⟨u,v,k _ (by simp) _ q3⟩,z1n q4 λ o g=>k _ (by simp) o g,z1n q5 λ o g=>k _ (by simp) o g⟩
 item:=by
  intro X hP hw hK hc i pins s σ H E I hf st hg
  subst hP hw hK
  obtain ⟨xs,ys,x,y,hq1,hq2,hx,hy⟩:=hg
  obtain ⟨q1,q2,⟨u,v,q3⟩,q4,q5⟩:=st
  obtain ⟨as,ra,pa,za⟩:=I.tuple hq1
  obtain ⟨bs,rb,pb,zb⟩:=I.tuple hq2
  obtain ⟨ux,hux,rux⟩:=ra.get hx
  obtain ⟨uy,huy,ruy⟩:=rb.get hy
  refine y2c ap q1 q2 q3 q4 q5 (show s.heap.IsTuple a as.toArray from pa) (show s.heap.IsTuple b bs.toArray from pb) (x:=ux) (y:=uy) (by simpa using hux) (by simpa using huy) λ h' zz oo p1' p2' np bt=>?_
  have I1:Inv X pins σ H { s with heap:=h' }:=I.turnedL (t':=s.toks) (fl:=[z,ti,ox,j1,j2]) (λ c o hc e=>by
   simp only [List.mem_cons,List.not_mem_nil,or_false,not_or] at hc
   exact bt c o hc.1 hc.2.2.1 hc.2.2.2.1 hc.2.2.2.2 e) hf
  obtain ⟨f0,f1,f2,f3,f4,f5⟩:=I.fpOk (Nat.le_refl s.heap.objs.size) (I.hok.fresh (Nat.le_refl _))
  have n0:X.s₀.heap.get? s.heap.objs.size=none:=by
   cases q:X.s₀.heap.get? s.heap.objs.size with
   | none=>rfl
   | some o=>exact absurd (Nat.lt_of_lt_of_le (Heap.lt_size q) I.sz) (Nat.lt_irrefl _)
  have I2:Inv X pins σ (upd H s.heap.objs.size (.tup [x,y])) { s with heap:=h' }:=I1.track f0 ⟨small (by simp),[ux,uy],.cons rux (.cons ruy .nil),⟨_,np,rfl,_,rfl⟩⟩ f1 f4 f5 n0
  have lt:∀ {c o},s.heap.get? c=some o->c≠s.heap.objs.size:=λ e=>Nat.ne_of_lt (Heap.lt_size e)
  have hzT:z≠s.heap.objs.size:=lt q1
  have ti2:IsPair h' ti (.ref j1) (.ref j2):=bt _ _ ap.ti_z ap.ti_ox ap.ti_j1 ap.ti_j2 q2
  obtain ⟨e0,e1,e2,e3,e4,e5⟩:=hf z (by simp)
  refine ⟨_,rfl,wpAny_letOwnedTupleGo_zip zz λ h2 z2 sb=>?_⟩
  have I3:Inv X pins σ (upd H s.heap.objs.size (.tup [x,y])) { s with heap:=h2 }:=Inv.turned (s:={ s with heap:=h' }) (h':=h2) (t':=s.toks) (it:=z) I2 (λ c o hc e=>sb.extBut _ _ hc e) (by rw [z0m hzT];exact e0) e1 e3 e4 e5
  refine ⟨.ref s.heap.objs.size,_,I3,rfl,⟨_,x,y,rfl,f0,rfl,λ xs' ys' k1 k2=>?_⟩,⟨z2,sb.extBut _ _ ap.ti_z ti2,⟨_,_,sb.extBut _ _ ap.ox_z oo⟩,z1n p1' λ o g=>sb.extBut _ _ ap.j1_z g,z1n p2' λ o g=>sb.extBut _ _ ap.j2_z g⟩,λ c hc=>?_⟩
  ·rw [I.tuple_inj k1 hq1,I.tuple_inj k2 hq2];exact ⟨hx,hy⟩
  ·have cT:c≠s.heap.objs.size:=by
    obtain ⟨o4,g4,_⟩:=q4
    obtain ⟨o5,g5,_⟩:=q5
    simp only [List.mem_cons,List.not_mem_nil,or_false] at hc
    rcases hc with rfl | rfl | rfl | rfl | rfl
    ·exact hzT
    ·exact lt q2
    ·exact lt q3
    ·exact lt g4
    ·exact lt g5
   rw [z0m cT];exact (hf c hc).1
 done:=by
  intro X hP hw hK hc i pins s σ H E I hf st hg
  subst hP hw hK
  obtain ⟨xs,ys,hq1,hq2,hx⟩:=hg
  obtain ⟨q1,q2,⟨u,v,q3⟩,q4,q5⟩:=st
  obtain ⟨as,ra,pa,za⟩:=I.tuple hq1
  obtain ⟨bs,rb,pb,zb⟩:=I.tuple hq2
  have la:=ra.length
  have lb:=rb.length
  refine y7c (I.ok.hd hc) ap q1 q2 q3 q4 q5 (show s.heap.IsTuple a as.toArray from pa) (show s.heap.IsTuple b bs.toArray from pb) (by rcases hx with q | q;exact .inl (by simp;omega);exact .inr (by simp;omega)) λ h' bt=>⟨rfl,?_⟩
  exact I.turnedL (t':=s.toks) (fl:=[z,ti,ox,j1,j2]) (λ c o hc e=>by
   simp only [List.mem_cons,List.not_mem_nil,or_false,not_or] at hc
   exact bt c o hc.1 hc.2.2.1 hc.2.2.2.1 hc.2.2.2.2 e) hf
 self:=λ _ _ _ _ _ st h=>wpAny_pyIter_zip st.1 h
abbrev zt1 (h:Heap) (a:Addr):Heap:=h.push { cls:=.type "tuple_iterator",data:=.fields #[.ref a,.int 0 0] }
abbrev zt2 (h:Heap) (a b:Addr):Heap:=(zt1 h a).push { cls:=.type "tuple_iterator",data:=.fields #[.ref b,.int 0 0] }
abbrev zt3 (h:Heap) (a b:Addr):Heap:=(zt2 h a b).push { cls:=.type "tuple",data:=.seq #[.ref h.objs.size,.ref (zt1 h a).objs.size] }
abbrev zt4 (h:Heap) (a b:Addr):Heap:=(zt3 h a b).push { cls:=.type "tuple",data:=.seq #[.none,.none] }
abbrev zt5 (h:Heap) (a b:Addr):Heap:=(zt4 h a b).push { cls:=.type "zip",data:=.fields #[.none,.bool false,.bool false,.ref (zt2 h a b).objs.size,.ref (zt3 h a b).objs.size] }
theorem y7b (a b:Addr) (as bs:Array Value):Meets (Builtin.«zip.__new__» ⟨[.type "zip",.ref a,.ref b],[]⟩) (λ _ R s=>s.heap.IsTuple a as/\s.heap.IsTuple b bs/\R (.ok (.ret (.ref (zt4 s.heap a b).objs.size))) { s with heap:=zt5 s.heap a b }) :=
 .of_wp λ prog w A R s h=>by
  obtain ⟨hp,g,d,tk,os⟩:=s
  obtain ⟨ha,hb,h⟩:=h
  have q0:=sub_zip
  have q1:Heap.IsTuple (Shared.heap ⟨hp,g,d,tk,os⟩) a as:=ha
  have q2:Heap.IsTuple (Shared.heap ⟨hp.push { cls:=.type "tuple_iterator",data:=.fields #[.ref a,.int 0 0] },g,d,tk,os⟩) b bs:=z5l hb λ o e=>Heap.get?_push_of_some _ e
  wp_walk using wpAny_pyIter_tuple q1,wpAny_pyIter_tuple q2
  exact ⟨_,rfl,h⟩
theorem y2d {pg:Program}{wd:World}{B:Around}{X0:Value->Shared->Prop}{s0:Shared}{a b:Addr}{as bs:Array Value}{R:Value->Shared->Prop}(ha:s0.heap.IsTuple a as) (hb:s0.heap.IsTuple b bs)
  (f:∀h',IsZip h' (s0.heap.objs.size+4) (s0.heap.objs.size+2) (s0.heap.objs.size+3) .none->IsPair h' (s0.heap.objs.size+2) (.ref s0.heap.objs.size) (.ref (s0.heap.objs.size+1))->IsPair h' (s0.heap.objs.size+3) .none .none ->
   h'.IsTupleIter s0.heap.objs.size a 0->h'.IsTupleIter (s0.heap.objs.size+1) b 0->(∀c o,s0.heap.get? c=some o->h'.get? c=some o)->R (.ref (s0.heap.objs.size+4)) { s0 with heap:=h' }) :
  wpAny (model pg wd) B (call (.type "zip") [.ref a,.ref b]) R X0 s0:=by
 refine callType_new F.called_zip (by decide) (F.typeCall_zip_2 _ _) (F.newCall_zip_2 _ _) (λ ob=>F.args_object_init_3 ob _ _) F.entry_zip_new (y7b a b as bs) ⟨ha,hb,?_⟩
 have n1:(zt1 s0.heap a).objs.size=s0.heap.objs.size+1:=Heap.size_push ..
 have n2:(zt2 s0.heap a b).objs.size=s0.heap.objs.size+2:=by rw [Heap.size_push,n1]
 have n3:(zt3 s0.heap a b).objs.size=s0.heap.objs.size+3:=by rw [Heap.size_push,n2]
 have n4:(zt4 s0.heap a b).objs.size=s0.heap.objs.size+4:=by rw [Heap.size_push,n3]
 have g5:(zt5 s0.heap a b).get? (zt4 s0.heap a b).objs.size=some _:=Heap.get?_push_size _ rfl
 have g4:(zt5 s0.heap a b).get? (zt3 s0.heap a b).objs.size=some _:=Heap.get?_push_of_some _ (Heap.get?_push_size _ rfl)
 have g3:(zt5 s0.heap a b).get? (zt2 s0.heap a b).objs.size=some _:=Heap.get?_push_of_some _ (Heap.get?_push_of_some _ (Heap.get?_push_size _ rfl))
 have g2:(zt5 s0.heap a b).get? (zt1 s0.heap a).objs.size=some _:=Heap.get?_push_of_some _ (Heap.get?_push_of_some _ (Heap.get?_push_of_some _ (Heap.get?_push_size _ rfl)))
 have g1:(zt5 s0.heap a b).get? s0.heap.objs.size=some _:=Heap.get?_push_of_some _ (Heap.get?_push_of_some _ (Heap.get?_push_of_some _ (Heap.get?_push_of_some _ (Heap.get?_push_size _ rfl))))
 show _/\_
 rw [n2,n3,n4] at g5
 rw [n1,n2] at g3
 rw [n3] at g4
 rw [n1] at g2
 rw [n4]
 exact ⟨⟨_,g5,rfl⟩,f _ g5 g3 g4 ⟨_,g1,rfl,rfl⟩ ⟨_,g2,rfl,rfl⟩ λ c o q=>Heap.get?_push_of_some _ (Heap.get?_push_of_some _ (Heap.get?_push_of_some _ (Heap.get?_push_of_some _ (Heap.get?_push_of_some _ q))))⟩
theorem y9x (n a b:Nat) (ha:a < n) (hb:b < n):Apart5 (n+4) (n+2) (n+3) n (n+1) a b:=by
 constructor<;>first | exact Nat.ne_of_lt (by omega) | exact Nat.ne_of_gt (by omega)
section
variable {X:Cx}{es:List Expr}{x1:Nat}{pp:Pos}
def iZip (K:W.Frag) (ta:TA):TI:=λ σ H R=>ta σ H λ vs H1=>∃a b xs ys,vs=[.ref a,.ref b]/\SqT K H1 a xs/\SqT K H1 b ys/\R (Itz K a b) H1
theorem x2t {e1 e2:Expr}{ta:TA}{p pos:Pos}(hg:Gl X "zip") (hm:X.mg "zip" = none) (ha:PA X [e1,e2] ta) (hs:starEach [e1,e2] X.env=[(false,eval e1 X.env),(false,eval e2 X.env)]:=by rfl) (hs2:starEach [e2] X.env=[(false,eval e2 X.env)]:=by rfl) :
  PI X (.Tuple es x1 pp) (.Call (.Name "zip" p) [e1,e2] [] pos) (iZip X.K ta):=by
 intro pins s σ H R I h
 have hA:=ha pos pins s σ H _ I h
 refine Call_ (z5b I hg hm boot_zip (PyProof.Rows.callWith_type1 (thn hA λ us s1 ⟨vs,H1,I1,r1,q1⟩=>?_) (by rw [hs,hs2]) (by rw [hs2];rfl)))
 obtain ⟨a,b,xs,ys,rfl,ha,hb,q⟩:=q1
 obtain ⟨u,u',rfl,ra,rb⟩:=y7d r1
 cases (show u=Value.ref a from ra)
 cases (show u'=Value.ref b from rb)
 obtain ⟨as,va,pa,za⟩:=I1.tuple ha
 obtain ⟨bs,vb,pb,zb⟩:=I1.tuple hb
 have al:a < s1.heap.objs.size:=by obtain ⟨o,g,_⟩:=pa;exact Heap.lt_size g
 have bl:b < s1.heap.objs.size:=by obtain ⟨o,g,_⟩:=pb;exact Heap.lt_size g
 refine y2d (show s1.heap.IsTuple a as.toArray from pa) (show s1.heap.IsTuple b bs.toArray from pb) λ h' w1 w2 w3 w4 w5 kk=>?_
 have I2:Inv X pins σ H1 { s1 with heap:=h' }:=I1.kept (t':=s1.toks) kk
 have ap:=y9x s1.heap.objs.size a b al bl
 refine wpAny_pyIter_zip w1 ⟨s1.heap.objs.size+4,[s1.heap.objs.size+4,s1.heap.objs.size+2,s1.heap.objs.size+3,s1.heap.objs.size,s1.heap.objs.size+1],_,_,H1,rfl,I2,y7e ap,⟨w1,w2,⟨_,_,w3⟩,w4,w5⟩,λ c hc=>?_,q⟩
 have ge:s1.heap.objs.size≤c:=by
  simp only [List.mem_cons,List.not_mem_nil,or_false] at hc
  rcases hc with rfl | rfl | rfl | rfl | rfl<;>omega
 exact I1.fpOk ge (I1.hok.fresh ge)
end
def LoopZ (K:PySem.W.Frag) (g:TG) (tb:TS) (D:Ends) (σ:St) (vs:List V) (H1:Hp):Prop:=∃a b xs ys,vs=[.ref a,.ref b]/\SqT K H1 a xs/\SqT K H1 b ys/\∃W:Nat->Nat->St->Hp->Prop,(∃m,W 0 m σ H1)/\∀i m σ H,W i m σ H ->
 ((Itz K a b).stop i H/\D.nx σ H)\/((Itz K a b).go i H/\∃N:St->Hp->Prop,(∀σ' H',N σ' H'->∃m',m' < m/\W (i+1) m' σ' H')/\∀x H',(Itz K a b).yld i H x H'->g x σ H' λ σ2 H2=>tb { D with nx:=N,ct:=N,bk:=D.nx } σ2 H2)
theorem x1k {K:W.Frag}{ta:TA}{g:TG}{tb:TS}{D:Ends}{σ:St}{H:Hp}:tFor (iZip K ta) g tb D σ H=ta σ H λ vs H1=>LoopZ K g tb D σ vs H1:=rfl
theorem LoopZ.mk {K:W.Frag}{a b:Addr}{xs ys:List V}{g:TG}{tb:TS}{D:Ends}{σ:St}{H:Hp}(n:Nat) (hn:n=min xs.length ys.length) (h1:SqT K H a xs) (h2:SqT K H b ys) (Pv:Nat->St->Hp->Prop) (h0:Pv 0 σ H) (hl:∀i σ H,i≤n->Pv i σ H->SqT K H a xs/\SqT K H b ys)
  (hs:∀i x y σ H T,i < n->xs[i]?=some x->ys[i]?=some y->Pv i σ H->H T=none->g (.ref T) σ (upd H T (.tup [x,y])) λ σ2 H2=>tb { D with nx:=Pv (i+1),ct:=Pv (i+1),bk:=D.nx } σ2 H2) (hd:∀σ H,Pv n σ H->D.nx σ H) :
  LoopZ K g tb D σ [.ref a,.ref b] H:=by
 subst hn
 refine ⟨a,b,xs,ys,rfl,h1,h2,λ i m σ H=>m=min xs.length ys.length - i/\i≤min xs.length ys.length/\Pv i σ H,⟨_,rfl,Nat.zero_le _,h0⟩,?_⟩
 rintro i m σ H ⟨rfl,hi,p⟩
 obtain ⟨k1,k2⟩:=hl i σ H hi p
 by_cases hlt:i < min xs.length ys.length
 ·have l1:i < xs.length:=by omega
  have l2:i < ys.length:=by omega
  refine .inr ⟨⟨xs,ys,_,_,k1,k2,List.getElem?_eq_getElem l1,List.getElem?_eq_getElem l2⟩,Pv (i+1),λ σ' H' p'=>⟨min xs.length ys.length - (i+1),by omega,rfl,hlt,p'⟩,λ v H' yy=>?_⟩
  obtain ⟨T,x,y,rfl,hT,rfl,ex⟩:=yy
  obtain ⟨ex1,ex2⟩:=ex xs ys k1 k2
  exact hs i x y σ H T hlt ex1 ex2 p hT
 ·have e:i=min xs.length ys.length:=by omega
  exact .inl ⟨⟨xs,ys,k1,k2,by omega⟩,hd σ H (e ▸ p)⟩
def CompZ (K:PySem.W.Frag) (k:Nat) (js:List Nat) (g:TG) (te:TE) (σ:St) (vs:List V) (H1:Hp) (Q:VK):Prop:=∃a b xs ys,vs=[.ref a,.ref b]/\SqT K H1 a xs/\SqT K H1 b ys/\∃W:Nat->Nat->List V->St->Hp->Prop,(∃m,W 0 m [] (compSt k js σ) H1)/\∀i m zs σ' H',W i m zs σ' H' ->
  ((Itz K a b).stop i H'/\∀p,H' p=none->Q (.ref p) (upd H' p (.lst zs))) \/
  ((Itz K a b).go i H'/\zs.length < sizeLine/\∃N:List V->St->Hp->Prop,(∀zs σ2 H2,N zs σ2 H2->∃m',m' < m/\W (i+1) m' zs σ2 H2)/\∀x H2,(Itz K a b).yld i H' x H2->g x σ' H2 λ σ3 H3=>te σ3 H3 λ v H4=>N (zs++[v]) σ3 H4)
theorem y9p {K:W.Frag}{k:Nat}{js:List Nat}{ta:TA}{g:TG}{te:TE}{σ:St}{H:Hp}{Q:VK}:tComp (iZip K ta) k js g te σ H Q=ta σ H λ vs H1=>CompZ K k js g te σ vs H1 Q:=rfl
theorem CompZ.mk {K:W.Frag}{a b:Addr}{xs ys:List V}{k:Nat}{js:List Nat}{g:TG}{te:TE}{Q:VK}{σ:St}{H:Hp}(n:Nat) (hn:n=min xs.length ys.length) (h1:SqT K H a xs) (h2:SqT K H b ys) (Pv:Nat->List V->St->Hp->Prop) (h0:Pv 0 [] (compSt k js σ) H) (hl:∀i zs σ H,i≤n->Pv i zs σ H->SqT K H a xs/\SqT K H b ys)
  (hs:∀i x y zs σ H T,i < n->xs[i]?=some x->ys[i]?=some y->Pv i zs σ H->H T=none->zs.length < sizeLine/\g (.ref T) σ (upd H T (.tup [x,y])) λ σ3 H3=>te σ3 H3 λ v H4=>Pv (i+1) (zs++[v]) σ3 H4) (hz:∀zs σ H,Pv n zs σ H->∀p,H p=none->Q (.ref p) (upd H p (.lst zs))) (hlen:∀i zs σ H,Pv i zs σ H->zs.length < sizeLine) :
  CompZ K k js g te σ [.ref a,.ref b] H Q:=by
 subst hn
 refine ⟨a,b,xs,ys,rfl,h1,h2,λ i m zs σ H=>m=min xs.length ys.length - i/\i≤min xs.length ys.length/\Pv i zs σ H,⟨_,rfl,Nat.zero_le _,h0⟩,?_⟩
 rintro i m zs σ H ⟨rfl,hi,p⟩
 obtain ⟨k1,k2⟩:=hl i zs σ H hi p
 by_cases hlt:i < min xs.length ys.length
 ·have l1:i < xs.length:=by omega
  have l2:i < ys.length:=by omega
  refine .inr ⟨⟨xs,ys,_,_,k1,k2,List.getElem?_eq_getElem l1,List.getElem?_eq_getElem l2⟩,hlen _ _ _ _ p,Pv (i+1),λ zs' σ' H' p'=>⟨min xs.length ys.length - (i+1),by omega,rfl,hlt,p'⟩,λ v H' yy=>?_⟩
  obtain ⟨T,x,y,rfl,hT,rfl,ex⟩:=yy
  obtain ⟨ex1,ex2⟩:=ex xs ys k1 k2
  exact (hs i x y zs σ H T hlt ex1 ex2 p hT).2
 ·have e:i=min xs.length ys.length:=by omega
  exact .inl ⟨⟨xs,ys,k1,k2,by omega⟩,hz zs σ H (e ▸ p)⟩
section
variable {X:Cx}
theorem z8b (hc:X.calm=true):CallR X (.builtin "sum") (λ xs H Q=>∃(a:Addr) (ns:List Int),xs=[.ref a]/\SqL X.K H a (ns.map V.int)/\Q (.int ns.sum) H):=by
 intro pins s σ H xs us Q I r h
 obtain ⟨a,ns,rfl,hq,q⟩:=h
 obtain ⟨u,rfl,ru⟩:=z3a r
 cases (show u=Value.ref a from ru)
 obtain ⟨its,rv,pl,hz⟩:=I.list hq
 have hi:=y1w rv
 have hn:=hi.numsOf
 obtain ⟨ps,e⟩:=hi.allInts.items
 have hl:s.heap.IsList a (intItems ps):=e ▸ pl.isList
 refine sum_intListG (I.ok.hd hc) hl λ h' tk t' kk=>?_
 have e2:preSum (numAt ps) ps.size=ns.sum:=by
  rw [preSum_eq,List.take_of_length_le (by simp),← nums_intItems,← e]
  exact congrArg List.sum hn
 rw [e2]
 exact ⟨.int ns.sum,H,I.kept kk,⟨t',rfl⟩,q⟩
def Its (lo st:Int) (n:Nat):It:=⟨λ i _=>i < n,λ i H x H'=>H'=H/\x=.int (lo+i * st),λ i _=>n≤i⟩
def iRng3 (ta:TA):TI:=λ σ H R=>ta σ H λ vs H1=>∃i j c:Int,vs=[.int i,.int j,.int c]/\(c≠0/\c.natAbs < 1073741824/\Builtin.Range.small i j c=true)/\R (Its i c (Builtin.Range.rangeSize i j c).toNat) H1
end
def LoopS (lo st:Int) (n:Nat) (g:TG) (tb:TS) (D:Ends) (σ:St) (H1:Hp):Prop:=∃W:Nat->Nat->St->Hp->Prop,(∃m,W 0 m σ H1)/\∀i m σ H,W i m σ H ->
 ((Its lo st n).stop i H/\D.nx σ H)\/((Its lo st n).go i H/\∃N:St->Hp->Prop,(∀σ' H',N σ' H'->∃m',m' < m/\W (i+1) m' σ' H')/\∀x H',(Its lo st n).yld i H x H'->g x σ H' λ σ2 H2=>tb { D with nx:=N,ct:=N,bk:=D.nx } σ2 H2)
theorem y9e {ta:TA}{g:TG}{tb:TS}{D:Ends}{σ:St}{H:Hp}:tFor (iRng3 ta) g tb D σ H=ta σ H λ vs H1=>∃i j c:Int,vs=[.int i,.int j,.int c]/\(c≠0/\c.natAbs < 1073741824/\Builtin.Range.small i j c=true)/\LoopS i c (Builtin.Range.rangeSize i j c).toNat g tb D σ H1:=rfl
theorem LoopS.mk {lo st:Int}{n:Nat}{g:TG}{tb:TS}{D:Ends}{σ:St}{H:Hp}(Pv:Nat->St->Hp->Prop) (h0:Pv 0 σ H)
  (hs:∀i σ H,i < n->Pv i σ H->g (.int (lo+i * st)) σ H λ σ2 H2=>tb { D with nx:=Pv (i+1),ct:=Pv (i+1),bk:=D.nx } σ2 H2) (hd:∀σ H,Pv n σ H->D.nx σ H):LoopS lo st n g tb D σ H:=by
 refine ⟨λ i m σ H=>m=n - i/\i≤n/\Pv i σ H,⟨_,rfl,Nat.zero_le _,h0⟩,?_⟩
 rintro i m σ H ⟨rfl,hi,p⟩
 by_cases hlt:i < n
 ·refine .inr ⟨hlt,Pv (i+1),λ σ' H' p'=>⟨n - (i+1),by omega,rfl,hlt,p'⟩,λ v H' yy=>?_⟩
  obtain ⟨rfl,rfl⟩:=yy
  exact hs i σ _ hlt p
 ·have e:i=n:=by omega
  exact .inl ⟨(show n≤i by omega),hd σ H (e ▸ p)⟩
def CompS (lo st:Int) (n k:Nat) (js:List Nat) (g:TG) (te:TE) (σ:St) (H1:Hp) (Q:VK):Prop:=∃W:Nat->Nat->List V->St->Hp->Prop,(∃m,W 0 m [] (compSt k js σ) H1)/\∀i m ys σ' H',W i m ys σ' H' ->
  ((Its lo st n).stop i H'/\∀p,H' p=none->Q (.ref p) (upd H' p (.lst ys))) \/
  ((Its lo st n).go i H'/\ys.length < sizeLine/\∃N:List V->St->Hp->Prop,(∀zs σ2 H2,N zs σ2 H2->∃m',m' < m/\W (i+1) m' zs σ2 H2)/\∀x H2,(Its lo st n).yld i H' x H2->g x σ' H2 λ σ3 H3=>te σ3 H3 λ v H4=>N (ys++[v]) σ3 H4)
theorem y6k {k:Nat}{js:List Nat}{ta:TA}{g:TG}{te:TE}{σ:St}{H:Hp}{Q:VK}:tComp (iRng3 ta) k js g te σ H Q=ta σ H λ vs H1=>∃i j c:Int,vs=[.int i,.int j,.int c]/\(c≠0/\c.natAbs < 1073741824/\Builtin.Range.small i j c=true)/\CompS i c (Builtin.Range.rangeSize i j c).toNat k js g te σ H1 Q:=rfl
theorem CompS.mk {lo st:Int}{n k:Nat}{js:List Nat}{g:TG}{te:TE}{Q:VK}{σ:St}{H:Hp}(Pv:Nat->List V->St->Hp->Prop) (h0:Pv 0 [] (compSt k js σ) H) (hlen:∀i ys σ H,Pv i ys σ H->ys.length < sizeLine)
  (hs:∀i ys σ H,i < n->Pv i ys σ H->g (.int (lo+i * st)) σ H λ σ3 H3=>te σ3 H3 λ v H4=>Pv (i+1) (ys++[v]) σ3 H4) (hd:∀ys σ H,Pv n ys σ H->∀p,H p=none->Q (.ref p) (upd H p (.lst ys))):CompS lo st n k js g te σ H Q:=by
 refine ⟨λ i m ys σ H=>m=n - i/\i≤n/\Pv i ys σ H,⟨_,rfl,Nat.zero_le _,h0⟩,?_⟩
 rintro i m ys σ H ⟨rfl,hi,p⟩
 by_cases hlt:i < n
 ·refine .inr ⟨hlt,hlen _ _ _ _ p,Pv (i+1),λ zs σ' H' p'=>⟨n - (i+1),by omega,rfl,hlt,p'⟩,λ v H' yy=>?_⟩
  obtain ⟨rfl,rfl⟩:=yy
  exact hs i ys σ _ hlt p
 ·have e:i=n:=by omega
  exact .inl ⟨(show n≤i by omega),hd ys σ H (e ▸ p)⟩
theorem z3x {names:List (Str × NameKind)}{cl:List (Str × Addr)}(h:names.all (λ y=>match y.2 with | .cell=>(cl.lookup y.1).isSome | .free=>(cl.lookup y.1).isSome | _=>true)=true) :
  ∀x,(names.lookup x=some .cell\/names.lookup x=some .free)->∃c,cl.lookup x=some c:=by
 intro x hx
 have z:=List.all_eq_true.mp h
 rcases hx with hx | hx
 ·exact Option.isSome_iff_exists.mp (z _ (PySem.mem_of_lookup hx))
 ·exact Option.isSome_iff_exists.mp (z _ (PySem.mem_of_lookup hx))
theorem x2d {X:Cx}{scope:Scope}{cl:List (Str × Addr)}{x0:Str}{j0:Nat}(c0:Cap X scope cl x0 j0):∀(i:Nat) x j,[x0][i]?=some x->[j0][i]?=some j->Cap X scope cl x j
 | 0,_,_,h1,h2=>by cases h1;cases h2;exact c0
 | _+1,_,_,h1,_=>by cases h1
theorem x5f {X:Cx}{scope:Scope}{cl:List (Str × Addr)}{x0 x1:Str}{j0 j1:Nat}(c0:Cap X scope cl x0 j0) (c1:Cap X scope cl x1 j1):∀(i:Nat) x j,[x0,x1][i]?=some x->[j0,j1][i]?=some j->Cap X scope cl x j
 | 0,_,_,h1,h2=>by cases h1;cases h2;exact c0
 | 1,_,_,h1,h2=>by cases h1;cases h2;exact c1
 | _+2,_,_,h1,_=>by cases h1
section
variable {prog:Program}{w:World}{A:Around}{R:Result->Shared->Prop}{s:Shared}
end
def tCompI (wi:TI) (k:Nat) (js:List Nat) (g:TG) (tc:TT) (te:TE):TE:=λ σ H Q=>wi σ H λ J H1 =>
 ∃W:Nat->Nat->List V->St->Hp->Prop,(∃m,W 0 m [] (compSt k js σ) H1)/\∀i m ys σ' H',W i m ys σ' H' ->
  (J.stop i H'/\∀p,H' p=none->Q (.ref p) (upd H' p (.lst ys))) \/
  (J.go i H'/\ys.length < sizeLine/\∃N:List V->St->Hp->Prop,(∀zs σ2 H2,N zs σ2 H2->∃m',m' < m/\W (i+1) m' zs σ2 H2) /\
   ∀x H2,J.yld i H' x H2->g x σ' H2 λ σ3 H3=>tc σ3 H3 λ b H4=>if b=true then te σ3 H4 λ v H5=>N (ys++[v]) σ3 H5 else N ys σ3 H4)
section
variable {pg:Program}{wd:World}{B:Around}{X0:Value->Shared->Prop}{s0:Shared}
end
def Ite (K:W.Frag) (a:Addr):It:=⟨λ i H=>∃xs x,SqT K H a xs/\xs[i]?=some x,
 λ i H v H'=>∃T x,v=.ref T/\H T=none/\H'=upd H T (.tup [.int i,x])/\∀xs,SqT K H a xs->xs[i]?=some x,λ i H=>∃xs,SqT K H a xs/\xs.length≤i⟩
section
variable {X:Cx}{es:List Expr}{x1:Nat}{pp:Pos}
def iEnum (K:W.Frag) (te:TE):TI:=λ σ H R=>te σ H λ v H1=>∃a xs,v=.ref a/\SqT K H1 a xs/\R (Ite K a) H1
end
def CompE (K:PySem.W.Frag) (k:Nat) (js:List Nat) (g:TG) (te:TE) (σ:St) (v:V) (H1:Hp) (Q:VK):Prop:=∃a xs,v=.ref a/\SqT K H1 a xs/\∃W:Nat->Nat->List V->St->Hp->Prop,(∃m,W 0 m [] (compSt k js σ) H1)/\∀i m zs σ' H',W i m zs σ' H' ->
  ((Ite K a).stop i H'/\∀p,H' p=none->Q (.ref p) (upd H' p (.lst zs))) \/
  ((Ite K a).go i H'/\zs.length < sizeLine/\∃N:List V->St->Hp->Prop,(∀zs σ2 H2,N zs σ2 H2->∃m',m' < m/\W (i+1) m' zs σ2 H2)/\∀x H2,(Ite K a).yld i H' x H2->g x σ' H2 λ σ3 H3=>te σ3 H3 λ v H4=>N (zs++[v]) σ3 H4)
theorem y9u {K:W.Frag}{k:Nat}{js:List Nat}{tx:TE}{g:TG}{te:TE}{σ:St}{H:Hp}{Q:VK}:tComp (iEnum K tx) k js g te σ H Q=tx σ H λ v H1=>CompE K k js g te σ v H1 Q:=rfl
theorem CompE.mk {K:W.Frag}{a:Addr}{xs:List V}{k:Nat}{js:List Nat}{g:TG}{te:TE}{Q:VK}{σ:St}{H:Hp}(h1:SqT K H a xs) (Pv:Nat->List V->St->Hp->Prop) (h0:Pv 0 [] (compSt k js σ) H) (hl:∀i zs σ H,i≤xs.length->Pv i zs σ H->SqT K H a xs/\zs.length < sizeLine)
  (hs:∀i x zs σ H T,xs[i]?=some x->Pv i zs σ H->H T=none->g (.ref T) σ (upd H T (.tup [.int i,x])) λ σ3 H3=>te σ3 H3 λ v H4=>Pv (i+1) (zs++[v]) σ3 H4) (hz:∀zs σ H,Pv xs.length zs σ H->∀p,H p=none->Q (.ref p) (upd H p (.lst zs))) :
  CompE K k js g te σ (.ref a) H Q:=by
 refine ⟨a,xs,rfl,h1,λ i m zs σ H=>m=xs.length - i/\i≤xs.length/\Pv i zs σ H,⟨_,rfl,Nat.zero_le _,h0⟩,?_⟩
 rintro i m zs σ H ⟨rfl,hi,p⟩
 obtain ⟨k1,k2⟩:=hl i zs σ H hi p
 by_cases hlt:i < xs.length
 ·refine .inr ⟨⟨xs,_,k1,List.getElem?_eq_getElem hlt⟩,k2,Pv (i+1),λ zs' σ' H' p'=>⟨xs.length - (i+1),by omega,rfl,hlt,p'⟩,λ v H' yy=>?_⟩
  obtain ⟨T,x,rfl,hT,rfl,ex⟩:=yy
  exact hs i x zs σ H T (ex xs k1) p hT
 ·have e:i=xs.length:=by omega
  exact .inl ⟨⟨xs,k1,by omega⟩,hz zs σ H (e ▸ p)⟩
def CompEI (K:PySem.W.Frag) (k:Nat) (js:List Nat) (g:TG) (tc:TT) (te:TE) (σ:St) (v:V) (H1:Hp) (Q:VK):Prop:=∃a xs,v=.ref a/\SqT K H1 a xs/\∃W:Nat->Nat->List V->St->Hp->Prop,(∃m,W 0 m [] (compSt k js σ) H1)/\∀i m zs σ' H',W i m zs σ' H' ->
  ((Ite K a).stop i H'/\∀p,H' p=none->Q (.ref p) (upd H' p (.lst zs))) \/
  ((Ite K a).go i H'/\zs.length < sizeLine/\∃N:List V->St->Hp->Prop,(∀zs σ2 H2,N zs σ2 H2->∃m',m' < m/\W (i+1) m' zs σ2 H2)/\∀x H2,(Ite K a).yld i H' x H2->g x σ' H2 λ σ3 H3=>tc σ3 H3 λ b H4=>if b=true then te σ3 H4 λ v H5=>N (zs++[v]) σ3 H5 else N zs σ3 H4)
theorem y6n {K:W.Frag}{k:Nat}{js:List Nat}{tx:TE}{g:TG}{tc:TT}{te:TE}{σ:St}{H:Hp}{Q:VK}:tCompI (iEnum K tx) k js g tc te σ H Q=tx σ H λ v H1=>CompEI K k js g tc te σ v H1 Q:=rfl
theorem CompEI.mk {K:W.Frag}{a:Addr}{xs:List V}{k:Nat}{js:List Nat}{g:TG}{tc:TT}{te:TE}{Q:VK}{σ:St}{H:Hp}(h1:SqT K H a xs) (Pv:Nat->List V->St->Hp->Prop) (h0:Pv 0 [] (compSt k js σ) H) (hl:∀i zs σ H,i≤xs.length->Pv i zs σ H->SqT K H a xs/\zs.length < sizeLine)
  (hs:∀i x zs σ H T,xs[i]?=some x->Pv i zs σ H->H T=none->g (.ref T) σ (upd H T (.tup [.int i,x])) λ σ3 H3=>tc σ3 H3 λ b H4=>if b=true then te σ3 H4 λ v H5=>Pv (i+1) (zs++[v]) σ3 H5 else Pv (i+1) zs σ3 H4) (hz:∀zs σ H,Pv xs.length zs σ H->∀p,H p=none->Q (.ref p) (upd H p (.lst zs))) :
  CompEI K k js g tc te σ (.ref a) H Q:=by
 refine ⟨a,xs,rfl,h1,λ i m zs σ H=>m=xs.length - i/\i≤xs.length/\Pv i zs σ H,⟨_,rfl,Nat.zero_le _,h0⟩,?_⟩
 rintro i m zs σ H ⟨rfl,hi,p⟩
 obtain ⟨k1,k2⟩:=hl i zs σ H hi p
 by_cases hlt:i < xs.length
 ·refine .inr ⟨⟨xs,_,k1,List.getElem?_eq_getElem hlt⟩,k2,Pv (i+1),λ zs' σ' H' p'=>⟨xs.length - (i+1),by omega,rfl,hlt,p'⟩,λ v H' yy=>?_⟩
  obtain ⟨T,x,rfl,hT,rfl,ex⟩:=yy
  exact hs i x zs σ H T (ex xs k1) p hT
 ·have e:i=xs.length:=by omega
  exact .inl ⟨⟨xs,k1,by omega⟩,hz zs σ H (e ▸ p)⟩
section
variable {X:Cx}
def rNeT (K:W.Frag):R2:=λ x y H Q=>∃a b xs ys,x=.ref a/\y=.ref b/\SqT K H a xs/\SqT K H b ys/\xs.all flatV=true/\ys.all flatV=true/\Q (.bl (!eqVs xs ys)) H
def rNeL (K:W.Frag):R2:=λ x y H Q=>∃a b xs ys,x=.ref a/\y=.ref b/\SqL K H a xs/\SqL K H b ys/\xs.all flatV=true/\ys.all flatV=true/\Q (.bl (!eqVs xs ys)) H
end
theorem z2y {cells:List (Str × Addr)}{y:Str}{a:Addr}(h:cells.lookup y=some a):∀x c,[(y,a)].lookup x=some c->cells.lookup x=some c:=λ x c e=>by
 cases List.mem_singleton.mp (PySem.mem_of_lookup e);exact h
theorem z2x {cells:List (Str × Addr)}{y z:Str}{a b:Addr}(h:cells.lookup y=some a) (h2:cells.lookup z=some b):∀x c,[(y,a),(z,b)].lookup x=some c->cells.lookup x=some c:=λ x c e=>by
 rcases List.mem_cons.mp (PySem.mem_of_lookup e) with q | q
 ·cases q;exact h
 ·cases List.mem_singleton.mp q;exact h2
def okS (k:Nat) (x:Str):Prop:=x.length≤k/\∀c∈x.cps.toList,c < 1000
theorem okS.mono {k m:Nat}{x:Str}(h:okS k x) (l:k≤m):okS m x:=⟨Nat.le_trans h.1 l,h.2⟩
theorem okS.repr {k:Nat}{x:Str}(h:okS k x):(reprText x).length≤10 * k+2:=by
 have:=StrLaws.reprText_len x λ c hc=>Nat.lt_of_lt_of_le (h.2 c hc) (by decide)
 have:=h.1
 omega
theorem z4t (x:Str) (l u:Option Int):∀c∈(Txt.slice x l u).cps.toList,c∈x.cps.toList:=by
 unfold Txt.slice
 split
 ·exact λ c h=>h
 ·intro c h
  have h2:c∈(Builtin.Str.strSliceIndices l u 1 x.length).filterMap (x.cps[·]?):=by simpa using h
  obtain ⟨i,_,e⟩:=List.mem_filterMap.mp h2
  exact Array.mem_toList_iff.mpr (Array.mem_of_getElem? e)
section
variable {X:Cx}
def tFR (t1 t2:TE):TE:=λ σ H Q=>t1 σ H λ x H1=>∃a,x=.str a/\okS 1000 a/\t2 σ H1 λ y H2=>∃b,y=.str b/\okS 1000 b/\∀z,Q (.str z) H2
def rSlStr:V->Option Int->Option Int->Hp->VK->Prop:=λ x lo hi H Q=>∃z,x=.str z/\z.length≤1000/\∀y:Str,y.length≤z.length->(∀c∈y.cps.toList,c∈z.cps.toList)->Q (.str y) H
def rUpper:V->List V->Hp->VK->Prop:=λ x xs H Q=>∃z,x=.str z/\xs=[]/\okS 1000 ⟨placed z λ _ c=>Unicode.upperOf c⟩/\Q (.str ⟨placed z λ _ c=>Unicode.upperOf c⟩) H
theorem y8k (sep:Str) (h0:sep.length=0):∀(ys:List Str),ys.length≤100->(∀y∈ys,okS 10 y)->okS 1000 (Builtin.Str.glued sep ys):=by
 have hs:sep.cps.toList=[]:=List.eq_nil_of_length_eq_zero (by rw [Array.length_toList];exact h0)
 have all:∀(ys:List Str) (a:Array Nat) (n:Nat),a.size≤n->(∀c∈a.toList,c < 1000)->(∀y∈ys,okS 10 y)->(ys.foldl (λ acc p=>acc++sep.cps++p.cps) a).size≤n+10 * ys.length/\∀c∈(ys.foldl (λ acc p=>acc++sep.cps++p.cps) a).toList,c < 1000:=by
  intro ys
  induction ys with
  | nil=>intro a n h1 h2 _;exact ⟨by simpa using h1,h2⟩
  | cons y r ih =>
   intro a n h1 h2 h3
   have oy:=h3 y (List.mem_cons_self ..)
   have yl:y.cps.size≤10:=oy.1
   have sz:sep.cps.size=0:=h0
   have:=ih (a++sep.cps++y.cps) (n+10) (by simp;omega) (λ c hc=>by
    simp only [Array.toList_append,List.mem_append] at hc
    rcases hc with (hc | hc) | hc
    ·exact h2 c hc
    ·rw [hs] at hc;cases hc
    ·exact oy.2 c hc) λ z hz=>h3 z (List.mem_cons_of_mem _ hz)
   refine ⟨?_,this.2⟩
   have t1:=this.1
   simp only [List.length_cons,List.foldl_cons]
   omega
 intro ys hl h
 cases ys with
 | nil=>exact ⟨(show Str.empty.length≤1000 by decide),λ c hc=>nomatch hc⟩
 | cons y r =>
  have oy:=h y (List.mem_cons_self ..)
  obtain ⟨z1,z2⟩:=all r y.cps 10 oy.1 oy.2 λ z hz=>h z (List.mem_cons_of_mem _ hz)
  refine ⟨?_,z2⟩
  show (r.foldl (λ acc p=>acc++sep.cps++p.cps) y.cps).size≤1000
  simp at hl
  omega
def rJoin (K:W.Frag):V->List V->Hp->VK->Prop:=λ x xs H Q=>∃(z:Str) (l:Addr) (ys:List Str),x=.str z/\z.length=0/\xs=[.ref l]/\SqL K H l (ys.map V.str)/\ys.length≤100/\(∀y∈ys,okS 10 y)/\∀y:Str,okS 1000 y->Q (.str y) H
end
def Itel (K:W.Frag) (a:Addr):It:=⟨λ i H=>∃xs x,SqL K H a xs/\xs[i]?=some x,
 λ i H v H'=>∃T x,v=.ref T/\H T=none/\H'=upd H T (.tup [.int i,x])/\∀xs,SqL K H a xs->xs[i]?=some x,λ i H=>∃xs,SqL K H a xs/\xs.length≤i⟩
theorem y0z {P:Program}{w:World}{K:W.Frag}{es:List Expr}{x1:Nat}{pp:Pos}{a z j:Addr}(zj:z≠j) :
  Turn P w K (.Tuple es x1 pp) (Itel K a) [z,j] z (λ i h=>(∃u,IsEnum h z j i u)/\h.IsListIter j a i) where
 mem:=by simp
 obj:=λ i h q c hc=>by
  obtain ⟨⟨u,q1⟩,⟨o4,g4,_,d4⟩⟩:=q
  simp only [List.mem_cons,List.not_mem_nil,or_false] at hc
  rcases hc with rfl | rfl
  ·exact ⟨_,q1,λ v y=>nomatch y⟩
  ·exact ⟨_,g4,λ v y=>by rw [d4] at y;cases y⟩
 keep:=λ i h h' q k=>by
  obtain ⟨⟨u,q1⟩,q4⟩:=q
  exact ⟨⟨u,k _ (by simp) _ q1⟩,q4.at λ o g=>k _ (by simp) o g⟩
 item:=by
  intro X hP hw hK hc i pins s σ H E I hf st hg
  subst hP hw hK
  obtain ⟨xs,x,hq,hx⟩:=hg
  obtain ⟨⟨u,q1⟩,q4⟩:=st
  obtain ⟨as,ra,pa,za⟩:=I.list hq
  obtain ⟨ux,hux,rux⟩:=ra.get hx
  have ta:s.heap.IsList a as.toArray:=pa.isList
  have az:a≠z:=by rintro rfl;obtain ⟨o,g,c,_⟩:=ta;rw [q1] at g;cases g;simp at c
  have aj:a≠j:=by rintro rfl;obtain ⟨o,g,c,_⟩:=ta;obtain ⟨o4,g4,c4,_⟩:=q4;rw [g4] at g;cases g;rw [c4] at c;simp at c
  have il:i < as.toArray.size:=by simpa using (List.getElem?_eq_some_iff.mp hux).1
  refine wpAny_pyNext_enum_itemD (Draws.list (A:=X.A.in1) (I.ok.hd hc) j a aj as.toArray) q1 ⟨q4,ta⟩ il zj (by simp only [List.mem_cons,List.not_mem_nil,or_false,not_or];exact ⟨zj,az.symm⟩) λ y m tk hy zo st' np sz bt=>?_
  have yu:y=ux:=by simp only [List.getElem?_toArray] at hy;rw [hux] at hy;exact (Option.some.inj hy).symm
  subst yu
  have I1:Inv X pins σ H { s with heap:=m,toks:=tk+1 }:=I.turnedL (t':=tk+1) (fl:=[z,j]) (λ c o hc e=>by
   simp only [List.mem_cons,List.not_mem_nil,or_false,not_or] at hc
   exact bt c o hc.1 hc.2 e) hf
  obtain ⟨f0,f1,f2,f3,f4,f5⟩:=I.fpOk (Nat.le_refl s.heap.objs.size) (I.hok.fresh (Nat.le_refl _))
  have n0:X.s₀.heap.get? s.heap.objs.size=none:=by
   cases q:X.s₀.heap.get? s.heap.objs.size with
   | none=>rfl
   | some o=>exact absurd (Nat.lt_of_lt_of_le (Heap.lt_size q) I.sz) (Nat.lt_irrefl _)
  have I2:Inv X pins σ (upd H s.heap.objs.size (.tup [.int i,x])) { s with heap:=m,toks:=tk+1 }:=I1.track f0 ⟨small (by simp),[.int i tk,y],.cons (show RelV (V.int i) (Value.int i tk) from ⟨_,rfl⟩) (.cons rux .nil),⟨_,np,rfl,_,rfl⟩⟩ f1 f4 f5 n0
  have lt:∀ {c o},s.heap.get? c=some o->c≠s.heap.objs.size:=λ e=>Nat.ne_of_lt (Heap.lt_size e)
  have zT:z≠s.heap.objs.size:=lt q1
  obtain ⟨e0,e1,e2,e3,e4,e5⟩:=hf z (by simp)
  refine ⟨_,rfl,wpAny_letOwnedTupleGo_enum zo λ h2 z2 sb=>?_⟩
  have I3:Inv X pins σ (upd H s.heap.objs.size (.tup [.int i,x])) { s with heap:=h2,toks:=tk+1 }:=Inv.turned (s:={ s with heap:=m,toks:=tk+1 }) (h':=h2) (t':=tk+1) (it:=z) I2 (λ c o hc e=>sb.extBut _ _ hc e) (by rw [z0m zT];exact e0) e1 e3 e4 e5
  refine ⟨.ref s.heap.objs.size,_,I3,rfl,⟨_,x,rfl,f0,rfl,λ xs' k1=>?_⟩,⟨⟨_,by simpa using z2⟩,st'.1.at λ o g=>sb.extBut _ _ zj.symm g⟩,λ c hc=>?_⟩
  ·rw [I.list_inj k1 hq];exact hx
  ·have cT:c≠s.heap.objs.size:=by
    obtain ⟨o4,g4,_⟩:=q4
    simp only [List.mem_cons,List.not_mem_nil,or_false] at hc
    rcases hc with rfl | rfl
    ·exact zT
    ·exact lt g4
   rw [z0m cT];exact (hf c hc).1
 done:=by
  intro X hP hw hK hc i pins s σ H E I hf st hg
  subst hP hw hK
  obtain ⟨xs,hq,hx⟩:=hg
  obtain ⟨⟨u,q1⟩,q4⟩:=st
  obtain ⟨as,ra,pa,za⟩:=I.list hq
  have la:=ra.length
  refine wpAny_pyNext_enum_end (I.ok.hd hc) (i:=i) (by simpa using q1) q4 pa.isList (by simp;omega) λ m bt=>⟨rfl,?_⟩
  exact I.turnedL (t':=s.toks) (fl:=[z,j]) (λ c o hc e=>by
   simp only [List.mem_cons,List.not_mem_nil,or_false,not_or] at hc
   exact bt c o hc.2 e) hf
 self:=λ _ _ _ _ _ st h=>let ⟨⟨_,q1⟩,_⟩:=st;wpAny_pyIter_enum q1 h
section
variable {X:Cx}{es:List Expr}{x1:Nat}{pp:Pos}
def iEnumL (K:W.Frag) (te:TE):TI:=λ σ H R=>te σ H λ v H1=>∃a xs,v=.ref a/\SqL K H1 a xs/\R (Itel K a) H1
theorem y7v {e:Expr}{te:TE}{p pos:Pos}(hg:Gl X "enumerate") (hm:X.mg "enumerate" = none) (he:PE X e te) (hs:starEach [e] X.env=[(false,eval e X.env)]:=by rfl) :
  PI X (.Tuple es x1 pp) (.Call (.Name "enumerate" p) [e] [] pos) (iEnumL X.K te):=by
 intro pins s σ H R I h
 have hA:=(z0a he (z0e (X:=X)) hs) pos pins s σ H (λ vs H1=>match vs with | [x]=>∃a xs,x=.ref a/\SqL X.K H1 a xs/\R (Itel X.K a) H1 | _=>False) I h
 refine Call_ (z5b I hg hm boot_enumerate (PyProof.Rows.callWith_type1 (thn hA λ us s1 ⟨vs,H1,I1,r1,q1⟩=>?_) hs rfl))
 match vs,q1 with
 | [x],⟨a,xs,e,hq,q⟩ =>
  subst e
  obtain ⟨u,rfl,ru⟩:=z3a r1
  cases (show u=Value.ref a from ru)
  obtain ⟨as,va,pa,za⟩:=I1.list hq
  refine call_enumerate_list pa.isList λ m w1 w2 sz kk=>?_
  have I2:Inv X pins σ H1 { s1 with heap:=m }:=I1.kept (t':=s1.toks) kk
  refine wpAny_pyIter_enum w1 ⟨s1.heap.objs.size+1,[s1.heap.objs.size+1,s1.heap.objs.size],_,_,H1,rfl,I2,y0z (Nat.succ_ne_self _),⟨⟨_,w1⟩,w2⟩,λ c hc=>?_,q⟩
  have ge:s1.heap.objs.size≤c:=by
   simp only [List.mem_cons,List.not_mem_nil,or_false] at hc
   rcases hc with rfl | rfl<;>omega
  exact I1.fpOk ge (I1.hok.fresh ge)
end
def LoopEL (K:PySem.W.Frag) (g:TG) (tb:TS) (D:Ends) (σ:St) (v:V) (H1:Hp):Prop:=∃a xs,v=.ref a/\SqL K H1 a xs/\∃W:Nat->Nat->St->Hp->Prop,(∃m,W 0 m σ H1)/\∀i m σ H,W i m σ H ->
 ((Itel K a).stop i H/\D.nx σ H)\/((Itel K a).go i H/\∃N:St->Hp->Prop,(∀σ' H',N σ' H'->∃m',m' < m/\W (i+1) m' σ' H')/\∀x H',(Itel K a).yld i H x H'->g x σ H' λ σ2 H2=>tb { D with nx:=N,ct:=N,bk:=D.nx } σ2 H2)
theorem y9h {K:W.Frag}{te:TE}{g:TG}{tb:TS}{D:Ends}{σ:St}{H:Hp}:tFor (iEnumL K te) g tb D σ H=te σ H λ v H1=>LoopEL K g tb D σ v H1:=rfl
theorem LoopEL.mk {K:W.Frag}{a:Addr}{xs:List V}{g:TG}{tb:TS}{D:Ends}{σ:St}{H:Hp}(h1:SqL K H a xs) (Pv:Nat->St->Hp->Prop) (h0:Pv 0 σ H) (hl:∀i σ H,i≤xs.length->Pv i σ H->SqL K H a xs)
  (hs:∀i x σ H T,xs[i]?=some x->Pv i σ H->H T=none->g (.ref T) σ (upd H T (.tup [.int i,x])) λ σ2 H2=>tb { D with nx:=Pv (i+1),ct:=Pv (i+1),bk:=D.nx } σ2 H2) (hd:∀σ H,Pv xs.length σ H->D.nx σ H) :
  LoopEL K g tb D σ (.ref a) H:=by
 refine ⟨a,xs,rfl,h1,λ i m σ H=>m=xs.length - i/\i≤xs.length/\Pv i σ H,⟨_,rfl,Nat.zero_le _,h0⟩,?_⟩
 rintro i m σ H ⟨rfl,hi,p⟩
 have k1:=hl i σ H hi p
 by_cases hlt:i < xs.length
 ·refine .inr ⟨⟨xs,_,k1,List.getElem?_eq_getElem hlt⟩,Pv (i+1),λ σ' H' p'=>⟨xs.length - (i+1),by omega,rfl,hlt,p'⟩,λ v H' yy=>?_⟩
  obtain ⟨T,x,rfl,hT,rfl,ex⟩:=yy
  exact hs i x σ H T (ex xs k1) p hT
 ·have e:i=xs.length:=by omega
  exact .inl ⟨⟨xs,k1,by omega⟩,hd σ H (e ▸ p)⟩
theorem z2e {X:Cx}{x j pos} {es:List Expr}{t:TA}(hr:PA X es t):PA X (.Constant (.str x) j pos::es) (tCons (tC (.str x)) t):=z0a z0l hr rfl
def strsC (l:List (Str × Pos)):List Expr:=l.map λ p=>.Constant (.str p.1) 0 p.2
def tStrs (l:List Str):TA:=λ _ H Q=>Q (l.map V.str) H
theorem z8w {X:Cx}:∀l:List (Str × Pos),PA X (strsC l) (tStrs (l.map (·.1)))
 | []=>z0e
 | _::l=>z2e (z8w l)
instance (k:Nat) (x:Str):Decidable (okS k x):=by unfold okS;infer_instance
def Itx (x:Str):It:=⟨λ i _=>i < x.cps.size,λ i H v H'=>H'=H/\∃c,x.cps[i]?=some c/\v=.str ⟨#[c]⟩,λ i _=>x.cps.size≤i⟩
def strTn (it:Addr) (x:Str) (t:Tok) (i:Nat) (h:Heap):Prop:=h.IsStrIter it "str_ascii_iterator" x t i\/h.IsStrIter it "str_iterator" x t i
theorem z9o {P:Program}{w:World}{K:W.Frag}{tg:Expr}(it:Addr) (x:Str) (t:Tok):Turn P w K tg (Itx x) [it] it (strTn it x t) where
 mem:=by simp
 obj:=λ i h st b hb=>by
  have e:b=it:=by simpa using hb
  subst e
  rcases st with ⟨o,e,c,d⟩ | ⟨o,e,c,d⟩<;>exact ⟨o,e,λ v z=>by rw [d] at z;cases z⟩
 keep:=λ i h h' st k=>by
  rcases st with ⟨o,e,r⟩ | ⟨o,e,r⟩
  ·exact .inl ⟨o,k it (by simp) o e,r⟩
  ·exact .inr ⟨o,k it (by simp) o e,r⟩
 item:=by
  intro X hP hw hK hc i pins s σ H E I hf st hg
  subst hP hw hK
  obtain ⟨f0,f1,f2,f3,f4,f5⟩:=hf it (by simp)
  have hi:x.cps[i]?=some (x.cps[i]'hg):=Array.getElem?_eq_getElem hg
  rcases st with st | st
  ·refine wpAny_pyNext_ascii_item st hi λ h' st' sb=>?_
   have I1:Inv X pins σ H { s with heap:=h',toks:=s.toks+1 }:=I.turned (λ b o hb e=>(sb.2 b hb).trans e) f0 f1 f3 f4 f5
   obtain ⟨o,e,c,d⟩:=id st'
   exact ⟨_,rfl,y5n (s:={ s with heap:=h',toks:=s.toks+1 }) e c d (by decide) ⟨.str ⟨#[x.cps[i]'hg]⟩,H,I1,⟨_,rfl⟩,⟨rfl,_,hi,rfl⟩,.inl st',λ b hb=>(hf b hb).1⟩⟩
  ·refine wpAny_pyNext_wide_item st hi λ h' st' sb=>?_
   have I1:Inv X pins σ H { s with heap:=h',toks:=s.toks+1 }:=I.turned (λ b o hb e=>(sb.2 b hb).trans e) f0 f1 f3 f4 f5
   obtain ⟨o,e,c,d⟩:=id st'
   exact ⟨_,rfl,y5n (s:={ s with heap:=h',toks:=s.toks+1 }) e c d (by decide) ⟨.str ⟨#[x.cps[i]'hg]⟩,H,I1,⟨_,rfl⟩,⟨rfl,_,hi,rfl⟩,.inr st',λ b hb=>(hf b hb).1⟩⟩
 done:=by
  intro X hP hw hK hc i pins s σ H E I hf st hg
  subst hP hw hK
  obtain ⟨f0,f1,f2,f3,f4,f5⟩:=hf it (by simp)
  have hi:x.cps[i]?=none:=Array.getElem?_eq_none hg
  rcases st with st | st
  ·exact wpAny_pyNext_ascii_end (I.ok.hd hc) st hi λ h' eb=>⟨rfl,I.turned (t':=s.toks) (λ b o hb e=>eb b o hb e) f0 f1 f3 f4 f5⟩
  ·exact wpAny_pyNext_wide_end (I.ok.hd hc) st hi λ h' eb=>⟨rfl,I.turned (t':=s.toks) (λ b o hb e=>eb b o hb e) f0 f1 f3 f4 f5⟩
 self:=λ _ _ _ _ _ st h=>st.elim (λ st=>wpAny_pyIter_striter_ascii st h) (λ st=>wpAny_pyIter_striter_wide st h)
section
variable {X:Cx}{tg:Expr}
def iStr (tl:TE):TI:=λ σ H R=>tl σ H λ x H1=>∃z,x=.str z/\R (Itx z) H1
theorem x2u {l:Expr}{tl:TE}(hl:PE X l tl):PI X tg l (iStr tl):=by
 intro pins s σ H R I h
 refine thn (hl pins s σ H _ I h) λ v s1 ⟨x,H1,I1,r1,q1⟩=>?_
 obtain ⟨z,e,q⟩:=q1
 subst e
 obtain ⟨t,rfl⟩:=r1
 have fin:∀b∈[s1.heap.objs.size],FpOk X pins H1 b:=λ b hb=>by
  have e:b=s1.heap.objs.size:=by simpa using hb
  subst e
  exact I1.fpOk (Nat.le_refl _) (I1.hok.fresh (Nat.le_refl _))
 cases ha:z.cps.all (· < 128)
 ·exact wpAny_pyIter_wide ha ⟨s1.heap.objs.size,[s1.heap.objs.size],_,_,H1,rfl,I1.kept (t':=s1.toks) λ b o e=>Heap.get?_push_of_some _ e,z9o _ z t,.inr ⟨_,Heap.get?_push_size _ rfl,rfl,rfl⟩,fin,q⟩
 ·exact wpAny_pyIter_ascii ha ⟨s1.heap.objs.size,[s1.heap.objs.size],_,_,H1,rfl,I1.kept (t':=s1.toks) λ b o e=>Heap.get?_push_of_some _ e,z9o _ z t,.inl ⟨_,Heap.get?_push_size _ rfl,rfl,rfl⟩,fin,q⟩
end
def LoopX (g:TG) (tb:TS) (D:Ends) (σ:St) (v:V) (H1:Hp):Prop:=∃z,v=.str z/\∃W:Nat->Nat->St->Hp->Prop,(∃m,W 0 m σ H1)/\∀i m σ H,W i m σ H ->
 ((Itx z).stop i H/\D.nx σ H)\/((Itx z).go i H/\∃N:St->Hp->Prop,(∀σ' H',N σ' H'->∃m',m' < m/\W (i+1) m' σ' H')/\∀x H',(Itx z).yld i H x H'->g x σ H' λ σ2 H2=>tb { D with nx:=N,ct:=N,bk:=D.nx } σ2 H2)
theorem x1l {te:TE}{g:TG}{tb:TS}{D:Ends}{σ:St}{H:Hp}:tFor (iStr te) g tb D σ H=te σ H λ v H1=>LoopX g tb D σ v H1:=rfl
theorem LoopX.mk {z:Str}{g:TG}{tb:TS}{D:Ends}{σ:St}{H:Hp}(Pv:Nat->St->Hp->Prop) (h0:Pv 0 σ H)
  (hs:∀i c σ H,z.cps[i]?=some c->Pv i σ H->g (.str ⟨#[c]⟩) σ H λ σ2 H2=>tb { D with nx:=Pv (i+1),ct:=Pv (i+1),bk:=D.nx } σ2 H2) (hd:∀σ H,Pv z.cps.size σ H->D.nx σ H) :
  LoopX g tb D σ (.str z) H:=by
 refine ⟨z,rfl,λ i m σ H=>m=z.cps.size - i/\i≤z.cps.size/\Pv i σ H,⟨_,rfl,Nat.zero_le _,h0⟩,?_⟩
 rintro i m σ H ⟨rfl,hi,p⟩
 by_cases hlt:i < z.cps.size
 ·refine .inr ⟨hlt,Pv (i+1),λ σ' H' p'=>⟨z.cps.size - (i+1),by omega,rfl,hlt,p'⟩,λ v H' yy=>?_⟩
  obtain ⟨rfl,c,ec,rfl⟩:=yy
  exact hs i c σ H' ec p
 ·have e:i=z.cps.size:=by omega
  exact .inl ⟨by show z.cps.size≤i;omega,hd σ H (e ▸ p)⟩
def CompX (k:Nat) (js:List Nat) (g:TG) (te:TE) (σ:St) (v:V) (H1:Hp) (Q:VK):Prop:=∃z,v=.str z/\∃W:Nat->Nat->List V->St->Hp->Prop,(∃m,W 0 m [] (compSt k js σ) H1)/\∀i m ys σ' H',W i m ys σ' H' ->
  ((Itx z).stop i H'/\∀p,H' p=none->Q (.ref p) (upd H' p (.lst ys))) \/
  ((Itx z).go i H'/\ys.length < sizeLine/\∃N:List V->St->Hp->Prop,(∀zs σ2 H2,N zs σ2 H2->∃m',m' < m/\W (i+1) m' zs σ2 H2)/\∀x H2,(Itx z).yld i H' x H2->g x σ' H2 λ σ3 H3=>te σ3 H3 λ v H4=>N (ys++[v]) σ3 H4)
theorem y9q {k:Nat}{js:List Nat}{ti:TE}{g:TG}{te:TE}{σ:St}{H:Hp}{Q:VK}:tComp (iStr ti) k js g te σ H Q=ti σ H λ x H1=>CompX k js g te σ x H1 Q:=rfl
theorem CompX.mk {z:Str}{k:Nat}{js:List Nat}{g:TG}{te:TE}{Q:VK}{σ:St}{H:Hp}(Pv:Nat->List V->St->Hp->Prop) (h0:Pv 0 [] (compSt k js σ) H)
  (hs:∀i c ys σ H,z.cps[i]?=some c->Pv i ys σ H->ys.length < sizeLine/\g (.str ⟨#[c]⟩) σ H λ σ3 H3=>te σ3 H3 λ v H4=>Pv (i+1) (ys++[v]) σ3 H4) (hd:∀ys σ H,Pv z.cps.size ys σ H->∀p,H p=none->Q (.ref p) (upd H p (.lst ys))) :
  CompX k js g te σ (.str z) H Q:=by
 refine ⟨z,rfl,λ i m ys σ H=>m=z.cps.size - i/\i≤z.cps.size/\Pv i ys σ H,⟨_,rfl,Nat.zero_le _,h0⟩,?_⟩
 rintro i m ys σ H ⟨rfl,hi,p⟩
 by_cases hlt:i < z.cps.size
 ·refine .inr ⟨hlt,(hs i (z.cps[i]'hlt) ys σ H (Array.getElem?_eq_getElem hlt) p).1,Pv (i+1),λ zs σ' H' p'=>⟨z.cps.size - (i+1),by omega,rfl,hlt,p'⟩,λ v H' yy=>?_⟩
  obtain ⟨rfl,c,ec,rfl⟩:=yy
  exact (hs i c ys σ H' ec p).2
 ·have e:i=z.cps.size:=by omega
  exact .inl ⟨by show z.cps.size≤i;omega,hd ys σ H (e ▸ p)⟩
section
variable {X:Cx}
def findI (x y:Str):Int:=match Builtin.Str.occurrences x y 0 x.length 1 with | i::_=>(i:Int) | []=>-1
def rFind:V->List V->Hp->VK->Prop:=λ x xs H Q=>∃z y,x=.str z/\xs=[.str y]/\Q (.int (findI z y)) H
end
section
variable {X:Cx}
def rCatL (K:W.Frag):R2:=λ x y H Q=>∃l b xs zs,x=.ref l/\y=.ref b/\SqL K H l xs/\SqL K H b zs/\xs.length+zs.length≤sizeLine/\∀p,H p=none->Q (.ref p) (upd H p (.lst (xs++zs)))
end
section
variable {pg:Program}{wd:World}{B:Around}{X0:Value->Shared->Prop}{s0:Shared}
end
def ItzL (K:W.Frag) (a b:Addr):It:=⟨λ i H=>∃xs ys x y,SqL K H a xs/\SqL K H b ys/\xs[i]?=some x/\ys[i]?=some y,
 λ i H v H'=>∃T x y,v=.ref T/\H T=none/\H'=upd H T (.tup [x,y])/\∀xs ys,SqL K H a xs->SqL K H b ys->xs[i]?=some x/\ys[i]?=some y,λ i H=>∃xs ys,SqL K H a xs/\SqL K H b ys/\(xs.length≤i\/ys.length≤i)⟩
section
variable {X:Cx}{es:List Expr}{x1:Nat}{pp:Pos}
def iZipL (K:W.Frag) (ta:TA):TI:=λ σ H R=>ta σ H λ vs H1=>∃a b xs ys,vs=[.ref a,.ref b]/\SqL K H1 a xs/\SqL K H1 b ys/\R (ItzL K a b) H1
end
def LoopZL (K:PySem.W.Frag) (g:TG) (tb:TS) (D:Ends) (σ:St) (vs:List V) (H1:Hp):Prop:=∃a b xs ys,vs=[.ref a,.ref b]/\SqL K H1 a xs/\SqL K H1 b ys/\∃W:Nat->Nat->St->Hp->Prop,(∃m,W 0 m σ H1)/\∀i m σ H,W i m σ H ->
 ((ItzL K a b).stop i H/\D.nx σ H)\/((ItzL K a b).go i H/\∃N:St->Hp->Prop,(∀σ' H',N σ' H'->∃m',m' < m/\W (i+1) m' σ' H')/\∀x H',(ItzL K a b).yld i H x H'->g x σ H' λ σ2 H2=>tb { D with nx:=N,ct:=N,bk:=D.nx } σ2 H2)
theorem y9c {K:W.Frag}{ta:TA}{g:TG}{tb:TS}{D:Ends}{σ:St}{H:Hp}:tFor (iZipL K ta) g tb D σ H=ta σ H λ vs H1=>LoopZL K g tb D σ vs H1:=rfl
theorem LoopZL.mk {K:W.Frag}{a b:Addr}{xs ys:List V}{g:TG}{tb:TS}{D:Ends}{σ:St}{H:Hp}(n:Nat) (hn:n=min xs.length ys.length) (h1:SqL K H a xs) (h2:SqL K H b ys) (Pv:Nat->St->Hp->Prop) (h0:Pv 0 σ H) (hl:∀i σ H,i≤n->Pv i σ H->SqL K H a xs/\SqL K H b ys)
  (hs:∀i x y σ H T,i < n->xs[i]?=some x->ys[i]?=some y->Pv i σ H->H T=none->g (.ref T) σ (upd H T (.tup [x,y])) λ σ2 H2=>tb { D with nx:=Pv (i+1),ct:=Pv (i+1),bk:=D.nx } σ2 H2) (hd:∀σ H,Pv n σ H->D.nx σ H) :
  LoopZL K g tb D σ [.ref a,.ref b] H:=by
 subst hn
 refine ⟨a,b,xs,ys,rfl,h1,h2,λ i m σ H=>m=min xs.length ys.length - i/\i≤min xs.length ys.length/\Pv i σ H,⟨_,rfl,Nat.zero_le _,h0⟩,?_⟩
 rintro i m σ H ⟨rfl,hi,p⟩
 obtain ⟨k1,k2⟩:=hl i σ H hi p
 by_cases hlt:i < min xs.length ys.length
 ·have l1:i < xs.length:=by omega
  have l2:i < ys.length:=by omega
  refine .inr ⟨⟨xs,ys,_,_,k1,k2,List.getElem?_eq_getElem l1,List.getElem?_eq_getElem l2⟩,Pv (i+1),λ σ' H' p'=>⟨min xs.length ys.length - (i+1),by omega,rfl,hlt,p'⟩,λ v H' yy=>?_⟩
  obtain ⟨T,x,y,rfl,hT,rfl,ex⟩:=yy
  obtain ⟨ex1,ex2⟩:=ex xs ys k1 k2
  exact hs i x y σ H T hlt ex1 ex2 p hT
 ·have e:i=min xs.length ys.length:=by omega
  exact .inl ⟨⟨xs,ys,k1,k2,by omega⟩,hd σ H (e ▸ p)⟩
def CompZL (K:PySem.W.Frag) (k:Nat) (js:List Nat) (g:TG) (te:TE) (σ:St) (vs:List V) (H1:Hp) (Q:VK):Prop:=∃a b xs ys,vs=[.ref a,.ref b]/\SqL K H1 a xs/\SqL K H1 b ys/\∃W:Nat->Nat->List V->St->Hp->Prop,(∃m,W 0 m [] (compSt k js σ) H1)/\∀i m zs σ' H',W i m zs σ' H' ->
  ((ItzL K a b).stop i H'/\∀p,H' p=none->Q (.ref p) (upd H' p (.lst zs))) \/
  ((ItzL K a b).go i H'/\zs.length < sizeLine/\∃N:List V->St->Hp->Prop,(∀zs σ2 H2,N zs σ2 H2->∃m',m' < m/\W (i+1) m' zs σ2 H2)/\∀x H2,(ItzL K a b).yld i H' x H2->g x σ' H2 λ σ3 H3=>te σ3 H3 λ v H4=>N (zs++[v]) σ3 H4)
theorem y6f {K:W.Frag}{k:Nat}{js:List Nat}{ta:TA}{g:TG}{te:TE}{σ:St}{H:Hp}{Q:VK}:tComp (iZipL K ta) k js g te σ H Q=ta σ H λ vs H1=>CompZL K k js g te σ vs H1 Q:=rfl
theorem CompZL.mk {K:W.Frag}{a b:Addr}{xs ys:List V}{k:Nat}{js:List Nat}{g:TG}{te:TE}{Q:VK}{σ:St}{H:Hp}(n:Nat) (hn:n=min xs.length ys.length) (h1:SqL K H a xs) (h2:SqL K H b ys) (Pv:Nat->List V->St->Hp->Prop) (h0:Pv 0 [] (compSt k js σ) H) (hl:∀i zs σ H,i≤n->Pv i zs σ H->SqL K H a xs/\SqL K H b ys)
  (hs:∀i x y zs σ H T,i < n->xs[i]?=some x->ys[i]?=some y->Pv i zs σ H->H T=none->zs.length < sizeLine/\g (.ref T) σ (upd H T (.tup [x,y])) λ σ3 H3=>te σ3 H3 λ v H4=>Pv (i+1) (zs++[v]) σ3 H4) (hz:∀zs σ H,Pv n zs σ H->∀p,H p=none->Q (.ref p) (upd H p (.lst zs))) (hlen:∀i zs σ H,Pv i zs σ H->zs.length < sizeLine) :
  CompZL K k js g te σ [.ref a,.ref b] H Q:=by
 subst hn
 refine ⟨a,b,xs,ys,rfl,h1,h2,λ i m zs σ H=>m=min xs.length ys.length - i/\i≤min xs.length ys.length/\Pv i zs σ H,⟨_,rfl,Nat.zero_le _,h0⟩,?_⟩
 rintro i m zs σ H ⟨rfl,hi,p⟩
 obtain ⟨k1,k2⟩:=hl i zs σ H hi p
 by_cases hlt:i < min xs.length ys.length
 ·have l1:i < xs.length:=by omega
  have l2:i < ys.length:=by omega
  refine .inr ⟨⟨xs,ys,_,_,k1,k2,List.getElem?_eq_getElem l1,List.getElem?_eq_getElem l2⟩,hlen _ _ _ _ p,Pv (i+1),λ zs' σ' H' p'=>⟨min xs.length ys.length - (i+1),by omega,rfl,hlt,p'⟩,λ v H' yy=>?_⟩
  obtain ⟨T,x,y,rfl,hT,rfl,ex⟩:=yy
  obtain ⟨ex1,ex2⟩:=ex xs ys k1 k2
  exact (hs i x y zs σ H T hlt ex1 ex2 p hT).2
 ·have e:i=min xs.length ys.length:=by omega
  exact .inl ⟨⟨xs,ys,k1,k2,by omega⟩,hz zs σ H (e ▸ p)⟩
section
variable {prog:Program}{w:World}{A:Around}{E:Value->Shared->Prop}{s:Shared}
end
theorem z4r:∀ {xs:List V}{us:List Value},xs.length=us.length->(∀(i:Nat) u,us[i]?=some u->∃x,xs[i]?=some x/\RelV x u)->Vals xs us
 | [],[],_,_=>.nil
 | [],_::_,h,_=>by simp at h
 | _::_,[],h,_=>by simp at h
 | x::xs,u::us,h,f=>by
  obtain ⟨y,e,r⟩:=f 0 u rfl
  cases (Option.some.inj e)
  exact .cons r (z4r (by simpa using h) λ i v e=>f (i+1) v e)
section
variable {X:Cx}
def rCount:V->List V->Hp->VK->Prop:=λ x ys H Q=>∃a o xs y,x=.ref a/\ys=[y]/\H a=some (.frz o (.tup xs))/\xs.all flatV=true/\flatV y=true/\Q (.int (xs.countP λ z=>eqV z y)) H
def tBMf (r:V->List V->Hp->VK->Prop) (to:TE) (t:TA):TE:=λ σ H Q=>to σ H λ x H1=>(∃a o xs,x=.ref a/\H1 a=some (.frz o (.tup xs))/\o.dict=none)/\t σ H1 λ ys H2=>r x ys H2 Q
theorem y8p:MtR X "list.pop" rPopAt:=y8n
end
theorem z4w {X:Cx}{i:Nat}{x:Str}{elt tg iter:Expr}{scope:Scope}{cl:List (Str × Addr)}{pos pos' lpos:Pos}{own fv:List Str}{js:List Nat}{wi:TI}{g:TG}{te:TE}
  (hN:X.N.Nodup) (hx1:X.N[i]?=some x) (hx:Loc X.env.scope x) (hf:X.fn x=true\/X.env.scope.names.lookup x=some .local)
  (hc:X.calm=true) (hi:PI X tg iter wi) (hclos:closureFor scope X.env=pure cl) (hcell:∀y∈scope.names,y.2≠.cell) (hkind:scope.kind=.function)
  (hnames:∀y∈scope.names,y.2=.local->scope.names.lookup y.1=some .local)
  (hcl:∀x c,cl.lookup x=some c->X.env.cells.lookup x=some c)
  (hhas:∀x,((relabel scope X.env).names.lookup x=some .cell\/(relabel scope X.env).names.lookup x=some .free)->∃c,cl.lookup x=some c)
  (hlen:js.length=fv.length) (hcap:∀(i:Nat) x j,fv[i]?=some x->js[i]?=some j->Cap X scope cl x j)
  (hg:∀(C:Addr) (ex:List Addr) (s:Shared) (H:Hp),PG (cxComp X (own++fv) scope cl C ex s H) tg g)
  (he:∀(C:Addr) (ex:List Addr) (s:Shared) (H:Hp),PE (cxComp X (own++fv) scope cl C ex s H) elt te)
  (hsw:swapsWith (.ListComp elt [⟨tg,iter,[],0⟩] scope lpos) (some (.Name x pos')) pos.line X.env=pure true:=by rfl)
  (hs:∀x,foldedSetIterable iter X.env x=pure x:=by intro _;rfl) :
  PS X (.Assign [.Name x pos'] (.ListComp elt [⟨tg,iter,[],0⟩] scope lpos) pos) (tAsg (tComp wi own.length js g te) (gName i)):=by
 intro pins s σ H D I h
 rw [exec_Assign_Name_used _ _ _ _ hsw]
 refine wpAny_bind (wpAny_standAt ?_)
 rw [arm_evalThenUse_ListComp]
 have core:=z7z (use:=some (assign (.Name x pos') X.env)) (QQ:=λ _ s'=>SP X pins D .next s') (fpos:=firstIterPos [⟨tg,iter,[],0⟩] lpos) (pos:=lpos) hc hi hclos hcell hkind hnames hcl hhas hlen hcap hg he hs I h (λ a C s5 H5 fl I5 zC zL zS zc zp ⟨m,hn⟩ q=>?_)
 ·refine wpAny_bind (wpAny_bind (thn core λ _ s' hq=>?_))
  exact wpAny_pure (wpAny_pure hq)
 ·show wpAny (model X.prog X.w) X.A (assign (.Name x pos') X.env (.ref a)) _ X.xe s5
  show wpAny (model X.prog X.w) X.A (do standAt pos';bindName X.env x (.ref a)) _ X.xe s5
  refine wpAny_bind (wpAny_standAt ?_)
  refine bindName_ ?_
  refine z6y I5 hN hx1 hx (show RelV (.ref a) (.ref a) from rfl) (λ s6 I6 ⟨b,sb,hb⟩=>?_) hf
  have cb:C≠b:=by
   rcases hb with rfl | hb
   ·exact zL
   ·exact λ z=>zc x b hb z.symm
  obtain ⟨o,es,ep,e,r⟩:=hn
  refine ⟨m,⟨o,es,ep,(sb.2 C cb).trans e,r⟩,λ h' sc=>?_⟩
  exact ⟨_,H5,I6.turned (t':=s6.toks) (it:=C) (λ d o nd e=>sc.extBut d o nd e) zC zL (.inr zS) zc zp,q⟩
theorem y0a {X:Cx}{i:Nat}{x:Str}{elt tg iter:Expr}{scope:Scope}{pos pos' lpos:Pos}{own:List Str}{wi:TI}{g:TG}{te:TE}
  (hN:X.N.Nodup) (hx1:X.N[i]?=some x) (hx:Loc X.env.scope x) (hf:X.fn x=true\/X.env.scope.names.lookup x=some .local)
  (hc:X.calm=true) (hi:PI X tg iter wi) (hcell:∀y∈scope.names,y.2≠.cell) (hfree:∀y∈scope.names,y.2≠.free) (hkind:scope.kind=.function)
  (hnames:∀y∈scope.names,y.2=.local->scope.names.lookup y.1=some .local)
  (hg:∀(C:Addr) (ex:List Addr) (s:Shared) (H:Hp),PG (cxComp X own scope [] C ex s H) tg g)
  (he:∀(C:Addr) (ex:List Addr) (s:Shared) (H:Hp),PE (cxComp X own scope [] C ex s H) elt te)
  (hsw:swapsWith (.ListComp elt [⟨tg,iter,[],0⟩] scope lpos) (some (.Name x pos')) pos.line X.env=pure true:=by rfl)
  (hs:∀x,foldedSetIterable iter X.env x=pure x:=by intro _;rfl) :
  PS X (.Assign [.Name x pos'] (.ListComp elt [⟨tg,iter,[],0⟩] scope lpos) pos) (tAsg (tComp wi own.length [] g te) (gName i)):=by
 refine z4w (own:=own) (fv:=[]) (js:=[]) (cl:=[]) hN hx1 hx hf hc hi (closureFor_none hfree) hcell hkind hnames (λ x c h=>by cases h) (λ x h=>?_) rfl (λ i x j h=>by simp at h) (by simpa using hg) (by simpa using he) hsw hs
 rw [z4l hfree] at h
 rcases h with h | h
 ·exact absurd rfl (hcell _ (PySem.mem_of_lookup h))
 ·exact absurd rfl (hfree _ (PySem.mem_of_lookup h))
section
variable {X:Cx}
theorem z3i:CallR X (.type "str") (λ xs H Q=>∃i:Int,xs=[.int i]/\i.natAbs.log2 < 1920/\Q (.str (Str.ofString (toString i))) H):=by
 intro pins s σ H xs us Q I r h
 obtain ⟨i,rfl,hl,q⟩:=h
 obtain ⟨u,rfl,t,rfl⟩:=z3a r
 exact PySem.P.str_of_int hl ⟨.str _,H,I.tok _,⟨_,rfl⟩,q⟩
theorem y6s:CallR X (.type "int") (λ xs H Q=>∃(x:Str) (n:Int),xs=[.str x]/\PySem.intText? x=some n/\x.length≤640/\Q (.int n) H):=by
 intro pins s σ H xs us Q I r h
 obtain ⟨x,n,rfl,hn,hl,q⟩:=h
 obtain ⟨u,rfl,t,rfl⟩:=z3a r
 exact W.KIN.call_text hn hl ⟨.int n,H,I.tok _,⟨_,rfl⟩,q⟩
def startsB (x y:Str):Bool:=decide (0+y.length≤x.length) && Builtin.Str.subAt x y 0
def rStarts:V->List V->Hp->VK->Prop:=λ x xs H Q=>∃z y,x=.str z/\xs=[.str y]/\Q (.bl (startsB z y)) H
theorem y4v:MtR X "str.startswith" rStarts:=by
 intro pins s σ H x xs v us Q I rx rv h
 obtain ⟨z,y,rfl,rfl,q⟩:=h
 obtain ⟨t,rfl⟩:=rx
 obtain ⟨u,rfl,ru⟩:=z3a rv
 obtain ⟨ty,rfl⟩:=(show ∃ty,u=Value.str y ty from ru)
 exact call_gives F.slot_str_startswith (typeIs_str s z t) F.entry_str_startswith (F.args_str_startswith_2 _ _) (gives_str_startswith z y t ty) ⟨.bl (startsB z y),H,I,rfl,q⟩
def rSlStrX:V->Option Int->Option Int->Hp->VK->Prop:=λ x lo hi H Q=>∃z,x=.str z/\z.length≤4000000/\Q (.str (Txt.slice z lo hi)) H
theorem z8l:SlR X rSlStrX:=by
 intro pins s σ H x v vl vu lo hi sl Q I rx hs pl pu h
 obtain ⟨z,rfl,hz,q⟩:=h
 obtain ⟨t,rfl⟩:=rx
 have s20:4000000≤sizeLine:=by rw [sizeLine_eq];decide
 have part:∀ {u:Value}{o:Option Int},IsPart u o->∃l,u=partValue l/\o=l.map λ p:Int × Tok=>p.1:=λ p=>by
  cases p with
  | none=>exact ⟨none,rfl,rfl⟩
  | int i t=>exact ⟨some (i,t),rfl,rfl⟩
 obtain ⟨l,rfl,rfl⟩:=part pl
 obtain ⟨u,rfl,rfl⟩:=part pu
 obtain ⟨o,ho,hc,hd⟩:=hs
 refine ⟨"str",_,F.slot_str_getitem.lookup,typeIs_str _ _ _,wpAny_getItem_str_slice (l:=l) (u:=u) (st:=none) ⟨o,ho,hc,hd⟩ rfl ?_⟩
 have le:=Txt.slice_le z (l.map λ p:Int × Tok=>p.1) (u.map λ p:Int × Tok=>p.1)
 exact post_val_or_str ⟨Nat.le_trans le (by omega),λ t' k=>⟨.str _,H,I.tok k,⟨t',rfl⟩,q⟩⟩
theorem z5k:∀ {bs:List Bool}{us:List Value},Vals (bs.map V.bl) us->us=bs.map Value.bool
 | [],_,.nil=>rfl
 | b::bs,_,.cons r t=>by
  cases (show _=Value.bool b from r)
  rw [z5k t];rfl
theorem y6v (hc:X.calm=true):CallR X (.builtin "all") (λ xs H Q=>∃(a:Addr) (bs:List Bool),xs=[.ref a]/\SqL X.K H a (bs.map V.bl)/\Q (.bl (bs.all id)) H):=by
 intro pins s σ H xs us Q I r h
 obtain ⟨a,bs,rfl,hq,q⟩:=h
 obtain ⟨u,rfl,ru⟩:=z3a r
 cases (show u=Value.ref a from ru)
 obtain ⟨its,rv,pl,hz⟩:=I.list hq
 have hl:=pl.isList
 have hlt:a < s.heap.objs.size:=by obtain ⟨_,e,_⟩:=hl;exact Heap.lt_size e
 have hb:=z5k rv
 subst hb
 refine call_all_walk (wpAny_pyIter_list hl ?_)
 refine ⟨s.heap.objs.size,[s.heap.objs.size,a],[s.heap.objs.size],(bs.map Value.bool).toArray.size,_,_,λ i=>(bs[i]?).getD true,rfl,Walks.list (A:=X.A.in1) (I.ok.hd hc) _ a (Nat.ne_of_lt hlt) (bs.map Value.bool).toArray,
  ⟨⟨_,Heap.get?_push_size _ rfl,rfl,rfl⟩,hl.push _⟩,λ i v s' Q' E' hP hQ=>?_,λ h' tk hk=>?_⟩
 ·have hP:(bs.map Value.bool)[i]?=some v:=by simpa using hP
  rw [List.getElem?_map] at hP
  cases e:bs[i]? with
  | none=>rw [e] at hP;cases hP
  | some b =>
   rw [e] at hP;cases hP
   simp only [e,Option.getD_some] at hQ
   exact wpAny_truthy_bool hQ
 ·have e:((List.range (bs.map Value.bool).toArray.size).all λ i=>(bs[i]?).getD true)=bs.all id:=by
   rw [List.size_toArray,List.length_map];exact LSm.range_all bs
  rw [e]
  exact ⟨.bl _,H,I.kept (t':=tk) (LSm.kept_iter hk),rfl,q⟩
end
section
variable {κ:Type} [DecidableEq κ]
def valV (kvs:List (κ × V)) (k:κ):Option V:=(kvs.find? λ kv=>decide (kv.1=k)).map (·.2)
def putK (kvs:List (κ × V)) (k:κ) (v:V):List (κ × V) :=
 if (kvs.any λ kv=>decide (kv.1=k))=true then kvs.map (λ kv=>if kv.1=k then (kv.1,v) else kv) else kvs++[(k,v)]
def dropK (kvs:List (κ × V)) (k:κ):List (κ × V):=kvs.filter λ kv=>decide (kv.1≠k)
theorem z1t {p:κ × V}{r:List (κ × V)}{k:κ}(e:p.1=k):valV (p::r) k=some p.2:=by simp [valV,List.find?_cons,e]
theorem z1u {p:κ × V}{r:List (κ × V)}{k:κ}(e:¬p.1=k):valV (p::r) k=valV r k:=by simp [valV,List.find?_cons,e]
theorem z3p (k:κ):∀kvs:List (κ × V),(kvs.any λ kv=>decide (kv.1=k))=(valV kvs k).isSome
 | []=>rfl
 | p::r=>by
  rw [List.any_cons]
  by_cases e:p.1=k
  ·simp only [z1t e,decide_eq_true e,Bool.true_or,Option.isSome_some]
  ·rw [z1u e,decide_eq_false e,Bool.false_or];exact z3p k r
theorem z9m (k j:κ) (y:V):∀kvs:List (κ × V),valV (kvs.map λ kv=>if kv.1=k then (kv.1,y) else kv) j=(valV kvs j).map λ x=>if j=k then y else x
 | []=>rfl
 | p::r=>by
  have ih:=z9m k j y r
  rw [List.map_cons]
  by_cases h:p.1=k
  ·rw [if_pos h]
   by_cases e:p.1=j
   ·rw [z1t (p:=(p.1,y)) e,z1t e,Option.map_some,if_pos (e.symm.trans h)]
   ·rw [z1u (p:=(p.1,y)) e,z1u e,ih]
  ·rw [if_neg h]
   by_cases e:p.1=j
   ·rw [z1t (p:=p) e,z1t e,Option.map_some,if_neg (λ z=>h (e.trans z))]
   ·rw [z1u (p:=p) e,z1u e,ih]
theorem z6u (k j:κ) (y:V):∀kvs:List (κ × V),valV kvs k=none->valV (kvs++[(k,y)]) j=if j=k then some y else valV kvs j
 | [],_=>by
  by_cases e:k=j
  ·rw [if_pos e.symm];exact z1t (p:=(k,y)) e
  ·rw [if_neg (λ z=>e z.symm)];exact z1u (p:=(k,y)) e
 | p::r,hn=>by
  rw [List.cons_append]
  have hk:¬p.1=k:=λ z=>by rw [z1t z] at hn;cases hn
  rw [z1u hk] at hn
  have ih:=z6u k j y r hn
  by_cases e:p.1=j
  ·rw [z1t e,z1t e,if_neg (λ z=>hk (e.trans z))]
  ·rw [z1u e,z1u e,ih]
theorem z6a (kvs:List (κ × V)) (k j:κ) (y:V):valV (putK kvs k y) j=if j=k then some y else valV kvs j:=by
 unfold putK
 by_cases a:(kvs.any λ kv=>decide (kv.1=k))=true
 ·rw [if_pos a,z9m]
  rw [z3p] at a
  by_cases e:j=k
  ·obtain ⟨x,hx⟩:=Option.isSome_iff_exists.mp a
   rw [if_pos e,e,hx,Option.map_some,if_pos rfl]
  ·rw [if_neg e]
   cases valV kvs j with
   | none=>rfl
   | some x=>rw [Option.map_some,if_neg e]
 ·rw [if_neg a]
  refine z6u k j y kvs ?_
  rw [z3p] at a
  cases q:valV kvs k with
  | none=>rfl
  | some x=>rw [q] at a;exact (a rfl).elim
theorem z5a (kvs:List (κ × V)) (k:κ) (v:V):(putK kvs k v).length≤kvs.length+1:=by
 unfold putK
 split
 ·rw [List.length_map];omega
 ·rw [List.length_append,List.length_cons,List.length_nil];omega
theorem z9y {kvs:List (κ × V)}{k:κ}(v:V) (h:valV kvs k=none):putK kvs k v=kvs++[(k,v)]:=by
 unfold putK
 rw [z3p,h]
 exact if_neg (by decide)
theorem RelO.isSome_eq {o:Option V}{u:Option Value}(r:RelO o u):o.isSome=u.isSome:=by
 cases o with
 | none=>cases u with
  | none=>rfl
  | some _=>exact (show False from r).elim
 | some _=>cases u with
  | none=>exact (show False from r).elim
  | some _=>rfl
theorem RelO.getD {o:Option V}{u:Option Value}{d:V}{d':Value}(r:RelO o u) (rd:RelV d d'):RelV (o.getD d) (u.getD d'):=by
 cases o with
 | none=>cases u with
  | none=>exact rd
  | some _=>exact (show False from r).elim
 | some _=>cases u with
  | none=>exact (show False from r).elim
  | some _=>exact r
theorem KV.val {kvs:List (κ × V)}{vs:List (κ × Value)}(r:KV kvs vs) (k:κ):RelO (valV kvs k) (valueAt vs k):=by
 unfold KV at r
 induction r with
 | nil=>exact True.intro
 | @cons p q ps qs h t ih =>
  obtain ⟨h1,h2⟩:=h
  by_cases e:p.1=k
  ·have e':q.1=k:=h1.symm.trans e
   have b:valueAt (q::qs) k=some q.2:=by simp [valueAt,List.find?_cons,e']
   rw [z1t e,b];exact h2
  ·have e':¬q.1=k:=λ z=>e (h1.trans z)
   have b:valueAt (q::qs) k=valueAt qs k:=by simp [valueAt,List.find?_cons,e']
   rw [z1u e,b];exact ih
theorem KV.any {kvs:List (κ × V)}{vs:List (κ × Value)}(r:KV kvs vs) (k:κ):(kvs.any λ kv=>decide (kv.1=k))=vs.any λ kv=>decide (kv.1=k):=by
 unfold KV at r
 induction r with
 | nil=>rfl
 | cons h t ih=>rw [List.any_cons,List.any_cons,ih,h.1]
theorem KV.repl {kvs:List (κ × V)}{vs:List (κ × Value)}(r:KV kvs vs) (k:κ) {y:V}{u:Value}(ry:RelV y u) :
  KV (kvs.map λ kv=>if kv.1=k then (kv.1,y) else kv) (vs.map λ kv=>if kv.1=k then (kv.1,u) else kv):=by
 unfold KV at r ⊢
 induction r with
 | nil=>exact .nil
 | @cons p q ps qs h t ih =>
  rw [List.map_cons,List.map_cons]
  refine .cons ?_ ih
  obtain ⟨h1,h2⟩:=h
  by_cases e:p.1=k
  ·rw [if_pos e,if_pos (h1.symm.trans e)];exact ⟨h1,ry⟩
  ·rw [if_neg e,if_neg (λ z=>e (h1.trans z))];exact ⟨h1,h2⟩
theorem KV.put {kvs:List (κ × V)}{vs:List (κ × Value)}(r:KV kvs vs) (k:κ) {y:V}{u:Value}(ry:RelV y u):KV (putK kvs k y) (stored vs k u):=by
 unfold putK stored
 rw [r.any k]
 by_cases e:(vs.any λ kv=>decide (kv.1=k))=true
 ·rw [if_pos e,if_pos e];exact r.repl k ry
 ·rw [if_neg e,if_neg e];exact Paired.snoc r ⟨rfl,ry⟩
theorem KV.drop {kvs:List (κ × V)}{vs:List (κ × Value)}(r:KV kvs vs) (k:κ):KV (dropK kvs k) (without vs k):=by
 unfold KV at r ⊢
 unfold dropK without
 induction r with
 | nil=>exact .nil
 | @cons p q ps qs h t ih =>
  obtain ⟨h1,h2⟩:=h
  rw [List.filter_cons,List.filter_cons]
  by_cases e:p.1=k
  ·have a:¬decide (p.1≠k)=true:=by simp [e]
   have b:¬decide (q.1≠k)=true:=by simp [h1.symm.trans e]
   rw [if_neg a,if_neg b];exact ih
  ·have e':¬q.1=k:=λ z=>e (h1.trans z)
   have a:decide (p.1≠k)=true:=by simp [e]
   have b:decide (q.1≠k)=true:=by simp [e']
   rw [if_pos a,if_pos b];exact .cons ⟨h1,h2⟩ ih
theorem KV.keys {kvs:List (κ × V)}{vs:List (κ × Value)}(r:KV kvs vs):kvs.map (·.1)=vs.map (·.1):=by
 unfold KV at r
 induction r with
 | nil=>rfl
 | cons h t ih=>rw [List.map_cons,List.map_cons,ih,h.1]
theorem KV.length {kvs:List (κ × V)}{vs:List (κ × Value)}(r:KV kvs vs):kvs.length=vs.length:=Paired.length r
end
theorem y8w {P:Program}{w:World}{k:Key}{u:Value}(r:RelV (kV k) u):(mixKind P w).is k u=true:=by
 cases k with
 | inl i=>obtain ⟨t,e⟩:=(show ∃t,u=Value.int i t from r);subst e;exact z9f P w i t
 | inr x=>obtain ⟨t,e⟩:=(show ∃t,u=Value.str x t from r);subst e;exact z9e P w x t
theorem z7t {P:Program}{w:World}:∀ {ks:List Key}{us:List Value},Vals (ks.map kV) us->ItemsAre (mixKind P w) ks us
 | [],_,r=>by rw [List.map_nil] at r;cases r;exact .nil
 | k::ks,_,r=>by
  rw [List.map_cons] at r
  cases r with
  | cons h t=>exact .cons (y8w h) (z7t t)
abbrev KT (H:Hp):List (List Key × V)->List (List Key × Addr × Value)->Prop:=Paired λ p q=>p.1=q.1/\H q.2.1=some (.tup (p.1.map kV))/\RelV p.2 q.2.2
theorem KT.val {H:Hp}{kvs:List (List Key × V)}{xs:List (List Key × Addr × Value)}(r:KT H kvs xs) (k:List Key):RelO (valV kvs k) ((atKey xs k).map (·.2)):=by
 induction r with
 | nil=>exact True.intro
 | @cons p q ps qs h t ih =>
  obtain ⟨h1,_,h2⟩:=h
  by_cases e:p.1=k
  ·have e':q.1=k:=h1.symm.trans e
   have b:atKey (q::qs) k=some q.2:=by simp [atKey,List.find?_cons,e']
   rw [z1t e,b];exact h2
  ·have e':¬q.1=k:=λ z=>e (h1.trans z)
   have b:atKey (q::qs) k=atKey qs k:=by simp [atKey,List.find?_cons,e']
   rw [z1u e,b];exact ih
theorem KT.repl {H:Hp}{kvs:List (List Key × V)}{xs:List (List Key × Addr × Value)}(r:KT H kvs xs) (k:List Key) {y:V}{u:Value}(ry:RelV y u) :
  KT H (kvs.map λ kv=>if kv.1=k then (kv.1,y) else kv) (xs.map (putAt k u)):=by
 induction r with
 | nil=>exact .nil
 | @cons p q ps qs h t ih =>
  rw [List.map_cons,List.map_cons]
  refine .cons ?_ ih
  obtain ⟨h1,h2,h3⟩:=h
  unfold putAt
  by_cases e:p.1=k
  ·rw [if_pos e,if_pos (h1.symm.trans e)];exact ⟨h1,h2,ry⟩
  ·rw [if_neg e,if_neg (λ z=>e (h1.trans z))];exact ⟨h1,h2,h3⟩
theorem KT.put {H:Hp}{kvs:List (List Key × V)}{xs:List (List Key × Addr × Value)}(r:KT H kvs xs) (k:List Key) {b:Addr}{y:V}{u:Value}(hb:H b=some (.tup (k.map kV))) (ry:RelV y u) :
  KT H (putK kvs k y) (storedH xs k b u):=by
 have e:(kvs.any λ kv=>decide (kv.1=k))=(atKey xs k).isSome:=by
  rw [z3p,(r.val k).isSome_eq,Option.isSome_map]
 unfold putK storedH
 rw [e]
 by_cases q:(atKey xs k).isSome=true
 ·rw [if_pos q,if_pos q];exact r.repl k ry
 ·rw [if_neg q,if_neg q];exact Paired.snoc r ⟨rfl,hb,ry⟩
theorem KT.keeps {H H':Hp}{kvs:List (List Key × V)}{xs:List (List Key × Addr × Value)}(r:KT H kvs xs) (ht:∀b ys,H b=some (.tup ys)->H' b=some (.tup ys)):KT H' kvs xs :=
 Paired.mapP r λ _ _ z=>⟨z.1,ht _ _ z.2.1,z.2.2⟩
section
variable {P:Program}{w:World}{H:Hp}{h:Heap}{a:Addr}
theorem x2p {u:HO}(ok:HOk P w H h) (e:Rd H a u):ObjOk P w H h a u:=e.ok ok
theorem y9k {kvs:List (Key × V)}(ok:HOk P w H h) (e:Rd H a (.dK kvs)):kvs.length≤sizeLine/\(a == sysModules)=false/\∃vs,KV kvs vs/\h.DictOf (mixKind P w) a vs :=
 show ObjOk P w H h a (.dK kvs) from x2p ok e
theorem x4c {kvs:List (Key × V)}(ok:HOk P w H h) (e:H a=some (.dK kvs)):kvs.length≤sizeLine/\(a == sysModules)=false/\∃vs,KV kvs vs/\h.DictOf (mixKind P w) a vs:=y9k ok (.inl e)
theorem y0n {ks:List Key}(ok:HOk P w H h) (e:H a=some (.tup (ks.map kV))):(tupleKind (mixKind P w)).is h ks a:=by
 obtain ⟨_,its,r,o,h1,h2,n,h3⟩:=(show ObjOk P w H h a (.tup (ks.map kV)) from ok a _ e)
 exact ⟨o,its.toArray,n,h1,h2,h3,by simpa using z7t r⟩
theorem y9j {kvs:List (List Key × V)}(ok:HOk P w H h) (e:Rd H a (.dT kvs)):kvs.length≤sizeLine/\(a == sysModules)=false /\
  ∃xs,KT H kvs xs/\h.DictOfH (tupleKind (mixKind P w)) a xs:=by
 obtain ⟨z,y,xs,r,o,es,ep,h1,h2,h3,h4,h5⟩:=(show ObjOk P w H h a (.dT kvs) from x2p ok e)
 refine ⟨z,y,xs,r,o,es,ep,h1,h2,h3,h4,λ x hx=>?_,h5⟩
 have all:∀ {l:List (List Key × V)}{m:List (List Key × Addr × Value)},KT H l m->∀x∈m,(tupleKind (mixKind P w)).is h x.1 x.2.1:=by
  intro l m q
  induction q with
  | nil=>intro x hx;exact nomatch hx
  | @cons p q ps qs hq t ih =>
   intro x hx
   rcases List.mem_cons.mp hx with e | hx
   ·subst e
    exact y0n ok (by rw [← hq.1];exact hq.2.1)
   ·exact ih x hx
 exact all r x hx
theorem x4x {kvs:List (List Key × V)}(ok:HOk P w H h) (e:H a=some (.dT kvs)):kvs.length≤sizeLine/\(a == sysModules)=false /\
  ∃xs,KT H kvs xs/\h.DictOfH (tupleKind (mixKind P w)) a xs:=y9j ok (.inl e)
end
def DGet (H:Hp) (a:Addr) (y:V) (r:Option V):Prop :=
 (∃kvs k,Rd H a (.dK kvs)/\y=kV k/\r=valV kvs k)\/∃kvs k b,Rd H a (.dT kvs)/\y=.ref b/\H b=some (.tup (k.map kV))/\r=valV kvs k
def DPut (H:Hp) (a:Addr) (y v:V) (H':Hp):Prop :=
 (∃kvs k,H a=some (.dK kvs)/\y=kV k/\kvs.length < sizeLine/\H'=upd H a (.dK (putK kvs k v))) \/
 ∃kvs k b,H a=some (.dT kvs)/\y=.ref b/\H b=some (.tup (k.map kV))/\kvs.length < sizeLine/\H'=upd H a (.dT (putK kvs k v))
theorem DGet.k {H:Hp}{a:Addr}{kvs:List (Key × V)}{k:Key}(e:H a=some (.dK kvs)):DGet H a (kV k) (valV kvs k):=.inl ⟨kvs,k,.inl e,rfl,rfl⟩
theorem DGet.t {H:Hp}{a b:Addr}{kvs:List (List Key × V)}{k:List Key}(e:H a=some (.dT kvs)) (eb:H b=some (.tup (k.map kV))):DGet H a (.ref b) (valV kvs k):=.inr ⟨kvs,k,b,.inl e,rfl,eb,rfl⟩
theorem DPut.k {H:Hp}{a:Addr}{kvs:List (Key × V)}{k:Key}{v:V}(e:H a=some (.dK kvs)) (hl:kvs.length < sizeLine):DPut H a (kV k) v (upd H a (.dK (putK kvs k v))):=.inl ⟨kvs,k,e,rfl,hl,rfl⟩
theorem DPut.t {H:Hp}{a b:Addr}{kvs:List (List Key × V)}{k:List Key}{v:V}(e:H a=some (.dT kvs)) (eb:H b=some (.tup (k.map kV))) (hl:kvs.length < sizeLine) :
  DPut H a (.ref b) v (upd H a (.dT (putK kvs k v))):=.inr ⟨kvs,k,b,e,rfl,eb,hl,rfl⟩
section
variable {X:Cx}{pins:List (Addr × Obj)}{σ:St}{H:Hp}{s:Shared}{a:Addr}{y v:V}{u r:Value}{o:Option V}{A:Around}{E:Value->Shared->Prop}
theorem Inv.big (I:Inv X pins σ H s):sysModules < s.heap.objs.size:=by
 have h:mainGlobals < s.heap.objs.size:=(I.mod.glob.keeps I.bk).lt
 exact Nat.lt_trans (by decide) h
theorem x5j {Q:Value->Shared->Prop}(hu:A.units+1 < cLine) (I:Inv X pins σ H s) (g:DGet H a y o) (ry:RelV y u) (h:∀s',Inv X pins σ H s'->Q (.bool o.isSome) s') :
  wpAny (model X.prog X.w) A (compareOp .In u (.ref a)) Q E s:=by
 rcases g with ⟨kvs,k,e,ey,l⟩ | ⟨kvs,k,b,e,ey,eb,l⟩
 ·subst ey
  obtain ⟨z,hd,vs,rel,dd⟩:=y9k I.hok e
  refine wpAny_in_of (y8w ry) hd dd.mapOf ?_
  rw [← (rel.val k).isSome_eq,← l]
  exact h _ (I.tok _)
 ·subst ey
  cases (show u=Value.ref b from ry)
  obtain ⟨z,hd,xs,rel,dd⟩:=y9j I.hok e
  refine wpAny_in_heap (tupleKind_room_in1 hu) (y0n I.hok eb) hd dd ?_
  have q:=(rel.val k).isSome_eq
  rw [Option.isSome_map] at q
  rw [← q,← l]
  exact h _ (I.tok _)
theorem y5z {h':Heap}{t':Nat}{ob:HO}(I:Inv X pins σ H s) (mu:Mut (H a)) (hs:Heap.SameBut a s.heap h') (he:∃q,h'.get? a=some q) (new:ObjOk X.prog X.w (upd H a ob) h' a ob) :
  Inv X pins σ (upd H a ob) { s with heap:=h',toks:=t' } :=
 I.write (x:=a) (e:=a) mu (.inl rfl) (λ b q hb z=>(hs.2 b hb).trans z) he new
theorem x4d {P:Program}{w:World}{H':Hp}{h':Heap}{kvs:List (Key × V)}{vs:List (Key × Value)}(z:kvs.length≤sizeLine) (hd:(a == sysModules)=false) (rel:KV kvs vs) (dd:h'.DictOf (mixKind P w) a vs) :
  ObjOk P w H' h' a (.dK kvs):=⟨z,hd,vs,rel,dd⟩
theorem y6a {H':Hp}{Q:Unit->Shared->Prop}(hu:A.units+1 < cLine) (I:Inv X pins σ H s) (g:DPut H a y v H') (ry:RelV y u) (rv:RelV v r) (h:∀s',Inv X pins σ H' s'->Q () s') :
  wpAny (model X.prog X.w) A (setItem (.ref a) u r) Q E s:=by
 rcases g with ⟨kvs,k,e,ey,l,eH⟩ | ⟨kvs,k,b,e,ey,eb,l,eH⟩
 ·subst ey eH
  obtain ⟨z,hd,vs,rel,dd⟩:=x4c I.hok e
  have hz:vs.length≤sizeLine:=by rw [← rel.length];exact z
  have hl:(putK kvs k v).length≤sizeLine:=by have:=z5a kvs k v;omega
  refine wpAny_setItem_pairs (hsz:=hz) (y8w ry) dd λ h' dd' hs=>h _ ?_
  have he:∃q,h'.get? a=some q:=let ⟨q,_,_,hq,_⟩:=dd';⟨q,hq⟩
  exact y5z I (by rw [e];exact True.intro) hs he (x4d hl hd (rel.put k rv) dd')
 ·subst ey eH
  cases (show u=Value.ref b from ry)
  obtain ⟨z,hd,xs,rel,dd⟩:=x4x I.hok e
  have hz:xs.length≤sizeLine:=by rw [← Paired.length rel];exact z
  have hl:(putK kvs k v).length≤sizeLine:=by have:=z5a kvs k v;omega
  refine wpAny_setItem_heap (hsz:=hz) (tupleKind_room_in1 hu) (y0n I.hok eb) dd λ h' dd' hs=>h _ ?_
  obtain ⟨q,es,ep,hq,h2,h3,h4,_,h5⟩:=dd'
  refine y5z I (by rw [e];exact True.intro) hs ⟨q,hq⟩ ⟨hl,hd,_,(rel.put k eb rv).keeps λ c ys ec=>?_,q,es,ep,hq,h2,h3,h4,h5⟩
  rw [z0m (x4v ec e (λ z=>nomatch z))]
  exact ec
end
section
variable {X:Cx}{pins:List (Addr × Obj)}{σ:St}{H:Hp}{s:Shared}{a:Addr}{kvs:List (Key × V)}{k:Key}{u:Value}{A:Around}{E:Value->Shared->Prop}
end
def NoSl (i:Expr):Prop:=∀ov iv,subscripted i false ov iv=operate [ov,iv] (getItem ov iv)
theorem x0o {prog:Program}{w:World}{A:Around}{E:Value->Shared->Prop}{s:Shared}{env:Env}{value slice:Expr}{pos:Pos}{T id:String}{Q:Value->Shared->Prop}
  (hl:typeLookup (.type T) "__getitem__" = pure (some (.builtin id))) (hs:NoSl slice)
  (h:wpAny (model prog w) A (eval value env) (λ o s₁=>wpAny (model prog w) A (eval slice env) (λ i s₂=>s₂.TypeIs o T/\wpAny (model prog w) A (getItem o i) Q E s₂) E s₁) E s) :
  wpAny (model prog w) A (eval (.Subscript value slice pos) env) Q E s:=by
 refine Subscript_ (wpAny_mono h (λ o s₁ h₁=>wpAny_mono h₁ (λ i s₂ h₂=>?_) λ _ _ x=>x) λ _ _ x=>x)
 obtain ⟨hT,h₂⟩:=h₂
 unfold subscriptTail
 refine wpAny_bind ?_
 rw [getitemInPython_of_ne hT.not_modules]
 refine wpAny_bind (wpAny_specialOf hT hl ?_)
 have fin:wpAny (model prog w) A (subscripted slice false o i) (λ r s₃=>wpAny (model prog w) A (letTemporaryGo value o r >>= λ _=>pure r) Q E s₃) E s₂:=by
  rw [hs o i]
  exact wpAny_operating (wpAny_mono h₂ (λ r s₃ h₃=>wpAny_bind (wpAny_letTemporaryGo (wpAny_pure h₃))) λ _ _ x=>x)
 first
  | exact wpAny_pure (wpAny_bind fin)
  | exact wpAny_bind (wpAny_pure (wpAny_bind fin))
  | exact wpAny_bind fin
def tDIn (ty td:TE):TE:=λ σ H Q=>ty σ H λ y H1=>td σ H1 λ x H2=>∃a o,x=.ref a/\DGet H2 a y o/\Q (.bl o.isSome) H2
def tDNotIn (ty td:TE):TE:=λ σ H Q=>ty σ H λ y H1=>td σ H1 λ x H2=>∃a o,x=.ref a/\DGet H2 a y o/\Q (.bl (!o.isSome)) H2
def sDPut (td ty tv:TE):TS:=λ D σ H=>tv σ H λ v H1=>td σ H1 λ x H2=>ty σ H2 λ y H3=>∃a H4,x=.ref a/\DPut H3 a y v H4/\D.nx σ H4
section
variable {X:Cx}{o i e value:Expr}{pos pos' tpos:Pos}{td ty tv:TE}
theorem x3a (hu:X.A.units+1 < cLine) (hi:PE X i ty) (ho:PE X o td):PC X .In i o (tDIn ty td):=by
 intro pins s σ H Q I h
 refine thn (hi pins s σ H _ I h) λ iv s1 ⟨y,H1,I1,ry,q1⟩=>thn (ho pins s1 σ H1 _ I1 q1) λ u s2 ⟨x,H2,I2,rx,a,ov,ex,g,q2⟩=>?_
 subst ex
 obtain rfl:u=Value.ref a:=rx
 exact x5j hu I2 g ry λ s3 I3=>⟨.bl ov.isSome,H2,I3,rfl,q2⟩
theorem x0v (hu:X.A.units+1 < cLine) (ho:PE X o td) (hi:PE X i ty) (hv:PE X value tv) (hs:swapsWith value (some (.Subscript o i pos')) pos.line X.env=pure false) :
  PS X (.Assign [.Subscript o i pos'] value pos) (sDPut td ty tv):=by
 intro pins s σ H D I h
 refine wpAny_Assign_Subscript (thn (hv pins s σ H _ I h) λ r s1 ⟨v,H1,I1,rv,q1⟩=>thn (ho pins s1 σ H1 _ I1 q1) λ u s2 ⟨x,H2,I2,rx,q2⟩=>thn (hi pins s2 σ H2 _ I2 q2) λ iv s3 ⟨y,H3,I3,ry,a,H4,ex,g,q3⟩=>?_) hs
 subst ex
 obtain rfl:u=Value.ref a:=rx
 exact y6a hu I3 g ry rv λ s4 I4=>⟨σ,H4,I4,q3⟩
end
theorem y9l {P:Program}{w:World}{H:Hp}(h:Heap) (hb:sysModules < h.objs.size):ObjOk P w H (h.push { cls:=.type "dict",data:=.dict #[] }) h.objs.size (.dK []) :=
 ⟨Nat.zero_le _,beq_eq_false_iff_ne.mpr (Ne.symm (Nat.ne_of_lt hb)),[],.nil,Heap.DictOf.new h⟩
def tDNewK:TE:=λ _ H Q=>∀p,H p=none->Q (.ref p) (upd H p (.dK []))
def tDNewT:TE:=λ _ H Q=>∀p,H p=none->Q (.ref p) (upd H p (.dT []))
section
variable {X:Cx}{pos:Pos}
theorem y7z:PE X (.Dict [] [] pos) tDNewK:=λ pins s σ H Q I h =>
 wpAny_Dict_empty ⟨.ref s.heap.objs.size,_,I.laid (a:=s.heap.objs.size) (o:=.dK []) (t':=s.toks) (λ _ _ q=>Heap.get?_push_of_some _ q) (Nat.le_refl _) (y9l s.heap I.big),rfl,h _ (I.hok.fresh (Nat.le_refl _))⟩
end
structure M1 (X:Cx) (o:Expr) (m:Str) (apos:Pos) (e:Expr) (cpos:Pos):Prop where
 base:attributeBase o m X.env (eval o X.env)=eval o X.env
 few:((backTo cpos (starEach [e] X.env)).all (λ x=>!x.1) && (backToKw cpos (keywordEach [] X.env)).all (λ x=>x.1.isSome)
  && decide (([e]:List Expr).length+([]:List Keyword).length+(if ([]:List Keyword).isEmpty then 0 else 1) < 30))=true
 line:(apos.endLine == cpos.line)=true
 trees:backTo cpos (starEach [e] X.env)=[(false,eval e X.env)]
structure M2 (X:Cx) (o:Expr) (m:Str) (apos:Pos) (e f:Expr) (cpos:Pos):Prop where
 base:attributeBase o m X.env (eval o X.env)=eval o X.env
 few:((backTo cpos (starEach [e,f] X.env)).all (λ x=>!x.1) && (backToKw cpos (keywordEach [] X.env)).all (λ x=>x.1.isSome)
  && decide (([e,f]:List Expr).length+([]:List Keyword).length+(if ([]:List Keyword).isEmpty then 0 else 1) < 30))=true
 line:(apos.endLine == cpos.line)=true
 trees:backTo cpos (starEach [e,f] X.env)=[(false,eval e X.env),(false,eval f X.env)]
def IsD (H:Hp) (a:Addr):Prop:=(∃kvs,Rd H a (.dK kvs))\/∃kvs,Rd H a (.dT kvs)
theorem x3v {X:Cx}{pins:List (Addr × Obj)}{σ:St}{H:Hp}{s:Shared}{a:Addr}(I:Inv X pins σ H s) (d:IsD H a) :
  s.TypeIs (.ref a) "dict" /\ (∀b,Value.ref a=.ref b->∃ob,s.heap.get? b=some ob/\ob.dict=none)/\(a == sysModules)=false:=by
 rcases d with ⟨kvs,e⟩ | ⟨kvs,e⟩
 ·obtain ⟨_,hd,vs,_,dd⟩:=y9k I.hok e
  refine ⟨dd.typeIs,λ b q=>?_,hd⟩
  cases q
  obtain ⟨ob,_,_,h1,h2,_⟩:=dd
  exact ⟨ob,h1,h2.2.1⟩
 ·obtain ⟨_,hd,xs,_,dd⟩:=y9j I.hok e
  refine ⟨dd.typeIs,λ b q=>?_,hd⟩
  cases q
  obtain ⟨ob,_,_,h1,h2,_⟩:=dd
  exact ⟨ob,h1,h2.2.1⟩
section
variable {X:Cx}{pins:List (Addr × Obj)}{σ:St}{H:Hp}{s:Shared}{a:Addr}{y d:V}{u r:Value}{o:Option V}{A:Around}{E:Value->Shared->Prop}
theorem x4e {Q:Value->Shared->Prop}(hu:A.units+1 < cLine) (I:Inv X pins σ H s) (g:DGet H a y o) (ry:RelV y u) (h:∀w' s',Inv X pins σ H s'->RelV (o.getD .non) w'->Q w' s') :
  wpAny (model X.prog X.w) A (call (.builtin "dict.get") [.ref a,u]) Q E s:=by
 rcases g with ⟨kvs,k,e,ey,l⟩ | ⟨kvs,k,b,e,ey,eb,l⟩
 ·subst ey
  obtain ⟨z,hd,vs,rel,dd⟩:=y9k I.hok e
  refine call_meetsIn PySem.F.slot_dict_get dd.typeIs PySem.F.entry_dict_get (PySem.F.args_dict_get_2 _ _) (meets_dict_get (mixKind X.prog X.w) a (y8w ry) hd) ⟨_,dd.mapOf,h _ _ (I.tok _) ?_⟩
  rw [l]
  exact (rel.val k).getD rfl
 ·subst ey
  cases (show u=Value.ref b from ry)
  obtain ⟨z,hd,xs,rel,dd⟩:=y9j I.hok e
  refine call_meetsIn PySem.F.slot_dict_get dd.typeIs PySem.F.entry_dict_get (PySem.F.args_dict_get_2 _ _) (meetsH_dict_get (tupleKind (mixKind X.prog X.w)) a b hd) ⟨tupleKind_room_in1 hu,k,xs,y0n I.hok eb,dd,h _ _ (I.tok _) ?_⟩
  rw [l]
  exact (rel.val k).getD rfl
end
def tDGet1 (td ty:TE):TE:=λ σ H Q=>td σ H λ x H1=>∃a,x=.ref a/\IsD H1 a/\ty σ H1 λ y H2=>∃o,DGet H2 a y o/\Q (o.getD .non) H2
section
variable {X:Cx}{o e f:Expr}{apos cpos:Pos}{td ty tx:TE}
theorem y0c (hu:X.A.units+1 < cLine) (ho:PE X o td) (he:PE X e ty) (m:M1 X o "get" apos e cpos):PE X (.Call (.Attribute o "get" apos) [e] [] cpos) (tDGet1 td ty):=by
 intro pins s σ H Q I h
 refine wpAny_Call_method m.base m.few m.line PySem.F.plainAttrs_dict PySem.F.slot_dict_get PySem.F.type_dict_get (thn (ho pins s σ H _ I h) λ u s1 ⟨x,H1,I1,rx,a,ex,d,q1⟩=>?_)
 subst ex
 obtain rfl:u=Value.ref a:=rx
 obtain ⟨t1,t2,_⟩:=x3v I1 d
 refine ⟨t1,t2,?_⟩
 rw [m.trees]
 refine Calls.callWith_builtin rfl (Calls.evalArgs_plain (Calls.spliced_cons (thn (he pins s1 σ H1 _ I1 q1) λ iv s2 ⟨y,H2,I2,ry,ov,g,q2⟩=>Calls.spliced_nil ?_)))
 exact x4e hu I2 g ry λ w' s3 I3 rw'=>⟨_,H2,I3,rw',q2⟩
end
section
variable {X:Cx}{pins:List (Addr × Obj)}{σ:St}{H:Hp}{s:Shared}{a:Addr}{kvs:List (Key × V)}{A:Around}{E:Value->Shared->Prop}
end
section
variable {X:Cx}{pins:List (Addr × Obj)}{σ:St}{H:Hp}{s:Shared}{a:Addr}{y:V}{u:Value}{A:Around}{E:Value->Shared->Prop}
end
section
variable {X:Cx}
end
section
variable {κ:Type} [DecidableEq κ]
end
def KTab (P:Program) (w:World) (K:W.Frag) (d:Addr) (kvs:List (Str × Addr)):Prop:=(d == sysModules)=false/\∀h:Heap,K.In h->h.DictOf (mixKind P w) d (kvs.map λ p=>((Sum.inr p.1:Key),Value.ref p.2))
def entT (pm:Params) (l:List (Str × Tok × Addr)):List DictEntry:=l.map λ p=>⟨PyData.keyHash pm p.1,.str p.1 p.2.1,.ref p.2.2⟩
theorem KTab.mk {P:Program}{w:World}{K:W.Frag}{d:Addr}{l:List (Str × Tok × Addr)}{es:Array DictEntry}{n:Nat}(hd:(d == sysModules)=false) (hl:K.lookup d=some { cls:=.type "dict",data:=.dict es n }) (he:es.toList=entT w.params l) (nd:(l.map (·.1)).Nodup) :
  KTab P w K d (l.map λ p=>(p.1,p.2.2)):=by
 refine ⟨hd,λ h KI=>⟨_,es,n,KI d _ hl,⟨rfl,rfl,rfl⟩,rfl,?_,?_,?_⟩⟩
 ·intro e hm
  have hm:e∈es.toList:=Array.mem_toList_iff.mpr hm
  rw [he] at hm
  obtain ⟨p,_,rfl⟩:=List.mem_map.mp hm
  exact ⟨Sum.inr p.1,z3g p.1 p.2.1,rfl⟩
 ·rw [he]
  clear he nd hl
  induction l with
  | nil=>exact .nil
  | cons p r ih=>exact .cons (z3g p.1 p.2.1) rfl ih
 ·rw [List.map_map,List.map_map]
  have e:((λ x:Key × Value=>x.1) ∘ (λ p:Str × Addr=>((Sum.inr p.1:Key),Value.ref p.2))) ∘ (λ p:Str × Tok × Addr=>(p.1,p.2.2))=(λ x:Str=>(Sum.inr x:Key)) ∘ λ p=>p.1:=rfl
  rw [← List.map_map] at *
  have z:(l.map λ p=>(Sum.inr p.1:Key)).Nodup:=by
   have:(l.map λ p=>(Sum.inr p.1:Key))=(l.map (·.1)).map (λ x:Str=>(Sum.inr x:Key)):=by rw [List.map_map];rfl
   rw [this]
   exact List.Pairwise.map _ (λ a b (h:a≠b) z=>h (Sum.inr.inj z)) nd
  simpa [List.map_map,Function.comp_def] using z
theorem y0k {kvs:List (Str × Addr)}{x:Str}:valueAt (kvs.map λ p=>((Sum.inr p.1:Key),Value.ref p.2)) (Sum.inr x)=(kvs.lookup x).map Value.ref:=by
 induction kvs with
 | nil=>rfl
 | cons p r ih =>
  obtain ⟨k,a⟩:=p
  unfold valueAt at *
  rw [List.map_cons,List.find?_cons,List.lookup_cons]
  by_cases e:x=k
  ·subst e;simp
  ·have h1:decide ((Sum.inr k:Key)=Sum.inr x)=false:=decide_eq_false λ z=>e (Sum.inr.inj z).symm
   have h2:(x == k)=false:=beq_eq_false_iff_ne.mpr e
   rw [h2]
   simp only [h1]
   exact ih
section
variable {X:Cx}
def rKTab (kvs:List (Str × Addr)):V->Hp->VK->Prop:=λ y H Q=>∃x a,y=.str x/\kvs.lookup x=some a/\Q (.ref a) H
def tKTab (kvs:List (Str × Addr)) (te:TE):TE:=λ σ H Q=>te σ H λ y H1=>rKTab kvs y H1 Q
theorem x0x {n:Str}{i:Expr}{np pos:Pos}{d:Addr}{kvs:List (Str × Addr)}{te:TE}(hg:Gl X n) (hm:X.mg n=some (.ref d)) (T:KTab X.prog X.w X.K d kvs) (hi:PE X i te) (hs:NoSl i) (hdb:(n == ("__debug__" : Str))=false:=by decide) :
  PE X (.Subscript (.Name n np) i pos) (tKTab kvs te):=by
 intro pins s σ H Q I h
 refine x0o PySem.F.slot_dict_getitem.lookup hs (z3f I hg hm (thn (hi pins s σ H _ I h) λ iv s2 ⟨y,H2,I2,ry,x,a,ey,l,q⟩=>?_) hdb)
 subst ey
 obtain ⟨t,rfl⟩:=ry
 have dd:=T.2 s2.heap I2.kIn
 refine ⟨dd.typeIs,wpAny_getItem_of (z3g x t) dd.mapOf (v:=.ref a) (by rw [y0k,l];rfl) ⟨.ref a,H2,I2.tok _,rfl,q⟩⟩
def tKIn (kvs:List (Str × Addr)) (te:TE):TE:=λ σ H Q=>te σ H λ y H1=>∃x,y=.str x/\Q (.bl (kvs.lookup x).isSome) H1
theorem x2z {n:Str}{i:Expr}{np:Pos}{d:Addr}{kvs:List (Str × Addr)}{te:TE}(hg:Gl X n) (hm:X.mg n=some (.ref d)) (T:KTab X.prog X.w X.K d kvs) (hi:PE X i te) (hdb:(n == ("__debug__" : Str))=false:=by decide) :
  PC X .In i (.Name n np) (tKIn kvs te):=by
 intro pins s σ H Q I h
 refine thn (hi pins s σ H _ I h) λ iv s1 ⟨y,H1,I1,ry,x,ey,q⟩=>z3f I1 hg hm ?_ hdb
 subst ey
 obtain ⟨t,rfl⟩:=ry
 have dd:=T.2 s1.heap I1.kIn
 refine wpAny_in_of (k:=Sum.inr x) (show (mixKind X.prog X.w).is (Sum.inr x) (Value.str x t)=true from z3g x t) T.1 dd.mapOf ?_
 rw [y0k,Option.isSome_map]
 exact ⟨.bl _,H1,I1.tok _,rfl,q⟩
end
def KTup (K:W.Frag) (a:Addr) (xs:List V):Prop:=∃(o:Obj) (its:Array Value) (n:Nat),K.lookup a=some o/\o.cls=.type "tuple" /\ o.data=.seq its n/\its.size≤sizeLine/\Vals xs its.toList
theorem KTup.sq {K:W.Frag}{a:Addr}{xs:List V}(h:KTup K a xs) {H:Hp}:SqT K H a xs:=.inr h
section
variable {pg:Program}{wd:World}{B:Around}{X0:Value->Shared->Prop}{s0:Shared}
end
def ItzM (K:W.Frag) (a b:Addr):It:=⟨λ i H=>∃xs ys x y,SqL K H a xs/\SqT K H b ys/\xs[i]?=some x/\ys[i]?=some y,
 λ i H v H'=>∃T x y,v=.ref T/\H T=none/\H'=upd H T (.tup [x,y])/\∀xs ys,SqL K H a xs->SqT K H b ys->xs[i]?=some x/\ys[i]?=some y,λ i H=>∃xs ys,SqL K H a xs/\SqT K H b ys/\(xs.length≤i\/ys.length≤i)⟩
section
variable {X:Cx}{es:List Expr}{x1:Nat}{pp:Pos}
def iZipM (K:W.Frag) (ta:TA):TI:=λ σ H R=>ta σ H λ vs H1=>∃a b xs ys,vs=[.ref a,.ref b]/\SqL K H1 a xs/\SqT K H1 b ys/\R (ItzM K a b) H1
end
def LoopZM (K:PySem.W.Frag) (g:TG) (tb:TS) (D:Ends) (σ:St) (vs:List V) (H1:Hp):Prop:=∃a b xs ys,vs=[.ref a,.ref b]/\SqL K H1 a xs/\SqT K H1 b ys/\∃W:Nat->Nat->St->Hp->Prop,(∃m,W 0 m σ H1)/\∀i m σ H,W i m σ H ->
 ((ItzM K a b).stop i H/\D.nx σ H)\/((ItzM K a b).go i H/\∃N:St->Hp->Prop,(∀σ' H',N σ' H'->∃m',m' < m/\W (i+1) m' σ' H')/\∀x H',(ItzM K a b).yld i H x H'->g x σ H' λ σ2 H2=>tb { D with nx:=N,ct:=N,bk:=D.nx } σ2 H2)
theorem y9b {K:W.Frag}{ta:TA}{g:TG}{tb:TS}{D:Ends}{σ:St}{H:Hp}:tFor (iZipM K ta) g tb D σ H=ta σ H λ vs H1=>LoopZM K g tb D σ vs H1:=rfl
theorem LoopZM.mk {K:W.Frag}{a b:Addr}{xs ys:List V}{g:TG}{tb:TS}{D:Ends}{σ:St}{H:Hp}(n:Nat) (hn:n=min xs.length ys.length) (h1:SqL K H a xs) (h2:SqT K H b ys) (Pv:Nat->St->Hp->Prop) (h0:Pv 0 σ H) (hl:∀i σ H,i≤n->Pv i σ H->SqL K H a xs/\SqT K H b ys)
  (hs:∀i x y σ H T,i < n->xs[i]?=some x->ys[i]?=some y->Pv i σ H->H T=none->g (.ref T) σ (upd H T (.tup [x,y])) λ σ2 H2=>tb { D with nx:=Pv (i+1),ct:=Pv (i+1),bk:=D.nx } σ2 H2) (hd:∀σ H,Pv n σ H->D.nx σ H) :
  LoopZM K g tb D σ [.ref a,.ref b] H:=by
 subst hn
 refine ⟨a,b,xs,ys,rfl,h1,h2,λ i m σ H=>m=min xs.length ys.length - i/\i≤min xs.length ys.length/\Pv i σ H,⟨_,rfl,Nat.zero_le _,h0⟩,?_⟩
 rintro i m σ H ⟨rfl,hi,p⟩
 obtain ⟨k1,k2⟩:=hl i σ H hi p
 by_cases hlt:i < min xs.length ys.length
 ·have l1:i < xs.length:=by omega
  have l2:i < ys.length:=by omega
  refine .inr ⟨⟨xs,ys,_,_,k1,k2,List.getElem?_eq_getElem l1,List.getElem?_eq_getElem l2⟩,Pv (i+1),λ σ' H' p'=>⟨min xs.length ys.length - (i+1),by omega,rfl,hlt,p'⟩,λ v H' yy=>?_⟩
  obtain ⟨T,x,y,rfl,hT,rfl,ex⟩:=yy
  obtain ⟨ex1,ex2⟩:=ex xs ys k1 k2
  exact hs i x y σ H T hlt ex1 ex2 p hT
 ·have e:i=min xs.length ys.length:=by omega
  exact .inl ⟨⟨xs,ys,k1,k2,by omega⟩,hd σ H (e ▸ p)⟩
def CompZM (K:PySem.W.Frag) (k:Nat) (js:List Nat) (g:TG) (te:TE) (σ:St) (vs:List V) (H1:Hp) (Q:VK):Prop:=∃a b xs ys,vs=[.ref a,.ref b]/\SqL K H1 a xs/\SqT K H1 b ys/\∃W:Nat->Nat->List V->St->Hp->Prop,(∃m,W 0 m [] (compSt k js σ) H1)/\∀i m zs σ' H',W i m zs σ' H' ->
  ((ItzM K a b).stop i H'/\∀p,H' p=none->Q (.ref p) (upd H' p (.lst zs))) \/
  ((ItzM K a b).go i H'/\zs.length < sizeLine/\∃N:List V->St->Hp->Prop,(∀zs σ2 H2,N zs σ2 H2->∃m',m' < m/\W (i+1) m' zs σ2 H2)/\∀x H2,(ItzM K a b).yld i H' x H2->g x σ' H2 λ σ3 H3=>te σ3 H3 λ v H4=>N (zs++[v]) σ3 H4)
theorem y6e {K:W.Frag}{k:Nat}{js:List Nat}{ta:TA}{g:TG}{te:TE}{σ:St}{H:Hp}{Q:VK}:tComp (iZipM K ta) k js g te σ H Q=ta σ H λ vs H1=>CompZM K k js g te σ vs H1 Q:=rfl
theorem CompZM.mk {K:W.Frag}{a b:Addr}{xs ys:List V}{k:Nat}{js:List Nat}{g:TG}{te:TE}{Q:VK}{σ:St}{H:Hp}(n:Nat) (hn:n=min xs.length ys.length) (h1:SqL K H a xs) (h2:SqT K H b ys) (Pv:Nat->List V->St->Hp->Prop) (h0:Pv 0 [] (compSt k js σ) H) (hl:∀i zs σ H,i≤n->Pv i zs σ H->SqL K H a xs/\SqT K H b ys)
  (hs:∀i x y zs σ H T,i < n->xs[i]?=some x->ys[i]?=some y->Pv i zs σ H->H T=none->zs.length < sizeLine/\g (.ref T) σ (upd H T (.tup [x,y])) λ σ3 H3=>te σ3 H3 λ v H4=>Pv (i+1) (zs++[v]) σ3 H4) (hz:∀zs σ H,Pv n zs σ H->∀p,H p=none->Q (.ref p) (upd H p (.lst zs))) (hlen:∀i zs σ H,Pv i zs σ H->zs.length < sizeLine) :
  CompZM K k js g te σ [.ref a,.ref b] H Q:=by
 subst hn
 refine ⟨a,b,xs,ys,rfl,h1,h2,λ i m zs σ H=>m=min xs.length ys.length - i/\i≤min xs.length ys.length/\Pv i zs σ H,⟨_,rfl,Nat.zero_le _,h0⟩,?_⟩
 rintro i m zs σ H ⟨rfl,hi,p⟩
 obtain ⟨k1,k2⟩:=hl i zs σ H hi p
 by_cases hlt:i < min xs.length ys.length
 ·have l1:i < xs.length:=by omega
  have l2:i < ys.length:=by omega
  refine .inr ⟨⟨xs,ys,_,_,k1,k2,List.getElem?_eq_getElem l1,List.getElem?_eq_getElem l2⟩,hlen _ _ _ _ p,Pv (i+1),λ zs' σ' H' p'=>⟨min xs.length ys.length - (i+1),by omega,rfl,hlt,p'⟩,λ v H' yy=>?_⟩
  obtain ⟨T,x,y,rfl,hT,rfl,ex⟩:=yy
  obtain ⟨ex1,ex2⟩:=ex xs ys k1 k2
  exact (hs i x y zs σ H T hlt ex1 ex2 p hT).2
 ·have e:i=min xs.length ys.length:=by omega
  exact .inl ⟨⟨xs,ys,k1,k2,by omega⟩,hz zs σ H (e ▸ p)⟩
def CompTI (K:PySem.W.Frag) (k:Nat) (js:List Nat) (g:TG) (tc:TT) (te:TE) (σ:St) (v:V) (H1:Hp) (Q:VK):Prop:=∃a,v=.ref a/\(∃xs,SqT K H1 a xs)/\∃W:Nat->Nat->List V->St->Hp->Prop,(∃m,W 0 m [] (compSt k js σ) H1)/\∀i m zs σ' H',W i m zs σ' H' ->
  ((Itt K a).stop i H'/\∀p,H' p=none->Q (.ref p) (upd H' p (.lst zs))) \/
  ((Itt K a).go i H'/\zs.length < sizeLine/\∃N:List V->St->Hp->Prop,(∀zs σ2 H2,N zs σ2 H2->∃m',m' < m/\W (i+1) m' zs σ2 H2)/\∀x H2,(Itt K a).yld i H' x H2->g x σ' H2 λ σ3 H3=>tc σ3 H3 λ b H4=>if b=true then te σ3 H4 λ v H5=>N (zs++[v]) σ3 H5 else N zs σ3 H4)
theorem y6i {K:W.Frag}{k:Nat}{js:List Nat}{tx:TE}{g:TG}{tc:TT}{te:TE}{σ:St}{H:Hp}{Q:VK}:tCompI (iTup K tx) k js g tc te σ H Q=tx σ H λ v H1=>CompTI K k js g tc te σ v H1 Q:=rfl
theorem CompTI.mk {K:W.Frag}{a:Addr}{xs:List V}{k:Nat}{js:List Nat}{g:TG}{tc:TT}{te:TE}{Q:VK}{σ:St}{H:Hp}(h1:SqT K H a xs) (Pv:Nat->List V->St->Hp->Prop) (h0:Pv 0 [] (compSt k js σ) H) (hl:∀i zs σ H,i≤xs.length->Pv i zs σ H->SqT K H a xs/\zs.length < sizeLine)
  (hs:∀i x zs σ H,xs[i]?=some x->Pv i zs σ H->g x σ H λ σ3 H3=>tc σ3 H3 λ b H4=>if b=true then te σ3 H4 λ v H5=>Pv (i+1) (zs++[v]) σ3 H5 else Pv (i+1) zs σ3 H4) (hz:∀zs σ H,Pv xs.length zs σ H->∀p,H p=none->Q (.ref p) (upd H p (.lst zs))) :
  CompTI K k js g tc te σ (.ref a) H Q:=by
 refine ⟨a,rfl,⟨xs,h1⟩,λ i m zs σ H=>m=xs.length - i/\i≤xs.length/\Pv i zs σ H,⟨_,rfl,Nat.zero_le _,h0⟩,?_⟩
 rintro i m zs σ H ⟨rfl,hi,p⟩
 obtain ⟨k1,k2⟩:=hl i zs σ H hi p
 by_cases hlt:i < xs.length
 ·refine .inr ⟨⟨xs,_,k1,List.getElem?_eq_getElem hlt⟩,k2,Pv (i+1),λ zs' σ' H' p'=>⟨xs.length - (i+1),by omega,rfl,hlt,p'⟩,λ v H' yy=>?_⟩
  obtain ⟨rfl,ex⟩:=yy
  exact hs i v zs σ _ (ex xs k1) p
 ·have e:i=xs.length:=by omega
  exact .inl ⟨⟨xs,k1,by omega⟩,hz zs σ H (e ▸ p)⟩
section
variable {X:Cx}
def rJoinD (K:W.Frag):V->List V->Hp->VK->Prop:=λ x xs H Q=>∃(z:Str) (l:Addr) (ys:List Str),x=.str z/\z.length=0/\xs=[.ref l]/\SqL K H l (ys.map V.str)/\ys.length≤100/\(∀y∈ys,okS 10 y)/\(okS 1000 (Builtin.Str.glued z ys)->Q (.str (Builtin.Str.glued z ys)) H)
theorem y8o:MtR X "str.join" (rJoinD X.K):=by
 intro pins s σ H x xs v us Q I rx rv h
 obtain ⟨z,l,ys,rfl,hz,rfl,hq,hl,hy,q⟩:=h
 obtain ⟨t,rfl⟩:=rx
 obtain ⟨u,rfl,ru⟩:=z3a rv
 cases (show u=Value.ref l from ru)
 obtain ⟨its,r,pl,hs⟩:=I.list hq
 have s20:20000≤sizeLine:=by rw [sizeLine_eq];decide
 obtain ⟨ps,e1,e2⟩:∃ps:List (Str × Tok),its=strValues ps/\ps.map (·.1)=ys:=by
  clear hq pl hs hl hy q
  induction ys generalizing its with
  | nil=>cases r;exact ⟨[],rfl,rfl⟩
  | cons y r2 ih =>
   cases r with
   | cons a b =>
    obtain ⟨ty,rfl⟩:=a
    obtain ⟨ps,e1,e2⟩:=ih _ b
    exact ⟨(y,ty)::ps,by rw [e1];rfl,by rw [List.map_cons,e2]⟩
 subst e1 e2
 have tot:∀(ks:List Str) (n:Nat),(∀y∈ks,okS 10 y)->ks.foldl (λ (n:Nat) (y:Str)=>n+y.length+z.length) n≤n+10 * ks.length:=by
  intro ks
  induction ks with
  | nil=>intro n _;simp
  | cons y r ih =>
   intro n h
   have:=ih (n+y.length+z.length) λ w hw=>h w (List.mem_cons_of_mem _ hw)
   have oy:=(h y (List.mem_cons_self ..)).1
   simp only [List.foldl_cons,List.length_cons]
   omega
 have tl:Builtin.Str.tooLong ((ps.map (·.1)).toArray.foldl (λ (n:Nat) (y:Str)=>n+y.length+z.length) 0)=false:=by
  have:=tot (ps.map (·.1)) 0 hy
  simp only [Builtin.Str.tooLong,List.size_toArray,List.foldl_toArray',decide_eq_false_iff_not]
  omega
 refine call_meets F.slot_str_join (typeIs_str s z t) F.entry_str_join (F.args_str_join_2 _ _) (meets_str_join_list z t l ps tl) ⟨pl.isList,?_⟩
 have og:=y8k z hz (ps.map (·.1)) hl hy
 match ps,hy,og,q with
 | [p],hy,_,q=>exact ⟨.str p.1,H,I,⟨_,rfl⟩,q ((hy p.1 (by simp)).mono (by decide))⟩
 | [],_,og,q=>exact ⟨by have:=og.1;omega,.str _,H,I.tok _,⟨_,rfl⟩,q og⟩
 | a::b::r,_,og,q=>exact ⟨by have:=og.1;omega,.str _,H,I.tok _,⟨_,rfl⟩,q og⟩
theorem y3q {es:List Expr}{k:Nat}{pos:Pos}{t:TGs}{n:Nat}{K:W.Frag}(hK:X.K=K) (h:PG X (.Tuple es k pos) (gTup X.K n t)):PG X (.Tuple es k pos) (gTup K n t):=hK ▸ h
theorem z2t:CallR X (.builtin "isinstance") (λ xs H Q=>∃x n t,xs=[x,.ty n]/\n∈["int", "bool", "tuple", "list", "str"]/\(tyS x=some t\/∃a ys,x=.ref a/\H a=some (.tup ys)/\t = "tuple")/\Q (.bl (isiN t n)) H):=by
 intro pins s σ H xs us Q I r h
 obtain ⟨x,n,t,rfl,hn,hx,q⟩:=h
 rcases hx with hx | ⟨a,ys,rfl,ha,rfl⟩
 ·refine y6r pins s σ H _ us Q I r ⟨x,n,rfl,⟨hn,by rw [hx];rfl⟩,?_⟩
  unfold isiB
  rw [hx]
  exact q
 ·refine y0v pins s σ H _ us Q I r ⟨.ref a,n,.type "tuple",isiN "tuple" n,rfl,.tup ha,?_,q⟩
  simp only [List.mem_cons,List.not_mem_nil,or_false] at hn
  rcases hn with rfl | rfl | rfl | rfl | rfl<;>exact y0l (by decide +kernel)
end
theorem x5k {X:Cx}{scope:Scope}{cl:List (Str × Addr)}{x0 x1 x2:Str}{j0 j1 j2:Nat}(c0:Cap X scope cl x0 j0) (c1:Cap X scope cl x1 j1) (c2:Cap X scope cl x2 j2):∀(i:Nat) x j,[x0,x1,x2][i]?=some x->[j0,j1,j2][i]?=some j->Cap X scope cl x j
 | 0,_,_,h1,h2=>by cases h1;cases h2;exact c0
 | 1,_,_,h1,h2=>by cases h1;cases h2;exact c1
 | 2,_,_,h1,h2=>by cases h1;cases h2;exact c2
 | _+3,_,_,h1,_=>by cases h1
theorem z2w {cells:List (Str × Addr)}{y z u:Str}{a b d:Addr}(h:cells.lookup y=some a) (h2:cells.lookup z=some b) (h3:cells.lookup u=some d):∀x c,[(y,a),(z,b),(u,d)].lookup x=some c->cells.lookup x=some c:=λ x c e=>by
 rcases List.mem_cons.mp (PySem.mem_of_lookup e) with q | q
 ·cases q;exact h
 ·rcases List.mem_cons.mp q with q | q
  ·cases q;exact h2
  ·cases List.mem_singleton.mp q;exact h3
structure FunD (K:W.Frag) (x qual:Str) (st:Stmt) (dV:Addr) (its:Array Value) (f:Addr) (fd:FuncData):Prop where
 ex:∃(oc:Value) (od:Option Addr) (kV doc pm:Value) (an:Option Addr) (cdv ct:Value) (osl:Array (Option Value)),
  fd=W.fnOf x qual (defArgs st) (defBody st) (defScope st) (.ref dV) kV doc pm an cdv ct/\K.lookup f=some ⟨oc,od,.func fd,osl⟩/\W.codeIn K cdv qual=true
 kp:W.keepIn K (.ref f)=true
 dt:∃(o:Obj) (n:Nat),K.lookup dV=some o/\o.data=.seq its n
section
variable {P:Program}{w:World}{K:W.Frag}{mg:Str->Option Value}{base:Heap}
theorem FunD.ok {x qual:Str}{st:Stmt}{dV:Addr}{its:Array Value}{f:Addr}{fd:FuncData}{N ps:List Str}{k:Nat}{sp:Sp}(F:FunD K x qual st dV its f fd) (S:FnScope N ps (defScope st)) (len:∀vs H Q E,sp vs H Q E->vs.length=ps.length)
  (hbody:∀(cdv:Value) (A:Around) (outer:List Env) (s:Shared) (H:Hp) (vs:List V) (Q:VK) (E:XK),Room k (A.deeper (envOfC qual (defScope st) s.heap.objs.size f cdv))->sp vs H Q E ->
   ∃t,PSs (cxOf CX0 P w K mg base N qual (defScope st) f cdv A outer s H E).nox (defBody st) t/\t { nx:=λ _ H'=>Q .non H',rt:=Q } (start N vs) H):FnOk P w K mg base CX0 (k+1) f fd ps sp:=by
 obtain ⟨oc,od,kV,doc,pm,an,cdv,ct,osl,rfl,lk,hcd⟩:=F.ex
 refine x1r lk hcd S len λ A outer s H vs Q E hr hsp=>?_
 obtain ⟨t,h,q⟩:=hbody cdv A outer s H vs Q E hr hsp
 exact ⟨t,h.nox,q⟩
theorem FunD.binds {x qual:Str}{st:Stmt}{dV:Addr}{its:Array Value}{f:Addr}{fd:FuncData}{ps:List Str}{ds:List Value}(F:FunD K x qual st dV its f fd)
  (h:∀(kV doc pm:Value) (an:Option Addr) (cdv ct:Value) (us:List Value),(us++ds).length=ps.length->∃k,bindArgs (W.fnOf x qual (defArgs st) (defBody st) (defScope st) (.ref dV) kV doc pm an cdv ct) ⟨us,[]⟩=seqItems? (.ref dV) >>= k/\k (some its)=pure (ps.zip (us++ds))):Binds K fd ps ds:=by
 obtain ⟨oc,od,kV,doc,pm,an,cdv,ct,osl,rfl,lk,hcd⟩:=F.ex
 obtain ⟨o,n,ho,hs⟩:=F.dt
 intro s us KI hl
 obtain ⟨k,h1,h2⟩:=h kV doc pm an cdv ct us hl
 exact .of_defaults (T:=dV) rfl (KI dV o ho) hs h1 h2
theorem x1i {x qual:Str}{st:Stmt}{dV:Addr}{its:Array Value}{f:Addr}{oc:Value}{od an:Option Addr}{osl:Array (Option Value)}{kV doc pm cdv ct:Value}{o:Obj}{n:Nat}(l:K.lookup f=some ⟨oc,od,.func (W.fnOf x qual (defArgs st) (defBody st) (defScope st) (.ref dV) kV doc pm an cdv ct),osl⟩)
  (c:W.codeIn K cdv qual=true) (k:W.keepIn K (.ref f)=true) (d:K.lookup dV=some o) (ds:o.data=.seq its n):FunD K x qual st dV its f (W.fnOf x qual (defArgs st) (defBody st) (defScope st) (.ref dV) kV doc pm an cdv ct):=⟨⟨oc,od,kV,doc,pm,an,cdv,ct,osl,rfl,l,c⟩,k,⟨o,n,d,ds⟩⟩
end
structure CalleeD (P:Program) (w:World) (K:W.Frag) (mg:Str->Option Value) (base:Heap) (CX:CXT) (k:Nat) (x:Str) (ps:List Str) (dvs:List V) (sp:Sp):Prop where
 has:∃(f:Addr) (fd:FuncData) (ds:List Value),FnOk P w K mg base CX k f fd ps sp/\mg x=some (.ref f)/\W.keepIn K (.ref f)=true/\Binds K fd ps ds/\Vals dvs ds
theorem CalleeD.mono {P:Program}{w:World}{K:W.Frag}{mg:Str->Option Value}{base:Heap}{CX:CXT}{j k:Nat}{x:Str}{ps:List Str}{dvs:List V}{sp:Sp}(c:CalleeD P w K mg base CX j x ps dvs sp) (h:j≤k):CalleeD P w K mg base CX k x ps dvs sp :=
 let ⟨f,fd,ds,ok,m,kp,b,v⟩:=c.has;⟨⟨f,fd,ds,ok.mono h,m,kp,b,v⟩⟩
section
variable {X:Cx}{CX:CXT}{k:Nat}{ps:List Str}{dvs:List V}{sp:Sp}{E:XK}{x:Str}{p pos:Pos}{e:Expr}{es:List Expr}{t:TA}
end
def totS (z:Str) (ys:List Str):Nat:=ys.foldl (λ (n:Nat) (y:Str)=>n+y.length+z.length) 0
theorem y7f (z:Str):∀(ys:List Str) (n:Nat),ys.foldl (λ (n:Nat) (y:Str)=>n+y.length+z.length) n=n+totS z ys:=by
 intro ys
 unfold totS
 induction ys with
 | nil=>intro n;rfl
 | cons y r ih=>intro n;rw [List.foldl_cons,List.foldl_cons,ih,ih (0+y.length+z.length)];omega
theorem z1e (z y:Str) (ys:List Str):totS z (y::ys)=y.length+z.length+totS z ys:=by
 show ys.foldl _ (0+y.length+z.length)=_
 rw [y7f];omega
theorem z2u (z:Str):∀(xs ys:List Str),totS z (xs++ys)=totS z xs+totS z ys
 | [],ys=>by show _=0+_;simp
 | x::xs,ys=>by rw [List.cons_append,z1e,z1e,z2u z xs ys];omega
theorem z3q {z:Str}{k:Nat}:∀ {ys:List Str},(∀y∈ys,y.length≤k)->totS z ys≤(k+z.length) * ys.length
 | [],_=>Nat.zero_le _
 | y::ys,h=>by
  have:=z3q (z:=z) (ys:=ys) λ x hx=>h x (List.mem_cons_of_mem _ hx)
  have h1:=h y (List.mem_cons_self ..)
  rw [z1e,List.length_cons,Nat.mul_succ];omega
theorem z2b (z:Str) (ys:List Str):(Builtin.Str.glued z ys).length≤totS z ys:=by
 cases ys with
 | nil=>exact Nat.zero_le _
 | cons y r =>
  have all:∀(r:List Str) (a:Array Nat),(r.foldl (λ acc p=>acc++z.cps++p.cps) a).size=a.size+totS z r:=by
   intro r
   induction r with
   | nil=>intro a;rfl
   | cons p r ih =>
    intro a
    rw [List.foldl_cons,ih,z1e]
    have e1:p.length=p.cps.size:=rfl
    have e2:z.length=z.cps.size:=rfl
    simp only [Array.size_append];omega
  show (r.foldl (λ acc p=>acc++z.cps++p.cps) y.cps).size≤_
  rw [all,z1e]
  have e1:y.length=y.cps.size:=rfl
  omega
section
variable {X:Cx}
def rJoinW (K:W.Frag):V->List V->Hp->VK->Prop:=λ x xs H Q=>∃(z:Str) (l:Addr) (ys:List Str),x=.str z/\xs=[.ref l]/\SqL K H l (ys.map V.str)/\totS z ys≤4000000/\Q (.str (Builtin.Str.glued z ys)) H
theorem z1z:MtR X "str.join" (rJoinW X.K):=by
 intro pins s σ H x xs v us Q I rx rv h
 obtain ⟨z,l,ys,rfl,rfl,hq,hl,q⟩:=h
 obtain ⟨t,rfl⟩:=rx
 obtain ⟨u,rfl,ru⟩:=z3a rv
 cases (show u=Value.ref l from ru)
 obtain ⟨its,r,pl,hs⟩:=I.list hq
 have s20:4000000≤sizeLine:=by rw [sizeLine_eq];decide
 obtain ⟨ps,e1,e2⟩:∃ps:List (Str × Tok),its=strValues ps/\ps.map (·.1)=ys:=by
  clear hq pl hs hl q
  induction ys generalizing its with
  | nil=>cases r;exact ⟨[],rfl,rfl⟩
  | cons y r2 ih =>
   cases r with
   | cons a b =>
    obtain ⟨ty,rfl⟩:=a
    obtain ⟨ps,e1,e2⟩:=ih _ b
    exact ⟨(y,ty)::ps,by rw [e1];rfl,by rw [List.map_cons,e2]⟩
 subst e1 e2
 have tl:Builtin.Str.tooLong ((ps.map (·.1)).toArray.foldl (λ (n:Nat) (y:Str)=>n+y.length+z.length) 0)=false:=by
  have:totS z (ps.map (·.1))≤4000000:=hl
  unfold totS at this
  simp only [Builtin.Str.tooLong,List.size_toArray,List.foldl_toArray',decide_eq_false_iff_not]
  omega
 refine call_meets F.slot_str_join (typeIs_str s z t) F.entry_str_join (F.args_str_join_2 _ _) (meets_str_join_list z t l ps tl) ⟨pl.isList,?_⟩
 have og:=Nat.le_trans (z2b z (ps.map (·.1))) hl
 match ps,og,q with
 | [p],_,q=>exact ⟨.str p.1,H,I,⟨_,rfl⟩,q⟩
 | [],og,q=>exact ⟨Nat.le_trans og s20,.str _,H,I.tok _,⟨_,rfl⟩,q⟩
 | a::b::r,og,q=>exact ⟨Nat.le_trans og s20,.str _,H,I.tok _,⟨_,rfl⟩,q⟩
def rMulS:R2:=λ x y H Q=>∃a n,x=.str a/\y=.int n/\0≤n/\n≤100/\a.length≤10/\∀z:Str,z.length=a.length * n.toNat->Q (.str z) H
theorem y4y:MtR X "list.extend" rExtend:=y4w
theorem y6o:CallR X (.type "str") (λ xs H Q=>∃x z,xs=[x]/\((∃i:Int,x=.int i/\i.natAbs.log2 < 1920/\z=Str.ofString (toString i))\/x=.str z)/\Q (.str z) H):=by
 intro pins s σ H xs us Q I r h
 obtain ⟨x,z,rfl,h,q⟩:=h
 rcases h with ⟨i,rfl,hl,rfl⟩ | rfl
 ·exact z3i pins s σ H _ us Q I r ⟨i,rfl,hl,q⟩
 ·obtain ⟨u,rfl,t,rfl⟩:=z3a r
  exact PySem.P.str_of_str ⟨.str _,H,I,⟨_,rfl⟩,q⟩
def rIxQ:R2:=λ x y H Q=>∃p xs i v,x=.ref p/\y=.int i/\(H p=some (.lst xs)\/H p=some (.tup xs))/\atI xs i=some v/\Q v H
theorem y5h:IxR X rIxQ:=by
 intro value slice pins s σ H x y v u Q I rx ry h hs
 obtain ⟨p,xs,i,z,e1,e2,hh | hh,ha,q⟩:=h
 ·exact z0x value slice pins s σ H x y v u Q I rx ry ⟨p,xs,i,z,e1,e2,hh,ha,q⟩ hs
 ·exact z0u value slice pins s σ H x y v u Q I rx ry ⟨p,xs,i,z,e1,e2,hh,ha,q⟩ hs
end
section
open PySem.Builtin PySem.Builtin.Str
def posL (c:Nat):List Nat->Nat->List Nat
 | [],_=>[]
 | d::r,a=>if d=c then a::posL c r (a+1) else posL c r (a+1)
def splitL (c:Nat):List Nat->List (List Nat)
 | []=>[[]]
 | d::r=>if d=c then []::splitL c r else match splitL c r with
  | []=>[[d]]
  | p::ps=>(d::p)::ps
theorem z1v (c:Nat):∀L:List Nat,∃p ps,splitL c L=p::ps
 | []=>⟨_,_,rfl⟩
 | d::r=>by
  obtain ⟨p,ps,e⟩:=z1v c r
  unfold splitL
  split
  ·exact ⟨_,_,rfl⟩
  ·rw [e];exact ⟨_,_,rfl⟩
theorem z6i (x:Str) (c:Nat):∀(m i:Nat) (st:Array Nat × Nat),i+m=x.length+1->st.2≤i->st.1.size≤i ->
  (forIn (List.range' i m) st (StrLaws.occBody x ⟨#[c]⟩ x.length (x.length+1))).run.fst.toList=st.1.toList++posL c (x.cps.toList.drop i) i
 | 0,i,st,hi,_,_=>by
  have e:x.cps.toList.drop i=[]:=List.drop_eq_nil_of_le (by simp [Str.length] at hi ⊢;omega)
  rw [e];simp [posL]
 | m+1,i,st,hi,h1,h2=>by
  rw [List.range'_succ,List.forIn_cons]
  have key:=StrLaws.subAt_one x c i
  unfold StrLaws.occBody
  cases e:x.cps.toList[i]? with
  | none =>
   have en:x.cps.toList.drop i=[]:=List.drop_eq_nil_of_le (List.getElem?_eq_none_iff.mp e)
   rw [if_neg (λ z=>by have:=key.mp ⟨z.1.2,z.2⟩;rw [e] at this;cases this)]
   refine (z6i x c m (i+1) _ (by omega) (by show st.2≤i+1;omega) (by show st.1.size≤i+1;omega)).trans ?_
   rw [en,List.drop_eq_nil_of_le (by have:=List.getElem?_eq_none_iff.mp e;omega)]
   simp [posL]
  | some d =>
   have hl:=(List.getElem?_eq_some_iff.mp e).1
   have ed:x.cps.toList.drop i=d::x.cps.toList.drop (i+1):=by
    rw [List.drop_eq_getElem_cons hl];congr 1;exact (List.getElem?_eq_some_iff.mp e).2
   by_cases z:d=c
   ·subst z
    obtain ⟨k1,k2⟩:=key.mpr e
    rw [if_pos ⟨⟨⟨by omega,h1⟩,k1⟩,k2⟩]
    refine (z6i x d m (i+1) (st.1.push i,i+1) (by omega) (Nat.le_refl _) (by show (st.1.push i).size≤i+1;simp;omega)).trans ?_
    rw [ed,posL,if_pos rfl,Array.toList_push,List.append_assoc];rfl
   ·rw [if_neg (λ y=>by have:=key.mp ⟨y.1.2,y.2⟩;rw [e] at this;exact z (Option.some.inj this))]
    refine (z6i x c m (i+1) _ (by omega) (by show st.2≤i+1;omega) (by show st.1.size≤i+1;omega)).trans ?_
    rw [ed,posL,if_neg z]
theorem y4s (x:Str) (c:Nat):occurrences x ⟨#[c]⟩ 0 x.length (x.length+1)=posL c x.cps.toList 0:=by
 rw [StrLaws.occ_eq]
 have:=z6i x c (x.length+1) 0 (#[],0) (by omega) (Nat.le_refl _) (Nat.le_refl _)
 rw [Nat.sub_zero,this]
 simp
def strL (L:List Nat):Str:=⟨L.toArray⟩
theorem z1r {x:Str}{L:List Nat}(h:x.cps.toList=L):x=strL L:=by
 obtain ⟨a⟩:=x
 unfold strL
 congr 1
 exact Array.ext' h
theorem z4x (x:Str) (c:Nat):∀(r:List Nat) (a b:Nat),x.cps.toList.drop b=r->a≤b->b≤x.length->∀p ps,splitL c r=p::ps ->
  StrLaws.partsFrom x 1 a (posL c r b)=strL ((x.cps.toList.drop a).take (b - a)++p)::ps.map strL
 | [],a,b,e,hab,hb,p,ps,es=>by
  have hn:x.cps.toList.length=x.length:=by simp [Str.length]
  have:b=x.length:=by have:=congrArg List.length e;simp only [List.length_drop,List.length_nil] at this;omega
  subst this
  cases es
  show [strSub x a x.length]=_
  rw [z1r (StrLaws.strSub_toList x a x.length),List.append_nil]
  rfl
 | d::r,a,b,e,hab,hb,p,ps,es=>by
  have hn:x.cps.toList.length=x.length:=by simp [Str.length]
  have hl:b < x.length:=by have:=congrArg List.length e;simp only [List.length_drop,List.length_cons] at this;omega
  have e2:x.cps.toList.drop (b+1)=r:=by rw [← List.drop_drop,e];rfl
  have eb:x.cps.toList[b]?=some d:=by rw [show x.cps.toList[b]?=(x.cps.toList.drop b)[0]? by rw [List.getElem?_drop];rfl,e];rfl
  obtain ⟨p',ps',es'⟩:=z1v c r
  unfold posL
  unfold splitL at es
  by_cases z:d=c
  ·rw [if_pos z] at es ⊢
   cases es
   show strSub x a b::StrLaws.partsFrom x 1 (b+1) (posL c r (b+1))=_
   rw [z4x x c r (b+1) (b+1) e2 (Nat.le_refl _) hl p' ps' es',es',z1r (StrLaws.strSub_toList x a b),List.append_nil,Nat.sub_self]
   rfl
  ·rw [if_neg z] at es ⊢
   rw [es'] at es
   cases es
   rw [z4x x c r a (b+1) e2 (by omega) hl _ _ es']
   congr 2
   rw [show b+1 - a=(b - a)+1 by omega,List.take_add_one,List.getElem?_drop,show a+(b - a)=b by omega,eb]
   simp
theorem y8t (x:Str):¬Builtin.Str.strKind x < 1:=by unfold Builtin.Str.strKind;split<;>(try split)<;>omega
def glueL (c:Nat):List (List Nat)->List Nat
 | []=>[]
 | [w]=>w
 | w::v::r=>w++c::glueL c (v::r)
theorem z4s (c:Nat):∀(w r:List Nat),c ∉ w->splitL c (w++c::r)=w::splitL c r
 | [],r,_=>by show splitL c (c::r)=_;rw [splitL,if_pos rfl]
 | d::w,r,h=>by
  show splitL c (d::(w++c::r))=_
  rw [splitL,if_neg (λ z=>h (by rw [z];exact List.mem_cons_self ..)),z4s c w r (λ z=>h (List.mem_cons_of_mem _ z))]
theorem z3r (c:Nat):∀(w:List Nat),c ∉ w->splitL c w=[w]
 | [],_=>rfl
 | d::w,h=>by rw [splitL,if_neg (λ z=>h (by rw [z];exact List.mem_cons_self ..)),z3r c w (λ z=>h (List.mem_cons_of_mem _ z))]
theorem z5n (c:Nat):∀(ws:List (List Nat)),ws≠[]->(∀w∈ws,c ∉ w)->splitL c (glueL c ws)=ws
 | [],h,_=>absurd rfl h
 | [w],_,h=>z3r c w (h w (List.mem_cons_self ..))
 | w::v::r,_,h=>by
  rw [glueL,z4s c w _ (h w (List.mem_cons_self ..)),z5n c (v::r) (by simp) (λ y hy=>h y (List.mem_cons_of_mem _ hy))]
theorem y3n (c:Nat):∀(L:List Nat) (a:Nat),posL c L a=[]->c ∉ L
 | [],_,_=>by simp
 | d::r,a,h=>by
  unfold posL at h
  split at h
  ·cases h
  ·rename_i z
   intro m
   rcases List.mem_cons.mp m with e | m
   ·exact z e.symm
   ·exact y3n c r _ h m
theorem y8u {c:Nat}(h:c < 256):Builtin.Str.strKind ⟨#[c]⟩=1:=by unfold Builtin.Str.strKind;rw [if_pos (by simpa using h)]
theorem y7j (x:Str) {c:Nat}(h:c < 256):Txt.split x ⟨#[c]⟩=(splitL c x.cps.toList).map strL:=by
 have hn:x.cps.toList.length=x.length:=by simp [Str.length]
 have x1:x=strL x.cps.toList:=z1r rfl
 unfold Txt.split
 split
 ·rename_i e
  rw [y8u h,decide_eq_false (y8t x),Bool.or_false,decide_eq_true_eq] at e
  have e:x.length < 1:=e
  have z:x.cps.toList=[]:=List.eq_nil_of_length_eq_zero (by omega)
  rw [z] at x1 ⊢
  rw [x1];rfl
 ·split
  ·rename_i e
   rw [y4s,List.isEmpty_iff] at e
   rw [z3r c _ (y3n c _ _ e),List.map_cons,List.map_nil,← x1]
  ·obtain ⟨p,ps,es⟩:=z1v c x.cps.toList
   rw [StrLaws.partsBetween_eq,y4s]
   refine (z4x x c x.cps.toList 0 0 rfl (Nat.le_refl _) (Nat.zero_le _) p ps es).trans ?_
   rw [es];rfl
theorem z3y (c:Nat):∀(ws:List Str),(Str.join ⟨#[c]⟩ ws).cps.toList=glueL c (ws.map λ w=>w.cps.toList)
 | []=>rfl
 | [w]=>rfl
 | w::v::r=>by
  have ih:=z3y c (v::r)
  show ((w++⟨#[c]⟩)++Str.join ⟨#[c]⟩ (v::r)).cps.toList=_
  rw [Str.cps_append,Str.cps_append,Array.toList_append,Array.toList_append,ih]
  simp [glueL]
theorem z8i {c:Nat}{ws:List Str}(n:ws≠[]) (h:∀w∈ws,c ∉ w.cps.toList):(splitL c (glued ⟨#[c]⟩ ws).cps.toList).map (λ w=>V.str (strL w))=ws.map V.str:=by
 rw [StrLaws.glued_eq_join,z3y,z5n c _ (by simpa using n) (λ w hw=>by obtain ⟨v,hv,rfl⟩:=List.mem_map.mp hw;exact h v hv),List.map_map]
 exact List.map_congr_left λ w _=>congrArg V.str (z1r rfl).symm
theorem z2p (c:Nat):∀L:List Nat,(splitL c L).length≤L.length+1
 | []=>by simp [splitL]
 | d::r=>by
  have ih:=z2p c r
  obtain ⟨p,ps,e⟩:=z1v c r
  unfold splitL
  rw [e] at ih ⊢
  split<;>simp at ih ⊢<;>omega
theorem y0p (c a:Nat):∀(ws:List (List Nat)),a∈glueL c ws->a=c\/∃w∈ws,a∈w
 | [],h=>by simp [glueL] at h
 | [w],h=>.inr ⟨w,List.mem_cons_self ..,h⟩
 | w::v::r,h=>by
  rcases List.mem_append.mp h with h | h
  ·exact .inr ⟨w,List.mem_cons_self ..,h⟩
  ·rcases List.mem_cons.mp h with h | h
   ·exact .inl h
   ·rcases y0p c a (v::r) h with h | ⟨y,hy,h⟩
    ·exact .inl h
    ·exact .inr ⟨y,List.mem_cons_of_mem _ hy,h⟩
theorem z7u {c a:Nat}{ws:List Str}(h:a∈(glued ⟨#[c]⟩ ws).cps.toList):a=c\/∃w∈ws,a∈w.cps.toList:=by
 rw [StrLaws.glued_eq_join,z3y] at h
 rcases y0p c a _ h with h | ⟨y,hy,h⟩
 ·exact .inl h
 ·obtain ⟨w,hw,rfl⟩:=List.mem_map.mp hy
  exact .inr ⟨w,hw,h⟩
theorem z5m:∀(ps:List (Str × Tok)),Vals (ps.map λ p=>V.str p.1) (strValues ps)
 | []=>.nil
 | p::r=>.cons ⟨_,rfl⟩ (z5m r)
section
variable {X:Cx}
def rSplit:V->List V->Hp->VK->Prop:=λ x ys H Q=>∃(t:Str) (c:Nat),x=.str t/\ys=[.str ⟨#[c]⟩]/\c < 256/\t.length≤4000000/\∀l,H l=none->Q (.ref l) (upd H l (.lst ((splitL c t.cps.toList).map λ w=>V.str (strL w))))
theorem z3v:MtR X "str.split" rSplit:=by
 intro pins s σ H x xs v us Q I rx rv h
 obtain ⟨x,c,rfl,rfl,c2,hl,q⟩:=h
 obtain ⟨t,rfl⟩:=rx
 obtain ⟨u,rfl,ru⟩:=z3a rv
 obtain ⟨u,rfl⟩:=ru
 have s20:4000010≤sizeLine:=by rw [sizeLine_eq];decide
 have hy:((⟨#[c]⟩:Str).length == 0)=false:=rfl
 have fin:∀(l:List (Str × Tok)) (k:Nat),l.map (·.1)=Txt.split x ⟨#[c]⟩->EP X pins σ Q (.ref s.heap.objs.size) { s with heap:=s.heap.push { cls:=.type "list",data:=.seq (strValues l).toArray },toks:=k }:=by
  intro l k e
  rw [y7j x c2] at e
  have r:Vals ((splitL c x.cps.toList).map λ w=>V.str (strL w)) (strValues l):=by
   have:=z5m l
   rw [show l.map (λ p=>V.str p.1)=(l.map (·.1)).map V.str by rw [List.map_map];rfl,e,List.map_map] at this
   exact this
  have hz:((splitL c x.cps.toList).map λ w=>V.str (strL w)).length≤sizeLine:=by
   rw [List.length_map]
   have:=z2p c x.cps.toList
   have e2:x.cps.toList.length=x.length:=by simp [Str.length]
   omega
  exact ⟨.ref _,_,I.lnew (t':=k) r hz,rfl,q _ I.fresh⟩
 have hn:(partsBetween x (occurrences x ⟨#[c]⟩ 0 x.length (x.length+1)) (⟨#[c]⟩:Str).length).length≤sizeLine:=by
  have e1:=StrLaws.occ_length_le x ⟨#[c]⟩ 0 x.length (x.length+1)
  rw [length_partsBetween];omega
 cases h1:(decide (x.length < (⟨#[c]⟩:Str).length) || decide (Builtin.Str.strKind x < Builtin.Str.strKind ⟨#[c]⟩))
 ·cases hf:(occurrences x ⟨#[c]⟩ 0 x.length (x.length+1)).isEmpty
  ·refine call_meets F.slot_str_split (typeIs_str _ _ _) F.entry_str_split (F.args_str_split_2 _ _) (meets_str_split_sep x ⟨#[c]⟩ t u h1 hy hf (by omega) hn) ?_
   show EP X pins σ Q (.ref s.heap.objs.size) { s with toks:=_,heap:=s.heap.push { cls:=.type "list",data:=.seq (strsFrom s.toks (partsBetween x (occurrences x ⟨#[c]⟩ 0 x.length (x.length+1)) (⟨#[c]⟩:Str).length)).toArray } }
   rw [strsFrom_eq]
   exact fin (numbered s.toks _) _ ((numbered_texts _ _).trans ((if_neg (ne_true_of_eq_false h1)).trans (if_neg (ne_true_of_eq_false hf))).symm)
  ·exact call_meets F.slot_str_split (typeIs_str _ _ _) F.entry_str_split (F.args_str_split_2 _ _) (meets_str_split_not_found x ⟨#[c]⟩ t u h1 hy hf) (fin [(x,t)] s.toks ((if_neg (ne_true_of_eq_false h1)).trans (if_pos hf)).symm)
 ·exact call_meets F.slot_str_split (typeIs_str _ _ _) F.entry_str_split (F.args_str_split_2 _ _) (meets_str_split_cannot_occur x ⟨#[c]⟩ t u h1) (fin [(x,t)] s.toks (if_pos h1).symm)
end
end
theorem hu1 {k:Nat}{A:Around}(r:Room k A):A.units+1 < cLine:=by have:=r.un;omega
theorem z9l:∀ {xs:List V}{us:List Value},Vals xs us->∀u∈us,∃z∈xs,RelV z u
 | _,_,.nil,u,h=>by cases h
 | x::xs,v::us,.cons r t,u,h=>by
  rcases List.mem_cons.mp h with rfl | h
  ·exact ⟨x,List.mem_cons_self ..,r⟩
  ·obtain ⟨z,h1,h2⟩:=z9l t u h
   exact ⟨z,List.mem_cons_of_mem _ h1,h2⟩
section
variable {X:Cx}
def rInN:R2:=λ x y H Q=>∃p xs,x=.non/\y=.ref p/\H p=some (.lst xs)/\(∀z∈xs,flatV z=true\/∃a ys,z=.ref a/\H a=some (.tup ys))/\Q (.bl (xs.any λ z=>eqV z .non)) H
theorem x1u {z:V}{u:Value}(r:RelV z u) (f:flatV z=true\/∃a,z=.ref a):eqU .non u=eqV z .non:=by
 rcases f with f | ⟨a,rfl⟩
 ·exact y0s r f
 ·cases r;rfl
theorem y7a:∀ {xs:List V}{us:List Value},Vals xs us->(∀z∈xs,flatV z=true\/∃a,z=.ref a)->us.any (eqU .non)=xs.any λ y=>eqV y .non
 | _,_,.nil,_=>rfl
 | y::xs,u::us,.cons r t,f=>by rw [List.any_cons,List.any_cons,y7a t λ z hz=>f z (List.mem_cons_of_mem _ hz),x1u r (f y (List.mem_cons_self ..))]
theorem y4c (hu:X.A.units+1 < cLine):OpR X (compareOp .In) rInN:=by
 intro pins s σ H x y v u Q I rx ry h
 obtain ⟨p,xs,rfl,rfl,hq,hf,q⟩:=h
 cases ry
 cases rx
 obtain ⟨its,r,pl,hz⟩:=I.list (.of hq)
 refine SeqAt.in_listAt (eqU .non) pl.isList (λ w hw=>?_) ⟨.bl _,H,I,rfl,?_⟩
 ·obtain ⟨z,mz,rz⟩:=z9l r w (by simpa using hw)
  rcases hf z mz with f | ⟨a,ys,rfl,ha⟩
  ·rw [y0s rz f];exact x0g rz rfl f rfl
  ·cases rz
   obtain ⟨its2,r2,pl2,hz2⟩:=I.tuple (.of ha)
   exact SeqAt.EqAt.tuple_none pl2 hu
 ·rw [show its.toArray.any (eqU .non)=its.any (eqU .non) by simp,y7a r λ z hz=>(hf z hz).imp id λ ⟨a,_,e,_⟩=>⟨a,e⟩]
  exact q
end
section
variable {pg:Program}{wd:World}{B:Around}{X0:Value->Shared->Prop}{s0:Shared}{J d:Addr}{m:Nat}{Pr:Nat->Value->Prop}{OK:Heap->Prop}
theorem z5i {R:Value->Shared->Prop}(K:W.KdlSrc pg wd "dict" J d m Pr OK) (hh:B.handled=none) (ok:OK s0.heap) (sm:m≤sizeLine)
  (fin:∀(h':Heap) (tk:Nat) (ac:Array Value),(∀b o,s0.heap.get? b=some o->h'.get? b=some o)->ItemsOf Pr ac m->R (.ref h'.objs.size) { s0 with heap:=h'.push { cls:=.type "tuple",data:=.seq ac },toks:=tk }) :
  codeAny (model pg wd) B (.call (.builtin "tuple.__new__") ⟨[.type "tuple",.ref J],[]⟩) (wants R X0) s0:=by
 refine codeAny_of_tree ?_
 show wpAny _ B.in1 (do checkBuiltinCall "tuple.__new__" ⟨[.type "tuple",.ref J],[]⟩;again (.builtin "tuple.__new__" ⟨[.type "tuple",.ref J],[]⟩)) _ _ s0
 refine wpAny_bind (wpAny_of_eq (F.newCall_tuple_1 _) (wpAny_pure ⟨plainId_quiet F.plain_tuple_new _,codeAny_builtin F.entry_tuple_new ?_⟩))
 rw [Around.under_plainId F.plain_tuple_new _]
 have q1:=sub_tuple_self
 have q2:=init_tuple_lookup
 have q3:=madeHere_tuple
 have q4:=K.type s0 ok
 have hh1:B.in1.handled=none:=hh
 wp_walk using wpAny_typeOf q4,W.kdu_collect (A:=B.in1) K hh1 ok sm
 intro h' tk ac hk its
 show wpAny _ _ (Builtin.Tuple.tupleExact ac.toList.toArray >>= λ q=>ret q) _ _ _
 have e:ac.toList.toArray=ac:=by simp
 rw [e]
 unfold Builtin.Tuple.tupleExact
 exact wpAny_bind (wpAny_newObj_type (wpAny_pure (fin h' tk ac hk its)) (by show ac.size≤sizeLine;rw [its.1];exact sm))
theorem z5e {R:Value->Shared->Prop}(K:W.KdlSrc pg wd "dict" J d m Pr OK) (hh:B.handled=none) (ok:OK s0.heap) (sm:m≤sizeLine)
  (fin:∀(h':Heap) (tk:Nat) (ac:Array Value),(∀b o,s0.heap.get? b=some o->h'.get? b=some o)->ItemsOf Pr ac m->R (.ref h'.objs.size) { s0 with heap:=h'.push { cls:=.type "tuple",data:=.seq ac },toks:=tk }) :
  wpAny (model pg wd) B (call (.type "tuple") [.ref J]) R X0 s0 :=
 callType_codes (Q₁:=λ ob z=>z.TypeIs ob "tuple" /\ R ob z) F.called_tuple (F.typeCall_tuple_1 _) F.entry_object_init
  (z5i (B:=B.in1) K hh ok sm λ h' tk ac hk its=>⟨⟨_,Heap.get?_push_size _ rfl,rfl⟩,fin h' tk ac hk its⟩)
  λ ob z q=>⟨q.1,F.args_object_init_2 ob _,object_init_meets F.called_tuple.init.lookup F.called_tuple.made (by decide) pg wd B.in1 _ z ⟨q.1,rfl,q.2⟩⟩
end
theorem x1e {P:Program}{w:World}{k:Key}{v:Value}(h:(mixKind P w).is k v=true):RelV (kV k) v:=by
 rcases z1l h with ⟨i,t,rfl,rfl⟩ | ⟨x,t,rfl,rfl⟩<;>exact ⟨t,rfl⟩
theorem y5d {P:Program}{w:World}{kvs:List (Key × V)}{vs:List (Key × Value)}{ac:Array Value}(r:KV kvs vs) (it:ItemsOf (λ i v=>∃k x,vs[i]?=some (k,x)/\(mixKind P w).is k v=true) ac vs.length):Vals (kvs.map λ kv=>kV kv.1) ac.toList:=by
 refine z4r (by rw [List.length_map,r.length,← it.1];exact Array.length_toList.symm) λ i u e=>?_
 rw [Array.getElem?_toList] at e
 obtain ⟨k,x,e1,e2⟩:=it.2 i u e
 refine ⟨kV k,?_,x1e e2⟩
 have z:=congrArg (λ l:List Key=>l[i]?) r.keys
 simp only [List.getElem?_map,e1,Option.map_some] at z
 rw [List.getElem?_map]
 cases g:kvs[i]? with
 | none=>rw [g] at z;cases z
 | some kv=>rw [g] at z;simp only [Option.map_some,Option.some.injEq] at z ⊢;rw [z]
section
variable {X:Cx}
theorem z9j (hc:X.calm=true):CallR X (.type "tuple") (λ xs H Q=>∃p kvs,xs=[.ref p]/\H p=some (.dK kvs)/\∀l,H l=none->Q (.ref l) (upd H l (.tup (kvs.map λ kv=>kV kv.1)))):=by
 intro pins s σ H xs us Q I r h
 obtain ⟨p,kvs,rfl,hp,q⟩:=h
 obtain ⟨u,rfl,rx⟩:=z3a r
 cases rx
 obtain ⟨z,hd,vs,rel,dd⟩:=x4c I.hok hp
 obtain ⟨ep,da⟩:=dd.dictAt
 refine z5e (W.kdl_dict (knd:=mixKind X.prog X.w) (kvs:=vs) (ep:=ep) hd) (I.ok.hd hc) da (by rw [← rel.length];exact z) λ h' tk ac hk it=>?_
 have I1:Inv X pins σ H { s with heap:=h',toks:=tk }:=I.kept (t':=tk) hk
 have hv:=y5d rel it
 have hl:(kvs.map λ kv=>kV kv.1).length≤sizeLine:=by rw [List.length_map];exact z
 refine ⟨.ref h'.objs.size,_,I1.laid (t':=tk) (o:=.tup (kvs.map λ kv=>kV kv.1)) (λ b ob e=>Heap.get?_push_of_some _ e) (Nat.le_refl _) ⟨hl,ac.toList,hv,?_⟩,rfl,q _ (I1.hok.fresh (Nat.le_refl _))⟩
 rw [Array.toArray_toList]
 exact IsTup.new _ _
def rMulC:R2:=λ x y H Q=>∃a n,x=.str (strL a)/\y=.int n/\0≤n/\n≤100/\a.length≤10/\Q (.str (strL (List.replicate n.toNat a).flatten)) H
theorem z9v (c:List Nat):∀(n:Nat) (a:List Nat),((List.replicate n (⟨c⟩:Array Nat)).foldl (·++·) ⟨a⟩)=⟨a++(List.replicate n c).flatten⟩
 | 0,a=>by simp
 | n+1,a=>by
  rw [List.replicate_succ,List.foldl_cons,List.append_toArray,z9v c n,List.replicate_succ,List.flatten_cons,List.append_assoc]
theorem z4h:OpR X (binaryOp .Mult) rMulC:=by
 intro pins s σ H x y v u Q I rx ry h
 obtain ⟨a,n,rfl,rfl,n0,n1,al,q⟩:=h
 obtain ⟨t,rfl⟩:=rx
 obtain ⟨t',rfl⟩:=ry
 have s20:1000000≤sizeLine:=by rw [sizeLine_eq];decide
 have z1:(strL a).length * n.toNat≤10 * 100:=Nat.mul_le_mul (by show a.toArray.size≤10;simpa using al) (by omega)
 have al:(strL a).length≤10:=by show a.toArray.size≤10;simpa using al
 have ql:∀b:Str,b=strL (List.replicate n.toNat a).flatten->Q (.str b) H:=λ b e=>by rw [e];exact q
 refine P.mul_str (by simp;omega) (λ c _=>?_) (λ _ _=>?_) ?_
 ·have:(2 ^ 63 - 1) / (100:Int)≤(2 ^ 63 - 1) / n:=by
   refine Int.le_ediv_of_mul_le (by omega) ?_
   have:(2 ^ 63 - 1) / (100:Int) * n≤(2 ^ 63 - 1) / (100:Int) * 100:=Int.mul_le_mul_of_nonneg_left n1 (by decide)
   exact Int.le_trans this (by decide)
  have b:(10:Int)≤(2 ^ 63 - 1) / 100:=by decide
  omega
 ·simp only [Builtin.Str.tooLong,decide_eq_false_iff_not];omega
 ·split
  ·refine ⟨Nat.le_trans (show (0:Nat)≤1000000 by decide) s20,.str _,H,I.tok _,⟨_,rfl⟩,ql _ ?_⟩
   have:n.toNat=0:=by omega
   rw [this];rfl
  ·split
   ·rename_i c1 c2
    refine ⟨.str _,H,I,⟨_,rfl⟩,ql _ ?_⟩
    simp only [Bool.or_eq_true,beq_iff_eq] at c2
    rcases c2 with e | e
    ·subst e;simp [strL]
    ·have:a=[]:=List.eq_nil_of_length_eq_zero (by have e:a.toArray.size=0:=e;simpa using e)
     subst this;simp
   ·have e:(⟨(List.replicate n.toNat (strL a).cps).foldl (·++·) #[]⟩:Str)=strL (List.replicate n.toNat a).flatten:=by
     unfold strL;congr 1;have:=z9v a n.toNat [];simpa using this
    have e2:(strL (List.replicate n.toNat a).flatten).length=(strL a).length * n.toNat:=by
     show (List.replicate n.toNat a).flatten.toArray.size=a.toArray.size * n.toNat
     simp [List.length_flatten,Nat.mul_comm]
    exact ⟨by show Str.length ⟨(List.replicate n.toNat (strL a).cps).foldl (·++·) #[]⟩≤sizeLine;rw [e,e2];omega,.str _,H,I.tok _,⟨_,rfl⟩,ql _ e⟩
theorem x2y {K:W.Frag}{o e:Expr}{es:List Expr}{to:TE}{t:TA}{name:Str}{apos cpos:Pos}{T id:String}{r:V->List V->Hp->VK->Prop}(hK:X.K=K) (pa:PlainAttrs T) (slot:Slot T name id) (hty:typeOf (.builtin id)=pure (.type "method_descriptor")) (hm:MtR X id r) (ho:PE X o to) (ha:PA X (e::es) t)
  (hbase:attributeBase o name X.env (eval o X.env)=eval o X.env:=by rfl)
  (hfew:((backTo cpos (starEach (e::es) X.env)).all (λ x=>!x.1) && (backToKw cpos (keywordEach [] X.env)).all (λ x=>x.1.isSome)
   && decide ((e::es).length+([]:List Keyword).length+(if ([]:List Keyword).isEmpty then 0 else 1) < 30))=true:=by rfl)
  (hline:(apos.endLine == cpos.line)=true:=by rfl) (hs:starEach (e::es) X.env=(false,eval e X.env)::starEach es X.env:=by rfl) (hplain:(backTo cpos (starEach es X.env)).any (·.1)=false:=by rfl) :
  PE X (.Call (.Attribute o name apos) (e::es) [] cpos) (tBM K T r to t):=by
 subst hK
 exact z2r pa slot hty hm ho ha hbase hfew hline hs hplain
end
def AlkV (H:Hp):Nat->V->V->Prop
 | 0,x,y=>flatV x=true/\x=y
 | d+1,x,y=>(flatV x=true/\x=y)\/∃(a b:Addr) (xs ys:List V),x=.ref a/\y=.ref b/\((H a=some (.lst xs)/\H b=some (.lst ys))\/(H a=some (.tup xs)/\H b=some (.tup ys)))/\xs.length=ys.length/\∀(i:Nat) z w,xs[i]?=some z->ys[i]?=some w->AlkV H d z w
theorem AlkV.same {H H':Hp}(s:Same H H'):∀ {d:Nat}{x y:V},AlkV H d x y->AlkV H' d x y
 | 0,_,_,h=>h
 | d+1,_,_,.inl h=>.inl h
 | d+1,_,_,.inr ⟨a,b,xs,ys,e1,e2,h,hl,q⟩=>.inr ⟨a,b,xs,ys,e1,e2,h.imp (λ z=>⟨s _ _ z.1,s _ _ z.2⟩) (λ z=>⟨s _ _ z.1,s _ _ z.2⟩),hl,λ i z w e1 e2=>(q i z w e1 e2).same s⟩
theorem AlkV.flat {H:Hp}{d:Nat}{x:V}(h:flatV x=true):AlkV H d x x:=by
 cases d with
 | zero=>exact ⟨h,rfl⟩
 | succ d=>exact .inl ⟨h,rfl⟩
theorem AlkV.lst {H:Hp}{d:Nat}{a b:Addr}{xs:List V}(h1:H a=some (.lst xs)) (h2:H b=some (.lst xs)) (f:xs.all flatV=true):AlkV H (d+1) (.ref a) (.ref b) :=
 .inr ⟨a,b,xs,xs,rfl,rfl,.inl ⟨h1,h2⟩,rfl,λ i z w e1 e2=>by
  rw [e1] at e2;cases e2
  exact .flat (List.all_eq_true.mp f _ (List.mem_of_getElem? e1))⟩
theorem AlkV.tup {H:Hp}{d:Nat}{a b:Addr}{xs:List V}(h1:H a=some (.tup xs)) (h2:H b=some (.tup xs)) (f:xs.all flatV=true):AlkV H (d+1) (.ref a) (.ref b) :=
 .inr ⟨a,b,xs,xs,rfl,rfl,.inr ⟨h1,h2⟩,rfl,λ i z w e1 e2=>by
  rw [e1] at e2;cases e2
  exact .flat (List.all_eq_true.mp f _ (List.mem_of_getElem? e1))⟩
section
variable {X:Cx}{pins:List (Addr × Obj)}{σ:St}{H:Hp}{s:Shared}
def rEqD:R2:=λ x y H Q=>(∃a,x=.ref a)/\AlkV H 9 x y/\Q (.bl true) H
def rNeD:R2:=λ x y H Q=>(∃a,x=.ref a)/\AlkV H 9 x y/\Q (.bl false) H
end
section
variable {X:Cx}
def iSeq (K:W.Frag) (tl:TE):TI:=λ σ H R=>tl σ H λ x H1=>(∃a,x=.ref a/\(∃xs,SqL K H1 a xs)/\R (Itl K a) H1)\/(∃a,x=.ref a/\(∃xs,SqT K H1 a xs)/\R (Itt K a) H1)
theorem x1o {K:W.Frag}{te:TE}{g:TG}{tb:TS}{D:Ends}{σ:St}{H:Hp}:tFor (iSeq K te) g tb D σ H=te σ H λ x H1=>LoopL K g tb D σ x H1\/LoopT K g tb D σ x H1:=rfl
theorem y9s {K:W.Frag}{k:Nat}{js:List Nat}{ti:TE}{g:TG}{te:TE}{σ:St}{H:Hp}{Q:VK}:tComp (iSeq K ti) k js g te σ H Q=ti σ H λ x H1=>CompL K k js g te σ x H1 Q\/CompT K k js g te σ x H1 Q:=rfl
end
def Itrl (K:W.Frag) (a:Addr) (n:Nat):It:=⟨λ i H=>∃xs,SqL K H a xs/\xs.length=n/\i < n,λ i H x H'=>H'=H/\∀xs,SqL K H a xs->xs[n - 1 - i]?=some x,λ i H=>∃xs,SqL K H a xs/\xs.length=n/\i=n⟩
section
variable {X:Cx}{tg:Expr}
def iRevL (K:W.Frag) (te:TE):TI:=λ σ H R=>te σ H λ x H1=>∃a xs,x=.ref a/\SqL K H1 a xs/\R (Itrl K a xs.length) H1
end
def LoopVL (K:PySem.W.Frag) (g:TG) (tb:TS) (D:Ends) (σ:St) (x:V) (H1:Hp):Prop:=∃a xs,x=.ref a/\SqL K H1 a xs/\∃W:Nat->Nat->St->Hp->Prop,(∃m,W 0 m σ H1)/\∀i m σ H,W i m σ H ->
 ((Itrl K a xs.length).stop i H/\D.nx σ H)\/((Itrl K a xs.length).go i H/\∃N:St->Hp->Prop,(∀σ' H',N σ' H'->∃m',m' < m/\W (i+1) m' σ' H')/\∀x H',(Itrl K a xs.length).yld i H x H'->g x σ H' λ σ2 H2=>tb { D with nx:=N,ct:=N,bk:=D.nx } σ2 H2)
theorem y9d {K:W.Frag}{te:TE}{g:TG}{tb:TS}{D:Ends}{σ:St}{H:Hp}:tFor (iRevL K te) g tb D σ H=te σ H λ x H1=>LoopVL K g tb D σ x H1:=rfl
theorem LoopVL.mk {K:W.Frag}{a:Addr}{xs:List V}{g:TG}{tb:TS}{D:Ends}{σ:St}{H:Hp}(hS:SqL K H a xs) (Pv:Nat->St->Hp->Prop) (h0:Pv 0 σ H) (hl:∀i σ H,i≤xs.length->Pv i σ H->SqL K H a xs)
  (hs:∀i x σ H,i < xs.length->xs[xs.length - 1 - i]?=some x->Pv i σ H->g x σ H λ σ2 H2=>tb { D with nx:=Pv (i+1),ct:=Pv (i+1),bk:=D.nx } σ2 H2) (hd:∀σ H,Pv xs.length σ H->D.nx σ H):LoopVL K g tb D σ (.ref a) H:=by
 refine ⟨a,xs,rfl,hS,λ i m σ H=>m=xs.length - i/\i≤xs.length/\Pv i σ H,⟨xs.length,by simp,Nat.zero_le _,h0⟩,?_⟩
 rintro i m σ H ⟨rfl,hi,p⟩
 have q:=hl i σ H hi p
 by_cases hlt:i < xs.length
 ·refine .inr ⟨⟨xs,q,rfl,hlt⟩,Pv (i+1),λ σ' H' p'=>⟨xs.length - (i+1),by omega,rfl,hlt,p'⟩,λ x H' y=>?_⟩
  obtain ⟨e,y⟩:=y
  subst e
  exact hs i x σ _ hlt (y xs q) p
 ·have e:i=xs.length:=by omega
  subst e
  exact .inl ⟨⟨xs,q,rfl,rfl⟩,hd σ H p⟩
end L2
namespace L2
open PySem PySem.Spec PyProof.Rows PySem.W PySem.Calls
section
variable {M:Model}{A:Around}{E:Value->Shared->Prop}{s₀ s:Shared}{m cm:Str->Option Value}{env:Env}{cs:List (Str × Addr)}
end
section
variable {M:Model}{A:Around}{E:Value->Shared->Prop}{s:Shared}
end
def CelO (c:Addr) (v:V):HO:=.ext λ h=>∃u,RelV v u/\h.IsCell c (some u)
def CodO (c:Addr) (qual:Str):HO:=.ext λ h=>h.CodeRec (.ref c) qual
def LamO (fa c':Addr) (qual:Str) (params:Arguments) (body:Expr) (scope:Scope) (cl:List (Str × Addr)):HO:=.ext λ h=>∃pm ctv,h.get? fa=some (kla_obj "<lambda>" qual params body scope cl pm c' ctv)
structure CelAt (H:Hp) (cl:List (Str × Addr)) (vcs:List V):Prop where
 len:cl.length=vcs.length
 at_:∀(i:Nat) q,cl[i]?=some q->∃v o,vcs[i]?=some v/\H q.2=some (.frz o (CelO q.2 v))
 apart:cl.Pairwise λ x y=>x.2≠y.2
theorem CelAt.mem {H:Hp}{cl:List (Str × Addr)}{vcs:List V}(h:CelAt H cl vcs) {q:Str × Addr}(hq:q∈cl):∃o v,H q.2=some (.frz o (CelO q.2 v)):=by
 obtain ⟨i,e⟩:=List.mem_iff_getElem?.mp hq
 obtain ⟨v,o,_,e2⟩:=h.at_ i q e
 exact ⟨o,v,e2⟩
theorem CelAt.same {H H':Hp}{cl:List (Str × Addr)}{vcs:List V}(h:CelAt H cl vcs) (s:∀a o,H a=some o->H' a=some o):CelAt H' cl vcs :=
 ⟨h.len,λ i q e=>let ⟨v,o,e1,e2⟩:=h.at_ i q e;⟨v,o,e1,s _ _ e2⟩,h.apart⟩
structure LmScope (N ps fv:List Str) (sc:Scope):Prop where
 kind:sc.kind=.function
 co:sc.isCoroutine=false
 gen:sc.isGenerator=false
 nd:N.Nodup
 pre:N.take (ps++fv).length=ps++fv
 par:∀x∈ps,sc.names.lookup x=some .local\/sc.names.lookup x=some .cell
 fre:∀x∈fv,sc.names.lookup x=some .free
 has:∀y∈sc.names,y.2=.free->y.1∈fv
 own:∀x∈fv,∀y∈sc.names,y.2=.cell->y.1≠x
def CallV (P:Program) (w:World) (K:W.Frag) (mg:Str->Option Value) (base:Heap) (k:Nat) (fa:Addr) (vs:List V) (H:Hp) (Q:VK):Prop :=
 ∀(A:Around) (outer:List Env) (s:Shared) (us:List Value),Room k A->Env0 P w K mg base A outer s H->Vals vs us->codeAny (model P w) A (.call (.ref fa) ⟨us,[]⟩) (CR CX0 outer P w H s Q λ _ _ _=>False) s
end L2
namespace L2
open PySem PySem.Spec PyProof.Rows PySem.W PySem.Calls
def FnV (H:Hp) (fa:Addr):Prop:=∃φ,H fa=some (.ext φ)/\∀h,φ h->FnAt fa h
theorem FnV.same {H H':Hp}{fa:Addr}(h:FnV H fa) (s:∀o,H fa=some o->H' fa=some o):FnV H' fa:=let ⟨φ,e,k⟩:=h;⟨φ,s _ e,k⟩
def tCalV (P:Program) (w:World) (K:W.Frag) (mg:Str->Option Value) (base:Heap) (k i:Nat) (t:TA):TE:=λ σ H Q=>∃fa,σ[i]?=some (some (.ref fa))/\FnV H fa/\t σ H λ vs H1=>FnV H1 fa/\CallV P w K mg base k fa vs H1 Q
section
variable {X:Cx}{k:Nat}{x:Str}{p pos:Pos}{e:Expr}{es:List Expr}{t:TA}
end
def OwnCl (ec:List (Str × Addr)) (fv:List Str) (cl:List (Str × Addr)):Prop:=cl.map (·.1)=fv/\∀q∈cl,ec.lookup q.1=some q.2
def TabOk (H:Hp) (T:Addr) (pos:Pos) (qual:Str):Prop:=∃ps,H T=some (.tbl ps)/\TriplesOk ps.toList/\(codeAmong pos ps.toList=none\/∃c',codeAmong pos ps.toList=some (.ref c')/\H c'=some (CodO c' qual))
theorem TabOk.same {H H':Hp}{T:Addr}{pos:Pos}{qual:Str}(h:TabOk H T pos qual) (s:∀a o,H a=some o->H' a=some o):TabOk H' T pos qual:=by
 obtain ⟨ps,e,t,z⟩:=h
 exact ⟨ps,s _ _ e,t,z.imp id λ ⟨c',a,b⟩=>⟨c',a,s _ _ b⟩⟩
structure TabF (base:Heap) (mg:Str->Option Value) (c T:Addr):Prop where
 hd:CodeHd base c T
 none_:base.get? T=none
 blt:∃bm o,mg "__builtins__" = some (.ref bm)/\bm≠builtinsNs/\bm≠mainGlobals/\bm≠T/\base.get? bm=some o/\o.cls=.type "module" /\ o.dict=some builtinsNs/\o.data=.plain
 ne:mainGlobals≠T
def tLam (ec:List (Str × Addr)) (fv:List Str) (T:Addr) (pos:Pos) (qual:Str) (params:Arguments) (body:Expr) (scope:Scope):TE:=λ _ H Q=>TabOk H T pos qual /\
 ∀fa c' cl H2,OwnCl ec fv cl->H fa=none->H2 fa=some (LamO fa c' qual params body scope cl)->H2 c'=some (CodO c' qual)->TabOk H2 T pos qual->(∀b o,b≠T->H b=some o->H2 b=some o)->Q (.ref fa) H2
section
variable {X:Cx}{params:Arguments}{body:Expr}{scope:Scope}{pos:Pos}{fv:List Str}{c T:Addr}{cl:List (Str × Addr)}
end
end L2
namespace L2
open PySem PySem.Spec PyProof.Rows PySem.W PySem.Calls
theorem CallV.mono {P:Program}{w:World}{K:W.Frag}{mg:Str->Option Value}{base:Heap}{j k:Nat}{fa:Addr}{vs:List V}{H:Hp}{Q:VK}(h:CallV P w K mg base j fa vs H Q) (l:j≤k):CallV P w K mg base k fa vs H Q :=
 λ A outer s us hr e0 r=>h A outer s us (hr.mono l) e0 r
def LoopE (K:PySem.W.Frag) (g:TG) (tb:TS) (D:Ends) (σ:St) (v:V) (H1:Hp):Prop:=∃a xs,v=.ref a/\SqT K H1 a xs/\∃W:Nat->Nat->St->Hp->Prop,(∃m,W 0 m σ H1)/\∀i m σ H,W i m σ H ->
 ((Ite K a).stop i H/\D.nx σ H)\/((Ite K a).go i H/\∃N:St->Hp->Prop,(∀σ' H',N σ' H'->∃m',m' < m/\W (i+1) m' σ' H')/\∀x H',(Ite K a).yld i H x H'->g x σ H' λ σ2 H2=>tb { D with nx:=N,ct:=N,bk:=D.nx } σ2 H2)
theorem x1q {K:W.Frag}{te:TE}{g:TG}{tb:TS}{D:Ends}{σ:St}{H:Hp}:tFor (iEnum K te) g tb D σ H=te σ H λ v H1=>LoopE K g tb D σ v H1:=rfl
theorem LoopE.mk {K:W.Frag}{a:Addr}{xs:List V}{g:TG}{tb:TS}{D:Ends}{σ:St}{H:Hp}(h1:SqT K H a xs) (Pv:Nat->St->Hp->Prop) (h0:Pv 0 σ H) (hl:∀i σ H,i≤xs.length->Pv i σ H->SqT K H a xs)
  (hs:∀i x σ H T,xs[i]?=some x->Pv i σ H->H T=none->g (.ref T) σ (upd H T (.tup [.int i,x])) λ σ2 H2=>tb { D with nx:=Pv (i+1),ct:=Pv (i+1),bk:=D.nx } σ2 H2) (hd:∀σ H,Pv xs.length σ H->D.nx σ H) :
  LoopE K g tb D σ (.ref a) H:=by
 refine ⟨a,xs,rfl,h1,λ i m σ H=>m=xs.length - i/\i≤xs.length/\Pv i σ H,⟨_,rfl,Nat.zero_le _,h0⟩,?_⟩
 rintro i m σ H ⟨rfl,hi,p⟩
 have k1:=hl i σ H hi p
 by_cases hlt:i < xs.length
 ·refine .inr ⟨⟨xs,_,k1,List.getElem?_eq_getElem hlt⟩,Pv (i+1),λ σ' H' p'=>⟨xs.length - (i+1),by omega,rfl,hlt,p'⟩,λ v H' yy=>?_⟩
  obtain ⟨T,x,rfl,hT,rfl,ex⟩:=yy
  exact hs i x σ H T (ex xs k1) p hT
 ·have e:i=xs.length:=by omega
  exact .inl ⟨⟨xs,k1,by omega⟩,hd σ H (e ▸ p)⟩
section
variable {X:Cx}
def rIndex (K:W.Frag):V->List V->Hp->VK->Prop:=λ x ys H Q=>∃a xs y j,x=.ref a/\ys=[y]/\SqL K H a xs/\xs.all flatV=true/\flatV y=true/\(∃z,xs[j]?=some z/\eqV z y=true)/\(∀m z,m < j->xs[m]?=some z->eqV z y=false)/\Q (.int (j:Nat)) H
end
section
variable {pg:Program}{wd:World}{B:Around}{X0:Value->Shared->Prop}{s0:Shared}
end
def ItzN (K:W.Frag) (a b:Addr):It:=⟨λ i H=>∃xs ys x y,SqT K H a xs/\SqL K H b ys/\xs[i]?=some x/\ys[i]?=some y,
 λ i H v H'=>∃T x y,v=.ref T/\H T=none/\H'=upd H T (.tup [x,y])/\∀xs ys,SqT K H a xs->SqL K H b ys->xs[i]?=some x/\ys[i]?=some y,λ i H=>∃xs ys,SqT K H a xs/\SqL K H b ys/\(xs.length≤i\/ys.length≤i)⟩
section
variable {X:Cx}{es:List Expr}{x1:Nat}{pp:Pos}
def iZipN (K:W.Frag) (ta:TA):TI:=λ σ H R=>ta σ H λ vs H1=>∃a b xs ys,vs=[.ref a,.ref b]/\SqT K H1 a xs/\SqL K H1 b ys/\R (ItzN K a b) H1
end
def LoopZN (K:PySem.W.Frag) (g:TG) (tb:TS) (D:Ends) (σ:St) (vs:List V) (H1:Hp):Prop:=∃a b xs ys,vs=[.ref a,.ref b]/\SqT K H1 a xs/\SqL K H1 b ys/\∃W:Nat->Nat->St->Hp->Prop,(∃m,W 0 m σ H1)/\∀i m σ H,W i m σ H ->
 ((ItzN K a b).stop i H/\D.nx σ H)\/((ItzN K a b).go i H/\∃N:St->Hp->Prop,(∀σ' H',N σ' H'->∃m',m' < m/\W (i+1) m' σ' H')/\∀x H',(ItzN K a b).yld i H x H'->g x σ H' λ σ2 H2=>tb { D with nx:=N,ct:=N,bk:=D.nx } σ2 H2)
theorem y9a {K:W.Frag}{ta:TA}{g:TG}{tb:TS}{D:Ends}{σ:St}{H:Hp}:tFor (iZipN K ta) g tb D σ H=ta σ H λ vs H1=>LoopZN K g tb D σ vs H1:=rfl
theorem LoopZN.mk {K:W.Frag}{a b:Addr}{xs ys:List V}{g:TG}{tb:TS}{D:Ends}{σ:St}{H:Hp}(n:Nat) (hn:n=min xs.length ys.length) (h1:SqT K H a xs) (h2:SqL K H b ys) (Pv:Nat->St->Hp->Prop) (h0:Pv 0 σ H) (hl:∀i σ H,i≤n->Pv i σ H->SqT K H a xs/\SqL K H b ys)
  (hs:∀i x y σ H T,i < n->xs[i]?=some x->ys[i]?=some y->Pv i σ H->H T=none->g (.ref T) σ (upd H T (.tup [x,y])) λ σ2 H2=>tb { D with nx:=Pv (i+1),ct:=Pv (i+1),bk:=D.nx } σ2 H2) (hd:∀σ H,Pv n σ H->D.nx σ H) :
  LoopZN K g tb D σ [.ref a,.ref b] H:=by
 subst hn
 refine ⟨a,b,xs,ys,rfl,h1,h2,λ i m σ H=>m=min xs.length ys.length - i/\i≤min xs.length ys.length/\Pv i σ H,⟨_,rfl,Nat.zero_le _,h0⟩,?_⟩
 rintro i m σ H ⟨rfl,hi,p⟩
 obtain ⟨k1,k2⟩:=hl i σ H hi p
 by_cases hlt:i < min xs.length ys.length
 ·have l1:i < xs.length:=by omega
  have l2:i < ys.length:=by omega
  refine .inr ⟨⟨xs,ys,_,_,k1,k2,List.getElem?_eq_getElem l1,List.getElem?_eq_getElem l2⟩,Pv (i+1),λ σ' H' p'=>⟨min xs.length ys.length - (i+1),by omega,rfl,hlt,p'⟩,λ v H' yy=>?_⟩
  obtain ⟨T,x,y,rfl,hT,rfl,ex⟩:=yy
  obtain ⟨ex1,ex2⟩:=ex xs ys k1 k2
  exact hs i x y σ H T hlt ex1 ex2 p hT
 ·have e:i=min xs.length ys.length:=by omega
  exact .inl ⟨⟨xs,ys,k1,k2,by omega⟩,hd σ H (e ▸ p)⟩
def CompZN (K:PySem.W.Frag) (k:Nat) (js:List Nat) (g:TG) (te:TE) (σ:St) (vs:List V) (H1:Hp) (Q:VK):Prop:=∃a b xs ys,vs=[.ref a,.ref b]/\SqT K H1 a xs/\SqL K H1 b ys/\∃W:Nat->Nat->List V->St->Hp->Prop,(∃m,W 0 m [] (compSt k js σ) H1)/\∀i m zs σ' H',W i m zs σ' H' ->
  ((ItzN K a b).stop i H'/\∀p,H' p=none->Q (.ref p) (upd H' p (.lst zs))) \/
  ((ItzN K a b).go i H'/\zs.length < sizeLine/\∃N:List V->St->Hp->Prop,(∀zs σ2 H2,N zs σ2 H2->∃m',m' < m/\W (i+1) m' zs σ2 H2)/\∀x H2,(ItzN K a b).yld i H' x H2->g x σ' H2 λ σ3 H3=>te σ3 H3 λ v H4=>N (zs++[v]) σ3 H4)
theorem y6d {K:W.Frag}{k:Nat}{js:List Nat}{ta:TA}{g:TG}{te:TE}{σ:St}{H:Hp}{Q:VK}:tComp (iZipN K ta) k js g te σ H Q=ta σ H λ vs H1=>CompZN K k js g te σ vs H1 Q:=rfl
theorem CompZN.mk {K:W.Frag}{a b:Addr}{xs ys:List V}{k:Nat}{js:List Nat}{g:TG}{te:TE}{Q:VK}{σ:St}{H:Hp}(n:Nat) (hn:n=min xs.length ys.length) (h1:SqT K H a xs) (h2:SqL K H b ys) (Pv:Nat->List V->St->Hp->Prop) (h0:Pv 0 [] (compSt k js σ) H) (hl:∀i zs σ H,i≤n->Pv i zs σ H->SqT K H a xs/\SqL K H b ys)
  (hs:∀i x y zs σ H T,i < n->xs[i]?=some x->ys[i]?=some y->Pv i zs σ H->H T=none->zs.length < sizeLine/\g (.ref T) σ (upd H T (.tup [x,y])) λ σ3 H3=>te σ3 H3 λ v H4=>Pv (i+1) (zs++[v]) σ3 H4) (hz:∀zs σ H,Pv n zs σ H->∀p,H p=none->Q (.ref p) (upd H p (.lst zs))) (hlen:∀i zs σ H,Pv i zs σ H->zs.length < sizeLine) :
  CompZN K k js g te σ [.ref a,.ref b] H Q:=by
 subst hn
 refine ⟨a,b,xs,ys,rfl,h1,h2,λ i m zs σ H=>m=min xs.length ys.length - i/\i≤min xs.length ys.length/\Pv i zs σ H,⟨_,rfl,Nat.zero_le _,h0⟩,?_⟩
 rintro i m zs σ H ⟨rfl,hi,p⟩
 obtain ⟨k1,k2⟩:=hl i zs σ H hi p
 by_cases hlt:i < min xs.length ys.length
 ·have l1:i < xs.length:=by omega
  have l2:i < ys.length:=by omega
  refine .inr ⟨⟨xs,ys,_,_,k1,k2,List.getElem?_eq_getElem l1,List.getElem?_eq_getElem l2⟩,hlen _ _ _ _ p,Pv (i+1),λ zs' σ' H' p'=>⟨min xs.length ys.length - (i+1),by omega,rfl,hlt,p'⟩,λ v H' yy=>?_⟩
  obtain ⟨T,x,y,rfl,hT,rfl,ex⟩:=yy
  obtain ⟨ex1,ex2⟩:=ex xs ys k1 k2
  exact (hs i x y zs σ H T hlt ex1 ex2 p hT).2
 ·have e:i=min xs.length ys.length:=by omega
  exact .inl ⟨⟨xs,ys,k1,k2,by omega⟩,hz zs σ H (e ▸ p)⟩
structure Apart6 (z ti ox j1 j2 j3 t1 t2 t3:Addr):Prop where
 ti_z:ti≠z
 ox_z:ox≠z
 j1_z:j1≠z
 j2_z:j2≠z
 j3_z:j3≠z
 ti_ox:ti≠ox
 ti_j1:ti≠j1
 ti_j2:ti≠j2
 ti_j3:ti≠j3
 ox_j1:ox≠j1
 ox_j2:ox≠j2
 ox_j3:ox≠j3
 j12:j1≠j2
 j13:j1≠j3
 j23:j2≠j3
 t1_z:t1≠z
 t2_z:t2≠z
 t2_ox:t2≠ox
 t2_j1:t2≠j1
 t3_z:t3≠z
 t3_ox:t3≠ox
 t3_j1:t3≠j1
 t3_j2:t3≠j2
section
variable {pg:Program}{wd:World}{B:Around}{X0:Value->Shared->Prop}{s0:Shared}
end
def Itz3 (K:W.Frag) (a b c:Addr):It:=⟨λ i H=>∃xs ys zs x y z,SqT K H a xs/\SqT K H b ys/\SqT K H c zs/\xs[i]?=some x/\ys[i]?=some y/\zs[i]?=some z,
 λ i H v H'=>∃T x y z,v=.ref T/\H T=none/\H'=upd H T (.tup [x,y,z])/\∀xs ys zs,SqT K H a xs->SqT K H b ys->SqT K H c zs->xs[i]?=some x/\ys[i]?=some y/\zs[i]?=some z,λ i H=>∃xs,SqT K H a xs/\xs.length≤i⟩
section
variable {X:Cx}{es:List Expr}{x1:Nat}{pp:Pos}
def iZip3 (K:W.Frag) (ta:TA):TI:=λ σ H R=>ta σ H λ vs H1=>∃a b c xs ys zs,vs=[.ref a,.ref b,.ref c]/\SqT K H1 a xs/\SqT K H1 b ys/\SqT K H1 c zs/\R (Itz3 K a b c) H1
end
def CompZ3 (K:PySem.W.Frag) (k:Nat) (js:List Nat) (g:TG) (te:TE) (σ:St) (vs:List V) (H1:Hp) (Q:VK):Prop:=∃a b c xs ys zs,vs=[.ref a,.ref b,.ref c]/\SqT K H1 a xs/\SqT K H1 b ys/\SqT K H1 c zs/\∃W:Nat->Nat->List V->St->Hp->Prop,(∃m,W 0 m [] (compSt k js σ) H1)/\∀i m zs σ' H',W i m zs σ' H' ->
  ((Itz3 K a b c).stop i H'/\∀p,H' p=none->Q (.ref p) (upd H' p (.lst zs))) \/
  ((Itz3 K a b c).go i H'/\zs.length < sizeLine/\∃N:List V->St->Hp->Prop,(∀zs σ2 H2,N zs σ2 H2->∃m',m' < m/\W (i+1) m' zs σ2 H2)/\∀x H2,(Itz3 K a b c).yld i H' x H2->g x σ' H2 λ σ3 H3=>te σ3 H3 λ v H4=>N (zs++[v]) σ3 H4)
theorem y6h {K:W.Frag}{k:Nat}{js:List Nat}{ta:TA}{g:TG}{te:TE}{σ:St}{H:Hp}{Q:VK}:tComp (iZip3 K ta) k js g te σ H Q=ta σ H λ vs H1=>CompZ3 K k js g te σ vs H1 Q:=rfl
theorem CompZ3.mk {K:W.Frag}{a b c:Addr}{xs ys zs:List V}{k:Nat}{js:List Nat}{g:TG}{te:TE}{Q:VK}{σ:St}{H:Hp}(n:Nat) (hn:n=xs.length) (hy:ys.length=n) (hz:zs.length=n) (h1:SqT K H a xs) (h2:SqT K H b ys) (h3:SqT K H c zs) (Pv:Nat->List V->St->Hp->Prop) (h0:Pv 0 [] (compSt k js σ) H) (hl:∀i us σ H,i≤n->Pv i us σ H->SqT K H a xs/\SqT K H b ys/\SqT K H c zs)
  (hs:∀i x y z us σ H T,i < n->xs[i]?=some x->ys[i]?=some y->zs[i]?=some z->Pv i us σ H->H T=none->g (.ref T) σ (upd H T (.tup [x,y,z])) λ σ3 H3=>te σ3 H3 λ v H4=>Pv (i+1) (us++[v]) σ3 H4) (hd:∀us σ H,Pv n us σ H->∀p,H p=none->Q (.ref p) (upd H p (.lst us))) (hlen:∀i us σ H,Pv i us σ H->us.length < sizeLine) :
  CompZ3 K k js g te σ [.ref a,.ref b,.ref c] H Q:=by
 subst hn
 refine ⟨a,b,c,xs,ys,zs,rfl,h1,h2,h3,λ i m us σ H=>m=xs.length - i/\i≤xs.length/\Pv i us σ H,⟨_,rfl,Nat.zero_le _,h0⟩,?_⟩
 rintro i m us σ H ⟨rfl,hi,p⟩
 obtain ⟨k1,k2,k3⟩:=hl i us σ H hi p
 by_cases hlt:i < xs.length
 ·refine .inr ⟨⟨xs,ys,zs,_,_,_,k1,k2,k3,List.getElem?_eq_getElem hlt,List.getElem?_eq_getElem (hy ▸ hlt),List.getElem?_eq_getElem (hz ▸ hlt)⟩,hlen _ _ _ _ p,Pv (i+1),λ us' σ' H' p'=>⟨xs.length - (i+1),by omega,rfl,hlt,p'⟩,λ v H' yy=>?_⟩
  obtain ⟨T,x,y,z,rfl,hT,rfl,ex⟩:=yy
  obtain ⟨ex1,ex2,ex3⟩:=ex xs ys zs k1 k2 k3
  exact hs i x y z us σ H T hlt ex1 ex2 ex3 p hT
 ·have e:i=xs.length:=by omega
  exact .inl ⟨⟨xs,k1,by omega⟩,hd us σ H (e ▸ p)⟩
def CompLI (K:PySem.W.Frag) (k:Nat) (js:List Nat) (g:TG) (tc:TT) (te:TE) (σ:St) (v:V) (H1:Hp) (Q:VK):Prop:=∃a,v=.ref a/\(∃xs,SqL K H1 a xs)/\∃W:Nat->Nat->List V->St->Hp->Prop,(∃m,W 0 m [] (compSt k js σ) H1)/\∀i m zs σ' H',W i m zs σ' H' ->
  ((Itl K a).stop i H'/\∀p,H' p=none->Q (.ref p) (upd H' p (.lst zs))) \/
  ((Itl K a).go i H'/\zs.length < sizeLine/\∃N:List V->St->Hp->Prop,(∀zs σ2 H2,N zs σ2 H2->∃m',m' < m/\W (i+1) m' zs σ2 H2)/\∀x H2,(Itl K a).yld i H' x H2->g x σ' H2 λ σ3 H3=>tc σ3 H3 λ b H4=>if b=true then te σ3 H4 λ v H5=>N (zs++[v]) σ3 H5 else N zs σ3 H4)
theorem y6m {K:W.Frag}{k:Nat}{js:List Nat}{tx:TE}{g:TG}{tc:TT}{te:TE}{σ:St}{H:Hp}{Q:VK}:tCompI (iList K tx) k js g tc te σ H Q=tx σ H λ v H1=>CompLI K k js g tc te σ v H1 Q:=rfl
theorem CompLI.mk {K:W.Frag}{a:Addr}{xs:List V}{k:Nat}{js:List Nat}{g:TG}{tc:TT}{te:TE}{Q:VK}{σ:St}{H:Hp}(h1:SqL K H a xs) (Pv:Nat->List V->St->Hp->Prop) (h0:Pv 0 [] (compSt k js σ) H) (hl:∀i zs σ H,i≤xs.length->Pv i zs σ H->SqL K H a xs/\zs.length < sizeLine)
  (hs:∀i x zs σ H,xs[i]?=some x->Pv i zs σ H->g x σ H λ σ3 H3=>tc σ3 H3 λ b H4=>if b=true then te σ3 H4 λ v H5=>Pv (i+1) (zs++[v]) σ3 H5 else Pv (i+1) zs σ3 H4) (hz:∀zs σ H,Pv xs.length zs σ H->∀p,H p=none->Q (.ref p) (upd H p (.lst zs))) :
  CompLI K k js g tc te σ (.ref a) H Q:=by
 refine ⟨a,rfl,⟨xs,h1⟩,λ i m zs σ H=>m=xs.length - i/\i≤xs.length/\Pv i zs σ H,⟨_,rfl,Nat.zero_le _,h0⟩,?_⟩
 rintro i m zs σ H ⟨rfl,hi,p⟩
 obtain ⟨k1,k2⟩:=hl i zs σ H hi p
 by_cases hlt:i < xs.length
 ·refine .inr ⟨⟨xs,_,k1,List.getElem?_eq_getElem hlt⟩,k2,Pv (i+1),λ zs' σ' H' p'=>⟨xs.length - (i+1),by omega,rfl,hlt,p'⟩,λ v H' yy=>?_⟩
  obtain ⟨rfl,ex⟩:=yy
  exact hs i v zs σ _ (ex xs k1) p
 ·have e:i=xs.length:=by omega
  exact .inl ⟨⟨xs,k1,by omega⟩,hz zs σ H (e ▸ p)⟩
def CompRI (lo:Int) (n k:Nat) (js:List Nat) (g:TG) (tc:TT) (te:TE) (σ:St) (H1:Hp) (Q:VK):Prop:=∃W:Nat->Nat->List V->St->Hp->Prop,(∃m,W 0 m [] (compSt k js σ) H1)/\∀i m zs σ' H',W i m zs σ' H' ->
  ((Itr lo n).stop i H'/\∀p,H' p=none->Q (.ref p) (upd H' p (.lst zs))) \/
  ((Itr lo n).go i H'/\zs.length < sizeLine/\∃N:List V->St->Hp->Prop,(∀zs σ2 H2,N zs σ2 H2->∃m',m' < m/\W (i+1) m' zs σ2 H2)/\∀x H2,(Itr lo n).yld i H' x H2->g x σ' H2 λ σ3 H3=>tc σ3 H3 λ b H4=>if b=true then te σ3 H4 λ v H5=>N (zs++[v]) σ3 H5 else N zs σ3 H4)
theorem y6j {k:Nat}{js:List Nat}{ta:TA}{g:TG}{tc:TT}{te:TE}{σ:St}{H:Hp}{Q:VK}:tCompI (iRng1 ta) k js g tc te σ H Q=ta σ H λ vs H1=>∃j:Int,vs=[.int j]/\-(2 ^ 62)≤j/\j < 2 ^ 62/\CompRI 0 j.toNat k js g tc te σ H1 Q:=rfl
theorem CompRI.mk {lo:Int}{n k:Nat}{js:List Nat}{g:TG}{tc:TT}{te:TE}{Q:VK}{σ:St}{H:Hp}(Pv:Nat->List V->St->Hp->Prop) (h0:Pv 0 [] (compSt k js σ) H) (hl:∀i zs σ H,i≤n->Pv i zs σ H->zs.length < sizeLine)
  (hs:∀i zs σ H,i < n->Pv i zs σ H->g (.int (lo+i)) σ H λ σ3 H3=>tc σ3 H3 λ b H4=>if b=true then te σ3 H4 λ v H5=>Pv (i+1) (zs++[v]) σ3 H5 else Pv (i+1) zs σ3 H4) (hz:∀zs σ H,Pv n zs σ H->∀p,H p=none->Q (.ref p) (upd H p (.lst zs))) :
  CompRI lo n k js g tc te σ H Q:=by
 refine ⟨λ i m zs σ H=>m=n - i/\i≤n/\Pv i zs σ H,⟨_,rfl,Nat.zero_le _,h0⟩,?_⟩
 rintro i m zs σ H ⟨rfl,hi,p⟩
 by_cases hlt:i < n
 ·refine .inr ⟨hlt,hl i zs σ H hi p,Pv (i+1),λ zs' σ' H' p'=>⟨n - (i+1),by omega,rfl,hlt,p'⟩,λ v H' yy=>?_⟩
  obtain ⟨rfl,rfl⟩:=yy
  exact hs i zs σ _ hlt p
 ·have e:i=n:=by omega
  exact .inl ⟨show n≤i by omega,hz zs σ H (e ▸ p)⟩
theorem y5v (f:Array Value->Array Value) (o:Obj):(Obj.mapFields f o).dict=o.dict:=by
 unfold Obj.mapFields
 split<;>rfl
def ExcAt (B h:Heap) (e:Addr) (cls:Value) (dx:Addr) (hd:Value):Prop :=
 ∃oe vs,h.get? e=some oe/\(oe.cls=cls/\oe.dict=some dx)/\oe.data=.fields vs/\vs[1]?=some hd
def TrAt (B h:Heap) (e:Addr) (hd fl:Value):Prop:=∃T oT ts,hd=.ref T/\B.get? T=none/\T≠e/\h.get? T=some oT/\oT.data=.fields ts/\ts[3]?=some fl
def FlyD (B:Heap) (l:List Env) (e:Addr) (cls:Value) (dx:Addr) (fl:Value) (h:Heap):Prop :=
 B.StaysIn h/\B.get? e=none/\h.FunFrames B l/\∃hd,ExcAt B h e cls dx hd/\TrAt B h e hd fl
def FlyD0 (B:Heap) (l:List Env) (e:Addr) (cls:Value) (dx:Addr) (h:Heap):Prop :=
 B.StaysIn h/\B.get? e=none/\h.FunFrames B l/\ExcAt B h e cls dx .none
theorem FlyD.first {B h:Heap}{l:List Env}{e dx:Addr}{cls fl:Value}(x:FlyD B l e cls dx fl h):∃oe vs,h.get? e=some oe/\oe.cls=cls/\oe.data=.fields vs/\oe.dict=some dx :=
 let ⟨_,_,_,_,⟨oe,vs,he,hc,hd,_⟩,_⟩:=x;⟨oe,vs,he,hc.1,hd,hc.2⟩
section
variable {M:Model}{A:Around}{E:Value->Shared->Prop}{s:Shared}{B:Heap}{env:Env}{outer:List Env}{L e dx:Addr}{cls:Value}
theorem x0h {hd:Value}{nx:Bool}{Q:Unit->Shared->Prop}(hfr:A.frames=some (env::outer)) (hf:env.frame=some L) (kb:B.StaysIn s.heap) (nb:B.get? e=none) (fl:s.heap.FunFrames B (env::outer)) (x:ExcAt B s.heap e cls dx hd)
  (q:∀h2,FlyD B (env::outer) e cls dx (rawInt L) h2->s.heap.UpToSlots h2->Q () { s with heap:=h2 }) :
  wpAny M A (do let fo ← frameOf env;let pl ← entryPlaceOf L nx;let tb ← EntryCells.newEntry hd fo .none (rawInt L) .none pl;setField (.ref e) 1 tb) Q E s:=by
 obtain ⟨oe,vs,he,hc,hdt,h1⟩:=x
 have z1:1 < vs.size:=(Array.getElem?_eq_some_iff.mp h1).1
 have nfr:e ∉ (env::outer).filterMap (·.frame):=λ m=>by
  obtain ⟨_,o3,e3,nf3⟩:=fl.mem m
  rw [he] at e3;cases e3
  exact nf3 vs hdt
 refine wpAny_bind (wpAny_frameOf_fun hfr fl hf λ g1 u1=>wpAny_bind (wpAny_entryPlaceOf λ pl ipl=>?_))
 unfold EntryCells.newEntry newFields
 refine wpAny_bind (wpAny_newObj_type ?_ (ipl.sizeOk5 _ _ _ _ _))
 generalize hTO:({ cls:=.type "traceback",dict:=none,data:=.fields ([hd,.ref L,.none,rawInt L,.none]++(if pl.isEmpty then List.replicate 6 Value.none else pl)).toArray }:Obj)=TO
 have e1:g1.get? e=some oe:=(u1.2.1 e nfr).trans he
 have kb1:B.StaysIn g1:=λ b o hb=>(u1.2.1 b λ m=>by rw [(fl.mem m).1] at hb;cases hb).trans (kb b o hb)
 have e2:(g1.push TO).get? e=some oe:=Heap.get?_push_of_some TO e1
 have ne:g1.objs.size≠e:=Nat.ne_of_gt (Heap.lt_size e1)
 have d3:=Obj.data_mapFields hdt (λ a:Array Value=>a.setIfInBounds 1 (Value.ref g1.objs.size))
 have e3:=Heap.get?_update_self (Obj.mapFields (λ a:Array Value=>a.setIfInBounds 1 (Value.ref g1.objs.size))) e2 (Obj.isFreed_of_fields d3)
 have oth:∀b o,b≠e->g1.get? b=some o->((g1.push TO).update e (Obj.mapFields (λ a:Array Value=>a.setIfInBounds 1 (Value.ref g1.objs.size)))).get? b=some o:=λ b o nbe hb=>by
  rw [Heap.get?_update_other _ _ (Ne.symm nbe)]
  exact Heap.get?_push_of_some TO hb
 have norec:∀b o,s.heap.get? b=some o->(∀ws,o.data≠.fields ws)->b≠e:=λ b o hb nf z=>by
  rw [z,he] at hb;cases hb
  exact nf vs hdt
 refine wpAny_setField e2 hdt z1 (q _ ?_ ?_)
 ·refine ⟨λ b o hb=>oth b o (λ z=>by rw [z,nb] at hb;cases hb) (kb1 b o hb),nb,fl.of_keeps λ b o hb nf=>?_,.ref g1.objs.size,?_,?_⟩
  ·obtain ⟨sl,hs⟩:=u1.2.2 b o hb
   exact ⟨_,oth b _ (norec b o hb nf) hs,rfl⟩
  ·exact ⟨_,_,e3,⟨(Obj.cls_mapFields _ _).trans hc.1,(y5v _ _).trans hc.2⟩,d3,by simp [z1]⟩
  ·subst hTO
   refine ⟨g1.objs.size,_,_,rfl,kb1.fresh,ne,(Heap.get?_update_other _ _ (Ne.symm ne)).trans (Heap.get?_push_size g1 rfl),rfl,?_⟩
   first | (simp;done) | (rcases ipl with rfl | ⟨_,_,_,_,_,_,_,rfl⟩<;>simp)
 ·intro b o hb nf
  obtain ⟨sl,hs⟩:=u1.2.2 b o hb
  exact ⟨sl,oth b _ (norec b o hb nf) hs⟩
theorem x4u {Q:Unit->Shared->Prop}(hfr:A.frames=some (env::outer)) (hf:env.frame=some L) (x:FlyD0 B (env::outer) e cls dx s.heap)
  (q:∀h2,FlyD B (env::outer) e cls dx (rawInt L) h2->s.heap.UpToSlots h2->Q () { s with heap:=h2 }):wpAny M A (noteFrame (.ref e) env) Q E s:=by
 obtain ⟨kb,nb,fl,oe,vs,he,hc,hdt,h1⟩:=x
 unfold noteFrame
 simp only [hf]
 refine wpAny_bind (wpAny_field he hdt h1 ?_)
 rw [if_neg (by decide)]
 exact x0h hfr hf kb nb fl ⟨oe,vs,he,hc,hdt,h1⟩ q
theorem x4t {Q:Unit->Shared->Prop}(hfr:A.frames=some (env::outer)) (hf:env.frame=some L) (x:FlyD B (env::outer) e cls dx .none s.heap)
  (q:∀h2,FlyD B (env::outer) e cls dx (rawInt L) h2->s.heap.UpToSlots h2->Q () { s with heap:=h2 }):wpAny M A (noteFrame (.ref e) env) Q E s:=by
 obtain ⟨kb,nb,fl,hd,⟨oe,vs,he,hc,hdt,h1⟩,T,oT,ts,rfl,nT,Te,hT,dT,h3⟩:=x
 unfold noteFrame
 simp only [hf]
 refine wpAny_bind (wpAny_field he hdt h1 ?_)
 rw [if_pos (by simp:(Value.ref T != Value.none)=true)]
 refine wpAny_bind (wpAny_field hT dT h3 ?_)
 rw [if_neg (by simp [rawInt]:¬((Value.none == rawInt L)=true))]
 refine wpAny_bind (wpAny_setField hT dT (Array.getElem?_eq_some_iff.mp h3).1 ?_)
 have oth:∀b,b≠T->(s.heap.update T (Obj.mapFields (λ a:Array Value=>a.setIfInBounds 3 Value.none))).get? b=s.heap.get? b:=λ b z=>Heap.get?_update_other _ _ (Ne.symm z)
 have norec:∀b o,s.heap.get? b=some o->(∀ws,o.data≠.fields ws)->b≠T:=λ b o hb nf z=>by
  rw [z,hT] at hb;cases hb
  exact nf ts dT
 refine x0h hfr hf (λ b o hb=>(oth b λ z=>by rw [z,nT] at hb;cases hb).trans (kb b o hb)) nb (fl.of_keeps λ b o hb nf=>⟨o,(oth b (norec b o hb nf)).trans hb,rfl⟩) ⟨oe,vs,(oth e (Ne.symm Te)).trans he,hc,hdt,h1⟩ λ h2 f2 u2=>q h2 f2 λ b o hb nf=>?_
 exact u2 b o ((oth b (norec b o hb nf)).trans hb) nf
theorem x1s {l:List Env}{fl:Value}{Q:Unit->Shared->Prop}(x:FlyD B l e cls dx fl s.heap)
  (q:∀h2,FlyD B l e cls dx .none h2->s.heap.UpToSlots h2->Q () { s with heap:=h2 }):wpAny M A (setFlight (.ref e) none) Q E s:=by
 obtain ⟨kb,nb,ff,hd,⟨oe,vs,he,hc,hdt,h1⟩,T,oT,ts,rfl,nT,Te,hT,dT,h3⟩:=x
 have z3:3 < ts.size:=(Array.getElem?_eq_some_iff.mp h3).1
 have oth:∀b,b≠T->(s.heap.update T (Obj.mapFields (λ a:Array Value=>a.setIfInBounds 3 ((none:Option Addr).elim Value.none λ f=>rawInt f)))).get? b=s.heap.get? b:=λ b z=>Heap.get?_update_other _ _ (Ne.symm z)
 have norec:∀b o,s.heap.get? b=some o->(∀ws,o.data≠.fields ws)->b≠T:=λ b o hb nf z=>by
  rw [z,hT] at hb;cases hb
  exact nf ts dT
 unfold setFlight
 refine wpAny_bind (wpAny_field he hdt h1 ?_)
 rw [if_pos (by simp:(Value.ref T != Value.none)=true)]
 refine wpAny_setField hT dT z3 (q _ ⟨λ b o hb=>(oth b λ z=>by rw [z,nT] at hb;cases hb).trans (kb b o hb),nb,ff.of_keeps λ b o hb nf=>⟨o,(oth b (norec b o hb nf)).trans hb,rfl⟩,.ref T,⟨oe,vs,(oth e (Ne.symm Te)).trans he,hc,hdt,h1⟩,T,_,_,rfl,nT,Te,Heap.get?_update_self _ hT (Obj.isFreed_of_fields (Obj.data_mapFields dT _)),Obj.data_mapFields dT _,by simp [z3]⟩ λ b o hb nf=>⟨o.slots,(oth b (norec b o hb nf)).trans hb⟩)
theorem FlyD.pop {fl:Value}{h:Heap}(x:FlyD B (env::outer) e cls dx fl h):FlyD B outer e cls dx fl h:=let ⟨a,b,⟨_,_,c⟩,d⟩:=x;⟨a,b,c,d⟩
theorem x3j {Q:Unit->Shared->Prop}(hfr:A.frames=some (env::outer)) (hf:env.frame=some L) (x:FlyD0 B (env::outer) e cls dx s.heap)
  (q:∀h2,FlyD B outer e cls dx .none h2->s.heap.UpToSlots h2->Q () { s with heap:=h2 }):wpAny M A (leaving env (.ref e)) Q E s:=by
 unfold leaving
 refine wpAny_bind (x4u hfr hf x λ h1 f1 u1=>?_)
 exact x1s (s:={ s with heap:=h1 }) f1 λ h2 f2 u2=>q h2 f2.pop (u1.trans u2)
end
end L2
namespace L2
open PySem PySem.Spec PyProof.Rows Builtin Builtin.ObjectAttr
def clsX (K:W.Frag) (C:Addr) (bmB:List Value) (nid:String):Bool:=match K.lookup C with
 | some ⟨.type "type",_,.cls cd,kk⟩=>cd.hasDict && (match cd.mro,kk.toList with | .ref C2::tl,[_,_,_,_,some (.builtin n2),_]=>C2 == C && (n2 == nid && (!cd.hasDel && W.tailIn K bmB tl)) | _,_=>false)
 | _=>false
structure HasX (h:Heap) (C:Addr) (bmB:List Value) (nid:String):Prop where
 ex:∃(nm q:Str) (N:Addr) (bs bm:List Value) (sn:List Str) (sub:List Value) (ab:Bool) (col:Option Bool) (dd:Option Addr) (k0 k1 k2 k3 k5:Option Value),
  h.get? C=some (excClassObj nm q C N bs bm true sn sub ab col dd k0 k1 k2 k3 k5 nid)/\OwnTail h bmB bm
theorem x4n {K:W.Frag}{h:Heap}{C:Addr}{bmB:List Value}{nid:String}(KI:K.In h) (q:clsX K C bmB nid=true):HasX h C bmB nid:=by
 unfold clsX at q
 split at q
 ·rename_i ddx cdx slx hlk
  rw [Bool.and_eq_true] at q
  obtain ⟨hdict,q⟩:=q
  split at q
  ·rename_i C2 bm2 f0 f1 f2 f3 nn f5 hmro hsl0
   simp only [Bool.and_eq_true,beq_iff_eq,Bool.not_eq_true'] at q
   obtain ⟨eC,eN,hdl,htl⟩:=q
   subst eC eN
   obtain ⟨c1,c2,c3,c4,c5,c6,c7,c8,c9,c10,c11⟩:=cdx
   dsimp only at hmro hdl hdict
   subst hmro hdl hdict
   have hsl1:slx=#[f0,f1,f2,f3,some (.builtin nn),f5]:=by
    obtain ⟨lst⟩:=slx
    simp only at hsl0
    rw [hsl0]
   subst hsl1
   exact ⟨⟨_,_,_,_,_,_,_,_,_,_,_,_,_,_,_,KI _ _ hlk,W.tail_of_in KI htl⟩⟩
  ·cases q
 ·cases q
abbrev excRec (C t:Addr) (d:Option Addr):Obj:={ cls:=.ref C,dict:=d,data:=.fields #[.ref t,.none,.none,.none,.bool false,.none] }
def ExcM (a C:Addr) (d:Option Addr):HO:=.ext λ h=>∃t,h.get? a=some (excRec C t d)
theorem z9h {P:Program}{w:World}{H:Hp}{h:Heap}{a C t:Addr}{d:Option Addr}(e:h.get? a=some (excRec C t d)):ObjOk P w H h a (ExcM a C d):=⟨⟨t,e⟩,⟨_,e⟩,λ _ _ ⟨t2,q⟩ k=>⟨t2,k _ q⟩⟩
def ExcF (d:Addr) (fs:List (Str × V)):HO:=.ext λ h=>fs.length≤1000/\∃mA,h.Ns1 d mA/\(∀f,RelO (fs.lookup f) (mA f))/\PySem.Within mA (fs.map (·.1))
theorem x1t {P:Program}{w:World}{H:Hp}{h:Heap}{d:Addr}{fs:List (Str × V)}{mA:Str->Option Value}(z:fs.length≤1000) (e:h.Ns1 d mA) (r:∀f,RelO (fs.lookup f) (mA f)) (wi:PySem.Within mA (fs.map (·.1))):ObjOk P w H h d (ExcF d fs) :=
 ⟨⟨z,mA,e,r,wi⟩,let ⟨o,_,_,q,_⟩:=e;⟨o,q⟩,λ _ _ ⟨z2,m2,n2,r2,w2⟩ k=>⟨z2,m2,let ⟨o,es,ep,q,c⟩:=n2;⟨o,es,ep,k o q,c⟩,r2,w2⟩⟩
section
variable {prog:Program}{w:World}{A:Around}{E:Value->Shared->Prop}{h:Heap}{g:Array GenState}{dr:Drawn}{tk:Nat}{os:OsState}{C:Addr}{bmB:List Value}{B nid initId:String}
theorem y6u {K:W.Frag}{us:List Value}{fI:Addr}{Q:Value->Shared->Prop}(F:ExcBaseFacts B nid initId bmB) (KI:K.In h) (X:HasX h C bmB nid) (hi:W.findIn K (.ref C) "__init__" = some (some (.ref fI))) (hf:W.typeIn K (.ref fI)=some (.type "function"))
  (hq:wpAny (model prog w) (A.under (.builtin "type.__call__" ⟨.ref C::us,[]⟩)) (call (.ref fI) (.ref (h.objs.size+1)::us)) (λ r s2=>r=.none/\Q (.ref (h.objs.size+1)) s2) E ⟨(h.push { cls:=.type "tuple",data:=.seq us.toArray }).push (excRec C h.objs.size none),g,dr,tk,os⟩)
  (hz:us.length≤sizeLine):wpAny (model prog w) A (call (.ref C) us) Q E ⟨h,g,dr,tk,os⟩:=by
 obtain ⟨nm,q,N,bs,bm,sn,sub,ab,col,dd,k0,k1,k2,k3,k5,hC,T⟩:=X.ex
 have tcl:=tc_lookup
 have tcb:=tc_bind (.ref C)
 have isT:(⟨h,g,dr,tk,os⟩:Shared).TypeIs (.ref C) "type" := ⟨_,hC,rfl⟩
 refine wpAny_call (codeAny_of_tree ?_)
 show wpAny _ _ (callAny (.ref C) _) _ _ _
 repeat (any_goals (first | assumption | wp_step | with_reducible refine wpAny_loadPart_at hC ?_))
 refine And.intro rfl (codeAny_call_builtin_at (Code.quiet_builtin _ (by decide +kernel)) entry_typeCall (wpAny_check_type_call_sub hC ?_))
 repeat (first | wp_step | with_reducible refine wpAny_madeBy_exc hC ?_ | with_reducible refine wpAny_loadPart_at hC ?_)
 refine codeAny_call_builtin_code (Code.quiet_builtin _ F.quiet) (wpAny_check_new_subT F T hC (codeAny_exc_new_subT F T hC ?_ hz))
 show wpAny _ _ _ _ _ (⟨(h.push { cls:=.type "tuple",data:=.seq us.toArray }).push (excRec C h.objs.size none),g,dr,tk,os⟩:Shared)
 generalize hh2:(h.push { cls:=.type "tuple",data:=.seq us.toArray }).push (excRec C h.objs.size none)=h2 at hq ⊢
 have kk:∀b o,h.get? b=some o->h2.get? b=some o:=λ b o e=>by rw [← hh2];exact Heap.get?_push_of_some _ (Heap.get?_push_of_some _ e)
 have hg2:h2.get? (h.objs.size+1)=some (excRec C h.objs.size none):=by rw [← hh2];heap_get
 have hC2:=kk _ _ hC
 have cc:(Value.ref C::bm).contains (.ref C)=true:=by simp
 unfold isInstance
 repeat (first | wp_step | with_reducible refine wpAny_loadPart_at hg2 ?_ | (with_reducible refine wpAny_isSubtype_exc hC2 ?_;rw [cc]))
 refine (W.looks_findIn (KI.keeps kk) hi).at ?_
 refine wpAny_holding (wpAny_bind ((W.bind_fn (KI.keeps kk) _ hf).at (wpAny_bind (wpAny_mono hq (λ r s2 hr=>?_) λ _ _ z=>z))))
 obtain ⟨rfl,z⟩:=hr
 wp_walk
 exact z
end
end L2
namespace L2
open PySem PySem.Spec PyProof.Rows Builtin Builtin.ObjectAttr
section
variable {prog:Program}{w:World}{A:Around}{E:Value->Shared->Prop}{h:Heap}{g:Array GenState}{dr:Drawn}{tk:Nat}{os:OsState}{C x:Addr}{bmB:List Value}{B nid initId:String}{K:W.Frag}
theorem y2a {us:List Value}{t:Addr}{d:Option Addr}{Q:Value->Shared->Prop}(F:ExcBaseFacts B nid initId bmB) (X:HasX h C bmB nid) (hx:h.get? x=some (excRec C t d)) (hz:us.length≤sizeLine)
  (hq:∀h2:Heap,h2.get? x=some (excRec C h.objs.size d)->(∀b o,b≠x->h.get? b=some o->h2.get? b=some o)->Q .none ⟨h2,g,dr,tk,os⟩) :
  wpAny (model prog w) A (call (.builtin initId) (.ref x::us)) Q E ⟨h,g,dr,tk,os⟩:=by
 obtain ⟨nm,q,N,bs,bm,sn,sub,ab,col,dd,k0,k1,k2,k3,k5,hC,T⟩:=X.ex
 refine wpAny_call (codeAny_call_builtin F.init.plain F.initEntry (wpAny_check_init_subT F T hC hx rfl ?_))
 wp_walk
 refine hq _ ?_ λ b o ne e=>?_
 ·rw [Heap.get?_update_self _ (Heap.get?_push_of_some _ hx) rfl]
  rfl
 ·rw [Heap.get?_update_other _ _ (Ne.symm ne)]
  exact Heap.get?_push_of_some _ e
def overX:List Value->Bool
 | .ref _::r=>overX r
 | l=>l == [.type "ValueError",.type "Exception",.type "BaseException",.type "object"]
theorem z4n (self:Value):∀ {l:List Value},overX l=true->refuseLoop self "__setattr__" l=pure ()
 | [],e=>by cases e
 | .ref c::r,e=>by rw [refuseLoop_ref];exact z4n self e
 | .type n::r,e=>by rw [beq_iff_eq.mp (show (Value.type n::r == _)=true from e)];exact PySem.F.store_ValueError.passes self
 | .int _ _::r,e | .bool _::r,e | .none::r,e | .str _ _::r,e | .builtin _::r,e | .float _ _::r,e | .bytes _ _::r,e=>by cases e
theorem z7j:∀ {l:List Value},overX l=true->l.contains (.type "object")=true
 | [],e=>by cases e
 | .ref c::r,e=>by rw [List.contains_cons,z7j (l:=r) e,Bool.or_true]
 | .type n::r,e=>by rw [beq_iff_eq.mp (show (Value.type n::r == _)=true from e)];decide +kernel
 | .int _ _::r,e | .bool _::r,e | .none::r,e | .str _ _::r,e | .builtin _::r,e | .float _ _::r,e | .bytes _ _::r,e=>by cases e
theorem z5w:∀ {l:List Value},overX l=true->l.contains (.type "BaseException")=true
 | [],e=>by cases e
 | .ref c::r,e=>by rw [List.contains_cons,z5w (l:=r) e,Bool.or_true]
 | .type n::r,e=>by rw [beq_iff_eq.mp (show (Value.type n::r == _)=true from e)];decide +kernel
 | .int _ _::r,e | .bool _::r,e | .none::r,e | .str _ _::r,e | .builtin _::r,e | .float _ _::r,e | .bytes _ _::r,e=>by cases e
structure AtX (K:W.Frag) (C:Addr):Prop where
 over:(W.clsIn K C).any (λ cd=>cd.hasDict && overX cd.mro)=true
 sa:W.findIn K (.ref C) "__setattr__" = some (some (.builtin "object.__setattr__"))
 ga:W.findIn K (.ref C) "__getattribute__" = some (some (.builtin "BaseException.__getattribute__"))
theorem AtX.cls (a:AtX K C):∃cd,W.clsIn K C=some cd/\cd.hasDict=true/\overX cd.mro=true:=by
 obtain ⟨cd,hc,q⟩:=W.any_some a.over
 rw [Bool.and_eq_true] at q
 exact ⟨cd,hc,q.1,q.2⟩
theorem x3w {o:Obj}{vs:Array Value}(hx:h.get? x=some o) (hc:o.cls=.ref C) (hd:o.data=.fields vs) (od:Option Obj) (hod:match o.dict,od with | some dx,some ob=>h.get? dx=some ob | none,none=>True | _,_=>False):W.InstAt h x o C od :=
 ⟨hx,hc,by unfold W.notCls;rw [hd],hod⟩
theorem x5h {s:Shared}{ox:Obj}{od:Option Obj}{name:Str}{tn:Tok}{v:Value}{R:Result->Shared->Prop}(KI:K.In s.heap) (I:W.InstAt s.heap x ox C od) (a:AtX K C) (ht:W.takerIn K C name=some none)
  (hq:∀b,wpAny (model prog w) A.in1 (storeInOwnDict (.ref x) (.ref C) (.str name tn) name v b) (λ fin s2=>match fin with | .done f=>R (.ok f) s2 | .again c2=>c2.quiet=true/\codeAny (model prog w) A c2 R s2) (λ e s2=>R (.error e) s2) s) :
  codeAny (model prog w) A (.call (.builtin "object.__setattr__") ⟨[.ref x,.str name tn,v],[]⟩) R s:=by
 obtain ⟨cd,hc,_,ho⟩:=a.cls
 have SO:=PySem.F.store_object
 have nem:cd.mro.isEmpty=false:=by cases q:cd.mro with | nil=>rw [q] at ho;cases ho | cons _ _=>rfl
 have isO:W.Looks (model prog w) s.heap (isInstance (.ref x) (.type "object")) true:=I.type.andThen (W.looks_mroIn KI (by unfold W.mroIn;rw [hc,Option.bind_some,if_neg (by rw [nem];decide),z7j ho]))
 obtain ⟨attr,ha,hr⟩:=Option.bind_eq_some_iff.mp ht
 have L3:W.Looks (model prog w) s.heap (storeTaker? attr) none:=by
  cases attr with
  | none=>exact W.Looks.now
  | some at_ =>
   obtain ⟨b,hb,e⟩:=Option.map_eq_some_iff.mp hr
   cases b with
   | true=>cases e
   | false=>exact (W.looks_takesIn KI hb).andThen W.Looks.now
 refine codeAny_call_builtin SO.slot.plain SO.entry (@W.check_slot (model prog w) _ _ s "object.__setattr__" "object" "__setattr__" (.ref x) [.str name tn,v] [] _ SO.kind SO.split isO (SO.args (.ref x) (.str name tn) v) ?_)
 rw [W.osa_eq,refuse_eq]
 have mr:W.Looks (model prog w) s.heap (mroOf (.ref C)) cd.mro:=(W.looks_clsIn KI hc).andThen W.Looks.now
 refine wpAny_bind (wpAny_bind (I.type.here (wpAny_bind (mr.here ?_))))
 rw [z4n _ ho]
 refine wpAny_pure (wpAny_bind (I.type.here (wpAny_bind ((W.looks_findIn KI ha).here (wpAny_bind (L3.here (hq _)))))))
theorem x4p {name:Str}{v:Value}{t:Addr}{Q:Unit->Shared->Prop}(KI:K.In h) (a:AtX K C) (ht:W.takerIn K C name=some none) (hx:h.get? x=some (excRec C t none))
  (hq:∀(h2:Heap) (tk2:Nat),h2.get? x=some (excRec C t (some h.objs.size))->h2.Ns1 h.objs.size (λ y=>if y=name then some v else none)->(∀b o,b≠x->h.get? b=some o->h2.get? b=some o)->Q () ⟨h2,g,dr,tk2,os⟩) :
  wpAny (model prog w) A (setAttr (.ref x) name v) Q E ⟨h,g,dr,tk,os⟩:=by
 have I:=x3w hx rfl rfl none True.intro
 refine W.set_plain KI I a.sa (x5h (s:=⟨h,g,dr,tk+1,os⟩) KI I a ht λ b=>?_)
 obtain ⟨cd,hc,hdct,_⟩:=a.cls
 have hxs:x≠h.objs.size:=Nat.ne_of_lt (Heap.lt_size hx)
 refine wpAny_bind (wpAny_pure (wpAny_bind (wpAny_bind (wpAny_loadPart hx (wpAny_bind (W.Looks.here (s:=⟨h,g,dr,tk+1,os⟩) (W.looks_clsIn KI hc) ?_))))))
 rw [hdct]
 have hx1:(h.push { cls:=.type "dict",data:=.dict #[] }).get? x=some (excRec C t none):=Heap.get?_push_of_some _ hx
 refine wpAny_bind (wpAny_alloc' (wpAny_bind (wpAny_update' hx1 (wpAny_pure ?_))))
 generalize hU:(h.push { cls:=.type "dict",data:=.dict #[] }).update x (λ o=>{ cls:=o.cls,dict:=some h.objs.size,data:=o.data,slots:=o.slots })=U
 have gx:U.get? x=some (excRec C t (some h.objs.size)):=by rw [← hU];exact Heap.get?_update_self _ hx1 rfl
 have gd:U.get? h.objs.size=some { cls:=.type "dict",data:=.dict #[] }:=by rw [← hU];exact (Heap.get?_update_ne _ _ _ _ (Ne.symm hxs)).trans (Heap.get?_push_at rfl rfl)
 have go:∀b o,b≠x->h.get? b=some o->U.get? b=some o:=λ b o ne e=>by rw [← hU];exact (Heap.get?_update_ne _ _ _ _ ne).trans (Heap.get?_push_of_some _ e)
 have nd:U.Ns h.objs.size (λ _=>none):=⟨_,#[],_,gd,rfl,λ e he=>absurd he (by simp),λ _=>rfl⟩
 show wpAny _ _ (storeInDict h.objs.size _ name v) _ _ _
 unfold storeInDict newKeyGuard
 refine wpAny_bind (wpAny_pure (wpAny_bind (wpAny_nsSet1 (Heap.Ns1.of_empty nd) λ h2 n2 s2=>?_)))
 obtain ⟨oD,esD,epD,hoD,hdD,hcD⟩:=n2.count (PySem.Within.cons name v PySem.Within.nil)
 refine wpAny_bind (wpAny_lookBehind hoD (by rw [hdD];refine pastItsLine_dict (Nat.le_trans hcD ?_);rw [List.length_cons,List.length_nil,sizeLine_eq];omega) ?_)
 exact wpAny_pure (hq _ _ ((s2.2 x hxs).trans gx) n2 λ b o ne e=>(s2.2 b (Nat.ne_of_lt (Heap.lt_size e))).trans (go b o ne e))
theorem x5g {name:Str}{v:Value}{o:Obj}{vs:Array Value}{dx:Addr}{mA:Str->Option Value}{expr:Bool}{Q:Value->Shared->Prop}(KI:K.In h) (a:AtX K C) (hn:W.findIn K (.ref C) name=some none) (hg2:W.findIn K (.ref C) "__getattr__" = some none)
  (hx:h.get? x=some o) (hc:o.cls=.ref C) (hd:o.data=.fields vs) (hdx:o.dict=some dx) (hns:h.Ns1 dx mA) (hv:mA name=some v) (hh:W.handedIn v=true) (hq:Q v ⟨h,g,dr,tk+1,os⟩) :
  wpAny (model prog w) A (getAttr (.ref x) name expr) Q E ⟨h,g,dr,tk,os⟩:=by
 obtain ⟨cd,hcl,hdct,hov⟩:=a.cls
 have FB:=PySem.F.excAttr_ValueError
 obtain ⟨od,ho,hl⟩:=z7o hns
 have I:=x3w hx hc hd (some od) (by rw [hdx];exact ho)
 have LT:W.Looks (model prog w) h (typeOf (.ref x)) (.ref C):=I.type
 have L1:=W.looks_findIn (M:=model prog w) KI a.ga
 have L2':=W.looks_findIn (M:=model prog w) KI hg2
 have nem:cd.mro.isEmpty=false:=by cases q:cd.mro with | nil=>rw [q] at hov;cases hov | cons _ _=>rfl
 have isB:W.Looks (model prog w) h (isInstance (.ref x) (.type "BaseException")) true:=LT.andThen (W.looks_mroIn KI (by unfold W.mroIn;rw [hcl,Option.bind_some,if_neg (by rw [nem];decide),z5w hov]))
 have LF:W.Looks (model prog w) h (find (.ref x) (.ref C) name) (.value v):=W.looks_find KI I (W.findObj_own (by unfold W.hasDictIn;rw [hcl];exact hdct) hn rfl (by rw [hl,hv]))
 have f3:=FB.ga.bind (.ref x)
 have hx0:(expr && onTheHeap (Value.builtin "BaseException.__getattribute__"))=false:=by cases expr<;>rfl
 have hx2:(Value.builtin "BaseException.__getattribute__" == Value.builtin "object.__getattribute__")=false:=by decide +kernel
 have hx1:(onTheHeap (Value.ref C) && Value.builtin "BaseException.__getattribute__" == Value.builtin "object.__getattribute__")=false:=by rw [hx2];rfl
 unfold getAttr getAttrBy
 refine wpAny_bind (wpAny_mkText (wpAny_holding (wpAny_bind (LT.at (wpAny_bind (L1.at ?_))))))
 dsimp only
 rw [hx1,if_neg (by decide)]
 have LH:W.Looks (model prog w) h (hookBefore (.ref C)) none:=W.looks_hook KI hg2
 refine wpAny_bind (LH.at (wpAny_bind (wpAny_attempt (wpAny_holding ?_))))
 unfold callGetattribute
 rw [hx0,if_neg (by decide)]
 unfold boundAndCalled
 rw [f3]
 refine wpAny_bind (wpAny_pure ?_)
 show wpAny _ _ (call (.builtin "BaseException.__getattribute__") [.ref x,.str name tk]) _ _ _
 refine wpAny_call (codeAny_call_builtin FB.ga.plain PySem.F.entry_bexc_ga (@W.check_slot (model prog w) _ _ ⟨h,g,dr,tk+1,os⟩ "BaseException.__getattribute__" "BaseException" "__getattribute__" (.ref x) [.str name tk] [] _ (by decide +kernel) (by decide +kernel) isB (PySem.F.args_bexc_ga _ _) ?_))
 unfold Builtin.«object.__getattribute__»
 refine wpAny_bind (wpAny_pure (wpAny_bind (wpAny_pure (wpAny_bind (LT.at (wpAny_bind (LF.at ?_)))))))
 refine wpAny_pure ?_
 show wpAny _ _ (handedOut v) _ _ _
 rw [W.handedOut_of hh]
 exact wpAny_pure hq
end
def rm (H:Hp) (a:Addr):Hp:=λ b=>if b=a then none else H b
theorem z7g {H:Hp}{a b:Addr}(h:b≠a):rm H a b=H b:=by unfold rm;rw [if_neg h]
theorem x0s {H:Hp}{a:Addr}:rm H a a=none:=by unfold rm;rw [if_pos rfl]
def CX2 (P:Program) (w:World):CXT:=λ outer H s E e s' =>
 ∃(a C dx:Addr) (H':Hp) (B:Heap),e=.ref a/\s'.os=s.os/\AllBare s'.gens/\FlyD B outer a (.ref C) dx .none s'.heap /\
  (∀b o,s.heap.get? b=some o->H b=none->b ∉ frs outer->B.get? b=some o)/\(∀b o,s.heap.get? b=some o->b ∉ frs outer->∃o',B.get? b=some o') /\
  Un (frs outer) [] H H' s.heap s'.heap/\HOk P w H' B/\E (.ref C) (some dx) H'
section
variable {P:Program}{w:World}{K:W.Frag}{mg:Str->Option Value}{base:Heap}{N:List Str}{qual:Str}{scope:Scope}{f:Addr}{cd:Value}{A:Around}{outer:List Env}{s:Shared}{H:Hp}{E:XK}
theorem x3x {H:Hp}{h:Heap}{a C:Addr}{d:Option Addr}{l:List Addr}(ok:HOk P w H h) (ha:H a=some (ExcM a C d)) (hl:∀b∈l,H b=none):HOk P w (rm H a) (W.hideAll h (a::l)):=λ b u e=>by
 have ne:b≠a:=λ z=>by rw [z,x0s] at e;cases e
 rw [z7g ne] at e
 have nb:∀c v,H c=some v->c≠a->c ∉ a::l:=λ c v q nc z=>by
  rcases List.mem_cons.mp z with z | z
  ·exact nc z
  ·rw [hl c z] at q;cases q
 have nx:∀c v,H c=some v->v≠ExcM a C d->c≠a:=λ c v q nv z=>by rw [z,ha] at q;cases q;exact nv rfl
 refine (ok b u e).stay (λ c v hc q=>W.hideAll_get _ q ?_) (λ c q=>?_) λ c xs q=>?_
 ·rcases hc with z | z
  ·rw [z];exact nb b u e ne
  ·exact nb c _ z (nx c _ z (by unfold ExcM;intro z;cases z))
 ·rw [z7g (nx c _ q (by unfold ExcM;intro z;cases z))];exact q
 ·rw [z7g (nx c _ q (by unfold ExcM;intro z;cases z))];exact q
def RaisesD (X:Cx) (Ex:XK):Prop:=∀(pins:List (Addr × Obj)) (σ:St) (H:Hp) (s:Shared) (a C dx:Addr),Inv X pins σ H s->H a=some (ExcM a C (some dx))->X.s₀.heap.objs.size≤a->Ex (.ref C) (some dx) (rm H a)->X.xe (.ref a) s
theorem y3j:RaisesD (cxOf (CX2 P w) P w K mg base N qual scope f cd A outer s H E) E:=by
 intro pins σ H1 s1 a C dx I ha hnew hE
 have hnew:s.heap.objs.size≤a:=hnew
 have hfr:(cxOf (CX2 P w) P w K mg base N qual scope f cd A outer s H E).A.frames=some (envOfC qual scope s.heap.objs.size f cd::outer):=I.ok.frames
 have st:s1.heap.FunFrames base (envOfC qual scope s.heap.objs.size f cd::outer):=I.stack
 obtain ⟨⟨t,hrec⟩,_⟩:=(show ObjOk P w H1 s1.heap a (ExcM a C (some dx)) from I.hok a _ ha)
 generalize hB:W.hideAll s1.heap (a::frs (envOfC qual scope s.heap.objs.size f cd::outer))=B
 have f0:FlyD0 B (envOfC qual scope s.heap.objs.size f cd::outer) a (.ref C) dx s1.heap:=by
  rw [← hB]
  exact ⟨λ b o q=>W.of_hideAll _ q,W.hideAll_none _ (.head _),W.funFrames_hide st (λ env he b hb=>List.mem_cons_of_mem _ (x3y env he b hb)),_,_,hrec,⟨rfl,rfl⟩,rfl,rfl⟩
 refine x3j hfr rfl f0 λ h'' fl'' up''=>?_
 have ub:Un (frs outer) [] H H1 s.heap s1.heap:=I.base
 have Bs:=fl''.1
 have na:∀b o,s.heap.get? b=some o->b≠a:=λ b o e z=>Nat.lt_irrefl _ (Nat.lt_of_lt_of_le (Heap.lt_size (z ▸ e)) hnew)
 have stk:∀b,b ∉ frs outer->b < s.heap.objs.size->b ∉ a::frs (envOfC qual scope s.heap.objs.size f cd::outer):=λ b hb hlt z=>by
  rcases List.mem_cons.mp z with q | q
  ·rw [q] at hlt;exact Nat.lt_irrefl _ (Nat.lt_of_lt_of_le hlt hnew)
  ·rcases List.mem_cons.mp (I.stkSub b q) with q | q
   ·have q:b=s.heap.objs.size:=q
    exact Nat.lt_irrefl _ (q ▸ hlt)
   ·exact hb q
 have inB':∀b o,s.heap.get? b=some o->H b=none->b ∉ frs outer->B.get? b=some o:=λ b o e n hb=>by
  rw [← hB];exact W.hideAll_get _ (ub.keep b o e n hb (by simp)) (stk b hb (Heap.lt_size e))
 have thB':∀b o,s.heap.get? b=some o->b ∉ frs outer->∃o',B.get? b=some o':=λ b o e hb=>by
  obtain ⟨o1,e1⟩:=ub.there b o e (by simp)
  exact ⟨o1,by rw [← hB];exact W.hideAll_get _ e1 (stk b hb (Heap.lt_size e))⟩
 have slot:∀b o,s.heap.get? b=some o->H b=none->b∈frs outer->∃sl,h''.get? b=some { o with slots:=sl }:=λ b o e n hb=>by
  obtain ⟨sl1,e1⟩:=ub.slot b o e n hb (by simp)
  obtain ⟨_,o3,e3,nf⟩:=I.ok.funs.mem hb
  have e3:s.heap.get? b=some o3:=e3
  rw [e] at e3;cases e3
  obtain ⟨sl3,e4⟩:=up'' b _ e1 nf
  exact ⟨sl3,e4⟩
 have frf:∀b∈frs outer,H b=none:=I.ok.frf
 have nx:∀c v,H1 c=some v->v≠ExcM a C (some dx)->rm H1 a c=some v:=λ c v q nv=>by
  rw [z7g (λ z=>by rw [z,ha] at q;cases q;exact nv rfl)];exact q
 refine ⟨a,C,dx,rm H1 a,B,rfl,I.os,I.bare,fl'',inB',thB',⟨λ b o e n hb _=>Bs _ _ (inB' b o e n hb),λ b o e n hb _=>slot b o e n hb,λ b o e n _=>?_,λ b o e _=>?_,
  λ b xs e=>nx b _ (ub.tups b xs e) (by unfold ExcM;intro z;cases z),λ b o u e=>nx b _ (ub.frzs b o u e) (by unfold ExcM;intro z;cases z),λ b ps e=>?_⟩,by rw [← hB];exact x3x I.hok ha I.stkFree,hE⟩
 ·rw [z7g (na b o e)];exact ub.free b o e n (by simp)
 ·by_cases hb:b∈frs outer
  ·obtain ⟨sl,q⟩:=slot b o e (frf b hb) hb
   exact ⟨_,q⟩
  ·obtain ⟨o',q⟩:=thB' b o e hb
   exact ⟨o',Bs _ _ q⟩
 ·obtain ⟨more,q⟩:=ub.tbls b ps e
  exact ⟨more,nx b _ q (by unfold ExcM;intro z;cases z)⟩
theorem Fun.okX2 {x qual:Str}{st:Stmt}{f:Addr}{fd:FuncData}{N ps:List Str}{k:Nat}{sp:Sp}(F:Fun K x qual st f fd) (S:FnScope N ps (defScope st)) (len:∀vs H Q E,sp vs H Q E->vs.length=ps.length)
  (hbody:∀(cdv:Value) (A:Around) (outer:List Env) (s:Shared) (H:Hp) (vs:List V) (Q:VK) (E:XK),Room k (A.deeper (envOfC qual (defScope st) s.heap.objs.size f cdv))->sp vs H Q E ->
   ∃t,PSs (cxOf (CX2 P w) P w K mg base N qual (defScope st) f cdv A outer s H E) (defBody st) t/\t { nx:=λ _ H'=>Q .non H',rt:=Q } (start N vs) H):FnOk P w K mg base (CX2 P w) (k+1) f fd ps sp:=by
 obtain ⟨oc,od,kV,doc,pm,an,cdv,ct,osl,rfl,lk,hcd⟩:=F.ex
 exact x1r lk hcd S len λ A outer s H vs Q E hr hsp=>hbody cdv A outer s H vs Q E hr hsp
end
section
variable {M:Model}{A:Around}{E:Value->Shared->Prop}{env:Env}{C:Addr}{bmB:List Value}{nid:String}
theorem x2q {s:Shared}{v:Sem Value}{Q:Flow->Shared->Prop}(hb:bmB.contains (.type "BaseException")=true) (hh:A.handled=none)
  (q:wpAny M A v (λ u s1=>∃e t d,u=.ref e/\HasX s1.heap C bmB nid/\s1.heap.get? e=some (excRec C t d)/\E (.ref e) s1) E s):wpAny M A (raiseStmt env (some v) none) Q E s:=by
 unfold raiseStmt
 refine wpAny_bind (wpAny_mono q (λ u s1 z=>?_) λ _ _ z=>z)
 obtain ⟨e,t,d,rfl,X,he,hE⟩:=z
 obtain ⟨nm,qn,N,bs,bm,sn,sub,ab,col,dd,k0,k1,k2,k3,k5,hC,T⟩:=X.ex
 obtain ⟨hp,g,dr,tk,os⟩:=s1
 have isB:(Value.ref C::bm).contains (.type "BaseException")=true:=by rw [List.contains_cons,T.hasType hb,Bool.or_true]
 repeat (first | with_reducible refine wpAny_loadPart_at he ?_ | (with_reducible refine wpAny_isSubtype_exc hC ?_;rw [isB]) | with_reducible refine wpAny_loadPart_at hC ?_ | wp_step)
 exact wpAny_raiseNew_none hh hE
end
structure MkX (K:W.Frag) (C f:Addr) (bmB:List Value) (nid:String):Prop where
 cls:clsX K C bmB nid=true
 init:W.findIn K (.ref C) "__init__" = some (some (.ref f))
 fn:W.isFn K (.ref f)=true
 kp:W.keepIn K (.ref C)=true
def tRaiseX (C:Addr) (sp:Sp) (Ex:XK) (t:TA):TS:=λ _ σ H=>t σ H λ vs H1=>vs.length≤sizeLine/\∀a,H1 a=none ->
 sp (.ref a::vs) (upd H1 a (ExcM a C none)) (λ v H2=>v=.non/\∃dx,H2 a=some (ExcM a C (some dx))/\Ex (.ref C) (some dx) (rm H2 a)) E0
theorem z7h {X:Cx}{x:Str}{C f:Addr}{B nid initId:String}{bm:List Value}{np cpos pos:Pos}{e₀:Expr}{es:List Expr}{t:TA}{Ex:XK}{k:Nat}{fd:FuncData}{ps:List Str}{sp:Sp}
  (FB:ExcBaseFacts B nid initId bm) (hc:X.calm=true) (hg:Gl X x) (hm:X.mg x=some (.ref C)) (M:MkX X.K C f bm nid) (F:FnOk X.prog X.w X.K X.mg X.base CX0 k f fd ps sp) (hr:Room (k+1) X.A) (hbi:Binds X.K fd ps []) (hx:RaisesD X Ex) (ha:PA X (e₀::es) t)
  (hdb:(x == ("__debug__" : Str))=false:=by decide) (he:starEach (e₀::es) X.env=(false,eval e₀ X.env)::starEach es X.env:=by rfl) (hpl:(backTo cpos (starEach es X.env)).any (·.1)=false:=by rfl) :
  PS X (.Raise (some (.Call (.Name x np) (e₀::es) [] cpos)) none pos) (tRaiseX C sp Ex t):=by
 intro pins s σ H D I h
 rw [arm_exec_Raise]
 show wpAny (model X.prog X.w) X.A (do standAt pos;raiseStmt X.env (some (do let v ← eval (.Call (.Name x np) (e₀::es) [] cpos) X.env;standAt pos;pure v)) none) _ _ s
 refine wpAny_bind (wpAny_standAt (x2q (C:=C) (bmB:=bm) (nid:=nid) FB.hasBase (I.ok.hd hc) (wpAny_bind ?_)))
 refine wpAny_Call_Name_kw (z3f I hg hm ?_ hdb)
 refine W.callWith_K (h₀:=X.base) I.ok.mod.kin M.kp (thn (ha cpos pins s σ H _ I h) λ us s1 ⟨vs,H1,I1,r,hz,q⟩=>⟨I1.kIn,?_⟩) he hpl
 have hzu:us.length≤sizeLine:=by rw [← r.length];exact hz
 obtain ⟨hp,g,dr,tk,os⟩:=s1
 have hX:=x4n I1.kIn M.cls
 have hq:=q (hp.objs.size+1) (I1.hok.fresh (Nat.le_succ _))
 show wpAny _ _ (call (.ref C) us) _ _ _
 refine y6u FB I1.kIn hX M.init (beq_iff_eq.mp M.fn) ?_ hzu
 have gx:((hp.push { cls:=.type "tuple",data:=.seq us.toArray }).push (excRec C hp.objs.size none)).get? (hp.objs.size+1)=some (excRec C hp.objs.size none):=by heap_get
 generalize hh2:(hp.push { cls:=.type "tuple",data:=.seq us.toArray }).push (excRec C hp.objs.size none)=h2 at gx ⊢
 have kk:∀b o,hp.get? b=some o->h2.get? b=some o:=λ b o e=>by rw [← hh2];exact Heap.get?_push_of_some _ (Heap.get?_push_of_some _ e)
 have I2:Inv X pins σ (upd H1 (hp.objs.size+1) (ExcM (hp.objs.size+1) C none)) ⟨h2,g,dr,tk,os⟩:=I1.laid (t':=tk) kk (Nat.le_succ _) (z9h gx)
 have r2:Vals (V.ref (hp.objs.size+1)::vs) (Value.ref (hp.objs.size+1)::us):=.cons rfl r
 have hl:(Value.ref (hp.objs.size+1)::us++[]).length=ps.length:=by
  have e:=r2.length
  rw [F.len _ _ _ _ hq] at e
  simpa using e.symm
 have hl2:=hbi ⟨h2,g,dr,tk,os⟩ (Value.ref (hp.objs.size+1)::us) I2.kIn hl
 rw [List.append_nil] at hl2
 refine wpAny_call (codeAny_mono (F.run _ X.stack _ _ ⟨Value.ref (hp.objs.size+1)::us,[]⟩ (Value.ref (hp.objs.size+1)::us) _ _ E0 (hr.make C us []) (I2.env0.make C us []) hl2 r2 hq) λ r s' hq'=>?_)
 cases r with
 | error e=>exact False.elim hq'
 | ok fl =>
  cases fl with
  | ret u =>
   obtain ⟨v,H',I3,rv,ev,dx,ha3,q3⟩:=I2.after hq'
   subst ev
   refine ⟨rv,wpAny_bind (wpAny_standAt (wpAny_pure ?_))⟩
   obtain ⟨⟨t3,hr3⟩,_⟩:=(show ObjOk X.prog X.w H' s'.heap (hp.objs.size+1) (ExcM (hp.objs.size+1) C (some dx)) from I3.hok _ _ ha3)
   exact ⟨_,t3,some dx,rfl,x4n I3.kIn M.cls,hr3,hx pins σ H' s' _ C dx I3 ha3 (Nat.le_trans I1.sz (Nat.le_succ _)) q3⟩
  | next=>exact False.elim hq'
  | brk=>exact False.elim hq'
  | cont=>exact False.elim hq'
end L2
namespace L2
open PySem PySem.Spec PyProof.Rows PySem.W
def ExcD (a C d:Addr):HO:=.ext λ h=>∃o vs,h.get? a=some o/\o.cls=.ref C/\o.data=.fields vs/\o.dict=some d
theorem x2f {H:Hp}{a:Addr}{o:HO}(h:H a=some o):upd H a o=H:=by
 funext b
 by_cases e:b=a
 ·rw [e,z0d,h]
 ·rw [z0m e]
section
variable {X:Cx}{o e value:Expr}{f:Str}{pos pos' tpos:Pos}{ta tv:TE}
def tInitX (K:W.Frag) (bm:List Value) (nid:String) (t:TA):TE:=λ σ H Q=>t σ H λ vs H1=>∃a C d ws,vs=.ref a::ws/\H1 a=some (ExcM a C d)/\clsX K C bm nid=true/\ws.length≤sizeLine/\Q .non H1
theorem y7y {x:Str}{C0:Addr}{B nid initId:String}{bm:List Value}{np apos:Pos}{e₀:Expr}{es:List Expr}{t:TA}{pl:Sem Bool}(FB:ExcBaseFacts B nid initId bm) (hg:Gl X x) (hm:X.mg x=some (.ref C0))
  (h1:W.specialIn X.K (.ref C0) "__getattribute__" = some (some (.builtin "type.__getattribute__"))) (h2:W.readsIn X.K C0 (.type "type")=true) (h3:W.findCls X.K (.ref C0) (.type "type") "__init__" = some (.val (.builtin initId)))
  (h4:W.handedIn (.builtin initId)=true) (ha:PA X (e₀::es) t)
  (hb:eval (.Call (.Attribute (.Name x np) "__init__" apos) (e₀::es) [] pos) X.env=(do
   let ov ← eval (.Name x np) X.env
   standAt apos.atName
   let (f,first) ← holding [ov] (getMethod ov "__init__" pl)
   callWith pos f first (backTo pos (starEach (e₀::es) X.env)) (backToKw pos (keywordEach [] X.env))):=by rfl)
  (hdb:(x == ("__debug__" : Str))=false:=by decide) (he:starEach (e₀::es) X.env=(false,eval e₀ X.env)::starEach es X.env:=by rfl) (hpl:(backTo pos (starEach es X.env)).any (·.1)=false:=by rfl) :
  PE X (.Call (.Attribute (.Name x np) "__init__" apos) (e₀::es) [] pos) (tInitX X.K bm nid t):=by
 intro pins s σ H Q I h
 refine W.methodCall_KW (pl:=pl) (z3f I hg hm ?_ hdb) hb
 refine W.method_cls I.kIn h1 (W.cls_value I.kIn h2 h3 h4 ?_)
 have hA:=ha pos pins { s with toks:=s.toks+1 } σ H _ (I.tok _) h
 rw [he] at hA ⊢
 refine W.callWith_of (P:=λ _=>True) (by show ((false || (backTo pos (starEach es X.env)).any (·.1)) || false)=false;rw [hpl];rfl) (λ _ _=>⟨.machine,.inr (.inl rfl),W.Looks.of_pure rfl⟩) (Calls.evalArgs_plain (thn hA λ us s1 ⟨vs,H1,I1,r,a,C,d,ws,ev,hH,hc,hz,q⟩=>⟨trivial,?_⟩))
 subst ev
 cases r with
 | cons r0 r =>
  rename_i u us' hAP
  obtain rfl:u=Value.ref a:=r0
  obtain ⟨hp,g,dr,tk,os⟩:=s1
  obtain ⟨⟨t0,hrec⟩,_⟩:=(show ObjOk X.prog X.w H1 hp a (ExcM a C d) from I1.hok a _ hH)
  refine y2a FB (x4n I1.kIn hc) hrec (by rw [← r.length];exact hz) λ h2 hx2 kk=>⟨.non,H1,?_,rfl,q⟩
  have J:=I1.write (x:=a) (e:=a) (o:=ExcM a C d) (h':=h2) (t':=tk) (by rw [hH];exact True.intro) (.inl rfl) kk ⟨_,hx2⟩ (z9h hx2)
  rw [x2f hH] at J
  exact J
def sXf0 (K:W.Frag) (ta tv:TE) (f:Str):TS:=λ D σ H=>tv σ H λ y H1=>ta σ H1 λ x H2=>∃a C,x=.ref a/\H2 a=some (ExcM a C none)/\AtX K C/\NoAttr K C f /\
 ∀dx,H2 dx=none->dx≠a->D.nx σ (upd (upd H2 dx (ExcF dx [(f,y)])) a (ExcM a C (some dx)))
theorem x2s (ha:PE X o ta) (hv:PE X value tv) (hs:swapsWith value (some (.Attribute o f pos')) pos.line X.env=pure false):PS X (.Assign [.Attribute o f pos'] value pos) (sXf0 X.K ta tv f):=by
 intro pins s σ H D I h
 refine plainObj_wpAny_Assign_Attribute (thn (hv pins s σ H _ I h) λ u s1 ⟨y,H1,I1,ry,q⟩=>thn (ha pins s1 σ H1 _ I1 q) λ ov s2 ⟨x,H2,I2,rx,a,C,ex,ea,c,n,q2⟩=>?_) hs
 subst ex
 obtain rfl:ov=Value.ref a:=rx
 obtain ⟨hp,g,dr,tk,os⟩:=s2
 obtain ⟨⟨t0,hrec⟩,_⟩:=(show ObjOk X.prog X.w H2 hp a (ExcM a C none) from I2.hok a _ ea)
 refine x4p I2.kIn c n.taker hrec λ h2 tk2 hx2 hn2 kk=>⟨σ,_,?_,q2 hp.objs.size (I2.hok.fresh (Nat.le_refl _)) (Nat.ne_of_gt (Heap.lt_size hrec))⟩
 have Hd:H2 hp.objs.size=none:=I2.hok.fresh (Nat.le_refl _)
 have nda:hp.objs.size≠a:=Nat.ne_of_gt (Heap.lt_size hrec)
 have nA:∀b v,H2 b=some v->v≠ExcM a C none->b≠a:=λ b v e nv z=>by rw [z,ea] at e;cases e;exact nv rfl
 have nA0:∀b,H2 b=none->b≠a:=λ b e z=>by rw [z,ea] at e;cases e
 have nD:∀b v,H2 b=some v->b≠hp.objs.size:=λ b v e z=>by rw [z,Hd] at e;cases e
 have nS:∀b ob,hp.get? b=some ob->b≠hp.objs.size:=λ b ob e=>Nat.ne_of_lt (Heap.lt_size e)
 have keepT:∀b v,H2 b=some v->v≠ExcM a C none->upd (upd H2 hp.objs.size (ExcF hp.objs.size [(f,y)])) a (ExcM a C (some hp.objs.size)) b=some v:=λ b v e nv=>by
  rw [z0m (nA b v e nv),z0m (nD b v e)];exact e
 refine I2.un (h':=h2) (t':=tk2) ⟨λ b ob e n' _ _=>kk b ob (nA0 b n') e,λ b ob e n' _ _=>⟨ob.slots,kk b ob (nA0 b n') e⟩,λ b ob e n' _=>?_,λ b ob e _=>?_,λ b xs e=>keepT b _ e (by unfold ExcM;intro z;cases z),λ b ob v e=>keepT b _ e (by unfold ExcM;intro z;cases z),λ b ps e=>⟨#[],?_⟩⟩ λ b v e=>?_
 ·rw [z0m (nA0 b n'),z0m (nS b ob e)];exact n'
 ·by_cases hb:b=a
  ·exact ⟨_,hb ▸ hx2⟩
  ·exact ⟨ob,kk b ob hb e⟩
 ·rw [keepT b _ e (by unfold ExcM;intro z;cases z)];simp
 ·by_cases hb:b=a
  ·subst hb;rw [z0d] at e;cases e;exact z9h hx2
  ·rw [z0m hb] at e
   by_cases hd:b=hp.objs.size
   ·subst hd;rw [z0d] at e;cases e
    refine x1t (by simp) hn2 (λ g2=>?_) λ g2 hg2=>?_
    ·by_cases z:g2=f
     ·subst z;simp only [List.lookup_cons_self,if_true];exact ry
     ·have z2:(g2 == f)=false:=by simpa using z
      rw [List.lookup_cons,z2,if_neg z];exact True.intro
    ·by_cases z:g2=f
     ·simp [z]
     ·exact absurd (if_neg z) hg2
   ·rw [z0m hd] at e
    refine (I2.hok b v e).stay (λ c2 w hc q=>kk c2 w ?_ q) (λ c2 q=>keepT c2 _ q (by unfold ExcM;intro z;cases z)) λ c2 xs q=>keepT c2 _ q (by unfold ExcM;intro z;cases z)
    rcases hc with z | z
    ·rw [z];exact hb
    ·exact nA c2 _ z (by unfold ExcM;intro z;cases z)
def sXf1 (K:W.Frag) (ta tv:TE) (f:Str):TS:=λ D σ H=>tv σ H λ y H1=>ta σ H1 λ x H2=>∃a C dx fs,x=.ref a/\H2 a=some (ExcM a C (some dx))/\H2 dx=some (ExcF dx fs)/\AtX K C/\NoAttr K C f/\fs.length < 1000 /\
 D.nx σ (upd H2 dx (ExcF dx (putF f y fs)))
def tXFld (K:W.Frag) (ta:TE) (f:Str):TE:=λ σ H Q=>ta σ H λ x H1=>∃a C d fs v,x=.ref a/\H1 a=some (ExcD a C d)/\H1 d=some (ExcF d fs)/\AtX K C/\NoAttr K C f/\NoAttr K C "__getattr__" /\ fs.lookup f=some v/\Q v H1
theorem x0w (he:PE X e ta) (hb:attributeBase e f X.env (eval e X.env)=eval e X.env):PE X (.Attribute e f pos) (tXFld X.K ta f):=by
 intro pins s σ H Q I h
 refine x1y hb (thn (he pins s σ H _ I h) λ u s1 ⟨x,H1,I1,rx,a,C,d,fs,v,ex,ea,ed,c,n,n2,l,q⟩=>?_)
 subst ex
 obtain rfl:u=Value.ref a:=rx
 obtain ⟨hp,g,dr,tk,os⟩:=s1
 obtain ⟨⟨o1,vs1,ho,hcl,hdt,hdi⟩,_⟩:=(show ObjOk X.prog X.w H1 hp a (ExcD a C d) from I1.hok a _ ea)
 obtain ⟨⟨_,mA,hn,rr,_⟩,_⟩:=(show ObjOk X.prog X.w H1 hp d (ExcF d fs) from I1.hok d _ ed)
 obtain ⟨w',hw,rw'⟩:=RelO.some_of (v:=v) (o:=mA f) (by rw [← l];exact rr f)
 exact x5g I1.kIn c n n2 ho hcl hdt hdi hn hw (y5m rw') ⟨v,H1,I1.tok _,rw',q⟩
end
def caughtD (C:Addr) (i:Nat) (ts:TS) (D:Ends):St->XK:=λ σ1 cls d H1=>cls=.ref C/\∃dx,d=some dx/\∀a,H1 a=none->ts (goneEnds D i) (σ1.set i (some (.ref a))) (upd H1 a (ExcD a C dx))
def tTryD (C:Addr) (i:Nat) (tb:(St->XK)->TS) (ts:TS):TS:=λ D σ H=>tb (caughtD C i ts D) D σ H
theorem x0u {X:Cx}{x n:Str}{C:Addr}{bm:List Value}{newId:String}{body suite:List Stmt}{b₀:Stmt}{np hpos pos:Pos}{i:Nat}{tb:(St->XK)->TS}{ts:TS}
  (hstk:X.stack=X.env::X.outer/\X.env.frame=some X.env.locals) (hex:X.ex=[]) (hN:X.N.Nodup) (hi:X.N[i]?=some n) (hk:X.env.scope.names.lookup n=some .local)
  (hg:Gl X x) (hm:X.mg x=some (.ref C)) (hq:clsX X.K C bm newId=true) (hbm:bm.contains (.type "BaseException")=true)
  (hb:∀(xe:Value->Shared->Prop) (pn:List (Addr × Obj)) (EE:St->XK),(∀σ,PassesAt (CX2 X.prog X.w) (X.more xe pn) (EE σ) σ)->PSs (X.more xe pn) body (tb EE))
  (hs:∀(a:Addr) (pn:List (Addr × Obj)),PSs (X.suite a pn) (b₀::suite) ts) (hd:(x == ("__debug__" : Str))=false:=by decide) :
  PS X (.Try body [.ExceptHandler (some (.Name x np)) (some n) (b₀::suite) hpos] [] [] pos) (tTryD C i tb ts):=by
 intro pins s σ H D I h
 refine wpAny_Try_except ?_
 generalize hXE:(λ e s₁=>wpAny (model X.prog X.w) X.A (noteFrame e X.env) (λ _ s₂=>wpAny (model X.prog X.w) X.A (setFlight e none) (λ _ s₃=>wpAny (model X.prog X.w) X.A (handleBy e X.env [.ExceptHandler (some (.Name x np)) (some n) (b₀::suite) hpos]) (SP X pins D) X.xe s₃) X.xe s₂) X.xe s₁:Value->Shared->Prop)=XE
 have toY:∀ {σ':St}{H':Hp}{s':Shared},Inv X pins σ' H' s'->Inv (X.more XE (X.pn++pins)) [] σ' H' s':=λ J=>⟨J.ok.more _ _,J.os,J.bare,J.base,J.loc,J.cell,J.free,J.freeC,λ p hp=>J.pin p (by simpa using hp),J.hok,J.len⟩
 have ofY:∀ {σ':St}{H':Hp}{s':Shared}{pp:List (Addr × Obj)},Inv (X.more XE (X.pn++pins)) pp σ' H' s'->Inv X pins σ' H' s':=λ J=>⟨I.ok,J.os,J.bare,J.base,J.loc,J.cell,J.free,J.freeC,λ p hp=>J.pin p (List.mem_append_left _ hp),J.hok,J.len⟩
 have body_ok:=hb XE (X.pn++pins) (caughtD C i ts D) ?_ [] s σ H D (toY I) h
 ·refine thn body_ok λ fl s' q=>?_
  cases fl with
  | next=>obtain ⟨σ',H',J,z⟩:=q;exact wpAny_execs_nil ⟨σ',H',ofY J,z⟩
  | brk=>obtain ⟨σ',H',J,z⟩:=q;exact ⟨σ',H',ofY J,z⟩
  | cont=>obtain ⟨σ',H',J,z⟩:=q;exact ⟨σ',H',ofY J,z⟩
  | ret u=>obtain ⟨v,σ',H',J,r,z⟩:=q;exact ⟨v,σ',H',ofY J,r,z⟩
 intro σ1 pins1 H1 s1 e s' I1 hx
 obtain ⟨a,C',dx,H',B,rfl,os,bare,fl,inB,thB,un,okB,hC',d2,ed2,hsuite⟩:=hx
 cases ed2
 obtain rfl:C'=C:=Value.ref.inj hC'
 subst hXE
 have fl:FlyD B (X.env::X.outer) a (.ref C') dx .none s'.heap:=by
  have z:FlyD B X.stack a (.ref C') dx .none s'.heap:=fl
  rw [hstk.1] at z;exact z
 have hfr:X.A.frames=some (X.env::X.outer):=by rw [I.ok.frames,hstk.1]
 have at_:∀h2:Heap,FlyD B (X.env::X.outer) a (.ref C') dx .none h2->s'.heap.UpToSlots h2->∀t2:Nat,Inv X pins σ1 H' { s' with heap:=h2,toks:=t2 }:=λ h2 f2 u2 t2=>by
  have J1:Inv X pins σ1 H1 s1:=ofY I1
  have slot:∀b o,s1.heap.get? b=some o->H1 b=none->b∈frs X.stack->∃sl,h2.get? b=some { o with slots:=sl }:=λ b o e nn hb=>by
   obtain ⟨sl2,e2⟩:=un.slot b o e nn hb (by simp)
   obtain ⟨_,o3,e3,nf⟩:=J1.stack.mem hb
   rw [e] at e3;cases e3
   obtain ⟨sl3,e4⟩:=u2 b _ e2 nf
   exact ⟨sl3,e4⟩
  refine J1.call' (s':={ s' with heap:=h2,toks:=t2 }) (ch:=[]) os ⟨λ b o e nn hb _=>f2.1 _ _ (inB b o e nn hb),λ b o e nn hb _=>slot b o e nn hb,un.free,λ b o e _=>?_,un.tups,un.frzs,un.tbls⟩ (okB.kept f2.1) bare (λ b z=>nomatch z)
  by_cases hb:b∈frs X.stack
  ·obtain ⟨sl,q⟩:=slot b o e (J1.stkFree b hb) hb
   exact ⟨_,q⟩
  ·obtain ⟨o',q⟩:=thB b o e hb
   exact ⟨o',f2.1 _ _ q⟩
 refine x4t hfr hstk.2 fl λ h4 held4 up4=>?_
 refine x1s (s:={ s' with heap:=h4 }) held4 λ h5 fl5 up5=>?_
 have J5:=at_ h5 fl5 (up4.trans up5) s'.toks
 obtain ⟨nm1,q1,N1,b1,tl,m1,u1,a1,l1,dd1,j0,j1,j2,j3,j5,hC5,T⟩:=(x4n J5.kIn hq).ex
 obtain ⟨oe5,ve5,he5,hc5,hd5,_⟩:=fl5.first
 have toZ:∀ {σ':St}{H':Hp}{s':Shared},Inv X pins σ' H' s'->Inv (X.suite a (X.pn++pins)) [] σ' H' s':=λ J=>⟨J.ok.suite _ _,J.os,J.bare,J.base,J.loc,J.cell,J.free,J.freeC,λ p hp=>J.pin p (by simpa using hp),J.hok,J.len⟩
 have ofZ:∀ {σ':St}{H':Hp}{s':Shared},Inv (X.suite a (X.pn++pins)) [] σ' H' s'->Inv X pins σ' H' s':=λ J=>⟨I.ok,J.os,J.bare,J.base,J.loc,J.cell,J.free,J.freeC,λ p hp=>J.pin p (List.mem_append_left _ hp),J.hok,J.len⟩
 refine wpAny_handleBy_cons (codeAny_handlers_test ?_) (by intro q;cases q)
 refine z3f (X:=X.suite a (X.pn++pins)) (toZ J5) hg hm ?_ hd
 obtain ⟨hh,gg,dd,tt,oo⟩:=s'
 refine wpAny_excMatches_sub_self hC5 he5 hc5 (T.hasType hbm) ?_
 refine codeAny_handlers_suite_as ?_
 refine x1s (s:=⟨h5,gg,dd,tt,oo⟩) fl5 λ h6 fl6 up6=>?_
 have J6:=at_ h6 fl6 ((up4.trans up5).trans up6) tt
 obtain ⟨oe,ve,hoe,hoc,hod,hox⟩:=fl6.first
 have Ba:B.get? a=none:=fl6.2.1
 have Ha:H' a=none:=by
  cases q:H' a with
  | none=>rfl
  | some u =>
   have z:a < B.objs.size:=okB.lt q
   have y:=okB a u q
   obtain ⟨o9,e9⟩:∃o9,B.get? a=some o9:=by
    cases u with
    | lst xs=>obtain ⟨_,_,_,_,e⟩:=y;exact ⟨_,e⟩
    | tup xs=>obtain ⟨_,_,_,o,e,_⟩:=y;exact ⟨_,e⟩
    | dK kvs=>obtain ⟨_,_,_,_,o,_,_,e,_⟩:=y;exact ⟨_,e⟩
    | dT kvs=>obtain ⟨_,_,_,_,o,_,_,e,_⟩:=y;exact ⟨_,e⟩
    | set S n=>obtain ⟨o,_,_,_,e,_⟩:=y;exact ⟨_,e⟩
    | ins C dx fs=>obtain ⟨_,_,_,e,_⟩:=y;exact ⟨_,e⟩
    | own y'=>obtain ⟨_,e⟩:=y;exact ⟨_,e⟩
    | xd fs=>obtain ⟨_,⟨_,_,_,e,_⟩,_⟩:=y;exact ⟨_,e⟩
    | rng lo hi=>obtain ⟨_,_,_,e⟩:=y;exact ⟨_,e⟩
    | frz ob u=>obtain ⟨e,_⟩:=y;exact ⟨_,e⟩
    | tbl ps=>exact ⟨_,(show B.get? a=some _ from y)⟩
    | met f y'=>exact ⟨_,(show B.get? a=some _ from y)⟩
    | ext φ=>obtain ⟨_,⟨_,e⟩,_⟩:=y;exact ⟨_,e⟩
   rw [Ba] at e9;cases e9
 have J1:Inv X pins σ1 H1 s1:=ofY I1
 have notfields:∀b o,h6.get? b=some o->(∀vs,o.data≠.fields vs)->b≠a:=λ b o e nf z=>by
  rw [z,hoe] at e;cases e;exact nf _ hod
 obtain ⟨mL,⟨oL,esL,epL,hoL,hdL,_⟩,_⟩:=id J6.loc
 have aL:a≠X.env.locals:=λ z=>(notfields X.env.locals oL hoL λ vs q=>by rw [hdL] at q;cases q) z.symm
 have ac:∀y c,X.env.cells.lookup y=some c->c≠a:=λ y c e=>by
  obtain ⟨v,o,ho,hdc⟩:=J6.cell y c e
  exact notfields c o ho λ vs q=>by rw [hdc] at q;cases q
 have inB2:∀b o,s1.heap.get? b=some o->H1 b=none->b ∉ frs X.stack->b≠a:=λ b o e nn hb z=>by
  have q:=inB b o e nn hb
  rw [z,Ba] at q;cases q
 have nstk:∀b,b≠X.env.locals->b ∉ X.fs->b ∉ frs X.stack:=λ b h1 h2 z=>by
  rcases List.mem_cons.mp (J1.stkSub b z) with q | q
  ·exact h1 q
  ·exact h2 q
 have ap:∀p∈X.pn++pins,p.1≠a:=λ p hp=>by
  obtain ⟨e,nn,ne,nf,_⟩:=J1.pin p hp
  exact inB2 p.1 p.2 e nn (nstk p.1 ne nf)
 have a0n:X.s₀.heap.get? a=none:=by
  cases q:X.s₀.heap.get? a with
  | none=>rfl
  | some o =>
   by_cases hx:a∈X.ex
   ·rw [hex] at hx;cases hx
   ·obtain ⟨o1,e1⟩:=J1.base.there a o q hx
    by_cases hf:a∈frs X.stack
    ·obtain ⟨_,o3,e3,nf⟩:=J6.stack.mem hf
     exact absurd rfl (notfields a o3 e3 nf)
    ·obtain ⟨o',q'⟩:=thB a o1 e1 hf
     rw [Ba] at q';cases q'
 have J7:Inv X pins σ1 (upd H' a (ExcD a C' dx)) { heap:=h6,gens:=gg,drawn:=dd,toks:=tt,os:=oo }:=J6.track Ha ⟨⟨oe,ve,hoe,hoc,hod,hox⟩,⟨oe,hoe⟩,λ k1 k2 ⟨o,vs,e,c,d⟩ kk=>⟨o,vs,kk o e,c,d⟩⟩ aL ac ap a0n
 refine z6b (X:=X.suite a (X.pn++pins)) (v:=.ref a) (toZ J7) hN hi (.inl hk) rfl (λ s8 J8=>?_) (.inr hk)
 refine wpAny_mono (hs a (X.pn++pins) [] s8 _ _ _ J8 (hsuite a Ha)) (λ fl s9 q=>?_) λ _ _ z=>z.elim
 have hcls:(X.env.scope.kind == .class || (X.env.scope.kind == .module && X.env.locals != X.env.globals))=false:=by rw [I.ok.kind];rfl
 have gone:∀ {σ9:St}{H9:Hp}{QQ:Unit->Shared->Prop},Inv (X.suite a (X.pn++pins)) [] σ9 H9 s9->(∀s10,Inv X pins (σ9.set i none) H9 s10->QQ () s10)->wpAny (model X.prog X.w) X.A (do bindName X.env n .none;unbindBehindTheSuite X.env n hpos) QQ X.xe s9:=λ {σ9 H9 QQ} J9 k=>by
  have J9':=ofZ J9
  obtain ⟨m,hm,hl⟩:=id J9'.loc
  exact wpAny_nameGoes_keeps hk hm hcls λ h' v hn' hs'=>k _ (J9'.gone hN hi hk hm hl hn' hs')
 cases fl with
 | next=>obtain ⟨σ9,H9,J9,z⟩:=q;exact gone J9 λ s10 J10=>⟨_,H9,J10,z⟩
 | brk=>obtain ⟨σ9,H9,J9,z⟩:=q;exact gone J9 λ s10 J10=>⟨_,H9,J10,z⟩
 | cont=>obtain ⟨σ9,H9,J9,z⟩:=q;exact gone J9 λ s10 J10=>⟨_,H9,J10,z⟩
 | ret u=>obtain ⟨v,σ9,H9,J9,r,z⟩:=q;exact gone J9 λ s10 J10=>⟨v,_,H9,J10,r,z⟩
theorem y7w {X:Cx}{K:W.Frag}{e:Expr}{f:Str}{pos:Pos}{ta:TE}(hK:X.K=K) (he:PE X e ta) (hb:attributeBase e f X.env (eval e X.env)=eval e X.env):PE X (.Attribute e f pos) (tXFld K ta f):=by
 subst hK
 exact x0w he hb
def CompZI (K:PySem.W.Frag) (k:Nat) (js:List Nat) (g:TG) (tc:TT) (te:TE) (σ:St) (vs:List V) (H1:Hp) (Q:VK):Prop:=∃a b xs ys,vs=[.ref a,.ref b]/\SqT K H1 a xs/\SqT K H1 b ys/\∃W:Nat->Nat->List V->St->Hp->Prop,(∃m,W 0 m [] (compSt k js σ) H1)/\∀i m zs σ' H',W i m zs σ' H' ->
  ((Itz K a b).stop i H'/\∀p,H' p=none->Q (.ref p) (upd H' p (.lst zs))) \/
  ((Itz K a b).go i H'/\zs.length < sizeLine/\∃N:List V->St->Hp->Prop,(∀zs σ2 H2,N zs σ2 H2->∃m',m' < m/\W (i+1) m' zs σ2 H2)/\∀x H2,(Itz K a b).yld i H' x H2->g x σ' H2 λ σ3 H3=>tc σ3 H3 λ b H4=>if b=true then te σ3 H4 λ v H5=>N (zs++[v]) σ3 H5 else N zs σ3 H4)
theorem y6g {K:W.Frag}{k:Nat}{js:List Nat}{ta:TA}{g:TG}{tc:TT}{te:TE}{σ:St}{H:Hp}{Q:VK}:tCompI (iZip K ta) k js g tc te σ H Q=ta σ H λ vs H1=>CompZI K k js g tc te σ vs H1 Q:=rfl
theorem CompZI.mk {K:W.Frag}{a b:Addr}{xs ys:List V}{k:Nat}{js:List Nat}{g:TG}{tc:TT}{te:TE}{Q:VK}{σ:St}{H:Hp}(n:Nat) (hn:n=min xs.length ys.length) (h1:SqT K H a xs) (h2:SqT K H b ys) (Pv:Nat->List V->St->Hp->Prop) (h0:Pv 0 [] (compSt k js σ) H) (hl:∀i zs σ H,i≤n->Pv i zs σ H->SqT K H a xs/\SqT K H b ys/\zs.length < sizeLine)
  (hs:∀i x y zs σ H T,i < n->xs[i]?=some x->ys[i]?=some y->Pv i zs σ H->H T=none->g (.ref T) σ (upd H T (.tup [x,y])) λ σ3 H3=>tc σ3 H3 λ b H4=>if b=true then te σ3 H4 λ v H5=>Pv (i+1) (zs++[v]) σ3 H5 else Pv (i+1) zs σ3 H4) (hz:∀zs σ H,Pv n zs σ H->∀p,H p=none->Q (.ref p) (upd H p (.lst zs))) :
  CompZI K k js g tc te σ [.ref a,.ref b] H Q:=by
 subst hn
 refine ⟨a,b,xs,ys,rfl,h1,h2,λ i m zs σ H=>m=min xs.length ys.length - i/\i≤min xs.length ys.length/\Pv i zs σ H,⟨_,rfl,Nat.zero_le _,h0⟩,?_⟩
 rintro i m zs σ H ⟨rfl,hi,p⟩
 obtain ⟨k1,k2,k3⟩:=hl i zs σ H hi p
 by_cases hlt:i < min xs.length ys.length
 ·have l1:i < xs.length:=by omega
  have l2:i < ys.length:=by omega
  refine .inr ⟨⟨xs,ys,_,_,k1,k2,List.getElem?_eq_getElem l1,List.getElem?_eq_getElem l2⟩,k3,Pv (i+1),λ zs' σ' H' p'=>⟨min xs.length ys.length - (i+1),by omega,rfl,hlt,p'⟩,λ v H' yy=>?_⟩
  obtain ⟨T,x,y,rfl,hT,rfl,ex⟩:=yy
  obtain ⟨ex1,ex2⟩:=ex xs ys k1 k2
  exact hs i x y zs σ H T hlt ex1 ex2 p hT
 ·have e:i=min xs.length ys.length:=by omega
  exact .inl ⟨⟨xs,ys,k1,k2,by omega⟩,hz zs σ H (e ▸ p)⟩
structure CalM (P:Program) (w:World) (K:W.Frag) (mg:Str->Option Value) (base:Heap) (CX:CXT) (k:Nat) (C:Addr) (m:Str) (ps:List Str) (sp:Sp):Prop where
 has:∃(f:Addr) (fd:FuncData),FnOk P w K mg base CX k f fd ps sp/\Meth K C m f/\Binds K fd ps []
theorem CalM.mono {P:Program}{w:World}{K:W.Frag}{mg:Str->Option Value}{base:Heap}{CX:CXT}{j k:Nat}{C:Addr}{m:Str}{ps:List Str}{sp:Sp}(c:CalM P w K mg base CX j C m ps sp) (h:j≤k):CalM P w K mg base CX k C m ps sp :=
 let ⟨f,fd,ok,m,b⟩:=c.has;⟨⟨f,fd,ok.mono h,m,b⟩⟩
structure MakC (P:Program) (w:World) (K:W.Frag) (mg:Str->Option Value) (base:Heap) (CX:CXT) (k:Nat) (C:Addr) (x:Str) (ps:List Str) (sp:Sp):Prop where
 has:∃(f:Addr) (fd:FuncData),FnOk P w K mg base CX k f fd ps sp/\Mk K C f/\Binds K fd ps []/\mg x=some (.ref C)
theorem MakC.mono {P:Program}{w:World}{K:W.Frag}{mg:Str->Option Value}{base:Heap}{CX:CXT}{j k:Nat}{C:Addr}{x:Str}{ps:List Str}{sp:Sp}(c:MakC P w K mg base CX j C x ps sp) (h:j≤k):MakC P w K mg base CX k C x ps sp :=
 let ⟨f,fd,ok,m,b,g⟩:=c.has;⟨⟨f,fd,ok.mono h,m,b,g⟩⟩
section
variable {X:Cx}{CX:CXT}{k:Nat}{f C:Addr}{fd:FuncData}{ps:List Str}{sp:Sp}{dvs:List V}{ds:List Value}{E:XK}{EE:St->XK}{x m:Str}{p pos apos:Pos}{e o:Expr}{es:List Expr}{ta:TE}{t:TA}
def tMethX (C:Addr) (m:Str) (sp:Sp) (EE:St->XK) (ta:TE) (t:TA):TE:=λ σ H Q=>ta σ H λ x H1=>∃a dx fs,x=.ref a/\H1 a=some (.ins C dx fs)/\fs.lookup m=none/\t σ H1 λ vs H2=>sp (x::vs) H2 Q (EE σ)
def tMakeX (C:Addr) (sp:Sp) (EE:St->XK) (t:TA):TE:=λ σ H Q=>t σ H λ vs H1=>∀x dx,H1 x=none->H1 dx=none->dx≠x->sp (.ref x::vs) (upd (upd H1 dx (.own x)) x (.ins C dx [])) (λ v H2=>v=.non/\Q (.ref x) H2) (EE σ)
end
section
variable {X:Cx}
end
section
open PySem.Builtin PySem.Builtin.Str
theorem z7m (x:Str) (c:Nat):∀(m i:Nat) (st:Array Nat × Nat),1≤st.1.size->(forIn (List.range' i m) st (StrLaws.occBody x ⟨#[c]⟩ x.length 1)).run.fst.toList=st.1.toList
 | 0,i,st,_=>rfl
 | m+1,i,st,h=>by
  rw [List.range'_succ,List.forIn_cons]
  unfold StrLaws.occBody
  rw [if_neg (λ z=>by have:=z.1.1.1;omega)]
  exact z7m x c m (i+1) _ h
theorem z6j (x:Str) (c:Nat):∀(m i k:Nat),i+m=x.length+1->k≤i ->
  (forIn (List.range' i m) ((#[],k):Array Nat × Nat) (StrLaws.occBody x ⟨#[c]⟩ x.length 1)).run.fst.toList=(posL c (x.cps.toList.drop i) i).take 1
 | 0,i,k,hi,_=>by
  have e:x.cps.toList.drop i=[]:=List.drop_eq_nil_of_le (by simp [Str.length] at hi ⊢;omega)
  rw [e];simp [posL]
 | m+1,i,k,hi,h1=>by
  rw [List.range'_succ,List.forIn_cons]
  have key:=StrLaws.subAt_one x c i
  unfold StrLaws.occBody
  cases e:x.cps.toList[i]? with
  | none =>
   have en:x.cps.toList.drop i=[]:=List.drop_eq_nil_of_le (List.getElem?_eq_none_iff.mp e)
   rw [if_neg (λ z=>by have:=key.mp ⟨z.1.2,z.2⟩;rw [e] at this;cases this)]
   refine (z6j x c m (i+1) _ (by omega) (by show k≤i+1;omega)).trans ?_
   rw [en,List.drop_eq_nil_of_le (by have:=List.getElem?_eq_none_iff.mp e;omega)]
   simp [posL]
  | some d =>
   have hl:=(List.getElem?_eq_some_iff.mp e).1
   have ed:x.cps.toList.drop i=d::x.cps.toList.drop (i+1):=by
    rw [List.drop_eq_getElem_cons hl];congr 1;exact (List.getElem?_eq_some_iff.mp e).2
   by_cases z:d=c
   ·subst z
    obtain ⟨k1,k2⟩:=key.mpr e
    rw [if_pos ⟨⟨⟨(by show (0:Nat) < 1;decide),h1⟩,k1⟩,k2⟩]
    refine (z7m x d m (i+1) (#[].push i,i+1) (by show 1≤(#[].push i).size;simp)).trans ?_
    rw [ed,posL,if_pos rfl];simp
   ·rw [if_neg (λ y=>by have:=key.mp ⟨y.1.2,y.2⟩;rw [e] at this;exact z (Option.some.inj this))]
    refine (z6j x c m (i+1) _ (by omega) (by show k≤i+1;omega)).trans ?_
    rw [ed,posL,if_neg z]
theorem x1c (x:Str) (c:Nat):occurrences x ⟨#[c]⟩ 0 x.length 1=(posL c x.cps.toList 0).take 1:=by
 rw [StrLaws.occ_eq]
 have:=z6j x c (x.length+1) 0 0 (by omega) (Nat.le_refl _)
 rw [Nat.sub_zero,this]
 simp
theorem z7i (c:Nat):∀(L:List Nat) (a:Nat),(∀i r,posL c L a=i::r->∃j,i=a+j/\(splitL c L).headD []=L.take j)/\(posL c L a=[]->(splitL c L).headD []=L)
 | [],a=>⟨λ i r h=>(by cases h),λ _=>rfl⟩
 | d::L,a=>by
  obtain ⟨h1,h2⟩:=z7i c L (a+1)
  obtain ⟨p,ps,e⟩:=z1v c L
  unfold posL splitL
  by_cases z:d=c
  ·rw [if_pos z,if_pos z]
   exact ⟨λ i r h=>(by cases h;exact ⟨0,rfl,rfl⟩),λ h=>(by cases h)⟩
  ·rw [if_neg z,if_neg z]
   rw [e] at h1 h2 ⊢
   refine ⟨λ i r h=>?_,λ h=>?_⟩
   ·obtain ⟨j,rfl,ej⟩:=h1 i r h
    exact ⟨j+1,by omega,by show d::p=_;rw [List.take_succ_cons];exact congrArg _ ej⟩
   ·exact congrArg (d::·) (h2 h)
variable {X:Cx}
def rPart1:V->List V->Hp->VK->Prop:=λ x ys H Q=>∃(t:Str) (c:Nat),x=.str t/\ys=[.str ⟨#[c]⟩]/\t.length≤4000000/\∀l u v,H l=none->Q (.ref l) (upd H l (.tup [.str (strL ((splitL c t.cps.toList).headD [])),.str u,.str v]))
theorem z7n:MtR X "str.partition" rPart1:=by
 intro pins s σ H x xs v us Q I rx rv h
 obtain ⟨x,c,rfl,rfl,hl,q⟩:=h
 obtain ⟨t,rfl⟩:=rx
 obtain ⟨u,rfl,ru⟩:=z3a rv
 obtain ⟨u,rfl⟩:=ru
 have s20:4000010≤sizeLine:=by rw [sizeLine_eq];decide
 have hy:((⟨#[c]⟩:Str).length == 0)=false:=rfl
 refine call_meets F.slot_str_partition (typeIs_str _ _ _) F.entry_str_partition (F.args_str_partition_2 _ _) (meets_str_partition x ⟨#[c]⟩ t u hy (by omega)) ?_
 obtain ⟨p1,p2⟩:=z7i c x.cps.toList 0
 rw [x1c]
 cases e:posL c x.cps.toList 0 with
 | nil =>
  have ex:strL ((splitL c x.cps.toList).headD [])=x:=by rw [p2 e];exact (z1r rfl).symm
  rw [ex] at q
  exact ⟨.ref s.heap.objs.size,_,I.laid (t':=s.toks+1) (o:=.tup [.str x,.str Str.empty,.str Str.empty]) (λ b ob q=>Heap.get?_push_of_some _ q) (Nat.le_refl _) ⟨by show 3≤sizeLine;decide,_,.cons ⟨_,rfl⟩ (.cons ⟨_,rfl⟩ (.cons ⟨_,rfl⟩ .nil)),IsTup.new _ _⟩,rfl,q _ _ _ (I.hok.fresh (Nat.le_refl _))⟩
 | cons i r =>
  obtain ⟨j,rfl,ej⟩:=p1 i r e
  have ex:strL ((splitL c x.cps.toList).headD [])=strSub x 0 (0+j):=by
   rw [ej,z1r (StrLaws.strSub_toList x 0 (0+j)),List.drop_zero];congr 2;omega
  rw [ex] at q
  exact ⟨.ref s.heap.objs.size,_,I.laid (t':=s.toks+1+1) (o:=.tup [.str (strSub x 0 (0+j)),.str ⟨#[c]⟩,.str (strSub x (0+j+(⟨#[c]⟩:Str).length) x.length)]) (λ b ob q=>Heap.get?_push_of_some _ q) (Nat.le_refl _) ⟨by show 3≤sizeLine;decide,_,.cons ⟨_,rfl⟩ (.cons ⟨_,rfl⟩ (.cons ⟨_,rfl⟩ .nil)),IsTup.new _ _⟩,rfl,q _ _ _ (I.hok.fresh (Nat.le_refl _))⟩
end
end L2
namespace PySem.W.Fast
theorem tw8090447333413072562:True:=⟨⟩
theorem tw15281033295538807187:True:=⟨⟩
theorem tw3049616426830134088:True:=⟨⟩
theorem tw5843561223706620919:True:=⟨⟩
theorem tw10343150788633725294:True:=⟨⟩
theorem tw8530645154967417149:True:=⟨⟩
theorem tw7776875561440506896:True:=⟨⟩
theorem tw7836896283017192190:True:=⟨⟩
theorem tw10827779647565090968:True:=⟨⟩
theorem tw1134986774080443890:True:=⟨⟩
theorem tw7191395922800273616:True:=⟨⟩
theorem tw10888133075432710017:True:=⟨⟩
theorem tw7351855677558305208:True:=⟨⟩
theorem tw5775629919175682299:True:=⟨⟩
theorem tw1695123422233720334:True:=⟨⟩
theorem tw6664572941794378440:True:=⟨⟩
theorem tw13342568959435641842:True:=⟨⟩
theorem tw603413442620231702:True:=⟨⟩
theorem tw13068417256123125979:True:=⟨⟩
theorem tw11665905717704139036:True:=⟨⟩
theorem tw11554690503886509454:True:=⟨⟩
theorem tw8491334362545758986:True:=⟨⟩
theorem tw3279149786493420865:True:=⟨⟩
theorem tw9966980726089881514:True:=⟨⟩
theorem tw2520191234593430913:True:=⟨⟩
theorem tw13179097129521756889:True:=⟨⟩
theorem tw3287284150628090870:True:=⟨⟩
theorem tw10566298345582898416:True:=⟨⟩
theorem tw14673530103525231824:True:=⟨⟩
theorem tw4886657524930034406:True:=⟨⟩
theorem tw4815226817552931577:True:=⟨⟩
theorem tw12065903261588557788:True:=⟨⟩
theorem tw5821472379109905752:True:=⟨⟩
theorem tw10936098054958629479:True:=⟨⟩
theorem tw8547370791251530324:True:=⟨⟩
theorem tw10068092921970619523:True:=⟨⟩
theorem tw13861319399193412460:True:=⟨⟩
theorem tw13818246073043107154:True:=⟨⟩
theorem tw1600927454684871003:True:=⟨⟩
theorem tw11806363715077459692:True:=⟨⟩
theorem tw8093129546189685774:True:=⟨⟩
theorem tw3374853324129120982:True:=⟨⟩
theorem tw7057160555587619527:True:=⟨⟩
theorem tw17336090051819989931:True:=⟨⟩
theorem tw3889435350585877106:True:=⟨⟩
theorem tw17560985856634191687:True:=⟨⟩
theorem tw15601133465633568347:True:=⟨⟩
theorem tw7276885488110615173:True:=⟨⟩
theorem tw4620969606967473768:True:=⟨⟩
theorem tw6972439194019875760:True:=⟨⟩
theorem tw12883407795921377965:True:=⟨⟩
theorem tw4774750724445602302:True:=⟨⟩
theorem tw6449628335027616838:True:=⟨⟩
theorem tw3269119138953013525:True:=⟨⟩
theorem tw13661748337212103937:True:=⟨⟩
theorem tw4814769838993392834:True:=⟨⟩
theorem tw11736396494464475861:True:=⟨⟩
theorem tw5801661345311352389:True:=⟨⟩
theorem tw1765151747205451253:True:=⟨⟩
theorem tw14351054798512799551:True:=⟨⟩
theorem tw5505392628482814555:True:=⟨⟩
theorem tw4225603503730322605:True:=⟨⟩
theorem tw18354857832775760521:True:=⟨⟩
theorem tw5163333221174078341:True:=⟨⟩
theorem tw6178858601380163982:True:=⟨⟩
theorem tw6071186593108574447:True:=⟨⟩
theorem tw15250819164828283298:True:=⟨⟩
theorem tw4648763983812853006:True:=⟨⟩
theorem tw1114758637999355343:True:=⟨⟩
theorem tw13381399848916122958:True:=⟨⟩
theorem tw18092815081127909162:True:=⟨⟩
theorem tw4470039548140551847:True:=⟨⟩
theorem tw12681723041249205851:True:=⟨⟩
theorem tw6157147570583276062:True:=⟨⟩
theorem tw1022435326617745715:True:=⟨⟩
theorem tw6740491970576738262:True:=⟨⟩
theorem tw6663464776904196764:True:=⟨⟩
theorem tw12479298052886672527:True:=⟨⟩
theorem tw6313213684761647321:True:=⟨⟩
theorem tw14693498972234661694:True:=⟨⟩
theorem tw5250894914849861278:True:=⟨⟩
theorem tw15335630914870246404:True:=⟨⟩
theorem tw3941500320236938705:True:=⟨⟩
theorem tw8951133465273828935:True:=⟨⟩
theorem tw7433180706017360455:True:=⟨⟩
theorem tw12292597322665979551:True:=⟨⟩
theorem tw7762049119458164530:True:=⟨⟩
theorem tw17600822562363053330:True:=⟨⟩
theorem tw9149277799789396870:True:=⟨⟩
theorem tw8605502969934255939:True:=⟨⟩
theorem tw5062670319884560989:True:=⟨⟩
theorem tw14679997287840766236:True:=⟨⟩
theorem tw5838383447725078596:True:=⟨⟩
theorem tw5946505756437074537:True:=⟨⟩
theorem tw6490041524756364767:True:=⟨⟩
theorem tw11617497338317413510:True:=⟨⟩
theorem tw11962201947568894422:True:=⟨⟩
theorem tw9272597647591891409:True:=⟨⟩
theorem tw2239025546183473767:True:=⟨⟩
theorem tw18415909097139119347:True:=⟨⟩
theorem tw9816309541969231564:True:=⟨⟩
theorem tw3142281315551306135:True:=⟨⟩
theorem tw15784575810266078001:True:=⟨⟩
theorem tw3505385107262787444:True:=⟨⟩
theorem tw5129308028159274036:True:=⟨⟩
theorem tw3501913326220077022:True:=⟨⟩
theorem tw4004608088489251469:True:=⟨⟩
theorem tw12831989050067448662:True:=⟨⟩
theorem tw13753202950990878638:True:=⟨⟩
theorem tw3829080802970591068:True:=⟨⟩
theorem tw10815581224015631771:True:=⟨⟩
theorem tw17276640652770282881:True:=⟨⟩
theorem tw18379620909606733303:True:=⟨⟩
theorem tw14038970505996858022:True:=⟨⟩
theorem tw1813929408309986363:True:=⟨⟩
end PySem.W.Fast
namespace My
open PySem L2 PyProof.Rows
local macro_rules | `(tactic| wp_walk using $xs:term,*)=>`(tactic| simp only [rPopAt,rCount,tBMf,rStarts,rSlStrX,tKTab,rKTab,tKIn,y9b,y6e,y6i,gTup,rJoinD,rJoinW,rMulS,rIxQ,rExtend,rSplit,rInN,rMulC,tDGet1,tDIn,sDPut,tDNewK,rRep,rEqD,rNeD,x1o,y9s,y9d,tCalV,tLam,x1q,rIndex,y9a,y6d,y6h,y6m,y6j,tRaiseX,tTryD,caughtD,tXFld,tInitX,sXf0,sXf1,y6g,tMethX,tMakeX,tMeth,tMake,tFld,sFld,rClear,tDNotIn,tDNewT,rPart1,y9c,y6f,rCatL,x1l,y9q,rFind,tFR,rSlStr,rUpper,rJoin,tBM0,tBM,tyV,y9h,y9u,y6n,rNeT,rNeL,tRaise,tTry,tCallX,caughtBy,goneEnds,rCatA,rEqL,rEqT,x1m,x1k,y9p,y9e,y6k,tSl,tNoPart,tPart,rSetL,gSub,rIxT,tRet,tRetN,tNext,tVar,tC,tOp,tUn,rI,rI0,rU,rEq,rNe,tTest,tB,tNot,tAnd,tOr,tAndV,tOrV,tNotV,tIf,tCall,tCB,tNil,tCons,tChain,tLst,tTup,tAsg,gName,tDrop,tNever,rIxL,rCat,CPow,CMul,CDiv,CDivN,CDivW,L2.start,scal,x1p,x1n,y9g,y9f,y9t,y9r,y6l,x4f,y9m,x3r,x3s,x3t,x3u,x3q,tApp,gTupH,gCons,gNil,rInT,rInL,rIxLH,rIxTH,flatV,z0d,HO.lst.injEq,HO.tup.injEq,List.any_cons,List.any_nil,List.all_cons,List.all_nil,Bool.or_false,Bool.and_self,Bool.and_true,Bool.or_eq_true,beq_iff_eq,V.int.injEq,V.bl.injEq,V.str.injEq,V.ref.injEq,V.ty.injEq,List.map_cons,List.map_nil,List.length_cons,List.length_nil,List.cons_append,List.nil_append,List.getElem?_cons_zero,List.getElem?_cons_succ,Option.some.injEq,exists_eq_left',exists_eq_left,exists_and_left,List.cons.injEq,and_true,true_and,and_assoc,decide_eq_true_eq,List.set_cons_zero,List.set_cons_succ,List.replicate,Nat.sub_self,List.append_nil,Nat.add_sub_cancel,Nat.reduceAdd,Nat.reduceSub,Int.reduceLT,Int.reduceLE,Int.reduceNeg,Int.reduceSub,Int.reduceAdd,Int.reducePow,Int.reduceToNat,na2,x5i,Nat.reducePow,Nat.reduceLT,if_true,if_false,Bool.not_true,Bool.not_false,Bool.false_eq_true,List.mem_cons,List.not_mem_nil,eq_self,true_or,or_true,or_false,false_or,String.reduceEq,Option.isSome_some,ne_eq,not_false_eq_true,not_true_eq_false,Bool.not_eq_true',decide_eq_false_iff_not,Bool.true_eq_false,$[$xs:term],*])
def top (i:Nat):Stmt:=PySem.Challenge.pw_sideloom_k31_whole_texts.main.body.getD i (.Pass ⟨0,0,0,0⟩)
def formsL:List (Str × List (Str × Int)):=[("in",[("sides",1)]),("num",[("number",1)]),("count",[("small",2),("sides",1)]),("each",[("word",1),("step",2)]),("pair",[("word",1),("step",2),("step",3)]),("pick",[("step",1),("step",2),("step",3)]),("turn",[("step",1),("sides",2)]),("flip",[("step",1),("small",2)]),("cut",[("step",1),("small",2),("small",3),("small",4),("small",5)]),("spread",[("step",1),("small",2),("small",3)]),("lay",[("step",1),("sides",2)]),("join",[("step",1),("step",2),("small",3)]),("fetch",[("step",1),("step",2)]),("fold",[("word",1),("step",2),("small",3)]),("run",[("word",1),("step",2),("small",3)])]
def ItemsAll (K:W.Frag):List (Str × Int)->List V->Prop
 | [],[]=>True
 | f::fs,x::xs=>(∃a,x=.ref a/\KTup K a [.str f.1,.int f.2])/\ItemsAll K fs xs
 | _,_=>False
def PartsAll (K:W.Frag):List (Str × List (Str × Int))->List (Str × Addr)->Prop
 | [],[]=>True
 | f::fs,p::ps=>(p.1=f.1/\∃xs,KTup K p.2 xs/\ItemsAll K f.2 xs)/\PartsAll K fs ps
 | _,_=>False
def PartsOk (P:Program) (w:World) (K:W.Frag) (d:Addr):Prop:=∃kvs,KTab P w K d kvs/\PartsAll K formsL kvs
theorem z0p {K:W.Frag}{a:Addr}{od:Option Addr}{its:Array Value}{n:Nat}{sl:Array (Option Value)}{xs:List V}(h:K.lookup a=some ⟨.type "tuple",od,.seq its n,sl⟩) (z:its.size≤sizeLine) (v:Vals xs its.toList):KTup K a xs:=⟨_,its,n,h,rfl,rfl,z,v⟩
theorem z4g {K:W.Frag}:∀ {fs:List (Str × List (Str × Int))}{kvs:List (Str × Addr)},PartsAll K fs kvs->∀ {x:Str}{f:List (Str × Int)},fs.lookup x=some f->∃a xs,kvs.lookup x=some a/\KTup K a xs/\ItemsAll K f xs
 | [],_,_,x,f,e=>nomatch e
 | _::_,[],h,_,_,_=>h.elim
 | (g,gs)::fs,(p,pa)::ps,h,x,f,e=>by
  obtain ⟨⟨e1,xs,k1,k2⟩,h2⟩:=h
  cases (show p=g from e1)
  rw [List.lookup_cons] at e ⊢
  by_cases c:x == g
  ·rw [c] at e ⊢
   cases e
   exact ⟨pa,xs,rfl,k1,k2⟩
  ·have c:(x == g)=false:=by simpa using c
   rw [c] at e ⊢
   exact z4g h2 e
theorem z6o {K:W.Frag}:∀ {fs:List (Str × Int)}{xs:List V},ItemsAll K fs xs->xs.length=fs.length/\∀ {i:Nat}{x:V},xs[i]?=some x->∃f a,fs[i]?=some f/\x=.ref a/\KTup K a [.str f.1,.int f.2]
 | [],[],_=>⟨rfl,λ e=>by simp at e⟩
 | [],_::_,h=>h.elim
 | _::_,[],h=>h.elim
 | f::fs,y::ys,h=>by
  obtain ⟨⟨a,e1,k1⟩,h2⟩:=h
  obtain ⟨l,at2⟩:=z6o h2
  refine ⟨by simp [l],λ {i x} e=>?_⟩
  cases i with
  | zero=>cases e;exact ⟨f,a,rfl,e1,k1⟩
  | succ i=>exact at2 e
theorem x4m {n:Nat}(h:n < 15):n=0\/n=1\/n=2\/n=3\/n=4\/n=5\/n=6\/n=7\/n=8\/n=9\/n=10\/n=11\/n=12\/n=13\/n=14:=by omega
theorem z3o (ns:List Int):(ns.map V.int).length=ns.length:=List.length_map ..
theorem z0h {A B:TS}{D:Ends}{σ:L2.St}{H:Hp}(J:L2.St->Hp->Prop) (h2:∀σ H,J σ H->B D σ H) (h1:∀R:L2.St->Hp->Prop,(∀σ H,J σ H->R σ H)->A { D with nx:=R } σ H):tSeq A B D σ H:=h1 (B D) h2
theorem x1v (ns:List Int) (k:Nat):cutV (ns.map V.int) none (some (k:Int))=(ns.take k).map V.int:=by
 unfold cutV;simp only [HT.sIx,z3o];rw [if_neg (by omega),List.drop_zero,Nat.sub_zero,← List.map_take];congr 1
 by_cases c:k≤ns.length
 ·congr 1;omega
 ·rw [List.take_of_length_le (by omega),List.take_of_length_le (by omega)]
def drawF (c k m:Int):Int:=(c * 48271+(k+1) * (k+1) * 69621) % 2147483647 * ((c * 48271+(k+1) * (k+1) * 69621) % 2147483647) % 2147483629 % m
theorem z0v (c k:Int) {m:Int}(h:0 < m):0≤drawF c k m/\drawF c k m < m:=⟨Int.emod_nonneg _ (by omega),Int.emod_lt_of_pos _ h⟩
def topF (c k:Int):Int:=if drawF c k 2=0 then 5 else 1000
theorem y2j (c k:Int):0 < topF c k:=by unfold topF;split<;>decide
theorem x2h (c k:Int):atI [V.int 5,V.int 1000] (drawF c k 2)=some (.int (topF c k)):=by
 have h:=z0v c k (show (0:Int) < 2 by decide)
 unfold topF
 rcases (show drawF c k 2=0\/drawF c k 2=1 by omega) with e | e<;>rw [e]<;>rfl
def smallsF (c k:Int) (n:Nat):List Int:=(List.range n).map λ (j:Nat)=>drawF c (k+1+(0+(j:Int))) (topF c k)
theorem z5o (c k:Int) (n:Nat):(smallsF c k n).length=n:=by simp [smallsF]
theorem z8j (c k:Int) (n:Nat):smallsF c k (n+1)=smallsF c k n++[drawF c (k+1+(0+(n:Int))) (topF c k)]:=by
 unfold smallsF;rw [List.range_succ,List.map_append];rfl
def wl8:List Str:=["neg", "add", "max", "xor", "zzzzzzzz", "q", "in", "out"]
def letterF (i:Int):Str:=⟨#[97+i.toNat]⟩
def lettersF (c:Int) (n:Nat):List Str:=(List.range n).map λ (j:Nat)=>letterF (drawF c (22+(0+(j:Int))) 26)
theorem z7r (c:Int) (n:Nat):lettersF c (n+1)=lettersF c n++[letterF (drawF c (22+(0+(n:Int))) 26)]:=by
 unfold lettersF;rw [List.range_succ,List.map_append];rfl
theorem z3n (c:Int) (n:Nat):(lettersF c n).length=n:=by simp [lettersF]
theorem x0l:∀i:Fin 26,("abcdefghijklmnopqrstuvwxyz" : Str).cps[i.val]?=some (97+i.val):=by decide +kernel
theorem z3j:("abcdefghijklmnopqrstuvwxyz" : Str).length=26:=by decide +kernel
def wordF (c:Int):Str:=if drawF c 20 12 < 8 then wl8.getD (drawF c 20 12).toNat "" else Builtin.Str.glued "" (lettersF c (1+drawF c 21 8).toNat)
theorem z9q {ws:List Str}{m:Int}(h0:0≤m) (h1:m < ws.length):atI (ws.map V.str) m=some (.str (ws.getD m.toNat "")):=by
 have z:=z0i (xs:=ws.map V.str) (j:=m.toNat) (v:=.str (ws.getD m.toNat "")) (by rw [List.getElem?_map,List.getD_eq_getElem?_getD,List.getElem?_eq_getElem (by omega)];rfl)
 rwa [show ((m.toNat:Nat):Int)=m by omega] at z
def bigF (c:Int):Int:=if drawF c 4 4=0 then [-9223372036854775808,9223372036854775807,0,-1].getD (drawF c 5 4).toNat 0 else if drawF c 4 4=1 then c % 21 - 10 else c % 18446744073709551616 - 9223372036854775808
def kinds:List Str:=["in", "num", "count", "each", "pair", "pick", "turn", "flip", "cut", "spread", "lay", "join", "fetch", "fold", "run"]
def kindS (i:Nat):Str:=kinds.getD i ""
def placesF (fs:List (Str × Int)):List Int:=fs.filterMap λ f=>if f.1=("step" : Str) then some f.2 else none
def argsP (i:Nat):List Int:=placesF ((formsL.getD i ("",[])).2)
theorem y8y {i:Nat}(h:i < 15):formsL.lookup (kindS i)=some ((formsL.getD i ("",[])).2):=by
 have z:∀j:Fin 15,formsL.lookup (kindS j.val)=some ((formsL.getD j.val ("",[])).2):=by decide +kernel
 exact z ⟨i,h⟩
theorem z2i {i:Nat}:((formsL.getD i ("",[])).2).length≤5:=by
 by_cases h:i < 15
 ·have z:∀j:Fin 15,((formsL.getD j.val ("",[])).2).length≤5:=by decide +kernel
  exact z ⟨i,h⟩
 ·rw [List.getD_eq_getElem?_getD,List.getElem?_eq_none (by simp [formsL];omega)];decide
def stepV (i:Nat) (ra:Addr) (w:Str) (b s0 s1 s2 s3 u0 u1 u2:Int):List V :=
 match i with
 | 0=>[.str "in",.ref ra]
 | 1=>[.str "num",.int b]
 | 2=>[.str "count",.ref ra,.int s0]
 | 3=>[.str "each",.str w,.int u0]
 | 4=>[.str "pair",.str w,.int u0,.int u1]
 | 5=>[.str "pick",.int u0,.int u1,.int u2]
 | 6=>[.str "turn",.int u0,.ref ra]
 | 7=>[.str "flip",.int u0,.int s0]
 | 8=>[.str "cut",.int u0,.int s0,.int s1,.int s2,.int s3]
 | 9=>[.str "spread",.int u0,.int s0,.int s1]
 | 10=>[.str "lay",.int u0,.ref ra]
 | 11=>[.str "join",.int u0,.int u1,.int s0]
 | 12=>[.str "fetch",.int u0,.int u1]
 | 13=>[.str "fold",.str w,.int u0,.int s0]
 | _=>[.str "run",.str w,.int u0,.int s0]
theorem z4j {P:Nat->Prop}{i:Nat}(h:i < 15) (h0:P 0) (h1:P 1) (h2:P 2) (h3:P 3) (h4:P 4) (h5:P 5) (h6:P 6) (h7:P 7) (h8:P 8) (h9:P 9) (h10:P 10) (h11:P 11) (h12:P 12) (h13:P 13) (h14:P 14):P i:=by
 match i,h with
 | 0,_=>exact h0
 | 1,_=>exact h1
 | 2,_=>exact h2
 | 3,_=>exact h3
 | 4,_=>exact h4
 | 5,_=>exact h5
 | 6,_=>exact h6
 | 7,_=>exact h7
 | 8,_=>exact h8
 | 9,_=>exact h9
 | 10,_=>exact h10
 | 11,_=>exact h11
 | 12,_=>exact h12
 | 13,_=>exact h13
 | 14,_=>exact h14
 | n+15,h=>omega
theorem z6z {i:Nat}(h:i < 15) (ra:Addr) (w:Str) (b s0 s1 s2 s3 u0 u1 u2:Int):(stepV i ra w b s0 s1 s2 s3 u0 u1 u2)[0]?=some (.str (kindS i)):=by
 revert h
 exact λ h=>z4j (P:=λ i=>(stepV i ra w b s0 s1 s2 s3 u0 u1 u2)[0]?=some (.str (kindS i))) h rfl rfl rfl rfl rfl rfl rfl rfl rfl rfl rfl rfl rfl rfl rfl
def AlAt (H:Hp):Nat->V->V->Prop
 | 0,_,_=>False
 | d+1,x,y=>(∃n,x=.int n/\y=.int n)\/(∃s,x=.str s/\y=.str s)\/∃a b xs ys,x=.ref a/\y=.ref b/\H a=some (.tup xs)/\H b=some (.tup ys)/\xs.length=ys.length/\xs.length≤1000/\∀(i:Nat) x y,xs[i]?=some x->ys[i]?=some y->AlAt H d x y
def AlL (H:Hp) (d:Nat):List V->List V->Prop
 | [],[]=>True
 | x::xs,y::ys=>AlAt H d x y/\AlL H d xs ys
 | _,_=>False
theorem AlL.get {H:Hp}{d:Nat}:∀ {xs ys:List V},AlL H d xs ys->xs.length=ys.length/\∀(i:Nat) x y,xs[i]?=some x->ys[i]?=some y->AlAt H d x y
 | [],[],_=>⟨rfl,λ i x y e=>by simp at e⟩
 | [],_::_,h=>h.elim
 | _::_,[],h=>h.elim
 | x::xs,y::ys,h=>⟨by simp [h.2.get.1],λ i x' y' e1 e2=>by
  cases i with
  | zero=>cases e1;cases e2;exact h.1
  | succ i=>exact h.2.get.2 i x' y' e1 e2⟩
theorem AlAt.tup {H:Hp}{d:Nat}{a b:Addr}{xs ys:List V}(ha:H a=some (.tup xs)) (hb:H b=some (.tup ys)) (l:xs.length≤1000) (h:AlL H d xs ys):AlAt H (d+1) (.ref a) (.ref b)   := Or.inr (.inr ⟨a,b,xs,ys,rfl,rfl,ha,hb,h.get.1,l,h.get.2⟩)
theorem AlAt.same {H H':Hp}(s:Same H H'):∀ {d:Nat}{x y:V},AlAt H d x y->AlAt H' d x y
 | 0,_,_,h=>h.elim
 | d+1,_,_,.inl h=>Or.inl h
 | d+1,_,_,.inr (.inl h)=>Or.inr (.inl h)
 | d+1,_,_,.inr (.inr ⟨a,b,xs,ys,e1,e2,h1,h2,l1,l2,h⟩)=>Or.inr (.inr ⟨a,b,xs,ys,e1,e2,s _ _ h1,s _ _ h2,l1,l2,λ i x y g1 g2=>(h i x y g1 g2).same s⟩)
theorem y7i {i:Nat}(h:i < 15) (ra:Addr) (w:Str) (b s0 s1 s2 s3 u0 u1 u2:Int):(stepV i ra w b s0 s1 s2 s3 u0 u1 u2).length≤6 :=
 z4j (P:=λ i=>(stepV i ra w b s0 s1 s2 s3 u0 u1 u2).length≤6) h (by simp [stepV]) (by simp [stepV]) (by simp [stepV]) (by simp [stepV]) (by simp [stepV]) (by simp [stepV]) (by simp [stepV]) (by simp [stepV]) (by simp [stepV]) (by simp [stepV]) (by simp [stepV]) (by simp [stepV]) (by simp [stepV]) (by simp [stepV]) (by simp [stepV])
def smF (c:Int) (k:Nat):Int:=(smallsF c 50 4).getD k 0
def madeV (i:Nat) (ra:Addr) (c u0 u1 u2:Int):List V:=stepV i ra (wordF c) (bigF c) (smF c 0) (smF c 1) (smF c 2) (smF c 3) u0 u1 u2
def rowF (c:Int):List Int:=smallsF c 40 (drawF c 31 9).toNat
open PySem.NumText in
def D (m:Nat):List Nat:=(Nat.toDigits 10 m).map Char.toNat
theorem x5e:∀d:Nat,d < 10->(Nat.digitChar d).toNat=48+d:=by decide
theorem x2c {m:Nat}(h:m < 10):D m=[48+m]:=by unfold D;rw [Nat.toDigits_of_lt_base h];show [(Nat.digitChar m).toNat]=_;rw [x5e m h]
theorem x4l {m:Nat}(h:10≤m):D m=D (m / 10)++[48+m % 10]:=by
 have hm:m % 10 < 10:=Nat.mod_lt m (by decide)
 have t:Nat.toDigits 10 (m / 10)++Nat.toDigits 10 (m % 10)=Nat.toDigits 10 (10 * (m / 10)+m % 10):=Nat.toDigits_append_toDigits (by decide) (by omega) hm
 rw [Nat.div_add_mod] at t
 unfold D
 rw [← t,List.map_append,Nat.toDigits_of_lt_base hm]
 show _++[(Nat.digitChar (m % 10)).toNat]=_
 rw [x5e _ hm]
theorem y9z (m:Nat):∀c∈D m,48≤c/\c≤57:=by
 induction m using Nat.strongRecOn with
 | _ m ih =>
  intro c hc
  by_cases h:m < 10
  ·rw [x2c h] at hc;cases List.mem_singleton.mp hc;omega
  ·rw [x4l (by omega)] at hc
   rcases List.mem_append.mp hc with hc | hc
   ·exact ih (m / 10) (by omega) c hc
   ·cases List.mem_singleton.mp hc;omega
theorem x5c (m:Nat):1≤(D m).length:=by
 by_cases h:m < 10
 ·rw [x2c h];simp
 ·rw [x4l (by omega)];simp
theorem x4k (k:Nat):∀m:Nat,(D m).length≤k+1 ↔ m < 10 ^ (k+1):=by
 induction k with
 | zero =>
  intro m
  by_cases h:m < 10
  ·rw [x2c h];simp;omega
  ·rw [x4l (by omega),List.length_append]
   have p:=x5c (m / 10)
   constructor
   ·intro z;have z2:(D (m / 10)).length+1≤1:=z;omega
   ·intro z;have z2:m < 10:=z;omega
 | succ k ih =>
  intro m
  by_cases h:m < 10
  ·rw [x2c h]
   have:10≤10 ^ (k+1+1):=Nat.le_trans (by decide) (Nat.pow_le_pow_right (by decide) (show 1≤k+1+1 by omega))
   simp;omega
  ·rw [x4l (by omega),List.length_append]
   have:=ih (m / 10)
   rw [Nat.pow_succ,show (D (m / 10)).length + [48+m % 10].length≤k+1+1 ↔ (D (m / 10)).length≤k+1 by simp,this]
   omega
def digB (c:Nat):Bool:=decide (48≤c) && decide (c≤57)
def madeB (L:List Nat) (m:Int):Bool:=decide (1≤(L.length:Int)) && (decide ((L.length:Int)≤m) && L.all digB)
def figI (L:List Nat) (m:Int):Option Nat:=if madeB L m=true then (if L.head?=some 48/\1 < L.length then none else some (PySem.NumText.digitsVal L)) else none
def rngI (n:Int):Option Int:=if -9223372036854775808≤n/\n≤9223372036854775807 then some n else none
def numI (L:List Nat):Option Int :=
 if L=[45,48] then none else if L.head?=some 45 then (figI (L.drop 1) 19).bind (λ n=>rngI (-(n:Int))) else (figI L 19).bind (λ n=>rngI (n:Int))
def optV:Option Int->V | none=>.non | some n=>.int n
def optN:Option Nat->V | none=>.non | some n=>.int (n:Int)
def lowS (x:Str):Prop:=x.cps.size≤100/\∀c∈x.cps.toList,c < 128
theorem x4a:∀c:Fin 128,(!(Builtin.Str.occurrences "0123456789" ⟨#[c.val]⟩ 0 ("0123456789" : Str).length 1).isEmpty)=digB c.val:=by decide +kernel
def txtL (n:Int):List Nat:=if 0≤n then D n.toNat else 45::D (-n).toNat
theorem z9n (n:Int):(Str.ofString (toString n)).cps.toList=txtL n:=by
 unfold txtL
 by_cases h:0≤n
 ·rw [if_pos h]
  obtain ⟨m,rfl⟩:=Int.eq_ofNat_of_zero_le h
  exact W.KIN.signs_num m
 ·rw [if_neg h]
  obtain ⟨k,rfl⟩:∃k:Nat,n=Int.negSucc k:=⟨(-n - 1).toNat,by omega⟩
  have e:(-(Int.negSucc k)).toNat=k+1:=by omega
  rw [e,PyProof.Rows.signs_ofString]
  show ("-" ++ Nat.repr (k+1)).toList.map Char.toNat=45::D (k+1)
  rw [String.toList_append,List.map_append,Nat.toList_repr]
  rfl
theorem x0n (n:Int) (h:n.natAbs < 10 ^ 20):lowS (Str.ofString (toString n)):=by
 have e:=z9n n
 have l:∀m:Nat,m < 10 ^ 20->(D m).length≤20:=λ m hm=>(x4k 19 m).mpr hm
 refine ⟨?_,?_⟩
 ·rw [← Array.length_toList,e]
  unfold txtL
  split
  ·have:=l n.toNat (by omega);omega
  ·have:=l (-n).toNat (by omega);simp;omega
 ·rw [e]
  unfold txtL
  intro c hc
  split at hc
  ·have:=y9z _ c hc;omega
  ·rcases List.mem_cons.mp hc with rfl | hc
   ·decide
   ·have:=y9z _ c hc;omega
structure Sd where
 kd:Nat
 c:Int
 u0:Nat
 u1:Nat
 u2:Nat
def sI (n:Int):Str:=Str.ofString (toString n)
def stV (d:Sd) (ra:Addr):List V:=madeV d.kd ra d.c d.u0 d.u1 d.u2
def SdAt (H:Hp) (d:Sd) (a:Addr):Prop:=∃ra,H a=some (.tup (stV d ra))/\H ra=some (.tup ((rowF d.c).map V.int))
theorem SdAt.same {H H':Hp}(s:Same H H') {d:Sd}{a:Addr}(h:SdAt H d a):SdAt H' d a:=let ⟨ra,h1,h2⟩:=h;⟨ra,s _ _ h1,s _ _ h2⟩
def SdOk (n:Nat) (d:Sd):Prop:=d.kd < 15/\d.u0 < n/\d.u1 < n/\d.u2 < n
def NmAt (H:Hp) (a:Addr) (nm:List Str):Prop:=H a=some (.lst (nm.map V.str))\/H a=some (.tup (nm.map V.str))
theorem NmAt.same {H H':Hp}(s:Same H H') {a:Addr}{nm:List Str}(h:NmAt H a nm):NmAt H' a nm:=h.imp (s _ _) (s _ _)
def SdsAt (H:Hp) (ds:List Sd) (as:List Addr):Prop:=as.length=ds.length/\∀(i:Nat) d,ds[i]?=some d->∃a,as[i]?=some a/\SdAt H d a
theorem SdsAt.same {H H':Hp}{ds:List Sd}{as:List Addr}(h:SdsAt H ds as) (s:Same H H'):SdsAt H' ds as:=⟨h.1,λ i d e=>let ⟨a,e1,l⟩:=h.2 i d e;⟨a,e1,l.same s⟩⟩
theorem SdAt.lst {H:Hp}{d:Sd}{a l:Addr}{xs:List V}{o:HO}(h:SdAt H d a) (hl:H l=some (.lst xs)):SdAt (upd H l o) d a:=by
 obtain ⟨ra,h1,h2⟩:=h
 exact ⟨ra,by rw [z0m (λ z=>by rw [z,hl] at h1;cases h1)];exact h1,by rw [z0m (λ z=>by rw [z,hl] at h2;cases h2)];exact h2⟩
theorem SdsAt.lst {H:Hp}{ds:List Sd}{as:List Addr}{l:Addr}{xs:List V}{o:HO}(h:SdsAt H ds as) (hl:H l=some (.lst xs)):SdsAt (upd H l o) ds as:=⟨h.1,λ i d e=>let ⟨a,e1,g⟩:=h.2 i d e;⟨a,e1,g.lst hl⟩⟩
theorem SdsAt.snoc {H:Hp}{ds:List Sd}{as:List Addr}{d:Sd}{a:Addr}(h:SdsAt H ds as) (g:SdAt H d a):SdsAt H (ds++[d]) (as++[a]):=by
 refine ⟨by simp [h.1],λ i d' e=>?_⟩
 rcases Nat.lt_trichotomy i ds.length with hi | hi | hi
 ·rw [List.getElem?_append_left hi] at e
  obtain ⟨b,e1,l⟩:=h.2 i d' e
  exact ⟨b,by rw [List.getElem?_append_left (by rw [h.1];exact hi)];exact e1,l⟩
 ·subst hi
  rw [List.getElem?_append_right (Nat.le_refl _),Nat.sub_self] at e
  cases (Option.some.inj e)
  exact ⟨a,by rw [List.getElem?_append_right (by rw [h.1];exact Nat.le_refl _),h.1,Nat.sub_self];rfl,g⟩
 ·rw [List.getElem?_eq_none (by simp;omega)] at e;cases e
theorem x4h {ns:List Int}{k:Nat}(h:k < ns.length):atI (ns.map V.int) (k:Int)=some (.int (ns.getD k 0)):=z0i (by rw [List.getElem?_map,List.getD_eq_getElem?_getD,List.getElem?_eq_getElem h];rfl)
def nmOk (nm:List Str):Prop:=nm.length≤40/\∀x∈nm,x.length≤20
def smR (row:List Int):Prop:=row.length≤8/\∀n∈row,0≤n/\n < 1000
theorem z7b (c k:Int) (n:Nat):∀x∈smallsF c k n,0≤x/\x < 1000:=λ x hx=>by
 obtain ⟨j,_,rfl⟩:=List.mem_map.mp hx
 have r:=z0v c (k+1+(0+(j:Int))) (y2j c k)
 have t:topF c k≤1000:=by unfold topF;split<;>decide
 omega
theorem y3g (c:Int):smR (rowF c):=by
 refine ⟨?_,z7b _ _ _⟩
 unfold rowF;rw [z5o]
 have:=z0v c 31 (show (0:Int) < 9 by decide)
 omega
theorem z2g (c:Int) (k:Nat):0≤smF c k/\smF c k < 1000:=by
 unfold smF
 rw [List.getD_eq_getElem?_getD]
 cases e:(smallsF c 50 4)[k]? with
 | none=>simp
 | some x=>exact z7b _ _ _ x (List.mem_of_getElem? e)
theorem z2j (c:Int) (k:Nat):(smF c k).natAbs < 10 ^ 20:=by have:=z2g c k;omega
theorem x0j (c:Int):(bigF c).natAbs < 10 ^ 20:=by
 unfold bigF
 split
 ·have r:=z0v c 5 (show (0:Int) < 4 by decide)
  generalize drawF c 5 4=z at *
  rcases (show z=0\/z=1\/z=2\/z=3 by omega) with rfl | rfl | rfl | rfl<;>decide
 ·split<;>omega
theorem z7p {n:Int}(h:n.natAbs < 10 ^ 20):n.natAbs.log2 < 1920:=by
 by_cases z:n.natAbs=0
 ·rw [z];decide
 ·exact Nat.lt_of_lt_of_le ((Nat.log2_lt z).mpr (Nat.lt_of_lt_of_le h (show 10 ^ 20≤2 ^ 67 by decide))) (by decide)
theorem z2k (c:Int):(wordF c).length≤100:=by
 unfold wordF
 split
 ·have r:=z0v c 20 (show (0:Int) < 12 by decide)
  have z:∀i:Fin 8,(wl8.getD i.val "").length≤100:=by decide +kernel
  exact z ⟨(drawF c 20 12).toNat,by omega⟩
 ·have r:=z0v c 21 (show (0:Int) < 8 by decide)
  refine Nat.le_trans (z2b _ _) (Nat.le_trans (z3q (k:=1) λ y hy=>?_) ?_)
  ·obtain ⟨j,_,rfl⟩:=List.mem_map.mp hy
   exact Nat.le_refl 1
  ·rw [z3n]
   have:("" : Str).length=0:=by decide +kernel
   rw [this];omega
theorem z9r {n:Int}(h:n.natAbs < 10 ^ 20):(sI n).length≤100:=(x0n n h).1
def PwOk (H:Hp) (nm:List Str) (kind:Str) (part:V) (ws:List Str):Prop :=
 (kind = "step" /\ ∃(u:Nat) (x:Str),part=.int (u:Int)/\nm[u]?=some x/\ws=[x])\/(kind = "sides" /\ ∃a row,part=.ref a/\H a=some (.tup (row.map V.int))/\smR row/\ws=row.map sI) \/
 (kind ≠ "step" /\ kind ≠ "sides" /\ ((∃n:Int,part=.int n/\n.natAbs < 10 ^ 20/\ws=[sI n])\/∃t,part=.str t/\t.length≤100/\ws=[t]))
def partsL (d:Sd) (nm:List Str):List (List Str) :=
 match d.kd with
 | 0=>[(rowF d.c).map sI]
 | 1=>[[sI (bigF d.c)]]
 | 2=>[[sI (smF d.c 0)],(rowF d.c).map sI]
 | 3=>[[wordF d.c],[nm.getD d.u0 ""]]
 | 4=>[[wordF d.c],[nm.getD d.u0 ""],[nm.getD d.u1 ""]]
 | 5=>[[nm.getD d.u0 ""],[nm.getD d.u1 ""],[nm.getD d.u2 ""]]
 | 6=>[[nm.getD d.u0 ""],(rowF d.c).map sI]
 | 7=>[[nm.getD d.u0 ""],[sI (smF d.c 0)]]
 | 8=>[[nm.getD d.u0 ""],[sI (smF d.c 0)],[sI (smF d.c 1)],[sI (smF d.c 2)],[sI (smF d.c 3)]]
 | 9=>[[nm.getD d.u0 ""],[sI (smF d.c 0)],[sI (smF d.c 1)]]
 | 10=>[[nm.getD d.u0 ""],(rowF d.c).map sI]
 | 11=>[[nm.getD d.u0 ""],[nm.getD d.u1 ""],[sI (smF d.c 0)]]
 | 12=>[[nm.getD d.u0 ""],[nm.getD d.u1 ""]]
 | 13=>[[wordF d.c],[nm.getD d.u0 ""],[sI (smF d.c 0)]]
 | _=>[[wordF d.c],[nm.getD d.u0 ""],[sI (smF d.c 0)]]
def lawL (d:Sd) (nm:List Str):List (List Str) :=
 match d.kd with
 | 0=>[(rowF d.c).map sI]
 | 1=>[[sI (bigF d.c)]]
 | 2=>[(rowF d.c).map sI,[]]
 | 3=>[[wordF d.c],[nm.getD d.u0 ""]]
 | 4=>[[wordF d.c],[nm.getD d.u0 ""],[nm.getD d.u1 ""]]
 | 5=>[[nm.getD d.u0 ""],[nm.getD d.u1 ""],[nm.getD d.u2 ""]]
 | 6=>[[nm.getD d.u0 ""],(rowF d.c).map sI]
 | 7=>[[nm.getD d.u0 ""],[sI (smF d.c 0)]]
 | 8=>[[nm.getD d.u0 ""],[sI (smF d.c 0)],[sI (smF d.c 1)],[sI (smF d.c 2)],[sI (smF d.c 3)]]
 | 9=>[[nm.getD d.u0 ""],[sI (smF d.c 0)],[sI (smF d.c 1)]]
 | 10=>[[nm.getD d.u0 ""],(rowF d.c).map sI]
 | 11=>[[nm.getD d.u0 ""],[nm.getD d.u1 ""],[sI (smF d.c 0)]]
 | 12=>[[nm.getD d.u0 ""],[nm.getD d.u1 ""]]
 | 13=>[[wordF d.c],[nm.getD d.u0 ""],[sI (smF d.c 0)]]
 | _=>[[wordF d.c],[nm.getD d.u0 ""],[sI (smF d.c 0)]]
def wordsF (d:Sd) (nm:List Str):List Str:=(partsL d nm).flatten
def rowS (d:Sd) (name:Str) (nm:List Str):Str:=Builtin.Str.glued " " ([name, "=",kindS d.kd]++wordsF d nm)
theorem z8h {nm:List Str}{u:Nat}(h:u < nm.length):nm[u]?=some (nm.getD u ""):=by
 rw [List.getD_eq_getElem?_getD,List.getElem?_eq_getElem h];rfl
theorem z8v {H:Hp}{nm:List Str}{d:Sd}{ra:Addr}(ok:SdOk nm.length d) (hr:H ra=some (.tup ((rowF d.c).map V.int))):∀(j:Nat) f,((formsL.getD d.kd ("",[])).2)[j]?=some f->∃x ws,atI (stV d ra) f.2=some x/\(partsL d nm)[j]?=some ws/\PwOk H nm f.1 x ws:=by
 obtain ⟨hk,l0,l1,l2⟩:=ok
 have hu0:=z8h l0
 have hu1:=z8h l1
 have hu2:=z8h l2
 have smr:=y3g d.c
 rcases (x4m ‹d.kd < 15›) with hk | hk | hk | hk | hk | hk | hk | hk | hk | hk | hk | hk | hk | hk | hk
 ·rcases d with ⟨kd,c,u0,u1,u2⟩;cases (show kd=0 from hk)
  intro j f e
  match j,e with
  | 0,e=>cases (Option.some.inj (show some (("sides" : Str),(1:Int))=some f from e));exact ⟨_,_,rfl,rfl,Or.inr (.inl ⟨rfl,ra,rowF (⟨0,c,u0,u1,u2⟩:Sd).c,rfl,hr,smr,rfl⟩)⟩
  | n+1,e=>cases e
 ·rcases d with ⟨kd,c,u0,u1,u2⟩;cases (show kd=1 from hk)
  intro j f e
  match j,e with
  | 0,e=>cases (Option.some.inj (show some (("number" : Str),(1:Int))=some f from e));exact ⟨_,_,rfl,rfl,Or.inr (.inr ⟨by decide +kernel,by decide +kernel,.inl ⟨bigF (⟨1,c,u0,u1,u2⟩:Sd).c,rfl,x0j c,rfl⟩⟩)⟩
  | n+1,e=>cases e
 ·rcases d with ⟨kd,c,u0,u1,u2⟩;cases (show kd=2 from hk)
  intro j f e
  match j,e with
  | 0,e=>cases (Option.some.inj (show some (("small" : Str),(2:Int))=some f from e));exact ⟨_,_,rfl,rfl,Or.inr (.inr ⟨by decide +kernel,by decide +kernel,.inl ⟨smF (⟨2,c,u0,u1,u2⟩:Sd).c 0,rfl,z2j c 0,rfl⟩⟩)⟩
  | 1,e=>cases (Option.some.inj (show some (("sides" : Str),(1:Int))=some f from e));exact ⟨_,_,rfl,rfl,Or.inr (.inl ⟨rfl,ra,rowF (⟨2,c,u0,u1,u2⟩:Sd).c,rfl,hr,smr,rfl⟩)⟩
  | n+2,e=>cases e
 ·rcases d with ⟨kd,c,u0,u1,u2⟩;cases (show kd=3 from hk)
  intro j f e
  match j,e with
  | 0,e=>cases (Option.some.inj (show some (("word" : Str),(1:Int))=some f from e));exact ⟨_,_,rfl,rfl,Or.inr (.inr ⟨by decide +kernel,by decide +kernel,.inr ⟨wordF (⟨3,c,u0,u1,u2⟩:Sd).c,rfl,z2k c,rfl⟩⟩)⟩
  | 1,e=>cases (Option.some.inj (show some (("step" : Str),(2:Int))=some f from e));exact ⟨_,_,rfl,rfl,Or.inl ⟨rfl,(⟨3,c,u0,u1,u2⟩:Sd).u0,_,rfl,hu0,rfl⟩⟩
  | n+2,e=>cases e
 ·rcases d with ⟨kd,c,u0,u1,u2⟩;cases (show kd=4 from hk)
  intro j f e
  match j,e with
  | 0,e=>cases (Option.some.inj (show some (("word" : Str),(1:Int))=some f from e));exact ⟨_,_,rfl,rfl,Or.inr (.inr ⟨by decide +kernel,by decide +kernel,.inr ⟨wordF (⟨4,c,u0,u1,u2⟩:Sd).c,rfl,z2k c,rfl⟩⟩)⟩
  | 1,e=>cases (Option.some.inj (show some (("step" : Str),(2:Int))=some f from e));exact ⟨_,_,rfl,rfl,Or.inl ⟨rfl,(⟨4,c,u0,u1,u2⟩:Sd).u0,_,rfl,hu0,rfl⟩⟩
  | 2,e=>cases (Option.some.inj (show some (("step" : Str),(3:Int))=some f from e));exact ⟨_,_,rfl,rfl,Or.inl ⟨rfl,(⟨4,c,u0,u1,u2⟩:Sd).u1,_,rfl,hu1,rfl⟩⟩
  | n+3,e=>cases e
 ·rcases d with ⟨kd,c,u0,u1,u2⟩;cases (show kd=5 from hk)
  intro j f e
  match j,e with
  | 0,e=>cases (Option.some.inj (show some (("step" : Str),(1:Int))=some f from e));exact ⟨_,_,rfl,rfl,Or.inl ⟨rfl,(⟨5,c,u0,u1,u2⟩:Sd).u0,_,rfl,hu0,rfl⟩⟩
  | 1,e=>cases (Option.some.inj (show some (("step" : Str),(2:Int))=some f from e));exact ⟨_,_,rfl,rfl,Or.inl ⟨rfl,(⟨5,c,u0,u1,u2⟩:Sd).u1,_,rfl,hu1,rfl⟩⟩
  | 2,e=>cases (Option.some.inj (show some (("step" : Str),(3:Int))=some f from e));exact ⟨_,_,rfl,rfl,Or.inl ⟨rfl,(⟨5,c,u0,u1,u2⟩:Sd).u2,_,rfl,hu2,rfl⟩⟩
  | n+3,e=>cases e
 ·rcases d with ⟨kd,c,u0,u1,u2⟩;cases (show kd=6 from hk)
  intro j f e
  match j,e with
  | 0,e=>cases (Option.some.inj (show some (("step" : Str),(1:Int))=some f from e));exact ⟨_,_,rfl,rfl,Or.inl ⟨rfl,(⟨6,c,u0,u1,u2⟩:Sd).u0,_,rfl,hu0,rfl⟩⟩
  | 1,e=>cases (Option.some.inj (show some (("sides" : Str),(2:Int))=some f from e));exact ⟨_,_,rfl,rfl,Or.inr (.inl ⟨rfl,ra,rowF (⟨6,c,u0,u1,u2⟩:Sd).c,rfl,hr,smr,rfl⟩)⟩
  | n+2,e=>cases e
 ·rcases d with ⟨kd,c,u0,u1,u2⟩;cases (show kd=7 from hk)
  intro j f e
  match j,e with
  | 0,e=>cases (Option.some.inj (show some (("step" : Str),(1:Int))=some f from e));exact ⟨_,_,rfl,rfl,Or.inl ⟨rfl,(⟨7,c,u0,u1,u2⟩:Sd).u0,_,rfl,hu0,rfl⟩⟩
  | 1,e=>cases (Option.some.inj (show some (("small" : Str),(2:Int))=some f from e));exact ⟨_,_,rfl,rfl,Or.inr (.inr ⟨by decide +kernel,by decide +kernel,.inl ⟨smF (⟨7,c,u0,u1,u2⟩:Sd).c 0,rfl,z2j c 0,rfl⟩⟩)⟩
  | n+2,e=>cases e
 ·rcases d with ⟨kd,c,u0,u1,u2⟩;cases (show kd=8 from hk)
  intro j f e
  match j,e with
  | 0,e=>cases (Option.some.inj (show some (("step" : Str),(1:Int))=some f from e));exact ⟨_,_,rfl,rfl,Or.inl ⟨rfl,(⟨8,c,u0,u1,u2⟩:Sd).u0,_,rfl,hu0,rfl⟩⟩
  | 1,e=>cases (Option.some.inj (show some (("small" : Str),(2:Int))=some f from e));exact ⟨_,_,rfl,rfl,Or.inr (.inr ⟨by decide +kernel,by decide +kernel,.inl ⟨smF (⟨8,c,u0,u1,u2⟩:Sd).c 0,rfl,z2j c 0,rfl⟩⟩)⟩
  | 2,e=>cases (Option.some.inj (show some (("small" : Str),(3:Int))=some f from e));exact ⟨_,_,rfl,rfl,Or.inr (.inr ⟨by decide +kernel,by decide +kernel,.inl ⟨smF (⟨8,c,u0,u1,u2⟩:Sd).c 1,rfl,z2j c 1,rfl⟩⟩)⟩
  | 3,e=>cases (Option.some.inj (show some (("small" : Str),(4:Int))=some f from e));exact ⟨_,_,rfl,rfl,Or.inr (.inr ⟨by decide +kernel,by decide +kernel,.inl ⟨smF (⟨8,c,u0,u1,u2⟩:Sd).c 2,rfl,z2j c 2,rfl⟩⟩)⟩
  | 4,e=>cases (Option.some.inj (show some (("small" : Str),(5:Int))=some f from e));exact ⟨_,_,rfl,rfl,Or.inr (.inr ⟨by decide +kernel,by decide +kernel,.inl ⟨smF (⟨8,c,u0,u1,u2⟩:Sd).c 3,rfl,z2j c 3,rfl⟩⟩)⟩
  | n+5,e=>cases e
 ·rcases d with ⟨kd,c,u0,u1,u2⟩;cases (show kd=9 from hk)
  intro j f e
  match j,e with
  | 0,e=>cases (Option.some.inj (show some (("step" : Str),(1:Int))=some f from e));exact ⟨_,_,rfl,rfl,Or.inl ⟨rfl,(⟨9,c,u0,u1,u2⟩:Sd).u0,_,rfl,hu0,rfl⟩⟩
  | 1,e=>cases (Option.some.inj (show some (("small" : Str),(2:Int))=some f from e));exact ⟨_,_,rfl,rfl,Or.inr (.inr ⟨by decide +kernel,by decide +kernel,.inl ⟨smF (⟨9,c,u0,u1,u2⟩:Sd).c 0,rfl,z2j c 0,rfl⟩⟩)⟩
  | 2,e=>cases (Option.some.inj (show some (("small" : Str),(3:Int))=some f from e));exact ⟨_,_,rfl,rfl,Or.inr (.inr ⟨by decide +kernel,by decide +kernel,.inl ⟨smF (⟨9,c,u0,u1,u2⟩:Sd).c 1,rfl,z2j c 1,rfl⟩⟩)⟩
  | n+3,e=>cases e
 ·rcases d with ⟨kd,c,u0,u1,u2⟩;cases (show kd=10 from hk)
  intro j f e
  match j,e with
  | 0,e=>cases (Option.some.inj (show some (("step" : Str),(1:Int))=some f from e));exact ⟨_,_,rfl,rfl,Or.inl ⟨rfl,(⟨10,c,u0,u1,u2⟩:Sd).u0,_,rfl,hu0,rfl⟩⟩
  | 1,e=>cases (Option.some.inj (show some (("sides" : Str),(2:Int))=some f from e));exact ⟨_,_,rfl,rfl,Or.inr (.inl ⟨rfl,ra,rowF (⟨10,c,u0,u1,u2⟩:Sd).c,rfl,hr,smr,rfl⟩)⟩
  | n+2,e=>cases e
 ·rcases d with ⟨kd,c,u0,u1,u2⟩;cases (show kd=11 from hk)
  intro j f e
  match j,e with
  | 0,e=>cases (Option.some.inj (show some (("step" : Str),(1:Int))=some f from e));exact ⟨_,_,rfl,rfl,Or.inl ⟨rfl,(⟨11,c,u0,u1,u2⟩:Sd).u0,_,rfl,hu0,rfl⟩⟩
  | 1,e=>cases (Option.some.inj (show some (("step" : Str),(2:Int))=some f from e));exact ⟨_,_,rfl,rfl,Or.inl ⟨rfl,(⟨11,c,u0,u1,u2⟩:Sd).u1,_,rfl,hu1,rfl⟩⟩
  | 2,e=>cases (Option.some.inj (show some (("small" : Str),(3:Int))=some f from e));exact ⟨_,_,rfl,rfl,Or.inr (.inr ⟨by decide +kernel,by decide +kernel,.inl ⟨smF (⟨11,c,u0,u1,u2⟩:Sd).c 0,rfl,z2j c 0,rfl⟩⟩)⟩
  | n+3,e=>cases e
 ·rcases d with ⟨kd,c,u0,u1,u2⟩;cases (show kd=12 from hk)
  intro j f e
  match j,e with
  | 0,e=>cases (Option.some.inj (show some (("step" : Str),(1:Int))=some f from e));exact ⟨_,_,rfl,rfl,Or.inl ⟨rfl,(⟨12,c,u0,u1,u2⟩:Sd).u0,_,rfl,hu0,rfl⟩⟩
  | 1,e=>cases (Option.some.inj (show some (("step" : Str),(2:Int))=some f from e));exact ⟨_,_,rfl,rfl,Or.inl ⟨rfl,(⟨12,c,u0,u1,u2⟩:Sd).u1,_,rfl,hu1,rfl⟩⟩
  | n+2,e=>cases e
 ·rcases d with ⟨kd,c,u0,u1,u2⟩;cases (show kd=13 from hk)
  intro j f e
  match j,e with
  | 0,e=>cases (Option.some.inj (show some (("word" : Str),(1:Int))=some f from e));exact ⟨_,_,rfl,rfl,Or.inr (.inr ⟨by decide +kernel,by decide +kernel,.inr ⟨wordF (⟨13,c,u0,u1,u2⟩:Sd).c,rfl,z2k c,rfl⟩⟩)⟩
  | 1,e=>cases (Option.some.inj (show some (("step" : Str),(2:Int))=some f from e));exact ⟨_,_,rfl,rfl,Or.inl ⟨rfl,(⟨13,c,u0,u1,u2⟩:Sd).u0,_,rfl,hu0,rfl⟩⟩
  | 2,e=>cases (Option.some.inj (show some (("small" : Str),(3:Int))=some f from e));exact ⟨_,_,rfl,rfl,Or.inr (.inr ⟨by decide +kernel,by decide +kernel,.inl ⟨smF (⟨13,c,u0,u1,u2⟩:Sd).c 0,rfl,z2j c 0,rfl⟩⟩)⟩
  | n+3,e=>cases e
 ·rcases d with ⟨kd,c,u0,u1,u2⟩;cases (show kd=14 from hk)
  intro j f e
  match j,e with
  | 0,e=>cases (Option.some.inj (show some (("word" : Str),(1:Int))=some f from e));exact ⟨_,_,rfl,rfl,Or.inr (.inr ⟨by decide +kernel,by decide +kernel,.inr ⟨wordF (⟨14,c,u0,u1,u2⟩:Sd).c,rfl,z2k c,rfl⟩⟩)⟩
  | 1,e=>cases (Option.some.inj (show some (("step" : Str),(2:Int))=some f from e));exact ⟨_,_,rfl,rfl,Or.inl ⟨rfl,(⟨14,c,u0,u1,u2⟩:Sd).u0,_,rfl,hu0,rfl⟩⟩
  | 2,e=>cases (Option.some.inj (show some (("small" : Str),(3:Int))=some f from e));exact ⟨_,_,rfl,rfl,Or.inr (.inr ⟨by decide +kernel,by decide +kernel,.inl ⟨smF (⟨14,c,u0,u1,u2⟩:Sd).c 0,rfl,z2j c 0,rfl⟩⟩)⟩
  | n+3,e=>cases e
def LwOk (H:Hp) (nm:List Str) (kd:Nat) (k:Nat) (part:V) (ws:List Str):Prop :=
 (∃a row,part=.ref a/\H a=some (.tup (row.map V.int))/\smR row/\ws=row.map sI)\/(∃t,part=.str t/\t.length≤100/\ws=[t])\/(∃n:Int,part=.int n/\kd=2/\ws=[]) \/
 (∃n:Int,part=.int n/\kd≠2/\(((k:Int)∈argsP kd/\∃(u:Nat) (x:Str),n=(u:Int)/\nm[u]?=some x/\ws=[x])\/((k:Int) ∉ argsP kd/\n.natAbs < 10 ^ 20/\ws=[sI n])))
theorem x3k {H:Hp}{nm:List Str}{d:Sd}{ra:Addr}(ok:SdOk nm.length d) (hr:H ra=some (.tup ((rowF d.c).map V.int))):∀(i:Nat),i+1 < (stV d ra).length->∃x ws,(stV d ra)[i+1]?=some x/\(lawL d nm)[i]?=some ws/\LwOk H nm d.kd (i+1) x ws:=by
 obtain ⟨hk,l0,l1,l2⟩:=ok
 have hu0:=z8h l0
 have hu1:=z8h l1
 have hu2:=z8h l2
 have smr:=y3g d.c
 rcases (x4m ‹d.kd < 15›) with hk | hk | hk | hk | hk | hk | hk | hk | hk | hk | hk | hk | hk | hk | hk
 ·rcases d with ⟨kd,c,u0,u1,u2⟩;cases (show kd=0 from hk)
  intro i hi
  match i,hi with
  | 0,_=>exact ⟨_,_,rfl,rfl,Or.inl ⟨ra,rowF c,rfl,hr,smr,rfl⟩⟩
  | n+1,hi=>exact absurd hi (by show ¬n+1+1 < 2;omega)
 ·rcases d with ⟨kd,c,u0,u1,u2⟩;cases (show kd=1 from hk)
  intro i hi
  match i,hi with
  | 0,_=>exact ⟨_,_,rfl,rfl,Or.inr (.inr (.inr ⟨bigF c,rfl,(show (1:Nat)≠2 by decide),.inr ⟨(show ((1:Nat):Int) ∉ argsP 1 by decide +kernel),x0j c,rfl⟩⟩))⟩
  | n+1,hi=>exact absurd hi (by show ¬n+1+1 < 2;omega)
 ·rcases d with ⟨kd,c,u0,u1,u2⟩;cases (show kd=2 from hk)
  intro i hi
  match i,hi with
  | 0,_=>exact ⟨_,_,rfl,rfl,Or.inl ⟨ra,rowF c,rfl,hr,smr,rfl⟩⟩
  | 1,_=>exact ⟨_,_,rfl,rfl,Or.inr (.inr (.inl ⟨smF c 0,rfl,rfl,rfl⟩))⟩
  | n+2,hi=>exact absurd hi (by show ¬n+2+1 < 3;omega)
 ·rcases d with ⟨kd,c,u0,u1,u2⟩;cases (show kd=3 from hk)
  intro i hi
  match i,hi with
  | 0,_=>exact ⟨_,_,rfl,rfl,Or.inr (.inl ⟨wordF c,rfl,z2k c,rfl⟩)⟩
  | 1,_=>exact ⟨_,_,rfl,rfl,Or.inr (.inr (.inr ⟨(u0:Int),rfl,(show (3:Nat)≠2 by decide),.inl ⟨(show ((2:Nat):Int)∈argsP 3 by decide +kernel),u0,_,rfl,hu0,rfl⟩⟩))⟩
  | n+2,hi=>exact absurd hi (by show ¬n+2+1 < 3;omega)
 ·rcases d with ⟨kd,c,u0,u1,u2⟩;cases (show kd=4 from hk)
  intro i hi
  match i,hi with
  | 0,_=>exact ⟨_,_,rfl,rfl,Or.inr (.inl ⟨wordF c,rfl,z2k c,rfl⟩)⟩
  | 1,_=>exact ⟨_,_,rfl,rfl,Or.inr (.inr (.inr ⟨(u0:Int),rfl,(show (4:Nat)≠2 by decide),.inl ⟨(show ((2:Nat):Int)∈argsP 4 by decide +kernel),u0,_,rfl,hu0,rfl⟩⟩))⟩
  | 2,_=>exact ⟨_,_,rfl,rfl,Or.inr (.inr (.inr ⟨(u1:Int),rfl,(show (4:Nat)≠2 by decide),.inl ⟨(show ((3:Nat):Int)∈argsP 4 by decide +kernel),u1,_,rfl,hu1,rfl⟩⟩))⟩
  | n+3,hi=>exact absurd hi (by show ¬n+3+1 < 4;omega)
 ·rcases d with ⟨kd,c,u0,u1,u2⟩;cases (show kd=5 from hk)
  intro i hi
  match i,hi with
  | 0,_=>exact ⟨_,_,rfl,rfl,Or.inr (.inr (.inr ⟨(u0:Int),rfl,(show (5:Nat)≠2 by decide),.inl ⟨(show ((1:Nat):Int)∈argsP 5 by decide +kernel),u0,_,rfl,hu0,rfl⟩⟩))⟩
  | 1,_=>exact ⟨_,_,rfl,rfl,Or.inr (.inr (.inr ⟨(u1:Int),rfl,(show (5:Nat)≠2 by decide),.inl ⟨(show ((2:Nat):Int)∈argsP 5 by decide +kernel),u1,_,rfl,hu1,rfl⟩⟩))⟩
  | 2,_=>exact ⟨_,_,rfl,rfl,Or.inr (.inr (.inr ⟨(u2:Int),rfl,(show (5:Nat)≠2 by decide),.inl ⟨(show ((3:Nat):Int)∈argsP 5 by decide +kernel),u2,_,rfl,hu2,rfl⟩⟩))⟩
  | n+3,hi=>exact absurd hi (by show ¬n+3+1 < 4;omega)
 ·rcases d with ⟨kd,c,u0,u1,u2⟩;cases (show kd=6 from hk)
  intro i hi
  match i,hi with
  | 0,_=>exact ⟨_,_,rfl,rfl,Or.inr (.inr (.inr ⟨(u0:Int),rfl,(show (6:Nat)≠2 by decide),.inl ⟨(show ((1:Nat):Int)∈argsP 6 by decide +kernel),u0,_,rfl,hu0,rfl⟩⟩))⟩
  | 1,_=>exact ⟨_,_,rfl,rfl,Or.inl ⟨ra,rowF c,rfl,hr,smr,rfl⟩⟩
  | n+2,hi=>exact absurd hi (by show ¬n+2+1 < 3;omega)
 ·rcases d with ⟨kd,c,u0,u1,u2⟩;cases (show kd=7 from hk)
  intro i hi
  match i,hi with
  | 0,_=>exact ⟨_,_,rfl,rfl,Or.inr (.inr (.inr ⟨(u0:Int),rfl,(show (7:Nat)≠2 by decide),.inl ⟨(show ((1:Nat):Int)∈argsP 7 by decide +kernel),u0,_,rfl,hu0,rfl⟩⟩))⟩
  | 1,_=>exact ⟨_,_,rfl,rfl,Or.inr (.inr (.inr ⟨smF c 0,rfl,(show (7:Nat)≠2 by decide),.inr ⟨(show ((2:Nat):Int) ∉ argsP 7 by decide +kernel),z2j c 0,rfl⟩⟩))⟩
  | n+2,hi=>exact absurd hi (by show ¬n+2+1 < 3;omega)
 ·rcases d with ⟨kd,c,u0,u1,u2⟩;cases (show kd=8 from hk)
  intro i hi
  match i,hi with
  | 0,_=>exact ⟨_,_,rfl,rfl,Or.inr (.inr (.inr ⟨(u0:Int),rfl,(show (8:Nat)≠2 by decide),.inl ⟨(show ((1:Nat):Int)∈argsP 8 by decide +kernel),u0,_,rfl,hu0,rfl⟩⟩))⟩
  | 1,_=>exact ⟨_,_,rfl,rfl,Or.inr (.inr (.inr ⟨smF c 0,rfl,(show (8:Nat)≠2 by decide),.inr ⟨(show ((2:Nat):Int) ∉ argsP 8 by decide +kernel),z2j c 0,rfl⟩⟩))⟩
  | 2,_=>exact ⟨_,_,rfl,rfl,Or.inr (.inr (.inr ⟨smF c 1,rfl,(show (8:Nat)≠2 by decide),.inr ⟨(show ((3:Nat):Int) ∉ argsP 8 by decide +kernel),z2j c 1,rfl⟩⟩))⟩
  | 3,_=>exact ⟨_,_,rfl,rfl,Or.inr (.inr (.inr ⟨smF c 2,rfl,(show (8:Nat)≠2 by decide),.inr ⟨(show ((4:Nat):Int) ∉ argsP 8 by decide +kernel),z2j c 2,rfl⟩⟩))⟩
  | 4,_=>exact ⟨_,_,rfl,rfl,Or.inr (.inr (.inr ⟨smF c 3,rfl,(show (8:Nat)≠2 by decide),.inr ⟨(show ((5:Nat):Int) ∉ argsP 8 by decide +kernel),z2j c 3,rfl⟩⟩))⟩
  | n+5,hi=>exact absurd hi (by show ¬n+5+1 < 6;omega)
 ·rcases d with ⟨kd,c,u0,u1,u2⟩;cases (show kd=9 from hk)
  intro i hi
  match i,hi with
  | 0,_=>exact ⟨_,_,rfl,rfl,Or.inr (.inr (.inr ⟨(u0:Int),rfl,(show (9:Nat)≠2 by decide),.inl ⟨(show ((1:Nat):Int)∈argsP 9 by decide +kernel),u0,_,rfl,hu0,rfl⟩⟩))⟩
  | 1,_=>exact ⟨_,_,rfl,rfl,Or.inr (.inr (.inr ⟨smF c 0,rfl,(show (9:Nat)≠2 by decide),.inr ⟨(show ((2:Nat):Int) ∉ argsP 9 by decide +kernel),z2j c 0,rfl⟩⟩))⟩
  | 2,_=>exact ⟨_,_,rfl,rfl,Or.inr (.inr (.inr ⟨smF c 1,rfl,(show (9:Nat)≠2 by decide),.inr ⟨(show ((3:Nat):Int) ∉ argsP 9 by decide +kernel),z2j c 1,rfl⟩⟩))⟩
  | n+3,hi=>exact absurd hi (by show ¬n+3+1 < 4;omega)
 ·rcases d with ⟨kd,c,u0,u1,u2⟩;cases (show kd=10 from hk)
  intro i hi
  match i,hi with
  | 0,_=>exact ⟨_,_,rfl,rfl,Or.inr (.inr (.inr ⟨(u0:Int),rfl,(show (10:Nat)≠2 by decide),.inl ⟨(show ((1:Nat):Int)∈argsP 10 by decide +kernel),u0,_,rfl,hu0,rfl⟩⟩))⟩
  | 1,_=>exact ⟨_,_,rfl,rfl,Or.inl ⟨ra,rowF c,rfl,hr,smr,rfl⟩⟩
  | n+2,hi=>exact absurd hi (by show ¬n+2+1 < 3;omega)
 ·rcases d with ⟨kd,c,u0,u1,u2⟩;cases (show kd=11 from hk)
  intro i hi
  match i,hi with
  | 0,_=>exact ⟨_,_,rfl,rfl,Or.inr (.inr (.inr ⟨(u0:Int),rfl,(show (11:Nat)≠2 by decide),.inl ⟨(show ((1:Nat):Int)∈argsP 11 by decide +kernel),u0,_,rfl,hu0,rfl⟩⟩))⟩
  | 1,_=>exact ⟨_,_,rfl,rfl,Or.inr (.inr (.inr ⟨(u1:Int),rfl,(show (11:Nat)≠2 by decide),.inl ⟨(show ((2:Nat):Int)∈argsP 11 by decide +kernel),u1,_,rfl,hu1,rfl⟩⟩))⟩
  | 2,_=>exact ⟨_,_,rfl,rfl,Or.inr (.inr (.inr ⟨smF c 0,rfl,(show (11:Nat)≠2 by decide),.inr ⟨(show ((3:Nat):Int) ∉ argsP 11 by decide +kernel),z2j c 0,rfl⟩⟩))⟩
  | n+3,hi=>exact absurd hi (by show ¬n+3+1 < 4;omega)
 ·rcases d with ⟨kd,c,u0,u1,u2⟩;cases (show kd=12 from hk)
  intro i hi
  match i,hi with
  | 0,_=>exact ⟨_,_,rfl,rfl,Or.inr (.inr (.inr ⟨(u0:Int),rfl,(show (12:Nat)≠2 by decide),.inl ⟨(show ((1:Nat):Int)∈argsP 12 by decide +kernel),u0,_,rfl,hu0,rfl⟩⟩))⟩
  | 1,_=>exact ⟨_,_,rfl,rfl,Or.inr (.inr (.inr ⟨(u1:Int),rfl,(show (12:Nat)≠2 by decide),.inl ⟨(show ((2:Nat):Int)∈argsP 12 by decide +kernel),u1,_,rfl,hu1,rfl⟩⟩))⟩
  | n+2,hi=>exact absurd hi (by show ¬n+2+1 < 3;omega)
 ·rcases d with ⟨kd,c,u0,u1,u2⟩;cases (show kd=13 from hk)
  intro i hi
  match i,hi with
  | 0,_=>exact ⟨_,_,rfl,rfl,Or.inr (.inl ⟨wordF c,rfl,z2k c,rfl⟩)⟩
  | 1,_=>exact ⟨_,_,rfl,rfl,Or.inr (.inr (.inr ⟨(u0:Int),rfl,(show (13:Nat)≠2 by decide),.inl ⟨(show ((2:Nat):Int)∈argsP 13 by decide +kernel),u0,_,rfl,hu0,rfl⟩⟩))⟩
  | 2,_=>exact ⟨_,_,rfl,rfl,Or.inr (.inr (.inr ⟨smF c 0,rfl,(show (13:Nat)≠2 by decide),.inr ⟨(show ((3:Nat):Int) ∉ argsP 13 by decide +kernel),z2j c 0,rfl⟩⟩))⟩
  | n+3,hi=>exact absurd hi (by show ¬n+3+1 < 4;omega)
 ·rcases d with ⟨kd,c,u0,u1,u2⟩;cases (show kd=14 from hk)
  intro i hi
  match i,hi with
  | 0,_=>exact ⟨_,_,rfl,rfl,Or.inr (.inl ⟨wordF c,rfl,z2k c,rfl⟩)⟩
  | 1,_=>exact ⟨_,_,rfl,rfl,Or.inr (.inr (.inr ⟨(u0:Int),rfl,(show (14:Nat)≠2 by decide),.inl ⟨(show ((2:Nat):Int)∈argsP 14 by decide +kernel),u0,_,rfl,hu0,rfl⟩⟩))⟩
  | 2,_=>exact ⟨_,_,rfl,rfl,Or.inr (.inr (.inr ⟨smF c 0,rfl,(show (14:Nat)≠2 by decide),.inr ⟨(show ((3:Nat):Int) ∉ argsP 14 by decide +kernel),z2j c 0,rfl⟩⟩))⟩
  | n+3,hi=>exact absurd hi (by show ¬n+3+1 < 4;omega)
theorem PwOk.len {H:Hp}{nm:List Str}{kind:Str}{part:V}{ws:List Str}(h:PwOk H nm kind part ws) (n:nmOk nm):ws.length≤8/\∀w∈ws,w.length≤100:=by
 rcases h with ⟨_,u,x,_,e,rfl⟩ | ⟨_,a,row,_,_,r,rfl⟩ | ⟨_,_,⟨m,_,b,rfl⟩ | ⟨t,_,b,rfl⟩⟩
 ·refine ⟨by simp,λ w hw=>?_⟩
  cases List.mem_singleton.mp hw
  have:=n.2 x (List.mem_of_getElem? e);omega
 ·refine ⟨by rw [List.length_map];exact r.1,λ w hw=>?_⟩
  obtain ⟨m,hm,rfl⟩:=List.mem_map.mp hw
  have:=r.2 m hm
  exact z9r (by omega)
 ·exact ⟨by simp,λ w hw=>by cases List.mem_singleton.mp hw;exact z9r b⟩
 ·exact ⟨by simp,λ w hw=>by cases List.mem_singleton.mp hw;exact b⟩
theorem z4f {d:Sd}{nm:List Str}(h:d.kd < 15):(partsL d nm).length=((formsL.getD d.kd ("",[])).2).length:=by
 rcases d with ⟨kd,c,u0,u1,u2⟩
 exact z4j (P:=λ kd=>(partsL ⟨kd,c,u0,u1,u2⟩ nm).length=((formsL.getD kd ("",[])).2).length) h rfl rfl rfl rfl rfl rfl rfl rfl rfl rfl rfl rfl rfl rfl rfl
theorem x4w {d:Sd}{nm:List Str}{ra:Addr}(h:d.kd < 15):(lawL d nm).length+1=(stV d ra).length:=by
 rcases d with ⟨kd,c,u0,u1,u2⟩
 exact z4j (P:=λ kd=>(lawL ⟨kd,c,u0,u1,u2⟩ nm).length+1=(stV ⟨kd,c,u0,u1,u2⟩ ra).length) h rfl rfl rfl rfl rfl rfl rfl rfl rfl rfl rfl rfl rfl rfl rfl
def preL (d:Sd):List Str:=if d.kd=2 then [sI (smF d.c 0)] else []
theorem x0e {d:Sd}{nm:List Str}(h:d.kd < 15) (n:d.kd≠2):lawL d nm=partsL d nm:=by
 rcases d with ⟨kd,c,u0,u1,u2⟩
 exact z4j (P:=λ kd=>kd≠2->lawL ⟨kd,c,u0,u1,u2⟩ nm=partsL ⟨kd,c,u0,u1,u2⟩ nm) h (λ _=>rfl) (λ _=>rfl) (λ z=>absurd rfl z) (λ _=>rfl) (λ _=>rfl) (λ _=>rfl) (λ _=>rfl) (λ _=>rfl) (λ _=>rfl) (λ _=>rfl) (λ _=>rfl) (λ _=>rfl) (λ _=>rfl) (λ _=>rfl) (λ _=>rfl) n
theorem y5b {d:Sd}{nm:List Str}(h:d.kd < 15):preL d++(lawL d nm).flatten=wordsF d nm:=by
 by_cases c:d.kd=2
 ·rcases d with ⟨kd,c0,u0,u1,u2⟩
  cases (show kd=2 from c)
  unfold preL wordsF lawL partsL
  generalize sI (smF c0 0)=z
  generalize (rowF c0).map sI=r
  simp
 ·unfold preL wordsF
  rw [if_neg c,x0e h c,List.nil_append]
theorem z7y {ls:List (List Str)}{i:Nat}{ws:List Str}(h:ls[i]?=some ws):(ls.take (i+1)).flatten=(ls.take i).flatten++ws:=by
 rw [List.take_add_one,h,List.flatten_append];simp
theorem x5a:∀(ls:List (List Str)),(∀l∈ls,l.length≤8)->ls.flatten.length≤8 * ls.length:=by
 intro ls
 induction ls with
 | nil=>intro _;simp
 | cons l ls ih=>intro h;have:=ih λ x hx=>h x (List.mem_cons_of_mem _ hx);have:=h l (List.mem_cons_self ..);simp only [List.flatten_cons,List.length_append,List.length_cons];omega
theorem y9i {H:Hp}{nm:List Str}{d:Sd}{ra:Addr}(ok:SdOk nm.length d) (n:nmOk nm) (hr:H ra=some (.tup ((rowF d.c).map V.int))) (i:Nat):((partsL d nm).take i).flatten.length≤40:=by
 have c8:=x5a ((partsL d nm).take i) λ ws h1=>by
  obtain ⟨j,hj⟩:=List.getElem?_of_mem (List.mem_of_mem_take h1)
  have jl:j < ((formsL.getD d.kd ("",[])).2).length:=by rw [← z4f ok.1 (nm:=nm)];exact (List.getElem?_eq_some_iff.mp hj).1
  obtain ⟨x,ws',_,e2,pw⟩:=z8v (H:=H) ok hr j _ (List.getElem?_eq_getElem jl)
  rw [hj] at e2;cases e2
  exact (pw.len n).1
 have f5:=z2i (i:=d.kd)
 have l:=List.length_take_le i (partsL d nm)
 have l2:((partsL d nm).take i).length≤(partsL d nm).length:=by rw [List.length_take];omega
 rw [z4f ok.1] at l2
 omega
theorem y5a {H:Hp}{nm:List Str}{d:Sd}{ra:Addr}(ok:SdOk nm.length d) (n:nmOk nm) (hr:H ra=some (.tup ((rowF d.c).map V.int))) (i:Nat):((lawL d nm).take i).flatten.length≤40:=by
 by_cases c:d.kd=2
 ·have e:∀k,((lawL d nm).take k).flatten.length≤8 * 2:=λ k=>by
   have z:lawL d nm=[(rowF d.c).map sI,[]]:=by rcases d with ⟨kd,c0,u0,u1,u2⟩;cases (show kd=2 from c);rfl
   rw [z]
   refine Nat.le_trans (x5a _ λ l hl=>?_) (Nat.mul_le_mul_left _ (List.length_take_le' ..))
   rcases List.mem_cons.mp (List.mem_of_mem_take hl) with rfl | hl
   ·rw [List.length_map];exact (y3g d.c).1
   ·cases List.mem_singleton.mp hl;exact Nat.zero_le _
  exact Nat.le_trans (e i) (by decide)
 ·rw [x0e ok.1 c];exact y9i ok n hr i
theorem z6w {H:Hp}{nm:List Str}{d:Sd}{ra:Addr}{a b e:Str}(ok:SdOk nm.length d) (n:nmOk nm) (hr:H ra=some (.tup ((rowF d.c).map V.int))) (ha:a.length≤100) (hb:b.length≤100) (he:e.length≤100):totS " " ([a,b,e]++wordsF d nm)≤5000:=by
 have one:(" " : Str).length=1:=by decide +kernel
 have all:∀w∈wordsF d nm,w.length≤100:=λ w hw=>by
  obtain ⟨ws,h1,h2⟩:=List.mem_flatten.mp hw
  obtain ⟨j,hj⟩:=List.getElem?_of_mem h1
  have jl:j < ((formsL.getD d.kd ("",[])).2).length:=by rw [← z4f ok.1 (nm:=nm)];exact (List.getElem?_eq_some_iff.mp hj).1
  obtain ⟨x,ws',_,e2,pw⟩:=z8v (H:=H) ok hr j _ (List.getElem?_eq_getElem jl)
  rw [hj] at e2;cases e2
  exact (pw.len n).2 w h2
 have cnt:∀ls:List (List Str),(∀l∈ls,l.length≤8)->ls.flatten.length≤8 * ls.length:=by
  intro ls
  induction ls with
  | nil=>intro _;simp
  | cons l ls ih=>intro h;have:=ih λ x hx=>h x (List.mem_cons_of_mem _ hx);have:=h l (List.mem_cons_self ..);simp only [List.flatten_cons,List.length_append,List.length_cons];omega
 have c8:(wordsF d nm).length≤8 * (partsL d nm).length:=cnt _ λ ws h1=>by
  obtain ⟨j,hj⟩:=List.getElem?_of_mem h1
  have jl:j < ((formsL.getD d.kd ("",[])).2).length:=by rw [← z4f ok.1 (nm:=nm)];exact (List.getElem?_eq_some_iff.mp hj).1
  obtain ⟨x,ws',_,e2,pw⟩:=z8v (H:=H) ok hr j _ (List.getElem?_eq_getElem jl)
  rw [hj] at e2;cases e2
  exact (pw.len n).1
 rw [z4f ok.1] at c8
 have f5:=z2i (i:=d.kd)
 have t:=z3q (z := " ") all
 rw [one] at t
 have t2:(100+1) * (wordsF d nm).length≤101 * 40:=Nat.mul_le_mul_left _ (by omega)
 rw [z2u,z1e,z1e,z1e,one]
 have:totS " " []=0:=rfl
 omega
theorem y0m {i:Nat}(h:i < 15) (e:kindS i=Str.ofString "count"):i=2:=by
 have z:∀j:Fin 15,kindS j.val=Str.ofString "count" -> j.val=2:=by decide +kernel
 exact z ⟨i,h⟩ e
theorem z6p (n:Int):∀(ns:List Int),inV (V.int n) (ns.map V.int)=decide (n∈ns)
 | []=>by simp [inV]
 | m::ns=>by
  have ih:=z6p n ns
  show (m == n || inV (V.int n) (ns.map V.int))=decide (n∈m::ns)
  rw [ih]
  by_cases e:n=m
  ·subst e;simp
  ·have e':(m == n)=false:=by simpa using λ z=>e z.symm
   rw [e'];simp [e]
def plainF (k:Nat):Str:=if k < 26 then ⟨#[97+k]⟩ else (⟨#[97+(k / 26 - 1)]⟩:Str)++⟨#[97+k % 26]⟩
theorem y9y {k:Nat}(h:k < 26):("abcdefghijklmnopqrstuvwxyz" : Str).cps[k]?=some (97+k):=x0l ⟨k,h⟩
theorem x4j {k:Int}(h0:0≤k) (h:k < 26):("abcdefghijklmnopqrstuvwxyz" : Str).cps[k.toNat]?=some (97+k.toNat):=y9y (by omega)
theorem y2h (x y:Nat):((⟨#[x]⟩:Str)++⟨#[y]⟩).length=2:=by rw [strLen_append];rfl
def ProgAt (H:Hp) (p:Addr) (ds:List Sd) (os:List Nat):Prop:=∃st ou as,H p=some (.tup [.ref st,.ref ou])/\H st=some (.tup (as.map V.ref))/\SdsAt H ds as/\H ou=some (.tup (os.map λ (o:Nat)=>V.int (o:Int)))/\1≤ds.length/\ds.length≤40/\(∀d∈ds,SdOk ds.length d)/\1≤os.length/\os.length≤8/\∀o∈os,o < ds.length
theorem ProgAt.same {H H':Hp}{p:Addr}{ds:List Sd}{os:List Nat}(h:ProgAt H p ds os) (s:Same H H'):ProgAt H' p ds os:=by
 obtain ⟨st,ou,as,h1,h2,h3,h4,h5⟩:=h
 exact ⟨st,ou,as,s _ _ h1,s _ _ h2,h3.same s,s _ _ h4,h5⟩
def rowsF (ds:List Sd) (nm:List Str) (n:Nat):List Str:=(List.range n).map λ i=>rowS (ds.getD i ⟨0,0,0,0,0⟩) (nm.getD i "") nm
def outsF (os:List Nat) (nm:List Str):List Str:=os.map λ o=>nm.getD o ""
def outS (os:List Nat) (nm:List Str):Str:=Builtin.Str.glued " " ("out" :: outsF os nm)
def textL (ds:List Sd) (os:List Nat) (nm:List Str):List Str:=rowsF ds nm ds.length++[outS os nm]
theorem y3e (ds:List Sd) (nm:List Str) (n:Nat):rowsF ds nm (n+1)=rowsF ds nm n++[rowS (ds.getD n ⟨0,0,0,0,0⟩) (nm.getD n "") nm]:=by
 unfold rowsF;rw [List.range_succ,List.map_append];rfl
theorem z9t (ds:List Sd) (nm:List Str) (n:Nat):(rowsF ds nm n).length=n:=by simp [rowsF]
theorem y5o (x:Str) (r:List Str):(Str.ofString "out ")++Builtin.Str.glued " " (x::r)=Builtin.Str.glued " " ("out" :: x::r):=by
 have all:∀(r:List Str) (a b:Array Nat),b++r.foldl (λ acc p=>acc++(" " : Str).cps++p.cps) a=r.foldl (λ acc p=>acc++(" " : Str).cps++p.cps) (b++a):=by
  intro r
  induction r with
  | nil=>intro a b;rfl
  | cons p r ih=>intro a b;rw [List.foldl_cons,List.foldl_cons,ih];simp only [Array.append_assoc]
 show (⟨(Str.ofString "out ").cps++r.foldl (λ acc p=>acc++(" " : Str).cps++p.cps) x.cps⟩:Str)=⟨(x::r).foldl (λ acc p=>acc++(" " : Str).cps++p.cps) ("out" : Str).cps⟩
 rw [all,List.foldl_cons]
 have e:(Str.ofString "out ").cps=("out" : Str).cps++(" " : Str).cps:=by decide +kernel
 rw [e]
theorem z3w {i:Nat}(h:i < 15):(kindS i).length≤100:=by
 have z:∀j:Fin 15,(kindS j.val).length≤100:=by decide +kernel
 exact z ⟨i,h⟩
theorem x0r {H:Hp}{nm:List Str}{d:Sd}{a:Addr}{name:Str}(ok:SdOk nm.length d) (n:nmOk nm) (h:SdAt H d a) (hn:name.length≤20):(rowS d name nm).length≤5000:=by
 obtain ⟨ra,_,hr⟩:=h
 exact Nat.le_trans (z2b _ _) (z6w ok n hr (by omega) (by decide +kernel) (z3w ok.1))
theorem x1a {nm:List Str}{os:List Nat}(n:nmOk nm) (o8:os.length≤8) (ob:∀o∈os,o < nm.length):totS " " ("out" :: outsF os nm)≤300:=by
 have one:(" " : Str).length=1:=by decide +kernel
 have o3:("out" : Str).length=3:=by decide +kernel
 have t:=z3q (z := " ") (ys:=outsF os nm) (k:=20) λ x hx=>by
  obtain ⟨o,ho,rfl⟩:=List.mem_map.mp hx
  exact n.2 _ (List.mem_of_getElem? (z8h (ob o ho)))
 have on:(outsF os nm).length=os.length:=by simp [outsF]
 rw [one,on] at t
 rw [z1e,one,o3]
 omega
def k19:List Str:=["out", "in", "num", "count", "each", "pair", "pick", "turn", "flip", "cut", "spread", "lay", "join", "fetch", "fold", "run", "add", "neg", "xor"]
abbrev ABC:Str := "abcdefghijklmnopqrstuvwxyz"
theorem y0r:∀(n:Nat) (r:List Nat),n≤r.length->(List.range n).filterMap (λ k=>r[k]?)=r.take n
 | 0,_,_=>rfl
 | n+1,r,h=>by
  rw [List.range_succ,List.filterMap_append,y0r n r (by omega),List.take_add_one,List.getElem?_eq_getElem (by omega)]
  simp [List.filterMap,List.getElem?_eq_getElem (show n < r.length by omega)]
theorem y2m (x:Str):(Txt.slice x (some 1) none).cps.toList=x.cps.toList.drop 1:=by
 obtain ⟨a⟩:=x
 obtain ⟨L⟩:=a
 unfold Txt.slice
 cases L with
 | nil=>rfl
 | cons c r =>
  have e:Builtin.Str.strSliceIndices (some 1) none 1 (r.length+1)=(List.range r.length).map λ k=>1+k:=by
   unfold Builtin.Str.strSliceIndices sliceRange
   simp only [show (1:Int) > 0 by decide,show ¬(1:Int) < 0 by decide,if_true,if_false,Int.ediv_one]
   have m:max 0 (min (1:Int) ((r.length+1:Nat):Int))=1:=by omega
   rw [m]
   have n:(if (1:Int) < ((r.length+1:Nat):Int) then (((r.length+1:Nat):Int) - 1+1 - 1) else 0).toNat=r.length:=by split<;>omega
   rw [n]
   exact List.map_congr_left λ k _=>by omega
  have e:Builtin.Str.strSliceIndices (some 1) none 1 (Str.length ⟨⟨c::r⟩⟩)=(List.range r.length).map λ k=>1+k:=e
  rw [e,if_neg]
  ·show (List.filterMap (λ k=>(⟨c::r⟩:Array Nat)[k]?) ((List.range r.length).map λ k=>1+k))=r
   rw [List.filterMap_map]
   have z:(λ k=>(⟨c::r⟩:Array Nat)[k]?) ∘ (λ k=>1+k)=λ k=>r[k]?:=by
    funext k
    show (⟨c::r⟩:Array Nat)[1+k]?=r[k]?
    rw [Nat.add_comm,List.getElem?_toArray,List.getElem?_cons_succ]
   rw [z,y0r _ _ (Nat.le_refl _),List.take_length]
  ·show ¬((1:Int) == 1 && ((List.range r.length).map λ k=>1+k).length == (c::r).length)=true
   rw [List.length_map,List.length_range]
   simp
theorem z7a (x:Str):startsB x (Str.ofString "-")=true ↔ x.cps.toList.head?=some 45:=by
 obtain ⟨a⟩:=x
 obtain ⟨L⟩:=a
 have e:(Str.ofString "-")=⟨⟨[45]⟩⟩:=by decide +kernel
 rw [e]
 cases L with
 | nil=>constructor<;>intro h<;>exact absurd h (by decide)
 | cons c r =>
  have z:startsB ⟨⟨c::r⟩⟩ ⟨⟨[45]⟩⟩=(c == 45):=by
   unfold startsB Builtin.Str.subAt
   show (decide (0+1≤r.length+1) && ((⟨c::r⟩:Array Nat).extract 0 (0+1) == ⟨[45]⟩))=_
   have y:(⟨c::r⟩:Array Nat).extract 0 (0+1)=⟨[c]⟩:=by
    apply Array.ext'
    simp
   rw [y,decide_eq_true (by omega),Bool.true_and]
   show ([c] == [45])=(c == 45)
   simp
  rw [z]
  simp
theorem x4b (x:Str):x=Str.ofString "-0" ↔ x.cps.toList=[45,48]:=by
 have e:(Str.ofString "-0").cps.toList=[45,48]:=by decide +kernel
 constructor
 ·rintro rfl;exact e
 ·intro h
  obtain ⟨a⟩:=x
  rw [show Str.ofString "-0" = ⟨⟨[45,48]⟩⟩ by decide +kernel]
  congr 1
  exact Array.ext' h
theorem y2e (c:Nat):(⟨#[c]⟩:Str)=Str.ofString "0" ↔ c=48:=by
 rw [show Str.ofString "0" = ⟨#[48]⟩ by decide +kernel]
 constructor
 ·intro h;have:=congrArg (λ s:Str=>s.cps.toList) h;simpa using this
 ·rintro rfl;rfl
def nameOk (x:Str):Prop:=1≤x.cps.toList.length/\x.cps.toList.length≤8/\∀c∈x.cps.toList,97≤c/\c≤122
def nmGood (nm:List Str):Prop:=(∀x∈nm,nameOk x)/\∀i j,i < nm.length->j < nm.length->nm.getD i "" = nm.getD j "" -> i=j
theorem z3z (x:Str):x.cps.toList.length=x.length:=Array.length_toList
theorem nameOk.len {x:Str}(h:nameOk x):x.length≤8:=by rw [← z3z];exact h.2.1
theorem y0i {L:List Nat}(h1:1≤L.length) (h2:L.length≤8) (h3:∀c∈L,97≤c/\c≤122):nameOk (strL L):=⟨h1,h2,h3⟩
def nameB (x:Str):Bool:=decide (1≤x.cps.toList.length) && decide (x.cps.toList.length≤8) && x.cps.toList.all λ c=>decide (97≤c) && decide (c≤122)
theorem z6l {x:Str}(h:nameB x=true):nameOk x:=by
 unfold nameB at h
 simp only [Bool.and_eq_true,decide_eq_true_eq,List.all_eq_true] at h
 exact ⟨h.1.1,h.1.2,h.2⟩
theorem x3i {n:Nat}{f:Nat->Str}(h1:∀i,i < n->nameOk (f i)) (h2:∀i j,i < n->j < n->f i=f j->i=j):nmGood ((List.range n).map f):=by
 have g:∀i,i < n->((List.range n).map f).getD i "" = f i:=λ i hi=>by
  rw [List.getD_eq_getElem?_getD,List.getElem?_map,List.getElem?_range hi];rfl
 refine ⟨λ x hx=>?_,λ i j hi hj e=>?_⟩
 ·obtain ⟨i,hi,rfl⟩:=List.mem_map.mp hx
  exact h1 i (List.mem_range.mp hi)
 ·rw [List.length_map,List.length_range] at hi hj
  rw [g i hi,g j hj] at e
  exact h2 i j hi hj e
def nameF (way fill spot step k:Nat):List Nat :=
 if way=1 then List.replicate (k % 8) (97+fill)++[97+(step+k / 8) % 26]
 else if way=3/\k < 19 then (k19.getD ((k+step) % 19) "").cps.toList
 else if way=2\/way=3 then List.replicate spot (97+fill)++[97+(step+k) % 26,97+k / 26]++List.replicate (6 - spot) (97+fill)
 else (plainF k).cps.toList
theorem y5f:∀j:Fin 19,nameB (k19.getD j.val "")=true/\(k19.getD j.val "").cps.toList.length≤6:=by decide +kernel
theorem x1f:∀i j:Fin 19,k19.getD i.val "" = k19.getD j.val "" -> i=j:=by decide +kernel
theorem y7u:∀j:Fin 40,nameB (plainF j.val)=true:=by decide +kernel
theorem y3o:∀i j:Fin 40,plainF i.val=plainF j.val->i=j:=by decide +kernel
theorem z6s {x y:Str}(h:x.cps.toList=y.cps.toList):x=y:=(z1r h).trans (z1r rfl).symm
theorem z8q {n a c:Nat}(h:c∈List.replicate n a):c=a:=(List.mem_replicate.mp h).2
theorem y8m {way fill spot step k:Nat}(hf:fill < 26) (hs:spot < 7) (hk:k < 40):nameOk (strL (nameF way fill spot step k)):=by
 unfold nameF
 split
 ·refine y0i (by simp) (by simp;omega) λ c hc=>?_
  rcases List.mem_append.mp hc with hc | hc
  ·cases z8q hc;omega
  ·cases List.mem_singleton.mp hc;omega
 ·split
  ·rw [← z1r rfl]
   exact z6l (y5f ⟨(k+step) % 19,Nat.mod_lt _ (by decide)⟩).1
  ·split
   ·refine y0i (by simp;omega) (by simp;omega) λ c hc=>?_
    rcases List.mem_append.mp hc with hc | hc
    ·rcases List.mem_append.mp hc with hc | hc
     ·cases z8q hc;omega
     ·simp only [List.mem_cons,List.not_mem_nil,or_false] at hc
      omega
    ·cases z8q hc;omega
   ·rw [← z1r rfl]
    exact z6l (y7u ⟨k,hk⟩)
theorem y7h {a b:List Nat}(h:strL a=strL b):a=b:=congrArg (λ x:Str=>x.cps.toList) h
theorem y4u {way fill spot step i j:Nat}(hi:i < 40) (hj:j < 40) (h:nameF way fill spot step i=nameF way fill spot step j) (hs:spot < 7):i=j:=by
 have mid:∀a b c d:Nat,List.replicate spot (97+fill)++[97+a,97+b]++List.replicate (6 - spot) (97+fill)=List.replicate spot (97+fill)++[97+c,97+d]++List.replicate (6 - spot) (97+fill)->a=c/\b=d:=λ a b c d e=>by
  rw [List.append_assoc,List.append_assoc] at e
  have e:=List.append_cancel_left e
  injection e with e1 e
  injection e with e2 e
  omega
 have l8:∀a b:Nat,(List.replicate spot (97+fill)++[97+a,97+b]++List.replicate (6 - spot) (97+fill)).length=8:=λ a b=>by simp;omega
 unfold nameF at h
 by_cases w1:way=1
 ·rw [if_pos w1,if_pos w1] at h
  have l:=congrArg List.length h
  simp only [List.length_append,List.length_replicate,List.length_cons,List.length_nil] at l
  have e:i % 8=j % 8:=by omega
  rw [e] at h
  have h:=List.append_cancel_left h
  injection h with h _
  omega
 ·rw [if_neg w1,if_neg w1] at h
  by_cases w3:way=3
  ·by_cases c1:i < 19
   ·rw [if_pos ⟨w3,c1⟩] at h
    have li:=(y5f ⟨(i+step) % 19,Nat.mod_lt _ (by decide)⟩).2
    by_cases c2:j < 19
    ·rw [if_pos ⟨w3,c2⟩] at h
     have z:=x1f ⟨(i+step) % 19,Nat.mod_lt _ (by decide)⟩ ⟨(j+step) % 19,Nat.mod_lt _ (by decide)⟩ (z6s h)
     have z:(i+step) % 19=(j+step) % 19:=congrArg (λ x:Fin 19=>x.val) z
     omega
    ·rw [if_neg (λ z=>c2 z.2),if_pos (.inr w3)] at h
     have l:=congrArg List.length h
     rw [l8] at l
     have li:(k19.getD ((i+step) % 19) "").cps.toList.length≤6:=li
     omega
   ·rw [if_neg (λ z=>c1 z.2),if_pos (.inr w3)] at h
    by_cases c2:j < 19
    ·rw [if_pos ⟨w3,c2⟩] at h
     have li:(k19.getD ((j+step) % 19) "").cps.toList.length≤6:=(y5f ⟨(j+step) % 19,Nat.mod_lt _ (by decide)⟩).2
     have l:=congrArg List.length h
     rw [l8] at l
     omega
    ·rw [if_neg (λ z=>c2 z.2),if_pos (.inr w3)] at h
     have:=mid _ _ _ _ h
     omega
  ·rw [if_neg (c:=way=3/\i < 19) (λ z=>w3 z.1),if_neg (c:=way=3/\j < 19) (λ z=>w3 z.1)] at h
   by_cases w2:way=2
   ·rw [if_pos (.inl w2),if_pos (.inl w2)] at h
    have:=mid _ _ _ _ h
    omega
   ·rw [if_neg (λ z=>z.elim w2 w3),if_neg (λ z=>z.elim w2 w3)] at h
    have z:=y3o ⟨i,hi⟩ ⟨j,hj⟩ (z6s h)
    exact congrArg (λ x:Fin 40=>x.val) z
def namesF (way fill spot step n:Nat):List Str:=(List.range n).map λ k=>strL (nameF way fill spot step k)
theorem y1r {way fill spot step n:Nat}(hf:fill < 26) (hs:spot < 7) (hn:n≤40):nmGood (namesF way fill spot step n) :=
 x3i (λ i hi=>y8m hf hs (by omega)) λ i j hi hj e=>y4u (by omega) (by omega) (y7h e) hs
theorem y6x (c:Int):-9223372036854775808≤bigF c/\bigF c≤9223372036854775807:=by
 unfold bigF
 split
 ·have r:=z0v c 5 (show (0:Int) < 4 by decide)
  generalize drawF c 5 4=z at *
  rcases (show z=0\/z=1\/z=2\/z=3 by omega) with rfl | rfl | rfl | rfl<;>decide
 ·split<;>omega
theorem x2e:∀i:Fin 8,nameB (wl8.getD i.val "")=true:=by decide +kernel
theorem y0o:∀(ws:List Str),(Str.join "" ws).cps.toList=(ws.map λ w=>w.cps.toList).flatten
 | []=>rfl
 | [w]=>by simp [Str.join]
 | w::v::r=>by
  have ih:=y0o (v::r)
  show ((w++("" : Str))++Str.join "" (v::r)).cps.toList=_
  have e0:("" : Str).cps=#[]:=by decide +kernel
  rw [Str.cps_append,Str.cps_append,Array.toList_append,Array.toList_append,ih,e0]
  simp
theorem z5z (c:Int):nameOk (wordF c):=by
 unfold wordF
 split
 ·have r:=z0v c 20 (show (0:Int) < 12 by decide)
  exact z6l (x2e ⟨(drawF c 20 12).toNat,by omega⟩)
 ·have r:=z0v c 21 (show (0:Int) < 8 by decide)
  have hL:(Builtin.Str.glued (Str.ofString "") (lettersF c (1+drawF c 21 8).toNat)).cps.toList=(List.range (1+drawF c 21 8).toNat).map λ (j:Nat)=>97+(drawF c (22+(0+(j:Int))) 26).toNat:=by
   rw [StrLaws.glued_eq_join]
   refine (y0o _).trans ?_
   unfold lettersF
   rw [List.map_map]
   generalize List.range (1+drawF c 21 8).toNat=l
   induction l with
   | nil=>rfl
   | cons a l ih=>rw [List.map_cons,List.flatten_cons,ih];rfl
  unfold nameOk
  rw [hL,List.length_map,List.length_range]
  refine ⟨by omega,by omega,λ x hx=>?_⟩
  obtain ⟨j,_,rfl⟩:=List.mem_map.mp hx
  have:=z0v c (22+(0+(j:Int))) (show (0:Int) < 26 by decide)
  omega
def RdOk (nm:List Str) (k:Nat) (ra:Addr) (row:List Int) (kind:Str) (part:V) (ws:List Str):Prop :=
 (kind = "step" /\ ∃u:Nat,part=.int (u:Int)/\u < k/\ws=[nm.getD u ""])\/(kind = "sides" /\ part=.ref ra/\ws=row.map sI)\/(kind = "word" /\ ∃t,part=.str t/\nameOk t/\ws=[t]) \/
 (kind = "number" /\ ∃n:Int,part=.int n/\-9223372036854775808≤n/\n≤9223372036854775807/\ws=[sI n])\/(kind = "small" /\ ∃n:Int,part=.int n/\0≤n/\n < 1000/\ws=[sI n])
abbrev formsOf (d:Sd):List (Str × Int):=(formsL.getD d.kd ("",[])).2
theorem x0t {nm:List Str}{d:Sd}{k:Nat}(ra:Addr) (hd:d.kd < 15) (hu:d.kd < 3\/(d.u0 < k/\d.u1 < k/\d.u2 < k)):∀(j:Nat) f,(formsOf d)[j]?=some f->∃x ws,(stV d ra)[f.2.toNat]?=some x/\(partsL d nm)[j]?=some ws/\RdOk nm k ra (rowF d.c) f.1 x ws:=by
 rcases (x4m ‹d.kd < 15›) with hk | hk | hk | hk | hk | hk | hk | hk | hk | hk | hk | hk | hk | hk | hk
 ·rcases d with ⟨kd,c,u0,u1,u2⟩;cases (show kd=0 from hk)
  intro j f e
  match j,e with
  | 0,e=>cases (Option.some.inj (show some (("sides" : Str),(1:Int))=some f from e));exact ⟨_,_,rfl,rfl,Or.inr (.inl ⟨rfl,rfl,rfl⟩)⟩
  | n+1,e=>cases e
 ·rcases d with ⟨kd,c,u0,u1,u2⟩;cases (show kd=1 from hk)
  intro j f e
  match j,e with
  | 0,e=>cases (Option.some.inj (show some (("number" : Str),(1:Int))=some f from e));exact ⟨_,_,rfl,rfl,Or.inr (.inr (.inr (.inl ⟨rfl,bigF c,rfl,(y6x c).1,(y6x c).2,rfl⟩)))⟩
  | n+1,e=>cases e
 ·rcases d with ⟨kd,c,u0,u1,u2⟩;cases (show kd=2 from hk)
  intro j f e
  match j,e with
  | 0,e=>cases (Option.some.inj (show some (("small" : Str),(2:Int))=some f from e));exact ⟨_,_,rfl,rfl,Or.inr (.inr (.inr (.inr ⟨rfl,smF c 0,rfl,(z2g c 0).1,(z2g c 0).2,rfl⟩)))⟩
  | 1,e=>cases (Option.some.inj (show some (("sides" : Str),(1:Int))=some f from e));exact ⟨_,_,rfl,rfl,Or.inr (.inl ⟨rfl,rfl,rfl⟩)⟩
  | n+2,e=>cases e
 ·rcases d with ⟨kd,c,u0,u1,u2⟩;cases (show kd=3 from hk)
  have hu:u0 < k/\u1 < k/\u2 < k:=hu.resolve_left (show ¬(3:Nat) < 3 by decide)
  intro j f e
  match j,e with
  | 0,e=>cases (Option.some.inj (show some (("word" : Str),(1:Int))=some f from e));exact ⟨_,_,rfl,rfl,Or.inr (.inr (.inl ⟨rfl,wordF c,rfl,z5z c,rfl⟩))⟩
  | 1,e=>cases (Option.some.inj (show some (("step" : Str),(2:Int))=some f from e));exact ⟨_,_,rfl,rfl,Or.inl ⟨rfl,u0,rfl,hu.1,rfl⟩⟩
  | n+2,e=>cases e
 ·rcases d with ⟨kd,c,u0,u1,u2⟩;cases (show kd=4 from hk)
  have hu:u0 < k/\u1 < k/\u2 < k:=hu.resolve_left (show ¬(4:Nat) < 3 by decide)
  intro j f e
  match j,e with
  | 0,e=>cases (Option.some.inj (show some (("word" : Str),(1:Int))=some f from e));exact ⟨_,_,rfl,rfl,Or.inr (.inr (.inl ⟨rfl,wordF c,rfl,z5z c,rfl⟩))⟩
  | 1,e=>cases (Option.some.inj (show some (("step" : Str),(2:Int))=some f from e));exact ⟨_,_,rfl,rfl,Or.inl ⟨rfl,u0,rfl,hu.1,rfl⟩⟩
  | 2,e=>cases (Option.some.inj (show some (("step" : Str),(3:Int))=some f from e));exact ⟨_,_,rfl,rfl,Or.inl ⟨rfl,u1,rfl,hu.2.1,rfl⟩⟩
  | n+3,e=>cases e
 ·rcases d with ⟨kd,c,u0,u1,u2⟩;cases (show kd=5 from hk)
  have hu:u0 < k/\u1 < k/\u2 < k:=hu.resolve_left (show ¬(5:Nat) < 3 by decide)
  intro j f e
  match j,e with
  | 0,e=>cases (Option.some.inj (show some (("step" : Str),(1:Int))=some f from e));exact ⟨_,_,rfl,rfl,Or.inl ⟨rfl,u0,rfl,hu.1,rfl⟩⟩
  | 1,e=>cases (Option.some.inj (show some (("step" : Str),(2:Int))=some f from e));exact ⟨_,_,rfl,rfl,Or.inl ⟨rfl,u1,rfl,hu.2.1,rfl⟩⟩
  | 2,e=>cases (Option.some.inj (show some (("step" : Str),(3:Int))=some f from e));exact ⟨_,_,rfl,rfl,Or.inl ⟨rfl,u2,rfl,hu.2.2,rfl⟩⟩
  | n+3,e=>cases e
 ·rcases d with ⟨kd,c,u0,u1,u2⟩;cases (show kd=6 from hk)
  have hu:u0 < k/\u1 < k/\u2 < k:=hu.resolve_left (show ¬(6:Nat) < 3 by decide)
  intro j f e
  match j,e with
  | 0,e=>cases (Option.some.inj (show some (("step" : Str),(1:Int))=some f from e));exact ⟨_,_,rfl,rfl,Or.inl ⟨rfl,u0,rfl,hu.1,rfl⟩⟩
  | 1,e=>cases (Option.some.inj (show some (("sides" : Str),(2:Int))=some f from e));exact ⟨_,_,rfl,rfl,Or.inr (.inl ⟨rfl,rfl,rfl⟩)⟩
  | n+2,e=>cases e
 ·rcases d with ⟨kd,c,u0,u1,u2⟩;cases (show kd=7 from hk)
  have hu:u0 < k/\u1 < k/\u2 < k:=hu.resolve_left (show ¬(7:Nat) < 3 by decide)
  intro j f e
  match j,e with
  | 0,e=>cases (Option.some.inj (show some (("step" : Str),(1:Int))=some f from e));exact ⟨_,_,rfl,rfl,Or.inl ⟨rfl,u0,rfl,hu.1,rfl⟩⟩
  | 1,e=>cases (Option.some.inj (show some (("small" : Str),(2:Int))=some f from e));exact ⟨_,_,rfl,rfl,Or.inr (.inr (.inr (.inr ⟨rfl,smF c 0,rfl,(z2g c 0).1,(z2g c 0).2,rfl⟩)))⟩
  | n+2,e=>cases e
 ·rcases d with ⟨kd,c,u0,u1,u2⟩;cases (show kd=8 from hk)
  have hu:u0 < k/\u1 < k/\u2 < k:=hu.resolve_left (show ¬(8:Nat) < 3 by decide)
  intro j f e
  match j,e with
  | 0,e=>cases (Option.some.inj (show some (("step" : Str),(1:Int))=some f from e));exact ⟨_,_,rfl,rfl,Or.inl ⟨rfl,u0,rfl,hu.1,rfl⟩⟩
  | 1,e=>cases (Option.some.inj (show some (("small" : Str),(2:Int))=some f from e));exact ⟨_,_,rfl,rfl,Or.inr (.inr (.inr (.inr ⟨rfl,smF c 0,rfl,(z2g c 0).1,(z2g c 0).2,rfl⟩)))⟩
  | 2,e=>cases (Option.some.inj (show some (("small" : Str),(3:Int))=some f from e));exact ⟨_,_,rfl,rfl,Or.inr (.inr (.inr (.inr ⟨rfl,smF c 1,rfl,(z2g c 1).1,(z2g c 1).2,rfl⟩)))⟩
  | 3,e=>cases (Option.some.inj (show some (("small" : Str),(4:Int))=some f from e));exact ⟨_,_,rfl,rfl,Or.inr (.inr (.inr (.inr ⟨rfl,smF c 2,rfl,(z2g c 2).1,(z2g c 2).2,rfl⟩)))⟩
  | 4,e=>cases (Option.some.inj (show some (("small" : Str),(5:Int))=some f from e));exact ⟨_,_,rfl,rfl,Or.inr (.inr (.inr (.inr ⟨rfl,smF c 3,rfl,(z2g c 3).1,(z2g c 3).2,rfl⟩)))⟩
  | n+5,e=>cases e
 ·rcases d with ⟨kd,c,u0,u1,u2⟩;cases (show kd=9 from hk)
  have hu:u0 < k/\u1 < k/\u2 < k:=hu.resolve_left (show ¬(9:Nat) < 3 by decide)
  intro j f e
  match j,e with
  | 0,e=>cases (Option.some.inj (show some (("step" : Str),(1:Int))=some f from e));exact ⟨_,_,rfl,rfl,Or.inl ⟨rfl,u0,rfl,hu.1,rfl⟩⟩
  | 1,e=>cases (Option.some.inj (show some (("small" : Str),(2:Int))=some f from e));exact ⟨_,_,rfl,rfl,Or.inr (.inr (.inr (.inr ⟨rfl,smF c 0,rfl,(z2g c 0).1,(z2g c 0).2,rfl⟩)))⟩
  | 2,e=>cases (Option.some.inj (show some (("small" : Str),(3:Int))=some f from e));exact ⟨_,_,rfl,rfl,Or.inr (.inr (.inr (.inr ⟨rfl,smF c 1,rfl,(z2g c 1).1,(z2g c 1).2,rfl⟩)))⟩
  | n+3,e=>cases e
 ·rcases d with ⟨kd,c,u0,u1,u2⟩;cases (show kd=10 from hk)
  have hu:u0 < k/\u1 < k/\u2 < k:=hu.resolve_left (show ¬(10:Nat) < 3 by decide)
  intro j f e
  match j,e with
  | 0,e=>cases (Option.some.inj (show some (("step" : Str),(1:Int))=some f from e));exact ⟨_,_,rfl,rfl,Or.inl ⟨rfl,u0,rfl,hu.1,rfl⟩⟩
  | 1,e=>cases (Option.some.inj (show some (("sides" : Str),(2:Int))=some f from e));exact ⟨_,_,rfl,rfl,Or.inr (.inl ⟨rfl,rfl,rfl⟩)⟩
  | n+2,e=>cases e
 ·rcases d with ⟨kd,c,u0,u1,u2⟩;cases (show kd=11 from hk)
  have hu:u0 < k/\u1 < k/\u2 < k:=hu.resolve_left (show ¬(11:Nat) < 3 by decide)
  intro j f e
  match j,e with
  | 0,e=>cases (Option.some.inj (show some (("step" : Str),(1:Int))=some f from e));exact ⟨_,_,rfl,rfl,Or.inl ⟨rfl,u0,rfl,hu.1,rfl⟩⟩
  | 1,e=>cases (Option.some.inj (show some (("step" : Str),(2:Int))=some f from e));exact ⟨_,_,rfl,rfl,Or.inl ⟨rfl,u1,rfl,hu.2.1,rfl⟩⟩
  | 2,e=>cases (Option.some.inj (show some (("small" : Str),(3:Int))=some f from e));exact ⟨_,_,rfl,rfl,Or.inr (.inr (.inr (.inr ⟨rfl,smF c 0,rfl,(z2g c 0).1,(z2g c 0).2,rfl⟩)))⟩
  | n+3,e=>cases e
 ·rcases d with ⟨kd,c,u0,u1,u2⟩;cases (show kd=12 from hk)
  have hu:u0 < k/\u1 < k/\u2 < k:=hu.resolve_left (show ¬(12:Nat) < 3 by decide)
  intro j f e
  match j,e with
  | 0,e=>cases (Option.some.inj (show some (("step" : Str),(1:Int))=some f from e));exact ⟨_,_,rfl,rfl,Or.inl ⟨rfl,u0,rfl,hu.1,rfl⟩⟩
  | 1,e=>cases (Option.some.inj (show some (("step" : Str),(2:Int))=some f from e));exact ⟨_,_,rfl,rfl,Or.inl ⟨rfl,u1,rfl,hu.2.1,rfl⟩⟩
  | n+2,e=>cases e
 ·rcases d with ⟨kd,c,u0,u1,u2⟩;cases (show kd=13 from hk)
  have hu:u0 < k/\u1 < k/\u2 < k:=hu.resolve_left (show ¬(13:Nat) < 3 by decide)
  intro j f e
  match j,e with
  | 0,e=>cases (Option.some.inj (show some (("word" : Str),(1:Int))=some f from e));exact ⟨_,_,rfl,rfl,Or.inr (.inr (.inl ⟨rfl,wordF c,rfl,z5z c,rfl⟩))⟩
  | 1,e=>cases (Option.some.inj (show some (("step" : Str),(2:Int))=some f from e));exact ⟨_,_,rfl,rfl,Or.inl ⟨rfl,u0,rfl,hu.1,rfl⟩⟩
  | 2,e=>cases (Option.some.inj (show some (("small" : Str),(3:Int))=some f from e));exact ⟨_,_,rfl,rfl,Or.inr (.inr (.inr (.inr ⟨rfl,smF c 0,rfl,(z2g c 0).1,(z2g c 0).2,rfl⟩)))⟩
  | n+3,e=>cases e
 ·rcases d with ⟨kd,c,u0,u1,u2⟩;cases (show kd=14 from hk)
  have hu:u0 < k/\u1 < k/\u2 < k:=hu.resolve_left (show ¬(14:Nat) < 3 by decide)
  intro j f e
  match j,e with
  | 0,e=>cases (Option.some.inj (show some (("word" : Str),(1:Int))=some f from e));exact ⟨_,_,rfl,rfl,Or.inr (.inr (.inl ⟨rfl,wordF c,rfl,z5z c,rfl⟩))⟩
  | 1,e=>cases (Option.some.inj (show some (("step" : Str),(2:Int))=some f from e));exact ⟨_,_,rfl,rfl,Or.inl ⟨rfl,u0,rfl,hu.1,rfl⟩⟩
  | 2,e=>cases (Option.some.inj (show some (("small" : Str),(3:Int))=some f from e));exact ⟨_,_,rfl,rfl,Or.inr (.inr (.inr (.inr ⟨rfl,smF c 0,rfl,(z2g c 0).1,(z2g c 0).2,rfl⟩)))⟩
  | n+3,e=>cases e
theorem x2k {d:Sd}(ra rb:Addr) (hd:d.kd < 15):∀(j:Nat) f,(formsOf d)[j]?=some f->f.1 ≠ "sides" -> (stV d ra)[f.2.toNat]?=(stV d rb)[f.2.toNat]?:=by
 rcases (x4m ‹d.kd < 15›) with hk | hk | hk | hk | hk | hk | hk | hk | hk | hk | hk | hk | hk | hk | hk
 ·rcases d with ⟨kd,c,u0,u1,u2⟩;cases (show kd=0 from hk)
  intro j f e n
  match j,e with
  | 0,e=>cases (Option.some.inj (show some (("sides" : Str),(1:Int))=some f from e));exact absurd rfl n
  | n+1,e=>cases e
 ·rcases d with ⟨kd,c,u0,u1,u2⟩;cases (show kd=1 from hk)
  intro j f e n
  match j,e with
  | 0,e=>cases (Option.some.inj (show some (("number" : Str),(1:Int))=some f from e));exact rfl
  | n+1,e=>cases e
 ·rcases d with ⟨kd,c,u0,u1,u2⟩;cases (show kd=2 from hk)
  intro j f e n
  match j,e with
  | 0,e=>cases (Option.some.inj (show some (("small" : Str),(2:Int))=some f from e));exact rfl
  | 1,e=>cases (Option.some.inj (show some (("sides" : Str),(1:Int))=some f from e));exact absurd rfl n
  | n+2,e=>cases e
 ·rcases d with ⟨kd,c,u0,u1,u2⟩;cases (show kd=3 from hk)
  intro j f e n
  match j,e with
  | 0,e=>cases (Option.some.inj (show some (("word" : Str),(1:Int))=some f from e));exact rfl
  | 1,e=>cases (Option.some.inj (show some (("step" : Str),(2:Int))=some f from e));exact rfl
  | n+2,e=>cases e
 ·rcases d with ⟨kd,c,u0,u1,u2⟩;cases (show kd=4 from hk)
  intro j f e n
  match j,e with
  | 0,e=>cases (Option.some.inj (show some (("word" : Str),(1:Int))=some f from e));exact rfl
  | 1,e=>cases (Option.some.inj (show some (("step" : Str),(2:Int))=some f from e));exact rfl
  | 2,e=>cases (Option.some.inj (show some (("step" : Str),(3:Int))=some f from e));exact rfl
  | n+3,e=>cases e
 ·rcases d with ⟨kd,c,u0,u1,u2⟩;cases (show kd=5 from hk)
  intro j f e n
  match j,e with
  | 0,e=>cases (Option.some.inj (show some (("step" : Str),(1:Int))=some f from e));exact rfl
  | 1,e=>cases (Option.some.inj (show some (("step" : Str),(2:Int))=some f from e));exact rfl
  | 2,e=>cases (Option.some.inj (show some (("step" : Str),(3:Int))=some f from e));exact rfl
  | n+3,e=>cases e
 ·rcases d with ⟨kd,c,u0,u1,u2⟩;cases (show kd=6 from hk)
  intro j f e n
  match j,e with
  | 0,e=>cases (Option.some.inj (show some (("step" : Str),(1:Int))=some f from e));exact rfl
  | 1,e=>cases (Option.some.inj (show some (("sides" : Str),(2:Int))=some f from e));exact absurd rfl n
  | n+2,e=>cases e
 ·rcases d with ⟨kd,c,u0,u1,u2⟩;cases (show kd=7 from hk)
  intro j f e n
  match j,e with
  | 0,e=>cases (Option.some.inj (show some (("step" : Str),(1:Int))=some f from e));exact rfl
  | 1,e=>cases (Option.some.inj (show some (("small" : Str),(2:Int))=some f from e));exact rfl
  | n+2,e=>cases e
 ·rcases d with ⟨kd,c,u0,u1,u2⟩;cases (show kd=8 from hk)
  intro j f e n
  match j,e with
  | 0,e=>cases (Option.some.inj (show some (("step" : Str),(1:Int))=some f from e));exact rfl
  | 1,e=>cases (Option.some.inj (show some (("small" : Str),(2:Int))=some f from e));exact rfl
  | 2,e=>cases (Option.some.inj (show some (("small" : Str),(3:Int))=some f from e));exact rfl
  | 3,e=>cases (Option.some.inj (show some (("small" : Str),(4:Int))=some f from e));exact rfl
  | 4,e=>cases (Option.some.inj (show some (("small" : Str),(5:Int))=some f from e));exact rfl
  | n+5,e=>cases e
 ·rcases d with ⟨kd,c,u0,u1,u2⟩;cases (show kd=9 from hk)
  intro j f e n
  match j,e with
  | 0,e=>cases (Option.some.inj (show some (("step" : Str),(1:Int))=some f from e));exact rfl
  | 1,e=>cases (Option.some.inj (show some (("small" : Str),(2:Int))=some f from e));exact rfl
  | 2,e=>cases (Option.some.inj (show some (("small" : Str),(3:Int))=some f from e));exact rfl
  | n+3,e=>cases e
 ·rcases d with ⟨kd,c,u0,u1,u2⟩;cases (show kd=10 from hk)
  intro j f e n
  match j,e with
  | 0,e=>cases (Option.some.inj (show some (("step" : Str),(1:Int))=some f from e));exact rfl
  | 1,e=>cases (Option.some.inj (show some (("sides" : Str),(2:Int))=some f from e));exact absurd rfl n
  | n+2,e=>cases e
 ·rcases d with ⟨kd,c,u0,u1,u2⟩;cases (show kd=11 from hk)
  intro j f e n
  match j,e with
  | 0,e=>cases (Option.some.inj (show some (("step" : Str),(1:Int))=some f from e));exact rfl
  | 1,e=>cases (Option.some.inj (show some (("step" : Str),(2:Int))=some f from e));exact rfl
  | 2,e=>cases (Option.some.inj (show some (("small" : Str),(3:Int))=some f from e));exact rfl
  | n+3,e=>cases e
 ·rcases d with ⟨kd,c,u0,u1,u2⟩;cases (show kd=12 from hk)
  intro j f e n
  match j,e with
  | 0,e=>cases (Option.some.inj (show some (("step" : Str),(1:Int))=some f from e));exact rfl
  | 1,e=>cases (Option.some.inj (show some (("step" : Str),(2:Int))=some f from e));exact rfl
  | n+2,e=>cases e
 ·rcases d with ⟨kd,c,u0,u1,u2⟩;cases (show kd=13 from hk)
  intro j f e n
  match j,e with
  | 0,e=>cases (Option.some.inj (show some (("word" : Str),(1:Int))=some f from e));exact rfl
  | 1,e=>cases (Option.some.inj (show some (("step" : Str),(2:Int))=some f from e));exact rfl
  | 2,e=>cases (Option.some.inj (show some (("small" : Str),(3:Int))=some f from e));exact rfl
  | n+3,e=>cases e
 ·rcases d with ⟨kd,c,u0,u1,u2⟩;cases (show kd=14 from hk)
  intro j f e n
  match j,e with
  | 0,e=>cases (Option.some.inj (show some (("word" : Str),(1:Int))=some f from e));exact rfl
  | 1,e=>cases (Option.some.inj (show some (("step" : Str),(2:Int))=some f from e));exact rfl
  | 2,e=>cases (Option.some.inj (show some (("small" : Str),(3:Int))=some f from e));exact rfl
  | n+3,e=>cases e
theorem y5p:∀(kd:Fin 15) (i j:Fin 5),((formsL.getD kd.val ("",[])).2.getD i.val ("",0)).1 = "sides" -> ((formsL.getD kd.val ("",[])).2.getD j.val ("",0)).1 = "sides" -> i=j:=by decide +kernel
theorem z7v:∀(kd:Fin 15) (i j:Fin 5),i.val < (formsL.getD kd.val ("",[])).2.length->j.val < (formsL.getD kd.val ("",[])).2.length->((formsL.getD kd.val ("",[])).2.getD i.val ("",0)).2=((formsL.getD kd.val ("",[])).2.getD j.val ("",0)).2->i=j:=by decide +kernel
theorem z2s:∀(kd:Fin 15) (i:Fin 5),i.val < (formsL.getD kd.val ("",[])).2.length->1≤((formsL.getD kd.val ("",[])).2.getD i.val ("",0)).2/\((formsL.getD kd.val ("",[])).2.getD i.val ("",0)).2≤(formsL.getD kd.val ("",[])).2.length:=by decide +kernel
theorem y5q:∀(kd:Fin 15) (p:Fin 5),p.val < (formsL.getD kd.val ("",[])).2.length->∃i:Fin 5,i.val < (formsL.getD kd.val ("",[])).2.length/\((formsL.getD kd.val ("",[])).2.getD i.val ("",0)).2=(p.val:Int)+1:=by decide +kernel
theorem z3h {α:Type}{l:List α}{i:Nat}{x a:α}(h:l[i]?=some x):l.getD i a=x:=by rw [List.getD_eq_getElem?_getD,h];rfl
theorem x2j {d:Sd}(ra:Addr) (h:d.kd < 15):(stV d ra).length=(formsOf d).length+1:=by
 rcases d with ⟨kd,c,u0,u1,u2⟩
 exact z4j (P:=λ kd=>(stV ⟨kd,c,u0,u1,u2⟩ ra).length=((formsL.getD kd ("",[])).2).length+1) h rfl rfl rfl rfl rfl rfl rfl rfl rfl rfl rfl rfl rfl rfl rfl
theorem x0p {d:Sd}(ra:Addr) (h:d.kd < 15):(stV d ra)[0]?=some (.str (kindS d.kd)):=z6z h ..
def Filled (d:Sd) (ra:Addr) (j:Nat) (xs:List V):Prop:=xs.length=(formsOf d).length+1/\xs[0]?=some (.str (kindS d.kd))/\∀i f,i < j->(formsOf d)[i]?=some f->xs[f.2.toNat]?=(stV d ra)[f.2.toNat]?
theorem y0q (d:Sd):(formsOf d).length≤5:=z2i (i:=d.kd)
theorem Filled.put {d:Sd}{ra rb:Addr}{j:Nat}{xs:List V}{f:Str × Int}{x:V}(h:Filled d ra j xs) (hd:d.kd < 15) (e:(formsOf d)[j]?=some f) (ex:(stV d rb)[f.2.toNat]?=some x) (n:rb=ra\/f.1 = "sides"):Filled d rb (j+1) (xs.set f.2.toNat x):=by
 have l5:=y0q d
 have jl:=(List.getElem?_eq_some_iff.mp e).1
 have fj:=z2s ⟨d.kd,hd⟩ ⟨j,by omega⟩ jl
 have gj:=z3h (a:=(("",0):Str × Int)) e
 rw [show ((formsL.getD (⟨d.kd,hd⟩:Fin 15).val ("",[])).2.getD (⟨j,by omega⟩:Fin 5).val ("",0))=f from gj] at fj
 obtain ⟨l,h0,hh⟩:=h
 refine ⟨by rw [List.length_set];exact l,by rw [List.getElem?_set_ne (by omega)];exact h0,λ i g hi eg=>?_⟩
 by_cases c:i=j
 ·subst c
  rw [e] at eg;cases eg
  rw [List.getElem?_set_self (by have:=fj.2;show f.2.toNat < xs.length;have e2:(formsL.getD (⟨d.kd,hd⟩:Fin 15).val ("",[])).2.length=(formsOf d).length:=rfl;omega),ex]
 ·have il:=(List.getElem?_eq_some_iff.mp eg).1
  have gi:=z3h (a:=(("",0):Str × Int)) eg
  have fi:=z2s ⟨d.kd,hd⟩ ⟨i,by omega⟩ il
  rw [show ((formsL.getD (⟨d.kd,hd⟩:Fin 15).val ("",[])).2.getD (⟨i,by omega⟩:Fin 5).val ("",0))=g from gi] at fi
  have ne:f.2.toNat≠g.2.toNat:=λ z=>c (by
   have:=z7v ⟨d.kd,hd⟩ ⟨i,by omega⟩ ⟨j,by omega⟩ il jl (by
    rw [show ((formsL.getD (⟨d.kd,hd⟩:Fin 15).val ("",[])).2.getD (⟨i,by omega⟩:Fin 5).val ("",0))=g from gi,show ((formsL.getD (⟨d.kd,hd⟩:Fin 15).val ("",[])).2.getD (⟨j,by omega⟩:Fin 5).val ("",0))=f from gj];omega)
   exact congrArg (λ x:Fin 5=>x.val) this)
  rw [List.getElem?_set_ne ne,hh i g (by omega) eg]
  rcases n with rfl | n
  ·rfl
  ·refine x2k ra rb hd i g eg λ z=>c ?_
   have:=y5p ⟨d.kd,hd⟩ ⟨i,by omega⟩ ⟨j,by omega⟩ (by rw [show ((formsL.getD (⟨d.kd,hd⟩:Fin 15).val ("",[])).2.getD (⟨i,by omega⟩:Fin 5).val ("",0))=g from gi];exact z) (by rw [show ((formsL.getD (⟨d.kd,hd⟩:Fin 15).val ("",[])).2.getD (⟨j,by omega⟩:Fin 5).val ("",0))=f from gj];exact n)
   exact congrArg (λ x:Fin 5=>x.val) this
theorem Filled.all {d:Sd}{ra:Addr}{xs:List V}(h:Filled d ra (formsOf d).length xs) (hd:d.kd < 15):xs=stV d ra:=by
 obtain ⟨l,h0,hh⟩:=h
 have l5:=y0q d
 refine List.ext_getElem? λ p=>?_
 match p with
 | 0=>rw [h0,x0p ra hd]
 | p+1 =>
  by_cases c:p < (formsOf d).length
  ·obtain ⟨i,hi,ei⟩:=y5q ⟨d.kd,hd⟩ ⟨p,by omega⟩ c
   have hi:i.val < (formsOf d).length:=hi
   have:=hh i.val _ hi (List.getElem?_eq_getElem hi)
   have ei:((formsOf d).getD i.val ("",0)).2=(p:Int)+1:=ei
   rw [z3h (List.getElem?_eq_getElem hi)] at ei
   rw [ei,show ((p:Int)+1).toNat=p+1 by omega] at this
   exact this
  ·rw [List.getElem?_eq_none (by omega),List.getElem?_eq_none (by rw [x2j ra hd];omega)]
def rowW (ds:List Sd) (nm:List Str) (i:Nat):List Str:=[nm.getD i "", "=",kindS (ds.getD i ⟨0,0,0,0,0⟩).kd]++wordsF (ds.getD i ⟨0,0,0,0,0⟩) nm
def outW (os:List Nat) (nm:List Str):List Str := "out" :: outsF os nm
def allW (ds:List Sd) (os:List Nat) (nm:List Str):List (List Str):=(List.range ds.length).map (rowW ds nm)++[outW os nm]
theorem z9p (ds:List Sd) (os:List Nat) (nm:List Str):textL ds os nm=(allW ds os nm).map (Builtin.Str.glued " "):=by
 unfold textL allW rowsF outS outW
 rw [List.map_append,List.map_map]
 rfl
theorem x2b (ds:List Sd) (os:List Nat) (nm:List Str):(allW ds os nm).length=ds.length+1:=by simp [allW]
def OrdOk (ds:List Sd):Prop:=∀(i:Nat) (d:Sd),ds[i]?=some d->d.kd < 3\/(d.u0 < i/\d.u1 < i/\d.u2 < i)
theorem z9g {nm:List Str}(g:nmGood nm) {u:Nat}(h:u < nm.length):nameOk (nm.getD u ""):=g.1 _ (List.mem_of_getElem? (z8h h))
theorem z9d:("\n" : Str)=⟨#[10]⟩:=by decide +kernel
theorem y1c:(" " : Str)=⟨#[32]⟩:=by decide +kernel
def RowsAt (H:Hp) (wss:List (List Str)) (ps:List Addr):Prop:=ps.length=wss.length/\∀(i:Nat) ws,wss[i]?=some ws->∃a,ps[i]?=some a/\H a=some (.lst (ws.map V.str))
theorem RowsAt.same {H H':Hp}{wss:List (List Str)}{ps:List Addr}(h:RowsAt H wss ps) (s:Same H H'):RowsAt H' wss ps:=⟨h.1,λ i ws e=>let ⟨a,e1,l⟩:=h.2 i ws e;⟨a,e1,s _ _ l⟩⟩
theorem RowsAt.snoc {H:Hp}{wss:List (List Str)}{ps:List Addr}{ws:List Str}{a:Addr}(h:RowsAt H wss ps) (g:H a=some (.lst (ws.map V.str))):RowsAt H (wss++[ws]) (ps++[a]):=by
 refine ⟨by simp [h.1],λ i d' e=>?_⟩
 rcases Nat.lt_trichotomy i wss.length with hi | hi | hi
 ·rw [List.getElem?_append_left hi] at e
  obtain ⟨b,e1,l⟩:=h.2 i d' e
  exact ⟨b,by rw [List.getElem?_append_left (by rw [h.1];exact hi)];exact e1,l⟩
 ·subst hi
  rw [List.getElem?_append_right (Nat.le_refl _),Nat.sub_self] at e
  cases (Option.some.inj e)
  exact ⟨a,by rw [List.getElem?_append_right (by rw [h.1];exact Nat.le_refl _),h.1,Nat.sub_self];rfl,g⟩
 ·rw [List.getElem?_eq_none (by simp;omega)] at e;cases e
theorem x4y (a b c:Str) (r:List Str):cutV (([a,b,c]++r).map V.str) (some 3) none=r.map V.str:=by
 unfold cutV
 simp only [HT.sIx]
 rw [if_neg (by decide)]
 simp
 exact List.take_of_length_le (by simp)
theorem x4z (a:Str) (r:List Str):cutV ((a::r).map V.str) (some 1) none=r.map V.str:=by
 unfold cutV
 simp only [HT.sIx]
 rw [if_neg (by decide)]
 simp
 exact List.take_of_length_le (by simp)
theorem z4b {α:Type}(a:α):∀n:Nat,(List.replicate n [a]).flatten=List.replicate n a
 | 0=>rfl
 | n+1=>by rw [List.replicate_succ,List.flatten_cons,z4b a n,List.replicate_succ];rfl
def nA (way fill step k:Nat):List Nat:=if way=1 then List.replicate (k % 8) (97+fill)++[97+(step+k / 8) % 26] else (plainF k).cps.toList
def nB (way fill spot step k:Nat):List Nat:=if way=2\/way=3 then List.replicate spot (97+fill)++[97+(step+k) % 26,97+k / 26]++List.replicate (6 - spot) (97+fill) else nA way fill step k
theorem z4q (a b:List Nat):strL a++strL b=strL (a++b):=by unfold strL;show (⟨a.toArray++b.toArray⟩:Str)=_;rw [List.append_toArray]
theorem z2m (a:List Nat):(strL a).length=a.length:=by show a.toArray.size=_;simp
theorem z6n (n:Nat) (a:Nat):(strL (List.replicate n [a]).flatten).length=n:=by rw [z2m,z4b,List.length_replicate]
theorem nameOk.nm {nm:List Str}(g:nmGood nm) (l:nm.length≤40):nmOk nm:=⟨l,λ x hx=>by have:=(g.1 x hx).len;omega⟩
theorem y1a {H:Hp}{ds:List Sd}{os:List Nat}{nm:List Str}{as:List Addr}(sd:SdsAt H ds as) (dk:∀d∈ds,SdOk ds.length d) (nl:nm.length=ds.length) (n:nmOk nm) (o8:os.length≤8) (ob:∀o∈os,o < ds.length):∀x∈textL ds os nm,x.length≤5000:=λ x hx=>by
 rcases List.mem_append.mp hx with hx | hx
 ·obtain ⟨i,hi,rfl⟩:=List.mem_map.mp hx
  have hi:=List.mem_range.mp hi
  have gi:ds[i]?=some (ds.getD i ⟨0,0,0,0,0⟩):=by rw [List.getD_eq_getElem?_getD,List.getElem?_eq_getElem hi];rfl
  obtain ⟨b,_,db⟩:=sd.2 i _ gi
  exact x0r (by rw [nl];exact dk _ (List.mem_of_getElem? gi)) n db (n.2 _ (List.mem_of_getElem? (z8h (by omega))))
 ·cases List.mem_singleton.mp hx
  exact Nat.le_trans (z2b _ _) (Nat.le_trans (x1a n o8 λ o ho=>by rw [nl];exact ob o ho) (by decide))
theorem x4g (xs:List V):cutV xs none (some (-1))=xs.take (xs.length - 1):=by
 unfold cutV
 simp only [HT.sIx]
 rcases Nat.eq_zero_or_pos xs.length with h | h
 ·have:xs=[]:=List.eq_nil_of_length_eq_zero h
  subst this;rfl
 ·rw [List.drop_zero]
  congr 1
  split<;>omega
theorem x5b {xs:List V}{n:Nat}{v:V}(l:xs.length=n+1) (h:xs[n]?=some v):atI xs (-1)=some v:=by
 unfold atI
 rw [show ixN xs.length (-1)=some n from by rw [l];unfold ixN;simp;omega]
 exact h
theorem SdAt.upd {H:Hp}{d:Sd}{a l:Addr}{o:HO}(h:SdAt H d a) (n:∀xs,H l≠some (.tup xs)):SdAt (upd H l o) d a:=by
 obtain ⟨ra,h1,h2⟩:=h
 exact ⟨ra,by rw [z0m (λ z=>n _ (z ▸ h1))];exact h1,by rw [z0m (λ z=>n _ (z ▸ h2))];exact h2⟩
theorem SdsAt.upd {H:Hp}{ds:List Sd}{as:List Addr}{l:Addr}{o:HO}(h:SdsAt H ds as) (n:∀xs,H l≠some (.tup xs)):SdsAt (L2.upd H l o) ds as:=⟨h.1,λ i d e=>let ⟨a,e1,g⟩:=h.2 i d e;⟨a,e1,g.upd n⟩⟩
theorem y7x {X:Cx}{e:Expr}:PE X e (λ _ _ _=>False):=λ _ _ _ _ _ _ h=>h.elim
def lowB (x:Str):Prop:=x.cps.size≤4000000/\∀c∈x.cps.toList,c < 128
theorem y4z {x:Str}(h:lowB x):lowB (Txt.slice x (some 1) none):=by
 refine ⟨Nat.le_trans (Txt.slice_le x (some 1) none) h.1,λ c hc=>?_⟩
 rw [y2m] at hc
 exact h.2 c (List.mem_of_mem_drop hc)
theorem x1w {n:Nat}(h:n≤4000000):n < sizeLine:=Nat.lt_of_le_of_lt h (by rw [sizeLine_eq];decide)
def abcB (c:Nat):Bool:=decide (97≤c) && decide (c≤122)
def madeA (L:List Nat) (m:Int):Bool:=decide (1≤(L.length:Int)) && (decide ((L.length:Int)≤m) && L.all abcB)
theorem x4i:∀c:Fin 128,(!(Builtin.Str.occurrences "abcdefghijklmnopqrstuvwxyz" ⟨#[c.val]⟩ 0 ("abcdefghijklmnopqrstuvwxyz" : Str).length 1).isEmpty)=abcB c.val:=by decide +kernel
def nmB (x:Str):Bool:=madeA x.cps.toList 8
def smallsO (ws:List Str):Option (List Int):=if ws.length≤8/\(ws.all λ w=>(figI w.cps.toList 3).isSome)=true then some (ws.map λ w=>(((figI w.cps.toList 3).getD 0:Nat):Int)) else none
def partV (kvs:List (Key × V)) (kind w:Str):V:=if kind=Str.ofString "step" then (valV kvs (Sum.inr w:Key)).getD .non else if kind=Str.ofString "word" then (if nmB w=true then .str w else .non) else if kind=Str.ofString "number" then optV (numI w.cps.toList) else optN (figI w.cps.toList 3)
def lowW (ws:List Str):Prop:=ws.length≤4000000/\∀w∈ws,lowB w
theorem y3z {o:Option Nat}(h:o.isSome=true):optN o=.int ((o.getD 0:Nat):Int):=by
 cases o with
 | none=>cases h
 | some n=>rfl
theorem x1z {ws:List Str}:((ws.map λ w=>optN (figI w.cps.toList 3)).any λ z=>eqV z .non)=!(ws.all λ w=>(figI w.cps.toList 3).isSome):=by
 induction ws with
 | nil=>rfl
 | cons w ws ih =>
  rw [List.map_cons,List.any_cons,ih,List.all_cons]
  cases figI w.cps.toList 3<;>simp [optN,eqV]
theorem x3g {ws:List Str}(h:(ws.all λ w=>(figI w.cps.toList 3).isSome)=true):ws.map (λ w=>optN (figI w.cps.toList 3))=(ws.map λ w=>(((figI w.cps.toList 3).getD 0:Nat):Int)).map V.int:=by
 rw [List.map_map]
 exact List.map_congr_left λ w hw=>y3z (List.all_eq_true.mp h w hw)
inductive PC where
 | v:V->PC
 | t:List Int->PC
def PCAt (H:Hp):PC->V->Prop
 | .v x,y=>flatV x=true/\y=x
 | .t row,y=>∃a,y=.ref a/\H a=some (.tup (row.map V.int))
def isNon:PC->Bool
 | .v .non=>true
 | _=>false
def PCs (H:Hp) (cs:List PC) (xs:List V):Prop:=xs.length=cs.length/\∀(i:Nat) c x,cs[i]?=some c->xs[i]?=some x->PCAt H c x
theorem PCAt.mono {H H':Hp}{c:PC}{x:V}(h:PCAt H c x) (u:∀a xs,H a=some (.tup xs)->H' a=some (.tup xs)):PCAt H' c x:=by
 cases c with
 | v y=>exact h
 | t row=>obtain ⟨a,e,h⟩:=h;exact ⟨a,e,u _ _ h⟩
theorem PCs.mono {H H':Hp}{cs:List PC}{xs:List V}(h:PCs H cs xs) (u:∀a xs,H a=some (.tup xs)->H' a=some (.tup xs)):PCs H' cs xs:=⟨h.1,λ i c x e1 e2=>(h.2 i c x e1 e2).mono u⟩
theorem PCs.set {H:Hp}{cs:List PC}{xs:List V}{c:PC}{x:V}(h:PCs H cs xs) (k:Nat) (e:PCAt H c x):PCs H (cs.set k c) (xs.set k x):=by
 refine ⟨by rw [List.length_set,List.length_set];exact h.1,λ i c' x' e1 e2=>?_⟩
 rw [List.getElem?_set] at e1 e2
 by_cases z:k=i
 ·subst z
  by_cases l:k < cs.length
  ·rw [if_pos rfl,if_pos l] at e1
   rw [if_pos rfl,if_pos (by rw [h.1];exact l)] at e2
   cases e1;cases e2;exact e
  ·rw [if_pos rfl,if_neg l] at e1;cases e1
 ·rw [if_neg z] at e1 e2
  exact h.2 i c' x' e1 e2
def sidesC (ws:List Str):PC:=match smallsO ws with
 | some r=>.t r
 | none=>.v .non
def oneP (kvs:List (Key × V)) (s:List PC × List Str) (f:Str × Int):List PC × List Str :=
 if f.1=Str.ofString "sides" then (s.1.set f.2.toNat (sidesC s.2),[]) else match s.2 with
  | []=>(s.1.set f.2.toNat (.v .non),[])
  | w::ws=>(s.1.set f.2.toNat (.v (partV kvs f.1 w)),ws)
def readP (kvs:List (Key × V)) (kd:Nat) (ws:List Str) (j:Nat):List PC × List Str:=(((formsL.getD kd ("",[])).2).take j).foldl (oneP kvs) (List.replicate (((formsL.getD kd ("",[])).2).length+1) (.v (.str (kindS kd))),ws)
theorem z5r {kvs:List (Key × V)}{kd:Nat}{ws:List Str}{j:Nat}{f:Str × Int}(h:((formsL.getD kd ("",[])).2)[j]?=some f):readP kvs kd ws (j+1)=oneP kvs (readP kvs kd ws j) f:=by
 unfold readP
 rw [List.take_add_one,h,List.foldl_append]
 rfl
theorem y8d {kvs:List (Key × V)}{s:List PC × List Str}{f:Str × Int}:(oneP kvs s f).1.length=s.1.length:=by
 unfold oneP
 split
 ·exact List.length_set
 ·split<;>exact List.length_set
theorem z7x {kvs:List (Key × V)}:∀ {fs:List (Str × Int)}{s:List PC × List Str},(fs.foldl (oneP kvs) s).1.length=s.1.length
 | [],_=>rfl
 | f::fs,s=>by rw [List.foldl_cons,z7x,y8d]
theorem z4u {kvs:List (Key × V)}{kd:Nat}{ws:List Str}{j:Nat}:(readP kvs kd ws j).1.length=((formsL.getD kd ("",[])).2).length+1:=by
 unfold readP
 rw [z7x,List.length_replicate]
def stepO (kvs:List (Key × V)) (kd:Nat) (ws:List Str):Option (List PC):=if (readP kvs kd ws ((formsL.getD kd ("",[])).2).length).2=[]/\(readP kvs kd ws ((formsL.getD kd ("",[])).2).length).1.any isNon=false then some (readP kvs kd ws ((formsL.getD kd ("",[])).2).length).1 else none
def knI (kvs:List (Key × V)):Prop:=∀k v,valV kvs k=some v->∃u:Nat,v=.int (u:Int)
theorem y3w {kvs:List (Key × V)}(h:knI kvs) (kind w:Str):flatV (partV kvs kind w)=true:=by
 unfold partV
 split
 ·cases e:valV kvs (Sum.inr w:Key) with
  | none=>rfl
  | some v=>obtain ⟨u,rfl⟩:=h _ _ e;rfl
 ·split
  ·split<;>rfl
  ·split
   ·cases numI w.cps.toList<;>rfl
   ·cases figI w.cps.toList 3<;>rfl
theorem PCAt.non {H:Hp}{c:PC}{x:V}(h:PCAt H c x):eqV x .non=isNon c:=by
 cases c with
 | v y=>obtain ⟨_,rfl⟩:=h;cases x<;>simp [eqV,isNon]
 | t row=>obtain ⟨a,rfl,_⟩:=h;simp [eqV,isNon]
theorem PCs.any {H:Hp}:∀ {cs:List PC}{xs:List V},PCs H cs xs->(xs.any λ z=>eqV z .non)=cs.any isNon
 | [],[],_=>rfl
 | [],_::_,h=>by cases h.1
 | _::_,[],h=>by cases h.1
 | c::cs,x::xs,h=>by
  rw [List.any_cons,List.any_cons,(h.2 0 c x rfl rfl).non,PCs.any (cs:=cs) (xs:=xs) ⟨Nat.succ.inj h.1,λ i c' x' e1 e2=>h.2 (i+1) c' x' e1 e2⟩]
theorem PCs.flat {H:Hp}{cs:List PC}{xs:List V}(h:PCs H cs xs):∀z∈xs,flatV z=true\/∃a,z=.ref a/\∃ys,H a=some (.tup ys):=λ z hz=>by
 obtain ⟨i,hi⟩:=List.mem_iff_getElem?.mp hz
 have il:i < cs.length:=by rw [← h.1];exact (List.getElem?_eq_some_iff.mp hi).1
 have e:=h.2 i _ z (List.getElem?_eq_getElem il) hi
 cases hc:cs[i] with
 | v y=>rw [hc] at e;exact .inl (by rw [e.2];exact e.1)
 | t row=>rw [hc] at e;obtain ⟨a,e,h⟩:=e;exact .inr ⟨a,e,_,h⟩
theorem lowW.tl {w:Str}{ws:List Str}(h:lowW (w::ws)):lowW ws:=⟨Nat.le_of_succ_le h.1,λ x hx=>h.2 x (List.mem_cons_of_mem _ hx)⟩
theorem z5v {K:W.Frag}:∀ {fs:List (Str × List (Str × Int))}{kvs:List (Str × Addr)},PartsAll K fs kvs->∀ {x:Str},fs.lookup x=none->kvs.lookup x=none
 | [],[],_,_,_=>rfl
 | [],_::_,h,_,_=>h.elim
 | _::_,[],h,_,_=>h.elim
 | (g,gs)::fs,(p,pa)::ps,h,x,e=>by
  obtain ⟨⟨e1,xs,k1,k2⟩,h2⟩:=h
  cases (show p=g from e1)
  rw [List.lookup_cons] at e ⊢
  by_cases c:x == g
  ·rw [c] at e;cases e
  ·have c:(x == g)=false:=by simpa using c
   rw [c] at e ⊢
   exact z5v h2 e
theorem y0j {β:Type}{x:Str}:∀ {l:List (Str × β)},(l.lookup x).isSome=true->x∈l.map (·.1)
 | [],h=>by cases h
 | (g,b)::l,h=>by
  rw [List.lookup_cons] at h
  by_cases c:x == g
  ·rw [eq_of_beq c];exact List.mem_cons_self
  ·have c:(x == g)=false:=by simpa using c
   rw [c] at h
   exact List.mem_cons_of_mem _ (y0j h)
theorem y1x:formsL.map (·.1)=(List.range 15).map kindS:=by decide +kernel
def formN (x:Str):Nat:=((List.range 15).find? λ i=>kindS i == x).getD 15
theorem y5r {x:Str}(h:(formsL.lookup x).isSome=true):formN x < 15/\kindS (formN x)=x:=by
 have m:=y0j h
 rw [y1x] at m
 obtain ⟨i,hi,e⟩:=List.mem_map.mp m
 unfold formN
 cases hf:(List.range 15).find? λ i=>kindS i == x with
 | none=>exact absurd (by rw [e];exact beq_self_eq_true x) (List.find?_eq_none.mp hf i hi)
 | some j =>
  have z:(kindS j == x)=true:=List.find?_some (p:=λ i=>kindS i == x) hf
  exact ⟨List.mem_range.mp (List.mem_of_find?_eq_some hf),eq_of_beq z⟩
def rowO (kvs:List (Key × V)) (ws:List Str):Option (List PC):=match ws with
 | a::e::k::rest=>if e=Str.ofString "=" /\ (formsL.lookup k).isSome=true/\nmB a=true/\(valV kvs (Sum.inr a:Key)).isSome=false then stepO kvs (formN k) rest else none
 | _=>none
theorem knI.flat {kvs:List (Key × V)}(h:knI kvs) (w:Str):flatV ((valV kvs (Sum.inr w:Key)).getD .non)=true:=by
 cases e:valV kvs (Sum.inr w:Key) with
 | none=>rfl
 | some v=>obtain ⟨u,rfl⟩:=h _ _ e;rfl
theorem knI.any {kvs:List (Key × V)}(h:knI kvs):∀ws:List Str,((ws.map λ w=>(valV kvs (Sum.inr w:Key)).getD .non).any λ z=>eqV z .non)=!(ws.all λ w=>(valV kvs (Sum.inr w:Key)).isSome)
 | []=>rfl
 | w::ws=>by
  rw [List.map_cons,List.any_cons,knI.any h ws,List.all_cons]
  cases e:valV kvs (Sum.inr w:Key) with
  | none=>simp [eqV]
  | some v=>obtain ⟨u,rfl⟩:=h _ _ e;simp [eqV]
def outsO (kvs:List (Key × V)) (ws:List Str):Option (List V):=match ws with
 | o::rest=>if o=Str.ofString "out" /\ 1≤rest.length/\rest.length≤8/\(rest.all λ w=>(valV kvs (Sum.inr w:Key)).isSome)=true then some (rest.map λ w=>(valV kvs (Sum.inr w:Key)).getD .non) else none
 | []=>none
theorem lowW.nil:lowW []:=⟨by decide,λ x hx=>nomatch hx⟩
def clsBody (s:Stmt):List Stmt:=match s with
 | .ClassDef _ _ _ b _ _ _ _ _ _ _=>b
 | _=>[]
abbrev sinit:Stmt:=(clsBody (top 2)).getD 0 (.Pass ⟨0,0,0,0⟩)
def ErrR (x:V):List (Str × V):=[(Str.ofString "row",x)]
def spinit (K:W.Frag):Sp:=λ vs H Q _=>∃(a C:Addr) (tx:Str) (x:V),vs=[.ref a,.str tx,x]/\H a=some (ExcM a C none)/\clsX K C [.type "ValueError",.type "Exception",.type "BaseException",.type "object"] "ValueError.__new__" = true/\AtX K C/\NoAttr K C (Str.ofString "row") /\
 ∀dx H',H dx=none->dx≠a->H' a=some (ExcM a C (some dx))->H' dx=some (ExcF dx (ErrR x))->(∀b,b≠a->b≠dx->H' b=H b)->Q .non H'
variable {P:Program}{w:World}{K:W.Frag}{mg:Str->Option Value}{base:Heap}{f:Addr}{fd:FuncData}
theorem x2m:FnScope ["self", "text", "row"] ["self", "text", "row"] (defScope sinit):=⟨rfl,rfl,rfl,by decide +kernel,rfl,by decide +kernel,by decide +kernel⟩
theorem x3e (F:Fun K "__init__" "BadText.__init__" sinit f fd) {C0:Addr}(gL:mg "LoomError" = some (.ref C0)) (h1:W.specialIn K (.ref C0) "__getattribute__" = some (some (.builtin "type.__getattribute__"))) (h2:W.readsIn K C0 (.type "type")=true) (h3:W.findCls K (.ref C0) (.type "type") "__init__" = some (.val (.builtin "ValueError.__init__")))
  (h4:W.handedIn (.builtin "ValueError.__init__")=true):FnOk P w K mg base CX0 7 f fd ["self", "text", "row"] (spinit K):=by
 have sc:=x2m
 refine F.ok sc (λ vs H Q E h=>?_) (λ cdv A outer s H vs Q E hr h=>?_)
 ·obtain ⟨a,C,tx,x,rfl,_⟩:=h;rfl
 obtain ⟨a,C,tx,x,rfl,ha,hc,hA,n1,q⟩:=h
 refine ⟨_,(z0c (z2h (y7y PySem.F.excBase_ValueError (by rfl) gL h1 h2 h3 h4 (z0a (pv 0) (z0a (pv 1) z0e)))) (z0g (x2s (pv 0) (pv 2) rfl))),?_⟩
 wp_walk using tSeq,tIfS,tyS,inV,eqV
 exact ⟨C,none,ha,hc,small (by decide),C,ha,hA,n1,λ dx hd ne=>q dx _ hd ne (by rw [z0d]) (by rw [z0m ne,z0d];rfl) λ b n1 n2=>by rw [z0m n1,z0m n2]⟩
def rowsT (T:Str):List (List Str):=(splitL 10 T.cps.toList).map λ r=>(splitL 32 (strL r).cps.toList).map strL
def StsAt (H:Hp) (sts:List (List PC)) (ps:List Addr):Prop:=ps.length=sts.length/\∀(i:Nat) cs,sts[i]?=some cs->∃a xs,ps[i]?=some a/\H a=some (.tup xs)/\PCs H cs xs
def rdS (rows:List (List Str)):Nat->Option (List (Key × V) × List (List PC))
 | 0=>some ([],[])
 | i+1=>(rdS rows i).bind λ s=>(rows[i]?).bind λ r=>if i < 40 then (rowO s.1 r).map λ cs=>(putK s.1 (Sum.inr (r.headD ""):Key) (.int (i:Int)),s.2++[cs]) else none
theorem z6f {kvs:List (Key × V)}{r:List Str}{cs:List PC}(h:rowO kvs r=some cs):valV kvs (Sum.inr (r.headD ""):Key)=none/\∃a r',r=a::r':=by
 unfold rowO at h
 split at h
 ·split at h
  ·rename_i c
   exact ⟨by have:=c.2.2.2;simpa using this,_,_,rfl⟩
  ·cases h
 ·cases h
theorem knI.put {kvs:List (Key × V)}(h:knI kvs) (k:Key) (n:Nat):knI (putK kvs k (.int (n:Int))):=λ j v e=>by
 rw [z6a] at e
 split at e
 ·cases e;exact ⟨n,rfl⟩
 ·exact h _ _ e
theorem z5t {rows:List (List Str)}:∀ {i:Nat}{s:List (Key × V) × List (List PC)},rdS rows i=some s->knI s.1/\s.1.length=i/\s.2.length=i
 | 0,s,h=>by cases h;exact ⟨λ k v e=>(by cases e),rfl,rfl⟩
 | i+1,s,h=>by
  unfold rdS at h
  obtain ⟨s',h1,h⟩:=Option.bind_eq_some_iff.mp h
  obtain ⟨r,h2,h⟩:=Option.bind_eq_some_iff.mp h
  split at h
  ·obtain ⟨cs,h3,rfl⟩:=Option.map_eq_some_iff.mp h
   obtain ⟨a,b,c⟩:=z5t h1
   refine ⟨a.put _ i,?_,?_⟩
   ·rw [z9y _ (z6f h3).1,List.length_append,b];rfl
   ·rw [List.length_append,c];rfl
  ·cases h
theorem x2g {G:Hp}{l:Addr}{o o':HO}(e:G l=some o) (n:∀xs,o≠.tup xs):∀a ys,G a=some (.tup ys)->upd G l o' a=some (.tup ys):=λ a ys h=>by
 rw [z0m (λ z=>by rw [z,e] at h;cases h;exact n _ rfl)]
 exact h
theorem x2o {H G H':Hp}{a dx:Addr}{o:HO}(s:Same H G) (ha:G a=none) (hd:upd G a o dx=none) (ne:¬dx=a) (e3:∀b,¬b=a->¬b=dx->H' b=upd G a o b):Same H (rm H' a):=λ b u e=>by
 rw [z0m ne] at hd
 have eb:=s _ _ e
 have na:b≠a:=λ z=>by rw [z,ha] at eb;cases eb
 have nd:b≠dx:=λ z=>by rw [z,hd] at eb;cases eb
 rw [z7g na,e3 b na nd,z0m na]
 exact eb
theorem z4a (c:Nat) (L:List Nat):splitL c L≠[]:=by
 cases L with
 | nil=>simp [splitL]
 | cons d r =>
  unfold splitL
  split
  ·simp
  ·split<;>simp
theorem z7f (T:Str):1≤(rowsT T).length:=by
 unfold rowsT
 rw [List.length_map]
 exact List.length_pos_iff.mpr (z4a _ _)
theorem y7t (T:Str):∀ws∈rowsT T,ws≠[]:=λ ws h=>by
 obtain ⟨r,_,rfl⟩:=List.mem_map.mp h
 intro z
 exact z4a _ _ (List.map_eq_nil_iff.mp z)
theorem z8r {W W':List (List Str)}:∀ {i:Nat},(∀j,j < i->W[j]?=W'[j]?)->rdS W i=rdS W' i
 | 0,_=>rfl
 | i+1,h=>by
  unfold rdS
  rw [z8r (λ j hj=>h j (Nat.lt_succ_of_lt hj)),h i (Nat.lt_succ_self i)]
theorem z9w {W:List (List Str)}{i:Nat}(h:rdS W i=none):∀k,rdS W (i+k)=none
 | 0=>h
 | k+1=>by
  show rdS W (i+k+1)=none
  unfold rdS
  rw [z9w h k]
  rfl
theorem z2o (c:Nat):∀(L:List Nat),∀r∈splitL c L,r.length≤L.length/\(∀a∈r,a∈L)/\c ∉ r
 | [],r,h=>by cases List.mem_singleton.mp h;exact ⟨Nat.le_refl _,λ a ha=>ha,λ z=>nomatch z⟩
 | d::L,r,h=>by
  obtain ⟨p,ps,e⟩:=z1v c L
  have ih:=z2o c L
  unfold splitL at h
  split at h
  ·rcases List.mem_cons.mp h with rfl | h
   ·exact ⟨Nat.zero_le _,(λ a ha=>nomatch ha),λ z=>nomatch z⟩
   ·exact ⟨Nat.le_succ_of_le (ih r h).1,λ a ha=>List.mem_cons_of_mem _ ((ih r h).2.1 a ha),(ih r h).2.2⟩
  ·rename_i z
   rw [e] at h ih
   rcases List.mem_cons.mp h with rfl | h
   ·have i:=ih p List.mem_cons_self
    refine ⟨Nat.succ_le_succ i.1,λ a ha=>?_,λ m=>?_⟩
    ·rcases List.mem_cons.mp ha with rfl | ha
     ·exact List.mem_cons_self
     ·exact List.mem_cons_of_mem _ (i.2.1 a ha)
    ·rcases List.mem_cons.mp m with m | m
     ·exact z m.symm
     ·exact i.2.2 m
   ·have i:=ih r (List.mem_cons_of_mem _ h)
    exact ⟨Nat.le_succ_of_le i.1,λ a ha=>List.mem_cons_of_mem _ (i.2.1 a ha),i.2.2⟩
def lowT (T:Str):Prop:=T.length≤3999990/\∀c∈T.cps.toList,c < 128
theorem y9n (r:List Nat):(strL r).cps.toList=r:=rfl
theorem y8q {T:Str}(h:lowT T):(∀r∈splitL 10 T.cps.toList,(strL r).length≤4000000)/\(∀ws∈rowsT T,lowW ws)/\(rowsT T).length≤4000000:=by
 have tl:T.cps.toList.length=T.length:=z3z T
 have h1:=h.1
 refine ⟨λ r hr=>?_,λ ws hw=>?_,?_⟩
 ·have:=(z2o 10 _ r hr).1
  rw [z2m];omega
 ·obtain ⟨r,hr,rfl⟩:=List.mem_map.mp hw
  have i:=z2o 10 _ r hr
  rw [y9n]
  refine ⟨?_,λ w hw=>?_⟩
  ·have:=z2p 32 r
   rw [List.length_map];omega
  ·obtain ⟨v,hv,rfl⟩:=List.mem_map.mp hw
   have j:=z2o 32 _ v hv
   refine ⟨?_,λ c hc=>h.2 c (i.2.1 c (j.2.1 c hc))⟩
   have:(strL v).length≤4000000:=by rw [z2m];omega
   exact this
 ·have:=z2p 10 T.cps.toList
  unfold rowsT
  rw [List.length_map];omega
def spreadX (C:Addr):Sp:=λ vs H Q E=>∃T:Str,vs=[.str T]/\lowT T /\
 (∀i s,i+1 < (rowsT T).length->rdS (rowsT T) i=some s->rdS (rowsT T) (i+1)=none->∀H' dx,Same H H'->H' dx=some (ExcF dx (ErrR (.int ((i:Int)+1))))->E (.ref C) (some dx) H') /\
 (∀s,rdS (rowsT T) ((rowsT T).length - 1)=some s->outsO s.1 ((rowsT T).getLastD [])=none->∀H' dx,Same H H'->H' dx=some (ExcF dx (ErrR (.int ((rowsT T).length:Int))))->E (.ref C) (some dx) H') /\
 (∀s os,rdS (rowsT T) ((rowsT T).length - 1)=some s->outsO s.1 ((rowsT T).getLastD [])=some os->∀H' p q na st oa ps,Same H H'->H' p=some (.tup [.ref q,.ref na])->H' q=some (.tup [.ref st,.ref oa])->H' st=some (.tup (ps.map V.ref))->StsAt H' s.2 ps->H' oa=some (.tup os)->H' na=some (.tup (s.1.map λ kv=>kV kv.1))->Q (.ref p) H')
theorem StsAt.mono {H H':Hp}{sts:List (List PC)}{ps:List Addr}(h:StsAt H sts ps) (u:∀a xs,H a=some (.tup xs)->H' a=some (.tup xs)):StsAt H' sts ps:=⟨h.1,λ i cs e=>let ⟨a,xs,e1,e2,e3⟩:=h.2 i cs e;⟨a,xs,e1,u _ _ e2,e3.mono u⟩⟩
theorem StsAt.snoc {H:Hp}{sts:List (List PC)}{ps:List Addr}{cs:List PC}{p:Addr}{xs:List V}(h:StsAt H sts ps) (e:H p=some (.tup xs)) (c:PCs H cs xs):StsAt H (sts++[cs]) (ps++[p]):=by
 refine ⟨by rw [List.length_append,List.length_append,h.1];rfl,λ i cs' hi=>?_⟩
 by_cases l:i < sts.length
 ·rw [List.getElem?_append_left l] at hi
  rw [List.getElem?_append_left (by rw [h.1];exact l)]
  exact h.2 i cs' hi
 ·have il:=(List.getElem?_eq_some_iff.mp hi).1
  rw [List.length_append] at il
  have z:i=sts.length:=by simp only [List.length_cons,List.length_nil] at il;omega
  subst z
  rw [List.getElem?_append_right (Nat.le_refl _),Nat.sub_self] at hi
  cases hi
  exact ⟨p,xs,by rw [← h.1,List.getElem?_append_right (Nat.le_refl _),Nat.sub_self];rfl,e,c⟩
theorem x0m:∀(n:Nat) {L:List Nat},L.length=n+1->(∀c∈L,48≤c/\c≤57)->¬(L.head?=some 48/\1 < L.length)->D (PySem.NumText.digitsVal L)=L
 | 0,L,l,hd,_=>by
  match L,l with
  | [c],_ =>
   have:=hd c List.mem_cons_self
   rw [show PySem.NumText.digitsVal [c]=c - 48 from Nat.zero_add _,x2c (by omega)]
   congr 1;omega
 | n+1,L,l,hd,nz=>by
  obtain ⟨L',c,rfl⟩:∃L' c,L=L'++[c]:=⟨L.dropLast,L.getLast (by intro z;rw [z] at l;cases l),(List.dropLast_concat_getLast _).symm⟩
  rw [List.length_append,List.length_singleton] at l
  have l':L'.length=n+1:=by omega
  have hc:=hd c (by simp)
  have h0:L'.head?≠some 48:=λ z=>nz ⟨by rw [List.head?_append,z];rfl,by rw [List.length_append,List.length_singleton];omega⟩
  have ih:=x0m n l' (λ x hx=>hd x (List.mem_append_left _ hx)) (λ z=>h0 z.1)
  have pos:1≤PySem.NumText.digitsVal L':=by
   rcases Nat.eq_zero_or_pos (PySem.NumText.digitsVal L') with z | z
   ·rw [z,x2c (by decide)] at ih;exact absurd (by rw [← ih];rfl) h0
   ·exact z
  rw [PySem.NumText.digitsVal_snoc]
  generalize PySem.NumText.digitsVal L'=v at *
  rw [x4l (by omega),show (v * 10+(c - 48)) / 10=v by omega,show (v * 10+(c - 48)) % 10=c - 48 by omega,ih]
  congr 2;omega
theorem z6q {L:List Nat}{m:Int}{n:Nat}(h:figI L m=some n):D n=L/\(L.length:Int)≤m:=by
 unfold figI at h
 split at h
 ·rename_i hm
  split at h
  ·cases h
  ·rename_i nz
   cases h
   unfold madeB at hm
   simp only [Bool.and_eq_true,decide_eq_true_eq,List.all_eq_true] at hm
   obtain ⟨h1,h2,h3⟩:=hm
   refine ⟨x0m (L.length - 1) (by omega) (λ c hc=>by have:=h3 c hc;simp [digB] at this;exact this) nz,h2⟩
 ·cases h
theorem y5u {x:Str}{m:Int}{n:Nat}(h:figI x.cps.toList m=some n):x=sI (n:Int):=z6s (by unfold sI;rw [z9n];unfold txtL;rw [if_pos (by omega)];exact (z6q h).1.symm)
theorem x3z {L:List Nat}{k n:Nat}(h:figI L ((k+1:Nat):Int)=some n):n < 10 ^ (k+1):=(x4k k n).mp (by obtain ⟨a,b⟩:=z6q h;rw [a];omega)
theorem x3f {x:Str}{n:Int}(h:numI x.cps.toList=some n):x=sI n/\n.natAbs < 10 ^ 20:=by
 unfold numI at h
 split at h
 ·cases h
 ·rename_i n0
  have rg:∀ {z:Int},rngI z=some n->n=z/\n.natAbs < 10 ^ 20:=λ {z} e=>by
   unfold rngI at e
   split at e
   ·cases e;exact ⟨rfl,by omega⟩
   ·cases e
  split at h
  ·rename_i h45
   obtain ⟨m,h1,h2⟩:=Option.bind_eq_some_iff.mp h
   obtain ⟨rfl,b⟩:=rg h2
   refine ⟨z6s ?_,b⟩
   obtain ⟨e,_⟩:=z6q h1
   have el:x.cps.toList=45::D m:=by
    rw [e]
    cases hL:x.cps.toList with
    | nil=>rw [hL] at h45;cases h45
    | cons c r=>rw [hL] at h45;cases h45;rfl
   have m0:m≠0:=λ z=>n0 (by rw [el,z,x2c (by decide)])
   unfold sI
   rw [z9n]
   unfold txtL
   rw [if_neg (by omega),el,show (-(-(m:Int))).toNat=m by omega]
  ·obtain ⟨m,h1,h2⟩:=Option.bind_eq_some_iff.mp h
   obtain ⟨rfl,b⟩:=rg h2
   exact ⟨y5u h1,b⟩
theorem z8k {ws:List Str}{row:List Int}(h:smallsO ws=some row):row.map sI=ws/\smR row:=by
 unfold smallsO at h
 split at h
 ·rename_i c
  cases h
  have g:∀w∈ws,∃n,figI w.cps.toList 3=some n:=λ w hw=>Option.isSome_iff_exists.mp (List.all_eq_true.mp c.2 w hw)
  refine ⟨?_,by rw [List.length_map];exact c.1,λ n hn=>?_⟩
  ·rw [List.map_map]
   conv=>rhs;rw [← List.map_id ws]
   refine List.map_congr_left λ w hw=>?_
   obtain ⟨n,e⟩:=g w hw
   show sI (((figI w.cps.toList 3).getD 0:Nat):Int)=w
   rw [e];exact (y5u e).symm
  ·obtain ⟨w,hw,rfl⟩:=List.mem_map.mp hn
   obtain ⟨n,e⟩:=g w hw
   rw [e]
   have:=x3z (k:=2) e
   show 0≤(n:Int)/\(n:Int) < 1000
   omega
 ·cases h
def knN (kvs:List (Key × V)) (nm:List Str):Prop:=∀w v,valV kvs (Sum.inr w:Key)=some v->∃u:Nat,v=.int (u:Int)/\nm[u]?=some w
def PcW (nm:List Str) (kind:Str) (c:PC) (ws:List Str):Prop :=
 (kind = "step" /\ ∃(u:Nat) (x:Str),c=.v (.int (u:Int))/\nm[u]?=some x/\ws=[x])\/(kind = "sides" /\ ∃row,c=.t row/\smR row/\ws=row.map sI) \/
 (kind ≠ "step" /\ kind ≠ "sides" /\ ((∃n:Int,c=.v (.int n)/\n.natAbs < 10 ^ 20/\ws=[sI n])\/∃t:Str,c=.v (.str t)/\t.length≤100/\ws=[t]))
theorem PcW.at {H:Hp}{nm:List Str}{kind:Str}{c:PC}{ws:List Str}{x:V}(h:PcW nm kind c ws) (a:PCAt H c x):PwOk H nm kind x ws:=by
 rcases h with ⟨e,u,y,rfl,hu,hw⟩ | ⟨e,row,rfl,sm,hw⟩ | ⟨n1,n2,⟨n,rfl,b,hw⟩ | ⟨t,rfl,b,hw⟩⟩
 ·obtain ⟨_,rfl⟩:=a;exact .inl ⟨e,u,y,rfl,hu,hw⟩
 ·obtain ⟨b,rfl,hb⟩:=a;exact .inr (.inl ⟨e,b,row,rfl,hb,sm,hw⟩)
 ·obtain ⟨_,rfl⟩:=a;exact .inr (.inr ⟨n1,n2,.inl ⟨n,rfl,b,hw⟩⟩)
 ·obtain ⟨_,rfl⟩:=a;exact .inr (.inr ⟨n1,n2,.inr ⟨t,rfl,b,hw⟩⟩)
theorem x0d {w:Str}(h:nmB w=true):w.length≤8:=by
 unfold nmB madeA at h
 simp only [Bool.and_eq_true,decide_eq_true_eq] at h
 have:=h.2.1
 rw [← z3z];omega
theorem y3x {kvs:List (Key × V)}{nm:List Str}(kn:knN kvs nm) {kind w:Str}(ns:kind ≠ "sides") (h:isNon (.v (partV kvs kind w))=false):PcW nm kind (.v (partV kvs kind w)) [w]:=by
 unfold partV at h ⊢
 split
 ·rename_i c
  rw [if_pos c] at h
  cases e:valV kvs (Sum.inr w:Key) with
  | none=>rw [e] at h;cases h
  | some v=>obtain ⟨u,rfl,hu⟩:=kn w v e;exact .inl ⟨c,u,w,rfl,hu,rfl⟩
 ·rename_i c
  rw [if_neg c] at h
  refine .inr (.inr ⟨c,ns,?_⟩)
  split
  ·rename_i c2
   rw [if_pos c2] at h
   split
   ·rename_i c3
    exact .inr ⟨w,rfl,Nat.le_trans (x0d c3) (by decide),rfl⟩
   ·rename_i c3
    rw [if_neg c3] at h;cases h
  ·rename_i c2
   rw [if_neg c2] at h
   split
   ·rename_i c3
    rw [if_pos c3] at h
    cases e:numI w.cps.toList with
    | none=>rw [e] at h;cases h
    | some n=>obtain ⟨ew,b⟩:=x3f e;exact .inl ⟨n,rfl,b,by rw [← ew]⟩
   ·rename_i c3
    rw [if_neg c3] at h
    cases e:figI w.cps.toList 3 with
    | none=>rw [e] at h;cases h
    | some n=>exact .inl ⟨n,rfl,(by have:=x3z (k:=2) e;omega),by rw [← y5u e]⟩
def WrOk (nm:List Str) (cs:List PC) (kd:Nat) (parts:List (List Str)):Prop:=kd < 15/\cs[0]?=some (.v (.str (kindS kd)))/\parts.length=((formsL.getD kd ("",[])).2).length/\∀(j:Nat) f,((formsL.getD kd ("",[])).2)[j]?=some f->∃c w,cs[f.2.toNat]?=some c/\parts[j]?=some w/\PcW nm f.1 c w
theorem z5s {kvs:List (Key × V)}{nm:List Str}{kd:Nat}{ws:List Str}(hk:kd < 15) (kn:knN kvs nm):∀j,j≤((formsL.getD kd ("",[])).2).length->∃parts:List (List Str),parts.length=j/\parts.flatten++(readP kvs kd ws j).2=ws/\(readP kvs kd ws j).1[0]?=some (.v (.str (kindS kd))) /\
  ∀i f,i < j->((formsL.getD kd ("",[])).2)[i]?=some f->∃c,(readP kvs kd ws j).1[f.2.toNat]?=some c/\(isNon c=false->∃w,parts[i]?=some w/\PcW nm f.1 c w)
 | 0,_=>⟨[],rfl,rfl,rfl,λ i f hi=>absurd hi (Nat.not_lt_zero _)⟩
 | j+1,hj=>by
  obtain ⟨parts,pl,pf,p0,pa⟩:=z5s hk kn j (Nat.le_of_succ_le hj)
  obtain ⟨f,ef⟩:∃f,((formsL.getD kd ("",[])).2)[j]?=some f:=⟨_,List.getElem?_eq_getElem hj⟩
  have l5:=z2i (i:=kd)
  have rl:=z4u (kvs:=kvs) (kd:=kd) (ws:=ws) (j:=j)
  have rng:=z2s ⟨kd,hk⟩ ⟨j,by omega⟩ hj
  have gj:=z3h (a:=(("",0):Str × Int)) ef
  rw [show ((formsL.getD (⟨kd,hk⟩:Fin 15).val ("",[])).2.getD (⟨j,by omega⟩:Fin 5).val ("",0))=f from gj] at rng
  have rng:1≤f.2/\f.2≤((formsL.getD kd ("",[])).2).length:=rng
  rw [z5r ef]
  generalize readP kvs kd ws j=S at *
  have old:∀c:PC,∀i g,i < j->((formsL.getD kd ("",[])).2)[i]?=some g->(S.1.set f.2.toNat c)[g.2.toNat]?=S.1[g.2.toNat]?:=λ c i g hi eg=>by
   have il:=(List.getElem?_eq_some_iff.mp eg).1
   have gi:=z3h (a:=(("",0):Str × Int)) eg
   have fi:=z2s ⟨kd,hk⟩ ⟨i,by omega⟩ il
   rw [show ((formsL.getD (⟨kd,hk⟩:Fin 15).val ("",[])).2.getD (⟨i,by omega⟩:Fin 5).val ("",0))=g from gi] at fi
   have fi:1≤g.2/\g.2≤((formsL.getD kd ("",[])).2).length:=fi
   refine List.getElem?_set_ne λ z=>?_
   have:=z7v ⟨kd,hk⟩ ⟨i,by omega⟩ ⟨j,by omega⟩ il hj (by
    rw [show ((formsL.getD (⟨kd,hk⟩:Fin 15).val ("",[])).2.getD (⟨i,by omega⟩:Fin 5).val ("",0))=g from gi,show ((formsL.getD (⟨kd,hk⟩:Fin 15).val ("",[])).2.getD (⟨j,by omega⟩:Fin 5).val ("",0))=f from gj];omega)
   have:i=j:=congrArg (λ x:Fin 5=>x.val) this
   omega
  have put:∀(c:PC) (w:List Str) (rest:List Str),parts.flatten++(w++rest)=ws->(isNon c=false->PcW nm f.1 c w)->∃parts:List (List Str),parts.length=j+1/\parts.flatten++rest=ws/\(S.1.set f.2.toNat c)[0]?=some (.v (.str (kindS kd))) /\
    ∀i g,i < j+1->((formsL.getD kd ("",[])).2)[i]?=some g->∃c',(S.1.set f.2.toNat c)[g.2.toNat]?=some c'/\(isNon c'=false->∃w,parts[i]?=some w/\PcW nm g.1 c' w):=λ c w rest e hw=>by
   refine ⟨parts++[w],by rw [List.length_append,pl];rfl,?_,?_,λ i g hi eg=>?_⟩
   ·rw [List.flatten_append,List.append_assoc,← e];simp
   ·rw [List.getElem?_set_ne (by omega)];exact p0
   ·rcases Nat.lt_or_ge i j with h | h
    ·obtain ⟨c',e1,e2⟩:=pa i g h eg
     refine ⟨c',by rw [old c i g h eg];exact e1,λ z=>?_⟩
     obtain ⟨w',e3,e4⟩:=e2 z
     exact ⟨w',by rw [List.getElem?_append_left (by omega)];exact e3,e4⟩
    ·have z:i=j:=by omega
     subst z
     rw [ef] at eg
     cases eg
     refine ⟨c,List.getElem?_set_self (by omega),λ z=>⟨w,?_,hw z⟩⟩
     rw [List.getElem?_append_right (by omega),pl,Nat.sub_self];rfl
  unfold oneP
  by_cases cs:f.1=Str.ofString "sides"
  ·rw [if_pos cs]
   refine put _ S.2 [] (by rw [List.append_nil];exact pf) λ z=>?_
   unfold sidesC at z ⊢
   cases e:smallsO S.2 with
   | none=>rw [e] at z;cases z
   | some row=>obtain ⟨a,b⟩:=z8k e;exact .inr (.inl ⟨cs,row,rfl,b,a.symm⟩)
  ·rw [if_neg cs]
   cases e2:S.2 with
   | nil=>exact put _ [] [] (by rw [e2] at pf;exact pf) λ z=>nomatch z
   | cons w ws'=>exact put _ [w] ws' (by rw [e2] at pf;exact pf) λ z=>y3x kn cs z
theorem y2l {kvs:List (Key × V)}{nm:List Str}{kd:Nat}{ws:List Str}{cs:List PC}(hk:kd < 15) (kn:knN kvs nm) (h:stepO kvs kd ws=some cs):∃parts,WrOk nm cs kd parts/\parts.flatten=ws:=by
 unfold stepO at h
 split at h
 ·rename_i c
  cases h
  obtain ⟨parts,pl,pf,p0,pa⟩:=z5s (ws:=ws) hk kn _ (Nat.le_refl _)
  rw [c.1,List.append_nil] at pf
  refine ⟨parts,⟨hk,p0,pl,λ j f e=>?_⟩,pf⟩
  obtain ⟨c',e1,e2⟩:=pa j f (List.getElem?_eq_some_iff.mp e).1 e
  have nn:isNon c'=false:=by
   have:=List.any_eq_false.mp c.2 c' (List.mem_of_getElem? e1)
   simpa using this
  obtain ⟨w,e3,e4⟩:=e2 nn
  exact ⟨c',w,e1,e3,e4⟩
 ·cases h
theorem z9u {kvs:List (Key × V)}{nm:List Str}{r:List Str}{cs:List PC}(kn:knN kvs nm) (h:rowO kvs r=some cs):nmB (r.headD "")=true/\∃kd parts,WrOk nm cs kd parts/\[r.headD "", "=",kindS kd]++parts.flatten=r:=by
 unfold rowO at h
 split at h
 ·rename_i a e k rest
  split at h
  ·rename_i c
   obtain ⟨k15,ek⟩:=y5r c.2.1
   obtain ⟨parts,w,f⟩:=y2l k15 kn h
   refine ⟨c.2.2.1,formN k,parts,w,?_⟩
   rw [f,ek,c.1];rfl
  ·cases h
 ·cases h
def nmsW (W:List (List Str)) (i:Nat):List Str:=(W.take i).map λ r=>r.headD ""
theorem y8l {W:List (List Str)}{i:Nat}{r:List Str}(h:W[i]?=some r):nmsW W (i+1)=nmsW W i++[r.headD ""]:=by unfold nmsW;rw [List.take_add_one,h,List.map_append];rfl
theorem x0c {W:List (List Str)}{i u:Nat}{r:List Str}(h:W[u]?=some r) (l:u < i):(nmsW W i)[u]?=some (r.headD ""):=by unfold nmsW;rw [List.getElem?_map,List.getElem?_take_of_lt l,h];rfl
theorem z4c {W:List (List Str)}:∀ {i:Nat}{s:List (Key × V) × List (List PC)},rdS W i=some s->i≤40/\i≤W.length/\(s.1.map λ kv=>kV kv.1)=(nmsW W i).map V.str/\(∀w v,valV s.1 (Sum.inr w:Key)=some v->∃(u:Nat) (r:List Str),v=.int (u:Int)/\u < i/\W[u]?=some r/\r.headD "" = w)/\(∀(u:Nat) (r:List Str),u < i->W[u]?=some r->(valV s.1 (Sum.inr (r.headD ""):Key)).isSome=true) /\
  ∀j,j < i->∃s' r cs,rdS W j=some s'/\W[j]?=some r/\rowO s'.1 r=some cs/\s.2[j]?=some cs
 | 0,s,h=>by cases h;exact ⟨by decide,Nat.zero_le _,rfl,λ w v e=>(by cases e),λ u r h=>absurd h (Nat.not_lt_zero _),λ j h=>absurd h (Nat.not_lt_zero _)⟩
 | i+1,s,h=>by
  have h0:=h
  unfold rdS at h
  obtain ⟨s',h1,h⟩:=Option.bind_eq_some_iff.mp h
  obtain ⟨r,h2,h⟩:=Option.bind_eq_some_iff.mp h
  split at h
  ·rename_i c40
   obtain ⟨cs,h3,rfl⟩:=Option.map_eq_some_iff.mp h
   obtain ⟨a0,a1,a2,a3,a4,a5⟩:=z4c h1
   have sl:=(z5t h1).2.2
   have nw:=(z6f h3).1
   refine ⟨c40,(List.getElem?_eq_some_iff.mp h2).1,?_,λ w v e=>?_,λ u r' hu er=>?_,λ j hj=>?_⟩
   ·rw [z9y _ nw,List.map_append,a2,y8l h2,List.map_append];rfl
   ·rw [z6a] at e
    split at e
    ·rename_i ek
     cases e
     exact ⟨i,r,rfl,Nat.lt_succ_self _,h2,(Sum.inr.inj ek).symm⟩
    ·obtain ⟨u,r',e1,e2,e3⟩:=a3 w v e
     exact ⟨u,r',e1,Nat.lt_succ_of_lt e2,e3⟩
   ·rw [z6a]
    split
    ·rfl
    ·rename_i ne
     refine a4 u r' (Nat.lt_of_le_of_ne (Nat.le_of_lt_succ hu) λ z=>ne ?_) er
     subst z
     rw [h2] at er;cases er;rfl
   ·rcases Nat.lt_or_ge j i with h | h
    ·obtain ⟨s2,r2,cs2,e1,e2,e3,e4⟩:=a5 j h
     exact ⟨s2,r2,cs2,e1,e2,e3,by rw [List.getElem?_append_left (by omega)];exact e4⟩
    ·have z:j=i:=by omega
     subst z
     exact ⟨s',r,cs,h1,h2,h3,by rw [List.getElem?_append_right (by omega),sl,Nat.sub_self];rfl⟩
  ·cases h
theorem y3i {W:List (List Str)}{i n:Nat}{s:List (Key × V) × List (List PC)}(h:rdS W i=some s) (l:i≤n):knN s.1 (nmsW W n):=λ w v e=>by
 obtain ⟨u,r,e1,e2,e3,rfl⟩:=(z4c h).2.2.2.1 w v e
 exact ⟨u,e1,x0c e3 (by omega)⟩
theorem y4t {W:List (List Str)}{n:Nat}(h:n≤W.length):(nmsW W n).length=n:=by unfold nmsW;rw [List.length_map,List.length_take];omega
theorem x3h {W:List (List Str)}{n:Nat}{s:List (Key × V) × List (List PC)}(h:rdS W n=some s):nmOk (nmsW W n):=by
 obtain ⟨a0,a1,_,_,_,a5⟩:=z4c h
 refine ⟨by rw [y4t a1];exact a0,λ x hx=>?_⟩
 obtain ⟨r,hr,rfl⟩:=List.mem_map.mp hx
 obtain ⟨j,hj⟩:=List.getElem?_of_mem hr
 have jl:=(List.getElem?_eq_some_iff.mp hj).1
 rw [List.length_take] at jl
 rw [List.getElem?_take_of_lt (by omega)] at hj
 obtain ⟨s',r',cs,e1,e2,e3,_⟩:=a5 j (by omega)
 rw [hj] at e2;cases e2
 exact Nat.le_trans (x0d (z9u (y3i e1 (Nat.le_refl _)) e3).1) (by decide)
theorem y3f {W:List (List Str)}{n:Nat}{s:List (Key × V) × List (List PC)}(h:rdS W n=some s):∀i cs,s.2[i]?=some cs->∃kd parts,WrOk (nmsW W n) cs kd parts/\(W.take n)[i]?=some ([(nmsW W n).getD i "", "=",kindS kd]++parts.flatten):=λ i cs e=>by
 obtain ⟨a0,a1,_,_,_,a5⟩:=z4c h
 have il:=(List.getElem?_eq_some_iff.mp e).1
 rw [(z5t h).2.2] at il
 obtain ⟨s',r,cs',e1,e2,e3,e4⟩:=a5 i il
 rw [e] at e4;cases e4
 obtain ⟨_,kd,parts,w,er⟩:=z9u (y3i e1 (Nat.le_of_lt il)) e3
 refine ⟨kd,parts,w,?_⟩
 rw [List.getElem?_take_of_lt il,e2,z3h (x0c e2 il),er]
theorem y3y {kvs:List (Key × V)}{nm ws:List Str}{os:List V}(kn:knN kvs nm) (h:outsO kvs ws=some os):os.length≤8/\∃ows,ws=("out" : Str)::ows/\ows.length=os.length/\∀(i:Nat) (o:V),os[i]?=some o->∃(u:Nat) (x:Str),o=.int (u:Int)/\nm[u]?=some x/\ows[i]?=some x:=by
 match ws,h with
 | [],h=>cases h
 | o::rest,h =>
  simp only [outsO] at h
  split at h
  ·rename_i c
   cases h
   refine ⟨by rw [List.length_map];exact c.2.2.1,rest,by rw [c.1],by rw [List.length_map],λ i o e=>?_⟩
   rw [List.getElem?_map] at e
   obtain ⟨w,hw,rfl⟩:=Option.map_eq_some_iff.mp e
   obtain ⟨v,hv⟩:=Option.isSome_iff_exists.mp (List.all_eq_true.mp c.2.2.2 w (List.mem_of_getElem? hw))
   obtain ⟨u,e1,e2⟩:=kn w v hv
   exact ⟨u,w,by rw [hv];exact e1,e2,hw⟩
  ·cases h
theorem z5y (c:Nat):∀L:List Nat,glueL c (splitL c L)=L
 | []=>rfl
 | d::L=>by
  obtain ⟨p,ps,e⟩:=z1v c L
  have ih:=z5y c L
  unfold splitL
  rw [e] at ih ⊢
  split
  ·rename_i z
   show []++c::glueL c (p::ps)=_
   rw [ih,z];rfl
  ·cases ps with
   | nil=>exact congrArg (d::·) ih
   | cons q r =>
    show (d::p)++c::glueL c (q::r)=_
    rw [← ih];rfl
theorem z5d (c:Nat) (L:List Nat):Builtin.Str.glued ⟨#[c]⟩ ((splitL c L).map strL)=strL L:=by
 refine z1r ?_
 rw [StrLaws.glued_eq_join,z3y,List.map_map,show (λ w:Str=>w.cps.toList) ∘ strL=id from rfl,List.map_id,z5y]
theorem y2k (T:Str):Builtin.Str.glued "\n" ((rowsT T).map (Builtin.Str.glued " "))=T:=by
 unfold rowsT
 rw [List.map_map,show (Builtin.Str.glued " " ∘ λ r=>(splitL 32 (strL r).cps.toList).map strL)=strL from funext λ r=>by rw [y1c];exact z5d 32 _,z9d,z5d]
 exact (z1r rfl).symm
def BadAt (W:List (List Str)) (i:Nat):Prop:=(i+1 < W.length/\(∃s,rdS W i=some s)/\rdS W (i+1)=none)\/(i+1=W.length/\∃s,rdS W i=some s/\outsO s.1 (W.getLastD [])=none)
def GoodR (W:List (List Str)) (s:List (Key × V) × List (List PC)) (os:List V):Prop:=rdS W (W.length - 1)=some s/\outsO s.1 (W.getLastD [])=some os
theorem y3h {W:List (List Str)}{i j:Nat}{s:List (Key × V) × List (List PC)}(h:rdS W i=some s) (l:j≤i):∃s',rdS W j=some s':=by
 cases e:rdS W j with
 | some s'=>exact ⟨s',rfl⟩
 | none =>
  have:=z9w e (i - j)
  rw [show j+(i - j)=i by omega,h] at this
  cases this
theorem x1x {W:List (List Str)}{i j:Nat}(hi:BadAt W i) (hj:BadAt W j):i=j:=by
 have key:∀ {a b:Nat},BadAt W a->BadAt W b->¬a < b:=λ {a b} ha hb l=>by
  rcases ha with ⟨_,_,na⟩ | ⟨ea,_⟩
  ·have:∃s,rdS W b=some s:=by rcases hb with ⟨_,h,_⟩ | ⟨_,s,h,_⟩;exact h;exact ⟨s,h⟩
   obtain ⟨s,h⟩:=this
   obtain ⟨s',h'⟩:=y3h h (show a+1≤b by omega)
   rw [na] at h';cases h'
  ·rcases hb with ⟨hb,_⟩ | ⟨hb,_⟩<;>omega
 have:=key hi hj
 have:=key hj hi
 omega
theorem y0w {W:List (List Str)}{i:Nat}{s:List (Key × V) × List (List PC)}{os:List V}(hi:BadAt W i) (h:GoodR W s os):False:=by
 rcases hi with ⟨l,_,na⟩ | ⟨e,s',h1,h2⟩
 ·obtain ⟨s',h'⟩:=y3h h.1 (show i+1≤W.length - 1 by omega)
  rw [na] at h';cases h'
 ·have:=h.1
  rw [show W.length - 1=i by omega,h1] at this
  cases this
  rw [h.2] at h2;cases h2
theorem x0k {W:List (List Str)}{i:Nat}(h:BadAt W i):i+1≤W.length:=by rcases h with ⟨l,_⟩ | ⟨l,_⟩<;>omega
theorem y8s {α:Type}(l:List α) (a d:α):(l++[a]).getLastD d=a:=by rw [List.getLastD_eq_getLast?,List.getLast?_append];rfl
theorem y6y {W:List (List Str)}{i:Nat}{x:Str}{r0:List Str}(h:BadAt W i) (hp:0 < i) (h0:W[0]?=some r0) (ex:r0.headD "" = x):∃s os,GoodR (W.take i++[[("out" : Str),x]]) s os:=by
 obtain ⟨s,hs⟩:∃s,rdS W i=some s:=by rcases h with ⟨_,h,_⟩ | ⟨_,s,h,_⟩;exact h;exact ⟨s,h⟩
 have il:=x0k h
 have tl:(W.take i).length=i:=by rw [List.length_take];omega
 have e:rdS (W.take i++[[("out" : Str),x]]) i=some s:=by
  rw [z8r (W':=W) λ j hj=>by rw [List.getElem?_append_left (by omega),List.getElem?_take_of_lt hj]];exact hs
 have k0:=(z4c hs).2.2.2.2.1 0 r0 hp h0
 rw [ex] at k0
 refine ⟨s,[(valV s.1 (Sum.inr x:Key)).getD .non],by rw [List.length_append,tl,List.length_singleton,Nat.add_sub_cancel];exact e,?_⟩
 rw [y8s]
 simp only [outsO]
 rw [if_pos ⟨trivial,by simp,by simp,by simpa using k0⟩]
 rfl
theorem y9w {W:List (List Str)}{i:Nat}{z:List Str}(h:BadAt W i) (l:i+1≠W.length):BadAt (W.take (i+1)++[z]) i:=by
 rcases h with ⟨il,⟨s,hs⟩,hn⟩ | ⟨e,_⟩
 ·have tl:(W.take (i+1)).length=i+1:=by rw [List.length_take];omega
  have pre:∀j,j≤i+1->rdS (W.take (i+1)++[z]) j=rdS W j:=λ j hj=>z8r λ k hk=>by rw [List.getElem?_append_left (by omega),List.getElem?_take_of_lt (by omega)]
  exact .inl ⟨by rw [List.length_append,tl];exact Nat.lt_succ_self _,⟨s,by rw [pre i (by omega)];exact hs⟩,by rw [pre _ (Nat.le_refl _)];exact hn⟩
 ·exact absurd e l
theorem z6x (c:Nat):∀L:List Nat,totS ⟨#[c]⟩ ((splitL c L).map strL)=L.length+1
 | []=>rfl
 | d::L=>by
  obtain ⟨p,ps,e⟩:=z1v c L
  have ih:=z6x c L
  unfold splitL
  rw [e] at ih ⊢
  have one:(⟨#[c]⟩:Str).length=1:=rfl
  rw [List.map_cons,z1e,one,z2m] at ih
  split
  ·rw [List.map_cons,z1e,List.map_cons,z1e,one,z2m,z2m,List.length_nil,List.length_cons];omega
  ·show totS ⟨#[c]⟩ (((d::p)::ps).map strL)=_
   rw [List.map_cons,z1e,one,z2m,List.length_cons,List.length_cons];omega
theorem z3k (z:Str) (ys:List Str) (k:Nat):totS z (ys.take k)+totS z (ys.drop k)=totS z ys:=by rw [← z2u,List.take_append_drop]
def rwT (c:Nat) (T:Str):List Str:=(splitL c T.cps.toList).map strL
theorem x0b (c:Nat) (T:Str):totS ⟨#[c]⟩ (rwT c T)=T.length+1:=by unfold rwT;rw [z6x,z3z]
theorem z4k {c:Nat}{T w:Str}(h:w∈rwT c T):w.length≤T.length/\(∀a∈w.cps.toList,a∈T.cps.toList)/\c ∉ w.cps.toList:=by
 obtain ⟨r,hr,rfl⟩:=List.mem_map.mp h
 have:=z2o c _ r hr
 rw [z2m,← z3z T]
 exact this
theorem z6e (T:Str):rowsT T=(rwT 10 T).map (rwT 32):=by unfold rowsT rwT;rw [List.map_map];rfl
theorem y7s {c:Nat}{ws:List Str}(n:ws≠[]) (h:∀w∈ws,c ∉ w.cps.toList):rwT c (Builtin.Str.glued ⟨#[c]⟩ ws)=ws:=by
 have e:=z8i n h
 unfold rwT
 refine (List.map_inj_right (f:=V.str) (λ a b z=>by cases z;rfl)).mp ?_
 rw [List.map_map];exact e
theorem z4z {c N:Nat}{ws:List Str}(hc:c < 128) (hN:totS ⟨#[c]⟩ ws≤N) (hw:∀w∈ws,∀a∈w.cps.toList,a < 128):(Builtin.Str.glued ⟨#[c]⟩ ws).length≤N/\∀a∈(Builtin.Str.glued ⟨#[c]⟩ ws).cps.toList,a < 128:=by
 refine ⟨Nat.le_trans (z2b _ _) hN,λ a ha=>?_⟩
 rcases z7u ha with rfl | ⟨w,h,m⟩
 ·exact hc
 ·exact hw w h a m
theorem z5f (x y:Str):(x++y).cps.toList=x.cps.toList++y.cps.toList:=by rw [Str.cps_append,Array.toList_append]
theorem z8x:(Str.ofString "out ").cps.toList=[111,117,116,32]:=by decide +kernel
theorem y1v {x:Str}(h:32 ∉ x.cps.toList):rwT 32 (Str.ofString "out " ++ x)=[("out" : Str),x]:=by
 unfold rwT
 rw [z5f,z8x,show [111,117,116,32]++x.cps.toList=[111,117,116]++32::x.cps.toList from rfl,z4s 32 _ _ (by decide),z3r 32 _ h,List.map_cons,List.map_cons,List.map_nil,← z1r rfl]
 rfl
theorem z4t {x:Str}{l u:Option Int}{c:Nat}(h:c∈(Txt.slice x l u).cps.toList):c∈x.cps.toList:=by
 unfold Txt.slice at h
 split at h
 ·exact h
 ·obtain ⟨i,_,hi⟩:=List.mem_filterMap.mp h
  rw [← Array.getElem?_toList] at hi
  exact List.mem_of_getElem? hi
theorem y9v {n:Nat}(h:n≤16000000):n≤sizeLine:=Nat.le_trans h (by rw [sizeLine_eq];decide)
theorem PcW.len {nm:List Str}{kind:Str}{c:PC}{ws:List Str}(h:PcW nm kind c ws) (n:nmOk nm):ws.length≤8/\∀w∈ws,w.length≤100:=by
 rcases h with ⟨_,u,x,_,e,rfl⟩ | ⟨_,row,_,r,rfl⟩ | ⟨_,_,⟨m,_,b,rfl⟩ | ⟨t,_,b,rfl⟩⟩
 ·refine ⟨by simp,λ w hw=>?_⟩
  cases List.mem_singleton.mp hw
  have:=n.2 x (List.mem_of_getElem? e);omega
 ·refine ⟨by rw [List.length_map];exact r.1,λ w hw=>?_⟩
  obtain ⟨m,hm,rfl⟩:=List.mem_map.mp hw
  have:=r.2 m hm
  exact z9r (by omega)
 ·exact ⟨by simp,λ w hw=>by cases List.mem_singleton.mp hw;exact z9r b⟩
 ·exact ⟨by simp,λ w hw=>by cases List.mem_singleton.mp hw;exact b⟩
theorem WrOk.len {nm:List Str}{cs:List PC}{kd:Nat}{parts:List (List Str)}(h:WrOk nm cs kd parts) (n:nmOk nm):∀ws∈parts,ws.length≤8/\∀w∈ws,w.length≤100:=λ ws hw=>by
 obtain ⟨j,hj⟩:=List.getElem?_of_mem hw
 have jl:=(List.getElem?_eq_some_iff.mp hj).1
 rw [h.2.2.1] at jl
 obtain ⟨c,w,_,e2,pw⟩:=h.2.2.2 j _ (List.getElem?_eq_getElem jl)
 rw [hj] at e2;cases e2
 exact pw.len n
theorem WrOk.few {nm:List Str}{cs:List PC}{kd:Nat}{parts:List (List Str)}(h:WrOk nm cs kd parts) (n:nmOk nm) (i:Nat):((parts.take i).flatten).length≤40:=by
 have a:=x5a (parts.take i) λ l hl=>(h.len n l (List.mem_of_mem_take hl)).1
 have l5:=z2i (i:=kd)
 have l2:(parts.take i).length≤parts.length:=List.length_take_le' ..
 rw [h.2.2.1] at l2
 omega
theorem WrOk.tot {nm:List Str}{cs:List PC}{kd:Nat}{parts:List (List Str)}{a b e:Str}(h:WrOk nm cs kd parts) (n:nmOk nm) (ha:a.length≤100) (hb:b.length≤100) (he:e.length≤100):totS " " ([a,b,e]++parts.flatten)≤5000:=by
 have one:(" " : Str).length=1:=by decide +kernel
 have all:∀w∈parts.flatten,w.length≤100:=λ w hw=>by
  obtain ⟨ws,h1,h2⟩:=List.mem_flatten.mp hw
  exact (h.len n ws h1).2 w h2
 have f40:=h.few n parts.length
 rw [List.take_length] at f40
 have t:=z3q (z := " ") all
 rw [one] at t
 have t2:(100+1) * parts.flatten.length≤101 * 40:=Nat.mul_le_mul_left _ f40
 rw [z2u,z1e,z1e,z1e,one]
 have:totS " " []=0:=rfl
 omega
theorem PCs.get {H:Hp}{cs:List PC}{xs:List V}{i:Nat}{c:PC}(h:PCs H cs xs) (e:cs[i]?=some c):∃x,xs[i]?=some x/\PCAt H c x:=by
 have il:=(List.getElem?_eq_some_iff.mp e).1
 exact ⟨_,List.getElem?_eq_getElem (by rw [h.1];exact il),h.2 i c _ e (List.getElem?_eq_getElem (by rw [h.1];exact il))⟩
def WrAll (nm:List Str) (sts:List (List PC)) (rws:List (List Str)) (os:List V) (ows:List Str):Prop:=nm.length=sts.length/\rws.length=sts.length/\nmOk nm/\os.length≤8/\ows.length=os.length/\(∀(i:Nat) o,os[i]?=some o->∃(u:Nat) (x:Str),o=.int (u:Int)/\nm[u]?=some x/\ows[i]?=some x) /\
 ∀(i:Nat) cs,sts[i]?=some cs->∃kd parts,WrOk nm cs kd parts/\rws[i]?=some ([nm.getD i "", "=",kindS kd]++parts.flatten)
theorem x1h {W:List (List Str)}{s:List (Key × V) × List (List PC)}{os:List V}(h:GoodR W s os):∃ows,WrAll (nmsW W (W.length - 1)) s.2 (W.take (W.length - 1)) os ows/\W.take (W.length - 1)++[("out" : Str)::ows]=W:=by
 obtain ⟨o8,ows,e1,e2,e3⟩:=y3y (y3i h.1 (Nat.le_refl _)) h.2
 obtain ⟨_,sl1,sl2⟩:=z5t h.1
 have wl:W≠[]:=λ z=>by rw [z] at e1;cases e1
 refine ⟨ows,⟨by rw [y4t (Nat.sub_le ..),sl2],by rw [List.length_take,sl2];omega,x3h h.1,o8,e2,e3,y3f h.1⟩,?_⟩
 rw [← e1,List.getLastD_eq_getLast?,List.getLast?_eq_some_getLast wl]
 rw [← List.dropLast_eq_take]
 exact List.dropLast_concat_getLast wl
theorem WrAll.out {nm:List Str}{sts:List (List PC)}{rws:List (List Str)}{os:List V}{ows:List Str}(h:WrAll nm sts rws os ows):totS " " (("out" : Str)::ows)≤300:=by
 obtain ⟨h1,h2,h3,h4,h5,h6,h7⟩:=h
 have one:(" " : Str).length=1:=by decide +kernel
 have o3:("out" : Str).length=3:=by decide +kernel
 have t:=z3q (z := " ") (ys:=ows) (k:=20) λ x hx=>by
  obtain ⟨i,hi⟩:=List.getElem?_of_mem hx
  have il:=(List.getElem?_eq_some_iff.mp hi).1
  obtain ⟨u,y,_,e2,e3⟩:=h6 i _ (List.getElem?_eq_getElem (by omega))
  rw [hi] at e3;cases e3
  exact h3.2 _ (List.mem_of_getElem? e2)
 rw [one] at t
 rw [z1e,one,o3]
 omega
theorem WrAll.row {nm:List Str}{sts:List (List PC)}{rws:List (List Str)}{os:List V}{ows:List Str}(h:WrAll nm sts rws os ows):∀r∈rws,(Builtin.Str.glued " " r).length≤5000:=λ r hr=>by
 obtain ⟨h1,h2,h3,h4,h5,h6,h7⟩:=h
 obtain ⟨i,hi⟩:=List.getElem?_of_mem hr
 have il:=(List.getElem?_eq_some_iff.mp hi).1
 obtain ⟨kd,parts,w,e⟩:=h7 i _ (List.getElem?_eq_getElem (by omega))
 rw [hi] at e;cases e
 exact Nat.le_trans (z2b _ _) (w.tot h3 (Nat.le_trans (h3.2 _ (List.mem_of_getElem? (z8h (by omega)))) (by decide)) (by decide +kernel) (z3w w.1))
theorem WrAll.text {nm:List Str}{sts:List (List PC)}{rws:List (List Str)}{os:List V}{ows:List Str}(h:WrAll nm sts rws os ows):totS "\n" ((rws++[("out" : Str)::ows]).map (Builtin.Str.glued " "))≤4000000:=by
 have one:("\n" : Str).length=1:=by decide +kernel
 have hl:=h.2.1
 have h1:=h.1
 have h40:=h.2.2.1.1
 have t:=z3q (z := "\n") (ys:=(rws++[("out" : Str)::ows]).map (Builtin.Str.glued " ")) (k:=5000) λ x hx=>by
  obtain ⟨r,hr,rfl⟩:=List.mem_map.mp hx
  rcases List.mem_append.mp hr with hr | hr
  ·exact h.row r hr
  ·cases List.mem_singleton.mp hr
   exact Nat.le_trans (z2b _ _) (Nat.le_trans h.out (by decide))
 have tn:((rws++[("out" : Str)::ows]).map (Builtin.Str.glued " ")).length≤41:=by rw [List.length_map,List.length_append,List.length_singleton];omega
 rw [one] at t
 have:(5000+1) * ((rws++[("out" : Str)::ows]).map (Builtin.Str.glued " ")).length≤5001 * 41:=Nat.mul_le_mul_left _ tn
 omega
theorem z6r (ws:List Str) (k:Nat):cutV (ws.map V.str) none (some (k:Int))=(ws.take k).map V.str:=by
 unfold cutV
 simp only [HT.sIx,List.drop_zero,Nat.sub_zero,List.length_map]
 rw [if_neg (by omega),List.map_take,Int.toNat_natCast,Nat.min_def]
 split
 ·rfl
 ·rw [List.take_of_length_le (by rw [List.length_map];omega),List.take_of_length_le (by rw [List.length_map];omega)]
theorem y6b (ws:List Str) (k:Nat):cutV (ws.map V.str) (some (k:Int)) none=(ws.drop k).map V.str:=by
 unfold cutV
 simp only [HT.sIx,List.length_map]
 rw [if_neg (by omega),List.map_drop,Int.toNat_natCast,List.take_of_length_le (by rw [List.length_drop,List.length_map];omega),Nat.min_def]
 split
 ·rfl
 ·rw [List.drop_eq_nil_of_le (by rw [List.length_map];omega),List.drop_eq_nil_of_le (by rw [List.length_map];omega)]
def RwC (ws ws':List Str):Prop:=(∀w∈ws',w∈ws)/\∀(z:Str) (M:Nat),z.length=1->(∀w∈ws,w.length≤M)->totS z ws'≤totS z ws+M+1
theorem y7r (ws:List Str) (k:Nat):RwC ws (ws.take k++ws.drop (k+1)):=by
 refine ⟨λ w hw=>?_,λ z M hz hM=>?_⟩
 ·rcases List.mem_append.mp hw with h | h
  ·exact List.mem_of_mem_take h
  ·exact List.mem_of_mem_drop h
 ·have a:=z3k z ws k
  have b:=z3k z (ws.drop k) 1
  rw [List.drop_drop] at b
  rw [z2u];omega
theorem y7q {ws:List Str}{k:Nat}{r:Str}(h:ws[k]?=some r):RwC ws (ws.take k++[r]++ws.drop k):=by
 have hr:=List.mem_of_getElem? h
 refine ⟨λ w hw=>?_,λ z M hz hM=>?_⟩
 ·rcases List.mem_append.mp hw with hw | hw
  ·rcases List.mem_append.mp hw with hw | hw
   ·exact List.mem_of_mem_take hw
   ·cases List.mem_singleton.mp hw;exact hr
  ·exact List.mem_of_mem_drop hw
 ·have a:=z3k z ws k
  have b:=hM r hr
  rw [z2u,z2u,z1e,show totS z []=0 from rfl];omega
theorem x0q {ws:List Str}{k:Nat}{r:Str}(hr:r∈ws) (h:k < ws.length):RwC ws (ws.set k r):=by
 refine ⟨λ w hw=>?_,λ z M hz hM=>?_⟩
 ·rcases List.mem_or_eq_of_mem_set hw with hw | rfl
  ·exact hw
  ·exact hr
 ·have a:=z3k z ws k
  have b:=hM r hr
  have c:=z3k z (ws.drop k) 1
  rw [List.drop_drop] at c
  rw [List.set_eq_take_append_cons_drop,if_pos h,z2u,z1e];omega
def lowM (M:Nat) (T:Str):Prop:=T.length+2≤M/\∀c∈T.cps.toList,c < 128
theorem z9s {T:Str}{c M:Nat}{ws':List Str}(hT:lowM M T) (hc:c < 128) (h:RwC (rwT c T) ws'):totS ⟨#[c]⟩ ws'≤2 * M - 2/\lowM (2 * M) (Builtin.Str.glued ⟨#[c]⟩ ws'):=by
 have t:=h.2 ⟨#[c]⟩ T.length rfl λ w hw=>(z4k hw).1
 rw [x0b] at t
 have h1:=hT.1
 obtain ⟨a,b⟩:=z4z (ws:=ws') hc (show totS ⟨#[c]⟩ ws'≤2 * M - 2 by omega) λ w hw a ha=>hT.2 a ((z4k (h.1 w hw)).2.1 a ha)
 exact ⟨by omega,by omega,b⟩
theorem z8p (c:Nat) (T:Str):((splitL c T.cps.toList).map λ w=>V.str (strL w))=(rwT c T).map V.str:=by unfold rwT;rw [List.map_map];rfl
theorem z5p (c:Nat) (T:Str):1≤(rwT c T).length:=by unfold rwT;rw [List.length_map];exact List.length_pos_iff.mpr (z4a _ _)
theorem y3d (c:Nat) (T:Str):(rwT c T).length≤T.length+1:=by have:=z2p c T.cps.toList;unfold rwT;rw [List.length_map,← z3z T];exact this
def lawBig (z:Str):Prop:=1≤z.length/\z.length≤1000/\∀c∈z.cps.toList,c < 128
theorem y0t {T x:Str}{M k:Nat}(hT:lowM M T) (hM:M≤1900000) (hx:x∈rwT 32 ((rwT 10 T).headD "")) (z:1≤k):totS "\n" ((rwT 10 T).take k++[Str.ofString "out " ++ x])≤4000000/\lowT (Builtin.Str.glued "\n" ((rwT 10 T).take k++[Str.ofString "out " ++ x]))/\rowsT (Builtin.Str.glued "\n" ((rwT 10 T).take k++[Str.ofString "out " ++ x]))=(rowsT T).take k++[[("out" : Str),x]]:=by
 have h1:=hT.1
 have hd:(rwT 10 T).headD "" ∈ rwT 10 T:=by
  have:=z5p 10 T
  cases e:rwT 10 T with
  | nil=>rw [e] at this;cases this
  | cons a r=>exact List.mem_cons_self
 obtain ⟨m1,m2,m3⟩:=z4k hd
 obtain ⟨n1,n2,n3⟩:=z4k hx
 have ol:(Str.ofString "out ").length=4:=by decide +kernel
 have tl:totS ⟨#[10]⟩ ((rwT 10 T).take k++[Str.ofString "out " ++ x])≤3999990:=by
  have a:=z3k ⟨#[10]⟩ (rwT 10 T) k
  rw [x0b] at a
  have one:(⟨#[10]⟩:Str).length=1:=rfl
  rw [z2u,z1e,show totS ⟨#[10]⟩ []=0 from rfl,one,strLen_append,ol]
  omega
 rw [z9d]
 have lo:=z4z (c:=10) (by decide) tl λ w hw a ha=>by
  rcases List.mem_append.mp hw with hw | hw
  ·exact hT.2 a ((z4k (List.mem_of_mem_take hw)).2.1 a ha)
  ·cases List.mem_singleton.mp hw
   rw [z5f,z8x] at ha
   rcases List.mem_append.mp ha with ha | ha
   ·simp only [List.mem_cons,List.not_mem_nil,or_false] at ha;omega
   ·exact hT.2 a (m2 a (n2 a ha))
 refine ⟨by omega,lo,?_⟩
 rw [z6e,y7s (by simp) λ w hw=>?_,z6e,List.map_append,List.map_take,List.map_singleton,y1v n3]
 rcases List.mem_append.mp hw with hw | hw
 ·exact (z4k (List.mem_of_mem_take hw)).2.2
 ·cases List.mem_singleton.mp hw
  rw [z5f,z8x]
  intro m
  rcases List.mem_append.mp m with m | m
  ·exact absurd m (by decide)
  ·exact m3 (n2 _ m)
def RdAt (H:Hp) (s:List (Key × V) × List (List PC)) (os:List V) (p:Addr):Prop:=∃q na st oa ps,H p=some (.tup [.ref q,.ref na])/\H q=some (.tup [.ref st,.ref oa])/\H st=some (.tup (ps.map V.ref))/\StsAt H s.2 ps/\H oa=some (.tup os)/\H na=some (.tup (s.1.map λ kv=>kV kv.1))
theorem RdAt.same {H H':Hp}{s:List (Key × V) × List (List PC)}{os:List V}{p:Addr}(h:RdAt H s os p) (u:Same H H'):RdAt H' s os p:=by
 obtain ⟨q,na,st,oa,ps,h1,h2,h3,h4,h5,h6⟩:=h
 exact ⟨q,na,st,oa,ps,u _ _ h1,u _ _ h2,u _ _ h3,h4.mono λ a ys h=>u _ _ h,u _ _ h5,u _ _ h6⟩
def splread:Sp:=λ vs H Q _=>∃T:Str,vs=[.str T]/\lowT T/\(∀i,BadAt (rowsT T) i->∀H' t,Same H H'->H' t=some (.tup [.bl false,.int ((i:Int)+1)])->Q (.ref t) H')/\(∀s os,GoodR (rowsT T) s os->∀H' t p,Same H H'->H' t=some (.tup [.bl true,.ref p])->RdAt H' s os p->Q (.ref t) H')
theorem y3c (n:Int):∀c∈(sI n).cps.toList,c < 128:=λ c hc=>by
 unfold sI at hc
 rw [z9n] at hc
 unfold txtL at hc
 split at hc
 ·have:=y9z _ c hc;omega
 ·rcases List.mem_cons.mp hc with rfl | hc
  ·omega
  ·have:=y9z _ c hc;omega
def lowC (x:Str):Prop:=∀c∈x.cps.toList,c < 128
theorem nameOk.lowC {x:Str}(h:nameOk x):lowC x:=λ c hc=>by have:=h.2.2 c hc;omega
theorem y8v {i:Nat}(h:i < 15):lowC (kindS i):=by
 have z:∀j:Fin 15,∀c∈(kindS j.val).cps.toList,c < 128:=by decide +kernel
 exact z ⟨i,h⟩
theorem y2g {d:Sd}{nm:List Str}{k:Nat}(g:nmGood nm) (hd:d.kd < 15) (hu:d.kd < 3\/(d.u0 < k/\d.u1 < k/\d.u2 < k)) (hk:k≤nm.length):∀w∈wordsF d nm,lowC w:=by
 intro w hw
 obtain ⟨ws,h1,h2⟩:=List.mem_flatten.mp hw
 obtain ⟨j,hj⟩:=List.getElem?_of_mem h1
 have jl:j < (formsOf d).length:=by show j < ((formsL.getD d.kd ("",[])).2).length;rw [← z4f hd (nm:=nm)];exact (List.getElem?_eq_some_iff.mp hj).1
 obtain ⟨x,ws',_,e2,r⟩:=x0t (nm:=nm) (k:=k) 0 hd hu j _ (List.getElem?_eq_getElem jl)
 rw [hj] at e2;cases e2
 rcases r with ⟨_,u,_,hu,rfl⟩ | ⟨_,_,rfl⟩ | ⟨_,t,_,ht,rfl⟩ | ⟨_,n,_,_,_,rfl⟩ | ⟨_,n,_,_,_,rfl⟩
 ·cases List.mem_singleton.mp h2;exact (z9g g (by omega)).lowC
 ·obtain ⟨n,_,rfl⟩:=List.mem_map.mp h2;exact y3c n
 ·cases List.mem_singleton.mp h2;exact ht.lowC
 ·cases List.mem_singleton.mp h2;exact y3c n
 ·cases List.mem_singleton.mp h2;exact y3c n
theorem x2a {ds:List Sd}{os:List Nat}{nm:List Str}(g:nmGood nm) (nl:nm.length=ds.length) (dk:∀d∈ds,SdOk ds.length d) (od:OrdOk ds) (ob:∀o∈os,o < ds.length):∀ws∈allW ds os nm,∀w∈ws,lowC w:=by
 intro ws h w hw
 rcases List.mem_append.mp h with h | h
 ·obtain ⟨i,hi,rfl⟩:=List.mem_map.mp h
  have hi:=List.mem_range.mp hi
  have gi:ds[i]?=some (ds.getD i ⟨0,0,0,0,0⟩):=by rw [List.getD_eq_getElem?_getD,List.getElem?_eq_getElem hi];rfl
  rcases List.mem_append.mp hw with hw | hw
  ·simp only [List.mem_cons,List.not_mem_nil,or_false] at hw
   rcases hw with rfl | rfl | rfl
   ·exact (z9g g (by omega)).lowC
   ·unfold lowC;decide +kernel
   ·exact y8v (dk _ (List.mem_of_getElem? gi)).1
  ·exact y2g g (dk _ (List.mem_of_getElem? gi)).1 (od i _ gi) (by omega) w hw
 ·cases List.mem_singleton.mp h
  rcases List.mem_cons.mp hw with rfl | hw
  ·unfold lowC;decide +kernel
  ·obtain ⟨o,ho,rfl⟩:=List.mem_map.mp hw
   exact (z9g g (by have:=ob o ho;omega)).lowC
theorem y7g {H:Hp}{ds:List Sd}{os:List Nat}{nm:List Str}{as:List Addr}(sd:SdsAt H ds as) (d40:ds.length≤40) (dk:∀d∈ds,SdOk ds.length d) (od:OrdOk ds) (nl:nm.length=ds.length) (g:nmGood nm) (n:nmOk nm) (o8:os.length≤8) (ob:∀o∈os,o < ds.length):totS "\n" (textL ds os nm)≤4000000/\lowM 210002 (Builtin.Str.glued "\n" (textL ds os nm)):=by
 have one:("\n" : Str).length=1:=by decide +kernel
 have t:=z3q (z := "\n") (ys:=textL ds os nm) (k:=5000) (y1a sd dk nl n o8 ob)
 have tn:(textL ds os nm).length=ds.length+1:=by rw [z9p,List.length_map,x2b]
 rw [one] at t
 have:(5000+1) * (textL ds os nm).length≤5001 * 41:=Nat.mul_le_mul_left _ (by omega)
 rw [z9d] at t ⊢
 obtain ⟨a,b⟩:=z4z (c:=10) (ws:=textL ds os nm) (by decide) (show _≤205041 by omega) λ w hw c hc=>by
  rw [z9p] at hw
  obtain ⟨ws,h1,rfl⟩:=List.mem_map.mp hw
  rw [y1c] at hc
  rcases z7u hc with rfl | ⟨v,hv,m⟩
  ·decide
  ·exact x2a g nl dk od ob ws h1 v hv c m
 exact ⟨by omega,by omega,b⟩
theorem y1y (T:Str):(strL ((splitL 32 ((rwT 10 T).headD "").cps.toList).headD []))∈rwT 32 ((rwT 10 T).headD "")/\∃r0,(rowsT T)[0]?=some r0/\r0.headD "" = strL ((splitL 32 ((rwT 10 T).headD "").cps.toList).headD []):=by
 obtain ⟨p,ps,e⟩:=z1v 32 ((rwT 10 T).headD "").cps.toList
 have w1:=z5p 10 T
 refine ⟨by unfold rwT at *;rw [e];exact List.mem_map.mpr ⟨p,List.mem_cons_self,rfl⟩,rwT 32 ((rwT 10 T).headD ""),?_,?_⟩
 ·rw [z6e,List.getElem?_map]
  cases h:rwT 10 T with
  | nil=>rw [h] at w1;cases w1
  | cons r rs=>rfl
 ·show (((splitL 32 ((rwT 10 T).headD "").cps.toList).map strL).headD "")=_
  rw [e];rfl
theorem z5q (T:Str):(rowsT T).length=(rwT 10 T).length:=by rw [z6e,List.length_map]
abbrev sismadeof:Stmt:=top 21
def spismadeof:Sp:=λ vs H Q _=>∃(x sg:Str) (most:Int),vs=[.str x,.str sg,.int most]/\lowB x/\((sg = "0123456789" /\ ∀H',Same H H'->Q (.bl (madeB x.cps.toList most)) H')\/(sg = "abcdefghijklmnopqrstuvwxyz" /\ ∀H',Same H H'->Q (.bl (madeA x.cps.toList most)) H'))
theorem y1i:FnScope ["word", "signs", "most"] ["word", "signs", "most"] (defScope sismadeof):=⟨rfl,rfl,rfl,by decide +kernel,rfl,by decide +kernel,by decide +kernel⟩
theorem y1q (F:Fun K "is_made_of" "is_made_of" sismadeof f fd) (zlen:mg "len" = none) (zall:mg "all" = none):FnOk P w K mg base CX0 (1) f fd ["word", "signs", "most"] (spismadeof):=by
 have sc:=y1i
 refine F.ok sc (λ vs H Q E h=>?_) (λ cdv A outer s H vs Q E hr h=>?_)
 ·obtain ⟨x,sg,most,rfl,_⟩:=h;rfl
 obtain ⟨x,sg,most,rfl,hx,hq⟩:=h
 refine ⟨_,(z0g (z0k (y3v (y8a y1j y1j z0f (z0s z2c (by rfl) zlen PySem.boot_len (z0a (pv 0) z0e)) (pv 2)) (y3u (z0s (y6v rfl) (by rfl) zall boot_all (z0a (z4d (own:=["sign"]) (fv:=["signs"]) (js:=[1]) rfl (x2u (pv 0)) rfl (by decide) rfl (by decide) (by first | exact λ _ _ h=>h | exact z2y rfl | exact z2x rfl rfl | exact z2w rfl rfl rfl) (z3x (by rfl)) rfl (x2d (by first | exact ⟨rfl,.inl rfl,.inl rfl⟩ | exact ⟨rfl,.inl rfl,.inr rfl⟩)) (λ _ _ _ _=>(z1f (i:=0) (show (["sign", "signs"]:List Str).Nodup by decide +kernel) rfl (Or.inl rfl))) (λ _ _ _ _=>(z6h y4a (pv 0) (pv 1) rfl))) z0e)))))),?_⟩
 rcases hq with ⟨rfl,q⟩ | ⟨rfl,q⟩
 ·wp_walk using tSeq,tIfS,tyS,inV,eqV
  have xl:x.length=x.cps.toList.length:=Array.length_toList.symm
  have xs:=hx.1
  have e0:x.cps.toList.length≤4000000:=by rw [Array.length_toList];exact xs
  rw [xl]
  unfold madeB at q
  refine ⟨Nat.le_of_lt (x1w (by omega)),?_⟩
  by_cases c1:(1:Int)≤(x.cps.toList.length:Nat)
  ·rw [if_pos c1]
   rw [decide_eq_true c1,Bool.true_and] at q
   by_cases c2:((x.cps.toList.length:Nat):Int)≤most
   ·rw [if_pos c2]
    rw [decide_eq_true c2,Bool.true_and] at q
    refine CompX.mk (λ i ys σ H'=>H'=H/\ys=((x.cps.toList.take i).map digB).map V.bl/\∃y,σ=[y,some (.str (Str.ofString "0123456789"))]) ⟨rfl,rfl,_,rfl⟩ (λ i c ys σ H' e h=>?_) (λ ys σ H' h p hp=>?_)
    ·obtain ⟨rfl,rfl,y,rfl⟩:=h
     have e':x.cps.toList[i]?=some c:=by rw [Array.getElem?_toList];exact e
     have cl:=hx.2 c (List.mem_of_getElem? e')
     have fi:=x4a ⟨c,cl⟩
     simp only at fi
     have e1:((x.cps.toList.take (i+1)).map digB).map V.bl=((x.cps.toList.take i).map digB).map V.bl++[V.bl (digB c)]:=by
      rw [List.take_add_one,e',List.map_append,List.map_append];rfl
     have sm:(((x.cps.toList.take i).map digB).map V.bl).length < sizeLine:=by rw [List.length_map,List.length_map,List.length_take];exact x1w (by omega)
     wp_walk using tSeq,tIfS,tyS,inV,eqV,e1,fi
     exact ⟨sm,_,rfl⟩
    ·obtain ⟨rfl,rfl,y,rfl⟩:=h
     rw [← Array.length_toList,List.take_length]
     refine ⟨p,rfl,_,.of z0d,?_⟩
     rw [List.all_map,show (id ∘ digB)=digB from rfl]
     exact q _ (z0b hp _)
   ·rw [if_neg c2]
    rw [decide_eq_false c2,Bool.false_and] at q
    exact q _ (Same.refl _)
  ·rw [if_neg c1]
   rw [decide_eq_false c1,Bool.false_and] at q
   exact q _ (Same.refl _)
 ·wp_walk using tSeq,tIfS,tyS,inV,eqV
  have xl:x.length=x.cps.toList.length:=Array.length_toList.symm
  have xs:=hx.1
  have e0:x.cps.toList.length≤4000000:=by rw [Array.length_toList];exact xs
  rw [xl]
  unfold madeA at q
  refine ⟨Nat.le_of_lt (x1w (by omega)),?_⟩
  by_cases c1:(1:Int)≤(x.cps.toList.length:Nat)
  ·rw [if_pos c1]
   rw [decide_eq_true c1,Bool.true_and] at q
   by_cases c2:((x.cps.toList.length:Nat):Int)≤most
   ·rw [if_pos c2]
    rw [decide_eq_true c2,Bool.true_and] at q
    refine CompX.mk (λ i ys σ H'=>H'=H/\ys=((x.cps.toList.take i).map abcB).map V.bl/\∃y,σ=[y,some (.str (Str.ofString "abcdefghijklmnopqrstuvwxyz"))]) ⟨rfl,rfl,_,rfl⟩ (λ i c ys σ H' e h=>?_) (λ ys σ H' h p hp=>?_)
    ·obtain ⟨rfl,rfl,y,rfl⟩:=h
     have e':x.cps.toList[i]?=some c:=by rw [Array.getElem?_toList];exact e
     have cl:=hx.2 c (List.mem_of_getElem? e')
     have fi:=x4i ⟨c,cl⟩
     simp only at fi
     have e1:((x.cps.toList.take (i+1)).map abcB).map V.bl=((x.cps.toList.take i).map abcB).map V.bl++[V.bl (abcB c)]:=by
      rw [List.take_add_one,e',List.map_append,List.map_append];rfl
     have sm:(((x.cps.toList.take i).map abcB).map V.bl).length < sizeLine:=by rw [List.length_map,List.length_map,List.length_take];exact x1w (by omega)
     wp_walk using tSeq,tIfS,tyS,inV,eqV,e1,fi
     exact ⟨sm,_,rfl⟩
    ·obtain ⟨rfl,rfl,y,rfl⟩:=h
     rw [← Array.length_toList,List.take_length]
     refine ⟨p,rfl,_,.of z0d,?_⟩
     rw [List.all_map,show (id ∘ abcB)=abcB from rfl]
     exact q _ (z0b hp _)
   ·rw [if_neg c2]
    rw [decide_eq_false c2,Bool.false_and] at q
    exact q _ (Same.refl _)
  ·rw [if_neg c1]
   rw [decide_eq_false c1,Bool.false_and] at q
   exact q _ (Same.refl _)
abbrev sisname:Stmt:=top 22
def spisname:Sp:=λ vs H Q _=>∃x:Str,vs=[.str x]/\lowB x/\∀H',Same H H'->Q (.bl (nmB x)) H'
theorem y7o:FnScope ["word"] ["word"] (defScope sisname):=⟨rfl,rfl,rfl,by decide +kernel,rfl,by decide +kernel,by decide +kernel⟩
theorem y8i (F:Fun K "is_name" "is_name" sisname f fd) (cismadeof:Callee P w K mg base CX0 (1) "is_made_of" ["word", "signs", "most"] spismadeof) {tLETTERS:Tok}(gLETTERS:mg "LETTERS" = some (.str "abcdefghijklmnopqrstuvwxyz" tLETTERS)) {tMOST_LETTERS:Tok}(gMOST_LETTERS:mg "MOST_LETTERS" = some (.int 8 tMOST_LETTERS)):FnOk P w K mg base CX0 (2) f fd ["word"] (spisname):=by
 have sc:=y7o
 refine F.ok sc (λ vs H Q E h=>?_) (λ cdv A outer s H vs Q E hr h=>?_)
 ·obtain ⟨x,rfl,_⟩:=h;rfl
 obtain ⟨x,rfl,hx,q⟩:=h
 refine ⟨_,(z0g (z0k (z0r cismadeof hr (by rfl) z1a (z0a (pv 0) (z0a (z3d (v:=.str "abcdefghijklmnopqrstuvwxyz") (by rfl) gLETTERS ⟨_,rfl⟩) (z0a (z3d (v:=.int 8) (by rfl) gMOST_LETTERS ⟨_,rfl⟩) z0e)))))),?_⟩
 wp_walk using tSeq,tIfS,tyS,inV,eqV,spismadeof
 exact ⟨hx,.inr q⟩
abbrev sfiguresof:Stmt:=top 23
def spfiguresof:Sp:=λ vs H Q _=>∃(x:Str) (most:Int),vs=[.str x,.int most]/\lowB x/\most≤19/\∀H',Same H H'->Q (optN (figI x.cps.toList most)) H'
theorem z8o:FnScope ["word", "most"] ["word", "most"] (defScope sfiguresof):=⟨rfl,rfl,rfl,by decide +kernel,rfl,by decide +kernel,by decide +kernel⟩
theorem z9c (F:Fun K "figures_of" "figures_of" sfiguresof f fd) (cismadeof:Callee P w K mg base CX0 (1) "is_made_of" ["word", "signs", "most"] spismadeof) (zlen:mg "len" = none) (zint:mg "int" = none) {tFIGURES:Tok}(gFIGURES:mg "FIGURES" = some (.str "0123456789" tFIGURES)):FnOk P w K mg base CX0 (2) f fd ["word", "most"] (spfiguresof):=by
 have sc:=z8o
 refine F.ok sc (λ vs H Q E h=>?_) (λ cdv A outer s H vs Q E hr h=>?_)
 ·obtain ⟨x,most,rfl,_⟩:=h;rfl
 obtain ⟨x,most,rfl,hx,m19,q⟩:=h
 refine ⟨_,(z0c (z1b (z4v (z2q (z0r cismadeof hr (by rfl) z1a (z0a (pv 0) (z0a (z3d (v:=.str "0123456789") (by rfl) gFIGURES ⟨_,rfl⟩) (z0a (pv 1) z0e)))))) (z0g (z0k z1s)) z0n) (z0c (z1b (PW.pt (y3k (z0j z1i (z1h (pv 0) z0f (λ _ _=>rfl)) z0l (z0q _)) (z8s (z0j y1k (z0s z2c (by rfl) zlen PySem.boot_len (z0a (pv 0) z0e)) z0f (z0q _))))) (z0g (z0k z1s)) z0n) (z0g (z0k (z1c y6s (by rfl) zint boot_int (z0a (pv 0) z0e)))))),?_⟩
 wp_walk using tSeq,tIfS,tyS,inV,eqV,spismadeof
 have xl:x.length=x.cps.toList.length:=Array.length_toList.symm
 unfold figI at q
 refine ⟨hx,.inl λ H1 s1=>?_⟩
 cases hm:madeB x.cps.toList most with
 | false =>
  rw [if_pos rfl]
  rw [hm,if_neg (by decide)] at q
  exact q _ s1
 | true =>
  rw [if_neg (by decide)]
  rw [hm,if_pos rfl] at q
  unfold madeB at hm
  simp only [Bool.and_eq_true,decide_eq_true_eq] at hm
  have e0:x.cps.toList.length≤100:=by have:=hm.2.1;omega
  have dg:PySem.NumText.AllDigits x.cps.toList:=λ c hc=>by have:=List.all_eq_true.mp hm.2.2 c hc;simp [digB] at this;exact this
  have ne:x.cps.toList≠[]:=λ z=>by rw [z] at hm;exact absurd hm.1 (by decide)
  have it:=PySem.intText_digits dg ne (by omega)
  have fin:∃n,intText? x=some n/\x.length≤640/\(¬(x.cps.toList.head?=some 48/\1 < x.cps.toList.length)->Q (V.int n) H1):=⟨_,it,by omega,λ nz=>by rw [if_neg nz] at q;exact q _ s1⟩
  obtain ⟨c,r,ec⟩:∃c r,x.cps.toList=c::r:=by cases h:x.cps.toList with | nil=>exact absurd h ne | cons c r=>exact ⟨c,r,rfl⟩
  have e1:x.cps[0]?=some c:=by rw [← Array.getElem?_toList,ec];rfl
  refine ⟨by rw [xl];omega,c,e1,?_⟩
  obtain ⟨n,f1,f2,f3⟩:=fin
  by_cases z:(⟨#[c]⟩:Str)=Str.ofString "0"
  ·rw [if_pos z]
   have z2:=(y2e c).mp z
   refine ⟨small (by omega),?_⟩
   by_cases l:(1:Int) < (x.length:Nat)
   ·rw [if_pos l]
    rw [if_pos ⟨by rw [ec,z2];rfl,by omega⟩] at q
    exact q _ s1
   ·rw [if_neg l]
    exact ⟨n,f1,f2,f3 λ w=>by have:=w.2;omega⟩
  ·rw [if_neg z]
   exact ⟨n,f1,f2,f3 λ w=>z ((y2e c).mpr (by have:=w.1;rw [ec] at this;injection this))⟩
abbrev ssmallof:Stmt:=top 24
def spsmallof:Sp:=λ vs H Q _=>∃(x:Str),vs=[.str x]/\lowB x/\∀H',Same H H'->Q (optN (figI x.cps.toList 3)) H'
theorem y2p:FnScope ["word"] ["word"] (defScope ssmallof):=⟨rfl,rfl,rfl,by decide +kernel,rfl,by decide +kernel,by decide +kernel⟩
theorem y4f (F:Fun K "small_of" "small_of" ssmallof f fd) (cfiguresof:Callee P w K mg base CX0 (2) "figures_of" ["word", "most"] spfiguresof):FnOk P w K mg base CX0 (3) f fd ["word"] (spsmallof):=by
 have sc:=y2p
 refine F.ok sc (λ vs H Q E h=>?_) (λ cdv A outer s H vs Q E hr h=>?_)
 ·obtain ⟨x,rfl,_⟩:=h;rfl
 obtain ⟨x,rfl,hx,q⟩:=h
 refine ⟨_,(z0g (z0k (z0r cfiguresof hr (by rfl) z1a (z0a (pv 0) (z0a z0f z0e))))),?_⟩
 wp_walk using tSeq,tIfS,tyS,inV,eqV,spfiguresof
 exact ⟨hx,q⟩
abbrev snumberof:Stmt:=top 25
def spnumberof:Sp:=λ vs H Q _=>∃(x:Str),vs=[.str x]/\lowB x/\∀H',Same H H'->Q (optV (numI x.cps.toList)) H'
theorem y1e:FnScope ["word", "is_below", "figure", "number"] ["word"] (defScope snumberof):=⟨rfl,rfl,rfl,by decide +kernel,rfl,by decide +kernel,by decide +kernel⟩
theorem y1m (F:Fun K "number_of" "number_of" snumberof f fd) (cfiguresof:Callee P w K mg base CX0 (2) "figures_of" ["word", "most"] spfiguresof) {tLOW:Tok}(gLOW:mg "LOW" = some (.int (-9223372036854775808) tLOW)) {tHIGH:Tok}(gHIGH:mg "HIGH" = some (.int 9223372036854775807 tHIGH)):FnOk P w K mg base CX0 (3) f fd ["word"] (spnumberof):=by
 have sc:=y1e
 refine F.ok sc (λ vs H Q E h=>?_) (λ cdv A outer s H vs Q E hr h=>?_)
 ·obtain ⟨x,rfl,_⟩:=h;rfl
 obtain ⟨x,rfl,hx,q⟩:=h
 refine ⟨_,(z0c (z1b (z0j z1i (pv 0) z0l (z0q _)) (z0g (z0k z1s)) z0n) (z0c (z0o (i:=1) sc.nd rfl (by first | exact Or.inl rfl | exact Or.inr rfl) (z2r PySem.F.plainAttrs_str PySem.F.slot_str_startswith PySem.F.type_str_startswith y4v (pv 0) (z0a z0l z0e))) (z0c (z0o (i:=2) sc.nd rfl (by first | exact Or.inl rfl | exact Or.inr rfl) (z0r cfiguresof hr (by rfl) z1a (z0a (z2v (z2q (pv 1)) (z1o z8l (pv 0) (z1x z0f) z1y) (pv 0)) (z0a z0f z0e)))) (z0c (z1b (z0j y0f (pv 2) z1s (z0q _)) (z0g (z0k z1s)) z0n) (z0c (z0o (i:=3) sc.nd rfl (by first | exact Or.inl rfl | exact Or.inr rfl) (z2v (z2q (pv 1)) (y3t z6v (pv 2)) (pv 2))) (z0g (z0k (z2v (z9z y1j y1j (z3d (v:=.int (-9223372036854775808)) (by rfl) gLOW ⟨_,rfl⟩) (pv 3) (z3d (v:=.int 9223372036854775807) (by rfl) gHIGH ⟨_,rfl⟩)) (pv 3) z1s)))))))),?_⟩
 wp_walk using tSeq,tIfS,tyS,inV,eqV,spfiguresof
 have fin:∀(o:Option Nat) (H':Hp) (f:Int->Int),(∀n:Nat,o=some n->Q (optV (rngI (f n))) H')->(∀n:Nat,o=some n->(if -9223372036854775808≤f n then if f n≤9223372036854775807 then Q (V.int (f n)) H' else Q V.non H' else Q V.non H')):=by
  intro o H' f h n e
  have h:=h n e
  unfold rngI at h
  by_cases c1:-9223372036854775808≤f n
  ·rw [if_pos c1]
   by_cases c2:f n≤9223372036854775807
   ·rw [if_pos c2];rw [if_pos ⟨c1,c2⟩] at h;exact h
   ·rw [if_neg c2];rw [if_neg (λ z=>c2 z.2)] at h;exact h
  ·rw [if_neg c1];rw [if_neg (λ z=>c1 z.1)] at h;exact h
 unfold numI at q
 by_cases c1:x=Str.ofString "-0"
 ·rw [if_pos c1]
  rw [if_pos ((x4b x).mp c1)] at q
  exact q _ (Same.refl _)
 rw [if_neg c1]
 rw [if_neg (λ z=>c1 ((x4b x).mpr z))] at q
 by_cases c2:startsB x (Str.ofString "-")=true
 ·simp only [if_pos c2]
  rw [if_pos ((z7a x).mp c2)] at q
  refine ⟨by have:=hx.1;show x.cps.size≤4000000;omega,y4z hx,λ H1 s1=>?_⟩
  rw [y2m]
  have q:=q _ s1
  cases hf:figI (x.cps.toList.drop 1) 19 with
  | none=>rw [hf] at q;rw [if_pos (show optN none=V.non from rfl)];exact q
  | some n =>
   rw [hf] at q
   rw [if_neg (by intro z;cases z)]
   exact ⟨n,rfl,fin (some n) H1 (λ n=>-n) (λ m e=>by cases e;exact q) n rfl⟩
 ·simp only [if_neg c2]
  rw [if_neg (λ z=>c2 ((z7a x).mpr z))] at q
  refine ⟨hx,λ H1 s1=>?_⟩
  have q:=q _ s1
  cases hf:figI x.cps.toList 19 with
  | none=>rw [hf] at q;rw [if_pos (show optN none=V.non from rfl)];exact q
  | some n =>
   rw [hf] at q
   rw [if_neg (by intro z;cases z)]
   have f:=fin (some n) H1 (λ n=>n) (λ m e=>by cases e;exact q) n rfl
   refine ⟨n,rfl,?_⟩
   by_cases b1:-9223372036854775808≤(n:Int)
   ·rw [if_pos b1] at f ⊢
    exact ⟨n,rfl,f⟩
   ·rw [if_neg b1] at f ⊢
    exact f
abbrev ssmallsof:Stmt:=top 26
def spsmallsof:Sp:=λ vs H Q _=>∃(a:Addr) (ws:List Str),vs=[.ref a]/\H a=some (.lst (ws.map V.str))/\lowW ws/\(smallsO ws=none->∀H',Same H H'->Q .non H')/\(∀row,smallsO ws=some row->∀H' t,Same H H'->H' t=some (.tup (row.map V.int))->Q (.ref t) H')
theorem y1d:FnScope ["words", "numbers"] ["words"] (defScope ssmallsof):=⟨rfl,rfl,rfl,by decide +kernel,rfl,by decide +kernel,by decide +kernel⟩
theorem y1l (F:Fun K "smalls_of" "smalls_of" ssmallsof f fd) (csmallof:Callee P w K mg base CX0 (3) "small_of" ["word"] spsmallof) (zlen:mg "len" = none) (ztuple:mg "tuple" = none) {tMOST_SIDES_WRITTEN:Tok}(gMOST_SIDES_WRITTEN:mg "MOST_SIDES_WRITTEN" = some (.int 8 tMOST_SIDES_WRITTEN)):FnOk P w K mg base CX0 (4) f fd ["words"] (spsmallsof):=by
 have sc:=y1d
 refine F.ok sc (λ vs H Q E h=>?_) (λ cdv A outer s H vs Q E hr h=>?_)
 ·obtain ⟨a,ws,rfl,_⟩:=h;rfl
 obtain ⟨a,ws,rfl,ha,lw,q1,q2⟩:=h
 refine ⟨_,(z0c (y0a (own:=["word"]) sc.nd (i:=1) rfl (by first | exact Or.inl rfl | exact Or.inr rfl) (by first | exact Or.inl rfl | exact Or.inr rfl) rfl (z8t (pv 0)) (by decide) (by decide) rfl (by decide) (λ _ _ _ _=>(z1f (i:=0) (show (["word"]:List Str).Nodup by decide +kernel) rfl (Or.inl rfl))) (λ _ _ _ _=>(z0r csmallof hr (by rfl) z1a (z0a (pv 0) z0e)))) (z0c (z1b (PW.pt (z3b (z0j y1k (z0s z0t (by rfl) zlen PySem.boot_len (z0a (pv 1) z0e)) (z3d (v:=.int 8) (by rfl) gMOST_SIDES_WRITTEN ⟨_,rfl⟩) (z0q _)) (z2z (z0j (y4c (hu1 hr)) z1s (pv 1) rfl)))) (z0g (z0k z1s)) z0n) (z0g (z0k (z1c z1k (by rfl) ztuple boot_tuple (z0a (pv 1) z0e)))))),?_⟩
 simp only [L2.start,List.length_cons,List.length_nil,List.replicate,List.cons_append,List.nil_append,Nat.reduceSub,Nat.reduceAdd,List.map_cons,List.map_nil]
 refine z0h (λ σ H1=>∃l,σ=[some (.ref a),some (.ref l)]/\Same H H1/\H1 l=some (.lst (ws.map λ w=>optN (figI w.cps.toList 3)))) ?_ (λ R hR=>?_)
 rotate_left
 ·wp_walk using tSeq,tIfS,tyS,inV,eqV,spsmallof
  refine CompL.mk (xs:=ws.map V.str) (.of ha) (λ i ys σ G=>Same H G/\ys=(ws.take i).map (λ w=>optN (figI w.cps.toList 3))/\∃y,σ=[y]) ⟨Same.refl _,rfl,_,rfl⟩ (λ i ys σ G _ h=>.of (h.1 _ _ ha)) (λ i x ys σ G ex h=>?_) (λ ys σ G h l hl=>?_)
  ·obtain ⟨sG,rfl,y,rfl⟩:=h
   rw [List.getElem?_map] at ex
   obtain ⟨w,hw,rfl⟩:=Option.map_eq_some_iff.mp ex
   have l5:=lw.1
   refine ⟨x1w (by rw [List.length_map,List.length_take];omega),?_⟩
   wp_walk using tSeq,tIfS,tyS,inV,eqV,spsmallof
   exact ⟨lw.2 w (List.mem_of_getElem? hw),λ G' s'=>⟨sG.trans s',by rw [List.take_add_one,hw,List.map_append];rfl,_,rfl⟩⟩
  ·obtain ⟨sG,rfl,y,rfl⟩:=h
   rw [List.length_map,List.take_length]
   exact hR _ _ ⟨l,rfl,sG.trans (z0b hl _),z0d⟩
 rintro σ1 G1 ⟨l,rfl,s1,hl⟩
 wp_walk using tSeq,tIfS,tyS
 refine ⟨_,.inl (.of hl),?_⟩
 by_cases c8:(8:Int) < ((ws.map λ w=>optN (figI w.cps.toList 3)).length:Int)
 ·rw [if_pos c8]
  exact q1 (by unfold smallsO;rw [if_neg (λ z=>by rw [List.length_map] at c8;omega)]) _ s1
 rw [if_neg c8]
 refine ⟨_,hl,λ z hz=>.inl (by obtain ⟨w,_,rfl⟩:=List.mem_map.mp hz;cases figI w.cps.toList 3<;>rfl),?_⟩
 have an:=x1z (ws:=ws)
 cases ca:ws.all λ w=>(figI w.cps.toList 3).isSome with
 | false =>
  rw [ca,Bool.not_false] at an
  rw [if_pos an]
  exact q1 (by unfold smallsO;rw [if_neg (λ z=>by rw [ca] at z;exact absurd z.2 (by decide))]) _ s1
 | true =>
  rw [ca,Bool.not_true] at an
  rw [if_neg (by rw [an];decide)]
  exact ⟨_,.inl ⟨.of hl,λ p hp=>q2 _ (by unfold smallsO;rw [if_pos ⟨by rw [List.length_map] at c8;omega,ca⟩]) _ _ (s1.trans (z0b hp _)) (by rw [z0d,x3g ca])⟩⟩
abbrev spartof:Stmt:=top 27
def sppartof:Sp:=λ vs H Q _=>∃(kind w:Str) (ka:Addr) (kvs:List (Key × V)),vs=[.str kind,.str w,.ref ka]/\H ka=some (.dK kvs)/\lowB w/\∀H',Same H H'->Q (partV kvs kind w) H'
theorem y7l:FnScope ["kind", "word", "known"] ["kind", "word", "known"] (defScope spartof):=⟨rfl,rfl,rfl,by decide +kernel,rfl,by decide +kernel,by decide +kernel⟩
theorem y8f (F:Fun K "part_of" "part_of" spartof f fd) (cisname:Callee P w K mg base CX0 (3) "is_name" ["word"] spisname) (cnumberof:Callee P w K mg base CX0 (3) "number_of" ["word"] spnumberof) (csmallof:Callee P w K mg base CX0 (3) "small_of" ["word"] spsmallof):FnOk P w K mg base CX0 (4) f fd ["kind", "word", "known"] (sppartof):=by
 have sc:=y7l
 refine F.ok sc (λ vs H Q E h=>?_) (λ cdv A outer s H vs Q E hr h=>?_)
 ·obtain ⟨k,w,ka,kvs,rfl,_⟩:=h;rfl
 obtain ⟨kind,w,ka,kvs,rfl,hk,hw,q⟩:=h
 refine ⟨_,(z0c (z1b (z0j z1i (pv 0) z0l (z0q _)) (z0g (z0k (y0c (hu1 hr) (pv 2) (pv 1) ⟨by rfl,by rfl,by rfl,by rfl⟩))) z0n) (z0c (z1b (z0j z1i (pv 0) z0l (z0q _)) (z0g (z0k (z2v (z2q (z0r cisname hr (by rfl) z1a (z0a (pv 1) z0e))) (pv 1) z1s))) z0n) (z0c (z1b (z0j z1i (pv 0) z0l (z0q _)) (z0g (z0k (z0r cnumberof hr (by rfl) z1a (z0a (pv 1) z0e)))) z0n) (z0g (z0k (z0r csmallof hr (by rfl) z1a (z0a (pv 1) z0e))))))),?_⟩
 wp_walk using tSeq,tIfS,tyS,inV,eqV,spisname,spnumberof,spsmallof
 unfold partV at q
 by_cases c1:kind=Str.ofString "step"
 ·rw [if_pos c1]
  simp only [if_pos c1] at q
  refine ⟨.inl ⟨kvs,.inl hk⟩,_,.inl ⟨kvs,.inr w,.inl hk,rfl,rfl⟩,?_⟩
  exact q _ (Same.refl _)
 rw [if_neg c1]
 simp only [if_neg c1] at q
 by_cases c2:kind=Str.ofString "word"
 ·rw [if_pos c2]
  simp only [if_pos c2] at q
  refine ⟨hw,λ H1 s1=>?_⟩
  have q:=q _ s1
  cases cb:nmB w with
  | true =>
   simp only [cb,if_true] at q
   rw [if_pos rfl]
   exact q
  | false =>
   simp only [cb] at q
   rw [if_neg (by decide)] at q ⊢
   exact q
 rw [if_neg c2]
 simp only [if_neg c2] at q
 by_cases c3:kind=Str.ofString "number"
 ·rw [if_pos c3]
  simp only [if_pos c3] at q
  exact ⟨hw,q⟩
 rw [if_neg c3]
 simp only [if_neg c3] at q
 exact ⟨hw,q⟩
abbrev spartsof:Stmt:=top 10
def sppartsof:W.Frag->Sp:=λ K=>λ vs H Q _=>∃i:Nat,i < 15/\vs=[.str (kindS i)]/\∀a xs,KTup K a xs->ItemsAll K (formsL.getD i ("",[])).2 xs->Q (.ref a) H
theorem y2t:FnScope ["form"] ["form"] (defScope spartsof):=⟨rfl,rfl,rfl,by decide +kernel,rfl,by decide +kernel,by decide +kernel⟩
theorem y4i (F:Fun K "parts_of" "parts_of" spartsof f fd) {dPARTS:Addr}(gPARTS:mg "PARTS" = some (.ref dPARTS)) (TP:PartsOk P w K dPARTS):FnOk P w K mg base CX0 (1) f fd ["form"] (sppartsof K):=by
 have sc:=y2t
 refine F.ok sc (λ vs H Q E h=>?_) (λ cdv A outer s H vs Q E hr h=>?_)
 ·obtain ⟨i,_,rfl,_⟩:=h;rfl
 obtain ⟨kvs,TK,TF⟩:=TP
 obtain ⟨i,hi,rfl,q⟩:=h
 refine ⟨_,(z0g (z0k (x0x (by rfl) gPARTS TK (pv 0) (λ _ _=>rfl)))),?_⟩
 wp_walk using tSeq,tIfS,tyS,inV,eqV
 obtain ⟨a,xs,e1,e2,e3⟩:=z4g TF (y8y hi)
 exact ⟨a,e1,q a xs e2 e3⟩
abbrev sisform:Stmt:=top 9
def spisform:Sp:=λ vs H Q _=>∃x:Str,vs=[.str x]/\Q (.bl (formsL.lookup x).isSome) H
theorem y7p:FnScope ["word"] ["word"] (defScope sisform):=⟨rfl,rfl,rfl,by decide +kernel,rfl,by decide +kernel,by decide +kernel⟩
theorem y8j (F:Fun K "is_form" "is_form" sisform f fd) {dPARTS:Addr}(gPARTS:mg "PARTS" = some (.ref dPARTS)) (TP:PartsOk P w K dPARTS):FnOk P w K mg base CX0 (1) f fd ["word"] (spisform):=by
 have sc:=y7p
 refine F.ok sc (λ vs H Q E h=>?_) (λ cdv A outer s H vs Q E hr h=>?_)
 ·obtain ⟨x,rfl,_⟩:=h;rfl
 obtain ⟨kvs,TK,TF⟩:=TP
 obtain ⟨x,rfl,q⟩:=h
 refine ⟨_,(z0g (z0k (x2x (x2z (by rfl) gPARTS TK (pv 0)) rfl))),?_⟩
 wp_walk using tSeq,tIfS,tyS,inV,eqV
 cases e:formsL.lookup x with
 | some fs =>
  rw [e] at q
  obtain ⟨a,xs,e1,e2,e3⟩:=z4g TF e
  rw [e1]
  exact q
 | none =>
  rw [e] at q
  rw [z5v TF e]
  exact q
abbrev sstepof:Stmt:=top 28
def spstepof:Sp:=λ vs H Q _=>∃(wa ka:Addr) (kd:Nat) (ws:List Str) (kvs:List (Key × V)),vs=[.str (kindS kd),.ref wa,.ref ka]/\kd < 15/\H wa=some (.lst (ws.map V.str))/\lowW ws/\H ka=some (.dK kvs)/\knI kvs/\(stepO kvs kd ws=none->∀H',Same H H'->Q .non H')/\(∀cs,stepO kvs kd ws=some cs->∀H' p xs,Same H H'->H' p=some (.tup xs)->PCs H' cs xs->Q (.ref p) H')
theorem y7k:FnScope ["form", "words", "known", "parts", "step", "left", "kind", "place"] ["form", "words", "known"] (defScope sstepof):=⟨rfl,rfl,rfl,by decide +kernel,rfl,by decide +kernel,by decide +kernel⟩
theorem y8e (F:Fun K "step_of" "step_of" sstepof f fd) (cpartsof:Callee P w K mg base CX0 (4) "parts_of" ["form"] (sppartsof K)) (csmallsof:Callee P w K mg base CX0 (4) "smalls_of" ["words"] spsmallsof) (cpartof:Callee P w K mg base CX0 (4) "part_of" ["kind", "word", "known"] sppartof) (zlen:mg "len" = none) (zlist:mg "list" = none) (ztuple:mg "tuple" = none):FnOk P w K mg base CX0 (5) f fd ["form", "words", "known"] (spstepof):=by
 have sc:=y7k
 refine F.ok sc (λ vs H Q E h=>?_) (λ cdv A outer s H vs Q E hr h=>?_)
 ·obtain ⟨wa,ka,kd,ws,kvs,rfl,_⟩:=h;rfl
 obtain ⟨wa,ka,kd,ws,kvs,rfl,hd,hw,lw,hka,kn,q1,q2⟩:=h
 refine ⟨_,(z0c (z0o (i:=3) sc.nd rfl (by first | exact Or.inl rfl | exact Or.inr rfl) (z0r cpartsof hr (by rfl) z1a (z0a (pv 0) z0e))) (z0c (z0o (i:=4) sc.nd rfl (by first | exact Or.inl rfl | exact Or.inr rfl) (z0w x3b (z1j (z0a (pv 0) z0e)) (z0w z1m (z0s z0t (by rfl) zlen PySem.boot_len (z0a (pv 3) z0e)) z0f))) (z0c (z0o (i:=5) sc.nd rfl (by first | exact Or.inl rfl | exact Or.inr rfl) (z1c z8c (by rfl) zlist boot_list (z0a (pv 1) z0e))) (z0c (z4m PassesOwn.never rfl (z5u (pv 3)) (y3q (K:=K) (n:=2) rfl (y0b rfl (z2l (z1f (i:=6) sc.nd rfl (Or.inl rfl)) (z2l (z1f (i:=7) sc.nd rfl (Or.inl rfl)) z6g)))) (z0g (z1b (z0j z1i (pv 6) z0l (z0q _)) (z0c (y3l (z0r csmallsof hr (by rfl) z1a (z0a (pv 5) z0e)) (y3s (pv 4) (pv 7) z6d)) (z0g (z0o (i:=5) sc.nd rfl (by first | exact Or.inl rfl | exact Or.inr rfl) (z1j z0e)))) (z0g (y3l (z2v (z0j y1k (z0s z0t (by rfl) zlen PySem.boot_len (z0a (pv 5) z0e)) z0f (z0q _)) (z0r cpartof hr (by rfl) z1a (z0a (pv 6) (z0a (z2r PySem.F.plainAttrs_list PySem.F.slot_list_pop PySem.F.type_list_pop y8p (pv 5) (z0a z0f z0e)) (z0a (pv 2) z0e)))) z1s) (y3s (pv 4) (pv 7) z6d)))))) (z0c (z1b (PW.pt (z3b (z0j y1k (z0s z0t (by rfl) zlen PySem.boot_len (z0a (pv 5) z0e)) z0f (z0q _)) (z2z (z0j (y4c (hu1 hr)) z1s (pv 4) rfl)))) (z0g (z0k z1s)) z0n) (z0g (z0k (z1c z1k (by rfl) ztuple boot_tuple (z0a (pv 4) z0e))))))))),?_⟩
 simp only [L2.start,List.length_cons,List.length_nil,List.replicate,List.cons_append,List.nil_append,Nat.reduceSub,Nat.reduceAdd,List.map_cons,List.map_nil]
 have l5:=z2i (i:=kd)
 refine z0h (λ σ H1=>H1=H/\∃pa xs,σ=[some (.str (kindS kd)),some (.ref wa),some (.ref ka),some (.ref pa),none,none,none,none]/\KTup K pa xs/\ItemsAll K ((formsL.getD kd ("",[])).2) xs) ?_ (λ R hR=>?_)
 rotate_left
 ·wp_walk using tSeq,tIfS,tyS,inV,eqV,sppartsof
  exact ⟨kd,hd,rfl,λ a xs e1 e2=>hR _ _ ⟨rfl,a,xs,rfl,e1,e2⟩⟩
 rintro σ1 H1 ⟨rfl,pa,its,rfl,kt,ia⟩
 obtain ⟨l3,at3⟩:=z6o ia
 refine z0h (λ σ H2=>∃sa,σ=[some (.str (kindS kd)),some (.ref wa),some (.ref ka),some (.ref pa),some (.ref sa),none,none,none]/\Same H1 H2/\H1 sa=none/\H2 sa=some (.lst (List.replicate (((formsL.getD kd ("",[])).2).length+1) (V.str (kindS kd))))) ?_ (λ R hR=>?_)
 rotate_left
 ·wp_walk using tSeq,tIfS,tyS,inV,eqV
  refine ⟨small (by decide),λ p hp=>?_⟩
  refine ⟨_,.inr kt.sq,?_⟩
  refine ⟨by omega,by omega,?_,λ p1 hp1=>?_⟩
  ·rw [l3];exact small (by omega)
  ·refine hR _ _ ⟨p1,rfl,(z0b hp _).trans (z0b hp1 _),(z0b hp _).free hp1,?_⟩
   rw [z0d,z4b,l3]
   rw [show (((((formsL.getD kd ("",[])).2).length:Nat):Int)+1).toNat=((formsL.getD kd ("",[])).2).length+1 by omega]
 rintro σ2 H2 ⟨sa,rfl,s2,sa0,h2⟩
 refine z0h (λ σ H3=>∃la,σ=[some (.str (kindS kd)),some (.ref wa),some (.ref ka),some (.ref pa),some (.ref sa),some (.ref la),none,none]/\Same H2 H3/\H2 la=none/\H3 la=some (.lst (ws.map V.str))) ?_ (λ R hR=>?_)
 rotate_left
 ·wp_walk using tSeq,tIfS,tyS,inV,eqV
  exact ⟨_,.inl (.of (s2 _ _ hw)),λ p hp=>hR _ _ ⟨p,rfl,z0b hp _,hp,z0d⟩⟩
 rintro σ3 H3 ⟨la,rfl,s3,la0,h3⟩
 have same:∀ {G:Hp}{a:Addr},H1 a=none->Same H1 G->∀o,Same H1 (upd G a o):=λ {G a} a0 sg o b u e=>by rw [z0m (λ z=>by rw [z,a0] at e;cases e)];exact sg _ _ e
 have nL:∀ {G':Hp}{l:Addr}{zs:List V}{o:HO},G' l=some (.lst zs)->∀a ys,G' a=some (.tup ys)->upd G' l o a=some (.tup ys):=λ e a ys h=>by rw [z0m (λ z=>by rw [z,e] at h;cases h)];exact h
 have la1:H1 la=none:=s2.free la0
 have sne:sa≠la:=λ z=>by rw [z,la0] at h2;cases h2
 refine z0h (λ σ G=>∃(y6 y7:Option V) (la:Addr) (xs:List V),σ=[some (.str (kindS kd)),some (.ref wa),some (.ref ka),some (.ref pa),some (.ref sa),some (.ref la),y6,y7]/\Same H1 G/\G sa=some (.lst xs)/\PCs G (readP kvs kd ws ((formsL.getD kd ("",[])).2).length).1 xs/\G la=some (.lst ((readP kvs kd ws ((formsL.getD kd ("",[])).2).length).2.map V.str))) ?_ (λ R hR=>?_)
 rotate_left
 ·wp_walk using tSeq,tIfS,tyS,inV,eqV
  refine LoopT.mk (xs:=its) kt.sq (λ j σ G=>∃(y6 y7:Option V) (la:Addr) (xs:List V),σ=[some (.str (kindS kd)),some (.ref wa),some (.ref ka),some (.ref pa),some (.ref sa),some (.ref la),y6,y7]/\Same H1 G/\H1 la=none/\sa≠la/\G sa=some (.lst xs)/\PCs G (readP kvs kd ws j).1 xs/\lowW (readP kvs kd ws j).2/\G la=some (.lst ((readP kvs kd ws j).2.map V.str))) ?_ (λ j σ G _ _=>kt.sq) (λ j x σ G e h=>?_) (λ σ G h=>?_)
  ·refine ⟨_,_,la,_,rfl,s2.trans s3,la1,sne,s3 _ _ h2,⟨?_,λ i c x e1 e2=>?_⟩,lw,h3⟩
   ·rw [z4u,List.length_replicate]
   ·have e1:=List.mem_of_getElem? e1
    have e2:=List.mem_of_getElem? e2
    cases (List.mem_replicate.mp e1).2
    cases (List.mem_replicate.mp e2).2
    exact ⟨rfl,rfl⟩
  ·obtain ⟨y6,y7,la,xs,rfl,sG,la1,sne,gsa,pc,lw,gla⟩:=h
   obtain ⟨f,b,ef,rfl,kb⟩:=at3 e
   have jl:=(List.getElem?_eq_some_iff.mp ef).1
   have rng:=z2s ⟨kd,hd⟩ ⟨j,by omega⟩ jl
   have gj:=z3h (a:=(("",0):Str × Int)) ef
   rw [show ((formsL.getD (⟨kd,hd⟩:Fin 15).val ("",[])).2.getD (⟨j,by omega⟩:Fin 5).val ("",0))=f from gj] at rng
   have rng:1≤f.2/\f.2≤((formsL.getD kd ("",[])).2).length:=rng
   have xl:=pc.1
   rw [z4u] at xl
   have ixe:ixN xs.length f.2=some f.2.toNat:=by unfold ixN;rw [if_pos (by omega),if_pos (by omega)]
   rw [z5r ef]
   generalize readP kvs kd ws j=S at *
   wp_walk using tSeq,tIfS,tyS,inV,eqV,spsmallsof,sppartof
   refine ⟨_,kb.sq,rfl,_,_,rfl,_,_,rfl,rfl,rfl,?_⟩
   wp_walk using tSeq,tIfS,tyS,inV,eqV
   unfold oneP
   by_cases cs:f.1=Str.ofString "sides"
   ·rw [if_pos cs,if_pos cs]
    refine ⟨S.2,gla,lw,λ sn G2 t2=>?_,λ row sr G2 t t2 ht=>?_⟩
    ·have gs2:=t2 _ _ gsa
     have s12:=same sa0 (sG.trans t2) (HO.lst (xs.set f.2.toNat .non))
     refine ⟨xs,gs2,_,ixe,Nat.zero_le _,λ p hp=>⟨s12.trans (z0b hp _),s12.free hp,(λ z=>by rw [← z,z0d] at hp;cases hp),_,z0b hp _ _ _ z0d,?_,lowW.nil,rfl⟩⟩
     rw [show sidesC S.2=.v .non by unfold sidesC;rw [sn]]
     exact (((pc.mono λ a ys h=>t2 _ _ h).mono (nL gs2)).mono λ a ys h=>z0b hp _ _ _ h).set _ ⟨rfl,rfl⟩
    ·have gs2:=t2 _ _ gsa
     have s12:=same sa0 (sG.trans t2) (HO.lst (xs.set f.2.toNat (.ref t)))
     refine ⟨xs,gs2,_,ixe,Nat.zero_le _,λ p hp=>⟨s12.trans (z0b hp _),s12.free hp,(λ z=>by rw [← z,z0d] at hp;cases hp),_,z0b hp _ _ _ z0d,?_,lowW.nil,rfl⟩⟩
     rw [show sidesC S.2=.t row by unfold sidesC;rw [sr]]
     exact (((pc.mono λ a ys h=>t2 _ _ h).mono (nL gs2)).mono λ a ys h=>z0b hp _ _ _ h).set _ ⟨t,rfl,z0b hp _ _ _ (nL gs2 _ _ ht)⟩
   ·rw [if_neg cs,if_neg cs]
    refine ⟨_,.inl (.of gla),?_⟩
    rw [List.length_map]
    have gka:=sG _ _ hka
    have kla:ka≠la:=λ z=>by rw [z,gla] at gka;cases gka
    cases e2:S.2 with
    | nil =>
     rw [if_neg (by simp)]
     rw [e2] at gla
     refine ⟨xs,gsa,_,ixe,same sa0 sG _,la1,sne,?_,lowW.nil,?_⟩
     ·exact (pc.mono (nL gsa)).set _ ⟨rfl,rfl⟩
     ·rw [z0m sne.symm];exact gla
    | cons w ws' =>
     rw [e2] at gla lw
     rw [if_pos (by rw [List.length_cons];omega)]
     refine ⟨.inl ⟨_,.of gla⟩,_,gla,0,(by rw [StrLaws.seqIndex_nonneg (by decide) (by rw [List.length_map,List.length_cons];omega)];rfl),_,rfl,w,rfl,kvs,(z0m kla).trans gka,lw.2 w List.mem_cons_self,λ G2 t2=>?_⟩
     have gs2:=t2 _ _ ((z0m sne).trans gsa)
     refine ⟨xs,gs2,_,ixe,same sa0 ((same la1 sG _).trans t2) _,la1,sne,?_,lw.tl,?_⟩
     ·exact (((pc.mono (nL gla)).mono λ a ys h=>t2 _ _ h).mono (nL gs2)).set _ ⟨y3w kn _ _,rfl⟩
     ·rw [z0m sne.symm];exact t2 _ _ z0d
  ·rw [l3] at h
   obtain ⟨y6,y7,la,xs,rfl,sG,la1,sne,gsa,pc,lw,gla⟩:=h
   exact hR _ _ ⟨y6,y7,la,xs,rfl,sG,gsa,pc,gla⟩
 rintro σ4 G ⟨y6,y7,la,xs,rfl,sG,gsa,pc,gla⟩
 wp_walk using tSeq,tIfS,tyS,inV
 refine ⟨_,.inl (.of gla),?_⟩
 unfold stepO at q1 q2
 generalize readP kvs kd ws ((formsL.getD kd ("",[])).2).length=S at *
 rw [List.length_map]
 by_cases c0:S.2=[]
 ·rw [c0,if_neg (by simp)]
  refine ⟨_,gsa,λ z hz=>pc.flat z hz,?_⟩
  rw [pc.any]
  cases cn:S.1.any isNon with
  | true =>
   rw [if_pos rfl]
   exact q1 (by rw [if_neg (λ z=>by rw [cn] at z;cases z.2)]) _ sG
  | false =>
   rw [if_neg (by decide)]
   exact ⟨_,.inl ⟨.of gsa,λ p hp=>q2 S.1 (by rw [if_pos ⟨c0,cn⟩]) _ p _ (sG.trans (z0b hp _)) z0d (pc.mono λ a ys h=>z0b hp _ _ _ h)⟩⟩
 ·have lp:=List.length_pos_iff.mpr c0
  rw [if_pos (by omega)]
  exact q1 (by rw [if_neg (λ z=>c0 z.1)]) _ sG
abbrev srowstep:Stmt:=top 29
def sprowstep:Sp:=λ vs H Q _=>∃(wa ka:Addr) (ws:List Str) (kvs:List (Key × V)),vs=[.ref wa,.ref ka]/\H wa=some (.lst (ws.map V.str))/\lowW ws/\H ka=some (.dK kvs)/\knI kvs/\(rowO kvs ws=none->∀H',Same H H'->Q .non H')/\(∀cs,rowO kvs ws=some cs->∀H' p xs,Same H H'->H' p=some (.tup xs)->PCs H' cs xs->Q (.ref p) H')
theorem y2q:FnScope ["words", "known"] ["words", "known"] (defScope srowstep):=⟨rfl,rfl,rfl,by decide +kernel,rfl,by decide +kernel,by decide +kernel⟩
theorem y4g (F:Fun K "row_step" "row_step" srowstep f fd) (cisform:Callee P w K mg base CX0 (5) "is_form" ["word"] spisform) (cisname:Callee P w K mg base CX0 (5) "is_name" ["word"] spisname) (cstepof:Callee P w K mg base CX0 (5) "step_of" ["form", "words", "known"] spstepof) (zlen:mg "len" = none):FnOk P w K mg base CX0 (6) f fd ["words", "known"] (sprowstep):=by
 have sc:=y2q
 refine F.ok sc (λ vs H Q E h=>?_) (λ cdv A outer s H vs Q E hr h=>?_)
 ·obtain ⟨wa,ka,ws,kvs,rfl,_⟩:=h;rfl
 obtain ⟨wa,ka,ws,kvs,rfl,hw,lw,hka,kn,q1,q2⟩:=h
 refine ⟨_,(z0c (z1b (PW.pt (z3b (z0j z8y (z0s z0t (by rfl) zlen PySem.boot_len (z0a (pv 0) z0e)) z0f (z0q _)) (z3b (z0j y8c (z0y z0x (pv 0) z0f (λ _ _=>rfl)) z0l (z0q _)) (z2z (z4v (z2q (z0r cisform hr (by rfl) z1a (z0a (z0y z0x (pv 0) z0f (λ _ _=>rfl)) z0e)))))))) (z0g (z0k z1s)) z0n) (z0c (z1b (PW.pt (z3b (z4v (z2q (z0r cisname hr (by rfl) z1a (z0a (z0y z0x (pv 0) z0f (λ _ _=>rfl)) z0e)))) (z2z (x2r (x3a (hu1 hr) (z0y z0x (pv 0) z0f (λ _ _=>rfl)) (pv 1)) rfl)))) (z0g (z0k z1s)) z0n) (z0g (z0k (z0r cstepof hr (by rfl) z1a (z0a (z0y z0x (pv 0) z0f (λ _ _=>rfl)) (z0a (z1o z2n (pv 0) (z1x z0f) z1y) (z0a (pv 1) z0e)))))))),?_⟩
 wp_walk using tSeq,tIfS,tyS,inV,eqV,spisform,spisname,spstepof,rSlL
 refine ⟨_,.inl (.of hw),?_⟩
 rw [List.length_map]
 match ws,hw,lw,q1,q2 with
 | [],hw,lw,q1,q2=>rw [if_pos (by simp)];exact q1 rfl _ (Same.refl _)
 | [_],hw,lw,q1,q2=>rw [if_pos (by simp)];exact q1 rfl _ (Same.refl _)
 | [_,_],hw,lw,q1,q2=>rw [if_pos (by simp)];exact q1 rfl _ (Same.refl _)
 | a::e::k::rest,hw,lw,q1,q2 =>
  rw [if_neg (by rw [List.length_cons,List.length_cons,List.length_cons];omega)]
  have a0:atI ((a::e::k::rest).map V.str) 0=some (.str a):=z0i (j:=0) rfl
  have a1:atI ((a::e::k::rest).map V.str) 1=some (.str e):=z0i (j:=1) rfl
  have a2:atI ((a::e::k::rest).map V.str) 2=some (.str k):=z0i (j:=2) rfl
  refine ⟨_,hw,_,a1,rfl,?_⟩
  simp only [rowO] at q1 q2
  by_cases c1:e=Str.ofString "="
  ·rw [if_neg (λ z=>z (by rw [c1]))]
   refine ⟨_,hw,_,a2,k,rfl,?_⟩
   cases c2:(formsL.lookup k).isSome with
   | false =>
    rw [if_pos rfl]
    exact q1 (by rw [if_neg (λ z=>by rw [c2] at z;cases z.2.1)]) _ (Same.refl _)
   | true =>
    rw [if_neg (by decide)]
    refine ⟨_,hw,_,a0,a,rfl,lw.2 a List.mem_cons_self,λ H1 s1=>?_⟩
    cases c3:nmB a with
    | false =>
     rw [if_pos rfl]
     exact q1 (by rw [if_neg (λ z=>by rw [c3] at z;cases z.2.2.1)]) _ s1
    | true =>
     rw [if_neg (by decide)]
     refine ⟨_,s1 _ _ hw,_,a0,_,.inl ⟨_,.inr a,.inl (s1 _ _ hka),rfl,rfl⟩,?_⟩
     cases c4:(valV kvs (Sum.inr a:Key)).isSome with
     | true =>
      rw [if_pos rfl]
      exact q1 (by rw [if_neg (λ z=>by rw [c4] at z;cases z.2.2.2)]) _ s1
     | false =>
      rw [if_neg (by decide)]
      obtain ⟨n15,nk⟩:=y5r c2
      have cc:=And.intro c1 (And.intro c2 (And.intro c3 c4))
      rw [if_pos cc] at q1 q2
      refine ⟨_,s1 _ _ hw,_,a2,_,.of (s1 _ _ hw),λ p hp=>?_⟩
      rw [show cutV ((a::e::k::rest).map V.str) (some 3) none=rest.map V.str from x4y _ _ _ _]
      exact ⟨p,ka,formN k,by rw [nk],rfl,rfl,n15,rest,z0d,lw.tl.tl.tl,kvs,z0b hp _ _ _ (s1 _ _ hka),kn,λ z H2 s2=>q1 z _ (s1.trans ((z0b hp _).trans s2)),λ cs z H2 p2 xs s2 e2 pc=>q2 cs z _ p2 xs (s1.trans ((z0b hp _).trans s2)) e2 pc⟩
  ·rw [if_pos (λ z=>c1 (by cases z;rfl))]
   exact q1 (by rw [if_neg (λ z=>c1 z.1)]) _ (Same.refl _)
abbrev srowouts:Stmt:=top 30
def sprowouts:Sp:=λ vs H Q _=>∃(wa ka:Addr) (ws:List Str) (kvs:List (Key × V)),vs=[.ref wa,.ref ka]/\H wa=some (.lst (ws.map V.str))/\ws≠[]/\ws.length≤4000000/\H ka=some (.dK kvs)/\knI kvs/\(outsO kvs ws=none->∀H',Same H H'->Q .non H')/\(∀os,outsO kvs ws=some os->∀H' p,Same H H'->H' p=some (.tup os)->Q (.ref p) H')
theorem y2r:FnScope ["words", "known", "outs"] ["words", "known"] (defScope srowouts):=⟨rfl,rfl,rfl,by decide +kernel,rfl,by decide +kernel,by decide +kernel⟩
theorem y4h (F:Fun K "row_outs" "row_outs" srowouts f fd) (zlen:mg "len" = none) (ztuple:mg "tuple" = none) {tMOST_OUTS:Tok}(gMOST_OUTS:mg "MOST_OUTS" = some (.int 8 tMOST_OUTS)):FnOk P w K mg base CX0 (1) f fd ["words", "known"] (sprowouts):=by
 have sc:=y2r
 refine F.ok sc (λ vs H Q E h=>?_) (λ cdv A outer s H vs Q E hr h=>?_)
 ·obtain ⟨wa,ka,ws,kvs,rfl,_⟩:=h;rfl
 obtain ⟨wa,ka,ws,kvs,rfl,hw,ne,l5,hka,kn,q1,q2⟩:=h
 refine ⟨_,(z0c (z4w (own:=["word"]) (fv:=["known"]) (js:=[1]) sc.nd (i:=2) rfl (by first | exact Or.inl rfl | exact Or.inr rfl) (by first | exact Or.inl rfl | exact Or.inr rfl) rfl (z8t (z1o z2n (pv 0) (z1x z0f) z1y)) rfl (by decide) rfl (by decide) (by first | exact λ _ _ h=>h | exact z2y rfl | exact z2x rfl rfl | exact z2w rfl rfl rfl) (z3x (by rfl)) rfl (x2d (by first | exact ⟨rfl,.inl rfl,.inl rfl⟩ | exact ⟨rfl,.inl rfl,.inr rfl⟩)) (λ _ _ _ _=>(z1f (i:=0) (show (["word", "known"]:List Str).Nodup by decide +kernel) rfl (Or.inl rfl))) (λ _ _ _ _=>(y0c (hu1 hr) (pv 1) (pv 0) ⟨by rfl,by rfl,by rfl,by rfl⟩))) (z0c (z1b (PW.pt (z3b (z0j y8c (z0y z0x (pv 0) z0f (λ _ _=>rfl)) z0l (z0q _)) (z3b (z0j (y4c (hu1 hr)) z1s (pv 2) rfl) (z2z (z4v (z9z y1j y1j z0f (z0s z0t (by rfl) zlen PySem.boot_len (z0a (pv 2) z0e)) (z3d (v:=.int 8) (by rfl) gMOST_OUTS ⟨_,rfl⟩))))))) (z0g (z0k z1s)) z0n) (z0g (z0k (z1c z1k (by rfl) ztuple boot_tuple (z0a (pv 2) z0e)))))),?_⟩
 simp only [L2.start,List.length_cons,List.length_nil,List.replicate,List.cons_append,List.nil_append,Nat.reduceSub,Nat.reduceAdd,List.map_cons,List.map_nil]
 obtain ⟨o,rest,rfl⟩:∃o rest,ws=o::rest:=by cases ws with | nil=>exact absurd rfl ne | cons o rest=>exact ⟨o,rest,rfl⟩
 rw [List.length_cons] at l5
 refine z0h (λ σ H1=>∃l,σ=[some (.ref wa),some (.ref ka),some (.ref l)]/\Same H H1/\H1 l=some (.lst (rest.map λ w=>(valV kvs (Sum.inr w:Key)).getD .non))) ?_ (λ R hR=>?_)
 rotate_left
 ·wp_walk using tSeq,tIfS,tyS,inV,eqV,rSlL
  refine ⟨_,.of hw,λ p hp=>?_⟩
  rw [show cutV ((o::rest).map V.str) (some 1) none=rest.map V.str from x4z _ _]
  have hka1:=z0b hp (HO.lst (rest.map V.str)) _ _ hka
  refine CompL.mk (xs:=rest.map V.str) (.of z0d) (λ i ys σ G=>G=upd H p (HO.lst (rest.map V.str))/\ys=(rest.take i).map (λ w=>(valV kvs (Sum.inr w:Key)).getD .non)/\∃y,σ=[y,some (.ref ka)]) ⟨rfl,rfl,_,rfl⟩ (λ i ys σ G _ h=>by rw [h.1];exact .of z0d) (λ i x ys σ G ex h=>?_) (λ ys σ G h l hl=>?_)
  ·obtain ⟨rfl,rfl,y,rfl⟩:=h
   rw [List.getElem?_map] at ex
   obtain ⟨w,hw',rfl⟩:=Option.map_eq_some_iff.mp ex
   have il:=(List.getElem?_eq_some_iff.mp hw').1
   refine ⟨by rw [List.length_map,List.length_take];exact x1w (by omega),?_⟩
   wp_walk using tSeq,tIfS,tyS,inV,eqV
   exact ⟨.inl ⟨_,.inl hka1⟩,_,.inl ⟨_,.inr w,.inl hka1,rfl,rfl⟩,by rw [List.take_add_one,hw',List.map_append];rfl,_,rfl⟩
  ·obtain ⟨rfl,rfl,y,rfl⟩:=h
   rw [List.length_map,List.take_length]
   exact hR _ _ ⟨l,rfl,(z0b hp _).trans (z0b hl _),z0d⟩
 rintro σ1 G1 ⟨l,rfl,s1,hl⟩
 wp_walk using tSeq,tIfS,tyS
 simp only [outsO] at q1 q2
 refine ⟨_,s1 _ _ hw,_,z0i (j:=0) rfl,rfl,?_⟩
 by_cases c1:o=Str.ofString "out"
 ·rw [if_neg (λ z=>z (by rw [c1]))]
  refine ⟨_,hl,λ z hz=>.inl (by obtain ⟨w,_,rfl⟩:=List.mem_map.mp hz;exact kn.flat w),?_⟩
  have an:=kn.any rest
  cases ca:rest.all λ w=>(valV kvs (Sum.inr w:Key)).isSome with
  | false =>
   rw [ca,Bool.not_false] at an
   rw [if_pos an]
   exact q1 (by rw [if_neg (λ z=>by rw [ca] at z;cases z.2.2.2)]) _ s1
  | true =>
   rw [ca,Bool.not_true] at an
   rw [if_neg (by rw [an];decide)]
   refine ⟨_,.inl (.of hl),?_⟩
   rw [List.length_map]
   by_cases c2:1≤rest.length
   ·rw [if_pos (by omega)]
    by_cases c3:rest.length≤8
    ·rw [if_neg (by omega)]
     exact ⟨_,.inl ⟨.of hl,λ p hp=>q2 _ (by rw [if_pos ⟨c1,c2,c3,ca⟩]) _ _ (s1.trans (z0b hp _)) z0d⟩⟩
    ·rw [if_pos (by omega)]
     exact q1 (by rw [if_neg (λ z=>c3 z.2.2.1)]) _ s1
   ·rw [if_neg (by omega)]
    exact q1 (by rw [if_neg (λ z=>c2 z.2.1)]) _ s1
 ·rw [if_pos (λ z=>c1 (by cases z;rfl))]
  exact q1 (by rw [if_neg (λ z=>c1 z.1)]) _ s1
abbrev sread:Stmt:=top 31
theorem x2l:FnScope ["text", "rows", "known", "steps", "k", "words", "step", "outs"] ["text"] (defScope sread):=⟨rfl,rfl,rfl,by decide +kernel,rfl,by decide +kernel,by decide +kernel⟩
theorem x3d (F:Fun K "read" "read" sread f fd) {CBadText:Addr}(nBadText:PySem.W.nsIn K mainGlobals "BadText" = some (some (.ref CBadText))) (crowstep:Callee P w K mg base CX0 (8) "row_step" ["words", "known"] sprowstep) (crowouts:Callee P w K mg base CX0 (8) "row_outs" ["words", "known"] sprowouts) (zenumerate:mg "enumerate" = none) (zlen:mg "len" = none) (ztuple:mg "tuple" = none) {tMOST_STEPS:Tok}(gMOST_STEPS:mg "MOST_STEPS" = some (.int 40 tMOST_STEPS)) (gBadText:mg "BadText" = some (.ref CBadText)) {fI:Addr}{fdI:FuncData}(MBadText:MkX K CBadText fI [.type "ValueError",.type "Exception",.type "BaseException",.type "object"] "ValueError.__new__") (FBadText:FnOk P w K mg base CX0 7 fI fdI ["self", "text", "row"] (spinit K)) (bBadText:Binds K fdI ["self", "text", "row"] []) (aBS:AtX K CBadText) (n1:NoAttr K CBadText (Str.ofString "row")):FnOk P w K mg base (CX2 P w) (9) f fd ["text"] ((spreadX CBadText)):=by
 have sc:=x2l
 refine F.okX2 sc (λ vs H Q E h=>?_) (λ cdv A outer s H vs Q E hr h=>?_)
 ·obtain ⟨T,rfl,_⟩:=h;rfl
 obtain ⟨T,rfl,lt,q1,q2,q3⟩:=h
 refine ⟨_,(z0c (y0a (own:=["row"]) sc.nd (i:=1) rfl (by first | exact Or.inl rfl | exact Or.inr rfl) (by first | exact Or.inl rfl | exact Or.inr rfl) rfl (z8t (z2r PySem.F.plainAttrs_str PySem.F.slot_str_split PySem.F.type_str_split z3v (pv 0) (z0a z0l z0e))) (by decide) (by decide) rfl (by decide) (λ _ _ _ _=>(z1f (i:=0) (show (["row"]:List Str).Nodup by decide +kernel) rfl (Or.inl rfl))) (λ _ _ _ _=>(x2y (K:=K) rfl PySem.F.plainAttrs_str PySem.F.slot_str_split PySem.F.type_str_split z3v (pv 0) (z0a z0l z0e)))) (z0c (z0o (i:=2) sc.nd rfl (by first | exact Or.inl rfl | exact Or.inr rfl) y7z) (z0c (z0o (i:=3) sc.nd rfl (by first | exact Or.inl rfl | exact Or.inr rfl) (z1j z0e)) (z0c (z4m PassesOwn.leaving rfl (y7v (by rfl) zenumerate (z1o z2n (pv 1) z1y (z1x (y3t z6v z0f)))) (y3r (n:=2) (y0b rfl (z2l (z1f (i:=4) sc.nd rfl (Or.inl rfl)) (z2l (z1f (i:=5) sc.nd rfl (Or.inl rfl)) z6g)))) (z0c (z0o (i:=6) sc.nd rfl (by first | exact Or.inl rfl | exact Or.inr rfl) (z2v (z0j z8y (pv 4) (z3d (v:=.int 40) (by rfl) gMOST_STEPS ⟨_,rfl⟩) (z0q _)) (z0r crowstep hr (by rfl) z1a (z0a (pv 5) (z0a (pv 2) z0e))) z1s)) (z0c (z1b (z0j y0f (pv 6) z1s (z0q _)) (z0g (z7h PySem.F.excBase_ValueError rfl (by rfl) gBadText MBadText FBadText hr bBadText y3j (z0a z0l (z0a (z0w z1m (pv 4) z0f) z0e)))) z0n) (z0c (x0v (hu1 hr) (pv 2) (z0y z0x (pv 5) z0f (λ _ _=>rfl)) (pv 4) rfl) (z0g (z2h (z3s (pv 3) (pv 6)))))))) (z0c (z0o (i:=7) sc.nd rfl (by first | exact Or.inl rfl | exact Or.inr rfl) (z0r crowouts hr (by rfl) z1a (z0a (z0y z0x (pv 1) (y3t z6v z0f) (λ _ _=>rfl)) (z0a (pv 2) z0e)))) (z0c (z1b (z0j y0f (pv 7) z1s (z0q _)) (z0g (z7h PySem.F.excBase_ValueError rfl (by rfl) gBadText MBadText FBadText hr bBadText y3j (z0a z0l (z0a (z0s z0t (by rfl) zlen PySem.boot_len (z0a (pv 1) z0e)) z0e)))) z0n) (z0g (z0k (z1w (z0a (z1w (z0a (z1c z1k (by rfl) ztuple boot_tuple (z0a (pv 3) z0e)) (z0a (pv 7) z0e))) (z0a (z1c (z9j rfl) (by rfl) ztuple boot_tuple (z0a (pv 2) z0e)) z0e))))))))))),?_⟩
 simp only [L2.start,List.length_cons,List.length_nil,List.replicate,List.cons_append,List.nil_append,Nat.reduceSub,Nat.reduceAdd,List.map_cons,List.map_nil]
 obtain ⟨rl,lw,rn⟩:=y8q lt
 have tl:T.length≤4000000:=by have:=lt.1;omega
 refine z0h (λ σ H1=>∃ro ps,σ=[some (.str T),some (.ref ro),none,none,none,none,none,none]/\Same H H1/\H1 ro=some (.lst (ps.map V.ref))/\RowsAt H1 (rowsT T) ps) ?_ (λ R hR=>?_)
 rotate_left
 ·wp_walk using tSeq,tIfS,tyS,inV,eqV
  refine ⟨10,z9d,by decide,tl,λ l hl=>?_⟩
  refine CompL.mk (xs:=(splitL 10 T.cps.toList).map (λ w=>V.str (strL w))) (.of z0d) (λ i ys σ G=>Same (upd H l (HO.lst ((splitL 10 T.cps.toList).map (λ w=>V.str (strL w))))) G/\(∃ps,ys=ps.map V.ref/\RowsAt G ((rowsT T).take i) ps)/\∃y,σ=[y]) ⟨Same.refl _,⟨[],rfl,rfl,λ i ws e=>by simp at e⟩,_,rfl⟩ (λ i ys σ G _ h=>.of (h.1 _ _ z0d)) (λ i x ys σ G ex h=>?_) (λ ys σ G h p hp=>?_)
  ·obtain ⟨sG,⟨ps,rfl,ra⟩,y,rfl⟩:=h
   rw [List.getElem?_map] at ex
   obtain ⟨r,hr',rfl⟩:=Option.map_eq_some_iff.mp ex
   have r5:=rl r (List.mem_of_getElem? hr')
   have ra1:=ra.1
   rw [List.length_take] at ra1
   refine ⟨by rw [List.length_map,ra1];exact x1w (by omega),?_⟩
   wp_walk using tSeq,tIfS,tyS,inV,eqV
   refine ⟨32,y1c,by decide,by omega,λ l2 hl2=>⟨sG.trans (z0b hl2 _),⟨ps++[l2],by rw [List.map_append];rfl,?_⟩,_,rfl⟩⟩
   have er:(rowsT T)[i]?=some ((splitL 32 (strL r).cps.toList).map strL):=by unfold rowsT;rw [List.getElem?_map,hr'];rfl
   rw [List.take_add_one,er]
   exact (ra.same (z0b hl2 _)).snoc (by rw [z0d,List.map_map];rfl)
  ·obtain ⟨sG,⟨ps,rfl,ra⟩,y,rfl⟩:=h
   rw [List.length_map,List.take_of_length_le (by unfold rowsT;rw [List.length_map];exact Nat.le_refl _)] at ra
   exact hR _ _ ⟨p,ps,rfl,(z0b hl _).trans (sG.trans (z0b hp _)),z0d,ra.same (z0b hp _)⟩
 rintro σ1 H1 ⟨ro,ps,rfl,s1,hro,rws⟩
 refine z0h (λ σ H2=>∃ka,σ=[some (.str T),some (.ref ro),some (.ref ka),none,none,none,none,none]/\Same H1 H2/\H1 ka=none/\H2 ka=some (.dK [])) ?_ (λ R hR=>?_)
 rotate_left
 ·wp_walk using tSeq,tIfS,tyS,inV,eqV
  exact λ p hp=>hR _ _ ⟨p,rfl,z0b hp _,hp,z0d⟩
 rintro σ2 H2 ⟨ka,rfl,s2,ka0,h2⟩
 refine z0h (λ σ H3=>∃sa,σ=[some (.str T),some (.ref ro),some (.ref ka),some (.ref sa),none,none,none,none]/\Same H2 H3/\H2 sa=none/\H3 sa=some (.lst [])) ?_ (λ R hR=>?_)
 rotate_left
 ·wp_walk using tSeq,tIfS,tyS,inV,eqV
  exact ⟨small (by decide),λ p hp=>hR _ _ ⟨p,rfl,z0b hp _,hp,z0d⟩⟩
 rintro σ3 H3 ⟨sa,rfl,s3,sa0,h3⟩
 have sa1:H1 sa=none:=s2.free sa0
 have ksa:ka≠sa:=λ z=>by rw [z,sa0] at h2;cases h2
 have same:∀ {G:Hp}{a:Addr},H1 a=none->Same H1 G->∀o,Same H1 (upd G a o):=λ {G a} a0 sg o b u e=>by rw [z0m (λ z=>by rw [z,a0] at e;cases e)];exact sg _ _ e
 have pl:=rws.1
 have w1:=z7f T
 have wn:=y7t T
 generalize rowsT T=W at *
 refine z0h (λ σ G=>∃(y4 y5 y6:Option V) (as:List Addr) (S:List (Key × V) × List (List PC)),σ=[some (.str T),some (.ref ro),some (.ref ka),some (.ref sa),y4,y5,y6,none]/\Same H1 G/\rdS W (W.length - 1)=some S/\G ka=some (.dK S.1)/\G sa=some (.lst (as.map V.ref))/\StsAt G S.2 as) ?_ (λ R hR=>?_)
 rotate_left
 ·wp_walk using tSeq,tIfS,tyS,inV,eqV,rSlL
  refine ⟨_,.of ((s2.trans s3) _ _ hro),λ e he=>?_⟩
  rw [x4g,List.length_map,pl,← List.map_take]
  have tkl:(ps.take (W.length - 1)).length=W.length - 1:=by rw [List.length_take];omega
  have e1:H1 e=none:=(s2.trans s3).free he
  have eka:e≠ka:=λ z=>by rw [z,s3 _ _ h2] at he;cases he
  have esa:e≠sa:=λ z=>by rw [z,h3] at he;cases he
  obtain ⟨J,hJ⟩:∃J:Nat->L2.St->Hp->Prop,J=(λ i σ G=>∃(y4 y5 y6:Option V) (as:List Addr) (S:List (Key × V) × List (List PC)),σ=[some (.str T),some (.ref ro),some (.ref ka),some (.ref sa),y4,y5,y6,none]/\Same H1 G/\G e=some (.lst ((ps.take (W.length - 1)).map V.ref))/\rdS W i=some S/\G ka=some (.dK S.1)/\G sa=some (.lst (as.map V.ref))/\StsAt G S.2 as):=⟨_,rfl⟩
  refine LoopEL.mk (xs:=(ps.take (W.length - 1)).map V.ref) (.of z0d) J ?_ (λ i σ G _ h=>by rw [hJ] at h;obtain ⟨_,_,_,_,_,_,_,ge,_⟩:=h;exact .of ge) (λ i x σ G TT ex h hT=>?_) (λ σ G h=>?_)
  ·rw [hJ]
   exact ⟨_,_,_,[],([],[]),rfl,(s2.trans s3).trans (z0b he _),z0d,rfl,by rw [z0m eka.symm];exact s3 _ _ h2,by rw [z0m esa.symm];exact h3,⟨rfl,λ i d e=>by simp at e⟩⟩
  ·rw [hJ] at h
   obtain ⟨y4,y5,y6,as,S,rfl,sG,ge,rs,gk,gs,sd⟩:=h
   have hi:i < W.length - 1:=by have:=(List.getElem?_eq_some_iff.mp ex).1;rw [List.length_map] at this;omega
   obtain ⟨r,er⟩:∃r,W[i]?=some r:=⟨_,List.getElem?_eq_getElem (by omega)⟩
   obtain ⟨wa,ew,hwa⟩:=rws.2 i r er
   rw [List.getElem?_map,List.getElem?_take_of_lt hi,ew] at ex
   cases (Option.some.inj ex)
   obtain ⟨kn,kl,sl⟩:=z5t rs
   have lwr:=lw r (List.mem_of_getElem? er)
   have tT:=z0b hT (HO.tup [V.int (i:Int),V.ref wa])
   have stp:∀x,rowO S.1 r=x->i < 40->rdS W (i+1)=x.map λ cs=>(putK S.1 (Sum.inr (r.headD ""):Key) (.int (i:Int)),S.2++[cs]):=λ x hx c=>by
    rw [rdS,rs,Option.bind_some,er,Option.bind_some,if_pos c,hx]
   have st40:¬i < 40->rdS W (i+1)=none:=λ c=>by rw [rdS,rs,Option.bind_some,er,Option.bind_some,if_neg c]
   wp_walk using tyS,inV,eqV
   refine z0h (λ σ G3=>Same G G3/\((∃pn xs cs,σ=[some (.str T),some (.ref ro),some (.ref ka),some (.ref sa),some (.int (i:Int)),some (.ref wa),some (.ref pn),none]/\i < 40/\rowO S.1 r=some cs/\G3 pn=some (.tup xs)/\PCs G3 cs xs)\/(σ=[some (.str T),some (.ref ro),some (.ref ka),some (.ref sa),some (.int (i:Int)),some (.ref wa),some .non,none]/\rdS W (i+1)=none))) ?_ (λ R hR=>?_)
   rotate_left
   ·wp_walk using tSeq,tIfS,tyS,inV,eqV,sprowstep
    by_cases c40:(i:Int) < 40
    ·rw [if_pos c40]
     have c41:i < 40:=by omega
     cases rc:rowO S.1 r with
     | none=>exact ⟨r,tT _ _ (sG _ _ hwa),lwr,S.1,tT _ _ gk,kn,λ _ G3 t3=>hR _ _ ⟨tT.trans t3,.inr ⟨rfl,stp _ rc c41⟩⟩,λ cs z=>by rw [rc] at z;cases z⟩
     | some cs=>exact ⟨r,tT _ _ (sG _ _ hwa),lwr,S.1,tT _ _ gk,kn,λ z=>(by rw [rc] at z;cases z),λ cs' z G3 pn xs t3 e3 pc=>hR _ _ ⟨tT.trans t3,.inl ⟨pn,xs,cs',rfl,c41,z,e3,pc⟩⟩⟩
    ·rw [if_neg c40]
     exact hR _ _ ⟨tT,.inr ⟨rfl,st40 (by omega)⟩⟩
   rintro σa G3 ⟨t3,⟨pn,xs,cs,rfl,c40,rc,hpn,pc⟩ | ⟨rfl,nb⟩⟩
   ·wp_walk using tSeq,tIfS,tyS,inV,eqV
    rw [if_neg (by intro z;cases z)]
    obtain ⟨nw,a,r',rfl⟩:=z6f rc
    have gk3:=t3 _ _ gk
    have gs3:=t3 _ _ gs
    refine ⟨_,t3 _ _ (sG _ _ hwa),_,z0i (j:=0) rfl,_,.inl ⟨_,.inr a,gk3,rfl,by rw [kl];exact z0z (by omega),rfl⟩,?_⟩
    have hs4:upd G3 ka (HO.dK (putK S.1 (Sum.inr a:Key) (.int (i:Int)))) sa=some (HO.lst (as.map V.ref)):=by rw [z0m ksa.symm];exact gs3
    refine ⟨⟨_,hs4⟩,_,hs4,by rw [List.length_map,sd.1,sl];exact z0z (by omega),?_⟩
    rw [hJ]
    refine ⟨_,_,_,as++[pn],_,rfl,same sa1 (same ka0 (sG.trans t3) _) _,by rw [z0m esa,z0m eka];exact t3 _ _ ge,stp _ rc c40,by rw [z0m ksa];exact z0d,by rw [z0d,List.map_append];rfl,?_⟩
    exact (((sd.mono λ a ys h=>t3 _ _ h).snoc hpn pc).mono (x2g gk3 (by intro xs z;cases z))).mono (x2g hs4 (by intro xs z;cases z))
   ·wp_walk using tSeq,tIfS,tyS,inV,eqV,spinit
    exact ⟨small (by decide),λ a ha=>⟨CBadText,rfl,MBadText.cls,aBS,n1,λ dx H' hd ne e1 e2 e3=>⟨dx,e1,q1 i S (by omega) rs nb _ dx (x2o (s1.trans (sG.trans t3)) ha hd ne e3) (by rw [z7g ne];exact e2)⟩⟩⟩
  ·rw [hJ] at h
   obtain ⟨y4,y5,y6,as,S,rfl,sG,ge,rs,gk,gs,sd⟩:=h
   rw [List.length_map,tkl] at rs
   exact hR _ _ ⟨y4,y5,y6,as,S,rfl,sG,rs,gk,gs,sd⟩
 rintro σ4 G ⟨y4,y5,y6,as,S,rfl,sG,rs,gk,gs,sd⟩
 obtain ⟨kn,kl,sl⟩:=z5t rs
 obtain ⟨r,er⟩:∃r,W[W.length - 1]?=some r:=⟨_,List.getElem?_eq_getElem (by omega)⟩
 have gl:W.getLastD []=r:=by rw [List.getLastD_eq_getLast?,List.getLast?_eq_getElem?,er];rfl
 rw [gl] at q2 q3
 obtain ⟨wl,el,hwl⟩:=rws.2 _ r er
 have rme:=List.mem_of_getElem? er
 refine z0h (λ σ G2=>Same G G2/\((∃oa os,σ=[some (.str T),some (.ref ro),some (.ref ka),some (.ref sa),y4,y5,y6,some (.ref oa)]/\outsO S.1 r=some os/\G2 oa=some (.tup os))\/(σ=[some (.str T),some (.ref ro),some (.ref ka),some (.ref sa),y4,y5,y6,some .non]/\outsO S.1 r=none))) ?_ (λ R hR=>?_)
 rotate_left
 ·wp_walk using tSeq,tIfS,tyS,inV,eqV,sprowouts
  refine ⟨_,sG _ _ hro,_,x5b (n:=W.length - 1) (by rw [List.length_map,pl];omega) (by rw [List.getElem?_map,el];rfl),?_⟩
  exact ⟨wl,rfl,r,sG _ _ hwl,wn r rme,(lw r rme).1,S.1,gk,kn,λ z G2 t2=>hR _ _ ⟨t2,.inr ⟨rfl,z⟩⟩,λ os z G2 p t2 e2=>hR _ _ ⟨t2,.inl ⟨p,os,rfl,z,e2⟩⟩⟩
 rintro σ5 G2 ⟨t5,⟨oa,os,rfl,ho,hoa⟩ | ⟨rfl,ho⟩⟩
 ·wp_walk using tSeq,tIfS,tyS,inV,eqV
  rw [if_neg (by intro z;cases z)]
  refine ⟨_,.inl ⟨.of (t5 _ _ gs),λ l hl=>⟨small (by decide),λ p1 hp1=>⟨_,z0b hp1 _ _ _ (z0b hl _ _ _ (t5 _ _ gk)),λ l1 hl1=>⟨small (by decide),λ p2 hp2=>?_⟩⟩⟩⟩⟩
  have s8:=(z0b hl1 (HO.tup (S.1.map λ kv=>kV kv.1))).trans (z0b hp2 (HO.tup [V.ref p1,V.ref l1]))
  have s7:=(z0b hp1 (HO.tup [V.ref l,V.ref oa])).trans s8
  have s6:=(z0b hl (HO.tup (as.map V.ref))).trans s7
  exact q3 S os rs ho _ p2 p1 l1 l oa as (s1.trans (sG.trans (t5.trans s6))) z0d (s8 _ _ z0d) (s7 _ _ z0d) (sd.mono λ a ys h=>(t5.trans s6) _ _ h) (s6 _ _ hoa) (z0b hp2 _ _ _ z0d)
 ·wp_walk using tSeq,tIfS,tyS,inV,eqV,spinit
  exact ⟨_,.inl (.of (t5 _ _ (sG _ _ hro))),small (by decide),λ a ha=>⟨CBadText,rfl,MBadText.cls,aBS,n1,λ dx H' hd ne e1 e2 e3=>⟨dx,e1,q2 S rs ho _ dx (x2o (s1.trans (sG.trans t5)) ha hd ne e3) (by rw [z7g ne,e2,List.length_map,pl])⟩⟩⟩
abbrev spartwords:Stmt:=top 14
def sppartwords:Sp:=λ vs H Q _=>∃(kind:Str) (part:V) (na:Addr) (nm ws:List Str),vs=[.str kind,part,.ref na]/\NmAt H na nm/\PwOk H nm kind part ws/\∀H' p,Same H H'->H p=none->H' p=some (.lst (ws.map V.str))->Q (.ref p) H'
theorem z8m:FnScope ["kind", "part", "names"] ["kind", "part", "names"] (defScope spartwords):=⟨rfl,rfl,rfl,by decide +kernel,rfl,by decide +kernel,by decide +kernel⟩
theorem z9a (F:Fun K "part_words" "part_words" spartwords f fd) (zstr:mg "str" = none):FnOk P w K mg base CX0 (1) f fd ["kind", "part", "names"] (sppartwords):=by
 have sc:=z8m
 refine F.ok sc (λ vs H Q E h=>?_) (λ cdv A outer s H vs Q E hr h=>?_)
 ·obtain ⟨kind,part,na,nm,ws,rfl,_⟩:=h;rfl
 obtain ⟨kind,part,na,nm,ws,rfl,hn,pw,q⟩:=h
 refine ⟨_,(z0c (z1b (z0j z1i (pv 0) z0l (z0q _)) (z0g (z0k (z1j (z0a (z0y y5h (pv 2) (pv 1) (λ _ _=>rfl)) z0e)))) z0n) (z0c (z1b (z0j z1i (pv 0) z0l (z0q _)) (z0g (z0k (y0d (own:=["number"]) rfl (z5u (pv 1)) (by decide) (by decide) rfl (by decide) (λ _ _ _ _=>(z1f (i:=0) (show (["number"]:List Str).Nodup by decide +kernel) rfl (Or.inl rfl))) (λ _ _ _ _=>(z1c z3i (by rfl) zstr boot_str (z0a (pv 0) z0e)))))) z0n) (z0g (z0k (z1j (z0a (z1c y6o (by rfl) zstr boot_str (z0a (pv 1) z0e)) z0e)))))),?_⟩
 rcases pw with ⟨rfl,u,x,rfl,hx,rfl⟩ | ⟨rfl,a,row,rfl,ha,sm,rfl⟩ | ⟨n1,n2,pw⟩
 ·wp_walk using tSeq,tIfS,tyS,inV,eqV
  have e:atI (nm.map V.str) (u:Int)=some (.str x):=z0i (by rw [List.getElem?_map,hx];rfl)
  have hn:=hn
  unfold NmAt at hn
  exact ⟨_,hn,_,e,small (by decide),λ p hp=>q _ _ (z0b hp _) hp z0d⟩
 ·wp_walk using tSeq,tIfS,tyS,inV,eqV
  rw [if_neg (by decide +kernel)]
  refine CompT.mk (xs:=row.map V.int) (.of ha) (λ i ys σ H2=>H2=H/\ys=((row.take i).map sI).map V.str/\∃y,σ=[y]) ⟨rfl,rfl,_,rfl⟩ (λ i ys σ H2 _ h=>by rw [h.1];exact .of ha) (λ i x ys σ H2 e h=>?_) (λ ys σ H2 h p2 hp2=>?_)
  ·obtain ⟨rfl,rfl,y,rfl⟩:=h
   obtain ⟨n,hn2,rfl⟩:=x0f e
   have b:=sm.2 n (List.mem_of_getElem? hn2)
   refine ⟨by rw [List.length_map,List.length_map,List.length_take];have:=sm.1;exact z0z (by omega),?_⟩
   wp_walk using tSeq,tIfS,tyS,inV,eqV
   exact ⟨z7p (by omega),by rw [List.take_add_one,hn2,List.map_append,List.map_append];rfl,_,rfl⟩
  ·obtain ⟨rfl,rfl,y,rfl⟩:=h
   rw [z3o,List.take_length]
   exact q _ _ (z0b hp2 _) hp2 z0d
 ·wp_walk using tSeq,tIfS,tyS,inV,eqV
  rw [if_neg n1,if_neg n2]
  rcases pw with ⟨n,rfl,b,rfl⟩ | ⟨t,rfl,b,rfl⟩
  ·exact ⟨_,.inl ⟨n,rfl,z7p b,rfl⟩,small (by decide),λ p hp=>q _ _ (z0b hp _) hp z0d⟩
  ·exact ⟨_,.inr rfl,small (by decide),λ p hp=>q _ _ (z0b hp _) hp z0d⟩
abbrev ssteprow:Stmt:=top 15
def spsteprow:Sp:=λ vs H Q _=>∃(name:Str) (a na:Addr) (cs:List PC) (xs:List V) (nm:List Str) (kd:Nat) (parts:List (List Str)),vs=[.str name,.ref a,.ref na]/\H a=some (.tup xs)/\PCs H cs xs/\WrOk nm cs kd parts/\NmAt H na nm/\nmOk nm/\name.length≤20/\∀H',Same H H'->Q (.str (Builtin.Str.glued " " ([name, "=",kindS kd]++parts.flatten))) H'
theorem y2o:FnScope ["name", "step", "names", "words", "kind", "place"] ["name", "step", "names"] (defScope ssteprow):=⟨rfl,rfl,rfl,by decide +kernel,rfl,by decide +kernel,by decide +kernel⟩
theorem y4e (F:Fun K "step_row" "step_row" ssteprow f fd) (cpartsof:Callee P w K mg base CX0 (1) "parts_of" ["form"] (sppartsof K)) (cpartwords:Callee P w K mg base CX0 (1) "part_words" ["kind", "part", "names"] sppartwords):FnOk P w K mg base CX0 (2) f fd ["name", "step", "names"] (spsteprow):=by
 have sc:=y2o
 refine F.ok sc (λ vs H Q E h=>?_) (λ cdv A outer s H vs Q E hr h=>?_)
 ·obtain ⟨name,a,na,cs,xs,nm,kd,parts,rfl,_⟩:=h;rfl
 obtain ⟨name,a,na,cs,xs,nm,kd,parts,rfl,ha,pcs,ok,hn,no,nl,q⟩:=h
 refine ⟨_,(z0c (z0o (i:=3) sc.nd rfl (by first | exact Or.inl rfl | exact Or.inr rfl) (z1j (z0a (pv 0) (z0a z0l (z0a (z0y z0u (pv 1) z0f (λ _ _=>rfl)) z0e))))) (z0c (z4m PassesOwn.never rfl (z5u (z0r cpartsof hr (by rfl) z1a (z0a (z0y z0u (pv 1) z0f (λ _ _=>rfl)) z0e))) (y3q (K:=K) (n:=2) rfl (y0b rfl (z2l (z1f (i:=4) sc.nd rfl (Or.inl rfl)) (z2l (z1f (i:=5) sc.nd rfl (Or.inl rfl)) z6g)))) (z0g (z2h (z2r PySem.F.plainAttrs_list PySem.F.slot_list_extend PySem.F.type_list_extend y4y (pv 3) (z0a (z0r cpartwords hr (by rfl) z1a (z0a (pv 4) (z0a (z0y z0u (pv 1) (pv 5) (λ _ _=>rfl)) (z0a (pv 2) z0e)))) z0e))))) (z0g (z0k (z2r PySem.F.plainAttrs_str PySem.F.slot_str_join PySem.F.type_str_join z1z z0l (z0a (pv 3) z0e)))))),?_⟩
 simp only [L2.start,List.length_cons,List.length_nil,List.replicate,List.cons_append,List.nil_append,Nat.reduceSub,Nat.reduceAdd,List.map_cons,List.map_nil]
 have hd:xs[0]?=some (.str (kindS kd)):=by obtain ⟨x,e,_,rfl⟩:=pcs.get ok.2.1;exact e
 refine z0h (λ σ H1=>∃l,σ=[some (.str name),some (.ref a),some (.ref na),some (.ref l),none,none]/\H l=none/\Same H H1/\H1 l=some (.lst (([name, "=",kindS kd]:List Str).map V.str))) ?_ (λ R hR=>?_)
 rotate_left
 ·wp_walk using tSeq,tIfS,tyS,inV,eqV
  exact ⟨_,ha,_,z0i hd,small (by decide),λ p hp=>hR _ _ ⟨p,rfl,hp,z0b hp _,z0d⟩⟩
 rintro σ1 H1 ⟨l,rfl,hl0,s1,hl⟩
 refine z0h (λ σ H2=>∃y4 y5,σ=[some (.str name),some (.ref a),some (.ref na),some (.ref l),y4,y5]/\Same H H2/\H2 l=some (.lst ((([name, "=",kindS kd]:List Str)++parts.flatten).map V.str))) ?_ (λ R hR=>?_)
 rotate_left
 ·wp_walk using tSeq,tIfS,tyS,inV,eqV,sppartsof
  refine ⟨_,s1 _ _ ha,_,z0i hd,kd,ok.1,rfl,λ pa its kt it=>?_⟩
  obtain ⟨l3,at3⟩:=z6o it
  refine LoopT.mk (xs:=its) kt.sq (λ i σ H2=>∃y4 y5,σ=[some (.str name),some (.ref a),some (.ref na),some (.ref l),y4,y5]/\Same H H2/\H2 l=some (.lst ((([name, "=",kindS kd]:List Str)++(parts.take i).flatten).map V.str))) ⟨_,_,rfl,s1,by rw [hl];simp⟩ (λ i σ H2 _ h=>kt.sq) (λ i x σ H2 e h=>?_) (λ σ H2 h=>?_)
  ·obtain ⟨y4,y5,rfl,s2,h2⟩:=h
   obtain ⟨f,b,ef,rfl,kb⟩:=at3 e
   obtain ⟨c,ws,e1,e2,pw⟩:=ok.2.2.2 i f ef
   obtain ⟨x,ex,pa⟩:=pcs.get e1
   have il:=(List.getElem?_eq_some_iff.mp ef).1
   have l5:=z2i (i:=kd)
   have rng:=z2s ⟨kd,ok.1⟩ ⟨i,by omega⟩ il
   rw [show ((formsL.getD (⟨kd,ok.1⟩:Fin 15).val ("",[])).2.getD (⟨i,by omega⟩:Fin 5).val ("",0))=f from z3h ef] at rng
   have ax:atI xs f.2=some x:=by rw [show f.2=((f.2.toNat:Nat):Int) by have:=rng.1;omega];exact z0i ex
   wp_walk using tSeq,tIfS,tyS,inV,eqV,sppartwords
   refine ⟨_,kb.sq,rfl,_,_,rfl,_,_,rfl,rfl,.inl ⟨_,.of h2⟩,_,f.2,rfl,s2 _ _ ha,x,ax,f.1,rfl,nm,hn.same s2,ws,pw.at (pa.mono λ a ys h=>s2 _ _ h),λ H3 p s3 hp h3=>?_⟩
   have few:=ok.few no i
   have few2:=(pw.len no).1
   refine ⟨_,s3 _ _ h2,_,h3,by simp only [List.length_map,List.length_append,List.length_cons,List.length_nil];exact small (by omega),λ b' o' e'=>?_,?_⟩
   ·rw [z0m (λ z=>by rw [z,hl0] at e';cases e')];exact (s2.trans s3) _ _ e'
   ·rw [z7y e2,List.map_append,List.map_append,List.append_assoc];rfl
  ·obtain ⟨y4,y5,rfl,s2,h2⟩:=h
   rw [l3,← ok.2.2.1,List.take_length] at h2
   exact hR _ _ ⟨y4,y5,rfl,s2,h2⟩
 rintro σ2 H2 ⟨y4,y5,rfl,s2,h2⟩
 wp_walk using tSeq,tIfS,tyS,inV,eqV
 exact ⟨_,.of h2,Nat.le_trans (ok.tot no (by omega) (by decide +kernel) (z3w ok.1)) (by decide),q _ s2⟩
abbrev swritten:Stmt:=top 16
def spwritten:Sp:=λ vs H Q _=>∃(p na st oa:Addr) (ps:List Addr) (sts:List (List PC)) (os:List V) (nm:List Str) (rws:List (List Str)) (ows:List Str),vs=[.ref p,.ref na]/\H p=some (.tup [.ref st,.ref oa])/\H st=some (.tup (ps.map V.ref))/\StsAt H sts ps/\H oa=some (.tup os)/\H na=some (.tup (nm.map V.str))/\WrAll nm sts rws os ows/\∀H',Same H H'->Q (.str (Builtin.Str.glued "\n" ((rws++[("out" : Str)::ows]).map (Builtin.Str.glued " ")))) H'
theorem y2n:FnScope ["program", "names", "steps", "called", "rows"] ["program", "names"] (defScope swritten):=⟨rfl,rfl,rfl,by decide +kernel,rfl,by decide +kernel,by decide +kernel⟩
theorem y4d {dV:Addr}(F:FunD K "written" "written" swritten dV #[.none] f fd) (csteprow:Callee P w K mg base CX0 (2) "step_row" ["name", "step", "names"] spsteprow) (zzip:mg "zip" = none):FnOk P w K mg base CX0 (3) f fd ["program", "names"] (spwritten):=by
 have sc:=y2n
 refine F.ok sc (λ vs H Q E h=>?_) (λ cdv A outer s H vs Q E hr h=>?_)
 ·obtain ⟨p,na,st,oa,ps,sts,os,nm,rws,ows,rfl,_⟩:=h;rfl
 obtain ⟨p,na,st,oa,ps,sts,os,nm,rws,ows,rfl,hp,hst,sd,hou,hna,wr,q⟩:=h
 refine ⟨_,(z0c (z0o (i:=2) sc.nd rfl (by first | exact Or.inl rfl | exact Or.inr rfl) (z0y z0u (pv 0) z0f (λ _ _=>rfl))) (z0c (z0o (i:=3) sc.nd rfl (by first | exact Or.inl rfl | exact Or.inr rfl) (z2v (z0j y0f (pv 1) z1s (z0q _)) y7x (pv 1))) (z0c (z4w (own:=["name", "step"]) (fv:=["called"]) (js:=[3]) sc.nd (i:=4) rfl (by first | exact Or.inl rfl | exact Or.inr rfl) (by first | exact Or.inl rfl | exact Or.inr rfl) rfl (x2t (by rfl) zzip (z0a (pv 3) (z0a (pv 2) z0e))) rfl (by decide) rfl (by decide) (by first | exact λ _ _ h=>h | exact z2y rfl | exact z2x rfl rfl | exact z2w rfl rfl rfl) (z3x (by rfl)) rfl (x2d (by first | exact ⟨rfl,.inl rfl,.inl rfl⟩ | exact ⟨rfl,.inl rfl,.inr rfl⟩)) (λ _ _ _ _=>(y3r (n:=2) (y0b rfl (z2l (z1f (i:=0) (show (["name", "step", "called"]:List Str).Nodup by decide +kernel) rfl (Or.inl rfl)) (z2l (z1f (i:=1) (show (["name", "step", "called"]:List Str).Nodup by decide +kernel) rfl (Or.inl rfl)) z6g))))) (λ _ _ _ _=>(z0r csteprow hr (by rfl) z1a (z0a (pv 0) (z0a (pv 1) (z0a (pv 2) z0e)))))) (z0c (z2h (z3s (pv 4) (z2r PySem.F.plainAttrs_str PySem.F.slot_str_join PySem.F.type_str_join z1z z0l (z0a (z0w z3u (z1j (z0a z0l z0e)) (z4d (own:=["out"]) (fv:=["called"]) (js:=[3]) rfl (z5u (z0y z0u (pv 0) z0f (λ _ _=>rfl))) rfl (by decide) rfl (by decide) (by first | exact λ _ _ h=>h | exact z2y rfl | exact z2x rfl rfl | exact z2w rfl rfl rfl) (z3x (by rfl)) rfl (x2d (by first | exact ⟨rfl,.inl rfl,.inl rfl⟩ | exact ⟨rfl,.inl rfl,.inr rfl⟩)) (λ _ _ _ _=>(z1f (i:=0) (show (["out", "called"]:List Str).Nodup by decide +kernel) rfl (Or.inl rfl))) (λ _ _ _ _=>(z0y z0u (pv 1) (pv 0) (λ _ _=>rfl))))) z0e)))) (z0g (z0k (z2r PySem.F.plainAttrs_str PySem.F.slot_str_join PySem.F.type_str_join z1z z0l (z0a (pv 4) z0e)))))))),?_⟩
 simp only [L2.start,List.length_cons,List.length_nil,List.replicate,List.cons_append,List.nil_append,Nat.reduceSub,Nat.reduceAdd,List.map_cons,List.map_nil]
 obtain ⟨nl,rl,no,o8,ol,ob,rk⟩:=id wr
 have n40:=no.1
 have psl:=sd.1
 refine z0h (λ σ H1=>H1=H/\σ=[some (.ref p),some (.ref na),some (.ref st),none,none]) ?_ (λ R hR=>?_)
 rotate_left
 ·wp_walk using tSeq,tIfS,tyS,inV,eqV
  exact ⟨_,hp,_,z0i (j:=0) rfl,hR _ _ ⟨rfl,rfl⟩⟩
 rintro σ1 H1 ⟨rfl,rfl⟩
 refine z0h (λ σ H2=>σ=[some (.ref p),some (.ref na),some (.ref st),some (.ref na),none]/\H2=H1) ?_ (λ R hR=>?_)
 rotate_left
 ·wp_walk using tSeq,tIfS,tyS,inV,eqV
  rw [if_neg (by intro z;cases z)]
  exact hR _ _ ⟨rfl,rfl⟩
 rintro σ2 H2 ⟨rfl,rfl⟩
 refine z0h (λ σ H3=>∃l,σ=[some (.ref p),some (.ref na),some (.ref st),some (.ref na),some (.ref l)]/\Same H2 H3/\H2 l=none/\H3 l=some (.lst ((rws.map (Builtin.Str.glued " ")).map V.str))) ?_ (λ R hR=>?_)
 rotate_left
 ·wp_walk using tSeq,tIfS,tyS,inV,eqV
  refine CompZ.mk (xs:=nm.map V.str) (ys:=ps.map V.ref) sts.length (by rw [List.length_map,List.length_map];omega) (.of hna) (.of hst) (λ i zs σ G=>Same H2 G/\i≤sts.length/\zs=((rws.take i).map (Builtin.Str.glued " ")).map V.str/\∃y0 y1,σ=[y0,y1,some (.ref na)]) ⟨Same.refl _,Nat.zero_le _,rfl,_,_,rfl⟩ (λ i zs σ G _ h=>⟨.of (h.1 _ _ hna),.of (h.1 _ _ hst)⟩) (λ i x y zs σ G T hi ex ey h hT=>?_) (λ zs σ G h p2 hp2=>?_) (λ i zs σ G h=>by rw [h.2.2.1,List.length_map,List.length_map,List.length_take];exact z0z (by have:=h.2.1;omega))
  ·obtain ⟨sG,ii,rfl,y0,y1,rfl⟩:=h
   refine ⟨by rw [List.length_map,List.length_map,List.length_take];exact z0z (by omega),?_⟩
   obtain ⟨kd,parts,wk,er⟩:=rk i _ (List.getElem?_eq_getElem hi)
   obtain ⟨b,xs,eb,hb,pc⟩:=sd.2 i _ (List.getElem?_eq_getElem hi)
   rw [List.getElem?_map,z8h (by omega)] at ex
   rw [List.getElem?_map,eb] at ey
   cases (Option.some.inj ex)
   cases (Option.some.inj ey)
   have nb:=no.2 (nm.getD i "") (List.mem_of_getElem? (z8h (by omega)))
   have sT:=sG.trans (z0b hT (HO.tup [V.str (nm.getD i ""),V.ref b]))
   wp_walk using tSeq,tIfS,tyS,inV,eqV,spsteprow
   exact ⟨_,_,sT _ _ hb,pc.mono (λ a ys h=>sT _ _ h),nm,⟨kd,parts,wk,.inr (sT _ _ hna),no,nb,λ G2 s5=>⟨sT.trans s5,hi,by rw [List.take_add_one,er,List.map_append,List.map_append];rfl,_,rfl⟩⟩⟩
  ·obtain ⟨sG,ii,rfl,y0,y1,rfl⟩:=h
   rw [List.take_of_length_le (by omega)]
   exact hR _ _ ⟨p2,rfl,sG.trans (z0b hp2 _),sG.free hp2,z0d⟩
 rintro σ3 H3 ⟨l,rfl,s3,l0,h3⟩
 refine z0h (λ σ H4=>σ=[some (.ref p),some (.ref na),some (.ref st),some (.ref na),some (.ref l)]/\Same H2 H4/\H4 l=some (.lst (((rws++[("out" : Str)::ows]).map (Builtin.Str.glued " ")).map V.str))) ?_ (λ R hR=>?_)
 rotate_left
 ·wp_walk using tSeq,tIfS,tyS,inV,eqV
  refine ⟨⟨_,h3⟩,small (by decide),λ p1 hp1=>?_⟩
  have s4:=s3.trans (z0b hp1 (HO.lst [V.str "out"]))
  have ca4:=s4 _ _ hna
  have l4:=z0b hp1 (HO.lst [V.str "out"]) _ _ h3
  have g4:upd H3 p1 (HO.lst [V.str "out"]) p1=some (HO.lst [V.str "out"]):=z0d
  generalize upd H3 p1 (HO.lst [V.str "out"])=H4 at *
  refine ⟨_,s4 _ _ hp,_,z0i (j:=1) rfl,?_⟩
  refine CompT.mk (xs:=os) (.of (s4 _ _ hou)) (λ i ys σ G=>G=H4/\ys=(ows.take i).map V.str/\∃y,σ=[y,some (.ref na)]) ⟨rfl,rfl,_,rfl⟩ (λ i ys σ G _ h=>by rw [h.1];exact .of (s4 _ _ hou)) (λ i x ys σ G e h=>?_) (λ ys σ G h p2 hp2=>?_)
  ·obtain ⟨rfl,rfl,y,rfl⟩:=h
   obtain ⟨u,w,rfl,eu,eo⟩:=ob i x e
   have il:=(List.getElem?_eq_some_iff.mp e).1
   refine ⟨by rw [List.length_map,List.length_take];exact z0z (by omega),?_⟩
   wp_walk using tSeq,tIfS,tyS,inV,eqV
   exact ⟨_,ca4,_,z0i (v:=.str w) (by rw [List.getElem?_map,eu];rfl),by rw [List.take_add_one,eo,List.map_append];rfl,_,rfl⟩
  ·obtain ⟨rfl,rfl,y,rfl⟩:=h
   rw [List.take_of_length_le (by omega)]
   refine ⟨p2,rfl,_,z0b hp2 _ _ _ g4,_,z0d,by rw [List.length_map];exact small (by simp;omega),λ p3 hp3=>⟨"out" :: ows,.of z0d,Nat.le_trans wr.out (by decide),_,z0b hp3 _ _ _ (z0b hp2 _ _ _ l4),by rw [List.length_map,List.length_map];exact z0z (by omega),hR _ _ ⟨rfl,?_,?_⟩⟩⟩
   ·intro b' o' e'
    rw [z0m (λ z=>by rw [z,l0] at e';cases e')]
    exact z0b hp3 _ _ _ (z0b hp2 _ _ _ (s4 _ _ e'))
   ·rw [z0d,List.map_append,List.map_append];rfl
 rintro σ4 H4 ⟨rfl,s4,h4⟩
 wp_walk using tSeq,tIfS,tyS,inV,eqV
 exact ⟨_,.of h4,wr.text,q _ s4⟩
abbrev slawdraw:Stmt:=top 33
def splawdraw:Sp:=λ vs H Q _=>∃(c k m:Int),vs=[.int c,.int k,.int m]/\0≤k/\k < 100000/\0 < m/\Q (.int (drawF c k m)) H
theorem y3b:FnScope ["cell", "k", "many", "m"] ["cell", "k", "many"] (defScope slawdraw):=⟨rfl,rfl,rfl,by decide +kernel,rfl,by decide +kernel,by decide +kernel⟩
theorem y4q (F:Fun K "_law_draw" "_law_draw" slawdraw f fd):FnOk P w K mg base CX0 (1) f fd ["cell", "k", "many"] (splawdraw):=by
 have sc:=y3b
 refine F.ok sc (λ vs H Q E h=>?_) (λ cdv A outer s H vs Q E hr h=>?_)
 ·obtain ⟨c,k,m,rfl,_⟩:=h;rfl
 obtain ⟨c,k,m,rfl,k0,k1,m0,q⟩:=h
 refine ⟨_,(z0c (z0o (i:=3) sc.nd rfl (by first | exact Or.inl rfl | exact Or.inr rfl) (z0w z3e (z0w z1m (z0w z3t (pv 0) z0f) (z0w z3t (z0w z3t (z0w z1m (pv 1) z0f) (z0w z1m (pv 1) z0f)) z0f)) z0f)) (z0g (z0k (z0w z3e (z0w z3e (z0w z3t (pv 3) (pv 3)) z0f) (pv 2))))),?_⟩
 wp_walk using tSeq,tIfS,tyS,inV,eqV
 have b0:=Int.emod_nonneg (c * 48271+(k+1) * (k+1) * 69621) (show (2147483647:Int)≠0 by decide)
 have b1:=Int.emod_lt_of_pos (c * 48271+(k+1) * (k+1) * 69621) (show (0:Int) < 2147483647 by decide)
 exact ⟨.inl ⟨by omega,by omega⟩,.inl ⟨by omega,by omega⟩,m0,q⟩
abbrev slawsmalls:Stmt:=top 34
def splawsmalls:Sp:=λ vs H Q _=>∃(c k n:Int),vs=[.int c,.int k,.int n]/\0≤k/\k < 1000/\0≤n/\n < 100/\∀H' p,Same H H'->H' p=some (.tup ((smallsF c k n.toNat).map V.int))->Q (.ref p) H'
theorem z8n:FnScope ["cell", "at", "many", "top"] ["cell", "at", "many"] (defScope slawsmalls):=⟨rfl,rfl,rfl,by decide +kernel,rfl,by decide +kernel,by decide +kernel⟩
theorem z9b (F:Fun K "_law_smalls" "_law_smalls" slawsmalls f fd) (clawdraw:Callee P w K mg base CX0 (1) "_law_draw" ["cell", "k", "many"] splawdraw) (ztuple:mg "tuple" = none) (zrange:mg "range" = none):FnOk P w K mg base CX0 (2) f fd ["cell", "at", "many"] (splawsmalls):=by
 have sc:=z8n
 refine F.ok sc (λ vs H Q E h=>?_) (λ cdv A outer s H vs Q E hr h=>?_)
 ·obtain ⟨c,k,n,rfl,_⟩:=h;rfl
 obtain ⟨c,k,n,rfl,k0,k1,n0,n1,q⟩:=h
 refine ⟨_,(z0c (z0o (i:=3) sc.nd rfl (by first | exact Or.inl rfl | exact Or.inr rfl) (z0y z4i (z1j (z0a z0f (z0a z0f z0e))) (z0r clawdraw hr (by rfl) z1a (z0a (pv 0) (z0a (pv 1) (z0a z0f z0e)))) (λ _ _=>rfl))) (z0g (z0k (z1c z1k (by rfl) ztuple boot_tuple (z0a (z4d (own:=["k"]) (fv:=["cell", "top", "at"]) (js:=[0,3,1]) rfl (z2a (by rfl) zrange (z0a (pv 2) z0e)) rfl (by decide) rfl (by decide) (by first | exact λ _ _ h=>h | exact z2y rfl | exact z2x rfl rfl | exact z2w rfl rfl rfl) (z3x (by rfl)) rfl (x5k (by first | exact ⟨rfl,.inl rfl,.inl rfl⟩ | exact ⟨rfl,.inl rfl,.inr rfl⟩) (by first | exact ⟨rfl,.inl rfl,.inl rfl⟩ | exact ⟨rfl,.inl rfl,.inr rfl⟩) (by first | exact ⟨rfl,.inl rfl,.inl rfl⟩ | exact ⟨rfl,.inl rfl,.inr rfl⟩)) (λ _ _ _ _=>(z1f (i:=0) (show (["k", "cell", "top", "at"]:List Str).Nodup by decide +kernel) rfl (Or.inl rfl))) (λ _ _ _ _=>(z0r clawdraw hr (by rfl) z1a (z0a (pv 1) (z0a (z0w z1m (z0w z1m (pv 3) z0f) (pv 0)) (z0a (pv 2) z0e)))))) z0e))))),?_⟩
 wp_walk using tSeq,tIfS,tyS,inV,eqV,splawdraw
 refine ⟨small (by decide),λ p hp=>⟨k0,by omega,_,.of z0d,_,x2h c k,by omega,by omega,?_⟩⟩
 have s1:=z0b hp (.lst [V.int 5,V.int 1000])
 generalize upd H p (.lst [V.int 5,V.int 1000])=H1 at *
 refine CompR.mk (λ i ys σ H2=>H2=H1/\ys=(smallsF c k i).map V.int/\∃y,σ=[y,some (.int c),some (.int (topF c k)),some (.int k)]) ⟨rfl,rfl,_,rfl⟩ (λ i ys σ H2 hi h=>?_) (λ ys σ H2 h p2 hp2=>?_)
 ·obtain ⟨rfl,rfl,y,rfl⟩:=h
  refine ⟨by rw [List.length_map,z5o];exact z0z (by omega),?_⟩
  wp_walk using tSeq,tIfS,tyS,inV,eqV,splawdraw
  exact ⟨by omega,by omega,y2j c k,by rw [z8j,List.map_append];rfl,_,rfl⟩
 ·obtain ⟨rfl,rfl,y,rfl⟩:=h
  exact ⟨p2,rfl,_,.inl ⟨.of z0d,λ l hl=>q _ _ (s1.trans ((z0b hp2 _).trans (z0b hl _))) z0d⟩⟩
abbrev slawword:Stmt:=top 35
def splawword:Sp:=λ vs H Q _=>∃(c:Int),vs=[.int c]/\∀H',Same H H'->Q (.str (wordF c)) H'
theorem y2u:FnScope ["cell", "some", "way", "size"] ["cell"] (defScope slawword):=⟨rfl,rfl,rfl,by decide +kernel,rfl,by decide +kernel,by decide +kernel⟩
theorem y4j (F:Fun K "_law_word" "_law_word" slawword f fd) (clawdraw:Callee P w K mg base CX0 (1) "_law_draw" ["cell", "k", "many"] splawdraw) (zrange:mg "range" = none):FnOk P w K mg base CX0 (2) f fd ["cell"] (splawword):=by
 have sc:=y2u
 refine F.ok sc (λ vs H Q E h=>?_) (λ cdv A outer s H vs Q E hr h=>?_)
 ·obtain ⟨c,rfl,_⟩:=h;rfl
 obtain ⟨c,rfl,q⟩:=h
 refine ⟨_,(z0c (z0o (i:=1) sc.nd rfl (by first | exact Or.inl rfl | exact Or.inr rfl) (z1j (z2e (z2e (z2e (z2e (z2e (z2e (z2e (z2e z0e)))))))))) (z0c (z0o (i:=2) sc.nd rfl (by first | exact Or.inl rfl | exact Or.inr rfl) (z0r clawdraw hr (by rfl) z1a (z0a (pv 0) (z0a z0f (z0a z0f z0e))))) (z0c (z1b (z0j z8y (pv 2) z0f (z0q _)) (z0g (z0k (z0y z4i (pv 1) (pv 2) (λ _ _=>rfl)))) z0n) (z0c (z0o (i:=3) sc.nd rfl (by first | exact Or.inl rfl | exact Or.inr rfl) (z0w z1m z0f (z0r clawdraw hr (by rfl) z1a (z0a (pv 0) (z0a z0f (z0a z0f z0e)))))) (z0g (z0k (z2r PySem.F.plainAttrs_str PySem.F.slot_str_join PySem.F.type_str_join y8o z0l (z0a (z4d (own:=["k"]) (fv:=["cell"]) (js:=[0]) rfl (z2a (by rfl) zrange (z0a (pv 3) z0e)) rfl (by decide) rfl (by decide) (by first | exact λ _ _ h=>h | exact z2y rfl | exact z2x rfl rfl | exact z2w rfl rfl rfl) (z3x (by rfl)) rfl (x2d (by first | exact ⟨rfl,.inl rfl,.inl rfl⟩ | exact ⟨rfl,.inl rfl,.inr rfl⟩)) (λ _ _ _ _=>(z1f (i:=0) (show (["k", "cell"]:List Str).Nodup by decide +kernel) rfl (Or.inl rfl))) (λ _ _ _ _=>(z1h z0l (z0r clawdraw hr (by rfl) z1a (z0a (pv 1) (z0a (z0w z1m z0f (pv 0)) (z0a z0f z0e)))) (λ _ _=>rfl)))) z0e)))))))),?_⟩
 wp_walk using tSeq,tIfS,tyS,inV,eqV,splawdraw
 refine ⟨small (by decide),λ p hp=>?_⟩
 have s1:=z0b hp (.lst [V.str "neg",V.str "add",V.str "max",V.str "xor",V.str "zzzzzzzz",V.str "q",V.str "in",V.str "out"])
 have g1:upd H p (.lst [V.str "neg",V.str "add",V.str "max",V.str "xor",V.str "zzzzzzzz",V.str "q",V.str "in",V.str "out"]) p=some (.lst (wl8.map V.str)):=z0d
 generalize upd H p (.lst [V.str "neg",V.str "add",V.str "max",V.str "xor",V.str "zzzzzzzz",V.str "q",V.str "in",V.str "out"])=H1 at *
 have r:=z0v c 20 (show (0:Int) < 12 by decide)
 have r8:=z0v c 21 (show (0:Int) < 8 by decide)
 unfold wordF at q
 by_cases c8:drawF c 20 12 < 8
 ·rw [if_pos c8]
  rw [if_pos c8] at q
  exact ⟨_,.of g1,_,z9q r.1 (by show drawF c 20 12 < ((8:Nat):Int);omega),q _ s1⟩
 ·rw [if_neg c8]
  rw [if_neg c8] at q
  refine ⟨by omega,by omega,?_⟩
  generalize hz:(1+drawF c 21 8).toNat=nz at *
  refine CompR.mk (λ i ys σ H2=>H2=H1/\ys=(lettersF c i).map V.str/\∃y,σ=[y,some (.int c)]) ⟨rfl,rfl,_,rfl⟩ (λ i ys σ H2 hi h=>?_) (λ ys σ H2 h p2 hp2=>?_)
  ·obtain ⟨rfl,rfl,y,rfl⟩:=h
   refine ⟨by rw [List.length_map,z3n];exact z0z (by omega),?_⟩
   wp_walk using tSeq,tIfS,tyS,inV,eqV,splawdraw
   have r26:=z0v c (22+(0+(i:Int))) (show (0:Int) < 26 by decide)
   refine ⟨by omega,by omega,r26.1,by omega,by rw [z3j];omega,_,x0l ⟨(drawF c (22+(0+(i:Int))) 26).toNat,by omega⟩,?_⟩
   exact ⟨by rw [z7r,List.map_append];rfl,_,rfl⟩
  ·obtain ⟨rfl,rfl,y,rfl⟩:=h
   refine ⟨by decide +kernel,p2,rfl,_,.of z0d,by rw [z3n];omega,λ y hy=>?_,λ _=>q _ (s1.trans (z0b hp2 _))⟩
   obtain ⟨j,hj,rfl⟩:=List.mem_map.mp hy
   have r26:=z0v c (22+(0+(j:Int))) (show (0:Int) < 26 by decide)
   exact ⟨(show 1≤10 by decide),λ d hd=>by cases List.mem_singleton.mp hd;omega⟩
abbrev slawbig:Stmt:=top 36
def splawbig:Sp:=λ vs H Q _=>∃(c:Int),vs=[.int c]/\∀H',Same H H'->Q (.int (bigF c)) H'
theorem y7n:FnScope ["cell", "way"] ["cell"] (defScope slawbig):=⟨rfl,rfl,rfl,by decide +kernel,rfl,by decide +kernel,by decide +kernel⟩
theorem y8h (F:Fun K "_law_big" "_law_big" slawbig f fd) (clawdraw:Callee P w K mg base CX0 (1) "_law_draw" ["cell", "k", "many"] splawdraw):FnOk P w K mg base CX0 (2) f fd ["cell"] (splawbig):=by
 have sc:=y7n
 refine F.ok sc (λ vs H Q E h=>?_) (λ cdv A outer s H vs Q E hr h=>?_)
 ·obtain ⟨c,rfl,_⟩:=h;rfl
 obtain ⟨c,rfl,q⟩:=h
 refine ⟨_,(z0c (z0o (i:=1) sc.nd rfl (by first | exact Or.inl rfl | exact Or.inr rfl) (z0r clawdraw hr (by rfl) z1a (z0a (pv 0) (z0a z0f (z0a z0f z0e))))) (z0c (z1b (z0j z1i (pv 1) z0f (z0q _)) (z0g (z0k (z0y z4i (z1j (z0a (y3t z6v (z0w y0e z0f z0f)) (z0a (z0w z4y (z0w y0e z0f z0f) z0f) (z0a z0f (z0a (y3t z6v z0f) z0e))))) (z0r clawdraw hr (by rfl) z1a (z0a (pv 0) (z0a z0f (z0a z0f z0e)))) (λ _ _=>rfl)))) z0n) (z0c (z1b (z0j z1i (pv 1) z0f (z0q _)) (z0g (z0k (z0w z4y (z0w z3e (pv 0) z0f) z0f))) z0n) (z0g (z0k (z0w z4y (z0w z3e (pv 0) (z0w y0e z0f z0f)) (z0w y0e z0f z0f))))))),?_⟩
 wp_walk using tSeq,tIfS,tyS,inV,eqV,splawdraw
 unfold bigF at q
 by_cases c0:drawF c 4 4=0
 ·rw [if_pos c0]
  rw [if_pos c0] at q
  refine ⟨small (by decide),λ p hp=>⟨_,.of z0d,_,?_,q _ (z0b hp _)⟩⟩
  have r:=z0v c 5 (show (0:Int) < 4 by decide)
  generalize drawF c 5 4=z at *
  rcases (show z=0\/z=1\/z=2\/z=3 by omega) with rfl | rfl | rfl | rfl<;>rfl
 rw [if_neg c0]
 rw [if_neg c0] at q
 by_cases c1:drawF c 4 4=1
 ·rw [if_pos c1]
  rw [if_pos c1] at q
  exact q _ (Same.refl _)
 rw [if_neg c1]
 rw [if_neg c1] at q
 exact q _ (Same.refl _)
abbrev slawmade:Stmt:=top 37
def splawmade:Sp:=λ vs H Q _=>∃(i:Nat) (c u0 u1 u2:Int) (u:Addr),i < 15/\vs=[.str (kindS i),.int c,.ref u]/\H u=some (.lst [.int u0,.int u1,.int u2])/\∀H' p ra,Same H H'->H' p=some (.tup (madeV i ra c u0 u1 u2))->H' ra=some (.tup ((rowF c).map V.int))->Q (.ref p) H'
theorem y2z:FnScope ["kind", "cell", "used", "small", "row", "word"] ["kind", "cell", "used"] (defScope slawmade):=⟨rfl,rfl,rfl,by decide +kernel,rfl,by decide +kernel,by decide +kernel⟩
theorem y4o (F:Fun K "_law_made" "_law_made" slawmade f fd) (clawsmalls:Callee P w K mg base CX0 (2) "_law_smalls" ["cell", "at", "many"] splawsmalls) (clawdraw:Callee P w K mg base CX0 (2) "_law_draw" ["cell", "k", "many"] splawdraw) (clawword:Callee P w K mg base CX0 (2) "_law_word" ["cell"] splawword) (clawbig:Callee P w K mg base CX0 (2) "_law_big" ["cell"] splawbig):FnOk P w K mg base CX0 (3) f fd ["kind", "cell", "used"] (splawmade):=by
 have sc:=y2z
 refine F.ok sc (λ vs H Q E h=>?_) (λ cdv A outer s H vs Q E hr h=>?_)
 ·obtain ⟨i,c,u0,u1,u2,u,_,rfl,_⟩:=h;rfl
 obtain ⟨i,c,u0,u1,u2,u,hi,rfl,hu,q⟩:=h
 refine ⟨_,(z0c (z0o (i:=3) sc.nd rfl (by first | exact Or.inl rfl | exact Or.inr rfl) (z0r clawsmalls hr (by rfl) z1a (z0a (pv 1) (z0a z0f (z0a z0f z0e))))) (z0c (z0o (i:=4) sc.nd rfl (by first | exact Or.inl rfl | exact Or.inr rfl) (z0r clawsmalls hr (by rfl) z1a (z0a (pv 1) (z0a z0f (z0a (z0r clawdraw hr (by rfl) z1a (z0a (pv 1) (z0a z0f (z0a z0f z0e)))) z0e))))) (z0c (z0o (i:=5) sc.nd rfl (by first | exact Or.inl rfl | exact Or.inr rfl) (z0r clawword hr (by rfl) z1a (z0a (pv 1) z0e))) (z0c (z1b (z0j z1i (pv 0) z0l (z0q _)) (z0g (z0k (z1w (z0a z0l (z0a (pv 4) z0e))))) z0n) (z0c (z1b (z0j z1i (pv 0) z0l (z0q _)) (z0g (z0k (z1w (z0a z0l (z0a (z0r clawbig hr (by rfl) z1a (z0a (pv 1) z0e)) z0e))))) z0n) (z0c (z1b (z0j z1i (pv 0) z0l (z0q _)) (z0g (z0k (z1w (z0a z0l (z0a (pv 4) (z0a (z0y z0u (pv 3) z0f (λ _ _=>rfl)) z0e)))))) z0n) (z0c (z1b (z0j z1i (pv 0) z0l (z0q _)) (z0g (z0k (z1w (z0a z0l (z0a (pv 5) (z0a (z0y z0x (pv 2) z0f (λ _ _=>rfl)) z0e)))))) z0n) (z0c (z1b (z0j z1i (pv 0) z0l (z0q _)) (z0g (z0k (z1w (z0a z0l (z0a (pv 5) (z0a (z0y z0x (pv 2) z0f (λ _ _=>rfl)) (z0a (z0y z0x (pv 2) z0f (λ _ _=>rfl)) z0e))))))) z0n) (z0c (z1b (z0j z1i (pv 0) z0l (z0q _)) (z0g (z0k (z1w (z0a z0l (z0a (z0y z0x (pv 2) z0f (λ _ _=>rfl)) (z0a (z0y z0x (pv 2) z0f (λ _ _=>rfl)) (z0a (z0y z0x (pv 2) z0f (λ _ _=>rfl)) z0e))))))) z0n) (z0c (z1b (PW.pt (z3b (z0j z1i (pv 0) z0l (z0q _)) (z2z (z0j z1i (pv 0) z0l (z0q _))))) (z0g (z0k (z1w (z0a (pv 0) (z0a (z0y z0x (pv 2) z0f (λ _ _=>rfl)) (z0a (pv 4) z0e)))))) z0n) (z0c (z1b (z0j z1i (pv 0) z0l (z0q _)) (z0g (z0k (z1w (z0a z0l (z0a (z0y z0x (pv 2) z0f (λ _ _=>rfl)) (z0a (z0y z0u (pv 3) z0f (λ _ _=>rfl)) z0e)))))) z0n) (z0c (z1b (z0j z1i (pv 0) z0l (z0q _)) (z0g (z0k (z1w (z0a z0l (z0a (z0y z0x (pv 2) z0f (λ _ _=>rfl)) (z0a (z0y z0u (pv 3) z0f (λ _ _=>rfl)) (z0a (z0y z0u (pv 3) z0f (λ _ _=>rfl)) (z0a (z0y z0u (pv 3) z0f (λ _ _=>rfl)) (z0a (z0y z0u (pv 3) z0f (λ _ _=>rfl)) z0e))))))))) z0n) (z0c (z1b (z0j z1i (pv 0) z0l (z0q _)) (z0g (z0k (z1w (z0a z0l (z0a (z0y z0x (pv 2) z0f (λ _ _=>rfl)) (z0a (z0y z0u (pv 3) z0f (λ _ _=>rfl)) (z0a (z0y z0u (pv 3) z0f (λ _ _=>rfl)) z0e))))))) z0n) (z0c (z1b (z0j z1i (pv 0) z0l (z0q _)) (z0g (z0k (z1w (z0a z0l (z0a (z0y z0x (pv 2) z0f (λ _ _=>rfl)) (z0a (z0y z0x (pv 2) z0f (λ _ _=>rfl)) (z0a (z0y z0u (pv 3) z0f (λ _ _=>rfl)) z0e))))))) z0n) (z0c (z1b (z0j z1i (pv 0) z0l (z0q _)) (z0g (z0k (z1w (z0a z0l (z0a (z0y z0x (pv 2) z0f (λ _ _=>rfl)) (z0a (z0y z0x (pv 2) z0f (λ _ _=>rfl)) z0e)))))) z0n) (z0g (z0k (z1w (z0a (pv 0) (z0a (pv 5) (z0a (z0y z0x (pv 2) z0f (λ _ _=>rfl)) (z0a (z0y z0u (pv 3) z0f (λ _ _=>rfl)) z0e)))))))))))))))))))))),?_⟩
 simp only [L2.start,List.length_cons,List.length_nil,List.replicate,List.cons_append,List.nil_append,Nat.reduceSub,Nat.reduceAdd,List.map_cons,List.map_nil]
 refine z0h (λ σ H1=>∃sm,σ=[some (.str (kindS i)),some (.int c),some (.ref u),some (.ref sm),none,none]/\Same H H1/\H1 sm=some (.tup [.int (smF c 0),.int (smF c 1),.int (smF c 2),.int (smF c 3)])) ?_ (λ R hR=>?_)
 rotate_left
 ·wp_walk using tSeq,tIfS,tyS,inV,eqV,splawsmalls
  exact λ H1 p s1 h1=>hR _ _ ⟨p,rfl,s1,h1⟩
 rintro σ1 H1 ⟨sm,rfl,s1,h1⟩
 refine z0h (λ σ H2=>∃ra,σ=[some (.str (kindS i)),some (.int c),some (.ref u),some (.ref sm),some (.ref ra),none]/\Same H1 H2/\H2 ra=some (.tup ((rowF c).map V.int))) ?_ (λ R hR=>?_)
 rotate_left
 ·wp_walk using tSeq,tIfS,tyS,inV,eqV,splawsmalls,splawdraw
  have r:=z0v c 31 (show (0:Int) < 9 by decide)
  exact ⟨r.1,by omega,λ H2 p s2 h2=>hR _ _ ⟨p,rfl,s2,h2⟩⟩
 rintro σ2 H2 ⟨ra,rfl,s2,h2⟩
 refine z0h (λ σ H3=>σ=[some (.str (kindS i)),some (.int c),some (.ref u),some (.ref sm),some (.ref ra),some (.str (wordF c))]/\Same H2 H3) ?_ (λ R hR=>?_)
 rotate_left
 ·wp_walk using tSeq,tIfS,tyS,inV,eqV,splawword
  exact λ H3 s3=>hR _ _ ⟨rfl,s3⟩
 rintro σ3 H3 ⟨rfl,s3⟩
 have sm3:=s3 _ _ (s2 _ _ h1)
 have ra3:=s3 _ _ h2
 have u3:=s3 _ _ (s2 _ _ (s1 _ _ hu))
 have s03:=s1.trans (s2.trans s3)
 have fin:∀H4 p,Same H3 H4->H4 p=some (.tup (madeV i ra c u0 u1 u2))->Q (.ref p) H4:=λ H4 p s4 e=>q _ _ ra (s03.trans s4) e (s4 _ _ ra3)
 clear q
 wp_walk using tSeq,tIfS,tyS,inV,eqV,splawbig
 match i,hi with
 | 0,_ =>
  rw [if_pos (show kindS 0=Str.ofString "in" by decide +kernel)]
  exact ⟨small (by decide),λ p hp=>fin _ _ (z0b hp _) z0d⟩
 | 1,_ =>
  rw [if_neg (show ¬kindS 1=Str.ofString "in" by decide +kernel),if_pos (show kindS 1=Str.ofString "num" by decide +kernel)]
  exact λ H4 s4=>⟨small (by decide),λ p hp=>fin _ _ (s4.trans (z0b hp _)) z0d⟩
 | 2,_ =>
  rw [if_neg (show ¬kindS 2=Str.ofString "in" by decide +kernel),if_neg (show ¬kindS 2=Str.ofString "num" by decide +kernel),if_pos (show kindS 2=Str.ofString "count" by decide +kernel)]
  exact ⟨_,sm3,_,z0i (j:=0) rfl,small (by decide),λ p hp=>fin _ _ (z0b hp _) z0d⟩
 | 3,_ =>
  rw [if_neg (show ¬kindS 3=Str.ofString "in" by decide +kernel),if_neg (show ¬kindS 3=Str.ofString "num" by decide +kernel),if_neg (show ¬kindS 3=Str.ofString "count" by decide +kernel),if_pos (show kindS 3=Str.ofString "each" by decide +kernel)]
  exact ⟨_,u3,_,z0i (j:=0) rfl,small (by decide),λ p hp=>fin _ _ (z0b hp _) z0d⟩
 | 4,_ =>
  rw [if_neg (show ¬kindS 4=Str.ofString "in" by decide +kernel),if_neg (show ¬kindS 4=Str.ofString "num" by decide +kernel),if_neg (show ¬kindS 4=Str.ofString "count" by decide +kernel),if_neg (show ¬kindS 4=Str.ofString "each" by decide +kernel),if_pos (show kindS 4=Str.ofString "pair" by decide +kernel)]
  exact ⟨_,u3,_,z0i (j:=0) rfl,_,u3,_,z0i (j:=1) rfl,small (by decide),λ p hp=>fin _ _ (z0b hp _) z0d⟩
 | 5,_ =>
  rw [if_neg (show ¬kindS 5=Str.ofString "in" by decide +kernel),if_neg (show ¬kindS 5=Str.ofString "num" by decide +kernel),if_neg (show ¬kindS 5=Str.ofString "count" by decide +kernel),if_neg (show ¬kindS 5=Str.ofString "each" by decide +kernel),if_neg (show ¬kindS 5=Str.ofString "pair" by decide +kernel),if_pos (show kindS 5=Str.ofString "pick" by decide +kernel)]
  exact ⟨_,u3,_,z0i (j:=0) rfl,_,u3,_,z0i (j:=1) rfl,_,u3,_,z0i (j:=2) rfl,small (by decide),λ p hp=>fin _ _ (z0b hp _) z0d⟩
 | 6,_ =>
  rw [if_neg (show ¬kindS 6=Str.ofString "in" by decide +kernel),if_neg (show ¬kindS 6=Str.ofString "num" by decide +kernel),if_neg (show ¬kindS 6=Str.ofString "count" by decide +kernel),if_neg (show ¬kindS 6=Str.ofString "each" by decide +kernel),if_neg (show ¬kindS 6=Str.ofString "pair" by decide +kernel),if_neg (show ¬kindS 6=Str.ofString "pick" by decide +kernel),if_pos (show kindS 6=Str.ofString "turn" by decide +kernel)]
  exact ⟨_,u3,_,z0i (j:=0) rfl,small (by decide),λ p hp=>fin _ _ (z0b hp _) z0d⟩
 | 7,_ =>
  rw [if_neg (show ¬kindS 7=Str.ofString "in" by decide +kernel),if_neg (show ¬kindS 7=Str.ofString "num" by decide +kernel),if_neg (show ¬kindS 7=Str.ofString "count" by decide +kernel),if_neg (show ¬kindS 7=Str.ofString "each" by decide +kernel),if_neg (show ¬kindS 7=Str.ofString "pair" by decide +kernel),if_neg (show ¬kindS 7=Str.ofString "pick" by decide +kernel),if_neg (show ¬kindS 7=Str.ofString "turn" by decide +kernel),if_neg (show ¬kindS 7=Str.ofString "lay" by decide +kernel),if_pos (show kindS 7=Str.ofString "flip" by decide +kernel)]
  exact ⟨_,u3,_,z0i (j:=0) rfl,_,sm3,_,z0i (j:=0) rfl,small (by decide),λ p hp=>fin _ _ (z0b hp _) z0d⟩
 | 8,_ =>
  rw [if_neg (show ¬kindS 8=Str.ofString "in" by decide +kernel),if_neg (show ¬kindS 8=Str.ofString "num" by decide +kernel),if_neg (show ¬kindS 8=Str.ofString "count" by decide +kernel),if_neg (show ¬kindS 8=Str.ofString "each" by decide +kernel),if_neg (show ¬kindS 8=Str.ofString "pair" by decide +kernel),if_neg (show ¬kindS 8=Str.ofString "pick" by decide +kernel),if_neg (show ¬kindS 8=Str.ofString "turn" by decide +kernel),if_neg (show ¬kindS 8=Str.ofString "lay" by decide +kernel),if_neg (show ¬kindS 8=Str.ofString "flip" by decide +kernel),if_pos (show kindS 8=Str.ofString "cut" by decide +kernel)]
  exact ⟨_,u3,_,z0i (j:=0) rfl,_,sm3,_,z0i (j:=0) rfl,_,sm3,_,z0i (j:=1) rfl,_,sm3,_,z0i (j:=2) rfl,_,sm3,_,z0i (j:=3) rfl,small (by decide),λ p hp=>fin _ _ (z0b hp _) z0d⟩
 | 9,_ =>
  rw [if_neg (show ¬kindS 9=Str.ofString "in" by decide +kernel),if_neg (show ¬kindS 9=Str.ofString "num" by decide +kernel),if_neg (show ¬kindS 9=Str.ofString "count" by decide +kernel),if_neg (show ¬kindS 9=Str.ofString "each" by decide +kernel),if_neg (show ¬kindS 9=Str.ofString "pair" by decide +kernel),if_neg (show ¬kindS 9=Str.ofString "pick" by decide +kernel),if_neg (show ¬kindS 9=Str.ofString "turn" by decide +kernel),if_neg (show ¬kindS 9=Str.ofString "lay" by decide +kernel),if_neg (show ¬kindS 9=Str.ofString "flip" by decide +kernel),if_neg (show ¬kindS 9=Str.ofString "cut" by decide +kernel),if_pos (show kindS 9=Str.ofString "spread" by decide +kernel)]
  exact ⟨_,u3,_,z0i (j:=0) rfl,_,sm3,_,z0i (j:=0) rfl,_,sm3,_,z0i (j:=1) rfl,small (by decide),λ p hp=>fin _ _ (z0b hp _) z0d⟩
 | 10,_ =>
  rw [if_neg (show ¬kindS 10=Str.ofString "in" by decide +kernel),if_neg (show ¬kindS 10=Str.ofString "num" by decide +kernel),if_neg (show ¬kindS 10=Str.ofString "count" by decide +kernel),if_neg (show ¬kindS 10=Str.ofString "each" by decide +kernel),if_neg (show ¬kindS 10=Str.ofString "pair" by decide +kernel),if_neg (show ¬kindS 10=Str.ofString "pick" by decide +kernel),if_neg (show ¬kindS 10=Str.ofString "turn" by decide +kernel),if_pos (show kindS 10=Str.ofString "lay" by decide +kernel)]
  exact ⟨_,u3,_,z0i (j:=0) rfl,small (by decide),λ p hp=>fin _ _ (z0b hp _) z0d⟩
 | 11,_ =>
  rw [if_neg (show ¬kindS 11=Str.ofString "in" by decide +kernel),if_neg (show ¬kindS 11=Str.ofString "num" by decide +kernel),if_neg (show ¬kindS 11=Str.ofString "count" by decide +kernel),if_neg (show ¬kindS 11=Str.ofString "each" by decide +kernel),if_neg (show ¬kindS 11=Str.ofString "pair" by decide +kernel),if_neg (show ¬kindS 11=Str.ofString "pick" by decide +kernel),if_neg (show ¬kindS 11=Str.ofString "turn" by decide +kernel),if_neg (show ¬kindS 11=Str.ofString "lay" by decide +kernel),if_neg (show ¬kindS 11=Str.ofString "flip" by decide +kernel),if_neg (show ¬kindS 11=Str.ofString "cut" by decide +kernel),if_neg (show ¬kindS 11=Str.ofString "spread" by decide +kernel),if_pos (show kindS 11=Str.ofString "join" by decide +kernel)]
  exact ⟨_,u3,_,z0i (j:=0) rfl,_,u3,_,z0i (j:=1) rfl,_,sm3,_,z0i (j:=0) rfl,small (by decide),λ p hp=>fin _ _ (z0b hp _) z0d⟩
 | 12,_ =>
  rw [if_neg (show ¬kindS 12=Str.ofString "in" by decide +kernel),if_neg (show ¬kindS 12=Str.ofString "num" by decide +kernel),if_neg (show ¬kindS 12=Str.ofString "count" by decide +kernel),if_neg (show ¬kindS 12=Str.ofString "each" by decide +kernel),if_neg (show ¬kindS 12=Str.ofString "pair" by decide +kernel),if_neg (show ¬kindS 12=Str.ofString "pick" by decide +kernel),if_neg (show ¬kindS 12=Str.ofString "turn" by decide +kernel),if_neg (show ¬kindS 12=Str.ofString "lay" by decide +kernel),if_neg (show ¬kindS 12=Str.ofString "flip" by decide +kernel),if_neg (show ¬kindS 12=Str.ofString "cut" by decide +kernel),if_neg (show ¬kindS 12=Str.ofString "spread" by decide +kernel),if_neg (show ¬kindS 12=Str.ofString "join" by decide +kernel),if_pos (show kindS 12=Str.ofString "fetch" by decide +kernel)]
  exact ⟨_,u3,_,z0i (j:=0) rfl,_,u3,_,z0i (j:=1) rfl,small (by decide),λ p hp=>fin _ _ (z0b hp _) z0d⟩
 | 13,_ =>
  rw [if_neg (show ¬kindS 13=Str.ofString "in" by decide +kernel),if_neg (show ¬kindS 13=Str.ofString "num" by decide +kernel),if_neg (show ¬kindS 13=Str.ofString "count" by decide +kernel),if_neg (show ¬kindS 13=Str.ofString "each" by decide +kernel),if_neg (show ¬kindS 13=Str.ofString "pair" by decide +kernel),if_neg (show ¬kindS 13=Str.ofString "pick" by decide +kernel),if_neg (show ¬kindS 13=Str.ofString "turn" by decide +kernel),if_neg (show ¬kindS 13=Str.ofString "lay" by decide +kernel),if_neg (show ¬kindS 13=Str.ofString "flip" by decide +kernel),if_neg (show ¬kindS 13=Str.ofString "cut" by decide +kernel),if_neg (show ¬kindS 13=Str.ofString "spread" by decide +kernel),if_neg (show ¬kindS 13=Str.ofString "join" by decide +kernel),if_neg (show ¬kindS 13=Str.ofString "fetch" by decide +kernel)]
  exact ⟨_,u3,_,z0i (j:=0) rfl,_,sm3,_,z0i (j:=0) rfl,small (by decide),λ p hp=>fin _ _ (z0b hp _) z0d⟩
 | 14,_ =>
  rw [if_neg (show ¬kindS 14=Str.ofString "in" by decide +kernel),if_neg (show ¬kindS 14=Str.ofString "num" by decide +kernel),if_neg (show ¬kindS 14=Str.ofString "count" by decide +kernel),if_neg (show ¬kindS 14=Str.ofString "each" by decide +kernel),if_neg (show ¬kindS 14=Str.ofString "pair" by decide +kernel),if_neg (show ¬kindS 14=Str.ofString "pick" by decide +kernel),if_neg (show ¬kindS 14=Str.ofString "turn" by decide +kernel),if_neg (show ¬kindS 14=Str.ofString "lay" by decide +kernel),if_neg (show ¬kindS 14=Str.ofString "flip" by decide +kernel),if_neg (show ¬kindS 14=Str.ofString "cut" by decide +kernel),if_neg (show ¬kindS 14=Str.ofString "spread" by decide +kernel),if_neg (show ¬kindS 14=Str.ofString "join" by decide +kernel),if_neg (show ¬kindS 14=Str.ofString "fetch" by decide +kernel)]
  exact ⟨_,u3,_,z0i (j:=0) rfl,_,sm3,_,z0i (j:=0) rfl,small (by decide),λ p hp=>fin _ _ (z0b hp _) z0d⟩
 | n+15,h=>exact absurd h (by omega)
abbrev slawkind:Stmt:=top 38
def splawkind:Sp:=λ vs H Q _=>∃c k:Int,vs=[.int c,.int k]/\∀H' i,i < 15->(k=0->i < 3)->Same H H'->Q (.str (kindS i)) H'
@[irreducible] def wplawkind:List (Str × Pos):=[("in",⟨172,12,172,16⟩),("num",⟨172,18,172,23⟩),("count",⟨172,25,172,32⟩),("each",⟨172,34,172,40⟩),("pair",⟨172,42,172,48⟩),("pick",⟨172,50,172,56⟩),("turn",⟨172,58,172,64⟩),("flip",⟨172,66,172,72⟩),("cut",⟨172,74,172,79⟩),("spread",⟨172,81,172,89⟩),("lay",⟨172,91,172,96⟩),("join",⟨172,98,172,104⟩)]
theorem y6w:defBody slawkind=[.Assign [.Name "some" ⟨172,4,172,8⟩] (.List (strsC wplawkind) ⟨172,11,172,105⟩) ⟨172,4,172,105⟩,(defBody slawkind).getD 1 (.Pass ⟨0,0,0,0⟩),(defBody slawkind).getD 2 (.Pass ⟨0,0,0,0⟩),(defBody slawkind).getD 3 (.Pass ⟨0,0,0,0⟩)]:=by kernel_rfl
theorem y2f:(wplawkind.map (·.1)).map V.str=[V.str "in",V.str "num",V.str "count",V.str "each",V.str "pair",V.str "pick",V.str "turn",V.str "flip",V.str "cut",V.str "spread",V.str "lay",V.str "join"]:=by unfold wplawkind;rfl
theorem y3a:FnScope ["cell", "ahead", "some"] ["cell", "ahead"] (defScope slawkind):=⟨rfl,rfl,rfl,by decide +kernel,rfl,by decide +kernel,by decide +kernel⟩
theorem y4p (F:Fun K "_law_kind" "_law_kind" slawkind f fd) (clawdraw:Callee P w K mg base CX0 (1) "_law_draw" ["cell", "k", "many"] splawdraw):FnOk P w K mg base CX0 (2) f fd ["cell", "ahead"] (splawkind):=by
 have sc:=y3a
 refine F.ok sc (λ vs H Q E h=>?_) (λ cdv A outer s H vs Q E hr h=>?_)
 ·obtain ⟨c,k,rfl,_⟩:=h;rfl
 obtain ⟨c,k,rfl,q⟩:=h
 rw [y6w]
 refine ⟨_,(z0c (z0o (i:=2) sc.nd rfl (by first | exact Or.inl rfl | exact Or.inr rfl) (z1j (z8w wplawkind))) (z0c (z0o (i:=2) sc.nd rfl (by first | exact Or.inl rfl | exact Or.inr rfl) (z0w z3u (pv 2) (z1j (z0a z0l (z0a z0l (z0a z0l z0e)))))) (z0c (z1b (z0j z1i (pv 1) z0f (z0q _)) (z0g (z0k (z0y z4i (pv 2) (z0r clawdraw hr (by rfl) z1a (z0a (pv 0) (z0a z0f (z0a z0f z0e)))) (λ _ _=>rfl)))) z0n) (z0g (z0k (z0y z4i (pv 2) (z0r clawdraw hr (by rfl) z1a (z0a (pv 0) (z0a z0f (z0a z0f z0e)))) (λ _ _=>rfl))))))),?_⟩
 wp_walk using tSeq,tIfS,tyS,inV,eqV,splawdraw,tStrs
 rw [y2f]
 wp_walk using tSeq,tIfS,tyS,inV,eqV
 refine ⟨small (by decide),λ p hp=>⟨small (by decide),λ p1 hp1=>⟨_,z0b hp1 _ _ _ z0d,small (by decide),λ p2 hp2=>?_⟩⟩⟩
 have r:=z0v c 30 (show (0:Int) < 15 by decide)
 have r3:=z0v c 30 (show (0:Int) < 3 by decide)
 split
 ·exact ⟨kinds.map V.str,.of z0d,_,z9q (ws:=kinds) r3.1 (by show drawF c 30 3 < ((15:Nat):Int);omega),q _ _ (by omega) (λ z=>by omega) ((z0b hp _).trans ((z0b hp1 _).trans (z0b hp2 _)))⟩
 ·exact ⟨kinds.map V.str,.of z0d,_,z9q (ws:=kinds) r.1 (by show drawF c 30 15 < ((15:Nat):Int);omega),q _ _ (by omega) (λ z=>by omega) ((z0b hp _).trans ((z0b hp1 _).trans (z0b hp2 _)))⟩
abbrev slawspots:Stmt:=top 45
def splawspots:Sp:=λ vs H Q _=>∃i:Nat,i < 15/\vs=[.str (kindS i)]/\∀H' p,Same H H'->H' p=some (.lst ((argsP i).map V.int))->Q (.ref p) H'
theorem y1g:FnScope ["kind"] ["kind"] (defScope slawspots):=⟨rfl,rfl,rfl,by decide +kernel,rfl,by decide +kernel,by decide +kernel⟩
theorem y1o (F:Fun K "_law_spots" "_law_spots" slawspots f fd):FnOk P w K mg base CX0 (1) f fd ["kind"] (splawspots):=by
 have sc:=y1g
 refine F.ok sc (λ vs H Q E h=>?_) (λ cdv A outer s H vs Q E hr h=>?_)
 ·obtain ⟨i,_,rfl,_⟩:=h;rfl
 obtain ⟨i,hi,rfl,q⟩:=h
 refine ⟨_,(z0c (z1b (PW.pt (z3b (z0j z1i (pv 0) z0l (z0q _)) (z3b (z0j z1i (pv 0) z0l (z0q _)) (z2z (z0j z1i (pv 0) z0l (z0q _)))))) (z0g (z0k (z1j z0e))) z0n) (z0c (z1b (z0j z1i (pv 0) z0l (z0q _)) (z0g (z0k (z1j (z0a z0f (z0a z0f (z0a z0f z0e)))))) z0n) (z0c (z1b (z0j z1i (pv 0) z0l (z0q _)) (z0g (z0k (z1j (z0a z0f (z0a z0f z0e))))) z0n) (z0c (z1b (PW.pt (z3b (z0j z1i (pv 0) z0l (z0q _)) (z3b (z0j z1i (pv 0) z0l (z0q _)) (z2z (z0j z1i (pv 0) z0l (z0q _)))))) (z0g (z0k (z1j (z0a z0f z0e)))) z0n) (z0c (z1b (PW.pt (z3b (z0j z1i (pv 0) z0l (z0q _)) (z2z (z0j z1i (pv 0) z0l (z0q _))))) (z0g (z0k (z1j (z0a z0f (z0a z0f z0e))))) z0n) (z0g (z0k (z1j (z0a z0f z0e))))))))),?_⟩
 wp_walk using tSeq,tIfS,tyS,inV,eqV
 match i,hi with
 | 0,_ =>
  rw [if_neg (show ¬kindS 0=Str.ofString "num" by decide +kernel),if_pos (show kindS 0=Str.ofString "in" by decide +kernel)]
  rw [show argsP 0=[] by decide +kernel] at q
  exact ⟨small (by decide),λ p hp=>q _ _ (z0b hp _) z0d⟩
 | 1,_ =>
  rw [if_pos (show kindS 1=Str.ofString "num" by decide +kernel)]
  rw [show argsP 1=[] by decide +kernel] at q
  exact ⟨small (by decide),λ p hp=>q _ _ (z0b hp _) z0d⟩
 | 2,_ =>
  rw [if_neg (show ¬kindS 2=Str.ofString "num" by decide +kernel),if_neg (show ¬kindS 2=Str.ofString "in" by decide +kernel),if_pos (show kindS 2=Str.ofString "count" by decide +kernel)]
  rw [show argsP 2=[] by decide +kernel] at q
  exact ⟨small (by decide),λ p hp=>q _ _ (z0b hp _) z0d⟩
 | 3,_ =>
  rw [if_neg (show ¬kindS 3=Str.ofString "num" by decide +kernel),if_neg (show ¬kindS 3=Str.ofString "in" by decide +kernel),if_neg (show ¬kindS 3=Str.ofString "count" by decide +kernel),if_neg (show ¬kindS 3=Str.ofString "pick" by decide +kernel),if_neg (show ¬kindS 3=Str.ofString "pair" by decide +kernel),if_pos (show kindS 3=Str.ofString "each" by decide +kernel)]
  rw [show argsP 3=[2] by decide +kernel] at q
  exact ⟨small (by decide),λ p hp=>q _ _ (z0b hp _) z0d⟩
 | 4,_ =>
  rw [if_neg (show ¬kindS 4=Str.ofString "num" by decide +kernel),if_neg (show ¬kindS 4=Str.ofString "in" by decide +kernel),if_neg (show ¬kindS 4=Str.ofString "count" by decide +kernel),if_neg (show ¬kindS 4=Str.ofString "pick" by decide +kernel),if_pos (show kindS 4=Str.ofString "pair" by decide +kernel)]
  rw [show argsP 4=[2,3] by decide +kernel] at q
  exact ⟨small (by decide),λ p hp=>q _ _ (z0b hp _) z0d⟩
 | 5,_ =>
  rw [if_neg (show ¬kindS 5=Str.ofString "num" by decide +kernel),if_neg (show ¬kindS 5=Str.ofString "in" by decide +kernel),if_neg (show ¬kindS 5=Str.ofString "count" by decide +kernel),if_pos (show kindS 5=Str.ofString "pick" by decide +kernel)]
  rw [show argsP 5=[1,2,3] by decide +kernel] at q
  exact ⟨small (by decide),λ p hp=>q _ _ (z0b hp _) z0d⟩
 | 6,_ =>
  rw [if_neg (show ¬kindS 6=Str.ofString "num" by decide +kernel),if_neg (show ¬kindS 6=Str.ofString "in" by decide +kernel),if_neg (show ¬kindS 6=Str.ofString "count" by decide +kernel),if_neg (show ¬kindS 6=Str.ofString "pick" by decide +kernel),if_neg (show ¬kindS 6=Str.ofString "pair" by decide +kernel),if_neg (show ¬kindS 6=Str.ofString "each" by decide +kernel),if_neg (show ¬kindS 6=Str.ofString "fold" by decide +kernel),if_neg (show ¬kindS 6=Str.ofString "run" by decide +kernel),if_neg (show ¬kindS 6=Str.ofString "join" by decide +kernel),if_neg (show ¬kindS 6=Str.ofString "fetch" by decide +kernel)]
  rw [show argsP 6=[1] by decide +kernel] at q
  exact ⟨small (by decide),λ p hp=>q _ _ (z0b hp _) z0d⟩
 | 7,_ =>
  rw [if_neg (show ¬kindS 7=Str.ofString "num" by decide +kernel),if_neg (show ¬kindS 7=Str.ofString "in" by decide +kernel),if_neg (show ¬kindS 7=Str.ofString "count" by decide +kernel),if_neg (show ¬kindS 7=Str.ofString "pick" by decide +kernel),if_neg (show ¬kindS 7=Str.ofString "pair" by decide +kernel),if_neg (show ¬kindS 7=Str.ofString "each" by decide +kernel),if_neg (show ¬kindS 7=Str.ofString "fold" by decide +kernel),if_neg (show ¬kindS 7=Str.ofString "run" by decide +kernel),if_neg (show ¬kindS 7=Str.ofString "join" by decide +kernel),if_neg (show ¬kindS 7=Str.ofString "fetch" by decide +kernel)]
  rw [show argsP 7=[1] by decide +kernel] at q
  exact ⟨small (by decide),λ p hp=>q _ _ (z0b hp _) z0d⟩
 | 8,_ =>
  rw [if_neg (show ¬kindS 8=Str.ofString "num" by decide +kernel),if_neg (show ¬kindS 8=Str.ofString "in" by decide +kernel),if_neg (show ¬kindS 8=Str.ofString "count" by decide +kernel),if_neg (show ¬kindS 8=Str.ofString "pick" by decide +kernel),if_neg (show ¬kindS 8=Str.ofString "pair" by decide +kernel),if_neg (show ¬kindS 8=Str.ofString "each" by decide +kernel),if_neg (show ¬kindS 8=Str.ofString "fold" by decide +kernel),if_neg (show ¬kindS 8=Str.ofString "run" by decide +kernel),if_neg (show ¬kindS 8=Str.ofString "join" by decide +kernel),if_neg (show ¬kindS 8=Str.ofString "fetch" by decide +kernel)]
  rw [show argsP 8=[1] by decide +kernel] at q
  exact ⟨small (by decide),λ p hp=>q _ _ (z0b hp _) z0d⟩
 | 9,_ =>
  rw [if_neg (show ¬kindS 9=Str.ofString "num" by decide +kernel),if_neg (show ¬kindS 9=Str.ofString "in" by decide +kernel),if_neg (show ¬kindS 9=Str.ofString "count" by decide +kernel),if_neg (show ¬kindS 9=Str.ofString "pick" by decide +kernel),if_neg (show ¬kindS 9=Str.ofString "pair" by decide +kernel),if_neg (show ¬kindS 9=Str.ofString "each" by decide +kernel),if_neg (show ¬kindS 9=Str.ofString "fold" by decide +kernel),if_neg (show ¬kindS 9=Str.ofString "run" by decide +kernel),if_neg (show ¬kindS 9=Str.ofString "join" by decide +kernel),if_neg (show ¬kindS 9=Str.ofString "fetch" by decide +kernel)]
  rw [show argsP 9=[1] by decide +kernel] at q
  exact ⟨small (by decide),λ p hp=>q _ _ (z0b hp _) z0d⟩
 | 10,_ =>
  rw [if_neg (show ¬kindS 10=Str.ofString "num" by decide +kernel),if_neg (show ¬kindS 10=Str.ofString "in" by decide +kernel),if_neg (show ¬kindS 10=Str.ofString "count" by decide +kernel),if_neg (show ¬kindS 10=Str.ofString "pick" by decide +kernel),if_neg (show ¬kindS 10=Str.ofString "pair" by decide +kernel),if_neg (show ¬kindS 10=Str.ofString "each" by decide +kernel),if_neg (show ¬kindS 10=Str.ofString "fold" by decide +kernel),if_neg (show ¬kindS 10=Str.ofString "run" by decide +kernel),if_neg (show ¬kindS 10=Str.ofString "join" by decide +kernel),if_neg (show ¬kindS 10=Str.ofString "fetch" by decide +kernel)]
  rw [show argsP 10=[1] by decide +kernel] at q
  exact ⟨small (by decide),λ p hp=>q _ _ (z0b hp _) z0d⟩
 | 11,_ =>
  rw [if_neg (show ¬kindS 11=Str.ofString "num" by decide +kernel),if_neg (show ¬kindS 11=Str.ofString "in" by decide +kernel),if_neg (show ¬kindS 11=Str.ofString "count" by decide +kernel),if_neg (show ¬kindS 11=Str.ofString "pick" by decide +kernel),if_neg (show ¬kindS 11=Str.ofString "pair" by decide +kernel),if_neg (show ¬kindS 11=Str.ofString "each" by decide +kernel),if_neg (show ¬kindS 11=Str.ofString "fold" by decide +kernel),if_neg (show ¬kindS 11=Str.ofString "run" by decide +kernel),if_pos (show kindS 11=Str.ofString "join" by decide +kernel)]
  rw [show argsP 11=[1,2] by decide +kernel] at q
  exact ⟨small (by decide),λ p hp=>q _ _ (z0b hp _) z0d⟩
 | 12,_ =>
  rw [if_neg (show ¬kindS 12=Str.ofString "num" by decide +kernel),if_neg (show ¬kindS 12=Str.ofString "in" by decide +kernel),if_neg (show ¬kindS 12=Str.ofString "count" by decide +kernel),if_neg (show ¬kindS 12=Str.ofString "pick" by decide +kernel),if_neg (show ¬kindS 12=Str.ofString "pair" by decide +kernel),if_neg (show ¬kindS 12=Str.ofString "each" by decide +kernel),if_neg (show ¬kindS 12=Str.ofString "fold" by decide +kernel),if_neg (show ¬kindS 12=Str.ofString "run" by decide +kernel),if_neg (show ¬kindS 12=Str.ofString "join" by decide +kernel),if_pos (show kindS 12=Str.ofString "fetch" by decide +kernel)]
  rw [show argsP 12=[1,2] by decide +kernel] at q
  exact ⟨small (by decide),λ p hp=>q _ _ (z0b hp _) z0d⟩
 | 13,_ =>
  rw [if_neg (show ¬kindS 13=Str.ofString "num" by decide +kernel),if_neg (show ¬kindS 13=Str.ofString "in" by decide +kernel),if_neg (show ¬kindS 13=Str.ofString "count" by decide +kernel),if_neg (show ¬kindS 13=Str.ofString "pick" by decide +kernel),if_neg (show ¬kindS 13=Str.ofString "pair" by decide +kernel),if_neg (show ¬kindS 13=Str.ofString "each" by decide +kernel),if_pos (show kindS 13=Str.ofString "fold" by decide +kernel)]
  rw [show argsP 13=[2] by decide +kernel] at q
  exact ⟨small (by decide),λ p hp=>q _ _ (z0b hp _) z0d⟩
 | 14,_ =>
  rw [if_neg (show ¬kindS 14=Str.ofString "num" by decide +kernel),if_neg (show ¬kindS 14=Str.ofString "in" by decide +kernel),if_neg (show ¬kindS 14=Str.ofString "count" by decide +kernel),if_neg (show ¬kindS 14=Str.ofString "pick" by decide +kernel),if_neg (show ¬kindS 14=Str.ofString "pair" by decide +kernel),if_neg (show ¬kindS 14=Str.ofString "each" by decide +kernel),if_neg (show ¬kindS 14=Str.ofString "fold" by decide +kernel),if_pos (show kindS 14=Str.ofString "run" by decide +kernel)]
  rw [show argsP 14=[2] by decide +kernel] at q
  exact ⟨small (by decide),λ p hp=>q _ _ (z0b hp _) z0d⟩
 | n+15,h=>exact absurd h (by omega)
abbrev slawpart:Stmt:=top 44
def splawpart:Sp:=λ vs H Q _=>∃(a na:Addr) (i k:Nat) (xs:List V) (nm:List Str) (n:Int) (z:Str),vs=[.ref a,.int (k:Int),.ref na]/\i < 15/\H a=some (.tup xs)/\xs[0]?=some (.str (kindS i))/\xs[k]?=some (.int n)/\NmAt H na nm/\(((k:Int)∈argsP i/\∃u:Nat,n=(u:Int)/\nm[u]?=some z)\/((k:Int) ∉ argsP i/\n.natAbs < 10 ^ 20/\z=sI n))/\∀H',Same H H'->Q (.str z) H'
theorem y2y:FnScope ["step", "k", "names"] ["step", "k", "names"] (defScope slawpart):=⟨rfl,rfl,rfl,by decide +kernel,rfl,by decide +kernel,by decide +kernel⟩
theorem y4n (F:Fun K "_law_part" "_law_part" slawpart f fd) (clawspots:Callee P w K mg base CX0 (1) "_law_spots" ["kind"] splawspots) (zstr:mg "str" = none):FnOk P w K mg base CX0 (2) f fd ["step", "k", "names"] (splawpart):=by
 have sc:=y2y
 refine F.ok sc (λ vs H Q E h=>?_) (λ cdv A outer s H vs Q E hr h=>?_)
 ·obtain ⟨a,na,i,k,xs,nm,n,z,rfl,_⟩:=h;rfl
 obtain ⟨a,na,i,k,xs,nm,n,z,rfl,hi,ha,h0,hk,hn,hz,q⟩:=h
 refine ⟨_,(z0c (z1b (z0j x3c (pv 1) (z0r clawspots hr (by rfl) z1a (z0a (z0y z0u (pv 0) z0f (λ _ _=>rfl)) z0e)) rfl) (z0g (z0k (z0y y5h (pv 2) (z0y z0u (pv 0) (pv 1) (λ _ _=>rfl)) (λ _ _=>rfl)))) z0n) (z0g (z0k (z1c z3i (by rfl) zstr boot_str (z0a (z0y z0u (pv 0) (pv 1) (λ _ _=>rfl)) z0e))))),?_⟩
 wp_walk using tSeq,tIfS,tyS,splawspots
 refine ⟨_,ha,_,z0i h0,i,hi,rfl,λ H1 p s1 h1=>?_⟩
 refine ⟨_,h1,y5t _,?_⟩
 rcases hz with ⟨m,u,rfl,hu⟩ | ⟨m,b,rfl⟩
 ·rw [if_pos (by rw [z6p];exact decide_eq_true m)]
  exact ⟨_,s1 _ _ ha,_,z0i hk,_,_,rfl,hn.same s1,_,z0i (by rw [List.getElem?_map,hu];rfl),q _ s1⟩
 ·rw [if_neg (by rw [z6p];simpa using m)]
  exact ⟨_,s1 _ _ ha,_,z0i hk,n,rfl,z7p b,q _ s1⟩
abbrev slawrow:Stmt:=top 43
def splawrow:Sp:=λ vs H Q _=>∃(name:Str) (a na:Addr) (d:Sd) (nm:List Str),vs=[.str name,.ref a,.ref na]/\SdAt H d a/\SdOk nm.length d/\NmAt H na nm/\nmOk nm/\name.length≤20/\∀H',Same H H'->Q (.str (rowS d name nm)) H'
theorem y7m:FnScope ["name", "step", "names", "kind", "words", "k", "part"] ["name", "step", "names"] (defScope slawrow):=⟨rfl,rfl,rfl,by decide +kernel,rfl,by decide +kernel,by decide +kernel⟩
theorem y8g (F:Fun K "_law_row" "_law_row" slawrow f fd) (clawpart:Callee P w K mg base CX0 (2) "_law_part" ["step", "k", "names"] splawpart) (zlen:mg "len" = none) (zrange:mg "range" = none) (zisinstance:mg "isinstance" = none) (ztuple:mg "tuple" = none) (zstr:mg "str" = none):FnOk P w K mg base CX0 (3) f fd ["name", "step", "names"] (splawrow):=by
 have sc:=y7m
 refine F.ok sc (λ vs H Q E h=>?_) (λ cdv A outer s H vs Q E hr h=>?_)
 ·obtain ⟨name,a,na,d,nm,rfl,_⟩:=h;rfl
 obtain ⟨name,a,na,d,nm,rfl,⟨ra,ha,hra⟩,ok,hn,no,nl,q⟩:=h
 refine ⟨_,(z0c (z0o (i:=3) sc.nd rfl (by first | exact Or.inl rfl | exact Or.inr rfl) (z0y z0u (pv 1) z0f (λ _ _=>rfl))) (z0c (z0o (i:=4) sc.nd rfl (by first | exact Or.inl rfl | exact Or.inr rfl) (z1j (z0a (pv 0) (z0a z0l (z0a (pv 3) z0e))))) (z0c (z1b (z0j z1i (pv 3) z0l (z0q _)) (z0g (z2h (z3s (pv 4) (z1c z3i (by rfl) zstr boot_str (z0a (z0y z0u (pv 1) z0f (λ _ _=>rfl)) z0e))))) z0n) (z0c (z4m PassesOwn.never rfl (y3p (by rfl) zrange (z0a z0f (z0a (z0s z0t (by rfl) zlen PySem.boot_len (z0a (pv 1) z0e)) z0e))) (z1f (i:=5) sc.nd rfl (Or.inl rfl)) (z0c (z0o (i:=6) sc.nd rfl (by first | exact Or.inl rfl | exact Or.inr rfl) (z0y z0u (pv 1) (pv 5) (λ _ _=>rfl))) (z0g (z1b (z2q (z0s z2t (by rfl) zisinstance boot_isinstance (z0a (pv 6) (z0a (z4e (v:=.ty "tuple") (by rfl) ztuple boot_tuple rfl) z0e)))) (z0g (z0o (i:=4) sc.nd rfl (by first | exact Or.inl rfl | exact Or.inr rfl) (z0w z3u (pv 4) (y0d (own:=["n"]) rfl (z5u (pv 6)) (by decide) (by decide) rfl (by decide) (λ _ _ _ _=>(z1f (i:=0) (show (["n"]:List Str).Nodup by decide +kernel) rfl (Or.inl rfl))) (λ _ _ _ _=>(z1c z3i (by rfl) zstr boot_str (z0a (pv 0) z0e))))))) (z0g (z1b (z2q (z0s z2t (by rfl) zisinstance boot_isinstance (z0a (pv 6) (z0a (z4e (v:=.ty "str") (by rfl) zstr boot_str rfl) z0e)))) (z0g (z2h (z3s (pv 4) (pv 6)))) (z0g (z1b (z0j y8c (pv 3) z0l (z0q _)) (z0g (z2h (z3s (pv 4) (z0r clawpart hr (by rfl) z1a (z0a (pv 1) (z0a (pv 5) (z0a (pv 2) z0e))))))) z0n)))))))) (z0g (z0k (z2r PySem.F.plainAttrs_str PySem.F.slot_str_join PySem.F.type_str_join z1z z0l (z0a (pv 4) z0e)))))))),?_⟩
 simp only [L2.start,List.length_cons,List.length_nil,List.replicate,List.cons_append,List.nil_append,Nat.reduceSub,Nat.reduceAdd,List.map_cons,List.map_nil]
 have hd:(stV d ra)[0]?=some (.str (kindS d.kd)):=z6z ok.1 ..
 refine z0h (λ σ H1=>σ=[some (.str name),some (.ref a),some (.ref na),some (.str (kindS d.kd)),none,none,none]/\H1=H) ?_ (λ R hR=>?_)
 rotate_left
 ·wp_walk using tSeq,tIfS,tyS,inV,eqV
  exact ⟨_,ha,_,z0i hd,hR _ _ ⟨rfl,rfl⟩⟩
 rintro σ0 H0 ⟨rfl,rfl⟩
 refine z0h (λ σ H1=>∃l,σ=[some (.str name),some (.ref a),some (.ref na),some (.str (kindS d.kd)),some (.ref l),none,none]/\H0 l=none/\Same H0 H1/\H1 l=some (.lst (([name, "=",kindS d.kd]:List Str).map V.str))) ?_ (λ R hR=>?_)
 rotate_left
 ·wp_walk using tSeq,tIfS,tyS,inV,eqV
  exact ⟨small (by decide),λ p hp=>hR _ _ ⟨p,rfl,hp,z0b hp _,z0d⟩⟩
 rintro σ1 H1 ⟨l,rfl,hl0,s1,hl⟩
 refine z0h (λ σ H1=>σ=[some (.str name),some (.ref a),some (.ref na),some (.str (kindS d.kd)),some (.ref l),none,none]/\Same H0 H1/\H1 l=some (.lst ((([name, "=",kindS d.kd]:List Str)++preL d).map V.str))) ?_ (λ R hR=>?_)
 rotate_left
 ·wp_walk using tSeq,tIfS,tyS,inV,eqV
  by_cases c:d.kd=2
  ·have ek:kindS d.kd = "count" := by rw [c];rfl
   have e2:(stV d ra)[2]?=some (.int (smF d.c 0)):=by rcases d with ⟨kd,c0,u0,u1,u2⟩;cases (show kd=2 from c);rfl
   rw [if_pos ek]
   refine ⟨⟨_,hl⟩,_,s1 _ _ ha,_,z0i e2,_,rfl,z7p (z2j _ _),_,hl,z0z (by simp),hR _ _ ⟨rfl,λ b' o' e'=>?_,?_⟩⟩
   ·rw [z0m (λ z=>by rw [z,hl0] at e';cases e')];exact s1 _ _ e'
   ·rw [z0d];unfold preL;rw [if_pos c];rfl
  ·rw [if_neg (λ z=>c (y0m ok.1 z))]
   exact hR _ _ ⟨rfl,s1,by unfold preL;rw [if_neg c,List.append_nil];exact hl⟩
 rintro σ2 H2 ⟨rfl,s2,h2⟩
 refine z0h (λ σ H3=>∃l y5 y6,σ=[some (.str name),some (.ref a),some (.ref na),some (.str (kindS d.kd)),some (.ref l),y5,y6]/\Same H0 H3/\H3 l=some (.lst ((([name, "=",kindS d.kd]:List Str)++wordsF d nm).map V.str))) ?_ (λ R hR=>?_)
 rotate_left
 ·wp_walk using tSeq,tIfS,tyS,inV,eqV
  have ln:=x4w (nm:=nm) (ra:=ra) ok.1
  have sl:=y7i (i:=d.kd) ok.1 ra (wordF d.c) (bigF d.c) (smF d.c 0) (smF d.c 1) (smF d.c 2) (smF d.c 3) d.u0 d.u1 d.u2
  have sl:(stV d ra).length≤6:=sl
  refine ⟨_,.inr (.of (s2 _ _ ha)),by omega,by omega,?_⟩
  refine LoopR.mk (λ i σ H3=>∃l y5 y6,σ=[some (.str name),some (.ref a),some (.ref na),some (.str (kindS d.kd)),some (.ref l),y5,y6]/\H0 l=none/\Same H0 H3/\H3 l=some (.lst ((([name, "=",kindS d.kd]:List Str)++preL d++((lawL d nm).take i).flatten).map V.str))) ⟨l,_,_,rfl,hl0,s2,by rw [h2];simp⟩ (λ i σ H3 hi h=>?_) (λ σ H3 h=>?_)
  ·obtain ⟨l,y5,y6,rfl,l0,s3,h3⟩:=h
   have hra3:=s3 _ _ hra
   obtain ⟨x,ws,e1,e2,lw⟩:=x3k (H:=H3) (nm:=nm) ok hra3 i (by omega)
   have few:=y5a ok no hra3 i
   have pl:(preL d).length≤1:=by unfold preL;split<;>simp
   have same:∀ {G:Hp},Same H0 G->∀o,Same H0 (upd G l o):=λ {G} sg o b u e=>by rw [z0m (λ z=>by rw [z,l0] at e;cases e)];exact sg _ _ e
   rw [show (1:Int)+(i:Int)=((i+1:Nat):Int) by omega]
   wp_walk using tSeq,tIfS,inV,eqV
   refine ⟨_,s3 _ _ ha,_,z0i e1,?_⟩
   rw [z7y e2]
   rcases lw with ⟨ar,row,rfl,har,sm,rfl⟩ | ⟨t,rfl,tl,rfl⟩ | ⟨n,rfl,k2,rfl⟩ | ⟨n,rfl,k2,lp⟩
   ·refine ⟨"tuple",.inr ⟨_,rfl,_,har,rfl⟩,?_⟩
    rw [if_pos (by decide +kernel)]
    refine CompT.mk (xs:=row.map V.int) (.of har) (λ j ys σ G=>G=H3/\ys=((row.take j).map sI).map V.str/\∃y,σ=[y]) ⟨rfl,rfl,_,rfl⟩ (λ j ys σ G _ h=>by rw [h.1];exact .of har) (λ j x ys σ G e h=>?_) (λ ys σ G h p2 hp2=>?_)
    ·obtain ⟨rfl,rfl,y,rfl⟩:=h
     obtain ⟨n,hn2,rfl⟩:=x0f e
     have b:=sm.2 n (List.mem_of_getElem? hn2)
     refine ⟨by rw [List.length_map,List.length_map,List.length_take];have:=sm.1;exact z0z (by omega),?_⟩
     wp_walk using tSeq,tIfS,tyS,inV,eqV
     exact ⟨z7p (by omega),by rw [List.take_add_one,hn2,List.map_append,List.map_append];rfl,_,rfl⟩
    ·obtain ⟨rfl,rfl,y,rfl⟩:=h
     rw [z3o,List.take_length]
     have sr:=sm.1
     have s4:=s3.trans (z0b hp2 (HO.lst ((row.map sI).map V.str)))
     refine ⟨p2,rfl,_,z0b hp2 _ _ _ h3,_,z0d,by simp only [List.length_map,List.length_append,List.length_cons,List.length_nil];exact small (by omega),λ p hp=>⟨s4.free hp,s4.trans (z0b hp _),?_⟩⟩
     simp only [List.map_append,List.map_cons,List.map_nil,List.append_assoc,List.cons_append,List.nil_append,List.append_nil]
   ·refine ⟨"str",.inl rfl,?_⟩
    rw [if_neg (by decide +kernel)]
    refine ⟨"str",.inl rfl,?_⟩
    rw [if_pos (by decide +kernel)]
    refine ⟨⟨_,h3⟩,_,h3,by simp only [List.length_map,List.length_append,List.length_cons,List.length_nil];exact z0z (by omega),l0,same s3 _,?_⟩
    simp only [List.map_append,List.map_cons,List.map_nil,List.append_assoc,List.cons_append,List.nil_append,List.append_nil]
   ·refine ⟨"int",.inl rfl,?_⟩
    rw [if_neg (by decide +kernel)]
    refine ⟨"int",.inl rfl,?_⟩
    rw [if_neg (by decide +kernel),if_neg (by rw [k2];simp;decide +kernel)]
    refine ⟨l0,s3,?_⟩
    rw [h3]
    simp only [List.map_append,List.map_cons,List.map_nil,List.append_assoc,List.cons_append,List.nil_append,List.append_nil]
   ·refine ⟨"int",.inl rfl,?_⟩
    rw [if_neg (by decide +kernel)]
    refine ⟨"int",.inl rfl,?_⟩
    rw [if_neg (by decide +kernel),if_pos (λ z=>k2 (y0m ok.1 z))]
    refine ⟨⟨_,h3⟩,?_⟩
    obtain ⟨z,rfl,hz⟩:∃z,ws=[z]/\((((i+1:Nat):Int)∈argsP d.kd/\∃u:Nat,n=(u:Int)/\nm[u]?=some z)\/(((i+1:Nat):Int) ∉ argsP d.kd/\n.natAbs < 10 ^ 20/\z=sI n)):=by
     rcases lp with ⟨m,u,x,e3,hx,rfl⟩ | ⟨m,b,rfl⟩
     ·exact ⟨x,rfl,.inl ⟨m,u,e3,hx⟩⟩
     ·exact ⟨_,rfl,.inr ⟨m,b,rfl⟩⟩
    refine ⟨a,na,d.kd,i+1,_,nm,n,z,rfl,ok.1,s3 _ _ ha,hd,e1,hn.same s3,hz,λ G sG=>?_⟩
    refine ⟨_,sG _ _ h3,by simp only [List.length_map,List.length_append,List.length_cons,List.length_nil];exact z0z (by omega),l0,same (s3.trans sG) _,?_⟩
    simp only [List.map_append,List.map_cons,List.map_nil,List.append_assoc,List.cons_append,List.nil_append,List.append_nil]
  ·obtain ⟨l,y5,y6,rfl,l0,s3,h3⟩:=h
   rw [show ((((stV d ra).length:Nat):Int) - 1).toNat=(lawL d nm).length by omega,List.take_length,List.append_assoc,y5b ok.1] at h3
   exact hR _ _ ⟨l,y5,y6,rfl,s3,h3⟩
 rintro σ3 H3 ⟨l,y5,y6,rfl,s3,h3⟩
 wp_walk using tSeq,tIfS,tyS,inV,eqV
 exact ⟨_,.of h3,Nat.le_trans (z6w (H:=H0) ok no hra (by omega) (by decide +kernel) (z3w ok.1)) (by decide),q _ s3⟩
abbrev slawsteps:Stmt:=top 39
def splawsteps:Sp:=λ vs H Q _=>∃(a:Addr) (ns:List Int),vs=[.ref a]/\H a=some (.lst (ns.map V.int))/\1≤ns.length/\ns.length≤40/\∀H' p ds as,Same H H'->H' p=some (.tup (as.map V.ref))->SdsAt H' ds as->ds.length=ns.length->(∀d∈ds,SdOk ns.length d)->OrdOk ds->Q (.ref p) H'
theorem y1f:FnScope ["cells", "steps", "k", "cell", "ahead", "used"] ["cells"] (defScope slawsteps):=⟨rfl,rfl,rfl,by decide +kernel,rfl,by decide +kernel,by decide +kernel⟩
theorem y1n (F:Fun K "_law_steps" "_law_steps" slawsteps f fd) (clawdraw:Callee P w K mg base CX0 (3) "_law_draw" ["cell", "k", "many"] splawdraw) (clawkind:Callee P w K mg base CX0 (3) "_law_kind" ["cell", "ahead"] splawkind) (clawmade:Callee P w K mg base CX0 (3) "_law_made" ["kind", "cell", "used"] splawmade) (zrange:mg "range" = none) (zlen:mg "len" = none) (zmax:mg "max" = none) (ztuple:mg "tuple" = none):FnOk P w K mg base CX0 (4) f fd ["cells"] (splawsteps):=by
 have sc:=y1f
 refine F.ok sc (λ vs H Q E h=>?_) (λ cdv A outer s H vs Q E hr h=>?_)
 ·obtain ⟨a,ns,rfl,_⟩:=h;rfl
 obtain ⟨a,ns,rfl,ha,n1,n40,q⟩:=h
 refine ⟨_,(z0c (z0o (i:=1) sc.nd rfl (by first | exact Or.inl rfl | exact Or.inr rfl) (z1j z0e)) (z0c (z4m PassesOwn.never rfl (z2a (by rfl) zrange (z0a (z0s z0t (by rfl) zlen PySem.boot_len (z0a (pv 0) z0e)) z0e)) (z1f (i:=2) sc.nd rfl (Or.inl rfl)) (z0c (z0o (i:=3) sc.nd rfl (by first | exact Or.inl rfl | exact Or.inr rfl) (z0w z1m (z0y z0x (pv 0) (pv 2) (λ _ _=>rfl)) (z0w z3t (z0w z3t (pv 2) (pv 2)) z0f))) (z0c (z0o (i:=4) sc.nd rfl (by first | exact Or.inl rfl | exact Or.inr rfl) (z0s (y6q rfl) (by rfl) zmax boot_max (z0a z0f (z0a (pv 2) z0e)))) (z0c (z4w (own:=["j"]) (fv:=["cell", "ahead"]) (js:=[3,4]) sc.nd (i:=5) rfl (by first | exact Or.inl rfl | exact Or.inr rfl) (by first | exact Or.inl rfl | exact Or.inr rfl) rfl (z2a (by rfl) zrange (z0a z0f z0e)) rfl (by decide) rfl (by decide) (by first | exact λ _ _ h=>h | exact z2y rfl | exact z2x rfl rfl | exact z2w rfl rfl rfl) (z3x (by rfl)) rfl (x5f (by first | exact ⟨rfl,.inl rfl,.inl rfl⟩ | exact ⟨rfl,.inl rfl,.inr rfl⟩) (by first | exact ⟨rfl,.inl rfl,.inl rfl⟩ | exact ⟨rfl,.inl rfl,.inr rfl⟩)) (λ _ _ _ _=>(z1f (i:=0) (show (["j", "cell", "ahead"]:List Str).Nodup by decide +kernel) rfl (Or.inl rfl))) (λ _ _ _ _=>(z0r clawdraw hr (by rfl) z1a (z0a (pv 1) (z0a (pv 0) (z0a (pv 2) z0e)))))) (z0g (z2h (z3s (pv 1) (z0r clawmade hr (by rfl) z1a (z0a (z0r clawkind hr (by rfl) z1a (z0a (pv 3) (z0a (pv 2) z0e))) (z0a (pv 3) (z0a (pv 5) z0e))))))))))) (z0g (z0k (z1c z1k (by rfl) ztuple boot_tuple (z0a (pv 1) z0e)))))),?_⟩
 simp only [L2.start,List.length_cons,List.length_nil,List.replicate,List.cons_append,List.nil_append,Nat.reduceSub,Nat.reduceAdd,List.map_cons,List.map_nil]
 refine z0h (λ σ H1=>∃l,σ=[some (.ref a),some (.ref l),none,none,none,none]/\H l=none/\Same H H1/\H1 l=some (.lst [])) ?_ (λ R hR=>?_)
 rotate_left
 ·wp_walk using tSeq,tIfS,tyS,inV,eqV
  exact ⟨small (by decide),λ p hp=>hR _ _ ⟨p,rfl,hp,z0b hp _,z0d⟩⟩
 rintro σ1 H1 ⟨l,rfl,l0,s1,h1⟩
 have same:∀ {G:Hp},Same H G->∀o,Same H (upd G l o):=λ {G} sg o b u e=>by rw [z0m (λ z=>by rw [z,l0] at e;cases e)];exact sg _ _ e
 refine z0h (λ σ H2=>∃y2 y3 y4 y5 ds as,σ=[some (.ref a),some (.ref l),y2,y3,y4,y5]/\Same H H2/\H2 l=some (.lst (as.map V.ref))/\SdsAt H2 ds as/\ds.length=ns.length/\(∀d∈ds,SdOk ns.length d)/\OrdOk ds) ?_ (λ R hR=>?_)
 rotate_left
 ·wp_walk using tSeq,tIfS,tyS,inV,eqV
  refine ⟨_,.inl (.of (s1 _ _ ha)),by rw [z3o];omega,by rw [z3o];omega,?_⟩
  rw [z3o,Int.toNat_natCast]
  refine LoopR.mk (λ i σ H2=>∃y2 y3 y4 y5 ds as,σ=[some (.ref a),some (.ref l),y2,y3,y4,y5]/\Same H H2/\H2 l=some (.lst (as.map V.ref))/\SdsAt H2 ds as/\ds.length=i/\(∀d∈ds,SdOk ns.length d)/\OrdOk ds) ⟨_,_,_,_,[],[],rfl,s1,h1,⟨rfl,λ i d e=>by simp at e⟩,rfl,(λ d hd=>nomatch hd),λ i d e=>by simp at e⟩ (λ i σ H2 hi h=>?_) (λ σ H2 h=>?_)
  ·obtain ⟨y2,y3,y4,y5,ds,as,rfl,s2,h2,sd,dl,dk,od⟩:=h
   simp only [gName,List.set_cons_succ,List.set_cons_zero]
   rw [Int.zero_add]
   refine z0h (λ σ H3=>H3=H2/\∃c:Int,σ=[some (.ref a),some (.ref l),some (.int (i:Int)),some (.int c),y4,y5]) ?_ (λ R hR=>?_)
   rotate_left
   ·wp_walk using tSeq,tIfS,tyS,inV,eqV
    exact ⟨_,s2 _ _ ha,_,x4h (by omega),.inl ⟨by omega,by omega⟩,_,rfl,hR _ _ ⟨rfl,_,rfl⟩⟩
   rintro σ3 H3 ⟨rfl,c,rfl⟩
   refine z0h (λ σ H4=>H4=H3/\∃m:Int,1≤m/\m≤ns.length/\((i:Int)=0\/m≤(i:Int))/\σ=[some (.ref a),some (.ref l),some (.int (i:Int)),some (.int c),some (.int m),y5]) ?_ (λ R hR=>?_)
   rotate_left
   ·wp_walk using tSeq,tIfS,tyS,inV,eqV
    exact hR _ _ ⟨rfl,_,by split<;>omega,by split<;>omega,by split<;>omega,rfl⟩
   rintro σ4 H4 ⟨rfl,m,m1,mn,mi,rfl⟩
   refine z0h (λ σ H5=>Same H4 H5/\∃(pu:Addr) (u0 u1 u2:Nat),(u0 < ns.length/\u1 < ns.length/\u2 < ns.length)/\((i:Int)=0\/(u0 < i/\u1 < i/\u2 < i))/\H5 pu=some (.lst [.int (u0:Int),.int (u1:Int),.int (u2:Int)])/\σ=[some (.ref a),some (.ref l),some (.int (i:Int)),some (.int c),some (.int m),some (.ref pu)]) ?_ (λ R hR=>?_)
   rotate_left
   ·wp_walk using tSeq,tIfS,tyS,inV,eqV
    refine CompR.mk (λ j ys σ G=>G=H4/\(∃us:List Nat,ys=us.map (λ (u:Nat)=>V.int (u:Int))/\us.length=j/\∀u∈us,u < ns.length/\((i:Int)=0\/u < i))/\∃y,σ=[y,some (.int c),some (.int m)]) ⟨rfl,⟨[],rfl,rfl,λ u hu=>nomatch hu⟩,_,rfl⟩ (λ j ys σ G hj h=>?_) (λ ys σ G h p2 hp2=>?_)
    ·obtain ⟨rfl,⟨us,rfl,hus,hub⟩,y,rfl⟩:=h
     refine ⟨by rw [List.length_map];exact z0z (by omega),?_⟩
     wp_walk using tSeq,tIfS,tyS,inV,eqV,splawdraw
     have r:=z0v c (0+(j:Int)) (show 0 < m by omega)
     refine ⟨by omega,by omega,by omega,⟨us++[(drawF c (0+(j:Int)) m).toNat],?_,by simp [hus],λ u hu=>?_⟩,_,rfl⟩
     ·rw [List.map_append]
      show _++[V.int _]=_++[V.int (((drawF c (0+(j:Int)) m).toNat:Nat):Int)]
      rw [Int.toNat_of_nonneg r.1]
     ·rcases List.mem_append.mp hu with hu | hu
      ·exact hub u hu
      ·cases List.mem_singleton.mp hu;exact ⟨by omega,by omega⟩
    ·obtain ⟨rfl,⟨us,rfl,hus,hub⟩,y,rfl⟩:=h
     match us,hus,hub with
     | [u0,u1,u2],_,hub=>exact hR _ _ ⟨z0b hp2 _,p2,u0,u1,u2,⟨(hub u0 (by simp)).1,(hub u1 (by simp)).1,(hub u2 (by simp)).1⟩,by have a:=(hub u0 (by simp)).2;have b:=(hub u1 (by simp)).2;have c:=(hub u2 (by simp)).2;omega,z0d,rfl⟩
   rintro σ5 H5 ⟨s5,pu,u0,u1,u2,⟨b0,b1,b2⟩,bi,h5,rfl⟩
   wp_walk using tSeq,tIfS,tyS,inV,eqV,splawkind,splawmade
   refine ⟨⟨_,s5 _ _ h2⟩,λ H6 kd hk hk0 s6=>⟨kd,hk,rfl,u0,u1,u2,s6 _ _ h5,λ H7 p ra s7 h7 g7=>?_⟩⟩
   have s47:=s5.trans (s6.trans s7)
   have l7:=s47 _ _ h2
   refine ⟨_,l7,by rw [List.length_map];have:=sd.1;exact z0z (by omega),same (s2.trans s47) _,?_⟩
   refine ⟨ds++[⟨kd,c,u0,u1,u2⟩],as++[p],by rw [List.map_append];rfl,?_,by simp [dl],λ d hd=>?_,λ z d e=>?_⟩
   ·exact ((sd.same s47).snoc ⟨ra,h7,g7⟩).lst l7
   ·rcases List.mem_append.mp hd with hd | hd
    ·exact dk d hd
    ·cases List.mem_singleton.mp hd;exact ⟨hk,b0,b1,b2⟩
   ·rcases Nat.lt_or_ge z ds.length with hz | hz
    ·rw [List.getElem?_append_left hz] at e
     exact od z d e
    ·rw [List.getElem?_append_right hz] at e
     have z0:z - ds.length=0:=by
      cases h0:z - ds.length with
      | zero=>rfl
      | succ n=>rw [h0] at e;cases e
     rw [z0] at e
     cases (Option.some.inj e)
     have zi:z=i:=by omega
     subst zi
     rcases bi with bi | bi
     ·exact .inl (hk0 bi)
     ·exact .inr bi
  ·exact hR _ _ h
 rintro σ2 H2 ⟨y2,y3,y4,y5,ds,as,rfl,s2,h2,sd,dl,dk,od⟩
 wp_walk using tSeq,tIfS,tyS,inV,eqV
 refine ⟨_,.inl ⟨.of h2,λ p hp=>q _ _ ds as (s2.trans (z0b hp _)) z0d (sd.same (z0b hp _)) dl dk od⟩⟩
abbrev slawprogram:Stmt:=top 40
def splawprogram:W.Frag->Sp:=λ K=>λ vs H Q _=>∃(a:Addr) (ns:List Int),vs=[.ref a]/\SqL K H a (ns.map V.int)/\ns.length≤63/\∀H' p st ou ds as (os:List Nat),Same H H'->H' p=some (.tup [.ref st,.ref ou])->H' st=some (.tup (as.map V.ref))->SdsAt H' ds as->1≤ds.length->ds.length≤40->(∀d∈ds,SdOk ds.length d)->H' ou=some (.tup (os.map λ (o:Nat)=>V.int (o:Int)))->1≤os.length->os.length≤8->(∀o∈os,o < ds.length)->OrdOk ds->Q (.ref p) H'
theorem z7d:FnScope ["script", "cells", "steps", "total", "outs", "j"] ["script"] (defScope slawprogram):=⟨rfl,rfl,rfl,by decide +kernel,rfl,by decide +kernel,by decide +kernel⟩
theorem z7k (F:Fun K "_law_program" "_law_program" slawprogram f fd) (clawsteps:Callee P w K mg base CX0 (4) "_law_steps" ["cells"] splawsteps) (clawdraw:Callee P w K mg base CX0 (4) "_law_draw" ["cell", "k", "many"] splawdraw) (zlen:mg "len" = none) (zsum:mg "sum" = none) (zrange:mg "range" = none) (ztuple:mg "tuple" = none):FnOk P w K mg base CX0 (5) f fd ["script"] (splawprogram K):=by
 have sc:=z7d
 refine F.ok sc (λ vs H Q E h=>?_) (λ cdv A outer s H vs Q E hr h=>?_)
 ·obtain ⟨a,ns,rfl,_⟩:=h;rfl
 obtain ⟨a,ns,rfl,hS,h63,q⟩:=h
 refine ⟨_,(z0c (z0o (i:=1) sc.nd rfl (by first | exact Or.inl rfl | exact Or.inr rfl) (z1o z2n (pv 0) z1y (z1x z0f))) (z0c (z1b (z0j z1i (z0s z0t (by rfl) zlen PySem.boot_len (z0a (pv 1) z0e)) z0f (z0q _)) (z0g (z0o (i:=1) sc.nd rfl (by first | exact Or.inl rfl | exact Or.inr rfl) (z1j (z0a z0f z0e)))) z0n) (z0c (z0o (i:=2) sc.nd rfl (by first | exact Or.inl rfl | exact Or.inr rfl) (z0r clawsteps hr (by rfl) z1a (z0a (pv 1) z0e))) (z0c (z0o (i:=3) sc.nd rfl (by first | exact Or.inl rfl | exact Or.inr rfl) (z0s (z8b rfl) (by rfl) zsum boot_sum (z0a (pv 0) z0e))) (z0c (z0o (i:=4) sc.nd rfl (by first | exact Or.inl rfl | exact Or.inr rfl) (z1j z0e)) (z0c (z4m PassesOwn.never rfl (z2a (by rfl) zrange (z0a (z0w z1m z0f (z0r clawdraw hr (by rfl) z1a (z0a (pv 3) (z0a z0f (z0a z0f z0e))))) z0e)) (z1f (i:=5) sc.nd rfl (Or.inl rfl)) (z0g (z2h (z3s (pv 4) (z0r clawdraw hr (by rfl) z1a (z0a (z0w z1m (pv 3) (z0w z3t (pv 5) (pv 5))) (z0a (z0w z1m z0f (pv 5)) (z0a (z0s z0t (by rfl) zlen PySem.boot_len (z0a (pv 2) z0e)) z0e)))))))) (z0g (z0k (z1w (z0a (pv 2) (z0a (z1c z1k (by rfl) ztuple boot_tuple (z0a (pv 4) z0e)) z0e))))))))))),?_⟩
 simp only [L2.start,List.length_cons,List.length_nil,List.replicate,List.cons_append,List.nil_append,Nat.reduceSub,Nat.reduceAdd,List.map_cons,List.map_nil]
 refine z0h (λ σ H1=>∃ca,σ=[some (.ref a),some (.ref ca),none,none,none,none]/\Same H H1/\H1 ca=some (.lst ((ns.take 40).map V.int))) ?_ (λ R hR=>?_)
 rotate_left
 ·wp_walk using tSeq,tIfS,tyS,inV,eqV,rSlL
  refine ⟨_,hS,λ p hp=>?_⟩
  rw [show cutV (ns.map V.int) none (some 40)=(ns.take 40).map V.int from x1v ns 40]
  exact hR _ _ ⟨p,rfl,z0b hp _,z0d⟩
 rintro σ1 H1 ⟨ca,rfl,s1,h1⟩
 refine z0h (λ σ H2=>∃(ca:Addr) (ms:List Int),σ=[some (.ref a),some (.ref ca),none,none,none,none]/\Same H H2/\H2 ca=some (.lst (ms.map V.int))/\1≤ms.length/\ms.length≤40) ?_ (λ R hR=>?_)
 rotate_left
 ·wp_walk using tSeq,tIfS,tyS,inV,eqV
  refine ⟨_,.inl (.of h1),?_⟩
  have tl:(ns.take 40).length≤40:=by rw [List.length_take];omega
  split
  ·exact ⟨small (by decide),λ p hp=>hR _ _ ⟨p,[0],rfl,s1.trans (z0b hp _),z0d,by simp,by simp⟩⟩
  ·rename_i c
   rw [z3o] at c
   exact hR _ _ ⟨ca,_,rfl,s1,h1,by omega,tl⟩
 rintro σ2 H2 ⟨ca,ms,rfl,s2,h2,m1,m40⟩
 refine z0h (λ σ H3=>∃(st:Addr) (ds:List Sd) (as:List Addr),σ=[some (.ref a),some (.ref ca),some (.ref st),none,none,none]/\Same H H3/\H3 st=some (.tup (as.map V.ref))/\SdsAt H3 ds as/\ds.length=ms.length/\(∀d∈ds,SdOk ds.length d)/\OrdOk ds) ?_ (λ R hR=>?_)
 rotate_left
 ·wp_walk using tSeq,tIfS,tyS,inV,eqV,splawsteps
  exact ⟨ms,h2,m1,m40,λ H3 p ds as s3 h3 sd dl dk od=>hR _ _ ⟨p,ds,as,rfl,s2.trans s3,h3,sd,dl,(λ d hd=>by rw [dl];exact dk d hd),od⟩⟩
 rintro σ3 H3 ⟨st,ds,as,rfl,s3,h3,sd,dl,dk,od⟩
 refine z0h (λ σ H4=>H4=H3/\∃t:Int,σ=[some (.ref a),some (.ref ca),some (.ref st),some (.int t),none,none]) ?_ (λ R hR=>?_)
 rotate_left
 ·wp_walk using tSeq,tIfS,tyS,inV,eqV
  exact ⟨ns,s3.seq hS,hR _ _ ⟨rfl,_,rfl⟩⟩
 rintro σ4 H4 ⟨rfl,t,rfl⟩
 refine z0h (λ σ H5=>∃l,σ=[some (.ref a),some (.ref ca),some (.ref st),some (.int t),some (.ref l),none]/\H4 l=none/\Same H4 H5/\H5 l=some (.lst [])) ?_ (λ R hR=>?_)
 rotate_left
 ·wp_walk using tSeq,tIfS,tyS,inV,eqV
  exact ⟨small (by decide),λ p hp=>hR _ _ ⟨p,rfl,hp,z0b hp _,z0d⟩⟩
 rintro σ5 H5 ⟨l,rfl,l0,s5,h5⟩
 have same:∀ {G:Hp},Same H4 G->∀o,Same H4 (upd G l o):=λ {G} sg o b u e=>by rw [z0m (λ z=>by rw [z,l0] at e;cases e)];exact sg _ _ e
 have r8:=z0v t 61 (show (0:Int) < 8 by decide)
 refine z0h (λ σ H6=>∃(y5:Option V) (os:List Nat),σ=[some (.ref a),some (.ref ca),some (.ref st),some (.int t),some (.ref l),y5]/\Same H4 H6/\H6 l=some (.lst (os.map λ (o:Nat)=>V.int (o:Int)))/\1≤os.length/\os.length≤8/\∀o∈os,o < ds.length) ?_ (λ R hR=>?_)
 rotate_left
 ·wp_walk using tSeq,tIfS,tyS,inV,eqV,splawdraw
  refine ⟨by omega,by omega,?_⟩
  generalize hz:(1+drawF t 61 8).toNat=nz at *
  refine LoopR.mk (λ i σ H6=>∃(y5:Option V) (os:List Nat),σ=[some (.ref a),some (.ref ca),some (.ref st),some (.int t),some (.ref l),y5]/\Same H4 H6/\H6 l=some (.lst (os.map λ (o:Nat)=>V.int (o:Int)))/\os.length=i/\∀o∈os,o < ds.length) ⟨_,[],rfl,s5,h5,rfl,λ o ho=>nomatch ho⟩ (λ i σ H6 hi h=>?_) (λ σ H6 h=>?_)
  ·obtain ⟨y5,os,rfl,s6,h6,ol,ob⟩:=h
   wp_walk using tSeq,tIfS,tyS,inV,eqV,splawdraw
   have al:(as.map V.ref).length=ds.length:=by rw [List.length_map,sd.1]
   have r:=z0v (t+(0+(i:Int)) * (0+(i:Int))) (60+(0+(i:Int))) (show (0:Int) < ((as.map V.ref).length:Int) by rw [al];omega)
   refine ⟨⟨_,h6⟩,.inl ⟨by omega,by omega⟩,_,.inr (.of (s6 _ _ h3)),by omega,by omega,by rw [al];omega,_,h6,by rw [List.length_map];exact z0z (by omega),same s6 _,os++[(drawF (t+(0+(i:Int)) * (0+(i:Int))) (60+(0+(i:Int))) ((as.map V.ref).length:Int)).toNat],?_,by simp [ol],λ o ho=>?_⟩
   ·rw [List.map_append,List.map_cons,List.map_nil,Int.toNat_of_nonneg r.1]
   ·rcases List.mem_append.mp ho with ho | ho
    ·exact ob o ho
    ·cases List.mem_singleton.mp ho;rw [al] at r;rw [al];omega
  ·obtain ⟨y5,os,rfl,s6,h6,ol,ob⟩:=h
   exact hR _ _ ⟨y5,os,rfl,s6,h6,by omega,by omega,ob⟩
 rintro σ6 H6 ⟨y5,os,rfl,s6,h6,o1,o8,ob⟩
 wp_walk using tSeq,tIfS,tyS,inV,eqV
 refine ⟨_,.inl ⟨.of h6,λ p hp=>⟨small (by decide),λ p1 hp1=>?_⟩⟩⟩
 have s8:=s6.trans ((z0b hp (HO.tup (os.map λ (o:Nat)=>V.int (o:Int)))).trans (z0b hp1 (HO.tup [V.ref st,V.ref p])))
 exact q _ p1 st p ds as os (s3.trans s8) z0d (s8 _ _ h3) (sd.same s8) (by omega) (by omega) dk (z0b hp1 _ _ _ z0d) o1 o8 ob od
abbrev slawplainname:Stmt:=top 41
def splawplainname:Sp:=λ vs H Q _=>∃k:Nat,vs=[.int (k:Int)]/\k < 40/\Q (.str (plainF k)) H
theorem z5g:FnScope ["k", "some"] ["k"] (defScope slawplainname):=⟨rfl,rfl,rfl,by decide +kernel,rfl,by decide +kernel,by decide +kernel⟩
theorem z5h (F:Fun K "_law_plain_name" "_law_plain_name" slawplainname f fd):FnOk P w K mg base CX0 (1) f fd ["k"] (splawplainname):=by
 have sc:=z5g
 refine F.ok sc (λ vs H Q E h=>?_) (λ cdv A outer s H vs Q E hr h=>?_)
 ·obtain ⟨k,rfl,_⟩:=h;rfl
 obtain ⟨k,rfl,k40,q⟩:=h
 refine ⟨_,(z0c (z0o (i:=1) sc.nd rfl (by first | exact Or.inl rfl | exact Or.inr rfl) z0l) (z0c (z1b (z0j z8y (pv 0) z0f (z0q _)) (z0g (z0k (z1h (pv 1) (pv 0) (λ _ _=>rfl)))) z0n) (z0g (z0k (z0w z1p (z1h (pv 1) (z0w z4y (z0w z8z (pv 0) z0f) z0f) (λ _ _=>rfl)) (z1h (pv 1) (z0w z3e (pv 0) z0f) (λ _ _=>rfl))))))),?_⟩
 wp_walk using tSeq,tIfS,tyS,inV,eqV
 unfold plainF at q
 by_cases c:k < 26
 ·rw [if_pos (by omega)]
  rw [if_pos c] at q
  exact ⟨by omega,by omega,by rw [z3j];omega,_,y9y c,q⟩
 ·rw [if_neg (by omega)]
  rw [if_neg c] at q
  have e1:((k:Int) / 26 - 1).toNat=k / 26 - 1:=by omega
  have e2:((k:Int) % 26).toNat=k % 26:=by omega
  refine ⟨by omega,by omega,by rw [z3j];omega,97+(k / 26 - 1),by rw [e1];exact y9y (by omega),by omega,by omega,by rw [z3j];omega,97+k % 26,by rw [e2];exact y9y (by omega),?_⟩
  exact ⟨small (show 2≤1000 by decide),q⟩
abbrev slawnames:Stmt:=top 42
def splawnames:Sp:=λ vs H Q _=>∃(c:Int) (n:Nat),vs=[.int c,.int (n:Int)]/\n≤40/\∀H' p nm,Same H H'->H' p=some (.tup (nm.map V.str))->nm.length=n->nmGood nm->Q (.ref p) H'
@[irreducible] def wplawnames:List (Str × Pos):=[("out",⟨206,13,206,18⟩),("in",⟨206,20,206,24⟩),("num",⟨206,26,206,31⟩),("count",⟨206,33,206,40⟩),("each",⟨206,42,206,48⟩),("pair",⟨206,50,206,56⟩),("pick",⟨206,58,206,64⟩),("turn",⟨206,66,206,72⟩),("flip",⟨206,74,206,80⟩),("cut",⟨206,82,206,87⟩),("spread",⟨206,89,206,97⟩),("lay",⟨206,99,206,104⟩)]
theorem y2b:defBody slawnames=[(defBody slawnames).getD 0 (.Pass ⟨0,0,0,0⟩),(defBody slawnames).getD 1 (.Pass ⟨0,0,0,0⟩),(defBody slawnames).getD 2 (.Pass ⟨0,0,0,0⟩),(defBody slawnames).getD 3 (.Pass ⟨0,0,0,0⟩),(defBody slawnames).getD 4 (.Pass ⟨0,0,0,0⟩),.Assign [.Name "kinds" ⟨206,4,206,9⟩] (.List (strsC wplawnames) ⟨206,12,206,105⟩) ⟨206,4,206,105⟩,(defBody slawnames).getD 6 (.Pass ⟨0,0,0,0⟩),(defBody slawnames).getD 7 (.Pass ⟨0,0,0,0⟩),(defBody slawnames).getD 8 (.Pass ⟨0,0,0,0⟩),(defBody slawnames).getD 9 (.Pass ⟨0,0,0,0⟩)]:=by kernel_rfl
theorem z5j:(wplawnames.map (·.1)).map V.str=[V.str "out",V.str "in",V.str "num",V.str "count",V.str "each",V.str "pair",V.str "pick",V.str "turn",V.str "flip",V.str "cut",V.str "spread",V.str "lay"]:=by unfold wplawnames;rfl
theorem y1h:FnScope ["cell", "many", "some", "way", "fill", "spot", "step", "kinds", "names", "k", "name"] ["cell", "many"] (defScope slawnames):=⟨rfl,rfl,rfl,by decide +kernel,rfl,by decide +kernel,by decide +kernel⟩
theorem y1p (F:Fun K "_law_names" "_law_names" slawnames f fd) (clawdraw:Callee P w K mg base CX0 (1) "_law_draw" ["cell", "k", "many"] splawdraw) (clawplainname:Callee P w K mg base CX0 (1) "_law_plain_name" ["k"] splawplainname) (zrange:mg "range" = none) (ztuple:mg "tuple" = none):FnOk P w K mg base CX0 (2) f fd ["cell", "many"] (splawnames):=by
 have sc:=y1h
 refine F.ok sc (λ vs H Q E h=>?_) (λ cdv A outer s H vs Q E hr h=>?_)
 ·obtain ⟨c,n,rfl,_⟩:=h;rfl
 obtain ⟨c,n,rfl,n40,q⟩:=h
 rw [y2b]
 refine ⟨_,(z0c (z0o (i:=2) sc.nd rfl (by first | exact Or.inl rfl | exact Or.inr rfl) z0l) (z0c (z0o (i:=3) sc.nd rfl (by first | exact Or.inl rfl | exact Or.inr rfl) (z0r clawdraw hr (by rfl) z1a (z0a (pv 0) (z0a z0f (z0a z0f z0e))))) (z0c (z0o (i:=4) sc.nd rfl (by first | exact Or.inl rfl | exact Or.inr rfl) (z1h (pv 2) (z0r clawdraw hr (by rfl) z1a (z0a (pv 0) (z0a z0f (z0a z0f z0e)))) (λ _ _=>rfl))) (z0c (z0o (i:=5) sc.nd rfl (by first | exact Or.inl rfl | exact Or.inr rfl) (z0r clawdraw hr (by rfl) z1a (z0a (pv 0) (z0a z0f (z0a z0f z0e))))) (z0c (z0o (i:=6) sc.nd rfl (by first | exact Or.inl rfl | exact Or.inr rfl) (z0r clawdraw hr (by rfl) z1a (z0a (pv 0) (z0a z0f (z0a z0f z0e))))) (z0c (z0o (i:=7) sc.nd rfl (by first | exact Or.inl rfl | exact Or.inr rfl) (z1j (z8w wplawnames))) (z0c (z0o (i:=7) sc.nd rfl (by first | exact Or.inl rfl | exact Or.inr rfl) (z0w z3u (pv 7) (z1j (z2e (z2e (z2e (z2e (z2e (z2e (z2e z0e)))))))))) (z0c (z0o (i:=8) sc.nd rfl (by first | exact Or.inl rfl | exact Or.inr rfl) (z1j z0e)) (z0c (z4m PassesOwn.never rfl (z2a (by rfl) zrange (z0a (pv 1) z0e)) (z1f (i:=9) sc.nd rfl (Or.inl rfl)) (z0c (z0o (i:=10) sc.nd rfl (by first | exact Or.inl rfl | exact Or.inr rfl) (z0r clawplainname hr (by rfl) z1a (z0a (pv 9) z0e))) (z0c (z1b (z0j z1i (pv 3) z0f (z0q _)) (z0g (z0o (i:=10) sc.nd rfl (by first | exact Or.inl rfl | exact Or.inr rfl) (z0w z1p (z0w z4h (pv 4) (z0w z3e (pv 9) z0f)) (z1h (pv 2) (z0w z3e (z0w z1m (pv 6) (z0w z8z (pv 9) z0f)) z0f) (λ _ _=>rfl))))) z0n) (z0c (z1b (PW.pt (z3b (z0j z1i (pv 3) z0f (z0q _)) (z2z (z0j z1i (pv 3) z0f (z0q _))))) (z0c (z0o (i:=10) sc.nd rfl (by first | exact Or.inl rfl | exact Or.inr rfl) (z0w z1p (z1h (pv 2) (z0w z3e (z0w z1m (pv 6) (pv 9)) z0f) (λ _ _=>rfl)) (z1h (pv 2) (z0w z8z (pv 9) z0f) (λ _ _=>rfl)))) (z0g (z0o (i:=10) sc.nd rfl (by first | exact Or.inl rfl | exact Or.inr rfl) (z0w z1p (z0w z1p (z0w z4h (pv 4) (pv 5)) (pv 10)) (z0w z4h (pv 4) (z0w z4y z0f (pv 5))))))) z0n) (z0c (z1b (PW.pt (y3k (z0j z1i (pv 3) z0f (z0q _)) (z8s (z0j z8y (pv 9) z0f (z0q _))))) (z0g (z0o (i:=10) sc.nd rfl (by first | exact Or.inl rfl | exact Or.inr rfl) (z0y z0x (pv 7) (z0w z3e (z0w z1m (pv 9) (pv 6)) z0f) (λ _ _=>rfl)))) z0n) (z0g (z2h (z3s (pv 8) (pv 10))))))))) (z0g (z0k (z1c z1k (by rfl) ztuple boot_tuple (z0a (pv 8) z0e))))))))))))),?_⟩
 simp only [L2.start,List.length_cons,List.length_nil,List.replicate,List.cons_append,List.nil_append,Nat.reduceSub,Nat.reduceAdd,List.map_cons,List.map_nil]
 refine z0h (λ σ H1=>H1=H/\σ=[some (.int c),some (.int (n:Int)),some (.str ABC),none,none,none,none,none,none,none,none]) ?_ (λ R hR=>?_)
 rotate_left
 ·wp_walk using tSeq,tIfS,tyS,inV,eqV
  exact hR _ _ ⟨rfl,rfl⟩
 rintro σ1 H1 ⟨rfl,rfl⟩
 have two (f:Nat):strL [97+f]=⟨#[97+f]⟩:=rfl
 refine z0h (λ σ H2=>H2=H1/\∃way:Nat,σ=[some (.int c),some (.int (n:Int)),some (.str ABC),some (.int (way:Int)),none,none,none,none,none,none,none]) ?_ (λ R hR=>?_)
 rotate_left
 ·wp_walk using tSeq,tIfS,tyS,inV,eqV,splawdraw
  have r:=z0v c 70 (show (0:Int) < 4 by decide)
  exact hR _ _ ⟨rfl,(drawF c 70 4).toNat,by rw [Int.toNat_of_nonneg r.1]⟩
 rintro σ2 H2 ⟨rfl,way,rfl⟩
 refine z0h (λ σ H3=>H3=H2/\∃fl:Nat,fl < 26/\σ=[some (.int c),some (.int (n:Int)),some (.str ABC),some (.int (way:Int)),some (.str (strL [97+fl])),none,none,none,none,none,none]) ?_ (λ R hR=>?_)
 rotate_left
 ·wp_walk using tSeq,tIfS,tyS,inV,eqV,splawdraw
  have r:=z0v c 71 (show (0:Int) < 26 by decide)
  exact ⟨r.1,by omega,by rw [z3j];omega,_,x4j r.1 r.2,hR _ _ ⟨rfl,(drawF c 71 26).toNat,by omega,rfl⟩⟩
 rintro σ3 H3 ⟨rfl,fl,fl1,rfl⟩
 refine z0h (λ σ H4=>H4=H3/\∃sp:Nat,sp < 7/\σ=[some (.int c),some (.int (n:Int)),some (.str ABC),some (.int (way:Int)),some (.str (strL [97+fl])),some (.int (sp:Int)),none,none,none,none,none]) ?_ (λ R hR=>?_)
 rotate_left
 ·wp_walk using tSeq,tIfS,tyS,inV,eqV,splawdraw
  have r:=z0v c 72 (show (0:Int) < 7 by decide)
  exact hR _ _ ⟨rfl,(drawF c 72 7).toNat,by omega,by rw [Int.toNat_of_nonneg r.1]⟩
 rintro σ4 H4 ⟨rfl,sp,sp7,rfl⟩
 refine z0h (λ σ H5=>H5=H4/\∃st:Nat,st < 26/\σ=[some (.int c),some (.int (n:Int)),some (.str ABC),some (.int (way:Int)),some (.str (strL [97+fl])),some (.int (sp:Int)),some (.int (st:Int)),none,none,none,none]) ?_ (λ R hR=>?_)
 rotate_left
 ·wp_walk using tSeq,tIfS,tyS,inV,eqV,splawdraw
  have r:=z0v c 73 (show (0:Int) < 26 by decide)
  exact hR _ _ ⟨rfl,(drawF c 73 26).toNat,by omega,by rw [Int.toNat_of_nonneg r.1]⟩
 rintro σ5 H5 ⟨rfl,st,st26,rfl⟩
 refine z0h (λ σ H6=>∃pk,σ=[some (.int c),some (.int (n:Int)),some (.str ABC),some (.int (way:Int)),some (.str (strL [97+fl])),some (.int (sp:Int)),some (.int (st:Int)),some (.ref pk),none,none,none]/\Same H5 H6/\H6 pk=some (.lst ((wplawnames.map (·.1)).map V.str))) ?_ (λ R hR=>?_)
 rotate_left
 ·wp_walk using tSeq,tIfS,tyS,inV,eqV,tStrs
  exact ⟨by rw [z5j];exact small (by decide),λ p hp=>hR _ _ ⟨p,rfl,z0b hp _,z0d⟩⟩
 rintro σ6 H6 ⟨pk,rfl,s6,h6⟩
 rw [z5j] at h6
 refine z0h (λ σ H7=>∃pk,σ=[some (.int c),some (.int (n:Int)),some (.str ABC),some (.int (way:Int)),some (.str (strL [97+fl])),some (.int (sp:Int)),some (.int (st:Int)),some (.ref pk),none,none,none]/\Same H5 H7/\H7 pk=some (.lst (k19.map V.str))) ?_ (λ R hR=>?_)
 rotate_left
 ·wp_walk using tSeq,tIfS,tyS,inV,eqV
  exact ⟨small (by decide),λ p hp=>⟨_,z0b hp _ _ _ h6,small (by decide),λ p1 hp1=>hR _ _ ⟨p1,rfl,s6.trans ((z0b hp _).trans (z0b hp1 _)),z0d⟩⟩⟩
 clear h6 s6
 rintro σ7 H7 ⟨pk,rfl,s7,h7⟩
 refine z0h (λ σ H8=>∃l,σ=[some (.int c),some (.int (n:Int)),some (.str ABC),some (.int (way:Int)),some (.str (strL [97+fl])),some (.int (sp:Int)),some (.int (st:Int)),some (.ref pk),some (.ref l),none,none]/\H7 l=none/\Same H7 H8/\H8 l=some (.lst [])) ?_ (λ R hR=>?_)
 rotate_left
 ·wp_walk using tSeq,tIfS,tyS,inV,eqV
  exact ⟨small (by decide),λ p hp=>hR _ _ ⟨p,rfl,hp,z0b hp _,z0d⟩⟩
 rintro σ8 H8 ⟨l,rfl,l0,s8,h8⟩
 have same:∀ {G:Hp},Same H7 G->∀o,Same H7 (upd G l o):=λ {G} sg o b u e=>by rw [z0m (λ z=>by rw [z,l0] at e;cases e)];exact sg _ _ e
 have mid26:∀ {m:Int}(f:Nat),0≤m->m < 26->f=m.toNat->ABC.cps[m.toNat]?=some (97+f):=λ f h0 h1 e=>by rw [e];exact x4j h0 h1
 refine z0h (λ σ H9=>∃(y9 y10:Option V),σ=[some (.int c),some (.int (n:Int)),some (.str ABC),some (.int (way:Int)),some (.str (strL [97+fl])),some (.int (sp:Int)),some (.int (st:Int)),some (.ref pk),some (.ref l),y9,y10]/\Same H7 H9/\H9 l=some (.lst ((namesF way fl sp st n).map V.str))) ?_ (λ R hR=>?_)
 rotate_left
 ·wp_walk using tSeq,tIfS,tyS,inV,eqV
  refine ⟨by omega,by omega,?_⟩
  rw [Int.toNat_natCast]
  refine LoopR.mk (λ i σ H9=>∃(y9 y10:Option V),σ=[some (.int c),some (.int (n:Int)),some (.str ABC),some (.int (way:Int)),some (.str (strL [97+fl])),some (.int (sp:Int)),some (.int (st:Int)),some (.ref pk),some (.ref l),y9,y10]/\Same H7 H9/\H9 l=some (.lst ((namesF way fl sp st i).map V.str))) ⟨_,_,rfl,s8,h8⟩ (λ i σ H9 hi h=>?_) (λ σ H9 h=>?_)
  ·obtain ⟨y9,y10,rfl,s9,h9⟩:=h
   rw [Int.zero_add]
   simp only [gName,List.set_cons_succ,List.set_cons_zero]
   refine z0h (λ σ G=>G=H9/\σ=[some (.int c),some (.int (n:Int)),some (.str ABC),some (.int (way:Int)),some (.str (strL [97+fl])),some (.int (sp:Int)),some (.int (st:Int)),some (.ref pk),some (.ref l),some (.int (i:Int)),some (.str (strL (plainF i).cps.toList))]) ?_ (λ R hR=>?_)
   rotate_left
   ·wp_walk using tSeq,tIfS,tyS,inV,eqV,splawplainname
    exact ⟨i,rfl,by omega,hR _ _ ⟨rfl,by rw [← z1r rfl]⟩⟩
   rintro σA G ⟨rfl,rfl⟩
   refine z0h (λ σ G'=>G'=G/\σ=[some (.int c),some (.int (n:Int)),some (.str ABC),some (.int (way:Int)),some (.str (strL [97+fl])),some (.int (sp:Int)),some (.int (st:Int)),some (.ref pk),some (.ref l),some (.int (i:Int)),some (.str (strL (nA way fl st i)))]) ?_ (λ R hR=>?_)
   rotate_left
   ·wp_walk using tSeq,tIfS,tyS,inV,eqV,splawplainname
    unfold nA at hR
    split
    ·rename_i c1
     rw [if_pos (by omega)] at hR
     refine ⟨[97+fl],rfl,by omega,by omega,by simp,?_⟩
     refine ⟨by omega,by omega,by rw [z3j];omega,97+(st+i / 8) % 26,mid26 _ (by omega) (by omega) (by omega),by rw [z6n];show _+1≤sizeLine;exact small (by omega),hR _ _ ⟨rfl,?_⟩⟩
     rw [show (⟨#[97+(st+i / 8) % 26]⟩:Str)=strL [97+(st+i / 8) % 26] from rfl,z4q,show ((i:Int) % 8).toNat=i % 8 by omega,z4b]
    ·rename_i c1
     rw [if_neg (by omega)] at hR
     exact hR _ _ ⟨rfl,rfl⟩
   rintro σB G ⟨rfl,rfl⟩
   refine z0h (λ σ G'=>G'=G/\σ=[some (.int c),some (.int (n:Int)),some (.str ABC),some (.int (way:Int)),some (.str (strL [97+fl])),some (.int (sp:Int)),some (.int (st:Int)),some (.ref pk),some (.ref l),some (.int (i:Int)),some (.str (strL (nB way fl sp st i)))]) ?_ (λ R hR=>?_)
   rotate_left
   ·wp_walk using tSeq,tIfS,tyS,inV,eqV,splawplainname
    have go:R [some (.int c),some (.int (n:Int)),some (.str ABC),some (.int (way:Int)),some (.str (strL [97+fl])),some (.int (sp:Int)),some (.int (st:Int)),some (.ref pk),some (.ref l),some (.int (i:Int)),some (.str (strL (nB way fl sp st i)))] G:=hR _ _ ⟨rfl,rfl⟩
    have i40:i < 40:=by omega
    have put:∀a b:List Nat,a=List.replicate sp (97+fl)->b=List.replicate (6 - sp) (97+fl)->(way=2\/way=3)->strL a++((⟨#[97+(st+i) % 26]⟩:Str)++⟨#[97+i / 26]⟩)++strL b=strL (nB way fl sp st i):=λ a b ea eb hw=>by
     subst ea eb
     unfold nB
     rw [if_pos hw,show (⟨#[97+(st+i) % 26]⟩:Str)++⟨#[97+i / 26]⟩=strL [97+(st+i) % 26,97+i / 26] from z4q [_] [_],z4q,z4q]
    have l1:(strL (List.replicate ((sp:Int)).toNat [97+fl]).flatten).length=sp:=by rw [z6n];omega
    have l2:(strL (List.replicate (6 - (sp:Int)).toNat [97+fl]).flatten).length=6 - sp:=by rw [z6n];omega
    have arm:(way=2\/way=3)->∀S:Str->L2.St,R (S (strL (nB way fl sp st i))) G->0≤((st:Int)+(i:Int)) % 26/\((st:Int)+(i:Int)) % 26 < 9223372036854775808/\((st:Int)+(i:Int)) % 26 < ↑ABC.length/\∃x,ABC.cps[(((st:Int)+(i:Int)) % 26).toNat]?=some x/\0≤(i:Int) / 26/\(i:Int) / 26 < 9223372036854775808/\(i:Int) / 26 < ↑ABC.length/\∃x_1,ABC.cps[((i:Int) / 26).toNat]?=some x_1 /\
      (⟨#[x]⟩:Str).length+(⟨#[x_1]⟩:Str).length≤sizeLine/\∃a,strL [97+fl]=strL a/\0≤(sp:Int)/\(sp:Int)≤100/\a.length≤10/\(strL (List.replicate ((sp:Int)).toNat a).flatten).length+((⟨#[x]⟩:Str)++⟨#[x_1]⟩).length≤sizeLine/\∃a_1,strL [97+fl]=strL a_1/\0≤6 - (sp:Int)/\6 - (sp:Int)≤100/\a_1.length≤10 /\
       (strL (List.replicate ((sp:Int)).toNat a).flatten++((⟨#[x]⟩:Str)++⟨#[x_1]⟩)).length+(strL (List.replicate (6 - (sp:Int)).toNat a_1).flatten).length≤sizeLine/\R (S (strL (List.replicate ((sp:Int)).toNat a).flatten++((⟨#[x]⟩:Str)++⟨#[x_1]⟩)++strL (List.replicate (6 - (sp:Int)).toNat a_1).flatten)) G:=λ hw S go=>by
     refine ⟨by omega,by omega,by rw [z3j];omega,97+(st+i) % 26,mid26 _ (by omega) (by omega) (by omega),by omega,by omega,by rw [z3j];omega,97+i / 26,mid26 _ (by omega) (by omega) (by omega),small (show 2≤1000 by decide),[97+fl],rfl,by omega,by omega,by simp,by rw [l1,y2h];exact small (by omega),[97+fl],rfl,by omega,by omega,by simp,by rw [strLen_append,l1,l2,y2h];exact small (by omega),?_⟩
     rw [put _ _ (by rw [z4b,Int.toNat_natCast]) (by rw [z4b];congr 1;omega) hw]
     exact go
    split
    ·exact arm (.inl (by omega)) (λ z=>[some (.int c),some (.int (n:Int)),some (.str ABC),some (.int (way:Int)),some (.str (strL [97+fl])),some (.int (sp:Int)),some (.int (st:Int)),some (.ref pk),some (.ref l),some (.int (i:Int)),some (.str z)]) go
    ·split
     ·exact arm (.inr (by omega)) (λ z=>[some (.int c),some (.int (n:Int)),some (.str ABC),some (.int (way:Int)),some (.str (strL [97+fl])),some (.int (sp:Int)),some (.int (st:Int)),some (.ref pk),some (.ref l),some (.int (i:Int)),some (.str z)]) go
     ·have e:nB way fl sp st i=nA way fl st i:=by unfold nB;rw [if_neg (by omega)]
      rw [e] at go
      exact go
   rintro σC G ⟨rfl,rfl⟩
   refine z0h (λ σ G'=>G'=G/\σ=[some (.int c),some (.int (n:Int)),some (.str ABC),some (.int (way:Int)),some (.str (strL [97+fl])),some (.int (sp:Int)),some (.int (st:Int)),some (.ref pk),some (.ref l),some (.int (i:Int)),some (.str (strL (nameF way fl sp st i)))]) ?_ (λ R hR=>?_)
   rotate_left
   ·wp_walk using tSeq,tIfS,tyS,inV,eqV,splawplainname
    have fin:∀x:Str,x.cps.toList=nameF way fl sp st i->R [some (.int c),some (.int (n:Int)),some (.str ABC),some (.int (way:Int)),some (.str (strL [97+fl])),some (.int (sp:Int)),some (.int (st:Int)),some (.ref pk),some (.ref l),some (.int (i:Int)),some (.str x)] G:=λ x e=>hR _ _ ⟨rfl,by rw [z1r e]⟩
    unfold nameF at fin
    have nb:¬(way=3/\i < 19)->nB way fl sp st i=(if way=1 then List.replicate (i % 8) (97+fl)++[97+(st+i / 8) % 26] else if way=3/\i < 19 then (k19.getD ((i+st) % 19) "").cps.toList else if way=2\/way=3 then List.replicate sp (97+fl)++[97+(st+i) % 26,97+i / 26]++List.replicate (6 - sp) (97+fl) else (plainF i).cps.toList):=λ z=>by
     unfold nB nA
     rw [if_neg (c:=way=3/\i < 19) z]
     by_cases w1:way=1
     ·subst w1;rfl
     ·rw [if_neg w1,if_neg w1]
    split
    ·split
     ·refine ⟨_,s9 _ _ h7,_,z9q (ws:=k19) (m:=((i:Int)+(st:Int)) % 19) (by omega) (by show _ < ((19:Nat):Int);omega),fin _ ?_⟩
      rw [if_neg (by omega),if_pos (by omega),show (((i:Int)+(st:Int)) % 19).toNat=(i+st) % 19 by omega]
     ·exact fin _ (nb (by omega))
    ·exact fin _ (nb (by omega))
   rintro σD G ⟨rfl,rfl⟩
   wp_walk using tSeq,tIfS,tyS,inV,eqV
   refine ⟨⟨_,h9⟩,_,h9,by unfold namesF;rw [List.length_map,List.length_map,List.length_range];exact z0z (by omega),?_⟩
   exact ⟨same s9 _,by unfold namesF;rw [List.range_succ,List.map_append,List.map_append];rfl⟩
  ·exact hR _ _ h
 rintro σ9 H9 ⟨y9,y10,rfl,s9,h9⟩
 wp_walk using tSeq,tIfS,tyS,inV,eqV
 exact ⟨_,.inl ⟨.of h9,λ p hp=>q _ _ _ (s7.trans (s9.trans (z0b hp _))) z0d (by simp [namesF]) (y1r fl1 sp7 n40)⟩⟩
abbrev slawrows:Stmt:=top 46
def splawrows:Sp:=λ vs H Q _=>∃(p na:Addr) (ds:List Sd) (os:List Nat) (nm:List Str),vs=[.ref p,.ref na]/\ProgAt H p ds os/\H na=some (.tup (nm.map V.str))/\nm.length=ds.length/\nmOk nm/\∀H' r,Same H H'->H' r=some (.lst ((textL ds os nm).map V.str))->Q (.ref r) H'
theorem y2w:FnScope ["program", "names", "rows"] ["program", "names"] (defScope slawrows):=⟨rfl,rfl,rfl,by decide +kernel,rfl,by decide +kernel,by decide +kernel⟩
theorem y4l (F:Fun K "_law_rows" "_law_rows" slawrows f fd) (clawrow:Callee P w K mg base CX0 (3) "_law_row" ["name", "step", "names"] splawrow) (zlen:mg "len" = none) (zrange:mg "range" = none):FnOk P w K mg base CX0 (4) f fd ["program", "names"] (splawrows):=by
 have sc:=y2w
 refine F.ok sc (λ vs H Q E h=>?_) (λ cdv A outer s H vs Q E hr h=>?_)
 ·obtain ⟨p,na,ds,os,nm,rfl,_⟩:=h;rfl
 obtain ⟨p,na,ds,os,nm,rfl,⟨st,ou,as,hp,hst,sd,hou,d1,d40,dk,o1,o8,ob⟩,hna,nl,no,q⟩:=h
 refine ⟨_,(z0c (z4w (own:=["k"]) (fv:=["names", "program"]) (js:=[1,0]) sc.nd (i:=2) rfl (by first | exact Or.inl rfl | exact Or.inr rfl) (by first | exact Or.inl rfl | exact Or.inr rfl) rfl (z2a (by rfl) zrange (z0a (z0s z0t (by rfl) zlen PySem.boot_len (z0a (pv 1) z0e)) z0e)) rfl (by decide) rfl (by decide) (by first | exact λ _ _ h=>h | exact z2y rfl | exact z2x rfl rfl | exact z2w rfl rfl rfl) (z3x (by rfl)) rfl (x5f (by first | exact ⟨rfl,.inl rfl,.inl rfl⟩ | exact ⟨rfl,.inl rfl,.inr rfl⟩) (by first | exact ⟨rfl,.inl rfl,.inl rfl⟩ | exact ⟨rfl,.inl rfl,.inr rfl⟩)) (λ _ _ _ _=>(z1f (i:=0) (show (["k", "names", "program"]:List Str).Nodup by decide +kernel) rfl (Or.inl rfl))) (λ _ _ _ _=>(z0r clawrow hr (by rfl) z1a (z0a (z0y z0u (pv 1) (pv 0) (λ _ _=>rfl)) (z0a (z0y z0u (z0y z0u (pv 2) z0f (λ _ _=>rfl)) (pv 0) (λ _ _=>rfl)) (z0a (pv 1) z0e)))))) (z0c (z2h (z3s (pv 2) (z0w z1p z0l (z2r PySem.F.plainAttrs_str PySem.F.slot_str_join PySem.F.type_str_join z1z z0l (z0a (z4d (own:=["k"]) (fv:=["names"]) (js:=[1]) rfl (z5u (z0y z0u (pv 0) z0f (λ _ _=>rfl))) rfl (by decide) rfl (by decide) (by first | exact λ _ _ h=>h | exact z2y rfl | exact z2x rfl rfl | exact z2w rfl rfl rfl) (z3x (by rfl)) rfl (x2d (by first | exact ⟨rfl,.inl rfl,.inl rfl⟩ | exact ⟨rfl,.inl rfl,.inr rfl⟩)) (λ _ _ _ _=>(z1f (i:=0) (show (["k", "names"]:List Str).Nodup by decide +kernel) rfl (Or.inl rfl))) (λ _ _ _ _=>(z0y z0u (pv 1) (pv 0) (λ _ _=>rfl)))) z0e))))) (z0g (z0k (pv 2))))),?_⟩
 simp only [L2.start,List.length_cons,List.length_nil,List.replicate,List.cons_append,List.nil_append,Nat.reduceSub,Nat.reduceAdd,List.map_cons,List.map_nil]
 refine z0h (λ σ H1=>∃l,σ=[some (.ref p),some (.ref na),some (.ref l)]/\Same H H1/\H l=none/\H1 l=some (.lst ((rowsF ds nm ds.length).map V.str))) ?_ (λ R hR=>?_)
 rotate_left
 ·wp_walk using tSeq,tIfS,tyS,inV,eqV
  refine ⟨_,.inr (.of hna),by rw [List.length_map];omega,by rw [List.length_map];omega,?_⟩
  rw [List.length_map,Int.toNat_natCast]
  refine CompR.mk (λ i ys σ G=>Same H G/\ys=(rowsF ds nm i).map V.str/\∃y,σ=[y,some (.ref na),some (.ref p)]) ⟨Same.refl _,rfl,_,rfl⟩ (λ i ys σ G hi h=>?_) (λ ys σ G h p2 hp2=>?_)
  ·obtain ⟨sG,rfl,y,rfl⟩:=h
   refine ⟨by rw [List.length_map,z9t];exact z0z (by omega),?_⟩
   have gi:ds[i]?=some (ds.getD i ⟨0,0,0,0,0⟩):=by rw [List.getD_eq_getElem?_getD,List.getElem?_eq_getElem (by omega)];rfl
   obtain ⟨b,eb,db⟩:=sd.2 i _ gi
   have nb:=no.2 (nm.getD i "") (List.mem_of_getElem? (z8h (by omega)))
   wp_walk using tSeq,tIfS,tyS,inV,eqV,splawrow
   rw [Int.zero_add]
   refine ⟨_,sG _ _ hna,_,z0i (v:=.str (nm.getD i "")) (by rw [List.getElem?_map,z8h (by omega)];rfl),_,sG _ _ hp,_,z0i (j:=0) rfl,?_⟩
   exact ⟨st,rfl,_,sG _ _ hst,_,z0i (v:=.ref b) (by rw [List.getElem?_map,eb];rfl),_,rfl,b,rfl,_,db.same sG,nm,by rw [nl];exact dk _ (List.mem_of_getElem? gi),.inr (sG _ _ hna),no,nb,λ G2 s2=>⟨sG.trans s2,by rw [y3e,List.map_append];rfl,_,rfl⟩⟩
  ·obtain ⟨sG,rfl,y,rfl⟩:=h
   rw [nl]
   exact hR _ _ ⟨p2,rfl,sG.trans (z0b hp2 _),sG.free hp2,z0d⟩
 rintro σ1 H1 ⟨l,rfl,s1,l0,h1⟩
 have ol:∀x∈outsF os nm,x.length≤20:=λ x hx=>by
  obtain ⟨o,ho,rfl⟩:=List.mem_map.mp hx
  exact no.2 _ (List.mem_of_getElem? (z8h (by have:=ob o ho;omega)))
 have on:(outsF os nm).length=os.length:=by simp [outsF]
 have one:(" " : Str).length=1:=by decide +kernel
 have tot:totS " " (outsF os nm)≤200:=by
  have:=z3q (z := " ") ol
  rw [one,on] at this
  omega
 have gl:=z2b " " (outsF os nm)
 wp_walk using tSeq,tIfS,tyS,inV,eqV
 refine ⟨⟨_,h1⟩,_,s1 _ _ hp,_,z0i (j:=1) rfl,?_⟩
 refine CompT.mk (xs:=os.map λ (o:Nat)=>V.int (o:Int)) (.of (s1 _ _ hou)) (λ i ys σ G=>G=H1/\ys=((outsF os nm).take i).map V.str/\∃y,σ=[y,some (.ref na)]) ⟨rfl,rfl,_,rfl⟩ (λ i ys σ G _ h=>by rw [h.1];exact .of (s1 _ _ hou)) (λ i x ys σ G e h=>?_) (λ ys σ G h p2 hp2=>?_)
 ·obtain ⟨rfl,rfl,y,rfl⟩:=h
  rw [List.getElem?_map] at e
  cases eo:os[i]? with
  | none=>rw [eo] at e;cases e
  | some o =>
   rw [eo] at e
   cases (Option.some.inj e)
   have oi:(outsF os nm)[i]?=some (nm.getD o ""):=by unfold outsF;rw [List.getElem?_map,eo];rfl
   have ob':=ob o (List.mem_of_getElem? eo)
   refine ⟨by rw [List.length_map,List.length_take];exact z0z (by omega),?_⟩
   wp_walk using tSeq,tIfS,tyS,inV,eqV
   exact ⟨_,s1 _ _ hna,_,z0i (v:=.str (nm.getD o "")) (by rw [List.getElem?_map,z8h (by omega)];rfl),by rw [List.take_add_one,oi,List.map_append];rfl,_,rfl⟩
 ·obtain ⟨rfl,rfl,y,rfl⟩:=h
  rw [List.take_of_length_le (by simp [on])]
  refine ⟨p2,rfl,_,.of z0d,by omega,?_,_,z0b hp2 _ _ _ h1,by rw [List.length_map,z9t];exact z0z (by omega),q _ l ?_ ?_⟩
  ·rw [show (Str.ofString "out ").length=4 by decide +kernel];exact small (by omega)
  ·intro b' o' e'
   rw [z0m (λ z=>by rw [z,l0] at e';cases e')]
   exact z0b hp2 _ _ _ (s1 _ _ e')
  ·rw [z0d]
   obtain ⟨x,r,er⟩:∃x r,outsF os nm=x::r:=by
    cases h:outsF os nm with
    | nil=>rw [h] at on;simp at on;omega
    | cons x r=>exact ⟨x,r,rfl⟩
   unfold textL outS
   rw [er,y5o,List.map_append]
   rfl
abbrev slawsign:Stmt:=top 47
def splawsign:Sp:=λ vs H Q _=>∃c k:Int,vs=[.int c,.int k]/\0≤k/\k < 1000/\∀a:Nat,a < 128->Q (.str ⟨#[a]⟩) H
theorem y2v:FnScope ["cell", "k", "some", "near"] ["cell", "k"] (defScope slawsign):=⟨rfl,rfl,rfl,by decide +kernel,rfl,by decide +kernel,by decide +kernel⟩
theorem y4k (F:Fun K "_law_sign" "_law_sign" slawsign f fd) (clawdraw:Callee P w K mg base CX0 (1) "_law_draw" ["cell", "k", "many"] splawdraw) (zlen:mg "len" = none):FnOk P w K mg base CX0 (2) f fd ["cell", "k"] (splawsign):=by
 have sc:=y2v
 refine F.ok sc (λ vs H Q E h=>?_) (λ cdv A outer s H vs Q E hr h=>?_)
 ·obtain ⟨c,k,rfl,_⟩:=h;rfl
 obtain ⟨c,k,rfl,k0,k1,q⟩:=h
 refine ⟨_,(z0c (z0o (i:=2) sc.nd rfl (by first | exact Or.inl rfl | exact Or.inr rfl) z0l) (z0c (z0o (i:=3) sc.nd rfl (by first | exact Or.inl rfl | exact Or.inr rfl) z0l) (z0c (z1b (z0j z1i (z0r clawdraw hr (by rfl) z1a (z0a (pv 0) (z0a (pv 1) (z0a z0f z0e)))) z0f (z0q _)) (z0g (z0k (z1h (pv 3) (z0r clawdraw hr (by rfl) z1a (z0a (pv 0) (z0a (z0w z1m (pv 1) z0f) (z0a (z0s z2c (by rfl) zlen PySem.boot_len (z0a (pv 3) z0e)) z0e)))) (λ _ _=>rfl)))) z0n) (z0g (z0k (z1h (pv 2) (z0r clawdraw hr (by rfl) z1a (z0a (pv 0) (z0a (z0w z1m (pv 1) z0f) (z0a (z0s z2c (by rfl) zlen PySem.boot_len (z0a (pv 2) z0e)) z0e)))) (λ _ _=>rfl))))))),?_⟩
 simp only [L2.start,List.length_cons,List.length_nil,List.replicate,List.cons_append,List.nil_append,Nat.reduceSub,Nat.reduceAdd,List.map_cons,List.map_nil]
 refine z0h (λ σ H1=>H1=H/\∃z,lawBig z/\σ=[some (.int c),some (.int k),some (.str z),none]) ?_ (λ R hR=>?_)
 rotate_left
 ·wp_walk using tSeq,tIfS,tyS,inV,eqV
  exact hR _ _ ⟨rfl,_,⟨by decide +kernel,by decide +kernel,by decide +kernel⟩,rfl⟩
 rintro σ1 H1 ⟨rfl,z,hz,rfl⟩
 refine z0h (λ σ H2=>H2=H1/\∃y,lawBig y/\σ=[some (.int c),some (.int k),some (.str z),some (.str y)]) ?_ (λ R hR=>?_)
 rotate_left
 ·wp_walk using tSeq,tIfS,tyS,inV,eqV
  exact hR _ _ ⟨rfl,_,⟨by decide +kernel,by decide +kernel,by decide +kernel⟩,rfl⟩
 rintro σ2 H2 ⟨rfl,y,hy,rfl⟩
 have key:∀x:Str,lawBig x->∃a,0≤drawF c (k+1) (x.length:Int)/\drawF c (k+1) (x.length:Int) < 9223372036854775808/\drawF c (k+1) (x.length:Int) < x.length/\x.cps[(drawF c (k+1) (x.length:Int)).toNat]?=some a/\a < 128:=λ x hx=>by
  obtain ⟨h1,h2,h3⟩:=hx
  have r:=z0v c (k+1) (show (0:Int) < (x.length:Int) by omega)
  have il:(drawF c (k+1) (x.length:Int)).toNat < x.cps.size:=by show _ < x.length;omega
  exact ⟨_,r.1,by omega,r.2,Array.getElem?_eq_getElem il,h3 _ (Array.mem_toList_iff.mpr (Array.getElem_mem il))⟩
 have zl:=hz.1
 have yl:=hy.1
 have zm:=hz.2.1
 have ym:=hy.2.1
 wp_walk using tSeq,tIfS,tyS,inV,eqV,splawdraw
 refine ⟨k0,by omega,?_⟩
 split
 ·obtain ⟨a,e1,e2,e3,e4,e5⟩:=key y hy
  exact ⟨small ym,by omega,by omega,by omega,e1,e2,e3,a,e4,q a e5⟩
 ·obtain ⟨a,e1,e2,e3,e4,e5⟩:=key z hz
  exact ⟨small zm,by omega,by omega,by omega,e1,e2,e3,a,e4,q a e5⟩
abbrev slawrowschanged:Stmt:=top 48
def splawrowschanged:Sp:=λ vs H Q _=>∃(r:Addr) (way:Int) (k:Nat) (ws:List Str),vs=[.ref r,.int way,.int (k:Int)]/\H r=some (.lst (ws.map V.str))/\k < ws.length/\ws.length≤4000000/\∀H' l ws',Same H H'->H' l=some (.lst (ws'.map V.str))->RwC ws ws'->Q (.ref l) H'
theorem z4o:FnScope ["rows", "way", "at"] ["rows", "way", "at"] (defScope slawrowschanged):=⟨rfl,rfl,rfl,by decide +kernel,rfl,by decide +kernel,by decide +kernel⟩
theorem z4p (F:Fun K "_law_rows_changed" "_law_rows_changed" slawrowschanged f fd):FnOk P w K mg base CX0 (1) f fd ["rows", "way", "at"] (splawrowschanged):=by
 have sc:=z4o
 refine F.ok sc (λ vs H Q E h=>?_) (λ cdv A outer s H vs Q E hr h=>?_)
 ·obtain ⟨r,way,k,ws,rfl,_⟩:=h;rfl
 obtain ⟨r,way,k,ws,rfl,hr0,kl,wl,q⟩:=h
 refine ⟨_,(z0c (z1b (z0j z1i (pv 1) z0f (z0q _)) (z0g (z0k (z0w z3u (z1o z2n (pv 0) z1y (z1x (pv 2))) (z1o z2n (pv 0) (z1x (z0w z1m (pv 2) z0f)) z1y)))) z0n) (z0g (z0k (z0w z3u (z0w z3u (z1o z2n (pv 0) z1y (z1x (pv 2))) (z1j (z0a (z0y z0x (pv 0) (pv 2) (λ _ _=>rfl)) z0e))) (z1o z2n (pv 0) (z1x (pv 2)) z1y))))),?_⟩
 simp only [L2.start,List.length_cons,List.length_nil,List.replicate,List.cons_append,List.nil_append,Nat.reduceSub,Nat.reduceAdd,List.map_cons,List.map_nil]
 have kn:k+1≤ws.length:=kl
 obtain ⟨x,hx⟩:∃x,ws[k]?=some x:=⟨_,List.getElem?_eq_getElem kl⟩
 wp_walk using tSeq,tIfS,tyS,inV,eqV,rSlL
 split
 ·refine ⟨_,.of hr0,λ p hp=>⟨_,.of (z0b hp _ _ _ hr0),λ p2 hp2=>?_⟩⟩
  rw [z6r] at hp2 ⊢
  rw [show (k:Int)+1=((k+1:Nat):Int) by omega,y6b]
  exact ⟨_,z0b hp2 _ _ _ z0d,y9v (by rw [List.length_map,List.length_map,List.length_take,List.length_drop];omega),λ p3 hp3=>q _ _ _ ((z0b hp _).trans ((z0b hp2 _).trans (z0b hp3 _))) (by rw [z0d,List.map_append]) (y7r ws k)⟩
 ·refine ⟨_,.of hr0,λ p hp=>⟨_,z0b hp _ _ _ hr0,_,z0i (v:=.str x) (by rw [List.getElem?_map,hx];rfl),small (by decide),λ p1 hp1=>?_⟩⟩
  rw [z6r] at hp1 ⊢
  refine ⟨_,z0b hp1 _ _ _ z0d,y9v (by rw [List.length_map,List.length_take];simp;omega),λ p2 hp2=>⟨_,.of (z0b hp2 _ _ _ (z0b hp1 _ _ _ (z0b hp _ _ _ hr0))),λ p3 hp3=>?_⟩⟩
  rw [y6b]
  exact ⟨_,z0b hp3 _ _ _ z0d,y9v (by simp only [List.length_append,List.length_map,List.length_take,List.length_drop,List.length_cons,List.length_nil];omega),λ p4 hp4=>q _ _ _ ((z0b hp _).trans ((z0b hp1 _).trans ((z0b hp2 _).trans ((z0b hp3 _).trans (z0b hp4 _))))) (by rw [z0d,List.map_append,List.map_append];rfl) (y7q hx)⟩
abbrev slawchanged:Stmt:=top 49
def splawchanged:Sp:=λ vs H Q _=>∃(T:Str) (c:Int) (M:Nat),vs=[.str T,.int c]/\lowM M T/\M≤1000000/\∀H' T',Same H H'->lowM (2 * M) T'->Q (.str T') H'
theorem z7e:FnScope ["text", "cell", "way", "at", "words", "rows"] ["text", "cell"] (defScope slawchanged):=⟨rfl,rfl,rfl,by decide +kernel,rfl,by decide +kernel,by decide +kernel⟩
theorem z7l (F:Fun K "_law_changed" "_law_changed" slawchanged f fd) (clawdraw:Callee P w K mg base CX0 (2) "_law_draw" ["cell", "k", "many"] splawdraw) (clawsign:Callee P w K mg base CX0 (2) "_law_sign" ["cell", "k"] splawsign) (clawrowschanged:Callee P w K mg base CX0 (2) "_law_rows_changed" ["rows", "way", "at"] splawrowschanged) (zlen:mg "len" = none) (zmin:mg "min" = none) (zint:mg "int" = none):FnOk P w K mg base CX0 (3) f fd ["text", "cell"] (splawchanged):=by
 have sc:=z7e
 refine F.ok sc (λ vs H Q E h=>?_) (λ cdv A outer s H vs Q E hr h=>?_)
 ·obtain ⟨T,c,M,rfl,_⟩:=h;rfl
 obtain ⟨T,c,M,rfl,hT,hM,q⟩:=h
 refine ⟨_,(z0c (z0o (i:=2) sc.nd rfl (by first | exact Or.inl rfl | exact Or.inr rfl) (z0r clawdraw hr (by rfl) z1a (z0a (pv 1) (z0a z0f (z0a z0f z0e))))) (z0c (z0o (i:=3) sc.nd rfl (by first | exact Or.inl rfl | exact Or.inr rfl) (z0r clawdraw hr (by rfl) z1a (z0a (pv 1) (z0a z0f (z0a (z0w z1m (z0s z2c (by rfl) zlen PySem.boot_len (z0a (pv 0) z0e)) z0f) z0e))))) (z0c (z1b (z0j z8y (pv 2) z0f (z0q _)) (z0g (z0k (z0w z1p (z0w z1p (z1o z8l (pv 0) z1y (z1x (pv 3))) (z0y z0x (z1j (z0a z0l (z0a (z0r clawsign hr (by rfl) z1a (z0a (pv 1) (z0a z0f z0e))) z0e))) (z0s (y6p rfl) (by rfl) zmin boot_min (z0a (pv 2) (z0a z0f z0e))) (λ _ _=>rfl))) (z1o z8l (pv 0) (z1x (z0w z1m (z0w z1m (pv 3) (z0w z3e (pv 2) z0f)) (z1c y6t (by rfl) zint boot_int (z0a (z6h z1i (pv 2) z0f (z0q _)) z0e)))) z1y)))) z0n) (z0c (z0o (i:=4) sc.nd rfl (by first | exact Or.inl rfl | exact Or.inr rfl) (z2r PySem.F.plainAttrs_str PySem.F.slot_str_split PySem.F.type_str_split z3v (pv 0) (z0a z0l z0e))) (z0c (z1b (z0j z1i (pv 2) z0f (z0q _)) (z0c (y3l (z0y z0x (pv 4) (z0r clawdraw hr (by rfl) z1a (z0a (pv 1) (z0a z0f (z0a (z0s z0t (by rfl) zlen PySem.boot_len (z0a (pv 4) z0e)) z0e)))) (λ _ _=>rfl)) (y3s (pv 4) (z0r clawdraw hr (by rfl) z1a (z0a (pv 1) (z0a z0f (z0a (z0s z0t (by rfl) zlen PySem.boot_len (z0a (pv 4) z0e)) z0e)))) z6d)) (z0g (z0k (z2r PySem.F.plainAttrs_str PySem.F.slot_str_join PySem.F.type_str_join z1z z0l (z0a (pv 4) z0e))))) z0n) (z0c (z0o (i:=5) sc.nd rfl (by first | exact Or.inl rfl | exact Or.inr rfl) (z2r PySem.F.plainAttrs_str PySem.F.slot_str_split PySem.F.type_str_split z3v (pv 0) (z0a z0l z0e))) (z0g (z0k (z2r PySem.F.plainAttrs_str PySem.F.slot_str_join PySem.F.type_str_join z1z z0l (z0a (z0r clawrowschanged hr (by rfl) z1a (z0a (pv 5) (z0a (z0w z4y (pv 2) z0f) (z0a (z0r clawdraw hr (by rfl) z1a (z0a (pv 1) (z0a z0f (z0a (z0s z0t (by rfl) zlen PySem.boot_len (z0a (pv 5) z0e)) z0e)))) z0e)))) z0e)))))))))),?_⟩
 simp only [L2.start,List.length_cons,List.length_nil,List.replicate,List.cons_append,List.nil_append,Nat.reduceSub,Nat.reduceAdd,List.map_cons,List.map_nil]
 have T1:=hT.1
 refine z0h (λ σ H1=>H1=H/\∃way:Int,0≤way/\way < 6/\σ=[some (.str T),some (.int c),some (.int way),none,none,none]) ?_ (λ R hR=>?_)
 rotate_left
 ·wp_walk using tSeq,tIfS,tyS,inV,eqV,splawdraw
  have r:=z0v c 70 (show (0:Int) < 6 by decide)
  exact hR _ _ ⟨rfl,_,r.1,r.2,rfl⟩
 rintro σ1 H1 ⟨rfl,way,w0,w6,rfl⟩
 refine z0h (λ σ H2=>H2=H1/\∃k:Nat,k≤T.length/\σ=[some (.str T),some (.int c),some (.int way),some (.int (k:Int)),none,none]) ?_ (λ R hR=>?_)
 rotate_left
 ·wp_walk using tSeq,tIfS,tyS,inV,eqV,splawdraw
  have r:=z0v c 71 (show (0:Int) < (T.length:Int)+1 by omega)
  exact ⟨y9v (by omega),by omega,hR _ _ ⟨rfl,(drawF c 71 ((T.length:Int)+1)).toNat,by omega,by rw [Int.toNat_of_nonneg r.1]⟩⟩
 rintro σ2 H2 ⟨rfl,k,kl,rfl⟩
 refine z0h (λ σ H3=>H3=H2/\3≤way/\σ=[some (.str T),some (.int c),some (.int way),some (.int (k:Int)),none,none]) ?_ (λ R hR=>?_)
 rotate_left
 ·wp_walk using tSeq,tIfS,tyS,inV,eqV,splawsign
  split
  ·refine ⟨by omega,λ a ha=>⟨small (by decide),λ p hp=>?_⟩⟩
   have e:∃z:Str,atI [V.str (Str.ofString ""),V.str ⟨#[a]⟩] (if 1 < way then 1 else way)=some (.str z)/\z.length≤1/\∀c∈z.cps.toList,c < 128:=by
    rcases (show way=0\/way=1\/way=2 by omega) with rfl | rfl | rfl
    ·exact ⟨_,rfl,by decide +kernel,by decide +kernel⟩
    ·exact ⟨_,rfl,Nat.le_refl 1,λ c hc=>by cases List.mem_singleton.mp hc;exact ha⟩
    ·exact ⟨_,rfl,Nat.le_refl 1,λ c hc=>by cases List.mem_singleton.mp hc;exact ha⟩
   obtain ⟨z,e1,e2,e3⟩:=e
   have l1:=Txt.slice_le T none (some (k:Int))
   have l2:=Txt.slice_le T (some ((k:Int)+way % 2+if way=0 then 1 else 0)) none
   refine ⟨_,e1,z,rfl,y9v (by omega),.inr ⟨by omega,y9v (by rw [strLen_append];omega),q _ _ (z0b hp _) ⟨by rw [strLen_append,strLen_append];omega,λ c' hc=>?_⟩⟩⟩
   rw [z5f,z5f] at hc
   rcases List.mem_append.mp hc with hc | hc
   ·rcases List.mem_append.mp hc with hc | hc
    ·exact hT.2 c' (z4t hc)
    ·exact e3 c' hc
   ·exact hT.2 c' (z4t hc)
  ·exact hR _ _ ⟨rfl,by omega,rfl⟩
 rintro σ3 H3 ⟨rfl,w3,rfl⟩
 refine z0h (λ σ H4=>∃l,Same H3 H4/\H3 l=none/\H4 l=some (.lst ((rwT 32 T).map V.str))/\σ=[some (.str T),some (.int c),some (.int way),some (.int (k:Int)),some (.ref l),none]) ?_ (λ R hR=>?_)
 rotate_left
 ·wp_walk using tSeq,tIfS,tyS,inV,eqV
  refine ⟨32,y1c,by decide,by omega,λ l hl=>hR _ _ ⟨l,z0b hl _,hl,by rw [z0d,z8p],rfl⟩⟩
 rintro σ4 H4 ⟨l,s4,l0,hl,rfl⟩
 have wp:=z5p 32 T
 have wl:=y3d 32 T
 have rp:=z5p 10 T
 have rl:=y3d 10 T
 refine z0h (λ σ H5=>Same H3 H5/\σ=[some (.str T),some (.int c),some (.int way),some (.int (k:Int)),some (.ref l),none]) ?_ (λ R hR=>?_)
 rotate_left
 ·wp_walk using tSeq,tIfS,tyS,inV,eqV,splawdraw
  split
  ·have r1:=z0v c 74 (show (0:Int) < ((rwT 32 T).length:Int) by omega)
   have r2:=z0v c 75 (show (0:Int) < ((rwT 32 T).length:Int) by omega)
   refine ⟨_,.inl (.of hl),?_⟩
   rw [List.length_map]
   generalize drawF c 75 ((rwT 32 T).length:Int)=d5 at *
   obtain ⟨j5,rfl⟩:∃j:Nat,d5=(j:Int):=⟨d5.toNat,by omega⟩
   obtain ⟨x,hx⟩:∃x,(rwT 32 T)[j5]?=some x:=⟨_,List.getElem?_eq_getElem (by omega)⟩
   refine ⟨by omega,_,hl,.str x,z0i (by rw [List.getElem?_map,hx];rfl),_,.inl (.of hl),?_⟩
   rw [List.length_map]
   generalize drawF c 74 ((rwT 32 T).length:Int)=d4 at *
   obtain ⟨j4,rfl⟩:∃j:Nat,d4=(j:Int):=⟨d4.toNat,by omega⟩
   obtain ⟨a,b⟩:=z9s hT (by decide) (x0q (List.mem_of_getElem? hx) (show j4 < (rwT 32 T).length by omega))
   rw [← y1c] at a b
   exact ⟨by omega,_,hl,j4,by rw [List.length_map];unfold ixN;rw [if_pos (by omega),if_pos (by omega)];rfl,(rwT 32 T).set j4 x,.of (by rw [z0d,List.map_set]),by omega,q _ _ (λ b' u e=>by rw [z0m (λ z=>by rw [z,l0] at e;cases e)];exact s4 _ _ e) b⟩
  ·exact hR _ _ ⟨s4,rfl⟩
 rintro σ5 H5 ⟨s5,rfl⟩
 refine z0h (λ σ H6=>∃r,Same H3 H6/\H6 r=some (.lst ((rwT 10 T).map V.str))/\σ=[some (.str T),some (.int c),some (.int way),some (.int (k:Int)),some (.ref l),some (.ref r)]) ?_ (λ R hR=>?_)
 rotate_left
 ·wp_walk using tSeq,tIfS,tyS,inV,eqV
  refine ⟨10,z9d,by decide,by omega,λ r hr'=>hR _ _ ⟨r,s5.trans (z0b hr' _),by rw [z0d,z8p],rfl⟩⟩
 rintro σ6 H6 ⟨r,s6,hr6,rfl⟩
 wp_walk using tSeq,tIfS,tyS,inV,eqV,splawrowschanged,splawdraw
 refine ⟨_,.inl (.of hr6),?_⟩
 rw [List.length_map]
 have r1:=z0v c 76 (show (0:Int) < ((rwT 10 T).length:Int) by omega)
 refine ⟨by omega,(drawF c 76 ((rwT 10 T).length:Int)).toNat,(Int.toNat_of_nonneg r1.1).symm,rwT 10 T,hr6,by omega,by omega,λ H' l' ws' s' hl' rc=>?_⟩
 obtain ⟨a,b⟩:=z9s hT (by decide) rc
 rw [← z9d] at a b
 exact ⟨ws',.of hl',by omega,q _ _ (s6.trans s') b⟩
abbrev slawread:Stmt:=top 50
theorem y2x:FnScope ["text", "told", "e"] ["text"] (defScope slawread):=⟨rfl,rfl,rfl,by decide +kernel,rfl,by decide +kernel,by decide +kernel⟩
theorem y4m (F:Fun K "_law_read" "_law_read" slawread f fd) {CBadText:Addr}(nBadText:W.nsIn K mainGlobals "BadText" = some (some (.ref CBadText))) {CLoomError:Addr}(nLoomError:W.nsIn K mainGlobals "LoomError" = some (some (.ref CLoomError))) (cread:Callee P w K mg base (CX2 P w) (9) "read" ["text"] (spreadX CBadText)) (gBadText:mg "BadText" = some (.ref CBadText)) (xBadText:clsX K CBadText [.type "ValueError",.type "Exception",.type "BaseException",.type "object"] "ValueError.__new__" = true) (aBS:AtX K CBadText) (n1:NoAttr K CBadText (Str.ofString "row")) (n3:NoAttr K CBadText (Str.ofString "__getattr__")):FnOk P w K mg base CX0 (10) f fd ["text"] (splread):=by
 have sc:=y2x
 refine F.ok sc (λ vs H Q E h=>?_) (λ cdv A outer s H vs Q E hr h=>?_)
 ·obtain ⟨T,rfl,_⟩:=h;rfl
 obtain ⟨T,rfl,lt,q1,q2⟩:=h
 refine ⟨_,(z0c (z0o (i:=1) sc.nd rfl (by first | exact Or.inl rfl | exact Or.inr rfl) (z1w (z0a z8u (z0a z0f z0e)))) (z0c (x0u (i:=2) ⟨rfl,rfl⟩ rfl sc.nd rfl rfl (by rfl) gBadText xBadText (by decide) (λ xe pn EE hx=>(z0g (z0o (i:=1) sc.nd rfl (by first | exact Or.inl rfl | exact Or.inr rfl) (z1w (z0a z8u (z0a (x0z cread hr (by rfl) hx (z0a (pv 0) z0e)) z0e)))))) (λ ae pn=>(z0g (z0o (i:=1) sc.nd rfl (by first | exact Or.inl rfl | exact Or.inr rfl) (z1w (z0a z8u (z0a (y7w (K:=K) rfl (pv 2) (by rfl)) z0e))))))) (z0g (z0k (pv 1))))),?_⟩
 simp only [L2.start,List.length_cons,List.length_nil,List.replicate,List.cons_append,List.nil_append,Nat.reduceSub,Nat.reduceAdd,List.map_cons,List.map_nil]
 refine z0h (λ σ G=>∃l,Same H G/\σ=[some (.str T),some (.ref l),none]) ?_ (λ R hR=>?_)
 rotate_left
 ·wp_walk using tSeq,tIfS,tyS,inV,eqV
  exact ⟨small (by decide),λ l hl=>hR _ _ ⟨l,z0b hl _,rfl⟩⟩
 rintro σ1 G1 ⟨l,s1,rfl⟩
 refine z0h (λ σ G=>∃t,Same H G/\((∃i,BadAt (rowsT T) i/\G t=some (.tup [.bl false,.int ((i:Int)+1)]))\/(∃s os p,GoodR (rowsT T) s os/\G t=some (.tup [.bl true,.ref p])/\RdAt G s os p))/\σ=[some (.str T),some (.ref t),none]) ?_ (λ R hR=>?_)
 rotate_left
 ·wp_walk using tSeq,tIfS,tyS,inV,eqV,spreadX
  have w1:=z7f T
  have key:∀(x:V) (H':Hp) (dx:Addr),H' dx=some (ExcF dx (ErrR x))->∀(a:Addr),H' a=none->upd H' a (ExcD a CBadText dx) dx=some (ExcF dx (ErrR x)):=λ x H' dx e a ha=>by
   rw [z0m (λ z=>by rw [z,ha] at e;cases e)];exact e
  refine ⟨lt,λ i s hi h1 h2 H' dx u e a ha=>?_,λ s h1 h2 H' dx u e a ha=>?_,λ s os h1 h2 H' p q na st oa ps u e1 e2 e3 e4 e5 e6=>⟨small (by decide),λ t ht=>hR _ _ ⟨t,s1.trans (u.trans (z0b ht _)),.inr ⟨s,os,p,⟨h1,h2⟩,z0d,RdAt.same ⟨q,na,st,oa,ps,e1,e2,e3,e4,e5,e6⟩ (z0b ht _)⟩,rfl⟩⟩⟩
  ·exact ⟨CBadText,dx,rfl,_,key _ H' dx e a ha,aBS,n1,n3,_,rfl,small (by decide),λ p hp=>hR _ _ ⟨p,s1.trans (u.trans ((z0b ha _).trans (z0b hp _))),.inl ⟨i,.inl ⟨hi,⟨s,h1⟩,h2⟩,z0d⟩,rfl⟩⟩
  ·rw [show ((rowsT T).length:Int)=(((rowsT T).length - 1:Nat):Int)+1 by omega] at e
   exact ⟨CBadText,dx,rfl,_,key _ H' dx e a ha,aBS,n1,n3,_,rfl,small (by decide),λ p hp=>hR _ _ ⟨p,s1.trans (u.trans ((z0b ha _).trans (z0b hp _))),.inl ⟨(rowsT T).length - 1,.inr ⟨by omega,s,h1,h2⟩,z0d⟩,rfl⟩⟩
 rintro σ2 G2 ⟨t,s2,⟨i,b,ht⟩ | ⟨s,os,p,g,ht,rd⟩,rfl⟩
 ·wp_walk using tSeq,tIfS,tyS,inV,eqV
  exact q1 i b _ _ s2 ht
 ·wp_walk using tSeq,tIfS,tyS,inV,eqV
  exact q2 s os g _ _ p s2 ht rd
abbrev slaw:Stmt:=top 51
def splaw:W.Frag->Sp:=λ K=>λ vs H Q _=>∃(a:Addr) (ns:List Int),vs=[.ref a]/\SqL K H a (ns.map V.int)/\ns.length≤63/\∀H',Q (.bl true) H'
theorem x4q:FnScope ["script", "total", "program", "text", "k", "told", "found", "rows", "row", "last", "again"] ["script"] (defScope slaw):=⟨rfl,rfl,rfl,by decide +kernel,rfl,by decide +kernel,by decide +kernel⟩
theorem x4s (F:Fun K "law" "law" slaw f fd) (clawprogram:Callee P w K mg base CX0 (10) "_law_program" ["script"] (splawprogram K)) (clawnames:Callee P w K mg base CX0 (10) "_law_names" ["cell", "many"] splawnames) (clawrows:Callee P w K mg base CX0 (10) "_law_rows" ["program", "names"] splawrows) (clawdraw:Callee P w K mg base CX0 (10) "_law_draw" ["cell", "k", "many"] splawdraw) (clawchanged:Callee P w K mg base CX0 (10) "_law_changed" ["text", "cell"] splawchanged) (clawread:Callee P w K mg base CX0 (10) "_law_read" ["text"] splread) (cwritten:Callee P w K mg base CX0 (10) "written" ["program", "names"] spwritten) (zsum:mg "sum" = none) (zlen:mg "len" = none) (zrange:mg "range" = none) (zisinstance:mg "isinstance" = none) (ztuple:mg "tuple" = none) (zstr:mg "str" = none) (zint:mg "int" = none) (zbool:mg "bool" = none):FnOk P w K mg base CX0 (11) f fd ["script"] (splaw K):=by
 have sc:=x4q
 refine F.ok sc (λ vs H Q E h=>?_) (λ cdv A outer s H vs Q E hr h=>?_)
 ·obtain ⟨a,ns,rfl,_⟩:=h;rfl
 obtain ⟨a,ns,rfl,hS,h63,q⟩:=h
 refine ⟨_,(z0c (z0o (i:=1) sc.nd rfl (by first | exact Or.inl rfl | exact Or.inr rfl) (z0s (z8b rfl) (by rfl) zsum boot_sum (z0a (pv 0) z0e))) (z0c (z0o (i:=2) sc.nd rfl (by first | exact Or.inl rfl | exact Or.inr rfl) (z0r clawprogram hr (by rfl) z1a (z0a (pv 0) z0e))) (z0c (z0o (i:=3) sc.nd rfl (by first | exact Or.inl rfl | exact Or.inr rfl) (z2r PySem.F.plainAttrs_str PySem.F.slot_str_join PySem.F.type_str_join z1z z0l (z0a (z0r clawrows hr (by rfl) z1a (z0a (pv 2) (z0a (z0r clawnames hr (by rfl) z1a (z0a (pv 1) (z0a (z0s z0t (by rfl) zlen PySem.boot_len (z0a (z0y z0u (pv 2) z0f (λ _ _=>rfl)) z0e)) z0e))) z0e))) z0e))) (z0c (z4m PassesOwn.never rfl (z2a (by rfl) zrange (z0a (z0r clawdraw hr (by rfl) z1a (z0a (pv 1) (z0a z0f (z0a z0f z0e)))) z0e)) (z1f (i:=4) sc.nd rfl (Or.inl rfl)) (z0g (z0o (i:=3) sc.nd rfl (by first | exact Or.inl rfl | exact Or.inr rfl) (z0r clawchanged hr (by rfl) z1a (z0a (pv 3) (z0a (z0w z1m (pv 1) (z0w z3t (z0w z3t z0f (pv 4)) (pv 4))) z0e)))))) (z0c (z0o (i:=5) sc.nd rfl (by first | exact Or.inl rfl | exact Or.inr rfl) (z0r clawread hr (by rfl) z1a (z0a (pv 3) z0e))) (z0c (z1b (z2q (z0y z0u (pv 5) z0f (λ _ _=>rfl))) (z0c (z1b (PW.pt (z3b (z4v (z2q (z0s z2t (by rfl) zisinstance boot_isinstance (z0a (z0y z0u (pv 5) z0f (λ _ _=>rfl)) (z0a (z4e (v:=.ty "tuple") (by rfl) ztuple boot_tuple rfl) z0e))))) (z2z (z0j y8c (z0s z0t (by rfl) zlen PySem.boot_len (z0a (z0y z0u (pv 5) z0f (λ _ _=>rfl)) z0e)) z0f (z0q _))))) (z0g (z0k z8u)) z0n) (z0c (z0o (i:=6) sc.nd rfl (by first | exact Or.inl rfl | exact Or.inr rfl) (z0r cwritten hr (by rfl) z1a (z0a (z0y z0u (z0y z0u (pv 5) z0f (λ _ _=>rfl)) z0f (λ _ _=>rfl)) (z0a (z0y z0u (z0y z0u (pv 5) z0f (λ _ _=>rfl)) z0f (λ _ _=>rfl)) z0e)))) (z0g (z0k (y3v (z0s z2t (by rfl) zisinstance boot_isinstance (z0a (pv 6) (z0a (z4e (v:=.ty "str") (by rfl) zstr boot_str rfl) z0e))) (y3u (z6h z1i (pv 6) (pv 3) (z0q _)))))))) z0n) (z0c (z0o (i:=7) sc.nd rfl (by first | exact Or.inl rfl | exact Or.inr rfl) (z2r PySem.F.plainAttrs_str PySem.F.slot_str_split PySem.F.type_str_split z3v (pv 3) (z0a z0l z0e))) (z0c (z0o (i:=8) sc.nd rfl (by first | exact Or.inl rfl | exact Or.inr rfl) (z0y z0u (pv 5) z0f (λ _ _=>rfl))) (z0c (z1b (PW.pt (z3b (z4v (z2q (z0s z2t (by rfl) zisinstance boot_isinstance (z0a (pv 8) (z0a (z4e (v:=.ty "int") (by rfl) zint boot_int rfl) z0e))))) (z3b (z2q (z0s z2t (by rfl) zisinstance boot_isinstance (z0a (pv 8) (z0a (z4e (v:=.ty "bool") (by rfl) zbool boot_bool rfl) z0e)))) (z3b (z0j z8y (pv 8) z0f (z0q _)) (z2z (z0j y1k (pv 8) (z0s z0t (by rfl) zlen PySem.boot_len (z0a (pv 7) z0e)) (z0q _))))))) (z0g (z0k z8u)) z0n) (z0c (z0o (i:=9) sc.nd rfl (by first | exact Or.inl rfl | exact Or.inr rfl) (z0w z1p z0l (z0y z0u (z2r PySem.F.plainAttrs_str PySem.F.slot_str_partition PySem.F.type_str_partition z7n (z0y z0x (pv 7) z0f (λ _ _=>rfl)) (z0a z0l z0e)) z0f (λ _ _=>rfl)))) (z0c (z1b (PW.pt (y3k (z0j y1k (pv 8) z0f (z0q _)) (z8s (z4v (z2q (z0y z0u (z0r clawread hr (by rfl) z1a (z0a (z2r PySem.F.plainAttrs_str PySem.F.slot_str_join PySem.F.type_str_join z1z z0l (z0a (z0w z3u (z1o z2n (pv 7) z1y (z1x (z0w z4y (pv 8) z0f))) (z1j (z0a (pv 9) z0e))) z0e)) z0e)) z0f (λ _ _=>rfl))))))) (z0g (z0k z8u)) z0n) (z0c (z1b (z0j z1i (pv 8) (z0s z0t (by rfl) zlen PySem.boot_len (z0a (pv 7) z0e)) (z0q _)) (z0g (z0k z8u)) z0n) (z0c (z0o (i:=10) sc.nd rfl (by first | exact Or.inl rfl | exact Or.inr rfl) (z0r clawread hr (by rfl) z1a (z0a (z2r PySem.F.plainAttrs_str PySem.F.slot_str_join PySem.F.type_str_join z1z z0l (z0a (z0w z3u (z1o z2n (pv 7) z1y (z1x (pv 8))) (z1j (z0a (pv 9) z0e))) z0e)) z0e))) (z0g (z0k (y3v (x2w (z0y z0u (pv 10) z0f (λ _ _=>rfl))) (y3u (z6h z1i (z0y z0u (pv 10) z0f (λ _ _=>rfl)) (pv 8) (z0q _))))))))))))))))))),?_⟩
 simp only [L2.start,List.length_cons,List.length_nil,List.replicate,List.cons_append,List.nil_append,Nat.reduceSub,Nat.reduceAdd,List.map_cons,List.map_nil]
 refine z0h (λ σ H1=>H1=H/\∃tot:Int,σ=[some (.ref a),some (.int tot),none,none,none,none,none,none,none,none,none]) ?_ (λ R hR=>?_)
 rotate_left
 ·wp_walk using tSeq,tIfS,tyS,inV,eqV
  exact ⟨ns,hS,hR _ _ ⟨rfl,_,rfl⟩⟩
 rintro σ1 H1 ⟨rfl,tot,rfl⟩
 refine z0h (λ σ H2=>∃(pr:Addr) (ds:List Sd) (os:List Nat),σ=[some (.ref a),some (.int tot),some (.ref pr),none,none,none,none,none,none,none,none]/\Same H1 H2/\ProgAt H2 pr ds os/\OrdOk ds) ?_ (λ R hR=>?_)
 rotate_left
 ·wp_walk using tSeq,tIfS,tyS,inV,eqV,splawprogram
  exact ⟨ns,hS,h63,λ H1 p st ou ds as os s1 e1 e2 e3 e4 e5 e6 e7 e8 e9 e10 e11=>hR _ _ ⟨p,ds,os,rfl,s1,⟨st,ou,as,e1,e2,e3,e7,e4,e5,e6,e8,e9,e10⟩,e11⟩⟩
 rintro σ2 H2 ⟨pr,ds,os,rfl,s2,pg,od⟩
 refine z0h (λ σ H3=>∃T:Str,lowM 210002 T/\σ=[some (.ref a),some (.int tot),some (.ref pr),some (.str T),none,none,none,none,none,none,none]/\Same H2 H3) ?_ (λ R hR=>?_)
 rotate_left
 ·wp_walk using tSeq,tIfS,tyS,inV,eqV,splawnames,splawrows
  obtain ⟨st,ou,as,hp,hst,sd,hou,d1,d40,dk,o1,o8,ob⟩:=id pg
  refine ⟨_,hp,_,z0i (j:=0) rfl,st,rfl,_,.inr (.of hst),?_⟩
  rw [List.length_map,sd.1]
  refine ⟨ds.length,rfl,d40,λ G na nm g1 e1 nl g=>?_⟩
  have no:nmOk nm:=nameOk.nm g (by omega)
  obtain ⟨t1,t2⟩:=y7g sd d40 dk od nl g no o8 ob
  exact ⟨ds,os,pg.same g1,nm,e1,nl,no,λ G' r u hr=>⟨_,.of hr,t1,hR _ _ ⟨_,t2,rfl,g1.trans u⟩⟩⟩
 rintro σ3 H3 ⟨T,hT,rfl,s3⟩
 refine z0h (λ σ H4=>∃(T:Str) (y4:Option V),lowM 1680016 T/\σ=[some (.ref a),some (.int tot),some (.ref pr),some (.str T),y4,none,none,none,none,none,none]/\Same H3 H4) ?_ (λ R hR=>?_)
 rotate_left
 ·have r:=z0v tot 58 (show (0:Int) < 4 by decide)
  wp_walk using tSeq,tIfS,tyS,inV,eqV,splawdraw
  refine ⟨by omega,by omega,?_⟩
  obtain ⟨J,hJ⟩:∃J:Nat->L2.St->Hp->Prop,J=(λ i σ G=>∃(T:Str) (y4:Option V),lowM (210002 * 2 ^ i) T/\σ=[some (.ref a),some (.int tot),some (.ref pr),some (.str T),y4,none,none,none,none,none,none]/\Same H3 G):=⟨_,rfl⟩
  refine LoopR.mk J (by rw [hJ];exact ⟨T,_,hT,rfl,Same.refl _⟩) (λ i σ G hi h=>?_) (λ σ G h=>?_)
  ·rw [hJ] at h
   obtain ⟨T',y4,hT',rfl,sG⟩:=h
   have i3:i < 3:=by omega
   have p2:210002 * 2 ^ i≤1000000:=Nat.le_trans (Nat.mul_le_mul_left _ (Nat.pow_le_pow_right (by decide) (show i≤2 by omega))) (by decide)
   wp_walk using tSeq,tIfS,tyS,inV,eqV,splawchanged
   exact ⟨.inr ⟨by omega,by omega⟩,_,hT',p2,λ G' T2 u h2=>by rw [hJ];exact ⟨_,_,by rw [Nat.pow_succ,Nat.mul_comm (2 ^ i),← Nat.mul_assoc,Nat.mul_comm 210002,Nat.mul_assoc];exact h2,rfl,sG.trans u⟩⟩
  ·rw [hJ] at h
   obtain ⟨T',y4,hT',rfl,sG⟩:=h
   have p3:210002 * 2 ^ (drawF tot 58 4).toNat≤1680016:=Nat.le_trans (Nat.mul_le_mul_left _ (Nat.pow_le_pow_right (by decide) (show (drawF tot 58 4).toNat≤3 by omega))) (by decide)
   exact hR _ _ ⟨T',y4,⟨Nat.le_trans hT'.1 p3,hT'.2⟩,rfl,sG⟩
 clear hT
 rintro σ4 H4 ⟨T,y4,hT,rfl,s4⟩
 refine z0h (λ σ H5=>∃t,((∃i,BadAt (rowsT T) i/\H5 t=some (.tup [.bl false,.int ((i:Int)+1)]))\/(∃s os p,GoodR (rowsT T) s os/\H5 t=some (.tup [.bl true,.ref p])/\RdAt H5 s os p))/\σ=[some (.ref a),some (.int tot),some (.ref pr),some (.str T),y4,some (.ref t),none,none,none,none,none]) ?_ (λ R hR=>?_)
 rotate_left
 ·wp_walk using tSeq,tIfS,tyS,inV,eqV,splread
  exact ⟨⟨by have:=hT.1;omega,hT.2⟩,λ i b H' t u ht=>hR _ _ ⟨t,.inl ⟨i,b,ht⟩,rfl⟩,λ s os g H' t p u ht rd=>hR _ _ ⟨t,.inr ⟨s,os,p,g,ht,rd⟩,rfl⟩⟩
 have h1:=hT.1
 rintro σ5 H5 ⟨t,⟨i,b,ht⟩ | ⟨s,os,p,g,ht,rd⟩,rfl⟩
 ·have il:=x0k b
  rw [z5q] at il
  obtain ⟨fw,r0,e0,ex⟩:=y1y T
  generalize hx:strL ((splitL 32 ((rwT 10 T).headD "").cps.toList).headD [])=x at *
  have hm:(rwT 10 T).headD "" ∈ rwT 10 T:=by
   have:=z5p 10 T
   cases e:rwT 10 T with
   | nil=>rw [e] at this;cases this
   | cons a r=>exact List.mem_cons_self
  have hl:=(z4k hm).1
  have xl:x.length≤T.length:=Nat.le_trans (z4k fw).1 hl
  have ol:(Str.ofString "out ").length=4:=by decide +kernel
  have tk:=List.length_take_le' i (rwT 10 T)
  have tk1:=List.length_take_le' (i+1) (rwT 10 T)
  have rl:=y3d 10 T
  refine z0h (λ σ H6=>H6=H5/\σ=[some (.ref a),some (.int tot),some (.ref pr),some (.str T),y4,some (.ref t),none,none,none,none,none]) ?_ (λ R hR=>?_)
  rotate_left
  ·wp_walk using tIfS,tyS,inV,eqV
   refine ⟨_,ht,_,z0i (j:=0) rfl,false,rfl,?_⟩
   rw [if_neg (by decide)]
   exact hR _ _ ⟨rfl,rfl⟩
  rintro σ6 H6 ⟨rfl,rfl⟩
  refine z0h (λ σ H7=>∃rw0,Same H6 H7/\H7 rw0=some (.lst ((rwT 10 T).map V.str))/\σ=[some (.ref a),some (.int tot),some (.ref pr),some (.str T),y4,some (.ref t),none,some (.ref rw0),none,none,none]) ?_ (λ R hR=>?_)
  rotate_left
  ·wp_walk using tSeq,tIfS,tyS,inV,eqV
   exact ⟨10,z9d,by decide,by omega,λ r hr'=>hR _ _ ⟨r,z0b hr' _,by rw [z0d,z8p],rfl⟩⟩
  rintro σ7 H7 ⟨rw0,s7,hrw,rfl⟩
  refine z0h (λ σ H8=>H8=H7/\σ=[some (.ref a),some (.int tot),some (.ref pr),some (.str T),y4,some (.ref t),none,some (.ref rw0),some (.int ((i:Int)+1)),none,none]) ?_ (λ R hR=>?_)
  rotate_left
  ·wp_walk using tSeq,tIfS,tyS,inV,eqV
   exact ⟨_,s7 _ _ ht,_,z0i (j:=1) rfl,hR _ _ ⟨rfl,rfl⟩⟩
  rintro σ8 H8 ⟨rfl,rfl⟩
  refine z0h (λ σ H9=>H9=H8/\σ=[some (.ref a),some (.int tot),some (.ref pr),some (.str T),y4,some (.ref t),none,some (.ref rw0),some (.int ((i:Int)+1)),none,none]) ?_ (λ R hR=>?_)
  rotate_left
  ·wp_walk using tSeq,tIfS,tyS,inV,eqV
   refine ⟨"int",.inl rfl,?_⟩
   rw [if_neg (by decide)]
   refine ⟨"int",.inl rfl,?_⟩
   rw [if_neg (by decide),if_neg (by omega)]
   refine ⟨_,.inl (.of hrw),?_⟩
   rw [List.length_map,if_neg (by omega)]
   exact hR _ _ ⟨rfl,rfl⟩
  rintro σ9 H9 ⟨rfl,rfl⟩
  refine z0h (λ σ G=>Same H9 G/\σ=[some (.ref a),some (.int tot),some (.ref pr),some (.str T),y4,some (.ref t),none,some (.ref rw0),some (.int ((i:Int)+1)),some (.str (Str.ofString "out " ++ x)),none]) ?_ (λ R hR=>?_)
  rotate_left
  ·wp_walk using tSeq,tIfS,tyS,inV,eqV
   have r1:=z5p 10 T
   have a0:((rwT 10 T).map V.str)[0]?=some (.str ((rwT 10 T).headD "")):=by
    cases e:rwT 10 T with
    | nil=>rw [e] at r1;cases r1
    | cons r rs=>rfl
   refine ⟨_,hrw,_,z0i a0,trivial,_,rfl,32,y1c,by omega,λ l u v hl=>⟨_,z0i (j:=0) rfl,_,rfl,y9v (by rw [hx,ol];omega),?_⟩⟩
   rw [hx] at *
   exact hR _ _ ⟨z0b hl _,rfl⟩
  rintro σ10 H10 ⟨s10,rfl⟩
  have hrw10:=s10 _ _ hrw
  refine z0h (λ σ G=>Same H10 G/\σ=[some (.ref a),some (.int tot),some (.ref pr),some (.str T),y4,some (.ref t),none,some (.ref rw0),some (.int ((i:Int)+1)),some (.str (Str.ofString "out " ++ x)),none]) ?_ (λ R hR=>?_)
  rotate_left
  ·wp_walk using tSeq,tIfS,tyS,inV,eqV,splread,rSlL
   by_cases c1:1 < (i:Int)+1
   ·rw [if_pos c1]
    have ce:cutV ((rwT 10 T).map V.str) none (some ((i:Int)+1 - 1))=((rwT 10 T).take i).map V.str:=by rw [show (i:Int)+1 - 1=(i:Int) by omega];exact z6r _ i
    obtain ⟨c2,c3,c4⟩:=y0t (k:=i) hT (by decide) fw (by omega)
    refine ⟨_,.of hrw10,λ p hp=>⟨small (by decide),λ p1 hp1=>?_⟩⟩
    rw [ce] at hp1 ⊢
    refine ⟨_,z0b hp1 _ _ _ z0d,y9v (by rw [List.length_map];omega),λ p2 hp2=>⟨(rwT 10 T).take i++[Str.ofString "out " ++ x],.of (by rw [z0d,List.map_append];rfl),c2,c3,λ i1 b1=>?_,λ s os g H' t1 p3 u ht1 _=>⟨_,ht1,_,z0i (j:=0) rfl,true,rfl,?_⟩⟩⟩
    ·rw [c4] at b1
     obtain ⟨s,os,g⟩:=y6y b (by omega) e0 ex
     exact (y0w b1 g).elim
    ·rw [if_neg (by decide)]
     exact hR _ _ ⟨(z0b hp _).trans ((z0b hp1 _).trans ((z0b hp2 _).trans u)),rfl⟩
   ·rw [if_neg c1]
    exact hR _ _ ⟨Same.refl _,rfl⟩
  rintro σ11 H11 ⟨s11,rfl⟩
  have hrw11:=s11 _ _ hrw10
  refine z0h (λ σ G=>G=H11/\i+1≠(rwT 10 T).length/\σ=[some (.ref a),some (.int tot),some (.ref pr),some (.str T),y4,some (.ref t),none,some (.ref rw0),some (.int ((i:Int)+1)),some (.str (Str.ofString "out " ++ x)),none]) ?_ (λ R hR=>?_)
  rotate_left
  ·wp_walk using tSeq,tIfS,tyS,inV,eqV
   refine ⟨_,.inl (.of hrw11),?_⟩
   rw [List.length_map]
   split
   ·exact q _
   ·exact hR _ _ ⟨rfl,by omega,rfl⟩
  rintro σ12 H12 ⟨rfl,nl,rfl⟩
  refine z0h (λ σ G=>∃t2,G t2=some (.tup [.bl false,.int ((i:Int)+1)])/\σ=[some (.ref a),some (.int tot),some (.ref pr),some (.str T),y4,some (.ref t),none,some (.ref rw0),some (.int ((i:Int)+1)),some (.str (Str.ofString "out " ++ x)),some (.ref t2)]) ?_ (λ R hR=>?_)
  rotate_left
  ·wp_walk using tSeq,tIfS,tyS,inV,eqV,splread,rSlL
   have ce:cutV ((rwT 10 T).map V.str) none (some ((i:Int)+1))=((rwT 10 T).take (i+1)).map V.str:=z6r _ (i+1)
   obtain ⟨c2,c3,c4⟩:=y0t (k:=i+1) hT (by decide) fw (by omega)
   have bu:=y9w (z:=[("out" : Str),x]) b (by rw [z5q];exact nl)
   refine ⟨_,.of hrw11,λ p hp=>⟨small (by decide),λ p1 hp1=>?_⟩⟩
   rw [ce] at hp1 ⊢
   refine ⟨_,z0b hp1 _ _ _ z0d,y9v (by rw [List.length_map];omega),λ p2 hp2=>⟨(rwT 10 T).take (i+1)++[Str.ofString "out " ++ x],.of (by rw [z0d,List.map_append];rfl),c2,c3,λ i1 b1 H' t1 u ht1=>?_,λ s os g=>?_⟩⟩
   ·rw [c4] at b1
    cases x1x b1 bu
    exact hR _ _ ⟨t1,ht1,rfl⟩
   ·rw [c4] at g
    exact (y0w bu g).elim
  rintro σ13 H13 ⟨t2,ht2,rfl⟩
  wp_walk using tSeq,tIfS,tyS,inV,eqV
  exact ⟨_,ht2,_,z0i (j:=0) rfl,false,rfl,by rw [if_pos rfl];exact ⟨_,ht2,_,z0i (j:=1) rfl,rfl,by rw [decide_eq_true rfl];exact q _⟩⟩
 ·refine z0h (λ σ G=>False) (λ σ G h=>h.elim) (λ R hR=>?_)
  wp_walk using tIfS,tyS,inV,eqV
  refine ⟨_,ht,_,z0i (j:=0) rfl,true,rfl,?_⟩
  rw [if_pos rfl]
  obtain ⟨q0,na,st,oa,ps,h2,h3,h4,h5,h6,h7⟩:=id rd
  refine z0h (λ σ G=>G=H5/\σ=[some (.ref a),some (.int tot),some (.ref pr),some (.str T),y4,some (.ref t),none,none,none,none,none]) ?_ (λ R hR=>?_)
  rotate_left
  ·wp_walk using tSeq,tIfS,tyS,inV,eqV
   refine ⟨_,ht,_,z0i (j:=1) rfl, "tuple",.inr ⟨p,rfl,_,h2,rfl⟩,?_⟩
   rw [if_neg (by decide)]
   refine ⟨_,ht,_,z0i (j:=1) rfl,p,rfl,_,.inr (.of h2),?_⟩
   rw [if_neg (by simp)]
   exact hR _ _ ⟨rfl,rfl⟩
  rintro σ6 H6 ⟨rfl,rfl⟩
  obtain ⟨ows,wr,ew⟩:=x1h g
  have hna:H6 na=some (.tup ((nmsW (rowsT T) ((rowsT T).length - 1)).map V.str)):=by rw [h7,(z4c g.1).2.2.1]
  refine z0h (λ σ G=>σ=[some (.ref a),some (.int tot),some (.ref pr),some (.str T),y4,some (.ref t),some (.str T),none,none,none,none]) ?_ (λ R hR=>?_)
  rotate_left
  ·wp_walk using tSeq,tIfS,tyS,inV,eqV,spwritten
   refine ⟨_,ht,_,z0i (j:=1) rfl,p,rfl,_,h2,_,z0i (j:=0) rfl,_,ht,_,z0i (j:=1) rfl,p,rfl,_,h2,_,z0i (j:=1) rfl,q0,rfl,na,rfl,st,oa,h3,ps,h4,s.2,h5,os,h6,?_⟩
   refine ⟨nmsW (rowsT T) ((rowsT T).length - 1),hna,(rowsT T).take ((rowsT T).length - 1),ows,wr,λ G u=>?_⟩
   rw [ew,y2k]
   exact hR _ _ rfl
  rintro σ7 H7 rfl
  wp_walk using tSeq,tIfS,tyS,inV,eqV
  exact ⟨"str",.inl rfl,by rw [if_pos (by decide)];exact q _⟩
theorem z1q {α:Type}{us:List α}(h:us.length=1):∃x0,us=[x0]:=by
 match us,h with
 | [x0],_=>exact ⟨_,rfl⟩
theorem z3c {α:Type}{us:List α}(h:us.length=2):∃x0 x1,us=[x0,x1]:=by
 match us,h with
 | [x0,x1],_=>exact ⟨_,_,rfl⟩
theorem z2d {α:Type}{us:List α}(h:us.length=3):∃x0 x1 x2,us=[x0,x1,x2]:=by
 match us,h with
 | [x0,x1,x2],_=>exact ⟨_,_,_,rfl⟩
theorem all_mk {l:W.OpenLaw}{w:World}{K:W.Frag}{h:Heap}{mg:Str->Option Value}{fa f0 f1 f2 f3 f4 f5 f6 f7 f8 f9 f10 f11 f12 f13 f14 f15 f16 f17 f18 f19 f20 f21 f22 f23 f24 f25 f26 f27 f28 f29 f30 f31 f32 f33 f34:Addr}(X:K.In h) (G:h.Ns mainGlobals mg) (hfa:mg "law" = some (.ref fa))
  {od0 an0 od1 an1 od2 an2 od3 an3 od4 an4 od5 an5 od6 an6 od7 an7 od8 an8 od9 an9 od10 an10 od11 an11 od12 an12 od13 an13 od14 an14 od15 an15 od16 an16 od17 an17 od18 an18 od19 an19 od20 an20 od21 an21 od22 an22 od23 an23 od24 an24 od25 an25 od26 an26 od27 an27 od28 an28 od29 an29 od30 an30 od31 an31 od32 an32 od33 an33 od34 an34:Option Addr}{sl0 sl1 sl2 sl3 sl4 sl5 sl6 sl7 sl8 sl9 sl10 sl11 sl12 sl13 sl14 sl15 sl16 sl17 sl18 sl19 sl20 sl21 sl22 sl23 sl24 sl25 sl26 sl27 sl28 sl29 sl30 sl31 sl32 sl33 sl34:Array (Option Value)}{oc0 kV0 dc0 pm0 ct0 cd0 oc1 kV1 dc1 pm1 ct1 cd1 oc2 kV2 dc2 pm2 ct2 cd2 oc3 kV3 dc3 pm3 ct3 cd3 oc4 kV4 dc4 pm4 ct4 cd4 oc5 kV5 dc5 pm5 ct5 cd5 oc6 kV6 dc6 pm6 ct6 cd6 oc7 kV7 dc7 pm7 ct7 cd7 oc8 kV8 dc8 pm8 ct8 cd8 oc9 kV9 dc9 pm9 ct9 cd9 oc10 kV10 dc10 pm10 ct10 cd10 oc11 kV11 dc11 pm11 ct11 cd11 oc12 kV12 dc12 pm12 ct12 cd12 oc13 kV13 dc13 pm13 ct13 cd13 oc14 kV14 dc14 pm14 ct14 cd14 oc15 kV15 dc15 pm15 ct15 cd15 oc16 kV16 dc16 pm16 ct16 cd16 oc17 kV17 dc17 pm17 ct17 cd17 oc18 kV18 dc18 pm18 ct18 cd18 oc19 kV19 dc19 pm19 ct19 cd19 oc20 kV20 dc20 pm20 ct20 cd20 oc21 kV21 dc21 pm21 ct21 cd21 oc22 kV22 dc22 pm22 ct22 cd22 oc23 kV23 dc23 pm23 ct23 cd23 oc24 kV24 dc24 pm24 ct24 cd24 oc25 kV25 dc25 pm25 ct25 cd25 oc26 kV26 dc26 pm26 ct26 cd26 oc27 kV27 dc27 pm27 ct27 cd27 oc28 kV28 dc28 pm28 ct28 cd28 oc29 kV29 dc29 pm29 ct29 cd29 oc30 kV30 dc30 pm30 ct30 cd30 oc31 kV31 dc31 pm31 ct31 cd31 oc32 kV32 dc32 pm32 ct32 cd32 oc33 kV33 dc33 pm33 ct33 cd33 oc34 kV34 dc34 pm34 ct34 cd34:Value}
  (a0:W.nsIn K mainGlobals "is_made_of" = some (some (.ref f0))) (l0:K.lookup f0=some ⟨oc0,od0,.func (W.fnOf "is_made_of" "is_made_of" (defArgs sismadeof) (defBody sismadeof) (defScope sismadeof) .none kV0 dc0 pm0 an0 cd0 ct0),sl0⟩) (q0:W.codeIn K cd0 "is_made_of" = true) (k0:W.keepIn K (.ref f0)=true)
  (a1:W.nsIn K mainGlobals "is_name" = some (some (.ref f1))) (l1:K.lookup f1=some ⟨oc1,od1,.func (W.fnOf "is_name" "is_name" (defArgs sisname) (defBody sisname) (defScope sisname) .none kV1 dc1 pm1 an1 cd1 ct1),sl1⟩) (q1:W.codeIn K cd1 "is_name" = true) (k1:W.keepIn K (.ref f1)=true)
  (a2:W.nsIn K mainGlobals "figures_of" = some (some (.ref f2))) (l2:K.lookup f2=some ⟨oc2,od2,.func (W.fnOf "figures_of" "figures_of" (defArgs sfiguresof) (defBody sfiguresof) (defScope sfiguresof) .none kV2 dc2 pm2 an2 cd2 ct2),sl2⟩) (q2:W.codeIn K cd2 "figures_of" = true) (k2:W.keepIn K (.ref f2)=true)
  (a3:W.nsIn K mainGlobals "small_of" = some (some (.ref f3))) (l3:K.lookup f3=some ⟨oc3,od3,.func (W.fnOf "small_of" "small_of" (defArgs ssmallof) (defBody ssmallof) (defScope ssmallof) .none kV3 dc3 pm3 an3 cd3 ct3),sl3⟩) (q3:W.codeIn K cd3 "small_of" = true) (k3:W.keepIn K (.ref f3)=true)
  (a4:W.nsIn K mainGlobals "number_of" = some (some (.ref f4))) (l4:K.lookup f4=some ⟨oc4,od4,.func (W.fnOf "number_of" "number_of" (defArgs snumberof) (defBody snumberof) (defScope snumberof) .none kV4 dc4 pm4 an4 cd4 ct4),sl4⟩) (q4:W.codeIn K cd4 "number_of" = true) (k4:W.keepIn K (.ref f4)=true)
  (a5:W.nsIn K mainGlobals "smalls_of" = some (some (.ref f5))) (l5:K.lookup f5=some ⟨oc5,od5,.func (W.fnOf "smalls_of" "smalls_of" (defArgs ssmallsof) (defBody ssmallsof) (defScope ssmallsof) .none kV5 dc5 pm5 an5 cd5 ct5),sl5⟩) (q5:W.codeIn K cd5 "smalls_of" = true) (k5:W.keepIn K (.ref f5)=true)
  (a6:W.nsIn K mainGlobals "part_of" = some (some (.ref f6))) (l6:K.lookup f6=some ⟨oc6,od6,.func (W.fnOf "part_of" "part_of" (defArgs spartof) (defBody spartof) (defScope spartof) .none kV6 dc6 pm6 an6 cd6 ct6),sl6⟩) (q6:W.codeIn K cd6 "part_of" = true) (k6:W.keepIn K (.ref f6)=true)
  (a7:W.nsIn K mainGlobals "parts_of" = some (some (.ref f7))) (l7:K.lookup f7=some ⟨oc7,od7,.func (W.fnOf "parts_of" "parts_of" (defArgs spartsof) (defBody spartsof) (defScope spartsof) .none kV7 dc7 pm7 an7 cd7 ct7),sl7⟩) (q7:W.codeIn K cd7 "parts_of" = true) (k7:W.keepIn K (.ref f7)=true)
  (a8:W.nsIn K mainGlobals "is_form" = some (some (.ref f8))) (l8:K.lookup f8=some ⟨oc8,od8,.func (W.fnOf "is_form" "is_form" (defArgs sisform) (defBody sisform) (defScope sisform) .none kV8 dc8 pm8 an8 cd8 ct8),sl8⟩) (q8:W.codeIn K cd8 "is_form" = true) (k8:W.keepIn K (.ref f8)=true)
  (a9:W.nsIn K mainGlobals "step_of" = some (some (.ref f9))) (l9:K.lookup f9=some ⟨oc9,od9,.func (W.fnOf "step_of" "step_of" (defArgs sstepof) (defBody sstepof) (defScope sstepof) .none kV9 dc9 pm9 an9 cd9 ct9),sl9⟩) (q9:W.codeIn K cd9 "step_of" = true) (k9:W.keepIn K (.ref f9)=true)
  (a10:W.nsIn K mainGlobals "row_step" = some (some (.ref f10))) (l10:K.lookup f10=some ⟨oc10,od10,.func (W.fnOf "row_step" "row_step" (defArgs srowstep) (defBody srowstep) (defScope srowstep) .none kV10 dc10 pm10 an10 cd10 ct10),sl10⟩) (q10:W.codeIn K cd10 "row_step" = true) (k10:W.keepIn K (.ref f10)=true)
  (a11:W.nsIn K mainGlobals "row_outs" = some (some (.ref f11))) (l11:K.lookup f11=some ⟨oc11,od11,.func (W.fnOf "row_outs" "row_outs" (defArgs srowouts) (defBody srowouts) (defScope srowouts) .none kV11 dc11 pm11 an11 cd11 ct11),sl11⟩) (q11:W.codeIn K cd11 "row_outs" = true) (k11:W.keepIn K (.ref f11)=true)
  (a12:W.nsIn K mainGlobals "read" = some (some (.ref f12))) (l12:K.lookup f12=some ⟨oc12,od12,.func (W.fnOf "read" "read" (defArgs sread) (defBody sread) (defScope sread) .none kV12 dc12 pm12 an12 cd12 ct12),sl12⟩) (q12:W.codeIn K cd12 "read" = true) (k12:W.keepIn K (.ref f12)=true)
  (a13:W.nsIn K mainGlobals "part_words" = some (some (.ref f13))) (l13:K.lookup f13=some ⟨oc13,od13,.func (W.fnOf "part_words" "part_words" (defArgs spartwords) (defBody spartwords) (defScope spartwords) .none kV13 dc13 pm13 an13 cd13 ct13),sl13⟩) (q13:W.codeIn K cd13 "part_words" = true) (k13:W.keepIn K (.ref f13)=true)
  (a14:W.nsIn K mainGlobals "step_row" = some (some (.ref f14))) (l14:K.lookup f14=some ⟨oc14,od14,.func (W.fnOf "step_row" "step_row" (defArgs ssteprow) (defBody ssteprow) (defScope ssteprow) .none kV14 dc14 pm14 an14 cd14 ct14),sl14⟩) (q14:W.codeIn K cd14 "step_row" = true) (k14:W.keepIn K (.ref f14)=true)
  {dD15:Addr}
  (a15:W.nsIn K mainGlobals "written" = some (some (.ref f15))) (l15:K.lookup f15=some ⟨oc15,od15,.func (W.fnOf "written" "written" (defArgs swritten) (defBody swritten) (defScope swritten) (.ref dD15) kV15 dc15 pm15 an15 cd15 ct15),sl15⟩) (q15:W.codeIn K cd15 "written" = true) (k15:W.keepIn K (.ref f15)=true)
  {dO15:Option Addr}{dN15:Nat}{dS15:Array (Option Value)}(ld15:K.lookup dD15=some ⟨.type "tuple",dO15,.seq #[.none] dN15,dS15⟩)
  (a16:W.nsIn K mainGlobals "_law_draw" = some (some (.ref f16))) (l16:K.lookup f16=some ⟨oc16,od16,.func (W.fnOf "_law_draw" "_law_draw" (defArgs slawdraw) (defBody slawdraw) (defScope slawdraw) .none kV16 dc16 pm16 an16 cd16 ct16),sl16⟩) (q16:W.codeIn K cd16 "_law_draw" = true) (k16:W.keepIn K (.ref f16)=true)
  (a17:W.nsIn K mainGlobals "_law_smalls" = some (some (.ref f17))) (l17:K.lookup f17=some ⟨oc17,od17,.func (W.fnOf "_law_smalls" "_law_smalls" (defArgs slawsmalls) (defBody slawsmalls) (defScope slawsmalls) .none kV17 dc17 pm17 an17 cd17 ct17),sl17⟩) (q17:W.codeIn K cd17 "_law_smalls" = true) (k17:W.keepIn K (.ref f17)=true)
  (a18:W.nsIn K mainGlobals "_law_word" = some (some (.ref f18))) (l18:K.lookup f18=some ⟨oc18,od18,.func (W.fnOf "_law_word" "_law_word" (defArgs slawword) (defBody slawword) (defScope slawword) .none kV18 dc18 pm18 an18 cd18 ct18),sl18⟩) (q18:W.codeIn K cd18 "_law_word" = true) (k18:W.keepIn K (.ref f18)=true)
  (a19:W.nsIn K mainGlobals "_law_big" = some (some (.ref f19))) (l19:K.lookup f19=some ⟨oc19,od19,.func (W.fnOf "_law_big" "_law_big" (defArgs slawbig) (defBody slawbig) (defScope slawbig) .none kV19 dc19 pm19 an19 cd19 ct19),sl19⟩) (q19:W.codeIn K cd19 "_law_big" = true) (k19:W.keepIn K (.ref f19)=true)
  (a20:W.nsIn K mainGlobals "_law_made" = some (some (.ref f20))) (l20:K.lookup f20=some ⟨oc20,od20,.func (W.fnOf "_law_made" "_law_made" (defArgs slawmade) (defBody slawmade) (defScope slawmade) .none kV20 dc20 pm20 an20 cd20 ct20),sl20⟩) (q20:W.codeIn K cd20 "_law_made" = true) (k20:W.keepIn K (.ref f20)=true)
  (a21:W.nsIn K mainGlobals "_law_kind" = some (some (.ref f21))) (l21:K.lookup f21=some ⟨oc21,od21,.func (W.fnOf "_law_kind" "_law_kind" (defArgs slawkind) (defBody slawkind) (defScope slawkind) .none kV21 dc21 pm21 an21 cd21 ct21),sl21⟩) (q21:W.codeIn K cd21 "_law_kind" = true) (k21:W.keepIn K (.ref f21)=true)
  (a22:W.nsIn K mainGlobals "_law_spots" = some (some (.ref f22))) (l22:K.lookup f22=some ⟨oc22,od22,.func (W.fnOf "_law_spots" "_law_spots" (defArgs slawspots) (defBody slawspots) (defScope slawspots) .none kV22 dc22 pm22 an22 cd22 ct22),sl22⟩) (q22:W.codeIn K cd22 "_law_spots" = true) (k22:W.keepIn K (.ref f22)=true)
  (a23:W.nsIn K mainGlobals "_law_part" = some (some (.ref f23))) (l23:K.lookup f23=some ⟨oc23,od23,.func (W.fnOf "_law_part" "_law_part" (defArgs slawpart) (defBody slawpart) (defScope slawpart) .none kV23 dc23 pm23 an23 cd23 ct23),sl23⟩) (q23:W.codeIn K cd23 "_law_part" = true) (k23:W.keepIn K (.ref f23)=true)
  (a24:W.nsIn K mainGlobals "_law_row" = some (some (.ref f24))) (l24:K.lookup f24=some ⟨oc24,od24,.func (W.fnOf "_law_row" "_law_row" (defArgs slawrow) (defBody slawrow) (defScope slawrow) .none kV24 dc24 pm24 an24 cd24 ct24),sl24⟩) (q24:W.codeIn K cd24 "_law_row" = true) (k24:W.keepIn K (.ref f24)=true)
  (a25:W.nsIn K mainGlobals "_law_steps" = some (some (.ref f25))) (l25:K.lookup f25=some ⟨oc25,od25,.func (W.fnOf "_law_steps" "_law_steps" (defArgs slawsteps) (defBody slawsteps) (defScope slawsteps) .none kV25 dc25 pm25 an25 cd25 ct25),sl25⟩) (q25:W.codeIn K cd25 "_law_steps" = true) (k25:W.keepIn K (.ref f25)=true)
  (a26:W.nsIn K mainGlobals "_law_program" = some (some (.ref f26))) (l26:K.lookup f26=some ⟨oc26,od26,.func (W.fnOf "_law_program" "_law_program" (defArgs slawprogram) (defBody slawprogram) (defScope slawprogram) .none kV26 dc26 pm26 an26 cd26 ct26),sl26⟩) (q26:W.codeIn K cd26 "_law_program" = true) (k26:W.keepIn K (.ref f26)=true)
  (a27:W.nsIn K mainGlobals "_law_plain_name" = some (some (.ref f27))) (l27:K.lookup f27=some ⟨oc27,od27,.func (W.fnOf "_law_plain_name" "_law_plain_name" (defArgs slawplainname) (defBody slawplainname) (defScope slawplainname) .none kV27 dc27 pm27 an27 cd27 ct27),sl27⟩) (q27:W.codeIn K cd27 "_law_plain_name" = true) (k27:W.keepIn K (.ref f27)=true)
  (a28:W.nsIn K mainGlobals "_law_names" = some (some (.ref f28))) (l28:K.lookup f28=some ⟨oc28,od28,.func (W.fnOf "_law_names" "_law_names" (defArgs slawnames) (defBody slawnames) (defScope slawnames) .none kV28 dc28 pm28 an28 cd28 ct28),sl28⟩) (q28:W.codeIn K cd28 "_law_names" = true) (k28:W.keepIn K (.ref f28)=true)
  (a29:W.nsIn K mainGlobals "_law_rows" = some (some (.ref f29))) (l29:K.lookup f29=some ⟨oc29,od29,.func (W.fnOf "_law_rows" "_law_rows" (defArgs slawrows) (defBody slawrows) (defScope slawrows) .none kV29 dc29 pm29 an29 cd29 ct29),sl29⟩) (q29:W.codeIn K cd29 "_law_rows" = true) (k29:W.keepIn K (.ref f29)=true)
  (a30:W.nsIn K mainGlobals "_law_sign" = some (some (.ref f30))) (l30:K.lookup f30=some ⟨oc30,od30,.func (W.fnOf "_law_sign" "_law_sign" (defArgs slawsign) (defBody slawsign) (defScope slawsign) .none kV30 dc30 pm30 an30 cd30 ct30),sl30⟩) (q30:W.codeIn K cd30 "_law_sign" = true) (k30:W.keepIn K (.ref f30)=true)
  (a31:W.nsIn K mainGlobals "_law_rows_changed" = some (some (.ref f31))) (l31:K.lookup f31=some ⟨oc31,od31,.func (W.fnOf "_law_rows_changed" "_law_rows_changed" (defArgs slawrowschanged) (defBody slawrowschanged) (defScope slawrowschanged) .none kV31 dc31 pm31 an31 cd31 ct31),sl31⟩) (q31:W.codeIn K cd31 "_law_rows_changed" = true) (k31:W.keepIn K (.ref f31)=true)
  (a32:W.nsIn K mainGlobals "_law_changed" = some (some (.ref f32))) (l32:K.lookup f32=some ⟨oc32,od32,.func (W.fnOf "_law_changed" "_law_changed" (defArgs slawchanged) (defBody slawchanged) (defScope slawchanged) .none kV32 dc32 pm32 an32 cd32 ct32),sl32⟩) (q32:W.codeIn K cd32 "_law_changed" = true) (k32:W.keepIn K (.ref f32)=true)
  (a33:W.nsIn K mainGlobals "_law_read" = some (some (.ref f33))) (l33:K.lookup f33=some ⟨oc33,od33,.func (W.fnOf "_law_read" "_law_read" (defArgs slawread) (defBody slawread) (defScope slawread) .none kV33 dc33 pm33 an33 cd33 ct33),sl33⟩) (q33:W.codeIn K cd33 "_law_read" = true) (k33:W.keepIn K (.ref f33)=true)
  (a34:W.nsIn K mainGlobals "law" = some (some (.ref f34))) (l34:K.lookup f34=some ⟨oc34,od34,.func (W.fnOf "law" "law" (defArgs slaw) (defBody slaw) (defScope slaw) .none kV34 dc34 pm34 an34 cd34 ct34),sl34⟩) (q34:W.codeIn K cd34 "law" = true) (k34:W.keepIn K (.ref f34)=true)
  (zlen:W.nsIn K mainGlobals "len" = some none)
  (zall:W.nsIn K mainGlobals "all" = some none)
  (zint:W.nsIn K mainGlobals "int" = some none)
  (ztuple:W.nsIn K mainGlobals "tuple" = some none)
  (zlist:W.nsIn K mainGlobals "list" = some none)
  (zenumerate:W.nsIn K mainGlobals "enumerate" = some none)
  (zstr:W.nsIn K mainGlobals "str" = some none)
  (zzip:W.nsIn K mainGlobals "zip" = some none)
  (zrange:W.nsIn K mainGlobals "range" = some none)
  (zisinstance:W.nsIn K mainGlobals "isinstance" = some none)
  (zmax:W.nsIn K mainGlobals "max" = some none)
  (zsum:W.nsIn K mainGlobals "sum" = some none)
  (zmin:W.nsIn K mainGlobals "min" = some none)
  (zbool:W.nsIn K mainGlobals "bool" = some none)
  {tLETTERS:Tok}(gLETTERS:W.nsIn K mainGlobals "LETTERS" = some (some (.str "abcdefghijklmnopqrstuvwxyz" tLETTERS)))
  {tMOST_LETTERS:Tok}(gMOST_LETTERS:W.nsIn K mainGlobals "MOST_LETTERS" = some (some (.int 8 tMOST_LETTERS)))
  {tFIGURES:Tok}(gFIGURES:W.nsIn K mainGlobals "FIGURES" = some (some (.str "0123456789" tFIGURES)))
  {tLOW:Tok}(gLOW:W.nsIn K mainGlobals "LOW" = some (some (.int (-9223372036854775808) tLOW)))
  {tHIGH:Tok}(gHIGH:W.nsIn K mainGlobals "HIGH" = some (some (.int 9223372036854775807 tHIGH)))
  {tMOST_SIDES_WRITTEN:Tok}(gMOST_SIDES_WRITTEN:W.nsIn K mainGlobals "MOST_SIDES_WRITTEN" = some (some (.int 8 tMOST_SIDES_WRITTEN)))
  {tMOST_OUTS:Tok}(gMOST_OUTS:W.nsIn K mainGlobals "MOST_OUTS" = some (some (.int 8 tMOST_OUTS)))
  {tMOST_STEPS:Tok}(gMOST_STEPS:W.nsIn K mainGlobals "MOST_STEPS" = some (some (.int 40 tMOST_STEPS)))
  {CBadText:Addr}(nBadText:W.nsIn K mainGlobals "BadText" = some (some (.ref CBadText)))
  {CLoomError:Addr}(nLoomError:W.nsIn K mainGlobals "LoomError" = some (some (.ref CLoomError)))
  {dPT:Addr}{nPT:Nat}{tP0 tP1 tP2 tP3 tP4 tP5 tP6 tP7 tP8 tP9 tP10 tP11 tP12 tP13 tP14:Tok}{aP0 aP1 aP2 aP3 aP4 aP5 aP6 aP7 aP8 aP9 aP10 aP11 aP12 aP13 aP14:Addr}
  (gPT:W.nsIn K mainGlobals "PARTS" = some (some (.ref dPT))) (dPT0:(dPT == sysModules)=false)
  (lPT:K.lookup dPT=some { cls:=.type "dict",data:=.dict #[⟨PyData.keyHash w.params "in",.str "in" tP0,.ref aP0⟩,⟨PyData.keyHash w.params "num",.str "num" tP1,.ref aP1⟩,⟨PyData.keyHash w.params "count",.str "count" tP2,.ref aP2⟩,⟨PyData.keyHash w.params "each",.str "each" tP3,.ref aP3⟩,⟨PyData.keyHash w.params "pair",.str "pair" tP4,.ref aP4⟩,⟨PyData.keyHash w.params "pick",.str "pick" tP5,.ref aP5⟩,⟨PyData.keyHash w.params "turn",.str "turn" tP6,.ref aP6⟩,⟨PyData.keyHash w.params "flip",.str "flip" tP7,.ref aP7⟩,⟨PyData.keyHash w.params "cut",.str "cut" tP8,.ref aP8⟩,⟨PyData.keyHash w.params "spread",.str "spread" tP9,.ref aP9⟩,⟨PyData.keyHash w.params "lay",.str "lay" tP10,.ref aP10⟩,⟨PyData.keyHash w.params "join",.str "join" tP11,.ref aP11⟩,⟨PyData.keyHash w.params "fetch",.str "fetch" tP12,.ref aP12⟩,⟨PyData.keyHash w.params "fold",.str "fold" tP13,.ref aP13⟩,⟨PyData.keyHash w.params "run",.str "run" tP14,.ref aP14⟩] nPT })
  {odP0:Option Addr}{nP0:Nat}{slP0:Array (Option Value)}{aP0_0:Addr}(lP0:K.lookup aP0=some ⟨.type "tuple",odP0,.seq #[.ref aP0_0] nP0,slP0⟩)
  {odP0_0:Option Addr}{nP0_0:Nat}{slP0_0:Array (Option Value)}{tP0_0 uP0_0:Tok}(lP0_0:K.lookup aP0_0=some ⟨.type "tuple",odP0_0,.seq #[.str "sides" tP0_0,.int 1 uP0_0] nP0_0,slP0_0⟩)
  {odP1:Option Addr}{nP1:Nat}{slP1:Array (Option Value)}{aP1_0:Addr}(lP1:K.lookup aP1=some ⟨.type "tuple",odP1,.seq #[.ref aP1_0] nP1,slP1⟩)
  {odP1_0:Option Addr}{nP1_0:Nat}{slP1_0:Array (Option Value)}{tP1_0 uP1_0:Tok}(lP1_0:K.lookup aP1_0=some ⟨.type "tuple",odP1_0,.seq #[.str "number" tP1_0,.int 1 uP1_0] nP1_0,slP1_0⟩)
  {odP2:Option Addr}{nP2:Nat}{slP2:Array (Option Value)}{aP2_0 aP2_1:Addr}(lP2:K.lookup aP2=some ⟨.type "tuple",odP2,.seq #[.ref aP2_0,.ref aP2_1] nP2,slP2⟩)
  {odP2_0:Option Addr}{nP2_0:Nat}{slP2_0:Array (Option Value)}{tP2_0 uP2_0:Tok}(lP2_0:K.lookup aP2_0=some ⟨.type "tuple",odP2_0,.seq #[.str "small" tP2_0,.int 2 uP2_0] nP2_0,slP2_0⟩)
  {odP2_1:Option Addr}{nP2_1:Nat}{slP2_1:Array (Option Value)}{tP2_1 uP2_1:Tok}(lP2_1:K.lookup aP2_1=some ⟨.type "tuple",odP2_1,.seq #[.str "sides" tP2_1,.int 1 uP2_1] nP2_1,slP2_1⟩)
  {odP3:Option Addr}{nP3:Nat}{slP3:Array (Option Value)}{aP3_0 aP3_1:Addr}(lP3:K.lookup aP3=some ⟨.type "tuple",odP3,.seq #[.ref aP3_0,.ref aP3_1] nP3,slP3⟩)
  {odP3_0:Option Addr}{nP3_0:Nat}{slP3_0:Array (Option Value)}{tP3_0 uP3_0:Tok}(lP3_0:K.lookup aP3_0=some ⟨.type "tuple",odP3_0,.seq #[.str "word" tP3_0,.int 1 uP3_0] nP3_0,slP3_0⟩)
  {odP3_1:Option Addr}{nP3_1:Nat}{slP3_1:Array (Option Value)}{tP3_1 uP3_1:Tok}(lP3_1:K.lookup aP3_1=some ⟨.type "tuple",odP3_1,.seq #[.str "step" tP3_1,.int 2 uP3_1] nP3_1,slP3_1⟩)
  {odP4:Option Addr}{nP4:Nat}{slP4:Array (Option Value)}{aP4_0 aP4_1 aP4_2:Addr}(lP4:K.lookup aP4=some ⟨.type "tuple",odP4,.seq #[.ref aP4_0,.ref aP4_1,.ref aP4_2] nP4,slP4⟩)
  {odP4_0:Option Addr}{nP4_0:Nat}{slP4_0:Array (Option Value)}{tP4_0 uP4_0:Tok}(lP4_0:K.lookup aP4_0=some ⟨.type "tuple",odP4_0,.seq #[.str "word" tP4_0,.int 1 uP4_0] nP4_0,slP4_0⟩)
  {odP4_1:Option Addr}{nP4_1:Nat}{slP4_1:Array (Option Value)}{tP4_1 uP4_1:Tok}(lP4_1:K.lookup aP4_1=some ⟨.type "tuple",odP4_1,.seq #[.str "step" tP4_1,.int 2 uP4_1] nP4_1,slP4_1⟩)
  {odP4_2:Option Addr}{nP4_2:Nat}{slP4_2:Array (Option Value)}{tP4_2 uP4_2:Tok}(lP4_2:K.lookup aP4_2=some ⟨.type "tuple",odP4_2,.seq #[.str "step" tP4_2,.int 3 uP4_2] nP4_2,slP4_2⟩)
  {odP5:Option Addr}{nP5:Nat}{slP5:Array (Option Value)}{aP5_0 aP5_1 aP5_2:Addr}(lP5:K.lookup aP5=some ⟨.type "tuple",odP5,.seq #[.ref aP5_0,.ref aP5_1,.ref aP5_2] nP5,slP5⟩)
  {odP5_0:Option Addr}{nP5_0:Nat}{slP5_0:Array (Option Value)}{tP5_0 uP5_0:Tok}(lP5_0:K.lookup aP5_0=some ⟨.type "tuple",odP5_0,.seq #[.str "step" tP5_0,.int 1 uP5_0] nP5_0,slP5_0⟩)
  {odP5_1:Option Addr}{nP5_1:Nat}{slP5_1:Array (Option Value)}{tP5_1 uP5_1:Tok}(lP5_1:K.lookup aP5_1=some ⟨.type "tuple",odP5_1,.seq #[.str "step" tP5_1,.int 2 uP5_1] nP5_1,slP5_1⟩)
  {odP5_2:Option Addr}{nP5_2:Nat}{slP5_2:Array (Option Value)}{tP5_2 uP5_2:Tok}(lP5_2:K.lookup aP5_2=some ⟨.type "tuple",odP5_2,.seq #[.str "step" tP5_2,.int 3 uP5_2] nP5_2,slP5_2⟩)
  {odP6:Option Addr}{nP6:Nat}{slP6:Array (Option Value)}{aP6_0 aP6_1:Addr}(lP6:K.lookup aP6=some ⟨.type "tuple",odP6,.seq #[.ref aP6_0,.ref aP6_1] nP6,slP6⟩)
  {odP6_0:Option Addr}{nP6_0:Nat}{slP6_0:Array (Option Value)}{tP6_0 uP6_0:Tok}(lP6_0:K.lookup aP6_0=some ⟨.type "tuple",odP6_0,.seq #[.str "step" tP6_0,.int 1 uP6_0] nP6_0,slP6_0⟩)
  {odP6_1:Option Addr}{nP6_1:Nat}{slP6_1:Array (Option Value)}{tP6_1 uP6_1:Tok}(lP6_1:K.lookup aP6_1=some ⟨.type "tuple",odP6_1,.seq #[.str "sides" tP6_1,.int 2 uP6_1] nP6_1,slP6_1⟩)
  {odP7:Option Addr}{nP7:Nat}{slP7:Array (Option Value)}{aP7_0 aP7_1:Addr}(lP7:K.lookup aP7=some ⟨.type "tuple",odP7,.seq #[.ref aP7_0,.ref aP7_1] nP7,slP7⟩)
  {odP7_0:Option Addr}{nP7_0:Nat}{slP7_0:Array (Option Value)}{tP7_0 uP7_0:Tok}(lP7_0:K.lookup aP7_0=some ⟨.type "tuple",odP7_0,.seq #[.str "step" tP7_0,.int 1 uP7_0] nP7_0,slP7_0⟩)
  {odP7_1:Option Addr}{nP7_1:Nat}{slP7_1:Array (Option Value)}{tP7_1 uP7_1:Tok}(lP7_1:K.lookup aP7_1=some ⟨.type "tuple",odP7_1,.seq #[.str "small" tP7_1,.int 2 uP7_1] nP7_1,slP7_1⟩)
  {odP8:Option Addr}{nP8:Nat}{slP8:Array (Option Value)}{aP8_0 aP8_1 aP8_2 aP8_3 aP8_4:Addr}(lP8:K.lookup aP8=some ⟨.type "tuple",odP8,.seq #[.ref aP8_0,.ref aP8_1,.ref aP8_2,.ref aP8_3,.ref aP8_4] nP8,slP8⟩)
  {odP8_0:Option Addr}{nP8_0:Nat}{slP8_0:Array (Option Value)}{tP8_0 uP8_0:Tok}(lP8_0:K.lookup aP8_0=some ⟨.type "tuple",odP8_0,.seq #[.str "step" tP8_0,.int 1 uP8_0] nP8_0,slP8_0⟩)
  {odP8_1:Option Addr}{nP8_1:Nat}{slP8_1:Array (Option Value)}{tP8_1 uP8_1:Tok}(lP8_1:K.lookup aP8_1=some ⟨.type "tuple",odP8_1,.seq #[.str "small" tP8_1,.int 2 uP8_1] nP8_1,slP8_1⟩)
  {odP8_2:Option Addr}{nP8_2:Nat}{slP8_2:Array (Option Value)}{tP8_2 uP8_2:Tok}(lP8_2:K.lookup aP8_2=some ⟨.type "tuple",odP8_2,.seq #[.str "small" tP8_2,.int 3 uP8_2] nP8_2,slP8_2⟩)
  {odP8_3:Option Addr}{nP8_3:Nat}{slP8_3:Array (Option Value)}{tP8_3 uP8_3:Tok}(lP8_3:K.lookup aP8_3=some ⟨.type "tuple",odP8_3,.seq #[.str "small" tP8_3,.int 4 uP8_3] nP8_3,slP8_3⟩)
  {odP8_4:Option Addr}{nP8_4:Nat}{slP8_4:Array (Option Value)}{tP8_4 uP8_4:Tok}(lP8_4:K.lookup aP8_4=some ⟨.type "tuple",odP8_4,.seq #[.str "small" tP8_4,.int 5 uP8_4] nP8_4,slP8_4⟩)
  {odP9:Option Addr}{nP9:Nat}{slP9:Array (Option Value)}{aP9_0 aP9_1 aP9_2:Addr}(lP9:K.lookup aP9=some ⟨.type "tuple",odP9,.seq #[.ref aP9_0,.ref aP9_1,.ref aP9_2] nP9,slP9⟩)
  {odP9_0:Option Addr}{nP9_0:Nat}{slP9_0:Array (Option Value)}{tP9_0 uP9_0:Tok}(lP9_0:K.lookup aP9_0=some ⟨.type "tuple",odP9_0,.seq #[.str "step" tP9_0,.int 1 uP9_0] nP9_0,slP9_0⟩)
  {odP9_1:Option Addr}{nP9_1:Nat}{slP9_1:Array (Option Value)}{tP9_1 uP9_1:Tok}(lP9_1:K.lookup aP9_1=some ⟨.type "tuple",odP9_1,.seq #[.str "small" tP9_1,.int 2 uP9_1] nP9_1,slP9_1⟩)
  {odP9_2:Option Addr}{nP9_2:Nat}{slP9_2:Array (Option Value)}{tP9_2 uP9_2:Tok}(lP9_2:K.lookup aP9_2=some ⟨.type "tuple",odP9_2,.seq #[.str "small" tP9_2,.int 3 uP9_2] nP9_2,slP9_2⟩)
  {odP10:Option Addr}{nP10:Nat}{slP10:Array (Option Value)}{aP10_0 aP10_1:Addr}(lP10:K.lookup aP10=some ⟨.type "tuple",odP10,.seq #[.ref aP10_0,.ref aP10_1] nP10,slP10⟩)
  {odP10_0:Option Addr}{nP10_0:Nat}{slP10_0:Array (Option Value)}{tP10_0 uP10_0:Tok}(lP10_0:K.lookup aP10_0=some ⟨.type "tuple",odP10_0,.seq #[.str "step" tP10_0,.int 1 uP10_0] nP10_0,slP10_0⟩)
  {odP10_1:Option Addr}{nP10_1:Nat}{slP10_1:Array (Option Value)}{tP10_1 uP10_1:Tok}(lP10_1:K.lookup aP10_1=some ⟨.type "tuple",odP10_1,.seq #[.str "sides" tP10_1,.int 2 uP10_1] nP10_1,slP10_1⟩)
  {odP11:Option Addr}{nP11:Nat}{slP11:Array (Option Value)}{aP11_0 aP11_1 aP11_2:Addr}(lP11:K.lookup aP11=some ⟨.type "tuple",odP11,.seq #[.ref aP11_0,.ref aP11_1,.ref aP11_2] nP11,slP11⟩)
  {odP11_0:Option Addr}{nP11_0:Nat}{slP11_0:Array (Option Value)}{tP11_0 uP11_0:Tok}(lP11_0:K.lookup aP11_0=some ⟨.type "tuple",odP11_0,.seq #[.str "step" tP11_0,.int 1 uP11_0] nP11_0,slP11_0⟩)
  {odP11_1:Option Addr}{nP11_1:Nat}{slP11_1:Array (Option Value)}{tP11_1 uP11_1:Tok}(lP11_1:K.lookup aP11_1=some ⟨.type "tuple",odP11_1,.seq #[.str "step" tP11_1,.int 2 uP11_1] nP11_1,slP11_1⟩)
  {odP11_2:Option Addr}{nP11_2:Nat}{slP11_2:Array (Option Value)}{tP11_2 uP11_2:Tok}(lP11_2:K.lookup aP11_2=some ⟨.type "tuple",odP11_2,.seq #[.str "small" tP11_2,.int 3 uP11_2] nP11_2,slP11_2⟩)
  {odP12:Option Addr}{nP12:Nat}{slP12:Array (Option Value)}{aP12_0 aP12_1:Addr}(lP12:K.lookup aP12=some ⟨.type "tuple",odP12,.seq #[.ref aP12_0,.ref aP12_1] nP12,slP12⟩)
  {odP12_0:Option Addr}{nP12_0:Nat}{slP12_0:Array (Option Value)}{tP12_0 uP12_0:Tok}(lP12_0:K.lookup aP12_0=some ⟨.type "tuple",odP12_0,.seq #[.str "step" tP12_0,.int 1 uP12_0] nP12_0,slP12_0⟩)
  {odP12_1:Option Addr}{nP12_1:Nat}{slP12_1:Array (Option Value)}{tP12_1 uP12_1:Tok}(lP12_1:K.lookup aP12_1=some ⟨.type "tuple",odP12_1,.seq #[.str "step" tP12_1,.int 2 uP12_1] nP12_1,slP12_1⟩)
  {odP13:Option Addr}{nP13:Nat}{slP13:Array (Option Value)}{aP13_0 aP13_1 aP13_2:Addr}(lP13:K.lookup aP13=some ⟨.type "tuple",odP13,.seq #[.ref aP13_0,.ref aP13_1,.ref aP13_2] nP13,slP13⟩)
  {odP13_0:Option Addr}{nP13_0:Nat}{slP13_0:Array (Option Value)}{tP13_0 uP13_0:Tok}(lP13_0:K.lookup aP13_0=some ⟨.type "tuple",odP13_0,.seq #[.str "word" tP13_0,.int 1 uP13_0] nP13_0,slP13_0⟩)
  {odP13_1:Option Addr}{nP13_1:Nat}{slP13_1:Array (Option Value)}{tP13_1 uP13_1:Tok}(lP13_1:K.lookup aP13_1=some ⟨.type "tuple",odP13_1,.seq #[.str "step" tP13_1,.int 2 uP13_1] nP13_1,slP13_1⟩)
  {odP13_2:Option Addr}{nP13_2:Nat}{slP13_2:Array (Option Value)}{tP13_2 uP13_2:Tok}(lP13_2:K.lookup aP13_2=some ⟨.type "tuple",odP13_2,.seq #[.str "small" tP13_2,.int 3 uP13_2] nP13_2,slP13_2⟩)
  {odP14:Option Addr}{nP14:Nat}{slP14:Array (Option Value)}{aP14_0 aP14_1 aP14_2:Addr}(lP14:K.lookup aP14=some ⟨.type "tuple",odP14,.seq #[.ref aP14_0,.ref aP14_1,.ref aP14_2] nP14,slP14⟩)
  {odP14_0:Option Addr}{nP14_0:Nat}{slP14_0:Array (Option Value)}{tP14_0 uP14_0:Tok}(lP14_0:K.lookup aP14_0=some ⟨.type "tuple",odP14_0,.seq #[.str "word" tP14_0,.int 1 uP14_0] nP14_0,slP14_0⟩)
  {odP14_1:Option Addr}{nP14_1:Nat}{slP14_1:Array (Option Value)}{tP14_1 uP14_1:Tok}(lP14_1:K.lookup aP14_1=some ⟨.type "tuple",odP14_1,.seq #[.str "step" tP14_1,.int 2 uP14_1] nP14_1,slP14_1⟩)
  {odP14_2:Option Addr}{nP14_2:Nat}{slP14_2:Array (Option Value)}{tP14_2 uP14_2:Tok}(lP14_2:K.lookup aP14_2=some ⟨.type "tuple",odP14_2,.seq #[.str "small" tP14_2,.int 3 uP14_2] nP14_2,slP14_2⟩)
  {fI:Addr}{ocI kVI dcI pmI cdI ctI:Value}{odI anI:Option Addr}{slI:Array (Option Value)}
  (aI:W.findIn K (.ref CBadText) "__init__" = some (some (.ref fI)))
  (lI:K.lookup fI=some ⟨ocI,odI,.func (W.fnOf "__init__" "BadText.__init__" (defArgs sinit) (defBody sinit) (defScope sinit) .none kVI dcI pmI anI cdI ctI),slI⟩)
  (qI:W.codeIn K cdI "BadText.__init__" = true)
  (kI:W.keepIn K (.ref fI)=true)
  (iI:W.isFn K (.ref fI)=true)
  (kC:W.keepIn K (.ref CBadText)=true)
  (clsI:clsX K CBadText [.type "ValueError",.type "Exception",.type "BaseException",.type "object"] "ValueError.__new__" = true)
  (ovI:(W.clsIn K CBadText).any (λ cd=>cd.hasDict && overX cd.mro)=true)
  (saI:W.findIn K (.ref CBadText) "__setattr__" = some (some (.builtin "object.__setattr__")))
  (gaI:W.findIn K (.ref CBadText) "__getattribute__" = some (some (.builtin "BaseException.__getattribute__")))
  (n1:W.findIn K (.ref CBadText) (Str.ofString "row")=some none)
  (n3:W.findIn K (.ref CBadText) (Str.ofString "__getattr__")=some none)
  (hL1:W.specialIn K (.ref CLoomError) "__getattribute__" = some (some (.builtin "type.__getattribute__")))
  (hL2:W.readsIn K CLoomError (.type "type")=true)
  (hL3:W.findCls K (.ref CLoomError) (.type "type") "__init__" = some (.val (.builtin "ValueError.__init__")))
  : ∃fd:FuncData,(∀(s:Shared) (v:Value),BindsTo s fd ⟨[v],[]⟩ [("script",v)])/\∀base:Heap,K.In base->base.Ns mainGlobals mg->FnOk l.prog w K mg base CX0 11 fa fd ["script"] (splaw K):=by
 have e:=hfa.symm.trans (W.mg_of X G a34)
 cases e
 have TP:PartsOk l.prog w K dPT:=⟨_,KTab.mk (l:=[("in",tP0,aP0),("num",tP1,aP1),("count",tP2,aP2),("each",tP3,aP3),("pair",tP4,aP4),("pick",tP5,aP5),("turn",tP6,aP6),("flip",tP7,aP7),("cut",tP8,aP8),("spread",tP9,aP9),("lay",tP10,aP10),("join",tP11,aP11),("fetch",tP12,aP12),("fold",tP13,aP13),("run",tP14,aP14)]) dPT0 lPT rfl (show (["in", "num", "count", "each", "pair", "pick", "turn", "flip", "cut", "spread", "lay", "join", "fetch", "fold", "run"]:List Str).Nodup by decide +kernel),⟨⟨rfl,_,z0p (xs:=[.ref aP0_0]) lP0 (small (show (1:Nat)≤1000 by decide)) (.cons rfl (.nil)),⟨⟨_,rfl,z0p lP0_0 (small (show (2:Nat)≤1000 by decide)) (.cons ⟨_,rfl⟩ (.cons ⟨_,rfl⟩ .nil))⟩,trivial⟩⟩,⟨⟨rfl,_,z0p (xs:=[.ref aP1_0]) lP1 (small (show (1:Nat)≤1000 by decide)) (.cons rfl (.nil)),⟨⟨_,rfl,z0p lP1_0 (small (show (2:Nat)≤1000 by decide)) (.cons ⟨_,rfl⟩ (.cons ⟨_,rfl⟩ .nil))⟩,trivial⟩⟩,⟨⟨rfl,_,z0p (xs:=[.ref aP2_0,.ref aP2_1]) lP2 (small (show (2:Nat)≤1000 by decide)) (.cons rfl (.cons rfl (.nil))),⟨⟨_,rfl,z0p lP2_0 (small (show (2:Nat)≤1000 by decide)) (.cons ⟨_,rfl⟩ (.cons ⟨_,rfl⟩ .nil))⟩,⟨⟨_,rfl,z0p lP2_1 (small (show (2:Nat)≤1000 by decide)) (.cons ⟨_,rfl⟩ (.cons ⟨_,rfl⟩ .nil))⟩,trivial⟩⟩⟩,⟨⟨rfl,_,z0p (xs:=[.ref aP3_0,.ref aP3_1]) lP3 (small (show (2:Nat)≤1000 by decide)) (.cons rfl (.cons rfl (.nil))),⟨⟨_,rfl,z0p lP3_0 (small (show (2:Nat)≤1000 by decide)) (.cons ⟨_,rfl⟩ (.cons ⟨_,rfl⟩ .nil))⟩,⟨⟨_,rfl,z0p lP3_1 (small (show (2:Nat)≤1000 by decide)) (.cons ⟨_,rfl⟩ (.cons ⟨_,rfl⟩ .nil))⟩,trivial⟩⟩⟩,⟨⟨rfl,_,z0p (xs:=[.ref aP4_0,.ref aP4_1,.ref aP4_2]) lP4 (small (show (3:Nat)≤1000 by decide)) (.cons rfl (.cons rfl (.cons rfl (.nil)))),⟨⟨_,rfl,z0p lP4_0 (small (show (2:Nat)≤1000 by decide)) (.cons ⟨_,rfl⟩ (.cons ⟨_,rfl⟩ .nil))⟩,⟨⟨_,rfl,z0p lP4_1 (small (show (2:Nat)≤1000 by decide)) (.cons ⟨_,rfl⟩ (.cons ⟨_,rfl⟩ .nil))⟩,⟨⟨_,rfl,z0p lP4_2 (small (show (2:Nat)≤1000 by decide)) (.cons ⟨_,rfl⟩ (.cons ⟨_,rfl⟩ .nil))⟩,trivial⟩⟩⟩⟩,⟨⟨rfl,_,z0p (xs:=[.ref aP5_0,.ref aP5_1,.ref aP5_2]) lP5 (small (show (3:Nat)≤1000 by decide)) (.cons rfl (.cons rfl (.cons rfl (.nil)))),⟨⟨_,rfl,z0p lP5_0 (small (show (2:Nat)≤1000 by decide)) (.cons ⟨_,rfl⟩ (.cons ⟨_,rfl⟩ .nil))⟩,⟨⟨_,rfl,z0p lP5_1 (small (show (2:Nat)≤1000 by decide)) (.cons ⟨_,rfl⟩ (.cons ⟨_,rfl⟩ .nil))⟩,⟨⟨_,rfl,z0p lP5_2 (small (show (2:Nat)≤1000 by decide)) (.cons ⟨_,rfl⟩ (.cons ⟨_,rfl⟩ .nil))⟩,trivial⟩⟩⟩⟩,⟨⟨rfl,_,z0p (xs:=[.ref aP6_0,.ref aP6_1]) lP6 (small (show (2:Nat)≤1000 by decide)) (.cons rfl (.cons rfl (.nil))),⟨⟨_,rfl,z0p lP6_0 (small (show (2:Nat)≤1000 by decide)) (.cons ⟨_,rfl⟩ (.cons ⟨_,rfl⟩ .nil))⟩,⟨⟨_,rfl,z0p lP6_1 (small (show (2:Nat)≤1000 by decide)) (.cons ⟨_,rfl⟩ (.cons ⟨_,rfl⟩ .nil))⟩,trivial⟩⟩⟩,⟨⟨rfl,_,z0p (xs:=[.ref aP7_0,.ref aP7_1]) lP7 (small (show (2:Nat)≤1000 by decide)) (.cons rfl (.cons rfl (.nil))),⟨⟨_,rfl,z0p lP7_0 (small (show (2:Nat)≤1000 by decide)) (.cons ⟨_,rfl⟩ (.cons ⟨_,rfl⟩ .nil))⟩,⟨⟨_,rfl,z0p lP7_1 (small (show (2:Nat)≤1000 by decide)) (.cons ⟨_,rfl⟩ (.cons ⟨_,rfl⟩ .nil))⟩,trivial⟩⟩⟩,⟨⟨rfl,_,z0p (xs:=[.ref aP8_0,.ref aP8_1,.ref aP8_2,.ref aP8_3,.ref aP8_4]) lP8 (small (show (5:Nat)≤1000 by decide)) (.cons rfl (.cons rfl (.cons rfl (.cons rfl (.cons rfl (.nil)))))),⟨⟨_,rfl,z0p lP8_0 (small (show (2:Nat)≤1000 by decide)) (.cons ⟨_,rfl⟩ (.cons ⟨_,rfl⟩ .nil))⟩,⟨⟨_,rfl,z0p lP8_1 (small (show (2:Nat)≤1000 by decide)) (.cons ⟨_,rfl⟩ (.cons ⟨_,rfl⟩ .nil))⟩,⟨⟨_,rfl,z0p lP8_2 (small (show (2:Nat)≤1000 by decide)) (.cons ⟨_,rfl⟩ (.cons ⟨_,rfl⟩ .nil))⟩,⟨⟨_,rfl,z0p lP8_3 (small (show (2:Nat)≤1000 by decide)) (.cons ⟨_,rfl⟩ (.cons ⟨_,rfl⟩ .nil))⟩,⟨⟨_,rfl,z0p lP8_4 (small (show (2:Nat)≤1000 by decide)) (.cons ⟨_,rfl⟩ (.cons ⟨_,rfl⟩ .nil))⟩,trivial⟩⟩⟩⟩⟩⟩,⟨⟨rfl,_,z0p (xs:=[.ref aP9_0,.ref aP9_1,.ref aP9_2]) lP9 (small (show (3:Nat)≤1000 by decide)) (.cons rfl (.cons rfl (.cons rfl (.nil)))),⟨⟨_,rfl,z0p lP9_0 (small (show (2:Nat)≤1000 by decide)) (.cons ⟨_,rfl⟩ (.cons ⟨_,rfl⟩ .nil))⟩,⟨⟨_,rfl,z0p lP9_1 (small (show (2:Nat)≤1000 by decide)) (.cons ⟨_,rfl⟩ (.cons ⟨_,rfl⟩ .nil))⟩,⟨⟨_,rfl,z0p lP9_2 (small (show (2:Nat)≤1000 by decide)) (.cons ⟨_,rfl⟩ (.cons ⟨_,rfl⟩ .nil))⟩,trivial⟩⟩⟩⟩,⟨⟨rfl,_,z0p (xs:=[.ref aP10_0,.ref aP10_1]) lP10 (small (show (2:Nat)≤1000 by decide)) (.cons rfl (.cons rfl (.nil))),⟨⟨_,rfl,z0p lP10_0 (small (show (2:Nat)≤1000 by decide)) (.cons ⟨_,rfl⟩ (.cons ⟨_,rfl⟩ .nil))⟩,⟨⟨_,rfl,z0p lP10_1 (small (show (2:Nat)≤1000 by decide)) (.cons ⟨_,rfl⟩ (.cons ⟨_,rfl⟩ .nil))⟩,trivial⟩⟩⟩,⟨⟨rfl,_,z0p (xs:=[.ref aP11_0,.ref aP11_1,.ref aP11_2]) lP11 (small (show (3:Nat)≤1000 by decide)) (.cons rfl (.cons rfl (.cons rfl (.nil)))),⟨⟨_,rfl,z0p lP11_0 (small (show (2:Nat)≤1000 by decide)) (.cons ⟨_,rfl⟩ (.cons ⟨_,rfl⟩ .nil))⟩,⟨⟨_,rfl,z0p lP11_1 (small (show (2:Nat)≤1000 by decide)) (.cons ⟨_,rfl⟩ (.cons ⟨_,rfl⟩ .nil))⟩,⟨⟨_,rfl,z0p lP11_2 (small (show (2:Nat)≤1000 by decide)) (.cons ⟨_,rfl⟩ (.cons ⟨_,rfl⟩ .nil))⟩,trivial⟩⟩⟩⟩,⟨⟨rfl,_,z0p (xs:=[.ref aP12_0,.ref aP12_1]) lP12 (small (show (2:Nat)≤1000 by decide)) (.cons rfl (.cons rfl (.nil))),⟨⟨_,rfl,z0p lP12_0 (small (show (2:Nat)≤1000 by decide)) (.cons ⟨_,rfl⟩ (.cons ⟨_,rfl⟩ .nil))⟩,⟨⟨_,rfl,z0p lP12_1 (small (show (2:Nat)≤1000 by decide)) (.cons ⟨_,rfl⟩ (.cons ⟨_,rfl⟩ .nil))⟩,trivial⟩⟩⟩,⟨⟨rfl,_,z0p (xs:=[.ref aP13_0,.ref aP13_1,.ref aP13_2]) lP13 (small (show (3:Nat)≤1000 by decide)) (.cons rfl (.cons rfl (.cons rfl (.nil)))),⟨⟨_,rfl,z0p lP13_0 (small (show (2:Nat)≤1000 by decide)) (.cons ⟨_,rfl⟩ (.cons ⟨_,rfl⟩ .nil))⟩,⟨⟨_,rfl,z0p lP13_1 (small (show (2:Nat)≤1000 by decide)) (.cons ⟨_,rfl⟩ (.cons ⟨_,rfl⟩ .nil))⟩,⟨⟨_,rfl,z0p lP13_2 (small (show (2:Nat)≤1000 by decide)) (.cons ⟨_,rfl⟩ (.cons ⟨_,rfl⟩ .nil))⟩,trivial⟩⟩⟩⟩,⟨⟨rfl,_,z0p (xs:=[.ref aP14_0,.ref aP14_1,.ref aP14_2]) lP14 (small (show (3:Nat)≤1000 by decide)) (.cons rfl (.cons rfl (.cons rfl (.nil)))),⟨⟨_,rfl,z0p lP14_0 (small (show (2:Nat)≤1000 by decide)) (.cons ⟨_,rfl⟩ (.cons ⟨_,rfl⟩ .nil))⟩,⟨⟨_,rfl,z0p lP14_1 (small (show (2:Nat)≤1000 by decide)) (.cons ⟨_,rfl⟩ (.cons ⟨_,rfl⟩ .nil))⟩,⟨⟨_,rfl,z0p lP14_2 (small (show (2:Nat)≤1000 by decide)) (.cons ⟨_,rfl⟩ (.cons ⟨_,rfl⟩ .nil))⟩,trivial⟩⟩⟩⟩,trivial⟩⟩⟩⟩⟩⟩⟩⟩⟩⟩⟩⟩⟩⟩⟩⟩
 have F0:=z1d (st:=sismadeof) l0 q0 k0
 have b0:=F0.binds (ps:=["word", "signs", "most"]) λ _ _ _ _ _ _ us hl=>by
  obtain ⟨_,_,_,rfl⟩:=z2d hl
  rfl
 have F1:=z1d (st:=sisname) l1 q1 k1
 have b1:=F1.binds (ps:=["word"]) λ _ _ _ _ _ _ us hl=>by
  obtain ⟨_,rfl⟩:=z1q hl
  rfl
 have F2:=z1d (st:=sfiguresof) l2 q2 k2
 have b2:=F2.binds (ps:=["word", "most"]) λ _ _ _ _ _ _ us hl=>by
  obtain ⟨_,_,rfl⟩:=z3c hl
  rfl
 have F3:=z1d (st:=ssmallof) l3 q3 k3
 have b3:=F3.binds (ps:=["word"]) λ _ _ _ _ _ _ us hl=>by
  obtain ⟨_,rfl⟩:=z1q hl
  rfl
 have F4:=z1d (st:=snumberof) l4 q4 k4
 have b4:=F4.binds (ps:=["word"]) λ _ _ _ _ _ _ us hl=>by
  obtain ⟨_,rfl⟩:=z1q hl
  rfl
 have F5:=z1d (st:=ssmallsof) l5 q5 k5
 have b5:=F5.binds (ps:=["words"]) λ _ _ _ _ _ _ us hl=>by
  obtain ⟨_,rfl⟩:=z1q hl
  rfl
 have F6:=z1d (st:=spartof) l6 q6 k6
 have b6:=F6.binds (ps:=["kind", "word", "known"]) λ _ _ _ _ _ _ us hl=>by
  obtain ⟨_,_,_,rfl⟩:=z2d hl
  rfl
 have F7:=z1d (st:=spartsof) l7 q7 k7
 have b7:=F7.binds (ps:=["form"]) λ _ _ _ _ _ _ us hl=>by
  obtain ⟨_,rfl⟩:=z1q hl
  rfl
 have F8:=z1d (st:=sisform) l8 q8 k8
 have b8:=F8.binds (ps:=["word"]) λ _ _ _ _ _ _ us hl=>by
  obtain ⟨_,rfl⟩:=z1q hl
  rfl
 have F9:=z1d (st:=sstepof) l9 q9 k9
 have b9:=F9.binds (ps:=["form", "words", "known"]) λ _ _ _ _ _ _ us hl=>by
  obtain ⟨_,_,_,rfl⟩:=z2d hl
  rfl
 have F10:=z1d (st:=srowstep) l10 q10 k10
 have b10:=F10.binds (ps:=["words", "known"]) λ _ _ _ _ _ _ us hl=>by
  obtain ⟨_,_,rfl⟩:=z3c hl
  rfl
 have F11:=z1d (st:=srowouts) l11 q11 k11
 have b11:=F11.binds (ps:=["words", "known"]) λ _ _ _ _ _ _ us hl=>by
  obtain ⟨_,_,rfl⟩:=z3c hl
  rfl
 have F12:=z1d (st:=sread) l12 q12 k12
 have b12:=F12.binds (ps:=["text"]) λ _ _ _ _ _ _ us hl=>by
  obtain ⟨_,rfl⟩:=z1q hl
  rfl
 have F13:=z1d (st:=spartwords) l13 q13 k13
 have b13:=F13.binds (ps:=["kind", "part", "names"]) λ _ _ _ _ _ _ us hl=>by
  obtain ⟨_,_,_,rfl⟩:=z2d hl
  rfl
 have F14:=z1d (st:=ssteprow) l14 q14 k14
 have b14:=F14.binds (ps:=["name", "step", "names"]) λ _ _ _ _ _ _ us hl=>by
  obtain ⟨_,_,_,rfl⟩:=z2d hl
  rfl
 have F15:=x1i (st:=swritten) l15 q15 k15 ld15 rfl
 have b15:=F15.binds (ps:=["program", "names"]) (ds:=[]) λ _ _ _ _ _ _ us hl=>by match us,hl with | [_,_],_=>exact ⟨_,rfl,rfl⟩ | [],hl=>simp at hl | [_],hl=>simp at hl | _::_::_::_,hl=>simp at hl
 have bd15:=F15.binds (ps:=["program", "names"]) (ds:=[.none]) λ _ _ _ _ _ _ us hl=>by match us,hl with | [_],_=>exact ⟨_,rfl,rfl⟩ | [],hl=>simp at hl | _::_::_,hl=>simp at hl
 have F16:=z1d (st:=slawdraw) l16 q16 k16
 have b16:=F16.binds (ps:=["cell", "k", "many"]) λ _ _ _ _ _ _ us hl=>by
  obtain ⟨_,_,_,rfl⟩:=z2d hl
  rfl
 have F17:=z1d (st:=slawsmalls) l17 q17 k17
 have b17:=F17.binds (ps:=["cell", "at", "many"]) λ _ _ _ _ _ _ us hl=>by
  obtain ⟨_,_,_,rfl⟩:=z2d hl
  rfl
 have F18:=z1d (st:=slawword) l18 q18 k18
 have b18:=F18.binds (ps:=["cell"]) λ _ _ _ _ _ _ us hl=>by
  obtain ⟨_,rfl⟩:=z1q hl
  rfl
 have F19:=z1d (st:=slawbig) l19 q19 k19
 have b19:=F19.binds (ps:=["cell"]) λ _ _ _ _ _ _ us hl=>by
  obtain ⟨_,rfl⟩:=z1q hl
  rfl
 have F20:=z1d (st:=slawmade) l20 q20 k20
 have b20:=F20.binds (ps:=["kind", "cell", "used"]) λ _ _ _ _ _ _ us hl=>by
  obtain ⟨_,_,_,rfl⟩:=z2d hl
  rfl
 have F21:=z1d (st:=slawkind) l21 q21 k21
 have b21:=F21.binds (ps:=["cell", "ahead"]) λ _ _ _ _ _ _ us hl=>by
  obtain ⟨_,_,rfl⟩:=z3c hl
  rfl
 have F22:=z1d (st:=slawspots) l22 q22 k22
 have b22:=F22.binds (ps:=["kind"]) λ _ _ _ _ _ _ us hl=>by
  obtain ⟨_,rfl⟩:=z1q hl
  rfl
 have F23:=z1d (st:=slawpart) l23 q23 k23
 have b23:=F23.binds (ps:=["step", "k", "names"]) λ _ _ _ _ _ _ us hl=>by
  obtain ⟨_,_,_,rfl⟩:=z2d hl
  rfl
 have F24:=z1d (st:=slawrow) l24 q24 k24
 have b24:=F24.binds (ps:=["name", "step", "names"]) λ _ _ _ _ _ _ us hl=>by
  obtain ⟨_,_,_,rfl⟩:=z2d hl
  rfl
 have F25:=z1d (st:=slawsteps) l25 q25 k25
 have b25:=F25.binds (ps:=["cells"]) λ _ _ _ _ _ _ us hl=>by
  obtain ⟨_,rfl⟩:=z1q hl
  rfl
 have F26:=z1d (st:=slawprogram) l26 q26 k26
 have b26:=F26.binds (ps:=["script"]) λ _ _ _ _ _ _ us hl=>by
  obtain ⟨_,rfl⟩:=z1q hl
  rfl
 have F27:=z1d (st:=slawplainname) l27 q27 k27
 have b27:=F27.binds (ps:=["k"]) λ _ _ _ _ _ _ us hl=>by
  obtain ⟨_,rfl⟩:=z1q hl
  rfl
 have F28:=z1d (st:=slawnames) l28 q28 k28
 have b28:=F28.binds (ps:=["cell", "many"]) λ _ _ _ _ _ _ us hl=>by
  obtain ⟨_,_,rfl⟩:=z3c hl
  rfl
 have F29:=z1d (st:=slawrows) l29 q29 k29
 have b29:=F29.binds (ps:=["program", "names"]) λ _ _ _ _ _ _ us hl=>by
  obtain ⟨_,_,rfl⟩:=z3c hl
  rfl
 have F30:=z1d (st:=slawsign) l30 q30 k30
 have b30:=F30.binds (ps:=["cell", "k"]) λ _ _ _ _ _ _ us hl=>by
  obtain ⟨_,_,rfl⟩:=z3c hl
  rfl
 have F31:=z1d (st:=slawrowschanged) l31 q31 k31
 have b31:=F31.binds (ps:=["rows", "way", "at"]) λ _ _ _ _ _ _ us hl=>by
  obtain ⟨_,_,_,rfl⟩:=z2d hl
  rfl
 have F32:=z1d (st:=slawchanged) l32 q32 k32
 have b32:=F32.binds (ps:=["text", "cell"]) λ _ _ _ _ _ _ us hl=>by
  obtain ⟨_,_,rfl⟩:=z3c hl
  rfl
 have F33:=z1d (st:=slawread) l33 q33 k33
 have b33:=F33.binds (ps:=["text"]) λ _ _ _ _ _ _ us hl=>by
  obtain ⟨_,rfl⟩:=z1q hl
  rfl
 have F34:=z1d (st:=slaw) l34 q34 k34
 have b34:=F34.binds (ps:=["script"]) λ _ _ _ _ _ _ us hl=>by
  obtain ⟨_,rfl⟩:=z1q hl
  rfl
 refine ⟨W.fnOf "law" "law" (defArgs slaw) (defBody slaw) (defScope slaw) .none kV34 dc34 pm34 an34 cd34 ct34,λ s v=>.of_eq rfl,λ base KB GB=>?_⟩
 have FI:=z1d (st:=sinit) lI qI kI
 have MB:MkX K CBadText fI [.type "ValueError",.type "Exception",.type "BaseException",.type "object"] "ValueError.__new__" := ⟨clsI,aI,iI,kC⟩
 have aBS:AtX K CBadText:=⟨ovI,saI,gaI⟩
 have bB:=FI.binds (ps:=["self", "text", "row"]) λ _ _ _ _ _ _ us hl=>by
  obtain ⟨_,_,_,rfl⟩:=z2d hl
  rfl
 have FB:=x3e (P:=l.prog) (w:=w) (base:=base) (mg:=mg) FI (W.mg_of X G nLoomError) hL1 hL2 hL3 (by decide +kernel)
 have O_ismadeof:=y1q (P:=l.prog) (w:=w) (base:=base) (mg:=mg) F0 (W.mg_none_of X G zlen) (W.mg_none_of X G zall)
 have C_ismadeof:=Callee.mk' F0 (W.mg_of X G a0) b0 O_ismadeof
 have O_isname:=y8i (P:=l.prog) (w:=w) (base:=base) (mg:=mg) F1 (C_ismadeof.mono (by decide)) (W.mg_of X G gLETTERS) (W.mg_of X G gMOST_LETTERS)
 have C_isname:=Callee.mk' F1 (W.mg_of X G a1) b1 O_isname
 have O_figuresof:=z9c (P:=l.prog) (w:=w) (base:=base) (mg:=mg) F2 (C_ismadeof.mono (by decide)) (W.mg_none_of X G zlen) (W.mg_none_of X G zint) (W.mg_of X G gFIGURES)
 have C_figuresof:=Callee.mk' F2 (W.mg_of X G a2) b2 O_figuresof
 have O_smallof:=y4f (P:=l.prog) (w:=w) (base:=base) (mg:=mg) F3 (C_figuresof.mono (by decide))
 have C_smallof:=Callee.mk' F3 (W.mg_of X G a3) b3 O_smallof
 have O_numberof:=y1m (P:=l.prog) (w:=w) (base:=base) (mg:=mg) F4 (C_figuresof.mono (by decide)) (W.mg_of X G gLOW) (W.mg_of X G gHIGH)
 have C_numberof:=Callee.mk' F4 (W.mg_of X G a4) b4 O_numberof
 have O_smallsof:=y1l (P:=l.prog) (w:=w) (base:=base) (mg:=mg) F5 (C_smallof.mono (by decide)) (W.mg_none_of X G zlen) (W.mg_none_of X G ztuple) (W.mg_of X G gMOST_SIDES_WRITTEN)
 have C_smallsof:=Callee.mk' F5 (W.mg_of X G a5) b5 O_smallsof
 have O_partof:=y8f (P:=l.prog) (w:=w) (base:=base) (mg:=mg) F6 (C_isname.mono (by decide)) (C_numberof.mono (by decide)) (C_smallof.mono (by decide))
 have C_partof:=Callee.mk' F6 (W.mg_of X G a6) b6 O_partof
 have O_partsof:=y4i (P:=l.prog) (w:=w) (base:=base) (mg:=mg) F7 (W.mg_of X G gPT) TP
 have C_partsof:=Callee.mk' F7 (W.mg_of X G a7) b7 O_partsof
 have O_isform:=y8j (P:=l.prog) (w:=w) (base:=base) (mg:=mg) F8 (W.mg_of X G gPT) TP
 have C_isform:=Callee.mk' F8 (W.mg_of X G a8) b8 O_isform
 have O_stepof:=y8e (P:=l.prog) (w:=w) (base:=base) (mg:=mg) F9 (C_partsof.mono (by decide)) (C_smallsof.mono (by decide)) (C_partof.mono (by decide)) (W.mg_none_of X G zlen) (W.mg_none_of X G zlist) (W.mg_none_of X G ztuple)
 have C_stepof:=Callee.mk' F9 (W.mg_of X G a9) b9 O_stepof
 have O_rowstep:=y4g (P:=l.prog) (w:=w) (base:=base) (mg:=mg) F10 (C_isform.mono (by decide)) (C_isname.mono (by decide)) (C_stepof.mono (by decide)) (W.mg_none_of X G zlen)
 have C_rowstep:=Callee.mk' F10 (W.mg_of X G a10) b10 O_rowstep
 have O_rowouts:=y4h (P:=l.prog) (w:=w) (base:=base) (mg:=mg) F11 (W.mg_none_of X G zlen) (W.mg_none_of X G ztuple) (W.mg_of X G gMOST_OUTS)
 have C_rowouts:=Callee.mk' F11 (W.mg_of X G a11) b11 O_rowouts
 have O_read:=x3d (P:=l.prog) (w:=w) (base:=base) (mg:=mg) F12 nBadText (C_rowstep.mono (by decide)) (C_rowouts.mono (by decide)) (W.mg_none_of X G zenumerate) (W.mg_none_of X G zlen) (W.mg_none_of X G ztuple) (W.mg_of X G gMOST_STEPS) (W.mg_of X G nBadText) MB FB bB aBS n1
 have C_read:=Callee.mk' F12 (W.mg_of X G a12) b12 O_read
 have O_partwords:=z9a (P:=l.prog) (w:=w) (base:=base) (mg:=mg) F13 (W.mg_none_of X G zstr)
 have C_partwords:=Callee.mk' F13 (W.mg_of X G a13) b13 O_partwords
 have O_steprow:=y4e (P:=l.prog) (w:=w) (base:=base) (mg:=mg) F14 (C_partsof.mono (by decide)) (C_partwords.mono (by decide))
 have C_steprow:=Callee.mk' F14 (W.mg_of X G a14) b14 O_steprow
 have O_written:=y4d (P:=l.prog) (w:=w) (base:=base) (mg:=mg) F15 (C_steprow.mono (by decide)) (W.mg_none_of X G zzip)
 have C_written:Callee _ _ _ _ _ _ _ _ _ _:=⟨⟨_,_,O_written,W.mg_of X G a15,F15.kp,b15⟩⟩
 have CD_written:CalleeD _ _ _ _ _ _ _ _ _ [.non] _:=⟨⟨_,_,_,O_written,W.mg_of X G a15,F15.kp,bd15,.cons rfl .nil⟩⟩
 have O_lawdraw:=y4q (P:=l.prog) (w:=w) (base:=base) (mg:=mg) F16
 have C_lawdraw:=Callee.mk' F16 (W.mg_of X G a16) b16 O_lawdraw
 have O_lawsmalls:=z9b (P:=l.prog) (w:=w) (base:=base) (mg:=mg) F17 (C_lawdraw.mono (by decide)) (W.mg_none_of X G ztuple) (W.mg_none_of X G zrange)
 have C_lawsmalls:=Callee.mk' F17 (W.mg_of X G a17) b17 O_lawsmalls
 have O_lawword:=y4j (P:=l.prog) (w:=w) (base:=base) (mg:=mg) F18 (C_lawdraw.mono (by decide)) (W.mg_none_of X G zrange)
 have C_lawword:=Callee.mk' F18 (W.mg_of X G a18) b18 O_lawword
 have O_lawbig:=y8h (P:=l.prog) (w:=w) (base:=base) (mg:=mg) F19 (C_lawdraw.mono (by decide))
 have C_lawbig:=Callee.mk' F19 (W.mg_of X G a19) b19 O_lawbig
 have O_lawmade:=y4o (P:=l.prog) (w:=w) (base:=base) (mg:=mg) F20 (C_lawsmalls.mono (by decide)) (C_lawdraw.mono (by decide)) (C_lawword.mono (by decide)) (C_lawbig.mono (by decide))
 have C_lawmade:=Callee.mk' F20 (W.mg_of X G a20) b20 O_lawmade
 have O_lawkind:=y4p (P:=l.prog) (w:=w) (base:=base) (mg:=mg) F21 (C_lawdraw.mono (by decide))
 have C_lawkind:=Callee.mk' F21 (W.mg_of X G a21) b21 O_lawkind
 have O_lawspots:=y1o (P:=l.prog) (w:=w) (base:=base) (mg:=mg) F22
 have C_lawspots:=Callee.mk' F22 (W.mg_of X G a22) b22 O_lawspots
 have O_lawpart:=y4n (P:=l.prog) (w:=w) (base:=base) (mg:=mg) F23 (C_lawspots.mono (by decide)) (W.mg_none_of X G zstr)
 have C_lawpart:=Callee.mk' F23 (W.mg_of X G a23) b23 O_lawpart
 have O_lawrow:=y8g (P:=l.prog) (w:=w) (base:=base) (mg:=mg) F24 (C_lawpart.mono (by decide)) (W.mg_none_of X G zlen) (W.mg_none_of X G zrange) (W.mg_none_of X G zisinstance) (W.mg_none_of X G ztuple) (W.mg_none_of X G zstr)
 have C_lawrow:=Callee.mk' F24 (W.mg_of X G a24) b24 O_lawrow
 have O_lawsteps:=y1n (P:=l.prog) (w:=w) (base:=base) (mg:=mg) F25 (C_lawdraw.mono (by decide)) (C_lawkind.mono (by decide)) (C_lawmade.mono (by decide)) (W.mg_none_of X G zrange) (W.mg_none_of X G zlen) (W.mg_none_of X G zmax) (W.mg_none_of X G ztuple)
 have C_lawsteps:=Callee.mk' F25 (W.mg_of X G a25) b25 O_lawsteps
 have O_lawprogram:=z7k (P:=l.prog) (w:=w) (base:=base) (mg:=mg) F26 (C_lawsteps.mono (by decide)) (C_lawdraw.mono (by decide)) (W.mg_none_of X G zlen) (W.mg_none_of X G zsum) (W.mg_none_of X G zrange) (W.mg_none_of X G ztuple)
 have C_lawprogram:=Callee.mk' F26 (W.mg_of X G a26) b26 O_lawprogram
 have O_lawplainname:=z5h (P:=l.prog) (w:=w) (base:=base) (mg:=mg) F27
 have C_lawplainname:=Callee.mk' F27 (W.mg_of X G a27) b27 O_lawplainname
 have O_lawnames:=y1p (P:=l.prog) (w:=w) (base:=base) (mg:=mg) F28 (C_lawdraw.mono (by decide)) (C_lawplainname.mono (by decide)) (W.mg_none_of X G zrange) (W.mg_none_of X G ztuple)
 have C_lawnames:=Callee.mk' F28 (W.mg_of X G a28) b28 O_lawnames
 have O_lawrows:=y4l (P:=l.prog) (w:=w) (base:=base) (mg:=mg) F29 (C_lawrow.mono (by decide)) (W.mg_none_of X G zlen) (W.mg_none_of X G zrange)
 have C_lawrows:=Callee.mk' F29 (W.mg_of X G a29) b29 O_lawrows
 have O_lawsign:=y4k (P:=l.prog) (w:=w) (base:=base) (mg:=mg) F30 (C_lawdraw.mono (by decide)) (W.mg_none_of X G zlen)
 have C_lawsign:=Callee.mk' F30 (W.mg_of X G a30) b30 O_lawsign
 have O_lawrowschanged:=z4p (P:=l.prog) (w:=w) (base:=base) (mg:=mg) F31
 have C_lawrowschanged:=Callee.mk' F31 (W.mg_of X G a31) b31 O_lawrowschanged
 have O_lawchanged:=z7l (P:=l.prog) (w:=w) (base:=base) (mg:=mg) F32 (C_lawdraw.mono (by decide)) (C_lawsign.mono (by decide)) (C_lawrowschanged.mono (by decide)) (W.mg_none_of X G zlen) (W.mg_none_of X G zmin) (W.mg_none_of X G zint)
 have C_lawchanged:=Callee.mk' F32 (W.mg_of X G a32) b32 O_lawchanged
 have O_lawread:=y4m (P:=l.prog) (w:=w) (base:=base) (mg:=mg) F33 nBadText nLoomError (C_read.mono (by decide)) (W.mg_of X G nBadText) MB.cls aBS n1 n3
 have C_lawread:=Callee.mk' F33 (W.mg_of X G a33) b33 O_lawread
 have O_law:=x4s (P:=l.prog) (w:=w) (base:=base) (mg:=mg) F34 (C_lawprogram.mono (by decide)) (C_lawnames.mono (by decide)) (C_lawrows.mono (by decide)) (C_lawdraw.mono (by decide)) (C_lawchanged.mono (by decide)) (C_lawread.mono (by decide)) (C_written.mono (by decide)) (W.mg_none_of X G zsum) (W.mg_none_of X G zlen) (W.mg_none_of X G zrange) (W.mg_none_of X G zisinstance) (W.mg_none_of X G ztuple) (W.mg_none_of X G zstr) (W.mg_none_of X G zint) (W.mg_none_of X G zbool)
 exact O_law
theorem walk {l:W.OpenLaw}{q:Program}{loose:List Str}{XP:(Str->Option Value)->Heap->Prop}{YP:World->Heap->Prop}{d:DefRec}{K:Params->W.Frag}(hn:l.most=some 63) (hdf:d.params.defaults=[])
  (hY:∀(w:World) (h:Heap),YP w h->(K w.params).In h)
  (F:∀(w:World) (mg:Str->Option Value) (fa:Addr) (h:Heap),(K w.params).In h->h.Ns mainGlobals mg->mg d.name=some (.ref fa) ->
   ∃fd:FuncData,(∀(s:Shared) (u:Value),BindsTo s fd ⟨[u],[]⟩ [("script",u)])/\∀base:Heap,(K w.params).In base->base.Ns mainGlobals mg->FnOk l.prog w (K w.params) mg base (CX0) 11 fa fd ["script"] (splaw (K w.params))) :
  W.WalkO q loose XP YP l.row.toRowW d [] (λ f vs=>PySem.call f vs) :=
 L2.walk_of (n:=63) (k:=11) (x := "script") (CX:=λ _=>CX0) (sp:=λ w=>splaw (K w.params)) hn (by decide) hdf ⟨rfl,by decide,by decide⟩ hY F (λ _ _ a ns hl hfew hS=>⟨a,ns,rfl,hS,hl,λ _=>rfl⟩) λ _ _ _ _ _ z=>z
end My
end
open PySem PySem.W PyProof.Rows
set_option maxRecDepth 100000 in
set_option maxHeartbeats 0 in
theorem PySem.Challenge.cw_sideloom_k31_whole_texts_holds : PySem.Challenge.rw_sideloom_k31_whole_texts.Holds := by
 w_on;o_law;k_head;(case hw=>w_witness2)
 k_fill
 refine My.walk (l:=PySem.Challenge.rw_sideloom_k31_whole_texts) rfl rfl (λ w h Y=>W.kIn_of Y) ?F
 case F =>
  intro w mg fa h KX G hmg
  refine' My.all_mk KX G hmg ?a0 ?l0 ?q0 ?k0 ?a1 ?l1 ?q1 ?k1 ?a2 ?l2 ?q2 ?k2 ?a3 ?l3 ?q3 ?k3 ?a4 ?l4 ?q4 ?k4 ?a5 ?l5 ?q5 ?k5 ?a6 ?l6 ?q6 ?k6 ?a7 ?l7 ?q7 ?k7 ?a8 ?l8 ?q8 ?k8 ?a9 ?l9 ?q9 ?k9 ?a10 ?l10 ?q10 ?k10 ?a11 ?l11 ?q11 ?k11 ?a12 ?l12 ?q12 ?k12 ?a13 ?l13 ?q13 ?k13 ?a14 ?l14 ?q14 ?k14 ?a15 ?l15 ?q15 ?k15 ?ld15 ?a16 ?l16 ?q16 ?k16 ?a17 ?l17 ?q17 ?k17 ?a18 ?l18 ?q18 ?k18 ?a19 ?l19 ?q19 ?k19 ?a20 ?l20 ?q20 ?k20 ?a21 ?l21 ?q21 ?k21 ?a22 ?l22 ?q22 ?k22 ?a23 ?l23 ?q23 ?k23 ?a24 ?l24 ?q24 ?k24 ?a25 ?l25 ?q25 ?k25 ?a26 ?l26 ?q26 ?k26 ?a27 ?l27 ?q27 ?k27 ?a28 ?l28 ?q28 ?k28 ?a29 ?l29 ?q29 ?k29 ?a30 ?l30 ?q30 ?k30 ?a31 ?l31 ?q31 ?k31 ?a32 ?l32 ?q32 ?k32 ?a33 ?l33 ?q33 ?k33 ?a34 ?l34 ?q34 ?k34 ?zlen ?zall ?zint ?ztuple ?zlist ?zenumerate ?zstr ?zzip ?zrange ?zisinstance ?zmax ?zsum ?zmin ?zbool ?gLETTERS ?gMOST_LETTERS ?gFIGURES ?gLOW ?gHIGH ?gMOST_SIDES_WRITTEN ?gMOST_OUTS ?gMOST_STEPS ?nBadText ?nLoomError ?gPT ?dPT0 ?lPT ?lP0 ?lP0_0 ?lP1 ?lP1_0 ?lP2 ?lP2_0 ?lP2_1 ?lP3 ?lP3_0 ?lP3_1 ?lP4 ?lP4_0 ?lP4_1 ?lP4_2 ?lP5 ?lP5_0 ?lP5_1 ?lP5_2 ?lP6 ?lP6_0 ?lP6_1 ?lP7 ?lP7_0 ?lP7_1 ?lP8 ?lP8_0 ?lP8_1 ?lP8_2 ?lP8_3 ?lP8_4 ?lP9 ?lP9_0 ?lP9_1 ?lP9_2 ?lP10 ?lP10_0 ?lP10_1 ?lP11 ?lP11_0 ?lP11_1 ?lP11_2 ?lP12 ?lP12_0 ?lP12_1 ?lP13 ?lP13_0 ?lP13_1 ?lP13_2 ?lP14 ?lP14_0 ?lP14_1 ?lP14_2 ?aI ?lI ?qI ?kI ?iI ?kC ?clsI ?ovI ?saI ?gaI ?n1 ?n3 ?hL1 ?hL2 ?hL3
  (case a0=>k_is)
  (case l0=>k_is)
  (case q0=>k_is)
  (case k0=>k_is)
  (case a1=>k_is)
  (case l1=>k_is)
  (case q1=>k_is)
  (case k1=>k_is)
  (case a2=>k_is)
  (case l2=>k_is)
  (case q2=>k_is)
  (case k2=>k_is)
  (case a3=>k_is)
  (case l3=>k_is)
  (case q3=>k_is)
  (case k3=>k_is)
  (case a4=>k_is)
  (case l4=>k_is)
  (case q4=>k_is)
  (case k4=>k_is)
  (case a5=>k_is)
  (case l5=>k_is)
  (case q5=>k_is)
  (case k5=>k_is)
  (case a6=>k_is)
  (case l6=>k_is)
  (case q6=>k_is)
  (case k6=>k_is)
  (case a7=>k_is)
  (case l7=>k_is)
  (case q7=>k_is)
  (case k7=>k_is)
  (case a8=>k_is)
  (case l8=>k_is)
  (case q8=>k_is)
  (case k8=>k_is)
  (case a9=>k_is)
  (case l9=>k_is)
  (case q9=>k_is)
  (case k9=>k_is)
  (case a10=>k_is)
  (case l10=>k_is)
  (case q10=>k_is)
  (case k10=>k_is)
  (case a11=>k_is)
  (case l11=>k_is)
  (case q11=>k_is)
  (case k11=>k_is)
  (case a12=>k_is)
  (case l12=>k_is)
  (case q12=>k_is)
  (case k12=>k_is)
  (case a13=>k_is)
  (case l13=>k_is)
  (case q13=>k_is)
  (case k13=>k_is)
  (case a14=>k_is)
  (case l14=>k_is)
  (case q14=>k_is)
  (case k14=>k_is)
  (case a15=>k_is)
  (case l15=>k_is)
  (case q15=>k_is)
  (case k15=>k_is)
  (case ld15=>k_is)
  (case a16=>k_is)
  (case l16=>k_is)
  (case q16=>k_is)
  (case k16=>k_is)
  (case a17=>k_is)
  (case l17=>k_is)
  (case q17=>k_is)
  (case k17=>k_is)
  (case a18=>k_is)
  (case l18=>k_is)
  (case q18=>k_is)
  (case k18=>k_is)
  (case a19=>k_is)
  (case l19=>k_is)
  (case q19=>k_is)
  (case k19=>k_is)
  (case a20=>k_is)
  (case l20=>k_is)
  (case q20=>k_is)
  (case k20=>k_is)
  (case a21=>k_is)
  (case l21=>k_is)
  (case q21=>k_is)
  (case k21=>k_is)
  (case a22=>k_is)
  (case l22=>k_is)
  (case q22=>k_is)
  (case k22=>k_is)
  (case a23=>k_is)
  (case l23=>k_is)
  (case q23=>k_is)
  (case k23=>k_is)
  (case a24=>k_is)
  (case l24=>k_is)
  (case q24=>k_is)
  (case k24=>k_is)
  (case a25=>k_is)
  (case l25=>k_is)
  (case q25=>k_is)
  (case k25=>k_is)
  (case a26=>k_is)
  (case l26=>k_is)
  (case q26=>k_is)
  (case k26=>k_is)
  (case a27=>k_is)
  (case l27=>k_is)
  (case q27=>k_is)
  (case k27=>k_is)
  (case a28=>k_is)
  (case l28=>k_is)
  (case q28=>k_is)
  (case k28=>k_is)
  (case a29=>k_is)
  (case l29=>k_is)
  (case q29=>k_is)
  (case k29=>k_is)
  (case a30=>k_is)
  (case l30=>k_is)
  (case q30=>k_is)
  (case k30=>k_is)
  (case a31=>k_is)
  (case l31=>k_is)
  (case q31=>k_is)
  (case k31=>k_is)
  (case a32=>k_is)
  (case l32=>k_is)
  (case q32=>k_is)
  (case k32=>k_is)
  (case a33=>k_is)
  (case l33=>k_is)
  (case q33=>k_is)
  (case k33=>k_is)
  (case a34=>k_is)
  (case l34=>k_is)
  (case q34=>k_is)
  (case k34=>k_is)
  (case zlen=>k_is)
  (case zall=>k_is)
  (case zint=>k_is)
  (case ztuple=>k_is)
  (case zlist=>k_is)
  (case zenumerate=>k_is)
  (case zstr=>k_is)
  (case zzip=>k_is)
  (case zrange=>k_is)
  (case zisinstance=>k_is)
  (case zmax=>k_is)
  (case zsum=>k_is)
  (case zmin=>k_is)
  (case zbool=>k_is)
  (case gLETTERS=>k_is)
  (case gMOST_LETTERS=>k_is)
  (case gFIGURES=>k_is)
  (case gLOW=>k_is)
  (case gHIGH=>k_is)
  (case gMOST_SIDES_WRITTEN=>k_is)
  (case gMOST_OUTS=>k_is)
  (case gMOST_STEPS=>k_is)
  (case nBadText=>k_is)
  (case nLoomError=>k_is)
  (case gPT=>k_is)
  (case dPT0=>first | decide +kernel | rfl)
  (case lPT=>k_is)
  (case lP0=>k_is)
  (case lP0_0=>k_is)
  (case lP1=>k_is)
  (case lP1_0=>k_is)
  (case lP2=>k_is)
  (case lP2_0=>k_is)
  (case lP2_1=>k_is)
  (case lP3=>k_is)
  (case lP3_0=>k_is)
  (case lP3_1=>k_is)
  (case lP4=>k_is)
  (case lP4_0=>k_is)
  (case lP4_1=>k_is)
  (case lP4_2=>k_is)
  (case lP5=>k_is)
  (case lP5_0=>k_is)
  (case lP5_1=>k_is)
  (case lP5_2=>k_is)
  (case lP6=>k_is)
  (case lP6_0=>k_is)
  (case lP6_1=>k_is)
  (case lP7=>k_is)
  (case lP7_0=>k_is)
  (case lP7_1=>k_is)
  (case lP8=>k_is)
  (case lP8_0=>k_is)
  (case lP8_1=>k_is)
  (case lP8_2=>k_is)
  (case lP8_3=>k_is)
  (case lP8_4=>k_is)
  (case lP9=>k_is)
  (case lP9_0=>k_is)
  (case lP9_1=>k_is)
  (case lP9_2=>k_is)
  (case lP10=>k_is)
  (case lP10_0=>k_is)
  (case lP10_1=>k_is)
  (case lP11=>k_is)
  (case lP11_0=>k_is)
  (case lP11_1=>k_is)
  (case lP11_2=>k_is)
  (case lP12=>k_is)
  (case lP12_0=>k_is)
  (case lP12_1=>k_is)
  (case lP13=>k_is)
  (case lP13_0=>k_is)
  (case lP13_1=>k_is)
  (case lP13_2=>k_is)
  (case lP14=>k_is)
  (case lP14_0=>k_is)
  (case lP14_1=>k_is)
  (case lP14_2=>k_is)
  (case aI=>k_is)
  (case lI=>k_is)
  (case qI=>k_is)
  (case kI=>k_is)
  (case iI=>k_is)
  (case kC=>k_is)
  (case clsI=>kernel_rfl)
  (case ovI=>kernel_rfl)
  (case saI=>k_is)
  (case gaI=>k_is)
  (case n1=>k_is)
  (case n3=>k_is)
  (case hL1=>k_is)
  (case hL2=>k_is)
  (case hL3=>k_is)
