import PyProof.Rows.All
import Wide.All
import OpenK.AllK
import Wide.FinOn
import Lean
import PyProof.EqAt
import PyProof.EqKinds
import PyProof.TupleCall
import PySem.Challenge.RW_sideloom_k56_costs_of_the_plain_way
set_option Elab.async false
set_option linter.all false
set_option maxRecDepth 100000
section
set_option hygiene false

set_option hygiene true
namespace L2
open PySem PySem.Spec PyProof.Rows
abbrev Key:=Sum Int Str
def keyIs:Key->Value->Bool
 | .inl k,v=>Value.isInt k v
 | .inr x,v=>Value.isStrOf x v
def keyH (w:World):Key->Int
 | .inl k=>hashInt k
 | .inr x=>hashStr w x
theorem z1v:∀ {k:Key}{v:Value},keyIs k v=true->(∃i t,k=Sum.inl i/\v=Value.int i t)\/(∃x t,k=Sum.inr x/\v=Value.str x t)
 | .inl i,v,h=>by
  obtain ⟨t,e⟩:=Value.isInt_shape (k:=i) (v:=v) h
  exact .inl ⟨i,t,rfl,e⟩
 | .inr x,v,h=>by
  obtain ⟨t,e⟩:=Value.isStrOf_shape (x:=x) (v:=v) h
  exact .inr ⟨x,t,rfl,e⟩
theorem z5i (x:Str) (t:Tok):keyIs (.inr x) (.str x t)=true:=by simp [keyIs,Value.isStrOf]
theorem x3t (a b:Int):decide ((Sum.inl a:Key)=Sum.inl b)=(a == b):=by
 by_cases e:a=b
 ·subst e;simp
 ·have h:¬(Sum.inl a:Key)=Sum.inl b:=λ q=>e (Sum.inl.inj q)
  rw [decide_eq_false h]
  exact (beq_eq_false_iff_ne.mpr e).symm
theorem x3q (a b:Str):decide ((Sum.inr a:Key)=Sum.inr b)=decide (a=b):=by
 by_cases e:a=b
 ·subst e;simp
 ·have h:¬(Sum.inr a:Key)=Sum.inr b:=λ q=>e (Sum.inr.inj q)
  rw [decide_eq_false h,decide_eq_false e]
theorem x3s (a:Int) (b:Str):decide ((Sum.inl a:Key)=Sum.inr b)=false:=decide_eq_false (λ q=>nomatch q)
theorem x3r (a:Str) (b:Int):decide ((Sum.inr a:Key)=Sum.inl b)=false:=decide_eq_false (λ q=>nomatch q)
def mixKind (prog:Program) (w:World):PySem.KeyKind prog w Key where
 is:=keyIs
 hash:=keyH w
 inj:=λ v a b ha hb=>by
  rcases z1v ha with ⟨i,t,rfl,rfl⟩ | ⟨x,t,rfl,rfl⟩
  ·rcases z1v hb with ⟨j,u,rfl,e⟩ | ⟨y,u,rfl,e⟩
   ·injection e with e1 _;rw [e1]
   ·exact nomatch e
  ·rcases z1v hb with ⟨j,u,rfl,e⟩ | ⟨y,u,rfl,e⟩
   ·exact nomatch e
   ·injection e with e1 _;rw [e1]
 byValue:=λ k v h=>by
  rcases z1v h with ⟨i,t,rfl,rfl⟩ | ⟨x,t,rfl,rfl⟩<;>rfl
 pyHash:=λ hv h=>by
  rcases z1v hv with ⟨i,t,rfl,rfl⟩ | ⟨x,t,rfl,rfl⟩
  ·exact wpAny_pyHash_int h
  ·exact wpAny_pyHash_str h
 eqBool:=λ hu hv h=>by
  rcases z1v hu with ⟨i,t,rfl,rfl⟩ | ⟨x,t,rfl,rfl⟩
  ·rcases z1v hv with ⟨j,u,rfl,rfl⟩ | ⟨y,u,rfl,rfl⟩
   ·rw [x3t] at h;exact wpAny_eqBool_int h
   ·rw [x3s] at h;exact SeqAt.EqAt.int_str i t y u _ _ _ _ h
  ·rcases z1v hv with ⟨j,u,rfl,rfl⟩ | ⟨y,u,rfl,rfl⟩
   ·rw [x3r] at h;exact SeqAt.EqAt.str_int x t j u _ _ _ _ h
   ·rw [x3q] at h;exact wpAny_eqBool_str h
 «strs»:=λ k x t v h=>by
  rcases z1v h with ⟨i,u,rfl,e⟩ | ⟨y,u,rfl,e⟩
  ·exact nomatch e
  ·injection e with e1 _
   subst e1
   cases v<;>rfl
inductive V where
 | non | bl (b:Bool) | int (i:Int) | str (x:Str) | byt (b:Array UInt8) | flt (b:UInt64) | ref (a:Addr) | ty (n:String)
 deriving DecidableEq
def RelV:V->Value->Prop
 | .non,u=>u=Value.none
 | .bl b,u=>u=Value.bool b
 | .int i,u=>∃t,u=Value.int i t
 | .str x,u=>∃t,u=Value.str x t
 | .byt b,u=>∃t,u=Value.bytes b t
 | .flt b,u=>∃t,u=Value.float b t
 | .ref a,u=>u=Value.ref a
 | .ty n,u=>u=Value.type n
abbrev Vals:List V->List Value->Prop:=Paired RelV
theorem Vals.length {xs:List V}{us:List Value}(r:Vals xs us):xs.length=us.length:=Paired.length r
theorem Vals.get:∀ {xs:List V}{us:List Value}{i:Nat}{x:V},Vals xs us->xs[i]?=some x->∃u,us[i]?=some u/\RelV x u
 | _,_,_,_,.nil,e=>by simp at e
 | _,_,0,_,.cons r _,e=>by simp at e;subst e;exact ⟨_,rfl,r⟩
 | _,_,i+1,x,.cons _ t,e=>by
  obtain ⟨u,h1,h2⟩:=Vals.get (i:=i) (x:=x) t (by simpa using e)
  exact ⟨u,by simpa using h1,h2⟩
theorem Vals.set {x:V}{u:Value}(r:RelV x u):∀ {xs:List V}{us:List Value}(i:Nat),Vals xs us->Vals (xs.set i x) (us.set i u)
 | _,_,_,.nil=>.nil
 | _,_,0,.cons _ t=>.cons r t
 | _,_,i+1,.cons q t=>.cons q (Vals.set r i t)
theorem Vals.append:∀ {xs ys:List V}{us ws:List Value},Vals xs us->Vals ys ws->Vals (xs++ys) (us++ws)
 | _,_,_,_,.nil,s=>s
 | _,_,_,_,.cons r t,s=>.cons r (Vals.append t s)
theorem Vals.take:∀ {xs:List V}{us:List Value}(n:Nat),Vals xs us->Vals (xs.take n) (us.take n)
 | _,_,0,_=>.nil
 | _,_,_+1,.nil=>.nil
 | _,_,n+1,.cons r t=>.cons r (Vals.take n t)
theorem Vals.drop:∀ {xs:List V}{us:List Value}(n:Nat),Vals xs us->Vals (xs.drop n) (us.drop n)
 | _,_,0,r=>r
 | _,_,_+1,.nil=>.nil
 | _,_,n+1,.cons _ t=>Vals.drop n t
def RelO:Option V->Option Value->Prop
 | some v,some u=>RelV v u
 | none,none=>True
 | _,_=>False
def KV {κ:Type}:List (κ × V)->List (κ × Value)->Prop:=Paired λ (p:κ × V) (q:κ × Value)=>p.1=q.1/\RelV p.2 q.2
def kV:Key->V
 | .inl i=>.int i
 | .inr x=>.str x
inductive HO where
 | lst (xs:List V)
 | tup (xs:List V)
 | dK (kvs:List (Key × V)) | dT (kvs:List (List Key × V))
 | set (S:Int->Bool) (n:Nat)
 | ins (C dx:Addr) (fs:List (Str × V))
 | own (x:Addr)
 | xd (fs:List (Str × V))
 | met (f x:Addr)
 | rng (lo hi:Int)
 | frz (o:Obj) (u:HO)
 | tbl (ps:Array Value)
 | ext (φ:Heap->Prop)
abbrev Hp:=Addr->Option HO
def upd (H:Hp) (a:Addr) (o:HO):Hp:=λ b=>if b=a then some o else H b
theorem z0f {H:Hp}{a:Addr}{o:HO}:upd H a o a=some o:=by unfold upd;rw [if_pos rfl]
theorem z1a {H:Hp}{a b:Addr}{o:HO}(h:b≠a):upd H a o b=H b:=by unfold upd;rw [if_neg h]
theorem z2q {H:Hp}{a b:Addr}{o:HO}(h:H a=some o) (h':H b=none):a≠b:=by
 intro e;subst e;rw [h] at h';cases h'
section
variable (P:Program) (w:World)
def ObjOk (H:Hp) (h:Heap) (a:Addr):HO->Prop
 | .lst xs=>xs.length≤sizeLine/\∃(its:List Value) (n:Nat),Vals xs its/\h.get? a=some { cls:=.type "list",data:=.seq its.toArray n }
 | .tup xs=>xs.length≤sizeLine/\∃its:List Value,Vals xs its/\IsTup h a its.toArray
 | .dK kvs=>kvs.length≤sizeLine/\(a == sysModules)=false/\∃vs,KV kvs vs/\h.DictOf (mixKind P w) a vs
 | .dT kvs=>kvs.length≤sizeLine/\(a == sysModules)=false/\∃xs:List (List Key × Addr × Value),
   Paired (λ (p:List Key × V) (q:List Key × Addr × Value)=>p.1=q.1/\H q.2.1=some (.tup (p.1.map kV))/\RelV p.2 q.2.2) kvs xs /\
   ∃o es ep,h.get? a=some o/\o.ExactDict/\o.data=.dict es ep/\es.toList=xs.map (entryOfKey (tupleKind (mixKind P w)))/\(xs.map (·.1)).Nodup
 | .set S n=>h.SetOf (intKind P w) a S n
 | .ins C dx fs=>H dx=some (.own a)/\fs.length≤1000/\dx≠a/\h.get? a=some (W.instObj C dx) /\
   ∃mA,h.Ns1 dx mA/\(∀f,RelO (fs.lookup f) (mA f))/\PySem.Within mA (fs.map (·.1))
 | .own _=>∃o,h.get? a=some o
 | .xd fs=>∃mA,h.Ns1 a mA/\∀f,RelO (fs.lookup f) (mA f)
 | .rng lo hi=>∃t u v,h.get? a=some { cls:=.type "range",data:=.fields #[.int lo t,.int hi u,.int 1 v] }
 | .frz o u=>h.get? a=some o/\ObjOk H h a u
 | .tbl ps=>h.get? a=some { cls:=.none,data:=.fields ps }
 | .met f x=>h.get? a=some (W.methodObj (.ref f) (.ref x))
 | .ext φ=>φ h/\(∃o,h.get? a=some o)/\∀h1 h2:Heap,φ h1->(∀o,h1.get? a=some o->h2.get? a=some o)->φ h2
def HOk (H:Hp) (h:Heap):Prop:=∀a o,H a=some o->ObjOk P w H h a o
end
section
variable {P:Program}{w:World}{H H':Hp}{h h':Heap}{a:Addr}{o:HO}
theorem ObjOk.lt (x:ObjOk P w H h a o):a < h.objs.size:=by
 cases o with
 | lst xs=>obtain ⟨_,_,_,_,e⟩:=x;exact Heap.lt_size e
 | tup xs=>obtain ⟨_,_,_,p⟩:=x;exact p.lt
 | dK kvs=>obtain ⟨_,_,_,_,o,_,_,e,_⟩:=x;exact Heap.lt_size e
 | dT kvs=>obtain ⟨_,_,_,_,o,_,_,e,_⟩:=x;exact Heap.lt_size e
 | set S n=>obtain ⟨o,_,_,_,e,_⟩:=x;exact Heap.lt_size e
 | ins C dx fs=>obtain ⟨_,_,_,e,_⟩:=x;exact Heap.lt_size e
 | own y=>obtain ⟨_,e⟩:=x;exact Heap.lt_size e
 | xd fs=>obtain ⟨_,⟨_,_,_,e,_⟩,_⟩:=x;exact Heap.lt_size e
 | rng lo hi=>obtain ⟨_,_,_,e⟩:=x;exact Heap.lt_size e
 | frz ob u=>obtain ⟨e,_⟩:=x;exact Heap.lt_size e
 | tbl ps=>exact Heap.lt_size (show h.get? a=some _ from x)
 | met f y=>exact Heap.lt_size (show h.get? a=some _ from x)
 | ext φ=>obtain ⟨_,⟨_,e⟩,_⟩:=x;exact Heap.lt_size e
theorem Paired.mapP {α β:Type}{F G:α->β->Prop}:∀ {l₁:List α}{l₂:List β},Paired F l₁ l₂->(∀a b,F a b->G a b)->Paired G l₁ l₂
 | _,_,.nil,_=>.nil
 | _,_,.cons r t,f=>.cons (f _ _ r) (Paired.mapP t f)
theorem ObjOk.stay (x:ObjOk P w H h a o) (k:∀b u,(b=a\/H b=some (.own a))->h.get? b=some u->h'.get? b=some u)
  (ho:∀b,H b=some (.own a)->H' b=some (.own a)) (ht:∀b xs,H b=some (.tup xs)->H' b=some (.tup xs)):ObjOk P w H' h' a o:=by
 induction o with
 | lst xs=>obtain ⟨z,its,n,r,e⟩:=x;exact ⟨z,its,n,r,k _ _ (.inl rfl) e⟩
 | tup xs=>obtain ⟨z,its,r,ob,e,c⟩:=x;exact ⟨z,its,r,ob,k _ _ (.inl rfl) e,c⟩
 | dK kvs=>obtain ⟨z,y,vs,r,ob,es,ep,e,c⟩:=x;exact ⟨z,y,vs,r,ob,es,ep,k _ _ (.inl rfl) e,c⟩
 | dT kvs =>
  obtain ⟨z,y,xs,r,ob,es,ep,e,c⟩:=x
  exact ⟨z,y,xs,Paired.mapP r λ p q z=>⟨z.1,ht _ _ z.2.1,z.2.2⟩,ob,es,ep,k _ _ (.inl rfl) e,c⟩
 | set S n=>obtain ⟨ob,es,ep,t,e,c⟩:=x;exact ⟨ob,es,ep,t,k _ _ (.inl rfl) e,c⟩
 | ins C dx fs =>
  obtain ⟨d,z,ne,e,mA,⟨od,es,ep,e2,c⟩,r⟩:=x
  exact ⟨ho _ d,z,ne,k _ _ (.inl rfl) e,mA,⟨od,es,ep,k _ _ (.inr d) e2,c⟩,r⟩
 | own y=>obtain ⟨ob,e⟩:=x;exact ⟨ob,k _ _ (.inl rfl) e⟩
 | xd fs=>obtain ⟨mA,⟨od,es,ep,e,c⟩,r⟩:=x;exact ⟨mA,⟨od,es,ep,k _ _ (.inl rfl) e,c⟩,r⟩
 | rng lo hi=>obtain ⟨t,u,v,e⟩:=x;exact ⟨t,u,v,k _ _ (.inl rfl) e⟩
 | frz ob u ih=>obtain ⟨e,q⟩:=x;exact ⟨k _ _ (.inl rfl) e,ih q⟩
 | tbl ps =>
  have e:h.get? a=some { cls:=.none,data:=.fields ps }:=x
  show h'.get? a=some { cls:=.none,data:=.fields ps }
  exact k a _ (.inl rfl) e
 | met f y =>
  have e:h.get? a=some (W.methodObj (.ref f) (.ref y)):=x
  show h'.get? a=some (W.methodObj (.ref f) (.ref y))
  exact k a _ (.inl rfl) e
 | ext φ=>obtain ⟨p,⟨o,e⟩,st⟩:=x;exact ⟨st _ _ p λ o q=>k _ _ (.inl rfl) q,⟨o,k _ _ (.inl rfl) e⟩,st⟩
theorem HOk.lt (x:HOk P w H h) (e:H a=some o):a < h.objs.size:=(x a o e).lt
theorem HOk.fresh (x:HOk P w H h) (e:h.objs.size≤a):H a=none:=by
 cases q:H a with
 | none=>rfl
 | some u=>exact absurd (Nat.lt_of_lt_of_le (x.lt q) e) (Nat.lt_irrefl _)
theorem HOk.kept (x:HOk P w H h) (k:∀b u,h.get? b=some u->h'.get? b=some u):HOk P w H h':=λ a o e =>
 (x a o e).stay (λ b u _ q=>k b u q) (λ _ q=>q) λ _ _ q=>q
theorem HOk.laid (x:HOk P w H h) (k:∀b u,h.get? b=some u->h'.get? b=some u) (hp:h.objs.size≤a) (new:ObjOk P w (upd H a o) h' a o):HOk P w (upd H a o) h':=λ b u e=>by
 have hn:=x.fresh hp
 by_cases hb:b=a
 ·subst hb;rw [z0f] at e;cases e;exact new
 ·rw [z1a hb] at e
  exact (x b u e).stay (λ c v _ q=>k c v q) (λ c q=>by rw [z1a (z2q q hn)];exact q) λ c xs q=>by rw [z1a (z2q q hn)];exact q
end
def Rd (H:Hp) (a:Addr) (u:HO):Prop:=H a=some u\/∃o,H a=some (.frz o u)
theorem Rd.ok {P:Program}{w:World}{H:Hp}{h:Heap}{a:Addr}{u:HO}(r:Rd H a u) (x:HOk P w H h):ObjOk P w H h a u:=by
 rcases r with r | ⟨o,r⟩
 ·exact x a u r
 ·obtain ⟨_,q⟩:=x a _ r
  exact q
def Mut:Option HO->Prop
 | some (.lst _)=>True
 | some (.dK _)=>True
 | some (.dT _)=>True
 | some (.set _ _)=>True
 | some (.ins _ _ _)=>True
 | some (.ext _)=>True
 | _=>False
section
variable {P:Program}{w:World}{H:Hp}{h h':Heap}{x e:Addr}{o':HO}
theorem HOk.write (ok:HOk P w H h) (mu:Mut (H x)) (he:e=x\/H e=some (.own x)) (k:∀b u,b≠e->h.get? b=some u->h'.get? b=some u) (heo:∃u,h'.get? e=some u)
  (new:ObjOk P w (upd H x o') h' x o'):HOk P w (upd H x o') h':=λ b u q=>by
 have nown:∀c y,H c=some (.own y)->c≠x:=λ c y r z=>by subst z;rw [r] at mu;exact mu
 have ntup:∀c xs,H c=some (.tup xs)->c≠x:=λ c xs r z=>by subst z;rw [r] at mu;exact mu
 by_cases hb:b=x
 ·subst hb;rw [z0f] at q;cases q;exact new
 ·rw [z1a hb] at q
  by_cases hbe:b=e
  ·have q':H b=some (.own x):=by
    rcases he with z | z
    ·exact absurd (hbe.trans z) hb
    ·rw [hbe];exact z
   rw [q] at q';cases q'
   obtain ⟨v,hv⟩:=heo
   exact ⟨v,by rw [hbe];exact hv⟩
  ·refine (ok b u q).stay (λ c v hc r=>k c v ?_ r) (λ c r=>by rw [z1a (nown c b r)];exact r) λ c xs r=>by rw [z1a (ntup c xs r)];exact r
   rcases hc with rfl | hc
   ·exact hbe
   ·rintro rfl
    rcases he with z | z
    ·exact nown c b hc z
    ·rw [hc] at z;cases z;exact hb rfl
end
structure Un (fs ex:List Addr) (H H':Hp) (h h':Heap):Prop where
 keep:∀b o,h.get? b=some o->H b=none->b ∉ fs->b ∉ ex->h'.get? b=some o
 slot:∀b o,h.get? b=some o->H b=none->b∈fs->b ∉ ex->∃sl,h'.get? b=some { o with slots:=sl }
 free:∀b o,h.get? b=some o->H b=none->b ∉ ex->H' b=none
 there:∀b o,h.get? b=some o->b ∉ ex->∃o',h'.get? b=some o'
 tups:∀b xs,H b=some (.tup xs)->H' b=some (.tup xs)
 frzs:∀b o u,H b=some (.frz o u)->H' b=some (.frz o u)
 tbls:∀b ps,H b=some (.tbl ps)->∃more,H' b=some (.tbl (ps++more))
section
variable {fs fs' ex ex':List Addr}{H H1 H2:Hp}{h h1 h2 h':Heap}{a x e:Addr}{o:HO}
theorem Un.any (u:Un fs ex H H1 h h1) {b:Addr}{ob:Obj}(q:h.get? b=some ob) (n:H b=none) (hx:b ∉ ex):∃sl,h1.get? b=some { ob with slots:=sl }:=by
 by_cases hb:b∈fs
 ·exact u.slot b ob q n hb hx
 ·exact ⟨ob.slots,u.keep b ob q n hb hx⟩
theorem Un.trans (a:Un fs ex H H1 h h1) (b:Un fs ex H1 H2 h1 h2):Un fs ex H H2 h h2 where
 keep:=λ c ob q n hc hx=>b.keep c ob (a.keep c ob q n hc hx) (a.free c ob q n hx) hc hx
 slot:=λ c ob q n hc hx=>by
  obtain ⟨sl,e1⟩:=a.slot c ob q n hc hx
  obtain ⟨sl',e2⟩:=b.slot c _ e1 (a.free c ob q n hx) hc hx
  exact ⟨sl',e2⟩
 free:=λ c ob q n hx=>by
  obtain ⟨o',e1⟩:=a.there c ob q hx
  exact b.free c o' e1 (a.free c ob q n hx) hx
 there:=λ c ob q hx=>by
  obtain ⟨o',e1⟩:=a.there c ob q hx
  exact b.there c o' e1 hx
 tups:=λ c xs q=>b.tups c xs (a.tups c xs q)
 frzs:=λ c ob xs q=>b.frzs c ob xs (a.frzs c ob xs q)
 tbls:=λ c ps q=>by
  obtain ⟨m1,e1⟩:=a.tbls c ps q
  obtain ⟨m2,e2⟩:=b.tbls c _ e1
  exact ⟨m1++m2,by rw [e2,Array.append_assoc]⟩
theorem Un.kept (k:∀b u,h.get? b=some u->h'.get? b=some u):Un fs ex H H h h' :=
 ⟨λ b ob q _ _ _=>k b ob q,λ b ob q _ _ _=>⟨ob.slots,k b ob q⟩,λ _ _ _ n _=>n,λ b ob q _=>⟨ob,k b ob q⟩,λ _ _ q=>q,λ _ _ _ q=>q,λ _ ps q=>⟨#[],by rw [q];simp⟩⟩
theorem Un.refl:Un fs ex H H h h:=Un.kept λ _ _ q=>q
theorem Un.laid (k:∀b u,h.get? b=some u->h'.get? b=some u) (hp:h.objs.size≤a) (hn:H a=none):Un fs ex H (upd H a o) h h' where
 keep:=λ b u q _ _ _=>k b u q
 slot:=λ b u q _ _ _=>⟨u.slots,k b u q⟩
 free:=λ b u q n _=>by rw [z1a (Nat.ne_of_lt (Nat.lt_of_lt_of_le (Heap.lt_size q) hp))];exact n
 there:=λ b u q _=>⟨u,k b u q⟩
 tups:=λ b xs q=>by rw [z1a (z2q q hn)];exact q
 frzs:=λ b u xs q=>by rw [z1a (z2q q hn)];exact q
 tbls:=λ b ps q=>⟨#[],by rw [z1a (z2q q hn),q];simp⟩
theorem Un.write (mu:Mut (H x)) (he:e=x\/H e=some (.own x)) (k:∀b u,b≠e->h.get? b=some u->h'.get? b=some u) (heo:∃u,h'.get? e=some u):Un fs ex H (upd H x o) h h':=by
 have hx:∀b,H b=none->b≠x:=λ b n z=>by subst z;rw [n] at mu;exact mu
 have hb:∀b,H b=none->b≠e:=λ b n z=>by
  subst z
  rcases he with r | r
  ·exact hx b n r
  ·rw [n] at r;cases r
 have hm:∀b u,H b=some u->¬Mut (some u)->b≠x:=λ b u q nm z=>by subst z;rw [q] at mu;exact nm mu
 refine ⟨λ b u q n _ _=>k b u (hb b n) q,λ b u q n _ _=>⟨u.slots,k b u (hb b n) q⟩,λ b u q n _=>by rw [z1a (hx b n)];exact n,λ b u q _=>?_,
  λ b xs q=>by rw [z1a (hm b _ q λ z=>z)];exact q,λ b u xs q=>by rw [z1a (hm b _ q λ z=>z)];exact q,λ b ps q=>⟨#[],by rw [z1a (hm b _ q λ z=>z),q];simp⟩⟩
 by_cases hbe:b=e
 ·subst hbe;exact heo
 ·exact ⟨u,k b u hbe q⟩
end
def trk (h:Heap) (H:Hp):List Addr:=(List.range h.objs.size).filter λ a=>(H a).isSome
def hidT (h:Heap) (H:Hp):Heap:=W.hideAll h (trk h H)
theorem y5j (h:Heap) (H:Hp):(hidT h H).objs.size=h.objs.size:=W.hideAll_size _ _
theorem y8g {h:Heap}{H:Hp}{b:Addr}{o:Obj}(e:h.get? b=some o) (n:H b=none):(hidT h H).get? b=some o :=
 W.hideAll_get _ e λ hm=>by
  have q:(H b).isSome=true:=(List.mem_filter.mp hm).2
  rw [n] at q;simp at q
theorem x1e {h:Heap}{H:Hp}{b:Addr}{o:Obj}(e:(hidT h H).get? b=some o):h.get? b=some o/\H b=none:=by
 have e':h.get? b=some o:=W.of_hideAll (trk h H) e
 refine ⟨e',?_⟩
 cases q:H b with
 | none=>rfl
 | some x =>
  have hm:b∈trk h H:=List.mem_filter.mpr ⟨List.mem_range.mpr (Heap.lt_size e'),by simp [q]⟩
  have z:(hidT h H).get? b=none:=W.hideAll_none (trk h H) hm
  rw [z] at e;cases e
def allNews (g h:Heap) (L:Addr):List (Addr × Obj):=(List.range h.objs.size).filterMap λ a=>if a=L\/(g.get? a).isSome=true then none else (h.get? a).map λ o=>(a,o)
def rest (g h:Heap) (L d:Addr):List (Addr × Obj):=(allNews g h L).filter λ p=>decide (p.1≠d)
structure Mod (K:W.Frag) (mg:Str->Option Value) (base:Heap):Prop where
 kin:K.In base
 glob:base.Ns mainGlobals mg
 blt:∃mb,base.Ns builtinsNs mb/\∀x:Str,x ≠ "__name__" -> mb x=bootBuiltins x
 nolimit:base.NoLimit
structure Cx where
 prog:Program
 w:World
 K:W.Frag
 mg:Str->Option Value
 base:Heap
 A:Around
 N:List Str
 s₀:Shared
 H₀:Hp
 env:Env
 outer:List Env
 stack:List Env
 ex:List Addr
 fn:Str->Bool
 calm:Bool
 pn:List (Addr × Obj)
 xe:Value->Shared->Prop
def frs (l:List Env):List Addr:=l.filterMap (·.frame)
abbrev Cx.fs (X:Cx):List Addr:=frs X.outer
def Vis (sc:Scope) (x:Str):Prop:=sc.names.lookup x=some .local\/sc.names.lookup x=some .cell\/sc.names.lookup x=some .free
def Loc (sc:Scope) (x:Str):Prop:=sc.names.lookup x=some .local\/sc.names.lookup x=some .cell
def Look (env:Env) (h:Heap) (m:Str->Option Value) (x:Str) (u:Value):Prop :=
 (env.kindOf x=some .local/\m x=some u)\/((env.kindOf x=some .cell\/env.kindOf x=some .free)/\∃c,env.cells.lookup x=some c/\h.IsCell c (some u))
structure Cx.Ok (X:Cx):Prop where
 mod:Mod X.K X.mg X.base
 kind:X.env.scope.kind=.function
 glob:X.env.globals=mainGlobals
 blt:X.env.builtins=builtinsNs
 above:X.s₀.heap.objs.size≤X.env.locals
 inj:∀x y c,X.env.cells.lookup x=some c->X.env.cells.lookup y=some c->x=y
 has:∀x,(X.env.kindOf x=some .cell\/X.env.kindOf x=some .free)->∃c,X.env.cells.lookup x=some c
 cab:∀x c,X.fn x=true->X.env.cells.lookup x=some c->X.s₀.heap.objs.size≤c
 hd:X.calm=true->X.A.handled=none
 frames:X.A.frames=some X.stack
 stk:X.stack=X.outer\/(X.stack=X.env::X.outer/\X.env.frame=some X.env.locals)
 exf:∀b∈X.ex,b≠X.env.locals/\∀x c,X.env.cells.lookup x=some c->c≠b
 bs:∀b o,X.base.get? b=some o->X.s₀.heap.get? b=some o/\X.H₀ b=none
 bsz:X.base.objs.size≤X.s₀.heap.objs.size
 noex:∀b o,X.base.get? b=some o->b ∉ X.ex
 exfs:∀b∈X.ex,b ∉ X.fs
 funs:X.s₀.heap.FunFrames X.base X.outer
 frf:∀b∈X.fs,X.H₀ b=none
structure Inv (X:Cx) (pins:List (Addr × Obj)) (σ:List (Option V)) (H:Hp) (s:Shared):Prop where
 ok:X.Ok
 os:s.os=X.s₀.os
 bare:AllBare s.gens
 base:Un X.fs X.ex X.H₀ H X.s₀.heap s.heap
 loc:∃m,s.heap.Ns X.env.locals m/\∀(i:Nat) (x:Str) (v:V),X.N[i]?=some x->σ[i]?=some (some v)->Vis X.env.scope x->∃u,RelV v u/\Look X.env s.heap m x u
 cell:∀x c,X.env.cells.lookup x=some c->∃v,s.heap.IsCell c v
 free:H X.env.locals=none
 freeC:∀x c,X.env.cells.lookup x=some c->H c=none
 pin:∀p∈X.pn++pins,s.heap.get? p.1=some p.2/\H p.1=none/\p.1≠X.env.locals/\p.1 ∉ X.fs/\∀v,p.2.data≠.cell v
 hok:HOk X.prog X.w H s.heap
 len:σ.length=X.N.length
section
variable {X:Cx}{pins:List (Addr × Obj)}{σ:List (Option V)}{H H':Hp}{s:Shared}{h':Heap}
theorem Cx.Ok.nofr (ok:X.Ok) {b:Addr}{o:Obj}(e:X.base.get? b=some o):b ∉ X.fs:=λ hb=>by
 have:=(ok.funs.mem hb).1
 rw [e] at this;cases this
theorem Inv.bs (I:Inv X pins σ H s):∀b o,X.base.get? b=some o->s.heap.get? b=some o/\H b=none:=λ b o e =>
 ⟨I.base.keep b o (I.ok.bs b o e).1 (I.ok.bs b o e).2 (I.ok.nofr e) (I.ok.noex b o e),I.base.free b o (I.ok.bs b o e).1 (I.ok.bs b o e).2 (I.ok.noex b o e)⟩
theorem Inv.bk (I:Inv X pins σ H s):∀b o,X.base.get? b=some o->s.heap.get? b=some o:=λ b o e=>(I.bs b o e).1
theorem Inv.mod (I:Inv X pins σ H s):Mod X.K X.mg X.base:=I.ok.mod
theorem Inv.kIn (I:Inv X pins σ H s):X.K.In s.heap:=I.ok.mod.kin.keeps I.bk
theorem Inv.lt (I:Inv X pins σ H s):X.env.locals < s.heap.objs.size:=let ⟨_,hn,_⟩:=I.loc;hn.lt
theorem Inv.sz (I:Inv X pins σ H s):X.s₀.heap.objs.size≤s.heap.objs.size:=Nat.le_trans I.ok.above (Nat.le_of_lt I.lt)
theorem Inv.nofs (I:Inv X pins σ H s) {a:Addr}(h:s.heap.objs.size≤a):a ∉ X.fs:=λ hb=>by
 obtain ⟨_,o,ho,_⟩:=I.ok.funs.mem hb
 exact absurd (Nat.lt_of_lt_of_le (Heap.lt_size ho) (Nat.le_trans I.sz h)) (Nat.lt_irrefl _)
theorem Inv.cne (I:Inv X pins σ H s):∀x c,X.env.cells.lookup x=some c->c≠X.env.locals:=λ x c e z=>by
 obtain ⟨v,o,ho,hd⟩:=I.cell x c e
 obtain ⟨m,⟨o',es,ep,ho',hd',_⟩,_⟩:=I.loc
 rw [z,ho'] at ho;cases ho;rw [hd'] at hd;cases hd
theorem Inv.funs (I:Inv X pins σ H s):s.heap.FunFrames X.base X.outer:=by
 have all:∀(l:List Env),(∀b∈frs l,b∈X.fs)->X.s₀.heap.FunFrames X.base l->s.heap.FunFrames X.base l:=by
  intro l
  induction l with
  | nil=>intro _ _;trivial
  | cons env r ih =>
   intro hs hl
   obtain ⟨hk,⟨L,o,hf,hn,ho,hd⟩,hr⟩:=hl
   have hL:L∈X.fs:=hs L (by unfold frs;rw [List.filterMap_cons,hf];exact List.mem_cons_self)
   obtain ⟨sl,e⟩:=I.base.slot L o ho (I.ok.frf L hL) hL λ z=>I.ok.exfs L z hL
   exact ⟨hk,⟨L,_,hf,hn,e,hd⟩,ih (λ b hb=>hs b (by unfold frs;rw [List.filterMap_cons,hf];exact List.mem_cons_of_mem _ hb)) hr⟩
 exact all X.outer (λ _ hb=>hb) I.ok.funs
theorem Inv.stack (I:Inv X pins σ H s):s.heap.FunFrames X.base X.stack:=by
 rcases I.ok.stk with e | ⟨e,hf⟩
 ·rw [e];exact I.funs
 ·rw [e]
  obtain ⟨m,hn,_⟩:=I.loc
  refine .cons (by rw [I.ok.kind];decide) hf hn ?_ I.funs
  exact Heap.get?_none_of_le (Nat.le_trans I.ok.bsz I.ok.above)
theorem Inv.stkSub (I:Inv X pins σ H s):∀b∈frs X.stack,b∈X.env.locals::X.fs:=λ b hb=>by
 rcases I.ok.stk with e | ⟨e,hf⟩
 ·rw [e] at hb;exact List.mem_cons_of_mem _ hb
 ·rw [e] at hb
  unfold frs at hb
  rw [List.filterMap_cons,hf] at hb
  exact hb
theorem Inv.stkFree (I:Inv X pins σ H s):∀b∈frs X.stack,H b=none:=λ b hb=>by
 rcases List.mem_cons.mp (I.stkSub b hb) with e | hb
 ·rw [e];exact I.free
 ·obtain ⟨_,o,ho,_⟩:=I.ok.funs.mem hb
  exact I.base.free b o ho (I.ok.frf b hb) λ z=>I.ok.exfs b z hb
theorem Inv.step {g':Array GenState}{t':Nat}{d':Drawn}{ch:List Addr}(I:Inv X pins σ H s)
  (hch:∀b∈ch,(b∈X.ex\/X.s₀.heap.objs.size≤b)/\b≠X.env.locals/\(∀x c,X.env.cells.lookup x=some c->c≠b)/\∀p∈X.pn++pins,p.1≠b)
  (keep:∀b o,b≠X.env.locals->b ∉ X.fs->b ∉ ch->s.heap.get? b=some o->H b=none->h'.get? b=some o)
  (slot:∀b o,b≠X.env.locals->b∈X.fs->b ∉ ch->s.heap.get? b=some o->H b=none->∃sl,h'.get? b=some { o with slots:=sl }) (free:∀b o,b ∉ ch->s.heap.get? b=some o->H b=none->H' b=none)
  (there:∀b o,b ∉ ch->s.heap.get? b=some o->∃o',h'.get? b=some o')
  (tups:∀b xs,H b=some (.tup xs)->H' b=some (.tup xs)) (frzs:∀b o u,H b=some (.frz o u)->H' b=some (.frz o u)) (tbls:∀b ps,H b=some (.tbl ps)->∃more,H' b=some (.tbl (ps++more)))
  (ns:∀m,s.heap.Ns X.env.locals m->h'.Ns X.env.locals m) (hok:HOk X.prog X.w H' h') (hg:AllBare g') :
  Inv X pins σ H' { s with heap:=h',gens:=g',drawn:=d',toks:=t' }:=by
 have neL:∀b o,X.s₀.heap.get? b=some o->b≠X.env.locals:=λ b o e=>Nat.ne_of_lt (Nat.lt_of_lt_of_le (Heap.lt_size e) I.ok.above)
 have neC:∀b o,X.s₀.heap.get? b=some o->b ∉ X.ex->b ∉ ch:=λ b o e hx hb=>by
  rcases (hch b hb).1 with z | z
  ·exact hx z
  ·exact absurd (Nat.lt_of_lt_of_le (Heap.lt_size e) z) (Nat.lt_irrefl _)
 have cellK:∀x c,X.env.cells.lookup x=some c->∀v,s.heap.IsCell c v->h'.IsCell c v:=λ x c e v ⟨o,ho,hd⟩=>by
  have nch:c ∉ ch:=λ z=>(hch c z).2.2.1 x c e rfl
  by_cases hc:c∈X.fs
  ·obtain ⟨sl,q⟩:=slot c o (I.cne x c e) hc nch ho (I.freeC x c e)
   exact ⟨_,q,hd⟩
  ·exact ⟨o,keep c o (I.cne x c e) hc nch ho (I.freeC x c e),hd⟩
 refine ⟨I.ok,I.os,hg,⟨λ b o e n hb hx=>?_,λ b o e n hb hx=>?_,λ b o e n hx=>?_,λ b o e hx=>?_,λ b xs e=>tups b xs (I.base.tups b xs e),λ b o xs e=>frzs b o xs (I.base.frzs b o xs e),λ b ps e=>?_⟩,?_,λ x c e=>?_,?_,λ x c e=>?_,λ p hp=>?_,hok,I.len⟩
 ·exact keep b o (neL b o e) hb (neC b o e hx) (I.base.keep b o e n hb hx) (I.base.free b o e n hx)
 ·obtain ⟨sl,e1⟩:=I.base.slot b o e n hb hx
  obtain ⟨sl',e2⟩:=slot b _ (neL b o e) hb (neC b o e hx) e1 (I.base.free b o e n hx)
  exact ⟨sl',e2⟩
 ·obtain ⟨o',e1⟩:=I.base.there b o e hx
  exact free b o' (neC b o e hx) e1 (I.base.free b o e n hx)
 ·obtain ⟨o',e1⟩:=I.base.there b o e hx
  exact there b o' (neC b o e hx) e1
 ·obtain ⟨m1,e1⟩:=I.base.tbls b ps e
  obtain ⟨m2,e2⟩:=tbls b _ e1
  exact ⟨m1++m2,by rw [e2,Array.append_assoc]⟩
 ·obtain ⟨m,hn,hl⟩:=I.loc
  refine ⟨m,ns m hn,λ i x v e1 e2 e3=>?_⟩
  obtain ⟨u,r,l⟩:=hl i x v e1 e2 e3
  refine ⟨u,r,?_⟩
  rcases l with l | ⟨k,c,e,z⟩
  ·exact .inl l
  ·exact .inr ⟨k,c,e,cellK x c e _ z⟩
 ·obtain ⟨v,z⟩:=I.cell x c e
  exact ⟨v,cellK x c e v z⟩
 ·obtain ⟨m,⟨o,_,_,ho,_⟩,_⟩:=I.loc
  exact free _ o (λ z=>(hch _ z).2.1 rfl) ho I.free
 ·obtain ⟨v,o,ho,hd⟩:=I.cell x c e
  exact free c o (λ z=>(hch c z).2.2.1 x c e rfl) ho (I.freeC x c e)
 ·obtain ⟨e,n,ne,nf,d⟩:=I.pin p hp
  have nch:p.1 ∉ ch:=λ z=>(hch p.1 z).2.2.2 p hp rfl
  exact ⟨keep p.1 p.2 ne nf nch e n,free p.1 p.2 nch e n,ne,nf,d⟩
theorem Inv.un {t':Nat}(I:Inv X pins σ H s) (u:Un X.fs [] H H' s.heap h') (hok:HOk X.prog X.w H' h'):Inv X pins σ H' { s with heap:=h',toks:=t' }:=by
 obtain ⟨m,⟨o,es,ep,ho,r⟩,_⟩:=id I.loc
 obtain ⟨sl,hL⟩:=u.any ho I.free (by simp)
 exact I.step (g':=s.gens) (d':=s.drawn) (ch:=[]) (λ _ z=>nomatch z) (λ b o _ hb _ e n=>u.keep b o e n hb (by simp)) (λ b o _ hb _ e n=>u.slot b o e n hb (by simp)) (λ b o _ e n=>u.free b o e n (by simp)) (λ b o _ e=>u.there b o e (by simp)) u.tups u.frzs u.tbls (λ m' hm=>by
  obtain ⟨o',es',ep',ho',r'⟩:=hm
  rw [ho] at ho';cases ho'
  exact ⟨_,es',ep',hL,r'⟩) hok I.bare
theorem Inv.call {g':Array GenState}{t':Nat}{d':Drawn}{ch:List Addr}(I:Inv X pins σ H s) (u:Un (frs X.stack) ch H H' s.heap h') (hok:HOk X.prog X.w H' h') (hg:AllBare g')
  (hch:∀b∈ch,(b∈X.ex\/X.s₀.heap.objs.size≤b)/\b≠X.env.locals/\(∀x c,X.env.cells.lookup x=some c->c≠b)/\∀p∈X.pn++pins,p.1≠b) :
  Inv X pins σ H' { s with heap:=h',gens:=g',drawn:=d',toks:=t' }:=by
 obtain ⟨m,⟨o,es,ep,ho,r⟩,_⟩:=id I.loc
 obtain ⟨sl,hL⟩:=u.any ho I.free λ z=>(hch _ z).2.1 rfl
 exact I.step (ch:=ch) hch (λ b o hL hb hc e n=>u.keep b o e n (λ z=>(List.mem_cons.mp (I.stkSub b z)).elim hL hb) hc) (λ b o _ _ hc e n=>u.any e n hc) (λ b o hc e n=>u.free b o e n hc) (λ b o hc e=>u.there b o e hc) u.tups u.frzs u.tbls (λ m' hm=>by
  obtain ⟨o',es',ep',ho',r'⟩:=hm
  rw [ho] at ho';cases ho'
  exact ⟨_,es',ep',hL,r'⟩) hok hg
theorem Inv.turned {t':Nat}{it:Addr}(I:Inv X pins σ H s) (k:∀b o,b≠it->s.heap.get? b=some o->h'.get? b=some o) (hn:H it=none) (hL:it≠X.env.locals)
  (h1:it∈X.ex\/X.s₀.heap.objs.size≤it) (h2:∀x c,X.env.cells.lookup x=some c->c≠it) (h3:∀p∈X.pn++pins,p.1≠it):Inv X pins σ H { s with heap:=h',toks:=t' }:=by
 have nit:∀b u,H b=some u->b≠it:=λ b u e z=>by rw [z,hn] at e;cases e
 refine I.step (g':=s.gens) (d':=s.drawn) (ch:=[it]) (λ b hb=>?_) (λ b o _ _ hc e _=>k b o (λ z=>hc (by simp [z])) e) (λ b o _ _ hc e _=>⟨o.slots,k b o (λ z=>hc (by simp [z])) e⟩) (λ _ _ _ _ n=>n)
  (λ b o hc e=>⟨o,k b o (λ z=>hc (by simp [z])) e⟩) (λ _ _ e=>e) (λ _ _ _ e=>e) (λ b ps e=>⟨#[],by rw [e];simp⟩) (λ m hm=>?_) (λ b u e=>?_) I.bare
 ·have e:b=it:=by simpa using hb
  subst e
  exact ⟨h1,hL,h2,h3⟩
 ·obtain ⟨o,es,ep,ho,r⟩:=hm
  exact ⟨o,es,ep,k _ o (Ne.symm hL) ho,r⟩
 ·refine (I.hok b u e).stay (λ c v hc q=>k c v ?_ q) (λ _ q=>q) λ _ _ q=>q
  rcases hc with z | z
  ·rw [z];exact nit b u e
  ·exact nit c _ z
theorem Inv.tok (I:Inv X pins σ H s) (t:Nat):Inv X pins σ H { s with toks:=t }:=I.un (h':=s.heap) (t':=t) Un.refl I.hok
theorem Inv.kept {t':Nat}(I:Inv X pins σ H s) (k:∀b u,s.heap.get? b=some u->h'.get? b=some u):Inv X pins σ H { s with heap:=h',toks:=t' }:=I.un (Un.kept k) (I.hok.kept k)
theorem Inv.laid {a:Addr}{o:HO}{t':Nat}(I:Inv X pins σ H s) (k:∀b u,s.heap.get? b=some u->h'.get? b=some u) (hp:s.heap.objs.size≤a) (new:ObjOk X.prog X.w (upd H a o) h' a o) :
  Inv X pins σ (upd H a o) { s with heap:=h',toks:=t' }:=I.un (Un.laid k hp (I.hok.fresh hp)) (I.hok.laid k hp new)
theorem Inv.write {x e:Addr}{o:HO}{t':Nat}(I:Inv X pins σ H s) (mu:Mut (H x)) (he:e=x\/H e=some (.own x)) (k:∀b u,b≠e->s.heap.get? b=some u->h'.get? b=some u) (heo:∃u,h'.get? e=some u)
  (new:ObjOk X.prog X.w (upd H x o) h' x o):Inv X pins σ (upd H x o) { s with heap:=h',toks:=t' }:=I.un (Un.write mu he k heo) (I.hok.write mu he k heo new)
theorem Inv.pins_of {pins':List (Addr × Obj)}(I:Inv X pins σ H s) (h:∀p∈pins',s.heap.get? p.1=some p.2/\H p.1=none/\p.1≠X.env.locals/\p.1 ∉ X.fs/\∀v,p.2.data≠.cell v):Inv X pins' σ H s :=
 ⟨I.ok,I.os,I.bare,I.base,I.loc,I.cell,I.free,I.freeC,λ p hp=>(List.mem_append.mp hp).elim (λ z=>I.pin p (List.mem_append_left _ z)) (h p),I.hok,I.len⟩
theorem z7i {N:List Str}(hN:N.Nodup) {i j:Nat}{x:Str}(a:N[i]?=some x) (b:N[j]?=some x):i=j:=by
 obtain ⟨h1,e1⟩:=List.getElem?_eq_some_iff.mp a
 obtain ⟨h2,e2⟩:=List.getElem?_eq_some_iff.mp b
 exact (List.getElem_inj hN).mp (e1.trans e2.symm)
theorem z4z {M:Model}{A:Around}{E:Value->Shared->Prop}{i:Nat}{x:Str}{v:V}{u:Value}{Q:Unit->Shared->Prop}(I:Inv X pins σ H s) (hN:X.N.Nodup) (hi:X.N[i]?=some x) (hx:Loc X.env.scope x) (r:RelV v u)
  (h:∀s',Inv X pins (σ.set i (some v)) H s'->(∃a,Heap.SameBut a s.heap s'.heap/\(a=X.env.locals\/X.env.cells.lookup x=some a))->Q () s') (hf:X.fn x=true\/X.env.scope.names.lookup x=some .local:=by first | exact .inl rfl | exact .inr rfl | assumption):wpAny M A (storeName X.env x u) Q E s:=by
 obtain ⟨m,hn,hl⟩:=id I.loc
 have hcls:(X.env.scope.kind == .class || (X.env.scope.kind == .module && X.env.locals != X.env.globals))=false:=by rw [I.ok.kind];rfl
 have hiσ:i < σ.length:=by rw [I.len];exact (List.getElem?_eq_some_iff.mp hi).1
 have cne:=I.cne
 have tracked:∀ {a:Addr}{h':Heap},(∃o,s.heap.get? a=some o/\H a=none)->Heap.SameBut a s.heap h'->HOk X.prog X.w H h':=λ {a h'} ha hs b ob e=>by
  obtain ⟨_,_,hfree⟩:=ha
  refine (I.hok b ob e).stay (λ c w' hc q=>(hs.2 c ?_).trans q) (λ _ q=>q) λ _ _ q=>q
  rintro rfl
  rcases hc with rfl | hc
  ·rw [hfree] at e;cases e
  ·rw [hfree] at hc;cases hc
 rcases hx with hk | hk
 ·refine wpAny_storeName_local hk hn (λ h' hn' hs=>?_) hcls
  obtain ⟨oL,_,_,hoL,_⟩:=id hn
  refine h _ ⟨I.ok,I.os,I.bare,⟨λ b o e n hb hx=>?_,λ b o e n hb hx=>?_,I.base.free,λ b o e hx=>?_,I.base.tups,I.base.frzs,I.base.tbls⟩,⟨_,hn',λ j y v' e1 e2 e3=>?_⟩,λ y c e=>?_,I.free,I.freeC,λ p hp=>?_,tracked ⟨oL,hoL,I.free⟩ hs,by simpa using I.len⟩ ⟨_,hs,.inl rfl⟩
  ·exact (hs.2 b (Nat.ne_of_lt (Nat.lt_of_lt_of_le (Heap.lt_size e) I.ok.above))).trans (I.base.keep b o e n hb hx)
  ·obtain ⟨sl,e1⟩:=I.base.slot b o e n hb hx
   exact ⟨sl,(hs.2 b (Nat.ne_of_lt (Nat.lt_of_lt_of_le (Heap.lt_size e) I.ok.above))).trans e1⟩
  ·obtain ⟨o',e1⟩:=I.base.there b o e hx
   exact ⟨o',(hs.2 b (Nat.ne_of_lt (Nat.lt_of_lt_of_le (Heap.lt_size e) I.ok.above))).trans e1⟩
  ·by_cases hj:j=i
   ·subst hj
    rw [hi] at e1;cases e1
    rw [List.getElem?_set_self hiσ] at e2
    cases e2
    exact ⟨u,r,.inl ⟨hk,by simp⟩⟩
   ·rw [List.getElem?_set_ne (Ne.symm hj)] at e2
    obtain ⟨u',r',q⟩:=hl j y v' e1 e2 e3
    refine ⟨u',r',?_⟩
    rcases q with ⟨k,e⟩ | ⟨k,c,e,z⟩
    ·refine .inl ⟨k,?_⟩
     have:y≠x:=λ e=>hj (z7i hN e1 (e ▸ hi))
     simp [this,e]
    ·exact .inr ⟨k,c,e,z.sameBut hs (cne y c e)⟩
  ·obtain ⟨w',z⟩:=I.cell y c e
   exact ⟨w',z.sameBut hs (cne y c e)⟩
  ·obtain ⟨e,n,ne,nf,d⟩:=I.pin p hp
   exact ⟨(hs.2 p.1 ne).trans e,n,ne,nf,d⟩
 ·have hfn:X.fn x=true:=by
   rcases hf with z | z
   ·exact z
   ·rw [z] at hk;cases hk
  obtain ⟨c,hc⟩:=I.ok.has x (.inl hk)
  obtain ⟨w',z⟩:=I.cell x c hc
  refine wpAny_storeName_cell I.ok.kind hk hc z (λ h' hc' hs=>?_)
  obtain ⟨oc,hoc,hocd⟩:=id z
  refine h { s with heap:=h' } ⟨I.ok,I.os,I.bare,⟨λ b o e n hb hx=>?_,λ b o e n hb hx=>?_,I.base.free,λ b o e hx=>?_,I.base.tups,I.base.frzs,I.base.tbls⟩,⟨m,hn.sameBut hs (Ne.symm (cne x c hc)),λ j y v' e1 e2 e3=>?_⟩,λ y c' e=>?_,I.free,I.freeC,λ p hp=>?_,tracked ⟨oc,hoc,I.freeC x c hc⟩ hs,by simpa using I.len⟩ ⟨c,hs,.inr hc⟩
  ·exact (hs.2 b (Nat.ne_of_lt (Nat.lt_of_lt_of_le (Heap.lt_size e) (I.ok.cab x c hfn hc)))).trans (I.base.keep b o e n hb hx)
  ·obtain ⟨sl,e1⟩:=I.base.slot b o e n hb hx
   exact ⟨sl,(hs.2 b (Nat.ne_of_lt (Nat.lt_of_lt_of_le (Heap.lt_size e) (I.ok.cab x c hfn hc)))).trans e1⟩
  ·obtain ⟨o',e1⟩:=I.base.there b o e hx
   exact ⟨o',(hs.2 b (Nat.ne_of_lt (Nat.lt_of_lt_of_le (Heap.lt_size e) (I.ok.cab x c hfn hc)))).trans e1⟩
  ·by_cases hj:j=i
   ·subst hj
    rw [hi] at e1;cases e1
    rw [List.getElem?_set_self hiσ] at e2
    cases e2
    exact ⟨u,r,.inr ⟨.inl hk,c,hc,hc'⟩⟩
   ·rw [List.getElem?_set_ne (Ne.symm hj)] at e2
    obtain ⟨u',r',q⟩:=hl j y v' e1 e2 e3
    refine ⟨u',r',?_⟩
    rcases q with q | ⟨k,c',e,z'⟩
    ·exact .inl q
    ·refine .inr ⟨k,c',e,z'.sameBut hs ?_⟩
     rintro rfl
     exact hj (z7i hN e1 (I.ok.inj _ _ _ e hc ▸ hi))
  ·by_cases hcc:c'=c
   ·subst hcc;exact ⟨_,hc'⟩
   ·obtain ⟨w2,z2⟩:=I.cell y c' e
    exact ⟨w2,z2.sameBut hs hcc⟩
  ·obtain ⟨e,n,ne,nf,d⟩:=I.pin p hp
   refine ⟨(hs.2 p.1 ?_).trans e,n,ne,nf,d⟩
   intro q
   rw [q,hoc] at e
   have q':oc=p.2:=Option.some.inj e
   exact d w' (by rw [← q'];exact hocd)
theorem z6l {M:Model}{A:Around}{E:Value->Shared->Prop}{i:Nat}{x:Str}{v:V}{u:Value}{Q:Unit->Shared->Prop}(I:Inv X pins σ H s) (hN:X.N.Nodup) (hi:X.N[i]?=some x) (hx:Loc X.env.scope x) (r:RelV v u)
  (h:∀s',Inv X pins (σ.set i (some v)) H s'->Q () s') (hf:X.fn x=true\/X.env.scope.names.lookup x=some .local:=by first | exact .inl rfl | exact .inr rfl | assumption):wpAny M A (storeName X.env x u) Q E s :=
 z4z I hN hi hx r (λ s' I' _=>h s' I') hf
theorem Inv.call' {s':Shared}{ch:List Addr}(I:Inv X pins σ H s) (ho:s'.os=s.os) (u:Un (frs X.stack) ch H H' s.heap s'.heap) (hok:HOk X.prog X.w H' s'.heap) (hg:AllBare s'.gens)
  (hch:∀b∈ch,(b∈X.ex\/X.s₀.heap.objs.size≤b)/\b≠X.env.locals/\(∀x c,X.env.cells.lookup x=some c->c≠b)/\∀p∈X.pn++pins,p.1≠b):Inv X pins σ H' s':=by
 obtain ⟨h',g',d',t',o'⟩:=s'
 have e:o'=s.os:=ho
 subst e
 exact I.call (g':=g') (t':=t') (d':=d') u hok hg hch
end
abbrev XK:=Value->Option Addr->Hp->Prop
abbrev St:=List (Option V)
abbrev VK:=V->Hp->Prop
abbrev TE:=St->Hp->VK->Prop
abbrev TT:=St->Hp->(Bool->Hp->Prop)->Prop
abbrev TA:=St->Hp->(List V->Hp->Prop)->Prop
structure Ends where
 nx:St->Hp->Prop
 rt:VK
 bk:St->Hp->Prop:=λ _ _=>False
 ct:St->Hp->Prop:=λ _ _=>False
abbrev TS:=Ends->St->Hp->Prop
def EP (X:Cx) (pins:List (Addr × Obj)) (σ:St) (Q:VK) (u:Value) (s':Shared):Prop:=∃v H',Inv X pins σ H' s'/\RelV v u/\Q v H'
def TP (X:Cx) (pins:List (Addr × Obj)) (σ:St) (Q:Bool->Hp->Prop) (b:Bool) (s':Shared):Prop:=∃H',Inv X pins σ H' s'/\Q b H'
def AP (X:Cx) (pins:List (Addr × Obj)) (σ:St) (Q:List V->Hp->Prop) (us:List Value) (s':Shared):Prop:=∃vs H',Inv X pins σ H' s'/\Vals vs us/\Q vs H'
def SP (X:Cx) (pins:List (Addr × Obj)) (D:Ends) (f:Flow) (s':Shared):Prop :=
 match f with
 | .next=>∃σ' H',Inv X pins σ' H' s'/\D.nx σ' H'
 | .brk=>∃σ' H',Inv X pins σ' H' s'/\D.bk σ' H'
 | .cont=>∃σ' H',Inv X pins σ' H' s'/\D.ct σ' H'
 | .ret u=>∃v σ' H',Inv X pins σ' H' s'/\RelV v u/\D.rt v H'
def PE (X:Cx) (e:Expr) (t:TE):Prop :=
 ∀(pins:List (Addr × Obj)) (s:Shared) (σ:St) (H:Hp) (Q:VK),Inv X pins σ H s->t σ H Q->wpAny (model X.prog X.w) X.A (eval e X.env) (EP X pins σ Q) X.xe s
def PT (X:Cx) (e:Expr) (t:TT):Prop :=
 ∀(pins:List (Addr × Obj)) (s:Shared) (σ:St) (H:Hp) (Q:Bool->Hp->Prop),Inv X pins σ H s->t σ H Q->wpAny (model X.prog X.w) X.A (isTrue e X.env (eval e X.env)) (TP X pins σ Q) X.xe s
def PW (X:Cx) (e:Expr) (t:TT):Prop :=
 ∀(whole:Sem Value) (pins:List (Addr × Obj)) (s:Shared) (σ:St) (H:Hp) (Q:Bool->Hp->Prop),Inv X pins σ H s->t σ H Q->wpAny (model X.prog X.w) X.A (isTrue e X.env whole) (TP X pins σ Q) X.xe s
theorem PW.pt {X:Cx}{e:Expr}{t:TT}(h:PW X e t):PT X e t:=h _
def PA (X:Cx) (es:List Expr) (t:TA):Prop :=
 ∀(pos:Pos) (pins:List (Addr × Obj)) (s:Shared) (σ:St) (H:Hp) (Q:List V->Hp->Prop),Inv X pins σ H s->t σ H Q->wpAny (model X.prog X.w) X.A (spliced (backTo pos (starEach es X.env))) (AP X pins σ Q) X.xe s
def PS (X:Cx) (st:Stmt) (t:TS):Prop :=
 ∀(pins:List (Addr × Obj)) (s:Shared) (σ:St) (H:Hp) (D:Ends),Inv X pins σ H s->t D σ H->wpAny (model X.prog X.w) X.A (exec st X.env) (SP X pins D) X.xe s
def PSs (X:Cx) (st:List Stmt) (t:TS):Prop :=
 ∀(pins:List (Addr × Obj)) (s:Shared) (σ:St) (H:Hp) (D:Ends),Inv X pins σ H s->t D σ H->wpAny (model X.prog X.w) X.A (execs st X.env) (SP X pins D) X.xe s
theorem thn {α:Type}{t:Sem α}{Q Q':α->Shared->Prop}{M:Model}{A:Around}{E:Value->Shared->Prop}{s:Shared}(h:wpAny M A t Q E s) (hQ:∀a s,Q a s->Q' a s):wpAny M A t Q' E s:=wpAny_mono h hQ λ _ _ x=>x
section
variable {X:Cx}
def tVar (i:Nat):TE:=λ σ H Q=>∃v,σ[i]?=some (some v)/\Q v H
def tC (v:V):TE:=λ _ H Q=>Q v H
theorem x2v {i:Nat}{x:Str}{pos:Pos}(hN:X.N[i]?=some x) (hv:Vis X.env.scope x) (hd:(x == ("__debug__" : Str))=false:=by decide) (hcd:(x == ("__classdict__" : Str))=false:=by decide):PE X (.Name x pos) (tVar i):=by
 intro pins s σ H Q I h
 obtain ⟨v,e,h⟩:=h
 obtain ⟨m,hn,hl⟩:=I.loc
 obtain ⟨u,r,l⟩:=hl i x v hN e hv
 have fin:EP X pins σ Q u s:=⟨v,H,I,r,h⟩
 rcases l with ⟨hk,hm⟩ | ⟨hk,c,hc,hcell⟩
 ·exact wpAny_Name (wpAny_loadName_local I.ok.kind hk hn hm fin) hd
 ·rcases hk with hk | hk
  ·exact wpAny_Name (wpAny_loadName_cell I.ok.kind hk hc hcell fin) hd
  ·exact wpAny_Name (wpAny_loadName_free I.ok.kind hk hc hcell fin hcd) hd
theorem z0e {i j pos}:PE X (.Constant (.int i) j pos) (tC (.int i)):=λ _ _ _ H _ I h=>wpAny_Constant_int ⟨.int i,H,I.tok _,⟨_,rfl⟩,h⟩
theorem z4i {b j pos}:PE X (.Constant (.bool b) j pos) (tC (.bl b)):=λ _ _ _ H _ I h=>Constant_bool ⟨.bl b,H,I,rfl,h⟩
theorem z3h {j pos}:PE X (.Constant .none j pos) (tC .non):=λ _ _ _ H _ I h=>Constant_none ⟨.non,H,I,rfl,h⟩
theorem z0p {x j pos}:PE X (.Constant (.str x) j pos) (tC (.str x)):=λ _ _ _ H _ I h=>Calls.Constant_str ⟨.str x,H,I.tok _,⟨_,rfl⟩,h⟩
def Gl (X:Cx) (x:Str):Prop:=X.env.kindOf x=some .globalImplicit
theorem z2y {E:Value->Shared->Prop}{pins:List (Addr × Obj)}{s:Shared}{σ:St}{H:Hp}{x:Str}{u:Value}{pos:Pos}{Q:Value->Shared->Prop}(I:Inv X pins σ H s) (hg:Gl X x) (hm:X.mg x=some u) (h:Q u s)
  (hd:(x == ("__debug__" : Str))=false:=by decide):wpAny (model X.prog X.w) X.A (eval (.Name x pos) X.env) Q E s :=
 Calls.Name_function_global I.ok.kind hg (Calls.loadGlobal_global (by rw [I.ok.glob];exact I.mod.glob.keeps I.bk) hm h) hd
theorem z3p {E:Value->Shared->Prop}{pins:List (Addr × Obj)}{s:Shared}{σ:St}{H:Hp}{x:Str}{u:Value}{pos:Pos}{Q:Value->Shared->Prop}(I:Inv X pins σ H s) (hg:Gl X x) (hm:X.mg x=none) (hv:bootBuiltins x=some u) (h:Q u s)
  (hn:x ≠ "__name__" := by decide) (hd:(x == ("__debug__" : Str))=false:=by decide):wpAny (model X.prog X.w) X.A (eval (.Name x pos) X.env) Q E s:=by
 obtain ⟨mb,h1,h2⟩:=I.mod.blt
 exact Calls.Name_function_global I.ok.kind hg (Calls.loadGlobal_builtin (by rw [I.ok.glob];exact I.mod.glob.keeps I.bk) hm (by rw [I.ok.blt];exact h1.keeps I.bk) ((h2 x hn).trans hv) h) hd
theorem z3i {x:Str}{v:V}{u:Value}{pos:Pos}(hg:Gl X x) (hm:X.mg x=some u) (r:RelV v u) (hd:(x == ("__debug__" : Str))=false:=by decide):PE X (.Name x pos) (tC v) :=
 λ _ _ _ H _ I h=>z2y I hg hm ⟨v,H,I,r,h⟩ hd
theorem y3y {x:Str}{v:V}{u:Value}{pos:Pos}(hg:Gl X x) (hm:X.mg x=none) (hv:bootBuiltins x=some u) (r:RelV v u) (hn:x ≠ "__name__" := by decide) (hd:(x == ("__debug__" : Str))=false:=by decide):PE X (.Name x pos) (tC v) :=
 λ _ _ _ H _ I h=>z3p I hg hm hv ⟨v,H,I,r,h⟩ hn hd
variable {a b:Expr}{ta tb:TE}{pos:Pos}
def tB (t:TE):TT:=λ σ H Q=>t σ H λ x H1=>∃c,x=.bl c/\Q c H1
theorem z5d {e:Expr}{t:TE}(h:PE X e t) (he:∀whole,isTrue e X.env whole=(do let v ← whole;standAt e.pos;holding [v] (truthy v)):=by intro _;rfl):PT X e (tB t):=by
 intro pins s σ H Q I hw
 refine isTrue_plain (thn (h pins s σ H _ I hw) λ v s1 ⟨x,H1,I1,r1,q1⟩=>?_) (he _)
 obtain ⟨d,rfl,q⟩:=q1
 cases r1
 exact wpAny_truthy_bool ⟨H1,I1,q⟩
variable {tA tB':TT}{rest:List Expr}
def tAnd (t u:TT):TT:=λ σ H Q=>t σ H λ c H1=>if c=true then u σ H1 Q else Q false H1
def tOr (t u:TT):TT:=λ σ H Q=>t σ H λ c H1=>if c=true then Q true H1 else u σ H1 Q
def tNot (t:TT):TT:=λ σ H Q=>t σ H λ c H1=>Q (!c) H1
theorem z3q (ha:PT X a tA):PW X (.BoolOp .And [a] pos) tA:=by
 intro wh pins s σ H Q I h
 refine isTrue_and (thn (ha pins s σ H Q I h) λ c s1 e=>?_)
 cases c with
 | true=>exact isTrue_and_nil e
 | false=>exact e
theorem z3u (ha:PT X a tA):PW X (.BoolOp .Or [a] pos) tA:=by
 intro wh pins s σ H Q I h
 refine isTrue_or (thn (ha pins s σ H Q I h) λ c s1 e=>?_)
 cases c with
 | false=>exact isTrue_or_nil e
 | true=>exact e
theorem z5c (ha:PT X a tA) (hb:PW X (.BoolOp .And (b::rest) pos) tB'):PW X (.BoolOp .And (a::b::rest) pos) (tAnd tA tB'):=by
 intro wh pins s σ H Q I h
 refine isTrue_and (thn (ha pins s σ H _ I h) λ c s1 ⟨H1,I1,q1⟩=>?_)
 cases c with
 | true=>exact hb wh pins s1 σ H1 Q I1 q1
 | false=>exact ⟨H1,I1,q1⟩
theorem z5b (ha:PT X a tA) (hb:PW X (.BoolOp .Or (b::rest) pos) tB'):PW X (.BoolOp .Or (a::b::rest) pos) (tOr tA tB'):=by
 intro wh pins s σ H Q I h
 refine isTrue_or (thn (ha pins s σ H _ I h) λ c s1 ⟨H1,I1,q1⟩=>?_)
 cases c with
 | true=>exact ⟨H1,I1,q1⟩
 | false=>exact hb wh pins s1 σ H1 Q I1 q1
theorem y0v (ha:PT X a tA):PT X (.UnaryOp .Not a pos) (tNot tA):=by
 intro pins s σ H Q I h
 exact isTrue_not (ha pins s σ H (λ c H1=>Q (!c) H1) I h)
def tAndV (ta tb:TE):TE:=λ σ H Q=>ta σ H λ x H1=>∃c,x=.bl c/\if c=true then tb σ H1 Q else Q (.bl false) H1
def tOrV (ta tb:TE):TE:=λ σ H Q=>ta σ H λ x H1=>∃c,x=.bl c/\if c=true then Q (.bl true) H1 else tb σ H1 Q
def tNotV (ta:TE):TE:=λ σ H Q=>ta σ H λ x H1=>∃c,x=.bl c/\Q (.bl (!c)) H1
theorem y3x {op} {t:TE}(h:PE X a t):PE X (.BoolOp op [a] pos) t:=λ pins s σ H Q I hw=>BoolOp_one (h pins s σ H Q I hw)
theorem x2z (ha:PE X a ta) (hb:PE X (.BoolOp .And (b::rest) pos) tb):PE X (.BoolOp .And (a::b::rest) pos) (tAndV ta tb):=by
 intro pins s σ H Q I h
 refine BoolOp_and (thn (ha pins s σ H _ I h) λ v s1 ⟨x,H1,I1,r1,q1⟩=>?_)
 obtain ⟨c,rfl,q1⟩:=q1
 cases r1
 refine wpAny_truthy_bool ?_
 cases c with
 | true=>exact hb pins s1 σ H1 Q I1 q1
 | false=>exact ⟨.bl false,H1,I1,rfl,q1⟩
theorem x2w (ha:PE X a ta) (hb:PE X (.BoolOp .Or (b::rest) pos) tb):PE X (.BoolOp .Or (a::b::rest) pos) (tOrV ta tb):=by
 intro pins s σ H Q I h
 refine BoolOp_or (thn (ha pins s σ H _ I h) λ v s1 ⟨x,H1,I1,r1,q1⟩=>?_)
 obtain ⟨c,rfl,q1⟩:=q1
 cases r1
 refine wpAny_truthy_bool ?_
 cases c with
 | false=>exact hb pins s1 σ H1 Q I1 q1
 | true=>exact ⟨.bl true,H1,I1,rfl,q1⟩
theorem x2x (ha:PE X a ta):PE X (.UnaryOp .Not a pos) (tNotV ta):=by
 intro pins s σ H Q I h
 refine UnaryOp_ (thn (ha pins s σ H _ I h) λ v s1 ⟨x,H1,I1,r1,q1⟩=>?_)
 obtain ⟨c,rfl,q1⟩:=q1
 cases r1
 exact not_of (wpAny_truthy_bool ⟨.bl (!c),H1,I1,rfl,q1⟩)
def tIf (t:TT) (ta tb:TE):TE:=λ σ H Q=>t σ H λ c H1=>if c=true then ta σ H1 Q else tb σ H1 Q
theorem z3l {c:Expr}(hc:PT X c tA) (ha:PE X a ta) (hb:PE X b tb):PE X (.IfExp c a b pos) (tIf tA ta tb):=by
 intro pins s σ H Q I h
 refine wpAny_IfExp (thn (hc pins s σ H _ I h) λ d s1 ⟨H1,I1,q1⟩=>?_)
 cases d with
 | true=>exact ha pins s1 σ H1 Q I1 q1
 | false=>exact hb pins s1 σ H1 Q I1 q1
end
def SqL (K:W.Frag) (H:Hp) (a:Addr) (xs:List V):Prop :=
 Rd H a (.lst xs) \/
  ∃(o:Obj) (its:Array Value) (n:Nat),K.lookup a=some o/\o.cls=.type "list" /\ o.dict=none/\o.data=.seq its n/\its.size≤sizeLine/\Vals xs its.toList
def SqT (K:W.Frag) (H:Hp) (a:Addr) (xs:List V):Prop :=
 Rd H a (.tup xs) \/
  ∃(o:Obj) (its:Array Value) (n:Nat),K.lookup a=some o/\o.cls=.type "tuple" /\ o.data=.seq its n/\its.size≤sizeLine/\Vals xs its.toList
def absV:Value->Option V
 | .none=>some .non
 | .bool b=>some (.bl b)
 | .int i _=>some (.int i)
 | .str x _=>some (.str x)
 | .bytes b _=>some (.byt b)
 | .float b _=>some (.flt b)
 | .ref a=>some (.ref a)
 | .type n=>some (.ty n)
 | _=>none
theorem RelV.abs {x:V}{u:Value}(r:RelV x u):absV u=some x:=by
 cases x with
 | non=>cases r;rfl
 | bl _=>cases r;rfl
 | int _=>obtain ⟨t,rfl⟩:=r;rfl
 | str _=>obtain ⟨t,rfl⟩:=r;rfl
 | byt _=>obtain ⟨t,rfl⟩:=r;rfl
 | flt _=>obtain ⟨t,rfl⟩:=r;rfl
 | ref _=>cases r;rfl
 | ty _=>cases r;rfl
theorem RelV.inj {x y:V}{u:Value}(r:RelV x u) (q:RelV y u):x=y:=Option.some.inj (r.abs.symm.trans q.abs)
theorem Vals.inj:∀ {xs ys:List V}{us:List Value},Vals xs us->Vals ys us->xs=ys
 | _,_,_,.nil,.nil=>rfl
 | _,_,_,.cons r t,.cons r' t'=>by rw [r.inj r',Vals.inj t t']
section
variable {X:Cx}{pins:List (Addr × Obj)}{σ:St}{H:Hp}{s:Shared}{a:Addr}{xs ys:List V}
theorem SqL.of {K:W.Frag}(h:H a=some (.lst xs)):SqL K H a xs:=.inl (.inl h)
theorem SqT.of {K:W.Frag}(h:H a=some (.tup xs)):SqT K H a xs:=.inl (.inl h)
theorem Inv.list (I:Inv X pins σ H s) (h:SqL X.K H a xs):∃its:List Value,Vals xs its/\PlainL s.heap a its.toArray/\xs.length≤sizeLine:=by
 rcases h with h | ⟨o,its,n,hk,hc,hd,hs,hz,r⟩
 ·obtain ⟨z,its,n,r,e⟩:=h.ok I.hok
  exact ⟨its,r,⟨_,n,e,rfl,rfl,rfl⟩,z⟩
 ·refine ⟨its.toList,r,⟨o,n,I.kIn a o hk,hc,hd,by simpa using hs⟩,?_⟩
  have e:=r.length
  simp only [Array.length_toList] at e
  omega
theorem Inv.tuple (I:Inv X pins σ H s) (h:SqT X.K H a xs):∃its:List Value,Vals xs its/\IsTup s.heap a its.toArray/\xs.length≤sizeLine:=by
 rcases h with h | ⟨o,its,n,hk,hc,hs,hz,r⟩
 ·obtain ⟨z,its,r,p⟩:=h.ok I.hok
  exact ⟨its,r,p,z⟩
 ·refine ⟨its.toList,r,⟨o,I.kIn a o hk,hc,n,by simpa using hs⟩,?_⟩
  have e:=r.length
  simp only [Array.length_toList] at e
  omega
theorem Inv.list_inj (I:Inv X pins σ H s) (h:SqL X.K H a xs) (h':SqL X.K H a ys):xs=ys:=by
 obtain ⟨its,r,⟨o,n,e,_,_,d⟩,_⟩:=I.list h
 obtain ⟨its',r',⟨o',n',e',_,_,d'⟩,_⟩:=I.list h'
 rw [e] at e';cases e'
 rw [d] at d'
 injection d' with d1 _
 have:its=its':=by simpa using congrArg Array.toList d1
 subst this
 exact r.inj r'
theorem Inv.tuple_inj (I:Inv X pins σ H s) (h:SqT X.K H a xs) (h':SqT X.K H a ys):xs=ys:=by
 obtain ⟨its,r,⟨o,e,_,n,d⟩,_⟩:=I.tuple h
 obtain ⟨its',r',⟨o',e',_,n',d'⟩,_⟩:=I.tuple h'
 rw [e] at e';cases e'
 rw [d] at d'
 injection d' with d1 _
 have:its=its':=by simpa using congrArg Array.toList d1
 subst this
 exact r.inj r'
end
abbrev Cx.wish (X:Cx) (E:Value->Shared->Prop):Cx:={ X with xe:=E }
abbrev Cx.nox (X:Cx):Cx:=X.wish λ _ _=>False
theorem Cx.Ok.wish {X:Cx}(ok:X.Ok) (E:Value->Shared->Prop):(X.wish E).Ok :=
 ⟨ok.mod,ok.kind,ok.glob,ok.blt,ok.above,ok.inj,ok.has,ok.cab,ok.hd,ok.frames,ok.stk,ok.exf,ok.bs,ok.bsz,ok.noex,ok.exfs,ok.funs,ok.frf⟩
theorem Cx.Ok.unwish {X:Cx}{E:Value->Shared->Prop}(ok:(X.wish E).Ok):X.Ok :=
 ⟨ok.mod,ok.kind,ok.glob,ok.blt,ok.above,ok.inj,ok.has,ok.cab,ok.hd,ok.frames,ok.stk,ok.exf,ok.bs,ok.bsz,ok.noex,ok.exfs,ok.funs,ok.frf⟩
section
variable {X:Cx}{pins:List (Addr × Obj)}{σ:St}{H:Hp}{s:Shared}{E:Value->Shared->Prop}
theorem Inv.wish (I:Inv X pins σ H s) (E:Value->Shared->Prop):Inv (X.wish E) pins σ H s:=⟨I.ok.wish E,I.os,I.bare,I.base,I.loc,I.cell,I.free,I.freeC,I.pin,I.hok,I.len⟩
theorem Inv.unwish (I:Inv (X.wish E) pins σ H s):Inv X pins σ H s:=⟨I.ok.unwish,I.os,I.bare,I.base,I.loc,I.cell,I.free,I.freeC,I.pin,I.hok,I.len⟩
theorem SP.unwish {D:Ends}{f:Flow}{s':Shared}(h:SP (X.wish E) pins D f s'):SP X pins D f s':=by
 cases f with
 | next=>obtain ⟨σ',H',I,q⟩:=h;exact ⟨σ',H',I.unwish,q⟩
 | brk=>obtain ⟨σ',H',I,q⟩:=h;exact ⟨σ',H',I.unwish,q⟩
 | cont=>obtain ⟨σ',H',I,q⟩:=h;exact ⟨σ',H',I.unwish,q⟩
 | ret u=>obtain ⟨v,σ',H',I,r,q⟩:=h;exact ⟨v,σ',H',I.unwish,r,q⟩
theorem PSs.nox {st:List Stmt}{t:TS}(h:PSs X.nox st t):PSs X st t:=λ pins s σ H D I hw =>
 wpAny_mono (h pins s σ H D (I.wish _) hw) (λ _ _ q=>q.unwish) λ _ _ z=>False.elim z
end
section
variable {X:Cx}{st:Stmt}{rest:List Stmt}{t u:TS}{e:Expr}{te:TE}{pos:Pos}
def tNext:TS:=λ D σ H=>D.nx σ H
def tSeq (t u:TS):TS:=λ D σ H=>t { D with nx:=u D } σ H
theorem z0k:PSs X [] tNext:=λ _ _ σ H _ I h=>wpAny_execs_nil ⟨σ,H,I,h⟩
theorem z0d (h1:PS X st t) (h2:PSs X rest u):PSs X (st::rest) (tSeq t u):=by
 intro pins s σ H D I h
 refine wpAny_execs_cons (thn (h1 pins s σ H { D with nx:=u D } I h) λ f s1 q=>?_)
 cases f with
 | next =>
  obtain ⟨σ',H',I',q⟩:=q
  exact h2 pins s1 σ' H' D I' q
 | ret v=>exact q
 | brk=>exact q
 | cont=>exact q
theorem z0g (h1:PS X st t):PSs X [st] t:=by
 intro pins s σ H D I h
 refine wpAny_execs_cons (thn (h1 pins s σ H D I h) λ f s1 q=>?_)
 cases f with
 | next=>exact wpAny_execs_nil q
 | ret v=>exact q
 | brk=>exact q
 | cont=>exact q
theorem Inv.quiet {pins:List (Addr × Obj)}{σ:St}{H:Hp}{s:Shared}(I:Inv X pins σ H s):interactive X.env=false:=by simp [interactive,I.ok.kind]
def tDrop (te:TE):TS:=λ D σ H=>te σ H λ _ H1=>D.nx σ H1
theorem z1r (he:PE X e te) (hs:swapsWith e none pos.line X.env=pure false:=by rfl):PS X (.Expr e pos) (tDrop te):=by
 intro pins s σ H D I h
 exact wpAny_Expr_any (thn (he pins s σ H _ I h) λ v s1 ⟨x,H1,I1,r1,q1⟩=>⟨σ,H1,I1,q1⟩) I.quiet hs
def tRet (te:TE):TS:=λ D σ H=>te σ H D.rt
theorem z0l (he:PE X e te):PS X (.Return (some e) pos) (tRet te):=by
 intro pins s σ H D I h
 exact wpAny_Return_some (thn (he pins s σ H _ I h) λ v s1 ⟨x,H1,I1,r1,q1⟩=>⟨x,σ,H1,I1,r1,q1⟩)
def tRetN:TS:=λ D _ H=>D.rt .non H
def tIfS (c:TT) (t u:TS):TS:=λ D σ H=>c σ H λ b H1=>if b=true then t D σ H1 else u D σ H1
theorem z0z {c:Expr}{a b:List Stmt}{tc:TT}(hc:PT X c tc) (ha:PSs X a t) (hb:PSs X b u):PS X (.If c a b pos) (tIfS tc t u):=by
 intro pins s σ H D I h
 refine wpAny_If (thn (hc pins s σ H _ I h) λ d s1 ⟨H1,I1,q1⟩=>?_)
 cases d with
 | true=>exact ha pins s1 σ H1 D I1 q1
 | false=>exact hb pins s1 σ H1 D I1 q1
def tNever:TS:=λ _ _ _=>False
end
abbrev TG:=V->St->Hp->(St->Hp->Prop)->Prop
abbrev TGs:=List V->St->Hp->(St->Hp->Prop)->Prop
def PG (X:Cx) (target:Expr) (t:TG):Prop :=
 ∀(pins:List (Addr × Obj)) (s:Shared) (σ:St) (H:Hp) (v:V) (u:Value) (Q:St->Hp->Prop),Inv X pins σ H s->RelV v u->t v σ H Q ->
  wpAny (model X.prog X.w) X.A (assign target X.env u) (λ _ s'=>∃σ' H',Inv X pins σ' H' s'/\Q σ' H') X.xe s
def PGs (X:Cx) (ts:List Expr) (t:TGs):Prop :=
 ∀(pins:List (Addr × Obj)) (s:Shared) (σ:St) (H:Hp) (vs:List V) (us:List Value) (Q:St->Hp->Prop),Inv X pins σ H s->Vals vs us->t vs σ H Q ->
  wpAny (model X.prog X.w) X.A (assignInOrder ((assignEach ts X.env).map (·.2)) us) (λ _ s'=>∃σ' H',Inv X pins σ' H' s'/\Q σ' H') X.xe s
abbrev TSet:=V->V->V->Hp->(Hp->Prop)->Prop
def PSet (X:Cx) (t:TSet):Prop :=
 ∀(pins:List (Addr × Obj)) (s:Shared) (σ:St) (H:Hp) (o i v:V) (ov iv u:Value) (Q:Hp->Prop),Inv X pins σ H s->RelV o ov->RelV i iv->RelV v u->t o i v H Q ->
  wpAny (model X.prog X.w) X.A (setItem ov iv u) (λ _ s'=>∃H',Inv X pins σ H' s'/\Q H') X.xe s
section
variable {X:Cx}{pos:Pos}
def gName (i:Nat):TG:=λ v σ H Q=>Q (σ.set i (some v)) H
theorem z1d {i:Nat}{x:Str}(hN:X.N.Nodup) (hi:X.N[i]?=some x) (hx:Loc X.env.scope x) (hf:X.fn x=true\/X.env.scope.names.lookup x=some .local:=by first | exact .inl rfl | exact .inr rfl | assumption):PG X (.Name x pos) (gName i):=by
 intro pins s σ H v u Q I r h
 exact wpAny_assign_Name (z6l I hN hi hx r (λ s' I'=>⟨_,H,I',h⟩) hf)
def gNil:TGs:=λ vs σ H Q=>vs=[]/\Q σ H
def gCons (t:TG) (u:TGs):TGs:=λ vs σ H Q=>∃v r,vs=v::r/\t v σ H λ σ' H'=>u r σ' H' Q
theorem z6y:PGs X [] gNil:=by
 intro pins s σ H vs us Q I r h
 obtain ⟨e,h⟩:=h
 subst e
 cases r
 exact assignInOrder_nil ⟨σ,H,I,h⟩
theorem z2p {e:Expr}{es:List Expr}{t:TG}{u:TGs}(h1:PG X e t) (h2:PGs X es u)
  (hs:(assignEach (e::es) X.env).map (·.2)=assign e X.env::(assignEach es X.env).map (·.2):=by rfl):PGs X (e::es) (gCons t u):=by
 intro pins s σ H vs us Q I r h
 obtain ⟨v,vr,e1,h⟩:=h
 subst e1
 cases r with
 | cons r rr =>
  rw [hs]
  refine assignInOrder_cons (thn (h1 pins s σ H _ _ _ I r h) λ _ s1 ⟨σ1,H1,I1,q1⟩=>?_)
  exact h2 pins s1 σ1 H1 _ _ Q I1 rr q1
def gTup (K:W.Frag) (n:Nat) (t:TGs):TG:=λ v σ H Q=>∃a xs,v=.ref a/\SqT K H a xs/\xs.length=n/\t xs σ H Q
theorem y0w {es:List Expr}{k:Nat}{t:TGs}{n:Nat}(hc:X.calm=true) (h:PGs X es t)
  (hn:(assignEach es X.env).length=n:=by rfl) (hst:(assignEach es X.env).findIdx? (·.1)=none:=by rfl):PG X (.Tuple es k pos) (gTup X.K n t):=by
 intro pins s σ H v u Q I r hw
 obtain ⟨a,xs,e1,hq,hl,hw⟩:=hw
 subst e1
 cases r
 obtain ⟨its,rv,ht,hz⟩:=I.tuple hq
 refine assign_Tuple_tuple (I.ok.hd hc) ht (by simp [hn,← hl,rv.length]) hst λ h' hx=>?_
 have I1:Inv X pins σ H { s with heap:=h' }:=I.kept (t':=s.toks) λ b o e=>hx b o (Nat.ne_of_lt (Heap.lt_size e)) e
 exact h pins _ σ H xs _ Q I1 (by simpa using rv) hw
def gSub (to ti:TE) (t:TSet):TG:=λ v σ H Q=>to σ H λ o H1=>ti σ H1 λ i H2=>t o i v H2 λ H3=>Q σ H3
theorem x2u {o i:Expr}{to ti:TE}{t:TSet}(ho:PE X o to) (hi:PE X i ti) (hs:PSet X t)
  (ha:∀v,assign (.Subscript o i pos) X.env v=(do
   let ov ← holding [v] (eval o X.env)
   let iv ← holding [v,ov] (eval i X.env)
   standAt pos
   holding [v,ov,iv] (setItem ov iv v)
   release [v,ov,iv] []):=by intro _;rfl):PG X (.Subscript o i pos) (gSub to ti t):=by
 intro pins s σ H v u Q I r h
 rw [ha]
 refine wpAny_bind (wpAny_holding (thn (ho pins s σ H _ I h) λ ov s1 ⟨x,H1,I1,r1,q1⟩=>?_))
 refine wpAny_bind (wpAny_holding (thn (hi pins s1 σ H1 _ I1 q1) λ iv s2 ⟨y,H2,I2,r2,q2⟩=>?_))
 refine wpAny_bind (wpAny_standAt (wpAny_bind (wpAny_holding (thn (hs pins s2 σ H2 x y v ov iv u _ I2 r1 r2 r q2) λ _ s3 ⟨H3,I3,q3⟩=>?_))))
 exact wpAny_release ⟨σ,H3,I3,q3⟩
def tAsg (te:TE) (g:TG):TS:=λ D σ H=>te σ H λ x H1=>g x σ H1 D.nx
theorem y9l {tg e:Expr}{te:TE}{g:TG}(he:PE X e te) (hg:PG X tg g) (hs:swapsWithSole [tg] e pos.line X.env=pure false:=by rfl) (hw:swappedStores [tg] e X.env=pure none:=by rfl)
  (h1:(assignEach [tg] X.env).map (·.2)=[assign tg X.env]:=by rfl):PS X (.Assign [tg] e pos) (tAsg te g):=by
 intro pins s σ H D I h
 refine wpAny_Assign_stores (thn (he pins s σ H _ I h) λ v s1 ⟨x,H1,I1,r1,q1⟩=>?_) hs hw
 rw [h1]
 exact thn (hg pins s1 σ H1 x v _ I1 r1 q1) λ _ s2 q=>q
theorem z0x {i:Nat}{x:Str}{e:Expr}{te:TE}{pos':Pos}(hN:X.N.Nodup) (hi:X.N[i]?=some x) (hx:Loc X.env.scope x) (he:PE X e te) (hs:swapsWith e (some (.Name x pos')) pos.line X.env=pure false:=by rfl) (hf:X.fn x=true\/X.env.scope.names.lookup x=some .local:=by first | exact .inl rfl | exact .inr rfl | assumption) :
  PS X (.Assign [.Name x pos'] e pos) (tAsg te (gName i)):=by
 intro pins s σ H D I h
 refine wpAny_Assign_Name (thn (he pins s σ H _ I h) λ v s1 ⟨y,H1,I1,r1,q1⟩=>?_) hs
 exact z6l I1 hN hi hx r1 (λ s2 I2=>⟨_,H1,I2,q1⟩) hf
end
section
variable {X:Cx}{pos:Pos}
end
structure It where
 go:Nat->Hp->Prop
 yld:Nat->Hp->V->Hp->Prop
 stop:Nat->Hp->Prop
def FpOk (X:Cx) (pins:List (Addr × Obj)) (H:Hp) (b:Addr):Prop :=
 H b=none/\b≠X.env.locals/\b ∉ X.fs/\(b∈X.ex\/X.s₀.heap.objs.size≤b)/\(∀x c,X.env.cells.lookup x=some c->c≠b)/\∀p∈X.pn++pins,p.1≠b
theorem Inv.fpOk {X:Cx}{pins:List (Addr × Obj)}{σ:St}{H H':Hp}{s:Shared}{b:Addr}(I:Inv X pins σ H s) (hb:s.heap.objs.size≤b) (hn:H' b=none):FpOk X pins H' b:=by
 refine ⟨hn,Nat.ne_of_gt (Nat.lt_of_lt_of_le I.lt hb),I.nofs hb,.inr (Nat.le_trans I.sz hb),λ x c e z=>?_,λ p hp z=>?_⟩
 ·obtain ⟨v,q⟩:=I.cell x c e
  exact absurd (Nat.lt_of_lt_of_le q.lt (by rw [z];exact hb)) (Nat.lt_irrefl _)
 ·exact absurd (Nat.lt_of_lt_of_le (Heap.lt_size (I.pin p hp).1) (by rw [z];exact hb)) (Nat.lt_irrefl _)
structure Turn (P:Program) (w:World) (K:W.Frag) (tg:Expr) (J:It) (fp:List Addr) (it:Addr) (tn:Nat->Heap->Prop):Prop where
 mem:it∈fp
 obj:∀i h,tn i h->∀b∈fp,∃o,h.get? b=some o/\∀v,o.data≠.cell v
 keep:∀i h h',tn i h->(∀b∈fp,∀o,h.get? b=some o->h'.get? b=some o)->tn i h'
 item:∀(X:Cx),X.prog=P->X.w=w->X.K=K->X.calm=true->∀(i:Nat) (pins:List (Addr × Obj)) (s:Shared) (σ:St) (H:Hp) (E:Value->Shared->Prop),Inv X pins σ H s->(∀b∈fp,FpOk X pins H b)->tn i s.heap->J.go i H ->
  wpAny (model P w) X.A (pyNext (.ref it)) (λ r s1=>∃u,r=some u /\
   wpAny (model P w) X.A (letOwnedTupleGo tg (.ref it) u) (λ _ s2=>∃x H',Inv X pins σ H' s2/\RelV x u/\J.yld i H x H'/\tn (i+1) s2.heap/\∀b∈fp,H' b=none) E s1) E s
 done:∀(X:Cx),X.prog=P->X.w=w->X.K=K->X.calm=true->∀(i:Nat) (pins:List (Addr × Obj)) (s:Shared) (σ:St) (H:Hp) (E:Value->Shared->Prop),Inv X pins σ H s->(∀b∈fp,FpOk X pins H b)->tn i s.heap->J.stop i H ->
  wpAny (model P w) X.A (pyNext (.ref it)) (λ r s1=>r=none/\Inv X pins σ H s1) E s
 self:∀(A:Around) (i:Nat) (s:Shared) (Q:Value->Shared->Prop) (E:Value->Shared->Prop),tn i s.heap->Q (.ref it) s->wpAny (model P w) A (pyIter (.ref it)) Q E s
abbrev TI:=St->Hp->(It->Hp->Prop)->Prop
def PIE (X:Cx) (pins:List (Addr × Obj)) (σ:St) (tg:Expr) (R:It->Hp->Prop) (itv:Value) (s2:Shared):Prop :=
 ∃(it:Addr) (fp:List Addr) (tn:Nat->Heap->Prop) (J:It) (H':Hp),itv=.ref it/\Inv X pins σ H' s2/\Turn X.prog X.w X.K tg J fp it tn/\tn 0 s2.heap/\(∀b∈fp,FpOk X pins H' b)/\R J H'
def PI (X:Cx) (tg iter:Expr) (wi:TI):Prop :=
 ∀(pins:List (Addr × Obj)) (s:Shared) (σ:St) (H:Hp) (R:It->Hp->Prop),Inv X pins σ H s->wi σ H R ->
  wpAny (model X.prog X.w) X.A (eval iter X.env) (λ v s1=>wpAny (model X.prog X.w) X.A (pyIter v) (PIE X pins σ tg R) X.xe s1) X.xe s
theorem y8h {M:Model}{A:Around}{E:Value->Shared->Prop}{s:Shared}{tg:Expr}{it:Addr}{u:Value}{o:Obj}{n:String}{vs:Array Value}{Q:Unit->Shared->Prop}(ho:s.heap.get? it=some o) (hc:o.cls=.type n) (hd:o.data=.fields vs)
    (hn:["enumerate", "zip", "dict_itemiterator", "dict_reverseitemiterator", "odict_iterator", "itertools.zip_longest", "itertools.pairwise"].contains n=false) (hQ:Q () s):wpAny M A (letOwnedTupleGo tg (.ref it) u) Q E s:=by
  unfold letOwnedTupleGo
  cases tg<;>first
    | exact wpAny_pure hQ
    | (cases u<;>first
        | exact wpAny_pure hQ
        | (refine wpAny_bind (wpAny_load ho ?_)
           rw [hc,hd]
           show wpAny M A (if (["enumerate", "zip", "dict_itemiterator", "dict_reverseitemiterator", "odict_iterator", "itertools.zip_longest", "itertools.pairwise"].contains n && vs[0]? == some (rawInt _))=true then _ else _) Q E s
           rw [if_neg (by intro h;rw [hn,Bool.false_and] at h;cases h)]
           exact wpAny_pure hQ))
def Itl (K:W.Frag) (a:Addr):It :=
 ⟨λ i H=>∃xs x,SqL K H a xs/\xs[i]?=some x,λ i H x H'=>H'=H/\∀xs,SqL K H a xs->xs[i]?=some x,λ i H=>∃xs,SqL K H a xs/\xs.length≤i⟩
def Itt (K:W.Frag) (a:Addr):It :=
 ⟨λ i H=>∃xs x,SqT K H a xs/\xs[i]?=some x,λ i H x H'=>H'=H/\∀xs,SqT K H a xs->xs[i]?=some x,λ i H=>∃xs,SqT K H a xs/\xs.length≤i⟩
def Itr (lo:Int) (n:Nat):It:=⟨λ i _=>i < n,λ i H x H'=>H'=H/\x=.int (lo+i),λ i _=>n≤i⟩
theorem z7q {P:Program}{w:World}{K:W.Frag}{tg:Expr}(a it:Addr):Turn P w K tg (Itl K a) [it] it (λ i h=>h.IsListIter it a i) where
 mem:=by simp
 obj:=λ i h st b hb=>by
  have e:b=it:=by simpa using hb
  subst e
  obtain ⟨o,e,c,d⟩:=st
  exact ⟨o,e,λ v z=>by rw [d] at z;cases z⟩
 keep:=λ i h h' st k=>st.at λ o e=>k it (by simp) o e
 item:=by
  intro X hP hw hK hc i pins s σ H E I hf st hg
  subst hP hw hK
  obtain ⟨xs,x,hq,hx⟩:=hg
  obtain ⟨its,rv,p,hz⟩:=I.list hq
  obtain ⟨u,hu,ru⟩:=rv.get hx
  obtain ⟨f0,f1,f2,f3,f4,f5⟩:=hf it (by simp)
  refine wpAny_pyNext_list_item st p.isList (x:=u) (by simpa using hu) λ h' st' sb=>?_
  have I1:Inv X pins σ H { s with heap:=h' }:=I.turned (t':=s.toks) (λ b o hb e=>(sb.2 b hb).trans e) f0 f1 f3 f4 f5
  obtain ⟨o,e,c,d⟩:=id st'
  exact ⟨u,rfl,y8h (s:={ s with heap:=h' }) e c d (by decide) ⟨x,H,I1,ru,⟨rfl,λ ys hy=>by rw [I.list_inj hy hq];exact hx⟩,st',λ b hb=>(hf b hb).1⟩⟩
 done:=by
  intro X hP hw hK hc i pins s σ H E I hf st hg
  subst hP hw hK
  obtain ⟨xs,hq,hx⟩:=hg
  obtain ⟨its,rv,p,hz⟩:=I.list hq
  obtain ⟨f0,f1,f2,f3,f4,f5⟩:=hf it (by simp)
  have hl:=rv.length
  exact wpAny_pyNext_list_end (I.ok.hd hc) st p.isList (by simp;omega) λ h' eb=>⟨rfl,I.turned (t':=s.toks) (λ b o hb e=>eb b o hb e) f0 f1 f3 f4 f5⟩
 self:=λ _ _ _ _ _ st h=>wpAny_pyIter_listiter st h
theorem z6a {P:Program}{w:World}{K:W.Frag}{tg:Expr}(a it:Addr):Turn P w K tg (Itt K a) [it] it (λ i h=>h.IsTupleIter it a i) where
 mem:=by simp
 obj:=λ i h st b hb=>by
  have e:b=it:=by simpa using hb
  subst e
  obtain ⟨o,e,c,d⟩:=st
  exact ⟨o,e,λ v z=>by rw [d] at z;cases z⟩
 keep:=λ i h h' st k=>st.at λ o e=>k it (by simp) o e
 item:=by
  intro X hP hw hK hc i pins s σ H E I hf st hg
  subst hP hw hK
  obtain ⟨xs,x,hq,hx⟩:=hg
  obtain ⟨its,rv,p,hz⟩:=I.tuple hq
  obtain ⟨u,hu,ru⟩:=rv.get hx
  obtain ⟨f0,f1,f2,f3,f4,f5⟩:=hf it (by simp)
  refine wpAny_pyNext_tuple_item st (show s.heap.IsTuple a its.toArray from p) (x:=u) (by simpa using hu) λ h' st' sb=>?_
  have I1:Inv X pins σ H { s with heap:=h' }:=I.turned (t':=s.toks) (λ b o hb e=>(sb.2 b hb).trans e) f0 f1 f3 f4 f5
  obtain ⟨o,e,c,d⟩:=id st'
  exact ⟨u,rfl,y8h (s:={ s with heap:=h' }) e c d (by decide) ⟨x,H,I1,ru,⟨rfl,λ ys hy=>by rw [I.tuple_inj hy hq];exact hx⟩,st',λ b hb=>(hf b hb).1⟩⟩
 done:=by
  intro X hP hw hK hc i pins s σ H E I hf st hg
  subst hP hw hK
  obtain ⟨xs,hq,hx⟩:=hg
  obtain ⟨its,rv,p,hz⟩:=I.tuple hq
  obtain ⟨f0,f1,f2,f3,f4,f5⟩:=hf it (by simp)
  have hl:=rv.length
  exact wpAny_pyNext_tuple_end (I.ok.hd hc) st (show s.heap.IsTuple a its.toArray from p) (by simp;omega) λ h' eb=>⟨rfl,I.turned (t':=s.toks) (λ b o hb e=>eb b o hb e) f0 f1 f3 f4 f5⟩
 self:=λ _ _ _ _ _ st h=>wpAny_pyIter_tupleiter st h
theorem y1n {P:Program}{w:World}{K:PySem.W.Frag}{tg:Expr}(it:Addr) (lo:Int) (n:Nat):Turn P w K tg (Itr lo n) [it] it (λ i h=>IsRangeIter h it (lo+(i:Nat) * 1) ((n:Int) - (i:Nat)) 1) where
 mem:=by simp
 obj:=λ i h st b hb=>by
  have e:b=it:=by simpa using hb
  subst e
  exact ⟨_,st,λ v z=>by
   have z':Data.fields _=Data.cell v:=z
   cases z'⟩
 keep:=λ i h h' st k=>k it (by simp) _ st
 item:=by
  intro X hP hw hK hc i pins s σ H E I hf st hg
  subst hP hw hK
  obtain ⟨f0,f1,f2,f3,f4,f5⟩:=hf it (by simp)
  have W:=Walks.range (prog:=X.prog) (w:=X.w) (I.ok.hd hc) it lo 1 n
  refine W.item i s _ _ hg st λ v h' tk hv st' kk=>?_
  obtain ⟨t,rfl⟩:=hv
  have I1:Inv X pins σ H { s with heap:=h',toks:=tk }:=I.turned (λ b o hb e=>kk b o (by simpa using hb) e) f0 f1 f3 f4 f5
  refine ⟨_,rfl,y8h (s:={ s with heap:=h',toks:=tk }) (n := "range_iterator") st' rfl rfl (by decide) ⟨.int (lo+i),H,I1,⟨t,?_⟩,⟨rfl,rfl⟩,st',λ b hb=>(hf b hb).1⟩⟩
  rw [Int.mul_one]
 done:=by
  intro X hP hw hK hc i pins s σ H E I hf st hg
  subst hP hw hK
  obtain ⟨f0,f1,f2,f3,f4,f5⟩:=hf it (by simp)
  exact wpAny_pyNext_range_end (I.ok.hd hc) st (by have:n≤i:=hg;omega) λ h' eb=>⟨rfl,I.turned (t':=s.toks) (λ b o hb e=>eb b o hb e) f0 f1 f3 f4 f5⟩
 self:=λ _ _ _ _ _ st h=>wpAny_pyIter_rangeiter st h
section
variable {X:Cx}{tg:Expr}
def iList (K:W.Frag) (tl:TE):TI:=λ σ H R=>tl σ H λ x H1=>∃a,x=.ref a/\(∃xs,SqL K H1 a xs)/\R (Itl K a) H1
def iTup (K:W.Frag) (tl:TE):TI:=λ σ H R=>tl σ H λ x H1=>∃a,x=.ref a/\(∃xs,SqT K H1 a xs)/\R (Itt K a) H1
theorem z2s {l:Expr}{tl:TE}(hl:PE X l tl):PI X tg l (iList X.K tl):=by
 intro pins s σ H R I h
 refine thn (hl pins s σ H _ I h) λ v s1 ⟨x,H1,I1,r1,q1⟩=>?_
 obtain ⟨a,e,⟨xs,hq⟩,q⟩:=q1
 subst e
 cases r1
 obtain ⟨its,rv,p,hz⟩:=I1.list hq
 refine wpAny_pyIter_list p.isList ?_
 refine ⟨s1.heap.objs.size,[s1.heap.objs.size],_,_,H1,rfl,I1.kept (t':=s1.toks) λ b o e=>Heap.get?_push_of_some _ e,z7q a _,⟨_,Heap.get?_push_size _ rfl,rfl,rfl⟩,λ b hb=>?_,q⟩
 have e:b=s1.heap.objs.size:=by simpa using hb
 subst e
 exact I1.fpOk (Nat.le_refl _) (I1.hok.fresh (Nat.le_refl _))
theorem z3y {l:Expr}{tl:TE}(hl:PE X l tl):PI X tg l (iTup X.K tl):=by
 intro pins s σ H R I h
 refine thn (hl pins s σ H _ I h) λ v s1 ⟨x,H1,I1,r1,q1⟩=>?_
 obtain ⟨a,e,⟨xs,hq⟩,q⟩:=q1
 subst e
 cases r1
 obtain ⟨its,rv,p,hz⟩:=I1.tuple hq
 refine wpAny_pyIter_tuple (show s1.heap.IsTuple a its.toArray from p) ?_
 refine ⟨s1.heap.objs.size,[s1.heap.objs.size],_,_,H1,rfl,I1.kept (t':=s1.toks) λ b o e=>Heap.get?_push_of_some _ e,z6a a _,⟨_,Heap.get?_push_size _ rfl,rfl,rfl⟩,λ b hb=>?_,q⟩
 have e:b=s1.heap.objs.size:=by simpa using hb
 subst e
 exact I1.fpOk (Nat.le_refl _) (I1.hok.fresh (Nat.le_refl _))
theorem y7f {pins:List (Addr × Obj)}{σ:St}{H:Hp}{s:Shared}{R:It->Hp->Prop}{E:Value->Shared->Prop}{lo hi:Int}{t u v:Tok}{tk:Nat}(I:Inv X pins σ H s) (h1:-(2 ^ 62)≤lo) (h2:lo < 2 ^ 62) (h3:-(2 ^ 62)≤hi) (h4:hi < 2 ^ 62)
  (q:R (Itr lo (hi - lo).toNat) H):wpAny (model X.prog X.w) X.A (pyIter (.ref s.heap.objs.size)) (PIE X pins σ tg R) E { s with heap:=s.heap.push { cls:=.type "range",data:=.fields #[.int lo t,.int hi u,.int 1 v] },toks:=tk }:=by
 refine wpAny_pyIter_range (IsRange.new ..) (small_one h1 h2 h3 h4) ?_
 have I1:Inv X pins σ H { s with heap:=s.heap.push { cls:=.type "range",data:=.fields #[.int lo t,.int hi u,.int 1 v] },toks:=tk }:=I.kept λ b o e=>Heap.get?_push_of_some _ e
 refine ⟨(s.heap.push { cls:=.type "range",data:=.fields #[.int lo t,.int hi u,.int 1 v] }).objs.size,[(s.heap.push { cls:=.type "range",data:=.fields #[.int lo t,.int hi u,.int 1 v] }).objs.size],_,_,H,rfl,
  I1.kept (t':=tk) λ b o e=>Heap.get?_push_of_some _ e,y1n _ lo (hi - lo).toNat,?_,λ b hb=>?_,q⟩
 ·have e1:lo+((0:Nat):Int) * 1=lo:=by simp
  have e2:(((hi - lo).toNat:Nat):Int) - ((0:Nat):Int)=Builtin.Range.rangeSize lo hi 1:=by rw [rangeSize_one];split<;>omega
  show IsRangeIter _ _ (lo+((0:Nat):Int) * 1) ((((hi - lo).toNat:Nat):Int) - ((0:Nat):Int)) 1
  rw [e1,e2]
  exact Heap.get?_push_size _ rfl
 ·have e:b=(s.heap.push { cls:=.type "range",data:=.fields #[.int lo t,.int hi u,.int 1 v] }).objs.size:=by simpa using hb
  subst e
  exact I1.fpOk (Nat.le_refl _) (I1.hok.fresh (Nat.le_refl _))
def iRng1 (ta:TA):TI:=λ σ H R=>ta σ H λ vs H1=>∃j:Int,vs=[.int j]/\-(2 ^ 62)≤j/\j < 2 ^ 62/\R (Itr 0 j.toNat) H1
def iRng2 (ta:TA):TI:=λ σ H R=>ta σ H λ vs H1=>∃i j:Int,vs=[.int i,.int j]/\(-(2 ^ 62)≤i/\i < 2 ^ 62/\-(2 ^ 62)≤j/\j < 2 ^ 62)/\R (Itr i (j - i).toNat) H1
theorem z3a {a:Expr}{ta:TA}{p pos:Pos}(hg:Gl X "range") (hm:X.mg "range" = none) (ha:PA X [a] ta) (hs:starEach [a] X.env=[(false,eval a X.env)]:=by rfl):PI X tg (.Call (.Name "range" p) [a] [] pos) (iRng1 ta):=by
 intro pins s σ H R I h
 refine Call_ (z3p I hg hm boot_range (PyProof.Rows.callWith_type1 (thn (ha pos pins s σ H _ I h) λ us s1 ⟨vs,H1,I1,r1,q1⟩=>?_) hs rfl))
 obtain ⟨j,e,q1,q2,q⟩:=q1
 subst e
 cases r1 with
 | cons r rr =>
  cases rr
  obtain ⟨t,rfl⟩:=r
  exact call_range_1 (y7f I1 (by omega) (by omega) q1 q2 (by simpa using q))
def tFor (wi:TI) (g:TG) (tb:TS):TS:=λ D σ H=>wi σ H λ J H1=>∃W:Nat->Nat->St->Hp->Prop,(∃m,W 0 m σ H1)/\∀i m σ H,W i m σ H ->
 (J.stop i H/\D.nx σ H)\/(J.go i H/\∃N:St->Hp->Prop,(∀σ' H',N σ' H'->∃m',m' < m/\W (i+1) m' σ' H')/\∀x H',J.yld i H x H'->g x σ H' λ σ2 H2=>tb { D with nx:=N,ct:=N,bk:=D.nx } σ2 H2)
def pinsAt (fp:List Addr) (h:Heap):List (Addr × Obj):=fp.filterMap λ b=>(h.get? b).map λ o=>(b,o)
theorem z2e {fp:List Addr}{h:Heap}{b:Addr}{o:Obj}(hb:b∈fp) (e:h.get? b=some o):(b,o)∈pinsAt fp h:=List.mem_filterMap.mpr ⟨b,hb,by rw [e];rfl⟩
theorem y4w {fp:List Addr}{h:Heap}{p:Addr × Obj}(hp:p∈pinsAt fp h):p.1∈fp/\h.get? p.1=some p.2:=by
 obtain ⟨b,hb,e⟩:=List.mem_filterMap.mp hp
 cases q:h.get? b with
 | none=>rw [q] at e;cases e
 | some o =>
  rw [q] at e
  have e':(b,o)=p:=Option.some.inj e
  subst e'
  exact ⟨hb,q⟩
theorem Inv.pinned {pins:List (Addr × Obj)}{σ:St}{H:Hp}{s:Shared}{fp:List Addr}(I:Inv X pins σ H s) (hf:∀b∈fp,FpOk X pins H b) (ho:∀b∈fp,∃o,s.heap.get? b=some o/\∀v,o.data≠.cell v):Inv X (pins++pinsAt fp s.heap) σ H s :=
 I.pins_of λ p hp=>(List.mem_append.mp hp).elim (λ z=>I.pin p (List.mem_append_right _ z)) λ z=>by
  obtain ⟨hb,e⟩:=y4w z
  obtain ⟨f0,f1,f2,_⟩:=hf p.1 hb
  obtain ⟨o,e',d⟩:=ho p.1 hb
  rw [e] at e';cases e'
  exact ⟨e,f0,f1,f2,d⟩
theorem Inv.unpinned {pins pl:List (Addr × Obj)}{σ:St}{H:Hp}{s:Shared}(I:Inv X (pins++pl) σ H s):Inv X pins σ H s:=I.pins_of λ p hp=>I.pin p (List.mem_append_right _ (List.mem_append_left _ hp))
theorem z3g {iter:Expr}{body:List Stmt}{wi:TI}{g:TG}{tb:TS}{pos:Pos}(hp:PassesOwn (model X.prog X.w) X.A X.env X.xe) (hc:X.calm=true) (hi:PI X tg iter wi) (hg:PG X tg g) (hb:PSs X body tb)
  (hs:∀x,foldedSetIterable iter X.env x=pure x:=by intro _;rfl):PS X (.For tg iter body [] pos) (tFor wi g tb):=by
 intro pins s σ H D I h
 refine wpAny_For (thn (hi pins s σ H _ I h) λ v s1 h1=>thn h1 λ itv s2 h2=>?_) hs
 obtain ⟨it,fp,tn,J,H2,e,I2,T,st2,f2,W,⟨m0,w0⟩,turn⟩:=h2
 subst e
 have stat:∀ {H':Hp},(∀b∈fp,H' b=none)->∀b∈fp,FpOk X pins H' b:=λ hn b hb=>⟨hn b hb,(f2 b hb).2⟩
 refine codeAny_forLoop_any (λ n s'=>∃i σ' H',Inv X pins σ' H' s'/\tn i s'.heap/\(∀b∈fp,H' b=none)/\W i n σ' H') ?_ m0 ⟨0,σ,H2,I2,st2,λ b hb=>(f2 b hb).1,w0⟩
 rintro n s3 ⟨i,σ3,H3,I3,st3,fr3,w3⟩
 rcases turn i n σ3 H3 w3 with ⟨stop,qn⟩ | ⟨go,N,hN,step⟩
 ·refine wpAny_passesOwn hp (thn (T.done X rfl rfl rfl hc i pins s3 σ3 H3 X.xe I3 (stat fr3) st3 stop) λ r s4 ⟨hr,I4⟩=>?_)
  subst hr
  exact wpAny_execs_nil ⟨σ3,H3,I4,qn⟩
 ·refine wpAny_passesOwn hp (thn (T.item X rfl rfl rfl hc i pins s3 σ3 H3 X.xe I3 (stat fr3) st3 go) λ r s4 ⟨u,hr,h4⟩=>?_)
  subst hr
  refine wpAny_passesOwn hp (thn h4 λ _ s5 ⟨x,H5,I5,r5,y5,st5,fr5⟩=>?_)
  have I5':=I5.pinned (stat fr5) (T.obj _ _ st5)
  refine wpAny_passesOwn hp (thn (hg _ s5 σ3 H5 x u _ I5' r5 (step x H5 y5)) λ _ s6 ⟨σ6,H6,I6,q6⟩=>?_)
  refine wpAny_passesOwn hp (thn (hb _ s6 σ6 H6 _ I6 q6) λ f s7 q7=>?_)
  have again:∀ {σ7:St}{H7:Hp},Inv X (pins++pinsAt fp s5.heap) σ7 H7 s7->N σ7 H7->∃m,m < n/\∃i σ' H',Inv X pins σ' H' s7/\tn i s7.heap/\(∀b∈fp,H' b=none)/\W i m σ' H':=λ {σ7 H7} I7 n7=>by
   obtain ⟨m',hm,w7⟩:=hN σ7 H7 n7
   refine ⟨m',hm,i+1,σ7,H7,I7.unpinned,T.keep _ _ _ st5 λ b hb o e=>(I7.pin (b,o) (List.mem_append_right _ (List.mem_append_right _ (z2e hb e)))).1,λ b hb=>?_,w7⟩
   obtain ⟨o,e,d⟩:=T.obj _ _ st5 b hb
   exact (I7.pin (b,o) (List.mem_append_right _ (List.mem_append_right _ (z2e hb e)))).2.1
  cases f with
  | next=>obtain ⟨σ7,H7,I7,n7⟩:=q7;exact again I7 n7
  | cont=>obtain ⟨σ7,H7,I7,n7⟩:=q7;exact again I7 n7
  | brk=>obtain ⟨σ7,H7,I7,q7⟩:=q7;exact ⟨σ7,H7,I7.unpinned,q7⟩
  | ret v=>obtain ⟨x7,σ7,H7,I7,r7,q7⟩:=q7;exact ⟨x7,σ7,H7,I7.unpinned,r7,q7⟩
end
theorem y8j {K:PySem.W.Frag}{a:Addr}{xs:List V}{g:TG}{tb:TS}{D:Ends}{σ:St}{H:Hp}(Pv:Nat->St->Hp->Prop) (h0:Pv 0 σ H) (hl:∀i σ H,i≤xs.length->Pv i σ H->SqL K H a xs)
  (hs:∀i x σ H,xs[i]?=some x->Pv i σ H->g x σ H λ σ2 H2=>tb { D with nx:=Pv (i+1),ct:=Pv (i+1),bk:=D.nx } σ2 H2) (hd:∀σ H,Pv xs.length σ H->D.nx σ H) :
  ∃W:Nat->Nat->St->Hp->Prop,(∃m,W 0 m σ H)/\∀i m σ H,W i m σ H ->
   ((Itl K a).stop i H/\D.nx σ H)\/((Itl K a).go i H/\∃N:St->Hp->Prop,(∀σ' H',N σ' H'->∃m',m' < m/\W (i+1) m' σ' H')/\∀x H',(Itl K a).yld i H x H'->g x σ H' λ σ2 H2=>tb { D with nx:=N,ct:=N,bk:=D.nx } σ2 H2):=by
 refine ⟨λ i m σ H=>m=xs.length - i/\i≤xs.length/\Pv i σ H,⟨xs.length,by simp,Nat.zero_le _,h0⟩,?_⟩
 rintro i m σ H ⟨rfl,hi,p⟩
 have q:=hl i σ H hi p
 by_cases hlt:i < xs.length
 ·refine .inr ⟨⟨xs,xs[i],q,by simp [hlt]⟩,Pv (i+1),λ σ' H' p'=>⟨xs.length - (i+1),by omega,rfl,hlt,p'⟩,λ x H' y=>?_⟩
  obtain ⟨e,y⟩:=y
  subst e
  exact hs i x σ _ (y xs q) p
 ·have e:i=xs.length:=by omega
  subst e
  exact .inl ⟨⟨xs,q,Nat.le_refl _⟩,hd σ H p⟩
theorem x1o {K:PySem.W.Frag}{a:Addr}{xs:List V}{g:TG}{tb:TS}{D:Ends}{σ:St}{H:Hp}(Pv:Nat->St->Hp->Prop) (h0:Pv 0 σ H) (hl:∀i σ H,i≤xs.length->Pv i σ H->SqT K H a xs)
  (hs:∀i x σ H,xs[i]?=some x->Pv i σ H->g x σ H λ σ2 H2=>tb { D with nx:=Pv (i+1),ct:=Pv (i+1),bk:=D.nx } σ2 H2) (hd:∀σ H,Pv xs.length σ H->D.nx σ H) :
  ∃W:Nat->Nat->St->Hp->Prop,(∃m,W 0 m σ H)/\∀i m σ H,W i m σ H ->
   ((Itt K a).stop i H/\D.nx σ H)\/((Itt K a).go i H/\∃N:St->Hp->Prop,(∀σ' H',N σ' H'->∃m',m' < m/\W (i+1) m' σ' H')/\∀x H',(Itt K a).yld i H x H'->g x σ H' λ σ2 H2=>tb { D with nx:=N,ct:=N,bk:=D.nx } σ2 H2):=by
 refine ⟨λ i m σ H=>m=xs.length - i/\i≤xs.length/\Pv i σ H,⟨xs.length,by simp,Nat.zero_le _,h0⟩,?_⟩
 rintro i m σ H ⟨rfl,hi,p⟩
 have q:=hl i σ H hi p
 by_cases hlt:i < xs.length
 ·refine .inr ⟨⟨xs,xs[i],q,by simp [hlt]⟩,Pv (i+1),λ σ' H' p'=>⟨xs.length - (i+1),by omega,rfl,hlt,p'⟩,λ x H' y=>?_⟩
  obtain ⟨e,y⟩:=y
  subst e
  exact hs i x σ _ (y xs q) p
 ·have e:i=xs.length:=by omega
  subst e
  exact .inl ⟨⟨xs,q,Nat.le_refl _⟩,hd σ H p⟩
theorem y5l {lo:Int}{n:Nat}{g:TG}{tb:TS}{D:Ends}{σ:St}{H:Hp}(Pv:Nat->St->Hp->Prop) (h0:Pv 0 σ H)
  (hs:∀i σ H,i < n->Pv i σ H->g (.int (lo+i)) σ H λ σ2 H2=>tb { D with nx:=Pv (i+1),ct:=Pv (i+1),bk:=D.nx } σ2 H2) (hd:∀σ H,Pv n σ H->D.nx σ H) :
  ∃W:Nat->Nat->St->Hp->Prop,(∃m,W 0 m σ H)/\∀i m σ H,W i m σ H ->
   ((Itr lo n).stop i H/\D.nx σ H)\/((Itr lo n).go i H/\∃N:St->Hp->Prop,(∀σ' H',N σ' H'->∃m',m' < m/\W (i+1) m' σ' H')/\∀x H',(Itr lo n).yld i H x H'->g x σ H' λ σ2 H2=>tb { D with nx:=N,ct:=N,bk:=D.nx } σ2 H2):=by
 refine ⟨λ i m σ H=>m=n - i/\i≤n/\Pv i σ H,⟨n,by simp,Nat.zero_le _,h0⟩,?_⟩
 rintro i m σ H ⟨rfl,hi,p⟩
 by_cases hlt:i < n
 ·refine .inr ⟨hlt,Pv (i+1),λ σ' H' p'=>⟨n - (i+1),by omega,rfl,hlt,p'⟩,λ x H' y=>?_⟩
  obtain ⟨e,y⟩:=y
  subst e y
  exact hs i σ _ hlt p
 ·have e:i=n:=by omega
  subst e
  exact .inl ⟨Nat.le_refl _,hd σ H p⟩
abbrev R2:=V->V->Hp->VK->Prop
def OpR (X:Cx) (f:Value->Value->Sem Value) (r:R2):Prop :=
 ∀(pins:List (Addr × Obj)) (s:Shared) (σ:St) (H:Hp) (x y:V) (v u:Value) (Q:VK),Inv X pins σ H s->RelV x v->RelV y u->r x y H Q ->
  wpAny (model X.prog X.w) X.A (f v u) (EP X pins σ Q) X.xe s
def UnR (X:Cx) (f:Value->Sem Value) (r:V->Hp->VK->Prop):Prop :=
 ∀(pins:List (Addr × Obj)) (s:Shared) (σ:St) (H:Hp) (x:V) (v:Value) (Q:VK),Inv X pins σ H s->RelV x v->r x H Q ->
  wpAny (model X.prog X.w) X.A (f v) (EP X pins σ Q) X.xe s
def CallR (X:Cx) (f:Value) (r:List V->Hp->VK->Prop):Prop :=
 ∀(pins:List (Addr × Obj)) (s:Shared) (σ:St) (H:Hp) (xs:List V) (us:List Value) (Q:VK),Inv X pins σ H s->Vals xs us->r xs H Q ->
  wpAny (model X.prog X.w) X.A (call f us) (EP X pins σ Q) X.xe s
def tOp (r:R2) (ta tb:TE):TE:=λ σ H Q=>ta σ H λ x H1=>tb σ H1 λ y H2=>r x y H2 Q
def tUn (r:V->Hp->VK->Prop) (ta:TE):TE:=λ σ H Q=>ta σ H λ x H1=>r x H1 Q
def rI (C:Int->Int->Prop) (g:Int->Int->V):R2:=λ x y H Q=>∃i j,x=.int i/\y=.int j/\C i j/\Q (g i j) H
def rI0 (g:Int->Int->V):R2:=λ x y H Q=>∃i j,x=.int i/\y=.int j/\Q (g i j) H
def rU (g:Int->V):V->Hp->VK->Prop:=λ x H Q=>∃i,x=.int i/\Q (g i) H
section
variable {X:Cx}{a b c:Expr}{ta tb tc:TE}{pos:Pos}
theorem x5j (ha:PE X a ta) (hb:PE X b tb) {pins:List (Addr × Obj)}{s:Shared}{σ:St}{H:Hp}{R:V->V->Hp->Prop}(I:Inv X pins σ H s)
  (h:ta σ H λ x H1=>tb σ H1 λ y H2=>R x y H2) {Q:Value->Shared->Prop}{f:Value->Value->Sem Value}
  (hf:∀v u s2 x y H2,Inv X pins σ H2 s2->RelV x v->RelV y u->R x y H2->wpAny (model X.prog X.w) X.A (f v u) Q X.xe s2) :
  wpAny (model X.prog X.w) X.A (eval a X.env) (λ v s₁=>wpAny (model X.prog X.w) X.A (eval b X.env) (λ u s₂=>wpAny (model X.prog X.w) X.A (f v u) Q X.xe s₂) X.xe s₁) X.xe s:=by
 refine thn (ha pins s σ H _ I h) λ v s1 ⟨x,H1,I1,r1,q1⟩=>?_
 refine thn (hb pins s1 σ H1 _ I1 q1) λ u s2 ⟨y,H2,I2,r2,q2⟩=>?_
 exact hf v u s2 x y H2 I2 r1 r2 q2
theorem z0s {op:Operator}{r:R2}(ho:OpR X (binaryOp op) r) (ha:PE X a ta) (hb:PE X b tb):PE X (.BinOp a op b pos) (tOp r ta tb):=by
 intro pins s σ H Q I h
 exact wpAny_BinOp (x5j ha hb I h λ v u s2 x y H2 I2 rx ry q=>ho pins s2 σ H2 x y v u Q I2 rx ry q)
theorem y3w {op:UnaryOp}{r:V->Hp->VK->Prop}(ho:UnR X (unaryOp op) r) (ha:PE X a ta):PE X (.UnaryOp op a pos) (tUn r ta):=by
 intro pins s σ H Q I h
 exact UnaryOp_ (thn (ha pins s σ H _ I h) λ v s1 ⟨x,H1,I1,r1,q1⟩=>ho pins s1 σ H1 x v Q I1 r1 q1)
theorem opI {f:Value->Value->Sem Value}{C:Int->Int->Prop}{g:Int->Int->Int}
  (rule:∀(i j:Int) (t u:Tok) (s:Shared) (Q:Value->Shared->Prop) (E:Value->Shared->Prop),C i j->Q (.int (g i j) s.toks) { s with toks:=s.toks+1 }->wpAny (model X.prog X.w) X.A (f (.int i t) (.int j u)) Q E s) :
  OpR X f (rI C λ i j=>.int (g i j)):=by
 intro pins s σ H x y v u Q I rx ry h
 obtain ⟨i,j,rfl,rfl,hc,q⟩:=h
 obtain ⟨t,rfl⟩:=rx
 obtain ⟨t',rfl⟩:=ry
 exact rule i j t t' s _ _ hc ⟨.int (g i j),H,I.tok _,⟨_,rfl⟩,q⟩
theorem x3d {f:Value->Value->Sem Value}{g:Int->Int->Int}
  (rule:∀(i j:Int) (t u:Tok) (s:Shared) (Q:Value->Shared->Prop) (E:Value->Shared->Prop),Q (.int (g i j) s.toks) { s with toks:=s.toks+1 }->wpAny (model X.prog X.w) X.A (f (.int i t) (.int j u)) Q E s) :
  OpR X f (rI0 λ i j=>.int (g i j)):=by
 intro pins s σ H x y v u Q I rx ry h
 obtain ⟨i,j,rfl,rfl,q⟩:=h
 obtain ⟨t,rfl⟩:=rx
 obtain ⟨t',rfl⟩:=ry
 exact rule i j t t' s _ _ ⟨.int (g i j),H,I.tok _,⟨_,rfl⟩,q⟩
theorem x4k {f:Value->Value->Sem Value}{g:Int->Int->Bool}
  (rule:∀(i j:Int) (t u:Tok) (s:Shared) (Q:Value->Shared->Prop) (E:Value->Shared->Prop),Q (.bool (g i j)) s->wpAny (model X.prog X.w) X.A (f (.int i t) (.int j u)) Q E s) :
  OpR X f (rI0 λ i j=>.bl (g i j)):=by
 intro pins s σ H x y v u Q I rx ry h
 obtain ⟨i,j,rfl,rfl,q⟩:=h
 obtain ⟨t,rfl⟩:=rx
 obtain ⟨t',rfl⟩:=ry
 exact rule i j t t' s _ _ ⟨.bl (g i j),H,I,rfl,q⟩
def CDiv (i j:Int):Prop:=0 < j/\j < 1073741824
def CDivN (i j:Int):Prop:=j≠0/\j.natAbs < 1073741824
def CPow (i j:Int):Prop:=0≤j/\j≤1000000/\i.natAbs < 2 ^ 64
def CMul (i j:Int):Prop:=(-(2 ^ 64) < i/\i < 2 ^ 64)\/(-(2 ^ 64) < j/\j < 2 ^ 64)
theorem CMul.ok {i j:Int}(h:CMul i j):IntMulOk i j:=by
 rcases h with ⟨h1,h2⟩ | ⟨h1,h2⟩
 ·exact .of_left (intBits_le_64 h1 h2)
 ·exact .of_right (intBits_le_64 h1 h2)
theorem z1y:OpR X (binaryOp .Add) (rI0 λ i j=>.int (i+j)):=x3d λ _ _ _ _ _ _ _ q=>add_int q
theorem z3b:OpR X (binaryOp .Sub) (rI0 λ i j=>.int (i - j)):=x3d λ _ _ _ _ _ _ _ q=>sub_int q
theorem z4o:OpR X (binaryOp .Mult) (rI CMul λ i j=>.int (i * j)):=opI λ _ _ _ _ _ _ _ hc q=>mul_int q hc.ok
theorem z2j:OpR X (binaryOp .FloorDiv) (rI CDiv λ i j=>.int (i / j)):=opI λ i j _ _ _ _ _ hc q=>by
 have h1:(0:Int) < j:=hc.1
 have h2:j < 1073741824:=hc.2
 exact floordiv_int (by omega) (by rw [Int.fdiv_eq_ediv_of_nonneg i (by omega)];exact q) (.inl (PyProof.noPylong_small (by omega)))
theorem z1x:OpR X (binaryOp .Mod) (rI (λ _ j=>0 < j) λ i j=>.int (i % j)):=opI λ i j _ _ _ _ _ hc q=>by
 have h1:(0:Int) < j:=hc
 exact mod_int' (by omega) (by rw [Int.fmod_eq_emod_of_nonneg i (by omega)];exact q)
theorem z2c:OpR X (binaryOp .Mod) (rI (λ _ j=>j≠0) λ i j=>.int (i.fmod j)):=opI λ _ _ _ _ _ _ _ hc q=>mod_int' hc q
theorem z5e:OpR X (binaryOp .Pow) (rI CPow λ i j=>.int (i ^ j.toNat)):=opI λ _ _ _ _ _ _ _ hc q=>pow_int_small hc.1 hc.2.1 hc.2.2 q
theorem x3c:OpR X (binaryOp .BitAnd) (rI0 λ i j=>.int (Builtin.bitAnd i j)):=x3d λ _ _ _ _ _ _ _ q=>and_int q
theorem x4x:OpR X (binaryOp .BitOr) (rI0 λ i j=>.int (Builtin.bitOr i j)):=x3d λ _ _ _ _ _ _ _ q=>or_int q
theorem x3b:OpR X (binaryOp .BitXor) (rI0 λ i j=>.int (Builtin.bitXor i j)):=x3d λ _ _ _ _ _ _ _ q=>xor_int q
theorem unI {f:Value->Sem Value}{g:Int->Int}
  (rule:∀(i:Int) (t:Tok) (s:Shared) (Q:Value->Shared->Prop) (E:Value->Shared->Prop),Q (.int (g i) s.toks) { s with toks:=s.toks+1 }->wpAny (model X.prog X.w) X.A (f (.int i t)) Q E s) :
  UnR X f (rU λ i=>.int (g i)):=by
 intro pins s σ H x v Q I rx h
 obtain ⟨i,rfl,q⟩:=h
 obtain ⟨t,rfl⟩:=rx
 exact rule i t s _ _ ⟨.int (g i),H,I.tok _,⟨_,rfl⟩,q⟩
theorem z7p:UnR X (unaryOp .USub) (rU λ i=>.int (-i)):=unI λ _ _ _ _ _ q=>neg_int q
end
def scal:V->V->Bool
 | .non,.non=>true | .non,.int _=>true | .int _,.non=>true | .non,.bl _=>true | .bl _,.non=>true | .non,.str _=>true | .str _,.non=>true
 | .int _,.int _=>true | .bl _,.bl _=>true | .str _,.str _=>true | .byt _,.byt _=>true
 | .int _,.str _=>true | .str _,.int _=>true | .bl _,.str _=>true | .str _,.bl _=>true
 | _,_=>false
def rEq:R2:=λ x y H Q=>scal x y=true/\Q (.bl (decide (x=y))) H
def rNe:R2:=λ x y H Q=>scal x y=true/\Q (.bl (!decide (x=y))) H
theorem y5u {i j:Int}:decide (V.int i=V.int j)=(i == j):=by
 rw [Bool.eq_iff_iff]
 simp
theorem y9v {i j:Bool}:decide (V.bl i=V.bl j)=(i == j):=by
 rw [Bool.eq_iff_iff]
 simp
theorem y5t {i j:Str}:decide (V.str i=V.str j)=(i == j):=by
 rw [Bool.eq_iff_iff]
 simp
theorem y5v {i j:Array UInt8}:decide (V.byt i=V.byt j)=(i.toList == j.toList):=by
 rw [Bool.eq_iff_iff]
 cases i
 cases j
 simp
section
variable {X:Cx}{a b c:Expr}{ta tb tc:TE}{pos:Pos}
theorem z1p {pins:List (Addr × Obj)}{σ:St}{H:Hp}{s:Shared}{Q:VK}{k k':Bool}(I:Inv X pins σ H s) (q:Q (.bl k) H) (e:k=k'):EP X pins σ Q (.bool k') s:=by
 subst e
 exact ⟨.bl k,H,I,rfl,q⟩
theorem z1f:OpR X (compareOp .Eq) rEq:=by
 intro pins s σ H x y v u Q I rx ry h
 obtain ⟨hs,q⟩:=h
 cases x with
 | non =>
  cases rx
  cases y with
  | non=>cases ry;exact PySem.EqNone.eq_none_none (z1p I q (by simp))
  | bl j=>cases ry;exact PySem.EqNone.eq_none_bool (z1p I q (by simp))
  | int j=>obtain ⟨t',rfl⟩:=ry;exact PySem.EqNone.eq_none_int (z1p I q (by simp))
  | str j=>obtain ⟨t',rfl⟩:=ry;exact PySem.EqNone.eq_none_str (z1p I q (by simp))
  | _=>exact absurd (show false=true from hs) Bool.false_ne_true
 | bl i =>
  cases rx
  cases y with
  | non=>cases ry;exact PySem.EqNone.eq_bool_none (z1p I q (by simp))
  | bl j=>cases ry;exact eq_bool (z1p I q y9v)
  | str j=>obtain ⟨t',rfl⟩:=ry;exact PySem.EqMixed.eq_bool_str (z1p I q (by simp))
  | _=>exact absurd (show false=true from hs) Bool.false_ne_true
 | int i =>
  obtain ⟨t,rfl⟩:=rx
  cases y with
  | non=>cases ry;exact PySem.EqNone.eq_int_none (z1p I q (by simp))
  | int j=>obtain ⟨t',rfl⟩:=ry;exact eq_int (z1p I q y5u)
  | str j=>obtain ⟨t',rfl⟩:=ry;exact PySem.EqMixed.eq_int_str (z1p I q (by simp))
  | _=>exact absurd (show false=true from hs) Bool.false_ne_true
 | str i =>
  obtain ⟨t,rfl⟩:=rx
  cases y with
  | non=>cases ry;exact PySem.EqNone.eq_str_none (z1p I q (by simp))
  | bl j=>cases ry;exact PySem.EqMixed.eq_str_bool (z1p I q (by simp))
  | int j=>obtain ⟨t',rfl⟩:=ry;exact PySem.EqMixed.eq_str_int (z1p I q (by simp))
  | str j=>obtain ⟨t',rfl⟩:=ry;exact eq_str (z1p I q y5t)
  | _=>exact absurd (show false=true from hs) Bool.false_ne_true
 | byt i =>
  obtain ⟨t,rfl⟩:=rx
  cases y with
  | byt j=>obtain ⟨t',rfl⟩:=ry;exact W.eq_bytes (z1p I q y5v)
  | _=>exact absurd (show false=true from hs) Bool.false_ne_true
 | _=>cases y<;>exact absurd (show false=true from hs) Bool.false_ne_true
theorem y0b:OpR X (compareOp .NotEq) rNe:=by
 intro pins s σ H x y v u Q I rx ry h
 obtain ⟨hs,q⟩:=h
 cases x with
 | non =>
  cases rx
  cases y with
  | non=>cases ry;exact PySem.EqNone.ne_none_none (z1p I q (by simp))
  | bl j=>cases ry;exact PySem.EqNone.ne_none_bool (z1p I q (by simp))
  | int j=>obtain ⟨t',rfl⟩:=ry;exact PySem.EqNone.ne_none_int (z1p I q (by simp))
  | str j=>obtain ⟨t',rfl⟩:=ry;exact PySem.EqNone.ne_none_str (z1p I q (by simp))
  | _=>exact absurd (show false=true from hs) Bool.false_ne_true
 | bl i =>
  cases rx
  cases y with
  | non=>cases ry;exact PySem.EqNone.ne_bool_none (z1p I q (by simp))
  | bl j=>cases ry;exact ne_bool (z1p I q (congrArg not y9v))
  | str j=>obtain ⟨t',rfl⟩:=ry;exact PySem.EqMixed.ne_bool_str (z1p I q (by simp))
  | _=>exact absurd (show false=true from hs) Bool.false_ne_true
 | int i =>
  obtain ⟨t,rfl⟩:=rx
  cases y with
  | non=>cases ry;exact PySem.EqNone.ne_int_none (z1p I q (by simp))
  | int j=>obtain ⟨t',rfl⟩:=ry;exact ne_int (z1p I q (congrArg not y5u))
  | str j=>obtain ⟨t',rfl⟩:=ry;exact PySem.EqMixed.ne_int_str (z1p I q (by simp))
  | _=>exact absurd (show false=true from hs) Bool.false_ne_true
 | str i =>
  obtain ⟨t,rfl⟩:=rx
  cases y with
  | non=>cases ry;exact PySem.EqNone.ne_str_none (z1p I q (by simp))
  | bl j=>cases ry;exact PySem.EqMixed.ne_str_bool (z1p I q (by simp))
  | int j=>obtain ⟨t',rfl⟩:=ry;exact PySem.EqMixed.ne_str_int (z1p I q (by simp))
  | str j=>obtain ⟨t',rfl⟩:=ry;exact ne_str (z1p I q (congrArg not y5t))
  | _=>exact absurd (show false=true from hs) Bool.false_ne_true
 | byt i =>
  obtain ⟨t,rfl⟩:=rx
  cases y with
  | byt j=>obtain ⟨t',rfl⟩:=ry;exact W.ne_bytes (z1p I q (congrArg not y5v))
  | _=>exact absurd (show false=true from hs) Bool.false_ne_true
 | _=>cases y<;>exact absurd (show false=true from hs) Bool.false_ne_true
theorem z4a:OpR X (compareOp .Lt) (rI0 λ i j=>.bl (decide (i < j))):=x4k λ _ _ _ _ _ _ _ q=>lt_int q
theorem y7o:OpR X (compareOp .LtE) (rI0 λ i j=>.bl (decide (i≤j))):=x4k λ _ _ _ _ _ _ _ q=>le_int q
theorem z4q:OpR X (compareOp .Gt) (rI0 λ i j=>.bl (decide (j < i))):=x4k λ _ _ _ _ _ _ _ q=>gt_int q
theorem y4g:OpR X (compareOp .GtE) (rI0 λ i j=>.bl (decide (j≤i))):=x4k λ _ _ _ _ _ _ _ q=>ge_int q
theorem y4e:OpR X (compareOp .IsNot) (λ x y H Q=>y=.non/\Q (.bl (!decide (x=.non))) H):=by
 intro pins s σ H x y v u Q I rx ry h
 obtain ⟨rfl,q⟩:=h
 cases ry
 refine isnot_none_gen (z1p I q ?_)
 cases x<;>first
  | (cases rx;rfl)
  | (obtain ⟨t,rfl⟩:=rx;rfl)
theorem z0n (b:Expr) {op:CmpOp}(h:op≠.In:=by decide) (h2:op≠.NotIn:=by decide):behindInMarks op b=false:=by
 have e1:(op == CmpOp.In)=false:=by cases op<;>first | rfl | exact absurd rfl h
 have e2:(op == CmpOp.NotIn)=false:=by cases op<;>first | rfl | exact absurd rfl h2
 cases b<;>simp [behindInMarks,e1,e2]
theorem z4h {op:CmpOp}{r:R2}(ho:OpR X (compareOp op) r) (ha:PE X a ta) (hb:PE X b tb) (hm:behindInMarks op b=false):PE X (.Compare a [op] [b] pos) (tOp r ta tb):=by
 intro pins s σ H Q I h
 exact wpAny_Compare1 (x5j ha hb I h λ v u s2 x y H2 I2 rx ry q=>ho pins s2 σ H2 x y v u Q I2 rx ry q) hm
def tTest (t:TE):TT:=λ σ H Q=>t σ H λ x H'=>∃k,x=.bl k/\Q k H'
theorem z0i {op:CmpOp}{r:R2}(ho:OpR X (compareOp op) r) (ha:PE X a ta) (hb:PE X b tb) (hm:behindInMarks op b=false):PT X (.Compare a [op] [b] pos) (tTest (tOp r ta tb)):=by
 intro pins s σ H Q I h
 refine wpAny_isTrue_Compare1 (thn (ha pins s σ H _ I h) λ v s1 ⟨x,H1,I1,r1,q1⟩=>thn (hb pins s1 σ H1 _ I1 q1) λ u s2 ⟨y,H2,I2,r2,q2⟩ =>
  thn (ho pins s2 σ H2 x y v u _ I2 r1 r2 q2) λ c s3 ⟨z,H3,I3,r3,k,e,q3⟩=>?_) hm
 subst e
 cases r3
 exact wpAny_truthy_bool ⟨H3,I3,q3⟩
def tChain (r r':R2) (ta tb tc:TE):TE:=λ σ H Q=>ta σ H λ x H1=>tb σ H1 λ y H2=>r x y H2 λ z H3=>∃k,z=.bl k /\
 (if k=true then tc σ H3 λ w' H4=>r' y w' H4 Q else Q (.bl false) H3)
theorem y7g {op op':CmpOp}{r r':R2}(ho:OpR X (compareOp op) r) (ho':OpR X (compareOp op') r') (ha:PE X a ta) (hb:PE X b tb) (hc:PE X c tc)
  (hm:lastMarks [op,op'] [b,c]=false:=by with_unfolding_all rfl):PT X (.Compare a [op,op'] [b,c] pos) (tTest (tChain r r' ta tb tc)):=by
 intro pins s σ H Q I h
 refine isTrue_chain (thn (ha pins s σ H _ I h) λ v s1 ⟨x,H1,I1,r1,q1⟩=>test_link (thn (hb pins s1 σ H1 _ I1 q1) λ u s2 ⟨y,H2,I2,r2,q2⟩ =>
  thn (ho pins s2 σ H2 x y v u _ I2 r1 r2 q2) λ d s3 ⟨z,H3,I3,r3,k,e,q3⟩=>?_)) hm
 subst e
 cases r3
 refine wpAny_truthy_bool ?_
 cases k with
 | false =>
  obtain ⟨k',e',q'⟩:=q3
  cases e'
  exact ite_ff ⟨H3,I3,q'⟩
 | true =>
  refine ite_tt (test_last (thn (hc pins s3 σ H3 _ I3 q3) λ w' s4 ⟨z',H4,I4,r4,q4⟩=>thn (ho' pins s4 σ H4 y z' u w' _ I4 r2 r4 q4) λ d' s5 ⟨z2,H5,I5,r5,k2,e2,q5⟩=>?_))
  subst e2
  cases r5
  exact wpAny_truthy_bool ⟨H5,I5,q5⟩
theorem y1c:(sizeLine:Nat) < 2 ^ 63:=by rw [sizeLine_eq];decide
theorem z4p {x:V}{us:List Value}(r:Vals [x] us):∃u,us=[u]/\RelV x u:=by
 cases r with
 | cons r1 r2=>cases r2;exact ⟨_,rfl,r1⟩
theorem z9h {x y:V}{us:List Value}(r:Vals [x,y] us):∃u w',us=[u,w']/\RelV x u/\RelV y w':=by
 cases r with
 | cons r1 r2 =>
  cases r2 with
  | cons r3 r4=>cases r4;exact ⟨_,_,rfl,r1,r3⟩
theorem y9g:CallR X (.builtin "abs") (λ xs H Q=>∃i,xs=[.int i]/\Q (.int (if i < 0 then -i else i)) H):=by
 intro pins s σ H xs us Q I r h
 obtain ⟨i,rfl,q⟩:=h
 obtain ⟨u,rfl,t,rfl⟩:=z4p r
 exact call_abs_int λ u tk=>⟨.int (if i < 0 then -i else i),H,I.tok _,⟨_,rfl⟩,q⟩
theorem z4f (hc:X.calm=true):CallR X (.builtin "max") (λ xs H Q=>∃i j,xs=[.int i,.int j]/\Q (.int (if j > i then j else i)) H):=by
 intro pins s σ H xs us Q I r h
 obtain ⟨i,j,rfl,q⟩:=h
 obtain ⟨u,w',rfl,⟨t,rfl⟩,⟨t',rfl⟩⟩:=z9h r
 refine max_two_ints (I.ok.hd hc) λ h' tk k=>⟨_,H,I.kept k,?_,q⟩
 by_cases hj:j > i
 ·rw [if_pos hj,if_pos hj];exact ⟨_,rfl⟩
 ·rw [if_neg hj,if_neg hj];exact ⟨_,rfl⟩
theorem z2t (hc:X.calm=true):CallR X (.builtin "min") (λ xs H Q=>∃i j,xs=[.int i,.int j]/\Q (.int (if j < i then j else i)) H):=by
 intro pins s σ H xs us Q I r h
 obtain ⟨i,j,rfl,q⟩:=h
 obtain ⟨u,w',rfl,⟨t,rfl⟩,⟨t',rfl⟩⟩:=z9h r
 refine min_two_ints (I.ok.hd hc) λ h' tk k=>⟨_,H,I.kept k,?_,q⟩
 by_cases hj:j < i
 ·rw [if_pos hj,if_pos hj];exact ⟨_,rfl⟩
 ·rw [if_neg hj,if_neg hj];exact ⟨_,rfl⟩
theorem y6k:CallR X (.type "int") (λ xs H Q=>(∃i,xs=[.int i]/\Q (.int i) H)\/∃k,xs=[.bl k]/\Q (.int (if k then 1 else 0)) H):=by
 intro pins s σ H xs us Q I r h
 rcases h with ⟨i,rfl,q⟩ | ⟨k,rfl,q⟩
 ·obtain ⟨u,rfl,t,rfl⟩:=z4p r
  exact call_int_int ⟨.int i,H,I,⟨_,rfl⟩,q⟩
 ·obtain ⟨u,rfl,r1⟩:=z4p r
  cases r1
  exact call_int_bool ⟨.int (if k then 1 else 0),H,I.tok _,⟨_,rfl⟩,q⟩
end
structure ObjM (h:Heap) (x dx C:Addr) (mA:Str->Option Value):Prop where
 obj:h.get? x=some (W.instObj C dx)
 ns:h.Ns1 dx mA
 ne:dx≠x
theorem z8m {h:Heap}{dx:Addr}{mA:Str->Option Value}(n:h.Ns1 dx mA):∃od,h.get? dx=some od/\∀name,W.lookIn name od=some (mA name):=by
 obtain ⟨o,es,ep,ho,hd,hk,_,hm⟩:=n
 refine ⟨o,ho,λ name=>?_⟩
 have e:=hm name
 unfold nsFind findBy at e
 rw [← Array.find?_toList] at e
 unfold W.lookIn
 rw [hd]
 dsimp only
 split
 ·rename_i y q
  rw [q] at e
  exact congrArg some e
 ·rename_i q
  rw [q] at e
  have a:es.toList.any (·.refKey)=false:=by
   rw [List.any_eq_false]
   intro y hy
   obtain ⟨z,t,hkey⟩:=hk y (Array.mem_toList_iff.mp hy)
   simp [DictEntry.refKey,hkey]
  have a':¬es.toList.any (·.refKey)=true:=by rw [a];exact Bool.false_ne_true
  rw [if_neg a']
  exact congrArg some e
theorem ObjM.look {h:Heap}{x dx C:Addr}{mA:Str->Option Value}(I:ObjM h x dx C mA):∃od,W.InstAt h x (W.instObj C dx) C (some od)/\∀name,W.lookIn name od=some (mA name) :=
 let ⟨od,ho,hl⟩:=z8m I.ns
 ⟨od,⟨I.obj,rfl,rfl,ho⟩,hl⟩
section
variable {prog:Program}{w:World}{A:Around}{E:Value->Shared->Prop}{s:Shared}{K:W.Frag}{x dx C f:Addr}{mA:Str->Option Value}{name:Str}{v:Value}
end
def putF (f:Str) (v:V):List (Str × V)->List (Str × V)
 | []=>[(f,v)]
 | (g,x)::r=>if g=f then (g,v)::r else (g,x)::putF f v r
theorem z5f (f g:Str) (v:V):∀fs:List (Str × V),(putF f v fs).lookup g=if g=f then some v else fs.lookup g
 | []=>by
  show List.lookup g [(f,v)]=_
  by_cases h:g=f
  ·have hb:(g == f)=true:=beq_iff_eq.mpr h
   simp only [List.lookup,hb,if_pos h]
  ·have hb:(g == f)=false:=beq_eq_false_iff_ne.mpr h
   simp only [List.lookup,hb,if_neg h]
 | (k,x)::r=>by
  have ih:=z5f f g v r
  rw [show putF f v ((k,x)::r)=(if k=f then (k,v)::r else (k,x)::putF f v r) from rfl]
  by_cases hk:k=f
  ·rw [if_pos hk]
   by_cases h:g=k
   ·have hb:(g == k)=true:=beq_iff_eq.mpr h
    simp only [List.lookup,hb,if_pos (h.trans hk)]
   ·have hb:(g == k)=false:=beq_eq_false_iff_ne.mpr h
    simp only [List.lookup,hb,if_neg (λ e:g=f=>h (e.trans hk.symm))]
  ·rw [if_neg hk]
   by_cases h:g=k
   ·have hb:(g == k)=true:=beq_iff_eq.mpr h
    simp only [List.lookup,hb,if_neg (λ e:g=f=>hk (h.symm.trans e))]
   ·have hb:(g == k)=false:=beq_eq_false_iff_ne.mpr h
    simp only [List.lookup,hb]
    exact ih
theorem z5h (f:Str) (v:V):∀fs:List (Str × V),f∈(putF f v fs).map (·.1)/\∀g,g∈fs.map (·.1)->g∈(putF f v fs).map (·.1)
 | []=>⟨by simp [putF],λ g h=>by simp at h⟩
 | (k,x)::r=>by
  obtain ⟨i1,i2⟩:=z5h f v r
  rw [show putF f v ((k,x)::r)=(if k=f then (k,v)::r else (k,x)::putF f v r) from rfl]
  by_cases hk:k=f
  ·rw [if_pos hk]
   subst hk
   exact ⟨by simp,λ g h=>by simpa using h⟩
  ·rw [if_neg hk]
   refine ⟨?_,λ g h=>?_⟩
   ·rw [List.map_cons]
    exact List.mem_cons_of_mem _ i1
   ·rw [List.map_cons] at h ⊢
    rcases List.mem_cons.mp h with e | e
    ·exact List.mem_cons.mpr (.inl e)
    ·exact List.mem_cons_of_mem _ (i2 g e)
theorem z5g (f:Str) (v:V):∀fs:List (Str × V),(putF f v fs).length≤fs.length+1
 | []=>by simp [putF]
 | (k,x)::r=>by
  have ih:=z5g f v r
  rw [show putF f v ((k,x)::r)=(if k=f then (k,v)::r else (k,x)::putF f v r) from rfl]
  by_cases hk:k=f
  ·rw [if_pos hk,List.length_cons,List.length_cons];omega
  ·rw [if_neg hk,List.length_cons,List.length_cons];omega
theorem RelO.some_of {v:V}{o:Option Value}(r:RelO (some v) o):∃u,o=some u/\RelV v u:=by
 cases o with
 | none=>exact (show False from r).elim
 | some u=>exact ⟨u,rfl,r⟩
theorem y5k {v:V}{u:Value}(r:RelV v u):W.handedIn u=true:=by
 cases v with
 | non=>cases (show u=Value.none from r);rfl
 | bl b=>cases (show u=Value.bool b from r);rfl
 | int i=>obtain ⟨t,e⟩:=(show ∃t,u=Value.int i t from r);cases e;rfl
 | str x=>obtain ⟨t,e⟩:=(show ∃t,u=Value.str x t from r);cases e;rfl
 | byt b=>obtain ⟨t,e⟩:=(show ∃t,u=Value.bytes b t from r);cases e;rfl
 | flt b=>obtain ⟨t,e⟩:=(show ∃t,u=Value.float b t from r);cases e;rfl
 | ref a=>cases (show u=Value.ref a from r);rfl
 | ty n=>cases (show u=Value.type n from r);rfl
section
variable {P:Program}{w:World}{H H':Hp}{h h':Heap}{a C dx:Addr}{fs fs':List (Str × V)}
theorem x1m (hok:HOk P w H h) (e:H a=some (.ins C dx fs)):∃mA,ObjM h a dx C mA/\(∀f,RelO (fs.lookup f) (mA f))/\PySem.Within mA (fs.map (·.1))/\fs.length≤1000/\H dx=some (.own a):=by
 obtain ⟨d,z,ne,ob,mA,n,r,q⟩:=(show ObjOk P w H h a (.ins C dx fs) from hok a _ e)
 exact ⟨mA,⟨ob,n,ne⟩,r,q,z,d⟩
end
structure Cls (K:W.Frag) (C:Addr):Prop where
 pg:W.plainGet K C Str.empty=true
 hd:W.hasDictIn K C=true
 po:W.plainOver K C=true
 sa:W.findIn K (.ref C) "__setattr__" = some (some (.builtin "object.__setattr__"))
theorem Cls.get {K:W.Frag}{C:Addr}(c:Cls K C) (f:Str):W.plainGet K C f=true:=c.pg
def NoAttr (K:W.Frag) (C:Addr) (f:Str):Prop:=W.findIn K (.ref C) f=some none
theorem NoAttr.taker {K:W.Frag}{C:Addr}{f:Str}(n:NoAttr K C f):W.takerIn K C f=some none:=by
 unfold W.takerIn
 rw [show W.findIn K (.ref C) f=some none from n]
 rfl
structure Con (K:W.Frag) (C:Addr) (f:Str) (v:V) (u:Value):Prop where
 at_:W.findIn K (.ref C) f=some (some u)
 rel:RelV v u
 get:W.specialIn K u "__get__" = some none
 cp:W.copiedNames.contains f=false
structure Meth (K:W.Frag) (C:Addr) (m:Str) (f:Addr):Prop where
 at_:W.findIn K (.ref C) m=some (some (.ref f))
 fn:W.isFn K (.ref f)=true
 kp:W.keepIn K (.ref f)=true
section
variable {X:Cx}{pins:List (Addr × Obj)}{σ:St}{H:Hp}{s:Shared}{a C dx:Addr}{fs:List (Str × V)}{f:Str}{v:V}{A:Around}{E:Value->Shared->Prop}
theorem x2b {prog:Program}{w:World}{env:Env}{e:Expr}{f:Str}{pos:Pos}{s:Shared}{Q:Value->Shared->Prop}(hb:attributeBase e f env (eval e env)=eval e env)
  (h:wpAny (model prog w) A (eval e env) (λ o s₁=>wpAny (model prog w) A (getAttr o f true) Q E s₁) E s):wpAny (model prog w) A (eval (.Attribute e f pos) env) Q E s :=
 Attribute_any_ h (by rw [arm_eval_Attribute,hb])
end
section
variable {X:Cx}{o e value:Expr}{f:Str}{pos pos' tpos:Pos}{ta tv:TE}
end
section
variable {X:Cx}{pins:List (Addr × Obj)}{σ:St}{H:Hp}{s:Shared}{A:Around}{E:Value->Shared->Prop}{Q:Value->Shared->Prop}{c:Value}{b:Bool}
inductive TyOf (K:W.Frag) (H:Hp):V->Value->Prop where
 | non:TyOf K H .non (.type "NoneType")
 | bl (x:Bool):TyOf K H (.bl x) (.type "bool")
 | int (i:Int):TyOf K H (.int i) (.type "int")
 | str (x:Str):TyOf K H (.str x) (.type "str")
 | flt (x:UInt64):TyOf K H (.flt x) (.type "float")
 | lst {a:Addr}{xs:List V}(e:H a=some (.lst xs)):TyOf K H (.ref a) (.type "list")
 | frz {a:Addr}{o:Obj}{xs:List V}(e:H a=some (.frz o (.lst xs))):TyOf K H (.ref a) (.type "list")
 | tup {a:Addr}{xs:List V}(e:H a=some (.tup xs)):TyOf K H (.ref a) (.type "tuple")
 | dK {a:Addr}{kvs:List (Key × V)}(e:H a=some (.dK kvs)):TyOf K H (.ref a) (.type "dict")
 | dT {a:Addr}{kvs:List (List Key × V)}(e:H a=some (.dT kvs)):TyOf K H (.ref a) (.type "dict")
 | ins {a C dx:Addr}{fs:List (Str × V)}(e:H a=some (.ins C dx fs)) (cl:Cls K C) (ha:W.findIn K (.ref C) "__class__" = some (some (.builtin "object.__class__")))
   (hn:W.specialIn K (.builtin "object.__class__") "__get__" = some (some (.builtin "getset_descriptor.__get__"))) (htk:W.takesIn K (.builtin "object.__class__")=some true)
   (hm:W.mroIn K C (.type "object")=some true):TyOf K H (.ref a) (.ref C)
theorem y5h {x:V}{u t:Value}(I:Inv X pins σ H s) (rx:RelV x u) (ty:TyOf X.K H x t) (e:W.kitOne X.K t c=some b) (h:∀tk,Q (.bool b) { s with toks:=tk }) :
  wpAny (model X.prog X.w) A (call (.builtin "isinstance") [u,c]) Q E s:=by
 cases ty with
 | non=>cases (show u=Value.none from rx);exact W.kia_one W.kitx_none I.kIn True.intro e (λ z=>nomatch z) h
 | bl y=>cases (show u=Value.bool y from rx);exact W.kia_one W.kitx_bool I.kIn True.intro e (λ z=>nomatch z) h
 | int i=>obtain ⟨t,q⟩:=(show ∃t,u=Value.int i t from rx);cases q;exact W.kia_one W.kitx_int I.kIn True.intro e (λ z=>nomatch z) h
 | str y=>obtain ⟨t,q⟩:=(show ∃t,u=Value.str y t from rx);cases q;exact W.kia_one W.kitx_str I.kIn True.intro e (λ z=>nomatch z) h
 | flt y=>obtain ⟨t,q⟩:=(show ∃t,u=Value.float y t from rx);cases q;exact W.kia_one W.kitx_float I.kIn True.intro e (λ z=>nomatch z) h
 | @lst a xs ea =>
  cases (show u=Value.ref a from rx)
  obtain ⟨_,_,n,_,h1⟩:=(show ObjOk X.prog X.w H s.heap a (.lst xs) from I.hok a _ ea)
  exact W.kia_one W.kitx_list I.kIn ⟨_,h1,rfl⟩ e (λ z=>nomatch z) h
 | @frz a ob xs ea =>
  cases (show u=Value.ref a from rx)
  obtain ⟨_,_,_,n,_,h1⟩:=(show ObjOk X.prog X.w H s.heap a (.frz ob (.lst xs)) from I.hok a _ ea)
  exact W.kia_one W.kitx_list I.kIn ⟨_,h1,rfl⟩ e (λ z=>nomatch z) h
 | @tup a xs ea =>
  cases (show u=Value.ref a from rx)
  obtain ⟨_,_,_,p⟩:=(show ObjOk X.prog X.w H s.heap a (.tup xs) from I.hok a _ ea)
  obtain ⟨o,h1,h2,_⟩:=p
  exact W.kia_one W.kitx_tuple I.kIn ⟨o,h1,h2⟩ e (λ z=>nomatch z) h
 | @dK a kvs ea =>
  cases (show u=Value.ref a from rx)
  obtain ⟨_,_,vs,_,p⟩:=(show ObjOk X.prog X.w H s.heap a (.dK kvs) from I.hok a _ ea)
  obtain ⟨o,es,ep,h1,h2,_⟩:=p
  exact W.kia_one W.kitx_dict I.kIn ⟨o,h1,h2.1⟩ e (λ z=>nomatch z) h
 | @dT a kvs ea =>
  cases (show u=Value.ref a from rx)
  obtain ⟨_,_,xs,_,o,es,ep,h1,h2,_⟩:=(show ObjOk X.prog X.w H s.heap a (.dT kvs) from I.hok a _ ea)
  exact W.kia_one W.kitx_dict I.kIn ⟨o,h1,h2.1⟩ e (λ z=>nomatch z) h
 | @ins a C dx fs ea cl ha hn htk hm =>
  cases (show u=Value.ref a from rx)
  obtain ⟨mA,O,_⟩:=x1m I.hok ea
  obtain ⟨od,J,_⟩:=O.look
  exact W.kia_one (W.kitx_own (cl.get _) cl.hd ha hn htk hm) I.kIn J e (λ z=>nomatch z) h
end
structure Room (k:Nat) (A:Around):Prop where
 hd:A.handled=none
 dp:A.depth+3 * k+5 < recursionLimit
 un:A.units+16 * k+200 < cLine
theorem Room.mono {j k:Nat}{A:Around}(r:Room k A) (h:j≤k):Room j A:=⟨r.hd,by have:=r.dp;omega,by have:=r.un;omega⟩
theorem Room.deeper {k:Nat}{A:Around}(r:Room (k+1) A) (env:Env):Room k (A.deeper env) :=
 ⟨r.hd,by have:=r.dp;show A.depth+1+3 * k+5 < _;omega,by have:=r.un;show A.units+3+16 * k+200 < _;omega⟩
theorem y2l {A:Around}{C:Addr}{us:List Value}{kw:List (Str × Value)}:(A.under (.builtin "type.__call__" ⟨.ref C::us,kw⟩)).depth=A.depth+1:=by
 first | rfl | simp [Around.under,Code.weight,Code.isCreation,Code.isGuard,Code.isCaller,Code.frames,Code.isFrame,guardIds]
theorem y2k {A:Around}{C:Addr}{us:List Value}{kw:List (Str × Value)}:(A.under (.builtin "type.__call__" ⟨.ref C::us,kw⟩)).units=A.units+1:=by
 first | rfl | simp [Around.under,Code.cUnits,Code.frames,Code.isFrame]
theorem Room.make {k:Nat}{A:Around}(r:Room (k+1) A) (C:Addr) (us:List Value) (kw:List (Str × Value)):Room k (A.under (.builtin "type.__call__" ⟨.ref C::us,kw⟩)) :=
 ⟨r.hd,by have:=r.dp;rw [y2l];omega,by have:=r.un;rw [y2k];omega⟩
theorem Room.depth {k:Nat}{A:Around}(r:Room k A):A.depth < recursionLimit:=by have:=r.dp;omega
theorem Room.units0 {k:Nat}{A:Around}(r:Room k A):A.units < cLine:=by have:=r.un;omega
def tNil:TA:=λ _ H Q=>Q [] H
def tCons (ta:TE) (tr:TA):TA:=λ σ H Q=>ta σ H λ x H1=>tr σ H1 λ xs H2=>Q (x::xs) H2
section
variable {X:Cx}{e:Expr}{es:List Expr}{te:TE}{t:TA}{pos:Pos}
theorem z0c:PA X [] tNil:=λ _ _ _ _ H Q I h=>Calls.spliced_nil ⟨[],H,I,.nil,h⟩
theorem z0a (ha:PE X e te) (hr:PA X es t) (hs:starEach (e::es) X.env=(false,eval e X.env)::starEach es X.env:=by rfl):PA X (e::es) (tCons te t):=by
 intro pos pins s σ H Q I h
 rw [hs]
 show wpAny _ _ (spliced ((false,eval e X.env)::backTo pos (starEach es X.env))) _ _ s
 refine Calls.spliced_cons (thn (ha pins s σ H _ I h) λ u s1 ⟨x,H1,I1,r1,q1⟩=>?_)
 exact thn (hr pos pins s1 σ H1 _ I1 q1) λ us s2 ⟨xs,H2,I2,r2,q2⟩=>⟨x::xs,H2,I2,.cons r1 r2,q2⟩
def tTup (t:TA):TE:=λ σ H Q=>t σ H λ xs H1=>xs.length≤sizeLine/\∀p,H1 p=none->Q (.ref p) (upd H1 p (.tup xs))
def tLst (t:TA):TE:=λ σ H Q=>t σ H λ xs H1=>xs.length≤sizeLine/\∀p,H1 p=none->Q (.ref p) (upd H1 p (.lst xs))
theorem z0w {x1} (h:PA X es t):PE X (.Tuple es x1 pos) (tTup t):=by
 intro pins s σ H Q I hq
 refine wpAny_Tuple_spliced (thn (h pos pins s σ H _ I hq) λ us s1 ⟨xs,H1,I1,r,z,q⟩=>⟨by rw [← r.length];exact z,?_⟩)
 have hf:H1 s1.heap.objs.size=none:=I1.hok.fresh (Nat.le_refl _)
 refine ⟨.ref s1.heap.objs.size,upd H1 s1.heap.objs.size (.tup xs),I1.laid (t':=s1.toks) (λ b u e=>Heap.get?_push_of_some _ e) (Nat.le_refl _) ?_,rfl,q _ hf⟩
 exact ⟨z,us,r,⟨_,Heap.get?_push_size _ rfl,rfl,_,rfl⟩⟩
theorem z1w (h:PA X es t):PE X (.List es pos) (tLst t):=by
 intro pins s σ H Q I hq
 refine wpAny_List_spliced (thn (h pos pins s σ H _ I hq) λ us s1 ⟨xs,H1,I1,r,z,q⟩=>⟨by rw [← r.length];exact z,?_⟩)
 have hf:H1 s1.heap.objs.size=none:=I1.hok.fresh (Nat.le_refl _)
 refine ⟨.ref s1.heap.objs.size,upd H1 s1.heap.objs.size (.lst xs),I1.laid (t':=s1.toks) (λ b u e=>Heap.get?_push_of_some _ e) (Nat.le_refl _) ?_,rfl,q _ hf⟩
 exact ⟨z,us,0,r,Heap.get?_push_size _ rfl⟩
end
abbrev Sp:=List V->Hp->VK->XK->Prop
abbrev CXT:=List Env->Hp->Shared->XK->Value->Shared->Prop
structure Env0 (P:Program) (w:World) (K:W.Frag) (mg:Str->Option Value) (base:Heap) (A:Around) (outer:List Env) (s:Shared) (H:Hp):Prop where
 frames:A.frames=some outer
 mod:Mod K mg base
 bs:∀b o,base.get? b=some o->s.heap.get? b=some o/\H b=none
 bsz:base.objs.size≤s.heap.objs.size
 funs:s.heap.FunFrames base outer
 frf:∀b∈frs outer,H b=none
 hok:HOk P w H s.heap
 bare:AllBare s.gens
def CE (outer:List Env) (P:Program) (w:World) (H:Hp) (s:Shared) (Q:VK) (u:Value) (s':Shared):Prop :=
 ∃v H',s'.os=s.os/\AllBare s'.gens/\Un (frs outer) [] H H' s.heap s'.heap/\HOk P w H' s'.heap/\RelV v u/\Q v H'
def CR (CX:CXT) (outer:List Env) (P:Program) (w:World) (H:Hp) (s:Shared) (Q:VK) (E:XK) (r:Result) (s':Shared):Prop :=
 match r with
 | .ok (.ret u)=>CE outer P w H s Q u s'
 | .ok _=>False
 | .error e=>CX outer H s E e s'
structure FnOk (P:Program) (w:World) (K:W.Frag) (mg:Str->Option Value) (base:Heap) (CX:CXT) (k:Nat) (f:Addr) (fd:FuncData) (ps:List Str) (sp:Sp):Prop where
 len:∀vs H Q E,sp vs H Q E->vs.length=ps.length
 run:∀(A:Around) (outer:List Env) (s:Shared) (H:Hp) (args:Args) (us:List Value) (vs:List V) (Q:VK) (E:XK),Room k A->Env0 P w K mg base A outer s H->BindsTo s fd args (ps.zip us)->Vals vs us->sp vs H Q E ->
  codeAny (model P w) A (.call (.ref f) args) (CR CX outer P w H s Q E) s
theorem FnOk.mono {P:Program}{w:World}{K:W.Frag}{mg:Str->Option Value}{base:Heap}{CX:CXT}{j k:Nat}{f:Addr}{fd:FuncData}{ps:List Str}{sp:Sp}(F:FnOk P w K mg base CX j f fd ps sp) (h:j≤k) :
  FnOk P w K mg base CX k f fd ps sp:=⟨F.len,λ A outer s H args us vs Q E hr=>F.run A outer s H args us vs Q E (hr.mono h)⟩
theorem Env0.make {P:Program}{w:World}{K:W.Frag}{mg:Str->Option Value}{base:Heap}{A:Around}{outer:List Env}{s:Shared}{H:Hp}(e:Env0 P w K mg base A outer s H) (C:Addr) (us:List Value) (kw:List (Str × Value)) :
  Env0 P w K mg base (A.under (.builtin "type.__call__" ⟨.ref C::us,kw⟩)) outer s H:=⟨by first | exact e.frames | (simpa [Around.under,Code.envs,Code.isFrame,pushEnvs] using e.frames),e.mod,e.bs,e.bsz,e.funs,e.frf,e.hok,e.bare⟩
section
variable {X:Cx}{pins:List (Addr × Obj)}{σ:St}{H:Hp}{s s':Shared}
theorem Inv.env0 (I:Inv X pins σ H s):Env0 X.prog X.w X.K X.mg X.base X.A X.stack s H :=
 ⟨I.ok.frames,I.ok.mod,I.bs,Nat.le_trans I.ok.bsz I.sz,I.stack,I.stkFree,I.hok,I.bare⟩
theorem Inv.after {Q:VK}{u:Value}(I:Inv X pins σ H s) (h:CE X.stack X.prog X.w H s Q u s'):EP X pins σ Q u s':=by
 obtain ⟨v,H',os,bare,un,hok,r,q⟩:=h
 obtain ⟨hh,g,d,t,os'⟩:=s'
 obtain rfl:os'=s.os:=os
 exact ⟨v,H',I.call (h':=hh) (g':=g) (d':=d) (t':=t) (ch:=[]) un hok bare (λ b z=>absurd z (by simp)),r,q⟩
end
def tCall (sp:Sp) (dvs:List V) (E:XK) (t:TA):TE:=λ σ H Q=>t σ H λ vs H1=>sp (vs++dvs) H1 Q E
def Binds (K:W.Frag) (fd:FuncData) (ps:List Str) (ds:List Value):Prop :=
 ∀(s:Shared) (us:List Value),K.In s.heap->(us++ds).length=ps.length->BindsTo s fd ⟨us,[]⟩ (ps.zip (us++ds))
theorem Binds.all {K:W.Frag}{fd:FuncData}{ps:List Str}(h:∀us:List Value,us.length=ps.length->bindArgs fd ⟨us,[]⟩=pure (ps.zip us)):Binds K fd ps []:=λ s us _ hl=>by
 rw [List.append_nil] at hl ⊢
 exact .of_eq (h us hl)
def Passes (CX:CXT) (X:Cx) (E:XK):Prop:=∀(pins:List (Addr × Obj)) (σ:St) (H:Hp) (s:Shared) (e:Value) (s':Shared),Inv X pins σ H s->CX X.stack H s E e s'->X.xe e s'
section
variable {X:Cx}{CX:CXT}{k:Nat}{f C:Addr}{fd:FuncData}{ps:List Str}{sp:Sp}{dvs:List V}{ds:List Value}{E:XK}{x m:Str}{p pos apos:Pos}{e o:Expr}{es:List Expr}{ta:TE}{t:TA}
theorem x2p {pins:List (Addr × Obj)}{σ:St}{H:Hp}{s:Shared}{Q:VK}{us:List Value}{vs:List V}(F:FnOk X.prog X.w X.K X.mg X.base CX k f fd ps sp) (hr:Room k X.A) (hb:Binds X.K fd ps ds) (hd:Vals dvs ds) (hx:Passes CX X E)
  (I:Inv X pins σ H s) (r:Vals vs us) (h:sp (vs++dvs) H Q E):wpAny (model X.prog X.w) X.A (call (.ref f) us) (EP X pins σ Q) X.xe s:=by
 have r2:Vals (vs++dvs) (us++ds):=r.append hd
 have hl:(us++ds).length=ps.length:=by rw [← r2.length];exact F.len _ _ _ _ h
 refine wpAny_call (codeAny_mono (F.run X.A X.stack s H ⟨us,[]⟩ (us++ds) (vs++dvs) Q E hr I.env0 (hb s us I.kIn hl) r2 h) λ r s' hq=>?_)
 cases r with
 | error e=>exact hx pins σ H s e s' I hq
 | ok fl =>
  cases fl with
  | ret u=>exact I.after hq
  | next=>exact False.elim hq
  | brk=>exact False.elim hq
  | cont=>exact False.elim hq
theorem x0u (F:FnOk X.prog X.w X.K X.mg X.base CX k f fd ps sp) (hr:Room k X.A) (hg:Gl X x) (hm:X.mg x=some (.ref f)) (hk:W.keepIn X.K (.ref f)=true) (hb:Binds X.K fd ps ds) (hd:Vals dvs ds) (hx:Passes CX X E)
  (ha:PA X (e::es) t) (hdb:(x == ("__debug__" : Str))=false:=by decide) (he:starEach (e::es) X.env=(false,eval e X.env)::starEach es X.env:=by rfl) (hpl:(backTo pos (starEach es X.env)).any (·.1)=false:=by rfl) :
  PE X (.Call (.Name x p) (e::es) [] pos) (tCall sp dvs E t):=by
 intro pins s σ H Q I h
 refine wpAny_Call_Name_kw (z2y I hg hm ?_ hdb)
 refine W.callWith_K (h₀:=X.base) I.ok.mod.kin hk (thn (ha pos pins s σ H _ I h) λ us s1 ⟨vs,H1,I1,r,q⟩=>⟨I1.kIn,?_⟩) he hpl
 exact x2p F hr hb hd hx I1 r q
structure Mk (K:W.Frag) (C f:Addr):Prop where
 makes:W.makesIn K C=true
 init:W.findIn K (.ref C) "__init__" = some (some (.ref f))
 fn:W.isFn K (.ref f)=true
 kp:W.keepIn K (.ref C)=true
end
section
variable {X:Cx}{CX:CXT}{k:Nat}{f C:Addr}{fd:FuncData}{ps ks:List Str}{sp:Sp}{E:XK}{x m:Str}{p pos apos kpos:Pos}{e o:Expr}{es:List Expr}{kws:List Keyword}{te ta:TE}{t tk:TA}{nm:Option Str}
structure KBinds (K:W.Frag) (fd:FuncData) (ps ks:List Str) (g:List Value->List Value->List Value) (gV:List V->List V->List V):Prop where
 to:∀(s:Shared) (us ws:List Value),K.In s.heap->(g us ws).length=ps.length->BindsTo s fd ⟨us,ks.zip ws⟩ (ps.zip (g us ws))
 rel:∀ {vs:List V}{us:List Value}{zs:List V}{ws:List Value},Vals vs us->Vals zs ws->Vals (gV vs zs) (g us ws)
variable {g:List Value->List Value->List Value}{gV:List V->List V->List V}
end
structure FnScope (N P:List Str) (sc:Scope):Prop where
 kind:sc.kind=.function
 co:sc.isCoroutine=false
 gen:sc.isGenerator=false
 nd:N.Nodup
 pre:N.take P.length=P
 par:∀x∈P,sc.names.lookup x=some .local\/sc.names.lookup x=some .cell
 nofree:∀y∈sc.names,y.2≠.free
theorem z9b {kindOf:Str->Option NameKind}{x:Str}:∀ {binds:List (Str × Value)}{m:Str->Option Value},(∀v,(x,v) ∉ binds)->bindL kindOf binds m x=m x
 | [],_,_=>rfl
 | (n,v)::r,m,h=>by
  unfold bindL
  rw [z9b λ w hw=>h w (List.mem_cons_of_mem _ hw)]
  split
  ·have:x≠n:=by rintro rfl;exact h v List.mem_cons_self
   simp [this]
  ·rfl
theorem z9d {kindOf:Str->Option NameKind}{x:Str}:∀ {binds:List (Str × Value)}{m:Str->Option Value},(∀v,(x,v) ∉ binds)->bindC kindOf binds m x=m x
 | [],_,_=>rfl
 | (n,v)::r,m,h=>by
  unfold bindC
  rw [z9d λ w hw=>h w (List.mem_cons_of_mem _ hw)]
  split
  ·rfl
  ·have:x≠n:=by rintro rfl;exact h v List.mem_cons_self
   simp [this]
theorem z9c {kindOf:Str->Option NameKind}{x:Str}{v:Value}:∀ {P:List Str}{vs:List Value}{i:Nat}{m:Str->Option Value},P.Nodup->P[i]?=some x->vs[i]?=some v->kindOf x=some .local ->
  bindL kindOf (P.zip vs) m x=some v
 | [],_,_,_,_,h,_,_=>by simp at h
 | _::_,[],_,_,_,_,h,_=>by simp at h
 | p::P,w::vs,0,m,nd,h1,h2,hk=>by
  simp at h1 h2;subst h1;subst h2
  show bindL kindOf ((p,w)::P.zip vs) m p=_
  unfold bindL
  rw [z9b λ v hv=>(List.nodup_cons.mp nd).1 (List.of_mem_zip hv).1,if_pos hk]
  simp
 | p::P,w::vs,i+1,m,nd,h1,h2,hk=>by
  show bindL kindOf ((p,w)::P.zip vs) m x=_
  unfold bindL
  exact z9c (i:=i) (List.nodup_cons.mp nd).2 (by simpa using h1) (by simpa using h2) hk
theorem z9e {kindOf:Str->Option NameKind}{x:Str}{v:Value}:∀ {P:List Str}{vs:List Value}{i:Nat}{m:Str->Option Value},P.Nodup->P[i]?=some x->vs[i]?=some v->kindOf x≠some .local ->
  bindC kindOf (P.zip vs) m x=some v
 | [],_,_,_,_,h,_,_=>by simp at h
 | _::_,[],_,_,_,_,h,_=>by simp at h
 | p::P,w::vs,0,m,nd,h1,h2,hk=>by
  simp at h1 h2;subst h1;subst h2
  show bindC kindOf ((p,w)::P.zip vs) m p=_
  unfold bindC
  rw [z9d λ v hv=>(List.nodup_cons.mp nd).1 (List.of_mem_zip hv).1,if_neg hk]
  simp
 | p::P,w::vs,i+1,m,nd,h1,h2,hk=>by
  show bindC kindOf ((p,w)::P.zip vs) m x=_
  unfold bindC
  exact z9e (i:=i) (List.nodup_cons.mp nd).2 (by simpa using h1) (by simpa using h2) hk
def start (N:List Str) (vs:List V):St:=vs.map some++List.replicate (N.length - vs.length) none
def cxOf (CX:CXT) (P:Program) (w:World) (K:W.Frag) (mg:Str->Option Value) (base:Heap) (N:List Str) (qual:Str) (scope:Scope) (f:Addr) (cd:Value) (A:Around) (outer:List Env) (s:Shared) (H:Hp) (E:XK):Cx where
 prog:=P
 w:=w
 K:=K
 mg:=mg
 base:=base
 A:=A.deeper (envOfC qual scope s.heap.objs.size f cd)
 N:=N
 s₀:=s
 H₀:=H
 env:=envOfC qual scope s.heap.objs.size f cd
 outer:=outer
 stack:=envOfC qual scope s.heap.objs.size f cd::outer
 ex:=[]
 calm:=true
 fn:=λ _=>true
 pn:=[]
 xe:=λ e s'=>wpAny (model P w) (A.deeper (envOfC qual scope s.heap.objs.size f cd)) (leaving (envOfC qual scope s.heap.objs.size f cd) e) (λ _ s''=>CX outer H s E e s'') (λ e' s''=>CX outer H s E e' s'') s'
theorem y1i {sc:Scope}{n:Nat}{x:Str}(h:sc.names.lookup x=some .cell):∃c,(cellsFrom n sc.names []).lookup x=some c:=by
 have q:=W.cellsFrom_some sc.names n [] (.inl h)
 exact Option.isSome_iff_exists.mp q
theorem y5i {CX:CXT}{P:Program}{w:World}{K:W.Frag}{mg:Str->Option Value}{base:Heap}{N ps:List Str}{qual:Str}{scope:Scope}{f:Addr}{cd:Value}{A:Around}{outer:List Env}{s s1:Shared}{H:Hp}{E:XK}{us:List Value}{vs:List V}
  (S:FnScope N ps scope) (hd:A.handled=none) (e0:Env0 P w K mg base A outer s H) (hl:vs.length=ps.length) (r:Vals vs us)
  (x:InCallC s s.heap.objs.size (bindL (envOfC qual scope s.heap.objs.size f cd).kindOf (ps.zip us) λ _=>none) (cellsFrom (s.heap.objs.size+1) scope.names []) (bindC (envOfC qual scope s.heap.objs.size f cd).kindOf (ps.zip us) λ _=>none) s1) :
  Inv (cxOf CX P w K mg base N qual scope f cd A outer s H E) [] (start N vs) H s1:=by
 have hpl:ps.length≤N.length:=by have:=congrArg List.length S.pre;rw [List.length_take] at this;omega
 obtain ⟨h1,tk,rfl,hk⟩:=x.done
 have noA:∀b:Addr,b ∉ (cxOf CX P w K mg base N qual scope f cd A outer s H E).ex:=λ b z=>absurd (show b∈([]:List Addr) from z) (by simp)
 refine ⟨⟨e0.mod,S.kind,rfl,rfl,Nat.le_refl _,λ y z c h1 h2=>?_,λ y hy=>?_,λ y c _ h=>?_,λ _=>hd,Around.frames_deeper e0.frames,.inr ⟨rfl,rfl⟩,λ b z=>absurd z (noA b),e0.bs,e0.bsz,λ b _ _=>noA b,λ b z=>absurd z (noA b),e0.funs,e0.frf⟩,
  rfl,e0.bare,Un.kept hk,⟨_,x.toInCall.ns,λ i y v h1 h2 h3=>?_⟩,λ y c h=>⟨_,x.cell y c h⟩,e0.hok.fresh (Nat.le_refl _),λ y c h=>?_,λ p hp=>absurd (show p∈([]:List (Addr × Obj)) from hp) (by simp),e0.hok.kept hk,?_⟩
 ·exact name_of_addr x.apart (PySem.mem_of_lookup h1) (PySem.mem_of_lookup h2)
 ·have hy:scope.names.lookup y=some .cell\/scope.names.lookup y=some .free:=hy
  rcases hy with hy | hy
  ·exact y1i hy
  ·exact absurd rfl (S.nofree _ (PySem.mem_of_lookup hy))
 ·exact Nat.le_of_lt (x.above y c (PySem.mem_of_lookup h))
 ·have hi:i < vs.length:=by
   unfold start at h2
   by_cases hi:i < vs.length
   ·exact hi
   ·rw [List.getElem?_append_right (by simpa using hi)] at h2
    rw [List.getElem?_replicate] at h2
    split at h2<;>cases h2
  have ha:vs[i]?=some v:=by
   unfold start at h2
   rw [List.getElem?_append_left (by simpa using hi),List.getElem?_map] at h2
   cases e:vs[i]? with
   | none=>rw [e] at h2;cases h2
   | some a=>rw [e] at h2;cases h2;rfl
  obtain ⟨u,hu,rv⟩:=r.get ha
  have hp:ps[i]?=some y:=by
   rw [← S.pre,List.getElem?_take_of_lt (by omega)];exact h1
  have ndP:ps.Nodup:=by rw [← S.pre];exact S.nd.sublist (List.take_sublist _ _)
  refine ⟨u,rv,?_⟩
  rcases S.par y (List.mem_of_getElem? hp) with k | k
  ·exact .inl ⟨k,z9c ndP hp hu k⟩
  ·obtain ⟨c,e⟩:=y1i (n:=s.heap.objs.size+1) k
   refine .inr ⟨.inl k,c,e,?_⟩
   have q:=x.cell y c e
   rw [z9e ndP hp hu (by show scope.names.lookup y≠_;rw [k];decide)] at q
   exact q
 ·exact e0.hok.fresh (Nat.le_of_lt (x.above y c (PySem.mem_of_lookup h)))
 ·unfold start
  show _=N.length
  rw [List.length_append,List.length_map,List.length_replicate]
  omega
theorem x1w {CX:CXT}{P:Program}{w:World}{K:W.Frag}{mg:Str->Option Value}{base:Heap}{k:Nat}{f:Addr}{name qual:Str}{params:Arguments}{body:List Stmt}{scope:Scope}{dV kV doc pm cdv ct oc:Value}{an od:Option Addr}
  {osl:Array (Option Value)}{N ps:List Str}{sp:Sp}(lk:K.lookup f=some ⟨oc,od,.func (W.fnOf name qual params body scope dV kV doc pm an cdv ct),osl⟩) (hcd:W.codeIn K cdv qual=true) (S:FnScope N ps scope)
  (len:∀vs H Q E,sp vs H Q E->vs.length=ps.length)
  (hbody:∀(A:Around) (outer:List Env) (s:Shared) (H:Hp) (vs:List V) (Q:VK) (E:XK),Room k (A.deeper (envOfC qual scope s.heap.objs.size f cdv))->sp vs H Q E ->
   ∃t,PSs (cxOf CX P w K mg base N qual scope f cdv A outer s H E) body t/\t { nx:=λ _ H'=>Q .non H',rt:=Q } (start N vs) H) :
  FnOk P w K mg base CX (k+1) f (W.fnOf name qual params body scope dV kV doc pm an cdv ct) ps sp:=by
 refine ⟨len,λ A outer s H args us vs Q E hr e0 hb r hsp=>?_⟩
 have hl:=len _ _ _ _ hsp
 have KX:K.In s.heap:=e0.mod.kin.keeps λ b o e=>(e0.bs b o e).1
 have lim:s.heap.NoLimit:=e0.mod.nolimit.keeps λ b o e=>(e0.bs b o e).1
 have hkind:∀y∈ps.zip us,scope.names.lookup y.1=some .local\/(scope.names.lookup y.1=some .cell/\((cellsFrom (s.heap.objs.size+1) scope.names []).lookup y.1).isSome=true):=λ ⟨n,v⟩ hy=>by
  rcases S.par n (List.of_mem_zip hy).1 with q | q
  ·exact .inl q
  ·exact .inr ⟨q,W.cellsFrom_some _ _ _ (.inl q)⟩
 refine codeAny_call_function hr.depth (KX _ _ lk) rfl S.co S.gen rfl (W.codeRec_of KX hcd) (hb _ _ _ _ ?_)
 refine wpAny_newFunctionEnv_cells S.kind hkind λ env he s1 x=>?_
 subst he
 refine ⟨lim.keeps x.toInCall.keep,codeAny_func ?_⟩
 obtain ⟨t,ht,hq⟩:=hbody A outer s H vs Q E (hr.deeper _) hsp
 have I:Inv (cxOf CX P w K mg base N qual scope f cdv A outer s H E) [] (start N vs) H s1:=y5i S hr.hd e0 hl r x
 refine wpAny_mono (ht [] s1 (start N vs) H _ I hq) (λ fl s' hs=>?_) λ e s' hs=>hs
 have fin:∀ {σ':St}{H':Hp}{v:V}{u:Value},Inv (cxOf CX P w K mg base N qual scope f cdv A outer s H E) [] σ' H' s'->RelV v u->Q v H'->CE outer P w H s Q u s' :=
  λ {σ' H' v u} J rv q=>⟨v,H',J.os,J.bare,J.base,J.hok,rv,q⟩
 cases fl with
 | ret u =>
  obtain ⟨v,σ',H',J,rv,q⟩:=hs
  exact fin J rv q
 | next =>
  obtain ⟨σ',H',J,q⟩:=hs
  exact fin (v:=V.non) (u:=Value.none) J rfl q
 | brk =>
  obtain ⟨_,_,_,q⟩:=hs
  exact False.elim q
 | cont =>
  obtain ⟨_,_,_,q⟩:=hs
  exact False.elim q
section
variable {X:Cx}{x:Str}{p pos:Pos}{e:Expr}{es:List Expr}{t:TA}{id T:String}{r:List V->Hp->VK->Prop}
def tCB (r:List V->Hp->VK->Prop) (t:TA):TE:=λ σ H Q=>t σ H λ vs H1=>r vs H1 Q
theorem z0o (hc:CallR X (.builtin id) r) (hg:Gl X x) (hm:X.mg x=none) (hv:bootBuiltins x=some (.builtin id)) (ha:PA X (e::es) t) (hn:x ≠ "__name__" := by decide) (hdb:(x == ("__debug__" : Str))=false:=by decide)
  (he:starEach (e::es) X.env=(false,eval e X.env)::starEach es X.env:=by rfl) (hpl:(backTo pos (starEach es X.env)).any (·.1)=false:=by rfl):PE X (.Call (.Name x p) (e::es) [] pos) (tCB r t):=by
 intro pins s σ H Q I h
 refine wpAny_Call_Name_kw (z3p I hg hm hv ?_ hn hdb)
 exact PyProof.Rows.callWith_builtin1 (thn (ha pos pins s σ H _ I h) λ us s1 ⟨vs,H1,I1,r1,q1⟩=>hc pins s1 σ H1 vs us Q I1 r1 q1) he hpl
theorem z1l (hc:CallR X (.type T) r) (hg:Gl X x) (hm:X.mg x=none) (hv:bootBuiltins x=some (.type T)) (ha:PA X (e::es) t) (hn:x ≠ "__name__" := by decide) (hdb:(x == ("__debug__" : Str))=false:=by decide)
  (he:starEach (e::es) X.env=(false,eval e X.env)::starEach es X.env:=by rfl) (hpl:(backTo pos (starEach es X.env)).any (·.1)=false:=by rfl):PE X (.Call (.Name x p) (e::es) [] pos) (tCB r t):=by
 intro pins s σ H Q I h
 refine wpAny_Call_Name_kw (z3p I hg hm hv ?_ hn hdb)
 exact PyProof.Rows.callWith_type1 (thn (ha pos pins s σ H _ I h) λ us s1 ⟨vs,H1,I1,r1,q1⟩=>hc pins s1 σ H1 vs us Q I1 r1 q1) he hpl
end
end L2
namespace HT
open PySem PyProof.Rows
section
open PySem.SeqAt
open PySem.AutoSeq1 (wpAny_loadPart')
open PySem.MeetsSeq PySem.MeetsSeq2 PySem.MeetsSeq3
end
section
variable {prog:Program}{w:World}{A:Around}{E:Value->Shared->Prop}{s:Shared}
theorem cat_tup {t b:Addr}{vs ws:List Value}{Q:Value->Shared->Prop}(ht:IsTup s.heap t vs.toArray) (hb:IsTup s.heap b ws.toArray) (hv:vs≠[])
  (h1:ws=[]->Q (.ref t) s) (h2:ws≠[]->Q (.ref s.heap.objs.size) { s with heap:=s.heap.push { cls:=.type "tuple",data:=.seq (vs++ws).toArray } })
  (hsz:vs.length+ws.length≤sizeLine):wpAny (model prog w) A (binaryOp .Add (.ref t) (.ref b)) Q E s:=by
 obtain ⟨⟨cls,dd,data,sl⟩,ho,hc,n,hd⟩:=id ht
 obtain ⟨⟨cls2,dd2,data2,sl2⟩,ho2,hc2,n2,hd2⟩:=id hb
 simp only at hc hd hc2 hd2
 subst hc hd hc2 hd2
 have e:vs.toArray++ws.toArray=(vs++ws).toArray:=by simp
 by_cases hw:ws=[]
 ·exact concat_meets ⟨_,ho,rfl⟩ ⟨_,ho2,rfl⟩ noFill_tuple_add seq_tuple_add PySem.F.slot_tuple_add PySem.F.entry_tuple_add (PySem.F.args_tuple_add_2 _ _)
   (tuple_addW1 t b vs.toArray ws.toArray n n2 dd dd2 sl sl2 (by simpa using hv) (by simp [hw])) ⟨ho,ho2,h1 hw⟩
 ·refine concat_meets ⟨_,ho,rfl⟩ ⟨_,ho2,rfl⟩ noFill_tuple_add seq_tuple_add PySem.F.slot_tuple_add PySem.F.entry_tuple_add (PySem.F.args_tuple_add_2 _ _)
   (tuple_addW2 t b vs.toArray ws.toArray n n2 dd dd2 sl sl2 (by simpa using hv) (by simpa using hw) (by rw [List.size_toArray,List.size_toArray];exact hsz)) ⟨ho,ho2,?_⟩
  rw [e]
  exact h2 hw
def sIx (n d:Nat):Option Int->Nat
 | none=>d
 | some v=>if v < 0 then (v+(n:Int)).toNat else min v.toNat n
theorem x2m (n d:Nat) (hd:d≤n) (o:Option Int):sIx n d o≤n:=by
 cases o with
 | none=>exact hd
 | some v =>
  show (if v < 0 then (v+(n:Int)).toNat else min v.toNat n)≤n
  by_cases hv:v < 0
  ·rw [if_pos hv];omega
  ·rw [if_neg hv];exact Nat.min_le_right _ _
theorem y6i (v:Int) (n d:Nat):(if v < 0 then max (v+(n:Int)) 0 else min v (n:Int))=((sIx n d (some v):Nat):Int):=by
 show (if v < 0 then max (v+(n:Int)) 0 else min v (n:Int))=(((if v < 0 then (v+(n:Int)).toNat else min v.toNat n):Nat):Int)
 by_cases hv:v < 0
 ·simp only [if_pos hv];omega
 ·simp only [if_neg hv];omega
theorem y2p (lo hi:Option Int) (n:Nat):Builtin.Slice.sliceAdjust lo hi 1 (n:Int)=(((sIx n 0 lo:Nat):Int),((sIx n n hi:Nat):Int)):=by
 have h1:¬((1:Int) < 0):=by omega
 unfold Builtin.Slice.sliceAdjust
 simp only [h1,if_false]
 refine Prod.ext ?_ ?_
 ·cases lo with
  | none=>rfl
  | some v=>exact y6i v n 0
 ·cases hi with
  | none=>rfl
  | some v=>exact y6i v n n
theorem y1z (i j:Nat):Builtin.Slice.slicePlaces (i:Int) (j:Int) 1=j - i:=by
 unfold Builtin.Slice.slicePlaces
 have h1:(1:Int) > 0:=by omega
 simp only [h1,if_true,Int.ediv_one]
 split<;>omega
theorem z6c {v:Value}{o:Option Int}{Q:Option Int->Shared->Prop}(p:IsPart v o) (h:Q o s):wpAny (model prog w) A (Builtin.Slice.slicePartIndex v) Q E s:=by
 cases p with
 | none=>exact slicePart_none h
 | int i t=>exact slicePart_int h
theorem z3e {sl:Addr}{vl vu:Value}{lo hi:Option Int}{n:Nat}{Q:Int × Int × Nat->Shared->Prop}(hs:s.heap.IsSliceOf sl vl vu .none) (pl:IsPart vl lo) (pu:IsPart vu hi)
  (h:Q (((sIx n 0 lo:Nat):Int),1,sIx n n hi - sIx n 0 lo) s):wpAny (model prog w) A (Builtin.Slice.sliceApplied (.ref sl) (pure (n:Int))) Q E s:=by
 obtain ⟨os,hos,hcs,hds⟩:=id hs
 unfold Builtin.Slice.sliceApplied Builtin.Slice.sliceFields
 refine wpAny_bind (wpAny_bind (wpAny_field hos hds (x:=vl) rfl (wpAny_bind (wpAny_field hos hds (x:=vu) rfl (wpAny_bind (wpAny_field hos hds (x:=.none) rfl (wpAny_pure ?_)))))))
 refine wpAny_bind (slicePart_none ?_)
 show wpAny _ _ (if ((1:Int) == 0)=true then _ else _) _ _ s
 rw [if_neg (by decide)]
 refine wpAny_bind (z6c pl (wpAny_bind (z6c pu (wpAny_bind (wpAny_pure ?_)))))
 show wpAny _ _ (match Builtin.Slice.sliceAdjust lo hi 1 (n:Int) with | (lo,hi)=>pure (lo,(1:Int),Builtin.Slice.slicePlaces lo hi 1)) _ _ s
 rw [y2p lo hi n]
 show wpAny _ _ (pure (((sIx n 0 lo:Nat):Int),(1:Int),Builtin.Slice.slicePlaces ((sIx n 0 lo:Nat):Int) ((sIx n n hi:Nat):Int) 1)) _ _ s
 rw [y1z]
 exact wpAny_pure h
theorem y7j (xs:Array Value) (i k:Nat):((List.range k).filterMap λ (m:Nat)=>xs[((i:Int)+(m:Int) * 1).toNat]?).toArray=((xs.toList.drop i).take k).toArray:=by
 have e:(λ (m:Nat)=>xs[((i:Int)+(m:Int) * 1).toNat]?)=λ m=>xs[i+m]?:=by
  funext m
  have:((i:Int)+(m:Int) * 1).toNat=i+m:=by omega
  rw [this]
 rw [e]
 have:=pick_run xs i k
 rw [List.filterMap_map] at this
 have e2:((λ x=>xs[x]?) ∘ λ x=>i+x)=λ m=>xs[i+m]?:=rfl
 rw [e2] at this
 rw [this]
theorem getItem_tuple_cut {t sl:Addr}{items:Array Value}{vl vu:Value}{lo hi:Option Int}{Q:Value->Shared->Prop}(ht:IsTup s.heap t items) (hs:s.heap.IsSliceOf sl vl vu .none) (pl:IsPart vl lo) (pu:IsPart vu hi)
  (hw:¬(sIx items.size 0 lo=0/\sIx items.size items.size hi=items.size))
  (h:Q (.ref s.heap.objs.size) { s with heap:=s.heap.push { cls:=.type "tuple",data:=.seq ((items.toList.drop (sIx items.size 0 lo)).take (sIx items.size items.size hi - sIx items.size 0 lo)).toArray } })
  (hsz:items.size≤sizeLine):wpAny (model prog w) A (getItem (.ref t) (.ref sl)) Q E s:=by
 have htake:sizeOk (.seq ((items.toList.drop (sIx items.size 0 lo)).take (sIx items.size items.size hi - sIx items.size 0 lo)).toArray):=by
  show ((items.toList.drop (sIx items.size 0 lo)).take (sIx items.size items.size hi - sIx items.size 0 lo)).toArray.size≤sizeLine
  rw [List.size_toArray,List.length_take,List.length_drop,Array.length_toList]
  omega
 have hj:sIx items.size items.size hi≤items.size:=x2m _ _ (Nat.le_refl _) hi
 obtain ⟨os,hos,hcs,hds⟩:=id hs
 have hTs:s.TypeIs (.ref sl) "slice" := ⟨os,hos,hcs⟩
 unfold getItem
 try with_reducible refine wpAny_holding ?_
 first | refine wpAny_bind (wpAny_pure ?_) | skip
 refine wpAny_bind (wpAny_sequenceKey ht.typeIs (by decide) ?_)
 refine wpAny_bind (wpAny_callSpecial?_slot (name:=Str.ofString "__getitem__") ht.typeIs PyProof.Rows.slot_tuple_getitem
  (wpAny_call_entry PyProof.Rows.slot_tuple_getitem ht.typeIs entry_tuple_getitem ?_ (args_tuple_getitem _ _)))
 show wpAny _ _ (Builtin.Tuple.tupleItemsOf (.ref t) >>= _) _ _ s
 refine wpAny_bind (tupleItemsOf_ ht ?_)
 refine wpAny_bind (wpAny_typeOf hTs ?_)
 rw [if_pos (by decide)]
 refine wpAny_bind (z3e hs pl pu ?_)
 have hno:¬((((sIx items.size 0 lo:Nat):Int) == 0 && (1:Int) == 1 && (sIx items.size items.size hi - sIx items.size 0 lo) == items.size)=true):=by
  intro q
  rw [Bool.and_eq_true,Bool.and_eq_true] at q
  have q1:((sIx items.size 0 lo:Nat):Int)=0:=eq_of_beq q.1.1
  have q2:sIx items.size items.size hi - sIx items.size 0 lo=items.size:=eq_of_beq q.2
  exact hw ⟨by omega,by omega⟩
 show wpAny _ _ (if (((sIx items.size 0 lo:Nat):Int) == 0 && (1:Int) == 1 && (sIx items.size items.size hi - sIx items.size 0 lo) == items.size)=true then _ else _) _ _ s
 rw [if_neg hno,y7j]
 first
  | exact wpAny_bind (m:=Builtin.Tuple.tupleExact _) (wpAny_newObj_type (wpAny_pure ⟨_,rfl,wpAny_pure h⟩) htake)
  | exact wpAny_bind (m:=Builtin.Tuple.tupleExact _) (wpAny_newObj_type (wpAny_bind (wpAny_pure (wpAny_pure ⟨_,rfl,wpAny_pure h⟩))) htake)
  | exact wpAny_bind (wpAny_bind (m:=Builtin.Tuple.tupleExact _) (wpAny_newObj_type (wpAny_pure (wpAny_pure ⟨_,rfl,wpAny_pure h⟩)) htake))
  | exact wpAny_bind (wpAny_bind (m:=Builtin.Tuple.tupleExact _) (wpAny_newObj_type (wpAny_pure ⟨_,rfl,wpAny_pure h⟩) htake))
end
end HT
namespace L2
open PySem PySem.Spec PyProof.Rows
abbrev TO:=St->Hp->(Option Int->Hp->Prop)->Prop
def PO (X:Cx) (e:Option Expr) (t:TO):Prop :=
 ∀(pins:List (Addr × Obj)) (s:Shared) (σ:St) (H:Hp) (Q:Option Int->Hp->Prop),Inv X pins σ H s->t σ H Q ->
  wpAny (model X.prog X.w) X.A (evalPart e X.env) (λ u s'=>∃o H',Inv X pins σ H' s'/\IsPart u o/\Q o H') X.xe s
def tNoPart:TO:=λ _ H Q=>Q none H
def tPart (t:TE):TO:=λ σ H Q=>t σ H λ x H1=>∃i,x=.int i/\Q (some i) H1
theorem z3m {ns:List Int}:∀ {us:List Value},Vals (ns.map V.int) us->IntsAre us ns:=by
 induction ns with
 | nil=>intro us r;rw [List.map_nil] at r;cases r;exact .nil
 | cons n ns ih =>
  intro us r
  rw [List.map_cons] at r
  cases r with
  | cons r1 r2 =>
   obtain ⟨t,e⟩:=r1
   subst e
   exact .cons n t (ih r2)
section
variable {X:Cx}{e:Expr}{te:TE}{lo hi:Option Expr}{tl th:TO}{pos p2:Pos}
theorem z1o:PO X none tNoPart:=by
 intro pins s σ H Q I h
 rw [evalPart_none]
 exact wpAny_pure ⟨none,H,I,.none,h⟩
theorem z1k (h:PE X e te):PO X (some e) (tPart te):=by
 intro pins s σ H Q I hw
 rw [evalPart_some]
 refine thn (h pins s σ H _ I hw) λ u s1 ⟨x,H1,I1,r1,q1⟩=>?_
 obtain ⟨i,rfl,q⟩:=q1
 obtain ⟨t,rfl⟩:=r1
 exact ⟨some i,H1,I1,.int i t,q⟩
def SlR (X:Cx) (r:V->Option Int->Option Int->Hp->VK->Prop):Prop :=
 ∀(pins:List (Addr × Obj)) (s:Shared) (σ:St) (H:Hp) (x:V) (v vl vu:Value) (lo hi:Option Int) (sl:Addr) (Q:VK),Inv X pins σ H s->RelV x v->s.heap.IsSliceOf sl vl vu .none->IsPart vl lo->IsPart vu hi->r x lo hi H Q ->
  ∃T id,typeLookup (.type T) "__getitem__" = pure (some (.builtin id))/\s.TypeIs v T/\wpAny (model X.prog X.w) X.A (getItem v (.ref sl)) (EP X pins σ Q) X.xe s
def tSl (r:V->Option Int->Option Int->Hp->VK->Prop) (te:TE) (tl th:TO):TE:=λ σ H Q=>te σ H λ x H1=>tl σ H1 λ l H2=>th σ H2 λ u H3=>r x l u H3 Q
theorem z1i {r:V->Option Int->Option Int->Hp->VK->Prop}(hr:SlR X r) (he:PE X e te) (hl:PO X lo tl) (hu:PO X hi th):PE X (.Subscript e (.Slice lo hi none p2) pos) (tSl r te tl th):=by
 intro pins s σ H Q I h
 refine Subscript_ (thn (he pins s σ H _ I h) λ v s1 ⟨x,H1,I1,r1,q1⟩=>?_)
 refine wpAny_Slice (thn (hl pins s1 σ H1 _ I1 q1) λ vl s2 ⟨l,H2,I2,pl,q2⟩=>thn (hu pins s2 σ H2 _ I2 q2) λ vu s3 ⟨u,H3,I3,pu,q3⟩=>?_)
 rw [evalPart_none]
 refine wpAny_pure ?_
 have I4:Inv X pins σ H3 { s3 with heap:=s3.heap.push { cls:=.type "slice",data:=.fields #[vl,vu,.none] } }:=I3.kept (t':=s3.toks) λ b ob q=>Heap.get?_push_of_some _ q
 obtain ⟨T,id,hT,ht,hg⟩:=hr pins { s3 with heap:=s3.heap.push { cls:=.type "slice",data:=.fields #[vl,vu,.none] } } σ H3 x v vl vu l u s3.heap.objs.size Q I4 r1 (Heap.IsSliceOf.new ..) pl pu q3
 show wpAny (model X.prog X.w) X.A (subscriptTail e (.Slice lo hi none p2) v (.ref s3.heap.objs.size)) (EP X pins σ Q) X.xe { s3 with heap:=s3.heap.push { cls:=.type "slice",data:=.fields #[vl,vu,.none] } }
 exact tail_any (ops:=[.ref s3.heap.objs.size,v]) ht hT hg (by with_unfolding_all rfl)
def cutV (xs:List V) (lo hi:Option Int):List V:=(xs.drop (HT.sIx xs.length 0 lo)).take (HT.sIx xs.length xs.length hi - HT.sIx xs.length 0 lo)
theorem z5m (xs:List V) (lo hi:Option Int):(cutV xs lo hi).length≤xs.length:=by
 unfold cutV
 rw [List.length_take,List.length_drop]
 omega
def rSlT (K:W.Frag):V->Option Int->Option Int->Hp->VK->Prop:=λ x lo hi H Q=>∃a xs,x=.ref a/\SqT K H a xs /\
 ¬(HT.sIx xs.length 0 lo=0/\HT.sIx xs.length xs.length hi=xs.length)/\∀p,H p=none->Q (.ref p) (upd H p (.tup (cutV xs lo hi)))
theorem x2i:SlR X (rSlT X.K):=by
 intro pins s σ H x v vl vu lo hi sl Q I rx hs pl pu h
 obtain ⟨a,xs,rfl,hx,hw,q⟩:=h
 cases rx
 obtain ⟨its,r,ht,hz⟩:=I.tuple hx
 have hlen:its.toArray.size=xs.length:=by rw [List.size_toArray];exact r.length.symm
 refine ⟨"tuple",_,PyProof.Rows.slot_tuple_getitem.lookup,ht.typeIs,?_⟩
 refine HT.getItem_tuple_cut ht hs pl pu (by rw [hlen];exact hw) ?_ (by rw [hlen];exact hz)
 rw [hlen]
 refine ⟨.ref s.heap.objs.size,_,I.laid (t':=s.toks) (o:=.tup (cutV xs lo hi)) (λ b ob q=>Heap.get?_push_of_some _ q) (Nat.le_refl _) ?_,rfl,q _ (I.hok.fresh (Nat.le_refl _))⟩
 exact ⟨Nat.le_trans (z5m xs lo hi) hz,_,(r.drop (HT.sIx xs.length 0 lo)).take (HT.sIx xs.length xs.length hi - HT.sIx xs.length 0 lo),IsTup.new _ _⟩
def rCatT (K:W.Frag):R2:=λ x y H Q=>∃a b xs ys,x=.ref a/\y=.ref b/\SqT K H a xs/\SqT K H b ys/\xs≠[]/\xs.length+ys.length≤sizeLine /\
 (ys=[]->Q (.ref a) H)/\(ys≠[]->∀p,H p=none->Q (.ref p) (upd H p (.tup (xs++ys))))
theorem Vals.nil_iff {xs:List V}{us:List Value}(r:Vals xs us):us=[] ↔ xs=[]:=by
 cases r with
 | nil=>simp
 | cons _ _=>simp
theorem x0z:OpR X (binaryOp .Add) (rCatT X.K):=by
 intro pins s σ H x y v u Q I rx ry h
 obtain ⟨a,b,xs,ys,rfl,rfl,ha,hb,hx,hz,q1,q2⟩:=h
 cases rx
 cases ry
 obtain ⟨its,r1,p1,_⟩:=I.tuple ha
 obtain ⟨its2,r2,p2,_⟩:=I.tuple hb
 refine HT.cat_tup p1 p2 (λ z=>hx (r1.nil_iff.mp z)) (λ z=>⟨.ref a,H,I,rfl,q1 (r2.nil_iff.mp z)⟩) (λ z=>?_) (by rw [← r1.length,← r2.length];exact hz)
 refine ⟨.ref s.heap.objs.size,_,I.laid (t':=s.toks) (o:=.tup (xs++ys)) (λ b ob q=>Heap.get?_push_of_some _ q) (Nat.le_refl _) ?_,rfl,q2 (λ w=>z (r2.nil_iff.mpr w)) _ (I.hok.fresh (Nat.le_refl _))⟩
 exact ⟨by rw [List.length_append];exact hz,_,r1.append r2,IsTup.new _ _⟩
end
def ixN (n:Nat) (i:Int):Option Nat:=if 0≤i then (if i < n then some i.toNat else none) else if -(n:Int)≤i then some (i+n).toNat else none
def atI {α:Type}(xs:List α) (i:Int):Option α:=(ixN xs.length i).bind λ j=>xs[j]?
theorem y5g {n:Nat}{i:Int}{j:Nat}(h:ixN n i=some j):seqIndex? i n=some j/\j < n/\-(n:Int)≤i/\i < n:=by
 unfold ixN at h
 by_cases h0:0≤i
 ·rw [if_pos h0] at h
  by_cases h1:i < n
  ·rw [if_pos h1] at h
   have e:i.toNat=j:=Option.some.inj h
   exact ⟨by rw [seqIndex_of h0 h1,e],by omega,by omega,h1⟩
  ·rw [if_neg h1] at h;cases h
 ·rw [if_neg h0] at h
  by_cases h1:-(n:Int)≤i
  ·rw [if_pos h1] at h
   have e:(i+n).toNat=j:=Option.some.inj h
   exact ⟨by rw [seqIndex_neg (by omega) h1,e],by omega,h1,by omega⟩
  ·rw [if_neg h1] at h;cases h
theorem y6n {α:Type}{xs:List α}{i:Int}{v:α}(h:atI xs i=some v):∃j,seqIndex? i xs.length=some j/\xs[j]?=some v/\j < xs.length/\-(xs.length:Int)≤i/\i < xs.length:=by
 unfold atI at h
 cases e:ixN xs.length i with
 | none=>rw [e] at h;cases h
 | some j =>
  rw [e] at h
  obtain ⟨h1,h2,h3,h4⟩:=y5g e
  exact ⟨j,h1,h,h2,h3,h4⟩
theorem z0m {α:Type}{xs:List α}{j:Nat}{v:α}(h:xs[j]?=some v):atI xs (j:Int)=some v:=by
 have hj:j < xs.length:=(List.getElem?_eq_some_iff.mp h).1
 have e:ixN xs.length (j:Int)=some j:=by
  unfold ixN
  rw [if_pos (by omega),if_pos (by omega)];simp
 unfold atI;rw [e];exact h
def PlainIx (b:Expr):Prop:=∀o i,subscripted b false o i=operate [o,i] (getItem o i)
def IxR (X:Cx) (r:R2):Prop :=
 ∀(value slice:Expr) (pins:List (Addr × Obj)) (s:Shared) (σ:St) (H:Hp) (x y:V) (v u:Value) (Q:VK),Inv X pins σ H s->RelV x v->RelV y u->r x y H Q ->
  subscripted slice false v u=operate [v,u] (getItem v u)->wpAny (model X.prog X.w) X.A (subscriptTail value slice v u) (EP X pins σ Q) X.xe s
def MtR (X:Cx) (id:String) (r:V->List V->Hp->VK->Prop):Prop :=
 ∀(pins:List (Addr × Obj)) (s:Shared) (σ:St) (H:Hp) (x:V) (xs:List V) (v:Value) (us:List Value) (Q:VK),Inv X pins σ H s->RelV x v->Vals xs us->r x xs H Q ->
  wpAny (model X.prog X.w) X.A (call (.builtin id) (v::us)) (EP X pins σ Q) X.xe s
section
variable {X:Cx}{a b:Expr}{ta tb:TE}{pos:Pos}
theorem z0u {r:R2}(hr:IxR X r) (ha:PE X a ta) (hb:PE X b tb) (hs:PlainIx b):PE X (.Subscript a b pos) (tOp r ta tb):=by
 intro pins s σ H Q I h
 exact Subscript_ (x5j ha hb I h λ v u s2 x y H2 I2 rx ry q=>hr a b pins s2 σ H2 x y v u Q I2 rx ry q (hs _ _))
def rIxL (K:W.Frag):R2:=λ x y H Q=>∃p xs i v,x=.ref p/\y=.int i/\SqL K H p xs/\atI xs i=some v/\Q v H
def rIxT (K:W.Frag):R2:=λ x y H Q=>∃p xs i v,x=.ref p/\y=.int i/\SqT K H p xs/\atI xs i=some v/\Q v H
theorem y0o:IxR X (rIxL X.K):=by
 intro value slice pins s σ H x y v u Q I rx ry h hs
 obtain ⟨p,xs,i,z,rfl,rfl,hq,he,q⟩:=h
 cases rx
 obtain ⟨t,rfl⟩:=ry
 obtain ⟨its,r,pl,hz⟩:=I.list hq
 obtain ⟨j,h1,h2,h3,h4,h5⟩:=y6n he
 obtain ⟨w,ew,rw'⟩:=r.get h2
 have hl:=r.length
 have hn:=y1c
 have fin:EP X pins σ Q w s:=⟨z,H,I,rw',q⟩
 by_cases h0:0≤i
 ·have hj:i.toNat=j:=by
   rw [seqIndex_of h0 h5] at h1
   exact Option.some.inj h1
  exact item_listR pl.isList h0 (by omega) (by rw [hj];simpa using ew) fin hs
 ·have hj:(i+(its.toArray.size:Int)).toNat=j:=by
   rw [seqIndex_neg (by omega) h4] at h1
   rw [List.size_toArray,← hl]
   exact Option.some.inj h1
  exact subscriptTail_builtinR (x:=w) pl.isList.typeIs slot_list_getitem.lookup
   (wpAny_getItem_list_neg (Q:=λ r s'=>r=w/\EP X pins σ Q r s') pl.isList (by omega) (by rw [List.size_toArray]<;>omega) (by omega) (by rw [hj];simpa using ew) ⟨rfl,fin⟩) hs
theorem x3u:IxR X (rIxT X.K):=by
 intro value slice pins s σ H x y v u Q I rx ry h hs
 obtain ⟨p,xs,i,z,rfl,rfl,hq,he,q⟩:=h
 cases rx
 obtain ⟨t,rfl⟩:=ry
 obtain ⟨its,r,pl,hz⟩:=I.tuple hq
 obtain ⟨j,h1,h2,h3,h4,h5⟩:=y6n he
 obtain ⟨w,ew,rw'⟩:=r.get h2
 have hl:=r.length
 have hn:=y1c
 have fin:EP X pins σ Q w s:=⟨z,H,I,rw',q⟩
 exact subscriptTail_builtinR (x:=w) pl.typeIs slot_tuple_getitem.lookup
  (getItem_tuple (j:=j) (Q:=λ r s'=>r=w/\EP X pins σ Q r s') pl (by omega) (by omega) (by rw [List.size_toArray,← hl];exact h1) (by simpa using ew) ⟨rfl,fin⟩) hs
theorem y2j (its:List Value) (n j:Nat) (u:Value):Obj.mapSeq (·.setIfInBounds j u) { cls:=.type "list",data:=.seq its.toArray n }={ cls:=.type "list",data:=.seq (its.set j u).toArray n }:=by
 simp [Obj.mapSeq]
theorem Inv.lst {pins:List (Addr × Obj)}{σ:St}{H:Hp}{s:Shared}{p:Addr}{xs:List V}(I:Inv X pins σ H s) (h:H p=some (.lst xs)) :
  ∃(its:List Value) (n:Nat),Vals xs its/\s.heap.get? p=some { cls:=.type "list",data:=.seq its.toArray n }/\xs.length≤sizeLine:=by
 obtain ⟨z,its,n,r,e⟩:=I.hok p _ h
 exact ⟨its,n,r,e,z⟩
theorem Inv.lstUpd {pins:List (Addr × Obj)}{σ:St}{H:Hp}{s:Shared}{p:Addr}{xs ys:List V}{its its':List Value}{n n':Nat}{f:Obj->Obj}(I:Inv X pins σ H s) (h:H p=some (.lst xs))
  (ho:s.heap.get? p=some { cls:=.type "list",data:=.seq its.toArray n }) (hf:f { cls:=.type "list",data:=.seq its.toArray n }={ cls:=.type "list",data:=.seq its'.toArray n' }) (r:Vals ys its') (hz:ys.length≤sizeLine) (t:Nat) :
  Inv X pins σ (upd H p (.lst ys)) { s with heap:=s.heap.update p f,toks:=t }:=by
 have e:(s.heap.update p f).get? p=some { cls:=.type "list",data:=.seq its'.toArray n' }:=by
  rw [Heap.get?_update_self f ho (by rw [hf]<;>rfl),hf]
 refine I.write (x:=p) (e:=p) (by rw [h];trivial) (.inl rfl) (λ b u hb q=>(Heap.get?_update_other _ _ (Ne.symm hb)).trans q) ⟨_,e⟩ ?_
 exact ⟨hz,its',n',r,e⟩
def rSetL:V->V->V->Hp->(Hp->Prop)->Prop:=λ o i v H Q=>∃p xs k j,o=.ref p/\i=.int k/\H p=some (.lst xs)/\ixN xs.length k=some j/\Q (upd H p (.lst (xs.set j v)))
theorem y6s:PSet X rSetL:=by
 intro pins s σ H o i v ov iv u Q I ro ri rv h
 obtain ⟨p,xs,k,j,rfl,rfl,hp,hj,q⟩:=h
 cases ro
 obtain ⟨t,rfl⟩:=ri
 obtain ⟨its,n,r,ho,hz⟩:=I.lst hp
 obtain ⟨h1,h2,h3,h4⟩:=y5g hj
 have hl:=r.length
 have hn:=y1c
 have I':Inv X pins σ (upd H p (.lst (xs.set j v))) { s with heap:=s.heap.update p (Obj.mapSeq (·.setIfInBounds j u)) } :=
  I.lstUpd hp ho (y2j its n j u) (r.set rv j) (by rw [List.length_set];exact hz) s.toks
 by_cases h0:0≤k
 ·have hk:k.toNat=j:=by
   rw [seqIndex_of h0 h4] at h1
   exact Option.some.inj h1
  exact W.ki_setAt ho h0 (by omega) (by rw [List.size_toArray,← hl];exact h4) (by rw [hk];exact ⟨_,I',q⟩)
 ·have hk:(k+(its.toArray.size:Int)).toNat=j:=by
   rw [seqIndex_neg (by omega) h3] at h1
   rw [List.size_toArray,← hl]
   exact Option.some.inj h1
  exact W.ki_setBack ho (by omega) (by rw [List.size_toArray,← hl];exact h3) (by omega) (by rw [hk];exact ⟨_,I',q⟩)
theorem z7u (lo hi:Option Int) (n:Nat):(sliceBounds lo hi none n).1=((HT.sIx n 0 lo:Nat):Int)/\(sliceBounds lo hi none n).2.1=((HT.sIx n n hi:Nat):Int)/\(sliceBounds lo hi none n).2.2=1:=by
 refine ⟨?_,?_,rfl⟩
 ·cases lo with
  | none=>simp [sliceBounds,HT.sIx]
  | some i =>
   simp only [sliceBounds,HT.sIx,Option.getD_none,show (1:Int) > 0 by decide,if_true]
   by_cases h:i < 0
   ·simp only [h,if_true]<;>omega
   ·simp only [h,if_false]<;>omega
 ·cases hi with
  | none=>simp [sliceBounds,HT.sIx]
  | some i =>
   simp only [sliceBounds,HT.sIx,Option.getD_none,show (1:Int) > 0 by decide,if_true]
   by_cases h:i < 0
   ·simp only [h,if_true]<;>omega
   ·simp only [h,if_false]<;>omega
theorem z6m (its:List Value) (lo hi:Option Int):slicePick its.toArray lo hi none=((its.drop (HT.sIx its.length 0 lo)).take (HT.sIx its.length its.length hi - HT.sIx its.length 0 lo)).toArray:=by
 obtain ⟨h1,h2,h3⟩:=z7u lo hi its.toArray.size
 unfold slicePick
 rw [h1,h2,h3]
 simp only [sliceRange_one,pick_run,List.size_toArray]<;>rfl
def rSlL (K:W.Frag):V->Option Int->Option Int->Hp->VK->Prop:=λ x lo hi H Q=>∃a xs,x=.ref a/\SqL K H a xs/\∀p,H p=none->Q (.ref p) (upd H p (.lst (cutV xs lo hi)))
theorem x0f:SlR X (rSlL X.K):=by
 intro pins s σ H x v vl vu lo hi sl Q I rx hs pl pu h
 obtain ⟨a,xs,rfl,hx,q⟩:=h
 cases rx
 obtain ⟨its,r,ht,hz⟩:=I.list hx
 have hlen:=r.length
 refine ⟨"list",_,slot_list_getitem.lookup,ht.isList.typeIs,?_⟩
 refine wpAny_getItem_list_slice ht.isList hs pl pu .none (by simp) ?_ (by rw [List.size_toArray]<;>omega)
 rw [z6m,← hlen]
 refine ⟨.ref s.heap.objs.size,_,I.laid (t':=s.toks) (o:=.lst (cutV xs lo hi)) (λ b ob q=>Heap.get?_push_of_some _ q) (Nat.le_refl _) ?_,rfl,q _ (I.hok.fresh (Nat.le_refl _))⟩
 exact ⟨Nat.le_trans (z5m xs lo hi) hz,_,0,(r.drop (HT.sIx xs.length 0 lo)).take (HT.sIx xs.length xs.length hi - HT.sIx xs.length 0 lo),Heap.get?_push_size _ rfl⟩
def flatV:V->Bool
 | .non=>true
 | .bl _=>true
 | .int _=>true
 | .str _=>true
 | _=>false
def eqV:V->V->Bool
 | .non,.non=>true
 | .bl a,.bl b=>a == b
 | .bl a,.int b=>(if a then 1 else 0) == b
 | .int a,.bl b=>a == (if b then 1 else 0)
 | .int a,.int b=>a == b
 | .str a,.str b=>a == b
 | _,_=>false
theorem y9t {A:Around}{s:Shared}{y x:V}{u v:Value}(ry:RelV y u) (rx:RelV x v) (fy:flatV y=true) (fx:flatV x=true):SeqAt.EqAt A s u v (eqV y x):=by
 cases y with
 | non =>
  cases ry
  cases x with
  | non=>cases rx;exact SeqAt.EqAt.same _
  | bl b=>cases rx;exact SeqAt.EqAt.none_bool b
  | int b=>obtain ⟨t,rfl⟩:=rx;exact SeqAt.EqAt.none_int b t
  | str b=>obtain ⟨t,rfl⟩:=rx;exact SeqAt.EqAt.none_str b t
  | _=>exact absurd (show false=true from fx) Bool.false_ne_true
 | bl a =>
  cases ry
  cases x with
  | non=>cases rx;exact SeqAt.EqAt.bool_none a
  | bl b=>cases rx;exact SeqAt.EqAt.bool_bool a b
  | int b=>obtain ⟨t,rfl⟩:=rx;exact SeqAt.EqAt.bool_int a b t
  | str b=>obtain ⟨t,rfl⟩:=rx;exact SeqAt.EqAt.bool_str a b t
  | _=>exact absurd (show false=true from fx) Bool.false_ne_true
 | int a =>
  obtain ⟨t',rfl⟩:=ry
  cases x with
  | non=>cases rx;exact SeqAt.EqAt.int_none a t'
  | bl b=>cases rx;exact SeqAt.EqAt.int_bool a t' b
  | int b=>obtain ⟨t,rfl⟩:=rx;exact SeqAt.EqAt.int_int a t' b t
  | str b=>obtain ⟨t,rfl⟩:=rx;exact SeqAt.EqAt.int_str a t' b t
  | _=>exact absurd (show false=true from fx) Bool.false_ne_true
 | str a =>
  obtain ⟨t',rfl⟩:=ry
  cases x with
  | non=>cases rx;exact SeqAt.EqAt.str_none a t'
  | bl b=>cases rx;exact SeqAt.EqAt.str_bool a t' b
  | int b=>obtain ⟨t,rfl⟩:=rx;exact SeqAt.EqAt.str_int a t' b t
  | str b=>obtain ⟨t,rfl⟩:=rx;exact SeqAt.EqAt.str_str a t' b t
  | _=>exact absurd (show false=true from fx) Bool.false_ne_true
 | _=>exact absurd (show false=true from fy) Bool.false_ne_true
def eqU (x:V) (u:Value):Bool:=match u with
 | .none=>eqV .non x
 | .bool b=>eqV (.bl b) x
 | .int i _=>eqV (.int i) x
 | .str z _=>eqV (.str z) x
 | _=>false
theorem y9s {x y:V}{u:Value}(r:RelV y u) (f:flatV y=true):eqU x u=eqV y x:=by
 cases y with
 | non=>cases r;rfl
 | bl b=>cases r;rfl
 | int i=>obtain ⟨t,rfl⟩:=r;rfl
 | str z=>obtain ⟨t,rfl⟩:=r;rfl
 | _=>exact absurd (show false=true from f) Bool.false_ne_true
theorem y0t {x:V}:∀ {xs:List V}{us:List Value},Vals xs us->xs.all flatV=true->us.any (eqU x)=xs.any λ y=>eqV y x
 | _,_,.nil,_=>rfl
 | y::xs,u::us,.cons r t,f=>by
  rw [List.all_cons,Bool.and_eq_true] at f
  rw [List.any_cons,List.any_cons,y9s r f.1,y0t t f.2]
theorem z7k {A:Around}{s:Shared}{x:V}{v:Value}(rx:RelV x v) (fx:flatV x=true):∀ {xs:List V}{us:List Value},Vals xs us->xs.all flatV=true->∀u∈us,SeqAt.EqAt A s u v (eqU x u)
 | _,_,.nil,_=>λ u hu=>by cases hu
 | y::xs,u::us,.cons r t,f=>λ u' hu=>by
  rw [List.all_cons,Bool.and_eq_true] at f
  rcases List.mem_cons.mp hu with rfl | hu
  ·rw [y9s r f.1];exact y9t r rx f.1 fx
  ·exact z7k rx fx t f.2 u' hu
def inV (x:V) (xs:List V):Bool:=xs.any λ y=>eqV y x
def rIn (K:W.Frag) (neg:Bool):R2:=λ x y H Q=>∃p xs,y=.ref p/\(SqL K H p xs\/SqT K H p xs)/\flatV x=true/\xs.all flatV=true/\Q (.bl (if neg then !inV x xs else inV x xs)) H
theorem z8f:OpR X (compareOp .In) (rIn X.K false):=by
 intro pins s σ H x y v u Q I rx ry h
 obtain ⟨p,xs,rfl,hq,fx,fs,q⟩:=h
 cases ry
 rcases hq with hq | hq
 ·obtain ⟨its,r,pl,hz⟩:=I.list hq
  refine SeqAt.in_listAt (eqU x) pl.isList (λ w hw=>z7k rx fx r fs w (by simpa using hw)) ⟨.bl _,H,I,rfl,?_⟩
  rw [show its.toArray.any (eqU x)=its.any (eqU x) by simp,y0t r fs]
  exact q
 ·obtain ⟨its,r,pl,hz⟩:=I.tuple hq
  refine SeqAt.in_tupleAt (eqU x) pl (λ w hw=>z7k rx fx r fs w (by simpa using hw)) ⟨.bl _,H,I,rfl,?_⟩
  rw [show its.toArray.any (eqU x)=its.any (eqU x) by simp,y0t r fs]
  exact q
theorem z0j:CallR X (.builtin "len") (λ xs H Q=>∃p ys,xs=[.ref p]/\(SqL X.K H p ys\/SqT X.K H p ys)/\Q (.int ys.length) H):=by
 intro pins s σ H xs us Q I r h
 obtain ⟨p,ys,rfl,hq,q⟩:=h
 obtain ⟨u,rfl,rx⟩:=z4p r
 cases rx
 have hn:=y1c
 rcases hq with hq | hq
 ·obtain ⟨its,r',pl,hz⟩:=I.list hq
  have hlen:=r'.length
  exact Calls.call_len_list pl.isList (by simp only [List.size_toArray]<;>omega) ⟨.int ys.length,H,I.tok _,⟨s.toks+1,by rw [List.size_toArray,hlen]⟩,q⟩
 ·obtain ⟨its,r',pl,hz⟩:=I.tuple hq
  have hlen:=r'.length
  exact len_tuple pl (by simp only [List.size_toArray]<;>omega) ⟨.int ys.length,H,I.tok _,⟨s.toks+1,by rw [List.size_toArray,hlen]⟩,q⟩
theorem z1m:CallR X (.type "tuple") (λ xs H Q=>∃p ys,xs=[.ref p]/\((SqL X.K H p ys/\∀l,H l=none->Q (.ref l) (upd H l (.tup ys)))\/(SqT X.K H p ys/\Q (.ref p) H))):=by
 intro pins s σ H xs us Q I r h
 obtain ⟨p,ys,rfl,h⟩:=h
 obtain ⟨u,rfl,rx⟩:=z4p r
 cases rx
 rcases h with ⟨hq,q⟩ | ⟨hq,q⟩
 ·obtain ⟨its,r',pl,hz⟩:=I.list hq
  have hlen:=r'.length
  refine call_tuple_list pl.isList (λ h' kp=>?_) (by simp only [List.size_toArray]<;>omega)
  have I1:Inv X pins σ H { s with heap:=h' }:=I.kept (t':=s.toks) kp
  have I2:Inv X pins σ (upd H h'.objs.size (.tup ys)) { s with heap:=h'.push { cls:=.type "tuple",data:=.seq its.toArray } } :=
   I1.laid (t':=s.toks) (λ b o e=>Heap.get?_push_of_some _ e) (Nat.le_refl _) (show ObjOk X.prog X.w _ _ _ (.tup ys) from ⟨hz,its,r',IsTup.new _ _⟩)
  exact ⟨.ref h'.objs.size,_,I2,rfl,q _ (I1.hok.fresh (Nat.le_refl _))⟩
 ·obtain ⟨its,r',pl,hz⟩:=I.tuple hq
  exact call_tuple_same pl ⟨.ref p,H,I,rfl,q⟩
def tyV (K:W.Frag) (T:String) (x:V) (H:Hp):Prop:=match x with
 | .str _=>T = "str"
 | .int _=>T = "int"
 | .ref p=>(T = "list" /\ ∃xs,SqL K H p xs)\/(T = "tuple" /\ ∃o,K.lookup p=some o/\o.cls=.type "tuple" /\ o.dict=none) \/
   (T = "dict" /\ ((∃kvs,H p=some (.dK kvs))\/∃kvs,H p=some (.dT kvs)))\/(T = "set" /\ ∃S n,H p=some (.set S n))
 | _=>False
theorem y9k {pins:List (Addr × Obj)}{σ:St}{H:Hp}{s:Shared}{T:String}{x:V}{v:Value}(I:Inv X pins σ H s) (r:RelV x v) (ty:tyV X.K T x H) :
  s.TypeIs v T/\∀a,v=.ref a->∃ob,s.heap.get? a=some ob/\ob.dict=none:=by
 cases x with
 | str z =>
  obtain ⟨t,rfl⟩:=r
  cases (show T = "str" from ty)
  exact ⟨typeIs_str s z t,λ _ e=>nomatch e⟩
 | int i =>
  obtain ⟨t,rfl⟩:=r
  cases (show T = "int" from ty)
  exact ⟨typeIs_int s i t,λ _ e=>nomatch e⟩
 | ref p =>
  cases r
  rcases ty with ⟨rfl,xs,hq⟩ | ⟨rfl,o,hk,hc,hd⟩ | ⟨rfl,hk⟩ | ⟨rfl,S,n,hk⟩
  ·obtain ⟨its,_,pl,_⟩:=I.list hq
   refine ⟨pl.isList.typeIs,λ a e=>?_⟩
   cases e
   obtain ⟨o,n,e,c,hd,_⟩:=pl
   exact ⟨o,e,hd⟩
  ·refine ⟨⟨o,I.kIn p o hk,hc⟩,λ a e=>?_⟩
   cases e
   exact ⟨o,I.kIn _ o hk,hd⟩
  ·have z:∃o,s.heap.get? p=some o/\o.ExactDict:=by
    rcases hk with ⟨kvs,hk⟩ | ⟨kvs,hk⟩
    ·obtain ⟨_,_,_,_,o,_,_,e,ex,_⟩:=I.hok p _ hk
     exact ⟨o,e,ex⟩
    ·obtain ⟨_,_,_,_,o,_,_,e,ex,_⟩:=I.hok p _ hk
     exact ⟨o,e,ex⟩
   obtain ⟨o,e,ex⟩:=z
   refine ⟨⟨o,e,ex.1⟩,λ a e2=>?_⟩
   cases e2
   exact ⟨o,e,ex.2.1⟩
  ·obtain ⟨o,_,_,_,e,ex,_⟩:=I.hok p _ hk
   refine ⟨⟨o,e,ex.1⟩,λ a e2=>?_⟩
   cases e2
   exact ⟨o,e,ex.2.1⟩
 | _=>exact False.elim ty
def tBM0 (K:W.Frag) (T:String) (r:V->List V->Hp->VK->Prop) (to:TE):TE:=λ σ H Q=>to σ H λ x H1=>tyV K T x H1/\r x [] H1 Q
def tBM (K:W.Frag) (T:String) (r:V->List V->Hp->VK->Prop) (to:TE) (t:TA):TE:=λ σ H Q=>to σ H λ x H1=>tyV K T x H1/\t σ H1 λ xs H2=>r x xs H2 Q
variable {o e:Expr}{es:List Expr}{to:TE}{t:TA}{name:Str}{apos cpos:Pos}{T id:String}{r:V->List V->Hp->VK->Prop}
theorem x4w (pa:PlainAttrs T) (slot:Slot T name id) (hty:typeOf (.builtin id)=pure (.type "method_descriptor")) (hm:MtR X id r) (ho:PE X o to) (ha:PA X (e::es) t)
  (hbase:attributeBase o name X.env (eval o X.env)=eval o X.env:=by rfl)
  (hfew:((backTo cpos (starEach (e::es) X.env)).all (λ x=>!x.1) && (backToKw cpos (keywordEach [] X.env)).all (λ x=>x.1.isSome)
   && decide ((e::es).length+([]:List Keyword).length+(if ([]:List Keyword).isEmpty then 0 else 1) < 30))=true:=by rfl)
  (hline:(apos.endLine == cpos.line)=true:=by rfl) (hs:starEach (e::es) X.env=(false,eval e X.env)::starEach es X.env:=by rfl) (hplain:(backTo cpos (starEach es X.env)).any (·.1)=false:=by rfl) :
  PE X (.Call (.Attribute o name apos) (e::es) [] cpos) (tBM X.K T r to t):=by
 intro pins s σ H Q I h
 refine wpAny_Call_method_late hbase hfew hline rfl (thn (ho pins s σ H _ I h) λ v s1 ⟨x,H1,I1,r1,ty,q1⟩=>?_)
 obtain ⟨h1,h2⟩:=y9k I1 r1 ty
 refine ⟨T,id,pa,slot,hty,h1,h2,?_⟩
 have hA:=ha cpos pins s1 σ H1 _ I1 q1
 rw [hs] at hA ⊢
 refine Calls.callWith_builtin (by show (false || (backTo cpos (starEach es X.env)).any (·.1))=false;rw [hplain]<;>rfl) (Calls.evalArgs_plain ?_)
 exact thn hA λ us s2 ⟨vs,H2,I2,r2,q2⟩=>hm pins s2 σ H2 x vs v us Q I2 r1 r2 q2
end
def MtM (X:Cx) (id:String) (r:V->List V->Hp->VK->Prop):Prop :=
 ∀(pins:List (Addr × Obj)) (s:Shared) (σ:St) (H:Hp) (x:V) (xs:List V) (v:Value) (us:List Value) (Q:VK),Inv X pins σ H s->RelV x v->Vals xs us->r x xs H Q ->
  wpAny (model X.prog X.w) X.A (call (.builtin id) (v::us)) (EP X pins σ Q) X.xe s
theorem Vals.one:∀ {x:V}{us:List Value},Vals [x] us->∃u,us=[u]/\RelV x u
 | _,_,.cons r .nil=>⟨_,rfl,r⟩
theorem Vals.zero:∀ {us:List Value},Vals [] us->us=[]
 | _,.nil=>rfl
theorem Vals.reverse {xs:List V}{us:List Value}(h:Vals xs us):Vals xs.reverse us.reverse:=by
 induction h with
 | nil=>exact .nil
 | cons r t ih=>rw [List.reverse_cons,List.reverse_cons];exact Vals.append ih (.cons r .nil)
theorem Vals.rep {xs:List V}{us:List Value}(h:Vals xs us):∀k:Nat,Vals (List.replicate k xs).flatten (List.replicate k us).flatten
 | 0=>.nil
 | k+1=>by
  rw [List.replicate_succ,List.replicate_succ,List.flatten_cons,List.flatten_cons]
  exact Vals.append h (Vals.rep h k)
section
variable {X:Cx}{pins:List (Addr × Obj)}{σ:St}{H:Hp}{s:Shared}{l b:Addr}{xs ys zs:List V}
theorem Inv.lset {its its':List Value}{n:Nat}{f:Array Value->Array Value}{t':Nat}(I:Inv X pins σ H s) (hH:H l=some (.lst xs))
  (e:s.heap.get? l=some { cls:=.type "list",data:=.seq its.toArray n }) (hf:f its.toArray=its'.toArray) (hv:Vals ys its') (hz:ys.length≤sizeLine) :
  Inv X pins σ (upd H l (.lst ys)) { s with heap:=s.heap.update l (Obj.mapSeq f),toks:=t' }:=by
 have q:=PySem.IsL.update e f
 rw [hf] at q
 refine I.write (x:=l) (e:=l) (by rw [hH];exact trivial) (.inl rfl) (λ b' u hb hu=>(Heap.get?_update_other s.heap (Obj.mapSeq f) (Ne.symm hb)).trans hu) ⟨_,q⟩ ?_
 exact ⟨hz,its',_,hv,q⟩
theorem Inv.lstM (I:Inv X pins σ H s) (hH:H l=some (.lst xs)):xs.length≤sizeLine/\∃(its:List Value) (n:Nat),Vals xs its/\xs.length=its.length/\s.heap.get? l=some { cls:=.type "list",data:=.seq its.toArray n }:=by
 obtain ⟨z,its,n,r,e⟩:=I.hok l _ hH
 exact ⟨z,its,n,r,r.length,e⟩
end
section
variable {X:Cx}
def rAppend:V->List V->Hp->VK->Prop:=λ x vs H Q=>∃l xs y,x=.ref l/\vs=[y]/\H l=some (.lst xs)/\xs.length < sizeLine/\Q .non (upd H l (.lst (xs++[y])))
theorem y5b:MtM X "list.append" rAppend:=by
 intro pins s σ H x vs v us Q I rx rv h
 obtain ⟨l,xs,y,rfl,rfl,hH,hz,q⟩:=h
 cases rx
 obtain ⟨u,rfl,ru⟩:=rv.one
 obtain ⟨z,its,n,r,hl,e⟩:=I.lstM hH
 refine call_meets F.slot_list_append ⟨_,e,rfl⟩ F.entry_list_append (F.args_list_append_2 _ _) (PySem.list_append l its.toArray n u (by rw [List.size_toArray];omega)) ⟨e,?_⟩
 refine ⟨.non,_,I.lset (its':=its++[u]) hH e (by simp) (r.append (.cons ru .nil)) ?_,rfl,q⟩
 rw [List.length_append,List.length_singleton]
 omega
def rExtend:V->List V->Hp->VK->Prop:=λ x vs H Q=>∃l b xs zs,x=.ref l/\vs=[.ref b]/\H l=some (.lst xs)/\H b=some (.lst zs)/\xs.length+zs.length≤sizeLine/\Q .non (upd H l (.lst (xs++zs)))
def rPopAt:V->List V->Hp->VK->Prop:=λ x vs H Q=>∃l xs i k y,x=.ref l/\vs=[.int i]/\H l=some (.lst xs)/\-(2 ^ 63)≤i/\i < 2 ^ 63/\seqIndex? i xs.length=some k/\xs[k]?=some y/\Q y (upd H l (.lst (xs.eraseIdx k)))
def rCat:R2:=λ x y H Q=>∃l b xs zs,x=.ref l/\y=.ref b/\H l=some (.lst xs)/\H b=some (.lst zs)/\xs.length+zs.length≤sizeLine/\∀p,H p=none->Q (.ref p) (upd H p (.lst (xs++zs)))
def rRep:R2:=λ x y H Q=>∃l k xs,x=.ref l/\y=.int k/\H l=some (.lst xs)/\-(2 ^ 63)≤k/\k < 2 ^ 63/\xs.length * k.toNat≤sizeLine /\
 ∀p,H p=none->Q (.ref p) (upd H p (.lst (List.replicate k.toNat xs).flatten))
theorem x1g {α:Type}(xs:List α) (k:Nat):(List.replicate k xs).flatten.length=k * xs.length:=by
 induction k with
 | zero=>simp
 | succ k ih=>rw [List.replicate_succ,List.flatten_cons,List.length_append,ih,Nat.succ_mul,Nat.add_comm]
end
section
variable {prog:Program}{w:World}{A:Around}{E:Value->Shared->Prop}{s:Shared}
end
section
variable {X:Cx}
end
end L2
namespace Att
open PySem PySem.W PySem.Calls PyProof.Rows
theorem z5j {P:Params}{h:Heap}:∀(ns:List Int) (vs:List Value),WellAll P h vs (ns.map WData.int)->IntsAre vs ns:=by
 intro ns
 induction ns with
 | nil =>
  intro vs w
  rw [List.map_nil] at w
  cases w
  exact .nil
 | cons n ns ih =>
  intro vs w
  rw [List.map_cons] at w
  cases w with
  | cons a b =>
   cases a
   exact .cons _ _ (ih _ b)
theorem y2z {l:OpenLaw}{n:Nat}(hn:l.most=some n) {P:Params}{h:Heap}{args:List WData}{vals:List Value}
  (hpre:l.row.toRowW.claim.pre args=true) (hwl:WellAll P h vals args) :
  ∃a vs ns,vals=[Value.ref a]/\args=[WData.list (ns.map WData.int)]/\h.get? a=some { cls:=.type "list",data:=.seq vs.toArray }/\IntsAre vs ns/\ns.length≤n:=by
 have hsh:WShape.hasAll [] args [.list .int]=true:=(pre_splitW hpre).1
 have hc:l.pre.holds [] { args:=args }=true:=(pre_splitW hpre).2
 obtain ⟨d,r,rfl,h1,h2⟩:=hasAllW_cons hsh
 obtain rfl:=hasAllW_nil h2
 obtain ⟨xs,rfl,h3⟩:=hasW_list h1
 obtain ⟨ns,rfl⟩:=items_int h3
 have hlen:ns.length≤n:=by
  unfold OpenLaw.pre at hc
  have h4:(WTm.not (.lt (.lit (.int (n:Int))) (.len (.arg 0)))).holds [] { args:=[.list (ns.map .int)] }=true:=by
   have h4:=(holds_andW hc).1
   rw [hn] at h4
   exact h4
  have h5:=condW_of h4 (w_not (w_lt w_lit (w_len_list (w_arg rfl))))
  rw [List.length_map] at h5
  refine Nat.le_of_not_lt λ q=>?_
  have q':(n:Int) < ((ns.length:Nat):Int):=by omega
  first
   | (rw [decide_eq_true q'] at h5;exact absurd h5 (by decide))
   | (simp at h5;omega)
 cases hwl with
 | cons w1 w2 =>
  cases w2
  cases w1 with
  | list ho hall=>exact ⟨_,_,ns,rfl,rfl,ho,z5j ns _ hall,hlen⟩
theorem y3u (l:OpenLaw) (args:List WData):l.row.toRowW.claim.post args (.bool true) args=true :=
 postW_of (r:=l.row.toRowW) (X:=(true == true))
  (show WShape.has [] (.bool true) .bool=true by first | rfl | decide | simp [WShape.has,WShape.arms,WShape.armsAll])
  (show (WTm.eq .res (.lit (.bool true))).value [] { args:=args,res:=some (.bool true),after:=args }=some (.bool (true == true)) from w_eq_bool (w_res rfl) w_lit) rfl
theorem attach_call {l:OpenLaw}{n:Nat}{q:Program}{loose:List Str}{XP:(Str->Option Value)->Heap->Prop}{YP:World->Heap->Prop}{d:DefRec}
  (hn:l.most=some n) (hdf:d.params.defaults=[])
  (call:∀(w:World) (s₀ s₁:Shared) (mg mb:Str->Option Value) (fa:Addr) (o:Obj) (pm cd doc:Value) (a:Addr) (vs:List Value) (ns:List Int),
   Ground q loose [] XP w s₀ mg mb s₁.heap->YP w s₁.heap ->
   s₁.heap.get? fa=some o->o.data=.func (docDef d.name d.params d.body d.scope pm cd doc)->s₁.heap.CodeRec cd d.name->mg d.name=some (.ref fa) ->
   s₁.heap.get? a=some { cls:=.type "list",data:=.seq vs.toArray }->IntsAre vs ns->ns.length≤n->s₁.gens=#[] ->
   codeAny (model l.prog w) callerA (.call (.ref fa) ⟨[.ref a],[]⟩) (λ r s'=>r=.ok (.ret (.bool true))/\OldK s₁.heap s'.heap/\s'.os=s₁.os/\AllBare s'.gens) s₁) :
  WalkO q loose XP YP l.row.toRowW d [] (λ f vs=>PySem.call f vs):=by
 intro w s₀ s₁ mg mb G Y fa o pm cd doc dV kV ho hd hcd hD hmg hg args vals as hpre hlay hrd hwl hlo
 obtain rfl:dV=.none:=Dflts.none hD hdf
 obtain rfl:kV=.none:=Dflts.noKw hD
 obtain ⟨a,vs,ns,rfl,rfl,hobj,hints,hlen⟩:=y2z hn hpre hwl
 refine enter_call (codeAny_mono (call w s₀ s₁ mg mb fa o pm cd doc a vs ns G Y ho (fd_plain hd) hcd hmg hobj hints hlen hg) λ r s' hq=>?_)
 obtain ⟨rfl,h2,h3,h4⟩:=hq
 exact ⟨.inl ⟨.bool true,.bool true,[],rfl,λ _=>rfl,.bool true,y3u l _,λ _=>⟨List.Pairwise.nil,λ _ hm=>(nomatch hm)⟩⟩,h2,h3,h4⟩
section
variable {prog:Program}{w:World}{A:Around}{E:Value->Shared->Prop}{s:Shared}{K:Frag}
end
end Att
namespace L2
open PySem PySem.Spec PyProof.Rows
theorem z4v:∀ {vs:List Value}{ns:List Int},IntsAre vs ns->Vals (ns.map V.int) vs
 | _,_,.nil=>.nil
 | _,_,.cons n t h=>.cons ⟨t,rfl⟩ (z4v h)
def Only (H:Hp):Prop:=∀b,H b=none\/∃o xs,H b=some (.frz o (.lst xs))
theorem y7x {P:Program}{w:World}{K:W.Frag}{mg mb:Str->Option Value}{CX:CXT}{k:Nat}{fa a:Addr}{fd:FuncData}{x:Str}{sp:Sp}{s₁:Shared}{vs:List Value}{ns:List Int}
  (KX:K.In s₁.heap) (hns:s₁.heap.Ns mainGlobals mg) (hb:s₁.heap.Ns builtinsNs mb) (hbb:∀x:Str,x ≠ "__name__" -> mb x=bootBuiltins x) (hlim:s₁.heap.NoLimit) (hg:s₁.gens=#[])
  (ha:s₁.heap.get? a=some { cls:=.type "list",data:=.seq vs.toArray }) (hi:IntsAre vs ns) (hl:ns.length≤sizeLine) (hr:Room k callerA)
  (F:∀base:Heap,K.In base->base.Ns mainGlobals mg->FnOk P w K mg base CX k fa fd [x] sp) (hbind:∀(s:Shared) (u:Value),BindsTo s fd ⟨[u],[]⟩ [(x,u)])
  (hsp:∀H:Hp,Only H->SqL K H a (ns.map V.int)->sp [.ref a] H (λ v _=>v=.bl true) λ _ _ _=>False)
  (hCX:∀H e s',CX [] H s₁ (λ _ _ _=>False) e s'->False) :
  codeAny (model P w) callerA (.call (.ref fa) ⟨[.ref a],[]⟩) (λ r s'=>r=.ok (.ret (.bool true))/\OldK s₁.heap s'.heap/\s'.os=s₁.os/\AllBare s'.gens) s₁:=by
 have rv:=z4v hi
 have lenV:=hi.length
 have core:∀H:Hp,Only H->SqL K H a (ns.map V.int)->HOk P w H s₁.heap->(∀b,H b≠none->b=a)->(H a≠none->K.lookup a=none) ->
   codeAny (model P w) callerA (.call (.ref fa) ⟨[.ref a],[]⟩) (λ r s'=>r=.ok (.ret (.bool true))/\OldK s₁.heap s'.heap/\s'.os=s₁.os/\AllBare s'.gens) s₁:=by
  intro H hO hS hok hA hK
  have base_of:∀ {b:Addr}{o:Obj},s₁.heap.get? b=some o->H b=none->(hidT s₁.heap H).get? b=some o:=λ e n=>y8g e n
  have noA:∀ {b:Addr}{o:Obj}{es:Array DictEntry}{ep:Nat},s₁.heap.get? b=some o->o.data=.dict es ep->H b=none:=λ {b o es ep} e d=>by
   cases q:H b with
   | none=>rfl
   | some u =>
    have e':b=a:=hA b (by rw [q];simp)
    subst e'
    rw [ha] at e;cases e
    have d':Data.seq vs.toArray _=Data.dict es ep:=d
    cases d'
  have nsK:∀ {b:Addr}{m:Str->Option Value},s₁.heap.Ns b m->(hidT s₁.heap H).Ns b m:=λ {b m} ⟨o,es,ep,e,d,r⟩=>⟨o,es,ep,base_of e (noA e d),d,r⟩
  have hKb:K.In (hidT s₁.heap H):=λ b o e=>base_of (KX b o e) (by
   cases q:H b with
   | none=>rfl
   | some u =>
    have e':b=a:=hA b (by rw [q];simp)
    subst e'
    rw [hK (by rw [q];simp)] at e;cases e)
  have hM:Mod K mg (hidT s₁.heap H):=⟨hKb,nsK hns,⟨mb,nsK hb,hbb⟩,let ⟨mc,h1,h2⟩:=hlim;⟨mc,nsK h1,h2⟩⟩
  have e0:Env0 P w K mg (hidT s₁.heap H) callerA [] s₁ H:=⟨rfl,hM,λ b o e=>x1e e,Nat.le_of_eq (y5j _ _),trivial,λ b hb=>absurd (show b∈([]:List Addr) from hb) (by simp),hok,.of_eq hg⟩
  refine codeAny_mono ((F _ hKb (nsK hns)).run callerA [] s₁ H ⟨[.ref a],[]⟩ [.ref a] [.ref a] _ _ hr e0 (hbind s₁ (.ref a)) (.cons rfl .nil) (hsp H hO hS)) λ r s' h=>?_
  cases r with
  | error e=>exact (hCX H e s' h).elim
  | ok fl =>
   cases fl with
   | next=>exact False.elim h
   | brk=>exact False.elim h
   | cont=>exact False.elim h
   | ret u =>
    obtain ⟨v,H',os,bare,un,hok',r',q⟩:=h
    have q':v=.bl true:=q
    subst q'
    obtain rfl:u=Value.bool true:=r'
    refine ⟨rfl,OldK.of_keep λ b o e=>?_,os,bare⟩
    cases q:H b with
    | none=>exact un.keep b o e q (by intro z;exact absurd (show b∈([]:List Addr) from z) (by simp)) (by simp)
    | some u =>
     rcases hO b with z | ⟨ob,xs,z⟩
     ·rw [q] at z;cases z
     ·have z2:=un.frzs b ob _ z
      obtain ⟨e1,_⟩:=hok b _ z
      obtain ⟨e2,_⟩:=hok' b _ z2
      rw [e] at e1;cases e1
      exact e2
 cases hk:K.lookup a with
 | some o =>
  have e:=KX a o hk
  rw [ha] at e
  cases e
  refine core (λ _=>none) (λ _=>.inl rfl) (.inr ⟨_,vs.toArray,_,hk,rfl,rfl,rfl,by rw [List.size_toArray,lenV];exact hl,by simpa using rv⟩) (λ b u z=>by have z':(none:Option HO)=some u:=z;cases z') (λ b z=>absurd rfl z) λ z=>absurd rfl z
 | none =>
  refine core (λ b=>if b=a then some (.frz { cls:=.type "list",data:=.seq vs.toArray } (.lst (ns.map V.int))) else none) (λ b=>?_) (.inl (.inr ⟨{ cls:=.type "list",data:=.seq vs.toArray },if_pos rfl⟩)) (λ b u z=>?_) (λ b z=>?_) λ _=>hk
  ·by_cases hb:b=a
   ·exact .inr ⟨_,_,if_pos hb⟩
   ·exact .inl (if_neg hb)
  ·by_cases hb:b=a
   ·have z':=(if_pos hb).symm.trans z
    cases z'
    subst hb
    exact ⟨ha,by rw [List.length_map];exact hl,vs,_,rv,ha⟩
   ·have z':=(if_neg hb).symm.trans z
    cases z'
  ·by_cases hb:b=a
   ·exact hb
   ·exact absurd (if_neg hb) z
theorem walk_of {l:W.OpenLaw}{n k:Nat}{q:Program}{loose:List Str}{XP:(Str->Option Value)->Heap->Prop}{YP:World->Heap->Prop}{d:DefRec}{K:Params->W.Frag}{CX:World->CXT}{sp:World->Sp}{x:Str}
  (hn:l.most=some n) (hn2:n≤sizeLine) (hdf:d.params.defaults=[]) (hr:Room k callerA)
  (hY:∀(w:World) (h:Heap),YP w h->(K w.params).In h)
  (F:∀(w:World) (mg:Str->Option Value) (fa:Addr) (h:Heap),(K w.params).In h->h.Ns mainGlobals mg->mg d.name=some (.ref fa) ->
   ∃fd:FuncData,(∀(s:Shared) (u:Value),BindsTo s fd ⟨[u],[]⟩ [(x,u)]) /\
    ∀base:Heap,(K w.params).In base->base.Ns mainGlobals mg->FnOk l.prog w (K w.params) mg base (CX w) k fa fd [x] (sp w))
  (hsp:∀(w:World) (H:Hp) (a:Addr) (ns:List Int),ns.length≤n->Only H->SqL (K w.params) H a (ns.map V.int)->sp w [.ref a] H (λ v _=>v=.bl true) λ _ _ _=>False)
  (hCX:∀(w:World) (H:Hp) (s:Shared) (e:Value) (s':Shared),CX w [] H s (λ _ _ _=>False) e s'->False) :
  W.WalkO q loose XP YP l.row.toRowW d [] (λ f vs=>PySem.call f vs):=by
 refine Att.attach_call hn hdf λ w s₀ s₁ mg mb fa o pm cd doc a vs ns G Y ho hd hcd hmg hobj hints hlen hg=>?_
 have KX:=hY w _ Y
 obtain ⟨fd,hb,hF⟩:=F w mg fa _ KX G.T.g hmg
 exact y7x KX G.T.g G.T.b G.T.builtins G.T.nolimit hg hobj hints (Nat.le_trans hlen hn2) hr hF hb (λ H hO hS=>hsp w H a ns hlen hO hS) λ H e s'=>hCX w H s₁ e s'
def defArgs (s:Stmt):Arguments:=match s with
 | .FunctionDef _ a _ _ _ _ _ _ _ _=>a
 | _=>{ posonlyargs:=[],args:=[],vararg:=none,kwonlyargs:=[],kw_defaults:=[],kwarg:=none,defaults:=[] }
def defBody (s:Stmt):List Stmt:=match s with
 | .FunctionDef _ _ b _ _ _ _ _ _ _=>b
 | _=>[]
def defScope (s:Stmt):Scope:=match s with
 | .FunctionDef _ _ _ _ _ _ sc _ _ _=>sc
 | _=>{ kind:=.function,names:=[],isGenerator:=false,isCoroutine:=false }
abbrev CX0:CXT:=λ _ _ _ _ _ _=>False
abbrev E0:XK:=λ _ _ _=>False
theorem z1h {X:Cx}:Passes CX0 X E0:=λ _ _ _ _ _ _ _ h=>h.elim
structure Fun (K:W.Frag) (x qual:Str) (st:Stmt) (f:Addr) (fd:FuncData):Prop where
 ex:∃(oc:Value) (od:Option Addr) (kV doc pm:Value) (an:Option Addr) (cdv ct:Value) (osl:Array (Option Value)),
  fd=W.fnOf x qual (defArgs st) (defBody st) (defScope st) .none kV doc pm an cdv ct/\K.lookup f=some ⟨oc,od,.func fd,osl⟩/\W.codeIn K cdv qual=true
 kp:W.keepIn K (.ref f)=true
section
variable {P:Program}{w:World}{K:W.Frag}{mg:Str->Option Value}{base:Heap}
theorem Fun.ok {x qual:Str}{st:Stmt}{f:Addr}{fd:FuncData}{N ps:List Str}{k:Nat}{sp:Sp}(F:Fun K x qual st f fd) (S:FnScope N ps (defScope st)) (len:∀vs H Q E,sp vs H Q E->vs.length=ps.length)
  (hbody:∀(cdv:Value) (A:Around) (outer:List Env) (s:Shared) (H:Hp) (vs:List V) (Q:VK) (E:XK),Room k (A.deeper (envOfC qual (defScope st) s.heap.objs.size f cdv))->sp vs H Q E ->
   ∃t,PSs (cxOf CX0 P w K mg base N qual (defScope st) f cdv A outer s H E).nox (defBody st) t/\t { nx:=λ _ H'=>Q .non H',rt:=Q } (start N vs) H):FnOk P w K mg base CX0 (k+1) f fd ps sp:=by
 obtain ⟨oc,od,kV,doc,pm,an,cdv,ct,osl,rfl,lk,hcd⟩:=F.ex
 refine x1w lk hcd S len λ A outer s H vs Q E hr hsp=>?_
 obtain ⟨t,h,q⟩:=hbody cdv A outer s H vs Q E hr hsp
 exact ⟨t,h.nox,q⟩
theorem Fun.binds {x qual:Str}{st:Stmt}{f:Addr}{fd:FuncData}{ps:List Str}(F:Fun K x qual st f fd)
  (h:∀(kV doc pm:Value) (an:Option Addr) (cdv ct:Value) (us:List Value),us.length=ps.length->bindArgs (W.fnOf x qual (defArgs st) (defBody st) (defScope st) .none kV doc pm an cdv ct) ⟨us,[]⟩=pure (ps.zip us)):Binds K fd ps []:=by
 obtain ⟨oc,od,kV,doc,pm,an,cdv,ct,osl,rfl,lk,hcd⟩:=F.ex
 exact .all (h kV doc pm an cdv ct)
theorem z1c {x qual:Str}{st:Stmt}{f:Addr}{oc:Value}{od an:Option Addr}{osl:Array (Option Value)}{kV doc pm cdv ct:Value}(l:K.lookup f=some ⟨oc,od,.func (W.fnOf x qual (defArgs st) (defBody st) (defScope st) .none kV doc pm an cdv ct),osl⟩)
  (c:W.codeIn K cdv qual=true) (k:W.keepIn K (.ref f)=true):Fun K x qual st f (W.fnOf x qual (defArgs st) (defBody st) (defScope st) .none kV doc pm an cdv ct):=⟨⟨oc,od,kV,doc,pm,an,cdv,ct,osl,rfl,l,c⟩,k⟩
end
theorem z1b {n:Nat}(h:n≤1000):n < sizeLine:=Nat.lt_of_le_of_lt h (by decide)
section
variable {X:Cx}
theorem pv (i:Nat) {x:Str}{pos:Pos}(hN:X.N[i]?=some x:=by rfl) (hv:Vis X.env.scope x:=by first | exact Or.inl rfl | exact Or.inr (Or.inl rfl) | exact Or.inr (Or.inr rfl)) (hd:(x == ("__debug__" : Str))=false:=by decide)
  (hcd:(x == ("__classdict__" : Str))=false:=by decide):PE X (.Name x pos) (tVar i):=x2v hN hv hd hcd
end
def Same (H H':Hp):Prop:=∀b o,H b=some o->H' b=some o
theorem Same.refl (H:Hp):Same H H:=λ _ _ h=>h
theorem Same.trans {H H1 H2:Hp}(a:Same H H1) (b:Same H1 H2):Same H H2:=λ c o h=>b c o (a c o h)
theorem Same.free {H H':Hp}(e:Same H H') {l:Addr}(h:H' l=Option.none):H l=Option.none:=by
 cases q:H l with
 | none=>rfl
 | some o =>
  rw [e l o q] at h
  cases h
theorem Same.seq {K:W.Frag}{H H':Hp}{a:Addr}{xs:List V}(e:Same H H') (h:SqL K H a xs):SqL K H' a xs:=by
 rcases h with (h | ⟨o,h⟩) | h
 ·exact .inl (.inl (e _ _ h))
 ·exact .inl (.inr ⟨o,e _ _ h⟩)
 ·exact .inr h
end L2
set_option maxHeartbeats 4000000
namespace L2
open PySem PySem.Spec PyProof.Rows
section
variable {prog:Program}{w:World}{A:Around}{R:Result->Shared->Prop}{s:Shared}
theorem z8x {elt target iter:Expr}{scope:Scope}{pos:Pos}{it acc:Value}{env:Env}(I:Nat->Shared->Prop)
  (turn:∀n s,I n s->wpAny (model prog w) A (pyNext it) (λ r s₁=>match r with
   | none=>R (.ok .next) s₁
   | some v=>wpAny (model prog w) A (letOwnedTupleGo target it v) (λ _ s₀=>wpAny (model prog w) A (assign target env v) (λ _ s₂=>wpAny (model prog w) A (eval elt env) (λ x s₃ =>
     wpAny (model prog w) A (call (.builtin "list.append") [acc,x]) (λ _ s₄=>∃m,m < n/\I m s₄) (λ _ _=>False) s₃)
     (λ _ _=>False) s₂) (λ _ _=>False) s₀) (λ _ _=>False) s₁) (λ _ _=>False) s)
  (n:Nat) (h:I n s) :
  codeAny (model prog w) A (.compLoop (.ListComp elt [⟨target,iter,[],0⟩] scope pos) 0 it acc env) R s:=by
 refine codeAny_loop rfl I (λ n s hI=>?_) n h
 show wpAny _ _ ((compTurn (.ListComp elt [⟨target,iter,[],0⟩] scope pos) 0 it acc env).onRaise (λ x=>do noteFrame x env;theTreesLotGoes x)) _ _ s
 refine wpAny_noted ?_
 rw [compTurn_list1]
 refine wpAny_bind (wpAny_standAt (wpAny_bind (wpAny_mono (turn n s hI) (λ r s₁ h₁=>?_) λ _ _ h'=>h'.elim)))
 cases r with
 | none=>exact wpAny_pure h₁
 | some v =>
  refine wpAny_bind (wpAny_mono h₁ (λ _ s₀ h₀=>?_) λ _ _ h'=>h'.elim)
  exact wpAny_bind (wpAny_mono h₀ (λ _ s₂ h₂=>wpAny_bind (wpAny_bind (wpAny_mono h₂ (λ x s₃ h₃=>wpAny_bind (wpAny_mono h₃
   (λ _ s₄ h₄=>wpAny_pure (wpAny_pure ⟨rfl,h₄⟩)) λ _ _ h'=>h'.elim)) λ _ _ h'=>h'.elim))) λ _ _ h'=>h'.elim)
end
def cxComp (X:Cx) (N:List Str) (scope:Scope) (cl:List (Str × Addr)) (C:Addr) (ex:List Addr) (s:Shared) (H:Hp):Cx where
 prog:=X.prog
 w:=X.w
 K:=X.K
 mg:=X.mg
 base:=X.base
 A:=X.A
 N:=N
 s₀:=s
 H₀:=H
 env:=compEnvC scope cl C X.env
 outer:=X.stack
 stack:=X.stack
 ex:=ex
 fn:=λ _=>false
 calm:=X.calm
 pn:=X.pn
 xe:=λ _ _=>False
def compSt (k:Nat) (js:List Nat) (σ:St):St:=List.replicate k none++js.map λ j=>(σ[j]?).join
def tComp (wi:TI) (k:Nat) (js:List Nat) (g:TG) (te:TE):TE:=λ σ H Q=>wi σ H λ J H1 =>
 ∃W:Nat->Nat->List V->St->Hp->Prop,(∃m,W 0 m [] (compSt k js σ) H1)/\∀i m ys σ' H',W i m ys σ' H' ->
  (J.stop i H'/\∀p,H' p=none->Q (.ref p) (upd H' p (.lst ys))) \/
  (J.go i H'/\ys.length < sizeLine/\∃N:List V->St->Hp->Prop,(∀zs σ2 H2,N zs σ2 H2->∃m',m' < m/\W (i+1) m' zs σ2 H2) /\
   ∀x H2,J.yld i H' x H2->g x σ' H2 λ σ3 H3=>te σ3 H3 λ v H4=>N (ys++[v]) σ3 H4)
structure Cap (X:Cx) (scope:Scope) (cl:List (Str × Addr)) (x:Str) (j:Nat):Prop where
 at_:X.N[j]?=some x
 out:X.env.scope.names.lookup x=some .cell\/X.env.scope.names.lookup x=some .free
 inn:(relabel scope X.env).names.lookup x=some .cell\/(relabel scope X.env).names.lookup x=some .free
theorem z8o {σ:St}{j:Nat}{v:V}(h:(σ[j]?).join=some v):σ[j]?=some (some v):=by
 cases e:σ[j]? with
 | none=>rw [e] at h;cases h
 | some o =>
  rw [e] at h
  cases o with
  | none=>cases h
  | some u=>cases h;rfl
theorem z8w {X:Cx}{elt tg iter:Expr}{scope:Scope}{cl:List (Str × Addr)}{pos:Pos}{own fv:List Str}{js:List Nat}{wi:TI}{g:TG}{te:TE}
    (hc:X.calm=true) (hi:PI X tg iter wi) (hclos:closureFor scope X.env=pure cl) (hcell:∀y∈scope.names,y.2≠.cell) (hkind:scope.kind=.function)
    (hnames:∀y∈scope.names,y.2=.local->scope.names.lookup y.1=some .local)
    (hcl:∀x c,cl.lookup x=some c->X.env.cells.lookup x=some c)
    (hhas:∀x,((relabel scope X.env).names.lookup x=some .cell\/(relabel scope X.env).names.lookup x=some .free)->∃c,cl.lookup x=some c)
    (hlen:js.length=fv.length) (hcap:∀(i:Nat) x j,fv[i]?=some x->js[i]?=some j->Cap X scope cl x j)
    (hg:∀(C:Addr) (ex:List Addr) (s:Shared) (H:Hp),PG (cxComp X (own++fv) scope cl C ex s H) tg g)
    (he:∀(C:Addr) (ex:List Addr) (s:Shared) (H:Hp),PE (cxComp X (own++fv) scope cl C ex s H) elt te)
    (hs:∀x,foldedSetIterable iter X.env x=pure x)
    {pins:List (Addr × Obj)}{s:Shared}{σ:St}{H:Hp}{Q:VK}{use:Option (Value->Sem Unit)}{QQ:Value->Shared->Prop}{fpos:Pos}(I:Inv X pins σ H s) (h:tComp wi own.length js g te σ H Q)
    (fin:∀(a C:Addr) (s5:Shared) (H5:Hp) (fl:Flow),Inv X pins σ H5 s5->H5 C=none->C≠X.env.locals->X.s₀.heap.objs.size≤C->(∀x c,X.env.cells.lookup x=some c->c≠C)->(∀p∈X.pn++pins,p.1≠C)->(∃m,s5.heap.Ns C m)->Q (.ref a) H5->compPost (model X.prog X.w) X.A X.xe use QQ (.ref a) C (.ok fl) s5) :
    wpAny (model X.prog X.w) X.A (comprehension (.ListComp elt [⟨tg,iter,[],0⟩] scope pos) scope X.env fpos (newList []) false (firstIter [⟨tg,iter,[],0⟩] X.env) use) QQ X.xe s:=by
  refine wpAny_comprehension_free (use:=use) rfl hs hclos hkind hnames (thn (hi pins s σ H _ I h) λ v s1 h1=>thn h1 λ itv s2 h2=>?_)
  obtain ⟨it,fp,tn,J,H2,e,I2,T,st2,f2,W,⟨m0,w0⟩,turn⟩:=h2
  subst e
  refine wpAny_newObj_type (wpAny_newFunctionEnv hcell (by intro y hy;simp at hy) (λ h₁ hns₁ hsb₁=>?_) hkind)
  dsimp only at hns₁ hsb₁ ⊢
  generalize hHp:s2.heap.push { cls:=.type "list",dict:=none,data:=.seq ([]:List Value).toArray }=hL at hns₁ hsb₁ ⊢
  have hC:hL.objs.size=s2.heap.objs.size+1:=by rw [← hHp,Heap.size_push]
  have hDC:s2.heap.objs.size≠hL.objs.size:=by rw [hC];exact Nat.ne_of_lt (Nat.lt_succ_self _)
  have ltC:∀b,b < s2.heap.objs.size->b≠hL.objs.size:=λ b hb=>by rw [hC];exact Nat.ne_of_lt (Nat.lt_succ_of_lt hb)
  have old:∀b o,s2.heap.get? b=some o->h₁.get? b=some o:=λ b o e=>hsb₁.extBut b o (ltC b (Heap.lt_size e)) (Heap.get?_push_of_some _ (hHp ▸ Heap.get?_push_of_some _ e))
  have hacc:h₁.get? s2.heap.objs.size=some { cls:=.type "list",data:=.seq ([]:List Value).toArray 0 }:=hsb₁.extBut _ _ hDC (Heap.get?_push_of_some _ (hHp ▸ Heap.get?_push_size _ rfl))
  have hfresh:∀a,s2.heap.objs.size≤a->H2 a=none:=λ a ha=>I2.hok.fresh ha
  have fpL:∀b∈fp,b < s2.heap.objs.size:=λ b hb=>by
    obtain ⟨o,e,_⟩:=T.obj _ _ st2 b hb
    exact Heap.lt_size e
  have cellL:∀x c,cl.lookup x=some c->c < s2.heap.objs.size:=λ x c e=>by
    obtain ⟨v,q⟩:=I2.cell x c (hcl x c e)
    exact q.lt
  have pinL:∀p∈X.pn++pins,p.1 < s2.heap.objs.size:=λ p hp=>Heap.lt_size (I2.pin p hp).1
  generalize hX:cxComp X (own++fv) scope cl hL.objs.size fp s2 H2=Y
  have ok:Y.Ok:=by
    subst hX
    refine ⟨I2.ok.mod,hkind,I2.ok.glob,I2.ok.blt,by show s2.heap.objs.size≤hL.objs.size;omega,λ x y c h1 h2=>I2.ok.inj x y c (hcl x c h1) (hcl y c h2),λ x hx=>hhas x hx,
      λ x c hf=>absurd hf (by show ¬(false=true);decide),I2.ok.hd,I2.ok.frames,.inl rfl,λ b hb=>⟨ltC b (fpL b hb),λ x c e=>(f2 b hb).2.2.2.2.1 x c (hcl x c e)⟩,I2.bs,Nat.le_trans I2.ok.bsz I2.sz,λ b o e hb=>?_,λ b hb hz=>?_,I2.stack,I2.stkFree⟩
    · rcases (f2 b hb).2.2.2.1 with z | z
      · exact I2.ok.noex b o e z
      · exact absurd (Nat.lt_of_lt_of_le (Heap.lt_size e) (Nat.le_trans I2.ok.bsz z)) (Nat.lt_irrefl _)
    · rcases List.mem_cons.mp (I2.stkSub b hz) with z | z
      · exact (f2 b hb).2.1 z
      · exact (f2 b hb).2.2.1 z
  have hYl:Y.env.locals=hL.objs.size:=by subst hX;rfl
  have hYs:Y.s₀=s2:=by subst hX;rfl
  have hYH:Y.H₀=H2:=by subst hX;rfl
  have hYx:Y.ex=fp:=by subst hX;rfl
  have hYf:Y.fs=frs X.stack:=by subst hX;rfl
  have hYc:Y.env.cells=cl:=by subst hX;rfl
  have hYp:Y.pn=X.pn:=by subst hX;rfl
  have pinOk:∀p∈X.pn++pins,s2.heap.get? p.1=some p.2/\H2 p.1=none/\p.1≠hL.objs.size/\p.1 ∉ frs X.stack/\∀v,p.2.data≠.cell v:=λ p hp=>by
    obtain ⟨e,n,ne,nf,d⟩:=I2.pin p hp
    refine ⟨e,n,ltC _ (Heap.lt_size e),λ z=>?_,d⟩
    rcases List.mem_cons.mp (I2.stkSub _ z) with q | q
    · exact ne q
    · exact nf q
  have stkL:∀b∈frs X.stack,b < s2.heap.objs.size:=λ b hb=>by
    obtain ⟨_,o,ho,_⟩:=I2.stack.mem hb
    exact Heap.lt_size ho
  have I3:Inv Y (pins++[(s2.heap.objs.size,{ cls:=.type "list",data:=.seq ([]:List Value).toArray 0 })]) (compSt own.length js σ) H2 { s2 with heap:=h₁,toks:=s2.toks+([]:List (Str × Value)).length }:=by
    refine ⟨ok,by subst hX;rfl,I2.bare,by rw [hYH,hYs];exact Un.kept old,⟨_,by rw [hYl];exact hns₁,λ i x v e1 e2 e3=>?_⟩,λ x c e=>?_,by rw [hYl];exact hfresh _ (by omega),λ x c e=>?_,λ p hp=>?_,by subst hX;exact I2.hok.kept old,?_⟩
    · subst hX
      have e1:(own++fv)[i]?=some x:=e1
      unfold compSt at e2
      by_cases hi:i < own.length
      · rw [List.getElem?_append_left (by simpa using hi),List.getElem?_replicate] at e2
        split at e2<;>cases e2
      · rw [List.getElem?_append_right (by simpa using hi),List.length_replicate,List.getElem?_map] at e2
        rw [List.getElem?_append_right (by omega)] at e1
        cases ej:js[i - own.length]? with
        | none=>rw [ej] at e2;cases e2
        | some j =>
          rw [ej] at e2
          have cp:=hcap _ x j e1 ej
          have e2':σ[j]?=some (some v):=z8o (Option.some.inj e2)
          obtain ⟨m,hn,hl⟩:=I2.loc
          obtain ⟨u,r,l⟩:=hl j x v cp.at_ e2' (cp.out.elim (λ z=>.inr (.inl z)) λ z=>.inr (.inr z))
          refine ⟨u,r,.inr ⟨cp.inn,?_⟩⟩
          obtain ⟨c,ec⟩:=hhas x cp.inn
          rcases l with ⟨k,_⟩ | ⟨_,c',ec',z⟩
          · have k:X.env.scope.names.lookup x=some .local:=k
            rcases cp.out with q | q<;>rw [q] at k<;>cases k
          · rw [hcl x c ec] at ec'
            cases ec'
            obtain ⟨o,ho,hd⟩:=z
            exact ⟨c,ec,o,old _ _ ho,hd⟩
    · rw [hYc] at e
      obtain ⟨v,o,ho,hd⟩:=I2.cell x c (hcl x c e)
      exact ⟨v,o,old _ _ ho,hd⟩
    · rw [hYc] at e
      exact I2.freeC x c (hcl x c e)
    · rw [hYp] at hp
      rw [hYl,hYf]
      rcases List.mem_append.mp hp with z | z
      · obtain ⟨a,b,c,d,f⟩:=pinOk p (List.mem_append_left _ z)
        exact ⟨old _ _ a,b,c,d,f⟩
      · rcases List.mem_append.mp z with z | z
        · obtain ⟨a,b,c,d,f⟩:=pinOk p (List.mem_append_right _ z)
          exact ⟨old _ _ a,b,c,d,f⟩
        · have e:p=_:=List.mem_singleton.mp z
          subst e
          exact ⟨hacc,hfresh _ (Nat.le_refl _),hDC,λ z=>absurd (stkL _ z) (Nat.lt_irrefl _),λ v z=>by cases z⟩
    · subst hX
      unfold compSt
      show _=(own++fv).length
      simp [hlen]
  have hYprog:Y.prog=X.prog:=by subst hX;rfl
  have hYw:Y.w=X.w:=by subst hX;rfl
  have hYK:Y.K=X.K:=by subst hX;rfl
  have hYA:Y.A=X.A:=by subst hX;rfl
  have hYcalm:Y.calm=true:=by subst hX;exact hc
  have hYxe:Y.xe=λ _ _=>False:=by subst hX;rfl
  have hYenv:Y.env=compEnvC scope cl hL.objs.size X.env:=by subst hX;rfl
  have hg':=hg hL.objs.size fp s2 H2
  have he':=he hL.objs.size fp s2 H2
  rw [hX] at hg' he'
  have fpOk:∀ {H':Hp}{pn:List (Addr × Obj)},(∀b∈fp,H' b=none)->(∀p∈pn,p.1=s2.heap.objs.size\/p∈pins)->∀b∈fp,FpOk Y pn H' b:=λ hn hp b hb=>by
    refine ⟨hn b hb,by rw [hYl];exact ltC b (fpL b hb),?_,.inl (by rw [hYx];exact hb),λ x c e=>?_,λ p hq=>?_⟩
    · rw [hYf]
      intro hz
      rcases List.mem_cons.mp (I2.stkSub b hz) with z | z
      · exact (f2 b hb).2.1 z
      · exact (f2 b hb).2.2.1 z
    · rw [hYc] at e
      exact (f2 b hb).2.2.2.2.1 x c (hcl x c e)
    · rw [hYp] at hq
      rcases List.mem_append.mp hq with z | z
      · exact (f2 b hb).2.2.2.2.2 p (List.mem_append_left _ z)
      · rcases hp p z with q | q
        · rw [q];exact Ne.symm (Nat.ne_of_lt (fpL b hb))
        · exact (f2 b hb).2.2.2.2.2 p (List.mem_append_right _ q)
  have loop:∀s₃:Shared,s₃={ s2 with heap:=h₁,toks:=s2.toks+([]:List (Str × Value)).length } ->
      codeAny (model X.prog X.w) X.A (.compLoop (.ListComp elt [⟨tg,iter,[],0⟩] scope pos) 0 (.ref it) (.ref s2.heap.objs.size) (compEnvC scope cl hL.objs.size X.env))
        (compPost (model X.prog X.w) X.A X.xe use QQ (.ref s2.heap.objs.size) hL.objs.size) s₃:=by
    rintro s₃ rfl
    refine z8x (λ n s'=>∃i ys its k σ' H',Inv Y (pins++[(s2.heap.objs.size,{ cls:=.type "list",data:=.seq (its:List Value).toArray k })]) σ' H' s'/\tn i s'.heap/\(∀b∈fp,H' b=none)/\Vals ys its/\ys.length≤sizeLine/\W i n ys σ' H') ?_ m0
      ⟨0,[],[],0,_,H2,I3,T.keep _ _ _ st2 λ b _ o e=>old b o e,λ b hb=>(f2 b hb).1,.nil,Nat.zero_le _,w0⟩
    rintro n s4 ⟨i,ys,its,k,σ4,H4,I4,st4,fr4,rv,hz,w4⟩
    have pinD:∀p∈(pins++[(s2.heap.objs.size,({ cls:=.type "list",data:=.seq (its:List Value).toArray k }:Obj))]),p.1=s2.heap.objs.size\/p∈pins:=λ p hp=>by
      rcases List.mem_append.mp hp with z | z
      · exact .inr z
      · rw [List.mem_singleton.mp z];exact .inl rfl
    have F4:=fpOk (pn:=pins++[(s2.heap.objs.size,{ cls:=.type "list",data:=.seq (its:List Value).toArray k })]) fr4 pinD
    rcases turn i n ys σ4 H4 w4 with ⟨stop,qn⟩ | ⟨go,hlt,N,hN,step⟩
    · have d:=T.done Y hYprog hYw hYK hYcalm i _ s4 σ4 H4 (λ _ _=>False) I4 F4 st4 stop
      rw [hYA] at d
      refine thn d λ r s5 ⟨hr,I5⟩=>?_
      subst hr
      obtain ⟨m,hn,_⟩:=id I5.loc
      rw [hYl] at hn
      have hD:=I5.pin (s2.heap.objs.size,{ cls:=.type "list",data:=.seq (its:List Value).toArray k }) (List.mem_append_right _ (List.mem_append_right _ (List.mem_singleton.mpr rfl)))
      have hDn:H4 s2.heap.objs.size=none:=hD.2.1
      have kp:∀b o,b≠hL.objs.size->s5.heap.get? b=some o->s5.heap.get? b=some o:=λ b o _ e=>e
      have B:=I5.base
      rw [hYH,hYs,hYx,hYf] at B
      have s2C:∀b o,s2.heap.get? b=some o->b≠hL.objs.size:=λ b o e=>ltC b (Heap.lt_size e)
      have trk:∀b u,H4 b=some u->b≠s2.heap.objs.size:=λ b u e z=>by rw [z,hDn] at e;cases e
      have trC:∀b u,H4 b=some u->b≠hL.objs.size:=λ b u e z=>by
        have:=I5.free
        rw [hYl,← z,e] at this;cases this
      have hH2:∀b u,H2 b=some u->b≠s2.heap.objs.size:=λ b u e z=>by rw [z,hfresh _ (Nat.le_refl _)] at e;cases e
      have IX:Inv X pins σ (upd H4 s2.heap.objs.size (.lst ys)) s5:=by
       refine I2.call' (ch:=fp) (by show s5.os=s2.os;rw [I5.os,hYs]) ⟨λ b o e n hb hx=>kp b o (s2C b o e) (B.keep b o e n hb hx),λ b o e n hb hx=>?_,λ b o e n hx=>?_,λ b o e hx=>?_,λ b xs e=>?_,λ b o u e=>?_,λ b ps e=>?_⟩ ?_ I5.bare (λ b hb=>⟨(f2 b hb).2.2.2.1,(f2 b hb).2.1,(f2 b hb).2.2.2.2.1,(f2 b hb).2.2.2.2.2⟩)
       · obtain ⟨sl,q⟩:=B.slot b o e n hb hx
         exact ⟨sl,kp b _ (s2C b o e) q⟩
       · rw [z1a (Nat.ne_of_lt (Heap.lt_size e))]
         exact B.free b o e n hx
       · obtain ⟨o',q⟩:=B.there b o e hx
         exact ⟨o',kp b o' (s2C b o e) q⟩
       · rw [z1a (hH2 b _ e)]
         exact B.tups b xs e
       · rw [z1a (hH2 b _ e)]
         exact B.frzs b o u e
       · obtain ⟨more,q⟩:=B.tbls b ps e
         exact ⟨more,by rw [z1a (hH2 b _ e)];exact q⟩
       · intro b u e
         by_cases hb:b=s2.heap.objs.size
         · subst hb
           rw [z0f] at e
           cases e
           exact ⟨hz,its,k,rv,kp _ _ hDC hD.1⟩
         · rw [z1a hb] at e
           have okb:=I5.hok b u e
           rw [hYprog,hYw] at okb
           refine okb.stay (λ c v hc q=>kp c v ?_ q) (λ c q=>by rw [z1a (trk c _ q)];exact q) λ c xs q=>by rw [z1a (trk c _ q)];exact q
           rcases hc with z | z
           · rw [z];exact trC b u e
           · exact trC c _ z
      have zC:upd H4 s2.heap.objs.size (.lst ys) hL.objs.size=none:=by
        rw [z1a (Ne.symm hDC)]
        have:=I5.free
        rwa [hYl] at this
      exact fin s2.heap.objs.size hL.objs.size s5 _ _ IX zC (Ne.symm (ltC _ I2.lt)) (by have:=I2.sz;omega) (λ x c e=>ltC c (by obtain ⟨v,q⟩:=I2.cell x c e;exact q.lt)) (λ p hp=>ltC _ (pinL p hp)) ⟨m,hn⟩ (qn _ hDn)
    · have d:=T.item Y hYprog hYw hYK hYcalm i _ s4 σ4 H4 (λ _ _=>False) I4 F4 st4 go
      rw [hYA] at d
      refine thn d λ r s5 ⟨u,hr,h5⟩=>?_
      subst hr
      refine thn h5 λ _ s6 ⟨x,H6,I6,r6,y6,st6,fr6⟩=>?_
      have I6':=I6.pinned (fpOk (pn:=pins++[(s2.heap.objs.size,{ cls:=.type "list",data:=.seq (its:List Value).toArray k })]) fr6 pinD) (T.obj _ _ st6)
      have d7:=hg' _ s6 σ4 H6 x u _ I6' r6 (step x H6 y6)
      rw [hYprog,hYw,hYA,hYxe,hYenv] at d7
      refine thn d7 λ _ s7 ⟨σ7,H7,I7,q7⟩=>?_
      have d8:=he' _ s7 σ7 H7 _ I7 q7
      rw [hYprog,hYw,hYA,hYxe,hYenv] at d8
      refine thn d8 λ u8 s8 ⟨v8,H8,I8,r8,n8⟩=>?_
      obtain ⟨m',hm,w8⟩:=hN _ _ _ n8
      have pD:=I8.pin (s2.heap.objs.size,{ cls:=.type "list",data:=.seq (its:List Value).toArray k }) (List.mem_append_right _ (List.mem_append_left _ (List.mem_append_right _ (List.mem_singleton.mpr rfl))))
      have tn8:tn (i+1) s8.heap:=T.keep _ _ _ st6 λ b hb o e=>(I8.pin (b,o) (List.mem_append_right _ (List.mem_append_right _ (z2e hb e)))).1
      have fr8:∀b∈fp,H8 b=none:=λ b hb=>by
        obtain ⟨o,e,d⟩:=T.obj _ _ st6 b hb
        exact (I8.pin (b,o) (List.mem_append_right _ (List.mem_append_right _ (z2e hb e)))).2.1
      have J8:Inv Y pins σ7 H8 s8:=I8.unpinned.unpinned
      have eD:s8.heap.get? s2.heap.objs.size=some { cls:=.type "list",data:=.seq its.toArray k }:=pD.1
      refine call_meets F.slot_list_append ⟨_,eD,rfl⟩ F.entry_list_append (F.args_list_append_2 _ _) (PySem.list_append _ its.toArray k u8 (by rw [List.size_toArray,← rv.length];omega)) ⟨eD,?_⟩
      have other:∀b o,b≠s2.heap.objs.size->s8.heap.get? b=some o->(s8.heap.update s2.heap.objs.size (Obj.mapSeq λ xs=>xs.push u8)).get? b=some o:=λ b o nb e=>(Heap.get?_update_other s8.heap _ (Ne.symm nb)).trans e
      have J9:=J8.turned (t':=s8.toks) (it:=s2.heap.objs.size) (h':=s8.heap.update s2.heap.objs.size (Obj.mapSeq λ xs=>xs.push u8)) other pD.2.1 (by rw [hYl];exact hDC) (.inr (by rw [hYs];exact Nat.le_refl _))
        (λ x c e=>by rw [hYc] at e;exact Nat.ne_of_lt (cellL x c e)) (λ p hp=>by rw [hYp] at hp;exact Nat.ne_of_lt (pinL p hp))
      have ep:(its.toArray.push u8)=(its++[u8]).toArray:=by simp
      obtain ⟨kk,upD⟩:∃kk,(s8.heap.update s2.heap.objs.size (Obj.mapSeq λ xs=>xs.push u8)).get? s2.heap.objs.size=some { cls:=.type "list",data:=.seq (its++[u8]).toArray kk }:=by
        have z:=PySem.IsL.update eD (λ xs=>xs.push u8)
        rw [ep] at z
        exact ⟨_,z⟩
      refine ⟨m',hm,i+1,ys++[v8],its++[u8],kk,σ7,H8,J9.pins_of λ p hp=>?_,T.keep _ _ _ tn8 λ b hb o e=>other b o (Nat.ne_of_lt (fpL b hb)) e,fr8,rv.append (.cons r8 .nil),?_,w8⟩
      · rcases List.mem_append.mp hp with z | z
        · exact J9.pin p (List.mem_append_right _ z)
        · rw [List.mem_singleton.mp z]
          exact ⟨upD,pD.2.1,by rw [hYl];exact hDC,by rw [hYf];exact λ z=>absurd (stkL _ z) (Nat.lt_irrefl _),λ v z=>by cases z⟩
      · rw [List.length_append,List.length_singleton];omega
  exact codeAny_compStart_list (loop _ rfl) (T.self _ 0 _ _ _ (T.keep _ _ _ st2 λ b _ o e=>old b o e) (loop _ rfl))
theorem z3d {X:Cx}{elt tg iter:Expr}{scope:Scope}{cl:List (Str × Addr)}{pos:Pos}{own fv:List Str}{js:List Nat}{wi:TI}{g:TG}{te:TE}
  (hc:X.calm=true) (hi:PI X tg iter wi) (hclos:closureFor scope X.env=pure cl) (hcell:∀y∈scope.names,y.2≠.cell) (hkind:scope.kind=.function)
  (hnames:∀y∈scope.names,y.2=.local->scope.names.lookup y.1=some .local)
  (hcl:∀x c,cl.lookup x=some c->X.env.cells.lookup x=some c)
  (hhas:∀x,((relabel scope X.env).names.lookup x=some .cell\/(relabel scope X.env).names.lookup x=some .free)->∃c,cl.lookup x=some c)
  (hlen:js.length=fv.length) (hcap:∀(i:Nat) x j,fv[i]?=some x->js[i]?=some j->Cap X scope cl x j)
  (hg:∀(C:Addr) (ex:List Addr) (s:Shared) (H:Hp),PG (cxComp X (own++fv) scope cl C ex s H) tg g)
  (he:∀(C:Addr) (ex:List Addr) (s:Shared) (H:Hp),PE (cxComp X (own++fv) scope cl C ex s H) elt te)
  (hs:∀x,foldedSetIterable iter X.env x=pure x:=by intro _;rfl) :
  PE X (.ListComp elt [⟨tg,iter,[],0⟩] scope pos) (tComp wi own.length js g te):=by
 intro pins s σ H Q I h
 rw [eval_ListComp]
 refine z8w (use:=none) (QQ:=EP X pins σ Q) hc hi hclos hcell hkind hnames hcl hhas hlen hcap hg he hs I h λ a C s5 H5 fl I5 zC zL zS zc zp ⟨m,hn⟩ q=>⟨m,hn,λ h' sc=>?_⟩
 exact ⟨.ref a,H5,I5.turned (t':=s5.toks) (it:=C) (λ d o nd e=>sc.extBut d o nd e) zC zL (.inr zS) zc zp,rfl,q⟩
theorem y5w {K:PySem.W.Frag}{a:Addr}{xs:List V}{g:TG}{te:TE}{Q:VK}{σ:St}{H:Hp}(Pv:Nat->List V->St->Hp->Prop) (h0:Pv 0 [] σ H) (hl:∀i ys σ H,i≤xs.length->Pv i ys σ H->SqL K H a xs)
  (hs:∀i x ys σ H,xs[i]?=some x->Pv i ys σ H->ys.length < sizeLine/\g x σ H λ σ3 H3=>te σ3 H3 λ v H4=>Pv (i+1) (ys++[v]) σ3 H4) (hd:∀ys σ H,Pv xs.length ys σ H->∀p,H p=none->Q (.ref p) (upd H p (.lst ys))) :
  ∃W:Nat->Nat->List V->St->Hp->Prop,(∃m,W 0 m [] σ H)/\∀i m ys σ' H',W i m ys σ' H' ->
   ((Itl K a).stop i H'/\∀p,H' p=none->Q (.ref p) (upd H' p (.lst ys))) \/
   ((Itl K a).go i H'/\ys.length < sizeLine/\∃N:List V->St->Hp->Prop,(∀zs σ2 H2,N zs σ2 H2->∃m',m' < m/\W (i+1) m' zs σ2 H2) /\
    ∀x H2,(Itl K a).yld i H' x H2->g x σ' H2 λ σ3 H3=>te σ3 H3 λ v H4=>N (ys++[v]) σ3 H4):=by
 refine ⟨λ i m ys σ H=>m=xs.length - i/\i≤xs.length/\Pv i ys σ H,⟨xs.length,by simp,Nat.zero_le _,h0⟩,?_⟩
 rintro i m ys σ H ⟨rfl,hi,p⟩
 have q:=hl i ys σ H hi p
 by_cases hlt:i < xs.length
 ·have e:xs[i]?=some xs[i]:=by simp [hlt]
  refine .inr ⟨⟨xs,xs[i],q,e⟩,(hs i _ ys σ H e p).1,Pv (i+1),λ zs σ' H' p'=>⟨xs.length - (i+1),by omega,rfl,hlt,p'⟩,λ x H' y=>?_⟩
  obtain ⟨e,y⟩:=y
  subst e
  exact (hs i x ys σ _ (y xs q) p).2
 ·have e:i=xs.length:=by omega
  subst e
  exact .inl ⟨⟨xs,q,Nat.le_refl _⟩,hd ys σ H p⟩
theorem y8w {K:PySem.W.Frag}{a:Addr}{xs:List V}{g:TG}{te:TE}{Q:VK}{σ:St}{H:Hp}(Pv:Nat->List V->St->Hp->Prop) (h0:Pv 0 [] σ H) (hl:∀i ys σ H,i≤xs.length->Pv i ys σ H->SqT K H a xs)
  (hs:∀i x ys σ H,xs[i]?=some x->Pv i ys σ H->ys.length < sizeLine/\g x σ H λ σ3 H3=>te σ3 H3 λ v H4=>Pv (i+1) (ys++[v]) σ3 H4) (hd:∀ys σ H,Pv xs.length ys σ H->∀p,H p=none->Q (.ref p) (upd H p (.lst ys))) :
  ∃W:Nat->Nat->List V->St->Hp->Prop,(∃m,W 0 m [] σ H)/\∀i m ys σ' H',W i m ys σ' H' ->
   ((Itt K a).stop i H'/\∀p,H' p=none->Q (.ref p) (upd H' p (.lst ys))) \/
   ((Itt K a).go i H'/\ys.length < sizeLine/\∃N:List V->St->Hp->Prop,(∀zs σ2 H2,N zs σ2 H2->∃m',m' < m/\W (i+1) m' zs σ2 H2) /\
    ∀x H2,(Itt K a).yld i H' x H2->g x σ' H2 λ σ3 H3=>te σ3 H3 λ v H4=>N (ys++[v]) σ3 H4):=by
 refine ⟨λ i m ys σ H=>m=xs.length - i/\i≤xs.length/\Pv i ys σ H,⟨xs.length,by simp,Nat.zero_le _,h0⟩,?_⟩
 rintro i m ys σ H ⟨rfl,hi,p⟩
 have q:=hl i ys σ H hi p
 by_cases hlt:i < xs.length
 ·have e:xs[i]?=some xs[i]:=by simp [hlt]
  refine .inr ⟨⟨xs,xs[i],q,e⟩,(hs i _ ys σ H e p).1,Pv (i+1),λ zs σ' H' p'=>⟨xs.length - (i+1),by omega,rfl,hlt,p'⟩,λ x H' y=>?_⟩
  obtain ⟨e,y⟩:=y
  subst e
  exact (hs i x ys σ _ (y xs q) p).2
 ·have e:i=xs.length:=by omega
  subst e
  exact .inl ⟨⟨xs,q,Nat.le_refl _⟩,hd ys σ H p⟩
theorem x0x {K:W.Frag}{h:Heap}{gm:Str->Option Value}{nmX:Str}{Cx':Addr}{bmX:List Value}{nid:String}(KI:K.In h) (GN:h.Ns mainGlobals gm)
  (hn:W.nsIn K mainGlobals nmX=some (some (.ref Cx'))) (hq:W.excIn K Cx' bmX nid=true):OwnCls nmX Cx' bmX nid gm h:=by
 constructor
 ·exact W.mg_of KI GN hn
 ·unfold W.excIn at hq
  split at hq
  ·rename_i ddx cdx slx hlk
   split at hq
   ·rename_i C2 bm2 f0 f1 f2 f3 nn f5 hmro hsl0
    simp only [Bool.and_eq_true,beq_iff_eq,Bool.not_eq_true'] at hq
    obtain ⟨⟨⟨⟨⟨eC,eN⟩,hdl⟩,htl⟩,hnsok⟩,hinit⟩:=hq
    subst eC eN
    obtain ⟨c1,c2,c3,c4,c5,c6,c7,c8,c9,c10,c11⟩:=cdx
    dsimp only at hmro hdl hnsok hinit
    subst hmro hdl
    have hsl1:slx=#[f0,f1,f2,f3,some (.builtin nn),f5]:=by
     obtain ⟨lst⟩:=slx
     simp only at hsl0
     rw [hsl0]
    subst hsl1
    refine ⟨bm2,c4,c1,c5,c2,c6,c7,c8,c9,c10,ddx,f0,f1,f2,f3,f5,h.nsMap c4,KI _ _ hlk,?_,?_,?_⟩
    ·exact .of_isNs (W.isNs_of_in KI hnsok)
    ·exact W.nsMap_none_of_in KI hnsok hinit
    ·exact W.tail_of_in KI htl
   ·cases hq
  ·cases hq
def CX1 (P:Program) (w:World):CXT:=λ outer H s E e s' =>
 ∃(a C:Addr) (a0:Value) (H':Hp) (B:Heap),e=.ref a/\s'.os=s.os/\AllBare s'.gens/\Heap.FlyingW B outer a (.ref C) a0 s'.heap /\
  (∀b o,s.heap.get? b=some o->H b=none->b ∉ frs outer->B.get? b=some o)/\(∀b o,s.heap.get? b=some o->b ∉ frs outer->∃o',B.get? b=some o') /\
  Un (frs outer) [] H H' s.heap s'.heap/\HOk P w H' B/\E (.ref C) none H'
section
variable {P:Program}{w:World}{K:W.Frag}{mg:Str->Option Value}{base:Heap}{N:List Str}{qual:Str}{scope:Scope}{f:Addr}{cd:Value}{A:Around}{outer:List Env}{s:Shared}{H:Hp}{E:XK}
theorem y8f {H:Hp}{h:Heap}{l:List Addr}(ok:HOk P w H h) (hl:∀b∈l,H b=none):HOk P w H (W.hideAll h l):=λ b u e=>by
 have nb:∀c v,H c=some v->c ∉ l:=λ c v q z=>by rw [hl c z] at q;cases q
 refine (ok b u e).stay (λ c v hc q=>W.hideAll_get _ q ?_) (λ _ q=>q) λ _ _ q=>q
 rcases hc with z | z
 ·rw [z];exact nb b u e
 ·exact nb c _ z
theorem y9q {l:List Env}:∀env∈l,∀b,env.frame=some b->b∈frs l:=λ env he b hb=>List.mem_filterMap.mpr ⟨env,he,hb⟩
theorem z1e:Passes (CX1 P w) (cxOf (CX1 P w) P w K mg base N qual scope f cd A outer s H E) E:=by
 intro pins σ H1 s1 e s' I hx
 obtain ⟨a,C,a0,H',B,rfl,os,bare,fl,inB,thB,un,okB,hE⟩:=hx
 have hfr:(cxOf (CX1 P w) P w K mg base N qual scope f cd A outer s H E).A.frames=some (envOfC qual scope s.heap.objs.size f cd::outer):=I.ok.frames
 refine wpAny_leaves_onW hfr rfl fl λ h'' fl'' up''=>?_
 have Bs:∀b o,B.get? b=some o->h''.get? b=some o:=fl''.1
 have ub:Un (frs outer) [] H H1 s.heap s1.heap:=I.base
 have stk:∀b,b ∉ frs outer->b < s.heap.objs.size->b ∉ frs (envOfC qual scope s.heap.objs.size f cd::outer):=λ b hb hlt z=>by
  rcases List.mem_cons.mp (I.stkSub b z) with q | q
  ·have q:b=s.heap.objs.size:=q
   exact Nat.lt_irrefl _ (q ▸ hlt)
  ·exact hb q
 have inB':∀b o,s.heap.get? b=some o->H b=none->b ∉ frs outer->B.get? b=some o:=λ b o e n hb =>
  inB b o (ub.keep b o e n hb (by simp)) (ub.free b o e n (by simp)) (stk b hb (Heap.lt_size e))
 have thB':∀b o,s.heap.get? b=some o->b ∉ frs outer->∃o',B.get? b=some o':=λ b o e hb=>by
  obtain ⟨o1,e1⟩:=ub.there b o e (by simp)
  exact thB b o1 e1 (stk b hb (Heap.lt_size e))
 have sub:∀b,b∈frs outer->b∈frs (envOfC qual scope s.heap.objs.size f cd::outer):=λ b hb=>List.mem_cons_of_mem _ hb
 have slot:∀b o,s.heap.get? b=some o->H b=none->b∈frs outer->∃sl,h''.get? b=some { o with slots:=sl }:=λ b o e n hb=>by
  obtain ⟨sl1,e1⟩:=ub.slot b o e n hb (by simp)
  obtain ⟨sl2,e2⟩:=un.slot b _ e1 (ub.free b o e n (by simp)) (sub b hb) (by simp)
  obtain ⟨_,o3,e3,nf⟩:=I.ok.funs.mem hb
  have e3:s.heap.get? b=some o3:=e3
  rw [e] at e3;cases e3
  obtain ⟨sl3,e4⟩:=up'' b _ e2 nf
  exact ⟨sl3,e4⟩
 have frf:∀b∈frs outer,H b=none:=I.ok.frf
 refine ⟨a,C,a0,H',B,rfl,os.trans I.os,bare,fl'',inB',thB',⟨λ b o e n hb _=>Bs _ _ (inB' b o e n hb),λ b o e n hb _=>slot b o e n hb,λ b o e n _=>?_,λ b o e _=>?_,
  λ b xs e=>un.tups b xs (ub.tups b xs e),λ b o u e=>un.frzs b o u (ub.frzs b o u e),λ b ps e=>?_⟩,okB,hE⟩
 ·obtain ⟨o1,e1⟩:=ub.there b o e (by simp)
  exact un.free b o1 e1 (ub.free b o e n (by simp)) (by simp)
 ·by_cases hb:b∈frs outer
  ·obtain ⟨sl,q⟩:=slot b o e (frf b hb) hb
   exact ⟨_,q⟩
  ·obtain ⟨o',q⟩:=thB' b o e hb
   exact ⟨o',Bs _ _ q⟩
 ·obtain ⟨m1,q1⟩:=ub.tbls b ps e
  obtain ⟨m2,q2⟩:=un.tbls b _ q1
  exact ⟨m1++m2,by rw [q2,Array.append_assoc]⟩
def RaisesTo (X:Cx) (Ex:Value->Hp->Prop):Prop:=∀(pins:List (Addr × Obj)) (σ:St) (H:Hp) (s:Shared) (h':Heap) (e C:Addr) (vs:List Value),Inv X pins σ H s->Heap.MadeExcOf s.heap h' e (.ref C) vs->Ex (.ref C) H->X.xe (.ref e) { s with heap:=h' }
theorem z1z:RaisesTo (cxOf (CX1 P w) P w K mg base N qual scope f cd A outer s H E) (λ c H'=>E c none H'):=by
 intro pins σ H1 s1 h' e C vs I hm hE
 have hfr:(cxOf (CX1 P w) P w K mg base N qual scope f cd A outer s H E).A.frames=some (envOfC qual scope s.heap.objs.size f cd::outer):=I.ok.frames
 have st:s1.heap.FunFrames base (envOfC qual scope s.heap.objs.size f cd::outer):=I.stack
 refine wpAny_leaves_madeW (base:=W.hideAll s1.heap (frs (envOfC qual scope s.heap.objs.size f cd::outer))) hfr rfl (λ b o q=>W.of_hideAll _ q) (W.funFrames_hide st y9q) hm λ h'' t fl'' tp nt up''=>?_
 have ub:Un (frs outer) [] H H1 s.heap s1.heap:=I.base
 have Bs:=fl''.1
 have stk:∀b,b ∉ frs outer->b < s.heap.objs.size->b ∉ frs (envOfC qual scope s.heap.objs.size f cd::outer):=λ b hb hlt z=>by
  rcases List.mem_cons.mp (I.stkSub b z) with q | q
  ·have q:b=s.heap.objs.size:=q
   exact Nat.lt_irrefl _ (q ▸ hlt)
  ·exact hb q
 have inB':∀b o,s.heap.get? b=some o->H b=none->b ∉ frs outer->(W.hideAll s1.heap (frs (envOfC qual scope s.heap.objs.size f cd::outer))).get? b=some o:=λ b o e n hb =>
  W.hideAll_get _ (ub.keep b o e n hb (by simp)) (stk b hb (Heap.lt_size e))
 have thB':∀b o,s.heap.get? b=some o->b ∉ frs outer->∃o',(W.hideAll s1.heap (frs (envOfC qual scope s.heap.objs.size f cd::outer))).get? b=some o':=λ b o e hb=>by
  obtain ⟨o1,e1⟩:=ub.there b o e (by simp)
  exact ⟨o1,W.hideAll_get _ e1 (stk b hb (Heap.lt_size e))⟩
 have slot:∀b o,s.heap.get? b=some o->H b=none->b∈frs outer->∃sl,h''.get? b=some { o with slots:=sl }:=λ b o e n hb=>by
  obtain ⟨sl1,e1⟩:=ub.slot b o e n hb (by simp)
  obtain ⟨_,o3,e3,nf⟩:=I.ok.funs.mem hb
  have e3:s.heap.get? b=some o3:=e3
  rw [e] at e3;cases e3
  obtain ⟨sl3,e4⟩:=up'' b _ (hm.keeps _ _ e1) nf
  exact ⟨sl3,e4⟩
 have frf:∀b∈frs outer,H b=none:=I.ok.frf
 refine ⟨e,C,.ref t,H1,_,rfl,I.os,I.bare,fl'',inB',thB',⟨λ b o e n hb _=>Bs _ _ (inB' b o e n hb),λ b o e n hb _=>slot b o e n hb,λ b o e n _=>ub.free b o e n (by simp),λ b o e _=>?_,
  ub.tups,ub.frzs,ub.tbls⟩,y8f I.hok I.stkFree,hE⟩
 by_cases hb:b∈frs outer
 ·obtain ⟨sl,q⟩:=slot b o e (frf b hb) hb
  exact ⟨_,q⟩
 ·obtain ⟨o',q⟩:=thB' b o e hb
  exact ⟨o',Bs _ _ q⟩
end
def tRaise (C:Addr) (Ex:Value->Hp->Prop) (t:TA):TS:=λ _ σ H=>t σ H λ vs H1=>vs.length≤sizeLine/\Ex (.ref C) H1
theorem z1q {X:Cx}{x:Str}{C:Addr}{B newId initId:String}{bm:List Value}{np cpos pos:Pos}{e₀:Expr}{es:List Expr}{t:TA}{Ex:Value->Hp->Prop}
  (FB:ExcBaseFacts B newId initId bm) (hc:X.calm=true) (hg:Gl X x) (hn:W.nsIn X.K mainGlobals x=some (some (.ref C))) (hq:W.excIn X.K C bm newId=true) (hx:RaisesTo X Ex) (ha:PA X (e₀::es) t)
  (hs:starEach (e₀::es) X.env=(false,eval e₀ X.env)::starEach es X.env:=by rfl) (hpl:(backTo cpos (starEach es X.env)).any (·.1)=false:=by rfl) (hd:(x == ("__debug__" : Str))=false:=by decide) :
  PS X (.Raise (some (.Call (.Name x np) (e₀::es) [] cpos)) none pos) (tRaise C Ex t):=by
 intro pins s σ H D I h
 have O:=x0x I.ok.mod.kin I.ok.mod.glob hn hq
 obtain ⟨tl,Nn,n1,q1,b1,d1,m1,u1,a1,l1,dd1,j0,j1,j2,j3,j5,mN,hC,hN,hni,T⟩:=O.obj
 refine wpAny_Raise_call_subT (C:=C) (nm:=n1) (q:=q1) (N:=Nn) (bs:=b1) (bm:=tl) (hdct:=d1) (sn:=m1) (sub:=u1) (ab:=a1) (col:=l1) (dd:=dd1) (k0:=j0) (k1:=j1) (k2:=j2) (k3:=j3) (k5:=j5) (mN:=mN)
  FB (T.hasType FB.hasBase) (I.ok.hd hc) (by rw [hs];show (false || (backTo cpos (starEach es X.env)).any (·.1))=false;rw [hpl];rfl) hni (z2y I hg O.bound ⟨rfl,?_⟩ hd)
 have hA:=ha cpos pins s σ H _ I h
 rw [hs] at hA ⊢
 refine Calls.evalArgs_plain (thn hA λ us s2 ⟨vs,H2,I2,r2,hz,hE⟩=>⟨rfl,?_,I2.bk _ _ hC,hN.keeps I2.bk,T.keeps I2.bk,λ h' e hm=>hx pins σ H2 s2 h' e C us I2 hm hE⟩)
 show us.length≤sizeLine
 rw [← r2.length]
 exact hz
section
variable {P:Program}{w:World}{K:W.Frag}{mg:Str->Option Value}{base:Heap}
theorem Fun.okX {x qual:Str}{st:Stmt}{f:Addr}{fd:FuncData}{N ps:List Str}{k:Nat}{sp:Sp}(F:Fun K x qual st f fd) (S:FnScope N ps (defScope st)) (len:∀vs H Q E,sp vs H Q E->vs.length=ps.length)
  (hbody:∀(cdv:Value) (A:Around) (outer:List Env) (s:Shared) (H:Hp) (vs:List V) (Q:VK) (E:XK),Room k (A.deeper (envOfC qual (defScope st) s.heap.objs.size f cdv))->sp vs H Q E ->
   ∃t,PSs (cxOf (CX1 P w) P w K mg base N qual (defScope st) f cdv A outer s H E) (defBody st) t/\t { nx:=λ _ H'=>Q .non H',rt:=Q } (start N vs) H):FnOk P w K mg base (CX1 P w) (k+1) f fd ps sp:=by
 obtain ⟨oc,od,kV,doc,pm,an,cdv,ct,osl,rfl,lk,hcd⟩:=F.ex
 exact x1w lk hcd S len λ A outer s H vs Q E hr hsp=>hbody cdv A outer s H vs Q E hr hsp
end
def ExcO (a C:Addr):HO:=.ext λ h=>∃o vs,h.get? a=some o/\o.cls=.ref C/\o.data=.fields vs
section
variable {X:Cx}{pins:List (Addr × Obj)}{σ:St}{H:Hp}{s:Shared}
theorem Inv.gone {i:Nat}{x:Str}{v:Option Value}{m:Str->Option Value}{h':Heap}{t':Nat}(I:Inv X pins σ H s) (hN:X.N.Nodup) (hi:X.N[i]?=some x) (hk:X.env.scope.names.lookup x=some .local) (hm:s.heap.Ns X.env.locals m)
  (hl:∀(j:Nat) (y:Str) (z:V),X.N[j]?=some y->σ[j]?=some (some z)->Vis X.env.scope y->∃u,RelV z u/\Look X.env s.heap m y u) (hn':h'.Ns X.env.locals (λ y=>if y=x then v else m y)) (hs:Heap.SameBut X.env.locals s.heap h') :
  Inv X pins (σ.set i none) H { s with heap:=h',toks:=t' }:=by
 have hiσ:i < σ.length:=by rw [I.len];exact (List.getElem?_eq_some_iff.mp hi).1
 have cne:=I.cne
 have lne:∀b o,X.s₀.heap.get? b=some o->b≠X.env.locals:=λ b o e=>Nat.ne_of_lt (Nat.lt_of_lt_of_le (Heap.lt_size e) I.ok.above)
 refine ⟨I.ok,I.os,I.bare,⟨λ b o e n hb hx=>(hs.2 b (lne b o e)).trans (I.base.keep b o e n hb hx),λ b o e n hb hx=>?_,I.base.free,λ b o e hx=>?_,I.base.tups,I.base.frzs,I.base.tbls⟩,⟨_,hn',λ j y z e1 e2 e3=>?_⟩,
  λ y c e=>?_,I.free,I.freeC,λ p hp=>?_,λ b ob e=>?_,by simpa using I.len⟩
 ·obtain ⟨sl,q⟩:=I.base.slot b o e n hb hx
  exact ⟨sl,(hs.2 b (lne b o e)).trans q⟩
 ·obtain ⟨o',q⟩:=I.base.there b o e hx
  exact ⟨o',(hs.2 b (lne b o e)).trans q⟩
 ·by_cases hj:j=i
  ·subst hj
   rw [List.getElem?_set_self hiσ] at e2
   cases e2
  ·rw [List.getElem?_set_ne (Ne.symm hj)] at e2
   obtain ⟨u,r,q⟩:=hl j y z e1 e2 e3
   refine ⟨u,r,?_⟩
   rcases q with ⟨k,e⟩ | ⟨k,c,e,cz⟩
   ·refine .inl ⟨k,?_⟩
    have ny:y≠x:=λ e=>hj (z7i hN e1 (e ▸ hi))
    simp [ny,e]
   ·exact .inr ⟨k,c,e,cz.sameBut hs (cne y c e)⟩
 ·obtain ⟨w',z⟩:=I.cell y c e
  exact ⟨w',z.sameBut hs (cne y c e)⟩
 ·obtain ⟨e,n,ne,nf,d⟩:=I.pin p hp
  exact ⟨(hs.2 p.1 ne).trans e,n,ne,nf,d⟩
 ·refine (I.hok b ob e).stay (λ c w' hc q=>(hs.2 c ?_).trans q) (λ _ q=>q) λ _ _ q=>q
  rintro rfl
  rcases hc with rfl | hc
  ·rw [I.free] at e;cases e
  ·rw [I.free] at hc;cases hc
theorem Inv.track {a:Addr}{o:HO}(I:Inv X pins σ H s) (hn:H a=none) (new:ObjOk X.prog X.w (upd H a o) s.heap a o) (h1:a≠X.env.locals) (h2:∀x c,X.env.cells.lookup x=some c->c≠a) (h3:∀p∈X.pn++pins,p.1≠a)
  (h4:X.s₀.heap.get? a=none):Inv X pins σ (upd H a o) s:=by
 have ne:∀b u,H b=some u->b≠a:=λ b u e z=>by rw [z,hn] at e;cases e
 have n0:∀b u,X.s₀.heap.get? b=some u->b≠a:=λ b u e z=>by rw [z,h4] at e;cases e
 refine ⟨I.ok,I.os,I.bare,⟨I.base.keep,I.base.slot,λ b u e n hx=>?_,I.base.there,λ b xs e=>?_,λ b u v e=>?_,λ b ps e=>?_⟩,I.loc,I.cell,?_,λ x c e=>?_,λ p hp=>?_,λ b u e=>?_,I.len⟩
 ·rw [z1a (n0 b u e)];exact I.base.free b u e n hx
 ·have q:=I.base.tups b xs e
  rw [z1a (ne b _ q)];exact q
 ·have q:=I.base.frzs b u v e
  rw [z1a (ne b _ q)];exact q
 ·obtain ⟨more,q⟩:=I.base.tbls b ps e
  exact ⟨more,by rw [z1a (ne b _ q)];exact q⟩
 ·rw [z1a (Ne.symm h1)];exact I.free
 ·rw [z1a (h2 x c e)];exact I.freeC x c e
 ·obtain ⟨e,n,ne,nf,d⟩:=I.pin p hp
  exact ⟨e,by rw [z1a (h3 p hp)];exact n,ne,nf,d⟩
 ·by_cases hb:b=a
  ·subst hb;rw [z0f] at e;cases e;exact new
  ·rw [z1a hb] at e
   exact (I.hok b u e).stay (λ c v _ q=>q) (λ c q=>by rw [z1a (ne c _ q)];exact q) λ c xs q=>by rw [z1a (ne c _ q)];exact q
end
abbrev Cx.more (X:Cx) (xe:Value->Shared->Prop) (pn:List (Addr × Obj)):Cx:={ X with xe:=xe,pn:=pn }
abbrev Cx.suite (X:Cx) (a:Addr) (pn:List (Addr × Obj)):Cx:={ X with A:=X.A.mark (some (.ref a)),calm:=false,xe:=λ _ _=>False,pn:=pn }
theorem Cx.Ok.more {X:Cx}(ok:X.Ok) (xe:Value->Shared->Prop) (pn:List (Addr × Obj)):(X.more xe pn).Ok :=
 ⟨ok.mod,ok.kind,ok.glob,ok.blt,ok.above,ok.inj,ok.has,ok.cab,ok.hd,ok.frames,ok.stk,ok.exf,ok.bs,ok.bsz,ok.noex,ok.exfs,ok.funs,ok.frf⟩
theorem Cx.Ok.suite {X:Cx}(ok:X.Ok) (a:Addr) (pn:List (Addr × Obj)):(X.suite a pn).Ok :=
 ⟨ok.mod,ok.kind,ok.glob,ok.blt,ok.above,ok.inj,ok.has,ok.cab,λ z=>absurd z (by show ¬(false=true);decide),ok.frames,ok.stk,ok.exf,ok.bs,ok.bsz,ok.noex,ok.exfs,ok.funs,ok.frf⟩
def PassesAt (CX:CXT) (X:Cx) (E:XK) (σ:St):Prop:=∀(pins:List (Addr × Obj)) (H:Hp) (s:Shared) (e:Value) (s':Shared),Inv X pins σ H s->CX X.stack H s E e s'->X.xe e s'
section
variable {X:Cx}{CX:CXT}{k:Nat}{f:Addr}{fd:FuncData}{ps:List Str}{sp:Sp}{dvs:List V}{ds:List Value}{EE:St->XK}{x:Str}{p pos:Pos}{e:Expr}{es:List Expr}{t:TA}
def tCallX (sp:Sp) (dvs:List V) (EE:St->XK) (t:TA):TE:=λ σ H Q=>t σ H λ vs H1=>sp (vs++dvs) H1 Q (EE σ)
theorem y7m (F:FnOk X.prog X.w X.K X.mg X.base CX k f fd ps sp) (hr:Room k X.A) (hg:Gl X x) (hm:X.mg x=some (.ref f)) (hk:W.keepIn X.K (.ref f)=true) (hb:Binds X.K fd ps ds) (hd:Vals dvs ds) (hx:∀σ,PassesAt CX X (EE σ) σ)
  (ha:PA X (e::es) t) (hdb:(x == ("__debug__" : Str))=false:=by decide) (he:starEach (e::es) X.env=(false,eval e X.env)::starEach es X.env:=by rfl) (hpl:(backTo pos (starEach es X.env)).any (·.1)=false:=by rfl) :
  PE X (.Call (.Name x p) (e::es) [] pos) (tCallX sp dvs EE t):=by
 intro pins s σ H Q I h
 refine wpAny_Call_Name_kw (z2y I hg hm ?_ hdb)
 refine W.callWith_K (h₀:=X.base) I.ok.mod.kin hk (thn (ha pos pins s σ H _ I h) λ us s1 ⟨vs,H1,I1,r,q⟩=>⟨I1.kIn,?_⟩) he hpl
 have r2:Vals (vs++dvs) (us++ds):=r.append hd
 have hl:(us++ds).length=ps.length:=by rw [← r2.length];exact F.len _ _ _ _ q
 refine wpAny_call (codeAny_mono (F.run X.A X.stack s1 H1 ⟨us,[]⟩ (us++ds) (vs++dvs) Q (EE σ) hr I1.env0 (hb s1 us I1.kIn hl) r2 q) λ r s' hq=>?_)
 cases r with
 | error e=>exact hx σ pins H1 s1 e s' I1 hq
 | ok fl =>
  cases fl with
  | ret u=>exact I1.after hq
  | next=>exact False.elim hq
  | brk=>exact False.elim hq
  | cont=>exact False.elim hq
end
def goneEnds (D:Ends) (i:Nat):Ends:={ nx:=λ σ H=>D.nx (σ.set i none) H,rt:=D.rt,bk:=λ σ H=>D.bk (σ.set i none) H,ct:=λ σ H=>D.ct (σ.set i none) H }
def caughtBy (C:Addr) (i:Nat) (ts:TS) (D:Ends):St->XK:=λ σ1 cls _ H1=>cls=.ref C/\∀a,H1 a=none->ts (goneEnds D i) (σ1.set i (some (.ref a))) (upd H1 a (ExcO a C))
def tTry (C:Addr) (i:Nat) (tb:(St->XK)->TS) (ts:TS):TS:=λ D σ H=>tb (caughtBy C i ts D) D σ H
structure Callee (P:Program) (w:World) (K:W.Frag) (mg:Str->Option Value) (base:Heap) (CX:CXT) (k:Nat) (x:Str) (ps:List Str) (sp:Sp):Prop where
 has:∃(f:Addr) (fd:FuncData),FnOk P w K mg base CX k f fd ps sp/\mg x=some (.ref f)/\W.keepIn K (.ref f)=true/\Binds K fd ps []
theorem Callee.mk' {P:Program}{w:World}{K:W.Frag}{mg:Str->Option Value}{base:Heap}{CX:CXT}{k:Nat}{x qual:Str}{st:Stmt}{f:Addr}{fd:FuncData}{ps:List Str}{sp:Sp}(F:Fun K x qual st f fd) (m:mg x=some (.ref f)) (b:Binds K fd ps [])
  (ok:FnOk P w K mg base CX k f fd ps sp):Callee P w K mg base CX k x ps sp:=⟨⟨f,fd,ok,m,F.kp,b⟩⟩
theorem Callee.mono {P:Program}{w:World}{K:W.Frag}{mg:Str->Option Value}{base:Heap}{CX:CXT}{j k:Nat}{x:Str}{ps:List Str}{sp:Sp}(c:Callee P w K mg base CX j x ps sp) (h:j≤k):Callee P w K mg base CX k x ps sp :=
 let ⟨f,fd,ok,m,kp,b⟩:=c.has;⟨⟨f,fd,ok.mono h,m,kp,b⟩⟩
section
variable {X:Cx}{CX:CXT}{k:Nat}{ps:List Str}{sp:Sp}{E:XK}{x:Str}{p pos:Pos}{e:Expr}{es:List Expr}{t:TA}
theorem z0r (c:Callee X.prog X.w X.K X.mg X.base CX k x ps sp) (hr:Room k X.A) (hg:Gl X x) (hx:Passes CX X E) (ha:PA X (e::es) t) (hdb:(x == ("__debug__" : Str))=false:=by decide)
  (he:starEach (e::es) X.env=(false,eval e X.env)::starEach es X.env:=by rfl) (hpl:(backTo pos (starEach es X.env)).any (·.1)=false:=by rfl):PE X (.Call (.Name x p) (e::es) [] pos) (tCall sp [] E t):=by
 obtain ⟨f,fd,ok,m,kp,b⟩:=c.has
 exact x0u ok hr hg m kp b .nil hx ha hdb he hpl
theorem y0a {EE:St->XK}(c:Callee X.prog X.w X.K X.mg X.base CX k x ps sp) (hr:Room k X.A) (hg:Gl X x) (hx:∀σ,PassesAt CX X (EE σ) σ) (ha:PA X (e::es) t) (hdb:(x == ("__debug__" : Str))=false:=by decide)
  (he:starEach (e::es) X.env=(false,eval e X.env)::starEach es X.env:=by rfl) (hpl:(backTo pos (starEach es X.env)).any (·.1)=false:=by rfl):PE X (.Call (.Name x p) (e::es) [] pos) (tCallX sp [] EE t):=by
 obtain ⟨f,fd,ok,m,kp,b⟩:=c.has
 exact y7m ok hr hg m kp b .nil hx ha hdb he hpl
theorem y9f:CallR X (.builtin "isinstance") (λ xs H Q=>∃x n t b,xs=[x,.ty n]/\TyOf X.K H x t/\W.kitOne X.K t (.type n)=some b/\Q (.bl b) H):=by
 intro pins s σ H xs us Q I r h
 obtain ⟨x,n,t,b,rfl,ty,e,q⟩:=h
 obtain ⟨u,w',rfl,rx,ry⟩:=z9h r
 cases (show w'=Value.type n from ry)
 exact y5h I rx ty e λ tk=>⟨.bl b,H,I.tok tk,rfl,q⟩
end
theorem z4m {scope:Scope}{env:Env}(hfree:∀y∈scope.names,y.2≠.free):(relabel scope env).names=scope.names:=by
 show scope.names.map _=scope.names
 have all:∀l:List (Str × NameKind),(∀y∈l,y.2≠.free)->(l.map λ (x:Str × NameKind)=>match x with | (n,k)=>if (k == .free && env.scope.kind == .function && env.kindOf n == some .cell) then (n,.cell) else (n,k))=l:=by
  intro l
  induction l with
  | nil=>intro _;rfl
  | cons y r ih =>
   intro hy
   obtain ⟨n,k⟩:=y
   have hk:(k == NameKind.free)=false:=by simpa using hy (n,k) (List.mem_cons_self ..)
   rw [List.map_cons,ih λ z hz=>hy z (List.mem_cons_of_mem _ hz)]
   simp [hk]
 exact all _ hfree
theorem z6z {X:Cx}{elt tg iter:Expr}{scope:Scope}{pos:Pos}{own:List Str}{wi:TI}{g:TG}{te:TE}
  (hc:X.calm=true) (hi:PI X tg iter wi) (hcell:∀y∈scope.names,y.2≠.cell) (hfree:∀y∈scope.names,y.2≠.free) (hkind:scope.kind=.function)
  (hnames:∀y∈scope.names,y.2=.local->scope.names.lookup y.1=some .local)
  (hg:∀(C:Addr) (ex:List Addr) (s:Shared) (H:Hp),PG (cxComp X own scope [] C ex s H) tg g)
  (he:∀(C:Addr) (ex:List Addr) (s:Shared) (H:Hp),PE (cxComp X own scope [] C ex s H) elt te)
  (hs:∀x,foldedSetIterable iter X.env x=pure x:=by intro _;rfl) :
  PE X (.ListComp elt [⟨tg,iter,[],0⟩] scope pos) (tComp wi own.length [] g te):=by
 refine z3d (own:=own) (fv:=[]) (js:=[]) (cl:=[]) hc hi (closureFor_none hfree) hcell hkind hnames (λ x c h=>by cases h) (λ x h=>?_) rfl (λ i x j h=>by simp at h) (by simpa using hg) (by simpa using he) hs
 rw [z4m hfree] at h
 rcases h with h | h
 ·exact absurd rfl (hcell _ (PySem.mem_of_lookup h))
 ·exact absurd rfl (hfree _ (PySem.mem_of_lookup h))
def CDivW (i j:Int):Prop:=j≠0/\-18446744073709551616 < j/\j < 18446744073709551616
theorem y5c {y:Int}(h0:-18446744073709551616 < y) (h1:y < 18446744073709551616):y.natAbs.log2 < 9000:=by
 by_cases z:y.natAbs=0
 ·rw [z];decide
 ·exact Nat.lt_of_lt_of_le ((Nat.log2_lt z).mpr (show y.natAbs < 2 ^ 64 by omega)) (by decide)
theorem z4b {X:Cx}:OpR X (binaryOp .FloorDiv) (rI CDivW λ i j=>.int (i.fdiv j)):=opI λ _ _ _ _ _ _ _ hc q=>floordiv_int hc.1 q (.inl (PyProof.noPylong_of_log2 (y5c hc.2.1 hc.2.2)))
section
variable {K:W.Frag}
def LoopL (K:PySem.W.Frag) (g:TG) (tb:TS) (D:Ends) (σ:St) (x:V) (H1:Hp):Prop:=∃a,x=.ref a/\(∃xs,SqL K H1 a xs)/\∃W:Nat->Nat->St->Hp->Prop,(∃m,W 0 m σ H1)/\∀i m σ H,W i m σ H ->
 ((Itl K a).stop i H/\D.nx σ H)\/((Itl K a).go i H/\∃N:St->Hp->Prop,(∀σ' H',N σ' H'->∃m',m' < m/\W (i+1) m' σ' H')/\∀x H',(Itl K a).yld i H x H'->g x σ H' λ σ2 H2=>tb { D with nx:=N,ct:=N,bk:=D.nx } σ2 H2)
def LoopT (K:PySem.W.Frag) (g:TG) (tb:TS) (D:Ends) (σ:St) (x:V) (H1:Hp):Prop:=∃a,x=.ref a/\(∃xs,SqT K H1 a xs)/\∃W:Nat->Nat->St->Hp->Prop,(∃m,W 0 m σ H1)/\∀i m σ H,W i m σ H ->
 ((Itt K a).stop i H/\D.nx σ H)\/((Itt K a).go i H/\∃N:St->Hp->Prop,(∀σ' H',N σ' H'->∃m',m' < m/\W (i+1) m' σ' H')/\∀x H',(Itt K a).yld i H x H'->g x σ H' λ σ2 H2=>tb { D with nx:=N,ct:=N,bk:=D.nx } σ2 H2)
def LoopR (lo:Int) (n:Nat) (g:TG) (tb:TS) (D:Ends) (σ:St) (H1:Hp):Prop:=∃W:Nat->Nat->St->Hp->Prop,(∃m,W 0 m σ H1)/\∀i m σ H,W i m σ H ->
 ((Itr lo n).stop i H/\D.nx σ H)\/((Itr lo n).go i H/\∃N:St->Hp->Prop,(∀σ' H',N σ' H'->∃m',m' < m/\W (i+1) m' σ' H')/\∀x H',(Itr lo n).yld i H x H'->g x σ H' λ σ2 H2=>tb { D with nx:=N,ct:=N,bk:=D.nx } σ2 H2)
theorem x1u {te:TE}{g:TG}{tb:TS}{D:Ends}{σ:St}{H:Hp}:tFor (iList K te) g tb D σ H=te σ H λ x H1=>LoopL K g tb D σ x H1:=rfl
theorem x1s {te:TE}{g:TG}{tb:TS}{D:Ends}{σ:St}{H:Hp}:tFor (iTup K te) g tb D σ H=te σ H λ x H1=>LoopT K g tb D σ x H1:=rfl
theorem y8q {ta:TA}{g:TG}{tb:TS}{D:Ends}{σ:St}{H:Hp}:tFor (iRng1 ta) g tb D σ H=ta σ H λ vs H1=>∃j:Int,vs=[.int j]/\-(2 ^ 62)≤j/\j < 2 ^ 62/\LoopR 0 j.toNat g tb D σ H1:=rfl
theorem y8p {ta:TA}{g:TG}{tb:TS}{D:Ends}{σ:St}{H:Hp}:tFor (iRng2 ta) g tb D σ H=ta σ H λ vs H1=>∃i j:Int,vs=[.int i,.int j]/\(-(2 ^ 62)≤i/\i < 2 ^ 62/\-(2 ^ 62)≤j/\j < 2 ^ 62)/\LoopR i (j - i).toNat g tb D σ H1:=rfl
theorem LoopL.mk {a:Addr}{xs:List V}{g:TG}{tb:TS}{D:Ends}{σ:St}{H:Hp}(hS:SqL K H a xs) (Pv:Nat->St->Hp->Prop) (h0:Pv 0 σ H) (hl:∀i σ H,i≤xs.length->Pv i σ H->SqL K H a xs)
  (hs:∀i x σ H,xs[i]?=some x->Pv i σ H->g x σ H λ σ2 H2=>tb { D with nx:=Pv (i+1),ct:=Pv (i+1),bk:=D.nx } σ2 H2) (hd:∀σ H,Pv xs.length σ H->D.nx σ H):LoopL K g tb D σ (.ref a) H:=⟨a,rfl,⟨xs,hS⟩,y8j Pv h0 hl hs hd⟩
theorem LoopT.mk {a:Addr}{xs:List V}{g:TG}{tb:TS}{D:Ends}{σ:St}{H:Hp}(hS:SqT K H a xs) (Pv:Nat->St->Hp->Prop) (h0:Pv 0 σ H) (hl:∀i σ H,i≤xs.length->Pv i σ H->SqT K H a xs)
  (hs:∀i x σ H,xs[i]?=some x->Pv i σ H->g x σ H λ σ2 H2=>tb { D with nx:=Pv (i+1),ct:=Pv (i+1),bk:=D.nx } σ2 H2) (hd:∀σ H,Pv xs.length σ H->D.nx σ H):LoopT K g tb D σ (.ref a) H:=⟨a,rfl,⟨xs,hS⟩,x1o Pv h0 hl hs hd⟩
theorem LoopR.mk {lo:Int}{n:Nat}{g:TG}{tb:TS}{D:Ends}{σ:St}{H:Hp}(Pv:Nat->St->Hp->Prop) (h0:Pv 0 σ H)
  (hs:∀i σ H,i < n->Pv i σ H->g (.int (lo+i)) σ H λ σ2 H2=>tb { D with nx:=Pv (i+1),ct:=Pv (i+1),bk:=D.nx } σ2 H2) (hd:∀σ H,Pv n σ H->D.nx σ H):LoopR lo n g tb D σ H:=y5l Pv h0 hs hd
def CompL (K:PySem.W.Frag) (k:Nat) (js:List Nat) (g:TG) (te:TE) (σ:St) (x:V) (H1:Hp) (Q:VK):Prop:=∃a,x=.ref a/\(∃xs,SqL K H1 a xs)/\∃W:Nat->Nat->List V->St->Hp->Prop,(∃m,W 0 m [] (compSt k js σ) H1)/\∀i m ys σ' H',W i m ys σ' H' ->
  ((Itl K a).stop i H'/\∀p,H' p=none->Q (.ref p) (upd H' p (.lst ys))) \/
  ((Itl K a).go i H'/\ys.length < sizeLine/\∃N:List V->St->Hp->Prop,(∀zs σ2 H2,N zs σ2 H2->∃m',m' < m/\W (i+1) m' zs σ2 H2)/\∀x H2,(Itl K a).yld i H' x H2->g x σ' H2 λ σ3 H3=>te σ3 H3 λ v H4=>N (ys++[v]) σ3 H4)
def CompT (K:PySem.W.Frag) (k:Nat) (js:List Nat) (g:TG) (te:TE) (σ:St) (x:V) (H1:Hp) (Q:VK):Prop:=∃a,x=.ref a/\(∃xs,SqT K H1 a xs)/\∃W:Nat->Nat->List V->St->Hp->Prop,(∃m,W 0 m [] (compSt k js σ) H1)/\∀i m ys σ' H',W i m ys σ' H' ->
  ((Itt K a).stop i H'/\∀p,H' p=none->Q (.ref p) (upd H' p (.lst ys))) \/
  ((Itt K a).go i H'/\ys.length < sizeLine/\∃N:List V->St->Hp->Prop,(∀zs σ2 H2,N zs σ2 H2->∃m',m' < m/\W (i+1) m' zs σ2 H2)/\∀x H2,(Itt K a).yld i H' x H2->g x σ' H2 λ σ3 H3=>te σ3 H3 λ v H4=>N (ys++[v]) σ3 H4)
def CompR (lo:Int) (n k:Nat) (js:List Nat) (g:TG) (te:TE) (σ:St) (H1:Hp) (Q:VK):Prop:=∃W:Nat->Nat->List V->St->Hp->Prop,(∃m,W 0 m [] (compSt k js σ) H1)/\∀i m ys σ' H',W i m ys σ' H' ->
  ((Itr lo n).stop i H'/\∀p,H' p=none->Q (.ref p) (upd H' p (.lst ys))) \/
  ((Itr lo n).go i H'/\ys.length < sizeLine/\∃N:List V->St->Hp->Prop,(∀zs σ2 H2,N zs σ2 H2->∃m',m' < m/\W (i+1) m' zs σ2 H2)/\∀x H2,(Itr lo n).yld i H' x H2->g x σ' H2 λ σ3 H3=>te σ3 H3 λ v H4=>N (ys++[v]) σ3 H4)
theorem y9b {k:Nat}{js:List Nat}{ti:TE}{g:TG}{te:TE}{σ:St}{H:Hp}{Q:VK}:tComp (iList K ti) k js g te σ H Q=ti σ H λ x H1=>CompL K k js g te σ x H1 Q:=rfl
theorem y8z {k:Nat}{js:List Nat}{ti:TE}{g:TG}{te:TE}{σ:St}{H:Hp}{Q:VK}:tComp (iTup K ti) k js g te σ H Q=ti σ H λ x H1=>CompT K k js g te σ x H1 Q:=rfl
theorem y6f {k:Nat}{js:List Nat}{ta:TA}{g:TG}{te:TE}{σ:St}{H:Hp}{Q:VK}:tComp (iRng1 ta) k js g te σ H Q=ta σ H λ vs H1=>∃j:Int,vs=[.int j]/\-(2 ^ 62)≤j/\j < 2 ^ 62/\CompR 0 j.toNat k js g te σ H1 Q:=rfl
theorem CompL.mk {a:Addr}{xs:List V}{k:Nat}{js:List Nat}{g:TG}{te:TE}{Q:VK}{σ:St}{H:Hp}(hS:SqL K H a xs) (Pv:Nat->List V->St->Hp->Prop) (h0:Pv 0 [] (compSt k js σ) H) (hl:∀i ys σ H,i≤xs.length->Pv i ys σ H->SqL K H a xs)
  (hs:∀i x ys σ H,xs[i]?=some x->Pv i ys σ H->ys.length < sizeLine/\g x σ H λ σ3 H3=>te σ3 H3 λ v H4=>Pv (i+1) (ys++[v]) σ3 H4) (hd:∀ys σ H,Pv xs.length ys σ H->∀p,H p=none->Q (.ref p) (upd H p (.lst ys))) :
  CompL K k js g te σ (.ref a) H Q:=⟨a,rfl,⟨xs,hS⟩,y5w Pv h0 hl hs hd⟩
theorem CompT.mk {a:Addr}{xs:List V}{k:Nat}{js:List Nat}{g:TG}{te:TE}{Q:VK}{σ:St}{H:Hp}(hS:SqT K H a xs) (Pv:Nat->List V->St->Hp->Prop) (h0:Pv 0 [] (compSt k js σ) H) (hl:∀i ys σ H,i≤xs.length->Pv i ys σ H->SqT K H a xs)
  (hs:∀i x ys σ H,xs[i]?=some x->Pv i ys σ H->ys.length < sizeLine/\g x σ H λ σ3 H3=>te σ3 H3 λ v H4=>Pv (i+1) (ys++[v]) σ3 H4) (hd:∀ys σ H,Pv xs.length ys σ H->∀p,H p=none->Q (.ref p) (upd H p (.lst ys))) :
  CompT K k js g te σ (.ref a) H Q:=⟨a,rfl,⟨xs,hS⟩,y8w Pv h0 hl hs hd⟩
end
theorem x4g {CX:CXT}{P:Program}{w:World}{K:W.Frag}{mg:Str->Option Value}{base:Heap}{N:List Str}{qual:Str}{scope:Scope}{f:Addr}{cd:Value}{A:Around}{outer:List Env}{s:Shared}{H:Hp}{E:XK}:(cxOf CX P w K mg base N qual scope f cd A outer s H E).K=K:=rfl
theorem y8u {X:Cx}{N:List Str}{scope:Scope}{cl:List (Str × Addr)}{C:Addr}{ex:List Addr}{s:Shared}{H:Hp}:(cxComp X N scope cl C ex s H).K=X.K:=rfl
def tyS:V->Option String
 | .int _=>some "int"
 | .bl _=>some "bool"
 | .str _=>some "str"
 | .non=>some "NoneType"
 | _=>none
def isiN (t n:String):Bool:=t == n || (t == "bool" && n == "int")
def isiB (x:V) (n:String):Bool:=match tyS x with
 | some t=>isiN t n
 | none=>false
theorem x3x {i:Int}:isiB (.int i) "int" = true:=by show isiN "int" "int" = true;decide +kernel
theorem x3y {i:Int}:isiB (.int i) "bool" = false:=by show isiN "int" "bool" = false;decide +kernel
theorem x3z {b:Bool}:isiB (.bl b) "int" = true:=by show isiN "bool" "int" = true;decide +kernel
theorem x4a {b:Bool}:isiB (.bl b) "bool" = true:=by show isiN "bool" "bool" = true;decide +kernel
theorem x3w {i:Int}:isiB (.int i) "tuple" = false:=by show isiN "int" "tuple" = false;decide +kernel
theorem y8d {K:W.Frag}{t n:String}{b:Bool}(e:(if (Value.type t == Value.type n)=true then some true else if W.kitMeta n=true then (fastBuiltinMro t).map (·.contains (.type n)) else none)=some b):W.kitOne K (.type t) (.type n)=some b:=by
 unfold W.kitOne
 split at e
 ·rename_i h;rw [if_pos h];exact e
 ·rename_i h;rw [if_neg h];exact e
theorem y5f {K:W.Frag}{x:V}{t n:String}(hn:n∈["int", "bool", "tuple", "list", "str"]) (ht:tyS x=some t):W.kitOne K (.type t) (.type n)=some (isiB x n):=by
 simp only [List.mem_cons,List.mem_nil_iff,or_false] at hn
 cases x<;>simp only [tyS,reduceCtorEq,Option.some.injEq] at ht<;>subst ht<;>rcases hn with rfl | rfl | rfl | rfl | rfl<;>refine y8d ?_<;>simp only [isiB,tyS]<;>decide +kernel
theorem z8z {X:Cx}:CallR X (.builtin "isinstance") (λ xs H Q=>∃x n,xs=[x,.ty n]/\(n∈["int", "bool", "tuple", "list", "str"]/\(tyS x).isSome=true)/\Q (.bl (isiB x n)) H):=by
 intro pins s σ H xs us Q I r h
 obtain ⟨x,n,rfl,⟨hn,hx⟩,q⟩:=h
 obtain ⟨t,ht⟩:=Option.isSome_iff_exists.mp hx
 refine y9f pins s σ H _ us Q I r ⟨x,n,.type t,isiB x n,rfl,?_,y5f hn ht,q⟩
 cases x<;>simp only [tyS,reduceCtorEq,Option.some.injEq] at ht<;>subst ht
 ·exact .non
 ·exact .bl _
 ·exact .int _
 ·exact .str _
theorem na2:(Int.natAbs 2 < 18446744073709551616)=True:=eq_true (by decide)
theorem x5t:(Int.natAbs 10 < 18446744073709551616)=True:=eq_true (by decide)
theorem z0b {H:Hp}{p:Addr}(h:H p=none) (o:HO):Same H (upd H p o):=λ b u q=>by rw [z1a (z2q q h)];exact q
theorem small {n:Nat}(h:n≤1000):n≤sizeLine:=Nat.le_of_lt (z1b h)
theorem Same.tup {K:W.Frag}{H H':Hp}{a:Addr}{xs:List V}(e:Same H H') (h:SqT K H a xs):SqT K H' a xs:=by
 rcases h with (h | ⟨o,h⟩) | h
 ·exact .inl (.inl (e _ _ h))
 ·exact .inl (.inr ⟨o,e _ _ h⟩)
 ·exact .inr h
theorem x4d {α β:Type}{f:α->β}{l:List α}{i:Nat}{y:β}(h:(l.map f)[i]?=some y):∃x,l[i]?=some x/\y=f x:=by
 rw [List.getElem?_map] at h
 obtain ⟨x,h1,h2⟩:=Option.map_eq_some_iff.mp h
 exact ⟨x,h1,h2.symm⟩
section
variable {X:Cx}
def rInT:R2:=λ x y H Q=>∃p xs,y=.ref p/\H p=some (.tup xs)/\flatV x=true/\xs.all flatV=true/\Q (.bl (inV x xs)) H
def rInL:R2:=λ x y H Q=>∃p xs,y=.ref p/\H p=some (.lst xs)/\flatV x=true/\xs.all flatV=true/\Q (.bl (inV x xs)) H
theorem y1a:OpR X (compareOp .In) rInT:=by
 intro pins s σ H x y v u Q I rx ry h
 obtain ⟨p,xs,rfl,hq,fx,fs,q⟩:=h
 exact z8f pins s σ H x _ v u Q I rx ry ⟨p,xs,rfl,.inr (.of hq),fx,fs,q⟩
theorem y9n:OpR X (compareOp .In) rInL:=by
 intro pins s σ H x y v u Q I rx ry h
 obtain ⟨p,xs,rfl,hq,fx,fs,q⟩:=h
 exact z8f pins s σ H x _ v u Q I rx ry ⟨p,xs,rfl,.inl (.of hq),fx,fs,q⟩
def rIxLH:R2:=λ x y H Q=>∃p xs i v,x=.ref p/\y=.int i/\H p=some (.lst xs)/\atI xs i=some v/\Q v H
def rIxTH:R2:=λ x y H Q=>∃p xs i v,x=.ref p/\y=.int i/\H p=some (.tup xs)/\atI xs i=some v/\Q v H
theorem z0q:IxR X rIxLH:=by
 intro value slice pins s σ H x y v u Q I rx ry h hs
 obtain ⟨p,xs,i,z,rfl,rfl,hq,he,q⟩:=h
 exact y0o value slice pins s σ H _ _ v u Q I rx ry ⟨p,xs,i,z,rfl,rfl,.of hq,he,q⟩ hs
theorem z0t:IxR X rIxTH:=by
 intro value slice pins s σ H x y v u Q I rx ry h hs
 obtain ⟨p,xs,i,z,rfl,rfl,hq,he,q⟩:=h
 exact x3u value slice pins s σ H _ _ v u Q I rx ry ⟨p,xs,i,z,rfl,rfl,.of hq,he,q⟩ hs
end
section
variable {X:Cx}
def gTupH (n:Nat) (t:TGs):TG:=λ v σ H Q=>∃a xs,v=.ref a/\H a=some (.tup xs)/\xs.length=n/\t xs σ H Q
theorem z9z {es:List Expr}{k:Nat}{pos:Pos}{t:TGs}{n:Nat}(h:PG X (.Tuple es k pos) (gTup X.K n t)):PG X (.Tuple es k pos) (gTupH n t):=by
 intro pins s σ H v u Q I r q
 obtain ⟨a,xs,e,ha,hl,q⟩:=q
 exact h pins s σ H v u Q I r ⟨a,xs,e,.of ha,hl,q⟩
def tApp (to te:TE):TE:=λ σ H Q=>to σ H λ x H1=>∃l,x=.ref l/\(∃xs,H1 l=some (.lst xs))/\te σ H1 λ v H2=>∃xs,H2 l=some (.lst xs)/\xs.length < sizeLine/\Q .non (upd H2 l (.lst (xs++[v])))
theorem z6e {o e:Expr}{to te:TE}{apos cpos:Pos}(ho:PE X o to) (he:PE X e te)
  (hbase:attributeBase o "append" X.env (eval o X.env)=eval o X.env:=by rfl) (hfew:((backTo cpos (starEach [e] X.env)).all (λ x=>!x.1) && (backToKw cpos (keywordEach [] X.env)).all (λ x=>x.1.isSome)
   && decide ([e].length+([]:List Keyword).length+(if ([]:List Keyword).isEmpty then 0 else 1) < 30))=true:=by rfl)
  (hline:(apos.endLine == cpos.line)=true:=by rfl) (hs:starEach [e] X.env=[(false,eval e X.env)]:=by rfl):PE X (.Call (.Attribute o "append" apos) [e] [] cpos) (tApp to te):=by
 intro pins s σ H Q I h
 refine wpAny_Call_method_late hbase hfew hline rfl (thn (ho pins s σ H _ I h) λ v s1 ⟨x,H1,I1,r1,q1⟩=>?_)
 obtain ⟨l,rfl,⟨xs1,hx1⟩,q2⟩:=q1
 obtain ⟨h1,h2⟩:=y9k (T := "list") I1 r1 (.inl ⟨rfl,_,.of hx1⟩)
 refine ⟨"list", "list.append",PySem.F.plainAttrs_list,PySem.F.slot_list_append,PySem.F.type_list_append,h1,h2,?_⟩
 have hA:=(z0a he z0c hs) cpos pins s1 σ H1 (λ vs H2=>match vs with | [v]=>∃xs,H2 l=some (.lst xs)/\xs.length < sizeLine/\Q .non (upd H2 l (.lst (xs++[v]))) | _=>False) I1 q2
 rw [hs] at hA ⊢
 refine Calls.callWith_builtin rfl (Calls.evalArgs_plain ?_)
 refine thn hA λ us s2 ⟨vs,H2,I2,r2,q3⟩=>?_
 match vs,q3 with
 | [v2],⟨xs,hx,hz,q⟩=>exact y5b pins s2 σ H2 (.ref l) [v2] v us Q I2 r1 r2 ⟨l,xs,v2,rfl,rfl,hx,hz,q⟩
end
def SameX (l:Addr) (H H':Hp):Prop:=∀b o,b≠l->H b=some o->H' b=some o
theorem SameX.trans {l:Addr}{H H1 H2:Hp}(a:SameX l H H1) (b:SameX l H1 H2):SameX l H H2:=λ c o n h=>b c o n (a c o n h)
end L2
namespace L2
open PySem PySem.Spec PyProof.Rows PySem.W PySem.Calls
structure ExcK (K:W.Frag) (C:Addr):Prop where
 cls:(clsIn K C).isSome=true
 ga:findIn K (.ref C) "__getattribute__" = some (some (.builtin "BaseException.__getattribute__"))
 gt:findIn K (.ref C) "__getattr__" = some none
 cl:findIn K (.ref C) "__class__" = some (some (.builtin "object.__class__"))
 mo:mroIn K C (.type "object")=some true
 mb:mroIn K C (.type "BaseException")=some true
section
variable {prog:Program}{w:World}{A:Around}{E:Value->Shared->Prop}{K:W.Frag}{h:Heap}{g:Array GenState}{d:Drawn}{t:Nat}{os:OsState}{a C:Addr}{ox:Obj}
theorem x1y {R:Result->Shared->Prop}(X:K.In h) (k:ExcK K C) (hx:h.get? a=some ox) (hc:ox.cls=.ref C) (hq:R (.ok (.ret (.ref C))) ⟨h,g,d,t,os⟩) :
  codeAny (model prog w) A (.call (.builtin "getset_descriptor.__get__") ⟨[.builtin "object.__class__",.ref a,.ref C],[]⟩) R ⟨h,g,d,t,os⟩:=by
 have L0:Looks (model prog w) h (typeOf (.ref a)) (.ref C):=hc ▸ (Looks.ld hx).andThen .now
 have L1:=looks_mroIn (M:=model prog w) X k.mo
 have hT5:(⟨h,g,d,t,os⟩:Shared).TypeIs (.builtin "object.__class__") "getset_descriptor" := F.typeOf_object_class
 have L2:Looks (model prog w) h (isSubtype (.ref C) (.type (".".intercalate ("object.__class__".cutAt '.').dropLast))) true:=by
  rw [show (".".intercalate ("object.__class__".cutAt '.').dropLast) = "object" by decide +kernel]
  exact L1
 refine codeAny_call_builtin F.slot_gs_get.plain F.entry_gs_get (F.slot_gs_get.check _ _ _ _ _ _ _ _ hT5 (F.args_gs_get _ _ _) ?_)
 repeat (any_goals (first | assumption | with_reducible refine L0.at ?_ | with_reducible refine L2.at ?_ | wp_step))
 refine ⟨Code.quiet_builtin _ (by decide +kernel),codeAny_builtin F.entry_object_class ?_⟩
 repeat (any_goals (first | assumption | with_reducible refine L0.at ?_ | wp_step))
theorem y5p {tk:Tok}{Q:Fin->Shared->Prop}(X:K.In h) (k:ExcK K C) (hx:h.get? a=some ox) (hc:ox.cls=.ref C) (hq:Q (.done (.ret (.ref C))) ⟨h,g,d,t,os⟩) :
  wpAny (model prog w) A (Builtin.«object.__getattribute__» ⟨[.ref a,.str "__class__" tk],[]⟩) Q E ⟨h,g,d,t,os⟩:=by
 have L0:Looks (model prog w) h (typeOf (.ref a)) (.ref C):=hc ▸ (Looks.ld hx).andThen .now
 have L3:=looks_findIn (M:=model prog w) X k.cl
 have hT5:(⟨h,g,d,t,os⟩:Shared).TypeIs (.builtin "object.__class__") "getset_descriptor" := F.typeOf_object_class
 have f5:=F.typeOf_object_class
 have f6:=F.slot_gs_get.lookup
 have f7:=F.slot_gs_set.lookup
 repeat (any_goals (first | assumption | with_reducible refine L0.at ?_ | with_reducible refine L3.at ?_ | wp_step))
 refine x1y X k hx hc ?_
 repeat (any_goals (first | assumption | wp_step))
theorem y5q {M:Model}{nameV:Value}{Q:Unit->Shared->Prop}(X:K.In h) (k:ExcK K C) (hx:h.get? a=some ox) (hc:ox.cls=.ref C) (hq:Q () ⟨h,g,d,t,os⟩) :
  wpAny M A (checkBuiltinCall "BaseException.__getattribute__" ⟨[.ref a,nameV],[]⟩) Q E ⟨h,g,d,t,os⟩:=by
 have e1:builtinKind "BaseException.__getattribute__" = some .slot:=by decide +kernel
 have e2:splitId "BaseException.__getattribute__" = some ("BaseException", "__getattribute__"):=by decide +kernel
 have e3:=F.args_bexc_ga (.ref a) nameV
 have L0:Looks M h (typeOf (.ref a)) (.ref C):=hc ▸ (Looks.ld hx).andThen .now
 have L5:=looks_mroIn (M:=M) X k.mb
 have LI:Looks M h (isInstance (.ref a) (.type "BaseException")) true:=L0.andThen L5
 simp only [checkBuiltinCall,e1,e2]
 refine wpAny_bind (LI.at ?_)
 repeat (first | assumption | wp_step)
theorem x4f {Q:Option Value->Shared->Prop}{s:Shared}(X:K.In s.heap) (k:ExcK K C) (hx:s.heap.get? a=some ox) (hc:ox.cls=.ref C) (hq:Q (some (.ref C)) { s with toks:=s.toks+1 }) :
  wpAny (model prog w) A (getAttr? (.ref a) "__class__") Q E s:=by
 obtain ⟨h,g,d,t,os⟩:=s
 have L0:Looks (model prog w) h (typeOf (.ref a)) (.ref C):=hc ▸ (Looks.ld hx).andThen .now
 have L1:=looks_findIn (M:=model prog w) X k.ga
 have L2:=looks_findIn (M:=model prog w) X k.gt
 have f3:=F.excAttr_ValueError.ga.bind (.ref a)
 unfold getAttr? getAttrBy? getAttrBy
 refine wpAny_bind (wpAny_mkText (wpAny_bind (wpAny_attempt (wpAny_holding (wpAny_bind (L0.at (wpAny_bind (L1.at ?_))))))))
 dsimp only
 have n1:¬(onTheHeap (Value.ref C) && Value.builtin "BaseException.__getattribute__" == Value.builtin "object.__getattribute__")=true:=by
  show ¬((true && (Value.builtin "BaseException.__getattribute__" == Value.builtin "object.__getattribute__"))=true)
  decide +kernel
 rw [if_neg n1]
 unfold getAttrByItsOwn hookBefore
 refine wpAny_bind ?_
 rw [if_pos (show onTheHeap (Value.ref C)=true from rfl)]
 refine L2.at (wpAny_bind (wpAny_attempt (wpAny_holding ?_)))
 unfold callGetattribute
 rw [if_neg (by decide +kernel)]
 unfold boundAndCalled
 refine wpAny_bind (wpAny_of_eq f3 ?_)
 refine wpAny_call (codeAny_call_builtin F.excAttr_ValueError.ga.plain F.entry_bexc_ga (y5q X k hx hc (y5p X k hx hc ?_)))
 repeat (any_goals (first | assumption | wp_step))
end
theorem y8c {K:W.Frag}{a C:Addr}(k:ExcK K C):KitX K (.ref a) (.ref C) (λ h=>∃o vs,h.get? a=some o/\o.cls=.ref C/\o.data=.fields vs) where
 ty:=λ M h _ ⟨o,_,h1,h2,_⟩=>h2 ▸ (Looks.ld h1).andThen .now
 it:=λ M h X _=>by
  obtain ⟨cd,hcd⟩:=Option.isSome_iff_exists.mp k.cls
  unfold clsIn at hcd
  split at hcd
  ·rename_i z1 z2 z3 z4 hlk
   intro A' Q' E' s' kk q
   unfold isType loadHead
   exact wpAny_bind (wpAny_loadPart (kk _ _ (X _ _ hlk)) (wpAny_pure q))
  ·cases hcd
 ne:=λ h tp dd its n sl X htp=>by
  obtain ⟨cd,hcd⟩:=Option.isSome_iff_exists.mp k.cls
  refine Bool.eq_false_iff.mpr λ q=>?_
  have e:C=tp:=Value.ref.inj (beq_iff_eq.mp q)
  subst e
  unfold clsIn at hcd
  split at hcd
  ·rename_i z1 z2 z3 z4 hlk
   have z:=(X _ _ hlk).symm.trans htp
   cases z
  ·cases hcd
 ca:=λ X ⟨o,_,h1,h2,_⟩ q=>x4f X k h1 h2 q
section
variable {X:Cx}
theorem x2y {x:Str}{C:Addr}{pos:Pos}(hg:Gl X x) (hn:W.nsIn X.K mainGlobals x=some (some (.ref C))) (hd:(x == ("__debug__" : Str))=false:=by decide):PE X (.Name x pos) (tC (.ref C)):=by
 intro pins s σ H Q I h
 exact z2y I hg (W.mg_of I.ok.mod.kin I.ok.mod.glob hn) ⟨.ref C,H,I,rfl,h⟩ hd
end
def rvObj (t:Addr) (i:Int):Obj:={ cls:=.type "reversed",data:=.fields #[.ref t,rawInt i] }
def IsRv (h:Heap) (a t:Addr) (i:Int):Prop:=∃o,h.get? a=some o/\o.cls=.type "reversed" /\ o.data=.fields #[.ref t,rawInt i]
theorem IsRv.typeIs {s:Shared}{a t:Addr}{i:Int}(x:IsRv s.heap a t i):s.TypeIs (.ref a) "reversed" := let ⟨o,ho,hc,_⟩:=x;⟨o,ho,hc⟩
theorem y2v:typeLookup (.type "tuple") "__reversed__" = pure none:=by rw [typeLookup_type,builtinLookup_eq_fast];kernel_rfl
theorem z4y:typeLookup (.type "tuple") "__getitem__" = pure (some (.builtin "tuple.__getitem__")):=by rw [typeLookup_type,builtinLookup_eq_fast];kernel_rfl
theorem y1p:isSubtype (.type "tuple") (.type "dict")=pure false:=by rw [isSubtype_type];kernel_rfl
theorem x0k:Slot "reversed" "__init__" "object.__init__" :=
 .of (owner := "object") (n := "__init__") (by rw [typeLookup_type,builtinLookup_eq_fast];kernel_rfl) (by decide +kernel) (by decide +kernel) (by decide +kernel) (.inl (by decide +kernel)) (by rw [isSubtype_type];kernel_rfl)
theorem rv_next:Slot "reversed" "__next__" "reversed.__next__" :=
 .of (owner := "reversed") (n := "__next__") (by rw [typeLookup_type,builtinLookup_eq_fast];kernel_rfl) (by decide +kernel) (by decide +kernel) (by decide +kernel) (.inl (by decide +kernel)) (by rw [isSubtype_type];kernel_rfl)
theorem y3q:Slot "reversed" "__iter__" "reversed.__iter__" :=
 .of (owner := "reversed") (n := "__iter__") (by rw [typeLookup_type,builtinLookup_eq_fast];kernel_rfl) (by decide +kernel) (by decide +kernel) (by decide +kernel) (.inl (by decide +kernel)) (by rw [isSubtype_type];kernel_rfl)
theorem z3t:entryFor table "reversed.__next__" = some Builtin.«reversed.__next__»:=entryFor_of_tree (by kernel_rfl)
theorem z6u:entryFor table "reversed.__iter__" = some Builtin.«dict_keyiterator.__iter__» :=
 entryFor_alias (id' := "dict_keyiterator.__iter__") (by kernel_rfl) (by first | rfl | decide +kernel) (by decide +kernel) (by kernel_rfl)
theorem z4l (a:Value):argsOk "reversed.__next__" ⟨[a],[]⟩:=by unfold argsOk;kernel_rfl
theorem z8b (a:Value):argsOk "reversed.__iter__" ⟨[a],[]⟩:=by unfold argsOk;kernel_rfl
theorem y3r:TypeCalled "reversed" "reversed.__new__" "object.__init__" :=
 ⟨by decide +kernel,PySem.F.create_reversed,⟨_,_,PySem.F.mro_reversed⟩,PySem.F.made_reversed,PySem.F.plain_reversed_new,PySem.F.sub_reversed_self,x0k⟩
theorem x2n (t:Addr) (items:Array Value) (hz:(items.size:Int) < 2 ^ 63):Meets (Builtin.«reversed.__new__» ⟨[.type "reversed",.ref t],[]⟩)
  (λ _ R s=>IsTup s.heap t items/\∀tk,R (.ok (.ret (.ref s.heap.objs.size))) { s with heap:=s.heap.push (rvObj t ((items.size:Int) - 1)),toks:=tk }) :=
 .of_wp λ prog w A R s h=>by
  obtain ⟨ht,h⟩:=h
  have hT:s.TypeIs (.ref t) "tuple" := ht.typeIs
  unfold Builtin.«reversed.__new__»
  refine wpAny_bind (wpAny_of_eq (PySem.newClass_reversed _) ?_)
  try dsimp only
  refine wpAny_bind (wpAny_of_eq (a:=()) (by first | rfl | kernel_rfl) ?_)
  refine wpAny_bind (wpAny_of_eq (a:=()) (by first | rfl | kernel_rfl) ?_)
  try dsimp only
  refine wpAny_bind (wpAny_specialOf hT y2v ?_)
  try dsimp only
  refine wpAny_bind ?_
  k_delta "hasItemSlot"
  refine wpAny_bind (wpAny_isInstance (T := "tuple") (b:=false) hT y1p ?_)
  rw [if_neg Bool.false_ne_true]
  refine wpAny_bind (wpAny_specialOf hT z4y ?_)
  dsimp only
  rw [if_pos (by decide +kernel)]
  refine wpAny_pure ?_
  rw [if_neg (by decide)]
  refine wpAny_bind (len_tuple ht hz ?_)
  refine wpAny_bind (wpAny_of_eq (a:=some (items.size:Int)) rfl ?_)
  dsimp only
  refine wpAny_bind ?_
  unfold Builtin.SmallTypes.newRecord
  refine wpAny_newObj_type (wpAny_pure ⟨_,rfl,h _⟩)
section
variable {prog:Program}{w:World}{A:Around}{E:Value->Shared->Prop}{s:Shared}
theorem x1z {t:Addr}{items:Array Value}{Q:Value->Shared->Prop}(ht:IsTup s.heap t items) (hz:(items.size:Int) < 2 ^ 63)
  (h:∀tk,Q (.ref s.heap.objs.size) { s with heap:=s.heap.push (rvObj t ((items.size:Int) - 1)),toks:=tk }):wpAny (model prog w) A (call (.type "reversed") [.ref t]) Q E s :=
 callType_new y3r (by decide) (PySem.F.typeCall_reversed_1 _) (PySem.F.newCall_reversed_1 _) (λ obj=>F.args_object_init_2 obj _) PySem.F.entry_reversed_new (x2n t items hz)
  ⟨ht,λ tk=>⟨⟨_,Heap.get?_push_size _ rfl,rfl⟩,h tk⟩⟩
theorem x0j {it t:Addr}{i:Nat}{items:Array Value}{x:Value}{Q:Option Value->Shared->Prop}(hit:IsRv s.heap it t (i:Int)) (ht:IsTup s.heap t items) (hx:items[i]?=some x) (hz:(items.size:Int) < 2 ^ 63)
  (hQ:∀h' tk,IsRv h' it t ((i:Int) - 1)->Heap.SameBut it s.heap h'->Q (some x) { s with heap:=h',toks:=tk }):wpAny (model prog w) A (pyNext (.ref it)) Q E s:=by
 obtain ⟨o,ho,hc,hd⟩:=id hit
 have hT:s.TypeIs (.ref t) "tuple" := ht.typeIs
 have hi:i < items.size:=(Array.getElem?_eq_some_iff.mp hx).1
 unfold pyNext
 refine wpAny_bind (wpAny_attempt (wpAny_callSpecial?_slot (name:=Str.ofString "__next__") hit.typeIs rv_next (wpAny_call_entry rv_next hit.typeIs z3t ?_ (z4l _))))
 unfold Builtin.«reversed.__next__»
 refine wpAny_bind (wpAny_of_eq (a:=(Value.ref it,[])) rfl ?_)
 try dsimp only
 refine wpAny_bind (wpAny_field ho hd (x:=.ref t) rfl ?_)
 refine wpAny_bind (wpAny_field ho hd (x:=rawInt (i:Int)) rfl ?_)
 show wpAny _ _ (if (i:Int) < 0 then _ else _) _ _ s
 rw [if_neg (by omega)]
 refine wpAny_bind (wpAny_specialOf hT z4y ?_)
 rw [if_neg (by decide)]
 refine wpAny_bind (wpAny_mkInt ?_)
 refine wpAny_bind (wpAny_attempt (getItem_tuple (k:=(i:Int)) (j:=i) ht (by omega) (by omega) (by simp [seqIndex?];omega) hx ?_))
 dsimp only
 refine wpAny_bind (wpAny_field ho hd (x:=rawInt (i:Int)) rfl ?_)
 show wpAny _ _ (setField (.ref it) 1 (rawInt ((i:Int) - 1)) >>= _) _ _ _
 refine wpAny_bind (wpAny_setField ho hd (by simp) ?_)
 refine wpAny_pure ⟨x,rfl,wpAny_pure (hQ _ _ ?_ (Heap.SameBut.update ..))⟩
 exact ⟨_,Heap.get?_update_self _ ho (Obj.isFreed_of_fields (Obj.data_mapFields hd _)),(Obj.cls_mapFields ..).trans hc,by rw [Obj.data_mapFields hd];simp⟩
theorem x2o {it t:Addr}{Q:Option Value->Shared->Prop}(hh:A.handled=none) (hit:IsRv s.heap it t (-1)) (hQ:∀h' tk,Heap.ExtBut it s.heap h'->Q none { s with heap:=h',toks:=tk }):wpAny (model prog w) A (pyNext (.ref it)) Q E s:=by
 obtain ⟨o,ho,hc,hd⟩:=id hit
 unfold pyNext
 refine wpAny_bind (wpAny_attempt (wpAny_callSpecial?_slot (name:=Str.ofString "__next__") hit.typeIs rv_next (wpAny_call_entry rv_next hit.typeIs z3t ?_ (z4l _))))
 unfold Builtin.«reversed.__next__»
 refine wpAny_bind (wpAny_of_eq (a:=(Value.ref it,[])) rfl ?_)
 try dsimp only
 refine wpAny_bind (wpAny_field ho hd (x:=.ref t) rfl ?_)
 refine wpAny_bind (wpAny_field ho hd (x:=rawInt (-1)) rfl ?_)
 show wpAny _ _ (if (-1:Int) < 0 then _ else _) _ _ s
 rw [if_pos (by decide)]
 refine wpAny_bind (wpAny_rule ?_)
 refine wpAny_bind ?_
 k_delta "reversedEnd"
 refine wpAny_bind (wpAny_setField ho hd (by simp) ?_)
 refine wpAny_setField (Heap.get?_update_self _ ho (Obj.isFreed_of_fields (Obj.data_mapFields hd _))) (Obj.data_mapFields hd _) (by simp) ?_
 refine wpAny_bind ?_
 have other:∀b u,b≠it->s.heap.get? b=some u->((s.heap.update it (Obj.mapFields λ x=>x.setIfInBounds 1 (rawInt (-1)))).update it (Obj.mapFields λ x=>x.setIfInBounds 0 Value.none)).get? b=some u:=λ b u nb e=>by
  rw [Heap.get?_update_other _ _ (Ne.symm nb),Heap.get?_update_other _ _ (Ne.symm nb)];exact e
 generalize ((s.heap.update it (Obj.mapFields λ x=>x.setIfInBounds 1 (rawInt (-1)))).update it (Obj.mapFields λ x=>x.setIfInBounds 0 Value.none))=hU at *
 show wpAny _ _ (newExc (.type "StopIteration") [] >>= _) _ _ _
 refine wpAny_bind ?_
 simp only [newExc,newTuple]
 refine wpAny_bind (wpAny_newObj_type ?_ (by size_fits))
 refine wpAny_bind (m:=firstArgMember _ _) (wpAny_of_eq (a:=Value.none) (by first | rfl | (simp only [firstArgMember];rfl)) ?_)
 refine wpAny_newObj_type ?_ (by size_fits)
 simp only [raiseNew]
 refine wpAny_bind (wpAny_handled ?_)
 rw [show A.in1.handled=none from hh]
 refine wpAny_bind (wpAny_pure (wpAny_throw ?_))
 refine wpAny_bind (wpAny_isInstance (T := "StopIteration") (b:=true) ⟨_,Heap.get?_push_size _ rfl,rfl⟩ isSubtype_stop ?_)
 exact wpAny_pure (hQ _ _ λ b u nb e=>Heap.get?_push_of_some _ (Heap.get?_push_of_some _ (other b u nb e)))
theorem x0i {it t:Addr}{i:Int}{Q:Value->Shared->Prop}(hit:IsRv s.heap it t i) (h:Q (.ref it) s):wpAny (model prog w) A (pyIter (.ref it)) Q E s:=by
 refine wpAny_pyIter_slot hit.typeIs y3q (wpAny_call_entry y3q hit.typeIs z6u ?_ (z8b _))
 show wpAny _ _ (ret (.ref it)) _ _ s
 exact wpAny_pure ⟨_,rfl, "reversed",_,hit.typeIs,rv_next.lookup,h⟩
end
def Itrv (K:W.Frag) (a:Addr) (n:Nat):It:=⟨λ i H=>∃xs,SqT K H a xs/\xs.length=n/\i < n,λ i H x H'=>H'=H/\∀xs,SqT K H a xs->xs[n - 1 - i]?=some x,λ i H=>∃xs,SqT K H a xs/\xs.length=n/\i=n⟩
theorem y5d:(sizeLine:Int) < 2 ^ 63:=by rw [sizeLine_eq];decide
section
variable {X:Cx}{tg:Expr}
def iRevT (K:W.Frag) (te:TE):TI:=λ σ H R=>te σ H λ x H1=>∃a xs,x=.ref a/\SqT K H1 a xs/\R (Itrv K a xs.length) H1
end
def LoopV (K:PySem.W.Frag) (g:TG) (tb:TS) (D:Ends) (σ:St) (x:V) (H1:Hp):Prop:=∃a xs,x=.ref a/\SqT K H1 a xs/\∃W:Nat->Nat->St->Hp->Prop,(∃m,W 0 m σ H1)/\∀i m σ H,W i m σ H ->
 ((Itrv K a xs.length).stop i H/\D.nx σ H)\/((Itrv K a xs.length).go i H/\∃N:St->Hp->Prop,(∀σ' H',N σ' H'->∃m',m' < m/\W (i+1) m' σ' H')/\∀x H',(Itrv K a xs.length).yld i H x H'->g x σ H' λ σ2 H2=>tb { D with nx:=N,ct:=N,bk:=D.nx } σ2 H2)
theorem x1r {K:W.Frag}{te:TE}{g:TG}{tb:TS}{D:Ends}{σ:St}{H:Hp}:tFor (iRevT K te) g tb D σ H=te σ H λ x H1=>LoopV K g tb D σ x H1:=rfl
section
variable {X:Cx}
def rCatA (K:W.Frag):R2:=λ x y H Q=>∃a b xs ys,x=.ref a/\y=.ref b/\SqT K H a xs/\SqT K H b ys/\xs.length+ys.length≤sizeLine /\
 (xs=[]->Q (.ref b) H)/\(xs≠[]->ys=[]->Q (.ref a) H)/\(xs≠[]->ys≠[]->∀p,H p=none->Q (.ref p) (upd H p (.tup (xs++ys))))
theorem x1a:OpR X (binaryOp .Add) (rCatA X.K):=by
 intro pins s σ H x y v u Q I rx ry h
 obtain ⟨a,b,xs,ys,rfl,rfl,ha,hb,hz,q0,q1,q2⟩:=h
 by_cases hx:xs=[]
 ·cases rx
  cases ry
  obtain ⟨its,r1,p1,_⟩:=I.tuple ha
  obtain ⟨its2,r2,p2,_⟩:=I.tuple hb
  have e1:its=[]:=r1.nil_iff.mpr hx
  obtain ⟨⟨c1,d1,z1,l1⟩,g1,hc1,n1,hd1⟩:=id p1
  obtain ⟨⟨c2,d2,z2,l2⟩,g2,hc2,n2,hd2⟩:=id p2
  simp only at hc1 hd1 hc2 hd2
  subst hc1 hd1 hc2 hd2
  exact concat_meets ⟨_,g1,rfl⟩ ⟨_,g2,rfl⟩ noFill_tuple_add seq_tuple_add PySem.F.slot_tuple_add PySem.F.entry_tuple_add (PySem.F.args_tuple_add_2 _ _)
   (tuple_addW0 a b its.toArray its2.toArray n1 n2 d1 d2 l1 l2 (by simp [e1])) ⟨g1,g2,.ref b,H,I,rfl,q0 hx⟩
 ·exact x0z pins s σ H _ _ v u Q I rx ry ⟨a,b,xs,ys,rfl,rfl,ha,hb,hx,hz,q1 hx,q2 hx⟩
def eqVs:List V->List V->Bool
 | [],[]=>true
 | x::xs,y::ys=>eqV x y && eqVs xs ys
 | _,_=>false
theorem z4s:∀ {xs ys:List V},xs.length≠ys.length->eqVs xs ys=false
 | [],[],h=>absurd rfl h
 | x::xs,y::ys,h=>by
  have e:xs.length≠ys.length:=λ z=>h (by simp [z])
  simp [eqVs,z4s e]
 | [],_::_,_=>rfl
 | _::_,[],_=>rfl
def eqAtI (xs ys:List V) (j:Nat):Bool:=match xs[j]?,ys[j]? with | some x,some y=>eqV x y | _,_=>false
theorem z4t:∀ {xs ys:List V},xs.length=ys.length->(List.range xs.length).all (eqAtI xs ys)=eqVs xs ys
 | [],[],_=>rfl
 | x::xs,y::ys,h=>by
  have e:xs.length=ys.length:=by simpa using h
  rw [List.length_cons,List.range_succ_eq_map,List.all_cons,List.all_map]
  have z:(eqAtI (x::xs) (y::ys) ∘ Nat.succ)=eqAtI xs ys:=by funext j;simp [eqAtI]
  rw [z,z4t e]
  rfl
 | [],_::_,h=>by cases h
 | _::_,[],h=>by cases h
theorem z7l {A:Around}{s:Shared}{xs ys:List V}{us ws:List Value}(r1:Vals xs us) (r2:Vals ys ws) (f1:xs.all flatV=true) (f2:ys.all flatV=true) (j:Nat) (h1:j < us.toArray.size) (h2:j < ws.toArray.size) :
  SeqAt.EqAt A s us.toArray[j] ws.toArray[j] (eqAtI xs ys j):=by
 have l1:=r1.length
 have l2:=r2.length
 have k1:j < xs.length:=by rw [l1];simpa using h1
 have k2:j < ys.length:=by rw [l2];simpa using h2
 obtain ⟨u,hu,ru⟩:=r1.get (List.getElem?_eq_getElem k1)
 obtain ⟨v,hv,rv⟩:=r2.get (List.getElem?_eq_getElem k2)
 have e1:us.toArray[j]=u:=by
  have z:us[j]?=some (us[j]'(by simpa using h1)):=List.getElem?_eq_getElem _
  rw [z] at hu
  simpa using hu
 have e2:ws.toArray[j]=v:=by
  have z:ws[j]?=some (ws[j]'(by simpa using h2)):=List.getElem?_eq_getElem _
  rw [z] at hv
  simpa using hv
 rw [e1,e2]
 have e3:eqAtI xs ys j=eqV xs[j] ys[j]:=by simp [eqAtI,k1,k2]
 rw [e3]
 exact y9t ru rv (List.all_eq_true.mp f1 _ (List.getElem_mem k1)) (List.all_eq_true.mp f2 _ (List.getElem_mem k2))
def rEqL (K:W.Frag):R2:=λ x y H Q=>∃a b xs ys,x=.ref a/\y=.ref b/\SqL K H a xs/\SqL K H b ys/\xs.all flatV=true/\ys.all flatV=true/\Q (.bl (eqVs xs ys)) H
def rEqT (K:W.Frag):R2:=λ x y H Q=>∃a b xs ys,x=.ref a/\y=.ref b/\SqT K H a xs/\SqT K H b ys/\xs.all flatV=true/\ys.all flatV=true/\Q (.bl (eqVs xs ys)) H
theorem y4h (hu:X.A.units < cLine):OpR X (compareOp .Eq) (rEqT X.K):=by
 intro pins s σ H x y v u Q I rx ry h
 obtain ⟨a,b,xs,ys,rfl,rfl,ha,hb,f1,f2,q⟩:=h
 cases rx
 cases ry
 obtain ⟨us,r1,p1,_⟩:=I.tuple ha
 obtain ⟨ws,r2,p2,_⟩:=I.tuple hb
 refine SeqAt.eq_tupleAt (show s.heap.IsTuple a us.toArray from p1) (show s.heap.IsTuple b ws.toArray from p2) (e:=eqAtI xs ys) hu (z7l r1 r2 f1 f2) ?_
 have e1:us.toArray.size=xs.length:=by simp [r1.length]
 have e2:ws.toArray.size=ys.length:=by simp [r2.length]
 rw [e1,e2]
 by_cases hl:xs.length=ys.length
 ·have z:((List.range (min xs.length ys.length)).all (eqAtI xs ys) && xs.length == ys.length)=eqVs xs ys:=by
   rw [← hl,Nat.min_self,z4t hl];simp
  rw [z]
  exact ⟨.bl _,H,I,rfl,q⟩
 ·have z:((List.range (min xs.length ys.length)).all (eqAtI xs ys) && xs.length == ys.length)=eqVs xs ys:=by
   rw [z4s hl];simp [hl]
  rw [z]
  exact ⟨.bl _,H,I,rfl,q⟩
theorem z1j:∀(ns:List Int),(ns.map V.int).all flatV=true
 | []=>rfl
 | n::ns=>by simp [flatV]
end
section
variable {pg:Program}{wd:World}{B:Around}{X0:Value->Shared->Prop}{s0:Shared}
theorem z3r {j t:Addr}{k:Nat}{its:Array Value}{x:Value}{R:Value->Shared->Prop}(p:s0.heap.IsTupleIter j t k) (q:s0.heap.IsTuple t its) (e:its[k]?=some x)
  (f:∀h',h'.IsTupleIter j t (k+1)->Heap.SameBut j s0.heap h'->R x { s0 with heap:=h' }):wpAny (model pg wd) B (Builtin.SmallTypes.nextOf (.ref j)) R X0 s0:=by
 obtain ⟨o,g,c,d⟩:=id p
 obtain ⟨ot,gt,_,nt,dt⟩:=q
 unfold Builtin.SmallTypes.nextOf
 refine wpAny_bind (wpAny_callSpecial?_slot (name:=Str.ofString "__next__") p.typeIs F.slot_tuple_iterator_next (wpAny_call_entry F.slot_tuple_iterator_next p.typeIs F.entry_tuple_iterator_next ?_ (F.args_tuple_iterator_next_1 _)))
 show wpAny _ _ (field (.ref j) 0 >>= _) _ _ s0
 refine wpAny_bind (wpAny_field g d (x:=.ref t) rfl ?_)
 show wpAny _ _ (if (Value.ref t == Value.none)=true then _ else _) _ _ s0
 rw [if_neg (show ¬((Value.ref t == Value.none)=true) from Bool.false_ne_true)]
 show wpAny _ _ (field (.ref j) 1 >>= _) _ _ s0
 refine wpAny_bind (wpAny_field g d (x:=.int k 0) rfl ?_)
 show wpAny _ _ (seqItems? (.ref t) >>= _) _ _ s0
 refine wpAny_bind (wpAny_seqItems gt dt ?_)
 simp only [Int.toNat_natCast,e]
 refine wpAny_bind (wpAny_setField g d (by simp) (wpAny_pure ⟨x,rfl,wpAny_pure (f _ ?_ (Heap.SameBut.update ..))⟩))
 exact ⟨_,Heap.get?_update_self _ g (Obj.isFreed_of_fields (Obj.data_mapFields d _)),(Obj.cls_mapFields ..).trans c,by rw [Obj.data_mapFields d];simp [rawInt]⟩
theorem z6i {j t:Addr}{k:Nat}{its:Array Value}{R:Value->Shared->Prop}(hh:B.handled=none) (p:s0.heap.IsTupleIter j t k) (q:s0.heap.IsTuple t its) (e:its[k]?=none)
  (f:∀h' z,Heap.ExtBut j s0.heap h'->(∃o,h'.get? z=some o/\o.cls=.type "StopIteration")->X0 (.ref z) { s0 with heap:=h' }):wpAny (model pg wd) B (Builtin.SmallTypes.nextOf (.ref j)) R X0 s0:=by
 obtain ⟨o,g,c,d⟩:=id p
 obtain ⟨ot,gt,_,nt,dt⟩:=q
 unfold Builtin.SmallTypes.nextOf
 refine wpAny_bind (wpAny_callSpecial?_slot (name:=Str.ofString "__next__") p.typeIs F.slot_tuple_iterator_next (wpAny_call_entry F.slot_tuple_iterator_next p.typeIs F.entry_tuple_iterator_next ?_ (F.args_tuple_iterator_next_1 _)))
 show wpAny _ _ (field (.ref j) 0 >>= _) _ _ s0
 refine wpAny_bind (wpAny_field g d (x:=.ref t) rfl ?_)
 show wpAny _ _ (if (Value.ref t == Value.none)=true then _ else _) _ _ s0
 rw [if_neg (show ¬((Value.ref t == Value.none)=true) from Bool.false_ne_true)]
 show wpAny _ _ (field (.ref j) 1 >>= _) _ _ s0
 refine wpAny_bind (wpAny_field g d (x:=.int k 0) rfl ?_)
 show wpAny _ _ (seqItems? (.ref t) >>= _) _ _ s0
 refine wpAny_bind (wpAny_seqItems gt dt ?_)
 simp only [Int.toNat_natCast,e]
 refine wpAny_bind (wpAny_rule (wpAny_bind (wpAny_setField g d (by simp) ?_)))
 show wpAny _ _ (newExc (.type "StopIteration") [] >>= _) _ _ _
 refine wpAny_bind ?_
 simp only [newExc,newTuple]
 refine wpAny_bind (wpAny_newObj_type ?_ (by size_fits))
 refine wpAny_bind (m:=firstArgMember _ _) (wpAny_of_eq (a:=Value.none) (by first | rfl | (simp only [firstArgMember];rfl)) ?_)
 refine wpAny_newObj_type ?_ (by size_fits)
 simp only [raiseNew]
 refine wpAny_bind (wpAny_handled ?_)
 first | rw [show B.in1.handled=none from hh] | rw [hh]
 refine wpAny_bind (wpAny_pure (wpAny_throw ?_))
 exact f _ _ (((Heap.SameBut.update ..).extBut.push _).push _) ⟨_,Heap.get?_push_size _ rfl,rfl⟩
structure Apart5 (z ti ox j1 j2 t1 t2:Addr):Prop where
 ti_z:ti≠z
 ox_z:ox≠z
 j1_z:j1≠z
 j2_z:j2≠z
 ti_ox:ti≠ox
 ti_j1:ti≠j1
 ti_j2:ti≠j2
 ox_j1:ox≠j1
 ox_j2:ox≠j2
 j12:j1≠j2
 t1_z:t1≠z
 t1_ox:t1≠ox
 t1_j1:t1≠j1
 t1_j2:t1≠j2
 t2_z:t2≠z
 t2_ox:t2≠ox
 t2_j1:t2≠j1
 t2_j2:t2≠j2
def But4 (z ox j1 j2:Addr) (h h':Heap):Prop:=∀c o,c≠z->c≠ox->c≠j1->c≠j2->h.get? c=some o->h'.get? c=some o
theorem z2a {h h':Heap}{j t:Addr}{k:Nat}(p:h.IsTupleIter j t k) (f:∀o,h.get? j=some o->h'.get? j=some o):h'.IsTupleIter j t k:=let ⟨o,g,r⟩:=p;⟨o,f o g,r⟩
theorem z4k {h h':Heap}{t:Addr}{its:Array Value}(p:h.IsTuple t its) (f:∀o,h.get? t=some o->h'.get? t=some o):h'.IsTuple t its:=let ⟨o,g,r⟩:=p;⟨o,f o g,r⟩
theorem y2q {z ti ox j1 j2 t1 t2:Addr}{k:Nat}{as bs:Array Value}{x y u v:Value}{R:Option Value->Shared->Prop}(ap:Apart5 z ti ox j1 j2 t1 t2) (hz:IsZip s0.heap z ti ox .none) (hi:IsPair s0.heap ti (.ref j1) (.ref j2)) (ho:IsPair s0.heap ox u v)
  (p1:s0.heap.IsTupleIter j1 t1 k) (p2:s0.heap.IsTupleIter j2 t2 k) (q1:s0.heap.IsTuple t1 as) (q2:s0.heap.IsTuple t2 bs) (e1:as[k]?=some x) (e2:bs[k]?=some y)
  (f:∀h',IsZip h' z ti ox (rawInt s0.heap.objs.size)->IsPair h' ox x y->h'.IsTupleIter j1 t1 (k+1)->h'.IsTupleIter j2 t2 (k+1)->IsPair h' s0.heap.objs.size x y->But4 z ox j1 j2 s0.heap h'->R (some (.ref s0.heap.objs.size)) { s0 with heap:=h' }) :
  wpAny (model pg wd) B (pyNext (.ref z)) R X0 s0:=by
 have ty:s0.TypeIs (.ref z) "zip" := ⟨_,hz,rfl⟩
 unfold pyNext
 refine wpAny_bind (wpAny_attempt (wpAny_callSpecial?_slot (name:=Str.ofString "__next__") ty F.slot_zip_next (wpAny_call_entry F.slot_zip_next ty F.entry_zip_next ?_ (F.args_zip_next_1 _))))
 show wpAny _ _ (field (.ref z) 2 >>= _) _ _ _
 refine wpAny_bind (wpAny_field hz rfl (x:=.bool false) rfl ?_)
 show wpAny _ _ (field (.ref z) 3 >>= _) _ _ _
 refine wpAny_bind (wpAny_field hz rfl (x:=.ref ti) rfl ?_)
 refine wpAny_bind (wpAny_seqItems hi rfl ?_)
 show wpAny _ _ (Builtin.SmallTypes.ownedTupleIsFree (.ref z) >>= _) _ _ _
 refine wpAny_bind ?_
 unfold Builtin.SmallTypes.ownedTupleIsFree
 refine wpAny_bind (wpAny_field hz rfl (x:=.none) rfl (wpAny_pure ?_))
 simp only [if_true]
 refine wpAny_bind (wpAny_rule ?_)
 refine wpAny_bind (wpAny_field hz rfl (x:=.ref ox) rfl ?_)
 refine wpAny_bind (wpAny_setField_rec hz (by simp) λ m1 zm1 sb1=>?_)
 have zm1:IsZip m1 z ti ox .ellipsis:=zm1
 refine wpAny_bind ?_
 simp only [List.zipIdx_cons,List.zipIdx_nil,List.forIn_cons,List.forIn_nil]
 refine wpAny_bind (wpAny_bind (wpAny_onRaise ?_))
 show wpAny _ _ (Builtin.SmallTypes.nextOf (.ref j1) >>= _) _ _ _
 refine wpAny_bind (z3r (z2a p1 λ o g=>sb1.extBut _ _ ap.j1_z g) (z4k q1 λ o g=>sb1.extBut _ _ ap.t1_z g) e1 λ m2 pm2 sb2=>wpAny_pure ?_)
 have om2:IsPair m2 ox u v:=sb2.extBut _ _ ap.ox_j1 (sb1.extBut _ _ ap.ox_z ho)
 refine wpAny_bind (wpAny_seqItems om2 rfl ?_)
 refine wpAny_bind (wpAny_updateSeq_pair om2 λ m3 om3 sb3=>?_)
 have om3:IsPair m3 ox x v:=om3
 refine wpAny_bind (wpAny_letGo (wpAny_pure ?_))
 refine wpAny_bind (wpAny_bind (wpAny_onRaise ?_))
 show wpAny _ _ (Builtin.SmallTypes.nextOf (.ref j2) >>= _) _ _ _
 have to3:∀c o,c≠z->c≠ox->c≠j1->s0.heap.get? c=some o->m3.get? c=some o:=λ c o a1 a2 a3 g=>sb3.extBut _ _ a2 (sb2.extBut _ _ a3 (sb1.extBut _ _ a1 g))
 refine wpAny_bind (z3r (z2a p2 λ o g=>to3 _ o ap.j2_z ap.ox_j2.symm ap.j12.symm g) (z4k q2 λ o g=>to3 _ o ap.t2_z ap.t2_ox ap.t2_j1 g) e2 λ m4 pm4 sb4=>wpAny_pure ?_)
 have om4:IsPair m4 ox x v:=sb4.extBut _ _ ap.ox_j2 om3
 refine wpAny_bind (wpAny_seqItems om4 rfl ?_)
 refine wpAny_bind (wpAny_updateSeq_pair om4 λ m5 om5 sb5=>?_)
 have om5:IsPair m5 ox x y:=om5
 refine wpAny_bind (wpAny_letGo (wpAny_pure (wpAny_pure ?_)))
 refine wpAny_bind (wpAny_seqItems om5 rfl ?_)
 refine wpAny_bind (wpAny_newTuple ?_)
 have sz5:m5.objs.size=s0.heap.objs.size:=by rw [sb5.1,sb4.1,sb3.1,sb2.1,sb1.1]
 have zm5:IsZip m5 z ti ox .ellipsis:=sb5.extBut _ _ ap.ox_z.symm (sb4.extBut _ _ ap.j2_z.symm (sb3.extBut _ _ ap.ox_z.symm (sb2.extBut _ _ ap.j1_z.symm zm1)))
 have to5:But4 z ox j1 j2 s0.heap m5:=λ c o a1 a2 a3 a4 g=>sb5.extBut _ _ a2 (sb4.extBut _ _ a4 (to3 c o a1 a2 a3 g))
 have pj1:m5.IsTupleIter j1 t1 (k+1):=z2a pm2 λ o g=>sb5.extBut _ _ ap.ox_j1.symm (sb4.extBut _ _ ap.j12 (sb3.extBut _ _ ap.ox_j1.symm g))
 have pj2:m5.IsTupleIter j2 t2 (k+1):=z2a pm4 λ o g=>sb5.extBut _ _ ap.ox_j2.symm g
 have zlt:z < m5.objs.size:=Heap.lt_size zm5
 show wpAny _ _ (Builtin.SmallTypes.ownedTupleHandOut (.ref z) (.ref m5.objs.size) >>= _) _ _ _
 refine wpAny_bind ?_
 unfold Builtin.SmallTypes.ownedTupleHandOut
 have zm6:IsZip (m5.push { cls:=.type "tuple",data:=.seq #[x,y] }) z ti ox .ellipsis:=Heap.get?_push_of_some _ zm5
 refine wpAny_bind (wpAny_setField_rec zm6 (by simp) λ m7 zm7 sb7=>?_)
 have zm7:IsZip m7 z ti ox (rawInt m5.objs.size):=zm7
 refine wpAny_setField_rec zm7 (by simp) λ m8 zm8 sb8=>?_
 have zm8:IsZip m8 z ti ox (rawInt m5.objs.size):=zm8
 have to8:∀c o,c≠z->m5.get? c=some o->m8.get? c=some o:=λ c o a1 g=>sb8.extBut _ _ a1 (sb7.extBut _ _ a1 (Heap.get?_push_of_some _ g))
 have np8:IsPair m8 m5.objs.size x y:=sb8.extBut _ _ (Nat.ne_of_gt zlt) (sb7.extBut _ _ (Nat.ne_of_gt zlt) (Heap.get?_push_size _ rfl))
 rw [sz5] at zm8 np8
 refine wpAny_pure ⟨_,rfl,wpAny_pure ?_⟩
 show R (some (.ref m5.objs.size)) _
 rw [sz5]
 exact f m8 zm8 (to8 _ _ ap.ox_z om5) (z2a pj1 λ o g=>to8 _ o ap.j1_z g) (z2a pj2 λ o g=>to8 _ o ap.j2_z g) np8 λ c o a1 a2 a3 a4 g=>to8 c o a1 (to5 c o a1 a2 a3 a4 g)
theorem y6q {z ti ox j1 j2 t1 t2:Addr}{k:Nat}{as bs:Array Value}{u v:Value}{R:Option Value->Shared->Prop}(hh:B.handled=none) (ap:Apart5 z ti ox j1 j2 t1 t2) (hz:IsZip s0.heap z ti ox .none) (hi:IsPair s0.heap ti (.ref j1) (.ref j2)) (ho:IsPair s0.heap ox u v)
  (p1:s0.heap.IsTupleIter j1 t1 k) (p2:s0.heap.IsTupleIter j2 t2 k) (q1:s0.heap.IsTuple t1 as) (q2:s0.heap.IsTuple t2 bs) (hend:as[k]?=none\/bs[k]?=none)
  (f:∀h',But4 z ox j1 j2 s0.heap h'->R none { s0 with heap:=h' }):wpAny (model pg wd) B (pyNext (.ref z)) R X0 s0:=by
 have ty:s0.TypeIs (.ref z) "zip" := ⟨_,hz,rfl⟩
 have last:∀(h':Heap) (e:Addr),But4 z ox j1 j2 s0.heap h'->(∃o,h'.get? e=some o/\o.cls=.type "StopIteration")->wpAny (model pg wd) B (do if ← isInstance (.ref e) (.type "StopIteration") then pure none else throw (.ref e)) R X0 { s0 with heap:=h' }:=λ h' e bt ⟨o,g,c⟩ =>
  wpAny_bind (wpAny_isInstance (T := "StopIteration") (b:=true) ⟨o,g,c⟩ isSubtype_stop (wpAny_pure (f _ bt)))
 unfold pyNext
 refine wpAny_bind (wpAny_attempt (wpAny_callSpecial?_slot (name:=Str.ofString "__next__") ty F.slot_zip_next (wpAny_call_entry F.slot_zip_next ty F.entry_zip_next ?_ (F.args_zip_next_1 _))))
 show wpAny _ _ (field (.ref z) 2 >>= _) _ _ _
 refine wpAny_bind (wpAny_field hz rfl (x:=.bool false) rfl ?_)
 show wpAny _ _ (field (.ref z) 3 >>= _) _ _ _
 refine wpAny_bind (wpAny_field hz rfl (x:=.ref ti) rfl ?_)
 refine wpAny_bind (wpAny_seqItems hi rfl ?_)
 show wpAny _ _ (Builtin.SmallTypes.ownedTupleIsFree (.ref z) >>= _) _ _ _
 refine wpAny_bind ?_
 unfold Builtin.SmallTypes.ownedTupleIsFree
 refine wpAny_bind (wpAny_field hz rfl (x:=.none) rfl (wpAny_pure ?_))
 simp only [if_true]
 refine wpAny_bind (wpAny_rule ?_)
 refine wpAny_bind (wpAny_field hz rfl (x:=.ref ox) rfl ?_)
 refine wpAny_bind (wpAny_setField_rec hz (by simp) λ m1 zm1 sb1=>?_)
 have zm1:IsZip m1 z ti ox .ellipsis:=zm1
 refine wpAny_bind ?_
 simp only [List.zipIdx_cons,List.zipIdx_nil,List.forIn_cons,List.forIn_nil]
 refine wpAny_bind (wpAny_bind (wpAny_onRaise ?_))
 show wpAny _ _ (Builtin.SmallTypes.nextOf (.ref j1) >>= _) _ _ _
 cases e1:as[k]? with
 | none =>
  refine wpAny_bind (z6i hh (z2a p1 λ o g=>sb1.extBut _ _ ap.j1_z g) (z4k q1 λ o g=>sb1.extBut _ _ ap.t1_z g) e1 λ m2 e xb he=>?_)
  obtain ⟨oe,ge,ce⟩:=he
  have zm2:IsZip m2 z ti ox .ellipsis:=xb _ _ ap.j1_z.symm zm1
  have ez:e≠z:=λ q=>by subst q;rw [zm2] at ge;cases ge;simp at ce
  exact wpAny_setField_rec zm2 (by simp) λ m3 _ sb3=>last m3 e (λ c o a1 _ a3 _ g=>sb3.extBut _ _ a1 (xb _ _ a3 (sb1.extBut _ _ a1 g))) ⟨oe,sb3.extBut _ _ ez ge,ce⟩
 | some x =>
  have e2:bs[k]?=none:=by rcases hend with q | q;rw [e1] at q;cases q;exact q
  refine wpAny_bind (z3r (z2a p1 λ o g=>sb1.extBut _ _ ap.j1_z g) (z4k q1 λ o g=>sb1.extBut _ _ ap.t1_z g) e1 λ m2 pm2 sb2=>wpAny_pure ?_)
  have om2:IsPair m2 ox u v:=sb2.extBut _ _ ap.ox_j1 (sb1.extBut _ _ ap.ox_z ho)
  refine wpAny_bind (wpAny_seqItems om2 rfl ?_)
  refine wpAny_bind (wpAny_updateSeq_pair om2 λ m3 om3 sb3=>?_)
  refine wpAny_bind (wpAny_letGo (wpAny_pure ?_))
  refine wpAny_bind (wpAny_bind (wpAny_onRaise ?_))
  show wpAny _ _ (Builtin.SmallTypes.nextOf (.ref j2) >>= _) _ _ _
  have to3:∀c o,c≠z->c≠ox->c≠j1->s0.heap.get? c=some o->m3.get? c=some o:=λ c o a1 a2 a3 g=>sb3.extBut _ _ a2 (sb2.extBut _ _ a3 (sb1.extBut _ _ a1 g))
  refine wpAny_bind (z6i hh (z2a p2 λ o g=>to3 _ o ap.j2_z ap.ox_j2.symm ap.j12.symm g) (z4k q2 λ o g=>to3 _ o ap.t2_z ap.t2_ox ap.t2_j1 g) e2 λ m4 e xb he=>?_)
  obtain ⟨oe,ge,ce⟩:=he
  have zm4:IsZip m4 z ti ox .ellipsis:=xb _ _ ap.j2_z.symm (sb3.extBut _ _ ap.ox_z.symm (sb2.extBut _ _ ap.j1_z.symm zm1))
  have ez:e≠z:=λ q=>by subst q;rw [zm4] at ge;cases ge;simp at ce
  exact wpAny_setField_rec zm4 (by simp) λ m5 _ sb5=>last m5 e (λ c o a1 a2 a3 a4 g=>sb5.extBut _ _ a1 (xb _ _ a4 (to3 c o a1 a2 a3 g))) ⟨oe,sb5.extBut _ _ ez ge,ce⟩
end
theorem Inv.turnedL {X:Cx}{pins:List (Addr × Obj)}{σ:St}{H:Hp}{s:Shared}{h':Heap}{t':Nat}{fl:List Addr}(I:Inv X pins σ H s) (kk:∀b o,b ∉ fl->s.heap.get? b=some o->h'.get? b=some o) (fo:∀b∈fl,FpOk X pins H b):Inv X pins σ H { s with heap:=h',toks:=t' }:=by
 have out:∀b u,H b=some u->b ∉ fl:=λ b u e z=>by rw [(fo b z).1] at e;cases e
 refine I.step (g':=s.gens) (d':=s.drawn) (ch:=fl) (λ b hb=>?_) (λ b o _ _ hc e _=>kk b o hc e) (λ b o _ _ hc e _=>⟨o.slots,kk b o hc e⟩) (λ _ _ _ _ q=>q)
  (λ b o hc e=>⟨o,kk b o hc e⟩) (λ _ _ e=>e) (λ _ _ _ e=>e) (λ b ps e=>⟨#[],by rw [e];simp⟩) (λ m hm=>?_) (λ b u e=>?_) I.bare
 ·obtain ⟨_,f1,_,f3,f4,f5⟩:=fo b hb
  exact ⟨f3,f1,f4,f5⟩
 ·obtain ⟨o,es,ep,ho,r⟩:=hm
  exact ⟨o,es,ep,kk _ o (λ z=>(fo _ z).2.1 rfl) ho,r⟩
 ·refine (I.hok b u e).stay (λ c v hc q=>kk c v ?_ q) (λ _ q=>q) λ _ _ q=>q
  rcases hc with z | z
  ·rw [z];exact out b u e
  ·exact out c _ z
def Itz (K:W.Frag) (a b:Addr):It:=⟨λ i H=>∃xs ys x y,SqT K H a xs/\SqT K H b ys/\xs[i]?=some x/\ys[i]?=some y,
 λ i H v H'=>∃T x y,v=.ref T/\H T=none/\H'=upd H T (.tup [x,y])/\∀xs ys,SqT K H a xs->SqT K H b ys->xs[i]?=some x/\ys[i]?=some y,λ i H=>∃xs ys,SqT K H a xs/\SqT K H b ys/\(xs.length≤i\/ys.length≤i)⟩
theorem y6r {P:Program}{w:World}{K:W.Frag}{es:List Expr}{x1:Nat}{pp:Pos}{a b z ti ox j1 j2:Addr}(ap:Apart5 z ti ox j1 j2 a b) :
  Turn P w K (.Tuple es x1 pp) (Itz K a b) [z,ti,ox,j1,j2] z (λ i h=>IsZip h z ti ox .none/\IsPair h ti (.ref j1) (.ref j2)/\(∃u v,IsPair h ox u v)/\h.IsTupleIter j1 a i/\h.IsTupleIter j2 b i) where
 mem:=by simp
 obj:=λ i h q c hc=>by
  obtain ⟨q1,q2,⟨u,v,q3⟩,⟨o4,g4,_,d4⟩,⟨o5,g5,_,d5⟩⟩:=q
  simp only [List.mem_cons,List.not_mem_nil,or_false] at hc
  rcases hc with rfl | rfl | rfl | rfl | rfl
  ·exact ⟨_,q1,λ v z=>nomatch z⟩
  ·exact ⟨_,q2,λ v z=>nomatch z⟩
  ·exact ⟨_,q3,λ v z=>nomatch z⟩
  ·exact ⟨_,g4,λ v z=>by rw [d4] at z;cases z⟩
  ·exact ⟨_,g5,λ v z=>by rw [d5] at z;cases z⟩
 keep:=λ i h h' q k=>by
  obtain ⟨q1,q2,⟨u,v,q3⟩,q4,q5⟩:=q
  exact ⟨k _ (by simp) _ q1,k _ (by simp) _ q2,⟨u,v,k _ (by simp) _ q3⟩,z2a q4 λ o g=>k _ (by simp) o g,z2a q5 λ o g=>k _ (by simp) o g⟩
 item:=by
  intro X hP hw hK hc i pins s σ H E I hf st hg
  subst hP hw hK
  obtain ⟨xs,ys,x,y,hq1,hq2,hx,hy⟩:=hg
  obtain ⟨q1,q2,⟨u,v,q3⟩,q4,q5⟩:=st
  obtain ⟨as,ra,pa,za⟩:=I.tuple hq1
  obtain ⟨bs,rb,pb,zb⟩:=I.tuple hq2
  obtain ⟨ux,hux,rux⟩:=ra.get hx
  obtain ⟨uy,huy,ruy⟩:=rb.get hy
  refine y2q ap q1 q2 q3 q4 q5 (show s.heap.IsTuple a as.toArray from pa) (show s.heap.IsTuple b bs.toArray from pb) (x:=ux) (y:=uy) (by simpa using hux) (by simpa using huy) λ h' zz oo p1' p2' np bt=>?_
  have I1:Inv X pins σ H { s with heap:=h' }:=I.turnedL (t':=s.toks) (fl:=[z,ti,ox,j1,j2]) (λ c o hc e=>by
   simp only [List.mem_cons,List.not_mem_nil,or_false,not_or] at hc
   exact bt c o hc.1 hc.2.2.1 hc.2.2.2.1 hc.2.2.2.2 e) hf
  obtain ⟨f0,f1,f2,f3,f4,f5⟩:=I.fpOk (Nat.le_refl s.heap.objs.size) (I.hok.fresh (Nat.le_refl _))
  have n0:X.s₀.heap.get? s.heap.objs.size=none:=by
   cases q:X.s₀.heap.get? s.heap.objs.size with
   | none=>rfl
   | some o=>exact absurd (Nat.lt_of_lt_of_le (Heap.lt_size q) I.sz) (Nat.lt_irrefl _)
  have I2:Inv X pins σ (upd H s.heap.objs.size (.tup [x,y])) { s with heap:=h' }:=I1.track f0 ⟨small (by simp),[ux,uy],.cons rux (.cons ruy .nil),⟨_,np,rfl,_,rfl⟩⟩ f1 f4 f5 n0
  have lt:∀ {c o},s.heap.get? c=some o->c≠s.heap.objs.size:=λ e=>Nat.ne_of_lt (Heap.lt_size e)
  have hzT:z≠s.heap.objs.size:=lt q1
  have ti2:IsPair h' ti (.ref j1) (.ref j2):=bt _ _ ap.ti_z ap.ti_ox ap.ti_j1 ap.ti_j2 q2
  obtain ⟨e0,e1,e2,e3,e4,e5⟩:=hf z (by simp)
  refine ⟨_,rfl,wpAny_letOwnedTupleGo_zip zz λ h2 z2 sb=>?_⟩
  have I3:Inv X pins σ (upd H s.heap.objs.size (.tup [x,y])) { s with heap:=h2 }:=Inv.turned (s:={ s with heap:=h' }) (h':=h2) (t':=s.toks) (it:=z) I2 (λ c o hc e=>sb.extBut _ _ hc e) (by rw [z1a hzT];exact e0) e1 e3 e4 e5
  refine ⟨.ref s.heap.objs.size,_,I3,rfl,⟨_,x,y,rfl,f0,rfl,λ xs' ys' k1 k2=>?_⟩,⟨z2,sb.extBut _ _ ap.ti_z ti2,⟨_,_,sb.extBut _ _ ap.ox_z oo⟩,z2a p1' λ o g=>sb.extBut _ _ ap.j1_z g,z2a p2' λ o g=>sb.extBut _ _ ap.j2_z g⟩,λ c hc=>?_⟩
  ·rw [I.tuple_inj k1 hq1,I.tuple_inj k2 hq2];exact ⟨hx,hy⟩
  ·have cT:c≠s.heap.objs.size:=by
    obtain ⟨o4,g4,_⟩:=q4
    obtain ⟨o5,g5,_⟩:=q5
    simp only [List.mem_cons,List.not_mem_nil,or_false] at hc
    rcases hc with rfl | rfl | rfl | rfl | rfl
    ·exact hzT
    ·exact lt q2
    ·exact lt q3
    ·exact lt g4
    ·exact lt g5
   rw [z1a cT];exact (hf c hc).1
 done:=by
  intro X hP hw hK hc i pins s σ H E I hf st hg
  subst hP hw hK
  obtain ⟨xs,ys,hq1,hq2,hx⟩:=hg
  obtain ⟨q1,q2,⟨u,v,q3⟩,q4,q5⟩:=st
  obtain ⟨as,ra,pa,za⟩:=I.tuple hq1
  obtain ⟨bs,rb,pb,zb⟩:=I.tuple hq2
  have la:=ra.length
  have lb:=rb.length
  refine y6q (I.ok.hd hc) ap q1 q2 q3 q4 q5 (show s.heap.IsTuple a as.toArray from pa) (show s.heap.IsTuple b bs.toArray from pb) (by rcases hx with q | q;exact .inl (by simp;omega);exact .inr (by simp;omega)) λ h' bt=>⟨rfl,?_⟩
  exact I.turnedL (t':=s.toks) (fl:=[z,ti,ox,j1,j2]) (λ c o hc e=>by
   simp only [List.mem_cons,List.not_mem_nil,or_false,not_or] at hc
   exact bt c o hc.1 hc.2.2.1 hc.2.2.2.1 hc.2.2.2.2 e) hf
 self:=λ _ _ _ _ _ st h=>wpAny_pyIter_zip st.1 h
abbrev zt1 (h:Heap) (a:Addr):Heap:=h.push { cls:=.type "tuple_iterator",data:=.fields #[.ref a,.int 0 0] }
abbrev zt2 (h:Heap) (a b:Addr):Heap:=(zt1 h a).push { cls:=.type "tuple_iterator",data:=.fields #[.ref b,.int 0 0] }
abbrev zt3 (h:Heap) (a b:Addr):Heap:=(zt2 h a b).push { cls:=.type "tuple",data:=.seq #[.ref h.objs.size,.ref (zt1 h a).objs.size] }
abbrev zt4 (h:Heap) (a b:Addr):Heap:=(zt3 h a b).push { cls:=.type "tuple",data:=.seq #[.none,.none] }
abbrev zt5 (h:Heap) (a b:Addr):Heap:=(zt4 h a b).push { cls:=.type "zip",data:=.fields #[.none,.bool false,.bool false,.ref (zt2 h a b).objs.size,.ref (zt3 h a b).objs.size] }
theorem y6p (a b:Addr) (as bs:Array Value):Meets (Builtin.«zip.__new__» ⟨[.type "zip",.ref a,.ref b],[]⟩) (λ _ R s=>s.heap.IsTuple a as/\s.heap.IsTuple b bs/\R (.ok (.ret (.ref (zt4 s.heap a b).objs.size))) { s with heap:=zt5 s.heap a b }) :=
 .of_wp λ prog w A R s h=>by
  obtain ⟨hp,g,d,tk,os⟩:=s
  obtain ⟨ha,hb,h⟩:=h
  have q0:=sub_zip
  have q1:Heap.IsTuple (Shared.heap ⟨hp,g,d,tk,os⟩) a as:=ha
  have q2:Heap.IsTuple (Shared.heap ⟨hp.push { cls:=.type "tuple_iterator",data:=.fields #[.ref a,.int 0 0] },g,d,tk,os⟩) b bs:=z4k hb λ o e=>Heap.get?_push_of_some _ e
  wp_walk using wpAny_pyIter_tuple q1,wpAny_pyIter_tuple q2
  exact ⟨_,rfl,h⟩
theorem y2r {pg:Program}{wd:World}{B:Around}{X0:Value->Shared->Prop}{s0:Shared}{a b:Addr}{as bs:Array Value}{R:Value->Shared->Prop}(ha:s0.heap.IsTuple a as) (hb:s0.heap.IsTuple b bs)
  (f:∀h',IsZip h' (s0.heap.objs.size+4) (s0.heap.objs.size+2) (s0.heap.objs.size+3) .none->IsPair h' (s0.heap.objs.size+2) (.ref s0.heap.objs.size) (.ref (s0.heap.objs.size+1))->IsPair h' (s0.heap.objs.size+3) .none .none ->
   h'.IsTupleIter s0.heap.objs.size a 0->h'.IsTupleIter (s0.heap.objs.size+1) b 0->(∀c o,s0.heap.get? c=some o->h'.get? c=some o)->R (.ref (s0.heap.objs.size+4)) { s0 with heap:=h' }) :
  wpAny (model pg wd) B (call (.type "zip") [.ref a,.ref b]) R X0 s0:=by
 refine callType_new F.called_zip (by decide) (F.typeCall_zip_2 _ _) (F.newCall_zip_2 _ _) (λ ob=>F.args_object_init_3 ob _ _) F.entry_zip_new (y6p a b as bs) ⟨ha,hb,?_⟩
 have n1:(zt1 s0.heap a).objs.size=s0.heap.objs.size+1:=Heap.size_push ..
 have n2:(zt2 s0.heap a b).objs.size=s0.heap.objs.size+2:=by rw [Heap.size_push,n1]
 have n3:(zt3 s0.heap a b).objs.size=s0.heap.objs.size+3:=by rw [Heap.size_push,n2]
 have n4:(zt4 s0.heap a b).objs.size=s0.heap.objs.size+4:=by rw [Heap.size_push,n3]
 have g5:(zt5 s0.heap a b).get? (zt4 s0.heap a b).objs.size=some _:=Heap.get?_push_size _ rfl
 have g4:(zt5 s0.heap a b).get? (zt3 s0.heap a b).objs.size=some _:=Heap.get?_push_of_some _ (Heap.get?_push_size _ rfl)
 have g3:(zt5 s0.heap a b).get? (zt2 s0.heap a b).objs.size=some _:=Heap.get?_push_of_some _ (Heap.get?_push_of_some _ (Heap.get?_push_size _ rfl))
 have g2:(zt5 s0.heap a b).get? (zt1 s0.heap a).objs.size=some _:=Heap.get?_push_of_some _ (Heap.get?_push_of_some _ (Heap.get?_push_of_some _ (Heap.get?_push_size _ rfl)))
 have g1:(zt5 s0.heap a b).get? s0.heap.objs.size=some _:=Heap.get?_push_of_some _ (Heap.get?_push_of_some _ (Heap.get?_push_of_some _ (Heap.get?_push_of_some _ (Heap.get?_push_size _ rfl))))
 show _/\_
 rw [n2,n3,n4] at g5
 rw [n1,n2] at g3
 rw [n3] at g4
 rw [n1] at g2
 rw [n4]
 exact ⟨⟨_,g5,rfl⟩,f _ g5 g3 g4 ⟨_,g1,rfl,rfl⟩ ⟨_,g2,rfl,rfl⟩ λ c o q=>Heap.get?_push_of_some _ (Heap.get?_push_of_some _ (Heap.get?_push_of_some _ (Heap.get?_push_of_some _ (Heap.get?_push_of_some _ q))))⟩
theorem y9i (n a b:Nat) (ha:a < n) (hb:b < n):Apart5 (n+4) (n+2) (n+3) n (n+1) a b:=by
 constructor<;>first | exact Nat.ne_of_lt (by omega) | exact Nat.ne_of_gt (by omega)
section
variable {X:Cx}{es:List Expr}{x1:Nat}{pp:Pos}
def iZip (K:W.Frag) (ta:TA):TI:=λ σ H R=>ta σ H λ vs H1=>∃a b xs ys,vs=[.ref a,.ref b]/\SqT K H1 a xs/\SqT K H1 b ys/\R (Itz K a b) H1
theorem y9m {e1 e2:Expr}{ta:TA}{p pos:Pos}(hg:Gl X "zip") (hm:X.mg "zip" = none) (ha:PA X [e1,e2] ta) (hs:starEach [e1,e2] X.env=[(false,eval e1 X.env),(false,eval e2 X.env)]:=by rfl) (hs2:starEach [e2] X.env=[(false,eval e2 X.env)]:=by rfl) :
  PI X (.Tuple es x1 pp) (.Call (.Name "zip" p) [e1,e2] [] pos) (iZip X.K ta):=by
 intro pins s σ H R I h
 have hA:=ha pos pins s σ H _ I h
 refine Call_ (z3p I hg hm boot_zip (PyProof.Rows.callWith_type1 (thn hA λ us s1 ⟨vs,H1,I1,r1,q1⟩=>?_) (by rw [hs,hs2]) (by rw [hs2];rfl)))
 obtain ⟨a,b,xs,ys,rfl,ha,hb,q⟩:=q1
 obtain ⟨u,u',rfl,ra,rb⟩:=z9h r1
 cases (show u=Value.ref a from ra)
 cases (show u'=Value.ref b from rb)
 obtain ⟨as,va,pa,za⟩:=I1.tuple ha
 obtain ⟨bs,vb,pb,zb⟩:=I1.tuple hb
 have al:a < s1.heap.objs.size:=by obtain ⟨o,g,_⟩:=pa;exact Heap.lt_size g
 have bl:b < s1.heap.objs.size:=by obtain ⟨o,g,_⟩:=pb;exact Heap.lt_size g
 refine y2r (show s1.heap.IsTuple a as.toArray from pa) (show s1.heap.IsTuple b bs.toArray from pb) λ h' w1 w2 w3 w4 w5 kk=>?_
 have I2:Inv X pins σ H1 { s1 with heap:=h' }:=I1.kept (t':=s1.toks) kk
 have ap:=y9i s1.heap.objs.size a b al bl
 refine wpAny_pyIter_zip w1 ⟨s1.heap.objs.size+4,[s1.heap.objs.size+4,s1.heap.objs.size+2,s1.heap.objs.size+3,s1.heap.objs.size,s1.heap.objs.size+1],_,_,H1,rfl,I2,y6r ap,⟨w1,w2,⟨_,_,w3⟩,w4,w5⟩,λ c hc=>?_,q⟩
 have ge:s1.heap.objs.size≤c:=by
  simp only [List.mem_cons,List.not_mem_nil,or_false] at hc
  rcases hc with rfl | rfl | rfl | rfl | rfl<;>omega
 exact I1.fpOk ge (I1.hok.fresh ge)
end
def LoopZ (K:PySem.W.Frag) (g:TG) (tb:TS) (D:Ends) (σ:St) (vs:List V) (H1:Hp):Prop:=∃a b xs ys,vs=[.ref a,.ref b]/\SqT K H1 a xs/\SqT K H1 b ys/\∃W:Nat->Nat->St->Hp->Prop,(∃m,W 0 m σ H1)/\∀i m σ H,W i m σ H ->
 ((Itz K a b).stop i H/\D.nx σ H)\/((Itz K a b).go i H/\∃N:St->Hp->Prop,(∀σ' H',N σ' H'->∃m',m' < m/\W (i+1) m' σ' H')/\∀x H',(Itz K a b).yld i H x H'->g x σ H' λ σ2 H2=>tb { D with nx:=N,ct:=N,bk:=D.nx } σ2 H2)
theorem x1p {K:W.Frag}{ta:TA}{g:TG}{tb:TS}{D:Ends}{σ:St}{H:Hp}:tFor (iZip K ta) g tb D σ H=ta σ H λ vs H1=>LoopZ K g tb D σ vs H1:=rfl
theorem LoopZ.mk {K:W.Frag}{a b:Addr}{xs ys:List V}{g:TG}{tb:TS}{D:Ends}{σ:St}{H:Hp}(n:Nat) (hn:n=min xs.length ys.length) (h1:SqT K H a xs) (h2:SqT K H b ys) (Pv:Nat->St->Hp->Prop) (h0:Pv 0 σ H) (hl:∀i σ H,i≤n->Pv i σ H->SqT K H a xs/\SqT K H b ys)
  (hs:∀i x y σ H T,i < n->xs[i]?=some x->ys[i]?=some y->Pv i σ H->H T=none->g (.ref T) σ (upd H T (.tup [x,y])) λ σ2 H2=>tb { D with nx:=Pv (i+1),ct:=Pv (i+1),bk:=D.nx } σ2 H2) (hd:∀σ H,Pv n σ H->D.nx σ H) :
  LoopZ K g tb D σ [.ref a,.ref b] H:=by
 subst hn
 refine ⟨a,b,xs,ys,rfl,h1,h2,λ i m σ H=>m=min xs.length ys.length - i/\i≤min xs.length ys.length/\Pv i σ H,⟨_,rfl,Nat.zero_le _,h0⟩,?_⟩
 rintro i m σ H ⟨rfl,hi,p⟩
 obtain ⟨k1,k2⟩:=hl i σ H hi p
 by_cases hlt:i < min xs.length ys.length
 ·have l1:i < xs.length:=by omega
  have l2:i < ys.length:=by omega
  refine .inr ⟨⟨xs,ys,_,_,k1,k2,List.getElem?_eq_getElem l1,List.getElem?_eq_getElem l2⟩,Pv (i+1),λ σ' H' p'=>⟨min xs.length ys.length - (i+1),by omega,rfl,hlt,p'⟩,λ v H' yy=>?_⟩
  obtain ⟨T,x,y,rfl,hT,rfl,ex⟩:=yy
  obtain ⟨ex1,ex2⟩:=ex xs ys k1 k2
  exact hs i x y σ H T hlt ex1 ex2 p hT
 ·have e:i=min xs.length ys.length:=by omega
  exact .inl ⟨⟨xs,ys,k1,k2,by omega⟩,hd σ H (e ▸ p)⟩
def CompZ (K:PySem.W.Frag) (k:Nat) (js:List Nat) (g:TG) (te:TE) (σ:St) (vs:List V) (H1:Hp) (Q:VK):Prop:=∃a b xs ys,vs=[.ref a,.ref b]/\SqT K H1 a xs/\SqT K H1 b ys/\∃W:Nat->Nat->List V->St->Hp->Prop,(∃m,W 0 m [] (compSt k js σ) H1)/\∀i m zs σ' H',W i m zs σ' H' ->
  ((Itz K a b).stop i H'/\∀p,H' p=none->Q (.ref p) (upd H' p (.lst zs))) \/
  ((Itz K a b).go i H'/\zs.length < sizeLine/\∃N:List V->St->Hp->Prop,(∀zs σ2 H2,N zs σ2 H2->∃m',m' < m/\W (i+1) m' zs σ2 H2)/\∀x H2,(Itz K a b).yld i H' x H2->g x σ' H2 λ σ3 H3=>te σ3 H3 λ v H4=>N (zs++[v]) σ3 H4)
theorem y8x {K:W.Frag}{k:Nat}{js:List Nat}{ta:TA}{g:TG}{te:TE}{σ:St}{H:Hp}{Q:VK}:tComp (iZip K ta) k js g te σ H Q=ta σ H λ vs H1=>CompZ K k js g te σ vs H1 Q:=rfl
theorem CompZ.mk {K:W.Frag}{a b:Addr}{xs ys:List V}{k:Nat}{js:List Nat}{g:TG}{te:TE}{Q:VK}{σ:St}{H:Hp}(n:Nat) (hn:n=min xs.length ys.length) (h1:SqT K H a xs) (h2:SqT K H b ys) (Pv:Nat->List V->St->Hp->Prop) (h0:Pv 0 [] (compSt k js σ) H) (hl:∀i zs σ H,i≤n->Pv i zs σ H->SqT K H a xs/\SqT K H b ys)
  (hs:∀i x y zs σ H T,i < n->xs[i]?=some x->ys[i]?=some y->Pv i zs σ H->H T=none->zs.length < sizeLine/\g (.ref T) σ (upd H T (.tup [x,y])) λ σ3 H3=>te σ3 H3 λ v H4=>Pv (i+1) (zs++[v]) σ3 H4) (hz:∀zs σ H,Pv n zs σ H->∀p,H p=none->Q (.ref p) (upd H p (.lst zs))) (hlen:∀i zs σ H,Pv i zs σ H->zs.length < sizeLine) :
  CompZ K k js g te σ [.ref a,.ref b] H Q:=by
 subst hn
 refine ⟨a,b,xs,ys,rfl,h1,h2,λ i m zs σ H=>m=min xs.length ys.length - i/\i≤min xs.length ys.length/\Pv i zs σ H,⟨_,rfl,Nat.zero_le _,h0⟩,?_⟩
 rintro i m zs σ H ⟨rfl,hi,p⟩
 obtain ⟨k1,k2⟩:=hl i zs σ H hi p
 by_cases hlt:i < min xs.length ys.length
 ·have l1:i < xs.length:=by omega
  have l2:i < ys.length:=by omega
  refine .inr ⟨⟨xs,ys,_,_,k1,k2,List.getElem?_eq_getElem l1,List.getElem?_eq_getElem l2⟩,hlen _ _ _ _ p,Pv (i+1),λ zs' σ' H' p'=>⟨min xs.length ys.length - (i+1),by omega,rfl,hlt,p'⟩,λ v H' yy=>?_⟩
  obtain ⟨T,x,y,rfl,hT,rfl,ex⟩:=yy
  obtain ⟨ex1,ex2⟩:=ex xs ys k1 k2
  exact (hs i x y zs σ H T hlt ex1 ex2 p hT).2
 ·have e:i=min xs.length ys.length:=by omega
  exact .inl ⟨⟨xs,ys,k1,k2,by omega⟩,hz zs σ H (e ▸ p)⟩
section
variable {X:Cx}
theorem z5n (hc:X.calm=true):CallR X (.builtin "sum") (λ xs H Q=>∃(a:Addr) (ns:List Int),xs=[.ref a]/\SqL X.K H a (ns.map V.int)/\Q (.int ns.sum) H):=by
 intro pins s σ H xs us Q I r h
 obtain ⟨a,ns,rfl,hq,q⟩:=h
 obtain ⟨u,rfl,ru⟩:=z4p r
 cases (show u=Value.ref a from ru)
 obtain ⟨its,rv,pl,hz⟩:=I.list hq
 have hi:=z3m rv
 have hn:=hi.numsOf
 obtain ⟨ps,e⟩:=hi.allInts.items
 have hl:s.heap.IsList a (intItems ps):=e ▸ pl.isList
 refine sum_intListG (I.ok.hd hc) hl λ h' tk t' kk=>?_
 have e2:preSum (numAt ps) ps.size=ns.sum:=by
  rw [preSum_eq,List.take_of_length_le (by simp),← nums_intItems,← e]
  exact congrArg List.sum hn
 rw [e2]
 exact ⟨.int ns.sum,H,I.kept kk,⟨t',rfl⟩,q⟩
def Its (lo st:Int) (n:Nat):It:=⟨λ i _=>i < n,λ i H x H'=>H'=H/\x=.int (lo+i * st),λ i _=>n≤i⟩
theorem y2t {P:Program}{w:World}{K:PySem.W.Frag}{tg:Expr}(it:Addr) (lo st:Int) (n:Nat):Turn P w K tg (Its lo st n) [it] it (λ i h=>IsRangeIter h it (lo+(i:Nat) * st) ((n:Int) - (i:Nat)) st) where
 mem:=by simp
 obj:=λ i h q b hb=>by
  have e:b=it:=by simpa using hb
  subst e
  exact ⟨_,q,λ v z=>by
   have z':Data.fields _=Data.cell v:=z
   cases z'⟩
 keep:=λ i h h' q k=>k it (by simp) _ q
 item:=by
  intro X hP hw hK hc i pins s σ H E I hf q hg
  subst hP hw hK
  obtain ⟨f0,f1,f2,f3,f4,f5⟩:=hf it (by simp)
  have W:=Walks.range (prog:=X.prog) (w:=X.w) (I.ok.hd hc) it lo st n
  refine W.item i s _ _ hg q λ v h' tk hv q' kk=>?_
  obtain ⟨t,rfl⟩:=hv
  have I1:Inv X pins σ H { s with heap:=h',toks:=tk }:=I.turned (λ b o hb e=>kk b o (by simpa using hb) e) f0 f1 f3 f4 f5
  exact ⟨_,rfl,y8h (s:={ s with heap:=h',toks:=tk }) (n := "range_iterator") q' rfl rfl (by decide) ⟨.int (lo+i * st),H,I1,⟨t,rfl⟩,⟨rfl,rfl⟩,q',λ b hb=>(hf b hb).1⟩⟩
 done:=by
  intro X hP hw hK hc i pins s σ H E I hf q hg
  subst hP hw hK
  obtain ⟨f0,f1,f2,f3,f4,f5⟩:=hf it (by simp)
  exact wpAny_pyNext_range_end (I.ok.hd hc) q (by have:n≤i:=hg;omega) λ h' eb=>⟨rfl,I.turned (t':=s.toks) (λ b o hb e=>eb b o hb e) f0 f1 f3 f4 f5⟩
 self:=λ _ _ _ _ _ q h=>wpAny_pyIter_rangeiter q h
def iRng3 (ta:TA):TI:=λ σ H R=>ta σ H λ vs H1=>∃i j c:Int,vs=[.int i,.int j,.int c]/\(c≠0/\c.natAbs < 1073741824/\Builtin.Range.small i j c=true)/\R (Its i c (Builtin.Range.rangeSize i j c).toNat) H1
theorem y7e (i j c:Int) (hc:c≠0):0≤Builtin.Range.rangeSize i j c:=by
 unfold Builtin.Range.rangeSize
 split
 ·split
  ·have:=Int.ediv_nonneg (show 0≤j - i - 1 by omega) (show 0≤c by omega)
   omega
  ·omega
 ·split
  ·have:=Int.ediv_nonneg (show 0≤i - j - 1 by omega) (show 0≤-c by omega)
   omega
  ·omega
theorem y3v {tg a b c:Expr}{ta:TA}{p pos:Pos}(hg:Gl X "range") (hm:X.mg "range" = none) (ha:PA X [a,b,c] ta) (hs:starEach [a,b,c] X.env=[(false,eval a X.env),(false,eval b X.env),(false,eval c X.env)]:=by rfl)
  (hs2:starEach [b,c] X.env=[(false,eval b X.env),(false,eval c X.env)]:=by rfl):PI X tg (.Call (.Name "range" p) [a,b,c] [] pos) (iRng3 ta):=by
 intro pins s σ H R I h
 refine Call_ (z3p I hg hm boot_range (PyProof.Rows.callWith_type1 (thn (ha pos pins s σ H _ I h) λ us s1 ⟨vs,H1,I1,r1,q1⟩=>?_) (by rw [hs,hs2]) (by rw [hs2];rfl)))
 obtain ⟨i,j,k,e,⟨c0,c1,c2⟩,q⟩:=q1
 subst e
 cases r1 with
 | cons r rr =>
  cases rr with
  | cons r' rr =>
   cases rr with
   | cons r'' rr =>
    cases rr
    obtain ⟨t,rfl⟩:=r
    obtain ⟨t',rfl⟩:=r'
    obtain ⟨t'',rfl⟩:=r''
    refine call_range_3 c0 ?_ (.inl (PyProof.noPylong_small c1))
    refine wpAny_pyIter_range (IsRange.new ..) c2 ?_
    have I2:Inv X pins σ H1 { s1 with heap:=s1.heap.push { cls:=.type "range",data:=.fields #[.int i t,.int j t',.int k t''] },toks:=s1.toks }:=I1.kept λ b o e=>Heap.get?_push_of_some _ e
    generalize s1.heap.push { cls:=.type "range",data:=.fields #[.int i t,.int j t',.int k t''] }=hr at I2 ⊢
    refine ⟨hr.objs.size,[hr.objs.size],_,_,H1,rfl,I2.kept (t':=s1.toks) λ b o e=>Heap.get?_push_of_some _ e,y2t _ i k (Builtin.Range.rangeSize i j k).toNat,?_,λ b hb=>?_,q⟩
    ·have e1:i+((0:Nat):Int) * k=i:=by simp
     have e2:(((Builtin.Range.rangeSize i j k).toNat:Nat):Int) - ((0:Nat):Int)=Builtin.Range.rangeSize i j k:=by have:=y7e i j k c0;omega
     show IsRangeIter _ _ (i+((0:Nat):Int) * k) ((((Builtin.Range.rangeSize i j k).toNat:Nat):Int) - ((0:Nat):Int)) k
     rw [e1,e2]
     exact Heap.get?_push_size _ rfl
    ·have e:b=hr.objs.size:=by simpa using hb
     subst e
     exact I2.fpOk (Nat.le_refl _) (I2.hok.fresh (Nat.le_refl _))
end
def LoopS (lo st:Int) (n:Nat) (g:TG) (tb:TS) (D:Ends) (σ:St) (H1:Hp):Prop:=∃W:Nat->Nat->St->Hp->Prop,(∃m,W 0 m σ H1)/\∀i m σ H,W i m σ H ->
 ((Its lo st n).stop i H/\D.nx σ H)\/((Its lo st n).go i H/\∃N:St->Hp->Prop,(∀σ' H',N σ' H'->∃m',m' < m/\W (i+1) m' σ' H')/\∀x H',(Its lo st n).yld i H x H'->g x σ H' λ σ2 H2=>tb { D with nx:=N,ct:=N,bk:=D.nx } σ2 H2)
theorem y8o {ta:TA}{g:TG}{tb:TS}{D:Ends}{σ:St}{H:Hp}:tFor (iRng3 ta) g tb D σ H=ta σ H λ vs H1=>∃i j c:Int,vs=[.int i,.int j,.int c]/\(c≠0/\c.natAbs < 1073741824/\Builtin.Range.small i j c=true)/\LoopS i c (Builtin.Range.rangeSize i j c).toNat g tb D σ H1:=rfl
theorem LoopS.mk {lo st:Int}{n:Nat}{g:TG}{tb:TS}{D:Ends}{σ:St}{H:Hp}(Pv:Nat->St->Hp->Prop) (h0:Pv 0 σ H)
  (hs:∀i σ H,i < n->Pv i σ H->g (.int (lo+i * st)) σ H λ σ2 H2=>tb { D with nx:=Pv (i+1),ct:=Pv (i+1),bk:=D.nx } σ2 H2) (hd:∀σ H,Pv n σ H->D.nx σ H):LoopS lo st n g tb D σ H:=by
 refine ⟨λ i m σ H=>m=n - i/\i≤n/\Pv i σ H,⟨_,rfl,Nat.zero_le _,h0⟩,?_⟩
 rintro i m σ H ⟨rfl,hi,p⟩
 by_cases hlt:i < n
 ·refine .inr ⟨hlt,Pv (i+1),λ σ' H' p'=>⟨n - (i+1),by omega,rfl,hlt,p'⟩,λ v H' yy=>?_⟩
  obtain ⟨rfl,rfl⟩:=yy
  exact hs i σ _ hlt p
 ·have e:i=n:=by omega
  exact .inl ⟨(show n≤i by omega),hd σ H (e ▸ p)⟩
def CompS (lo st:Int) (n k:Nat) (js:List Nat) (g:TG) (te:TE) (σ:St) (H1:Hp) (Q:VK):Prop:=∃W:Nat->Nat->List V->St->Hp->Prop,(∃m,W 0 m [] (compSt k js σ) H1)/\∀i m ys σ' H',W i m ys σ' H' ->
  ((Its lo st n).stop i H'/\∀p,H' p=none->Q (.ref p) (upd H' p (.lst ys))) \/
  ((Its lo st n).go i H'/\ys.length < sizeLine/\∃N:List V->St->Hp->Prop,(∀zs σ2 H2,N zs σ2 H2->∃m',m' < m/\W (i+1) m' zs σ2 H2)/\∀x H2,(Its lo st n).yld i H' x H2->g x σ' H2 λ σ3 H3=>te σ3 H3 λ v H4=>N (ys++[v]) σ3 H4)
theorem y6e {k:Nat}{js:List Nat}{ta:TA}{g:TG}{te:TE}{σ:St}{H:Hp}{Q:VK}:tComp (iRng3 ta) k js g te σ H Q=ta σ H λ vs H1=>∃i j c:Int,vs=[.int i,.int j,.int c]/\(c≠0/\c.natAbs < 1073741824/\Builtin.Range.small i j c=true)/\CompS i c (Builtin.Range.rangeSize i j c).toNat k js g te σ H1 Q:=rfl
open AutoSeq1 (wpAny_loadPart')
theorem z7r:fillsNumberSlot (.type "tuple") "mul" = pure false :=
 PySem.fillsNumberSlot_seq (id := "tuple.__mul__") (r:=some (.builtin "tuple.__rmul__")) F.slot_tuple_mul.lookup (by decide +kernel) (by rw [typeLookup_type,builtinLookup_eq_fast];kernel_rfl) (by decide +kernel)
theorem y1o:seqRepeat? (.type "tuple")=pure (some (.builtin "tuple.__mul__")):=by
 have e1:typeLookup (.type "tuple") "__rmul__" = pure (some (.builtin "tuple.__rmul__")):=by rw [typeLookup_type,builtinLookup_eq_fast];kernel_rfl
 unfold seqRepeat?
 rw [PySem.seqSlot_of (T := "tuple") (name := "__mul__") (id := "tuple.__mul__") F.slot_tuple_mul.lookup (by decide +kernel),PySem.seqSlot_of (T := "tuple") (name := "__rmul__") (id := "tuple.__rmul__") e1 (by decide +kernel)]
 rfl
theorem z8p (k:Int) (t:Tok) (l:Addr) (its:Array Value) (n:Nat) (dd:Option Addr) (sl:Array (Option Value)) :
  Meets (Builtin.«int.__rmul__» ⟨[.int k t,.ref l],[]⟩) (λ _ R s=>s.heap.get? l=some { cls:=.type "tuple",dict:=dd,data:=.seq its n,slots:=sl }/\R (.ok (.ret Value.notImplemented)) s) :=
 .of_wp λ prog w A R s h=>by obtain ⟨hp,g,d,tk,os⟩:=s;obtain ⟨hl,h⟩:=h;wp_walk;exact ⟨_,rfl,h⟩
theorem z9j (l:Addr) (its:Array Value) (n:Nat) (u:Tok) (dd:Option Addr) (sl:Array (Option Value)) :
  Meets (Builtin.«tuple.__mul__» ⟨[.ref l,.int 1 u],[]⟩) (λ _ R s=>s.heap.get? l=some { cls:=.type "tuple",dict:=dd,data:=.seq its n,slots:=sl }/\R (.ok (.ret (.ref l))) s) :=
 .of_wp λ prog w A R s h=>by
  obtain ⟨hp,g,d,tk,os⟩:=s;obtain ⟨hl,h⟩:=h
  have f1:=AutoSeq1.idx_int
  have c1:¬((decide ((1:Int) < -(2 ^ 63)) || decide ((1:Int) ≥ 2 ^ 63))=true):=by decide
  have c2:(its.isEmpty || (1:Int) == 1)=true:=by simp
  wp_walk using wpAny_loadPart' hl
  exact ⟨_,rfl,h⟩
theorem y1q (l:Addr) (its:Array Value) (n:Nat) (k:Int) (u:Tok) (dd:Option Addr) (sl:Array (Option Value)) (h0:k≤0) (h1:-(2 ^ 63)≤k) (ne:its.isEmpty=false) :
  Meets (Builtin.«tuple.__mul__» ⟨[.ref l,.int k u],[]⟩) (λ _ R s=>s.heap.get? l=some { cls:=.type "tuple",dict:=dd,data:=.seq its n,slots:=sl }/\R (.ok (.ret (.ref s.heap.objs.size))) { s with heap:=s.heap.push { cls:=.type "tuple",data:=.seq #[] } }) :=
 .of_wp λ prog w A R s h=>by
  obtain ⟨hp,g,d,tk,os⟩:=s;obtain ⟨hl,h⟩:=h
  have f1:=AutoSeq1.idx_int
  have c1:¬((decide (k < -(2 ^ 63)) || decide (k ≥ 2 ^ 63))=true):=by simp;omega
  have c2:¬(its.isEmpty || k == 1)=true:=by simp [ne];omega
  have c3:(decide (k≤0) || its.isEmpty)=true:=by simp [h0]
  wp_walk using wpAny_loadPart' hl
  rw [if_neg c1]
  wp_walk using wpAny_loadPart' hl
  rw [if_neg c2]
  dsimp only
  rw [if_pos c3]
  wp_walk
  exact ⟨_,rfl,h⟩
theorem z7s (l:Addr) (its:Array Value) (n:Nat) (k:Int) (u:Tok) (dd:Option Addr) (sl:Array (Option Value)) (h0:1 < k) (h1:k < 2 ^ 63) (ne:its.isEmpty=false) (hz:its.size * k.toNat≤sizeLine) :
  Meets (Builtin.«tuple.__mul__» ⟨[.ref l,.int k u],[]⟩) (λ _ R s=>s.heap.get? l=some { cls:=.type "tuple",dict:=dd,data:=.seq its n,slots:=sl }/\R (.ok (.ret (.ref s.heap.objs.size))) { s with heap:=s.heap.push { cls:=.type "tuple",data:=.seq ((List.replicate k.toNat its).foldl (·++·) #[]) } }) :=
 .of_wp λ prog w A R s h=>by
  obtain ⟨hp,g,d,tk,os⟩:=s;obtain ⟨hl,h⟩:=h
  have f1:=AutoSeq1.idx_int
  have ek:(its.size:Int) * k=((its.size * k.toNat:Nat):Int):=by rw [Int.natCast_mul];congr 1;omega
  have sl63:(sizeLine:Int)≤(2 ^ 63 - 1) / 8:=by rw [sizeLine_eq];decide
  have c1:¬((decide (k < -(2 ^ 63)) || decide (k ≥ 2 ^ 63))=true):=by simp;omega
  have c2:¬(its.isEmpty || k == 1)=true:=by simp [ne];omega
  have c3:¬(decide (k≤0) || its.isEmpty)=true:=by simp [ne];omega
  have c4:¬((its.size:Int) * k > (2 ^ 63 - 1) / 8):=by rw [ek];omega
  have c5:¬(Builtin.Tuple.tupleTooMany ((its.size:Int) * k)=true):=by
   unfold Builtin.Tuple.tupleTooMany
   rw [ek,decide_eq_true_eq];omega
  have c6:((List.replicate k.toNat its).foldl (·++·) #[]).size≤sizeLine:=by
   have e:∀(m:Nat) (a:Array Value),((List.replicate m its).foldl (·++·) a).size=a.size+m * its.size:=by
    intro m
    induction m with
    | zero=>intro a;simp
    | succ m ih=>intro a;rw [List.replicate_succ,List.foldl_cons,ih];simp [Nat.succ_mul];omega
   rw [e];simp;rw [Nat.mul_comm];exact hz
  wp_walk using wpAny_loadPart' hl
  rw [if_neg c1]
  wp_walk using wpAny_loadPart' hl
  rw [if_neg c2]
  dsimp only
  rw [if_neg c3]
  rw [if_neg c4]
  rw [if_neg c5]
  unfold Builtin.Tuple.tupleExact
  refine wpAny_bind (wpAny_newObj_type (wpAny_pure ?_) c6)
  exact ⟨_,rfl,h⟩
section
variable {X:Cx}
def rRepT:R2:=λ x y H Q=>∃a k xs,x=.ref a/\y=.int k/\H a=some (.tup xs)/\xs≠[]/\(0≤k/\k < 2 ^ 63)/\xs.length * k.toNat≤sizeLine/\(k=1->Q (.ref a) H)/\(k≠1->∀p,H p=none->Q (.ref p) (upd H p (.tup (List.replicate k.toNat xs).flatten)))
theorem x0y:OpR X (binaryOp .Mult) rRepT:=by
 intro pins s σ H x y v u Q I rx ry h
 obtain ⟨a,k,xs,rfl,rfl,hH,hx,⟨h1,h2⟩,hz,q1,q2⟩:=h
 cases rx
 obtain ⟨t,rfl⟩:=ry
 obtain ⟨its,r,pl,_⟩:=I.tuple (.of hH)
 obtain ⟨⟨c,dd,dt,sl⟩,g,hc,n,hd⟩:=id pl
 simp only at hc hd
 subst hc hd
 have hl:=r.length
 have ne:its.toArray.isEmpty=false:=by
  cases its with
  | nil=>exact absurd (r.nil_iff.mp rfl) hx
  | cons _ _=>rfl
 have hz':its.toArray.size * k.toNat≤sizeLine:=by rw [List.size_toArray,← hl];exact hz
 refine wpAny_binaryOp_repeat_ref (T := "tuple") (U := "int") (by decide) ⟨_,g,rfl⟩ (λ s'=>typeIs_int s' k t) z7r F.fills_int_mul F.slot_int_rmul y1o F.slot_int_index.lookup
  (call_meets F.slot_int_rmul (typeIs_int s k t) F.entry_int_rmul (F.args_int_rmul_2 _ _) (z8p k t a its.toArray n dd sl) ⟨g,rfl,⟨_,g,rfl⟩,?_⟩)
 by_cases e1:k=1
 ·subst e1
  exact call_meets F.slot_tuple_mul ⟨_,g,rfl⟩ F.entry_tuple_mul (F.args_tuple_mul_2 _ _) (z9j a its.toArray n t dd sl) ⟨g,.ref a,H,I,rfl,q1 rfl⟩
 have fl:∀(m:Nat) (b:List Value),(List.replicate m its.toArray).foldl (·++·) b.toArray=(b++(List.replicate m its).flatten).toArray:=by
  intro m
  induction m with
  | zero=>intro b;simp
  | succ m ih =>
   intro b
   rw [List.replicate_succ,List.foldl_cons,List.append_toArray,ih,List.replicate_succ,List.flatten_cons,List.append_assoc]
 have fin:∀bs:List Value,bs=(List.replicate k.toNat its).flatten->EP X pins σ Q (.ref s.heap.objs.size) { s with heap:=s.heap.push { cls:=.type "tuple",data:=.seq bs.toArray } }:=by
  rintro bs rfl
  refine ⟨.ref s.heap.objs.size,_,I.laid (t':=s.toks) (o:=.tup (List.replicate k.toNat xs).flatten) (λ b ob q=>Heap.get?_push_of_some _ q) (Nat.le_refl _) ?_,rfl,q2 e1 _ (I.hok.fresh (Nat.le_refl _))⟩
  exact ⟨by rw [x1g,Nat.mul_comm];exact hz,_,r.rep k.toNat,IsTup.new _ _⟩
 by_cases e0:k=0
 ·subst e0
  exact call_meets F.slot_tuple_mul ⟨_,g,rfl⟩ F.entry_tuple_mul (F.args_tuple_mul_2 _ _) (y1q a its.toArray n 0 t dd sl (by omega) (by omega) ne) ⟨g,fin [] rfl⟩
 ·refine call_meets F.slot_tuple_mul ⟨_,g,rfl⟩ F.entry_tuple_mul (F.args_tuple_mul_2 _ _) (z7s a its.toArray n k t dd sl (by omega) h2 ne hz') ⟨g,?_⟩
  have e:=fl k.toNat []
  rw [List.nil_append] at e
  show EP X pins σ Q (.ref s.heap.objs.size) { s with heap:=s.heap.push { cls:=.type "tuple",data:=.seq ((List.replicate k.toNat its.toArray).foldl (·++·) ([]:List Value).toArray) } }
  rw [e]
  exact fin _ rfl
end
section
variable {X:Cx}
def rCatS:R2:=λ x y H Q=>∃a b xs ys,x=.ref a/\y=.ref b/\H a=some (.tup xs)/\H b=some (.tup ys)/\xs.length+ys.length≤sizeLine/\∀r H',Same H H'->H' r=some (.tup (xs++ys))->Q (.ref r) H'
theorem z1s:OpR X (binaryOp .Add) rCatS:=by
 intro pins s σ H x y v u Q I rx ry h
 obtain ⟨a,b,xs,ys,rfl,rfl,ha,hb,hz,q⟩:=h
 refine x1a pins s σ H _ _ v u Q I rx ry ⟨a,b,xs,ys,rfl,rfl,.of ha,.of hb,hz,λ e=>?_,λ _ e=>?_,λ _ _ p hp=>?_⟩
 ·subst e;exact q b H (Same.refl _) hb
 ·subst e;exact q a H (Same.refl _) (by rw [List.append_nil];exact ha)
 ·exact q p _ (z0b hp _) z0f
def rSlTS:V->Option Int->Option Int->Hp->VK->Prop:=λ x lo hi H Q=>∃a xs,x=.ref a/\H a=some (.tup xs)/\¬(HT.sIx xs.length 0 lo=0/\HT.sIx xs.length xs.length hi=xs.length)/\∀r H',Same H H'->H' r=some (.tup (cutV xs lo hi))->Q (.ref r) H'
theorem z5a:SlR X rSlTS:=by
 intro pins s σ H x v vl vu lo hi sl Q I rx hs pl pu h
 obtain ⟨a,xs,e,ha,nw,q⟩:=h
 exact x2i pins s σ H x v vl vu lo hi sl Q I rx hs pl pu ⟨a,xs,e,.of ha,nw,λ p hp=>q p _ (z0b hp _) z0f⟩
end
theorem z2w {names:List (Str × NameKind)}{cl:List (Str × Addr)}(h:names.all (λ y=>match y.2 with | .cell=>(cl.lookup y.1).isSome | .free=>(cl.lookup y.1).isSome | _=>true)=true) :
  ∀x,(names.lookup x=some .cell\/names.lookup x=some .free)->∃c,cl.lookup x=some c:=by
 intro x hx
 have z:=List.all_eq_true.mp h
 rcases hx with hx | hx
 ·exact Option.isSome_iff_exists.mp (z _ (PySem.mem_of_lookup hx))
 ·exact Option.isSome_iff_exists.mp (z _ (PySem.mem_of_lookup hx))
theorem y9d {X:Cx}{scope:Scope}{cl:List (Str × Addr)}{x0:Str}{j0:Nat}(c0:Cap X scope cl x0 j0):∀(i:Nat) x j,[x0][i]?=some x->[j0][i]?=some j->Cap X scope cl x j
 | 0,_,_,h1,h2=>by cases h1;cases h2;exact c0
 | _+1,_,_,h1,_=>by cases h1
theorem x4o {X:Cx}{scope:Scope}{cl:List (Str × Addr)}{x0 x1:Str}{j0 j1:Nat}(c0:Cap X scope cl x0 j0) (c1:Cap X scope cl x1 j1):∀(i:Nat) x j,[x0,x1][i]?=some x->[j0,j1][i]?=some j->Cap X scope cl x j
 | 0,_,_,h1,h2=>by cases h1;cases h2;exact c0
 | 1,_,_,h1,h2=>by cases h1;cases h2;exact c1
 | _+2,_,_,h1,_=>by cases h1
section
variable {prog:Program}{w:World}{A:Around}{R:Result->Shared->Prop}{s:Shared}
theorem y0r {elt target iter cnd:Expr}{scope:Scope}{pos:Pos}{it acc:Value}{env:Env}(I:Nat->Shared->Prop)
  (turn:∀n s,I n s->wpAny (model prog w) A (pyNext it) (λ r s₁=>match r with
   | none=>R (.ok .next) s₁
   | some v=>wpAny (model prog w) A (letOwnedTupleGo target it v) (λ _ s₀=>wpAny (model prog w) A (assign target env v) (λ _ s₂=>wpAny (model prog w) A (isTrue cnd env (eval cnd env)) (λ b s₃ =>
     if b=true then wpAny (model prog w) A (eval elt env) (λ x s₄ =>
      wpAny (model prog w) A (call (.builtin "list.append") [acc,x]) (λ _ s₅=>∃m,m < n/\I m s₅) (λ _ _=>False) s₄) (λ _ _=>False) s₃
     else ∃m,m < n/\I m s₃)
     (λ _ _=>False) s₂) (λ _ _=>False) s₀) (λ _ _=>False) s₁) (λ _ _=>False) s)
  (n:Nat) (h:I n s) :
  codeAny (model prog w) A (.compLoop (.ListComp elt [⟨target,iter,[cnd],0⟩] scope pos) 0 it acc env) R s:=by
 refine codeAny_loop rfl I (λ n s hI=>?_) n h
 show wpAny _ _ ((compTurn (.ListComp elt [⟨target,iter,[cnd],0⟩] scope pos) 0 it acc env).onRaise (λ x=>do noteFrame x env;theTreesLotGoes x)) _ _ s
 refine wpAny_noted ?_
 rw [compTurn_list]
 refine wpAny_bind (wpAny_standAt (wpAny_bind (wpAny_mono (turn n s hI) (λ r s₁ h₁=>?_) λ _ _ h'=>h'.elim)))
 cases r with
 | none=>exact wpAny_pure h₁
 | some v =>
  refine wpAny_bind (wpAny_mono h₁ (λ _ s₀ h₀=>?_) λ _ _ h'=>h'.elim)
  refine wpAny_bind (wpAny_mono h₀ (λ _ s₂ h₂=>?_) λ _ _ h'=>h'.elim)
  refine wpAny_bind (wpAny_mono (wpAny_tests_one h₂) (λ ok s₃ h₃=>?_) λ _ _ h'=>h'.elim)
  cases ok with
  | false=>exact wpAny_pure ⟨rfl,h₃⟩
  | true=>exact wpAny_bind (wpAny_bind (wpAny_mono h₃ (λ x s₄ h₄=>wpAny_bind (wpAny_mono h₄ (λ _ s₅ h₅=>wpAny_pure (wpAny_pure ⟨rfl,h₅⟩)) λ _ _ z=>z.elim)) λ _ _ z=>z.elim))
end
def tCompI (wi:TI) (k:Nat) (js:List Nat) (g:TG) (tc:TT) (te:TE):TE:=λ σ H Q=>wi σ H λ J H1 =>
 ∃W:Nat->Nat->List V->St->Hp->Prop,(∃m,W 0 m [] (compSt k js σ) H1)/\∀i m ys σ' H',W i m ys σ' H' ->
  (J.stop i H'/\∀p,H' p=none->Q (.ref p) (upd H' p (.lst ys))) \/
  (J.go i H'/\ys.length < sizeLine/\∃N:List V->St->Hp->Prop,(∀zs σ2 H2,N zs σ2 H2->∃m',m' < m/\W (i+1) m' zs σ2 H2) /\
   ∀x H2,J.yld i H' x H2->g x σ' H2 λ σ3 H3=>tc σ3 H3 λ b H4=>if b=true then te σ3 H4 λ v H5=>N (ys++[v]) σ3 H5 else N ys σ3 H4)
theorem z6k {X:Cx}{elt tg iter cnd:Expr}{scope:Scope}{cl:List (Str × Addr)}{pos:Pos}{own fv:List Str}{js:List Nat}{wi:TI}{g:TG}{tc:TT}{te:TE}
    (hc:X.calm=true) (hi:PI X tg iter wi) (hclos:closureFor scope X.env=pure cl) (hcell:∀y∈scope.names,y.2≠.cell) (hkind:scope.kind=.function)
    (hnames:∀y∈scope.names,y.2=.local->scope.names.lookup y.1=some .local)
    (hcl:∀x c,cl.lookup x=some c->X.env.cells.lookup x=some c)
    (hhas:∀x,((relabel scope X.env).names.lookup x=some .cell\/(relabel scope X.env).names.lookup x=some .free)->∃c,cl.lookup x=some c)
    (hlen:js.length=fv.length) (hcap:∀(i:Nat) x j,fv[i]?=some x->js[i]?=some j->Cap X scope cl x j)
    (hg:∀(C:Addr) (ex:List Addr) (s:Shared) (H:Hp),PG (cxComp X (own++fv) scope cl C ex s H) tg g)
    (he:∀(C:Addr) (ex:List Addr) (s:Shared) (H:Hp),PE (cxComp X (own++fv) scope cl C ex s H) elt te)
    (ht:∀(C:Addr) (ex:List Addr) (s:Shared) (H:Hp),PT (cxComp X (own++fv) scope cl C ex s H) cnd tc)
    (hs:∀x,foldedSetIterable iter X.env x=pure x)
    {pins:List (Addr × Obj)}{s:Shared}{σ:St}{H:Hp}{Q:VK}{use:Option (Value->Sem Unit)}{QQ:Value->Shared->Prop}{fpos:Pos}(I:Inv X pins σ H s) (h:tCompI wi own.length js g tc te σ H Q)
    (fin:∀(a C:Addr) (s5:Shared) (H5:Hp) (fl:Flow),Inv X pins σ H5 s5->H5 C=none->C≠X.env.locals->X.s₀.heap.objs.size≤C->(∀x c,X.env.cells.lookup x=some c->c≠C)->(∀p∈X.pn++pins,p.1≠C)->(∃m,s5.heap.Ns C m)->Q (.ref a) H5->compPost (model X.prog X.w) X.A X.xe use QQ (.ref a) C (.ok fl) s5) :
    wpAny (model X.prog X.w) X.A (comprehension (.ListComp elt [⟨tg,iter,[cnd],0⟩] scope pos) scope X.env fpos (newList []) false (firstIter [⟨tg,iter,[cnd],0⟩] X.env) use) QQ X.xe s:=by
  refine wpAny_comprehension_free (use:=use) rfl hs hclos hkind hnames (thn (hi pins s σ H _ I h) λ v s1 h1=>thn h1 λ itv s2 h2=>?_)
  obtain ⟨it,fp,tn,J,H2,e,I2,T,st2,f2,W,⟨m0,w0⟩,turn⟩:=h2
  subst e
  refine wpAny_newObj_type (wpAny_newFunctionEnv hcell (by intro y hy;simp at hy) (λ h₁ hns₁ hsb₁=>?_) hkind)
  dsimp only at hns₁ hsb₁ ⊢
  generalize hHp:s2.heap.push { cls:=.type "list",dict:=none,data:=.seq ([]:List Value).toArray }=hL at hns₁ hsb₁ ⊢
  have hC:hL.objs.size=s2.heap.objs.size+1:=by rw [← hHp,Heap.size_push]
  have hDC:s2.heap.objs.size≠hL.objs.size:=by rw [hC];exact Nat.ne_of_lt (Nat.lt_succ_self _)
  have ltC:∀b,b < s2.heap.objs.size->b≠hL.objs.size:=λ b hb=>by rw [hC];exact Nat.ne_of_lt (Nat.lt_succ_of_lt hb)
  have old:∀b o,s2.heap.get? b=some o->h₁.get? b=some o:=λ b o e=>hsb₁.extBut b o (ltC b (Heap.lt_size e)) (Heap.get?_push_of_some _ (hHp ▸ Heap.get?_push_of_some _ e))
  have hacc:h₁.get? s2.heap.objs.size=some { cls:=.type "list",data:=.seq ([]:List Value).toArray 0 }:=hsb₁.extBut _ _ hDC (Heap.get?_push_of_some _ (hHp ▸ Heap.get?_push_size _ rfl))
  have hfresh:∀a,s2.heap.objs.size≤a->H2 a=none:=λ a ha=>I2.hok.fresh ha
  have fpL:∀b∈fp,b < s2.heap.objs.size:=λ b hb=>by
    obtain ⟨o,e,_⟩:=T.obj _ _ st2 b hb
    exact Heap.lt_size e
  have cellL:∀x c,cl.lookup x=some c->c < s2.heap.objs.size:=λ x c e=>by
    obtain ⟨v,q⟩:=I2.cell x c (hcl x c e)
    exact q.lt
  have pinL:∀p∈X.pn++pins,p.1 < s2.heap.objs.size:=λ p hp=>Heap.lt_size (I2.pin p hp).1
  generalize hX:cxComp X (own++fv) scope cl hL.objs.size fp s2 H2=Y
  have ok:Y.Ok:=by
    subst hX
    refine ⟨I2.ok.mod,hkind,I2.ok.glob,I2.ok.blt,by show s2.heap.objs.size≤hL.objs.size;omega,λ x y c h1 h2=>I2.ok.inj x y c (hcl x c h1) (hcl y c h2),λ x hx=>hhas x hx,
      λ x c hf=>absurd hf (by show ¬(false=true);decide),I2.ok.hd,I2.ok.frames,.inl rfl,λ b hb=>⟨ltC b (fpL b hb),λ x c e=>(f2 b hb).2.2.2.2.1 x c (hcl x c e)⟩,I2.bs,Nat.le_trans I2.ok.bsz I2.sz,λ b o e hb=>?_,λ b hb hz=>?_,I2.stack,I2.stkFree⟩
    · rcases (f2 b hb).2.2.2.1 with z | z
      · exact I2.ok.noex b o e z
      · exact absurd (Nat.lt_of_lt_of_le (Heap.lt_size e) (Nat.le_trans I2.ok.bsz z)) (Nat.lt_irrefl _)
    · rcases List.mem_cons.mp (I2.stkSub b hz) with z | z
      · exact (f2 b hb).2.1 z
      · exact (f2 b hb).2.2.1 z
  have hYl:Y.env.locals=hL.objs.size:=by subst hX;rfl
  have hYs:Y.s₀=s2:=by subst hX;rfl
  have hYH:Y.H₀=H2:=by subst hX;rfl
  have hYx:Y.ex=fp:=by subst hX;rfl
  have hYf:Y.fs=frs X.stack:=by subst hX;rfl
  have hYc:Y.env.cells=cl:=by subst hX;rfl
  have hYp:Y.pn=X.pn:=by subst hX;rfl
  have pinOk:∀p∈X.pn++pins,s2.heap.get? p.1=some p.2/\H2 p.1=none/\p.1≠hL.objs.size/\p.1 ∉ frs X.stack/\∀v,p.2.data≠.cell v:=λ p hp=>by
    obtain ⟨e,n,ne,nf,d⟩:=I2.pin p hp
    refine ⟨e,n,ltC _ (Heap.lt_size e),λ z=>?_,d⟩
    rcases List.mem_cons.mp (I2.stkSub _ z) with q | q
    · exact ne q
    · exact nf q
  have stkL:∀b∈frs X.stack,b < s2.heap.objs.size:=λ b hb=>by
    obtain ⟨_,o,ho,_⟩:=I2.stack.mem hb
    exact Heap.lt_size ho
  have I3:Inv Y (pins++[(s2.heap.objs.size,{ cls:=.type "list",data:=.seq ([]:List Value).toArray 0 })]) (compSt own.length js σ) H2 { s2 with heap:=h₁,toks:=s2.toks+([]:List (Str × Value)).length }:=by
    refine ⟨ok,by subst hX;rfl,I2.bare,by rw [hYH,hYs];exact Un.kept old,⟨_,by rw [hYl];exact hns₁,λ i x v e1 e2 e3=>?_⟩,λ x c e=>?_,by rw [hYl];exact hfresh _ (by omega),λ x c e=>?_,λ p hp=>?_,by subst hX;exact I2.hok.kept old,?_⟩
    · subst hX
      have e1:(own++fv)[i]?=some x:=e1
      unfold compSt at e2
      by_cases hi:i < own.length
      · rw [List.getElem?_append_left (by simpa using hi),List.getElem?_replicate] at e2
        split at e2<;>cases e2
      · rw [List.getElem?_append_right (by simpa using hi),List.length_replicate,List.getElem?_map] at e2
        rw [List.getElem?_append_right (by omega)] at e1
        cases ej:js[i - own.length]? with
        | none=>rw [ej] at e2;cases e2
        | some j =>
          rw [ej] at e2
          have cp:=hcap _ x j e1 ej
          have e2':σ[j]?=some (some v):=z8o (Option.some.inj e2)
          obtain ⟨m,hn,hl⟩:=I2.loc
          obtain ⟨u,r,l⟩:=hl j x v cp.at_ e2' (cp.out.elim (λ z=>.inr (.inl z)) λ z=>.inr (.inr z))
          refine ⟨u,r,.inr ⟨cp.inn,?_⟩⟩
          obtain ⟨c,ec⟩:=hhas x cp.inn
          rcases l with ⟨k,_⟩ | ⟨_,c',ec',z⟩
          · have k:X.env.scope.names.lookup x=some .local:=k
            rcases cp.out with q | q<;>rw [q] at k<;>cases k
          · rw [hcl x c ec] at ec'
            cases ec'
            obtain ⟨o,ho,hd⟩:=z
            exact ⟨c,ec,o,old _ _ ho,hd⟩
    · rw [hYc] at e
      obtain ⟨v,o,ho,hd⟩:=I2.cell x c (hcl x c e)
      exact ⟨v,o,old _ _ ho,hd⟩
    · rw [hYc] at e
      exact I2.freeC x c (hcl x c e)
    · rw [hYp] at hp
      rw [hYl,hYf]
      rcases List.mem_append.mp hp with z | z
      · obtain ⟨a,b,c,d,f⟩:=pinOk p (List.mem_append_left _ z)
        exact ⟨old _ _ a,b,c,d,f⟩
      · rcases List.mem_append.mp z with z | z
        · obtain ⟨a,b,c,d,f⟩:=pinOk p (List.mem_append_right _ z)
          exact ⟨old _ _ a,b,c,d,f⟩
        · have e:p=_:=List.mem_singleton.mp z
          subst e
          exact ⟨hacc,hfresh _ (Nat.le_refl _),hDC,λ z=>absurd (stkL _ z) (Nat.lt_irrefl _),λ v z=>by cases z⟩
    · subst hX
      unfold compSt
      show _=(own++fv).length
      simp [hlen]
  have hYprog:Y.prog=X.prog:=by subst hX;rfl
  have hYw:Y.w=X.w:=by subst hX;rfl
  have hYK:Y.K=X.K:=by subst hX;rfl
  have hYA:Y.A=X.A:=by subst hX;rfl
  have hYcalm:Y.calm=true:=by subst hX;exact hc
  have hYxe:Y.xe=λ _ _=>False:=by subst hX;rfl
  have hYenv:Y.env=compEnvC scope cl hL.objs.size X.env:=by subst hX;rfl
  have hg':=hg hL.objs.size fp s2 H2
  have he':=he hL.objs.size fp s2 H2
  have ht':=ht hL.objs.size fp s2 H2
  rw [hX] at hg' he' ht'
  have fpOk:∀ {H':Hp}{pn:List (Addr × Obj)},(∀b∈fp,H' b=none)->(∀p∈pn,p.1=s2.heap.objs.size\/p∈pins)->∀b∈fp,FpOk Y pn H' b:=λ hn hp b hb=>by
    refine ⟨hn b hb,by rw [hYl];exact ltC b (fpL b hb),?_,.inl (by rw [hYx];exact hb),λ x c e=>?_,λ p hq=>?_⟩
    · rw [hYf]
      intro hz
      rcases List.mem_cons.mp (I2.stkSub b hz) with z | z
      · exact (f2 b hb).2.1 z
      · exact (f2 b hb).2.2.1 z
    · rw [hYc] at e
      exact (f2 b hb).2.2.2.2.1 x c (hcl x c e)
    · rw [hYp] at hq
      rcases List.mem_append.mp hq with z | z
      · exact (f2 b hb).2.2.2.2.2 p (List.mem_append_left _ z)
      · rcases hp p z with q | q
        · rw [q];exact Ne.symm (Nat.ne_of_lt (fpL b hb))
        · exact (f2 b hb).2.2.2.2.2 p (List.mem_append_right _ q)
  have loop:∀s₃:Shared,s₃={ s2 with heap:=h₁,toks:=s2.toks+([]:List (Str × Value)).length } ->
      codeAny (model X.prog X.w) X.A (.compLoop (.ListComp elt [⟨tg,iter,[cnd],0⟩] scope pos) 0 (.ref it) (.ref s2.heap.objs.size) (compEnvC scope cl hL.objs.size X.env))
        (compPost (model X.prog X.w) X.A X.xe use QQ (.ref s2.heap.objs.size) hL.objs.size) s₃:=by
    rintro s₃ rfl
    refine y0r (λ n s'=>∃i ys its k σ' H',Inv Y (pins++[(s2.heap.objs.size,{ cls:=.type "list",data:=.seq (its:List Value).toArray k })]) σ' H' s'/\tn i s'.heap/\(∀b∈fp,H' b=none)/\Vals ys its/\ys.length≤sizeLine/\W i n ys σ' H') ?_ m0
      ⟨0,[],[],0,_,H2,I3,T.keep _ _ _ st2 λ b _ o e=>old b o e,λ b hb=>(f2 b hb).1,.nil,Nat.zero_le _,w0⟩
    rintro n s4 ⟨i,ys,its,k,σ4,H4,I4,st4,fr4,rv,hz,w4⟩
    have pinD:∀p∈(pins++[(s2.heap.objs.size,({ cls:=.type "list",data:=.seq (its:List Value).toArray k }:Obj))]),p.1=s2.heap.objs.size\/p∈pins:=λ p hp=>by
      rcases List.mem_append.mp hp with z | z
      · exact .inr z
      · rw [List.mem_singleton.mp z];exact .inl rfl
    have F4:=fpOk (pn:=pins++[(s2.heap.objs.size,{ cls:=.type "list",data:=.seq (its:List Value).toArray k })]) fr4 pinD
    rcases turn i n ys σ4 H4 w4 with ⟨stop,qn⟩ | ⟨go,hlt,N,hN,step⟩
    · have d:=T.done Y hYprog hYw hYK hYcalm i _ s4 σ4 H4 (λ _ _=>False) I4 F4 st4 stop
      rw [hYA] at d
      refine thn d λ r s5 ⟨hr,I5⟩=>?_
      subst hr
      obtain ⟨m,hn,_⟩:=id I5.loc
      rw [hYl] at hn
      have hD:=I5.pin (s2.heap.objs.size,{ cls:=.type "list",data:=.seq (its:List Value).toArray k }) (List.mem_append_right _ (List.mem_append_right _ (List.mem_singleton.mpr rfl)))
      have hDn:H4 s2.heap.objs.size=none:=hD.2.1
      have kp:∀b o,b≠hL.objs.size->s5.heap.get? b=some o->s5.heap.get? b=some o:=λ b o _ e=>e
      have B:=I5.base
      rw [hYH,hYs,hYx,hYf] at B
      have s2C:∀b o,s2.heap.get? b=some o->b≠hL.objs.size:=λ b o e=>ltC b (Heap.lt_size e)
      have trk:∀b u,H4 b=some u->b≠s2.heap.objs.size:=λ b u e z=>by rw [z,hDn] at e;cases e
      have trC:∀b u,H4 b=some u->b≠hL.objs.size:=λ b u e z=>by
        have:=I5.free
        rw [hYl,← z,e] at this;cases this
      have hH2:∀b u,H2 b=some u->b≠s2.heap.objs.size:=λ b u e z=>by rw [z,hfresh _ (Nat.le_refl _)] at e;cases e
      have IX:Inv X pins σ (upd H4 s2.heap.objs.size (.lst ys)) s5:=by
       refine I2.call' (ch:=fp) (by show s5.os=s2.os;rw [I5.os,hYs]) ⟨λ b o e n hb hx=>kp b o (s2C b o e) (B.keep b o e n hb hx),λ b o e n hb hx=>?_,λ b o e n hx=>?_,λ b o e hx=>?_,λ b xs e=>?_,λ b o u e=>?_,λ b ps e=>?_⟩ ?_ I5.bare (λ b hb=>⟨(f2 b hb).2.2.2.1,(f2 b hb).2.1,(f2 b hb).2.2.2.2.1,(f2 b hb).2.2.2.2.2⟩)
       · obtain ⟨sl,q⟩:=B.slot b o e n hb hx
         exact ⟨sl,kp b _ (s2C b o e) q⟩
       · rw [z1a (Nat.ne_of_lt (Heap.lt_size e))]
         exact B.free b o e n hx
       · obtain ⟨o',q⟩:=B.there b o e hx
         exact ⟨o',kp b o' (s2C b o e) q⟩
       · rw [z1a (hH2 b _ e)]
         exact B.tups b xs e
       · rw [z1a (hH2 b _ e)]
         exact B.frzs b o u e
       · obtain ⟨more,q⟩:=B.tbls b ps e
         exact ⟨more,by rw [z1a (hH2 b _ e)];exact q⟩
       · intro b u e
         by_cases hb:b=s2.heap.objs.size
         · subst hb
           rw [z0f] at e
           cases e
           exact ⟨hz,its,k,rv,kp _ _ hDC hD.1⟩
         · rw [z1a hb] at e
           have okb:=I5.hok b u e
           rw [hYprog,hYw] at okb
           refine okb.stay (λ c v hc q=>kp c v ?_ q) (λ c q=>by rw [z1a (trk c _ q)];exact q) λ c xs q=>by rw [z1a (trk c _ q)];exact q
           rcases hc with z | z
           · rw [z];exact trC b u e
           · exact trC c _ z
      have zC:upd H4 s2.heap.objs.size (.lst ys) hL.objs.size=none:=by
        rw [z1a (Ne.symm hDC)]
        have:=I5.free
        rwa [hYl] at this
      exact fin s2.heap.objs.size hL.objs.size s5 _ _ IX zC (Ne.symm (ltC _ I2.lt)) (by have:=I2.sz;omega) (λ x c e=>ltC c (by obtain ⟨v,q⟩:=I2.cell x c e;exact q.lt)) (λ p hp=>ltC _ (pinL p hp)) ⟨m,hn⟩ (qn _ hDn)
    · have d:=T.item Y hYprog hYw hYK hYcalm i _ s4 σ4 H4 (λ _ _=>False) I4 F4 st4 go
      rw [hYA] at d
      refine thn d λ r s5 ⟨u,hr,h5⟩=>?_
      subst hr
      refine thn h5 λ _ s6 ⟨x,H6,I6,r6,y6,st6,fr6⟩=>?_
      have I6':=I6.pinned (fpOk (pn:=pins++[(s2.heap.objs.size,{ cls:=.type "list",data:=.seq (its:List Value).toArray k })]) fr6 pinD) (T.obj _ _ st6)
      have d7:=hg' _ s6 σ4 H6 x u _ I6' r6 (step x H6 y6)
      rw [hYprog,hYw,hYA,hYxe,hYenv] at d7
      refine thn d7 λ _ s7 ⟨σ7,H7,I7,q7⟩=>?_
      have dt:=ht' _ s7 σ7 H7 _ I7 q7
      rw [hYprog,hYw,hYA,hYxe,hYenv] at dt
      refine thn dt λ bb s7 ⟨H7,I7,q7⟩=>?_
      cases bb with
      | false =>
        obtain ⟨m',hm,w8⟩:=hN _ _ _ q7
        have tn8:tn (i+1) s7.heap:=T.keep _ _ _ st6 λ b hb o e=>(I7.pin (b,o) (List.mem_append_right _ (List.mem_append_right _ (z2e hb e)))).1
        have fr8:∀b∈fp,H7 b=none:=λ b hb=>by
          obtain ⟨o,e,d⟩:=T.obj _ _ st6 b hb
          exact (I7.pin (b,o) (List.mem_append_right _ (List.mem_append_right _ (z2e hb e)))).2.1
        exact ⟨m',hm,i+1,ys,its,k,σ7,H7,I7.unpinned,tn8,fr8,rv,hz,w8⟩
      | true =>
        have q7:te σ7 H7 _:=q7
        show wpAny _ _ (eval elt _) _ _ s7
        have d8:=he' _ s7 σ7 H7 _ I7 q7
        rw [hYprog,hYw,hYA,hYxe,hYenv] at d8
        refine thn d8 λ u8 s8 ⟨v8,H8,I8,r8,n8⟩=>?_
        obtain ⟨m',hm,w8⟩:=hN _ _ _ n8
        have pD:=I8.pin (s2.heap.objs.size,{ cls:=.type "list",data:=.seq (its:List Value).toArray k }) (List.mem_append_right _ (List.mem_append_left _ (List.mem_append_right _ (List.mem_singleton.mpr rfl))))
        have tn8:tn (i+1) s8.heap:=T.keep _ _ _ st6 λ b hb o e=>(I8.pin (b,o) (List.mem_append_right _ (List.mem_append_right _ (z2e hb e)))).1
        have fr8:∀b∈fp,H8 b=none:=λ b hb=>by
          obtain ⟨o,e,d⟩:=T.obj _ _ st6 b hb
          exact (I8.pin (b,o) (List.mem_append_right _ (List.mem_append_right _ (z2e hb e)))).2.1
        have J8:Inv Y pins σ7 H8 s8:=I8.unpinned.unpinned
        have eD:s8.heap.get? s2.heap.objs.size=some { cls:=.type "list",data:=.seq its.toArray k }:=pD.1
        refine call_meets F.slot_list_append ⟨_,eD,rfl⟩ F.entry_list_append (F.args_list_append_2 _ _) (PySem.list_append _ its.toArray k u8 (by rw [List.size_toArray,← rv.length];omega)) ⟨eD,?_⟩
        have other:∀b o,b≠s2.heap.objs.size->s8.heap.get? b=some o->(s8.heap.update s2.heap.objs.size (Obj.mapSeq λ xs=>xs.push u8)).get? b=some o:=λ b o nb e=>(Heap.get?_update_other s8.heap _ (Ne.symm nb)).trans e
        have J9:=J8.turned (t':=s8.toks) (it:=s2.heap.objs.size) (h':=s8.heap.update s2.heap.objs.size (Obj.mapSeq λ xs=>xs.push u8)) other pD.2.1 (by rw [hYl];exact hDC) (.inr (by rw [hYs];exact Nat.le_refl _))
          (λ x c e=>by rw [hYc] at e;exact Nat.ne_of_lt (cellL x c e)) (λ p hp=>by rw [hYp] at hp;exact Nat.ne_of_lt (pinL p hp))
        have ep:(its.toArray.push u8)=(its++[u8]).toArray:=by simp
        obtain ⟨kk,upD⟩:∃kk,(s8.heap.update s2.heap.objs.size (Obj.mapSeq λ xs=>xs.push u8)).get? s2.heap.objs.size=some { cls:=.type "list",data:=.seq (its++[u8]).toArray kk }:=by
          have z:=PySem.IsL.update eD (λ xs=>xs.push u8)
          rw [ep] at z
          exact ⟨_,z⟩
        refine ⟨m',hm,i+1,ys++[v8],its++[u8],kk,σ7,H8,J9.pins_of λ p hp=>?_,T.keep _ _ _ tn8 λ b hb o e=>other b o (Nat.ne_of_lt (fpL b hb)) e,fr8,rv.append (.cons r8 .nil),?_,w8⟩
        · rcases List.mem_append.mp hp with z | z
          · exact J9.pin p (List.mem_append_right _ z)
          · rw [List.mem_singleton.mp z]
            exact ⟨upD,pD.2.1,by rw [hYl];exact hDC,by rw [hYf];exact λ z=>absurd (stkL _ z) (Nat.lt_irrefl _),λ v z=>by cases z⟩
        · rw [List.length_append,List.length_singleton];omega
  exact codeAny_compStart_list (loop _ rfl) (T.self _ 0 _ _ _ (T.keep _ _ _ st2 λ b _ o e=>old b o e) (loop _ rfl))
theorem y7l {X:Cx}{elt tg iter cnd:Expr}{scope:Scope}{cl:List (Str × Addr)}{pos:Pos}{own fv:List Str}{js:List Nat}{wi:TI}{g:TG}{tc:TT}{te:TE}
  (hc:X.calm=true) (hi:PI X tg iter wi) (hclos:closureFor scope X.env=pure cl) (hcell:∀y∈scope.names,y.2≠.cell) (hkind:scope.kind=.function)
  (hnames:∀y∈scope.names,y.2=.local->scope.names.lookup y.1=some .local)
  (hcl:∀x c,cl.lookup x=some c->X.env.cells.lookup x=some c)
  (hhas:∀x,((relabel scope X.env).names.lookup x=some .cell\/(relabel scope X.env).names.lookup x=some .free)->∃c,cl.lookup x=some c)
  (hlen:js.length=fv.length) (hcap:∀(i:Nat) x j,fv[i]?=some x->js[i]?=some j->Cap X scope cl x j)
  (hg:∀(C:Addr) (ex:List Addr) (s:Shared) (H:Hp),PG (cxComp X (own++fv) scope cl C ex s H) tg g)
  (he:∀(C:Addr) (ex:List Addr) (s:Shared) (H:Hp),PE (cxComp X (own++fv) scope cl C ex s H) elt te)
  (ht:∀(C:Addr) (ex:List Addr) (s:Shared) (H:Hp),PT (cxComp X (own++fv) scope cl C ex s H) cnd tc)
  (hs:∀x,foldedSetIterable iter X.env x=pure x:=by intro _;rfl) :
  PE X (.ListComp elt [⟨tg,iter,[cnd],0⟩] scope pos) (tCompI wi own.length js g tc te):=by
 intro pins s σ H Q I h
 rw [eval_ListComp]
 refine z6k (use:=none) (QQ:=EP X pins σ Q) hc hi hclos hcell hkind hnames hcl hhas hlen hcap hg he ht hs I h λ a C s5 H5 fl I5 zC zL zS zc zp ⟨m,hn⟩ q=>⟨m,hn,λ h' sc=>?_⟩
 exact ⟨.ref a,H5,I5.turned (t':=s5.toks) (it:=C) (λ d o nd e=>sc.extBut d o nd e) zC zL (.inr zS) zc zp,rfl,q⟩
section
variable {pg:Program}{wd:World}{B:Around}{X0:Value->Shared->Prop}{s0:Shared}
end
def Ite (K:W.Frag) (a:Addr):It:=⟨λ i H=>∃xs x,SqT K H a xs/\xs[i]?=some x,
 λ i H v H'=>∃T x,v=.ref T/\H T=none/\H'=upd H T (.tup [.int i,x])/\∀xs,SqT K H a xs->xs[i]?=some x,λ i H=>∃xs,SqT K H a xs/\xs.length≤i⟩
section
variable {X:Cx}{es:List Expr}{x1:Nat}{pp:Pos}
def iEnum (K:W.Frag) (te:TE):TI:=λ σ H R=>te σ H λ v H1=>∃a xs,v=.ref a/\SqT K H1 a xs/\R (Ite K a) H1
end
def CompE (K:PySem.W.Frag) (k:Nat) (js:List Nat) (g:TG) (te:TE) (σ:St) (v:V) (H1:Hp) (Q:VK):Prop:=∃a xs,v=.ref a/\SqT K H1 a xs/\∃W:Nat->Nat->List V->St->Hp->Prop,(∃m,W 0 m [] (compSt k js σ) H1)/\∀i m zs σ' H',W i m zs σ' H' ->
  ((Ite K a).stop i H'/\∀p,H' p=none->Q (.ref p) (upd H' p (.lst zs))) \/
  ((Ite K a).go i H'/\zs.length < sizeLine/\∃N:List V->St->Hp->Prop,(∀zs σ2 H2,N zs σ2 H2->∃m',m' < m/\W (i+1) m' zs σ2 H2)/\∀x H2,(Ite K a).yld i H' x H2->g x σ' H2 λ σ3 H3=>te σ3 H3 λ v H4=>N (zs++[v]) σ3 H4)
theorem y9c {K:W.Frag}{k:Nat}{js:List Nat}{tx:TE}{g:TG}{te:TE}{σ:St}{H:Hp}{Q:VK}:tComp (iEnum K tx) k js g te σ H Q=tx σ H λ v H1=>CompE K k js g te σ v H1 Q:=rfl
theorem CompE.mk {K:W.Frag}{a:Addr}{xs:List V}{k:Nat}{js:List Nat}{g:TG}{te:TE}{Q:VK}{σ:St}{H:Hp}(h1:SqT K H a xs) (Pv:Nat->List V->St->Hp->Prop) (h0:Pv 0 [] (compSt k js σ) H) (hl:∀i zs σ H,i≤xs.length->Pv i zs σ H->SqT K H a xs/\zs.length < sizeLine)
  (hs:∀i x zs σ H T,xs[i]?=some x->Pv i zs σ H->H T=none->g (.ref T) σ (upd H T (.tup [.int i,x])) λ σ3 H3=>te σ3 H3 λ v H4=>Pv (i+1) (zs++[v]) σ3 H4) (hz:∀zs σ H,Pv xs.length zs σ H->∀p,H p=none->Q (.ref p) (upd H p (.lst zs))) :
  CompE K k js g te σ (.ref a) H Q:=by
 refine ⟨a,xs,rfl,h1,λ i m zs σ H=>m=xs.length - i/\i≤xs.length/\Pv i zs σ H,⟨_,rfl,Nat.zero_le _,h0⟩,?_⟩
 rintro i m zs σ H ⟨rfl,hi,p⟩
 obtain ⟨k1,k2⟩:=hl i zs σ H hi p
 by_cases hlt:i < xs.length
 ·refine .inr ⟨⟨xs,_,k1,List.getElem?_eq_getElem hlt⟩,k2,Pv (i+1),λ zs' σ' H' p'=>⟨xs.length - (i+1),by omega,rfl,hlt,p'⟩,λ v H' yy=>?_⟩
  obtain ⟨T,x,rfl,hT,rfl,ex⟩:=yy
  exact hs i x zs σ H T (ex xs k1) p hT
 ·have e:i=xs.length:=by omega
  exact .inl ⟨⟨xs,k1,by omega⟩,hz zs σ H (e ▸ p)⟩
def CompEI (K:PySem.W.Frag) (k:Nat) (js:List Nat) (g:TG) (tc:TT) (te:TE) (σ:St) (v:V) (H1:Hp) (Q:VK):Prop:=∃a xs,v=.ref a/\SqT K H1 a xs/\∃W:Nat->Nat->List V->St->Hp->Prop,(∃m,W 0 m [] (compSt k js σ) H1)/\∀i m zs σ' H',W i m zs σ' H' ->
  ((Ite K a).stop i H'/\∀p,H' p=none->Q (.ref p) (upd H' p (.lst zs))) \/
  ((Ite K a).go i H'/\zs.length < sizeLine/\∃N:List V->St->Hp->Prop,(∀zs σ2 H2,N zs σ2 H2->∃m',m' < m/\W (i+1) m' zs σ2 H2)/\∀x H2,(Ite K a).yld i H' x H2->g x σ' H2 λ σ3 H3=>tc σ3 H3 λ b H4=>if b=true then te σ3 H4 λ v H5=>N (zs++[v]) σ3 H5 else N zs σ3 H4)
theorem y6h {K:W.Frag}{k:Nat}{js:List Nat}{tx:TE}{g:TG}{tc:TT}{te:TE}{σ:St}{H:Hp}{Q:VK}:tCompI (iEnum K tx) k js g tc te σ H Q=tx σ H λ v H1=>CompEI K k js g tc te σ v H1 Q:=rfl
end L2
namespace L2
open PySem PySem.Spec PyProof.Rows PySem.W PySem.Calls
def catchN (K:W.Frag):List (Addr × TS)->Value->(TS->Prop)->Prop
 | [],_,_=>False
 | (C,ts)::r,c,k=>(W.exmOne K c (.ref C)=some true/\k ts)\/(W.exmOne K c (.ref C)=some false/\catchN K r c k)
def caughtN (K:W.Frag) (cs:List (Addr × TS)) (D:Ends):St->XK:=λ σ1 c _ H1=>catchN K cs c λ ts=>ts D σ1 H1
def tTryN (K:W.Frag) (cs:List (Addr × TS)) (tb:(St->XK)->TS):TS:=λ D σ H=>tb (caughtN K cs D) D σ H
inductive Clauses (X:Cx):List ExceptHandler->List (Addr × TS)->Prop
 | nil:Clauses X [] []
 | cons {x:Str}{C:Addr}{b₀:Stmt}{suite:List Stmt}{np hpos:Pos}{ts:TS}{r:List ExceptHandler}{tr:List (Addr × TS)}(hg:Gl X x) (hn:W.nsIn X.K mainGlobals x=some (some (.ref C)))
   (hs:∀(a:Addr) (pn:List (Addr × Obj)),PSs (X.suite a pn) (b₀::suite) ts) (hr:Clauses X r tr) (hd:(x == ("__debug__" : Str))=false):Clauses X (.ExceptHandler (some (.Name x np)) none (b₀::suite) hpos::r) ((C,ts)::tr)
theorem x0n {X:Cx}{body:List Stmt}{h₀:ExceptHandler}{hl:List ExceptHandler}{cs:List (Addr × TS)}{pos:Pos}{tb:(St->XK)->TS}(hstk:X.stack=X.env::X.outer/\X.env.frame=some X.env.locals)
  (hb:∀(xe:Value->Shared->Prop) (pn:List (Addr × Obj)) (EE:St->XK),(∀σ,PassesAt (CX1 X.prog X.w) (X.more xe pn) (EE σ) σ)->PSs (X.more xe pn) body (tb EE)) (hc:Clauses X (h₀::hl) cs) :
  PS X (.Try body (h₀::hl) [] [] pos) (tTryN X.K cs tb):=by
 intro pins s σ H D I h
 refine wpAny_Try_except ?_
 generalize hXE:(λ e s₁=>wpAny (model X.prog X.w) X.A (noteFrame e X.env) (λ _ s₂=>wpAny (model X.prog X.w) X.A (setFlight e none) (λ _ s₃=>wpAny (model X.prog X.w) X.A (handleBy e X.env (h₀::hl)) (SP X pins D) X.xe s₃) X.xe s₂) X.xe s₁:Value->Shared->Prop)=XE
 have toY:∀ {σ':St}{H':Hp}{s':Shared},Inv X pins σ' H' s'->Inv (X.more XE (X.pn++pins)) [] σ' H' s':=λ J=>⟨J.ok.more _ _,J.os,J.bare,J.base,J.loc,J.cell,J.free,J.freeC,λ p hp=>J.pin p (by simpa using hp),J.hok,J.len⟩
 have ofY:∀ {σ':St}{H':Hp}{s':Shared}{pp:List (Addr × Obj)},Inv (X.more XE (X.pn++pins)) pp σ' H' s'->Inv X pins σ' H' s':=λ J=>⟨I.ok,J.os,J.bare,J.base,J.loc,J.cell,J.free,J.freeC,λ p hp=>J.pin p (List.mem_append_left _ hp),J.hok,J.len⟩
 have body_ok:=hb XE (X.pn++pins) (caughtN X.K cs D) ?_ [] s σ H D (toY I) h
 ·refine thn body_ok λ fl s' q=>?_
  cases fl with
  | next=>obtain ⟨σ',H',J,z⟩:=q;exact wpAny_execs_nil ⟨σ',H',ofY J,z⟩
  | brk=>obtain ⟨σ',H',J,z⟩:=q;exact ⟨σ',H',ofY J,z⟩
  | cont=>obtain ⟨σ',H',J,z⟩:=q;exact ⟨σ',H',ofY J,z⟩
  | ret u=>obtain ⟨v,σ',H',J,r,z⟩:=q;exact ⟨v,σ',H',ofY J,r,z⟩
 intro σ1 pins1 H1 s1 e s' I1 hx
 obtain ⟨a,C',a0,H',B,rfl,os,bare,fl,inB,thB,un,okB,hcatch⟩:=hx
 have hcatch:catchN X.K cs (.ref C') λ ts=>ts D σ1 H':=hcatch
 subst hXE
 have fl:Heap.FlyingW B (X.env::X.outer) a (.ref C') a0 s'.heap:=by
  have z:Heap.FlyingW B X.stack a (.ref C') a0 s'.heap:=fl
  rw [hstk.1] at z;exact z
 have hfr:X.A.frames=some (X.env::X.outer):=by rw [I.ok.frames,hstk.1]
 have at_:∀h2:Heap,Heap.FlyingW B (X.env::X.outer) a (.ref C') a0 h2->s'.heap.UpToSlots h2->∀t2:Nat,Inv X pins σ1 H' { s' with heap:=h2,toks:=t2 }:=λ h2 f2 u2 t2=>by
  have J1:Inv X pins σ1 H1 s1:=ofY I1
  have slot:∀b o,s1.heap.get? b=some o->H1 b=none->b∈frs X.stack->∃sl,h2.get? b=some { o with slots:=sl }:=λ b o e nn hb=>by
   obtain ⟨sl2,e2⟩:=un.slot b o e nn hb (by simp)
   obtain ⟨_,o3,e3,nf⟩:=J1.stack.mem hb
   rw [e] at e3;cases e3
   obtain ⟨sl3,e4⟩:=u2 b _ e2 nf
   exact ⟨sl3,e4⟩
  refine J1.call' (s':={ s' with heap:=h2,toks:=t2 }) (ch:=[]) os ⟨λ b o e nn hb _=>f2.1 _ _ (inB b o e nn hb),λ b o e nn hb _=>slot b o e nn hb,un.free,λ b o e _=>?_,un.tups,un.frzs,un.tbls⟩ (okB.kept f2.1) bare (λ b z=>nomatch z)
  by_cases hb:b∈frs X.stack
  ·obtain ⟨sl,q⟩:=slot b o e (J1.stkFree b hb) hb
   exact ⟨_,q⟩
  ·obtain ⟨o',q⟩:=thB b o e hb
   exact ⟨o',f2.1 _ _ q⟩
 refine wpAny_looks_onW hfr hstk.2 fl λ h4 held4 up4=>?_
 refine wpAny_landsW held4 λ h5 fl5 up5=>?_
 have J5:=at_ h5 fl5 (up4.trans up5) s'.toks
 obtain ⟨oe5,ve5,he5,hc5,hd5,_⟩:=fl5.first
 have toZ:∀ {σ':St}{H':Hp}{s':Shared},Inv X pins σ' H' s'->Inv (X.suite a (X.pn++pins)) [] σ' H' s':=λ J=>⟨J.ok.suite _ _,J.os,J.bare,J.base,J.loc,J.cell,J.free,J.freeC,λ p hp=>J.pin p (by simpa using hp),J.hok,J.len⟩
 have ofZ:∀ {σ':St}{H':Hp}{s':Shared},Inv (X.suite a (X.pn++pins)) [] σ' H' s'->Inv X pins σ' H' s':=λ J=>⟨I.ok,J.os,J.bare,J.base,J.loc,J.cell,J.free,J.freeC,λ p hp=>J.pin p (List.mem_append_left _ hp),J.hok,J.len⟩
 have LT:Looks (model X.prog X.w) h5 (typeOf (.ref a)) (.ref C'):=hc5 ▸ (Looks.ld he5).andThen .now
 have all:∀(hs':List ExceptHandler) (cs':List (Addr × TS)),Clauses X hs' cs'->(catchN X.K cs' (.ref C') λ ts=>ts D σ1 H')->wpAny (model X.prog X.w) X.A (handleBy (.ref a) X.env hs') (SP X pins D) X.xe { s' with heap:=h5 }:=by
  intro hs' cs' hcl
  induction hcl with
  | nil=>intro z;exact z.elim
  | cons hg hn hs hr hd ih =>
   intro z
   have bnd:=W.mg_of J5.ok.mod.kin J5.ok.mod.glob hn
   refine wpAny_handleBy_cons (codeAny_handlers_test ?_) (by intro q;cases q)
   refine z2y (X:=X.suite a (X.pn++pins)) (toZ J5) hg bnd ?_ hd
   rcases z with ⟨z1,z2⟩ | ⟨z1,z2⟩
   ·refine (W.exm_one (M:=model X.prog X.w) J5.kIn LT z1).here ?_
    refine codeAny_handlers_suite ?_
    refine lands_againW fl5 λ h6 fl6 up6=>?_
    have J6:=at_ h6 fl6 ((up4.trans up5).trans up6) s'.toks
    refine wpAny_mono (hs a (X.pn++pins) [] _ _ _ D (toZ J6) z2) (λ fl s9 q=>?_) λ _ _ z=>z.elim
    cases fl with
    | next=>obtain ⟨σ9,H9,J9,z⟩:=q;exact ⟨_,H9,ofZ J9,z⟩
    | brk=>obtain ⟨σ9,H9,J9,z⟩:=q;exact ⟨_,H9,ofZ J9,z⟩
    | cont=>obtain ⟨σ9,H9,J9,z⟩:=q;exact ⟨_,H9,ofZ J9,z⟩
    | ret u=>obtain ⟨v,σ9,H9,J9,r,z⟩:=q;exact ⟨v,_,H9,ofZ J9,r,z⟩
   ·refine (W.exm_one (M:=model X.prog X.w) J5.kIn LT z1).here ?_
    exact ih z2
 exact all _ _ hc hcatch
section
variable {X:Cx}
def rNeT (K:W.Frag):R2:=λ x y H Q=>∃a b xs ys,x=.ref a/\y=.ref b/\SqT K H a xs/\SqT K H b ys/\xs.all flatV=true/\ys.all flatV=true/\Q (.bl (!eqVs xs ys)) H
theorem y0z (hu:X.A.units < cLine):OpR X (compareOp .NotEq) (rNeT X.K):=by
 intro pins s σ H x y v u Q I rx ry h
 obtain ⟨a,b,xs,ys,rfl,rfl,ha,hb,f1,f2,q⟩:=h
 cases rx
 cases ry
 obtain ⟨us,r1,p1,_⟩:=I.tuple ha
 obtain ⟨ws,r2,p2,_⟩:=I.tuple hb
 refine SeqAt.RcNeAt.tuples (show s.heap.IsTuple a us.toArray from p1) (show s.heap.IsTuple b ws.toArray from p2) (e:=eqAtI xs ys) hu (z7l r1 r2 f1 f2) _ _ _ _ ?_
 have e1:us.toArray.size=xs.length:=by simp [r1.length]
 have e2:ws.toArray.size=ys.length:=by simp [r2.length]
 rw [e1,e2]
 have z:((List.range (min xs.length ys.length)).all (eqAtI xs ys) && xs.length == ys.length)=eqVs xs ys:=by
  by_cases hl:xs.length=ys.length
  ·rw [← hl,Nat.min_self,z4t hl];simp
  ·rw [z4s hl];simp [hl]
 rw [z]
 exact ⟨.bl _,H,I,rfl,q⟩
def rNeL (K:W.Frag):R2:=λ x y H Q=>∃a b xs ys,x=.ref a/\y=.ref b/\SqL K H a xs/\SqL K H b ys/\xs.all flatV=true/\ys.all flatV=true/\Q (.bl (!eqVs xs ys)) H
theorem z6h (hu:X.A.units < cLine):OpR X (compareOp .NotEq) (rNeL X.K):=by
 intro pins s σ H x y v u Q I rx ry h
 obtain ⟨a,b,xs,ys,rfl,rfl,ha,hb,f1,f2,q⟩:=h
 cases rx
 cases ry
 obtain ⟨us,r1,p1,_⟩:=I.list ha
 obtain ⟨ws,r2,p2,_⟩:=I.list hb
 by_cases hl:xs.length=ys.length
 ·refine SeqAt.RcNeAt.lists p1.isList p2.isList (e:=eqAtI xs ys) (by simp [← r1.length,← r2.length,hl]) hu (z7l r1 r2 f1 f2) _ _ _ _ ?_
  have e:us.toArray.size=xs.length:=by simp [r1.length]
  rw [e,z4t hl]
  exact ⟨.bl _,H,I,rfl,q⟩
 ·refine SeqAt.RcNeAt.lists_lengths p1.isList p2.isList (by simp [← r1.length,← r2.length,hl]) hu _ _ _ _ ?_
  rw [z4s hl] at q
  exact ⟨.bl _,H,I,rfl,q⟩
end
theorem z2h {cells:List (Str × Addr)}{y:Str}{a:Addr}(h:cells.lookup y=some a):∀x c,[(y,a)].lookup x=some c->cells.lookup x=some c:=λ x c e=>by
 cases List.mem_singleton.mp (PySem.mem_of_lookup e);exact h
theorem z2g {cells:List (Str × Addr)}{y z:Str}{a b:Addr}(h:cells.lookup y=some a) (h2:cells.lookup z=some b):∀x c,[(y,a),(z,b)].lookup x=some c->cells.lookup x=some c:=λ x c e=>by
 rcases List.mem_cons.mp (PySem.mem_of_lookup e) with q | q
 ·cases q;exact h
 ·cases List.mem_singleton.mp q;exact h2
end L2
namespace HT
open PySem PySem.Spec PyProof.Rows L2
theorem whole_tup {prog:Program}{w:World}{A:Around}{E:Value->Shared->Prop}{s:Shared}{t sl:Addr}{its:Array Value}{vl vu:Value}{lo hi:Option Int}{R:Value->Shared->Prop}(ht:IsTup s.heap t its) (hs:s.heap.IsSliceOf sl vl vu .none) (pl:IsPart vl lo) (pu:IsPart vu hi)
  (h0:sIx its.size 0 lo=0) (h1:sIx its.size its.size hi=its.size) (h:R (.ref t) s):wpAny (model prog w) A (getItem (.ref t) (.ref sl)) R E s:=by
 obtain ⟨os,hos,hcs,hds⟩:=id hs
 have hTs:s.TypeIs (.ref sl) "slice" := ⟨os,hos,hcs⟩
 unfold getItem
 try with_reducible refine wpAny_holding ?_
 first | refine wpAny_bind (wpAny_pure ?_) | skip
 refine wpAny_bind (wpAny_sequenceKey ht.typeIs (by decide) ?_)
 refine wpAny_bind (wpAny_callSpecial?_slot (name:=Str.ofString "__getitem__") ht.typeIs PyProof.Rows.slot_tuple_getitem (wpAny_call_entry PyProof.Rows.slot_tuple_getitem ht.typeIs entry_tuple_getitem ?_ (args_tuple_getitem _ _)))
 show wpAny _ _ (Builtin.Tuple.tupleItemsOf (.ref t) >>= _) _ _ s
 refine wpAny_bind (tupleItemsOf_ ht ?_)
 refine wpAny_bind (wpAny_typeOf hTs ?_)
 rw [if_pos (by decide)]
 refine wpAny_bind (z3e hs pl pu ?_)
 show wpAny _ _ (if (((sIx its.size 0 lo:Nat):Int) == 0 && (1:Int) == 1 && (sIx its.size its.size hi - sIx its.size 0 lo) == its.size)=true then _ else _) _ _ s
 rw [if_pos (by rw [h0,h1];simp)]
 unfold Builtin.Tuple.tupleIsExact
 exact wpAny_bind (wpAny_bind (wpAny_typeOf ht.typeIs (wpAny_pure (wpAny_bind (wpAny_rule (wpAny_pure ⟨_,rfl,wpAny_pure h⟩))))))
end HT
namespace L2
open PySem PySem.Spec PyProof.Rows
section
variable {X:Cx}
def rSlTA:V->Option Int->Option Int->Hp->VK->Prop:=λ x lo hi H Q=>∃a xs,x=.ref a/\H a=some (.tup xs)/\∀r H',Same H H'->H' r=some (.tup (cutV xs lo hi))->Q (.ref r) H'
theorem z1u:SlR X rSlTA:=by
 intro pins s σ H x v vl vu lo hi sl Q I rx hs pl pu h
 obtain ⟨a,xs,rfl,ha,q⟩:=h
 by_cases c:HT.sIx xs.length 0 lo=0/\HT.sIx xs.length xs.length hi=xs.length
 ·cases rx
  obtain ⟨its,r,ht,hz⟩:=I.tuple (show SqT X.K H a xs from .of ha)
  have hlen:its.toArray.size=xs.length:=by rw [List.size_toArray];exact r.length.symm
  refine ⟨"tuple",_,PyProof.Rows.slot_tuple_getitem.lookup,ht.typeIs,HT.whole_tup ht hs pl pu (by rw [hlen];exact c.1) (by rw [hlen];exact c.2) ⟨.ref a,H,I,rfl,q a H (Same.refl _) ?_⟩⟩
  unfold cutV
  rw [c.1,c.2,List.drop_zero,Nat.sub_zero,List.take_length]
  exact ha
 ·exact z5a pins s σ H _ v vl vu lo hi sl Q I rx hs pl pu ⟨a,xs,rfl,ha,c,q⟩
end
theorem z8d {X:Cx}{elt tg iter cnd:Expr}{scope:Scope}{pos:Pos}{own:List Str}{wi:TI}{g:TG}{tc:TT}{te:TE}
  (hc:X.calm=true) (hi:PI X tg iter wi) (hcell:∀y∈scope.names,y.2≠.cell) (hfree:∀y∈scope.names,y.2≠.free) (hkind:scope.kind=.function)
  (hnames:∀y∈scope.names,y.2=.local->scope.names.lookup y.1=some .local)
  (hg:∀(C:Addr) (ex:List Addr) (s:Shared) (H:Hp),PG (cxComp X own scope [] C ex s H) tg g)
  (he:∀(C:Addr) (ex:List Addr) (s:Shared) (H:Hp),PE (cxComp X own scope [] C ex s H) elt te)
  (ht:∀(C:Addr) (ex:List Addr) (s:Shared) (H:Hp),PT (cxComp X own scope [] C ex s H) cnd tc)
  (hs:∀x,foldedSetIterable iter X.env x=pure x:=by intro _;rfl) :
  PE X (.ListComp elt [⟨tg,iter,[cnd],0⟩] scope pos) (tCompI wi own.length [] g tc te):=by
 refine y7l (own:=own) (fv:=[]) (js:=[]) (cl:=[]) hc hi (closureFor_none hfree) hcell hkind hnames (λ x c h=>by cases h) (λ x h=>?_) rfl (λ i x j h=>by simp at h) (by simpa using hg) (by simpa using he) (by simpa using ht) hs
 rw [z4m hfree] at h
 rcases h with h | h
 ·exact absurd rfl (hcell _ (PySem.mem_of_lookup h))
 ·exact absurd rfl (hfree _ (PySem.mem_of_lookup h))
theorem y3o:typeLookup (.type "reversed") "__len__" = pure none:=by rw [typeLookup_type,builtinLookup_eq_fast];kernel_rfl
theorem y7b:typeLookup (.type "reversed") "__length_hint__" = pure (some (.builtin "reversed.__length_hint__")):=by rw [typeLookup_type,builtinLookup_eq_fast];kernel_rfl
theorem x0a {pg:Program}{wd:World}{B:Around}(hh:B.handled=none) (I t:Addr) (hne:t≠I) (its:Array Value) (hz:(its.size:Int) < 2 ^ 63) :
  Walks pg wd B I [I,t] [I] its.size (λ i v=>its[its.size - 1 - i]?=some v) (λ i h=>i≤its.size/\IsRv h I t ((its.size:Int) - 1 - (i:Int))/\IsTup h t its) where
 sub:=λ b hb=>by simp at hb;simp [hb]
 frame:=λ _ _ _ st k=>⟨st.1,let ⟨o,g,r⟩:=st.2.1;⟨o,k I (by simp) o g,r⟩,let ⟨o,g,r⟩:=st.2.2;⟨o,k t (by simp) o g,r⟩⟩
 item:=λ i s R X0 hi st f=>by
  obtain ⟨_,q1,q2⟩:=st
  have e:(its.size:Int) - 1 - (i:Int)=((its.size - 1 - i:Nat):Int):=by omega
  rw [e] at q1
  have hx:its[its.size - 1 - i]?=some (its[its.size - 1 - i]'(by omega)):=Array.getElem?_eq_getElem (by omega)
  refine x0j q1 q2 hx hz λ m tk q sb=>f _ m tk hx ⟨hi,?_,?_⟩ λ b o nb g=>sb.extBut b o (by simpa using nb) g
  ·have e2:((its.size - 1 - i:Nat):Int) - 1=(its.size:Int) - 1 - ((i+1:Nat):Int):=by omega
   rw [e2] at q;exact q
  ·obtain ⟨o,g,r⟩:=q2
   exact ⟨o,sb.extBut _ _ hne g,r⟩
 done:=λ s R X0 st f=>by
  obtain ⟨_,q1,q2⟩:=st
  have e:(its.size:Int) - 1 - (its.size:Int)=-1:=by omega
  rw [e] at q1
  exact x2o hh q1 λ m tk eb=>f m tk λ b o nb g=>eb b o (by simpa using nb) g
 self:=λ _ _ _ _ st h=>x0i st.2.1 h
theorem y7c (v:Value):bindSpecial (.builtin "reversed.__length_hint__") v=pure (.builtin "reversed.__length_hint__",[v]):=by
 unfold bindSpecial
 rw [show typeOf (.builtin "reversed.__length_hint__")=pure (.type "method_descriptor") by show builtinType _=_;rw [builtinType_eq_fast];kernel_rfl]
 rfl
theorem y6z:Slot "reversed" "__length_hint__" "reversed.__length_hint__" := .of (owner := "reversed") (n := "__length_hint__") (by rw [typeLookup_type,builtinLookup_eq_fast];kernel_rfl) (by decide +kernel) (by decide +kernel) (by decide +kernel) (.inr (by decide +kernel)) (by rw [isSubtype_type];kernel_rfl)
theorem y3p:entryFor table "reversed.__length_hint__" = some Builtin.«reversed.__length_hint__»:=entryFor_of_tree (by kernel_rfl)
theorem y7d (a:Value):argsOk "reversed.__length_hint__" ⟨[a],[]⟩:=by unfold argsOk;kernel_rfl
theorem y7a {pg:Program}{wd:World}{B:Around}{R:Value->Shared->Prop}{X0:Value->Shared->Prop}{z:Shared}{J t:Addr}{its:Array Value}(q1:IsRv z.heap J t ((its.size:Int) - 1)) (q2:IsTup z.heap t its) (hz:(its.size:Int) < 2 ^ 63)
  (f:∀u tk,z.toks≤tk->R (.int its.size u) { z with toks:=tk }):wpAny (model pg wd) B (call (.builtin "reversed.__length_hint__") [.ref J]) R X0 z:=by
 obtain ⟨o,ho,hc,hd⟩:=id q1
 refine wpAny_call_entry y6z q1.typeIs y3p ?_ (y7d _)
 show wpAny _ _ (field (.ref J) 0 >>= _) _ _ z
 refine wpAny_bind (wpAny_field ho hd (x:=.ref t) rfl ?_)
 show wpAny _ _ (if (Value.ref t == Value.none)=true then _ else _) _ _ z
 rw [if_neg (show ¬((Value.ref t == Value.none)=true) from Bool.false_ne_true)]
 show wpAny _ _ (call (.builtin "len") [.ref t] >>= _) _ _ z
 refine wpAny_bind (len_tuple q2 hz ?_)
 refine wpAny_bind (m:=asInt? _) (wpAny_pure ?_)
 show wpAny _ _ (field (.ref J) 1 >>= _) _ _ _
 refine wpAny_bind (wpAny_field ho hd (x:=rawInt ((its.size:Int) - 1)) rfl ?_)
 show wpAny _ _ (if (its.size:Int) < (its.size:Int) - 1+1 then _ else retInt ((its.size:Int) - 1+1)) _ _ _
 rw [if_neg (by omega),show (its.size:Int) - 1+1=its.size by omega]
 exact wpAny_bind (wpAny_mkInt (wpAny_pure ⟨_,rfl,f _ _ (by show z.toks≤z.toks+1+1+1;omega)⟩))
section
variable {pg:Program}{wd:World}{B:Around}{X0:Value->Shared->Prop}{s0:Shared}{J:Addr}{fs ws:List Addr}{Gg:Array GenState->Array GenState->Prop}{m:Nat}{Pr:Nat->Value->Prop}{Sx:Nat->Shared->Prop}
theorem y0s {R:List Value->Shared->Prop}(hint:∀(z:Shared) (R':Value->Shared->Prop) (E':Value->Shared->Prop),Sx 0 z->(∀u tk,z.toks≤tk->R' (.int m u) { z with toks:=tk })->wpAny (model pg wd) B.in1 (call (.builtin "reversed.__length_hint__") [.ref J]) R' E' z) (wk:WalksS pg wd B.in1 J fs ws Gg m Pr Sx) (ty:∀j z,Sx j z->z.TypeIs (.ref J) "reversed") (z0:Sx 0 s0) (lt:∀b∈fs,b < s0.heap.objs.size) (mJ:J∈fs) (sm:m≤sizeLine)
  (fin:∀z' ac,Moved ws Gg s0 z'->ItemsOf Pr ac m->R ac.toList z'):wpAny (model pg wd) B (collect (.ref J)) R X0 s0:=by
 have out:s0.heap.objs.size ∉ fs:=λ q=>absurd (lt _ q) (Nat.lt_irrefl _)
 have neJ:s0.heap.objs.size≠J:=by rintro rfl;exact out mJ
 let nu:Obj:={ cls:=.type "list",data:=.seq ([]:List Value).toArray }
 unfold collect
 refine wpAny_bind (wpAny_runValue (codeAny_builtin F.entry_proto_collect ?_))
 rw [Around.under_plainId F.plain_proto_collect _]
 show wpAny _ B.in1 (newList [] >>= λ q=>again (.builtin "list.__iadd__" ⟨[q,.ref J],[]⟩)) _ _ s0
 refine wpAny_bind (wpAny_newObj_type ?_)
 refine wpAny_pure ⟨plainId_quiet F.plain_list_iadd _,codeAny_builtin F.entry_list_iadd ?_⟩
 rw [Around.under_plainId F.plain_list_iadd _]
 have z1:=wk.frame 0 s0 (s0.heap.push nu) s0.toks z0 (Nat.le_refl _) λ b _ o e=>Heap.get?_push_of_some _ e
 have at1:(s0.heap.push nu).get? s0.heap.objs.size=some nu:=Heap.get?_push_size _ rfl
 have dif:Builtin.List.listSameRef (.ref s0.heap.objs.size) (.ref J)=false:=by simp [Builtin.List.listSameRef,neJ]
 show wpAny _ B.in1 (Builtin.List.listExtendWith (.ref s0.heap.objs.size) (.ref J) (.ref s0.heap.objs.size)) _ _ _
 unfold Builtin.List.listExtendWith
 refine wpAny_bind (wpAny_typeOf (ty 0 _ z1) ?_)
 rw [if_neg (by rw [dif];decide)]
 refine wpAny_bind (wk.self 0 _ _ _ z1 ?_)
 refine wpAny_bind (wpAny_holding ?_)
 unfold Builtin.List.listLengthHint
 refine wpAny_bind (wpAny_specialOf (ty 0 _ z1) y3o ?_)
 show wpAny _ B.in1 (specialOf (Value.ref J) (Str.ofString "__length_hint__") >>= _) _ _ _
 refine wpAny_bind (wpAny_specialOf (ty 0 _ z1) y7b ?_)
 (generalize hid:("reversed.__length_hint__" : String)=id0;wp_delta;rw [show splitId id0=some ("reversed", "__length_hint__") from by subst hid;decide +kernel];subst hid)
 refine wpAny_bind (wpAny_isInstance (b:=true) (ty 0 _ z1) (by rw [isSubtype_type];kernel_rfl) ?_)
 rw [if_neg (by decide)]
 dsimp only
 rw [if_neg (by decide +kernel)]
 refine wpAny_bind (wpAny_rule ?_)
 refine wpAny_bind (wpAny_of_eq (y7c _) ?_)
 dsimp only
 refine wpAny_bind (wpAny_attempt (hint _ _ _ z1 λ u tk htk=>?_))
 have z2:=wk.frame 0 _ _ tk z1 htk λ b _ o e=>e
 have l63:=y5d
 have fi:Builtin.List.listFitsIndex (m:Int)=true:=by simp [Builtin.List.listFitsIndex];omega
 have tl:Builtin.List.listTooLong (m:Int).toNat=false:=by simp [Builtin.List.listTooLong];omega
 generalize hk:(m:Int)=kk at fi tl ⊢
 show wpAny _ B.in1 (asInt? (.int kk u) >>= _) _ _ _
 refine wpAny_bind (m:=asInt? (.int kk u)) (wpAny_pure ?_)
 dsimp only
 rw [if_neg (by rw [fi];decide)]
 try dsimp only
 rw [if_neg (by omega)]
 try dsimp only
 rw [if_neg (by rw [tl];decide)]
 refine wpAny_pure ?_
 by_cases m0:m=0
 ·rw [if_neg (by subst m0;subst hk;decide +kernel)]
  refine wpAny_pure ⟨plainId_quiet F.plain_extend_loop _,codeAny_extend_loopS wk sm _ out _ m 0 _ _ _ rfl (Nat.zero_le _) z2 at1 (ItemsOf.nil Pr) λ z' ac cc mv at2 its=>?_⟩
  show wpAny _ B (load s0.heap.objs.size >>= _) _ _ z'
  exact wpAny_bind (wpAny_load at2 (wpAny_pure (fin z' ac (Moved.drop_new (o:=nu) (tk:=tk) mv htk) its)))
 ·rw [if_pos (by simp;left;omega)]
  refine wpAny_bind (wpAny_rule ?_)
  refine wpAny_bind ?_
  show wpAny _ B.in1 (updateSeq s0.heap.objs.size (·.push .none) >>= λ _=>updateSeq s0.heap.objs.size (·.pop)) _ _ _
  refine wpAny_bind (wpAny_updateSeq at1 rfl ?_)
  have a2:=Heap.get?_update_self (Obj.mapSeq (·.push Value.none)) at1 rfl
  refine wpAny_updateSeq a2 rfl ?_
  have a3:=Heap.get?_update_self (Obj.mapSeq (·.pop)) a2 rfl
  have oth:∀b o,b≠s0.heap.objs.size->(s0.heap.push nu).get? b=some o->(((s0.heap.push nu).update s0.heap.objs.size (Obj.mapSeq (·.push Value.none))).update s0.heap.objs.size (Obj.mapSeq (·.pop))).get? b=some o :=
   λ b o hb e=>(Heap.get?_update_other _ _ (Ne.symm hb)).trans ((Heap.get?_update_other _ _ (Ne.symm hb)).trans e)
  refine wpAny_pure ⟨plainId_quiet F.plain_extend_loop _,codeAny_extend_loopS wk sm _ out _ m 0 _ _ _ rfl (Nat.zero_le _)
   (wk.frame 0 ({ s0 with heap:=s0.heap.push nu,toks:=tk }:Shared) _ tk z2 (Nat.le_refl _) λ b hb o e=>oth b o (λ q=>out (q ▸ hb)) e) a3 (ItemsOf.nil Pr) λ z' ac cc mv at2 its=>?_⟩
  show wpAny _ B (load s0.heap.objs.size >>= _) _ _ z'
  refine wpAny_bind (wpAny_load at2 ?_)
  refine wpAny_pure (fin z' ac (Moved.drop_new (o:=nu) (tk:=tk) (Moved.trans wk.gtrans ((Moved.refl wk.grefl).then_heap (Nat.le_refl _) λ b o hb e=>?_) mv) htk) its)
  exact oth b o (λ q=>hb (q ▸ List.mem_cons_self)) e
theorem z7j {R:Value->Shared->Prop}(hint:∀(z:Shared) (R':Value->Shared->Prop) (E':Value->Shared->Prop),Sx 0 z->(∀u tk,z.toks≤tk->R' (.int m u) { z with toks:=tk })->wpAny (model pg wd) B.in1.in1 (call (.builtin "reversed.__length_hint__") [.ref J]) R' E' z) (wk:WalksS pg wd B.in1.in1 J fs ws Gg m Pr Sx) (ty:∀j z,Sx j z->z.TypeIs (.ref J) "reversed") (z0:Sx 0 s0) (lt:∀b∈fs,b < s0.heap.objs.size) (mJ:J∈fs) (sm:m≤sizeLine)
  (fin:∀z' ac,Moved ws Gg s0 z'->ItemsOf Pr ac m->R (.ref z'.heap.objs.size) { z' with heap:=z'.heap.push { cls:=.type "tuple",data:=.seq ac } }) :
  codeAny (model pg wd) B (.call (.builtin "tuple.__new__") ⟨[.type "tuple",.ref J],[]⟩) (wants R X0) s0:=by
 refine codeAny_of_tree ?_
 show wpAny _ B.in1 (do checkBuiltinCall "tuple.__new__" ⟨[.type "tuple",.ref J],[]⟩;again (.builtin "tuple.__new__" ⟨[.type "tuple",.ref J],[]⟩)) _ _ s0
 refine wpAny_bind (wpAny_of_eq (F.newCall_tuple_1 _) (wpAny_pure ⟨plainId_quiet F.plain_tuple_new _,codeAny_builtin F.entry_tuple_new ?_⟩))
 rw [Around.under_plainId F.plain_tuple_new _]
 have q1:=sub_tuple_self
 have q2:=init_tuple_lookup
 have q3:=madeHere_tuple
 have q4:=ty 0 s0 z0
 wp_walk using wpAny_typeOf q4,y0s (sm:=sm) hint wk ty z0 lt mJ
 intro z' ac mv its
 show wpAny _ _ (Builtin.Tuple.tupleExact ac.toList.toArray >>= λ q=>ret q) _ _ _
 have e:ac.toList.toArray=ac:=by simp
 rw [e]
 unfold Builtin.Tuple.tupleExact
 exact wpAny_bind (wpAny_newObj_type (wpAny_pure (fin z' ac mv its)) (by show ac.size≤sizeLine;rw [its.1];exact sm))
theorem z5w {R:Value->Shared->Prop}(hint:∀(z:Shared) (R':Value->Shared->Prop) (E':Value->Shared->Prop),Sx 0 z->(∀u tk,z.toks≤tk->R' (.int m u) { z with toks:=tk })->wpAny (model pg wd) B.in1.in1.in1 (call (.builtin "reversed.__length_hint__") [.ref J]) R' E' z) (wk:WalksS pg wd B.in1.in1.in1 J fs ws Gg m Pr Sx) (ty:∀j z,Sx j z->z.TypeIs (.ref J) "reversed") (z0:Sx 0 s0) (lt:∀b∈fs,b < s0.heap.objs.size) (mJ:J∈fs) (sm:m≤sizeLine)
  (fin:∀z' ac,Moved ws Gg s0 z'->ItemsOf Pr ac m->R (.ref z'.heap.objs.size) { z' with heap:=z'.heap.push { cls:=.type "tuple",data:=.seq ac } }) :
  wpAny (model pg wd) B (call (.type "tuple") [.ref J]) R X0 s0 :=
 callType_codes (Q₁:=λ ob z=>z.TypeIs ob "tuple" /\ R ob z) F.called_tuple (F.typeCall_tuple_1 _) F.entry_object_init
  (z7j (sm:=sm) hint wk ty z0 lt mJ λ z' ac mv its=>⟨⟨_,Heap.get?_push_size _ rfl,rfl⟩,fin z' ac mv its⟩)
  λ ob z q=>⟨q.1,F.args_object_init_2 ob _,object_init_meets F.called_tuple.init.lookup F.called_tuple.made (by decide) pg wd B.in1 _ z ⟨q.1,rfl,q.2⟩⟩
end
section
variable {X:Cx}
def tTupRevT (K:W.Frag) (te:TE):TE:=λ σ H Q=>te σ H λ x H1=>∃a xs,x=.ref a/\SqT K H1 a xs/\∀p,H1 p=none->Q (.ref p) (upd H1 p (.tup xs.reverse))
theorem y2a {e:Expr}{te:TE}{p1 p2 pos pos':Pos}(hc:X.calm=true) (ht:Gl X "tuple") (hr:Gl X "reversed") (mt:X.mg "tuple" = none) (mr:X.mg "reversed" = none) (he:PE X e te) (hs:starEach [e] X.env=[(false,eval e X.env)]:=by rfl) :
  PE X (.Call (.Name "tuple" p1) [.Call (.Name "reversed" p2) [e] [] pos'] [] pos) (tTupRevT X.K te):=by
 intro pins s σ H Q I h
 refine Call_ (z3p I ht mt boot_tuple (PyProof.Rows.callWith_type1 ?_ rfl rfl))
 refine Calls.spliced_cons ?_
 have hA:=(z0a he (z0c (X:=X)) hs) pos' pins s σ H (λ vs H1=>match vs with | [x]=>∃a xs,x=.ref a/\SqT X.K H1 a xs/\∀p,H1 p=none->Q (.ref p) (upd H1 p (.tup xs.reverse)) | _=>False) I h
 refine Call_ (z3p I hr mr boot_reversed (PyProof.Rows.callWith_type1 (thn hA λ us s1 ⟨vs,H1,I1,r1,q1⟩=>?_) hs rfl))
 match vs,q1 with
 | [x],⟨a,xs,e,hq,q⟩ =>
  subst e
  obtain ⟨u,rfl,ru⟩:=z4p r1
  cases (show u=Value.ref a from ru)
  obtain ⟨its,rv,pl,hz⟩:=I1.tuple hq
  have hl:=rv.length
  have z63:=y5d
  refine x1z pl (by simp;omega) λ tk=>?_
  refine Calls.spliced_nil ?_
  have I2:Inv X pins σ H1 { s1 with heap:=s1.heap.push (rvObj a ((its.toArray.size:Int) - 1)),toks:=tk }:=I1.kept (t':=tk) λ b o e=>Heap.get?_push_of_some _ e
  have al:a < s1.heap.objs.size:=by obtain ⟨o,ho,_⟩:=pl;exact Heap.lt_size ho
  have hne:a≠s1.heap.objs.size:=Nat.ne_of_lt al
  have ir:IsRv (s1.heap.push (rvObj a ((its.toArray.size:Int) - 1))) s1.heap.objs.size a ((its.toArray.size:Int) - 1 - ((0:Nat):Int)):=by
   refine ⟨_,Heap.get?_push_size _ rfl,rfl,?_⟩
   have e:(its.toArray.size:Int) - 1 - ((0:Nat):Int)=(its.toArray.size:Int) - 1:=by omega
   rw [e];rfl
  have sz:(s1.heap.push (rvObj a ((its.toArray.size:Int) - 1))).objs.size=s1.heap.objs.size+1:=by simp [Heap.push]
  have ff:=I1.fpOk (Nat.le_refl s1.heap.objs.size) (I1.hok.fresh (Nat.le_refl _))
  refine z5w (m:=its.toArray.size) (Sx:=_) (λ z R' E' q f=>y7a (its:=its.toArray) (by have:=q.2.1;rw [show (its.toArray.size:Int) - 1 - ((0:Nat):Int)=(its.toArray.size:Int) - 1 by omega] at this;exact this) q.2.2 (by simp;omega) f) (x0a (B:=X.A.in1.in1.in1) (I.ok.hd hc) s1.heap.objs.size a hne its.toArray (by simp;omega)).toS (λ j z q=>let ⟨o,ho,hk,_⟩:=q.2.1;⟨o,ho,hk⟩)
   ⟨Nat.zero_le _,ir,let ⟨o,g,r⟩:=pl;⟨o,Heap.get?_push_of_some _ g,r⟩⟩ (λ b hb=>?_) (List.mem_cons_self ..) (by simp only [List.size_toArray];omega) λ z' ac mv io=>?_
  ·show b < (s1.heap.push (rvObj a ((its.toArray.size:Int) - 1))).objs.size
   rw [sz]
   simp only [List.mem_cons,List.not_mem_nil,or_false] at hb
   rcases hb with rfl | rfl
   ·exact Nat.lt_succ_self _
   ·exact Nat.lt_succ_of_lt al
  have I3:Inv X pins σ H1 z':=by
   obtain ⟨zh,zg,zd,zt,zo⟩:=z'
   have e1:zg=s1.gens:=mv.gens
   have e2:zd=s1.drawn:=mv.drawn
   have e3:zo=s1.os:=mv.os
   subst e1 e2 e3
   obtain ⟨f0,f1,f2,f3,f4,f5⟩:=ff
   exact I1.turned (t':=zt) (λ b o hb e=>mv.heap b o (by simpa using hb) (Heap.get?_push_of_some _ e)) f0 f1 f3 f4 f5
  have er:ac=its.reverse.toArray:=by
   have sz2:ac.size=its.length:=by simpa using io.1
   apply Array.ext
   ·simp [sz2]
   ·intro j h1 h2
    have q:=io.2 j _ (Array.getElem?_eq_getElem h1)
    simp only [List.size_toArray,List.getElem?_toArray] at q
    have q2:its.reverse[j]?=some ac[j]:=by rw [List.getElem?_reverse (by omega)];exact q
    rw [List.getElem_toArray]
    exact (Option.some.inj ((List.getElem?_eq_getElem (by simpa using h2)).symm.trans q2)).symm
  subst er
  have I4:Inv X pins σ (upd H1 z'.heap.objs.size (.tup xs.reverse)) { z' with heap:=z'.heap.push { cls:=.type "tuple",data:=.seq its.reverse.toArray } } :=
   I3.laid (t':=z'.toks) (λ b o e=>Heap.get?_push_of_some _ e) (Nat.le_refl _) (show ObjOk X.prog X.w _ _ _ (.tup xs.reverse) from ⟨by simpa using hz,its.reverse,rv.reverse,IsTup.new _ _⟩)
  exact ⟨.ref z'.heap.objs.size,_,I4,rfl,q _ (I3.hok.fresh (Nat.le_refl _))⟩
end
def okS (k:Nat) (x:Str):Prop:=x.length≤k/\∀c∈x.cps.toList,c < 1000
theorem okS.repr {k:Nat}{x:Str}(h:okS k x):(reprText x).length≤10 * k+2:=by
 have:=StrLaws.reprText_len x λ c hc=>Nat.lt_of_lt_of_le (h.2 c hc) (by decide)
 have:=h.1
 omega
section
variable {X:Cx}
def tFR (t1 t2:TE):TE:=λ σ H Q=>t1 σ H λ x H1=>∃a,x=.str a/\okS 1000 a/\t2 σ H1 λ y H2=>∃b,y=.str b/\okS 1000 b/\∀z,Q (.str z) H2
theorem x0t {e1 e2:Expr}{t1 t2:TE}{pos p2:Pos}(h1:PE X e1 t1) (h2:PE X e2 t2):PE X (.JoinedStr [e1,.FormattedValue e2 114 none p2] pos) (tFR t1 t2):=by
 intro pins s σ H Q I h
 refine wpAny_JoinedStr (thn (h1 pins s σ H _ I h) λ v s1 ⟨x,H1,I1,r1,q1⟩=>?_)
 obtain ⟨a,rfl,oa,q2⟩:=q1
 obtain ⟨ta,rfl⟩:=r1
 have s20:20000≤sizeLine:=by rw [sizeLine_eq];decide
 have e0:∀z:Str,Str.empty++z=z:=λ z=>by show (⟨#[]++z.cps⟩:Str)=z;simp
 refine ⟨a,ta,rfl,?_,wpAny_FormattedValue_repr (thn (h2 pins s1 σ H1 _ I1 q2) λ v s2 ⟨y,H2,I2,r2,q3⟩=>?_)⟩
 ·rw [e0];have:=oa.1;omega
 obtain ⟨b,rfl,ob,q⟩:=q3
 obtain ⟨tb,rfl⟩:=r2
 have rb:=ob.repr
 refine wpAny_pyReprObj_str (formatField_str (λ t' tk=>⟨_,t',rfl,?_,?_,?_⟩) (by omega)) (by omega)
 ·rw [e0,strLen_append];have:=oa.1;omega
 ·rw [e0,strLen_append];have:=oa.1;omega
 ·exact ⟨.str _,H2,(I2.tok _).tok _,⟨_,rfl⟩,q _⟩
def rSlStr:V->Option Int->Option Int->Hp->VK->Prop:=λ x lo hi H Q=>∃z,x=.str z/\z.length≤1000/\∀y:Str,y.length≤z.length->(∀c∈y.cps.toList,c∈z.cps.toList)->Q (.str y) H
def rUpper:V->List V->Hp->VK->Prop:=λ x xs H Q=>∃z,x=.str z/\xs=[]/\okS 1000 ⟨placed z λ _ c=>Unicode.upperOf c⟩/\Q (.str ⟨placed z λ _ c=>Unicode.upperOf c⟩) H
def rJoin (K:W.Frag):V->List V->Hp->VK->Prop:=λ x xs H Q=>∃(z:Str) (l:Addr) (ys:List Str),x=.str z/\z.length=0/\xs=[.ref l]/\SqL K H l (ys.map V.str)/\ys.length≤100/\(∀y∈ys,okS 10 y)/\∀y:Str,okS 1000 y->Q (.str y) H
end
def Itel (K:W.Frag) (a:Addr):It:=⟨λ i H=>∃xs x,SqL K H a xs/\xs[i]?=some x,
 λ i H v H'=>∃T x,v=.ref T/\H T=none/\H'=upd H T (.tup [.int i,x])/\∀xs,SqL K H a xs->xs[i]?=some x,λ i H=>∃xs,SqL K H a xs/\xs.length≤i⟩
section
variable {X:Cx}{es:List Expr}{x1:Nat}{pp:Pos}
def iEnumL (K:W.Frag) (te:TE):TI:=λ σ H R=>te σ H λ v H1=>∃a xs,v=.ref a/\SqL K H1 a xs/\R (Itel K a) H1
end
def LoopEL (K:PySem.W.Frag) (g:TG) (tb:TS) (D:Ends) (σ:St) (v:V) (H1:Hp):Prop:=∃a xs,v=.ref a/\SqL K H1 a xs/\∃W:Nat->Nat->St->Hp->Prop,(∃m,W 0 m σ H1)/\∀i m σ H,W i m σ H ->
 ((Itel K a).stop i H/\D.nx σ H)\/((Itel K a).go i H/\∃N:St->Hp->Prop,(∀σ' H',N σ' H'->∃m',m' < m/\W (i+1) m' σ' H')/\∀x H',(Itel K a).yld i H x H'->g x σ H' λ σ2 H2=>tb { D with nx:=N,ct:=N,bk:=D.nx } σ2 H2)
theorem y8r {K:W.Frag}{te:TE}{g:TG}{tb:TS}{D:Ends}{σ:St}{H:Hp}:tFor (iEnumL K te) g tb D σ H=te σ H λ v H1=>LoopEL K g tb D σ v H1:=rfl
theorem x3a {X:Cx}{x j pos} {es:List Expr}{t:TA}(hr:PA X es t):PA X (.Constant (.str x) j pos::es) (tCons (tC (.str x)) t):=z0a z0p hr rfl
def strsC (l:List (Str × Pos)):List Expr:=l.map λ p=>.Constant (.str p.1) 0 p.2
def tStrs (l:List Str):TA:=λ _ H Q=>Q (l.map V.str) H
theorem y4d {X:Cx}:∀l:List (Str × Pos),PA X (strsC l) (tStrs (l.map (·.1)))
 | []=>z0c
 | _::l=>x3a (y4d l)
instance (k:Nat) (x:Str):Decidable (okS k x):=by unfold okS;infer_instance
def Itx (x:Str):It:=⟨λ i _=>i < x.cps.size,λ i H v H'=>H'=H/\∃c,x.cps[i]?=some c/\v=.str ⟨#[c]⟩,λ i _=>x.cps.size≤i⟩
section
variable {X:Cx}{tg:Expr}
def iStr (tl:TE):TI:=λ σ H R=>tl σ H λ x H1=>∃z,x=.str z/\R (Itx z) H1
end
def LoopX (g:TG) (tb:TS) (D:Ends) (σ:St) (v:V) (H1:Hp):Prop:=∃z,v=.str z/\∃W:Nat->Nat->St->Hp->Prop,(∃m,W 0 m σ H1)/\∀i m σ H,W i m σ H ->
 ((Itx z).stop i H/\D.nx σ H)\/((Itx z).go i H/\∃N:St->Hp->Prop,(∀σ' H',N σ' H'->∃m',m' < m/\W (i+1) m' σ' H')/\∀x H',(Itx z).yld i H x H'->g x σ H' λ σ2 H2=>tb { D with nx:=N,ct:=N,bk:=D.nx } σ2 H2)
theorem x1q {te:TE}{g:TG}{tb:TS}{D:Ends}{σ:St}{H:Hp}:tFor (iStr te) g tb D σ H=te σ H λ v H1=>LoopX g tb D σ v H1:=rfl
def CompX (k:Nat) (js:List Nat) (g:TG) (te:TE) (σ:St) (v:V) (H1:Hp) (Q:VK):Prop:=∃z,v=.str z/\∃W:Nat->Nat->List V->St->Hp->Prop,(∃m,W 0 m [] (compSt k js σ) H1)/\∀i m ys σ' H',W i m ys σ' H' ->
  ((Itx z).stop i H'/\∀p,H' p=none->Q (.ref p) (upd H' p (.lst ys))) \/
  ((Itx z).go i H'/\ys.length < sizeLine/\∃N:List V->St->Hp->Prop,(∀zs σ2 H2,N zs σ2 H2->∃m',m' < m/\W (i+1) m' zs σ2 H2)/\∀x H2,(Itx z).yld i H' x H2->g x σ' H2 λ σ3 H3=>te σ3 H3 λ v H4=>N (ys++[v]) σ3 H4)
theorem y8y {k:Nat}{js:List Nat}{ti:TE}{g:TG}{te:TE}{σ:St}{H:Hp}{Q:VK}:tComp (iStr ti) k js g te σ H Q=ti σ H λ x H1=>CompX k js g te σ x H1 Q:=rfl
section
variable {X:Cx}
def findI (x y:Str):Int:=match Builtin.Str.occurrences x y 0 x.length 1 with | i::_=>(i:Int) | []=>-1
def rFind:V->List V->Hp->VK->Prop:=λ x xs H Q=>∃z y,x=.str z/\xs=[.str y]/\Q (.int (findI z y)) H
end
section
variable {X:Cx}
def rCatL (K:W.Frag):R2:=λ x y H Q=>∃l b xs zs,x=.ref l/\y=.ref b/\SqL K H l xs/\SqL K H b zs/\xs.length+zs.length≤sizeLine/\∀p,H p=none->Q (.ref p) (upd H p (.lst (xs++zs)))
end
section
variable {pg:Program}{wd:World}{B:Around}{X0:Value->Shared->Prop}{s0:Shared}
end
def ItzL (K:W.Frag) (a b:Addr):It:=⟨λ i H=>∃xs ys x y,SqL K H a xs/\SqL K H b ys/\xs[i]?=some x/\ys[i]?=some y,
 λ i H v H'=>∃T x y,v=.ref T/\H T=none/\H'=upd H T (.tup [x,y])/\∀xs ys,SqL K H a xs->SqL K H b ys->xs[i]?=some x/\ys[i]?=some y,λ i H=>∃xs ys,SqL K H a xs/\SqL K H b ys/\(xs.length≤i\/ys.length≤i)⟩
section
variable {X:Cx}{es:List Expr}{x1:Nat}{pp:Pos}
def iZipL (K:W.Frag) (ta:TA):TI:=λ σ H R=>ta σ H λ vs H1=>∃a b xs ys,vs=[.ref a,.ref b]/\SqL K H1 a xs/\SqL K H1 b ys/\R (ItzL K a b) H1
end
def LoopZL (K:PySem.W.Frag) (g:TG) (tb:TS) (D:Ends) (σ:St) (vs:List V) (H1:Hp):Prop:=∃a b xs ys,vs=[.ref a,.ref b]/\SqL K H1 a xs/\SqL K H1 b ys/\∃W:Nat->Nat->St->Hp->Prop,(∃m,W 0 m σ H1)/\∀i m σ H,W i m σ H ->
 ((ItzL K a b).stop i H/\D.nx σ H)\/((ItzL K a b).go i H/\∃N:St->Hp->Prop,(∀σ' H',N σ' H'->∃m',m' < m/\W (i+1) m' σ' H')/\∀x H',(ItzL K a b).yld i H x H'->g x σ H' λ σ2 H2=>tb { D with nx:=N,ct:=N,bk:=D.nx } σ2 H2)
theorem y8m {K:W.Frag}{ta:TA}{g:TG}{tb:TS}{D:Ends}{σ:St}{H:Hp}:tFor (iZipL K ta) g tb D σ H=ta σ H λ vs H1=>LoopZL K g tb D σ vs H1:=rfl
def CompZL (K:PySem.W.Frag) (k:Nat) (js:List Nat) (g:TG) (te:TE) (σ:St) (vs:List V) (H1:Hp) (Q:VK):Prop:=∃a b xs ys,vs=[.ref a,.ref b]/\SqL K H1 a xs/\SqL K H1 b ys/\∃W:Nat->Nat->List V->St->Hp->Prop,(∃m,W 0 m [] (compSt k js σ) H1)/\∀i m zs σ' H',W i m zs σ' H' ->
  ((ItzL K a b).stop i H'/\∀p,H' p=none->Q (.ref p) (upd H' p (.lst zs))) \/
  ((ItzL K a b).go i H'/\zs.length < sizeLine/\∃N:List V->St->Hp->Prop,(∀zs σ2 H2,N zs σ2 H2->∃m',m' < m/\W (i+1) m' zs σ2 H2)/\∀x H2,(ItzL K a b).yld i H' x H2->g x σ' H2 λ σ3 H3=>te σ3 H3 λ v H4=>N (zs++[v]) σ3 H4)
theorem y5z {K:W.Frag}{k:Nat}{js:List Nat}{ta:TA}{g:TG}{te:TE}{σ:St}{H:Hp}{Q:VK}:tComp (iZipL K ta) k js g te σ H Q=ta σ H λ vs H1=>CompZL K k js g te σ vs H1 Q:=rfl
section
variable {prog:Program}{w:World}{A:Around}{E:Value->Shared->Prop}{s:Shared}
theorem z6b {l:Addr}{T:String}{o:Obj}{vs:List Value}{n:Nat}{ns:List Int}{Q:Value->Shared->Prop}(hT:T = "list" \/ T = "tuple") (ho:s.heap.get? l=some o) (hc:o.cls=.type T) (hd:o.data=.seq vs.toArray n) (hI:IntsAre vs ns) (h64:vs.length < 64)
  (h:∀(h1 h2:Heap) (vs':List Value) (ns':List Int) (e:Nat),(∀b u,s.heap.get? b=some u->h1.get? b=some u)->(∀b u,h1.get? b=some u->h2.get? b=some u)->h2.get? h1.objs.size=some (seqObj "list" vs'.toArray e)->IntsAre vs' ns'->ns'.Perm ns->ns'.Pairwise (·≤·)->Q (.ref h1.objs.size) { s with heap:=h2 }) :
  wpAny (model prog w) A (call (.builtin "sorted") [.ref l]) Q E s:=by
 refine Calls.call_function_entry kind_sorted plain_sorted entry_sorted (args_sorted1 _) ?_
 unfold Builtin.«sorted»
 refine wpAny_bind (m:=checkCount "sorted" 1 1 _) (wpAny_pure ?_)
 refine wpAny_bind (wpAny_collect_seq l hT ho hc hd (λ h1 k1=>?_) (by simp only [List.size_toArray];exact Nat.le_of_lt (z1b (by omega))))
 rw [show vs.toArray.toList=vs by simp]
 refine wpAny_bind (wpAny_newList ?_)
 have hoL:(h1.push (seqObj "list" vs.toArray 0)).get? h1.objs.size=some (seqObj "list" vs.toArray 0):=Heap.get?_push_size _ rfl
 refine wpAny_bind (wpAny_holding (wpAny_call_entry slot_list_sort ⟨_,hoL,rfl⟩ entry_list_sort (list_sort_tree hoL hI h64 λ out ns' a1 a2 a3=>⟨_,rfl,?_⟩) (args_list_sort _)))
 refine wpAny_pure ⟨_,rfl,?_⟩
 obtain ⟨e,he⟩:=sortedHeap_at (vs:=vs) (out:=out) hoL
 refine h h1 _ out.toList ns' e k1 (λ b u q=>?_) (by rw [Array.toArray_toList];exact he) a1 a2 a3
 have hlt:=Heap.lt_size q
 rw [sortedHeap_old (Nat.ne_of_lt hlt) (by rw [size_push'];exact Nat.lt_succ_of_lt hlt)]
 exact Heap.get?_push_of_some _ q
end
theorem z4u:∀ {xs:List V}{us:List Value},xs.length=us.length->(∀(i:Nat) u,us[i]?=some u->∃x,xs[i]?=some x/\RelV x u)->Vals xs us
 | [],[],_,_=>.nil
 | [],_::_,h,_=>by simp at h
 | _::_,[],h,_=>by simp at h
 | x::xs,u::us,h,f=>by
  obtain ⟨y,e,r⟩:=f 0 u rfl
  cases (Option.some.inj e)
  exact .cons r (z4u (by simpa using h) λ i v e=>f (i+1) v e)
section
variable {X:Cx}
theorem z8y:CallR X (.builtin "sorted") (λ xs H Q=>∃p ns,xs=[.ref p]/\(SqL X.K H p (List.map V.int ns)\/SqT X.K H p (List.map V.int ns))/\ns.length < 64/\∀ns':List Int,ns'.Perm ns->ns'.Pairwise (·≤·)->∀l,H l=none->Q (.ref l) (upd H l (.lst (ns'.map V.int)))):=by
 intro pins s σ H xs us Q I r h
 obtain ⟨p,ns,rfl,hq,h64,q⟩:=h
 obtain ⟨u,rfl,rx⟩:=z4p r
 cases rx
 have fin:∀(h1 h2:Heap) (vs':List Value) (ns':List Int) (e:Nat),(∀b u,s.heap.get? b=some u->h1.get? b=some u)->(∀b u,h1.get? b=some u->h2.get? b=some u)->h2.get? h1.objs.size=some (seqObj "list" vs'.toArray e)->IntsAre vs' ns'->ns'.Perm ns->ns'.Pairwise (·≤·)->EP X pins σ Q (.ref h1.objs.size) { s with heap:=h2 }:=by
  intro h1 h2 vs' ns' e k1 k2 g a1 a2 a3
  have I1:Inv X pins σ H { s with heap:=h1 }:=I.kept (t':=s.toks) k1
  have hz:(ns'.map V.int).length≤sizeLine:=by rw [List.length_map,a2.length_eq];exact Nat.le_of_lt (z1b (by omega))
  have I2:Inv X pins σ (upd H h1.objs.size (.lst (ns'.map V.int))) { s with heap:=h2 }:=I1.laid (t':=s.toks) k2 (Nat.le_refl _) (show ObjOk X.prog X.w _ _ _ (.lst (ns'.map V.int)) from ⟨hz,vs',e,z4v a1,g⟩)
  exact ⟨.ref h1.objs.size,_,I2,rfl,q ns' a2 a3 _ (I1.hok.fresh (Nat.le_refl _))⟩
 rcases hq with hq | hq
 ·obtain ⟨its,r',pl,hz⟩:=I.list hq
  have hi:=z3m r'
  obtain ⟨o,ho,hc,n,hd⟩:=pl.isList
  exact z6b (.inl rfl) ho hc hd hi (by rw [hi.length];exact h64) fin
 ·obtain ⟨its,r',pl,hz⟩:=I.tuple hq
  have hi:=z3m r'
  obtain ⟨o,ho,hc,n,hd⟩:=pl
  exact z6b (.inr rfl) ho hc hd hi (by rw [hi.length];exact h64) fin
theorem z3s:CallR X (.type "range") (λ xs H Q=>∃j:Int,xs=[.int j]/\∀r,H r=none->Q (.ref r) (upd H r (.rng 0 j))):=by
 intro pins s σ H xs us Q I r h
 obtain ⟨j,rfl,q⟩:=h
 obtain ⟨u,rfl,t,rfl⟩:=z4p r
 refine call_range_1 ⟨.ref s.heap.objs.size,_,I.laid (λ b o e=>Heap.get?_push_of_some _ e) (Nat.le_refl _) ?_,rfl,q _ (I.hok.fresh (Nat.le_refl _))⟩
 exact ⟨_,_,_,Heap.get?_push_size _ rfl⟩
def upL (n:Nat):List Int:=(List.range n).map λ (i:Nat)=>(i:Int)
theorem z3k (hc:X.calm=true):CallR X (.type "list") (λ xs H Q=>∃p n,xs=[.ref p]/\H p=some (.rng 0 (Int.ofNat n))/\n≤1000/\∀l,H l=none->Q (.ref l) (upd H l (.lst ((upL n).map V.int)))):=by
 intro pins s σ H xs us Q I r h
 obtain ⟨p,n,rfl,hp,hn,q⟩:=h
 obtain ⟨u,rfl,rx⟩:=z4p r
 cases rx
 obtain ⟨t,u,v,e⟩:=I.hok p _ hp
 have hs:Builtin.Range.small 0 (Int.ofNat n) 1=true:=by
  have z:∀m:Fin 1001,Builtin.Range.small 0 (Int.ofNat m.val) 1=true:=by decide +kernel
  exact z ⟨n,by omega⟩
 have hsz:Builtin.Range.rangeSize 0 (Int.ofNat n) 1=n:=by
  unfold Builtin.Range.rangeSize
  rw [if_pos (by decide)]
  split
  ·show (Int.ofNat n - 0 - 1) / 1+1=_;simp; 
  ·simp at *;omega
 refine call_list_range (I.ok.hd hc) e hs hsz (by omega) λ h' tk acc' c' k g it=>?_
 have rv:Vals ((upL n).map V.int) acc'.toList:=by
  refine z4u (by simp [upL,it.1]) λ i v e=>?_
  rw [Array.getElem?_toList] at e
  obtain ⟨tt,rfl⟩:=it.2 i v e
  have hi:i < n:=by rw [← it.1];exact (Array.getElem?_eq_some_iff.mp e).1
  exact ⟨.int i,by simp [upL,hi],tt,by simp⟩
 exact ⟨.ref s.heap.objs.size,_,I.laid k (Nat.le_refl _) (show ObjOk X.prog X.w _ _ _ (.lst _) from ⟨by simp [upL];exact Nat.le_of_lt (z1b hn),acc'.toList,c',rv,by rw [Array.toArray_toList];exact g⟩),rfl,q _ (I.hok.fresh (Nat.le_refl _))⟩
def rCount:V->List V->Hp->VK->Prop:=λ x ys H Q=>∃a o xs y,x=.ref a/\ys=[y]/\H a=some (.frz o (.tup xs))/\xs.all flatV=true/\flatV y=true/\Q (.int (xs.countP λ z=>eqV z y)) H
def tBMf (r:V->List V->Hp->VK->Prop) (to:TE) (t:TA):TE:=λ σ H Q=>to σ H λ x H1=>(∃a o xs,x=.ref a/\H1 a=some (.frz o (.tup xs))/\o.dict=none)/\t σ H1 λ ys H2=>r x ys H2 Q
end
theorem x0p {X:Cx}{i:Nat}{x:Str}{elt tg iter:Expr}{scope:Scope}{cl:List (Str × Addr)}{pos pos' lpos:Pos}{own fv:List Str}{js:List Nat}{wi:TI}{g:TG}{te:TE}
  (hN:X.N.Nodup) (hx1:X.N[i]?=some x) (hx:Loc X.env.scope x) (hf:X.fn x=true\/X.env.scope.names.lookup x=some .local)
  (hc:X.calm=true) (hi:PI X tg iter wi) (hclos:closureFor scope X.env=pure cl) (hcell:∀y∈scope.names,y.2≠.cell) (hkind:scope.kind=.function)
  (hnames:∀y∈scope.names,y.2=.local->scope.names.lookup y.1=some .local)
  (hcl:∀x c,cl.lookup x=some c->X.env.cells.lookup x=some c)
  (hhas:∀x,((relabel scope X.env).names.lookup x=some .cell\/(relabel scope X.env).names.lookup x=some .free)->∃c,cl.lookup x=some c)
  (hlen:js.length=fv.length) (hcap:∀(i:Nat) x j,fv[i]?=some x->js[i]?=some j->Cap X scope cl x j)
  (hg:∀(C:Addr) (ex:List Addr) (s:Shared) (H:Hp),PG (cxComp X (own++fv) scope cl C ex s H) tg g)
  (he:∀(C:Addr) (ex:List Addr) (s:Shared) (H:Hp),PE (cxComp X (own++fv) scope cl C ex s H) elt te)
  (hsw:swapsWith (.ListComp elt [⟨tg,iter,[],0⟩] scope lpos) (some (.Name x pos')) pos.line X.env=pure true:=by rfl)
  (hs:∀x,foldedSetIterable iter X.env x=pure x:=by intro _;rfl) :
  PS X (.Assign [.Name x pos'] (.ListComp elt [⟨tg,iter,[],0⟩] scope lpos) pos) (tAsg (tComp wi own.length js g te) (gName i)):=by
 intro pins s σ H D I h
 rw [exec_Assign_Name_used _ _ _ _ hsw]
 refine wpAny_bind (wpAny_standAt ?_)
 rw [arm_evalThenUse_ListComp]
 have core:=z8w (use:=some (assign (.Name x pos') X.env)) (QQ:=λ _ s'=>SP X pins D .next s') (fpos:=firstIterPos [⟨tg,iter,[],0⟩] lpos) (pos:=lpos) hc hi hclos hcell hkind hnames hcl hhas hlen hcap hg he hs I h (λ a C s5 H5 fl I5 zC zL zS zc zp ⟨m,hn⟩ q=>?_)
 ·refine wpAny_bind (wpAny_bind (thn core λ _ s' hq=>?_))
  exact wpAny_pure (wpAny_pure hq)
 ·show wpAny (model X.prog X.w) X.A (assign (.Name x pos') X.env (.ref a)) _ X.xe s5
  show wpAny (model X.prog X.w) X.A (do standAt pos';bindName X.env x (.ref a)) _ X.xe s5
  refine wpAny_bind (wpAny_standAt ?_)
  refine bindName_ ?_
  refine z4z I5 hN hx1 hx (show RelV (.ref a) (.ref a) from rfl) (λ s6 I6 ⟨b,sb,hb⟩=>?_) hf
  have cb:C≠b:=by
   rcases hb with rfl | hb
   ·exact zL
   ·exact λ z=>zc x b hb z.symm
  obtain ⟨o,es,ep,e,r⟩:=hn
  refine ⟨m,⟨o,es,ep,(sb.2 C cb).trans e,r⟩,λ h' sc=>?_⟩
  exact ⟨_,H5,I6.turned (t':=s6.toks) (it:=C) (λ d o nd e=>sc.extBut d o nd e) zC zL (.inr zS) zc zp,q⟩
section
variable {X:Cx}
def startsB (x y:Str):Bool:=decide (0+y.length≤x.length) && Builtin.Str.subAt x y 0
def rStarts:V->List V->Hp->VK->Prop:=λ x xs H Q=>∃z y,x=.str z/\xs=[.str y]/\Q (.bl (startsB z y)) H
def rSlStrX:V->Option Int->Option Int->Hp->VK->Prop:=λ x lo hi H Q=>∃z,x=.str z/\z.length≤20000/\Q (.str (Txt.slice z lo hi)) H
theorem z5x:∀ {bs:List Bool}{us:List Value},Vals (bs.map V.bl) us->us=bs.map Value.bool
 | [],_,.nil=>rfl
 | b::bs,_,.cons r t=>by
  cases (show _=Value.bool b from r)
  rw [z5x t];rfl
theorem z9a (hc:X.calm=true):CallR X (.builtin "any") (λ xs H Q=>∃(a:Addr) (bs:List Bool),xs=[.ref a]/\SqL X.K H a (bs.map V.bl)/\Q (.bl (bs.any id)) H):=by
 intro pins s σ H xs us Q I r h
 obtain ⟨a,bs,rfl,hq,q⟩:=h
 obtain ⟨u,rfl,ru⟩:=z4p r
 cases (show u=Value.ref a from ru)
 obtain ⟨its,rv,pl,hz⟩:=I.list hq
 have hl:=pl.isList
 have hlt:a < s.heap.objs.size:=by obtain ⟨_,e,_⟩:=hl;exact Heap.lt_size e
 have hb:=z5x rv
 subst hb
 refine call_any_walk (wpAny_pyIter_list hl ?_)
 refine ⟨s.heap.objs.size,[s.heap.objs.size,a],[s.heap.objs.size],(bs.map Value.bool).toArray.size,_,_,λ i=>(bs[i]?).getD false,rfl,Walks.list (A:=X.A.in1) (I.ok.hd hc) _ a (Nat.ne_of_lt hlt) (bs.map Value.bool).toArray,
  ⟨⟨_,Heap.get?_push_size _ rfl,rfl,rfl⟩,hl.push _⟩,λ i v s' Q' E' hP hQ=>?_,λ h' tk hk=>?_⟩
 ·have hP:(bs.map Value.bool)[i]?=some v:=by simpa using hP
  rw [List.getElem?_map] at hP
  cases e:bs[i]? with
  | none=>rw [e] at hP;cases hP
  | some b =>
   rw [e] at hP;cases hP
   simp only [e,Option.getD_some] at hQ
   exact wpAny_truthy_bool hQ
 ·have e:((List.range (bs.map Value.bool).toArray.size).any λ i=>(bs[i]?).getD false)=bs.any id:=by
   rw [List.size_toArray,List.length_map];exact LSm.range_any bs
  rw [e]
  exact ⟨.bl _,H,I.kept (t':=tk) (LSm.kept_iter hk),rfl,q⟩
end
section
variable {κ:Type} [DecidableEq κ]
def valV (kvs:List (κ × V)) (k:κ):Option V:=(kvs.find? λ kv=>decide (kv.1=k)).map (·.2)
def putK (kvs:List (κ × V)) (k:κ) (v:V):List (κ × V) :=
 if (kvs.any λ kv=>decide (kv.1=k))=true then kvs.map (λ kv=>if kv.1=k then (kv.1,v) else kv) else kvs++[(k,v)]
def dropK (kvs:List (κ × V)) (k:κ):List (κ × V):=kvs.filter λ kv=>decide (kv.1≠k)
theorem KV.drop {kvs:List (κ × V)}{vs:List (κ × Value)}(r:KV kvs vs) (k:κ):KV (dropK kvs k) (without vs k):=by
 unfold KV at r ⊢
 unfold dropK without
 induction r with
 | nil=>exact .nil
 | @cons p q ps qs h t ih =>
  obtain ⟨h1,h2⟩:=h
  rw [List.filter_cons,List.filter_cons]
  by_cases e:p.1=k
  ·have a:¬decide (p.1≠k)=true:=by simp [e]
   have b:¬decide (q.1≠k)=true:=by simp [h1.symm.trans e]
   rw [if_neg a,if_neg b];exact ih
  ·have e':¬q.1=k:=λ z=>e (h1.trans z)
   have a:decide (p.1≠k)=true:=by simp [e]
   have b:decide (q.1≠k)=true:=by simp [e']
   rw [if_pos a,if_pos b];exact .cons ⟨h1,h2⟩ ih
theorem KV.length {kvs:List (κ × V)}{vs:List (κ × Value)}(r:KV kvs vs):kvs.length=vs.length:=Paired.length r
end
abbrev KT (H:Hp):List (List Key × V)->List (List Key × Addr × Value)->Prop:=Paired λ p q=>p.1=q.1/\H q.2.1=some (.tup (p.1.map kV))/\RelV p.2 q.2.2
section
variable {P:Program}{w:World}{H:Hp}{h:Heap}{a:Addr}
end
def DGet (H:Hp) (a:Addr) (y:V) (r:Option V):Prop :=
 (∃kvs k,Rd H a (.dK kvs)/\y=kV k/\r=valV kvs k)\/∃kvs k b,Rd H a (.dT kvs)/\y=.ref b/\H b=some (.tup (k.map kV))/\r=valV kvs k
def DPut (H:Hp) (a:Addr) (y v:V) (H':Hp):Prop :=
 (∃kvs k,H a=some (.dK kvs)/\y=kV k/\kvs.length < sizeLine/\H'=upd H a (.dK (putK kvs k v))) \/
 ∃kvs k b,H a=some (.dT kvs)/\y=.ref b/\H b=some (.tup (k.map kV))/\kvs.length < sizeLine/\H'=upd H a (.dT (putK kvs k v))
theorem DGet.k {H:Hp}{a:Addr}{kvs:List (Key × V)}{k:Key}(e:H a=some (.dK kvs)):DGet H a (kV k) (valV kvs k):=.inl ⟨kvs,k,.inl e,rfl,rfl⟩
theorem DGet.t {H:Hp}{a b:Addr}{kvs:List (List Key × V)}{k:List Key}(e:H a=some (.dT kvs)) (eb:H b=some (.tup (k.map kV))):DGet H a (.ref b) (valV kvs k):=.inr ⟨kvs,k,b,.inl e,rfl,eb,rfl⟩
theorem DPut.k {H:Hp}{a:Addr}{kvs:List (Key × V)}{k:Key}{v:V}(e:H a=some (.dK kvs)) (hl:kvs.length < sizeLine):DPut H a (kV k) v (upd H a (.dK (putK kvs k v))):=.inl ⟨kvs,k,e,rfl,hl,rfl⟩
theorem DPut.t {H:Hp}{a b:Addr}{kvs:List (List Key × V)}{k:List Key}{v:V}(e:H a=some (.dT kvs)) (eb:H b=some (.tup (k.map kV))) (hl:kvs.length < sizeLine) :
  DPut H a (.ref b) v (upd H a (.dT (putK kvs k v))):=.inr ⟨kvs,k,b,e,rfl,eb,hl,rfl⟩
section
variable {X:Cx}{pins:List (Addr × Obj)}{σ:St}{H:Hp}{s:Shared}{a:Addr}{y v:V}{u r:Value}{o:Option V}{A:Around}{E:Value->Shared->Prop}
end
section
variable {X:Cx}{pins:List (Addr × Obj)}{σ:St}{H:Hp}{s:Shared}{a:Addr}{kvs:List (Key × V)}{k:Key}{u:Value}{A:Around}{E:Value->Shared->Prop}
end
def NoSl (i:Expr):Prop:=∀ov iv,subscripted i false ov iv=operate [ov,iv] (getItem ov iv)
theorem x0e {prog:Program}{w:World}{A:Around}{E:Value->Shared->Prop}{s:Shared}{env:Env}{value slice:Expr}{pos:Pos}{T id:String}{Q:Value->Shared->Prop}
  (hl:typeLookup (.type T) "__getitem__" = pure (some (.builtin id))) (hs:NoSl slice)
  (h:wpAny (model prog w) A (eval value env) (λ o s₁=>wpAny (model prog w) A (eval slice env) (λ i s₂=>s₂.TypeIs o T/\wpAny (model prog w) A (getItem o i) Q E s₂) E s₁) E s) :
  wpAny (model prog w) A (eval (.Subscript value slice pos) env) Q E s:=by
 refine Subscript_ (wpAny_mono h (λ o s₁ h₁=>wpAny_mono h₁ (λ i s₂ h₂=>?_) λ _ _ x=>x) λ _ _ x=>x)
 obtain ⟨hT,h₂⟩:=h₂
 unfold subscriptTail
 refine wpAny_bind ?_
 rw [getitemInPython_of_ne hT.not_modules]
 refine wpAny_bind (wpAny_specialOf hT hl ?_)
 have fin:wpAny (model prog w) A (subscripted slice false o i) (λ r s₃=>wpAny (model prog w) A (letTemporaryGo value o r >>= λ _=>pure r) Q E s₃) E s₂:=by
  rw [hs o i]
  exact wpAny_operating (wpAny_mono h₂ (λ r s₃ h₃=>wpAny_bind (wpAny_letTemporaryGo (wpAny_pure h₃))) λ _ _ x=>x)
 first
  | exact wpAny_pure (wpAny_bind fin)
  | exact wpAny_bind (wpAny_pure (wpAny_bind fin))
  | exact wpAny_bind fin
def tDIn (ty td:TE):TE:=λ σ H Q=>ty σ H λ y H1=>td σ H1 λ x H2=>∃a o,x=.ref a/\DGet H2 a y o/\Q (.bl o.isSome) H2
def sDPut (td ty tv:TE):TS:=λ D σ H=>tv σ H λ v H1=>td σ H1 λ x H2=>ty σ H2 λ y H3=>∃a H4,x=.ref a/\DPut H3 a y v H4/\D.nx σ H4
section
variable {X:Cx}{o i e value:Expr}{pos pos' tpos:Pos}{td ty tv:TE}
end
def tDNewK:TE:=λ _ H Q=>∀p,H p=none->Q (.ref p) (upd H p (.dK []))
section
variable {X:Cx}{pos:Pos}
end
def mergeK (kvs more:List (Key × V)):List (Key × V):=more.foldl (λ acc kv=>putK acc kv.1 kv.2) kvs
structure M1 (X:Cx) (o:Expr) (m:Str) (apos:Pos) (e:Expr) (cpos:Pos):Prop where
 base:attributeBase o m X.env (eval o X.env)=eval o X.env
 few:((backTo cpos (starEach [e] X.env)).all (λ x=>!x.1) && (backToKw cpos (keywordEach [] X.env)).all (λ x=>x.1.isSome)
  && decide (([e]:List Expr).length+([]:List Keyword).length+(if ([]:List Keyword).isEmpty then 0 else 1) < 30))=true
 line:(apos.endLine == cpos.line)=true
 trees:backTo cpos (starEach [e] X.env)=[(false,eval e X.env)]
structure M2 (X:Cx) (o:Expr) (m:Str) (apos:Pos) (e f:Expr) (cpos:Pos):Prop where
 base:attributeBase o m X.env (eval o X.env)=eval o X.env
 few:((backTo cpos (starEach [e,f] X.env)).all (λ x=>!x.1) && (backToKw cpos (keywordEach [] X.env)).all (λ x=>x.1.isSome)
  && decide (([e,f]:List Expr).length+([]:List Keyword).length+(if ([]:List Keyword).isEmpty then 0 else 1) < 30))=true
 line:(apos.endLine == cpos.line)=true
 trees:backTo cpos (starEach [e,f] X.env)=[(false,eval e X.env),(false,eval f X.env)]
def IsD (H:Hp) (a:Addr):Prop:=(∃kvs,Rd H a (.dK kvs))\/∃kvs,Rd H a (.dT kvs)
section
variable {X:Cx}{pins:List (Addr × Obj)}{σ:St}{H:Hp}{s:Shared}{a:Addr}{y d:V}{u r:Value}{o:Option V}{A:Around}{E:Value->Shared->Prop}
end
def tDGet1 (td ty:TE):TE:=λ σ H Q=>td σ H λ x H1=>∃a,x=.ref a/\IsD H1 a/\ty σ H1 λ y H2=>∃o,DGet H2 a y o/\Q (o.getD .non) H2
section
variable {X:Cx}{o e f:Expr}{apos cpos:Pos}{td ty tx:TE}
end
section
variable {X:Cx}{pins:List (Addr × Obj)}{σ:St}{H:Hp}{s:Shared}{a:Addr}{kvs:List (Key × V)}{A:Around}{E:Value->Shared->Prop}
end
section
variable {X:Cx}{pins:List (Addr × Obj)}{σ:St}{H:Hp}{s:Shared}{a:Addr}{y:V}{u:Value}{A:Around}{E:Value->Shared->Prop}
end
section
variable {X:Cx}
end
section
variable {κ:Type} [DecidableEq κ]
end
def KTab (P:Program) (w:World) (K:W.Frag) (d:Addr) (kvs:List (Str × Addr)):Prop:=(d == sysModules)=false/\∀h:Heap,K.In h->h.DictOf (mixKind P w) d (kvs.map λ p=>((Sum.inr p.1:Key),Value.ref p.2))
def entT (pm:Params) (l:List (Str × Tok × Addr)):List DictEntry:=l.map λ p=>⟨PyData.keyHash pm p.1,.str p.1 p.2.1,.ref p.2.2⟩
theorem KTab.mk {P:Program}{w:World}{K:W.Frag}{d:Addr}{l:List (Str × Tok × Addr)}{es:Array DictEntry}{n:Nat}(hd:(d == sysModules)=false) (hl:K.lookup d=some { cls:=.type "dict",data:=.dict es n }) (he:es.toList=entT w.params l) (nd:(l.map (·.1)).Nodup) :
  KTab P w K d (l.map λ p=>(p.1,p.2.2)):=by
 refine ⟨hd,λ h KI=>⟨_,es,n,KI d _ hl,⟨rfl,rfl,rfl⟩,rfl,?_,?_,?_⟩⟩
 ·intro e hm
  have hm:e∈es.toList:=Array.mem_toList_iff.mpr hm
  rw [he] at hm
  obtain ⟨p,_,rfl⟩:=List.mem_map.mp hm
  exact ⟨Sum.inr p.1,z5i p.1 p.2.1,rfl⟩
 ·rw [he]
  clear he nd hl
  induction l with
  | nil=>exact .nil
  | cons p r ih=>exact .cons (z5i p.1 p.2.1) rfl ih
 ·rw [List.map_map,List.map_map]
  have e:((λ x:Key × Value=>x.1) ∘ (λ p:Str × Addr=>((Sum.inr p.1:Key),Value.ref p.2))) ∘ (λ p:Str × Tok × Addr=>(p.1,p.2.2))=(λ x:Str=>(Sum.inr x:Key)) ∘ λ p=>p.1:=rfl
  rw [← List.map_map] at *
  have z:(l.map λ p=>(Sum.inr p.1:Key)).Nodup:=by
   have:(l.map λ p=>(Sum.inr p.1:Key))=(l.map (·.1)).map (λ x:Str=>(Sum.inr x:Key)):=by rw [List.map_map];rfl
   rw [this]
   exact List.Pairwise.map _ (λ a b (h:a≠b) z=>h (Sum.inr.inj z)) nd
  simpa [List.map_map,Function.comp_def] using z
theorem y8b {kvs:List (Str × Addr)}{x:Str}:valueAt (kvs.map λ p=>((Sum.inr p.1:Key),Value.ref p.2)) (Sum.inr x)=(kvs.lookup x).map Value.ref:=by
 induction kvs with
 | nil=>rfl
 | cons p r ih =>
  obtain ⟨k,a⟩:=p
  unfold valueAt at *
  rw [List.map_cons,List.find?_cons,List.lookup_cons]
  by_cases e:x=k
  ·subst e;simp
  ·have h1:decide ((Sum.inr k:Key)=Sum.inr x)=false:=decide_eq_false λ z=>e (Sum.inr.inj z).symm
   have h2:(x == k)=false:=beq_eq_false_iff_ne.mpr e
   rw [h2]
   simp only [h1]
   exact ih
section
variable {X:Cx}
def rKTab (kvs:List (Str × Addr)):V->Hp->VK->Prop:=λ y H Q=>∃x a,y=.str x/\kvs.lookup x=some a/\Q (.ref a) H
def tKTab (kvs:List (Str × Addr)) (te:TE):TE:=λ σ H Q=>te σ H λ y H1=>rKTab kvs y H1 Q
theorem x0s {n:Str}{i:Expr}{np pos:Pos}{d:Addr}{kvs:List (Str × Addr)}{te:TE}(hg:Gl X n) (hm:X.mg n=some (.ref d)) (T:KTab X.prog X.w X.K d kvs) (hi:PE X i te) (hs:NoSl i) (hdb:(n == ("__debug__" : Str))=false:=by decide) :
  PE X (.Subscript (.Name n np) i pos) (tKTab kvs te):=by
 intro pins s σ H Q I h
 refine x0e PySem.F.slot_dict_getitem.lookup hs (z2y I hg hm (thn (hi pins s σ H _ I h) λ iv s2 ⟨y,H2,I2,ry,x,a,ey,l,q⟩=>?_) hdb)
 subst ey
 obtain ⟨t,rfl⟩:=ry
 have dd:=T.2 s2.heap I2.kIn
 refine ⟨dd.typeIs,wpAny_getItem_of (z5i x t) dd.mapOf (v:=.ref a) (by rw [y8b,l];rfl) ⟨.ref a,H2,I2.tok _,rfl,q⟩⟩
def tKIn (kvs:List (Str × Addr)) (te:TE):TE:=λ σ H Q=>te σ H λ y H1=>∃x,y=.str x/\Q (.bl (kvs.lookup x).isSome) H1
end
def KTup (K:W.Frag) (a:Addr) (xs:List V):Prop:=∃(o:Obj) (its:Array Value) (n:Nat),K.lookup a=some o/\o.cls=.type "tuple" /\ o.data=.seq its n/\its.size≤sizeLine/\Vals xs its.toList
theorem KTup.sq {K:W.Frag}{a:Addr}{xs:List V}(h:KTup K a xs) {H:Hp}:SqT K H a xs:=.inr h
section
variable {pg:Program}{wd:World}{B:Around}{X0:Value->Shared->Prop}{s0:Shared}
end
def ItzM (K:W.Frag) (a b:Addr):It:=⟨λ i H=>∃xs ys x y,SqL K H a xs/\SqT K H b ys/\xs[i]?=some x/\ys[i]?=some y,
 λ i H v H'=>∃T x y,v=.ref T/\H T=none/\H'=upd H T (.tup [x,y])/\∀xs ys,SqL K H a xs->SqT K H b ys->xs[i]?=some x/\ys[i]?=some y,λ i H=>∃xs ys,SqL K H a xs/\SqT K H b ys/\(xs.length≤i\/ys.length≤i)⟩
section
variable {X:Cx}{es:List Expr}{x1:Nat}{pp:Pos}
def iZipM (K:W.Frag) (ta:TA):TI:=λ σ H R=>ta σ H λ vs H1=>∃a b xs ys,vs=[.ref a,.ref b]/\SqL K H1 a xs/\SqT K H1 b ys/\R (ItzM K a b) H1
end
def LoopZM (K:PySem.W.Frag) (g:TG) (tb:TS) (D:Ends) (σ:St) (vs:List V) (H1:Hp):Prop:=∃a b xs ys,vs=[.ref a,.ref b]/\SqL K H1 a xs/\SqT K H1 b ys/\∃W:Nat->Nat->St->Hp->Prop,(∃m,W 0 m σ H1)/\∀i m σ H,W i m σ H ->
 ((ItzM K a b).stop i H/\D.nx σ H)\/((ItzM K a b).go i H/\∃N:St->Hp->Prop,(∀σ' H',N σ' H'->∃m',m' < m/\W (i+1) m' σ' H')/\∀x H',(ItzM K a b).yld i H x H'->g x σ H' λ σ2 H2=>tb { D with nx:=N,ct:=N,bk:=D.nx } σ2 H2)
theorem y8l {K:W.Frag}{ta:TA}{g:TG}{tb:TS}{D:Ends}{σ:St}{H:Hp}:tFor (iZipM K ta) g tb D σ H=ta σ H λ vs H1=>LoopZM K g tb D σ vs H1:=rfl
def CompZM (K:PySem.W.Frag) (k:Nat) (js:List Nat) (g:TG) (te:TE) (σ:St) (vs:List V) (H1:Hp) (Q:VK):Prop:=∃a b xs ys,vs=[.ref a,.ref b]/\SqL K H1 a xs/\SqT K H1 b ys/\∃W:Nat->Nat->List V->St->Hp->Prop,(∃m,W 0 m [] (compSt k js σ) H1)/\∀i m zs σ' H',W i m zs σ' H' ->
  ((ItzM K a b).stop i H'/\∀p,H' p=none->Q (.ref p) (upd H' p (.lst zs))) \/
  ((ItzM K a b).go i H'/\zs.length < sizeLine/\∃N:List V->St->Hp->Prop,(∀zs σ2 H2,N zs σ2 H2->∃m',m' < m/\W (i+1) m' zs σ2 H2)/\∀x H2,(ItzM K a b).yld i H' x H2->g x σ' H2 λ σ3 H3=>te σ3 H3 λ v H4=>N (zs++[v]) σ3 H4)
theorem y5y {K:W.Frag}{k:Nat}{js:List Nat}{ta:TA}{g:TG}{te:TE}{σ:St}{H:Hp}{Q:VK}:tComp (iZipM K ta) k js g te σ H Q=ta σ H λ vs H1=>CompZM K k js g te σ vs H1 Q:=rfl
def CompTI (K:PySem.W.Frag) (k:Nat) (js:List Nat) (g:TG) (tc:TT) (te:TE) (σ:St) (v:V) (H1:Hp) (Q:VK):Prop:=∃a,v=.ref a/\(∃xs,SqT K H1 a xs)/\∃W:Nat->Nat->List V->St->Hp->Prop,(∃m,W 0 m [] (compSt k js σ) H1)/\∀i m zs σ' H',W i m zs σ' H' ->
  ((Itt K a).stop i H'/\∀p,H' p=none->Q (.ref p) (upd H' p (.lst zs))) \/
  ((Itt K a).go i H'/\zs.length < sizeLine/\∃N:List V->St->Hp->Prop,(∀zs σ2 H2,N zs σ2 H2->∃m',m' < m/\W (i+1) m' zs σ2 H2)/\∀x H2,(Itt K a).yld i H' x H2->g x σ' H2 λ σ3 H3=>tc σ3 H3 λ b H4=>if b=true then te σ3 H4 λ v H5=>N (zs++[v]) σ3 H5 else N zs σ3 H4)
theorem y6c {K:W.Frag}{k:Nat}{js:List Nat}{tx:TE}{g:TG}{tc:TT}{te:TE}{σ:St}{H:Hp}{Q:VK}:tCompI (iTup K tx) k js g tc te σ H Q=tx σ H λ v H1=>CompTI K k js g tc te σ v H1 Q:=rfl
theorem CompTI.mk {K:W.Frag}{a:Addr}{xs:List V}{k:Nat}{js:List Nat}{g:TG}{tc:TT}{te:TE}{Q:VK}{σ:St}{H:Hp}(h1:SqT K H a xs) (Pv:Nat->List V->St->Hp->Prop) (h0:Pv 0 [] (compSt k js σ) H) (hl:∀i zs σ H,i≤xs.length->Pv i zs σ H->SqT K H a xs/\zs.length < sizeLine)
  (hs:∀i x zs σ H,xs[i]?=some x->Pv i zs σ H->g x σ H λ σ3 H3=>tc σ3 H3 λ b H4=>if b=true then te σ3 H4 λ v H5=>Pv (i+1) (zs++[v]) σ3 H5 else Pv (i+1) zs σ3 H4) (hz:∀zs σ H,Pv xs.length zs σ H->∀p,H p=none->Q (.ref p) (upd H p (.lst zs))) :
  CompTI K k js g tc te σ (.ref a) H Q:=by
 refine ⟨a,rfl,⟨xs,h1⟩,λ i m zs σ H=>m=xs.length - i/\i≤xs.length/\Pv i zs σ H,⟨_,rfl,Nat.zero_le _,h0⟩,?_⟩
 rintro i m zs σ H ⟨rfl,hi,p⟩
 obtain ⟨k1,k2⟩:=hl i zs σ H hi p
 by_cases hlt:i < xs.length
 ·refine .inr ⟨⟨xs,_,k1,List.getElem?_eq_getElem hlt⟩,k2,Pv (i+1),λ zs' σ' H' p'=>⟨xs.length - (i+1),by omega,rfl,hlt,p'⟩,λ v H' yy=>?_⟩
  obtain ⟨rfl,ex⟩:=yy
  exact hs i v zs σ _ (ex xs k1) p
 ·have e:i=xs.length:=by omega
  exact .inl ⟨⟨xs,k1,by omega⟩,hz zs σ H (e ▸ p)⟩
section
variable {X:Cx}
def rJoinD (K:W.Frag):V->List V->Hp->VK->Prop:=λ x xs H Q=>∃(z:Str) (l:Addr) (ys:List Str),x=.str z/\z.length=0/\xs=[.ref l]/\SqL K H l (ys.map V.str)/\ys.length≤100/\(∀y∈ys,okS 10 y)/\(okS 1000 (Builtin.Str.glued z ys)->Q (.str (Builtin.Str.glued z ys)) H)
theorem x0q {es:List Expr}{k:Nat}{pos:Pos}{t:TGs}{n:Nat}{K:W.Frag}(hK:X.K=K) (h:PG X (.Tuple es k pos) (gTup X.K n t)):PG X (.Tuple es k pos) (gTup K n t):=hK ▸ h
end
theorem x5w {X:Cx}{scope:Scope}{cl:List (Str × Addr)}{x0 x1 x2:Str}{j0 j1 j2:Nat}(c0:Cap X scope cl x0 j0) (c1:Cap X scope cl x1 j1) (c2:Cap X scope cl x2 j2):∀(i:Nat) x j,[x0,x1,x2][i]?=some x->[j0,j1,j2][i]?=some j->Cap X scope cl x j
 | 0,_,_,h1,h2=>by cases h1;cases h2;exact c0
 | 1,_,_,h1,h2=>by cases h1;cases h2;exact c1
 | 2,_,_,h1,h2=>by cases h1;cases h2;exact c2
 | _+3,_,_,h1,_=>by cases h1
theorem z2f {cells:List (Str × Addr)}{y z u:Str}{a b d:Addr}(h:cells.lookup y=some a) (h2:cells.lookup z=some b) (h3:cells.lookup u=some d):∀x c,[(y,a),(z,b),(u,d)].lookup x=some c->cells.lookup x=some c:=λ x c e=>by
 rcases List.mem_cons.mp (PySem.mem_of_lookup e) with q | q
 ·cases q;exact h
 ·rcases List.mem_cons.mp q with q | q
  ·cases q;exact h2
  ·cases List.mem_singleton.mp q;exact h3
structure FunD (K:W.Frag) (x qual:Str) (st:Stmt) (dV:Addr) (its:Array Value) (f:Addr) (fd:FuncData):Prop where
 ex:∃(oc:Value) (od:Option Addr) (kV doc pm:Value) (an:Option Addr) (cdv ct:Value) (osl:Array (Option Value)),
  fd=W.fnOf x qual (defArgs st) (defBody st) (defScope st) (.ref dV) kV doc pm an cdv ct/\K.lookup f=some ⟨oc,od,.func fd,osl⟩/\W.codeIn K cdv qual=true
 kp:W.keepIn K (.ref f)=true
 dt:∃(o:Obj) (n:Nat),K.lookup dV=some o/\o.data=.seq its n
section
variable {P:Program}{w:World}{K:W.Frag}{mg:Str->Option Value}{base:Heap}
end
structure CalleeD (P:Program) (w:World) (K:W.Frag) (mg:Str->Option Value) (base:Heap) (CX:CXT) (k:Nat) (x:Str) (ps:List Str) (dvs:List V) (sp:Sp):Prop where
 has:∃(f:Addr) (fd:FuncData) (ds:List Value),FnOk P w K mg base CX k f fd ps sp/\mg x=some (.ref f)/\W.keepIn K (.ref f)=true/\Binds K fd ps ds/\Vals dvs ds
section
variable {X:Cx}{CX:CXT}{k:Nat}{ps:List Str}{dvs:List V}{sp:Sp}{E:XK}{x:Str}{p pos:Pos}{e:Expr}{es:List Expr}{t:TA}
end
def totS (z:Str) (ys:List Str):Nat:=ys.foldl (λ (n:Nat) (y:Str)=>n+y.length+z.length) 0
section
variable {X:Cx}
def rJoinW (K:W.Frag):V->List V->Hp->VK->Prop:=λ x xs H Q=>∃(z:Str) (l:Addr) (ys:List Str),x=.str z/\xs=[.ref l]/\SqL K H l (ys.map V.str)/\totS z ys≤1000000/\Q (.str (Builtin.Str.glued z ys)) H
def rMulS:R2:=λ x y H Q=>∃a n,x=.str a/\y=.int n/\0≤n/\n≤100/\a.length≤10/\∀z:Str,z.length=a.length * n.toNat->Q (.str z) H
def rIxQ:R2:=λ x y H Q=>∃p xs i v,x=.ref p/\y=.int i/\(H p=some (.lst xs)\/H p=some (.tup xs))/\atI xs i=some v/\Q v H
theorem x1j:IxR X rIxQ:=by
 intro value slice pins s σ H x y v u Q I rx ry h hs
 obtain ⟨p,xs,i,z,e1,e2,hh | hh,ha,q⟩:=h
 ·exact z0q value slice pins s σ H x y v u Q I rx ry ⟨p,xs,i,z,e1,e2,hh,ha,q⟩ hs
 ·exact z0t value slice pins s σ H x y v u Q I rx ry ⟨p,xs,i,z,e1,e2,hh,ha,q⟩ hs
end
section
open PySem.Builtin PySem.Builtin.Str
def splitL (c:Nat):List Nat->List (List Nat)
 | []=>[[]]
 | d::r=>if d=c then []::splitL c r else match splitL c r with
  | []=>[[d]]
  | p::ps=>(d::p)::ps
def strL (L:List Nat):Str:=⟨L.toArray⟩
section
variable {X:Cx}
def rSplit:V->List V->Hp->VK->Prop:=λ x ys H Q=>∃(t:Str) (c:Nat),x=.str t/\ys=[.str ⟨#[c]⟩]/\c < 256/\t.length≤1000000/\∀l,H l=none->Q (.ref l) (upd H l (.lst ((splitL c t.cps.toList).map λ w=>V.str (strL w))))
end
end
section
variable {X:Cx}
def rInN:R2:=λ x y H Q=>∃p xs,x=.non/\y=.ref p/\H p=some (.lst xs)/\(∀z∈xs,flatV z=true\/∃a ys,z=.ref a/\H a=some (.tup ys))/\Q (.bl (xs.any λ z=>eqV z .non)) H
end
section
variable {pg:Program}{wd:World}{B:Around}{X0:Value->Shared->Prop}{s0:Shared}{J d:Addr}{m:Nat}{Pr:Nat->Value->Prop}{OK:Heap->Prop}
end
section
variable {X:Cx}
def rMulC:R2:=λ x y H Q=>∃a n,x=.str (strL a)/\y=.int n/\0≤n/\n≤100/\a.length≤10/\Q (.str (strL (List.replicate n.toNat a).flatten)) H
end
section
variable {pg:Program}{wd:World}{B:Around}{X0:Value->Shared->Prop}{z0:Shared}
end
section
variable {X:Cx}
def rExtendT:V->List V->Hp->VK->Prop:=λ x vs H Q=>∃l b xs zs,x=.ref l/\vs=[.ref b]/\H l=some (.lst xs)/\H b=some (.tup zs)/\xs.length+zs.length≤sizeLine/\Q .non (upd H l (.lst (xs++zs)))
def rUpdate:V->List V->Hp->VK->Prop:=λ x ys H Q=>∃a b kvs more,x=.ref a/\ys=[.ref b]/\a≠b/\H a=some (.dK kvs)/\H b=some (.dK more)/\kvs.length+more.length≤sizeLine/\Q .non (upd H a (.dK (mergeK kvs more)))
theorem z3o {es r:List Expr}{k:Nat}{pos:Pos}{te:TE}{t:TA}(h:PE X (.Tuple es k pos) te) (hr:PA X r t):PA X (.Tuple es k pos::r) (tCons te t):=z0a h hr rfl
end
def AlkV (H:Hp):Nat->V->V->Prop
 | 0,x,y=>flatV x=true/\x=y
 | d+1,x,y=>(flatV x=true/\x=y)\/∃(a b:Addr) (xs ys:List V),x=.ref a/\y=.ref b/\((H a=some (.lst xs)/\H b=some (.lst ys))\/(H a=some (.tup xs)/\H b=some (.tup ys)))/\xs.length=ys.length/\∀(i:Nat) z w,xs[i]?=some z->ys[i]?=some w->AlkV H d z w
theorem AlkV.flat {H:Hp}{d:Nat}{x:V}(h:flatV x=true):AlkV H d x x:=by
 cases d with
 | zero=>exact ⟨h,rfl⟩
 | succ d=>exact .inl ⟨h,rfl⟩
theorem AlkV.tup {H:Hp}{d:Nat}{a b:Addr}{xs:List V}(h1:H a=some (.tup xs)) (h2:H b=some (.tup xs)) (f:xs.all flatV=true):AlkV H (d+1) (.ref a) (.ref b) :=
 .inr ⟨a,b,xs,xs,rfl,rfl,.inr ⟨h1,h2⟩,rfl,λ i z w e1 e2=>by
  rw [e1] at e2;cases e2
  exact .flat (List.all_eq_true.mp f _ (List.mem_of_getElem? e1))⟩
section
variable {X:Cx}{pins:List (Addr × Obj)}{σ:St}{H:Hp}{s:Shared}
def rEqD:R2:=λ x y H Q=>(∃a,x=.ref a)/\AlkV H 9 x y/\Q (.bl true) H
def rNeD:R2:=λ x y H Q=>(∃a,x=.ref a)/\AlkV H 9 x y/\Q (.bl false) H
end
section
variable {X:Cx}
def iSeq (K:W.Frag) (tl:TE):TI:=λ σ H R=>tl σ H λ x H1=>(∃a,x=.ref a/\(∃xs,SqL K H1 a xs)/\R (Itl K a) H1)\/(∃a,x=.ref a/\(∃xs,SqT K H1 a xs)/\R (Itt K a) H1)
theorem x2t {tg l:Expr}{tl:TE}(hl:PE X l tl):PI X tg l (iSeq X.K tl):=by
 intro pins s σ H R I h
 refine thn (hl pins s σ H _ I h) λ v s1 ⟨x,H1,I1,r1,q1⟩=>?_
 rcases q1 with ⟨a,e,⟨xs,hq⟩,q⟩ | ⟨a,e,⟨xs,hq⟩,q⟩
 ·subst e
  cases r1
  obtain ⟨its,rv,p,hz⟩:=I1.list hq
  refine wpAny_pyIter_list p.isList ?_
  refine ⟨s1.heap.objs.size,[s1.heap.objs.size],_,_,H1,rfl,I1.kept (t':=s1.toks) λ b o e=>Heap.get?_push_of_some _ e,z7q a _,⟨_,Heap.get?_push_size _ rfl,rfl,rfl⟩,λ b hb=>?_,q⟩
  have e:b=s1.heap.objs.size:=by simpa using hb
  subst e
  exact I1.fpOk (Nat.le_refl _) (I1.hok.fresh (Nat.le_refl _))
 ·subst e
  cases r1
  obtain ⟨its,rv,p,hz⟩:=I1.tuple hq
  refine wpAny_pyIter_tuple (show s1.heap.IsTuple a its.toArray from p) ?_
  refine ⟨s1.heap.objs.size,[s1.heap.objs.size],_,_,H1,rfl,I1.kept (t':=s1.toks) λ b o e=>Heap.get?_push_of_some _ e,z6a a _,⟨_,Heap.get?_push_size _ rfl,rfl,rfl⟩,λ b hb=>?_,q⟩
  have e:b=s1.heap.objs.size:=by simpa using hb
  subst e
  exact I1.fpOk (Nat.le_refl _) (I1.hok.fresh (Nat.le_refl _))
theorem x1t {K:W.Frag}{te:TE}{g:TG}{tb:TS}{D:Ends}{σ:St}{H:Hp}:tFor (iSeq K te) g tb D σ H=te σ H λ x H1=>LoopL K g tb D σ x H1\/LoopT K g tb D σ x H1:=rfl
theorem y9a {K:W.Frag}{k:Nat}{js:List Nat}{ti:TE}{g:TG}{te:TE}{σ:St}{H:Hp}{Q:VK}:tComp (iSeq K ti) k js g te σ H Q=ti σ H λ x H1=>CompL K k js g te σ x H1 Q\/CompT K k js g te σ x H1 Q:=rfl
end
def Itrl (K:W.Frag) (a:Addr) (n:Nat):It:=⟨λ i H=>∃xs,SqL K H a xs/\xs.length=n/\i < n,λ i H x H'=>H'=H/\∀xs,SqL K H a xs->xs[n - 1 - i]?=some x,λ i H=>∃xs,SqL K H a xs/\xs.length=n/\i=n⟩
section
variable {X:Cx}{tg:Expr}
def iRevL (K:W.Frag) (te:TE):TI:=λ σ H R=>te σ H λ x H1=>∃a xs,x=.ref a/\SqL K H1 a xs/\R (Itrl K a xs.length) H1
end
def LoopVL (K:PySem.W.Frag) (g:TG) (tb:TS) (D:Ends) (σ:St) (x:V) (H1:Hp):Prop:=∃a xs,x=.ref a/\SqL K H1 a xs/\∃W:Nat->Nat->St->Hp->Prop,(∃m,W 0 m σ H1)/\∀i m σ H,W i m σ H ->
 ((Itrl K a xs.length).stop i H/\D.nx σ H)\/((Itrl K a xs.length).go i H/\∃N:St->Hp->Prop,(∀σ' H',N σ' H'->∃m',m' < m/\W (i+1) m' σ' H')/\∀x H',(Itrl K a xs.length).yld i H x H'->g x σ H' λ σ2 H2=>tb { D with nx:=N,ct:=N,bk:=D.nx } σ2 H2)
theorem y8n {K:W.Frag}{te:TE}{g:TG}{tb:TS}{D:Ends}{σ:St}{H:Hp}:tFor (iRevL K te) g tb D σ H=te σ H λ x H1=>LoopVL K g tb D σ x H1:=rfl
end L2
namespace L2
open PySem PySem.Spec PyProof.Rows PySem.W PySem.Calls
section
variable {M:Model}{A:Around}{E:Value->Shared->Prop}{s₀ s:Shared}{m cm:Str->Option Value}{env:Env}{cs:List (Str × Addr)}
end
section
variable {M:Model}{A:Around}{E:Value->Shared->Prop}{s:Shared}
end
def CelO (c:Addr) (v:V):HO:=.ext λ h=>∃u,RelV v u/\h.IsCell c (some u)
def CodO (c:Addr) (qual:Str):HO:=.ext λ h=>h.CodeRec (.ref c) qual
def LamO (fa c':Addr) (qual:Str) (params:Arguments) (body:Expr) (scope:Scope) (cl:List (Str × Addr)):HO:=.ext λ h=>∃pm ctv,h.get? fa=some (kla_obj "<lambda>" qual params body scope cl pm c' ctv)
structure CelAt (H:Hp) (cl:List (Str × Addr)) (vcs:List V):Prop where
 len:cl.length=vcs.length
 at_:∀(i:Nat) q,cl[i]?=some q->∃v o,vcs[i]?=some v/\H q.2=some (.frz o (CelO q.2 v))
 apart:cl.Pairwise λ x y=>x.2≠y.2
structure LmScope (N ps fv:List Str) (sc:Scope):Prop where
 kind:sc.kind=.function
 co:sc.isCoroutine=false
 gen:sc.isGenerator=false
 nd:N.Nodup
 pre:N.take (ps++fv).length=ps++fv
 par:∀x∈ps,sc.names.lookup x=some .local\/sc.names.lookup x=some .cell
 fre:∀x∈fv,sc.names.lookup x=some .free
 has:∀y∈sc.names,y.2=.free->y.1∈fv
 own:∀x∈fv,∀y∈sc.names,y.2=.cell->y.1≠x
def CallV (P:Program) (w:World) (K:W.Frag) (mg:Str->Option Value) (base:Heap) (k:Nat) (fa:Addr) (vs:List V) (H:Hp) (Q:VK):Prop :=
 ∀(A:Around) (outer:List Env) (s:Shared) (us:List Value),Room k A->Env0 P w K mg base A outer s H->Vals vs us->codeAny (model P w) A (.call (.ref fa) ⟨us,[]⟩) (CR CX0 outer P w H s Q λ _ _ _=>False) s
end L2
namespace L2
open PySem PySem.Spec PyProof.Rows PySem.W PySem.Calls
def FnV (H:Hp) (fa:Addr):Prop:=∃φ,H fa=some (.ext φ)/\∀h,φ h->FnAt fa h
def tCalV (P:Program) (w:World) (K:W.Frag) (mg:Str->Option Value) (base:Heap) (k i:Nat) (t:TA):TE:=λ σ H Q=>∃fa,σ[i]?=some (some (.ref fa))/\FnV H fa/\t σ H λ vs H1=>FnV H1 fa/\CallV P w K mg base k fa vs H1 Q
section
variable {X:Cx}{k:Nat}{x:Str}{p pos:Pos}{e:Expr}{es:List Expr}{t:TA}
end
def OwnCl (ec:List (Str × Addr)) (fv:List Str) (cl:List (Str × Addr)):Prop:=cl.map (·.1)=fv/\∀q∈cl,ec.lookup q.1=some q.2
def TabOk (H:Hp) (T:Addr) (pos:Pos) (qual:Str):Prop:=∃ps,H T=some (.tbl ps)/\TriplesOk ps.toList/\(codeAmong pos ps.toList=none\/∃c',codeAmong pos ps.toList=some (.ref c')/\H c'=some (CodO c' qual))
structure TabF (base:Heap) (mg:Str->Option Value) (c T:Addr):Prop where
 hd:CodeHd base c T
 none_:base.get? T=none
 blt:∃bm o,mg "__builtins__" = some (.ref bm)/\bm≠builtinsNs/\bm≠mainGlobals/\bm≠T/\base.get? bm=some o/\o.cls=.type "module" /\ o.dict=some builtinsNs/\o.data=.plain
 ne:mainGlobals≠T
def tLam (ec:List (Str × Addr)) (fv:List Str) (T:Addr) (pos:Pos) (qual:Str) (params:Arguments) (body:Expr) (scope:Scope):TE:=λ _ H Q=>TabOk H T pos qual /\
 ∀fa c' cl H2,OwnCl ec fv cl->H fa=none->H2 fa=some (LamO fa c' qual params body scope cl)->H2 c'=some (CodO c' qual)->TabOk H2 T pos qual->(∀b o,b≠T->H b=some o->H2 b=some o)->Q (.ref fa) H2
section
variable {X:Cx}{params:Arguments}{body:Expr}{scope:Scope}{pos:Pos}{fv:List Str}{c T:Addr}{cl:List (Str × Addr)}
end
end L2
namespace L2
open PySem PySem.Spec PyProof.Rows PySem.W PySem.Calls
def LoopE (K:PySem.W.Frag) (g:TG) (tb:TS) (D:Ends) (σ:St) (v:V) (H1:Hp):Prop:=∃a xs,v=.ref a/\SqT K H1 a xs/\∃W:Nat->Nat->St->Hp->Prop,(∃m,W 0 m σ H1)/\∀i m σ H,W i m σ H ->
 ((Ite K a).stop i H/\D.nx σ H)\/((Ite K a).go i H/\∃N:St->Hp->Prop,(∀σ' H',N σ' H'->∃m',m' < m/\W (i+1) m' σ' H')/\∀x H',(Ite K a).yld i H x H'->g x σ H' λ σ2 H2=>tb { D with nx:=N,ct:=N,bk:=D.nx } σ2 H2)
theorem x1v {K:W.Frag}{te:TE}{g:TG}{tb:TS}{D:Ends}{σ:St}{H:Hp}:tFor (iEnum K te) g tb D σ H=te σ H λ v H1=>LoopE K g tb D σ v H1:=rfl
section
variable {X:Cx}
def rIndex (K:W.Frag):V->List V->Hp->VK->Prop:=λ x ys H Q=>∃a xs y j,x=.ref a/\ys=[y]/\SqL K H a xs/\xs.all flatV=true/\flatV y=true/\(∃z,xs[j]?=some z/\eqV z y=true)/\(∀m z,m < j->xs[m]?=some z->eqV z y=false)/\Q (.int (j:Nat)) H
end
section
variable {prog:Program}{w:World}{A:Around}{R:Result->Shared->Prop}{I:Addr}{fp wr:List Addr}{n:Nat}{P:Nat->Value->Prop}{St:Nat->Heap->Prop}
end
section
variable {X:Cx}
def tKwD (r:V->V->Hp->VK->Prop) (te td:TE):TE:=λ σ H Q=>te σ H λ x H1=>td σ H1 λ y H2=>r x y H2 Q
def rMnD (K:W.Frag):V->V->Hp->VK->Prop:=λ x y H Q=>∃a ns,x=.ref a/\SqL K H a (List.map V.int ns)/\(ns=[]->Q y H)/\∀M:Int,M∈ns->(∀z∈ns,M≤z)->Q (.int M) H
def rMxD (K:W.Frag):V->V->Hp->VK->Prop:=λ x y H Q=>∃a ns,x=.ref a/\SqL K H a (List.map V.int ns)/\(ns=[]->Q y H)/\∀M:Int,M∈ns->(∀z∈ns,z≤M)->Q (.int M) H
theorem y9e (hc:X.calm=true):CallR X (.builtin "max") (λ xs H Q=>∃a ns,xs=[.ref a]/\SqL X.K H a (List.map V.int ns)/\0 < ns.length/\∀M:Int,M∈ns->(∀z∈ns,z≤M)->Q (.int M) H):=by
 intro pins s σ H xs us Q I r h
 obtain ⟨a,ns,rfl,hq,hne,q⟩:=h
 obtain ⟨u,rfl,ru⟩:=z4p r
 cases (show u=Value.ref a from ru)
 obtain ⟨its,rv,pl,hz⟩:=I.list hq
 have hi:=z3m rv
 obtain ⟨xs,e⟩:=hi.allInts.items
 have hns:ns=xs.toList.map (·.1):=by rw [← hi.numsOf,← nums_intItems,← e]
 have hl:=pl.isList
 rw [e] at hl
 have hsz:0 < xs.size:=by rw [hns,List.length_map,Array.length_toList] at hne;exact hne
 refine max_intList (I.ok.hd hc) hl hsz λ v h' tk hv kk=>?_
 obtain ⟨t,rfl⟩:=intItems_at hv
 obtain ⟨h1,h2⟩:=argBest_gt (numAt xs) (xs.size - 1)
 refine ⟨.int _,H,I.kept kk,⟨t,rfl⟩,q _ ?_ λ z hz=>?_⟩
 ·rw [hns,numAt_eq];exact getD_mem (by rw [List.length_map,Array.length_toList];omega)
 ·rw [hns] at hz
  obtain ⟨j,hj,rfl⟩:=mem_getD hz
  rw [List.length_map,Array.length_toList] at hj
  rw [← numAt_eq];exact h2 j (by omega)
end
section
variable {pg:Program}{wd:World}{B:Around}{X0:Value->Shared->Prop}{s0:Shared}
end
def ItzN (K:W.Frag) (a b:Addr):It:=⟨λ i H=>∃xs ys x y,SqT K H a xs/\SqL K H b ys/\xs[i]?=some x/\ys[i]?=some y,
 λ i H v H'=>∃T x y,v=.ref T/\H T=none/\H'=upd H T (.tup [x,y])/\∀xs ys,SqT K H a xs->SqL K H b ys->xs[i]?=some x/\ys[i]?=some y,λ i H=>∃xs ys,SqT K H a xs/\SqL K H b ys/\(xs.length≤i\/ys.length≤i)⟩
section
variable {X:Cx}{es:List Expr}{x1:Nat}{pp:Pos}
def iZipN (K:W.Frag) (ta:TA):TI:=λ σ H R=>ta σ H λ vs H1=>∃a b xs ys,vs=[.ref a,.ref b]/\SqT K H1 a xs/\SqL K H1 b ys/\R (ItzN K a b) H1
end
def LoopZN (K:PySem.W.Frag) (g:TG) (tb:TS) (D:Ends) (σ:St) (vs:List V) (H1:Hp):Prop:=∃a b xs ys,vs=[.ref a,.ref b]/\SqT K H1 a xs/\SqL K H1 b ys/\∃W:Nat->Nat->St->Hp->Prop,(∃m,W 0 m σ H1)/\∀i m σ H,W i m σ H ->
 ((ItzN K a b).stop i H/\D.nx σ H)\/((ItzN K a b).go i H/\∃N:St->Hp->Prop,(∀σ' H',N σ' H'->∃m',m' < m/\W (i+1) m' σ' H')/\∀x H',(ItzN K a b).yld i H x H'->g x σ H' λ σ2 H2=>tb { D with nx:=N,ct:=N,bk:=D.nx } σ2 H2)
theorem y8k {K:W.Frag}{ta:TA}{g:TG}{tb:TS}{D:Ends}{σ:St}{H:Hp}:tFor (iZipN K ta) g tb D σ H=ta σ H λ vs H1=>LoopZN K g tb D σ vs H1:=rfl
def CompZN (K:PySem.W.Frag) (k:Nat) (js:List Nat) (g:TG) (te:TE) (σ:St) (vs:List V) (H1:Hp) (Q:VK):Prop:=∃a b xs ys,vs=[.ref a,.ref b]/\SqT K H1 a xs/\SqL K H1 b ys/\∃W:Nat->Nat->List V->St->Hp->Prop,(∃m,W 0 m [] (compSt k js σ) H1)/\∀i m zs σ' H',W i m zs σ' H' ->
  ((ItzN K a b).stop i H'/\∀p,H' p=none->Q (.ref p) (upd H' p (.lst zs))) \/
  ((ItzN K a b).go i H'/\zs.length < sizeLine/\∃N:List V->St->Hp->Prop,(∀zs σ2 H2,N zs σ2 H2->∃m',m' < m/\W (i+1) m' zs σ2 H2)/\∀x H2,(ItzN K a b).yld i H' x H2->g x σ' H2 λ σ3 H3=>te σ3 H3 λ v H4=>N (zs++[v]) σ3 H4)
theorem y5x {K:W.Frag}{k:Nat}{js:List Nat}{ta:TA}{g:TG}{te:TE}{σ:St}{H:Hp}{Q:VK}:tComp (iZipN K ta) k js g te σ H Q=ta σ H λ vs H1=>CompZN K k js g te σ vs H1 Q:=rfl
section
variable {X:Cx}
def rInsert:V->List V->Hp->VK->Prop:=λ x vs H Q=>∃l xs i y,x=.ref l/\vs=[.int i,y]/\H l=some (.lst xs)/\0≤i/\i≤xs.length/\xs.length < sizeLine/\Q .non (upd H l (.lst (xs.take i.toNat++y::xs.drop i.toNat)))
theorem y5a:MtR X "list.insert" rInsert:=by
 intro pins s σ H x vs v us Q I rx rv h
 obtain ⟨l,xs,i,y,rfl,rfl,hH,i0,i1,hz,q⟩:=h
 cases rx
 obtain ⟨u,w,rfl,⟨t,rfl⟩,rw'⟩:=z9h rv
 obtain ⟨z,its,n,r,hl,e⟩:=I.lstM hH
 have s63:sizeLine≤2 ^ 62:=by rw [sizeLine_eq];decide
 have hf:Builtin.List.listFitsIndex i=true:=fitsIndex_both (by omega) (by omega)
 refine call_meets F.slot_list_insert ⟨_,e,rfl⟩ F.entry_list_insert (F.args_list_insert_3 _ _ _)
  (AutoSeq1.list_insert_list_int_val_1 l its.toArray n i t w (by simp [hf]) (by rw [List.size_toArray];omega)) ⟨e,?_⟩
 refine ⟨.non,_,I.lset (its':=its.take i.toNat++w::its.drop i.toNat) hH e ?_ ((r.take _).append (.cons rw' (r.drop _))) ?_,rfl,q⟩
 ·show (its.toArray.extract 0 (if i < 0 then (i+(its.toArray.size:Int)).toNat else min i.toNat its.toArray.size)).push w++its.toArray.extract (if i < 0 then (i+(its.toArray.size:Int)).toNat else min i.toNat its.toArray.size)=_
  rw [if_neg (by omega),List.size_toArray,Nat.min_eq_left (by omega)]
  apply Array.ext'
  simp [List.extract_eq_take_drop,List.take_of_length_le]
 ·rw [List.length_append,List.length_cons,List.length_take,List.length_drop]
  omega
end
structure Apart6 (z ti ox j1 j2 j3 t1 t2 t3:Addr):Prop where
 ti_z:ti≠z
 ox_z:ox≠z
 j1_z:j1≠z
 j2_z:j2≠z
 j3_z:j3≠z
 ti_ox:ti≠ox
 ti_j1:ti≠j1
 ti_j2:ti≠j2
 ti_j3:ti≠j3
 ox_j1:ox≠j1
 ox_j2:ox≠j2
 ox_j3:ox≠j3
 j12:j1≠j2
 j13:j1≠j3
 j23:j2≠j3
 t1_z:t1≠z
 t2_z:t2≠z
 t2_ox:t2≠ox
 t2_j1:t2≠j1
 t3_z:t3≠z
 t3_ox:t3≠ox
 t3_j1:t3≠j1
 t3_j2:t3≠j2
section
variable {pg:Program}{wd:World}{B:Around}{X0:Value->Shared->Prop}{s0:Shared}
end
def Itz3 (K:W.Frag) (a b c:Addr):It:=⟨λ i H=>∃xs ys zs x y z,SqT K H a xs/\SqT K H b ys/\SqT K H c zs/\xs[i]?=some x/\ys[i]?=some y/\zs[i]?=some z,
 λ i H v H'=>∃T x y z,v=.ref T/\H T=none/\H'=upd H T (.tup [x,y,z])/\∀xs ys zs,SqT K H a xs->SqT K H b ys->SqT K H c zs->xs[i]?=some x/\ys[i]?=some y/\zs[i]?=some z,λ i H=>∃xs,SqT K H a xs/\xs.length≤i⟩
section
variable {X:Cx}{es:List Expr}{x1:Nat}{pp:Pos}
def iZip3 (K:W.Frag) (ta:TA):TI:=λ σ H R=>ta σ H λ vs H1=>∃a b c xs ys zs,vs=[.ref a,.ref b,.ref c]/\SqT K H1 a xs/\SqT K H1 b ys/\SqT K H1 c zs/\R (Itz3 K a b c) H1
end
def CompZ3 (K:PySem.W.Frag) (k:Nat) (js:List Nat) (g:TG) (te:TE) (σ:St) (vs:List V) (H1:Hp) (Q:VK):Prop:=∃a b c xs ys zs,vs=[.ref a,.ref b,.ref c]/\SqT K H1 a xs/\SqT K H1 b ys/\SqT K H1 c zs/\∃W:Nat->Nat->List V->St->Hp->Prop,(∃m,W 0 m [] (compSt k js σ) H1)/\∀i m zs σ' H',W i m zs σ' H' ->
  ((Itz3 K a b c).stop i H'/\∀p,H' p=none->Q (.ref p) (upd H' p (.lst zs))) \/
  ((Itz3 K a b c).go i H'/\zs.length < sizeLine/\∃N:List V->St->Hp->Prop,(∀zs σ2 H2,N zs σ2 H2->∃m',m' < m/\W (i+1) m' zs σ2 H2)/\∀x H2,(Itz3 K a b c).yld i H' x H2->g x σ' H2 λ σ3 H3=>te σ3 H3 λ v H4=>N (zs++[v]) σ3 H4)
theorem y6b {K:W.Frag}{k:Nat}{js:List Nat}{ta:TA}{g:TG}{te:TE}{σ:St}{H:Hp}{Q:VK}:tComp (iZip3 K ta) k js g te σ H Q=ta σ H λ vs H1=>CompZ3 K k js g te σ vs H1 Q:=rfl
section
variable {prog:Program}{w:World}{A:Around}{R:Result->Shared->Prop}{I:Addr}{fp wr:List Addr}{n:Nat}{P:Nat->Value->Prop}{St:Nat->Heap->Prop}
def TupK (h0:Heap) (S:Addr) (wr:List Addr) (kf:Nat->Int) (P:Nat->Value->Prop):Prop:=∀i v,P i v->∃a its,v=.ref a/\¬a∈wr/\a≠S/\h0.IsTuple a its/\(its.size:Int) < 2 ^ 63/\kf i=its.size
def FirstB (kf:Nat->Int) (m i:Nat):Prop:=∀j,j < m->kf j≤kf i/\(j < i->kf j < kf i)
theorem y7w (W:Walks prog w A.in1 I fp wr n P St) (kf:Nat->Int) (S:Addr) (hSf:¬S∈fp) (h0:Heap) (hk:TupK h0 S wr kf P):∀(k j i:Nat) (s:Shared) (vb:Value) (tb:Tok) (c:Nat),n - (j+1)=k->j+1≤n->St (j+1) s.heap->P i vb->i≤j->FirstB kf (j+1) i->(∀b o,¬b∈wr->b≠S->h0.get? b=some o->s.heap.get? b=some o)->s.heap.get? S=some ⟨.type "list",none,.seq #[vb,.int (kf i) tb] c,#[]⟩ ->
  (∀i v h' tk,P i v->i < n->FirstB kf n i->(∀b o,¬b∈wr->b≠S->h0.get? b=some o->h'.get? b=some o)->R (.ok (.ret v)) { s with heap:=h',toks:=tk })->codeAny (model prog w) A (.builtin "max.loop" ⟨[.ref I,.builtin "len",.ref S],[]⟩) R s:=by
 have hSw:¬S∈wr:=λ h=>hSf (W.sub _ h)
 have nm:(toString "max" ++ toString ".loop" : String) = "max.loop" := by decide
 intro k;induction k with
 | zero =>
  intro j i s vb tb c hk' hj hst hPb hij hb kp0 hS hR
  have e0:j+1=n:=by omega
  refine codeAny_builtin PySem.F.entry_max_loop ?_;rw [Around.under_plainId PySem.F.plain_max_loop _]
  show wpAny (model prog w) A.in1 (seqItems? (.ref S) >>= _) _ _ s
  refine wpAny_bind (m:=seqItems? (.ref S)) (wpAny_seqItems hS rfl ?_)
  show wpAny (model prog w) A.in1 (tryCatch (pyNext (.ref I)) _ >>= _) _ _ s
  refine wpAny_bind (m:=tryCatch (pyNext (.ref I)) _) (wpAny_tryCatch (W.done s _ _ (e0 ▸ hst) λ h' tk kp=>?_))
  have hS1:=kp S _ hSw hS
  show wpAny (model prog w) A.in1 (updateSeq S (λ _=>#[]) >>= _) _ _ _
  refine wpAny_bind (m:=updateSeq S (λ _=>#[])) (wpAny_updateSeq hS1 rfl (wpAny_bind (wpAny_letGo (wpAny_pure ?_))))
  exact hR i vb _ tk hPb (by omega) (e0 ▸ hb) λ b o hbw hbS e=>(Heap.get?_update_other _ _ (Ne.symm hbS)).trans (kp b o hbw (kp0 b o hbw hbS e))
 | succ k ih =>
  intro j i s vb tb c hk' hj hst hPb hij hb kp0 hS hR
  have lt0:j+1 < n:=by omega
  refine codeAny_builtin PySem.F.entry_max_loop ?_;rw [Around.under_plainId PySem.F.plain_max_loop _]
  show wpAny (model prog w) A.in1 (seqItems? (.ref S) >>= _) _ _ s
  refine wpAny_bind (m:=seqItems? (.ref S)) (wpAny_seqItems hS rfl ?_)
  show wpAny (model prog w) A.in1 (tryCatch (pyNext (.ref I)) _ >>= _) _ _ s
  refine wpAny_bind (m:=tryCatch (pyNext (.ref I)) _) (wpAny_tryCatch (W.item (j+1) s _ _ lt0 hst λ v h' tk hP hst1 kp=>?_))
  have hS1:=kp S _ hSw hS
  have kp1:∀b o,¬b∈wr->b≠S->h0.get? b=some o->h'.get? b=some o:=λ b o hbw hbS e=>kp b o hbw (kp0 b o hbw hbS e)
  obtain ⟨a,its,rfl,aw,aS,at0,a63,ek⟩:=hk _ _ hP
  show wpAny (model prog w) A.in1 (tryCatch (holding [.ref a] (call (.builtin "len") [.ref a])) _ >>= _) _ _ _
  refine wpAny_bind (wpAny_tryCatch (wpAny_holding (len_tuple (z4k at0 λ o e=>kp1 a o aw aS e) a63 ?_)))
  rw [← ek]
  show wpAny (model prog w) A.in1 (tryCatch (holding [.ref a,.int (kf (j+1)) _] (richCompare .Gt (.int (kf (j+1)) _) (.int (kf i) tb) >>= _)) _ >>= _) _ _ _
  refine wpAny_bind (wpAny_tryCatch (wpAny_holding (wpAny_bind (CmpOf.ints_gt (prog:=prog) (w:=w) (A:=A.in1) (P:=λ i v=>∃t,v=.int (kf i) t) kf (λ i v h=>h) (j+1) i _ _ _ _ _ ⟨_,rfl⟩ ⟨tb,rfl⟩ ?_))))
  refine wpAny_bind (wpAny_holding (wpAny_truthy_bool ?_))
  refine wpAny_bind (wpAny_letGo (wpAny_pure ?_))
  by_cases hb':kf (j+1) > kf i
  ·simp only [hb',decide_true,if_true]
   refine wpAny_bind (m:=updateSeq S _) (wpAny_updateSeq hS1 rfl (wpAny_bind (wpAny_letGo ?_)))
   rw [nm]
   refine wpAny_pure (a:=_) ⟨plainId_quiet PySem.F.plain_max_loop _,ih (j+1) (j+1) _ (.ref a) _ _ (by omega) lt0 (W.frame _ _ _ hst1 λ b hbf o e=>(Heap.get?_update_other _ _ (λ h:S=b=>hSf (by rw [h];exact hbf))).trans e) hP (Nat.le_refl _) (λ j' hj'=>?_) (λ b o hbw hbS e=>(Heap.get?_update_other _ _ (Ne.symm hbS)).trans (kp1 b o hbw hbS e)) (Heap.get?_update_self _ hS1 rfl) λ i2 v2 h2 tk2 q1 q2 q3 q4=>hR i2 v2 h2 tk2 q1 q2 q3 q4⟩
   by_cases e:j'=j+1
   ·subst e;exact ⟨Int.le_refl _,λ z=>absurd z (Nat.lt_irrefl _)⟩
   ·have:=(hb j' (by omega)).1
    exact ⟨by omega,λ _=>by omega⟩
  ·simp only [hb',decide_false,Bool.false_eq_true,if_false]
   refine wpAny_bind (m:=letGo _) (wpAny_letGo ?_)
   rw [nm]
   refine wpAny_pure (a:=_) ⟨plainId_quiet PySem.F.plain_max_loop _,ih (j+1) i _ vb tb c (by omega) lt0 hst1 hPb (by omega) (λ j' hj'=>?_) kp1 hS1 λ i2 v2 h2 tk2 q1 q2 q3 q4=>hR i2 v2 h2 tk2 q1 q2 q3 q4⟩
   by_cases e:j'=j+1
   ·subst e;exact ⟨by omega,λ z=>by omega⟩
   ·exact hb j' (by omega)
theorem y4y (W:Walks prog w A.in1 I fp wr n P St) (kf:Nat->Int) (S:Addr) (hSf:¬S∈fp) (h0:Heap) (hk:TupK h0 S wr kf P) (hn:0 < n) {s:Shared}{c:Nat}(hst:St 0 s.heap) (kp0:∀b o,¬b∈wr->b≠S->h0.get? b=some o->s.heap.get? b=some o) (hS:s.heap.get? S=some ⟨.type "list",none,.seq #[] c,#[]⟩)
  (hR:∀i v h' tk,P i v->i < n->FirstB kf n i->(∀b o,¬b∈wr->b≠S->h0.get? b=some o->h'.get? b=some o)->R (.ok (.ret v)) { s with heap:=h',toks:=tk }):codeAny (model prog w) A (.builtin "max.loop" ⟨[.ref I,.builtin "len",.ref S],[]⟩) R s:=by
 have hSw:¬S∈wr:=λ h=>hSf (W.sub _ h)
 have nm:(toString "max" ++ toString ".loop" : String) = "max.loop" := by decide
 refine codeAny_builtin PySem.F.entry_max_loop ?_;rw [Around.under_plainId PySem.F.plain_max_loop _]
 show wpAny (model prog w) A.in1 (seqItems? (.ref S) >>= _) _ _ s
 refine wpAny_bind (m:=seqItems? (.ref S)) (wpAny_seqItems hS rfl ?_)
 show wpAny (model prog w) A.in1 (tryCatch (pyNext (.ref I)) _ >>= _) _ _ s
 refine wpAny_bind (m:=tryCatch (pyNext (.ref I)) _) (wpAny_tryCatch (W.item 0 s _ _ hn hst λ v h' tk hP hst1 kp=>?_))
 have hS1:=kp S _ hSw hS
 have kp1:∀b o,¬b∈wr->b≠S->h0.get? b=some o->h'.get? b=some o:=λ b o hbw hbS e=>kp b o hbw (kp0 b o hbw hbS e)
 obtain ⟨a,its,rfl,aw,aS,at0,a63,ek⟩:=hk _ _ hP
 show wpAny (model prog w) A.in1 (tryCatch (holding [.ref a] (call (.builtin "len") [.ref a])) _ >>= _) _ _ _
 refine wpAny_bind (wpAny_tryCatch (wpAny_holding (len_tuple (z4k at0 λ o e=>kp1 a o aw aS e) a63 ?_)))
 rw [← ek]
 show wpAny (model prog w) A.in1 (updateSeq S (λ _=>#[.ref a,.int (kf 0) _]) >>= _) _ _ _
 refine wpAny_bind (m:=updateSeq S _) (wpAny_updateSeq hS1 rfl ?_)
 rw [nm]
 refine wpAny_pure (a:=_) ⟨plainId_quiet PySem.F.plain_max_loop _,y7w W kf S hSf h0 hk _ 0 0 _ (.ref a) _ _ rfl hn (W.frame _ _ _ hst1 λ b hbf o e=>(Heap.get?_update_other _ _ (λ h:S=b=>hSf (by rw [h];exact hbf))).trans e) hP (Nat.le_refl _) (λ j' hj'=>?_) (λ b o hbw hbS e=>(Heap.get?_update_other _ _ (Ne.symm hbS)).trans (kp1 b o hbw hbS e)) (Heap.get?_update_self _ hS1 rfl) λ i2 v2 h2 tk2 q1 q2 q3 q4=>hR i2 v2 h2 tk2 q1 q2 q3 q4⟩
 have z:j'=0:=by omega
 subst z;exact ⟨Int.le_refl _,λ z=>absurd z (Nat.lt_irrefl _)⟩
end
section
variable {X:Cx}
def rMxK (K:W.Frag):V->Hp->VK->Prop:=λ x H Q=>∃(a:Addr) (ps:List Addr),x=.ref a/\SqL K H a (ps.map V.ref)/\0 < ps.length/\∃L:List (List V),L.length=ps.length/\(∀(i:Nat) p t,ps[i]?=some p->L[i]?=some t->H p=some (.tup t))/\∀(i:Nat) p t,ps[i]?=some p->L[i]?=some t->(∀(j:Nat) u,L[j]?=some u->u.length≤t.length/\(j < i->u.length < t.length))->Q (.ref p) H
def tKwK (r:V->Hp->VK->Prop) (te:TE):TE:=λ σ H Q=>te σ H λ x H1=>r x H1 Q
end
section
variable {prog:Program}{w:World}{A:Around}
theorem z8n (a b v:Value):argsOk "max" ⟨[a,b],[(Str.ofString "key",v)]⟩:=by unfold argsOk;kernel_rfl
theorem y4z {E:Value->Shared->Prop}{s:Shared}{a1 a2:Addr}{i1 i2:Array Value}{Q:Value->Shared->Prop}(hh:A.handled=none) (h1:s.heap.IsTuple a1 i1) (h2:s.heap.IsTuple a2 i2) (z1:(i1.size:Int) < 2 ^ 63) (z2:(i2.size:Int) < 2 ^ 63)
  (hQ:∀v h' tk,(v=.ref a1/\i2.size≤i1.size\/v=.ref a2/\i1.size < i2.size)->(∀b o,s.heap.get? b=some o->h'.get? b=some o)->Q v { s with heap:=h',toks:=tk }):wpAny (model prog w) A (call (.builtin "max") [.ref a1,.ref a2] [(Str.ofString "key",.builtin "len")]) Q E s:=by
 have nm:(toString "max" ++ toString ".loop" : String) = "max.loop" := by decide
 have hT:(s.heap.push { cls:=.type "tuple",data:=.seq #[.ref a1,.ref a2] }).IsTuple s.heap.objs.size #[.ref a1,.ref a2]:=⟨_,Heap.get?_push_size _ rfl,rfl,0,rfl⟩
 have hsz:(s.heap.push { cls:=.type "tuple",data:=.seq #[.ref a1,.ref a2] }).objs.size=s.heap.objs.size+1:=Heap.size_push ..
 refine kmb_tree PySem.F.kind_max PySem.F.plain_max PySem.F.entry_max (z8n _ _ _) ?_
 show wpAny _ A.in1 (Builtin.Builtins.bindParams "max" ["key", "default"] 0 ⟨[],[(Str.ofString "key",.builtin "len")]⟩ >>= _) _ _ s
 refine wpAny_bind (wpAny_of_eq (show Builtin.Builtins.bindParams "max" ["key", "default"] 0 ⟨[],[(Str.ofString "key",.builtin "len")]⟩=pure [some (.builtin "len"),none] from rfl) ?_)
 show wpAny _ A.in1 (newTuple [.ref a1,.ref a2] >>= _) _ _ s
 refine wpAny_bind (wpAny_newObj_type ?_)
 refine wpAny_bind (m:=pyIter _) (wpAny_pyIter_tuple hT ?_)
 refine wpAny_bind (m:=newList _) (wpAny_newObj_type ?_)
 rw [nm]
 have W:=Walks.tuple (prog:=prog) (w:=w) (A:=A.in1) hh (s.heap.push { cls:=.type "tuple",data:=.seq #[.ref a1,.ref a2] }).objs.size s.heap.objs.size (by rw [hsz];exact Nat.ne_of_lt (Nat.lt_succ_self _)) #[.ref a1,.ref a2]
 have hI:((s.heap.push { cls:=.type "tuple",data:=.seq #[.ref a1,.ref a2] }).push { cls:=.type "tuple_iterator",data:=.fields #[.ref s.heap.objs.size,.int 0 0] }).objs.size=s.heap.objs.size+2:=by rw [Heap.size_push,hsz]
 have e1:a1 < s.heap.objs.size:=by obtain ⟨o,g,_⟩:=h1;exact Heap.lt_size g
 have e2:a2 < s.heap.objs.size:=by obtain ⟨o,g,_⟩:=h2;exact Heap.lt_size g
 refine wpAny_pure (a:=_) ⟨plainId_quiet PySem.F.plain_max_loop _,y4y W (λ i=>([(i1.size:Int),(i2.size:Int)].getD i 0)) ((s.heap.push { cls:=.type "tuple",data:=.seq #[.ref a1,.ref a2] }).push { cls:=.type "tuple_iterator",data:=.fields #[.ref s.heap.objs.size,.int 0 0] }).objs.size ?_ s.heap (λ i v hv=>?_) (Nat.zero_lt_succ _) ?_ (λ b o _ _ e=>Heap.get?_push_of_some _ (Heap.get?_push_of_some _ (Heap.get?_push_of_some _ e))) (Heap.get?_push_size _ rfl) λ i v h' tk q1 q2 q3 q4=>?_⟩
 ·rw [hI,hsz]
  intro z
  rcases List.mem_cons.mp z with z | z
  ·exact absurd z (Nat.succ_ne_self _)
  ·exact absurd (List.mem_singleton.mp z) (Nat.ne_of_gt (Nat.lt_succ_of_lt (Nat.lt_succ_self _)))
 ·have nw:∀a,a < s.heap.objs.size->¬a∈[(s.heap.push { cls:=.type "tuple",data:=.seq #[.ref a1,.ref a2] }).objs.size]:=λ a h z=>by
   have:=List.mem_singleton.mp z
   rw [hsz] at this;exact Nat.ne_of_lt (Nat.lt_succ_of_lt h) this
  match i,hv with
  | 0,hv=>cases hv;exact ⟨a1,i1,rfl,nw _ e1,by rw [hI];exact Nat.ne_of_lt (Nat.lt_succ_of_lt (Nat.lt_succ_of_lt e1)),h1,z1,rfl⟩
  | 1,hv=>cases hv;exact ⟨a2,i2,rfl,nw _ e2,by rw [hI];exact Nat.ne_of_lt (Nat.lt_succ_of_lt (Nat.lt_succ_of_lt e2)),h2,z2,rfl⟩
  | i+2,hv=>simp at hv
 ·exact W.frame _ _ _ ⟨⟨_,Heap.get?_push_size _ rfl,rfl,rfl⟩,hT.push _⟩ λ b _ o e=>Heap.get?_push_of_some _ e
 ·have kp:∀b o,s.heap.get? b=some o->h'.get? b=some o:=λ b o e=>by
   have bl:=Heap.lt_size e
   exact q4 b o (λ z=>by have:=List.mem_singleton.mp z;rw [hsz] at this;exact Nat.ne_of_lt (Nat.lt_succ_of_lt bl) this) (by rw [hI];exact Nat.ne_of_lt (Nat.lt_succ_of_lt (Nat.lt_succ_of_lt bl))) e
  match i,q1 with
  | 0,q1 =>
   cases q1
   have b:=(q3 1 (Nat.lt_succ_self _)).1
   have b:(i2.size:Int)≤(i1.size:Int):=b
   exact hQ _ _ _ (.inl ⟨rfl,by omega⟩) kp
  | 1,q1 =>
   cases q1
   have b:=(q3 0 (Nat.zero_lt_succ _)).2 (Nat.zero_lt_succ _)
   have b:(i1.size:Int) < (i2.size:Int):=b
   exact hQ _ _ _ (.inr ⟨rfl,by omega⟩) kp
  | i+2,q1=>simp at q1
end
section
variable {X:Cx}
def rMx2:V->V->Hp->VK->Prop:=λ x y H Q=>∃(a b:Addr) (xs ys:List V),x=.ref a/\y=.ref b/\H a=some (.tup xs)/\H b=some (.tup ys)/\(ys.length≤xs.length->Q (.ref a) H)/\(xs.length < ys.length->Q (.ref b) H)
def tKw2 (r:V->V->Hp->VK->Prop) (te tf:TE):TE:=λ σ H Q=>te σ H λ x H1=>tf σ H1 λ y H2=>r x y H2 Q
theorem y0y {e f:Expr}{te tf:TE}{p kp pos p2:Pos}(hc:X.calm=true) (hg:Gl X "max") (hm:X.mg "max" = none) (hg2:Gl X "len") (hm2:X.mg "len" = none) (he:PE X e te) (hf:PE X f tf) (hs:starEach [e,f] X.env=(false,eval e X.env)::starEach [f] X.env:=by rfl) (hs2:starEach [f] X.env=[(false,eval f X.env)]:=by rfl):PE X (.Call (.Name "max" p) [e,f] [⟨some (Str.ofString "key"),.Name "len" p2,kp⟩] pos) (tKw2 rMx2 te tf):=by
 intro pins s σ H Q I h
 refine wpAny_Call_Name_kw (z3p I hg hm boot_max ?_)
 have hA:=(z0a he (z0a hf (z0c (X:=X)) hs2) hs) pos pins s σ H (λ vs H1=>match vs with | [x,y]=>rMx2 x y H1 Q | _=>False) I h
 refine callWith_kw (thn hA λ us s1 ⟨vs,H1,I1,r1,q1⟩=>?_) (by rw [hs,hs2];rfl) (by rw [hs,hs2];rfl)
 match vs,q1 with
 | [x0,y0],q1 =>
  obtain ⟨u,v,rfl,ru,rv⟩:=z9h r1
  refine kws_cons (z3p I1 hg2 hm2 boot_len (kws_nil ?_))
  obtain ⟨a,b,xs,ys,rfl,rfl,ha,hb,qa,qb⟩:=q1
  cases (show u=Value.ref a from ru)
  cases (show v=Value.ref b from rv)
  obtain ⟨i1,t1,p1,y1⟩:=I1.tuple (show SqT X.K H1 a xs from .of ha)
  obtain ⟨i2,t2,p2',y2⟩:=I1.tuple (show SqT X.K H1 b ys from .of hb)
  have l1:=t1.length
  have l2:=t2.length
  have hsz:sizeLine=16777216:=sizeLine_eq
  refine y4z (I1.ok.hd hc) p1 p2' (by rw [List.size_toArray];omega) (by rw [List.size_toArray];omega) λ v h' tk hv kk=>?_
  simp only [List.size_toArray] at hv
  rcases hv with ⟨rfl,hl⟩ | ⟨rfl,hl⟩
  ·exact ⟨.ref a,H1,I1.kept kk,rfl,qa (by omega)⟩
  ·exact ⟨.ref b,H1,I1.kept kk,rfl,qb (by omega)⟩
end
def CompLI (K:PySem.W.Frag) (k:Nat) (js:List Nat) (g:TG) (tc:TT) (te:TE) (σ:St) (v:V) (H1:Hp) (Q:VK):Prop:=∃a,v=.ref a/\(∃xs,SqL K H1 a xs)/\∃W:Nat->Nat->List V->St->Hp->Prop,(∃m,W 0 m [] (compSt k js σ) H1)/\∀i m zs σ' H',W i m zs σ' H' ->
  ((Itl K a).stop i H'/\∀p,H' p=none->Q (.ref p) (upd H' p (.lst zs))) \/
  ((Itl K a).go i H'/\zs.length < sizeLine/\∃N:List V->St->Hp->Prop,(∀zs σ2 H2,N zs σ2 H2->∃m',m' < m/\W (i+1) m' zs σ2 H2)/\∀x H2,(Itl K a).yld i H' x H2->g x σ' H2 λ σ3 H3=>tc σ3 H3 λ b H4=>if b=true then te σ3 H4 λ v H5=>N (zs++[v]) σ3 H5 else N zs σ3 H4)
theorem y6g {K:W.Frag}{k:Nat}{js:List Nat}{tx:TE}{g:TG}{tc:TT}{te:TE}{σ:St}{H:Hp}{Q:VK}:tCompI (iList K tx) k js g tc te σ H Q=tx σ H λ v H1=>CompLI K k js g tc te σ v H1 Q:=rfl
theorem CompLI.mk {K:W.Frag}{a:Addr}{xs:List V}{k:Nat}{js:List Nat}{g:TG}{tc:TT}{te:TE}{Q:VK}{σ:St}{H:Hp}(h1:SqL K H a xs) (Pv:Nat->List V->St->Hp->Prop) (h0:Pv 0 [] (compSt k js σ) H) (hl:∀i zs σ H,i≤xs.length->Pv i zs σ H->SqL K H a xs/\zs.length < sizeLine)
  (hs:∀i x zs σ H,xs[i]?=some x->Pv i zs σ H->g x σ H λ σ3 H3=>tc σ3 H3 λ b H4=>if b=true then te σ3 H4 λ v H5=>Pv (i+1) (zs++[v]) σ3 H5 else Pv (i+1) zs σ3 H4) (hz:∀zs σ H,Pv xs.length zs σ H->∀p,H p=none->Q (.ref p) (upd H p (.lst zs))) :
  CompLI K k js g tc te σ (.ref a) H Q:=by
 refine ⟨a,rfl,⟨xs,h1⟩,λ i m zs σ H=>m=xs.length - i/\i≤xs.length/\Pv i zs σ H,⟨_,rfl,Nat.zero_le _,h0⟩,?_⟩
 rintro i m zs σ H ⟨rfl,hi,p⟩
 obtain ⟨k1,k2⟩:=hl i zs σ H hi p
 by_cases hlt:i < xs.length
 ·refine .inr ⟨⟨xs,_,k1,List.getElem?_eq_getElem hlt⟩,k2,Pv (i+1),λ zs' σ' H' p'=>⟨xs.length - (i+1),by omega,rfl,hlt,p'⟩,λ v H' yy=>?_⟩
  obtain ⟨rfl,ex⟩:=yy
  exact hs i v zs σ _ (ex xs k1) p
 ·have e:i=xs.length:=by omega
  exact .inl ⟨⟨xs,k1,by omega⟩,hz zs σ H (e ▸ p)⟩
def CompRI (lo:Int) (n k:Nat) (js:List Nat) (g:TG) (tc:TT) (te:TE) (σ:St) (H1:Hp) (Q:VK):Prop:=∃W:Nat->Nat->List V->St->Hp->Prop,(∃m,W 0 m [] (compSt k js σ) H1)/\∀i m zs σ' H',W i m zs σ' H' ->
  ((Itr lo n).stop i H'/\∀p,H' p=none->Q (.ref p) (upd H' p (.lst zs))) \/
  ((Itr lo n).go i H'/\zs.length < sizeLine/\∃N:List V->St->Hp->Prop,(∀zs σ2 H2,N zs σ2 H2->∃m',m' < m/\W (i+1) m' zs σ2 H2)/\∀x H2,(Itr lo n).yld i H' x H2->g x σ' H2 λ σ3 H3=>tc σ3 H3 λ b H4=>if b=true then te σ3 H4 λ v H5=>N (zs++[v]) σ3 H5 else N zs σ3 H4)
theorem y6d {k:Nat}{js:List Nat}{ta:TA}{g:TG}{tc:TT}{te:TE}{σ:St}{H:Hp}{Q:VK}:tCompI (iRng1 ta) k js g tc te σ H Q=ta σ H λ vs H1=>∃j:Int,vs=[.int j]/\-(2 ^ 62)≤j/\j < 2 ^ 62/\CompRI 0 j.toNat k js g tc te σ H1 Q:=rfl
theorem CompRI.mk {lo:Int}{n k:Nat}{js:List Nat}{g:TG}{tc:TT}{te:TE}{Q:VK}{σ:St}{H:Hp}(Pv:Nat->List V->St->Hp->Prop) (h0:Pv 0 [] (compSt k js σ) H) (hl:∀i zs σ H,i≤n->Pv i zs σ H->zs.length < sizeLine)
  (hs:∀i zs σ H,i < n->Pv i zs σ H->g (.int (lo+i)) σ H λ σ3 H3=>tc σ3 H3 λ b H4=>if b=true then te σ3 H4 λ v H5=>Pv (i+1) (zs++[v]) σ3 H5 else Pv (i+1) zs σ3 H4) (hz:∀zs σ H,Pv n zs σ H->∀p,H p=none->Q (.ref p) (upd H p (.lst zs))) :
  CompRI lo n k js g tc te σ H Q:=by
 refine ⟨λ i m zs σ H=>m=n - i/\i≤n/\Pv i zs σ H,⟨_,rfl,Nat.zero_le _,h0⟩,?_⟩
 rintro i m zs σ H ⟨rfl,hi,p⟩
 by_cases hlt:i < n
 ·refine .inr ⟨hlt,hl i zs σ H hi p,Pv (i+1),λ zs' σ' H' p'=>⟨n - (i+1),by omega,rfl,hlt,p'⟩,λ v H' yy=>?_⟩
  obtain ⟨rfl,rfl⟩:=yy
  exact hs i zs σ _ hlt p
 ·have e:i=n:=by omega
  exact .inl ⟨show n≤i by omega,hz zs σ H (e ▸ p)⟩
theorem x1x {K:W.Frag}{a:Addr}{xs:List Int}{k:Nat}{js:List Nat}{g:TG}{tc:TT}{te:TE}{Q:VK}{σ:St}{H:Hp}(h1:H a=some (.lst (xs.map V.int))) (lx:xs.length≤1000) (P:Int->Prop) (cs:St) (h0:compSt k js σ=none::cs)
  (hs:∀(x:Int) (y:Option V) (G:Hp) (Rt:V->St->Hp->Prop) (Rf:St->Hp->Prop),x∈xs->Same H G->(∀G',Same H G'->P x->Rt (.int x) (some (.int x)::cs) G')->(∀G',Same H G'->¬P x->Rf (some (.int x)::cs) G')->g (.int x) (y::cs) G λ σ3 H3=>tc σ3 H3 λ b H4=>if b=true then te σ3 H4 λ v H5=>Rt v σ3 H5 else Rf σ3 H4)
  (hz:∀(ks:List Int) (G:Hp) (p:Addr),Same H G->G p=none->(∀k,k∈ks ↔ k∈xs/\P k)->ks.length≤xs.length->Q (.ref p) (upd G p (.lst (ks.map V.int)))):CompLI K k js g tc te σ (.ref a) H Q:=by
 have sz:(1000:Nat) < sizeLine:=z1b (Nat.le_refl _)
 refine CompLI.mk (xs:=xs.map V.int) (.of h1) (λ i zs σ' G=>Same H G/\∃ks:List Int,zs=ks.map V.int/\i≤xs.length/\ks.length≤i/\(∀k,k∈ks ↔ k∈xs.take i/\P k)/\∃y,σ'=y::cs) ⟨Same.refl _,[],rfl,Nat.zero_le _,Nat.zero_le _,λ k=>by simp,none,h0⟩ (λ i zs σ' G il h=>?_) (λ i x zs σ' G e h=>?_) (λ zs σ' G h p hp=>?_)
 ·obtain ⟨u,ks,rfl,i1,k1,_⟩:=h
  exact ⟨.of (u _ _ h1),by rw [List.length_map];exact Nat.lt_of_le_of_lt (Nat.le_trans k1 (Nat.le_trans i1 lx)) sz⟩
 ·obtain ⟨u,ks,rfl,i1,k1,hk,y,rfl⟩:=h
  obtain ⟨n,rfl,hn⟩:∃n,x=.int n/\xs[i]?=some n:=by
   rw [List.getElem?_map] at e
   cases hx:xs[i]? with
   | none=>rw [hx] at e;cases e
   | some n=>rw [hx] at e;cases e;exact ⟨n,rfl,rfl⟩
  have il:=(List.getElem?_eq_some_iff.mp hn).1
  have tk:∀k,k∈xs.take (i+1) ↔ k∈xs.take i\/k=n:=λ k=>by rw [List.take_add_one,hn];simp
  refine hs n y G _ _ (List.mem_of_getElem? hn) u (λ G' u' pn=>?_) (λ G' u' pn=>?_)
  ·refine ⟨u',ks++[n],by rw [List.map_append];rfl,il,by rw [List.length_append];exact Nat.succ_le_succ k1,λ k=>?_,_,rfl⟩
   rw [List.mem_append,List.mem_singleton,hk,tk]
   constructor
   ·rintro (⟨a,b⟩ | rfl)
    ·exact ⟨.inl a,b⟩
    ·exact ⟨.inr rfl,pn⟩
   ·rintro ⟨a | rfl,b⟩
    ·exact .inl ⟨a,b⟩
    ·exact .inr rfl
  ·refine ⟨u',ks,rfl,il,Nat.le_succ_of_le k1,λ k=>?_,_,rfl⟩
   rw [hk,tk]
   constructor
   ·rintro ⟨a,b⟩
    exact ⟨.inl a,b⟩
   ·rintro ⟨a | rfl,b⟩
    ·exact ⟨a,b⟩
    ·exact absurd b pn
 ·obtain ⟨u,ks,rfl,i1,k1,hk,y,rfl⟩:=h
  rw [List.length_map] at k1 hk
  exact hz ks G p u hp (λ k=>by rw [hk,List.take_length]) k1
theorem x4e {n k:Nat}{js:List Nat}{g:TG}{tc:TT}{te:TE}{Q:VK}{σ:St}{H:Hp}(ln:n≤1000) (P:Nat->Prop) (cs:St) (h0:compSt k js σ=none::cs)
  (hs:∀(x:Nat) (y:Option V) (G:Hp) (Rt:V->St->Hp->Prop) (Rf:St->Hp->Prop),x < n->Same H G->(∀G',Same H G'->P x->Rt (.int (x:Int)) (some (.int (x:Int))::cs) G')->(∀G',Same H G'->¬P x->Rf (some (.int (x:Int))::cs) G')->g (.int (x:Int)) (y::cs) G λ σ3 H3=>tc σ3 H3 λ b H4=>if b=true then te σ3 H4 λ v H5=>Rt v σ3 H5 else Rf σ3 H4)
  (hz:∀(ks:List Int) (G:Hp) (p:Addr),Same H G->G p=none->(∀k,k∈ks ↔ ∃j:Nat,k=j/\j < n/\P j)->ks.length≤n->Q (.ref p) (upd G p (.lst (ks.map V.int)))):CompRI 0 n k js g tc te σ H Q:=by
 have sz:(1000:Nat) < sizeLine:=z1b (Nat.le_refl _)
 refine CompRI.mk (λ i zs σ' G=>Same H G/\∃ks:List Int,zs=ks.map V.int/\ks.length≤i/\(∀k,k∈ks ↔ ∃j:Nat,k=j/\j < i/\P j)/\∃y,σ'=y::cs) ⟨Same.refl _,[],rfl,Nat.zero_le _,λ k=>⟨(λ z=>nomatch z),λ ⟨j,_,z,_⟩=>absurd z (Nat.not_lt_zero _)⟩,none,h0⟩ (λ i zs σ' G il h=>?_) (λ i zs σ' G il h=>?_) (λ zs σ' G h p hp=>?_)
 ·obtain ⟨u,ks,rfl,k1,_⟩:=h
  rw [List.length_map];exact Nat.lt_of_le_of_lt (Nat.le_trans k1 (Nat.le_trans il ln)) sz
 ·obtain ⟨u,ks,rfl,k1,hk,y,rfl⟩:=h
  rw [Int.zero_add]
  refine hs i y G _ _ il u (λ G' u' pn=>?_) (λ G' u' pn=>?_)
  ·refine ⟨u',ks++[(i:Int)],by rw [List.map_append];rfl,by rw [List.length_append];exact Nat.succ_le_succ k1,λ k=>?_,_,rfl⟩
   rw [List.mem_append,List.mem_singleton,hk]
   constructor
   ·rintro (⟨j,a,b,c⟩ | rfl)
    ·exact ⟨j,a,Nat.lt_succ_of_lt b,c⟩
    ·exact ⟨i,rfl,Nat.lt_succ_self _,pn⟩
   ·rintro ⟨j,a,b,c⟩
    rcases Nat.lt_succ_iff_lt_or_eq.mp b with z | z
    ·exact .inl ⟨j,a,z,c⟩
    ·exact .inr (by rw [a,z])
  ·refine ⟨u',ks,rfl,Nat.le_succ_of_le k1,λ k=>?_,_,rfl⟩
   rw [hk]
   constructor
   ·rintro ⟨j,a,b,c⟩
    exact ⟨j,a,Nat.lt_succ_of_lt b,c⟩
   ·rintro ⟨j,a,b,c⟩
    rcases Nat.lt_succ_iff_lt_or_eq.mp b with z | z
    ·exact ⟨j,a,z,c⟩
    ·exact absurd (z ▸ c) pn
 ·obtain ⟨u,ks,rfl,k1,hk,y,rfl⟩:=h
  exact hz ks G p u hp hk k1
theorem z3v {X:Cx}{i:Nat}{x:Str}{elt tg iter cnd:Expr}{scope:Scope}{cl:List (Str × Addr)}{pos pos' lpos:Pos}{own fv:List Str}{js:List Nat}{wi:TI}{g:TG}{tc:TT}{te:TE}
  (hN:X.N.Nodup) (hx1:X.N[i]?=some x) (hx:Loc X.env.scope x) (hf:X.fn x=true\/X.env.scope.names.lookup x=some .local)
  (hc:X.calm=true) (hi:PI X tg iter wi) (hclos:closureFor scope X.env=pure cl) (hcell:∀y∈scope.names,y.2≠.cell) (hkind:scope.kind=.function)
  (hnames:∀y∈scope.names,y.2=.local->scope.names.lookup y.1=some .local)
  (hcl:∀x c,cl.lookup x=some c->X.env.cells.lookup x=some c)
  (hhas:∀x,((relabel scope X.env).names.lookup x=some .cell\/(relabel scope X.env).names.lookup x=some .free)->∃c,cl.lookup x=some c)
  (hlen:js.length=fv.length) (hcap:∀(i:Nat) x j,fv[i]?=some x->js[i]?=some j->Cap X scope cl x j)
  (hg:∀(C:Addr) (ex:List Addr) (s:Shared) (H:Hp),PG (cxComp X (own++fv) scope cl C ex s H) tg g)
  (he:∀(C:Addr) (ex:List Addr) (s:Shared) (H:Hp),PE (cxComp X (own++fv) scope cl C ex s H) elt te)
  (ht:∀(C:Addr) (ex:List Addr) (s:Shared) (H:Hp),PT (cxComp X (own++fv) scope cl C ex s H) cnd tc)
  (hsw:swapsWith (.ListComp elt [⟨tg,iter,[cnd],0⟩] scope lpos) (some (.Name x pos')) pos.line X.env=pure true:=by rfl)
  (hs:∀x,foldedSetIterable iter X.env x=pure x:=by intro _;rfl) :
  PS X (.Assign [.Name x pos'] (.ListComp elt [⟨tg,iter,[cnd],0⟩] scope lpos) pos) (tAsg (tCompI wi own.length js g tc te) (gName i)):=by
 intro pins s σ H D I h
 rw [exec_Assign_Name_used _ _ _ _ hsw]
 refine wpAny_bind (wpAny_standAt ?_)
 rw [arm_evalThenUse_ListComp]
 have core:=z6k (use:=some (assign (.Name x pos') X.env)) (QQ:=λ _ s'=>SP X pins D .next s') (fpos:=firstIterPos [⟨tg,iter,[cnd],0⟩] lpos) (pos:=lpos) hc hi hclos hcell hkind hnames hcl hhas hlen hcap hg he ht hs I h (λ a C s5 H5 fl I5 zC zL zS zc zp ⟨m,hn⟩ q=>?_)
 ·refine wpAny_bind (wpAny_bind (thn core λ _ s' hq=>?_))
  exact wpAny_pure (wpAny_pure hq)
 ·show wpAny (model X.prog X.w) X.A (assign (.Name x pos') X.env (.ref a)) _ X.xe s5
  show wpAny (model X.prog X.w) X.A (do standAt pos';bindName X.env x (.ref a)) _ X.xe s5
  refine wpAny_bind (wpAny_standAt ?_)
  refine bindName_ ?_
  refine z4z I5 hN hx1 hx (show RelV (.ref a) (.ref a) from rfl) (λ s6 I6 ⟨b,sb,hb⟩=>?_) hf
  have cb:C≠b:=by
   rcases hb with rfl | hb
   ·exact zL
   ·exact λ z=>zc x b hb z.symm
  obtain ⟨o,es,ep,e,r⟩:=hn
  refine ⟨m,⟨o,es,ep,(sb.2 C cb).trans e,r⟩,λ h' sc=>?_⟩
  exact ⟨_,H5,I6.turned (t':=s6.toks) (it:=C) (λ d o nd e=>sc.extBut d o nd e) zC zL (.inr zS) zc zp,q⟩
theorem y5s (f:Array Value->Array Value) (o:Obj):(Obj.mapFields f o).dict=o.dict:=by
 unfold Obj.mapFields
 split<;>rfl
def ExcAt (B h:Heap) (e:Addr) (cls:Value) (dx:Addr) (hd:Value):Prop :=
 ∃oe vs,h.get? e=some oe/\(oe.cls=cls/\oe.dict=some dx)/\oe.data=.fields vs/\vs[1]?=some hd
def TrAt (B h:Heap) (e:Addr) (hd fl:Value):Prop:=∃T oT ts,hd=.ref T/\B.get? T=none/\T≠e/\h.get? T=some oT/\oT.data=.fields ts/\ts[3]?=some fl
def FlyD (B:Heap) (l:List Env) (e:Addr) (cls:Value) (dx:Addr) (fl:Value) (h:Heap):Prop :=
 B.StaysIn h/\B.get? e=none/\h.FunFrames B l/\∃hd,ExcAt B h e cls dx hd/\TrAt B h e hd fl
def FlyD0 (B:Heap) (l:List Env) (e:Addr) (cls:Value) (dx:Addr) (h:Heap):Prop :=
 B.StaysIn h/\B.get? e=none/\h.FunFrames B l/\ExcAt B h e cls dx .none
theorem FlyD.first {B h:Heap}{l:List Env}{e dx:Addr}{cls fl:Value}(x:FlyD B l e cls dx fl h):∃oe vs,h.get? e=some oe/\oe.cls=cls/\oe.data=.fields vs/\oe.dict=some dx :=
 let ⟨_,_,_,_,⟨oe,vs,he,hc,hd,_⟩,_⟩:=x;⟨oe,vs,he,hc.1,hd,hc.2⟩
section
variable {M:Model}{A:Around}{E:Value->Shared->Prop}{s:Shared}{B:Heap}{env:Env}{outer:List Env}{L e dx:Addr}{cls:Value}
theorem y9u {hd:Value}{nx:Bool}{Q:Unit->Shared->Prop}(hfr:A.frames=some (env::outer)) (hf:env.frame=some L) (kb:B.StaysIn s.heap) (nb:B.get? e=none) (fl:s.heap.FunFrames B (env::outer)) (x:ExcAt B s.heap e cls dx hd)
  (q:∀h2,FlyD B (env::outer) e cls dx (rawInt L) h2->s.heap.UpToSlots h2->Q () { s with heap:=h2 }) :
  wpAny M A (do let fo ← frameOf env;let pl ← entryPlaceOf L nx;let tb ← EntryCells.newEntry hd fo .none (rawInt L) .none pl;setField (.ref e) 1 tb) Q E s:=by
 obtain ⟨oe,vs,he,hc,hdt,h1⟩:=x
 have z1:1 < vs.size:=(Array.getElem?_eq_some_iff.mp h1).1
 have nfr:e ∉ (env::outer).filterMap (·.frame):=λ m=>by
  obtain ⟨_,o3,e3,nf3⟩:=fl.mem m
  rw [he] at e3;cases e3
  exact nf3 vs hdt
 refine wpAny_bind (wpAny_frameOf_fun hfr fl hf λ g1 u1=>wpAny_bind (wpAny_entryPlaceOf λ pl ipl=>?_))
 unfold EntryCells.newEntry newFields
 refine wpAny_bind (wpAny_newObj_type ?_ (ipl.sizeOk5 _ _ _ _ _))
 generalize hTO:({ cls:=.type "traceback",dict:=none,data:=.fields ([hd,.ref L,.none,rawInt L,.none]++(if pl.isEmpty then List.replicate 6 Value.none else pl)).toArray }:Obj)=TO
 have e1:g1.get? e=some oe:=(u1.2.1 e nfr).trans he
 have kb1:B.StaysIn g1:=λ b o hb=>(u1.2.1 b λ m=>by rw [(fl.mem m).1] at hb;cases hb).trans (kb b o hb)
 have e2:(g1.push TO).get? e=some oe:=Heap.get?_push_of_some TO e1
 have ne:g1.objs.size≠e:=Nat.ne_of_gt (Heap.lt_size e1)
 have d3:=Obj.data_mapFields hdt (λ a:Array Value=>a.setIfInBounds 1 (Value.ref g1.objs.size))
 have e3:=Heap.get?_update_self (Obj.mapFields (λ a:Array Value=>a.setIfInBounds 1 (Value.ref g1.objs.size))) e2 (Obj.isFreed_of_fields d3)
 have oth:∀b o,b≠e->g1.get? b=some o->((g1.push TO).update e (Obj.mapFields (λ a:Array Value=>a.setIfInBounds 1 (Value.ref g1.objs.size)))).get? b=some o:=λ b o nbe hb=>by
  rw [Heap.get?_update_other _ _ (Ne.symm nbe)]
  exact Heap.get?_push_of_some TO hb
 have norec:∀b o,s.heap.get? b=some o->(∀ws,o.data≠.fields ws)->b≠e:=λ b o hb nf z=>by
  rw [z,he] at hb;cases hb
  exact nf vs hdt
 refine wpAny_setField e2 hdt z1 (q _ ?_ ?_)
 ·refine ⟨λ b o hb=>oth b o (λ z=>by rw [z,nb] at hb;cases hb) (kb1 b o hb),nb,fl.of_keeps λ b o hb nf=>?_,.ref g1.objs.size,?_,?_⟩
  ·obtain ⟨sl,hs⟩:=u1.2.2 b o hb
   exact ⟨_,oth b _ (norec b o hb nf) hs,rfl⟩
  ·exact ⟨_,_,e3,⟨(Obj.cls_mapFields _ _).trans hc.1,(y5s _ _).trans hc.2⟩,d3,by simp [z1]⟩
  ·subst hTO
   refine ⟨g1.objs.size,_,_,rfl,kb1.fresh,ne,(Heap.get?_update_other _ _ (Ne.symm ne)).trans (Heap.get?_push_size g1 rfl),rfl,?_⟩
   first | (simp;done) | (rcases ipl with rfl | ⟨_,_,_,_,_,_,_,rfl⟩<;>simp)
 ·intro b o hb nf
  obtain ⟨sl,hs⟩:=u1.2.2 b o hb
  exact ⟨sl,oth b _ (norec b o hb nf) hs⟩
theorem x4z {Q:Unit->Shared->Prop}(hfr:A.frames=some (env::outer)) (hf:env.frame=some L) (x:FlyD0 B (env::outer) e cls dx s.heap)
  (q:∀h2,FlyD B (env::outer) e cls dx (rawInt L) h2->s.heap.UpToSlots h2->Q () { s with heap:=h2 }):wpAny M A (noteFrame (.ref e) env) Q E s:=by
 obtain ⟨kb,nb,fl,oe,vs,he,hc,hdt,h1⟩:=x
 unfold noteFrame
 simp only [hf]
 refine wpAny_bind (wpAny_field he hdt h1 ?_)
 rw [if_neg (by decide)]
 exact y9u hfr hf kb nb fl ⟨oe,vs,he,hc,hdt,h1⟩ q
theorem x3g {Q:Unit->Shared->Prop}(hfr:A.frames=some (env::outer)) (hf:env.frame=some L) (x:FlyD B (env::outer) e cls dx .none s.heap)
  (q:∀h2,FlyD B (env::outer) e cls dx (rawInt L) h2->s.heap.UpToSlots h2->Q () { s with heap:=h2 }):wpAny M A (noteFrame (.ref e) env) Q E s:=by
 obtain ⟨kb,nb,fl,hd,⟨oe,vs,he,hc,hdt,h1⟩,T,oT,ts,rfl,nT,Te,hT,dT,h3⟩:=x
 unfold noteFrame
 simp only [hf]
 refine wpAny_bind (wpAny_field he hdt h1 ?_)
 rw [if_pos (by simp:(Value.ref T != Value.none)=true)]
 refine wpAny_bind (wpAny_field hT dT h3 ?_)
 rw [if_neg (by simp [rawInt]:¬((Value.none == rawInt L)=true))]
 refine wpAny_bind (wpAny_setField hT dT (Array.getElem?_eq_some_iff.mp h3).1 ?_)
 have oth:∀b,b≠T->(s.heap.update T (Obj.mapFields (λ a:Array Value=>a.setIfInBounds 3 Value.none))).get? b=s.heap.get? b:=λ b z=>Heap.get?_update_other _ _ (Ne.symm z)
 have norec:∀b o,s.heap.get? b=some o->(∀ws,o.data≠.fields ws)->b≠T:=λ b o hb nf z=>by
  rw [z,hT] at hb;cases hb
  exact nf ts dT
 refine y9u hfr hf (λ b o hb=>(oth b λ z=>by rw [z,nT] at hb;cases hb).trans (kb b o hb)) nb (fl.of_keeps λ b o hb nf=>⟨o,(oth b (norec b o hb nf)).trans hb,rfl⟩) ⟨oe,vs,(oth e (Ne.symm Te)).trans he,hc,hdt,h1⟩ λ h2 f2 u2=>q h2 f2 λ b o hb nf=>?_
 exact u2 b o ((oth b (norec b o hb nf)).trans hb) nf
theorem y8s {l:List Env}{fl:Value}{Q:Unit->Shared->Prop}(x:FlyD B l e cls dx fl s.heap)
  (q:∀h2,FlyD B l e cls dx .none h2->s.heap.UpToSlots h2->Q () { s with heap:=h2 }):wpAny M A (setFlight (.ref e) none) Q E s:=by
 obtain ⟨kb,nb,ff,hd,⟨oe,vs,he,hc,hdt,h1⟩,T,oT,ts,rfl,nT,Te,hT,dT,h3⟩:=x
 have z3:3 < ts.size:=(Array.getElem?_eq_some_iff.mp h3).1
 have oth:∀b,b≠T->(s.heap.update T (Obj.mapFields (λ a:Array Value=>a.setIfInBounds 3 ((none:Option Addr).elim Value.none λ f=>rawInt f)))).get? b=s.heap.get? b:=λ b z=>Heap.get?_update_other _ _ (Ne.symm z)
 have norec:∀b o,s.heap.get? b=some o->(∀ws,o.data≠.fields ws)->b≠T:=λ b o hb nf z=>by
  rw [z,hT] at hb;cases hb
  exact nf ts dT
 unfold setFlight
 refine wpAny_bind (wpAny_field he hdt h1 ?_)
 rw [if_pos (by simp:(Value.ref T != Value.none)=true)]
 refine wpAny_setField hT dT z3 (q _ ⟨λ b o hb=>(oth b λ z=>by rw [z,nT] at hb;cases hb).trans (kb b o hb),nb,ff.of_keeps λ b o hb nf=>⟨o,(oth b (norec b o hb nf)).trans hb,rfl⟩,.ref T,⟨oe,vs,(oth e (Ne.symm Te)).trans he,hc,hdt,h1⟩,T,_,_,rfl,nT,Te,Heap.get?_update_self _ hT (Obj.isFreed_of_fields (Obj.data_mapFields dT _)),Obj.data_mapFields dT _,by simp [z3]⟩ λ b o hb nf=>⟨o.slots,(oth b (norec b o hb nf)).trans hb⟩)
theorem FlyD.pop {fl:Value}{h:Heap}(x:FlyD B (env::outer) e cls dx fl h):FlyD B outer e cls dx fl h:=let ⟨a,b,⟨_,_,c⟩,d⟩:=x;⟨a,b,c,d⟩
theorem x3o {Q:Unit->Shared->Prop}(hfr:A.frames=some (env::outer)) (hf:env.frame=some L) (x:FlyD B (env::outer) e cls dx .none s.heap)
  (q:∀h2,FlyD B outer e cls dx .none h2->s.heap.UpToSlots h2->Q () { s with heap:=h2 }):wpAny M A (leaving env (.ref e)) Q E s:=by
 unfold leaving
 refine wpAny_bind (x3g hfr hf x λ h1 f1 u1=>?_)
 exact y8s (s:={ s with heap:=h1 }) f1 λ h2 f2 u2=>q h2 f2.pop (u1.trans u2)
theorem x3p {Q:Unit->Shared->Prop}(hfr:A.frames=some (env::outer)) (hf:env.frame=some L) (x:FlyD0 B (env::outer) e cls dx s.heap)
  (q:∀h2,FlyD B outer e cls dx .none h2->s.heap.UpToSlots h2->Q () { s with heap:=h2 }):wpAny M A (leaving env (.ref e)) Q E s:=by
 unfold leaving
 refine wpAny_bind (x4z hfr hf x λ h1 f1 u1=>?_)
 exact y8s (s:={ s with heap:=h1 }) f1 λ h2 f2 u2=>q h2 f2.pop (u1.trans u2)
end
end L2
namespace L2
open PySem PySem.Spec PyProof.Rows Builtin Builtin.ObjectAttr
def clsX (K:W.Frag) (C:Addr) (bmB:List Value) (nid:String):Bool:=match K.lookup C with
 | some ⟨.type "type",_,.cls cd,kk⟩=>cd.hasDict && (match cd.mro,kk.toList with | .ref C2::tl,[_,_,_,_,some (.builtin n2),_]=>C2 == C && (n2 == nid && (!cd.hasDel && W.tailIn K bmB tl)) | _,_=>false)
 | _=>false
structure HasX (h:Heap) (C:Addr) (bmB:List Value) (nid:String):Prop where
 ex:∃(nm q:Str) (N:Addr) (bs bm:List Value) (sn:List Str) (sub:List Value) (ab:Bool) (col:Option Bool) (dd:Option Addr) (k0 k1 k2 k3 k5:Option Value),
  h.get? C=some (excClassObj nm q C N bs bm true sn sub ab col dd k0 k1 k2 k3 k5 nid)/\OwnTail h bmB bm
theorem x4n {K:W.Frag}{h:Heap}{C:Addr}{bmB:List Value}{nid:String}(KI:K.In h) (q:clsX K C bmB nid=true):HasX h C bmB nid:=by
 unfold clsX at q
 split at q
 ·rename_i ddx cdx slx hlk
  rw [Bool.and_eq_true] at q
  obtain ⟨hdict,q⟩:=q
  split at q
  ·rename_i C2 bm2 f0 f1 f2 f3 nn f5 hmro hsl0
   simp only [Bool.and_eq_true,beq_iff_eq,Bool.not_eq_true'] at q
   obtain ⟨eC,eN,hdl,htl⟩:=q
   subst eC eN
   obtain ⟨c1,c2,c3,c4,c5,c6,c7,c8,c9,c10,c11⟩:=cdx
   dsimp only at hmro hdl hdict
   subst hmro hdl hdict
   have hsl1:slx=#[f0,f1,f2,f3,some (.builtin nn),f5]:=by
    obtain ⟨lst⟩:=slx
    simp only at hsl0
    rw [hsl0]
   subst hsl1
   exact ⟨⟨_,_,_,_,_,_,_,_,_,_,_,_,_,_,_,KI _ _ hlk,W.tail_of_in KI htl⟩⟩
  ·cases q
 ·cases q
abbrev excRec (C t:Addr) (d:Option Addr):Obj:={ cls:=.ref C,dict:=d,data:=.fields #[.ref t,.none,.none,.none,.bool false,.none] }
def ExcM (a C:Addr) (d:Option Addr):HO:=.ext λ h=>∃t,h.get? a=some (excRec C t d)
theorem y0q {P:Program}{w:World}{H:Hp}{h:Heap}{a C t:Addr}{d:Option Addr}(e:h.get? a=some (excRec C t d)):ObjOk P w H h a (ExcM a C d):=⟨⟨t,e⟩,⟨_,e⟩,λ _ _ ⟨t2,q⟩ k=>⟨t2,k _ q⟩⟩
def ExcF (d:Addr) (fs:List (Str × V)):HO:=.ext λ h=>fs.length≤1000/\∃mA,h.Ns1 d mA/\(∀f,RelO (fs.lookup f) (mA f))/\PySem.Within mA (fs.map (·.1))
theorem y5r {P:Program}{w:World}{H:Hp}{h:Heap}{d:Addr}{fs:List (Str × V)}{mA:Str->Option Value}(z:fs.length≤1000) (e:h.Ns1 d mA) (r:∀f,RelO (fs.lookup f) (mA f)) (wi:PySem.Within mA (fs.map (·.1))):ObjOk P w H h d (ExcF d fs) :=
 ⟨⟨z,mA,e,r,wi⟩,let ⟨o,_,_,q,_⟩:=e;⟨o,q⟩,λ _ _ ⟨z2,m2,n2,r2,w2⟩ k=>⟨z2,m2,let ⟨o,es,ep,q,c⟩:=n2;⟨o,es,ep,k o q,c⟩,r2,w2⟩⟩
section
variable {prog:Program}{w:World}{A:Around}{E:Value->Shared->Prop}{h:Heap}{g:Array GenState}{dr:Drawn}{tk:Nat}{os:OsState}{C:Addr}{bmB:List Value}{B nid initId:String}
theorem y6l {K:W.Frag}{us:List Value}{fI:Addr}{Q:Value->Shared->Prop}(F:ExcBaseFacts B nid initId bmB) (KI:K.In h) (X:HasX h C bmB nid) (hi:W.findIn K (.ref C) "__init__" = some (some (.ref fI))) (hf:W.typeIn K (.ref fI)=some (.type "function"))
  (hq:wpAny (model prog w) (A.under (.builtin "type.__call__" ⟨.ref C::us,[]⟩)) (call (.ref fI) (.ref (h.objs.size+1)::us)) (λ r s2=>r=.none/\Q (.ref (h.objs.size+1)) s2) E ⟨(h.push { cls:=.type "tuple",data:=.seq us.toArray }).push (excRec C h.objs.size none),g,dr,tk,os⟩)
  (hz:us.length≤sizeLine):wpAny (model prog w) A (call (.ref C) us) Q E ⟨h,g,dr,tk,os⟩:=by
 obtain ⟨nm,q,N,bs,bm,sn,sub,ab,col,dd,k0,k1,k2,k3,k5,hC,T⟩:=X.ex
 have tcl:=tc_lookup
 have tcb:=tc_bind (.ref C)
 have isT:(⟨h,g,dr,tk,os⟩:Shared).TypeIs (.ref C) "type" := ⟨_,hC,rfl⟩
 refine wpAny_call (codeAny_of_tree ?_)
 show wpAny _ _ (callAny (.ref C) _) _ _ _
 repeat (any_goals (first | assumption | wp_step | with_reducible refine wpAny_loadPart_at hC ?_))
 refine And.intro rfl (codeAny_call_builtin_at (Code.quiet_builtin _ (by decide +kernel)) entry_typeCall (wpAny_check_type_call_sub hC ?_))
 repeat (first | wp_step | with_reducible refine wpAny_madeBy_exc hC ?_ | with_reducible refine wpAny_loadPart_at hC ?_)
 refine codeAny_call_builtin_code (Code.quiet_builtin _ F.quiet) (wpAny_check_new_subT F T hC (codeAny_exc_new_subT F T hC ?_ hz))
 show wpAny _ _ _ _ _ (⟨(h.push { cls:=.type "tuple",data:=.seq us.toArray }).push (excRec C h.objs.size none),g,dr,tk,os⟩:Shared)
 generalize hh2:(h.push { cls:=.type "tuple",data:=.seq us.toArray }).push (excRec C h.objs.size none)=h2 at hq ⊢
 have kk:∀b o,h.get? b=some o->h2.get? b=some o:=λ b o e=>by rw [← hh2];exact Heap.get?_push_of_some _ (Heap.get?_push_of_some _ e)
 have hg2:h2.get? (h.objs.size+1)=some (excRec C h.objs.size none):=by rw [← hh2];heap_get
 have hC2:=kk _ _ hC
 have cc:(Value.ref C::bm).contains (.ref C)=true:=by simp
 unfold isInstance
 repeat (first | wp_step | with_reducible refine wpAny_loadPart_at hg2 ?_ | (with_reducible refine wpAny_isSubtype_exc hC2 ?_;rw [cc]))
 refine (W.looks_findIn (KI.keeps kk) hi).at ?_
 refine wpAny_holding (wpAny_bind ((W.bind_fn (KI.keeps kk) _ hf).at (wpAny_bind (wpAny_mono hq (λ r s2 hr=>?_) λ _ _ z=>z))))
 obtain ⟨rfl,z⟩:=hr
 wp_walk
 exact z
end
end L2
namespace L2
open PySem PySem.Spec PyProof.Rows Builtin Builtin.ObjectAttr
section
variable {prog:Program}{w:World}{A:Around}{E:Value->Shared->Prop}{h:Heap}{g:Array GenState}{dr:Drawn}{tk:Nat}{os:OsState}{C x:Addr}{bmB:List Value}{B nid initId:String}{K:W.Frag}
theorem y2o {us:List Value}{t:Addr}{d:Option Addr}{Q:Value->Shared->Prop}(F:ExcBaseFacts B nid initId bmB) (X:HasX h C bmB nid) (hx:h.get? x=some (excRec C t d)) (hz:us.length≤sizeLine)
  (hq:∀h2:Heap,h2.get? x=some (excRec C h.objs.size d)->(∀b o,b≠x->h.get? b=some o->h2.get? b=some o)->Q .none ⟨h2,g,dr,tk,os⟩) :
  wpAny (model prog w) A (call (.builtin initId) (.ref x::us)) Q E ⟨h,g,dr,tk,os⟩:=by
 obtain ⟨nm,q,N,bs,bm,sn,sub,ab,col,dd,k0,k1,k2,k3,k5,hC,T⟩:=X.ex
 refine wpAny_call (codeAny_call_builtin F.init.plain F.initEntry (wpAny_check_init_subT F T hC hx rfl ?_))
 wp_walk
 refine hq _ ?_ λ b o ne e=>?_
 ·rw [Heap.get?_update_self _ (Heap.get?_push_of_some _ hx) rfl]
  rfl
 ·rw [Heap.get?_update_other _ _ (Ne.symm ne)]
  exact Heap.get?_push_of_some _ e
def overX:List Value->Bool
 | .ref _::r=>overX r
 | l=>l == [.type "ValueError",.type "Exception",.type "BaseException",.type "object"]
theorem z4n (self:Value):∀ {l:List Value},overX l=true->refuseLoop self "__setattr__" l=pure ()
 | [],e=>by cases e
 | .ref c::r,e=>by rw [refuseLoop_ref];exact z4n self e
 | .type n::r,e=>by rw [beq_iff_eq.mp (show (Value.type n::r == _)=true from e)];exact PySem.F.store_ValueError.passes self
 | .int _ _::r,e | .bool _::r,e | .none::r,e | .str _ _::r,e | .builtin _::r,e | .float _ _::r,e | .bytes _ _::r,e=>by cases e
theorem z8e:∀ {l:List Value},overX l=true->l.contains (.type "object")=true
 | [],e=>by cases e
 | .ref c::r,e=>by rw [List.contains_cons,z8e (l:=r) e,Bool.or_true]
 | .type n::r,e=>by rw [beq_iff_eq.mp (show (Value.type n::r == _)=true from e)];decide +kernel
 | .int _ _::r,e | .bool _::r,e | .none::r,e | .str _ _::r,e | .builtin _::r,e | .float _ _::r,e | .bytes _ _::r,e=>by cases e
theorem z6g:∀ {l:List Value},overX l=true->l.contains (.type "BaseException")=true
 | [],e=>by cases e
 | .ref c::r,e=>by rw [List.contains_cons,z6g (l:=r) e,Bool.or_true]
 | .type n::r,e=>by rw [beq_iff_eq.mp (show (Value.type n::r == _)=true from e)];decide +kernel
 | .int _ _::r,e | .bool _::r,e | .none::r,e | .str _ _::r,e | .builtin _::r,e | .float _ _::r,e | .bytes _ _::r,e=>by cases e
structure AtX (K:W.Frag) (C:Addr):Prop where
 over:(W.clsIn K C).any (λ cd=>cd.hasDict && overX cd.mro)=true
 sa:W.findIn K (.ref C) "__setattr__" = some (some (.builtin "object.__setattr__"))
 ga:W.findIn K (.ref C) "__getattribute__" = some (some (.builtin "BaseException.__getattribute__"))
theorem AtX.cls (a:AtX K C):∃cd,W.clsIn K C=some cd/\cd.hasDict=true/\overX cd.mro=true:=by
 obtain ⟨cd,hc,q⟩:=W.any_some a.over
 rw [Bool.and_eq_true] at q
 exact ⟨cd,hc,q.1,q.2⟩
theorem x1k {o:Obj}{vs:Array Value}(hx:h.get? x=some o) (hc:o.cls=.ref C) (hd:o.data=.fields vs) (od:Option Obj) (hod:match o.dict,od with | some dx,some ob=>h.get? dx=some ob | none,none=>True | _,_=>False):W.InstAt h x o C od :=
 ⟨hx,hc,by unfold W.notCls;rw [hd],hod⟩
theorem x5p {s:Shared}{ox:Obj}{od:Option Obj}{name:Str}{tn:Tok}{v:Value}{R:Result->Shared->Prop}(KI:K.In s.heap) (I:W.InstAt s.heap x ox C od) (a:AtX K C) (ht:W.takerIn K C name=some none)
  (hq:∀b,wpAny (model prog w) A.in1 (storeInOwnDict (.ref x) (.ref C) (.str name tn) name v b) (λ fin s2=>match fin with | .done f=>R (.ok f) s2 | .again c2=>c2.quiet=true/\codeAny (model prog w) A c2 R s2) (λ e s2=>R (.error e) s2) s) :
  codeAny (model prog w) A (.call (.builtin "object.__setattr__") ⟨[.ref x,.str name tn,v],[]⟩) R s:=by
 obtain ⟨cd,hc,_,ho⟩:=a.cls
 have SO:=PySem.F.store_object
 have nem:cd.mro.isEmpty=false:=by cases q:cd.mro with | nil=>rw [q] at ho;cases ho | cons _ _=>rfl
 have isO:W.Looks (model prog w) s.heap (isInstance (.ref x) (.type "object")) true:=I.type.andThen (W.looks_mroIn KI (by unfold W.mroIn;rw [hc,Option.bind_some,if_neg (by rw [nem];decide),z8e ho]))
 obtain ⟨attr,ha,hr⟩:=Option.bind_eq_some_iff.mp ht
 have L3:W.Looks (model prog w) s.heap (storeTaker? attr) none:=by
  cases attr with
  | none=>exact W.Looks.now
  | some at_ =>
   obtain ⟨b,hb,e⟩:=Option.map_eq_some_iff.mp hr
   cases b with
   | true=>cases e
   | false=>exact (W.looks_takesIn KI hb).andThen W.Looks.now
 refine codeAny_call_builtin SO.slot.plain SO.entry (@W.check_slot (model prog w) _ _ s "object.__setattr__" "object" "__setattr__" (.ref x) [.str name tn,v] [] _ SO.kind SO.split isO (SO.args (.ref x) (.str name tn) v) ?_)
 rw [W.osa_eq,refuse_eq]
 have mr:W.Looks (model prog w) s.heap (mroOf (.ref C)) cd.mro:=(W.looks_clsIn KI hc).andThen W.Looks.now
 refine wpAny_bind (wpAny_bind (I.type.here (wpAny_bind (mr.here ?_))))
 rw [z4n _ ho]
 refine wpAny_pure (wpAny_bind (I.type.here (wpAny_bind ((W.looks_findIn KI ha).here (wpAny_bind (L3.here (hq _)))))))
theorem x4q {name:Str}{v:Value}{t:Addr}{Q:Unit->Shared->Prop}(KI:K.In h) (a:AtX K C) (ht:W.takerIn K C name=some none) (hx:h.get? x=some (excRec C t none))
  (hq:∀(h2:Heap) (tk2:Nat),h2.get? x=some (excRec C t (some h.objs.size))->h2.Ns1 h.objs.size (λ y=>if y=name then some v else none)->(∀b o,b≠x->h.get? b=some o->h2.get? b=some o)->Q () ⟨h2,g,dr,tk2,os⟩) :
  wpAny (model prog w) A (setAttr (.ref x) name v) Q E ⟨h,g,dr,tk,os⟩:=by
 have I:=x1k hx rfl rfl none True.intro
 refine W.set_plain KI I a.sa (x5p (s:=⟨h,g,dr,tk+1,os⟩) KI I a ht λ b=>?_)
 obtain ⟨cd,hc,hdct,_⟩:=a.cls
 have hxs:x≠h.objs.size:=Nat.ne_of_lt (Heap.lt_size hx)
 refine wpAny_bind (wpAny_pure (wpAny_bind (wpAny_bind (wpAny_loadPart hx (wpAny_bind (W.Looks.here (s:=⟨h,g,dr,tk+1,os⟩) (W.looks_clsIn KI hc) ?_))))))
 rw [hdct]
 have hx1:(h.push { cls:=.type "dict",data:=.dict #[] }).get? x=some (excRec C t none):=Heap.get?_push_of_some _ hx
 refine wpAny_bind (wpAny_alloc' (wpAny_bind (wpAny_update' hx1 (wpAny_pure ?_))))
 generalize hU:(h.push { cls:=.type "dict",data:=.dict #[] }).update x (λ o=>{ cls:=o.cls,dict:=some h.objs.size,data:=o.data,slots:=o.slots })=U
 have gx:U.get? x=some (excRec C t (some h.objs.size)):=by rw [← hU];exact Heap.get?_update_self _ hx1 rfl
 have gd:U.get? h.objs.size=some { cls:=.type "dict",data:=.dict #[] }:=by rw [← hU];exact (Heap.get?_update_ne _ _ _ _ (Ne.symm hxs)).trans (Heap.get?_push_at rfl rfl)
 have go:∀b o,b≠x->h.get? b=some o->U.get? b=some o:=λ b o ne e=>by rw [← hU];exact (Heap.get?_update_ne _ _ _ _ ne).trans (Heap.get?_push_of_some _ e)
 have nd:U.Ns h.objs.size (λ _=>none):=⟨_,#[],_,gd,rfl,λ e he=>absurd he (by simp),λ _=>rfl⟩
 show wpAny _ _ (storeInDict h.objs.size _ name v) _ _ _
 unfold storeInDict newKeyGuard
 refine wpAny_bind (wpAny_pure (wpAny_bind (wpAny_nsSet1 (Heap.Ns1.of_empty nd) λ h2 n2 s2=>?_)))
 obtain ⟨oD,esD,epD,hoD,hdD,hcD⟩:=n2.count (PySem.Within.cons name v PySem.Within.nil)
 refine wpAny_bind (wpAny_lookBehind hoD (by rw [hdD];refine pastItsLine_dict (Nat.le_trans hcD ?_);rw [List.length_cons,List.length_nil,sizeLine_eq];omega) ?_)
 exact wpAny_pure (hq _ _ ((s2.2 x hxs).trans gx) n2 λ b o ne e=>(s2.2 b (Nat.ne_of_lt (Heap.lt_size e))).trans (go b o ne e))
theorem x4p {name:Str}{v:Value}{t dx:Addr}{mA:Str->Option Value}{ns:List Str}{Q:Unit->Shared->Prop}(KI:K.In h) (a:AtX K C) (ht:W.takerIn K C name=some none) (hx:h.get? x=some (excRec C t (some dx))) (hn:h.Ns1 dx mA)
  (hw:PySem.Within mA ns) (hsz:ns.length < 1000)
  (hq:∀(h2:Heap) (tk2:Nat),h2.Ns1 dx (λ y=>if y=name then some v else mA y)->Heap.SameBut dx h h2->Q () ⟨h2,g,dr,tk2,os⟩) :
  wpAny (model prog w) A (setAttr (.ref x) name v) Q E ⟨h,g,dr,tk,os⟩:=by
 obtain ⟨od,es,ep,ho,hrest⟩:=id hn
 have I:=x1k hx rfl rfl (some od) ho
 refine W.set_plain KI I a.sa (x5p (s:=⟨h,g,dr,tk+1,os⟩) KI I a ht λ b=>?_)
 obtain ⟨cd,hc,hdct,_⟩:=a.cls
 refine wpAny_bind (wpAny_pure (wpAny_bind (wpAny_bind (wpAny_loadPart hx (wpAny_bind (W.Looks.here (s:=⟨h,g,dr,tk+1,os⟩) (W.looks_clsIn KI hc) ?_))))))
 rw [hdct]
 refine wpAny_pure (a:=some dx) (wpAny_bind (wpAny_pure (wpAny_bind (wpAny_nsSet1 (s:=⟨h,g,dr,tk+1,os⟩) hn λ h2 n2 s2=>?_))))
 obtain ⟨oD,esD,epD,hoD,hdD,hcD⟩:=n2.count (PySem.Within.cons name v hw)
 refine wpAny_bind (wpAny_lookBehind hoD (by rw [hdD];refine pastItsLine_dict (Nat.le_trans hcD ?_);rw [List.length_cons,sizeLine_eq];omega) ?_)
 exact wpAny_pure (hq _ _ n2 s2)
theorem x5r {name:Str}{v:Value}{o:Obj}{vs:Array Value}{dx:Addr}{mA:Str->Option Value}{expr:Bool}{Q:Value->Shared->Prop}(KI:K.In h) (a:AtX K C) (hn:W.findIn K (.ref C) name=some none) (hg2:W.findIn K (.ref C) "__getattr__" = some none)
  (hx:h.get? x=some o) (hc:o.cls=.ref C) (hd:o.data=.fields vs) (hdx:o.dict=some dx) (hns:h.Ns1 dx mA) (hv:mA name=some v) (hh:W.handedIn v=true) (hq:Q v ⟨h,g,dr,tk+1,os⟩) :
  wpAny (model prog w) A (getAttr (.ref x) name expr) Q E ⟨h,g,dr,tk,os⟩:=by
 obtain ⟨cd,hcl,hdct,hov⟩:=a.cls
 have FB:=PySem.F.excAttr_ValueError
 obtain ⟨od,ho,hl⟩:=z8m hns
 have I:=x1k hx hc hd (some od) (by rw [hdx];exact ho)
 have LT:W.Looks (model prog w) h (typeOf (.ref x)) (.ref C):=I.type
 have L1:=W.looks_findIn (M:=model prog w) KI a.ga
 have L2':=W.looks_findIn (M:=model prog w) KI hg2
 have nem:cd.mro.isEmpty=false:=by cases q:cd.mro with | nil=>rw [q] at hov;cases hov | cons _ _=>rfl
 have isB:W.Looks (model prog w) h (isInstance (.ref x) (.type "BaseException")) true:=LT.andThen (W.looks_mroIn KI (by unfold W.mroIn;rw [hcl,Option.bind_some,if_neg (by rw [nem];decide),z6g hov]))
 have LF:W.Looks (model prog w) h (find (.ref x) (.ref C) name) (.value v):=W.looks_find KI I (W.findObj_own (by unfold W.hasDictIn;rw [hcl];exact hdct) hn rfl (by rw [hl,hv]))
 have f3:=FB.ga.bind (.ref x)
 have hx0:(expr && onTheHeap (Value.builtin "BaseException.__getattribute__"))=false:=by cases expr<;>rfl
 have hx2:(Value.builtin "BaseException.__getattribute__" == Value.builtin "object.__getattribute__")=false:=by decide +kernel
 have hx1:(onTheHeap (Value.ref C) && Value.builtin "BaseException.__getattribute__" == Value.builtin "object.__getattribute__")=false:=by rw [hx2];rfl
 unfold getAttr getAttrBy
 refine wpAny_bind (wpAny_mkText (wpAny_holding (wpAny_bind (LT.at (wpAny_bind (L1.at ?_))))))
 dsimp only
 rw [hx1,if_neg (by decide)]
 have LH:W.Looks (model prog w) h (hookBefore (.ref C)) none:=W.looks_hook KI hg2
 refine wpAny_bind (LH.at (wpAny_bind (wpAny_attempt (wpAny_holding ?_))))
 unfold callGetattribute
 rw [hx0,if_neg (by decide)]
 unfold boundAndCalled
 rw [f3]
 refine wpAny_bind (wpAny_pure ?_)
 show wpAny _ _ (call (.builtin "BaseException.__getattribute__") [.ref x,.str name tk]) _ _ _
 refine wpAny_call (codeAny_call_builtin FB.ga.plain PySem.F.entry_bexc_ga (@W.check_slot (model prog w) _ _ ⟨h,g,dr,tk+1,os⟩ "BaseException.__getattribute__" "BaseException" "__getattribute__" (.ref x) [.str name tk] [] _ (by decide +kernel) (by decide +kernel) isB (PySem.F.args_bexc_ga _ _) ?_))
 unfold Builtin.«object.__getattribute__»
 refine wpAny_bind (wpAny_pure (wpAny_bind (wpAny_pure (wpAny_bind (LT.at (wpAny_bind (LF.at ?_)))))))
 refine wpAny_pure ?_
 show wpAny _ _ (handedOut v) _ _ _
 rw [W.handedOut_of hh]
 exact wpAny_pure hq
end
def rm (H:Hp) (a:Addr):Hp:=λ b=>if b=a then none else H b
theorem z9u {H:Hp}{a b:Addr}(h:b≠a):rm H a b=H b:=by unfold rm;rw [if_neg h]
theorem x0l {H:Hp}{a:Addr}:rm H a a=none:=by unfold rm;rw [if_pos rfl]
def CX2 (P:Program) (w:World):CXT:=λ outer H s E e s' =>
 ∃(a C dx:Addr) (H':Hp) (B:Heap),e=.ref a/\s'.os=s.os/\AllBare s'.gens/\FlyD B outer a (.ref C) dx .none s'.heap /\
  (∀b o,s.heap.get? b=some o->H b=none->b ∉ frs outer->B.get? b=some o)/\(∀b o,s.heap.get? b=some o->b ∉ frs outer->∃o',B.get? b=some o') /\
  Un (frs outer) [] H H' s.heap s'.heap/\HOk P w H' B/\E (.ref C) (some dx) H'
section
variable {P:Program}{w:World}{K:W.Frag}{mg:Str->Option Value}{base:Heap}{N:List Str}{qual:Str}{scope:Scope}{f:Addr}{cd:Value}{A:Around}{outer:List Env}{s:Shared}{H:Hp}{E:XK}
theorem x4c {H:Hp}{h:Heap}{a C:Addr}{d:Option Addr}{l:List Addr}(ok:HOk P w H h) (ha:H a=some (ExcM a C d)) (hl:∀b∈l,H b=none):HOk P w (rm H a) (W.hideAll h (a::l)):=λ b u e=>by
 have ne:b≠a:=λ z=>by rw [z,x0l] at e;cases e
 rw [z9u ne] at e
 have nb:∀c v,H c=some v->c≠a->c ∉ a::l:=λ c v q nc z=>by
  rcases List.mem_cons.mp z with z | z
  ·exact nc z
  ·rw [hl c z] at q;cases q
 have nx:∀c v,H c=some v->v≠ExcM a C d->c≠a:=λ c v q nv z=>by rw [z,ha] at q;cases q;exact nv rfl
 refine (ok b u e).stay (λ c v hc q=>W.hideAll_get _ q ?_) (λ c q=>?_) λ c xs q=>?_
 ·rcases hc with z | z
  ·rw [z];exact nb b u e ne
  ·exact nb c _ z (nx c _ z (by unfold ExcM;intro z;cases z))
 ·rw [z9u (nx c _ q (by unfold ExcM;intro z;cases z))];exact q
 ·rw [z9u (nx c _ q (by unfold ExcM;intro z;cases z))];exact q
theorem y3z:Passes (CX2 P w) (cxOf (CX2 P w) P w K mg base N qual scope f cd A outer s H E) E:=by
 intro pins σ H1 s1 e s' I hx
 obtain ⟨a,C,dx,H',B,rfl,os,bare,fl,inB,thB,un,okB,hE⟩:=hx
 have hfr:(cxOf (CX2 P w) P w K mg base N qual scope f cd A outer s H E).A.frames=some (envOfC qual scope s.heap.objs.size f cd::outer):=I.ok.frames
 refine x3o hfr rfl fl λ h'' fl'' up''=>?_
 have Bs:∀b o,B.get? b=some o->h''.get? b=some o:=fl''.1
 have ub:Un (frs outer) [] H H1 s.heap s1.heap:=I.base
 have stk:∀b,b ∉ frs outer->b < s.heap.objs.size->b ∉ frs (envOfC qual scope s.heap.objs.size f cd::outer):=λ b hb hlt z=>by
  rcases List.mem_cons.mp (I.stkSub b z) with q | q
  ·have q:b=s.heap.objs.size:=q
   exact Nat.lt_irrefl _ (q ▸ hlt)
  ·exact hb q
 have inB':∀b o,s.heap.get? b=some o->H b=none->b ∉ frs outer->B.get? b=some o:=λ b o e n hb =>
  inB b o (ub.keep b o e n hb (by simp)) (ub.free b o e n (by simp)) (stk b hb (Heap.lt_size e))
 have thB':∀b o,s.heap.get? b=some o->b ∉ frs outer->∃o',B.get? b=some o':=λ b o e hb=>by
  obtain ⟨o1,e1⟩:=ub.there b o e (by simp)
  exact thB b o1 e1 (stk b hb (Heap.lt_size e))
 have sub:∀b,b∈frs outer->b∈frs (envOfC qual scope s.heap.objs.size f cd::outer):=λ b hb=>List.mem_cons_of_mem _ hb
 have slot:∀b o,s.heap.get? b=some o->H b=none->b∈frs outer->∃sl,h''.get? b=some { o with slots:=sl }:=λ b o e n hb=>by
  obtain ⟨sl1,e1⟩:=ub.slot b o e n hb (by simp)
  obtain ⟨sl2,e2⟩:=un.slot b _ e1 (ub.free b o e n (by simp)) (sub b hb) (by simp)
  obtain ⟨_,o3,e3,nf⟩:=I.ok.funs.mem hb
  have e3:s.heap.get? b=some o3:=e3
  rw [e] at e3;cases e3
  obtain ⟨sl3,e4⟩:=up'' b _ e2 nf
  exact ⟨sl3,e4⟩
 have frf:∀b∈frs outer,H b=none:=I.ok.frf
 refine ⟨a,C,dx,H',B,rfl,os.trans I.os,bare,fl'',inB',thB',⟨λ b o e n hb _=>Bs _ _ (inB' b o e n hb),λ b o e n hb _=>slot b o e n hb,λ b o e n _=>?_,λ b o e _=>?_,
  λ b xs e=>un.tups b xs (ub.tups b xs e),λ b o u e=>un.frzs b o u (ub.frzs b o u e),λ b ps e=>?_⟩,okB,hE⟩
 ·obtain ⟨o1,e1⟩:=ub.there b o e (by simp)
  exact un.free b o1 e1 (ub.free b o e n (by simp)) (by simp)
 ·by_cases hb:b∈frs outer
  ·obtain ⟨sl,q⟩:=slot b o e (frf b hb) hb
   exact ⟨_,q⟩
  ·obtain ⟨o',q⟩:=thB' b o e hb
   exact ⟨o',Bs _ _ q⟩
 ·obtain ⟨m1,q1⟩:=ub.tbls b ps e
  obtain ⟨m2,q2⟩:=un.tbls b _ q1
  exact ⟨m1++m2,by rw [q2,Array.append_assoc]⟩
def RaisesD (X:Cx) (Ex:XK):Prop:=∀(pins:List (Addr × Obj)) (σ:St) (H:Hp) (s:Shared) (a C dx:Addr),Inv X pins σ H s->H a=some (ExcM a C (some dx))->X.s₀.heap.objs.size≤a->Ex (.ref C) (some dx) (rm H a)->X.xe (.ref a) s
theorem x0m:RaisesD (cxOf (CX2 P w) P w K mg base N qual scope f cd A outer s H E) E:=by
 intro pins σ H1 s1 a C dx I ha hnew hE
 have hnew:s.heap.objs.size≤a:=hnew
 have hfr:(cxOf (CX2 P w) P w K mg base N qual scope f cd A outer s H E).A.frames=some (envOfC qual scope s.heap.objs.size f cd::outer):=I.ok.frames
 have st:s1.heap.FunFrames base (envOfC qual scope s.heap.objs.size f cd::outer):=I.stack
 obtain ⟨⟨t,hrec⟩,_⟩:=(show ObjOk P w H1 s1.heap a (ExcM a C (some dx)) from I.hok a _ ha)
 generalize hB:W.hideAll s1.heap (a::frs (envOfC qual scope s.heap.objs.size f cd::outer))=B
 have f0:FlyD0 B (envOfC qual scope s.heap.objs.size f cd::outer) a (.ref C) dx s1.heap:=by
  rw [← hB]
  exact ⟨λ b o q=>W.of_hideAll _ q,W.hideAll_none _ (.head _),W.funFrames_hide st (λ env he b hb=>List.mem_cons_of_mem _ (y9q env he b hb)),_,_,hrec,⟨rfl,rfl⟩,rfl,rfl⟩
 refine x3p hfr rfl f0 λ h'' fl'' up''=>?_
 have ub:Un (frs outer) [] H H1 s.heap s1.heap:=I.base
 have Bs:=fl''.1
 have na:∀b o,s.heap.get? b=some o->b≠a:=λ b o e z=>Nat.lt_irrefl _ (Nat.lt_of_lt_of_le (Heap.lt_size (z ▸ e)) hnew)
 have stk:∀b,b ∉ frs outer->b < s.heap.objs.size->b ∉ a::frs (envOfC qual scope s.heap.objs.size f cd::outer):=λ b hb hlt z=>by
  rcases List.mem_cons.mp z with q | q
  ·rw [q] at hlt;exact Nat.lt_irrefl _ (Nat.lt_of_lt_of_le hlt hnew)
  ·rcases List.mem_cons.mp (I.stkSub b q) with q | q
   ·have q:b=s.heap.objs.size:=q
    exact Nat.lt_irrefl _ (q ▸ hlt)
   ·exact hb q
 have inB':∀b o,s.heap.get? b=some o->H b=none->b ∉ frs outer->B.get? b=some o:=λ b o e n hb=>by
  rw [← hB];exact W.hideAll_get _ (ub.keep b o e n hb (by simp)) (stk b hb (Heap.lt_size e))
 have thB':∀b o,s.heap.get? b=some o->b ∉ frs outer->∃o',B.get? b=some o':=λ b o e hb=>by
  obtain ⟨o1,e1⟩:=ub.there b o e (by simp)
  exact ⟨o1,by rw [← hB];exact W.hideAll_get _ e1 (stk b hb (Heap.lt_size e))⟩
 have slot:∀b o,s.heap.get? b=some o->H b=none->b∈frs outer->∃sl,h''.get? b=some { o with slots:=sl }:=λ b o e n hb=>by
  obtain ⟨sl1,e1⟩:=ub.slot b o e n hb (by simp)
  obtain ⟨_,o3,e3,nf⟩:=I.ok.funs.mem hb
  have e3:s.heap.get? b=some o3:=e3
  rw [e] at e3;cases e3
  obtain ⟨sl3,e4⟩:=up'' b _ e1 nf
  exact ⟨sl3,e4⟩
 have frf:∀b∈frs outer,H b=none:=I.ok.frf
 have nx:∀c v,H1 c=some v->v≠ExcM a C (some dx)->rm H1 a c=some v:=λ c v q nv=>by
  rw [z9u (λ z=>by rw [z,ha] at q;cases q;exact nv rfl)];exact q
 refine ⟨a,C,dx,rm H1 a,B,rfl,I.os,I.bare,fl'',inB',thB',⟨λ b o e n hb _=>Bs _ _ (inB' b o e n hb),λ b o e n hb _=>slot b o e n hb,λ b o e n _=>?_,λ b o e _=>?_,
  λ b xs e=>nx b _ (ub.tups b xs e) (by unfold ExcM;intro z;cases z),λ b o u e=>nx b _ (ub.frzs b o u e) (by unfold ExcM;intro z;cases z),λ b ps e=>?_⟩,by rw [← hB];exact x4c I.hok ha I.stkFree,hE⟩
 ·rw [z9u (na b o e)];exact ub.free b o e n (by simp)
 ·by_cases hb:b∈frs outer
  ·obtain ⟨sl,q⟩:=slot b o e (frf b hb) hb
   exact ⟨_,q⟩
  ·obtain ⟨o',q⟩:=thB' b o e hb
   exact ⟨o',Bs _ _ q⟩
 ·obtain ⟨more,q⟩:=ub.tbls b ps e
  exact ⟨more,nx b _ q (by unfold ExcM;intro z;cases z)⟩
theorem y4a {X:Cx}:Passes (CX2 P w) X E0:=λ _ _ _ _ _ _ _ h=>by
 obtain ⟨_,_,_,_,_,_,_,_,_,_,_,_,_,q⟩:=h
 exact q.elim
theorem Fun.okX2 {x qual:Str}{st:Stmt}{f:Addr}{fd:FuncData}{N ps:List Str}{k:Nat}{sp:Sp}(F:Fun K x qual st f fd) (S:FnScope N ps (defScope st)) (len:∀vs H Q E,sp vs H Q E->vs.length=ps.length)
  (hbody:∀(cdv:Value) (A:Around) (outer:List Env) (s:Shared) (H:Hp) (vs:List V) (Q:VK) (E:XK),Room k (A.deeper (envOfC qual (defScope st) s.heap.objs.size f cdv))->sp vs H Q E ->
   ∃t,PSs (cxOf (CX2 P w) P w K mg base N qual (defScope st) f cdv A outer s H E) (defBody st) t/\t { nx:=λ _ H'=>Q .non H',rt:=Q } (start N vs) H):FnOk P w K mg base (CX2 P w) (k+1) f fd ps sp:=by
 obtain ⟨oc,od,kV,doc,pm,an,cdv,ct,osl,rfl,lk,hcd⟩:=F.ex
 exact x1w lk hcd S len λ A outer s H vs Q E hr hsp=>hbody cdv A outer s H vs Q E hr hsp
end
section
variable {M:Model}{A:Around}{E:Value->Shared->Prop}{env:Env}{C:Addr}{bmB:List Value}{nid:String}
theorem x2q {s:Shared}{v:Sem Value}{Q:Flow->Shared->Prop}(hb:bmB.contains (.type "BaseException")=true) (hh:A.handled=none)
  (q:wpAny M A v (λ u s1=>∃e t d,u=.ref e/\HasX s1.heap C bmB nid/\s1.heap.get? e=some (excRec C t d)/\E (.ref e) s1) E s):wpAny M A (raiseStmt env (some v) none) Q E s:=by
 unfold raiseStmt
 refine wpAny_bind (wpAny_mono q (λ u s1 z=>?_) λ _ _ z=>z)
 obtain ⟨e,t,d,rfl,X,he,hE⟩:=z
 obtain ⟨nm,qn,N,bs,bm,sn,sub,ab,col,dd,k0,k1,k2,k3,k5,hC,T⟩:=X.ex
 obtain ⟨hp,g,dr,tk,os⟩:=s1
 have isB:(Value.ref C::bm).contains (.type "BaseException")=true:=by rw [List.contains_cons,T.hasType hb,Bool.or_true]
 repeat (first | with_reducible refine wpAny_loadPart_at he ?_ | (with_reducible refine wpAny_isSubtype_exc hC ?_;rw [isB]) | with_reducible refine wpAny_loadPart_at hC ?_ | wp_step)
 exact wpAny_raiseNew_none hh hE
end
structure MkX (K:W.Frag) (C f:Addr) (bmB:List Value) (nid:String):Prop where
 cls:clsX K C bmB nid=true
 init:W.findIn K (.ref C) "__init__" = some (some (.ref f))
 fn:W.isFn K (.ref f)=true
 kp:W.keepIn K (.ref C)=true
def tRaiseX (C:Addr) (sp:Sp) (Ex:XK) (t:TA):TS:=λ _ σ H=>t σ H λ vs H1=>vs.length≤sizeLine/\∀a,H1 a=none ->
 sp (.ref a::vs) (upd H1 a (ExcM a C none)) (λ v H2=>v=.non/\∃dx,H2 a=some (ExcM a C (some dx))/\Ex (.ref C) (some dx) (rm H2 a)) E0
theorem y3s {X:Cx}{x:Str}{C f:Addr}{B nid initId:String}{bm:List Value}{np cpos pos:Pos}{e₀:Expr}{es:List Expr}{t:TA}{Ex:XK}{k:Nat}{fd:FuncData}{ps:List Str}{sp:Sp}
  (FB:ExcBaseFacts B nid initId bm) (hc:X.calm=true) (hg:Gl X x) (hm:X.mg x=some (.ref C)) (M:MkX X.K C f bm nid) (F:FnOk X.prog X.w X.K X.mg X.base CX0 k f fd ps sp) (hr:Room (k+1) X.A) (hbi:Binds X.K fd ps []) (hx:RaisesD X Ex) (ha:PA X (e₀::es) t)
  (hdb:(x == ("__debug__" : Str))=false:=by decide) (he:starEach (e₀::es) X.env=(false,eval e₀ X.env)::starEach es X.env:=by rfl) (hpl:(backTo cpos (starEach es X.env)).any (·.1)=false:=by rfl) :
  PS X (.Raise (some (.Call (.Name x np) (e₀::es) [] cpos)) none pos) (tRaiseX C sp Ex t):=by
 intro pins s σ H D I h
 rw [arm_exec_Raise]
 show wpAny (model X.prog X.w) X.A (do standAt pos;raiseStmt X.env (some (do let v ← eval (.Call (.Name x np) (e₀::es) [] cpos) X.env;standAt pos;pure v)) none) _ _ s
 refine wpAny_bind (wpAny_standAt (x2q (C:=C) (bmB:=bm) (nid:=nid) FB.hasBase (I.ok.hd hc) (wpAny_bind ?_)))
 refine wpAny_Call_Name_kw (z2y I hg hm ?_ hdb)
 refine W.callWith_K (h₀:=X.base) I.ok.mod.kin M.kp (thn (ha cpos pins s σ H _ I h) λ us s1 ⟨vs,H1,I1,r,hz,q⟩=>⟨I1.kIn,?_⟩) he hpl
 have hzu:us.length≤sizeLine:=by rw [← r.length];exact hz
 obtain ⟨hp,g,dr,tk,os⟩:=s1
 have hX:=x4n I1.kIn M.cls
 have hq:=q (hp.objs.size+1) (I1.hok.fresh (Nat.le_succ _))
 show wpAny _ _ (call (.ref C) us) _ _ _
 refine y6l FB I1.kIn hX M.init (beq_iff_eq.mp M.fn) ?_ hzu
 have gx:((hp.push { cls:=.type "tuple",data:=.seq us.toArray }).push (excRec C hp.objs.size none)).get? (hp.objs.size+1)=some (excRec C hp.objs.size none):=by heap_get
 generalize hh2:(hp.push { cls:=.type "tuple",data:=.seq us.toArray }).push (excRec C hp.objs.size none)=h2 at gx ⊢
 have kk:∀b o,hp.get? b=some o->h2.get? b=some o:=λ b o e=>by rw [← hh2];exact Heap.get?_push_of_some _ (Heap.get?_push_of_some _ e)
 have I2:Inv X pins σ (upd H1 (hp.objs.size+1) (ExcM (hp.objs.size+1) C none)) ⟨h2,g,dr,tk,os⟩:=I1.laid (t':=tk) kk (Nat.le_succ _) (y0q gx)
 have r2:Vals (V.ref (hp.objs.size+1)::vs) (Value.ref (hp.objs.size+1)::us):=.cons rfl r
 have hl:(Value.ref (hp.objs.size+1)::us++[]).length=ps.length:=by
  have e:=r2.length
  rw [F.len _ _ _ _ hq] at e
  simpa using e.symm
 have hl2:=hbi ⟨h2,g,dr,tk,os⟩ (Value.ref (hp.objs.size+1)::us) I2.kIn hl
 rw [List.append_nil] at hl2
 refine wpAny_call (codeAny_mono (F.run _ X.stack _ _ ⟨Value.ref (hp.objs.size+1)::us,[]⟩ (Value.ref (hp.objs.size+1)::us) _ _ E0 (hr.make C us []) (I2.env0.make C us []) hl2 r2 hq) λ r s' hq'=>?_)
 cases r with
 | error e=>exact False.elim hq'
 | ok fl =>
  cases fl with
  | ret u =>
   obtain ⟨v,H',I3,rv,ev,dx,ha3,q3⟩:=I2.after hq'
   subst ev
   refine ⟨rv,wpAny_bind (wpAny_standAt (wpAny_pure ?_))⟩
   obtain ⟨⟨t3,hr3⟩,_⟩:=(show ObjOk X.prog X.w H' s'.heap (hp.objs.size+1) (ExcM (hp.objs.size+1) C (some dx)) from I3.hok _ _ ha3)
   exact ⟨_,t3,some dx,rfl,x4n I3.kIn M.cls,hr3,hx pins σ H' s' _ C dx I3 ha3 (Nat.le_trans I1.sz (Nat.le_succ _)) q3⟩
  | next=>exact False.elim hq'
  | brk=>exact False.elim hq'
  | cont=>exact False.elim hq'
end L2
namespace L2
open PySem PySem.Spec PyProof.Rows PySem.W
def ExcD (a C d:Addr):HO:=.ext λ h=>∃o vs,h.get? a=some o/\o.cls=.ref C/\o.data=.fields vs/\o.dict=some d
theorem x2g {H:Hp}{a:Addr}{o:HO}(h:H a=some o):upd H a o=H:=by
 funext b
 by_cases e:b=a
 ·rw [e,z0f,h]
 ·rw [z1a e]
section
variable {X:Cx}{o e value:Expr}{f:Str}{pos pos' tpos:Pos}{ta tv:TE}
def tInitX (K:W.Frag) (bm:List Value) (nid:String) (t:TA):TE:=λ σ H Q=>t σ H λ vs H1=>∃a C d ws,vs=.ref a::ws/\H1 a=some (ExcM a C d)/\clsX K C bm nid=true/\ws.length≤sizeLine/\Q .non H1
theorem y7k {x:Str}{C0:Addr}{B nid initId:String}{bm:List Value}{np apos:Pos}{e₀:Expr}{es:List Expr}{t:TA}{pl:Sem Bool}(FB:ExcBaseFacts B nid initId bm) (hg:Gl X x) (hm:X.mg x=some (.ref C0))
  (h1:W.specialIn X.K (.ref C0) "__getattribute__" = some (some (.builtin "type.__getattribute__"))) (h2:W.readsIn X.K C0 (.type "type")=true) (h3:W.findCls X.K (.ref C0) (.type "type") "__init__" = some (.val (.builtin initId)))
  (h4:W.handedIn (.builtin initId)=true) (ha:PA X (e₀::es) t)
  (hb:eval (.Call (.Attribute (.Name x np) "__init__" apos) (e₀::es) [] pos) X.env=(do
   let ov ← eval (.Name x np) X.env
   standAt apos.atName
   let (f,first) ← holding [ov] (getMethod ov "__init__" pl)
   callWith pos f first (backTo pos (starEach (e₀::es) X.env)) (backToKw pos (keywordEach [] X.env))):=by rfl)
  (hdb:(x == ("__debug__" : Str))=false:=by decide) (he:starEach (e₀::es) X.env=(false,eval e₀ X.env)::starEach es X.env:=by rfl) (hpl:(backTo pos (starEach es X.env)).any (·.1)=false:=by rfl) :
  PE X (.Call (.Attribute (.Name x np) "__init__" apos) (e₀::es) [] pos) (tInitX X.K bm nid t):=by
 intro pins s σ H Q I h
 refine W.methodCall_KW (pl:=pl) (z2y I hg hm ?_ hdb) hb
 refine W.method_cls I.kIn h1 (W.cls_value I.kIn h2 h3 h4 ?_)
 have hA:=ha pos pins { s with toks:=s.toks+1 } σ H _ (I.tok _) h
 rw [he] at hA ⊢
 refine W.callWith_of (P:=λ _=>True) (by show ((false || (backTo pos (starEach es X.env)).any (·.1)) || false)=false;rw [hpl];rfl) (λ _ _=>⟨.machine,.inr (.inl rfl),W.Looks.of_pure rfl⟩) (Calls.evalArgs_plain (thn hA λ us s1 ⟨vs,H1,I1,r,a,C,d,ws,ev,hH,hc,hz,q⟩=>⟨trivial,?_⟩))
 subst ev
 cases r with
 | cons r0 r =>
  rename_i u us' hAP
  obtain rfl:u=Value.ref a:=r0
  obtain ⟨hp,g,dr,tk,os⟩:=s1
  obtain ⟨⟨t0,hrec⟩,_⟩:=(show ObjOk X.prog X.w H1 hp a (ExcM a C d) from I1.hok a _ hH)
  refine y2o FB (x4n I1.kIn hc) hrec (by rw [← r.length];exact hz) λ h2 hx2 kk=>⟨.non,H1,?_,rfl,q⟩
  have J:=I1.write (x:=a) (e:=a) (o:=ExcM a C d) (h':=h2) (t':=tk) (by rw [hH];exact True.intro) (.inl rfl) kk ⟨_,hx2⟩ (y0q hx2)
  rw [x2g hH] at J
  exact J
def sXf0 (K:W.Frag) (ta tv:TE) (f:Str):TS:=λ D σ H=>tv σ H λ y H1=>ta σ H1 λ x H2=>∃a C,x=.ref a/\H2 a=some (ExcM a C none)/\AtX K C/\NoAttr K C f /\
 ∀dx,H2 dx=none->dx≠a->D.nx σ (upd (upd H2 dx (ExcF dx [(f,y)])) a (ExcM a C (some dx)))
theorem x2s (ha:PE X o ta) (hv:PE X value tv) (hs:swapsWith value (some (.Attribute o f pos')) pos.line X.env=pure false):PS X (.Assign [.Attribute o f pos'] value pos) (sXf0 X.K ta tv f):=by
 intro pins s σ H D I h
 refine plainObj_wpAny_Assign_Attribute (thn (hv pins s σ H _ I h) λ u s1 ⟨y,H1,I1,ry,q⟩=>thn (ha pins s1 σ H1 _ I1 q) λ ov s2 ⟨x,H2,I2,rx,a,C,ex,ea,c,n,q2⟩=>?_) hs
 subst ex
 obtain rfl:ov=Value.ref a:=rx
 obtain ⟨hp,g,dr,tk,os⟩:=s2
 obtain ⟨⟨t0,hrec⟩,_⟩:=(show ObjOk X.prog X.w H2 hp a (ExcM a C none) from I2.hok a _ ea)
 refine x4q I2.kIn c n.taker hrec λ h2 tk2 hx2 hn2 kk=>⟨σ,_,?_,q2 hp.objs.size (I2.hok.fresh (Nat.le_refl _)) (Nat.ne_of_gt (Heap.lt_size hrec))⟩
 have Hd:H2 hp.objs.size=none:=I2.hok.fresh (Nat.le_refl _)
 have nda:hp.objs.size≠a:=Nat.ne_of_gt (Heap.lt_size hrec)
 have nA:∀b v,H2 b=some v->v≠ExcM a C none->b≠a:=λ b v e nv z=>by rw [z,ea] at e;cases e;exact nv rfl
 have nA0:∀b,H2 b=none->b≠a:=λ b e z=>by rw [z,ea] at e;cases e
 have nD:∀b v,H2 b=some v->b≠hp.objs.size:=λ b v e z=>by rw [z,Hd] at e;cases e
 have nS:∀b ob,hp.get? b=some ob->b≠hp.objs.size:=λ b ob e=>Nat.ne_of_lt (Heap.lt_size e)
 have keepT:∀b v,H2 b=some v->v≠ExcM a C none->upd (upd H2 hp.objs.size (ExcF hp.objs.size [(f,y)])) a (ExcM a C (some hp.objs.size)) b=some v:=λ b v e nv=>by
  rw [z1a (nA b v e nv),z1a (nD b v e)];exact e
 refine I2.un (h':=h2) (t':=tk2) ⟨λ b ob e n' _ _=>kk b ob (nA0 b n') e,λ b ob e n' _ _=>⟨ob.slots,kk b ob (nA0 b n') e⟩,λ b ob e n' _=>?_,λ b ob e _=>?_,λ b xs e=>keepT b _ e (by unfold ExcM;intro z;cases z),λ b ob v e=>keepT b _ e (by unfold ExcM;intro z;cases z),λ b ps e=>⟨#[],?_⟩⟩ λ b v e=>?_
 ·rw [z1a (nA0 b n'),z1a (nS b ob e)];exact n'
 ·by_cases hb:b=a
  ·exact ⟨_,hb ▸ hx2⟩
  ·exact ⟨ob,kk b ob hb e⟩
 ·rw [keepT b _ e (by unfold ExcM;intro z;cases z)];simp
 ·by_cases hb:b=a
  ·subst hb;rw [z0f] at e;cases e;exact y0q hx2
  ·rw [z1a hb] at e
   by_cases hd:b=hp.objs.size
   ·subst hd;rw [z0f] at e;cases e
    refine y5r (by simp) hn2 (λ g2=>?_) λ g2 hg2=>?_
    ·by_cases z:g2=f
     ·subst z;simp only [List.lookup_cons_self,if_true];exact ry
     ·have z2:(g2 == f)=false:=by simpa using z
      rw [List.lookup_cons,z2,if_neg z];exact True.intro
    ·by_cases z:g2=f
     ·simp [z]
     ·exact absurd (if_neg z) hg2
   ·rw [z1a hd] at e
    refine (I2.hok b v e).stay (λ c2 w hc q=>kk c2 w ?_ q) (λ c2 q=>keepT c2 _ q (by unfold ExcM;intro z;cases z)) λ c2 xs q=>keepT c2 _ q (by unfold ExcM;intro z;cases z)
    rcases hc with z | z
    ·rw [z];exact hb
    ·exact nA c2 _ z (by unfold ExcM;intro z;cases z)
def sXf1 (K:W.Frag) (ta tv:TE) (f:Str):TS:=λ D σ H=>tv σ H λ y H1=>ta σ H1 λ x H2=>∃a C dx fs,x=.ref a/\H2 a=some (ExcM a C (some dx))/\H2 dx=some (ExcF dx fs)/\AtX K C/\NoAttr K C f/\fs.length < 1000 /\
 D.nx σ (upd H2 dx (ExcF dx (putF f y fs)))
theorem x2r (ha:PE X o ta) (hv:PE X value tv) (hs:swapsWith value (some (.Attribute o f pos')) pos.line X.env=pure false):PS X (.Assign [.Attribute o f pos'] value pos) (sXf1 X.K ta tv f):=by
 intro pins s σ H D I h
 refine plainObj_wpAny_Assign_Attribute (thn (hv pins s σ H _ I h) λ u s1 ⟨y,H1,I1,ry,q⟩=>thn (ha pins s1 σ H1 _ I1 q) λ ov s2 ⟨x,H2,I2,rx,a,C,dx,fs,ex,ea,ed,c,n,hl,q2⟩=>?_) hs
 subst ex
 obtain rfl:ov=Value.ref a:=rx
 obtain ⟨hp,g,dr,tk,os⟩:=s2
 obtain ⟨⟨t0,hrec⟩,_⟩:=(show ObjOk X.prog X.w H2 hp a (ExcM a C (some dx)) from I2.hok a _ ea)
 obtain ⟨⟨_,mA,hn,rr,wi⟩,_⟩:=(show ObjOk X.prog X.w H2 hp dx (ExcF dx fs) from I2.hok dx _ ed)
 refine x4p I2.kIn c n.taker hrec hn wi (by simpa using hl) λ h2 tk2 n2 s2=>⟨σ,_,?_,q2⟩
 refine I2.write (x:=dx) (e:=dx) (h':=h2) (t':=tk2) (by rw [ed];exact True.intro) (.inl rfl) (λ b ob ne e=>(s2.2 b ne).trans e) (let ⟨o2,_,_,e2,_⟩:=n2;⟨o2,e2⟩) ?_
 refine y5r (by have:=z5g f y fs;omega) n2 (λ g2=>?_) λ g2 hg2=>?_
 ·rw [z5f]
  by_cases z:g2=f
  ·rw [if_pos z,if_pos z];exact ry
  ·rw [if_neg z,if_neg z];exact rr g2
 ·by_cases z:g2=f
  ·rw [z];exact (z5h f y fs).1
  ·refine (z5h f y fs).2 g2 (wi g2 λ zz=>hg2 ?_)
   show (if g2=f then some u else mA g2)=none
   rw [if_neg z];exact zz
def tXFld (K:W.Frag) (ta:TE) (f:Str):TE:=λ σ H Q=>ta σ H λ x H1=>∃a C d fs v,x=.ref a/\H1 a=some (ExcD a C d)/\H1 d=some (ExcF d fs)/\AtX K C/\NoAttr K C f/\NoAttr K C "__getattr__" /\ fs.lookup f=some v/\Q v H1
theorem x0r (he:PE X e ta) (hb:attributeBase e f X.env (eval e X.env)=eval e X.env):PE X (.Attribute e f pos) (tXFld X.K ta f):=by
 intro pins s σ H Q I h
 refine x2b hb (thn (he pins s σ H _ I h) λ u s1 ⟨x,H1,I1,rx,a,C,d,fs,v,ex,ea,ed,c,n,n2,l,q⟩=>?_)
 subst ex
 obtain rfl:u=Value.ref a:=rx
 obtain ⟨hp,g,dr,tk,os⟩:=s1
 obtain ⟨⟨o1,vs1,ho,hcl,hdt,hdi⟩,_⟩:=(show ObjOk X.prog X.w H1 hp a (ExcD a C d) from I1.hok a _ ea)
 obtain ⟨⟨_,mA,hn,rr,_⟩,_⟩:=(show ObjOk X.prog X.w H1 hp d (ExcF d fs) from I1.hok d _ ed)
 obtain ⟨w',hw,rw'⟩:=RelO.some_of (v:=v) (o:=mA f) (by rw [← l];exact rr f)
 exact x5r I1.kIn c n n2 ho hcl hdt hdi hn hw (y5k rw') ⟨v,H1,I1.tok _,rw',q⟩
theorem y6j {C:Addr}{c:Addr}{b:Bool}(k:ExcK X.K C) (e:kitOne X.K (.ref C) (.ref c)=some b) :
  CallR X (.builtin "isinstance") (λ xs H Q=>∃a d,xs=[.ref a,.ref c]/\H a=some (ExcD a C d)/\Q (.bl b) H):=by
 intro pins s σ H xs us Q I r h
 obtain ⟨a,d,rfl,ha,q⟩:=h
 obtain ⟨u,u',rfl,r1,r2⟩:=z9h r
 cases (show u=Value.ref a from r1)
 cases (show u'=Value.ref c from r2)
 obtain ⟨⟨o1,vs1,ho,hcl,hdt,_⟩,_⟩:=(show ObjOk X.prog X.w H s.heap a (ExcD a C d) from I.hok a _ ha)
 exact kia_one (y8c k) I.kIn ⟨o1,vs1,ho,hcl,hdt⟩ e (λ z=>nomatch z) λ tk=>⟨.bl b,H,I.tok tk,rfl,q⟩
end
def caughtD (C:Addr) (i:Nat) (ts:TS) (D:Ends):St->XK:=λ σ1 cls d H1=>cls=.ref C/\∃dx,d=some dx/\∀a,H1 a=none->ts (goneEnds D i) (σ1.set i (some (.ref a))) (upd H1 a (ExcD a C dx))
def tTryD (C:Addr) (i:Nat) (tb:(St->XK)->TS) (ts:TS):TS:=λ D σ H=>tb (caughtD C i ts D) D σ H
theorem x0o {X:Cx}{x n:Str}{C:Addr}{bm:List Value}{newId:String}{body suite:List Stmt}{b₀:Stmt}{np hpos pos:Pos}{i:Nat}{tb:(St->XK)->TS}{ts:TS}
  (hstk:X.stack=X.env::X.outer/\X.env.frame=some X.env.locals) (hex:X.ex=[]) (hN:X.N.Nodup) (hi:X.N[i]?=some n) (hk:X.env.scope.names.lookup n=some .local)
  (hg:Gl X x) (hm:X.mg x=some (.ref C)) (hq:clsX X.K C bm newId=true) (hbm:bm.contains (.type "BaseException")=true)
  (hb:∀(xe:Value->Shared->Prop) (pn:List (Addr × Obj)) (EE:St->XK),(∀σ,PassesAt (CX2 X.prog X.w) (X.more xe pn) (EE σ) σ)->PSs (X.more xe pn) body (tb EE))
  (hs:∀(a:Addr) (pn:List (Addr × Obj)),PSs (X.suite a pn) (b₀::suite) ts) (hd:(x == ("__debug__" : Str))=false:=by decide) :
  PS X (.Try body [.ExceptHandler (some (.Name x np)) (some n) (b₀::suite) hpos] [] [] pos) (tTryD C i tb ts):=by
 intro pins s σ H D I h
 refine wpAny_Try_except ?_
 generalize hXE:(λ e s₁=>wpAny (model X.prog X.w) X.A (noteFrame e X.env) (λ _ s₂=>wpAny (model X.prog X.w) X.A (setFlight e none) (λ _ s₃=>wpAny (model X.prog X.w) X.A (handleBy e X.env [.ExceptHandler (some (.Name x np)) (some n) (b₀::suite) hpos]) (SP X pins D) X.xe s₃) X.xe s₂) X.xe s₁:Value->Shared->Prop)=XE
 have toY:∀ {σ':St}{H':Hp}{s':Shared},Inv X pins σ' H' s'->Inv (X.more XE (X.pn++pins)) [] σ' H' s':=λ J=>⟨J.ok.more _ _,J.os,J.bare,J.base,J.loc,J.cell,J.free,J.freeC,λ p hp=>J.pin p (by simpa using hp),J.hok,J.len⟩
 have ofY:∀ {σ':St}{H':Hp}{s':Shared}{pp:List (Addr × Obj)},Inv (X.more XE (X.pn++pins)) pp σ' H' s'->Inv X pins σ' H' s':=λ J=>⟨I.ok,J.os,J.bare,J.base,J.loc,J.cell,J.free,J.freeC,λ p hp=>J.pin p (List.mem_append_left _ hp),J.hok,J.len⟩
 have body_ok:=hb XE (X.pn++pins) (caughtD C i ts D) ?_ [] s σ H D (toY I) h
 ·refine thn body_ok λ fl s' q=>?_
  cases fl with
  | next=>obtain ⟨σ',H',J,z⟩:=q;exact wpAny_execs_nil ⟨σ',H',ofY J,z⟩
  | brk=>obtain ⟨σ',H',J,z⟩:=q;exact ⟨σ',H',ofY J,z⟩
  | cont=>obtain ⟨σ',H',J,z⟩:=q;exact ⟨σ',H',ofY J,z⟩
  | ret u=>obtain ⟨v,σ',H',J,r,z⟩:=q;exact ⟨v,σ',H',ofY J,r,z⟩
 intro σ1 pins1 H1 s1 e s' I1 hx
 obtain ⟨a,C',dx,H',B,rfl,os,bare,fl,inB,thB,un,okB,hC',d2,ed2,hsuite⟩:=hx
 cases ed2
 obtain rfl:C'=C:=Value.ref.inj hC'
 subst hXE
 have fl:FlyD B (X.env::X.outer) a (.ref C') dx .none s'.heap:=by
  have z:FlyD B X.stack a (.ref C') dx .none s'.heap:=fl
  rw [hstk.1] at z;exact z
 have hfr:X.A.frames=some (X.env::X.outer):=by rw [I.ok.frames,hstk.1]
 have at_:∀h2:Heap,FlyD B (X.env::X.outer) a (.ref C') dx .none h2->s'.heap.UpToSlots h2->∀t2:Nat,Inv X pins σ1 H' { s' with heap:=h2,toks:=t2 }:=λ h2 f2 u2 t2=>by
  have J1:Inv X pins σ1 H1 s1:=ofY I1
  have slot:∀b o,s1.heap.get? b=some o->H1 b=none->b∈frs X.stack->∃sl,h2.get? b=some { o with slots:=sl }:=λ b o e nn hb=>by
   obtain ⟨sl2,e2⟩:=un.slot b o e nn hb (by simp)
   obtain ⟨_,o3,e3,nf⟩:=J1.stack.mem hb
   rw [e] at e3;cases e3
   obtain ⟨sl3,e4⟩:=u2 b _ e2 nf
   exact ⟨sl3,e4⟩
  refine J1.call' (s':={ s' with heap:=h2,toks:=t2 }) (ch:=[]) os ⟨λ b o e nn hb _=>f2.1 _ _ (inB b o e nn hb),λ b o e nn hb _=>slot b o e nn hb,un.free,λ b o e _=>?_,un.tups,un.frzs,un.tbls⟩ (okB.kept f2.1) bare (λ b z=>nomatch z)
  by_cases hb:b∈frs X.stack
  ·obtain ⟨sl,q⟩:=slot b o e (J1.stkFree b hb) hb
   exact ⟨_,q⟩
  ·obtain ⟨o',q⟩:=thB b o e hb
   exact ⟨o',f2.1 _ _ q⟩
 refine x3g hfr hstk.2 fl λ h4 held4 up4=>?_
 refine y8s (s:={ s' with heap:=h4 }) held4 λ h5 fl5 up5=>?_
 have J5:=at_ h5 fl5 (up4.trans up5) s'.toks
 obtain ⟨nm1,q1,N1,b1,tl,m1,u1,a1,l1,dd1,j0,j1,j2,j3,j5,hC5,T⟩:=(x4n J5.kIn hq).ex
 obtain ⟨oe5,ve5,he5,hc5,hd5,_⟩:=fl5.first
 have toZ:∀ {σ':St}{H':Hp}{s':Shared},Inv X pins σ' H' s'->Inv (X.suite a (X.pn++pins)) [] σ' H' s':=λ J=>⟨J.ok.suite _ _,J.os,J.bare,J.base,J.loc,J.cell,J.free,J.freeC,λ p hp=>J.pin p (by simpa using hp),J.hok,J.len⟩
 have ofZ:∀ {σ':St}{H':Hp}{s':Shared},Inv (X.suite a (X.pn++pins)) [] σ' H' s'->Inv X pins σ' H' s':=λ J=>⟨I.ok,J.os,J.bare,J.base,J.loc,J.cell,J.free,J.freeC,λ p hp=>J.pin p (List.mem_append_left _ hp),J.hok,J.len⟩
 refine wpAny_handleBy_cons (codeAny_handlers_test ?_) (by intro q;cases q)
 refine z2y (X:=X.suite a (X.pn++pins)) (toZ J5) hg hm ?_ hd
 obtain ⟨hh,gg,dd,tt,oo⟩:=s'
 refine wpAny_excMatches_sub_self hC5 he5 hc5 (T.hasType hbm) ?_
 refine codeAny_handlers_suite_as ?_
 refine y8s (s:=⟨h5,gg,dd,tt,oo⟩) fl5 λ h6 fl6 up6=>?_
 have J6:=at_ h6 fl6 ((up4.trans up5).trans up6) tt
 obtain ⟨oe,ve,hoe,hoc,hod,hox⟩:=fl6.first
 have Ba:B.get? a=none:=fl6.2.1
 have Ha:H' a=none:=by
  cases q:H' a with
  | none=>rfl
  | some u =>
   have z:a < B.objs.size:=okB.lt q
   have y:=okB a u q
   obtain ⟨o9,e9⟩:∃o9,B.get? a=some o9:=by
    cases u with
    | lst xs=>obtain ⟨_,_,_,_,e⟩:=y;exact ⟨_,e⟩
    | tup xs=>obtain ⟨_,_,_,o,e,_⟩:=y;exact ⟨_,e⟩
    | dK kvs=>obtain ⟨_,_,_,_,o,_,_,e,_⟩:=y;exact ⟨_,e⟩
    | dT kvs=>obtain ⟨_,_,_,_,o,_,_,e,_⟩:=y;exact ⟨_,e⟩
    | set S n=>obtain ⟨o,_,_,_,e,_⟩:=y;exact ⟨_,e⟩
    | ins C dx fs=>obtain ⟨_,_,_,e,_⟩:=y;exact ⟨_,e⟩
    | own y'=>obtain ⟨_,e⟩:=y;exact ⟨_,e⟩
    | xd fs=>obtain ⟨_,⟨_,_,_,e,_⟩,_⟩:=y;exact ⟨_,e⟩
    | rng lo hi=>obtain ⟨_,_,_,e⟩:=y;exact ⟨_,e⟩
    | frz ob u=>obtain ⟨e,_⟩:=y;exact ⟨_,e⟩
    | tbl ps=>exact ⟨_,(show B.get? a=some _ from y)⟩
    | met f y'=>exact ⟨_,(show B.get? a=some _ from y)⟩
    | ext φ=>obtain ⟨_,⟨_,e⟩,_⟩:=y;exact ⟨_,e⟩
   rw [Ba] at e9;cases e9
 have J1:Inv X pins σ1 H1 s1:=ofY I1
 have notfields:∀b o,h6.get? b=some o->(∀vs,o.data≠.fields vs)->b≠a:=λ b o e nf z=>by
  rw [z,hoe] at e;cases e;exact nf _ hod
 obtain ⟨mL,⟨oL,esL,epL,hoL,hdL,_⟩,_⟩:=id J6.loc
 have aL:a≠X.env.locals:=λ z=>(notfields X.env.locals oL hoL λ vs q=>by rw [hdL] at q;cases q) z.symm
 have ac:∀y c,X.env.cells.lookup y=some c->c≠a:=λ y c e=>by
  obtain ⟨v,o,ho,hdc⟩:=J6.cell y c e
  exact notfields c o ho λ vs q=>by rw [hdc] at q;cases q
 have inB2:∀b o,s1.heap.get? b=some o->H1 b=none->b ∉ frs X.stack->b≠a:=λ b o e nn hb z=>by
  have q:=inB b o e nn hb
  rw [z,Ba] at q;cases q
 have nstk:∀b,b≠X.env.locals->b ∉ X.fs->b ∉ frs X.stack:=λ b h1 h2 z=>by
  rcases List.mem_cons.mp (J1.stkSub b z) with q | q
  ·exact h1 q
  ·exact h2 q
 have ap:∀p∈X.pn++pins,p.1≠a:=λ p hp=>by
  obtain ⟨e,nn,ne,nf,_⟩:=J1.pin p hp
  exact inB2 p.1 p.2 e nn (nstk p.1 ne nf)
 have a0n:X.s₀.heap.get? a=none:=by
  cases q:X.s₀.heap.get? a with
  | none=>rfl
  | some o =>
   by_cases hx:a∈X.ex
   ·rw [hex] at hx;cases hx
   ·obtain ⟨o1,e1⟩:=J1.base.there a o q hx
    by_cases hf:a∈frs X.stack
    ·obtain ⟨_,o3,e3,nf⟩:=J6.stack.mem hf
     exact absurd rfl (notfields a o3 e3 nf)
    ·obtain ⟨o',q'⟩:=thB a o1 e1 hf
     rw [Ba] at q';cases q'
 have J7:Inv X pins σ1 (upd H' a (ExcD a C' dx)) { heap:=h6,gens:=gg,drawn:=dd,toks:=tt,os:=oo }:=J6.track Ha ⟨⟨oe,ve,hoe,hoc,hod,hox⟩,⟨oe,hoe⟩,λ k1 k2 ⟨o,vs,e,c,d⟩ kk=>⟨o,vs,kk o e,c,d⟩⟩ aL ac ap a0n
 refine z6l (X:=X.suite a (X.pn++pins)) (v:=.ref a) (toZ J7) hN hi (.inl hk) rfl (λ s8 J8=>?_) (.inr hk)
 refine wpAny_mono (hs a (X.pn++pins) [] s8 _ _ _ J8 (hsuite a Ha)) (λ fl s9 q=>?_) λ _ _ z=>z.elim
 have hcls:(X.env.scope.kind == .class || (X.env.scope.kind == .module && X.env.locals != X.env.globals))=false:=by rw [I.ok.kind];rfl
 have gone:∀ {σ9:St}{H9:Hp}{QQ:Unit->Shared->Prop},Inv (X.suite a (X.pn++pins)) [] σ9 H9 s9->(∀s10,Inv X pins (σ9.set i none) H9 s10->QQ () s10)->wpAny (model X.prog X.w) X.A (do bindName X.env n .none;unbindBehindTheSuite X.env n hpos) QQ X.xe s9:=λ {σ9 H9 QQ} J9 k=>by
  have J9':=ofZ J9
  obtain ⟨m,hm,hl⟩:=id J9'.loc
  exact wpAny_nameGoes_keeps hk hm hcls λ h' v hn' hs'=>k _ (J9'.gone hN hi hk hm hl hn' hs')
 cases fl with
 | next=>obtain ⟨σ9,H9,J9,z⟩:=q;exact gone J9 λ s10 J10=>⟨_,H9,J10,z⟩
 | brk=>obtain ⟨σ9,H9,J9,z⟩:=q;exact gone J9 λ s10 J10=>⟨_,H9,J10,z⟩
 | cont=>obtain ⟨σ9,H9,J9,z⟩:=q;exact gone J9 λ s10 J10=>⟨_,H9,J10,z⟩
 | ret u=>obtain ⟨v,σ9,H9,J9,r,z⟩:=q;exact gone J9 λ s10 J10=>⟨v,_,H9,J10,r,z⟩
theorem y0x {X:Cx}{K:W.Frag}{e:Expr}{f:Str}{pos:Pos}{ta:TE}(hK:X.K=K) (he:PE X e ta) (hb:attributeBase e f X.env (eval e X.env)=eval e X.env):PE X (.Attribute e f pos) (tXFld K ta f):=by
 subst hK
 exact x0r he hb
def CompZI (K:PySem.W.Frag) (k:Nat) (js:List Nat) (g:TG) (tc:TT) (te:TE) (σ:St) (vs:List V) (H1:Hp) (Q:VK):Prop:=∃a b xs ys,vs=[.ref a,.ref b]/\SqT K H1 a xs/\SqT K H1 b ys/\∃W:Nat->Nat->List V->St->Hp->Prop,(∃m,W 0 m [] (compSt k js σ) H1)/\∀i m zs σ' H',W i m zs σ' H' ->
  ((Itz K a b).stop i H'/\∀p,H' p=none->Q (.ref p) (upd H' p (.lst zs))) \/
  ((Itz K a b).go i H'/\zs.length < sizeLine/\∃N:List V->St->Hp->Prop,(∀zs σ2 H2,N zs σ2 H2->∃m',m' < m/\W (i+1) m' zs σ2 H2)/\∀x H2,(Itz K a b).yld i H' x H2->g x σ' H2 λ σ3 H3=>tc σ3 H3 λ b H4=>if b=true then te σ3 H4 λ v H5=>N (zs++[v]) σ3 H5 else N zs σ3 H4)
theorem y6a {K:W.Frag}{k:Nat}{js:List Nat}{ta:TA}{g:TG}{tc:TT}{te:TE}{σ:St}{H:Hp}{Q:VK}:tCompI (iZip K ta) k js g tc te σ H Q=ta σ H λ vs H1=>CompZI K k js g tc te σ vs H1 Q:=rfl
theorem CompZI.mk {K:W.Frag}{a b:Addr}{xs ys:List V}{k:Nat}{js:List Nat}{g:TG}{tc:TT}{te:TE}{Q:VK}{σ:St}{H:Hp}(n:Nat) (hn:n=min xs.length ys.length) (h1:SqT K H a xs) (h2:SqT K H b ys) (Pv:Nat->List V->St->Hp->Prop) (h0:Pv 0 [] (compSt k js σ) H) (hl:∀i zs σ H,i≤n->Pv i zs σ H->SqT K H a xs/\SqT K H b ys/\zs.length < sizeLine)
  (hs:∀i x y zs σ H T,i < n->xs[i]?=some x->ys[i]?=some y->Pv i zs σ H->H T=none->g (.ref T) σ (upd H T (.tup [x,y])) λ σ3 H3=>tc σ3 H3 λ b H4=>if b=true then te σ3 H4 λ v H5=>Pv (i+1) (zs++[v]) σ3 H5 else Pv (i+1) zs σ3 H4) (hz:∀zs σ H,Pv n zs σ H->∀p,H p=none->Q (.ref p) (upd H p (.lst zs))) :
  CompZI K k js g tc te σ [.ref a,.ref b] H Q:=by
 subst hn
 refine ⟨a,b,xs,ys,rfl,h1,h2,λ i m zs σ H=>m=min xs.length ys.length - i/\i≤min xs.length ys.length/\Pv i zs σ H,⟨_,rfl,Nat.zero_le _,h0⟩,?_⟩
 rintro i m zs σ H ⟨rfl,hi,p⟩
 obtain ⟨k1,k2,k3⟩:=hl i zs σ H hi p
 by_cases hlt:i < min xs.length ys.length
 ·have l1:i < xs.length:=by omega
  have l2:i < ys.length:=by omega
  refine .inr ⟨⟨xs,ys,_,_,k1,k2,List.getElem?_eq_getElem l1,List.getElem?_eq_getElem l2⟩,k3,Pv (i+1),λ zs' σ' H' p'=>⟨min xs.length ys.length - (i+1),by omega,rfl,hlt,p'⟩,λ v H' yy=>?_⟩
  obtain ⟨T,x,y,rfl,hT,rfl,ex⟩:=yy
  obtain ⟨ex1,ex2⟩:=ex xs ys k1 k2
  exact hs i x y zs σ H T hlt ex1 ex2 p hT
 ·have e:i=min xs.length ys.length:=by omega
  exact .inl ⟨⟨xs,ys,k1,k2,by omega⟩,hz zs σ H (e ▸ p)⟩
end L2
namespace PySem.W.Fast
theorem tw6618900784723618707:True:=⟨⟩
theorem tw14132104390496999712:True:=⟨⟩
theorem tw1203067884160854594:True:=⟨⟩
theorem tw7451114399783416004:True:=⟨⟩
theorem tw4562856216076448869:True:=⟨⟩
theorem tw8996001792188908085:True:=⟨⟩
theorem tw4882828175046882360:True:=⟨⟩
theorem tw4876789202864024330:True:=⟨⟩
theorem tw6161457941573702522:True:=⟨⟩
theorem tw14006869785845373323:True:=⟨⟩
theorem tw8511389192642481305:True:=⟨⟩
theorem tw10198273277484296407:True:=⟨⟩
theorem tw16826165721898428269:True:=⟨⟩
theorem tw833547298741482269:True:=⟨⟩
theorem tw4725716574199987866:True:=⟨⟩
theorem tw15999769078234370649:True:=⟨⟩
theorem tw16386064114204668451:True:=⟨⟩
theorem tw16224190213664186884:True:=⟨⟩
theorem tw1946591898456962318:True:=⟨⟩
theorem tw11364878900050816253:True:=⟨⟩
theorem tw11394313742103901684:True:=⟨⟩
theorem tw6836841560918953178:True:=⟨⟩
theorem tw11535658809151029709:True:=⟨⟩
theorem tw12877223557485770827:True:=⟨⟩
theorem tw17174432492138247708:True:=⟨⟩
theorem tw11860192222820043150:True:=⟨⟩
theorem tw10910271264124609818:True:=⟨⟩
theorem tw13827260264938294440:True:=⟨⟩
theorem tw12717706845648866263:True:=⟨⟩
theorem tw6220149040496570188:True:=⟨⟩
theorem tw9705647732755257622:True:=⟨⟩
theorem tw12666095678370866326:True:=⟨⟩
theorem tw16732809936872385159:True:=⟨⟩
theorem tw14407260258494535465:True:=⟨⟩
theorem tw10858961183602021366:True:=⟨⟩
theorem tw10258172974078022711:True:=⟨⟩
theorem tw2975329976089875009:True:=⟨⟩
theorem tw2815373540232124597:True:=⟨⟩
theorem tw14844492337542817921:True:=⟨⟩
theorem tw10002521456564384759:True:=⟨⟩
theorem tw8885743364353650630:True:=⟨⟩
theorem tw12697490452915728530:True:=⟨⟩
theorem tw15312544934754510898:True:=⟨⟩
theorem tw632285546311528088:True:=⟨⟩
theorem tw16973185112059909695:True:=⟨⟩
theorem tw14783173435308996310:True:=⟨⟩
theorem tw3135673241873027780:True:=⟨⟩
theorem tw12442352681012758657:True:=⟨⟩
theorem tw738552376852777700:True:=⟨⟩
theorem tw7549173386448520664:True:=⟨⟩
theorem tw10023369288528835347:True:=⟨⟩
theorem tw5257445226209716679:True:=⟨⟩
theorem tw2079404467143141718:True:=⟨⟩
theorem tw16114158092466133641:True:=⟨⟩
theorem tw11337230833457611555:True:=⟨⟩
theorem tw10070515996944116626:True:=⟨⟩
theorem tw17770081644075072611:True:=⟨⟩
theorem tw940431679997872062:True:=⟨⟩
theorem tw7466960611926682396:True:=⟨⟩
theorem tw9964745059522656307:True:=⟨⟩
theorem tw10246126781918873929:True:=⟨⟩
theorem tw17416507009018498346:True:=⟨⟩
theorem tw328822535173892142:True:=⟨⟩
theorem tw9990741813401172376:True:=⟨⟩
theorem tw8056661023724233344:True:=⟨⟩
theorem tw1289487489966758872:True:=⟨⟩
theorem tw9680314653624507271:True:=⟨⟩
theorem tw11580465214165465878:True:=⟨⟩
theorem tw6603005227851989830:True:=⟨⟩
theorem tw4680496678406892987:True:=⟨⟩
theorem tw13418928039273506575:True:=⟨⟩
theorem tw11211222779023378500:True:=⟨⟩
theorem tw32473883334541424:True:=⟨⟩
theorem tw8504047315576555261:True:=⟨⟩
theorem tw8793999302839038502:True:=⟨⟩
theorem tw2224409031028963992:True:=⟨⟩
theorem tw14133446848308292691:True:=⟨⟩
theorem tw11518846994047613869:True:=⟨⟩
theorem tw7455650428312646106:True:=⟨⟩
theorem tw6763398399915948731:True:=⟨⟩
theorem tw9801535321185355921:True:=⟨⟩
theorem tw7464444462217142591:True:=⟨⟩
theorem tw12910134151403046615:True:=⟨⟩
theorem tw522481556254369713:True:=⟨⟩
theorem tw2156144929895433517:True:=⟨⟩
theorem tw8329295056634916746:True:=⟨⟩
theorem tw10891089590829911113:True:=⟨⟩
theorem tw12925994642290695645:True:=⟨⟩
theorem tw11779476713500616596:True:=⟨⟩
theorem tw9523885484003243785:True:=⟨⟩
theorem tw12201944549407332875:True:=⟨⟩
theorem tw2261987724119572586:True:=⟨⟩
theorem tw13960685672439435979:True:=⟨⟩
theorem tw17987083408931355843:True:=⟨⟩
theorem tw4210284231553446729:True:=⟨⟩
theorem tw4710434001366270695:True:=⟨⟩
theorem tw4105071238409787493:True:=⟨⟩
theorem tw12384293604330941401:True:=⟨⟩
theorem tw7899946520375937431:True:=⟨⟩
theorem tw5044585898824723779:True:=⟨⟩
theorem tw8048256385601220392:True:=⟨⟩
theorem tw3745821670849794757:True:=⟨⟩
theorem tw3270873242611426590:True:=⟨⟩
theorem tw13289535996671154810:True:=⟨⟩
theorem tw12847963429347467840:True:=⟨⟩
theorem tw9502621410014186275:True:=⟨⟩
theorem tw126653263417515844:True:=⟨⟩
theorem tw6834703420405717402:True:=⟨⟩
theorem tw11999515973490159242:True:=⟨⟩
theorem tw11129984783944445142:True:=⟨⟩
theorem tw15092458294858063460:True:=⟨⟩
theorem tw341042916832196735:True:=⟨⟩
theorem tw5270831795423294315:True:=⟨⟩
theorem tw491414091503445781:True:=⟨⟩
theorem tw10727306803712851229:True:=⟨⟩
theorem tw11357271777462176429:True:=⟨⟩
theorem tw13536774386556528065:True:=⟨⟩
theorem tw9927615819681041629:True:=⟨⟩
theorem tw9274525360024592334:True:=⟨⟩
theorem tw16566710106188471037:True:=⟨⟩
theorem tw18103662722172703145:True:=⟨⟩
theorem tw5078837098453161219:True:=⟨⟩
theorem tw12656551842902285730:True:=⟨⟩
theorem tw6609552444787540254:True:=⟨⟩
theorem tw6482715334712079278:True:=⟨⟩
theorem tw10940494206577179959:True:=⟨⟩
theorem tw14847149546371056666:True:=⟨⟩
theorem tw8065250880603886912:True:=⟨⟩
theorem tw220915118352869089:True:=⟨⟩
theorem tw4387441569571176811:True:=⟨⟩
theorem tw14617737593990518523:True:=⟨⟩
theorem tw14185453467471626630:True:=⟨⟩
theorem tw15134053724828871559:True:=⟨⟩
theorem tw6752777006787915935:True:=⟨⟩
theorem tw7193171257708146485:True:=⟨⟩
theorem tw10262697167529918689:True:=⟨⟩
theorem tw197837236388520450:True:=⟨⟩
theorem tw5411905535036298592:True:=⟨⟩
theorem tw3759404101592252397:True:=⟨⟩
theorem tw5348360721487965769:True:=⟨⟩
theorem tw6867731780737915852:True:=⟨⟩
theorem tw11200899138833508220:True:=⟨⟩
theorem tw9814061560612802741:True:=⟨⟩
theorem tw5829362166652960887:True:=⟨⟩
theorem tw5826928022359850857:True:=⟨⟩
theorem tw265934751894203675:True:=⟨⟩
theorem tw9456769386114077540:True:=⟨⟩
theorem tw8803074109085712364:True:=⟨⟩
theorem tw1796391698147391564:True:=⟨⟩
theorem tw6327559873449160694:True:=⟨⟩
theorem tw4368757639849256708:True:=⟨⟩
theorem tw7272381774849793850:True:=⟨⟩
theorem tw18176505102987480349:True:=⟨⟩
theorem tw8572179169945079176:True:=⟨⟩
theorem tw13883170070138839791:True:=⟨⟩
theorem tw8744393964641675252:True:=⟨⟩
theorem tw625042235523936945:True:=⟨⟩
theorem tw283493398641136990:True:=⟨⟩
theorem tw8235367724066546724:True:=⟨⟩
theorem tw11072476420661785104:True:=⟨⟩
theorem tw12938468891404242646:True:=⟨⟩
theorem tw5582790067587579047:True:=⟨⟩
theorem tw7831335375495656359:True:=⟨⟩
theorem tw3669311685279047171:True:=⟨⟩
theorem tw14376550808314891203:True:=⟨⟩
theorem tw1746327942450198428:True:=⟨⟩
theorem tw8481720309035861200:True:=⟨⟩
theorem tw7062657491188118236:True:=⟨⟩
theorem tw11099146440962877999:True:=⟨⟩
theorem tw13925032783713661920:True:=⟨⟩
theorem tw7566520182354333379:True:=⟨⟩
theorem tw7370727679663441790:True:=⟨⟩
theorem tw7888290635005103921:True:=⟨⟩
theorem tw10845543884506818780:True:=⟨⟩
theorem tw16631151208605196398:True:=⟨⟩
theorem tw14513526639656284993:True:=⟨⟩
theorem tw18098024918479206933:True:=⟨⟩
theorem tw18239332879997454576:True:=⟨⟩
theorem tw8842892598345817173:True:=⟨⟩
theorem tw9473103076210191365:True:=⟨⟩
theorem tw11891443621168823306:True:=⟨⟩
theorem tw16519221944342696186:True:=⟨⟩
theorem tw17854987730948889945:True:=⟨⟩
theorem tw14294748668306361459:True:=⟨⟩
theorem tw14213106742985802249:True:=⟨⟩
theorem tw14305045325514258738:True:=⟨⟩
theorem tw10416754706883435980:True:=⟨⟩
theorem tw1035514879100442694:True:=⟨⟩
theorem tw14825062155296020854:True:=⟨⟩
theorem tw4370580801079651938:True:=⟨⟩
theorem tw5498479537859363529:True:=⟨⟩
theorem tw1263000525591154293:True:=⟨⟩
theorem tw286073708202656210:True:=⟨⟩
end PySem.W.Fast
namespace My
open PySem L2 PyProof.Rows
local macro_rules | `(tactic| wp_walk using $xs:term,*)=>`(tactic| simp only [rPopAt,rCount,tBMf,rStarts,rSlStrX,tKTab,rKTab,tKIn,y8l,y5y,y6c,gTup,rJoinD,rJoinW,rMulS,rIxQ,rExtend,rSplit,rInN,rMulC,tDGet1,tDIn,sDPut,tDNewK,rRep,rExtendT,rUpdate,rEqD,rNeD,x1t,y9a,y8n,tCalV,tLam,x1v,rIndex,rMnD,rMxD,tKwD,y8k,y5x,rInsert,y6b,tKwK,rMxK,tKw2,rMx2,y6g,y6d,tRaiseX,tTryD,caughtD,tXFld,tInitX,sXf0,sXf1,y6a,y8m,y5z,rCatL,x1q,y8y,rFind,tFR,rSlStr,rUpper,rJoin,tBM0,tBM,tyV,y8r,tTupRevT,rSlTA,tTryN,caughtN,catchN,y9c,y6h,rNeT,rNeL,tRaise,tTry,tCallX,caughtBy,goneEnds,rCatA,rEqL,rEqT,x1r,x1p,y8x,y8o,y6e,rCatS,rSlTS,tSl,tNoPart,tPart,rSetL,gSub,rIxT,tRet,tRetN,tNext,tVar,tC,tOp,tUn,rI,rI0,rU,rEq,rNe,tTest,tB,tNot,tAnd,tOr,tAndV,tOrV,tNotV,tIf,tCall,tCB,tNil,tCons,tChain,tLst,tTup,tAsg,gName,tDrop,tNever,rIxL,rCat,CPow,CMul,CDiv,CDivN,CDivW,L2.start,scal,x1u,x1s,y8q,y8p,y9b,y8z,y6f,x4g,y8u,x3x,x3y,x3z,x4a,x3w,tyS,tApp,gTupH,gCons,gNil,rInT,rInL,rIxLH,rIxTH,inV,eqV,flatV,z0f,HO.lst.injEq,HO.tup.injEq,List.any_cons,List.any_nil,List.all_cons,List.all_nil,Bool.or_false,Bool.and_self,Bool.and_true,Bool.or_eq_true,beq_iff_eq,V.int.injEq,V.bl.injEq,V.str.injEq,V.ref.injEq,V.ty.injEq,List.map_cons,List.map_nil,List.length_cons,List.length_nil,List.cons_append,List.nil_append,List.getElem?_cons_zero,List.getElem?_cons_succ,Option.some.injEq,exists_eq_left',exists_eq_left,exists_and_left,List.cons.injEq,and_true,true_and,and_assoc,decide_eq_true_eq,List.set_cons_zero,List.set_cons_succ,List.replicate,Nat.sub_self,List.append_nil,Nat.add_sub_cancel,Nat.reduceAdd,Nat.reduceSub,Int.reduceLT,Int.reduceLE,Int.reduceNeg,Int.reduceSub,Int.reduceAdd,Int.reducePow,Int.reduceToNat,na2,x5t,Nat.reducePow,Nat.reduceLT,if_true,if_false,Bool.not_true,Bool.not_false,Bool.false_eq_true,List.mem_cons,List.not_mem_nil,eq_self,true_or,or_true,or_false,false_or,String.reduceEq,Option.isSome_some,ne_eq,not_false_eq_true,not_true_eq_false,Bool.not_eq_true',decide_eq_false_iff_not,Bool.true_eq_false,$[$xs:term],*])
def top (i:Nat):Stmt:=PySem.Challenge.pw_sideloom_k56_costs_of_the_plain_way.main.body.getD i (.Pass ⟨0,0,0,0⟩)
def formsL:List (Str × List (Str × Int)):=[("in",[("sides",1)]),("num",[("number",1)]),("count",[("small",2),("sides",1)]),("each",[("word",1),("step",2)]),("pair",[("word",1),("step",2),("step",3)]),("pick",[("step",1),("step",2),("step",3)]),("turn",[("step",1),("sides",2)]),("flip",[("step",1),("small",2)]),("cut",[("step",1),("small",2),("small",3),("small",4),("small",5)]),("spread",[("step",1),("small",2),("small",3)]),("lay",[("step",1),("sides",2)]),("join",[("step",1),("step",2),("small",3)]),("fetch",[("step",1),("step",2)]),("fold",[("word",1),("step",2),("small",3)]),("run",[("word",1),("step",2),("small",3)])]
def ItemsAll (K:W.Frag):List (Str × Int)->List V->Prop
 | [],[]=>True
 | f::fs,x::xs=>(∃a,x=.ref a/\KTup K a [.str f.1,.int f.2])/\ItemsAll K fs xs
 | _,_=>False
def PartsAll (K:W.Frag):List (Str × List (Str × Int))->List (Str × Addr)->Prop
 | [],[]=>True
 | f::fs,p::ps=>(p.1=f.1/\∃xs,KTup K p.2 xs/\ItemsAll K f.2 xs)/\PartsAll K fs ps
 | _,_=>False
def PartsOk (P:Program) (w:World) (K:W.Frag) (d:Addr):Prop:=∃kvs,KTab P w K d kvs/\PartsAll K formsL kvs
theorem z0y {K:W.Frag}{a:Addr}{od:Option Addr}{its:Array Value}{n:Nat}{sl:Array (Option Value)}{xs:List V}(h:K.lookup a=some ⟨.type "tuple",od,.seq its n,sl⟩) (z:its.size≤sizeLine) (v:Vals xs its.toList):KTup K a xs:=⟨_,its,n,h,rfl,rfl,z,v⟩
theorem z6f {K:W.Frag}:∀ {fs:List (Str × List (Str × Int))}{kvs:List (Str × Addr)},PartsAll K fs kvs->∀ {x:Str}{f:List (Str × Int)},fs.lookup x=some f->∃a xs,kvs.lookup x=some a/\KTup K a xs/\ItemsAll K f xs
 | [],_,_,x,f,e=>nomatch e
 | _::_,[],h,_,_,_=>h.elim
 | (g,gs)::fs,(p,pa)::ps,h,x,f,e=>by
  obtain ⟨⟨e1,xs,k1,k2⟩,h2⟩:=h
  cases (show p=g from e1)
  rw [List.lookup_cons] at e ⊢
  by_cases c:x == g
  ·rw [c] at e ⊢
   cases e
   exact ⟨pa,xs,rfl,k1,k2⟩
  ·have c:(x == g)=false:=by simpa using c
   rw [c] at e ⊢
   exact z6f h2 e
theorem y1e {K:W.Frag}:∀ {fs:List (Str × Int)}{xs:List V},ItemsAll K fs xs->xs.length=fs.length/\∀ {i:Nat}{x:V},xs[i]?=some x->∃f a,fs[i]?=some f/\x=.ref a/\KTup K a [.str f.1,.int f.2]
 | [],[],_=>⟨rfl,λ e=>by simp at e⟩
 | [],_::_,h=>h.elim
 | _::_,[],h=>h.elim
 | f::fs,y::ys,h=>by
  obtain ⟨⟨a,e1,k1⟩,h2⟩:=h
  obtain ⟨l,at2⟩:=y1e h2
  refine ⟨by simp [l],λ {i x} e=>?_⟩
  cases i with
  | zero=>cases e;exact ⟨f,a,rfl,e1,k1⟩
  | succ i=>exact at2 e
def prodI (ns:List Int):Int:=ns.foldl (λ a b=>a * b) 1
theorem z8c {ns:List Int}{i:Nat}{x:Int}(h:ns[i]?=some x):prodI (ns.take (i+1))=prodI (ns.take i) * x:=by
 unfold prodI
 rw [List.take_add_one,h,List.foldl_append]
 rfl
def sdOk (ns:List Int):Prop:=∀n∈ns,0≤n/\n < 1000000000000000000
def one1 (n:Int):Int:=if n=0 then 1 else n
theorem y9o {ns:List Int}(h:sdOk ns):sdOk (ns.map one1):=by
 intro n hn
 obtain ⟨m,hm,rfl⟩:=List.mem_map.mp hn
 have:=h m hm
 unfold one1
 split<;>omega
theorem y1r {ns:List Int}(h:sdOk ns) {i:Nat}{x:V}(e:(ns.map V.int)[i]?=some x):∃m,x=.int m/\ns[i]?=some m/\0≤m/\m < 1000000000000000000:=by
 rw [List.getElem?_map] at e
 cases q:ns[i]? with
 | none=>rw [q] at e;cases e
 | some m =>
  rw [q] at e
  exact ⟨m,(Option.some.inj e).symm,rfl,h m (List.mem_of_getElem? q)⟩
def bigI (ns:List Int):Prop:=6 < ns.length\/512 < prodI (ns.map one1)
def spallowed (C:Addr):Sp:=λ vs H Q E=>∃(a:Addr) (ns:List Int),vs=[.ref a]/\H a=some (.tup (ns.map V.int))/\sdOk ns/\ns.length≤63/\(bigI ns->∀H',Same H H'->E (.ref C) none H')/\(¬bigI ns->∀H',Same H H'->Q (.ref a) H')
theorem z0h {A B:TS}{D:Ends}{σ:L2.St}{H:Hp}(J:L2.St->Hp->Prop) (h2:∀σ H,J σ H->B D σ H) (h1:∀R:L2.St->Hp->Prop,(∀σ H,J σ H->R σ H)->A { D with nx:=R } σ H):tSeq A B D σ H:=h1 (B D) h2
theorem z0v (ns:List Int):(ns.map V.int).length=ns.length:=List.length_map ..
theorem y1f {ms:List Int}{i:Nat}{y:V}(ey:(ms.map V.int)[i]?=some y):∃m,y=.int m/\ms[i]?=some m:=by
 rw [List.getElem?_map] at ey
 cases q:ms[i]? with
 | none=>rw [q] at ey;cases ey
 | some m=>rw [q] at ey;exact ⟨m,(Option.some.inj ey).symm,rfl⟩
theorem z6x (xs:List Int) (y:Int):prodI (xs++[y])=prodI xs * y:=by unfold prodI;rw [List.foldl_append];rfl
theorem y3t (xs:List Int):∀a:Int,xs.foldl (λ a b=>a * b) a=a * prodI xs:=by
 induction xs with
 | nil=>intro a;show a=a * 1;rw [Int.mul_one]
 | cons x xs ih=>intro a;show xs.foldl (λ a b=>a * b) (a * x)=a * (xs.foldl (λ a b=>a * b) (1 * x));rw [ih,ih (1 * x),Int.one_mul,Int.mul_assoc]
theorem z1g (x:Int) (xs:List Int):prodI (x::xs)=x * prodI xs:=by
 show xs.foldl (λ a b=>a * b) (1 * x)=_
 rw [y3t,Int.one_mul]
def fit (ns:List Int):Prop:=(∀n∈ns,0≤n/\n≤512)/\ns.length≤6/\1≤prodI (ns.map one1)/\prodI (ns.map one1)≤512
def Pair (H:Hp) (p:Addr) (w:String) (ms:List Int):Prop:=∃q,H p=some (.tup [.str w,.ref q])/\H q=some (.tup (ms.map V.int))
def off (ns:List Int) (side:Int):Prop:=side < 0\/(ns.length:Int)≤side
def bad (ns:List Int) (side first many step:Int):Prop:=first < 0\/many < 0\/step < 1\/(0 < many/\ns.getD side.toNat 0≤first+(many - 1) * step)
def spask (C:Addr):Sp:=λ vs H Q E=>∃(a:Addr) (ns:List Int) (side:Int),vs=[.ref a,.int side]/\H a=some (.tup (ns.map V.int))/\(off ns side->E (.ref C) none H)/\(¬off ns side->Q .non H)
def spflip (C:Addr):Sp:=λ vs H Q E=>∃(a:Addr) (ns:List Int) (side:Int),vs=[.ref a,.int side]/\H a=some (.tup (ns.map V.int))/\(off ns side->E (.ref C) none H)/\(¬off ns side->Q (.ref a) H)
def spfolded (C:Addr):Sp:=λ vs H Q E=>∃(a:Addr) (ns:List Int) (side:Int),vs=[.ref a,.int side]/\H a=some (.tup (ns.map V.int))/\ns.length≤63/\(off ns side->E (.ref C) none H)/\(¬off ns side->∀H' p,Same H H'->H' p=some (.tup ((ns.eraseIdx side.toNat).map V.int))->Q (.ref p) H')
def spcut (C D:Addr):Sp:=λ vs H Q E=>∃(a:Addr) (ns:List Int) (side first many step:Int),vs=[.ref a,.int side,.int first,.int many,.int step]/\H a=some (.tup (ns.map V.int))/\ns.length≤63/\-100 < many/\many < 1000000/\(off ns side->E (.ref C) none H)/\(¬off ns side->bad ns side first many step->E (.ref D) none H)/\(¬off ns side->¬bad ns side first many step->∀H' p,Same H H'->H' p=some (.tup ((ns.set side.toNat many).map V.int))->Q (.ref p) H')
theorem z8u {ns:List Int}{k:Nat}(h:k≤ns.length):cutV (ns.map V.int) none (some (k:Int))=(ns.take k).map V.int:=by
 unfold cutV;simp only [HT.sIx,z0v];rw [if_neg (by omega),List.drop_zero,List.map_take];congr 1;omega
theorem z8v {ns:List Int}{k:Nat}(h:k≤ns.length):cutV (ns.map V.int) (some (k:Int)) none=(ns.drop k).map V.int:=by
 unfold cutV;simp only [HT.sIx,z0v];rw [if_neg (by omega),List.map_drop,show min (k:Int).toNat ns.length=k by omega,List.take_of_length_le (by simp)]
theorem x2d {ns:List Int}{side:Int}(h:¬off ns side):∃k:Nat,side=k/\k < ns.length:=by
 unfold off at h
 exact ⟨side.toNat,by omega,by omega⟩
theorem y1k {ns:List Int}{k:Nat}(h:k < ns.length):atI (ns.map V.int) (k:Int)=some (.int (ns.getD k 0)):=z0m (by rw [List.getElem?_map,List.getElem?_eq_getElem h,List.getD_eq_getElem?_getD,List.getElem?_eq_getElem h];rfl)
instance (ns:List Int):Decidable (bigI ns):=by unfold bigI;infer_instance
theorem z2k (ns:List Int) (k:Nat):cutV (ns.map V.int) none (some (k:Int))=(ns.take k).map V.int:=by
 unfold cutV;simp only [HT.sIx,z0v];rw [if_neg (by omega),List.drop_zero,Nat.sub_zero,← List.map_take];congr 1
 by_cases c:k≤ns.length
 ·congr 1;omega
 ·rw [List.take_of_length_le (by omega),List.take_of_length_le (by omega)]
theorem z2b:∀(ns ms:List Int),eqVs (ns.map V.int) (ms.map V.int)=decide (ns=ms)
 | [],[]=>rfl
 | [],m::ms=>by simp [eqVs]
 | n::ns,[]=>by simp [eqVs]
 | n::ns,m::ms=>by
  by_cases e:n=m
  ·subst e;simp [eqVs,eqV,z2b ns ms]
  ·simp [eqVs,eqV,z2b ns ms,e]
def agr (x y:List Int):Prop:=∀k:Nat,k < x.length->k < y.length->x[k]?=y[k]?
theorem y9j (x:List Int):agr x x:=λ _ _ _=>rfl
theorem y1l {x y:List Int}(h:agr x y):agr y x:=λ k a b=>(h k b a).symm
theorem z7o {x y:List Int}(h:x.length≤y.length):agr x y ↔ y.take x.length=x:=by
 constructor
 ·intro a
  apply List.ext_getElem?
  intro k
  by_cases c:k < x.length
  ·rw [List.getElem?_take_of_lt c];exact (a k c (by omega)).symm
  ·rw [List.getElem?_eq_none (by rw [List.length_take];omega),List.getElem?_eq_none (by omega)]
 ·intro e k hx hy
  have z:=congrArg (λ l=>l[k]?) e
  simp only [List.getElem?_take_of_lt hx] at z
  exact z.symm
def pairOk (x y:List Int):Prop:=if y.length < x.length then x.take y.length=y else y.take x.length=x
def pairL (x y:List Int):List Int:=if y.length < x.length then x else y
theorem z3z (x y:List Int):pairOk x y ↔ agr x y:=by
 unfold pairOk
 split
 ·rename_i h;exact (z7o (by omega)).symm.trans ⟨y1l,y1l⟩
 ·rename_i h;exact (z7o (by omega)).symm
theorem x4j {x y:List Int}(h:agr x y) (l:x.length=y.length):x=y:=by
 have z:=(z7o (x:=x) (y:=y) (by omega)).mp h
 rw [l,List.take_length] at z
 exact z.symm
theorem y6o {x y z:List Int}(h:agr x z) (h2:agr y z):agr (pairL x y) z:=by
 unfold pairL;split
 ·exact h
 ·exact h2
def spled (C:Addr):Sp:=λ vs H Q E=>∃(a b:Addr) (ns ms:List Int),vs=[.ref a,.ref b]/\H a=some (.tup (ns.map V.int))/\H b=some (.tup (ms.map V.int))/\(¬ms.take ns.length=ns->∀H',Same H H'->E (.ref C) none H')/\(ms.take ns.length=ns->∀H',Same H H'->Q (.ref b) H')
def sppaired (C:Addr):Sp:=λ vs H Q E=>∃(a b:Addr) (ns ms:List Int),vs=[.ref a,.ref b]/\H a=some (.tup (ns.map V.int))/\H b=some (.tup (ms.map V.int))/\(¬pairOk ns ms->∀H',Same H H'->E (.ref C) none H')/\(pairOk ns ms->∀H' p,Same H H'->H' p=some (.tup ((pairL ns ms).map V.int))->Q (.ref p) H')
def sppicked (C:Addr):Sp:=λ vs H Q E=>∃(a b c:Addr) (ns ms ks:List Int),vs=[.ref a,.ref b,.ref c]/\H a=some (.tup (ns.map V.int))/\H b=some (.tup (ms.map V.int))/\H c=some (.tup (ks.map V.int))/\(¬(pairOk ns ms/\pairOk (pairL ns ms) ks)->∀H',Same H H'->E (.ref C) none H')/\(pairOk ns ms->pairOk (pairL ns ms) ks->∀H' p,Same H H'->H' p=some (.tup ((pairL (pairL ns ms) ks).map V.int))->Q (.ref p) H')
def spfetched (C1 C2 C3:Addr):Sp:=λ vs H Q E=>∃(a b:Addr) (ns ms:List Int),vs=[.ref a,.ref b]/\H a=some (.tup (ns.map V.int))/\H b=some (.tup (ms.map V.int))/\sdOk ns/\sdOk ms/\ns.length≤20/\ms.length≤20/\(ns=[]->E (.ref C1) none H)/\(∀r,ns=0::r->E (.ref C2) none H)/\(∀n r,ns=n::r->n≠0->bigI (ms++r)->∀H',Same H H'->E (.ref C3) none H')/\(∀n r,ns=n::r->n≠0->¬bigI (ms++r)->∀H' p,Same H H'->H' p=some (.tup ((ms++r).map V.int))->Q (.ref p) H')
def tups (H:Hp) (ps:List Addr) (L:List (List Int)):Prop:=ps.length=L.length/\∀(i:Nat) p m,ps[i]?=some p->L[i]?=some m->H p=some (.tup (m.map V.int))
theorem tups.at {H:Hp}{ps:List Addr}{L:List (List Int)}(h:tups H ps L) {i:Nat}{v:V}(e:(ps.map V.ref)[i]?=some v):∃p m,v=.ref p/\L[i]?=some m/\m∈L/\H p=some (.tup (m.map V.int)):=by
 rw [List.getElem?_map] at e
 cases q:ps[i]? with
 | none=>rw [q] at e;cases e
 | some p =>
  rw [q] at e
  have hi:=(List.getElem?_eq_some_iff.mp q).1
  rw [h.1] at hi
  have z:=List.getElem?_eq_getElem hi
  exact ⟨p,L[i],(Option.some.inj e).symm,z,List.getElem_mem hi,h.2 i p _ q z⟩
theorem tups.take {H:Hp}{ps:List Addr}{L:List (List Int)}(h:tups H ps L) (k:Nat):tups H (ps.take k) (L.take k):=by
 refine ⟨by rw [List.length_take,List.length_take,h.1],λ i p m a b=>?_⟩
 have c:i < k:=by have:=(List.getElem?_eq_some_iff.mp a).1;rw [List.length_take] at this;omega
 rw [List.getElem?_take_of_lt c] at a b
 exact h.2 i p m a b
def sm (ns:List Int):Prop:=∀n∈ns,0≤n/\n≤1000000
theorem x4t {ns:List Int}(h:sm ns):sdOk ns:=λ n hn=>by have:=h n hn;omega
def joinL (ns ms:List Int) (side:Int):List Int:=ns.set side.toNat (ns.getD side.toNat 0+ms.getD side.toNat 0)
theorem x3v {n k:Nat}(h:k < n):ixN n (k:Int)=some k:=by unfold ixN;rw [if_pos (by omega)];simp;omega
def splaid (C1 C2:Addr):Sp:=λ vs H Q E=>∃(a b:Addr) (ns ms:List Int),vs=[.ref a,.ref b]/\H a=some (.tup (ns.map V.int))/\H b=some (.tup (ms.map V.int))/\sdOk ns/\sdOk ms/\ms.length≤20/\(bigI ms->∀H',Same H H'->E (.ref C1) none H')/\(¬bigI ms->prodI ns≠prodI ms->∀H',Same H H'->E (.ref C2) none H')/\(¬bigI ms->prodI ns=prodI ms->∀H',Same H H'->Q (.ref b) H')
def spcnt (C1 C2:Addr):Sp:=λ vs H Q E=>∃(a:Addr) (ns:List Int) (side:Int),vs=[.ref a,.int side]/\H a=some (.tup (ns.map V.int))/\sdOk ns/\ns.length≤20/\(bigI ns->∀H',Same H H'->E (.ref C1) none H')/\(¬bigI ns->off ns side->∀H',Same H H'->E (.ref C2) none H')/\(¬bigI ns->¬off ns side->∀H',Same H H'->Q (.ref a) H')
def spjoin (C1 C2 C3:Addr):Sp:=λ vs H Q E=>∃(a b:Addr) (ns ms:List Int) (side:Int),vs=[.ref a,.ref b,.int side]/\H a=some (.tup (ns.map V.int))/\H b=some (.tup (ms.map V.int))/\sm ns/\sm ms/\ns.length≤20/\(ns.length≠ms.length->E (.ref C1) none H)/\(ns.length=ms.length->off ns side->E (.ref C2) none H)/\(ns.length=ms.length->¬off ns side->ns.eraseIdx side.toNat≠ms.eraseIdx side.toNat->∀H',Same H H'->E (.ref C1) none H')/\(ns.length=ms.length->¬off ns side->ns.eraseIdx side.toNat=ms.eraseIdx side.toNat->bigI (joinL ns ms side)->∀H',Same H H'->E (.ref C3) none H')/\(ns.length=ms.length->¬off ns side->ns.eraseIdx side.toNat=ms.eraseIdx side.toNat->¬bigI (joinL ns ms side)->∀H' p,Same H H'->H' p=some (.tup ((joinL ns ms side).map V.int))->Q (.ref p) H')
theorem getD_mem {ns:List Int}{k:Nat}(h:k < ns.length):ns.getD k 0∈ns:=by rw [List.getD_eq_getElem?_getD,List.getElem?_eq_getElem h];exact List.getElem_mem h
theorem z2l (ns:List Int) (k:Nat):cutV (ns.map V.int) (some (k:Int)) none=(ns.drop k).map V.int:=by
 unfold cutV;simp only [HT.sIx,z0v];rw [if_neg (by omega),List.take_of_length_le (by simp),← List.map_drop];congr 1
 by_cases c:k≤ns.length
 ·congr 1;omega
 ·rw [List.drop_eq_nil_of_le (by omega),List.drop_eq_nil_of_le (by omega)]
theorem y7h (a:List Int):∀b:List Int,prodI (a++b)=prodI a * prodI b:=by
 induction a with
 | nil=>intro b;show prodI b=1 * prodI b;rw [Int.one_mul]
 | cons x a ih=>intro b;rw [List.cons_append,z1g,z1g,ih,Int.mul_assoc]
theorem y7i {ns:List Int}(h:∀n∈ns,0 < n):0 < prodI ns:=by
 induction ns with
 | nil=>decide
 | cons x xs ih=>rw [z1g];exact Int.mul_pos (h x (List.mem_cons_self ..)) (ih λ n hn=>h n (List.mem_cons_of_mem _ hn))
def RwI (H:Hp) (a:Addr) (ns:List Int):Prop:=H a=some (.lst (ns.map V.int))\/H a=some (.tup (ns.map V.int))
def TbAt (H:Hp) (t:Addr) (ns cs:List Int):Prop:=∃a c,H t=some (.tup [.ref a,.ref c])/\H a=some (.tup (ns.map V.int))/\H c=some (.tup (cs.map V.int))
def TpsAt (H:Hp) (ps:List Addr) (L:List (List Int)):Prop:=ps.length=L.length/\∀(i:Nat) t,L[i]?=some t->∃p,ps[i]?=some p/\H p=some (.tup (t.map V.int))
theorem y1j {r:List Int}{i x:Int}(i0:0≤i) (h:r[i.toNat]?=some x):atI (r.map V.int) i=some (.int x):=by
 have z:=z0m (xs:=r.map V.int) (j:=i.toNat) (v:=.int x) (by rw [List.getElem?_map,h];rfl)
 rwa [show ((i.toNat:Nat):Int)=i by omega] at z
def numI (n:Int):Int:=if n % 17=5 then [(-9223372036854775808:Int),9223372036854775807,-1,4611686018427387904].getD (n / 17 % 4).toNat 0 else (n+9223372036854775808) % 18446744073709551616 - 9223372036854775808
def SameP (T:Addr) (H H':Hp):Prop:=∀a o,a≠T->H a=some o->H' a=some o
theorem z3c:∀ {ns:List Int},(∀n∈ns,0≤n)->0≤prodI ns/\prodI ns≤prodI (ns.map one1)
 | [],_=>by decide
 | n::ns,h=>by
  obtain ⟨i0,i1⟩:=z3c (ns:=ns) λ m hm=>h m (List.mem_cons_of_mem _ hm)
  have n0:=h n List.mem_cons_self
  rw [List.map_cons,z1g,z1g]
  have o:n≤one1 n/\0≤one1 n:=by unfold one1;split<;>omega
  exact ⟨Int.mul_nonneg n0 i0,Int.mul_le_mul o.1 i1 i0 o.2⟩
def SmT (H H':Hp):Prop:=∀a o,(∀ps,o≠.tbl ps)->H a=some o->H' a=some o
theorem SmT.trans {H H1 H2:Hp}(h:SmT H H1) (g:SmT H1 H2):SmT H H2:=λ a o n e=>g a o n (h a o n e)
theorem SmT.tup {H H':Hp}(h:SmT H H') {a:Addr}{xs:List V}(e:H a=some (.tup xs)):H' a=some (.tup xs):=h a _ (λ _ z=>by cases z) e
theorem SmT.tb {H H':Hp}(h:SmT H H') {t:Addr}{ns cs:List Int}(e:TbAt H t ns cs):TbAt H' t ns cs:=let ⟨a,c,h1,h2,h3⟩:=e;⟨a,c,h.tup h1,h.tup h2,h.tup h3⟩
theorem x0d {ns:List Int}(h:∀n∈ns,0≤n) (i:Nat):prodI (ns.take i)≤prodI (ns.map one1):=by
 have a:=z3c (ns:=ns.take i) λ n hn=>h n (List.mem_of_mem_take hn)
 have e:ns.map one1=(ns.take i).map one1++(ns.drop i).map one1:=by rw [← List.map_append,List.take_append_drop]
 have b:1≤prodI ((ns.drop i).map one1):=by
  have:=y7i (ns:=(ns.drop i).map one1) λ n hn=>by
   obtain ⟨m,hm,rfl⟩:=List.mem_map.mp hn
   have:=h m (List.mem_of_mem_drop hm)
   unfold one1;split<;>omega
  omega
 rw [e,y7h]
 have:=Int.mul_le_mul_of_nonneg_left b (show 0≤prodI ((ns.take i).map one1) by omega)
 omega
theorem z4r {ns:List Int}{k:Nat}(hk:k < ns.length):ns[k]?=some (ns.getD k 0):=by rw [List.getD_eq_getElem?_getD,List.getElem?_eq_getElem hk];rfl
def wrapI (n:Int):Int:=(n+9223372036854775808) % 18446744073709551616 - 9223372036854775808
def quoI (x y:Int):Int:=if y=0 then 0 else wrapI (Int.fdiv x y)
def restI (x y:Int):Int:=if y=0 then x else Int.fmod x y
def twiceI (w:Str) (x y:Int):Int :=
 if w = "add" then wrapI (x+y) else if w = "sub" then wrapI (x - y) else if w = "mul" then wrapI (x * y) else if w = "quo" then quoI x y else if w = "rest" then restI x y
 else if w = "max" then (if x < y then y else x) else if w = "min" then (if y < x then y else x) else if w = "less" then (if x < y then 1 else 0) else if w = "like" then (if x=y then 1 else 0)
 else if w = "and" then Builtin.bitAnd x y else if w = "or" then Builtin.bitOr x y else Builtin.bitXor x y
def inB (x:Int):Prop:=-9223372036854775808≤x/\x < 9223372036854775808
def absI (x:Int):Int:=if x < 0 then -x else x
def onceI (w:Str) (x:Int):Int:=if w = "neg" then wrapI (-x) else if w = "abs" then wrapI (absI x) else if w = "sign" then (if x < 0 then -1 else if 0 < x then 1 else 0) else if x=0 then 1 else 0
def one4:List Str:=["neg", "abs", "sign", "not"]
def two12:List Str:=["add", "sub", "mul", "quo", "rest", "max", "min", "less", "like", "and", "or", "xor"]
def sponceX (C:Addr):Sp:=λ vs H Q E=>∃(w:Str) (x:Int),vs=[.str w,.int x]/\okS 1000 w/\(w∈one4->Q (.int (onceI w x)) H)/\(¬w∈one4->E (.ref C) none H)
def sptwiceX (C:Addr):Sp:=λ vs H Q E=>∃(w:Str) (x y:Int),vs=[.str w,.int x,.int y]/\okS 1000 w/\inB x/\inB y/\(w∈two12->Q (.int (twiceI w x y)) H)/\(¬w∈two12->E (.ref C) none H)
def OkT (ns cs:List Int):Prop:=sdOk ns/\¬bigI ns/\(cs.length:Int)=prodI ns/\∀c∈cs,inB c
theorem x5m {ns:List Int}(h:¬bigI ns):ns.length≤6:=by unfold bigI at h;omega
theorem x5k {ns:List Int}(hs:sdOk ns) (h:¬bigI ns) (i:Nat):prodI (ns.take i)≤512:=Int.le_trans (x0d (λ n hn=>(hs n hn).1) i) (by unfold bigI at h;omega)
theorem x5l {ns:List Int}(hs:sdOk ns) (h:¬bigI ns):prodI ns≤512:=by have:=x5k hs h ns.length;rwa [List.take_length] at this
def Tabs3 (H:Hp) (l:Addr) (n0 c0 n1 c1 n2 c2:List Int):Prop:=∃a b c,H l=some (.lst [.ref a,.ref b,.ref c])/\TbAt H a n0 c0/\TbAt H b n1 c1/\TbAt H c n2 c2
theorem z2o {H H':Hp}(s:Same H H') {l:Addr}{o:HO}(h:H l=none):Same H (upd H' l o):=λ a x e=>by
 have ne:a≠l:=λ z=>by rw [z,h] at e;cases e
 rw [z1a ne];exact s _ _ e
theorem y3n {H H':Hp}(s:Same H H') {l:Addr}(h:H' l=none):H l=none:=by
 cases e:H l with
 | none=>rfl
 | some o=>rw [s _ _ e] at h;cases h
theorem OkT.l {ns cs:List Int}(o:OkT ns cs):ns.length≤20:=Nat.le_trans (x5m o.2.1) (by decide)
theorem OkT.p {ns cs:List Int}(o:OkT ns cs):prodI ns≤512:=x5l o.1 o.2.1
theorem OkT.c {ns cs:List Int}(o:OkT ns cs):cs.length≤900:=by have:=o.p;have:=o.2.2.1;omega
def TbL (G:Hp) (ys:List V):Prop:=∀y∈ys,∃p ns cs,y=.ref p/\TbAt G p ns cs/\OkT ns cs
abbrev fw:List Str:=["add", "mul", "max", "min", "and", "or", "xor"]
def isF (w:Str):Prop:=w∈fw
def neuI (w:Str):Int:=if w = "mul" then 1 else if w = "max" then -9223372036854775808 else if w = "min" then 9223372036854775807 else if w = "and" then -1 else 0
theorem x3m:neuI "add" = 0:=by unfold neuI;rw [if_neg (by decide +kernel),if_neg (by decide +kernel),if_neg (by decide +kernel),if_neg (by decide +kernel)]
theorem x3i:neuI "mul" = 1:=by unfold neuI;rw [if_pos rfl]
theorem x3k:neuI "max" = -9223372036854775808:=by unfold neuI;rw [if_neg (by decide +kernel),if_pos rfl]
theorem x3j:neuI "min" = 9223372036854775807:=by unfold neuI;rw [if_neg (by decide +kernel),if_neg (by decide +kernel),if_pos rfl]
theorem x3l:neuI "and" = -1:=by unfold neuI;rw [if_neg (by decide +kernel),if_neg (by decide +kernel),if_neg (by decide +kernel),if_pos rfl]
theorem x5a:neuI "or" = 0:=by unfold neuI;rw [if_neg (by decide +kernel),if_neg (by decide +kernel),if_neg (by decide +kernel),if_neg (by decide +kernel)]
theorem x3h:neuI "xor" = 0:=by unfold neuI;rw [if_neg (by decide +kernel),if_neg (by decide +kernel),if_neg (by decide +kernel),if_neg (by decide +kernel)]
def spneutral (C:Addr):Sp:=λ vs H Q E=>∃(w:Str),vs=[.str w]/\okS 1000 w/\(isF w->∀H',Same H H'->Q (.int (neuI w)) H')/\(¬isF w->∀H',Same H H'->E (.ref C) none H')
def kinds:List Str:=["in", "num", "count", "each", "pair", "pick", "turn", "flip", "cut", "spread", "lay", "join", "fetch", "fold", "run"]
def kindS (i:Nat):Str:=kinds.getD i ""
def placesF (fs:List (Str × Int)):List Int:=fs.filterMap λ f=>if f.1=("step" : Str) then some f.2 else none
def argsP (i:Nat):List Int:=placesF ((formsL.getD i ("",[])).2)
theorem y8i {i:Nat}(h:i < 15):formsL.lookup (kindS i)=some ((formsL.getD i ("",[])).2):=by
 have z:∀j:Fin 15,formsL.lookup (kindS j.val)=some ((formsL.getD j.val ("",[])).2):=by decide +kernel
 exact z ⟨i,h⟩
theorem z8r {i:Nat}:((formsL.getD i ("",[])).2).length≤5:=by
 by_cases h:i < 15
 ·have z:∀j:Fin 15,((formsL.getD j.val ("",[])).2).length≤5:=by decide +kernel
  exact z ⟨i,h⟩
 ·rw [List.getD_eq_getElem?_getD,List.getElem?_eq_none (by simp [formsL];omega)];decide
theorem z6d (fs:List (Str × Int)):(placesF fs).length≤fs.length:=List.length_filterMap_le ..
theorem z9y {fs:List (Str × Int)}{i:Nat}{f:Str × Int}(h:fs[i]?=some f):placesF (fs.take (i+1))=placesF (fs.take i)++(if f.1=("step" : Str) then [f.2] else []):=by
 unfold placesF
 rw [List.take_add_one,h,List.filterMap_append]
 congr 1
 show List.filterMap _ [f]=_
 split<;>simp [*]
def getAll (xs:List V) (ps:List Int):List V:=ps.map λ p=>(atI xs p).getD .non
theorem y9h (i:Nat):(argsP i).length≤5:=Nat.le_trans (z6d _) z8r
theorem x2c {xs:List V}{m:Int}(h0:0≤m) (h1:m < xs.length):∃v,atI xs m=some v:=by
 have z:=z0m (xs:=xs) (j:=m.toNat) (List.getElem?_eq_getElem (by omega))
 exact ⟨_,by rwa [show ((m.toNat:Nat):Int)=m by omega] at z⟩
theorem x2f:∀i:Fin 15,argsP i.val=[[],[],[],[2],[2,3],[1,2,3],[1],[1],[1],[1],[1],[1,2],[1,2],[2],[2]].getD i.val []:=by decide +kernel
theorem x2e {i:Nat}(h:i < 15):argsP i=[[],[],[],[2],[2,3],[1,2,3],[1],[1],[1],[1],[1],[1,2],[1,2],[2],[2]].getD i []:=x2f ⟨i,h⟩
def AlAt (H:Hp):Nat->V->V->Prop
 | 0,_,_=>False
 | d+1,x,y=>(∃n,x=.int n/\y=.int n)\/(∃s,x=.str s/\y=.str s)\/∃a b xs ys,x=.ref a/\y=.ref b/\H a=some (.tup xs)/\H b=some (.tup ys)/\xs.length=ys.length/\xs.length≤1000/\∀(i:Nat) x y,xs[i]?=some x->ys[i]?=some y->AlAt H d x y
def AlL (H:Hp) (d:Nat):List V->List V->Prop
 | [],[]=>True
 | x::xs,y::ys=>AlAt H d x y/\AlL H d xs ys
 | _,_=>False
theorem AlL.get {H:Hp}{d:Nat}:∀ {xs ys:List V},AlL H d xs ys->xs.length=ys.length/\∀(i:Nat) x y,xs[i]?=some x->ys[i]?=some y->AlAt H d x y
 | [],[],_=>⟨rfl,λ i x y e=>by simp at e⟩
 | [],_::_,h=>h.elim
 | _::_,[],h=>h.elim
 | x::xs,y::ys,h=>⟨by simp [h.2.get.1],λ i x' y' e1 e2=>by
  cases i with
  | zero=>cases e1;cases e2;exact h.1
  | succ i=>exact h.2.get.2 i x' y' e1 e2⟩
theorem AlAt.tup {H:Hp}{d:Nat}{a b:Addr}{xs ys:List V}(ha:H a=some (.tup xs)) (hb:H b=some (.tup ys)) (l:xs.length≤1000) (h:AlL H d xs ys):AlAt H (d+1) (.ref a) (.ref b)   := Or.inr (.inr ⟨a,b,xs,ys,rfl,rfl,ha,hb,h.get.1,l,h.get.2⟩)
def turnOk (n:Nat) (os:List Int):Prop:=os.Perm (upL n)
theorem up_mem {n:Nat}{x:Int}:x∈upL n ↔ 0≤x/\x < n:=by
 unfold upL
 constructor
 ·intro h;obtain ⟨i,hi,rfl⟩:=List.mem_map.mp h;have:=List.mem_range.mp hi;omega
 ·intro h;exact List.mem_map.mpr ⟨x.toNat,List.mem_range.mpr (by omega),by omega⟩
theorem z4w (n:Nat):(upL n).length=n:=by simp [upL]
theorem x4r (n:Nat):(upL n).Pairwise (·≤·):=by
 unfold upL
 rw [List.pairwise_map]
 exact List.Pairwise.imp (λ h=>by omega) (List.pairwise_lt_range (n:=n))
theorem z7t:∀ {l1 l2:List Int},l1.Perm l2->l1.Pairwise (·≤·)->l2.Pairwise (·≤·)->l1=l2
 | [],l2,p,_,_=>(List.nil_perm.mp p).symm
 | a::l1,l2,p,h1,h2=>by
  cases l2 with
  | nil=>exact List.perm_nil.mp p
  | cons b l2 =>
   obtain ⟨a1,a2⟩:=List.pairwise_cons.mp h1
   obtain ⟨b1,b2⟩:=List.pairwise_cons.mp h2
   have ab:a≤b:=by
    rcases List.mem_cons.mp (p.symm.subset (List.mem_cons_self ..)) with e | e
    ·omega
    ·exact a1 b e
   have ba:b≤a:=by
    rcases List.mem_cons.mp (p.subset (List.mem_cons_self ..)) with e | e
    ·omega
    ·exact b1 a e
   have e:a=b:=by omega
   subst e
   rw [z7t (List.perm_cons a |>.mp p) a2 b2]
theorem z4x {n:Nat}{os ss:List Int}(p:ss.Perm os) (s:ss.Pairwise (·≤·)):ss=upL n ↔ turnOk n os :=
 ⟨λ e=>p.symm.trans (by rw [e]),λ t=>z7t (p.trans t) s (x4r n)⟩
def turnL (ns os:List Int):List Int:=os.map λ k=>ns.getD k.toNat 0
theorem x4i {ns:List Int}{o:Int}(h0:0≤o) (h1:o < ns.length):atI (ns.map V.int) o=some (.int (ns.getD o.toNat 0)):=by
 have z:=y1k (ns:=ns) (k:=o.toNat) (by omega)
 rwa [show ((o.toNat:Nat):Int)=o by omega] at z
def insL (ns:List Int) (k:Nat) (m:Int):List Int:=ns.take k++[m]++ns.drop k
def off1 (ns:List Int) (side:Int):Prop:=side < 0\/(ns.length:Int) < side
theorem x1l (ns:List Int) (k:Nat) (m:Int):(insL ns k m).length=ns.length+1:=by
 unfold insL;simp only [List.length_append,List.length_take,List.length_drop,List.length_cons,List.length_nil];omega
def VwAt (H:Hp) (v:Addr) (ns:List Int) (st:Int) (ss:List Int):Prop:=∃sa ta,H v=some (.tup [.ref sa,.int st,.ref ta])/\H sa=some (.tup (ns.map V.int))/\H ta=some (.tup (ss.map V.int))
theorem x4b {ns:List Int}{k:Nat}{m:Int}(h:sdOk ns) (h0:0≤m) (h1:m < 1000000):sdOk (insL ns k m):=λ n hn=>by
 unfold insL at hn
 rcases List.mem_append.mp hn with hn | hn
 ·rcases List.mem_append.mp hn with hn | hn
  ·exact h n (List.mem_of_mem_take hn)
  ·cases List.mem_singleton.mp hn;omega
 ·exact h n (List.mem_of_mem_drop hn)
def spspr (C1 C2 C3:Addr):Sp:=λ vs H Q E=>∃(a:Addr) (ns:List Int) (side many:Int),vs=[.ref a,.int side,.int many]/\H a=some (.tup (ns.map V.int))/\sdOk ns/\ns.length≤20/\many < 1000000/\(off1 ns side->E (.ref C1) none H)/\(¬off1 ns side->many < 0->E (.ref C2) none H)/\(¬off1 ns side->¬many < 0->bigI (insL ns side.toNat many)->∀H',Same H H'->E (.ref C3) none H')/\(¬off1 ns side->¬many < 0->¬bigI (insL ns side.toNat many)->∀H' p,Same H H'->H' p=some (.tup ((insL ns side.toNat many).map V.int))->Q (.ref p) H')
def spturnP (C:Addr):Sp:=λ vs H Q E=>∃(a b:Addr) (ns os:List Int),vs=[.ref a,.ref b]/\H a=some (.tup (ns.map V.int))/\H b=some (.tup (os.map V.int))/\ns.length≤20/\os.length≤20/\(¬turnOk ns.length os->∀H',Same H H'->E (.ref C) none H')/\(turnOk ns.length os->∀H' p,Same H H'->H' p=some (.tup ((turnL ns os).map V.int))->Q (.ref p) H')
def smI (n:Int):Prop:=-18446744073709551616 < n/\n < 18446744073709551616
theorem z5o {ss:List Int}{k:Nat}(h:k < ss.length):atI (ss.map V.int) (k:Int)=some (.int (ss.getD k 0)):=y1j (Int.natCast_nonneg k) (by rw [Int.toNat_natCast];exact z4r h)
theorem z3j {ns:List Int}{k:Nat}(h:k < ns.length):ns.getD k 0∈ns:=by rw [List.getD_eq_getElem?_getD,List.getElem?_eq_getElem h];exact List.getElem_mem h
theorem z2v {n:Int}(h:0≤n):1≤one1 n:=by unfold one1;split<;>omega
theorem y1b {n:Int}(h:0≤n):(if n > 1 then n else 1)=one1 n:=by unfold one1;split<;>split<;>omega
theorem z3x {ns:List Int}(h:∀n∈ns,0≤n):1≤prodI (ns.map one1):=by
 induction ns with
 | nil=>decide
 | cons n ns ih =>
  rw [List.map_cons,z1g]
  have a:=z2v (h n List.mem_cons_self)
  have b:=ih λ m hm=>h m (List.mem_cons_of_mem _ hm)
  exact Int.le_trans (by decide) (Int.mul_le_mul a b (by decide) (by omega))
inductive Dg where
 | turn (os:List Int)
 | flip (side:Int)
 | cut (side f m g:Int)
 | spread (side m:Int)
 | lead (ms:List Int)
 | inner (side:Int)
def DgAt (H:Hp) (p:Addr):Dg->Prop
 | .turn os=>∃b,H p=some (.tup [.str (Str.ofString "turn"),.ref b])/\H b=some (.tup (os.map V.int))/\os.length≤7
 | .flip side=>H p=some (.tup [.str (Str.ofString "flip"),.int side])
 | .cut side f m g=>H p=some (.tup [.str (Str.ofString "cut"),.int side,.int f,.int m,.int g])/\smI f/\smI g/\-100 < m/\m < 100000
 | .spread side m=>H p=some (.tup [.str (Str.ofString "spread"),.int side,.int m])/\-100 < m/\m < 1000000
 | .lead ms=>∃b,H p=some (.tup [.str (Str.ofString "lead"),.ref b])/\H b=some (.tup (ms.map V.int))/\ms.length≤10
 | .inner side=>H p=some (.tup [.str (Str.ofString "inner"),.int side])
theorem z7m {r d:Int}(h1:1≤d) (h2:d≤r):1≤r / d:=by
 have:=Int.ediv_le_ediv (a:=d) (b:=r) (c:=d) (by omega) h2
 rw [Int.ediv_self (by omega)] at this
 exact this
theorem y2w {ss:List Int}{k:Nat}{x:Int}(kl:k < ss.length):ss.take k++[x]++ss.drop (k+1)=ss.set k x:=by
 rw [List.set_eq_take_append_cons_drop,if_pos kl,List.append_assoc];rfl
theorem z2z {ns:List Int}(h:fit ns):sdOk ns:=λ n hn=>by have:=h.1 n hn;exact ⟨this.1,by omega⟩
theorem z4d {ns:List Int}(h:fit ns):¬bigI ns:=λ b=>b.elim (λ z=>by have:=h.2.1;omega) (λ z=>by have:=h.2.2.2;omega)
theorem x2h {a:Int}{n:Nat}(h0:0≤a) (h:a < (n:Int)):a.toNat < n:=by omega
theorem x1f {cs:List Int}{n:Nat}(h:cs.length=n):(List.range n).map (λ i=>cs.getD i 0)=cs:=by
 subst h
 apply List.ext_getElem?
 intro k
 by_cases c:k < cs.length
 ·rw [List.getElem?_map,List.getElem?_range c]
  exact (z4r c).symm
 ·rw [List.getElem?_eq_none (by simp;omega),List.getElem?_eq_none (by omega)]
theorem z3w {a b:List Int}(h:a.Perm b):prodI a=prodI b:=by
 induction h with
 | nil=>rfl
 | cons x _ ih=>rw [z1g,z1g,ih]
 | swap x y l=>rw [z1g,z1g,z1g,z1g,← Int.mul_assoc,← Int.mul_assoc,Int.mul_comm x y]
 | trans _ _ h1 h2=>rw [h1,h2]
theorem y2u {ns os:List Int}(t:turnOk ns.length os):(turnL ns os).Perm ns:=by
 have e:(upL ns.length).map (λ k:Int=>ns.getD k.toNat 0)=ns:=by
  unfold upL;rw [List.map_map];exact x1f rfl
 have:=t.map (λ k:Int=>ns.getD k.toNat 0)
 rw [e] at this;exact this
inductive Stp where
 | inp (ms:List Int)
 | num (n:Int)
 | count (ms:List Int) (k:Int)
 | each (w:Str) (a:Nat)
 | pair (w:Str) (a b:Nat)
 | pick (a b c:Nat)
 | turn (a:Nat) (os:List Int)
 | flip (a:Nat) (side:Int)
 | cut (a:Nat) (side f m g:Int)
 | spread (a:Nat) (side m:Int)
 | lay (a:Nat) (ms:List Int)
 | join (a b:Nat) (side:Int)
 | fetch (a b:Nat)
 | fold (w:Str) (a:Nat) (side:Int)
 | run (w:Str) (a:Nat) (side:Int)
def Tp (H:Hp) (a:Addr) (ns:List Int):Prop:=H a=some (.tup (ns.map V.int))
def StpAt (H:Hp) (p:Addr):Stp->Prop
 | .inp ms=>∃b,H p=some (.tup [.str (Str.ofString "in"),.ref b])/\Tp H b ms
 | .num n=>H p=some (.tup [.str (Str.ofString "num"),.int n])
 | .count ms k=>∃b,H p=some (.tup [.str (Str.ofString "count"),.ref b,.int k])/\Tp H b ms
 | .each w a=>H p=some (.tup [.str (Str.ofString "each"),.str w,.int a])
 | .pair w a b=>H p=some (.tup [.str (Str.ofString "pair"),.str w,.int a,.int b])
 | .pick a b c=>H p=some (.tup [.str (Str.ofString "pick"),.int a,.int b,.int c])
 | .turn a os=>∃b,H p=some (.tup [.str (Str.ofString "turn"),.int a,.ref b])/\Tp H b os
 | .flip a side=>H p=some (.tup [.str (Str.ofString "flip"),.int a,.int side])
 | .cut a side f m g=>H p=some (.tup [.str (Str.ofString "cut"),.int a,.int side,.int f,.int m,.int g])
 | .spread a side m=>H p=some (.tup [.str (Str.ofString "spread"),.int a,.int side,.int m])
 | .lay a ms=>∃b,H p=some (.tup [.str (Str.ofString "lay"),.int a,.ref b])/\Tp H b ms
 | .join a b side=>H p=some (.tup [.str (Str.ofString "join"),.int a,.int b,.int side])
 | .fetch a b=>H p=some (.tup [.str (Str.ofString "fetch"),.int a,.int b])
 | .fold w a side=>H p=some (.tup [.str (Str.ofString "fold"),.str w,.int a,.int side])
 | .run w a side=>H p=some (.tup [.str (Str.ofString "run"),.str w,.int a,.int side])
theorem StpAt.same {H H':Hp}{p:Addr}(s:Same H H'):∀ {d:Stp},StpAt H p d->StpAt H' p d
 | .inp _,⟨b,h1,h2⟩=>⟨b,s _ _ h1,s _ _ h2⟩
 | .num _,h=>s _ _ h
 | .count ..,⟨b,h1,h2⟩=>⟨b,s _ _ h1,s _ _ h2⟩
 | .each ..,h=>s _ _ h
 | .pair ..,h=>s _ _ h
 | .pick ..,h=>s _ _ h
 | .turn ..,⟨b,h1,h2⟩=>⟨b,s _ _ h1,s _ _ h2⟩
 | .flip ..,h=>s _ _ h
 | .cut ..,h=>s _ _ h
 | .spread ..,h=>s _ _ h
 | .lay ..,⟨b,h1,h2⟩=>⟨b,s _ _ h1,s _ _ h2⟩
 | .join ..,h=>s _ _ h
 | .fetch ..,h=>s _ _ h
 | .fold ..,h=>s _ _ h
 | .run ..,h=>s _ _ h
def fitM (mo:Int) (ns:List Int):Prop:=(∀n∈ns,0≤n/\n≤mo)/\ns.length≤6/\1≤prodI (ns.map one1)/\prodI (ns.map one1)≤mo
def moOk (mo:Int):Prop:=2≤mo/\mo≤512
theorem z3n {mo:Int}{ns:List Int}(h:fitM mo ns) (m:moOk mo):fit ns:=⟨λ n hn=>by have:=h.1 n hn;have:=m.2;omega,h.2.1,h.2.2.1,Int.le_trans h.2.2.2 m.2⟩
theorem z4e {mo:Int}(m:moOk mo):fitM mo []:=⟨(λ n hn=>nomatch hn),by decide,by decide,by have:=m.1;show (1:Int)≤mo;omega⟩
theorem z5l {mo n:Int}{ns:List Int}(h:fitM mo ns) (l:ns.length < 6) (n0:0≤n) (hn:n≤mo / prodI (ns.map one1)):fitM mo (ns++[n]):=by
 have p:=h.2.2.1
 have e:prodI ((ns++[n]).map one1)=prodI (ns.map one1) * one1 n:=by rw [List.map_append];exact z6x _ _
 have o1:=z2v n0
 have d1:1≤mo / prodI (ns.map one1):=z7m p h.2.2.2
 have le:mo / prodI (ns.map one1)≤mo:=Int.ediv_le_self _ (by have:=h.2.2.2;omega)
 have m2:prodI (ns.map one1) * (mo / prodI (ns.map one1))≤mo:=Int.mul_ediv_self_le (by omega)
 generalize mo / prodI (ns.map one1)=q at *
 have o2:one1 n≤q:=by unfold one1;split<;>omega
 have m1:=Int.mul_le_mul_of_nonneg_left o2 (show 0≤prodI (ns.map one1) by omega)
 refine ⟨λ k hk=>?_,by rw [List.length_append,List.length_singleton];omega,?_,?_⟩
 ·rcases List.mem_append.mp hk with z | z
  ·exact h.1 k z
  ·cases List.mem_singleton.mp z;omega
 ·rw [e]
  exact Int.le_trans (by decide) (Int.mul_le_mul p o1 (by decide) (by omega))
 ·rw [e];omega
theorem x0v {ns ms:List Int}(c:ms.length < ns.length):ns.take ms.length=ms.take ms.length ↔ pairOk ns ms:=by
 unfold pairOk;rw [if_pos c,List.take_length]
theorem x0w {ns ms:List Int}(c:¬ms.length < ns.length):ns.take ns.length=ms.take ns.length ↔ pairOk ns ms:=by
 unfold pairOk;rw [if_neg c,List.take_length];exact ⟨Eq.symm,Eq.symm⟩
def OkS (Ss:List (List Int)) (S:List Int):Stp->Prop
 | .inp ms=>S=ms/\¬bigI ms
 | .num _=>S=[]
 | .count ms k=>S=ms/\¬bigI ms/\¬off ms k
 | .each w a=>Ss[a]?=some S/\w∈one4
 | .pair w a b=>∃A B,Ss[a]?=some A/\Ss[b]?=some B/\w∈two12/\pairOk A B/\S=pairL A B
 | .pick a b c=>∃A B C,Ss[a]?=some A/\Ss[b]?=some B/\Ss[c]?=some C/\pairOk A B/\pairOk (pairL A B) C/\S=pairL (pairL A B) C
 | .turn a os=>∃A,Ss[a]?=some A/\turnOk A.length os/\S=turnL A os
 | .flip a side=>Ss[a]?=some S/\¬off S side
 | .cut a side f m g=>∃A,Ss[a]?=some A/\¬off A side/\¬bad A side f m g/\m≤512/\S=A.set side.toNat m
 | .spread a side m=>∃A,Ss[a]?=some A/\¬off1 A side/\¬m < 0/\m≤512/\¬bigI (insL A side.toNat m)/\S=insL A side.toNat m
 | .lay a ms=>∃A,Ss[a]?=some A/\¬bigI ms/\prodI A=prodI ms/\S=ms
 | .join a b side=>∃A B,Ss[a]?=some A/\Ss[b]?=some B/\A.length=B.length/\¬off A side/\A.eraseIdx side.toNat=B.eraseIdx side.toNat/\¬bigI (joinL A B side)/\S=joinL A B side
 | .fetch a b=>∃n r B,Ss[a]?=some (n::r)/\n≠0/\Ss[b]?=some B/\¬bigI (B++r)/\S=B++r
 | .fold w a side=>∃A,Ss[a]?=some A/\isF w/\¬off A side/\S=A.eraseIdx side.toNat
 | .run w a side=>Ss[a]?=some S/\isF w/\¬off S side
theorem x0g (k:Int) (h0:0≤k) (h1:k < 7):∃x:Int,atI [V.int 2,V.int 3,V.int 1,V.int 4,V.int 2,V.int 3,V.int 0] k=some (.int x)/\0≤x:=by
 obtain ⟨j,rfl⟩:∃j:Nat,k=j:=⟨k.toNat,by omega⟩
 match j,h1 with
 | 0,_=>exact ⟨_,rfl,by decide⟩
 | 1,_=>exact ⟨_,rfl,by decide⟩
 | 2,_=>exact ⟨_,rfl,by decide⟩
 | 3,_=>exact ⟨_,rfl,by decide⟩
 | 4,_=>exact ⟨_,rfl,by decide⟩
 | 5,_=>exact ⟨_,rfl,by decide⟩
 | 6,_=>exact ⟨_,rfl,by decide⟩
 | m+7,h1=>exact absurd (Int.ofNat_lt.mp h1) (Nat.not_lt.mpr (Nat.le_add_left ..))
def MadeAt (H:Hp) (r:Addr) (mo:Int) (Ss:List (List Int)):Prop:=∃p b s S,H r=some (.tup [.ref p,.ref b])/\StpAt H p s/\Tp H b S/\OkS Ss S s/\fitM mo S
theorem z4j {mo:Int}{ns:List Int}(h:fitM mo ns):∀n∈ns,0≤n:=λ n hn=>(h.1 n hn).1
theorem x1b {n m:Int}(h:n≤m) (h1:1≤m):one1 n≤m:=by unfold one1;split<;>omega
theorem y8a {mo:Int}{ns:List Int}(h:fitM mo ns) (m:moOk mo):fitM mo [prodI ns]:=by
 have p:=z3c (z4j h)
 have b:=h.2.2.2
 have o:=z2v p.1
 have e:prodI ([prodI ns].map one1)=one1 (prodI ns):=by show prodI [one1 (prodI ns)]=_;rw [z1g];exact Int.mul_one _
 refine ⟨λ n hn=>?_,Nat.succ_le_succ (Nat.zero_le _),by rw [e];exact o,by rw [e];exact x1b (by omega) (by have:=m.1;omega)⟩
 cases List.mem_singleton.mp hn;omega
theorem y5e {mo:Int}{ns:List Int}(h:fitM mo ns) (m:moOk mo) (l:ns.length < 6):fitM mo (1::ns):=by
 have e:prodI ((1::ns).map one1)=prodI (ns.map one1):=by rw [List.map_cons,z1g];exact Int.one_mul _
 refine ⟨λ n hn=>?_,by rw [List.length_cons];omega,by rw [e];exact h.2.2.1,by rw [e];exact h.2.2.2⟩
 rcases List.mem_cons.mp hn with z | z
 ·have:=m.1;omega
 ·exact h.1 n z
theorem y7y {mo:Int}{ns:List Int}(h:fitM mo ns) (m:moOk mo) (c:prodI ns % 2=0):fitM mo [prodI ns / 2,2]/\prodI [prodI ns / 2,2]=prodI ns:=by
 have p:=z3c (z4j h)
 have b:=h.2.2.2
 have m1:=m.1
 have e:prodI ([prodI ns / 2,2].map one1)=one1 (prodI ns / 2) * 2:=by show prodI [one1 (prodI ns / 2),2]=_;rw [z1g,z1g];show _ * (2 * 1)=_;rfl
 have e2:prodI [prodI ns / 2,2]=prodI ns / 2 * 2:=by rw [z1g,z1g];show _ * (2 * 1)=_;rfl
 generalize prodI ns=P at *
 have o:1≤one1 (P / 2)/\one1 (P / 2) * 2≤mo:=by unfold one1;split<;>omega
 refine ⟨⟨λ n hn=>?_,Nat.succ_le_succ (Nat.succ_le_succ (Nat.zero_le _)),by rw [e];omega,by rw [e];exact o.2⟩,by rw [e2];omega⟩
 rcases List.mem_cons.mp hn with z | z
 ·omega
 ·cases List.mem_singleton.mp z;omega
theorem y7z {mo:Int}{ns:List Int}(h:fitM mo ns):fitM mo ns.reverse/\prodI ns.reverse=prodI ns:=by
 have p:=List.reverse_perm ns
 have e:=z3w (p.map one1)
 exact ⟨⟨λ n hn=>h.1 n (List.mem_reverse.mp hn),by rw [List.length_reverse];exact h.2.1,by rw [e];exact h.2.2.1,by rw [e];exact h.2.2.2⟩,z3w p⟩
theorem y5n {mo:Int}{ns:List Int}(h:fitM mo ns) (m:moOk mo):sdOk ns:=λ n hn=>by have:=h.1 n hn;have:=m.2;exact ⟨by omega,by omega⟩
def laidL (ns:List Int) (d:Int):List Int:=if d % 4=1 then [prodI ns] else if d % 4=2/\ns.length < 6 then 1::ns else if d % 4=3/\prodI ns % 2=0 then [prodI ns / 2,2] else ns.reverse
theorem x1i {mo:Int}{ns:List Int}{d:Int}(h:fitM mo ns) (m:moOk mo):fitM mo (laidL ns d)/\prodI (laidL ns d)=prodI ns:=by
 unfold laidL
 by_cases c1:d % 4=1
 ·rw [if_pos c1];exact ⟨y8a h m,by rw [z1g];exact Int.mul_one _⟩
 rw [if_neg c1]
 by_cases c2:d % 4=2/\ns.length < 6
 ·rw [if_pos c2];exact ⟨y5e h m c2.2,by rw [z1g];exact Int.one_mul _⟩
 rw [if_neg c2]
 by_cases c3:d % 4=3/\prodI ns % 2=0
 ·rw [if_pos c3];exact y7y h m c3.2
 rw [if_neg c3];exact y7z h
def bothL (A B:List Int) (k:Nat):List Int:=if A.length=B.length/\A.eraseIdx k=B.eraseIdx k then joinL A B k else []
theorem x0c (i:Nat):upL (i+1)=upL i++[(i:Int)]:=by unfold upL;rw [List.range_succ,List.map_append];rfl
theorem y8e {os:List Int}{i j:Nat}(h:os.Perm (upL i)):(os.take j++(i:Int)::os.drop j).Perm (upL (i+1)):=by
 rw [x0c]
 refine List.Perm.trans List.perm_middle ?_
 rw [List.take_append_drop]
 exact (h.cons _).trans (List.perm_append_singleton _ _).symm
theorem y5m {mo:Int}{ns os:List Int}(h:fitM mo ns) (t:turnOk ns.length os):fitM mo (turnL ns os):=by
 have p:=y2u t
 have e:=z3w (p.map one1)
 exact ⟨λ n hn=>h.1 n (p.subset hn),by rw [p.length_eq];exact h.2.1,by rw [e];exact h.2.2.1,by rw [e];exact h.2.2.2⟩
def splmoved (K:W.Frag):Sp:=λ vs H Q _=>∃(dl o:Addr) (kd mo d0 d1 d2:Int) (a:Nat) (A:List Int) (Ss:List (List Int)),vs=[.int kd,.ref dl,.int (a:Int),.ref o,.int mo]/\H dl=some (.lst [.int d0,.int d1,.int d2])/\Tp H o A/\Ss[a]?=some A/\fitM mo A/\moOk mo/\∀H' r,Same H H'->MadeAt H' r mo Ss->Q (.ref r) H'
theorem y5o {mo:Int}{A B:List Int}(p:A.Perm B) (h:fitM mo B):fitM mo A:=by
 have e:=z3w (p.map one1)
 exact ⟨λ n hn=>h.1 n (p.subset hn),by rw [p.length_eq];exact h.2.1,by rw [e];exact h.2.2.1,by rw [e];exact h.2.2.2⟩
theorem y1h {mo x:Int}{A:List Int}{k:Nat}(h:fitM mo A) (l:A.length < 6) (x0:0≤x) (x1:x≤mo / prodI (A.map one1)):fitM mo (insL A k x):=by
 refine y5o ?_ (z5l h l x0 x1)
 unfold insL
 rw [List.append_assoc]
 refine List.Perm.trans List.perm_middle ?_
 show (x::(A.take k++A.drop k)).Perm _
 rw [List.take_append_drop]
 exact (List.perm_append_singleton _ _).symm
theorem z2d (x:Int) (xs:List Int):prodI ((x::xs).map one1)=one1 x * prodI (xs.map one1):=by rw [List.map_cons];exact z1g _ _
theorem y0n {ns:List Int}(h:∀n∈ns,0≤n):∀n∈ns,n≤prodI (ns.map one1):=by
 induction ns with
 | nil=>exact λ n hn=>nomatch hn
 | cons x xs ih =>
  intro n hn
  have hx:=h x (List.mem_cons_self ..)
  have ht:∀n∈xs,0≤n:=λ n hn=>h n (List.mem_cons_of_mem _ hn)
  have p:=z3x ht
  have o:=z2v hx
  rw [z2d]
  rcases List.mem_cons.mp hn with e | hn
  ·rw [e]
   have le:x≤one1 x:=by unfold one1;split<;>omega
   have:=Int.mul_le_mul_of_nonneg_left p (show 0≤one1 x by omega)
   omega
  ·have:=ih ht n hn
   have:=Int.mul_le_mul_of_nonneg_right o (show 0≤prodI (xs.map one1) by omega)
   omega
theorem z9x {ns:List Int}(h:∀n∈ns,0≤n):∀ {k:Nat}{m:Int},0≤m->m≤ns.getD k 0->prodI ((ns.set k m).map one1)≤prodI (ns.map one1):=by
 induction ns with
 | nil=>intro k m _ _;rw [List.set_nil];exact Int.le_refl _
 | cons x xs ih =>
  intro k m m0 m1
  have hx:=h x (List.mem_cons_self ..)
  have ht:∀n∈xs,0≤n:=λ n hn=>h n (List.mem_cons_of_mem _ hn)
  have p:=z3x ht
  cases k with
  | zero =>
   have m1:m≤x:=m1
   show prodI ((m::xs).map one1)≤_
   rw [z2d,z2d]
   exact Int.mul_le_mul_of_nonneg_right (by unfold one1;split<;>split<;>omega) (by omega)
  | succ k =>
   have m1:m≤xs.getD k 0:=m1
   show prodI ((x::xs.set k m).map one1)≤_
   rw [z2d,z2d]
   exact Int.mul_le_mul_of_nonneg_left (ih ht m0 m1) (by have:=z2v hx;omega)
theorem z6w {ns:List Int}(h:∀n∈ns,0≤n):∀ {k:Nat},prodI ((ns.eraseIdx k).map one1)≤prodI (ns.map one1):=by
 induction ns with
 | nil=>intro k;rw [List.eraseIdx_nil];exact Int.le_refl _
 | cons x xs ih =>
  intro k
  have hx:=h x (List.mem_cons_self ..)
  have ht:∀n∈xs,0≤n:=λ n hn=>h n (List.mem_cons_of_mem _ hn)
  have p:=z3x ht
  cases k with
  | zero =>
   show prodI (xs.map one1)≤_
   rw [z2d]
   have:=Int.mul_le_mul_of_nonneg_right (z2v hx) (show 0≤prodI (xs.map one1) by omega)
   omega
  | succ k =>
   show prodI ((x::xs.eraseIdx k).map one1)≤_
   rw [z2d,z2d]
   exact Int.mul_le_mul_of_nonneg_left (ih ht) (by have:=z2v hx;omega)
theorem y0p {mo:Int}{ns:List Int}(nn:∀n∈ns,0≤n) (l:ns.length≤6) (w:prodI (ns.map one1)≤mo):fitM mo ns:=⟨λ n hn=>⟨nn n hn,Int.le_trans (y0n nn n hn) w⟩,l,z3x nn,w⟩
theorem y8t {mo m:Int}{A:List Int}{k:Nat}(h:fitM mo A) (m0:0≤m) (m1:m≤A.getD k 0):fitM mo (A.set k m):=y0p (λ n hn=>by rcases List.mem_or_eq_of_mem_set hn with z | z;exact z4j h n z;rw [z];exact m0) (by rw [List.length_set];exact h.2.1) (Int.le_trans (z9x (z4j h) m0 m1) h.2.2.2)
theorem y2n {mo:Int}{A:List Int}{k:Nat}(h:fitM mo A):fitM mo (A.eraseIdx k):=y0p (λ n hn=>z4j h n (List.mem_of_mem_eraseIdx hn)) (Nat.le_trans (List.length_eraseIdx_le ..) h.2.1) (Int.le_trans (z6w (z4j h)) h.2.2.2)
theorem y8v {n f g e:Int}(n0:0≤n) (f0:0≤f) (g1:1≤g) (e0:0≤e):0≤(if (n - 1 - f).fdiv g+1 - e > 0 then (n - 1 - f).fdiv g+1 - e else 0)/\(if (n - 1 - f).fdiv g+1 - e > 0 then (n - 1 - f).fdiv g+1 - e else 0)≤n/\¬(0 < (if (n - 1 - f).fdiv g+1 - e > 0 then (n - 1 - f).fdiv g+1 - e else 0)/\n≤f+((if (n - 1 - f).fdiv g+1 - e > 0 then (n - 1 - f).fdiv g+1 - e else 0) - 1) * g):=by
 rw [Int.fdiv_eq_ediv_of_nonneg _ (by omega)]
 have q1:g * ((n - 1 - f) / g)≤n - 1 - f:=Int.mul_ediv_self_le (by omega)
 generalize (n - 1 - f) / g=q at *
 split
 ·rename_i c
  have a1:=Int.mul_le_mul_of_nonneg_right (show q+1 - e - 1≤q by omega) (show 0≤g by omega)
  rw [Int.mul_comm q g] at a1
  have a2:=Int.mul_le_mul_of_nonneg_left g1 (show 0≤q+1 - e - 1 by omega)
  generalize (q+1 - e - 1) * g=z at *
  exact ⟨by omega,by omega,λ y=>by omega⟩
 ·exact ⟨by omega,n0,λ y=>by omega⟩
theorem y1m (A:List Int):pairOk A A:=(z3z A A).mpr (y9j A)
theorem y4c {x y:List Int}(h:pairOk x y) (l:y.length≤x.length):pairL x y=x:=by
 unfold pairL
 split
 ·rfl
 ·exact (x4j ((z3z x y).mp h) (by omega)).symm
theorem y4b {x y:List Int}(l:x.length < y.length):pairL x y=y:=by unfold pairL;rw [if_neg (by omega)]
theorem y2b {x y z:List Int}(h:pairOk x z) (h2:pairOk y z):pairOk (pairL x y) z:=(z3z _ _).mpr (y6o ((z3z _ _).mp h) ((z3z _ _).mp h2))
theorem z7a {P:List Int->Prop}{x y:List Int}(h:P x) (h2:P y):P (pairL x y):=by unfold pairL;split<;>assumption
def TpsM (H:Hp) (ps:List Addr) (Ss:List (List Int)):Prop:=ps.length=Ss.length/\∀(i:Nat) (p:Addr),ps[i]?=some p->∃S,Ss[i]?=some S/\Tp H p S
theorem TpsM.same {H H':Hp}{ps:List Addr}{Ss:List (List Int)}(h:TpsM H ps Ss) (s:Same H H'):TpsM H' ps Ss:=⟨h.1,λ i p e=>let ⟨S,a,b⟩:=h.2 i p e;⟨S,a,s _ _ b⟩⟩
theorem z2r {H:Hp}{ps:List Addr}{Ss:List (List Int)}(h:TpsM H ps Ss) {a:Nat}(l:a < Ss.length):∃p S,atI (ps.map V.ref) (a:Int)=some (.ref p)/\Ss[a]?=some S/\Tp H p S:=by
 have l':a < ps.length:=by rw [h.1];exact l
 obtain ⟨S,e,t⟩:=h.2 a _ (List.getElem?_eq_getElem l')
 exact ⟨_,S,z0m (by rw [List.getElem?_map,List.getElem?_eq_getElem l'];rfl),e,t⟩
def Sds (mo:Int) (Ss:List (List Int)):Prop:=Ss.length≤40/\∀S∈Ss,fitM mo S
theorem z9g (ws:List Str) {k:Int}(h0:0≤k) (h1:k < (ws.length:Int)):∃w,atI (ws.map V.str) k=some (.str w)/\w∈ws:=by
 obtain ⟨j,rfl⟩:∃j:Nat,k=j:=⟨k.toNat,by omega⟩
 have jl:j < ws.length:=Int.ofNat_lt.mp h1
 exact ⟨ws[j],z0m (by rw [List.getElem?_map,List.getElem?_eq_getElem jl];rfl),List.getElem_mem jl⟩
theorem z5z {k:Int}{n:Nat}(h:k∈upL n):∃a:Nat,k=a/\a < n:=⟨k.toNat,(Int.toNat_of_nonneg (up_mem.mp h).1).symm,by have:=up_mem.mp h;omega⟩
theorem x4s {a n:Nat}(h:a < n):(a:Int)∈upL n:=up_mem.mpr ⟨Int.natCast_nonneg _,Int.ofNat_lt.mpr h⟩
theorem x5q {K:W.Frag}{a:Addr}{ps:List Addr}{Ss:List (List Int)}{k:Nat}{js:List Nat}{g:TG}{te:TE}{Q:VK}{σ:L2.St}{H:Hp}(h1:H a=some (.lst (ps.map V.ref))) (l:Ss.length≤1000) (ht:TpsM H ps Ss) (f:List Int->List Int) (cs:L2.St) (h0:compSt k js σ=none::cs)
  (hs:∀(p:Addr) (S:List Int) (y:Option V) (G:Hp) (Rt:V->L2.St->Hp->Prop),S∈Ss->Same H G->Tp G p S->(∀G' r,Same G G'->Tp G' r (f S)->Rt (.ref r) (some (.ref p)::cs) G')->g (.ref p) (y::cs) G λ σ3 H3=>te σ3 H3 λ v H4=>Rt v σ3 H4)
  (hz:∀(qs:List Addr) (G:Hp) (p:Addr),Same H G->G p=none->TpsM G qs (Ss.map f)->Q (.ref p) (upd G p (.lst (qs.map V.ref)))):CompL K k js g te σ (.ref a) H Q:=by
 refine CompL.mk (xs:=ps.map V.ref) (.of h1) (λ i zs σ' G=>Same H G/\∃qs:List Addr,zs=qs.map V.ref/\i≤ps.length/\TpsM G qs ((Ss.take i).map f)/\∃y,σ'=y::cs) ⟨Same.refl _,[],rfl,Nat.zero_le _,⟨rfl,λ i p e=>nomatch e⟩,none,h0⟩ (λ i zs σ' G _ h=>.of (h.1 _ _ h1)) (λ i x zs σ' G e h=>?_) (λ zs σ' G h p hp=>?_)
 ·obtain ⟨u,qs,rfl,i1,tq,y,rfl⟩:=h
  obtain ⟨p,rfl,hp⟩:∃p,x=.ref p/\ps[i]?=some p:=by
   rw [List.getElem?_map] at e
   cases hx:ps[i]? with
   | none=>rw [hx] at e;cases e
   | some n=>rw [hx] at e;cases e;exact ⟨n,rfl,rfl⟩
  have il:=(List.getElem?_eq_some_iff.mp hp).1
  obtain ⟨S,eS,hS⟩:=ht.2 i p hp
  have ql:qs.length=i:=by rw [tq.1,List.length_map,List.length_take,← ht.1];omega
  refine ⟨by rw [List.length_map,ql];exact z1b (by rw [ht.1] at il;omega),hs p S y G _ (List.mem_of_getElem? eS) u (u _ _ hS) λ G' r u' hr=>?_⟩
  refine ⟨u.trans u',qs++[r],by rw [List.map_append];rfl,il,?_,_,rfl⟩
  rw [List.take_add_one,eS,List.map_append]
  refine ⟨by rw [List.length_append,List.length_append,tq.1];rfl,λ j p' ej=>?_⟩
  by_cases c:j < qs.length
  ·rw [List.getElem?_append_left c] at ej
   obtain ⟨S',a1,a2⟩:=tq.2 j p' ej
   exact ⟨S',by rw [List.getElem?_append_left (by rw [← tq.1];exact c)];exact a1,u' _ _ a2⟩
  ·have jl:=(List.getElem?_eq_some_iff.mp ej).1
   rw [List.length_append,List.length_singleton] at jl
   have je:j=qs.length:=by omega
   rw [je,List.getElem?_append_right (Nat.le_refl _),Nat.sub_self] at ej
   cases ej
   exact ⟨f S,by rw [je,tq.1,List.getElem?_append_right (Nat.le_refl _),Nat.sub_self];rfl,hr⟩
 ·obtain ⟨u,qs,rfl,i1,tq,y,rfl⟩:=h
  rw [List.length_map,ht.1,List.take_length] at tq
  exact hz qs G p u hp tq
def spllifted:Sp:=λ vs H Q _=>∃(dl sl:Addr) (kd mo d0 d1 d2:Int) (ps:List Addr) (Ss:List (List Int)),vs=[.int kd,.ref dl,.ref sl]/\H dl=some (.lst [.int d0,.int d1,.int d2])/\H sl=some (.lst (ps.map V.ref))/\TpsM H ps Ss/\0 < Ss.length/\Sds mo Ss/\∀H' r,Same H H'->MadeAt H' r mo Ss->Q (.ref r) H'
def splmet:Sp:=λ vs H Q _=>∃(dl sl:Addr) (kd mo d0 d1 d2:Int) (ps:List Addr) (Ss:List (List Int)),vs=[.int kd,.ref dl,.ref sl,.int mo]/\H dl=some (.lst [.int d0,.int d1,.int d2])/\H sl=some (.lst (ps.map V.ref))/\TpsM H ps Ss/\(∃S∈Ss,0 < S.length)/\11≤kd/\kd≤14/\Sds mo Ss/\moOk mo/\∀H' r,Same H H'->MadeAt H' r mo Ss->Q (.ref r) H'
def splstep:Sp:=λ vs H Q _=>∃(sl:Addr) (cell mo:Int) (ps:List Addr) (Ss:List (List Int)),vs=[.int cell,.ref sl,.int mo]/\H sl=some (.lst (ps.map V.ref))/\TpsM H ps Ss/\Sds mo Ss/\moOk mo/\∀H' r,Same H H'->MadeAt H' r mo Ss->Q (.ref r) H'
@[irreducible] def lw12p:List (Str × Pos):=[("add",⟨314,17,314,22⟩),("sub",⟨314,24,314,29⟩),("mul",⟨314,31,314,36⟩),("quo",⟨314,38,314,43⟩),("rest",⟨314,45,314,51⟩),("max",⟨314,53,314,58⟩),("min",⟨314,60,314,65⟩),("less",⟨314,67,314,73⟩),("like",⟨314,75,314,81⟩),("and",⟨314,83,314,88⟩),("or",⟨314,90,314,94⟩),("xor",⟨314,96,314,101⟩)]
theorem x5e:(lw12p.map (·.1)).map V.str=two12.map V.str:=by unfold lw12p;rfl
theorem x5f:((lw12p.map (·.1)).map V.str).length=12:=by unfold lw12p;rfl
def lgS (i:Nat):Stmt:=(defBody (top 67)).getD i (.Pass ⟨0,0,0,0⟩)
def lifT:Stmt->Expr | .If t _ _ _=>t | _=>.Name "" ⟨0,0,0,0⟩
def lifB:Stmt->Stmt | .If _ (_::b::_) _ _=>b | s=>s
theorem x5v:defBody (top 67)=[lgS 0,lgS 1,lgS 2,lgS 3,lgS 4,lgS 5,.If (lifT (lgS 6)) [.Assign [.Name "words" ⟨314,8,314,13⟩] (.List (strsC lw12p) ⟨314,16,314,102⟩) ⟨314,8,314,102⟩,lifB (lgS 6)] [] ⟨313,4,315,57⟩,lgS 7,lgS 8,lgS 9]:=by kernel_rfl
theorem z4g {X:Cx}{K:W.Frag}(hK:X.K=K):CallR X (.builtin "len") (λ xs H Q=>∃p ys,xs=[.ref p]/\(SqL K H p ys\/SqT K H p ys)/\Q (.int (ys.length:Nat)) H):=hK ▸ z0j
theorem y4f {X:Cx}{K:W.Frag}(hK:X.K=K) (hu:X.A.units < cLine):OpR X (compareOp .NotEq) (rNeT K):=hK ▸ y0z hu
def UpT (H H':Hp):Prop:=∀a xs,H a=some (.tup xs)->H' a=some (.tup xs)
theorem z2i {H H':Hp}(s:Same H H'):UpT H H':=λ _ _ e=>s _ _ e
theorem UpT.trans {H H' H2:Hp}(s:UpT H H') (t:UpT H' H2):UpT H H2:=λ _ _ e=>t _ _ (s _ _ e)
theorem z5y {H:Hp}{l:Addr}{xs ys:List V}(h:H l=some (.lst xs)):UpT H (upd H l (.lst ys)):=λ a zs e=>by
 have ne:a≠l:=λ z=>by rw [z,h] at e;cases e
 rw [z1a ne];exact e
theorem StpAt.up {H H':Hp}{p:Addr}(s:UpT H H'):∀ {d:Stp},StpAt H p d->StpAt H' p d
 | .inp _,⟨b,h1,h2⟩=>⟨b,s _ _ h1,s _ _ h2⟩
 | .num _,h=>s _ _ h
 | .count ..,⟨b,h1,h2⟩=>⟨b,s _ _ h1,s _ _ h2⟩
 | .each ..,h=>s _ _ h
 | .pair ..,h=>s _ _ h
 | .pick ..,h=>s _ _ h
 | .turn ..,⟨b,h1,h2⟩=>⟨b,s _ _ h1,s _ _ h2⟩
 | .flip ..,h=>s _ _ h
 | .cut ..,h=>s _ _ h
 | .spread ..,h=>s _ _ h
 | .lay ..,⟨b,h1,h2⟩=>⟨b,s _ _ h1,s _ _ h2⟩
 | .join ..,h=>s _ _ h
 | .fetch ..,h=>s _ _ h
 | .fold ..,h=>s _ _ h
 | .run ..,h=>s _ _ h
theorem TpsM.up {H H':Hp}{ps:List Addr}{Ss:List (List Int)}(h:TpsM H ps Ss) (s:UpT H H'):TpsM H' ps Ss:=⟨h.1,λ i p e=>let ⟨S,a,b⟩:=h.2 i p e;⟨S,a,s _ _ b⟩⟩
theorem TpsM.snoc {H:Hp}{ps:List Addr}{Ss:List (List Int)}{p:Addr}{S:List Int}(h:TpsM H ps Ss) (hp:Tp H p S):TpsM H (ps++[p]) (Ss++[S]):=by
 refine ⟨by rw [List.length_append,List.length_append,h.1];rfl,λ j p' ej=>?_⟩
 by_cases c:j < ps.length
 ·rw [List.getElem?_append_left c] at ej
  obtain ⟨S',a1,a2⟩:=h.2 j p' ej
  exact ⟨S',by rw [List.getElem?_append_left (by rw [← h.1];exact c)];exact a1,a2⟩
 ·have jl:=(List.getElem?_eq_some_iff.mp ej).1
  rw [List.length_append,List.length_singleton] at jl
  have je:j=ps.length:=by omega
  rw [je,List.getElem?_append_right (Nat.le_refl _),Nat.sub_self] at ej
  cases ej
  exact ⟨S,by rw [je,h.1,List.getElem?_append_right (Nat.le_refl _),Nat.sub_self];rfl,hp⟩
def StL (H:Hp) (qs:List Addr) (ds:List Stp):Prop:=qs.length=ds.length/\∀(i:Nat) (p:Addr),qs[i]?=some p->∃d,ds[i]?=some d/\StpAt H p d
theorem StL.up {H H':Hp}{qs:List Addr}{ds:List Stp}(h:StL H qs ds) (s:UpT H H'):StL H' qs ds:=⟨h.1,λ i p e=>let ⟨d,a,b⟩:=h.2 i p e;⟨d,a,b.up s⟩⟩
theorem StL.snoc {H:Hp}{qs:List Addr}{ds:List Stp}{p:Addr}{d:Stp}(h:StL H qs ds) (hp:StpAt H p d):StL H (qs++[p]) (ds++[d]):=by
 refine ⟨by rw [List.length_append,List.length_append,h.1];rfl,λ j p' ej=>?_⟩
 by_cases c:j < qs.length
 ·rw [List.getElem?_append_left c] at ej
  obtain ⟨S',a1,a2⟩:=h.2 j p' ej
  exact ⟨S',by rw [List.getElem?_append_left (by rw [← h.1];exact c)];exact a1,a2⟩
 ·have jl:=(List.getElem?_eq_some_iff.mp ej).1
  rw [List.length_append,List.length_singleton] at jl
  have je:j=qs.length:=by omega
  rw [je,List.getElem?_append_right (Nat.le_refl _),Nat.sub_self] at ej
  cases ej
  exact ⟨d,by rw [je,h.1,List.getElem?_append_right (Nat.le_refl _),Nat.sub_self];rfl,hp⟩
def GoodL (mo:Int) (ds:List Stp) (Ss:List (List Int)):Prop:=ds.length=Ss.length/\(∀S∈Ss,fitM mo S)/\∀(i:Nat) (d:Stp) (S:List Int),ds[i]?=some d->Ss[i]?=some S->OkS (Ss.take i) S d
theorem z5k {mo:Int}{ds:List Stp}{Ss:List (List Int)}{d:Stp}{S:List Int}(h:GoodL mo ds Ss) (o:OkS Ss S d) (f:fitM mo S):GoodL mo (ds++[d]) (Ss++[S]):=by
 refine ⟨by rw [List.length_append,List.length_append,h.1];rfl,λ T hT=>?_,λ i d' S' e1 e2=>?_⟩
 ·rcases List.mem_append.mp hT with z | z
  ·exact h.2.1 T z
  ·cases List.mem_singleton.mp z;exact f
 ·by_cases c:i < ds.length
  ·rw [List.getElem?_append_left c] at e1
   have c':i < Ss.length:=by rw [← h.1];exact c
   rw [List.getElem?_append_left c'] at e2
   rw [List.take_append_of_le_length (Nat.le_of_lt c')]
   exact h.2.2 i d' S' e1 e2
  ·have jl:=(List.getElem?_eq_some_iff.mp e1).1
   rw [List.length_append,List.length_singleton] at jl
   have je:i=ds.length:=by omega
   rw [je,List.getElem?_append_right (Nat.le_refl _),Nat.sub_self] at e1
   rw [je,h.1,List.getElem?_append_right (Nat.le_refl _),Nat.sub_self] at e2
   cases e1;cases e2
   rw [je,h.1,List.take_append_of_le_length (Nat.le_refl _),List.take_length]
   exact o
theorem y1g (mo:Int):GoodL mo [] []:=⟨rfl,(λ _ h=>nomatch h),(λ _ _ _ h=>nomatch h)⟩
def PrgAt (H:Hp) (r:Addr) (mo:Int) (ds:List Stp) (Ss:List (List Int)) (os:List Int):Prop:=∃(st ot sl:Addr) (qs ps:List Addr),H r=some (.tup [.ref st,.ref ot,.ref sl])/\H st=some (.tup (qs.map V.ref))/\StL H qs ds/\H ot=some (.tup (os.map V.int))/\H sl=some (.lst (ps.map V.ref))/\TpsM H ps Ss/\GoodL mo ds Ss/\0 < ds.length/\ds.length≤40/\0 < os.length/\os.length≤8/\∀o∈os,0≤o/\o < (ds.length:Int)
def splprogram:Sp:=λ vs H Q _=>∃(a:Addr) (cs:List Int) (mo:Int),vs=[.ref a,.int mo]/\H a=some (.lst (cs.map V.int))/\cs.length≤40/\moOk mo/\∀H' r ds Ss os,Same H H'->PrgAt H' r mo ds Ss os->ds.length≤max 1 cs.length->Q (.ref r) H'
theorem y6m {A B:List Int}{k:Nat}(h:¬bothL A B k=[]):A.length=B.length/\A.eraseIdx k=B.eraseIdx k/\bothL A B k=joinL A B k:=by
 unfold bothL at h ⊢
 split
 ·rename_i c;exact ⟨c.1,c.2,rfl⟩
 ·rename_i c;rw [if_neg c] at h;exact absurd rfl h
theorem y9p {ns:List Int}{m:Int}(h:∀n∈ns,0≤n/\n≤m) (m0:0≤m) (k:Nat):0≤ns.getD k 0/\ns.getD k 0≤m:=by
 by_cases c:k < ns.length
 ·exact h _ (z3j c)
 ·rw [List.getD_eq_getElem?_getD,List.getElem?_eq_none (by omega)];exact ⟨Int.le_refl _,m0⟩
def Md (kd:Int) (A:List Int) (k:Nat) (Ss Ms:List (List Int)):Prop:=(kd=11/\Ms=Ss.map (λ B=>bothL A B k))\/(kd=12/\0 < A.getD 0 0/\Ms=Ss.map (λ B=>B++A.drop 1))\/(¬kd=11/\¬0 < A.getD 0 0/\Ms=[[]])
theorem x3n {kd:Int}{A:List Int}{k:Nat}{Ss Ms:List (List Int)}(h:Md kd A k Ss Ms) (l:Ss.length≤40):Ms.length≤40:=by
 rcases h with ⟨_,rfl⟩ | ⟨_,_,rfl⟩ | ⟨_,_,rfl⟩
 ·rw [List.length_map];exact l
 ·rw [List.length_map];exact l
 ·exact Nat.succ_le_succ (Nat.zero_le _)
theorem x5u {kd mo:Int}{A:List Int}{k:Nat}{Ss Ms:List (List Int)}(h:Md kd A k Ss Ms) (fA:fitM mo A) (fS:∀S∈Ss,fitM mo S) (m:moOk mo):∀M∈Ms,∀n∈M,0≤n/\n≤1024:=by
 have m2:=m.2
 have m1:=m.1
 rcases h with ⟨_,rfl⟩ | ⟨_,_,rfl⟩ | ⟨_,_,rfl⟩
 ·intro M hM n hn
  obtain ⟨B,hB,rfl⟩:=List.mem_map.mp hM
  by_cases c:bothL A B k=[]
  ·rw [c] at hn;exact nomatch hn
  ·rw [(y6m c).2.2] at hn
   unfold joinL at hn
   rcases List.mem_or_eq_of_mem_set hn with z | z
   ·have:=fA.1 n z;omega
   ·have a1:=y9p fA.1 (show 0≤mo by omega) (k:Int).toNat
    have a2:=y9p (fS B hB).1 (show 0≤mo by omega) (k:Int).toNat
    omega
 ·intro M hM n hn
  obtain ⟨B,hB,rfl⟩:=List.mem_map.mp hM
  rcases List.mem_append.mp hn with z | z
  ·have:=(fS B hB).1 n z;omega
  ·have:=fA.1 n (List.mem_of_mem_drop z);omega
 ·intro M hM n hn
  cases List.mem_singleton.mp hM
  exact nomatch hn
theorem y2x {M:List Int}(h:∀n∈M,0≤n/\n≤1024):sdOk M:=λ n hn=>by have:=h n hn;exact ⟨this.1,by omega⟩
theorem x2j (k:Int) (h0:0≤k) (h1:k < 6):∃x:Int,atI [V.int 1,V.int 2,V.int 3,V.int 2,V.int 1,V.int 8] k=some (.int x)/\1≤x/\x≤8:=by
 obtain ⟨j,rfl⟩:∃j:Nat,k=j:=⟨k.toNat,by omega⟩
 match j,h1 with
 | 0,_=>exact ⟨_,rfl,by decide,by decide⟩
 | 1,_=>exact ⟨_,rfl,by decide,by decide⟩
 | 2,_=>exact ⟨_,rfl,by decide,by decide⟩
 | 3,_=>exact ⟨_,rfl,by decide,by decide⟩
 | 4,_=>exact ⟨_,rfl,by decide,by decide⟩
 | 5,_=>exact ⟨_,rfl,by decide,by decide⟩
 | m+6,h1=>exact absurd (Int.ofNat_lt.mp h1) (Nat.not_lt.mpr (Nat.le_add_left ..))
theorem x5b {M:List Int}{mo:Int}(m:moOk mo) (l:M.length≤6) (w:prodI (M.map one1)≤mo):¬bigI M:=λ z=>z.elim (by omega) (by have:=m.2;omega)
theorem x1h {Ss:List (List Int)}{M:Int}(h:M∈Ss.map (λ S=>(S.length:Int))) (h0:0 < M):∃S∈Ss,0 < S.length:=by
 obtain ⟨S,hS,rfl⟩:=List.mem_map.mp h
 exact ⟨S,hS,by omega⟩
theorem y7n {os:List Int}{n:Nat}{j:Nat}(h:∀o∈os,0≤o/\o < (n:Int)) (n0:0 < n):∀o∈os.set j ((n:Int) - 1),0≤o/\o < (n:Int):=λ o ho=>by
 rcases List.mem_or_eq_of_mem_set ho with z | z
 ·exact h o z
 ·omega
def kdN:Stp->Nat
 | .inp ..=>0 | .num ..=>1 | .count ..=>2 | .each ..=>3 | .pair ..=>4 | .pick ..=>5 | .turn ..=>6 | .flip ..=>7 | .cut ..=>8 | .spread ..=>9 | .lay ..=>10 | .join ..=>11 | .fetch ..=>12 | .fold ..=>13 | .run ..=>14
theorem z2n (d:Stp):kdN d < 15:=by cases d<;>exact of_decide_eq_true rfl
def argsN:Stp->List Nat
 | .inp ..=>[] | .num ..=>[] | .count ..=>[]
 | .each _ a=>[a] | .pair _ a b=>[a,b] | .pick a b c=>[a,b,c]
 | .turn a _=>[a] | .flip a _=>[a] | .cut a ..=>[a] | .spread a ..=>[a] | .lay a _=>[a]
 | .join a b _=>[a,b] | .fetch a b=>[a,b] | .fold _ a _=>[a] | .run _ a _=>[a]
theorem y1d:∀i j:Fin 15,kindS i.val=kindS j.val->i=j:=by decide +kernel
theorem y2m {i:Nat}(j:Nat) (hi:i < 15) (hj:j < 15) (ne:¬i=j):¬V.str (kindS i)=V.str (kindS j):=λ z=>ne (congrArg Fin.val (y1d ⟨i,hi⟩ ⟨j,hj⟩ (V.str.inj z)))
theorem z3f {i:Nat}(j:Nat) (hi:i < 15) (hj:j < 15) (ne:¬i=j):¬kindS i=kindS j:=λ z=>ne (congrArg Fin.val (y1d ⟨i,hi⟩ ⟨j,hj⟩ z))
def nmV (ns:List Nat):List V:=ns.map λ a=>V.int ((a:Nat):Int)
theorem z2u {H:Hp}{p:Addr}{d:Stp}(h:StpAt H p d):∃xs,H p=some (.tup xs)/\xs[0]?=some (.str (kindS (kdN d)))/\(∀q∈argsP (kdN d),0≤q/\q < (xs.length:Int))/\getAll xs (argsP (kdN d))=nmV (argsN d):=by
 rw [x2e (z2n d)]
 cases d with
 | inp ms=>obtain ⟨b,h,_⟩:=h;exact ⟨_,h,rfl,of_decide_eq_true rfl,rfl⟩
 | num n=>exact ⟨_,h,rfl,of_decide_eq_true rfl,rfl⟩
 | count ms k=>obtain ⟨b,h,_⟩:=h;exact ⟨_,h,rfl,of_decide_eq_true rfl,rfl⟩
 | each w a=>exact ⟨_,h,rfl,of_decide_eq_true rfl,rfl⟩
 | pair w a b=>exact ⟨_,h,rfl,of_decide_eq_true rfl,rfl⟩
 | pick a b c=>exact ⟨_,h,rfl,of_decide_eq_true rfl,rfl⟩
 | turn a os=>obtain ⟨b,h,_⟩:=h;exact ⟨_,h,rfl,of_decide_eq_true rfl,rfl⟩
 | flip a s=>exact ⟨_,h,rfl,of_decide_eq_true rfl,rfl⟩
 | cut a s f m g=>exact ⟨_,h,rfl,of_decide_eq_true rfl,rfl⟩
 | spread a s m=>exact ⟨_,h,rfl,of_decide_eq_true rfl,rfl⟩
 | lay a ms=>obtain ⟨b,h,_⟩:=h;exact ⟨_,h,rfl,of_decide_eq_true rfl,rfl⟩
 | join a b s=>exact ⟨_,h,rfl,of_decide_eq_true rfl,rfl⟩
 | fetch a b=>exact ⟨_,h,rfl,of_decide_eq_true rfl,rfl⟩
 | fold w a s=>exact ⟨_,h,rfl,of_decide_eq_true rfl,rfl⟩
 | run w a s=>exact ⟨_,h,rfl,of_decide_eq_true rfl,rfl⟩
def wordOk:Stp->Prop
 | .each w _=>w∈one4 | .pair w _ _=>w∈two12 | .fold w _ _=>isF w | .run w _ _=>isF w | _=>True
theorem x1d {Ss:List (List Int)}{S:List Int}{d:Stp}(h:OkS Ss S d):wordOk d:=by
 cases d with
 | each w a=>exact h.2
 | pair w a b=>obtain ⟨A,B,_,_,z,_⟩:=h;exact z
 | fold w a s=>obtain ⟨A,_,z,_⟩:=h;exact z
 | run w a s=>exact h.2.1
 | _=>trivial
theorem y0m {Ss:List (List Int)}{S:List Int}{d:Stp}(h:OkS Ss S d):∀a∈argsN d,a < Ss.length:=by
 have g:∀ {a:Nat}{A:List Int},Ss[a]?=some A->a < Ss.length:=λ e=>(List.getElem?_eq_some_iff.mp e).1
 intro x hx
 cases d with
 | inp ms=>exact nomatch hx
 | num n=>exact nomatch hx
 | count ms k=>exact nomatch hx
 | each w a=>cases List.mem_singleton.mp hx;exact g h.1
 | pair w a b =>
  obtain ⟨A,B,e1,e2,_⟩:=h
  rcases List.mem_cons.mp hx with z | z
  ·rw [z];exact g e1
  ·cases List.mem_singleton.mp z;exact g e2
 | pick a b c =>
  obtain ⟨A,B,C,e1,e2,e3,_⟩:=h
  rcases List.mem_cons.mp hx with z | z
  ·rw [z];exact g e1
  rcases List.mem_cons.mp z with z | z
  ·rw [z];exact g e2
  ·cases List.mem_singleton.mp z;exact g e3
 | turn a os=>obtain ⟨A,e1,_⟩:=h;cases List.mem_singleton.mp hx;exact g e1
 | flip a s=>cases List.mem_singleton.mp hx;exact g h.1
 | cut a s f m gg=>obtain ⟨A,e1,_⟩:=h;cases List.mem_singleton.mp hx;exact g e1
 | spread a s m=>obtain ⟨A,e1,_⟩:=h;cases List.mem_singleton.mp hx;exact g e1
 | lay a ms=>obtain ⟨A,e1,_⟩:=h;cases List.mem_singleton.mp hx;exact g e1
 | join a b s =>
  obtain ⟨A,B,e1,e2,_⟩:=h
  rcases List.mem_cons.mp hx with z | z
  ·rw [z];exact g e1
  ·cases List.mem_singleton.mp z;exact g e2
 | fetch a b =>
  obtain ⟨n,r,B,e1,_,e2,_⟩:=h
  rcases List.mem_cons.mp hx with z | z
  ·rw [z];exact g e1
  ·cases List.mem_singleton.mp z;exact g e2
 | fold w a s=>obtain ⟨A,e1,_⟩:=h;cases List.mem_singleton.mp hx;exact g e1
 | run w a s=>cases List.mem_singleton.mp hx;exact g h.1
theorem z7n (d:Stp):(argsN d).length≤3:=by cases d<;>exact Nat.le_of_sub_eq_zero rfl
theorem ok4 {w:Str}(h:w∈one4):okS 1000 w:=by
 simp only [one4,List.mem_cons,List.not_mem_nil,or_false] at h
 rcases h with rfl | rfl | rfl | rfl<;>exact ⟨by decide +kernel,by decide +kernel⟩
theorem x5s {w:Str}(h:w∈two12):okS 1000 w:=by
 simp only [two12,List.mem_cons,List.not_mem_nil,or_false] at h
 rcases h with rfl | rfl | rfl | rfl | rfl | rfl | rfl | rfl | rfl | rfl | rfl | rfl<;>exact ⟨by decide +kernel,by decide +kernel⟩
theorem ok7 {w:Str}(h:isF w):okS 1000 w:=by
 unfold isF at h
 simp only [fw,List.mem_cons,List.not_mem_nil,or_false] at h
 rcases h with rfl | rfl | rfl | rfl | rfl | rfl | rfl<;>exact ⟨by decide +kernel,by decide +kernel⟩
theorem inv_at {d:Stp}:(kdN d=0->∃ms,d=.inp ms)/\(kdN d=2->∃ms k,d=.count ms k)/\(kdN d=3->∃w a,d=.each w a)/\(kdN d=4->∃w a b,d=.pair w a b)/\(kdN d=6->∃a os,d=.turn a os)/\(kdN d=7->∃a s,d=.flip a s)/\(kdN d=8->∃a s f m g,d=.cut a s f m g)/\(kdN d=9->∃a s m,d=.spread a s m)/\(kdN d=10->∃a ms,d=.lay a ms)/\(kdN d=11->∃a b s,d=.join a b s)/\(kdN d=12->∃a b,d=.fetch a b)/\(kdN d=13->∃w a s,d=.fold w a s)/\(kdN d=14->∃w a s,d=.run w a s):=by
 cases d<;>refine ⟨?_,?_,?_,?_,?_,?_,?_,?_,?_,?_,?_,?_,?_⟩<;>intro c<;>first | exact absurd c (of_decide_eq_false rfl) | exact ⟨_,rfl⟩ | exact ⟨_,_,rfl⟩ | exact ⟨_,_,_,rfl⟩ | exact ⟨_,_,_,_,_,rfl⟩
def spfirst:Sp:=λ vs H Q _=>∃(p:Addr) (d:Stp) (S:List Int) (Ss:List (List Int)),vs=[.ref p]/\StpAt H p d/\kdN d < 3/\OkS Ss S d/\fit S/\∀H' r,Same H H'->Tp H' r S->Q (.ref r) H'
def spmv:Sp:=λ vs H Q _=>∃(p o:Addr) (d:Stp) (S A:List Int) (Ss:List (List Int)) (a:Nat),vs=[.ref p,.ref o]/\StpAt H p d/\argsN d=[a]/\Ss[a]?=some A/\Tp H o A/\fit A/\OkS Ss S d/\fit S/\∀H' r,Same H H'->Tp H' r S->Q (.ref r) H'
def UsAt (G:Hp) (us:List Addr) (ns:List Nat) (Ss:List (List Int)):Prop:=us.length=ns.length/\∀(i a:Nat),ns[i]?=some a->∃u A,us[i]?=some u/\Ss[a]?=some A/\Tp G u A
theorem UsAt.same {G G':Hp}{us:List Addr}{ns:List Nat}{Ss:List (List Int)}(h:UsAt G us ns Ss) (s:Same G G'):UsAt G' us ns Ss:=⟨h.1,λ i a e=>let ⟨u,A,e1,e2,e3⟩:=h.2 i a e;⟨u,A,e1,e2,s _ _ e3⟩⟩
theorem z5p {G:Hp}{us:List Addr}{ns:List Nat}{Ss:List (List Int)}{a:Nat}{A:List Int}(h:UsAt G us ns Ss) (i:Nat) (e:ns[i]?=some a) (eA:Ss[a]?=some A):∃u,atI (us.map V.ref) (i:Int)=some (.ref u)/\Tp G u A:=by
 obtain ⟨u,A',e1,e2,e3⟩:=h.2 i a e
 cases e2.symm.trans eA
 exact ⟨u,z0m (by rw [List.getElem?_map,e1];rfl),e3⟩
theorem x0b {G:Hp}{us:List Addr}{ns:List Nat}{Ss:List (List Int)}{u:Addr}{a:Nat}{A:List Int}(h:UsAt G us ns Ss) (eA:Ss[a]?=some A) (hu:Tp G u A):UsAt G (us++[u]) (ns++[a]) Ss:=by
 refine ⟨by rw [List.length_append,List.length_append,h.1];rfl,λ i b e=>?_⟩
 by_cases c:i < ns.length
 ·rw [List.getElem?_append_left c] at e
  obtain ⟨v,B,e1,e2,e3⟩:=h.2 i b e
  exact ⟨v,B,by rw [List.getElem?_append_left (by rw [h.1];exact c)];exact e1,e2,e3⟩
 ·have jl:=(List.getElem?_eq_some_iff.mp e).1
  rw [List.length_append,List.length_singleton] at jl
  have je:i=ns.length:=by omega
  rw [je,List.getElem?_append_right (Nat.le_refl _),Nat.sub_self] at e
  cases e
  exact ⟨u,A,by rw [je,← h.1,List.getElem?_append_right (Nat.le_refl _),Nat.sub_self];rfl,eA,hu⟩
theorem y7v {ns:List Nat}{i:Nat}{x:V}(e:(nmV ns)[i]?=some x):∃a:Nat,x=.int (a:Int)/\ns[i]?=some a:=by
 unfold nmV at e
 rw [List.getElem?_map] at e
 cases hx:ns[i]? with
 | none=>rw [hx] at e;cases e
 | some n=>rw [hx] at e;cases e;exact ⟨n,rfl,rfl⟩
theorem y4x (ns:List Nat):(nmV ns).length=ns.length:=List.length_map ..
theorem x5o {d:Stp}(h:(argsN d).length=0):kdN d < 3:=by
 cases d<;>first | exact of_decide_eq_true rfl | exact absurd h (Nat.succ_ne_zero _)
theorem x5n {d:Stp}(h:(argsN d).length=1):∃a,argsN d=[a]:=by
 match argsN d,h with
 | [a],_=>exact ⟨a,rfl⟩
def rep (n:Nat):List Bool:=List.replicate n false
theorem z6v (n:Nat):(rep (n+1)).map V.bl=(rep n).map V.bl++[V.bl false]:=by unfold rep;rw [List.replicate_succ',List.map_append];rfl
theorem z9v (n:Nat):(rep n).length=n:=List.length_replicate ..
theorem z9w (n:Nat):(rep n).any id=false:=by
 unfold rep
 rw [List.any_eq_false]
 intro x hx
 rw [List.eq_of_mem_replicate hx]
 exact Bool.false_ne_true
def ProgM (H:Hp) (r:Addr) (ds:List Stp) (os:List Int):Prop:=∃(st ot:Addr) (qs:List Addr),H r=some (.tup [.ref st,.ref ot])/\H st=some (.tup (qs.map V.ref))/\StL H qs ds/\H ot=some (.tup (os.map V.int))
def GoodO (mo:Int) (ds:List Stp) (Ss:List (List Int)) (os:List Int):Prop:=moOk mo/\GoodL mo ds Ss/\0 < ds.length/\ds.length≤40/\0 < os.length/\os.length≤8/\∀o∈os,0≤o/\o < (ds.length:Int)
theorem TpsM.snocT {H:Hp}{ps:List Addr}{Ss:List (List Int)}{i:Nat}{p:Addr}{S:List Int}(h:TpsM H ps (Ss.take i)) (e:Ss[i]?=some S) (hp:Tp H p S):TpsM H (ps++[p]) (Ss.take (i+1)):=by
 rw [List.take_add_one,e];exact h.snoc hp
theorem z4c {mo:Int}{ds:List Stp}{Ss:List (List Int)}(h:GoodL mo ds Ss) (m:moOk mo):∀T∈Ss,fit T:=λ T hT=>z3n (h.2.1 T hT) m
theorem y9r {A:List Int}(h:fit A):sm A:=λ n hn=>by have:=h.1 n hn;exact ⟨by omega,by omega⟩
theorem TpsM.take {H:Hp}{ps:List Addr}{Ss:List (List Int)}(h:TpsM H ps Ss) (k:Nat):TpsM H (ps.take k) (Ss.take k):=by
 refine ⟨by rw [List.length_take,List.length_take,h.1],λ i p e=>?_⟩
 by_cases c:i < k
 ·rw [List.getElem?_take_of_lt c] at e
  obtain ⟨S,a,b⟩:=h.2 i p e
  exact ⟨S,by rw [List.getElem?_take_of_lt c];exact a,b⟩
 ·rw [List.getElem?_eq_none (by rw [List.length_take];omega)] at e;cases e
def clsBody (s:Stmt):List Stmt:=match s with
 | .ClassDef _ _ _ b _ _ _ _ _ _ _=>b
 | _=>[]
abbrev sinit:Stmt:=(clsBody (top 7)).getD 0 (.Pass ⟨0,0,0,0⟩)
def ErrF (x y:V):List (Str × V):=[(Str.ofString "at",x),(Str.ofString "why",y)]
def spinit (K:W.Frag):Sp:=λ vs H Q _=>∃(a C:Addr) (tx:Str) (x y:V),vs=[.ref a,.str tx,x,y]/\H a=some (ExcM a C none)/\clsX K C [.type "ValueError",.type "Exception",.type "BaseException",.type "object"] "ValueError.__new__" = true/\AtX K C/\NoAttr K C (Str.ofString "at")/\NoAttr K C (Str.ofString "why") /\
 ∀dx H',H dx=none->dx≠a->H' a=some (ExcM a C (some dx))->H' dx=some (ExcF dx (ErrF x y))->(∀b,b≠a->b≠dx->H' b=H b)->Q .non H'
variable {P:Program}{w:World}{K:W.Frag}{mg:Str->Option Value}{base:Heap}{f:Addr}{fd:FuncData}
theorem x2l:FnScope ["self", "text", "at", "why"] ["self", "text", "at", "why"] (defScope sinit):=⟨rfl,rfl,rfl,by decide +kernel,rfl,by decide +kernel,by decide +kernel⟩
theorem x3f (F:Fun K "__init__" "BadStep.__init__" sinit f fd) {C0:Addr}(gL:mg "LoomError" = some (.ref C0)) (h1:W.specialIn K (.ref C0) "__getattribute__" = some (some (.builtin "type.__getattribute__"))) (h2:W.readsIn K C0 (.type "type")=true) (h3:W.findCls K (.ref C0) (.type "type") "__init__" = some (.val (.builtin "ValueError.__init__")))
  (h4:W.handedIn (.builtin "ValueError.__init__")=true):FnOk P w K mg base CX0 7 f fd ["self", "text", "at", "why"] (spinit K):=by
 have sc:=x2l
 refine F.ok sc (λ vs H Q E h=>?_) (λ cdv A outer s H vs Q E hr h=>?_)
 ·obtain ⟨a,C,tx,x,y,rfl,_⟩:=h;rfl
 obtain ⟨a,C,tx,x,y,rfl,ha,hc,hA,n1,n2,q⟩:=h
 refine ⟨_,(z0d (z1r (y7k PySem.F.excBase_ValueError (by rfl) gL h1 h2 h3 h4 (z0a (pv 0) (z0a (pv 1) z0c)))) (z0d (x2s (pv 0) (pv 2) rfl) (z0g (x2r (pv 0) (pv 3) rfl)))),?_⟩
 wp_walk using rRepT,tSeq,tIfS
 refine ⟨C,none,ha,hc,small (by decide),C,ha,hA,n1,λ dx hd ne=>⟨C,dx,?_⟩⟩
 have hdx:upd (upd H dx (ExcF dx [(Str.ofString "at",x)])) a (ExcM a C (some dx)) dx=some (ExcF dx [(Str.ofString "at",x)]):=by rw [z1a ne,z0f]
 exact ⟨rfl,_,hdx,hA,n2,by simp,q dx _ hd ne (by rw [z1a (Ne.symm ne),z0f]) (by rw [z0f];rfl) λ b n1 n2=>by rw [z1a n2,z1a n1,z1a n2]⟩
def isNo (d:Stp):Prop:=∃a,d=.each (Str.ofString "nought") a
def FltS (Ss:List (List Int)) (d:Stp) (w:Str):Prop:=(40≤Ss.length/\w=Str.ofString "many")\/(Ss.length < 40/\(∃a,argsN d=[a]/\Ss.length≤a)/\w=Str.ofString "name")\/(Ss.length < 40/\isNo d/\(∀a∈argsN d,a < Ss.length)/\w=Str.ofString "word")
def spaskwX (C:Addr):Sp:=λ vs H Q E=>∃(p:Addr) (d:Stp),vs=[.ref p]/\StpAt H p d/\((wordOk d/\∀H',Same H H'->Q .non H')\/(isNo d/\E (.ref C) none H))
def spsidesX (C:Addr):Sp:=λ vs H Q E=>∃(p s:Addr) (d:Stp) (Ss:List (List Int)) (ps:List Addr),vs=[.ref p,.ref s]/\StpAt H p d/\(H s=some (.lst (ps.map V.ref))\/H s=some (.tup (ps.map V.ref)))/\TpsM H ps Ss/\(∀T∈Ss,fit T)/\((∃S,OkS Ss S d/\fit S/\∀H' r,Same H H'->Tp H' r S->Q (.ref r) H')\/(isNo d/\E (.ref C) none H))
def sptoldX:Sp:=λ vs H Q _=>∃(p s:Addr) (d:Stp) (Ss:List (List Int)) (ps:List Addr),vs=[.ref p,.ref s]/\StpAt H p d/\H s=some (.lst (ps.map V.ref))/\TpsM H ps Ss/\(∀T∈Ss,fit T)/\((∃S,Ss.length < 40/\OkS Ss S d/\fit S/\∀H' r t,Same H H'->H' r=some (.tup [.ref t,.non])->Tp H' t S->Q (.ref r) H')\/(∃w,FltS Ss d w/\∀H' r,Same H H'->H' r=some (.tup [.non,.str w])->Q (.ref r) H'))
def BadP (H:Hp) (r:Addr) (n:Nat) (w:Str):Prop:=∃(mo:Int) (ds:List Stp) (Ss:List (List Int)),moOk mo/\GoodL mo ds Ss/\ds.length=n/\ds.length≤40/\((∃d rest os,ProgM H r (ds++d::rest) os/\FltS Ss d w)\/(ProgM H r ds []/\w=Str.ofString "out"))
theorem BadP.same {H H':Hp}{r:Addr}{n:Nat}{w:Str}(h:BadP H r n w) (s:Same H H'):BadP H' r n w:=by
 have pm:∀ {ds:List Stp}{os:List Int},ProgM H r ds os->ProgM H' r ds os:=λ ⟨st,ot,qs,a,b,c,d⟩=>⟨st,ot,qs,s _ _ a,s _ _ b,c.up (z2i s),s _ _ d⟩
 obtain ⟨mo,ds,Ss,a,b,c,l,h⟩:=h
 refine ⟨mo,ds,Ss,a,b,c,l,?_⟩
 rcases h with ⟨d,rest,os,p,f⟩ | ⟨p,z⟩
 ·exact .inl ⟨d,rest,os,pm p,f⟩
 ·exact .inr ⟨pm p,z⟩
def spptoldX:Sp:=λ vs H Q _=>∃(r:Addr),vs=[.ref r]/\((∃(ds:List Stp) (Ss:List (List Int)) (os:List Int) (mo:Int),ProgM H r ds os/\GoodO mo ds Ss os/\∀H' r' t ps,Same H H'->H' r'=some (.tup [.ref t,.non])->H' t=some (.tup (ps.map V.ref))->TpsM H' ps Ss->Q (.ref r') H') \/
 (∃n w,BadP H r n w/\∀H' r' t f,Same H H'->H' r'=some (.tup [.ref t,.ref f])->H' f=some (.tup [.int (n:Int),.str w])->Q (.ref r') H'))
def spcheckedX (C:Addr):Sp:=λ vs H Q E=>∃(r:Addr),vs=[.ref r]/\((∃(ds:List Stp) (Ss:List (List Int)) (os:List Int) (mo:Int),ProgM H r ds os/\GoodO mo ds Ss os/\∀H' t ps,Same H H'->H' t=some (.tup (ps.map V.ref))->TpsM H' ps Ss->Q (.ref t) H') \/
 (∃n w,BadP H r n w/\∀H' dx,Same H H'->H' dx=some (ExcF dx (ErrF (.int (n:Int)) (.str w)))->E (.ref C) (some dx) H'))
def callsI (Ss:List (List Int)) (d:Stp) (S:List Int):Int:=match d with
 | .each ..=>prodI S | .pair ..=>prodI S | .pick ..=>prodI S | .fetch ..=>prodI S
 | .fold _ a _=>prodI (Ss.getD a []) | .run _ a _=>prodI (Ss.getD a [])
 | _=>0
def madeI (d:Stp) (S:List Int):Int:=if kdN d=0 then 0 else prodI S
def sumZ (f:Stp->List Int->Int) (ds:List Stp) (Ss:List (List Int)) (i:Nat):Int:=(((ds.zip Ss).take i).map λ p=>f p.1 p.2).sum
theorem z2m {f:Stp->List Int->Int}{ds:List Stp}{Ss:List (List Int)}{i:Nat}{d:Stp}{S:List Int}(e1:ds[i]?=some d) (e2:Ss[i]?=some S):sumZ f ds Ss (i+1)=sumZ f ds Ss i+f d S:=by
 unfold sumZ
 have e:(ds.zip Ss)[i]?=some (d,S):=by rw [List.getElem?_zip_eq_some];exact ⟨e1,e2⟩
 rw [List.take_add_one,e,Option.toList_some,List.map_append,List.sum_append]
 simp
def spstepcalls:Sp:=λ vs H Q _=>∃(p o s:Addr) (d:Stp) (S:List Int) (Ss:List (List Int)) (ps:List Addr),vs=[.ref p,.ref o,.ref s]/\StpAt H p d/\Tp H o S/\fit S/\H s=some (.tup (ps.map V.ref))/\TpsM H ps Ss/\(∀T∈Ss,fit T)/\(∀a∈argsN d,a < Ss.length)/\∀H',Same H H'->Q (.int (callsI Ss d S)) H'
def spplain (f:List (List Int)->Stp->List Int->Int) (C:Addr):Sp:=λ vs H Q E=>∃(r:Addr),vs=[.ref r]/\((∃(ds:List Stp) (Ss:List (List Int)) (os:List Int) (mo:Int),ProgM H r ds os/\GoodO mo ds Ss os/\∀H',Same H H'->Q (.int (sumZ (f Ss) ds Ss ds.length)) H') \/
 (∃n w,BadP H r n w/\∀H' dx,Same H H'->H' dx=some (ExcF dx (ErrF (.int (n:Int)) (.str w)))->E (.ref C) (some dx) H'))
def splref:Sp:=λ vs H Q _=>∃(y:Int) (r:Addr) (n:Nat) (w:Str),vs=[.int y,.ref r]/\BadP H r n w/\∀H' l,Same H H'->H' l=some (.lst [.bl true,.int (n:Int),.str w])->Q (.ref l) H'
def spldue:Sp:=λ vs H Q _=>∃(s l:Addr) (qs ps:List Addr) (ds:List Stp) (Ss:List (List Int)) (mo:Int),vs=[.ref s,.ref l]/\H s=some (.tup (qs.map V.ref))/\StL H qs ds/\H l=some (.lst (ps.map V.ref))/\TpsM H ps Ss/\moOk mo/\GoodL mo ds Ss/\ds.length≤40/\∀H' x,Same H H'->H' x=some (.lst [.int (sumZ (callsI Ss) ds Ss ds.length),.int (sumZ madeI ds Ss ds.length)])->Q (.ref x) H'
theorem z9f {mo:Int}{ds:List Stp}{Ss:List (List Int)}{i:Nat}{d:Stp}(g:GoodL mo ds Ss) (e:ds[i]?=some d):∀a∈argsN d,a < Ss.length:=λ a ha=>by
 have il:=(List.getElem?_eq_some_iff.mp e).1
 rw [g.1] at il
 have:=y0m (g.2.2 i d _ e (List.getElem?_eq_getElem il)) a ha
 rw [List.length_take] at this
 omega
theorem x5d {d:Stp}{S:List Int}(h:kdN d=0):madeI d S=0:=if_pos h
theorem x5c {d:Stp}{S:List Int}(h:¬kdN d=0):madeI d S=prodI S:=if_neg h
theorem y0u {ps:List Addr}{i:Nat}{x:V}(e:(ps.map V.ref)[i]?=some x):∃p,x=.ref p/\ps[i]?=some p:=by
 rw [List.getElem?_map] at e
 cases hx:ps[i]? with
 | none=>rw [hx] at e;cases e
 | some n=>rw [hx] at e;cases e;exact ⟨n,rfl,rfl⟩
theorem x5g:∀i:Fin 15,((Str.ofString "each" == kindS i.val)=true\/(Str.ofString "pair" == kindS i.val)=true\/(Str.ofString "pick" == kindS i.val)=true\/(Str.ofString "fetch" == kindS i.val)=true) ↔ (i.val=3\/i.val=4\/i.val=5\/i.val=12):=by decide +kernel
theorem x5h:∀i:Fin 15,((Str.ofString "fold" == kindS i.val)=true\/(Str.ofString "run" == kindS i.val)=true) ↔ (i.val=13\/i.val=14):=by decide +kernel
def kd4 (d:Stp):Prop:=kdN d=3\/kdN d=4\/kdN d=5\/kdN d=12
def kd2 (d:Stp):Prop:=kdN d=13\/kdN d=14
theorem x4l (d:Stp):((Str.ofString "each" == kindS (kdN d))=true\/(Str.ofString "pair" == kindS (kdN d))=true\/(Str.ofString "pick" == kindS (kdN d))=true\/(Str.ofString "fetch" == kindS (kdN d))=true) ↔ kd4 d:=x5g ⟨kdN d,z2n d⟩
theorem x4m (d:Stp):((Str.ofString "fold" == kindS (kdN d))=true\/(Str.ofString "run" == kindS (kdN d))=true) ↔ kd2 d:=x5h ⟨kdN d,z2n d⟩
theorem y9w {Ss:List (List Int)}{S:List Int}{d:Stp}(h:kd4 d):callsI Ss d S=prodI S:=by
 unfold kd4 at h
 cases d<;>first | rfl | exact absurd h (by simp [kdN])
theorem y9x {d:Stp}(h:kd2 d):∃w a sd,d=.fold w a sd\/d=.run w a sd:=by
 unfold kd2 at h
 cases d<;>first | exact ⟨_,_,_,.inl rfl⟩ | exact ⟨_,_,_,.inr rfl⟩ | exact absurd h (by simp [kdN])
theorem y9y {Ss:List (List Int)}{S:List Int}{d:Stp}(h:¬kd4 d) (h2:¬kd2 d):callsI Ss d S=0:=by
 unfold kd4 at h
 unfold kd2 at h2
 cases d<;>first | rfl | (refine absurd ?_ h;simp [kdN];done) | (refine absurd ?_ h2;simp [kdN];done)
theorem z8s {H:Hp}{p:Addr}{w:Str}{a:Nat}{sd:Int}{d:Stp}(h:StpAt H p d) (e:d=.fold w a sd\/d=.run w a sd):∃nm,H p=some (.tup [.str nm,.str w,.int a,.int sd]):=by
 rcases e with rfl | rfl
 ·exact ⟨_,h⟩
 ·exact ⟨_,h⟩
theorem z6j {Ss:List (List Int)}{S A:List Int}{w:Str}{a:Nat}{sd:Int}{d:Stp}(e:d=.fold w a sd\/d=.run w a sd) (eA:Ss[a]?=some A):callsI Ss d S=prodI A:=by
 rcases e with rfl | rfl<;>(show prodI (Ss.getD a [])=_;rw [List.getD_eq_getElem?_getD,eA];rfl)
theorem z8t {w:Str}{a:Nat}{sd:Int}{d:Stp}(e:d=.fold w a sd\/d=.run w a sd):a∈argsN d:=by rcases e with rfl | rfl<;>exact List.mem_singleton.mpr rfl
theorem x5i (ns:List Int) (k:Nat):∃ms:List Int,cutV (ns.map V.int) (some (k:Int)) (some ((k:Int)+16))=ms.map V.int/\ms.length≤16:=by
 refine ⟨(ns.drop (min k ns.length)).take (min (k+16) ns.length - min k ns.length),?_,?_⟩
 ·unfold cutV
  simp only [HT.sIx,z0v]
  rw [if_neg (by omega),if_neg (by omega),List.map_take,List.map_drop]
  rfl
 ·rw [List.length_take,List.length_drop];omega
theorem x1n (k:Int) (h0:0≤k) (h1:k < 4):∃x:Int,atI [V.int 24,V.int 512,V.int 60,V.int 8] k=some (.int x)/\moOk x:=by
 obtain ⟨j,rfl⟩:∃j:Nat,k=j:=⟨k.toNat,by omega⟩
 match j,h1 with
 | 0,_=>exact ⟨_,rfl,by decide,by decide⟩
 | 1,_=>exact ⟨_,rfl,by decide,by decide⟩
 | 2,_=>exact ⟨_,rfl,by decide,by decide⟩
 | 3,_=>exact ⟨_,rfl,by decide,by decide⟩
 | m+4,h1=>exact absurd (Int.ofNat_lt.mp h1) (Nat.not_lt.mpr (Nat.le_add_left ..))
def splfine:Sp:=λ vs H Q _=>∃(a:Addr) (cs:List Int) (mo:Int),vs=[.ref a,.int mo]/\H a=some (.lst (cs.map V.int))/\cs.length≤16/\moOk mo/\∀H',Same H H'->Q (.bl true) H'
theorem StL.apnd {H:Hp}{qs rs:List Addr}{ds es:List Stp}(a:StL H qs ds) (b:StL H rs es):StL H (qs++rs) (ds++es):=by
 refine ⟨by rw [List.length_append,List.length_append,a.1,b.1],λ i p e=>?_⟩
 by_cases c:i < qs.length
 ·rw [List.getElem?_append_left c] at e
  obtain ⟨d,e1,h1⟩:=a.2 i p e
  exact ⟨d,by rw [List.getElem?_append_left (by rw [← a.1];exact c)];exact e1,h1⟩
 ·rw [List.getElem?_append_right (by omega)] at e
  obtain ⟨d,e1,h1⟩:=b.2 _ p e
  exact ⟨d,by rw [List.getElem?_append_right (by rw [← a.1];omega),← a.1];exact e1,h1⟩
theorem StL.rep {H:Hp}{p:Addr}{d:Stp}(h:StpAt H p d) (n:Nat):StL H (List.replicate n p) (List.replicate n d):=by
 refine ⟨by simp,λ i q e=>?_⟩
 obtain ⟨il,rfl⟩:=List.getElem?_eq_some_iff.mp e
 rw [List.length_replicate] at il
 refine ⟨d,by rw [List.getElem?_replicate,if_pos il],?_⟩
 rw [List.getElem_replicate]
 exact h
theorem z8q {mo:Int}{ds:List Stp}{Ss:List (List Int)}(g:GoodL mo ds Ss) (m:moOk mo):∀n:Nat,GoodL mo (ds++List.replicate n (.num 1)) (Ss++List.replicate n [])
 | 0=>by simpa using g
 | n+1=>by
  rw [List.replicate_succ',List.replicate_succ',← List.append_assoc,← List.append_assoc]
  exact z5k (z8q g m n) (d:=.num 1) (S:=[]) rfl (z4e m)
theorem eq2 (a b:Int):eqVs [V.int a,V.int b] [V.int a,V.int b]=true:=by simp [eqVs,eqV]
theorem eq3 (n:Int) (w:Str):eqVs [V.bl true,V.int n,V.str w] [V.bl true,V.int n,V.str w]=true:=by simp [eqVs,eqV]
theorem x4h {G:Hp}{r st ot:Addr}{qs:List Addr}{ds:List Stp}{Ss:List (List Int)}{mo:Int}(hmo:moOk mo) (h5:GoodL mo ds Ss) (l:ds.length≤40) (hr:G r=some (.tup [.ref st,.ref ot])) (h1:G st=some (.tup (qs.map V.ref))) (h3:StL G qs ds) (ho:G ot=some (.tup [])):BadP G r ds.length (Str.ofString "out") :=
 ⟨mo,ds,Ss,hmo,h5,rfl,l,.inr ⟨⟨st,ot,qs,hr,h1,h3,ho⟩,rfl⟩⟩
theorem y9z {G:Hp}{r st ot pd:Addr}{qs:List Addr}{ds:List Stp}{Ss:List (List Int)}{mo:Int}{d:Stp}{w:Str}{os:List Int}(hmo:moOk mo) (h5:GoodL mo ds Ss) (l:ds.length≤40) (hr:G r=some (.tup [.ref st,.ref ot])) (h1:G st=some (.tup (qs.map V.ref++[V.ref pd]))) (h3:StL G qs ds) (hd:StpAt G pd d) (ho:G ot=some (.tup (os.map V.int))) (f:FltS Ss d w):BadP G r ds.length w :=
 ⟨mo,ds,Ss,hmo,h5,rfl,l,.inl ⟨d,[],os,⟨st,ot,qs++[pd],hr,by rw [h1,List.map_append];rfl,h3.apnd (StL.rep hd 1),ho⟩,f⟩⟩
theorem x2a {G:Hp}{r st ot pd:Addr}{qs:List Addr}{ds:List Stp}{Ss:List (List Int)}{mo:Int}{os:List Int}{n:Nat}(hmo:moOk mo) (h5:GoodL mo ds Ss) (l:ds.length+n=40) (hr:G r=some (.tup [.ref st,.ref ot])) (h1:G st=some (.tup (qs.map V.ref++(List.replicate (n+1) pd).map V.ref))) (h3:StL G qs ds) (hd:StpAt G pd (.num 1)) (ho:G ot=some (.tup (os.map V.int))):BadP G r 40 (Str.ofString "many"):=by
 have e:(ds++List.replicate n (Stp.num 1)).length=40:=by rw [List.length_append,List.length_replicate];exact l
 refine ⟨mo,ds++List.replicate n (.num 1),Ss++List.replicate n [],hmo,z8q h5 hmo n,e,by omega,.inl ⟨.num 1,[],os,⟨st,ot,qs++List.replicate (n+1) pd,hr,by rw [h1,List.map_append],?_,ho⟩,.inl ⟨?_,rfl⟩⟩⟩
 ·have z:=h3.apnd (StL.rep hd (n+1))
  rw [List.replicate_succ' (a:=Stp.num 1),← List.append_assoc] at z
  exact z
 ·rw [List.length_append,List.length_replicate,← h5.1];omega
theorem x4v {H:Hp}{p d:Addr}{n:Nat}{Q:VK}(hp:H p=some (.tup [V.ref d])) (hn:n≤63) (q:∀r H',Same H H'->H' r=some (.tup ((List.replicate n d).map V.ref))->Q (.ref r) H'):rRepT (V.ref p) (V.int (n:Int)) H Q:=by
 refine ⟨p,_,_,rfl,rfl,hp,by simp,⟨by omega,by omega⟩,?_,λ e=>?_,λ e r hr=>?_⟩
 ·rw [Int.toNat_natCast];exact small (by simp;omega)
 ·have e:n=1:=by omega
  subst e
  exact q p H (Same.refl _) hp
 ·refine q r _ (z0b hr _) ?_
  rw [z0f,Int.toNat_natCast]
  congr 2
  rw [List.map_replicate]
  clear hn e hr q
  induction n with
  | zero=>rfl
  | succ n ih=>rw [List.replicate_succ,List.replicate_succ,List.flatten_cons,ih];rfl
abbrev slawnumber:Stmt:=top 63
def splawnumber:Sp:=λ vs H Q _=>∃n:Int,vs=[.int n]/\∀H',Same H H'->Q (.int (numI n)) H'
theorem z9o:FnScope ["n"] ["n"] (defScope slawnumber):=⟨rfl,rfl,rfl,by decide +kernel,rfl,by decide +kernel,by decide +kernel⟩
theorem y0g (F:Fun K "_law_number" "_law_number" slawnumber f fd):FnOk P w K mg base CX0 (1) f fd ["n"] (splawnumber):=by
 have sc:=z9o
 refine F.ok sc (λ vs H Q E h=>?_) (λ cdv A outer s H vs Q E hr h=>?_)
 ·obtain ⟨n,rfl,_⟩:=h;rfl
 obtain ⟨n,rfl,q⟩:=h
 refine ⟨_,(z0d (z0z (z0i z1f (z0s z1x (pv 0) z0e) z0e (z0n _)) (z0g (z0l (z0u y0o (z1w (z0a (y3w z7p (z0s z5e z0e z0e)) (z0a (z0s z3b (z0s z5e z0e z0e) z0e) (z0a (y3w z7p z0e) (z0a (z0s z5e z0e z0e) z0c))))) (z0s z1x (z0s z2j (pv 0) z0e) z0e) (λ _ _=>rfl)))) z0k) (z0g (z0l (z0s z3b (z0s z1x (z0s z1y (pv 0) (z0s z5e z0e z0e)) (z0s z5e z0e z0e)) (z0s z5e z0e z0e))))),?_⟩
 wp_walk using rRepT,tSeq,tIfS
 unfold numI at q
 by_cases c1:n % 17=5
 ·rw [if_pos c1]
  rw [if_pos c1] at q
  refine ⟨small (by decide),λ p hp=>⟨_,.of z0f,_,?_,q _ (z0b hp _)⟩⟩
  exact y1j (r:=[-9223372036854775808,9223372036854775807,-1,4611686018427387904]) (by omega) (by rw [List.getD_eq_getElem?_getD,List.getElem?_eq_getElem (show _ < 4 by omega)];rfl)
 ·rw [if_neg c1]
  rw [if_neg c1] at q
  exact q _ (Same.refl _)
abbrev slawsize:Stmt:=top 61
def splawsize:Sp:=λ vs H Q _=>∃(a:Addr) (ns:List Int),vs=[.ref a]/\(H a=some (.lst (ns.map V.int))\/H a=some (.tup (ns.map V.int)))/\sdOk ns/\Q (.int (prodI ns)) H
theorem y3d:FnScope ["sides", "size", "length"] ["sides"] (defScope slawsize):=⟨rfl,rfl,rfl,by decide +kernel,rfl,by decide +kernel,by decide +kernel⟩
theorem y4m (F:Fun K "_law_size" "_law_size" slawsize f fd):FnOk P w K mg base CX0 (1) f fd ["sides"] (splawsize):=by
 have sc:=y3d
 refine F.ok sc (λ vs H Q E h=>?_) (λ cdv A outer s H vs Q E hr h=>?_)
 ·obtain ⟨a,ns,rfl,_⟩:=h;rfl
 obtain ⟨a,ns,rfl,ha,sd,q⟩:=h
 refine ⟨_,(z0d (z0x (i:=1) sc.nd rfl (by first | exact Or.inl rfl | exact Or.inr rfl) z0e) (z0d (z3g PassesOwn.never rfl (x2t (pv 0)) (z1d (i:=2) sc.nd rfl (Or.inl rfl)) (z0g (z0x (i:=1) sc.nd rfl (by first | exact Or.inl rfl | exact Or.inr rfl) (z0s z4o (pv 1) (pv 2))))) (z0g (z0l (pv 1))))),?_⟩
 simp only [L2.start,List.length_cons,List.length_nil,List.replicate,List.cons_append,List.nil_append,Nat.reduceSub,Nat.reduceAdd,List.map_cons,List.map_nil]
 wp_walk using rRepT,tSeq,tIfS
 rcases ha with ha | ha
 ·left
  refine LoopL.mk (xs:=ns.map V.int) (.of ha) (λ i σ G=>G=H/\∃y,σ=[some (.ref a),some (.int (prodI (ns.take i))),y]) ⟨rfl,_,rfl⟩ (λ i σ G _ h=>by rw [h.1];exact .of ha) (λ i x σ G e h=>?_) (λ σ G h=>?_)
  ·obtain ⟨rfl,y,rfl⟩:=h
   obtain ⟨m,rfl,hm,b0,b1⟩:=y1r sd e
   have e1:prodI (ns.take (i+1))=prodI (ns.take i) * m:=by rw [List.take_add_one,hm];exact z6x _ _
   wp_walk using rRepT,tSeq,tIfS,e1
   exact ⟨.inr ⟨by omega,by omega⟩,_,rfl⟩
  ·obtain ⟨rfl,y,rfl⟩:=h
   rw [z0v,List.take_length]
   wp_walk using rRepT,tSeq,tIfS
   exact q
 ·right
  refine LoopT.mk (xs:=ns.map V.int) (.of ha) (λ i σ G=>G=H/\∃y,σ=[some (.ref a),some (.int (prodI (ns.take i))),y]) ⟨rfl,_,rfl⟩ (λ i σ G _ h=>by rw [h.1];exact .of ha) (λ i x σ G e h=>?_) (λ σ G h=>?_)
  ·obtain ⟨rfl,y,rfl⟩:=h
   obtain ⟨m,rfl,hm,b0,b1⟩:=y1r sd e
   have e1:prodI (ns.take (i+1))=prodI (ns.take i) * m:=by rw [List.take_add_one,hm];exact z6x _ _
   wp_walk using rRepT,tSeq,tIfS,e1
   exact ⟨.inr ⟨by omega,by omega⟩,_,rfl⟩
  ·obtain ⟨rfl,y,rfl⟩:=h
   rw [z0v,List.take_length]
   wp_walk using rRepT,tSeq,tIfS
   exact q
abbrev slawwide:Stmt:=top 62
def splawwide:Sp:=λ vs H Q _=>∃(a:Addr) (ns:List Int),vs=[.ref a]/\Tp H a ns/\sdOk ns/\ns.length≤500/\∀H',Same H H'->Q (.int (prodI (ns.map one1))) H'
theorem y3b:FnScope ["sides"] ["sides"] (defScope slawwide):=⟨rfl,rfl,rfl,by decide +kernel,rfl,by decide +kernel,by decide +kernel⟩
theorem y4k (F:Fun K "_law_wide" "_law_wide" slawwide f fd) (clawsize:Callee P w K mg base CX0 (1) "_law_size" ["sides"] splawsize) (zmax:mg "max" = none):FnOk P w K mg base CX0 (2) f fd ["sides"] (splawwide):=by
 have sc:=y3b
 refine F.ok sc (λ vs H Q E h=>?_) (λ cdv A outer s H vs Q E hr h=>?_)
 ·obtain ⟨a,ns,rfl,_⟩:=h;rfl
 obtain ⟨a,ns,rfl,ha,sd,l5,q⟩:=h
 refine ⟨_,(z0g (z0l (z0r clawsize hr (by rfl) z1h (z0a (z6z (own:=["length"]) rfl (z3y (pv 0)) (by decide) (by decide) rfl (by decide) (λ _ _ _ _=>(z1d (i:=0) (show (["length"]:List Str).Nodup by decide +kernel) rfl (Or.inl rfl))) (λ _ _ _ _=>(z0o (z4f rfl) (by rfl) zmax boot_max (z0a z0e (z0a (pv 0) z0c))))) z0c)))),?_⟩
 simp only [L2.start,List.length_cons,List.length_nil,List.replicate,List.cons_append,List.nil_append,Nat.reduceSub,Nat.reduceAdd,List.map_cons,List.map_nil]
 wp_walk using rRepT,tSeq,tIfS,splawsize
 refine CompT.mk (xs:=ns.map V.int) (.of ha) (λ i ys σ G=>G=H/\ys=((ns.map one1).take i).map V.int/\i≤ns.length/\∃y,σ=[y]) ⟨rfl,rfl,Nat.zero_le _,_,rfl⟩ (λ i ys σ G _ h=>by rw [h.1];exact .of ha) (λ i x ys σ G ex h=>?_) (λ ys σ G h p1 hp1=>?_)
 ·obtain ⟨rfl,rfl,hi,y,rfl⟩:=h
  obtain ⟨n,rfl,hn,n0,n1⟩:=y1r sd ex
  have il:=(List.getElem?_eq_some_iff.mp hn).1
  have e1:((ns.map one1).take (i+1)).map V.int=((ns.map one1).take i).map V.int++[V.int (one1 n)]:=by rw [List.take_add_one,List.getElem?_map,hn,List.map_append];rfl
  refine ⟨by rw [List.length_map,List.length_take,List.length_map];exact z1b (by omega),?_⟩
  wp_walk using rRepT,tSeq,tIfS,y1b n0
  exact ⟨e1.symm,il,_,rfl⟩
 ·obtain ⟨rfl,rfl,hi,y,rfl⟩:=h
  rw [z0v,List.take_of_length_le (by rw [List.length_map];exact Nat.le_refl _)]
  exact ⟨p1,rfl,_,.inl z0f,y9o sd,q _ (z0b hp1 _)⟩
abbrev slawrecent:Stmt:=top 64
def splawrecent:Sp:=λ vs H Q _=>∃(a:Addr) (ks:List Int) (d:Int),vs=[.ref a,.int d]/\H a=some (.lst (ks.map V.int))/\0 < ks.length/\∀k∈ks,Q (.int k) H
theorem z9n:FnScope ["pool", "d"] ["pool", "d"] (defScope slawrecent):=⟨rfl,rfl,rfl,by decide +kernel,rfl,by decide +kernel,by decide +kernel⟩
theorem y0f (F:Fun K "_law_recent" "_law_recent" slawrecent f fd) (zlen:mg "len" = none) (zmin:mg "min" = none):FnOk P w K mg base CX0 (1) f fd ["pool", "d"] (splawrecent):=by
 have sc:=z9n
 refine F.ok sc (λ vs H Q E h=>?_) (λ cdv A outer s H vs Q E hr h=>?_)
 ·obtain ⟨a,ks,d,rfl,_⟩:=h;rfl
 obtain ⟨a,ks,d,rfl,ha,l0,q⟩:=h
 refine ⟨_,(z0d (z0z (z0i z1f (z0s z1x (pv 1) z0e) z0e (z0n _)) (z0g (z0l (z0u z0q (pv 0) (z0s z2c (z0s z2j (pv 1) z0e) (z0o z0j (by rfl) zlen PySem.boot_len (z0a (pv 0) z0c))) (λ _ _=>rfl)))) z0k) (z0g (z0l (z0u z0q (pv 0) (z0s z3b (z0s z3b (z0o z0j (by rfl) zlen PySem.boot_len (z0a (pv 0) z0c)) z0e) (z0s z2c (z0s z2j (pv 1) z0e) (z0o (z2t rfl) (by rfl) zmin boot_min (z0a z0e (z0a (z0o z0j (by rfl) zlen PySem.boot_len (z0a (pv 0) z0c)) z0c))))) (λ _ _=>rfl))))),?_⟩
 simp only [L2.start,List.length_cons,List.length_nil,List.replicate,List.cons_append,List.nil_append,Nat.reduceSub,Nat.reduceAdd,List.map_cons,List.map_nil]
 wp_walk using rRepT,tSeq,tIfS
 have l1:(0:Int) < ks.length:=by omega
 split
 ·refine ⟨_,.inl (.of ha),?_⟩
  rw [z0v]
  have m0:=Int.fmod_nonneg_of_pos (d / 3) l1
  have m1:=Int.fmod_lt_of_pos (d / 3) l1
  exact ⟨by omega,_,ha,_,y1j m0 (z4r (x2h m0 m1)),q _ (z3j (x2h m0 m1))⟩
 ·refine ⟨_,.inl (.of ha),_,.inl (.of ha),?_⟩
  rw [z0v]
  have c3:0 < (if (ks.length:Int) < 3 then (ks.length:Int) else 3)/\(if (ks.length:Int) < 3 then (ks.length:Int) else 3)≤ks.length:=by split<;>omega
  generalize (if (ks.length:Int) < 3 then (ks.length:Int) else 3)=c at *
  have m0:=Int.fmod_nonneg_of_pos (d / 3) c3.1
  have m1:=Int.fmod_lt_of_pos (d / 3) c3.1
  generalize (d / 3).fmod c=r at *
  exact ⟨by omega,_,ha,_,y1j (i:=(ks.length:Int) - 1 - r) (by omega) (z4r (by omega)),q _ (z3j (by omega))⟩
abbrev slawled:Stmt:=top 66
def splawled:Sp:=λ vs H Q _=>∃(a b:Addr) (ns ms:List Int),vs=[.ref a,.ref b]/\Tp H a ns/\Tp H b ms/\∀H' b,Same H H'->(b=true ↔ pairOk ns ms)->Q (.bl b) H'
theorem y6v:FnScope ["one", "other", "least"] ["one", "other"] (defScope slawled):=⟨rfl,rfl,rfl,by decide +kernel,rfl,by decide +kernel,by decide +kernel⟩
theorem y7r (F:Fun K "_law_led" "_law_led" slawled f fd) (zmin:mg "min" = none) (zlen:mg "len" = none):FnOk P w K mg base CX0 (1) f fd ["one", "other"] (splawled):=by
 have sc:=y6v
 refine F.ok sc (λ vs H Q E h=>?_) (λ cdv A outer s H vs Q E hr h=>?_)
 ·obtain ⟨a,b,ns,ms,rfl,_⟩:=h;rfl
 obtain ⟨a,b,ns,ms,rfl,ha,hb,q⟩:=h
 refine ⟨_,(z0d (z0x (i:=2) sc.nd rfl (by first | exact Or.inl rfl | exact Or.inr rfl) (z0o (z2t rfl) (by rfl) zmin boot_min (z0a (z0o z0j (by rfl) zlen PySem.boot_len (z0a (pv 0) z0c)) (z0a (z0o z0j (by rfl) zlen PySem.boot_len (z0a (pv 1) z0c)) z0c)))) (z0g (z0l (z4h (y4h hr.units0) (z1i z1u (pv 0) z1o (z1k (pv 2))) (z1i z1u (pv 1) z1o (z1k (pv 2))) (z0n _))))),?_⟩
 simp only [L2.start,List.length_cons,List.length_nil,List.replicate,List.cons_append,List.nil_append,Nat.reduceSub,Nat.reduceAdd,List.map_cons,List.map_nil]
 wp_walk using rRepT,tSeq,tIfS
 refine ⟨_,.inr (.of ha),_,.inr (.of hb),?_⟩
 rw [z0v,z0v]
 by_cases c:ms.length < ns.length
 ·rw [if_pos (Int.ofNat_lt.mpr c)]
  refine ⟨_,ha,λ r1 H1 s1 h1=>⟨_,s1 _ _ hb,λ r2 H2 s2 h2=>?_⟩⟩
  rw [z2k] at h1 h2
  refine ⟨_,.of (s2 _ _ h1),_,.of h2,z1j _,z1j _,q _ _ (s1.trans s2) ?_⟩
  rw [z2b,decide_eq_true_iff]
  exact x0v c
 ·rw [if_neg (λ z=>c (Int.ofNat_lt.mp z))]
  refine ⟨_,ha,λ r1 H1 s1 h1=>⟨_,s1 _ _ hb,λ r2 H2 s2 h2=>?_⟩⟩
  rw [z2k] at h1 h2
  refine ⟨_,.of (s2 _ _ h1),_,.of h2,z1j _,z1j _,q _ _ (s1.trans s2) ?_⟩
  rw [z2b,decide_eq_true_iff]
  exact x0w c
abbrev slawbegun:Stmt:=top 65
def splawbegun:Sp:=λ vs H Q _=>∃(kd n cell mo:Int),vs=[.int kd,.int n,.int cell,.int mo]/\moOk mo/\∀H' r,Same H H'->(∀Ss,MadeAt H' r mo Ss)->Q (.ref r) H'
theorem y1x:FnScope ["kind", "n", "cell", "most", "made", "part", "k", "free", "length"] ["kind", "n", "cell", "most"] (defScope slawbegun):=⟨rfl,rfl,rfl,by decide +kernel,rfl,by decide +kernel,by decide +kernel⟩
theorem y2h (F:Fun K "_law_begun" "_law_begun" slawbegun f fd) (clawnumber:Callee P w K mg base CX0 (2) "_law_number" ["n"] splawnumber) (clawwide:Callee P w K mg base CX0 (2) "_law_wide" ["sides"] splawwide) (zrange:mg "range" = none) (zmin:mg "min" = none) (zlen:mg "len" = none):FnOk P w K mg base CX0 (3) f fd ["kind", "n", "cell", "most"] (splawbegun):=by
 have sc:=y1x
 refine F.ok sc (λ vs H Q E h=>?_) (λ cdv A outer s H vs Q E hr h=>?_)
 ·obtain ⟨kd,n,cell,mo,rfl,_⟩:=h;rfl
 obtain ⟨kd,n,cell,mo,rfl,hmo,q⟩:=h
 refine ⟨_,(z0d (z0z (z0i z1f (pv 0) z0e (z0n _)) (z0g (z0l (z0w (z0a (z0w (z0a z0p (z0a (z0r clawnumber hr (by rfl) z1h (z0a (pv 2) z0c)) z0c))) (z0a (z0w z0c) z0c))))) z0k) (z0d (z0x (i:=4) sc.nd rfl (by first | exact Or.inl rfl | exact Or.inr rfl) (z0w z0c)) (z0d (z0x (i:=5) sc.nd rfl (by first | exact Or.inl rfl | exact Or.inr rfl) (z0s z2j (pv 1) z0e)) (z0d (z3g PassesOwn.never rfl (z3a (by rfl) zrange (z0a (z0s z1x (pv 5) z0e) z0c)) (z1d (i:=6) sc.nd rfl (Or.inl rfl)) (z0d (z0x (i:=5) sc.nd rfl (by first | exact Or.inl rfl | exact Or.inr rfl) (z0s z2j (pv 5) z0e)) (z0d (z0x (i:=7) sc.nd rfl (by first | exact Or.inl rfl | exact Or.inr rfl) (z0s z4b (pv 3) (z0r clawwide hr (by rfl) z1h (z0a (pv 4) z0c)))) (z0d (z0x (i:=8) sc.nd rfl (by first | exact Or.inl rfl | exact Or.inr rfl) (z0o (z2t rfl) (by rfl) zmin boot_min (z0a (z0u z0q (z1w (z0a z0e (z0a z0e (z0a z0e (z0a z0e (z0a z0e (z0a z0e (z0a z0e z0c)))))))) (z0s z1x (pv 5) z0e) (λ _ _=>rfl)) (z0a (pv 7) z0c)))) (z0d (z0z (z0i z1f (z0s z1x (pv 5) z0e) z0e (z0n _)) (z0g (z0x (i:=8) sc.nd rfl (by first | exact Or.inl rfl | exact Or.inr rfl) (pv 7))) z0k) (z0g (z0x (i:=4) sc.nd rfl (by first | exact Or.inl rfl | exact Or.inr rfl) (z0s z1s (pv 4) (z0w (z0a (pv 8) z0c)))))))))) (z0d (z0z (z0i z1f (pv 0) z0e (z0n _)) (z0g (z0l (z0w (z0a (z0w (z0a z0p (z0a (pv 4) z0c))) (z0a (pv 4) z0c))))) z0k) (z0d (z0z (z0i (y4h hr.units0) (pv 4) (z0w z0c) (z0n _)) (z0g (z0x (i:=4) sc.nd rfl (by first | exact Or.inl rfl | exact Or.inr rfl) (z0w (z0a (z0o (z2t rfl) (by rfl) zmin boot_min (z0a z0e (z0a (pv 3) z0c))) z0c)))) z0k) (z0g (z0l (z0w (z0a (z0w (z0a z0p (z0a (pv 4) (z0a (z0s z2c (z0s z2j (pv 1) z0e) (z0o z0j (by rfl) zlen PySem.boot_len (z0a (pv 4) z0c))) z0c)))) (z0a (pv 4) z0c))))))))))),?_⟩
 simp only [L2.start,List.length_cons,List.length_nil,List.replicate,List.cons_append,List.nil_append,Nat.reduceSub,Nat.reduceAdd,List.map_cons,List.map_nil]
 refine z0h (λ σ G=>G=H/\σ=[some (.int kd),some (.int n),some (.int cell),some (.int mo),none,none,none,none,none]) ?_ (λ R hR=>?_)
 rotate_left
 ·wp_walk using rRepT,tSeq,tIfS,splawnumber
  split
  ·exact λ G sg=>⟨small (by decide),λ p hp=>⟨Nat.zero_le _,λ p1 hp1=>⟨small (by decide),λ p2 hp2=>q _ p2 (sg.trans ((z0b hp _).trans ((z0b hp1 _).trans (z0b hp2 _)))) λ Ss=>⟨p,p1,.num _,[],z0f,z0b hp2 _ _ _ (z0b hp1 _ _ _ z0f),z0b hp2 _ _ _ z0f,rfl,z4e hmo⟩⟩⟩⟩
  ·exact hR _ _ ⟨rfl,rfl⟩
 rintro σ1 G1 ⟨rfl,rfl⟩
 refine z0h (λ σ G=>∃p,Same G1 G/\Tp G p []/\σ=[some (.int kd),some (.int n),some (.int cell),some (.int mo),some (.ref p),none,none,none,none]) ?_ (λ R hR=>?_)
 rotate_left
 ·wp_walk using rRepT,tSeq,tIfS
  exact ⟨small (by decide),λ p hp=>hR _ _ ⟨p,z0b hp _,z0f,rfl⟩⟩
 rintro σ2 G2 ⟨p,s2,hp,rfl⟩
 refine z0h (λ σ G=>G=G2/\∃pt:Int,σ=[some (.int kd),some (.int n),some (.int cell),some (.int mo),some (.ref p),some (.int pt),none,none,none]) ?_ (λ R hR=>?_)
 rotate_left
 ·wp_walk using rRepT,tSeq,tIfS
  exact hR _ _ ⟨rfl,_,rfl⟩
 rintro σ3 G3 ⟨rfl,pt,rfl⟩
 refine z0h (λ σ G=>∃(p:Addr) (ms:List Int) (pt:Int) (y6 y7 y8:Option V),Same G1 G/\Tp G p ms/\fitM mo ms/\ms.length≤4/\σ=[some (.int kd),some (.int n),some (.int cell),some (.int mo),some (.ref p),some (.int pt),y6,y7,y8]) ?_ (λ R hR=>?_)
 rotate_left
 ·wp_walk using rRepT
  refine ⟨by omega,by omega,?_⟩
  obtain ⟨J,hJ⟩:∃J:Nat->L2.St->Hp->Prop,J=(λ i σ G=>∃(p:Addr) (ms:List Int) (pt:Int) (y6 y7 y8:Option V),Same G1 G/\Tp G p ms/\fitM mo ms/\ms.length=i/\σ=[some (.int kd),some (.int n),some (.int cell),some (.int mo),some (.ref p),some (.int pt),y6,y7,y8]):=⟨_,rfl⟩
  refine LoopR.mk J (by rw [hJ];exact ⟨p,[],pt,_,_,_,s2,hp,z4e hmo,rfl,rfl⟩) (λ i σ G0 hi h=>?_) (λ σ G h=>?_)
  rotate_left
  ·rw [hJ] at h
   obtain ⟨p,ms,pt',y6,y7,y8,sG,hp,hf,ml,rfl⟩:=h
   exact hR _ _ ⟨p,ms,pt',_,_,_,sG,hp,hf,by omega,rfl⟩
  clear hR
  rw [hJ] at h
  obtain ⟨p,ms,pt',y6,y7,y8,sG,hp,hf,ml,rfl⟩:=h
  have i4:i≤4:=by omega
  have sdm:sdOk ms:=λ n hn=>by have:=hf.1 n hn;have:=hmo.2;exact ⟨by omega,by omega⟩
  have pb:=hf.2.2
  simp only [gName,List.set_cons_succ,List.set_cons_zero]
  refine z0h (λ σ G=>G=G0/\∃pt:Int,σ=[some (.int kd),some (.int n),some (.int cell),some (.int mo),some (.ref p),some (.int pt),some (.int (0+(i:Int))),y7,y8]) ?_ (λ R hR=>?_)
  rotate_left
  ·wp_walk using rRepT,tSeq,tIfS
   exact hR _ _ ⟨rfl,_,rfl⟩
  rintro σ1 G1' ⟨rfl,pt,rfl⟩
  refine z0h (λ σ G=>Same G1' G/\σ=[some (.int kd),some (.int n),some (.int cell),some (.int mo),some (.ref p),some (.int pt),some (.int (0+(i:Int))),some (.int (mo / prodI (ms.map one1))),y8]) ?_ (λ R hR=>?_)
  rotate_left
  ·wp_walk using rRepT,tSeq,tIfS,splawwide
   have m2:=hmo.2
   refine ⟨ms,hp,sdm,by omega,λ G s=>⟨by omega,by omega,by omega,?_⟩⟩
   rw [Int.fdiv_eq_ediv_of_nonneg _ (by omega)]
   exact hR _ _ ⟨s,rfl⟩
  rintro σ2 G2' ⟨u2,rfl⟩
  have d1:1≤mo / prodI (ms.map one1):=z7m pb.1 pb.2
  have fs:=λ n=>z5l (n:=n) hf (by omega)
  generalize mo / prodI (ms.map one1)=fr at *
  refine z0h (λ σ G=>Same G2' G/\∃x:Int,0≤x/\x≤fr/\σ=[some (.int kd),some (.int n),some (.int cell),some (.int mo),some (.ref p),some (.int pt),some (.int (0+(i:Int))),some (.int fr),some (.int x)]) ?_ (λ R hR=>?_)
  rotate_left
  ·wp_walk using rRepT,tSeq,tIfS
   obtain ⟨x,hx,x0⟩:=x0g (pt % 7) (by omega) (by omega)
   exact ⟨small (by decide),λ l hl=>⟨_,hx,_,rfl,hR _ _ ⟨z0b hl _,_,by split<;>omega,by split<;>omega,rfl⟩⟩⟩
  rintro σ3 G3' ⟨u3,x,x0,x1,rfl⟩
  refine z0h (λ σ G=>G=G3'/\∃x:Int,0≤x/\x≤fr/\σ=[some (.int kd),some (.int n),some (.int cell),some (.int mo),some (.ref p),some (.int pt),some (.int (0+(i:Int))),some (.int fr),some (.int x)]) ?_ (λ R hR=>?_)
  rotate_left
  ·wp_walk using rRepT,tSeq,tIfS
   split
   ·exact hR _ _ ⟨rfl,_,by omega,Int.le_refl _,rfl⟩
   ·exact hR _ _ ⟨rfl,_,x0,x1,rfl⟩
  rintro σ4 G4' ⟨rfl,x,x0,x1,rfl⟩
  wp_walk using rRepT,tSeq,tIfS
  have hp4:=(u2.trans u3) _ _ hp
  refine ⟨small (by decide),λ t ht=>⟨_,z0b ht _ _ _ hp4,small (by rw [List.length_map];omega),λ r G s hr=>?_⟩⟩
  rw [hJ]
  exact ⟨r,ms++[x],_,_,_,_,sG.trans (u2.trans (u3.trans ((z0b ht _).trans s))),by show _=_;rw [hr,List.map_append];rfl,fs x x0 x1,by rw [List.length_append,ml];rfl,rfl⟩
 rintro σ4 G4 ⟨p,ms,pt,y6,y7,y8,s4,hp,hf,m4,rfl⟩
 refine z0h (λ σ G=>G=G4/\σ=[some (.int kd),some (.int n),some (.int cell),some (.int mo),some (.ref p),some (.int pt),y6,y7,y8]) ?_ (λ R hR=>?_)
 rotate_left
 ·wp_walk using rRepT,tSeq,tIfS
  split
  ·exact ⟨small (by decide),λ p1 hp1=>⟨small (by decide),λ p2 hp2=>q _ p2 (s4.trans ((z0b hp1 _).trans (z0b hp2 _))) λ Ss=>⟨p1,p,.inp ms,ms,z0f,⟨p,z0b hp2 _ _ _ z0f,z0b hp2 _ _ _ (z0b hp1 _ _ _ hp)⟩,z0b hp2 _ _ _ (z0b hp1 _ _ _ hp),⟨rfl,z4d (z3n hf hmo)⟩,hf⟩⟩⟩
  ·exact hR _ _ ⟨rfl,rfl⟩
 rintro σ5 G5 ⟨rfl,rfl⟩
 refine z0h (λ σ G=>∃(p:Addr) (ms:List Int),Same G1 G/\Tp G p ms/\fitM mo ms/\0 < ms.length/\σ=[some (.int kd),some (.int n),some (.int cell),some (.int mo),some (.ref p),some (.int pt),y6,y7,y8]) ?_ (λ R hR=>?_)
 rotate_left
 ·wp_walk using rRepT,tSeq,tIfS
  have m2:=hmo.1
  refine ⟨Nat.zero_le _,λ p1 hp1=>⟨_,.of (z0b hp1 _ _ _ hp),_,.of z0f,z1j _,rfl,?_⟩⟩
  rw [show ([]:List V)=([]:List Int).map V.int from rfl,z2b]
  by_cases c:ms=[]
  ·rw [decide_eq_true c,if_pos rfl]
   have x0:0≤(if mo < 3 then mo else 3)/\(if mo < 3 then mo else 3)≤mo:=by split<;>omega
   exact ⟨small (by decide),λ p2 hp2=>hR _ _ ⟨p2,[if mo < 3 then mo else 3],s4.trans ((z0b hp1 _).trans (z0b hp2 _)),z0f,z5l (ns:=[]) (z4e hmo) (by decide) x0.1 (by show _≤mo / 1;rw [Int.ediv_one];exact x0.2),Nat.zero_lt_succ _,rfl⟩⟩
  ·rw [decide_eq_false c,if_neg (by decide)]
   exact hR _ _ ⟨p,ms,s4.trans (z0b hp1 _),z0b hp1 _ _ _ hp,hf,List.length_pos_iff.mpr c,rfl⟩
 rintro σ6 G6 ⟨p,ms,s6,hp,hf,m0,rfl⟩
 wp_walk using rRepT,tSeq,tIfS
 refine ⟨_,.inr (.of hp),?_⟩
 rw [z0v]
 have f0:=Int.fmod_nonneg_of_pos (n / 15) (show (0:Int) < ms.length by omega)
 have f1:=Int.fmod_lt_of_pos (n / 15) (show (0:Int) < ms.length by omega)
 exact ⟨by omega,small (by decide),λ p1 hp1=>⟨small (by decide),λ p2 hp2=>q _ p2 (s6.trans ((z0b hp1 _).trans (z0b hp2 _))) λ Ss=>⟨p1,p,.count ms ((n / 15).fmod ms.length),ms,z0f,⟨p,z0b hp2 _ _ _ z0f,z0b hp2 _ _ _ (z0b hp1 _ _ _ hp)⟩,z0b hp2 _ _ _ (z0b hp1 _ _ _ hp),⟨rfl,z4d (z3n hf hmo),λ z=>by unfold off at z;omega⟩,hf⟩⟩⟩
abbrev slawlaid:Stmt:=top 68
def splawlaid:Sp:=λ vs H Q _=>∃(a:Addr) (ns:List Int) (d mo:Int),vs=[.ref a,.int d]/\Tp H a ns/\fitM mo ns/\moOk mo/\∀H' p,Same H H'->Tp H' p (laidL ns d)->Q (.ref p) H'
theorem y3e:FnScope ["own", "d", "size"] ["own", "d"] (defScope slawlaid):=⟨rfl,rfl,rfl,by decide +kernel,rfl,by decide +kernel,by decide +kernel⟩
theorem y4n (F:Fun K "_law_laid" "_law_laid" slawlaid f fd) (clawsize:Callee P w K mg base CX0 (1) "_law_size" ["sides"] splawsize) (zlen:mg "len" = none) (ztuple:mg "tuple" = none) (zreversed:mg "reversed" = none):FnOk P w K mg base CX0 (2) f fd ["own", "d"] (splawlaid):=by
 have sc:=y3e
 refine F.ok sc (λ vs H Q E h=>?_) (λ cdv A outer s H vs Q E hr h=>?_)
 ·obtain ⟨a,ns,d,mo,rfl,_⟩:=h;rfl
 obtain ⟨a,ns,d,mo,rfl,ha,hf,hmo,q⟩:=h
 refine ⟨_,(z0d (z0x (i:=2) sc.nd rfl (by first | exact Or.inl rfl | exact Or.inr rfl) (z0r clawsize hr (by rfl) z1h (z0a (pv 0) z0c))) (z0d (z0z (z0i z1f (z0s z1x (pv 1) z0e) z0e (z0n _)) (z0g (z0l (z0w (z0a (pv 2) z0c)))) z0k) (z0d (z0z (PW.pt (z5c (z0i z1f (z0s z1x (pv 1) z0e) z0e (z0n _)) (z3q (z0i z4a (z0o z0j (by rfl) zlen PySem.boot_len (z0a (pv 0) z0c)) z0e (z0n _))))) (z0g (z0l (z0s z1s (z0w (z0a z0e z0c)) (pv 0)))) z0k) (z0d (z0z (PW.pt (z5c (z0i z1f (z0s z1x (pv 1) z0e) z0e (z0n _)) (z3q (z0i z1f (z0s z1x (pv 2) z0e) z0e (z0n _))))) (z0g (z0l (z0w (z0a (z0s z2j (pv 2) z0e) (z0a z0e z0c))))) z0k) (z0g (z0l (y2a rfl (by rfl) (by rfl) ztuple zreversed (pv 0)))))))),?_⟩
 simp only [L2.start,List.length_cons,List.length_nil,List.replicate,List.cons_append,List.nil_append,Nat.reduceSub,Nat.reduceAdd,List.map_cons,List.map_nil]
 wp_walk using rRepT,tSeq,tIfS,splawsize
 refine ⟨ns,.inr ha,y5n hf hmo,?_⟩
 unfold laidL at q
 by_cases c1:d % 4=1
 ·rw [if_pos c1] at q ⊢
  exact ⟨small (by decide),λ p hp=>q _ p (z0b hp _) z0f⟩
 rw [if_neg c1] at q ⊢
 have rest:(∀H' p,Same H H'->Tp H' p (if d % 4=3/\prodI ns % 2=0 then [prodI ns / 2,2] else ns.reverse)->Q (.ref p) H')->(if d % 4=3 then (if prodI ns % 2=0 then 2≤sizeLine/\∀p,H p=none->Q (V.ref p) (upd H p (HO.tup [V.int (prodI ns / 2),V.int 2])) else ∃xs,SqT K H a xs/\∀p,H p=none->Q (V.ref p) (upd H p (HO.tup xs.reverse))) else ∃xs,SqT K H a xs/\∀p,H p=none->Q (V.ref p) (upd H p (HO.tup xs.reverse))):=λ q=>by
  by_cases c3:d % 4=3
  ·rw [if_pos c3]
   by_cases c4:prodI ns % 2=0
   ·rw [if_pos ⟨c3,c4⟩] at q
    rw [if_pos c4]
    exact ⟨small (by decide),λ p hp=>q _ p (z0b hp _) z0f⟩
   ·rw [if_neg (λ z=>c4 z.2)] at q
    rw [if_neg c4]
    exact ⟨_,.of ha,λ p hp=>q _ p (z0b hp _) (by show _=_;rw [z0f,List.map_reverse])⟩
  ·rw [if_neg (λ z=>c3 z.1)] at q
   rw [if_neg c3]
   exact ⟨_,.of ha,λ p hp=>q _ p (z0b hp _) (by show _=_;rw [z0f,List.map_reverse])⟩
 by_cases c2:d % 4=2
 ·rw [if_pos c2]
  refine ⟨_,.inr (.of ha),?_⟩
  rw [z0v]
  by_cases c6:ns.length < 6
  ·rw [if_pos ⟨c2,c6⟩] at q
   rw [if_pos (by omega)]
   exact ⟨small (by decide),λ p hp=>⟨_,z0b hp _ _ _ ha,small (by rw [List.length_map];omega),λ r G s hr=>q _ r ((z0b hp _).trans s) hr⟩⟩
  ·rw [if_neg (λ z=>c6 z.2)] at q
   rw [if_neg (by omega)]
   exact rest q
 ·rw [if_neg (λ z=>c2 z.1)] at q
  rw [if_neg c2]
  exact rest q
abbrev slawboth:Stmt:=top 70
def splawboth:Sp:=λ vs H Q _=>∃(a b:Addr) (A B:List Int) (k:Nat),vs=[.ref a,.ref b,.int (k:Int)]/\Tp H a A/\Tp H b B/\k < A.length/\A.length≤6/\B.length≤6/\∀H' p,Same H H'->Tp H' p (bothL A B k)->Q (.ref p) H'
theorem y3g:FnScope ["own", "other", "side"] ["own", "other", "side"] (defScope slawboth):=⟨rfl,rfl,rfl,by decide +kernel,rfl,by decide +kernel,by decide +kernel⟩
theorem y4p (F:Fun K "_law_both" "_law_both" slawboth f fd) (zlen:mg "len" = none):FnOk P w K mg base CX0 (1) f fd ["own", "other", "side"] (splawboth):=by
 have sc:=y3g
 refine F.ok sc (λ vs H Q E h=>?_) (λ cdv A outer s H vs Q E hr h=>?_)
 ·obtain ⟨a,b,A,B,k,rfl,_⟩:=h;rfl
 obtain ⟨a,b,A,B,k,rfl,ha,hb,kl,a6,b6,q⟩:=h
 refine ⟨_,(z0d (z0z (PW.pt (z5b (z0i y0b (z0o z0j (by rfl) zlen PySem.boot_len (z0a (pv 0) z0c)) (z0o z0j (by rfl) zlen PySem.boot_len (z0a (pv 1) z0c)) (z0n _)) (z3u (z0i (y0z hr.units0) (z0s z1s (z1i z1u (pv 0) z1o (z1k (pv 2))) (z1i z1u (pv 0) (z1k (z0s z1y (pv 2) z0e)) z1o)) (z0s z1s (z1i z1u (pv 1) z1o (z1k (pv 2))) (z1i z1u (pv 1) (z1k (z0s z1y (pv 2) z0e)) z1o)) (z0n _))))) (z0g (z0l (z0w z0c))) z0k) (z0g (z0l (z0s z1s (z0s z1s (z1i z1u (pv 0) z1o (z1k (pv 2))) (z0w (z0a (z0s z1y (z0u z0t (pv 0) (pv 2) (λ _ _=>rfl)) (z0u z0t (pv 1) (pv 2) (λ _ _=>rfl))) z0c))) (z1i z1u (pv 0) (z1k (z0s z1y (pv 2) z0e)) z1o))))),?_⟩
 simp only [L2.start,List.length_cons,List.length_nil,List.replicate,List.cons_append,List.nil_append,Nat.reduceSub,Nat.reduceAdd,List.map_cons,List.map_nil]
 refine z0h (λ σ G=>Same H G/\A.length=B.length/\A.eraseIdx k=B.eraseIdx k/\σ=[some (.ref a),some (.ref b),some (.int (k:Int))]) ?_ (λ R hR=>?_)
 rotate_left
 ·wp_walk using rRepT,tSeq,tIfS
  refine ⟨_,.inr (.of ha),_,.inr (.of hb),?_⟩
  rw [z0v,z0v]
  by_cases c:A.length=B.length
  rotate_left
  ·rw [if_pos (λ z=>c (Int.ofNat_inj.mp z))]
   exact ⟨Nat.zero_le _,λ p hp=>q _ p (z0b hp _) (by show _=_;unfold bothL;rw [if_neg (λ z=>c z.1)];exact z0f)⟩
  rw [if_neg (λ z=>z (by rw [c]))]
  refine ⟨_,ha,λ r1 H1 s1 h1=>⟨_,s1 _ _ ha,λ r2 H2 s2 h2=>?_⟩⟩
  rw [z2k] at h1
  rw [show (k:Int)+1=((k+1:Nat):Int) by omega,z2l] at h2
  refine ⟨_,s2 _ _ h1,_,h2,small (by simp only [List.length_map,List.length_take,List.length_drop];omega),λ r3 H3 s3 h3=>?_⟩
  have t3:=s1.trans (s2.trans s3)
  refine ⟨_,t3 _ _ hb,λ r4 H4 s4 h4=>⟨_,s4 _ _ (t3 _ _ hb),λ r5 H5 s5 h5=>?_⟩⟩
  rw [z2k] at h4
  rw [show (k:Int)+1=((k+1:Nat):Int) by omega,z2l] at h5
  refine ⟨_,s5 _ _ h4,_,h5,small (by simp only [List.length_map,List.length_take,List.length_drop];omega),λ r6 H6 s6 h6=>?_⟩
  rw [← List.map_append,← List.eraseIdx_eq_take_drop_succ] at h3 h6
  refine ⟨_,.of ((s4.trans (s5.trans s6)) _ _ h3),_,.of h6,z1j _,z1j _,?_⟩
  have t6:=t3.trans (s4.trans (s5.trans s6))
  rw [z2b]
  by_cases c2:A.eraseIdx k=B.eraseIdx k
  ·rw [decide_eq_true c2,if_neg (by decide)]
   exact hR _ _ ⟨t6,c,c2,rfl⟩
  ·rw [decide_eq_false c2,if_pos rfl]
   exact ⟨Nat.zero_le _,λ p hp=>q _ p (t6.trans (z0b hp _)) (by show _=_;unfold bothL;rw [if_neg (λ z=>c2 z.2)];exact z0f)⟩
 rintro σ1 G1 ⟨s1,c,c2,rfl⟩
 wp_walk using rRepT,tSeq,tIfS
 have ha1:=s1 _ _ ha
 have hb1:=s1 _ _ hb
 refine ⟨_,ha1,λ r1 H1 s2 h1=>?_⟩
 rw [z2k] at h1
 refine ⟨_,s2 _ _ ha1,_,z5o kl,_,s2 _ _ hb1,_,z5o (by omega),_,rfl,_,rfl,small (by decide),λ p hp=>⟨_,z0b hp _ _ _ h1,small (by simp only [List.length_map,List.length_take];omega),λ r2 H2 s3 h2=>?_⟩⟩
 have t3:=s2.trans ((z0b hp (.tup [V.int (A.getD k 0+B.getD k 0)])).trans s3)
 refine ⟨_,t3 _ _ ha1,λ r3 H3 s4 h3=>?_⟩
 rw [show (k:Int)+1=((k+1:Nat):Int) by omega,z2l] at h3
 refine ⟨_,s4 _ _ h2,_,h3,small (by simp only [List.length_append,List.length_map,List.length_take,List.length_drop,List.length_cons,List.length_nil];omega),λ r4 H4 s5 h4=>q _ r4 (s1.trans (t3.trans (s4.trans s5))) ?_⟩
 show _=_
 unfold bothL joinL
 rw [if_pos ⟨c,c2⟩,Int.toNat_natCast,h4,← y2w kl,List.map_append,List.map_append];rfl
abbrev slawmoved:Stmt:=top 69
theorem y1w:FnScope ["kind", "d", "a", "own", "most", "order", "part", "k", "place", "length", "side", "gap", "first", "many"] ["kind", "d", "a", "own", "most"] (defScope slawmoved):=⟨rfl,rfl,rfl,by decide +kernel,rfl,by decide +kernel,by decide +kernel⟩
theorem y2g (F:Fun K "_law_moved" "_law_moved" slawmoved f fd) (clawlaid:Callee P w K mg base CX0 (2) "_law_laid" ["own", "d"] splawlaid) (clawwide:Callee P w K mg base CX0 (2) "_law_wide" ["sides"] splawwide) (zrange:mg "range" = none) (zlen:mg "len" = none) (ztuple:mg "tuple" = none) (zmin:mg "min" = none) (zmax:mg "max" = none):FnOk P w K mg base CX0 (3) f fd ["kind", "d", "a", "own", "most"] ((splmoved K)):=by
 have sc:=y1w
 refine F.ok sc (λ vs H Q E h=>?_) (λ cdv A outer s H vs Q E hr h=>?_)
 ·obtain ⟨dl,o,kd,mo,d0,d1,d2,a,A,Ss,rfl,_⟩:=h;rfl
 obtain ⟨dl,o,kd,mo,d0,d1,d2,a,A,Ss,rfl,hd,ho,ea,hf,hmo,q⟩:=h
 refine ⟨_,(z0d (z0z (z0i z1f (pv 0) z0e (z0n _)) (z0d (z0x (i:=5) sc.nd rfl (by first | exact Or.inl rfl | exact Or.inr rfl) (z1w z0c)) (z0d (z0x (i:=6) sc.nd rfl (by first | exact Or.inl rfl | exact Or.inr rfl) (z0u z0q (pv 1) z0e (λ _ _=>rfl))) (z0d (z3g PassesOwn.never rfl (z3a (by rfl) zrange (z0a (z0o z0j (by rfl) zlen PySem.boot_len (z0a (pv 3) z0c)) z0c)) (z1d (i:=7) sc.nd rfl (Or.inl rfl)) (z0d (z1r (x4w PySem.F.plainAttrs_list PySem.F.slot_list_insert PySem.F.type_list_insert y5a (pv 5) (z0a (z0s z2c (pv 6) (z0s z1y (pv 7) z0e)) (z0a (pv 7) z0c)))) (z0g (z0x (i:=6) sc.nd rfl (by first | exact Or.inl rfl | exact Or.inr rfl) (z0s z4b (pv 6) (z0s z1y (pv 7) z0e)))))) (z0g (z0l (z0w (z0a (z0w (z0a z0p (z0a (pv 2) (z0a (z1l z1m (by rfl) ztuple boot_tuple (z0a (pv 5) z0c)) z0c)))) (z0a (z1l z1m (by rfl) ztuple boot_tuple (z0a (z3d (own:=["k"]) (fv:=["own"]) (js:=[3]) rfl (z2s (pv 5)) rfl (by decide) rfl (by decide) (by first | exact λ _ _ h=>h | exact z2h rfl | exact z2g rfl rfl | exact z2f rfl rfl rfl) (z2w (by rfl)) rfl (y9d (by first | exact ⟨rfl,.inl rfl,.inl rfl⟩ | exact ⟨rfl,.inl rfl,.inr rfl⟩)) (λ _ _ _ _=>(z1d (i:=0) (show (["k", "own"]:List Str).Nodup by decide +kernel) rfl (Or.inl rfl))) (λ _ _ _ _=>(z0u z0t (pv 1) (pv 0) (λ _ _=>rfl)))) z0c)) z0c)))))))) z0k) (z0d (z0z (z0i z1f (pv 0) z0e (z0n _)) (z0g (z0l (z0w (z0a (z0w (z0a z0p (z0a (pv 2) (z0a (z0r clawlaid hr (by rfl) z1h (z0a (pv 3) (z0a (z0u z0q (pv 1) z0e (λ _ _=>rfl)) z0c))) z0c)))) (z0a (z0r clawlaid hr (by rfl) z1h (z0a (pv 3) (z0a (z0u z0q (pv 1) z0e (λ _ _=>rfl)) z0c))) z0c))))) z0k) (z0d (z0z (PW.pt (z5b (z0i (y4h hr.units0) (pv 3) (z0w z0c) (z0n _)) (z3u (PW.pt (z5c (z0i z1f (pv 0) z0e (z0n _)) (z3q (z0i z4a (z0o z0j (by rfl) zlen PySem.boot_len (z0a (pv 3) z0c)) z0e (z0n _)))))))) (z0d (z0x (i:=8) sc.nd rfl (by first | exact Or.inl rfl | exact Or.inr rfl) (z0s z2c (z0u z0q (pv 1) z0e (λ _ _=>rfl)) (z0s z1y (z0o z0j (by rfl) zlen PySem.boot_len (z0a (pv 3) z0c)) z0e))) (z0d (z0x (i:=9) sc.nd rfl (by first | exact Or.inl rfl | exact Or.inr rfl) (z0s z1y z0e (z0s z2c (z0u z0q (pv 1) z0e (λ _ _=>rfl)) (z0o (z2t rfl) (by rfl) zmin boot_min (z0a z0e (z0a (z0s z4b (pv 4) (z0r clawwide hr (by rfl) z1h (z0a (pv 3) z0c))) z0c)))))) (z0d (z0z (z0i z1f (z0s z1x (z0u z0q (pv 1) z0e (λ _ _=>rfl)) z0e) z0e (z0n _)) (z0g (z0x (i:=9) sc.nd rfl (by first | exact Or.inl rfl | exact Or.inr rfl) z0e)) z0k) (z0g (z0l (z0w (z0a (z0w (z0a z0p (z0a (pv 2) (z0a (pv 8) (z0a (pv 9) z0c))))) (z0a (z0s z1s (z0s z1s (z1i z1u (pv 3) z1o (z1k (pv 8))) (z0w (z0a (pv 9) z0c))) (z1i z1u (pv 3) (z1k (pv 8)) z1o)) z0c)))))))) z0k) (z0d (z0x (i:=10) sc.nd rfl (by first | exact Or.inl rfl | exact Or.inr rfl) (z0s z2c (z0u z0q (pv 1) z0e (λ _ _=>rfl)) (z0o z0j (by rfl) zlen PySem.boot_len (z0a (pv 3) z0c)))) (z0d (z0z (z0i y0b (pv 0) z0e (z0n _)) (z0g (z0l (z0w (z0a (z0w (z0a z0p (z0a (pv 2) (z0a (pv 10) z0c)))) (z0a (pv 3) z0c))))) z0k) (z0d (z0x (i:=11) sc.nd rfl (by first | exact Or.inl rfl | exact Or.inr rfl) (z0s z1y z0e (z0s z1x (z0u z0q (pv 1) z0e (λ _ _=>rfl)) z0e))) (z0d (z0x (i:=12) sc.nd rfl (by first | exact Or.inl rfl | exact Or.inr rfl) (z0s z2c (z0s z2j (z0u z0q (pv 1) z0e (λ _ _=>rfl)) z0e) (z0o (z4f rfl) (by rfl) zmax boot_max (z0a z0e (z0a (z0u z0t (pv 3) (pv 10) (λ _ _=>rfl)) z0c))))) (z0d (z0x (i:=13) sc.nd rfl (by first | exact Or.inl rfl | exact Or.inr rfl) (z0o (z4f rfl) (by rfl) zmax boot_max (z0a z0e (z0a (z0s z3b (z0s z1y (z0s z4b (z0s z3b (z0s z3b (z0u z0t (pv 3) (pv 10) (λ _ _=>rfl)) z0e) (pv 12)) (pv 11)) z0e) (z0s z1x (z0s z2j (z0u z0q (pv 1) z0e (λ _ _=>rfl)) z0e) z0e)) z0c)))) (z0g (z0l (z0w (z0a (z0w (z0a z0p (z0a (pv 2) (z0a (pv 10) (z0a (pv 12) (z0a (pv 13) (z0a (pv 11) z0c))))))) (z0a (z0s z1s (z0s z1s (z1i z1u (pv 3) z1o (z1k (pv 10))) (z0w (z0a (pv 13) z0c))) (z1i z1u (pv 3) (z1k (z0s z1y (pv 10) z0e)) z1o)) z0c))))))))))))),?_⟩
 simp only [L2.start,List.length_cons,List.length_nil,List.replicate,List.cons_append,List.nil_append,Nat.reduceSub,Nat.reduceAdd,List.map_cons,List.map_nil]
 have a6:=hf.2.1
 have sd:=y5n hf hmo
 refine z0h (λ σ G=>G=H/\σ=[some (.int kd),some (.ref dl),some (.int (a:Int)),some (.ref o),some (.int mo),none,none,none,none,none,none,none,none,none]) ?_ (λ R hR=>?_)
 rotate_left
 ·wp_walk using rRepT,tSeq,tIfS
  split
  rotate_left
  ·exact hR _ _ ⟨rfl,rfl⟩
  refine ⟨Nat.zero_le _,λ l hl=>⟨_,z0b hl _ _ _ hd,_,z0m (j:=2) rfl,_,.inr (.of (z0b hl _ _ _ ho)),?_⟩⟩
  rw [z0v]
  refine ⟨by omega,by omega,?_⟩
  rw [Int.toNat_natCast]
  obtain ⟨J,hJ⟩:∃J:Nat->L2.St->Hp->Prop,J=(λ i σ G=>∃(os:List Int) (pt:V) (y:Option V),Same H G/\G l=some (.lst (os.map V.int))/\os.Perm (upL i)/\(∃n:Int,pt=.int n)/\σ=[some (.int kd),some (.ref dl),some (.int (a:Int)),some (.ref o),some (.int mo),some (.ref l),some pt,y,none,none,none,none,none,none]):=⟨_,rfl⟩
  refine LoopR.mk J (by rw [hJ];exact ⟨[],_,_,z0b hl _,z0f,List.Perm.refl _,⟨_,rfl⟩,rfl⟩) (λ i σ G hi h=>?_) (λ σ G h=>?_)
  ·rw [hJ] at h
   obtain ⟨os,pt,y,sG,hos,pm,⟨n,rfl⟩,rfl⟩:=h
   have ol:os.length=i:=by rw [pm.length_eq,z4w]
   wp_walk using rRepT,tSeq,tIfS,Int.zero_add
   have f0:=Int.fmod_nonneg_of_pos n (show (0:Int) < (i:Int)+1 by omega)
   have f1:=Int.fmod_lt_of_pos n (show (0:Int) < (i:Int)+1 by omega)
   refine ⟨.inl ⟨_,.of hos⟩,by omega,_,hos,f0,by rw [z0v,ol];omega,by rw [List.length_map];exact z1b (by omega),by omega,by omega,by omega,?_⟩
   rw [hJ]
   obtain ⟨j,hj⟩:∃j:Nat,n.fmod ((i:Int)+1)=j:=⟨_,(Int.toNat_of_nonneg f0).symm⟩
   rw [hj,Int.toNat_natCast]
   exact ⟨os.take j++(i:Int)::os.drop j,_,_,z2o sG hl,by rw [z0f,List.map_append,List.map_cons,List.map_take,List.map_drop],y8e pm,⟨_,rfl⟩,rfl⟩
  ·rw [hJ] at h
   obtain ⟨os,pt,y,sG,hos,pm,⟨n,rfl⟩,rfl⟩:=h
   have ol:os.length=A.length:=by rw [pm.length_eq,z4w]
   have om:∀z∈os,0≤z/\z < (A.length:Int):=λ z hz=>up_mem.mp (pm.subset hz)
   wp_walk using rRepT,tSeq,tIfS
   refine ⟨_,.inl ⟨.of hos,λ t ht=>⟨small (by decide),λ p hp=>?_⟩⟩⟩
   have u:=(z0b ht (.tup (os.map V.int))).trans (z0b hp (.tup [V.str (Str.ofString "turn"),V.int (a:Int),V.ref t]))
   have hos2:=u _ _ hos
   have ho2:=(sG.trans u) _ _ ho
   have hp2:upd (upd G t (.tup (os.map V.int))) p (.tup [V.str (Str.ofString "turn"),V.int (a:Int),V.ref t]) p=some (.tup [V.str (Str.ofString "turn"),V.int (a:Int),V.ref t]):=z0f
   have ht2:upd (upd G t (.tup (os.map V.int))) p (.tup [V.str (Str.ofString "turn"),V.int (a:Int),V.ref t]) t=some (.tup (os.map V.int)):=z0b hp _ _ _ z0f
   generalize upd (upd G t (.tup (os.map V.int))) p (.tup [V.str (Str.ofString "turn"),V.int (a:Int),V.ref t])=G3 at *
   refine CompL.mk (xs:=os.map V.int) (.of hos2) (λ i ys σ G'=>G'=G3/\i≤os.length/\ys=(turnL A (os.take i)).map V.int/\∃y,σ=[y,some (.ref o)]) ⟨rfl,Nat.zero_le _,rfl,_,rfl⟩ (λ i ys σ G' _ h=>by rw [h.1];exact .of hos2) (λ i x ys σ G' e h=>?_) (λ ys σ G' h p1 hp1=>?_)
   ·obtain ⟨rfl,hi,rfl,y,rfl⟩:=h
    obtain ⟨z,rfl,hz⟩:=y1f e
    have il:=(List.getElem?_eq_some_iff.mp hz).1
    have zb:=om z (List.mem_of_getElem? hz)
    have e1:(turnL A (os.take (i+1))).map V.int=(turnL A (os.take i)).map V.int++[V.int (A.getD z.toNat 0)]:=by
     unfold turnL;rw [List.take_add_one,hz,List.map_append,List.map_append];rfl
    refine ⟨by unfold turnL;rw [List.length_map,List.length_map,List.length_take];exact z1b (by omega),?_⟩
    wp_walk using rRepT,tSeq,tIfS,e1
    exact ⟨_,ho2,_,x4i zb.1 zb.2,il,rfl,_,rfl⟩
   ·obtain ⟨rfl,hi,rfl,y,rfl⟩:=h
    rw [z0v,List.take_length]
    exact ⟨p1,rfl,_,.inl ⟨.of z0f,λ l2 hl2=>⟨small (by decide),λ p4 hp4=>q _ p4 (sG.trans (u.trans ((z0b hp1 _).trans ((z0b hl2 _).trans (z0b hp4 _))))) ⟨p,l2,.turn a os,turnL A os,z0f,⟨t,z0b hp4 _ _ _ (z0b hl2 _ _ _ (z0b hp1 _ _ _ hp2)),z0b hp4 _ _ _ (z0b hl2 _ _ _ (z0b hp1 _ _ _ ht2))⟩,z0b hp4 _ _ _ z0f,⟨A,ea,pm,rfl⟩,y5m hf pm⟩⟩⟩⟩
 rintro σ1 G1 ⟨rfl,rfl⟩
 refine z0h (λ σ G=>G=G1/\σ=[some (.int kd),some (.ref dl),some (.int (a:Int)),some (.ref o),some (.int mo),none,none,none,none,none,none,none,none,none]) ?_ (λ R hR=>?_)
 rotate_left
 ·wp_walk using rRepT,tSeq,tIfS,splawlaid
  split
  rotate_left
  ·exact hR _ _ ⟨rfl,rfl⟩
  have lo:=x1i (d:=d2) hf hmo
  refine ⟨_,hd,_,z0m (j:=2) rfl,A,d2,rfl,ho,mo,hf,hmo,λ G p s hp=>⟨small (by decide),λ p1 hp1=>?_⟩⟩
  have u:=s.trans (z0b hp1 (.tup [V.str (Str.ofString "lay"),V.int (a:Int),V.ref p]))
  exact ⟨_,u _ _ hd,_,z0m (j:=2) rfl,A,d2,rfl,u _ _ ho,mo,hf,hmo,λ G2 p2 s2 hp2=>⟨small (by decide),λ p3 hp3=>q _ p3 (u.trans (s2.trans (z0b hp3 _))) ⟨p1,p2,.lay a (laidL A d2),laidL A d2,z0f,⟨p,z0b hp3 _ _ _ (s2 _ _ z0f),z0b hp3 _ _ _ (s2 _ _ (z0b hp1 _ _ _ hp))⟩,z0b hp3 _ _ _ hp2,⟨A,ea,z4d (z3n lo.1 hmo),lo.2.symm,rfl⟩,lo.1⟩⟩⟩
 rintro σ2 G2 ⟨rfl,rfl⟩
 refine z0h (λ σ G=>Same G2 G/\0 < A.length/\σ=[some (.int kd),some (.ref dl),some (.int (a:Int)),some (.ref o),some (.int mo),none,none,none,none,none,none,none,none,none]) ?_ (λ R hR=>?_)
 rotate_left
 ·wp_walk using rRepT,tIfS
  refine ⟨Nat.zero_le _,λ p0 hp0=>⟨_,.of (z0b hp0 _ _ _ ho),_,.of z0f,z1j _,rfl,?_⟩⟩
  rw [show ([]:List V)=([]:List Int).map V.int from rfl,z2b]
  have u0:=z0b hp0 (.tup (List.map V.int []))
  have hd0:=u0 _ _ hd
  have ho0:=u0 _ _ ho
  generalize upd G2 p0 (.tup (List.map V.int []))=G0 at *
  have pb:=hf.2.2
  have m2:=hmo.2
  by_cases c:A=[]
  ·rw [decide_eq_true c,if_pos rfl]
   have l6:A.length < 6:=by rw [c];decide
   refine z0h (λ σ G=>G=G0/\∃k:Nat,k≤A.length/\σ=[some (.int kd),some (.ref dl),some (.int (a:Int)),some (.ref o),some (.int mo),none,none,none,some (.int (k:Int)),none,none,none,none,none]) ?_ (λ R hR=>?_)
   rotate_left
   ·wp_walk using rRepT,tSeq,tIfS
    refine ⟨_,hd0,_,z0m (j:=1) rfl,_,.inr (.of ho0),_,rfl,?_⟩
    rw [z0v]
    have f0:=Int.fmod_nonneg_of_pos d1 (show (0:Int) < (A.length:Int)+1 by omega)
    have f1:=Int.fmod_lt_of_pos d1 (show (0:Int) < (A.length:Int)+1 by omega)
    obtain ⟨k,hk⟩:∃k:Nat,d1.fmod ((A.length:Int)+1)=k:=⟨_,(Int.toNat_of_nonneg f0).symm⟩
    rw [hk] at f1 ⊢
    exact ⟨by omega,hR _ _ ⟨rfl,k,by omega,rfl⟩⟩
   rintro σ4 G4 ⟨rfl,k,kl,rfl⟩
   refine z0h (λ σ G=>Same G4 G/\∃x:Int,0≤x/\x≤mo / prodI (A.map one1)/\σ=[some (.int kd),some (.ref dl),some (.int (a:Int)),some (.ref o),some (.int mo),none,none,none,some (.int (k:Int)),some (.int x),none,none,none,none]) ?_ (λ R hR=>?_)
   rotate_left
   ·wp_walk using rRepT,tSeq,tIfS,splawwide
    refine ⟨_,hd0,_,z0m (j:=2) rfl,A,ho0,sd,by omega,λ G sg=>⟨by omega,by omega,by omega,_,rfl,?_⟩⟩
    rw [Int.fdiv_eq_ediv_of_nonneg _ (by omega)]
    have dv:=z7m pb.1 pb.2
    generalize mo / prodI (A.map one1)=fr at *
    have c4:0 < (if fr < 4 then fr else 4)/\(if fr < 4 then fr else 4)≤fr:=by split<;>omega
    generalize (if fr < 4 then fr else 4)=c4' at *
    have f0:=Int.fmod_nonneg_of_pos d2 c4.1
    have f1:=Int.fmod_lt_of_pos d2 c4.1
    exact ⟨by omega,hR _ _ ⟨sg,_,by omega,by omega,rfl⟩⟩
   rintro σ5 G5 ⟨u5,x,x0,x1,rfl⟩
   refine z0h (λ σ G=>G=G5/\∃x:Int,0≤x/\x≤mo / prodI (A.map one1)/\σ=[some (.int kd),some (.ref dl),some (.int (a:Int)),some (.ref o),some (.int mo),none,none,none,some (.int (k:Int)),some (.int x),none,none,none,none]) ?_ (λ R hR=>?_)
   rotate_left
   ·wp_walk using rRepT,tSeq,tIfS
    refine ⟨_,u5 _ _ hd0,_,z0m (j:=2) rfl,_,rfl,?_⟩
    split
    ·exact hR _ _ ⟨rfl,0,by decide,Int.le_trans x0 x1,rfl⟩
    ·exact hR _ _ ⟨rfl,x,x0,x1,rfl⟩
   rintro σ6 G6 ⟨rfl,x,x0,x1,rfl⟩
   wp_walk using rRepT,tSeq,tIfS
   have ho6:=u5 _ _ ho0
   have xm:x≤mo:=Int.le_trans x1 (Int.ediv_le_self _ (by have:=hmo.1;omega))
   have fi:=y1h (k:=k) hf l6 x0 x1
   refine ⟨small (by decide),λ p hp=>⟨_,z0b hp _ _ _ ho6,λ r1 H1 s1 h1=>⟨small (by decide),λ p1 hp1=>?_⟩⟩⟩
   rw [z2k] at h1
   refine ⟨_,z0b hp1 _ _ _ h1,small (by simp only [List.length_map,List.length_take];omega),λ r2 H2 s2 h2=>?_⟩
   have t2:=(z0b hp (.tup [V.str (Str.ofString "spread"),V.int (a:Int),V.int (k:Int),V.int x])).trans (s1.trans ((z0b hp1 (.tup [V.int x])).trans s2))
   refine ⟨_,t2 _ _ ho6,λ r3 H3 s3 h3=>?_⟩
   rw [z2l] at h3
   refine ⟨_,s3 _ _ h2,_,h3,small (by simp only [List.length_append,List.length_map,List.length_take,List.length_drop,List.length_cons,List.length_nil];omega),λ r4 H4 s4 h4=>⟨small (by decide),λ p5 hp5=>?_⟩⟩
   refine q _ p5 (u0.trans (u5.trans (t2.trans (s3.trans (s4.trans (z0b hp5 _)))))) ⟨p,r4,.spread a k x,insL A k x,z0f,?_,?_,⟨A,ea,by unfold off1;omega,by omega,by omega,z4d (z3n fi hmo),rfl⟩,fi⟩
   ·exact (s3.trans (s4.trans (z0b hp5 _))) _ _ ((s1.trans ((z0b hp1 _).trans s2)) _ _ z0f)
   ·show _=_;rw [z0b hp5 _ _ _ h4];unfold insL;rw [List.map_append,List.map_append];rfl
  ·rw [decide_eq_false c,if_neg (by decide)]
   have done:=hR _ _ ⟨u0,List.length_pos_iff.mpr c,rfl⟩
   split
   rotate_left
   ·exact done
   refine ⟨_,.inr (.of ho0),?_⟩
   rw [z0v]
   split
   rotate_left
   ·exact done
   have l6:A.length < 6:=by omega
   refine z0h (λ σ G=>G=G0/\∃k:Nat,k≤A.length/\σ=[some (.int kd),some (.ref dl),some (.int (a:Int)),some (.ref o),some (.int mo),none,none,none,some (.int (k:Int)),none,none,none,none,none]) ?_ (λ R hR=>?_)
   rotate_left
   ·wp_walk using rRepT,tSeq,tIfS
    refine ⟨_,hd0,_,z0m (j:=1) rfl,_,.inr (.of ho0),_,rfl,?_⟩
    rw [z0v]
    have f0:=Int.fmod_nonneg_of_pos d1 (show (0:Int) < (A.length:Int)+1 by omega)
    have f1:=Int.fmod_lt_of_pos d1 (show (0:Int) < (A.length:Int)+1 by omega)
    obtain ⟨k,hk⟩:∃k:Nat,d1.fmod ((A.length:Int)+1)=k:=⟨_,(Int.toNat_of_nonneg f0).symm⟩
    rw [hk] at f1 ⊢
    exact ⟨by omega,hR _ _ ⟨rfl,k,by omega,rfl⟩⟩
   rintro σ4 G4 ⟨rfl,k,kl,rfl⟩
   refine z0h (λ σ G=>Same G4 G/\∃x:Int,0≤x/\x≤mo / prodI (A.map one1)/\σ=[some (.int kd),some (.ref dl),some (.int (a:Int)),some (.ref o),some (.int mo),none,none,none,some (.int (k:Int)),some (.int x),none,none,none,none]) ?_ (λ R hR=>?_)
   rotate_left
   ·wp_walk using rRepT,tSeq,tIfS,splawwide
    refine ⟨_,hd0,_,z0m (j:=2) rfl,A,ho0,sd,by omega,λ G sg=>⟨by omega,by omega,by omega,_,rfl,?_⟩⟩
    rw [Int.fdiv_eq_ediv_of_nonneg _ (by omega)]
    have dv:=z7m pb.1 pb.2
    generalize mo / prodI (A.map one1)=fr at *
    have c4:0 < (if fr < 4 then fr else 4)/\(if fr < 4 then fr else 4)≤fr:=by split<;>omega
    generalize (if fr < 4 then fr else 4)=c4' at *
    have f0:=Int.fmod_nonneg_of_pos d2 c4.1
    have f1:=Int.fmod_lt_of_pos d2 c4.1
    exact ⟨by omega,hR _ _ ⟨sg,_,by omega,by omega,rfl⟩⟩
   rintro σ5 G5 ⟨u5,x,x0,x1,rfl⟩
   refine z0h (λ σ G=>G=G5/\∃x:Int,0≤x/\x≤mo / prodI (A.map one1)/\σ=[some (.int kd),some (.ref dl),some (.int (a:Int)),some (.ref o),some (.int mo),none,none,none,some (.int (k:Int)),some (.int x),none,none,none,none]) ?_ (λ R hR=>?_)
   rotate_left
   ·wp_walk using rRepT,tSeq,tIfS
    refine ⟨_,u5 _ _ hd0,_,z0m (j:=2) rfl,_,rfl,?_⟩
    split
    ·exact hR _ _ ⟨rfl,0,by decide,Int.le_trans x0 x1,rfl⟩
    ·exact hR _ _ ⟨rfl,x,x0,x1,rfl⟩
   rintro σ6 G6 ⟨rfl,x,x0,x1,rfl⟩
   wp_walk using rRepT,tSeq,tIfS
   have ho6:=u5 _ _ ho0
   have xm:x≤mo:=Int.le_trans x1 (Int.ediv_le_self _ (by have:=hmo.1;omega))
   have fi:=y1h (k:=k) hf l6 x0 x1
   refine ⟨small (by decide),λ p hp=>⟨_,z0b hp _ _ _ ho6,λ r1 H1 s1 h1=>⟨small (by decide),λ p1 hp1=>?_⟩⟩⟩
   rw [z2k] at h1
   refine ⟨_,z0b hp1 _ _ _ h1,small (by simp only [List.length_map,List.length_take];omega),λ r2 H2 s2 h2=>?_⟩
   have t2:=(z0b hp (.tup [V.str (Str.ofString "spread"),V.int (a:Int),V.int (k:Int),V.int x])).trans (s1.trans ((z0b hp1 (.tup [V.int x])).trans s2))
   refine ⟨_,t2 _ _ ho6,λ r3 H3 s3 h3=>?_⟩
   rw [z2l] at h3
   refine ⟨_,s3 _ _ h2,_,h3,small (by simp only [List.length_append,List.length_map,List.length_take,List.length_drop,List.length_cons,List.length_nil];omega),λ r4 H4 s4 h4=>⟨small (by decide),λ p5 hp5=>?_⟩⟩
   refine q _ p5 (u0.trans (u5.trans (t2.trans (s3.trans (s4.trans (z0b hp5 _)))))) ⟨p,r4,.spread a k x,insL A k x,z0f,?_,?_,⟨A,ea,by unfold off1;omega,by omega,by omega,z4d (z3n fi hmo),rfl⟩,fi⟩
   ·exact (s3.trans (s4.trans (z0b hp5 _))) _ _ ((s1.trans ((z0b hp1 _).trans s2)) _ _ z0f)
   ·show _=_;rw [z0b hp5 _ _ _ h4];unfold insL;rw [List.map_append,List.map_append];rfl
 rintro σ3 G3 ⟨s3,a0,rfl⟩
 have hd3:=s3 _ _ hd
 have ho3:=s3 _ _ ho
 refine z0h (λ σ G=>G=G3/\∃k:Nat,k < A.length/\σ=[some (.int kd),some (.ref dl),some (.int (a:Int)),some (.ref o),some (.int mo),none,none,none,none,none,some (.int (k:Int)),none,none,none]) ?_ (λ R hR=>?_)
 rotate_left
 ·wp_walk using rRepT,tSeq,tIfS
  refine ⟨_,hd3,_,z0m (j:=1) rfl,_,.inr (.of ho3),_,rfl,?_⟩
  rw [z0v]
  have f0:=Int.fmod_nonneg_of_pos d1 (show (0:Int) < (A.length:Int) by omega)
  have f1:=Int.fmod_lt_of_pos d1 (show (0:Int) < (A.length:Int) by omega)
  obtain ⟨k,hk⟩:∃k:Nat,d1.fmod (A.length:Int)=k:=⟨_,(Int.toNat_of_nonneg f0).symm⟩
  rw [hk] at f1 ⊢
  exact ⟨by omega,hR _ _ ⟨rfl,k,by omega,rfl⟩⟩
 rintro σ4 G4 ⟨rfl,k,kl,rfl⟩
 refine z0h (λ σ G=>G=G4/\σ=[some (.int kd),some (.ref dl),some (.int (a:Int)),some (.ref o),some (.int mo),none,none,none,none,none,some (.int (k:Int)),none,none,none]) ?_ (λ R hR=>?_)
 rotate_left
 ·wp_walk using rRepT,tSeq,tIfS
  split
  rotate_left
  ·exact hR _ _ ⟨rfl,rfl⟩
  exact ⟨small (by decide),λ p hp=>⟨small (by decide),λ p1 hp1=>q _ p1 (s3.trans ((z0b hp _).trans (z0b hp1 _))) ⟨p,o,.flip a k,A,z0f,z0b hp1 _ _ _ z0f,z0b hp1 _ _ _ (z0b hp _ _ _ ho3),⟨ea,by unfold off;omega⟩,hf⟩⟩⟩
 rintro σ5 G5 ⟨rfl,rfl⟩
 refine z0h (λ σ G=>G=G5/\∃g:Int,1≤g/\g≤3/\σ=[some (.int kd),some (.ref dl),some (.int (a:Int)),some (.ref o),some (.int mo),none,none,none,none,none,some (.int (k:Int)),some (.int g),none,none]) ?_ (λ R hR=>?_)
 rotate_left
 ·wp_walk using rRepT,tSeq,tIfS
  exact ⟨_,hd3,_,z0m (j:=2) rfl,_,rfl,hR _ _ ⟨rfl,_,by omega,by omega,rfl⟩⟩
 rintro σ6 G6 ⟨rfl,g,g1,g3,rfl⟩
 have an:=(hf.1 _ (z3j kl)).1
 refine z0h (λ σ G=>G=G6/\∃f:Int,0≤f/\σ=[some (.int kd),some (.ref dl),some (.int (a:Int)),some (.ref o),some (.int mo),none,none,none,none,none,some (.int (k:Int)),some (.int g),some (.int f),none]) ?_ (λ R hR=>?_)
 rotate_left
 ·wp_walk using rRepT,tSeq,tIfS
  have o1:=z2v an
  have f0:=Int.fmod_nonneg_of_pos (d2 / 3) (show 0 < one1 (A.getD k 0) by omega)
  refine ⟨_,hd3,_,z0m (j:=2) rfl,_,rfl,_,ho3,_,z5o kl,_,rfl,?_⟩
  rw [y1b an]
  exact ⟨by omega,hR _ _ ⟨rfl,_,f0,rfl⟩⟩
 rintro σ7 G7 ⟨rfl,f,f0,rfl⟩
 refine z0h (λ σ G=>G=G7/\∃m:Int,0≤m/\m≤A.getD k 0/\¬(0 < m/\A.getD k 0≤f+(m - 1) * g)/\σ=[some (.int kd),some (.ref dl),some (.int (a:Int)),some (.ref o),some (.int mo),none,none,none,none,none,some (.int (k:Int)),some (.int g),some (.int f),some (.int m)]) ?_ (λ R hR=>?_)
 rotate_left
 ·wp_walk using rRepT,tSeq,tIfS
  have cm:=y8v (e:=d2 / 300 % 3) an f0 g1 (by omega)
  exact ⟨_,ho3,_,z5o kl,_,rfl,by omega,by omega,by omega,_,hd3,_,z0m (j:=2) rfl,_,rfl,hR _ _ ⟨rfl,_,cm.1,cm.2.1,cm.2.2,rfl⟩⟩
 rintro σ8 G8 ⟨rfl,m,m0,m1,m2,rfl⟩
 wp_walk using rRepT,tSeq,tIfS
 have fs:=y8t (k:=k) hf m0 m1
 have am:=(hf.1 _ (z3j kl)).2
 have mo2:=hmo.2
 refine ⟨small (by decide),λ p hp=>⟨_,z0b hp _ _ _ ho3,λ r1 H1 s1 h1=>⟨small (by decide),λ p1 hp1=>?_⟩⟩⟩
 rw [z2k] at h1
 refine ⟨_,z0b hp1 _ _ _ h1,small (by simp only [List.length_map,List.length_take];omega),λ r2 H2 s2 h2=>?_⟩
 have t2:=(z0b hp (.tup [V.str (Str.ofString "cut"),V.int (a:Int),V.int (k:Int),V.int f,V.int m,V.int g])).trans (s1.trans ((z0b hp1 (.tup [V.int m])).trans s2))
 refine ⟨_,t2 _ _ ho3,λ r3 H3 s4 h3=>?_⟩
 rw [show (k:Int)+1=((k+1:Nat):Int) by omega,z2l] at h3
 refine ⟨_,s4 _ _ h2,_,h3,small (by simp only [List.length_append,List.length_map,List.length_take,List.length_drop,List.length_cons,List.length_nil];omega),λ r4 H4 s5 h4=>⟨small (by decide),λ p5 hp5=>?_⟩⟩
 refine q _ p5 (s3.trans (t2.trans (s4.trans (s5.trans (z0b hp5 _))))) ⟨p,r4,.cut a k f m g,A.set k m,z0f,?_,?_,⟨A,ea,by unfold off;omega,by unfold bad;rw [Int.toNat_natCast];exact λ z=>z.elim (by omega) λ z=>z.elim (by omega) λ z=>z.elim (by omega) m2,by omega,by rw [Int.toNat_natCast]⟩,fs⟩
 ·exact (s4.trans (s5.trans (z0b hp5 _))) _ _ ((s1.trans ((z0b hp1 _).trans s2)) _ _ z0f)
 ·show _=_;rw [z0b hp5 _ _ _ h4,← y2w kl,List.map_append,List.map_append];rfl
abbrev slawlifted:Stmt:=top 67
theorem z9p:FnScope ["kind", "d", "sides", "every", "a", "fit", "b", "longer", "words", "c"] ["kind", "d", "sides"] (defScope slawlifted):=⟨rfl,rfl,rfl,by decide +kernel,rfl,by decide +kernel,by decide +kernel⟩
theorem y0h (F:Fun K "_law_lifted" "_law_lifted" slawlifted f fd) (clawrecent:Callee P w K mg base CX0 (1) "_law_recent" ["pool", "d"] splawrecent) (clawled:Callee P w K mg base CX0 (1) "_law_led" ["one", "other"] splawled) (zlist:mg "list" = none) (zrange:mg "range" = none) (zlen:mg "len" = none) (zmax:mg "max" = none):FnOk P w K mg base CX0 (2) f fd ["kind", "d", "sides"] (spllifted):=by
 have sc:=z9p
 refine F.ok sc (λ vs H Q E h=>?_) (λ cdv A outer s H vs Q E hr h=>?_)
 ·obtain ⟨dl,sl,kd,mo,d0,d1,d2,ps,Ss,rfl,_⟩:=h;rfl
 obtain ⟨dl,sl,kd,mo,d0,d1,d2,ps,Ss,rfl,hd,hs,ht,n0,hsd,q⟩:=h
 rw [x5v]
 refine ⟨_,(z0d (z0x (i:=3) sc.nd rfl (by first | exact Or.inl rfl | exact Or.inr rfl) (z1l (z3k rfl) (by rfl) zlist boot_list (z0a (z1l z3s (by rfl) zrange boot_range (z0a (z0o z0j (by rfl) zlen PySem.boot_len (z0a (pv 2) z0c)) z0c)) z0c))) (z0d (z0x (i:=4) sc.nd rfl (by first | exact Or.inl rfl | exact Or.inr rfl) (z0r clawrecent hr (by rfl) z1h (z0a (pv 3) (z0a (z0u z0q (pv 1) z0e (λ _ _=>rfl)) z0c)))) (z0d (z0z (z0i z1f (pv 0) z0e (z0n _)) (z0g (z0l (z0w (z0a (z0w (z0a z0p (z0a (z0u z0q (z1w (z0a z0p (z0a z0p (z0a z0p (z0a z0p z0c))))) (z0s z1x (z0u z0q (pv 1) z0e (λ _ _=>rfl)) z0e) (λ _ _=>rfl)) (z0a (pv 4) z0c)))) (z0a (z0u z0q (pv 2) (pv 4) (λ _ _=>rfl)) z0c))))) z0k) (z0d (z3v (own:=["k"]) (fv:=["sides", "a"]) (js:=[2,4]) sc.nd (i:=5) rfl (by first | exact Or.inl rfl | exact Or.inr rfl) (by first | exact Or.inl rfl | exact Or.inr rfl) rfl (z2s (pv 3)) rfl (by decide) rfl (by decide) (by first | exact λ _ _ h=>h | exact z2h rfl | exact z2g rfl rfl | exact z2f rfl rfl rfl) (z2w (by rfl)) rfl (x4o (by first | exact ⟨rfl,.inl rfl,.inl rfl⟩ | exact ⟨rfl,.inl rfl,.inr rfl⟩) (by first | exact ⟨rfl,.inl rfl,.inl rfl⟩ | exact ⟨rfl,.inl rfl,.inr rfl⟩)) (λ _ _ _ _=>(z1d (i:=0) (show (["k", "sides", "a"]:List Str).Nodup by decide +kernel) rfl (Or.inl rfl))) (λ _ _ _ _=>(pv 0)) (λ _ _ _ _=>(z5d (z0r clawled hr (by rfl) z1h (z0a (z0u z0q (pv 1) (pv 2) (λ _ _=>rfl)) (z0a (z0u z0q (pv 1) (pv 0) (λ _ _=>rfl)) z0c)))))) (z0d (z0x (i:=6) sc.nd rfl (by first | exact Or.inl rfl | exact Or.inr rfl) (z0r clawrecent hr (by rfl) z1h (z0a (pv 5) (z0a (z0u z0q (pv 1) z0e (λ _ _=>rfl)) z0c)))) (z0d (z0x (i:=7) sc.nd rfl (by first | exact Or.inl rfl | exact Or.inr rfl) (y0y rfl (by rfl) zmax (by rfl) zlen (z0u z0q (pv 2) (pv 4) (λ _ _=>rfl)) (z0u z0q (pv 2) (pv 6) (λ _ _=>rfl)))) (z0d (z0z (z0i z1f (pv 0) z0e (z0n _)) (z0d (z0x (i:=8) sc.nd rfl (by first | exact Or.inl rfl | exact Or.inr rfl) (z1w (y4d lw12p))) (z0g (z0l (z0w (z0a (z0w (z0a z0p (z0a (z0u z0q (pv 8) (z0s z1x (z0u z0q (pv 1) z0e (λ _ _=>rfl)) z0e) (λ _ _=>rfl)) (z0a (pv 4) (z0a (pv 6) z0c))))) (z0a (pv 7) z0c)))))) z0k) (z0d (z3v (own:=["k"]) (fv:=["sides", "b"]) (js:=[2,6]) sc.nd (i:=5) rfl (by first | exact Or.inl rfl | exact Or.inr rfl) (by first | exact Or.inl rfl | exact Or.inr rfl) rfl (z2s (pv 5)) rfl (by decide) rfl (by decide) (by first | exact λ _ _ h=>h | exact z2h rfl | exact z2g rfl rfl | exact z2f rfl rfl rfl) (z2w (by rfl)) rfl (x4o (by first | exact ⟨rfl,.inl rfl,.inl rfl⟩ | exact ⟨rfl,.inl rfl,.inr rfl⟩) (by first | exact ⟨rfl,.inl rfl,.inl rfl⟩ | exact ⟨rfl,.inl rfl,.inr rfl⟩)) (λ _ _ _ _=>(z1d (i:=0) (show (["k", "sides", "b"]:List Str).Nodup by decide +kernel) rfl (Or.inl rfl))) (λ _ _ _ _=>(pv 0)) (λ _ _ _ _=>(z5d (z0r clawled hr (by rfl) z1h (z0a (z0u z0q (pv 1) (pv 2) (λ _ _=>rfl)) (z0a (z0u z0q (pv 1) (pv 0) (λ _ _=>rfl)) z0c)))))) (z0d (z0x (i:=9) sc.nd rfl (by first | exact Or.inl rfl | exact Or.inr rfl) (z0r clawrecent hr (by rfl) z1h (z0a (pv 5) (z0a (z0u z0q (pv 1) z0e (λ _ _=>rfl)) z0c)))) (z0g (z0l (z0w (z0a (z0w (z0a z0p (z0a (pv 4) (z0a (pv 6) (z0a (pv 9) z0c))))) (z0a (y0y rfl (by rfl) zmax (by rfl) zlen (pv 7) (z0u z0q (pv 2) (pv 9) (λ _ _=>rfl))) z0c)))))))))))))),?_⟩
 simp only [L2.start,List.length_cons,List.length_nil,List.replicate,List.cons_append,List.nil_append,Nat.reduceSub,Nat.reduceAdd,List.map_cons,List.map_nil]
 have n4:=hsd.1
 refine z0h (λ σ G=>Same H G/\∃ev,G ev=some (.lst ((upL Ss.length).map V.int))/\σ=[some (.int kd),some (.ref dl),some (.ref sl),some (.ref ev),none,none,none,none,none,none]) ?_ (λ R hR=>?_)
 rotate_left
 ·wp_walk using rRepT,tSeq,tIfS
  exact ⟨_,.inl (.of hs),λ r0 hr0=>⟨Ss.length,by rw [List.length_map,ht.1];rfl,by omega,λ l hl=>hR _ _ ⟨(z0b hr0 _).trans (z0b hl _),l,z0f,rfl⟩⟩⟩
 rintro σ1 G1 ⟨s1,ev,hev,rfl⟩
 refine z0h (λ σ G=>G=G1/\∃a:Nat,a < Ss.length/\σ=[some (.int kd),some (.ref dl),some (.ref sl),some (.ref ev),some (.int (a:Int)),none,none,none,none,none]) ?_ (λ R hR=>?_)
 rotate_left
 ·wp_walk using rRepT,tSeq,tIfS,splawrecent
  refine ⟨_,s1 _ _ hd,_,z0m (j:=0) rfl,upL Ss.length,d0,rfl,hev,by rw [z4w];exact n0,λ k hk=>?_⟩
  obtain ⟨a,rfl,al⟩:=z5z hk
  exact hR _ _ ⟨rfl,a,al,rfl⟩
 rintro σ2 G2 ⟨rfl,a,al,rfl⟩
 obtain ⟨pa,A,ea,eA,hA⟩:=z2r (ht.same s1) al
 have fA:=hsd.2 _ (List.mem_of_getElem? eA)
 refine z0h (λ σ G=>G=G2/\σ=[some (.int kd),some (.ref dl),some (.ref sl),some (.ref ev),some (.int (a:Int)),none,none,none,none,none]) ?_ (λ R hR=>?_)
 rotate_left
 ·wp_walk using rRepT,tSeq,tIfS
  split
  rotate_left
  ·exact hR _ _ ⟨rfl,rfl⟩
  obtain ⟨w,hw,wm⟩:=z9g one4 (k:=d2 % 4) (by omega) (by show d2 % 4 < ((4:Nat):Int);omega)
  refine ⟨small (by decide),λ l hl=>⟨_,z0b hl _ _ _ (s1 _ _ hd),_,z0m (j:=2) rfl,_,rfl,_,hw,small (by decide),λ p hp=>⟨_,z0b hp _ _ _ (z0b hl _ _ _ (s1 _ _ hs)),_,ea,small (by decide),λ p1 hp1=>?_⟩⟩⟩
  exact q _ p1 (s1.trans ((z0b hl _).trans ((z0b hp _).trans (z0b hp1 _)))) ⟨p,pa,.each w a,A,z0f,z0b hp1 _ _ _ z0f,z0b hp1 _ _ _ (z0b hp _ _ _ (z0b hl _ _ _ hA)),⟨eA,wm⟩,fA⟩
 rintro σ3 G3 ⟨rfl,rfl⟩
 refine z0h (λ σ G=>Same G3 G/\∃(fa:Addr) (ks:List Int),G fa=some (.lst (ks.map V.int))/\ks.length≤40/\(∀k,k∈ks ↔ k∈upL Ss.length/\∃B,Ss[k.toNat]?=some B/\pairOk A B)/\σ=[some (.int kd),some (.ref dl),some (.ref sl),some (.ref ev),some (.int (a:Int)),some (.ref fa),none,none,none,none]) ?_ (λ R hR=>?_)
 rotate_left
 ·wp_walk using rRepT,tSeq,tIfS
  refine x1x hev (by rw [z4w];omega) (λ k=>∃B,Ss[k.toNat]?=some B/\pairOk A B) [some (.ref sl),some (.int (a:Int))] rfl (λ x y G Rt Rf hx u ht1 hf1=>?_) (λ ks G p u hp hk kl=>hR _ _ ⟨u.trans (z0b hp _),p,ks,z0f,by rw [z4w] at kl;omega,hk,rfl⟩)
  obtain ⟨j,rfl,jl⟩:=z5z hx
  obtain ⟨pk,B,ek,eB,hB⟩:=z2r (ht.same (s1.trans u)) jl
  wp_walk using rRepT,tSeq,tIfS,splawled
  refine ⟨_,(s1.trans u) _ _ hs,_,ea,_,(s1.trans u) _ _ hs,_,ek,_,rfl,_,rfl,A,u _ _ hA,B,hB,λ G' b u' hb=>?_⟩
  split
  ·exact ht1 _ (u.trans u') ⟨B,eB,hb.mp ‹_›⟩
  ·exact hf1 _ (u.trans u') λ ⟨B',e',z⟩=>by cases eB.symm.trans e';exact ‹¬b=true› (hb.mpr z)
 rintro σ4 G4 ⟨s4,fa,ks,hfa,kl,hk,rfl⟩
 have kpos:0 < ks.length:=List.length_pos_of_mem ((hk a).mpr ⟨x4s al,A,eA,y1m A⟩)
 refine z0h (λ σ G=>G=G4/\∃(b:Nat) (B:List Int) (pb:Addr),(b:Int)∈ks/\b < Ss.length/\Ss[b]?=some B/\pairOk A B/\atI (ps.map V.ref) (b:Int)=some (.ref pb)/\Tp G pb B/\σ=[some (.int kd),some (.ref dl),some (.ref sl),some (.ref ev),some (.int (a:Int)),some (.ref fa),some (.int (b:Int)),none,none,none]) ?_ (λ R hR=>?_)
 rotate_left
 ·wp_walk using rRepT,tSeq,tIfS,splawrecent
  refine ⟨_,(s1.trans s4) _ _ hd,_,z0m (j:=1) rfl,ks,d1,rfl,hfa,kpos,λ k hkm=>?_⟩
  obtain ⟨ku,B,eB,pB⟩:=(hk k).mp hkm
  obtain ⟨b,rfl,bl⟩:=z5z ku
  obtain ⟨pb,B',eb,eB',hB⟩:=z2r (ht.same (s1.trans s4)) bl
  cases eB'.symm.trans eB
  exact hR _ _ ⟨rfl,b,B,pb,hkm,bl,eB,pB,eb,hB,rfl⟩
 rintro σ5 G5 ⟨rfl,b,B,pb,bm,bl,eB,pB,eb,hB,rfl⟩
 have fB:=hsd.2 _ (List.mem_of_getElem? eB)
 have s5:=s1.trans s4
 have fL:fitM mo (pairL A B):=z7a fA fB
 refine z0h (λ σ G=>G=G5/\∃lo:Addr,Tp G lo (pairL A B)/\σ=[some (.int kd),some (.ref dl),some (.ref sl),some (.ref ev),some (.int (a:Int)),some (.ref fa),some (.int (b:Int)),some (.ref lo),none,none]) ?_ (λ R hR=>?_)
 rotate_left
 ·wp_walk using rRepT,tSeq,tIfS
  refine ⟨_,s5 _ _ hs,_,ea,_,s5 _ _ hs,_,eb,pa,rfl,pb,rfl,A.map V.int,s4 _ _ hA,B.map V.int,hB,λ l=>?_,λ l=>?_⟩
  ·rw [z0v,z0v] at l
   exact hR _ _ ⟨rfl,pa,by rw [y4c pB l];exact s4 _ _ hA,rfl⟩
  ·rw [z0v,z0v] at l
   exact hR _ _ ⟨rfl,pb,by rw [y4b l];exact hB,rfl⟩
 rintro σ6 G6 ⟨rfl,lo,hlo,rfl⟩
 refine z0h (λ σ G=>G=G6/\σ=[some (.int kd),some (.ref dl),some (.ref sl),some (.ref ev),some (.int (a:Int)),some (.ref fa),some (.int (b:Int)),some (.ref lo),none,none]) ?_ (λ R hR=>?_)
 rotate_left
 ·wp_walk using rRepT,tIfS
  split
  rotate_left
  ·exact hR _ _ ⟨rfl,rfl⟩
  refine z0h (λ σ G=>Same G6 G/\∃wl,G wl=some (.lst (two12.map V.str))/\σ=[some (.int kd),some (.ref dl),some (.ref sl),some (.ref ev),some (.int (a:Int)),some (.ref fa),some (.int (b:Int)),some (.ref lo),some (.ref wl),none]) ?_ (λ R1 hR1=>?_)
  rotate_left
  ·wp_walk using rRepT,tSeq,tIfS,tStrs
   exact ⟨by rw [x5f];exact small (by decide),λ l hl=>hR1 _ _ ⟨z0b hl _,l,by rw [z0f,x5e],rfl⟩⟩
  rintro σ7 G7 ⟨s7,wl,hwl,rfl⟩
  wp_walk using rRepT,tSeq,tIfS
  obtain ⟨w,hw,wm⟩:=z9g two12 (k:=d2 % 12) (by omega) (by show d2 % 12 < ((12:Nat):Int);omega)
  refine ⟨_,(s5.trans s7) _ _ hd,_,z0m (j:=2) rfl,_,rfl,_,hwl,_,hw,small (by decide),λ p hp=>⟨small (by decide),λ p1 hp1=>?_⟩⟩
  exact q _ p1 (s5.trans (s7.trans ((z0b hp _).trans (z0b hp1 _)))) ⟨p,lo,.pair w a b,pairL A B,z0f,z0b hp1 _ _ _ z0f,z0b hp1 _ _ _ (z0b hp _ _ _ (s7 _ _ hlo)),⟨A,B,eA,eB,wm,pB,rfl⟩,fL⟩
 rintro σ7 G7 ⟨rfl,rfl⟩
 refine z0h (λ σ G=>Same G7 G/\∃(fc:Addr) (ls:List Int),G fc=some (.lst (ls.map V.int))/\(∀k,k∈ls ↔ k∈ks/\∃C,Ss[k.toNat]?=some C/\pairOk B C)/\σ=[some (.int kd),some (.ref dl),some (.ref sl),some (.ref ev),some (.int (a:Int)),some (.ref fc),some (.int (b:Int)),some (.ref lo),none,none]) ?_ (λ R hR=>?_)
 rotate_left
 ·wp_walk using rRepT,tSeq,tIfS
  refine x1x hfa (by omega) (λ k=>∃C,Ss[k.toNat]?=some C/\pairOk B C) [some (.ref sl),some (.int (b:Int))] rfl (λ x y G Rt Rf hx u ht1 hf1=>?_) (λ ls G p u hp hk2 kl2=>hR _ _ ⟨u.trans (z0b hp _),p,ls,z0f,hk2,rfl⟩)
  obtain ⟨j,rfl,jl⟩:=z5z ((hk x).mp hx).1
  obtain ⟨pk,C,ek,eC,hC⟩:=z2r (ht.same (s5.trans u)) jl
  wp_walk using rRepT,tSeq,tIfS,splawled
  refine ⟨_,(s5.trans u) _ _ hs,_,eb,_,(s5.trans u) _ _ hs,_,ek,_,rfl,_,rfl,B,u _ _ hB,C,hC,λ G' b u' hb=>?_⟩
  split
  ·exact ht1 _ (u.trans u') ⟨C,eC,hb.mp ‹_›⟩
  ·exact hf1 _ (u.trans u') λ ⟨C',e',z⟩=>by cases eC.symm.trans e';exact ‹¬b=true› (hb.mpr z)
 rintro σ8 G8 ⟨s8,fc,ls,hfc,hl,rfl⟩
 have lpos:0 < ls.length:=List.length_pos_of_mem ((hl b).mpr ⟨bm,B,eB,y1m B⟩)
 refine z0h (λ σ G=>G=G8/\∃(c:Nat) (C:List Int) (pc:Addr),Ss[c]?=some C/\pairOk A C/\pairOk B C/\atI (ps.map V.ref) (c:Int)=some (.ref pc)/\Tp G pc C/\σ=[some (.int kd),some (.ref dl),some (.ref sl),some (.ref ev),some (.int (a:Int)),some (.ref fc),some (.int (b:Int)),some (.ref lo),none,some (.int (c:Int))]) ?_ (λ R hR=>?_)
 rotate_left
 ·wp_walk using rRepT,tSeq,tIfS,splawrecent
  refine ⟨_,(s5.trans s8) _ _ hd,_,z0m (j:=2) rfl,ls,d2,rfl,hfc,lpos,λ k hkm=>?_⟩
  obtain ⟨km,C,eC,pC⟩:=(hl k).mp hkm
  obtain ⟨ku,C2,eC2,pA⟩:=(hk k).mp km
  cases eC.symm.trans eC2
  obtain ⟨c,rfl,cl⟩:=z5z ku
  obtain ⟨pc,C',ec,eC',hC⟩:=z2r (ht.same (s5.trans s8)) cl
  cases eC'.symm.trans eC
  exact hR _ _ ⟨rfl,c,C,pc,eC,pA,pC,ec,hC,rfl⟩
 rintro σ9 G9 ⟨rfl,c,C,pc,eC,pAC,pBC,ec,hC,rfl⟩
 have fC:=hsd.2 _ (List.mem_of_getElem? eC)
 have p3:=y2b pAC pBC
 have s9:=s5.trans s8
 wp_walk using rRepT,tSeq,tIfS
 refine ⟨small (by decide),λ p hp=>⟨_,z0b hp _ _ _ (s9 _ _ hs),_,ec,pc,rfl,(pairL A B).map V.int,z0b hp _ _ _ (s8 _ _ hlo),C.map V.int,z0b hp _ _ _ hC,λ l=>⟨small (by decide),λ p1 hp1=>?_⟩,λ l=>⟨small (by decide),λ p1 hp1=>?_⟩⟩⟩
 ·rw [z0v,z0v] at l
  exact q _ p1 (s9.trans ((z0b hp _).trans (z0b hp1 _))) ⟨p,lo,.pick a b c,pairL (pairL A B) C,z0f,z0b hp1 _ _ _ z0f,by rw [y4c p3 l];exact z0b hp1 _ _ _ (z0b hp _ _ _ (s8 _ _ hlo)),⟨A,B,C,eA,eB,eC,pB,p3,rfl⟩,z7a fL fC⟩
 ·rw [z0v,z0v] at l
  exact q _ p1 (s9.trans ((z0b hp _).trans (z0b hp1 _))) ⟨p,pc,.pick a b c,pairL (pairL A B) C,z0f,z0b hp1 _ _ _ z0f,by rw [y4b l];exact z0b hp1 _ _ _ (z0b hp _ _ _ hC),⟨A,B,C,eA,eB,eC,pB,p3,rfl⟩,z7a fL fC⟩
abbrev slawmet:Stmt:=top 71
theorem y6u:FnScope ["kind", "d", "sides", "most", "sided", "a", "own", "side", "words", "made", "fit", "b"] ["kind", "d", "sides", "most"] (defScope slawmet):=⟨rfl,rfl,rfl,by decide +kernel,rfl,by decide +kernel,by decide +kernel⟩
theorem y7q (F:Fun K "_law_met" "_law_met" slawmet f fd) (clawrecent:Callee P w K mg base CX0 (2) "_law_recent" ["pool", "d"] splawrecent) (clawboth:Callee P w K mg base CX0 (2) "_law_both" ["own", "other", "side"] splawboth) (clawwide:Callee P w K mg base CX0 (2) "_law_wide" ["sides"] splawwide) (zrange:mg "range" = none) (zlen:mg "len" = none):FnOk P w K mg base CX0 (3) f fd ["kind", "d", "sides", "most"] (splmet):=by
 have sc:=y6u
 refine F.ok sc (λ vs H Q E h=>?_) (λ cdv A outer s H vs Q E hr h=>?_)
 ·obtain ⟨dl,sl,kd,mo,d0,d1,d2,ps,Ss,rfl,_⟩:=h;rfl
 obtain ⟨dl,sl,kd,mo,d0,d1,d2,ps,Ss,rfl,hd,hs,ht,⟨S0,S0m,S0l⟩,k11,k14,hsd,hmo,q⟩:=h
 refine ⟨_,(z0d (z3v (own:=["k"]) (fv:=["sides"]) (js:=[2]) sc.nd (i:=4) rfl (by first | exact Or.inl rfl | exact Or.inr rfl) (by first | exact Or.inl rfl | exact Or.inr rfl) rfl (z3a (by rfl) zrange (z0a (z0o z0j (by rfl) zlen PySem.boot_len (z0a (pv 2) z0c)) z0c)) rfl (by decide) rfl (by decide) (by first | exact λ _ _ h=>h | exact z2h rfl | exact z2g rfl rfl | exact z2f rfl rfl rfl) (z2w (by rfl)) rfl (y9d (by first | exact ⟨rfl,.inl rfl,.inl rfl⟩ | exact ⟨rfl,.inl rfl,.inr rfl⟩)) (λ _ _ _ _=>(z1d (i:=0) (show (["k", "sides"]:List Str).Nodup by decide +kernel) rfl (Or.inl rfl))) (λ _ _ _ _=>(pv 0)) (λ _ _ _ _=>(z0i (y4f (K:=K) rfl hr.units0) (z0u z0q (pv 1) (pv 0) (λ _ _=>rfl)) (z0w z0c) (z0n _)))) (z0d (z0x (i:=5) sc.nd rfl (by first | exact Or.inl rfl | exact Or.inr rfl) (z0r clawrecent hr (by rfl) z1h (z0a (pv 4) (z0a (z0u z0q (pv 1) z0e (λ _ _=>rfl)) z0c)))) (z0d (z0x (i:=6) sc.nd rfl (by first | exact Or.inl rfl | exact Or.inr rfl) (z0u z0q (pv 2) (pv 5) (λ _ _=>rfl))) (z0d (z0x (i:=7) sc.nd rfl (by first | exact Or.inl rfl | exact Or.inr rfl) (z0s z2c (z0u z0q (pv 1) z0e (λ _ _=>rfl)) (z0o z0j (by rfl) zlen PySem.boot_len (z0a (pv 6) z0c)))) (z0d (z0x (i:=8) sc.nd rfl (by first | exact Or.inl rfl | exact Or.inr rfl) (z1w (z0a z0p (z0a z0p (z0a z0p (z0a z0p (z0a z0p (z0a z0p (z0a z0p z0c))))))))) (z0d (z0z (z0i z1f (pv 0) z0e (z0n _)) (z0g (z0l (z0w (z0a (z0w (z0a z0p (z0a (z0u z0q (pv 8) (z0s z1x (z0u z0q (pv 1) z0e (λ _ _=>rfl)) z0e) (λ _ _=>rfl)) (z0a (pv 5) (z0a (pv 7) z0c))))) (z0a (z0s z1s (z1i z1u (pv 6) z1o (z1k (pv 7))) (z1i z1u (pv 6) (z1k (z0s z1y (pv 7) z0e)) z1o)) z0c))))) z0k) (z0d (z0z (z0i z1f (pv 0) z0e (z0n _)) (z0g (z0l (z0w (z0a (z0w (z0a z0p (z0a (z0u z0q (pv 8) (z0s z1x (z0u z0q (pv 1) z0e (λ _ _=>rfl)) z0e) (λ _ _=>rfl)) (z0a (pv 5) (z0a (pv 7) z0c))))) (z0a (pv 6) z0c))))) z0k) (z0d (z0x (i:=9) sc.nd rfl (by first | exact Or.inl rfl | exact Or.inr rfl) (z1w (z0a (z0w z0c) z0c))) (z0d (z0z (z0i z1f (pv 0) z0e (z0n _)) (z0g (z0x (i:=9) sc.nd rfl (by first | exact Or.inl rfl | exact Or.inr rfl) (z3d (own:=["other"]) (fv:=["own", "side"]) (js:=[6,7]) rfl (z2s (pv 2)) rfl (by decide) rfl (by decide) (by first | exact λ _ _ h=>h | exact z2h rfl | exact z2g rfl rfl | exact z2f rfl rfl rfl) (z2w (by rfl)) rfl (x4o (by first | exact ⟨rfl,.inl rfl,.inl rfl⟩ | exact ⟨rfl,.inl rfl,.inr rfl⟩) (by first | exact ⟨rfl,.inl rfl,.inl rfl⟩ | exact ⟨rfl,.inl rfl,.inr rfl⟩)) (λ _ _ _ _=>(z1d (i:=0) (show (["other", "own", "side"]:List Str).Nodup by decide +kernel) rfl (Or.inl rfl))) (λ _ _ _ _=>(z0r clawboth hr (by rfl) z1h (z0a (pv 1) (z0a (pv 0) (z0a (pv 2) z0c)))))))) (z0g (z0z (z0i z4q (z0u z0t (pv 6) z0e (λ _ _=>rfl)) z0e (z0n _)) (z0g (z0x (i:=9) sc.nd rfl (by first | exact Or.inl rfl | exact Or.inr rfl) (z3d (own:=["other"]) (fv:=["own"]) (js:=[6]) rfl (z2s (pv 2)) rfl (by decide) rfl (by decide) (by first | exact λ _ _ h=>h | exact z2h rfl | exact z2g rfl rfl | exact z2f rfl rfl rfl) (z2w (by rfl)) rfl (y9d (by first | exact ⟨rfl,.inl rfl,.inl rfl⟩ | exact ⟨rfl,.inl rfl,.inr rfl⟩)) (λ _ _ _ _=>(z1d (i:=0) (show (["other", "own"]:List Str).Nodup by decide +kernel) rfl (Or.inl rfl))) (λ _ _ _ _=>(z0s z1s (pv 0) (z1i z1u (pv 1) (z1k z0e) z1o)))))) z0k))) (z0d (z3v (own:=["k"]) (fv:=["kind", "made", "own"]) (js:=[0,9,6]) sc.nd (i:=10) rfl (by first | exact Or.inl rfl | exact Or.inr rfl) (by first | exact Or.inl rfl | exact Or.inr rfl) rfl (z3a (by rfl) zrange (z0a (z0o z0j (by rfl) zlen PySem.boot_len (z0a (pv 9) z0c)) z0c)) rfl (by decide) rfl (by decide) (by first | exact λ _ _ h=>h | exact z2h rfl | exact z2g rfl rfl | exact z2f rfl rfl rfl) (z2w (by rfl)) rfl (x5w (by first | exact ⟨rfl,.inl rfl,.inl rfl⟩ | exact ⟨rfl,.inl rfl,.inr rfl⟩) (by first | exact ⟨rfl,.inl rfl,.inl rfl⟩ | exact ⟨rfl,.inl rfl,.inr rfl⟩) (by first | exact ⟨rfl,.inl rfl,.inl rfl⟩ | exact ⟨rfl,.inl rfl,.inr rfl⟩)) (λ _ _ _ _=>(z1d (i:=0) (show (["k", "kind", "made", "own"]:List Str).Nodup by decide +kernel) rfl (Or.inl rfl))) (λ _ _ _ _=>(pv 0)) (λ _ _ _ _=>(PW.pt (z5b (PW.pt (z5c (z0i z1f (pv 1) z0e (z0n _)) (z3q (z0i z4q (z0u z0t (pv 3) z0e (λ _ _=>rfl)) z0e (z0n _))))) (z3u (z0i (y4f (K:=K) rfl hr.units0) (z0u z0q (pv 2) (pv 0) (λ _ _=>rfl)) (z0w z0c) (z0n _))))))) (z0d (z3v (own:=["k"]) (fv:=["most", "made"]) (js:=[3,9]) sc.nd (i:=10) rfl (by first | exact Or.inl rfl | exact Or.inr rfl) (by first | exact Or.inl rfl | exact Or.inr rfl) rfl (z2s (pv 10)) rfl (by decide) rfl (by decide) (by first | exact λ _ _ h=>h | exact z2h rfl | exact z2g rfl rfl | exact z2f rfl rfl rfl) (z2w (by rfl)) rfl (x4o (by first | exact ⟨rfl,.inl rfl,.inl rfl⟩ | exact ⟨rfl,.inl rfl,.inr rfl⟩) (by first | exact ⟨rfl,.inl rfl,.inl rfl⟩ | exact ⟨rfl,.inl rfl,.inr rfl⟩)) (λ _ _ _ _=>(z1d (i:=0) (show (["k", "most", "made"]:List Str).Nodup by decide +kernel) rfl (Or.inl rfl))) (λ _ _ _ _=>(pv 0)) (λ _ _ _ _=>(PW.pt (z5c (z0i y7o (z0o ((z4g (K:=K) rfl)) (by rfl) zlen PySem.boot_len (z0a (z0u z0q (pv 2) (pv 0) (λ _ _=>rfl)) z0c)) z0e (z0n _)) (z3q (z0i y7o (z0r clawwide hr (by rfl) z1h (z0a (z0u z0q (pv 2) (pv 0) (λ _ _=>rfl)) z0c)) (pv 1) (z0n _))))))) (z0d (z0z (z0i z1f (z0o z0j (by rfl) zlen PySem.boot_len (z0a (pv 10) z0c)) z0e (z0n _)) (z0g (z0l (z0w (z0a (z0w (z0a z0p (z0a (pv 5) (z0a (pv 7) z0c)))) (z0a (pv 6) z0c))))) z0k) (z0d (z0x (i:=11) sc.nd rfl (by first | exact Or.inl rfl | exact Or.inr rfl) (z0r clawrecent hr (by rfl) z1h (z0a (pv 10) (z0a (z0u z0q (pv 1) z0e (λ _ _=>rfl)) z0c)))) (z0d (z0z (z0i z1f (pv 0) z0e (z0n _)) (z0g (z0l (z0w (z0a (z0w (z0a z0p (z0a (pv 5) (z0a (pv 11) (z0a (pv 7) z0c))))) (z0a (z0u z0q (pv 9) (pv 11) (λ _ _=>rfl)) z0c))))) z0k) (z0g (z0l (z0w (z0a (z0w (z0a z0p (z0a (pv 5) (z0a (pv 11) z0c)))) (z0a (z0u z0q (pv 9) (pv 11) (λ _ _=>rfl)) z0c))))))))))))))))))),?_⟩
 simp only [L2.start,List.length_cons,List.length_nil,List.replicate,List.cons_append,List.nil_append,Nat.reduceSub,Nat.reduceAdd,List.map_cons,List.map_nil]
 have n4:=hsd.1
 obtain ⟨j0,j0l,j0e⟩:=List.mem_iff_getElem.mp S0m
 have j0e':Ss[j0]?=some S0:=by rw [List.getElem?_eq_getElem j0l,j0e]
 refine z0h (λ σ G=>Same H G/\∃(si:Addr) (ks:List Int),G si=some (.lst (ks.map V.int))/\(∀k,k∈ks ↔ ∃j:Nat,k=j/\j < Ss.length/\∃S,Ss[j]?=some S/\0 < S.length)/\σ=[some (.int kd),some (.ref dl),some (.ref sl),some (.int mo),some (.ref si),none,none,none,none,none,none,none]) ?_ (λ R hR=>?_)
 rotate_left
 ·wp_walk using rRepT,tSeq,tIfS
  refine ⟨_,.inl (.of hs),?_⟩
  rw [List.length_map,ht.1]
  refine ⟨by omega,by omega,?_⟩
  rw [Int.toNat_natCast]
  refine x4e (by omega) (λ j=>∃S,Ss[j]?=some S/\0 < S.length) [some (.ref sl)] rfl (λ j y G Rt Rf jl u ht1 hf1=>?_) (λ ks G p u hp hk kl=>hR _ _ ⟨u.trans (z0b hp _),p,ks,z0f,hk,rfl⟩)
  obtain ⟨pk,B,ek,eB,hB⟩:=z2r (ht.same u) jl
  wp_walk using rRepT,tSeq,tIfS
  refine ⟨_,u _ _ hs,_,ek,Nat.zero_le _,λ p0 hp0=>⟨_,rfl,_,.of (z0b hp0 _ _ _ hB),_,.of z0f,z1j _,rfl,?_⟩⟩
  rw [show ([]:List V)=([]:List Int).map V.int from rfl,z2b]
  by_cases c:B=[]
  ·rw [decide_eq_true c]
   exact hf1 _ (u.trans (z0b hp0 _)) λ ⟨S,e,z⟩=>by cases eB.symm.trans e;rw [c] at z;exact absurd z (Nat.lt_irrefl _)
  ·rw [decide_eq_false c]
   exact ht1 _ (u.trans (z0b hp0 _)) ⟨B,eB,List.length_pos_iff.mpr c⟩
 rintro σ1 G1 ⟨s1,si,ks,hsi,hk,rfl⟩
 have kpos:0 < ks.length:=List.length_pos_of_mem ((hk j0).mpr ⟨j0,rfl,j0l,S0,j0e',S0l⟩)
 refine z0h (λ σ G=>G=G1/\∃(a:Nat) (A:List Int) (pa:Addr),Ss[a]?=some A/\0 < A.length/\atI (ps.map V.ref) (a:Int)=some (.ref pa)/\Tp G pa A/\σ=[some (.int kd),some (.ref dl),some (.ref sl),some (.int mo),some (.ref si),some (.int (a:Int)),none,none,none,none,none,none]) ?_ (λ R hR=>?_)
 rotate_left
 ·wp_walk using rRepT,tSeq,tIfS,splawrecent
  refine ⟨_,s1 _ _ hd,_,z0m (j:=0) rfl,ks,d0,rfl,hsi,kpos,λ k hkm=>?_⟩
  obtain ⟨a,rfl,al,A,eA,A0⟩:=(hk k).mp hkm
  obtain ⟨pa,A',ea,eA',hA⟩:=z2r (ht.same s1) al
  cases eA'.symm.trans eA
  exact hR _ _ ⟨rfl,a,A,pa,eA,A0,ea,hA,rfl⟩
 rintro σ2 G2 ⟨rfl,a,A,pa,eA,A0,ea,hA,rfl⟩
 have fA:=hsd.2 _ (List.mem_of_getElem? eA)
 have a6:=fA.2.1
 have hd2:=s1 _ _ hd
 have hs2:=s1 _ _ hs
 refine z0h (λ σ G=>G=G2/\σ=[some (.int kd),some (.ref dl),some (.ref sl),some (.int mo),some (.ref si),some (.int (a:Int)),some (.ref pa),none,none,none,none,none]) ?_ (λ R hR=>?_)
 rotate_left
 ·wp_walk using rRepT,tSeq,tIfS
  exact ⟨_,hs2,_,ea,hR _ _ ⟨rfl,rfl⟩⟩
 rintro σ3 G3 ⟨rfl,rfl⟩
 refine z0h (λ σ G=>G=G3/\∃k:Nat,k < A.length/\σ=[some (.int kd),some (.ref dl),some (.ref sl),some (.int mo),some (.ref si),some (.int (a:Int)),some (.ref pa),some (.int (k:Int)),none,none,none,none]) ?_ (λ R hR=>?_)
 rotate_left
 ·wp_walk using rRepT,tSeq,tIfS
  refine ⟨_,hd2,_,z0m (j:=1) rfl,_,.inr (.of hA),_,rfl,?_⟩
  rw [z0v]
  have f0:=Int.fmod_nonneg_of_pos d1 (show (0:Int) < (A.length:Int) by omega)
  have f1:=Int.fmod_lt_of_pos d1 (show (0:Int) < (A.length:Int) by omega)
  obtain ⟨k,hk⟩:∃k:Nat,d1.fmod (A.length:Int)=k:=⟨_,(Int.toNat_of_nonneg f0).symm⟩
  rw [hk] at f1 ⊢
  exact ⟨by omega,hR _ _ ⟨rfl,k,by omega,rfl⟩⟩
 rintro σ4 G4 ⟨rfl,k,kl,rfl⟩
 refine z0h (λ σ G=>Same G4 G/\∃wl,G wl=some (.lst (fw.map V.str))/\σ=[some (.int kd),some (.ref dl),some (.ref sl),some (.int mo),some (.ref si),some (.int (a:Int)),some (.ref pa),some (.int (k:Int)),some (.ref wl),none,none,none]) ?_ (λ R hR=>?_)
 rotate_left
 ·wp_walk using rRepT,tSeq,tIfS
  exact ⟨small (by decide),λ l hl=>hR _ _ ⟨z0b hl _,l,z0f,rfl⟩⟩
 rintro σ5 G5 ⟨s5,wl,hwl,rfl⟩
 have hd5:=s5 _ _ hd2
 have hs5:=s5 _ _ hs2
 have hA5:=s5 _ _ hA
 have t5:=s1.trans s5
 obtain ⟨w,hw,wm⟩:=z9g fw (k:=d2 % 7) (by omega) (by show d2 % 7 < ((7:Nat):Int);omega)
 refine z0h (λ σ G=>G=G5/\¬kd=13/\σ=[some (.int kd),some (.ref dl),some (.ref sl),some (.int mo),some (.ref si),some (.int (a:Int)),some (.ref pa),some (.int (k:Int)),some (.ref wl),none,none,none]) ?_ (λ R hR=>?_)
 rotate_left
 ·wp_walk using rRepT,tSeq,tIfS
  split
  rotate_left
  ·exact hR _ _ ⟨rfl,‹_›,rfl⟩
  refine ⟨_,hd5,_,z0m (j:=2) rfl,_,rfl,_,hwl,_,hw,small (by decide),λ p hp=>⟨_,z0b hp _ _ _ hA5,λ r1 H1 u1 h1=>⟨_,u1 _ _ (z0b hp _ _ _ hA5),λ r2 H2 u2 h2=>?_⟩⟩⟩
  rw [z2k] at h1
  rw [show (k:Int)+1=((k+1:Nat):Int) by omega,z2l] at h2
  refine ⟨_,u2 _ _ h1,_,h2,small (by simp only [List.length_map,List.length_take,List.length_drop];omega),λ r3 H3 u3 h3=>⟨small (by decide),λ p1 hp1=>?_⟩⟩
  rw [← List.map_append,← List.eraseIdx_eq_take_drop_succ] at h3
  exact q _ p1 (t5.trans ((z0b hp _).trans (u1.trans (u2.trans (u3.trans (z0b hp1 _)))))) ⟨p,r3,.fold w a k,A.eraseIdx k,z0f,z0b hp1 _ _ _ (u3 _ _ (u2 _ _ (u1 _ _ z0f))),z0b hp1 _ _ _ h3,⟨A,eA,wm,by unfold off;omega,by rw [Int.toNat_natCast]⟩,y2n fA⟩
 rintro σ6 G6 ⟨rfl,n13,rfl⟩
 refine z0h (λ σ G=>G=G6/\¬kd=14/\σ=[some (.int kd),some (.ref dl),some (.ref sl),some (.int mo),some (.ref si),some (.int (a:Int)),some (.ref pa),some (.int (k:Int)),some (.ref wl),none,none,none]) ?_ (λ R hR=>?_)
 rotate_left
 ·wp_walk using rRepT,tSeq,tIfS
  split
  rotate_left
  ·exact hR _ _ ⟨rfl,‹_›,rfl⟩
  exact ⟨_,hd5,_,z0m (j:=2) rfl,_,rfl,_,hwl,_,hw,small (by decide),λ p hp=>⟨small (by decide),λ p1 hp1=>q _ p1 (t5.trans ((z0b hp _).trans (z0b hp1 _))) ⟨p,pa,.run w a k,A,z0f,z0b hp1 _ _ _ z0f,z0b hp1 _ _ _ (z0b hp _ _ _ hA5),⟨eA,wm,by unfold off;omega⟩,fA⟩⟩⟩
 rintro σ7 G7 ⟨rfl,n14,rfl⟩
 refine z0h (λ σ G=>Same G7 G/\∃(md pe:Addr),G md=some (.lst [.ref pe])/\Tp G pe []/\σ=[some (.int kd),some (.ref dl),some (.ref sl),some (.int mo),some (.ref si),some (.int (a:Int)),some (.ref pa),some (.int (k:Int)),some (.ref wl),some (.ref md),none,none]) ?_ (λ R hR=>?_)
 rotate_left
 ·wp_walk using rRepT,tSeq,tIfS
  exact ⟨Nat.zero_le _,λ p hp=>⟨small (by decide),λ p1 hp1=>hR _ _ ⟨(z0b hp _).trans (z0b hp1 _),p1,p,z0f,z0b hp1 _ _ _ z0f,rfl⟩⟩⟩
 rintro σ8 G8 ⟨s8,md0,pe,hmd0,hpe,rfl⟩
 have hA8:=s8 _ _ hA5
 have hs8:=s8 _ _ hs5
 have t8:=t5.trans s8
 have at0:atI (A.map V.int) 0=some (.int (A.getD 0 0)):=z5o (k:=0) A0
 refine z0h (λ σ G=>Same G8 G/\∃(md:Addr) (qs:List Addr) (Ms:List (List Int)),G md=some (.lst (qs.map V.ref))/\TpsM G qs Ms/\Md kd A k Ss Ms/\σ=[some (.int kd),some (.ref dl),some (.ref sl),some (.int mo),some (.ref si),some (.int (a:Int)),some (.ref pa),some (.int (k:Int)),some (.ref wl),some (.ref md),none,none]) ?_ (λ R hR=>?_)
 rotate_left
 ·wp_walk using rRepT,tSeq,tIfS
  split
  ·rename_i c11
   refine x5q hs8 (by omega) (ht.same t8) (λ B=>bothL A B k) [some (.ref pa),some (.int (k:Int))] rfl (λ p S y G Rt hS u hp ht1=>?_) (λ qs G p u hp tq=>hR _ _ ⟨u.trans (z0b hp _),p,qs,_,z0f,tq.same (z0b hp _),.inl ⟨c11,rfl⟩,rfl⟩)
   wp_walk using rRepT,tSeq,tIfS,splawboth
   exact ⟨A,S,k,rfl,u _ _ hA8,hp,kl,a6,(hsd.2 S hS).2.1,λ G' r u' h=>ht1 _ _ u' h⟩
  ·rename_i c11
   refine ⟨_,hA8,_,at0,_,rfl,?_⟩
   split
   ·rename_i cA
    refine x5q hs8 (by omega) (ht.same t8) (λ B=>B++A.drop 1) [some (.ref pa)] rfl (λ p S y G Rt hS u hp ht1=>?_) (λ qs G p u hp tq=>hR _ _ ⟨u.trans (z0b hp _),p,qs,_,z0f,tq.same (z0b hp _),.inr (.inl ⟨by omega,cA,rfl⟩),rfl⟩)
    wp_walk using rRepT,tSeq,tIfS
    refine ⟨_,u _ _ hA8,λ r1 H1 u1 h1=>?_⟩
    rw [show (1:Int)=((1:Nat):Int) from rfl,z2l] at h1
    have s6:=(hsd.2 S hS).2.1
    refine ⟨_,u1 _ _ hp,_,h1,small (by simp only [List.length_map,List.length_drop];omega),λ r2 H2 u2 h2=>ht1 _ _ (u1.trans u2) ?_⟩
    show _=_;rw [h2,List.map_append]
   ·rename_i cA
    exact hR _ _ ⟨Same.refl _,md0,[pe],[[]],hmd0,⟨rfl,λ i p e=>by
     match i,e with
     | 0,e=>cases e;exact ⟨[],rfl,hpe⟩⟩,.inr (.inr ⟨c11,cA,rfl⟩),rfl⟩
 rintro σ9 G9 ⟨s9,md,qs,Ms,hmd,tq,hM,rfl⟩
 have hA9:=s9 _ _ hA8
 have t9:=t8.trans s9
 have ml:=x3n hM n4
 have mb:=x5u hM fA hsd.2 hmo
 refine z0h (λ σ G=>Same G9 G/\∃(f1:Addr) (ks:List Int),G f1=some (.lst (ks.map V.int))/\ks.length≤40/\(∀k,k∈ks ↔ ∃j:Nat,k=j/\j < Ms.length/\((kd=12/\0 < A.getD 0 0)\/∃M,Ms[j]?=some M/\¬M=[]))/\σ=[some (.int kd),some (.ref dl),some (.ref sl),some (.int mo),some (.ref si),some (.int (a:Int)),some (.ref pa),some (.int (k:Int)),some (.ref wl),some (.ref md),some (.ref f1),none]) ?_ (λ R hR=>?_)
 rotate_left
 ·wp_walk using rRepT,tSeq,tIfS
  refine ⟨_,.inl (.of hmd),?_⟩
  rw [List.length_map,tq.1]
  refine ⟨by omega,by omega,?_⟩
  rw [Int.toNat_natCast]
  refine x4e (by omega) (λ j=>(kd=12/\0 < A.getD 0 0)\/∃M,Ms[j]?=some M/\¬M=[]) [some (.int kd),some (.ref md),some (.ref pa)] rfl (λ j y G Rt Rf jl u ht1 hf1=>?_) (λ ks G p u hp hk kl=>hR _ _ ⟨u.trans (z0b hp _),p,ks,z0f,by omega,hk,rfl⟩)
  obtain ⟨pk,M,ek,eM,hMj⟩:=z2r (tq.same u) jl
  wp_walk using rRepT,tSeq,tIfS
  by_cases c12:kd=12
  ·rw [if_pos c12]
   refine ⟨_,u _ _ hA9,_,at0,_,rfl,?_⟩
   by_cases cA:0 < A.getD 0 0
   ·rw [if_pos cA]
    exact ht1 _ u (.inl ⟨c12,cA⟩)
   ·rw [if_neg cA]
    refine ⟨_,u _ _ hmd,_,ek,Nat.zero_le _,λ p0 hp0=>⟨_,rfl,_,.of (z0b hp0 _ _ _ hMj),_,.of z0f,z1j _,rfl,?_⟩⟩
    rw [show ([]:List V)=([]:List Int).map V.int from rfl,z2b]
    by_cases cM:M=[]
    ·rw [decide_eq_true cM,if_neg (by decide)]
     exact hf1 _ (u.trans (z0b hp0 _)) (λ z=>z.elim (λ z=>cA z.2) λ ⟨M2,e2,y⟩=>by cases eM.symm.trans e2;exact y cM)
    ·rw [decide_eq_false cM,if_pos rfl]
     exact ht1 _ (u.trans (z0b hp0 _)) (.inr ⟨M,eM,cM⟩)
  ·rw [if_neg c12]
   refine ⟨_,u _ _ hmd,_,ek,Nat.zero_le _,λ p0 hp0=>⟨_,rfl,_,.of (z0b hp0 _ _ _ hMj),_,.of z0f,z1j _,rfl,?_⟩⟩
   rw [show ([]:List V)=([]:List Int).map V.int from rfl,z2b]
   by_cases cM:M=[]
   ·rw [decide_eq_true cM,if_neg (by decide)]
    exact hf1 _ (u.trans (z0b hp0 _)) (λ z=>z.elim (λ z=>c12 z.1) λ ⟨M2,e2,y⟩=>by cases eM.symm.trans e2;exact y cM)
   ·rw [decide_eq_false cM,if_pos rfl]
    exact ht1 _ (u.trans (z0b hp0 _)) (.inr ⟨M,eM,cM⟩)
 rintro σ10 G10 ⟨s10,f1,ks1,hf1,k1l,hk1,rfl⟩
 refine z0h (λ σ G=>Same G10 G/\∃(f2:Addr) (ls:List Int),G f2=some (.lst (ls.map V.int))/\(∀k,k∈ls ↔ k∈ks1/\∃M,Ms[k.toNat]?=some M/\M.length≤6/\prodI (M.map one1)≤mo)/\σ=[some (.int kd),some (.ref dl),some (.ref sl),some (.int mo),some (.ref si),some (.int (a:Int)),some (.ref pa),some (.int (k:Int)),some (.ref wl),some (.ref md),some (.ref f2),none]) ?_ (λ R hR=>?_)
 rotate_left
 ·wp_walk using rRepT,tSeq,tIfS
  refine x1x hf1 (by omega) (λ k=>∃M,Ms[k.toNat]?=some M/\M.length≤6/\prodI (M.map one1)≤mo) [some (.int mo),some (.ref md)] rfl (λ x y G Rt Rf hx u ht1 hf1=>?_) (λ ls G p u hp hk2 kl2=>hR _ _ ⟨u.trans (z0b hp _),p,ls,z0f,hk2,rfl⟩)
  obtain ⟨j,rfl,jl,_⟩:=(hk1 x).mp hx
  obtain ⟨pk,M,ek,eM,hMj⟩:=z2r (tq.same (s10.trans u)) jl
  wp_walk using rRepT,tSeq,tIfS,splawwide
  refine ⟨_,(s10.trans u) _ _ hmd,_,ek,_,rfl,_,.inr (.of hMj),?_⟩
  rw [z0v]
  by_cases c6:M.length≤6
  ·rw [if_pos (by omega)]
   refine ⟨_,(s10.trans u) _ _ hmd,_,ek,pk,rfl,M,hMj,y2x (mb M (List.mem_of_getElem? eM)),by omega,λ G' u'=>?_⟩
   split
   ·exact ht1 _ (u.trans u') ⟨M,eM,c6,‹_›⟩
   ·rename_i cw
    exact hf1 _ (u.trans u') λ ⟨M2,e2,y1,y2⟩=>by rw [Int.toNat_natCast] at e2;cases eM.symm.trans e2;exact cw y2
  ·rw [if_neg (by omega)]
   exact hf1 _ u λ ⟨M2,e2,y1,_⟩=>by rw [Int.toNat_natCast] at e2;cases eM.symm.trans e2;exact c6 y1
 rintro σ11 G11 ⟨s11,f2,ls,hf2,hl,rfl⟩
 have t11:=t9.trans (s10.trans s11)
 have hA11:=(s10.trans s11) _ _ hA9
 refine z0h (λ σ G=>G=G11/\0 < ls.length/\σ=[some (.int kd),some (.ref dl),some (.ref sl),some (.int mo),some (.ref si),some (.int (a:Int)),some (.ref pa),some (.int (k:Int)),some (.ref wl),some (.ref md),some (.ref f2),none]) ?_ (λ R hR=>?_)
 rotate_left
 ·wp_walk using rRepT,tSeq,tIfS
  refine ⟨_,.inl (.of hf2),?_⟩
  rw [z0v]
  split
  ·exact ⟨small (by decide),λ p hp=>⟨small (by decide),λ p1 hp1=>q _ p1 (t11.trans ((z0b hp _).trans (z0b hp1 _))) ⟨p,pa,.flip a k,A,z0f,z0b hp1 _ _ _ z0f,z0b hp1 _ _ _ (z0b hp _ _ _ hA11),⟨eA,by unfold off;omega⟩,fA⟩⟩⟩
  ·exact hR _ _ ⟨rfl,by omega,rfl⟩
 rintro σ12 G12 ⟨rfl,l0,rfl⟩
 refine z0h (λ σ G=>G=G12/\∃(b:Nat) (M:List Int) (pm:Addr),b < Ms.length/\Ms[b]?=some M/\((kd=12/\0 < A.getD 0 0)\/¬M=[])/\M.length≤6/\prodI (M.map one1)≤mo/\atI (qs.map V.ref) (b:Int)=some (.ref pm)/\Tp G pm M/\σ=[some (.int kd),some (.ref dl),some (.ref sl),some (.int mo),some (.ref si),some (.int (a:Int)),some (.ref pa),some (.int (k:Int)),some (.ref wl),some (.ref md),some (.ref f2),some (.int (b:Int))]) ?_ (λ R hR=>?_)
 rotate_left
 ·wp_walk using rRepT,tSeq,tIfS,splawrecent
  refine ⟨_,t11 _ _ hd,_,z0m (j:=2) rfl,ls,d2,rfl,hf2,l0,λ x hx=>?_⟩
  obtain ⟨xm,M,eM,m6,mw⟩:=(hl x).mp hx
  obtain ⟨b,rfl,bl,hb⟩:=(hk1 x).mp xm
  rw [Int.toNat_natCast] at eM
  obtain ⟨pm,M',em,eM',hMb⟩:=z2r (tq.same (s10.trans s11)) bl
  cases eM'.symm.trans eM
  exact hR _ _ ⟨rfl,b,M,pm,bl,eM,hb.imp id λ ⟨M2,e2,z⟩=>by cases eM.symm.trans e2;exact z,m6,mw,em,hMb,rfl⟩
 rintro σ13 G13 ⟨rfl,b,M,pm,bl,eM,hb,m6,mw,em,hMb,rfl⟩
 have nb:=x5b hmo m6 mw
 have fM:=y0p (λ n hn=>(mb M (List.mem_of_getElem? eM) n hn).1) m6 mw
 have hmd13:=(s10.trans s11) _ _ hmd
 refine z0h (λ σ G=>G=G13/\¬kd=11/\σ=[some (.int kd),some (.ref dl),some (.ref sl),some (.int mo),some (.ref si),some (.int (a:Int)),some (.ref pa),some (.int (k:Int)),some (.ref wl),some (.ref md),some (.ref f2),some (.int (b:Int))]) ?_ (λ R hR=>?_)
 rotate_left
 ·wp_walk using rRepT,tSeq,tIfS
  split
  rotate_left
  ·exact hR _ _ ⟨rfl,‹_›,rfl⟩
  rename_i c11
  have mne:¬M=[]:=hb.elim (λ z=>by omega) id
  obtain ⟨B,eB,rfl⟩:∃B,Ss[b]?=some B/\M=bothL A B k:=by
   rcases hM with ⟨_,rfl⟩ | ⟨z,_⟩ | ⟨z,_⟩
   ·rw [List.getElem?_map] at eM
    cases hx:Ss[b]? with
    | none=>rw [hx] at eM;cases eM
    | some B=>rw [hx] at eM;cases eM;exact ⟨B,rfl,rfl⟩
   ·omega
   ·exact absurd c11 z
  obtain ⟨j1,j2,j3⟩:=y6m mne
  exact ⟨small (by decide),λ p hp=>⟨_,z0b hp _ _ _ hmd13,_,em,small (by decide),λ p1 hp1=>q _ p1 (t11.trans ((z0b hp _).trans (z0b hp1 _))) ⟨p,pm,.join a b k,bothL A B k,z0f,z0b hp1 _ _ _ z0f,z0b hp1 _ _ _ (z0b hp _ _ _ hMb),⟨A,B,eA,eB,j1,by unfold off;omega,by rw [Int.toNat_natCast];exact j2,by rw [← j3];exact nb,j3⟩,fM⟩⟩⟩
 rintro σ14 G14 ⟨rfl,n11,rfl⟩
 wp_walk using rRepT,tSeq,tIfS
 have k12:kd=12:=by omega
 obtain ⟨n,r,rfl⟩:∃n r,A=n::r:=by
  match A,A0 with
  | n::r,_=>exact ⟨n,r,rfl⟩
 obtain ⟨B,n0,eB,rfl⟩:∃B,0 < n/\Ss[b]?=some B/\M=B++r:=by
  rcases hM with ⟨z,_⟩ | ⟨_,z,rfl⟩ | ⟨_,z,rfl⟩
  ·exact absurd z n11
  ·rw [List.getElem?_map] at eM
   cases hx:Ss[b]? with
   | none=>rw [hx] at eM;cases eM
   | some B=>rw [hx] at eM;cases eM;exact ⟨B,z,rfl,rfl⟩
  ·rcases hb with y | y
   ·exact absurd y.2 z
   ·match b,eM with
    | 0,eM=>cases eM;exact absurd rfl y
 exact ⟨small (by decide),λ p hp=>⟨_,z0b hp _ _ _ hmd13,_,em,small (by decide),λ p1 hp1=>q _ p1 (t11.trans ((z0b hp _).trans (z0b hp1 _))) ⟨p,pm,.fetch a b,B++r,z0f,z0b hp1 _ _ _ z0f,z0b hp1 _ _ _ (z0b hp _ _ _ hMb),⟨n,r,B,eA,by omega,eB,nb,rfl⟩,fM⟩⟩⟩
abbrev slawstep:Stmt:=top 72
theorem y3c:FnScope ["cell", "sides", "most", "n", "kind", "d", "a"] ["cell", "sides", "most"] (defScope slawstep):=⟨rfl,rfl,rfl,by decide +kernel,rfl,by decide +kernel,by decide +kernel⟩
theorem y4l (F:Fun K "_law_step" "_law_step" slawstep f fd) (clawbegun:Callee P w K mg base CX0 (3) "_law_begun" ["kind", "n", "cell", "most"] splawbegun) (clawlifted:Callee P w K mg base CX0 (3) "_law_lifted" ["kind", "d", "sides"] spllifted) (clawmet:Callee P w K mg base CX0 (3) "_law_met" ["kind", "d", "sides", "most"] splmet) (clawrecent:Callee P w K mg base CX0 (3) "_law_recent" ["pool", "d"] splawrecent) (clawmoved:Callee P w K mg base CX0 (3) "_law_moved" ["kind", "d", "a", "own", "most"] (splmoved K)) (zlen:mg "len" = none) (zmax:mg "max" = none) (zlist:mg "list" = none) (zrange:mg "range" = none) (zmin:mg "min" = none) (zint:mg "int" = none):FnOk P w K mg base CX0 (4) f fd ["cell", "sides", "most"] (splstep):=by
 have sc:=y3c
 refine F.ok sc (λ vs H Q E h=>?_) (λ cdv A outer s H vs Q E hr h=>?_)
 ·obtain ⟨sl,cell,mo,ps,Ss,rfl,_⟩:=h;rfl
 obtain ⟨sl,cell,mo,ps,Ss,rfl,hs,ht,hsd,hmo,q⟩:=h
 refine ⟨_,(z0d (z0x (i:=3) sc.nd rfl (by first | exact Or.inl rfl | exact Or.inr rfl) (z0s z2c (z0s z4o (pv 0) z0e) z0e)) (z0d (z0x (i:=4) sc.nd rfl (by first | exact Or.inl rfl | exact Or.inr rfl) (z0s z1x (pv 3) z0e)) (z0d (z0x (i:=5) sc.nd rfl (by first | exact Or.inl rfl | exact Or.inr rfl) (z1w (z0a (z0s z1x (z0s z2j (pv 3) z0e) z0e) (z0a (z0s z1x (z0s z2j (pv 3) z0e) z0e) (z0a (z0s z2j (pv 3) z0e) z0c))))) (z0d (z0z (PW.pt (z5b (z0i z1f (z0o z0j (by rfl) zlen PySem.boot_len (z0a (pv 1) z0c)) z0e (z0n _)) (z3u (z0i z4a (pv 4) z0e (z0n _))))) (z0g (z0l (z0r clawbegun hr (by rfl) z1h (z0a (z0s z1x (pv 4) z0e) (z0a (pv 3) (z0a (pv 0) (z0a (pv 2) z0c))))))) z0k) (z0d (z0z (z0i z4a (pv 4) z0e (z0n _)) (z0g (z0l (z0r clawlifted hr (by rfl) z1h (z0a (pv 4) (z0a (pv 5) (z0a (pv 1) z0c)))))) z0k) (z0d (z0z (PW.pt (z5c (z0i z4q (pv 4) z0e (z0n _)) (z3q (z0i z4q (z0o (y9e rfl) (by rfl) zmax boot_max (z0a (z6z (own:=["own"]) rfl (z2s (pv 1)) (by decide) (by decide) rfl (by decide) (λ _ _ _ _=>(z1d (i:=0) (show (["own"]:List Str).Nodup by decide +kernel) rfl (Or.inl rfl))) (λ _ _ _ _=>(z0o ((z4g (K:=K) rfl)) (by rfl) zlen PySem.boot_len (z0a (pv 0) z0c)))) z0c)) z0e (z0n _))))) (z0g (z0l (z0r clawmet hr (by rfl) z1h (z0a (pv 4) (z0a (pv 5) (z0a (pv 1) (z0a (pv 2) z0c))))))) z0k) (z0d (z0x (i:=6) sc.nd rfl (by first | exact Or.inl rfl | exact Or.inr rfl) (z0r clawrecent hr (by rfl) z1h (z0a (z1l (z3k rfl) (by rfl) zlist boot_list (z0a (z1l z3s (by rfl) zrange boot_range (z0a (z0o z0j (by rfl) zlen PySem.boot_len (z0a (pv 1) z0c)) z0c)) z0c)) (z0a (z0u z0q (pv 5) z0e (λ _ _=>rfl)) z0c)))) (z0g (z0l (z0r clawmoved hr (by rfl) z1h (z0a (z0o (z2t rfl) (by rfl) zmin boot_min (z0a (pv 4) (z0a (z0s z3b z0e (z1l y6k (by rfl) zint boot_int (z0a (z4h z4q (pv 4) z0e (z0n _)) z0c))) z0c))) (z0a (pv 5) (z0a (pv 6) (z0a (z0u z0q (pv 1) (pv 6) (λ _ _=>rfl)) (z0a (pv 2) z0c))))))))))))))),?_⟩
 simp only [L2.start,List.length_cons,List.length_nil,List.replicate,List.cons_append,List.nil_append,Nat.reduceSub,Nat.reduceAdd,List.map_cons,List.map_nil]
 have n4:=hsd.1
 refine z0h (λ σ G=>G=H/\∃n:Int,σ=[some (.int cell),some (.ref sl),some (.int mo),some (.int n),none,none,none]) ?_ (λ R hR=>?_)
 rotate_left
 ·wp_walk using rRepT,tSeq,tIfS
  exact ⟨by omega,hR _ _ ⟨rfl,_,rfl⟩⟩
 rintro σ1 G1 ⟨rfl,n,rfl⟩
 refine z0h (λ σ G=>G=G1/\∃kd:Int,0≤kd/\kd < 15/\σ=[some (.int cell),some (.ref sl),some (.int mo),some (.int n),some (.int kd),none,none]) ?_ (λ R hR=>?_)
 rotate_left
 ·wp_walk using rRepT,tSeq,tIfS
  exact hR _ _ ⟨rfl,_,by omega,by omega,rfl⟩
 rintro σ2 G2 ⟨rfl,kd,kd0,kd1,rfl⟩
 refine z0h (λ σ G=>Same G2 G/\∃(dl:Addr) (d0 d1 d2:Int),G dl=some (.lst [.int d0,.int d1,.int d2])/\σ=[some (.int cell),some (.ref sl),some (.int mo),some (.int n),some (.int kd),some (.ref dl),none]) ?_ (λ R hR=>?_)
 rotate_left
 ·wp_walk using rRepT,tSeq,tIfS
  exact ⟨small (by decide),λ l hl=>hR _ _ ⟨z0b hl _,l,_,_,_,z0f,rfl⟩⟩
 rintro σ3 G3 ⟨s3,dl,d0,d1,d2,hd,rfl⟩
 have hs3:=s3 _ _ hs
 have ht3:=ht.same s3
 refine z0h (λ σ G=>G=G3/\0 < Ss.length/\3≤kd/\σ=[some (.int cell),some (.ref sl),some (.int mo),some (.int n),some (.int kd),some (.ref dl),none]) ?_ (λ R hR=>?_)
 rotate_left
 ·wp_walk using rRepT,tSeq,tIfS,splawbegun
  refine ⟨_,.inl (.of hs3),?_⟩
  rw [List.length_map,ht.1]
  by_cases c:Ss.length=0
  ·rw [if_pos (by omega)]
   exact ⟨hmo,λ G r u h=>q _ r (s3.trans u) (h _)⟩
  ·rw [if_neg (by omega)]
   split
   ·exact ⟨hmo,λ G r u h=>q _ r (s3.trans u) (h _)⟩
   ·exact hR _ _ ⟨rfl,by omega,by omega,rfl⟩
 rintro σ4 G4 ⟨rfl,n0,kd3,rfl⟩
 refine z0h (λ σ G=>G=G4/\σ=[some (.int cell),some (.ref sl),some (.int mo),some (.int n),some (.int kd),some (.ref dl),none]) ?_ (λ R hR=>?_)
 rotate_left
 ·wp_walk using rRepT,tSeq,tIfS,spllifted
  split
  ·exact ⟨mo,d0,d1,d2,hd,ps,hs3,Ss,ht3,n0,hsd,λ G r u h=>q _ r (s3.trans u) h⟩
  ·exact hR _ _ ⟨rfl,rfl⟩
 rintro σ5 G5 ⟨rfl,rfl⟩
 refine z0h (λ σ G=>Same G5 G/\σ=[some (.int cell),some (.ref sl),some (.int mo),some (.int n),some (.int kd),some (.ref dl),none]) ?_ (λ R hR=>?_)
 rotate_left
 ·wp_walk using rRepT,tSeq,tIfS,splmet
  by_cases c:10 < kd
  rotate_left
  ·rw [if_neg (by omega)]
   exact hR _ _ ⟨Same.refl _,rfl⟩
  rw [if_pos (by omega)]
  refine CompL.mk (xs:=ps.map V.ref) (.of hs3) (λ i ys σ G=>G=G5/\i≤Ss.length/\ys=((Ss.take i).map (λ S=>(S.length:Int))).map V.int/\∃y,σ=[y]) ⟨rfl,Nat.zero_le _,rfl,_,rfl⟩ (λ i ys σ G _ h=>by rw [h.1];exact .of hs3) (λ i x ys σ G e h=>?_) (λ ys σ G h p hp=>?_)
  ·obtain ⟨rfl,hi,rfl,y,rfl⟩:=h
   obtain ⟨p,rfl,hp⟩:∃p,x=.ref p/\ps[i]?=some p:=by
    rw [List.getElem?_map] at e
    cases hx:ps[i]? with
    | none=>rw [hx] at e;cases e
    | some n=>rw [hx] at e;cases e;exact ⟨n,rfl,rfl⟩
   have il:=(List.getElem?_eq_some_iff.mp hp).1
   obtain ⟨S,eS,hS⟩:=ht3.2 i p hp
   have e1:((Ss.take (i+1)).map (λ S=>(S.length:Int))).map V.int=((Ss.take i).map (λ S=>(S.length:Int))).map V.int++[V.int (S.length:Int)]:=by rw [List.take_add_one,eS,List.map_append,List.map_append];rfl
   refine ⟨by rw [List.length_map,List.length_map,List.length_take];exact z1b (by omega),?_⟩
   wp_walk using rRepT,tSeq,tIfS,e1
   refine ⟨_,.inr (.of hS),?_⟩
   rw [z0v]
   exact ⟨by rw [ht.1] at il;exact il,rfl,_,rfl⟩
  ·obtain ⟨rfl,hi,rfl,y,rfl⟩:=h
   rw [List.length_map,ht.1,List.take_length]
   refine ⟨p,rfl,_,.of z0f,by rw [List.length_map];exact n0,λ M hM _=>?_⟩
   split
   ·exact ⟨d0,d1,d2,z0b hp _ _ _ hd,ps,z0b hp _ _ _ hs3,Ss,ht3.same (z0b hp _),x1h hM (by omega),by omega,by omega,hsd,hmo,λ G r u h=>q _ r (s3.trans ((z0b hp _).trans u)) h⟩
   ·exact hR _ _ ⟨z0b hp _,rfl⟩
 rintro σ6 G6 ⟨s6,rfl⟩
 refine z0h (λ σ G=>Same G6 G/\∃a:Nat,a < Ss.length/\σ=[some (.int cell),some (.ref sl),some (.int mo),some (.int n),some (.int kd),some (.ref dl),some (.int (a:Int))]) ?_ (λ R hR=>?_)
 rotate_left
 ·wp_walk using rRepT,tSeq,tIfS,splawrecent
  refine ⟨_,.inl (.of (s6 _ _ hs3)),λ r0 hr0=>⟨Ss.length,by rw [List.length_map,ht.1];rfl,by omega,λ l hl=>?_⟩⟩
  have u:=(z0b hr0 (.rng 0 (((ps.map V.ref).length:Nat):Int))).trans (z0b hl (.lst ((upL Ss.length).map V.int)))
  refine ⟨_,u _ _ (s6 _ _ hd),_,z0m (j:=0) rfl,upL Ss.length,d0,rfl,rfl,by rw [z4w];exact n0,λ k hk=>?_⟩
  obtain ⟨a,rfl,al⟩:=z5z hk
  exact hR _ _ ⟨u,a,al,rfl⟩
 rintro σ7 G7 ⟨s7,a,al,rfl⟩
 have t7:=s6.trans s7
 obtain ⟨pa,A,ea,eA,hA⟩:=z2r (ht3.same t7) al
 wp_walk using rRepT,tSeq,tIfS,splmoved
 exact .inr ⟨_,t7 _ _ hs3,_,ea,pa,mo,d0,d1,d2,a,rfl,rfl,rfl,t7 _ _ hd,A,hA,Ss,eA,hsd.2 _ (List.mem_of_getElem? eA),hmo,λ G r u h=>q _ r (s3.trans (t7.trans u)) h⟩
abbrev slawprogram:Stmt:=top 73
theorem z7z:FnScope ["cells", "most", "steps", "sides", "cell", "made", "outs", "n", "k"] ["cells", "most"] (defScope slawprogram):=⟨rfl,rfl,rfl,by decide +kernel,rfl,by decide +kernel,by decide +kernel⟩
theorem z8k (F:Fun K "_law_program" "_law_program" slawprogram f fd) (clawstep:Callee P w K mg base CX0 (4) "_law_step" ["cell", "sides", "most"] splstep) (zlen:mg "len" = none) (zsum:mg "sum" = none) (zrange:mg "range" = none) (ztuple:mg "tuple" = none):FnOk P w K mg base CX0 (5) f fd ["cells", "most"] (splprogram):=by
 have sc:=z7z
 refine F.ok sc (λ vs H Q E h=>?_) (λ cdv A outer s H vs Q E hr h=>?_)
 ·obtain ⟨ca,cs,mo,rfl,_⟩:=h;rfl
 obtain ⟨ca,cs,mo,rfl,hc,c40,hmo,q⟩:=h
 refine ⟨_,(z0d (z0x (i:=2) sc.nd rfl (by first | exact Or.inl rfl | exact Or.inr rfl) (z1w z0c)) (z0d (z0x (i:=3) sc.nd rfl (by first | exact Or.inl rfl | exact Or.inr rfl) (z1w z0c)) (z0d (z3g PassesOwn.never rfl (z2s (pv 0)) (z1d (i:=4) sc.nd rfl (Or.inl rfl)) (z0d (z0x (i:=5) sc.nd rfl (by first | exact Or.inl rfl | exact Or.inr rfl) (z0r clawstep hr (by rfl) z1h (z0a (pv 4) (z0a (pv 3) (z0a (pv 1) z0c))))) (z0d (z1r (z6e (pv 2) (z0u z0t (pv 5) z0e (λ _ _=>rfl)))) (z0g (z1r (z6e (pv 3) (z0u z0t (pv 5) z0e (λ _ _=>rfl)))))))) (z0d (z0z (z0i z1f (z0o z0j (by rfl) zlen PySem.boot_len (z0a (pv 2) z0c)) z0e (z0n _)) (z0d (z1r (z6e (pv 2) (z0w (z0a z0p (z0a z0e z0c))))) (z0g (z1r (z6e (pv 3) (z0w z0c))))) z0k) (z0d (z0x (i:=6) sc.nd rfl (by first | exact Or.inl rfl | exact Or.inr rfl) (z1w z0c)) (z0d (z0x (i:=7) sc.nd rfl (by first | exact Or.inl rfl | exact Or.inr rfl) (z0s z2c (z0s z4o (z0o (z5n rfl) (by rfl) zsum boot_sum (z0a (pv 0) z0c)) z0e) z0e)) (z0d (z3g PassesOwn.never rfl (z3a (by rfl) zrange (z0a (z0u z0q (z1w (z0a z0e (z0a z0e (z0a z0e (z0a z0e (z0a z0e (z0a z0e z0c))))))) (z0s z1x (pv 7) z0e) (λ _ _=>rfl)) z0c)) (z1d (i:=8) sc.nd rfl (Or.inl rfl)) (z0d (z0x (i:=7) sc.nd rfl (by first | exact Or.inl rfl | exact Or.inr rfl) (z0s z2c (z0s z1y (z0s z4o (pv 7) z0e) z0e) z0e)) (z0g (z1r (z6e (pv 6) (z0s z2c (z0s z2j (pv 7) z0e) (z0o z0j (by rfl) zlen PySem.boot_len (z0a (pv 2) z0c)))))))) (z0d (y9l (z0s z3b (z0o z0j (by rfl) zlen PySem.boot_len (z0a (pv 2) z0c)) z0e) (x2u (pv 6) (z0s z2c (pv 7) (z0o z0j (by rfl) zlen PySem.boot_len (z0a (pv 6) z0c))) y6s)) (z0g (z0l (z0w (z0a (z1l z1m (by rfl) ztuple boot_tuple (z0a (pv 2) z0c)) (z0a (z1l z1m (by rfl) ztuple boot_tuple (z0a (pv 6) z0c)) (z0a (pv 3) z0c)))))))))))))),?_⟩
 simp only [L2.start,List.length_cons,List.length_nil,List.replicate,List.cons_append,List.nil_append,Nat.reduceSub,Nat.reduceAdd,List.map_cons,List.map_nil]
 refine z0h (λ σ G=>∃st,Same H G/\H st=none/\G st=some (.lst [])/\σ=[some (.ref ca),some (.int mo),some (.ref st),none,none,none,none,none,none]) ?_ (λ R hR=>?_)
 rotate_left
 ·wp_walk using rRepT,tSeq,tIfS
  exact ⟨Nat.zero_le _,λ l hl=>hR _ _ ⟨l,z0b hl _,hl,z0f,rfl⟩⟩
 rintro σ1 G1 ⟨st,s1,st0,hst,rfl⟩
 refine z0h (λ σ G=>∃sl,Same H G/\H sl=none/\st≠sl/\G st=some (.lst [])/\G sl=some (.lst [])/\σ=[some (.ref ca),some (.int mo),some (.ref st),some (.ref sl),none,none,none,none,none]) ?_ (λ R hR=>?_)
 rotate_left
 ·wp_walk using rRepT,tSeq,tIfS
  exact ⟨Nat.zero_le _,λ l hl=>hR _ _ ⟨l,s1.trans (z0b hl _),y3n s1 hl,(λ z=>by rw [z,hl] at hst;cases hst),z0b hl _ _ _ hst,z0f,rfl⟩⟩
 rintro σ2 G2 ⟨sl,s2,sl0,ne,hst,hsl,rfl⟩
 refine z0h (λ σ G=>∃(qs ps:List Addr) (ds:List Stp) (Ss:List (List Int)) (y4 y5:Option V),Same H G/\G st=some (.lst (qs.map V.ref))/\G sl=some (.lst (ps.map V.ref))/\StL G qs ds/\TpsM G ps Ss/\GoodL mo ds Ss/\ds.length=cs.length/\σ=[some (.ref ca),some (.int mo),some (.ref st),some (.ref sl),y4,y5,none,none,none]) ?_ (λ R hR=>?_)
 rotate_left
 ·wp_walk using rRepT,tIfS
  obtain ⟨J,hJ⟩:∃J:Nat->L2.St->Hp->Prop,J=(λ i σ G=>∃(qs ps:List Addr) (ds:List Stp) (Ss:List (List Int)) (y4 y5:Option V),Same H G/\G st=some (.lst (qs.map V.ref))/\G sl=some (.lst (ps.map V.ref))/\StL G qs ds/\TpsM G ps Ss/\GoodL mo ds Ss/\ds.length=i/\i≤cs.length/\σ=[some (.ref ca),some (.int mo),some (.ref st),some (.ref sl),y4,y5,none,none,none]):=⟨_,rfl⟩
  refine LoopL.mk (xs:=cs.map V.int) (.of (s2 _ _ hc)) J (by rw [hJ];exact ⟨[],[],[],[],_,_,s2,hst,hsl,⟨rfl,λ i p e=>nomatch e⟩,⟨rfl,λ i p e=>nomatch e⟩,y1g mo,rfl,Nat.zero_le _,rfl⟩) (λ i σ G _ h=>by rw [hJ] at h;obtain ⟨_,_,_,_,_,_,s,_⟩:=h;exact .of (s _ _ hc)) (λ i x σ G0 e h=>?_) (λ σ G h=>?_)
  rotate_left
  ·rw [hJ] at h
   obtain ⟨qs,ps,ds,Ss,y4,y5,s,h1,h2,h3,h4,h5,dl,_,rfl⟩:=h
   rw [z0v] at dl
   exact hR _ _ ⟨qs,ps,ds,Ss,_,_,s,h1,h2,h3,h4,h5,dl,rfl⟩
  clear hR
  rw [hJ] at h
  obtain ⟨qs,ps,ds,Ss,y4,y5,s,h1,h2,h3,h4,h5,dl,di,rfl⟩:=h
  obtain ⟨c,rfl,hc'⟩:=y1f e
  have il:=(List.getElem?_eq_some_iff.mp hc').1
  simp only [gName,List.set_cons_succ,List.set_cons_zero]
  refine z0h (λ σ G=>Same G0 G/\∃r,MadeAt G r mo Ss/\σ=[some (.ref ca),some (.int mo),some (.ref st),some (.ref sl),some (.int c),some (.ref r),none,none,none]) ?_ (λ R hR=>?_)
  rotate_left
  ·wp_walk using rRepT,tSeq,tIfS,splstep
   exact ⟨ps,h2,Ss,h4,⟨by rw [← h5.1];omega,h5.2.1⟩,hmo,λ G r u h=>hR _ _ ⟨u,r,h,rfl⟩⟩
  rintro σ1' G1' ⟨u1,r,⟨p,b,d,S,hr1,hd,hb,ok,fs⟩,rfl⟩
  have h1':=u1 _ _ h1
  have h2':=u1 _ _ h2
  have ql:qs.length=i:=by rw [h3.1,dl]
  have pl:ps.length=i:=by rw [h4.1,← h5.1,dl]
  refine z0h (λ σ G=>Same H G/\UpT G1' G/\G st=some (.lst ((qs++[p]).map V.ref))/\G sl=some (.lst (ps.map V.ref))/\σ=[some (.ref ca),some (.int mo),some (.ref st),some (.ref sl),some (.int c),some (.ref r),none,none,none]) ?_ (λ R hR=>?_)
  rotate_left
  ·wp_walk using rRepT,tSeq,tIfS
   refine ⟨⟨_,h1'⟩,_,hr1,_,z0m (j:=0) rfl,_,h1',by rw [List.length_map,ql];exact z1b (by omega),hR _ _ ⟨z2o (s.trans u1) st0,z5y h1',by rw [z0f,List.map_append];rfl,by rw [z1a (Ne.symm ne)];exact h2',rfl⟩⟩
  rintro σ2' G2' ⟨s2',up2,h1'',h2'',rfl⟩
  wp_walk using rRepT,tSeq,tIfS
  refine ⟨⟨_,h2''⟩,_,up2 _ _ hr1,_,z0m (j:=1) rfl,_,h2'',by rw [List.length_map,pl];exact z1b (by omega),?_⟩
  have up3:=up2.trans (z5y (ys:=ps.map V.ref++[V.ref b]) h2'')
  rw [hJ]
  exact ⟨qs++[p],ps++[b],ds++[d],Ss++[S],_,_,z2o s2' sl0,by rw [z1a ne];exact h1'',by rw [z0f,List.map_append];rfl,(h3.up ((z2i u1).trans up3)).snoc (hd.up up3),(h4.up ((z2i u1).trans up3)).snoc (up3 _ _ hb),z5k h5 ok fs,by rw [List.length_append,dl];rfl,il,rfl⟩
 rintro σ3 G3 ⟨qs,ps,ds,Ss,y4,y5,s3,h1,h2,h3,h4,h5,dl,rfl⟩
 refine z0h (λ σ G=>∃(qs ps:List Addr) (ds:List Stp) (Ss:List (List Int)),Same H G/\G st=some (.lst (qs.map V.ref))/\G sl=some (.lst (ps.map V.ref))/\StL G qs ds/\TpsM G ps Ss/\GoodL mo ds Ss/\0 < ds.length/\ds.length≤40/\ds.length≤max 1 cs.length/\σ=[some (.ref ca),some (.int mo),some (.ref st),some (.ref sl),y4,y5,none,none,none]) ?_ (λ R hR=>?_)
 rotate_left
 ·wp_walk using rRepT,tSeq,tIfS
  refine ⟨_,.inl (.of h1),?_⟩
  rw [List.length_map,h3.1]
  by_cases c:ds.length=0
  rotate_left
  ·rw [if_neg (by omega)]
   exact hR _ _ ⟨qs,ps,ds,Ss,s3,h1,h2,h3,h4,h5,by omega,by omega,by omega,rfl⟩
  rw [if_pos (by omega)]
  have e1:ds=[]:=List.length_eq_zero_iff.mp c
  have e2:Ss=[]:=List.length_eq_zero_iff.mp (by rw [← h5.1];exact c)
  have e3:qs=[]:=List.length_eq_zero_iff.mp (by rw [h3.1];exact c)
  have e4:ps=[]:=List.length_eq_zero_iff.mp (by rw [h4.1,e2];rfl)
  subst e1 e2 e3 e4
  refine ⟨⟨_,h1⟩,small (by decide),λ p hp=>⟨_,z0b hp _ _ _ h1,Nat.lt_of_le_of_lt (Nat.zero_le _) (z1b (Nat.le_refl _)),?_⟩⟩
  have h2p:=z0b hp (.tup [V.str (Str.ofString "num"),V.int 0]) _ _ h2
  have up1:=z5y (ys:=List.map V.ref []++[V.ref p]) (z0b hp (.tup [V.str (Str.ofString "num"),V.int 0]) _ _ h1)
  have hsl1:upd (upd G3 p (.tup [V.str (Str.ofString "num"),V.int 0])) st (.lst (List.map V.ref []++[V.ref p])) sl=some (.lst (List.map V.ref [])):=by rw [z1a (Ne.symm ne)];exact h2p
  refine ⟨⟨_,hsl1⟩,Nat.zero_le _,λ p1 hp1=>⟨_,z0b hp1 _ _ _ hsl1,Nat.lt_of_le_of_lt (Nat.zero_le _) (z1b (Nat.le_refl _)),?_⟩⟩
  have up2:=z5y (ys:=List.map V.ref []++[V.ref p1]) (z0b hp1 (.tup []) _ _ hsl1)
  refine hR _ _ ⟨[p],[p1],[.num 0],[[]],z2o ((z2o (s3.trans (z0b hp _)) st0).trans (z0b hp1 _)) sl0,by rw [z1a ne];exact z0b hp1 _ _ _ z0f,z0f,?_,?_,z5k (y1g mo) (d:=.num 0) (S:=[]) rfl (z4e hmo),Nat.zero_lt_succ _,Nat.succ_le_succ (Nat.zero_le _),Nat.le_max_left ..,rfl⟩
  ·exact StL.snoc (qs:=[]) (ds:=[]) ⟨rfl,λ i p e=>nomatch e⟩ (up2 _ _ (z0b hp1 _ _ _ (up1 _ _ z0f)))
  ·exact TpsM.snoc (ps:=[]) (Ss:=[]) ⟨rfl,λ i p e=>nomatch e⟩ (up2 _ _ z0f)
 rintro σ4 G4 ⟨qs,ps,ds,Ss,s4,h1,h2,h3,h4,h5,d0,d40,dm,rfl⟩
 refine z0h (λ σ G=>∃ou,Same G4 G/\G4 ou=none/\G ou=some (.lst [])/\σ=[some (.ref ca),some (.int mo),some (.ref st),some (.ref sl),y4,y5,some (.ref ou),none,none]) ?_ (λ R hR=>?_)
 rotate_left
 ·wp_walk using rRepT,tSeq,tIfS
  exact ⟨Nat.zero_le _,λ l hl=>hR _ _ ⟨l,z0b hl _,hl,z0f,rfl⟩⟩
 rintro σ5 G5 ⟨ou,s5,ou0,hou,rfl⟩
 refine z0h (λ σ G=>G=G5/\∃n:Int,σ=[some (.ref ca),some (.int mo),some (.ref st),some (.ref sl),y4,y5,some (.ref ou),some (.int n),none]) ?_ (λ R hR=>?_)
 rotate_left
 ·wp_walk using rRepT,tSeq,tIfS
  exact ⟨cs,.of ((s4.trans s5) _ _ hc),by omega,hR _ _ ⟨rfl,_,rfl⟩⟩
 rintro σ6 G6 ⟨rfl,n,rfl⟩
 refine z0h (λ σ G=>∃(os:List Int) (n:Int) (y8:Option V),Same G4 G/\G ou=some (.lst (os.map V.int))/\0 < os.length/\os.length≤8/\(∀o∈os,0≤o/\o < (ds.length:Int))/\σ=[some (.ref ca),some (.int mo),some (.ref st),some (.ref sl),y4,y5,some (.ref ou),some (.int n),y8]) ?_ (λ R hR=>?_)
 rotate_left
 ·wp_walk using rRepT,tIfS
  obtain ⟨x,hx,x1,x8⟩:=x2j (n % 6) (by omega) (by omega)
  refine ⟨small (by decide),λ l hl=>⟨_,hx,_,rfl,by omega,by omega,?_⟩⟩
  obtain ⟨J,hJ⟩:∃J:Nat->L2.St->Hp->Prop,J=(λ i σ G=>∃(os:List Int) (n:Int) (y8:Option V),Same G4 G/\G ou=some (.lst (os.map V.int))/\os.length=i/\(∀o∈os,0≤o/\o < (ds.length:Int))/\σ=[some (.ref ca),some (.int mo),some (.ref st),some (.ref sl),y4,y5,some (.ref ou),some (.int n),y8]):=⟨_,rfl⟩
  refine LoopR.mk J (by rw [hJ];exact ⟨[],n,_,s5.trans (z0b hl _),z0b hl _ _ _ hou,rfl,(λ o ho=>nomatch ho),rfl⟩) (λ i σ G0 hi h=>?_) (λ σ G h=>?_)
  rotate_left
  ·rw [hJ] at h
   obtain ⟨os,n',y8,s,h6,ol,hb,rfl⟩:=h
   exact hR _ _ ⟨os,n',_,s,h6,by omega,by omega,hb,rfl⟩
  rw [hJ] at h
  obtain ⟨os,n',y8,s,h6,ol,hb,rfl⟩:=h
  wp_walk using rRepT,tSeq,tIfS
  refine ⟨by omega,⟨_,h6⟩,_,.inl (.of (s _ _ h1)),?_⟩
  rw [List.length_map,h3.1]
  refine ⟨by omega,_,h6,by rw [List.length_map];exact z1b (by omega),?_⟩
  rw [hJ]
  generalize ((n' * 48271+11).fmod 2147483647) / 16=z at *
  have f0:=Int.fmod_nonneg_of_pos z (show (0:Int) < (ds.length:Int) by omega)
  have f1:=Int.fmod_lt_of_pos z (show (0:Int) < (ds.length:Int) by omega)
  refine ⟨os++[z.fmod ds.length],_,_,z2o s ou0,by rw [z0f,List.map_append];rfl,by rw [List.length_append,ol];rfl,λ o ho=>?_,rfl⟩
  rcases List.mem_append.mp ho with y | y
  ·exact hb o y
  ·cases List.mem_singleton.mp y;exact ⟨f0,f1⟩
 rintro σ7 G7 ⟨os,n,y8,s7,hou,o0,o8,hb,rfl⟩
 refine z0h (λ σ G=>∃os:List Int,Same G4 G/\G ou=some (.lst (os.map V.int))/\0 < os.length/\os.length≤8/\(∀o∈os,0≤o/\o < (ds.length:Int))/\σ=[some (.ref ca),some (.int mo),some (.ref st),some (.ref sl),y4,y5,some (.ref ou),some (.int n),y8]) ?_ (λ R hR=>?_)
 rotate_left
 ·wp_walk using rRepT,tSeq,tIfS
  refine ⟨_,.inl (.of (s7 _ _ h1)),?_⟩
  rw [List.length_map,h3.1]
  refine ⟨_,.inl (.of hou),?_⟩
  rw [z0v]
  have f0:=Int.fmod_nonneg_of_pos n (show (0:Int) < (os.length:Int) by omega)
  have f1:=Int.fmod_lt_of_pos n (show (0:Int) < (os.length:Int) by omega)
  obtain ⟨j,hj⟩:∃j:Nat,n.fmod (os.length:Int)=j:=⟨_,(Int.toNat_of_nonneg f0).symm⟩
  rw [hj] at f1 ⊢
  exact ⟨by omega,_,hou,j,x3v (by rw [z0v];omega),hR _ _ ⟨os.set j ((ds.length:Int) - 1),z2o s7 ou0,by rw [z0f,List.map_set],by rw [List.length_set];exact o0,by rw [List.length_set];exact o8,y7n hb d0,rfl⟩⟩
 rintro σ8 G8 ⟨os,s8,hou,o0,o8,hb,rfl⟩
 wp_walk using rRepT,tSeq,tIfS
 exact ⟨_,.inl ⟨.of (s8 _ _ h1),λ t1 ht1=>⟨_,.inl ⟨.of (z0b ht1 _ _ _ hou),λ t2 ht2=>⟨small (by decide),λ p hp=>by
  have u:=(z0b ht1 (.tup (qs.map V.ref))).trans ((z0b ht2 (.tup (os.map V.int))).trans (z0b hp (.tup [V.ref t1,V.ref t2,V.ref sl])))
  have t8:=s8.trans u
  exact q _ p ds Ss os (s4.trans t8) ⟨t1,t2,sl,qs,ps,z0f,z0b hp _ _ _ (z0b ht2 _ _ _ z0f),h3.up (z2i t8),z0b hp _ _ _ z0f,t8 _ _ h2,h4.same t8,h5,d0,d40,o0,o8,hb⟩ dm⟩⟩⟩⟩⟩
abbrev slawwhole:Stmt:=top 60
def splawwhole:Sp:=λ vs H Q _=>∃(n:Int),vs=[.int n]/\Q (.bl true) H
theorem y1v:FnScope ["found"] ["found"] (defScope slawwhole):=⟨rfl,rfl,rfl,by decide +kernel,rfl,by decide +kernel,by decide +kernel⟩
theorem y2f (F:Fun K "_law_whole" "_law_whole" slawwhole f fd) (zisinstance:mg "isinstance" = none) (zint:mg "int" = none) (zbool:mg "bool" = none):FnOk P w K mg base CX0 (1) f fd ["found"] (splawwhole):=by
 have sc:=y1v
 refine F.ok sc (λ vs H Q E h=>?_) (λ cdv A outer s H vs Q E hr h=>?_)
 ·obtain ⟨n,rfl,_⟩:=h;rfl
 obtain ⟨n,rfl,q⟩:=h
 refine ⟨_,(z0g (z0l (x2z (z0o z8z (by rfl) zisinstance boot_isinstance (z0a (pv 0) (z0a (y3y (v:=.ty "int") (by rfl) zint boot_int rfl) z0c))) (y3x (x2x (z0o z8z (by rfl) zisinstance boot_isinstance (z0a (pv 0) (z0a (y3y (v:=.ty "bool") (by rfl) zbool boot_bool rfl) z0c)))))))),?_⟩
 wp_walk using rRepT,tSeq,tIfS
 exact q
abbrev samount:Stmt:=top 27
def spamount:Sp:=λ vs H Q _=>∃(a:Addr) (ns:List Int),vs=[.ref a]/\(H a=some (.lst (ns.map V.int))\/H a=some (.tup (ns.map V.int)))/\sdOk ns/\Q (.int (prodI ns)) H
theorem y6y:FnScope ["sides", "product", "side"] ["sides"] (defScope samount):=⟨rfl,rfl,rfl,by decide +kernel,rfl,by decide +kernel,by decide +kernel⟩
theorem y7u (F:Fun K "amount" "amount" samount f fd):FnOk P w K mg base CX0 (1) f fd ["sides"] (spamount):=by
 have sc:=y6y
 refine F.ok sc (λ vs H Q E h=>?_) (λ cdv A outer s H vs Q E hr h=>?_)
 ·obtain ⟨a,ns,rfl,_⟩:=h;rfl
 obtain ⟨a,ns,rfl,ha | ha,hs,q⟩:=h
 ·refine ⟨_,(z0d (z0x (i:=1) sc.nd rfl (by first | exact Or.inl rfl | exact Or.inr rfl) z0e) (z0d (z3g PassesOwn.never rfl (z2s (pv 0)) (z1d (i:=2) sc.nd rfl (Or.inl rfl)) (z0g (z0x (i:=1) sc.nd rfl (by first | exact Or.inl rfl | exact Or.inr rfl) (z0s z4o (pv 1) (pv 2))))) (z0g (z0l (pv 1))))),?_⟩
  wp_walk using rRepT,tSeq,tIfS
  refine LoopL.mk (xs:=ns.map V.int) (.of ha) (λ i σ H'=>H'=H/\∃y,σ=[some (.ref a),some (.int (prodI (ns.take i))),y]) ⟨rfl,_,rfl⟩ (λ i σ H' _ h=>by rw [h.1];exact .of ha) (λ i x σ H' e h=>?_) (λ σ H' h=>?_)
  ·obtain ⟨h1,y,rfl⟩:=h
   subst h1
   obtain ⟨m,rfl,hm,m0,m1⟩:=y1r hs e
   wp_walk using rRepT,tSeq,tIfS
   rw [z8c hm]
   exact ⟨.inr ⟨by omega,by omega⟩,rfl,_,rfl⟩
  ·obtain ⟨h1,y,rfl⟩:=h
   subst h1
   wp_walk using rRepT,tSeq,tIfS
   rw [z0v,List.take_length]
   exact q
 ·refine ⟨_,(z0d (z0x (i:=1) sc.nd rfl (by first | exact Or.inl rfl | exact Or.inr rfl) z0e) (z0d (z3g PassesOwn.never rfl (z3y (pv 0)) (z1d (i:=2) sc.nd rfl (Or.inl rfl)) (z0g (z0x (i:=1) sc.nd rfl (by first | exact Or.inl rfl | exact Or.inr rfl) (z0s z4o (pv 1) (pv 2))))) (z0g (z0l (pv 1))))),?_⟩
  wp_walk using rRepT,tSeq,tIfS
  refine LoopT.mk (xs:=ns.map V.int) (.of ha) (λ i σ H'=>H'=H/\∃y,σ=[some (.ref a),some (.int (prodI (ns.take i))),y]) ⟨rfl,_,rfl⟩ (λ i σ H' _ h=>by rw [h.1];exact .of ha) (λ i x σ H' e h=>?_) (λ σ H' h=>?_)
  ·obtain ⟨h1,y,rfl⟩:=h
   subst h1
   obtain ⟨m,rfl,hm,m0,m1⟩:=y1r hs e
   wp_walk using rRepT,tSeq,tIfS
   rw [z8c hm]
   exact ⟨.inr ⟨by omega,by omega⟩,rfl,_,rfl⟩
  ·obtain ⟨h1,y,rfl⟩:=h
   subst h1
   wp_walk using rRepT,tSeq,tIfS
   rw [z0v,List.take_length]
   exact q
abbrev sbreadth:Stmt:=top 28
def spbreadth:Sp:=λ vs H Q _=>∃(a:Addr) (ns:List Int),vs=[.ref a]/\H a=some (.tup (ns.map V.int))/\sdOk ns/\ns.length≤63/\∀H',Same H H'->Q (.int (prodI (ns.map one1))) H'
theorem y3i:FnScope ["sides"] ["sides"] (defScope sbreadth):=⟨rfl,rfl,rfl,by decide +kernel,rfl,by decide +kernel,by decide +kernel⟩
theorem y4r (F:Fun K "breadth" "breadth" sbreadth f fd) (camount:Callee P w K mg base CX0 (1) "amount" ["sides"] spamount):FnOk P w K mg base CX0 (2) f fd ["sides"] (spbreadth):=by
 have sc:=y3i
 refine F.ok sc (λ vs H Q E h=>?_) (λ cdv A outer s H vs Q E hr h=>?_)
 ·obtain ⟨a,ns,rfl,_⟩:=h;rfl
 obtain ⟨a,ns,rfl,ha,hs,h63,q⟩:=h
 refine ⟨_,(z0g (z0l (z0r camount hr (by rfl) z1h (z0a (z6z (own:=["side"]) rfl (z3y (pv 0)) (by decide) (by decide) rfl (by decide) (λ _ _ _ _=>(z1d (i:=0) (show (["side"]:List Str).Nodup by decide +kernel) rfl (Or.inl rfl))) (λ _ _ _ _=>(z3l (z0i y0b (pv 0) z0e (z0n _)) (pv 0) z0e))) z0c)))),?_⟩
 wp_walk using rRepT,tSeq,tIfS
 refine CompT.mk (xs:=ns.map V.int) (.of ha) (λ i ys σ H'=>H'=H/\ys=((ns.take i).map one1).map V.int/\∃y,σ=[y]) ⟨rfl,rfl,_,rfl⟩ (λ i ys σ H' _ h=>by rw [h.1];exact .of ha) (λ i x ys σ H' e h=>?_) (λ ys σ H' h p hp=>?_)
 ·obtain ⟨h1,h2,y,rfl⟩:=h
  subst h1 h2
  obtain ⟨m,rfl,hm,m0,m1⟩:=y1r hs e
  have e1:((ns.take (i+1)).map one1).map V.int=((ns.take i).map one1).map V.int++[V.int (one1 m)]:=by
   rw [List.take_add_one,hm,List.map_append,List.map_append];rfl
  have e2:(((ns.take i).map one1).map V.int).length < sizeLine:=by
   rw [List.length_map,List.length_map,List.length_take];exact z1b (by omega)
  wp_walk using rRepT,tSeq,tIfS,e1
  refine ⟨e2,?_⟩
  unfold one1
  by_cases m2:m=0
  ·simp [m2]
  ·simp [m2]
 ·obtain ⟨h1,h2,y,rfl⟩:=h
  subst h1 h2
  rw [z0v,List.take_length]
  exact ⟨p,_,rfl,.inl z0f,y9o hs,q _ (z0b hp _)⟩
abbrev sallowed:Stmt:=top 29
theorem y3l:FnScope ["sides"] ["sides"] (defScope sallowed):=⟨rfl,rfl,rfl,by decide +kernel,rfl,by decide +kernel,by decide +kernel⟩
theorem y4u (F:Fun K "allowed" "allowed" sallowed f fd) {CTooLarge:Addr}(nTooLarge:W.nsIn K mainGlobals "TooLarge" = some (some (.ref CTooLarge))) (cbreadth:Callee P w K mg base CX0 (2) "breadth" ["sides"] spbreadth) (zlen:mg "len" = none) {tMOST_SIDES:Tok}(gMOST_SIDES:mg "MOST_SIDES" = some (.int 6 tMOST_SIDES)) {tMOST_BREADTH:Tok}(gMOST_BREADTH:mg "MOST_BREADTH" = some (.int 512 tMOST_BREADTH)) (xTooLarge:W.excIn K CTooLarge [.type "ValueError",.type "Exception",.type "BaseException",.type "object"] "ValueError.__new__" = true):FnOk P w K mg base (CX1 P w) (3) f fd ["sides"] ((spallowed CTooLarge)):=by
 have sc:=y3l
 refine F.okX sc (λ vs H Q E h=>?_) (λ cdv A outer s H vs Q E hr h=>?_)
 ·obtain ⟨a,ns,rfl,_⟩:=h;rfl
 obtain ⟨a,ns,rfl,ha,hs,h63,q1,q2⟩:=h
 refine ⟨_,(z0d (z0z (z0i z4q (z0o z0j (by rfl) zlen PySem.boot_len (z0a (pv 0) z0c)) (z3i (v:=.int 6) (by rfl) gMOST_SIDES ⟨_,rfl⟩) (z0n _)) (z0g (z1q PySem.F.excBase_ValueError rfl (by rfl) nTooLarge xTooLarge z1z (z0a z0p z0c))) z0k) (z0d (z0z (z0i z4q (z0r cbreadth hr (by rfl) z1h (z0a (pv 0) z0c)) (z3i (v:=.int 512) (by rfl) gMOST_BREADTH ⟨_,rfl⟩) (z0n _)) (z0g (z1q PySem.F.excBase_ValueError rfl (by rfl) nTooLarge xTooLarge z1z (z0a z0p z0c))) z0k) (z0g (z0l (pv 0))))),?_⟩
 wp_walk using rRepT,tSeq,tIfS,spbreadth
 refine ⟨_,.inr (.of ha),?_⟩
 rw [z0v]
 by_cases h6:6 < ns.length
 ·rw [if_pos (by omega)]
  exact ⟨small (by decide),q1 (.inl h6) _ (Same.refl _)⟩
 rw [if_neg (by omega)]
 refine ⟨ns,ha,hs,h63,λ H1 s1=>?_⟩
 by_cases h5:512 < prodI (ns.map one1)
 ·rw [if_pos h5]
  exact ⟨small (by decide),q1 (.inr h5) _ s1⟩
 rw [if_neg h5]
 exact q2 (λ z=>z.elim h6 h5) _ s1
abbrev schangedat:Stmt:=top 30
def spchangedat:Sp:=λ vs H Q _=>∃(a:Addr) (ns:List Int) (k:Nat) (m:Int),vs=[.ref a,.int k,.int m]/\H a=some (.tup (ns.map V.int))/\ns.length≤63/\k < ns.length/\∀H' p,Same H H'->H' p=some (.tup ((ns.set k m).map V.int))->Q (.ref p) H'
theorem z9s:FnScope ["row", "k", "number"] ["row", "k", "number"] (defScope schangedat):=⟨rfl,rfl,rfl,by decide +kernel,rfl,by decide +kernel,by decide +kernel⟩
theorem y0k (F:Fun K "changed_at" "changed_at" schangedat f fd):FnOk P w K mg base CX0 (1) f fd ["row", "k", "number"] (spchangedat):=by
 have sc:=z9s
 refine F.ok sc (λ vs H Q E h=>?_) (λ cdv A outer s H vs Q E hr h=>?_)
 ·obtain ⟨a,ns,k,m,rfl,_⟩:=h;rfl
 obtain ⟨a,ns,k,m,rfl,ha,h63,hk,q⟩:=h
 refine ⟨_,(z0g (z0l (z0s z1s (z0s z1s (z1i z5a (pv 0) z1o (z1k (pv 1))) (z0w (z0a (pv 2) z0c))) (z1i z5a (pv 0) (z1k (z0s z1y (pv 1) z0e)) z1o)))),?_⟩
 wp_walk using rRepT,tSeq,tIfS
 refine ⟨_,ha,?_,λ r1 H1 s1 hr1=>⟨small (by decide),λ p hp=>⟨_,z0b hp _ _ _ hr1,?_,λ r2 H2 s2 hr2=>⟨_,s2 _ _ (z0b hp _ _ _ (s1 _ _ ha)),?_,λ r3 H3 s3 hr3=>⟨_,s3 _ _ hr2,_,hr3,?_,λ r4 H4 s4 hr4=>?_⟩⟩⟩⟩⟩
 ·rw [z0v];intro z;have z2:=z.2;simp only [HT.sIx] at z2;rw [if_neg (by omega)] at z2;omega
 ·rw [z8u (by omega),z0v];exact small (by rw [List.length_take];omega)
 ·rw [z0v];intro z;have z1:=z.1;simp only [HT.sIx] at z1;rw [if_neg (by omega)] at z1;omega
 ·rw [show (k:Int)+1=((k+1:Nat):Int) by omega,z8u (by omega),z8v (by omega)];simp only [List.length_append,List.length_map,List.length_take,List.length_drop,List.length_cons,List.length_nil];exact small (by omega)
 rw [show (k:Int)+1=((k+1:Nat):Int) by omega,z8u (by omega),z8v (by omega)] at hr4
 refine q _ _ (s1.trans ((z0b hp _).trans (s2.trans (s3.trans s4)))) ?_
 rw [hr4,List.set_eq_take_append_cons_drop,if_pos hk,List.append_assoc,List.map_append,List.map_cons]
 rfl
abbrev saddedat:Stmt:=top 31
def spaddedat:Sp:=λ vs H Q _=>∃(a:Addr) (ns:List Int) (k:Nat) (m:Int),vs=[.ref a,.int k,.int m]/\H a=some (.tup (ns.map V.int))/\ns.length≤63/\∀H' p,Same H H'->H' p=some (.tup ((insL ns k m).map V.int))->Q (.ref p) H'
theorem y3m:FnScope ["row", "k", "number"] ["row", "k", "number"] (defScope saddedat):=⟨rfl,rfl,rfl,by decide +kernel,rfl,by decide +kernel,by decide +kernel⟩
theorem y4v (F:Fun K "added_at" "added_at" saddedat f fd):FnOk P w K mg base CX0 (1) f fd ["row", "k", "number"] (spaddedat):=by
 have sc:=y3m
 refine F.ok sc (λ vs H Q E h=>?_) (λ cdv A outer s H vs Q E hr h=>?_)
 ·obtain ⟨a,ns,k,m,rfl,_⟩:=h;rfl
 obtain ⟨a,ns,k,m,rfl,ha,h63,q⟩:=h
 refine ⟨_,(z0g (z0l (z0s z1s (z0s z1s (z1i z1u (pv 0) z1o (z1k (pv 1))) (z0w (z0a (pv 2) z0c))) (z1i z1u (pv 0) (z1k (pv 1)) z1o)))),?_⟩
 wp_walk using rRepT,tSeq,tIfS
 refine ⟨_,ha,λ r1 H1 s1 hr1=>⟨small (by decide),λ p hp=>⟨_,z0b hp _ _ _ hr1,?_,λ r2 H2 s2 hr2=>⟨_,s2 _ _ (z0b hp _ _ _ (s1 _ _ ha)),λ r3 H3 s3 hr3=>⟨_,s3 _ _ hr2,_,hr3,?_,λ r4 H4 s4 hr4=>?_⟩⟩⟩⟩⟩
 ·rw [z2k,z0v];exact small (by rw [List.length_take];omega)
 ·rw [z2k,z2l];simp only [List.length_append,List.length_map,List.length_take,List.length_drop,List.length_cons,List.length_nil];exact small (by omega)
 rw [z2k,z2l] at hr4
 refine q _ _ (s1.trans ((z0b hp _).trans (s2.trans (s3.trans s4)))) ?_
 rw [hr4];unfold insL;rw [List.map_append,List.map_append];rfl
abbrev sdroppedat:Stmt:=top 32
def spdroppedat:Sp:=λ vs H Q _=>∃(a:Addr) (ns:List Int) (k:Nat),vs=[.ref a,.int k]/\H a=some (.tup (ns.map V.int))/\ns.length≤63/\k < ns.length/\∀H' p,Same H H'->H' p=some (.tup ((ns.eraseIdx k).map V.int))->Q (.ref p) H'
theorem z9r:FnScope ["row", "k"] ["row", "k"] (defScope sdroppedat):=⟨rfl,rfl,rfl,by decide +kernel,rfl,by decide +kernel,by decide +kernel⟩
theorem y0j (F:Fun K "dropped_at" "dropped_at" sdroppedat f fd):FnOk P w K mg base CX0 (1) f fd ["row", "k"] (spdroppedat):=by
 have sc:=z9r
 refine F.ok sc (λ vs H Q E h=>?_) (λ cdv A outer s H vs Q E hr h=>?_)
 ·obtain ⟨a,ns,k,rfl,_⟩:=h;rfl
 obtain ⟨a,ns,k,rfl,ha,h63,hk,q⟩:=h
 refine ⟨_,(z0g (z0l (z0s z1s (z1i z5a (pv 0) z1o (z1k (pv 1))) (z1i z5a (pv 0) (z1k (z0s z1y (pv 1) z0e)) z1o)))),?_⟩
 wp_walk using rRepT,tSeq,tIfS
 refine ⟨_,ha,?_,λ r1 H1 s1 hr1=>⟨_,s1 _ _ ha,?_,λ r3 H3 s3 hr3=>⟨_,s3 _ _ hr1,_,hr3,?_,λ r4 H4 s4 hr4=>?_⟩⟩⟩
 ·rw [z0v];intro z;have z2:=z.2;simp only [HT.sIx] at z2;rw [if_neg (by omega)] at z2;omega
 ·rw [z0v];intro z;have z1:=z.1;simp only [HT.sIx] at z1;rw [if_neg (by omega)] at z1;omega
 ·rw [show (k:Int)+1=((k+1:Nat):Int) by omega,z8u (by omega),z8v (by omega)];simp only [List.length_map,List.length_take,List.length_drop];exact small (by omega)
 rw [show (k:Int)+1=((k+1:Nat):Int) by omega,z8u (by omega),z8v (by omega)] at hr4
 refine q _ _ (s1.trans (s3.trans s4)) ?_
 rw [hr4,List.eraseIdx_eq_take_drop_succ,List.map_append]
abbrev saskside:Stmt:=top 34
theorem y3k:FnScope ["sides", "side"] ["sides", "side"] (defScope saskside):=⟨rfl,rfl,rfl,by decide +kernel,rfl,by decide +kernel,by decide +kernel⟩
theorem y4t (F:Fun K "ask_side" "ask_side" saskside f fd) {CNoSide:Addr}(nNoSide:W.nsIn K mainGlobals "NoSide" = some (some (.ref CNoSide))) (zlen:mg "len" = none) (xNoSide:W.excIn K CNoSide [.type "ValueError",.type "Exception",.type "BaseException",.type "object"] "ValueError.__new__" = true):FnOk P w K mg base (CX1 P w) (1) f fd ["sides", "side"] ((spask CNoSide)):=by
 have sc:=y3k
 refine F.okX sc (λ vs H Q E h=>?_) (λ cdv A outer s H vs Q E hr h=>?_)
 ·obtain ⟨a,ns,side,rfl,_⟩:=h;rfl
 obtain ⟨a,ns,side,rfl,ha,q1,q2⟩:=h
 refine ⟨_,(z0g (z0z (PW.pt (z5b (z0i z4a (pv 1) z0e (z0n _)) (z3u (z0i y4g (pv 1) (z0o z0j (by rfl) zlen PySem.boot_len (z0a (pv 0) z0c)) (z0n _))))) (z0g (z1q PySem.F.excBase_ValueError rfl (by rfl) nNoSide xNoSide z1z (z0a z0p z0c))) z0k)),?_⟩
 wp_walk using rRepT,tSeq,tIfS
 unfold off at q1 q2
 by_cases c1:side < 0
 ·rw [if_pos c1];exact ⟨small (by decide),q1 (.inl c1)⟩
 rw [if_neg c1]
 refine ⟨_,.inr (.of ha),?_⟩
 rw [z0v]
 by_cases c2:(ns.length:Int)≤side
 ·rw [if_pos c2];exact ⟨small (by decide),q1 (.inr c2)⟩
 rw [if_neg c2]
 exact q2 (by omega)
abbrev sturnedsides:Stmt:=top 35
theorem z6n:FnScope ["sides", "order"] ["sides", "order"] (defScope sturnedsides):=⟨rfl,rfl,rfl,by decide +kernel,rfl,by decide +kernel,by decide +kernel⟩
theorem z7b (F:Fun K "turned_sides" "turned_sides" sturnedsides f fd) {CNoSide:Addr}(nNoSide:W.nsIn K mainGlobals "NoSide" = some (some (.ref CNoSide))) (zsorted:mg "sorted" = none) (zlist:mg "list" = none) (zrange:mg "range" = none) (zlen:mg "len" = none) (ztuple:mg "tuple" = none) (xNoSide:W.excIn K CNoSide [.type "ValueError",.type "Exception",.type "BaseException",.type "object"] "ValueError.__new__" = true):FnOk P w K mg base (CX1 P w) (1) f fd ["sides", "order"] ((spturnP CNoSide)):=by
 have sc:=z6n
 refine F.okX sc (λ vs H Q E h=>?_) (λ cdv A outer s H vs Q E hr h=>?_)
 ·obtain ⟨a,b,ns,os,rfl,_⟩:=h;rfl
 obtain ⟨a,b,ns,os,rfl,ha,hb,h20,h21,q1,q2⟩:=h
 refine ⟨_,(z0d (z0z (z0i (z6h hr.units0) (z0o z8y (by rfl) zsorted boot_sorted (z0a (pv 1) z0c)) (z1l (z3k rfl) (by rfl) zlist boot_list (z0a (z1l z3s (by rfl) zrange boot_range (z0a (z0o z0j (by rfl) zlen PySem.boot_len (z0a (pv 0) z0c)) z0c)) z0c)) (z0n _)) (z0g (z1q PySem.F.excBase_ValueError rfl (by rfl) nNoSide xNoSide z1z (z0a z0p z0c))) z0k) (z0g (z0l (z1l z1m (by rfl) ztuple boot_tuple (z0a (z3d (own:=["side"]) (fv:=["sides"]) (js:=[0]) rfl (z3y (pv 1)) rfl (by decide) rfl (by decide) (by first | exact λ _ _ h=>h | exact z2h rfl | exact z2g rfl rfl | exact z2f rfl rfl rfl) (z2w (by rfl)) rfl (y9d (by first | exact ⟨rfl,.inl rfl,.inl rfl⟩ | exact ⟨rfl,.inl rfl,.inr rfl⟩)) (λ _ _ _ _=>(z1d (i:=0) (show (["side", "sides"]:List Str).Nodup by decide +kernel) rfl (Or.inl rfl))) (λ _ _ _ _=>(z0u z0t (pv 1) (pv 0) (λ _ _=>rfl)))) z0c))))),?_⟩
 wp_walk using rRepT,tSeq,tIfS
 refine ⟨os,.inr (.of hb),by omega,λ ss pm pw l1 hl1=>⟨_,.inr (.of (z0b hl1 _ _ _ ha)),λ r hr=>⟨ns.length,by rw [z0v];rfl,by omega,λ l2 hl2=>?_⟩⟩⟩
 have t1:=z0b hl1 (.lst (ss.map V.int))
 have t2:=t1.trans (z0b hr (.rng 0 (((ns.map V.int).length:Nat):Int)))
 have t3:=t2.trans (z0b hl2 (.lst ((upL ns.length).map V.int)))
 refine ⟨_,.of (z0b hl2 _ _ _ (z0b hr _ _ _ z0f)),_,.of z0f,z1j _,z1j _,?_⟩
 rw [z2b]
 by_cases c:ss=upL ns.length
 ·have tk:=(z4x (n:=ns.length) pm pw).mp c
  rw [decide_eq_true c,if_neg (by decide)]
  have ha3:=t3 _ _ ha
  have hb3:=t3 _ _ hb
  generalize upd (upd (upd H l1 (HO.lst (List.map V.int ss))) r (HO.rng 0 (((ns.map V.int).length:Nat):Int))) l2 (HO.lst (List.map V.int (upL ns.length)))=H3 at *
  refine CompT.mk (xs:=os.map V.int) (.of hb3) (λ i ys σ H'=>H'=H3/\i≤os.length/\ys=(turnL ns (os.take i)).map V.int/\∃y,σ=[y,some (.ref a)]) ⟨rfl,Nat.zero_le _,rfl,_,rfl⟩ (λ i ys σ H' _ h=>by rw [h.1];exact (.of hb3)) (λ i x ys σ H' e h=>?_) (λ ys σ H' h p hp=>?_)
  ·obtain ⟨rfl,hi,rfl,y,rfl⟩:=h
   obtain ⟨o,rfl,ho⟩:=y1f e
   have il:=(List.getElem?_eq_some_iff.mp ho).1
   have om:=up_mem.mp (tk.subset (List.mem_of_getElem? ho))
   have e1:(turnL ns (os.take (i+1))).map V.int=(turnL ns (os.take i)).map V.int++[V.int (ns.getD o.toNat 0)]:=by
    unfold turnL;rw [List.take_add_one,ho,List.map_append,List.map_append];rfl
   have sm:((turnL ns (os.take i)).map V.int).length < sizeLine:=by unfold turnL;rw [List.length_map,List.length_map,List.length_take];exact z1b (by omega)
   wp_walk using rRepT,tSeq,tIfS,e1
   exact ⟨sm,_,ha3,_,x4i om.1 om.2,il,rfl,_,rfl⟩
  ·obtain ⟨rfl,hi,rfl,y,rfl⟩:=h
   rw [z0v,List.take_length]
   exact ⟨p,rfl,_,.inl ⟨.of z0f,λ l hl=>q2 tk _ _ (t3.trans ((z0b hp _).trans (z0b hl _))) z0f⟩⟩
 ·rw [decide_eq_false c,if_pos rfl]
  exact ⟨small (by decide),q1 (λ z=>c ((z4x pm pw).mpr z)) _ t3⟩
abbrev sflippedsides:Stmt:=top 36
theorem z5q:FnScope ["sides", "side"] ["sides", "side"] (defScope sflippedsides):=⟨rfl,rfl,rfl,by decide +kernel,rfl,by decide +kernel,by decide +kernel⟩
theorem z5t (F:Fun K "flipped_sides" "flipped_sides" sflippedsides f fd) {CNoSide:Addr}(nNoSide:W.nsIn K mainGlobals "NoSide" = some (some (.ref CNoSide))) (caskside:Callee P w K mg base (CX1 P w) (1) "ask_side" ["sides", "side"] (spask CNoSide)):FnOk P w K mg base (CX1 P w) (2) f fd ["sides", "side"] ((spflip CNoSide)):=by
 have sc:=z5q
 refine F.okX sc (λ vs H Q E h=>?_) (λ cdv A outer s H vs Q E hr h=>?_)
 ·obtain ⟨a,ns,side,rfl,_⟩:=h;rfl
 obtain ⟨a,ns,side,rfl,ha,q1,q2⟩:=h
 refine ⟨_,(z0d (z1r (z0r caskside hr (by rfl) z1e (z0a (pv 0) (z0a (pv 1) z0c)))) (z0g (z0l (pv 0)))),?_⟩
 wp_walk using rRepT,tSeq,tIfS,spask
 exact ⟨ns,ha,q1,q2⟩
abbrev scutsides:Stmt:=top 37
theorem y1y:FnScope ["sides", "side", "first", "many", "step"] ["sides", "side", "first", "many", "step"] (defScope scutsides):=⟨rfl,rfl,rfl,by decide +kernel,rfl,by decide +kernel,by decide +kernel⟩
theorem y2i (F:Fun K "cut_sides" "cut_sides" scutsides f fd) {CNoSide:Addr}(nNoSide:W.nsIn K mainGlobals "NoSide" = some (some (.ref CNoSide))) {CBeyond:Addr}(nBeyond:W.nsIn K mainGlobals "Beyond" = some (some (.ref CBeyond))) (caskside:Callee P w K mg base (CX1 P w) (1) "ask_side" ["sides", "side"] (spask CNoSide)) (cchangedat:Callee P w K mg base CX0 (1) "changed_at" ["row", "k", "number"] spchangedat) (xBeyond:W.excIn K CBeyond [.type "ValueError",.type "Exception",.type "BaseException",.type "object"] "ValueError.__new__" = true):FnOk P w K mg base (CX1 P w) (2) f fd ["sides", "side", "first", "many", "step"] ((spcut CNoSide CBeyond)):=by
 have sc:=y1y
 refine F.okX sc (λ vs H Q E h=>?_) (λ cdv A outer s H vs Q E hr h=>?_)
 ·obtain ⟨a,ns,side,first,many,step,rfl,_⟩:=h;rfl
 obtain ⟨a,ns,side,first,many,step,rfl,ha,h63,m0,m1,q1,q2,q3⟩:=h
 refine ⟨_,(z0d (z1r (z0r caskside hr (by rfl) z1e (z0a (pv 0) (z0a (pv 1) z0c)))) (z0d (z0z (PW.pt (z5b (z0i z4a (pv 2) z0e (z0n _)) (z5b (z0i z4a (pv 3) z0e (z0n _)) (z3u (z0i z4a (pv 4) z0e (z0n _)))))) (z0g (z1q PySem.F.excBase_ValueError rfl (by rfl) nBeyond xBeyond z1z (z0a z0p z0c))) z0k) (z0d (z0z (PW.pt (z5c (z0i z4q (pv 3) z0e (z0n _)) (z3q (z0i y4g (z0s z1y (pv 2) (z0s z4o (z0s z3b (pv 3) z0e) (pv 4))) (z0u z0t (pv 0) (pv 1) (λ _ _=>rfl)) (z0n _))))) (z0g (z1q PySem.F.excBase_ValueError rfl (by rfl) nBeyond xBeyond z1z (z0a z0p z0c))) z0k) (z0g (z0l (z0r cchangedat hr (by rfl) z1h (z0a (pv 0) (z0a (pv 1) (z0a (pv 3) z0c))))))))),?_⟩
 wp_walk using rRepT,tSeq,tIfS,spask,spchangedat
 refine ⟨ns,ha,q1,λ no=>?_⟩
 replace q2:=q2 no
 replace q3:=q3 no
 obtain ⟨k,rfl,hk⟩:=x2d no
 unfold bad at q2 q3
 simp only [Int.toNat_natCast] at q2 q3
 by_cases c1:first < 0
 ·rw [if_pos c1];exact ⟨small (by decide),q2 (.inl c1)⟩
 rw [if_neg c1]
 by_cases c2:many < 0
 ·rw [if_pos c2];exact ⟨small (by decide),q2 (.inr (.inl c2))⟩
 rw [if_neg c2]
 by_cases c3:step < 1
 ·rw [if_pos c3];exact ⟨small (by decide),q2 (.inr (.inr (.inl c3)))⟩
 rw [if_neg c3]
 by_cases c4:0 < many
 ·rw [if_pos c4]
  refine ⟨.inl ⟨by omega,by omega⟩,_,ha,_,y1k hk,_,rfl,?_⟩
  by_cases c5:ns.getD k 0≤first+(many - 1) * step
  ·rw [if_pos c5];exact ⟨small (by decide),q2 (.inr (.inr (.inr ⟨c4,c5⟩)))⟩
  rw [if_neg c5]
  exact ⟨ns,k,rfl,ha,h63,hk,q3 (λ z=>z.elim c1 λ z=>z.elim c2 λ z=>z.elim c3 λ z=>c5 z.2)⟩
 ·rw [if_neg c4]
  exact ⟨ns,k,rfl,ha,h63,hk,q3 (λ z=>z.elim c1 λ z=>z.elim c2 λ z=>z.elim c3 λ z=>c4 z.1)⟩
abbrev sspreadsides:Stmt:=top 38
theorem z6o:FnScope ["sides", "side", "many"] ["sides", "side", "many"] (defScope sspreadsides):=⟨rfl,rfl,rfl,by decide +kernel,rfl,by decide +kernel,by decide +kernel⟩
theorem z7c (F:Fun K "spread_sides" "spread_sides" sspreadsides f fd) {CNoSide:Addr}(nNoSide:W.nsIn K mainGlobals "NoSide" = some (some (.ref CNoSide))) {CBeyond:Addr}(nBeyond:W.nsIn K mainGlobals "Beyond" = some (some (.ref CBeyond))) {CTooLarge:Addr}(nTooLarge:W.nsIn K mainGlobals "TooLarge" = some (some (.ref CTooLarge))) (caddedat:Callee P w K mg base CX0 (3) "added_at" ["row", "k", "number"] spaddedat) (callowed:Callee P w K mg base (CX1 P w) (3) "allowed" ["sides"] (spallowed CTooLarge)) (zlen:mg "len" = none) (xNoSide:W.excIn K CNoSide [.type "ValueError",.type "Exception",.type "BaseException",.type "object"] "ValueError.__new__" = true) (xBeyond:W.excIn K CBeyond [.type "ValueError",.type "Exception",.type "BaseException",.type "object"] "ValueError.__new__" = true):FnOk P w K mg base (CX1 P w) (4) f fd ["sides", "side", "many"] ((spspr CNoSide CBeyond CTooLarge)):=by
 have sc:=z6o
 refine F.okX sc (λ vs H Q E h=>?_) (λ cdv A outer s H vs Q E hr h=>?_)
 ·obtain ⟨a,ns,side,many,rfl,_⟩:=h;rfl
 obtain ⟨a,ns,side,many,rfl,ha,hs,h20,hm,q1,q2,q3,q4⟩:=h
 refine ⟨_,(z0d (z0z (PW.pt (z5b (z0i z4a (pv 1) z0e (z0n _)) (z3u (z0i z4q (pv 1) (z0o z0j (by rfl) zlen PySem.boot_len (z0a (pv 0) z0c)) (z0n _))))) (z0g (z1q PySem.F.excBase_ValueError rfl (by rfl) nNoSide xNoSide z1z (z0a z0p z0c))) z0k) (z0d (z0z (z0i z4a (pv 2) z0e (z0n _)) (z0g (z1q PySem.F.excBase_ValueError rfl (by rfl) nBeyond xBeyond z1z (z0a z0p z0c))) z0k) (z0g (z0l (z0r callowed hr (by rfl) z1e (z0a (z0r caddedat hr (by rfl) z1h (z0a (pv 0) (z0a (pv 1) (z0a (pv 2) z0c)))) z0c)))))),?_⟩
 wp_walk using rRepT,tSeq,tIfS,spaddedat,spallowed
 unfold off1 at q1 q2 q3 q4
 by_cases c1:side < 0
 ·rw [if_pos c1];exact ⟨small (by decide),q1 (.inl c1)⟩
 rw [if_neg c1]
 refine ⟨_,.inr (.of ha),?_⟩
 rw [z0v]
 by_cases c2:(ns.length:Int) < side
 ·rw [if_pos c2];exact ⟨small (by decide),q1 (.inr c2)⟩
 rw [if_neg c2]
 have no:¬(side < 0\/(ns.length:Int) < side):=by omega
 by_cases c3:many < 0
 ·rw [if_pos c3];exact ⟨small (by decide),q2 no c3⟩
 rw [if_neg c3]
 obtain ⟨k,rfl⟩:∃k:Nat,side=k:=⟨side.toNat,by omega⟩
 refine ⟨ns,k,rfl,ha,by omega,λ H1 p s1 hp=>⟨_,hp,x4b hs (by omega) hm,by rw [x1l];omega,λ b H2 s2=>q3 no c3 b _ (s1.trans s2),λ b H2 s2=>q4 no c3 b _ _ (s1.trans s2) (s2 _ _ hp)⟩⟩
abbrev sledsides:Stmt:=top 41
theorem y1u:FnScope ["sides", "others"] ["sides", "others"] (defScope sledsides):=⟨rfl,rfl,rfl,by decide +kernel,rfl,by decide +kernel,by decide +kernel⟩
theorem y2e (F:Fun K "led_sides" "led_sides" sledsides f fd) {CUnlike:Addr}(nUnlike:W.nsIn K mainGlobals "Unlike" = some (some (.ref CUnlike))) (zlen:mg "len" = none) (xUnlike:W.excIn K CUnlike [.type "ValueError",.type "Exception",.type "BaseException",.type "object"] "ValueError.__new__" = true):FnOk P w K mg base (CX1 P w) (1) f fd ["sides", "others"] ((spled CUnlike)):=by
 have sc:=y1u
 refine F.okX sc (λ vs H Q E h=>?_) (λ cdv A outer s H vs Q E hr h=>?_)
 ·obtain ⟨a,b,ns,ms,rfl,_⟩:=h;rfl
 obtain ⟨a,b,ns,ms,rfl,ha,hb,q1,q2⟩:=h
 refine ⟨_,(z0d (z0z (z0i (y0z hr.units0) (z1i z1u (pv 1) z1o (z1k (z0o z0j (by rfl) zlen PySem.boot_len (z0a (pv 0) z0c)))) (pv 0) (z0n _)) (z0g (z1q PySem.F.excBase_ValueError rfl (by rfl) nUnlike xUnlike z1z (z0a z0p z0c))) z0k) (z0g (z0l (pv 1)))),?_⟩
 wp_walk using rRepT,tSeq,tIfS
 refine ⟨_,.inr (.of ha),_,hb,λ r H1 s1 hr1=>?_⟩
 rw [z0v,z2k] at hr1
 refine ⟨_,.of hr1,_,.of (s1 _ _ ha),z1j _,z1j _,?_⟩
 rw [z2b]
 by_cases c:ms.take ns.length=ns
 ·rw [if_neg (by simp [c])];exact q2 c _ s1
 ·rw [if_pos (by simp [c])];exact ⟨small (by decide),q1 c _ s1⟩
abbrev sfoldedsides:Stmt:=top 45
theorem z6t:FnScope ["sides", "side"] ["sides", "side"] (defScope sfoldedsides):=⟨rfl,rfl,rfl,by decide +kernel,rfl,by decide +kernel,by decide +kernel⟩
theorem z7h (F:Fun K "folded_sides" "folded_sides" sfoldedsides f fd) {CNoSide:Addr}(nNoSide:W.nsIn K mainGlobals "NoSide" = some (some (.ref CNoSide))) (caskside:Callee P w K mg base (CX1 P w) (1) "ask_side" ["sides", "side"] (spask CNoSide)) (cdroppedat:Callee P w K mg base CX0 (1) "dropped_at" ["row", "k"] spdroppedat):FnOk P w K mg base (CX1 P w) (2) f fd ["sides", "side"] ((spfolded CNoSide)):=by
 have sc:=z6t
 refine F.okX sc (λ vs H Q E h=>?_) (λ cdv A outer s H vs Q E hr h=>?_)
 ·obtain ⟨a,ns,side,rfl,_⟩:=h;rfl
 obtain ⟨a,ns,side,rfl,ha,h63,q1,q2⟩:=h
 refine ⟨_,(z0d (z1r (z0r caskside hr (by rfl) z1e (z0a (pv 0) (z0a (pv 1) z0c)))) (z0g (z0l (z0r cdroppedat hr (by rfl) z1h (z0a (pv 0) (z0a (pv 1) z0c)))))),?_⟩
 wp_walk using rRepT,tSeq,tIfS,spask,spdroppedat
 refine ⟨ns,ha,q1,λ no=>?_⟩
 obtain ⟨k,rfl,hk⟩:=x2d no
 exact ⟨ns,k,rfl,ha,h63,hk,q2 no⟩
abbrev slaidsides:Stmt:=top 39
theorem z9q:FnScope ["sides", "others"] ["sides", "others"] (defScope slaidsides):=⟨rfl,rfl,rfl,by decide +kernel,rfl,by decide +kernel,by decide +kernel⟩
theorem y0i (F:Fun K "laid_sides" "laid_sides" slaidsides f fd) {CTooLarge:Addr}(nTooLarge:W.nsIn K mainGlobals "TooLarge" = some (some (.ref CTooLarge))) {CUnlike:Addr}(nUnlike:W.nsIn K mainGlobals "Unlike" = some (some (.ref CUnlike))) (callowed:Callee P w K mg base (CX1 P w) (3) "allowed" ["sides"] (spallowed CTooLarge)) (camount:Callee P w K mg base CX0 (3) "amount" ["sides"] spamount) (xUnlike:W.excIn K CUnlike [.type "ValueError",.type "Exception",.type "BaseException",.type "object"] "ValueError.__new__" = true):FnOk P w K mg base (CX1 P w) (4) f fd ["sides", "others"] ((splaid CTooLarge CUnlike)):=by
 have sc:=z9q
 refine F.okX sc (λ vs H Q E h=>?_) (λ cdv A outer s H vs Q E hr h=>?_)
 ·obtain ⟨a,b,ns,ms,rfl,_⟩:=h;rfl
 obtain ⟨a,b,ns,ms,rfl,ha,hb,hn,hm,hl,q1,q2,q3⟩:=h
 refine ⟨_,(z0d (z1r (z0r callowed hr (by rfl) z1e (z0a (pv 1) z0c))) (z0d (z0z (z0i y0b (z0r camount hr (by rfl) z1h (z0a (pv 0) z0c)) (z0r camount hr (by rfl) z1h (z0a (pv 1) z0c)) (z0n _)) (z0g (z1q PySem.F.excBase_ValueError rfl (by rfl) nUnlike xUnlike z1z (z0a z0p z0c))) z0k) (z0g (z0l (pv 1))))),?_⟩
 wp_walk using rRepT,tSeq,tIfS,spallowed,spamount
 refine ⟨ms,hb,hm,by omega,q1,λ nb H1 s1=>⟨ns,.inr (s1 _ _ ha),hn,ms,.inr (s1 _ _ hb),hm,?_⟩⟩
 by_cases c:prodI ns=prodI ms
 ·rw [if_neg (λ z=>z c)];exact q3 nb c _ s1
 ·rw [if_pos c];exact ⟨small (by decide),q2 nb c _ s1⟩
abbrev sjoinedsides:Stmt:=top 40
theorem z6s:FnScope ["sides", "others", "side"] ["sides", "others", "side"] (defScope sjoinedsides):=⟨rfl,rfl,rfl,by decide +kernel,rfl,by decide +kernel,by decide +kernel⟩
theorem z7g (F:Fun K "joined_sides" "joined_sides" sjoinedsides f fd) {CUnlike:Addr}(nUnlike:W.nsIn K mainGlobals "Unlike" = some (some (.ref CUnlike))) {CNoSide:Addr}(nNoSide:W.nsIn K mainGlobals "NoSide" = some (some (.ref CNoSide))) {CTooLarge:Addr}(nTooLarge:W.nsIn K mainGlobals "TooLarge" = some (some (.ref CTooLarge))) (caskside:Callee P w K mg base (CX1 P w) (3) "ask_side" ["sides", "side"] (spask CNoSide)) (cdroppedat:Callee P w K mg base CX0 (3) "dropped_at" ["row", "k"] spdroppedat) (callowed:Callee P w K mg base (CX1 P w) (3) "allowed" ["sides"] (spallowed CTooLarge)) (cchangedat:Callee P w K mg base CX0 (3) "changed_at" ["row", "k", "number"] spchangedat) (zlen:mg "len" = none) (xUnlike:W.excIn K CUnlike [.type "ValueError",.type "Exception",.type "BaseException",.type "object"] "ValueError.__new__" = true):FnOk P w K mg base (CX1 P w) (4) f fd ["sides", "others", "side"] ((spjoin CUnlike CNoSide CTooLarge)):=by
 have sc:=z6s
 refine F.okX sc (λ vs H Q E h=>?_) (λ cdv A outer s H vs Q E hr h=>?_)
 ·obtain ⟨a,b,ns,ms,side,rfl,_⟩:=h;rfl
 obtain ⟨a,b,ns,ms,side,rfl,ha,hb,hn,hm,hl,q1,q2,q3,q4,q5⟩:=h
 refine ⟨_,(z0d (z0z (z0i y0b (z0o z0j (by rfl) zlen PySem.boot_len (z0a (pv 0) z0c)) (z0o z0j (by rfl) zlen PySem.boot_len (z0a (pv 1) z0c)) (z0n _)) (z0g (z1q PySem.F.excBase_ValueError rfl (by rfl) nUnlike xUnlike z1z (z0a z0p z0c))) z0k) (z0d (z1r (z0r caskside hr (by rfl) z1e (z0a (pv 0) (z0a (pv 2) z0c)))) (z0d (z0z (z0i (y0z hr.units0) (z0r cdroppedat hr (by rfl) z1h (z0a (pv 0) (z0a (pv 2) z0c))) (z0r cdroppedat hr (by rfl) z1h (z0a (pv 1) (z0a (pv 2) z0c))) (z0n _)) (z0g (z1q PySem.F.excBase_ValueError rfl (by rfl) nUnlike xUnlike z1z (z0a z0p z0c))) z0k) (z0g (z0l (z0r callowed hr (by rfl) z1e (z0a (z0r cchangedat hr (by rfl) z1h (z0a (pv 0) (z0a (pv 2) (z0a (z0s z1y (z0u z0t (pv 0) (pv 2) (λ _ _=>rfl)) (z0u z0t (pv 1) (pv 2) (λ _ _=>rfl))) z0c)))) z0c))))))),?_⟩
 wp_walk using rRepT,tSeq,tIfS,spask,spdroppedat,spallowed,spchangedat
 refine ⟨_,.inr (.of ha),_,.inr (.of hb),?_⟩
 rw [z0v,z0v]
 by_cases le:ns.length=ms.length
 ·rw [if_neg (by omega)]
  refine ⟨ns,ha,q2 le,λ no=>?_⟩
  replace q3:=q3 le no
  replace q4:=q4 le no
  replace q5:=q5 le no
  obtain ⟨k,rfl,hk⟩:=x2d no
  simp only [Int.toNat_natCast] at q3 q4 q5
  refine ⟨ns,k,rfl,ha,by omega,hk,λ H1 p1 s1 h1=>⟨ms,k,rfl,s1 _ _ hb,by omega,by omega,λ H2 p2 s2 h2=>⟨_,.of (s2 _ _ h1),_,.of h2,z1j _,z1j _,?_⟩⟩⟩
  rw [z2b]
  have s12:=s1.trans s2
  by_cases c:ns.eraseIdx k=ms.eraseIdx k
  ·rw [if_neg (by simp [c])]
   have n1:=hn _ (getD_mem hk)
   have n2:=hm _ (getD_mem (ns:=ms) (k:=k) (by omega))
   refine ⟨_,s12 _ _ ha,_,y1k hk,_,s12 _ _ hb,_,y1k (ns:=ms) (by omega),_,rfl,_,rfl,ns,k,rfl,s12 _ _ ha,by omega,hk,λ H3 p3 s3 h3=>?_⟩
   exact ⟨_,h3,λ n hn'=>by
    rcases List.mem_or_eq_of_mem_set hn' with z | z
    ·exact x4t hn n z
    ·omega,by rw [List.length_set];omega,λ bg H4 s4=>q4 c bg _ (s12.trans (s3.trans s4)),λ nb H4 s4=>q5 c nb _ _ (s12.trans (s3.trans s4)) (s4 _ _ h3)⟩
  ·rw [if_pos (by simp [c])]
   exact ⟨small (by decide),q3 c _ s12⟩
 ·rw [if_pos (by omega)]
  exact ⟨small (by decide),q1 le⟩
abbrev scountedsides:Stmt:=top 46
theorem z5s:FnScope ["sides", "side"] ["sides", "side"] (defScope scountedsides):=⟨rfl,rfl,rfl,by decide +kernel,rfl,by decide +kernel,by decide +kernel⟩
theorem z5v (F:Fun K "counted_sides" "counted_sides" scountedsides f fd) {CTooLarge:Addr}(nTooLarge:W.nsIn K mainGlobals "TooLarge" = some (some (.ref CTooLarge))) {CNoSide:Addr}(nNoSide:W.nsIn K mainGlobals "NoSide" = some (some (.ref CNoSide))) (callowed:Callee P w K mg base (CX1 P w) (3) "allowed" ["sides"] (spallowed CTooLarge)) (caskside:Callee P w K mg base (CX1 P w) (3) "ask_side" ["sides", "side"] (spask CNoSide)):FnOk P w K mg base (CX1 P w) (4) f fd ["sides", "side"] ((spcnt CTooLarge CNoSide)):=by
 have sc:=z5s
 refine F.okX sc (λ vs H Q E h=>?_) (λ cdv A outer s H vs Q E hr h=>?_)
 ·obtain ⟨a,ns,side,rfl,_⟩:=h;rfl
 obtain ⟨a,ns,side,rfl,ha,hn,hl,q1,q2,q3⟩:=h
 refine ⟨_,(z0d (z1r (z0r callowed hr (by rfl) z1e (z0a (pv 0) z0c))) (z0d (z1r (z0r caskside hr (by rfl) z1e (z0a (pv 0) (z0a (pv 1) z0c)))) (z0g (z0l (pv 0))))),?_⟩
 wp_walk using rRepT,tSeq,tIfS,spallowed,spask
 exact ⟨ns,ha,hn,by omega,q1,λ nb H1 s1=>⟨ns,s1 _ _ ha,λ o=>q2 nb o _ s1,λ o=>q3 nb o _ s1⟩⟩
abbrev spairedsides:Stmt:=top 42
theorem z6r:FnScope ["sides", "others"] ["sides", "others"] (defScope spairedsides):=⟨rfl,rfl,rfl,by decide +kernel,rfl,by decide +kernel,by decide +kernel⟩
theorem z7f (F:Fun K "paired_sides" "paired_sides" spairedsides f fd) {CUnlike:Addr}(nUnlike:W.nsIn K mainGlobals "Unlike" = some (some (.ref CUnlike))) (cledsides:Callee P w K mg base (CX1 P w) (1) "led_sides" ["sides", "others"] (spled CUnlike)) (zlen:mg "len" = none):FnOk P w K mg base (CX1 P w) (2) f fd ["sides", "others"] ((sppaired CUnlike)):=by
 have sc:=z6r
 refine F.okX sc (λ vs H Q E h=>?_) (λ cdv A outer s H vs Q E hr h=>?_)
 ·obtain ⟨a,b,ns,ms,rfl,_⟩:=h;rfl
 obtain ⟨a,b,ns,ms,rfl,ha,hb,q1,q2⟩:=h
 refine ⟨_,(z0d (z0z (z0i z4q (z0o z0j (by rfl) zlen PySem.boot_len (z0a (pv 0) z0c)) (z0o z0j (by rfl) zlen PySem.boot_len (z0a (pv 1) z0c)) (z0n _)) (z0g (z0l (z0r cledsides hr (by rfl) z1e (z0a (pv 1) (z0a (pv 0) z0c))))) z0k) (z0g (z0l (z0r cledsides hr (by rfl) z1e (z0a (pv 0) (z0a (pv 1) z0c)))))),?_⟩
 wp_walk using rRepT,tSeq,tIfS,spled
 refine ⟨_,.inr (.of ha),_,.inr (.of hb),?_⟩
 rw [z0v,z0v]
 unfold pairOk at q1 q2
 unfold pairL at q2
 by_cases c:ms.length < ns.length
 ·rw [if_pos (by omega)]
  simp only [if_pos c] at q1 q2
  exact ⟨ms,hb,ns,ha,q1,λ e H1 s1=>q2 e _ _ s1 (s1 _ _ ha)⟩
 ·rw [if_neg (by omega)]
  simp only [if_neg c] at q1 q2
  exact ⟨ns,ha,ms,hb,q1,λ e H1 s1=>q2 e _ _ s1 (s1 _ _ hb)⟩
abbrev spickedsides:Stmt:=top 43
theorem z6q:FnScope ["marks", "sides", "others"] ["marks", "sides", "others"] (defScope spickedsides):=⟨rfl,rfl,rfl,by decide +kernel,rfl,by decide +kernel,by decide +kernel⟩
theorem z7e (F:Fun K "picked_sides" "picked_sides" spickedsides f fd) {CUnlike:Addr}(nUnlike:W.nsIn K mainGlobals "Unlike" = some (some (.ref CUnlike))) (cpairedsides:Callee P w K mg base (CX1 P w) (2) "paired_sides" ["sides", "others"] (sppaired CUnlike)):FnOk P w K mg base (CX1 P w) (3) f fd ["marks", "sides", "others"] ((sppicked CUnlike)):=by
 have sc:=z6q
 refine F.okX sc (λ vs H Q E h=>?_) (λ cdv A outer s H vs Q E hr h=>?_)
 ·obtain ⟨a,b,c,ns,ms,ks,rfl,_⟩:=h;rfl
 obtain ⟨a,b,c,ns,ms,ks,rfl,ha,hb,hc,q1,q2⟩:=h
 refine ⟨_,(z0g (z0l (z0r cpairedsides hr (by rfl) z1e (z0a (z0r cpairedsides hr (by rfl) z1e (z0a (pv 0) (z0a (pv 1) z0c))) (z0a (pv 2) z0c))))),?_⟩
 wp_walk using rRepT,tSeq,tIfS,sppaired
 refine ⟨ns,ha,ms,hb,λ n=>q1 (λ z=>n z.1),λ o H1 p s1 hp=>⟨_,hp,ks,s1 _ _ hc,λ n H2 s2=>q1 (λ z=>n z.2) _ (s1.trans s2),λ o2 H2 p2 s2 hp2=>q2 o o2 _ _ (s1.trans s2) hp2⟩⟩
abbrev sfetchedsides:Stmt:=top 44
theorem z5r:FnScope ["sides", "others"] ["sides", "others"] (defScope sfetchedsides):=⟨rfl,rfl,rfl,by decide +kernel,rfl,by decide +kernel,by decide +kernel⟩
theorem z5u (F:Fun K "fetched_sides" "fetched_sides" sfetchedsides f fd) {CNoSide:Addr}(nNoSide:W.nsIn K mainGlobals "NoSide" = some (some (.ref CNoSide))) {CBeyond:Addr}(nBeyond:W.nsIn K mainGlobals "Beyond" = some (some (.ref CBeyond))) {CTooLarge:Addr}(nTooLarge:W.nsIn K mainGlobals "TooLarge" = some (some (.ref CTooLarge))) (callowed:Callee P w K mg base (CX1 P w) (3) "allowed" ["sides"] (spallowed CTooLarge)) (zlen:mg "len" = none) (xNoSide:W.excIn K CNoSide [.type "ValueError",.type "Exception",.type "BaseException",.type "object"] "ValueError.__new__" = true) (xBeyond:W.excIn K CBeyond [.type "ValueError",.type "Exception",.type "BaseException",.type "object"] "ValueError.__new__" = true):FnOk P w K mg base (CX1 P w) (4) f fd ["sides", "others"] ((spfetched CNoSide CBeyond CTooLarge)):=by
 have sc:=z5r
 refine F.okX sc (λ vs H Q E h=>?_) (λ cdv A outer s H vs Q E hr h=>?_)
 ·obtain ⟨a,b,ns,ms,rfl,_⟩:=h;rfl
 obtain ⟨a,b,ns,ms,rfl,ha,hb,hn,hm,hl,hk,q1,q2,q3,q4⟩:=h
 refine ⟨_,(z0d (z0z (z0i z1f (z0o z0j (by rfl) zlen PySem.boot_len (z0a (pv 0) z0c)) z0e (z0n _)) (z0g (z1q PySem.F.excBase_ValueError rfl (by rfl) nNoSide xNoSide z1z (z0a z0p z0c))) z0k) (z0d (z0z (z0i z1f (z0u z0t (pv 0) z0e (λ _ _=>rfl)) z0e (z0n _)) (z0g (z1q PySem.F.excBase_ValueError rfl (by rfl) nBeyond xBeyond z1z (z0a z0p z0c))) z0k) (z0g (z0l (z0r callowed hr (by rfl) z1e (z0a (z0s z1s (pv 1) (z1i z1u (pv 0) (z1k z0e) z1o)) z0c)))))),?_⟩
 wp_walk using rRepT,tSeq,tIfS,spallowed
 refine ⟨_,.inr (.of ha),?_⟩
 rw [z0v]
 cases ns with
 | nil=>rw [if_pos (by simp)];exact ⟨small (by decide),q1 rfl⟩
 | cons n r =>
  rw [if_neg (by simp;omega)]
  refine ⟨_,ha,_,z0m (j:=0) rfl,rfl,?_⟩
  by_cases n0:n=0
  ·subst n0;rw [if_pos rfl];exact ⟨small (by decide),q2 _ rfl⟩
  rw [if_neg (by simp [n0])]
  have cut:cutV ((n::r).map V.int) (some 1) none=r.map V.int:=z8v (ns:=n::r) (k:=1) (by simp)
  have l1:r.length≤20:=by simp at hl;omega
  refine ⟨_,ha,λ r1 H1 s1 hr1=>⟨_,s1 _ _ hb,_,hr1,?_,λ r2 H2 s2 hr2=>?_⟩⟩
  ·rw [cut,z0v,z0v];exact small (by omega)
  rw [cut,← List.map_append] at hr2
  exact ⟨ms++r,hr2,λ m hm'=>(List.mem_append.mp hm').elim (hm m) (λ z=>hn m (List.mem_cons_of_mem _ z)),by rw [List.length_append];omega,λ b H3 s3=>q3 n r rfl n0 b _ ((s1.trans s2).trans s3),λ b H3 s3=>q4 n r rfl n0 b _ _ ((s1.trans s2).trans s3) (s3 _ _ hr2)⟩
abbrev swrapped:Stmt:=top 11
def spwrapped:Sp:=λ vs H Q _=>∃n:Int,vs=[.int n]/\Q (.int (wrapI n)) H
theorem y2y:FnScope ["n"] ["n"] (defScope swrapped):=⟨rfl,rfl,rfl,by decide +kernel,rfl,by decide +kernel,by decide +kernel⟩
theorem y4i (F:Fun K "wrapped" "wrapped" swrapped f fd) {tLOW:Tok}(gLOW:mg "LOW" = some (.int (-9223372036854775808) tLOW)):FnOk P w K mg base CX0 (1) f fd ["n"] (spwrapped):=by
 have sc:=y2y
 refine F.ok sc (λ vs H Q E h=>?_) (λ cdv A outer s H vs Q E hr h=>?_)
 ·obtain ⟨n,rfl,_⟩:=h;rfl
 obtain ⟨n,rfl,q⟩:=h
 refine ⟨_,(z0g (z0l (z0s z1y (z0s z1x (z0s z3b (pv 0) (z3i (v:=.int (-9223372036854775808)) (by rfl) gLOW ⟨_,rfl⟩)) (z0s z5e z0e z0e)) (z3i (v:=.int (-9223372036854775808)) (by rfl) gLOW ⟨_,rfl⟩)))),?_⟩
 wp_walk using rRepT,tSeq,tIfS
 have e:(n - -9223372036854775808) % 18446744073709551616 + -9223372036854775808=wrapI n:=by unfold wrapI;omega
 rw [e];exact q
abbrev ssignof:Stmt:=top 12
def spsignof:Sp:=λ vs H Q _=>∃n:Int,vs=[.int n]/\Q (.int (if n < 0 then -1 else if 0 < n then 1 else 0)) H
theorem y6t:FnScope ["x"] ["x"] (defScope ssignof):=⟨rfl,rfl,rfl,by decide +kernel,rfl,by decide +kernel,by decide +kernel⟩
theorem y7p (F:Fun K "sign_of" "sign_of" ssignof f fd):FnOk P w K mg base CX0 (1) f fd ["x"] (spsignof):=by
 have sc:=y6t
 refine F.ok sc (λ vs H Q E h=>?_) (λ cdv A outer s H vs Q E hr h=>?_)
 ·obtain ⟨n,rfl,_⟩:=h;rfl
 obtain ⟨n,rfl,q⟩:=h
 refine ⟨_,(z0d (z0z (z0i z4a (pv 0) z0e (z0n _)) (z0g (z0l (y3w z7p z0e))) z0k) (z0g (z0l (z3l (z0i z4q (pv 0) z0e (z0n _)) z0e z0e)))),?_⟩
 wp_walk using rRepT,tSeq,tIfS
 repeat' split
 all_goals (simp_all;done)
abbrev squotient:Stmt:=top 13
def spquotient:Sp:=λ vs H Q _=>∃x y:Int,vs=[.int x,.int y]/\inB x/\inB y/\Q (.int (quoI x y)) H
theorem y1t:FnScope ["x", "y"] ["x", "y"] (defScope squotient):=⟨rfl,rfl,rfl,by decide +kernel,rfl,by decide +kernel,by decide +kernel⟩
theorem y2d (F:Fun K "quotient" "quotient" squotient f fd) (cwrapped:Callee P w K mg base CX0 (1) "wrapped" ["n"] spwrapped):FnOk P w K mg base CX0 (2) f fd ["x", "y"] (spquotient):=by
 have sc:=y1t
 refine F.ok sc (λ vs H Q E h=>?_) (λ cdv A outer s H vs Q E hr h=>?_)
 ·obtain ⟨x,y,rfl,_⟩:=h;rfl
 obtain ⟨x,y,rfl,hx,hy,q⟩:=h
 refine ⟨_,(z0d (z0z (z0i z1f (pv 1) z0e (z0n _)) (z0g (z0l z0e)) z0k) (z0g (z0l (z0r cwrapped hr (by rfl) z1h (z0a (z0s z4b (pv 0) (pv 1)) z0c))))),?_⟩
 wp_walk using rRepT,tSeq,tIfS,spwrapped
 unfold quoI at q
 by_cases h:y=0
 ·rw [if_pos h]
  rw [if_pos h] at q
  exact q
 ·rw [if_neg h]
  rw [if_neg h] at q
  unfold inB at hy
  exact ⟨h,by omega,by omega,q⟩
abbrev sremainder:Stmt:=top 14
def spremainder:Sp:=λ vs H Q _=>∃x y:Int,vs=[.int x,.int y]/\Q (.int (restI x y)) H
theorem z9m:FnScope ["x", "y"] ["x", "y"] (defScope sremainder):=⟨rfl,rfl,rfl,by decide +kernel,rfl,by decide +kernel,by decide +kernel⟩
theorem y0e (F:Fun K "remainder" "remainder" sremainder f fd):FnOk P w K mg base CX0 (1) f fd ["x", "y"] (spremainder):=by
 have sc:=z9m
 refine F.ok sc (λ vs H Q E h=>?_) (λ cdv A outer s H vs Q E hr h=>?_)
 ·obtain ⟨x,y,rfl,_⟩:=h;rfl
 obtain ⟨x,y,rfl,q⟩:=h
 refine ⟨_,(z0g (z0l (z3l (z0i z1f (pv 1) z0e (z0n _)) (pv 0) (z0s z2c (pv 0) (pv 1))))),?_⟩
 wp_walk using rRepT,tSeq,tIfS
 unfold restI at q
 by_cases h:y=0
 ·rw [if_pos h]
  rw [if_pos h] at q
  exact q
 ·rw [if_neg h]
  rw [if_neg h] at q
  exact ⟨h,q⟩
abbrev sonce:Stmt:=top 15
theorem x2k:FnScope ["word", "x"] ["word", "x"] (defScope sonce):=⟨rfl,rfl,rfl,by decide +kernel,rfl,by decide +kernel,by decide +kernel⟩
theorem x3e (F:Fun K "once" "once" sonce f fd) {CNoWord:Addr}(nNoWord:W.nsIn K mainGlobals "NoWord" = some (some (.ref CNoWord))) (cwrapped:Callee P w K mg base CX0 (1) "wrapped" ["n"] spwrapped) (csignof:Callee P w K mg base CX0 (1) "sign_of" ["x"] spsignof) (zabs:mg "abs" = none) (xNoWord:W.excIn K CNoWord [.type "ValueError",.type "Exception",.type "BaseException",.type "object"] "ValueError.__new__" = true):FnOk P w K mg base (CX1 P w) (2) f fd ["word", "x"] ((sponceX CNoWord)):=by
 have sc:=x2k
 refine F.okX sc (λ vs H Q E h=>?_) (λ cdv A outer s H vs Q E hr h=>?_)
 ·obtain ⟨w,x,rfl,_⟩:=h;rfl
 obtain ⟨wd,x,rfl,ok,q1,q2⟩:=h
 refine ⟨_,(z0d (z0z (z0i z1f (pv 0) z0p (z0n _)) (z0g (z0l (z0r cwrapped hr (by rfl) z1h (z0a (y3w z7p (pv 1)) z0c)))) z0k) (z0d (z0z (z0i z1f (pv 0) z0p (z0n _)) (z0g (z0l (z0r cwrapped hr (by rfl) z1h (z0a (z0o y9g (by rfl) zabs boot_abs (z0a (pv 1) z0c)) z0c)))) z0k) (z0d (z0z (z0i z1f (pv 0) z0p (z0n _)) (z0g (z0l (z0r csignof hr (by rfl) z1h (z0a (pv 1) z0c)))) z0k) (z0d (z0z (z0i z1f (pv 0) z0p (z0n _)) (z0g (z0l (z3l (z0i z1f (pv 1) z0e (z0n _)) z0e z0e))) z0k) (z0g (z1q PySem.F.excBase_ValueError rfl (by rfl) nNoWord xNoWord z1z (z0a (x0t z0p (pv 0)) z0c))))))),?_⟩
 wp_walk using rRepT,tSeq,tIfS,spwrapped,spsignof
 unfold onceI absI at q1
 by_cases c0:wd=Str.ofString "neg"
 ·rw [if_pos c0] at q1 ⊢
  exact q1 (by rw [c0];simp [one4])
 rw [if_neg c0] at q1 ⊢
 by_cases c1:wd=Str.ofString "abs"
 ·rw [if_pos c1] at q1 ⊢
  exact q1 (by rw [c1];simp [one4])
 rw [if_neg c1] at q1 ⊢
 by_cases c2:wd=Str.ofString "sign"
 ·rw [if_pos c2] at q1 ⊢
  exact q1 (by rw [c2];simp [one4])
 rw [if_neg c2] at q1 ⊢
 by_cases c3:wd=Str.ofString "not"
 ·rw [if_pos c3]
  have q:=q1 (by rw [c3];simp [one4])
  split<;>(split at q<;>first | exact q | contradiction)
 rw [if_neg c3]
 exact ⟨⟨by decide +kernel,by decide +kernel⟩,ok,λ z=>⟨small (by decide),q2 (by simp only [one4,List.mem_cons,List.not_mem_nil,or_false,not_or];exact ⟨c0,c1,c2,c3⟩)⟩⟩
abbrev stwice:Stmt:=top 16
theorem x0h:FnScope ["word", "x", "y"] ["word", "x", "y"] (defScope stwice):=⟨rfl,rfl,rfl,by decide +kernel,rfl,by decide +kernel,by decide +kernel⟩
theorem x1c (F:Fun K "twice" "twice" stwice f fd) {CNoWord:Addr}(nNoWord:W.nsIn K mainGlobals "NoWord" = some (some (.ref CNoWord))) (cwrapped:Callee P w K mg base CX0 (2) "wrapped" ["n"] spwrapped) (cquotient:Callee P w K mg base CX0 (2) "quotient" ["x", "y"] spquotient) (cremainder:Callee P w K mg base CX0 (2) "remainder" ["x", "y"] spremainder) (zmax:mg "max" = none) (zmin:mg "min" = none) (xNoWord:W.excIn K CNoWord [.type "ValueError",.type "Exception",.type "BaseException",.type "object"] "ValueError.__new__" = true):FnOk P w K mg base (CX1 P w) (3) f fd ["word", "x", "y"] ((sptwiceX CNoWord)):=by
 have sc:=x0h
 refine F.okX sc (λ vs H Q E h=>?_) (λ cdv A outer s H vs Q E hr h=>?_)
 ·obtain ⟨w,x,y,rfl,_⟩:=h;rfl
 obtain ⟨wd,x,y,rfl,ok,hx,hy,q1,q2⟩:=h
 refine ⟨_,(z0d (z0z (z0i z1f (pv 0) z0p (z0n _)) (z0g (z0l (z0r cwrapped hr (by rfl) z1h (z0a (z0s z1y (pv 1) (pv 2)) z0c)))) z0k) (z0d (z0z (z0i z1f (pv 0) z0p (z0n _)) (z0g (z0l (z0r cwrapped hr (by rfl) z1h (z0a (z0s z3b (pv 1) (pv 2)) z0c)))) z0k) (z0d (z0z (z0i z1f (pv 0) z0p (z0n _)) (z0g (z0l (z0r cwrapped hr (by rfl) z1h (z0a (z0s z4o (pv 1) (pv 2)) z0c)))) z0k) (z0d (z0z (z0i z1f (pv 0) z0p (z0n _)) (z0g (z0l (z0r cquotient hr (by rfl) z1h (z0a (pv 1) (z0a (pv 2) z0c))))) z0k) (z0d (z0z (z0i z1f (pv 0) z0p (z0n _)) (z0g (z0l (z0r cremainder hr (by rfl) z1h (z0a (pv 1) (z0a (pv 2) z0c))))) z0k) (z0d (z0z (z0i z1f (pv 0) z0p (z0n _)) (z0g (z0l (z0o (z4f rfl) (by rfl) zmax boot_max (z0a (pv 1) (z0a (pv 2) z0c))))) z0k) (z0d (z0z (z0i z1f (pv 0) z0p (z0n _)) (z0g (z0l (z0o (z2t rfl) (by rfl) zmin boot_min (z0a (pv 1) (z0a (pv 2) z0c))))) z0k) (z0d (z0z (z0i z1f (pv 0) z0p (z0n _)) (z0g (z0l (z3l (z0i z4a (pv 1) (pv 2) (z0n _)) z0e z0e))) z0k) (z0d (z0z (z0i z1f (pv 0) z0p (z0n _)) (z0g (z0l (z3l (z0i z1f (pv 1) (pv 2) (z0n _)) z0e z0e))) z0k) (z0d (z0z (z0i z1f (pv 0) z0p (z0n _)) (z0g (z0l (z0s x3c (pv 1) (pv 2)))) z0k) (z0d (z0z (z0i z1f (pv 0) z0p (z0n _)) (z0g (z0l (z0s x4x (pv 1) (pv 2)))) z0k) (z0d (z0z (z0i z1f (pv 0) z0p (z0n _)) (z0g (z0l (z0s x3b (pv 1) (pv 2)))) z0k) (z0g (z1q PySem.F.excBase_ValueError rfl (by rfl) nNoWord xNoWord z1z (z0a (x0t z0p (pv 0)) z0c))))))))))))))),?_⟩
 wp_walk using rRepT,tSeq,tIfS,spwrapped,spquotient,spremainder
 unfold twiceI at q1
 have hm:(-18446744073709551616 < x/\x < 18446744073709551616\/-18446744073709551616 < y/\y < 18446744073709551616):=by
  unfold inB at hx;omega
 by_cases c0:wd=Str.ofString "add"
 ·have q:=q1 (by rw [c0];simp [two12])
  rw [if_pos c0]
  rw [if_pos c0] at q
  exact q
 rw [if_neg c0] at q1 ⊢
 by_cases c1:wd=Str.ofString "sub"
 ·have q:=q1 (by rw [c1];simp [two12])
  rw [if_pos c1]
  rw [if_pos c1] at q
  exact q
 rw [if_neg c1] at q1 ⊢
 by_cases c2:wd=Str.ofString "mul"
 ·have q:=q1 (by rw [c2];simp [two12])
  rw [if_pos c2]
  rw [if_pos c2] at q
  exact ⟨hm,q⟩
 rw [if_neg c2] at q1 ⊢
 by_cases c3:wd=Str.ofString "quo"
 ·have q:=q1 (by rw [c3];simp [two12])
  rw [if_pos c3]
  rw [if_pos c3] at q
  exact ⟨hx,hy,q⟩
 rw [if_neg c3] at q1 ⊢
 by_cases c4:wd=Str.ofString "rest"
 ·have q:=q1 (by rw [c4];simp [two12])
  rw [if_pos c4]
  rw [if_pos c4] at q
  exact q
 rw [if_neg c4] at q1 ⊢
 by_cases c5:wd=Str.ofString "max"
 ·have q:=q1 (by rw [c5];simp [two12])
  rw [if_pos c5]
  rw [if_pos c5] at q
  exact q
 rw [if_neg c5] at q1 ⊢
 by_cases c6:wd=Str.ofString "min"
 ·have q:=q1 (by rw [c6];simp [two12])
  rw [if_pos c6]
  rw [if_pos c6] at q
  exact q
 rw [if_neg c6] at q1 ⊢
 by_cases c7:wd=Str.ofString "less"
 ·have q:=q1 (by rw [c7];simp [two12])
  rw [if_pos c7]
  rw [if_pos c7] at q
  split<;>(split at q<;>first | exact q | contradiction)
 rw [if_neg c7] at q1 ⊢
 by_cases c8:wd=Str.ofString "like"
 ·have q:=q1 (by rw [c8];simp [two12])
  rw [if_pos c8]
  rw [if_pos c8] at q
  split<;>(split at q<;>first | exact q | contradiction)
 rw [if_neg c8] at q1 ⊢
 by_cases c9:wd=Str.ofString "and"
 ·have q:=q1 (by rw [c9];simp [two12])
  rw [if_pos c9]
  rw [if_pos c9] at q
  exact q
 rw [if_neg c9] at q1 ⊢
 by_cases c10:wd=Str.ofString "or"
 ·have q:=q1 (by rw [c10];simp [two12])
  rw [if_pos c10]
  rw [if_pos c10] at q
  exact q
 rw [if_neg c10] at q1 ⊢
 by_cases c11:wd=Str.ofString "xor"
 ·have q:=q1 (by rw [c11];simp [two12])
  rw [if_pos c11]
  exact q
 rw [if_neg c11]
 exact ⟨⟨by decide +kernel,by decide +kernel⟩,ok,λ z=>⟨small (by decide),q2 (by simp only [two12,List.mem_cons,List.not_mem_nil,or_false,not_or];exact ⟨c0,c1,c2,c3,c4,c5,c6,c7,c8,c9,c10,c11⟩)⟩⟩
abbrev sneutral:Stmt:=top 17
theorem y3a:FnScope ["word"] ["word"] (defScope sneutral):=⟨rfl,rfl,rfl,by decide +kernel,rfl,by decide +kernel,by decide +kernel⟩
theorem y4j (F:Fun K "neutral" "neutral" sneutral f fd) {CNoWord:Addr}(nNoWord:W.nsIn K mainGlobals "NoWord" = some (some (.ref CNoWord))) {tLOW:Tok}(gLOW:mg "LOW" = some (.int (-9223372036854775808) tLOW)) {tHIGH:Tok}(gHIGH:mg "HIGH" = some (.int 9223372036854775807 tHIGH)) (xNoWord:W.excIn K CNoWord [.type "ValueError",.type "Exception",.type "BaseException",.type "object"] "ValueError.__new__" = true):FnOk P w K mg base (CX1 P w) (1) f fd ["word"] ((spneutral CNoWord)):=by
 have sc:=y3a
 refine F.okX sc (λ vs H Q E h=>?_) (λ cdv A outer s H vs Q E hr h=>?_)
 ·obtain ⟨w,rfl,_⟩:=h;rfl
 obtain ⟨wd,rfl,ok,q1,q2⟩:=h
 refine ⟨_,(z0d (z0z (z0i y1a (pv 0) (z0w (z0a z0p (z0a z0p (z0a z0p z0c)))) rfl) (z0g (z0l z0e)) z0k) (z0d (z0z (z0i z1f (pv 0) z0p (z0n _)) (z0g (z0l z0e)) z0k) (z0d (z0z (z0i z1f (pv 0) z0p (z0n _)) (z0g (z0l (z3i (v:=.int (-9223372036854775808)) (by rfl) gLOW ⟨_,rfl⟩))) z0k) (z0d (z0z (z0i z1f (pv 0) z0p (z0n _)) (z0g (z0l (z3i (v:=.int 9223372036854775807) (by rfl) gHIGH ⟨_,rfl⟩))) z0k) (z0d (z0z (z0i z1f (pv 0) z0p (z0n _)) (z0g (z0l (y3w z7p z0e))) z0k) (z0g (z1q PySem.F.excBase_ValueError rfl (by rfl) nNoWord xNoWord z1z (z0a (x0t z0p (pv 0)) z0c)))))))),?_⟩
 wp_walk using rRepT,tSeq,tIfS
 refine ⟨small (by decide),λ p hp=>?_⟩
 have s1:=z0b hp (.tup [V.str (Str.ofString "add"),V.str (Str.ofString "or"),V.str (Str.ofString "xor")])
 generalize upd H p (.tup [V.str (Str.ofString "add"),V.str (Str.ofString "or"),V.str (Str.ofString "xor")])=H1 at *
 by_cases t:Str.ofString "add" = wd\/Str.ofString "or" = wd\/Str.ofString "xor" = wd
 ·rw [if_pos t]
  rcases t with t | t | t<;>subst t
  ·have q:=q1 (by simp [isF,fw]) _ s1;rw [x3m] at q;exact q
  ·have q:=q1 (by simp [isF,fw]) _ s1;rw [x5a] at q;exact q
  ·have q:=q1 (by simp [isF,fw]) _ s1;rw [x3h] at q;exact q
 rw [if_neg t]
 by_cases c0:wd=Str.ofString "mul"
 ·rw [if_pos c0];subst c0
  have q:=q1 (by simp [isF,fw]) _ s1;rw [x3i] at q;exact q
 rw [if_neg c0]
 by_cases c1:wd=Str.ofString "max"
 ·rw [if_pos c1];subst c1
  have q:=q1 (by simp [isF,fw]) _ s1;rw [x3k] at q;exact q
 rw [if_neg c1]
 by_cases c2:wd=Str.ofString "min"
 ·rw [if_pos c2];subst c2
  have q:=q1 (by simp [isF,fw]) _ s1;rw [x3j] at q;exact q
 rw [if_neg c2]
 by_cases c3:wd=Str.ofString "and"
 ·rw [if_pos c3];subst c3
  have q:=q1 (by simp [isF,fw]) _ s1;rw [x3l] at q;exact q
 rw [if_neg c3]
 exact ⟨⟨by decide +kernel,by decide +kernel⟩,ok,λ z=>⟨small (by decide),q2 (by
  unfold isF
  simp only [fw,List.mem_cons,List.not_mem_nil,or_false,not_or]
  exact ⟨λ z=>t (.inl z.symm),c0,c1,c2,c3,λ z=>t (.inr (.inl z.symm)),λ z=>t (.inr (.inr z.symm))⟩) _ s1⟩⟩
abbrev sargplaces:Stmt:=top 22
def spargplaces:Sp:=λ vs H Q _=>∃i:Nat,i < 15/\vs=[.str (kindS i)]/\∀H' p,Same H H'->H' p=some (.lst ((argsP i).map V.int))->Q (.ref p) H'
theorem z9t:FnScope ["form"] ["form"] (defScope sargplaces):=⟨rfl,rfl,rfl,by decide +kernel,rfl,by decide +kernel,by decide +kernel⟩
theorem y0l (F:Fun K "arg_places" "arg_places" sargplaces f fd) {dPARTS:Addr}(gPARTS:mg "PARTS" = some (.ref dPARTS)) (TP:PartsOk P w K dPARTS):FnOk P w K mg base CX0 (1) f fd ["form"] (spargplaces):=by
 have sc:=z9t
 refine F.ok sc (λ vs H Q E h=>?_) (λ cdv A outer s H vs Q E hr h=>?_)
 ·obtain ⟨i,_,rfl,_⟩:=h;rfl
 obtain ⟨kvs,TK,TF⟩:=TP
 obtain ⟨i,hi,rfl,q⟩:=h
 refine ⟨_,(z0g (z0l (z8d (own:=["kind", "place"]) rfl (z3y (x0s (by rfl) gPARTS TK (pv 0) (λ _ _=>rfl))) (by decide) (by decide) rfl (by decide) (λ _ _ _ _=>(x0q (K:=K) (n:=2) rfl (y0w rfl (z2p (z1d (i:=0) (show (["kind", "place"]:List Str).Nodup by decide +kernel) rfl (Or.inl rfl)) (z2p (z1d (i:=1) (show (["kind", "place"]:List Str).Nodup by decide +kernel) rfl (Or.inl rfl)) z6y))))) (λ _ _ _ _=>(pv 1)) (λ _ _ _ _=>(z0i z1f (pv 0) z0p (z0n _)))))),?_⟩
 wp_walk using rRepT,tSeq,tIfS
 obtain ⟨a,xs,e1,e2,e3⟩:=z6f TF (y8i hi)
 refine ⟨a,e1,?_⟩
 have lf:=z8r (i:=i)
 unfold argsP at q
 generalize (formsL.getD i ("",[])).snd=fs at *
 obtain ⟨l3,at3⟩:=y1e e3
 refine CompTI.mk (xs:=xs) e2.sq (λ j ys σ H'=>H'=H/\ys=(placesF (fs.take j)).map V.int/\∃y0 y1,σ=[y0,y1]) ⟨rfl,rfl,_,_,rfl⟩ (λ j ys σ H' hj h=>⟨e2.sq,?_⟩) (λ j x ys σ H' e h=>?_) (λ ys σ H' h p hp=>?_)
 ·rw [h.2.1,List.length_map]
  have:=z6d (fs.take j)
  have:=List.length_take_le j fs
  exact z1b (by omega)
 ·obtain ⟨rfl,rfl,y0,y1,rfl⟩:=h
  obtain ⟨f,b,ef,rfl,kb⟩:=at3 e
  have pl:=z9y ef
  wp_walk using rRepT,tSeq,tIfS
  refine ⟨_,kb.sq,rfl,_,_,rfl,_,_,rfl,rfl,?_⟩
  rw [pl]
  by_cases c:f.1=("step" : Str)
  ·wp_walk using rRepT,tSeq,tIfS,if_pos c,List.map_append
   exact ⟨_,rfl⟩
  ·wp_walk using rRepT,tSeq,tIfS,if_neg c
   exact ⟨_,rfl⟩
 ·obtain ⟨rfl,rfl,y0,y1,rfl⟩:=h
  rw [l3,List.take_length]
  exact q _ _ (z0b hp _) z0f
abbrev sargsof:Stmt:=top 23
def spargsof:Sp:=λ vs H Q _=>∃(a:Addr) (i:Nat) (xs:List V),i < 15/\vs=[.ref a]/\H a=some (.tup xs)/\xs[0]?=some (.str (kindS i))/\(∀p∈argsP i,0≤p/\p < xs.length)/\∀H' p,Same H H'->H' p=some (.tup (getAll xs (argsP i)))->Q (.ref p) H'
theorem y6x:FnScope ["step"] ["step"] (defScope sargsof):=⟨rfl,rfl,rfl,by decide +kernel,rfl,by decide +kernel,by decide +kernel⟩
theorem y7t (F:Fun K "args_of" "args_of" sargsof f fd) (cargplaces:Callee P w K mg base CX0 (1) "arg_places" ["form"] spargplaces) (ztuple:mg "tuple" = none):FnOk P w K mg base CX0 (2) f fd ["step"] (spargsof):=by
 have sc:=y6x
 refine F.ok sc (λ vs H Q E h=>?_) (λ cdv A outer s H vs Q E hr h=>?_)
 ·obtain ⟨a,i,xs,_,rfl,_⟩:=h;rfl
 obtain ⟨a,i,xs,hi,rfl,ha,h0,hp,q⟩:=h
 refine ⟨_,(z0g (z0l (z1l z1m (by rfl) ztuple boot_tuple (z0a (z3d (own:=["place"]) (fv:=["step"]) (js:=[0]) rfl (z2s (z0r cargplaces hr (by rfl) z1h (z0a (z0u z0t (pv 0) z0e (λ _ _=>rfl)) z0c))) rfl (by decide) rfl (by decide) (by first | exact λ _ _ h=>h | exact z2h rfl | exact z2g rfl rfl | exact z2f rfl rfl rfl) (z2w (by rfl)) rfl (y9d (by first | exact ⟨rfl,.inl rfl,.inl rfl⟩ | exact ⟨rfl,.inl rfl,.inr rfl⟩)) (λ _ _ _ _=>(z1d (i:=0) (show (["place", "step"]:List Str).Nodup by decide +kernel) rfl (Or.inl rfl))) (λ _ _ _ _=>(z0u z0t (pv 1) (pv 0) (λ _ _=>rfl)))) z0c)))),?_⟩
 wp_walk using rRepT,tSeq,tIfS,spargplaces
 refine ⟨xs,ha,_,z0m h0,i,hi,rfl,λ H1 p1 s1 h1=>?_⟩
 refine CompL.mk (xs:=(argsP i).map V.int) (.of h1) (λ j ys σ H'=>H'=H1/\ys=(getAll xs (argsP i)).take j/\∃y0,σ=[y0,some (.ref a)]) ⟨rfl,rfl,_,rfl⟩ (λ j ys σ H' _ h=>by rw [h.1];exact .of h1) (λ j x ys σ H' e h=>?_) (λ ys σ H' h p hp2=>?_)
 ·obtain ⟨rfl,rfl,y0,rfl⟩:=h
  obtain ⟨m,hm,rfl⟩:=x4d e
  obtain ⟨p0,p1⟩:=hp m (List.mem_of_getElem? hm)
  have ge:=y9h i
  have jl:j < (argsP i).length:=(List.getElem?_eq_some_iff.mp hm).1
  refine ⟨by have:=List.length_take_le j (getAll xs (argsP i));exact z1b (by omega),?_⟩
  wp_walk using rRepT,tSeq,tIfS
  obtain ⟨v,hv⟩:∃v,atI xs m=some v:=x2c p0 p1
  refine ⟨_,s1 _ _ ha,_,hv,?_⟩
  refine ⟨?_,_,rfl⟩
  rw [List.take_add_one]
  congr 1
  unfold getAll
  rw [List.getElem?_map,hm]
  show [v]=[(atI xs m).getD .non]
  rw [hv];rfl
 ·obtain ⟨rfl,rfl,y0,rfl⟩:=h
  rw [List.take_of_length_le (by unfold getAll;simp)]
  refine ⟨p,rfl,_,.inl ⟨.of z0f,λ l hl=>q _ _ (s1.trans ((z0b hp2 _).trans (z0b hl _))) z0f⟩⟩
abbrev saskword:Stmt:=top 48
theorem y3j:FnScope ["step"] ["step"] (defScope saskword):=⟨rfl,rfl,rfl,by decide +kernel,rfl,by decide +kernel,by decide +kernel⟩
theorem y4s (F:Fun K "ask_word" "ask_word" saskword f fd) {CNoWord:Addr}(nNoWord:W.nsIn K mainGlobals "NoWord" = some (some (.ref CNoWord))) (conce:Callee P w K mg base (CX1 P w) (3) "once" ["word", "x"] (sponceX CNoWord)) (ctwice:Callee P w K mg base (CX1 P w) (3) "twice" ["word", "x", "y"] (sptwiceX CNoWord)) (cneutral:Callee P w K mg base (CX1 P w) (3) "neutral" ["word"] (spneutral CNoWord)):FnOk P w K mg base (CX1 P w) (4) f fd ["step"] ((spaskwX CNoWord)):=by
 have sc:=y3j
 refine F.okX sc (λ vs H Q E h=>?_) (λ cdv A outer s H vs Q E hr h=>?_)
 ·obtain ⟨p,d,rfl,_⟩:=h;rfl
 obtain ⟨p,d,rfl,hst,hh⟩:=h
 refine ⟨_,(z0d (z0z (z0i z1f (z0u z0t (pv 0) z0e (λ _ _=>rfl)) z0p (z0n _)) (z0g (z1r (z0r conce hr (by rfl) z1e (z0a (z0u z0t (pv 0) z0e (λ _ _=>rfl)) (z0a z0e z0c))))) z0k) (z0d (z0z (z0i z1f (z0u z0t (pv 0) z0e (λ _ _=>rfl)) z0p (z0n _)) (z0g (z1r (z0r ctwice hr (by rfl) z1e (z0a (z0u z0t (pv 0) z0e (λ _ _=>rfl)) (z0a z0e (z0a z0e z0c)))))) z0k) (z0g (z0z (z0i y1a (z0u z0t (pv 0) z0e (λ _ _=>rfl)) (z0w (z0a z0p (z0a z0p z0c))) rfl) (z0g (z1r (z0r cneutral hr (by rfl) z1e (z0a (z0u z0t (pv 0) z0e (λ _ _=>rfl)) z0c)))) z0k)))),?_⟩
 simp only [L2.start,List.length_cons,List.length_nil,List.replicate,List.cons_append,List.nil_append,Nat.reduceSub,Nat.reduceAdd,List.map_cons,List.map_nil]
 rcases hh with ⟨ok,q⟩ | ⟨⟨a0,rfl⟩,qE⟩
 rotate_left
 ·refine z0h (λ σ G=>False) (λ σ G h=>h.elim) (λ R hR=>?_)
  wp_walk using rRepT,tSeq,tIfS,sponceX
  refine ⟨_,hst,_,z0m (j:=0) rfl,rfl,?_⟩
  rw [if_pos rfl]
  exact ⟨_,hst,_,z0m (j:=1) rfl,_,rfl,⟨by decide +kernel,by decide +kernel⟩,(λ z=>absurd z (by decide +kernel)),λ _=>qE⟩
 obtain ⟨xs,hp,h0,_,_⟩:=z2u hst
 refine z0h (λ σ G=>G=H/\σ=[some (.ref p)]) ?_ (λ R hR=>?_)
 rotate_left
 ·wp_walk using rRepT,tSeq,tIfS,sponceX
  by_cases c:kdN d=3
  ·obtain ⟨w,a,rfl⟩:=inv_at.2.2.1 c
   refine ⟨_,hst,_,z0m (j:=0) rfl,rfl,?_⟩
   rw [if_pos rfl]
   exact ⟨_,hst,_,z0m (j:=1) rfl,w,rfl,ok4 ok,λ _=>hR _ _ ⟨rfl,rfl⟩,λ z=>absurd ok z⟩
  ·refine ⟨_,hp,_,z0m (j:=0) h0,rfl,?_⟩
   rw [if_neg (show ¬V.str (kindS (kdN d))=V.str (Str.ofString "each") from y2m 3 (z2n d) (by decide) c)]
   exact hR _ _ ⟨rfl,rfl⟩
 rintro σ1 G1 ⟨rfl,rfl⟩
 refine z0h (λ σ G=>G=G1/\σ=[some (.ref p)]) ?_ (λ R hR=>?_)
 rotate_left
 ·wp_walk using rRepT,tSeq,tIfS,sptwiceX
  by_cases c:kdN d=4
  ·obtain ⟨w,a,b,rfl⟩:=inv_at.2.2.2.1 c
   refine ⟨_,hst,_,z0m (j:=0) rfl,rfl,?_⟩
   rw [if_pos rfl]
   exact ⟨_,hst,_,z0m (j:=1) rfl,w,rfl,x5s ok,⟨by decide,by decide⟩,⟨by decide,by decide⟩,λ _=>hR _ _ ⟨rfl,rfl⟩,λ z=>absurd ok z⟩
  ·refine ⟨_,hp,_,z0m (j:=0) h0,rfl,?_⟩
   rw [if_neg (show ¬V.str (kindS (kdN d))=V.str (Str.ofString "pair") from y2m 4 (z2n d) (by decide) c)]
   exact hR _ _ ⟨rfl,rfl⟩
 rintro σ2 G2 ⟨rfl,rfl⟩
 wp_walk using rRepT,tSeq,tIfS,spneutral
 refine ⟨_,hp,_,z0m (j:=0) h0,small (by decide),λ t ht=>⟨rfl,?_⟩⟩
 by_cases c13:kdN d=13
 ·rw [if_pos (.inl (show (Str.ofString "fold" == kindS (kdN d))=true by rw [c13];decide +kernel))]
  obtain ⟨w,a,sd,rfl⟩:=inv_at.2.2.2.2.2.2.2.2.2.2.2.1 c13
  exact ⟨_,z0b ht _ _ _ hst,_,z0m (j:=1) rfl,w,rfl,ok7 ok,λ _ G u=>q _ ((z0b ht _).trans u),λ z=>absurd ok z⟩
 by_cases c14:kdN d=14
 ·rw [if_pos (.inr (show (Str.ofString "run" == kindS (kdN d))=true by rw [c14];decide +kernel))]
  obtain ⟨w,a,sd,rfl⟩:=inv_at.2.2.2.2.2.2.2.2.2.2.2.2 c14
  exact ⟨_,z0b ht _ _ _ hst,_,z0m (j:=1) rfl,w,rfl,ok7 ok,λ _ G u=>q _ ((z0b ht _).trans u),λ z=>absurd ok z⟩
 rw [if_neg (λ z=>z.elim (λ z=>z3f 13 (z2n d) (by decide) c13 (eq_of_beq (show (Str.ofString "fold" == kindS (kdN d))=true from z)).symm) (λ z=>z3f 14 (z2n d) (by decide) c14 (eq_of_beq (show (Str.ofString "run" == kindS (kdN d))=true from z)).symm))]
 exact q _ (z0b ht _)
abbrev sfirstsides:Stmt:=top 49
theorem z8a:FnScope ["step"] ["step"] (defScope sfirstsides):=⟨rfl,rfl,rfl,by decide +kernel,rfl,by decide +kernel,by decide +kernel⟩
theorem z8l (F:Fun K "first_sides" "first_sides" sfirstsides f fd) {CTooLarge:Addr}(nTooLarge:W.nsIn K mainGlobals "TooLarge" = some (some (.ref CTooLarge))) {CNoSide:Addr}(nNoSide:W.nsIn K mainGlobals "NoSide" = some (some (.ref CNoSide))) (callowed:Callee P w K mg base (CX1 P w) (4) "allowed" ["sides"] (spallowed CTooLarge)) (ccountedsides:Callee P w K mg base (CX1 P w) (4) "counted_sides" ["sides", "side"] (spcnt CTooLarge CNoSide)):FnOk P w K mg base (CX1 P w) (5) f fd ["step"] (spfirst):=by
 have sc:=z8a
 refine F.okX sc (λ vs H Q E h=>?_) (λ cdv A outer s H vs Q E hr h=>?_)
 ·obtain ⟨p,d,S,Ss,rfl,_⟩:=h;rfl
 obtain ⟨p,d,S,Ss,rfl,hst,k3,ok,fs,q⟩:=h
 refine ⟨_,(z0d (z0z (z0i z1f (z0u z0t (pv 0) z0e (λ _ _=>rfl)) z0p (z0n _)) (z0g (z0l (z0r callowed hr (by rfl) z1e (z0a (z0u z0t (pv 0) z0e (λ _ _=>rfl)) z0c)))) z0k) (z0d (z0z (z0i z1f (z0u z0t (pv 0) z0e (λ _ _=>rfl)) z0p (z0n _)) (z0g (z0l (z0r ccountedsides hr (by rfl) z1e (z0a (z0u z0t (pv 0) z0e (λ _ _=>rfl)) (z0a (z0u z0t (pv 0) z0e (λ _ _=>rfl)) z0c))))) z0k) (z0g (z0l (z0w z0c))))),?_⟩
 simp only [L2.start,List.length_cons,List.length_nil,List.replicate,List.cons_append,List.nil_append,Nat.reduceSub,Nat.reduceAdd,List.map_cons,List.map_nil]
 obtain ⟨xs,hp,h0,_,_⟩:=z2u hst
 have sd:=z2z fs
 have s6:=fs.2.1
 refine z0h (λ σ G=>G=H/\¬kdN d=0/\σ=[some (.ref p)]) ?_ (λ R hR=>?_)
 rotate_left
 ·wp_walk using rRepT,tSeq,tIfS,spallowed
  by_cases c:kdN d=0
  ·obtain ⟨ms,rfl⟩:=inv_at.1 c
   obtain ⟨b,hp,hb⟩:=hst
   obtain ⟨rfl,nb⟩:=ok
   refine ⟨_,hp,_,z0m (j:=0) rfl,rfl,?_⟩
   rw [if_pos rfl]
   exact ⟨_,hp,_,z0m (j:=1) rfl,b,rfl,S,hb,sd,by omega,λ z=>absurd z nb,λ _ G u=>q _ b u (u _ _ hb)⟩
  ·refine ⟨_,hp,_,z0m (j:=0) h0,rfl,?_⟩
   rw [if_neg (show ¬V.str (kindS (kdN d))=V.str (Str.ofString "in") from y2m 0 (z2n d) (by decide) c)]
   exact hR _ _ ⟨rfl,c,rfl⟩
 rintro σ1 G1 ⟨rfl,c0,rfl⟩
 refine z0h (λ σ G=>G=G1/\¬kdN d=2/\σ=[some (.ref p)]) ?_ (λ R hR=>?_)
 rotate_left
 ·wp_walk using rRepT,tSeq,tIfS,spcnt
  by_cases c:kdN d=2
  ·obtain ⟨ms,k,rfl⟩:=inv_at.2.1 c
   obtain ⟨b,hp,hb⟩:=hst
   obtain ⟨rfl,nb,no⟩:=ok
   refine ⟨_,hp,_,z0m (j:=0) rfl,rfl,?_⟩
   rw [if_pos rfl]
   exact ⟨_,hp,_,z0m (j:=1) rfl,_,hp,_,z0m (j:=2) rfl,b,rfl,S,k,rfl,hb,sd,by omega,λ z=>absurd z nb,λ _ z=>absurd z no,λ _ _ G u=>q _ b u (u _ _ hb)⟩
  ·refine ⟨_,hp,_,z0m (j:=0) h0,rfl,?_⟩
   rw [if_neg (show ¬V.str (kindS (kdN d))=V.str (Str.ofString "count") from y2m 2 (z2n d) (by decide) c)]
   exact hR _ _ ⟨rfl,c,rfl⟩
 rintro σ2 G2 ⟨rfl,c2,rfl⟩
 have e:S=[]:=by
  cases d with
  | num n=>exact ok
  | inp ms=>exact absurd rfl c0
  | count ms k=>exact absurd rfl c2
  | _=>exact absurd k3 (of_decide_eq_false rfl)
 wp_walk using rRepT,tSeq,tIfS
 exact ⟨Nat.zero_le _,λ p0 hp0=>q _ p0 (z0b hp0 _) (by rw [e];exact z0f)⟩
abbrev smovedsides:Stmt:=top 50
theorem z7x:FnScope ["step", "sides", "form"] ["step", "sides"] (defScope smovedsides):=⟨rfl,rfl,rfl,by decide +kernel,rfl,by decide +kernel,by decide +kernel⟩
theorem z8i (F:Fun K "moved_sides" "moved_sides" smovedsides f fd) {CNoSide:Addr}(nNoSide:W.nsIn K mainGlobals "NoSide" = some (some (.ref CNoSide))) {CBeyond:Addr}(nBeyond:W.nsIn K mainGlobals "Beyond" = some (some (.ref CBeyond))) {CTooLarge:Addr}(nTooLarge:W.nsIn K mainGlobals "TooLarge" = some (some (.ref CTooLarge))) {CUnlike:Addr}(nUnlike:W.nsIn K mainGlobals "Unlike" = some (some (.ref CUnlike))) (cturnedsides:Callee P w K mg base (CX1 P w) (4) "turned_sides" ["sides", "order"] (spturnP CNoSide)) (cflippedsides:Callee P w K mg base (CX1 P w) (4) "flipped_sides" ["sides", "side"] (spflip CNoSide)) (ccutsides:Callee P w K mg base (CX1 P w) (4) "cut_sides" ["sides", "side", "first", "many", "step"] (spcut CNoSide CBeyond)) (cspreadsides:Callee P w K mg base (CX1 P w) (4) "spread_sides" ["sides", "side", "many"] (spspr CNoSide CBeyond CTooLarge)) (claidsides:Callee P w K mg base (CX1 P w) (4) "laid_sides" ["sides", "others"] (splaid CTooLarge CUnlike)) (cfoldedsides:Callee P w K mg base (CX1 P w) (4) "folded_sides" ["sides", "side"] (spfolded CNoSide)):FnOk P w K mg base (CX1 P w) (5) f fd ["step", "sides"] (spmv):=by
 have sc:=z7x
 refine F.okX sc (λ vs H Q E h=>?_) (λ cdv A outer s H vs Q E hr h=>?_)
 ·obtain ⟨p,o,d,S,A,Ss,a,rfl,_⟩:=h;rfl
 obtain ⟨p,o,d,S,A,Ss,a,rfl,hst,ha,ea,ho,fA,ok,fs,q⟩:=h
 refine ⟨_,(z0d (z0x (i:=2) sc.nd rfl (by first | exact Or.inl rfl | exact Or.inr rfl) (z0u z0t (pv 0) z0e (λ _ _=>rfl))) (z0d (z0z (z0i z1f (pv 2) z0p (z0n _)) (z0g (z0l (z0r cturnedsides hr (by rfl) z1e (z0a (pv 1) (z0a (z0u z0t (pv 0) z0e (λ _ _=>rfl)) z0c))))) z0k) (z0d (z0z (z0i z1f (pv 2) z0p (z0n _)) (z0g (z0l (z0r cflippedsides hr (by rfl) z1e (z0a (pv 1) (z0a (z0u z0t (pv 0) z0e (λ _ _=>rfl)) z0c))))) z0k) (z0d (z0z (z0i z1f (pv 2) z0p (z0n _)) (z0g (z0l (z0r ccutsides hr (by rfl) z1e (z0a (pv 1) (z0a (z0u z0t (pv 0) z0e (λ _ _=>rfl)) (z0a (z0u z0t (pv 0) z0e (λ _ _=>rfl)) (z0a (z0u z0t (pv 0) z0e (λ _ _=>rfl)) (z0a (z0u z0t (pv 0) z0e (λ _ _=>rfl)) z0c)))))))) z0k) (z0d (z0z (z0i z1f (pv 2) z0p (z0n _)) (z0g (z0l (z0r cspreadsides hr (by rfl) z1e (z0a (pv 1) (z0a (z0u z0t (pv 0) z0e (λ _ _=>rfl)) (z0a (z0u z0t (pv 0) z0e (λ _ _=>rfl)) z0c)))))) z0k) (z0d (z0z (z0i z1f (pv 2) z0p (z0n _)) (z0g (z0l (z0r claidsides hr (by rfl) z1e (z0a (pv 1) (z0a (z0u z0t (pv 0) z0e (λ _ _=>rfl)) z0c))))) z0k) (z0d (z0z (z0i z1f (pv 2) z0p (z0n _)) (z0g (z0l (z0r cfoldedsides hr (by rfl) z1e (z0a (pv 1) (z0a (z0u z0t (pv 0) z0e (λ _ _=>rfl)) z0c))))) z0k) (z0d (z0z (z0i z1f (pv 2) z0p (z0n _)) (z0g (z0l (z0r cflippedsides hr (by rfl) z1e (z0a (pv 1) (z0a (z0u z0t (pv 0) z0e (λ _ _=>rfl)) z0c))))) z0k) (z0g (z0l (pv 1))))))))))),?_⟩
 simp only [L2.start,List.length_cons,List.length_nil,List.replicate,List.cons_append,List.nil_append,Nat.reduceSub,Nat.reduceAdd,List.map_cons,List.map_nil]
 obtain ⟨xs,hp,h0,_,_⟩:=z2u hst
 have sd:=z2z fs
 have sdA:=z2z fA
 have s6:=fs.2.1
 have a6:=fA.2.1
 refine z0h (λ σ G=>G=H/\σ=[some (.ref p),some (.ref o),some (.str (kindS (kdN d)))]) ?_ (λ R hR=>?_)
 rotate_left
 ·wp_walk using rRepT,tSeq,tIfS
  exact ⟨_,hp,_,z0m (j:=0) h0,hR _ _ ⟨rfl,rfl⟩⟩
 rintro σ0 G0 ⟨rfl,rfl⟩
 refine z0h (λ σ G=>G=G0/\¬kdN d=6/\σ=[some (.ref p),some (.ref o),some (.str (kindS (kdN d)))]) ?_ (λ R hR=>?_)
 rotate_left
 ·wp_walk using rRepT,tSeq,tIfS,spturnP
  by_cases c:kdN d=6
  rotate_left
  ·rw [if_neg (show ¬kindS (kdN d)=Str.ofString "turn" from z3f 6 (z2n d) (by decide) c)]
   exact hR _ _ ⟨rfl,c,rfl⟩
  rw [if_pos (show kindS (kdN d)=Str.ofString "turn" by rw [c];rfl)]
  obtain ⟨a',os,rfl⟩:=inv_at.2.2.2.2.1 c
  cases ha
  obtain ⟨A',ea',tk,rfl⟩:=ok
  cases ea'.symm.trans ea
  obtain ⟨b,hp,hb⟩:=hst
  exact ⟨_,hp,_,z0m (j:=2) rfl,b,rfl,A,ho,os,hb,by omega,by rw [tk.length_eq,z4w];omega,λ z=>absurd tk z,λ _ G r u h=>q _ r u h⟩
 rintro σ6 G6 ⟨rfl,c6,rfl⟩
 refine z0h (λ σ G=>G=G6/\¬kdN d=7/\σ=[some (.ref p),some (.ref o),some (.str (kindS (kdN d)))]) ?_ (λ R hR=>?_)
 rotate_left
 ·wp_walk using rRepT,tSeq,tIfS,spflip
  by_cases c:kdN d=7
  rotate_left
  ·rw [if_neg (show ¬kindS (kdN d)=Str.ofString "flip" from z3f 7 (z2n d) (by decide) c)]
   exact hR _ _ ⟨rfl,c,rfl⟩
  rw [if_pos (show kindS (kdN d)=Str.ofString "flip" by rw [c];rfl)]
  obtain ⟨a',s,rfl⟩:=inv_at.2.2.2.2.2.1 c
  cases ha
  obtain ⟨ea',no⟩:=ok
  cases ea'.symm.trans ea
  exact ⟨_,hst,_,z0m (j:=2) rfl,S,s,rfl,ho,λ z=>absurd z no,λ _=>q _ o (Same.refl _) ho⟩
 rintro σ7 G7 ⟨rfl,c7,rfl⟩
 refine z0h (λ σ G=>G=G7/\¬kdN d=8/\σ=[some (.ref p),some (.ref o),some (.str (kindS (kdN d)))]) ?_ (λ R hR=>?_)
 rotate_left
 ·wp_walk using rRepT,tSeq,tIfS,spcut
  by_cases c:kdN d=8
  rotate_left
  ·rw [if_neg (show ¬kindS (kdN d)=Str.ofString "cut" from z3f 8 (z2n d) (by decide) c)]
   exact hR _ _ ⟨rfl,c,rfl⟩
  rw [if_pos (show kindS (kdN d)=Str.ofString "cut" by rw [c];rfl)]
  obtain ⟨a',s,f,m,g,rfl⟩:=inv_at.2.2.2.2.2.2.1 c
  cases ha
  obtain ⟨A',ea',no,nb,m5,rfl⟩:=ok
  cases ea'.symm.trans ea
  exact ⟨_,hst,_,z0m (j:=2) rfl,_,hst,_,z0m (j:=3) rfl,_,hst,_,z0m (j:=4) rfl,_,hst,_,z0m (j:=5) rfl,A,s,rfl,f,rfl,m,rfl,g,rfl,ho,by omega,by unfold bad at nb;omega,by omega,λ z=>absurd z no,λ _ z=>absurd z nb,λ _ _ G r u h=>q _ r u h⟩
 rintro σ8 G8 ⟨rfl,c8,rfl⟩
 refine z0h (λ σ G=>G=G8/\¬kdN d=9/\σ=[some (.ref p),some (.ref o),some (.str (kindS (kdN d)))]) ?_ (λ R hR=>?_)
 rotate_left
 ·wp_walk using rRepT,tSeq,tIfS,spspr
  by_cases c:kdN d=9
  rotate_left
  ·rw [if_neg (show ¬kindS (kdN d)=Str.ofString "spread" from z3f 9 (z2n d) (by decide) c)]
   exact hR _ _ ⟨rfl,c,rfl⟩
  rw [if_pos (show kindS (kdN d)=Str.ofString "spread" by rw [c];rfl)]
  obtain ⟨a',s,m,rfl⟩:=inv_at.2.2.2.2.2.2.2.1 c
  cases ha
  obtain ⟨A',ea',no,nm,m5,nb,rfl⟩:=ok
  cases ea'.symm.trans ea
  exact ⟨_,hst,_,z0m (j:=2) rfl,_,hst,_,z0m (j:=3) rfl,A,s,rfl,m,rfl,ho,sdA,by omega,by omega,λ z=>absurd z no,λ _ z=>absurd z nm,λ _ _ z=>absurd z nb,λ _ _ _ G r u h=>q _ r u h⟩
 rintro σ9 G9 ⟨rfl,c9,rfl⟩
 refine z0h (λ σ G=>G=G9/\¬kdN d=10/\σ=[some (.ref p),some (.ref o),some (.str (kindS (kdN d)))]) ?_ (λ R hR=>?_)
 rotate_left
 ·wp_walk using rRepT,tSeq,tIfS,splaid
  by_cases c:kdN d=10
  rotate_left
  ·rw [if_neg (show ¬kindS (kdN d)=Str.ofString "lay" from z3f 10 (z2n d) (by decide) c)]
   exact hR _ _ ⟨rfl,c,rfl⟩
  rw [if_pos (show kindS (kdN d)=Str.ofString "lay" by rw [c];rfl)]
  obtain ⟨a',ms,rfl⟩:=inv_at.2.2.2.2.2.2.2.2.1 c
  cases ha
  obtain ⟨A',ea',nb,pe,rfl⟩:=ok
  cases ea'.symm.trans ea
  obtain ⟨b,hp,hb⟩:=hst
  exact ⟨_,hp,_,z0m (j:=2) rfl,b,rfl,A,ho,S,hb,sdA,sd,by omega,λ z=>absurd z nb,λ _ z=>absurd pe z,λ _ _ G u=>q _ b u (u _ _ hb)⟩
 rintro σ10 G10 ⟨rfl,c10,rfl⟩
 refine z0h (λ σ G=>G=G10/\¬kdN d=13/\σ=[some (.ref p),some (.ref o),some (.str (kindS (kdN d)))]) ?_ (λ R hR=>?_)
 rotate_left
 ·wp_walk using rRepT,tSeq,tIfS,spfolded
  by_cases c:kdN d=13
  rotate_left
  ·rw [if_neg (show ¬kindS (kdN d)=Str.ofString "fold" from z3f 13 (z2n d) (by decide) c)]
   exact hR _ _ ⟨rfl,c,rfl⟩
  rw [if_pos (show kindS (kdN d)=Str.ofString "fold" by rw [c];rfl)]
  obtain ⟨w,a',s,rfl⟩:=inv_at.2.2.2.2.2.2.2.2.2.2.2.1 c
  cases ha
  obtain ⟨A',ea',_,no,rfl⟩:=ok
  cases ea'.symm.trans ea
  exact ⟨_,hst,_,z0m (j:=3) rfl,A,s,rfl,ho,by omega,λ z=>absurd z no,λ _ G r u h=>q _ r u h⟩
 rintro σ13 G13 ⟨rfl,c13,rfl⟩
 refine z0h (λ σ G=>G=G13/\¬kdN d=14/\σ=[some (.ref p),some (.ref o),some (.str (kindS (kdN d)))]) ?_ (λ R hR=>?_)
 rotate_left
 ·wp_walk using rRepT,tSeq,tIfS,spflip
  by_cases c:kdN d=14
  rotate_left
  ·rw [if_neg (show ¬kindS (kdN d)=Str.ofString "run" from z3f 14 (z2n d) (by decide) c)]
   exact hR _ _ ⟨rfl,c,rfl⟩
  rw [if_pos (show kindS (kdN d)=Str.ofString "run" by rw [c];rfl)]
  obtain ⟨w,a',s,rfl⟩:=inv_at.2.2.2.2.2.2.2.2.2.2.2.2 c
  cases ha
  obtain ⟨ea',_,no⟩:=ok
  cases ea'.symm.trans ea
  exact ⟨_,hst,_,z0m (j:=3) rfl,S,s,rfl,ho,λ z=>absurd z no,λ _=>q _ o (Same.refl _) ho⟩
 rintro σ14 G14 ⟨rfl,c14,rfl⟩
 have e:S=A:=by
  cases d with
  | each w a'=>cases ha;obtain ⟨ea',_⟩:=ok;cases ea'.symm.trans ea;rfl
  | turn=>exact absurd rfl c6
  | flip=>exact absurd rfl c7
  | cut=>exact absurd rfl c8
  | spread=>exact absurd rfl c9
  | lay=>exact absurd rfl c10
  | fold=>exact absurd rfl c13
  | run=>exact absurd rfl c14
  | _=>cases ha
 wp_walk using rRepT,tSeq,tIfS
 exact q _ o (Same.refl _) (by rw [e];exact ho)
abbrev sstepsides:Stmt:=top 51
theorem z9k:FnScope ["step", "sides", "used", "form"] ["step", "sides"] (defScope sstepsides):=⟨rfl,rfl,rfl,by decide +kernel,rfl,by decide +kernel,by decide +kernel⟩
theorem y0c (F:Fun K "step_sides" "step_sides" sstepsides f fd) {CNoWord:Addr}(nNoWord:W.nsIn K mainGlobals "NoWord" = some (some (.ref CNoWord))) {CNoSide:Addr}(nNoSide:W.nsIn K mainGlobals "NoSide" = some (some (.ref CNoSide))) {CBeyond:Addr}(nBeyond:W.nsIn K mainGlobals "Beyond" = some (some (.ref CBeyond))) {CTooLarge:Addr}(nTooLarge:W.nsIn K mainGlobals "TooLarge" = some (some (.ref CTooLarge))) {CUnlike:Addr}(nUnlike:W.nsIn K mainGlobals "Unlike" = some (some (.ref CUnlike))) (caskword:Callee P w K mg base (CX1 P w) (5) "ask_word" ["step"] (spaskwX CNoWord)) (cargsof:Callee P w K mg base CX0 (5) "args_of" ["step"] spargsof) (cfirstsides:Callee P w K mg base (CX1 P w) (5) "first_sides" ["step"] spfirst) (cmovedsides:Callee P w K mg base (CX1 P w) (5) "moved_sides" ["step", "sides"] spmv) (cpairedsides:Callee P w K mg base (CX1 P w) (5) "paired_sides" ["sides", "others"] (sppaired CUnlike)) (cjoinedsides:Callee P w K mg base (CX1 P w) (5) "joined_sides" ["sides", "others", "side"] (spjoin CUnlike CNoSide CTooLarge)) (cfetchedsides:Callee P w K mg base (CX1 P w) (5) "fetched_sides" ["sides", "others"] (spfetched CNoSide CBeyond CTooLarge)) (cpickedsides:Callee P w K mg base (CX1 P w) (5) "picked_sides" ["marks", "sides", "others"] (sppicked CUnlike)) (zlen:mg "len" = none):FnOk P w K mg base (CX1 P w) (6) f fd ["step", "sides"] ((spsidesX CNoWord)):=by
 have sc:=z9k
 refine F.okX sc (λ vs H Q E h=>?_) (λ cdv A outer s H vs Q E hr h=>?_)
 ·obtain ⟨p,s,d,Ss,ps,rfl,_⟩:=h;rfl
 obtain ⟨p,s,d,Ss,ps,rfl,hst,hs,ht,fS,hh⟩:=h
 refine ⟨_,(z0d (z1r (z0r caskword hr (by rfl) z1e (z0a (pv 0) z0c))) (z0d (x0p (own:=["number"]) (fv:=["sides"]) (js:=[1]) sc.nd (i:=2) rfl (by first | exact Or.inl rfl | exact Or.inr rfl) (by first | exact Or.inl rfl | exact Or.inr rfl) rfl (z3y (z0r cargsof hr (by rfl) z1h (z0a (pv 0) z0c))) rfl (by decide) rfl (by decide) (by first | exact λ _ _ h=>h | exact z2h rfl | exact z2g rfl rfl | exact z2f rfl rfl rfl) (z2w (by rfl)) rfl (y9d (by first | exact ⟨rfl,.inl rfl,.inl rfl⟩ | exact ⟨rfl,.inl rfl,.inr rfl⟩)) (λ _ _ _ _=>(z1d (i:=0) (show (["number", "sides"]:List Str).Nodup by decide +kernel) rfl (Or.inl rfl))) (λ _ _ _ _=>(z0u x1j (pv 1) (pv 0) (λ _ _=>rfl)))) (z0d (z0x (i:=3) sc.nd rfl (by first | exact Or.inl rfl | exact Or.inr rfl) (z0u z0t (pv 0) z0e (λ _ _=>rfl))) (z0d (z0z (z0i z1f (z0o z0j (by rfl) zlen PySem.boot_len (z0a (pv 2) z0c)) z0e (z0n _)) (z0g (z0l (z0r cfirstsides hr (by rfl) z1e (z0a (pv 0) z0c)))) z0k) (z0d (z0z (z0i z1f (z0o z0j (by rfl) zlen PySem.boot_len (z0a (pv 2) z0c)) z0e (z0n _)) (z0g (z0l (z0r cmovedsides hr (by rfl) z1e (z0a (pv 0) (z0a (z0u z0q (pv 2) z0e (λ _ _=>rfl)) z0c))))) z0k) (z0d (z0z (z0i z1f (pv 3) z0p (z0n _)) (z0g (z0l (z0r cpairedsides hr (by rfl) z1e (z0a (z0u z0q (pv 2) z0e (λ _ _=>rfl)) (z0a (z0u z0q (pv 2) z0e (λ _ _=>rfl)) z0c))))) z0k) (z0d (z0z (z0i z1f (pv 3) z0p (z0n _)) (z0g (z0l (z0r cjoinedsides hr (by rfl) z1e (z0a (z0u z0q (pv 2) z0e (λ _ _=>rfl)) (z0a (z0u z0q (pv 2) z0e (λ _ _=>rfl)) (z0a (z0u z0t (pv 0) z0e (λ _ _=>rfl)) z0c)))))) z0k) (z0d (z0z (z0i z1f (pv 3) z0p (z0n _)) (z0g (z0l (z0r cfetchedsides hr (by rfl) z1e (z0a (z0u z0q (pv 2) z0e (λ _ _=>rfl)) (z0a (z0u z0q (pv 2) z0e (λ _ _=>rfl)) z0c))))) z0k) (z0g (z0l (z0r cpickedsides hr (by rfl) z1e (z0a (z0u z0q (pv 2) z0e (λ _ _=>rfl)) (z0a (z0u z0q (pv 2) z0e (λ _ _=>rfl)) (z0a (z0u z0q (pv 2) z0e (λ _ _=>rfl)) z0c)))))))))))))),?_⟩
 simp only [L2.start,List.length_cons,List.length_nil,List.replicate,List.cons_append,List.nil_append,Nat.reduceSub,Nat.reduceAdd,List.map_cons,List.map_nil]
 obtain ⟨xs,hp,h0,hq,hg⟩:=z2u hst
 rcases hh with ⟨S,ok,fs,q⟩ | ⟨no,qE⟩
 rotate_left
 ·refine z0h (λ σ G=>False) (λ σ G h=>h.elim) (λ R hR=>?_)
  wp_walk using rRepT,tSeq,tIfS,spaskwX
  exact ⟨d,hst,.inr ⟨no,qE⟩⟩
 have al:=y0m ok
 refine z0h (λ σ G=>Same H G/\σ=[some (.ref p),some (.ref s),none,none]) ?_ (λ R hR=>?_)
 rotate_left
 ·wp_walk using rRepT,tSeq,tIfS,spaskwX
  exact ⟨d,hst,.inl ⟨x1d ok,λ G u=>hR _ _ ⟨u,rfl⟩⟩⟩
 rintro σ1 G1 ⟨s1,rfl⟩
 refine z0h (λ σ G=>Same G1 G/\∃ul us,G ul=some (.lst (us.map V.ref))/\UsAt G us (argsN d) Ss/\σ=[some (.ref p),some (.ref s),some (.ref ul),none]) ?_ (λ R hR=>?_)
 rotate_left
 ·wp_walk using rRepT,tSeq,tIfS,spargsof
  refine ⟨p,kdN d,z2n d,rfl,xs,s1 _ _ hp,h0,hq,λ G2 t u2 h2=>?_⟩
  rw [hg] at h2
  have hs2:G2 s=some (.lst (ps.map V.ref))\/G2 s=some (.tup (ps.map V.ref)):=hs.imp (λ z=>(s1.trans u2) _ _ z) (λ z=>(s1.trans u2) _ _ z)
  have ht2:=ht.same (s1.trans u2)
  refine CompT.mk (xs:=nmV (argsN d)) (.of h2) (λ i ys σ G=>G=G2/\∃us:List Addr,ys=us.map V.ref/\i≤(argsN d).length/\UsAt G us ((argsN d).take i) Ss/\∃y,σ=[y,some (.ref s)]) ⟨rfl,[],rfl,Nat.zero_le _,⟨rfl,λ i a e=>nomatch e⟩,_,rfl⟩ (λ i ys σ G _ h=>by rw [h.1];exact .of h2) (λ i x ys σ G e h=>?_) (λ ys σ G h p1 hp1=>?_)
  ·obtain ⟨rfl,us,rfl,hi,hu,y,rfl⟩:=h
   obtain ⟨a,rfl,ea⟩:=y7v e
   have il:=(List.getElem?_eq_some_iff.mp ea).1
   have a3:=z7n d
   obtain ⟨pk,A,ek,eA,hA⟩:=z2r ht2 (al a (List.mem_of_getElem? ea))
   refine ⟨by rw [List.length_map,hu.1,List.length_take];exact z1b (by omega),?_⟩
   have us2:=x0b hu eA hA
   rw [show (argsN d).take i++[a]=(argsN d).take (i+1) by rw [List.take_add_one,ea];rfl] at us2
   wp_walk using rRepT,tSeq,tIfS
   exact ⟨_,hs2,_,ek,us++[pk],by rw [List.map_append];rfl,il,us2,_,rfl⟩
  ·obtain ⟨rfl,us,rfl,hi,hu,y,rfl⟩:=h
   rw [y4x,List.take_length] at hu
   exact hR _ _ ⟨u2.trans (z0b hp1 _),p1,us,z0f,hu.same (z0b hp1 _),rfl⟩
 rintro σ2 G2 ⟨s2,ul,us,hul,hu,rfl⟩
 have t2:=s1.trans s2
 have hst2:=hst.same t2
 have hp2:=t2 _ _ hp
 refine z0h (λ σ G=>G=G2/\σ=[some (.ref p),some (.ref s),some (.ref ul),some (.str (kindS (kdN d)))]) ?_ (λ R hR=>?_)
 rotate_left
 ·wp_walk using rRepT,tSeq,tIfS
  exact ⟨_,hp2,_,z0m (j:=0) h0,hR _ _ ⟨rfl,rfl⟩⟩
 rintro σ3 G3 ⟨rfl,rfl⟩
 refine z0h (λ σ G=>G=G3/\¬(argsN d).length=0/\σ=[some (.ref p),some (.ref s),some (.ref ul),some (.str (kindS (kdN d)))]) ?_ (λ R hR=>?_)
 rotate_left
 ·wp_walk using rRepT,tSeq,tIfS,spfirst
  refine ⟨_,.inl (.of hul),?_⟩
  rw [List.length_map,hu.1]
  split
  ·exact ⟨d,hst2,x5o (by omega),S,Ss,ok,fs,λ G r u h=>q _ r (t2.trans u) h⟩
  ·exact hR _ _ ⟨rfl,by omega,rfl⟩
 rintro σ4 G4 ⟨rfl,n0,rfl⟩
 refine z0h (λ σ G=>G=G4/\¬(argsN d).length=1/\σ=[some (.ref p),some (.ref s),some (.ref ul),some (.str (kindS (kdN d)))]) ?_ (λ R hR=>?_)
 rotate_left
 ·wp_walk using rRepT,tSeq,tIfS,spmv
  refine ⟨_,.inl (.of hul),?_⟩
  rw [List.length_map,hu.1]
  split
  ·obtain ⟨a,ea⟩:=x5n (d:=d) (by omega)
   obtain ⟨u0,A,e0,eA,hA⟩:=hu.2 0 a (by rw [ea];rfl)
   obtain ⟨u1,e1,h1⟩:=z5p hu 0 (by rw [ea];rfl) eA
   exact ⟨_,hul,_,e1,u1,rfl,d,hst2,S,A,Ss,a,ea,eA,h1,fS A (List.mem_of_getElem? eA),ok,fs,λ G r u h=>q _ r (t2.trans u) h⟩
  ·exact hR _ _ ⟨rfl,by omega,rfl⟩
 rintro σ5 G5 ⟨rfl,n1,rfl⟩
 refine z0h (λ σ G=>G=G5/\¬kdN d=4/\σ=[some (.ref p),some (.ref s),some (.ref ul),some (.str (kindS (kdN d)))]) ?_ (λ R hR=>?_)
 rotate_left
 ·wp_walk using rRepT,tSeq,tIfS,sppaired
  by_cases c:kdN d=4
  rotate_left
  ·rw [if_neg (show ¬kindS (kdN d)=Str.ofString "pair" from z3f 4 (z2n d) (by decide) c)]
   exact hR _ _ ⟨rfl,c,rfl⟩
  rw [if_pos (show kindS (kdN d)=Str.ofString "pair" by rw [c];rfl)]
  obtain ⟨w,a,b,rfl⟩:=inv_at.2.2.2.1 c
  obtain ⟨A,B,eA,eB,_,pk,rfl⟩:=ok
  obtain ⟨u0,e0,hA⟩:=z5p hu 0 rfl eA
  obtain ⟨u1,e1,hB⟩:=z5p hu 1 rfl eB
  exact ⟨_,hul,_,e0,_,hul,_,e1,u0,rfl,u1,rfl,A,hA,B,hB,λ z=>absurd pk z,λ _ G r u h=>q _ r (t2.trans u) h⟩
 rintro σ6 G6 ⟨rfl,n4,rfl⟩
 refine z0h (λ σ G=>G=G6/\¬kdN d=11/\σ=[some (.ref p),some (.ref s),some (.ref ul),some (.str (kindS (kdN d)))]) ?_ (λ R hR=>?_)
 rotate_left
 ·wp_walk using rRepT,tSeq,tIfS,spjoin
  by_cases c:kdN d=11
  rotate_left
  ·rw [if_neg (show ¬kindS (kdN d)=Str.ofString "join" from z3f 11 (z2n d) (by decide) c)]
   exact hR _ _ ⟨rfl,c,rfl⟩
  rw [if_pos (show kindS (kdN d)=Str.ofString "join" by rw [c];rfl)]
  obtain ⟨a,b,sd,rfl⟩:=inv_at.2.2.2.2.2.2.2.2.2.1 c
  obtain ⟨A,B,eA,eB,j1,j2,j3,j4,rfl⟩:=ok
  obtain ⟨u0,e0,hA⟩:=z5p hu 0 rfl eA
  obtain ⟨u1,e1,hB⟩:=z5p hu 1 rfl eB
  have fA:=fS A (List.mem_of_getElem? eA)
  have fB:=fS B (List.mem_of_getElem? eB)
  exact ⟨_,hul,_,e0,_,hul,_,e1,_,hst2,_,z0m (j:=3) rfl,u0,rfl,u1,rfl,A,B,sd,rfl,hA,hB,y9r fA,y9r fB,by have:=fA.2.1;omega,λ z=>absurd j1 z,λ _ z=>absurd z j2,λ _ _ z=>absurd j3 z,λ _ _ _ z=>absurd z j4,λ _ _ _ _ G r u h=>q _ r (t2.trans u) h⟩
 rintro σ7 G7 ⟨rfl,n11,rfl⟩
 refine z0h (λ σ G=>G=G7/\¬kdN d=12/\σ=[some (.ref p),some (.ref s),some (.ref ul),some (.str (kindS (kdN d)))]) ?_ (λ R hR=>?_)
 rotate_left
 ·wp_walk using rRepT,tSeq,tIfS,spfetched
  by_cases c:kdN d=12
  rotate_left
  ·rw [if_neg (show ¬kindS (kdN d)=Str.ofString "fetch" from z3f 12 (z2n d) (by decide) c)]
   exact hR _ _ ⟨rfl,c,rfl⟩
  rw [if_pos (show kindS (kdN d)=Str.ofString "fetch" by rw [c];rfl)]
  obtain ⟨a,b,rfl⟩:=inv_at.2.2.2.2.2.2.2.2.2.2.1 c
  obtain ⟨n,r,B,eA,nz,eB,nb,rfl⟩:=ok
  obtain ⟨u0,e0,hA⟩:=z5p hu 0 rfl eA
  obtain ⟨u1,e1,hB⟩:=z5p hu 1 rfl eB
  have fA:=fS _ (List.mem_of_getElem? eA)
  have fB:=fS B (List.mem_of_getElem? eB)
  exact ⟨_,hul,_,e0,_,hul,_,e1,u0,rfl,u1,rfl,n::r,hA,B,hB,z2z fA,z2z fB,by have:=fA.2.1;omega,by have:=fB.2.1;omega,(λ z=>by cases z),(λ r' z=>by cases z;exact absurd rfl nz),(λ n' r' z _ y=>by cases z;exact absurd y nb),(λ n' r' z _ _ G x u h=>by cases z;exact q _ x (t2.trans u) h)⟩
 rintro σ8 G8 ⟨rfl,n12,rfl⟩
 obtain ⟨a,b,c,rfl⟩:∃a b c,d=.pick a b c:=by
  cases d with
  | pick a b c=>exact ⟨a,b,c,rfl⟩
  | pair=>exact absurd rfl n4
  | join=>exact absurd rfl n11
  | fetch=>exact absurd rfl n12
  | inp=>exact absurd rfl n0
  | num=>exact absurd rfl n0
  | count=>exact absurd rfl n0
  | _=>exact absurd rfl n1
 obtain ⟨A,B,C,eA,eB,eC,p1,p2,rfl⟩:=ok
 obtain ⟨u0,e0,hA⟩:=z5p hu 0 rfl eA
 obtain ⟨u1,e1,hB⟩:=z5p hu 1 rfl eB
 obtain ⟨u2,e2,hC⟩:=z5p hu 2 rfl eC
 wp_walk using rRepT,tSeq,tIfS,sppicked
 exact ⟨_,hul,_,e0,_,hul,_,e1,_,hul,_,e2,u0,rfl,u1,rfl,u2,rfl,A,hA,B,hB,C,hC,λ z=>absurd ⟨p1,p2⟩ z,λ _ _ G r u h=>q _ r (t2.trans u) h⟩
abbrev ssteptold:Stmt:=top 52
theorem y1s:FnScope ["step", "sides", "k"] ["step", "sides"] (defScope ssteptold):=⟨rfl,rfl,rfl,by decide +kernel,rfl,by decide +kernel,by decide +kernel⟩
theorem y2c (F:Fun K "step_told" "step_told" ssteptold f fd) {CNoWord:Addr}(nNoWord:W.nsIn K mainGlobals "NoWord" = some (some (.ref CNoWord))) {CNoSide:Addr}(nNoSide:W.nsIn K mainGlobals "NoSide" = some (some (.ref CNoSide))) {CBeyond:Addr}(nBeyond:W.nsIn K mainGlobals "Beyond" = some (some (.ref CBeyond))) {CUnlike:Addr}(nUnlike:W.nsIn K mainGlobals "Unlike" = some (some (.ref CUnlike))) {CTooLarge:Addr}(nTooLarge:W.nsIn K mainGlobals "TooLarge" = some (some (.ref CTooLarge))) (cargsof:Callee P w K mg base CX0 (6) "args_of" ["step"] spargsof) (cstepsides:Callee P w K mg base (CX1 P w) (6) "step_sides" ["step", "sides"] (spsidesX CNoWord)) (zlen:mg "len" = none) (zany:mg "any" = none) {tMOST_STEPS:Tok}(gMOST_STEPS:mg "MOST_STEPS" = some (.int 40 tMOST_STEPS)) (eNW:W.exmOne K (.ref CNoWord) (.ref CNoWord)=some true):FnOk P w K mg base CX0 (7) f fd ["step", "sides"] (sptoldX):=by
 have sc:=y1s
 refine F.ok sc (λ vs H Q E h=>?_) (λ cdv A outer s H vs Q E hr h=>?_)
 ·obtain ⟨p,s,d,Ss,ps,rfl,_⟩:=h;rfl
 obtain ⟨p,s,d,Ss,ps,rfl,hst,hs,ht,fS,hh⟩:=h
 refine ⟨_,(z0d (z0x (i:=2) sc.nd rfl (by first | exact Or.inl rfl | exact Or.inr rfl) (z0o z0j (by rfl) zlen PySem.boot_len (z0a (pv 1) z0c))) (z0d (z0z (z0i y4g (pv 2) (z3i (v:=.int 40) (by rfl) gMOST_STEPS ⟨_,rfl⟩) (z0n _)) (z0g (z0l (z0w (z0a z3h (z0a z0p z0c))))) z0k) (z0d (z0z (z5d (z0o (z9a rfl) (by rfl) zany boot_any (z0a (z3d (own:=["number"]) (fv:=["k"]) (js:=[2]) rfl (z3y (z0r cargsof hr (by rfl) z1h (z0a (pv 0) z0c))) rfl (by decide) rfl (by decide) (by first | exact λ _ _ h=>h | exact z2h rfl | exact z2g rfl rfl | exact z2f rfl rfl rfl) (z2w (by rfl)) rfl (y9d (by first | exact ⟨rfl,.inl rfl,.inl rfl⟩ | exact ⟨rfl,.inl rfl,.inr rfl⟩)) (λ _ _ _ _=>(z1d (i:=0) (show (["number", "k"]:List Str).Nodup by decide +kernel) rfl (Or.inl rfl))) (λ _ _ _ _=>(x2w (z4h z4a (pv 0) z0e (z0n _)) (y3x (z4h y4g (pv 0) (pv 1) (z0n _)))))) z0c))) (z0g (z0l (z0w (z0a z3h (z0a z0p z0c))))) z0k) (z0g (x0n ⟨rfl,rfl⟩ (λ xe pn EE hx=>(z0g (z0l (z0w (z0a (y0a cstepsides hr (by rfl) hx (z0a (pv 0) (z0a (pv 1) z0c))) (z0a z3h z0c)))))) (.cons (by rfl) nNoWord (λ ae pn=>(z0g (z0l (z0w (z0a z3h (z0a z0p z0c)))))) (.cons (by rfl) nNoSide (λ ae pn=>(z0g (z0l (z0w (z0a z3h (z0a z0p z0c)))))) (.cons (by rfl) nBeyond (λ ae pn=>(z0g (z0l (z0w (z0a z3h (z0a z0p z0c)))))) (.cons (by rfl) nUnlike (λ ae pn=>(z0g (z0l (z0w (z0a z3h (z0a z0p z0c)))))) (.cons (by rfl) nTooLarge (λ ae pn=>(z0g (z0l (z0w (z0a z3h (z0a z0p z0c)))))) .nil (by decide)) (by decide)) (by decide)) (by decide)) (by decide))))))),?_⟩
 simp only [L2.start,List.length_cons,List.length_nil,List.replicate,List.cons_append,List.nil_append,Nat.reduceSub,Nat.reduceAdd,List.map_cons,List.map_nil]
 obtain ⟨xs,hp,h0,hq,hg⟩:=z2u hst
 rcases hh with ⟨S,l40,ok,fs,q⟩ | ⟨wd,fl,q⟩
 rotate_left
 ·refine z0h (λ σ G=>G=H/\σ=[some (.ref p),some (.ref s),some (.int (Ss.length:Int))]) ?_ (λ R hR=>?_)
  rotate_left
  ·wp_walk using rRepT,tSeq,tIfS
   refine ⟨_,.inl (.of hs),?_⟩
   rw [List.length_map,ht.1]
   exact hR _ _ ⟨rfl,rfl⟩
  rintro σ1 G1 ⟨rfl,rfl⟩
  rcases fl with ⟨l40,rfl⟩ | ⟨l40,⟨a0,ea,la⟩,rfl⟩ | ⟨l40,no,al,rfl⟩
  ·refine z0h (λ σ G=>False) (λ σ G h=>h.elim) (λ R hR=>?_)
   wp_walk using rRepT,tSeq,tIfS
   rw [if_pos (by omega)]
   exact ⟨small (by decide),λ p1 hp1=>q _ p1 (z0b hp1 _) z0f⟩
  ·refine z0h (λ σ G=>G=G1/\σ=[some (.ref p),some (.ref s),some (.int (Ss.length:Int))]) ?_ (λ R hR=>?_)
   rotate_left
   ·wp_walk using rRepT,tSeq,tIfS
    rw [if_neg (by omega)]
    exact hR _ _ ⟨rfl,rfl⟩
   rintro σ2 G2 ⟨rfl,rfl⟩
   refine z0h (λ σ G=>False) (λ σ G h=>h.elim) (λ R hR=>?_)
   wp_walk using rRepT,tSeq,tIfS,spargsof
   refine ⟨p,kdN d,z2n d,rfl,xs,hp,h0,hq,λ G3 t u3 h3=>?_⟩
   rw [hg,ea] at h3
   refine CompT.mk (xs:=nmV [a0]) (.of h3) (λ i ys σ G=>G=G3/\i≤1/\ys=(List.replicate i true).map V.bl/\∃y,σ=[y,some (.int (Ss.length:Int))]) ⟨rfl,Nat.zero_le _,rfl,_,rfl⟩ (λ i ys σ G _ h=>by rw [h.1];exact .of h3) (λ i x ys σ G e h=>?_) (λ ys σ G h p1 hp1=>?_)
   ·obtain ⟨rfl,hi,rfl,y,rfl⟩:=h
    obtain ⟨a,rfl,e2⟩:=y7v e
    have il:i < 1:=(List.getElem?_eq_some_iff.mp e2).1
    obtain rfl:i=0:=by omega
    cases e2
    refine ⟨by rw [List.length_map];exact z1b (by simp),?_⟩
    wp_walk using rRepT,tSeq,tIfS
    rw [if_neg (by omega)]
    exact ⟨Nat.le_refl _,by omega,_,rfl⟩
   ·obtain ⟨rfl,hi,rfl,y,rfl⟩:=h
    refine ⟨_,rfl,_,.of z0f,?_⟩
    rw [if_pos (by rfl)]
    exact ⟨small (by decide),λ p2 hp2=>q _ p2 (u3.trans ((z0b hp1 _).trans (z0b hp2 _))) z0f⟩
  ·refine z0h (λ σ G=>G=G1/\σ=[some (.ref p),some (.ref s),some (.int (Ss.length:Int))]) ?_ (λ R hR=>?_)
   rotate_left
   ·wp_walk using rRepT,tSeq,tIfS
    rw [if_neg (by omega)]
    exact hR _ _ ⟨rfl,rfl⟩
   rintro σ2 G2 ⟨rfl,rfl⟩
   refine z0h (λ σ G=>Same G2 G/\σ=[some (.ref p),some (.ref s),some (.int (Ss.length:Int))]) ?_ (λ R hR=>?_)
   rotate_left
   ·wp_walk using rRepT,tSeq,tIfS,spargsof
    refine ⟨p,kdN d,z2n d,rfl,xs,hp,h0,hq,λ G3 t u3 h3=>?_⟩
    rw [hg] at h3
    refine CompT.mk (xs:=nmV (argsN d)) (.of h3) (λ i ys σ G=>G=G3/\i≤(argsN d).length/\ys=(rep i).map V.bl/\∃y,σ=[y,some (.int (Ss.length:Int))]) ⟨rfl,Nat.zero_le _,rfl,_,rfl⟩ (λ i ys σ G _ h=>by rw [h.1];exact .of h3) (λ i x ys σ G e h=>?_) (λ ys σ G h p1 hp1=>?_)
    ·obtain ⟨rfl,hi,rfl,y,rfl⟩:=h
     obtain ⟨a,rfl,ea⟩:=y7v e
     have il:=(List.getElem?_eq_some_iff.mp ea).1
     have a3:=z7n d
     have aS:=al a (List.mem_of_getElem? ea)
     refine ⟨by rw [List.length_map,z9v];exact z1b (by omega),?_⟩
     wp_walk using rRepT,tSeq,tIfS
     rw [if_neg (by omega),decide_eq_false (show ¬(Ss.length:Int)≤(a:Int) by omega)]
     exact ⟨il,(z6v i).symm,_,rfl⟩
    ·obtain ⟨rfl,hi,rfl,y,rfl⟩:=h
     rw [y4x]
     refine ⟨_,rfl,_,.of z0f,?_⟩
     rw [z9w,if_neg Bool.false_ne_true]
     exact hR _ _ ⟨u3.trans (z0b hp1 _),rfl⟩
   rintro σ3 G3 ⟨s3,rfl⟩
   wp_walk using rRepT,tSeq,tIfS,spsidesX
   exact ⟨d,hst.same s3,Ss,ps,.inl (s3 _ _ hs),ht.same s3,fS,.inr ⟨no,.inl ⟨eNW,small (by decide),λ p2 hp2=>q _ p2 (s3.trans (z0b hp2 _)) z0f⟩⟩⟩
 have al:=y0m ok
 refine z0h (λ σ G=>G=H/\σ=[some (.ref p),some (.ref s),some (.int (Ss.length:Int))]) ?_ (λ R hR=>?_)
 rotate_left
 ·wp_walk using rRepT,tSeq,tIfS
  refine ⟨_,.inl (.of hs),?_⟩
  rw [List.length_map,ht.1]
  exact hR _ _ ⟨rfl,rfl⟩
 rintro σ1 G1 ⟨rfl,rfl⟩
 refine z0h (λ σ G=>G=G1/\σ=[some (.ref p),some (.ref s),some (.int (Ss.length:Int))]) ?_ (λ R hR=>?_)
 rotate_left
 ·wp_walk using rRepT,tSeq,tIfS
  rw [if_neg (by omega)]
  exact hR _ _ ⟨rfl,rfl⟩
 rintro σ2 G2 ⟨rfl,rfl⟩
 refine z0h (λ σ G=>Same G2 G/\σ=[some (.ref p),some (.ref s),some (.int (Ss.length:Int))]) ?_ (λ R hR=>?_)
 rotate_left
 ·wp_walk using rRepT,tSeq,tIfS,spargsof
  refine ⟨p,kdN d,z2n d,rfl,xs,hp,h0,hq,λ G3 t u3 h3=>?_⟩
  rw [hg] at h3
  refine CompT.mk (xs:=nmV (argsN d)) (.of h3) (λ i ys σ G=>G=G3/\i≤(argsN d).length/\ys=(rep i).map V.bl/\∃y,σ=[y,some (.int (Ss.length:Int))]) ⟨rfl,Nat.zero_le _,rfl,_,rfl⟩ (λ i ys σ G _ h=>by rw [h.1];exact .of h3) (λ i x ys σ G e h=>?_) (λ ys σ G h p1 hp1=>?_)
  ·obtain ⟨rfl,hi,rfl,y,rfl⟩:=h
   obtain ⟨a,rfl,ea⟩:=y7v e
   have il:=(List.getElem?_eq_some_iff.mp ea).1
   have a3:=z7n d
   have aS:=al a (List.mem_of_getElem? ea)
   refine ⟨by rw [List.length_map,z9v];exact z1b (by omega),?_⟩
   wp_walk using rRepT,tSeq,tIfS
   rw [if_neg (by omega),decide_eq_false (show ¬(Ss.length:Int)≤(a:Int) by omega)]
   exact ⟨il,(z6v i).symm,_,rfl⟩
  ·obtain ⟨rfl,hi,rfl,y,rfl⟩:=h
   rw [y4x]
   refine ⟨_,rfl,_,.of z0f,?_⟩
   rw [z9w,if_neg Bool.false_ne_true]
   exact hR _ _ ⟨u3.trans (z0b hp1 _),rfl⟩
 rintro σ3 G3 ⟨s3,rfl⟩
 wp_walk using rRepT,tSeq,tIfS,spsidesX
 exact ⟨d,hst.same s3,Ss,ps,.inl (s3 _ _ hs),ht.same s3,fS,.inl ⟨S,ok,fs,λ G r u h=>⟨small (by decide),λ p1 hp1=>q _ p1 r (s3.trans (u.trans (z0b hp1 _))) z0f (z0b hp1 _ _ _ h)⟩⟩⟩
abbrev sprogramtold:Stmt:=top 53
theorem z6p:FnScope ["program", "steps", "outs", "sides", "step", "told"] ["program"] (defScope sprogramtold):=⟨rfl,rfl,rfl,by decide +kernel,rfl,by decide +kernel,by decide +kernel⟩
theorem z7d (F:Fun K "program_told" "program_told" sprogramtold f fd) (csteptold:Callee P w K mg base CX0 (7) "step_told" ["step", "sides"] sptoldX) (zlen:mg "len" = none) (zany:mg "any" = none) (ztuple:mg "tuple" = none) {tMOST_OUTS:Tok}(gMOST_OUTS:mg "MOST_OUTS" = some (.int 8 tMOST_OUTS)):FnOk P w K mg base CX0 (8) f fd ["program"] (spptoldX):=by
 have sc:=z6p
 refine F.ok sc (λ vs H Q E h=>?_) (λ cdv A outer s H vs Q E hr h=>?_)
 ·obtain ⟨r,rfl,_⟩:=h;rfl
 obtain ⟨r,rfl,hh⟩:=h
 refine ⟨_,(z0d (z0x (i:=1) sc.nd rfl (by first | exact Or.inl rfl | exact Or.inr rfl) (z0u z0t (pv 0) z0e (λ _ _=>rfl))) (z0d (z0x (i:=2) sc.nd rfl (by first | exact Or.inl rfl | exact Or.inr rfl) (z0u z0t (pv 0) z0e (λ _ _=>rfl))) (z0d (z0x (i:=3) sc.nd rfl (by first | exact Or.inl rfl | exact Or.inr rfl) (z1w z0c)) (z0d (z3g PassesOwn.never rfl (z3y (pv 1)) (z1d (i:=4) sc.nd rfl (Or.inl rfl)) (z0d (z0x (i:=5) sc.nd rfl (by first | exact Or.inl rfl | exact Or.inr rfl) (z0r csteptold hr (by rfl) z1h (z0a (pv 4) (z0a (pv 3) z0c)))) (z0d (z0z (z0i y4e (z0u z0t (pv 5) z0e (λ _ _=>rfl)) z3h (z0n _)) (z0g (z0l (z0w (z0a (z1l z1m (by rfl) ztuple boot_tuple (z0a (pv 3) z0c)) (z0a (z0w (z0a (z0o z0j (by rfl) zlen PySem.boot_len (z0a (pv 3) z0c)) (z0a (z0u z0t (pv 5) z0e (λ _ _=>rfl)) z0c))) z0c))))) z0k) (z0g (z1r (z6e (pv 3) (z0u z0t (pv 5) z0e (λ _ _=>rfl)))))))) (z0d (z0z (PW.pt (z5b (y0v (y7g y7o y7o z0e (z0o z0j (by rfl) zlen PySem.boot_len (z0a (pv 2) z0c)) (z3i (v:=.int 8) (by rfl) gMOST_OUTS ⟨_,rfl⟩))) (z3u (z5d (z0o (z9a rfl) (by rfl) zany boot_any (z0a (z3d (own:=["out"]) (fv:=["steps"]) (js:=[1]) rfl (z3y (pv 2)) rfl (by decide) rfl (by decide) (by first | exact λ _ _ h=>h | exact z2h rfl | exact z2g rfl rfl | exact z2f rfl rfl rfl) (z2w (by rfl)) rfl (y9d (by first | exact ⟨rfl,.inl rfl,.inl rfl⟩ | exact ⟨rfl,.inl rfl,.inr rfl⟩)) (λ _ _ _ _=>(z1d (i:=0) (show (["out", "steps"]:List Str).Nodup by decide +kernel) rfl (Or.inl rfl))) (λ _ _ _ _=>(x2w (z4h z4a (pv 0) z0e (z0n _)) (y3x (z4h y4g (pv 0) (z0o ((z4g (K:=K) rfl)) (by rfl) zlen PySem.boot_len (z0a (pv 1) z0c)) (z0n _)))))) z0c)))))) (z0g (z0l (z0w (z0a (z1l z1m (by rfl) ztuple boot_tuple (z0a (pv 3) z0c)) (z0a (z0w (z0a (z0o ((z4g (K:=K) rfl)) (by rfl) zlen PySem.boot_len (z0a (pv 1) z0c)) (z0a z0p z0c))) z0c))))) z0k) (z0g (z0l (z0w (z0a (z1l z1m (by rfl) ztuple boot_tuple (z0a (pv 3) z0c)) (z0a z3h z0c)))))))))),?_⟩
 simp only [L2.start,List.length_cons,List.length_nil,List.replicate,List.cons_append,List.nil_append,Nat.reduceSub,Nat.reduceAdd,List.map_cons,List.map_nil]
 rcases hh with hh | ⟨n,wd,⟨mo,ds,Ss,hmo,gd,dn,l40,hbp⟩,q⟩
 rotate_left
 ·obtain ⟨st,ot,qs,more,os,hr0,hst,sl,hot,hb⟩:∃(st ot:Addr) (qs:List Addr) (more:List Stp) (os:List Int),H r=some (.tup [.ref st,.ref ot])/\H st=some (.tup (qs.map V.ref))/\StL H qs (ds++more)/\H ot=some (.tup (os.map V.int))/\((∃d rest,more=d::rest/\FltS Ss d wd)\/(more=[]/\os=[]/\ds.length≤40/\wd=Str.ofString "out")):=by
   rcases hbp with ⟨d,rest,os,⟨st,ot,qs,a,b,c,e⟩,f⟩ | ⟨⟨st,ot,qs,a,b,c,e⟩,f2⟩
   ·exact ⟨st,ot,qs,d::rest,os,a,b,c,e,.inl ⟨d,rest,rfl,f⟩⟩
   ·exact ⟨st,ot,qs,[],[],a,b,by rw [List.append_nil];exact c,e,.inr ⟨rfl,rfl,l40,f2⟩⟩
  clear hbp
  have ft:=z4c gd hmo
  refine z0h (λ σ G=>G=H/\σ=[some (.ref r),some (.ref st),none,none,none,none]) ?_ (λ R hR=>?_)
  rotate_left
  ·wp_walk using rRepT,tSeq,tIfS
   exact ⟨_,hr0,_,z0m (j:=0) rfl,hR _ _ ⟨rfl,rfl⟩⟩
  rintro σ1 G1 ⟨rfl,rfl⟩
  refine z0h (λ σ G=>G=G1/\σ=[some (.ref r),some (.ref st),some (.ref ot),none,none,none]) ?_ (λ R hR=>?_)
  rotate_left
  ·wp_walk using rRepT,tSeq,tIfS
   exact ⟨_,hr0,_,z0m (j:=1) rfl,hR _ _ ⟨rfl,rfl⟩⟩
  rintro σ2 G2 ⟨rfl,rfl⟩
  refine z0h (λ σ G=>∃sd,Same G2 G/\G2 sd=none/\G sd=some (.lst [])/\σ=[some (.ref r),some (.ref st),some (.ref ot),some (.ref sd),none,none]) ?_ (λ R hR=>?_)
  rotate_left
  ·wp_walk using rRepT,tSeq,tIfS
   exact ⟨Nat.zero_le _,λ l hl=>hR _ _ ⟨l,z0b hl _,hl,z0f,rfl⟩⟩
  rintro σ3 G3 ⟨sd,s3,sd0,hsd,rfl⟩
  refine z0h (λ σ G=>∃(ps:List Addr) (y4 y5:Option V),more=[]/\Same G2 G/\G sd=some (.lst (ps.map V.ref))/\TpsM G ps Ss/\σ=[some (.ref r),some (.ref st),some (.ref ot),some (.ref sd),y4,y5]) ?_ (λ R hR=>?_)
  rotate_left
  ·wp_walk using rRepT
   obtain ⟨J,hJ⟩:∃J:Nat->L2.St->Hp->Prop,J=(λ i σ G=>∃(ps:List Addr) (y4 y5:Option V),i≤ds.length/\Same G2 G/\G sd=some (.lst (ps.map V.ref))/\TpsM G ps (Ss.take i)/\σ=[some (.ref r),some (.ref st),some (.ref ot),some (.ref sd),y4,y5]):=⟨_,rfl⟩
   refine LoopT.mk (xs:=qs.map V.ref) (.of (s3 _ _ hst)) J (by rw [hJ];exact ⟨[],_,_,Nat.zero_le _,s3,hsd,⟨rfl,λ i p e=>nomatch e⟩,rfl⟩) (λ i σ G _ h=>by rw [hJ] at h;obtain ⟨_,_,_,_,s,_⟩:=h;exact .of (s _ _ hst)) (λ i x σ G0 e h=>?_) (λ σ G h=>?_)
   rotate_left
   ·rw [hJ] at h
    obtain ⟨ps,y4,y5,hi,s,h1,h2,rfl⟩:=h
    rw [List.length_map,sl.1,List.length_append] at hi h2
    have m0:more=[]:=List.length_eq_zero_iff.mp (by omega)
    rw [m0,List.length_nil,Nat.add_zero,gd.1,List.take_length] at h2
    exact hR _ _ ⟨ps,_,_,m0,s,h1,h2,rfl⟩
   clear hR
   rw [hJ] at h
   obtain ⟨ps,y4,y5,hi,s,h1,h2,rfl⟩:=h
   obtain ⟨p,rfl,hp⟩:∃p,x=.ref p/\qs[i]?=some p:=by
    rw [List.getElem?_map] at e
    cases hx:qs[i]? with
    | none=>rw [hx] at e;cases e
    | some n=>rw [hx] at e;cases e;exact ⟨n,rfl,rfl⟩
   obtain ⟨d,ed,hd⟩:=sl.2 i p hp
   have dS:=gd.1
   have pl:ps.length=i:=by rw [h2.1,List.length_take];omega
   simp only [gName,List.set_cons_succ,List.set_cons_zero]
   by_cases il:i < ds.length
   ·rw [List.getElem?_append_left il] at ed
    have iS:i < Ss.length:=by omega
    have eS:=List.getElem?_eq_getElem iS
    generalize Ss[i]=S at eS
    have ok:=gd.2.2 i d S ed eS
    refine z0h (λ σ G=>Same G0 G/\∃r' t,G r'=some (.tup [.ref t,.non])/\Tp G t S/\σ=[some (.ref r),some (.ref st),some (.ref ot),some (.ref sd),some (.ref p),some (.ref r')]) ?_ (λ R hR=>?_)
    rotate_left
    ·wp_walk using rRepT,tSeq,tIfS,sptoldX
     exact ⟨d,hd.same s,Ss.take i,ps,h1,h2,λ T hT=>ft T (List.mem_of_mem_take hT),.inl ⟨by rw [List.length_take];omega,S,ok,ft S (List.mem_of_getElem? eS),λ G r' t u e1 e2=>hR _ _ ⟨u,r',t,e1,e2,rfl⟩⟩⟩
    rintro σ1' G1' ⟨u1,r',t,e1,e2,rfl⟩
    refine z0h (λ σ G=>G=G1'/\σ=[some (.ref r),some (.ref st),some (.ref ot),some (.ref sd),some (.ref p),some (.ref r')]) ?_ (λ R hR=>?_)
    rotate_left
    ·wp_walk using rRepT,tSeq,tIfS
     exact ⟨_,e1,_,z0m (j:=1) rfl,hR _ _ ⟨rfl,rfl⟩⟩
    rintro σ2' G2' ⟨rfl,rfl⟩
    wp_walk using rRepT,tSeq,tIfS
    refine ⟨⟨_,u1 _ _ h1⟩,_,e1,_,z0m (j:=0) rfl,_,u1 _ _ h1,by rw [List.length_map,pl];exact z1b (by omega),?_⟩
    have up:=z5y (ys:=ps.map V.ref++[V.ref t]) (u1 _ _ h1)
    rw [hJ]
    exact ⟨ps++[t],_,_,il,z2o (s.trans u1) sd0,by rw [z0f,List.map_append];rfl,(h2.up ((z2i u1).trans up)).snocT eS (up _ _ e2),rfl⟩
   ·obtain rfl:i=ds.length:=by omega
    rw [List.getElem?_append_right (Nat.le_refl _),Nat.sub_self] at ed
    rcases hb with ⟨d',rest,rfl,fl⟩ | ⟨rfl,_⟩
    rotate_left
    ·cases ed
    cases ed
    rw [dS,List.take_length] at h2
    refine z0h (λ σ G=>Same G0 G/\∃r',G r'=some (.tup [.non,.str wd])/\σ=[some (.ref r),some (.ref st),some (.ref ot),some (.ref sd),some (.ref p),some (.ref r')]) ?_ (λ R hR=>?_)
    rotate_left
    ·wp_walk using rRepT,tSeq,tIfS,sptoldX
     exact ⟨d,hd.same s,Ss,ps,h1,h2,ft,.inr ⟨wd,fl,λ G r' u e1=>hR _ _ ⟨u,r',e1,rfl⟩⟩⟩
    rintro σ1' G1' ⟨u1,r',e1,rfl⟩
    refine z0h (λ σ G=>False) (λ σ G h=>h.elim) (λ R hR=>?_)
    wp_walk using rRepT,tSeq,tIfS
    refine ⟨_,e1,_,z0m (j:=1) rfl,?_⟩
    refine ⟨_,.inl ⟨.of (u1 _ _ h1),λ t1 ht1=>?_⟩⟩
    have v1:=z0b ht1 (.tup (ps.map V.ref))
    refine ⟨_,.inl (.of (v1 _ _ (u1 _ _ h1))),?_⟩
    rw [List.length_map,pl,dn]
    exact ⟨_,v1 _ _ e1,_,z0m (j:=1) rfl,small (by decide),λ p2 hp2=>⟨small (by decide),λ p3 hp3=>q _ p3 t1 p2 (s.trans (u1.trans (v1.trans ((z0b hp2 _).trans (z0b hp3 _))))) z0f (z0b hp3 _ _ _ z0f)⟩⟩
  rintro σ4 G4 ⟨ps,y4,y5,m0,s4,h1,h2,rfl⟩
  rcases hb with ⟨d',rest,rfl,fl⟩ | ⟨_,rfl,d40,rfl⟩
  ·cases m0
  subst m0
  refine z0h (λ σ G=>False) (λ σ G h=>h.elim) (λ R hR=>?_)
  wp_walk using rRepT,tSeq,tIfS
  refine ⟨_,.inr (.of (s4 _ _ hot)),?_⟩
  rw [if_neg (by simp)]
  refine ⟨_,.inl ⟨.of h1,λ t1 ht1=>?_⟩⟩
  have v1:=z0b ht1 (.tup (ps.map V.ref))
  refine ⟨_,.inr (.of (v1 _ _ (s4 _ _ hst))),?_⟩
  rw [List.length_map,sl.1,List.append_nil,dn]
  exact ⟨small (by decide),λ p2 hp2=>⟨small (by decide),λ p3 hp3=>q _ p3 t1 p2 (s4.trans (v1.trans ((z0b hp2 _).trans (z0b hp3 _)))) z0f (z0b hp3 _ _ _ z0f)⟩⟩
 obtain ⟨ds,Ss,os,mo,⟨st,ot,qs,hr0,hst,sl,hot⟩,⟨hmo,gd,d0,d40,o0,o8,ob⟩,q⟩:=hh
 refine z0h (λ σ G=>G=H/\σ=[some (.ref r),some (.ref st),none,none,none,none]) ?_ (λ R hR=>?_)
 rotate_left
 ·wp_walk using rRepT,tSeq,tIfS
  exact ⟨_,hr0,_,z0m (j:=0) rfl,hR _ _ ⟨rfl,rfl⟩⟩
 rintro σ1 G1 ⟨rfl,rfl⟩
 refine z0h (λ σ G=>G=G1/\σ=[some (.ref r),some (.ref st),some (.ref ot),none,none,none]) ?_ (λ R hR=>?_)
 rotate_left
 ·wp_walk using rRepT,tSeq,tIfS
  exact ⟨_,hr0,_,z0m (j:=1) rfl,hR _ _ ⟨rfl,rfl⟩⟩
 rintro σ2 G2 ⟨rfl,rfl⟩
 refine z0h (λ σ G=>∃sd,Same G2 G/\G2 sd=none/\G sd=some (.lst [])/\σ=[some (.ref r),some (.ref st),some (.ref ot),some (.ref sd),none,none]) ?_ (λ R hR=>?_)
 rotate_left
 ·wp_walk using rRepT,tSeq,tIfS
  exact ⟨Nat.zero_le _,λ l hl=>hR _ _ ⟨l,z0b hl _,hl,z0f,rfl⟩⟩
 rintro σ3 G3 ⟨sd,s3,sd0,hsd,rfl⟩
 refine z0h (λ σ G=>∃(ps:List Addr) (y4 y5:Option V),Same G2 G/\G sd=some (.lst (ps.map V.ref))/\TpsM G ps Ss/\σ=[some (.ref r),some (.ref st),some (.ref ot),some (.ref sd),y4,y5]) ?_ (λ R hR=>?_)
 rotate_left
 ·wp_walk using rRepT
  obtain ⟨J,hJ⟩:∃J:Nat->L2.St->Hp->Prop,J=(λ i σ G=>∃(ps:List Addr) (y4 y5:Option V),Same G2 G/\G sd=some (.lst (ps.map V.ref))/\TpsM G ps (Ss.take i)/\σ=[some (.ref r),some (.ref st),some (.ref ot),some (.ref sd),y4,y5]):=⟨_,rfl⟩
  refine LoopT.mk (xs:=qs.map V.ref) (.of (s3 _ _ hst)) J (by rw [hJ];exact ⟨[],_,_,s3,hsd,⟨rfl,λ i p e=>nomatch e⟩,rfl⟩) (λ i σ G _ h=>by rw [hJ] at h;obtain ⟨_,_,_,s,_⟩:=h;exact .of (s _ _ hst)) (λ i x σ G0 e h=>?_) (λ σ G h=>?_)
  rotate_left
  ·rw [hJ] at h
   obtain ⟨ps,y4,y5,s,h1,h2,rfl⟩:=h
   rw [List.length_map,sl.1,gd.1,List.take_length] at h2
   exact hR _ _ ⟨ps,_,_,s,h1,h2,rfl⟩
  clear hR
  rw [hJ] at h
  obtain ⟨ps,y4,y5,s,h1,h2,rfl⟩:=h
  obtain ⟨p,rfl,hp⟩:∃p,x=.ref p/\qs[i]?=some p:=by
   rw [List.getElem?_map] at e
   cases hx:qs[i]? with
   | none=>rw [hx] at e;cases e
   | some n=>rw [hx] at e;cases e;exact ⟨n,rfl,rfl⟩
  obtain ⟨d,ed,hd⟩:=sl.2 i p hp
  have il:i < Ss.length:=by rw [← gd.1];exact (List.getElem?_eq_some_iff.mp ed).1
  have eS:=List.getElem?_eq_getElem il
  have i40:i < 40:=by rw [← gd.1] at il;omega
  have pl:ps.length=i:=by rw [h2.1,List.length_take];omega
  generalize Ss[i]=S at eS
  have ok:=gd.2.2 i d S ed eS
  have ft:=z4c gd hmo
  simp only [gName,List.set_cons_succ,List.set_cons_zero]
  refine z0h (λ σ G=>Same G0 G/\∃r' t,G r'=some (.tup [.ref t,.non])/\Tp G t S/\σ=[some (.ref r),some (.ref st),some (.ref ot),some (.ref sd),some (.ref p),some (.ref r')]) ?_ (λ R hR=>?_)
  rotate_left
  ·wp_walk using rRepT,tSeq,tIfS,sptoldX
   exact ⟨d,hd.same s,Ss.take i,ps,h1,h2,λ T hT=>ft T (List.mem_of_mem_take hT),.inl ⟨by rw [List.length_take];omega,S,ok,ft S (List.mem_of_getElem? eS),λ G r' t u e1 e2=>hR _ _ ⟨u,r',t,e1,e2,rfl⟩⟩⟩
  rintro σ1' G1' ⟨u1,r',t,e1,e2,rfl⟩
  refine z0h (λ σ G=>G=G1'/\σ=[some (.ref r),some (.ref st),some (.ref ot),some (.ref sd),some (.ref p),some (.ref r')]) ?_ (λ R hR=>?_)
  rotate_left
  ·wp_walk using rRepT,tSeq,tIfS
   exact ⟨_,e1,_,z0m (j:=1) rfl,hR _ _ ⟨rfl,rfl⟩⟩
  rintro σ2' G2' ⟨rfl,rfl⟩
  wp_walk using rRepT,tSeq,tIfS
  refine ⟨⟨_,u1 _ _ h1⟩,_,e1,_,z0m (j:=0) rfl,_,u1 _ _ h1,by rw [List.length_map,pl];exact z1b (by omega),?_⟩
  have up:=z5y (ys:=ps.map V.ref++[V.ref t]) (u1 _ _ h1)
  rw [hJ]
  exact ⟨ps++[t],_,_,z2o (s.trans u1) sd0,by rw [z0f,List.map_append];rfl,(h2.up ((z2i u1).trans up)).snocT eS (up _ _ e2),rfl⟩
 rintro σ4 G4 ⟨ps,y4,y5,s4,h1,h2,rfl⟩
 refine z0h (λ σ G=>Same G4 G/\σ=[some (.ref r),some (.ref st),some (.ref ot),some (.ref sd),y4,y5]) ?_ (λ R hR=>?_)
 rotate_left
 ·wp_walk using rRepT,tSeq,tIfS
  refine ⟨_,.inr (.of (s4 _ _ hot)),?_⟩
  rw [z0v,if_pos (by omega),if_neg (by omega)]
  refine CompT.mk (xs:=os.map V.int) (.of (s4 _ _ hot)) (λ i ys σ G=>G=G4/\i≤os.length/\ys=(rep i).map V.bl/\∃y,σ=[y,some (.ref st)]) ⟨rfl,Nat.zero_le _,rfl,_,rfl⟩ (λ i ys σ G _ h=>by rw [h.1];exact .of (s4 _ _ hot)) (λ i x ys σ G e h=>?_) (λ ys σ G h p1 hp1=>?_)
  ·obtain ⟨rfl,hi,rfl,y,rfl⟩:=h
   obtain ⟨o,rfl,eo⟩:=y1f e
   have il:=(List.getElem?_eq_some_iff.mp eo).1
   have oo:=ob o (List.mem_of_getElem? eo)
   refine ⟨by rw [List.length_map,z9v];exact z1b (by omega),?_⟩
   wp_walk using rRepT,tSeq,tIfS
   rw [if_neg (by omega)]
   refine ⟨_,.inr (.of (s4 _ _ hst)),?_⟩
   rw [List.length_map,sl.1,decide_eq_false (show ¬(ds.length:Int)≤o by omega)]
   exact ⟨il,(z6v i).symm,_,rfl⟩
  ·obtain ⟨rfl,hi,rfl,y,rfl⟩:=h
   rw [z0v]
   refine ⟨_,rfl,_,.of z0f,?_⟩
   rw [z9w,if_neg Bool.false_ne_true]
   exact hR _ _ ⟨z0b hp1 _,rfl⟩
 rintro σ5 G5 ⟨s5,rfl⟩
 wp_walk using rRepT,tSeq,tIfS
 exact ⟨_,.inl ⟨.of (s5 _ _ h1),λ t1 ht1=>⟨small (by decide),λ p hp=>q _ p t1 ps (s4.trans (s5.trans ((z0b ht1 _).trans (z0b hp _)))) z0f (z0b hp _ _ _ z0f) (h2.same (s5.trans ((z0b ht1 _).trans (z0b hp _))))⟩⟩⟩
abbrev schecked:Stmt:=top 54
theorem y3h:FnScope ["program", "told", "fault"] ["program"] (defScope schecked):=⟨rfl,rfl,rfl,by decide +kernel,rfl,by decide +kernel,by decide +kernel⟩
theorem y4q (F:Fun K "checked" "checked" schecked f fd) {CBadStep:Addr}(nBadStep:W.nsIn K mainGlobals "BadStep" = some (some (.ref CBadStep))) (cprogramtold:Callee P w K mg base CX0 (8) "program_told" ["program"] spptoldX) (gBadStep:mg "BadStep" = some (.ref CBadStep)) {fI:Addr}{fdI:FuncData}(MBadStep:MkX K CBadStep fI [.type "ValueError",.type "Exception",.type "BaseException",.type "object"] "ValueError.__new__") (FBadStep:FnOk P w K mg base CX0 7 fI fdI ["self", "text", "at", "why"] (spinit K)) (bBadStep:Binds K fdI ["self", "text", "at", "why"] []) (aBS:AtX K CBadStep) (n1:NoAttr K CBadStep (Str.ofString "at")) (n2:NoAttr K CBadStep (Str.ofString "why")):FnOk P w K mg base (CX2 P w) (9) f fd ["program"] ((spcheckedX CBadStep)):=by
 have sc:=y3h
 refine F.okX2 sc (λ vs H Q E h=>?_) (λ cdv A outer s H vs Q E hr h=>?_)
 ·obtain ⟨r,rfl,_⟩:=h;rfl
 obtain ⟨r,rfl,hh⟩:=h
 refine ⟨_,(z0d (z0x (i:=1) sc.nd rfl (by first | exact Or.inl rfl | exact Or.inr rfl) (z0r cprogramtold hr (by rfl) z1h (z0a (pv 0) z0c))) (z0d (z0x (i:=2) sc.nd rfl (by first | exact Or.inl rfl | exact Or.inr rfl) (z0u z0t (pv 1) z0e (λ _ _=>rfl))) (z0d (z0z (z0i y4e (pv 2) z3h (z0n _)) (z0g (y3s PySem.F.excBase_ValueError rfl (by rfl) gBadStep MBadStep FBadStep hr bBadStep x0m (z0a z0p (z0a (z0u z0t (pv 2) z0e (λ _ _=>rfl)) (z0a (z0u z0t (pv 2) z0e (λ _ _=>rfl)) z0c))))) z0k) (z0g (z0l (z0u z0t (pv 1) z0e (λ _ _=>rfl))))))),?_⟩
 simp only [L2.start,List.length_cons,List.length_nil,List.replicate,List.cons_append,List.nil_append,Nat.reduceSub,Nat.reduceAdd,List.map_cons,List.map_nil]
 rcases hh with hh | ⟨n,wd,bp,q⟩
 rotate_left
 ·refine z0h (λ σ G=>∃r' t f,Same H G/\G r'=some (.tup [.ref t,.ref f])/\G f=some (.tup [.int (n:Int),.str wd])/\σ=[some (.ref r),some (.ref r'),none]) ?_ (λ R hR=>?_)
  rotate_left
  ·wp_walk using rRepT,tSeq,tIfS,spptoldX
   exact .inr ⟨n,wd,bp,λ G r' t f u h1 h2=>hR _ _ ⟨r',t,f,u,h1,h2,rfl⟩⟩
  rintro σ1 G1 ⟨r',t,f,s1,h1,h2,rfl⟩
  refine z0h (λ σ G=>G=G1/\σ=[some (.ref r),some (.ref r'),some (.ref f)]) ?_ (λ R hR=>?_)
  rotate_left
  ·wp_walk using rRepT,tSeq,tIfS
   exact ⟨_,h1,_,z0m (j:=1) rfl,hR _ _ ⟨rfl,rfl⟩⟩
  rintro σ2 G2 ⟨rfl,rfl⟩
  refine z0h (λ σ G=>False) (λ σ G h=>h.elim) (λ R hR=>?_)
  wp_walk using rRepT,tSeq,tIfS,spinit
  rw [if_pos (λ z=>by cases z)]
  refine ⟨_,h2,_,z0m (j:=0) rfl,_,h2,_,z0m (j:=1) rfl,small (by decide),λ a ha=>⟨CBadStep,rfl,MBadStep.cls,aBS,n1,n2,λ dx H' hd ne e1 e2 e3=>⟨dx,e1,q _ dx (λ b o e=>?_) (by rw [z9u ne];exact e2)⟩⟩⟩
  rw [z1a ne] at hd
  have eb:=s1 _ _ e
  have na:b≠a:=λ z=>by rw [z,ha] at eb;cases eb
  have nd:b≠dx:=λ z=>by rw [z,hd] at eb;cases eb
  rw [z9u na,e3 b na nd,z1a na]
  exact eb
 obtain ⟨ds,Ss,os,mo,pm,gd,q⟩:=hh
 refine z0h (λ σ G=>∃r' t ps,Same H G/\G r'=some (.tup [.ref t,.non])/\G t=some (.tup (ps.map V.ref))/\TpsM G ps Ss/\σ=[some (.ref r),some (.ref r'),none]) ?_ (λ R hR=>?_)
 rotate_left
 ·wp_walk using rRepT,tSeq,tIfS,spptoldX
  exact .inl ⟨ds,Ss,os,pm,mo,gd,λ G r' t ps u h1 h2 h3=>hR _ _ ⟨r',t,ps,u,h1,h2,h3,rfl⟩⟩
 rintro σ1 G1 ⟨r',t,ps,s1,h1,h2,h3,rfl⟩
 refine z0h (λ σ G=>G=G1/\σ=[some (.ref r),some (.ref r'),some .non]) ?_ (λ R hR=>?_)
 rotate_left
 ·wp_walk using rRepT,tSeq,tIfS
  exact ⟨_,h1,_,z0m (j:=1) rfl,hR _ _ ⟨rfl,rfl⟩⟩
 rintro σ2 G2 ⟨rfl,rfl⟩
 refine z0h (λ σ G=>G=G2/\σ=[some (.ref r),some (.ref r'),some .non]) ?_ (λ R hR=>?_)
 rotate_left
 ·wp_walk using rRepT,tSeq,tIfS
  exact hR _ _ ⟨rfl,rfl⟩
 rintro σ3 G3 ⟨rfl,rfl⟩
 wp_walk using rRepT,tSeq,tIfS
 exact ⟨_,h1,_,z0m (j:=0) rfl,q _ t ps s1 h2 h3⟩
abbrev sstepcalls:Stmt:=top 56
theorem z9l:FnScope ["step", "own", "sides"] ["step", "own", "sides"] (defScope sstepcalls):=⟨rfl,rfl,rfl,by decide +kernel,rfl,by decide +kernel,by decide +kernel⟩
theorem y0d (F:Fun K "step_calls" "step_calls" sstepcalls f fd) (camount:Callee P w K mg base CX0 (1) "amount" ["sides"] spamount):FnOk P w K mg base CX0 (2) f fd ["step", "own", "sides"] (spstepcalls):=by
 have sc:=z9l
 refine F.ok sc (λ vs H Q E h=>?_) (λ cdv A outer s H vs Q E hr h=>?_)
 ·obtain ⟨p,o,s,d,S,Ss,ps,rfl,_⟩:=h;rfl
 obtain ⟨p,o,s,d,S,Ss,ps,rfl,hst,ho,fS,hs,htt,ft,al,q⟩:=h
 refine ⟨_,(z0d (z0z (z0i y1a (z0u z0t (pv 0) z0e (λ _ _=>rfl)) (z0w (z0a z0p (z0a z0p (z0a z0p (z0a z0p z0c))))) rfl) (z0g (z0l (z0r camount hr (by rfl) z1h (z0a (pv 1) z0c)))) z0k) (z0d (z0z (z0i y1a (z0u z0t (pv 0) z0e (λ _ _=>rfl)) (z0w (z0a z0p (z0a z0p z0c))) rfl) (z0g (z0l (z0r camount hr (by rfl) z1h (z0a (z0u z0t (pv 2) (z0u z0t (pv 0) z0e (λ _ _=>rfl)) (λ _ _=>rfl)) z0c)))) z0k) (z0g (z0l z0e)))),?_⟩
 simp only [L2.start,List.length_cons,List.length_nil,List.replicate,List.cons_append,List.nil_append,Nat.reduceSub,Nat.reduceAdd,List.map_cons,List.map_nil]
 obtain ⟨xs,hp,h0,_,_⟩:=z2u hst
 refine z0h (λ σ G=>Same H G/\¬kd4 d/\σ=[some (.ref p),some (.ref o),some (.ref s)]) ?_ (λ R hR=>?_)
 rotate_left
 ·wp_walk using rRepT,tSeq,tIfS,spamount
  refine ⟨_,hp,_,z0m (j:=0) h0,small (by decide),λ t ht=>⟨rfl,?_⟩⟩
  have v:=z0b ht (.tup [V.str (Str.ofString "each"),V.str (Str.ofString "pair"),V.str (Str.ofString "pick"),V.str (Str.ofString "fetch")])
  by_cases c:kd4 d
  ·rw [if_pos ((x4l d).mpr c)]
   exact ⟨S,.inr (v _ _ ho),z2z fS,by have:=q _ v;rw [y9w c] at this;exact this⟩
  ·rw [if_neg (λ z=>c ((x4l d).mp z))]
   exact hR _ _ ⟨v,c,rfl⟩
 rintro σ1 G1 ⟨s1,c4,rfl⟩
 refine z0h (λ σ G=>Same G1 G/\¬kd2 d/\σ=[some (.ref p),some (.ref o),some (.ref s)]) ?_ (λ R hR=>?_)
 rotate_left
 ·wp_walk using rRepT,tSeq,tIfS,spamount
  refine ⟨_,s1 _ _ hp,_,z0m (j:=0) h0,small (by decide),λ t ht=>⟨rfl,?_⟩⟩
  have v:=z0b ht (.tup [V.str (Str.ofString "fold"),V.str (Str.ofString "run")])
  by_cases c:kd2 d
  ·rw [if_pos ((x4m d).mpr c)]
   obtain ⟨w,a,sd,e⟩:=y9x c
   obtain ⟨nm,hp'⟩:=z8s hst e
   obtain ⟨pa,A,ea,eA,hA⟩:=z2r (htt.same (s1.trans v)) (al a (z8t e))
   exact ⟨_,(s1.trans v) _ _ hp',_,z0m (j:=2) rfl,_,_,rfl,(s1.trans v) _ _ hs,_,ea,pa,rfl,A,.inr hA,z2z (ft A (List.mem_of_getElem? eA)),by have:=q _ (s1.trans v);rw [z6j e eA] at this;exact this⟩
  ·rw [if_neg (λ z=>c ((x4m d).mp z))]
   exact hR _ _ ⟨v,c,rfl⟩
 rintro σ2 G2 ⟨s2,c2,rfl⟩
 wp_walk using rRepT,tSeq,tIfS
 have:=q _ (s1.trans s2)
 rw [y9y c4 c2] at this
 exact this
abbrev splaincalls:Stmt:=top 57
theorem z7w:FnScope ["program", "sides"] ["program"] (defScope splaincalls):=⟨rfl,rfl,rfl,by decide +kernel,rfl,by decide +kernel,by decide +kernel⟩
theorem z8h (F:Fun K "plain_calls" "plain_calls" splaincalls f fd) {CBadStep:Addr}(nBadStep:W.nsIn K mainGlobals "BadStep" = some (some (.ref CBadStep))) (cchecked:Callee P w K mg base (CX2 P w) (9) "checked" ["program"] (spcheckedX CBadStep)) (cstepcalls:Callee P w K mg base CX0 (9) "step_calls" ["step", "own", "sides"] spstepcalls) (zsum:mg "sum" = none) (zzip:mg "zip" = none):FnOk P w K mg base (CX2 P w) (10) f fd ["program"] ((spplain callsI CBadStep)):=by
 have sc:=z7w
 refine F.okX2 sc (λ vs H Q E h=>?_) (λ cdv A outer s H vs Q E hr h=>?_)
 ·obtain ⟨r,rfl,_⟩:=h;rfl
 obtain ⟨r,rfl,hh⟩:=h
 refine ⟨_,(z0d (z0x (i:=1) sc.nd rfl (by first | exact Or.inl rfl | exact Or.inr rfl) (z0r cchecked hr (by rfl) y3z (z0a (pv 0) z0c))) (z0g (z0l (z0o (z5n rfl) (by rfl) zsum boot_sum (z0a (z3d (own:=["step", "own"]) (fv:=["sides"]) (js:=[1]) rfl (y9m (by rfl) zzip (z0a (z0u z0t (pv 0) z0e (λ _ _=>rfl)) (z0a (pv 1) z0c))) rfl (by decide) rfl (by decide) (by first | exact λ _ _ h=>h | exact z2h rfl | exact z2g rfl rfl | exact z2f rfl rfl rfl) (z2w (by rfl)) rfl (y9d (by first | exact ⟨rfl,.inl rfl,.inl rfl⟩ | exact ⟨rfl,.inl rfl,.inr rfl⟩)) (λ _ _ _ _=>(z9z (n:=2) (y0w rfl (z2p (z1d (i:=0) (show (["step", "own", "sides"]:List Str).Nodup by decide +kernel) rfl (Or.inl rfl)) (z2p (z1d (i:=1) (show (["step", "own", "sides"]:List Str).Nodup by decide +kernel) rfl (Or.inl rfl)) z6y))))) (λ _ _ _ _=>(z0r cstepcalls hr (by rfl) z1h (z0a (pv 0) (z0a (pv 1) (z0a (pv 2) z0c)))))) z0c))))),?_⟩
 simp only [L2.start,List.length_cons,List.length_nil,List.replicate,List.cons_append,List.nil_append,Nat.reduceSub,Nat.reduceAdd,List.map_cons,List.map_nil]
 rcases hh with hh | ⟨n,wd,bp,q⟩
 rotate_left
 ·refine z0h (λ σ G=>False) (λ σ G h=>h.elim) (λ R hR=>?_)
  wp_walk using rRepT,tSeq,tIfS,spcheckedX
  exact .inr ⟨n,wd,bp,q⟩
 obtain ⟨ds,Ss,os,mo,pm,gd,q⟩:=hh
 refine z0h (λ σ G=>∃t ps,Same H G/\G t=some (.tup (ps.map V.ref))/\TpsM G ps Ss/\σ=[some (.ref r),some (.ref t)]) ?_ (λ R hR=>?_)
 rotate_left
 ·wp_walk using rRepT,tSeq,tIfS,spcheckedX
  exact .inl ⟨ds,Ss,os,pm,mo,gd,λ G t ps u h1 h2=>hR _ _ ⟨t,ps,u,h1,h2,rfl⟩⟩
 rintro σ1 G1 ⟨t,ps,s1,h1,h2,rfl⟩
 obtain ⟨st,ot,qs,hr0,hst,sl,hot⟩:=pm
 obtain ⟨hmo,gl,d0,d40,_⟩:=gd
 have ft:=z4c gl hmo
 have dS:=gl.1
 wp_walk using rRepT,tSeq,tIfS,spstepcalls
 refine ⟨_,s1 _ _ hr0,_,z0m (j:=0) rfl,?_⟩
 refine CompZ.mk ds.length (by rw [List.length_map,List.length_map,sl.1,h2.1];omega) (.of (s1 _ _ hst)) (.of h1) (λ i zs σ G=>Same G1 G/\i≤ds.length/\(∃ns:List Int,zs=ns.map V.int/\ns.length≤i/\ns.sum=sumZ (callsI Ss) ds Ss i)/\∃y0 y1,σ=[y0,y1,some (.ref t)]) ⟨Same.refl _,Nat.zero_le _,⟨[],rfl,Nat.zero_le _,rfl⟩,_,_,rfl⟩ (λ i zs σ G hi h=>⟨.of (h.1 _ _ (s1 _ _ hst)),.of (h.1 _ _ h1)⟩) (λ i x y zs σ G T hi ex ey h hT=>?_) (λ zs σ G h p hp=>?_) (λ i zs σ G h=>?_)
 ·obtain ⟨u,hi',⟨ns,rfl,nl,ns1⟩,y0,y1,rfl⟩:=h
  obtain ⟨p,rfl,hp⟩:=y0u ex
  obtain ⟨o,rfl,ho⟩:=y0u ey
  obtain ⟨d,ed,hd⟩:=sl.2 i p hp
  obtain ⟨S,eS,hS⟩:=h2.2 i o ho
  have v:=u.trans (z0b hT (.tup [V.ref p,V.ref o]))
  refine ⟨by rw [List.length_map];exact z1b (by omega),?_⟩
  wp_walk using rRepT,tSeq,tIfS,spstepcalls
  exact ⟨d,hd.same (s1.trans v),S,v _ _ hS,ft S (List.mem_of_getElem? eS),Ss,ps,v _ _ h1,h2.same v,ft,z9f gl ed,λ G' u'=>⟨v.trans u',hi,⟨ns++[callsI Ss d S],by rw [List.map_append];rfl,by rw [List.length_append];exact Nat.succ_le_succ nl,by rw [List.sum_append,ns1,z2m ed eS];simp⟩,_,rfl⟩⟩
 ·obtain ⟨u,hi',⟨ns,rfl,nl,ns1⟩,y0,y1,rfl⟩:=h
  refine ⟨p,rfl,ns,.of z0f,?_⟩
  rw [ns1]
  exact q _ (s1.trans (u.trans (z0b hp _)))
 ·obtain ⟨u,hi',⟨ns,rfl,nl,ns1⟩,y0,y1,rfl⟩:=h
  rw [List.length_map]
  exact z1b (by omega)
abbrev splaincells:Stmt:=top 58
theorem z7v:FnScope ["program", "sides"] ["program"] (defScope splaincells):=⟨rfl,rfl,rfl,by decide +kernel,rfl,by decide +kernel,by decide +kernel⟩
theorem z8g (F:Fun K "plain_cells" "plain_cells" splaincells f fd) {CBadStep:Addr}(nBadStep:W.nsIn K mainGlobals "BadStep" = some (some (.ref CBadStep))) (cchecked:Callee P w K mg base (CX2 P w) (9) "checked" ["program"] (spcheckedX CBadStep)) (camount:Callee P w K mg base CX0 (9) "amount" ["sides"] spamount) (zsum:mg "sum" = none) (zzip:mg "zip" = none):FnOk P w K mg base (CX2 P w) (10) f fd ["program"] ((spplain (λ _=>madeI) CBadStep)):=by
 have sc:=z7v
 refine F.okX2 sc (λ vs H Q E h=>?_) (λ cdv A outer s H vs Q E hr h=>?_)
 ·obtain ⟨r,rfl,_⟩:=h;rfl
 obtain ⟨r,rfl,hh⟩:=h
 refine ⟨_,(z0d (z0x (i:=1) sc.nd rfl (by first | exact Or.inl rfl | exact Or.inr rfl) (z0r cchecked hr (by rfl) y3z (z0a (pv 0) z0c))) (z0g (z0l (z0o (z5n rfl) (by rfl) zsum boot_sum (z0a (z8d (own:=["step", "own"]) rfl (y9m (by rfl) zzip (z0a (z0u z0t (pv 0) z0e (λ _ _=>rfl)) (z0a (pv 1) z0c))) (by decide) (by decide) rfl (by decide) (λ _ _ _ _=>(z9z (n:=2) (y0w rfl (z2p (z1d (i:=0) (show (["step", "own"]:List Str).Nodup by decide +kernel) rfl (Or.inl rfl)) (z2p (z1d (i:=1) (show (["step", "own"]:List Str).Nodup by decide +kernel) rfl (Or.inl rfl)) z6y))))) (λ _ _ _ _=>(z0r camount hr (by rfl) z1h (z0a (pv 1) z0c))) (λ _ _ _ _=>(z0i y0b (z0u z0t (pv 0) z0e (λ _ _=>rfl)) z0p (z0n _)))) z0c))))),?_⟩
 simp only [L2.start,List.length_cons,List.length_nil,List.replicate,List.cons_append,List.nil_append,Nat.reduceSub,Nat.reduceAdd,List.map_cons,List.map_nil]
 rcases hh with hh | ⟨n,wd,bp,q⟩
 rotate_left
 ·refine z0h (λ σ G=>False) (λ σ G h=>h.elim) (λ R hR=>?_)
  wp_walk using rRepT,tSeq,tIfS,spcheckedX
  exact .inr ⟨n,wd,bp,q⟩
 obtain ⟨ds,Ss,os,mo,pm,gd,q⟩:=hh
 refine z0h (λ σ G=>∃t ps,Same H G/\G t=some (.tup (ps.map V.ref))/\TpsM G ps Ss/\σ=[some (.ref r),some (.ref t)]) ?_ (λ R hR=>?_)
 rotate_left
 ·wp_walk using rRepT,tSeq,tIfS,spcheckedX
  exact .inl ⟨ds,Ss,os,pm,mo,gd,λ G t ps u h1 h2=>hR _ _ ⟨t,ps,u,h1,h2,rfl⟩⟩
 rintro σ1 G1 ⟨t,ps,s1,h1,h2,rfl⟩
 obtain ⟨st,ot,qs,hr0,hst,sl,hot⟩:=pm
 obtain ⟨hmo,gl,d0,d40,_⟩:=gd
 have ft:=z4c gl hmo
 have dS:=gl.1
 wp_walk using rRepT,tSeq,tIfS
 refine ⟨_,s1 _ _ hr0,_,z0m (j:=0) rfl,?_⟩
 refine CompZI.mk ds.length (by rw [List.length_map,List.length_map,sl.1,h2.1];omega) (.of (s1 _ _ hst)) (.of h1) (λ i zs σ G=>Same G1 G/\i≤ds.length/\(∃ns:List Int,zs=ns.map V.int/\ns.length≤i/\ns.sum=sumZ madeI ds Ss i)/\∃y0 y1,σ=[y0,y1]) ⟨Same.refl _,Nat.zero_le _,⟨[],rfl,Nat.zero_le _,rfl⟩,_,_,rfl⟩ (λ i zs σ G hi h=>?_) (λ i x y zs σ G T hi ex ey h hT=>?_) (λ zs σ G h p hp=>?_)
 ·obtain ⟨u,hi',⟨ns,rfl,nl,ns1⟩,y0,y1,rfl⟩:=h
  exact ⟨.of (u _ _ (s1 _ _ hst)),.of (u _ _ h1),by rw [List.length_map];exact z1b (by omega)⟩
 ·obtain ⟨u,hi',⟨ns,rfl,nl,ns1⟩,y0,y1,rfl⟩:=h
  obtain ⟨p,rfl,hp⟩:=y0u ex
  obtain ⟨o,rfl,ho⟩:=y0u ey
  obtain ⟨d,ed,hd⟩:=sl.2 i p hp
  obtain ⟨S,eS,hS⟩:=h2.2 i o ho
  obtain ⟨xs,hp',h0,_,_⟩:=z2u hd
  have v:=u.trans (z0b hT (.tup [V.ref p,V.ref o]))
  wp_walk using rRepT,tSeq,tIfS,spamount
  refine ⟨_,(s1.trans v) _ _ hp',_,z0m (j:=0) h0,rfl,?_⟩
  by_cases c:kdN d=0
  ·rw [if_neg (λ z=>z (by rw [c];rfl))]
   exact ⟨v,hi,⟨ns,rfl,by omega,by rw [z2m ed eS,ns1];unfold madeI;rw [if_pos c,Int.add_zero]⟩,_,rfl⟩
  ·rw [if_pos (show ¬V.str (kindS (kdN d))=V.str (Str.ofString "in") from y2m 0 (z2n d) (by decide) c)]
   exact ⟨S,.inr (v _ _ hS),z2z (ft S (List.mem_of_getElem? eS)),v,hi,⟨ns++[prodI S],by rw [List.map_append];rfl,by rw [List.length_append];exact Nat.succ_le_succ nl,by rw [List.sum_append,ns1,z2m ed eS];unfold madeI;rw [if_neg c];simp⟩,_,rfl⟩
 ·obtain ⟨u,hi',⟨ns,rfl,nl,ns1⟩,y0,y1,rfl⟩:=h
  refine ⟨p,rfl,ns,.of z0f,?_⟩
  rw [ns1]
  exact q _ (s1.trans (u.trans (z0b hp _)))
abbrev slawdue:Stmt:=top 75
theorem y6w:FnScope ["steps", "sides", "calls", "made", "k"] ["steps", "sides"] (defScope slawdue):=⟨rfl,rfl,rfl,by decide +kernel,rfl,by decide +kernel,by decide +kernel⟩
theorem y7s (F:Fun K "_law_due" "_law_due" slawdue f fd) (clawsize:Callee P w K mg base CX0 (1) "_law_size" ["sides"] splawsize) (zrange:mg "range" = none) (zlen:mg "len" = none):FnOk P w K mg base CX0 (2) f fd ["steps", "sides"] (spldue):=by
 have sc:=y6w
 refine F.ok sc (λ vs H Q E h=>?_) (λ cdv A outer s H vs Q E hr h=>?_)
 ·obtain ⟨s,l,qs,ps,ds,Ss,mo,rfl,_⟩:=h;rfl
 obtain ⟨s,l,qs,ps,ds,Ss,mo,rfl,hs,sl,hl,ht,hmo,gd,d40,q⟩:=h
 refine ⟨_,(z0d (z0x (i:=2) sc.nd rfl (by first | exact Or.inl rfl | exact Or.inr rfl) z0e) (z0d (z0x (i:=3) sc.nd rfl (by first | exact Or.inl rfl | exact Or.inr rfl) z0e) (z0d (z3g PassesOwn.never rfl (z3a (by rfl) zrange (z0a (z0o z0j (by rfl) zlen PySem.boot_len (z0a (pv 0) z0c)) z0c)) (z1d (i:=4) sc.nd rfl (Or.inl rfl)) (z0d (z0z (z0i y0b (z0u z0t (z0u z0t (pv 0) (pv 4) (λ _ _=>rfl)) z0e (λ _ _=>rfl)) z0p (z0n _)) (z0g (z0x (i:=3) sc.nd rfl (by first | exact Or.inl rfl | exact Or.inr rfl) (z0s z1y (pv 3) (z0r clawsize hr (by rfl) z1h (z0a (z0u z0q (pv 1) (pv 4) (λ _ _=>rfl)) z0c))))) z0k) (z0d (z0z (z0i y9n (z0u z0t (z0u z0t (pv 0) (pv 4) (λ _ _=>rfl)) z0e (λ _ _=>rfl)) (z1w (z0a z0p (z0a z0p (z0a z0p (z0a z0p z0c))))) rfl) (z0g (z0x (i:=2) sc.nd rfl (by first | exact Or.inl rfl | exact Or.inr rfl) (z0s z1y (pv 2) (z0r clawsize hr (by rfl) z1h (z0a (z0u z0q (pv 1) (pv 4) (λ _ _=>rfl)) z0c))))) z0k) (z0g (z0z (z0i y9n (z0u z0t (z0u z0t (pv 0) (pv 4) (λ _ _=>rfl)) z0e (λ _ _=>rfl)) (z1w (z0a z0p (z0a z0p z0c))) rfl) (z0g (z0x (i:=2) sc.nd rfl (by first | exact Or.inl rfl | exact Or.inr rfl) (z0s z1y (pv 2) (z0r clawsize hr (by rfl) z1h (z0a (z0u z0q (pv 1) (z0u z0t (z0u z0t (pv 0) (pv 4) (λ _ _=>rfl)) z0e (λ _ _=>rfl)) (λ _ _=>rfl)) z0c))))) z0k))))) (z0g (z0l (z1w (z0a (pv 2) (z0a (pv 3) z0c)))))))),?_⟩
 simp only [L2.start,List.length_cons,List.length_nil,List.replicate,List.cons_append,List.nil_append,Nat.reduceSub,Nat.reduceAdd,List.map_cons,List.map_nil]
 refine z0h (λ σ G=>G=H/\σ=[some (.ref s),some (.ref l),some (.int 0),none,none]) ?_ (λ R hR=>?_)
 rotate_left
 ·wp_walk using rRepT,tSeq,tIfS
  exact hR _ _ ⟨rfl,rfl⟩
 rintro σ1 G1 ⟨rfl,rfl⟩
 refine z0h (λ σ G=>G=G1/\σ=[some (.ref s),some (.ref l),some (.int 0),some (.int 0),none]) ?_ (λ R hR=>?_)
 rotate_left
 ·wp_walk using rRepT,tSeq,tIfS
  exact hR _ _ ⟨rfl,rfl⟩
 rintro σ2 G2 ⟨rfl,rfl⟩
 refine z0h (λ σ G=>∃y,Same G2 G/\σ=[some (.ref s),some (.ref l),some (.int (sumZ (callsI Ss) ds Ss ds.length)),some (.int (sumZ madeI ds Ss ds.length)),y]) ?_ (λ R hR=>?_)
 rotate_left
 ·wp_walk using rRepT
  refine ⟨_,.inr (.of hs),?_⟩
  rw [List.length_map,sl.1]
  refine ⟨by omega,by omega,?_⟩
  rw [Int.toNat_natCast]
  obtain ⟨J,hJ⟩:∃J:Nat->L2.St->Hp->Prop,J=(λ i σ G=>∃y,Same G2 G/\σ=[some (.ref s),some (.ref l),some (.int (sumZ (callsI Ss) ds Ss i)),some (.int (sumZ madeI ds Ss i)),y]):=⟨_,rfl⟩
  refine LoopR.mk J (by rw [hJ];exact ⟨_,Same.refl _,rfl⟩) (λ k σ G0 hk h=>?_) (λ σ G h=>?_)
  rotate_left
  ·rw [hJ] at h
   obtain ⟨y,u,rfl⟩:=h
   exact hR _ _ ⟨_,u,rfl⟩
  clear hR
  rw [hJ] at h
  obtain ⟨y,u,rfl⟩:=h
  rw [Int.zero_add]
  have kS:k < Ss.length:=by rw [← gd.1];exact hk
  have ft:=z4c gd hmo
  obtain ⟨pk,S,es,eS,hSk⟩:=z2r (ht.same u) kS
  obtain ⟨qk,d,eq,ed,hdk⟩:∃q d,atI (qs.map V.ref) (k:Int)=some (.ref q)/\ds[k]?=some d/\StpAt G0 q d:=by
   have l':k < qs.length:=by rw [sl.1];exact hk
   obtain ⟨d,e,t⟩:=sl.2 k _ (List.getElem?_eq_getElem l')
   exact ⟨_,d,z0m (by rw [List.getElem?_map,List.getElem?_eq_getElem l'];rfl),e,t.same u⟩
  obtain ⟨xs,hp,h0,_,_⟩:=z2u hdk
  have sd:=z2z (ft S (List.mem_of_getElem? eS))
  have al:=z9f gd ed
  simp only [gName,List.set_cons_succ,List.set_cons_zero]
  refine z0h (λ σ G=>G=G0/\σ=[some (.ref s),some (.ref l),some (.int (sumZ (callsI Ss) ds Ss k)),some (.int (sumZ madeI ds Ss (k+1))),some (.int (k:Int))]) ?_ (λ R hR=>?_)
  rotate_left
  ·wp_walk using rRepT,tSeq,tIfS,splawsize
   refine ⟨_,u _ _ hs,_,eq,qk,rfl,_,hp,_,z0m (j:=0) h0,rfl,?_⟩
   by_cases c:kdN d=0
   ·rw [if_neg (λ z=>z (by rw [c];rfl))]
    refine hR _ _ ⟨rfl,?_⟩
    rw [z2m (f:=madeI) ed eS,x5d c,Int.add_zero]
   ·rw [if_pos (show ¬V.str (kindS (kdN d))=V.str (Str.ofString "in") from y2m 0 (z2n d) (by decide) c)]
    refine ⟨_,u _ _ hl,_,es,pk,rfl,S,.inr hSk,sd,hR _ _ ⟨rfl,?_⟩⟩
    rw [z2m (f:=madeI) ed eS,x5c c]
  rintro σa Ga ⟨rfl,rfl⟩
  refine z0h (λ σ G=>∃x:Int,Same Ga G/\(kd4 d->x=sumZ (callsI Ss) ds Ss (k+1))/\(¬kd4 d->x=sumZ (callsI Ss) ds Ss k)/\σ=[some (.ref s),some (.ref l),some (.int x),some (.int (sumZ madeI ds Ss (k+1))),some (.int (k:Int))]) ?_ (λ R hR=>?_)
  rotate_left
  ·wp_walk using rRepT,tSeq,tIfS,splawsize
   refine ⟨_,u _ _ hs,_,eq,qk,rfl,_,hp,_,z0m (j:=0) h0,small (by decide),λ p1 hp1=>⟨rfl,?_⟩⟩
   have v:=z0b hp1 (.lst [V.str (Str.ofString "each"),V.str (Str.ofString "pair"),V.str (Str.ofString "pick"),V.str (Str.ofString "fetch")])
   by_cases c:kd4 d
   ·rw [if_pos ((x4l d).mpr c)]
    refine ⟨_,v _ _ (u _ _ hl),_,es,pk,rfl,S,.inr (v _ _ hSk),sd,hR _ _ ⟨_,v,λ _=>?_,λ z=>absurd c z,rfl⟩⟩
    rw [z2m (f:=callsI Ss) ed eS,y9w c]
   ·rw [if_neg (λ z=>c ((x4l d).mp z))]
    exact hR _ _ ⟨_,v,λ z=>absurd z c,λ _=>rfl,rfl⟩
  rintro σb Gb ⟨x,sb,x1,x2,rfl⟩
  have ub:=u.trans sb
  wp_walk using rRepT,tSeq,tIfS,splawsize
  refine ⟨_,ub _ _ hs,_,eq,qk,rfl,_,sb _ _ hp,_,z0m (j:=0) h0,small (by decide),λ p1 hp1=>⟨rfl,?_⟩⟩
  have v:=z0b hp1 (.lst [V.str (Str.ofString "fold"),V.str (Str.ofString "run")])
  rw [hJ]
  by_cases c:kd2 d
  ·rw [if_pos ((x4m d).mpr c)]
   obtain ⟨w,a,sd',e⟩:=y9x c
   obtain ⟨nm,hp'⟩:=z8s hdk e
   obtain ⟨pa,A,ea,eA,hA⟩:=z2r (ht.same (ub.trans v)) (al a (z8t e))
   have n4:¬kd4 d:=by rcases e with rfl | rfl<;>simp [kd4,kdN]
   refine ⟨_,v _ _ (ub _ _ hs),_,eq,qk,rfl,_,v _ _ (sb _ _ hp'),_,z0m (j:=2) rfl,_,_,rfl,v _ _ (ub _ _ hl),_,ea,pa,rfl,A,.inr hA,z2z (ft A (List.mem_of_getElem? eA)),some (.int (k:Int)),ub.trans v,?_⟩
   rw [x2 n4,z2m (f:=callsI Ss) ed eS,z6j e eA]
  ·rw [if_neg (λ z=>c ((x4m d).mp z))]
   refine ⟨some (.int (k:Int)),ub.trans v,?_⟩
   by_cases c4:kd4 d
   ·rw [x1 c4]
   ·rw [x2 c4,z2m (f:=callsI Ss) ed eS,y9y c4 c,Int.add_zero]
 rintro σ3 G3 ⟨y,s3,rfl⟩
 wp_walk using rRepT,tSeq,tIfS
 exact ⟨small (by decide),λ x hx=>q _ x (s3.trans (z0b hx _)) z0f⟩
abbrev slawrefused:Stmt:=top 76
theorem z7y:FnScope ["way", "program", "told", "e"] ["way", "program"] (defScope slawrefused):=⟨rfl,rfl,rfl,by decide +kernel,rfl,by decide +kernel,by decide +kernel⟩
theorem z8j (F:Fun K "_law_refused" "_law_refused" slawrefused f fd) {CBadStep:Addr}(nBadStep:W.nsIn K mainGlobals "BadStep" = some (some (.ref CBadStep))) {CLoomError:Addr}(nLoomError:W.nsIn K mainGlobals "LoomError" = some (some (.ref CLoomError))) (cplaincalls:Callee P w K mg base (CX2 P w) (10) "plain_calls" ["program"] (spplain callsI CBadStep)) (cplaincells:Callee P w K mg base (CX2 P w) (10) "plain_cells" ["program"] (spplain (λ _=>madeI) CBadStep)) (zisinstance:mg "isinstance" = none) (gBadStep:mg "BadStep" = some (.ref CBadStep)) (xBadStep:clsX K CBadStep [.type "ValueError",.type "Exception",.type "BaseException",.type "object"] "ValueError.__new__" = true) (aBS:AtX K CBadStep) (n1:NoAttr K CBadStep (Str.ofString "at")) (n2:NoAttr K CBadStep (Str.ofString "why")) (n3:NoAttr K CBadStep (Str.ofString "__getattr__")) (ek:ExcK K CBadStep) (ei:W.kitOne K (.ref CBadStep) (.ref CLoomError)=some true):FnOk P w K mg base CX0 (11) f fd ["way", "program"] (splref):=by
 have sc:=z7y
 refine F.ok sc (λ vs H Q E h=>?_) (λ cdv A outer s H vs Q E hr h=>?_)
 ·obtain ⟨y,r,n,wd,rfl,_⟩:=h;rfl
 obtain ⟨y,r,n,wd,rfl,bp,q⟩:=h
 refine ⟨_,(z0d (z0x (i:=2) sc.nd rfl (by first | exact Or.inl rfl | exact Or.inr rfl) (z1w (z0a z4i z0c))) (z0d (x0o (i:=3) ⟨rfl,rfl⟩ rfl sc.nd rfl rfl (by rfl) gBadStep xBadStep (by decide) (λ xe pn EE hx=>(z0g (z0z (z0i z1f (pv 0) z0e (z0n _)) (z0g (z1r (y0a cplaincalls hr (by rfl) hx (z0a (pv 1) z0c)))) (z0g (z1r (y0a cplaincells hr (by rfl) hx (z0a (pv 1) z0c))))))) (λ ae pn=>(z0g (z0x (i:=2) sc.nd rfl (by first | exact Or.inl rfl | exact Or.inr rfl) (z1w (z0a (z0o (y6j ek ei) (by rfl) zisinstance boot_isinstance (z0a (pv 3) (z0a (x2y (by rfl) nLoomError) z0c))) (z0a (y0x (K:=K) rfl (pv 3) (by rfl)) (z0a (y0x (K:=K) rfl (pv 3) (by rfl)) z0c)))))))) (z0g (z0l (pv 2))))),?_⟩
 simp only [L2.start,List.length_cons,List.length_nil,List.replicate,List.cons_append,List.nil_append,Nat.reduceSub,Nat.reduceAdd,List.map_cons,List.map_nil]
 refine z0h (λ σ G=>∃l,Same H G/\G l=some (.lst [.bl false])/\σ=[some (.int y),some (.ref r),some (.ref l),none]) ?_ (λ R hR=>?_)
 rotate_left
 ·wp_walk using rRepT,tSeq,tIfS
  exact ⟨small (by decide),λ l hl=>hR _ _ ⟨l,z0b hl _,z0f,rfl⟩⟩
 rintro σ1 G1 ⟨l,s1,h1,rfl⟩
 refine z0h (λ σ G=>∃l,Same H G/\G l=some (.lst [.bl true,.int (n:Int),.str wd])/\σ=[some (.int y),some (.ref r),some (.ref l),none]) ?_ (λ R hR=>?_)
 rotate_left
 ·wp_walk using rRepT,tSeq,tIfS,spplain
  have key:∀(H':Hp) (dx:Addr),Same G1 H'->H' dx=some (ExcF dx (ErrF (.int (n:Int)) (.str wd)))->∀(a:Addr),H' a=none->dx≠a/\upd H' a (ExcD a CBadStep dx) dx=some (ExcF dx (ErrF (.int (n:Int)) (.str wd))):=λ H' dx u e a ha=>by
   have na:dx≠a:=λ z=>by rw [z,ha] at e;cases e
   exact ⟨na,by rw [z1a na];exact e⟩
  split
  all_goals exact .inr ⟨n,wd,bp.same s1,λ H' dx u e a ha=>⟨dx,rfl,CBadStep,dx,rfl,_,(key H' dx u e a ha).2,aBS,n1,n3,_,rfl,CBadStep,dx,rfl,_,(key H' dx u e a ha).2,aBS,n2,n3,_,rfl,small (by decide),λ p hp=>hR _ _ ⟨p,s1.trans (u.trans ((z0b ha _).trans (z0b hp _))),z0f,rfl⟩⟩⟩
 rintro σ2 G2 ⟨l2,s2,h2,rfl⟩
 wp_walk using rRepT,tSeq,tIfS
 exact q _ _ s2 h2
abbrev slawfine:Stmt:=top 77
theorem y3f:FnScope ["cells", "most", "steps", "outs", "sides", "found", "way"] ["cells", "most"] (defScope slawfine):=⟨rfl,rfl,rfl,by decide +kernel,rfl,by decide +kernel,by decide +kernel⟩
theorem y4o (F:Fun K "_law_fine" "_law_fine" slawfine f fd) (clawprogram:Callee P w K mg base CX0 (11) "_law_program" ["cells", "most"] splprogram) (cplaincalls:Callee P w K mg base (CX2 P w) (11) "plain_calls" ["program"] (spplain callsI CBadStep)) (cplaincells:Callee P w K mg base (CX2 P w) (11) "plain_cells" ["program"] (spplain (λ _=>madeI) CBadStep)) (clawdue:Callee P w K mg base CX0 (11) "_law_due" ["steps", "sides"] spldue) (clawwhole:Callee P w K mg base CX0 (11) "_law_whole" ["found"] splawwhole) (clawrefused:Callee P w K mg base CX0 (11) "_law_refused" ["way", "program"] splref) (zlen:mg "len" = none):FnOk P w K mg base CX0 (12) f fd ["cells", "most"] (splfine):=by
 have sc:=y3f
 refine F.ok sc (λ vs H Q E h=>?_) (λ cdv A outer s H vs Q E hr h=>?_)
 ·obtain ⟨ca,cs,mo,rfl,_⟩:=h;rfl
 obtain ⟨ca,cs,mo,rfl,hc,c16,hmo,q⟩:=h
 refine ⟨_,(z0d (y9l (z0r clawprogram hr (by rfl) z1h (z0a (pv 0) (z0a (pv 1) z0c))) (z9z (n:=3) (y0w rfl (z2p (z1d (i:=2) sc.nd rfl (Or.inl rfl)) (z2p (z1d (i:=3) sc.nd rfl (Or.inl rfl)) (z2p (z1d (i:=4) sc.nd rfl (Or.inl rfl)) z6y)))))) (z0d (z0x (i:=5) sc.nd rfl (by first | exact Or.inl rfl | exact Or.inr rfl) (z1w (z0a (z0r cplaincalls hr (by rfl) y4a (z3o (z0w (z0a (pv 2) (z0a (pv 3) z0c))) z0c)) (z0a (z0r cplaincells hr (by rfl) y4a (z3o (z0w (z0a (pv 2) (z0a (pv 3) z0c))) z0c)) z0c)))) (z0d (z0z (PW.pt (z5b (y0v (z5d (z0r clawwhole hr (by rfl) z1h (z0a (z0u z0q (pv 5) z0e (λ _ _=>rfl)) z0c)))) (z5b (y0v (z5d (z0r clawwhole hr (by rfl) z1h (z0a (z0u z0q (pv 5) z0e (λ _ _=>rfl)) z0c)))) (z3u (z0i (z6h hr.units0) (pv 5) (z0r clawdue hr (by rfl) z1h (z0a (pv 2) (z0a (pv 4) z0c))) (z0n _)))))) (z0g (z0l z4i)) z0k) (z0d (z3g PassesOwn.never rfl (z2s (z1w (z0a z0e (z0a z0e z0c)))) (z1d (i:=6) sc.nd rfl (Or.inl rfl)) (z0d (z0z (z0i (z6h hr.units0) (z0r clawrefused hr (by rfl) z1h (z0a (pv 6) (z3o (z0w (z0a (pv 2) (z3o (z0w z0c) z0c))) z0c))) (z1w (z0a z4i (z0a (z0o z0j (by rfl) zlen PySem.boot_len (z0a (pv 2) z0c)) (z0a z0p z0c)))) (z0n _)) (z0g (z0l z4i)) z0k) (z0d (z0z (z0i (z6h hr.units0) (z0r clawrefused hr (by rfl) z1h (z0a (pv 6) (z3o (z0w (z0a (z0s z1s (pv 2) (z0w (z3o (z0w (z0a z0p (z0a (z0o z0j (by rfl) zlen PySem.boot_len (z0a (pv 2) z0c)) (z0a z0e z0c)))) z0c))) (z0a (pv 3) z0c))) z0c))) (z1w (z0a z4i (z0a (z0o z0j (by rfl) zlen PySem.boot_len (z0a (pv 2) z0c)) (z0a z0p z0c)))) (z0n _)) (z0g (z0l z4i)) z0k) (z0d (z0z (z0i (z6h hr.units0) (z0r clawrefused hr (by rfl) z1h (z0a (pv 6) (z3o (z0w (z0a (z0s z1s (pv 2) (z0w (z3o (z0w (z0a z0p (z0a z0p (z0a z0e z0c)))) z0c))) (z0a (pv 3) z0c))) z0c))) (z1w (z0a z4i (z0a (z0o z0j (by rfl) zlen PySem.boot_len (z0a (pv 2) z0c)) (z0a z0p z0c)))) (z0n _)) (z0g (z0l z4i)) z0k) (z0g (z0z (z0i (z6h hr.units0) (z0r clawrefused hr (by rfl) z1h (z0a (pv 6) (z3o (z0w (z0a (z0s z1s (pv 2) (z0s x0y (z0w (z3o (z0w (z0a z0p (z0a z0e z0c))) z0c)) (z0s z3b z0e (z0o z0j (by rfl) zlen PySem.boot_len (z0a (pv 2) z0c))))) (z0a (pv 3) z0c))) z0c))) (z1w (z0a z4i (z0a z0e (z0a z0p z0c)))) (z0n _)) (z0g (z0l z4i)) z0k)))))) (z0g (z0l z4i)))))),?_⟩
 simp only [L2.start,List.length_cons,List.length_nil,List.replicate,List.cons_append,List.nil_append,Nat.reduceSub,Nat.reduceAdd,List.map_cons,List.map_nil]
 refine z0h (λ σ G=>∃(st ot sl:Addr) (qs ps:List Addr) (ds:List Stp) (Ss:List (List Int)) (os:List Int),Same H G/\G st=some (.tup (qs.map V.ref))/\StL G qs ds/\G ot=some (.tup (os.map V.int))/\G sl=some (.lst (ps.map V.ref))/\TpsM G ps Ss/\GoodL mo ds Ss/\0 < ds.length/\ds.length≤16/\0 < os.length/\os.length≤8/\(∀o∈os,0≤o/\o < (ds.length:Int))/\σ=[some (.ref ca),some (.int mo),some (.ref st),some (.ref ot),some (.ref sl),none,none]) ?_ (λ R hR=>?_)
 rotate_left
 ·wp_walk using rRepT,tSeq,tIfS,splprogram
  refine ⟨cs,hc,by omega,hmo,λ G r ds Ss os u pr dm=>?_⟩
  obtain ⟨st,ot,sl,qs,ps,hr0,h1,h3,hot,h2,h4,h5,d0,d40,o0,o8,ob⟩:=pr
  exact ⟨_,hr0,rfl,_,_,rfl,_,_,rfl,_,_,rfl,rfl,hR _ _ ⟨st,ot,sl,qs,ps,ds,Ss,os,u,h1,h3,hot,h2,h4,h5,d0,by omega,o0,o8,ob,rfl⟩⟩
 rintro σ1 G1 ⟨st,ot,sl,qs,ps,ds,Ss,os,s1,h1,h3,hot,h2,h4,h5,d0,d16,o0,o8,ob,rfl⟩
 have gO:GoodO mo ds Ss os:=⟨hmo,h5,d0,by omega,o0,o8,ob⟩
 refine z0h (λ σ G=>∃fo,Same G1 G/\G fo=some (.lst [.int (sumZ (callsI Ss) ds Ss ds.length),.int (sumZ madeI ds Ss ds.length)])/\σ=[some (.ref ca),some (.int mo),some (.ref st),some (.ref ot),some (.ref sl),some (.ref fo),none]) ?_ (λ R hR=>?_)
 rotate_left
 ·wp_walk using rRepT,tSeq,tIfS,spplain
  refine ⟨small (by decide),λ p hp=>.inl ⟨ds,Ss,os,⟨st,ot,qs,z0f,z0b hp _ _ _ h1,h3.up (z2i (z0b hp _)),z0b hp _ _ _ hot⟩,mo,gO,λ G u=>?_⟩⟩
  have v:=(z0b hp (.tup [V.ref st,V.ref ot])).trans u
  refine ⟨small (by decide),λ p2 hp2=>.inl ⟨ds,Ss,os,⟨st,ot,qs,z0f,z0b hp2 _ _ _ (v _ _ h1),h3.up (z2i (v.trans (z0b hp2 _))),z0b hp2 _ _ _ (v _ _ hot)⟩,mo,gO,λ G' u'=>⟨small (by decide),λ p3 hp3=>hR _ _ ⟨p3,v.trans ((z0b hp2 _).trans (u'.trans (z0b hp3 _))),z0f,rfl⟩⟩⟩⟩
 rintro σ2 G2 ⟨fo,s2,hfo,rfl⟩
 refine z0h (λ σ G=>Same G2 G/\σ=[some (.ref ca),some (.int mo),some (.ref st),some (.ref ot),some (.ref sl),some (.ref fo),none]) ?_ (λ R hR=>?_)
 rotate_left
 ·wp_walk using rRepT,tSeq,tIfS,splawwhole,spldue
  refine ⟨_,hfo,_,z0m (j:=0) rfl,_,rfl,_,hfo,_,z0m (j:=1) rfl,_,rfl,qs,s2 _ _ h1,ps,ds,h3.up (z2i s2),s2 _ _ h2,Ss,h4.same s2,mo,hmo,h5,by omega,λ G x u hx=>⟨_,.of (u _ _ hfo),_,.of hx,rfl,rfl,?_⟩⟩
  rw [eq2,if_neg (by decide)]
  exact hR _ _ ⟨u,rfl⟩
 rintro σ3 G3 ⟨s3,rfl⟩
 have t3:=s2.trans s3
 refine z0h (λ σ G=>Same G3 G) ?_ (λ R hR=>?_)
 rotate_left
 ·wp_walk using rRepT
  refine ⟨small (by decide),λ li hli=>?_⟩
  have tl:=t3.trans (z0b hli (.lst [V.int 0,V.int 1]))
  obtain ⟨J,hJ⟩:∃J:Nat->L2.St->Hp->Prop,J=(λ i σ G=>∃y,Same (upd G3 li (.lst [V.int 0,V.int 1])) G/\σ=[some (.ref ca),some (.int mo),some (.ref st),some (.ref ot),some (.ref sl),some (.ref fo),y]):=⟨_,rfl⟩
  refine LoopL.mk (xs:=[V.int 0,V.int 1]) (.of z0f) J (by rw [hJ];exact ⟨_,Same.refl _,rfl⟩) (λ i σ G _ h=>by rw [hJ] at h;obtain ⟨_,u,_⟩:=h;exact .of (u _ _ z0f)) (λ i x σ G0 e h=>?_) (λ σ G h=>by rw [hJ] at h;obtain ⟨_,u,_⟩:=h;exact hR _ _ ((z0b hli _).trans u))
  clear hR
  rw [hJ] at h
  obtain ⟨y,u0,rfl⟩:=h
  obtain ⟨wy,rfl⟩:∃wy:Int,x=.int wy:=by
   rcases List.mem_cons.mp (List.mem_of_getElem? e) with z | z
   ·exact ⟨_,z⟩
   ·exact ⟨_,List.mem_singleton.mp z⟩
  have ua:=tl.trans u0
  simp only [gName,List.set_cons_succ,List.set_cons_zero]
  refine z0h (λ σ G=>Same G0 G/\σ=[some (.ref ca),some (.int mo),some (.ref st),some (.ref ot),some (.ref sl),some (.ref fo),some (.int wy)]) ?_ (λ R hR=>?_)
  rotate_left
  ·wp_walk using rRepT,tSeq,tIfS,splref
   refine ⟨small (by decide),λ p hp=>⟨small (by decide),λ p1 hp1=>?_⟩⟩
   have v:=(z0b hp (.tup [])).trans (z0b hp1 (.tup [V.ref st,V.ref p]))
   have w0:=ua.trans v
   refine ⟨ds.length,_,x4h hmo h5 (by omega) z0f (w0 _ _ h1) (h3.up (z2i w0)) (z0b hp1 _ _ _ z0f),λ G' l u hl=>⟨_,.inr (.of ((w0.trans u) _ _ h1)),small (by decide),λ p2 hp2=>⟨_,.of (z0b hp2 _ _ _ hl),_,.of z0f,rfl,rfl,?_⟩⟩⟩
   rw [List.length_map,h3.1,eq3,if_neg (by decide)]
   exact hR _ _ ⟨v.trans (u.trans (z0b hp2 _)),rfl⟩
  rintro σa Ga ⟨sa,rfl⟩
  have wa:=ua.trans sa
  refine z0h (λ σ G=>Same Ga G/\σ=[some (.ref ca),some (.int mo),some (.ref st),some (.ref ot),some (.ref sl),some (.ref fo),some (.int wy)]) ?_ (λ R hR=>?_)
  rotate_left
  ·wp_walk using rRepT,tSeq,tIfS,splref
   refine ⟨_,.inr (.of (wa _ _ h1)),?_⟩
   rw [List.length_map,h3.1]
   refine ⟨small (by decide),λ p hp=>⟨small (by decide),λ p1 hp1=>?_⟩⟩
   have v:=(z0b hp (.tup [V.str (Str.ofString "flip"),V.int (ds.length:Int),V.int 0])).trans (z0b hp1 (.tup [V.ref p]))
   have w0:=wa.trans v
   refine ⟨_,w0 _ _ h1,small (by rw [List.length_map,h3.1];omega),λ r H' u hr'=>⟨small (by decide),λ p2 hp2=>?_⟩⟩
   have w1:=w0.trans (u.trans (z0b hp2 (.tup [V.ref r,V.ref ot])))
   have hpd:upd H' p2 (.tup [V.ref r,V.ref ot]) p=some (.tup [V.str (Str.ofString "flip"),V.int (ds.length:Int),V.int 0]):=z0b hp2 _ _ _ (u _ _ (z0b hp1 _ _ _ z0f))
   refine ⟨ds.length,_,y9z (d:=.flip ds.length 0) hmo h5 (by omega) z0f (z0b hp2 _ _ _ hr') (h3.up (z2i w1)) hpd (w1 _ _ hot) (.inr (.inl ⟨by rw [← h5.1];omega,⟨ds.length,rfl,Nat.le_of_eq h5.1.symm⟩,rfl⟩)),λ G' l u' hl=>⟨_,.inr (.of ((w1.trans u') _ _ h1)),small (by decide),λ p3 hp3=>⟨_,.of (z0b hp3 _ _ _ hl),_,.of z0f,rfl,rfl,?_⟩⟩⟩
   rw [List.length_map,h3.1,eq3,if_neg (by decide)]
   exact hR _ _ ⟨v.trans (u.trans ((z0b hp2 _).trans (u'.trans (z0b hp3 _)))),rfl⟩
  rintro σb Gb ⟨sb,rfl⟩
  have wb:=wa.trans sb
  refine z0h (λ σ G=>Same Gb G/\σ=[some (.ref ca),some (.int mo),some (.ref st),some (.ref ot),some (.ref sl),some (.ref fo),some (.int wy)]) ?_ (λ R hR=>?_)
  rotate_left
  ·wp_walk using rRepT,tSeq,tIfS,splref
   refine ⟨small (by decide),λ p hp=>⟨small (by decide),λ p1 hp1=>?_⟩⟩
   have v:=(z0b hp (.tup [V.str (Str.ofString "each"),V.str (Str.ofString "nought"),V.int 0])).trans (z0b hp1 (.tup [V.ref p]))
   have w0:=wb.trans v
   refine ⟨_,w0 _ _ h1,small (by rw [List.length_map,h3.1];omega),λ r H' u hr'=>⟨small (by decide),λ p2 hp2=>?_⟩⟩
   have w1:=w0.trans (u.trans (z0b hp2 (.tup [V.ref r,V.ref ot])))
   have hpd:upd H' p2 (.tup [V.ref r,V.ref ot]) p=some (.tup [V.str (Str.ofString "each"),V.str (Str.ofString "nought"),V.int 0]):=z0b hp2 _ _ _ (u _ _ (z0b hp1 _ _ _ z0f))
   refine ⟨ds.length,_,y9z (d:=.each (Str.ofString "nought") 0) hmo h5 (by omega) z0f (z0b hp2 _ _ _ hr') (h3.up (z2i w1)) hpd (w1 _ _ hot) (.inr (.inr ⟨by rw [← h5.1];omega,⟨0,rfl⟩,(λ a ha=>by cases List.mem_singleton.mp ha;rw [← h5.1];exact d0),rfl⟩)),λ G' l u' hl=>⟨_,.inr (.of ((w1.trans u') _ _ h1)),small (by decide),λ p3 hp3=>⟨_,.of (z0b hp3 _ _ _ hl),_,.of z0f,rfl,rfl,?_⟩⟩⟩
   rw [List.length_map,h3.1,eq3,if_neg (by decide)]
   exact hR _ _ ⟨v.trans (u.trans ((z0b hp2 _).trans (u'.trans (z0b hp3 _)))),rfl⟩
  rintro σc Gc ⟨sc',rfl⟩
  have wc:=wb.trans sc'
  wp_walk using tSeq,tIfS,splref
  refine ⟨small (by decide),λ p hp=>⟨small (by decide),λ p1 hp1=>?_⟩⟩
  have v:=(z0b hp (.tup [V.str (Str.ofString "num"),V.int 1])).trans (z0b hp1 (.tup [V.ref p]))
  have w0:=wc.trans v
  refine ⟨_,.inr (.of (w0 _ _ h1)),?_⟩
  rw [List.length_map,h3.1,show (41 - (ds.length:Int))=((40 - ds.length+1:Nat):Int) from by omega]
  refine x4v (d:=p) z0f (by omega) λ r0 H0 v0 hr0=>⟨r0,rfl,_,(w0.trans v0) _ _ h1,_,hr0,small (by rw [List.length_map,List.length_map,List.length_replicate,h3.1];omega),λ r H' u hr'=>⟨small (by decide),λ p2 hp2=>?_⟩⟩
  have w1:=w0.trans (v0.trans (u.trans (z0b hp2 (.tup [V.ref r,V.ref ot]))))
  have hpd:upd H' p2 (.tup [V.ref r,V.ref ot]) p=some (.tup [V.str (Str.ofString "num"),V.int 1]):=z0b hp2 _ _ _ (u _ _ (v0 _ _ (z0b hp1 _ _ _ z0f)))
  refine ⟨40,_,x2a hmo h5 (n:=40 - ds.length) (by omega) z0f (z0b hp2 _ _ _ hr') (h3.up (z2i w1)) hpd (w1 _ _ hot),λ G' l u' hl=>⟨small (by decide),λ p3 hp3=>⟨_,.of (z0b hp3 _ _ _ hl),_,.of z0f,rfl,rfl,?_⟩⟩⟩
  rw [show ((40:Nat):Int)=40 from rfl,eq3,if_neg (by decide),hJ]
  exact ⟨_,u0.trans (sa.trans (sb.trans (sc'.trans (v.trans (v0.trans (u.trans ((z0b hp2 _).trans (u'.trans (z0b hp3 _))))))))),rfl⟩
 rintro σ4 G4 s4
 wp_walk using rRepT,tSeq,tIfS
 exact q _ (s1.trans (t3.trans s4))
abbrev slaw:Stmt:=top 78
def splaw:W.Frag->Sp:=λ K=>λ vs H Q _=>∃(a:Addr) (ns:List Int),vs=[.ref a]/\SqL K H a (ns.map V.int)/\ns.length≤63/\∀H',Q (.bl true) H'
theorem x4u:FnScope ["script", "most", "k"] ["script"] (defScope slaw):=⟨rfl,rfl,rfl,by decide +kernel,rfl,by decide +kernel,by decide +kernel⟩
theorem x4y (F:Fun K "law" "law" slaw f fd) (clawfine:Callee P w K mg base CX0 (12) "_law_fine" ["cells", "most"] splfine) (zlen:mg "len" = none) (zrange:mg "range" = none):FnOk P w K mg base CX0 (13) f fd ["script"] (splaw K):=by
 have sc:=x4u
 refine F.ok sc (λ vs H Q E h=>?_) (λ cdv A outer s H vs Q E hr h=>?_)
 ·obtain ⟨a,ns,rfl,_⟩:=h;rfl
 obtain ⟨a,ns,rfl,hS,h63,q⟩:=h
 refine ⟨_,(z0d (z0x (i:=1) sc.nd rfl (by first | exact Or.inl rfl | exact Or.inr rfl) z0e) (z0d (z0z (z0i z4q (z0o z0j (by rfl) zlen PySem.boot_len (z0a (pv 0) z0c)) z0e (z0n _)) (z0g (z0x (i:=1) sc.nd rfl (by first | exact Or.inl rfl | exact Or.inr rfl) (z0u z0q (z1w (z0a z0e (z0a z0e (z0a z0e (z0a z0e z0c))))) (z0s z1x (z0u y0o (pv 0) z0e (λ _ _=>rfl)) z0e) (λ _ _=>rfl)))) z0k) (z0d (z3g PassesOwn.never rfl (y3v (by rfl) zrange (z0a z0e (z0a z0e (z0a z0e z0c)))) (z1d (i:=2) sc.nd rfl (Or.inl rfl)) (z0g (z0z (y0v (z5d (z0r clawfine hr (by rfl) z1h (z0a (z1i x0f (pv 0) (z1k (pv 2)) (z1k (z0s z1y (pv 2) z0e))) (z0a (pv 1) z0c))))) (z0g (z0l z4i)) z0k))) (z0g (z0l z4i))))),?_⟩
 simp only [L2.start,List.length_cons,List.length_nil,List.replicate,List.cons_append,List.nil_append,Nat.reduceSub,Nat.reduceAdd,List.map_cons,List.map_nil]
 refine z0h (λ σ G=>G=H/\σ=[some (.ref a),some (.int 512),none]) ?_ (λ R hR=>?_)
 rotate_left
 ·wp_walk using rRepT,tSeq,tIfS
  exact hR _ _ ⟨rfl,rfl⟩
 rintro σ1 G1 ⟨rfl,rfl⟩
 refine z0h (λ σ G=>∃mo:Int,Same G1 G/\moOk mo/\σ=[some (.ref a),some (.int mo),none]) ?_ (λ R hR=>?_)
 rotate_left
 ·wp_walk using rRepT,tSeq,tIfS
  refine ⟨_,.inl hS,?_⟩
  rw [z0v]
  split
  ·rename_i c
   refine ⟨small (by decide),λ p hp=>⟨_,(z0b hp _).seq hS,?_⟩⟩
   obtain ⟨n0,r,rfl⟩:∃n0 r,ns=n0::r:=by
    cases ns with
    | nil=>exact absurd c (by simp)
    | cons n0 r=>exact ⟨n0,r,rfl⟩
   obtain ⟨x,hx,mx⟩:=x1n (n0 % 4) (by omega) (by omega)
   exact ⟨_,z0m (j:=0) rfl,n0,rfl,_,hx,hR _ _ ⟨x,z0b hp _,mx,rfl⟩⟩
  ·exact hR _ _ ⟨512,Same.refl _,⟨by decide,by decide⟩,rfl⟩
 rintro σ2 G2 ⟨mo,s2,hmo,rfl⟩
 refine z0h (λ σ G=>True) ?_ (λ R hR=>?_)
 rotate_left
 ·wp_walk using rRepT,tSeq,tIfS
  refine ⟨by decide,by decide,by decide,?_⟩
  refine LoopS.mk (λ i σ G=>Same G2 G/\∃y,σ=[some (.ref a),some (.int mo),y]) ⟨Same.refl _,_,rfl⟩ (λ i σ G hi h=>?_) (λ σ G h=>hR _ _ trivial)
  obtain ⟨u,y,rfl⟩:=h
  rw [Int.zero_add,show ((i:Int) * 16)=((i * 16:Nat):Int) from by omega]
  wp_walk using rRepT,tSeq,tIfS,splfine,rSlL
  obtain ⟨ms,e8,m8⟩:=x5i ns (i * 16)
  refine ⟨_,(s2.trans u).seq hS,λ p hp=>?_⟩
  rw [e8]
  exact ⟨ms,rfl,m8,hmo,λ G' u'=>⟨u.trans ((z0b hp _).trans u'),_,rfl⟩⟩
 rintro σ3 G3 _
 wp_walk using rRepT,tSeq,tIfS
 exact q _
theorem z1t {α:Type}{us:List α}(h:us.length=1):∃x0,us=[x0]:=by
 match us,h with
 | [x0],_=>exact ⟨_,rfl⟩
theorem z1n {α:Type}{us:List α}(h:us.length=2):∃x0 x1,us=[x0,x1]:=by
 match us,h with
 | [x0,x1],_=>exact ⟨_,_,rfl⟩
theorem z2x {α:Type}{us:List α}(h:us.length=3):∃x0 x1 x2,us=[x0,x1,x2]:=by
 match us,h with
 | [x0,x1,x2],_=>exact ⟨_,_,_,rfl⟩
theorem z9i {α:Type}{us:List α}(h:us.length=4):∃x0 x1 x2 x3,us=[x0,x1,x2,x3]:=by
 match us,h with
 | [x0,x1,x2,x3],_=>exact ⟨_,_,_,_,rfl⟩
theorem y2s {α:Type}{us:List α}(h:us.length=5):∃x0 x1 x2 x3 x4,us=[x0,x1,x2,x3,x4]:=by
 match us,h with
 | [x0,x1,x2,x3,x4],_=>exact ⟨_,_,_,_,_,rfl⟩
theorem all_mk {l:W.OpenLaw}{w:World}{K:W.Frag}{h:Heap}{mg:Str->Option Value}{fa f0 f1 f2 f3 f4 f5 f6 f7 f8 f9 f10 f11 f12 f13 f14 f15 f16 f17 f18 f19 f20 f21 f22 f23 f24 f25 f26 f27 f28 f29 f30 f31 f32 f33 f34 f35 f36 f37 f38 f39 f40 f41 f42 f43 f44 f45 f46 f47 f48 f49 f50 f51 f52 f53 f54 f55:Addr}(X:K.In h) (G:h.Ns mainGlobals mg) (hfa:mg "law" = some (.ref fa))
  {od0 an0 od1 an1 od2 an2 od3 an3 od4 an4 od5 an5 od6 an6 od7 an7 od8 an8 od9 an9 od10 an10 od11 an11 od12 an12 od13 an13 od14 an14 od15 an15 od16 an16 od17 an17 od18 an18 od19 an19 od20 an20 od21 an21 od22 an22 od23 an23 od24 an24 od25 an25 od26 an26 od27 an27 od28 an28 od29 an29 od30 an30 od31 an31 od32 an32 od33 an33 od34 an34 od35 an35 od36 an36 od37 an37 od38 an38 od39 an39 od40 an40 od41 an41 od42 an42 od43 an43 od44 an44 od45 an45 od46 an46 od47 an47 od48 an48 od49 an49 od50 an50 od51 an51 od52 an52 od53 an53 od54 an54 od55 an55:Option Addr}{sl0 sl1 sl2 sl3 sl4 sl5 sl6 sl7 sl8 sl9 sl10 sl11 sl12 sl13 sl14 sl15 sl16 sl17 sl18 sl19 sl20 sl21 sl22 sl23 sl24 sl25 sl26 sl27 sl28 sl29 sl30 sl31 sl32 sl33 sl34 sl35 sl36 sl37 sl38 sl39 sl40 sl41 sl42 sl43 sl44 sl45 sl46 sl47 sl48 sl49 sl50 sl51 sl52 sl53 sl54 sl55:Array (Option Value)}{oc0 kV0 dc0 pm0 ct0 cd0 oc1 kV1 dc1 pm1 ct1 cd1 oc2 kV2 dc2 pm2 ct2 cd2 oc3 kV3 dc3 pm3 ct3 cd3 oc4 kV4 dc4 pm4 ct4 cd4 oc5 kV5 dc5 pm5 ct5 cd5 oc6 kV6 dc6 pm6 ct6 cd6 oc7 kV7 dc7 pm7 ct7 cd7 oc8 kV8 dc8 pm8 ct8 cd8 oc9 kV9 dc9 pm9 ct9 cd9 oc10 kV10 dc10 pm10 ct10 cd10 oc11 kV11 dc11 pm11 ct11 cd11 oc12 kV12 dc12 pm12 ct12 cd12 oc13 kV13 dc13 pm13 ct13 cd13 oc14 kV14 dc14 pm14 ct14 cd14 oc15 kV15 dc15 pm15 ct15 cd15 oc16 kV16 dc16 pm16 ct16 cd16 oc17 kV17 dc17 pm17 ct17 cd17 oc18 kV18 dc18 pm18 ct18 cd18 oc19 kV19 dc19 pm19 ct19 cd19 oc20 kV20 dc20 pm20 ct20 cd20 oc21 kV21 dc21 pm21 ct21 cd21 oc22 kV22 dc22 pm22 ct22 cd22 oc23 kV23 dc23 pm23 ct23 cd23 oc24 kV24 dc24 pm24 ct24 cd24 oc25 kV25 dc25 pm25 ct25 cd25 oc26 kV26 dc26 pm26 ct26 cd26 oc27 kV27 dc27 pm27 ct27 cd27 oc28 kV28 dc28 pm28 ct28 cd28 oc29 kV29 dc29 pm29 ct29 cd29 oc30 kV30 dc30 pm30 ct30 cd30 oc31 kV31 dc31 pm31 ct31 cd31 oc32 kV32 dc32 pm32 ct32 cd32 oc33 kV33 dc33 pm33 ct33 cd33 oc34 kV34 dc34 pm34 ct34 cd34 oc35 kV35 dc35 pm35 ct35 cd35 oc36 kV36 dc36 pm36 ct36 cd36 oc37 kV37 dc37 pm37 ct37 cd37 oc38 kV38 dc38 pm38 ct38 cd38 oc39 kV39 dc39 pm39 ct39 cd39 oc40 kV40 dc40 pm40 ct40 cd40 oc41 kV41 dc41 pm41 ct41 cd41 oc42 kV42 dc42 pm42 ct42 cd42 oc43 kV43 dc43 pm43 ct43 cd43 oc44 kV44 dc44 pm44 ct44 cd44 oc45 kV45 dc45 pm45 ct45 cd45 oc46 kV46 dc46 pm46 ct46 cd46 oc47 kV47 dc47 pm47 ct47 cd47 oc48 kV48 dc48 pm48 ct48 cd48 oc49 kV49 dc49 pm49 ct49 cd49 oc50 kV50 dc50 pm50 ct50 cd50 oc51 kV51 dc51 pm51 ct51 cd51 oc52 kV52 dc52 pm52 ct52 cd52 oc53 kV53 dc53 pm53 ct53 cd53 oc54 kV54 dc54 pm54 ct54 cd54 oc55 kV55 dc55 pm55 ct55 cd55:Value}
  (a0:W.nsIn K mainGlobals "_law_number" = some (some (.ref f0))) (l0:K.lookup f0=some ⟨oc0,od0,.func (W.fnOf "_law_number" "_law_number" (defArgs slawnumber) (defBody slawnumber) (defScope slawnumber) .none kV0 dc0 pm0 an0 cd0 ct0),sl0⟩) (q0:W.codeIn K cd0 "_law_number" = true) (k0:W.keepIn K (.ref f0)=true)
  (a1:W.nsIn K mainGlobals "_law_size" = some (some (.ref f1))) (l1:K.lookup f1=some ⟨oc1,od1,.func (W.fnOf "_law_size" "_law_size" (defArgs slawsize) (defBody slawsize) (defScope slawsize) .none kV1 dc1 pm1 an1 cd1 ct1),sl1⟩) (q1:W.codeIn K cd1 "_law_size" = true) (k1:W.keepIn K (.ref f1)=true)
  (a2:W.nsIn K mainGlobals "_law_wide" = some (some (.ref f2))) (l2:K.lookup f2=some ⟨oc2,od2,.func (W.fnOf "_law_wide" "_law_wide" (defArgs slawwide) (defBody slawwide) (defScope slawwide) .none kV2 dc2 pm2 an2 cd2 ct2),sl2⟩) (q2:W.codeIn K cd2 "_law_wide" = true) (k2:W.keepIn K (.ref f2)=true)
  (a3:W.nsIn K mainGlobals "_law_recent" = some (some (.ref f3))) (l3:K.lookup f3=some ⟨oc3,od3,.func (W.fnOf "_law_recent" "_law_recent" (defArgs slawrecent) (defBody slawrecent) (defScope slawrecent) .none kV3 dc3 pm3 an3 cd3 ct3),sl3⟩) (q3:W.codeIn K cd3 "_law_recent" = true) (k3:W.keepIn K (.ref f3)=true)
  (a4:W.nsIn K mainGlobals "_law_led" = some (some (.ref f4))) (l4:K.lookup f4=some ⟨oc4,od4,.func (W.fnOf "_law_led" "_law_led" (defArgs slawled) (defBody slawled) (defScope slawled) .none kV4 dc4 pm4 an4 cd4 ct4),sl4⟩) (q4:W.codeIn K cd4 "_law_led" = true) (k4:W.keepIn K (.ref f4)=true)
  (a5:W.nsIn K mainGlobals "_law_begun" = some (some (.ref f5))) (l5:K.lookup f5=some ⟨oc5,od5,.func (W.fnOf "_law_begun" "_law_begun" (defArgs slawbegun) (defBody slawbegun) (defScope slawbegun) .none kV5 dc5 pm5 an5 cd5 ct5),sl5⟩) (q5:W.codeIn K cd5 "_law_begun" = true) (k5:W.keepIn K (.ref f5)=true)
  (a6:W.nsIn K mainGlobals "_law_laid" = some (some (.ref f6))) (l6:K.lookup f6=some ⟨oc6,od6,.func (W.fnOf "_law_laid" "_law_laid" (defArgs slawlaid) (defBody slawlaid) (defScope slawlaid) .none kV6 dc6 pm6 an6 cd6 ct6),sl6⟩) (q6:W.codeIn K cd6 "_law_laid" = true) (k6:W.keepIn K (.ref f6)=true)
  (a7:W.nsIn K mainGlobals "_law_both" = some (some (.ref f7))) (l7:K.lookup f7=some ⟨oc7,od7,.func (W.fnOf "_law_both" "_law_both" (defArgs slawboth) (defBody slawboth) (defScope slawboth) .none kV7 dc7 pm7 an7 cd7 ct7),sl7⟩) (q7:W.codeIn K cd7 "_law_both" = true) (k7:W.keepIn K (.ref f7)=true)
  (a8:W.nsIn K mainGlobals "_law_moved" = some (some (.ref f8))) (l8:K.lookup f8=some ⟨oc8,od8,.func (W.fnOf "_law_moved" "_law_moved" (defArgs slawmoved) (defBody slawmoved) (defScope slawmoved) .none kV8 dc8 pm8 an8 cd8 ct8),sl8⟩) (q8:W.codeIn K cd8 "_law_moved" = true) (k8:W.keepIn K (.ref f8)=true)
  (a9:W.nsIn K mainGlobals "_law_lifted" = some (some (.ref f9))) (l9:K.lookup f9=some ⟨oc9,od9,.func (W.fnOf "_law_lifted" "_law_lifted" (defArgs slawlifted) (defBody slawlifted) (defScope slawlifted) .none kV9 dc9 pm9 an9 cd9 ct9),sl9⟩) (q9:W.codeIn K cd9 "_law_lifted" = true) (k9:W.keepIn K (.ref f9)=true)
  (a10:W.nsIn K mainGlobals "_law_met" = some (some (.ref f10))) (l10:K.lookup f10=some ⟨oc10,od10,.func (W.fnOf "_law_met" "_law_met" (defArgs slawmet) (defBody slawmet) (defScope slawmet) .none kV10 dc10 pm10 an10 cd10 ct10),sl10⟩) (q10:W.codeIn K cd10 "_law_met" = true) (k10:W.keepIn K (.ref f10)=true)
  (a11:W.nsIn K mainGlobals "_law_step" = some (some (.ref f11))) (l11:K.lookup f11=some ⟨oc11,od11,.func (W.fnOf "_law_step" "_law_step" (defArgs slawstep) (defBody slawstep) (defScope slawstep) .none kV11 dc11 pm11 an11 cd11 ct11),sl11⟩) (q11:W.codeIn K cd11 "_law_step" = true) (k11:W.keepIn K (.ref f11)=true)
  (a12:W.nsIn K mainGlobals "_law_program" = some (some (.ref f12))) (l12:K.lookup f12=some ⟨oc12,od12,.func (W.fnOf "_law_program" "_law_program" (defArgs slawprogram) (defBody slawprogram) (defScope slawprogram) .none kV12 dc12 pm12 an12 cd12 ct12),sl12⟩) (q12:W.codeIn K cd12 "_law_program" = true) (k12:W.keepIn K (.ref f12)=true)
  (a13:W.nsIn K mainGlobals "_law_whole" = some (some (.ref f13))) (l13:K.lookup f13=some ⟨oc13,od13,.func (W.fnOf "_law_whole" "_law_whole" (defArgs slawwhole) (defBody slawwhole) (defScope slawwhole) .none kV13 dc13 pm13 an13 cd13 ct13),sl13⟩) (q13:W.codeIn K cd13 "_law_whole" = true) (k13:W.keepIn K (.ref f13)=true)
  (a14:W.nsIn K mainGlobals "amount" = some (some (.ref f14))) (l14:K.lookup f14=some ⟨oc14,od14,.func (W.fnOf "amount" "amount" (defArgs samount) (defBody samount) (defScope samount) .none kV14 dc14 pm14 an14 cd14 ct14),sl14⟩) (q14:W.codeIn K cd14 "amount" = true) (k14:W.keepIn K (.ref f14)=true)
  (a15:W.nsIn K mainGlobals "breadth" = some (some (.ref f15))) (l15:K.lookup f15=some ⟨oc15,od15,.func (W.fnOf "breadth" "breadth" (defArgs sbreadth) (defBody sbreadth) (defScope sbreadth) .none kV15 dc15 pm15 an15 cd15 ct15),sl15⟩) (q15:W.codeIn K cd15 "breadth" = true) (k15:W.keepIn K (.ref f15)=true)
  (a16:W.nsIn K mainGlobals "allowed" = some (some (.ref f16))) (l16:K.lookup f16=some ⟨oc16,od16,.func (W.fnOf "allowed" "allowed" (defArgs sallowed) (defBody sallowed) (defScope sallowed) .none kV16 dc16 pm16 an16 cd16 ct16),sl16⟩) (q16:W.codeIn K cd16 "allowed" = true) (k16:W.keepIn K (.ref f16)=true)
  (a17:W.nsIn K mainGlobals "changed_at" = some (some (.ref f17))) (l17:K.lookup f17=some ⟨oc17,od17,.func (W.fnOf "changed_at" "changed_at" (defArgs schangedat) (defBody schangedat) (defScope schangedat) .none kV17 dc17 pm17 an17 cd17 ct17),sl17⟩) (q17:W.codeIn K cd17 "changed_at" = true) (k17:W.keepIn K (.ref f17)=true)
  (a18:W.nsIn K mainGlobals "added_at" = some (some (.ref f18))) (l18:K.lookup f18=some ⟨oc18,od18,.func (W.fnOf "added_at" "added_at" (defArgs saddedat) (defBody saddedat) (defScope saddedat) .none kV18 dc18 pm18 an18 cd18 ct18),sl18⟩) (q18:W.codeIn K cd18 "added_at" = true) (k18:W.keepIn K (.ref f18)=true)
  (a19:W.nsIn K mainGlobals "dropped_at" = some (some (.ref f19))) (l19:K.lookup f19=some ⟨oc19,od19,.func (W.fnOf "dropped_at" "dropped_at" (defArgs sdroppedat) (defBody sdroppedat) (defScope sdroppedat) .none kV19 dc19 pm19 an19 cd19 ct19),sl19⟩) (q19:W.codeIn K cd19 "dropped_at" = true) (k19:W.keepIn K (.ref f19)=true)
  (a20:W.nsIn K mainGlobals "ask_side" = some (some (.ref f20))) (l20:K.lookup f20=some ⟨oc20,od20,.func (W.fnOf "ask_side" "ask_side" (defArgs saskside) (defBody saskside) (defScope saskside) .none kV20 dc20 pm20 an20 cd20 ct20),sl20⟩) (q20:W.codeIn K cd20 "ask_side" = true) (k20:W.keepIn K (.ref f20)=true)
  (a21:W.nsIn K mainGlobals "turned_sides" = some (some (.ref f21))) (l21:K.lookup f21=some ⟨oc21,od21,.func (W.fnOf "turned_sides" "turned_sides" (defArgs sturnedsides) (defBody sturnedsides) (defScope sturnedsides) .none kV21 dc21 pm21 an21 cd21 ct21),sl21⟩) (q21:W.codeIn K cd21 "turned_sides" = true) (k21:W.keepIn K (.ref f21)=true)
  (a22:W.nsIn K mainGlobals "flipped_sides" = some (some (.ref f22))) (l22:K.lookup f22=some ⟨oc22,od22,.func (W.fnOf "flipped_sides" "flipped_sides" (defArgs sflippedsides) (defBody sflippedsides) (defScope sflippedsides) .none kV22 dc22 pm22 an22 cd22 ct22),sl22⟩) (q22:W.codeIn K cd22 "flipped_sides" = true) (k22:W.keepIn K (.ref f22)=true)
  (a23:W.nsIn K mainGlobals "cut_sides" = some (some (.ref f23))) (l23:K.lookup f23=some ⟨oc23,od23,.func (W.fnOf "cut_sides" "cut_sides" (defArgs scutsides) (defBody scutsides) (defScope scutsides) .none kV23 dc23 pm23 an23 cd23 ct23),sl23⟩) (q23:W.codeIn K cd23 "cut_sides" = true) (k23:W.keepIn K (.ref f23)=true)
  (a24:W.nsIn K mainGlobals "spread_sides" = some (some (.ref f24))) (l24:K.lookup f24=some ⟨oc24,od24,.func (W.fnOf "spread_sides" "spread_sides" (defArgs sspreadsides) (defBody sspreadsides) (defScope sspreadsides) .none kV24 dc24 pm24 an24 cd24 ct24),sl24⟩) (q24:W.codeIn K cd24 "spread_sides" = true) (k24:W.keepIn K (.ref f24)=true)
  (a25:W.nsIn K mainGlobals "led_sides" = some (some (.ref f25))) (l25:K.lookup f25=some ⟨oc25,od25,.func (W.fnOf "led_sides" "led_sides" (defArgs sledsides) (defBody sledsides) (defScope sledsides) .none kV25 dc25 pm25 an25 cd25 ct25),sl25⟩) (q25:W.codeIn K cd25 "led_sides" = true) (k25:W.keepIn K (.ref f25)=true)
  (a26:W.nsIn K mainGlobals "folded_sides" = some (some (.ref f26))) (l26:K.lookup f26=some ⟨oc26,od26,.func (W.fnOf "folded_sides" "folded_sides" (defArgs sfoldedsides) (defBody sfoldedsides) (defScope sfoldedsides) .none kV26 dc26 pm26 an26 cd26 ct26),sl26⟩) (q26:W.codeIn K cd26 "folded_sides" = true) (k26:W.keepIn K (.ref f26)=true)
  (a27:W.nsIn K mainGlobals "laid_sides" = some (some (.ref f27))) (l27:K.lookup f27=some ⟨oc27,od27,.func (W.fnOf "laid_sides" "laid_sides" (defArgs slaidsides) (defBody slaidsides) (defScope slaidsides) .none kV27 dc27 pm27 an27 cd27 ct27),sl27⟩) (q27:W.codeIn K cd27 "laid_sides" = true) (k27:W.keepIn K (.ref f27)=true)
  (a28:W.nsIn K mainGlobals "joined_sides" = some (some (.ref f28))) (l28:K.lookup f28=some ⟨oc28,od28,.func (W.fnOf "joined_sides" "joined_sides" (defArgs sjoinedsides) (defBody sjoinedsides) (defScope sjoinedsides) .none kV28 dc28 pm28 an28 cd28 ct28),sl28⟩) (q28:W.codeIn K cd28 "joined_sides" = true) (k28:W.keepIn K (.ref f28)=true)
  (a29:W.nsIn K mainGlobals "counted_sides" = some (some (.ref f29))) (l29:K.lookup f29=some ⟨oc29,od29,.func (W.fnOf "counted_sides" "counted_sides" (defArgs scountedsides) (defBody scountedsides) (defScope scountedsides) .none kV29 dc29 pm29 an29 cd29 ct29),sl29⟩) (q29:W.codeIn K cd29 "counted_sides" = true) (k29:W.keepIn K (.ref f29)=true)
  (a30:W.nsIn K mainGlobals "paired_sides" = some (some (.ref f30))) (l30:K.lookup f30=some ⟨oc30,od30,.func (W.fnOf "paired_sides" "paired_sides" (defArgs spairedsides) (defBody spairedsides) (defScope spairedsides) .none kV30 dc30 pm30 an30 cd30 ct30),sl30⟩) (q30:W.codeIn K cd30 "paired_sides" = true) (k30:W.keepIn K (.ref f30)=true)
  (a31:W.nsIn K mainGlobals "picked_sides" = some (some (.ref f31))) (l31:K.lookup f31=some ⟨oc31,od31,.func (W.fnOf "picked_sides" "picked_sides" (defArgs spickedsides) (defBody spickedsides) (defScope spickedsides) .none kV31 dc31 pm31 an31 cd31 ct31),sl31⟩) (q31:W.codeIn K cd31 "picked_sides" = true) (k31:W.keepIn K (.ref f31)=true)
  (a32:W.nsIn K mainGlobals "fetched_sides" = some (some (.ref f32))) (l32:K.lookup f32=some ⟨oc32,od32,.func (W.fnOf "fetched_sides" "fetched_sides" (defArgs sfetchedsides) (defBody sfetchedsides) (defScope sfetchedsides) .none kV32 dc32 pm32 an32 cd32 ct32),sl32⟩) (q32:W.codeIn K cd32 "fetched_sides" = true) (k32:W.keepIn K (.ref f32)=true)
  (a33:W.nsIn K mainGlobals "wrapped" = some (some (.ref f33))) (l33:K.lookup f33=some ⟨oc33,od33,.func (W.fnOf "wrapped" "wrapped" (defArgs swrapped) (defBody swrapped) (defScope swrapped) .none kV33 dc33 pm33 an33 cd33 ct33),sl33⟩) (q33:W.codeIn K cd33 "wrapped" = true) (k33:W.keepIn K (.ref f33)=true)
  (a34:W.nsIn K mainGlobals "sign_of" = some (some (.ref f34))) (l34:K.lookup f34=some ⟨oc34,od34,.func (W.fnOf "sign_of" "sign_of" (defArgs ssignof) (defBody ssignof) (defScope ssignof) .none kV34 dc34 pm34 an34 cd34 ct34),sl34⟩) (q34:W.codeIn K cd34 "sign_of" = true) (k34:W.keepIn K (.ref f34)=true)
  (a35:W.nsIn K mainGlobals "quotient" = some (some (.ref f35))) (l35:K.lookup f35=some ⟨oc35,od35,.func (W.fnOf "quotient" "quotient" (defArgs squotient) (defBody squotient) (defScope squotient) .none kV35 dc35 pm35 an35 cd35 ct35),sl35⟩) (q35:W.codeIn K cd35 "quotient" = true) (k35:W.keepIn K (.ref f35)=true)
  (a36:W.nsIn K mainGlobals "remainder" = some (some (.ref f36))) (l36:K.lookup f36=some ⟨oc36,od36,.func (W.fnOf "remainder" "remainder" (defArgs sremainder) (defBody sremainder) (defScope sremainder) .none kV36 dc36 pm36 an36 cd36 ct36),sl36⟩) (q36:W.codeIn K cd36 "remainder" = true) (k36:W.keepIn K (.ref f36)=true)
  (a37:W.nsIn K mainGlobals "once" = some (some (.ref f37))) (l37:K.lookup f37=some ⟨oc37,od37,.func (W.fnOf "once" "once" (defArgs sonce) (defBody sonce) (defScope sonce) .none kV37 dc37 pm37 an37 cd37 ct37),sl37⟩) (q37:W.codeIn K cd37 "once" = true) (k37:W.keepIn K (.ref f37)=true)
  (a38:W.nsIn K mainGlobals "twice" = some (some (.ref f38))) (l38:K.lookup f38=some ⟨oc38,od38,.func (W.fnOf "twice" "twice" (defArgs stwice) (defBody stwice) (defScope stwice) .none kV38 dc38 pm38 an38 cd38 ct38),sl38⟩) (q38:W.codeIn K cd38 "twice" = true) (k38:W.keepIn K (.ref f38)=true)
  (a39:W.nsIn K mainGlobals "neutral" = some (some (.ref f39))) (l39:K.lookup f39=some ⟨oc39,od39,.func (W.fnOf "neutral" "neutral" (defArgs sneutral) (defBody sneutral) (defScope sneutral) .none kV39 dc39 pm39 an39 cd39 ct39),sl39⟩) (q39:W.codeIn K cd39 "neutral" = true) (k39:W.keepIn K (.ref f39)=true)
  (a40:W.nsIn K mainGlobals "arg_places" = some (some (.ref f40))) (l40:K.lookup f40=some ⟨oc40,od40,.func (W.fnOf "arg_places" "arg_places" (defArgs sargplaces) (defBody sargplaces) (defScope sargplaces) .none kV40 dc40 pm40 an40 cd40 ct40),sl40⟩) (q40:W.codeIn K cd40 "arg_places" = true) (k40:W.keepIn K (.ref f40)=true)
  (a41:W.nsIn K mainGlobals "args_of" = some (some (.ref f41))) (l41:K.lookup f41=some ⟨oc41,od41,.func (W.fnOf "args_of" "args_of" (defArgs sargsof) (defBody sargsof) (defScope sargsof) .none kV41 dc41 pm41 an41 cd41 ct41),sl41⟩) (q41:W.codeIn K cd41 "args_of" = true) (k41:W.keepIn K (.ref f41)=true)
  (a42:W.nsIn K mainGlobals "ask_word" = some (some (.ref f42))) (l42:K.lookup f42=some ⟨oc42,od42,.func (W.fnOf "ask_word" "ask_word" (defArgs saskword) (defBody saskword) (defScope saskword) .none kV42 dc42 pm42 an42 cd42 ct42),sl42⟩) (q42:W.codeIn K cd42 "ask_word" = true) (k42:W.keepIn K (.ref f42)=true)
  (a43:W.nsIn K mainGlobals "first_sides" = some (some (.ref f43))) (l43:K.lookup f43=some ⟨oc43,od43,.func (W.fnOf "first_sides" "first_sides" (defArgs sfirstsides) (defBody sfirstsides) (defScope sfirstsides) .none kV43 dc43 pm43 an43 cd43 ct43),sl43⟩) (q43:W.codeIn K cd43 "first_sides" = true) (k43:W.keepIn K (.ref f43)=true)
  (a44:W.nsIn K mainGlobals "moved_sides" = some (some (.ref f44))) (l44:K.lookup f44=some ⟨oc44,od44,.func (W.fnOf "moved_sides" "moved_sides" (defArgs smovedsides) (defBody smovedsides) (defScope smovedsides) .none kV44 dc44 pm44 an44 cd44 ct44),sl44⟩) (q44:W.codeIn K cd44 "moved_sides" = true) (k44:W.keepIn K (.ref f44)=true)
  (a45:W.nsIn K mainGlobals "step_sides" = some (some (.ref f45))) (l45:K.lookup f45=some ⟨oc45,od45,.func (W.fnOf "step_sides" "step_sides" (defArgs sstepsides) (defBody sstepsides) (defScope sstepsides) .none kV45 dc45 pm45 an45 cd45 ct45),sl45⟩) (q45:W.codeIn K cd45 "step_sides" = true) (k45:W.keepIn K (.ref f45)=true)
  (a46:W.nsIn K mainGlobals "step_told" = some (some (.ref f46))) (l46:K.lookup f46=some ⟨oc46,od46,.func (W.fnOf "step_told" "step_told" (defArgs ssteptold) (defBody ssteptold) (defScope ssteptold) .none kV46 dc46 pm46 an46 cd46 ct46),sl46⟩) (q46:W.codeIn K cd46 "step_told" = true) (k46:W.keepIn K (.ref f46)=true)
  (a47:W.nsIn K mainGlobals "program_told" = some (some (.ref f47))) (l47:K.lookup f47=some ⟨oc47,od47,.func (W.fnOf "program_told" "program_told" (defArgs sprogramtold) (defBody sprogramtold) (defScope sprogramtold) .none kV47 dc47 pm47 an47 cd47 ct47),sl47⟩) (q47:W.codeIn K cd47 "program_told" = true) (k47:W.keepIn K (.ref f47)=true)
  (a48:W.nsIn K mainGlobals "checked" = some (some (.ref f48))) (l48:K.lookup f48=some ⟨oc48,od48,.func (W.fnOf "checked" "checked" (defArgs schecked) (defBody schecked) (defScope schecked) .none kV48 dc48 pm48 an48 cd48 ct48),sl48⟩) (q48:W.codeIn K cd48 "checked" = true) (k48:W.keepIn K (.ref f48)=true)
  (a49:W.nsIn K mainGlobals "step_calls" = some (some (.ref f49))) (l49:K.lookup f49=some ⟨oc49,od49,.func (W.fnOf "step_calls" "step_calls" (defArgs sstepcalls) (defBody sstepcalls) (defScope sstepcalls) .none kV49 dc49 pm49 an49 cd49 ct49),sl49⟩) (q49:W.codeIn K cd49 "step_calls" = true) (k49:W.keepIn K (.ref f49)=true)
  (a50:W.nsIn K mainGlobals "plain_calls" = some (some (.ref f50))) (l50:K.lookup f50=some ⟨oc50,od50,.func (W.fnOf "plain_calls" "plain_calls" (defArgs splaincalls) (defBody splaincalls) (defScope splaincalls) .none kV50 dc50 pm50 an50 cd50 ct50),sl50⟩) (q50:W.codeIn K cd50 "plain_calls" = true) (k50:W.keepIn K (.ref f50)=true)
  (a51:W.nsIn K mainGlobals "plain_cells" = some (some (.ref f51))) (l51:K.lookup f51=some ⟨oc51,od51,.func (W.fnOf "plain_cells" "plain_cells" (defArgs splaincells) (defBody splaincells) (defScope splaincells) .none kV51 dc51 pm51 an51 cd51 ct51),sl51⟩) (q51:W.codeIn K cd51 "plain_cells" = true) (k51:W.keepIn K (.ref f51)=true)
  (a52:W.nsIn K mainGlobals "_law_due" = some (some (.ref f52))) (l52:K.lookup f52=some ⟨oc52,od52,.func (W.fnOf "_law_due" "_law_due" (defArgs slawdue) (defBody slawdue) (defScope slawdue) .none kV52 dc52 pm52 an52 cd52 ct52),sl52⟩) (q52:W.codeIn K cd52 "_law_due" = true) (k52:W.keepIn K (.ref f52)=true)
  (a53:W.nsIn K mainGlobals "_law_refused" = some (some (.ref f53))) (l53:K.lookup f53=some ⟨oc53,od53,.func (W.fnOf "_law_refused" "_law_refused" (defArgs slawrefused) (defBody slawrefused) (defScope slawrefused) .none kV53 dc53 pm53 an53 cd53 ct53),sl53⟩) (q53:W.codeIn K cd53 "_law_refused" = true) (k53:W.keepIn K (.ref f53)=true)
  (a54:W.nsIn K mainGlobals "_law_fine" = some (some (.ref f54))) (l54:K.lookup f54=some ⟨oc54,od54,.func (W.fnOf "_law_fine" "_law_fine" (defArgs slawfine) (defBody slawfine) (defScope slawfine) .none kV54 dc54 pm54 an54 cd54 ct54),sl54⟩) (q54:W.codeIn K cd54 "_law_fine" = true) (k54:W.keepIn K (.ref f54)=true)
  (a55:W.nsIn K mainGlobals "law" = some (some (.ref f55))) (l55:K.lookup f55=some ⟨oc55,od55,.func (W.fnOf "law" "law" (defArgs slaw) (defBody slaw) (defScope slaw) .none kV55 dc55 pm55 an55 cd55 ct55),sl55⟩) (q55:W.codeIn K cd55 "law" = true) (k55:W.keepIn K (.ref f55)=true)
  (zmax:W.nsIn K mainGlobals "max" = some none)
  (zlen:W.nsIn K mainGlobals "len" = some none)
  (zmin:W.nsIn K mainGlobals "min" = some none)
  (zrange:W.nsIn K mainGlobals "range" = some none)
  (ztuple:W.nsIn K mainGlobals "tuple" = some none)
  (zreversed:W.nsIn K mainGlobals "reversed" = some none)
  (zlist:W.nsIn K mainGlobals "list" = some none)
  (zint:W.nsIn K mainGlobals "int" = some none)
  (zsum:W.nsIn K mainGlobals "sum" = some none)
  (zisinstance:W.nsIn K mainGlobals "isinstance" = some none)
  (zbool:W.nsIn K mainGlobals "bool" = some none)
  (zsorted:W.nsIn K mainGlobals "sorted" = some none)
  (zabs:W.nsIn K mainGlobals "abs" = some none)
  (zany:W.nsIn K mainGlobals "any" = some none)
  (zzip:W.nsIn K mainGlobals "zip" = some none)
  {tMOST_SIDES:Tok}(gMOST_SIDES:W.nsIn K mainGlobals "MOST_SIDES" = some (some (.int 6 tMOST_SIDES)))
  {tMOST_BREADTH:Tok}(gMOST_BREADTH:W.nsIn K mainGlobals "MOST_BREADTH" = some (some (.int 512 tMOST_BREADTH)))
  {tLOW:Tok}(gLOW:W.nsIn K mainGlobals "LOW" = some (some (.int (-9223372036854775808) tLOW)))
  {tHIGH:Tok}(gHIGH:W.nsIn K mainGlobals "HIGH" = some (some (.int 9223372036854775807 tHIGH)))
  {tMOST_STEPS:Tok}(gMOST_STEPS:W.nsIn K mainGlobals "MOST_STEPS" = some (some (.int 40 tMOST_STEPS)))
  {tMOST_OUTS:Tok}(gMOST_OUTS:W.nsIn K mainGlobals "MOST_OUTS" = some (some (.int 8 tMOST_OUTS)))
  {CTooLarge:Addr}(nTooLarge:W.nsIn K mainGlobals "TooLarge" = some (some (.ref CTooLarge)))
  {CNoSide:Addr}(nNoSide:W.nsIn K mainGlobals "NoSide" = some (some (.ref CNoSide)))
  {CBeyond:Addr}(nBeyond:W.nsIn K mainGlobals "Beyond" = some (some (.ref CBeyond)))
  {CUnlike:Addr}(nUnlike:W.nsIn K mainGlobals "Unlike" = some (some (.ref CUnlike)))
  {CNoWord:Addr}(nNoWord:W.nsIn K mainGlobals "NoWord" = some (some (.ref CNoWord)))
  {CBadStep:Addr}(nBadStep:W.nsIn K mainGlobals "BadStep" = some (some (.ref CBadStep)))
  {CLoomError:Addr}(nLoomError:W.nsIn K mainGlobals "LoomError" = some (some (.ref CLoomError)))
  {dPT:Addr}{nPT:Nat}{tP0 tP1 tP2 tP3 tP4 tP5 tP6 tP7 tP8 tP9 tP10 tP11 tP12 tP13 tP14:Tok}{aP0 aP1 aP2 aP3 aP4 aP5 aP6 aP7 aP8 aP9 aP10 aP11 aP12 aP13 aP14:Addr}
  (gPT:W.nsIn K mainGlobals "PARTS" = some (some (.ref dPT))) (dPT0:(dPT == sysModules)=false)
  (lPT:K.lookup dPT=some { cls:=.type "dict",data:=.dict #[⟨PyData.keyHash w.params "in",.str "in" tP0,.ref aP0⟩,⟨PyData.keyHash w.params "num",.str "num" tP1,.ref aP1⟩,⟨PyData.keyHash w.params "count",.str "count" tP2,.ref aP2⟩,⟨PyData.keyHash w.params "each",.str "each" tP3,.ref aP3⟩,⟨PyData.keyHash w.params "pair",.str "pair" tP4,.ref aP4⟩,⟨PyData.keyHash w.params "pick",.str "pick" tP5,.ref aP5⟩,⟨PyData.keyHash w.params "turn",.str "turn" tP6,.ref aP6⟩,⟨PyData.keyHash w.params "flip",.str "flip" tP7,.ref aP7⟩,⟨PyData.keyHash w.params "cut",.str "cut" tP8,.ref aP8⟩,⟨PyData.keyHash w.params "spread",.str "spread" tP9,.ref aP9⟩,⟨PyData.keyHash w.params "lay",.str "lay" tP10,.ref aP10⟩,⟨PyData.keyHash w.params "join",.str "join" tP11,.ref aP11⟩,⟨PyData.keyHash w.params "fetch",.str "fetch" tP12,.ref aP12⟩,⟨PyData.keyHash w.params "fold",.str "fold" tP13,.ref aP13⟩,⟨PyData.keyHash w.params "run",.str "run" tP14,.ref aP14⟩] nPT })
  {odP0:Option Addr}{nP0:Nat}{slP0:Array (Option Value)}{aP0_0:Addr}(lP0:K.lookup aP0=some ⟨.type "tuple",odP0,.seq #[.ref aP0_0] nP0,slP0⟩)
  {odP0_0:Option Addr}{nP0_0:Nat}{slP0_0:Array (Option Value)}{tP0_0 uP0_0:Tok}(lP0_0:K.lookup aP0_0=some ⟨.type "tuple",odP0_0,.seq #[.str "sides" tP0_0,.int 1 uP0_0] nP0_0,slP0_0⟩)
  {odP1:Option Addr}{nP1:Nat}{slP1:Array (Option Value)}{aP1_0:Addr}(lP1:K.lookup aP1=some ⟨.type "tuple",odP1,.seq #[.ref aP1_0] nP1,slP1⟩)
  {odP1_0:Option Addr}{nP1_0:Nat}{slP1_0:Array (Option Value)}{tP1_0 uP1_0:Tok}(lP1_0:K.lookup aP1_0=some ⟨.type "tuple",odP1_0,.seq #[.str "number" tP1_0,.int 1 uP1_0] nP1_0,slP1_0⟩)
  {odP2:Option Addr}{nP2:Nat}{slP2:Array (Option Value)}{aP2_0 aP2_1:Addr}(lP2:K.lookup aP2=some ⟨.type "tuple",odP2,.seq #[.ref aP2_0,.ref aP2_1] nP2,slP2⟩)
  {odP2_0:Option Addr}{nP2_0:Nat}{slP2_0:Array (Option Value)}{tP2_0 uP2_0:Tok}(lP2_0:K.lookup aP2_0=some ⟨.type "tuple",odP2_0,.seq #[.str "small" tP2_0,.int 2 uP2_0] nP2_0,slP2_0⟩)
  {odP2_1:Option Addr}{nP2_1:Nat}{slP2_1:Array (Option Value)}{tP2_1 uP2_1:Tok}(lP2_1:K.lookup aP2_1=some ⟨.type "tuple",odP2_1,.seq #[.str "sides" tP2_1,.int 1 uP2_1] nP2_1,slP2_1⟩)
  {odP3:Option Addr}{nP3:Nat}{slP3:Array (Option Value)}{aP3_0 aP3_1:Addr}(lP3:K.lookup aP3=some ⟨.type "tuple",odP3,.seq #[.ref aP3_0,.ref aP3_1] nP3,slP3⟩)
  {odP3_0:Option Addr}{nP3_0:Nat}{slP3_0:Array (Option Value)}{tP3_0 uP3_0:Tok}(lP3_0:K.lookup aP3_0=some ⟨.type "tuple",odP3_0,.seq #[.str "word" tP3_0,.int 1 uP3_0] nP3_0,slP3_0⟩)
  {odP3_1:Option Addr}{nP3_1:Nat}{slP3_1:Array (Option Value)}{tP3_1 uP3_1:Tok}(lP3_1:K.lookup aP3_1=some ⟨.type "tuple",odP3_1,.seq #[.str "step" tP3_1,.int 2 uP3_1] nP3_1,slP3_1⟩)
  {odP4:Option Addr}{nP4:Nat}{slP4:Array (Option Value)}{aP4_0 aP4_1 aP4_2:Addr}(lP4:K.lookup aP4=some ⟨.type "tuple",odP4,.seq #[.ref aP4_0,.ref aP4_1,.ref aP4_2] nP4,slP4⟩)
  {odP4_0:Option Addr}{nP4_0:Nat}{slP4_0:Array (Option Value)}{tP4_0 uP4_0:Tok}(lP4_0:K.lookup aP4_0=some ⟨.type "tuple",odP4_0,.seq #[.str "word" tP4_0,.int 1 uP4_0] nP4_0,slP4_0⟩)
  {odP4_1:Option Addr}{nP4_1:Nat}{slP4_1:Array (Option Value)}{tP4_1 uP4_1:Tok}(lP4_1:K.lookup aP4_1=some ⟨.type "tuple",odP4_1,.seq #[.str "step" tP4_1,.int 2 uP4_1] nP4_1,slP4_1⟩)
  {odP4_2:Option Addr}{nP4_2:Nat}{slP4_2:Array (Option Value)}{tP4_2 uP4_2:Tok}(lP4_2:K.lookup aP4_2=some ⟨.type "tuple",odP4_2,.seq #[.str "step" tP4_2,.int 3 uP4_2] nP4_2,slP4_2⟩)
  {odP5:Option Addr}{nP5:Nat}{slP5:Array (Option Value)}{aP5_0 aP5_1 aP5_2:Addr}(lP5:K.lookup aP5=some ⟨.type "tuple",odP5,.seq #[.ref aP5_0,.ref aP5_1,.ref aP5_2] nP5,slP5⟩)
  {odP5_0:Option Addr}{nP5_0:Nat}{slP5_0:Array (Option Value)}{tP5_0 uP5_0:Tok}(lP5_0:K.lookup aP5_0=some ⟨.type "tuple",odP5_0,.seq #[.str "step" tP5_0,.int 1 uP5_0] nP5_0,slP5_0⟩)
  {odP5_1:Option Addr}{nP5_1:Nat}{slP5_1:Array (Option Value)}{tP5_1 uP5_1:Tok}(lP5_1:K.lookup aP5_1=some ⟨.type "tuple",odP5_1,.seq #[.str "step" tP5_1,.int 2 uP5_1] nP5_1,slP5_1⟩)
  {odP5_2:Option Addr}{nP5_2:Nat}{slP5_2:Array (Option Value)}{tP5_2 uP5_2:Tok}(lP5_2:K.lookup aP5_2=some ⟨.type "tuple",odP5_2,.seq #[.str "step" tP5_2,.int 3 uP5_2] nP5_2,slP5_2⟩)
  {odP6:Option Addr}{nP6:Nat}{slP6:Array (Option Value)}{aP6_0 aP6_1:Addr}(lP6:K.lookup aP6=some ⟨.type "tuple",odP6,.seq #[.ref aP6_0,.ref aP6_1] nP6,slP6⟩)
  {odP6_0:Option Addr}{nP6_0:Nat}{slP6_0:Array (Option Value)}{tP6_0 uP6_0:Tok}(lP6_0:K.lookup aP6_0=some ⟨.type "tuple",odP6_0,.seq #[.str "step" tP6_0,.int 1 uP6_0] nP6_0,slP6_0⟩)
  {odP6_1:Option Addr}{nP6_1:Nat}{slP6_1:Array (Option Value)}{tP6_1 uP6_1:Tok}(lP6_1:K.lookup aP6_1=some ⟨.type "tuple",odP6_1,.seq #[.str "sides" tP6_1,.int 2 uP6_1] nP6_1,slP6_1⟩)
  {odP7:Option Addr}{nP7:Nat}{slP7:Array (Option Value)}{aP7_0 aP7_1:Addr}(lP7:K.lookup aP7=some ⟨.type "tuple",odP7,.seq #[.ref aP7_0,.ref aP7_1] nP7,slP7⟩)
  {odP7_0:Option Addr}{nP7_0:Nat}{slP7_0:Array (Option Value)}{tP7_0 uP7_0:Tok}(lP7_0:K.lookup aP7_0=some ⟨.type "tuple",odP7_0,.seq #[.str "step" tP7_0,.int 1 uP7_0] nP7_0,slP7_0⟩)
  {odP7_1:Option Addr}{nP7_1:Nat}{slP7_1:Array (Option Value)}{tP7_1 uP7_1:Tok}(lP7_1:K.lookup aP7_1=some ⟨.type "tuple",odP7_1,.seq #[.str "small" tP7_1,.int 2 uP7_1] nP7_1,slP7_1⟩)
  {odP8:Option Addr}{nP8:Nat}{slP8:Array (Option Value)}{aP8_0 aP8_1 aP8_2 aP8_3 aP8_4:Addr}(lP8:K.lookup aP8=some ⟨.type "tuple",odP8,.seq #[.ref aP8_0,.ref aP8_1,.ref aP8_2,.ref aP8_3,.ref aP8_4] nP8,slP8⟩)
  {odP8_0:Option Addr}{nP8_0:Nat}{slP8_0:Array (Option Value)}{tP8_0 uP8_0:Tok}(lP8_0:K.lookup aP8_0=some ⟨.type "tuple",odP8_0,.seq #[.str "step" tP8_0,.int 1 uP8_0] nP8_0,slP8_0⟩)
  {odP8_1:Option Addr}{nP8_1:Nat}{slP8_1:Array (Option Value)}{tP8_1 uP8_1:Tok}(lP8_1:K.lookup aP8_1=some ⟨.type "tuple",odP8_1,.seq #[.str "small" tP8_1,.int 2 uP8_1] nP8_1,slP8_1⟩)
  {odP8_2:Option Addr}{nP8_2:Nat}{slP8_2:Array (Option Value)}{tP8_2 uP8_2:Tok}(lP8_2:K.lookup aP8_2=some ⟨.type "tuple",odP8_2,.seq #[.str "small" tP8_2,.int 3 uP8_2] nP8_2,slP8_2⟩)
  {odP8_3:Option Addr}{nP8_3:Nat}{slP8_3:Array (Option Value)}{tP8_3 uP8_3:Tok}(lP8_3:K.lookup aP8_3=some ⟨.type "tuple",odP8_3,.seq #[.str "small" tP8_3,.int 4 uP8_3] nP8_3,slP8_3⟩)
  {odP8_4:Option Addr}{nP8_4:Nat}{slP8_4:Array (Option Value)}{tP8_4 uP8_4:Tok}(lP8_4:K.lookup aP8_4=some ⟨.type "tuple",odP8_4,.seq #[.str "small" tP8_4,.int 5 uP8_4] nP8_4,slP8_4⟩)
  {odP9:Option Addr}{nP9:Nat}{slP9:Array (Option Value)}{aP9_0 aP9_1 aP9_2:Addr}(lP9:K.lookup aP9=some ⟨.type "tuple",odP9,.seq #[.ref aP9_0,.ref aP9_1,.ref aP9_2] nP9,slP9⟩)
  {odP9_0:Option Addr}{nP9_0:Nat}{slP9_0:Array (Option Value)}{tP9_0 uP9_0:Tok}(lP9_0:K.lookup aP9_0=some ⟨.type "tuple",odP9_0,.seq #[.str "step" tP9_0,.int 1 uP9_0] nP9_0,slP9_0⟩)
  {odP9_1:Option Addr}{nP9_1:Nat}{slP9_1:Array (Option Value)}{tP9_1 uP9_1:Tok}(lP9_1:K.lookup aP9_1=some ⟨.type "tuple",odP9_1,.seq #[.str "small" tP9_1,.int 2 uP9_1] nP9_1,slP9_1⟩)
  {odP9_2:Option Addr}{nP9_2:Nat}{slP9_2:Array (Option Value)}{tP9_2 uP9_2:Tok}(lP9_2:K.lookup aP9_2=some ⟨.type "tuple",odP9_2,.seq #[.str "small" tP9_2,.int 3 uP9_2] nP9_2,slP9_2⟩)
  {odP10:Option Addr}{nP10:Nat}{slP10:Array (Option Value)}{aP10_0 aP10_1:Addr}(lP10:K.lookup aP10=some ⟨.type "tuple",odP10,.seq #[.ref aP10_0,.ref aP10_1] nP10,slP10⟩)
  {odP10_0:Option Addr}{nP10_0:Nat}{slP10_0:Array (Option Value)}{tP10_0 uP10_0:Tok}(lP10_0:K.lookup aP10_0=some ⟨.type "tuple",odP10_0,.seq #[.str "step" tP10_0,.int 1 uP10_0] nP10_0,slP10_0⟩)
  {odP10_1:Option Addr}{nP10_1:Nat}{slP10_1:Array (Option Value)}{tP10_1 uP10_1:Tok}(lP10_1:K.lookup aP10_1=some ⟨.type "tuple",odP10_1,.seq #[.str "sides" tP10_1,.int 2 uP10_1] nP10_1,slP10_1⟩)
  {odP11:Option Addr}{nP11:Nat}{slP11:Array (Option Value)}{aP11_0 aP11_1 aP11_2:Addr}(lP11:K.lookup aP11=some ⟨.type "tuple",odP11,.seq #[.ref aP11_0,.ref aP11_1,.ref aP11_2] nP11,slP11⟩)
  {odP11_0:Option Addr}{nP11_0:Nat}{slP11_0:Array (Option Value)}{tP11_0 uP11_0:Tok}(lP11_0:K.lookup aP11_0=some ⟨.type "tuple",odP11_0,.seq #[.str "step" tP11_0,.int 1 uP11_0] nP11_0,slP11_0⟩)
  {odP11_1:Option Addr}{nP11_1:Nat}{slP11_1:Array (Option Value)}{tP11_1 uP11_1:Tok}(lP11_1:K.lookup aP11_1=some ⟨.type "tuple",odP11_1,.seq #[.str "step" tP11_1,.int 2 uP11_1] nP11_1,slP11_1⟩)
  {odP11_2:Option Addr}{nP11_2:Nat}{slP11_2:Array (Option Value)}{tP11_2 uP11_2:Tok}(lP11_2:K.lookup aP11_2=some ⟨.type "tuple",odP11_2,.seq #[.str "small" tP11_2,.int 3 uP11_2] nP11_2,slP11_2⟩)
  {odP12:Option Addr}{nP12:Nat}{slP12:Array (Option Value)}{aP12_0 aP12_1:Addr}(lP12:K.lookup aP12=some ⟨.type "tuple",odP12,.seq #[.ref aP12_0,.ref aP12_1] nP12,slP12⟩)
  {odP12_0:Option Addr}{nP12_0:Nat}{slP12_0:Array (Option Value)}{tP12_0 uP12_0:Tok}(lP12_0:K.lookup aP12_0=some ⟨.type "tuple",odP12_0,.seq #[.str "step" tP12_0,.int 1 uP12_0] nP12_0,slP12_0⟩)
  {odP12_1:Option Addr}{nP12_1:Nat}{slP12_1:Array (Option Value)}{tP12_1 uP12_1:Tok}(lP12_1:K.lookup aP12_1=some ⟨.type "tuple",odP12_1,.seq #[.str "step" tP12_1,.int 2 uP12_1] nP12_1,slP12_1⟩)
  {odP13:Option Addr}{nP13:Nat}{slP13:Array (Option Value)}{aP13_0 aP13_1 aP13_2:Addr}(lP13:K.lookup aP13=some ⟨.type "tuple",odP13,.seq #[.ref aP13_0,.ref aP13_1,.ref aP13_2] nP13,slP13⟩)
  {odP13_0:Option Addr}{nP13_0:Nat}{slP13_0:Array (Option Value)}{tP13_0 uP13_0:Tok}(lP13_0:K.lookup aP13_0=some ⟨.type "tuple",odP13_0,.seq #[.str "word" tP13_0,.int 1 uP13_0] nP13_0,slP13_0⟩)
  {odP13_1:Option Addr}{nP13_1:Nat}{slP13_1:Array (Option Value)}{tP13_1 uP13_1:Tok}(lP13_1:K.lookup aP13_1=some ⟨.type "tuple",odP13_1,.seq #[.str "step" tP13_1,.int 2 uP13_1] nP13_1,slP13_1⟩)
  {odP13_2:Option Addr}{nP13_2:Nat}{slP13_2:Array (Option Value)}{tP13_2 uP13_2:Tok}(lP13_2:K.lookup aP13_2=some ⟨.type "tuple",odP13_2,.seq #[.str "small" tP13_2,.int 3 uP13_2] nP13_2,slP13_2⟩)
  {odP14:Option Addr}{nP14:Nat}{slP14:Array (Option Value)}{aP14_0 aP14_1 aP14_2:Addr}(lP14:K.lookup aP14=some ⟨.type "tuple",odP14,.seq #[.ref aP14_0,.ref aP14_1,.ref aP14_2] nP14,slP14⟩)
  {odP14_0:Option Addr}{nP14_0:Nat}{slP14_0:Array (Option Value)}{tP14_0 uP14_0:Tok}(lP14_0:K.lookup aP14_0=some ⟨.type "tuple",odP14_0,.seq #[.str "word" tP14_0,.int 1 uP14_0] nP14_0,slP14_0⟩)
  {odP14_1:Option Addr}{nP14_1:Nat}{slP14_1:Array (Option Value)}{tP14_1 uP14_1:Tok}(lP14_1:K.lookup aP14_1=some ⟨.type "tuple",odP14_1,.seq #[.str "step" tP14_1,.int 2 uP14_1] nP14_1,slP14_1⟩)
  {odP14_2:Option Addr}{nP14_2:Nat}{slP14_2:Array (Option Value)}{tP14_2 uP14_2:Tok}(lP14_2:K.lookup aP14_2=some ⟨.type "tuple",odP14_2,.seq #[.str "small" tP14_2,.int 3 uP14_2] nP14_2,slP14_2⟩)
  {fI:Addr}{ocI kVI dcI pmI cdI ctI:Value}{odI anI:Option Addr}{slI:Array (Option Value)}
  (xNoWord:W.excIn K CNoWord [.type "ValueError",.type "Exception",.type "BaseException",.type "object"] "ValueError.__new__" = true)
  (xNoSide:W.excIn K CNoSide [.type "ValueError",.type "Exception",.type "BaseException",.type "object"] "ValueError.__new__" = true)
  (xBeyond:W.excIn K CBeyond [.type "ValueError",.type "Exception",.type "BaseException",.type "object"] "ValueError.__new__" = true)
  (xUnlike:W.excIn K CUnlike [.type "ValueError",.type "Exception",.type "BaseException",.type "object"] "ValueError.__new__" = true)
  (xTooLarge:W.excIn K CTooLarge [.type "ValueError",.type "Exception",.type "BaseException",.type "object"] "ValueError.__new__" = true)
  (eNW:W.exmOne K (.ref CNoWord) (.ref CNoWord)=some true)
  (aI:W.findIn K (.ref CBadStep) "__init__" = some (some (.ref fI)))
  (lI:K.lookup fI=some ⟨ocI,odI,.func (W.fnOf "__init__" "BadStep.__init__" (defArgs sinit) (defBody sinit) (defScope sinit) .none kVI dcI pmI anI cdI ctI),slI⟩)
  (qI:W.codeIn K cdI "BadStep.__init__" = true)
  (kI:W.keepIn K (.ref fI)=true)
  (iI:W.isFn K (.ref fI)=true)
  (kC:W.keepIn K (.ref CBadStep)=true)
  (clsI:clsX K CBadStep [.type "ValueError",.type "Exception",.type "BaseException",.type "object"] "ValueError.__new__" = true)
  (ovI:(W.clsIn K CBadStep).any (λ cd=>cd.hasDict && overX cd.mro)=true)
  (saI:W.findIn K (.ref CBadStep) "__setattr__" = some (some (.builtin "object.__setattr__")))
  (gaI:W.findIn K (.ref CBadStep) "__getattribute__" = some (some (.builtin "BaseException.__getattribute__")))
  (n1:W.findIn K (.ref CBadStep) (Str.ofString "at")=some none)
  (n2:W.findIn K (.ref CBadStep) (Str.ofString "why")=some none)
  (n3:W.findIn K (.ref CBadStep) (Str.ofString "__getattr__")=some none)
  (kc:(W.clsIn K CBadStep).isSome=true)
  (kcl:W.findIn K (.ref CBadStep) "__class__" = some (some (.builtin "object.__class__")))
  (kmo:W.mroIn K CBadStep (.type "object")=some true)
  (kmb:W.mroIn K CBadStep (.type "BaseException")=some true)
  (ei:W.kitOne K (.ref CBadStep) (.ref CLoomError)=some true)
  (hL1:W.specialIn K (.ref CLoomError) "__getattribute__" = some (some (.builtin "type.__getattribute__")))
  (hL2:W.readsIn K CLoomError (.type "type")=true)
  (hL3:W.findCls K (.ref CLoomError) (.type "type") "__init__" = some (.val (.builtin "ValueError.__init__")))
  : ∃fd:FuncData,(∀(s:Shared) (v:Value),BindsTo s fd ⟨[v],[]⟩ [("script",v)])/\∀base:Heap,K.In base->base.Ns mainGlobals mg->FnOk l.prog w K mg base CX0 13 fa fd ["script"] (splaw K):=by
 have e:=hfa.symm.trans (W.mg_of X G a55)
 cases e
 have TP:PartsOk l.prog w K dPT:=⟨_,KTab.mk (l:=[("in",tP0,aP0),("num",tP1,aP1),("count",tP2,aP2),("each",tP3,aP3),("pair",tP4,aP4),("pick",tP5,aP5),("turn",tP6,aP6),("flip",tP7,aP7),("cut",tP8,aP8),("spread",tP9,aP9),("lay",tP10,aP10),("join",tP11,aP11),("fetch",tP12,aP12),("fold",tP13,aP13),("run",tP14,aP14)]) dPT0 lPT rfl (show (["in", "num", "count", "each", "pair", "pick", "turn", "flip", "cut", "spread", "lay", "join", "fetch", "fold", "run"]:List Str).Nodup by decide +kernel),⟨⟨rfl,_,z0y (xs:=[.ref aP0_0]) lP0 (small (show (1:Nat)≤1000 by decide)) (.cons rfl (.nil)),⟨⟨_,rfl,z0y lP0_0 (small (show (2:Nat)≤1000 by decide)) (.cons ⟨_,rfl⟩ (.cons ⟨_,rfl⟩ .nil))⟩,trivial⟩⟩,⟨⟨rfl,_,z0y (xs:=[.ref aP1_0]) lP1 (small (show (1:Nat)≤1000 by decide)) (.cons rfl (.nil)),⟨⟨_,rfl,z0y lP1_0 (small (show (2:Nat)≤1000 by decide)) (.cons ⟨_,rfl⟩ (.cons ⟨_,rfl⟩ .nil))⟩,trivial⟩⟩,⟨⟨rfl,_,z0y (xs:=[.ref aP2_0,.ref aP2_1]) lP2 (small (show (2:Nat)≤1000 by decide)) (.cons rfl (.cons rfl (.nil))),⟨⟨_,rfl,z0y lP2_0 (small (show (2:Nat)≤1000 by decide)) (.cons ⟨_,rfl⟩ (.cons ⟨_,rfl⟩ .nil))⟩,⟨⟨_,rfl,z0y lP2_1 (small (show (2:Nat)≤1000 by decide)) (.cons ⟨_,rfl⟩ (.cons ⟨_,rfl⟩ .nil))⟩,trivial⟩⟩⟩,⟨⟨rfl,_,z0y (xs:=[.ref aP3_0,.ref aP3_1]) lP3 (small (show (2:Nat)≤1000 by decide)) (.cons rfl (.cons rfl (.nil))),⟨⟨_,rfl,z0y lP3_0 (small (show (2:Nat)≤1000 by decide)) (.cons ⟨_,rfl⟩ (.cons ⟨_,rfl⟩ .nil))⟩,⟨⟨_,rfl,z0y lP3_1 (small (show (2:Nat)≤1000 by decide)) (.cons ⟨_,rfl⟩ (.cons ⟨_,rfl⟩ .nil))⟩,trivial⟩⟩⟩,⟨⟨rfl,_,z0y (xs:=[.ref aP4_0,.ref aP4_1,.ref aP4_2]) lP4 (small (show (3:Nat)≤1000 by decide)) (.cons rfl (.cons rfl (.cons rfl (.nil)))),⟨⟨_,rfl,z0y lP4_0 (small (show (2:Nat)≤1000 by decide)) (.cons ⟨_,rfl⟩ (.cons ⟨_,rfl⟩ .nil))⟩,⟨⟨_,rfl,z0y lP4_1 (small (show (2:Nat)≤1000 by decide)) (.cons ⟨_,rfl⟩ (.cons ⟨_,rfl⟩ .nil))⟩,⟨⟨_,rfl,z0y lP4_2 (small (show (2:Nat)≤1000 by decide)) (.cons ⟨_,rfl⟩ (.cons ⟨_,rfl⟩ .nil))⟩,trivial⟩⟩⟩⟩,⟨⟨rfl,_,z0y (xs:=[.ref aP5_0,.ref aP5_1,.ref aP5_2]) lP5 (small (show (3:Nat)≤1000 by decide)) (.cons rfl (.cons rfl (.cons rfl (.nil)))),⟨⟨_,rfl,z0y lP5_0 (small (show (2:Nat)≤1000 by decide)) (.cons ⟨_,rfl⟩ (.cons ⟨_,rfl⟩ .nil))⟩,⟨⟨_,rfl,z0y lP5_1 (small (show (2:Nat)≤1000 by decide)) (.cons ⟨_,rfl⟩ (.cons ⟨_,rfl⟩ .nil))⟩,⟨⟨_,rfl,z0y lP5_2 (small (show (2:Nat)≤1000 by decide)) (.cons ⟨_,rfl⟩ (.cons ⟨_,rfl⟩ .nil))⟩,trivial⟩⟩⟩⟩,⟨⟨rfl,_,z0y (xs:=[.ref aP6_0,.ref aP6_1]) lP6 (small (show (2:Nat)≤1000 by decide)) (.cons rfl (.cons rfl (.nil))),⟨⟨_,rfl,z0y lP6_0 (small (show (2:Nat)≤1000 by decide)) (.cons ⟨_,rfl⟩ (.cons ⟨_,rfl⟩ .nil))⟩,⟨⟨_,rfl,z0y lP6_1 (small (show (2:Nat)≤1000 by decide)) (.cons ⟨_,rfl⟩ (.cons ⟨_,rfl⟩ .nil))⟩,trivial⟩⟩⟩,⟨⟨rfl,_,z0y (xs:=[.ref aP7_0,.ref aP7_1]) lP7 (small (show (2:Nat)≤1000 by decide)) (.cons rfl (.cons rfl (.nil))),⟨⟨_,rfl,z0y lP7_0 (small (show (2:Nat)≤1000 by decide)) (.cons ⟨_,rfl⟩ (.cons ⟨_,rfl⟩ .nil))⟩,⟨⟨_,rfl,z0y lP7_1 (small (show (2:Nat)≤1000 by decide)) (.cons ⟨_,rfl⟩ (.cons ⟨_,rfl⟩ .nil))⟩,trivial⟩⟩⟩,⟨⟨rfl,_,z0y (xs:=[.ref aP8_0,.ref aP8_1,.ref aP8_2,.ref aP8_3,.ref aP8_4]) lP8 (small (show (5:Nat)≤1000 by decide)) (.cons rfl (.cons rfl (.cons rfl (.cons rfl (.cons rfl (.nil)))))),⟨⟨_,rfl,z0y lP8_0 (small (show (2:Nat)≤1000 by decide)) (.cons ⟨_,rfl⟩ (.cons ⟨_,rfl⟩ .nil))⟩,⟨⟨_,rfl,z0y lP8_1 (small (show (2:Nat)≤1000 by decide)) (.cons ⟨_,rfl⟩ (.cons ⟨_,rfl⟩ .nil))⟩,⟨⟨_,rfl,z0y lP8_2 (small (show (2:Nat)≤1000 by decide)) (.cons ⟨_,rfl⟩ (.cons ⟨_,rfl⟩ .nil))⟩,⟨⟨_,rfl,z0y lP8_3 (small (show (2:Nat)≤1000 by decide)) (.cons ⟨_,rfl⟩ (.cons ⟨_,rfl⟩ .nil))⟩,⟨⟨_,rfl,z0y lP8_4 (small (show (2:Nat)≤1000 by decide)) (.cons ⟨_,rfl⟩ (.cons ⟨_,rfl⟩ .nil))⟩,trivial⟩⟩⟩⟩⟩⟩,⟨⟨rfl,_,z0y (xs:=[.ref aP9_0,.ref aP9_1,.ref aP9_2]) lP9 (small (show (3:Nat)≤1000 by decide)) (.cons rfl (.cons rfl (.cons rfl (.nil)))),⟨⟨_,rfl,z0y lP9_0 (small (show (2:Nat)≤1000 by decide)) (.cons ⟨_,rfl⟩ (.cons ⟨_,rfl⟩ .nil))⟩,⟨⟨_,rfl,z0y lP9_1 (small (show (2:Nat)≤1000 by decide)) (.cons ⟨_,rfl⟩ (.cons ⟨_,rfl⟩ .nil))⟩,⟨⟨_,rfl,z0y lP9_2 (small (show (2:Nat)≤1000 by decide)) (.cons ⟨_,rfl⟩ (.cons ⟨_,rfl⟩ .nil))⟩,trivial⟩⟩⟩⟩,⟨⟨rfl,_,z0y (xs:=[.ref aP10_0,.ref aP10_1]) lP10 (small (show (2:Nat)≤1000 by decide)) (.cons rfl (.cons rfl (.nil))),⟨⟨_,rfl,z0y lP10_0 (small (show (2:Nat)≤1000 by decide)) (.cons ⟨_,rfl⟩ (.cons ⟨_,rfl⟩ .nil))⟩,⟨⟨_,rfl,z0y lP10_1 (small (show (2:Nat)≤1000 by decide)) (.cons ⟨_,rfl⟩ (.cons ⟨_,rfl⟩ .nil))⟩,trivial⟩⟩⟩,⟨⟨rfl,_,z0y (xs:=[.ref aP11_0,.ref aP11_1,.ref aP11_2]) lP11 (small (show (3:Nat)≤1000 by decide)) (.cons rfl (.cons rfl (.cons rfl (.nil)))),⟨⟨_,rfl,z0y lP11_0 (small (show (2:Nat)≤1000 by decide)) (.cons ⟨_,rfl⟩ (.cons ⟨_,rfl⟩ .nil))⟩,⟨⟨_,rfl,z0y lP11_1 (small (show (2:Nat)≤1000 by decide)) (.cons ⟨_,rfl⟩ (.cons ⟨_,rfl⟩ .nil))⟩,⟨⟨_,rfl,z0y lP11_2 (small (show (2:Nat)≤1000 by decide)) (.cons ⟨_,rfl⟩ (.cons ⟨_,rfl⟩ .nil))⟩,trivial⟩⟩⟩⟩,⟨⟨rfl,_,z0y (xs:=[.ref aP12_0,.ref aP12_1]) lP12 (small (show (2:Nat)≤1000 by decide)) (.cons rfl (.cons rfl (.nil))),⟨⟨_,rfl,z0y lP12_0 (small (show (2:Nat)≤1000 by decide)) (.cons ⟨_,rfl⟩ (.cons ⟨_,rfl⟩ .nil))⟩,⟨⟨_,rfl,z0y lP12_1 (small (show (2:Nat)≤1000 by decide)) (.cons ⟨_,rfl⟩ (.cons ⟨_,rfl⟩ .nil))⟩,trivial⟩⟩⟩,⟨⟨rfl,_,z0y (xs:=[.ref aP13_0,.ref aP13_1,.ref aP13_2]) lP13 (small (show (3:Nat)≤1000 by decide)) (.cons rfl (.cons rfl (.cons rfl (.nil)))),⟨⟨_,rfl,z0y lP13_0 (small (show (2:Nat)≤1000 by decide)) (.cons ⟨_,rfl⟩ (.cons ⟨_,rfl⟩ .nil))⟩,⟨⟨_,rfl,z0y lP13_1 (small (show (2:Nat)≤1000 by decide)) (.cons ⟨_,rfl⟩ (.cons ⟨_,rfl⟩ .nil))⟩,⟨⟨_,rfl,z0y lP13_2 (small (show (2:Nat)≤1000 by decide)) (.cons ⟨_,rfl⟩ (.cons ⟨_,rfl⟩ .nil))⟩,trivial⟩⟩⟩⟩,⟨⟨rfl,_,z0y (xs:=[.ref aP14_0,.ref aP14_1,.ref aP14_2]) lP14 (small (show (3:Nat)≤1000 by decide)) (.cons rfl (.cons rfl (.cons rfl (.nil)))),⟨⟨_,rfl,z0y lP14_0 (small (show (2:Nat)≤1000 by decide)) (.cons ⟨_,rfl⟩ (.cons ⟨_,rfl⟩ .nil))⟩,⟨⟨_,rfl,z0y lP14_1 (small (show (2:Nat)≤1000 by decide)) (.cons ⟨_,rfl⟩ (.cons ⟨_,rfl⟩ .nil))⟩,⟨⟨_,rfl,z0y lP14_2 (small (show (2:Nat)≤1000 by decide)) (.cons ⟨_,rfl⟩ (.cons ⟨_,rfl⟩ .nil))⟩,trivial⟩⟩⟩⟩,trivial⟩⟩⟩⟩⟩⟩⟩⟩⟩⟩⟩⟩⟩⟩⟩⟩
 have F0:=z1c (st:=slawnumber) l0 q0 k0
 have b0:=F0.binds (ps:=["n"]) λ _ _ _ _ _ _ us hl=>by
  obtain ⟨_,rfl⟩:=z1t hl
  rfl
 have F1:=z1c (st:=slawsize) l1 q1 k1
 have b1:=F1.binds (ps:=["sides"]) λ _ _ _ _ _ _ us hl=>by
  obtain ⟨_,rfl⟩:=z1t hl
  rfl
 have F2:=z1c (st:=slawwide) l2 q2 k2
 have b2:=F2.binds (ps:=["sides"]) λ _ _ _ _ _ _ us hl=>by
  obtain ⟨_,rfl⟩:=z1t hl
  rfl
 have F3:=z1c (st:=slawrecent) l3 q3 k3
 have b3:=F3.binds (ps:=["pool", "d"]) λ _ _ _ _ _ _ us hl=>by
  obtain ⟨_,_,rfl⟩:=z1n hl
  rfl
 have F4:=z1c (st:=slawled) l4 q4 k4
 have b4:=F4.binds (ps:=["one", "other"]) λ _ _ _ _ _ _ us hl=>by
  obtain ⟨_,_,rfl⟩:=z1n hl
  rfl
 have F5:=z1c (st:=slawbegun) l5 q5 k5
 have b5:=F5.binds (ps:=["kind", "n", "cell", "most"]) λ _ _ _ _ _ _ us hl=>by
  obtain ⟨_,_,_,_,rfl⟩:=z9i hl
  rfl
 have F6:=z1c (st:=slawlaid) l6 q6 k6
 have b6:=F6.binds (ps:=["own", "d"]) λ _ _ _ _ _ _ us hl=>by
  obtain ⟨_,_,rfl⟩:=z1n hl
  rfl
 have F7:=z1c (st:=slawboth) l7 q7 k7
 have b7:=F7.binds (ps:=["own", "other", "side"]) λ _ _ _ _ _ _ us hl=>by
  obtain ⟨_,_,_,rfl⟩:=z2x hl
  rfl
 have F8:=z1c (st:=slawmoved) l8 q8 k8
 have b8:=F8.binds (ps:=["kind", "d", "a", "own", "most"]) λ _ _ _ _ _ _ us hl=>by
  obtain ⟨_,_,_,_,_,rfl⟩:=y2s hl
  rfl
 have F9:=z1c (st:=slawlifted) l9 q9 k9
 have b9:=F9.binds (ps:=["kind", "d", "sides"]) λ _ _ _ _ _ _ us hl=>by
  obtain ⟨_,_,_,rfl⟩:=z2x hl
  rfl
 have F10:=z1c (st:=slawmet) l10 q10 k10
 have b10:=F10.binds (ps:=["kind", "d", "sides", "most"]) λ _ _ _ _ _ _ us hl=>by
  obtain ⟨_,_,_,_,rfl⟩:=z9i hl
  rfl
 have F11:=z1c (st:=slawstep) l11 q11 k11
 have b11:=F11.binds (ps:=["cell", "sides", "most"]) λ _ _ _ _ _ _ us hl=>by
  obtain ⟨_,_,_,rfl⟩:=z2x hl
  rfl
 have F12:=z1c (st:=slawprogram) l12 q12 k12
 have b12:=F12.binds (ps:=["cells", "most"]) λ _ _ _ _ _ _ us hl=>by
  obtain ⟨_,_,rfl⟩:=z1n hl
  rfl
 have F13:=z1c (st:=slawwhole) l13 q13 k13
 have b13:=F13.binds (ps:=["found"]) λ _ _ _ _ _ _ us hl=>by
  obtain ⟨_,rfl⟩:=z1t hl
  rfl
 have F14:=z1c (st:=samount) l14 q14 k14
 have b14:=F14.binds (ps:=["sides"]) λ _ _ _ _ _ _ us hl=>by
  obtain ⟨_,rfl⟩:=z1t hl
  rfl
 have F15:=z1c (st:=sbreadth) l15 q15 k15
 have b15:=F15.binds (ps:=["sides"]) λ _ _ _ _ _ _ us hl=>by
  obtain ⟨_,rfl⟩:=z1t hl
  rfl
 have F16:=z1c (st:=sallowed) l16 q16 k16
 have b16:=F16.binds (ps:=["sides"]) λ _ _ _ _ _ _ us hl=>by
  obtain ⟨_,rfl⟩:=z1t hl
  rfl
 have F17:=z1c (st:=schangedat) l17 q17 k17
 have b17:=F17.binds (ps:=["row", "k", "number"]) λ _ _ _ _ _ _ us hl=>by
  obtain ⟨_,_,_,rfl⟩:=z2x hl
  rfl
 have F18:=z1c (st:=saddedat) l18 q18 k18
 have b18:=F18.binds (ps:=["row", "k", "number"]) λ _ _ _ _ _ _ us hl=>by
  obtain ⟨_,_,_,rfl⟩:=z2x hl
  rfl
 have F19:=z1c (st:=sdroppedat) l19 q19 k19
 have b19:=F19.binds (ps:=["row", "k"]) λ _ _ _ _ _ _ us hl=>by
  obtain ⟨_,_,rfl⟩:=z1n hl
  rfl
 have F20:=z1c (st:=saskside) l20 q20 k20
 have b20:=F20.binds (ps:=["sides", "side"]) λ _ _ _ _ _ _ us hl=>by
  obtain ⟨_,_,rfl⟩:=z1n hl
  rfl
 have F21:=z1c (st:=sturnedsides) l21 q21 k21
 have b21:=F21.binds (ps:=["sides", "order"]) λ _ _ _ _ _ _ us hl=>by
  obtain ⟨_,_,rfl⟩:=z1n hl
  rfl
 have F22:=z1c (st:=sflippedsides) l22 q22 k22
 have b22:=F22.binds (ps:=["sides", "side"]) λ _ _ _ _ _ _ us hl=>by
  obtain ⟨_,_,rfl⟩:=z1n hl
  rfl
 have F23:=z1c (st:=scutsides) l23 q23 k23
 have b23:=F23.binds (ps:=["sides", "side", "first", "many", "step"]) λ _ _ _ _ _ _ us hl=>by
  obtain ⟨_,_,_,_,_,rfl⟩:=y2s hl
  rfl
 have F24:=z1c (st:=sspreadsides) l24 q24 k24
 have b24:=F24.binds (ps:=["sides", "side", "many"]) λ _ _ _ _ _ _ us hl=>by
  obtain ⟨_,_,_,rfl⟩:=z2x hl
  rfl
 have F25:=z1c (st:=sledsides) l25 q25 k25
 have b25:=F25.binds (ps:=["sides", "others"]) λ _ _ _ _ _ _ us hl=>by
  obtain ⟨_,_,rfl⟩:=z1n hl
  rfl
 have F26:=z1c (st:=sfoldedsides) l26 q26 k26
 have b26:=F26.binds (ps:=["sides", "side"]) λ _ _ _ _ _ _ us hl=>by
  obtain ⟨_,_,rfl⟩:=z1n hl
  rfl
 have F27:=z1c (st:=slaidsides) l27 q27 k27
 have b27:=F27.binds (ps:=["sides", "others"]) λ _ _ _ _ _ _ us hl=>by
  obtain ⟨_,_,rfl⟩:=z1n hl
  rfl
 have F28:=z1c (st:=sjoinedsides) l28 q28 k28
 have b28:=F28.binds (ps:=["sides", "others", "side"]) λ _ _ _ _ _ _ us hl=>by
  obtain ⟨_,_,_,rfl⟩:=z2x hl
  rfl
 have F29:=z1c (st:=scountedsides) l29 q29 k29
 have b29:=F29.binds (ps:=["sides", "side"]) λ _ _ _ _ _ _ us hl=>by
  obtain ⟨_,_,rfl⟩:=z1n hl
  rfl
 have F30:=z1c (st:=spairedsides) l30 q30 k30
 have b30:=F30.binds (ps:=["sides", "others"]) λ _ _ _ _ _ _ us hl=>by
  obtain ⟨_,_,rfl⟩:=z1n hl
  rfl
 have F31:=z1c (st:=spickedsides) l31 q31 k31
 have b31:=F31.binds (ps:=["marks", "sides", "others"]) λ _ _ _ _ _ _ us hl=>by
  obtain ⟨_,_,_,rfl⟩:=z2x hl
  rfl
 have F32:=z1c (st:=sfetchedsides) l32 q32 k32
 have b32:=F32.binds (ps:=["sides", "others"]) λ _ _ _ _ _ _ us hl=>by
  obtain ⟨_,_,rfl⟩:=z1n hl
  rfl
 have F33:=z1c (st:=swrapped) l33 q33 k33
 have b33:=F33.binds (ps:=["n"]) λ _ _ _ _ _ _ us hl=>by
  obtain ⟨_,rfl⟩:=z1t hl
  rfl
 have F34:=z1c (st:=ssignof) l34 q34 k34
 have b34:=F34.binds (ps:=["x"]) λ _ _ _ _ _ _ us hl=>by
  obtain ⟨_,rfl⟩:=z1t hl
  rfl
 have F35:=z1c (st:=squotient) l35 q35 k35
 have b35:=F35.binds (ps:=["x", "y"]) λ _ _ _ _ _ _ us hl=>by
  obtain ⟨_,_,rfl⟩:=z1n hl
  rfl
 have F36:=z1c (st:=sremainder) l36 q36 k36
 have b36:=F36.binds (ps:=["x", "y"]) λ _ _ _ _ _ _ us hl=>by
  obtain ⟨_,_,rfl⟩:=z1n hl
  rfl
 have F37:=z1c (st:=sonce) l37 q37 k37
 have b37:=F37.binds (ps:=["word", "x"]) λ _ _ _ _ _ _ us hl=>by
  obtain ⟨_,_,rfl⟩:=z1n hl
  rfl
 have F38:=z1c (st:=stwice) l38 q38 k38
 have b38:=F38.binds (ps:=["word", "x", "y"]) λ _ _ _ _ _ _ us hl=>by
  obtain ⟨_,_,_,rfl⟩:=z2x hl
  rfl
 have F39:=z1c (st:=sneutral) l39 q39 k39
 have b39:=F39.binds (ps:=["word"]) λ _ _ _ _ _ _ us hl=>by
  obtain ⟨_,rfl⟩:=z1t hl
  rfl
 have F40:=z1c (st:=sargplaces) l40 q40 k40
 have b40:=F40.binds (ps:=["form"]) λ _ _ _ _ _ _ us hl=>by
  obtain ⟨_,rfl⟩:=z1t hl
  rfl
 have F41:=z1c (st:=sargsof) l41 q41 k41
 have b41:=F41.binds (ps:=["step"]) λ _ _ _ _ _ _ us hl=>by
  obtain ⟨_,rfl⟩:=z1t hl
  rfl
 have F42:=z1c (st:=saskword) l42 q42 k42
 have b42:=F42.binds (ps:=["step"]) λ _ _ _ _ _ _ us hl=>by
  obtain ⟨_,rfl⟩:=z1t hl
  rfl
 have F43:=z1c (st:=sfirstsides) l43 q43 k43
 have b43:=F43.binds (ps:=["step"]) λ _ _ _ _ _ _ us hl=>by
  obtain ⟨_,rfl⟩:=z1t hl
  rfl
 have F44:=z1c (st:=smovedsides) l44 q44 k44
 have b44:=F44.binds (ps:=["step", "sides"]) λ _ _ _ _ _ _ us hl=>by
  obtain ⟨_,_,rfl⟩:=z1n hl
  rfl
 have F45:=z1c (st:=sstepsides) l45 q45 k45
 have b45:=F45.binds (ps:=["step", "sides"]) λ _ _ _ _ _ _ us hl=>by
  obtain ⟨_,_,rfl⟩:=z1n hl
  rfl
 have F46:=z1c (st:=ssteptold) l46 q46 k46
 have b46:=F46.binds (ps:=["step", "sides"]) λ _ _ _ _ _ _ us hl=>by
  obtain ⟨_,_,rfl⟩:=z1n hl
  rfl
 have F47:=z1c (st:=sprogramtold) l47 q47 k47
 have b47:=F47.binds (ps:=["program"]) λ _ _ _ _ _ _ us hl=>by
  obtain ⟨_,rfl⟩:=z1t hl
  rfl
 have F48:=z1c (st:=schecked) l48 q48 k48
 have b48:=F48.binds (ps:=["program"]) λ _ _ _ _ _ _ us hl=>by
  obtain ⟨_,rfl⟩:=z1t hl
  rfl
 have F49:=z1c (st:=sstepcalls) l49 q49 k49
 have b49:=F49.binds (ps:=["step", "own", "sides"]) λ _ _ _ _ _ _ us hl=>by
  obtain ⟨_,_,_,rfl⟩:=z2x hl
  rfl
 have F50:=z1c (st:=splaincalls) l50 q50 k50
 have b50:=F50.binds (ps:=["program"]) λ _ _ _ _ _ _ us hl=>by
  obtain ⟨_,rfl⟩:=z1t hl
  rfl
 have F51:=z1c (st:=splaincells) l51 q51 k51
 have b51:=F51.binds (ps:=["program"]) λ _ _ _ _ _ _ us hl=>by
  obtain ⟨_,rfl⟩:=z1t hl
  rfl
 have F52:=z1c (st:=slawdue) l52 q52 k52
 have b52:=F52.binds (ps:=["steps", "sides"]) λ _ _ _ _ _ _ us hl=>by
  obtain ⟨_,_,rfl⟩:=z1n hl
  rfl
 have F53:=z1c (st:=slawrefused) l53 q53 k53
 have b53:=F53.binds (ps:=["way", "program"]) λ _ _ _ _ _ _ us hl=>by
  obtain ⟨_,_,rfl⟩:=z1n hl
  rfl
 have F54:=z1c (st:=slawfine) l54 q54 k54
 have b54:=F54.binds (ps:=["cells", "most"]) λ _ _ _ _ _ _ us hl=>by
  obtain ⟨_,_,rfl⟩:=z1n hl
  rfl
 have F55:=z1c (st:=slaw) l55 q55 k55
 have b55:=F55.binds (ps:=["script"]) λ _ _ _ _ _ _ us hl=>by
  obtain ⟨_,rfl⟩:=z1t hl
  rfl
 refine ⟨W.fnOf "law" "law" (defArgs slaw) (defBody slaw) (defScope slaw) .none kV55 dc55 pm55 an55 cd55 ct55,λ s v=>.of_eq rfl,λ base KB GB=>?_⟩
 have FI:=z1c (st:=sinit) lI qI kI
 have MB:MkX K CBadStep fI [.type "ValueError",.type "Exception",.type "BaseException",.type "object"] "ValueError.__new__" := ⟨clsI,aI,iI,kC⟩
 have aBS:AtX K CBadStep:=⟨ovI,saI,gaI⟩
 have ek:ExcK K CBadStep:=⟨kc,gaI,n3,kcl,kmo,kmb⟩
 have bB:=FI.binds (ps:=["self", "text", "at", "why"]) λ _ _ _ _ _ _ us hl=>by
  obtain ⟨_,_,_,_,rfl⟩:=z9i hl
  rfl
 have FB:=x3f (P:=l.prog) (w:=w) (base:=base) (mg:=mg) FI (W.mg_of X G nLoomError) hL1 hL2 hL3 (by decide +kernel)
 have O_lawnumber:=y0g (P:=l.prog) (w:=w) (base:=base) (mg:=mg) F0
 have C_lawnumber:=Callee.mk' F0 (W.mg_of X G a0) b0 O_lawnumber
 have O_lawsize:=y4m (P:=l.prog) (w:=w) (base:=base) (mg:=mg) F1
 have C_lawsize:=Callee.mk' F1 (W.mg_of X G a1) b1 O_lawsize
 have O_lawwide:=y4k (P:=l.prog) (w:=w) (base:=base) (mg:=mg) F2 (C_lawsize.mono (by decide)) (W.mg_none_of X G zmax)
 have C_lawwide:=Callee.mk' F2 (W.mg_of X G a2) b2 O_lawwide
 have O_lawrecent:=y0f (P:=l.prog) (w:=w) (base:=base) (mg:=mg) F3 (W.mg_none_of X G zlen) (W.mg_none_of X G zmin)
 have C_lawrecent:=Callee.mk' F3 (W.mg_of X G a3) b3 O_lawrecent
 have O_lawled:=y7r (P:=l.prog) (w:=w) (base:=base) (mg:=mg) F4 (W.mg_none_of X G zmin) (W.mg_none_of X G zlen)
 have C_lawled:=Callee.mk' F4 (W.mg_of X G a4) b4 O_lawled
 have O_lawbegun:=y2h (P:=l.prog) (w:=w) (base:=base) (mg:=mg) F5 (C_lawnumber.mono (by decide)) (C_lawwide.mono (by decide)) (W.mg_none_of X G zrange) (W.mg_none_of X G zmin) (W.mg_none_of X G zlen)
 have C_lawbegun:=Callee.mk' F5 (W.mg_of X G a5) b5 O_lawbegun
 have O_lawlaid:=y4n (P:=l.prog) (w:=w) (base:=base) (mg:=mg) F6 (C_lawsize.mono (by decide)) (W.mg_none_of X G zlen) (W.mg_none_of X G ztuple) (W.mg_none_of X G zreversed)
 have C_lawlaid:=Callee.mk' F6 (W.mg_of X G a6) b6 O_lawlaid
 have O_lawboth:=y4p (P:=l.prog) (w:=w) (base:=base) (mg:=mg) F7 (W.mg_none_of X G zlen)
 have C_lawboth:=Callee.mk' F7 (W.mg_of X G a7) b7 O_lawboth
 have O_lawmoved:=y2g (P:=l.prog) (w:=w) (base:=base) (mg:=mg) F8 (C_lawlaid.mono (by decide)) (C_lawwide.mono (by decide)) (W.mg_none_of X G zrange) (W.mg_none_of X G zlen) (W.mg_none_of X G ztuple) (W.mg_none_of X G zmin) (W.mg_none_of X G zmax)
 have C_lawmoved:=Callee.mk' F8 (W.mg_of X G a8) b8 O_lawmoved
 have O_lawlifted:=y0h (P:=l.prog) (w:=w) (base:=base) (mg:=mg) F9 (C_lawrecent.mono (by decide)) (C_lawled.mono (by decide)) (W.mg_none_of X G zlist) (W.mg_none_of X G zrange) (W.mg_none_of X G zlen) (W.mg_none_of X G zmax)
 have C_lawlifted:=Callee.mk' F9 (W.mg_of X G a9) b9 O_lawlifted
 have O_lawmet:=y7q (P:=l.prog) (w:=w) (base:=base) (mg:=mg) F10 (C_lawrecent.mono (by decide)) (C_lawboth.mono (by decide)) (C_lawwide.mono (by decide)) (W.mg_none_of X G zrange) (W.mg_none_of X G zlen)
 have C_lawmet:=Callee.mk' F10 (W.mg_of X G a10) b10 O_lawmet
 have O_lawstep:=y4l (P:=l.prog) (w:=w) (base:=base) (mg:=mg) F11 (C_lawbegun.mono (by decide)) (C_lawlifted.mono (by decide)) (C_lawmet.mono (by decide)) (C_lawrecent.mono (by decide)) (C_lawmoved.mono (by decide)) (W.mg_none_of X G zlen) (W.mg_none_of X G zmax) (W.mg_none_of X G zlist) (W.mg_none_of X G zrange) (W.mg_none_of X G zmin) (W.mg_none_of X G zint)
 have C_lawstep:=Callee.mk' F11 (W.mg_of X G a11) b11 O_lawstep
 have O_lawprogram:=z8k (P:=l.prog) (w:=w) (base:=base) (mg:=mg) F12 (C_lawstep.mono (by decide)) (W.mg_none_of X G zlen) (W.mg_none_of X G zsum) (W.mg_none_of X G zrange) (W.mg_none_of X G ztuple)
 have C_lawprogram:=Callee.mk' F12 (W.mg_of X G a12) b12 O_lawprogram
 have O_lawwhole:=y2f (P:=l.prog) (w:=w) (base:=base) (mg:=mg) F13 (W.mg_none_of X G zisinstance) (W.mg_none_of X G zint) (W.mg_none_of X G zbool)
 have C_lawwhole:=Callee.mk' F13 (W.mg_of X G a13) b13 O_lawwhole
 have O_amount:=y7u (P:=l.prog) (w:=w) (base:=base) (mg:=mg) F14
 have C_amount:=Callee.mk' F14 (W.mg_of X G a14) b14 O_amount
 have O_breadth:=y4r (P:=l.prog) (w:=w) (base:=base) (mg:=mg) F15 (C_amount.mono (by decide))
 have C_breadth:=Callee.mk' F15 (W.mg_of X G a15) b15 O_breadth
 have O_allowed:=y4u (P:=l.prog) (w:=w) (base:=base) (mg:=mg) F16 nTooLarge (C_breadth.mono (by decide)) (W.mg_none_of X G zlen) (W.mg_of X G gMOST_SIDES) (W.mg_of X G gMOST_BREADTH) xTooLarge
 have C_allowed:=Callee.mk' F16 (W.mg_of X G a16) b16 O_allowed
 have O_changedat:=y0k (P:=l.prog) (w:=w) (base:=base) (mg:=mg) F17
 have C_changedat:=Callee.mk' F17 (W.mg_of X G a17) b17 O_changedat
 have O_addedat:=y4v (P:=l.prog) (w:=w) (base:=base) (mg:=mg) F18
 have C_addedat:=Callee.mk' F18 (W.mg_of X G a18) b18 O_addedat
 have O_droppedat:=y0j (P:=l.prog) (w:=w) (base:=base) (mg:=mg) F19
 have C_droppedat:=Callee.mk' F19 (W.mg_of X G a19) b19 O_droppedat
 have O_askside:=y4t (P:=l.prog) (w:=w) (base:=base) (mg:=mg) F20 nNoSide (W.mg_none_of X G zlen) xNoSide
 have C_askside:=Callee.mk' F20 (W.mg_of X G a20) b20 O_askside
 have O_turnedsides:=z7b (P:=l.prog) (w:=w) (base:=base) (mg:=mg) F21 nNoSide (W.mg_none_of X G zsorted) (W.mg_none_of X G zlist) (W.mg_none_of X G zrange) (W.mg_none_of X G zlen) (W.mg_none_of X G ztuple) xNoSide
 have C_turnedsides:=Callee.mk' F21 (W.mg_of X G a21) b21 O_turnedsides
 have O_flippedsides:=z5t (P:=l.prog) (w:=w) (base:=base) (mg:=mg) F22 nNoSide (C_askside.mono (by decide))
 have C_flippedsides:=Callee.mk' F22 (W.mg_of X G a22) b22 O_flippedsides
 have O_cutsides:=y2i (P:=l.prog) (w:=w) (base:=base) (mg:=mg) F23 nNoSide nBeyond (C_askside.mono (by decide)) (C_changedat.mono (by decide)) xBeyond
 have C_cutsides:=Callee.mk' F23 (W.mg_of X G a23) b23 O_cutsides
 have O_spreadsides:=z7c (P:=l.prog) (w:=w) (base:=base) (mg:=mg) F24 nNoSide nBeyond nTooLarge (C_addedat.mono (by decide)) (C_allowed.mono (by decide)) (W.mg_none_of X G zlen) xNoSide xBeyond
 have C_spreadsides:=Callee.mk' F24 (W.mg_of X G a24) b24 O_spreadsides
 have O_ledsides:=y2e (P:=l.prog) (w:=w) (base:=base) (mg:=mg) F25 nUnlike (W.mg_none_of X G zlen) xUnlike
 have C_ledsides:=Callee.mk' F25 (W.mg_of X G a25) b25 O_ledsides
 have O_foldedsides:=z7h (P:=l.prog) (w:=w) (base:=base) (mg:=mg) F26 nNoSide (C_askside.mono (by decide)) (C_droppedat.mono (by decide))
 have C_foldedsides:=Callee.mk' F26 (W.mg_of X G a26) b26 O_foldedsides
 have O_laidsides:=y0i (P:=l.prog) (w:=w) (base:=base) (mg:=mg) F27 nTooLarge nUnlike (C_allowed.mono (by decide)) (C_amount.mono (by decide)) xUnlike
 have C_laidsides:=Callee.mk' F27 (W.mg_of X G a27) b27 O_laidsides
 have O_joinedsides:=z7g (P:=l.prog) (w:=w) (base:=base) (mg:=mg) F28 nUnlike nNoSide nTooLarge (C_askside.mono (by decide)) (C_droppedat.mono (by decide)) (C_allowed.mono (by decide)) (C_changedat.mono (by decide)) (W.mg_none_of X G zlen) xUnlike
 have C_joinedsides:=Callee.mk' F28 (W.mg_of X G a28) b28 O_joinedsides
 have O_countedsides:=z5v (P:=l.prog) (w:=w) (base:=base) (mg:=mg) F29 nTooLarge nNoSide (C_allowed.mono (by decide)) (C_askside.mono (by decide))
 have C_countedsides:=Callee.mk' F29 (W.mg_of X G a29) b29 O_countedsides
 have O_pairedsides:=z7f (P:=l.prog) (w:=w) (base:=base) (mg:=mg) F30 nUnlike (C_ledsides.mono (by decide)) (W.mg_none_of X G zlen)
 have C_pairedsides:=Callee.mk' F30 (W.mg_of X G a30) b30 O_pairedsides
 have O_pickedsides:=z7e (P:=l.prog) (w:=w) (base:=base) (mg:=mg) F31 nUnlike (C_pairedsides.mono (by decide))
 have C_pickedsides:=Callee.mk' F31 (W.mg_of X G a31) b31 O_pickedsides
 have O_fetchedsides:=z5u (P:=l.prog) (w:=w) (base:=base) (mg:=mg) F32 nNoSide nBeyond nTooLarge (C_allowed.mono (by decide)) (W.mg_none_of X G zlen) xNoSide xBeyond
 have C_fetchedsides:=Callee.mk' F32 (W.mg_of X G a32) b32 O_fetchedsides
 have O_wrapped:=y4i (P:=l.prog) (w:=w) (base:=base) (mg:=mg) F33 (W.mg_of X G gLOW)
 have C_wrapped:=Callee.mk' F33 (W.mg_of X G a33) b33 O_wrapped
 have O_signof:=y7p (P:=l.prog) (w:=w) (base:=base) (mg:=mg) F34
 have C_signof:=Callee.mk' F34 (W.mg_of X G a34) b34 O_signof
 have O_quotient:=y2d (P:=l.prog) (w:=w) (base:=base) (mg:=mg) F35 (C_wrapped.mono (by decide))
 have C_quotient:=Callee.mk' F35 (W.mg_of X G a35) b35 O_quotient
 have O_remainder:=y0e (P:=l.prog) (w:=w) (base:=base) (mg:=mg) F36
 have C_remainder:=Callee.mk' F36 (W.mg_of X G a36) b36 O_remainder
 have O_once:=x3e (P:=l.prog) (w:=w) (base:=base) (mg:=mg) F37 nNoWord (C_wrapped.mono (by decide)) (C_signof.mono (by decide)) (W.mg_none_of X G zabs) xNoWord
 have C_once:=Callee.mk' F37 (W.mg_of X G a37) b37 O_once
 have O_twice:=x1c (P:=l.prog) (w:=w) (base:=base) (mg:=mg) F38 nNoWord (C_wrapped.mono (by decide)) (C_quotient.mono (by decide)) (C_remainder.mono (by decide)) (W.mg_none_of X G zmax) (W.mg_none_of X G zmin) xNoWord
 have C_twice:=Callee.mk' F38 (W.mg_of X G a38) b38 O_twice
 have O_neutral:=y4j (P:=l.prog) (w:=w) (base:=base) (mg:=mg) F39 nNoWord (W.mg_of X G gLOW) (W.mg_of X G gHIGH) xNoWord
 have C_neutral:=Callee.mk' F39 (W.mg_of X G a39) b39 O_neutral
 have O_argplaces:=y0l (P:=l.prog) (w:=w) (base:=base) (mg:=mg) F40 (W.mg_of X G gPT) TP
 have C_argplaces:=Callee.mk' F40 (W.mg_of X G a40) b40 O_argplaces
 have O_argsof:=y7t (P:=l.prog) (w:=w) (base:=base) (mg:=mg) F41 (C_argplaces.mono (by decide)) (W.mg_none_of X G ztuple)
 have C_argsof:=Callee.mk' F41 (W.mg_of X G a41) b41 O_argsof
 have O_askword:=y4s (P:=l.prog) (w:=w) (base:=base) (mg:=mg) F42 nNoWord (C_once.mono (by decide)) (C_twice.mono (by decide)) (C_neutral.mono (by decide))
 have C_askword:=Callee.mk' F42 (W.mg_of X G a42) b42 O_askword
 have O_firstsides:=z8l (P:=l.prog) (w:=w) (base:=base) (mg:=mg) F43 nTooLarge nNoSide (C_allowed.mono (by decide)) (C_countedsides.mono (by decide))
 have C_firstsides:=Callee.mk' F43 (W.mg_of X G a43) b43 O_firstsides
 have O_movedsides:=z8i (P:=l.prog) (w:=w) (base:=base) (mg:=mg) F44 nNoSide nBeyond nTooLarge nUnlike (C_turnedsides.mono (by decide)) (C_flippedsides.mono (by decide)) (C_cutsides.mono (by decide)) (C_spreadsides.mono (by decide)) (C_laidsides.mono (by decide)) (C_foldedsides.mono (by decide))
 have C_movedsides:=Callee.mk' F44 (W.mg_of X G a44) b44 O_movedsides
 have O_stepsides:=y0c (P:=l.prog) (w:=w) (base:=base) (mg:=mg) F45 nNoWord nNoSide nBeyond nTooLarge nUnlike (C_askword.mono (by decide)) (C_argsof.mono (by decide)) (C_firstsides.mono (by decide)) (C_movedsides.mono (by decide)) (C_pairedsides.mono (by decide)) (C_joinedsides.mono (by decide)) (C_fetchedsides.mono (by decide)) (C_pickedsides.mono (by decide)) (W.mg_none_of X G zlen)
 have C_stepsides:=Callee.mk' F45 (W.mg_of X G a45) b45 O_stepsides
 have O_steptold:=y2c (P:=l.prog) (w:=w) (base:=base) (mg:=mg) F46 nNoWord nNoSide nBeyond nUnlike nTooLarge (C_argsof.mono (by decide)) (C_stepsides.mono (by decide)) (W.mg_none_of X G zlen) (W.mg_none_of X G zany) (W.mg_of X G gMOST_STEPS) eNW
 have C_steptold:=Callee.mk' F46 (W.mg_of X G a46) b46 O_steptold
 have O_programtold:=z7d (P:=l.prog) (w:=w) (base:=base) (mg:=mg) F47 (C_steptold.mono (by decide)) (W.mg_none_of X G zlen) (W.mg_none_of X G zany) (W.mg_none_of X G ztuple) (W.mg_of X G gMOST_OUTS)
 have C_programtold:=Callee.mk' F47 (W.mg_of X G a47) b47 O_programtold
 have O_checked:=y4q (P:=l.prog) (w:=w) (base:=base) (mg:=mg) F48 nBadStep (C_programtold.mono (by decide)) (W.mg_of X G nBadStep) MB FB bB aBS n1 n2
 have C_checked:=Callee.mk' F48 (W.mg_of X G a48) b48 O_checked
 have O_stepcalls:=y0d (P:=l.prog) (w:=w) (base:=base) (mg:=mg) F49 (C_amount.mono (by decide))
 have C_stepcalls:=Callee.mk' F49 (W.mg_of X G a49) b49 O_stepcalls
 have O_plaincalls:=z8h (P:=l.prog) (w:=w) (base:=base) (mg:=mg) F50 nBadStep (C_checked.mono (by decide)) (C_stepcalls.mono (by decide)) (W.mg_none_of X G zsum) (W.mg_none_of X G zzip)
 have C_plaincalls:=Callee.mk' F50 (W.mg_of X G a50) b50 O_plaincalls
 have O_plaincells:=z8g (P:=l.prog) (w:=w) (base:=base) (mg:=mg) F51 nBadStep (C_checked.mono (by decide)) (C_amount.mono (by decide)) (W.mg_none_of X G zsum) (W.mg_none_of X G zzip)
 have C_plaincells:=Callee.mk' F51 (W.mg_of X G a51) b51 O_plaincells
 have O_lawdue:=y7s (P:=l.prog) (w:=w) (base:=base) (mg:=mg) F52 (C_lawsize.mono (by decide)) (W.mg_none_of X G zrange) (W.mg_none_of X G zlen)
 have C_lawdue:=Callee.mk' F52 (W.mg_of X G a52) b52 O_lawdue
 have O_lawrefused:=z8j (P:=l.prog) (w:=w) (base:=base) (mg:=mg) F53 nBadStep nLoomError (C_plaincalls.mono (by decide)) (C_plaincells.mono (by decide)) (W.mg_none_of X G zisinstance) (W.mg_of X G nBadStep) MB.cls aBS n1 n2 n3 ek ei
 have C_lawrefused:=Callee.mk' F53 (W.mg_of X G a53) b53 O_lawrefused
 have O_lawfine:=y4o (P:=l.prog) (w:=w) (base:=base) (mg:=mg) F54 (C_lawprogram.mono (by decide)) (C_plaincalls.mono (by decide)) (C_plaincells.mono (by decide)) (C_lawdue.mono (by decide)) (C_lawwhole.mono (by decide)) (C_lawrefused.mono (by decide)) (W.mg_none_of X G zlen)
 have C_lawfine:=Callee.mk' F54 (W.mg_of X G a54) b54 O_lawfine
 have O_law:=x4y (P:=l.prog) (w:=w) (base:=base) (mg:=mg) F55 (C_lawfine.mono (by decide)) (W.mg_none_of X G zlen) (W.mg_none_of X G zrange)
 exact O_law
theorem walk {l:W.OpenLaw}{q:Program}{loose:List Str}{XP:(Str->Option Value)->Heap->Prop}{YP:World->Heap->Prop}{d:DefRec}{K:Params->W.Frag}(hn:l.most=some 63) (hdf:d.params.defaults=[])
  (hY:∀(w:World) (h:Heap),YP w h->(K w.params).In h)
  (F:∀(w:World) (mg:Str->Option Value) (fa:Addr) (h:Heap),(K w.params).In h->h.Ns mainGlobals mg->mg d.name=some (.ref fa) ->
   ∃fd:FuncData,(∀(s:Shared) (u:Value),BindsTo s fd ⟨[u],[]⟩ [("script",u)])/\∀base:Heap,(K w.params).In base->base.Ns mainGlobals mg->FnOk l.prog w (K w.params) mg base (CX0) 13 fa fd ["script"] (splaw (K w.params))) :
  W.WalkO q loose XP YP l.row.toRowW d [] (λ f vs=>PySem.call f vs) :=
 L2.walk_of (n:=63) (k:=13) (x := "script") (CX:=λ _=>CX0) (sp:=λ w=>splaw (K w.params)) hn (by decide) hdf ⟨rfl,by decide,by decide⟩ hY F (λ _ _ a ns hl hfew hS=>⟨a,ns,rfl,hS,hl,λ _=>rfl⟩) λ _ _ _ _ _ z=>z
end My
end
open PySem PySem.W PyProof.Rows
set_option maxRecDepth 100000 in
set_option maxHeartbeats 0 in
theorem PySem.Challenge.cw_sideloom_k56_costs_of_the_plain_way_holds : PySem.Challenge.rw_sideloom_k56_costs_of_the_plain_way.Holds := by
 w_on;o_law;k_head;(case hw=>w_witness2)
 k_fill
 refine My.walk (l:=PySem.Challenge.rw_sideloom_k56_costs_of_the_plain_way) rfl rfl (λ w h Y=>W.kIn_of Y) ?F
 case F =>
  intro w mg fa h KX G hmg
  refine' My.all_mk KX G hmg ?a0 ?l0 ?q0 ?k0 ?a1 ?l1 ?q1 ?k1 ?a2 ?l2 ?q2 ?k2 ?a3 ?l3 ?q3 ?k3 ?a4 ?l4 ?q4 ?k4 ?a5 ?l5 ?q5 ?k5 ?a6 ?l6 ?q6 ?k6 ?a7 ?l7 ?q7 ?k7 ?a8 ?l8 ?q8 ?k8 ?a9 ?l9 ?q9 ?k9 ?a10 ?l10 ?q10 ?k10 ?a11 ?l11 ?q11 ?k11 ?a12 ?l12 ?q12 ?k12 ?a13 ?l13 ?q13 ?k13 ?a14 ?l14 ?q14 ?k14 ?a15 ?l15 ?q15 ?k15 ?a16 ?l16 ?q16 ?k16 ?a17 ?l17 ?q17 ?k17 ?a18 ?l18 ?q18 ?k18 ?a19 ?l19 ?q19 ?k19 ?a20 ?l20 ?q20 ?k20 ?a21 ?l21 ?q21 ?k21 ?a22 ?l22 ?q22 ?k22 ?a23 ?l23 ?q23 ?k23 ?a24 ?l24 ?q24 ?k24 ?a25 ?l25 ?q25 ?k25 ?a26 ?l26 ?q26 ?k26 ?a27 ?l27 ?q27 ?k27 ?a28 ?l28 ?q28 ?k28 ?a29 ?l29 ?q29 ?k29 ?a30 ?l30 ?q30 ?k30 ?a31 ?l31 ?q31 ?k31 ?a32 ?l32 ?q32 ?k32 ?a33 ?l33 ?q33 ?k33 ?a34 ?l34 ?q34 ?k34 ?a35 ?l35 ?q35 ?k35 ?a36 ?l36 ?q36 ?k36 ?a37 ?l37 ?q37 ?k37 ?a38 ?l38 ?q38 ?k38 ?a39 ?l39 ?q39 ?k39 ?a40 ?l40 ?q40 ?k40 ?a41 ?l41 ?q41 ?k41 ?a42 ?l42 ?q42 ?k42 ?a43 ?l43 ?q43 ?k43 ?a44 ?l44 ?q44 ?k44 ?a45 ?l45 ?q45 ?k45 ?a46 ?l46 ?q46 ?k46 ?a47 ?l47 ?q47 ?k47 ?a48 ?l48 ?q48 ?k48 ?a49 ?l49 ?q49 ?k49 ?a50 ?l50 ?q50 ?k50 ?a51 ?l51 ?q51 ?k51 ?a52 ?l52 ?q52 ?k52 ?a53 ?l53 ?q53 ?k53 ?a54 ?l54 ?q54 ?k54 ?a55 ?l55 ?q55 ?k55 ?zmax ?zlen ?zmin ?zrange ?ztuple ?zreversed ?zlist ?zint ?zsum ?zisinstance ?zbool ?zsorted ?zabs ?zany ?zzip ?gMOST_SIDES ?gMOST_BREADTH ?gLOW ?gHIGH ?gMOST_STEPS ?gMOST_OUTS ?nTooLarge ?nNoSide ?nBeyond ?nUnlike ?nNoWord ?nBadStep ?nLoomError ?gPT ?dPT0 ?lPT ?lP0 ?lP0_0 ?lP1 ?lP1_0 ?lP2 ?lP2_0 ?lP2_1 ?lP3 ?lP3_0 ?lP3_1 ?lP4 ?lP4_0 ?lP4_1 ?lP4_2 ?lP5 ?lP5_0 ?lP5_1 ?lP5_2 ?lP6 ?lP6_0 ?lP6_1 ?lP7 ?lP7_0 ?lP7_1 ?lP8 ?lP8_0 ?lP8_1 ?lP8_2 ?lP8_3 ?lP8_4 ?lP9 ?lP9_0 ?lP9_1 ?lP9_2 ?lP10 ?lP10_0 ?lP10_1 ?lP11 ?lP11_0 ?lP11_1 ?lP11_2 ?lP12 ?lP12_0 ?lP12_1 ?lP13 ?lP13_0 ?lP13_1 ?lP13_2 ?lP14 ?lP14_0 ?lP14_1 ?lP14_2 ?xNoWord ?xNoSide ?xBeyond ?xUnlike ?xTooLarge ?eNW ?aI ?lI ?qI ?kI ?iI ?kC ?clsI ?ovI ?saI ?gaI ?n1 ?n2 ?n3 ?kc ?kcl ?kmo ?kmb ?ei ?hL1 ?hL2 ?hL3
  (case a0=>k_is)
  (case l0=>k_is)
  (case q0=>k_is)
  (case k0=>k_is)
  (case a1=>k_is)
  (case l1=>k_is)
  (case q1=>k_is)
  (case k1=>k_is)
  (case a2=>k_is)
  (case l2=>k_is)
  (case q2=>k_is)
  (case k2=>k_is)
  (case a3=>k_is)
  (case l3=>k_is)
  (case q3=>k_is)
  (case k3=>k_is)
  (case a4=>k_is)
  (case l4=>k_is)
  (case q4=>k_is)
  (case k4=>k_is)
  (case a5=>k_is)
  (case l5=>k_is)
  (case q5=>k_is)
  (case k5=>k_is)
  (case a6=>k_is)
  (case l6=>k_is)
  (case q6=>k_is)
  (case k6=>k_is)
  (case a7=>k_is)
  (case l7=>k_is)
  (case q7=>k_is)
  (case k7=>k_is)
  (case a8=>k_is)
  (case l8=>k_is)
  (case q8=>k_is)
  (case k8=>k_is)
  (case a9=>k_is)
  (case l9=>k_is)
  (case q9=>k_is)
  (case k9=>k_is)
  (case a10=>k_is)
  (case l10=>k_is)
  (case q10=>k_is)
  (case k10=>k_is)
  (case a11=>k_is)
  (case l11=>k_is)
  (case q11=>k_is)
  (case k11=>k_is)
  (case a12=>k_is)
  (case l12=>k_is)
  (case q12=>k_is)
  (case k12=>k_is)
  (case a13=>k_is)
  (case l13=>k_is)
  (case q13=>k_is)
  (case k13=>k_is)
  (case a14=>k_is)
  (case l14=>k_is)
  (case q14=>k_is)
  (case k14=>k_is)
  (case a15=>k_is)
  (case l15=>k_is)
  (case q15=>k_is)
  (case k15=>k_is)
  (case a16=>k_is)
  (case l16=>k_is)
  (case q16=>k_is)
  (case k16=>k_is)
  (case a17=>k_is)
  (case l17=>k_is)
  (case q17=>k_is)
  (case k17=>k_is)
  (case a18=>k_is)
  (case l18=>k_is)
  (case q18=>k_is)
  (case k18=>k_is)
  (case a19=>k_is)
  (case l19=>k_is)
  (case q19=>k_is)
  (case k19=>k_is)
  (case a20=>k_is)
  (case l20=>k_is)
  (case q20=>k_is)
  (case k20=>k_is)
  (case a21=>k_is)
  (case l21=>k_is)
  (case q21=>k_is)
  (case k21=>k_is)
  (case a22=>k_is)
  (case l22=>k_is)
  (case q22=>k_is)
  (case k22=>k_is)
  (case a23=>k_is)
  (case l23=>k_is)
  (case q23=>k_is)
  (case k23=>k_is)
  (case a24=>k_is)
  (case l24=>k_is)
  (case q24=>k_is)
  (case k24=>k_is)
  (case a25=>k_is)
  (case l25=>k_is)
  (case q25=>k_is)
  (case k25=>k_is)
  (case a26=>k_is)
  (case l26=>k_is)
  (case q26=>k_is)
  (case k26=>k_is)
  (case a27=>k_is)
  (case l27=>k_is)
  (case q27=>k_is)
  (case k27=>k_is)
  (case a28=>k_is)
  (case l28=>k_is)
  (case q28=>k_is)
  (case k28=>k_is)
  (case a29=>k_is)
  (case l29=>k_is)
  (case q29=>k_is)
  (case k29=>k_is)
  (case a30=>k_is)
  (case l30=>k_is)
  (case q30=>k_is)
  (case k30=>k_is)
  (case a31=>k_is)
  (case l31=>k_is)
  (case q31=>k_is)
  (case k31=>k_is)
  (case a32=>k_is)
  (case l32=>k_is)
  (case q32=>k_is)
  (case k32=>k_is)
  (case a33=>k_is)
  (case l33=>k_is)
  (case q33=>k_is)
  (case k33=>k_is)
  (case a34=>k_is)
  (case l34=>k_is)
  (case q34=>k_is)
  (case k34=>k_is)
  (case a35=>k_is)
  (case l35=>k_is)
  (case q35=>k_is)
  (case k35=>k_is)
  (case a36=>k_is)
  (case l36=>k_is)
  (case q36=>k_is)
  (case k36=>k_is)
  (case a37=>k_is)
  (case l37=>k_is)
  (case q37=>k_is)
  (case k37=>k_is)
  (case a38=>k_is)
  (case l38=>k_is)
  (case q38=>k_is)
  (case k38=>k_is)
  (case a39=>k_is)
  (case l39=>k_is)
  (case q39=>k_is)
  (case k39=>k_is)
  (case a40=>k_is)
  (case l40=>k_is)
  (case q40=>k_is)
  (case k40=>k_is)
  (case a41=>k_is)
  (case l41=>k_is)
  (case q41=>k_is)
  (case k41=>k_is)
  (case a42=>k_is)
  (case l42=>k_is)
  (case q42=>k_is)
  (case k42=>k_is)
  (case a43=>k_is)
  (case l43=>k_is)
  (case q43=>k_is)
  (case k43=>k_is)
  (case a44=>k_is)
  (case l44=>k_is)
  (case q44=>k_is)
  (case k44=>k_is)
  (case a45=>k_is)
  (case l45=>k_is)
  (case q45=>k_is)
  (case k45=>k_is)
  (case a46=>k_is)
  (case l46=>k_is)
  (case q46=>k_is)
  (case k46=>k_is)
  (case a47=>k_is)
  (case l47=>k_is)
  (case q47=>k_is)
  (case k47=>k_is)
  (case a48=>k_is)
  (case l48=>k_is)
  (case q48=>k_is)
  (case k48=>k_is)
  (case a49=>k_is)
  (case l49=>k_is)
  (case q49=>k_is)
  (case k49=>k_is)
  (case a50=>k_is)
  (case l50=>k_is)
  (case q50=>k_is)
  (case k50=>k_is)
  (case a51=>k_is)
  (case l51=>k_is)
  (case q51=>k_is)
  (case k51=>k_is)
  (case a52=>k_is)
  (case l52=>k_is)
  (case q52=>k_is)
  (case k52=>k_is)
  (case a53=>k_is)
  (case l53=>k_is)
  (case q53=>k_is)
  (case k53=>k_is)
  (case a54=>k_is)
  (case l54=>k_is)
  (case q54=>k_is)
  (case k54=>k_is)
  (case a55=>k_is)
  (case l55=>k_is)
  (case q55=>k_is)
  (case k55=>k_is)
  (case zmax=>k_is)
  (case zlen=>k_is)
  (case zmin=>k_is)
  (case zrange=>k_is)
  (case ztuple=>k_is)
  (case zreversed=>k_is)
  (case zlist=>k_is)
  (case zint=>k_is)
  (case zsum=>k_is)
  (case zisinstance=>k_is)
  (case zbool=>k_is)
  (case zsorted=>k_is)
  (case zabs=>k_is)
  (case zany=>k_is)
  (case zzip=>k_is)
  (case gMOST_SIDES=>k_is)
  (case gMOST_BREADTH=>k_is)
  (case gLOW=>k_is)
  (case gHIGH=>k_is)
  (case gMOST_STEPS=>k_is)
  (case gMOST_OUTS=>k_is)
  (case nTooLarge=>k_is)
  (case nNoSide=>k_is)
  (case nBeyond=>k_is)
  (case nUnlike=>k_is)
  (case nNoWord=>k_is)
  (case nBadStep=>k_is)
  (case nLoomError=>k_is)
  (case gPT=>k_is)
  (case dPT0=>first | decide +kernel | rfl)
  (case lPT=>k_is)
  (case lP0=>k_is)
  (case lP0_0=>k_is)
  (case lP1=>k_is)
  (case lP1_0=>k_is)
  (case lP2=>k_is)
  (case lP2_0=>k_is)
  (case lP2_1=>k_is)
  (case lP3=>k_is)
  (case lP3_0=>k_is)
  (case lP3_1=>k_is)
  (case lP4=>k_is)
  (case lP4_0=>k_is)
  (case lP4_1=>k_is)
  (case lP4_2=>k_is)
  (case lP5=>k_is)
  (case lP5_0=>k_is)
  (case lP5_1=>k_is)
  (case lP5_2=>k_is)
  (case lP6=>k_is)
  (case lP6_0=>k_is)
  (case lP6_1=>k_is)
  (case lP7=>k_is)
  (case lP7_0=>k_is)
  (case lP7_1=>k_is)
  (case lP8=>k_is)
  (case lP8_0=>k_is)
  (case lP8_1=>k_is)
  (case lP8_2=>k_is)
  (case lP8_3=>k_is)
  (case lP8_4=>k_is)
  (case lP9=>k_is)
  (case lP9_0=>k_is)
  (case lP9_1=>k_is)
  (case lP9_2=>k_is)
  (case lP10=>k_is)
  (case lP10_0=>k_is)
  (case lP10_1=>k_is)
  (case lP11=>k_is)
  (case lP11_0=>k_is)
  (case lP11_1=>k_is)
  (case lP11_2=>k_is)
  (case lP12=>k_is)
  (case lP12_0=>k_is)
  (case lP12_1=>k_is)
  (case lP13=>k_is)
  (case lP13_0=>k_is)
  (case lP13_1=>k_is)
  (case lP13_2=>k_is)
  (case lP14=>k_is)
  (case lP14_0=>k_is)
  (case lP14_1=>k_is)
  (case lP14_2=>k_is)
  (case xNoWord=>k_exc)
  (case xNoSide=>k_exc)
  (case xBeyond=>k_exc)
  (case xUnlike=>k_exc)
  (case xTooLarge=>k_exc)
  (case eNW=>kts_exm)
  (case aI=>k_is)
  (case lI=>k_is)
  (case qI=>k_is)
  (case kI=>k_is)
  (case iI=>k_is)
  (case kC=>k_is)
  (case clsI=>kernel_rfl)
  (case ovI=>kernel_rfl)
  (case saI=>k_is)
  (case gaI=>k_is)
  (case n1=>k_is)
  (case n2=>k_is)
  (case n3=>k_is)
  (case kc=>exact Option.isSome_iff_exists.mpr ⟨_,by k_is⟩)
  (case kcl=>k_is)
  (case kmo=>k_is)
  (case kmb=>k_is)
  (case ei=>kit_is)
  (case hL1=>k_is)
  (case hL2=>k_is)
  (case hL3=>k_is)
