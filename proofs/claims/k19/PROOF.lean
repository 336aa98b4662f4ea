import PyProof.Rows.All
import Wide.All
import OpenK.AllK
import Wide.FinOn
import Lean
import PyProof.EqAt
import PyProof.EqKinds
import PyProof.TupleCall
import PySem.Challenge.RW_sideloom_k19_whole_folds_go_with_moves
set_option Elab.async false
set_option linter.all false
set_option maxRecDepth 100000
section
set_option hygiene false

set_option hygiene true
namespace L2
open PySem PySem.Spec PyProof.Rows
abbrev Key:=Sum Int Str
def keyIs:Key->Value->Bool
 | .inl k,v=>Value.isInt k v
 | .inr x,v=>Value.isStrOf x v
def keyH (w:World):Key->Int
 | .inl k=>hashInt k
 | .inr x=>hashStr w x
theorem z1m:∀ {k:Key}{v:Value},keyIs k v=true->(∃i t,k=Sum.inl i/\v=Value.int i t)\/(∃x t,k=Sum.inr x/\v=Value.str x t)
 | .inl i,v,h=>by
  obtain ⟨t,e⟩:=Value.isInt_shape (k:=i) (v:=v) h
  exact .inl ⟨i,t,rfl,e⟩
 | .inr x,v,h=>by
  obtain ⟨t,e⟩:=Value.isStrOf_shape (x:=x) (v:=v) h
  exact .inr ⟨x,t,rfl,e⟩
theorem z9v (x:Str) (t:Tok):keyIs (.inr x) (.str x t)=true:=by simp [keyIs,Value.isStrOf]
theorem x5u (a b:Int):decide ((Sum.inl a:Key)=Sum.inl b)=(a == b):=by
 by_cases e:a=b
 ·subst e;simp
 ·have h:¬(Sum.inl a:Key)=Sum.inl b:=λ q=>e (Sum.inl.inj q)
  rw [decide_eq_false h]
  exact (beq_eq_false_iff_ne.mpr e).symm
theorem x5r (a b:Str):decide ((Sum.inr a:Key)=Sum.inr b)=decide (a=b):=by
 by_cases e:a=b
 ·subst e;simp
 ·have h:¬(Sum.inr a:Key)=Sum.inr b:=λ q=>e (Sum.inr.inj q)
  rw [decide_eq_false h,decide_eq_false e]
theorem x5t (a:Int) (b:Str):decide ((Sum.inl a:Key)=Sum.inr b)=false:=decide_eq_false (λ q=>nomatch q)
theorem x5s (a:Str) (b:Int):decide ((Sum.inr a:Key)=Sum.inl b)=false:=decide_eq_false (λ q=>nomatch q)
def mixKind (prog:Program) (w:World):PySem.KeyKind prog w Key where
 is:=keyIs
 hash:=keyH w
 inj:=λ v a b ha hb=>by
  rcases z1m ha with ⟨i,t,rfl,rfl⟩ | ⟨x,t,rfl,rfl⟩
  ·rcases z1m hb with ⟨j,u,rfl,e⟩ | ⟨y,u,rfl,e⟩
   ·injection e with e1 _;rw [e1]
   ·exact nomatch e
  ·rcases z1m hb with ⟨j,u,rfl,e⟩ | ⟨y,u,rfl,e⟩
   ·exact nomatch e
   ·injection e with e1 _;rw [e1]
 byValue:=λ k v h=>by
  rcases z1m h with ⟨i,t,rfl,rfl⟩ | ⟨x,t,rfl,rfl⟩<;>rfl
 pyHash:=λ hv h=>by
  rcases z1m hv with ⟨i,t,rfl,rfl⟩ | ⟨x,t,rfl,rfl⟩
  ·exact wpAny_pyHash_int h
  ·exact wpAny_pyHash_str h
 eqBool:=λ hu hv h=>by
  rcases z1m hu with ⟨i,t,rfl,rfl⟩ | ⟨x,t,rfl,rfl⟩
  ·rcases z1m hv with ⟨j,u,rfl,rfl⟩ | ⟨y,u,rfl,rfl⟩
   ·rw [x5u] at h;exact wpAny_eqBool_int h
   ·rw [x5t] at h;exact SeqAt.EqAt.int_str i t y u _ _ _ _ h
  ·rcases z1m hv with ⟨j,u,rfl,rfl⟩ | ⟨y,u,rfl,rfl⟩
   ·rw [x5s] at h;exact SeqAt.EqAt.str_int x t j u _ _ _ _ h
   ·rw [x5r] at h;exact wpAny_eqBool_str h
 «strs»:=λ k x t v h=>by
  rcases z1m h with ⟨i,u,rfl,e⟩ | ⟨y,u,rfl,e⟩
  ·exact nomatch e
  ·injection e with e1 _
   subst e1
   cases v<;>rfl
inductive V where
 | non | bl (b:Bool) | int (i:Int) | str (x:Str) | byt (b:Array UInt8) | flt (b:UInt64) | ref (a:Addr) | ty (n:String)
 deriving DecidableEq
def RelV:V->Value->Prop
 | .non,u=>u=Value.none
 | .bl b,u=>u=Value.bool b
 | .int i,u=>∃t,u=Value.int i t
 | .str x,u=>∃t,u=Value.str x t
 | .byt b,u=>∃t,u=Value.bytes b t
 | .flt b,u=>∃t,u=Value.float b t
 | .ref a,u=>u=Value.ref a
 | .ty n,u=>u=Value.type n
abbrev Vals:List V->List Value->Prop:=Paired RelV
theorem Vals.length {xs:List V}{us:List Value}(r:Vals xs us):xs.length=us.length:=Paired.length r
theorem Vals.get:∀ {xs:List V}{us:List Value}{i:Nat}{x:V},Vals xs us->xs[i]?=some x->∃u,us[i]?=some u/\RelV x u
 | _,_,_,_,.nil,e=>by simp at e
 | _,_,0,_,.cons r _,e=>by simp at e;subst e;exact ⟨_,rfl,r⟩
 | _,_,i+1,x,.cons _ t,e=>by
  obtain ⟨u,h1,h2⟩:=Vals.get (i:=i) (x:=x) t (by simpa using e)
  exact ⟨u,by simpa using h1,h2⟩
theorem Vals.set {x:V}{u:Value}(r:RelV x u):∀ {xs:List V}{us:List Value}(i:Nat),Vals xs us->Vals (xs.set i x) (us.set i u)
 | _,_,_,.nil=>.nil
 | _,_,0,.cons _ t=>.cons r t
 | _,_,i+1,.cons q t=>.cons q (Vals.set r i t)
theorem Vals.append:∀ {xs ys:List V}{us ws:List Value},Vals xs us->Vals ys ws->Vals (xs++ys) (us++ws)
 | _,_,_,_,.nil,s=>s
 | _,_,_,_,.cons r t,s=>.cons r (Vals.append t s)
theorem Vals.take:∀ {xs:List V}{us:List Value}(n:Nat),Vals xs us->Vals (xs.take n) (us.take n)
 | _,_,0,_=>.nil
 | _,_,_+1,.nil=>.nil
 | _,_,n+1,.cons r t=>.cons r (Vals.take n t)
theorem Vals.drop:∀ {xs:List V}{us:List Value}(n:Nat),Vals xs us->Vals (xs.drop n) (us.drop n)
 | _,_,0,r=>r
 | _,_,_+1,.nil=>.nil
 | _,_,n+1,.cons _ t=>Vals.drop n t
def RelO:Option V->Option Value->Prop
 | some v,some u=>RelV v u
 | none,none=>True
 | _,_=>False
def KV {κ:Type}:List (κ × V)->List (κ × Value)->Prop:=Paired λ (p:κ × V) (q:κ × Value)=>p.1=q.1/\RelV p.2 q.2
def kV:Key->V
 | .inl i=>.int i
 | .inr x=>.str x
inductive HO where
 | lst (xs:List V)
 | tup (xs:List V)
 | dK (kvs:List (Key × V)) | dT (kvs:List (List Key × V))
 | set (S:Int->Bool) (n:Nat)
 | ins (C dx:Addr) (fs:List (Str × V))
 | own (x:Addr)
 | xd (fs:List (Str × V))
 | met (f x:Addr)
 | rng (lo hi:Int)
 | frz (o:Obj) (u:HO)
 | tbl (ps:Array Value)
 | ext (φ:Heap->Prop)
abbrev Hp:=Addr->Option HO
def upd (H:Hp) (a:Addr) (o:HO):Hp:=λ b=>if b=a then some o else H b
theorem z0h {H:Hp}{a:Addr}{o:HO}:upd H a o a=some o:=by unfold upd;rw [if_pos rfl]
theorem z0p {H:Hp}{a b:Addr}{o:HO}(h:b≠a):upd H a o b=H b:=by unfold upd;rw [if_neg h]
theorem z1z {H:Hp}{a b:Addr}{o:HO}(h:H a=some o) (h':H b=none):a≠b:=by
 intro e;subst e;rw [h] at h';cases h'
section
variable (P:Program) (w:World)
def ObjOk (H:Hp) (h:Heap) (a:Addr):HO->Prop
 | .lst xs=>xs.length≤sizeLine/\∃(its:List Value) (n:Nat),Vals xs its/\h.get? a=some { cls:=.type "list",data:=.seq its.toArray n }
 | .tup xs=>xs.length≤sizeLine/\∃its:List Value,Vals xs its/\IsTup h a its.toArray
 | .dK kvs=>kvs.length≤sizeLine/\(a == sysModules)=false/\∃vs,KV kvs vs/\h.DictOf (mixKind P w) a vs
 | .dT kvs=>kvs.length≤sizeLine/\(a == sysModules)=false/\∃xs:List (List Key × Addr × Value),
   Paired (λ (p:List Key × V) (q:List Key × Addr × Value)=>p.1=q.1/\H q.2.1=some (.tup (p.1.map kV))/\RelV p.2 q.2.2) kvs xs /\
   ∃o es ep,h.get? a=some o/\o.ExactDict/\o.data=.dict es ep/\es.toList=xs.map (entryOfKey (tupleKind (mixKind P w)))/\(xs.map (·.1)).Nodup
 | .set S n=>h.SetOf (intKind P w) a S n
 | .ins C dx fs=>H dx=some (.own a)/\fs.length≤1000/\dx≠a/\h.get? a=some (W.instObj C dx) /\
   ∃mA,h.Ns1 dx mA/\(∀f,RelO (fs.lookup f) (mA f))/\PySem.Within mA (fs.map (·.1))
 | .own _=>∃o,h.get? a=some o
 | .xd fs=>∃mA,h.Ns1 a mA/\∀f,RelO (fs.lookup f) (mA f)
 | .rng lo hi=>∃t u v,h.get? a=some { cls:=.type "range",data:=.fields #[.int lo t,.int hi u,.int 1 v] }
 | .frz o u=>h.get? a=some o/\ObjOk H h a u
 | .tbl ps=>h.get? a=some { cls:=.none,data:=.fields ps }
 | .met f x=>h.get? a=some (W.methodObj (.ref f) (.ref x))
 | .ext φ=>φ h/\(∃o,h.get? a=some o)/\∀h1 h2:Heap,φ h1->(∀o,h1.get? a=some o->h2.get? a=some o)->φ h2
def HOk (H:Hp) (h:Heap):Prop:=∀a o,H a=some o->ObjOk P w H h a o
end
section
variable {P:Program}{w:World}{H H':Hp}{h h':Heap}{a:Addr}{o:HO}
theorem ObjOk.lt (x:ObjOk P w H h a o):a < h.objs.size:=by
 cases o with
 | lst xs=>obtain ⟨_,_,_,_,e⟩:=x;exact Heap.lt_size e
 | tup xs=>obtain ⟨_,_,_,p⟩:=x;exact p.lt
 | dK kvs=>obtain ⟨_,_,_,_,o,_,_,e,_⟩:=x;exact Heap.lt_size e
 | dT kvs=>obtain ⟨_,_,_,_,o,_,_,e,_⟩:=x;exact Heap.lt_size e
 | set S n=>obtain ⟨o,_,_,_,e,_⟩:=x;exact Heap.lt_size e
 | ins C dx fs=>obtain ⟨_,_,_,e,_⟩:=x;exact Heap.lt_size e
 | own y=>obtain ⟨_,e⟩:=x;exact Heap.lt_size e
 | xd fs=>obtain ⟨_,⟨_,_,_,e,_⟩,_⟩:=x;exact Heap.lt_size e
 | rng lo hi=>obtain ⟨_,_,_,e⟩:=x;exact Heap.lt_size e
 | frz ob u=>obtain ⟨e,_⟩:=x;exact Heap.lt_size e
 | tbl ps=>exact Heap.lt_size (show h.get? a=some _ from x)
 | met f y=>exact Heap.lt_size (show h.get? a=some _ from x)
 | ext φ=>obtain ⟨_,⟨_,e⟩,_⟩:=x;exact Heap.lt_size e
theorem Paired.mapP {α β:Type}{F G:α->β->Prop}:∀ {l₁:List α}{l₂:List β},Paired F l₁ l₂->(∀a b,F a b->G a b)->Paired G l₁ l₂
 | _,_,.nil,_=>.nil
 | _,_,.cons r t,f=>.cons (f _ _ r) (Paired.mapP t f)
theorem ObjOk.stay (x:ObjOk P w H h a o) (k:∀b u,(b=a\/H b=some (.own a))->h.get? b=some u->h'.get? b=some u)
  (ho:∀b,H b=some (.own a)->H' b=some (.own a)) (ht:∀b xs,H b=some (.tup xs)->H' b=some (.tup xs)):ObjOk P w H' h' a o:=by
 induction o with
 | lst xs=>obtain ⟨z,its,n,r,e⟩:=x;exact ⟨z,its,n,r,k _ _ (.inl rfl) e⟩
 | tup xs=>obtain ⟨z,its,r,ob,e,c⟩:=x;exact ⟨z,its,r,ob,k _ _ (.inl rfl) e,c⟩
 | dK kvs=>obtain ⟨z,y,vs,r,ob,es,ep,e,c⟩:=x;exact ⟨z,y,vs,r,ob,es,ep,k _ _ (.inl rfl) e,c⟩
 | dT kvs =>
  obtain ⟨z,y,xs,r,ob,es,ep,e,c⟩:=x
  exact ⟨z,y,xs,Paired.mapP r λ p q z=>⟨z.1,ht _ _ z.2.1,z.2.2⟩,ob,es,ep,k _ _ (.inl rfl) e,c⟩
 | set S n=>obtain ⟨ob,es,ep,t,e,c⟩:=x;exact ⟨ob,es,ep,t,k _ _ (.inl rfl) e,c⟩
 | ins C dx fs =>
  obtain ⟨d,z,ne,e,mA,⟨od,es,ep,e2,c⟩,r⟩:=x
  exact ⟨ho _ d,z,ne,k _ _ (.inl rfl) e,mA,⟨od,es,ep,k _ _ (.inr d) e2,c⟩,r⟩
 | own y=>obtain ⟨ob,e⟩:=x;exact ⟨ob,k _ _ (.inl rfl) e⟩
 | xd fs=>obtain ⟨mA,⟨od,es,ep,e,c⟩,r⟩:=x;exact ⟨mA,⟨od,es,ep,k _ _ (.inl rfl) e,c⟩,r⟩
 | rng lo hi=>obtain ⟨t,u,v,e⟩:=x;exact ⟨t,u,v,k _ _ (.inl rfl) e⟩
 | frz ob u ih=>obtain ⟨e,q⟩:=x;exact ⟨k _ _ (.inl rfl) e,ih q⟩
 | tbl ps =>
  have e:h.get? a=some { cls:=.none,data:=.fields ps }:=x
  show h'.get? a=some { cls:=.none,data:=.fields ps }
  exact k a _ (.inl rfl) e
 | met f y =>
  have e:h.get? a=some (W.methodObj (.ref f) (.ref y)):=x
  show h'.get? a=some (W.methodObj (.ref f) (.ref y))
  exact k a _ (.inl rfl) e
 | ext φ=>obtain ⟨p,⟨o,e⟩,st⟩:=x;exact ⟨st _ _ p λ o q=>k _ _ (.inl rfl) q,⟨o,k _ _ (.inl rfl) e⟩,st⟩
theorem HOk.lt (x:HOk P w H h) (e:H a=some o):a < h.objs.size:=(x a o e).lt
theorem HOk.fresh (x:HOk P w H h) (e:h.objs.size≤a):H a=none:=by
 cases q:H a with
 | none=>rfl
 | some u=>exact absurd (Nat.lt_of_lt_of_le (x.lt q) e) (Nat.lt_irrefl _)
theorem HOk.kept (x:HOk P w H h) (k:∀b u,h.get? b=some u->h'.get? b=some u):HOk P w H h':=λ a o e =>
 (x a o e).stay (λ b u _ q=>k b u q) (λ _ q=>q) λ _ _ q=>q
theorem HOk.laid (x:HOk P w H h) (k:∀b u,h.get? b=some u->h'.get? b=some u) (hp:h.objs.size≤a) (new:ObjOk P w (upd H a o) h' a o):HOk P w (upd H a o) h':=λ b u e=>by
 have hn:=x.fresh hp
 by_cases hb:b=a
 ·subst hb;rw [z0h] at e;cases e;exact new
 ·rw [z0p hb] at e
  exact (x b u e).stay (λ c v _ q=>k c v q) (λ c q=>by rw [z0p (z1z q hn)];exact q) λ c xs q=>by rw [z0p (z1z q hn)];exact q
end
def Rd (H:Hp) (a:Addr) (u:HO):Prop:=H a=some u\/∃o,H a=some (.frz o u)
theorem Rd.of {H:Hp}{a:Addr}{u:HO}(h:H a=some u):Rd H a u:=.inl h
theorem Rd.ok {P:Program}{w:World}{H:Hp}{h:Heap}{a:Addr}{u:HO}(r:Rd H a u) (x:HOk P w H h):ObjOk P w H h a u:=by
 rcases r with r | ⟨o,r⟩
 ·exact x a u r
 ·obtain ⟨_,q⟩:=x a _ r
  exact q
def Mut:Option HO->Prop
 | some (.lst _)=>True
 | some (.dK _)=>True
 | some (.dT _)=>True
 | some (.set _ _)=>True
 | some (.ins _ _ _)=>True
 | some (.ext _)=>True
 | _=>False
section
variable {P:Program}{w:World}{H:Hp}{h h':Heap}{x e:Addr}{o':HO}
theorem HOk.write (ok:HOk P w H h) (mu:Mut (H x)) (he:e=x\/H e=some (.own x)) (k:∀b u,b≠e->h.get? b=some u->h'.get? b=some u) (heo:∃u,h'.get? e=some u)
  (new:ObjOk P w (upd H x o') h' x o'):HOk P w (upd H x o') h':=λ b u q=>by
 have nown:∀c y,H c=some (.own y)->c≠x:=λ c y r z=>by subst z;rw [r] at mu;exact mu
 have ntup:∀c xs,H c=some (.tup xs)->c≠x:=λ c xs r z=>by subst z;rw [r] at mu;exact mu
 by_cases hb:b=x
 ·subst hb;rw [z0h] at q;cases q;exact new
 ·rw [z0p hb] at q
  by_cases hbe:b=e
  ·have q':H b=some (.own x):=by
    rcases he with z | z
    ·exact absurd (hbe.trans z) hb
    ·rw [hbe];exact z
   rw [q] at q';cases q'
   obtain ⟨v,hv⟩:=heo
   exact ⟨v,by rw [hbe];exact hv⟩
  ·refine (ok b u q).stay (λ c v hc r=>k c v ?_ r) (λ c r=>by rw [z0p (nown c b r)];exact r) λ c xs r=>by rw [z0p (ntup c xs r)];exact r
   rcases hc with rfl | hc
   ·exact hbe
   ·rintro rfl
    rcases he with z | z
    ·exact nown c b hc z
    ·rw [hc] at z;cases z;exact hb rfl
end
structure Un (fs ex:List Addr) (H H':Hp) (h h':Heap):Prop where
 keep:∀b o,h.get? b=some o->H b=none->b ∉ fs->b ∉ ex->h'.get? b=some o
 slot:∀b o,h.get? b=some o->H b=none->b∈fs->b ∉ ex->∃sl,h'.get? b=some { o with slots:=sl }
 free:∀b o,h.get? b=some o->H b=none->b ∉ ex->H' b=none
 there:∀b o,h.get? b=some o->b ∉ ex->∃o',h'.get? b=some o'
 tups:∀b xs,H b=some (.tup xs)->H' b=some (.tup xs)
 frzs:∀b o u,H b=some (.frz o u)->H' b=some (.frz o u)
 tbls:∀b ps,H b=some (.tbl ps)->∃more,H' b=some (.tbl (ps++more))
section
variable {fs fs' ex ex':List Addr}{H H1 H2:Hp}{h h1 h2 h':Heap}{a x e:Addr}{o:HO}
theorem Un.any (u:Un fs ex H H1 h h1) {b:Addr}{ob:Obj}(q:h.get? b=some ob) (n:H b=none) (hx:b ∉ ex):∃sl,h1.get? b=some { ob with slots:=sl }:=by
 by_cases hb:b∈fs
 ·exact u.slot b ob q n hb hx
 ·exact ⟨ob.slots,u.keep b ob q n hb hx⟩
theorem Un.trans (a:Un fs ex H H1 h h1) (b:Un fs ex H1 H2 h1 h2):Un fs ex H H2 h h2 where
 keep:=λ c ob q n hc hx=>b.keep c ob (a.keep c ob q n hc hx) (a.free c ob q n hx) hc hx
 slot:=λ c ob q n hc hx=>by
  obtain ⟨sl,e1⟩:=a.slot c ob q n hc hx
  obtain ⟨sl',e2⟩:=b.slot c _ e1 (a.free c ob q n hx) hc hx
  exact ⟨sl',e2⟩
 free:=λ c ob q n hx=>by
  obtain ⟨o',e1⟩:=a.there c ob q hx
  exact b.free c o' e1 (a.free c ob q n hx) hx
 there:=λ c ob q hx=>by
  obtain ⟨o',e1⟩:=a.there c ob q hx
  exact b.there c o' e1 hx
 tups:=λ c xs q=>b.tups c xs (a.tups c xs q)
 frzs:=λ c ob xs q=>b.frzs c ob xs (a.frzs c ob xs q)
 tbls:=λ c ps q=>by
  obtain ⟨m1,e1⟩:=a.tbls c ps q
  obtain ⟨m2,e2⟩:=b.tbls c _ e1
  exact ⟨m1++m2,by rw [e2,Array.append_assoc]⟩
theorem Un.kept (k:∀b u,h.get? b=some u->h'.get? b=some u):Un fs ex H H h h' :=
 ⟨λ b ob q _ _ _=>k b ob q,λ b ob q _ _ _=>⟨ob.slots,k b ob q⟩,λ _ _ _ n _=>n,λ b ob q _=>⟨ob,k b ob q⟩,λ _ _ q=>q,λ _ _ _ q=>q,λ _ ps q=>⟨#[],by rw [q];simp⟩⟩
theorem Un.refl:Un fs ex H H h h:=Un.kept λ _ _ q=>q
theorem Un.laid (k:∀b u,h.get? b=some u->h'.get? b=some u) (hp:h.objs.size≤a) (hn:H a=none):Un fs ex H (upd H a o) h h' where
 keep:=λ b u q _ _ _=>k b u q
 slot:=λ b u q _ _ _=>⟨u.slots,k b u q⟩
 free:=λ b u q n _=>by rw [z0p (Nat.ne_of_lt (Nat.lt_of_lt_of_le (Heap.lt_size q) hp))];exact n
 there:=λ b u q _=>⟨u,k b u q⟩
 tups:=λ b xs q=>by rw [z0p (z1z q hn)];exact q
 frzs:=λ b u xs q=>by rw [z0p (z1z q hn)];exact q
 tbls:=λ b ps q=>⟨#[],by rw [z0p (z1z q hn),q];simp⟩
theorem Un.write (mu:Mut (H x)) (he:e=x\/H e=some (.own x)) (k:∀b u,b≠e->h.get? b=some u->h'.get? b=some u) (heo:∃u,h'.get? e=some u):Un fs ex H (upd H x o) h h':=by
 have hx:∀b,H b=none->b≠x:=λ b n z=>by subst z;rw [n] at mu;exact mu
 have hb:∀b,H b=none->b≠e:=λ b n z=>by
  subst z
  rcases he with r | r
  ·exact hx b n r
  ·rw [n] at r;cases r
 have hm:∀b u,H b=some u->¬Mut (some u)->b≠x:=λ b u q nm z=>by subst z;rw [q] at mu;exact nm mu
 refine ⟨λ b u q n _ _=>k b u (hb b n) q,λ b u q n _ _=>⟨u.slots,k b u (hb b n) q⟩,λ b u q n _=>by rw [z0p (hx b n)];exact n,λ b u q _=>?_,
  λ b xs q=>by rw [z0p (hm b _ q λ z=>z)];exact q,λ b u xs q=>by rw [z0p (hm b _ q λ z=>z)];exact q,λ b ps q=>⟨#[],by rw [z0p (hm b _ q λ z=>z),q];simp⟩⟩
 by_cases hbe:b=e
 ·subst hbe;exact heo
 ·exact ⟨u,k b u hbe q⟩
theorem Un.mono (u:Un fs ex H H1 h h1) (hs:∀b∈fs,b∈fs') (hx:∀b∈ex,b∈ex'):Un fs' ex' H H1 h h1 :=
 ⟨λ b ob q n hb he=>u.keep b ob q n (λ z=>hb (hs b z)) λ z=>he (hx b z),λ _ _ q n _ he=>u.any q n λ z=>he (hx _ z),λ b ob q n he=>u.free b ob q n λ z=>he (hx b z),λ b ob q he=>u.there b ob q λ z=>he (hx b z),u.tups,u.frzs,u.tbls⟩
end
def trk (h:Heap) (H:Hp):List Addr:=(List.range h.objs.size).filter λ a=>(H a).isSome
def hidT (h:Heap) (H:Hp):Heap:=W.hideAll h (trk h H)
theorem y7m (h:Heap) (H:Hp):(hidT h H).objs.size=h.objs.size:=W.hideAll_size _ _
theorem x0j {h:Heap}{H:Hp}{b:Addr}{o:Obj}(e:h.get? b=some o) (n:H b=none):(hidT h H).get? b=some o :=
 W.hideAll_get _ e λ hm=>by
  have q:(H b).isSome=true:=(List.mem_filter.mp hm).2
  rw [n] at q;simp at q
theorem y6r {h:Heap}{H:Hp}{b:Addr}{o:Obj}(e:(hidT h H).get? b=some o):h.get? b=some o/\H b=none:=by
 have e':h.get? b=some o:=W.of_hideAll (trk h H) e
 refine ⟨e',?_⟩
 cases q:H b with
 | none=>rfl
 | some x =>
  have hm:b∈trk h H:=List.mem_filter.mpr ⟨List.mem_range.mpr (Heap.lt_size e'),by simp [q]⟩
  have z:(hidT h H).get? b=none:=W.hideAll_none (trk h H) hm
  rw [z] at e;cases e
def allNews (g h:Heap) (L:Addr):List (Addr × Obj):=(List.range h.objs.size).filterMap λ a=>if a=L\/(g.get? a).isSome=true then none else (h.get? a).map λ o=>(a,o)
def rest (g h:Heap) (L d:Addr):List (Addr × Obj):=(allNews g h L).filter λ p=>decide (p.1≠d)
structure Mod (K:W.Frag) (mg:Str->Option Value) (base:Heap):Prop where
 kin:K.In base
 glob:base.Ns mainGlobals mg
 blt:∃mb,base.Ns builtinsNs mb/\∀x:Str,x ≠ "__name__" -> mb x=bootBuiltins x
 nolimit:base.NoLimit
structure Cx where
 prog:Program
 w:World
 K:W.Frag
 mg:Str->Option Value
 base:Heap
 A:Around
 N:List Str
 s₀:Shared
 H₀:Hp
 env:Env
 outer:List Env
 stack:List Env
 ex:List Addr
 fn:Str->Bool
 calm:Bool
 pn:List (Addr × Obj)
 xe:Value->Shared->Prop
def frs (l:List Env):List Addr:=l.filterMap (·.frame)
abbrev Cx.fs (X:Cx):List Addr:=frs X.outer
def Vis (sc:Scope) (x:Str):Prop:=sc.names.lookup x=some .local\/sc.names.lookup x=some .cell\/sc.names.lookup x=some .free
def Loc (sc:Scope) (x:Str):Prop:=sc.names.lookup x=some .local\/sc.names.lookup x=some .cell
def Look (env:Env) (h:Heap) (m:Str->Option Value) (x:Str) (u:Value):Prop :=
 (env.kindOf x=some .local/\m x=some u)\/((env.kindOf x=some .cell\/env.kindOf x=some .free)/\∃c,env.cells.lookup x=some c/\h.IsCell c (some u))
structure Cx.Ok (X:Cx):Prop where
 mod:Mod X.K X.mg X.base
 kind:X.env.scope.kind=.function
 glob:X.env.globals=mainGlobals
 blt:X.env.builtins=builtinsNs
 above:X.s₀.heap.objs.size≤X.env.locals
 inj:∀x y c,X.env.cells.lookup x=some c->X.env.cells.lookup y=some c->x=y
 has:∀x,(X.env.kindOf x=some .cell\/X.env.kindOf x=some .free)->∃c,X.env.cells.lookup x=some c
 cab:∀x c,X.fn x=true->X.env.cells.lookup x=some c->X.s₀.heap.objs.size≤c
 hd:X.calm=true->X.A.handled=none
 frames:X.A.frames=some X.stack
 stk:X.stack=X.outer\/(X.stack=X.env::X.outer/\X.env.frame=some X.env.locals)
 exf:∀b∈X.ex,b≠X.env.locals/\∀x c,X.env.cells.lookup x=some c->c≠b
 bs:∀b o,X.base.get? b=some o->X.s₀.heap.get? b=some o/\X.H₀ b=none
 bsz:X.base.objs.size≤X.s₀.heap.objs.size
 noex:∀b o,X.base.get? b=some o->b ∉ X.ex
 exfs:∀b∈X.ex,b ∉ X.fs
 funs:X.s₀.heap.FunFrames X.base X.outer
 frf:∀b∈X.fs,X.H₀ b=none
structure Inv (X:Cx) (pins:List (Addr × Obj)) (σ:List (Option V)) (H:Hp) (s:Shared):Prop where
 ok:X.Ok
 os:s.os=X.s₀.os
 bare:AllBare s.gens
 base:Un X.fs X.ex X.H₀ H X.s₀.heap s.heap
 loc:∃m,s.heap.Ns X.env.locals m/\∀(i:Nat) (x:Str) (v:V),X.N[i]?=some x->σ[i]?=some (some v)->Vis X.env.scope x->∃u,RelV v u/\Look X.env s.heap m x u
 cell:∀x c,X.env.cells.lookup x=some c->∃v,s.heap.IsCell c v
 free:H X.env.locals=none
 freeC:∀x c,X.env.cells.lookup x=some c->H c=none
 pin:∀p∈X.pn++pins,s.heap.get? p.1=some p.2/\H p.1=none/\p.1≠X.env.locals/\p.1 ∉ X.fs/\∀v,p.2.data≠.cell v
 hok:HOk X.prog X.w H s.heap
 len:σ.length=X.N.length
section
variable {X:Cx}{pins:List (Addr × Obj)}{σ:List (Option V)}{H H':Hp}{s:Shared}{h':Heap}
theorem Cx.Ok.nofr (ok:X.Ok) {b:Addr}{o:Obj}(e:X.base.get? b=some o):b ∉ X.fs:=λ hb=>by
 have:=(ok.funs.mem hb).1
 rw [e] at this;cases this
theorem Inv.bs (I:Inv X pins σ H s):∀b o,X.base.get? b=some o->s.heap.get? b=some o/\H b=none:=λ b o e =>
 ⟨I.base.keep b o (I.ok.bs b o e).1 (I.ok.bs b o e).2 (I.ok.nofr e) (I.ok.noex b o e),I.base.free b o (I.ok.bs b o e).1 (I.ok.bs b o e).2 (I.ok.noex b o e)⟩
theorem Inv.bk (I:Inv X pins σ H s):∀b o,X.base.get? b=some o->s.heap.get? b=some o:=λ b o e=>(I.bs b o e).1
theorem Inv.mod (I:Inv X pins σ H s):Mod X.K X.mg X.base:=I.ok.mod
theorem Inv.kIn (I:Inv X pins σ H s):X.K.In s.heap:=I.ok.mod.kin.keeps I.bk
theorem Inv.nolimit (I:Inv X pins σ H s):s.heap.NoLimit:=I.ok.mod.nolimit.keeps I.bk
theorem Inv.fr (I:Inv X pins σ H s):∃m,Fr X.base X.env.locals s.heap m :=
 let ⟨m,hn,_⟩:=I.loc
 ⟨m,hn,I.bk,Nat.le_trans I.ok.bsz I.ok.above⟩
theorem Inv.lt (I:Inv X pins σ H s):X.env.locals < s.heap.objs.size:=let ⟨_,hn,_⟩:=I.loc;hn.lt
theorem Inv.sz (I:Inv X pins σ H s):X.s₀.heap.objs.size≤s.heap.objs.size:=Nat.le_trans I.ok.above (Nat.le_of_lt I.lt)
theorem Inv.nofs (I:Inv X pins σ H s) {a:Addr}(h:s.heap.objs.size≤a):a ∉ X.fs:=λ hb=>by
 obtain ⟨_,o,ho,_⟩:=I.ok.funs.mem hb
 exact absurd (Nat.lt_of_lt_of_le (Heap.lt_size ho) (Nat.le_trans I.sz h)) (Nat.lt_irrefl _)
theorem Inv.cne (I:Inv X pins σ H s):∀x c,X.env.cells.lookup x=some c->c≠X.env.locals:=λ x c e z=>by
 obtain ⟨v,o,ho,hd⟩:=I.cell x c e
 obtain ⟨m,⟨o',es,ep,ho',hd',_⟩,_⟩:=I.loc
 rw [z,ho'] at ho;cases ho;rw [hd'] at hd;cases hd
theorem Inv.funs (I:Inv X pins σ H s):s.heap.FunFrames X.base X.outer:=by
 have all:∀(l:List Env),(∀b∈frs l,b∈X.fs)->X.s₀.heap.FunFrames X.base l->s.heap.FunFrames X.base l:=by
  intro l
  induction l with
  | nil=>intro _ _;trivial
  | cons env r ih =>
   intro hs hl
   obtain ⟨hk,⟨L,o,hf,hn,ho,hd⟩,hr⟩:=hl
   have hL:L∈X.fs:=hs L (by unfold frs;rw [List.filterMap_cons,hf];exact List.mem_cons_self)
   obtain ⟨sl,e⟩:=I.base.slot L o ho (I.ok.frf L hL) hL λ z=>I.ok.exfs L z hL
   exact ⟨hk,⟨L,_,hf,hn,e,hd⟩,ih (λ b hb=>hs b (by unfold frs;rw [List.filterMap_cons,hf];exact List.mem_cons_of_mem _ hb)) hr⟩
 exact all X.outer (λ _ hb=>hb) I.ok.funs
theorem Inv.stack (I:Inv X pins σ H s):s.heap.FunFrames X.base X.stack:=by
 rcases I.ok.stk with e | ⟨e,hf⟩
 ·rw [e];exact I.funs
 ·rw [e]
  obtain ⟨m,hn,_⟩:=I.loc
  refine .cons (by rw [I.ok.kind];decide) hf hn ?_ I.funs
  exact Heap.get?_none_of_le (Nat.le_trans I.ok.bsz I.ok.above)
theorem Inv.stkSub (I:Inv X pins σ H s):∀b∈frs X.stack,b∈X.env.locals::X.fs:=λ b hb=>by
 rcases I.ok.stk with e | ⟨e,hf⟩
 ·rw [e] at hb;exact List.mem_cons_of_mem _ hb
 ·rw [e] at hb
  unfold frs at hb
  rw [List.filterMap_cons,hf] at hb
  exact hb
theorem Inv.stkFree (I:Inv X pins σ H s):∀b∈frs X.stack,H b=none:=λ b hb=>by
 rcases List.mem_cons.mp (I.stkSub b hb) with e | hb
 ·rw [e];exact I.free
 ·obtain ⟨_,o,ho,_⟩:=I.ok.funs.mem hb
  exact I.base.free b o ho (I.ok.frf b hb) λ z=>I.ok.exfs b z hb
theorem Inv.step {g':Array GenState}{t':Nat}{d':Drawn}{ch:List Addr}(I:Inv X pins σ H s)
  (hch:∀b∈ch,(b∈X.ex\/X.s₀.heap.objs.size≤b)/\b≠X.env.locals/\(∀x c,X.env.cells.lookup x=some c->c≠b)/\∀p∈X.pn++pins,p.1≠b)
  (keep:∀b o,b≠X.env.locals->b ∉ X.fs->b ∉ ch->s.heap.get? b=some o->H b=none->h'.get? b=some o)
  (slot:∀b o,b≠X.env.locals->b∈X.fs->b ∉ ch->s.heap.get? b=some o->H b=none->∃sl,h'.get? b=some { o with slots:=sl }) (free:∀b o,b ∉ ch->s.heap.get? b=some o->H b=none->H' b=none)
  (there:∀b o,b ∉ ch->s.heap.get? b=some o->∃o',h'.get? b=some o')
  (tups:∀b xs,H b=some (.tup xs)->H' b=some (.tup xs)) (frzs:∀b o u,H b=some (.frz o u)->H' b=some (.frz o u)) (tbls:∀b ps,H b=some (.tbl ps)->∃more,H' b=some (.tbl (ps++more)))
  (ns:∀m,s.heap.Ns X.env.locals m->h'.Ns X.env.locals m) (hok:HOk X.prog X.w H' h') (hg:AllBare g') :
  Inv X pins σ H' { s with heap:=h',gens:=g',drawn:=d',toks:=t' }:=by
 have neL:∀b o,X.s₀.heap.get? b=some o->b≠X.env.locals:=λ b o e=>Nat.ne_of_lt (Nat.lt_of_lt_of_le (Heap.lt_size e) I.ok.above)
 have neC:∀b o,X.s₀.heap.get? b=some o->b ∉ X.ex->b ∉ ch:=λ b o e hx hb=>by
  rcases (hch b hb).1 with z | z
  ·exact hx z
  ·exact absurd (Nat.lt_of_lt_of_le (Heap.lt_size e) z) (Nat.lt_irrefl _)
 have cellK:∀x c,X.env.cells.lookup x=some c->∀v,s.heap.IsCell c v->h'.IsCell c v:=λ x c e v ⟨o,ho,hd⟩=>by
  have nch:c ∉ ch:=λ z=>(hch c z).2.2.1 x c e rfl
  by_cases hc:c∈X.fs
  ·obtain ⟨sl,q⟩:=slot c o (I.cne x c e) hc nch ho (I.freeC x c e)
   exact ⟨_,q,hd⟩
  ·exact ⟨o,keep c o (I.cne x c e) hc nch ho (I.freeC x c e),hd⟩
 refine ⟨I.ok,I.os,hg,⟨λ b o e n hb hx=>?_,λ b o e n hb hx=>?_,λ b o e n hx=>?_,λ b o e hx=>?_,λ b xs e=>tups b xs (I.base.tups b xs e),λ b o xs e=>frzs b o xs (I.base.frzs b o xs e),λ b ps e=>?_⟩,?_,λ x c e=>?_,?_,λ x c e=>?_,λ p hp=>?_,hok,I.len⟩
 ·exact keep b o (neL b o e) hb (neC b o e hx) (I.base.keep b o e n hb hx) (I.base.free b o e n hx)
 ·obtain ⟨sl,e1⟩:=I.base.slot b o e n hb hx
  obtain ⟨sl',e2⟩:=slot b _ (neL b o e) hb (neC b o e hx) e1 (I.base.free b o e n hx)
  exact ⟨sl',e2⟩
 ·obtain ⟨o',e1⟩:=I.base.there b o e hx
  exact free b o' (neC b o e hx) e1 (I.base.free b o e n hx)
 ·obtain ⟨o',e1⟩:=I.base.there b o e hx
  exact there b o' (neC b o e hx) e1
 ·obtain ⟨m1,e1⟩:=I.base.tbls b ps e
  obtain ⟨m2,e2⟩:=tbls b _ e1
  exact ⟨m1++m2,by rw [e2,Array.append_assoc]⟩
 ·obtain ⟨m,hn,hl⟩:=I.loc
  refine ⟨m,ns m hn,λ i x v e1 e2 e3=>?_⟩
  obtain ⟨u,r,l⟩:=hl i x v e1 e2 e3
  refine ⟨u,r,?_⟩
  rcases l with l | ⟨k,c,e,z⟩
  ·exact .inl l
  ·exact .inr ⟨k,c,e,cellK x c e _ z⟩
 ·obtain ⟨v,z⟩:=I.cell x c e
  exact ⟨v,cellK x c e v z⟩
 ·obtain ⟨m,⟨o,_,_,ho,_⟩,_⟩:=I.loc
  exact free _ o (λ z=>(hch _ z).2.1 rfl) ho I.free
 ·obtain ⟨v,o,ho,hd⟩:=I.cell x c e
  exact free c o (λ z=>(hch c z).2.2.1 x c e rfl) ho (I.freeC x c e)
 ·obtain ⟨e,n,ne,nf,d⟩:=I.pin p hp
  have nch:p.1 ∉ ch:=λ z=>(hch p.1 z).2.2.2 p hp rfl
  exact ⟨keep p.1 p.2 ne nf nch e n,free p.1 p.2 nch e n,ne,nf,d⟩
theorem Inv.un {t':Nat}(I:Inv X pins σ H s) (u:Un X.fs [] H H' s.heap h') (hok:HOk X.prog X.w H' h'):Inv X pins σ H' { s with heap:=h',toks:=t' }:=by
 obtain ⟨m,⟨o,es,ep,ho,r⟩,_⟩:=id I.loc
 obtain ⟨sl,hL⟩:=u.any ho I.free (by simp)
 exact I.step (g':=s.gens) (d':=s.drawn) (ch:=[]) (λ _ z=>nomatch z) (λ b o _ hb _ e n=>u.keep b o e n hb (by simp)) (λ b o _ hb _ e n=>u.slot b o e n hb (by simp)) (λ b o _ e n=>u.free b o e n (by simp)) (λ b o _ e=>u.there b o e (by simp)) u.tups u.frzs u.tbls (λ m' hm=>by
  obtain ⟨o',es',ep',ho',r'⟩:=hm
  rw [ho] at ho';cases ho'
  exact ⟨_,es',ep',hL,r'⟩) hok I.bare
theorem Inv.call {g':Array GenState}{t':Nat}{d':Drawn}{ch:List Addr}(I:Inv X pins σ H s) (u:Un (frs X.stack) ch H H' s.heap h') (hok:HOk X.prog X.w H' h') (hg:AllBare g')
  (hch:∀b∈ch,(b∈X.ex\/X.s₀.heap.objs.size≤b)/\b≠X.env.locals/\(∀x c,X.env.cells.lookup x=some c->c≠b)/\∀p∈X.pn++pins,p.1≠b) :
  Inv X pins σ H' { s with heap:=h',gens:=g',drawn:=d',toks:=t' }:=by
 obtain ⟨m,⟨o,es,ep,ho,r⟩,_⟩:=id I.loc
 obtain ⟨sl,hL⟩:=u.any ho I.free λ z=>(hch _ z).2.1 rfl
 exact I.step (ch:=ch) hch (λ b o hL hb hc e n=>u.keep b o e n (λ z=>(List.mem_cons.mp (I.stkSub b z)).elim hL hb) hc) (λ b o _ _ hc e n=>u.any e n hc) (λ b o hc e n=>u.free b o e n hc) (λ b o hc e=>u.there b o e hc) u.tups u.frzs u.tbls (λ m' hm=>by
  obtain ⟨o',es',ep',ho',r'⟩:=hm
  rw [ho] at ho';cases ho'
  exact ⟨_,es',ep',hL,r'⟩) hok hg
theorem Inv.turned {t':Nat}{it:Addr}(I:Inv X pins σ H s) (k:∀b o,b≠it->s.heap.get? b=some o->h'.get? b=some o) (hn:H it=none) (hL:it≠X.env.locals)
  (h1:it∈X.ex\/X.s₀.heap.objs.size≤it) (h2:∀x c,X.env.cells.lookup x=some c->c≠it) (h3:∀p∈X.pn++pins,p.1≠it):Inv X pins σ H { s with heap:=h',toks:=t' }:=by
 have nit:∀b u,H b=some u->b≠it:=λ b u e z=>by rw [z,hn] at e;cases e
 refine I.step (g':=s.gens) (d':=s.drawn) (ch:=[it]) (λ b hb=>?_) (λ b o _ _ hc e _=>k b o (λ z=>hc (by simp [z])) e) (λ b o _ _ hc e _=>⟨o.slots,k b o (λ z=>hc (by simp [z])) e⟩) (λ _ _ _ _ n=>n)
  (λ b o hc e=>⟨o,k b o (λ z=>hc (by simp [z])) e⟩) (λ _ _ e=>e) (λ _ _ _ e=>e) (λ b ps e=>⟨#[],by rw [e];simp⟩) (λ m hm=>?_) (λ b u e=>?_) I.bare
 ·have e:b=it:=by simpa using hb
  subst e
  exact ⟨h1,hL,h2,h3⟩
 ·obtain ⟨o,es,ep,ho,r⟩:=hm
  exact ⟨o,es,ep,k _ o (Ne.symm hL) ho,r⟩
 ·refine (I.hok b u e).stay (λ c v hc q=>k c v ?_ q) (λ _ q=>q) λ _ _ q=>q
  rcases hc with z | z
  ·rw [z];exact nit b u e
  ·exact nit c _ z
theorem Inv.tok (I:Inv X pins σ H s) (t:Nat):Inv X pins σ H { s with toks:=t }:=I.un (h':=s.heap) (t':=t) Un.refl I.hok
theorem Inv.kept {t':Nat}(I:Inv X pins σ H s) (k:∀b u,s.heap.get? b=some u->h'.get? b=some u):Inv X pins σ H { s with heap:=h',toks:=t' }:=I.un (Un.kept k) (I.hok.kept k)
theorem Inv.laid {a:Addr}{o:HO}{t':Nat}(I:Inv X pins σ H s) (k:∀b u,s.heap.get? b=some u->h'.get? b=some u) (hp:s.heap.objs.size≤a) (new:ObjOk X.prog X.w (upd H a o) h' a o) :
  Inv X pins σ (upd H a o) { s with heap:=h',toks:=t' }:=I.un (Un.laid k hp (I.hok.fresh hp)) (I.hok.laid k hp new)
theorem Inv.write {x e:Addr}{o:HO}{t':Nat}(I:Inv X pins σ H s) (mu:Mut (H x)) (he:e=x\/H e=some (.own x)) (k:∀b u,b≠e->s.heap.get? b=some u->h'.get? b=some u) (heo:∃u,h'.get? e=some u)
  (new:ObjOk X.prog X.w (upd H x o) h' x o):Inv X pins σ (upd H x o) { s with heap:=h',toks:=t' }:=I.un (Un.write mu he k heo) (I.hok.write mu he k heo new)
theorem Inv.pins_of {pins':List (Addr × Obj)}(I:Inv X pins σ H s) (h:∀p∈pins',s.heap.get? p.1=some p.2/\H p.1=none/\p.1≠X.env.locals/\p.1 ∉ X.fs/\∀v,p.2.data≠.cell v):Inv X pins' σ H s :=
 ⟨I.ok,I.os,I.bare,I.base,I.loc,I.cell,I.free,I.freeC,λ p hp=>(List.mem_append.mp hp).elim (λ z=>I.pin p (List.mem_append_left _ z)) (h p),I.hok,I.len⟩
theorem y2k {N:List Str}(hN:N.Nodup) {i j:Nat}{x:Str}(a:N[i]?=some x) (b:N[j]?=some x):i=j:=by
 obtain ⟨h1,e1⟩:=List.getElem?_eq_some_iff.mp a
 obtain ⟨h2,e2⟩:=List.getElem?_eq_some_iff.mp b
 exact (List.getElem_inj hN).mp (e1.trans e2.symm)
theorem y5e {M:Model}{A:Around}{E:Value->Shared->Prop}{i:Nat}{x:Str}{v:V}{u:Value}{Q:Unit->Shared->Prop}(I:Inv X pins σ H s) (hN:X.N.Nodup) (hi:X.N[i]?=some x) (hx:Loc X.env.scope x) (r:RelV v u)
  (h:∀s',Inv X pins (σ.set i (some v)) H s'->(∃a,Heap.SameBut a s.heap s'.heap/\(a=X.env.locals\/X.env.cells.lookup x=some a))->Q () s') (hf:X.fn x=true\/X.env.scope.names.lookup x=some .local:=by first | exact .inl rfl | exact .inr rfl | assumption):wpAny M A (storeName X.env x u) Q E s:=by
 obtain ⟨m,hn,hl⟩:=id I.loc
 have hcls:(X.env.scope.kind == .class || (X.env.scope.kind == .module && X.env.locals != X.env.globals))=false:=by rw [I.ok.kind];rfl
 have hiσ:i < σ.length:=by rw [I.len];exact (List.getElem?_eq_some_iff.mp hi).1
 have cne:=I.cne
 have tracked:∀ {a:Addr}{h':Heap},(∃o,s.heap.get? a=some o/\H a=none)->Heap.SameBut a s.heap h'->HOk X.prog X.w H h':=λ {a h'} ha hs b ob e=>by
  obtain ⟨_,_,hfree⟩:=ha
  refine (I.hok b ob e).stay (λ c w' hc q=>(hs.2 c ?_).trans q) (λ _ q=>q) λ _ _ q=>q
  rintro rfl
  rcases hc with rfl | hc
  ·rw [hfree] at e;cases e
  ·rw [hfree] at hc;cases hc
 rcases hx with hk | hk
 ·refine wpAny_storeName_local hk hn (λ h' hn' hs=>?_) hcls
  obtain ⟨oL,_,_,hoL,_⟩:=id hn
  refine h _ ⟨I.ok,I.os,I.bare,⟨λ b o e n hb hx=>?_,λ b o e n hb hx=>?_,I.base.free,λ b o e hx=>?_,I.base.tups,I.base.frzs,I.base.tbls⟩,⟨_,hn',λ j y v' e1 e2 e3=>?_⟩,λ y c e=>?_,I.free,I.freeC,λ p hp=>?_,tracked ⟨oL,hoL,I.free⟩ hs,by simpa using I.len⟩ ⟨_,hs,.inl rfl⟩
  ·exact (hs.2 b (Nat.ne_of_lt (Nat.lt_of_lt_of_le (Heap.lt_size e) I.ok.above))).trans (I.base.keep b o e n hb hx)
  ·obtain ⟨sl,e1⟩:=I.base.slot b o e n hb hx
   exact ⟨sl,(hs.2 b (Nat.ne_of_lt (Nat.lt_of_lt_of_le (Heap.lt_size e) I.ok.above))).trans e1⟩
  ·obtain ⟨o',e1⟩:=I.base.there b o e hx
   exact ⟨o',(hs.2 b (Nat.ne_of_lt (Nat.lt_of_lt_of_le (Heap.lt_size e) I.ok.above))).trans e1⟩
  ·by_cases hj:j=i
   ·subst hj
    rw [hi] at e1;cases e1
    rw [List.getElem?_set_self hiσ] at e2
    cases e2
    exact ⟨u,r,.inl ⟨hk,by simp⟩⟩
   ·rw [List.getElem?_set_ne (Ne.symm hj)] at e2
    obtain ⟨u',r',q⟩:=hl j y v' e1 e2 e3
    refine ⟨u',r',?_⟩
    rcases q with ⟨k,e⟩ | ⟨k,c,e,z⟩
    ·refine .inl ⟨k,?_⟩
     have:y≠x:=λ e=>hj (y2k hN e1 (e ▸ hi))
     simp [this,e]
    ·exact .inr ⟨k,c,e,z.sameBut hs (cne y c e)⟩
  ·obtain ⟨w',z⟩:=I.cell y c e
   exact ⟨w',z.sameBut hs (cne y c e)⟩
  ·obtain ⟨e,n,ne,nf,d⟩:=I.pin p hp
   exact ⟨(hs.2 p.1 ne).trans e,n,ne,nf,d⟩
 ·have hfn:X.fn x=true:=by
   rcases hf with z | z
   ·exact z
   ·rw [z] at hk;cases hk
  obtain ⟨c,hc⟩:=I.ok.has x (.inl hk)
  obtain ⟨w',z⟩:=I.cell x c hc
  refine wpAny_storeName_cell I.ok.kind hk hc z (λ h' hc' hs=>?_)
  obtain ⟨oc,hoc,hocd⟩:=id z
  refine h { s with heap:=h' } ⟨I.ok,I.os,I.bare,⟨λ b o e n hb hx=>?_,λ b o e n hb hx=>?_,I.base.free,λ b o e hx=>?_,I.base.tups,I.base.frzs,I.base.tbls⟩,⟨m,hn.sameBut hs (Ne.symm (cne x c hc)),λ j y v' e1 e2 e3=>?_⟩,λ y c' e=>?_,I.free,I.freeC,λ p hp=>?_,tracked ⟨oc,hoc,I.freeC x c hc⟩ hs,by simpa using I.len⟩ ⟨c,hs,.inr hc⟩
  ·exact (hs.2 b (Nat.ne_of_lt (Nat.lt_of_lt_of_le (Heap.lt_size e) (I.ok.cab x c hfn hc)))).trans (I.base.keep b o e n hb hx)
  ·obtain ⟨sl,e1⟩:=I.base.slot b o e n hb hx
   exact ⟨sl,(hs.2 b (Nat.ne_of_lt (Nat.lt_of_lt_of_le (Heap.lt_size e) (I.ok.cab x c hfn hc)))).trans e1⟩
  ·obtain ⟨o',e1⟩:=I.base.there b o e hx
   exact ⟨o',(hs.2 b (Nat.ne_of_lt (Nat.lt_of_lt_of_le (Heap.lt_size e) (I.ok.cab x c hfn hc)))).trans e1⟩
  ·by_cases hj:j=i
   ·subst hj
    rw [hi] at e1;cases e1
    rw [List.getElem?_set_self hiσ] at e2
    cases e2
    exact ⟨u,r,.inr ⟨.inl hk,c,hc,hc'⟩⟩
   ·rw [List.getElem?_set_ne (Ne.symm hj)] at e2
    obtain ⟨u',r',q⟩:=hl j y v' e1 e2 e3
    refine ⟨u',r',?_⟩
    rcases q with q | ⟨k,c',e,z'⟩
    ·exact .inl q
    ·refine .inr ⟨k,c',e,z'.sameBut hs ?_⟩
     rintro rfl
     exact hj (y2k hN e1 (I.ok.inj _ _ _ e hc ▸ hi))
  ·by_cases hcc:c'=c
   ·subst hcc;exact ⟨_,hc'⟩
   ·obtain ⟨w2,z2⟩:=I.cell y c' e
    exact ⟨w2,z2.sameBut hs hcc⟩
  ·obtain ⟨e,n,ne,nf,d⟩:=I.pin p hp
   refine ⟨(hs.2 p.1 ?_).trans e,n,ne,nf,d⟩
   intro q
   rw [q,hoc] at e
   have q':oc=p.2:=Option.some.inj e
   exact d w' (by rw [← q'];exact hocd)
theorem z7z {M:Model}{A:Around}{E:Value->Shared->Prop}{i:Nat}{x:Str}{v:V}{u:Value}{Q:Unit->Shared->Prop}(I:Inv X pins σ H s) (hN:X.N.Nodup) (hi:X.N[i]?=some x) (hx:Loc X.env.scope x) (r:RelV v u)
  (h:∀s',Inv X pins (σ.set i (some v)) H s'->Q () s') (hf:X.fn x=true\/X.env.scope.names.lookup x=some .local:=by first | exact .inl rfl | exact .inr rfl | assumption):wpAny M A (storeName X.env x u) Q E s :=
 y5e I hN hi hx r (λ s' I' _=>h s' I') hf
theorem Inv.call' {s':Shared}{ch:List Addr}(I:Inv X pins σ H s) (ho:s'.os=s.os) (u:Un (frs X.stack) ch H H' s.heap s'.heap) (hok:HOk X.prog X.w H' s'.heap) (hg:AllBare s'.gens)
  (hch:∀b∈ch,(b∈X.ex\/X.s₀.heap.objs.size≤b)/\b≠X.env.locals/\(∀x c,X.env.cells.lookup x=some c->c≠b)/\∀p∈X.pn++pins,p.1≠b):Inv X pins σ H' s':=by
 obtain ⟨h',g',d',t',o'⟩:=s'
 have e:o'=s.os:=ho
 subst e
 exact I.call (g':=g') (t':=t') (d':=d') u hok hg hch
end
abbrev XK:=Value->Option Addr->Hp->Prop
abbrev St:=List (Option V)
abbrev VK:=V->Hp->Prop
abbrev TE:=St->Hp->VK->Prop
abbrev TT:=St->Hp->(Bool->Hp->Prop)->Prop
abbrev TA:=St->Hp->(List V->Hp->Prop)->Prop
structure Ends where
 nx:St->Hp->Prop
 rt:VK
 bk:St->Hp->Prop:=λ _ _=>False
 ct:St->Hp->Prop:=λ _ _=>False
abbrev TS:=Ends->St->Hp->Prop
def EP (X:Cx) (pins:List (Addr × Obj)) (σ:St) (Q:VK) (u:Value) (s':Shared):Prop:=∃v H',Inv X pins σ H' s'/\RelV v u/\Q v H'
def TP (X:Cx) (pins:List (Addr × Obj)) (σ:St) (Q:Bool->Hp->Prop) (b:Bool) (s':Shared):Prop:=∃H',Inv X pins σ H' s'/\Q b H'
def AP (X:Cx) (pins:List (Addr × Obj)) (σ:St) (Q:List V->Hp->Prop) (us:List Value) (s':Shared):Prop:=∃vs H',Inv X pins σ H' s'/\Vals vs us/\Q vs H'
def SP (X:Cx) (pins:List (Addr × Obj)) (D:Ends) (f:Flow) (s':Shared):Prop :=
 match f with
 | .next=>∃σ' H',Inv X pins σ' H' s'/\D.nx σ' H'
 | .brk=>∃σ' H',Inv X pins σ' H' s'/\D.bk σ' H'
 | .cont=>∃σ' H',Inv X pins σ' H' s'/\D.ct σ' H'
 | .ret u=>∃v σ' H',Inv X pins σ' H' s'/\RelV v u/\D.rt v H'
def PE (X:Cx) (e:Expr) (t:TE):Prop :=
 ∀(pins:List (Addr × Obj)) (s:Shared) (σ:St) (H:Hp) (Q:VK),Inv X pins σ H s->t σ H Q->wpAny (model X.prog X.w) X.A (eval e X.env) (EP X pins σ Q) X.xe s
def PT (X:Cx) (e:Expr) (t:TT):Prop :=
 ∀(pins:List (Addr × Obj)) (s:Shared) (σ:St) (H:Hp) (Q:Bool->Hp->Prop),Inv X pins σ H s->t σ H Q->wpAny (model X.prog X.w) X.A (isTrue e X.env (eval e X.env)) (TP X pins σ Q) X.xe s
def PW (X:Cx) (e:Expr) (t:TT):Prop :=
 ∀(whole:Sem Value) (pins:List (Addr × Obj)) (s:Shared) (σ:St) (H:Hp) (Q:Bool->Hp->Prop),Inv X pins σ H s->t σ H Q->wpAny (model X.prog X.w) X.A (isTrue e X.env whole) (TP X pins σ Q) X.xe s
theorem PW.pt {X:Cx}{e:Expr}{t:TT}(h:PW X e t):PT X e t:=h _
def PA (X:Cx) (es:List Expr) (t:TA):Prop :=
 ∀(pos:Pos) (pins:List (Addr × Obj)) (s:Shared) (σ:St) (H:Hp) (Q:List V->Hp->Prop),Inv X pins σ H s->t σ H Q->wpAny (model X.prog X.w) X.A (spliced (backTo pos (starEach es X.env))) (AP X pins σ Q) X.xe s
def PS (X:Cx) (st:Stmt) (t:TS):Prop :=
 ∀(pins:List (Addr × Obj)) (s:Shared) (σ:St) (H:Hp) (D:Ends),Inv X pins σ H s->t D σ H->wpAny (model X.prog X.w) X.A (exec st X.env) (SP X pins D) X.xe s
def PSs (X:Cx) (st:List Stmt) (t:TS):Prop :=
 ∀(pins:List (Addr × Obj)) (s:Shared) (σ:St) (H:Hp) (D:Ends),Inv X pins σ H s->t D σ H->wpAny (model X.prog X.w) X.A (execs st X.env) (SP X pins D) X.xe s
theorem thn {α:Type}{t:Sem α}{Q Q':α->Shared->Prop}{M:Model}{A:Around}{E:Value->Shared->Prop}{s:Shared}(h:wpAny M A t Q E s) (hQ:∀a s,Q a s->Q' a s):wpAny M A t Q' E s:=wpAny_mono h hQ λ _ _ x=>x
section
variable {X:Cx}
def tVar (i:Nat):TE:=λ σ H Q=>∃v,σ[i]?=some (some v)/\Q v H
def tC (v:V):TE:=λ _ H Q=>Q v H
theorem x1s {i:Nat}{x:Str}{pos:Pos}(hN:X.N[i]?=some x) (hv:Vis X.env.scope x) (hd:(x == ("__debug__" : Str))=false:=by decide) (hcd:(x == ("__classdict__" : Str))=false:=by decide):PE X (.Name x pos) (tVar i):=by
 intro pins s σ H Q I h
 obtain ⟨v,e,h⟩:=h
 obtain ⟨m,hn,hl⟩:=I.loc
 obtain ⟨u,r,l⟩:=hl i x v hN e hv
 have fin:EP X pins σ Q u s:=⟨v,H,I,r,h⟩
 rcases l with ⟨hk,hm⟩ | ⟨hk,c,hc,hcell⟩
 ·exact wpAny_Name (wpAny_loadName_local I.ok.kind hk hn hm fin) hd
 ·rcases hk with hk | hk
  ·exact wpAny_Name (wpAny_loadName_cell I.ok.kind hk hc hcell fin) hd
  ·exact wpAny_Name (wpAny_loadName_free I.ok.kind hk hc hcell fin hcd) hd
theorem z0f {i j pos}:PE X (.Constant (.int i) j pos) (tC (.int i)):=λ _ _ _ H _ I h=>wpAny_Constant_int ⟨.int i,H,I.tok _,⟨_,rfl⟩,h⟩
theorem z4d {b j pos}:PE X (.Constant (.bool b) j pos) (tC (.bl b)):=λ _ _ _ H _ I h=>Constant_bool ⟨.bl b,H,I,rfl,h⟩
theorem z1a {x j pos}:PE X (.Constant (.str x) j pos) (tC (.str x)):=λ _ _ _ H _ I h=>Calls.Constant_str ⟨.str x,H,I.tok _,⟨_,rfl⟩,h⟩
def Gl (X:Cx) (x:Str):Prop:=X.env.kindOf x=some .globalImplicit
theorem z8y {E:Value->Shared->Prop}{pins:List (Addr × Obj)}{s:Shared}{σ:St}{H:Hp}{x:Str}{u:Value}{pos:Pos}{Q:Value->Shared->Prop}(I:Inv X pins σ H s) (hg:Gl X x) (hm:X.mg x=some u) (h:Q u s)
  (hd:(x == ("__debug__" : Str))=false:=by decide):wpAny (model X.prog X.w) X.A (eval (.Name x pos) X.env) Q E s :=
 Calls.Name_function_global I.ok.kind hg (Calls.loadGlobal_global (by rw [I.ok.glob];exact I.mod.glob.keeps I.bk) hm h) hd
theorem z4g {E:Value->Shared->Prop}{pins:List (Addr × Obj)}{s:Shared}{σ:St}{H:Hp}{x:Str}{u:Value}{pos:Pos}{Q:Value->Shared->Prop}(I:Inv X pins σ H s) (hg:Gl X x) (hm:X.mg x=none) (hv:bootBuiltins x=some u) (h:Q u s)
  (hn:x ≠ "__name__" := by decide) (hd:(x == ("__debug__" : Str))=false:=by decide):wpAny (model X.prog X.w) X.A (eval (.Name x pos) X.env) Q E s:=by
 obtain ⟨mb,h1,h2⟩:=I.mod.blt
 exact Calls.Name_function_global I.ok.kind hg (Calls.loadGlobal_builtin (by rw [I.ok.glob];exact I.mod.glob.keeps I.bk) hm (by rw [I.ok.blt];exact h1.keeps I.bk) ((h2 x hn).trans hv) h) hd
theorem z5o {x:Str}{v:V}{u:Value}{pos:Pos}(hg:Gl X x) (hm:X.mg x=some u) (r:RelV v u) (hd:(x == ("__debug__" : Str))=false:=by decide):PE X (.Name x pos) (tC v) :=
 λ _ _ _ H _ I h=>z8y I hg hm ⟨v,H,I,r,h⟩ hd
theorem z6s {x:Str}{v:V}{u:Value}{pos:Pos}(hg:Gl X x) (hm:X.mg x=none) (hv:bootBuiltins x=some u) (r:RelV v u) (hn:x ≠ "__name__" := by decide) (hd:(x == ("__debug__" : Str))=false:=by decide):PE X (.Name x pos) (tC v) :=
 λ _ _ _ H _ I h=>z4g I hg hm hv ⟨v,H,I,r,h⟩ hn hd
variable {a b:Expr}{ta tb:TE}{pos:Pos}
def tB (t:TE):TT:=λ σ H Q=>t σ H λ x H1=>∃c,x=.bl c/\Q c H1
theorem z2u {e:Expr}{t:TE}(h:PE X e t) (he:∀whole,isTrue e X.env whole=(do let v ← whole;standAt e.pos;holding [v] (truthy v)):=by intro _;rfl):PT X e (tB t):=by
 intro pins s σ H Q I hw
 refine isTrue_plain (thn (h pins s σ H _ I hw) λ v s1 ⟨x,H1,I1,r1,q1⟩=>?_) (he _)
 obtain ⟨d,rfl,q⟩:=q1
 cases r1
 exact wpAny_truthy_bool ⟨H1,I1,q⟩
variable {tA tB':TT}{rest:List Expr}
def tAnd (t u:TT):TT:=λ σ H Q=>t σ H λ c H1=>if c=true then u σ H1 Q else Q false H1
def tOr (t u:TT):TT:=λ σ H Q=>t σ H λ c H1=>if c=true then Q true H1 else u σ H1 Q
def tNot (t:TT):TT:=λ σ H Q=>t σ H λ c H1=>Q (!c) H1
theorem x2o (ha:PT X a tA):PW X (.BoolOp .And [a] pos) tA:=by
 intro wh pins s σ H Q I h
 refine isTrue_and (thn (ha pins s σ H Q I h) λ c s1 e=>?_)
 cases c with
 | true=>exact isTrue_and_nil e
 | false=>exact e
theorem z5b (ha:PT X a tA):PW X (.BoolOp .Or [a] pos) tA:=by
 intro wh pins s σ H Q I h
 refine isTrue_or (thn (ha pins s σ H Q I h) λ c s1 e=>?_)
 cases c with
 | false=>exact isTrue_or_nil e
 | true=>exact e
theorem x4q (ha:PT X a tA) (hb:PW X (.BoolOp .And (b::rest) pos) tB'):PW X (.BoolOp .And (a::b::rest) pos) (tAnd tA tB'):=by
 intro wh pins s σ H Q I h
 refine isTrue_and (thn (ha pins s σ H _ I h) λ c s1 ⟨H1,I1,q1⟩=>?_)
 cases c with
 | true=>exact hb wh pins s1 σ H1 Q I1 q1
 | false=>exact ⟨H1,I1,q1⟩
theorem z6q (ha:PT X a tA) (hb:PW X (.BoolOp .Or (b::rest) pos) tB'):PW X (.BoolOp .Or (a::b::rest) pos) (tOr tA tB'):=by
 intro wh pins s σ H Q I h
 refine isTrue_or (thn (ha pins s σ H _ I h) λ c s1 ⟨H1,I1,q1⟩=>?_)
 cases c with
 | true=>exact ⟨H1,I1,q1⟩
 | false=>exact hb wh pins s1 σ H1 Q I1 q1
theorem z3d (ha:PT X a tA):PT X (.UnaryOp .Not a pos) (tNot tA):=by
 intro pins s σ H Q I h
 exact isTrue_not (ha pins s σ H (λ c H1=>Q (!c) H1) I h)
def tAndV (ta tb:TE):TE:=λ σ H Q=>ta σ H λ x H1=>∃c,x=.bl c/\if c=true then tb σ H1 Q else Q (.bl false) H1
def tOrV (ta tb:TE):TE:=λ σ H Q=>ta σ H λ x H1=>∃c,x=.bl c/\if c=true then Q (.bl true) H1 else tb σ H1 Q
def tNotV (ta:TE):TE:=λ σ H Q=>ta σ H λ x H1=>∃c,x=.bl c/\Q (.bl (!c)) H1
theorem x4t {op} {t:TE}(h:PE X a t):PE X (.BoolOp op [a] pos) t:=λ pins s σ H Q I hw=>BoolOp_one (h pins s σ H Q I hw)
theorem x4w (ha:PE X a ta) (hb:PE X (.BoolOp .And (b::rest) pos) tb):PE X (.BoolOp .And (a::b::rest) pos) (tAndV ta tb):=by
 intro pins s σ H Q I h
 refine BoolOp_and (thn (ha pins s σ H _ I h) λ v s1 ⟨x,H1,I1,r1,q1⟩=>?_)
 obtain ⟨c,rfl,q1⟩:=q1
 cases r1
 refine wpAny_truthy_bool ?_
 cases c with
 | true=>exact hb pins s1 σ H1 Q I1 q1
 | false=>exact ⟨.bl false,H1,I1,rfl,q1⟩
theorem x4u (ha:PE X a ta):PE X (.UnaryOp .Not a pos) (tNotV ta):=by
 intro pins s σ H Q I h
 refine UnaryOp_ (thn (ha pins s σ H _ I h) λ v s1 ⟨x,H1,I1,r1,q1⟩=>?_)
 obtain ⟨c,rfl,q1⟩:=q1
 cases r1
 exact not_of (wpAny_truthy_bool ⟨.bl (!c),H1,I1,rfl,q1⟩)
def tIf (t:TT) (ta tb:TE):TE:=λ σ H Q=>t σ H λ c H1=>if c=true then ta σ H1 Q else tb σ H1 Q
theorem z5f {c:Expr}(hc:PT X c tA) (ha:PE X a ta) (hb:PE X b tb):PE X (.IfExp c a b pos) (tIf tA ta tb):=by
 intro pins s σ H Q I h
 refine wpAny_IfExp (thn (hc pins s σ H _ I h) λ d s1 ⟨H1,I1,q1⟩=>?_)
 cases d with
 | true=>exact ha pins s1 σ H1 Q I1 q1
 | false=>exact hb pins s1 σ H1 Q I1 q1
end
def SqL (K:W.Frag) (H:Hp) (a:Addr) (xs:List V):Prop :=
 Rd H a (.lst xs) \/
  ∃(o:Obj) (its:Array Value) (n:Nat),K.lookup a=some o/\o.cls=.type "list" /\ o.dict=none/\o.data=.seq its n/\its.size≤sizeLine/\Vals xs its.toList
def SqT (K:W.Frag) (H:Hp) (a:Addr) (xs:List V):Prop :=
 Rd H a (.tup xs) \/
  ∃(o:Obj) (its:Array Value) (n:Nat),K.lookup a=some o/\o.cls=.type "tuple" /\ o.data=.seq its n/\its.size≤sizeLine/\Vals xs its.toList
def absV:Value->Option V
 | .none=>some .non
 | .bool b=>some (.bl b)
 | .int i _=>some (.int i)
 | .str x _=>some (.str x)
 | .bytes b _=>some (.byt b)
 | .float b _=>some (.flt b)
 | .ref a=>some (.ref a)
 | .type n=>some (.ty n)
 | _=>none
theorem RelV.abs {x:V}{u:Value}(r:RelV x u):absV u=some x:=by
 cases x with
 | non=>cases r;rfl
 | bl _=>cases r;rfl
 | int _=>obtain ⟨t,rfl⟩:=r;rfl
 | str _=>obtain ⟨t,rfl⟩:=r;rfl
 | byt _=>obtain ⟨t,rfl⟩:=r;rfl
 | flt _=>obtain ⟨t,rfl⟩:=r;rfl
 | ref _=>cases r;rfl
 | ty _=>cases r;rfl
theorem RelV.inj {x y:V}{u:Value}(r:RelV x u) (q:RelV y u):x=y:=Option.some.inj (r.abs.symm.trans q.abs)
theorem Vals.inj:∀ {xs ys:List V}{us:List Value},Vals xs us->Vals ys us->xs=ys
 | _,_,_,.nil,.nil=>rfl
 | _,_,_,.cons r t,.cons r' t'=>by rw [r.inj r',Vals.inj t t']
section
variable {X:Cx}{pins:List (Addr × Obj)}{σ:St}{H:Hp}{s:Shared}{a:Addr}{xs ys:List V}
theorem SqL.of {K:W.Frag}(h:H a=some (.lst xs)):SqL K H a xs:=.inl (.inl h)
theorem SqT.of {K:W.Frag}(h:H a=some (.tup xs)):SqT K H a xs:=.inl (.inl h)
theorem Inv.list (I:Inv X pins σ H s) (h:SqL X.K H a xs):∃its:List Value,Vals xs its/\PlainL s.heap a its.toArray/\xs.length≤sizeLine:=by
 rcases h with h | ⟨o,its,n,hk,hc,hd,hs,hz,r⟩
 ·obtain ⟨z,its,n,r,e⟩:=h.ok I.hok
  exact ⟨its,r,⟨_,n,e,rfl,rfl,rfl⟩,z⟩
 ·refine ⟨its.toList,r,⟨o,n,I.kIn a o hk,hc,hd,by simpa using hs⟩,?_⟩
  have e:=r.length
  simp only [Array.length_toList] at e
  omega
theorem Inv.tuple (I:Inv X pins σ H s) (h:SqT X.K H a xs):∃its:List Value,Vals xs its/\IsTup s.heap a its.toArray/\xs.length≤sizeLine:=by
 rcases h with h | ⟨o,its,n,hk,hc,hs,hz,r⟩
 ·obtain ⟨z,its,r,p⟩:=h.ok I.hok
  exact ⟨its,r,p,z⟩
 ·refine ⟨its.toList,r,⟨o,I.kIn a o hk,hc,n,by simpa using hs⟩,?_⟩
  have e:=r.length
  simp only [Array.length_toList] at e
  omega
theorem Inv.list_inj (I:Inv X pins σ H s) (h:SqL X.K H a xs) (h':SqL X.K H a ys):xs=ys:=by
 obtain ⟨its,r,⟨o,n,e,_,_,d⟩,_⟩:=I.list h
 obtain ⟨its',r',⟨o',n',e',_,_,d'⟩,_⟩:=I.list h'
 rw [e] at e';cases e'
 rw [d] at d'
 injection d' with d1 _
 have:its=its':=by simpa using congrArg Array.toList d1
 subst this
 exact r.inj r'
theorem Inv.tuple_inj (I:Inv X pins σ H s) (h:SqT X.K H a xs) (h':SqT X.K H a ys):xs=ys:=by
 obtain ⟨its,r,⟨o,e,_,n,d⟩,_⟩:=I.tuple h
 obtain ⟨its',r',⟨o',e',_,n',d'⟩,_⟩:=I.tuple h'
 rw [e] at e';cases e'
 rw [d] at d'
 injection d' with d1 _
 have:its=its':=by simpa using congrArg Array.toList d1
 subst this
 exact r.inj r'
end
abbrev Cx.wish (X:Cx) (E:Value->Shared->Prop):Cx:={ X with xe:=E }
abbrev Cx.nox (X:Cx):Cx:=X.wish λ _ _=>False
theorem Cx.Ok.wish {X:Cx}(ok:X.Ok) (E:Value->Shared->Prop):(X.wish E).Ok :=
 ⟨ok.mod,ok.kind,ok.glob,ok.blt,ok.above,ok.inj,ok.has,ok.cab,ok.hd,ok.frames,ok.stk,ok.exf,ok.bs,ok.bsz,ok.noex,ok.exfs,ok.funs,ok.frf⟩
theorem Cx.Ok.unwish {X:Cx}{E:Value->Shared->Prop}(ok:(X.wish E).Ok):X.Ok :=
 ⟨ok.mod,ok.kind,ok.glob,ok.blt,ok.above,ok.inj,ok.has,ok.cab,ok.hd,ok.frames,ok.stk,ok.exf,ok.bs,ok.bsz,ok.noex,ok.exfs,ok.funs,ok.frf⟩
section
variable {X:Cx}{pins:List (Addr × Obj)}{σ:St}{H:Hp}{s:Shared}{E:Value->Shared->Prop}
theorem Inv.wish (I:Inv X pins σ H s) (E:Value->Shared->Prop):Inv (X.wish E) pins σ H s:=⟨I.ok.wish E,I.os,I.bare,I.base,I.loc,I.cell,I.free,I.freeC,I.pin,I.hok,I.len⟩
theorem Inv.unwish (I:Inv (X.wish E) pins σ H s):Inv X pins σ H s:=⟨I.ok.unwish,I.os,I.bare,I.base,I.loc,I.cell,I.free,I.freeC,I.pin,I.hok,I.len⟩
theorem SP.unwish {D:Ends}{f:Flow}{s':Shared}(h:SP (X.wish E) pins D f s'):SP X pins D f s':=by
 cases f with
 | next=>obtain ⟨σ',H',I,q⟩:=h;exact ⟨σ',H',I.unwish,q⟩
 | brk=>obtain ⟨σ',H',I,q⟩:=h;exact ⟨σ',H',I.unwish,q⟩
 | cont=>obtain ⟨σ',H',I,q⟩:=h;exact ⟨σ',H',I.unwish,q⟩
 | ret u=>obtain ⟨v,σ',H',I,r,q⟩:=h;exact ⟨v,σ',H',I.unwish,r,q⟩
theorem PE.nox {e:Expr}{t:TE}(h:PE X.nox e t):PE X e t:=λ pins s σ H Q I hw =>
 wpAny_mono (h pins s σ H Q (I.wish _) hw) (λ _ _ ⟨v,H',I',r,q⟩=>⟨v,H',I'.unwish,r,q⟩) λ _ _ z=>False.elim z
theorem PT.nox {e:Expr}{t:TT}(h:PT X.nox e t):PT X e t:=λ pins s σ H Q I hw =>
 wpAny_mono (h pins s σ H Q (I.wish _) hw) (λ _ _ ⟨H',I',q⟩=>⟨H',I'.unwish,q⟩) λ _ _ z=>False.elim z
theorem PSs.nox {st:List Stmt}{t:TS}(h:PSs X.nox st t):PSs X st t:=λ pins s σ H D I hw =>
 wpAny_mono (h pins s σ H D (I.wish _) hw) (λ _ _ q=>q.unwish) λ _ _ z=>False.elim z
end
section
variable {X:Cx}{st:Stmt}{rest:List Stmt}{t u:TS}{e:Expr}{te:TE}{pos:Pos}
def tNext:TS:=λ D σ H=>D.nx σ H
def tSeq (t u:TS):TS:=λ D σ H=>t { D with nx:=u D } σ H
theorem z0o:PSs X [] tNext:=λ _ _ σ H _ I h=>wpAny_execs_nil ⟨σ,H,I,h⟩
theorem z0c (h1:PS X st t) (h2:PSs X rest u):PSs X (st::rest) (tSeq t u):=by
 intro pins s σ H D I h
 refine wpAny_execs_cons (thn (h1 pins s σ H { D with nx:=u D } I h) λ f s1 q=>?_)
 cases f with
 | next =>
  obtain ⟨σ',H',I',q⟩:=q
  exact h2 pins s1 σ' H' D I' q
 | ret v=>exact q
 | brk=>exact q
 | cont=>exact q
theorem z0d (h1:PS X st t):PSs X [st] t:=by
 intro pins s σ H D I h
 refine wpAny_execs_cons (thn (h1 pins s σ H D I h) λ f s1 q=>?_)
 cases f with
 | next=>exact wpAny_execs_nil q
 | ret v=>exact q
 | brk=>exact q
 | cont=>exact q
theorem Inv.quiet {pins:List (Addr × Obj)}{σ:St}{H:Hp}{s:Shared}(I:Inv X pins σ H s):interactive X.env=false:=by simp [interactive,I.ok.kind]
def tDrop (te:TE):TS:=λ D σ H=>te σ H λ _ H1=>D.nx σ H1
theorem z3a (he:PE X e te) (hs:swapsWith e none pos.line X.env=pure false:=by rfl):PS X (.Expr e pos) (tDrop te):=by
 intro pins s σ H D I h
 exact wpAny_Expr_any (thn (he pins s σ H _ I h) λ v s1 ⟨x,H1,I1,r1,q1⟩=>⟨σ,H1,I1,q1⟩) I.quiet hs
def tRet (te:TE):TS:=λ D σ H=>te σ H D.rt
theorem z0j (he:PE X e te):PS X (.Return (some e) pos) (tRet te):=by
 intro pins s σ H D I h
 exact wpAny_Return_some (thn (he pins s σ H _ I h) λ v s1 ⟨x,H1,I1,r1,q1⟩=>⟨x,σ,H1,I1,r1,q1⟩)
def tRetN:TS:=λ D _ H=>D.rt .non H
def tIfS (c:TT) (t u:TS):TS:=λ D σ H=>c σ H λ b H1=>if b=true then t D σ H1 else u D σ H1
theorem z1f {c:Expr}{a b:List Stmt}{tc:TT}(hc:PT X c tc) (ha:PSs X a t) (hb:PSs X b u):PS X (.If c a b pos) (tIfS tc t u):=by
 intro pins s σ H D I h
 refine wpAny_If (thn (hc pins s σ H _ I h) λ d s1 ⟨H1,I1,q1⟩=>?_)
 cases d with
 | true=>exact ha pins s1 σ H1 D I1 q1
 | false=>exact hb pins s1 σ H1 D I1 q1
def tNever:TS:=λ _ _ _=>False
theorem y9p:PS X st tNever:=λ _ _ _ _ _ _ h=>h.elim
end
abbrev TG:=V->St->Hp->(St->Hp->Prop)->Prop
abbrev TGs:=List V->St->Hp->(St->Hp->Prop)->Prop
def PG (X:Cx) (target:Expr) (t:TG):Prop :=
 ∀(pins:List (Addr × Obj)) (s:Shared) (σ:St) (H:Hp) (v:V) (u:Value) (Q:St->Hp->Prop),Inv X pins σ H s->RelV v u->t v σ H Q ->
  wpAny (model X.prog X.w) X.A (assign target X.env u) (λ _ s'=>∃σ' H',Inv X pins σ' H' s'/\Q σ' H') X.xe s
def PGs (X:Cx) (ts:List Expr) (t:TGs):Prop :=
 ∀(pins:List (Addr × Obj)) (s:Shared) (σ:St) (H:Hp) (vs:List V) (us:List Value) (Q:St->Hp->Prop),Inv X pins σ H s->Vals vs us->t vs σ H Q ->
  wpAny (model X.prog X.w) X.A (assignInOrder ((assignEach ts X.env).map (·.2)) us) (λ _ s'=>∃σ' H',Inv X pins σ' H' s'/\Q σ' H') X.xe s
abbrev TSet:=V->V->V->Hp->(Hp->Prop)->Prop
def PSet (X:Cx) (t:TSet):Prop :=
 ∀(pins:List (Addr × Obj)) (s:Shared) (σ:St) (H:Hp) (o i v:V) (ov iv u:Value) (Q:Hp->Prop),Inv X pins σ H s->RelV o ov->RelV i iv->RelV v u->t o i v H Q ->
  wpAny (model X.prog X.w) X.A (setItem ov iv u) (λ _ s'=>∃H',Inv X pins σ H' s'/\Q H') X.xe s
section
variable {X:Cx}{pos:Pos}
def gName (i:Nat):TG:=λ v σ H Q=>Q (σ.set i (some v)) H
theorem z1b {i:Nat}{x:Str}(hN:X.N.Nodup) (hi:X.N[i]?=some x) (hx:Loc X.env.scope x) (hf:X.fn x=true\/X.env.scope.names.lookup x=some .local:=by first | exact .inl rfl | exact .inr rfl | assumption):PG X (.Name x pos) (gName i):=by
 intro pins s σ H v u Q I r h
 exact wpAny_assign_Name (z7z I hN hi hx r (λ s' I'=>⟨_,H,I',h⟩) hf)
def gNil:TGs:=λ vs σ H Q=>vs=[]/\Q σ H
def gCons (t:TG) (u:TGs):TGs:=λ vs σ H Q=>∃v r,vs=v::r/\t v σ H λ σ' H'=>u r σ' H' Q
theorem z8l:PGs X [] gNil:=by
 intro pins s σ H vs us Q I r h
 obtain ⟨e,h⟩:=h
 subst e
 cases r
 exact assignInOrder_nil ⟨σ,H,I,h⟩
theorem z2v {e:Expr}{es:List Expr}{t:TG}{u:TGs}(h1:PG X e t) (h2:PGs X es u)
  (hs:(assignEach (e::es) X.env).map (·.2)=assign e X.env::(assignEach es X.env).map (·.2):=by rfl):PGs X (e::es) (gCons t u):=by
 intro pins s σ H vs us Q I r h
 obtain ⟨v,vr,e1,h⟩:=h
 subst e1
 cases r with
 | cons r rr =>
  rw [hs]
  refine assignInOrder_cons (thn (h1 pins s σ H _ _ _ I r h) λ _ s1 ⟨σ1,H1,I1,q1⟩=>?_)
  exact h2 pins s1 σ1 H1 _ _ Q I1 rr q1
def gTup (K:W.Frag) (n:Nat) (t:TGs):TG:=λ v σ H Q=>∃a xs,v=.ref a/\SqT K H a xs/\xs.length=n/\t xs σ H Q
theorem y2f {es:List Expr}{k:Nat}{t:TGs}{n:Nat}(hc:X.calm=true) (h:PGs X es t)
  (hn:(assignEach es X.env).length=n:=by rfl) (hst:(assignEach es X.env).findIdx? (·.1)=none:=by rfl):PG X (.Tuple es k pos) (gTup X.K n t):=by
 intro pins s σ H v u Q I r hw
 obtain ⟨a,xs,e1,hq,hl,hw⟩:=hw
 subst e1
 cases r
 obtain ⟨its,rv,ht,hz⟩:=I.tuple hq
 refine assign_Tuple_tuple (I.ok.hd hc) ht (by simp [hn,← hl,rv.length]) hst λ h' hx=>?_
 have I1:Inv X pins σ H { s with heap:=h' }:=I.kept (t':=s.toks) λ b o e=>hx b o (Nat.ne_of_lt (Heap.lt_size e)) e
 exact h pins _ σ H xs _ Q I1 (by simpa using rv) hw
def gSub (to ti:TE) (t:TSet):TG:=λ v σ H Q=>to σ H λ o H1=>ti σ H1 λ i H2=>t o i v H2 λ H3=>Q σ H3
theorem x1r {o i:Expr}{to ti:TE}{t:TSet}(ho:PE X o to) (hi:PE X i ti) (hs:PSet X t)
  (ha:∀v,assign (.Subscript o i pos) X.env v=(do
   let ov ← holding [v] (eval o X.env)
   let iv ← holding [v,ov] (eval i X.env)
   standAt pos
   holding [v,ov,iv] (setItem ov iv v)
   release [v,ov,iv] []):=by intro _;rfl):PG X (.Subscript o i pos) (gSub to ti t):=by
 intro pins s σ H v u Q I r h
 rw [ha]
 refine wpAny_bind (wpAny_holding (thn (ho pins s σ H _ I h) λ ov s1 ⟨x,H1,I1,r1,q1⟩=>?_))
 refine wpAny_bind (wpAny_holding (thn (hi pins s1 σ H1 _ I1 q1) λ iv s2 ⟨y,H2,I2,r2,q2⟩=>?_))
 refine wpAny_bind (wpAny_standAt (wpAny_bind (wpAny_holding (thn (hs pins s2 σ H2 x y v ov iv u _ I2 r1 r2 r q2) λ _ s3 ⟨H3,I3,q3⟩=>?_))))
 exact wpAny_release ⟨σ,H3,I3,q3⟩
def tAsg (te:TE) (g:TG):TS:=λ D σ H=>te σ H λ x H1=>g x σ H1 D.nx
theorem x1q {tg e:Expr}{te:TE}{g:TG}(he:PE X e te) (hg:PG X tg g) (hs:swapsWithSole [tg] e pos.line X.env=pure false:=by rfl) (hw:swappedStores [tg] e X.env=pure none:=by rfl)
  (h1:(assignEach [tg] X.env).map (·.2)=[assign tg X.env]:=by rfl):PS X (.Assign [tg] e pos) (tAsg te g):=by
 intro pins s σ H D I h
 refine wpAny_Assign_stores (thn (he pins s σ H _ I h) λ v s1 ⟨x,H1,I1,r1,q1⟩=>?_) hs hw
 rw [h1]
 exact thn (hg pins s1 σ H1 x v _ I1 r1 q1) λ _ s2 q=>q
theorem z0n {i:Nat}{x:Str}{e:Expr}{te:TE}{pos':Pos}(hN:X.N.Nodup) (hi:X.N[i]?=some x) (hx:Loc X.env.scope x) (he:PE X e te) (hs:swapsWith e (some (.Name x pos')) pos.line X.env=pure false:=by rfl) (hf:X.fn x=true\/X.env.scope.names.lookup x=some .local:=by first | exact .inl rfl | exact .inr rfl | assumption) :
  PS X (.Assign [.Name x pos'] e pos) (tAsg te (gName i)):=by
 intro pins s σ H D I h
 refine wpAny_Assign_Name (thn (he pins s σ H _ I h) λ v s1 ⟨y,H1,I1,r1,q1⟩=>?_) hs
 exact z7z I1 hN hi hx r1 (λ s2 I2=>⟨_,H1,I2,q1⟩) hf
end
section
variable {X:Cx}{pos:Pos}
end
structure It where
 go:Nat->Hp->Prop
 yld:Nat->Hp->V->Hp->Prop
 stop:Nat->Hp->Prop
def FpOk (X:Cx) (pins:List (Addr × Obj)) (H:Hp) (b:Addr):Prop :=
 H b=none/\b≠X.env.locals/\b ∉ X.fs/\(b∈X.ex\/X.s₀.heap.objs.size≤b)/\(∀x c,X.env.cells.lookup x=some c->c≠b)/\∀p∈X.pn++pins,p.1≠b
theorem Inv.fpOk {X:Cx}{pins:List (Addr × Obj)}{σ:St}{H H':Hp}{s:Shared}{b:Addr}(I:Inv X pins σ H s) (hb:s.heap.objs.size≤b) (hn:H' b=none):FpOk X pins H' b:=by
 refine ⟨hn,Nat.ne_of_gt (Nat.lt_of_lt_of_le I.lt hb),I.nofs hb,.inr (Nat.le_trans I.sz hb),λ x c e z=>?_,λ p hp z=>?_⟩
 ·obtain ⟨v,q⟩:=I.cell x c e
  exact absurd (Nat.lt_of_lt_of_le q.lt (by rw [z];exact hb)) (Nat.lt_irrefl _)
 ·exact absurd (Nat.lt_of_lt_of_le (Heap.lt_size (I.pin p hp).1) (by rw [z];exact hb)) (Nat.lt_irrefl _)
structure Turn (P:Program) (w:World) (K:W.Frag) (tg:Expr) (J:It) (fp:List Addr) (it:Addr) (tn:Nat->Heap->Prop):Prop where
 mem:it∈fp
 obj:∀i h,tn i h->∀b∈fp,∃o,h.get? b=some o/\∀v,o.data≠.cell v
 keep:∀i h h',tn i h->(∀b∈fp,∀o,h.get? b=some o->h'.get? b=some o)->tn i h'
 item:∀(X:Cx),X.prog=P->X.w=w->X.K=K->X.calm=true->∀(i:Nat) (pins:List (Addr × Obj)) (s:Shared) (σ:St) (H:Hp) (E:Value->Shared->Prop),Inv X pins σ H s->(∀b∈fp,FpOk X pins H b)->tn i s.heap->J.go i H ->
  wpAny (model P w) X.A (pyNext (.ref it)) (λ r s1=>∃u,r=some u /\
   wpAny (model P w) X.A (letOwnedTupleGo tg (.ref it) u) (λ _ s2=>∃x H',Inv X pins σ H' s2/\RelV x u/\J.yld i H x H'/\tn (i+1) s2.heap/\∀b∈fp,H' b=none) E s1) E s
 done:∀(X:Cx),X.prog=P->X.w=w->X.K=K->X.calm=true->∀(i:Nat) (pins:List (Addr × Obj)) (s:Shared) (σ:St) (H:Hp) (E:Value->Shared->Prop),Inv X pins σ H s->(∀b∈fp,FpOk X pins H b)->tn i s.heap->J.stop i H ->
  wpAny (model P w) X.A (pyNext (.ref it)) (λ r s1=>r=none/\Inv X pins σ H s1) E s
 self:∀(A:Around) (i:Nat) (s:Shared) (Q:Value->Shared->Prop) (E:Value->Shared->Prop),tn i s.heap->Q (.ref it) s->wpAny (model P w) A (pyIter (.ref it)) Q E s
abbrev TI:=St->Hp->(It->Hp->Prop)->Prop
def PIE (X:Cx) (pins:List (Addr × Obj)) (σ:St) (tg:Expr) (R:It->Hp->Prop) (itv:Value) (s2:Shared):Prop :=
 ∃(it:Addr) (fp:List Addr) (tn:Nat->Heap->Prop) (J:It) (H':Hp),itv=.ref it/\Inv X pins σ H' s2/\Turn X.prog X.w X.K tg J fp it tn/\tn 0 s2.heap/\(∀b∈fp,FpOk X pins H' b)/\R J H'
def PI (X:Cx) (tg iter:Expr) (wi:TI):Prop :=
 ∀(pins:List (Addr × Obj)) (s:Shared) (σ:St) (H:Hp) (R:It->Hp->Prop),Inv X pins σ H s->wi σ H R ->
  wpAny (model X.prog X.w) X.A (eval iter X.env) (λ v s1=>wpAny (model X.prog X.w) X.A (pyIter v) (PIE X pins σ tg R) X.xe s1) X.xe s
theorem x0l {M:Model}{A:Around}{E:Value->Shared->Prop}{s:Shared}{tg:Expr}{it:Addr}{u:Value}{o:Obj}{n:String}{vs:Array Value}{Q:Unit->Shared->Prop}(ho:s.heap.get? it=some o) (hc:o.cls=.type n) (hd:o.data=.fields vs)
    (hn:["enumerate", "zip", "dict_itemiterator", "dict_reverseitemiterator", "odict_iterator", "itertools.zip_longest", "itertools.pairwise"].contains n=false) (hQ:Q () s):wpAny M A (letOwnedTupleGo tg (.ref it) u) Q E s:=by
  unfold letOwnedTupleGo
  cases tg<;>first
    | exact wpAny_pure hQ
    | (cases u<;>first
        | exact wpAny_pure hQ
        | (refine wpAny_bind (wpAny_load ho ?_)
           rw [hc,hd]
           show wpAny M A (if (["enumerate", "zip", "dict_itemiterator", "dict_reverseitemiterator", "odict_iterator", "itertools.zip_longest", "itertools.pairwise"].contains n && vs[0]? == some (rawInt _))=true then _ else _) Q E s
           rw [if_neg (by intro h;rw [hn,Bool.false_and] at h;cases h)]
           exact wpAny_pure hQ))
def Itl (K:W.Frag) (a:Addr):It :=
 ⟨λ i H=>∃xs x,SqL K H a xs/\xs[i]?=some x,λ i H x H'=>H'=H/\∀xs,SqL K H a xs->xs[i]?=some x,λ i H=>∃xs,SqL K H a xs/\xs.length≤i⟩
def Itt (K:W.Frag) (a:Addr):It :=
 ⟨λ i H=>∃xs x,SqT K H a xs/\xs[i]?=some x,λ i H x H'=>H'=H/\∀xs,SqT K H a xs->xs[i]?=some x,λ i H=>∃xs,SqT K H a xs/\xs.length≤i⟩
def Itr (lo:Int) (n:Nat):It:=⟨λ i _=>i < n,λ i H x H'=>H'=H/\x=.int (lo+i),λ i _=>n≤i⟩
theorem y4s {P:Program}{w:World}{K:W.Frag}{tg:Expr}(a it:Addr):Turn P w K tg (Itl K a) [it] it (λ i h=>h.IsListIter it a i) where
 mem:=by simp
 obj:=λ i h st b hb=>by
  have e:b=it:=by simpa using hb
  subst e
  obtain ⟨o,e,c,d⟩:=st
  exact ⟨o,e,λ v z=>by rw [d] at z;cases z⟩
 keep:=λ i h h' st k=>st.at λ o e=>k it (by simp) o e
 item:=by
  intro X hP hw hK hc i pins s σ H E I hf st hg
  subst hP hw hK
  obtain ⟨xs,x,hq,hx⟩:=hg
  obtain ⟨its,rv,p,hz⟩:=I.list hq
  obtain ⟨u,hu,ru⟩:=rv.get hx
  obtain ⟨f0,f1,f2,f3,f4,f5⟩:=hf it (by simp)
  refine wpAny_pyNext_list_item st p.isList (x:=u) (by simpa using hu) λ h' st' sb=>?_
  have I1:Inv X pins σ H { s with heap:=h' }:=I.turned (t':=s.toks) (λ b o hb e=>(sb.2 b hb).trans e) f0 f1 f3 f4 f5
  obtain ⟨o,e,c,d⟩:=id st'
  exact ⟨u,rfl,x0l (s:={ s with heap:=h' }) e c d (by decide) ⟨x,H,I1,ru,⟨rfl,λ ys hy=>by rw [I.list_inj hy hq];exact hx⟩,st',λ b hb=>(hf b hb).1⟩⟩
 done:=by
  intro X hP hw hK hc i pins s σ H E I hf st hg
  subst hP hw hK
  obtain ⟨xs,hq,hx⟩:=hg
  obtain ⟨its,rv,p,hz⟩:=I.list hq
  obtain ⟨f0,f1,f2,f3,f4,f5⟩:=hf it (by simp)
  have hl:=rv.length
  exact wpAny_pyNext_list_end (I.ok.hd hc) st p.isList (by simp;omega) λ h' eb=>⟨rfl,I.turned (t':=s.toks) (λ b o hb e=>eb b o hb e) f0 f1 f3 f4 f5⟩
 self:=λ _ _ _ _ _ st h=>wpAny_pyIter_listiter st h
theorem y3e {P:Program}{w:World}{K:W.Frag}{tg:Expr}(a it:Addr):Turn P w K tg (Itt K a) [it] it (λ i h=>h.IsTupleIter it a i) where
 mem:=by simp
 obj:=λ i h st b hb=>by
  have e:b=it:=by simpa using hb
  subst e
  obtain ⟨o,e,c,d⟩:=st
  exact ⟨o,e,λ v z=>by rw [d] at z;cases z⟩
 keep:=λ i h h' st k=>st.at λ o e=>k it (by simp) o e
 item:=by
  intro X hP hw hK hc i pins s σ H E I hf st hg
  subst hP hw hK
  obtain ⟨xs,x,hq,hx⟩:=hg
  obtain ⟨its,rv,p,hz⟩:=I.tuple hq
  obtain ⟨u,hu,ru⟩:=rv.get hx
  obtain ⟨f0,f1,f2,f3,f4,f5⟩:=hf it (by simp)
  refine wpAny_pyNext_tuple_item st (show s.heap.IsTuple a its.toArray from p) (x:=u) (by simpa using hu) λ h' st' sb=>?_
  have I1:Inv X pins σ H { s with heap:=h' }:=I.turned (t':=s.toks) (λ b o hb e=>(sb.2 b hb).trans e) f0 f1 f3 f4 f5
  obtain ⟨o,e,c,d⟩:=id st'
  exact ⟨u,rfl,x0l (s:={ s with heap:=h' }) e c d (by decide) ⟨x,H,I1,ru,⟨rfl,λ ys hy=>by rw [I.tuple_inj hy hq];exact hx⟩,st',λ b hb=>(hf b hb).1⟩⟩
 done:=by
  intro X hP hw hK hc i pins s σ H E I hf st hg
  subst hP hw hK
  obtain ⟨xs,hq,hx⟩:=hg
  obtain ⟨its,rv,p,hz⟩:=I.tuple hq
  obtain ⟨f0,f1,f2,f3,f4,f5⟩:=hf it (by simp)
  have hl:=rv.length
  exact wpAny_pyNext_tuple_end (I.ok.hd hc) st (show s.heap.IsTuple a its.toArray from p) (by simp;omega) λ h' eb=>⟨rfl,I.turned (t':=s.toks) (λ b o hb e=>eb b o hb e) f0 f1 f3 f4 f5⟩
 self:=λ _ _ _ _ _ st h=>wpAny_pyIter_tupleiter st h
theorem y3f {P:Program}{w:World}{K:PySem.W.Frag}{tg:Expr}(it:Addr) (lo:Int) (n:Nat):Turn P w K tg (Itr lo n) [it] it (λ i h=>IsRangeIter h it (lo+(i:Nat) * 1) ((n:Int) - (i:Nat)) 1) where
 mem:=by simp
 obj:=λ i h st b hb=>by
  have e:b=it:=by simpa using hb
  subst e
  exact ⟨_,st,λ v z=>by
   have z':Data.fields _=Data.cell v:=z
   cases z'⟩
 keep:=λ i h h' st k=>k it (by simp) _ st
 item:=by
  intro X hP hw hK hc i pins s σ H E I hf st hg
  subst hP hw hK
  obtain ⟨f0,f1,f2,f3,f4,f5⟩:=hf it (by simp)
  have W:=Walks.range (prog:=X.prog) (w:=X.w) (I.ok.hd hc) it lo 1 n
  refine W.item i s _ _ hg st λ v h' tk hv st' kk=>?_
  obtain ⟨t,rfl⟩:=hv
  have I1:Inv X pins σ H { s with heap:=h',toks:=tk }:=I.turned (λ b o hb e=>kk b o (by simpa using hb) e) f0 f1 f3 f4 f5
  refine ⟨_,rfl,x0l (s:={ s with heap:=h',toks:=tk }) (n := "range_iterator") st' rfl rfl (by decide) ⟨.int (lo+i),H,I1,⟨t,?_⟩,⟨rfl,rfl⟩,st',λ b hb=>(hf b hb).1⟩⟩
  rw [Int.mul_one]
 done:=by
  intro X hP hw hK hc i pins s σ H E I hf st hg
  subst hP hw hK
  obtain ⟨f0,f1,f2,f3,f4,f5⟩:=hf it (by simp)
  exact wpAny_pyNext_range_end (I.ok.hd hc) st (by have:n≤i:=hg;omega) λ h' eb=>⟨rfl,I.turned (t':=s.toks) (λ b o hb e=>eb b o hb e) f0 f1 f3 f4 f5⟩
 self:=λ _ _ _ _ _ st h=>wpAny_pyIter_rangeiter st h
section
variable {X:Cx}{tg:Expr}
def iList (K:W.Frag) (tl:TE):TI:=λ σ H R=>tl σ H λ x H1=>∃a,x=.ref a/\(∃xs,SqL K H1 a xs)/\R (Itl K a) H1
def iTup (K:W.Frag) (tl:TE):TI:=λ σ H R=>tl σ H λ x H1=>∃a,x=.ref a/\(∃xs,SqT K H1 a xs)/\R (Itt K a) H1
theorem z5n {l:Expr}{tl:TE}(hl:PE X l tl):PI X tg l (iList X.K tl):=by
 intro pins s σ H R I h
 refine thn (hl pins s σ H _ I h) λ v s1 ⟨x,H1,I1,r1,q1⟩=>?_
 obtain ⟨a,e,⟨xs,hq⟩,q⟩:=q1
 subst e
 cases r1
 obtain ⟨its,rv,p,hz⟩:=I1.list hq
 refine wpAny_pyIter_list p.isList ?_
 refine ⟨s1.heap.objs.size,[s1.heap.objs.size],_,_,H1,rfl,I1.kept (t':=s1.toks) λ b o e=>Heap.get?_push_of_some _ e,y4s a _,⟨_,Heap.get?_push_size _ rfl,rfl,rfl⟩,λ b hb=>?_,q⟩
 have e:b=s1.heap.objs.size:=by simpa using hb
 subst e
 exact I1.fpOk (Nat.le_refl _) (I1.hok.fresh (Nat.le_refl _))
theorem z7r {l:Expr}{tl:TE}(hl:PE X l tl):PI X tg l (iTup X.K tl):=by
 intro pins s σ H R I h
 refine thn (hl pins s σ H _ I h) λ v s1 ⟨x,H1,I1,r1,q1⟩=>?_
 obtain ⟨a,e,⟨xs,hq⟩,q⟩:=q1
 subst e
 cases r1
 obtain ⟨its,rv,p,hz⟩:=I1.tuple hq
 refine wpAny_pyIter_tuple (show s1.heap.IsTuple a its.toArray from p) ?_
 refine ⟨s1.heap.objs.size,[s1.heap.objs.size],_,_,H1,rfl,I1.kept (t':=s1.toks) λ b o e=>Heap.get?_push_of_some _ e,y3e a _,⟨_,Heap.get?_push_size _ rfl,rfl,rfl⟩,λ b hb=>?_,q⟩
 have e:b=s1.heap.objs.size:=by simpa using hb
 subst e
 exact I1.fpOk (Nat.le_refl _) (I1.hok.fresh (Nat.le_refl _))
theorem y2d {pins:List (Addr × Obj)}{σ:St}{H:Hp}{s:Shared}{R:It->Hp->Prop}{E:Value->Shared->Prop}{lo hi:Int}{t u v:Tok}{tk:Nat}(I:Inv X pins σ H s) (h1:-(2 ^ 62)≤lo) (h2:lo < 2 ^ 62) (h3:-(2 ^ 62)≤hi) (h4:hi < 2 ^ 62)
  (q:R (Itr lo (hi - lo).toNat) H):wpAny (model X.prog X.w) X.A (pyIter (.ref s.heap.objs.size)) (PIE X pins σ tg R) E { s with heap:=s.heap.push { cls:=.type "range",data:=.fields #[.int lo t,.int hi u,.int 1 v] },toks:=tk }:=by
 refine wpAny_pyIter_range (IsRange.new ..) (small_one h1 h2 h3 h4) ?_
 have I1:Inv X pins σ H { s with heap:=s.heap.push { cls:=.type "range",data:=.fields #[.int lo t,.int hi u,.int 1 v] },toks:=tk }:=I.kept λ b o e=>Heap.get?_push_of_some _ e
 refine ⟨(s.heap.push { cls:=.type "range",data:=.fields #[.int lo t,.int hi u,.int 1 v] }).objs.size,[(s.heap.push { cls:=.type "range",data:=.fields #[.int lo t,.int hi u,.int 1 v] }).objs.size],_,_,H,rfl,
  I1.kept (t':=tk) λ b o e=>Heap.get?_push_of_some _ e,y3f _ lo (hi - lo).toNat,?_,λ b hb=>?_,q⟩
 ·have e1:lo+((0:Nat):Int) * 1=lo:=by simp
  have e2:(((hi - lo).toNat:Nat):Int) - ((0:Nat):Int)=Builtin.Range.rangeSize lo hi 1:=by rw [rangeSize_one];split<;>omega
  show IsRangeIter _ _ (lo+((0:Nat):Int) * 1) ((((hi - lo).toNat:Nat):Int) - ((0:Nat):Int)) 1
  rw [e1,e2]
  exact Heap.get?_push_size _ rfl
 ·have e:b=(s.heap.push { cls:=.type "range",data:=.fields #[.int lo t,.int hi u,.int 1 v] }).objs.size:=by simpa using hb
  subst e
  exact I1.fpOk (Nat.le_refl _) (I1.hok.fresh (Nat.le_refl _))
def iRng1 (ta:TA):TI:=λ σ H R=>ta σ H λ vs H1=>∃j:Int,vs=[.int j]/\-(2 ^ 62)≤j/\j < 2 ^ 62/\R (Itr 0 j.toNat) H1
def iRng2 (ta:TA):TI:=λ σ H R=>ta σ H λ vs H1=>∃i j:Int,vs=[.int i,.int j]/\(-(2 ^ 62)≤i/\i < 2 ^ 62/\-(2 ^ 62)≤j/\j < 2 ^ 62)/\R (Itr i (j - i).toNat) H1
theorem z3e {a:Expr}{ta:TA}{p pos:Pos}(hg:Gl X "range") (hm:X.mg "range" = none) (ha:PA X [a] ta) (hs:starEach [a] X.env=[(false,eval a X.env)]:=by rfl):PI X tg (.Call (.Name "range" p) [a] [] pos) (iRng1 ta):=by
 intro pins s σ H R I h
 refine Call_ (z4g I hg hm boot_range (PyProof.Rows.callWith_type1 (thn (ha pos pins s σ H _ I h) λ us s1 ⟨vs,H1,I1,r1,q1⟩=>?_) hs rfl))
 obtain ⟨j,e,q1,q2,q⟩:=q1
 subst e
 cases r1 with
 | cons r rr =>
  cases rr
  obtain ⟨t,rfl⟩:=r
  exact call_range_1 (y2d I1 (by omega) (by omega) q1 q2 (by simpa using q))
theorem y6c {a b:Expr}{ta:TA}{p pos:Pos}(hg:Gl X "range") (hm:X.mg "range" = none) (ha:PA X [a,b] ta) (hs:starEach [a,b] X.env=[(false,eval a X.env),(false,eval b X.env)]:=by rfl) (hs2:starEach [b] X.env=[(false,eval b X.env)]:=by rfl) :
  PI X tg (.Call (.Name "range" p) [a,b] [] pos) (iRng2 ta):=by
 intro pins s σ H R I h
 refine Call_ (z4g I hg hm boot_range (PyProof.Rows.callWith_type1 (thn (ha pos pins s σ H _ I h) λ us s1 ⟨vs,H1,I1,r1,q1⟩=>?_) (by rw [hs,hs2]) (by rw [hs2];rfl)))
 obtain ⟨i,j,e,⟨q1,q2,q3,q4⟩,q⟩:=q1
 subst e
 cases r1 with
 | cons r rr =>
  cases rr with
  | cons r' rr =>
   cases rr
   obtain ⟨t,rfl⟩:=r
   obtain ⟨t',rfl⟩:=r'
   exact call_range_2 (y2d I1 q1 q2 q3 q4 q)
def tFor (wi:TI) (g:TG) (tb:TS):TS:=λ D σ H=>wi σ H λ J H1=>∃W:Nat->Nat->St->Hp->Prop,(∃m,W 0 m σ H1)/\∀i m σ H,W i m σ H ->
 (J.stop i H/\D.nx σ H)\/(J.go i H/\∃N:St->Hp->Prop,(∀σ' H',N σ' H'->∃m',m' < m/\W (i+1) m' σ' H')/\∀x H',J.yld i H x H'->g x σ H' λ σ2 H2=>tb { D with nx:=N,ct:=N,bk:=D.nx } σ2 H2)
def pinsAt (fp:List Addr) (h:Heap):List (Addr × Obj):=fp.filterMap λ b=>(h.get? b).map λ o=>(b,o)
theorem z2a {fp:List Addr}{h:Heap}{b:Addr}{o:Obj}(hb:b∈fp) (e:h.get? b=some o):(b,o)∈pinsAt fp h:=List.mem_filterMap.mpr ⟨b,hb,by rw [e];rfl⟩
theorem y6q {fp:List Addr}{h:Heap}{p:Addr × Obj}(hp:p∈pinsAt fp h):p.1∈fp/\h.get? p.1=some p.2:=by
 obtain ⟨b,hb,e⟩:=List.mem_filterMap.mp hp
 cases q:h.get? b with
 | none=>rw [q] at e;cases e
 | some o =>
  rw [q] at e
  have e':(b,o)=p:=Option.some.inj e
  subst e'
  exact ⟨hb,q⟩
theorem Inv.pinned {pins:List (Addr × Obj)}{σ:St}{H:Hp}{s:Shared}{fp:List Addr}(I:Inv X pins σ H s) (hf:∀b∈fp,FpOk X pins H b) (ho:∀b∈fp,∃o,s.heap.get? b=some o/\∀v,o.data≠.cell v):Inv X (pins++pinsAt fp s.heap) σ H s :=
 I.pins_of λ p hp=>(List.mem_append.mp hp).elim (λ z=>I.pin p (List.mem_append_right _ z)) λ z=>by
  obtain ⟨hb,e⟩:=y6q z
  obtain ⟨f0,f1,f2,_⟩:=hf p.1 hb
  obtain ⟨o,e',d⟩:=ho p.1 hb
  rw [e] at e';cases e'
  exact ⟨e,f0,f1,f2,d⟩
theorem Inv.unpinned {pins pl:List (Addr × Obj)}{σ:St}{H:Hp}{s:Shared}(I:Inv X (pins++pl) σ H s):Inv X pins σ H s:=I.pins_of λ p hp=>I.pin p (List.mem_append_right _ (List.mem_append_left _ hp))
theorem z2r {iter:Expr}{body:List Stmt}{wi:TI}{g:TG}{tb:TS}{pos:Pos}(hp:PassesOwn (model X.prog X.w) X.A X.env X.xe) (hc:X.calm=true) (hi:PI X tg iter wi) (hg:PG X tg g) (hb:PSs X body tb)
  (hs:∀x,foldedSetIterable iter X.env x=pure x:=by intro _;rfl):PS X (.For tg iter body [] pos) (tFor wi g tb):=by
 intro pins s σ H D I h
 refine wpAny_For (thn (hi pins s σ H _ I h) λ v s1 h1=>thn h1 λ itv s2 h2=>?_) hs
 obtain ⟨it,fp,tn,J,H2,e,I2,T,st2,f2,W,⟨m0,w0⟩,turn⟩:=h2
 subst e
 have stat:∀ {H':Hp},(∀b∈fp,H' b=none)->∀b∈fp,FpOk X pins H' b:=λ hn b hb=>⟨hn b hb,(f2 b hb).2⟩
 refine codeAny_forLoop_any (λ n s'=>∃i σ' H',Inv X pins σ' H' s'/\tn i s'.heap/\(∀b∈fp,H' b=none)/\W i n σ' H') ?_ m0 ⟨0,σ,H2,I2,st2,λ b hb=>(f2 b hb).1,w0⟩
 rintro n s3 ⟨i,σ3,H3,I3,st3,fr3,w3⟩
 rcases turn i n σ3 H3 w3 with ⟨stop,qn⟩ | ⟨go,N,hN,step⟩
 ·refine wpAny_passesOwn hp (thn (T.done X rfl rfl rfl hc i pins s3 σ3 H3 X.xe I3 (stat fr3) st3 stop) λ r s4 ⟨hr,I4⟩=>?_)
  subst hr
  exact wpAny_execs_nil ⟨σ3,H3,I4,qn⟩
 ·refine wpAny_passesOwn hp (thn (T.item X rfl rfl rfl hc i pins s3 σ3 H3 X.xe I3 (stat fr3) st3 go) λ r s4 ⟨u,hr,h4⟩=>?_)
  subst hr
  refine wpAny_passesOwn hp (thn h4 λ _ s5 ⟨x,H5,I5,r5,y5,st5,fr5⟩=>?_)
  have I5':=I5.pinned (stat fr5) (T.obj _ _ st5)
  refine wpAny_passesOwn hp (thn (hg _ s5 σ3 H5 x u _ I5' r5 (step x H5 y5)) λ _ s6 ⟨σ6,H6,I6,q6⟩=>?_)
  refine wpAny_passesOwn hp (thn (hb _ s6 σ6 H6 _ I6 q6) λ f s7 q7=>?_)
  have again:∀ {σ7:St}{H7:Hp},Inv X (pins++pinsAt fp s5.heap) σ7 H7 s7->N σ7 H7->∃m,m < n/\∃i σ' H',Inv X pins σ' H' s7/\tn i s7.heap/\(∀b∈fp,H' b=none)/\W i m σ' H':=λ {σ7 H7} I7 n7=>by
   obtain ⟨m',hm,w7⟩:=hN σ7 H7 n7
   refine ⟨m',hm,i+1,σ7,H7,I7.unpinned,T.keep _ _ _ st5 λ b hb o e=>(I7.pin (b,o) (List.mem_append_right _ (List.mem_append_right _ (z2a hb e)))).1,λ b hb=>?_,w7⟩
   obtain ⟨o,e,d⟩:=T.obj _ _ st5 b hb
   exact (I7.pin (b,o) (List.mem_append_right _ (List.mem_append_right _ (z2a hb e)))).2.1
  cases f with
  | next=>obtain ⟨σ7,H7,I7,n7⟩:=q7;exact again I7 n7
  | cont=>obtain ⟨σ7,H7,I7,n7⟩:=q7;exact again I7 n7
  | brk=>obtain ⟨σ7,H7,I7,q7⟩:=q7;exact ⟨σ7,H7,I7.unpinned,q7⟩
  | ret v=>obtain ⟨x7,σ7,H7,I7,r7,q7⟩:=q7;exact ⟨x7,σ7,H7,I7.unpinned,r7,q7⟩
end
theorem x0m {K:PySem.W.Frag}{a:Addr}{xs:List V}{g:TG}{tb:TS}{D:Ends}{σ:St}{H:Hp}(Pv:Nat->St->Hp->Prop) (h0:Pv 0 σ H) (hl:∀i σ H,i≤xs.length->Pv i σ H->SqL K H a xs)
  (hs:∀i x σ H,xs[i]?=some x->Pv i σ H->g x σ H λ σ2 H2=>tb { D with nx:=Pv (i+1),ct:=Pv (i+1),bk:=D.nx } σ2 H2) (hd:∀σ H,Pv xs.length σ H->D.nx σ H) :
  ∃W:Nat->Nat->St->Hp->Prop,(∃m,W 0 m σ H)/\∀i m σ H,W i m σ H ->
   ((Itl K a).stop i H/\D.nx σ H)\/((Itl K a).go i H/\∃N:St->Hp->Prop,(∀σ' H',N σ' H'->∃m',m' < m/\W (i+1) m' σ' H')/\∀x H',(Itl K a).yld i H x H'->g x σ H' λ σ2 H2=>tb { D with nx:=N,ct:=N,bk:=D.nx } σ2 H2):=by
 refine ⟨λ i m σ H=>m=xs.length - i/\i≤xs.length/\Pv i σ H,⟨xs.length,by simp,Nat.zero_le _,h0⟩,?_⟩
 rintro i m σ H ⟨rfl,hi,p⟩
 have q:=hl i σ H hi p
 by_cases hlt:i < xs.length
 ·refine .inr ⟨⟨xs,xs[i],q,by simp [hlt]⟩,Pv (i+1),λ σ' H' p'=>⟨xs.length - (i+1),by omega,rfl,hlt,p'⟩,λ x H' y=>?_⟩
  obtain ⟨e,y⟩:=y
  subst e
  exact hs i x σ _ (y xs q) p
 ·have e:i=xs.length:=by omega
  subst e
  exact .inl ⟨⟨xs,q,Nat.le_refl _⟩,hd σ H p⟩
theorem x3f {K:PySem.W.Frag}{a:Addr}{xs:List V}{g:TG}{tb:TS}{D:Ends}{σ:St}{H:Hp}(Pv:Nat->St->Hp->Prop) (h0:Pv 0 σ H) (hl:∀i σ H,i≤xs.length->Pv i σ H->SqT K H a xs)
  (hs:∀i x σ H,xs[i]?=some x->Pv i σ H->g x σ H λ σ2 H2=>tb { D with nx:=Pv (i+1),ct:=Pv (i+1),bk:=D.nx } σ2 H2) (hd:∀σ H,Pv xs.length σ H->D.nx σ H) :
  ∃W:Nat->Nat->St->Hp->Prop,(∃m,W 0 m σ H)/\∀i m σ H,W i m σ H ->
   ((Itt K a).stop i H/\D.nx σ H)\/((Itt K a).go i H/\∃N:St->Hp->Prop,(∀σ' H',N σ' H'->∃m',m' < m/\W (i+1) m' σ' H')/\∀x H',(Itt K a).yld i H x H'->g x σ H' λ σ2 H2=>tb { D with nx:=N,ct:=N,bk:=D.nx } σ2 H2):=by
 refine ⟨λ i m σ H=>m=xs.length - i/\i≤xs.length/\Pv i σ H,⟨xs.length,by simp,Nat.zero_le _,h0⟩,?_⟩
 rintro i m σ H ⟨rfl,hi,p⟩
 have q:=hl i σ H hi p
 by_cases hlt:i < xs.length
 ·refine .inr ⟨⟨xs,xs[i],q,by simp [hlt]⟩,Pv (i+1),λ σ' H' p'=>⟨xs.length - (i+1),by omega,rfl,hlt,p'⟩,λ x H' y=>?_⟩
  obtain ⟨e,y⟩:=y
  subst e
  exact hs i x σ _ (y xs q) p
 ·have e:i=xs.length:=by omega
  subst e
  exact .inl ⟨⟨xs,q,Nat.le_refl _⟩,hd σ H p⟩
theorem y7r {lo:Int}{n:Nat}{g:TG}{tb:TS}{D:Ends}{σ:St}{H:Hp}(Pv:Nat->St->Hp->Prop) (h0:Pv 0 σ H)
  (hs:∀i σ H,i < n->Pv i σ H->g (.int (lo+i)) σ H λ σ2 H2=>tb { D with nx:=Pv (i+1),ct:=Pv (i+1),bk:=D.nx } σ2 H2) (hd:∀σ H,Pv n σ H->D.nx σ H) :
  ∃W:Nat->Nat->St->Hp->Prop,(∃m,W 0 m σ H)/\∀i m σ H,W i m σ H ->
   ((Itr lo n).stop i H/\D.nx σ H)\/((Itr lo n).go i H/\∃N:St->Hp->Prop,(∀σ' H',N σ' H'->∃m',m' < m/\W (i+1) m' σ' H')/\∀x H',(Itr lo n).yld i H x H'->g x σ H' λ σ2 H2=>tb { D with nx:=N,ct:=N,bk:=D.nx } σ2 H2):=by
 refine ⟨λ i m σ H=>m=n - i/\i≤n/\Pv i σ H,⟨n,by simp,Nat.zero_le _,h0⟩,?_⟩
 rintro i m σ H ⟨rfl,hi,p⟩
 by_cases hlt:i < n
 ·refine .inr ⟨hlt,Pv (i+1),λ σ' H' p'=>⟨n - (i+1),by omega,rfl,hlt,p'⟩,λ x H' y=>?_⟩
  obtain ⟨e,y⟩:=y
  subst e y
  exact hs i σ _ hlt p
 ·have e:i=n:=by omega
  subst e
  exact .inl ⟨Nat.le_refl _,hd σ H p⟩
abbrev R2:=V->V->Hp->VK->Prop
def OpR (X:Cx) (f:Value->Value->Sem Value) (r:R2):Prop :=
 ∀(pins:List (Addr × Obj)) (s:Shared) (σ:St) (H:Hp) (x y:V) (v u:Value) (Q:VK),Inv X pins σ H s->RelV x v->RelV y u->r x y H Q ->
  wpAny (model X.prog X.w) X.A (f v u) (EP X pins σ Q) X.xe s
def UnR (X:Cx) (f:Value->Sem Value) (r:V->Hp->VK->Prop):Prop :=
 ∀(pins:List (Addr × Obj)) (s:Shared) (σ:St) (H:Hp) (x:V) (v:Value) (Q:VK),Inv X pins σ H s->RelV x v->r x H Q ->
  wpAny (model X.prog X.w) X.A (f v) (EP X pins σ Q) X.xe s
def CallR (X:Cx) (f:Value) (r:List V->Hp->VK->Prop):Prop :=
 ∀(pins:List (Addr × Obj)) (s:Shared) (σ:St) (H:Hp) (xs:List V) (us:List Value) (Q:VK),Inv X pins σ H s->Vals xs us->r xs H Q ->
  wpAny (model X.prog X.w) X.A (call f us) (EP X pins σ Q) X.xe s
def tOp (r:R2) (ta tb:TE):TE:=λ σ H Q=>ta σ H λ x H1=>tb σ H1 λ y H2=>r x y H2 Q
def tUn (r:V->Hp->VK->Prop) (ta:TE):TE:=λ σ H Q=>ta σ H λ x H1=>r x H1 Q
def rI (C:Int->Int->Prop) (g:Int->Int->V):R2:=λ x y H Q=>∃i j,x=.int i/\y=.int j/\C i j/\Q (g i j) H
def rI0 (g:Int->Int->V):R2:=λ x y H Q=>∃i j,x=.int i/\y=.int j/\Q (g i j) H
def rU (g:Int->V):V->Hp->VK->Prop:=λ x H Q=>∃i,x=.int i/\Q (g i) H
section
variable {X:Cx}{a b c:Expr}{ta tb tc:TE}{pos:Pos}
theorem x7g (ha:PE X a ta) (hb:PE X b tb) {pins:List (Addr × Obj)}{s:Shared}{σ:St}{H:Hp}{R:V->V->Hp->Prop}(I:Inv X pins σ H s)
  (h:ta σ H λ x H1=>tb σ H1 λ y H2=>R x y H2) {Q:Value->Shared->Prop}{f:Value->Value->Sem Value}
  (hf:∀v u s2 x y H2,Inv X pins σ H2 s2->RelV x v->RelV y u->R x y H2->wpAny (model X.prog X.w) X.A (f v u) Q X.xe s2) :
  wpAny (model X.prog X.w) X.A (eval a X.env) (λ v s₁=>wpAny (model X.prog X.w) X.A (eval b X.env) (λ u s₂=>wpAny (model X.prog X.w) X.A (f v u) Q X.xe s₂) X.xe s₁) X.xe s:=by
 refine thn (ha pins s σ H _ I h) λ v s1 ⟨x,H1,I1,r1,q1⟩=>?_
 refine thn (hb pins s1 σ H1 _ I1 q1) λ u s2 ⟨y,H2,I2,r2,q2⟩=>?_
 exact hf v u s2 x y H2 I2 r1 r2 q2
theorem z0q {op:Operator}{r:R2}(ho:OpR X (binaryOp op) r) (ha:PE X a ta) (hb:PE X b tb):PE X (.BinOp a op b pos) (tOp r ta tb):=by
 intro pins s σ H Q I h
 exact wpAny_BinOp (x7g ha hb I h λ v u s2 x y H2 I2 rx ry q=>ho pins s2 σ H2 x y v u Q I2 rx ry q)
theorem x2q {op:UnaryOp}{r:V->Hp->VK->Prop}(ho:UnR X (unaryOp op) r) (ha:PE X a ta):PE X (.UnaryOp op a pos) (tUn r ta):=by
 intro pins s σ H Q I h
 exact UnaryOp_ (thn (ha pins s σ H _ I h) λ v s1 ⟨x,H1,I1,r1,q1⟩=>ho pins s1 σ H1 x v Q I1 r1 q1)
theorem opI {f:Value->Value->Sem Value}{C:Int->Int->Prop}{g:Int->Int->Int}
  (rule:∀(i j:Int) (t u:Tok) (s:Shared) (Q:Value->Shared->Prop) (E:Value->Shared->Prop),C i j->Q (.int (g i j) s.toks) { s with toks:=s.toks+1 }->wpAny (model X.prog X.w) X.A (f (.int i t) (.int j u)) Q E s) :
  OpR X f (rI C λ i j=>.int (g i j)):=by
 intro pins s σ H x y v u Q I rx ry h
 obtain ⟨i,j,rfl,rfl,hc,q⟩:=h
 obtain ⟨t,rfl⟩:=rx
 obtain ⟨t',rfl⟩:=ry
 exact rule i j t t' s _ _ hc ⟨.int (g i j),H,I.tok _,⟨_,rfl⟩,q⟩
theorem x5e {f:Value->Value->Sem Value}{g:Int->Int->Int}
  (rule:∀(i j:Int) (t u:Tok) (s:Shared) (Q:Value->Shared->Prop) (E:Value->Shared->Prop),Q (.int (g i j) s.toks) { s with toks:=s.toks+1 }->wpAny (model X.prog X.w) X.A (f (.int i t) (.int j u)) Q E s) :
  OpR X f (rI0 λ i j=>.int (g i j)):=by
 intro pins s σ H x y v u Q I rx ry h
 obtain ⟨i,j,rfl,rfl,q⟩:=h
 obtain ⟨t,rfl⟩:=rx
 obtain ⟨t',rfl⟩:=ry
 exact rule i j t t' s _ _ ⟨.int (g i j),H,I.tok _,⟨_,rfl⟩,q⟩
theorem x6l {f:Value->Value->Sem Value}{g:Int->Int->Bool}
  (rule:∀(i j:Int) (t u:Tok) (s:Shared) (Q:Value->Shared->Prop) (E:Value->Shared->Prop),Q (.bool (g i j)) s->wpAny (model X.prog X.w) X.A (f (.int i t) (.int j u)) Q E s) :
  OpR X f (rI0 λ i j=>.bl (g i j)):=by
 intro pins s σ H x y v u Q I rx ry h
 obtain ⟨i,j,rfl,rfl,q⟩:=h
 obtain ⟨t,rfl⟩:=rx
 obtain ⟨t',rfl⟩:=ry
 exact rule i j t t' s _ _ ⟨.bl (g i j),H,I,rfl,q⟩
def CDiv (i j:Int):Prop:=0 < j/\j < 1073741824
def CDivN (i j:Int):Prop:=j≠0/\j.natAbs < 1073741824
def CPow (i j:Int):Prop:=0≤j/\j≤1000000/\i.natAbs < 2 ^ 64
def CMul (i j:Int):Prop:=(-(2 ^ 64) < i/\i < 2 ^ 64)\/(-(2 ^ 64) < j/\j < 2 ^ 64)
theorem CMul.ok {i j:Int}(h:CMul i j):IntMulOk i j:=by
 rcases h with ⟨h1,h2⟩ | ⟨h1,h2⟩
 ·exact .of_left (intBits_le_64 h1 h2)
 ·exact .of_right (intBits_le_64 h1 h2)
theorem z1s:OpR X (binaryOp .Add) (rI0 λ i j=>.int (i+j)):=x5e λ _ _ _ _ _ _ _ q=>add_int q
theorem z2w:OpR X (binaryOp .Sub) (rI0 λ i j=>.int (i - j)):=x5e λ _ _ _ _ _ _ _ q=>sub_int q
theorem z3q:OpR X (binaryOp .Mult) (rI CMul λ i j=>.int (i * j)):=opI λ _ _ _ _ _ _ _ hc q=>mul_int q hc.ok
theorem z5q:OpR X (binaryOp .FloorDiv) (rI CDiv λ i j=>.int (i / j)):=opI λ i j _ _ _ _ _ hc q=>by
 have h1:(0:Int) < j:=hc.1
 have h2:j < 1073741824:=hc.2
 exact floordiv_int (by omega) (by rw [Int.fdiv_eq_ediv_of_nonneg i (by omega)];exact q) (.inl (PyProof.noPylong_small (by omega)))
theorem z2x:OpR X (binaryOp .Mod) (rI (λ _ j=>0 < j) λ i j=>.int (i % j)):=opI λ i j _ _ _ _ _ hc q=>by
 have h1:(0:Int) < j:=hc
 exact mod_int' (by omega) (by rw [Int.fmod_eq_emod_of_nonneg i (by omega)];exact q)
theorem z3j:OpR X (binaryOp .Mod) (rI (λ _ j=>j≠0) λ i j=>.int (i.fmod j)):=opI λ _ _ _ _ _ _ _ hc q=>mod_int' hc q
theorem z6u:OpR X (binaryOp .Pow) (rI CPow λ i j=>.int (i ^ j.toNat)):=opI λ _ _ _ _ _ _ _ hc q=>pow_int_small hc.1 hc.2.1 hc.2.2 q
theorem x5d:OpR X (binaryOp .BitAnd) (rI0 λ i j=>.int (Builtin.bitAnd i j)):=x5e λ _ _ _ _ _ _ _ q=>and_int q
theorem x6x:OpR X (binaryOp .BitOr) (rI0 λ i j=>.int (Builtin.bitOr i j)):=x5e λ _ _ _ _ _ _ _ q=>or_int q
theorem x4y:OpR X (binaryOp .BitXor) (rI0 λ i j=>.int (Builtin.bitXor i j)):=x5e λ _ _ _ _ _ _ _ q=>xor_int q
theorem unI {f:Value->Sem Value}{g:Int->Int}
  (rule:∀(i:Int) (t:Tok) (s:Shared) (Q:Value->Shared->Prop) (E:Value->Shared->Prop),Q (.int (g i) s.toks) { s with toks:=s.toks+1 }->wpAny (model X.prog X.w) X.A (f (.int i t)) Q E s) :
  UnR X f (rU λ i=>.int (g i)):=by
 intro pins s σ H x v Q I rx h
 obtain ⟨i,rfl,q⟩:=h
 obtain ⟨t,rfl⟩:=rx
 exact rule i t s _ _ ⟨.int (g i),H,I.tok _,⟨_,rfl⟩,q⟩
theorem y4q:UnR X (unaryOp .USub) (rU λ i=>.int (-i)):=unI λ _ _ _ _ _ q=>neg_int q
end
def scal:V->V->Bool
 | .non,.non=>true | .non,.int _=>true | .int _,.non=>true | .non,.bl _=>true | .bl _,.non=>true | .non,.str _=>true | .str _,.non=>true
 | .int _,.int _=>true | .bl _,.bl _=>true | .str _,.str _=>true | .byt _,.byt _=>true
 | .int _,.str _=>true | .str _,.int _=>true | .bl _,.str _=>true | .str _,.bl _=>true
 | _,_=>false
def rEq:R2:=λ x y H Q=>scal x y=true/\Q (.bl (decide (x=y))) H
def rNe:R2:=λ x y H Q=>scal x y=true/\Q (.bl (!decide (x=y))) H
theorem y8c {i j:Int}:decide (V.int i=V.int j)=(i == j):=by
 rw [Bool.eq_iff_iff]
 simp
theorem x1z {i j:Bool}:decide (V.bl i=V.bl j)=(i == j):=by
 rw [Bool.eq_iff_iff]
 simp
theorem y8b {i j:Str}:decide (V.str i=V.str j)=(i == j):=by
 rw [Bool.eq_iff_iff]
 simp
theorem y8d {i j:Array UInt8}:decide (V.byt i=V.byt j)=(i.toList == j.toList):=by
 rw [Bool.eq_iff_iff]
 cases i
 cases j
 simp
section
variable {X:Cx}{a b c:Expr}{ta tb tc:TE}{pos:Pos}
theorem z1g {pins:List (Addr × Obj)}{σ:St}{H:Hp}{s:Shared}{Q:VK}{k k':Bool}(I:Inv X pins σ H s) (q:Q (.bl k) H) (e:k=k'):EP X pins σ Q (.bool k') s:=by
 subst e
 exact ⟨.bl k,H,I,rfl,q⟩
theorem z2f:OpR X (compareOp .Eq) rEq:=by
 intro pins s σ H x y v u Q I rx ry h
 obtain ⟨hs,q⟩:=h
 cases x with
 | non =>
  cases rx
  cases y with
  | non=>cases ry;exact PySem.EqNone.eq_none_none (z1g I q (by simp))
  | bl j=>cases ry;exact PySem.EqNone.eq_none_bool (z1g I q (by simp))
  | int j=>obtain ⟨t',rfl⟩:=ry;exact PySem.EqNone.eq_none_int (z1g I q (by simp))
  | str j=>obtain ⟨t',rfl⟩:=ry;exact PySem.EqNone.eq_none_str (z1g I q (by simp))
  | _=>exact absurd (show false=true from hs) Bool.false_ne_true
 | bl i =>
  cases rx
  cases y with
  | non=>cases ry;exact PySem.EqNone.eq_bool_none (z1g I q (by simp))
  | bl j=>cases ry;exact eq_bool (z1g I q x1z)
  | str j=>obtain ⟨t',rfl⟩:=ry;exact PySem.EqMixed.eq_bool_str (z1g I q (by simp))
  | _=>exact absurd (show false=true from hs) Bool.false_ne_true
 | int i =>
  obtain ⟨t,rfl⟩:=rx
  cases y with
  | non=>cases ry;exact PySem.EqNone.eq_int_none (z1g I q (by simp))
  | int j=>obtain ⟨t',rfl⟩:=ry;exact eq_int (z1g I q y8c)
  | str j=>obtain ⟨t',rfl⟩:=ry;exact PySem.EqMixed.eq_int_str (z1g I q (by simp))
  | _=>exact absurd (show false=true from hs) Bool.false_ne_true
 | str i =>
  obtain ⟨t,rfl⟩:=rx
  cases y with
  | non=>cases ry;exact PySem.EqNone.eq_str_none (z1g I q (by simp))
  | bl j=>cases ry;exact PySem.EqMixed.eq_str_bool (z1g I q (by simp))
  | int j=>obtain ⟨t',rfl⟩:=ry;exact PySem.EqMixed.eq_str_int (z1g I q (by simp))
  | str j=>obtain ⟨t',rfl⟩:=ry;exact eq_str (z1g I q y8b)
  | _=>exact absurd (show false=true from hs) Bool.false_ne_true
 | byt i =>
  obtain ⟨t,rfl⟩:=rx
  cases y with
  | byt j=>obtain ⟨t',rfl⟩:=ry;exact W.eq_bytes (z1g I q y8d)
  | _=>exact absurd (show false=true from hs) Bool.false_ne_true
 | _=>cases y<;>exact absurd (show false=true from hs) Bool.false_ne_true
theorem z8n:OpR X (compareOp .NotEq) rNe:=by
 intro pins s σ H x y v u Q I rx ry h
 obtain ⟨hs,q⟩:=h
 cases x with
 | non =>
  cases rx
  cases y with
  | non=>cases ry;exact PySem.EqNone.ne_none_none (z1g I q (by simp))
  | bl j=>cases ry;exact PySem.EqNone.ne_none_bool (z1g I q (by simp))
  | int j=>obtain ⟨t',rfl⟩:=ry;exact PySem.EqNone.ne_none_int (z1g I q (by simp))
  | str j=>obtain ⟨t',rfl⟩:=ry;exact PySem.EqNone.ne_none_str (z1g I q (by simp))
  | _=>exact absurd (show false=true from hs) Bool.false_ne_true
 | bl i =>
  cases rx
  cases y with
  | non=>cases ry;exact PySem.EqNone.ne_bool_none (z1g I q (by simp))
  | bl j=>cases ry;exact ne_bool (z1g I q (congrArg not x1z))
  | str j=>obtain ⟨t',rfl⟩:=ry;exact PySem.EqMixed.ne_bool_str (z1g I q (by simp))
  | _=>exact absurd (show false=true from hs) Bool.false_ne_true
 | int i =>
  obtain ⟨t,rfl⟩:=rx
  cases y with
  | non=>cases ry;exact PySem.EqNone.ne_int_none (z1g I q (by simp))
  | int j=>obtain ⟨t',rfl⟩:=ry;exact ne_int (z1g I q (congrArg not y8c))
  | str j=>obtain ⟨t',rfl⟩:=ry;exact PySem.EqMixed.ne_int_str (z1g I q (by simp))
  | _=>exact absurd (show false=true from hs) Bool.false_ne_true
 | str i =>
  obtain ⟨t,rfl⟩:=rx
  cases y with
  | non=>cases ry;exact PySem.EqNone.ne_str_none (z1g I q (by simp))
  | bl j=>cases ry;exact PySem.EqMixed.ne_str_bool (z1g I q (by simp))
  | int j=>obtain ⟨t',rfl⟩:=ry;exact PySem.EqMixed.ne_str_int (z1g I q (by simp))
  | str j=>obtain ⟨t',rfl⟩:=ry;exact ne_str (z1g I q (congrArg not y8b))
  | _=>exact absurd (show false=true from hs) Bool.false_ne_true
 | byt i =>
  obtain ⟨t,rfl⟩:=rx
  cases y with
  | byt j=>obtain ⟨t',rfl⟩:=ry;exact W.ne_bytes (z1g I q (congrArg not y8d))
  | _=>exact absurd (show false=true from hs) Bool.false_ne_true
 | _=>cases y<;>exact absurd (show false=true from hs) Bool.false_ne_true
theorem z7f:OpR X (compareOp .Lt) (rI0 λ i j=>.bl (decide (i < j))):=x6l λ _ _ _ _ _ _ _ q=>lt_int q
theorem x6y:OpR X (compareOp .LtE) (rI0 λ i j=>.bl (decide (i≤j))):=x6l λ _ _ _ _ _ _ _ q=>le_int q
theorem z7g:OpR X (compareOp .Gt) (rI0 λ i j=>.bl (decide (j < i))):=x6l λ _ _ _ _ _ _ _ q=>gt_int q
theorem y9v:OpR X (compareOp .GtE) (rI0 λ i j=>.bl (decide (j≤i))):=x6l λ _ _ _ _ _ _ _ q=>ge_int q
theorem OpR.or {f:Value->Value->Sem Value}{r r':R2}(h:OpR X f r) (h':OpR X f r'):OpR X f (λ x y H Q=>r x y H Q\/r' x y H Q):=by
 intro pins s σ H x y v u Q I rx ry q
 rcases q with q | q
 ·exact h pins s σ H x y v u Q I rx ry q
 ·exact h' pins s σ H x y v u Q I rx ry q
theorem z0t (b:Expr) {op:CmpOp}(h:op≠.In:=by decide) (h2:op≠.NotIn:=by decide):behindInMarks op b=false:=by
 have e1:(op == CmpOp.In)=false:=by cases op<;>first | rfl | exact absurd rfl h
 have e2:(op == CmpOp.NotIn)=false:=by cases op<;>first | rfl | exact absurd rfl h2
 cases b<;>simp [behindInMarks,e1,e2]
theorem z4k {op:CmpOp}{r:R2}(ho:OpR X (compareOp op) r) (ha:PE X a ta) (hb:PE X b tb) (hm:behindInMarks op b=false):PE X (.Compare a [op] [b] pos) (tOp r ta tb):=by
 intro pins s σ H Q I h
 exact wpAny_Compare1 (x7g ha hb I h λ v u s2 x y H2 I2 rx ry q=>ho pins s2 σ H2 x y v u Q I2 rx ry q) hm
def tTest (t:TE):TT:=λ σ H Q=>t σ H λ x H'=>∃k,x=.bl k/\Q k H'
theorem z0k {op:CmpOp}{r:R2}(ho:OpR X (compareOp op) r) (ha:PE X a ta) (hb:PE X b tb) (hm:behindInMarks op b=false):PT X (.Compare a [op] [b] pos) (tTest (tOp r ta tb)):=by
 intro pins s σ H Q I h
 refine wpAny_isTrue_Compare1 (thn (ha pins s σ H _ I h) λ v s1 ⟨x,H1,I1,r1,q1⟩=>thn (hb pins s1 σ H1 _ I1 q1) λ u s2 ⟨y,H2,I2,r2,q2⟩ =>
  thn (ho pins s2 σ H2 x y v u _ I2 r1 r2 q2) λ c s3 ⟨z,H3,I3,r3,k,e,q3⟩=>?_) hm
 subst e
 cases r3
 exact wpAny_truthy_bool ⟨H3,I3,q3⟩
def tChain (r r':R2) (ta tb tc:TE):TE:=λ σ H Q=>ta σ H λ x H1=>tb σ H1 λ y H2=>r x y H2 λ z H3=>∃k,z=.bl k /\
 (if k=true then tc σ H3 λ w' H4=>r' y w' H4 Q else Q (.bl false) H3)
theorem y2r:(sizeLine:Nat) < 2 ^ 63:=by rw [sizeLine_eq];decide
theorem z4r {x:V}{us:List Value}(r:Vals [x] us):∃u,us=[u]/\RelV x u:=by
 cases r with
 | cons r1 r2=>cases r2;exact ⟨_,rfl,r1⟩
theorem y9f {x y:V}{us:List Value}(r:Vals [x,y] us):∃u w',us=[u,w']/\RelV x u/\RelV y w':=by
 cases r with
 | cons r1 r2 =>
  cases r2 with
  | cons r3 r4=>cases r4;exact ⟨_,_,rfl,r1,r3⟩
theorem z5k (hc:X.calm=true):CallR X (.builtin "max") (λ xs H Q=>∃i j,xs=[.int i,.int j]/\Q (.int (if j > i then j else i)) H):=by
 intro pins s σ H xs us Q I r h
 obtain ⟨i,j,rfl,q⟩:=h
 obtain ⟨u,w',rfl,⟨t,rfl⟩,⟨t',rfl⟩⟩:=y9f r
 refine max_two_ints (I.ok.hd hc) λ h' tk k=>⟨_,H,I.kept k,?_,q⟩
 by_cases hj:j > i
 ·rw [if_pos hj,if_pos hj];exact ⟨_,rfl⟩
 ·rw [if_neg hj,if_neg hj];exact ⟨_,rfl⟩
theorem z7a (hc:X.calm=true):CallR X (.builtin "min") (λ xs H Q=>∃i j,xs=[.int i,.int j]/\Q (.int (if j < i then j else i)) H):=by
 intro pins s σ H xs us Q I r h
 obtain ⟨i,j,rfl,q⟩:=h
 obtain ⟨u,w',rfl,⟨t,rfl⟩,⟨t',rfl⟩⟩:=y9f r
 refine min_two_ints (I.ok.hd hc) λ h' tk k=>⟨_,H,I.kept k,?_,q⟩
 by_cases hj:j < i
 ·rw [if_pos hj,if_pos hj];exact ⟨_,rfl⟩
 ·rw [if_neg hj,if_neg hj];exact ⟨_,rfl⟩
theorem y8t:CallR X (.type "int") (λ xs H Q=>(∃i,xs=[.int i]/\Q (.int i) H)\/∃k,xs=[.bl k]/\Q (.int (if k then 1 else 0)) H):=by
 intro pins s σ H xs us Q I r h
 rcases h with ⟨i,rfl,q⟩ | ⟨k,rfl,q⟩
 ·obtain ⟨u,rfl,t,rfl⟩:=z4r r
  exact call_int_int ⟨.int i,H,I,⟨_,rfl⟩,q⟩
 ·obtain ⟨u,rfl,r1⟩:=z4r r
  cases r1
  exact call_int_bool ⟨.int (if k then 1 else 0),H,I.tok _,⟨_,rfl⟩,q⟩
end
structure ObjM (h:Heap) (x dx C:Addr) (mA:Str->Option Value):Prop where
 obj:h.get? x=some (W.instObj C dx)
 ns:h.Ns1 dx mA
 ne:dx≠x
theorem y6z {h:Heap}{dx:Addr}{mA:Str->Option Value}(n:h.Ns1 dx mA):∃od,h.get? dx=some od/\∀name,W.lookIn name od=some (mA name):=by
 obtain ⟨o,es,ep,ho,hd,hk,_,hm⟩:=n
 refine ⟨o,ho,λ name=>?_⟩
 have e:=hm name
 unfold nsFind findBy at e
 rw [← Array.find?_toList] at e
 unfold W.lookIn
 rw [hd]
 dsimp only
 split
 ·rename_i y q
  rw [q] at e
  exact congrArg some e
 ·rename_i q
  rw [q] at e
  have a:es.toList.any (·.refKey)=false:=by
   rw [List.any_eq_false]
   intro y hy
   obtain ⟨z,t,hkey⟩:=hk y (Array.mem_toList_iff.mp hy)
   simp [DictEntry.refKey,hkey]
  have a':¬es.toList.any (·.refKey)=true:=by rw [a];exact Bool.false_ne_true
  rw [if_neg a']
  exact congrArg some e
theorem ObjM.look {h:Heap}{x dx C:Addr}{mA:Str->Option Value}(I:ObjM h x dx C mA):∃od,W.InstAt h x (W.instObj C dx) C (some od)/\∀name,W.lookIn name od=some (mA name) :=
 let ⟨od,ho,hl⟩:=y6z I.ns
 ⟨od,⟨I.obj,rfl,rfl,ho⟩,hl⟩
section
variable {prog:Program}{w:World}{A:Around}{E:Value->Shared->Prop}{s:Shared}{K:W.Frag}{x dx C f:Addr}{mA:Str->Option Value}{name:Str}{v:Value}
end
section
variable {P:Program}{w:World}{H H':Hp}{h h':Heap}{a C dx:Addr}{fs fs':List (Str × V)}
theorem z0y (hok:HOk P w H h) (e:H a=some (.ins C dx fs)):∃mA,ObjM h a dx C mA/\(∀f,RelO (fs.lookup f) (mA f))/\PySem.Within mA (fs.map (·.1))/\fs.length≤1000/\H dx=some (.own a):=by
 obtain ⟨d,z,ne,ob,mA,n,r,q⟩:=(show ObjOk P w H h a (.ins C dx fs) from hok a _ e)
 exact ⟨mA,⟨ob,n,ne⟩,r,q,z,d⟩
end
structure Cls (K:W.Frag) (C:Addr):Prop where
 pg:W.plainGet K C Str.empty=true
 hd:W.hasDictIn K C=true
 po:W.plainOver K C=true
 sa:W.findIn K (.ref C) "__setattr__" = some (some (.builtin "object.__setattr__"))
theorem Cls.get {K:W.Frag}{C:Addr}(c:Cls K C) (f:Str):W.plainGet K C f=true:=c.pg
structure Con (K:W.Frag) (C:Addr) (f:Str) (v:V) (u:Value):Prop where
 at_:W.findIn K (.ref C) f=some (some u)
 rel:RelV v u
 get:W.specialIn K u "__get__" = some none
 cp:W.copiedNames.contains f=false
structure Meth (K:W.Frag) (C:Addr) (m:Str) (f:Addr):Prop where
 at_:W.findIn K (.ref C) m=some (some (.ref f))
 fn:W.isFn K (.ref f)=true
 kp:W.keepIn K (.ref f)=true
section
variable {X:Cx}{pins:List (Addr × Obj)}{σ:St}{H:Hp}{s:Shared}{a C dx:Addr}{fs:List (Str × V)}{f:Str}{v:V}{A:Around}{E:Value->Shared->Prop}
theorem Inv.made (I:Inv X pins σ H s):Inv X pins σ (upd (upd H s.heap.objs.size (.own (s.heap.objs.size+1))) (s.heap.objs.size+1) (.ins C s.heap.objs.size []))
  { s with heap:=(s.heap.push W.emptyDict).push (W.instObj C s.heap.objs.size) }:=by
 have e1:(s.heap.push W.emptyDict).get? s.heap.objs.size=some W.emptyDict:=Heap.get?_push_size s.heap rfl
 have e2:((s.heap.push W.emptyDict).push (W.instObj C s.heap.objs.size)).get? (s.heap.objs.size+1)=some (W.instObj C s.heap.objs.size):=by
  have:=Heap.get?_push_size (s.heap.push W.emptyDict) (o:=W.instObj C s.heap.objs.size) rfl
  rwa [Heap.size_push] at this
 have e3:(s.heap.push W.emptyDict).Ns s.heap.objs.size (λ _=>none):=⟨W.emptyDict,#[],_,e1,rfl,(λ e he=>absurd he (by simp)),λ _=>rfl⟩
 have I1:=I.laid (a:=s.heap.objs.size) (o:=.own (s.heap.objs.size+1)) (h':=s.heap.push W.emptyDict) (t':=s.toks) (λ b u q=>Heap.get?_push_of_some _ q) (Nat.le_refl _) ⟨_,e1⟩
 refine I1.laid (a:=s.heap.objs.size+1) (o:=.ins C s.heap.objs.size []) (t':=s.toks) (λ b u q=>Heap.get?_push_of_some _ q) (Nat.le_of_eq (Heap.size_push _ _)) ?_
 have ne:s.heap.objs.size≠s.heap.objs.size+1:=Nat.ne_of_lt (Nat.lt_succ_self _)
 refine ⟨by rw [z0p ne,z0h],Nat.zero_le _,ne,e2,λ _=>none,(Heap.Ns1.of_empty e3).at λ o q=>Heap.get?_push_of_some _ q,λ _=>True.intro,λ y hy=>absurd rfl hy⟩
end
section
variable {X:Cx}{o e value:Expr}{f:Str}{pos pos' tpos:Pos}{ta tv:TE}
end
section
variable {X:Cx}{pins:List (Addr × Obj)}{σ:St}{H:Hp}{s:Shared}{A:Around}{E:Value->Shared->Prop}{Q:Value->Shared->Prop}{c:Value}{b:Bool}
inductive TyOf (K:W.Frag) (H:Hp):V->Value->Prop where
 | non:TyOf K H .non (.type "NoneType")
 | bl (x:Bool):TyOf K H (.bl x) (.type "bool")
 | int (i:Int):TyOf K H (.int i) (.type "int")
 | str (x:Str):TyOf K H (.str x) (.type "str")
 | flt (x:UInt64):TyOf K H (.flt x) (.type "float")
 | lst {a:Addr}{xs:List V}(e:H a=some (.lst xs)):TyOf K H (.ref a) (.type "list")
 | frz {a:Addr}{o:Obj}{xs:List V}(e:H a=some (.frz o (.lst xs))):TyOf K H (.ref a) (.type "list")
 | tup {a:Addr}{xs:List V}(e:H a=some (.tup xs)):TyOf K H (.ref a) (.type "tuple")
 | dK {a:Addr}{kvs:List (Key × V)}(e:H a=some (.dK kvs)):TyOf K H (.ref a) (.type "dict")
 | dT {a:Addr}{kvs:List (List Key × V)}(e:H a=some (.dT kvs)):TyOf K H (.ref a) (.type "dict")
 | ins {a C dx:Addr}{fs:List (Str × V)}(e:H a=some (.ins C dx fs)) (cl:Cls K C) (ha:W.findIn K (.ref C) "__class__" = some (some (.builtin "object.__class__")))
   (hn:W.specialIn K (.builtin "object.__class__") "__get__" = some (some (.builtin "getset_descriptor.__get__"))) (htk:W.takesIn K (.builtin "object.__class__")=some true)
   (hm:W.mroIn K C (.type "object")=some true):TyOf K H (.ref a) (.ref C)
theorem y7i {x:V}{u t:Value}(I:Inv X pins σ H s) (rx:RelV x u) (ty:TyOf X.K H x t) (e:W.kitOne X.K t c=some b) (h:∀tk,Q (.bool b) { s with toks:=tk }) :
  wpAny (model X.prog X.w) A (call (.builtin "isinstance") [u,c]) Q E s:=by
 cases ty with
 | non=>cases (show u=Value.none from rx);exact W.kia_one W.kitx_none I.kIn True.intro e (λ z=>nomatch z) h
 | bl y=>cases (show u=Value.bool y from rx);exact W.kia_one W.kitx_bool I.kIn True.intro e (λ z=>nomatch z) h
 | int i=>obtain ⟨t,q⟩:=(show ∃t,u=Value.int i t from rx);cases q;exact W.kia_one W.kitx_int I.kIn True.intro e (λ z=>nomatch z) h
 | str y=>obtain ⟨t,q⟩:=(show ∃t,u=Value.str y t from rx);cases q;exact W.kia_one W.kitx_str I.kIn True.intro e (λ z=>nomatch z) h
 | flt y=>obtain ⟨t,q⟩:=(show ∃t,u=Value.float y t from rx);cases q;exact W.kia_one W.kitx_float I.kIn True.intro e (λ z=>nomatch z) h
 | @lst a xs ea =>
  cases (show u=Value.ref a from rx)
  obtain ⟨_,_,n,_,h1⟩:=(show ObjOk X.prog X.w H s.heap a (.lst xs) from I.hok a _ ea)
  exact W.kia_one W.kitx_list I.kIn ⟨_,h1,rfl⟩ e (λ z=>nomatch z) h
 | @frz a ob xs ea =>
  cases (show u=Value.ref a from rx)
  obtain ⟨_,_,_,n,_,h1⟩:=(show ObjOk X.prog X.w H s.heap a (.frz ob (.lst xs)) from I.hok a _ ea)
  exact W.kia_one W.kitx_list I.kIn ⟨_,h1,rfl⟩ e (λ z=>nomatch z) h
 | @tup a xs ea =>
  cases (show u=Value.ref a from rx)
  obtain ⟨_,_,_,p⟩:=(show ObjOk X.prog X.w H s.heap a (.tup xs) from I.hok a _ ea)
  obtain ⟨o,h1,h2,_⟩:=p
  exact W.kia_one W.kitx_tuple I.kIn ⟨o,h1,h2⟩ e (λ z=>nomatch z) h
 | @dK a kvs ea =>
  cases (show u=Value.ref a from rx)
  obtain ⟨_,_,vs,_,p⟩:=(show ObjOk X.prog X.w H s.heap a (.dK kvs) from I.hok a _ ea)
  obtain ⟨o,es,ep,h1,h2,_⟩:=p
  exact W.kia_one W.kitx_dict I.kIn ⟨o,h1,h2.1⟩ e (λ z=>nomatch z) h
 | @dT a kvs ea =>
  cases (show u=Value.ref a from rx)
  obtain ⟨_,_,xs,_,o,es,ep,h1,h2,_⟩:=(show ObjOk X.prog X.w H s.heap a (.dT kvs) from I.hok a _ ea)
  exact W.kia_one W.kitx_dict I.kIn ⟨o,h1,h2.1⟩ e (λ z=>nomatch z) h
 | @ins a C dx fs ea cl ha hn htk hm =>
  cases (show u=Value.ref a from rx)
  obtain ⟨mA,O,_⟩:=z0y I.hok ea
  obtain ⟨od,J,_⟩:=O.look
  exact W.kia_one (W.kitx_own (cl.get _) cl.hd ha hn htk hm) I.kIn J e (λ z=>nomatch z) h
end
structure Room (k:Nat) (A:Around):Prop where
 hd:A.handled=none
 dp:A.depth+3 * k+5 < recursionLimit
 un:A.units+16 * k+200 < cLine
theorem Room.mono {j k:Nat}{A:Around}(r:Room k A) (h:j≤k):Room j A:=⟨r.hd,by have:=r.dp;omega,by have:=r.un;omega⟩
theorem Room.deeper {k:Nat}{A:Around}(r:Room (k+1) A) (env:Env):Room k (A.deeper env) :=
 ⟨r.hd,by have:=r.dp;show A.depth+1+3 * k+5 < _;omega,by have:=r.un;show A.units+3+16 * k+200 < _;omega⟩
theorem Room.in1 {k:Nat}{A:Around}(r:Room (k+1) A):Room k A.in1 :=
 ⟨r.hd,by have:=r.dp;show A.depth+3 * k+5 < _;omega,by have:=r.un;show A.units+1+16 * k+200 < _;omega⟩
theorem Room.depth {k:Nat}{A:Around}(r:Room k A):A.depth < recursionLimit:=by have:=r.dp;omega
theorem Room.units {k:Nat}{A:Around}(r:Room k A):A.units+64 < cLine:=by have:=r.un;omega
theorem Room.units0 {k:Nat}{A:Around}(r:Room k A):A.units < cLine:=by have:=r.un;omega
def tNil:TA:=λ _ H Q=>Q [] H
def tCons (ta:TE) (tr:TA):TA:=λ σ H Q=>ta σ H λ x H1=>tr σ H1 λ xs H2=>Q (x::xs) H2
section
variable {X:Cx}{e:Expr}{es:List Expr}{te:TE}{t:TA}{pos:Pos}
theorem z0b:PA X [] tNil:=λ _ _ _ _ H Q I h=>Calls.spliced_nil ⟨[],H,I,.nil,h⟩
theorem z0a (ha:PE X e te) (hr:PA X es t) (hs:starEach (e::es) X.env=(false,eval e X.env)::starEach es X.env:=by rfl):PA X (e::es) (tCons te t):=by
 intro pos pins s σ H Q I h
 rw [hs]
 show wpAny _ _ (spliced ((false,eval e X.env)::backTo pos (starEach es X.env))) _ _ s
 refine Calls.spliced_cons (thn (ha pins s σ H _ I h) λ u s1 ⟨x,H1,I1,r1,q1⟩=>?_)
 exact thn (hr pos pins s1 σ H1 _ I1 q1) λ us s2 ⟨xs,H2,I2,r2,q2⟩=>⟨x::xs,H2,I2,.cons r1 r2,q2⟩
def tTup (t:TA):TE:=λ σ H Q=>t σ H λ xs H1=>xs.length≤sizeLine/\∀p,H1 p=none->Q (.ref p) (upd H1 p (.tup xs))
def tLst (t:TA):TE:=λ σ H Q=>t σ H λ xs H1=>xs.length≤sizeLine/\∀p,H1 p=none->Q (.ref p) (upd H1 p (.lst xs))
theorem z2s {x1} (h:PA X es t):PE X (.Tuple es x1 pos) (tTup t):=by
 intro pins s σ H Q I hq
 refine wpAny_Tuple_spliced (thn (h pos pins s σ H _ I hq) λ us s1 ⟨xs,H1,I1,r,z,q⟩=>⟨by rw [← r.length];exact z,?_⟩)
 have hf:H1 s1.heap.objs.size=none:=I1.hok.fresh (Nat.le_refl _)
 refine ⟨.ref s1.heap.objs.size,upd H1 s1.heap.objs.size (.tup xs),I1.laid (t':=s1.toks) (λ b u e=>Heap.get?_push_of_some _ e) (Nat.le_refl _) ?_,rfl,q _ hf⟩
 exact ⟨z,us,r,⟨_,Heap.get?_push_size _ rfl,rfl,_,rfl⟩⟩
theorem z6r (h:PA X es t):PE X (.List es pos) (tLst t):=by
 intro pins s σ H Q I hq
 refine wpAny_List_spliced (thn (h pos pins s σ H _ I hq) λ us s1 ⟨xs,H1,I1,r,z,q⟩=>⟨by rw [← r.length];exact z,?_⟩)
 have hf:H1 s1.heap.objs.size=none:=I1.hok.fresh (Nat.le_refl _)
 refine ⟨.ref s1.heap.objs.size,upd H1 s1.heap.objs.size (.lst xs),I1.laid (t':=s1.toks) (λ b u e=>Heap.get?_push_of_some _ e) (Nat.le_refl _) ?_,rfl,q _ hf⟩
 exact ⟨z,us,0,r,Heap.get?_push_size _ rfl⟩
end
abbrev Sp:=List V->Hp->VK->XK->Prop
abbrev CXT:=List Env->Hp->Shared->XK->Value->Shared->Prop
structure Env0 (P:Program) (w:World) (K:W.Frag) (mg:Str->Option Value) (base:Heap) (A:Around) (outer:List Env) (s:Shared) (H:Hp):Prop where
 frames:A.frames=some outer
 mod:Mod K mg base
 bs:∀b o,base.get? b=some o->s.heap.get? b=some o/\H b=none
 bsz:base.objs.size≤s.heap.objs.size
 funs:s.heap.FunFrames base outer
 frf:∀b∈frs outer,H b=none
 hok:HOk P w H s.heap
 bare:AllBare s.gens
def CE (outer:List Env) (P:Program) (w:World) (H:Hp) (s:Shared) (Q:VK) (u:Value) (s':Shared):Prop :=
 ∃v H',s'.os=s.os/\AllBare s'.gens/\Un (frs outer) [] H H' s.heap s'.heap/\HOk P w H' s'.heap/\RelV v u/\Q v H'
def CR (CX:CXT) (outer:List Env) (P:Program) (w:World) (H:Hp) (s:Shared) (Q:VK) (E:XK) (r:Result) (s':Shared):Prop :=
 match r with
 | .ok (.ret u)=>CE outer P w H s Q u s'
 | .ok _=>False
 | .error e=>CX outer H s E e s'
structure FnOk (P:Program) (w:World) (K:W.Frag) (mg:Str->Option Value) (base:Heap) (CX:CXT) (k:Nat) (f:Addr) (fd:FuncData) (ps:List Str) (sp:Sp):Prop where
 len:∀vs H Q E,sp vs H Q E->vs.length=ps.length
 run:∀(A:Around) (outer:List Env) (s:Shared) (H:Hp) (args:Args) (us:List Value) (vs:List V) (Q:VK) (E:XK),Room k A->Env0 P w K mg base A outer s H->BindsTo s fd args (ps.zip us)->Vals vs us->sp vs H Q E ->
  codeAny (model P w) A (.call (.ref f) args) (CR CX outer P w H s Q E) s
theorem FnOk.mono {P:Program}{w:World}{K:W.Frag}{mg:Str->Option Value}{base:Heap}{CX:CXT}{j k:Nat}{f:Addr}{fd:FuncData}{ps:List Str}{sp:Sp}(F:FnOk P w K mg base CX j f fd ps sp) (h:j≤k) :
  FnOk P w K mg base CX k f fd ps sp:=⟨F.len,λ A outer s H args us vs Q E hr=>F.run A outer s H args us vs Q E (hr.mono h)⟩
theorem FnOk.imp {P:Program}{w:World}{K:W.Frag}{mg:Str->Option Value}{base:Heap}{CX:CXT}{k:Nat}{f:Addr}{fd:FuncData}{ps:List Str}{sp sp':Sp}(F:FnOk P w K mg base CX k f fd ps sp)
  (h:∀vs H Q E,sp' vs H Q E->sp vs H Q E):FnOk P w K mg base CX k f fd ps sp' :=
 ⟨λ vs H Q E q=>F.len vs H Q E (h _ _ _ _ q),λ A outer s H args us vs Q E hr he hb hv hs=>F.run A outer s H args us vs Q E hr he hb hv (h _ _ _ _ hs)⟩
theorem Env0.in1 {P:Program}{w:World}{K:W.Frag}{mg:Str->Option Value}{base:Heap}{A:Around}{outer:List Env}{s:Shared}{H:Hp}(e:Env0 P w K mg base A outer s H) :
  Env0 P w K mg base A.in1 outer s H:=⟨e.frames,e.mod,e.bs,e.bsz,e.funs,e.frf,e.hok,e.bare⟩
section
variable {X:Cx}{pins:List (Addr × Obj)}{σ:St}{H:Hp}{s s':Shared}
theorem Inv.env0 (I:Inv X pins σ H s):Env0 X.prog X.w X.K X.mg X.base X.A X.stack s H :=
 ⟨I.ok.frames,I.ok.mod,I.bs,Nat.le_trans I.ok.bsz I.sz,I.stack,I.stkFree,I.hok,I.bare⟩
theorem Inv.after {Q:VK}{u:Value}(I:Inv X pins σ H s) (h:CE X.stack X.prog X.w H s Q u s'):EP X pins σ Q u s':=by
 obtain ⟨v,H',os,bare,un,hok,r,q⟩:=h
 obtain ⟨hh,g,d,t,os'⟩:=s'
 obtain rfl:os'=s.os:=os
 exact ⟨v,H',I.call (h':=hh) (g':=g) (d':=d) (t':=t) (ch:=[]) un hok bare (λ b z=>absurd z (by simp)),r,q⟩
end
def tCall (sp:Sp) (dvs:List V) (E:XK) (t:TA):TE:=λ σ H Q=>t σ H λ vs H1=>sp (vs++dvs) H1 Q E
def Binds (K:W.Frag) (fd:FuncData) (ps:List Str) (ds:List Value):Prop :=
 ∀(s:Shared) (us:List Value),K.In s.heap->(us++ds).length=ps.length->BindsTo s fd ⟨us,[]⟩ (ps.zip (us++ds))
theorem Binds.all {K:W.Frag}{fd:FuncData}{ps:List Str}(h:∀us:List Value,us.length=ps.length->bindArgs fd ⟨us,[]⟩=pure (ps.zip us)):Binds K fd ps []:=λ s us _ hl=>by
 rw [List.append_nil] at hl ⊢
 exact .of_eq (h us hl)
def Passes (CX:CXT) (X:Cx) (E:XK):Prop:=∀(pins:List (Addr × Obj)) (σ:St) (H:Hp) (s:Shared) (e:Value) (s':Shared),Inv X pins σ H s->CX X.stack H s E e s'->X.xe e s'
section
variable {X:Cx}{CX:CXT}{k:Nat}{f C:Addr}{fd:FuncData}{ps:List Str}{sp:Sp}{dvs:List V}{ds:List Value}{E:XK}{x m:Str}{p pos apos:Pos}{e o:Expr}{es:List Expr}{ta:TE}{t:TA}
theorem x4m {pins:List (Addr × Obj)}{σ:St}{H:Hp}{s:Shared}{Q:VK}{us:List Value}{vs:List V}(F:FnOk X.prog X.w X.K X.mg X.base CX k f fd ps sp) (hr:Room k X.A) (hb:Binds X.K fd ps ds) (hd:Vals dvs ds) (hx:Passes CX X E)
  (I:Inv X pins σ H s) (r:Vals vs us) (h:sp (vs++dvs) H Q E):wpAny (model X.prog X.w) X.A (call (.ref f) us) (EP X pins σ Q) X.xe s:=by
 have r2:Vals (vs++dvs) (us++ds):=r.append hd
 have hl:(us++ds).length=ps.length:=by rw [← r2.length];exact F.len _ _ _ _ h
 refine wpAny_call (codeAny_mono (F.run X.A X.stack s H ⟨us,[]⟩ (us++ds) (vs++dvs) Q E hr I.env0 (hb s us I.kIn hl) r2 h) λ r s' hq=>?_)
 cases r with
 | error e=>exact hx pins σ H s e s' I hq
 | ok fl =>
  cases fl with
  | ret u=>exact I.after hq
  | next=>exact False.elim hq
  | brk=>exact False.elim hq
  | cont=>exact False.elim hq
theorem x2r (F:FnOk X.prog X.w X.K X.mg X.base CX k f fd ps sp) (hr:Room k X.A) (hg:Gl X x) (hm:X.mg x=some (.ref f)) (hk:W.keepIn X.K (.ref f)=true) (hb:Binds X.K fd ps ds) (hd:Vals dvs ds) (hx:Passes CX X E)
  (ha:PA X (e::es) t) (hdb:(x == ("__debug__" : Str))=false:=by decide) (he:starEach (e::es) X.env=(false,eval e X.env)::starEach es X.env:=by rfl) (hpl:(backTo pos (starEach es X.env)).any (·.1)=false:=by rfl) :
  PE X (.Call (.Name x p) (e::es) [] pos) (tCall sp dvs E t):=by
 intro pins s σ H Q I h
 refine wpAny_Call_Name_kw (z8y I hg hm ?_ hdb)
 refine W.callWith_K (h₀:=X.base) I.ok.mod.kin hk (thn (ha pos pins s σ H _ I h) λ us s1 ⟨vs,H1,I1,r,q⟩=>⟨I1.kIn,?_⟩) he hpl
 exact x4m F hr hb hd hx I1 r q
structure Mk (K:W.Frag) (C f:Addr):Prop where
 makes:W.makesIn K C=true
 init:W.findIn K (.ref C) "__init__" = some (some (.ref f))
 fn:W.isFn K (.ref f)=true
 kp:W.keepIn K (.ref C)=true
end
section
variable {X:Cx}{CX:CXT}{k:Nat}{f C:Addr}{fd:FuncData}{ps ks:List Str}{sp:Sp}{E:XK}{x m:Str}{p pos apos kpos:Pos}{e o:Expr}{es:List Expr}{kws:List Keyword}{te ta:TE}{t tk:TA}{nm:Option Str}
structure KBinds (K:W.Frag) (fd:FuncData) (ps ks:List Str) (g:List Value->List Value->List Value) (gV:List V->List V->List V):Prop where
 to:∀(s:Shared) (us ws:List Value),K.In s.heap->(g us ws).length=ps.length->BindsTo s fd ⟨us,ks.zip ws⟩ (ps.zip (g us ws))
 rel:∀ {vs:List V}{us:List Value}{zs:List V}{ws:List Value},Vals vs us->Vals zs ws->Vals (gV vs zs) (g us ws)
variable {g:List Value->List Value->List Value}{gV:List V->List V->List V}
end
structure FnScope (N P:List Str) (sc:Scope):Prop where
 kind:sc.kind=.function
 co:sc.isCoroutine=false
 gen:sc.isGenerator=false
 nd:N.Nodup
 pre:N.take P.length=P
 par:∀x∈P,sc.names.lookup x=some .local\/sc.names.lookup x=some .cell
 nofree:∀y∈sc.names,y.2≠.free
theorem y0f {kindOf:Str->Option NameKind}{x:Str}:∀ {binds:List (Str × Value)}{m:Str->Option Value},(∀v,(x,v) ∉ binds)->bindL kindOf binds m x=m x
 | [],_,_=>rfl
 | (n,v)::r,m,h=>by
  unfold bindL
  rw [y0f λ w hw=>h w (List.mem_cons_of_mem _ hw)]
  split
  ·have:x≠n:=by rintro rfl;exact h v List.mem_cons_self
   simp [this]
  ·rfl
theorem y0g {kindOf:Str->Option NameKind}{x:Str}:∀ {binds:List (Str × Value)}{m:Str->Option Value},(∀v,(x,v) ∉ binds)->bindC kindOf binds m x=m x
 | [],_,_=>rfl
 | (n,v)::r,m,h=>by
  unfold bindC
  rw [y0g λ w hw=>h w (List.mem_cons_of_mem _ hw)]
  split
  ·rfl
  ·have:x≠n:=by rintro rfl;exact h v List.mem_cons_self
   simp [this]
theorem z7b {kindOf:Str->Option NameKind}{x:Str}{v:Value}:∀ {P:List Str}{vs:List Value}{i:Nat}{m:Str->Option Value},P.Nodup->P[i]?=some x->vs[i]?=some v->kindOf x=some .local ->
  bindL kindOf (P.zip vs) m x=some v
 | [],_,_,_,_,h,_,_=>by simp at h
 | _::_,[],_,_,_,_,h,_=>by simp at h
 | p::P,w::vs,0,m,nd,h1,h2,hk=>by
  simp at h1 h2;subst h1;subst h2
  show bindL kindOf ((p,w)::P.zip vs) m p=_
  unfold bindL
  rw [y0f λ v hv=>(List.nodup_cons.mp nd).1 (List.of_mem_zip hv).1,if_pos hk]
  simp
 | p::P,w::vs,i+1,m,nd,h1,h2,hk=>by
  show bindL kindOf ((p,w)::P.zip vs) m x=_
  unfold bindL
  exact z7b (i:=i) (List.nodup_cons.mp nd).2 (by simpa using h1) (by simpa using h2) hk
theorem z7c {kindOf:Str->Option NameKind}{x:Str}{v:Value}:∀ {P:List Str}{vs:List Value}{i:Nat}{m:Str->Option Value},P.Nodup->P[i]?=some x->vs[i]?=some v->kindOf x≠some .local ->
  bindC kindOf (P.zip vs) m x=some v
 | [],_,_,_,_,h,_,_=>by simp at h
 | _::_,[],_,_,_,_,h,_=>by simp at h
 | p::P,w::vs,0,m,nd,h1,h2,hk=>by
  simp at h1 h2;subst h1;subst h2
  show bindC kindOf ((p,w)::P.zip vs) m p=_
  unfold bindC
  rw [y0g λ v hv=>(List.nodup_cons.mp nd).1 (List.of_mem_zip hv).1,if_neg hk]
  simp
 | p::P,w::vs,i+1,m,nd,h1,h2,hk=>by
  show bindC kindOf ((p,w)::P.zip vs) m x=_
  unfold bindC
  exact z7c (i:=i) (List.nodup_cons.mp nd).2 (by simpa using h1) (by simpa using h2) hk
def start (N:List Str) (vs:List V):St:=vs.map some++List.replicate (N.length - vs.length) none
def cxOf (CX:CXT) (P:Program) (w:World) (K:W.Frag) (mg:Str->Option Value) (base:Heap) (N:List Str) (qual:Str) (scope:Scope) (f:Addr) (cd:Value) (A:Around) (outer:List Env) (s:Shared) (H:Hp) (E:XK):Cx where
 prog:=P
 w:=w
 K:=K
 mg:=mg
 base:=base
 A:=A.deeper (envOfC qual scope s.heap.objs.size f cd)
 N:=N
 s₀:=s
 H₀:=H
 env:=envOfC qual scope s.heap.objs.size f cd
 outer:=outer
 stack:=envOfC qual scope s.heap.objs.size f cd::outer
 ex:=[]
 calm:=true
 fn:=λ _=>true
 pn:=[]
 xe:=λ e s'=>wpAny (model P w) (A.deeper (envOfC qual scope s.heap.objs.size f cd)) (leaving (envOfC qual scope s.heap.objs.size f cd) e) (λ _ s''=>CX outer H s E e s'') (λ e' s''=>CX outer H s E e' s'') s'
theorem z5j {sc:Scope}{n:Nat}{x:Str}(h:sc.names.lookup x=some .cell):∃c,(cellsFrom n sc.names []).lookup x=some c:=by
 have q:=W.cellsFrom_some sc.names n [] (.inl h)
 exact Option.isSome_iff_exists.mp q
theorem y7j {CX:CXT}{P:Program}{w:World}{K:W.Frag}{mg:Str->Option Value}{base:Heap}{N ps:List Str}{qual:Str}{scope:Scope}{f:Addr}{cd:Value}{A:Around}{outer:List Env}{s s1:Shared}{H:Hp}{E:XK}{us:List Value}{vs:List V}
  (S:FnScope N ps scope) (hd:A.handled=none) (e0:Env0 P w K mg base A outer s H) (hl:vs.length=ps.length) (r:Vals vs us)
  (x:InCallC s s.heap.objs.size (bindL (envOfC qual scope s.heap.objs.size f cd).kindOf (ps.zip us) λ _=>none) (cellsFrom (s.heap.objs.size+1) scope.names []) (bindC (envOfC qual scope s.heap.objs.size f cd).kindOf (ps.zip us) λ _=>none) s1) :
  Inv (cxOf CX P w K mg base N qual scope f cd A outer s H E) [] (start N vs) H s1:=by
 have hpl:ps.length≤N.length:=by have:=congrArg List.length S.pre;rw [List.length_take] at this;omega
 obtain ⟨h1,tk,rfl,hk⟩:=x.done
 have noA:∀b:Addr,b ∉ (cxOf CX P w K mg base N qual scope f cd A outer s H E).ex:=λ b z=>absurd (show b∈([]:List Addr) from z) (by simp)
 refine ⟨⟨e0.mod,S.kind,rfl,rfl,Nat.le_refl _,λ y z c h1 h2=>?_,λ y hy=>?_,λ y c _ h=>?_,λ _=>hd,Around.frames_deeper e0.frames,.inr ⟨rfl,rfl⟩,λ b z=>absurd z (noA b),e0.bs,e0.bsz,λ b _ _=>noA b,λ b z=>absurd z (noA b),e0.funs,e0.frf⟩,
  rfl,e0.bare,Un.kept hk,⟨_,x.toInCall.ns,λ i y v h1 h2 h3=>?_⟩,λ y c h=>⟨_,x.cell y c h⟩,e0.hok.fresh (Nat.le_refl _),λ y c h=>?_,λ p hp=>absurd (show p∈([]:List (Addr × Obj)) from hp) (by simp),e0.hok.kept hk,?_⟩
 ·exact name_of_addr x.apart (PySem.mem_of_lookup h1) (PySem.mem_of_lookup h2)
 ·have hy:scope.names.lookup y=some .cell\/scope.names.lookup y=some .free:=hy
  rcases hy with hy | hy
  ·exact z5j hy
  ·exact absurd rfl (S.nofree _ (PySem.mem_of_lookup hy))
 ·exact Nat.le_of_lt (x.above y c (PySem.mem_of_lookup h))
 ·have hi:i < vs.length:=by
   unfold start at h2
   by_cases hi:i < vs.length
   ·exact hi
   ·rw [List.getElem?_append_right (by simpa using hi)] at h2
    rw [List.getElem?_replicate] at h2
    split at h2<;>cases h2
  have ha:vs[i]?=some v:=by
   unfold start at h2
   rw [List.getElem?_append_left (by simpa using hi),List.getElem?_map] at h2
   cases e:vs[i]? with
   | none=>rw [e] at h2;cases h2
   | some a=>rw [e] at h2;cases h2;rfl
  obtain ⟨u,hu,rv⟩:=r.get ha
  have hp:ps[i]?=some y:=by
   rw [← S.pre,List.getElem?_take_of_lt (by omega)];exact h1
  have ndP:ps.Nodup:=by rw [← S.pre];exact S.nd.sublist (List.take_sublist _ _)
  refine ⟨u,rv,?_⟩
  rcases S.par y (List.mem_of_getElem? hp) with k | k
  ·exact .inl ⟨k,z7b ndP hp hu k⟩
  ·obtain ⟨c,e⟩:=z5j (n:=s.heap.objs.size+1) k
   refine .inr ⟨.inl k,c,e,?_⟩
   have q:=x.cell y c e
   rw [z7c ndP hp hu (by show scope.names.lookup y≠_;rw [k];decide)] at q
   exact q
 ·exact e0.hok.fresh (Nat.le_of_lt (x.above y c (PySem.mem_of_lookup h)))
 ·unfold start
  show _=N.length
  rw [List.length_append,List.length_map,List.length_replicate]
  omega
theorem x0v {CX:CXT}{P:Program}{w:World}{K:W.Frag}{mg:Str->Option Value}{base:Heap}{k:Nat}{f:Addr}{name qual:Str}{params:Arguments}{body:List Stmt}{scope:Scope}{dV kV doc pm cdv ct oc:Value}{an od:Option Addr}
  {osl:Array (Option Value)}{N ps:List Str}{sp:Sp}(lk:K.lookup f=some ⟨oc,od,.func (W.fnOf name qual params body scope dV kV doc pm an cdv ct),osl⟩) (hcd:W.codeIn K cdv qual=true) (S:FnScope N ps scope)
  (len:∀vs H Q E,sp vs H Q E->vs.length=ps.length)
  (hbody:∀(A:Around) (outer:List Env) (s:Shared) (H:Hp) (vs:List V) (Q:VK) (E:XK),Room k (A.deeper (envOfC qual scope s.heap.objs.size f cdv))->sp vs H Q E ->
   ∃t,PSs (cxOf CX P w K mg base N qual scope f cdv A outer s H E) body t/\t { nx:=λ _ H'=>Q .non H',rt:=Q } (start N vs) H) :
  FnOk P w K mg base CX (k+1) f (W.fnOf name qual params body scope dV kV doc pm an cdv ct) ps sp:=by
 refine ⟨len,λ A outer s H args us vs Q E hr e0 hb r hsp=>?_⟩
 have hl:=len _ _ _ _ hsp
 have KX:K.In s.heap:=e0.mod.kin.keeps λ b o e=>(e0.bs b o e).1
 have lim:s.heap.NoLimit:=e0.mod.nolimit.keeps λ b o e=>(e0.bs b o e).1
 have hkind:∀y∈ps.zip us,scope.names.lookup y.1=some .local\/(scope.names.lookup y.1=some .cell/\((cellsFrom (s.heap.objs.size+1) scope.names []).lookup y.1).isSome=true):=λ ⟨n,v⟩ hy=>by
  rcases S.par n (List.of_mem_zip hy).1 with q | q
  ·exact .inl q
  ·exact .inr ⟨q,W.cellsFrom_some _ _ _ (.inl q)⟩
 refine codeAny_call_function hr.depth (KX _ _ lk) rfl S.co S.gen rfl (W.codeRec_of KX hcd) (hb _ _ _ _ ?_)
 refine wpAny_newFunctionEnv_cells S.kind hkind λ env he s1 x=>?_
 subst he
 refine ⟨lim.keeps x.toInCall.keep,codeAny_func ?_⟩
 obtain ⟨t,ht,hq⟩:=hbody A outer s H vs Q E (hr.deeper _) hsp
 have I:Inv (cxOf CX P w K mg base N qual scope f cdv A outer s H E) [] (start N vs) H s1:=y7j S hr.hd e0 hl r x
 refine wpAny_mono (ht [] s1 (start N vs) H _ I hq) (λ fl s' hs=>?_) λ e s' hs=>hs
 have fin:∀ {σ':St}{H':Hp}{v:V}{u:Value},Inv (cxOf CX P w K mg base N qual scope f cdv A outer s H E) [] σ' H' s'->RelV v u->Q v H'->CE outer P w H s Q u s' :=
  λ {σ' H' v u} J rv q=>⟨v,H',J.os,J.bare,J.base,J.hok,rv,q⟩
 cases fl with
 | ret u =>
  obtain ⟨v,σ',H',J,rv,q⟩:=hs
  exact fin J rv q
 | next =>
  obtain ⟨σ',H',J,q⟩:=hs
  exact fin (v:=V.non) (u:=Value.none) J rfl q
 | brk =>
  obtain ⟨_,_,_,q⟩:=hs
  exact False.elim q
 | cont =>
  obtain ⟨_,_,_,q⟩:=hs
  exact False.elim q
section
variable {X:Cx}{x:Str}{p pos:Pos}{e:Expr}{es:List Expr}{t:TA}{id T:String}{r:List V->Hp->VK->Prop}
def tCB (r:List V->Hp->VK->Prop) (t:TA):TE:=λ σ H Q=>t σ H λ vs H1=>r vs H1 Q
theorem z0s (hc:CallR X (.builtin id) r) (hg:Gl X x) (hm:X.mg x=none) (hv:bootBuiltins x=some (.builtin id)) (ha:PA X (e::es) t) (hn:x ≠ "__name__" := by decide) (hdb:(x == ("__debug__" : Str))=false:=by decide)
  (he:starEach (e::es) X.env=(false,eval e X.env)::starEach es X.env:=by rfl) (hpl:(backTo pos (starEach es X.env)).any (·.1)=false:=by rfl):PE X (.Call (.Name x p) (e::es) [] pos) (tCB r t):=by
 intro pins s σ H Q I h
 refine wpAny_Call_Name_kw (z4g I hg hm hv ?_ hn hdb)
 exact PyProof.Rows.callWith_builtin1 (thn (ha pos pins s σ H _ I h) λ us s1 ⟨vs,H1,I1,r1,q1⟩=>hc pins s1 σ H1 vs us Q I1 r1 q1) he hpl
theorem z1d (hc:CallR X (.type T) r) (hg:Gl X x) (hm:X.mg x=none) (hv:bootBuiltins x=some (.type T)) (ha:PA X (e::es) t) (hn:x ≠ "__name__" := by decide) (hdb:(x == ("__debug__" : Str))=false:=by decide)
  (he:starEach (e::es) X.env=(false,eval e X.env)::starEach es X.env:=by rfl) (hpl:(backTo pos (starEach es X.env)).any (·.1)=false:=by rfl):PE X (.Call (.Name x p) (e::es) [] pos) (tCB r t):=by
 intro pins s σ H Q I h
 refine wpAny_Call_Name_kw (z4g I hg hm hv ?_ hn hdb)
 exact PyProof.Rows.callWith_type1 (thn (ha pos pins s σ H _ I h) λ us s1 ⟨vs,H1,I1,r1,q1⟩=>hc pins s1 σ H1 vs us Q I1 r1 q1) he hpl
end
end L2
namespace HT
open PySem PyProof.Rows
section
open PySem.SeqAt
open PySem.AutoSeq1 (wpAny_loadPart')
open PySem.MeetsSeq PySem.MeetsSeq2 PySem.MeetsSeq3
end
section
variable {prog:Program}{w:World}{A:Around}{E:Value->Shared->Prop}{s:Shared}
theorem cat_tup {t b:Addr}{vs ws:List Value}{Q:Value->Shared->Prop}(ht:IsTup s.heap t vs.toArray) (hb:IsTup s.heap b ws.toArray) (hv:vs≠[])
  (h1:ws=[]->Q (.ref t) s) (h2:ws≠[]->Q (.ref s.heap.objs.size) { s with heap:=s.heap.push { cls:=.type "tuple",data:=.seq (vs++ws).toArray } })
  (hsz:vs.length+ws.length≤sizeLine):wpAny (model prog w) A (binaryOp .Add (.ref t) (.ref b)) Q E s:=by
 obtain ⟨⟨cls,dd,data,sl⟩,ho,hc,n,hd⟩:=id ht
 obtain ⟨⟨cls2,dd2,data2,sl2⟩,ho2,hc2,n2,hd2⟩:=id hb
 simp only at hc hd hc2 hd2
 subst hc hd hc2 hd2
 have e:vs.toArray++ws.toArray=(vs++ws).toArray:=by simp
 by_cases hw:ws=[]
 ·exact concat_meets ⟨_,ho,rfl⟩ ⟨_,ho2,rfl⟩ noFill_tuple_add seq_tuple_add PySem.F.slot_tuple_add PySem.F.entry_tuple_add (PySem.F.args_tuple_add_2 _ _)
   (tuple_addW1 t b vs.toArray ws.toArray n n2 dd dd2 sl sl2 (by simpa using hv) (by simp [hw])) ⟨ho,ho2,h1 hw⟩
 ·refine concat_meets ⟨_,ho,rfl⟩ ⟨_,ho2,rfl⟩ noFill_tuple_add seq_tuple_add PySem.F.slot_tuple_add PySem.F.entry_tuple_add (PySem.F.args_tuple_add_2 _ _)
   (tuple_addW2 t b vs.toArray ws.toArray n n2 dd dd2 sl sl2 (by simpa using hv) (by simpa using hw) (by rw [List.size_toArray,List.size_toArray];exact hsz)) ⟨ho,ho2,?_⟩
  rw [e]
  exact h2 hw
def sIx (n d:Nat):Option Int->Nat
 | none=>d
 | some v=>if v < 0 then (v+(n:Int)).toNat else min v.toNat n
theorem x4j (n d:Nat) (hd:d≤n) (o:Option Int):sIx n d o≤n:=by
 cases o with
 | none=>exact hd
 | some v =>
  show (if v < 0 then (v+(n:Int)).toNat else min v.toNat n)≤n
  by_cases hv:v < 0
  ·rw [if_pos hv];omega
  ·rw [if_neg hv];exact Nat.min_le_right _ _
theorem y8r (v:Int) (n d:Nat):(if v < 0 then max (v+(n:Int)) 0 else min v (n:Int))=((sIx n d (some v):Nat):Int):=by
 show (if v < 0 then max (v+(n:Int)) 0 else min v (n:Int))=(((if v < 0 then (v+(n:Int)).toNat else min v.toNat n):Nat):Int)
 by_cases hv:v < 0
 ·simp only [if_pos hv];omega
 ·simp only [if_neg hv];omega
theorem y4k (lo hi:Option Int) (n:Nat):Builtin.Slice.sliceAdjust lo hi 1 (n:Int)=(((sIx n 0 lo:Nat):Int),((sIx n n hi:Nat):Int)):=by
 have h1:¬((1:Int) < 0):=by omega
 unfold Builtin.Slice.sliceAdjust
 simp only [h1,if_false]
 refine Prod.ext ?_ ?_
 ·cases lo with
  | none=>rfl
  | some v=>exact y8r v n 0
 ·cases hi with
  | none=>rfl
  | some v=>exact y8r v n n
theorem y3s (i j:Nat):Builtin.Slice.slicePlaces (i:Int) (j:Int) 1=j - i:=by
 unfold Builtin.Slice.slicePlaces
 have h1:(1:Int) > 0:=by omega
 simp only [h1,if_true,Int.ediv_one]
 split<;>omega
theorem z7p {v:Value}{o:Option Int}{Q:Option Int->Shared->Prop}(p:IsPart v o) (h:Q o s):wpAny (model prog w) A (Builtin.Slice.slicePartIndex v) Q E s:=by
 cases p with
 | none=>exact slicePart_none h
 | int i t=>exact slicePart_int h
theorem z3o {sl:Addr}{vl vu:Value}{lo hi:Option Int}{n:Nat}{Q:Int × Int × Nat->Shared->Prop}(hs:s.heap.IsSliceOf sl vl vu .none) (pl:IsPart vl lo) (pu:IsPart vu hi)
  (h:Q (((sIx n 0 lo:Nat):Int),1,sIx n n hi - sIx n 0 lo) s):wpAny (model prog w) A (Builtin.Slice.sliceApplied (.ref sl) (pure (n:Int))) Q E s:=by
 obtain ⟨os,hos,hcs,hds⟩:=id hs
 unfold Builtin.Slice.sliceApplied Builtin.Slice.sliceFields
 refine wpAny_bind (wpAny_bind (wpAny_field hos hds (x:=vl) rfl (wpAny_bind (wpAny_field hos hds (x:=vu) rfl (wpAny_bind (wpAny_field hos hds (x:=.none) rfl (wpAny_pure ?_)))))))
 refine wpAny_bind (slicePart_none ?_)
 show wpAny _ _ (if ((1:Int) == 0)=true then _ else _) _ _ s
 rw [if_neg (by decide)]
 refine wpAny_bind (z7p pl (wpAny_bind (z7p pu (wpAny_bind (wpAny_pure ?_)))))
 show wpAny _ _ (match Builtin.Slice.sliceAdjust lo hi 1 (n:Int) with | (lo,hi)=>pure (lo,(1:Int),Builtin.Slice.slicePlaces lo hi 1)) _ _ s
 rw [y4k lo hi n]
 show wpAny _ _ (pure (((sIx n 0 lo:Nat):Int),(1:Int),Builtin.Slice.slicePlaces ((sIx n 0 lo:Nat):Int) ((sIx n n hi:Nat):Int) 1)) _ _ s
 rw [y3s]
 exact wpAny_pure h
theorem y9r (xs:Array Value) (i k:Nat):((List.range k).filterMap λ (m:Nat)=>xs[((i:Int)+(m:Int) * 1).toNat]?).toArray=((xs.toList.drop i).take k).toArray:=by
 have e:(λ (m:Nat)=>xs[((i:Int)+(m:Int) * 1).toNat]?)=λ m=>xs[i+m]?:=by
  funext m
  have:((i:Int)+(m:Int) * 1).toNat=i+m:=by omega
  rw [this]
 rw [e]
 have:=pick_run xs i k
 rw [List.filterMap_map] at this
 have e2:((λ x=>xs[x]?) ∘ λ x=>i+x)=λ m=>xs[i+m]?:=rfl
 rw [e2] at this
 rw [this]
theorem getItem_tuple_cut {t sl:Addr}{items:Array Value}{vl vu:Value}{lo hi:Option Int}{Q:Value->Shared->Prop}(ht:IsTup s.heap t items) (hs:s.heap.IsSliceOf sl vl vu .none) (pl:IsPart vl lo) (pu:IsPart vu hi)
  (hw:¬(sIx items.size 0 lo=0/\sIx items.size items.size hi=items.size))
  (h:Q (.ref s.heap.objs.size) { s with heap:=s.heap.push { cls:=.type "tuple",data:=.seq ((items.toList.drop (sIx items.size 0 lo)).take (sIx items.size items.size hi - sIx items.size 0 lo)).toArray } })
  (hsz:items.size≤sizeLine):wpAny (model prog w) A (getItem (.ref t) (.ref sl)) Q E s:=by
 have htake:sizeOk (.seq ((items.toList.drop (sIx items.size 0 lo)).take (sIx items.size items.size hi - sIx items.size 0 lo)).toArray):=by
  show ((items.toList.drop (sIx items.size 0 lo)).take (sIx items.size items.size hi - sIx items.size 0 lo)).toArray.size≤sizeLine
  rw [List.size_toArray,List.length_take,List.length_drop,Array.length_toList]
  omega
 have hj:sIx items.size items.size hi≤items.size:=x4j _ _ (Nat.le_refl _) hi
 obtain ⟨os,hos,hcs,hds⟩:=id hs
 have hTs:s.TypeIs (.ref sl) "slice" := ⟨os,hos,hcs⟩
 unfold getItem
 try with_reducible refine wpAny_holding ?_
 first | refine wpAny_bind (wpAny_pure ?_) | skip
 refine wpAny_bind (wpAny_sequenceKey ht.typeIs (by decide) ?_)
 refine wpAny_bind (wpAny_callSpecial?_slot (name:=Str.ofString "__getitem__") ht.typeIs PyProof.Rows.slot_tuple_getitem
  (wpAny_call_entry PyProof.Rows.slot_tuple_getitem ht.typeIs entry_tuple_getitem ?_ (args_tuple_getitem _ _)))
 show wpAny _ _ (Builtin.Tuple.tupleItemsOf (.ref t) >>= _) _ _ s
 refine wpAny_bind (tupleItemsOf_ ht ?_)
 refine wpAny_bind (wpAny_typeOf hTs ?_)
 rw [if_pos (by decide)]
 refine wpAny_bind (z3o hs pl pu ?_)
 have hno:¬((((sIx items.size 0 lo:Nat):Int) == 0 && (1:Int) == 1 && (sIx items.size items.size hi - sIx items.size 0 lo) == items.size)=true):=by
  intro q
  rw [Bool.and_eq_true,Bool.and_eq_true] at q
  have q1:((sIx items.size 0 lo:Nat):Int)=0:=eq_of_beq q.1.1
  have q2:sIx items.size items.size hi - sIx items.size 0 lo=items.size:=eq_of_beq q.2
  exact hw ⟨by omega,by omega⟩
 show wpAny _ _ (if (((sIx items.size 0 lo:Nat):Int) == 0 && (1:Int) == 1 && (sIx items.size items.size hi - sIx items.size 0 lo) == items.size)=true then _ else _) _ _ s
 rw [if_neg hno,y9r]
 first
  | exact wpAny_bind (m:=Builtin.Tuple.tupleExact _) (wpAny_newObj_type (wpAny_pure ⟨_,rfl,wpAny_pure h⟩) htake)
  | exact wpAny_bind (m:=Builtin.Tuple.tupleExact _) (wpAny_newObj_type (wpAny_bind (wpAny_pure (wpAny_pure ⟨_,rfl,wpAny_pure h⟩))) htake)
  | exact wpAny_bind (wpAny_bind (m:=Builtin.Tuple.tupleExact _) (wpAny_newObj_type (wpAny_pure (wpAny_pure ⟨_,rfl,wpAny_pure h⟩)) htake))
  | exact wpAny_bind (wpAny_bind (m:=Builtin.Tuple.tupleExact _) (wpAny_newObj_type (wpAny_pure ⟨_,rfl,wpAny_pure h⟩) htake))
end
end HT
namespace L2
open PySem PySem.Spec PyProof.Rows
abbrev TO:=St->Hp->(Option Int->Hp->Prop)->Prop
def PO (X:Cx) (e:Option Expr) (t:TO):Prop :=
 ∀(pins:List (Addr × Obj)) (s:Shared) (σ:St) (H:Hp) (Q:Option Int->Hp->Prop),Inv X pins σ H s->t σ H Q ->
  wpAny (model X.prog X.w) X.A (evalPart e X.env) (λ u s'=>∃o H',Inv X pins σ H' s'/\IsPart u o/\Q o H') X.xe s
def tNoPart:TO:=λ _ H Q=>Q none H
def tPart (t:TE):TO:=λ σ H Q=>t σ H λ x H1=>∃i,x=.int i/\Q (some i) H1
theorem z5s {ns:List Int}:∀ {us:List Value},Vals (ns.map V.int) us->IntsAre us ns:=by
 induction ns with
 | nil=>intro us r;rw [List.map_nil] at r;cases r;exact .nil
 | cons n ns ih =>
  intro us r
  rw [List.map_cons] at r
  cases r with
  | cons r1 r2 =>
   obtain ⟨t,e⟩:=r1
   subst e
   exact .cons n t (ih r2)
section
variable {X:Cx}{e:Expr}{te:TE}{lo hi:Option Expr}{tl th:TO}{pos p2:Pos}
theorem z2l:PO X none tNoPart:=by
 intro pins s σ H Q I h
 rw [evalPart_none]
 exact wpAny_pure ⟨none,H,I,.none,h⟩
theorem z2k (h:PE X e te):PO X (some e) (tPart te):=by
 intro pins s σ H Q I hw
 rw [evalPart_some]
 refine thn (h pins s σ H _ I hw) λ u s1 ⟨x,H1,I1,r1,q1⟩=>?_
 obtain ⟨i,rfl,q⟩:=q1
 obtain ⟨t,rfl⟩:=r1
 exact ⟨some i,H1,I1,.int i t,q⟩
def SlR (X:Cx) (r:V->Option Int->Option Int->Hp->VK->Prop):Prop :=
 ∀(pins:List (Addr × Obj)) (s:Shared) (σ:St) (H:Hp) (x:V) (v vl vu:Value) (lo hi:Option Int) (sl:Addr) (Q:VK),Inv X pins σ H s->RelV x v->s.heap.IsSliceOf sl vl vu .none->IsPart vl lo->IsPart vu hi->r x lo hi H Q ->
  ∃T id,typeLookup (.type T) "__getitem__" = pure (some (.builtin id))/\s.TypeIs v T/\wpAny (model X.prog X.w) X.A (getItem v (.ref sl)) (EP X pins σ Q) X.xe s
theorem SlR.or {r r':V->Option Int->Option Int->Hp->VK->Prop}(h:SlR X r) (h':SlR X r'):SlR X (λ x lo hi H Q=>r x lo hi H Q\/r' x lo hi H Q):=by
 intro pins s σ H x v vl vu lo hi sl Q I rx hs pl pu q
 rcases q with q | q
 ·exact h pins s σ H x v vl vu lo hi sl Q I rx hs pl pu q
 ·exact h' pins s σ H x v vl vu lo hi sl Q I rx hs pl pu q
def tSl (r:V->Option Int->Option Int->Hp->VK->Prop) (te:TE) (tl th:TO):TE:=λ σ H Q=>te σ H λ x H1=>tl σ H1 λ l H2=>th σ H2 λ u H3=>r x l u H3 Q
theorem z1v {r:V->Option Int->Option Int->Hp->VK->Prop}(hr:SlR X r) (he:PE X e te) (hl:PO X lo tl) (hu:PO X hi th):PE X (.Subscript e (.Slice lo hi none p2) pos) (tSl r te tl th):=by
 intro pins s σ H Q I h
 refine Subscript_ (thn (he pins s σ H _ I h) λ v s1 ⟨x,H1,I1,r1,q1⟩=>?_)
 refine wpAny_Slice (thn (hl pins s1 σ H1 _ I1 q1) λ vl s2 ⟨l,H2,I2,pl,q2⟩=>thn (hu pins s2 σ H2 _ I2 q2) λ vu s3 ⟨u,H3,I3,pu,q3⟩=>?_)
 rw [evalPart_none]
 refine wpAny_pure ?_
 have I4:Inv X pins σ H3 { s3 with heap:=s3.heap.push { cls:=.type "slice",data:=.fields #[vl,vu,.none] } }:=I3.kept (t':=s3.toks) λ b ob q=>Heap.get?_push_of_some _ q
 obtain ⟨T,id,hT,ht,hg⟩:=hr pins { s3 with heap:=s3.heap.push { cls:=.type "slice",data:=.fields #[vl,vu,.none] } } σ H3 x v vl vu l u s3.heap.objs.size Q I4 r1 (Heap.IsSliceOf.new ..) pl pu q3
 show wpAny (model X.prog X.w) X.A (subscriptTail e (.Slice lo hi none p2) v (.ref s3.heap.objs.size)) (EP X pins σ Q) X.xe { s3 with heap:=s3.heap.push { cls:=.type "slice",data:=.fields #[vl,vu,.none] } }
 exact tail_any (ops:=[.ref s3.heap.objs.size,v]) ht hT hg (by with_unfolding_all rfl)
def cutV (xs:List V) (lo hi:Option Int):List V:=(xs.drop (HT.sIx xs.length 0 lo)).take (HT.sIx xs.length xs.length hi - HT.sIx xs.length 0 lo)
theorem y1o (xs:List V) (lo hi:Option Int):(cutV xs lo hi).length≤xs.length:=by
 unfold cutV
 rw [List.length_take,List.length_drop]
 omega
def rSlT (K:W.Frag):V->Option Int->Option Int->Hp->VK->Prop:=λ x lo hi H Q=>∃a xs,x=.ref a/\SqT K H a xs /\
 ¬(HT.sIx xs.length 0 lo=0/\HT.sIx xs.length xs.length hi=xs.length)/\∀p,H p=none->Q (.ref p) (upd H p (.tup (cutV xs lo hi)))
theorem x4c:SlR X (rSlT X.K):=by
 intro pins s σ H x v vl vu lo hi sl Q I rx hs pl pu h
 obtain ⟨a,xs,rfl,hx,hw,q⟩:=h
 cases rx
 obtain ⟨its,r,ht,hz⟩:=I.tuple hx
 have hlen:its.toArray.size=xs.length:=by rw [List.size_toArray];exact r.length.symm
 refine ⟨"tuple",_,PyProof.Rows.slot_tuple_getitem.lookup,ht.typeIs,?_⟩
 refine HT.getItem_tuple_cut ht hs pl pu (by rw [hlen];exact hw) ?_ (by rw [hlen];exact hz)
 rw [hlen]
 refine ⟨.ref s.heap.objs.size,_,I.laid (t':=s.toks) (o:=.tup (cutV xs lo hi)) (λ b ob q=>Heap.get?_push_of_some _ q) (Nat.le_refl _) ?_,rfl,q _ (I.hok.fresh (Nat.le_refl _))⟩
 exact ⟨Nat.le_trans (y1o xs lo hi) hz,_,(r.drop (HT.sIx xs.length 0 lo)).take (HT.sIx xs.length xs.length hi - HT.sIx xs.length 0 lo),IsTup.new _ _⟩
def rCatT (K:W.Frag):R2:=λ x y H Q=>∃a b xs ys,x=.ref a/\y=.ref b/\SqT K H a xs/\SqT K H b ys/\xs≠[]/\xs.length+ys.length≤sizeLine /\
 (ys=[]->Q (.ref a) H)/\(ys≠[]->∀p,H p=none->Q (.ref p) (upd H p (.tup (xs++ys))))
theorem Vals.nil_iff {xs:List V}{us:List Value}(r:Vals xs us):us=[] ↔ xs=[]:=by
 cases r with
 | nil=>simp
 | cons _ _=>simp
theorem x2u:OpR X (binaryOp .Add) (rCatT X.K):=by
 intro pins s σ H x y v u Q I rx ry h
 obtain ⟨a,b,xs,ys,rfl,rfl,ha,hb,hx,hz,q1,q2⟩:=h
 cases rx
 cases ry
 obtain ⟨its,r1,p1,_⟩:=I.tuple ha
 obtain ⟨its2,r2,p2,_⟩:=I.tuple hb
 refine HT.cat_tup p1 p2 (λ z=>hx (r1.nil_iff.mp z)) (λ z=>⟨.ref a,H,I,rfl,q1 (r2.nil_iff.mp z)⟩) (λ z=>?_) (by rw [← r1.length,← r2.length];exact hz)
 refine ⟨.ref s.heap.objs.size,_,I.laid (t':=s.toks) (o:=.tup (xs++ys)) (λ b ob q=>Heap.get?_push_of_some _ q) (Nat.le_refl _) ?_,rfl,q2 (λ w=>z (r2.nil_iff.mpr w)) _ (I.hok.fresh (Nat.le_refl _))⟩
 exact ⟨by rw [List.length_append];exact hz,_,r1.append r2,IsTup.new _ _⟩
end
def ixN (n:Nat) (i:Int):Option Nat:=if 0≤i then (if i < n then some i.toNat else none) else if -(n:Int)≤i then some (i+n).toNat else none
def atI {α:Type}(xs:List α) (i:Int):Option α:=(ixN xs.length i).bind λ j=>xs[j]?
theorem y7g {n:Nat}{i:Int}{j:Nat}(h:ixN n i=some j):seqIndex? i n=some j/\j < n/\-(n:Int)≤i/\i < n:=by
 unfold ixN at h
 by_cases h0:0≤i
 ·rw [if_pos h0] at h
  by_cases h1:i < n
  ·rw [if_pos h1] at h
   have e:i.toNat=j:=Option.some.inj h
   exact ⟨by rw [seqIndex_of h0 h1,e],by omega,by omega,h1⟩
  ·rw [if_neg h1] at h;cases h
 ·rw [if_neg h0] at h
  by_cases h1:-(n:Int)≤i
  ·rw [if_pos h1] at h
   have e:(i+n).toNat=j:=Option.some.inj h
   exact ⟨by rw [seqIndex_neg (by omega) h1,e],by omega,h1,by omega⟩
  ·rw [if_neg h1] at h;cases h
theorem y8v {α:Type}{xs:List α}{i:Int}{v:α}(h:atI xs i=some v):∃j,seqIndex? i xs.length=some j/\xs[j]?=some v/\j < xs.length/\-(xs.length:Int)≤i/\i < xs.length:=by
 unfold atI at h
 cases e:ixN xs.length i with
 | none=>rw [e] at h;cases h
 | some j =>
  rw [e] at h
  obtain ⟨h1,h2,h3,h4⟩:=y7g e
  exact ⟨j,h1,h,h2,h3,h4⟩
theorem z0v {α:Type}{xs:List α}{j:Nat}{v:α}(h:xs[j]?=some v):atI xs (j:Int)=some v:=by
 have hj:j < xs.length:=(List.getElem?_eq_some_iff.mp h).1
 have e:ixN xs.length (j:Int)=some j:=by
  unfold ixN
  rw [if_pos (by omega),if_pos (by omega)];simp
 unfold atI;rw [e];exact h
def PlainIx (b:Expr):Prop:=∀o i,subscripted b false o i=operate [o,i] (getItem o i)
def IxR (X:Cx) (r:R2):Prop :=
 ∀(value slice:Expr) (pins:List (Addr × Obj)) (s:Shared) (σ:St) (H:Hp) (x y:V) (v u:Value) (Q:VK),Inv X pins σ H s->RelV x v->RelV y u->r x y H Q ->
  subscripted slice false v u=operate [v,u] (getItem v u)->wpAny (model X.prog X.w) X.A (subscriptTail value slice v u) (EP X pins σ Q) X.xe s
def MtR (X:Cx) (id:String) (r:V->List V->Hp->VK->Prop):Prop :=
 ∀(pins:List (Addr × Obj)) (s:Shared) (σ:St) (H:Hp) (x:V) (xs:List V) (v:Value) (us:List Value) (Q:VK),Inv X pins σ H s->RelV x v->Vals xs us->r x xs H Q ->
  wpAny (model X.prog X.w) X.A (call (.builtin id) (v::us)) (EP X pins σ Q) X.xe s
section
variable {X:Cx}{a b:Expr}{ta tb:TE}{pos:Pos}
theorem IxR.or {r r':R2}(h:IxR X r) (h':IxR X r'):IxR X (λ x y H Q=>r x y H Q\/r' x y H Q):=by
 intro value slice pins s σ H x y v u Q I rx ry q hs
 rcases q with q | q
 ·exact h value slice pins s σ H x y v u Q I rx ry q hs
 ·exact h' value slice pins s σ H x y v u Q I rx ry q hs
theorem MtR.or {id:String}{r r':V->List V->Hp->VK->Prop}(h:MtR X id r) (h':MtR X id r'):MtR X id (λ x xs H Q=>r x xs H Q\/r' x xs H Q):=by
 intro pins s σ H x xs v us Q I rx rs q
 rcases q with q | q
 ·exact h pins s σ H x xs v us Q I rx rs q
 ·exact h' pins s σ H x xs v us Q I rx rs q
theorem z1c {r:R2}(hr:IxR X r) (ha:PE X a ta) (hb:PE X b tb) (hs:PlainIx b):PE X (.Subscript a b pos) (tOp r ta tb):=by
 intro pins s σ H Q I h
 exact Subscript_ (x7g ha hb I h λ v u s2 x y H2 I2 rx ry q=>hr a b pins s2 σ H2 x y v u Q I2 rx ry q (hs _ _))
def rIxL (K:W.Frag):R2:=λ x y H Q=>∃p xs i v,x=.ref p/\y=.int i/\SqL K H p xs/\atI xs i=some v/\Q v H
def rIxT (K:W.Frag):R2:=λ x y H Q=>∃p xs i v,x=.ref p/\y=.int i/\SqT K H p xs/\atI xs i=some v/\Q v H
theorem z6x:IxR X (rIxL X.K):=by
 intro value slice pins s σ H x y v u Q I rx ry h hs
 obtain ⟨p,xs,i,z,rfl,rfl,hq,he,q⟩:=h
 cases rx
 obtain ⟨t,rfl⟩:=ry
 obtain ⟨its,r,pl,hz⟩:=I.list hq
 obtain ⟨j,h1,h2,h3,h4,h5⟩:=y8v he
 obtain ⟨w,ew,rw'⟩:=r.get h2
 have hl:=r.length
 have hn:=y2r
 have fin:EP X pins σ Q w s:=⟨z,H,I,rw',q⟩
 by_cases h0:0≤i
 ·have hj:i.toNat=j:=by
   rw [seqIndex_of h0 h5] at h1
   exact Option.some.inj h1
  exact item_listR pl.isList h0 (by omega) (by rw [hj];simpa using ew) fin hs
 ·have hj:(i+(its.toArray.size:Int)).toNat=j:=by
   rw [seqIndex_neg (by omega) h4] at h1
   rw [List.size_toArray,← hl]
   exact Option.some.inj h1
  exact subscriptTail_builtinR (x:=w) pl.isList.typeIs slot_list_getitem.lookup
   (wpAny_getItem_list_neg (Q:=λ r s'=>r=w/\EP X pins σ Q r s') pl.isList (by omega) (by rw [List.size_toArray]<;>omega) (by omega) (by rw [hj];simpa using ew) ⟨rfl,fin⟩) hs
theorem x5v:IxR X (rIxT X.K):=by
 intro value slice pins s σ H x y v u Q I rx ry h hs
 obtain ⟨p,xs,i,z,rfl,rfl,hq,he,q⟩:=h
 cases rx
 obtain ⟨t,rfl⟩:=ry
 obtain ⟨its,r,pl,hz⟩:=I.tuple hq
 obtain ⟨j,h1,h2,h3,h4,h5⟩:=y8v he
 obtain ⟨w,ew,rw'⟩:=r.get h2
 have hl:=r.length
 have hn:=y2r
 have fin:EP X pins σ Q w s:=⟨z,H,I,rw',q⟩
 exact subscriptTail_builtinR (x:=w) pl.typeIs slot_tuple_getitem.lookup
  (getItem_tuple (j:=j) (Q:=λ r s'=>r=w/\EP X pins σ Q r s') pl (by omega) (by omega) (by rw [List.size_toArray,← hl];exact h1) (by simpa using ew) ⟨rfl,fin⟩) hs
theorem y4c (its:List Value) (n j:Nat) (u:Value):Obj.mapSeq (·.setIfInBounds j u) { cls:=.type "list",data:=.seq its.toArray n }={ cls:=.type "list",data:=.seq (its.set j u).toArray n }:=by
 simp [Obj.mapSeq]
theorem Inv.lst {pins:List (Addr × Obj)}{σ:St}{H:Hp}{s:Shared}{p:Addr}{xs:List V}(I:Inv X pins σ H s) (h:H p=some (.lst xs)) :
  ∃(its:List Value) (n:Nat),Vals xs its/\s.heap.get? p=some { cls:=.type "list",data:=.seq its.toArray n }/\xs.length≤sizeLine:=by
 obtain ⟨z,its,n,r,e⟩:=I.hok p _ h
 exact ⟨its,n,r,e,z⟩
theorem Inv.lstUpd {pins:List (Addr × Obj)}{σ:St}{H:Hp}{s:Shared}{p:Addr}{xs ys:List V}{its its':List Value}{n n':Nat}{f:Obj->Obj}(I:Inv X pins σ H s) (h:H p=some (.lst xs))
  (ho:s.heap.get? p=some { cls:=.type "list",data:=.seq its.toArray n }) (hf:f { cls:=.type "list",data:=.seq its.toArray n }={ cls:=.type "list",data:=.seq its'.toArray n' }) (r:Vals ys its') (hz:ys.length≤sizeLine) (t:Nat) :
  Inv X pins σ (upd H p (.lst ys)) { s with heap:=s.heap.update p f,toks:=t }:=by
 have e:(s.heap.update p f).get? p=some { cls:=.type "list",data:=.seq its'.toArray n' }:=by
  rw [Heap.get?_update_self f ho (by rw [hf]<;>rfl),hf]
 refine I.write (x:=p) (e:=p) (by rw [h];trivial) (.inl rfl) (λ b u hb q=>(Heap.get?_update_other _ _ (Ne.symm hb)).trans q) ⟨_,e⟩ ?_
 exact ⟨hz,its',n',r,e⟩
def rSetL:V->V->V->Hp->(Hp->Prop)->Prop:=λ o i v H Q=>∃p xs k j,o=.ref p/\i=.int k/\H p=some (.lst xs)/\ixN xs.length k=some j/\Q (upd H p (.lst (xs.set j v)))
theorem y2b:PSet X rSetL:=by
 intro pins s σ H o i v ov iv u Q I ro ri rv h
 obtain ⟨p,xs,k,j,rfl,rfl,hp,hj,q⟩:=h
 cases ro
 obtain ⟨t,rfl⟩:=ri
 obtain ⟨its,n,r,ho,hz⟩:=I.lst hp
 obtain ⟨h1,h2,h3,h4⟩:=y7g hj
 have hl:=r.length
 have hn:=y2r
 have I':Inv X pins σ (upd H p (.lst (xs.set j v))) { s with heap:=s.heap.update p (Obj.mapSeq (·.setIfInBounds j u)) } :=
  I.lstUpd hp ho (y4c its n j u) (r.set rv j) (by rw [List.length_set];exact hz) s.toks
 by_cases h0:0≤k
 ·have hk:k.toNat=j:=by
   rw [seqIndex_of h0 h4] at h1
   exact Option.some.inj h1
  exact W.ki_setAt ho h0 (by omega) (by rw [List.size_toArray,← hl];exact h4) (by rw [hk];exact ⟨_,I',q⟩)
 ·have hk:(k+(its.toArray.size:Int)).toNat=j:=by
   rw [seqIndex_neg (by omega) h3] at h1
   rw [List.size_toArray,← hl]
   exact Option.some.inj h1
  exact W.ki_setBack ho (by omega) (by rw [List.size_toArray,← hl];exact h3) (by omega) (by rw [hk];exact ⟨_,I',q⟩)
def flatV:V->Bool
 | .non=>true
 | .bl _=>true
 | .int _=>true
 | .str _=>true
 | _=>false
def eqV:V->V->Bool
 | .non,.non=>true
 | .bl a,.bl b=>a == b
 | .bl a,.int b=>(if a then 1 else 0) == b
 | .int a,.bl b=>a == (if b then 1 else 0)
 | .int a,.int b=>a == b
 | .str a,.str b=>a == b
 | _,_=>false
theorem x1y {A:Around}{s:Shared}{y x:V}{u v:Value}(ry:RelV y u) (rx:RelV x v) (fy:flatV y=true) (fx:flatV x=true):SeqAt.EqAt A s u v (eqV y x):=by
 cases y with
 | non =>
  cases ry
  cases x with
  | non=>cases rx;exact SeqAt.EqAt.same _
  | bl b=>cases rx;exact SeqAt.EqAt.none_bool b
  | int b=>obtain ⟨t,rfl⟩:=rx;exact SeqAt.EqAt.none_int b t
  | str b=>obtain ⟨t,rfl⟩:=rx;exact SeqAt.EqAt.none_str b t
  | _=>exact absurd (show false=true from fx) Bool.false_ne_true
 | bl a =>
  cases ry
  cases x with
  | non=>cases rx;exact SeqAt.EqAt.bool_none a
  | bl b=>cases rx;exact SeqAt.EqAt.bool_bool a b
  | int b=>obtain ⟨t,rfl⟩:=rx;exact SeqAt.EqAt.bool_int a b t
  | str b=>obtain ⟨t,rfl⟩:=rx;exact SeqAt.EqAt.bool_str a b t
  | _=>exact absurd (show false=true from fx) Bool.false_ne_true
 | int a =>
  obtain ⟨t',rfl⟩:=ry
  cases x with
  | non=>cases rx;exact SeqAt.EqAt.int_none a t'
  | bl b=>cases rx;exact SeqAt.EqAt.int_bool a t' b
  | int b=>obtain ⟨t,rfl⟩:=rx;exact SeqAt.EqAt.int_int a t' b t
  | str b=>obtain ⟨t,rfl⟩:=rx;exact SeqAt.EqAt.int_str a t' b t
  | _=>exact absurd (show false=true from fx) Bool.false_ne_true
 | str a =>
  obtain ⟨t',rfl⟩:=ry
  cases x with
  | non=>cases rx;exact SeqAt.EqAt.str_none a t'
  | bl b=>cases rx;exact SeqAt.EqAt.str_bool a t' b
  | int b=>obtain ⟨t,rfl⟩:=rx;exact SeqAt.EqAt.str_int a t' b t
  | str b=>obtain ⟨t,rfl⟩:=rx;exact SeqAt.EqAt.str_str a t' b t
  | _=>exact absurd (show false=true from fx) Bool.false_ne_true
 | _=>exact absurd (show false=true from fy) Bool.false_ne_true
def eqU (x:V) (u:Value):Bool:=match u with
 | .none=>eqV .non x
 | .bool b=>eqV (.bl b) x
 | .int i _=>eqV (.int i) x
 | .str z _=>eqV (.str z) x
 | _=>false
theorem y7w {x y:V}{u:Value}(r:RelV y u) (f:flatV y=true):eqU x u=eqV y x:=by
 cases y with
 | non=>cases r;rfl
 | bl b=>cases r;rfl
 | int i=>obtain ⟨t,rfl⟩:=r;rfl
 | str z=>obtain ⟨t,rfl⟩:=r;rfl
 | _=>exact absurd (show false=true from f) Bool.false_ne_true
theorem y1t {x:V}:∀ {xs:List V}{us:List Value},Vals xs us->xs.all flatV=true->us.any (eqU x)=xs.any λ y=>eqV y x
 | _,_,.nil,_=>rfl
 | y::xs,u::us,.cons r t,f=>by
  rw [List.all_cons,Bool.and_eq_true] at f
  rw [List.any_cons,List.any_cons,y7w r f.1,y1t t f.2]
theorem z5h {A:Around}{s:Shared}{x:V}{v:Value}(rx:RelV x v) (fx:flatV x=true):∀ {xs:List V}{us:List Value},Vals xs us->xs.all flatV=true->∀u∈us,SeqAt.EqAt A s u v (eqU x u)
 | _,_,.nil,_=>λ u hu=>by cases hu
 | y::xs,u::us,.cons r t,f=>λ u' hu=>by
  rw [List.all_cons,Bool.and_eq_true] at f
  rcases List.mem_cons.mp hu with rfl | hu
  ·rw [y7w r f.1];exact x1y r rx f.1 fx
  ·exact z5h rx fx t f.2 u' hu
def inV (x:V) (xs:List V):Bool:=xs.any λ y=>eqV y x
def rIn (K:W.Frag) (neg:Bool):R2:=λ x y H Q=>∃p xs,y=.ref p/\(SqL K H p xs\/SqT K H p xs)/\flatV x=true/\xs.all flatV=true/\Q (.bl (if neg then !inV x xs else inV x xs)) H
theorem y6f:OpR X (compareOp .In) (rIn X.K false):=by
 intro pins s σ H x y v u Q I rx ry h
 obtain ⟨p,xs,rfl,hq,fx,fs,q⟩:=h
 cases ry
 rcases hq with hq | hq
 ·obtain ⟨its,r,pl,hz⟩:=I.list hq
  refine SeqAt.in_listAt (eqU x) pl.isList (λ w hw=>z5h rx fx r fs w (by simpa using hw)) ⟨.bl _,H,I,rfl,?_⟩
  rw [show its.toArray.any (eqU x)=its.any (eqU x) by simp,y1t r fs]
  exact q
 ·obtain ⟨its,r,pl,hz⟩:=I.tuple hq
  refine SeqAt.in_tupleAt (eqU x) pl (λ w hw=>z5h rx fx r fs w (by simpa using hw)) ⟨.bl _,H,I,rfl,?_⟩
  rw [show its.toArray.any (eqU x)=its.any (eqU x) by simp,y1t r fs]
  exact q
theorem z0m:CallR X (.builtin "len") (λ xs H Q=>∃p ys,xs=[.ref p]/\(SqL X.K H p ys\/SqT X.K H p ys)/\Q (.int ys.length) H):=by
 intro pins s σ H xs us Q I r h
 obtain ⟨p,ys,rfl,hq,q⟩:=h
 obtain ⟨u,rfl,rx⟩:=z4r r
 cases rx
 have hn:=y2r
 rcases hq with hq | hq
 ·obtain ⟨its,r',pl,hz⟩:=I.list hq
  have hlen:=r'.length
  exact Calls.call_len_list pl.isList (by simp only [List.size_toArray]<;>omega) ⟨.int ys.length,H,I.tok _,⟨s.toks+1,by rw [List.size_toArray,hlen]⟩,q⟩
 ·obtain ⟨its,r',pl,hz⟩:=I.tuple hq
  have hlen:=r'.length
  exact len_tuple pl (by simp only [List.size_toArray]<;>omega) ⟨.int ys.length,H,I.tok _,⟨s.toks+1,by rw [List.size_toArray,hlen]⟩,q⟩
theorem CallR.or {f:Value}{r r':List V->Hp->VK->Prop}(h:CallR X f r) (h':CallR X f r'):CallR X f (λ xs H Q=>r xs H Q\/r' xs H Q):=by
 intro pins s σ H xs us Q I rs q
 rcases q with q | q
 ·exact h pins s σ H xs us Q I rs q
 ·exact h' pins s σ H xs us Q I rs q
theorem z1n:CallR X (.type "tuple") (λ xs H Q=>∃p ys,xs=[.ref p]/\((SqL X.K H p ys/\∀l,H l=none->Q (.ref l) (upd H l (.tup ys)))\/(SqT X.K H p ys/\Q (.ref p) H))):=by
 intro pins s σ H xs us Q I r h
 obtain ⟨p,ys,rfl,h⟩:=h
 obtain ⟨u,rfl,rx⟩:=z4r r
 cases rx
 rcases h with ⟨hq,q⟩ | ⟨hq,q⟩
 ·obtain ⟨its,r',pl,hz⟩:=I.list hq
  have hlen:=r'.length
  refine call_tuple_list pl.isList (λ h' kp=>?_) (by simp only [List.size_toArray]<;>omega)
  have I1:Inv X pins σ H { s with heap:=h' }:=I.kept (t':=s.toks) kp
  have I2:Inv X pins σ (upd H h'.objs.size (.tup ys)) { s with heap:=h'.push { cls:=.type "tuple",data:=.seq its.toArray } } :=
   I1.laid (t':=s.toks) (λ b o e=>Heap.get?_push_of_some _ e) (Nat.le_refl _) (show ObjOk X.prog X.w _ _ _ (.tup ys) from ⟨hz,its,r',IsTup.new _ _⟩)
  exact ⟨.ref h'.objs.size,_,I2,rfl,q _ (I1.hok.fresh (Nat.le_refl _))⟩
 ·obtain ⟨its,r',pl,hz⟩:=I.tuple hq
  exact call_tuple_same pl ⟨.ref p,H,I,rfl,q⟩
def tyV (K:W.Frag) (T:String) (x:V) (H:Hp):Prop:=match x with
 | .str _=>T = "str"
 | .int _=>T = "int"
 | .ref p=>(T = "list" /\ ∃xs,SqL K H p xs)\/(T = "tuple" /\ ∃o,K.lookup p=some o/\o.cls=.type "tuple" /\ o.dict=none) \/
   (T = "dict" /\ ((∃kvs,H p=some (.dK kvs))\/∃kvs,H p=some (.dT kvs)))\/(T = "set" /\ ∃S n,H p=some (.set S n))
 | _=>False
theorem x1j {pins:List (Addr × Obj)}{σ:St}{H:Hp}{s:Shared}{T:String}{x:V}{v:Value}(I:Inv X pins σ H s) (r:RelV x v) (ty:tyV X.K T x H) :
  s.TypeIs v T/\∀a,v=.ref a->∃ob,s.heap.get? a=some ob/\ob.dict=none:=by
 cases x with
 | str z =>
  obtain ⟨t,rfl⟩:=r
  cases (show T = "str" from ty)
  exact ⟨typeIs_str s z t,λ _ e=>nomatch e⟩
 | int i =>
  obtain ⟨t,rfl⟩:=r
  cases (show T = "int" from ty)
  exact ⟨typeIs_int s i t,λ _ e=>nomatch e⟩
 | ref p =>
  cases r
  rcases ty with ⟨rfl,xs,hq⟩ | ⟨rfl,o,hk,hc,hd⟩ | ⟨rfl,hk⟩ | ⟨rfl,S,n,hk⟩
  ·obtain ⟨its,_,pl,_⟩:=I.list hq
   refine ⟨pl.isList.typeIs,λ a e=>?_⟩
   cases e
   obtain ⟨o,n,e,c,hd,_⟩:=pl
   exact ⟨o,e,hd⟩
  ·refine ⟨⟨o,I.kIn p o hk,hc⟩,λ a e=>?_⟩
   cases e
   exact ⟨o,I.kIn _ o hk,hd⟩
  ·have z:∃o,s.heap.get? p=some o/\o.ExactDict:=by
    rcases hk with ⟨kvs,hk⟩ | ⟨kvs,hk⟩
    ·obtain ⟨_,_,_,_,o,_,_,e,ex,_⟩:=I.hok p _ hk
     exact ⟨o,e,ex⟩
    ·obtain ⟨_,_,_,_,o,_,_,e,ex,_⟩:=I.hok p _ hk
     exact ⟨o,e,ex⟩
   obtain ⟨o,e,ex⟩:=z
   refine ⟨⟨o,e,ex.1⟩,λ a e2=>?_⟩
   cases e2
   exact ⟨o,e,ex.2.1⟩
  ·obtain ⟨o,_,_,_,e,ex,_⟩:=I.hok p _ hk
   refine ⟨⟨o,e,ex.1⟩,λ a e2=>?_⟩
   cases e2
   exact ⟨o,e,ex.2.1⟩
 | _=>exact False.elim ty
def tBM0 (K:W.Frag) (T:String) (r:V->List V->Hp->VK->Prop) (to:TE):TE:=λ σ H Q=>to σ H λ x H1=>tyV K T x H1/\r x [] H1 Q
def tBM (K:W.Frag) (T:String) (r:V->List V->Hp->VK->Prop) (to:TE) (t:TA):TE:=λ σ H Q=>to σ H λ x H1=>tyV K T x H1/\t σ H1 λ xs H2=>r x xs H2 Q
variable {o e:Expr}{es:List Expr}{to:TE}{t:TA}{name:Str}{apos cpos:Pos}{T id:String}{r:V->List V->Hp->VK->Prop}
theorem x6v (pa:PlainAttrs T) (slot:Slot T name id) (hty:typeOf (.builtin id)=pure (.type "method_descriptor")) (hm:MtR X id r) (ho:PE X o to) (ha:PA X (e::es) t)
  (hbase:attributeBase o name X.env (eval o X.env)=eval o X.env:=by rfl)
  (hfew:((backTo cpos (starEach (e::es) X.env)).all (λ x=>!x.1) && (backToKw cpos (keywordEach [] X.env)).all (λ x=>x.1.isSome)
   && decide ((e::es).length+([]:List Keyword).length+(if ([]:List Keyword).isEmpty then 0 else 1) < 30))=true:=by rfl)
  (hline:(apos.endLine == cpos.line)=true:=by rfl) (hs:starEach (e::es) X.env=(false,eval e X.env)::starEach es X.env:=by rfl) (hplain:(backTo cpos (starEach es X.env)).any (·.1)=false:=by rfl) :
  PE X (.Call (.Attribute o name apos) (e::es) [] cpos) (tBM X.K T r to t):=by
 intro pins s σ H Q I h
 refine wpAny_Call_method_late hbase hfew hline rfl (thn (ho pins s σ H _ I h) λ v s1 ⟨x,H1,I1,r1,ty,q1⟩=>?_)
 obtain ⟨h1,h2⟩:=x1j I1 r1 ty
 refine ⟨T,id,pa,slot,hty,h1,h2,?_⟩
 have hA:=ha cpos pins s1 σ H1 _ I1 q1
 rw [hs] at hA ⊢
 refine Calls.callWith_builtin (by show (false || (backTo cpos (starEach es X.env)).any (·.1))=false;rw [hplain]<;>rfl) (Calls.evalArgs_plain ?_)
 exact thn hA λ us s2 ⟨vs,H2,I2,r2,q2⟩=>hm pins s2 σ H2 x vs v us Q I2 r1 r2 q2
end
def MtM (X:Cx) (id:String) (r:V->List V->Hp->VK->Prop):Prop :=
 ∀(pins:List (Addr × Obj)) (s:Shared) (σ:St) (H:Hp) (x:V) (xs:List V) (v:Value) (us:List Value) (Q:VK),Inv X pins σ H s->RelV x v->Vals xs us->r x xs H Q ->
  wpAny (model X.prog X.w) X.A (call (.builtin id) (v::us)) (EP X pins σ Q) X.xe s
theorem Vals.one:∀ {x:V}{us:List Value},Vals [x] us->∃u,us=[u]/\RelV x u
 | _,_,.cons r .nil=>⟨_,rfl,r⟩
theorem Vals.zero:∀ {us:List Value},Vals [] us->us=[]
 | _,.nil=>rfl
theorem Vals.eraseIdx:∀ {xs:List V}{us:List Value}(i:Nat),Vals xs us->Vals (xs.eraseIdx i) (us.eraseIdx i)
 | _,_,_,.nil=>.nil
 | _,_,0,.cons _ t=>t
 | _,_,i+1,.cons r t=>.cons r (Vals.eraseIdx i t)
theorem Vals.reverse {xs:List V}{us:List Value}(h:Vals xs us):Vals xs.reverse us.reverse:=by
 induction h with
 | nil=>exact .nil
 | cons r t ih=>rw [List.reverse_cons,List.reverse_cons];exact Vals.append ih (.cons r .nil)
section
variable {X:Cx}{pins:List (Addr × Obj)}{σ:St}{H:Hp}{s:Shared}{l b:Addr}{xs ys zs:List V}
theorem Inv.lset {its its':List Value}{n:Nat}{f:Array Value->Array Value}{t':Nat}(I:Inv X pins σ H s) (hH:H l=some (.lst xs))
  (e:s.heap.get? l=some { cls:=.type "list",data:=.seq its.toArray n }) (hf:f its.toArray=its'.toArray) (hv:Vals ys its') (hz:ys.length≤sizeLine) :
  Inv X pins σ (upd H l (.lst ys)) { s with heap:=s.heap.update l (Obj.mapSeq f),toks:=t' }:=by
 have q:=PySem.IsL.update e f
 rw [hf] at q
 refine I.write (x:=l) (e:=l) (by rw [hH];exact trivial) (.inl rfl) (λ b' u hb hu=>(Heap.get?_update_other s.heap (Obj.mapSeq f) (Ne.symm hb)).trans hu) ⟨_,q⟩ ?_
 exact ⟨hz,its',_,hv,q⟩
theorem Inv.fresh (I:Inv X pins σ H s):H s.heap.objs.size=none:=I.hok.fresh (Nat.le_refl _)
theorem Inv.lstM (I:Inv X pins σ H s) (hH:H l=some (.lst xs)):xs.length≤sizeLine/\∃(its:List Value) (n:Nat),Vals xs its/\xs.length=its.length/\s.heap.get? l=some { cls:=.type "list",data:=.seq its.toArray n }:=by
 obtain ⟨z,its,n,r,e⟩:=I.hok l _ hH
 exact ⟨z,its,n,r,r.length,e⟩
end
section
variable {X:Cx}
def rAppend:V->List V->Hp->VK->Prop:=λ x vs H Q=>∃l xs y,x=.ref l/\vs=[y]/\H l=some (.lst xs)/\xs.length < sizeLine/\Q .non (upd H l (.lst (xs++[y])))
theorem y6u:MtM X "list.append" rAppend:=by
 intro pins s σ H x vs v us Q I rx rv h
 obtain ⟨l,xs,y,rfl,rfl,hH,hz,q⟩:=h
 cases rx
 obtain ⟨u,rfl,ru⟩:=rv.one
 obtain ⟨z,its,n,r,hl,e⟩:=I.lstM hH
 refine call_meets F.slot_list_append ⟨_,e,rfl⟩ F.entry_list_append (F.args_list_append_2 _ _) (PySem.list_append l its.toArray n u (by rw [List.size_toArray];omega)) ⟨e,?_⟩
 refine ⟨.non,_,I.lset (its':=its++[u]) hH e (by simp) (r.append (.cons ru .nil)) ?_,rfl,q⟩
 rw [List.length_append,List.length_singleton]
 omega
def rExtend:V->List V->Hp->VK->Prop:=λ x vs H Q=>∃l b xs zs,x=.ref l/\vs=[.ref b]/\H l=some (.lst xs)/\H b=some (.lst zs)/\xs.length+zs.length≤sizeLine/\Q .non (upd H l (.lst (xs++zs)))
def rPopAt:V->List V->Hp->VK->Prop:=λ x vs H Q=>∃l xs i k y,x=.ref l/\vs=[.int i]/\H l=some (.lst xs)/\-(2 ^ 63)≤i/\i < 2 ^ 63/\seqIndex? i xs.length=some k/\xs[k]?=some y/\Q y (upd H l (.lst (xs.eraseIdx k)))
def rCat:R2:=λ x y H Q=>∃l b xs zs,x=.ref l/\y=.ref b/\H l=some (.lst xs)/\H b=some (.lst zs)/\xs.length+zs.length≤sizeLine/\∀p,H p=none->Q (.ref p) (upd H p (.lst (xs++zs)))
def rRep:R2:=λ x y H Q=>∃l k xs,x=.ref l/\y=.int k/\H l=some (.lst xs)/\-(2 ^ 63)≤k/\k < 2 ^ 63/\xs.length * k.toNat≤sizeLine /\
 ∀p,H p=none->Q (.ref p) (upd H p (.lst (List.replicate k.toNat xs).flatten))
end
section
variable {prog:Program}{w:World}{A:Around}{E:Value->Shared->Prop}{s:Shared}
end
section
variable {X:Cx}
end
end L2
namespace Att
open PySem PySem.W PySem.Calls PyProof.Rows
theorem z6y {P:Params}{h:Heap}:∀(ns:List Int) (vs:List Value),WellAll P h vs (ns.map WData.int)->IntsAre vs ns:=by
 intro ns
 induction ns with
 | nil =>
  intro vs w
  rw [List.map_nil] at w
  cases w
  exact .nil
 | cons n ns ih =>
  intro vs w
  rw [List.map_cons] at w
  cases w with
  | cons a b =>
   cases a
   exact .cons _ _ (ih _ b)
theorem y5i {l:OpenLaw}{n:Nat}(hn:l.most=some n) {P:Params}{h:Heap}{args:List WData}{vals:List Value}
  (hpre:l.row.toRowW.claim.pre args=true) (hwl:WellAll P h vals args) :
  ∃a vs ns,vals=[Value.ref a]/\args=[WData.list (ns.map WData.int)]/\h.get? a=some { cls:=.type "list",data:=.seq vs.toArray }/\IntsAre vs ns/\ns.length≤n:=by
 have hsh:WShape.hasAll [] args [.list .int]=true:=(pre_splitW hpre).1
 have hc:l.pre.holds [] { args:=args }=true:=(pre_splitW hpre).2
 obtain ⟨d,r,rfl,h1,h2⟩:=hasAllW_cons hsh
 obtain rfl:=hasAllW_nil h2
 obtain ⟨xs,rfl,h3⟩:=hasW_list h1
 obtain ⟨ns,rfl⟩:=items_int h3
 have hlen:ns.length≤n:=by
  unfold OpenLaw.pre at hc
  have h4:(WTm.not (.lt (.lit (.int (n:Int))) (.len (.arg 0)))).holds [] { args:=[.list (ns.map .int)] }=true:=by
   have h4:=(holds_andW hc).1
   rw [hn] at h4
   exact h4
  have h5:=condW_of h4 (w_not (w_lt w_lit (w_len_list (w_arg rfl))))
  rw [List.length_map] at h5
  refine Nat.le_of_not_lt λ q=>?_
  have q':(n:Int) < ((ns.length:Nat):Int):=by omega
  first
   | (rw [decide_eq_true q'] at h5;exact absurd h5 (by decide))
   | (simp at h5;omega)
 cases hwl with
 | cons w1 w2 =>
  cases w2
  cases w1 with
  | list ho hall=>exact ⟨_,_,ns,rfl,rfl,ho,z6y ns _ hall,hlen⟩
theorem y5x (l:OpenLaw) (args:List WData):l.row.toRowW.claim.post args (.bool true) args=true :=
 postW_of (r:=l.row.toRowW) (X:=(true == true))
  (show WShape.has [] (.bool true) .bool=true by first | rfl | decide | simp [WShape.has,WShape.arms,WShape.armsAll])
  (show (WTm.eq .res (.lit (.bool true))).value [] { args:=args,res:=some (.bool true),after:=args }=some (.bool (true == true)) from w_eq_bool (w_res rfl) w_lit) rfl
theorem attach_call {l:OpenLaw}{n:Nat}{q:Program}{loose:List Str}{XP:(Str->Option Value)->Heap->Prop}{YP:World->Heap->Prop}{d:DefRec}
  (hn:l.most=some n) (hdf:d.params.defaults=[])
  (call:∀(w:World) (s₀ s₁:Shared) (mg mb:Str->Option Value) (fa:Addr) (o:Obj) (pm cd doc:Value) (a:Addr) (vs:List Value) (ns:List Int),
   Ground q loose [] XP w s₀ mg mb s₁.heap->YP w s₁.heap ->
   s₁.heap.get? fa=some o->o.data=.func (docDef d.name d.params d.body d.scope pm cd doc)->s₁.heap.CodeRec cd d.name->mg d.name=some (.ref fa) ->
   s₁.heap.get? a=some { cls:=.type "list",data:=.seq vs.toArray }->IntsAre vs ns->ns.length≤n->s₁.gens=#[] ->
   codeAny (model l.prog w) callerA (.call (.ref fa) ⟨[.ref a],[]⟩) (λ r s'=>r=.ok (.ret (.bool true))/\OldK s₁.heap s'.heap/\s'.os=s₁.os/\AllBare s'.gens) s₁) :
  WalkO q loose XP YP l.row.toRowW d [] (λ f vs=>PySem.call f vs):=by
 intro w s₀ s₁ mg mb G Y fa o pm cd doc dV kV ho hd hcd hD hmg hg args vals as hpre hlay hrd hwl hlo
 obtain rfl:dV=.none:=Dflts.none hD hdf
 obtain rfl:kV=.none:=Dflts.noKw hD
 obtain ⟨a,vs,ns,rfl,rfl,hobj,hints,hlen⟩:=y5i hn hpre hwl
 refine enter_call (codeAny_mono (call w s₀ s₁ mg mb fa o pm cd doc a vs ns G Y ho (fd_plain hd) hcd hmg hobj hints hlen hg) λ r s' hq=>?_)
 obtain ⟨rfl,h2,h3,h4⟩:=hq
 exact ⟨.inl ⟨.bool true,.bool true,[],rfl,λ _=>rfl,.bool true,y5x l _,λ _=>⟨List.Pairwise.nil,λ _ hm=>(nomatch hm)⟩⟩,h2,h3,h4⟩
section
variable {prog:Program}{w:World}{A:Around}{E:Value->Shared->Prop}{s:Shared}{K:Frag}
end
end Att
namespace L2
open PySem PySem.Spec PyProof.Rows
theorem z6k:∀ {vs:List Value}{ns:List Int},IntsAre vs ns->Vals (ns.map V.int) vs
 | _,_,.nil=>.nil
 | _,_,.cons n t h=>.cons ⟨t,rfl⟩ (z6k h)
def defArgs (s:Stmt):Arguments:=match s with
 | .FunctionDef _ a _ _ _ _ _ _ _ _=>a
 | _=>{ posonlyargs:=[],args:=[],vararg:=none,kwonlyargs:=[],kw_defaults:=[],kwarg:=none,defaults:=[] }
def defBody (s:Stmt):List Stmt:=match s with
 | .FunctionDef _ _ b _ _ _ _ _ _ _=>b
 | _=>[]
def defScope (s:Stmt):Scope:=match s with
 | .FunctionDef _ _ _ _ _ _ sc _ _ _=>sc
 | _=>{ kind:=.function,names:=[],isGenerator:=false,isCoroutine:=false }
abbrev CX0:CXT:=λ _ _ _ _ _ _=>False
abbrev E0:XK:=λ _ _ _=>False
theorem z0x {X:Cx}:Passes CX0 X E0:=λ _ _ _ _ _ _ _ h=>h.elim
structure Fun (K:W.Frag) (x qual:Str) (st:Stmt) (f:Addr) (fd:FuncData):Prop where
 ex:∃(oc:Value) (od:Option Addr) (kV doc pm:Value) (an:Option Addr) (cdv ct:Value) (osl:Array (Option Value)),
  fd=W.fnOf x qual (defArgs st) (defBody st) (defScope st) .none kV doc pm an cdv ct/\K.lookup f=some ⟨oc,od,.func fd,osl⟩/\W.codeIn K cdv qual=true
 kp:W.keepIn K (.ref f)=true
section
variable {P:Program}{w:World}{K:W.Frag}{mg:Str->Option Value}{base:Heap}
theorem Fun.ok {x qual:Str}{st:Stmt}{f:Addr}{fd:FuncData}{N ps:List Str}{k:Nat}{sp:Sp}(F:Fun K x qual st f fd) (S:FnScope N ps (defScope st)) (len:∀vs H Q E,sp vs H Q E->vs.length=ps.length)
  (hbody:∀(cdv:Value) (A:Around) (outer:List Env) (s:Shared) (H:Hp) (vs:List V) (Q:VK) (E:XK),Room k (A.deeper (envOfC qual (defScope st) s.heap.objs.size f cdv))->sp vs H Q E ->
   ∃t,PSs (cxOf CX0 P w K mg base N qual (defScope st) f cdv A outer s H E).nox (defBody st) t/\t { nx:=λ _ H'=>Q .non H',rt:=Q } (start N vs) H):FnOk P w K mg base CX0 (k+1) f fd ps sp:=by
 obtain ⟨oc,od,kV,doc,pm,an,cdv,ct,osl,rfl,lk,hcd⟩:=F.ex
 refine x0v lk hcd S len λ A outer s H vs Q E hr hsp=>?_
 obtain ⟨t,h,q⟩:=hbody cdv A outer s H vs Q E hr hsp
 exact ⟨t,h.nox,q⟩
theorem Fun.binds {x qual:Str}{st:Stmt}{f:Addr}{fd:FuncData}{ps:List Str}(F:Fun K x qual st f fd)
  (h:∀(kV doc pm:Value) (an:Option Addr) (cdv ct:Value) (us:List Value),us.length=ps.length->bindArgs (W.fnOf x qual (defArgs st) (defBody st) (defScope st) .none kV doc pm an cdv ct) ⟨us,[]⟩=pure (ps.zip us)):Binds K fd ps []:=by
 obtain ⟨oc,od,kV,doc,pm,an,cdv,ct,osl,rfl,lk,hcd⟩:=F.ex
 exact .all (h kV doc pm an cdv ct)
theorem z0w {x qual:Str}{st:Stmt}{f:Addr}{oc:Value}{od an:Option Addr}{osl:Array (Option Value)}{kV doc pm cdv ct:Value}(l:K.lookup f=some ⟨oc,od,.func (W.fnOf x qual (defArgs st) (defBody st) (defScope st) .none kV doc pm an cdv ct),osl⟩)
  (c:W.codeIn K cdv qual=true) (k:W.keepIn K (.ref f)=true):Fun K x qual st f (W.fnOf x qual (defArgs st) (defBody st) (defScope st) .none kV doc pm an cdv ct):=⟨⟨oc,od,kV,doc,pm,an,cdv,ct,osl,rfl,l,c⟩,k⟩
end
theorem z0z {n:Nat}(h:n≤1000):n < sizeLine:=Nat.lt_of_le_of_lt h (by decide)
section
variable {X:Cx}
theorem pv (i:Nat) {x:Str}{pos:Pos}(hN:X.N[i]?=some x:=by rfl) (hv:Vis X.env.scope x:=by first | exact Or.inl rfl | exact Or.inr (Or.inl rfl) | exact Or.inr (Or.inr rfl)) (hd:(x == ("__debug__" : Str))=false:=by decide)
  (hcd:(x == ("__classdict__" : Str))=false:=by decide):PE X (.Name x pos) (tVar i):=x1s hN hv hd hcd
end
def Same (H H':Hp):Prop:=∀b o,H b=some o->H' b=some o
theorem Same.refl (H:Hp):Same H H:=λ _ _ h=>h
theorem Same.trans {H H1 H2:Hp}(a:Same H H1) (b:Same H1 H2):Same H H2:=λ c o h=>b c o (a c o h)
theorem Same.free {H H':Hp}(e:Same H H') {l:Addr}(h:H' l=Option.none):H l=Option.none:=by
 cases q:H l with
 | none=>rfl
 | some o =>
  rw [e l o q] at h
  cases h
theorem Same.seq {K:W.Frag}{H H':Hp}{a:Addr}{xs:List V}(e:Same H H') (h:SqL K H a xs):SqL K H' a xs:=by
 rcases h with (h | ⟨o,h⟩) | h
 ·exact .inl (.inl (e _ _ h))
 ·exact .inl (.inr ⟨o,e _ _ h⟩)
 ·exact .inr h
end L2
set_option maxHeartbeats 4000000
namespace L2
open PySem PySem.Spec PyProof.Rows
section
variable {prog:Program}{w:World}{A:Around}{R:Result->Shared->Prop}{s:Shared}
theorem y0b {elt target iter:Expr}{scope:Scope}{pos:Pos}{it acc:Value}{env:Env}(I:Nat->Shared->Prop)
  (turn:∀n s,I n s->wpAny (model prog w) A (pyNext it) (λ r s₁=>match r with
   | none=>R (.ok .next) s₁
   | some v=>wpAny (model prog w) A (letOwnedTupleGo target it v) (λ _ s₀=>wpAny (model prog w) A (assign target env v) (λ _ s₂=>wpAny (model prog w) A (eval elt env) (λ x s₃ =>
     wpAny (model prog w) A (call (.builtin "list.append") [acc,x]) (λ _ s₄=>∃m,m < n/\I m s₄) (λ _ _=>False) s₃)
     (λ _ _=>False) s₂) (λ _ _=>False) s₀) (λ _ _=>False) s₁) (λ _ _=>False) s)
  (n:Nat) (h:I n s) :
  codeAny (model prog w) A (.compLoop (.ListComp elt [⟨target,iter,[],0⟩] scope pos) 0 it acc env) R s:=by
 refine codeAny_loop rfl I (λ n s hI=>?_) n h
 show wpAny _ _ ((compTurn (.ListComp elt [⟨target,iter,[],0⟩] scope pos) 0 it acc env).onRaise (λ x=>do noteFrame x env;theTreesLotGoes x)) _ _ s
 refine wpAny_noted ?_
 rw [compTurn_list1]
 refine wpAny_bind (wpAny_standAt (wpAny_bind (wpAny_mono (turn n s hI) (λ r s₁ h₁=>?_) λ _ _ h'=>h'.elim)))
 cases r with
 | none=>exact wpAny_pure h₁
 | some v =>
  refine wpAny_bind (wpAny_mono h₁ (λ _ s₀ h₀=>?_) λ _ _ h'=>h'.elim)
  exact wpAny_bind (wpAny_mono h₀ (λ _ s₂ h₂=>wpAny_bind (wpAny_bind (wpAny_mono h₂ (λ x s₃ h₃=>wpAny_bind (wpAny_mono h₃
   (λ _ s₄ h₄=>wpAny_pure (wpAny_pure ⟨rfl,h₄⟩)) λ _ _ h'=>h'.elim)) λ _ _ h'=>h'.elim))) λ _ _ h'=>h'.elim)
end
def cxComp (X:Cx) (N:List Str) (scope:Scope) (cl:List (Str × Addr)) (C:Addr) (ex:List Addr) (s:Shared) (H:Hp):Cx where
 prog:=X.prog
 w:=X.w
 K:=X.K
 mg:=X.mg
 base:=X.base
 A:=X.A
 N:=N
 s₀:=s
 H₀:=H
 env:=compEnvC scope cl C X.env
 outer:=X.stack
 stack:=X.stack
 ex:=ex
 fn:=λ _=>false
 calm:=X.calm
 pn:=X.pn
 xe:=λ _ _=>False
def compSt (k:Nat) (js:List Nat) (σ:St):St:=List.replicate k none++js.map λ j=>(σ[j]?).join
def tComp (wi:TI) (k:Nat) (js:List Nat) (g:TG) (te:TE):TE:=λ σ H Q=>wi σ H λ J H1 =>
 ∃W:Nat->Nat->List V->St->Hp->Prop,(∃m,W 0 m [] (compSt k js σ) H1)/\∀i m ys σ' H',W i m ys σ' H' ->
  (J.stop i H'/\∀p,H' p=none->Q (.ref p) (upd H' p (.lst ys))) \/
  (J.go i H'/\ys.length < sizeLine/\∃N:List V->St->Hp->Prop,(∀zs σ2 H2,N zs σ2 H2->∃m',m' < m/\W (i+1) m' zs σ2 H2) /\
   ∀x H2,J.yld i H' x H2->g x σ' H2 λ σ3 H3=>te σ3 H3 λ v H4=>N (ys++[v]) σ3 H4)
structure Cap (X:Cx) (scope:Scope) (cl:List (Str × Addr)) (x:Str) (j:Nat):Prop where
 at_:X.N[j]?=some x
 out:X.env.scope.names.lookup x=some .cell\/X.env.scope.names.lookup x=some .free
 inn:(relabel scope X.env).names.lookup x=some .cell\/(relabel scope X.env).names.lookup x=some .free
theorem z9w {σ:St}{j:Nat}{v:V}(h:(σ[j]?).join=some v):σ[j]?=some (some v):=by
 cases e:σ[j]? with
 | none=>rw [e] at h;cases h
 | some o =>
  rw [e] at h
  cases o with
  | none=>cases h
  | some u=>cases h;rfl
theorem y8q {X:Cx}{elt tg iter:Expr}{scope:Scope}{cl:List (Str × Addr)}{pos:Pos}{own fv:List Str}{js:List Nat}{wi:TI}{g:TG}{te:TE}
    (hc:X.calm=true) (hi:PI X tg iter wi) (hclos:closureFor scope X.env=pure cl) (hcell:∀y∈scope.names,y.2≠.cell) (hkind:scope.kind=.function)
    (hnames:∀y∈scope.names,y.2=.local->scope.names.lookup y.1=some .local)
    (hcl:∀x c,cl.lookup x=some c->X.env.cells.lookup x=some c)
    (hhas:∀x,((relabel scope X.env).names.lookup x=some .cell\/(relabel scope X.env).names.lookup x=some .free)->∃c,cl.lookup x=some c)
    (hlen:js.length=fv.length) (hcap:∀(i:Nat) x j,fv[i]?=some x->js[i]?=some j->Cap X scope cl x j)
    (hg:∀(C:Addr) (ex:List Addr) (s:Shared) (H:Hp),PG (cxComp X (own++fv) scope cl C ex s H) tg g)
    (he:∀(C:Addr) (ex:List Addr) (s:Shared) (H:Hp),PE (cxComp X (own++fv) scope cl C ex s H) elt te)
    (hs:∀x,foldedSetIterable iter X.env x=pure x)
    {pins:List (Addr × Obj)}{s:Shared}{σ:St}{H:Hp}{Q:VK}{use:Option (Value->Sem Unit)}{QQ:Value->Shared->Prop}{fpos:Pos}(I:Inv X pins σ H s) (h:tComp wi own.length js g te σ H Q)
    (fin:∀(a C:Addr) (s5:Shared) (H5:Hp) (fl:Flow),Inv X pins σ H5 s5->H5 C=none->C≠X.env.locals->X.s₀.heap.objs.size≤C->(∀x c,X.env.cells.lookup x=some c->c≠C)->(∀p∈X.pn++pins,p.1≠C)->(∃m,s5.heap.Ns C m)->Q (.ref a) H5->compPost (model X.prog X.w) X.A X.xe use QQ (.ref a) C (.ok fl) s5) :
    wpAny (model X.prog X.w) X.A (comprehension (.ListComp elt [⟨tg,iter,[],0⟩] scope pos) scope X.env fpos (newList []) false (firstIter [⟨tg,iter,[],0⟩] X.env) use) QQ X.xe s:=by
  refine wpAny_comprehension_free (use:=use) rfl hs hclos hkind hnames (thn (hi pins s σ H _ I h) λ v s1 h1=>thn h1 λ itv s2 h2=>?_)
  obtain ⟨it,fp,tn,J,H2,e,I2,T,st2,f2,W,⟨m0,w0⟩,turn⟩:=h2
  subst e
  refine wpAny_newObj_type (wpAny_newFunctionEnv hcell (by intro y hy;simp at hy) (λ h₁ hns₁ hsb₁=>?_) hkind)
  dsimp only at hns₁ hsb₁ ⊢
  generalize hHp:s2.heap.push { cls:=.type "list",dict:=none,data:=.seq ([]:List Value).toArray }=hL at hns₁ hsb₁ ⊢
  have hC:hL.objs.size=s2.heap.objs.size+1:=by rw [← hHp,Heap.size_push]
  have hDC:s2.heap.objs.size≠hL.objs.size:=by rw [hC];exact Nat.ne_of_lt (Nat.lt_succ_self _)
  have ltC:∀b,b < s2.heap.objs.size->b≠hL.objs.size:=λ b hb=>by rw [hC];exact Nat.ne_of_lt (Nat.lt_succ_of_lt hb)
  have old:∀b o,s2.heap.get? b=some o->h₁.get? b=some o:=λ b o e=>hsb₁.extBut b o (ltC b (Heap.lt_size e)) (Heap.get?_push_of_some _ (hHp ▸ Heap.get?_push_of_some _ e))
  have hacc:h₁.get? s2.heap.objs.size=some { cls:=.type "list",data:=.seq ([]:List Value).toArray 0 }:=hsb₁.extBut _ _ hDC (Heap.get?_push_of_some _ (hHp ▸ Heap.get?_push_size _ rfl))
  have hfresh:∀a,s2.heap.objs.size≤a->H2 a=none:=λ a ha=>I2.hok.fresh ha
  have fpL:∀b∈fp,b < s2.heap.objs.size:=λ b hb=>by
    obtain ⟨o,e,_⟩:=T.obj _ _ st2 b hb
    exact Heap.lt_size e
  have cellL:∀x c,cl.lookup x=some c->c < s2.heap.objs.size:=λ x c e=>by
    obtain ⟨v,q⟩:=I2.cell x c (hcl x c e)
    exact q.lt
  have pinL:∀p∈X.pn++pins,p.1 < s2.heap.objs.size:=λ p hp=>Heap.lt_size (I2.pin p hp).1
  generalize hX:cxComp X (own++fv) scope cl hL.objs.size fp s2 H2=Y
  have ok:Y.Ok:=by
    subst hX
    refine ⟨I2.ok.mod,hkind,I2.ok.glob,I2.ok.blt,by show s2.heap.objs.size≤hL.objs.size;omega,λ x y c h1 h2=>I2.ok.inj x y c (hcl x c h1) (hcl y c h2),λ x hx=>hhas x hx,
      λ x c hf=>absurd hf (by show ¬(false=true);decide),I2.ok.hd,I2.ok.frames,.inl rfl,λ b hb=>⟨ltC b (fpL b hb),λ x c e=>(f2 b hb).2.2.2.2.1 x c (hcl x c e)⟩,I2.bs,Nat.le_trans I2.ok.bsz I2.sz,λ b o e hb=>?_,λ b hb hz=>?_,I2.stack,I2.stkFree⟩
    · rcases (f2 b hb).2.2.2.1 with z | z
      · exact I2.ok.noex b o e z
      · exact absurd (Nat.lt_of_lt_of_le (Heap.lt_size e) (Nat.le_trans I2.ok.bsz z)) (Nat.lt_irrefl _)
    · rcases List.mem_cons.mp (I2.stkSub b hz) with z | z
      · exact (f2 b hb).2.1 z
      · exact (f2 b hb).2.2.1 z
  have hYl:Y.env.locals=hL.objs.size:=by subst hX;rfl
  have hYs:Y.s₀=s2:=by subst hX;rfl
  have hYH:Y.H₀=H2:=by subst hX;rfl
  have hYx:Y.ex=fp:=by subst hX;rfl
  have hYf:Y.fs=frs X.stack:=by subst hX;rfl
  have hYc:Y.env.cells=cl:=by subst hX;rfl
  have hYp:Y.pn=X.pn:=by subst hX;rfl
  have pinOk:∀p∈X.pn++pins,s2.heap.get? p.1=some p.2/\H2 p.1=none/\p.1≠hL.objs.size/\p.1 ∉ frs X.stack/\∀v,p.2.data≠.cell v:=λ p hp=>by
    obtain ⟨e,n,ne,nf,d⟩:=I2.pin p hp
    refine ⟨e,n,ltC _ (Heap.lt_size e),λ z=>?_,d⟩
    rcases List.mem_cons.mp (I2.stkSub _ z) with q | q
    · exact ne q
    · exact nf q
  have stkL:∀b∈frs X.stack,b < s2.heap.objs.size:=λ b hb=>by
    obtain ⟨_,o,ho,_⟩:=I2.stack.mem hb
    exact Heap.lt_size ho
  have I3:Inv Y (pins++[(s2.heap.objs.size,{ cls:=.type "list",data:=.seq ([]:List Value).toArray 0 })]) (compSt own.length js σ) H2 { s2 with heap:=h₁,toks:=s2.toks+([]:List (Str × Value)).length }:=by
    refine ⟨ok,by subst hX;rfl,I2.bare,by rw [hYH,hYs];exact Un.kept old,⟨_,by rw [hYl];exact hns₁,λ i x v e1 e2 e3=>?_⟩,λ x c e=>?_,by rw [hYl];exact hfresh _ (by omega),λ x c e=>?_,λ p hp=>?_,by subst hX;exact I2.hok.kept old,?_⟩
    · subst hX
      have e1:(own++fv)[i]?=some x:=e1
      unfold compSt at e2
      by_cases hi:i < own.length
      · rw [List.getElem?_append_left (by simpa using hi),List.getElem?_replicate] at e2
        split at e2<;>cases e2
      · rw [List.getElem?_append_right (by simpa using hi),List.length_replicate,List.getElem?_map] at e2
        rw [List.getElem?_append_right (by omega)] at e1
        cases ej:js[i - own.length]? with
        | none=>rw [ej] at e2;cases e2
        | some j =>
          rw [ej] at e2
          have cp:=hcap _ x j e1 ej
          have e2':σ[j]?=some (some v):=z9w (Option.some.inj e2)
          obtain ⟨m,hn,hl⟩:=I2.loc
          obtain ⟨u,r,l⟩:=hl j x v cp.at_ e2' (cp.out.elim (λ z=>.inr (.inl z)) λ z=>.inr (.inr z))
          refine ⟨u,r,.inr ⟨cp.inn,?_⟩⟩
          obtain ⟨c,ec⟩:=hhas x cp.inn
          rcases l with ⟨k,_⟩ | ⟨_,c',ec',z⟩
          · have k:X.env.scope.names.lookup x=some .local:=k
            rcases cp.out with q | q<;>rw [q] at k<;>cases k
          · rw [hcl x c ec] at ec'
            cases ec'
            obtain ⟨o,ho,hd⟩:=z
            exact ⟨c,ec,o,old _ _ ho,hd⟩
    · rw [hYc] at e
      obtain ⟨v,o,ho,hd⟩:=I2.cell x c (hcl x c e)
      exact ⟨v,o,old _ _ ho,hd⟩
    · rw [hYc] at e
      exact I2.freeC x c (hcl x c e)
    · rw [hYp] at hp
      rw [hYl,hYf]
      rcases List.mem_append.mp hp with z | z
      · obtain ⟨a,b,c,d,f⟩:=pinOk p (List.mem_append_left _ z)
        exact ⟨old _ _ a,b,c,d,f⟩
      · rcases List.mem_append.mp z with z | z
        · obtain ⟨a,b,c,d,f⟩:=pinOk p (List.mem_append_right _ z)
          exact ⟨old _ _ a,b,c,d,f⟩
        · have e:p=_:=List.mem_singleton.mp z
          subst e
          exact ⟨hacc,hfresh _ (Nat.le_refl _),hDC,λ z=>absurd (stkL _ z) (Nat.lt_irrefl _),λ v z=>by cases z⟩
    · subst hX
      unfold compSt
      show _=(own++fv).length
      simp [hlen]
  have hYprog:Y.prog=X.prog:=by subst hX;rfl
  have hYw:Y.w=X.w:=by subst hX;rfl
  have hYK:Y.K=X.K:=by subst hX;rfl
  have hYA:Y.A=X.A:=by subst hX;rfl
  have hYcalm:Y.calm=true:=by subst hX;exact hc
  have hYxe:Y.xe=λ _ _=>False:=by subst hX;rfl
  have hYenv:Y.env=compEnvC scope cl hL.objs.size X.env:=by subst hX;rfl
  have hg':=hg hL.objs.size fp s2 H2
  have he':=he hL.objs.size fp s2 H2
  rw [hX] at hg' he'
  have fpOk:∀ {H':Hp}{pn:List (Addr × Obj)},(∀b∈fp,H' b=none)->(∀p∈pn,p.1=s2.heap.objs.size\/p∈pins)->∀b∈fp,FpOk Y pn H' b:=λ hn hp b hb=>by
    refine ⟨hn b hb,by rw [hYl];exact ltC b (fpL b hb),?_,.inl (by rw [hYx];exact hb),λ x c e=>?_,λ p hq=>?_⟩
    · rw [hYf]
      intro hz
      rcases List.mem_cons.mp (I2.stkSub b hz) with z | z
      · exact (f2 b hb).2.1 z
      · exact (f2 b hb).2.2.1 z
    · rw [hYc] at e
      exact (f2 b hb).2.2.2.2.1 x c (hcl x c e)
    · rw [hYp] at hq
      rcases List.mem_append.mp hq with z | z
      · exact (f2 b hb).2.2.2.2.2 p (List.mem_append_left _ z)
      · rcases hp p z with q | q
        · rw [q];exact Ne.symm (Nat.ne_of_lt (fpL b hb))
        · exact (f2 b hb).2.2.2.2.2 p (List.mem_append_right _ q)
  have loop:∀s₃:Shared,s₃={ s2 with heap:=h₁,toks:=s2.toks+([]:List (Str × Value)).length } ->
      codeAny (model X.prog X.w) X.A (.compLoop (.ListComp elt [⟨tg,iter,[],0⟩] scope pos) 0 (.ref it) (.ref s2.heap.objs.size) (compEnvC scope cl hL.objs.size X.env))
        (compPost (model X.prog X.w) X.A X.xe use QQ (.ref s2.heap.objs.size) hL.objs.size) s₃:=by
    rintro s₃ rfl
    refine y0b (λ n s'=>∃i ys its k σ' H',Inv Y (pins++[(s2.heap.objs.size,{ cls:=.type "list",data:=.seq (its:List Value).toArray k })]) σ' H' s'/\tn i s'.heap/\(∀b∈fp,H' b=none)/\Vals ys its/\ys.length≤sizeLine/\W i n ys σ' H') ?_ m0
      ⟨0,[],[],0,_,H2,I3,T.keep _ _ _ st2 λ b _ o e=>old b o e,λ b hb=>(f2 b hb).1,.nil,Nat.zero_le _,w0⟩
    rintro n s4 ⟨i,ys,its,k,σ4,H4,I4,st4,fr4,rv,hz,w4⟩
    have pinD:∀p∈(pins++[(s2.heap.objs.size,({ cls:=.type "list",data:=.seq (its:List Value).toArray k }:Obj))]),p.1=s2.heap.objs.size\/p∈pins:=λ p hp=>by
      rcases List.mem_append.mp hp with z | z
      · exact .inr z
      · rw [List.mem_singleton.mp z];exact .inl rfl
    have F4:=fpOk (pn:=pins++[(s2.heap.objs.size,{ cls:=.type "list",data:=.seq (its:List Value).toArray k })]) fr4 pinD
    rcases turn i n ys σ4 H4 w4 with ⟨stop,qn⟩ | ⟨go,hlt,N,hN,step⟩
    · have d:=T.done Y hYprog hYw hYK hYcalm i _ s4 σ4 H4 (λ _ _=>False) I4 F4 st4 stop
      rw [hYA] at d
      refine thn d λ r s5 ⟨hr,I5⟩=>?_
      subst hr
      obtain ⟨m,hn,_⟩:=id I5.loc
      rw [hYl] at hn
      have hD:=I5.pin (s2.heap.objs.size,{ cls:=.type "list",data:=.seq (its:List Value).toArray k }) (List.mem_append_right _ (List.mem_append_right _ (List.mem_singleton.mpr rfl)))
      have hDn:H4 s2.heap.objs.size=none:=hD.2.1
      have kp:∀b o,b≠hL.objs.size->s5.heap.get? b=some o->s5.heap.get? b=some o:=λ b o _ e=>e
      have B:=I5.base
      rw [hYH,hYs,hYx,hYf] at B
      have s2C:∀b o,s2.heap.get? b=some o->b≠hL.objs.size:=λ b o e=>ltC b (Heap.lt_size e)
      have trk:∀b u,H4 b=some u->b≠s2.heap.objs.size:=λ b u e z=>by rw [z,hDn] at e;cases e
      have trC:∀b u,H4 b=some u->b≠hL.objs.size:=λ b u e z=>by
        have:=I5.free
        rw [hYl,← z,e] at this;cases this
      have hH2:∀b u,H2 b=some u->b≠s2.heap.objs.size:=λ b u e z=>by rw [z,hfresh _ (Nat.le_refl _)] at e;cases e
      have IX:Inv X pins σ (upd H4 s2.heap.objs.size (.lst ys)) s5:=by
       refine I2.call' (ch:=fp) (by show s5.os=s2.os;rw [I5.os,hYs]) ⟨λ b o e n hb hx=>kp b o (s2C b o e) (B.keep b o e n hb hx),λ b o e n hb hx=>?_,λ b o e n hx=>?_,λ b o e hx=>?_,λ b xs e=>?_,λ b o u e=>?_,λ b ps e=>?_⟩ ?_ I5.bare (λ b hb=>⟨(f2 b hb).2.2.2.1,(f2 b hb).2.1,(f2 b hb).2.2.2.2.1,(f2 b hb).2.2.2.2.2⟩)
       · obtain ⟨sl,q⟩:=B.slot b o e n hb hx
         exact ⟨sl,kp b _ (s2C b o e) q⟩
       · rw [z0p (Nat.ne_of_lt (Heap.lt_size e))]
         exact B.free b o e n hx
       · obtain ⟨o',q⟩:=B.there b o e hx
         exact ⟨o',kp b o' (s2C b o e) q⟩
       · rw [z0p (hH2 b _ e)]
         exact B.tups b xs e
       · rw [z0p (hH2 b _ e)]
         exact B.frzs b o u e
       · obtain ⟨more,q⟩:=B.tbls b ps e
         exact ⟨more,by rw [z0p (hH2 b _ e)];exact q⟩
       · intro b u e
         by_cases hb:b=s2.heap.objs.size
         · subst hb
           rw [z0h] at e
           cases e
           exact ⟨hz,its,k,rv,kp _ _ hDC hD.1⟩
         · rw [z0p hb] at e
           have okb:=I5.hok b u e
           rw [hYprog,hYw] at okb
           refine okb.stay (λ c v hc q=>kp c v ?_ q) (λ c q=>by rw [z0p (trk c _ q)];exact q) λ c xs q=>by rw [z0p (trk c _ q)];exact q
           rcases hc with z | z
           · rw [z];exact trC b u e
           · exact trC c _ z
      have zC:upd H4 s2.heap.objs.size (.lst ys) hL.objs.size=none:=by
        rw [z0p (Ne.symm hDC)]
        have:=I5.free
        rwa [hYl] at this
      exact fin s2.heap.objs.size hL.objs.size s5 _ _ IX zC (Ne.symm (ltC _ I2.lt)) (by have:=I2.sz;omega) (λ x c e=>ltC c (by obtain ⟨v,q⟩:=I2.cell x c e;exact q.lt)) (λ p hp=>ltC _ (pinL p hp)) ⟨m,hn⟩ (qn _ hDn)
    · have d:=T.item Y hYprog hYw hYK hYcalm i _ s4 σ4 H4 (λ _ _=>False) I4 F4 st4 go
      rw [hYA] at d
      refine thn d λ r s5 ⟨u,hr,h5⟩=>?_
      subst hr
      refine thn h5 λ _ s6 ⟨x,H6,I6,r6,y6,st6,fr6⟩=>?_
      have I6':=I6.pinned (fpOk (pn:=pins++[(s2.heap.objs.size,{ cls:=.type "list",data:=.seq (its:List Value).toArray k })]) fr6 pinD) (T.obj _ _ st6)
      have d7:=hg' _ s6 σ4 H6 x u _ I6' r6 (step x H6 y6)
      rw [hYprog,hYw,hYA,hYxe,hYenv] at d7
      refine thn d7 λ _ s7 ⟨σ7,H7,I7,q7⟩=>?_
      have d8:=he' _ s7 σ7 H7 _ I7 q7
      rw [hYprog,hYw,hYA,hYxe,hYenv] at d8
      refine thn d8 λ u8 s8 ⟨v8,H8,I8,r8,n8⟩=>?_
      obtain ⟨m',hm,w8⟩:=hN _ _ _ n8
      have pD:=I8.pin (s2.heap.objs.size,{ cls:=.type "list",data:=.seq (its:List Value).toArray k }) (List.mem_append_right _ (List.mem_append_left _ (List.mem_append_right _ (List.mem_singleton.mpr rfl))))
      have tn8:tn (i+1) s8.heap:=T.keep _ _ _ st6 λ b hb o e=>(I8.pin (b,o) (List.mem_append_right _ (List.mem_append_right _ (z2a hb e)))).1
      have fr8:∀b∈fp,H8 b=none:=λ b hb=>by
        obtain ⟨o,e,d⟩:=T.obj _ _ st6 b hb
        exact (I8.pin (b,o) (List.mem_append_right _ (List.mem_append_right _ (z2a hb e)))).2.1
      have J8:Inv Y pins σ7 H8 s8:=I8.unpinned.unpinned
      have eD:s8.heap.get? s2.heap.objs.size=some { cls:=.type "list",data:=.seq its.toArray k }:=pD.1
      refine call_meets F.slot_list_append ⟨_,eD,rfl⟩ F.entry_list_append (F.args_list_append_2 _ _) (PySem.list_append _ its.toArray k u8 (by rw [List.size_toArray,← rv.length];omega)) ⟨eD,?_⟩
      have other:∀b o,b≠s2.heap.objs.size->s8.heap.get? b=some o->(s8.heap.update s2.heap.objs.size (Obj.mapSeq λ xs=>xs.push u8)).get? b=some o:=λ b o nb e=>(Heap.get?_update_other s8.heap _ (Ne.symm nb)).trans e
      have J9:=J8.turned (t':=s8.toks) (it:=s2.heap.objs.size) (h':=s8.heap.update s2.heap.objs.size (Obj.mapSeq λ xs=>xs.push u8)) other pD.2.1 (by rw [hYl];exact hDC) (.inr (by rw [hYs];exact Nat.le_refl _))
        (λ x c e=>by rw [hYc] at e;exact Nat.ne_of_lt (cellL x c e)) (λ p hp=>by rw [hYp] at hp;exact Nat.ne_of_lt (pinL p hp))
      have ep:(its.toArray.push u8)=(its++[u8]).toArray:=by simp
      obtain ⟨kk,upD⟩:∃kk,(s8.heap.update s2.heap.objs.size (Obj.mapSeq λ xs=>xs.push u8)).get? s2.heap.objs.size=some { cls:=.type "list",data:=.seq (its++[u8]).toArray kk }:=by
        have z:=PySem.IsL.update eD (λ xs=>xs.push u8)
        rw [ep] at z
        exact ⟨_,z⟩
      refine ⟨m',hm,i+1,ys++[v8],its++[u8],kk,σ7,H8,J9.pins_of λ p hp=>?_,T.keep _ _ _ tn8 λ b hb o e=>other b o (Nat.ne_of_lt (fpL b hb)) e,fr8,rv.append (.cons r8 .nil),?_,w8⟩
      · rcases List.mem_append.mp hp with z | z
        · exact J9.pin p (List.mem_append_right _ z)
        · rw [List.mem_singleton.mp z]
          exact ⟨upD,pD.2.1,by rw [hYl];exact hDC,by rw [hYf];exact λ z=>absurd (stkL _ z) (Nat.lt_irrefl _),λ v z=>by cases z⟩
      · rw [List.length_append,List.length_singleton];omega
  exact codeAny_compStart_list (loop _ rfl) (T.self _ 0 _ _ _ (T.keep _ _ _ st2 λ b _ o e=>old b o e) (loop _ rfl))
theorem z4j {X:Cx}{elt tg iter:Expr}{scope:Scope}{cl:List (Str × Addr)}{pos:Pos}{own fv:List Str}{js:List Nat}{wi:TI}{g:TG}{te:TE}
  (hc:X.calm=true) (hi:PI X tg iter wi) (hclos:closureFor scope X.env=pure cl) (hcell:∀y∈scope.names,y.2≠.cell) (hkind:scope.kind=.function)
  (hnames:∀y∈scope.names,y.2=.local->scope.names.lookup y.1=some .local)
  (hcl:∀x c,cl.lookup x=some c->X.env.cells.lookup x=some c)
  (hhas:∀x,((relabel scope X.env).names.lookup x=some .cell\/(relabel scope X.env).names.lookup x=some .free)->∃c,cl.lookup x=some c)
  (hlen:js.length=fv.length) (hcap:∀(i:Nat) x j,fv[i]?=some x->js[i]?=some j->Cap X scope cl x j)
  (hg:∀(C:Addr) (ex:List Addr) (s:Shared) (H:Hp),PG (cxComp X (own++fv) scope cl C ex s H) tg g)
  (he:∀(C:Addr) (ex:List Addr) (s:Shared) (H:Hp),PE (cxComp X (own++fv) scope cl C ex s H) elt te)
  (hs:∀x,foldedSetIterable iter X.env x=pure x:=by intro _;rfl) :
  PE X (.ListComp elt [⟨tg,iter,[],0⟩] scope pos) (tComp wi own.length js g te):=by
 intro pins s σ H Q I h
 rw [eval_ListComp]
 refine y8q (use:=none) (QQ:=EP X pins σ Q) hc hi hclos hcell hkind hnames hcl hhas hlen hcap hg he hs I h λ a C s5 H5 fl I5 zC zL zS zc zp ⟨m,hn⟩ q=>⟨m,hn,λ h' sc=>?_⟩
 exact ⟨.ref a,H5,I5.turned (t':=s5.toks) (it:=C) (λ d o nd e=>sc.extBut d o nd e) zC zL (.inr zS) zc zp,rfl,q⟩
theorem y8f {K:PySem.W.Frag}{a:Addr}{xs:List V}{g:TG}{te:TE}{Q:VK}{σ:St}{H:Hp}(Pv:Nat->List V->St->Hp->Prop) (h0:Pv 0 [] σ H) (hl:∀i ys σ H,i≤xs.length->Pv i ys σ H->SqL K H a xs)
  (hs:∀i x ys σ H,xs[i]?=some x->Pv i ys σ H->ys.length < sizeLine/\g x σ H λ σ3 H3=>te σ3 H3 λ v H4=>Pv (i+1) (ys++[v]) σ3 H4) (hd:∀ys σ H,Pv xs.length ys σ H->∀p,H p=none->Q (.ref p) (upd H p (.lst ys))) :
  ∃W:Nat->Nat->List V->St->Hp->Prop,(∃m,W 0 m [] σ H)/\∀i m ys σ' H',W i m ys σ' H' ->
   ((Itl K a).stop i H'/\∀p,H' p=none->Q (.ref p) (upd H' p (.lst ys))) \/
   ((Itl K a).go i H'/\ys.length < sizeLine/\∃N:List V->St->Hp->Prop,(∀zs σ2 H2,N zs σ2 H2->∃m',m' < m/\W (i+1) m' zs σ2 H2) /\
    ∀x H2,(Itl K a).yld i H' x H2->g x σ' H2 λ σ3 H3=>te σ3 H3 λ v H4=>N (ys++[v]) σ3 H4):=by
 refine ⟨λ i m ys σ H=>m=xs.length - i/\i≤xs.length/\Pv i ys σ H,⟨xs.length,by simp,Nat.zero_le _,h0⟩,?_⟩
 rintro i m ys σ H ⟨rfl,hi,p⟩
 have q:=hl i ys σ H hi p
 by_cases hlt:i < xs.length
 ·have e:xs[i]?=some xs[i]:=by simp [hlt]
  refine .inr ⟨⟨xs,xs[i],q,e⟩,(hs i _ ys σ H e p).1,Pv (i+1),λ zs σ' H' p'=>⟨xs.length - (i+1),by omega,rfl,hlt,p'⟩,λ x H' y=>?_⟩
  obtain ⟨e,y⟩:=y
  subst e
  exact (hs i x ys σ _ (y xs q) p).2
 ·have e:i=xs.length:=by omega
  subst e
  exact .inl ⟨⟨xs,q,Nat.le_refl _⟩,hd ys σ H p⟩
theorem x1a {K:PySem.W.Frag}{a:Addr}{xs:List V}{g:TG}{te:TE}{Q:VK}{σ:St}{H:Hp}(Pv:Nat->List V->St->Hp->Prop) (h0:Pv 0 [] σ H) (hl:∀i ys σ H,i≤xs.length->Pv i ys σ H->SqT K H a xs)
  (hs:∀i x ys σ H,xs[i]?=some x->Pv i ys σ H->ys.length < sizeLine/\g x σ H λ σ3 H3=>te σ3 H3 λ v H4=>Pv (i+1) (ys++[v]) σ3 H4) (hd:∀ys σ H,Pv xs.length ys σ H->∀p,H p=none->Q (.ref p) (upd H p (.lst ys))) :
  ∃W:Nat->Nat->List V->St->Hp->Prop,(∃m,W 0 m [] σ H)/\∀i m ys σ' H',W i m ys σ' H' ->
   ((Itt K a).stop i H'/\∀p,H' p=none->Q (.ref p) (upd H' p (.lst ys))) \/
   ((Itt K a).go i H'/\ys.length < sizeLine/\∃N:List V->St->Hp->Prop,(∀zs σ2 H2,N zs σ2 H2->∃m',m' < m/\W (i+1) m' zs σ2 H2) /\
    ∀x H2,(Itt K a).yld i H' x H2->g x σ' H2 λ σ3 H3=>te σ3 H3 λ v H4=>N (ys++[v]) σ3 H4):=by
 refine ⟨λ i m ys σ H=>m=xs.length - i/\i≤xs.length/\Pv i ys σ H,⟨xs.length,by simp,Nat.zero_le _,h0⟩,?_⟩
 rintro i m ys σ H ⟨rfl,hi,p⟩
 have q:=hl i ys σ H hi p
 by_cases hlt:i < xs.length
 ·have e:xs[i]?=some xs[i]:=by simp [hlt]
  refine .inr ⟨⟨xs,xs[i],q,e⟩,(hs i _ ys σ H e p).1,Pv (i+1),λ zs σ' H' p'=>⟨xs.length - (i+1),by omega,rfl,hlt,p'⟩,λ x H' y=>?_⟩
  obtain ⟨e,y⟩:=y
  subst e
  exact (hs i x ys σ _ (y xs q) p).2
 ·have e:i=xs.length:=by omega
  subst e
  exact .inl ⟨⟨xs,q,Nat.le_refl _⟩,hd ys σ H p⟩
theorem y4h {lo:Int}{n:Nat}{g:TG}{te:TE}{Q:VK}{σ:St}{H:Hp}(Pv:Nat->List V->St->Hp->Prop) (h0:Pv 0 [] σ H)
  (hs:∀i ys σ H,i < n->Pv i ys σ H->ys.length < sizeLine/\g (.int (lo+i)) σ H λ σ3 H3=>te σ3 H3 λ v H4=>Pv (i+1) (ys++[v]) σ3 H4) (hd:∀ys σ H,Pv n ys σ H->∀p,H p=none->Q (.ref p) (upd H p (.lst ys))) :
  ∃W:Nat->Nat->List V->St->Hp->Prop,(∃m,W 0 m [] σ H)/\∀i m ys σ' H',W i m ys σ' H' ->
   ((Itr lo n).stop i H'/\∀p,H' p=none->Q (.ref p) (upd H' p (.lst ys))) \/
   ((Itr lo n).go i H'/\ys.length < sizeLine/\∃N:List V->St->Hp->Prop,(∀zs σ2 H2,N zs σ2 H2->∃m',m' < m/\W (i+1) m' zs σ2 H2) /\
    ∀x H2,(Itr lo n).yld i H' x H2->g x σ' H2 λ σ3 H3=>te σ3 H3 λ v H4=>N (ys++[v]) σ3 H4):=by
 refine ⟨λ i m ys σ H=>m=n - i/\i≤n/\Pv i ys σ H,⟨n,by simp,Nat.zero_le _,h0⟩,?_⟩
 rintro i m ys σ H ⟨rfl,hi,p⟩
 by_cases hlt:i < n
 ·refine .inr ⟨hlt,(hs i ys σ H hlt p).1,Pv (i+1),λ zs σ' H' p'=>⟨n - (i+1),by omega,rfl,hlt,p'⟩,λ x H' y=>?_⟩
  obtain ⟨e,y⟩:=y
  subst e y
  exact (hs i ys σ _ hlt p).2
 ·have e:i=n:=by omega
  subst e
  exact .inl ⟨Nat.le_refl _,hd ys σ H p⟩
theorem x2t {K:W.Frag}{h:Heap}{gm:Str->Option Value}{nmX:Str}{Cx':Addr}{bmX:List Value}{nid:String}(KI:K.In h) (GN:h.Ns mainGlobals gm)
  (hn:W.nsIn K mainGlobals nmX=some (some (.ref Cx'))) (hq:W.excIn K Cx' bmX nid=true):OwnCls nmX Cx' bmX nid gm h:=by
 constructor
 ·exact W.mg_of KI GN hn
 ·unfold W.excIn at hq
  split at hq
  ·rename_i ddx cdx slx hlk
   split at hq
   ·rename_i C2 bm2 f0 f1 f2 f3 nn f5 hmro hsl0
    simp only [Bool.and_eq_true,beq_iff_eq,Bool.not_eq_true'] at hq
    obtain ⟨⟨⟨⟨⟨eC,eN⟩,hdl⟩,htl⟩,hnsok⟩,hinit⟩:=hq
    subst eC eN
    obtain ⟨c1,c2,c3,c4,c5,c6,c7,c8,c9,c10,c11⟩:=cdx
    dsimp only at hmro hdl hnsok hinit
    subst hmro hdl
    have hsl1:slx=#[f0,f1,f2,f3,some (.builtin nn),f5]:=by
     obtain ⟨lst⟩:=slx
     simp only at hsl0
     rw [hsl0]
    subst hsl1
    refine ⟨bm2,c4,c1,c5,c2,c6,c7,c8,c9,c10,ddx,f0,f1,f2,f3,f5,h.nsMap c4,KI _ _ hlk,?_,?_,?_⟩
    ·exact .of_isNs (W.isNs_of_in KI hnsok)
    ·exact W.nsMap_none_of_in KI hnsok hinit
    ·exact W.tail_of_in KI htl
   ·cases hq
  ·cases hq
def CX1 (P:Program) (w:World):CXT:=λ outer H s E e s' =>
 ∃(a C:Addr) (a0:Value) (H':Hp) (B:Heap),e=.ref a/\s'.os=s.os/\AllBare s'.gens/\Heap.FlyingW B outer a (.ref C) a0 s'.heap /\
  (∀b o,s.heap.get? b=some o->H b=none->b ∉ frs outer->B.get? b=some o)/\(∀b o,s.heap.get? b=some o->b ∉ frs outer->∃o',B.get? b=some o') /\
  Un (frs outer) [] H H' s.heap s'.heap/\HOk P w H' B/\E (.ref C) none H'
section
variable {P:Program}{w:World}{K:W.Frag}{mg:Str->Option Value}{base:Heap}{N:List Str}{qual:Str}{scope:Scope}{f:Addr}{cd:Value}{A:Around}{outer:List Env}{s:Shared}{H:Hp}{E:XK}
theorem x0i {H:Hp}{h:Heap}{l:List Addr}(ok:HOk P w H h) (hl:∀b∈l,H b=none):HOk P w H (W.hideAll h l):=λ b u e=>by
 have nb:∀c v,H c=some v->c ∉ l:=λ c v q z=>by rw [hl c z] at q;cases q
 refine (ok b u e).stay (λ c v hc q=>W.hideAll_get _ q ?_) (λ _ q=>q) λ _ _ q=>q
 rcases hc with z | z
 ·rw [z];exact nb b u e
 ·exact nb c _ z
theorem x6e {l:List Env}:∀env∈l,∀b,env.frame=some b->b∈frs l:=λ env he b hb=>List.mem_filterMap.mpr ⟨env,he,hb⟩
theorem z1k:Passes (CX1 P w) (cxOf (CX1 P w) P w K mg base N qual scope f cd A outer s H E) E:=by
 intro pins σ H1 s1 e s' I hx
 obtain ⟨a,C,a0,H',B,rfl,os,bare,fl,inB,thB,un,okB,hE⟩:=hx
 have hfr:(cxOf (CX1 P w) P w K mg base N qual scope f cd A outer s H E).A.frames=some (envOfC qual scope s.heap.objs.size f cd::outer):=I.ok.frames
 refine wpAny_leaves_onW hfr rfl fl λ h'' fl'' up''=>?_
 have Bs:∀b o,B.get? b=some o->h''.get? b=some o:=fl''.1
 have ub:Un (frs outer) [] H H1 s.heap s1.heap:=I.base
 have stk:∀b,b ∉ frs outer->b < s.heap.objs.size->b ∉ frs (envOfC qual scope s.heap.objs.size f cd::outer):=λ b hb hlt z=>by
  rcases List.mem_cons.mp (I.stkSub b z) with q | q
  ·have q:b=s.heap.objs.size:=q
   exact Nat.lt_irrefl _ (q ▸ hlt)
  ·exact hb q
 have inB':∀b o,s.heap.get? b=some o->H b=none->b ∉ frs outer->B.get? b=some o:=λ b o e n hb =>
  inB b o (ub.keep b o e n hb (by simp)) (ub.free b o e n (by simp)) (stk b hb (Heap.lt_size e))
 have thB':∀b o,s.heap.get? b=some o->b ∉ frs outer->∃o',B.get? b=some o':=λ b o e hb=>by
  obtain ⟨o1,e1⟩:=ub.there b o e (by simp)
  exact thB b o1 e1 (stk b hb (Heap.lt_size e))
 have sub:∀b,b∈frs outer->b∈frs (envOfC qual scope s.heap.objs.size f cd::outer):=λ b hb=>List.mem_cons_of_mem _ hb
 have slot:∀b o,s.heap.get? b=some o->H b=none->b∈frs outer->∃sl,h''.get? b=some { o with slots:=sl }:=λ b o e n hb=>by
  obtain ⟨sl1,e1⟩:=ub.slot b o e n hb (by simp)
  obtain ⟨sl2,e2⟩:=un.slot b _ e1 (ub.free b o e n (by simp)) (sub b hb) (by simp)
  obtain ⟨_,o3,e3,nf⟩:=I.ok.funs.mem hb
  have e3:s.heap.get? b=some o3:=e3
  rw [e] at e3;cases e3
  obtain ⟨sl3,e4⟩:=up'' b _ e2 nf
  exact ⟨sl3,e4⟩
 have frf:∀b∈frs outer,H b=none:=I.ok.frf
 refine ⟨a,C,a0,H',B,rfl,os.trans I.os,bare,fl'',inB',thB',⟨λ b o e n hb _=>Bs _ _ (inB' b o e n hb),λ b o e n hb _=>slot b o e n hb,λ b o e n _=>?_,λ b o e _=>?_,
  λ b xs e=>un.tups b xs (ub.tups b xs e),λ b o u e=>un.frzs b o u (ub.frzs b o u e),λ b ps e=>?_⟩,okB,hE⟩
 ·obtain ⟨o1,e1⟩:=ub.there b o e (by simp)
  exact un.free b o1 e1 (ub.free b o e n (by simp)) (by simp)
 ·by_cases hb:b∈frs outer
  ·obtain ⟨sl,q⟩:=slot b o e (frf b hb) hb
   exact ⟨_,q⟩
  ·obtain ⟨o',q⟩:=thB' b o e hb
   exact ⟨o',Bs _ _ q⟩
 ·obtain ⟨m1,q1⟩:=ub.tbls b ps e
  obtain ⟨m2,q2⟩:=un.tbls b _ q1
  exact ⟨m1++m2,by rw [q2,Array.append_assoc]⟩
def RaisesTo (X:Cx) (Ex:Value->Hp->Prop):Prop:=∀(pins:List (Addr × Obj)) (σ:St) (H:Hp) (s:Shared) (h':Heap) (e C:Addr) (vs:List Value),Inv X pins σ H s->Heap.MadeExcOf s.heap h' e (.ref C) vs->Ex (.ref C) H->X.xe (.ref e) { s with heap:=h' }
theorem z2c:RaisesTo (cxOf (CX1 P w) P w K mg base N qual scope f cd A outer s H E) (λ c H'=>E c none H'):=by
 intro pins σ H1 s1 h' e C vs I hm hE
 have hfr:(cxOf (CX1 P w) P w K mg base N qual scope f cd A outer s H E).A.frames=some (envOfC qual scope s.heap.objs.size f cd::outer):=I.ok.frames
 have st:s1.heap.FunFrames base (envOfC qual scope s.heap.objs.size f cd::outer):=I.stack
 refine wpAny_leaves_madeW (base:=W.hideAll s1.heap (frs (envOfC qual scope s.heap.objs.size f cd::outer))) hfr rfl (λ b o q=>W.of_hideAll _ q) (W.funFrames_hide st x6e) hm λ h'' t fl'' tp nt up''=>?_
 have ub:Un (frs outer) [] H H1 s.heap s1.heap:=I.base
 have Bs:=fl''.1
 have stk:∀b,b ∉ frs outer->b < s.heap.objs.size->b ∉ frs (envOfC qual scope s.heap.objs.size f cd::outer):=λ b hb hlt z=>by
  rcases List.mem_cons.mp (I.stkSub b z) with q | q
  ·have q:b=s.heap.objs.size:=q
   exact Nat.lt_irrefl _ (q ▸ hlt)
  ·exact hb q
 have inB':∀b o,s.heap.get? b=some o->H b=none->b ∉ frs outer->(W.hideAll s1.heap (frs (envOfC qual scope s.heap.objs.size f cd::outer))).get? b=some o:=λ b o e n hb =>
  W.hideAll_get _ (ub.keep b o e n hb (by simp)) (stk b hb (Heap.lt_size e))
 have thB':∀b o,s.heap.get? b=some o->b ∉ frs outer->∃o',(W.hideAll s1.heap (frs (envOfC qual scope s.heap.objs.size f cd::outer))).get? b=some o':=λ b o e hb=>by
  obtain ⟨o1,e1⟩:=ub.there b o e (by simp)
  exact ⟨o1,W.hideAll_get _ e1 (stk b hb (Heap.lt_size e))⟩
 have slot:∀b o,s.heap.get? b=some o->H b=none->b∈frs outer->∃sl,h''.get? b=some { o with slots:=sl }:=λ b o e n hb=>by
  obtain ⟨sl1,e1⟩:=ub.slot b o e n hb (by simp)
  obtain ⟨_,o3,e3,nf⟩:=I.ok.funs.mem hb
  have e3:s.heap.get? b=some o3:=e3
  rw [e] at e3;cases e3
  obtain ⟨sl3,e4⟩:=up'' b _ (hm.keeps _ _ e1) nf
  exact ⟨sl3,e4⟩
 have frf:∀b∈frs outer,H b=none:=I.ok.frf
 refine ⟨e,C,.ref t,H1,_,rfl,I.os,I.bare,fl'',inB',thB',⟨λ b o e n hb _=>Bs _ _ (inB' b o e n hb),λ b o e n hb _=>slot b o e n hb,λ b o e n _=>ub.free b o e n (by simp),λ b o e _=>?_,
  ub.tups,ub.frzs,ub.tbls⟩,x0i I.hok I.stkFree,hE⟩
 by_cases hb:b∈frs outer
 ·obtain ⟨sl,q⟩:=slot b o e (frf b hb) hb
  exact ⟨_,q⟩
 ·obtain ⟨o',q⟩:=thB' b o e hb
  exact ⟨o',Bs _ _ q⟩
end
def tRaise (C:Addr) (Ex:Value->Hp->Prop) (t:TA):TS:=λ _ σ H=>t σ H λ vs H1=>vs.length≤sizeLine/\Ex (.ref C) H1
theorem z1p {X:Cx}{x:Str}{C:Addr}{B newId initId:String}{bm:List Value}{np cpos pos:Pos}{e₀:Expr}{es:List Expr}{t:TA}{Ex:Value->Hp->Prop}
  (FB:ExcBaseFacts B newId initId bm) (hc:X.calm=true) (hg:Gl X x) (hn:W.nsIn X.K mainGlobals x=some (some (.ref C))) (hq:W.excIn X.K C bm newId=true) (hx:RaisesTo X Ex) (ha:PA X (e₀::es) t)
  (hs:starEach (e₀::es) X.env=(false,eval e₀ X.env)::starEach es X.env:=by rfl) (hpl:(backTo cpos (starEach es X.env)).any (·.1)=false:=by rfl) (hd:(x == ("__debug__" : Str))=false:=by decide) :
  PS X (.Raise (some (.Call (.Name x np) (e₀::es) [] cpos)) none pos) (tRaise C Ex t):=by
 intro pins s σ H D I h
 have O:=x2t I.ok.mod.kin I.ok.mod.glob hn hq
 obtain ⟨tl,Nn,n1,q1,b1,d1,m1,u1,a1,l1,dd1,j0,j1,j2,j3,j5,mN,hC,hN,hni,T⟩:=O.obj
 refine wpAny_Raise_call_subT (C:=C) (nm:=n1) (q:=q1) (N:=Nn) (bs:=b1) (bm:=tl) (hdct:=d1) (sn:=m1) (sub:=u1) (ab:=a1) (col:=l1) (dd:=dd1) (k0:=j0) (k1:=j1) (k2:=j2) (k3:=j3) (k5:=j5) (mN:=mN)
  FB (T.hasType FB.hasBase) (I.ok.hd hc) (by rw [hs];show (false || (backTo cpos (starEach es X.env)).any (·.1))=false;rw [hpl];rfl) hni (z8y I hg O.bound ⟨rfl,?_⟩ hd)
 have hA:=ha cpos pins s σ H _ I h
 rw [hs] at hA ⊢
 refine Calls.evalArgs_plain (thn hA λ us s2 ⟨vs,H2,I2,r2,hz,hE⟩=>⟨rfl,?_,I2.bk _ _ hC,hN.keeps I2.bk,T.keeps I2.bk,λ h' e hm=>hx pins σ H2 s2 h' e C us I2 hm hE⟩)
 show us.length≤sizeLine
 rw [← r2.length]
 exact hz
section
variable {P:Program}{w:World}{K:W.Frag}{mg:Str->Option Value}{base:Heap}
theorem Fun.okX {x qual:Str}{st:Stmt}{f:Addr}{fd:FuncData}{N ps:List Str}{k:Nat}{sp:Sp}(F:Fun K x qual st f fd) (S:FnScope N ps (defScope st)) (len:∀vs H Q E,sp vs H Q E->vs.length=ps.length)
  (hbody:∀(cdv:Value) (A:Around) (outer:List Env) (s:Shared) (H:Hp) (vs:List V) (Q:VK) (E:XK),Room k (A.deeper (envOfC qual (defScope st) s.heap.objs.size f cdv))->sp vs H Q E ->
   ∃t,PSs (cxOf (CX1 P w) P w K mg base N qual (defScope st) f cdv A outer s H E) (defBody st) t/\t { nx:=λ _ H'=>Q .non H',rt:=Q } (start N vs) H):FnOk P w K mg base (CX1 P w) (k+1) f fd ps sp:=by
 obtain ⟨oc,od,kV,doc,pm,an,cdv,ct,osl,rfl,lk,hcd⟩:=F.ex
 exact x0v lk hcd S len λ A outer s H vs Q E hr hsp=>hbody cdv A outer s H vs Q E hr hsp
theorem FnOk.up {k:Nat}{f:Addr}{fd:FuncData}{ps:List Str}{sp:Sp}(F:FnOk P w K mg base CX0 k f fd ps sp):FnOk P w K mg base (CX1 P w) k f fd ps sp :=
 ⟨F.len,λ A outer s H args us vs Q E h1 h2 h3 h4 h5=>codeAny_mono (F.run A outer s H args us vs Q E h1 h2 h3 h4 h5) λ r s' q=>by
  cases r with
  | error e=>exact False.elim q
  | ok fl=>cases fl<;>exact q⟩
end
theorem z1l {P:Program}{w:World}{X:Cx}:Passes (CX1 P w) X E0:=λ _ _ _ _ _ _ _ h=>by
 obtain ⟨_,_,_,_,_,_,_,_,_,_,_,_,_,q⟩:=h
 exact q.elim
def ExcO (a C:Addr):HO:=.ext λ h=>∃o vs,h.get? a=some o/\o.cls=.ref C/\o.data=.fields vs
section
variable {X:Cx}{pins:List (Addr × Obj)}{σ:St}{H:Hp}{s:Shared}
theorem Inv.track {a:Addr}{o:HO}(I:Inv X pins σ H s) (hn:H a=none) (new:ObjOk X.prog X.w (upd H a o) s.heap a o) (h1:a≠X.env.locals) (h2:∀x c,X.env.cells.lookup x=some c->c≠a) (h3:∀p∈X.pn++pins,p.1≠a)
  (h4:X.s₀.heap.get? a=none):Inv X pins σ (upd H a o) s:=by
 have ne:∀b u,H b=some u->b≠a:=λ b u e z=>by rw [z,hn] at e;cases e
 have n0:∀b u,X.s₀.heap.get? b=some u->b≠a:=λ b u e z=>by rw [z,h4] at e;cases e
 refine ⟨I.ok,I.os,I.bare,⟨I.base.keep,I.base.slot,λ b u e n hx=>?_,I.base.there,λ b xs e=>?_,λ b u v e=>?_,λ b ps e=>?_⟩,I.loc,I.cell,?_,λ x c e=>?_,λ p hp=>?_,λ b u e=>?_,I.len⟩
 ·rw [z0p (n0 b u e)];exact I.base.free b u e n hx
 ·have q:=I.base.tups b xs e
  rw [z0p (ne b _ q)];exact q
 ·have q:=I.base.frzs b u v e
  rw [z0p (ne b _ q)];exact q
 ·obtain ⟨more,q⟩:=I.base.tbls b ps e
  exact ⟨more,by rw [z0p (ne b _ q)];exact q⟩
 ·rw [z0p (Ne.symm h1)];exact I.free
 ·rw [z0p (h2 x c e)];exact I.freeC x c e
 ·obtain ⟨e,n,ne,nf,d⟩:=I.pin p hp
  exact ⟨e,by rw [z0p (h3 p hp)];exact n,ne,nf,d⟩
 ·by_cases hb:b=a
  ·subst hb;rw [z0h] at e;cases e;exact new
  ·rw [z0p hb] at e
   exact (I.hok b u e).stay (λ c v _ q=>q) (λ c q=>by rw [z0p (ne c _ q)];exact q) λ c xs q=>by rw [z0p (ne c _ q)];exact q
end
abbrev Cx.more (X:Cx) (xe:Value->Shared->Prop) (pn:List (Addr × Obj)):Cx:={ X with xe:=xe,pn:=pn }
theorem Cx.Ok.more {X:Cx}(ok:X.Ok) (xe:Value->Shared->Prop) (pn:List (Addr × Obj)):(X.more xe pn).Ok :=
 ⟨ok.mod,ok.kind,ok.glob,ok.blt,ok.above,ok.inj,ok.has,ok.cab,ok.hd,ok.frames,ok.stk,ok.exf,ok.bs,ok.bsz,ok.noex,ok.exfs,ok.funs,ok.frf⟩
section
variable {X:Cx}{CX:CXT}{k:Nat}{f:Addr}{fd:FuncData}{ps:List Str}{sp:Sp}{dvs:List V}{ds:List Value}{EE:St->XK}{x:Str}{p pos:Pos}{e:Expr}{es:List Expr}{t:TA}
def tCallX (sp:Sp) (dvs:List V) (EE:St->XK) (t:TA):TE:=λ σ H Q=>t σ H λ vs H1=>sp (vs++dvs) H1 Q (EE σ)
end
def goneEnds (D:Ends) (i:Nat):Ends:={ nx:=λ σ H=>D.nx (σ.set i none) H,rt:=D.rt,bk:=λ σ H=>D.bk (σ.set i none) H,ct:=λ σ H=>D.ct (σ.set i none) H }
def caughtBy (C:Addr) (i:Nat) (ts:TS) (D:Ends):St->XK:=λ σ1 cls _ H1=>cls=.ref C/\∀a,H1 a=none->ts (goneEnds D i) (σ1.set i (some (.ref a))) (upd H1 a (ExcO a C))
def tTry (C:Addr) (i:Nat) (tb:(St->XK)->TS) (ts:TS):TS:=λ D σ H=>tb (caughtBy C i ts D) D σ H
structure Callee (P:Program) (w:World) (K:W.Frag) (mg:Str->Option Value) (base:Heap) (CX:CXT) (k:Nat) (x:Str) (ps:List Str) (sp:Sp):Prop where
 has:∃(f:Addr) (fd:FuncData),FnOk P w K mg base CX k f fd ps sp/\mg x=some (.ref f)/\W.keepIn K (.ref f)=true/\Binds K fd ps []
theorem Callee.mk' {P:Program}{w:World}{K:W.Frag}{mg:Str->Option Value}{base:Heap}{CX:CXT}{k:Nat}{x qual:Str}{st:Stmt}{f:Addr}{fd:FuncData}{ps:List Str}{sp:Sp}(F:Fun K x qual st f fd) (m:mg x=some (.ref f)) (b:Binds K fd ps [])
  (ok:FnOk P w K mg base CX k f fd ps sp):Callee P w K mg base CX k x ps sp:=⟨⟨f,fd,ok,m,F.kp,b⟩⟩
theorem Callee.mono {P:Program}{w:World}{K:W.Frag}{mg:Str->Option Value}{base:Heap}{CX:CXT}{j k:Nat}{x:Str}{ps:List Str}{sp:Sp}(c:Callee P w K mg base CX j x ps sp) (h:j≤k):Callee P w K mg base CX k x ps sp :=
 let ⟨f,fd,ok,m,kp,b⟩:=c.has;⟨⟨f,fd,ok.mono h,m,kp,b⟩⟩
section
variable {X:Cx}{CX:CXT}{k:Nat}{ps:List Str}{sp:Sp}{E:XK}{x:Str}{p pos:Pos}{e:Expr}{es:List Expr}{t:TA}
theorem z0g (c:Callee X.prog X.w X.K X.mg X.base CX k x ps sp) (hr:Room k X.A) (hg:Gl X x) (hx:Passes CX X E) (ha:PA X (e::es) t) (hdb:(x == ("__debug__" : Str))=false:=by decide)
  (he:starEach (e::es) X.env=(false,eval e X.env)::starEach es X.env:=by rfl) (hpl:(backTo pos (starEach es X.env)).any (·.1)=false:=by rfl):PE X (.Call (.Name x p) (e::es) [] pos) (tCall sp [] E t):=by
 obtain ⟨f,fd,ok,m,kp,b⟩:=c.has
 exact x2r ok hr hg m kp b .nil hx ha hdb he hpl
theorem y2y:CallR X (.builtin "isinstance") (λ xs H Q=>∃x n t b,xs=[x,.ty n]/\TyOf X.K H x t/\W.kitOne X.K t (.type n)=some b/\Q (.bl b) H):=by
 intro pins s σ H xs us Q I r h
 obtain ⟨x,n,t,b,rfl,ty,e,q⟩:=h
 obtain ⟨u,w',rfl,rx,ry⟩:=y9f r
 cases (show w'=Value.type n from ry)
 exact y7i I rx ty e λ tk=>⟨.bl b,H,I.tok tk,rfl,q⟩
end
theorem z9k {scope:Scope}{env:Env}(hfree:∀y∈scope.names,y.2≠.free):(relabel scope env).names=scope.names:=by
 show scope.names.map _=scope.names
 have all:∀l:List (Str × NameKind),(∀y∈l,y.2≠.free)->(l.map λ (x:Str × NameKind)=>match x with | (n,k)=>if (k == .free && env.scope.kind == .function && env.kindOf n == some .cell) then (n,.cell) else (n,k))=l:=by
  intro l
  induction l with
  | nil=>intro _;rfl
  | cons y r ih =>
   intro hy
   obtain ⟨n,k⟩:=y
   have hk:(k == NameKind.free)=false:=by simpa using hy (n,k) (List.mem_cons_self ..)
   rw [List.map_cons,ih λ z hz=>hy z (List.mem_cons_of_mem _ hz)]
   simp [hk]
 exact all _ hfree
theorem y2h {X:Cx}{elt tg iter:Expr}{scope:Scope}{pos:Pos}{own:List Str}{wi:TI}{g:TG}{te:TE}
  (hc:X.calm=true) (hi:PI X tg iter wi) (hcell:∀y∈scope.names,y.2≠.cell) (hfree:∀y∈scope.names,y.2≠.free) (hkind:scope.kind=.function)
  (hnames:∀y∈scope.names,y.2=.local->scope.names.lookup y.1=some .local)
  (hg:∀(C:Addr) (ex:List Addr) (s:Shared) (H:Hp),PG (cxComp X own scope [] C ex s H) tg g)
  (he:∀(C:Addr) (ex:List Addr) (s:Shared) (H:Hp),PE (cxComp X own scope [] C ex s H) elt te)
  (hs:∀x,foldedSetIterable iter X.env x=pure x:=by intro _;rfl) :
  PE X (.ListComp elt [⟨tg,iter,[],0⟩] scope pos) (tComp wi own.length [] g te):=by
 refine z4j (own:=own) (fv:=[]) (js:=[]) (cl:=[]) hc hi (closureFor_none hfree) hcell hkind hnames (λ x c h=>by cases h) (λ x h=>?_) rfl (λ i x j h=>by simp at h) (by simpa using hg) (by simpa using he) hs
 rw [z9k hfree] at h
 rcases h with h | h
 ·exact absurd rfl (hcell _ (PySem.mem_of_lookup h))
 ·exact absurd rfl (hfree _ (PySem.mem_of_lookup h))
def CDivW (i j:Int):Prop:=j≠0/\-18446744073709551616 < j/\j < 18446744073709551616
theorem y7a {y:Int}(h0:-18446744073709551616 < y) (h1:y < 18446744073709551616):y.natAbs.log2 < 9000:=by
 by_cases z:y.natAbs=0
 ·rw [z];decide
 ·exact Nat.lt_of_lt_of_le ((Nat.log2_lt z).mpr (show y.natAbs < 2 ^ 64 by omega)) (by decide)
theorem z5g {X:Cx}:OpR X (binaryOp .FloorDiv) (rI CDivW λ i j=>.int (i.fdiv j)):=opI λ _ _ _ _ _ _ _ hc q=>floordiv_int hc.1 q (.inl (PyProof.noPylong_of_log2 (y7a hc.2.1 hc.2.2)))
section
variable {K:W.Frag}
def LoopL (K:PySem.W.Frag) (g:TG) (tb:TS) (D:Ends) (σ:St) (x:V) (H1:Hp):Prop:=∃a,x=.ref a/\(∃xs,SqL K H1 a xs)/\∃W:Nat->Nat->St->Hp->Prop,(∃m,W 0 m σ H1)/\∀i m σ H,W i m σ H ->
 ((Itl K a).stop i H/\D.nx σ H)\/((Itl K a).go i H/\∃N:St->Hp->Prop,(∀σ' H',N σ' H'->∃m',m' < m/\W (i+1) m' σ' H')/\∀x H',(Itl K a).yld i H x H'->g x σ H' λ σ2 H2=>tb { D with nx:=N,ct:=N,bk:=D.nx } σ2 H2)
def LoopT (K:PySem.W.Frag) (g:TG) (tb:TS) (D:Ends) (σ:St) (x:V) (H1:Hp):Prop:=∃a,x=.ref a/\(∃xs,SqT K H1 a xs)/\∃W:Nat->Nat->St->Hp->Prop,(∃m,W 0 m σ H1)/\∀i m σ H,W i m σ H ->
 ((Itt K a).stop i H/\D.nx σ H)\/((Itt K a).go i H/\∃N:St->Hp->Prop,(∀σ' H',N σ' H'->∃m',m' < m/\W (i+1) m' σ' H')/\∀x H',(Itt K a).yld i H x H'->g x σ H' λ σ2 H2=>tb { D with nx:=N,ct:=N,bk:=D.nx } σ2 H2)
def LoopR (lo:Int) (n:Nat) (g:TG) (tb:TS) (D:Ends) (σ:St) (H1:Hp):Prop:=∃W:Nat->Nat->St->Hp->Prop,(∃m,W 0 m σ H1)/\∀i m σ H,W i m σ H ->
 ((Itr lo n).stop i H/\D.nx σ H)\/((Itr lo n).go i H/\∃N:St->Hp->Prop,(∀σ' H',N σ' H'->∃m',m' < m/\W (i+1) m' σ' H')/\∀x H',(Itr lo n).yld i H x H'->g x σ H' λ σ2 H2=>tb { D with nx:=N,ct:=N,bk:=D.nx } σ2 H2)
theorem x3l {te:TE}{g:TG}{tb:TS}{D:Ends}{σ:St}{H:Hp}:tFor (iList K te) g tb D σ H=te σ H λ x H1=>LoopL K g tb D σ x H1:=rfl
theorem x3j {te:TE}{g:TG}{tb:TS}{D:Ends}{σ:St}{H:Hp}:tFor (iTup K te) g tb D σ H=te σ H λ x H1=>LoopT K g tb D σ x H1:=rfl
theorem x0t {ta:TA}{g:TG}{tb:TS}{D:Ends}{σ:St}{H:Hp}:tFor (iRng1 ta) g tb D σ H=ta σ H λ vs H1=>∃j:Int,vs=[.int j]/\-(2 ^ 62)≤j/\j < 2 ^ 62/\LoopR 0 j.toNat g tb D σ H1:=rfl
theorem x0s {ta:TA}{g:TG}{tb:TS}{D:Ends}{σ:St}{H:Hp}:tFor (iRng2 ta) g tb D σ H=ta σ H λ vs H1=>∃i j:Int,vs=[.int i,.int j]/\(-(2 ^ 62)≤i/\i < 2 ^ 62/\-(2 ^ 62)≤j/\j < 2 ^ 62)/\LoopR i (j - i).toNat g tb D σ H1:=rfl
theorem LoopL.mk {a:Addr}{xs:List V}{g:TG}{tb:TS}{D:Ends}{σ:St}{H:Hp}(hS:SqL K H a xs) (Pv:Nat->St->Hp->Prop) (h0:Pv 0 σ H) (hl:∀i σ H,i≤xs.length->Pv i σ H->SqL K H a xs)
  (hs:∀i x σ H,xs[i]?=some x->Pv i σ H->g x σ H λ σ2 H2=>tb { D with nx:=Pv (i+1),ct:=Pv (i+1),bk:=D.nx } σ2 H2) (hd:∀σ H,Pv xs.length σ H->D.nx σ H):LoopL K g tb D σ (.ref a) H:=⟨a,rfl,⟨xs,hS⟩,x0m Pv h0 hl hs hd⟩
theorem LoopT.mk {a:Addr}{xs:List V}{g:TG}{tb:TS}{D:Ends}{σ:St}{H:Hp}(hS:SqT K H a xs) (Pv:Nat->St->Hp->Prop) (h0:Pv 0 σ H) (hl:∀i σ H,i≤xs.length->Pv i σ H->SqT K H a xs)
  (hs:∀i x σ H,xs[i]?=some x->Pv i σ H->g x σ H λ σ2 H2=>tb { D with nx:=Pv (i+1),ct:=Pv (i+1),bk:=D.nx } σ2 H2) (hd:∀σ H,Pv xs.length σ H->D.nx σ H):LoopT K g tb D σ (.ref a) H:=⟨a,rfl,⟨xs,hS⟩,x3f Pv h0 hl hs hd⟩
theorem LoopR.mk {lo:Int}{n:Nat}{g:TG}{tb:TS}{D:Ends}{σ:St}{H:Hp}(Pv:Nat->St->Hp->Prop) (h0:Pv 0 σ H)
  (hs:∀i σ H,i < n->Pv i σ H->g (.int (lo+i)) σ H λ σ2 H2=>tb { D with nx:=Pv (i+1),ct:=Pv (i+1),bk:=D.nx } σ2 H2) (hd:∀σ H,Pv n σ H->D.nx σ H):LoopR lo n g tb D σ H:=y7r Pv h0 hs hd
def CompL (K:PySem.W.Frag) (k:Nat) (js:List Nat) (g:TG) (te:TE) (σ:St) (x:V) (H1:Hp) (Q:VK):Prop:=∃a,x=.ref a/\(∃xs,SqL K H1 a xs)/\∃W:Nat->Nat->List V->St->Hp->Prop,(∃m,W 0 m [] (compSt k js σ) H1)/\∀i m ys σ' H',W i m ys σ' H' ->
  ((Itl K a).stop i H'/\∀p,H' p=none->Q (.ref p) (upd H' p (.lst ys))) \/
  ((Itl K a).go i H'/\ys.length < sizeLine/\∃N:List V->St->Hp->Prop,(∀zs σ2 H2,N zs σ2 H2->∃m',m' < m/\W (i+1) m' zs σ2 H2)/\∀x H2,(Itl K a).yld i H' x H2->g x σ' H2 λ σ3 H3=>te σ3 H3 λ v H4=>N (ys++[v]) σ3 H4)
def CompT (K:PySem.W.Frag) (k:Nat) (js:List Nat) (g:TG) (te:TE) (σ:St) (x:V) (H1:Hp) (Q:VK):Prop:=∃a,x=.ref a/\(∃xs,SqT K H1 a xs)/\∃W:Nat->Nat->List V->St->Hp->Prop,(∃m,W 0 m [] (compSt k js σ) H1)/\∀i m ys σ' H',W i m ys σ' H' ->
  ((Itt K a).stop i H'/\∀p,H' p=none->Q (.ref p) (upd H' p (.lst ys))) \/
  ((Itt K a).go i H'/\ys.length < sizeLine/\∃N:List V->St->Hp->Prop,(∀zs σ2 H2,N zs σ2 H2->∃m',m' < m/\W (i+1) m' zs σ2 H2)/\∀x H2,(Itt K a).yld i H' x H2->g x σ' H2 λ σ3 H3=>te σ3 H3 λ v H4=>N (ys++[v]) σ3 H4)
def CompR (lo:Int) (n k:Nat) (js:List Nat) (g:TG) (te:TE) (σ:St) (H1:Hp) (Q:VK):Prop:=∃W:Nat->Nat->List V->St->Hp->Prop,(∃m,W 0 m [] (compSt k js σ) H1)/\∀i m ys σ' H',W i m ys σ' H' ->
  ((Itr lo n).stop i H'/\∀p,H' p=none->Q (.ref p) (upd H' p (.lst ys))) \/
  ((Itr lo n).go i H'/\ys.length < sizeLine/\∃N:List V->St->Hp->Prop,(∀zs σ2 H2,N zs σ2 H2->∃m',m' < m/\W (i+1) m' zs σ2 H2)/\∀x H2,(Itr lo n).yld i H' x H2->g x σ' H2 λ σ3 H3=>te σ3 H3 λ v H4=>N (ys++[v]) σ3 H4)
theorem x1f {k:Nat}{js:List Nat}{ti:TE}{g:TG}{te:TE}{σ:St}{H:Hp}{Q:VK}:tComp (iList K ti) k js g te σ H Q=ti σ H λ x H1=>CompL K k js g te σ x H1 Q:=rfl
theorem x1d {k:Nat}{js:List Nat}{ti:TE}{g:TG}{te:TE}{σ:St}{H:Hp}{Q:VK}:tComp (iTup K ti) k js g te σ H Q=ti σ H λ x H1=>CompT K k js g te σ x H1 Q:=rfl
theorem y8n {k:Nat}{js:List Nat}{ta:TA}{g:TG}{te:TE}{σ:St}{H:Hp}{Q:VK}:tComp (iRng1 ta) k js g te σ H Q=ta σ H λ vs H1=>∃j:Int,vs=[.int j]/\-(2 ^ 62)≤j/\j < 2 ^ 62/\CompR 0 j.toNat k js g te σ H1 Q:=rfl
theorem CompL.mk {a:Addr}{xs:List V}{k:Nat}{js:List Nat}{g:TG}{te:TE}{Q:VK}{σ:St}{H:Hp}(hS:SqL K H a xs) (Pv:Nat->List V->St->Hp->Prop) (h0:Pv 0 [] (compSt k js σ) H) (hl:∀i ys σ H,i≤xs.length->Pv i ys σ H->SqL K H a xs)
  (hs:∀i x ys σ H,xs[i]?=some x->Pv i ys σ H->ys.length < sizeLine/\g x σ H λ σ3 H3=>te σ3 H3 λ v H4=>Pv (i+1) (ys++[v]) σ3 H4) (hd:∀ys σ H,Pv xs.length ys σ H->∀p,H p=none->Q (.ref p) (upd H p (.lst ys))) :
  CompL K k js g te σ (.ref a) H Q:=⟨a,rfl,⟨xs,hS⟩,y8f Pv h0 hl hs hd⟩
theorem CompT.mk {a:Addr}{xs:List V}{k:Nat}{js:List Nat}{g:TG}{te:TE}{Q:VK}{σ:St}{H:Hp}(hS:SqT K H a xs) (Pv:Nat->List V->St->Hp->Prop) (h0:Pv 0 [] (compSt k js σ) H) (hl:∀i ys σ H,i≤xs.length->Pv i ys σ H->SqT K H a xs)
  (hs:∀i x ys σ H,xs[i]?=some x->Pv i ys σ H->ys.length < sizeLine/\g x σ H λ σ3 H3=>te σ3 H3 λ v H4=>Pv (i+1) (ys++[v]) σ3 H4) (hd:∀ys σ H,Pv xs.length ys σ H->∀p,H p=none->Q (.ref p) (upd H p (.lst ys))) :
  CompT K k js g te σ (.ref a) H Q:=⟨a,rfl,⟨xs,hS⟩,x1a Pv h0 hl hs hd⟩
theorem CompR.mk {lo:Int}{n k:Nat}{js:List Nat}{g:TG}{te:TE}{Q:VK}{σ:St}{H:Hp}(Pv:Nat->List V->St->Hp->Prop) (h0:Pv 0 [] (compSt k js σ) H)
  (hs:∀i ys σ H,i < n->Pv i ys σ H->ys.length < sizeLine/\g (.int (lo+i)) σ H λ σ3 H3=>te σ3 H3 λ v H4=>Pv (i+1) (ys++[v]) σ3 H4) (hd:∀ys σ H,Pv n ys σ H->∀p,H p=none->Q (.ref p) (upd H p (.lst ys))) :
  CompR lo n k js g te σ H Q:=y4h Pv h0 hs hd
end
theorem x6j {CX:CXT}{P:Program}{w:World}{K:W.Frag}{mg:Str->Option Value}{base:Heap}{N:List Str}{qual:Str}{scope:Scope}{f:Addr}{cd:Value}{A:Around}{outer:List Env}{s:Shared}{H:Hp}{E:XK}:(cxOf CX P w K mg base N qual scope f cd A outer s H E).K=K:=rfl
theorem x0y {X:Cx}{N:List Str}{scope:Scope}{cl:List (Str × Addr)}{C:Addr}{ex:List Addr}{s:Shared}{H:Hp}:(cxComp X N scope cl C ex s H).K=X.K:=rfl
def tyS:V->Option String
 | .int _=>some "int"
 | .bl _=>some "bool"
 | .str _=>some "str"
 | .non=>some "NoneType"
 | _=>none
def isiN (t n:String):Bool:=t == n || (t == "bool" && n == "int")
def isiB (x:V) (n:String):Bool:=match tyS x with
 | some t=>isiN t n
 | none=>false
theorem x5y {i:Int}:isiB (.int i) "int" = true:=by show isiN "int" "int" = true;decide +kernel
theorem x5z {i:Int}:isiB (.int i) "bool" = false:=by show isiN "int" "bool" = false;decide +kernel
theorem x6a {b:Bool}:isiB (.bl b) "int" = true:=by show isiN "bool" "int" = true;decide +kernel
theorem x6b {b:Bool}:isiB (.bl b) "bool" = true:=by show isiN "bool" "bool" = true;decide +kernel
theorem x5x {i:Int}:isiB (.int i) "tuple" = false:=by show isiN "int" "tuple" = false;decide +kernel
theorem y2s {K:W.Frag}{t n:String}{b:Bool}(e:(if (Value.type t == Value.type n)=true then some true else if W.kitMeta n=true then (fastBuiltinMro t).map (·.contains (.type n)) else none)=some b):W.kitOne K (.type t) (.type n)=some b:=by
 unfold W.kitOne
 split at e
 ·rename_i h;rw [if_pos h];exact e
 ·rename_i h;rw [if_neg h];exact e
theorem y7f {K:W.Frag}{x:V}{t n:String}(hn:n∈["int", "bool", "tuple", "list", "str"]) (ht:tyS x=some t):W.kitOne K (.type t) (.type n)=some (isiB x n):=by
 simp only [List.mem_cons,List.mem_nil_iff,or_false] at hn
 cases x<;>simp only [tyS,reduceCtorEq,Option.some.injEq] at ht<;>subst ht<;>rcases hn with rfl | rfl | rfl | rfl | rfl<;>refine y2s ?_<;>simp only [isiB,tyS]<;>decide +kernel
theorem y0d {X:Cx}:CallR X (.builtin "isinstance") (λ xs H Q=>∃x n,xs=[x,.ty n]/\(n∈["int", "bool", "tuple", "list", "str"]/\(tyS x).isSome=true)/\Q (.bl (isiB x n)) H):=by
 intro pins s σ H xs us Q I r h
 obtain ⟨x,n,rfl,⟨hn,hx⟩,q⟩:=h
 obtain ⟨t,ht⟩:=Option.isSome_iff_exists.mp hx
 refine y2y pins s σ H _ us Q I r ⟨x,n,.type t,isiB x n,rfl,?_,y7f hn ht,q⟩
 cases x<;>simp only [tyS,reduceCtorEq,Option.some.injEq] at ht<;>subst ht
 ·exact .non
 ·exact .bl _
 ·exact .int _
 ·exact .str _
theorem na2:(Int.natAbs 2 < 18446744073709551616)=True:=eq_true (by decide)
theorem x7o:(Int.natAbs 10 < 18446744073709551616)=True:=eq_true (by decide)
theorem z0e {H:Hp}{p:Addr}(h:H p=none) (o:HO):Same H (upd H p o):=λ b u q=>by rw [z0p (z1z q h)];exact q
theorem small {n:Nat}(h:n≤1000):n≤sizeLine:=Nat.le_of_lt (z0z h)
theorem Same.tup {K:W.Frag}{H H':Hp}{a:Addr}{xs:List V}(e:Same H H') (h:SqT K H a xs):SqT K H' a xs:=by
 rcases h with (h | ⟨o,h⟩) | h
 ·exact .inl (.inl (e _ _ h))
 ·exact .inl (.inr ⟨o,e _ _ h⟩)
 ·exact .inr h
theorem x3z {σ:St}(h:σ.length=1):∃z,σ=[z]:=by
 match σ,h with
 | [z],_=>exact ⟨z,rfl⟩
theorem y3i {α:Type}{l:List α}{i:Nat}{x:α}(h:l[i]?=some x):l.take (i+1)=l.take i++[x]:=by
 rw [List.take_succ,h];rfl
theorem CompL.vals {K:W.Frag}{a:Addr}{xs:List V}{te:TE}{Q:VK}{σ:St}{H:Hp}{fn:V->V}(hS:SqL K H a xs) (hz:xs.length≤1000)
  (hs:∀x∈xs,∀H1,Same H H1->∀Q':VK,(∀H2,Same H1 H2->Q' (fn x) H2)->te [some x] H1 Q')
  (hd:∀H1,Same H H1->∀p,H1 p=none->Q (.ref p) (upd H1 p (.lst (xs.map fn)))):CompL K 1 [] (gName 0) te σ (.ref a) H Q:=by
 refine CompL.mk hS (λ i ys σ' H'=>Same H H'/\ys=(xs.take i).map fn/\σ'.length=1) ⟨Same.refl _,rfl,rfl⟩ (λ i ys σ' H' _ h=>h.1.seq hS) (λ i x ys σ' H' e h=>?_) (λ ys σ' H' h p hp=>?_)
 ·obtain ⟨h1,rfl,h3⟩:=h
  obtain ⟨z,rfl⟩:=x3z h3
  refine ⟨?_,?_⟩
  ·rw [List.length_map,List.length_take]
   exact Nat.lt_of_le_of_lt (Nat.min_le_right _ _) (z0z hz)
  ·refine hs x (List.mem_of_getElem? e) H' h1 _ λ H2 h2=>⟨h1.trans h2,?_,rfl⟩
   rw [y3i e,List.map_append];rfl
 ·obtain ⟨h1,rfl,h3⟩:=h
  rw [List.take_length]
  exact hd H' h1 p hp
section
variable {X:Cx}
def rInT:R2:=λ x y H Q=>∃p xs,y=.ref p/\H p=some (.tup xs)/\flatV x=true/\xs.all flatV=true/\Q (.bl (inV x xs)) H
def rInL:R2:=λ x y H Q=>∃p xs,y=.ref p/\H p=some (.lst xs)/\flatV x=true/\xs.all flatV=true/\Q (.bl (inV x xs)) H
theorem x5b:OpR X (compareOp .In) rInT:=by
 intro pins s σ H x y v u Q I rx ry h
 obtain ⟨p,xs,rfl,hq,fx,fs,q⟩:=h
 exact y6f pins s σ H x _ v u Q I rx ry ⟨p,xs,rfl,.inr (.of hq),fx,fs,q⟩
def rIxLH:R2:=λ x y H Q=>∃p xs i v,x=.ref p/\y=.int i/\H p=some (.lst xs)/\atI xs i=some v/\Q v H
def rIxTH:R2:=λ x y H Q=>∃p xs i v,x=.ref p/\y=.int i/\H p=some (.tup xs)/\atI xs i=some v/\Q v H
theorem z6e:IxR X rIxLH:=by
 intro value slice pins s σ H x y v u Q I rx ry h hs
 obtain ⟨p,xs,i,z,rfl,rfl,hq,he,q⟩:=h
 exact z6x value slice pins s σ H _ _ v u Q I rx ry ⟨p,xs,i,z,rfl,rfl,.of hq,he,q⟩ hs
theorem z0r:IxR X rIxTH:=by
 intro value slice pins s σ H x y v u Q I rx ry h hs
 obtain ⟨p,xs,i,z,rfl,rfl,hq,he,q⟩:=h
 exact x5v value slice pins s σ H _ _ v u Q I rx ry ⟨p,xs,i,z,rfl,rfl,.of hq,he,q⟩ hs
end
section
variable {X:Cx}
def gTupH (n:Nat) (t:TGs):TG:=λ v σ H Q=>∃a xs,v=.ref a/\H a=some (.tup xs)/\xs.length=n/\t xs σ H Q
theorem z8m {es:List Expr}{k:Nat}{pos:Pos}{t:TGs}{n:Nat}(h:PG X (.Tuple es k pos) (gTup X.K n t)):PG X (.Tuple es k pos) (gTupH n t):=by
 intro pins s σ H v u Q I r q
 obtain ⟨a,xs,e,ha,hl,q⟩:=q
 exact h pins s σ H v u Q I r ⟨a,xs,e,.of ha,hl,q⟩
def tApp (to te:TE):TE:=λ σ H Q=>to σ H λ x H1=>∃l,x=.ref l/\(∃xs,H1 l=some (.lst xs))/\te σ H1 λ v H2=>∃xs,H2 l=some (.lst xs)/\xs.length < sizeLine/\Q .non (upd H2 l (.lst (xs++[v])))
theorem y2i {o e:Expr}{to te:TE}{apos cpos:Pos}(ho:PE X o to) (he:PE X e te)
  (hbase:attributeBase o "append" X.env (eval o X.env)=eval o X.env:=by rfl) (hfew:((backTo cpos (starEach [e] X.env)).all (λ x=>!x.1) && (backToKw cpos (keywordEach [] X.env)).all (λ x=>x.1.isSome)
   && decide ([e].length+([]:List Keyword).length+(if ([]:List Keyword).isEmpty then 0 else 1) < 30))=true:=by rfl)
  (hline:(apos.endLine == cpos.line)=true:=by rfl) (hs:starEach [e] X.env=[(false,eval e X.env)]:=by rfl):PE X (.Call (.Attribute o "append" apos) [e] [] cpos) (tApp to te):=by
 intro pins s σ H Q I h
 refine wpAny_Call_method_late hbase hfew hline rfl (thn (ho pins s σ H _ I h) λ v s1 ⟨x,H1,I1,r1,q1⟩=>?_)
 obtain ⟨l,rfl,⟨xs1,hx1⟩,q2⟩:=q1
 obtain ⟨h1,h2⟩:=x1j (T := "list") I1 r1 (.inl ⟨rfl,_,.of hx1⟩)
 refine ⟨"list", "list.append",PySem.F.plainAttrs_list,PySem.F.slot_list_append,PySem.F.type_list_append,h1,h2,?_⟩
 have hA:=(z0a he z0b hs) cpos pins s1 σ H1 (λ vs H2=>match vs with | [v]=>∃xs,H2 l=some (.lst xs)/\xs.length < sizeLine/\Q .non (upd H2 l (.lst (xs++[v]))) | _=>False) I1 q2
 rw [hs] at hA ⊢
 refine Calls.callWith_builtin rfl (Calls.evalArgs_plain ?_)
 refine thn hA λ us s2 ⟨vs,H2,I2,r2,q3⟩=>?_
 match vs,q3 with
 | [v2],⟨xs,hx,hz,q⟩=>exact y6u pins s2 σ H2 (.ref l) [v2] v us Q I2 r1 r2 ⟨l,xs,v2,rfl,rfl,hx,hz,q⟩
end
def SameX (l:Addr) (H H':Hp):Prop:=∀b o,b≠l->H b=some o->H' b=some o
theorem SameX.refl (l:Addr) (H:Hp):SameX l H H:=λ _ _ _ h=>h
theorem SameX.trans {l:Addr}{H H1 H2:Hp}(a:SameX l H H1) (b:SameX l H1 H2):SameX l H H2:=λ c o n h=>b c o n (a c o n h)
theorem SameX.set {l:Addr}(H:Hp) (o:HO):SameX l H (upd H l o):=λ b u n e=>by rw [z0p n];exact e
end L2
namespace L2
open PySem PySem.Spec PyProof.Rows PySem.W PySem.Calls
structure ExcK (K:W.Frag) (C:Addr):Prop where
 cls:(clsIn K C).isSome=true
 ga:findIn K (.ref C) "__getattribute__" = some (some (.builtin "BaseException.__getattribute__"))
 gt:findIn K (.ref C) "__getattr__" = some none
 cl:findIn K (.ref C) "__class__" = some (some (.builtin "object.__class__"))
 mo:mroIn K C (.type "object")=some true
 mb:mroIn K C (.type "BaseException")=some true
section
variable {prog:Program}{w:World}{A:Around}{E:Value->Shared->Prop}{K:W.Frag}{h:Heap}{g:Array GenState}{d:Drawn}{t:Nat}{os:OsState}{a C:Addr}{ox:Obj}
end
section
variable {X:Cx}
end
def rvObj (t:Addr) (i:Int):Obj:={ cls:=.type "reversed",data:=.fields #[.ref t,rawInt i] }
def IsRv (h:Heap) (a t:Addr) (i:Int):Prop:=∃o,h.get? a=some o/\o.cls=.type "reversed" /\ o.data=.fields #[.ref t,rawInt i]
theorem IsRv.typeIs {s:Shared}{a t:Addr}{i:Int}(x:IsRv s.heap a t i):s.TypeIs (.ref a) "reversed" := let ⟨o,ho,hc,_⟩:=x;⟨o,ho,hc⟩
theorem y4z:typeLookup (.type "tuple") "__reversed__" = pure none:=by rw [typeLookup_type,builtinLookup_eq_fast];kernel_rfl
theorem z6n:typeLookup (.type "tuple") "__getitem__" = pure (some (.builtin "tuple.__getitem__")):=by rw [typeLookup_type,builtinLookup_eq_fast];kernel_rfl
theorem y3g:isSubtype (.type "tuple") (.type "dict")=pure false:=by rw [isSubtype_type];kernel_rfl
theorem x2m:Slot "reversed" "__init__" "object.__init__" :=
 .of (owner := "object") (n := "__init__") (by rw [typeLookup_type,builtinLookup_eq_fast];kernel_rfl) (by decide +kernel) (by decide +kernel) (by decide +kernel) (.inl (by decide +kernel)) (by rw [isSubtype_type];kernel_rfl)
theorem rv_next:Slot "reversed" "__next__" "reversed.__next__" :=
 .of (owner := "reversed") (n := "__next__") (by rw [typeLookup_type,builtinLookup_eq_fast];kernel_rfl) (by decide +kernel) (by decide +kernel) (by decide +kernel) (.inl (by decide +kernel)) (by rw [isSubtype_type];kernel_rfl)
theorem y5r:Slot "reversed" "__iter__" "reversed.__iter__" :=
 .of (owner := "reversed") (n := "__iter__") (by rw [typeLookup_type,builtinLookup_eq_fast];kernel_rfl) (by decide +kernel) (by decide +kernel) (by decide +kernel) (.inl (by decide +kernel)) (by rw [isSubtype_type];kernel_rfl)
theorem z5a:entryFor table "reversed.__next__" = some Builtin.«reversed.__next__»:=entryFor_of_tree (by kernel_rfl)
theorem z8i:entryFor table "reversed.__iter__" = some Builtin.«dict_keyiterator.__iter__» :=
 entryFor_alias (id' := "dict_keyiterator.__iter__") (by kernel_rfl) (by first | rfl | decide +kernel) (by decide +kernel) (by kernel_rfl)
theorem z5w (a:Value):argsOk "reversed.__next__" ⟨[a],[]⟩:=by unfold argsOk;kernel_rfl
theorem z9j (a:Value):argsOk "reversed.__iter__" ⟨[a],[]⟩:=by unfold argsOk;kernel_rfl
theorem y5s:TypeCalled "reversed" "reversed.__new__" "object.__init__" :=
 ⟨by decide +kernel,PySem.F.create_reversed,⟨_,_,PySem.F.mro_reversed⟩,PySem.F.made_reversed,PySem.F.plain_reversed_new,PySem.F.sub_reversed_self,x2m⟩
theorem x4k (t:Addr) (items:Array Value) (hz:(items.size:Int) < 2 ^ 63):Meets (Builtin.«reversed.__new__» ⟨[.type "reversed",.ref t],[]⟩)
  (λ _ R s=>IsTup s.heap t items/\∀tk,R (.ok (.ret (.ref s.heap.objs.size))) { s with heap:=s.heap.push (rvObj t ((items.size:Int) - 1)),toks:=tk }) :=
 .of_wp λ prog w A R s h=>by
  obtain ⟨ht,h⟩:=h
  have hT:s.TypeIs (.ref t) "tuple" := ht.typeIs
  unfold Builtin.«reversed.__new__»
  refine wpAny_bind (wpAny_of_eq (PySem.newClass_reversed _) ?_)
  try dsimp only
  refine wpAny_bind (wpAny_of_eq (a:=()) (by first | rfl | kernel_rfl) ?_)
  refine wpAny_bind (wpAny_of_eq (a:=()) (by first | rfl | kernel_rfl) ?_)
  try dsimp only
  refine wpAny_bind (wpAny_specialOf hT y4z ?_)
  try dsimp only
  refine wpAny_bind ?_
  k_delta "hasItemSlot"
  refine wpAny_bind (wpAny_isInstance (T := "tuple") (b:=false) hT y3g ?_)
  rw [if_neg Bool.false_ne_true]
  refine wpAny_bind (wpAny_specialOf hT z6n ?_)
  dsimp only
  rw [if_pos (by decide +kernel)]
  refine wpAny_pure ?_
  rw [if_neg (by decide)]
  refine wpAny_bind (len_tuple ht hz ?_)
  refine wpAny_bind (wpAny_of_eq (a:=some (items.size:Int)) rfl ?_)
  dsimp only
  refine wpAny_bind ?_
  unfold Builtin.SmallTypes.newRecord
  refine wpAny_newObj_type (wpAny_pure ⟨_,rfl,h _⟩)
section
variable {prog:Program}{w:World}{A:Around}{E:Value->Shared->Prop}{s:Shared}
theorem x3s {t:Addr}{items:Array Value}{Q:Value->Shared->Prop}(ht:IsTup s.heap t items) (hz:(items.size:Int) < 2 ^ 63)
  (h:∀tk,Q (.ref s.heap.objs.size) { s with heap:=s.heap.push (rvObj t ((items.size:Int) - 1)),toks:=tk }):wpAny (model prog w) A (call (.type "reversed") [.ref t]) Q E s :=
 callType_new y5s (by decide) (PySem.F.typeCall_reversed_1 _) (PySem.F.newCall_reversed_1 _) (λ obj=>F.args_object_init_2 obj _) PySem.F.entry_reversed_new (x4k t items hz)
  ⟨ht,λ tk=>⟨⟨_,Heap.get?_push_size _ rfl,rfl⟩,h tk⟩⟩
theorem x2l {it t:Addr}{i:Nat}{items:Array Value}{x:Value}{Q:Option Value->Shared->Prop}(hit:IsRv s.heap it t (i:Int)) (ht:IsTup s.heap t items) (hx:items[i]?=some x) (hz:(items.size:Int) < 2 ^ 63)
  (hQ:∀h' tk,IsRv h' it t ((i:Int) - 1)->Heap.SameBut it s.heap h'->Q (some x) { s with heap:=h',toks:=tk }):wpAny (model prog w) A (pyNext (.ref it)) Q E s:=by
 obtain ⟨o,ho,hc,hd⟩:=id hit
 have hT:s.TypeIs (.ref t) "tuple" := ht.typeIs
 have hi:i < items.size:=(Array.getElem?_eq_some_iff.mp hx).1
 unfold pyNext
 refine wpAny_bind (wpAny_attempt (wpAny_callSpecial?_slot (name:=Str.ofString "__next__") hit.typeIs rv_next (wpAny_call_entry rv_next hit.typeIs z5a ?_ (z5w _))))
 unfold Builtin.«reversed.__next__»
 refine wpAny_bind (wpAny_of_eq (a:=(Value.ref it,[])) rfl ?_)
 try dsimp only
 refine wpAny_bind (wpAny_field ho hd (x:=.ref t) rfl ?_)
 refine wpAny_bind (wpAny_field ho hd (x:=rawInt (i:Int)) rfl ?_)
 show wpAny _ _ (if (i:Int) < 0 then _ else _) _ _ s
 rw [if_neg (by omega)]
 refine wpAny_bind (wpAny_specialOf hT z6n ?_)
 rw [if_neg (by decide)]
 refine wpAny_bind (wpAny_mkInt ?_)
 refine wpAny_bind (wpAny_attempt (getItem_tuple (k:=(i:Int)) (j:=i) ht (by omega) (by omega) (by simp [seqIndex?];omega) hx ?_))
 dsimp only
 refine wpAny_bind (wpAny_field ho hd (x:=rawInt (i:Int)) rfl ?_)
 show wpAny _ _ (setField (.ref it) 1 (rawInt ((i:Int) - 1)) >>= _) _ _ _
 refine wpAny_bind (wpAny_setField ho hd (by simp) ?_)
 refine wpAny_pure ⟨x,rfl,wpAny_pure (hQ _ _ ?_ (Heap.SameBut.update ..))⟩
 exact ⟨_,Heap.get?_update_self _ ho (Obj.isFreed_of_fields (Obj.data_mapFields hd _)),(Obj.cls_mapFields ..).trans hc,by rw [Obj.data_mapFields hd];simp⟩
theorem x4l {it t:Addr}{Q:Option Value->Shared->Prop}(hh:A.handled=none) (hit:IsRv s.heap it t (-1)) (hQ:∀h' tk,Heap.ExtBut it s.heap h'->Q none { s with heap:=h',toks:=tk }):wpAny (model prog w) A (pyNext (.ref it)) Q E s:=by
 obtain ⟨o,ho,hc,hd⟩:=id hit
 unfold pyNext
 refine wpAny_bind (wpAny_attempt (wpAny_callSpecial?_slot (name:=Str.ofString "__next__") hit.typeIs rv_next (wpAny_call_entry rv_next hit.typeIs z5a ?_ (z5w _))))
 unfold Builtin.«reversed.__next__»
 refine wpAny_bind (wpAny_of_eq (a:=(Value.ref it,[])) rfl ?_)
 try dsimp only
 refine wpAny_bind (wpAny_field ho hd (x:=.ref t) rfl ?_)
 refine wpAny_bind (wpAny_field ho hd (x:=rawInt (-1)) rfl ?_)
 show wpAny _ _ (if (-1:Int) < 0 then _ else _) _ _ s
 rw [if_pos (by decide)]
 refine wpAny_bind (wpAny_rule ?_)
 refine wpAny_bind ?_
 k_delta "reversedEnd"
 refine wpAny_bind (wpAny_setField ho hd (by simp) ?_)
 refine wpAny_setField (Heap.get?_update_self _ ho (Obj.isFreed_of_fields (Obj.data_mapFields hd _))) (Obj.data_mapFields hd _) (by simp) ?_
 refine wpAny_bind ?_
 have other:∀b u,b≠it->s.heap.get? b=some u->((s.heap.update it (Obj.mapFields λ x=>x.setIfInBounds 1 (rawInt (-1)))).update it (Obj.mapFields λ x=>x.setIfInBounds 0 Value.none)).get? b=some u:=λ b u nb e=>by
  rw [Heap.get?_update_other _ _ (Ne.symm nb),Heap.get?_update_other _ _ (Ne.symm nb)];exact e
 generalize ((s.heap.update it (Obj.mapFields λ x=>x.setIfInBounds 1 (rawInt (-1)))).update it (Obj.mapFields λ x=>x.setIfInBounds 0 Value.none))=hU at *
 show wpAny _ _ (newExc (.type "StopIteration") [] >>= _) _ _ _
 refine wpAny_bind ?_
 simp only [newExc,newTuple]
 refine wpAny_bind (wpAny_newObj_type ?_ (by size_fits))
 refine wpAny_bind (m:=firstArgMember _ _) (wpAny_of_eq (a:=Value.none) (by first | rfl | (simp only [firstArgMember];rfl)) ?_)
 refine wpAny_newObj_type ?_ (by size_fits)
 simp only [raiseNew]
 refine wpAny_bind (wpAny_handled ?_)
 rw [show A.in1.handled=none from hh]
 refine wpAny_bind (wpAny_pure (wpAny_throw ?_))
 refine wpAny_bind (wpAny_isInstance (T := "StopIteration") (b:=true) ⟨_,Heap.get?_push_size _ rfl,rfl⟩ isSubtype_stop ?_)
 exact wpAny_pure (hQ _ _ λ b u nb e=>Heap.get?_push_of_some _ (Heap.get?_push_of_some _ (other b u nb e)))
theorem y5q {it t:Addr}{i:Int}{Q:Value->Shared->Prop}(hit:IsRv s.heap it t i) (h:Q (.ref it) s):wpAny (model prog w) A (pyIter (.ref it)) Q E s:=by
 refine wpAny_pyIter_slot hit.typeIs y5r (wpAny_call_entry y5r hit.typeIs z8i ?_ (z9j _))
 show wpAny _ _ (ret (.ref it)) _ _ s
 exact wpAny_pure ⟨_,rfl, "reversed",_,hit.typeIs,rv_next.lookup,h⟩
end
def Itrv (K:W.Frag) (a:Addr) (n:Nat):It:=⟨λ i H=>∃xs,SqT K H a xs/\xs.length=n/\i < n,λ i H x H'=>H'=H/\∀xs,SqT K H a xs->xs[n - 1 - i]?=some x,λ i H=>∃xs,SqT K H a xs/\xs.length=n/\i=n⟩
theorem y7b:(sizeLine:Int) < 2 ^ 63:=by rw [sizeLine_eq];decide
theorem x2h {P:Program}{w:World}{K:W.Frag}{tg:Expr}(a it:Addr) (n:Nat):Turn P w K tg (Itrv K a n) [it] it (λ i h=>IsRv h it a ((n:Int) - 1 - (i:Int))) where
 mem:=by simp
 obj:=λ i h x b hb=>by
  have e:b=it:=by simpa using hb
  subst e
  obtain ⟨o,ho,_,hd⟩:=x
  exact ⟨o,ho,λ v q=>by rw [hd] at q;cases q⟩
 keep:=λ i h h' x k=>let ⟨o,ho,r⟩:=x;⟨o,k it (by simp) o ho,r⟩
 item:=by
  intro X hP hw hK hc i pins s σ H E I hf st hg
  subst hP hw hK
  obtain ⟨xs,hq,hn,hi⟩:=hg
  obtain ⟨its,rv,p,hz⟩:=I.tuple hq
  have hx:xs[n - 1 - i]?=some (xs[n - 1 - i]'(by omega)):=List.getElem?_eq_getElem (by omega)
  obtain ⟨u,hu,ru⟩:=rv.get hx
  obtain ⟨f0,f1,f2,f3,f4,f5⟩:=hf it (by simp)
  have e:(n:Int) - 1 - (i:Int)=((n - 1 - i:Nat):Int):=by omega
  rw [e] at st
  have hl:=rv.length
  have z63:=y7b
  refine x2l st p (x:=u) (by simpa using hu) (by simp;omega) λ h' tk st' sb=>?_
  have I1:Inv X pins σ H { s with heap:=h',toks:=tk }:=I.turned (t':=tk) (λ b o hb e=>(sb.2 b hb).trans e) f0 f1 f3 f4 f5
  obtain ⟨o,e,c,d⟩:=id st'
  have e2:((n - 1 - i:Nat):Int) - 1=(n:Int) - 1 - ((i+1:Nat):Int):=by omega
  rw [e2] at st'
  exact ⟨u,rfl,x0l (s:={ s with heap:=h',toks:=tk }) e c d (by decide) ⟨_,H,I1,ru,⟨rfl,λ ys hy=>by rw [I.tuple_inj hy hq];exact hx⟩,st',λ b hb=>(hf b hb).1⟩⟩
 done:=by
  intro X hP hw hK hc i pins s σ H E I hf st hg
  subst hP hw hK
  obtain ⟨xs,hq,hn,hi⟩:=hg
  obtain ⟨f0,f1,f2,f3,f4,f5⟩:=hf it (by simp)
  have e:(n:Int) - 1 - (i:Int)=-1:=by omega
  rw [e] at st
  exact x4l (I.ok.hd hc) st λ h' tk eb=>⟨rfl,I.turned (t':=tk) (λ b o hb e=>eb b o hb e) f0 f1 f3 f4 f5⟩
 self:=λ _ _ _ _ _ st h=>y5q st h
section
variable {X:Cx}{tg:Expr}
def iRevT (K:W.Frag) (te:TE):TI:=λ σ H R=>te σ H λ x H1=>∃a xs,x=.ref a/\SqT K H1 a xs/\R (Itrv K a xs.length) H1
theorem y6b {e:Expr}{te:TE}{p pos:Pos}(hg:Gl X "reversed") (hm:X.mg "reversed" = none) (he:PE X e te) (hs:starEach [e] X.env=[(false,eval e X.env)]:=by rfl) :
  PI X tg (.Call (.Name "reversed" p) [e] [] pos) (iRevT X.K te):=by
 intro pins s σ H R I h
 have hA:=(z0a he (z0b (X:=X)) hs) pos pins s σ H (λ vs H1=>match vs with | [x]=>∃a xs,x=.ref a/\SqT X.K H1 a xs/\R (Itrv X.K a xs.length) H1 | _=>False) I h
 refine Call_ (z4g I hg hm boot_reversed (PyProof.Rows.callWith_type1 (thn hA λ us s1 ⟨vs,H1,I1,r1,q1⟩=>?_) hs rfl))
 match vs,q1 with
 | [x],⟨a,xs,e,hq,q⟩ =>
  subst e
  obtain ⟨u,rfl,ru⟩:=z4r r1
  cases (show u=Value.ref a from ru)
  obtain ⟨its,rv,p,hz⟩:=I1.tuple hq
  have hl:=rv.length
  have z63:=y7b
  refine x3s p (by simp;omega) λ tk=>?_
  have I2:Inv X pins σ H1 { s1 with heap:=s1.heap.push (rvObj a ((its.toArray.size:Int) - 1)),toks:=tk }:=I1.kept (t':=tk) λ b o e=>Heap.get?_push_of_some _ e
  have ir:IsRv (s1.heap.push (rvObj a ((its.toArray.size:Int) - 1))) s1.heap.objs.size a ((xs.length:Int) - 1 - ((0:Nat):Int)):=by
   refine ⟨_,Heap.get?_push_size _ rfl,rfl,?_⟩
   show Data.fields #[.ref a,rawInt ((its.toArray.size:Int) - 1)]=_
   have e:((its.toArray.size:Nat):Int) - 1=(xs.length:Int) - 1 - ((0:Nat):Int):=by simp;omega
   rw [e]
  refine y5q ir ⟨s1.heap.objs.size,[s1.heap.objs.size],_,_,H1,rfl,I2,x2h a _ xs.length,ir,λ b hb=>?_,q⟩
  have e:b=s1.heap.objs.size:=by simpa using hb
  subst e
  exact I1.fpOk (Nat.le_refl _) (I1.hok.fresh (Nat.le_refl _))
end
def LoopV (K:PySem.W.Frag) (g:TG) (tb:TS) (D:Ends) (σ:St) (x:V) (H1:Hp):Prop:=∃a xs,x=.ref a/\SqT K H1 a xs/\∃W:Nat->Nat->St->Hp->Prop,(∃m,W 0 m σ H1)/\∀i m σ H,W i m σ H ->
 ((Itrv K a xs.length).stop i H/\D.nx σ H)\/((Itrv K a xs.length).go i H/\∃N:St->Hp->Prop,(∀σ' H',N σ' H'->∃m',m' < m/\W (i+1) m' σ' H')/\∀x H',(Itrv K a xs.length).yld i H x H'->g x σ H' λ σ2 H2=>tb { D with nx:=N,ct:=N,bk:=D.nx } σ2 H2)
theorem x3i {K:W.Frag}{te:TE}{g:TG}{tb:TS}{D:Ends}{σ:St}{H:Hp}:tFor (iRevT K te) g tb D σ H=te σ H λ x H1=>LoopV K g tb D σ x H1:=rfl
theorem LoopV.mk {K:W.Frag}{a:Addr}{xs:List V}{g:TG}{tb:TS}{D:Ends}{σ:St}{H:Hp}(hS:SqT K H a xs) (Pv:Nat->St->Hp->Prop) (h0:Pv 0 σ H) (hl:∀i σ H,i≤xs.length->Pv i σ H->SqT K H a xs)
  (hs:∀i x σ H,i < xs.length->xs[xs.length - 1 - i]?=some x->Pv i σ H->g x σ H λ σ2 H2=>tb { D with nx:=Pv (i+1),ct:=Pv (i+1),bk:=D.nx } σ2 H2) (hd:∀σ H,Pv xs.length σ H->D.nx σ H):LoopV K g tb D σ (.ref a) H:=by
 refine ⟨a,xs,rfl,hS,λ i m σ H=>m=xs.length - i/\i≤xs.length/\Pv i σ H,⟨xs.length,by simp,Nat.zero_le _,h0⟩,?_⟩
 rintro i m σ H ⟨rfl,hi,p⟩
 have q:=hl i σ H hi p
 by_cases hlt:i < xs.length
 ·refine .inr ⟨⟨xs,q,rfl,hlt⟩,Pv (i+1),λ σ' H' p'=>⟨xs.length - (i+1),by omega,rfl,hlt,p'⟩,λ x H' y=>?_⟩
  obtain ⟨e,y⟩:=y
  subst e
  exact hs i x σ _ hlt (y xs q) p
 ·have e:i=xs.length:=by omega
  subst e
  exact .inl ⟨⟨xs,q,rfl,rfl⟩,hd σ H p⟩
theorem y6x:typeLookup (.type "list_reverseiterator") "__len__" = pure none:=by rw [typeLookup_type,builtinLookup_eq_fast];kernel_rfl
theorem x0g:typeLookup (.type "list_reverseiterator") "__length_hint__" = pure (some (.builtin "list_reverseiterator.__length_hint__")):=by rw [typeLookup_type,builtinLookup_eq_fast];kernel_rfl
section
variable {pg:Program}{wd:World}{B:Around}{X0:Value->Shared->Prop}{s0:Shared}{J:Addr}{fs ws:List Addr}{Gg:Array GenState->Array GenState->Prop}{m:Nat}{Pr:Nat->Value->Prop}{Sx:Nat->Shared->Prop}
theorem y1q {R:List Value->Shared->Prop}(wk:WalksS pg wd B.in1 J fs ws Gg m Pr Sx) (ty:∀j z,Sx j z->z.TypeIs (.ref J) "list_reverseiterator") (z0:Sx 0 s0) (lt:∀b∈fs,b < s0.heap.objs.size) (mJ:J∈fs) (sm:m≤sizeLine)
  (fin:∀z' ac,Moved ws Gg s0 z'->ItemsOf Pr ac m->R ac.toList z'):wpAny (model pg wd) B (collect (.ref J)) R X0 s0:=by
 have out:s0.heap.objs.size ∉ fs:=λ q=>absurd (lt _ q) (Nat.lt_irrefl _)
 have neJ:s0.heap.objs.size≠J:=by rintro rfl;exact out mJ
 let nu:Obj:={ cls:=.type "list",data:=.seq ([]:List Value).toArray }
 unfold collect
 refine wpAny_bind (wpAny_runValue (codeAny_builtin F.entry_proto_collect ?_))
 rw [Around.under_plainId F.plain_proto_collect _]
 show wpAny _ B.in1 (newList [] >>= λ q=>again (.builtin "list.__iadd__" ⟨[q,.ref J],[]⟩)) _ _ s0
 refine wpAny_bind (wpAny_newObj_type ?_)
 refine wpAny_pure ⟨plainId_quiet F.plain_list_iadd _,codeAny_builtin F.entry_list_iadd ?_⟩
 rw [Around.under_plainId F.plain_list_iadd _]
 have z1:=wk.frame 0 s0 (s0.heap.push nu) s0.toks z0 (Nat.le_refl _) λ b _ o e=>Heap.get?_push_of_some _ e
 have at1:(s0.heap.push nu).get? s0.heap.objs.size=some nu:=Heap.get?_push_size _ rfl
 have dif:Builtin.List.listSameRef (.ref s0.heap.objs.size) (.ref J)=false:=by simp [Builtin.List.listSameRef,neJ]
 show wpAny _ B.in1 (Builtin.List.listExtendWith (.ref s0.heap.objs.size) (.ref J) (.ref s0.heap.objs.size)) _ _ _
 unfold Builtin.List.listExtendWith
 refine wpAny_bind (wpAny_typeOf (ty 0 _ z1) ?_)
 rw [if_neg (by rw [dif];decide)]
 refine wpAny_bind (wk.self 0 _ _ _ z1 ?_)
 refine wpAny_bind (wpAny_holding ?_)
 unfold Builtin.List.listLengthHint
 refine wpAny_bind (wpAny_specialOf (ty 0 _ z1) y6x ?_)
 show wpAny _ B.in1 (specialOf (Value.ref J) (Str.ofString "__length_hint__") >>= _) _ _ _
 refine wpAny_bind (wpAny_specialOf (ty 0 _ z1) x0g ?_)
 (generalize hid:("list_reverseiterator.__length_hint__" : String)=id0;wp_delta;rw [show splitId id0=some ("list_reverseiterator", "__length_hint__") from by subst hid;decide +kernel];subst hid)
 refine wpAny_bind (wpAny_isInstance (b:=true) (ty 0 _ z1) (by rw [isSubtype_type];kernel_rfl) ?_)
 refine wpAny_pure ?_
 rw [if_neg (by decide)]
 refine wpAny_pure ⟨plainId_quiet F.plain_extend_loop _,codeAny_extend_loopS wk sm _ out _ m 0 _ _ _ rfl (Nat.zero_le _) z1 at1 (ItemsOf.nil Pr) λ z' ac cc mv at2 its=>?_⟩
 show wpAny _ B (load s0.heap.objs.size >>= _) _ _ z'
 exact wpAny_bind (wpAny_load at2 (wpAny_pure (fin z' ac (Moved.drop_new (o:=nu) (tk:=s0.toks) mv (Nat.le_refl _)) its)))
theorem z8t {R:Value->Shared->Prop}(wk:WalksS pg wd B.in1.in1 J fs ws Gg m Pr Sx) (ty:∀j z,Sx j z->z.TypeIs (.ref J) "list_reverseiterator") (z0:Sx 0 s0) (lt:∀b∈fs,b < s0.heap.objs.size) (mJ:J∈fs) (sm:m≤sizeLine)
  (fin:∀z' ac,Moved ws Gg s0 z'->ItemsOf Pr ac m->R (.ref z'.heap.objs.size) { z' with heap:=z'.heap.push { cls:=.type "tuple",data:=.seq ac } }) :
  codeAny (model pg wd) B (.call (.builtin "tuple.__new__") ⟨[.type "tuple",.ref J],[]⟩) (wants R X0) s0:=by
 refine codeAny_of_tree ?_
 show wpAny _ B.in1 (do checkBuiltinCall "tuple.__new__" ⟨[.type "tuple",.ref J],[]⟩;again (.builtin "tuple.__new__" ⟨[.type "tuple",.ref J],[]⟩)) _ _ s0
 refine wpAny_bind (wpAny_of_eq (F.newCall_tuple_1 _) (wpAny_pure ⟨plainId_quiet F.plain_tuple_new _,codeAny_builtin F.entry_tuple_new ?_⟩))
 rw [Around.under_plainId F.plain_tuple_new _]
 have q1:=sub_tuple_self
 have q2:=init_tuple_lookup
 have q3:=madeHere_tuple
 have q4:=ty 0 s0 z0
 wp_walk using wpAny_typeOf q4,y1q (sm:=sm) wk ty z0 lt mJ
 intro z' ac mv its
 show wpAny _ _ (Builtin.Tuple.tupleExact ac.toList.toArray >>= λ q=>ret q) _ _ _
 have e:ac.toList.toArray=ac:=by simp
 rw [e]
 unfold Builtin.Tuple.tupleExact
 exact wpAny_bind (wpAny_newObj_type (wpAny_pure (fin z' ac mv its)) (by show ac.size≤sizeLine;rw [its.1];exact sm))
theorem z7m {R:Value->Shared->Prop}(wk:WalksS pg wd B.in1.in1.in1 J fs ws Gg m Pr Sx) (ty:∀j z,Sx j z->z.TypeIs (.ref J) "list_reverseiterator") (z0:Sx 0 s0) (lt:∀b∈fs,b < s0.heap.objs.size) (mJ:J∈fs) (sm:m≤sizeLine)
  (fin:∀z' ac,Moved ws Gg s0 z'->ItemsOf Pr ac m->R (.ref z'.heap.objs.size) { z' with heap:=z'.heap.push { cls:=.type "tuple",data:=.seq ac } }) :
  wpAny (model pg wd) B (call (.type "tuple") [.ref J]) R X0 s0 :=
 callType_codes (Q₁:=λ ob z=>z.TypeIs ob "tuple" /\ R ob z) F.called_tuple (F.typeCall_tuple_1 _) F.entry_object_init
  (z8t (sm:=sm) wk ty z0 lt mJ λ z' ac mv its=>⟨⟨_,Heap.get?_push_size _ rfl,rfl⟩,fin z' ac mv its⟩)
  λ ob z q=>⟨q.1,F.args_object_init_2 ob _,object_init_meets F.called_tuple.init.lookup F.called_tuple.made (by decide) pg wd B.in1 _ z ⟨q.1,rfl,q.2⟩⟩
end
section
variable {X:Cx}
def tTupRev (K:W.Frag) (te:TE):TE:=λ σ H Q=>te σ H λ x H1=>∃a xs,x=.ref a/\SqL K H1 a xs/\∀p,H1 p=none->Q (.ref p) (upd H1 p (.tup xs.reverse))
theorem z9n {e:Expr}{te:TE}{p1 p2 pos pos':Pos}(hc:X.calm=true) (ht:Gl X "tuple") (hr:Gl X "reversed") (mt:X.mg "tuple" = none) (mr:X.mg "reversed" = none) (he:PE X e te) (hs:starEach [e] X.env=[(false,eval e X.env)]:=by rfl) :
  PE X (.Call (.Name "tuple" p1) [.Call (.Name "reversed" p2) [e] [] pos'] [] pos) (tTupRev X.K te):=by
 intro pins s σ H Q I h
 refine Call_ (z4g I ht mt boot_tuple (PyProof.Rows.callWith_type1 ?_ rfl rfl))
 refine Calls.spliced_cons ?_
 have hA:=(z0a he (z0b (X:=X)) hs) pos' pins s σ H (λ vs H1=>match vs with | [x]=>∃a xs,x=.ref a/\SqL X.K H1 a xs/\∀p,H1 p=none->Q (.ref p) (upd H1 p (.tup xs.reverse)) | _=>False) I h
 refine Call_ (z4g I hr mr boot_reversed (PyProof.Rows.callWith_type1 (thn hA λ us s1 ⟨vs,H1,I1,r1,q1⟩=>?_) hs rfl))
 match vs,q1 with
 | [x],⟨a,xs,e,hq,q⟩ =>
  subst e
  obtain ⟨u,rfl,ru⟩:=z4r r1
  cases (show u=Value.ref a from ru)
  obtain ⟨its,rv,pl,hz⟩:=I1.list hq
  have hl:=rv.length
  refine call_reversed_list pl.isList ?_
  refine Calls.spliced_nil ?_
  have I2:Inv X pins σ H1 { s1 with heap:=s1.heap.push (revObj a ((its.toArray.size:Int) - 1)) }:=I1.kept (t':=s1.toks) λ b o e=>Heap.get?_push_of_some _ e
  have al:a < s1.heap.objs.size:=by obtain ⟨o,ho,_⟩:=pl.isList;exact Heap.lt_size ho
  have hne:a≠s1.heap.objs.size:=Nat.ne_of_lt al
  have ir:(s1.heap.push (revObj a ((its.toArray.size:Int) - 1))).IsRevIter s1.heap.objs.size a ((its.toArray.size:Int) - 1 - ((0:Nat):Int)):=by
   refine ⟨_,Heap.get?_push_size _ rfl,rfl,?_⟩
   have e:(its.toArray.size:Int) - 1 - ((0:Nat):Int)=(its.toArray.size:Int) - 1:=by omega
   rw [e];rfl
  have sz:(s1.heap.push (revObj a ((its.toArray.size:Int) - 1))).objs.size=s1.heap.objs.size+1:=by simp [Heap.push]
  have ff:=I1.fpOk (Nat.le_refl s1.heap.objs.size) (I1.hok.fresh (Nat.le_refl _))
  refine z7m (Walks.listRev (A:=X.A.in1.in1.in1) (I.ok.hd hc) s1.heap.objs.size a hne its.toArray).toS (λ j z q=>let ⟨o,ho,hk,_⟩:=q.2.1;⟨o,ho,hk⟩)
   ⟨Nat.zero_le _,ir,pl.isList.at λ o e=>Heap.get?_push_of_some _ e⟩ (λ b hb=>?_) (List.mem_cons_self ..) (by simp only [List.size_toArray];omega) λ z' ac mv io=>?_
  ·show b < (s1.heap.push (revObj a ((its.toArray.size:Int) - 1))).objs.size
   rw [sz]
   simp only [List.mem_cons,List.not_mem_nil,or_false] at hb
   rcases hb with rfl | rfl
   ·exact Nat.lt_succ_self _
   ·exact Nat.lt_succ_of_lt al
  have I3:Inv X pins σ H1 z':=by
   obtain ⟨zh,zg,zd,zt,zo⟩:=z'
   have e1:zg=s1.gens:=mv.gens
   have e2:zd=s1.drawn:=mv.drawn
   have e3:zo=s1.os:=mv.os
   subst e1 e2 e3
   obtain ⟨f0,f1,f2,f3,f4,f5⟩:=ff
   exact I1.turned (t':=zt) (λ b o hb e=>mv.heap b o (by simpa using hb) (Heap.get?_push_of_some _ e)) f0 f1 f3 f4 f5
  have er:ac=its.reverse.toArray:=by
   have sz2:ac.size=its.length:=by simpa using io.1
   apply Array.ext
   ·simp [sz2]
   ·intro j h1 h2
    have q:=io.2 j _ (Array.getElem?_eq_getElem h1)
    simp only [List.size_toArray,List.getElem?_toArray] at q
    have q2:its.reverse[j]?=some ac[j]:=by rw [List.getElem?_reverse (by omega)];exact q
    rw [List.getElem_toArray]
    exact (Option.some.inj ((List.getElem?_eq_getElem (by simpa using h2)).symm.trans q2)).symm
  subst er
  have I4:Inv X pins σ (upd H1 z'.heap.objs.size (.tup xs.reverse)) { z' with heap:=z'.heap.push { cls:=.type "tuple",data:=.seq its.reverse.toArray } } :=
   I3.laid (t':=z'.toks) (λ b o e=>Heap.get?_push_of_some _ e) (Nat.le_refl _) (show ObjOk X.prog X.w _ _ _ (.tup xs.reverse) from ⟨by simpa using hz,its.reverse,rv.reverse,IsTup.new _ _⟩)
  exact ⟨.ref z'.heap.objs.size,_,I4,rfl,q _ (I3.hok.fresh (Nat.le_refl _))⟩
end
section
variable {X:Cx}
def rCatA (K:W.Frag):R2:=λ x y H Q=>∃a b xs ys,x=.ref a/\y=.ref b/\SqT K H a xs/\SqT K H b ys/\xs.length+ys.length≤sizeLine /\
 (xs=[]->Q (.ref b) H)/\(xs≠[]->ys=[]->Q (.ref a) H)/\(xs≠[]->ys≠[]->∀p,H p=none->Q (.ref p) (upd H p (.tup (xs++ys))))
theorem x2v:OpR X (binaryOp .Add) (rCatA X.K):=by
 intro pins s σ H x y v u Q I rx ry h
 obtain ⟨a,b,xs,ys,rfl,rfl,ha,hb,hz,q0,q1,q2⟩:=h
 by_cases hx:xs=[]
 ·cases rx
  cases ry
  obtain ⟨its,r1,p1,_⟩:=I.tuple ha
  obtain ⟨its2,r2,p2,_⟩:=I.tuple hb
  have e1:its=[]:=r1.nil_iff.mpr hx
  obtain ⟨⟨c1,d1,z1,l1⟩,g1,hc1,n1,hd1⟩:=id p1
  obtain ⟨⟨c2,d2,z2,l2⟩,g2,hc2,n2,hd2⟩:=id p2
  simp only at hc1 hd1 hc2 hd2
  subst hc1 hd1 hc2 hd2
  exact concat_meets ⟨_,g1,rfl⟩ ⟨_,g2,rfl⟩ noFill_tuple_add seq_tuple_add PySem.F.slot_tuple_add PySem.F.entry_tuple_add (PySem.F.args_tuple_add_2 _ _)
   (tuple_addW0 a b its.toArray its2.toArray n1 n2 d1 d2 l1 l2 (by simp [e1])) ⟨g1,g2,.ref b,H,I,rfl,q0 hx⟩
 ·exact x2u pins s σ H _ _ v u Q I rx ry ⟨a,b,xs,ys,rfl,rfl,ha,hb,hx,hz,q1 hx,q2 hx⟩
def eqVs:List V->List V->Bool
 | [],[]=>true
 | x::xs,y::ys=>eqV x y && eqVs xs ys
 | _,_=>false
theorem z6f:∀ {xs ys:List V},xs.length≠ys.length->eqVs xs ys=false
 | [],[],h=>absurd rfl h
 | x::xs,y::ys,h=>by
  have e:xs.length≠ys.length:=λ z=>h (by simp [z])
  simp [eqVs,z6f e]
 | [],_::_,_=>rfl
 | _::_,[],_=>rfl
def eqAtI (xs ys:List V) (j:Nat):Bool:=match xs[j]?,ys[j]? with | some x,some y=>eqV x y | _,_=>false
theorem z6g:∀ {xs ys:List V},xs.length=ys.length->(List.range xs.length).all (eqAtI xs ys)=eqVs xs ys
 | [],[],_=>rfl
 | x::xs,y::ys,h=>by
  have e:xs.length=ys.length:=by simpa using h
  rw [List.length_cons,List.range_succ_eq_map,List.all_cons,List.all_map]
  have z:(eqAtI (x::xs) (y::ys) ∘ Nat.succ)=eqAtI xs ys:=by funext j;simp [eqAtI]
  rw [z,z6g e]
  rfl
 | [],_::_,h=>by cases h
 | _::_,[],h=>by cases h
theorem z9b {A:Around}{s:Shared}{xs ys:List V}{us ws:List Value}(r1:Vals xs us) (r2:Vals ys ws) (f1:xs.all flatV=true) (f2:ys.all flatV=true) (j:Nat) (h1:j < us.toArray.size) (h2:j < ws.toArray.size) :
  SeqAt.EqAt A s us.toArray[j] ws.toArray[j] (eqAtI xs ys j):=by
 have l1:=r1.length
 have l2:=r2.length
 have k1:j < xs.length:=by rw [l1];simpa using h1
 have k2:j < ys.length:=by rw [l2];simpa using h2
 obtain ⟨u,hu,ru⟩:=r1.get (List.getElem?_eq_getElem k1)
 obtain ⟨v,hv,rv⟩:=r2.get (List.getElem?_eq_getElem k2)
 have e1:us.toArray[j]=u:=by
  have z:us[j]?=some (us[j]'(by simpa using h1)):=List.getElem?_eq_getElem _
  rw [z] at hu
  simpa using hu
 have e2:ws.toArray[j]=v:=by
  have z:ws[j]?=some (ws[j]'(by simpa using h2)):=List.getElem?_eq_getElem _
  rw [z] at hv
  simpa using hv
 rw [e1,e2]
 have e3:eqAtI xs ys j=eqV xs[j] ys[j]:=by simp [eqAtI,k1,k2]
 rw [e3]
 exact x1y ru rv (List.all_eq_true.mp f1 _ (List.getElem_mem k1)) (List.all_eq_true.mp f2 _ (List.getElem_mem k2))
def rEqL (K:W.Frag):R2:=λ x y H Q=>∃a b xs ys,x=.ref a/\y=.ref b/\SqL K H a xs/\SqL K H b ys/\xs.all flatV=true/\ys.all flatV=true/\Q (.bl (eqVs xs ys)) H
def rEqT (K:W.Frag):R2:=λ x y H Q=>∃a b xs ys,x=.ref a/\y=.ref b/\SqT K H a xs/\SqT K H b ys/\xs.all flatV=true/\ys.all flatV=true/\Q (.bl (eqVs xs ys)) H
theorem x5c (hu:X.A.units < cLine):OpR X (compareOp .Eq) (rEqT X.K):=by
 intro pins s σ H x y v u Q I rx ry h
 obtain ⟨a,b,xs,ys,rfl,rfl,ha,hb,f1,f2,q⟩:=h
 cases rx
 cases ry
 obtain ⟨us,r1,p1,_⟩:=I.tuple ha
 obtain ⟨ws,r2,p2,_⟩:=I.tuple hb
 refine SeqAt.eq_tupleAt (show s.heap.IsTuple a us.toArray from p1) (show s.heap.IsTuple b ws.toArray from p2) (e:=eqAtI xs ys) hu (z9b r1 r2 f1 f2) ?_
 have e1:us.toArray.size=xs.length:=by simp [r1.length]
 have e2:ws.toArray.size=ys.length:=by simp [r2.length]
 rw [e1,e2]
 by_cases hl:xs.length=ys.length
 ·have z:((List.range (min xs.length ys.length)).all (eqAtI xs ys) && xs.length == ys.length)=eqVs xs ys:=by
   rw [← hl,Nat.min_self,z6g hl];simp
  rw [z]
  exact ⟨.bl _,H,I,rfl,q⟩
 ·have z:((List.range (min xs.length ys.length)).all (eqAtI xs ys) && xs.length == ys.length)=eqVs xs ys:=by
   rw [z6f hl];simp [hl]
  rw [z]
  exact ⟨.bl _,H,I,rfl,q⟩
theorem z2i:∀(ns:List Int),(ns.map V.int).all flatV=true
 | []=>rfl
 | n::ns=>by simp [flatV]
theorem z5t:CallR X (.builtin "isinstance") (λ xs H Q=>∃a ys,xs=[.ref a,.ty "tuple"]/\H a=some (.tup ys)/\Q (.bl true) H):=by
 intro pins s σ H xs us Q I r h
 obtain ⟨a,ys,rfl,ha,q⟩:=h
 exact y2y pins s σ H _ us Q I r ⟨.ref a, "tuple",.type "tuple",true,rfl,.tup ha,y2s (by decide +kernel),q⟩
end
section
variable {pg:Program}{wd:World}{B:Around}{X0:Value->Shared->Prop}{s0:Shared}
theorem z3l {j t:Addr}{k:Nat}{its:Array Value}{x:Value}{R:Value->Shared->Prop}(p:s0.heap.IsTupleIter j t k) (q:s0.heap.IsTuple t its) (e:its[k]?=some x)
  (f:∀h',h'.IsTupleIter j t (k+1)->Heap.SameBut j s0.heap h'->R x { s0 with heap:=h' }):wpAny (model pg wd) B (Builtin.SmallTypes.nextOf (.ref j)) R X0 s0:=by
 obtain ⟨o,g,c,d⟩:=id p
 obtain ⟨ot,gt,_,nt,dt⟩:=q
 unfold Builtin.SmallTypes.nextOf
 refine wpAny_bind (wpAny_callSpecial?_slot (name:=Str.ofString "__next__") p.typeIs F.slot_tuple_iterator_next (wpAny_call_entry F.slot_tuple_iterator_next p.typeIs F.entry_tuple_iterator_next ?_ (F.args_tuple_iterator_next_1 _)))
 show wpAny _ _ (field (.ref j) 0 >>= _) _ _ s0
 refine wpAny_bind (wpAny_field g d (x:=.ref t) rfl ?_)
 show wpAny _ _ (if (Value.ref t == Value.none)=true then _ else _) _ _ s0
 rw [if_neg (show ¬((Value.ref t == Value.none)=true) from Bool.false_ne_true)]
 show wpAny _ _ (field (.ref j) 1 >>= _) _ _ s0
 refine wpAny_bind (wpAny_field g d (x:=.int k 0) rfl ?_)
 show wpAny _ _ (seqItems? (.ref t) >>= _) _ _ s0
 refine wpAny_bind (wpAny_seqItems gt dt ?_)
 simp only [Int.toNat_natCast,e]
 refine wpAny_bind (wpAny_setField g d (by simp) (wpAny_pure ⟨x,rfl,wpAny_pure (f _ ?_ (Heap.SameBut.update ..))⟩))
 exact ⟨_,Heap.get?_update_self _ g (Obj.isFreed_of_fields (Obj.data_mapFields d _)),(Obj.cls_mapFields ..).trans c,by rw [Obj.data_mapFields d];simp [rawInt]⟩
theorem z4b {j t:Addr}{k:Nat}{its:Array Value}{R:Value->Shared->Prop}(hh:B.handled=none) (p:s0.heap.IsTupleIter j t k) (q:s0.heap.IsTuple t its) (e:its[k]?=none)
  (f:∀h' z,Heap.ExtBut j s0.heap h'->(∃o,h'.get? z=some o/\o.cls=.type "StopIteration")->X0 (.ref z) { s0 with heap:=h' }):wpAny (model pg wd) B (Builtin.SmallTypes.nextOf (.ref j)) R X0 s0:=by
 obtain ⟨o,g,c,d⟩:=id p
 obtain ⟨ot,gt,_,nt,dt⟩:=q
 unfold Builtin.SmallTypes.nextOf
 refine wpAny_bind (wpAny_callSpecial?_slot (name:=Str.ofString "__next__") p.typeIs F.slot_tuple_iterator_next (wpAny_call_entry F.slot_tuple_iterator_next p.typeIs F.entry_tuple_iterator_next ?_ (F.args_tuple_iterator_next_1 _)))
 show wpAny _ _ (field (.ref j) 0 >>= _) _ _ s0
 refine wpAny_bind (wpAny_field g d (x:=.ref t) rfl ?_)
 show wpAny _ _ (if (Value.ref t == Value.none)=true then _ else _) _ _ s0
 rw [if_neg (show ¬((Value.ref t == Value.none)=true) from Bool.false_ne_true)]
 show wpAny _ _ (field (.ref j) 1 >>= _) _ _ s0
 refine wpAny_bind (wpAny_field g d (x:=.int k 0) rfl ?_)
 show wpAny _ _ (seqItems? (.ref t) >>= _) _ _ s0
 refine wpAny_bind (wpAny_seqItems gt dt ?_)
 simp only [Int.toNat_natCast,e]
 refine wpAny_bind (wpAny_rule (wpAny_bind (wpAny_setField g d (by simp) ?_)))
 show wpAny _ _ (newExc (.type "StopIteration") [] >>= _) _ _ _
 refine wpAny_bind ?_
 simp only [newExc,newTuple]
 refine wpAny_bind (wpAny_newObj_type ?_ (by size_fits))
 refine wpAny_bind (m:=firstArgMember _ _) (wpAny_of_eq (a:=Value.none) (by first | rfl | (simp only [firstArgMember];rfl)) ?_)
 refine wpAny_newObj_type ?_ (by size_fits)
 simp only [raiseNew]
 refine wpAny_bind (wpAny_handled ?_)
 first | rw [show B.in1.handled=none from hh] | rw [hh]
 refine wpAny_bind (wpAny_pure (wpAny_throw ?_))
 exact f _ _ (((Heap.SameBut.update ..).extBut.push _).push _) ⟨_,Heap.get?_push_size _ rfl,rfl⟩
structure Apart5 (z ti ox j1 j2 t1 t2:Addr):Prop where
 ti_z:ti≠z
 ox_z:ox≠z
 j1_z:j1≠z
 j2_z:j2≠z
 ti_ox:ti≠ox
 ti_j1:ti≠j1
 ti_j2:ti≠j2
 ox_j1:ox≠j1
 ox_j2:ox≠j2
 j12:j1≠j2
 t1_z:t1≠z
 t1_ox:t1≠ox
 t1_j1:t1≠j1
 t1_j2:t1≠j2
 t2_z:t2≠z
 t2_ox:t2≠ox
 t2_j1:t2≠j1
 t2_j2:t2≠j2
def But4 (z ox j1 j2:Addr) (h h':Heap):Prop:=∀c o,c≠z->c≠ox->c≠j1->c≠j2->h.get? c=some o->h'.get? c=some o
theorem z1j {h h':Heap}{j t:Addr}{k:Nat}(p:h.IsTupleIter j t k) (f:∀o,h.get? j=some o->h'.get? j=some o):h'.IsTupleIter j t k:=let ⟨o,g,r⟩:=p;⟨o,f o g,r⟩
theorem z5u {h h':Heap}{t:Addr}{its:Array Value}(p:h.IsTuple t its) (f:∀o,h.get? t=some o->h'.get? t=some o):h'.IsTuple t its:=let ⟨o,g,r⟩:=p;⟨o,f o g,r⟩
theorem y4l {z ti ox j1 j2 t1 t2:Addr}{k:Nat}{as bs:Array Value}{x y u v:Value}{R:Option Value->Shared->Prop}(ap:Apart5 z ti ox j1 j2 t1 t2) (hz:IsZip s0.heap z ti ox .none) (hi:IsPair s0.heap ti (.ref j1) (.ref j2)) (ho:IsPair s0.heap ox u v)
  (p1:s0.heap.IsTupleIter j1 t1 k) (p2:s0.heap.IsTupleIter j2 t2 k) (q1:s0.heap.IsTuple t1 as) (q2:s0.heap.IsTuple t2 bs) (e1:as[k]?=some x) (e2:bs[k]?=some y)
  (f:∀h',IsZip h' z ti ox (rawInt s0.heap.objs.size)->IsPair h' ox x y->h'.IsTupleIter j1 t1 (k+1)->h'.IsTupleIter j2 t2 (k+1)->IsPair h' s0.heap.objs.size x y->But4 z ox j1 j2 s0.heap h'->R (some (.ref s0.heap.objs.size)) { s0 with heap:=h' }) :
  wpAny (model pg wd) B (pyNext (.ref z)) R X0 s0:=by
 have ty:s0.TypeIs (.ref z) "zip" := ⟨_,hz,rfl⟩
 unfold pyNext
 refine wpAny_bind (wpAny_attempt (wpAny_callSpecial?_slot (name:=Str.ofString "__next__") ty F.slot_zip_next (wpAny_call_entry F.slot_zip_next ty F.entry_zip_next ?_ (F.args_zip_next_1 _))))
 show wpAny _ _ (field (.ref z) 2 >>= _) _ _ _
 refine wpAny_bind (wpAny_field hz rfl (x:=.bool false) rfl ?_)
 show wpAny _ _ (field (.ref z) 3 >>= _) _ _ _
 refine wpAny_bind (wpAny_field hz rfl (x:=.ref ti) rfl ?_)
 refine wpAny_bind (wpAny_seqItems hi rfl ?_)
 show wpAny _ _ (Builtin.SmallTypes.ownedTupleIsFree (.ref z) >>= _) _ _ _
 refine wpAny_bind ?_
 unfold Builtin.SmallTypes.ownedTupleIsFree
 refine wpAny_bind (wpAny_field hz rfl (x:=.none) rfl (wpAny_pure ?_))
 simp only [if_true]
 refine wpAny_bind (wpAny_rule ?_)
 refine wpAny_bind (wpAny_field hz rfl (x:=.ref ox) rfl ?_)
 refine wpAny_bind (wpAny_setField_rec hz (by simp) λ m1 zm1 sb1=>?_)
 have zm1:IsZip m1 z ti ox .ellipsis:=zm1
 refine wpAny_bind ?_
 simp only [List.zipIdx_cons,List.zipIdx_nil,List.forIn_cons,List.forIn_nil]
 refine wpAny_bind (wpAny_bind (wpAny_onRaise ?_))
 show wpAny _ _ (Builtin.SmallTypes.nextOf (.ref j1) >>= _) _ _ _
 refine wpAny_bind (z3l (z1j p1 λ o g=>sb1.extBut _ _ ap.j1_z g) (z5u q1 λ o g=>sb1.extBut _ _ ap.t1_z g) e1 λ m2 pm2 sb2=>wpAny_pure ?_)
 have om2:IsPair m2 ox u v:=sb2.extBut _ _ ap.ox_j1 (sb1.extBut _ _ ap.ox_z ho)
 refine wpAny_bind (wpAny_seqItems om2 rfl ?_)
 refine wpAny_bind (wpAny_updateSeq_pair om2 λ m3 om3 sb3=>?_)
 have om3:IsPair m3 ox x v:=om3
 refine wpAny_bind (wpAny_letGo (wpAny_pure ?_))
 refine wpAny_bind (wpAny_bind (wpAny_onRaise ?_))
 show wpAny _ _ (Builtin.SmallTypes.nextOf (.ref j2) >>= _) _ _ _
 have to3:∀c o,c≠z->c≠ox->c≠j1->s0.heap.get? c=some o->m3.get? c=some o:=λ c o a1 a2 a3 g=>sb3.extBut _ _ a2 (sb2.extBut _ _ a3 (sb1.extBut _ _ a1 g))
 refine wpAny_bind (z3l (z1j p2 λ o g=>to3 _ o ap.j2_z ap.ox_j2.symm ap.j12.symm g) (z5u q2 λ o g=>to3 _ o ap.t2_z ap.t2_ox ap.t2_j1 g) e2 λ m4 pm4 sb4=>wpAny_pure ?_)
 have om4:IsPair m4 ox x v:=sb4.extBut _ _ ap.ox_j2 om3
 refine wpAny_bind (wpAny_seqItems om4 rfl ?_)
 refine wpAny_bind (wpAny_updateSeq_pair om4 λ m5 om5 sb5=>?_)
 have om5:IsPair m5 ox x y:=om5
 refine wpAny_bind (wpAny_letGo (wpAny_pure (wpAny_pure ?_)))
 refine wpAny_bind (wpAny_seqItems om5 rfl ?_)
 refine wpAny_bind (wpAny_newTuple ?_)
 have sz5:m5.objs.size=s0.heap.objs.size:=by rw [sb5.1,sb4.1,sb3.1,sb2.1,sb1.1]
 have zm5:IsZip m5 z ti ox .ellipsis:=sb5.extBut _ _ ap.ox_z.symm (sb4.extBut _ _ ap.j2_z.symm (sb3.extBut _ _ ap.ox_z.symm (sb2.extBut _ _ ap.j1_z.symm zm1)))
 have to5:But4 z ox j1 j2 s0.heap m5:=λ c o a1 a2 a3 a4 g=>sb5.extBut _ _ a2 (sb4.extBut _ _ a4 (to3 c o a1 a2 a3 g))
 have pj1:m5.IsTupleIter j1 t1 (k+1):=z1j pm2 λ o g=>sb5.extBut _ _ ap.ox_j1.symm (sb4.extBut _ _ ap.j12 (sb3.extBut _ _ ap.ox_j1.symm g))
 have pj2:m5.IsTupleIter j2 t2 (k+1):=z1j pm4 λ o g=>sb5.extBut _ _ ap.ox_j2.symm g
 have zlt:z < m5.objs.size:=Heap.lt_size zm5
 show wpAny _ _ (Builtin.SmallTypes.ownedTupleHandOut (.ref z) (.ref m5.objs.size) >>= _) _ _ _
 refine wpAny_bind ?_
 unfold Builtin.SmallTypes.ownedTupleHandOut
 have zm6:IsZip (m5.push { cls:=.type "tuple",data:=.seq #[x,y] }) z ti ox .ellipsis:=Heap.get?_push_of_some _ zm5
 refine wpAny_bind (wpAny_setField_rec zm6 (by simp) λ m7 zm7 sb7=>?_)
 have zm7:IsZip m7 z ti ox (rawInt m5.objs.size):=zm7
 refine wpAny_setField_rec zm7 (by simp) λ m8 zm8 sb8=>?_
 have zm8:IsZip m8 z ti ox (rawInt m5.objs.size):=zm8
 have to8:∀c o,c≠z->m5.get? c=some o->m8.get? c=some o:=λ c o a1 g=>sb8.extBut _ _ a1 (sb7.extBut _ _ a1 (Heap.get?_push_of_some _ g))
 have np8:IsPair m8 m5.objs.size x y:=sb8.extBut _ _ (Nat.ne_of_gt zlt) (sb7.extBut _ _ (Nat.ne_of_gt zlt) (Heap.get?_push_size _ rfl))
 rw [sz5] at zm8 np8
 refine wpAny_pure ⟨_,rfl,wpAny_pure ?_⟩
 show R (some (.ref m5.objs.size)) _
 rw [sz5]
 exact f m8 zm8 (to8 _ _ ap.ox_z om5) (z1j pj1 λ o g=>to8 _ o ap.j1_z g) (z1j pj2 λ o g=>to8 _ o ap.j2_z g) np8 λ c o a1 a2 a3 a4 g=>to8 c o a1 (to5 c o a1 a2 a3 a4 g)
theorem y9e {z ti ox j1 j2 t1 t2:Addr}{k:Nat}{as bs:Array Value}{u v:Value}{R:Option Value->Shared->Prop}(hh:B.handled=none) (ap:Apart5 z ti ox j1 j2 t1 t2) (hz:IsZip s0.heap z ti ox .none) (hi:IsPair s0.heap ti (.ref j1) (.ref j2)) (ho:IsPair s0.heap ox u v)
  (p1:s0.heap.IsTupleIter j1 t1 k) (p2:s0.heap.IsTupleIter j2 t2 k) (q1:s0.heap.IsTuple t1 as) (q2:s0.heap.IsTuple t2 bs) (hend:as[k]?=none\/bs[k]?=none)
  (f:∀h',But4 z ox j1 j2 s0.heap h'->R none { s0 with heap:=h' }):wpAny (model pg wd) B (pyNext (.ref z)) R X0 s0:=by
 have ty:s0.TypeIs (.ref z) "zip" := ⟨_,hz,rfl⟩
 have last:∀(h':Heap) (e:Addr),But4 z ox j1 j2 s0.heap h'->(∃o,h'.get? e=some o/\o.cls=.type "StopIteration")->wpAny (model pg wd) B (do if ← isInstance (.ref e) (.type "StopIteration") then pure none else throw (.ref e)) R X0 { s0 with heap:=h' }:=λ h' e bt ⟨o,g,c⟩ =>
  wpAny_bind (wpAny_isInstance (T := "StopIteration") (b:=true) ⟨o,g,c⟩ isSubtype_stop (wpAny_pure (f _ bt)))
 unfold pyNext
 refine wpAny_bind (wpAny_attempt (wpAny_callSpecial?_slot (name:=Str.ofString "__next__") ty F.slot_zip_next (wpAny_call_entry F.slot_zip_next ty F.entry_zip_next ?_ (F.args_zip_next_1 _))))
 show wpAny _ _ (field (.ref z) 2 >>= _) _ _ _
 refine wpAny_bind (wpAny_field hz rfl (x:=.bool false) rfl ?_)
 show wpAny _ _ (field (.ref z) 3 >>= _) _ _ _
 refine wpAny_bind (wpAny_field hz rfl (x:=.ref ti) rfl ?_)
 refine wpAny_bind (wpAny_seqItems hi rfl ?_)
 show wpAny _ _ (Builtin.SmallTypes.ownedTupleIsFree (.ref z) >>= _) _ _ _
 refine wpAny_bind ?_
 unfold Builtin.SmallTypes.ownedTupleIsFree
 refine wpAny_bind (wpAny_field hz rfl (x:=.none) rfl (wpAny_pure ?_))
 simp only [if_true]
 refine wpAny_bind (wpAny_rule ?_)
 refine wpAny_bind (wpAny_field hz rfl (x:=.ref ox) rfl ?_)
 refine wpAny_bind (wpAny_setField_rec hz (by simp) λ m1 zm1 sb1=>?_)
 have zm1:IsZip m1 z ti ox .ellipsis:=zm1
 refine wpAny_bind ?_
 simp only [List.zipIdx_cons,List.zipIdx_nil,List.forIn_cons,List.forIn_nil]
 refine wpAny_bind (wpAny_bind (wpAny_onRaise ?_))
 show wpAny _ _ (Builtin.SmallTypes.nextOf (.ref j1) >>= _) _ _ _
 cases e1:as[k]? with
 | none =>
  refine wpAny_bind (z4b hh (z1j p1 λ o g=>sb1.extBut _ _ ap.j1_z g) (z5u q1 λ o g=>sb1.extBut _ _ ap.t1_z g) e1 λ m2 e xb he=>?_)
  obtain ⟨oe,ge,ce⟩:=he
  have zm2:IsZip m2 z ti ox .ellipsis:=xb _ _ ap.j1_z.symm zm1
  have ez:e≠z:=λ q=>by subst q;rw [zm2] at ge;cases ge;simp at ce
  exact wpAny_setField_rec zm2 (by simp) λ m3 _ sb3=>last m3 e (λ c o a1 _ a3 _ g=>sb3.extBut _ _ a1 (xb _ _ a3 (sb1.extBut _ _ a1 g))) ⟨oe,sb3.extBut _ _ ez ge,ce⟩
 | some x =>
  have e2:bs[k]?=none:=by rcases hend with q | q;rw [e1] at q;cases q;exact q
  refine wpAny_bind (z3l (z1j p1 λ o g=>sb1.extBut _ _ ap.j1_z g) (z5u q1 λ o g=>sb1.extBut _ _ ap.t1_z g) e1 λ m2 pm2 sb2=>wpAny_pure ?_)
  have om2:IsPair m2 ox u v:=sb2.extBut _ _ ap.ox_j1 (sb1.extBut _ _ ap.ox_z ho)
  refine wpAny_bind (wpAny_seqItems om2 rfl ?_)
  refine wpAny_bind (wpAny_updateSeq_pair om2 λ m3 om3 sb3=>?_)
  refine wpAny_bind (wpAny_letGo (wpAny_pure ?_))
  refine wpAny_bind (wpAny_bind (wpAny_onRaise ?_))
  show wpAny _ _ (Builtin.SmallTypes.nextOf (.ref j2) >>= _) _ _ _
  have to3:∀c o,c≠z->c≠ox->c≠j1->s0.heap.get? c=some o->m3.get? c=some o:=λ c o a1 a2 a3 g=>sb3.extBut _ _ a2 (sb2.extBut _ _ a3 (sb1.extBut _ _ a1 g))
  refine wpAny_bind (z4b hh (z1j p2 λ o g=>to3 _ o ap.j2_z ap.ox_j2.symm ap.j12.symm g) (z5u q2 λ o g=>to3 _ o ap.t2_z ap.t2_ox ap.t2_j1 g) e2 λ m4 e xb he=>?_)
  obtain ⟨oe,ge,ce⟩:=he
  have zm4:IsZip m4 z ti ox .ellipsis:=xb _ _ ap.j2_z.symm (sb3.extBut _ _ ap.ox_z.symm (sb2.extBut _ _ ap.j1_z.symm zm1))
  have ez:e≠z:=λ q=>by subst q;rw [zm4] at ge;cases ge;simp at ce
  exact wpAny_setField_rec zm4 (by simp) λ m5 _ sb5=>last m5 e (λ c o a1 a2 a3 a4 g=>sb5.extBut _ _ a1 (xb _ _ a4 (to3 c o a1 a2 a3 g))) ⟨oe,sb5.extBut _ _ ez ge,ce⟩
end
theorem Inv.turnedL {X:Cx}{pins:List (Addr × Obj)}{σ:St}{H:Hp}{s:Shared}{h':Heap}{t':Nat}{fl:List Addr}(I:Inv X pins σ H s) (kk:∀b o,b ∉ fl->s.heap.get? b=some o->h'.get? b=some o) (fo:∀b∈fl,FpOk X pins H b):Inv X pins σ H { s with heap:=h',toks:=t' }:=by
 have out:∀b u,H b=some u->b ∉ fl:=λ b u e z=>by rw [(fo b z).1] at e;cases e
 refine I.step (g':=s.gens) (d':=s.drawn) (ch:=fl) (λ b hb=>?_) (λ b o _ _ hc e _=>kk b o hc e) (λ b o _ _ hc e _=>⟨o.slots,kk b o hc e⟩) (λ _ _ _ _ q=>q)
  (λ b o hc e=>⟨o,kk b o hc e⟩) (λ _ _ e=>e) (λ _ _ _ e=>e) (λ b ps e=>⟨#[],by rw [e];simp⟩) (λ m hm=>?_) (λ b u e=>?_) I.bare
 ·obtain ⟨_,f1,_,f3,f4,f5⟩:=fo b hb
  exact ⟨f3,f1,f4,f5⟩
 ·obtain ⟨o,es,ep,ho,r⟩:=hm
  exact ⟨o,es,ep,kk _ o (λ z=>(fo _ z).2.1 rfl) ho,r⟩
 ·refine (I.hok b u e).stay (λ c v hc q=>kk c v ?_ q) (λ _ q=>q) λ _ _ q=>q
  rcases hc with z | z
  ·rw [z];exact out b u e
  ·exact out c _ z
def Itz (K:W.Frag) (a b:Addr):It:=⟨λ i H=>∃xs ys x y,SqT K H a xs/\SqT K H b ys/\xs[i]?=some x/\ys[i]?=some y,
 λ i H v H'=>∃T x y,v=.ref T/\H T=none/\H'=upd H T (.tup [x,y])/\∀xs ys,SqT K H a xs->SqT K H b ys->xs[i]?=some x/\ys[i]?=some y,λ i H=>∃xs ys,SqT K H a xs/\SqT K H b ys/\(xs.length≤i\/ys.length≤i)⟩
theorem y9g {P:Program}{w:World}{K:W.Frag}{es:List Expr}{x1:Nat}{pp:Pos}{a b z ti ox j1 j2:Addr}(ap:Apart5 z ti ox j1 j2 a b) :
  Turn P w K (.Tuple es x1 pp) (Itz K a b) [z,ti,ox,j1,j2] z (λ i h=>IsZip h z ti ox .none/\IsPair h ti (.ref j1) (.ref j2)/\(∃u v,IsPair h ox u v)/\h.IsTupleIter j1 a i/\h.IsTupleIter j2 b i) where
 mem:=by simp
 obj:=λ i h q c hc=>by
  obtain ⟨q1,q2,⟨u,v,q3⟩,⟨o4,g4,_,d4⟩,⟨o5,g5,_,d5⟩⟩:=q
  simp only [List.mem_cons,List.not_mem_nil,or_false] at hc
  rcases hc with rfl | rfl | rfl | rfl | rfl
  ·exact ⟨_,q1,λ v z=>nomatch z⟩
  ·exact ⟨_,q2,λ v z=>nomatch z⟩
  ·exact ⟨_,q3,λ v z=>nomatch z⟩
  ·exact ⟨_,g4,λ v z=>by rw [d4] at z;cases z⟩
  ·exact ⟨_,g5,λ v z=>by rw [d5] at z;cases z⟩
 keep:=λ i h h' q k=>by
  obtain ⟨q1,q2,⟨u,v,q3⟩,q4,q5⟩:=q
  exact ⟨k _ (by simp) _ q1,k _ (by simp) _ q2,⟨u,v,k _ (by simp) _ q3⟩,z1j q4 λ o g=>k _ (by simp) o g,z1j q5 λ o g=>k _ (by simp) o g⟩
 item:=by
  intro X hP hw hK hc i pins s σ H E I hf st hg
  subst hP hw hK
  obtain ⟨xs,ys,x,y,hq1,hq2,hx,hy⟩:=hg
  obtain ⟨q1,q2,⟨u,v,q3⟩,q4,q5⟩:=st
  obtain ⟨as,ra,pa,za⟩:=I.tuple hq1
  obtain ⟨bs,rb,pb,zb⟩:=I.tuple hq2
  obtain ⟨ux,hux,rux⟩:=ra.get hx
  obtain ⟨uy,huy,ruy⟩:=rb.get hy
  refine y4l ap q1 q2 q3 q4 q5 (show s.heap.IsTuple a as.toArray from pa) (show s.heap.IsTuple b bs.toArray from pb) (x:=ux) (y:=uy) (by simpa using hux) (by simpa using huy) λ h' zz oo p1' p2' np bt=>?_
  have I1:Inv X pins σ H { s with heap:=h' }:=I.turnedL (t':=s.toks) (fl:=[z,ti,ox,j1,j2]) (λ c o hc e=>by
   simp only [List.mem_cons,List.not_mem_nil,or_false,not_or] at hc
   exact bt c o hc.1 hc.2.2.1 hc.2.2.2.1 hc.2.2.2.2 e) hf
  obtain ⟨f0,f1,f2,f3,f4,f5⟩:=I.fpOk (Nat.le_refl s.heap.objs.size) (I.hok.fresh (Nat.le_refl _))
  have n0:X.s₀.heap.get? s.heap.objs.size=none:=by
   cases q:X.s₀.heap.get? s.heap.objs.size with
   | none=>rfl
   | some o=>exact absurd (Nat.lt_of_lt_of_le (Heap.lt_size q) I.sz) (Nat.lt_irrefl _)
  have I2:Inv X pins σ (upd H s.heap.objs.size (.tup [x,y])) { s with heap:=h' }:=I1.track f0 ⟨small (by simp),[ux,uy],.cons rux (.cons ruy .nil),⟨_,np,rfl,_,rfl⟩⟩ f1 f4 f5 n0
  have lt:∀ {c o},s.heap.get? c=some o->c≠s.heap.objs.size:=λ e=>Nat.ne_of_lt (Heap.lt_size e)
  have hzT:z≠s.heap.objs.size:=lt q1
  have ti2:IsPair h' ti (.ref j1) (.ref j2):=bt _ _ ap.ti_z ap.ti_ox ap.ti_j1 ap.ti_j2 q2
  obtain ⟨e0,e1,e2,e3,e4,e5⟩:=hf z (by simp)
  refine ⟨_,rfl,wpAny_letOwnedTupleGo_zip zz λ h2 z2 sb=>?_⟩
  have I3:Inv X pins σ (upd H s.heap.objs.size (.tup [x,y])) { s with heap:=h2 }:=Inv.turned (s:={ s with heap:=h' }) (h':=h2) (t':=s.toks) (it:=z) I2 (λ c o hc e=>sb.extBut _ _ hc e) (by rw [z0p hzT];exact e0) e1 e3 e4 e5
  refine ⟨.ref s.heap.objs.size,_,I3,rfl,⟨_,x,y,rfl,f0,rfl,λ xs' ys' k1 k2=>?_⟩,⟨z2,sb.extBut _ _ ap.ti_z ti2,⟨_,_,sb.extBut _ _ ap.ox_z oo⟩,z1j p1' λ o g=>sb.extBut _ _ ap.j1_z g,z1j p2' λ o g=>sb.extBut _ _ ap.j2_z g⟩,λ c hc=>?_⟩
  ·rw [I.tuple_inj k1 hq1,I.tuple_inj k2 hq2];exact ⟨hx,hy⟩
  ·have cT:c≠s.heap.objs.size:=by
    obtain ⟨o4,g4,_⟩:=q4
    obtain ⟨o5,g5,_⟩:=q5
    simp only [List.mem_cons,List.not_mem_nil,or_false] at hc
    rcases hc with rfl | rfl | rfl | rfl | rfl
    ·exact hzT
    ·exact lt q2
    ·exact lt q3
    ·exact lt g4
    ·exact lt g5
   rw [z0p cT];exact (hf c hc).1
 done:=by
  intro X hP hw hK hc i pins s σ H E I hf st hg
  subst hP hw hK
  obtain ⟨xs,ys,hq1,hq2,hx⟩:=hg
  obtain ⟨q1,q2,⟨u,v,q3⟩,q4,q5⟩:=st
  obtain ⟨as,ra,pa,za⟩:=I.tuple hq1
  obtain ⟨bs,rb,pb,zb⟩:=I.tuple hq2
  have la:=ra.length
  have lb:=rb.length
  refine y9e (I.ok.hd hc) ap q1 q2 q3 q4 q5 (show s.heap.IsTuple a as.toArray from pa) (show s.heap.IsTuple b bs.toArray from pb) (by rcases hx with q | q;exact .inl (by simp;omega);exact .inr (by simp;omega)) λ h' bt=>⟨rfl,?_⟩
  exact I.turnedL (t':=s.toks) (fl:=[z,ti,ox,j1,j2]) (λ c o hc e=>by
   simp only [List.mem_cons,List.not_mem_nil,or_false,not_or] at hc
   exact bt c o hc.1 hc.2.2.1 hc.2.2.2.1 hc.2.2.2.2 e) hf
 self:=λ _ _ _ _ _ st h=>wpAny_pyIter_zip st.1 h
abbrev zt1 (h:Heap) (a:Addr):Heap:=h.push { cls:=.type "tuple_iterator",data:=.fields #[.ref a,.int 0 0] }
abbrev zt2 (h:Heap) (a b:Addr):Heap:=(zt1 h a).push { cls:=.type "tuple_iterator",data:=.fields #[.ref b,.int 0 0] }
abbrev zt3 (h:Heap) (a b:Addr):Heap:=(zt2 h a b).push { cls:=.type "tuple",data:=.seq #[.ref h.objs.size,.ref (zt1 h a).objs.size] }
abbrev zt4 (h:Heap) (a b:Addr):Heap:=(zt3 h a b).push { cls:=.type "tuple",data:=.seq #[.none,.none] }
abbrev zt5 (h:Heap) (a b:Addr):Heap:=(zt4 h a b).push { cls:=.type "zip",data:=.fields #[.none,.bool false,.bool false,.ref (zt2 h a b).objs.size,.ref (zt3 h a b).objs.size] }
theorem y9d (a b:Addr) (as bs:Array Value):Meets (Builtin.«zip.__new__» ⟨[.type "zip",.ref a,.ref b],[]⟩) (λ _ R s=>s.heap.IsTuple a as/\s.heap.IsTuple b bs/\R (.ok (.ret (.ref (zt4 s.heap a b).objs.size))) { s with heap:=zt5 s.heap a b }) :=
 .of_wp λ prog w A R s h=>by
  obtain ⟨hp,g,d,tk,os⟩:=s
  obtain ⟨ha,hb,h⟩:=h
  have q0:=sub_zip
  have q1:Heap.IsTuple (Shared.heap ⟨hp,g,d,tk,os⟩) a as:=ha
  have q2:Heap.IsTuple (Shared.heap ⟨hp.push { cls:=.type "tuple_iterator",data:=.fields #[.ref a,.int 0 0] },g,d,tk,os⟩) b bs:=z5u hb λ o e=>Heap.get?_push_of_some _ e
  wp_walk using wpAny_pyIter_tuple q1,wpAny_pyIter_tuple q2
  exact ⟨_,rfl,h⟩
theorem y4m {pg:Program}{wd:World}{B:Around}{X0:Value->Shared->Prop}{s0:Shared}{a b:Addr}{as bs:Array Value}{R:Value->Shared->Prop}(ha:s0.heap.IsTuple a as) (hb:s0.heap.IsTuple b bs)
  (f:∀h',IsZip h' (s0.heap.objs.size+4) (s0.heap.objs.size+2) (s0.heap.objs.size+3) .none->IsPair h' (s0.heap.objs.size+2) (.ref s0.heap.objs.size) (.ref (s0.heap.objs.size+1))->IsPair h' (s0.heap.objs.size+3) .none .none ->
   h'.IsTupleIter s0.heap.objs.size a 0->h'.IsTupleIter (s0.heap.objs.size+1) b 0->(∀c o,s0.heap.get? c=some o->h'.get? c=some o)->R (.ref (s0.heap.objs.size+4)) { s0 with heap:=h' }) :
  wpAny (model pg wd) B (call (.type "zip") [.ref a,.ref b]) R X0 s0:=by
 refine callType_new F.called_zip (by decide) (F.typeCall_zip_2 _ _) (F.newCall_zip_2 _ _) (λ ob=>F.args_object_init_3 ob _ _) F.entry_zip_new (y9d a b as bs) ⟨ha,hb,?_⟩
 have n1:(zt1 s0.heap a).objs.size=s0.heap.objs.size+1:=Heap.size_push ..
 have n2:(zt2 s0.heap a b).objs.size=s0.heap.objs.size+2:=by rw [Heap.size_push,n1]
 have n3:(zt3 s0.heap a b).objs.size=s0.heap.objs.size+3:=by rw [Heap.size_push,n2]
 have n4:(zt4 s0.heap a b).objs.size=s0.heap.objs.size+4:=by rw [Heap.size_push,n3]
 have g5:(zt5 s0.heap a b).get? (zt4 s0.heap a b).objs.size=some _:=Heap.get?_push_size _ rfl
 have g4:(zt5 s0.heap a b).get? (zt3 s0.heap a b).objs.size=some _:=Heap.get?_push_of_some _ (Heap.get?_push_size _ rfl)
 have g3:(zt5 s0.heap a b).get? (zt2 s0.heap a b).objs.size=some _:=Heap.get?_push_of_some _ (Heap.get?_push_of_some _ (Heap.get?_push_size _ rfl))
 have g2:(zt5 s0.heap a b).get? (zt1 s0.heap a).objs.size=some _:=Heap.get?_push_of_some _ (Heap.get?_push_of_some _ (Heap.get?_push_of_some _ (Heap.get?_push_size _ rfl)))
 have g1:(zt5 s0.heap a b).get? s0.heap.objs.size=some _:=Heap.get?_push_of_some _ (Heap.get?_push_of_some _ (Heap.get?_push_of_some _ (Heap.get?_push_of_some _ (Heap.get?_push_size _ rfl))))
 show _/\_
 rw [n2,n3,n4] at g5
 rw [n1,n2] at g3
 rw [n3] at g4
 rw [n1] at g2
 rw [n4]
 exact ⟨⟨_,g5,rfl⟩,f _ g5 g3 g4 ⟨_,g1,rfl,rfl⟩ ⟨_,g2,rfl,rfl⟩ λ c o q=>Heap.get?_push_of_some _ (Heap.get?_push_of_some _ (Heap.get?_push_of_some _ (Heap.get?_push_of_some _ (Heap.get?_push_of_some _ q))))⟩
theorem x1h (n a b:Nat) (ha:a < n) (hb:b < n):Apart5 (n+4) (n+2) (n+3) n (n+1) a b:=by
 constructor<;>first | exact Nat.ne_of_lt (by omega) | exact Nat.ne_of_gt (by omega)
section
variable {X:Cx}{es:List Expr}{x1:Nat}{pp:Pos}
def iZip (K:W.Frag) (ta:TA):TI:=λ σ H R=>ta σ H λ vs H1=>∃a b xs ys,vs=[.ref a,.ref b]/\SqT K H1 a xs/\SqT K H1 b ys/\R (Itz K a b) H1
theorem y6a {e1 e2:Expr}{ta:TA}{p pos:Pos}(hg:Gl X "zip") (hm:X.mg "zip" = none) (ha:PA X [e1,e2] ta) (hs:starEach [e1,e2] X.env=[(false,eval e1 X.env),(false,eval e2 X.env)]:=by rfl) (hs2:starEach [e2] X.env=[(false,eval e2 X.env)]:=by rfl) :
  PI X (.Tuple es x1 pp) (.Call (.Name "zip" p) [e1,e2] [] pos) (iZip X.K ta):=by
 intro pins s σ H R I h
 have hA:=ha pos pins s σ H _ I h
 refine Call_ (z4g I hg hm boot_zip (PyProof.Rows.callWith_type1 (thn hA λ us s1 ⟨vs,H1,I1,r1,q1⟩=>?_) (by rw [hs,hs2]) (by rw [hs2];rfl)))
 obtain ⟨a,b,xs,ys,rfl,ha,hb,q⟩:=q1
 obtain ⟨u,u',rfl,ra,rb⟩:=y9f r1
 cases (show u=Value.ref a from ra)
 cases (show u'=Value.ref b from rb)
 obtain ⟨as,va,pa,za⟩:=I1.tuple ha
 obtain ⟨bs,vb,pb,zb⟩:=I1.tuple hb
 have al:a < s1.heap.objs.size:=by obtain ⟨o,g,_⟩:=pa;exact Heap.lt_size g
 have bl:b < s1.heap.objs.size:=by obtain ⟨o,g,_⟩:=pb;exact Heap.lt_size g
 refine y4m (show s1.heap.IsTuple a as.toArray from pa) (show s1.heap.IsTuple b bs.toArray from pb) λ h' w1 w2 w3 w4 w5 kk=>?_
 have I2:Inv X pins σ H1 { s1 with heap:=h' }:=I1.kept (t':=s1.toks) kk
 have ap:=x1h s1.heap.objs.size a b al bl
 refine wpAny_pyIter_zip w1 ⟨s1.heap.objs.size+4,[s1.heap.objs.size+4,s1.heap.objs.size+2,s1.heap.objs.size+3,s1.heap.objs.size,s1.heap.objs.size+1],_,_,H1,rfl,I2,y9g ap,⟨w1,w2,⟨_,_,w3⟩,w4,w5⟩,λ c hc=>?_,q⟩
 have ge:s1.heap.objs.size≤c:=by
  simp only [List.mem_cons,List.not_mem_nil,or_false] at hc
  rcases hc with rfl | rfl | rfl | rfl | rfl<;>omega
 exact I1.fpOk ge (I1.hok.fresh ge)
end
def LoopZ (K:PySem.W.Frag) (g:TG) (tb:TS) (D:Ends) (σ:St) (vs:List V) (H1:Hp):Prop:=∃a b xs ys,vs=[.ref a,.ref b]/\SqT K H1 a xs/\SqT K H1 b ys/\∃W:Nat->Nat->St->Hp->Prop,(∃m,W 0 m σ H1)/\∀i m σ H,W i m σ H ->
 ((Itz K a b).stop i H/\D.nx σ H)\/((Itz K a b).go i H/\∃N:St->Hp->Prop,(∀σ' H',N σ' H'->∃m',m' < m/\W (i+1) m' σ' H')/\∀x H',(Itz K a b).yld i H x H'->g x σ H' λ σ2 H2=>tb { D with nx:=N,ct:=N,bk:=D.nx } σ2 H2)
theorem x3g {K:W.Frag}{ta:TA}{g:TG}{tb:TS}{D:Ends}{σ:St}{H:Hp}:tFor (iZip K ta) g tb D σ H=ta σ H λ vs H1=>LoopZ K g tb D σ vs H1:=rfl
theorem LoopZ.mk {K:W.Frag}{a b:Addr}{xs ys:List V}{g:TG}{tb:TS}{D:Ends}{σ:St}{H:Hp}(n:Nat) (hn:n=min xs.length ys.length) (h1:SqT K H a xs) (h2:SqT K H b ys) (Pv:Nat->St->Hp->Prop) (h0:Pv 0 σ H) (hl:∀i σ H,i≤n->Pv i σ H->SqT K H a xs/\SqT K H b ys)
  (hs:∀i x y σ H T,i < n->xs[i]?=some x->ys[i]?=some y->Pv i σ H->H T=none->g (.ref T) σ (upd H T (.tup [x,y])) λ σ2 H2=>tb { D with nx:=Pv (i+1),ct:=Pv (i+1),bk:=D.nx } σ2 H2) (hd:∀σ H,Pv n σ H->D.nx σ H) :
  LoopZ K g tb D σ [.ref a,.ref b] H:=by
 subst hn
 refine ⟨a,b,xs,ys,rfl,h1,h2,λ i m σ H=>m=min xs.length ys.length - i/\i≤min xs.length ys.length/\Pv i σ H,⟨_,rfl,Nat.zero_le _,h0⟩,?_⟩
 rintro i m σ H ⟨rfl,hi,p⟩
 obtain ⟨k1,k2⟩:=hl i σ H hi p
 by_cases hlt:i < min xs.length ys.length
 ·have l1:i < xs.length:=by omega
  have l2:i < ys.length:=by omega
  refine .inr ⟨⟨xs,ys,_,_,k1,k2,List.getElem?_eq_getElem l1,List.getElem?_eq_getElem l2⟩,Pv (i+1),λ σ' H' p'=>⟨min xs.length ys.length - (i+1),by omega,rfl,hlt,p'⟩,λ v H' yy=>?_⟩
  obtain ⟨T,x,y,rfl,hT,rfl,ex⟩:=yy
  obtain ⟨ex1,ex2⟩:=ex xs ys k1 k2
  exact hs i x y σ H T hlt ex1 ex2 p hT
 ·have e:i=min xs.length ys.length:=by omega
  exact .inl ⟨⟨xs,ys,k1,k2,by omega⟩,hd σ H (e ▸ p)⟩
def CompZ (K:PySem.W.Frag) (k:Nat) (js:List Nat) (g:TG) (te:TE) (σ:St) (vs:List V) (H1:Hp) (Q:VK):Prop:=∃a b xs ys,vs=[.ref a,.ref b]/\SqT K H1 a xs/\SqT K H1 b ys/\∃W:Nat->Nat->List V->St->Hp->Prop,(∃m,W 0 m [] (compSt k js σ) H1)/\∀i m zs σ' H',W i m zs σ' H' ->
  ((Itz K a b).stop i H'/\∀p,H' p=none->Q (.ref p) (upd H' p (.lst zs))) \/
  ((Itz K a b).go i H'/\zs.length < sizeLine/\∃N:List V->St->Hp->Prop,(∀zs σ2 H2,N zs σ2 H2->∃m',m' < m/\W (i+1) m' zs σ2 H2)/\∀x H2,(Itz K a b).yld i H' x H2->g x σ' H2 λ σ3 H3=>te σ3 H3 λ v H4=>N (zs++[v]) σ3 H4)
theorem x1b {K:W.Frag}{k:Nat}{js:List Nat}{ta:TA}{g:TG}{te:TE}{σ:St}{H:Hp}{Q:VK}:tComp (iZip K ta) k js g te σ H Q=ta σ H λ vs H1=>CompZ K k js g te σ vs H1 Q:=rfl
theorem CompZ.mk {K:W.Frag}{a b:Addr}{xs ys:List V}{k:Nat}{js:List Nat}{g:TG}{te:TE}{Q:VK}{σ:St}{H:Hp}(n:Nat) (hn:n=min xs.length ys.length) (h1:SqT K H a xs) (h2:SqT K H b ys) (Pv:Nat->List V->St->Hp->Prop) (h0:Pv 0 [] (compSt k js σ) H) (hl:∀i zs σ H,i≤n->Pv i zs σ H->SqT K H a xs/\SqT K H b ys)
  (hs:∀i x y zs σ H T,i < n->xs[i]?=some x->ys[i]?=some y->Pv i zs σ H->H T=none->zs.length < sizeLine/\g (.ref T) σ (upd H T (.tup [x,y])) λ σ3 H3=>te σ3 H3 λ v H4=>Pv (i+1) (zs++[v]) σ3 H4) (hz:∀zs σ H,Pv n zs σ H->∀p,H p=none->Q (.ref p) (upd H p (.lst zs))) (hlen:∀i zs σ H,Pv i zs σ H->zs.length < sizeLine) :
  CompZ K k js g te σ [.ref a,.ref b] H Q:=by
 subst hn
 refine ⟨a,b,xs,ys,rfl,h1,h2,λ i m zs σ H=>m=min xs.length ys.length - i/\i≤min xs.length ys.length/\Pv i zs σ H,⟨_,rfl,Nat.zero_le _,h0⟩,?_⟩
 rintro i m zs σ H ⟨rfl,hi,p⟩
 obtain ⟨k1,k2⟩:=hl i zs σ H hi p
 by_cases hlt:i < min xs.length ys.length
 ·have l1:i < xs.length:=by omega
  have l2:i < ys.length:=by omega
  refine .inr ⟨⟨xs,ys,_,_,k1,k2,List.getElem?_eq_getElem l1,List.getElem?_eq_getElem l2⟩,hlen _ _ _ _ p,Pv (i+1),λ zs' σ' H' p'=>⟨min xs.length ys.length - (i+1),by omega,rfl,hlt,p'⟩,λ v H' yy=>?_⟩
  obtain ⟨T,x,y,rfl,hT,rfl,ex⟩:=yy
  obtain ⟨ex1,ex2⟩:=ex xs ys k1 k2
  exact (hs i x y zs σ H T hlt ex1 ex2 p hT).2
 ·have e:i=min xs.length ys.length:=by omega
  exact .inl ⟨⟨xs,ys,k1,k2,by omega⟩,hz zs σ H (e ▸ p)⟩
section
variable {X:Cx}
theorem y8s (hc:X.calm=true):CallR X (.builtin "sum") (λ xs H Q=>∃(a:Addr) (ns:List Int),xs=[.ref a]/\SqL X.K H a (ns.map V.int)/\Q (.int ns.sum) H):=by
 intro pins s σ H xs us Q I r h
 obtain ⟨a,ns,rfl,hq,q⟩:=h
 obtain ⟨u,rfl,ru⟩:=z4r r
 cases (show u=Value.ref a from ru)
 obtain ⟨its,rv,pl,hz⟩:=I.list hq
 have hi:=z5s rv
 have hn:=hi.numsOf
 obtain ⟨ps,e⟩:=hi.allInts.items
 have hl:s.heap.IsList a (intItems ps):=e ▸ pl.isList
 refine sum_intListG (I.ok.hd hc) hl λ h' tk t' kk=>?_
 have e2:preSum (numAt ps) ps.size=ns.sum:=by
  rw [preSum_eq,List.take_of_length_le (by simp),← nums_intItems,← e]
  exact congrArg List.sum hn
 rw [e2]
 exact ⟨.int ns.sum,H,I.kept kk,⟨t',rfl⟩,q⟩
def Its (lo st:Int) (n:Nat):It:=⟨λ i _=>i < n,λ i H x H'=>H'=H/\x=.int (lo+i * st),λ i _=>n≤i⟩
def iRng3 (ta:TA):TI:=λ σ H R=>ta σ H λ vs H1=>∃i j c:Int,vs=[.int i,.int j,.int c]/\(c≠0/\c.natAbs < 1073741824/\Builtin.Range.small i j c=true)/\R (Its i c (Builtin.Range.rangeSize i j c).toNat) H1
end
def LoopS (lo st:Int) (n:Nat) (g:TG) (tb:TS) (D:Ends) (σ:St) (H1:Hp):Prop:=∃W:Nat->Nat->St->Hp->Prop,(∃m,W 0 m σ H1)/\∀i m σ H,W i m σ H ->
 ((Its lo st n).stop i H/\D.nx σ H)\/((Its lo st n).go i H/\∃N:St->Hp->Prop,(∀σ' H',N σ' H'->∃m',m' < m/\W (i+1) m' σ' H')/\∀x H',(Its lo st n).yld i H x H'->g x σ H' λ σ2 H2=>tb { D with nx:=N,ct:=N,bk:=D.nx } σ2 H2)
theorem x0r {ta:TA}{g:TG}{tb:TS}{D:Ends}{σ:St}{H:Hp}:tFor (iRng3 ta) g tb D σ H=ta σ H λ vs H1=>∃i j c:Int,vs=[.int i,.int j,.int c]/\(c≠0/\c.natAbs < 1073741824/\Builtin.Range.small i j c=true)/\LoopS i c (Builtin.Range.rangeSize i j c).toNat g tb D σ H1:=rfl
theorem LoopS.mk {lo st:Int}{n:Nat}{g:TG}{tb:TS}{D:Ends}{σ:St}{H:Hp}(Pv:Nat->St->Hp->Prop) (h0:Pv 0 σ H)
  (hs:∀i σ H,i < n->Pv i σ H->g (.int (lo+i * st)) σ H λ σ2 H2=>tb { D with nx:=Pv (i+1),ct:=Pv (i+1),bk:=D.nx } σ2 H2) (hd:∀σ H,Pv n σ H->D.nx σ H):LoopS lo st n g tb D σ H:=by
 refine ⟨λ i m σ H=>m=n - i/\i≤n/\Pv i σ H,⟨_,rfl,Nat.zero_le _,h0⟩,?_⟩
 rintro i m σ H ⟨rfl,hi,p⟩
 by_cases hlt:i < n
 ·refine .inr ⟨hlt,Pv (i+1),λ σ' H' p'=>⟨n - (i+1),by omega,rfl,hlt,p'⟩,λ v H' yy=>?_⟩
  obtain ⟨rfl,rfl⟩:=yy
  exact hs i σ _ hlt p
 ·have e:i=n:=by omega
  exact .inl ⟨(show n≤i by omega),hd σ H (e ▸ p)⟩
def CompS (lo st:Int) (n k:Nat) (js:List Nat) (g:TG) (te:TE) (σ:St) (H1:Hp) (Q:VK):Prop:=∃W:Nat->Nat->List V->St->Hp->Prop,(∃m,W 0 m [] (compSt k js σ) H1)/\∀i m ys σ' H',W i m ys σ' H' ->
  ((Its lo st n).stop i H'/\∀p,H' p=none->Q (.ref p) (upd H' p (.lst ys))) \/
  ((Its lo st n).go i H'/\ys.length < sizeLine/\∃N:List V->St->Hp->Prop,(∀zs σ2 H2,N zs σ2 H2->∃m',m' < m/\W (i+1) m' zs σ2 H2)/\∀x H2,(Its lo st n).yld i H' x H2->g x σ' H2 λ σ3 H3=>te σ3 H3 λ v H4=>N (ys++[v]) σ3 H4)
theorem y8m {k:Nat}{js:List Nat}{ta:TA}{g:TG}{te:TE}{σ:St}{H:Hp}{Q:VK}:tComp (iRng3 ta) k js g te σ H Q=ta σ H λ vs H1=>∃i j c:Int,vs=[.int i,.int j,.int c]/\(c≠0/\c.natAbs < 1073741824/\Builtin.Range.small i j c=true)/\CompS i c (Builtin.Range.rangeSize i j c).toNat k js g te σ H1 Q:=rfl
theorem CompS.mk {lo st:Int}{n k:Nat}{js:List Nat}{g:TG}{te:TE}{Q:VK}{σ:St}{H:Hp}(Pv:Nat->List V->St->Hp->Prop) (h0:Pv 0 [] (compSt k js σ) H) (hlen:∀i ys σ H,Pv i ys σ H->ys.length < sizeLine)
  (hs:∀i ys σ H,i < n->Pv i ys σ H->g (.int (lo+i * st)) σ H λ σ3 H3=>te σ3 H3 λ v H4=>Pv (i+1) (ys++[v]) σ3 H4) (hd:∀ys σ H,Pv n ys σ H->∀p,H p=none->Q (.ref p) (upd H p (.lst ys))):CompS lo st n k js g te σ H Q:=by
 refine ⟨λ i m ys σ H=>m=n - i/\i≤n/\Pv i ys σ H,⟨_,rfl,Nat.zero_le _,h0⟩,?_⟩
 rintro i m ys σ H ⟨rfl,hi,p⟩
 by_cases hlt:i < n
 ·refine .inr ⟨hlt,hlen _ _ _ _ p,Pv (i+1),λ zs σ' H' p'=>⟨n - (i+1),by omega,rfl,hlt,p'⟩,λ v H' yy=>?_⟩
  obtain ⟨rfl,rfl⟩:=yy
  exact hs i ys σ _ hlt p
 ·have e:i=n:=by omega
  exact .inl ⟨(show n≤i by omega),hd ys σ H (e ▸ p)⟩
section
variable {X:Cx}
def rCatS:R2:=λ x y H Q=>∃a b xs ys,x=.ref a/\y=.ref b/\H a=some (.tup xs)/\H b=some (.tup ys)/\xs.length+ys.length≤sizeLine/\∀r H',Same H H'->H' r=some (.tup (xs++ys))->Q (.ref r) H'
theorem z3k:OpR X (binaryOp .Add) rCatS:=by
 intro pins s σ H x y v u Q I rx ry h
 obtain ⟨a,b,xs,ys,rfl,rfl,ha,hb,hz,q⟩:=h
 refine x2v pins s σ H _ _ v u Q I rx ry ⟨a,b,xs,ys,rfl,rfl,.of ha,.of hb,hz,λ e=>?_,λ _ e=>?_,λ _ _ p hp=>?_⟩
 ·subst e;exact q b H (Same.refl _) hb
 ·subst e;exact q a H (Same.refl _) (by rw [List.append_nil];exact ha)
 ·exact q p _ (z0e hp _) z0h
def rSlTS:V->Option Int->Option Int->Hp->VK->Prop:=λ x lo hi H Q=>∃a xs,x=.ref a/\H a=some (.tup xs)/\¬(HT.sIx xs.length 0 lo=0/\HT.sIx xs.length xs.length hi=xs.length)/\∀r H',Same H H'->H' r=some (.tup (cutV xs lo hi))->Q (.ref r) H'
theorem z6o:SlR X rSlTS:=by
 intro pins s σ H x v vl vu lo hi sl Q I rx hs pl pu h
 obtain ⟨a,xs,e,ha,nw,q⟩:=h
 exact x4c pins s σ H x v vl vu lo hi sl Q I rx hs pl pu ⟨a,xs,e,.of ha,nw,λ p hp=>q p _ (z0e hp _) z0h⟩
end
theorem z5x {names:List (Str × NameKind)}{cl:List (Str × Addr)}(h:names.all (λ y=>match y.2 with | .cell=>(cl.lookup y.1).isSome | .free=>(cl.lookup y.1).isSome | _=>true)=true) :
  ∀x,(names.lookup x=some .cell\/names.lookup x=some .free)->∃c,cl.lookup x=some c:=by
 intro x hx
 have z:=List.all_eq_true.mp h
 rcases hx with hx | hx
 ·exact Option.isSome_iff_exists.mp (z _ (PySem.mem_of_lookup hx))
 ·exact Option.isSome_iff_exists.mp (z _ (PySem.mem_of_lookup hx))
theorem x3r {X:Cx}{scope:Scope}{cl:List (Str × Addr)}{x0:Str}{j0:Nat}(c0:Cap X scope cl x0 j0):∀(i:Nat) x j,[x0][i]?=some x->[j0][i]?=some j->Cap X scope cl x j
 | 0,_,_,h1,h2=>by cases h1;cases h2;exact c0
 | _+1,_,_,h1,_=>by cases h1
theorem x7s {X:Cx}{scope:Scope}{cl:List (Str × Addr)}{x0 x1:Str}{j0 j1:Nat}(c0:Cap X scope cl x0 j0) (c1:Cap X scope cl x1 j1):∀(i:Nat) x j,[x0,x1][i]?=some x->[j0,j1][i]?=some j->Cap X scope cl x j
 | 0,_,_,h1,h2=>by cases h1;cases h2;exact c0
 | 1,_,_,h1,h2=>by cases h1;cases h2;exact c1
 | _+2,_,_,h1,_=>by cases h1
section
variable {prog:Program}{w:World}{A:Around}{R:Result->Shared->Prop}{s:Shared}
theorem y1p {elt target iter cnd:Expr}{scope:Scope}{pos:Pos}{it acc:Value}{env:Env}(I:Nat->Shared->Prop)
  (turn:∀n s,I n s->wpAny (model prog w) A (pyNext it) (λ r s₁=>match r with
   | none=>R (.ok .next) s₁
   | some v=>wpAny (model prog w) A (letOwnedTupleGo target it v) (λ _ s₀=>wpAny (model prog w) A (assign target env v) (λ _ s₂=>wpAny (model prog w) A (isTrue cnd env (eval cnd env)) (λ b s₃ =>
     if b=true then wpAny (model prog w) A (eval elt env) (λ x s₄ =>
      wpAny (model prog w) A (call (.builtin "list.append") [acc,x]) (λ _ s₅=>∃m,m < n/\I m s₅) (λ _ _=>False) s₄) (λ _ _=>False) s₃
     else ∃m,m < n/\I m s₃)
     (λ _ _=>False) s₂) (λ _ _=>False) s₀) (λ _ _=>False) s₁) (λ _ _=>False) s)
  (n:Nat) (h:I n s) :
  codeAny (model prog w) A (.compLoop (.ListComp elt [⟨target,iter,[cnd],0⟩] scope pos) 0 it acc env) R s:=by
 refine codeAny_loop rfl I (λ n s hI=>?_) n h
 show wpAny _ _ ((compTurn (.ListComp elt [⟨target,iter,[cnd],0⟩] scope pos) 0 it acc env).onRaise (λ x=>do noteFrame x env;theTreesLotGoes x)) _ _ s
 refine wpAny_noted ?_
 rw [compTurn_list]
 refine wpAny_bind (wpAny_standAt (wpAny_bind (wpAny_mono (turn n s hI) (λ r s₁ h₁=>?_) λ _ _ h'=>h'.elim)))
 cases r with
 | none=>exact wpAny_pure h₁
 | some v =>
  refine wpAny_bind (wpAny_mono h₁ (λ _ s₀ h₀=>?_) λ _ _ h'=>h'.elim)
  refine wpAny_bind (wpAny_mono h₀ (λ _ s₂ h₂=>?_) λ _ _ h'=>h'.elim)
  refine wpAny_bind (wpAny_mono (wpAny_tests_one h₂) (λ ok s₃ h₃=>?_) λ _ _ h'=>h'.elim)
  cases ok with
  | false=>exact wpAny_pure ⟨rfl,h₃⟩
  | true=>exact wpAny_bind (wpAny_bind (wpAny_mono h₃ (λ x s₄ h₄=>wpAny_bind (wpAny_mono h₄ (λ _ s₅ h₅=>wpAny_pure (wpAny_pure ⟨rfl,h₅⟩)) λ _ _ z=>z.elim)) λ _ _ z=>z.elim))
end
def tCompI (wi:TI) (k:Nat) (js:List Nat) (g:TG) (tc:TT) (te:TE):TE:=λ σ H Q=>wi σ H λ J H1 =>
 ∃W:Nat->Nat->List V->St->Hp->Prop,(∃m,W 0 m [] (compSt k js σ) H1)/\∀i m ys σ' H',W i m ys σ' H' ->
  (J.stop i H'/\∀p,H' p=none->Q (.ref p) (upd H' p (.lst ys))) \/
  (J.go i H'/\ys.length < sizeLine/\∃N:List V->St->Hp->Prop,(∀zs σ2 H2,N zs σ2 H2->∃m',m' < m/\W (i+1) m' zs σ2 H2) /\
   ∀x H2,J.yld i H' x H2->g x σ' H2 λ σ3 H3=>tc σ3 H3 λ b H4=>if b=true then te σ3 H4 λ v H5=>N (ys++[v]) σ3 H5 else N ys σ3 H4)
theorem y4i {X:Cx}{elt tg iter cnd:Expr}{scope:Scope}{cl:List (Str × Addr)}{pos:Pos}{own fv:List Str}{js:List Nat}{wi:TI}{g:TG}{tc:TT}{te:TE}
    (hc:X.calm=true) (hi:PI X tg iter wi) (hclos:closureFor scope X.env=pure cl) (hcell:∀y∈scope.names,y.2≠.cell) (hkind:scope.kind=.function)
    (hnames:∀y∈scope.names,y.2=.local->scope.names.lookup y.1=some .local)
    (hcl:∀x c,cl.lookup x=some c->X.env.cells.lookup x=some c)
    (hhas:∀x,((relabel scope X.env).names.lookup x=some .cell\/(relabel scope X.env).names.lookup x=some .free)->∃c,cl.lookup x=some c)
    (hlen:js.length=fv.length) (hcap:∀(i:Nat) x j,fv[i]?=some x->js[i]?=some j->Cap X scope cl x j)
    (hg:∀(C:Addr) (ex:List Addr) (s:Shared) (H:Hp),PG (cxComp X (own++fv) scope cl C ex s H) tg g)
    (he:∀(C:Addr) (ex:List Addr) (s:Shared) (H:Hp),PE (cxComp X (own++fv) scope cl C ex s H) elt te)
    (ht:∀(C:Addr) (ex:List Addr) (s:Shared) (H:Hp),PT (cxComp X (own++fv) scope cl C ex s H) cnd tc)
    (hs:∀x,foldedSetIterable iter X.env x=pure x)
    {pins:List (Addr × Obj)}{s:Shared}{σ:St}{H:Hp}{Q:VK}{use:Option (Value->Sem Unit)}{QQ:Value->Shared->Prop}{fpos:Pos}(I:Inv X pins σ H s) (h:tCompI wi own.length js g tc te σ H Q)
    (fin:∀(a C:Addr) (s5:Shared) (H5:Hp) (fl:Flow),Inv X pins σ H5 s5->H5 C=none->C≠X.env.locals->X.s₀.heap.objs.size≤C->(∀x c,X.env.cells.lookup x=some c->c≠C)->(∀p∈X.pn++pins,p.1≠C)->(∃m,s5.heap.Ns C m)->Q (.ref a) H5->compPost (model X.prog X.w) X.A X.xe use QQ (.ref a) C (.ok fl) s5) :
    wpAny (model X.prog X.w) X.A (comprehension (.ListComp elt [⟨tg,iter,[cnd],0⟩] scope pos) scope X.env fpos (newList []) false (firstIter [⟨tg,iter,[cnd],0⟩] X.env) use) QQ X.xe s:=by
  refine wpAny_comprehension_free (use:=use) rfl hs hclos hkind hnames (thn (hi pins s σ H _ I h) λ v s1 h1=>thn h1 λ itv s2 h2=>?_)
  obtain ⟨it,fp,tn,J,H2,e,I2,T,st2,f2,W,⟨m0,w0⟩,turn⟩:=h2
  subst e
  refine wpAny_newObj_type (wpAny_newFunctionEnv hcell (by intro y hy;simp at hy) (λ h₁ hns₁ hsb₁=>?_) hkind)
  dsimp only at hns₁ hsb₁ ⊢
  generalize hHp:s2.heap.push { cls:=.type "list",dict:=none,data:=.seq ([]:List Value).toArray }=hL at hns₁ hsb₁ ⊢
  have hC:hL.objs.size=s2.heap.objs.size+1:=by rw [← hHp,Heap.size_push]
  have hDC:s2.heap.objs.size≠hL.objs.size:=by rw [hC];exact Nat.ne_of_lt (Nat.lt_succ_self _)
  have ltC:∀b,b < s2.heap.objs.size->b≠hL.objs.size:=λ b hb=>by rw [hC];exact Nat.ne_of_lt (Nat.lt_succ_of_lt hb)
  have old:∀b o,s2.heap.get? b=some o->h₁.get? b=some o:=λ b o e=>hsb₁.extBut b o (ltC b (Heap.lt_size e)) (Heap.get?_push_of_some _ (hHp ▸ Heap.get?_push_of_some _ e))
  have hacc:h₁.get? s2.heap.objs.size=some { cls:=.type "list",data:=.seq ([]:List Value).toArray 0 }:=hsb₁.extBut _ _ hDC (Heap.get?_push_of_some _ (hHp ▸ Heap.get?_push_size _ rfl))
  have hfresh:∀a,s2.heap.objs.size≤a->H2 a=none:=λ a ha=>I2.hok.fresh ha
  have fpL:∀b∈fp,b < s2.heap.objs.size:=λ b hb=>by
    obtain ⟨o,e,_⟩:=T.obj _ _ st2 b hb
    exact Heap.lt_size e
  have cellL:∀x c,cl.lookup x=some c->c < s2.heap.objs.size:=λ x c e=>by
    obtain ⟨v,q⟩:=I2.cell x c (hcl x c e)
    exact q.lt
  have pinL:∀p∈X.pn++pins,p.1 < s2.heap.objs.size:=λ p hp=>Heap.lt_size (I2.pin p hp).1
  generalize hX:cxComp X (own++fv) scope cl hL.objs.size fp s2 H2=Y
  have ok:Y.Ok:=by
    subst hX
    refine ⟨I2.ok.mod,hkind,I2.ok.glob,I2.ok.blt,by show s2.heap.objs.size≤hL.objs.size;omega,λ x y c h1 h2=>I2.ok.inj x y c (hcl x c h1) (hcl y c h2),λ x hx=>hhas x hx,
      λ x c hf=>absurd hf (by show ¬(false=true);decide),I2.ok.hd,I2.ok.frames,.inl rfl,λ b hb=>⟨ltC b (fpL b hb),λ x c e=>(f2 b hb).2.2.2.2.1 x c (hcl x c e)⟩,I2.bs,Nat.le_trans I2.ok.bsz I2.sz,λ b o e hb=>?_,λ b hb hz=>?_,I2.stack,I2.stkFree⟩
    · rcases (f2 b hb).2.2.2.1 with z | z
      · exact I2.ok.noex b o e z
      · exact absurd (Nat.lt_of_lt_of_le (Heap.lt_size e) (Nat.le_trans I2.ok.bsz z)) (Nat.lt_irrefl _)
    · rcases List.mem_cons.mp (I2.stkSub b hz) with z | z
      · exact (f2 b hb).2.1 z
      · exact (f2 b hb).2.2.1 z
  have hYl:Y.env.locals=hL.objs.size:=by subst hX;rfl
  have hYs:Y.s₀=s2:=by subst hX;rfl
  have hYH:Y.H₀=H2:=by subst hX;rfl
  have hYx:Y.ex=fp:=by subst hX;rfl
  have hYf:Y.fs=frs X.stack:=by subst hX;rfl
  have hYc:Y.env.cells=cl:=by subst hX;rfl
  have hYp:Y.pn=X.pn:=by subst hX;rfl
  have pinOk:∀p∈X.pn++pins,s2.heap.get? p.1=some p.2/\H2 p.1=none/\p.1≠hL.objs.size/\p.1 ∉ frs X.stack/\∀v,p.2.data≠.cell v:=λ p hp=>by
    obtain ⟨e,n,ne,nf,d⟩:=I2.pin p hp
    refine ⟨e,n,ltC _ (Heap.lt_size e),λ z=>?_,d⟩
    rcases List.mem_cons.mp (I2.stkSub _ z) with q | q
    · exact ne q
    · exact nf q
  have stkL:∀b∈frs X.stack,b < s2.heap.objs.size:=λ b hb=>by
    obtain ⟨_,o,ho,_⟩:=I2.stack.mem hb
    exact Heap.lt_size ho
  have I3:Inv Y (pins++[(s2.heap.objs.size,{ cls:=.type "list",data:=.seq ([]:List Value).toArray 0 })]) (compSt own.length js σ) H2 { s2 with heap:=h₁,toks:=s2.toks+([]:List (Str × Value)).length }:=by
    refine ⟨ok,by subst hX;rfl,I2.bare,by rw [hYH,hYs];exact Un.kept old,⟨_,by rw [hYl];exact hns₁,λ i x v e1 e2 e3=>?_⟩,λ x c e=>?_,by rw [hYl];exact hfresh _ (by omega),λ x c e=>?_,λ p hp=>?_,by subst hX;exact I2.hok.kept old,?_⟩
    · subst hX
      have e1:(own++fv)[i]?=some x:=e1
      unfold compSt at e2
      by_cases hi:i < own.length
      · rw [List.getElem?_append_left (by simpa using hi),List.getElem?_replicate] at e2
        split at e2<;>cases e2
      · rw [List.getElem?_append_right (by simpa using hi),List.length_replicate,List.getElem?_map] at e2
        rw [List.getElem?_append_right (by omega)] at e1
        cases ej:js[i - own.length]? with
        | none=>rw [ej] at e2;cases e2
        | some j =>
          rw [ej] at e2
          have cp:=hcap _ x j e1 ej
          have e2':σ[j]?=some (some v):=z9w (Option.some.inj e2)
          obtain ⟨m,hn,hl⟩:=I2.loc
          obtain ⟨u,r,l⟩:=hl j x v cp.at_ e2' (cp.out.elim (λ z=>.inr (.inl z)) λ z=>.inr (.inr z))
          refine ⟨u,r,.inr ⟨cp.inn,?_⟩⟩
          obtain ⟨c,ec⟩:=hhas x cp.inn
          rcases l with ⟨k,_⟩ | ⟨_,c',ec',z⟩
          · have k:X.env.scope.names.lookup x=some .local:=k
            rcases cp.out with q | q<;>rw [q] at k<;>cases k
          · rw [hcl x c ec] at ec'
            cases ec'
            obtain ⟨o,ho,hd⟩:=z
            exact ⟨c,ec,o,old _ _ ho,hd⟩
    · rw [hYc] at e
      obtain ⟨v,o,ho,hd⟩:=I2.cell x c (hcl x c e)
      exact ⟨v,o,old _ _ ho,hd⟩
    · rw [hYc] at e
      exact I2.freeC x c (hcl x c e)
    · rw [hYp] at hp
      rw [hYl,hYf]
      rcases List.mem_append.mp hp with z | z
      · obtain ⟨a,b,c,d,f⟩:=pinOk p (List.mem_append_left _ z)
        exact ⟨old _ _ a,b,c,d,f⟩
      · rcases List.mem_append.mp z with z | z
        · obtain ⟨a,b,c,d,f⟩:=pinOk p (List.mem_append_right _ z)
          exact ⟨old _ _ a,b,c,d,f⟩
        · have e:p=_:=List.mem_singleton.mp z
          subst e
          exact ⟨hacc,hfresh _ (Nat.le_refl _),hDC,λ z=>absurd (stkL _ z) (Nat.lt_irrefl _),λ v z=>by cases z⟩
    · subst hX
      unfold compSt
      show _=(own++fv).length
      simp [hlen]
  have hYprog:Y.prog=X.prog:=by subst hX;rfl
  have hYw:Y.w=X.w:=by subst hX;rfl
  have hYK:Y.K=X.K:=by subst hX;rfl
  have hYA:Y.A=X.A:=by subst hX;rfl
  have hYcalm:Y.calm=true:=by subst hX;exact hc
  have hYxe:Y.xe=λ _ _=>False:=by subst hX;rfl
  have hYenv:Y.env=compEnvC scope cl hL.objs.size X.env:=by subst hX;rfl
  have hg':=hg hL.objs.size fp s2 H2
  have he':=he hL.objs.size fp s2 H2
  have ht':=ht hL.objs.size fp s2 H2
  rw [hX] at hg' he' ht'
  have fpOk:∀ {H':Hp}{pn:List (Addr × Obj)},(∀b∈fp,H' b=none)->(∀p∈pn,p.1=s2.heap.objs.size\/p∈pins)->∀b∈fp,FpOk Y pn H' b:=λ hn hp b hb=>by
    refine ⟨hn b hb,by rw [hYl];exact ltC b (fpL b hb),?_,.inl (by rw [hYx];exact hb),λ x c e=>?_,λ p hq=>?_⟩
    · rw [hYf]
      intro hz
      rcases List.mem_cons.mp (I2.stkSub b hz) with z | z
      · exact (f2 b hb).2.1 z
      · exact (f2 b hb).2.2.1 z
    · rw [hYc] at e
      exact (f2 b hb).2.2.2.2.1 x c (hcl x c e)
    · rw [hYp] at hq
      rcases List.mem_append.mp hq with z | z
      · exact (f2 b hb).2.2.2.2.2 p (List.mem_append_left _ z)
      · rcases hp p z with q | q
        · rw [q];exact Ne.symm (Nat.ne_of_lt (fpL b hb))
        · exact (f2 b hb).2.2.2.2.2 p (List.mem_append_right _ q)
  have loop:∀s₃:Shared,s₃={ s2 with heap:=h₁,toks:=s2.toks+([]:List (Str × Value)).length } ->
      codeAny (model X.prog X.w) X.A (.compLoop (.ListComp elt [⟨tg,iter,[cnd],0⟩] scope pos) 0 (.ref it) (.ref s2.heap.objs.size) (compEnvC scope cl hL.objs.size X.env))
        (compPost (model X.prog X.w) X.A X.xe use QQ (.ref s2.heap.objs.size) hL.objs.size) s₃:=by
    rintro s₃ rfl
    refine y1p (λ n s'=>∃i ys its k σ' H',Inv Y (pins++[(s2.heap.objs.size,{ cls:=.type "list",data:=.seq (its:List Value).toArray k })]) σ' H' s'/\tn i s'.heap/\(∀b∈fp,H' b=none)/\Vals ys its/\ys.length≤sizeLine/\W i n ys σ' H') ?_ m0
      ⟨0,[],[],0,_,H2,I3,T.keep _ _ _ st2 λ b _ o e=>old b o e,λ b hb=>(f2 b hb).1,.nil,Nat.zero_le _,w0⟩
    rintro n s4 ⟨i,ys,its,k,σ4,H4,I4,st4,fr4,rv,hz,w4⟩
    have pinD:∀p∈(pins++[(s2.heap.objs.size,({ cls:=.type "list",data:=.seq (its:List Value).toArray k }:Obj))]),p.1=s2.heap.objs.size\/p∈pins:=λ p hp=>by
      rcases List.mem_append.mp hp with z | z
      · exact .inr z
      · rw [List.mem_singleton.mp z];exact .inl rfl
    have F4:=fpOk (pn:=pins++[(s2.heap.objs.size,{ cls:=.type "list",data:=.seq (its:List Value).toArray k })]) fr4 pinD
    rcases turn i n ys σ4 H4 w4 with ⟨stop,qn⟩ | ⟨go,hlt,N,hN,step⟩
    · have d:=T.done Y hYprog hYw hYK hYcalm i _ s4 σ4 H4 (λ _ _=>False) I4 F4 st4 stop
      rw [hYA] at d
      refine thn d λ r s5 ⟨hr,I5⟩=>?_
      subst hr
      obtain ⟨m,hn,_⟩:=id I5.loc
      rw [hYl] at hn
      have hD:=I5.pin (s2.heap.objs.size,{ cls:=.type "list",data:=.seq (its:List Value).toArray k }) (List.mem_append_right _ (List.mem_append_right _ (List.mem_singleton.mpr rfl)))
      have hDn:H4 s2.heap.objs.size=none:=hD.2.1
      have kp:∀b o,b≠hL.objs.size->s5.heap.get? b=some o->s5.heap.get? b=some o:=λ b o _ e=>e
      have B:=I5.base
      rw [hYH,hYs,hYx,hYf] at B
      have s2C:∀b o,s2.heap.get? b=some o->b≠hL.objs.size:=λ b o e=>ltC b (Heap.lt_size e)
      have trk:∀b u,H4 b=some u->b≠s2.heap.objs.size:=λ b u e z=>by rw [z,hDn] at e;cases e
      have trC:∀b u,H4 b=some u->b≠hL.objs.size:=λ b u e z=>by
        have:=I5.free
        rw [hYl,← z,e] at this;cases this
      have hH2:∀b u,H2 b=some u->b≠s2.heap.objs.size:=λ b u e z=>by rw [z,hfresh _ (Nat.le_refl _)] at e;cases e
      have IX:Inv X pins σ (upd H4 s2.heap.objs.size (.lst ys)) s5:=by
       refine I2.call' (ch:=fp) (by show s5.os=s2.os;rw [I5.os,hYs]) ⟨λ b o e n hb hx=>kp b o (s2C b o e) (B.keep b o e n hb hx),λ b o e n hb hx=>?_,λ b o e n hx=>?_,λ b o e hx=>?_,λ b xs e=>?_,λ b o u e=>?_,λ b ps e=>?_⟩ ?_ I5.bare (λ b hb=>⟨(f2 b hb).2.2.2.1,(f2 b hb).2.1,(f2 b hb).2.2.2.2.1,(f2 b hb).2.2.2.2.2⟩)
       · obtain ⟨sl,q⟩:=B.slot b o e n hb hx
         exact ⟨sl,kp b _ (s2C b o e) q⟩
       · rw [z0p (Nat.ne_of_lt (Heap.lt_size e))]
         exact B.free b o e n hx
       · obtain ⟨o',q⟩:=B.there b o e hx
         exact ⟨o',kp b o' (s2C b o e) q⟩
       · rw [z0p (hH2 b _ e)]
         exact B.tups b xs e
       · rw [z0p (hH2 b _ e)]
         exact B.frzs b o u e
       · obtain ⟨more,q⟩:=B.tbls b ps e
         exact ⟨more,by rw [z0p (hH2 b _ e)];exact q⟩
       · intro b u e
         by_cases hb:b=s2.heap.objs.size
         · subst hb
           rw [z0h] at e
           cases e
           exact ⟨hz,its,k,rv,kp _ _ hDC hD.1⟩
         · rw [z0p hb] at e
           have okb:=I5.hok b u e
           rw [hYprog,hYw] at okb
           refine okb.stay (λ c v hc q=>kp c v ?_ q) (λ c q=>by rw [z0p (trk c _ q)];exact q) λ c xs q=>by rw [z0p (trk c _ q)];exact q
           rcases hc with z | z
           · rw [z];exact trC b u e
           · exact trC c _ z
      have zC:upd H4 s2.heap.objs.size (.lst ys) hL.objs.size=none:=by
        rw [z0p (Ne.symm hDC)]
        have:=I5.free
        rwa [hYl] at this
      exact fin s2.heap.objs.size hL.objs.size s5 _ _ IX zC (Ne.symm (ltC _ I2.lt)) (by have:=I2.sz;omega) (λ x c e=>ltC c (by obtain ⟨v,q⟩:=I2.cell x c e;exact q.lt)) (λ p hp=>ltC _ (pinL p hp)) ⟨m,hn⟩ (qn _ hDn)
    · have d:=T.item Y hYprog hYw hYK hYcalm i _ s4 σ4 H4 (λ _ _=>False) I4 F4 st4 go
      rw [hYA] at d
      refine thn d λ r s5 ⟨u,hr,h5⟩=>?_
      subst hr
      refine thn h5 λ _ s6 ⟨x,H6,I6,r6,y6,st6,fr6⟩=>?_
      have I6':=I6.pinned (fpOk (pn:=pins++[(s2.heap.objs.size,{ cls:=.type "list",data:=.seq (its:List Value).toArray k })]) fr6 pinD) (T.obj _ _ st6)
      have d7:=hg' _ s6 σ4 H6 x u _ I6' r6 (step x H6 y6)
      rw [hYprog,hYw,hYA,hYxe,hYenv] at d7
      refine thn d7 λ _ s7 ⟨σ7,H7,I7,q7⟩=>?_
      have dt:=ht' _ s7 σ7 H7 _ I7 q7
      rw [hYprog,hYw,hYA,hYxe,hYenv] at dt
      refine thn dt λ bb s7 ⟨H7,I7,q7⟩=>?_
      cases bb with
      | false =>
        obtain ⟨m',hm,w8⟩:=hN _ _ _ q7
        have tn8:tn (i+1) s7.heap:=T.keep _ _ _ st6 λ b hb o e=>(I7.pin (b,o) (List.mem_append_right _ (List.mem_append_right _ (z2a hb e)))).1
        have fr8:∀b∈fp,H7 b=none:=λ b hb=>by
          obtain ⟨o,e,d⟩:=T.obj _ _ st6 b hb
          exact (I7.pin (b,o) (List.mem_append_right _ (List.mem_append_right _ (z2a hb e)))).2.1
        exact ⟨m',hm,i+1,ys,its,k,σ7,H7,I7.unpinned,tn8,fr8,rv,hz,w8⟩
      | true =>
        have q7:te σ7 H7 _:=q7
        show wpAny _ _ (eval elt _) _ _ s7
        have d8:=he' _ s7 σ7 H7 _ I7 q7
        rw [hYprog,hYw,hYA,hYxe,hYenv] at d8
        refine thn d8 λ u8 s8 ⟨v8,H8,I8,r8,n8⟩=>?_
        obtain ⟨m',hm,w8⟩:=hN _ _ _ n8
        have pD:=I8.pin (s2.heap.objs.size,{ cls:=.type "list",data:=.seq (its:List Value).toArray k }) (List.mem_append_right _ (List.mem_append_left _ (List.mem_append_right _ (List.mem_singleton.mpr rfl))))
        have tn8:tn (i+1) s8.heap:=T.keep _ _ _ st6 λ b hb o e=>(I8.pin (b,o) (List.mem_append_right _ (List.mem_append_right _ (z2a hb e)))).1
        have fr8:∀b∈fp,H8 b=none:=λ b hb=>by
          obtain ⟨o,e,d⟩:=T.obj _ _ st6 b hb
          exact (I8.pin (b,o) (List.mem_append_right _ (List.mem_append_right _ (z2a hb e)))).2.1
        have J8:Inv Y pins σ7 H8 s8:=I8.unpinned.unpinned
        have eD:s8.heap.get? s2.heap.objs.size=some { cls:=.type "list",data:=.seq its.toArray k }:=pD.1
        refine call_meets F.slot_list_append ⟨_,eD,rfl⟩ F.entry_list_append (F.args_list_append_2 _ _) (PySem.list_append _ its.toArray k u8 (by rw [List.size_toArray,← rv.length];omega)) ⟨eD,?_⟩
        have other:∀b o,b≠s2.heap.objs.size->s8.heap.get? b=some o->(s8.heap.update s2.heap.objs.size (Obj.mapSeq λ xs=>xs.push u8)).get? b=some o:=λ b o nb e=>(Heap.get?_update_other s8.heap _ (Ne.symm nb)).trans e
        have J9:=J8.turned (t':=s8.toks) (it:=s2.heap.objs.size) (h':=s8.heap.update s2.heap.objs.size (Obj.mapSeq λ xs=>xs.push u8)) other pD.2.1 (by rw [hYl];exact hDC) (.inr (by rw [hYs];exact Nat.le_refl _))
          (λ x c e=>by rw [hYc] at e;exact Nat.ne_of_lt (cellL x c e)) (λ p hp=>by rw [hYp] at hp;exact Nat.ne_of_lt (pinL p hp))
        have ep:(its.toArray.push u8)=(its++[u8]).toArray:=by simp
        obtain ⟨kk,upD⟩:∃kk,(s8.heap.update s2.heap.objs.size (Obj.mapSeq λ xs=>xs.push u8)).get? s2.heap.objs.size=some { cls:=.type "list",data:=.seq (its++[u8]).toArray kk }:=by
          have z:=PySem.IsL.update eD (λ xs=>xs.push u8)
          rw [ep] at z
          exact ⟨_,z⟩
        refine ⟨m',hm,i+1,ys++[v8],its++[u8],kk,σ7,H8,J9.pins_of λ p hp=>?_,T.keep _ _ _ tn8 λ b hb o e=>other b o (Nat.ne_of_lt (fpL b hb)) e,fr8,rv.append (.cons r8 .nil),?_,w8⟩
        · rcases List.mem_append.mp hp with z | z
          · exact J9.pin p (List.mem_append_right _ z)
          · rw [List.mem_singleton.mp z]
            exact ⟨upD,pD.2.1,by rw [hYl];exact hDC,by rw [hYf];exact λ z=>absurd (stkL _ z) (Nat.lt_irrefl _),λ v z=>by cases z⟩
        · rw [List.length_append,List.length_singleton];omega
  exact codeAny_compStart_list (loop _ rfl) (T.self _ 0 _ _ _ (T.keep _ _ _ st2 λ b _ o e=>old b o e) (loop _ rfl))
theorem y2g {X:Cx}{elt tg iter cnd:Expr}{scope:Scope}{cl:List (Str × Addr)}{pos:Pos}{own fv:List Str}{js:List Nat}{wi:TI}{g:TG}{tc:TT}{te:TE}
  (hc:X.calm=true) (hi:PI X tg iter wi) (hclos:closureFor scope X.env=pure cl) (hcell:∀y∈scope.names,y.2≠.cell) (hkind:scope.kind=.function)
  (hnames:∀y∈scope.names,y.2=.local->scope.names.lookup y.1=some .local)
  (hcl:∀x c,cl.lookup x=some c->X.env.cells.lookup x=some c)
  (hhas:∀x,((relabel scope X.env).names.lookup x=some .cell\/(relabel scope X.env).names.lookup x=some .free)->∃c,cl.lookup x=some c)
  (hlen:js.length=fv.length) (hcap:∀(i:Nat) x j,fv[i]?=some x->js[i]?=some j->Cap X scope cl x j)
  (hg:∀(C:Addr) (ex:List Addr) (s:Shared) (H:Hp),PG (cxComp X (own++fv) scope cl C ex s H) tg g)
  (he:∀(C:Addr) (ex:List Addr) (s:Shared) (H:Hp),PE (cxComp X (own++fv) scope cl C ex s H) elt te)
  (ht:∀(C:Addr) (ex:List Addr) (s:Shared) (H:Hp),PT (cxComp X (own++fv) scope cl C ex s H) cnd tc)
  (hs:∀x,foldedSetIterable iter X.env x=pure x:=by intro _;rfl) :
  PE X (.ListComp elt [⟨tg,iter,[cnd],0⟩] scope pos) (tCompI wi own.length js g tc te):=by
 intro pins s σ H Q I h
 rw [eval_ListComp]
 refine y4i (use:=none) (QQ:=EP X pins σ Q) hc hi hclos hcell hkind hnames hcl hhas hlen hcap hg he ht hs I h λ a C s5 H5 fl I5 zC zL zS zc zp ⟨m,hn⟩ q=>⟨m,hn,λ h' sc=>?_⟩
 exact ⟨.ref a,H5,I5.turned (t':=s5.toks) (it:=C) (λ d o nd e=>sc.extBut d o nd e) zC zL (.inr zS) zc zp,rfl,q⟩
theorem x7f {pg:Program}{wd:World}{B:Around}(hh:B.handled=none) (j t:Addr) (ne:t≠j) (as:Array Value):Draws pg wd B j [j,t] as.size (λ i v=>as[i]?=some v) (λ i h=>h.IsTupleIter j t i/\h.IsTuple t as) where
 live:=λ _ _ q=>let ⟨o,g,_⟩:=q.1;⟨o,g⟩
 frame:=λ _ _ _ q k=>⟨z1j q.1 λ o g=>k j (by simp) o g,z5u q.2 λ o g=>k t (by simp) o g⟩
 item:=λ i s R X0 hi q f=>z3l q.1 q.2 (x:=as[i]) (by simp [hi]) λ m p sb=>f _ m s.toks (by simp [hi]) ⟨p,z5u q.2 λ o g=>sb.extBut _ _ ne g⟩ sb
 done:=λ s R X0 q f=>z4b hh q.1 q.2 (by simp) f
section
variable {pg:Program}{wd:World}{B:Around}{X0:Value->Shared->Prop}{s0:Shared}
theorem y7y {z j t:Addr}{i:Nat}{n:Int}{as:Array Value}{u:Value}{R:Option Value->Shared->Prop}(hh:B.handled=none) (hz:IsEnum s0.heap z j n u) (p:s0.heap.IsTupleIter j t i) (q:s0.heap.IsTuple t as) (ex:as[i]?=none)
  (f:∀m,Heap.ExtBut j s0.heap m->R none { s0 with heap:=m }):wpAny (model pg wd) B (pyNext (.ref z)) R X0 s0:=by
 have ty:s0.TypeIs (.ref z) "enumerate" := ⟨_,hz,rfl⟩
 unfold pyNext
 refine wpAny_bind (wpAny_attempt (wpAny_callSpecial?_slot (name:=Str.ofString "__next__") ty F.slot_enumerate_next (wpAny_call_entry F.slot_enumerate_next ty F.entry_enumerate_next ?_ (F.args_enumerate_next_1 _))))
 show wpAny _ _ (field (.ref z) 2 >>= _) _ _ _
 refine wpAny_bind (wpAny_field hz rfl (x:=.ref j) rfl ?_)
 refine wpAny_bind (z4b hh p q ex λ m w xb hw=>?_)
 obtain ⟨ow,gw,cw⟩:=hw
 exact wpAny_bind (wpAny_isInstance (T := "StopIteration") (b:=true) ⟨ow,gw,cw⟩ isSubtype_stop (wpAny_pure (f _ xb)))
theorem y7x (t:Addr) (as:Array Value) (n:Nat) (dc:Option Addr) (sl:Array (Option Value)) :
  Meets (Builtin.«enumerate.__new__» ⟨[.type "enumerate",.ref t],[]⟩) (λ _ R s=>s.heap.get? t=some { cls:=.type "tuple",dict:=dc,data:=.seq as n,slots:=sl } /\
   R (.ok (.ret (.ref (s.heap.push { cls:=.type "tuple_iterator",data:=.fields #[.ref t,.int 0 0] }).objs.size))) { s with heap:=(s.heap.push { cls:=.type "tuple_iterator",data:=.fields #[.ref t,.int 0 0] }).push { cls:=.type "enumerate",data:=.fields #[.none,.bool false,.ref s.heap.objs.size,rawInt 0,.none,.none] } }) :=
 .of_wp λ pg wd A R s h=>by
  obtain ⟨hp,g,d,tk,os⟩:=s
  obtain ⟨ht,h⟩:=h
  have q0:=sub_enumerate
  have q1:Heap.IsTuple (Shared.heap ⟨hp,g,d,tk,os⟩) t as:=⟨_,ht,rfl,n,rfl⟩
  wp_walk using AutoSeq1.wpAny_loadPart' ht
  refine wpAny_stack_any λ stk=>wpAny_pure ?_
  split
  ·rename_i c _ _ _ _ _
   cases (c == Value.type "enumerate")<;>(wp_walk using AutoSeq1.wpAny_loadPart' ht,wpAny_pyIter_tuple q1)<;>exact ⟨_,rfl,h⟩
  ·wp_walk using AutoSeq1.wpAny_loadPart' ht,wpAny_pyIter_tuple q1
   exact ⟨_,rfl,h⟩
theorem y4g {t:Addr}{as:Array Value}{R:Value->Shared->Prop}(q:s0.heap.IsTuple t as)
  (f:∀m,IsEnum m (s0.heap.objs.size+1) s0.heap.objs.size 0 .none->m.IsTupleIter s0.heap.objs.size t 0->(∀c o,s0.heap.get? c=some o->m.get? c=some o)->R (.ref (s0.heap.objs.size+1)) { s0 with heap:=m }) :
  wpAny (model pg wd) B (call (.type "enumerate") [.ref t]) R X0 s0:=by
 obtain ⟨⟨c,dc,dt,sl⟩,ht,hc,n,hd⟩:=q
 cases (show c=.type "tuple" from hc)
 cases (show dt=.seq as n from hd)
 refine callType_new F.called_enumerate (by decide) (F.typeCall_enumerate_1 _) (F.newCall_enumerate_1 _) (λ ob=>F.args_object_init_2 ob _) F.entry_enumerate_new (y7x t as n dc sl) ⟨ht,?_⟩
 have n1:(s0.heap.push { cls:=.type "tuple_iterator",data:=.fields #[.ref t,.int 0 0] }).objs.size=s0.heap.objs.size+1:=Heap.size_push ..
 show _/\_
 have g2:=Heap.get?_push_size (s0.heap.push { cls:=.type "tuple_iterator",data:=.fields #[.ref t,.int 0 0] }) (o:={ cls:=.type "enumerate",data:=.fields #[.none,.bool false,.ref s0.heap.objs.size,rawInt 0,.none,.none] }) rfl
 rw [n1] at g2 ⊢
 exact ⟨⟨_,g2,rfl⟩,f _ g2 ⟨_,Heap.get?_push_of_some _ (Heap.get?_push_size _ rfl),rfl,rfl⟩ λ c o z=>Heap.get?_push_of_some _ (Heap.get?_push_of_some _ z)⟩
end
def Ite (K:W.Frag) (a:Addr):It:=⟨λ i H=>∃xs x,SqT K H a xs/\xs[i]?=some x,
 λ i H v H'=>∃T x,v=.ref T/\H T=none/\H'=upd H T (.tup [.int i,x])/\∀xs,SqT K H a xs->xs[i]?=some x,λ i H=>∃xs,SqT K H a xs/\xs.length≤i⟩
theorem y4v {P:Program}{w:World}{K:W.Frag}{es:List Expr}{x1:Nat}{pp:Pos}{a z j:Addr}(zj:z≠j) :
  Turn P w K (.Tuple es x1 pp) (Ite K a) [z,j] z (λ i h=>(∃u,IsEnum h z j i u)/\h.IsTupleIter j a i) where
 mem:=by simp
 obj:=λ i h q c hc=>by
  obtain ⟨⟨u,q1⟩,⟨o4,g4,_,d4⟩⟩:=q
  simp only [List.mem_cons,List.not_mem_nil,or_false] at hc
  rcases hc with rfl | rfl
  ·exact ⟨_,q1,λ v y=>nomatch y⟩
  ·exact ⟨_,g4,λ v y=>by rw [d4] at y;cases y⟩
 keep:=λ i h h' q k=>by
  obtain ⟨⟨u,q1⟩,q4⟩:=q
  exact ⟨⟨u,k _ (by simp) _ q1⟩,z1j q4 λ o g=>k _ (by simp) o g⟩
 item:=by
  intro X hP hw hK hc i pins s σ H E I hf st hg
  subst hP hw hK
  obtain ⟨xs,x,hq,hx⟩:=hg
  obtain ⟨⟨u,q1⟩,q4⟩:=st
  obtain ⟨as,ra,pa,za⟩:=I.tuple hq
  obtain ⟨ux,hux,rux⟩:=ra.get hx
  have ta:s.heap.IsTuple a as.toArray:=pa
  have az:a≠z:=by rintro rfl;obtain ⟨o,g,c,_⟩:=ta;rw [q1] at g;cases g;simp at c
  have aj:a≠j:=by rintro rfl;obtain ⟨o,g,c,_⟩:=ta;obtain ⟨o4,g4,c4,_⟩:=q4;rw [g4] at g;cases g;rw [c4] at c;simp at c
  have il:i < as.toArray.size:=by simpa using (List.getElem?_eq_some_iff.mp hux).1
  refine wpAny_pyNext_enum_itemD (x7f (B:=X.A.in1) (I.ok.hd hc) j a aj as.toArray) q1 ⟨q4,ta⟩ il zj (by simp only [List.mem_cons,List.not_mem_nil,or_false,not_or];exact ⟨zj,az.symm⟩) λ y m tk hy zo st' np sz bt=>?_
  have yu:y=ux:=by simp only [List.getElem?_toArray] at hy;rw [hux] at hy;exact (Option.some.inj hy).symm
  subst yu
  have I1:Inv X pins σ H { s with heap:=m,toks:=tk+1 }:=I.turnedL (t':=tk+1) (fl:=[z,j]) (λ c o hc e=>by
   simp only [List.mem_cons,List.not_mem_nil,or_false,not_or] at hc
   exact bt c o hc.1 hc.2 e) hf
  obtain ⟨f0,f1,f2,f3,f4,f5⟩:=I.fpOk (Nat.le_refl s.heap.objs.size) (I.hok.fresh (Nat.le_refl _))
  have n0:X.s₀.heap.get? s.heap.objs.size=none:=by
   cases q:X.s₀.heap.get? s.heap.objs.size with
   | none=>rfl
   | some o=>exact absurd (Nat.lt_of_lt_of_le (Heap.lt_size q) I.sz) (Nat.lt_irrefl _)
  have I2:Inv X pins σ (upd H s.heap.objs.size (.tup [.int i,x])) { s with heap:=m,toks:=tk+1 }:=I1.track f0 ⟨small (by simp),[.int i tk,y],.cons (show RelV (V.int i) (Value.int i tk) from ⟨_,rfl⟩) (.cons rux .nil),⟨_,np,rfl,_,rfl⟩⟩ f1 f4 f5 n0
  have lt:∀ {c o},s.heap.get? c=some o->c≠s.heap.objs.size:=λ e=>Nat.ne_of_lt (Heap.lt_size e)
  have zT:z≠s.heap.objs.size:=lt q1
  obtain ⟨e0,e1,e2,e3,e4,e5⟩:=hf z (by simp)
  refine ⟨_,rfl,wpAny_letOwnedTupleGo_enum zo λ h2 z2 sb=>?_⟩
  have I3:Inv X pins σ (upd H s.heap.objs.size (.tup [.int i,x])) { s with heap:=h2,toks:=tk+1 }:=Inv.turned (s:={ s with heap:=m,toks:=tk+1 }) (h':=h2) (t':=tk+1) (it:=z) I2 (λ c o hc e=>sb.extBut _ _ hc e) (by rw [z0p zT];exact e0) e1 e3 e4 e5
  refine ⟨.ref s.heap.objs.size,_,I3,rfl,⟨_,x,rfl,f0,rfl,λ xs' k1=>?_⟩,⟨⟨_,by simpa using z2⟩,z1j st'.1 λ o g=>sb.extBut _ _ zj.symm g⟩,λ c hc=>?_⟩
  ·rw [I.tuple_inj k1 hq];exact hx
  ·have cT:c≠s.heap.objs.size:=by
    obtain ⟨o4,g4,_⟩:=q4
    simp only [List.mem_cons,List.not_mem_nil,or_false] at hc
    rcases hc with rfl | rfl
    ·exact zT
    ·exact lt g4
   rw [z0p cT];exact (hf c hc).1
 done:=by
  intro X hP hw hK hc i pins s σ H E I hf st hg
  subst hP hw hK
  obtain ⟨xs,hq,hx⟩:=hg
  obtain ⟨⟨u,q1⟩,q4⟩:=st
  obtain ⟨as,ra,pa,za⟩:=I.tuple hq
  have la:=ra.length
  refine y7y (I.ok.hd hc) q1 q4 (show s.heap.IsTuple a as.toArray from pa) (by simp;omega) λ m bt=>⟨rfl,?_⟩
  exact I.turnedL (t':=s.toks) (fl:=[z,j]) (λ c o hc e=>by
   simp only [List.mem_cons,List.not_mem_nil,or_false,not_or] at hc
   exact bt c o hc.2 e) hf
 self:=λ _ _ _ _ _ st h=>let ⟨⟨_,q1⟩,_⟩:=st;wpAny_pyIter_enum q1 h
section
variable {X:Cx}{es:List Expr}{x1:Nat}{pp:Pos}
def iEnum (K:W.Frag) (te:TE):TI:=λ σ H R=>te σ H λ v H1=>∃a xs,v=.ref a/\SqT K H1 a xs/\R (Ite K a) H1
theorem x2p {e:Expr}{te:TE}{p pos:Pos}(hg:Gl X "enumerate") (hm:X.mg "enumerate" = none) (he:PE X e te) (hs:starEach [e] X.env=[(false,eval e X.env)]:=by rfl) :
  PI X (.Tuple es x1 pp) (.Call (.Name "enumerate" p) [e] [] pos) (iEnum X.K te):=by
 intro pins s σ H R I h
 have hA:=(z0a he (z0b (X:=X)) hs) pos pins s σ H (λ vs H1=>match vs with | [x]=>∃a xs,x=.ref a/\SqT X.K H1 a xs/\R (Ite X.K a) H1 | _=>False) I h
 refine Call_ (z4g I hg hm boot_enumerate (PyProof.Rows.callWith_type1 (thn hA λ us s1 ⟨vs,H1,I1,r1,q1⟩=>?_) hs rfl))
 match vs,q1 with
 | [x],⟨a,xs,e,hq,q⟩ =>
  subst e
  obtain ⟨u,rfl,ru⟩:=z4r r1
  cases (show u=Value.ref a from ru)
  obtain ⟨as,va,pa,za⟩:=I1.tuple hq
  refine y4g (show s1.heap.IsTuple a as.toArray from pa) λ m w1 w2 kk=>?_
  have I2:Inv X pins σ H1 { s1 with heap:=m }:=I1.kept (t':=s1.toks) kk
  refine wpAny_pyIter_enum w1 ⟨s1.heap.objs.size+1,[s1.heap.objs.size+1,s1.heap.objs.size],_,_,H1,rfl,I2,y4v (Nat.succ_ne_self _),⟨⟨_,w1⟩,w2⟩,λ c hc=>?_,q⟩
  have ge:s1.heap.objs.size≤c:=by
   simp only [List.mem_cons,List.not_mem_nil,or_false] at hc
   rcases hc with rfl | rfl<;>omega
  exact I1.fpOk ge (I1.hok.fresh ge)
end
def CompE (K:PySem.W.Frag) (k:Nat) (js:List Nat) (g:TG) (te:TE) (σ:St) (v:V) (H1:Hp) (Q:VK):Prop:=∃a xs,v=.ref a/\SqT K H1 a xs/\∃W:Nat->Nat->List V->St->Hp->Prop,(∃m,W 0 m [] (compSt k js σ) H1)/\∀i m zs σ' H',W i m zs σ' H' ->
  ((Ite K a).stop i H'/\∀p,H' p=none->Q (.ref p) (upd H' p (.lst zs))) \/
  ((Ite K a).go i H'/\zs.length < sizeLine/\∃N:List V->St->Hp->Prop,(∀zs σ2 H2,N zs σ2 H2->∃m',m' < m/\W (i+1) m' zs σ2 H2)/\∀x H2,(Ite K a).yld i H' x H2->g x σ' H2 λ σ3 H3=>te σ3 H3 λ v H4=>N (zs++[v]) σ3 H4)
theorem x1g {K:W.Frag}{k:Nat}{js:List Nat}{tx:TE}{g:TG}{te:TE}{σ:St}{H:Hp}{Q:VK}:tComp (iEnum K tx) k js g te σ H Q=tx σ H λ v H1=>CompE K k js g te σ v H1 Q:=rfl
theorem CompE.mk {K:W.Frag}{a:Addr}{xs:List V}{k:Nat}{js:List Nat}{g:TG}{te:TE}{Q:VK}{σ:St}{H:Hp}(h1:SqT K H a xs) (Pv:Nat->List V->St->Hp->Prop) (h0:Pv 0 [] (compSt k js σ) H) (hl:∀i zs σ H,i≤xs.length->Pv i zs σ H->SqT K H a xs/\zs.length < sizeLine)
  (hs:∀i x zs σ H T,xs[i]?=some x->Pv i zs σ H->H T=none->g (.ref T) σ (upd H T (.tup [.int i,x])) λ σ3 H3=>te σ3 H3 λ v H4=>Pv (i+1) (zs++[v]) σ3 H4) (hz:∀zs σ H,Pv xs.length zs σ H->∀p,H p=none->Q (.ref p) (upd H p (.lst zs))) :
  CompE K k js g te σ (.ref a) H Q:=by
 refine ⟨a,xs,rfl,h1,λ i m zs σ H=>m=xs.length - i/\i≤xs.length/\Pv i zs σ H,⟨_,rfl,Nat.zero_le _,h0⟩,?_⟩
 rintro i m zs σ H ⟨rfl,hi,p⟩
 obtain ⟨k1,k2⟩:=hl i zs σ H hi p
 by_cases hlt:i < xs.length
 ·refine .inr ⟨⟨xs,_,k1,List.getElem?_eq_getElem hlt⟩,k2,Pv (i+1),λ zs' σ' H' p'=>⟨xs.length - (i+1),by omega,rfl,hlt,p'⟩,λ v H' yy=>?_⟩
  obtain ⟨T,x,rfl,hT,rfl,ex⟩:=yy
  exact hs i x zs σ H T (ex xs k1) p hT
 ·have e:i=xs.length:=by omega
  exact .inl ⟨⟨xs,k1,by omega⟩,hz zs σ H (e ▸ p)⟩
def CompEI (K:PySem.W.Frag) (k:Nat) (js:List Nat) (g:TG) (tc:TT) (te:TE) (σ:St) (v:V) (H1:Hp) (Q:VK):Prop:=∃a xs,v=.ref a/\SqT K H1 a xs/\∃W:Nat->Nat->List V->St->Hp->Prop,(∃m,W 0 m [] (compSt k js σ) H1)/\∀i m zs σ' H',W i m zs σ' H' ->
  ((Ite K a).stop i H'/\∀p,H' p=none->Q (.ref p) (upd H' p (.lst zs))) \/
  ((Ite K a).go i H'/\zs.length < sizeLine/\∃N:List V->St->Hp->Prop,(∀zs σ2 H2,N zs σ2 H2->∃m',m' < m/\W (i+1) m' zs σ2 H2)/\∀x H2,(Ite K a).yld i H' x H2->g x σ' H2 λ σ3 H3=>tc σ3 H3 λ b H4=>if b=true then te σ3 H4 λ v H5=>N (zs++[v]) σ3 H5 else N zs σ3 H4)
theorem y8p {K:W.Frag}{k:Nat}{js:List Nat}{tx:TE}{g:TG}{tc:TT}{te:TE}{σ:St}{H:Hp}{Q:VK}:tCompI (iEnum K tx) k js g tc te σ H Q=tx σ H λ v H1=>CompEI K k js g tc te σ v H1 Q:=rfl
theorem CompEI.mk {K:W.Frag}{a:Addr}{xs:List V}{k:Nat}{js:List Nat}{g:TG}{tc:TT}{te:TE}{Q:VK}{σ:St}{H:Hp}(h1:SqT K H a xs) (Pv:Nat->List V->St->Hp->Prop) (h0:Pv 0 [] (compSt k js σ) H) (hl:∀i zs σ H,i≤xs.length->Pv i zs σ H->SqT K H a xs/\zs.length < sizeLine)
  (hs:∀i x zs σ H T,xs[i]?=some x->Pv i zs σ H->H T=none->g (.ref T) σ (upd H T (.tup [.int i,x])) λ σ3 H3=>tc σ3 H3 λ b H4=>if b=true then te σ3 H4 λ v H5=>Pv (i+1) (zs++[v]) σ3 H5 else Pv (i+1) zs σ3 H4) (hz:∀zs σ H,Pv xs.length zs σ H->∀p,H p=none->Q (.ref p) (upd H p (.lst zs))) :
  CompEI K k js g tc te σ (.ref a) H Q:=by
 refine ⟨a,xs,rfl,h1,λ i m zs σ H=>m=xs.length - i/\i≤xs.length/\Pv i zs σ H,⟨_,rfl,Nat.zero_le _,h0⟩,?_⟩
 rintro i m zs σ H ⟨rfl,hi,p⟩
 obtain ⟨k1,k2⟩:=hl i zs σ H hi p
 by_cases hlt:i < xs.length
 ·refine .inr ⟨⟨xs,_,k1,List.getElem?_eq_getElem hlt⟩,k2,Pv (i+1),λ zs' σ' H' p'=>⟨xs.length - (i+1),by omega,rfl,hlt,p'⟩,λ v H' yy=>?_⟩
  obtain ⟨T,x,rfl,hT,rfl,ex⟩:=yy
  exact hs i x zs σ H T (ex xs k1) p hT
 ·have e:i=xs.length:=by omega
  exact .inl ⟨⟨xs,k1,by omega⟩,hz zs σ H (e ▸ p)⟩
section
variable {X:Cx}
def rNeT (K:W.Frag):R2:=λ x y H Q=>∃a b xs ys,x=.ref a/\y=.ref b/\SqT K H a xs/\SqT K H b ys/\xs.all flatV=true/\ys.all flatV=true/\Q (.bl (!eqVs xs ys)) H
theorem x4z (hu:X.A.units < cLine):OpR X (compareOp .NotEq) (rNeT X.K):=by
 intro pins s σ H x y v u Q I rx ry h
 obtain ⟨a,b,xs,ys,rfl,rfl,ha,hb,f1,f2,q⟩:=h
 cases rx
 cases ry
 obtain ⟨us,r1,p1,_⟩:=I.tuple ha
 obtain ⟨ws,r2,p2,_⟩:=I.tuple hb
 refine SeqAt.RcNeAt.tuples (show s.heap.IsTuple a us.toArray from p1) (show s.heap.IsTuple b ws.toArray from p2) (e:=eqAtI xs ys) hu (z9b r1 r2 f1 f2) _ _ _ _ ?_
 have e1:us.toArray.size=xs.length:=by simp [r1.length]
 have e2:ws.toArray.size=ys.length:=by simp [r2.length]
 rw [e1,e2]
 have z:((List.range (min xs.length ys.length)).all (eqAtI xs ys) && xs.length == ys.length)=eqVs xs ys:=by
  by_cases hl:xs.length=ys.length
  ·rw [← hl,Nat.min_self,z6g hl];simp
  ·rw [z6f hl];simp [hl]
 rw [z]
 exact ⟨.bl _,H,I,rfl,q⟩
def rNeL (K:W.Frag):R2:=λ x y H Q=>∃a b xs ys,x=.ref a/\y=.ref b/\SqL K H a xs/\SqL K H b ys/\xs.all flatV=true/\ys.all flatV=true/\Q (.bl (!eqVs xs ys)) H
theorem x5a (hu:X.A.units < cLine):OpR X (compareOp .NotEq) (rNeL X.K):=by
 intro pins s σ H x y v u Q I rx ry h
 obtain ⟨a,b,xs,ys,rfl,rfl,ha,hb,f1,f2,q⟩:=h
 cases rx
 cases ry
 obtain ⟨us,r1,p1,_⟩:=I.list ha
 obtain ⟨ws,r2,p2,_⟩:=I.list hb
 by_cases hl:xs.length=ys.length
 ·refine SeqAt.RcNeAt.lists p1.isList p2.isList (e:=eqAtI xs ys) (by simp [← r1.length,← r2.length,hl]) hu (z9b r1 r2 f1 f2) _ _ _ _ ?_
  have e:us.toArray.size=xs.length:=by simp [r1.length]
  rw [e,z6g hl]
  exact ⟨.bl _,H,I,rfl,q⟩
 ·refine SeqAt.RcNeAt.lists_lengths p1.isList p2.isList (by simp [← r1.length,← r2.length,hl]) hu _ _ _ _ ?_
  rw [z6f hl] at q
  exact ⟨.bl _,H,I,rfl,q⟩
end
theorem z3w {cells:List (Str × Addr)}{y:Str}{a:Addr}(h:cells.lookup y=some a):∀x c,[(y,a)].lookup x=some c->cells.lookup x=some c:=λ x c e=>by
 cases List.mem_singleton.mp (PySem.mem_of_lookup e);exact h
theorem z3v {cells:List (Str × Addr)}{y z:Str}{a b:Addr}(h:cells.lookup y=some a) (h2:cells.lookup z=some b):∀x c,[(y,a),(z,b)].lookup x=some c->cells.lookup x=some c:=λ x c e=>by
 rcases List.mem_cons.mp (PySem.mem_of_lookup e) with q | q
 ·cases q;exact h
 ·cases List.mem_singleton.mp q;exact h2
end L2
namespace HT
open PySem PySem.Spec PyProof.Rows L2
theorem whole_tup {prog:Program}{w:World}{A:Around}{E:Value->Shared->Prop}{s:Shared}{t sl:Addr}{its:Array Value}{vl vu:Value}{lo hi:Option Int}{R:Value->Shared->Prop}(ht:IsTup s.heap t its) (hs:s.heap.IsSliceOf sl vl vu .none) (pl:IsPart vl lo) (pu:IsPart vu hi)
  (h0:sIx its.size 0 lo=0) (h1:sIx its.size its.size hi=its.size) (h:R (.ref t) s):wpAny (model prog w) A (getItem (.ref t) (.ref sl)) R E s:=by
 obtain ⟨os,hos,hcs,hds⟩:=id hs
 have hTs:s.TypeIs (.ref sl) "slice" := ⟨os,hos,hcs⟩
 unfold getItem
 try with_reducible refine wpAny_holding ?_
 first | refine wpAny_bind (wpAny_pure ?_) | skip
 refine wpAny_bind (wpAny_sequenceKey ht.typeIs (by decide) ?_)
 refine wpAny_bind (wpAny_callSpecial?_slot (name:=Str.ofString "__getitem__") ht.typeIs PyProof.Rows.slot_tuple_getitem (wpAny_call_entry PyProof.Rows.slot_tuple_getitem ht.typeIs entry_tuple_getitem ?_ (args_tuple_getitem _ _)))
 show wpAny _ _ (Builtin.Tuple.tupleItemsOf (.ref t) >>= _) _ _ s
 refine wpAny_bind (tupleItemsOf_ ht ?_)
 refine wpAny_bind (wpAny_typeOf hTs ?_)
 rw [if_pos (by decide)]
 refine wpAny_bind (z3o hs pl pu ?_)
 show wpAny _ _ (if (((sIx its.size 0 lo:Nat):Int) == 0 && (1:Int) == 1 && (sIx its.size its.size hi - sIx its.size 0 lo) == its.size)=true then _ else _) _ _ s
 rw [if_pos (by rw [h0,h1];simp)]
 unfold Builtin.Tuple.tupleIsExact
 exact wpAny_bind (wpAny_bind (wpAny_typeOf ht.typeIs (wpAny_pure (wpAny_bind (wpAny_rule (wpAny_pure ⟨_,rfl,wpAny_pure h⟩))))))
end HT
namespace L2
open PySem PySem.Spec PyProof.Rows
section
variable {X:Cx}
def rSlTA:V->Option Int->Option Int->Hp->VK->Prop:=λ x lo hi H Q=>∃a xs,x=.ref a/\H a=some (.tup xs)/\∀r H',Same H H'->H' r=some (.tup (cutV xs lo hi))->Q (.ref r) H'
theorem z3p:SlR X rSlTA:=by
 intro pins s σ H x v vl vu lo hi sl Q I rx hs pl pu h
 obtain ⟨a,xs,rfl,ha,q⟩:=h
 by_cases c:HT.sIx xs.length 0 lo=0/\HT.sIx xs.length xs.length hi=xs.length
 ·cases rx
  obtain ⟨its,r,ht,hz⟩:=I.tuple (show SqT X.K H a xs from .of ha)
  have hlen:its.toArray.size=xs.length:=by rw [List.size_toArray];exact r.length.symm
  refine ⟨"tuple",_,PyProof.Rows.slot_tuple_getitem.lookup,ht.typeIs,HT.whole_tup ht hs pl pu (by rw [hlen];exact c.1) (by rw [hlen];exact c.2) ⟨.ref a,H,I,rfl,q a H (Same.refl _) ?_⟩⟩
  unfold cutV
  rw [c.1,c.2,List.drop_zero,Nat.sub_zero,List.take_length]
  exact ha
 ·exact z6o pins s σ H _ v vl vu lo hi sl Q I rx hs pl pu ⟨a,xs,rfl,ha,c,q⟩
end
def okS (k:Nat) (x:Str):Prop:=x.length≤k/\∀c∈x.cps.toList,c < 1000
theorem okS.mono {k m:Nat}{x:Str}(h:okS k x) (l:k≤m):okS m x:=⟨Nat.le_trans h.1 l,h.2⟩
theorem okS.repr {k:Nat}{x:Str}(h:okS k x):(reprText x).length≤10 * k+2:=by
 have:=StrLaws.reprText_len x λ c hc=>Nat.lt_of_lt_of_le (h.2 c hc) (by decide)
 have:=h.1
 omega
section
variable {X:Cx}
def tFR (t1 t2:TE):TE:=λ σ H Q=>t1 σ H λ x H1=>∃a,x=.str a/\okS 1000 a/\t2 σ H1 λ y H2=>∃b,y=.str b/\okS 1000 b/\∀z,Q (.str z) H2
theorem x6u {e1 e2:Expr}{t1 t2:TE}{pos p2:Pos}(h1:PE X e1 t1) (h2:PE X e2 t2):PE X (.JoinedStr [e1,.FormattedValue e2 114 none p2] pos) (tFR t1 t2):=by
 intro pins s σ H Q I h
 refine wpAny_JoinedStr (thn (h1 pins s σ H _ I h) λ v s1 ⟨x,H1,I1,r1,q1⟩=>?_)
 obtain ⟨a,rfl,oa,q2⟩:=q1
 obtain ⟨ta,rfl⟩:=r1
 have s20:20000≤sizeLine:=by rw [sizeLine_eq];decide
 have e0:∀z:Str,Str.empty++z=z:=λ z=>by show (⟨#[]++z.cps⟩:Str)=z;simp
 refine ⟨a,ta,rfl,?_,wpAny_FormattedValue_repr (thn (h2 pins s1 σ H1 _ I1 q2) λ v s2 ⟨y,H2,I2,r2,q3⟩=>?_)⟩
 ·rw [e0];have:=oa.1;omega
 obtain ⟨b,rfl,ob,q⟩:=q3
 obtain ⟨tb,rfl⟩:=r2
 have rb:=ob.repr
 refine wpAny_pyReprObj_str (formatField_str (λ t' tk=>⟨_,t',rfl,?_,?_,?_⟩) (by omega)) (by omega)
 ·rw [e0,strLen_append];have:=oa.1;omega
 ·rw [e0,strLen_append];have:=oa.1;omega
 ·exact ⟨.str _,H2,(I2.tok _).tok _,⟨_,rfl⟩,q _⟩
def rSlStr:V->Option Int->Option Int->Hp->VK->Prop:=λ x lo hi H Q=>∃z,x=.str z/\z.length≤1000/\∀y:Str,y.length≤z.length->(∀c∈y.cps.toList,c∈z.cps.toList)->Q (.str y) H
def rUpper:V->List V->Hp->VK->Prop:=λ x xs H Q=>∃z,x=.str z/\xs=[]/\okS 1000 ⟨placed z λ _ c=>Unicode.upperOf c⟩/\Q (.str ⟨placed z λ _ c=>Unicode.upperOf c⟩) H
def rJoin (K:W.Frag):V->List V->Hp->VK->Prop:=λ x xs H Q=>∃(z:Str) (l:Addr) (ys:List Str),x=.str z/\z.length=0/\xs=[.ref l]/\SqL K H l (ys.map V.str)/\ys.length≤100/\(∀y∈ys,okS 10 y)/\∀y:Str,okS 1000 y->Q (.str y) H
end
def Itel (K:W.Frag) (a:Addr):It:=⟨λ i H=>∃xs x,SqL K H a xs/\xs[i]?=some x,
 λ i H v H'=>∃T x,v=.ref T/\H T=none/\H'=upd H T (.tup [.int i,x])/\∀xs,SqL K H a xs->xs[i]?=some x,λ i H=>∃xs,SqL K H a xs/\xs.length≤i⟩
section
variable {X:Cx}{es:List Expr}{x1:Nat}{pp:Pos}
def iEnumL (K:W.Frag) (te:TE):TI:=λ σ H R=>te σ H λ v H1=>∃a xs,v=.ref a/\SqL K H1 a xs/\R (Itel K a) H1
end
def LoopEL (K:PySem.W.Frag) (g:TG) (tb:TS) (D:Ends) (σ:St) (v:V) (H1:Hp):Prop:=∃a xs,v=.ref a/\SqL K H1 a xs/\∃W:Nat->Nat->St->Hp->Prop,(∃m,W 0 m σ H1)/\∀i m σ H,W i m σ H ->
 ((Itel K a).stop i H/\D.nx σ H)\/((Itel K a).go i H/\∃N:St->Hp->Prop,(∀σ' H',N σ' H'->∃m',m' < m/\W (i+1) m' σ' H')/\∀x H',(Itel K a).yld i H x H'->g x σ H' λ σ2 H2=>tb { D with nx:=N,ct:=N,bk:=D.nx } σ2 H2)
theorem x0u {K:W.Frag}{te:TE}{g:TG}{tb:TS}{D:Ends}{σ:St}{H:Hp}:tFor (iEnumL K te) g tb D σ H=te σ H λ v H1=>LoopEL K g tb D σ v H1:=rfl
theorem LoopEL.mk {K:W.Frag}{a:Addr}{xs:List V}{g:TG}{tb:TS}{D:Ends}{σ:St}{H:Hp}(h1:SqL K H a xs) (Pv:Nat->St->Hp->Prop) (h0:Pv 0 σ H) (hl:∀i σ H,i≤xs.length->Pv i σ H->SqL K H a xs)
  (hs:∀i x σ H T,xs[i]?=some x->Pv i σ H->H T=none->g (.ref T) σ (upd H T (.tup [.int i,x])) λ σ2 H2=>tb { D with nx:=Pv (i+1),ct:=Pv (i+1),bk:=D.nx } σ2 H2) (hd:∀σ H,Pv xs.length σ H->D.nx σ H) :
  LoopEL K g tb D σ (.ref a) H:=by
 refine ⟨a,xs,rfl,h1,λ i m σ H=>m=xs.length - i/\i≤xs.length/\Pv i σ H,⟨_,rfl,Nat.zero_le _,h0⟩,?_⟩
 rintro i m σ H ⟨rfl,hi,p⟩
 have k1:=hl i σ H hi p
 by_cases hlt:i < xs.length
 ·refine .inr ⟨⟨xs,_,k1,List.getElem?_eq_getElem hlt⟩,Pv (i+1),λ σ' H' p'=>⟨xs.length - (i+1),by omega,rfl,hlt,p'⟩,λ v H' yy=>?_⟩
  obtain ⟨T,x,rfl,hT,rfl,ex⟩:=yy
  exact hs i x σ H T (ex xs k1) p hT
 ·have e:i=xs.length:=by omega
  exact .inl ⟨⟨xs,k1,by omega⟩,hd σ H (e ▸ p)⟩
def Itx (x:Str):It:=⟨λ i _=>i < x.cps.size,λ i H v H'=>H'=H/\∃c,x.cps[i]?=some c/\v=.str ⟨#[c]⟩,λ i _=>x.cps.size≤i⟩
section
variable {X:Cx}{tg:Expr}
def iStr (tl:TE):TI:=λ σ H R=>tl σ H λ x H1=>∃z,x=.str z/\R (Itx z) H1
end
def LoopX (g:TG) (tb:TS) (D:Ends) (σ:St) (v:V) (H1:Hp):Prop:=∃z,v=.str z/\∃W:Nat->Nat->St->Hp->Prop,(∃m,W 0 m σ H1)/\∀i m σ H,W i m σ H ->
 ((Itx z).stop i H/\D.nx σ H)\/((Itx z).go i H/\∃N:St->Hp->Prop,(∀σ' H',N σ' H'->∃m',m' < m/\W (i+1) m' σ' H')/\∀x H',(Itx z).yld i H x H'->g x σ H' λ σ2 H2=>tb { D with nx:=N,ct:=N,bk:=D.nx } σ2 H2)
theorem x3h {te:TE}{g:TG}{tb:TS}{D:Ends}{σ:St}{H:Hp}:tFor (iStr te) g tb D σ H=te σ H λ v H1=>LoopX g tb D σ v H1:=rfl
theorem LoopX.mk {z:Str}{g:TG}{tb:TS}{D:Ends}{σ:St}{H:Hp}(Pv:Nat->St->Hp->Prop) (h0:Pv 0 σ H)
  (hs:∀i c σ H,z.cps[i]?=some c->Pv i σ H->g (.str ⟨#[c]⟩) σ H λ σ2 H2=>tb { D with nx:=Pv (i+1),ct:=Pv (i+1),bk:=D.nx } σ2 H2) (hd:∀σ H,Pv z.cps.size σ H->D.nx σ H) :
  LoopX g tb D σ (.str z) H:=by
 refine ⟨z,rfl,λ i m σ H=>m=z.cps.size - i/\i≤z.cps.size/\Pv i σ H,⟨_,rfl,Nat.zero_le _,h0⟩,?_⟩
 rintro i m σ H ⟨rfl,hi,p⟩
 by_cases hlt:i < z.cps.size
 ·refine .inr ⟨hlt,Pv (i+1),λ σ' H' p'=>⟨z.cps.size - (i+1),by omega,rfl,hlt,p'⟩,λ v H' yy=>?_⟩
  obtain ⟨rfl,c,ec,rfl⟩:=yy
  exact hs i c σ H' ec p
 ·have e:i=z.cps.size:=by omega
  exact .inl ⟨by show z.cps.size≤i;omega,hd σ H (e ▸ p)⟩
def CompX (k:Nat) (js:List Nat) (g:TG) (te:TE) (σ:St) (v:V) (H1:Hp) (Q:VK):Prop:=∃z,v=.str z/\∃W:Nat->Nat->List V->St->Hp->Prop,(∃m,W 0 m [] (compSt k js σ) H1)/\∀i m ys σ' H',W i m ys σ' H' ->
  ((Itx z).stop i H'/\∀p,H' p=none->Q (.ref p) (upd H' p (.lst ys))) \/
  ((Itx z).go i H'/\ys.length < sizeLine/\∃N:List V->St->Hp->Prop,(∀zs σ2 H2,N zs σ2 H2->∃m',m' < m/\W (i+1) m' zs σ2 H2)/\∀x H2,(Itx z).yld i H' x H2->g x σ' H2 λ σ3 H3=>te σ3 H3 λ v H4=>N (ys++[v]) σ3 H4)
theorem x1c {k:Nat}{js:List Nat}{ti:TE}{g:TG}{te:TE}{σ:St}{H:Hp}{Q:VK}:tComp (iStr ti) k js g te σ H Q=ti σ H λ x H1=>CompX k js g te σ x H1 Q:=rfl
theorem CompX.mk {z:Str}{k:Nat}{js:List Nat}{g:TG}{te:TE}{Q:VK}{σ:St}{H:Hp}(Pv:Nat->List V->St->Hp->Prop) (h0:Pv 0 [] (compSt k js σ) H)
  (hs:∀i c ys σ H,z.cps[i]?=some c->Pv i ys σ H->ys.length < sizeLine/\g (.str ⟨#[c]⟩) σ H λ σ3 H3=>te σ3 H3 λ v H4=>Pv (i+1) (ys++[v]) σ3 H4) (hd:∀ys σ H,Pv z.cps.size ys σ H->∀p,H p=none->Q (.ref p) (upd H p (.lst ys))) :
  CompX k js g te σ (.str z) H Q:=by
 refine ⟨z,rfl,λ i m ys σ H=>m=z.cps.size - i/\i≤z.cps.size/\Pv i ys σ H,⟨_,rfl,Nat.zero_le _,h0⟩,?_⟩
 rintro i m ys σ H ⟨rfl,hi,p⟩
 by_cases hlt:i < z.cps.size
 ·refine .inr ⟨hlt,(hs i (z.cps[i]'hlt) ys σ H (Array.getElem?_eq_getElem hlt) p).1,Pv (i+1),λ zs σ' H' p'=>⟨z.cps.size - (i+1),by omega,rfl,hlt,p'⟩,λ v H' yy=>?_⟩
  obtain ⟨rfl,c,ec,rfl⟩:=yy
  exact (hs i c ys σ H' ec p).2
 ·have e:i=z.cps.size:=by omega
  exact .inl ⟨by show z.cps.size≤i;omega,hd ys σ H (e ▸ p)⟩
section
variable {X:Cx}
def findI (x y:Str):Int:=match Builtin.Str.occurrences x y 0 x.length 1 with | i::_=>(i:Int) | []=>-1
def rFind:V->List V->Hp->VK->Prop:=λ x xs H Q=>∃z y,x=.str z/\xs=[.str y]/\Q (.int (findI z y)) H
end
section
variable {X:Cx}
def rCatL (K:W.Frag):R2:=λ x y H Q=>∃l b xs zs,x=.ref l/\y=.ref b/\SqL K H l xs/\SqL K H b zs/\xs.length+zs.length≤sizeLine/\∀p,H p=none->Q (.ref p) (upd H p (.lst (xs++zs)))
end
section
variable {pg:Program}{wd:World}{B:Around}{X0:Value->Shared->Prop}{s0:Shared}
end
def ItzL (K:W.Frag) (a b:Addr):It:=⟨λ i H=>∃xs ys x y,SqL K H a xs/\SqL K H b ys/\xs[i]?=some x/\ys[i]?=some y,
 λ i H v H'=>∃T x y,v=.ref T/\H T=none/\H'=upd H T (.tup [x,y])/\∀xs ys,SqL K H a xs->SqL K H b ys->xs[i]?=some x/\ys[i]?=some y,λ i H=>∃xs ys,SqL K H a xs/\SqL K H b ys/\(xs.length≤i\/ys.length≤i)⟩
section
variable {X:Cx}{es:List Expr}{x1:Nat}{pp:Pos}
def iZipL (K:W.Frag) (ta:TA):TI:=λ σ H R=>ta σ H λ vs H1=>∃a b xs ys,vs=[.ref a,.ref b]/\SqL K H1 a xs/\SqL K H1 b ys/\R (ItzL K a b) H1
end
def LoopZL (K:PySem.W.Frag) (g:TG) (tb:TS) (D:Ends) (σ:St) (vs:List V) (H1:Hp):Prop:=∃a b xs ys,vs=[.ref a,.ref b]/\SqL K H1 a xs/\SqL K H1 b ys/\∃W:Nat->Nat->St->Hp->Prop,(∃m,W 0 m σ H1)/\∀i m σ H,W i m σ H ->
 ((ItzL K a b).stop i H/\D.nx σ H)\/((ItzL K a b).go i H/\∃N:St->Hp->Prop,(∀σ' H',N σ' H'->∃m',m' < m/\W (i+1) m' σ' H')/\∀x H',(ItzL K a b).yld i H x H'->g x σ H' λ σ2 H2=>tb { D with nx:=N,ct:=N,bk:=D.nx } σ2 H2)
theorem x0p {K:W.Frag}{ta:TA}{g:TG}{tb:TS}{D:Ends}{σ:St}{H:Hp}:tFor (iZipL K ta) g tb D σ H=ta σ H λ vs H1=>LoopZL K g tb D σ vs H1:=rfl
theorem LoopZL.mk {K:W.Frag}{a b:Addr}{xs ys:List V}{g:TG}{tb:TS}{D:Ends}{σ:St}{H:Hp}(n:Nat) (hn:n=min xs.length ys.length) (h1:SqL K H a xs) (h2:SqL K H b ys) (Pv:Nat->St->Hp->Prop) (h0:Pv 0 σ H) (hl:∀i σ H,i≤n->Pv i σ H->SqL K H a xs/\SqL K H b ys)
  (hs:∀i x y σ H T,i < n->xs[i]?=some x->ys[i]?=some y->Pv i σ H->H T=none->g (.ref T) σ (upd H T (.tup [x,y])) λ σ2 H2=>tb { D with nx:=Pv (i+1),ct:=Pv (i+1),bk:=D.nx } σ2 H2) (hd:∀σ H,Pv n σ H->D.nx σ H) :
  LoopZL K g tb D σ [.ref a,.ref b] H:=by
 subst hn
 refine ⟨a,b,xs,ys,rfl,h1,h2,λ i m σ H=>m=min xs.length ys.length - i/\i≤min xs.length ys.length/\Pv i σ H,⟨_,rfl,Nat.zero_le _,h0⟩,?_⟩
 rintro i m σ H ⟨rfl,hi,p⟩
 obtain ⟨k1,k2⟩:=hl i σ H hi p
 by_cases hlt:i < min xs.length ys.length
 ·have l1:i < xs.length:=by omega
  have l2:i < ys.length:=by omega
  refine .inr ⟨⟨xs,ys,_,_,k1,k2,List.getElem?_eq_getElem l1,List.getElem?_eq_getElem l2⟩,Pv (i+1),λ σ' H' p'=>⟨min xs.length ys.length - (i+1),by omega,rfl,hlt,p'⟩,λ v H' yy=>?_⟩
  obtain ⟨T,x,y,rfl,hT,rfl,ex⟩:=yy
  obtain ⟨ex1,ex2⟩:=ex xs ys k1 k2
  exact hs i x y σ H T hlt ex1 ex2 p hT
 ·have e:i=min xs.length ys.length:=by omega
  exact .inl ⟨⟨xs,ys,k1,k2,by omega⟩,hd σ H (e ▸ p)⟩
def CompZL (K:PySem.W.Frag) (k:Nat) (js:List Nat) (g:TG) (te:TE) (σ:St) (vs:List V) (H1:Hp) (Q:VK):Prop:=∃a b xs ys,vs=[.ref a,.ref b]/\SqL K H1 a xs/\SqL K H1 b ys/\∃W:Nat->Nat->List V->St->Hp->Prop,(∃m,W 0 m [] (compSt k js σ) H1)/\∀i m zs σ' H',W i m zs σ' H' ->
  ((ItzL K a b).stop i H'/\∀p,H' p=none->Q (.ref p) (upd H' p (.lst zs))) \/
  ((ItzL K a b).go i H'/\zs.length < sizeLine/\∃N:List V->St->Hp->Prop,(∀zs σ2 H2,N zs σ2 H2->∃m',m' < m/\W (i+1) m' zs σ2 H2)/\∀x H2,(ItzL K a b).yld i H' x H2->g x σ' H2 λ σ3 H3=>te σ3 H3 λ v H4=>N (zs++[v]) σ3 H4)
theorem y8i {K:W.Frag}{k:Nat}{js:List Nat}{ta:TA}{g:TG}{te:TE}{σ:St}{H:Hp}{Q:VK}:tComp (iZipL K ta) k js g te σ H Q=ta σ H λ vs H1=>CompZL K k js g te σ vs H1 Q:=rfl
theorem CompZL.mk {K:W.Frag}{a b:Addr}{xs ys:List V}{k:Nat}{js:List Nat}{g:TG}{te:TE}{Q:VK}{σ:St}{H:Hp}(n:Nat) (hn:n=min xs.length ys.length) (h1:SqL K H a xs) (h2:SqL K H b ys) (Pv:Nat->List V->St->Hp->Prop) (h0:Pv 0 [] (compSt k js σ) H) (hl:∀i zs σ H,i≤n->Pv i zs σ H->SqL K H a xs/\SqL K H b ys)
  (hs:∀i x y zs σ H T,i < n->xs[i]?=some x->ys[i]?=some y->Pv i zs σ H->H T=none->zs.length < sizeLine/\g (.ref T) σ (upd H T (.tup [x,y])) λ σ3 H3=>te σ3 H3 λ v H4=>Pv (i+1) (zs++[v]) σ3 H4) (hz:∀zs σ H,Pv n zs σ H->∀p,H p=none->Q (.ref p) (upd H p (.lst zs))) (hlen:∀i zs σ H,Pv i zs σ H->zs.length < sizeLine) :
  CompZL K k js g te σ [.ref a,.ref b] H Q:=by
 subst hn
 refine ⟨a,b,xs,ys,rfl,h1,h2,λ i m zs σ H=>m=min xs.length ys.length - i/\i≤min xs.length ys.length/\Pv i zs σ H,⟨_,rfl,Nat.zero_le _,h0⟩,?_⟩
 rintro i m zs σ H ⟨rfl,hi,p⟩
 obtain ⟨k1,k2⟩:=hl i zs σ H hi p
 by_cases hlt:i < min xs.length ys.length
 ·have l1:i < xs.length:=by omega
  have l2:i < ys.length:=by omega
  refine .inr ⟨⟨xs,ys,_,_,k1,k2,List.getElem?_eq_getElem l1,List.getElem?_eq_getElem l2⟩,hlen _ _ _ _ p,Pv (i+1),λ zs' σ' H' p'=>⟨min xs.length ys.length - (i+1),by omega,rfl,hlt,p'⟩,λ v H' yy=>?_⟩
  obtain ⟨T,x,y,rfl,hT,rfl,ex⟩:=yy
  obtain ⟨ex1,ex2⟩:=ex xs ys k1 k2
  exact (hs i x y zs σ H T hlt ex1 ex2 p hT).2
 ·have e:i=min xs.length ys.length:=by omega
  exact .inl ⟨⟨xs,ys,k1,k2,by omega⟩,hz zs σ H (e ▸ p)⟩
section
variable {prog:Program}{w:World}{A:Around}{E:Value->Shared->Prop}{s:Shared}
theorem z7o {l:Addr}{T:String}{o:Obj}{vs:List Value}{n:Nat}{ns:List Int}{Q:Value->Shared->Prop}(hT:T = "list" \/ T = "tuple") (ho:s.heap.get? l=some o) (hc:o.cls=.type T) (hd:o.data=.seq vs.toArray n) (hI:IntsAre vs ns) (h64:vs.length < 64)
  (h:∀(h1 h2:Heap) (vs':List Value) (ns':List Int) (e:Nat),(∀b u,s.heap.get? b=some u->h1.get? b=some u)->(∀b u,h1.get? b=some u->h2.get? b=some u)->h2.get? h1.objs.size=some (seqObj "list" vs'.toArray e)->IntsAre vs' ns'->ns'.Perm ns->ns'.Pairwise (·≤·)->Q (.ref h1.objs.size) { s with heap:=h2 }) :
  wpAny (model prog w) A (call (.builtin "sorted") [.ref l]) Q E s:=by
 refine Calls.call_function_entry kind_sorted plain_sorted entry_sorted (args_sorted1 _) ?_
 unfold Builtin.«sorted»
 refine wpAny_bind (m:=checkCount "sorted" 1 1 _) (wpAny_pure ?_)
 refine wpAny_bind (wpAny_collect_seq l hT ho hc hd (λ h1 k1=>?_) (by simp only [List.size_toArray];exact Nat.le_of_lt (z0z (by omega))))
 rw [show vs.toArray.toList=vs by simp]
 refine wpAny_bind (wpAny_newList ?_)
 have hoL:(h1.push (seqObj "list" vs.toArray 0)).get? h1.objs.size=some (seqObj "list" vs.toArray 0):=Heap.get?_push_size _ rfl
 refine wpAny_bind (wpAny_holding (wpAny_call_entry slot_list_sort ⟨_,hoL,rfl⟩ entry_list_sort (list_sort_tree hoL hI h64 λ out ns' a1 a2 a3=>⟨_,rfl,?_⟩) (args_list_sort _)))
 refine wpAny_pure ⟨_,rfl,?_⟩
 obtain ⟨e,he⟩:=sortedHeap_at (vs:=vs) (out:=out) hoL
 refine h h1 _ out.toList ns' e k1 (λ b u q=>?_) (by rw [Array.toArray_toList];exact he) a1 a2 a3
 have hlt:=Heap.lt_size q
 rw [sortedHeap_old (Nat.ne_of_lt hlt) (by rw [size_push'];exact Nat.lt_succ_of_lt hlt)]
 exact Heap.get?_push_of_some _ q
end
theorem z6j:∀ {xs:List V}{us:List Value},xs.length=us.length->(∀(i:Nat) u,us[i]?=some u->∃x,xs[i]?=some x/\RelV x u)->Vals xs us
 | [],[],_,_=>.nil
 | [],_::_,h,_=>by simp at h
 | _::_,[],h,_=>by simp at h
 | x::xs,u::us,h,f=>by
  obtain ⟨y,e,r⟩:=f 0 u rfl
  cases (Option.some.inj e)
  exact .cons r (z6j (by simpa using h) λ i v e=>f (i+1) v e)
section
variable {X:Cx}
theorem y0c:CallR X (.builtin "sorted") (λ xs H Q=>∃p ns,xs=[.ref p]/\(SqL X.K H p (List.map V.int ns)\/SqT X.K H p (List.map V.int ns))/\ns.length < 64/\∀ns':List Int,ns'.Perm ns->ns'.Pairwise (·≤·)->∀l,H l=none->Q (.ref l) (upd H l (.lst (ns'.map V.int)))):=by
 intro pins s σ H xs us Q I r h
 obtain ⟨p,ns,rfl,hq,h64,q⟩:=h
 obtain ⟨u,rfl,rx⟩:=z4r r
 cases rx
 have fin:∀(h1 h2:Heap) (vs':List Value) (ns':List Int) (e:Nat),(∀b u,s.heap.get? b=some u->h1.get? b=some u)->(∀b u,h1.get? b=some u->h2.get? b=some u)->h2.get? h1.objs.size=some (seqObj "list" vs'.toArray e)->IntsAre vs' ns'->ns'.Perm ns->ns'.Pairwise (·≤·)->EP X pins σ Q (.ref h1.objs.size) { s with heap:=h2 }:=by
  intro h1 h2 vs' ns' e k1 k2 g a1 a2 a3
  have I1:Inv X pins σ H { s with heap:=h1 }:=I.kept (t':=s.toks) k1
  have hz:(ns'.map V.int).length≤sizeLine:=by rw [List.length_map,a2.length_eq];exact Nat.le_of_lt (z0z (by omega))
  have I2:Inv X pins σ (upd H h1.objs.size (.lst (ns'.map V.int))) { s with heap:=h2 }:=I1.laid (t':=s.toks) k2 (Nat.le_refl _) (show ObjOk X.prog X.w _ _ _ (.lst (ns'.map V.int)) from ⟨hz,vs',e,z6k a1,g⟩)
  exact ⟨.ref h1.objs.size,_,I2,rfl,q ns' a2 a3 _ (I1.hok.fresh (Nat.le_refl _))⟩
 rcases hq with hq | hq
 ·obtain ⟨its,r',pl,hz⟩:=I.list hq
  have hi:=z5s r'
  obtain ⟨o,ho,hc,n,hd⟩:=pl.isList
  exact z7o (.inl rfl) ho hc hd hi (by rw [hi.length];exact h64) fin
 ·obtain ⟨its,r',pl,hz⟩:=I.tuple hq
  have hi:=z5s r'
  obtain ⟨o,ho,hc,n,hd⟩:=pl
  exact z7o (.inr rfl) ho hc hd hi (by rw [hi.length];exact h64) fin
theorem z6z:CallR X (.type "range") (λ xs H Q=>∃j:Int,xs=[.int j]/\∀r,H r=none->Q (.ref r) (upd H r (.rng 0 j))):=by
 intro pins s σ H xs us Q I r h
 obtain ⟨j,rfl,q⟩:=h
 obtain ⟨u,rfl,t,rfl⟩:=z4r r
 refine call_range_1 ⟨.ref s.heap.objs.size,_,I.laid (λ b o e=>Heap.get?_push_of_some _ e) (Nat.le_refl _) ?_,rfl,q _ (I.hok.fresh (Nat.le_refl _))⟩
 exact ⟨_,_,_,Heap.get?_push_size _ rfl⟩
def upL (n:Nat):List Int:=(List.range n).map λ (i:Nat)=>(i:Int)
theorem z5y (hc:X.calm=true):CallR X (.type "list") (λ xs H Q=>∃p n,xs=[.ref p]/\H p=some (.rng 0 (Int.ofNat n))/\n≤1000/\∀l,H l=none->Q (.ref l) (upd H l (.lst ((upL n).map V.int)))):=by
 intro pins s σ H xs us Q I r h
 obtain ⟨p,n,rfl,hp,hn,q⟩:=h
 obtain ⟨u,rfl,rx⟩:=z4r r
 cases rx
 obtain ⟨t,u,v,e⟩:=I.hok p _ hp
 have hs:Builtin.Range.small 0 (Int.ofNat n) 1=true:=by
  have z:∀m:Fin 1001,Builtin.Range.small 0 (Int.ofNat m.val) 1=true:=by decide +kernel
  exact z ⟨n,by omega⟩
 have hsz:Builtin.Range.rangeSize 0 (Int.ofNat n) 1=n:=by
  unfold Builtin.Range.rangeSize
  rw [if_pos (by decide)]
  split
  ·show (Int.ofNat n - 0 - 1) / 1+1=_;simp; 
  ·simp at *;omega
 refine call_list_range (I.ok.hd hc) e hs hsz (by omega) λ h' tk acc' c' k g it=>?_
 have rv:Vals ((upL n).map V.int) acc'.toList:=by
  refine z6j (by simp [upL,it.1]) λ i v e=>?_
  rw [Array.getElem?_toList] at e
  obtain ⟨tt,rfl⟩:=it.2 i v e
  have hi:i < n:=by rw [← it.1];exact (Array.getElem?_eq_some_iff.mp e).1
  exact ⟨.int i,by simp [upL,hi],tt,by simp⟩
 exact ⟨.ref s.heap.objs.size,_,I.laid k (Nat.le_refl _) (show ObjOk X.prog X.w _ _ _ (.lst _) from ⟨by simp [upL];exact Nat.le_of_lt (z0z hn),acc'.toList,c',rv,by rw [Array.toArray_toList];exact g⟩),rfl,q _ (I.hok.fresh (Nat.le_refl _))⟩
theorem z4h:CallR X (.type "tuple") (λ xs H Q=>∃p ys,xs=[.ref p]/\SqL X.K H p ys/\∀l o,H l=none->o.dict=none->Q (.ref l) (upd H l (.frz o (.tup ys)))):=by
 intro pins s σ H xs us Q I r h
 obtain ⟨p,ys,rfl,hq,q⟩:=h
 obtain ⟨u,rfl,rx⟩:=z4r r
 cases rx
 obtain ⟨its,r',pl,hz⟩:=I.list hq
 have hlen:=r'.length
 refine call_tuple_list pl.isList (λ h' kp=>?_) (by simp only [List.size_toArray]<;>omega)
 have I1:Inv X pins σ H { s with heap:=h' }:=I.kept (t':=s.toks) kp
 have I2:Inv X pins σ (upd H h'.objs.size (.frz { cls:=.type "tuple",data:=.seq its.toArray } (.tup ys))) { s with heap:=h'.push { cls:=.type "tuple",data:=.seq its.toArray } } :=
  I1.laid (t':=s.toks) (λ b o e=>Heap.get?_push_of_some _ e) (Nat.le_refl _) (show ObjOk X.prog X.w _ _ _ (.frz _ (.tup ys)) from ⟨Heap.get?_push_size _ rfl,hz,its,r',IsTup.new _ _⟩)
 exact ⟨.ref h'.objs.size,_,I2,rfl,q _ _ (I1.hok.fresh (Nat.le_refl _)) rfl⟩
def rCount:V->List V->Hp->VK->Prop:=λ x ys H Q=>∃a o xs y,x=.ref a/\ys=[y]/\H a=some (.frz o (.tup xs))/\xs.all flatV=true/\flatV y=true/\Q (.int (xs.countP λ z=>eqV z y)) H
def tBMf (r:V->List V->Hp->VK->Prop) (to:TE) (t:TA):TE:=λ σ H Q=>to σ H λ x H1=>(∃a o xs,x=.ref a/\H1 a=some (.frz o (.tup xs))/\o.dict=none)/\t σ H1 λ ys H2=>r x ys H2 Q
theorem x4v {o e:Expr}{es:List Expr}{to:TE}{t:TA}{name:Str}{apos cpos:Pos}{id:String}{r:V->List V->Hp->VK->Prop}(slot:Slot "tuple" name id) (hty:typeOf (.builtin id)=pure (.type "method_descriptor")) (hm:MtR X id r) (ho:PE X o to) (ha:PA X (e::es) t)
  (hbase:attributeBase o name X.env (eval o X.env)=eval o X.env:=by rfl)
  (hfew:((backTo cpos (starEach (e::es) X.env)).all (λ x=>!x.1) && (backToKw cpos (keywordEach [] X.env)).all (λ x=>x.1.isSome)
   && decide ((e::es).length+([]:List Keyword).length+(if ([]:List Keyword).isEmpty then 0 else 1) < 30))=true:=by rfl)
  (hline:(apos.endLine == cpos.line)=true:=by rfl) (hs:starEach (e::es) X.env=(false,eval e X.env)::starEach es X.env:=by rfl) (hplain:(backTo cpos (starEach es X.env)).any (·.1)=false:=by rfl) :
  PE X (.Call (.Attribute o name apos) (e::es) [] cpos) (tBMf r to t):=by
 intro pins s σ H Q I h
 refine wpAny_Call_method_late hbase hfew hline rfl (thn (ho pins s σ H _ I h) λ v s1 ⟨x,H1,I1,r1,ty,q1⟩=>?_)
 have hh:s1.TypeIs v "tuple" /\ ∀a,v=.ref a->∃ob,s1.heap.get? a=some ob/\ob.dict=none:=by
  obtain ⟨a,ob,xs,rfl,ha,hd⟩:=ty
  cases r1
  obtain ⟨g1,hz,its,rv,o2,g2,c2,n2,d2⟩:=I1.hok a _ ha
  rw [g1] at g2;cases g2
  exact ⟨⟨_,g1,c2⟩,λ b e=>by cases e;exact ⟨_,g1,hd⟩⟩
 refine ⟨"tuple",id,PySem.F.plainAttrs_tuple,slot,hty,hh.1,hh.2,?_⟩
 have hA:=ha cpos pins s1 σ H1 _ I1 q1
 rw [hs] at hA ⊢
 refine Calls.callWith_builtin (by show (false || (backTo cpos (starEach es X.env)).any (·.1))=false;rw [hplain]<;>rfl) (Calls.evalArgs_plain ?_)
 exact thn hA λ us s2 ⟨vs,H2,I2,r2,q2⟩=>hm pins s2 σ H2 x vs v us Q I2 r1 r2 q2
end
section
variable {X:Cx}
def startsB (x y:Str):Bool:=decide (0+y.length≤x.length) && Builtin.Str.subAt x y 0
def rStarts:V->List V->Hp->VK->Prop:=λ x xs H Q=>∃z y,x=.str z/\xs=[.str y]/\Q (.bl (startsB z y)) H
def rSlStrX:V->Option Int->Option Int->Hp->VK->Prop:=λ x lo hi H Q=>∃z,x=.str z/\z.length≤20000/\Q (.str (Txt.slice z lo hi)) H
end
section
variable {κ:Type} [DecidableEq κ]
def valV (kvs:List (κ × V)) (k:κ):Option V:=(kvs.find? λ kv=>decide (kv.1=k)).map (·.2)
def putK (kvs:List (κ × V)) (k:κ) (v:V):List (κ × V) :=
 if (kvs.any λ kv=>decide (kv.1=k))=true then kvs.map (λ kv=>if kv.1=k then (kv.1,v) else kv) else kvs++[(k,v)]
def dropK (kvs:List (κ × V)) (k:κ):List (κ × V):=kvs.filter λ kv=>decide (kv.1≠k)
theorem y1x {p:κ × V}{r:List (κ × V)}{k:κ}(e:p.1=k):valV (p::r) k=some p.2:=by simp [valV,List.find?_cons,e]
theorem y1y {p:κ × V}{r:List (κ × V)}{k:κ}(e:¬p.1=k):valV (p::r) k=valV r k:=by simp [valV,List.find?_cons,e]
theorem RelO.getD {o:Option V}{u:Option Value}{d:V}{d':Value}(r:RelO o u) (rd:RelV d d'):RelV (o.getD d) (u.getD d'):=by
 cases o with
 | none=>cases u with
  | none=>exact rd
  | some _=>exact (show False from r).elim
 | some _=>cases u with
  | none=>exact (show False from r).elim
  | some _=>exact r
theorem KV.val {kvs:List (κ × V)}{vs:List (κ × Value)}(r:KV kvs vs) (k:κ):RelO (valV kvs k) (valueAt vs k):=by
 unfold KV at r
 induction r with
 | nil=>exact True.intro
 | @cons p q ps qs h t ih =>
  obtain ⟨h1,h2⟩:=h
  by_cases e:p.1=k
  ·have e':q.1=k:=h1.symm.trans e
   have b:valueAt (q::qs) k=some q.2:=by simp [valueAt,List.find?_cons,e']
   rw [y1x e,b];exact h2
  ·have e':¬q.1=k:=λ z=>e (h1.trans z)
   have b:valueAt (q::qs) k=valueAt qs k:=by simp [valueAt,List.find?_cons,e']
   rw [y1y e,b];exact ih
theorem KV.any {kvs:List (κ × V)}{vs:List (κ × Value)}(r:KV kvs vs) (k:κ):(kvs.any λ kv=>decide (kv.1=k))=vs.any λ kv=>decide (kv.1=k):=by
 unfold KV at r
 induction r with
 | nil=>rfl
 | cons h t ih=>rw [List.any_cons,List.any_cons,ih,h.1]
theorem KV.drop {kvs:List (κ × V)}{vs:List (κ × Value)}(r:KV kvs vs) (k:κ):KV (dropK kvs k) (without vs k):=by
 unfold KV at r ⊢
 unfold dropK without
 induction r with
 | nil=>exact .nil
 | @cons p q ps qs h t ih =>
  obtain ⟨h1,h2⟩:=h
  rw [List.filter_cons,List.filter_cons]
  by_cases e:p.1=k
  ·have a:¬decide (p.1≠k)=true:=by simp [e]
   have b:¬decide (q.1≠k)=true:=by simp [h1.symm.trans e]
   rw [if_neg a,if_neg b];exact ih
  ·have e':¬q.1=k:=λ z=>e (h1.trans z)
   have a:decide (p.1≠k)=true:=by simp [e]
   have b:decide (q.1≠k)=true:=by simp [e']
   rw [if_pos a,if_pos b];exact .cons ⟨h1,h2⟩ ih
theorem KV.length {kvs:List (κ × V)}{vs:List (κ × Value)}(r:KV kvs vs):kvs.length=vs.length:=Paired.length r
end
abbrev KT (H:Hp):List (List Key × V)->List (List Key × Addr × Value)->Prop:=Paired λ p q=>p.1=q.1/\H q.2.1=some (.tup (p.1.map kV))/\RelV p.2 q.2.2
theorem KT.val {H:Hp}{kvs:List (List Key × V)}{xs:List (List Key × Addr × Value)}(r:KT H kvs xs) (k:List Key):RelO (valV kvs k) ((atKey xs k).map (·.2)):=by
 induction r with
 | nil=>exact True.intro
 | @cons p q ps qs h t ih =>
  obtain ⟨h1,_,h2⟩:=h
  by_cases e:p.1=k
  ·have e':q.1=k:=h1.symm.trans e
   have b:atKey (q::qs) k=some q.2:=by simp [atKey,List.find?_cons,e']
   rw [y1x e,b];exact h2
  ·have e':¬q.1=k:=λ z=>e (h1.trans z)
   have b:atKey (q::qs) k=atKey qs k:=by simp [atKey,List.find?_cons,e']
   rw [y1y e,b];exact ih
theorem KT.keeps {H H':Hp}{kvs:List (List Key × V)}{xs:List (List Key × Addr × Value)}(r:KT H kvs xs) (ht:∀b ys,H b=some (.tup ys)->H' b=some (.tup ys)):KT H' kvs xs :=
 Paired.mapP r λ _ _ z=>⟨z.1,ht _ _ z.2.1,z.2.2⟩
section
variable {P:Program}{w:World}{H:Hp}{h:Heap}{a:Addr}
end
def DGet (H:Hp) (a:Addr) (y:V) (r:Option V):Prop :=
 (∃kvs k,Rd H a (.dK kvs)/\y=kV k/\r=valV kvs k)\/∃kvs k b,Rd H a (.dT kvs)/\y=.ref b/\H b=some (.tup (k.map kV))/\r=valV kvs k
def DPut (H:Hp) (a:Addr) (y v:V) (H':Hp):Prop :=
 (∃kvs k,H a=some (.dK kvs)/\y=kV k/\kvs.length < sizeLine/\H'=upd H a (.dK (putK kvs k v))) \/
 ∃kvs k b,H a=some (.dT kvs)/\y=.ref b/\H b=some (.tup (k.map kV))/\kvs.length < sizeLine/\H'=upd H a (.dT (putK kvs k v))
theorem DGet.k {H:Hp}{a:Addr}{kvs:List (Key × V)}{k:Key}(e:H a=some (.dK kvs)):DGet H a (kV k) (valV kvs k):=.inl ⟨kvs,k,.inl e,rfl,rfl⟩
theorem DGet.t {H:Hp}{a b:Addr}{kvs:List (List Key × V)}{k:List Key}(e:H a=some (.dT kvs)) (eb:H b=some (.tup (k.map kV))):DGet H a (.ref b) (valV kvs k):=.inr ⟨kvs,k,b,.inl e,rfl,eb,rfl⟩
theorem DPut.k {H:Hp}{a:Addr}{kvs:List (Key × V)}{k:Key}{v:V}(e:H a=some (.dK kvs)) (hl:kvs.length < sizeLine):DPut H a (kV k) v (upd H a (.dK (putK kvs k v))):=.inl ⟨kvs,k,e,rfl,hl,rfl⟩
theorem DPut.t {H:Hp}{a b:Addr}{kvs:List (List Key × V)}{k:List Key}{v:V}(e:H a=some (.dT kvs)) (eb:H b=some (.tup (k.map kV))) (hl:kvs.length < sizeLine) :
  DPut H a (.ref b) v (upd H a (.dT (putK kvs k v))):=.inr ⟨kvs,k,b,e,rfl,eb,hl,rfl⟩
section
variable {X:Cx}{pins:List (Addr × Obj)}{σ:St}{H:Hp}{s:Shared}{a:Addr}{y v:V}{u r:Value}{o:Option V}{A:Around}{E:Value->Shared->Prop}
theorem Inv.big (I:Inv X pins σ H s):sysModules < s.heap.objs.size:=by
 have h:mainGlobals < s.heap.objs.size:=(I.mod.glob.keeps I.bk).lt
 exact Nat.lt_trans (by decide) h
end
section
variable {X:Cx}{pins:List (Addr × Obj)}{σ:St}{H:Hp}{s:Shared}{a:Addr}{kvs:List (Key × V)}{k:Key}{u:Value}{A:Around}{E:Value->Shared->Prop}
end
def tDIn (ty td:TE):TE:=λ σ H Q=>ty σ H λ y H1=>td σ H1 λ x H2=>∃a o,x=.ref a/\DGet H2 a y o/\Q (.bl o.isSome) H2
def sDPut (td ty tv:TE):TS:=λ D σ H=>tv σ H λ v H1=>td σ H1 λ x H2=>ty σ H2 λ y H3=>∃a H4,x=.ref a/\DPut H3 a y v H4/\D.nx σ H4
section
variable {X:Cx}{o i e value:Expr}{pos pos' tpos:Pos}{td ty tv:TE}
end
def tDNewK:TE:=λ _ H Q=>∀p,H p=none->Q (.ref p) (upd H p (.dK []))
section
variable {X:Cx}{pos:Pos}
end
def mergeK (kvs more:List (Key × V)):List (Key × V):=more.foldl (λ acc kv=>putK acc kv.1 kv.2) kvs
structure M1 (X:Cx) (o:Expr) (m:Str) (apos:Pos) (e:Expr) (cpos:Pos):Prop where
 base:attributeBase o m X.env (eval o X.env)=eval o X.env
 few:((backTo cpos (starEach [e] X.env)).all (λ x=>!x.1) && (backToKw cpos (keywordEach [] X.env)).all (λ x=>x.1.isSome)
  && decide (([e]:List Expr).length+([]:List Keyword).length+(if ([]:List Keyword).isEmpty then 0 else 1) < 30))=true
 line:(apos.endLine == cpos.line)=true
 trees:backTo cpos (starEach [e] X.env)=[(false,eval e X.env)]
structure M2 (X:Cx) (o:Expr) (m:Str) (apos:Pos) (e f:Expr) (cpos:Pos):Prop where
 base:attributeBase o m X.env (eval o X.env)=eval o X.env
 few:((backTo cpos (starEach [e,f] X.env)).all (λ x=>!x.1) && (backToKw cpos (keywordEach [] X.env)).all (λ x=>x.1.isSome)
  && decide (([e,f]:List Expr).length+([]:List Keyword).length+(if ([]:List Keyword).isEmpty then 0 else 1) < 30))=true
 line:(apos.endLine == cpos.line)=true
 trees:backTo cpos (starEach [e,f] X.env)=[(false,eval e X.env),(false,eval f X.env)]
def IsD (H:Hp) (a:Addr):Prop:=(∃kvs,Rd H a (.dK kvs))\/∃kvs,Rd H a (.dT kvs)
section
variable {X:Cx}{pins:List (Addr × Obj)}{σ:St}{H:Hp}{s:Shared}{a:Addr}{y d:V}{u r:Value}{o:Option V}{A:Around}{E:Value->Shared->Prop}
end
def tDGet1 (td ty:TE):TE:=λ σ H Q=>td σ H λ x H1=>∃a,x=.ref a/\IsD H1 a/\ty σ H1 λ y H2=>∃o,DGet H2 a y o/\Q (o.getD .non) H2
section
variable {X:Cx}{o e f:Expr}{apos cpos:Pos}{td ty tx:TE}
end
section
variable {X:Cx}{pins:List (Addr × Obj)}{σ:St}{H:Hp}{s:Shared}{a:Addr}{kvs:List (Key × V)}{A:Around}{E:Value->Shared->Prop}
end
section
variable {X:Cx}{pins:List (Addr × Obj)}{σ:St}{H:Hp}{s:Shared}{a:Addr}{y:V}{u:Value}{A:Around}{E:Value->Shared->Prop}
end
section
variable {X:Cx}
end
section
variable {κ:Type} [DecidableEq κ]
end
def KTab (P:Program) (w:World) (K:W.Frag) (d:Addr) (kvs:List (Str × Addr)):Prop:=(d == sysModules)=false/\∀h:Heap,K.In h->h.DictOf (mixKind P w) d (kvs.map λ p=>((Sum.inr p.1:Key),Value.ref p.2))
def entT (pm:Params) (l:List (Str × Tok × Addr)):List DictEntry:=l.map λ p=>⟨PyData.keyHash pm p.1,.str p.1 p.2.1,.ref p.2.2⟩
theorem KTab.mk {P:Program}{w:World}{K:W.Frag}{d:Addr}{l:List (Str × Tok × Addr)}{es:Array DictEntry}{n:Nat}(hd:(d == sysModules)=false) (hl:K.lookup d=some { cls:=.type "dict",data:=.dict es n }) (he:es.toList=entT w.params l) (nd:(l.map (·.1)).Nodup) :
  KTab P w K d (l.map λ p=>(p.1,p.2.2)):=by
 refine ⟨hd,λ h KI=>⟨_,es,n,KI d _ hl,⟨rfl,rfl,rfl⟩,rfl,?_,?_,?_⟩⟩
 ·intro e hm
  have hm:e∈es.toList:=Array.mem_toList_iff.mpr hm
  rw [he] at hm
  obtain ⟨p,_,rfl⟩:=List.mem_map.mp hm
  exact ⟨Sum.inr p.1,z9v p.1 p.2.1,rfl⟩
 ·rw [he]
  clear he nd hl
  induction l with
  | nil=>exact .nil
  | cons p r ih=>exact .cons (z9v p.1 p.2.1) rfl ih
 ·rw [List.map_map,List.map_map]
  have e:((λ x:Key × Value=>x.1) ∘ (λ p:Str × Addr=>((Sum.inr p.1:Key),Value.ref p.2))) ∘ (λ p:Str × Tok × Addr=>(p.1,p.2.2))=(λ x:Str=>(Sum.inr x:Key)) ∘ λ p=>p.1:=rfl
  rw [← List.map_map] at *
  have z:(l.map λ p=>(Sum.inr p.1:Key)).Nodup:=by
   have:(l.map λ p=>(Sum.inr p.1:Key))=(l.map (·.1)).map (λ x:Str=>(Sum.inr x:Key)):=by rw [List.map_map];rfl
   rw [this]
   exact List.Pairwise.map _ (λ a b (h:a≠b) z=>h (Sum.inr.inj z)) nd
  simpa [List.map_map,Function.comp_def] using z
section
variable {X:Cx}
def rKTab (kvs:List (Str × Addr)):V->Hp->VK->Prop:=λ y H Q=>∃x a,y=.str x/\kvs.lookup x=some a/\Q (.ref a) H
def tKTab (kvs:List (Str × Addr)) (te:TE):TE:=λ σ H Q=>te σ H λ y H1=>rKTab kvs y H1 Q
def tKIn (kvs:List (Str × Addr)) (te:TE):TE:=λ σ H Q=>te σ H λ y H1=>∃x,y=.str x/\Q (.bl (kvs.lookup x).isSome) H1
end
def KTup (K:W.Frag) (a:Addr) (xs:List V):Prop:=∃(o:Obj) (its:Array Value) (n:Nat),K.lookup a=some o/\o.cls=.type "tuple" /\ o.data=.seq its n/\its.size≤sizeLine/\Vals xs its.toList
theorem KTup.sq {K:W.Frag}{a:Addr}{xs:List V}(h:KTup K a xs) {H:Hp}:SqT K H a xs:=.inr h
section
variable {pg:Program}{wd:World}{B:Around}{X0:Value->Shared->Prop}{s0:Shared}
end
def ItzM (K:W.Frag) (a b:Addr):It:=⟨λ i H=>∃xs ys x y,SqL K H a xs/\SqT K H b ys/\xs[i]?=some x/\ys[i]?=some y,
 λ i H v H'=>∃T x y,v=.ref T/\H T=none/\H'=upd H T (.tup [x,y])/\∀xs ys,SqL K H a xs->SqT K H b ys->xs[i]?=some x/\ys[i]?=some y,λ i H=>∃xs ys,SqL K H a xs/\SqT K H b ys/\(xs.length≤i\/ys.length≤i)⟩
section
variable {X:Cx}{es:List Expr}{x1:Nat}{pp:Pos}
def iZipM (K:W.Frag) (ta:TA):TI:=λ σ H R=>ta σ H λ vs H1=>∃a b xs ys,vs=[.ref a,.ref b]/\SqL K H1 a xs/\SqT K H1 b ys/\R (ItzM K a b) H1
end
def LoopZM (K:PySem.W.Frag) (g:TG) (tb:TS) (D:Ends) (σ:St) (vs:List V) (H1:Hp):Prop:=∃a b xs ys,vs=[.ref a,.ref b]/\SqL K H1 a xs/\SqT K H1 b ys/\∃W:Nat->Nat->St->Hp->Prop,(∃m,W 0 m σ H1)/\∀i m σ H,W i m σ H ->
 ((ItzM K a b).stop i H/\D.nx σ H)\/((ItzM K a b).go i H/\∃N:St->Hp->Prop,(∀σ' H',N σ' H'->∃m',m' < m/\W (i+1) m' σ' H')/\∀x H',(ItzM K a b).yld i H x H'->g x σ H' λ σ2 H2=>tb { D with nx:=N,ct:=N,bk:=D.nx } σ2 H2)
theorem x0o {K:W.Frag}{ta:TA}{g:TG}{tb:TS}{D:Ends}{σ:St}{H:Hp}:tFor (iZipM K ta) g tb D σ H=ta σ H λ vs H1=>LoopZM K g tb D σ vs H1:=rfl
theorem LoopZM.mk {K:W.Frag}{a b:Addr}{xs ys:List V}{g:TG}{tb:TS}{D:Ends}{σ:St}{H:Hp}(n:Nat) (hn:n=min xs.length ys.length) (h1:SqL K H a xs) (h2:SqT K H b ys) (Pv:Nat->St->Hp->Prop) (h0:Pv 0 σ H) (hl:∀i σ H,i≤n->Pv i σ H->SqL K H a xs/\SqT K H b ys)
  (hs:∀i x y σ H T,i < n->xs[i]?=some x->ys[i]?=some y->Pv i σ H->H T=none->g (.ref T) σ (upd H T (.tup [x,y])) λ σ2 H2=>tb { D with nx:=Pv (i+1),ct:=Pv (i+1),bk:=D.nx } σ2 H2) (hd:∀σ H,Pv n σ H->D.nx σ H) :
  LoopZM K g tb D σ [.ref a,.ref b] H:=by
 subst hn
 refine ⟨a,b,xs,ys,rfl,h1,h2,λ i m σ H=>m=min xs.length ys.length - i/\i≤min xs.length ys.length/\Pv i σ H,⟨_,rfl,Nat.zero_le _,h0⟩,?_⟩
 rintro i m σ H ⟨rfl,hi,p⟩
 obtain ⟨k1,k2⟩:=hl i σ H hi p
 by_cases hlt:i < min xs.length ys.length
 ·have l1:i < xs.length:=by omega
  have l2:i < ys.length:=by omega
  refine .inr ⟨⟨xs,ys,_,_,k1,k2,List.getElem?_eq_getElem l1,List.getElem?_eq_getElem l2⟩,Pv (i+1),λ σ' H' p'=>⟨min xs.length ys.length - (i+1),by omega,rfl,hlt,p'⟩,λ v H' yy=>?_⟩
  obtain ⟨T,x,y,rfl,hT,rfl,ex⟩:=yy
  obtain ⟨ex1,ex2⟩:=ex xs ys k1 k2
  exact hs i x y σ H T hlt ex1 ex2 p hT
 ·have e:i=min xs.length ys.length:=by omega
  exact .inl ⟨⟨xs,ys,k1,k2,by omega⟩,hd σ H (e ▸ p)⟩
def CompZM (K:PySem.W.Frag) (k:Nat) (js:List Nat) (g:TG) (te:TE) (σ:St) (vs:List V) (H1:Hp) (Q:VK):Prop:=∃a b xs ys,vs=[.ref a,.ref b]/\SqL K H1 a xs/\SqT K H1 b ys/\∃W:Nat->Nat->List V->St->Hp->Prop,(∃m,W 0 m [] (compSt k js σ) H1)/\∀i m zs σ' H',W i m zs σ' H' ->
  ((ItzM K a b).stop i H'/\∀p,H' p=none->Q (.ref p) (upd H' p (.lst zs))) \/
  ((ItzM K a b).go i H'/\zs.length < sizeLine/\∃N:List V->St->Hp->Prop,(∀zs σ2 H2,N zs σ2 H2->∃m',m' < m/\W (i+1) m' zs σ2 H2)/\∀x H2,(ItzM K a b).yld i H' x H2->g x σ' H2 λ σ3 H3=>te σ3 H3 λ v H4=>N (zs++[v]) σ3 H4)
theorem y8h {K:W.Frag}{k:Nat}{js:List Nat}{ta:TA}{g:TG}{te:TE}{σ:St}{H:Hp}{Q:VK}:tComp (iZipM K ta) k js g te σ H Q=ta σ H λ vs H1=>CompZM K k js g te σ vs H1 Q:=rfl
theorem CompZM.mk {K:W.Frag}{a b:Addr}{xs ys:List V}{k:Nat}{js:List Nat}{g:TG}{te:TE}{Q:VK}{σ:St}{H:Hp}(n:Nat) (hn:n=min xs.length ys.length) (h1:SqL K H a xs) (h2:SqT K H b ys) (Pv:Nat->List V->St->Hp->Prop) (h0:Pv 0 [] (compSt k js σ) H) (hl:∀i zs σ H,i≤n->Pv i zs σ H->SqL K H a xs/\SqT K H b ys)
  (hs:∀i x y zs σ H T,i < n->xs[i]?=some x->ys[i]?=some y->Pv i zs σ H->H T=none->zs.length < sizeLine/\g (.ref T) σ (upd H T (.tup [x,y])) λ σ3 H3=>te σ3 H3 λ v H4=>Pv (i+1) (zs++[v]) σ3 H4) (hz:∀zs σ H,Pv n zs σ H->∀p,H p=none->Q (.ref p) (upd H p (.lst zs))) (hlen:∀i zs σ H,Pv i zs σ H->zs.length < sizeLine) :
  CompZM K k js g te σ [.ref a,.ref b] H Q:=by
 subst hn
 refine ⟨a,b,xs,ys,rfl,h1,h2,λ i m zs σ H=>m=min xs.length ys.length - i/\i≤min xs.length ys.length/\Pv i zs σ H,⟨_,rfl,Nat.zero_le _,h0⟩,?_⟩
 rintro i m zs σ H ⟨rfl,hi,p⟩
 obtain ⟨k1,k2⟩:=hl i zs σ H hi p
 by_cases hlt:i < min xs.length ys.length
 ·have l1:i < xs.length:=by omega
  have l2:i < ys.length:=by omega
  refine .inr ⟨⟨xs,ys,_,_,k1,k2,List.getElem?_eq_getElem l1,List.getElem?_eq_getElem l2⟩,hlen _ _ _ _ p,Pv (i+1),λ zs' σ' H' p'=>⟨min xs.length ys.length - (i+1),by omega,rfl,hlt,p'⟩,λ v H' yy=>?_⟩
  obtain ⟨T,x,y,rfl,hT,rfl,ex⟩:=yy
  obtain ⟨ex1,ex2⟩:=ex xs ys k1 k2
  exact (hs i x y zs σ H T hlt ex1 ex2 p hT).2
 ·have e:i=min xs.length ys.length:=by omega
  exact .inl ⟨⟨xs,ys,k1,k2,by omega⟩,hz zs σ H (e ▸ p)⟩
def CompTI (K:PySem.W.Frag) (k:Nat) (js:List Nat) (g:TG) (tc:TT) (te:TE) (σ:St) (v:V) (H1:Hp) (Q:VK):Prop:=∃a,v=.ref a/\(∃xs,SqT K H1 a xs)/\∃W:Nat->Nat->List V->St->Hp->Prop,(∃m,W 0 m [] (compSt k js σ) H1)/\∀i m zs σ' H',W i m zs σ' H' ->
  ((Itt K a).stop i H'/\∀p,H' p=none->Q (.ref p) (upd H' p (.lst zs))) \/
  ((Itt K a).go i H'/\zs.length < sizeLine/\∃N:List V->St->Hp->Prop,(∀zs σ2 H2,N zs σ2 H2->∃m',m' < m/\W (i+1) m' zs σ2 H2)/\∀x H2,(Itt K a).yld i H' x H2->g x σ' H2 λ σ3 H3=>tc σ3 H3 λ b H4=>if b=true then te σ3 H4 λ v H5=>N (zs++[v]) σ3 H5 else N zs σ3 H4)
theorem y8k {K:W.Frag}{k:Nat}{js:List Nat}{tx:TE}{g:TG}{tc:TT}{te:TE}{σ:St}{H:Hp}{Q:VK}:tCompI (iTup K tx) k js g tc te σ H Q=tx σ H λ v H1=>CompTI K k js g tc te σ v H1 Q:=rfl
theorem CompTI.mk {K:W.Frag}{a:Addr}{xs:List V}{k:Nat}{js:List Nat}{g:TG}{tc:TT}{te:TE}{Q:VK}{σ:St}{H:Hp}(h1:SqT K H a xs) (Pv:Nat->List V->St->Hp->Prop) (h0:Pv 0 [] (compSt k js σ) H) (hl:∀i zs σ H,i≤xs.length->Pv i zs σ H->SqT K H a xs/\zs.length < sizeLine)
  (hs:∀i x zs σ H,xs[i]?=some x->Pv i zs σ H->g x σ H λ σ3 H3=>tc σ3 H3 λ b H4=>if b=true then te σ3 H4 λ v H5=>Pv (i+1) (zs++[v]) σ3 H5 else Pv (i+1) zs σ3 H4) (hz:∀zs σ H,Pv xs.length zs σ H->∀p,H p=none->Q (.ref p) (upd H p (.lst zs))) :
  CompTI K k js g tc te σ (.ref a) H Q:=by
 refine ⟨a,rfl,⟨xs,h1⟩,λ i m zs σ H=>m=xs.length - i/\i≤xs.length/\Pv i zs σ H,⟨_,rfl,Nat.zero_le _,h0⟩,?_⟩
 rintro i m zs σ H ⟨rfl,hi,p⟩
 obtain ⟨k1,k2⟩:=hl i zs σ H hi p
 by_cases hlt:i < xs.length
 ·refine .inr ⟨⟨xs,_,k1,List.getElem?_eq_getElem hlt⟩,k2,Pv (i+1),λ zs' σ' H' p'=>⟨xs.length - (i+1),by omega,rfl,hlt,p'⟩,λ v H' yy=>?_⟩
  obtain ⟨rfl,ex⟩:=yy
  exact hs i v zs σ _ (ex xs k1) p
 ·have e:i=xs.length:=by omega
  exact .inl ⟨⟨xs,k1,by omega⟩,hz zs σ H (e ▸ p)⟩
section
variable {X:Cx}
def rJoinD (K:W.Frag):V->List V->Hp->VK->Prop:=λ x xs H Q=>∃(z:Str) (l:Addr) (ys:List Str),x=.str z/\z.length=0/\xs=[.ref l]/\SqL K H l (ys.map V.str)/\ys.length≤100/\(∀y∈ys,okS 10 y)/\(okS 1000 (Builtin.Str.glued z ys)->Q (.str (Builtin.Str.glued z ys)) H)
end
theorem z3u {cells:List (Str × Addr)}{y z u:Str}{a b d:Addr}(h:cells.lookup y=some a) (h2:cells.lookup z=some b) (h3:cells.lookup u=some d):∀x c,[(y,a),(z,b),(u,d)].lookup x=some c->cells.lookup x=some c:=λ x c e=>by
 rcases List.mem_cons.mp (PySem.mem_of_lookup e) with q | q
 ·cases q;exact h
 ·rcases List.mem_cons.mp q with q | q
  ·cases q;exact h2
  ·cases List.mem_singleton.mp q;exact h3
structure FunD (K:W.Frag) (x qual:Str) (st:Stmt) (dV:Addr) (its:Array Value) (f:Addr) (fd:FuncData):Prop where
 ex:∃(oc:Value) (od:Option Addr) (kV doc pm:Value) (an:Option Addr) (cdv ct:Value) (osl:Array (Option Value)),
  fd=W.fnOf x qual (defArgs st) (defBody st) (defScope st) (.ref dV) kV doc pm an cdv ct/\K.lookup f=some ⟨oc,od,.func fd,osl⟩/\W.codeIn K cdv qual=true
 kp:W.keepIn K (.ref f)=true
 dt:∃(o:Obj) (n:Nat),K.lookup dV=some o/\o.data=.seq its n
section
variable {P:Program}{w:World}{K:W.Frag}{mg:Str->Option Value}{base:Heap}
theorem FunD.ok {x qual:Str}{st:Stmt}{dV:Addr}{its:Array Value}{f:Addr}{fd:FuncData}{N ps:List Str}{k:Nat}{sp:Sp}(F:FunD K x qual st dV its f fd) (S:FnScope N ps (defScope st)) (len:∀vs H Q E,sp vs H Q E->vs.length=ps.length)
  (hbody:∀(cdv:Value) (A:Around) (outer:List Env) (s:Shared) (H:Hp) (vs:List V) (Q:VK) (E:XK),Room k (A.deeper (envOfC qual (defScope st) s.heap.objs.size f cdv))->sp vs H Q E ->
   ∃t,PSs (cxOf CX0 P w K mg base N qual (defScope st) f cdv A outer s H E).nox (defBody st) t/\t { nx:=λ _ H'=>Q .non H',rt:=Q } (start N vs) H):FnOk P w K mg base CX0 (k+1) f fd ps sp:=by
 obtain ⟨oc,od,kV,doc,pm,an,cdv,ct,osl,rfl,lk,hcd⟩:=F.ex
 refine x0v lk hcd S len λ A outer s H vs Q E hr hsp=>?_
 obtain ⟨t,h,q⟩:=hbody cdv A outer s H vs Q E hr hsp
 exact ⟨t,h.nox,q⟩
theorem FunD.binds {x qual:Str}{st:Stmt}{dV:Addr}{its:Array Value}{f:Addr}{fd:FuncData}{ps:List Str}{ds:List Value}(F:FunD K x qual st dV its f fd)
  (h:∀(kV doc pm:Value) (an:Option Addr) (cdv ct:Value) (us:List Value),(us++ds).length=ps.length->∃k,bindArgs (W.fnOf x qual (defArgs st) (defBody st) (defScope st) (.ref dV) kV doc pm an cdv ct) ⟨us,[]⟩=seqItems? (.ref dV) >>= k/\k (some its)=pure (ps.zip (us++ds))):Binds K fd ps ds:=by
 obtain ⟨oc,od,kV,doc,pm,an,cdv,ct,osl,rfl,lk,hcd⟩:=F.ex
 obtain ⟨o,n,ho,hs⟩:=F.dt
 intro s us KI hl
 obtain ⟨k,h1,h2⟩:=h kV doc pm an cdv ct us hl
 exact .of_defaults (T:=dV) rfl (KI dV o ho) hs h1 h2
end
structure CalleeD (P:Program) (w:World) (K:W.Frag) (mg:Str->Option Value) (base:Heap) (CX:CXT) (k:Nat) (x:Str) (ps:List Str) (dvs:List V) (sp:Sp):Prop where
 has:∃(f:Addr) (fd:FuncData) (ds:List Value),FnOk P w K mg base CX k f fd ps sp/\mg x=some (.ref f)/\W.keepIn K (.ref f)=true/\Binds K fd ps ds/\Vals dvs ds
theorem CalleeD.mono {P:Program}{w:World}{K:W.Frag}{mg:Str->Option Value}{base:Heap}{CX:CXT}{j k:Nat}{x:Str}{ps:List Str}{dvs:List V}{sp:Sp}(c:CalleeD P w K mg base CX j x ps dvs sp) (h:j≤k):CalleeD P w K mg base CX k x ps dvs sp :=
 let ⟨f,fd,ds,ok,m,kp,b,v⟩:=c.has;⟨⟨f,fd,ds,ok.mono h,m,kp,b,v⟩⟩
section
variable {X:Cx}{CX:CXT}{k:Nat}{ps:List Str}{dvs:List V}{sp:Sp}{E:XK}{x:Str}{p pos:Pos}{e:Expr}{es:List Expr}{t:TA}
end
def totS (z:Str) (ys:List Str):Nat:=ys.foldl (λ (n:Nat) (y:Str)=>n+y.length+z.length) 0
section
variable {X:Cx}
def rJoinW (K:W.Frag):V->List V->Hp->VK->Prop:=λ x xs H Q=>∃(z:Str) (l:Addr) (ys:List Str),x=.str z/\xs=[.ref l]/\SqL K H l (ys.map V.str)/\totS z ys≤1000000/\Q (.str (Builtin.Str.glued z ys)) H
def rMulS:R2:=λ x y H Q=>∃a n,x=.str a/\y=.int n/\0≤n/\n≤100/\a.length≤10/\∀z:Str,z.length=a.length * n.toNat->Q (.str z) H
def rIxQ:R2:=λ x y H Q=>∃p xs i v,x=.ref p/\y=.int i/\(H p=some (.lst xs)\/H p=some (.tup xs))/\atI xs i=some v/\Q v H
theorem x3d:IxR X rIxQ:=by
 intro value slice pins s σ H x y v u Q I rx ry h hs
 obtain ⟨p,xs,i,z,e1,e2,hh | hh,ha,q⟩:=h
 ·exact z6e value slice pins s σ H x y v u Q I rx ry ⟨p,xs,i,z,e1,e2,hh,ha,q⟩ hs
 ·exact z0r value slice pins s σ H x y v u Q I rx ry ⟨p,xs,i,z,e1,e2,hh,ha,q⟩ hs
end
section
open PySem.Builtin PySem.Builtin.Str
def splitL (c:Nat):List Nat->List (List Nat)
 | []=>[[]]
 | d::r=>if d=c then []::splitL c r else match splitL c r with
  | []=>[[d]]
  | p::ps=>(d::p)::ps
def strL (L:List Nat):Str:=⟨L.toArray⟩
section
variable {X:Cx}
def rSplit:V->List V->Hp->VK->Prop:=λ x ys H Q=>∃(t:Str) (c:Nat),x=.str t/\ys=[.str ⟨#[c]⟩]/\c < 256/\t.length≤1000000/\∀l,H l=none->Q (.ref l) (upd H l (.lst ((splitL c t.cps.toList).map λ w=>V.str (strL w))))
end
end
section
variable {X:Cx}
def rInN:R2:=λ x y H Q=>∃p xs,x=.non/\y=.ref p/\H p=some (.lst xs)/\(∀z∈xs,flatV z=true\/∃a ys,z=.ref a/\H a=some (.tup ys))/\Q (.bl (xs.any λ z=>eqV z .non)) H
end
section
variable {pg:Program}{wd:World}{B:Around}{X0:Value->Shared->Prop}{s0:Shared}{J d:Addr}{m:Nat}{Pr:Nat->Value->Prop}{OK:Heap->Prop}
end
section
variable {X:Cx}
def rMulC:R2:=λ x y H Q=>∃a n,x=.str (strL a)/\y=.int n/\0≤n/\n≤100/\a.length≤10/\Q (.str (strL (List.replicate n.toNat a).flatten)) H
end
section
variable {pg:Program}{wd:World}{B:Around}{X0:Value->Shared->Prop}{z0:Shared}
end
section
variable {X:Cx}
def rExtendT:V->List V->Hp->VK->Prop:=λ x vs H Q=>∃l b xs zs,x=.ref l/\vs=[.ref b]/\H l=some (.lst xs)/\H b=some (.tup zs)/\xs.length+zs.length≤sizeLine/\Q .non (upd H l (.lst (xs++zs)))
def rUpdate:V->List V->Hp->VK->Prop:=λ x ys H Q=>∃a b kvs more,x=.ref a/\ys=[.ref b]/\a≠b/\H a=some (.dK kvs)/\H b=some (.dK more)/\kvs.length+more.length≤sizeLine/\Q .non (upd H a (.dK (mergeK kvs more)))
theorem y6e {es r:List Expr}{k:Nat}{pos:Pos}{te:TE}{t:TA}(h:PE X (.Tuple es k pos) te) (hr:PA X r t):PA X (.Tuple es k pos::r) (tCons te t):=z0a h hr rfl
end
def AlkV (H:Hp):Nat->V->V->Prop
 | 0,x,y=>flatV x=true/\x=y
 | d+1,x,y=>(flatV x=true/\x=y)\/∃(a b:Addr) (xs ys:List V),x=.ref a/\y=.ref b/\((H a=some (.lst xs)/\H b=some (.lst ys))\/(H a=some (.tup xs)/\H b=some (.tup ys)))/\xs.length=ys.length/\∀(i:Nat) z w,xs[i]?=some z->ys[i]?=some w->AlkV H d z w
theorem AlkV.same {H H':Hp}(s:Same H H'):∀ {d:Nat}{x y:V},AlkV H d x y->AlkV H' d x y
 | 0,_,_,h=>h
 | d+1,_,_,.inl h=>.inl h
 | d+1,_,_,.inr ⟨a,b,xs,ys,e1,e2,h,hl,q⟩=>.inr ⟨a,b,xs,ys,e1,e2,h.imp (λ z=>⟨s _ _ z.1,s _ _ z.2⟩) (λ z=>⟨s _ _ z.1,s _ _ z.2⟩),hl,λ i z w e1 e2=>(q i z w e1 e2).same s⟩
theorem AlkV.flat {H:Hp}{d:Nat}{x:V}(h:flatV x=true):AlkV H d x x:=by
 cases d with
 | zero=>exact ⟨h,rfl⟩
 | succ d=>exact .inl ⟨h,rfl⟩
theorem AlkV.lst {H:Hp}{d:Nat}{a b:Addr}{xs:List V}(h1:H a=some (.lst xs)) (h2:H b=some (.lst xs)) (f:xs.all flatV=true):AlkV H (d+1) (.ref a) (.ref b) :=
 .inr ⟨a,b,xs,xs,rfl,rfl,.inl ⟨h1,h2⟩,rfl,λ i z w e1 e2=>by
  rw [e1] at e2;cases e2
  exact .flat (List.all_eq_true.mp f _ (List.mem_of_getElem? e1))⟩
theorem AlkV.tup {H:Hp}{d:Nat}{a b:Addr}{xs:List V}(h1:H a=some (.tup xs)) (h2:H b=some (.tup xs)) (f:xs.all flatV=true):AlkV H (d+1) (.ref a) (.ref b) :=
 .inr ⟨a,b,xs,xs,rfl,rfl,.inr ⟨h1,h2⟩,rfl,λ i z w e1 e2=>by
  rw [e1] at e2;cases e2
  exact .flat (List.all_eq_true.mp f _ (List.mem_of_getElem? e1))⟩
section
variable {X:Cx}{pins:List (Addr × Obj)}{σ:St}{H:Hp}{s:Shared}
def rEqD:R2:=λ x y H Q=>(∃a,x=.ref a)/\AlkV H 9 x y/\Q (.bl true) H
def rNeD:R2:=λ x y H Q=>(∃a,x=.ref a)/\AlkV H 9 x y/\Q (.bl false) H
end
section
variable {X:Cx}
def iSeq (K:W.Frag) (tl:TE):TI:=λ σ H R=>tl σ H λ x H1=>(∃a,x=.ref a/\(∃xs,SqL K H1 a xs)/\R (Itl K a) H1)\/(∃a,x=.ref a/\(∃xs,SqT K H1 a xs)/\R (Itt K a) H1)
theorem x3k {K:W.Frag}{te:TE}{g:TG}{tb:TS}{D:Ends}{σ:St}{H:Hp}:tFor (iSeq K te) g tb D σ H=te σ H λ x H1=>LoopL K g tb D σ x H1\/LoopT K g tb D σ x H1:=rfl
theorem x1e {K:W.Frag}{k:Nat}{js:List Nat}{ti:TE}{g:TG}{te:TE}{σ:St}{H:Hp}{Q:VK}:tComp (iSeq K ti) k js g te σ H Q=ti σ H λ x H1=>CompL K k js g te σ x H1 Q\/CompT K k js g te σ x H1 Q:=rfl
end
def Itrl (K:W.Frag) (a:Addr) (n:Nat):It:=⟨λ i H=>∃xs,SqL K H a xs/\xs.length=n/\i < n,λ i H x H'=>H'=H/\∀xs,SqL K H a xs->xs[n - 1 - i]?=some x,λ i H=>∃xs,SqL K H a xs/\xs.length=n/\i=n⟩
section
variable {X:Cx}{tg:Expr}
def iRevL (K:W.Frag) (te:TE):TI:=λ σ H R=>te σ H λ x H1=>∃a xs,x=.ref a/\SqL K H1 a xs/\R (Itrl K a xs.length) H1
end
def LoopVL (K:PySem.W.Frag) (g:TG) (tb:TS) (D:Ends) (σ:St) (x:V) (H1:Hp):Prop:=∃a xs,x=.ref a/\SqL K H1 a xs/\∃W:Nat->Nat->St->Hp->Prop,(∃m,W 0 m σ H1)/\∀i m σ H,W i m σ H ->
 ((Itrl K a xs.length).stop i H/\D.nx σ H)\/((Itrl K a xs.length).go i H/\∃N:St->Hp->Prop,(∀σ' H',N σ' H'->∃m',m' < m/\W (i+1) m' σ' H')/\∀x H',(Itrl K a xs.length).yld i H x H'->g x σ H' λ σ2 H2=>tb { D with nx:=N,ct:=N,bk:=D.nx } σ2 H2)
theorem x0q {K:W.Frag}{te:TE}{g:TG}{tb:TS}{D:Ends}{σ:St}{H:Hp}:tFor (iRevL K te) g tb D σ H=te σ H λ x H1=>LoopVL K g tb D σ x H1:=rfl
theorem LoopVL.mk {K:W.Frag}{a:Addr}{xs:List V}{g:TG}{tb:TS}{D:Ends}{σ:St}{H:Hp}(hS:SqL K H a xs) (Pv:Nat->St->Hp->Prop) (h0:Pv 0 σ H) (hl:∀i σ H,i≤xs.length->Pv i σ H->SqL K H a xs)
  (hs:∀i x σ H,i < xs.length->xs[xs.length - 1 - i]?=some x->Pv i σ H->g x σ H λ σ2 H2=>tb { D with nx:=Pv (i+1),ct:=Pv (i+1),bk:=D.nx } σ2 H2) (hd:∀σ H,Pv xs.length σ H->D.nx σ H):LoopVL K g tb D σ (.ref a) H:=by
 refine ⟨a,xs,rfl,hS,λ i m σ H=>m=xs.length - i/\i≤xs.length/\Pv i σ H,⟨xs.length,by simp,Nat.zero_le _,h0⟩,?_⟩
 rintro i m σ H ⟨rfl,hi,p⟩
 have q:=hl i σ H hi p
 by_cases hlt:i < xs.length
 ·refine .inr ⟨⟨xs,q,rfl,hlt⟩,Pv (i+1),λ σ' H' p'=>⟨xs.length - (i+1),by omega,rfl,hlt,p'⟩,λ x H' y=>?_⟩
  obtain ⟨e,y⟩:=y
  subst e
  exact hs i x σ _ hlt (y xs q) p
 ·have e:i=xs.length:=by omega
  subst e
  exact .inl ⟨⟨xs,q,rfl,rfl⟩,hd σ H p⟩
end L2
namespace L2
open PySem PySem.Spec PyProof.Rows PySem.W PySem.Calls
theorem z2e:∀(names:List (Str × NameKind)) (n:Nat) (acc:List (Str × Addr)),cellsFrom n names acc=cellsFrom n names []++acc
 | [],_,_=>rfl
 | (x,k)::r,n,acc=>by
  unfold cellsFrom
  split
  ·rw [z2e r (n+1) ((x,n)::acc),z2e r (n+1) [(x,n)],List.append_assoc];rfl
  ·exact z2e r n acc
theorem z2n {α:Type}:∀ {a b:List (Str × α)}{x:Str},(a++b).lookup x=match a.lookup x with | some c=>some c | none=>b.lookup x
 | [],_,_=>rfl
 | (y,c)::a,b,x=>by
  rw [List.cons_append,List.lookup_cons,List.lookup_cons]
  cases x == y with
  | true=>rfl
  | false=>exact z2n
theorem z9t {α:Type}{y:Str}:∀ {cl:List (Str × α)}{q:Str × α},q∈cl->q.1=y->(cl.lookup y).isSome=true
 | a::r,q,hq,e=>by
  rw [List.lookup_cons]
  cases q0:y == a.1 with
  | true=>rfl
  | false =>
   rcases List.mem_cons.mp hq with z | z
   ·rw [← z,e,beq_self_eq_true] at q0;cases q0
   ·exact z9t z e
theorem y6y {α:Type}:∀ {cl:List (Str × α)}{q:Str × α},(cl.map (·.1)).Nodup->q∈cl->cl.lookup q.1=some q.2
 | a::r,q,nd,hq=>by
  rw [List.lookup_cons]
  rcases List.mem_cons.mp hq with z | z
  ·rw [← z,beq_self_eq_true]
  ·have na:=(List.nodup_cons.mp nd).1
   have:(q.1 == a.1)=false:=by
    cases q0:q.1 == a.1 with
    | false=>rfl
    | true=>exact absurd (List.mem_map.mpr ⟨q,z,eq_of_beq q0⟩) na
   rw [this]
   exact y6y (List.nodup_cons.mp nd).2 z
theorem z2h {x:Str}:∀ {names:List (Str × NameKind)}{n:Nat},(∀y∈names,y.2=.cell->y.1≠x)->(cellsFrom n names []).lookup x=none
 | [],_,_=>rfl
 | (y,k)::r,n,h=>by
  unfold cellsFrom
  split
  ·rename_i hk
   rw [z2e,z2n,z2h λ z hz=>h z (List.mem_cons_of_mem _ hz)]
   have hy:y≠x:=h (y,k) List.mem_cons_self (eq_of_beq hk)
   show List.lookup x [(y,n)]=none
   rw [List.lookup_cons]
   have:(x == y)=false:=by
    cases q:x == y with
    | false=>rfl
    | true=>exact absurd (eq_of_beq q).symm hy
   rw [this];rfl
  ·exact z2h λ z hz=>h z (List.mem_cons_of_mem _ hz)
section
variable {M:Model}{A:Around}{E:Value->Shared->Prop}{s₀ s:Shared}{m cm:Str->Option Value}{env:Env}{cs:List (Str × Addr)}
theorem x7m {n:Str}{v:Value}{Q:Unit->Shared->Prop}(x:InCallC s₀ env.locals m cs cm s) (hk:env.scope.kind=.function) (hl:env.kindOf n=some .local)
  (h:∀s',InCallC s₀ env.locals (λ y=>if y=n then some v else m y) cs cm s'->Q () s'):wpAny M A (storeName env n v) Q E s:=by
 refine wpAny_storeName_local hl x.toInCall.ns (λ h' hn' hs'=>h _ ⟨⟨?_,hn',λ b o e=>?_,x.toInCall.fresh⟩,λ k c hc=>?_,x.apart,x.above⟩) (by rw [hk];rfl)
 ·obtain ⟨h₁,tk,rfl⟩:=x.toInCall.same
  exact ⟨h',_,rfl⟩
 ·exact hs'.extBut b o (Nat.ne_of_lt (Nat.lt_of_lt_of_le (Heap.lt_size e) x.toInCall.fresh)) (x.toInCall.keep b o e)
 ·exact (x.cell k c hc).sameBut hs' (Nat.ne_of_gt (x.above k c (PySem.mem_of_lookup hc)))
theorem x7n {n:Str}{c:Addr}{v:Value}{Q:Unit->Shared->Prop}(x:InCallC s₀ env.locals m cs cm s) (hk:env.scope.kind=.function) (hl:env.kindOf n=some .cell)
  (hc:cs.lookup n=some c) (he:env.cells.lookup n=some c)
  (h:∀s',InCallC s₀ env.locals m cs (λ y=>if y=n then some v else cm y) s'->Q () s'):wpAny M A (storeName env n v) Q E s:=by
 have hLc:=x.above n c (PySem.mem_of_lookup hc)
 refine wpAny_storeName_cell hk hl he (x.cell n c hc) λ h' hc' hs'=>h _ ⟨⟨?_,x.toInCall.ns.sameBut hs' (Nat.ne_of_lt hLc),λ b o e=>?_,x.toInCall.fresh⟩,λ k c' hk'=>?_,x.apart,x.above⟩
 ·obtain ⟨h₁,tk,rfl⟩:=x.toInCall.same
  exact ⟨h',_,rfl⟩
 ·exact hs'.extBut b o (Nat.ne_of_lt (Nat.lt_trans (Nat.lt_of_lt_of_le (Heap.lt_size e) x.toInCall.fresh) hLc)) (x.toInCall.keep b o e)
 ·by_cases hkn:k=n
  ·subst hkn
   rw [hc] at hk';cases hk'
   simpa using hc'
  ·rw [if_neg hkn]
   exact (x.cell k c' hk').sameBut hs' λ e=>hkn (name_of_addr x.apart (PySem.mem_of_lookup hk') (e ▸ PySem.mem_of_lookup hc))
theorem z4o (f:Str × Value->PUnit->Sem (ForInStep PUnit)) (hf:∀n v u,f (n,v) u=(do storeName env n v;pure (.yield ⟨⟩))) (hk:env.scope.kind=.function) (hcs:∀n c,cs.lookup n=some c->env.cells.lookup n=some c) :
  ∀(binds:List (Str × Value)) (m cm:Str->Option Value) (s:Shared) (Q:PUnit->Shared->Prop),InCallC s₀ env.locals m cs cm s ->
   (∀x∈binds,env.kindOf x.1=some .local\/(env.kindOf x.1=some .cell/\(cs.lookup x.1).isSome=true)) ->
   (∀s',InCallC s₀ env.locals (bindL env.kindOf binds m) cs (bindC env.kindOf binds cm) s'->Q ⟨⟩ s')->wpAny M A (forIn binds ⟨⟩ f) Q E s
 | [],m,cm,s,Q,x,_,h=>by rw [List.forIn_nil];exact wpAny_pure (h s x)
 | (n,v)::r,m,cm,s,Q,x,hkind,h=>by
  rw [List.forIn_cons,hf]
  have hr:∀y∈r,env.kindOf y.1=some .local\/(env.kindOf y.1=some .cell/\(cs.lookup y.1).isSome=true):=λ y hy=>hkind y (List.mem_cons_of_mem _ hy)
  rcases hkind (n,v) List.mem_cons_self with hl | ⟨hl,hc⟩
  ·refine wpAny_bind (wpAny_bind (x7m x hk hl λ s' x'=>wpAny_pure (z4o f hf hk hcs r _ _ s' Q x' hr λ s'' x''=>h s'' ?_)))
   unfold bindL bindC;rw [if_pos hl,if_pos hl];exact x''
  ·obtain ⟨c,hc⟩:=Option.isSome_iff_exists.mp hc
   have hnl:¬env.kindOf n=some .local:=by rw [hl];decide
   refine wpAny_bind (wpAny_bind (x7n x hk hl hc (hcs n c hc) λ s' x'=>wpAny_pure (z4o f hf hk hcs r _ _ s' Q x' hr λ s'' x''=>h s'' ?_)))
   unfold bindL bindC;rw [if_neg hnl,if_neg hnl];exact x''
end
section
variable {M:Model}{A:Around}{E:Value->Shared->Prop}{s:Shared}
theorem z4q {scope:Scope}{globals:Addr}{cl:List (Str × Addr)}{binds:List (Str × Value)}{qual:Str}{func:Option Addr}{code:Value}{builtins:Addr}{Q:Env->Shared->Prop}
  (hk:scope.kind=.function)
  (hkind:∀x∈binds,scope.names.lookup x.1=some .local\/(scope.names.lookup x.1=some .cell/\((cellsFrom (s.heap.objs.size+1) scope.names []).lookup x.1).isSome=true))
  (hQ:∀env,env=newEnv scope s.heap.objs.size globals (cellsFrom (s.heap.objs.size+1) scope.names []++cl) qual func code none builtins ->
   ∀s',InCallC s env.locals (bindL env.kindOf binds λ _=>none) (cellsFrom (s.heap.objs.size+1) scope.names []) (bindC env.kindOf binds λ _=>none) s'->Q env s') :
  wpAny M A (newFunctionEnv scope globals cl binds qual func code none builtins) Q E s:=by
 simp only [newFunctionEnv,Option.isSome_none,Bool.false_eq_true,if_false]
 refine wpAny_bind (wpAny_alloc ?_)
 refine wpAny_bind (wpAny_layCells _ (λ name kind cells=>by cases hkc:kind == NameKind.cell<;>simp [hkc]) _ _ _ _ ?_)
 have ok:=cellsFrom_ok scope.names (s.heap.push { cls:=.type "frame",data:=.dict #[] }) (s.heap.objs.size+1) [] ⟨λ _ _ hm=>(nomatch hm),List.Pairwise.nil⟩ (by rw [Heap.size_push];exact Nat.le_refl _)
 rw [Heap.size_push] at ok
 rw [show ({ s with heap:=s.heap.push { cls:=.type "frame",data:=.dict #[] } }:Shared).heap.objs.size=s.heap.objs.size+1 from Heap.size_push ..]
 rw [z2e scope.names (s.heap.objs.size+1) cl]
 refine wpAny_bind (z4o (s₀:=s) (cs:=cellsFrom (s.heap.objs.size+1) scope.names []) (env:=newEnv scope s.heap.objs.size globals (cellsFrom (s.heap.objs.size+1) scope.names []++cl) qual func code none builtins)
  _ (λ _ _ _=>rfl) hk (λ n c hc=>by show List.lookup n (cellsFrom (s.heap.objs.size+1) scope.names []++cl)=some c;rw [z2n,hc]) binds (λ _=>none) (λ _=>none) _ _
  ⟨⟨⟨_,_,rfl⟩,(Heap.Ns.new s.heap (.type "frame")).keeps (pushCells_keeps _ _),λ b o e=>pushCells_keeps _ _ b o (Heap.get?_push_of_some _ e),Nat.le_refl _⟩,
   λ n c hc=>(ok.empty n c (PySem.mem_of_lookup hc)).1,ok.apart,λ n c hm=>(ok.empty n c hm).2⟩
  hkind λ s' x=>wpAny_pure (hQ _ rfl s' x))
end
def CelO (c:Addr) (v:V):HO:=.ext λ h=>∃u,RelV v u/\h.IsCell c (some u)
def CodO (c:Addr) (qual:Str):HO:=.ext λ h=>h.CodeRec (.ref c) qual
def LamO (fa c':Addr) (qual:Str) (params:Arguments) (body:Expr) (scope:Scope) (cl:List (Str × Addr)):HO:=.ext λ h=>∃pm ctv,h.get? fa=some (kla_obj "<lambda>" qual params body scope cl pm c' ctv)
structure CelAt (H:Hp) (cl:List (Str × Addr)) (vcs:List V):Prop where
 len:cl.length=vcs.length
 at_:∀(i:Nat) q,cl[i]?=some q->∃v o,vcs[i]?=some v/\H q.2=some (.frz o (CelO q.2 v))
 apart:cl.Pairwise λ x y=>x.2≠y.2
theorem CelAt.mem {H:Hp}{cl:List (Str × Addr)}{vcs:List V}(h:CelAt H cl vcs) {q:Str × Addr}(hq:q∈cl):∃o v,H q.2=some (.frz o (CelO q.2 v)):=by
 obtain ⟨i,e⟩:=List.mem_iff_getElem?.mp hq
 obtain ⟨v,o,_,e2⟩:=h.at_ i q e
 exact ⟨o,v,e2⟩
theorem CelAt.same {H H':Hp}{cl:List (Str × Addr)}{vcs:List V}(h:CelAt H cl vcs) (s:∀a o,H a=some o->H' a=some o):CelAt H' cl vcs :=
 ⟨h.len,λ i q e=>let ⟨v,o,e1,e2⟩:=h.at_ i q e;⟨v,o,e1,s _ _ e2⟩,h.apart⟩
open Classical in
noncomputable def minC (H:Hp) (cl:List (Str × Addr)):Hp:=λ b=>if ∃q∈cl,q.2=b then none else H b
open Classical in
noncomputable def resC (H H':Hp) (cl:List (Str × Addr)):Hp:=λ b=>if ∃q∈cl,q.2=b then H b else H' b
theorem z5r {H:Hp}{cl:List (Str × Addr)}{q:Str × Addr}(h:q∈cl):minC H cl q.2=none:=if_pos ⟨q,h,rfl⟩
theorem z1q {H:Hp}{cl:List (Str × Addr)}{b:Addr}(h:∀q∈cl,q.2≠b):minC H cl b=H b:=if_neg λ ⟨q,hq,e⟩=>h q hq e
theorem y6v {H:Hp}{cl:List (Str × Addr)}{b:Addr}{o:HO}(h:minC H cl b=some o):H b=some o/\∀q∈cl,q.2≠b:=by
 by_cases c:∃q∈cl,q.2=b
 ·rw [show minC H cl b=none from if_pos c] at h;cases h
 ·rw [show minC H cl b=H b from if_neg c] at h
  exact ⟨h,λ q hq e=>c ⟨q,hq,e⟩⟩
theorem z2d {H:Hp}{cl:List (Str × Addr)}{b:Addr}(h:H b=none):minC H cl b=none:=by
 by_cases c:∃q∈cl,q.2=b
 ·exact if_pos c
 ·rw [show minC H cl b=H b from if_neg c];exact h
theorem z3i {H H':Hp}{cl:List (Str × Addr)}{q:Str × Addr}(h:q∈cl):resC H H' cl q.2=H q.2:=if_pos ⟨q,h,rfl⟩
theorem z1u {H H':Hp}{cl:List (Str × Addr)}{b:Addr}(h:∀q∈cl,q.2≠b):resC H H' cl b=H' b:=if_neg λ ⟨q,hq,e⟩=>h q hq e
theorem HOk.minC {P:Program}{w:World}{H:Hp}{h:Heap}{cl:List (Str × Addr)}{vcs:List V}(x:HOk P w H h) (hc:CelAt H cl vcs):HOk P w (minC H cl) h:=λ b o e=>by
 obtain ⟨e1,_⟩:=y6v e
 have nf:∀c u,H c=some u->(∀ob v,u≠.frz ob v)->L2.minC H cl c=some u:=λ c u e2 n=>by
  rw [z1q λ q hq z=>?_]
  ·exact e2
  ·obtain ⟨ob,v,e3⟩:=hc.mem hq
   rw [z,e2] at e3
   exact n _ _ (Option.some.inj e3)
 exact (x b o e1).stay (λ _ _ _ q=>q) (λ c q=>nf c _ q λ _ _ z=>nomatch z) λ c xs q=>nf c _ q λ _ _ z=>nomatch z
structure LmScope (N ps fv:List Str) (sc:Scope):Prop where
 kind:sc.kind=.function
 co:sc.isCoroutine=false
 gen:sc.isGenerator=false
 nd:N.Nodup
 pre:N.take (ps++fv).length=ps++fv
 par:∀x∈ps,sc.names.lookup x=some .local\/sc.names.lookup x=some .cell
 fre:∀x∈fv,sc.names.lookup x=some .free
 has:∀y∈sc.names,y.2=.free->y.1∈fv
 own:∀x∈fv,∀y∈sc.names,y.2=.cell->y.1≠x
def cxLam (P:Program) (w:World) (K:W.Frag) (mg:Str->Option Value) (base:Heap) (N:List Str) (qual:Str) (scope:Scope) (f:Addr) (cd:Value) (cl:List (Str × Addr)) (A:Around) (outer:List Env) (s:Shared) (H:Hp):Cx where
 prog:=P
 w:=w
 K:=K
 mg:=mg
 base:=base
 A:=A.deeper (envX qual scope s.heap.objs.size f cd (cellsFrom (s.heap.objs.size+1) scope.names []++cl))
 N:=N
 s₀:=s
 H₀:=H
 env:=envX qual scope s.heap.objs.size f cd (cellsFrom (s.heap.objs.size+1) scope.names []++cl)
 outer:=outer
 stack:=envX qual scope s.heap.objs.size f cd (cellsFrom (s.heap.objs.size+1) scope.names []++cl)::outer
 ex:=[]
 calm:=true
 fn:=λ x=>decide (scope.names.lookup x=some .cell)
 pn:=[]
 xe:=λ _ _=>False
theorem y9h {N:List Str}{vs:List V}{i:Nat}{v:V}(h:(start N vs)[i]?=some (some v)):vs[i]?=some v:=by
 unfold start at h
 have hi:i < vs.length:=by
  by_cases hi:i < vs.length
  ·exact hi
  ·rw [List.getElem?_append_right (by simpa using hi),List.getElem?_replicate] at h
   split at h<;>cases h
 rw [List.getElem?_append_left (by simpa using hi),List.getElem?_map] at h
 cases e:vs[i]? with
 | none=>rw [e] at h;cases h
 | some a=>rw [e] at h;cases h;rfl
theorem y7k {P:Program}{w:World}{K:W.Frag}{mg:Str->Option Value}{base:Heap}{N ps fv:List Str}{qual:Str}{scope:Scope}{f:Addr}{cd:Value}{cl:List (Str × Addr)}{A:Around}{outer:List Env}{s s1:Shared}{H:Hp}{us:List Value}{vs vcs:List V}
  (S:LmScope N ps fv scope) (hd:A.handled=none) (e0:Env0 P w K mg base A outer s H) (hl:vs.length=ps.length) (r:Vals vs us) (hcl:cl.map (·.1)=fv) (hc:CelAt H cl vcs)
  (x:InCallC s s.heap.objs.size (bindL (λ x=>scope.names.lookup x) (ps.zip us) λ _=>none) (cellsFrom (s.heap.objs.size+1) scope.names []) (bindC (λ x=>scope.names.lookup x) (ps.zip us) λ _=>none) s1) :
  Inv (cxLam P w K mg base N qual scope f cd cl A outer s (minC H cl)) [] (start N (vs++vcs)) (minC H cl) s1:=by
 obtain ⟨h1,tk,rfl,hk⟩:=x.done
 have cll:cl.length=fv.length:=by rw [← hcl,List.length_map]
 have hpl:(ps++fv).length≤N.length:=by have:=congrArg List.length S.pre;rw [List.length_take] at this;omega
 have noA:∀b:Addr,b ∉ (cxLam P w K mg base N qual scope f cd cl A outer s (minC H cl)).ex:=λ b z=>absurd (show b∈([]:List Addr) from z) (by simp)
 have old:∀q∈cl,q.2 < s.heap.objs.size:=λ q hq=>by
  obtain ⟨o,v,e⟩:=hc.mem hq
  exact e0.hok.lt e
 have celv:∀(i:Nat) q,cl[i]?=some q->∃v u,vcs[i]?=some v/\RelV v u/\h1.IsCell q.2 (some u):=λ i q e=>by
  obtain ⟨v,o,e1,e2⟩:=hc.at_ i q e
  obtain ⟨_,⟨u,ru,ic⟩,_⟩:=e0.hok _ _ e2
  exact ⟨v,u,e1,ru,ic.keeps hk⟩
 have lk:∀y c,(cellsFrom (s.heap.objs.size+1) scope.names []++cl).lookup y=some c->(y,c)∈cellsFrom (s.heap.objs.size+1) scope.names []\/(y,c)∈cl:=λ y c e=>List.mem_append.mp (PySem.mem_of_lookup e)
 have abv:∀y c,(y,c)∈cellsFrom (s.heap.objs.size+1) scope.names []->s.heap.objs.size≤c:=λ y c e=>Nat.le_of_lt (x.above y c e)
 refine ⟨⟨e0.mod,S.kind,rfl,rfl,Nat.le_refl _,λ y z c h1 h2=>?_,λ y hy=>?_,λ y c hf h=>?_,λ _=>hd,Around.frames_deeper e0.frames,.inr ⟨rfl,rfl⟩,λ b z=>absurd z (noA b),λ b o e=>⟨(e0.bs b o e).1,z2d (e0.bs b o e).2⟩,e0.bsz,λ b _ _=>noA b,λ b z=>absurd z (noA b),e0.funs,λ b hb=>z2d (e0.frf b hb)⟩,
  rfl,e0.bare,Un.kept hk,⟨_,x.toInCall.ns,λ i y v h1 h2 h3=>?_⟩,λ y c h=>?_,(e0.hok.minC hc).fresh (Nat.le_refl _),λ y c h=>?_,λ p hp=>absurd (show p∈([]:List (Addr × Obj)) from hp) (by simp),(e0.hok.minC hc).kept hk,?_⟩
 ·rcases lk y c h1 with m1 | m1<;>rcases lk z c h2 with m2 | m2
  ·exact name_of_addr x.apart m1 m2
  ·exact absurd (abv y c m1) (Nat.not_le_of_lt (old _ m2))
  ·exact absurd (abv z c m2) (Nat.not_le_of_lt (old _ m1))
  ·exact name_of_addr hc.apart m1 m2
 ·have hy:scope.names.lookup y=some .cell\/scope.names.lookup y=some .free:=hy
  rcases hy with hy | hy
  ·obtain ⟨c,e⟩:=z5j (n:=s.heap.objs.size+1) hy
   exact ⟨c,by show List.lookup y (cellsFrom (s.heap.objs.size+1) scope.names []++cl)=some c;rw [z2n,e]⟩
  ·have hm:=S.has _ (PySem.mem_of_lookup hy) rfl
   have hm:y∈cl.map (·.1):=by rw [hcl];exact hm
   obtain ⟨q,hq,e⟩:=List.mem_map.mp hm
   have iss:(cl.lookup y).isSome=true:=z9t hq e
   obtain ⟨c,ec⟩:=Option.isSome_iff_exists.mp iss
   have e1:(cellsFrom (s.heap.objs.size+1) scope.names []).lookup y=none:=z2h (S.own y (by rw [← hcl];exact hm))
   exact ⟨c,by show List.lookup y (cellsFrom (s.heap.objs.size+1) scope.names []++cl)=some c;rw [z2n,e1];exact ec⟩
 ·have hf:scope.names.lookup y=some .cell:=of_decide_eq_true hf
  obtain ⟨c',e⟩:=z5j (n:=s.heap.objs.size+1) hf
  have h:List.lookup y (cellsFrom (s.heap.objs.size+1) scope.names []++cl)=some c:=h
  rw [z2n,e] at h
  cases h
  exact abv y _ (PySem.mem_of_lookup e)
 ·have ha:=y9h h2
  have hi:i < (vs++vcs).length:=(List.getElem?_eq_some_iff.mp ha).1
  have lv:(vs++vcs).length=(ps++fv).length:=by rw [List.length_append,List.length_append,hl,← hc.len,cll]
  have hp:(ps++fv)[i]?=some y:=by
   rw [← S.pre,List.getElem?_take_of_lt (by omega)];exact h1
  have ndA:(ps++fv).Nodup:=by rw [← S.pre];exact S.nd.sublist (List.take_sublist _ _)
  have ndP:ps.Nodup:=ndA.sublist (List.sublist_append_left _ _)
  by_cases hil:i < ps.length
  ·rw [List.getElem?_append_left (by omega)] at ha
   rw [List.getElem?_append_left hil] at hp
   obtain ⟨u,hu,rv⟩:=r.get ha
   refine ⟨u,rv,?_⟩
   rcases S.par y (List.mem_of_getElem? hp) with k | k
   ·exact .inl ⟨k,z7b ndP hp hu k⟩
   ·obtain ⟨c,e⟩:=z5j (n:=s.heap.objs.size+1) k
    refine .inr ⟨.inl k,c,by show List.lookup y (cellsFrom (s.heap.objs.size+1) scope.names []++cl)=some c;rw [z2n,e],?_⟩
    have q:=x.cell y c e
    rw [z7c ndP hp hu (by rw [k];decide)] at q
    exact q
  ·rw [List.getElem?_append_right (by omega),hl] at ha
   rw [List.getElem?_append_right (by omega)] at hp
   have hm:=List.mem_of_getElem? hp
   have hqc:(cl.map (·.1))[i - ps.length]?=some y:=by rw [hcl];exact hp
   rw [List.getElem?_map] at hqc
   obtain ⟨q,eq,e1⟩:∃q,cl[i - ps.length]?=some q/\q.1=y:=by
    cases z:cl[i - ps.length]? with
    | none=>rw [z] at hqc;cases hqc
    | some q=>rw [z] at hqc;exact ⟨q,rfl,Option.some.inj hqc⟩
   obtain ⟨v',u,e2,ru,ic⟩:=celv _ q eq
   rw [ha] at e2;cases e2
   have ndF:(cl.map (·.1)).Nodup:=by rw [hcl];exact ndA.sublist (List.sublist_append_right _ _)
   have lkq:cl.lookup y=some q.2:=by rw [← e1];exact y6y ndF (List.mem_of_getElem? eq)
   have own0:(cellsFrom (s.heap.objs.size+1) scope.names []).lookup y=none:=z2h (S.own y hm)
   exact ⟨u,ru,.inr ⟨.inr (S.fre y hm),q.2,by show List.lookup y (cellsFrom (s.heap.objs.size+1) scope.names []++cl)=some q.2;rw [z2n,own0];exact lkq,ic⟩⟩
 ·rcases lk y c h with m | m
  ·have h:List.lookup y (cellsFrom (s.heap.objs.size+1) scope.names []++cl)=some c:=h
   rw [z2n] at h
   cases e:(cellsFrom (s.heap.objs.size+1) scope.names []).lookup y with
   | some c2=>rw [e] at h;cases h;exact ⟨_,x.cell y _ e⟩
   | none =>
    rw [e] at h
    obtain ⟨i,ei⟩:=List.mem_iff_getElem?.mp (PySem.mem_of_lookup h)
    obtain ⟨v,u,_,_,ic⟩:=celv i _ ei
    exact ⟨_,ic⟩
  ·obtain ⟨i,ei⟩:=List.mem_iff_getElem?.mp m
   obtain ⟨v,u,_,_,ic⟩:=celv i _ ei
   exact ⟨_,ic⟩
 ·rcases lk y c h with m | m
  ·exact (e0.hok.minC hc).fresh (abv y c m)
  ·exact z5r m
 ·unfold start
  show _=N.length
  have lv:(vs++vcs).length=(ps++fv).length:=by rw [List.length_append,List.length_append,hl,← hc.len,cll]
  rw [List.length_append,List.length_map,List.length_replicate]
  omega
def CallV (P:Program) (w:World) (K:W.Frag) (mg:Str->Option Value) (base:Heap) (k:Nat) (fa:Addr) (vs:List V) (H:Hp) (Q:VK):Prop :=
 ∀(A:Around) (outer:List Env) (s:Shared) (us:List Value),Room k A->Env0 P w K mg base A outer s H->Vals vs us->codeAny (model P w) A (.call (.ref fa) ⟨us,[]⟩) (CR CX0 outer P w H s Q λ _ _ _=>False) s
theorem z6w {P:Program}{w:World}{K:W.Frag}{mg:Str->Option Value}{base:Heap}{k:Nat}{N ps fv:List Str}{fa c':Addr}{qual:Str}{params:Arguments}{body:Expr}{scope:Scope}{cl:List (Str × Addr)}{vs vcs:List V}{H:Hp}{Q:VK}{te:TE}
  (S:LmScope N ps fv scope) (hcl:cl.map (·.1)=fv)
  (hb:∀(pm ctv:Value) (us:List Value),us.length=ps.length->bindArgs (kla_fn "<lambda>" qual params body scope cl pm (.ref c') ctv) ⟨us,[]⟩=pure (ps.zip us)) (hl:vs.length=ps.length)
  (L1:H fa=some (LamO fa c' qual params body scope cl)) (L2:H c'=some (CodO c' qual)) (hc:CelAt H cl vcs)
  (hbody:∀(A:Around) (outer:List Env) (s:Shared),Room k (A.deeper (envX qual scope s.heap.objs.size fa (.ref c') (cellsFrom (s.heap.objs.size+1) scope.names []++cl)))->PE (cxLam P w K mg base N qual scope fa (.ref c') cl A outer s (minC H cl)) body te)
  (hq:te (start N (vs++vcs)) (minC H cl) (λ v H'=>Q v (resC H H' cl))):CallV P w K mg base (k+1) fa vs H Q:=by
 intro A outer s us hr e0 r
 obtain ⟨⟨pm,ctv,ho⟩,_⟩:=e0.hok fa _ L1
 obtain ⟨hcd,_⟩:=e0.hok c' _ L2
 have lim:s.heap.NoLimit:=e0.mod.nolimit.keeps λ b o e=>(e0.bs b o e).1
 have hkind:∀y∈ps.zip us,scope.names.lookup y.1=some .local\/(scope.names.lookup y.1=some .cell/\((cellsFrom (s.heap.objs.size+1) scope.names []).lookup y.1).isSome=true):=λ ⟨n,v⟩ hy=>by
  rcases S.par n (List.of_mem_zip hy).1 with q | q
  ·exact .inl q
  ·exact .inr ⟨q,W.cellsFrom_some _ _ _ (.inl q)⟩
 refine kla_callFunE hr.depth ho rfl S.co S.gen rfl hcd ?_
 rw [hb pm ctv us (by rw [← r.length];exact hl)]
 refine wpAny_pure (z4q S.kind hkind λ env he s1 x=>?_)
 subst he
 refine ⟨lim.keeps x.toInCall.keep,kla_codeExpr ?_⟩
 have I:Inv (cxLam P w K mg base N qual scope fa (.ref c') cl A outer s (minC H cl)) [] (start N (vs++vcs)) (minC H cl) s1:=y7k S hr.hd e0 hl r hcl hc x
 refine wpAny_mono (hbody A outer s (hr.deeper _) [] s1 _ _ _ I hq) (λ u s' hs=>?_) (λ e s' hs=>False.elim hs)
 obtain ⟨v,H',J,rv,q⟩:=hs
 have un:Un (frs outer) [] (minC H cl) H' s.heap s'.heap:=J.base
 have nfr:∀q∈cl,q.2 ∉ frs outer:=λ q hq z=>by
  obtain ⟨o,v,e⟩:=hc.mem hq
  rw [e0.frf _ z] at e;cases e
 have kc:∀q∈cl,∀o,s.heap.get? q.2=some o->s'.heap.get? q.2=some o/\H' q.2=none:=λ q hq o e=>⟨un.keep _ o e (z5r hq) (nfr q hq) (by simp),un.free _ o e (z5r hq) (by simp)⟩
 have there:∀q∈cl,∃o,s.heap.get? q.2=some o:=λ q hq=>by
  obtain ⟨o,v,e⟩:=hc.mem hq
  exact ⟨o,(e0.hok _ _ e).1⟩
 have split:∀b,(∃q∈cl,q.2=b)\/∀q∈cl,q.2≠b:=λ b=>by
  by_cases c:∃q∈cl,q.2=b
  ·exact .inl c
  ·exact .inr λ q hq e=>c ⟨q,hq,e⟩
 refine ⟨v,resC H H' cl,J.os,J.bare,⟨λ b o e n hb hx=>un.keep b o e (z2d n) hb hx,λ b o e n hb hx=>un.slot b o e (z2d n) hb hx,λ b o e n hx=>?_,un.there,λ b xs e=>?_,λ b o u e=>?_,λ b ps e=>?_⟩,λ b o e=>?_,rv,q⟩
 ·rcases split b with ⟨q,hq,rfl⟩ | hn
  ·rw [z3i hq];exact n
  ·rw [z1u hn];exact un.free b o e (z2d n) hx
 ·rcases split b with ⟨q,hq,rfl⟩ | hn
  ·rw [z3i hq];exact e
  ·rw [z1u hn];exact un.tups b xs (by rw [z1q hn];exact e)
 ·rcases split b with ⟨q,hq,rfl⟩ | hn
  ·rw [z3i hq];exact e
  ·rw [z1u hn];exact un.frzs b o u (by rw [z1q hn];exact e)
 ·rcases split b with ⟨q,hq,rfl⟩ | hn
  ·obtain ⟨o,v,e2⟩:=hc.mem hq
   rw [e] at e2;cases e2
  ·rw [z1u hn];exact un.tbls b ps (by rw [z1q hn];exact e)
 ·rcases split b with ⟨q,hq,rfl⟩ | hn
  ·rw [z3i hq] at e
   obtain ⟨o2,v2,e2⟩:=hc.mem hq
   rw [e] at e2
   cases e2
   obtain ⟨g1,⟨u2,ru,ic⟩,_,st⟩:=e0.hok _ _ e
   have k1:=(kc q hq _ g1).1
   refine ⟨k1,⟨u2,ru,?_⟩,⟨_,k1⟩,st⟩
   obtain ⟨o3,e3,d3⟩:=ic
   rw [g1] at e3;cases e3
   exact ⟨_,k1,d3⟩
  ·rw [z1u hn] at e
   have nf:∀c u,H' c=some u->resC H H' cl c=some u:=λ c u e2=>by
    rcases split c with ⟨q,hq,rfl⟩ | hn
    ·obtain ⟨o,eo⟩:=there q hq
     rw [(kc q hq o eo).2] at e2;cases e2
    ·rw [z1u hn];exact e2
   exact (J.hok b o e).stay (λ _ _ _ q=>q) (λ c q=>nf c _ q) λ c xs q=>nf c _ q
end L2
namespace L2
open PySem PySem.Spec PyProof.Rows PySem.W PySem.Calls
def FnV (H:Hp) (fa:Addr):Prop:=∃φ,H fa=some (.ext φ)/\∀h,φ h->FnAt fa h
theorem FnV.same {H H':Hp}{fa:Addr}(h:FnV H fa) (s:∀o,H fa=some o->H' fa=some o):FnV H' fa:=let ⟨φ,e,k⟩:=h;⟨φ,s _ e,k⟩
theorem FnV.lam {H:Hp}{fa c':Addr}{qual:Str}{params:Arguments}{body:Expr}{scope:Scope}{cl:List (Str × Addr)}(h:H fa=some (LamO fa c' qual params body scope cl)):FnV H fa:=⟨_,h,λ _ ⟨_,_,e⟩=>⟨_,_,_,_,e⟩⟩
def tCalV (P:Program) (w:World) (K:W.Frag) (mg:Str->Option Value) (base:Heap) (k i:Nat) (t:TA):TE:=λ σ H Q=>∃fa,σ[i]?=some (some (.ref fa))/\FnV H fa/\t σ H λ vs H1=>FnV H1 fa/\CallV P w K mg base k fa vs H1 Q
section
variable {X:Cx}{k:Nat}{x:Str}{p pos:Pos}{e:Expr}{es:List Expr}{t:TA}
theorem x2s {i:Nat}(hr:Room k X.A) (hN:X.N[i]?=some x) (hv:Vis X.env.scope x) (ha:PA X (e::es) t) (hd:(x == ("__debug__" : Str))=false:=by decide) (hcd:(x == ("__classdict__" : Str))=false:=by decide)
  (he:starEach (e::es) X.env=(false,eval e X.env)::starEach es X.env:=by rfl) (hpl:(backTo pos (starEach es X.env)).any (·.1)=false:=by rfl) :
  PE X (.Call (.Name x p) (e::es) [] pos) (tCalV X.prog X.w X.K X.mg X.base k i t):=by
 intro pins s σ H Q I h
 obtain ⟨fa,es',fn,h⟩:=h
 refine wpAny_Call_Name_kw (thn ((x1s (pos:=p) hN hv hd hcd) pins s σ H (λ v H1=>v=.ref fa/\H1=H) I ⟨_,es',rfl,rfl⟩) λ u s1 ⟨v,H1,I1,r1,e1,e2⟩=>?_)
 subst e1 e2
 cases r1
 have at1:∀ {H':Hp}{s':Shared},Inv X pins σ H' s'->FnV H' fa->FnAt fa s'.heap:=λ J ⟨φ,e,k⟩=>k _ (J.hok _ _ e).1
 refine callWith_F (at1 I1 fn) (thn (ha pos pins s1 σ _ _ I1 h) λ us s2 ⟨vs,H2,I2,r2,fn2,cv⟩=>⟨at1 I2 fn2,?_⟩) he hpl
 refine wpAny_call (codeAny_mono (cv X.A X.stack s2 us hr I2.env0 r2) λ r s' hq=>?_)
 cases r with
 | error e=>exact False.elim hq
 | ok fl =>
  cases fl with
  | ret u=>exact I2.after hq
  | next=>exact False.elim hq
  | brk=>exact False.elim hq
  | cont=>exact False.elim hq
end
def OwnCl (ec:List (Str × Addr)) (fv:List Str) (cl:List (Str × Addr)):Prop:=cl.map (·.1)=fv/\∀q∈cl,ec.lookup q.1=some q.2
theorem OwnCl.uniq {ec:List (Str × Addr)}:∀ {fv:List Str}{cl cl':List (Str × Addr)},OwnCl ec fv cl->OwnCl ec fv cl'->cl=cl'
 | [],[],[],_,_=>rfl
 | [],_::_,_,h,_=>by cases h.1
 | [],[],_::_,_,h=>by cases h.1
 | _::_,[],_,h,_=>by cases h.1
 | _::_,_::_,[],_,h=>by cases h.1
 | n::fv,(a,c)::cl,(b,d)::cl',h,h'=>by
  have e1:a=n:=(List.cons.inj h.1).1
  have e2:b=n:=(List.cons.inj h'.1).1
  subst e1 e2
  have l1:=h.2 (b,c) List.mem_cons_self
  have l2:=h'.2 (b,d) List.mem_cons_self
  rw [show ec.lookup b=some c from l1] at l2
  cases l2
  rw [OwnCl.uniq (fv:=fv) ⟨(List.cons.inj h.1).2,λ q hq=>h.2 q (List.mem_cons_of_mem _ hq)⟩ ⟨(List.cons.inj h'.1).2,λ q hq=>h'.2 q (List.mem_cons_of_mem _ hq)⟩]
def TabOk (H:Hp) (T:Addr) (pos:Pos) (qual:Str):Prop:=∃ps,H T=some (.tbl ps)/\TriplesOk ps.toList/\(codeAmong pos ps.toList=none\/∃c',codeAmong pos ps.toList=some (.ref c')/\H c'=some (CodO c' qual))
theorem TabOk.same {H H':Hp}{T:Addr}{pos:Pos}{qual:Str}(h:TabOk H T pos qual) (s:∀a o,H a=some o->H' a=some o):TabOk H' T pos qual:=by
 obtain ⟨ps,e,t,z⟩:=h
 exact ⟨ps,s _ _ e,t,z.imp id λ ⟨c',a,b⟩=>⟨c',a,s _ _ b⟩⟩
theorem z5v {a b:Int}{c:Value}(l:List Value) (h:TriplesOk l):TriplesOk (l++[rawInt a,rawInt b,c]):=by
 fun_induction TriplesOk l with
 | case1=>simp [TriplesOk,rawInt]
 | case2 i t j u v rest ih=>simpa [TriplesOk] using ih h
 | case3=>exact h.elim
structure TabF (base:Heap) (mg:Str->Option Value) (c T:Addr):Prop where
 hd:CodeHd base c T
 none_:base.get? T=none
 blt:∃bm o,mg "__builtins__" = some (.ref bm)/\bm≠builtinsNs/\bm≠mainGlobals/\bm≠T/\base.get? bm=some o/\o.cls=.type "module" /\ o.dict=some builtinsNs/\o.data=.plain
 ne:mainGlobals≠T
def tLam (ec:List (Str × Addr)) (fv:List Str) (T:Addr) (pos:Pos) (qual:Str) (params:Arguments) (body:Expr) (scope:Scope):TE:=λ _ H Q=>TabOk H T pos qual /\
 ∀fa c' cl H2,OwnCl ec fv cl->H fa=none->H2 fa=some (LamO fa c' qual params body scope cl)->H2 c'=some (CodO c' qual)->TabOk H2 T pos qual->(∀b o,b≠T->H b=some o->H2 b=some o)->Q (.ref fa) H2
theorem z2y {c:Addr}{qual:Str}{h1 h2:Heap}(x:h1.CodeRec (.ref c) qual) (k:∀o,h1.get? c=some o->h2.get? c=some o):h2.CodeRec (.ref c) qual:=by
 obtain ⟨c',o,vs,t,e,ho,r⟩:=x
 cases e
 exact ⟨c,o,vs,t,rfl,k _ ho,r⟩
section
variable {X:Cx}{params:Arguments}{body:Expr}{scope:Scope}{pos:Pos}{fv:List Str}{c T:Addr}{cl:List (Str × Addr)}
theorem z9o {qual:Str}(hq:X.env.qual ++ "<lambda>" = qual) (hcode:X.env.code=.ref c) (TF:TabF X.base X.mg c T) (hdef:defaultsOf params X.env=([],[])) (hcl:closureFor scope X.env=pure cl) (own:OwnCl X.env.cells fv cl) :
  PE X (.Lambda params body scope pos) (tLam X.env.cells fv T pos qual params body scope):=by
 intro pins s σ H Q I h
 obtain ⟨⟨ps,hT,ht,hz⟩,h⟩:=h
 subst hq
 have eT:s.heap.get? T=some (tabObj ps):=I.hok _ _ hT
 have hg:s.heap.Ns mainGlobals X.mg:=I.mod.glob.keeps I.bk
 obtain ⟨bm,ob,b1,b2,b3,b4,b5,b6⟩:=TF.blt
 have hb:s.heap.BuiltinsAt X.mg T:=⟨bm,ob,b1,b2,b3,b4,I.bk _ _ b5,b6⟩
 have C:CodeHd s.heap c T:=TF.hd.keeps I.bk
 refine kla_eval hdef ?_
 rcases hz with hnf | ⟨c',hf,hc'⟩
 ·refine kla_makeFunction hcl I.ok.glob hg hcode C eT ht hnf TF.ne hb λ c' ctv h' tk hx hge hlt hrec htb=>?_
  have hfa:H h'.objs.size=none:=I.hok.fresh (Nat.le_of_lt (Nat.lt_of_le_of_lt hge hlt))
  have hc0:H c'=none:=I.hok.fresh hge
  have nTc:c'≠T:=λ z=>by rw [z,hT] at hc0;cases hc0
  have nTf:h'.objs.size≠T:=λ z=>by rw [z,hT] at hfa;cases hfa
  have ncf:c'≠h'.objs.size:=Nat.ne_of_lt hlt
  have old:∀b o,b≠T->s.heap.get? b=some o->(h'.push (kla_obj "<lambda>" (X.env.qual ++ "<lambda>") params body scope cl ((X.mg "__name__").getD .none) c' ctv)).get? b=some o:=λ b o n e=>Heap.get?_push_of_some _ (hx b o n e)
  have eP:(h'.push (kla_obj "<lambda>" (X.env.qual ++ "<lambda>") params body scope cl ((X.mg "__name__").getD .none) c' ctv)).get? T=some (tabObj (ps++#[rawInt pos.line,rawInt pos.col,.ref c'])):=Heap.get?_push_of_some _ htb
  have eF:(h'.push (kla_obj "<lambda>" (X.env.qual ++ "<lambda>") params body scope cl ((X.mg "__name__").getD .none) c' ctv)).get? h'.objs.size=some (kla_obj "<lambda>" (X.env.qual ++ "<lambda>") params body scope cl ((X.mg "__name__").getD .none) c' ctv):=Heap.get?_push_size _ rfl
  have eC:(h'.push (kla_obj "<lambda>" (X.env.qual ++ "<lambda>") params body scope cl ((X.mg "__name__").getD .none) c' ctv)).CodeRec (.ref c') (X.env.qual ++ "<lambda>"):=z2y hrec λ o e=>Heap.get?_push_of_some _ e
  generalize h'.push (kla_obj "<lambda>" (X.env.qual ++ "<lambda>") params body scope cl ((X.mg "__name__").getD .none) c' ctv)=h2 at *
  generalize h'.objs.size=fa at *
  have lowT:∀b o,s.heap.get? b=some o->b≠c'/\(H b=none->b≠T):=λ b o e=>⟨Nat.ne_of_lt (Nat.lt_of_lt_of_le (Heap.lt_size e) hge),λ n z=>by rw [z,hT] at n;cases n⟩
  have lowF:∀b o,s.heap.get? b=some o->b≠fa:=λ b o e=>Nat.ne_of_lt (Nat.lt_trans (Nat.lt_of_lt_of_le (Heap.lt_size e) hge) hlt)
  have out:∀b,b≠T->b≠c'->b≠fa->upd (upd (upd H T (.tbl (ps++#[rawInt pos.line,rawInt pos.col,.ref c']))) c' (CodO c' (X.env.qual ++ "<lambda>"))) fa (LamO fa c' (X.env.qual ++ "<lambda>") params body scope cl) b=H b:=λ b n1 n2 n3=>by rw [z0p n3,z0p n2,z0p n1]
  have trk:∀b o,H b=some o->b≠c'/\b≠fa:=λ b o e=>⟨(λ z=>by rw [z,hc0] at e;cases e),(λ z=>by rw [z,hfa] at e;cases e)⟩
  have HT:upd (upd (upd H T (.tbl (ps++#[rawInt pos.line,rawInt pos.col,.ref c']))) c' (CodO c' (X.env.qual ++ "<lambda>"))) fa (LamO fa c' (X.env.qual ++ "<lambda>") params body scope cl) T=some (.tbl (ps++#[rawInt pos.line,rawInt pos.col,.ref c'])):=by rw [z0p nTf.symm,z0p nTc.symm,z0h]
  have HC:upd (upd (upd H T (.tbl (ps++#[rawInt pos.line,rawInt pos.col,.ref c']))) c' (CodO c' (X.env.qual ++ "<lambda>"))) fa (LamO fa c' (X.env.qual ++ "<lambda>") params body scope cl) c'=some (CodO c' (X.env.qual ++ "<lambda>")):=by rw [z0p ncf,z0h]
  have HF:upd (upd (upd H T (.tbl (ps++#[rawInt pos.line,rawInt pos.col,.ref c']))) c' (CodO c' (X.env.qual ++ "<lambda>"))) fa (LamO fa c' (X.env.qual ++ "<lambda>") params body scope cl) fa=some (LamO fa c' (X.env.qual ++ "<lambda>") params body scope cl):=z0h
  generalize upd (upd (upd H T (.tbl (ps++#[rawInt pos.line,rawInt pos.col,.ref c']))) c' (CodO c' (X.env.qual ++ "<lambda>"))) fa (LamO fa c' (X.env.qual ++ "<lambda>") params body scope cl)=H2 at *
  have same:∀b o,b≠T->H b=some o->H2 b=some o:=λ b o n e=>by rw [out b n (trk b o e).1 (trk b o e).2];exact e
  have un:Un X.fs [] H H2 s.heap h2:=⟨λ b o e n _ _=>old b o ((lowT b o e).2 n) e,λ b o e n _ _=>⟨o.slots,old b o ((lowT b o e).2 n) e⟩,λ b o e n _=>by rw [out b ((lowT b o e).2 n) (lowT b o e).1 (lowF b o e)];exact n,λ b o e _=>by
   by_cases z:b=T
   ·rw [z];exact ⟨_,eP⟩
   ·exact ⟨o,old b o z e⟩,λ b xs e=>same b _ (λ z=>by rw [z,hT] at e;cases e) e,λ b o u e=>same b _ (λ z=>by rw [z,hT] at e;cases e) e,λ b qs e=>by
   by_cases z:b=T
   ·subst z;rw [hT] at e;cases e;exact ⟨_,HT⟩
   ·exact ⟨#[],by rw [same b _ z e];simp⟩⟩
  have hok:HOk X.prog X.w H2 h2:=λ b o e=>by
   by_cases zf:b=fa
   ·subst zf;rw [HF] at e;cases e
    exact ⟨⟨_,_,eF⟩,⟨_,eF⟩,λ h1 h3 ⟨pm,cv,e1⟩ k=>⟨pm,cv,k _ e1⟩⟩
   ·by_cases zc:b=c'
    ·subst zc;rw [HC] at e;cases e
     obtain ⟨c2,o2,vs2,t2,e2,ho2,r2⟩:=id eC
     cases e2
     exact ⟨eC,⟨_,ho2⟩,λ h1 h3 x k=>z2y x k⟩
    ·by_cases zT:b=T
     ·subst zT;rw [HT] at e;cases e
      exact eP
     ·rw [out b zT zc zf] at e
      refine (I.hok b o e).stay (λ d u hd q=>old d u (λ z=>?_) q) (λ d q=>same d _ (λ z=>by rw [z,hT] at q;cases q) q) λ d xs q=>same d _ (λ z=>by rw [z,hT] at q;cases q) q
      rcases hd with hd | hd
      ·exact zT (hd.symm.trans z)
      ·rw [z,hT] at hd;cases hd
  exact ⟨.ref fa,H2,I.un un hok,rfl,h fa c' cl H2 own hfa HF HC ⟨_,HT,by simpa using z5v ps.toList ht,.inr ⟨c',by simpa using codeAmong_snoc ps.toList ht hnf,HC⟩⟩ same⟩
 ·refine kla_makeFunctionHit hcl I.ok.glob hg hcode C eT ht hf hb λ ctv h' tk hx hsz=>?_
  have hfa:H h'.objs.size=none:=I.hok.fresh hsz
  have same:∀b o,H b=some o->upd H h'.objs.size (LamO h'.objs.size c' (X.env.qual ++ "<lambda>") params body scope cl) b=some o:=λ b o e=>by rw [z0p (z1z e hfa)];exact e
  refine ⟨.ref h'.objs.size,upd H h'.objs.size (LamO h'.objs.size c' (X.env.qual ++ "<lambda>") params body scope cl),I.laid (t':=tk) (λ b u e=>Heap.get?_push_of_some _ (hx b u e)) hsz ?_,rfl,h _ c' cl _ own hfa z0h (same _ _ hc') ⟨ps,same _ _ hT,ht,.inr ⟨c',hf,same _ _ hc'⟩⟩ λ b o _ e=>same b o e⟩
  exact ⟨⟨_,_,Heap.get?_push_size _ rfl⟩,⟨_,Heap.get?_push_size _ rfl⟩,λ h1 h3 ⟨pm,cv,e1⟩ k=>⟨pm,cv,k _ e1⟩⟩
end
end L2
namespace L2
open PySem PySem.Spec PyProof.Rows PySem.W PySem.Calls
noncomputable def addC (h:Heap) (H:Hp):List (Str × Addr)->List V->Hp
 | q::cl,v::vs=>upd (addC h H cl vs) q.2 (.frz ((h.get? q.2).getD { cls:=.none,data:=.plain }) (CelO q.2 v))
 | _,_=>H
theorem y3c {h:Heap}{H:Hp}{b:Addr}:∀ {cl:List (Str × Addr)}{vs:List V},(∀q∈cl,q.2≠b)->addC h H cl vs b=H b
 | [],_,_=>rfl
 | _::_,[],_=>rfl
 | q::cl,v::vs,n=>by
  show upd _ _ _ b=_
  rw [z0p (Ne.symm (n q List.mem_cons_self))]
  exact y3c λ q' hq=>n q' (List.mem_cons_of_mem _ hq)
theorem y8z {h:Heap}{H:Hp}:∀ {cl:List (Str × Addr)}{vs:List V},(cl.Pairwise λ x y=>x.2≠y.2)->cl.length=vs.length->∀(i:Nat) q,cl[i]?=some q->∃v,vs[i]?=some v/\addC h H cl vs q.2=some (.frz ((h.get? q.2).getD { cls:=.none,data:=.plain }) (CelO q.2 v))
 | [],_,_,_,i,q,e=>by simp at e
 | _::_,[],_,l,_,_,_=>by simp at l
 | a::cl,v::vs,pw,l,0,q,e=>by
  cases (Option.some.inj e)
  exact ⟨v,rfl,z0h⟩
 | a::cl,v::vs,pw,l,i+1,q,e=>by
  have e:cl[i]?=some q:=by simpa using e
  obtain ⟨u,e1,e2⟩:=y8z (List.pairwise_cons.mp pw).2 (by simpa using l) i q e
  refine ⟨u,by simpa using e1,?_⟩
  show upd _ _ _ _=_
  rw [z0p (Ne.symm ((List.pairwise_cons.mp pw).1 q (List.mem_of_getElem? e)))]
  exact e2
def tCalF (ec:List (Str × Addr)) (fv:List Str) (js:List Nat) (sp:Sp) (t:TA):TE:=λ σ H Q=>t σ H λ vs H1=>∃vcs:List V,js.map (λ j=>σ[j]?)=vcs.map (λ v=>some (some v)) /\
 ∀cl H2,OwnCl ec fv cl->(∀q∈cl,H1 q.2=none)->CelAt H2 cl vcs->(∀b,(∀q∈cl,q.2≠b)->H2 b=H1 b)->sp vs H2 (λ v H'=>Q v (minC H' cl)) E0
section
variable {X:Cx}{k:Nat}{x:Str}{ps:List Str}{sp:Sp}{p pos:Pos}{e:Expr}{es:List Expr}{t:TA}{fv:List Str}{js:List Nat}{cl:List (Str × Addr)}
theorem z5p (c:Callee X.prog X.w X.K X.mg X.base CX0 k x ps sp) (hr:Room k X.A) (hg:Gl X x) (own:OwnCl X.env.cells fv cl) (hj:js.map (λ j=>X.N[j]?)=fv.map some) (hk:∀n∈fv,X.env.scope.names.lookup n=some .cell) (hf:∀n∈fv,X.fn n=true) (nd:fv.Nodup)
  (ha:PA X (e::es) t) (hdb:(x == ("__debug__" : Str))=false:=by decide)
  (he:starEach (e::es) X.env=(false,eval e X.env)::starEach es X.env:=by rfl) (hpl:(backTo pos (starEach es X.env)).any (·.1)=false:=by rfl) :
  PE X (.Call (.Name x p) (e::es) [] pos) (tCalF X.env.cells fv js sp t):=by
 obtain ⟨f,fd,F,hm,kp,hb⟩:=c.has
 intro pins s0 σ H0 Q I0 h
 refine wpAny_Call_Name_kw (z8y I0 hg hm ?_ hdb)
 refine W.callWith_K (h₀:=X.base) I0.ok.mod.kin kp (thn (ha pos pins s0 σ H0 _ I0 h) λ us s ⟨vs,H,I,r,vcs,hv,q⟩=>⟨I.kIn,?_⟩) he hpl
 have mfv:∀q∈cl,q.1∈fv:=λ q hq=>by rw [← own.1];exact List.mem_map.mpr ⟨q,hq,rfl⟩
 have free:∀q∈cl,H q.2=none:=λ q hq=>I.freeC q.1 q.2 (own.2 q hq)
 have apart:cl.Pairwise λ x y=>x.2≠y.2:=by
  have nd':(cl.map (·.1)).Nodup:=by rw [own.1];exact nd
  have ec:=own.2
  clear own mfv free
  induction cl with
  | nil=>exact .nil
  | cons a r ih =>
   refine List.pairwise_cons.mpr ⟨λ y hy z=>?_,ih (List.nodup_cons.mp nd').2 (λ q hq=>ec q (List.mem_cons_of_mem _ hq))⟩
   have:=I.ok.inj a.1 y.1 a.2 (ec a List.mem_cons_self) (by rw [z];exact ec y (List.mem_cons_of_mem _ hy))
   exact (List.nodup_cons.mp nd').1 (List.mem_map.mpr ⟨y,hy,this.symm⟩)
 have lf:js.length=fv.length:=by have:=congrArg List.length hj;simpa using this
 have lv:js.length=vcs.length:=by have:=congrArg List.length hv;simpa using this
 have lc:cl.length=fv.length:=by rw [← own.1,List.length_map]
 have l:cl.length=vcs.length:=by rw [lc,← lf,lv]
 have holds:∀(i:Nat) q,cl[i]?=some q->∃v u,vcs[i]?=some v/\RelV v u/\s.heap.IsCell q.2 (some u):=λ i q e=>by
  have il:i < cl.length:=(List.getElem?_eq_some_iff.mp e).1
  have ej:=List.getElem?_eq_getElem (l:=js) (i:=i) (by omega)
  have ev:=List.getElem?_eq_getElem (l:=vcs) (i:=i) (by omega)
  have en:X.N[js[i]'(by omega)]?=some q.1:=by
   have z:=congrArg (λ l=>l[i]?) hj
   simp only [List.getElem?_map,ej,Option.map_some] at z
   have y:fv[i]?=some q.1:=by rw [← own.1,List.getElem?_map,e];rfl
   rw [y] at z
   exact Option.some.inj z
  have eσ:σ[js[i]'(by omega)]?=some (some (vcs[i]'(by omega))):=by
   have z:=congrArg (λ l=>l[i]?) hv
   simp only [List.getElem?_map,ej,ev,Option.map_some] at z
   exact Option.some.inj z
  obtain ⟨m,_,lo⟩:=I.loc
  have kq:=hk q.1 (mfv q (List.mem_of_getElem? e))
  obtain ⟨u,ru,lk⟩:=lo _ _ _ en eσ (.inr (.inl kq))
  refine ⟨_,u,ev,ru,?_⟩
  rcases lk with ⟨k1,_⟩ | ⟨_,c,ec,ic⟩
  ·have k1:X.env.scope.names.lookup q.1=some .local:=k1
   rw [kq] at k1;cases k1
  ·rw [own.2 q (List.mem_of_getElem? e)] at ec
   cases ec;exact ic
 have hat:=y8z (h:=s.heap) (H:=H) apart l
 have hC:CelAt (addC s.heap H cl vcs) cl vcs:=⟨l,λ i q e=>let ⟨v,e1,e2⟩:=hat i q e;⟨v,_,e1,e2⟩,apart⟩
 have hout:∀b,(∀q∈cl,q.2≠b)->addC s.heap H cl vcs b=H b:=λ b n=>y3c n
 have split:∀b,(∃q∈cl,q.2=b)\/∀q∈cl,q.2≠b:=λ b=>by
  by_cases c:∃q∈cl,q.2=b
  ·exact .inl c
  ·exact .inr λ q hq e=>c ⟨q,hq,e⟩
 have gobj:∀q∈cl,∃o v,addC s.heap H cl vcs q.2=some (.frz o (CelO q.2 v))/\s.heap.get? q.2=some o/\∃u,RelV v u/\s.heap.IsCell q.2 (some u):=λ q hq=>by
  obtain ⟨i,e⟩:=List.mem_iff_getElem?.mp hq
  obtain ⟨v,e1,e2⟩:=hat i q e
  obtain ⟨v',u,e3,ru,ic⟩:=holds i q e
  rw [e1] at e3;cases e3
  obtain ⟨o,eo,d⟩:=id ic
  rw [eo] at e2
  exact ⟨o,v,e2,eo,u,ru,ic⟩
 have trk:∀b o,H b=some o->addC s.heap H cl vcs b=some o:=λ b o e=>by
  rw [hout b λ q hq z=>by rw [← z,free q hq] at e;cases e];exact e
 have hok:HOk X.prog X.w (addC s.heap H cl vcs) s.heap:=λ b o e=>by
  rcases split b with ⟨q,hq,rfl⟩ | hn
  ·obtain ⟨o',v,e1,eo,u,ru,ic⟩:=gobj q hq
   rw [e1] at e;cases e
   exact ⟨eo,⟨u,ru,ic⟩,⟨_,eo⟩,λ h1 h2 ⟨u,ru,o2,e2,d2⟩ k=>⟨u,ru,o2,k _ e2,d2⟩⟩
  ·rw [hout b hn] at e
   exact (I.hok b o e).stay (λ _ _ _ z=>z) (λ d z=>trk d _ z) λ d xs z=>trk d _ z
 have abv:∀q∈cl,X.s₀.heap.objs.size≤q.2:=λ q hq=>I.ok.cab q.1 q.2 (hf q.1 (mfv q hq)) (own.2 q hq)
 have nfr:∀b∈frs X.stack,∀q∈cl,q.2≠b:=λ b hb q hq z=>by
  rcases List.mem_cons.mp (I.stkSub b hb) with y | y
  ·exact I.cne q.1 q.2 (own.2 q hq) (z.trans y)
  ·obtain ⟨_,o,eo,_⟩:=I.ok.funs.mem y
   have:=Heap.lt_size eo
   rw [← z] at this
   exact absurd this (Nat.not_lt_of_le (abv q hq))
 have e0:Env0 X.prog X.w X.K X.mg X.base X.A X.stack s (addC s.heap H cl vcs):=by
  have b0:=I.env0
  refine ⟨b0.frames,b0.mod,λ b o e=>⟨(b0.bs b o e).1,?_⟩,b0.bsz,b0.funs,λ b hb=>?_,hok,b0.bare⟩
  ·rw [hout b λ q hq z=>?_]
   ·exact (b0.bs b o e).2
   ·have:=Heap.lt_size e
    rw [← z] at this
    exact absurd (Nat.lt_of_lt_of_le this I.ok.bsz) (Nat.not_lt_of_le (abv q hq))
  ·rw [hout b (nfr b hb)];exact b0.frf b hb
 have hl:us.length=ps.length:=by rw [← r.length];exact F.len _ _ _ _ (q cl _ own free hC hout)
 have hb':=hb s us I.kIn (by simpa using hl)
 rw [List.append_nil] at hb'
 refine wpAny_call (codeAny_mono (F.run X.A X.stack s (addC s.heap H cl vcs) ⟨us,[]⟩ us vs _ E0 hr e0 hb' r (q cl _ own free hC hout)) λ r s' hq=>?_)
 cases r with
 | error e=>exact False.elim hq
 | ok fl =>
  cases fl with
  | next=>exact False.elim hq
  | brk=>exact False.elim hq
  | cont=>exact False.elim hq
  | ret u =>
   obtain ⟨v,H',os,bare,un,hok',rv,q'⟩:=hq
   have hC':CelAt H' cl vcs:=⟨l,λ i q e=>let ⟨v,o,e1,e2⟩:=hC.at_ i q e;⟨v,o,e1,un.frzs _ _ _ e2⟩,apart⟩
   obtain ⟨hh,gg,dd,tt,os'⟩:=s'
   obtain rfl:os'=s.os:=os
   have un2:Un (frs X.stack) [] H (minC H' cl) s.heap hh:=by
    refine ⟨λ b o e n hb hx=>?_,λ b o e n hb hx=>?_,λ b o e n hx=>?_,un.there,λ b xs e=>?_,λ b o u e=>?_,λ b qs e=>?_⟩
    ·rcases split b with ⟨q,hq,rfl⟩ | hn
     ·obtain ⟨o',v',e1,eo,_⟩:=gobj q hq
      rw [e] at eo;cases eo
      exact (hok' _ _ (un.frzs _ _ _ e1)).1
     ·exact un.keep b o e (by rw [hout b hn];exact n) hb hx
    ·exact un.slot b o e (by rw [hout b (nfr b hb)];exact n) hb hx
    ·rcases split b with ⟨q,hq,rfl⟩ | hn
     ·exact z5r hq
     ·exact z2d (un.free b o e (by rw [hout b hn];exact n) hx)
    ·have hn:∀q∈cl,q.2≠b:=λ q hq z=>by rw [← z,free q hq] at e;cases e
     rw [z1q hn];exact un.tups b xs (trk b _ e)
    ·have hn:∀q∈cl,q.2≠b:=λ q hq z=>by rw [← z,free q hq] at e;cases e
     rw [z1q hn];exact un.frzs b o u (trk b _ e)
    ·have hn:∀q∈cl,q.2≠b:=λ q hq z=>by rw [← z,free q hq] at e;cases e
     rw [z1q hn];exact un.tbls b qs (trk b _ e)
   exact ⟨v,minC H' cl,I.call (h':=hh) (g':=gg) (d':=dd) (t':=tt) (ch:=[]) un2 (hok'.minC hC') bare (λ b z=>absurd z (by simp)),rv,q'⟩
end
theorem Fun.okTX {P:Program}{w:World}{K:W.Frag}{mg:Str->Option Value}{base:Heap}{x qual:Str}{st:Stmt}{f c:Addr}{fd:FuncData}{N ps:List Str}{k:Nat}{sp:Sp}(F:Fun K x qual st f fd) (hcd:fd.code=.ref c) (S:FnScope N ps (defScope st)) (len:∀vs H Q E,sp vs H Q E->vs.length=ps.length)
  (hbody:∀(A:Around) (outer:List Env) (s:Shared) (H:Hp) (vs:List V) (Q:VK) (E:XK),Room k (A.deeper (envOfC qual (defScope st) s.heap.objs.size f (.ref c)))->sp vs H Q E ->
   ∃t,PSs (cxOf (CX1 P w) P w K mg base N qual (defScope st) f (.ref c) A outer s H E) (defBody st) t/\t { nx:=λ _ H'=>Q .non H',rt:=Q } (start N vs) H):FnOk P w K mg base (CX1 P w) (k+1) f fd ps sp:=by
 obtain ⟨oc,od,kV,doc,pm,an,cdv,ct,osl,rfl,lk,hc⟩:=F.ex
 obtain rfl:cdv=.ref c:=hcd
 exact x0v lk hc S len λ A outer s H vs Q E hr hsp=>hbody A outer s H vs Q E hr hsp
end L2
namespace L2
open PySem PySem.Spec PyProof.Rows PySem.W PySem.Calls
theorem y7e {P:Program}{w:World}{K:W.Frag}{mg mb:Str->Option Value}{CX:CXT}{k:Nat}{fa a:Addr}{fd:FuncData}{x:Str}{sp:Sp}{s₁:Shared}{vs:List Value}{ns:List Int}(tbs:List (Addr × Addr))
  (hT:TabsAt tbs s₁.heap) (hK0:noTabs K=true) (hbm:∃bm ob,mg "__builtins__" = some (.ref bm)/\bm≠builtinsNs/\s₁.heap.get? bm=some ob/\ob.cls=.type "module" /\ ob.dict=some builtinsNs/\ob.data=.plain)
  (KX:K.In s₁.heap) (hns:s₁.heap.Ns mainGlobals mg) (hb:s₁.heap.Ns builtinsNs mb) (hbb:∀x:Str,x ≠ "__name__" -> mb x=bootBuiltins x) (hlim:s₁.heap.NoLimit) (hg:s₁.gens=#[])
  (ha:s₁.heap.get? a=some { cls:=.type "list",data:=.seq vs.toArray }) (hi:IntsAre vs ns) (hl:ns.length≤sizeLine) (hr:Room k callerA)
  (F:∀base:Heap,K.In base->base.Ns mainGlobals mg->(∀q∈tbs,TabF base mg q.1 q.2)->FnOk P w K mg base CX k fa fd [x] sp) (hbind:∀(s:Shared) (u:Value),BindsTo s fd ⟨[u],[]⟩ [(x,u)])
  (hsp:∀H:Hp,(∀q∈tbs,H q.2=some (.tbl #[]))->SqL K H a (ns.map V.int)->sp [.ref a] H (λ v _=>v=.bl true) λ _ _ _=>False)
  (hCX:∀H e s',CX [] H s₁ (λ _ _ _=>False) e s'->False) :
  codeAny (model P w) callerA (.call (.ref fa) ⟨[.ref a],[]⟩) (λ r s'=>r=.ok (.ret (.bool true))/\OldK s₁.heap s'.heap/\s'.os=s₁.os/\AllBare s'.gens) s₁:=by
 have rv:=z6k hi
 have lenV:=hi.length
 have tab:∀q∈tbs,s₁.heap.get? q.2=some (tabObj #[]):=λ q hq=>(hT q hq).2
 have naT:∀q∈tbs,q.2≠a:=λ q hq z=>by
  have e:=tab q hq
  rw [z,ha] at e;cases e
 have kT:∀q∈tbs,K.lookup q.2=none:=λ q hq=>by
  cases e:K.lookup q.2 with
  | none=>rfl
  | some o =>
   have e1:=KX _ _ e
   rw [tab q hq] at e1
   have h2:=List.all_eq_true.mp hK0 (q.2,o) (mem_of_lookupK e)
   cases e1
   exact absurd (show false=true from h2) Bool.false_ne_true
 have core:∀H:Hp,(∀q∈tbs,H q.2=some (.tbl #[]))->(∀b,H b=none\/(∃o xs,H b=some (.frz o (.lst xs)))\/∃q∈tbs,q.2=b)->SqL K H a (ns.map V.int)->HOk P w H s₁.heap->(∀b,H b≠none->b=a\/∃q∈tbs,q.2=b)->(H a≠none->K.lookup a=none) ->
   codeAny (model P w) callerA (.call (.ref fa) ⟨[.ref a],[]⟩) (λ r s'=>r=.ok (.ret (.bool true))/\OldK s₁.heap s'.heap/\s'.os=s₁.os/\AllBare s'.gens) s₁:=by
  intro H hH hO hS hok hA hK
  have base_of:∀ {b:Addr}{o:Obj},s₁.heap.get? b=some o->H b=none->(hidT s₁.heap H).get? b=some o:=λ e n=>x0j e n
  have noA:∀ {b:Addr}{o:Obj},s₁.heap.get? b=some o->o≠{ cls:=.type "list",data:=.seq vs.toArray }->o≠tabObj #[]->H b=none:=λ {b o} e n1 n2=>by
   cases q:H b with
   | none=>rfl
   | some u =>
    rcases hA b (by rw [q];simp) with z | ⟨p,hp,z⟩
    ·subst z;rw [ha] at e;cases e;exact absurd rfl n1
    ·subst z;rw [tab p hp] at e;cases e;exact absurd rfl n2
  have nsK:∀ {b:Addr}{m:Str->Option Value},s₁.heap.Ns b m->(hidT s₁.heap H).Ns b m:=λ {b m} ⟨o,es,ep,e,d,r⟩=>⟨o,es,ep,base_of e (noA e (λ z=>by rw [z] at d;cases d) (λ z=>by rw [z] at d;cases d)),d,r⟩
  have hKb:K.In (hidT s₁.heap H):=λ b o e=>base_of (KX b o e) (by
   cases q:H b with
   | none=>rfl
   | some u =>
    rcases hA b (by rw [q];simp) with z | ⟨p,hp,z⟩
    ·subst z;rw [hK (by rw [q];simp)] at e;cases e
    ·subst z;rw [kT p hp] at e;cases e)
  have hM:Mod K mg (hidT s₁.heap H):=⟨hKb,nsK hns,⟨mb,nsK hb,hbb⟩,let ⟨mc,h1,h2⟩:=hlim;⟨mc,nsK h1,h2⟩⟩
  have e0:Env0 P w K mg (hidT s₁.heap H) callerA [] s₁ H:=⟨rfl,hM,λ b o e=>y6r e,Nat.le_of_eq (y7m _ _),trivial,λ b hb=>absurd (show b∈([]:List Addr) from hb) (by simp),hok,.of_eq hg⟩
  have tf:∀q∈tbs,TabF (hidT s₁.heap H) mg q.1 q.2:=λ q hq=>by
   obtain ⟨o,vs',file,tf,flags,tg,inF,text,tt,e1,r1,r2⟩:=(hT q hq).1
   obtain ⟨bm,ob,b1,b2,b3,b4,b5,b6⟩:=hbm
   have bmT:bm≠q.2:=λ z=>by rw [z,tab q hq] at b3;cases b3;cases b4
   have bmG:bm≠mainGlobals:=λ z=>by
    obtain ⟨o,es,ep,e,d,_⟩:=hns
    rw [← z,b3] at e;cases e;rw [b6] at d;cases d
   have gT:mainGlobals≠q.2:=λ z=>by
    obtain ⟨o,es,ep,e,d,_⟩:=hns
    rw [z,tab q hq] at e;cases e;cases d
   refine ⟨⟨o,vs',file,tf,flags,tg,inF,text,tt,base_of e1 (noA e1 (λ z=>by rw [z] at r1;exact absurd (show Value.type "list" = Value.type "code" from r1) (by decide)) (λ z=>by rw [z] at r1;cases r1)),r1,r2⟩,?_,⟨bm,ob,b1,b2,bmG,bmT,base_of b3 (noA b3 (λ z=>by rw [z] at b4;exact absurd (show Value.type "list" = Value.type "module" from b4) (by decide)) (λ z=>by rw [z] at b4;cases b4)),b4,b5,b6⟩,gT⟩
   cases e:(hidT s₁.heap H).get? q.2 with
   | none=>rfl
   | some o=>have:=(y6r e).2;rw [hH q hq] at this;cases this
  refine codeAny_mono ((F _ hKb (nsK hns) tf).run callerA [] s₁ H ⟨[.ref a],[]⟩ [.ref a] [.ref a] _ _ hr e0 (hbind s₁ (.ref a)) (.cons rfl .nil) (hsp H hH hS)) λ r s' h=>?_
  cases r with
  | error e=>exact (hCX H e s' h).elim
  | ok fl =>
   cases fl with
   | next=>exact False.elim h
   | brk=>exact False.elim h
   | cont=>exact False.elim h
   | ret u =>
    obtain ⟨v,H',os,bare,un,hok',r',q⟩:=h
    have q':v=.bl true:=q
    subst q'
    obtain rfl:u=Value.bool true:=r'
    refine ⟨rfl,⟨λ b o e=>?_,λ b o e=>un.there b o e (by simp)⟩,os,bare⟩
    rcases hO b with z | ⟨ob,xs,z⟩ | ⟨p,hp,z⟩
    ·exact .inl (un.keep b o e z (by intro z;exact absurd (show b∈([]:List Addr) from z) (by simp)) (by simp))
    ·have z2:=un.frzs b ob _ z
     obtain ⟨e1,_⟩:=hok b _ z
     obtain ⟨e2,_⟩:=hok' b _ z2
     rw [e] at e1;cases e1
     exact .inl e2
    ·subst z
     obtain ⟨more,z2⟩:=un.tbls p.2 #[] (hH p hp)
     have e2:s'.heap.get? p.2=some (tabObj (#[]++more)):=hok' _ _ z2
     have e1:=tab p hp
     rw [e] at e1;cases e1
     obtain ⟨o,vs',file,tf,flags,tg,inF,text,tt,c1,c2,c3,c4,_⟩:=(hT p hp).1
     exact .inr (.inl ⟨⟨p.1,o,vs',c1,c2,c3,c4⟩,rfl,#[],more,rfl,e2⟩)
 have withT:∀H:Hp,(∀b,H b=none\/∃o xs,H b=some (.frz o (.lst xs)))->SqL K H a (ns.map V.int)->HOk P w H s₁.heap->(∀b,H b≠none->b=a)->(H a≠none->K.lookup a=none) ->
   codeAny (model P w) callerA (.call (.ref fa) ⟨[.ref a],[]⟩) (λ r s'=>r=.ok (.ret (.bool true))/\OldK s₁.heap s'.heap/\s'.os=s₁.os/\AllBare s'.gens) s₁:=by
  intro H hO hS hok hA hK
  have inT:∀q∈tbs,(λ b=>if (tbs.any λ q=>q.2 == b)=true then some (HO.tbl #[]) else H b) q.2=some (.tbl #[]):=λ q hq=>if_pos (List.any_eq_true.mpr ⟨q,hq,by simp⟩)
  have split:∀b,(∃q∈tbs,q.2=b)\/(λ b=>if (tbs.any λ q=>q.2 == b)=true then some (HO.tbl #[]) else H b) b=H b:=λ b=>by
   by_cases c:(tbs.any λ q=>q.2 == b)=true
   ·obtain ⟨q,hq,e⟩:=List.any_eq_true.mp c
    exact .inl ⟨q,hq,eq_of_beq e⟩
   ·exact .inr (if_neg c)
  have aT:(λ b=>if (tbs.any λ q=>q.2 == b)=true then some (HO.tbl #[]) else H b) a=H a:=by
   rcases split a with ⟨q,hq,z⟩ | z
   ·exact absurd z (naT q hq)
   ·exact z
  generalize (λ b=>if (tbs.any λ q=>q.2 == b)=true then some (HO.tbl #[]) else H b)=G at *
  have noneT:∀q∈tbs,H q.2=none:=λ q hq=>by
   cases e:H q.2 with
   | none=>rfl
   | some u=>exact absurd (hA q.2 (by rw [e];simp)) (naT q hq)
  refine core G inT (λ b=>?_) ?_ (λ b o e=>?_) (λ b n=>?_) (λ n=>hK (by rw [← aT];exact n))
  ·rcases split b with z | z
   ·exact .inr (.inr z)
   ·rw [z];rcases hO b with y | y
    ·exact .inl y
    ·exact .inr (.inl y)
  ·rcases hS with (z | ⟨o,z⟩) | z
   ·exact .inl (.inl (by rw [aT];exact z))
   ·exact .inl (.inr ⟨o,by rw [aT];exact z⟩)
   ·exact .inr z
  ·rcases split b with ⟨q,hq,z⟩ | z
   ·subst z;rw [inT q hq] at e;cases e;exact tab q hq
   ·rw [z] at e
    rcases hO b with y | ⟨ob,xs,y⟩
    ·rw [y] at e;cases e
    ·rw [y] at e;cases e
     obtain ⟨e1,l,its,n,r,e2⟩:=hok b _ y
     exact ⟨e1,l,its,n,r,e2⟩
  ·rcases split b with z | z
   ·exact .inr z
   ·rw [z] at n;exact .inl (hA b n)
 cases hk:K.lookup a with
 | some o =>
  have e:=KX a o hk
  rw [ha] at e
  cases e
  refine withT (λ _=>none) (λ _=>.inl rfl) (.inr ⟨_,vs.toArray,_,hk,rfl,rfl,rfl,by rw [List.size_toArray,lenV];exact hl,by simpa using rv⟩) (λ b u z=>by have z':(none:Option HO)=some u:=z;cases z') (λ b z=>absurd rfl z) λ z=>absurd rfl z
 | none =>
  refine withT (λ b=>if b=a then some (.frz { cls:=.type "list",data:=.seq vs.toArray } (.lst (ns.map V.int))) else none) (λ b=>?_) (.inl (.inr ⟨{ cls:=.type "list",data:=.seq vs.toArray },if_pos rfl⟩)) (λ b u z=>?_) (λ b z=>?_) λ _=>hk
  ·by_cases hb:b=a
   ·exact .inr ⟨_,_,if_pos hb⟩
   ·exact .inl (if_neg hb)
  ·by_cases hb:b=a
   ·have z':=(if_pos hb).symm.trans z
    cases z'
    subst hb
    exact ⟨ha,by rw [List.length_map];exact hl,vs,_,rv,ha⟩
   ·have z':=(if_neg hb).symm.trans z
    cases z'
  ·by_cases hb:b=a
   ·exact hb
   ·exact absurd (if_neg hb) z
theorem z3y {K:W.Frag}{x:Str}{f c T:Addr}{oc oc2:Value}{od od2:Option Addr}{fd:FuncData}{sl sl2:Array (Option Value)}{vs:Array Value}(h1:nsIn K mainGlobals x=some (some (.ref f))) (h2:K.lookup f=some ⟨oc,od,.func fd,sl⟩) (h3:fd.code=.ref c) (h4:K.lookup c=some ⟨oc2,od2,.fields vs,sl2⟩) (h5:vs[11]?=some (.ref T)):tabIn K x=some (c,T):=by
 unfold tabIn
 simp only [h1,h2,h3,h4,h5]
theorem walk_ofT {l:W.OpenLaw}{n k:Nat}{q:Program}{loose:List Str}{XP:(Str->Option Value)->Heap->Prop}{YP:World->Heap->Prop}{d:DefRec}{K:Params->W.Frag}{CX:World->CXT}{sp:World->List Addr->Sp}{x:Str}
  (hn:l.most=some n) (hn2:n≤sizeLine) (hdf:d.params.defaults=[]) (hr:Room k callerA)
  (hY:∀(w:World) (h:Heap),YP w h->(K w.params).In h) (hK0:∀w:World,noTabs (K w.params)=true)
  (F:∀(w:World) (mg:Str->Option Value) (fa:Addr) (h:Heap),(K w.params).In h->h.Ns mainGlobals mg->mg d.name=some (.ref fa) ->
   ∃(fd:FuncData) (tbs:List (Str × Addr × Addr)),(∀p∈tbs,tabIn (K w.params) p.1=some p.2/\((recsOf q).find? λ e=>e.name == p.1).isSome=true)/\(∀(s:Shared) (u:Value),BindsTo s fd ⟨[u],[]⟩ [(x,u)]) /\
    ∀base:Heap,(K w.params).In base->base.Ns mainGlobals mg->(∀p∈tbs,TabF base mg p.2.1 p.2.2)->FnOk l.prog w (K w.params) mg base (CX w) k fa fd [x] (sp w (tbs.map λ p=>p.2.2)))
  (hsp:∀(w:World) (H:Hp) (a:Addr) (ns:List Int) (ts:List Addr),ns.length≤n->(∀T∈ts,H T=some (.tbl #[]))->SqL (K w.params) H a (ns.map V.int)->sp w ts [.ref a] H (λ v _=>v=.bl true) λ _ _ _=>False)
  (hCX:∀(w:World) (H:Hp) (s:Shared) (e:Value) (s':Shared),CX w [] H s (λ _ _ _=>False) e s'->False) :
  W.WalkO q loose XP YP l.row.toRowW d [] (λ f vs=>PySem.call f vs):=by
 refine Att.attach_call hn hdf λ w s₀ s₁ mg mb fa o pm cd doc a vs ns G Y ho hd hcd hmg hobj hints hlen hg=>?_
 have KX:=hY w _ Y
 obtain ⟨fd,tbs,ht,hb,hF⟩:=F w mg fa _ KX G.T.g hmg
 have hT:TabsAt (tbs.map (·.2)) s₁.heap:=λ p hp=>by
  obtain ⟨t,htm,rfl⟩:=List.mem_map.mp hp
  obtain ⟨h1,h2⟩:=ht t htm
  obtain ⟨d',hd'⟩:=Option.isSome_iff_exists.mp h2
  exact tab_of G.T KX hd' (show tabIn (K w.params) t.1=some (t.2.1,t.2.2) from h1)
 refine y7e (tbs.map (·.2)) hT (hK0 w) G.T.bmain KX G.T.g G.T.b G.T.builtins G.T.nolimit hg hobj hints (Nat.le_trans hlen hn2) hr (λ base kb nb tf=>hF base kb nb λ p hp=>tf p.2 (List.mem_map.mpr ⟨p,hp,rfl⟩)) hb (λ H hH hS=>hsp w H a ns _ hlen (λ T hT=>?_) hS) λ H e s'=>hCX w H s₁ e s'
 obtain ⟨t,htm,rfl⟩:=List.mem_map.mp hT
 exact hH t.2 (List.mem_map.mpr ⟨t,htm,rfl⟩)
end L2
namespace L2
open PySem PySem.Spec PyProof.Rows PySem.W PySem.Calls
def DefO (fa c':Addr) (name qual:Str) (params:Arguments) (body:List Stmt) (scope:Scope) (cl:List (Str × Addr)):HO:=.ext λ h=>∃doc pm ctv,h.get? fa=some (fnMade name qual params body scope cl doc pm c' ctv)
theorem FnV.dfn {H:Hp}{fa c':Addr}{name qual:Str}{params:Arguments}{body:List Stmt}{scope:Scope}{cl:List (Str × Addr)}(h:H fa=some (DefO fa c' name qual params body scope cl)):FnV H fa:=⟨_,h,λ _ ⟨_,_,_,e⟩=>⟨_,_,_,_,e⟩⟩
theorem x3q {P:Program}{w:World}{K:W.Frag}{mg:Str->Option Value}{base:Heap}{k:Nat}{N ps fv:List Str}{fa c':Addr}{name qual:Str}{params:Arguments}{body:List Stmt}{scope:Scope}{cl:List (Str × Addr)}{vs vcs:List V}{H:Hp}{Q:VK}{ts:TS}
  (S:LmScope N ps fv scope) (hcl:cl.map (·.1)=fv)
  (hb:∀(doc pm ctv:Value) (us:List Value),us.length=ps.length->bindArgs (fnX name qual params body scope cl .none .none doc pm none (.ref c') ctv) ⟨us,[]⟩=pure (ps.zip us)) (hl:vs.length=ps.length)
  (L1:H fa=some (DefO fa c' name qual params body scope cl)) (L2:H c'=some (CodO c' qual)) (hc:CelAt H cl vcs)
  (hbody:∀(A:Around) (outer:List Env) (s:Shared),Room k (A.deeper (envX qual scope s.heap.objs.size fa (.ref c') (cellsFrom (s.heap.objs.size+1) scope.names []++cl)))->PSs (cxLam P w K mg base N qual scope fa (.ref c') cl A outer s (minC H cl)) body ts)
  (hq:ts { nx:=λ _ H'=>Q .non (resC H H' cl),rt:=λ v H'=>Q v (resC H H' cl) } (start N (vs++vcs)) (minC H cl)):CallV P w K mg base (k+1) fa vs H Q:=by
 intro A outer s us hr e0 r
 obtain ⟨⟨doc,pm,ctv,ho⟩,_⟩:=e0.hok fa _ L1
 obtain ⟨hcd,_⟩:=e0.hok c' _ L2
 have lim:s.heap.NoLimit:=e0.mod.nolimit.keeps λ b o e=>(e0.bs b o e).1
 have hkind:∀y∈ps.zip us,scope.names.lookup y.1=some .local\/(scope.names.lookup y.1=some .cell/\((cellsFrom (s.heap.objs.size+1) scope.names []).lookup y.1).isSome=true):=λ ⟨n,v⟩ hy=>by
  rcases S.par n (List.of_mem_zip hy).1 with q | q
  ·exact .inl q
  ·exact .inr ⟨q,W.cellsFrom_some _ _ _ (.inl q)⟩
 refine codeAny_call_function hr.depth ho rfl S.co S.gen rfl hcd ?_
 rw [hb doc pm ctv us (by rw [← r.length];exact hl)]
 refine wpAny_pure (z4q S.kind hkind λ env he s1 x=>?_)
 subst he
 refine ⟨lim.keeps x.toInCall.keep,codeAny_func ?_⟩
 have I:Inv (cxLam P w K mg base N qual scope fa (.ref c') cl A outer s (minC H cl)) [] (start N (vs++vcs)) (minC H cl) s1:=y7k S hr.hd e0 hl r hcl hc x
 refine wpAny_mono (hbody A outer s (hr.deeper _) [] s1 _ _ _ I hq) (λ fl s' hs=>?_) (λ e s' hs=>False.elim hs)
 have fin:∀ {v:V}{u:Value}{σ':St}{H':Hp},Inv (cxLam P w K mg base N qual scope fa (.ref c') cl A outer s (minC H cl)) [] σ' H' s'->RelV v u->Q v (resC H H' cl)->CE outer P w H s Q u s':=?_
 ·cases fl with
  | ret u =>
   obtain ⟨v,σ',H',J,rv,q⟩:=hs
   exact fin J rv q
  | next =>
   obtain ⟨σ',H',J,q⟩:=hs
   exact fin (v:=V.non) (u:=Value.none) J rfl q
  | brk=>obtain ⟨_,_,_,q⟩:=hs;exact False.elim q
  | cont=>obtain ⟨_,_,_,q⟩:=hs;exact False.elim q
 intro v u σ' H' J rv q
 have un:Un (frs outer) [] (minC H cl) H' s.heap s'.heap:=J.base
 have nfr:∀q∈cl,q.2 ∉ frs outer:=λ q hq z=>by
  obtain ⟨o,v,e⟩:=hc.mem hq
  rw [e0.frf _ z] at e;cases e
 have kc:∀q∈cl,∀o,s.heap.get? q.2=some o->s'.heap.get? q.2=some o/\H' q.2=none:=λ q hq o e=>⟨un.keep _ o e (z5r hq) (nfr q hq) (by simp),un.free _ o e (z5r hq) (by simp)⟩
 have there:∀q∈cl,∃o,s.heap.get? q.2=some o:=λ q hq=>by
  obtain ⟨o,v,e⟩:=hc.mem hq
  exact ⟨o,(e0.hok _ _ e).1⟩
 have split:∀b,(∃q∈cl,q.2=b)\/∀q∈cl,q.2≠b:=λ b=>by
  by_cases c:∃q∈cl,q.2=b
  ·exact .inl c
  ·exact .inr λ q hq e=>c ⟨q,hq,e⟩
 refine ⟨v,resC H H' cl,J.os,J.bare,⟨λ b o e n hb hx=>un.keep b o e (z2d n) hb hx,λ b o e n hb hx=>un.slot b o e (z2d n) hb hx,λ b o e n hx=>?_,un.there,λ b xs e=>?_,λ b o u e=>?_,λ b ps e=>?_⟩,λ b o e=>?_,rv,q⟩
 ·rcases split b with ⟨q,hq,rfl⟩ | hn
  ·rw [z3i hq];exact n
  ·rw [z1u hn];exact un.free b o e (z2d n) hx
 ·rcases split b with ⟨q,hq,rfl⟩ | hn
  ·rw [z3i hq];exact e
  ·rw [z1u hn];exact un.tups b xs (by rw [z1q hn];exact e)
 ·rcases split b with ⟨q,hq,rfl⟩ | hn
  ·rw [z3i hq];exact e
  ·rw [z1u hn];exact un.frzs b o u (by rw [z1q hn];exact e)
 ·rcases split b with ⟨q,hq,rfl⟩ | hn
  ·obtain ⟨o,v,e2⟩:=hc.mem hq
   rw [e] at e2;cases e2
  ·rw [z1u hn];exact un.tbls b ps (by rw [z1q hn];exact e)
 ·rcases split b with ⟨q,hq,rfl⟩ | hn
  ·rw [z3i hq] at e
   obtain ⟨o2,v2,e2⟩:=hc.mem hq
   rw [e] at e2
   cases e2
   obtain ⟨g1,⟨u2,ru,ic⟩,_,st⟩:=e0.hok _ _ e
   have k1:=(kc q hq _ g1).1
   refine ⟨k1,⟨u2,ru,?_⟩,⟨_,k1⟩,st⟩
   obtain ⟨o3,e3,d3⟩:=ic
   rw [g1] at e3;cases e3
   exact ⟨_,k1,d3⟩
  ·rw [z1u hn] at e
   have nf:∀c u,H' c=some u->resC H H' cl c=some u:=λ c u e2=>by
    rcases split c with ⟨q,hq,rfl⟩ | hn
    ·obtain ⟨o,eo⟩:=there q hq
     rw [(kc q hq o eo).2] at e2;cases e2
    ·rw [z1u hn];exact e2
   exact (J.hok b o e).stay (λ _ _ _ q=>q) (λ c q=>nf c _ q) λ c xs q=>nf c _ q
section
variable {X:Cx}{params:Arguments}{scope:Scope}{pos:Pos}{fv:List Str}{c T:Addr}{cl:List (Str × Addr)}
theorem x5p {name qual:Str}{body:List Stmt}{pins:List (Addr × Obj)}{s:Shared}{σ:St}{H:Hp}{Q:VK}(I:Inv X pins σ H s) (hcode:X.env.code=.ref c) (TF:TabF X.base X.mg c T) (hcl:closureFor scope X.env=pure cl) (own:OwnCl X.env.cells fv cl)
  (h:TabOk H T pos qual/\∀fa c' cl H2,OwnCl X.env.cells fv cl->H fa=none->H2 fa=some (DefO fa c' name qual params body scope cl)->H2 c'=some (CodO c' qual)->TabOk H2 T pos qual->(∀b o,b≠T->H b=some o->H2 b=some o)->Q (.ref fa) H2) :
  wpAny (model X.prog X.w) X.A (makeFunction name qual params (.stmts body) scope X.env [] [] [] pos pos.line) (EP X pins σ Q) X.xe s:=by
 obtain ⟨⟨ps,hT,ht,hz⟩,h⟩:=h
 have eT:s.heap.get? T=some (tabObj ps):=I.hok _ _ hT
 have hg:s.heap.Ns mainGlobals X.mg:=I.mod.glob.keeps I.bk
 obtain ⟨bm,ob,b1,b2,b3,b4,b5,b6⟩:=TF.blt
 have hb:s.heap.BuiltinsAt X.mg T:=⟨bm,ob,b1,b2,b3,b4,I.bk _ _ b5,b6⟩
 have C:CodeHd s.heap c T:=TF.hd.keeps I.bk
 rcases hz with hnf | ⟨c',hf,hc'⟩
 ·refine makeFunction_K hcl I.ok.glob hg hcode C eT ht hnf TF.ne hb λ c' ctv doc h' tk hx hge hlt hrec htb=>?_
  have hfa:H h'.objs.size=none:=I.hok.fresh (Nat.le_of_lt (Nat.lt_of_le_of_lt hge hlt))
  have hc0:H c'=none:=I.hok.fresh hge
  have nTc:c'≠T:=λ z=>by rw [z,hT] at hc0;cases hc0
  have nTf:h'.objs.size≠T:=λ z=>by rw [z,hT] at hfa;cases hfa
  have ncf:c'≠h'.objs.size:=Nat.ne_of_lt hlt
  have old:∀b o,b≠T->s.heap.get? b=some o->(h'.push (fnMade name qual params body scope cl doc ((X.mg "__name__").getD .none) c' ctv)).get? b=some o:=λ b o n e=>Heap.get?_push_of_some _ (hx b o n e)
  have eP:(h'.push (fnMade name qual params body scope cl doc ((X.mg "__name__").getD .none) c' ctv)).get? T=some (tabObj (ps++#[rawInt pos.line,rawInt pos.col,.ref c'])):=Heap.get?_push_of_some _ htb
  have eF:(h'.push (fnMade name qual params body scope cl doc ((X.mg "__name__").getD .none) c' ctv)).get? h'.objs.size=some (fnMade name qual params body scope cl doc ((X.mg "__name__").getD .none) c' ctv):=Heap.get?_push_size _ rfl
  have eC:(h'.push (fnMade name qual params body scope cl doc ((X.mg "__name__").getD .none) c' ctv)).CodeRec (.ref c') qual:=z2y hrec λ o e=>Heap.get?_push_of_some _ e
  generalize h'.push (fnMade name qual params body scope cl doc ((X.mg "__name__").getD .none) c' ctv)=h2 at *
  generalize h'.objs.size=fa at *
  have lowT:∀b o,s.heap.get? b=some o->b≠c'/\(H b=none->b≠T):=λ b o e=>⟨Nat.ne_of_lt (Nat.lt_of_lt_of_le (Heap.lt_size e) hge),λ n z=>by rw [z,hT] at n;cases n⟩
  have lowF:∀b o,s.heap.get? b=some o->b≠fa:=λ b o e=>Nat.ne_of_lt (Nat.lt_trans (Nat.lt_of_lt_of_le (Heap.lt_size e) hge) hlt)
  have out:∀b,b≠T->b≠c'->b≠fa->upd (upd (upd H T (.tbl (ps++#[rawInt pos.line,rawInt pos.col,.ref c']))) c' (CodO c' qual)) fa (DefO fa c' name qual params body scope cl) b=H b:=λ b n1 n2 n3=>by rw [z0p n3,z0p n2,z0p n1]
  have trk:∀b o,H b=some o->b≠c'/\b≠fa:=λ b o e=>⟨(λ z=>by rw [z,hc0] at e;cases e),(λ z=>by rw [z,hfa] at e;cases e)⟩
  have HT:upd (upd (upd H T (.tbl (ps++#[rawInt pos.line,rawInt pos.col,.ref c']))) c' (CodO c' qual)) fa (DefO fa c' name qual params body scope cl) T=some (.tbl (ps++#[rawInt pos.line,rawInt pos.col,.ref c'])):=by rw [z0p nTf.symm,z0p nTc.symm,z0h]
  have HC:upd (upd (upd H T (.tbl (ps++#[rawInt pos.line,rawInt pos.col,.ref c']))) c' (CodO c' qual)) fa (DefO fa c' name qual params body scope cl) c'=some (CodO c' qual):=by rw [z0p ncf,z0h]
  have HF:upd (upd (upd H T (.tbl (ps++#[rawInt pos.line,rawInt pos.col,.ref c']))) c' (CodO c' qual)) fa (DefO fa c' name qual params body scope cl) fa=some (DefO fa c' name qual params body scope cl):=z0h
  generalize upd (upd (upd H T (.tbl (ps++#[rawInt pos.line,rawInt pos.col,.ref c']))) c' (CodO c' qual)) fa (DefO fa c' name qual params body scope cl)=H2 at *
  have same:∀b o,b≠T->H b=some o->H2 b=some o:=λ b o n e=>by rw [out b n (trk b o e).1 (trk b o e).2];exact e
  have un:Un X.fs [] H H2 s.heap h2:=⟨λ b o e n _ _=>old b o ((lowT b o e).2 n) e,λ b o e n _ _=>⟨o.slots,old b o ((lowT b o e).2 n) e⟩,λ b o e n _=>by rw [out b ((lowT b o e).2 n) (lowT b o e).1 (lowF b o e)];exact n,λ b o e _=>by
   by_cases z:b=T
   ·rw [z];exact ⟨_,eP⟩
   ·exact ⟨o,old b o z e⟩,λ b xs e=>same b _ (λ z=>by rw [z,hT] at e;cases e) e,λ b o u e=>same b _ (λ z=>by rw [z,hT] at e;cases e) e,λ b qs e=>by
   by_cases z:b=T
   ·subst z;rw [hT] at e;cases e;exact ⟨_,HT⟩
   ·exact ⟨#[],by rw [same b _ z e];simp⟩⟩
  have hok:HOk X.prog X.w H2 h2:=λ b o e=>by
   by_cases zf:b=fa
   ·subst zf;rw [HF] at e;cases e
    exact ⟨⟨_,_,_,eF⟩,⟨_,eF⟩,λ h1 h3 ⟨dc,pm,cv,e1⟩ k=>⟨dc,pm,cv,k _ e1⟩⟩
   ·by_cases zc:b=c'
    ·subst zc;rw [HC] at e;cases e
     obtain ⟨c2,o2,vs2,t2,e2,ho2,r2⟩:=id eC
     cases e2
     exact ⟨eC,⟨_,ho2⟩,λ h1 h3 x k=>z2y x k⟩
    ·by_cases zT:b=T
     ·subst zT;rw [HT] at e;cases e
      exact eP
     ·rw [out b zT zc zf] at e
      refine (I.hok b o e).stay (λ d u hd q=>old d u (λ z=>?_) q) (λ d q=>same d _ (λ z=>by rw [z,hT] at q;cases q) q) λ d xs q=>same d _ (λ z=>by rw [z,hT] at q;cases q) q
      rcases hd with hd | hd
      ·exact zT (hd.symm.trans z)
      ·rw [z,hT] at hd;cases hd
  exact ⟨.ref fa,H2,I.un un hok,rfl,h fa c' cl H2 own hfa HF HC ⟨_,HT,by simpa using z5v ps.toList ht,.inr ⟨c',by simpa using codeAmong_snoc ps.toList ht hnf,HC⟩⟩ same⟩
 ·refine makeFunction_hit hcl I.ok.glob hg hcode C eT ht hf hb λ ctv doc h' tk hx hsz=>?_
  have hfa:H h'.objs.size=none:=I.hok.fresh hsz
  have same:∀b o,H b=some o->upd H h'.objs.size (DefO h'.objs.size c' name qual params body scope cl) b=some o:=λ b o e=>by rw [z0p (z1z e hfa)];exact e
  refine ⟨.ref h'.objs.size,upd H h'.objs.size (DefO h'.objs.size c' name qual params body scope cl),I.laid (t':=tk) (λ b u e=>Heap.get?_push_of_some _ (hx b u e)) hsz ?_,rfl,h _ c' cl _ own hfa z0h (same _ _ hc') ⟨ps,same _ _ hT,ht,.inr ⟨c',hf,same _ _ hc'⟩⟩ λ b o _ e=>same b o e⟩
  exact ⟨⟨_,_,_,Heap.get?_push_size _ rfl⟩,⟨_,Heap.get?_push_size _ rfl⟩,λ h1 h3 ⟨dc,pm,cv,e1⟩ k=>⟨dc,pm,cv,k _ e1⟩⟩
def tDef (ec:List (Str × Addr)) (fv:List Str) (T:Addr) (pos:Pos) (i:Nat) (name qual:Str) (params:Arguments) (body:List Stmt) (scope:Scope):TS:=λ D σ H=>TabOk H T pos qual /\
 ∀fa c' cl H2,OwnCl ec fv cl->H fa=none->H2 fa=some (DefO fa c' name qual params body scope cl)->H2 c'=some (CodO c' qual)->TabOk H2 T pos qual->(∀b o,b≠T->H b=some o->H2 b=some o)->D.nx (σ.set i (some (.ref fa))) H2
theorem x4r {i:Nat}{name qual:Str}{body:List Stmt}(hN:X.N.Nodup) (hi:X.N[i]?=some name) (hx:Loc X.env.scope name) (hq:qualnameIn X.env name name=qual) (hcode:X.env.code=.ref c) (TF:TabF X.base X.mg c T) (hcl:closureFor scope X.env=pure cl) (own:OwnCl X.env.cells fv cl)
  (hd0:params.defaults=[]) (hk0:params.kw_defaults=[]) (ha:annTrees params none X.env=[]) (hf:X.fn name=true\/X.env.scope.names.lookup name=some .local:=by first | exact .inl rfl | exact .inr rfl) :
  PS X (.FunctionDef name params body [] none [] scope none name pos) (tDef X.env.cells fv T pos i name qual params body scope):=by
 intro pins s σ H D I h
 refine nestDef_K hd0 hk0 ha ?_
 rw [hq]
 refine thn (x5p (Q:=λ v H2=>∃fa,v=.ref fa/\D.nx (σ.set i (some (.ref fa))) H2) I hcode TF hcl own ⟨h.1,λ fa c' cl H2 o1 n1 a1 a2 a3 a4=>⟨fa,rfl,h.2 fa c' cl H2 o1 n1 a1 a2 a3 a4⟩⟩) λ u s1 ⟨v,H2,J,r,fa,e,q⟩=>?_
 subst e
 exact z7z J hN hi hx r (λ s2 J2=>⟨_,H2,J2,q⟩) hf
end
end L2
namespace L2
open PySem PySem.Spec PyProof.Rows PySem.W PySem.Calls
theorem y9t {X:Cx}{P:Program}{w:World}{K:W.Frag}{mg:Str->Option Value}{base:Heap}{k i:Nat}{x:Str}{p pos:Pos}{e:Expr}{es:List Expr}{t:TA}(e1:X.prog=P) (e2:X.w=w) (e3:X.K=K) (e4:X.mg=mg) (e5:X.base=base) (hr:Room k X.A) (hN:X.N[i]?=some x) (hv:Vis X.env.scope x) (ha:PA X (e::es) t)
  (hd:(x == ("__debug__" : Str))=false:=by decide) (hcd:(x == ("__classdict__" : Str))=false:=by decide)
  (he:starEach (e::es) X.env=(false,eval e X.env)::starEach es X.env:=by rfl) (hpl:(backTo pos (starEach es X.env)).any (·.1)=false:=by rfl) :
  PE X (.Call (.Name x p) (e::es) [] pos) (tCalV P w K mg base k i t):=by
 subst e1 e2 e3 e4 e5
 exact x2s hr hN hv ha hd hcd he hpl
theorem CallV.mono {P:Program}{w:World}{K:W.Frag}{mg:Str->Option Value}{base:Heap}{j k:Nat}{fa:Addr}{vs:List V}{H:Hp}{Q:VK}(h:CallV P w K mg base j fa vs H Q) (l:j≤k):CallV P w K mg base k fa vs H Q :=
 λ A outer s us hr e0 r=>h A outer s us (hr.mono l) e0 r
def LoopE (K:PySem.W.Frag) (g:TG) (tb:TS) (D:Ends) (σ:St) (v:V) (H1:Hp):Prop:=∃a xs,v=.ref a/\SqT K H1 a xs/\∃W:Nat->Nat->St->Hp->Prop,(∃m,W 0 m σ H1)/\∀i m σ H,W i m σ H ->
 ((Ite K a).stop i H/\D.nx σ H)\/((Ite K a).go i H/\∃N:St->Hp->Prop,(∀σ' H',N σ' H'->∃m',m' < m/\W (i+1) m' σ' H')/\∀x H',(Ite K a).yld i H x H'->g x σ H' λ σ2 H2=>tb { D with nx:=N,ct:=N,bk:=D.nx } σ2 H2)
theorem x3m {K:W.Frag}{te:TE}{g:TG}{tb:TS}{D:Ends}{σ:St}{H:Hp}:tFor (iEnum K te) g tb D σ H=te σ H λ v H1=>LoopE K g tb D σ v H1:=rfl
theorem LoopE.mk {K:W.Frag}{a:Addr}{xs:List V}{g:TG}{tb:TS}{D:Ends}{σ:St}{H:Hp}(h1:SqT K H a xs) (Pv:Nat->St->Hp->Prop) (h0:Pv 0 σ H) (hl:∀i σ H,i≤xs.length->Pv i σ H->SqT K H a xs)
  (hs:∀i x σ H T,xs[i]?=some x->Pv i σ H->H T=none->g (.ref T) σ (upd H T (.tup [.int i,x])) λ σ2 H2=>tb { D with nx:=Pv (i+1),ct:=Pv (i+1),bk:=D.nx } σ2 H2) (hd:∀σ H,Pv xs.length σ H->D.nx σ H) :
  LoopE K g tb D σ (.ref a) H:=by
 refine ⟨a,xs,rfl,h1,λ i m σ H=>m=xs.length - i/\i≤xs.length/\Pv i σ H,⟨_,rfl,Nat.zero_le _,h0⟩,?_⟩
 rintro i m σ H ⟨rfl,hi,p⟩
 have k1:=hl i σ H hi p
 by_cases hlt:i < xs.length
 ·refine .inr ⟨⟨xs,_,k1,List.getElem?_eq_getElem hlt⟩,Pv (i+1),λ σ' H' p'=>⟨xs.length - (i+1),by omega,rfl,hlt,p'⟩,λ v H' yy=>?_⟩
  obtain ⟨T,x,rfl,hT,rfl,ex⟩:=yy
  exact hs i x σ H T (ex xs k1) p hT
 ·have e:i=xs.length:=by omega
  exact .inl ⟨⟨xs,k1,by omega⟩,hd σ H (e ▸ p)⟩
theorem z9z {x:V}:∀ {xs:List V}{us:List Value},Vals xs us->xs.all flatV=true->∀(j:Nat) (h1:j < xs.length) (h2:j < us.length),eqU x us[j]=eqV xs[j] x
 | y::xs,u::us,.cons r t,f,j,h1,h2=>by
  rw [List.all_cons,Bool.and_eq_true] at f
  cases j with
  | zero=>exact y7w r f.1
  | succ j=>exact z9z t f.2 j (Nat.lt_of_succ_lt_succ h1) (Nat.lt_of_succ_lt_succ h2)
section
variable {X:Cx}
def rIndex (K:W.Frag):V->List V->Hp->VK->Prop:=λ x ys H Q=>∃a xs y j,x=.ref a/\ys=[y]/\SqL K H a xs/\xs.all flatV=true/\flatV y=true/\(∃z,xs[j]?=some z/\eqV z y=true)/\(∀m z,m < j->xs[m]?=some z->eqV z y=false)/\Q (.int (j:Nat)) H
theorem x0c:MtR X "list.index" (rIndex X.K):=by
 intro pins s σ H x ys v us Q I rx rv h
 obtain ⟨a,xs,y,j,rfl,rfl,ha,hfl,fy,⟨z,ez,hz⟩,hn,q⟩:=h
 cases rx
 obtain ⟨u,rfl,ru⟩:=z4r rv
 obtain ⟨its,r',pl,zl⟩:=I.list ha
 have hlen:=r'.length
 obtain ⟨⟨oc,od,odt,osl⟩,g1,hc,n,hd⟩:=pl.isList
 simp only at hc hd
 subst hc hd
 have jl:=(List.getElem?_eq_some_iff.mp ez).1
 have jl2:j < its.length:=by omega
 have big:(sizeLine:Int) < 2 ^ 63 - 1:=by decide +kernel
 refine call_meets F.slot_list_index ⟨_,g1,rfl⟩ F.entry_list_index (F.args_list_index_2 _ _) (SeqAt.list_indexAt a its.toArray n od osl u (eqU y) j (by simpa using jl2) (by omega) ?_ ?_) ⟨g1,λ w hw=>z5h ru fy r' hfl w (by simpa using hw),?_⟩
 ·show eqU y its[j]=true
  rw [z9z r' hfl j jl jl2]
  rw [List.getElem?_eq_getElem jl] at ez
  cases (Option.some.inj ez);exact hz
 ·intro m hm hlt
  show eqU y its[m]=false
  have ml:m < xs.length:=by simp only [List.size_toArray] at hm;omega
  rw [z9z r' hfl m ml (by simpa using hm)]
  exact hn m _ hlt (List.getElem?_eq_getElem ml)
 ·exact ⟨.int _,H,I.tok _,⟨_,rfl⟩,q⟩
end
theorem y4y (l:Addr) (its:Array Value) (n:Nat) (dd:Option Addr) (sl:Array (Option Value)) (x:Value) (e:Value->Bool) (j:Nat) (hj:j < its.size) (hit:e its[j]=true) (hno:∀m (hm:m < its.size),m < j->e its[m]=false):Meets (Builtin.«tuple.index» ⟨[.ref l,x],[]⟩) (λ A R s=>s.heap.get? l=some ⟨.type "tuple",dd,.seq its n,sl⟩/\(∀y,y∈its->SeqAt.EqAt A.in1 s y x (e y))/\R (.ok (.ret (.int j s.toks))) { s with toks:=s.toks+1 }) :=
 .of_wp λ prog w A R s h=>by
  obtain ⟨hp,g,d,tk,os⟩:=s
  obtain ⟨hl,he,h⟩:=h
  unfold Builtin.«tuple.index»
  simp only [Std.Legacy.Range.forIn_eq_forIn_range',Std.Legacy.Range.size,Nat.sub_zero,Nat.add_sub_cancel,Nat.div_one]
  wp_walk using AutoSeq1.wpAny_loadPart' hl,wpAny_forIn_list _ (λ rest b s'=>b.1=none/\s'=⟨hp,g,d,tk,os⟩/\∃i,i≤j/\rest=List.range' i (its.size - i)) _
  case turn =>
   rintro y rest b s' ⟨hb,rfl,i,ij,er⟩
   have il:i < its.size:=by omega
   rw [show its.size - i=(its.size - (i+1))+1 by omega,List.range'_succ] at er
   obtain ⟨rfl,rfl⟩:=List.cons.inj er
   rw [Array.getElem?_eq_getElem il]
   refine wpAny_bind (he _ (Array.getElem_mem il) prog w _ _ ?_)
   by_cases c:y=j
   ·subst c
    rw [hit]
    wp_walk
    exact ⟨_,rfl,h⟩
   ·rw [hno y il (by omega)]
    wp_walk
    exact ⟨rfl,rfl,y+1,by omega,rfl⟩
  case fin =>
   rintro b s' ⟨hb,rfl,i,ij,er⟩
   have:=congrArg List.length er
   rw [List.length_nil,List.length_range'] at this
   omega
  case h =>
   exact ⟨rfl,rfl,0,Nat.zero_le _,by simp⟩
section
variable {X:Cx}
def rIndexT:V->List V->Hp->VK->Prop:=λ x ys H Q=>∃a o xs y j,x=.ref a/\ys=[y]/\H a=some (.frz o (.tup xs))/\xs.all flatV=true/\flatV y=true/\(∃z,xs[j]?=some z/\eqV z y=true)/\(∀m z,m < j->xs[m]?=some z->eqV z y=false)/\Q (.int (j:Nat)) H
theorem y6t:MtR X "tuple.index" rIndexT:=by
 intro pins s σ H x ys v us Q I rx rv h
 obtain ⟨a,o,xs,y,j,rfl,rfl,ha,hfl,fy,⟨z,ez,hz0⟩,hn,q⟩:=h
 cases rx
 obtain ⟨u,rfl,ru⟩:=z4r rv
 obtain ⟨g1,hz,its,rv2,o2,g2,c2,n2,d2⟩:=I.hok a _ ha
 rw [g1] at g2;cases g2
 obtain ⟨oc,od,odt,osl⟩:=o
 subst c2 d2
 have hlen:=rv2.length
 have jl:=(List.getElem?_eq_some_iff.mp ez).1
 have jl2:j < its.length:=by omega
 refine call_meets F.slot_tuple_index ⟨_,g1,rfl⟩ F.entry_tuple_index (F.args_tuple_index_2 _ _) (y4y a its.toArray n2 od osl u (eqU y) j (by simpa using jl2) ?_ ?_) ⟨g1,λ w hw=>z5h ru fy rv2 hfl w (by simpa using hw),?_⟩
 ·show eqU y its[j]=true
  rw [z9z rv2 hfl j jl jl2]
  rw [List.getElem?_eq_getElem jl] at ez
  cases (Option.some.inj ez);exact hz0
 ·intro m hm hlt
  show eqU y its[m]=false
  have ml:m < xs.length:=by simp only [List.size_toArray] at hm;omega
  rw [z9z rv2 hfl m ml (by simpa using hm)]
  exact hn m _ hlt (List.getElem?_eq_getElem ml)
 ·exact ⟨.int _,H,I.tok _,⟨_,rfl⟩,q⟩
theorem z7l {K:W.Frag}(hK:X.K=K):CallR X (.type "tuple") (λ xs H Q=>∃p ys,xs=[.ref p]/\((SqL K H p ys/\∀l,H l=none->Q (.ref l) (upd H l (.tup ys)))\/(SqT K H p ys/\Q (.ref p) H))):=hK ▸ z1n
theorem y9s {K:W.Frag}{tg l:Expr}{tl:TE}(hK:X.K=K) (hl:PE X l tl):PI X tg l (iList K tl):=hK ▸ z5n hl
end
section
variable {pg:Program}{wd:World}{B:Around}{X0:Value->Shared->Prop}{s0:Shared}
end
def ItzN (K:W.Frag) (a b:Addr):It:=⟨λ i H=>∃xs ys x y,SqT K H a xs/\SqL K H b ys/\xs[i]?=some x/\ys[i]?=some y,
 λ i H v H'=>∃T x y,v=.ref T/\H T=none/\H'=upd H T (.tup [x,y])/\∀xs ys,SqT K H a xs->SqL K H b ys->xs[i]?=some x/\ys[i]?=some y,λ i H=>∃xs ys,SqT K H a xs/\SqL K H b ys/\(xs.length≤i\/ys.length≤i)⟩
section
variable {X:Cx}{es:List Expr}{x1:Nat}{pp:Pos}
def iZipN (K:W.Frag) (ta:TA):TI:=λ σ H R=>ta σ H λ vs H1=>∃a b xs ys,vs=[.ref a,.ref b]/\SqT K H1 a xs/\SqL K H1 b ys/\R (ItzN K a b) H1
end
def LoopZN (K:PySem.W.Frag) (g:TG) (tb:TS) (D:Ends) (σ:St) (vs:List V) (H1:Hp):Prop:=∃a b xs ys,vs=[.ref a,.ref b]/\SqT K H1 a xs/\SqL K H1 b ys/\∃W:Nat->Nat->St->Hp->Prop,(∃m,W 0 m σ H1)/\∀i m σ H,W i m σ H ->
 ((ItzN K a b).stop i H/\D.nx σ H)\/((ItzN K a b).go i H/\∃N:St->Hp->Prop,(∀σ' H',N σ' H'->∃m',m' < m/\W (i+1) m' σ' H')/\∀x H',(ItzN K a b).yld i H x H'->g x σ H' λ σ2 H2=>tb { D with nx:=N,ct:=N,bk:=D.nx } σ2 H2)
theorem x0n {K:W.Frag}{ta:TA}{g:TG}{tb:TS}{D:Ends}{σ:St}{H:Hp}:tFor (iZipN K ta) g tb D σ H=ta σ H λ vs H1=>LoopZN K g tb D σ vs H1:=rfl
theorem LoopZN.mk {K:W.Frag}{a b:Addr}{xs ys:List V}{g:TG}{tb:TS}{D:Ends}{σ:St}{H:Hp}(n:Nat) (hn:n=min xs.length ys.length) (h1:SqT K H a xs) (h2:SqL K H b ys) (Pv:Nat->St->Hp->Prop) (h0:Pv 0 σ H) (hl:∀i σ H,i≤n->Pv i σ H->SqT K H a xs/\SqL K H b ys)
  (hs:∀i x y σ H T,i < n->xs[i]?=some x->ys[i]?=some y->Pv i σ H->H T=none->g (.ref T) σ (upd H T (.tup [x,y])) λ σ2 H2=>tb { D with nx:=Pv (i+1),ct:=Pv (i+1),bk:=D.nx } σ2 H2) (hd:∀σ H,Pv n σ H->D.nx σ H) :
  LoopZN K g tb D σ [.ref a,.ref b] H:=by
 subst hn
 refine ⟨a,b,xs,ys,rfl,h1,h2,λ i m σ H=>m=min xs.length ys.length - i/\i≤min xs.length ys.length/\Pv i σ H,⟨_,rfl,Nat.zero_le _,h0⟩,?_⟩
 rintro i m σ H ⟨rfl,hi,p⟩
 obtain ⟨k1,k2⟩:=hl i σ H hi p
 by_cases hlt:i < min xs.length ys.length
 ·have l1:i < xs.length:=by omega
  have l2:i < ys.length:=by omega
  refine .inr ⟨⟨xs,ys,_,_,k1,k2,List.getElem?_eq_getElem l1,List.getElem?_eq_getElem l2⟩,Pv (i+1),λ σ' H' p'=>⟨min xs.length ys.length - (i+1),by omega,rfl,hlt,p'⟩,λ v H' yy=>?_⟩
  obtain ⟨T,x,y,rfl,hT,rfl,ex⟩:=yy
  obtain ⟨ex1,ex2⟩:=ex xs ys k1 k2
  exact hs i x y σ H T hlt ex1 ex2 p hT
 ·have e:i=min xs.length ys.length:=by omega
  exact .inl ⟨⟨xs,ys,k1,k2,by omega⟩,hd σ H (e ▸ p)⟩
def CompZN (K:PySem.W.Frag) (k:Nat) (js:List Nat) (g:TG) (te:TE) (σ:St) (vs:List V) (H1:Hp) (Q:VK):Prop:=∃a b xs ys,vs=[.ref a,.ref b]/\SqT K H1 a xs/\SqL K H1 b ys/\∃W:Nat->Nat->List V->St->Hp->Prop,(∃m,W 0 m [] (compSt k js σ) H1)/\∀i m zs σ' H',W i m zs σ' H' ->
  ((ItzN K a b).stop i H'/\∀p,H' p=none->Q (.ref p) (upd H' p (.lst zs))) \/
  ((ItzN K a b).go i H'/\zs.length < sizeLine/\∃N:List V->St->Hp->Prop,(∀zs σ2 H2,N zs σ2 H2->∃m',m' < m/\W (i+1) m' zs σ2 H2)/\∀x H2,(ItzN K a b).yld i H' x H2->g x σ' H2 λ σ3 H3=>te σ3 H3 λ v H4=>N (zs++[v]) σ3 H4)
theorem y8g {K:W.Frag}{k:Nat}{js:List Nat}{ta:TA}{g:TG}{te:TE}{σ:St}{H:Hp}{Q:VK}:tComp (iZipN K ta) k js g te σ H Q=ta σ H λ vs H1=>CompZN K k js g te σ vs H1 Q:=rfl
theorem CompZN.mk {K:W.Frag}{a b:Addr}{xs ys:List V}{k:Nat}{js:List Nat}{g:TG}{te:TE}{Q:VK}{σ:St}{H:Hp}(n:Nat) (hn:n=min xs.length ys.length) (h1:SqT K H a xs) (h2:SqL K H b ys) (Pv:Nat->List V->St->Hp->Prop) (h0:Pv 0 [] (compSt k js σ) H) (hl:∀i zs σ H,i≤n->Pv i zs σ H->SqT K H a xs/\SqL K H b ys)
  (hs:∀i x y zs σ H T,i < n->xs[i]?=some x->ys[i]?=some y->Pv i zs σ H->H T=none->zs.length < sizeLine/\g (.ref T) σ (upd H T (.tup [x,y])) λ σ3 H3=>te σ3 H3 λ v H4=>Pv (i+1) (zs++[v]) σ3 H4) (hz:∀zs σ H,Pv n zs σ H->∀p,H p=none->Q (.ref p) (upd H p (.lst zs))) (hlen:∀i zs σ H,Pv i zs σ H->zs.length < sizeLine) :
  CompZN K k js g te σ [.ref a,.ref b] H Q:=by
 subst hn
 refine ⟨a,b,xs,ys,rfl,h1,h2,λ i m zs σ H=>m=min xs.length ys.length - i/\i≤min xs.length ys.length/\Pv i zs σ H,⟨_,rfl,Nat.zero_le _,h0⟩,?_⟩
 rintro i m zs σ H ⟨rfl,hi,p⟩
 obtain ⟨k1,k2⟩:=hl i zs σ H hi p
 by_cases hlt:i < min xs.length ys.length
 ·have l1:i < xs.length:=by omega
  have l2:i < ys.length:=by omega
  refine .inr ⟨⟨xs,ys,_,_,k1,k2,List.getElem?_eq_getElem l1,List.getElem?_eq_getElem l2⟩,hlen _ _ _ _ p,Pv (i+1),λ zs' σ' H' p'=>⟨min xs.length ys.length - (i+1),by omega,rfl,hlt,p'⟩,λ v H' yy=>?_⟩
  obtain ⟨T,x,y,rfl,hT,rfl,ex⟩:=yy
  obtain ⟨ex1,ex2⟩:=ex xs ys k1 k2
  exact (hs i x y zs σ H T hlt ex1 ex2 p hT).2
 ·have e:i=min xs.length ys.length:=by omega
  exact .inl ⟨⟨xs,ys,k1,k2,by omega⟩,hz zs σ H (e ▸ p)⟩
structure Apart6 (z ti ox j1 j2 j3 t1 t2 t3:Addr):Prop where
 ti_z:ti≠z
 ox_z:ox≠z
 j1_z:j1≠z
 j2_z:j2≠z
 j3_z:j3≠z
 ti_ox:ti≠ox
 ti_j1:ti≠j1
 ti_j2:ti≠j2
 ti_j3:ti≠j3
 ox_j1:ox≠j1
 ox_j2:ox≠j2
 ox_j3:ox≠j3
 j12:j1≠j2
 j13:j1≠j3
 j23:j2≠j3
 t1_z:t1≠z
 t2_z:t2≠z
 t2_ox:t2≠ox
 t2_j1:t2≠j1
 t3_z:t3≠z
 t3_ox:t3≠ox
 t3_j1:t3≠j1
 t3_j2:t3≠j2
section
variable {pg:Program}{wd:World}{B:Around}{X0:Value->Shared->Prop}{s0:Shared}
end
def Itz3 (K:W.Frag) (a b c:Addr):It:=⟨λ i H=>∃xs ys zs x y z,SqT K H a xs/\SqT K H b ys/\SqT K H c zs/\xs[i]?=some x/\ys[i]?=some y/\zs[i]?=some z,
 λ i H v H'=>∃T x y z,v=.ref T/\H T=none/\H'=upd H T (.tup [x,y,z])/\∀xs ys zs,SqT K H a xs->SqT K H b ys->SqT K H c zs->xs[i]?=some x/\ys[i]?=some y/\zs[i]?=some z,λ i H=>∃xs,SqT K H a xs/\xs.length≤i⟩
section
variable {X:Cx}{es:List Expr}{x1:Nat}{pp:Pos}
def iZip3 (K:W.Frag) (ta:TA):TI:=λ σ H R=>ta σ H λ vs H1=>∃a b c xs ys zs,vs=[.ref a,.ref b,.ref c]/\SqT K H1 a xs/\SqT K H1 b ys/\SqT K H1 c zs/\R (Itz3 K a b c) H1
end
def CompZ3 (K:PySem.W.Frag) (k:Nat) (js:List Nat) (g:TG) (te:TE) (σ:St) (vs:List V) (H1:Hp) (Q:VK):Prop:=∃a b c xs ys zs,vs=[.ref a,.ref b,.ref c]/\SqT K H1 a xs/\SqT K H1 b ys/\SqT K H1 c zs/\∃W:Nat->Nat->List V->St->Hp->Prop,(∃m,W 0 m [] (compSt k js σ) H1)/\∀i m zs σ' H',W i m zs σ' H' ->
  ((Itz3 K a b c).stop i H'/\∀p,H' p=none->Q (.ref p) (upd H' p (.lst zs))) \/
  ((Itz3 K a b c).go i H'/\zs.length < sizeLine/\∃N:List V->St->Hp->Prop,(∀zs σ2 H2,N zs σ2 H2->∃m',m' < m/\W (i+1) m' zs σ2 H2)/\∀x H2,(Itz3 K a b c).yld i H' x H2->g x σ' H2 λ σ3 H3=>te σ3 H3 λ v H4=>N (zs++[v]) σ3 H4)
theorem y8j {K:W.Frag}{k:Nat}{js:List Nat}{ta:TA}{g:TG}{te:TE}{σ:St}{H:Hp}{Q:VK}:tComp (iZip3 K ta) k js g te σ H Q=ta σ H λ vs H1=>CompZ3 K k js g te σ vs H1 Q:=rfl
theorem CompZ3.mk {K:W.Frag}{a b c:Addr}{xs ys zs:List V}{k:Nat}{js:List Nat}{g:TG}{te:TE}{Q:VK}{σ:St}{H:Hp}(n:Nat) (hn:n=xs.length) (hy:ys.length=n) (hz:zs.length=n) (h1:SqT K H a xs) (h2:SqT K H b ys) (h3:SqT K H c zs) (Pv:Nat->List V->St->Hp->Prop) (h0:Pv 0 [] (compSt k js σ) H) (hl:∀i us σ H,i≤n->Pv i us σ H->SqT K H a xs/\SqT K H b ys/\SqT K H c zs)
  (hs:∀i x y z us σ H T,i < n->xs[i]?=some x->ys[i]?=some y->zs[i]?=some z->Pv i us σ H->H T=none->g (.ref T) σ (upd H T (.tup [x,y,z])) λ σ3 H3=>te σ3 H3 λ v H4=>Pv (i+1) (us++[v]) σ3 H4) (hd:∀us σ H,Pv n us σ H->∀p,H p=none->Q (.ref p) (upd H p (.lst us))) (hlen:∀i us σ H,Pv i us σ H->us.length < sizeLine) :
  CompZ3 K k js g te σ [.ref a,.ref b,.ref c] H Q:=by
 subst hn
 refine ⟨a,b,c,xs,ys,zs,rfl,h1,h2,h3,λ i m us σ H=>m=xs.length - i/\i≤xs.length/\Pv i us σ H,⟨_,rfl,Nat.zero_le _,h0⟩,?_⟩
 rintro i m us σ H ⟨rfl,hi,p⟩
 obtain ⟨k1,k2,k3⟩:=hl i us σ H hi p
 by_cases hlt:i < xs.length
 ·refine .inr ⟨⟨xs,ys,zs,_,_,_,k1,k2,k3,List.getElem?_eq_getElem hlt,List.getElem?_eq_getElem (hy ▸ hlt),List.getElem?_eq_getElem (hz ▸ hlt)⟩,hlen _ _ _ _ p,Pv (i+1),λ us' σ' H' p'=>⟨xs.length - (i+1),by omega,rfl,hlt,p'⟩,λ v H' yy=>?_⟩
  obtain ⟨T,x,y,z,rfl,hT,rfl,ex⟩:=yy
  obtain ⟨ex1,ex2,ex3⟩:=ex xs ys zs k1 k2 k3
  exact hs i x y z us σ H T hlt ex1 ex2 ex3 p hT
 ·have e:i=xs.length:=by omega
  exact .inl ⟨⟨xs,k1,by omega⟩,hd us σ H (e ▸ p)⟩
def CompLI (K:PySem.W.Frag) (k:Nat) (js:List Nat) (g:TG) (tc:TT) (te:TE) (σ:St) (v:V) (H1:Hp) (Q:VK):Prop:=∃a,v=.ref a/\(∃xs,SqL K H1 a xs)/\∃W:Nat->Nat->List V->St->Hp->Prop,(∃m,W 0 m [] (compSt k js σ) H1)/\∀i m zs σ' H',W i m zs σ' H' ->
  ((Itl K a).stop i H'/\∀p,H' p=none->Q (.ref p) (upd H' p (.lst zs))) \/
  ((Itl K a).go i H'/\zs.length < sizeLine/\∃N:List V->St->Hp->Prop,(∀zs σ2 H2,N zs σ2 H2->∃m',m' < m/\W (i+1) m' zs σ2 H2)/\∀x H2,(Itl K a).yld i H' x H2->g x σ' H2 λ σ3 H3=>tc σ3 H3 λ b H4=>if b=true then te σ3 H4 λ v H5=>N (zs++[v]) σ3 H5 else N zs σ3 H4)
theorem y8o {K:W.Frag}{k:Nat}{js:List Nat}{tx:TE}{g:TG}{tc:TT}{te:TE}{σ:St}{H:Hp}{Q:VK}:tCompI (iList K tx) k js g tc te σ H Q=tx σ H λ v H1=>CompLI K k js g tc te σ v H1 Q:=rfl
theorem CompLI.mk {K:W.Frag}{a:Addr}{xs:List V}{k:Nat}{js:List Nat}{g:TG}{tc:TT}{te:TE}{Q:VK}{σ:St}{H:Hp}(h1:SqL K H a xs) (Pv:Nat->List V->St->Hp->Prop) (h0:Pv 0 [] (compSt k js σ) H) (hl:∀i zs σ H,i≤xs.length->Pv i zs σ H->SqL K H a xs/\zs.length < sizeLine)
  (hs:∀i x zs σ H,xs[i]?=some x->Pv i zs σ H->g x σ H λ σ3 H3=>tc σ3 H3 λ b H4=>if b=true then te σ3 H4 λ v H5=>Pv (i+1) (zs++[v]) σ3 H5 else Pv (i+1) zs σ3 H4) (hz:∀zs σ H,Pv xs.length zs σ H->∀p,H p=none->Q (.ref p) (upd H p (.lst zs))) :
  CompLI K k js g tc te σ (.ref a) H Q:=by
 refine ⟨a,rfl,⟨xs,h1⟩,λ i m zs σ H=>m=xs.length - i/\i≤xs.length/\Pv i zs σ H,⟨_,rfl,Nat.zero_le _,h0⟩,?_⟩
 rintro i m zs σ H ⟨rfl,hi,p⟩
 obtain ⟨k1,k2⟩:=hl i zs σ H hi p
 by_cases hlt:i < xs.length
 ·refine .inr ⟨⟨xs,_,k1,List.getElem?_eq_getElem hlt⟩,k2,Pv (i+1),λ zs' σ' H' p'=>⟨xs.length - (i+1),by omega,rfl,hlt,p'⟩,λ v H' yy=>?_⟩
  obtain ⟨rfl,ex⟩:=yy
  exact hs i v zs σ _ (ex xs k1) p
 ·have e:i=xs.length:=by omega
  exact .inl ⟨⟨xs,k1,by omega⟩,hz zs σ H (e ▸ p)⟩
def CompRI (lo:Int) (n k:Nat) (js:List Nat) (g:TG) (tc:TT) (te:TE) (σ:St) (H1:Hp) (Q:VK):Prop:=∃W:Nat->Nat->List V->St->Hp->Prop,(∃m,W 0 m [] (compSt k js σ) H1)/\∀i m zs σ' H',W i m zs σ' H' ->
  ((Itr lo n).stop i H'/\∀p,H' p=none->Q (.ref p) (upd H' p (.lst zs))) \/
  ((Itr lo n).go i H'/\zs.length < sizeLine/\∃N:List V->St->Hp->Prop,(∀zs σ2 H2,N zs σ2 H2->∃m',m' < m/\W (i+1) m' zs σ2 H2)/\∀x H2,(Itr lo n).yld i H' x H2->g x σ' H2 λ σ3 H3=>tc σ3 H3 λ b H4=>if b=true then te σ3 H4 λ v H5=>N (zs++[v]) σ3 H5 else N zs σ3 H4)
theorem y8l {k:Nat}{js:List Nat}{ta:TA}{g:TG}{tc:TT}{te:TE}{σ:St}{H:Hp}{Q:VK}:tCompI (iRng1 ta) k js g tc te σ H Q=ta σ H λ vs H1=>∃j:Int,vs=[.int j]/\-(2 ^ 62)≤j/\j < 2 ^ 62/\CompRI 0 j.toNat k js g tc te σ H1 Q:=rfl
theorem CompRI.mk {lo:Int}{n k:Nat}{js:List Nat}{g:TG}{tc:TT}{te:TE}{Q:VK}{σ:St}{H:Hp}(Pv:Nat->List V->St->Hp->Prop) (h0:Pv 0 [] (compSt k js σ) H) (hl:∀i zs σ H,i≤n->Pv i zs σ H->zs.length < sizeLine)
  (hs:∀i zs σ H,i < n->Pv i zs σ H->g (.int (lo+i)) σ H λ σ3 H3=>tc σ3 H3 λ b H4=>if b=true then te σ3 H4 λ v H5=>Pv (i+1) (zs++[v]) σ3 H5 else Pv (i+1) zs σ3 H4) (hz:∀zs σ H,Pv n zs σ H->∀p,H p=none->Q (.ref p) (upd H p (.lst zs))) :
  CompRI lo n k js g tc te σ H Q:=by
 refine ⟨λ i m zs σ H=>m=n - i/\i≤n/\Pv i zs σ H,⟨_,rfl,Nat.zero_le _,h0⟩,?_⟩
 rintro i m zs σ H ⟨rfl,hi,p⟩
 by_cases hlt:i < n
 ·refine .inr ⟨hlt,hl i zs σ H hi p,Pv (i+1),λ zs' σ' H' p'=>⟨n - (i+1),by omega,rfl,hlt,p'⟩,λ v H' yy=>?_⟩
  obtain ⟨rfl,rfl⟩:=yy
  exact hs i zs σ _ hlt p
 ·have e:i=n:=by omega
  exact .inl ⟨show n≤i by omega,hz zs σ H (e ▸ p)⟩
end L2
namespace PySem.W.Fast
theorem tw3810739942289463845:True:=⟨⟩
theorem tw6381045939608718486:True:=⟨⟩
theorem tw3841251143728978015:True:=⟨⟩
theorem tw9174808981019204923:True:=⟨⟩
theorem tw5929414406736905144:True:=⟨⟩
theorem tw17953450522747323273:True:=⟨⟩
theorem tw2927643339116824107:True:=⟨⟩
theorem tw3874106668418741785:True:=⟨⟩
theorem tw7570357836592005653:True:=⟨⟩
theorem tw13983558555646036656:True:=⟨⟩
theorem tw15386855189139744270:True:=⟨⟩
theorem tw11414098065142485276:True:=⟨⟩
theorem tw9169184019000796992:True:=⟨⟩
theorem tw6303789257563669402:True:=⟨⟩
theorem tw96893839669649501:True:=⟨⟩
theorem tw14524227821994956372:True:=⟨⟩
theorem tw15047076347900530601:True:=⟨⟩
theorem tw13982280546853862710:True:=⟨⟩
theorem tw13527812833124964605:True:=⟨⟩
theorem tw834641640249245544:True:=⟨⟩
theorem tw5604240440219028365:True:=⟨⟩
theorem tw9636177470055004714:True:=⟨⟩
theorem tw14354348197471033520:True:=⟨⟩
theorem tw1603882904872484407:True:=⟨⟩
theorem tw16227897081167943946:True:=⟨⟩
theorem tw5642527491950530619:True:=⟨⟩
theorem tw1828494153929381861:True:=⟨⟩
theorem tw17257907602179081765:True:=⟨⟩
theorem tw6786177182536864606:True:=⟨⟩
theorem tw7518211000750814632:True:=⟨⟩
theorem tw4306670458573932040:True:=⟨⟩
theorem tw12498196685243577886:True:=⟨⟩
theorem tw8052130774472598757:True:=⟨⟩
theorem tw2107213703160471673:True:=⟨⟩
theorem tw5011842932491133098:True:=⟨⟩
theorem tw2235871495782082328:True:=⟨⟩
theorem tw10983241229372431565:True:=⟨⟩
theorem tw724897969476411354:True:=⟨⟩
theorem tw1097677456707941365:True:=⟨⟩
theorem tw15010178761282010473:True:=⟨⟩
theorem tw5724911351428953596:True:=⟨⟩
theorem tw13729988600642111107:True:=⟨⟩
theorem tw1645749494209433586:True:=⟨⟩
theorem tw9788026140318480685:True:=⟨⟩
theorem tw12686746996817239908:True:=⟨⟩
theorem tw10859665806362262039:True:=⟨⟩
theorem tw4133843381998462104:True:=⟨⟩
theorem tw18145996036099974059:True:=⟨⟩
theorem tw12333452108198462013:True:=⟨⟩
theorem tw8814031318797477116:True:=⟨⟩
theorem tw293681166704429547:True:=⟨⟩
theorem tw13338887488370968631:True:=⟨⟩
theorem tw15470102502423684503:True:=⟨⟩
theorem tw10167628506702486345:True:=⟨⟩
theorem tw10844256430431725744:True:=⟨⟩
theorem tw15238477037300057188:True:=⟨⟩
theorem tw13352072081392156610:True:=⟨⟩
theorem tw8687220226480562714:True:=⟨⟩
theorem tw5940865095607921914:True:=⟨⟩
theorem tw8819459137981915318:True:=⟨⟩
theorem tw10177731058036958044:True:=⟨⟩
theorem tw15759460848498266135:True:=⟨⟩
theorem tw9076498242127980342:True:=⟨⟩
theorem tw17897449880306827026:True:=⟨⟩
theorem tw3160769161126103340:True:=⟨⟩
theorem tw4938551977679610707:True:=⟨⟩
theorem tw1829004120138373335:True:=⟨⟩
theorem tw8018169042947400622:True:=⟨⟩
theorem tw14784943691036743147:True:=⟨⟩
theorem tw9179378138883554099:True:=⟨⟩
theorem tw360656367030401360:True:=⟨⟩
theorem tw9095871574297629083:True:=⟨⟩
theorem tw6122488034888107073:True:=⟨⟩
theorem tw15254555813509951497:True:=⟨⟩
theorem tw3065634819405864050:True:=⟨⟩
theorem tw8229468878146554647:True:=⟨⟩
theorem tw12932919322482438147:True:=⟨⟩
theorem tw4001666731596189810:True:=⟨⟩
theorem tw9501908848524933676:True:=⟨⟩
theorem tw11057248654324214429:True:=⟨⟩
theorem tw6632492366519462648:True:=⟨⟩
theorem tw17006348096907893405:True:=⟨⟩
theorem tw2038986633153416853:True:=⟨⟩
theorem tw13325824837291156849:True:=⟨⟩
theorem tw5014454618291231778:True:=⟨⟩
theorem tw17490631674447440669:True:=⟨⟩
theorem tw16921667510491274573:True:=⟨⟩
theorem tw4281158401789942642:True:=⟨⟩
theorem tw7628352169989388984:True:=⟨⟩
theorem tw1627808501191775511:True:=⟨⟩
theorem tw130453865215987403:True:=⟨⟩
theorem tw13442496844874301707:True:=⟨⟩
theorem tw8232527568413522987:True:=⟨⟩
theorem tw6909673937569433079:True:=⟨⟩
theorem tw5078841730365838429:True:=⟨⟩
theorem tw8992882538891860049:True:=⟨⟩
theorem tw11652400702082043364:True:=⟨⟩
theorem tw12102724270703336452:True:=⟨⟩
theorem tw7812824477970697684:True:=⟨⟩
theorem tw9829119931232790358:True:=⟨⟩
theorem tw15970681990832575923:True:=⟨⟩
theorem tw1901480119148381431:True:=⟨⟩
theorem tw6877984650195158467:True:=⟨⟩
theorem tw370046784021762964:True:=⟨⟩
theorem tw16086874584786085716:True:=⟨⟩
theorem tw7673779105789908037:True:=⟨⟩
theorem tw15759530069576118813:True:=⟨⟩
theorem tw5526970876957775382:True:=⟨⟩
theorem tw3849995396015456160:True:=⟨⟩
theorem tw5131454796114985246:True:=⟨⟩
theorem tw6399692817855736350:True:=⟨⟩
theorem tw8259675351082925505:True:=⟨⟩
theorem tw9881869383826991511:True:=⟨⟩
theorem tw3155635469614022070:True:=⟨⟩
theorem tw433744521848653279:True:=⟨⟩
theorem tw11038265095687760316:True:=⟨⟩
theorem tw10583028945792935290:True:=⟨⟩
theorem tw9286341803592890283:True:=⟨⟩
theorem tw1114675758332053326:True:=⟨⟩
theorem tw10668786013068506481:True:=⟨⟩
theorem tw4135840939755060362:True:=⟨⟩
theorem tw2324851843887725988:True:=⟨⟩
theorem tw15876143393070678908:True:=⟨⟩
theorem tw1091315435580912299:True:=⟨⟩
theorem tw17175651303717908686:True:=⟨⟩
theorem tw6934369677186332998:True:=⟨⟩
theorem tw14455586138782001581:True:=⟨⟩
theorem tw14261096563517650900:True:=⟨⟩
theorem tw3276645837738924516:True:=⟨⟩
theorem tw11940350581549564305:True:=⟨⟩
theorem tw4886287950353048291:True:=⟨⟩
theorem tw405305556263755587:True:=⟨⟩
theorem tw17581542889021178598:True:=⟨⟩
theorem tw1119513441125607106:True:=⟨⟩
theorem tw1059985838946039726:True:=⟨⟩
theorem tw7009119169780559954:True:=⟨⟩
theorem tw13924330105149572568:True:=⟨⟩
theorem tw4792745424968125280:True:=⟨⟩
theorem tw15366116010961301929:True:=⟨⟩
theorem tw17128046925802432135:True:=⟨⟩
theorem tw17402858967177503162:True:=⟨⟩
theorem tw16956471713225618959:True:=⟨⟩
theorem tw9401343421415140634:True:=⟨⟩
theorem tw4855287494777266589:True:=⟨⟩
theorem tw10096820042909975350:True:=⟨⟩
theorem tw8511483465238078886:True:=⟨⟩
theorem tw17346378535692026845:True:=⟨⟩
theorem tw5321437925096777818:True:=⟨⟩
theorem tw7328243913304323787:True:=⟨⟩
theorem tw12606824265499896064:True:=⟨⟩
theorem tw12267498910627073201:True:=⟨⟩
theorem tw8514938127633507616:True:=⟨⟩
theorem tw11518196581911803037:True:=⟨⟩
theorem tw1770798961033345016:True:=⟨⟩
theorem tw9789829945712235695:True:=⟨⟩
theorem tw8027836096524382662:True:=⟨⟩
theorem tw3406678484319176282:True:=⟨⟩
theorem tw3579696248359898655:True:=⟨⟩
theorem tw1901864493939437128:True:=⟨⟩
theorem tw5876767488108834187:True:=⟨⟩
theorem tw6330881822430263611:True:=⟨⟩
theorem tw6465752536264341360:True:=⟨⟩
theorem tw6175590076310339531:True:=⟨⟩
theorem tw2384366476817009883:True:=⟨⟩
theorem tw10776430932481792391:True:=⟨⟩
theorem tw14990573747687978221:True:=⟨⟩
theorem tw12161322267043147306:True:=⟨⟩
theorem tw10001573490811392857:True:=⟨⟩
theorem tw18436335836033917143:True:=⟨⟩
theorem tw12930767201807655266:True:=⟨⟩
theorem tw13523156682490759841:True:=⟨⟩
theorem tw10119741345019054948:True:=⟨⟩
theorem tw771660863451598946:True:=⟨⟩
theorem tw5899526946596500744:True:=⟨⟩
theorem tw7380921913877770228:True:=⟨⟩
theorem tw10200289883590153125:True:=⟨⟩
end PySem.W.Fast
namespace My
open PySem L2 PyProof.Rows
local macro_rules | `(tactic| wp_walk using $xs:term,*)=>`(tactic| simp only [rPopAt,rCount,tBMf,rStarts,rSlStrX,tKTab,rKTab,tKIn,x0o,y8h,y8k,gTup,rJoinD,rJoinW,rMulS,rIxQ,rExtend,rSplit,rInN,rMulC,tDGet1,tDIn,sDPut,tDNewK,rRep,rExtendT,rUpdate,rEqD,rNeD,x3k,x1e,x0q,tCalV,tLam,tCalF,tDef,x3m,rIndex,rIndexT,x0n,y8g,y8j,y8o,y8l,x0p,y8i,rCatL,x3h,x1c,rFind,tFR,rSlStr,rUpper,rJoin,tBM0,tBM,tyV,x0u,rSlTA,x1g,y8p,rNeT,rNeL,tRaise,tTry,tCallX,caughtBy,goneEnds,tTupRev,rCatA,rEqL,rEqT,x3i,x3g,x1b,x0r,y8m,rCatS,rSlTS,tSl,tNoPart,tPart,rSetL,gSub,rIxT,tRet,tRetN,tNext,tVar,tC,tOp,tUn,rI,rI0,rU,rEq,rNe,tTest,tB,tNot,tAnd,tOr,tAndV,tOrV,tNotV,tIf,tCall,tCB,tNil,tCons,tChain,tLst,tTup,tAsg,gName,tDrop,tNever,rIxL,rCat,CPow,CMul,CDiv,CDivN,CDivW,L2.start,scal,x3l,x3j,x0t,x0s,x1f,x1d,y8n,x6j,x0y,x5y,x5z,x6a,x6b,x5x,tyS,tApp,gTupH,gCons,gNil,rInT,rInL,rIxLH,rIxTH,flatV,z0h,HO.lst.injEq,HO.tup.injEq,List.any_cons,List.any_nil,List.all_cons,List.all_nil,Bool.or_false,Bool.and_self,Bool.and_true,Bool.or_eq_true,beq_iff_eq,V.int.injEq,V.bl.injEq,V.str.injEq,V.ref.injEq,V.ty.injEq,List.map_cons,List.map_nil,List.length_cons,List.length_nil,List.cons_append,List.nil_append,List.getElem?_cons_zero,List.getElem?_cons_succ,Option.some.injEq,exists_eq_left',exists_eq_left,exists_and_left,List.cons.injEq,and_true,true_and,and_assoc,decide_eq_true_eq,List.set_cons_zero,List.set_cons_succ,List.replicate,Nat.sub_self,List.append_nil,Nat.add_sub_cancel,Nat.reduceAdd,Nat.reduceSub,Int.reduceLT,Int.reduceLE,Int.reduceNeg,Int.reduceSub,Int.reduceAdd,Int.reducePow,Int.reduceToNat,na2,x7o,Nat.reducePow,Nat.reduceLT,if_true,if_false,Bool.not_true,Bool.not_false,Bool.false_eq_true,List.mem_cons,List.not_mem_nil,eq_self,true_or,or_true,or_false,false_or,String.reduceEq,Option.isSome_some,ne_eq,not_false_eq_true,not_true_eq_false,Bool.not_eq_true',decide_eq_false_iff_not,Bool.true_eq_false,$[$xs:term],*])
def top (i:Nat):Stmt:=PySem.Challenge.pw_sideloom_k19_whole_folds_go_with_moves.main.body.getD i (.Pass ⟨0,0,0,0⟩)
instance (k:Nat) (x:Str):Decidable (okS k x):=by unfold okS;infer_instance
def prodI (ns:List Int):Int:=ns.foldl (λ a b=>a * b) 1
theorem z5c {ns:List Int}{i:Nat}{x:Int}(h:ns[i]?=some x):prodI (ns.take (i+1))=prodI (ns.take i) * x:=by
 unfold prodI
 rw [List.take_add_one,h,List.foldl_append]
 rfl
def sdOk (ns:List Int):Prop:=∀n∈ns,0≤n/\n < 1000000000000000000
def one1 (n:Int):Int:=if n=0 then 1 else n
theorem x5f {ns:List Int}(h:sdOk ns):sdOk (ns.map one1):=by
 intro n hn
 obtain ⟨m,hm,rfl⟩:=List.mem_map.mp hn
 have:=h m hm
 unfold one1
 split<;>omega
theorem y0o {ns:List Int}(h:sdOk ns) {i:Nat}{x:V}(e:(ns.map V.int)[i]?=some x):∃m,x=.int m/\ns[i]?=some m/\0≤m/\m < 1000000000000000000:=by
 rw [List.getElem?_map] at e
 cases q:ns[i]? with
 | none=>rw [q] at e;cases e
 | some m =>
  rw [q] at e
  exact ⟨m,(Option.some.inj e).symm,rfl,h m (List.mem_of_getElem? q)⟩
def stP (ns:List Int) (j:Nat):Int:=prodI (ns.reverse.take j)
def stL (ns:List Int) (i:Nat):List Int:=(List.range i).map (stP ns)
theorem z8a (ns:List Int) (i:Nat):stL ns (i+1)=stL ns i++[stP ns i]:=by
 unfold stL;rw [List.range_succ,List.map_append];rfl
theorem y1z {ns:List Int}{i:Nat}{m:Int}(hi:i < ns.length) (h:ns[ns.length - 1 - i]?=some m):stP ns (i+1)=stP ns i * m:=by
 unfold stP
 exact z5c (by rw [List.getElem?_reverse hi];exact h)
def bigI (ns:List Int):Prop:=6 < ns.length\/512 < prodI (ns.map one1)
def spallowed (C:Addr):Sp:=λ vs H Q E=>∃(a:Addr) (ns:List Int),vs=[.ref a]/\H a=some (.tup (ns.map V.int))/\sdOk ns/\ns.length≤63/\(bigI ns->∀H',Same H H'->E (.ref C) none H')/\(¬bigI ns->∀H',Same H H'->Q (.ref a) H')
theorem z0i {A B:TS}{D:Ends}{σ:L2.St}{H:Hp}(J:L2.St->Hp->Prop) (h2:∀σ H,J σ H->B D σ H) (h1:∀R:L2.St->Hp->Prop,(∀σ H,J σ H->R σ H)->A { D with nx:=R } σ H):tSeq A B D σ H:=h1 (B D) h2
theorem x4a (ns:List Int):((stL ns ns.length).reverse.map V.int).length=ns.length:=by rw [List.length_map,List.length_reverse,stL,List.length_map,List.length_range]
theorem x1t {n:Int}(h:0≤n):(if n > 1 then n else 1)=one1 n:=by
 unfold one1
 by_cases h1:n=0
 ·rw [if_pos h1,if_neg (by omega)]
 ·rw [if_neg h1];split<;>omega
theorem z0l (ns:List Int):(ns.map V.int).length=ns.length:=List.length_map ..
def good (ns ms:List Int):Prop:=ms.length=ns.length/\∀(i:Nat) m n,ms[i]?=some m->ns[i]?=some n->0≤m/\m < n
def dotI (ms ss:List Int):Int:=(List.zipWith (λ a b=>a * b) ms ss).sum
def spplaceof (C:Addr):Sp:=λ vs H Q E=>∃(a b:Addr) (ns ms:List Int),vs=[.ref a,.ref b]/\H a=some (.tup (ns.map V.int))/\H b=some (.tup (ms.map V.int))/\sdOk ns/\ns.length≤63/\ms.length≤70/\(¬good ns ms->∀H',Same H H'->E (.ref C) none H')/\(good ns ms->∀H',Same H H'->Q (.int (dotI ms (stL ns ns.length).reverse)) H')
theorem z3r {ms:List Int}{i:Nat}{y:V}(ey:(ms.map V.int)[i]?=some y):∃m,y=.int m/\ms[i]?=some m:=by
 rw [List.getElem?_map] at ey
 cases q:ms[i]? with
 | none=>rw [q] at ey;cases ey
 | some m=>rw [q] at ey;exact ⟨m,(Option.some.inj ey).symm,rfl⟩
def lfI (ns:List Int) (place:Int):Nat->Int
 | 0=>place
 | i+1=>lfI ns place i / ns.reverse.getD i 1
def dgI (ns:List Int) (place:Int) (i:Nat):Int:=lfI ns place i % ns.reverse.getD i 1
def dgL (ns:List Int) (place:Int) (i:Nat):List Int:=(List.range i).map (dgI ns place)
theorem y2v (ns:List Int) (p:Int) (i:Nat):dgL ns p (i+1)=dgL ns p i++[dgI ns p i]:=by
 unfold dgL;rw [List.range_succ,List.map_append];rfl
theorem z8k {ns:List Int}{i:Nat}{m:Int}(hi:i < ns.length) (h:ns[ns.length - 1 - i]?=some m):ns.reverse.getD i 1=m:=by
 rw [List.getD_eq_getElem?_getD,List.getElem?_reverse hi,h];rfl
theorem z6c (xs:List Int) (y:Int):prodI (xs++[y])=prodI xs * y:=by unfold prodI;rw [List.foldl_append];rfl
theorem y5v (xs:List Int):∀a:Int,xs.foldl (λ a b=>a * b) a=a * prodI xs:=by
 induction xs with
 | nil=>intro a;show a=a * 1;rw [Int.mul_one]
 | cons x xs ih=>intro a;show xs.foldl (λ a b=>a * b) (a * x)=a * (xs.foldl (λ a b=>a * b) (1 * x));rw [ih,ih (1 * x),Int.one_mul,Int.mul_assoc]
theorem z0u (x:Int) (xs:List Int):prodI (x::xs)=x * prodI xs:=by
 show xs.foldl (λ a b=>a * b) (1 * x)=_
 rw [y5v,Int.one_mul]
theorem y9q (ns:List Int):prodI ns.reverse=prodI ns:=by
 induction ns with
 | nil=>rfl
 | cons x xs ih=>rw [List.reverse_cons,z6c,z0u,ih,Int.mul_comm]
theorem y0y {ns:List Int}(h:prodI ns≠0):∀n∈ns,n≠0:=by
 induction ns with
 | nil=>intro n hn;cases hn
 | cons x xs ih =>
  rw [z0u] at h
  intro n hn
  rcases List.mem_cons.mp hn with rfl | hn
  ·intro z;rw [z,Int.zero_mul] at h;exact h rfl
  ·exact ih (λ z=>h (by rw [z,Int.mul_zero])) n hn
theorem y5f (ns:List Int):stP ns ns.length=prodI ns:=by
 unfold stP;rw [← List.length_reverse,List.take_length,y9q]
theorem z5m {ns:List Int}(h:∀n∈ns,0≤n):0≤prodI ns:=by
 induction ns with
 | nil=>decide
 | cons x xs ih=>rw [z0u];exact Int.mul_nonneg (h x (List.mem_cons_self ..)) (ih λ n hn=>h n (List.mem_cons_of_mem _ hn))
theorem x1o {ns:List Int}(h:sdOk ns) (i:Nat):0≤stP ns i:=z5m λ n hn=>(h n (List.mem_reverse.mp (List.mem_of_mem_take hn))).1
def totI (ns:List Int) (pl:Int):Nat->Int
 | 0=>0
 | i+1=>totI ns pl i+dgI ns pl i * stP ns i
theorem y8u (ns:List Int) {i:Nat}(hi:i < ns.length):∃m,ns[ns.length - 1 - i]?=some m/\m∈ns:=by
 have z:ns.length - 1 - i < ns.length:=by omega
 exact ⟨ns[ns.length - 1 - i],List.getElem?_eq_getElem z,List.getElem_mem z⟩
theorem y5a {ns:List Int}{pl:Int}:∀i,i≤ns.length->totI ns pl i+stP ns i * lfI ns pl i=pl
 | 0,_=>by show 0+1 * pl=pl;omega
 | i+1,h=>by
  obtain ⟨m,hm,_⟩:=y8u ns (i:=i) (by omega)
  have ih:=y5a (ns:=ns) (pl:=pl) i (by omega)
  rw [y1z (by omega) hm]
  show totI ns pl i+dgI ns pl i * stP ns i+stP ns i * m * (lfI ns pl i / _)=pl
  have rg:=z8k (by omega) hm
  unfold dgI
  rw [rg]
  have e:=Int.mul_ediv_add_emod (lfI ns pl i) m
  have e2:stP ns i * m * (lfI ns pl i / m)=stP ns i * (m * (lfI ns pl i / m)):=Int.mul_assoc ..
  have e3:stP ns i * (m * (lfI ns pl i / m))+stP ns i * (lfI ns pl i % m)=stP ns i * lfI ns pl i:=by rw [← Int.mul_add,e]
  have e4:lfI ns pl i % m * stP ns i=stP ns i * (lfI ns pl i % m):=Int.mul_comm ..
  omega
theorem x5q {ns:List Int}{pl:Int}(h:sdOk ns) (h0:0≤pl):∀i,i≤ns.length->0≤lfI ns pl i
 | 0,_=>h0
 | i+1,hi=>by
  obtain ⟨m,hm,mm⟩:=y8u ns (i:=i) (by omega)
  show 0≤lfI ns pl i / _
  rw [z8k (by omega) hm]
  exact Int.ediv_nonneg (x5q h h0 i (by omega)) (h m mm).1
theorem x6h {ns:List Int}{pl:Int}(nz:∀n∈ns,n≠0) (h:sdOk ns) {i:Nat}{m:Int}(hi:i < ns.length) (hm:ns[ns.length - 1 - i]?=some m):0≤dgI ns pl i/\dgI ns pl i < m:=by
 unfold dgI
 rw [z8k hi hm]
 have mm:=List.mem_of_getElem? hm
 have m0:=(h m mm).1
 have mz:=nz m mm
 exact ⟨Int.emod_nonneg _ mz,Int.emod_lt_of_pos _ (by omega)⟩
theorem x1l {ns:List Int}{pl:Int}(nz:∀n∈ns,n≠0) (h:sdOk ns):∀i,i≤ns.length->0≤totI ns pl i
 | 0,_=>Int.le_refl _
 | i+1,hi=>by
  obtain ⟨m,hm,_⟩:=y8u ns (i:=i) (by omega)
  have a1:=x1l (pl:=pl) nz h i (by omega)
  have a2:=Int.mul_nonneg (x6h (pl:=pl) nz h (by omega) hm).1 (x1o h i)
  show 0≤totI ns pl i+_
  omega
theorem x2i {ns:List Int}{pl:Int}(h:sdOk ns) (h0:0≤pl) (h1:pl < prodI ns):totI ns pl ns.length=pl:=by
 have nz:=y0y (ns:=ns) (by omega)
 have e:=y5a (ns:=ns) (pl:=pl) ns.length (Nat.le_refl _)
 have t:=x1l (pl:=pl) nz h ns.length (Nat.le_refl _)
 have l:=x5q h h0 ns.length (Nat.le_refl _)
 have z:lfI ns pl ns.length=0:=by
  refine Decidable.byContradiction λ nl=>?_
  have g:=Int.mul_le_mul_of_nonneg_left (show 1≤lfI ns pl ns.length by omega) (x1o h ns.length)
  rw [y5f] at g e
  omega
 rw [z,Int.mul_zero] at e
 omega
theorem x6i {ns:List Int}{pl:Int}{k:Nat}(hk:k < ns.length):(dgL ns pl ns.length).reverse[k]?=some (dgI ns pl (ns.length - 1 - k)):=by
 have l:(dgL ns pl ns.length).length=ns.length:=by rw [dgL,List.length_map,List.length_range]
 have z:ns.length - 1 - k < ns.length:=by omega
 rw [List.getElem?_reverse (by rw [l];exact hk),l,dgL,List.getElem?_map,List.getElem?_range z]
 rfl
theorem y7z (ns:List Int) (pl:Int):∀n,dotI (dgL ns pl n).reverse (stL ns n).reverse=totI ns pl n
 | 0=>rfl
 | n+1=>by
  rw [y2v,z8a,List.reverse_append,List.reverse_append]
  show dgI ns pl n * stP ns n+dotI (dgL ns pl n).reverse (stL ns n).reverse=totI ns pl n+dgI ns pl n * stP ns n
  rw [y7z ns pl n,Int.add_comm]
theorem x3p {ns:List Int}{pl:Int}(nz:∀n∈ns,n≠0) (h:sdOk ns):good ns (dgL ns pl ns.length).reverse:=by
 refine ⟨by rw [List.length_reverse,dgL,List.length_map,List.length_range],λ i m n hm hn=>?_⟩
 have hi:=(List.getElem?_eq_some_iff.mp hn).1
 rw [x6i hi] at hm
 cases hm
 exact x6h nz h (by omega) (by rw [show ns.length - 1 - (ns.length - 1 - i)=i by omega];exact hn)
def spatof (C:Addr):Sp:=λ vs H Q E=>∃(a:Addr) (ns:List Int) (pl:Int),vs=[.ref a,.int pl]/\H a=some (.tup (ns.map V.int))/\sdOk ns/\ns.length≤63/\((pl < 0\/prodI ns≤pl)->∀H',Same H H'->E (.ref C) none H')/\(0≤pl->pl < prodI ns->∀H' p,Same H H'->H' p=some (.tup ((dgL ns pl ns.length).reverse.map V.int))->Q (.ref p) H')
def cellI (ns:List Int) (k:Nat):Int:=ns.getD k 0
def fit (ns:List Int):Prop:=(∀n∈ns,0≤n/\n≤512)/\ns.length≤6/\1≤prodI (ns.map one1)/\prodI (ns.map one1)≤512
def grow (ns:List Int) (free:Int) (i:Nat):Prop:=(∀n∈ns,0≤n/\n≤512)/\ns.length=i/\1≤free/\free≤512/\1≤prodI (ns.map one1)/\free * prodI (ns.map one1)≤512
theorem x0k {ns:List Int}{free:Int}{i:Nat}(h:grow ns free i) (hi:i≤6):fit ns:=by
 obtain ⟨h1,h2,h3,h4,h5,h6⟩:=h
 refine ⟨h1,by omega,h5,?_⟩
 have:=Int.mul_le_mul_of_nonneg_right h3 (show 0≤prodI (ns.map one1) by omega)
 omega
theorem y7n {ns:List Int}{free m:Int}{i:Nat}(h:grow ns free i) (m0:0≤m) (m1:m≤free):grow (ns++[m]) (free / one1 m) (i+1):=by
 obtain ⟨h1,h2,h3,h4,h5,h6⟩:=h
 have o1:1≤one1 m/\one1 m≤free:=by unfold one1;split<;>omega
 have d1:1≤free / one1 m:=by rw [Int.le_ediv_iff_mul_le (by omega)];omega
 have d2:free / one1 m * one1 m≤free:=Int.ediv_mul_le _ (by omega)
 have d3:free / one1 m≤512:=Int.le_trans (Int.ediv_le_self _ (by omega)) h4
 have e:prodI ((ns++[m]).map one1)=prodI (ns.map one1) * one1 m:=by rw [List.map_append];exact z6c _ _
 refine ⟨λ n hn=>?_,by rw [List.length_append,h2];rfl,d1,d3,?_,?_⟩
 ·rcases List.mem_append.mp hn with hn | hn
  ·exact h1 n hn
  ·cases List.mem_singleton.mp hn;omega
 ·rw [e]
  have:=Int.mul_le_mul_of_nonneg_right h5 (show 0≤one1 m by omega)
  omega
 ·rw [e]
  have z1:free / one1 m * (prodI (ns.map one1) * one1 m)=free / one1 m * one1 m * prodI (ns.map one1):=by rw [Int.mul_comm (prodI _),Int.mul_assoc]
  have z2:=Int.mul_le_mul_of_nonneg_right d2 (show 0≤prodI (ns.map one1) by omega)
  omega
def Pair (H:Hp) (p:Addr) (w:String) (ms:List Int):Prop:=∃q,H p=some (.tup [.str w,.ref q])/\H q=some (.tup (ms.map V.int))
theorem Pair.same {H H':Hp}{p:Addr}{w:String}{ms:List Int}(h:Pair H p w ms) (s:Same H H'):Pair H' p w ms:=let ⟨q,a,b⟩:=h;⟨q,s _ _ a,s _ _ b⟩
def off (ns:List Int) (side:Int):Prop:=side < 0\/(ns.length:Int)≤side
def bad (ns:List Int) (side first many step:Int):Prop:=first < 0\/many < 0\/step < 1\/(0 < many/\ns.getD side.toNat 0≤first+(many - 1) * step)
def spask (C:Addr):Sp:=λ vs H Q E=>∃(a:Addr) (ns:List Int) (side:Int),vs=[.ref a,.int side]/\H a=some (.tup (ns.map V.int))/\(off ns side->E (.ref C) none H)/\(¬off ns side->Q .non H)
def spflip (C:Addr):Sp:=λ vs H Q E=>∃(a:Addr) (ns:List Int) (side:Int),vs=[.ref a,.int side]/\H a=some (.tup (ns.map V.int))/\(off ns side->E (.ref C) none H)/\(¬off ns side->Q (.ref a) H)
def spfolded (C:Addr):Sp:=λ vs H Q E=>∃(a:Addr) (ns:List Int) (side:Int),vs=[.ref a,.int side]/\H a=some (.tup (ns.map V.int))/\ns.length≤63/\(off ns side->E (.ref C) none H)/\(¬off ns side->∀H' p,Same H H'->H' p=some (.tup ((ns.eraseIdx side.toNat).map V.int))->Q (.ref p) H')
def spcut (C D:Addr):Sp:=λ vs H Q E=>∃(a:Addr) (ns:List Int) (side first many step:Int),vs=[.ref a,.int side,.int first,.int many,.int step]/\H a=some (.tup (ns.map V.int))/\ns.length≤63/\-100 < many/\many < 1000000/\(off ns side->E (.ref C) none H)/\(¬off ns side->bad ns side first many step->E (.ref D) none H)/\(¬off ns side->¬bad ns side first many step->∀H' p,Same H H'->H' p=some (.tup ((ns.set side.toNat many).map V.int))->Q (.ref p) H')
theorem y0a {ns:List Int}{k:Nat}(h:k≤ns.length):cutV (ns.map V.int) none (some (k:Int))=(ns.take k).map V.int:=by
 unfold cutV;simp only [HT.sIx,z0l];rw [if_neg (by omega),List.drop_zero,List.map_take];congr 1;omega
theorem y2x {ns:List Int}{k:Nat}(h:k≤ns.length):cutV (ns.map V.int) (some (k:Int)) none=(ns.drop k).map V.int:=by
 unfold cutV;simp only [HT.sIx,z0l];rw [if_neg (by omega),List.map_drop,show min (k:Int).toNat ns.length=k by omega,List.take_of_length_le (by simp)]
theorem y1s {ns:List Int}{side:Int}(h:¬off ns side):∃k:Nat,side=k/\k < ns.length:=by
 unfold off at h
 exact ⟨side.toNat,by omega,by omega⟩
theorem z3h {ns:List Int}{k:Nat}(h:k < ns.length):atI (ns.map V.int) (k:Int)=some (.int (ns.getD k 0)):=z0v (by rw [List.getElem?_map,List.getElem?_eq_getElem h,List.getD_eq_getElem?_getD,List.getElem?_eq_getElem h];rfl)
instance (ns:List Int):Decidable (bigI ns):=by unfold bigI;infer_instance
theorem z3b (ns:List Int) (k:Nat):cutV (ns.map V.int) none (some (k:Int))=(ns.take k).map V.int:=by
 unfold cutV;simp only [HT.sIx,z0l];rw [if_neg (by omega),List.drop_zero,Nat.sub_zero,← List.map_take];congr 1
 by_cases c:k≤ns.length
 ·congr 1;omega
 ·rw [List.take_of_length_le (by omega),List.take_of_length_le (by omega)]
theorem z5i:∀(ns ms:List Int),eqVs (ns.map V.int) (ms.map V.int)=decide (ns=ms)
 | [],[]=>rfl
 | [],m::ms=>by simp [eqVs]
 | n::ns,[]=>by simp [eqVs]
 | n::ns,m::ms=>by
  by_cases e:n=m
  ·subst e;simp [eqVs,eqV,z5i ns ms]
  ·simp [eqVs,eqV,z5i ns ms,e]
def pairOk (x y:List Int):Prop:=if y.length < x.length then x.take y.length=y else y.take x.length=x
def pairL (x y:List Int):List Int:=if y.length < x.length then x else y
def spled (C:Addr):Sp:=λ vs H Q E=>∃(a b:Addr) (ns ms:List Int),vs=[.ref a,.ref b]/\H a=some (.tup (ns.map V.int))/\H b=some (.tup (ms.map V.int))/\(¬ms.take ns.length=ns->∀H',Same H H'->E (.ref C) none H')/\(ms.take ns.length=ns->∀H',Same H H'->Q (.ref b) H')
def sppaired (C:Addr):Sp:=λ vs H Q E=>∃(a b:Addr) (ns ms:List Int),vs=[.ref a,.ref b]/\H a=some (.tup (ns.map V.int))/\H b=some (.tup (ms.map V.int))/\(¬pairOk ns ms->∀H',Same H H'->E (.ref C) none H')/\(pairOk ns ms->∀H' p,Same H H'->H' p=some (.tup ((pairL ns ms).map V.int))->Q (.ref p) H')
def tups (H:Hp) (ps:List Addr) (L:List (List Int)):Prop:=ps.length=L.length/\∀(i:Nat) p m,ps[i]?=some p->L[i]?=some m->H p=some (.tup (m.map V.int))
theorem tups.same {H H':Hp}{ps:List Addr}{L:List (List Int)}(h:tups H ps L) (s:Same H H'):tups H' ps L:=⟨h.1,λ i p m a b=>s _ _ (h.2 i p m a b)⟩
theorem tups.at {H:Hp}{ps:List Addr}{L:List (List Int)}(h:tups H ps L) {i:Nat}{v:V}(e:(ps.map V.ref)[i]?=some v):∃p m,v=.ref p/\L[i]?=some m/\m∈L/\H p=some (.tup (m.map V.int)):=by
 rw [List.getElem?_map] at e
 cases q:ps[i]? with
 | none=>rw [q] at e;cases e
 | some p =>
  rw [q] at e
  have hi:=(List.getElem?_eq_some_iff.mp q).1
  rw [h.1] at hi
  have z:=List.getElem?_eq_getElem hi
  exact ⟨p,L[i],(Option.some.inj e).symm,z,List.getElem_mem hi,h.2 i p _ q z⟩
theorem tups.snoc {H:Hp}{ps:List Addr}{L:List (List Int)}{p:Addr}{m:List Int}(h:tups H ps L) (hp:H p=some (.tup (m.map V.int))):tups H (ps++[p]) (L++[m]):=by
 refine ⟨by rw [List.length_append,List.length_append,h.1];rfl,λ i p' m' a b=>?_⟩
 by_cases c:i < ps.length
 ·rw [List.getElem?_append_left c] at a
  rw [List.getElem?_append_left (by rw [← h.1];exact c)] at b
  exact h.2 i p' m' a b
 ·have e:i=ps.length:=by have:=(List.getElem?_eq_some_iff.mp a).1;simp at this;omega
  subst e
  rw [List.getElem?_append_right (Nat.le_refl _),Nat.sub_self] at a
  rw [h.1,List.getElem?_append_right (Nat.le_refl _),Nat.sub_self] at b
  cases a;cases b;exact hp
theorem tups.take {H:Hp}{ps:List Addr}{L:List (List Int)}(h:tups H ps L) (k:Nat):tups H (ps.take k) (L.take k):=by
 refine ⟨by rw [List.length_take,List.length_take,h.1],λ i p m a b=>?_⟩
 have c:i < k:=by have:=(List.getElem?_eq_some_iff.mp a).1;rw [List.length_take] at this;omega
 rw [List.getElem?_take_of_lt c] at a b
 exact h.2 i p m a b
def sm (ns:List Int):Prop:=∀n∈ns,0≤n/\n≤1000000
theorem z3c {ns:List Int}(h:sm ns):sdOk ns:=λ n hn=>by have:=h n hn;omega
theorem x4b {ns:List Int}(h:fit ns):sm ns:=λ n hn=>by have:=h.1 n hn;omega
theorem x1p {ns:List Int}{k:Nat}{v:Int}(h:sm ns) (h0:0≤v) (h1:v≤1000000):sm (ns.set k v):=λ n hn=>by
 rcases List.mem_or_eq_of_mem_set hn with z | z
 ·exact h n z
 ·omega
def splaid (C1 C2:Addr):Sp:=λ vs H Q E=>∃(a b:Addr) (ns ms:List Int),vs=[.ref a,.ref b]/\H a=some (.tup (ns.map V.int))/\H b=some (.tup (ms.map V.int))/\sdOk ns/\sdOk ms/\ms.length≤20/\(bigI ms->∀H',Same H H'->E (.ref C1) none H')/\(¬bigI ms->prodI ns≠prodI ms->∀H',Same H H'->E (.ref C2) none H')/\(¬bigI ms->prodI ns=prodI ms->∀H',Same H H'->Q (.ref b) H')
theorem z1x {ns:List Int}{k:Nat}(h:k < ns.length):ns.getD k 0∈ns:=by rw [List.getD_eq_getElem?_getD,List.getElem?_eq_getElem h];exact List.getElem_mem h
theorem z4c (ns:List Int) (k:Nat):cutV (ns.map V.int) (some (k:Int)) none=(ns.drop k).map V.int:=by
 unfold cutV;simp only [HT.sIx,z0l];rw [if_neg (by omega),List.take_of_length_le (by simp),← List.map_drop];congr 1
 by_cases c:k≤ns.length
 ·congr 1;omega
 ·rw [List.drop_eq_nil_of_le (by omega),List.drop_eq_nil_of_le (by omega)]
def insL (ns:List Int) (k:Nat) (m:Int):List Int:=ns.take k++[m]++ns.drop k
def off1 (ns:List Int) (side:Int):Prop:=side < 0\/(ns.length:Int) < side
theorem z1y (ns:List Int) (k:Nat) (m:Int):(insL ns k m).length=ns.length+1:=by
 unfold insL;simp only [List.length_append,List.length_take,List.length_drop,List.length_cons,List.length_nil];omega
def atD (ns:List Int) (p:Int):List Int:=(dgL ns p ns.length).reverse
theorem z3n (ns:List Int) (p:Int):(atD ns p).length=ns.length:=by simp [atD,dgL]
theorem y7c (ns:List Int) (n p:Int):∀i,lfI (ns++[n]) p (i+1)=lfI ns (p / n) i
 | 0=>by
  show p / (ns++[n]).reverse.getD 0 1=p / n
  rw [List.reverse_append];rfl
 | i+1=>by
  show lfI (ns++[n]) p (i+1) / (ns++[n]).reverse.getD (i+1) 1=lfI ns (p / n) i / ns.reverse.getD i 1
  rw [y7c ns n p i,List.reverse_append];rfl
theorem x3o (ns:List Int) (n p:Int) (i:Nat):dgI (ns++[n]) p (i+1)=dgI ns (p / n) i:=by
 unfold dgI
 rw [y7c,List.reverse_append];rfl
theorem x0x (ns:List Int) (n p:Int):dgI (ns++[n]) p 0=p % n:=by
 show p % (ns++[n]).reverse.getD 0 1=p % n
 rw [List.reverse_append];rfl
theorem z6h (ns:List Int) (n p:Int):atD (ns++[n]) p=atD ns (p / n)++[p % n]:=by
 unfold atD dgL
 rw [List.length_append,List.length_singleton,List.range_succ_eq_map,List.map_cons,List.reverse_cons,x0x,List.map_map]
 congr 2
 exact List.map_congr_left λ i _=>x3o ns n p i
theorem y8a {p B n:Int}(hn:0 < n):p / (B * n)=p / n / B:=by
 rw [Int.mul_comm,Int.ediv_mul,if_neg (by omega),Int.add_zero]
theorem x0w {p B n:Int}(hn:0 < n):p % (B * n) / n=p / n % B:=by
 have e:p % (B * n)=p+n * (-(B * (p / (B * n)))):=by
  rw [Int.emod_def,Int.sub_eq_add_neg,Int.mul_neg]
  congr 2
  rw [← Int.mul_assoc,Int.mul_comm n B]
 rw [e,Int.add_mul_ediv_left _ _ (by omega),Int.emod_def (p / n) B,← y8a hn,Int.sub_eq_add_neg]
theorem y2e (a:List Int):∀b:List Int,prodI (a++b)=prodI a * prodI b:=by
 induction a with
 | nil=>intro b;show prodI b=1 * prodI b;rw [Int.one_mul]
 | cons x a ih=>intro b;rw [List.cons_append,z0u,z0u,ih,Int.mul_assoc]
theorem y9i {α:Type}{P:List α->Prop}(h0:P []) (h1:∀l x,P l->P (l++[x])) (l:List α):P l:=by
 have:∀l:List α,P l.reverse:=λ l=>by
  induction l with
  | nil=>exact h0
  | cons x l ih=>rw [List.reverse_cons];exact h1 _ _ ih
 rw [← List.reverse_reverse l];exact this _
theorem y8w (a:List Int) (b:List Int):(∀n∈b,0 < n)->∀p:Int,atD (a++b) p=atD a (p / prodI b)++atD b (p % prodI b):=by
 refine y9i (P:=λ b=>(∀n∈b,0 < n)->∀p:Int,atD (a++b) p=atD a (p / prodI b)++atD b (p % prodI b)) ?_ ?_ b
 ·intro _ p
  show atD (a++[]) p=atD a (p / 1)++[]
  rw [List.append_nil,List.append_nil,Int.ediv_one]
 ·intro b n ih h p
  have hn:0 < n:=h n (by simp)
  rw [← List.append_assoc,z6h,ih (λ m hm=>h m (by simp [hm])),z6h,z6c,y8a hn,x0w hn,List.append_assoc,Int.emod_emod_of_dvd p ⟨prodI b,Int.mul_comm _ _⟩]
theorem z5e {ns:List Int}(h:∀n∈ns,0 < n):0 < prodI ns:=by
 induction ns with
 | nil=>decide
 | cons x xs ih=>rw [z0u];exact Int.mul_pos (h x (List.mem_cons_self ..)) (ih λ n hn=>h n (List.mem_cons_of_mem _ hn))
def allD (ns:List Int):List (List Int):=(List.range (prodI ns).toNat).map λ p:Nat=>atD ns (p:Int)
theorem y1u (ns:List Int):(allD ns).length=(prodI ns).toNat:=by simp [allD]
theorem y8y {ns:List Int}{i:Nat}(h:i < (prodI ns).toNat):(allD ns)[i]?=some (atD ns (i:Int)):=by
 unfold allD
 rw [List.getElem?_map,List.getElem?_range h];rfl
def plH (ns ms:List Int):Int:=dotI ms (stL ns ns.length).reverse
theorem x4s {ns:List Int}{p:Int}(h:sdOk ns) (h0:0≤p) (h1:p < prodI ns):plH ns (atD ns p)=p:=by
 unfold plH atD
 rw [y7z,x2i h h0 h1]
theorem x0a {ns:List Int}{p:Int}(h:sdOk ns) (h0:0≤p) (h1:p < prodI ns):∀n∈ns,0 < n:=λ n hn=>by
 have a:=y0y (ns:=ns) (by omega) n hn
 have b:=h n hn
 omega
theorem z2o {ns:List Int}{p:Int}(h:sdOk ns) (h0:0≤p) (h1:p < prodI ns):good ns (atD ns p):=x3p (λ n hn=>by have:=x0a h h0 h1 n hn;omega) h
theorem y2a (n:Int) (ns:List Int) {j:Nat}(h:j≤ns.length):stP (n::ns) j=stP ns j:=by
 unfold stP
 rw [List.reverse_cons,List.take_append_of_le_length (by simpa using h)]
theorem z8b (n:Int) (ns:List Int):(stL (n::ns) (n::ns).length).reverse=prodI ns::(stL ns ns.length).reverse:=by
 rw [List.length_cons,z8a,List.reverse_append,y2a n ns (Nat.le_refl _),y5f]
 show prodI ns::(stL (n::ns) ns.length).reverse=_
 congr 2
 unfold stL
 exact List.map_congr_left λ j hj=>y2a n ns (Nat.le_of_lt (List.mem_range.mp hj))
theorem z2m (n m:Int) (ns ms:List Int):plH (n::ns) (m::ms)=m * prodI ns+plH ns ms:=by
 unfold plH
 rw [z8b]
 show (List.zipWith _ (m::ms) (prodI ns::_)).sum=_
 rw [List.zipWith_cons_cons,List.sum_cons];rfl
theorem z7q:∀ {ns ms:List Int},good ns ms->0≤plH ns ms/\plH ns ms < prodI ns
 | [],[],_=>by decide
 | [],_::_,h=>by have:=h.1;simp at this
 | _::_,[],h=>by have:=h.1;simp at this
 | n::ns,m::ms,h=>by
  have g:good ns ms:=⟨by have:=h.1;simpa using this,λ i a b e1 e2=>h.2 (i+1) a b (by simpa using e1) (by simpa using e2)⟩
  have ih:=z7q g
  have m0:=h.2 0 m n rfl rfl
  rw [z2m,z0u]
  have e:n * prodI ns=m * prodI ns+(n - m) * prodI ns:=by rw [← Int.add_mul];congr 1;omega
  have e2:prodI ns≤(n - m) * prodI ns:=by
   have:1 * prodI ns≤(n - m) * prodI ns:=Int.mul_le_mul_of_nonneg_right (by omega) (by omega)
   omega
  have e3:0≤m * prodI ns:=Int.mul_nonneg m0.1 (by omega)
  omega
def RwI (H:Hp) (a:Addr) (ns:List Int):Prop:=H a=some (.lst (ns.map V.int))\/H a=some (.tup (ns.map V.int))
theorem RwI.same {H H':Hp}{a:Addr}{ns:List Int}(h:RwI H a ns) (s:Same H H'):RwI H' a ns:=h.imp (s _ _) (s _ _)
def TbAt (H:Hp) (t:Addr) (ns cs:List Int):Prop:=∃a c,H t=some (.tup [.ref a,.ref c])/\H a=some (.tup (ns.map V.int))/\H c=some (.tup (cs.map V.int))
theorem TbAt.same {H H':Hp}{t:Addr}{ns cs:List Int}(h:TbAt H t ns cs) (s:Same H H'):TbAt H' t ns cs:=let ⟨a,c,h1,h2,h3⟩:=h;⟨a,c,s _ _ h1,s _ _ h2,s _ _ h3⟩
def TpsAt (H:Hp) (ps:List Addr) (L:List (List Int)):Prop:=ps.length=L.length/\∀(i:Nat) t,L[i]?=some t->∃p,ps[i]?=some p/\H p=some (.tup (t.map V.int))
theorem TpsAt.mono {H H':Hp}{ps:List Addr}{L:List (List Int)}(h:TpsAt H ps L) (s:∀a xs,H a=some (.tup xs)->H' a=some (.tup xs)):TpsAt H' ps L:=⟨h.1,λ i t e=>let ⟨p,e1,g⟩:=h.2 i t e;⟨p,e1,s _ _ g⟩⟩
theorem TpsAt.snoc {H:Hp}{ps:List Addr}{L:List (List Int)}{t:List Int}{q:Addr}(h:TpsAt H ps L) (g:H q=some (.tup (t.map V.int))):TpsAt H (ps++[q]) (L++[t]):=by
 refine ⟨by simp [h.1],λ i u e=>?_⟩
 rcases Nat.lt_trichotomy i L.length with hi | hi | hi
 ·rw [List.getElem?_append_left hi] at e
  obtain ⟨p,e1,l⟩:=h.2 i u e
  exact ⟨p,by rw [List.getElem?_append_left (by rw [h.1];exact hi)];exact e1,l⟩
 ·subst hi
  rw [List.getElem?_append_right (Nat.le_refl _),Nat.sub_self] at e
  cases (Option.some.inj e)
  exact ⟨q,by rw [List.getElem?_append_right (by rw [h.1];exact Nat.le_refl _),h.1,Nat.sub_self];rfl,g⟩
 ·rw [List.getElem?_eq_none (by simp;omega)] at e;cases e
theorem y0h {r:List Int}{i x:Int}(i0:0≤i) (h:r[i.toNat]?=some x):atI (r.map V.int) i=some (.int x):=by
 have z:=z0v (xs:=r.map V.int) (j:=i.toNat) (v:=.int x) (by rw [List.getElem?_map,h];rfl)
 rwa [show ((i.toNat:Nat):Int)=i by omega] at z
def numI (n:Int):Int:=if n % 17=5 then [(-9223372036854775808:Int),9223372036854775807,-1,4611686018427387904].getD (n / 17 % 4).toNat 0 else (n+9223372036854775808) % 18446744073709551616 - 9223372036854775808
def SameP (T:Addr) (H H':Hp):Prop:=∀a o,a≠T->H a=some o->H' a=some o
def sptableby (P:Program) (w:World) (K:W.Frag) (mg:Str->Option Value) (base:Heap):Sp:=λ vs H Q _=>∃(sa fa:Addr) (ns:List Int) (fn:Nat->Int),vs=[.ref sa,.ref fa]/\H sa=some (.tup (ns.map V.int))/\sdOk ns/\ns.length≤63/\prodI ns≤512/\FnV H fa/\(∀(i:Nat) H1 p Q',(i:Int) < prodI ns->Same H H1->H1 p=some (.tup ((atD ns (i:Int)).map V.int))->(∀H2,Same H1 H2->Q' (.int (fn i)) H2)->CallV P w K mg base 6 fa [.ref p] H1 Q')/\∀H' p q,Same H H'->H' q=some (.tup (((List.range (prodI ns).toNat).map fn).map V.int))->H' p=some (.tup [.ref sa,.ref q])->Q (.ref p) H'
theorem z1e:∀ {ns:List Int},(∀n∈ns,0≤n)->0≤prodI ns/\prodI ns≤prodI (ns.map one1)
 | [],_=>by decide
 | n::ns,h=>by
  obtain ⟨i0,i1⟩:=z1e (ns:=ns) λ m hm=>h m (List.mem_cons_of_mem _ hm)
  have n0:=h n List.mem_cons_self
  rw [List.map_cons,z0u,z0u]
  have o:n≤one1 n/\0≤one1 n:=by unfold one1;split<;>omega
  exact ⟨Int.mul_nonneg n0 i0,Int.mul_le_mul o.1 i1 i0 o.2⟩
theorem z4a {H H':Hp}{cl:List (Str × Addr)}(s:Same (minC H cl) H'):Same H (resC H H' cl):=λ b o e=>by
 by_cases h:∃q∈cl,q.2=b
 ·obtain ⟨q,hq,rfl⟩:=h
  rw [z3i hq];exact e
 ·have h':∀q∈cl,q.2≠b:=λ q hq z=>h ⟨q,hq,z⟩
  rw [z1u h']
  exact s _ _ (by rw [z1q h'];exact e)
theorem z1i {H:Hp}{cl:List (Str × Addr)}{vcs:List V}{a:Addr}{xs:List V}(hc:CelAt H cl vcs) (h:H a=some (.tup xs)):minC H cl a=some (.tup xs):=by
 rw [z1q λ q hq z=>by obtain ⟨o,v,e⟩:=hc.mem hq;rw [z,h] at e;cases e];exact h
theorem fc {α:Type}{p:α->Prop}{a:α}{l:List α}(h:p a) (t:∀n∈l,p n):∀n∈a::l,p n:=λ n hn=>by
 cases hn with
 | head=>exact h
 | tail _ g=>exact t n g
theorem fc0 {α:Type}{p:α->Prop}:∀n∈([]:List α),p n:=λ _ h=>nomatch h
theorem z4n {H2 H3:Hp}{cl:List (Str × Addr)}(fr:∀q∈cl,H2 q.2=none) (eq:∀b,(∀q∈cl,¬q.2=b)->H3 b=H2 b):Same H2 H3:=λ b o e=>by
 rw [eq b λ q hq z=>by rw [← z,fr q hq] at e;cases e];exact e
theorem z3g {H2 H3 H4:Hp}{cl:List (Str × Addr)}(fr:∀q∈cl,H2 q.2=none) (eq:∀b,(∀q∈cl,¬q.2=b)->H3 b=H2 b) (s:Same H3 H4):Same H2 (minC H4 cl):=λ b o e=>by
 rw [z1q λ q hq z=>by rw [← z,fr q hq] at e;cases e]
 exact s _ _ (z4n fr eq _ _ e)
theorem z7n {H:Hp}{T a:Addr}{pos:Pos}{qual:Str}{xs:List V}(h:TabOk H T pos qual) (e:H a=some (.tup xs)):¬a=T:=λ z=>by
 obtain ⟨ps,h1,_⟩:=h
 rw [z,h1] at e;cases e
theorem z7s {H:Hp}{cl:List (Str × Addr)}{vcs:List V}{t:Addr}{ns cs:List Int}(hc:CelAt H cl vcs) (h:TbAt H t ns cs):TbAt (minC H cl) t ns cs:=let ⟨a,c,h1,h2,h3⟩:=h;⟨a,c,z1i hc h1,z1i hc h2,z1i hc h3⟩
theorem y3h {H H':Hp}{t T:Addr}{ns cs:List Int}(h:TbAt H t ns cs) (up:∀a xs,H a=some (.tup xs)->H' a=some (.tup xs)):TbAt H' t ns cs:=let ⟨a,c,h1,h2,h3⟩:=h;⟨a,c,up _ _ h1,up _ _ h2,up _ _ h3⟩
def SmT (H H':Hp):Prop:=∀a o,(∀ps,o≠.tbl ps)->H a=some o->H' a=some o
theorem SmT.refl (H:Hp):SmT H H:=λ _ _ _ e=>e
theorem SmT.trans {H H1 H2:Hp}(h:SmT H H1) (g:SmT H1 H2):SmT H H2:=λ a o n e=>g a o n (h a o n e)
theorem SmT.of {H H':Hp}(h:Same H H'):SmT H H':=λ a o _ e=>h a o e
theorem SmT.tup {H H':Hp}(h:SmT H H') {a:Addr}{xs:List V}(e:H a=some (.tup xs)):H' a=some (.tup xs):=h a _ (λ _ z=>by cases z) e
theorem SmT.lst {H H':Hp}(h:SmT H H') {a:Addr}{xs:List V}(e:H a=some (.lst xs)):H' a=some (.lst xs):=h a _ (λ _ z=>by cases z) e
theorem SmT.seq {K:W.Frag}{H H':Hp}{a:Addr}{xs:List V}(e:SmT H H') (h:SqL K H a xs):SqL K H' a xs:=by
 rcases h with (h | ⟨o,h⟩) | h
 ·exact .inl (.inl (e.lst h))
 ·exact .inl (.inr ⟨o,e _ _ (λ _ z=>by cases z) h⟩)
 ·exact .inr h
theorem SmT.tb {H H':Hp}(h:SmT H H') {t:Addr}{ns cs:List Int}(e:TbAt H t ns cs):TbAt H' t ns cs:=let ⟨a,c,h1,h2,h3⟩:=e;⟨a,c,h.tup h1,h.tup h2,h.tup h3⟩
theorem SmT.ofP {H H':Hp}{T:Addr}{pos:Pos}{qual:Str}(t:TabOk H T pos qual) (h:SameP T H H'):SmT H H':=λ a o n e=>h a o (λ z=>by
 obtain ⟨ps,h1,_⟩:=t
 rw [z,h1] at e
 exact n ps (Option.some.inj e).symm) e
theorem TabOk.other {H H':Hp}{T T2:Addr}{pos pos2:Pos}{qual qual2:Str}(ne:T2≠T) (t:TabOk H T pos qual) (t2:TabOk H T2 pos2 qual2) (h:SameP T H H'):TabOk H' T2 pos2 qual2:=by
 obtain ⟨ps,h1,h2,h3⟩:=t2
 refine ⟨ps,h _ _ ne h1,h2,h3.imp id λ ⟨c',e,g⟩=>⟨c',e,(SmT.ofP t h) _ _ (λ _ z=>by cases z) g⟩⟩
theorem y5b {ns:List Int}(h:∀n∈ns,0≤n) (i:Nat):prodI (ns.take i)≤prodI (ns.map one1):=by
 have a:=z1e (ns:=ns.take i) λ n hn=>h n (List.mem_of_mem_take hn)
 have e:ns.map one1=(ns.take i).map one1++(ns.drop i).map one1:=by rw [← List.map_append,List.take_append_drop]
 have b:1≤prodI ((ns.drop i).map one1):=by
  have:=z5e (ns:=(ns.drop i).map one1) λ n hn=>by
   obtain ⟨m,hm,rfl⟩:=List.mem_map.mp hn
   have:=h m (List.mem_of_mem_drop hm)
   unfold one1;split<;>omega
  omega
 rw [e,y2e]
 have:=Int.mul_le_mul_of_nonneg_left b (show 0≤prodI ((ns.take i).map one1) by omega)
 omega
theorem z7u {ns ms:List Int}(k:Nat) (g:good ns ms):good (ns.eraseIdx k) (ms.eraseIdx k):=by
 obtain ⟨l,g⟩:=g
 refine ⟨by rw [List.length_eraseIdx,List.length_eraseIdx,l],λ i m n em en=>?_⟩
 rw [List.getElem?_eraseIdx] at em en
 split at em
 ·rename_i c;rw [if_pos c] at en;exact g i m n em en
 ·rename_i c;rw [if_neg c] at en;exact g (i+1) m n em en
theorem z3f {ns:List Int}{k:Nat}{m:Int}(h:k≤ns.length):(insL ns k m).eraseIdx k=ns:=by
 unfold insL
 rw [List.append_assoc,List.eraseIdx_append_of_length_le (by rw [List.length_take];omega),List.length_take,Nat.min_eq_left h,Nat.sub_self]
 show ns.take k++ns.drop k=ns
 exact List.take_append_drop _ _
theorem y2t {ns ms at_:List Int}{k:Nat}{y w:Int}(g:good ns at_) (l:ms.length=ns.length) (e:∀j,j≠k->ms[j]?=ns[j]?) (hw:ms[k]?=some w) (h0:0≤y) (h1:y < w):good ms (at_.set k y):=by
 refine ⟨by rw [List.length_set,l];exact g.1,λ i m n em en=>?_⟩
 by_cases c:i=k
 ·subst c
  have il:=(List.getElem?_eq_some_iff.mp em).1
  rw [List.length_set] at il
  rw [List.getElem?_set_self il] at em
  rw [hw] at en
  cases em;cases en;exact ⟨h0,h1⟩
 ·rw [List.getElem?_set_ne (λ z=>c z.symm)] at em
  rw [e i c] at en
  exact g.2 i m n em en
theorem y1l {ns:List Int}{k:Nat}{v:Int}(hk:k < ns.length):(ns.set k v).getD k 0=v:=by rw [List.getD_eq_getElem?_getD,List.getElem?_set_self hk];rfl
theorem z1w {ns:List Int}{k:Nat}(hk:k < ns.length):ns[k]?=some (ns.getD k 0):=by rw [List.getD_eq_getElem?_getD,List.getElem?_eq_getElem hk];rfl
theorem z9d:∀ {ns ms:List Int},sdOk ns->good ns ms->atD ns (plH ns ms)=ms
 | [],[],_,_=>rfl
 | [],_::_,_,h=>by have:=h.1;simp at this
 | _::_,[],_,h=>by have:=h.1;simp at this
 | n::ns,m::ms,hs,h=>by
  have g:good ns ms:=⟨by have:=h.1;simpa using this,λ i a b e1 e2=>h.2 (i+1) a b (by simpa using e1) (by simpa using e2)⟩
  have hs':sdOk ns:=λ x hx=>hs x (List.mem_cons_of_mem _ hx)
  have ih:=z9d hs' g
  have pi:=z7q g
  have m0:=h.2 0 m n rfl rfl
  have np:=x0a hs' pi.1 pi.2
  have e:=y8w [n] ns np (plH (n::ns) (m::ms))
  rw [z2m] at e ⊢
  have d1:(m * prodI ns+plH ns ms) / prodI ns=m:=by
   rw [Int.add_comm,Int.add_mul_ediv_right _ _ (by omega),Int.ediv_eq_zero_of_lt pi.1 pi.2,Int.zero_add]
  have d2:(m * prodI ns+plH ns ms) % prodI ns=plH ns ms:=by
   rw [Int.add_comm,Int.add_mul_emod_self_right,Int.emod_eq_of_lt pi.1 pi.2]
  rw [d1,d2,ih] at e
  have e1:atD [n] m=[m]:=by
   have z:=z6h [] n m
   rw [List.nil_append] at z
   rw [z,Int.emod_eq_of_lt m0.1 m0.2];rfl
  rw [e1] at e
  exact e
theorem x3b {cs:List Int}{n:Nat}(h:cs.length=n):(List.range n).map (λ i=>cs.getD i 0)=cs:=by
 subst h
 apply List.ext_getElem?
 intro k
 by_cases c:k < cs.length
 ·rw [List.getElem?_map,List.getElem?_range c]
  exact (z1w c).symm
 ·rw [List.getElem?_eq_none (by simp;omega),List.getElem?_eq_none (by omega)]
def wrapI (n:Int):Int:=(n+9223372036854775808) % 18446744073709551616 - 9223372036854775808
def quoI (x y:Int):Int:=if y=0 then 0 else wrapI (Int.fdiv x y)
def restI (x y:Int):Int:=if y=0 then x else Int.fmod x y
def twiceI (w:Str) (x y:Int):Int :=
 if w = "add" then wrapI (x+y) else if w = "sub" then wrapI (x - y) else if w = "mul" then wrapI (x * y) else if w = "quo" then quoI x y else if w = "rest" then restI x y
 else if w = "max" then (if x < y then y else x) else if w = "min" then (if y < x then y else x) else if w = "less" then (if x < y then 1 else 0) else if w = "like" then (if x=y then 1 else 0)
 else if w = "and" then Builtin.bitAnd x y else if w = "or" then Builtin.bitOr x y else Builtin.bitXor x y
theorem z4f (x y:Int):twiceI "add" x y=(wrapI (x+y)):=by unfold twiceI;rw [if_pos rfl]
theorem x3x (x y:Int):twiceI "sub" x y=(wrapI (x - y)):=by unfold twiceI;rw [if_neg (by decide +kernel),if_pos rfl]
theorem z4e (x y:Int):twiceI "mul" x y=(wrapI (x * y)):=by unfold twiceI;rw [if_neg (by decide +kernel),if_neg (by decide +kernel),if_pos rfl]
theorem x3y (x y:Int):twiceI "quo" x y=(quoI x y):=by unfold twiceI;rw [if_neg (by decide +kernel),if_neg (by decide +kernel),if_neg (by decide +kernel),if_pos rfl]
theorem x2e (x y:Int):twiceI "rest" x y=(restI x y):=by unfold twiceI;rw [if_neg (by decide +kernel),if_neg (by decide +kernel),if_neg (by decide +kernel),if_neg (by decide +kernel),if_pos rfl]
theorem z4v (x y:Int):twiceI "max" x y=(if x < y then y else x):=by unfold twiceI;rw [if_neg (by decide +kernel),if_neg (by decide +kernel),if_neg (by decide +kernel),if_neg (by decide +kernel),if_neg (by decide +kernel),if_pos rfl]
theorem z4u (x y:Int):twiceI "min" x y=(if y < x then y else x):=by unfold twiceI;rw [if_neg (by decide +kernel),if_neg (by decide +kernel),if_neg (by decide +kernel),if_neg (by decide +kernel),if_neg (by decide +kernel),if_neg (by decide +kernel),if_pos rfl]
theorem x2g (x y:Int):twiceI "less" x y=(if x < y then 1 else 0):=by unfold twiceI;rw [if_neg (by decide +kernel),if_neg (by decide +kernel),if_neg (by decide +kernel),if_neg (by decide +kernel),if_neg (by decide +kernel),if_neg (by decide +kernel),if_neg (by decide +kernel),if_pos rfl]
theorem x2f (x y:Int):twiceI "like" x y=(if x=y then 1 else 0):=by unfold twiceI;rw [if_neg (by decide +kernel),if_neg (by decide +kernel),if_neg (by decide +kernel),if_neg (by decide +kernel),if_neg (by decide +kernel),if_neg (by decide +kernel),if_neg (by decide +kernel),if_neg (by decide +kernel),if_pos rfl]
theorem z4x (x y:Int):twiceI "and" x y=(Builtin.bitAnd x y):=by unfold twiceI;rw [if_neg (by decide +kernel),if_neg (by decide +kernel),if_neg (by decide +kernel),if_neg (by decide +kernel),if_neg (by decide +kernel),if_neg (by decide +kernel),if_neg (by decide +kernel),if_neg (by decide +kernel),if_neg (by decide +kernel),if_pos rfl]
theorem z7y (x y:Int):twiceI "or" x y=(Builtin.bitOr x y):=by unfold twiceI;rw [if_neg (by decide +kernel),if_neg (by decide +kernel),if_neg (by decide +kernel),if_neg (by decide +kernel),if_neg (by decide +kernel),if_neg (by decide +kernel),if_neg (by decide +kernel),if_neg (by decide +kernel),if_neg (by decide +kernel),if_neg (by decide +kernel),if_pos rfl]
theorem z4t (x y:Int):twiceI "xor" x y=(Builtin.bitXor x y):=by unfold twiceI;rw [if_neg (by decide +kernel),if_neg (by decide +kernel),if_neg (by decide +kernel),if_neg (by decide +kernel),if_neg (by decide +kernel),if_neg (by decide +kernel),if_neg (by decide +kernel),if_neg (by decide +kernel),if_neg (by decide +kernel),if_neg (by decide +kernel),if_neg (by decide +kernel)]
abbrev tw:List Str:=["add", "sub", "mul", "quo", "rest", "max", "min", "less", "like", "and", "or", "xor"]
def inB (x:Int):Prop:=-9223372036854775808≤x/\x < 9223372036854775808
abbrev fw:List Str:=["add", "mul", "max", "min", "and", "or", "xor"]
def neuI (w:Str):Int:=if w = "mul" then 1 else if w = "max" then -9223372036854775808 else if w = "min" then 9223372036854775807 else if w = "and" then -1 else 0
theorem z6v (w:Str):inB (neuI w):=by
 unfold neuI inB
 repeat' split
 all_goals omega
theorem y7p {w:Str}(h:w∈fw):w∈tw:=by
 simp only [fw,tw,List.mem_cons,List.not_mem_nil,or_false] at *
 rcases h with h | h | h | h | h | h | h<;>simp [h]
theorem y4n {x:Int}(h:inB x):wrapI x=x:=by unfold wrapI;unfold inB at h;omega
theorem z9s:neuI "add" = 0:=by unfold neuI;rw [if_neg (by decide +kernel),if_neg (by decide +kernel),if_neg (by decide +kernel),if_neg (by decide +kernel)]
theorem y2m:neuI "mul" = 1:=by unfold neuI;rw [if_pos rfl]
theorem y2o:neuI "max" = -9223372036854775808:=by unfold neuI;rw [if_neg (by decide +kernel),if_pos rfl]
theorem y2n:neuI "min" = 9223372036854775807:=by unfold neuI;rw [if_neg (by decide +kernel),if_neg (by decide +kernel),if_pos rfl]
theorem y2p:neuI "and" = -1:=by unfold neuI;rw [if_neg (by decide +kernel),if_neg (by decide +kernel),if_neg (by decide +kernel),if_pos rfl]
theorem x0b:neuI "or" = 0:=by unfold neuI;rw [if_neg (by decide +kernel),if_neg (by decide +kernel),if_neg (by decide +kernel),if_neg (by decide +kernel)]
theorem y2l:neuI "xor" = 0:=by unfold neuI;rw [if_neg (by decide +kernel),if_neg (by decide +kernel),if_neg (by decide +kernel),if_neg (by decide +kernel)]
theorem x2b (x:Int):Builtin.bitAnd x (-1)=x:=by
 have h:=bitAnd_not x 0
 rw [bitAnd_zero] at h
 have e:Builtin.bitNot 0=-1:=rfl
 rw [e] at h;omega
theorem x7l (x:Int):Builtin.bitOr x 0=x:=by rw [bitOr_and,bitAnd_zero];omega
theorem x6w (x:Int):Builtin.bitOr 0 x=x:=by rw [bitOr_comm];exact x7l x
theorem x6n (x:Int):Builtin.bitXor x 0=x:=by rw [bitXor_and,bitAnd_zero];omega
theorem x3v (x:Int):Builtin.bitXor 0 x=x:=by rw [bitXor_and,bitAnd_comm,bitAnd_zero];omega
theorem z8u {w:Str}{x:Int}(h:w∈fw) (b:inB x):twiceI w (neuI w) x=x:=by
 have wi:=y4n b
 unfold inB at b
 simp only [fw,List.mem_cons,List.not_mem_nil,or_false] at h
 rcases h with rfl | rfl | rfl | rfl | rfl | rfl | rfl
 ·rw [z9s,z4f];rw [Int.zero_add];exact wi
 ·rw [y2m,z4e];rw [Int.one_mul];exact wi
 ·rw [y2o,z4v];split<;>omega
 ·rw [y2n,z4u];split<;>omega
 ·rw [y2p,z4x];rw [bitAnd_comm];exact x2b x
 ·rw [x0b,z7y];exact x6w x
 ·rw [y2l,z4t];exact x3v x
theorem y6s {w:Str}{x:Int}(h:w∈fw) (b:inB x):twiceI w x (neuI w)=x:=by
 have wi:=y4n b
 unfold inB at b
 simp only [fw,List.mem_cons,List.not_mem_nil,or_false] at h
 rcases h with rfl | rfl | rfl | rfl | rfl | rfl | rfl
 ·rw [z9s,z4f];rw [Int.add_zero];exact wi
 ·rw [y2m,z4e];rw [Int.mul_one];exact wi
 ·rw [y2o,z4v];split<;>omega
 ·rw [y2n,z4u];split<;>omega
 ·rw [y2p,z4x];exact x2b x
 ·rw [x0b,z7y];exact x7l x
 ·rw [y2l,z4t];exact x6n x
theorem z7j (x:Int) {y:Int}(hy:y < 0):y < Int.fmod x y/\Int.fmod x y≤0:=by
 have h1:Int.fmod x y=-(Int.fmod (-x) (-y)):=by
  rw [Int.fmod_def,Int.fmod_def,Int.neg_fdiv_neg,Int.neg_mul]
  omega
 have h2:=Int.fmod_nonneg_of_pos (-x) (show 0 < -y by omega)
 have h3:=Int.fmod_lt_of_pos (-x) (show 0 < -y by omega)
 omega
theorem y4e (x:Int) {y:Int}(hy:y≠0):(0 < y->0≤Int.fmod x y/\Int.fmod x y < y)/\(y < 0->y < Int.fmod x y/\Int.fmod x y≤0) :=
 ⟨λ h=>⟨Int.fmod_nonneg_of_pos x h,Int.fmod_lt_of_pos x h⟩,λ h=>z7j x h⟩
theorem z7x (n:Int):inB (wrapI n):=by unfold wrapI inB;omega
theorem x4p {x y:Int}:inB (quoI x y):=by
 unfold quoI
 split
 ·exact ⟨by decide,by decide⟩
 ·exact z7x _
theorem x2n {x y:Int}(hx:inB x) (hy:inB y):inB (restI x y):=by
 unfold restI
 unfold inB at *
 split
 ·exact hx
 ·rename_i h
  have r:=y4e x h
  rcases (show 0 < y\/y < 0 by omega) with p | p
  ·have:=r.1 p;omega
  ·have:=r.2 p;omega
section
variable {band:Int->Int->Int}
variable (hv:∀x y,band x y=2 * band (x / 2) (y / 2)+(if x % 2=1/\y % 2=1 then 1 else 0))
include hv
theorem y5u (h00:band 0 0=0) (h01:band 0 (-1)=0) (h10:band (-1) 0=0) (h11:band (-1) (-1)=-1) (n:Nat):∀x y:Int,-2 ^ n≤x->x < 2 ^ n->-2 ^ n≤y->y < 2 ^ n ->
  (-2 ^ n≤band x y/\band x y < 2 ^ n)/\(-2 ^ n≤x+y - band x y/\x+y - band x y < 2 ^ n)/\(-2 ^ n≤x+y - 2 * band x y/\x+y - 2 * band x y < 2 ^ n):=by
 induction n with
 | zero =>
  intro x y a b c d
  simp at a b c d
  have hx:x=0\/x=-1:=by omega
  have hy:y=0\/y=-1:=by omega
  rcases hx with hx | hx<;>rcases hy with hy | hy<;>subst hx<;>subst hy<;>simp [h00,h01,h10,h11]
 | succ n ih =>
  intro x y a b c d
  rw [Int.pow_succ] at *
  have h:=ih (x / 2) (y / 2) (by omega) (by omega) (by omega) (by omega)
  have e:=hv x y
  split at e<;>omega
end
theorem z6d {w:Str}{x y:Int}(hw:w∈(["max", "min", "less", "like"]:List Str)) (hx:inB x) (hy:inB y):w∈tw/\inB (twiceI w x y):=by
 simp only [List.mem_cons,List.not_mem_nil,or_false] at hw
 unfold inB at *
 rcases hw with rfl | rfl | rfl | rfl
 ·refine ⟨by simp [tw],?_⟩;rw [z4v];split<;>omega
 ·refine ⟨by simp [tw],?_⟩;rw [z4u];split<;>omega
 ·refine ⟨by simp [tw],?_⟩;rw [x2g];split<;>omega
 ·refine ⟨by simp [tw],?_⟩;rw [x2f];split<;>omega
theorem y1r {x y:Int}(hx:inB x) (hy:inB y):inB (Builtin.bitAnd x y)/\inB (Builtin.bitOr x y)/\inB (Builtin.bitXor x y):=by
 have h:=y5u W.kbt_halves (by decide) (by decide) (by decide) (by decide) 63 x y
 unfold inB at *
 rw [bitOr_and,bitXor_and]
 have e:(2:Int) ^ 63=9223372036854775808:=by decide
 rw [e] at h
 exact h hx.1 (by omega) hy.1 (by omega)
theorem z4s {w:Str}{x y:Int}(hw:w∈tw) (hx:inB x) (hy:inB y):inB (twiceI w x y):=by
 simp only [tw,List.mem_cons,List.not_mem_nil,or_false] at hw
 rcases hw with rfl | rfl | rfl | rfl | rfl | rfl | rfl | rfl | rfl | rfl | rfl | rfl
 ·rw [z4f];exact z7x _
 ·rw [x3x];exact z7x _
 ·rw [z4e];exact z7x _
 ·rw [x3y];exact x4p
 ·rw [x2e];exact x2n hx hy
 ·exact (z6d (by simp) hx hy).2
 ·exact (z6d (by simp) hx hy).2
 ·exact (z6d (by simp) hx hy).2
 ·exact (z6d (by simp) hx hy).2
 ·rw [z4x];exact (y1r hx hy).1
 ·rw [z7y];exact (y1r hx hy).2.1
 ·rw [z4t];exact (y1r hx hy).2.2
theorem z0y {A:List Int}{k:Nat}{y:Int}(hk:k≤A.length) (i:Nat):(insL A k y)[i]?=if i < k then A[i]? else if i=k then some y else A[i - 1]?:=by
 unfold insL
 have tl:(A.take k).length=k:=by rw [List.length_take];omega
 split
 ·rename_i h
  rw [List.append_assoc,List.getElem?_append_left (by omega),List.getElem?_take,if_pos h]
 ·rename_i h
  rw [List.append_assoc,List.getElem?_append_right (by omega),tl]
  split
  ·rename_i e;subst e;rw [Nat.sub_self];rfl
  ·rename_i e
   obtain ⟨m,hm⟩:∃m,i - k=m+1:=⟨i - k - 1,by omega⟩
   rw [hm]
   show (A.drop k)[m]?=_
   rw [List.getElem?_drop];congr 1;omega
theorem z3m {A:List Int}{k:Nat}{y:Int}(hk:k≤A.length):(insL A k y).getD k 0=y:=by
 rw [List.getD_eq_getElem?_getD,z0y hk,if_neg (by omega),if_pos rfl];rfl
theorem y1k {A:List Int}{k:Nat}{x y:Int}(hk:k≤A.length):(insL A k x).set k y=insL A k y:=by
 apply List.ext_getElem?
 intro i
 rw [z0y hk,List.getElem?_set,z0y hk,z1y]
 by_cases c:k=i
 ·subst c
  rw [if_pos rfl,if_pos (by omega),if_neg (by omega),if_pos rfl]
 ·rw [if_neg c]
  split
  ·rfl
  ·rw [if_neg (λ z=>c z.symm),if_neg (λ z=>c z.symm)]
theorem z2g {ns A:List Int}{k:Nat}{y:Int}(hk:k < ns.length) (g:good (ns.eraseIdx k) A) (h0:0≤y) (h1:y < ns.getD k 0):good ns (insL A k y):=by
 obtain ⟨l,g⟩:=g
 have el:(ns.eraseIdx k).length=ns.length - 1:=by rw [List.length_eraseIdx,if_pos hk]
 have kl:k≤A.length:=by omega
 refine ⟨by rw [z1y];omega,λ i m n em en=>?_⟩
 rw [z0y kl] at em
 split at em
 ·rename_i c
  exact g i m n em (by rw [List.getElem?_eraseIdx,if_pos c];exact en)
 ·split at em
  ·rename_i c e;subst e
   cases em
   rw [z1w hk] at en;cases en
   exact ⟨h0,h1⟩
  ·rename_i c e
   refine g (i - 1) m n em ?_
   rw [List.getElem?_eraseIdx,if_neg (by omega),show i - 1+1=i by omega];exact en
theorem z3t:∀ {ns:List Int}{k:Nat},(∀n∈ns,0≤n)->prodI ((ns.eraseIdx k).map one1)≤prodI (ns.map one1)
 | [],_,_=>by simp
 | n::ns,0,h=>by
  have n0:=h n List.mem_cons_self
  have p:=z1e λ m hm=>h m (List.mem_cons_of_mem _ hm)
  show prodI (ns.map one1)≤_
  rw [List.map_cons,z0u]
  have:1 * prodI (ns.map one1)≤one1 n * prodI (ns.map one1):=Int.mul_le_mul_of_nonneg_right (by unfold one1;split<;>omega) (by omega)
  omega
 | n::ns,k+1,h=>by
  have n0:=h n List.mem_cons_self
  have ih:=z3t (ns:=ns) (k:=k) (λ m hm=>h m (List.mem_cons_of_mem _ hm))
  show prodI ((n::ns.eraseIdx k).map one1)≤_
  rw [List.map_cons,List.map_cons,z0u,z0u]
  exact Int.mul_le_mul_of_nonneg_left ih (by unfold one1;split<;>omega)
theorem x1n:∀ {ns:List Int}{k:Nat},k < ns.length->(stL ns ns.length).reverse[k]?=some (prodI (ns.drop (k+1)))
 | [],_,h=>by simp at h
 | n::ns,0,_=>by rw [z8b];rfl
 | n::ns,k+1,h=>by rw [z8b];exact x1n (ns:=ns) (k:=k) (by simpa using h)
theorem y5y:∀ {ns ms:List Int}{k:Nat}{y:Int},ms.length=ns.length->k < ns.length->plH ns (ms.set k y)=plH ns ms+(y - ms.getD k 0) * prodI (ns.drop (k+1))
 | [],_,_,_,_,h=>by simp at h
 | _::_,[],_,_,h,_=>by simp at h
 | n::ns,m::ms,0,y,hl,_=>by
  show plH (n::ns) (y::ms)=plH (n::ns) (m::ms)+(y - m) * prodI ns
  rw [z2m,z2m,Int.sub_mul];omega
 | n::ns,m::ms,k+1,y,hl,h=>by
  show plH (n::ns) (m::ms.set k y)=plH (n::ns) (m::ms)+(y - ms.getD k 0) * prodI (ns.drop (k+1))
  rw [z2m,z2m,y5y (ns:=ns) (ms:=ms) (by simpa using hl) (by simpa using h)];omega
theorem x3u {ns:List Int}{k:Nat}{p:Int}(hk:k < ns.length) (h:∀n∈ns,0 < n):(atD ns p).getD k 0=p / prodI (ns.drop (k+1)) % ns.getD k 0:=by
 have e1:=y8w (ns.take (k+1)) (ns.drop (k+1)) (λ n hn=>h n (List.mem_of_mem_drop hn)) p
 rw [List.take_append_drop,List.take_add_one,z1w hk] at e1
 have e2:=z6h (ns.take k) (ns.getD k 0) (p / prodI (ns.drop (k+1)))
 rw [show (some (ns.getD k 0)).toList=[ns.getD k 0] from rfl,e2] at e1
 have tl:(atD (ns.take k) (p / prodI (ns.drop (k+1)) / ns.getD k 0)).length=k:=by rw [z3n,List.length_take];omega
 rw [e1,List.append_assoc,List.getD_eq_getElem?_getD,List.getElem?_append_right (by omega),tl,Nat.sub_self];rfl
def runL (w:Str) (b st n:Int) (cs:List Int):Nat->List Int
 | 0=>[]
 | j+1=>runL w b st n cs j++[twiceI w (if (j:Int) / st % n=0 then b else (runL w b st n cs j).getD ((j:Int) - st).toNat 0) (cs.getD j 0)]
theorem z5l (w:Str) (b st n:Int) (cs:List Int):∀j,(runL w b st n cs j).length=j
 | 0=>rfl
 | j+1=>by show (_++[_]).length=_;rw [List.length_append,z5l w b st n cs j];rfl
theorem z8j (w:Str) (b st n:Int) (cs:List Int) {i x:Nat}(hx:x < i):∀ {j:Nat},i≤j->(runL w b st n cs j).getD x 0=(runL w b st n cs i).getD x 0
 | 0,h=>by omega
 | j+1,h=>by
  by_cases e:i=j+1
  ·rw [e]
  ·have ih:=z8j w b st n cs hx (j:=j) (by omega)
   rw [← ih]
   show (_++[_]).getD x 0=_
   rw [List.getD_eq_getElem?_getD,List.getElem?_append_left (by rw [z5l];omega)];rfl
theorem x4n {w:Str}{b st n:Int}{cs:List Int}{i N:Nat}(h:i < N) (s0:0 < st):(runL w b st n cs N).getD i 0=twiceI w (if (i:Int) / st % n=0 then b else (runL w b st n cs N).getD ((i:Int) - st).toNat 0) (cs.getD i 0):=by
 have e:(runL w b st n cs (i+1)).getD i 0=twiceI w (if (i:Int) / st % n=0 then b else (runL w b st n cs i).getD ((i:Int) - st).toNat 0) (cs.getD i 0):=by
  show (_++[_]).getD i 0=_
  rw [List.getD_eq_getElem?_getD,List.getElem?_append_right (by rw [z5l];omega),z5l,Nat.sub_self];rfl
 rw [z8j w b st n cs (i:=i+1) (by omega) h,e]
 split
 ·rfl
 ·rename_i c
  by_cases i0:i=0
  ·subst i0;exact absurd (by show (0:Int) / st % n=0;rw [Int.zero_ediv,Int.zero_emod]) c
  ·rw [z8j w b st n cs (i:=i) (j:=N) (by omega) (by omega)]
theorem y5t {w:Str}{b st n:Int}{cs:List Int}(hw:w∈fw) (hb:inB b) (hc:∀c∈cs,inB c):∀ {j:Nat},j≤cs.length->∀c∈runL w b st n cs j,inB c
 | 0,_,c,h=>nomatch h
 | j+1,hj,c,h=>by
  have ih:=y5t (b:=b) (st:=st) (n:=n) hw hb hc (j:=j) (by omega)
  rcases List.mem_append.mp h with h | h
  ·exact ih c h
  ·cases List.mem_singleton.mp h
   refine z4s (y7p hw) ?_ (hc _ (z1x (by omega)))
   split
   ·exact hb
   ·by_cases l:((j:Int) - st).toNat < (runL w b st n cs j).length
    ·exact ih _ (z1x l)
    ·rw [List.getD_eq_getElem?_getD,List.getElem?_eq_none (by omega)];exact ⟨by decide,by decide⟩
def fldV (w:Str) (b:Int) (ns cs:List Int) (k:Nat) (A:List Int):Nat->Int
 | 0=>b
 | j+1=>twiceI w (fldV w b ns cs k A j) (cs.getD (plH ns (insL A k (j:Int))).toNat 0)
theorem x1w {w:Str}{b:Int}{ns cs A:List Int}{k:Nat}(hw:w∈fw) (hb:inB b) (hc:∀c∈cs,inB c):∀j,inB (fldV w b ns cs k A j)
 | 0=>hb
 | j+1=>by
  refine z4s (y7p hw) (x1w hw hb hc j) ?_
  by_cases l:(plH ns (insL A k (j:Int))).toNat < cs.length
  ·exact hc _ (z1x l)
  ·rw [List.getD_eq_getElem?_getD,List.getElem?_eq_none (by omega)];exact ⟨by decide,by decide⟩
theorem y7t {w:Str}{b:Int}{ns cs A:List Int}{k:Nat}(hs:sdOk ns) (hk:k < ns.length) (g:good (ns.eraseIdx k) A) (cl:(cs.length:Int)=prodI ns):∀ {j:Nat},(j:Int) < ns.getD k 0->fldV w b ns cs k A (j+1)=(runL w b (prodI (ns.drop (k+1))) (ns.getD k 0) cs cs.length).getD (plH ns (insL A k (j:Int))).toNat 0
 | j,hj=>by
  have gl:=g.1
  rw [List.length_eraseIdx,if_pos hk] at gl
  have gj:=z2g hk g (y:=(j:Int)) (by omega) hj
  have pi:=z7q gj
  have np:=x0a hs pi.1 pi.2
  have sp:=z5e (ns:=ns.drop (k+1)) λ n hn=>np n (List.mem_of_mem_drop hn)
  have e:plH ns (insL A k (j:Int)) / prodI (ns.drop (k+1)) % ns.getD k 0=(j:Int):=by
   rw [← x3u hk np,z9d hs gj,z3m (by omega)]
  rw [x4n (by omega) sp,show (((plH ns (insL A k (j:Int))).toNat:Nat):Int)=plH ns (insL A k (j:Int)) by omega,e]
  show twiceI w (fldV w b ns cs k A j) _=_
  congr 1
  cases j with
  | zero=>rfl
  | succ j =>
   rw [if_neg (by omega),y7t hs hk g cl (j:=j) (by omega)]
   have e2:=y5y (ns:=ns) (ms:=insL A k ((j+1:Nat):Int)) (k:=k) (y:=(j:Int)) gj.1 hk
   rw [y1k (by omega),z3m (by omega),show (j:Int) - ((j+1:Nat):Int)=-1 by omega,Int.neg_mul,Int.one_mul] at e2
   rw [e2];congr 1
def isF (w:Str):Prop:=w∈fw
theorem x6d {w:Str}(h:w∈fw):w=Str.ofString "add" \/ w=Str.ofString "sub" \/ w=Str.ofString "mul" \/ w=Str.ofString "quo" \/ w=Str.ofString "rest" \/ w=Str.ofString "max" \/ w=Str.ofString "min" \/ w=Str.ofString "less" \/ w=Str.ofString "like" \/ w=Str.ofString "and" \/ w=Str.ofString "or" \/ w=Str.ofString "xor" := by
 have:=y7p h
 simpa only [tw,List.mem_cons,List.not_mem_nil,or_false] using this
def fldL (w:Str) (ns cs:List Int) (k:Nat):List Int:=(List.range (prodI (ns.eraseIdx k)).toNat).map λ i:Nat=>fldV w (neuI w) ns cs k (atD (ns.eraseIdx k) (i:Int)) (ns.getD k 0).toNat
def runT (w:Str) (ns cs:List Int) (k:Nat):List Int:=runL w (neuI w) (prodI (ns.drop (k+1))) (ns.getD k 0) cs cs.length
def spneutral (C:Addr):Sp:=λ vs H Q E=>∃(w:Str),vs=[.str w]/\okS 1000 w/\(isF w->∀H',Same H H'->Q (.int (neuI w)) H')/\(¬isF w->∀H',Same H H'->E (.ref C) none H')
def spfoldT (T C1 C2:Addr):Sp:=λ vs H Q E=>∃(w:Str) (t:Addr) (ns cs:List Int) (side:Int),vs=[.str w,.ref t,.int side]/\okS 1000 w/\TbAt H t ns cs/\sm ns/\ns.length≤20/\prodI (ns.map one1)≤512/\(cs.length:Int)=prodI ns/\(∀c∈cs,inB c)/\TabOk H T ⟨163,4,167,21⟩ "fold.<locals>.number_at" /\ (¬isF w->∀H',Same H H'->E (.ref C1) none H')/\(isF w->off ns side->∀H',Same H H'->E (.ref C2) none H')/\(isF w->¬off ns side->∀H' p,SameP T H H'->TabOk H' T ⟨163,4,167,21⟩ "fold.<locals>.number_at" -> TbAt H' p (ns.eraseIdx side.toNat) (fldL w ns cs side.toNat)->Q (.ref p) H')
def sprunT (C1 C2:Addr):Sp:=λ vs H Q E=>∃(w:Str) (t:Addr) (ns cs:List Int) (side:Int),vs=[.str w,.ref t,.int side]/\okS 1000 w/\TbAt H t ns cs/\sm ns/\ns.length≤20/\prodI (ns.map one1)≤512/\(cs.length:Int)=prodI ns/\(∀c∈cs,inB c)/\(¬isF w->∀H',Same H H'->E (.ref C1) none H')/\(isF w->off ns side->∀H',Same H H'->E (.ref C2) none H')/\(isF w->¬off ns side->∀H' p,Same H H'->TbAt H' p ns (runT w ns cs side.toNat)->Q (.ref p) H')
theorem y9j (k:Int) (h0:0≤k) (h1:k < 7):∃w:Str,atI [V.str (Str.ofString "add"),V.str (Str.ofString "mul"),V.str (Str.ofString "max"),V.str (Str.ofString "min"),V.str (Str.ofString "and"),V.str (Str.ofString "or"),V.str (Str.ofString "xor")] k=some (.str w)/\w∈fw/\okS 1000 w/\atI [V.int 0,V.int 1,V.int (-9223372036854775808),V.int 9223372036854775807,V.int (-1),V.int 0,V.int 0] k=some (.int (neuI w)):=by
 obtain ⟨j,rfl⟩:=Int.eq_ofNat_of_zero_le h0
 match j,h1 with
 | 0,_=>exact ⟨_,rfl,by simp [fw],by decide +kernel,by rw [z9s];rfl⟩
 | 1,_=>exact ⟨_,rfl,by simp [fw],by decide +kernel,by rw [y2m];rfl⟩
 | 2,_=>exact ⟨_,rfl,by simp [fw],by decide +kernel,by rw [y2o];rfl⟩
 | 3,_=>exact ⟨_,rfl,by simp [fw],by decide +kernel,by rw [y2n];rfl⟩
 | 4,_=>exact ⟨_,rfl,by simp [fw],by decide +kernel,by rw [y2p];rfl⟩
 | 5,_=>exact ⟨_,rfl,by simp [fw],by decide +kernel,by rw [x0b];rfl⟩
 | 6,_=>exact ⟨_,rfl,by simp [fw],by decide +kernel,by rw [y2l];rfl⟩
 | m+7,h1=>exact absurd (Int.ofNat_lt.mp h1) (Nat.not_lt.mpr (Nat.le_add_left ..))
theorem x7r {A:List Int}{k:Nat}(h:A.length≤60):(cutV (A.map V.int) none (some (k:Int))).length+1≤sizeLine:=by rw [z3b,z0l];exact small (by rw [List.length_take];omega)
theorem x7q {A:List Int}{k j:Nat}{v:V}(h:A.length≤60):(cutV (A.map V.int) none (some (k:Int))++[v]).length+(cutV (A.map V.int) (some (j:Int)) none).length≤sizeLine:=by
 rw [z3b,z4c];simp only [List.length_append,List.length_map,List.length_take,List.length_drop,List.length_cons,List.length_nil];exact small (by omega)
theorem x7p {A:List Int}{k j:Nat}(h:A.length≤60):(cutV (A.map V.int) none (some (k:Int))).length+(cutV (A.map V.int) (some (j:Int)) none).length≤sizeLine:=by
 rw [z3b,z4c];simp only [List.length_map,List.length_take,List.length_drop];exact small (by omega)
theorem x5n (n:Int):inB (numI n):=by
 unfold numI inB
 split
 ·have h:n / 17 % 4=0\/n / 17 % 4=1\/n / 17 % 4=2\/n / 17 % 4=3:=by omega
  rcases h with h | h | h | h<;>rw [h]<;>exact ⟨by decide,by decide⟩
 ·omega
theorem x1v {ns:List Int}{k:Nat}{m:Int}(h:sdOk ns) (h0:0≤m) (h1:m < 1000000):sdOk (insL ns k m):=λ n hn=>by
 unfold insL at hn
 rcases List.mem_append.mp hn with hn | hn
 ·rcases List.mem_append.mp hn with hn | hn
  ·exact h n (List.mem_of_mem_take hn)
  ·cases List.mem_singleton.mp hn;omega
 ·exact h n (List.mem_of_mem_drop hn)
theorem z3z:∀ {ns:List Int}{k:Nat}{v:Int},(∀n∈ns,0≤n)->0≤v->v≤ns.getD k 0->prodI ((ns.set k v).map one1)≤prodI (ns.map one1)
 | [],_,_,_,_,_=>by simp
 | n::ns,0,v,h,h0,h1=>by
  have n0:=h n List.mem_cons_self
  have h1:v≤n:=h1
  show prodI ((v::ns).map one1)≤_
  rw [List.map_cons,List.map_cons,z0u,z0u]
  have p:=z1e λ m hm=>h m (List.mem_cons_of_mem _ hm)
  exact Int.mul_le_mul_of_nonneg_right (by unfold one1;split<;>split<;>omega) (by omega)
 | n::ns,k+1,v,h,h0,h1=>by
  have n0:=h n List.mem_cons_self
  have ih:=z3z (ns:=ns) (k:=k) (λ m hm=>h m (List.mem_cons_of_mem _ hm)) h0 h1
  show prodI ((n::ns.set k v).map one1)≤_
  rw [List.map_cons,List.map_cons,z0u,z0u]
  exact Int.mul_le_mul_of_nonneg_left ih (by unfold one1;split<;>omega)
def sprV (ns cs:List Int) (k:Nat) (m:Int) (i:Nat):Int:=cs.getD (plH ns ((atD (insL ns k m) (i:Int)).eraseIdx k)).toNat 0
def spspr (C1 C2 C3:Addr):Sp:=λ vs H Q E=>∃(a:Addr) (ns:List Int) (side many:Int),vs=[.ref a,.int side,.int many]/\H a=some (.tup (ns.map V.int))/\sdOk ns/\ns.length≤20/\many < 1000000/\(off1 ns side->E (.ref C1) none H)/\(¬off1 ns side->many < 0->E (.ref C2) none H)/\(¬off1 ns side->¬many < 0->bigI (insL ns side.toNat many)->∀H',Same H H'->E (.ref C3) none H')/\(¬off1 ns side->¬many < 0->¬bigI (insL ns side.toNat many)->∀H' p,Same H H'->H' p=some (.tup ((insL ns side.toNat many).map V.int))->Q (.ref p) H')
def spspreadT (T C1 C2 C3:Addr):Sp:=λ vs H Q E=>∃(t:Addr) (ns cs:List Int) (side many:Int),vs=[.ref t,.int side,.int many]/\TbAt H t ns cs/\sdOk ns/\ns.length≤20/\(cs.length:Int)=prodI ns/\many < 1000000/\TabOk H T ⟨203,27,203,72⟩ "spread.<locals>.<lambda>" /\ (off1 ns side->∀H',Same H H'->E (.ref C1) none H')/\(¬off1 ns side->many < 0->∀H',Same H H'->E (.ref C2) none H')/\(¬off1 ns side->¬many < 0->bigI (insL ns side.toNat many)->∀H',Same H H'->E (.ref C3) none H')/\(¬off1 ns side->¬many < 0->¬bigI (insL ns side.toNat many)->∀H' p,SameP T H H'->TabOk H' T ⟨203,27,203,72⟩ "spread.<locals>.<lambda>" -> TbAt H' p (insL ns side.toNat many) ((List.range (prodI (insL ns side.toNat many)).toNat).map (sprV ns cs side.toNat many))->Q (.ref p) H')
def splayT (C1 C2:Addr):Sp:=λ vs H Q E=>∃(t b:Addr) (ns cs ms:List Int),vs=[.ref t,.ref b]/\TbAt H t ns cs/\H b=some (.tup (ms.map V.int))/\sdOk ns/\sdOk ms/\ms.length≤20/\(bigI ms->∀H',Same H H'->E (.ref C1) none H')/\(¬bigI ms->prodI ns≠prodI ms->∀H',Same H H'->E (.ref C2) none H')/\(¬bigI ms->prodI ns=prodI ms->∀H' p,Same H H'->TbAt H' p ms cs->Q (.ref p) H')
def turnOk (n:Nat) (os:List Int):Prop:=os.Perm (upL n)
theorem up_mem {n:Nat}{x:Int}:x∈upL n ↔ 0≤x/\x < n:=by
 unfold upL
 constructor
 ·intro h;obtain ⟨i,hi,rfl⟩:=List.mem_map.mp h;have:=List.mem_range.mp hi;omega
 ·intro h;exact List.mem_map.mpr ⟨x.toNat,List.mem_range.mpr (by omega),by omega⟩
theorem x3w (n:Nat):(upL n).length=n:=by simp [upL]
theorem x6o (n:Nat):(upL n).Pairwise (·≤·):=by
 unfold upL
 rw [List.pairwise_map]
 exact List.Pairwise.imp (λ h=>by omega) (List.pairwise_lt_range (n:=n))
theorem x6p (n:Nat):(upL n).Nodup:=by
 unfold upL
 exact List.Pairwise.map _ (λ a b (h:a≠b)=>by omega) List.nodup_range
theorem z9f:∀ {l1 l2:List Int},l1.Perm l2->l1.Pairwise (·≤·)->l2.Pairwise (·≤·)->l1=l2
 | [],l2,p,_,_=>(List.nil_perm.mp p).symm
 | a::l1,l2,p,h1,h2=>by
  cases l2 with
  | nil=>exact List.perm_nil.mp p
  | cons b l2 =>
   obtain ⟨a1,a2⟩:=List.pairwise_cons.mp h1
   obtain ⟨b1,b2⟩:=List.pairwise_cons.mp h2
   have ab:a≤b:=by
    rcases List.mem_cons.mp (p.symm.subset (List.mem_cons_self ..)) with e | e
    ·omega
    ·exact a1 b e
   have ba:b≤a:=by
    rcases List.mem_cons.mp (p.subset (List.mem_cons_self ..)) with e | e
    ·omega
    ·exact b1 a e
   have e:a=b:=by omega
   subst e
   rw [z9f (List.perm_cons a |>.mp p) a2 b2]
theorem z6m {n:Nat}{os ss:List Int}(p:ss.Perm os) (s:ss.Pairwise (·≤·)):ss=upL n ↔ turnOk n os :=
 ⟨λ e=>p.symm.trans (by rw [e]),λ t=>z9f (p.trans t) s (x6o n)⟩
def turnL (ns os:List Int):List Int:=os.map λ k=>ns.getD k.toNat 0
theorem x7k {ns:List Int}{o:Int}(h0:0≤o) (h1:o < ns.length):atI (ns.map V.int) o=some (.int (ns.getD o.toNat 0)):=by
 have z:=z3h (ns:=ns) (k:=o.toNat) (by omega)
 rwa [show ((o.toNat:Nat):Int)=o by omega] at z
theorem x5w (x:Int) {n:Nat}(h:0 < n):∃k:Nat,k < n/\x % (n:Int)=(k:Int):=by
 have z1:=Int.emod_nonneg x (show (n:Int)≠0 by omega)
 have z2:=Int.emod_lt_of_pos x (show (0:Int) < n by omega)
 exact ⟨(x % (n:Int)).toNat,by omega,by omega⟩
theorem y7h {n k:Nat}(h:k < n):ixN n (k:Int)=some k:=by
 unfold ixN;rw [if_pos (by omega),if_pos (by omega)];simp
def Frz (H:Hp) (a:Addr) (os:List Int):Prop:=∃o,H a=some (.frz o (.tup (os.map V.int)))/\o.dict=none
theorem Frz.same {H H':Hp}{a:Addr}{os:List Int}(h:Frz H a os) (s:Same H H'):Frz H' a os:=let ⟨o,e,d⟩:=h;⟨o,s _ _ e,d⟩
theorem Frz.sq {K:W.Frag}{H:Hp}{a:Addr}{os:List Int}(h:Frz H a os):SqT K H a (os.map V.int):=let ⟨o,e,_⟩:=h;.inl (.inr ⟨o,e⟩)
def spturned (C:Addr):Sp:=λ vs H Q E=>∃(a b:Addr) (ns os:List Int),vs=[.ref a,.ref b]/\H a=some (.tup (ns.map V.int))/\Frz H b os/\ns.length≤20/\os.length≤20/\(¬turnOk ns.length os->∀H',Same H H'->E (.ref C) none H')/\(turnOk ns.length os->∀H' p,Same H H'->H' p=some (.tup ((turnL ns os).map V.int))->Q (.ref p) H')
theorem z9l {a b:List Int}(h:a.Perm b):prodI a=prodI b:=by
 induction h with
 | nil=>rfl
 | cons x _ ih=>rw [z0u,z0u,ih]
 | swap x y l=>rw [z0u,z0u,z0u,z0u,← Int.mul_assoc,← Int.mul_assoc,Int.mul_comm x y]
 | trans _ _ h1 h2=>rw [h1,h2]
theorem z2q {ns os:List Int}(t:turnOk ns.length os):(turnL ns os).Perm ns:=by
 have e:(upL ns.length).map (λ k:Int=>ns.getD k.toNat 0)=ns:=by
  unfold upL;rw [List.map_map];exact x3b rfl
 have:=t.map (λ k:Int=>ns.getD k.toNat 0)
 rw [e] at this;exact this
theorem z2t {n:Nat}{os:List Int}(t:turnOk n os):os.length=n:=by rw [t.length_eq,x3w]
theorem z2j {n:Nat}{os:List Int}(t:turnOk n os) {s:Nat}(h:s < n):(s:Int)∈os:=t.mem_iff.mpr (up_mem.mpr (by omega))
def oldT (os A:List Int):List Int:=(List.range os.length).map λ s:Nat=>A.getD (os.idxOf (s:Int)) 0
theorem y2u {ns os A:List Int}(t:turnOk ns.length os) (g:good (turnL ns os) A):good ns (oldT os A):=by
 have ol:=z2t t
 have tl:(turnL ns os).length=os.length:=List.length_map ..
 refine ⟨by unfold oldT;rw [List.length_map,List.length_range,ol],λ i m n em en=>?_⟩
 have il:=(List.getElem?_eq_some_iff.mp en).1
 have xl:=List.idxOf_lt_length_iff.mpr (z2j t il)
 unfold oldT at em
 rw [List.getElem?_map,List.getElem?_range (by omega)] at em
 have e2:(turnL ns os)[os.idxOf (i:Int)]?=some n:=by
  unfold turnL
  rw [List.getElem?_map,List.getElem?_eq_getElem xl,List.getElem_idxOf xl]
  show some (ns.getD ((i:Int)).toNat 0)=_
  rw [Int.toNat_natCast,List.getD_eq_getElem?_getD,en];rfl
 have al:=g.1
 exact g.2 (os.idxOf (i:Int)) m n (by rw [z1w (by omega)];exact em) e2
def movC (ns cs S:List Int) (F:List Int->List Int):List Int:=(List.range (prodI S).toNat).map λ i:Nat=>cs.getD (plH ns (F (atD S (i:Int)))).toNat 0
def flipF (ns:List Int) (k:Nat) (A:List Int):List Int:=A.set k (ns.getD k 0 - 1 - A.getD k 0)
def cutF (k:Nat) (f g:Int) (A:List Int):List Int:=A.set k (f+A.getD k 0 * g)
theorem z9x {ns A:List Int}{k:Nat}(hk:k < ns.length) (g:good ns A):good ns (flipF ns k A):=by
 have al:=g.1
 have ab:=g.2 k _ _ (z1w (by omega)) (z1w hk)
 exact y2t g rfl (λ _ _=>rfl) (z1w hk) (by omega) (by omega)
theorem x0z {ns A:List Int}{k:Nat}{f m s:Int}(hk:k < ns.length) (nb:¬bad ns k f m s) (g:good (ns.set k m) A):good ns (cutF k f s A):=by
 unfold bad at nb
 simp only [Int.toNat_natCast] at nb
 have al:=g.1
 rw [List.length_set] at al
 have ab:=g.2 k _ _ (z1w (by omega)) (List.getElem?_set_self hk)
 have z1:A.getD k 0 * s≤(m - 1) * s:=Int.mul_le_mul_of_nonneg_right (by omega) (by omega)
 have z2:0≤A.getD k 0 * s:=Int.mul_nonneg ab.1 (by omega)
 exact y2t g (List.length_set ..).symm (λ j hj=>by rw [List.getElem?_set_ne (λ z=>hj z.symm)]) (z1w hk) (by omega) (by omega)
theorem y2w {ns:List Int}{k:Nat}{f m s:Int}(h0:0≤ns.getD k 0) (nb:¬bad ns k f m s):0≤m/\m≤ns.getD k 0:=by
 unfold bad at nb
 simp only [Int.toNat_natCast] at nb
 by_cases c:0 < m
 ·have z1:(m - 1) * 1≤(m - 1) * s:=Int.mul_le_mul_of_nonneg_left (by omega) (by omega)
  omega
 ·omega
def dueQ (what:Int) (ns os:List Int) (side f m g:Int) (S:List Int) (F:List Int->List Int):Prop:=(what=0/\turnOk ns.length os/\S=turnL ns os/\F=oldT os)\/(what=1/\¬off ns side/\S=ns/\F=flipF ns side.toNat)\/(what=2/\¬off ns side/\¬bad ns side f m g/\S=ns.set side.toNat m/\F=cutF side.toNat f g)
theorem x6g {what:Int}{ns os:List Int}{side f m g:Int}{S:List Int}{F:List Int->List Int}(hm:sm ns) (h:dueQ what ns os side f m g S F):sm S/\S.length=ns.length/\prodI (S.map one1)≤prodI (ns.map one1):=by
 rcases h with ⟨_,t,rfl,rfl⟩ | ⟨_,o,rfl,rfl⟩ | ⟨_,o,b,rfl,rfl⟩
 ·have p:=z2q t
  exact ⟨λ n hn=>hm n (p.subset hn),p.length_eq,Int.le_of_eq (z9l (p.map one1))⟩
 ·exact ⟨hm,rfl,Int.le_refl _⟩
 ·obtain ⟨k,rfl,hk⟩:=y1s o
  have nk:=hm _ (z1x hk)
  obtain ⟨c0,c1⟩:=y2w (k:=k) nk.1 b
  simp only [Int.toNat_natCast]
  exact ⟨x1p hm c0 (by omega),List.length_set ..,z3z (λ n hn=>(hm n hn).1) c0 c1⟩
def spturnT (T C:Addr):Sp:=λ vs H Q E=>∃(t b:Addr) (ns cs os:List Int),vs=[.ref t,.ref b]/\TbAt H t ns cs/\Frz H b os/\sm ns/\ns.length≤20/\os.length≤20/\prodI (ns.map one1)≤512/\(cs.length:Int)=prodI ns/\TabOk H T ⟨194,27,194,90⟩ "turn.<locals>.<lambda>" /\ (¬turnOk ns.length os->∀H',Same H H'->E (.ref C) none H')/\(turnOk ns.length os->∀H' p,SameP T H H'->TabOk H' T ⟨194,27,194,90⟩ "turn.<locals>.<lambda>" -> TbAt H' p (turnL ns os) (movC ns cs (turnL ns os) (oldT os))->Q (.ref p) H')
def spflipT (T C:Addr):Sp:=λ vs H Q E=>∃(t:Addr) (ns cs:List Int) (side:Int),vs=[.ref t,.int side]/\TbAt H t ns cs/\sm ns/\ns.length≤20/\prodI (ns.map one1)≤512/\(cs.length:Int)=prodI ns/\TabOk H T ⟨197,27,197,100⟩ "flip.<locals>.<lambda>" /\ (off ns side->∀H',Same H H'->E (.ref C) none H')/\(¬off ns side->∀H' p,SameP T H H'->TabOk H' T ⟨197,27,197,100⟩ "flip.<locals>.<lambda>" -> TbAt H' p ns (movC ns cs ns (flipF ns side.toNat))->Q (.ref p) H')
def spcutT (T C D:Addr):Sp:=λ vs H Q E=>∃(t:Addr) (ns cs:List Int) (side f m g:Int),vs=[.ref t,.int side,.int f,.int m,.int g]/\TbAt H t ns cs/\sm ns/\ns.length≤20/\prodI (ns.map one1)≤512/\(cs.length:Int)=prodI ns/\-100 < m/\m < 1000000/\TabOk H T ⟨200,27,200,97⟩ "cut.<locals>.<lambda>" /\ (off ns side->∀H',Same H H'->E (.ref C) none H')/\(¬off ns side->bad ns side f m g->∀H',Same H H'->E (.ref D) none H')/\(¬off ns side->¬bad ns side f m g->∀H' p,SameP T H H'->TabOk H' T ⟨200,27,200,97⟩ "cut.<locals>.<lambda>" -> TbAt H' p (ns.set side.toNat m) (movC ns cs (ns.set side.toNat m) (cutF side.toNat f g))->Q (.ref p) H')
theorem SmT.frz {H H':Hp}{a:Addr}{os:List Int}(s:SmT H H') (h:Frz H a os):Frz H' a os:=let ⟨o,e,d⟩:=h;⟨o,s _ _ (λ _ z=>by cases z) e,d⟩
theorem x3a {H:Hp}{cl:List (Str × Addr)}{vcs:List V}{a:Addr}{xs:List V}(hc:CelAt H cl vcs) (h:H a=some (.lst xs)):minC H cl a=some (.lst xs):=by
 rw [z1q λ q hq z=>by obtain ⟨o,v,e⟩:=hc.mem hq;rw [z,h] at e;cases e];exact h
def one4:List Str:=["neg", "abs", "sign", "not"]
def two12:List Str:=["add", "sub", "mul", "quo", "rest", "max", "min", "less", "like", "and", "or", "xor"]
def ledV (ns cs ms:List Int) (i:Nat):Int:=cs.getD (plH ns ((atD ms (i:Int)).take ns.length)).toNat 0
def ledL (ns cs ms:List Int):List Int:=(List.range (prodI ms).toNat).map (ledV ns cs ms)
theorem z8x (ns cs ms:List Int):(ledL ns cs ms).length=(prodI ms).toNat:=by unfold ledL;rw [List.length_map,List.length_range]
theorem y7o {ns ms:List Int}(k:Nat) (g:good ns ms):good (ns.take k) (ms.take k):=by
 obtain ⟨l,g⟩:=g
 refine ⟨by rw [List.length_take,List.length_take,l],λ i m n em en=>?_⟩
 rw [List.getElem?_take] at em en
 split at em
 ·rename_i c;rw [if_pos c] at en;exact g i m n em en
 ·cases em
def spleadT (T C:Addr):Sp:=λ vs H Q E=>∃(t b:Addr) (ns cs ms:List Int),vs=[.ref t,.ref b]/\TbAt H t ns cs/\H b=some (.tup (ms.map V.int))/\sdOk ns/\sdOk ms/\ns.length≤20/\ms.length≤20/\(cs.length:Int)=prodI ns/\prodI ms≤512/\TabOk H T ⟨183,46,183,80⟩ "lead.<locals>.<lambda>" /\ (¬ms.take ns.length=ns->∀H',Same H H'->E (.ref C) none H')/\(ms.take ns.length=ns->∀H' p,SameP T H H'->TabOk H' T ⟨183,46,183,80⟩ "lead.<locals>.<lambda>" -> TbAt H' p ms (ledL ns cs ms)->Q (.ref p) H')
theorem y6d {x y:List Int}(h:pairOk x y):(pairL x y).take x.length=x/\(pairL x y).take y.length=y:=by
 unfold pairOk at h
 unfold pairL
 split at h
 ·rename_i c;rw [if_pos c];exact ⟨List.take_length,h⟩
 ·rename_i c;rw [if_neg c];exact ⟨h,List.take_length⟩
theorem y9u (x y:List Int):pairL x y=x\/pairL x y=y:=by unfold pairL;split<;>simp
theorem z6t {P:List Int->Prop}{x y:List Int}(hx:P x) (hy:P y):P (pairL x y):=(y9u x y).elim (λ e=>by rw [e];exact hx) (λ e=>by rw [e];exact hy)
theorem x1u {ns cs ms:List Int}(h:∀c∈cs,inB c):∀x∈ledL ns cs ms,inB x:=λ x hx=>by
 unfold ledL at hx
 obtain ⟨i,_,rfl⟩:=List.mem_map.mp hx
 unfold ledV
 rw [List.getD_eq_getElem?_getD]
 cases e:cs[(plH ns ((atD ms (i:Int)).take ns.length)).toNat]? with
 | none=>exact ⟨by decide,by decide⟩
 | some c=>exact h c (List.mem_of_getElem? e)
def prC (w:Str) (ns cs ms ds P:List Int):List Int:=List.zipWith (twiceI w) (ledL ns cs P) (ledL ms ds P)
def OkT (ns cs:List Int):Prop:=sdOk ns/\¬bigI ns/\(cs.length:Int)=prodI ns/\∀c∈cs,inB c
theorem x7j {ns:List Int}(h:¬bigI ns):ns.length≤6:=by unfold bigI at h;omega
theorem x7h {ns:List Int}(hs:sdOk ns) (h:¬bigI ns) (i:Nat):prodI (ns.take i)≤512:=Int.le_trans (y5b (λ n hn=>(hs n hn).1) i) (by unfold bigI at h;omega)
theorem x7i {ns:List Int}(hs:sdOk ns) (h:¬bigI ns):prodI ns≤512:=by have:=x7h hs h ns.length;rwa [List.take_length] at this
def Tabs3 (H:Hp) (l:Addr) (n0 c0 n1 c1 n2 c2:List Int):Prop:=∃a b c,H l=some (.lst [.ref a,.ref b,.ref c])/\TbAt H a n0 c0/\TbAt H b n1 c1/\TbAt H c n2 c2
theorem Tabs3.up {H H':Hp}{l:Addr}{n0 c0 n1 c1 n2 c2:List Int}(h:Tabs3 H l n0 c0 n1 c1 n2 c2) (s:SmT H H'):Tabs3 H' l n0 c0 n1 c1 n2 c2:=let ⟨a,b,c,h1,h2,h3,h4⟩:=h;⟨a,b,c,s.lst h1,s.tb h2,s.tb h3,s.tb h4⟩
def badW (what:Int) (w:Str):Prop:=(what=0/\¬w∈one4)\/(what=1/\¬w∈two12)
theorem OkT.l {ns cs:List Int}(o:OkT ns cs):ns.length≤20:=Nat.le_trans (x7j o.2.1) (by decide)
theorem OkT.p {ns cs:List Int}(o:OkT ns cs):prodI ns≤512:=x7i o.1 o.2.1
theorem OkT.c {ns cs:List Int}(o:OkT ns cs):cs.length≤900:=by have:=o.p;have:=o.2.2.1;omega
theorem nb2 {w:Str}:¬badW 2 w:=λ z=>z.elim (λ y=>absurd y.1 (by decide)) (λ y=>absurd y.1 (by decide))
def TbL (G:Hp) (ys:List V):Prop:=∀y∈ys,∃p ns cs,y=.ref p/\TbAt G p ns cs/\OkT ns cs
theorem TbL.up {G G':Hp}{ys:List V}(h:TbL G ys) (s:Same G G'):TbL G' ys:=λ y hy=>let ⟨p,ns,cs,e,t,o⟩:=h y hy;⟨p,ns,cs,e,t.same s,o⟩
theorem TbL.snoc {G:Hp}{ys:List V}{p:Addr}{ns cs:List Int}(h:TbL G ys) (t:TbAt G p ns cs) (o:OkT ns cs):TbL G (ys++[.ref p]):=λ y hy=>(List.mem_append.mp hy).elim (h y) (λ z=>⟨p,ns,cs,List.mem_singleton.mp z,t,o⟩)
def TabsL (l:List (Addr × Pos × Str)) (H:Hp):Prop:=∀x∈l,TabOk H x.1 x.2.1 x.2.2
theorem TabsL.same {l:List (Addr × Pos × Str)}{H H':Hp}(h:TabsL l H) (s:Same H H'):TabsL l H':=λ x hx=>(h x hx).same s
theorem TabsL.step {l:List (Addr × Pos × Str)}{H H':Hp}{T:Addr}{pos:Pos}{qual:Str}(h:TabsL l H) (nd:(l.map λ x=>x.1).Nodup) (m:(T,pos,qual)∈l) (s:SameP T H H') (t:TabOk H' T pos qual):TabsL l H':=λ x hx=>by
 by_cases c:x=(T,pos,qual)
 ·subst c;exact t
 ·have ne:x.1≠T:=λ z=>c (by
   have:x=(T,pos,qual):=by
    obtain ⟨i,hi,e1⟩:=List.getElem_of_mem hx
    obtain ⟨j,hj,e2⟩:=List.getElem_of_mem m
    have e3:(l.map λ x=>x.1)[i]?=(l.map λ x=>x.1)[j]?:=by
     rw [List.getElem?_map,List.getElem?_map,List.getElem?_eq_getElem hi,List.getElem?_eq_getElem hj,e1,e2]
     show some x.1=some T
     rw [z]
    have ij:=(List.getElem?_inj (by rw [List.length_map];exact hi) nd).mp e3
    subst ij
    exact e1.symm.trans e2
   exact this)
  exact TabOk.other ne (h _ m) (h x hx) s
theorem TabsL.smT {l:List (Addr × Pos × Str)}{H H':Hp}{T:Addr}{pos:Pos}{qual:Str}(h:TabsL l H) (m:(T,pos,qual)∈l) (s:SameP T H H'):SmT H H':=SmT.ofP (h _ m) s
def T6 (TD TL TT TP TU TS:Addr):List (Addr × Pos × Str):=[(TD,⟨163,4,167,21⟩, "fold.<locals>.number_at"),(TL,⟨183,46,183,80⟩, "lead.<locals>.<lambda>"),(TT,⟨194,27,194,90⟩, "turn.<locals>.<lambda>"),(TP,⟨197,27,197,100⟩, "flip.<locals>.<lambda>"),(TU,⟨200,27,200,97⟩, "cut.<locals>.<lambda>"),(TS,⟨203,27,203,72⟩, "spread.<locals>.<lambda>")]
theorem z3x {X:Cx}:CallR X (.type "int") (λ xs H Q=>∃k,xs=[.bl k]/\Q (.int (if k then 1 else 0)) H):=λ pins s σ H xs us Q I r h=>y8t pins s σ H xs us Q I r (.inr h)
theorem y4j (a b:Nat):(a &&& b)=2 * (a / 2 &&& b / 2)+(a % 2) * (b % 2):=by
 have h1:(a &&& b) / 2=a / 2 &&& b / 2:=Nat.and_div_two
 have h2:(a &&& b) % 2=(a % 2) &&& (b % 2):=Nat.and_mod_two_pow (n:=1)
 have h3:∀x y:Nat,x < 2->y < 2->x &&& y=x * y:=λ x y hx hy=>by
  match x,y,hx,hy with
  | 0,0,_,_=>rfl
  | 0,1,_,_=>rfl
  | 1,0,_,_=>rfl
  | 1,1,_,_=>rfl
 rw [← h1,← h3 _ _ (Nat.mod_lt _ (by decide)) (Nat.mod_lt _ (by decide)),← h2]
 omega
def AndR (x y:Int):Prop:=Builtin.bitAnd x y=2 * Builtin.bitAnd (x / 2) (y / 2)+(x % 2) * (y % 2)
theorem y3a {x y:Int}(h:AndR x y):AndR y x:=by
 unfold AndR at *
 rw [bitAnd_comm y x,bitAnd_comm (y / 2),Int.mul_comm (y % 2)];exact h
theorem y8x {x y:Int}(hx:0≤x) (hy:0≤y):AndR x y:=by
 unfold AndR
 rw [bitAnd_pp hx hy,bitAnd_pp (by omega) (by omega)]
 have e:=y4j x.toNat y.toNat
 rw [show (x / 2).toNat=x.toNat / 2 by omega,show (y / 2).toNat=y.toNat / 2 by omega,show x % 2=((x.toNat % 2:Nat):Int) by omega,show y % 2=((y.toNat % 2:Nat):Int) by omega,← Int.natCast_mul]
 omega
theorem y3b {x y:Int}(h:AndR x y):AndR x (Builtin.bitNot y):=by
 unfold AndR at *
 have e1:Builtin.bitNot y / 2=Builtin.bitNot (y / 2):=by unfold Builtin.bitNot;omega
 have e2:Builtin.bitNot y % 2=1 - y % 2:=by unfold Builtin.bitNot;omega
 rw [e1,e2,bitAnd_not,bitAnd_not,h,Int.mul_sub (x % 2),Int.mul_one]
 have e3:x=2 * (x / 2)+x % 2:=by omega
 generalize (x % 2) * (y % 2)=p at *
 generalize Builtin.bitAnd (x / 2) (y / 2)=q at *
 omega
theorem z8s (x:Int):Builtin.bitNot (Builtin.bitNot x)=x:=by unfold Builtin.bitNot;omega
theorem y0i (x y:Int):AndR x y:=by
 have n0:∀z:Int,¬0≤z->0≤Builtin.bitNot z:=λ z h=>by unfold Builtin.bitNot;omega
 have pn:∀ {x:Int}(y:Int),0≤x->AndR x y:=λ {x} y hx=>by
  by_cases hy:0≤y
  ·exact y8x hx hy
  ·have:=y3b (y8x hx (n0 y hy));rwa [z8s] at this
 by_cases hx:0≤x
 ·exact pn y hx
 ·by_cases hy:0≤y
  ·exact y3a (pn x hy)
  ·have:=y3b (y3a (pn x (n0 y hy)));rwa [z8s] at this
theorem x6m (x:Int):x % 2=0\/x % 2=1:=by omega
theorem y2z (x y:Int):Builtin.bitAnd x y / 2=Builtin.bitAnd (x / 2) (y / 2)/\Builtin.bitAnd x y % 2=(x % 2) * (y % 2):=by
 have h:=y0i x y
 unfold AndR at h
 rcases x6m x with a | a<;>rcases x6m y with b | b<;>rw [a,b] at h ⊢<;>omega
theorem y1w (x y:Int):Builtin.bitXor x y / 2=Builtin.bitXor (x / 2) (y / 2)/\Builtin.bitXor x y % 2=(x+y) % 2:=by
 have h:=y0i x y
 unfold AndR at h
 rw [bitXor_and,bitXor_and]
 rcases x6m x with a | a<;>rcases x6m y with b | b<;>rw [a,b] at h<;>omega
theorem x1k {x y:Int}(h:x / 2=y / 2) (g:x % 2=y % 2):x=y:=by omega
theorem z4p:∀(n:Nat) (x y z:Int),-2 ^ n≤x->x < 2 ^ n->-2 ^ n≤y->y < 2 ^ n->-2 ^ n≤z->z < 2 ^ n->Builtin.bitAnd (Builtin.bitAnd x y) z=Builtin.bitAnd x (Builtin.bitAnd y z)
 | 0,x,y,z,a,b,c,d,e,f=>by
  have hx:x=0\/x=-1:=by omega
  have hy:y=0\/y=-1:=by omega
  have hz:z=0\/z=-1:=by omega
  rcases hx with rfl | rfl<;>rcases hy with rfl | rfl<;>rcases hz with rfl | rfl<;>decide
 | n+1,x,y,z,a,b,c,d,e,f=>by
  rw [Int.pow_succ] at a b c d e f
  have ih:=z4p n (x / 2) (y / 2) (z / 2) (by omega) (by omega) (by omega) (by omega) (by omega) (by omega)
  have h1:=y2z x y
  have h2:=y2z y z
  have h3:=y2z (Builtin.bitAnd x y) z
  have h4:=y2z x (Builtin.bitAnd y z)
  refine x1k ?_ ?_
  ·rw [h3.1,h4.1,h1.1,h2.1,ih]
  ·rw [h3.2,h4.2,h1.2,h2.2,Int.mul_assoc]
theorem z6i:∀(n:Nat) (x y z:Int),-2 ^ n≤x->x < 2 ^ n->-2 ^ n≤y->y < 2 ^ n->-2 ^ n≤z->z < 2 ^ n->Builtin.bitXor (Builtin.bitXor x y) z=Builtin.bitXor x (Builtin.bitXor y z)
 | 0,x,y,z,a,b,c,d,e,f=>by
  have hx:x=0\/x=-1:=by omega
  have hy:y=0\/y=-1:=by omega
  have hz:z=0\/z=-1:=by omega
  rcases hx with rfl | rfl<;>rcases hy with rfl | rfl<;>rcases hz with rfl | rfl<;>decide
 | n+1,x,y,z,a,b,c,d,e,f=>by
  rw [Int.pow_succ] at a b c d e f
  have ih:=z6i n (x / 2) (y / 2) (z / 2) (by omega) (by omega) (by omega) (by omega) (by omega) (by omega)
  have h1:=y1w x y
  have h2:=y1w y z
  have h3:=y1w (Builtin.bitXor x y) z
  have h4:=y1w x (Builtin.bitXor y z)
  refine x1k ?_ ?_
  ·rw [h3.1,h4.1,h1.1,h2.1,ih]
  ·rw [h3.2,h4.2];omega
theorem y3t {x y z:Int}(hx:inB x) (hy:inB y) (hz:inB z):Builtin.bitOr (Builtin.bitOr x y) z=Builtin.bitOr x (Builtin.bitOr y z):=by
 unfold Builtin.bitOr
 rw [z8s,z8s]
 congr 1
 unfold inB at *
 refine z4p 63 _ _ _ ?_ ?_ ?_ ?_ ?_ ?_<;>unfold Builtin.bitNot<;>omega
theorem z9e {a b:Int}(h:∃q:Int,a=b+18446744073709551616 * q):wrapI a=wrapI b:=by
 obtain ⟨q,rfl⟩:=h
 unfold wrapI;omega
theorem x1i (a:Int):∃q:Int,wrapI a=a+18446744073709551616 * q:=⟨-((a+9223372036854775808) / 18446744073709551616),by unfold wrapI;omega⟩
theorem y4r {w:Str}{x y:Int}(h:w∈fw):twiceI w x y=twiceI w y x:=by
 simp only [fw,List.mem_cons,List.not_mem_nil,or_false] at h
 rcases h with rfl | rfl | rfl | rfl | rfl | rfl | rfl
 ·rw [z4f,z4f,Int.add_comm]
 ·rw [z4e,z4e,Int.mul_comm]
 ·rw [z4v,z4v];split<;>split<;>omega
 ·rw [z4u,z4u];split<;>split<;>omega
 ·rw [z4x,z4x,bitAnd_comm]
 ·rw [z7y,z7y,bitOr_comm]
 ·rw [z4t,z4t,bitXor_and,bitXor_and,bitAnd_comm];omega
theorem z4w {w:Str}{x y z:Int}(h:w∈fw) (hx:inB x) (hy:inB y) (hz:inB z):twiceI w (twiceI w x y) z=twiceI w x (twiceI w y z):=by
 have h0:=h
 simp only [fw,List.mem_cons,List.not_mem_nil,or_false] at h
 rcases h with rfl | rfl | rfl | rfl | rfl | rfl | rfl
 ·rw [z4f,z4f,z4f,z4f];unfold wrapI;omega
 ·rw [z4e,z4e,z4e,z4e]
  obtain ⟨p,hp⟩:=x1i (x * y)
  obtain ⟨q,hq⟩:=x1i (y * z)
  rw [hp,hq]
  refine (z9e ⟨p * z,?_⟩).trans (z9e (a:=x * (y * z+18446744073709551616 * q)) (b:=x * y * z) ⟨x * q,?_⟩).symm
  ·rw [Int.add_mul,Int.mul_assoc 18446744073709551616]
  ·rw [Int.mul_add,Int.mul_assoc,← Int.mul_assoc x 18446744073709551616 q,Int.mul_comm x 18446744073709551616,Int.mul_assoc]
 ·rw [z4v,z4v,z4v,z4v];repeat' split
  all_goals omega
 ·rw [z4u,z4u,z4u,z4u];repeat' split
  all_goals omega
 ·rw [z4x,z4x,z4x,z4x];unfold inB at *
  exact z4p 63 _ _ _ (by omega) (by omega) (by omega) (by omega) (by omega) (by omega)
 ·rw [z7y,z7y,z7y,z7y];exact y3t hx hy hz
 ·rw [z4t,z4t,z4t,z4t];unfold inB at *
  exact z6i 63 _ _ _ (by omega) (by omega) (by omega) (by omega) (by omega) (by omega)
def accW (w:Str) (f:Nat->Int):Nat->Int
 | 0=>neuI w
 | n+1=>twiceI w (accW w f n) (f n)
theorem z1r {w:Str}{f g:Nat->Int}:∀ {n:Nat},(∀j,j < n->f j=g j)->accW w f n=accW w g n
 | 0,_=>rfl
 | n+1,h=>by
  show twiceI w (accW w f n) (f n)=twiceI w (accW w g n) (g n)
  rw [z1r λ j hj=>h j (by omega),h n (by omega)]
theorem z5z {w:Str}{f:Nat->Int}(hw:w∈fw) (hf:∀j,inB (f j)):∀n,inB (accW w f n)
 | 0=>z6v w
 | n+1=>z4s (y7p hw) (z5z hw hf n) (hf n)
theorem y1v {w:Str}{f:Nat->Int}(hw:w∈fw) (hf:∀j,inB (f j)) (a:Nat):∀b,accW w f (a+b)=twiceI w (accW w f a) (accW w (λ j=>f (a+j)) b)
 | 0=>(y6s hw (z5z hw hf a)).symm
 | b+1=>by
  show twiceI w (accW w f (a+b)) (f (a+b))=twiceI w (accW w f a) (twiceI w (accW w (λ j=>f (a+j)) b) (f (a+b)))
  rw [y1v hw hf a b,z4w hw (z5z hw hf a) (z5z hw (λ j=>hf _) b) (hf _)]
theorem y9c {w:Str}{f:Nat->Int}(hw:w∈fw) (hf:∀j,inB (f j)) (n:Nat):accW w f (n+1)=twiceI w (f 0) (accW w (λ j=>f (j+1)) n):=by
 have h:=y1v hw hf 1 n
 rw [Nat.add_comm n 1,h]
 show twiceI w (twiceI w (neuI w) (f 0)) _=_
 rw [z8u hw (hf 0)]
 congr 1
 exact z1r λ j _=>by rw [Nat.add_comm]
theorem y9a {w:Str}{f:Nat->Int}(hw:w∈fw) (hf:∀j,inB (f j)):∀n,accW w (λ j=>f (n - 1 - j)) n=accW w f n
 | 0=>rfl
 | n+1=>by
  rw [y9c hw (λ j=>hf _) n]
  show twiceI w (f (n+1 - 1 - 0)) _=twiceI w (accW w f n) (f n)
  rw [y4r hw,← y9a hw hf n]
  congr 1
  exact z1r λ j _=>by congr 1;omega
theorem y9b {w:Str}(hw:w∈fw):∀n,accW w (λ _=>neuI w) n=neuI w
 | 0=>rfl
 | n+1=>by
  show twiceI w (accW w _ n) (neuI w)=_
  rw [y9b hw n,z8u hw (z6v w)]
theorem y0j {w:Str}{f g:Nat->Int}(hw:w∈fw) (hf:∀j,inB (f j)) (hg:∀j,inB (g j)):∀n,accW w (λ i=>twiceI w (f i) (g i)) n=twiceI w (accW w f n) (accW w g n)
 | 0=>(z8u hw (z6v w)).symm
 | n+1=>by
  show twiceI w (accW w _ n) (twiceI w (f n) (g n))=twiceI w (twiceI w (accW w f n) (f n)) (twiceI w (accW w g n) (g n))
  have fa:=z5z hw hf n
  have ga:=z5z hw hg n
  have t:=y7p hw
  rw [y0j hw hf hg n,z4w hw fa ga (z4s t (hf n) (hg n)),z4w hw fa (hf n) (z4s t ga (hg n)),← z4w hw ga (hf n) (hg n),← z4w hw (hf n) ga (hg n),y4r hw (x:=accW w g n)]
theorem y3d {w:Str}{f:Nat->Nat->Int}(hw:w∈fw) (hf:∀i j,inB (f i j)) (m:Nat):∀n,accW w (λ i=>accW w (λ j=>f i j) m) n=accW w (λ j=>accW w (λ i=>f i j) n) m
 | 0=>(y9b hw m).symm
 | n+1=>by
  show twiceI w (accW w _ n) (accW w (λ j=>f n j) m)=_
  rw [y3d hw hf m n,← y0j hw (λ j=>z5z hw (λ i=>hf i j) n) (λ j=>hf n j)]
  rfl
theorem y0k (x:Int):∀n:Nat,accW "add" (λ _=>x) n=wrapI ((n:Int) * x)
 | 0=>by show neuI "add" = _;rw [z9s,Int.natCast_zero,Int.zero_mul];rfl
 | n+1=>by
  show twiceI "add" (accW "add" _ n) x=_
  rw [y0k x n,z4f,Int.natCast_add,Int.add_mul,Int.natCast_one,Int.one_mul]
  generalize (n:Int) * x=p
  unfold wrapI;omega
def cA (ns cs A:List Int):Int:=cs.getD (plH ns A).toNat 0
def tF (S:List Int) (F:List Int->Int):List Int:=(List.range (prodI S).toNat).map λ i:Nat=>F (atD S (i:Int))
theorem x1m (S:List Int) (F:List Int->Int):(tF S F).length=(prodI S).toNat:=by unfold tF;rw [List.length_map,List.length_range]
theorem z6b {S A:List Int}{F:List Int->Int}(hs:sdOk S) (g:good S A):cA S (tF S F) A=F A:=by
 have p:=z7q g
 unfold cA tF
 rw [List.getD_eq_getElem?_getD,List.getElem?_map,List.getElem?_range (by omega)]
 show F (atD S (((plH S A).toNat:Nat):Int))=_
 rw [Int.toNat_of_nonneg p.1,z9d hs g]
theorem z4i {S:List Int}{F G:List Int->Int}(hs:sdOk S) (h:∀A,good S A->F A=G A):tF S F=tF S G:=by
 unfold tF
 refine List.map_congr_left λ i hi=>?_
 have il:=List.mem_range.mp hi
 rw [h _ (z2o hs (Int.natCast_nonneg i) (by omega))]
theorem y0e {ns cs A:List Int}(h:∀c∈cs,inB c):inB (cA ns cs A):=by
 unfold cA
 rw [List.getD_eq_getElem?_getD]
 cases e:cs[(plH ns A).toNat]? with
 | none=>exact ⟨by decide,by decide⟩
 | some c=>exact h c (List.mem_of_getElem? e)
def GT (ns cs:List Int):Prop:=sm ns/\ns.length≤6/\prodI (ns.map one1)≤512/\(cs.length:Int)=prodI ns/\∀c∈cs,inB c
theorem GT.nn {ns cs:List Int}(h:GT ns cs):∀n∈ns,0≤n:=λ n hn=>(h.1 n hn).1
theorem GT.sd {ns cs:List Int}(h:GT ns cs):sdOk ns:=z3c h.1
theorem GT.p5 {ns cs:List Int}(h:GT ns cs):prodI ns≤512:=Int.le_trans (z1e h.nn).2 h.2.2.1
theorem y5c {S:List Int}{F:List Int->Int}(a:sm S) (b:S.length≤6) (c:prodI (S.map one1)≤512) (h:∀A,inB (F A)):GT S (tF S F):=⟨a,b,c,by have:=z5m λ n hn=>(a n hn).1;rw [x1m];omega,λ x hx=>by
 unfold tF at hx
 obtain ⟨i,_,rfl⟩:=List.mem_map.mp hx
 exact h _⟩
theorem z6a {ns:List Int}(k:Nat) (h:sm ns):sm (ns.eraseIdx k):=λ n hn=>h n (List.mem_of_mem_eraseIdx hn)
theorem z2b {ns:List Int}{k:Nat}(hk:k < ns.length):(ns.eraseIdx k).length=ns.length - 1:=by rw [List.length_eraseIdx,if_pos hk]
theorem y7u (w:Str) (ns cs:List Int) (k:Nat) (A:List Int):∀n,fldV w (neuI w) ns cs k A n=accW w (λ j=>cA ns cs (insL A k (j:Int))) n
 | 0=>rfl
 | n+1=>by
  show twiceI w (fldV w (neuI w) ns cs k A n) _=twiceI w (accW w _ n) _
  rw [y7u w ns cs k A n];rfl
def foF (w:Str) (ns cs:List Int) (k:Nat) (A:List Int):Int:=accW w (λ j=>cA ns cs (insL A k (j:Int))) (ns.getD k 0).toNat
theorem z1t (w:Str) (ns cs:List Int) (k:Nat):fldL w ns cs k=tF (ns.eraseIdx k) (foF w ns cs k):=by
 unfold fldL tF foF
 exact List.map_congr_left λ i _=>y7u ..
theorem z4l (ns cs S:List Int) (G:List Int->List Int):movC ns cs S G=tF S (λ A=>cA ns cs (G A)):=rfl
theorem y7d (ns cs S:List Int):ledL ns cs S=tF S (λ A=>cA ns cs (A.take ns.length)):=rfl
def sprL (ns cs:List Int) (k:Nat) (m:Int):List Int:=(List.range (prodI (insL ns k m)).toNat).map (sprV ns cs k m)
theorem z8c (ns cs:List Int) (k:Nat) (m:Int):sprL ns cs k m=tF (insL ns k m) (λ A=>cA ns cs (A.eraseIdx k)):=rfl
theorem y5w (w:Str) (ns cs ms ds P:List Int):prC w ns cs ms ds P=tF P (λ A=>twiceI w (cA ns cs (A.take ns.length)) (cA ms ds (A.take ms.length))):=by
 unfold prC
 rw [y7d,y7d]
 unfold tF
 rw [List.zipWith_map_left,List.zipWith_map_right,List.zipWith_self]
theorem x7d {w:Str}{ns cs A:List Int}{k:Nat}(hw:w∈fw) (h:∀c∈cs,inB c):inB (foF w ns cs k A):=z5z hw (λ _=>y0e h) _
theorem z3s {w:Str}{ns cs:List Int}{k:Nat}(hw:w∈fw) (hk:k < ns.length) (h:GT ns cs):GT (ns.eraseIdx k) (fldL w ns cs k):=by
 rw [z1t]
 exact y5c (z6a k h.1) (by have:=h.2.1;rw [z2b hk];omega) (Int.le_trans (z3t h.nn) h.2.2.1) λ A=>x7d hw h.2.2.2.2
def lessN (a k:Nat):Nat:=if k < a then a - 1 else a
theorem z4m {A:List Int}{k a:Nat}{y:Int}(hk:k≤A.length) (h:a≠k):(insL A k y).getD a 0=A.getD (lessN a k) 0:=by
 unfold lessN
 rw [List.getD_eq_getElem?_getD,z0y hk,List.getD_eq_getElem?_getD]
 by_cases c:a < k
 ·rw [if_pos c,if_neg (by omega)]
 ·rw [if_neg c,if_neg h,if_pos (by omega)]
theorem z9a {ns:List Int}{k a:Nat}(h:a≠k):(ns.eraseIdx k).getD (lessN a k) 0=ns.getD a 0:=by
 unfold lessN
 rw [List.getD_eq_getElem?_getD,List.getElem?_eraseIdx,List.getD_eq_getElem?_getD]
 by_cases c:k < a
 ·rw [if_pos c,if_neg (by omega),show a - 1+1=a by omega]
 ·rw [if_neg c,if_pos (by omega)]
theorem y4d {A:List Int}{k a:Nat}{y v:Int}(hk:k≤A.length) (h:a≠k):(insL A k y).set a v=insL (A.set (lessN a k) v) k y:=by
 unfold lessN
 apply List.ext_getElem?
 intro i
 rw [List.getElem?_set,z0y hk,z0y (by rw [List.length_set];exact hk),z1y,List.getElem?_set,List.getElem?_set]
 by_cases c:k < a
 ·rw [if_pos c]
  repeat' split
  all_goals first | rfl | omega
 ·rw [if_neg c]
  repeat' split
  all_goals first | rfl | omega
theorem z8z {ns A:List Int}{k:Nat}{y:Int}(hk:k≤A.length):flipF ns k (insL A k y)=insL A k (ns.getD k 0 - 1 - y):=by
 unfold flipF
 rw [y1k hk,z3m hk]
theorem y1m {ns A:List Int}{k a:Nat}{y:Int}(hk:k≤A.length) (h:a≠k):flipF ns a (insL A k y)=insL (flipF (ns.eraseIdx k) (lessN a k) A) k y:=by
 unfold flipF
 rw [y4d hk h,z4m hk h,z9a h]
theorem x3e {A:List Int}{k a:Nat}{x y:Int}(h:a≠k) (hk:k≤A.length+1) (ha:a≤A.length+1):insL (insL A (lessN a k) x) k y=insL (insL A (lessN k a) y) a x:=by
 unfold lessN
 apply List.ext_getElem?
 intro i
 by_cases c:k < a
 ·rw [if_pos c,if_neg (by omega),z0y (by rw [z1y];omega),z0y (by omega),z0y (by omega),z0y (by rw [z1y];omega),z0y (by omega),z0y (by omega)]
  repeat' split
  all_goals first | rfl | omega | (congr 1;omega)
 ·rw [if_neg c,if_pos (by omega),z0y (by rw [z1y];omega),z0y (by omega),z0y (by omega),z0y (by rw [z1y];omega),z0y (by omega),z0y (by omega)]
  repeat' split
  all_goals first | rfl | omega | (congr 1;omega)
def moreN (k p:Nat):Nat:=if p≤k then k+1 else k
theorem x6c {A:List Int}{k p:Nat}{y:Int}(hk:k < A.length) (hp:p≤A.length):(insL A (moreN k p) y).eraseIdx p=insL (A.eraseIdx (lessN p k)) k y:=by
 unfold moreN lessN
 have e:∀q,q < A.length->k≤(A.eraseIdx q).length:=λ q hq=>by rw [List.length_eraseIdx,if_pos hq];omega
 apply List.ext_getElem?
 intro i
 by_cases c:p≤k
 ·rw [if_pos c,if_neg (by omega),List.getElem?_eraseIdx,z0y (by omega),z0y (by omega),z0y (e _ (by omega)),List.getElem?_eraseIdx,List.getElem?_eraseIdx]
  repeat' split
  all_goals first | rfl | omega | (congr 1;omega)
 ·rw [if_neg c,if_pos (by omega),List.getElem?_eraseIdx,z0y (by omega),z0y (by omega),z0y (e _ (by omega)),List.getElem?_eraseIdx,List.getElem?_eraseIdx]
  repeat' split
  all_goals first | rfl | omega | (congr 1;omega)
theorem x1x {A:List Int}{k p:Nat}{y:Int}(hk:k < A.length) (hp:p≤A.length):(insL A p y).eraseIdx (moreN k p)=insL (A.eraseIdx k) (lessN p k) y:=by
 unfold moreN lessN
 have e:=z2b hk
 apply List.ext_getElem?
 intro i
 by_cases c:p≤k
 ·rw [if_pos c,if_neg (by omega),List.getElem?_eraseIdx,z0y (by omega),z0y (by omega),z0y (by omega),List.getElem?_eraseIdx,List.getElem?_eraseIdx]
  repeat' split
  all_goals first | rfl | omega | (congr 1;omega)
 ·rw [if_neg c,if_pos (by omega),List.getElem?_eraseIdx,z0y (by omega),z0y (by omega),z0y (by omega),List.getElem?_eraseIdx,List.getElem?_eraseIdx]
  repeat' split
  all_goals first | rfl | omega | (congr 1;omega)
theorem y8e {A:List Int}{k:Nat}{f y:Int}(hk:k≤A.length):cutF k f 1 (insL A k y)=insL A k (f+y):=by
 unfold cutF
 rw [y1k hk,z3m hk,Int.mul_one]
theorem z6p {ns:List Int}{k:Nat}{m:Int}:(ns.set k m).eraseIdx k=ns.eraseIdx k:=by
 apply List.ext_getElem?
 intro i
 rw [List.getElem?_eraseIdx,List.getElem?_eraseIdx,List.getElem?_set,List.getElem?_set]
 repeat' split
 all_goals first | rfl | omega
theorem x6f {ns:List Int}{k a:Nat}(h:a≠k):(ns.eraseIdx k).eraseIdx (lessN a k)=(ns.eraseIdx a).eraseIdx (lessN k a):=by
 unfold lessN
 apply List.ext_getElem?
 intro i
 by_cases c:k < a
 ·rw [if_pos c,if_neg (by omega),List.getElem?_eraseIdx,List.getElem?_eraseIdx,List.getElem?_eraseIdx,List.getElem?_eraseIdx,List.getElem?_eraseIdx,List.getElem?_eraseIdx]
  repeat' split
  all_goals first | rfl | omega | (congr 1;omega)
 ·rw [if_neg c,if_pos (by omega),List.getElem?_eraseIdx,List.getElem?_eraseIdx,List.getElem?_eraseIdx,List.getElem?_eraseIdx,List.getElem?_eraseIdx,List.getElem?_eraseIdx]
  repeat' split
  all_goals first | rfl | omega | (congr 1;omega)
def lsF (k x:Int):Int:=x - if k < x then 1 else 0
def lessL (os:List Int) (k:Int):List Int:=(os.filter (λ x=>decide (x≠k))).map (lsF k)
theorem y2q {a k:Nat}:lsF (k:Int) (a:Int)=((lessN a k:Nat):Int):=by
 unfold lsF lessN
 by_cases c:k < a
 ·rw [if_pos (by omega),if_pos c];omega
 ·rw [if_neg (by omega),if_neg c];omega
theorem y4o (n:Nat):upL (n+1)=upL n++[(n:Int)]:=by unfold upL;rw [List.range_succ,List.map_append];rfl
theorem y4p:∀ {n k:Nat},k < n->lessL (upL n) (k:Int)=upL (n - 1)
 | 0,_,h=>by omega
 | n+1,k,h=>by
  unfold lessL
  rw [y4o,List.filter_append,List.map_append]
  by_cases c:k=n
  ·subst c
   have e1:(upL k).filter (λ x=>decide (x≠(k:Int)))=upL k:=List.filter_eq_self.mpr λ x hx=>by
    have:=up_mem.mp hx
    exact decide_eq_true (by omega)
   rw [e1,List.filter_cons_of_neg (by simp),List.filter_nil,List.map_nil,List.append_nil]
   show (upL k).map _=upL k
   conv=>rhs;rw [← List.map_id (upL k)]
   refine List.map_congr_left λ x hx=>?_
   have:=up_mem.mp hx
   unfold lsF
   rw [if_neg (by omega),Int.sub_zero];rfl
  ·have ih:=y4p (n:=n) (k:=k) (by omega)
   unfold lessL at ih
   rw [ih,List.filter_cons_of_pos (p:=λ x:Int=>decide (x≠(k:Int))) (decide_eq_true (show (n:Int)≠(k:Int) by omega)),List.filter_nil,List.map_cons,List.map_nil,y2q]
   unfold lessN
   rw [if_pos (by omega)]
   obtain ⟨m,rfl⟩:∃m,n=m+1:=⟨n - 1,by omega⟩
   rw [show m+1 - 1=m by omega,show m+1+1 - 1=m+1 by omega,y4o]
theorem z4y {n k:Nat}{os:List Int}(t:turnOk n os) (h:k < n):turnOk (n - 1) (lessL os (k:Int)):=by
 unfold turnOk
 rw [← y4p h]
 exact (List.Perm.filter _ t).map _
theorem y0m {n:Nat}{os:List Int}(t:turnOk n os):os.Nodup:=t.nodup_iff.mpr (x6p n)
theorem y7v {n:Nat}{os:List Int}(t:turnOk n os) (k:Int):os.filter (λ x=>decide (x≠k))=os.eraseIdx (os.idxOf k):=by
 rw [← List.erase_eq_eraseIdx_of_idxOf (l:=os) (a:=k) rfl,(y0m t).erase_eq_filter]
 refine List.filter_congr λ x _=>?_
 by_cases c:x=k
 ·subst c;simp
 ·simp [c]
theorem x7e {os:List Int}{i q:Nat}(h:q≠i):(os.eraseIdx i)[lessN q i]?=os[q]?:=by
 unfold lessN
 rw [List.getElem?_eraseIdx]
 by_cases c:i < q
 ·rw [if_pos c,if_neg (by omega),show q - 1+1=q by omega]
 ·rw [if_neg c,if_pos (by omega)]
theorem z7t {os:List Int}{x:Int}(h:x∈os):os[os.idxOf x]?=some x:=by
 have xl:=List.idxOf_lt_length_iff.mpr h
 rw [List.getElem?_eq_getElem xl,List.getElem_idxOf xl]
theorem x0h {n k s:Nat}{os:List Int}(t:turnOk n os) (hk:k < n) (hs:s < n) (ne:s≠k):(lessL os (k:Int)).idxOf ((lessN s k:Nat):Int)=lessN (os.idxOf (s:Int)) (os.idxOf (k:Int)):=by
 have t':=z4y t hk
 have es:=z7t (z2j t hs)
 have ek:=z7t (z2j t hk)
 have qn:os.idxOf (s:Int)≠os.idxOf (k:Int):=λ z=>by
  rw [z,ek] at es
  cases es
  omega
 have e1:(lessL os (k:Int))[lessN (os.idxOf (s:Int)) (os.idxOf (k:Int))]?=some ((lessN s k:Nat):Int):=by
  unfold lessL
  rw [List.getElem?_map,y7v t,x7e qn,es]
  show some (lsF (k:Int) (s:Int))=_
  rw [y2q]
 obtain ⟨h1,h2⟩:=List.getElem?_eq_some_iff.mp e1
 have:=(y0m t').idxOf_getElem _ h1
 rwa [h2] at this
theorem y1a (os A:List Int):(oldT os A).length=os.length:=by unfold oldT;rw [List.length_map,List.length_range]
theorem y6g {os A:List Int}{s:Nat}(h:s < os.length):(oldT os A)[s]?=some (A.getD (os.idxOf (s:Int)) 0):=by
 unfold oldT
 rw [List.getElem?_map,List.getElem?_range h];rfl
theorem x2w {n k:Nat}{os A:List Int}{y:Int}(t:turnOk n os) (hk:k < n) (al:A.length=n - 1):oldT os (insL A (os.idxOf (k:Int)) y)=insL (oldT (lessL os (k:Int)) A) k y:=by
 have t':=z4y t hk
 have ol:=z2t t
 have ol':=z2t t'
 have il:os.idxOf (k:Int) < n:=by rw [← ol];exact List.idxOf_lt_length_iff.mpr (z2j t hk)
 apply List.ext_getElem?
 intro s
 rw [z0y (by rw [y1a];omega)]
 by_cases c:s < n
 ·rw [y6g (by omega)]
  by_cases e:s=k
  ·subst e
   rw [if_neg (by omega),if_pos rfl,z3m (by omega)]
  ·have q:=x0h t hk c e
   have qn:os.idxOf (s:Int)≠os.idxOf (k:Int):=λ z=>by
    have es:=z7t (z2j t c)
    rw [z,z7t (z2j t hk)] at es
    cases es;omega
   rw [z4m (by omega) qn,← q]
   by_cases l:s < k
   ·rw [if_pos l,y6g (by omega)]
    unfold lessN
    rw [if_neg (by omega)]
   ·rw [if_neg l,if_neg e,y6g (by omega)]
    unfold lessN
    rw [if_pos (by omega)]
 ·rw [List.getElem?_eq_none (by rw [y1a];omega),if_neg (by omega),if_neg (by omega),List.getElem?_eq_none (by rw [y1a];omega)]
theorem y4u {ns os:List Int}{k:Nat}(t:turnOk ns.length os) (hk:k < ns.length):(turnL ns os).eraseIdx (os.idxOf (k:Int))=(os.filter (λ x=>decide (x≠(k:Int)))).map (λ x=>ns.getD x.toNat 0)/\turnL (ns.eraseIdx k) (lessL os (k:Int))=(os.filter (λ x=>decide (x≠(k:Int)))).map (λ x=>ns.getD x.toNat 0):=by
 constructor
 ·rw [y7v t]
  unfold turnL
  rw [List.eraseIdx_eq_take_drop_succ,List.eraseIdx_eq_take_drop_succ,List.map_append,List.map_take,List.map_drop]
 ·unfold turnL lessL
  rw [List.map_map]
  refine List.map_congr_left λ x hx=>?_
  obtain ⟨xm,xn⟩:=List.mem_filter.mp hx
  have xb:=up_mem.mp (t.subset xm)
  have xk:x≠(k:Int):=of_decide_eq_true xn
  show (ns.eraseIdx k).getD (lsF (k:Int) x).toNat 0=ns.getD x.toNat 0
  rw [show x=((x.toNat:Nat):Int) by omega,y2q,Int.toNat_natCast,Int.toNat_natCast,z9a (by omega)]
theorem y4w {ns os:List Int}{k:Nat}(t:turnOk ns.length os) (hk:k < ns.length):(turnL ns os).getD (os.idxOf (k:Int)) 0=ns.getD k 0:=by
 unfold turnL
 rw [List.getD_eq_getElem?_getD,List.getElem?_map,z7t (z2j t hk)];rfl
theorem y0l {ns os:List Int}(t:turnOk ns.length os) (h:sm ns):sm (turnL ns os):=λ n hn=>h n ((z2q t).subset hn)
theorem y4x {ns cs os:List Int}(t:turnOk ns.length os) (h:GT ns cs):GT (turnL ns os) (movC ns cs (turnL ns os) (oldT os)):=by
 rw [z4l]
 refine y5c (y0l t h.1) (by rw [(z2q t).length_eq];exact h.2.1) ?_ λ A=>y0e h.2.2.2.2
 rw [z9l ((z2q t).map one1)];exact h.2.2.1
theorem y4t {w:Str}{ns cs os:List Int}{k:Nat}(hw:w∈fw) (h:GT ns cs) (t:turnOk ns.length os) (hk:k < ns.length):fldL w (turnL ns os) (movC ns cs (turnL ns os) (oldT os)) (os.idxOf (k:Int))=movC (ns.eraseIdx k) (fldL w ns cs k) (turnL (ns.eraseIdx k) (lessL os (k:Int))) (oldT (lessL os (k:Int))):=by
 have t':turnOk (ns.eraseIdx k).length (lessL os (k:Int)):=by rw [z2b hk];exact z4y t hk
 have E:=y4u t hk
 have ol:=z2t t
 have tl:(turnL ns os).length=ns.length:=(z2q t).length_eq
 have il:os.idxOf (k:Int) < (turnL ns os).length:=by rw [tl,← ol];exact List.idxOf_lt_length_iff.mpr (z2j t hk)
 have sdT:=z3c (y0l t h.1)
 have sE:=z3c (z6a k h.1)
 rw [z1t,z4l,z4l,z1t,E.1.trans E.2.symm]
 refine z4i (z3c (y0l t' (z6a k h.1))) λ A g=>?_
 rw [z6b sE (y2u t' g)]
 unfold foF
 rw [y4w t hk]
 refine z1r λ j hj=>?_
 have al:A.length=ns.length - 1:=by rw [g.1,(z2q t').length_eq,z2b hk]
 have g2:good ((turnL ns os).eraseIdx (os.idxOf (k:Int))) A:=by rw [E.1.trans E.2.symm];exact g
 rw [z6b sdT (z2g il g2 (Int.natCast_nonneg j) (by rw [y4w t hk];omega)),x2w t hk al]
theorem y1n {ns cs:List Int}{k:Nat}(h:GT ns cs):GT ns (movC ns cs ns (flipF ns k)):=y5c h.1 h.2.1 h.2.2.1 λ _=>y0e h.2.2.2.2
theorem z7k {w:Str}{ns cs:List Int}{k:Nat}(hw:w∈fw) (h:GT ns cs) (hk:k < ns.length):fldL w ns (movC ns cs ns (flipF ns k)) k=fldL w ns cs k:=by
 rw [z1t,z4l,z1t]
 refine z4i (z3c (z6a k h.1)) λ A g=>?_
 have al:A.length=ns.length - 1:=by rw [g.1,z2b hk]
 unfold foF
 rw [← y9a hw (λ _=>y0e h.2.2.2.2) (ns.getD k 0).toNat]
 refine z1r λ j hj=>?_
 rw [z6b h.sd (z2g hk g (Int.natCast_nonneg j) (by omega)),z8z (by omega)]
 congr 2
 omega
theorem z9y {w:Str}{ns cs:List Int}{k a:Nat}(h:GT ns cs) (hk:k < ns.length) (ha:a < ns.length) (ne:a≠k):fldL w ns (movC ns cs ns (flipF ns a)) k=movC (ns.eraseIdx k) (fldL w ns cs k) (ns.eraseIdx k) (flipF (ns.eraseIdx k) (lessN a k)):=by
 have sE:=z3c (z6a k h.1)
 have lE:lessN a k < (ns.eraseIdx k).length:=by rw [z2b hk];unfold lessN;split<;>omega
 rw [z1t,z4l,z4l,z1t]
 refine z4i sE λ A g=>?_
 have al:A.length=ns.length - 1:=by rw [g.1,z2b hk]
 rw [z6b sE (z9x lE g)]
 unfold foF
 refine z1r λ j hj=>?_
 rw [z6b h.sd (z2g hk g (Int.natCast_nonneg j) (by omega)),y1m (by omega) ne]
theorem z8w {n a k:Nat}(ha:a < n) (hk:k < n) (ne:a≠k):lessN a k < n - 1:=by unfold lessN;split<;>omega
theorem z7v {w:Str}{ns cs:List Int}{k a:Nat}(hw:w∈fw) (h:GT ns cs) (hk:k < ns.length) (ha:a < ns.length) (ne:a≠k) {A:List Int}(g:good ((ns.eraseIdx k).eraseIdx (lessN a k)) A):foF w (ns.eraseIdx k) (tF (ns.eraseIdx k) (foF w ns cs k)) (lessN a k) A=accW w (λ i=>accW w (λ j=>cA ns cs (insL (insL A (lessN a k) (i:Int)) k (j:Int))) (ns.getD k 0).toNat) (ns.getD a 0).toNat:=by
 have lE:lessN a k < (ns.eraseIdx k).length:=by rw [z2b hk];exact z8w ha hk ne
 show accW w _ _=_
 rw [z9a ne]
 refine z1r λ i hi=>?_
 rw [z6b (z3c (z6a k h.1)) (z2g lE g (Int.natCast_nonneg i) (by rw [z9a ne];omega))]
 rfl
theorem y7s {w:Str}{ns cs:List Int}{k a:Nat}(hw:w∈fw) (h:GT ns cs) (hk:k < ns.length) (ha:a < ns.length) (ne:a≠k):fldL w (ns.eraseIdx k) (fldL w ns cs k) (lessN a k)=fldL w (ns.eraseIdx a) (fldL w ns cs a) (lessN k a):=by
 have ee:=x6f (ns:=ns) ne
 rw [z1t,z1t,z1t,z1t,ee]
 refine z4i (z3c (z6a _ (z6a _ h.1))) λ A g=>?_
 rw [z7v hw h hk ha ne (by rw [ee];exact g),z7v hw h ha hk (λ z=>ne z.symm) g,y3d hw (λ _ _=>y0e h.2.2.2.2)]
 have al:A.length=ns.length - 1 - 1:=by rw [g.1,z2b (by rw [z2b ha];exact z8w hk ha (λ z=>ne z.symm)),z2b ha]
 refine z1r λ j hj=>z1r λ i hi=>?_
 rw [x3e ne (by omega) (by omega)]
theorem z9g {ns cs:List Int}{k:Nat}{m f:Int}(h:GT ns cs) (hk:k < ns.length) (m0:0≤m) (m1:m≤ns.getD k 0):GT (ns.set k m) (movC ns cs (ns.set k m) (cutF k f 1)):=by
 have b:=h.1 _ (z1x hk)
 refine y5c (λ n hn=>?_) (by rw [List.length_set];exact h.2.1) ?_ λ _=>y0e h.2.2.2.2
 ·rcases List.mem_or_eq_of_mem_set hn with z | z
  ·exact h.1 n z
  ·omega
 ·refine Int.le_trans ?_ h.2.2.1
  exact z3z h.nn m0 m1
theorem x2a {w:Str}{ns cs A:List Int}{k:Nat}{m f:Int}(h:GT ns cs) (hk:k < ns.length) (m0:0≤m) (m1:m≤ns.getD k 0) (g:good (ns.eraseIdx k) A):foF w (ns.set k m) (movC ns cs (ns.set k m) (cutF k f 1)) k A=accW w (λ j=>cA ns cs (insL A k (f+(j:Int)))) m.toNat:=by
 have al:A.length=ns.length - 1:=by rw [g.1,z2b hk]
 show accW w _ _=_
 rw [y1l hk]
 refine z1r λ j hj=>?_
 rw [z4l,z6b (z9g (f:=0) h hk m0 m1).sd (z2g (by rw [List.length_set];exact hk) (by rw [z6p];exact g) (Int.natCast_nonneg j) (by rw [y1l hk];omega)),y8e (by omega)]
theorem x4x {w:Str}{ns cs:List Int}{k:Nat}{f:Int}(hw:w∈fw) (h:GT ns cs) (hk:k < ns.length) (f0:0≤f) (f1:f≤ns.getD k 0):prC w (ns.eraseIdx k) (fldL w (ns.set k f) (movC ns cs (ns.set k f) (cutF k 0 1)) k) (ns.eraseIdx k) (fldL w (ns.set k (ns.getD k 0 - f)) (movC ns cs (ns.set k (ns.getD k 0 - f)) (cutF k f 1)) k) (ns.eraseIdx k)=fldL w ns cs k:=by
 have sE:=z3c (z6a k h.1)
 rw [y5w,z1t,z1t,z1t,z6p,z6p]
 refine z4i sE λ A g=>?_
 rw [List.take_of_length_le (by rw [g.1];exact Nat.le_refl _),z6b sE g,z6b sE g,x2a h hk f0 f1 g,x2a h hk (by omega) (by omega) g]
 have e:=y1v (w:=w) (f:=λ j=>cA ns cs (insL A k (j:Int))) hw (λ _=>y0e h.2.2.2.2) f.toNat (ns.getD k 0 - f).toNat
 unfold foF
 rw [show (ns.getD k 0).toNat=f.toNat+(ns.getD k 0 - f).toNat by omega,e]
 congr 1
 ·exact z1r λ j _=>by rw [Int.zero_add]
 ·exact z1r λ j _=>by
   show cA ns cs (insL A k (f+(j:Int)))=cA ns cs (insL A k ((f.toNat+j:Nat):Int))
   congr 2;omega
theorem z5d:∀ {ns:List Int}{k:Nat},k < ns.length->prodI (ns.set k 1)=prodI (ns.eraseIdx k)
 | [],_,h=>by simp at h
 | n::ns,0,_=>by show prodI (1::ns)=prodI ns;rw [z0u,Int.one_mul]
 | n::ns,k+1,h=>by
  show prodI (n::ns.set k 1)=prodI (n::ns.eraseIdx k)
  rw [z0u,z0u,z5d (by simpa using h)]
theorem y5z:∀ {ns A:List Int}{k:Nat},k < ns.length->A.length=ns.length - 1->plH (ns.set k 1) (insL A k 0)=plH (ns.eraseIdx k) A
 | [],_,_,h,_=>by simp at h
 | n::ns,A,0,_,_=>by
  show plH (1::ns) (0::A)=plH ns A
  rw [z2m,Int.zero_mul,Int.zero_add]
 | n::ns,[],k+1,h,l=>by simp at h l;omega
 | n::ns,a::A,k+1,h,l=>by
  show plH (n::ns.set k 1) (a::insL A k 0)=plH (n::ns.eraseIdx k) (a::A)
  rw [z2m,z2m,z5d (by simpa using h),y5z (by simpa using h) (by simp at h l;omega)]
theorem x3t {ns:List Int}{k:Nat}{p:Int}(hs:sdOk ns) (hk:k < ns.length) (h0:0≤p) (h1:p < prodI (ns.eraseIdx k)):atD (ns.set k 1) p=insL (atD (ns.eraseIdx k) p) k 0:=by
 have sE:sdOk (ns.eraseIdx k):=λ n hn=>hs n (List.mem_of_mem_eraseIdx hn)
 have sS:sdOk (ns.set k 1):=λ n hn=>by
  rcases List.mem_or_eq_of_mem_set hn with z | z
  ·exact hs n z
  ·omega
 have g:=z2o sE h0 h1
 have e:=y5z (A:=atD (ns.eraseIdx k) p) hk (by rw [z3n,z2b hk])
 rw [x4s sE h0 h1] at e
 have g2:good (ns.set k 1) (insL (atD (ns.eraseIdx k) p) k 0):=z2g (by rw [List.length_set];exact hk) (by rw [z6p];exact g) (by decide) (by rw [y1l hk];decide)
 have:=z9d sS g2
 rw [e] at this
 exact this
theorem y9o {w:Str}{ns cs:List Int}{k:Nat}(h:GT ns cs) (hk:k < ns.length) (n1:1≤ns.getD k 0):movC ns (runT w ns cs k) (ns.set k 1) (cutF k (ns.getD k 0 - 1) 1)=fldL w ns cs k:=by
 have sE:sdOk (ns.eraseIdx k):=z3c (z6a k h.1)
 have pn:=z5m (λ n hn=>(sE n hn).1)
 unfold movC fldL
 rw [z5d hk]
 refine List.map_congr_left λ i hi=>?_
 have il:=List.mem_range.mp hi
 have g:=z2o sE (Int.natCast_nonneg i) (show (i:Int) < prodI (ns.eraseIdx k) by omega)
 have fr:=y7t (w:=w) (b:=neuI w) (cs:=cs) h.sd hk g h.2.2.2.1 (j:=(ns.getD k 0 - 1).toNat) (by omega)
 rw [x3t h.sd hk (Int.natCast_nonneg i) (by omega),y8e (by rw [z3n,z2b hk];omega),show (ns.getD k 0).toNat=(ns.getD k 0 - 1).toNat+1 by omega,fr]
 unfold runT
 rw [Int.add_zero,show (((ns.getD k 0 - 1).toNat:Nat):Int)=ns.getD k 0 - 1 by omega]
theorem x4o {w:Str}{ns cs:List Int}{k:Nat}(hw:w∈fw) (h:GT ns cs):GT ns (runT w ns cs k):=⟨h.1,h.2.1,h.2.2.1,by unfold runT;rw [z5l];exact h.2.2.2.1,y5t hw (z6v w) h.2.2.2.2 (Nat.le_refl _)⟩
theorem z4z {ns cs:List Int}{k:Nat}{m:Int}(h:GT ns cs) (m0:0≤m) (m1:m≤512) (nb:¬bigI (insL ns k m)):GT (insL ns k m) (sprL ns cs k m):=by
 unfold bigI at nb
 rw [z8c]
 refine y5c (λ n hn=>?_) (by omega) (by omega) λ _=>y0e h.2.2.2.2
 unfold insL at hn
 rcases List.mem_append.mp hn with z | z
 ·rcases List.mem_append.mp z with z | z
  ·exact h.1 n (List.mem_of_mem_take z)
  ·cases List.mem_singleton.mp z
   omega
 ·exact h.1 n (List.mem_of_mem_drop z)
theorem y0n {w:Str}{ns cs:List Int}{k p:Nat}{m:Int}(h:GT ns cs) (hk:k < ns.length) (hp:p≤ns.length) (m0:0≤m) (m1:m≤512) (nb:¬bigI (insL ns p m)):fldL w (insL ns p m) (sprL ns cs p m) (moreN k p)=sprL (ns.eraseIdx k) (fldL w ns cs k) (lessN p k) m:=by
 have G:=z4z (k:=p) h m0 m1 nb
 have mk:moreN k p < (insL ns p m).length:=by rw [z1y];unfold moreN;split<;>omega
 have sE:sdOk (ns.eraseIdx k):=z3c (z6a k h.1)
 have ei:=x1x (y:=m) hk hp
 have lp:lessN p k≤(ns.eraseIdx k).length:=by rw [z2b hk];unfold lessN;split<;>omega
 rw [z1t,z8c,z8c,z1t,ei]
 refine z4i (by rw [← ei];exact z3c (z6a _ G.1)) λ A g=>?_
 have al:A.length=ns.length:=by rw [g.1,z1y,z2b hk];omega
 have g2:=z7u (lessN p k) g
 rw [z3f lp] at g2
 rw [z6b sE g2]
 unfold foF
 have en:(insL ns p m).getD (moreN k p) 0=ns.getD k 0:=by
  have ne:moreN k p≠p:=by unfold moreN;split<;>omega
  rw [z4m hp ne]
  congr 1
  unfold moreN lessN
  split<;>split<;>omega
 rw [en]
 refine z1r λ j hj=>?_
 rw [z6b G.sd (z2g mk (by rw [ei];exact g) (Int.natCast_nonneg j) (by rw [en];omega)),x6c (by omega) (by omega)]
theorem y3j {ns cs:List Int}{p:Nat}{m:Int}(h:GT ns cs) (hp:p≤ns.length) (m0:0≤m) (m1:m≤512) (nb:¬bigI (insL ns p m)):fldL (Str.ofString "add") (insL ns p m) (sprL ns cs p m) p=prC (Str.ofString "mul") ns cs [] [m] ns:=by
 have G:=z4z (k:=p) h m0 m1 nb
 rw [z1t,z8c,y5w,z3f hp]
 refine z4i h.sd λ A g=>?_
 have al:=g.1
 rw [List.take_of_length_le (by omega)]
 have e2:cA [] [m] (A.take ([]:List Int).length)=m:=by
  show cA [] [m] (A.take 0)=m
  rw [List.take_zero];rfl
 rw [e2]
 unfold foF
 rw [z3m hp,show accW (Str.ofString "add") (λ j=>cA (insL ns p m) (tF (insL ns p m) λ A=>cA ns cs (A.eraseIdx p)) (insL A p (j:Int))) m.toNat=accW (Str.ofString "add") (λ _=>cA ns cs A) m.toNat from z1r λ j hj=>by
  rw [z6b G.sd (z2g (by rw [z1y];omega) (by rw [z3f hp];exact g) (Int.natCast_nonneg j) (by rw [z3m hp];omega)),z3f (by omega)]]
 rw [y0k,z4e,Int.toNat_of_nonneg m0,Int.mul_comm]
theorem y5d {os:List Int}{j m:Nat}(hj:j < os.length) (hm:m < os.length):((os.set j (os.getD m 0)).set m (os.getD j 0)).Perm os:=by
 have e:=List.set_set_perm hj hm
 rw [show os.getD m 0=os[m] by rw [List.getD_eq_getElem?_getD,List.getElem?_eq_getElem hm];rfl,show os.getD j 0=os[j] by rw [List.getD_eq_getElem?_getD,List.getElem?_eq_getElem hj];rfl]
 exact e
theorem y2c {T:Addr}{H H':Hp}(s:Same H H'):SameP T H H':=λ a o _ e=>s a o e
theorem z8h {T:Addr}{H H1 H2:Hp}(s:SameP T H H1) (r:SameP T H1 H2):SameP T H H2:=λ a o n e=>r a o n (s a o n e)
def sppairG (T CU:Addr):Sp:=λ vs H Q E=>∃(w:Str) (t u:Addr) (ns cs ms ds:List Int),vs=[.str w,.ref t,.ref u]/\isF w/\TbAt H t ns cs/\TbAt H u ms ds/\sdOk ns/\sdOk ms/\ns.length≤20/\ms.length≤20/\(cs.length:Int)=prodI ns/\(ds.length:Int)=prodI ms/\prodI ns≤512/\prodI ms≤512/\(∀c∈cs,inB c)/\(∀c∈ds,inB c)/\TabOk H T ⟨183,46,183,80⟩ "lead.<locals>.<lambda>" /\ (¬pairOk ns ms->∀H',Same H H'->E (.ref CU) none H')/\(pairOk ns ms->∀H' p,SameP T H H'->TabOk H' T ⟨183,46,183,80⟩ "lead.<locals>.<lambda>" -> TbAt H' p (pairL ns ms) (prC w ns cs ms ds (pairL ns ms))->Q (.ref p) H')
def splturned (TD TL TT TP TU TS:Addr):Sp:=λ vs H Q _=>∃(w:Str) (t o kp:Addr) (ns cs os:List Int) (k:Nat),vs=[.str w,.ref t,.int (k:Int),.ref o,.ref kp]/\isF w/\okS 1000 w/\TbAt H t ns cs/\GT ns cs/\k < ns.length/\H o=some (.lst (os.map V.int))/\turnOk ns.length os/\TbAt H kp (ns.eraseIdx k) (fldL w ns cs k)/\TabsL (T6 TD TL TT TP TU TS) H/\∀H',SmT H H'->TabsL (T6 TD TL TT TP TU TS) H'->Q (.bl true) H'
def splparted (TD TL TT TP TU TS:Addr):Sp:=λ vs H Q _=>∃(w:Str) (t kp:Addr) (ns cs:List Int) (k:Nat) (f:Int),vs=[.str w,.ref t,.int (k:Int),.int f,.ref kp]/\isF w/\okS 1000 w/\TbAt H t ns cs/\GT ns cs/\k < ns.length/\0≤f/\f≤ns.getD k 0/\TbAt H kp (ns.eraseIdx k) (fldL w ns cs k)/\TabsL (T6 TD TL TT TP TU TS) H/\∀H',SmT H H'->TabsL (T6 TD TL TT TP TU TS) H'->Q (.bl true) H'
def spltwo (TD TL TT TP TU TS:Addr):Sp:=λ vs H Q _=>∃(w:Str) (t kp:Addr) (ns cs:List Int) (k a:Nat),vs=[.str w,.ref t,.int (k:Int),.int (a:Int),.ref kp]/\isF w/\okS 1000 w/\TbAt H t ns cs/\GT ns cs/\k < ns.length/\a < ns.length/\TbAt H kp (ns.eraseIdx k) (fldL w ns cs k)/\TabsL (T6 TD TL TT TP TU TS) H/\∀H',SmT H H'->TabsL (T6 TD TL TT TP TU TS) H'->Q (.bl true) H'
def splspread (TD TL TT TP TU TS:Addr):Sp:=λ vs H Q _=>∃(w:Str) (t kp:Addr) (ns cs:List Int) (k p:Nat) (m:Int),vs=[.str w,.ref t,.int (k:Int),.int (p:Int),.int m,.ref kp]/\isF w/\okS 1000 w/\TbAt H t ns cs/\GT ns cs/\k < ns.length/\p≤ns.length/\0≤m/\m≤512/\¬bigI (insL ns p m)/\TbAt H kp (ns.eraseIdx k) (fldL w ns cs k)/\TabsL (T6 TD TL TT TP TU TS) H/\∀H',SmT H H'->TabsL (T6 TD TL TT TP TU TS) H'->Q (.bl true) H'
def splawT (K:W.Frag) (Ts:List Addr):Sp:=λ vs H Q _=>∃(a:Addr) (ns:List Int),vs=[.ref a]/\SqL K H a (ns.map V.int)/\ns.length≤63/\(∀T∈Ts,H T=some (.tbl #[]))/\∀H',Q (.bl true) H'
theorem TabsL.both {l:List (Addr × Pos × Str)}{H H':Hp}{T:Addr}{pos:Pos}{qual:Str}(h:TabsL l H) (nd:(l.map λ x=>x.1).Nodup) (m:(T,pos,qual)∈l) (s:SameP T H H') (t:TabOk H' T pos qual):SmT H H'/\TabsL l H':=⟨h.smT m s,h.step nd m s t⟩
theorem z9u {os:List Int}{i:Nat}{x:Int}(k:Int) (e:os[i]?=some x):((os.take (i+1)).filter (λ x=>decide (x≠k)))=((os.take i).filter (λ x=>decide (x≠k)))++if x≠k then [x] else []:=by
 rw [List.take_add_one,e,List.filter_append]
 congr 1
 show List.filter _ [x]=_
 by_cases c:x=k
 ·subst c;simp
 ·simp [c]
theorem y7l {n k:Nat}{os:List Int}(t:turnOk n os) (hk:k < n):(∃z,(os.map V.int)[os.idxOf (k:Int)]?=some z/\eqV z (.int (k:Int))=true)/\∀m z,m < os.idxOf (k:Int)->(os.map V.int)[m]?=some z->eqV z (.int (k:Int))=false:=by
 have e:=z7t (z2j t hk)
 refine ⟨⟨.int (k:Int),by rw [List.getElem?_map,e];rfl,beq_self_eq_true _⟩,λ m z hm hz=>?_⟩
 rw [List.getElem?_map] at hz
 obtain ⟨x,hx,rfl⟩:=Option.map_eq_some_iff.mp hz
 show (x == (k:Int))=false
 have ml:=(List.getElem?_eq_some_iff.mp hx).1
 by_cases c:x=(k:Int)
 ·subst c
  have:=(List.getElem?_inj ml (y0m t)).mp (hx.trans e.symm)
  omega
 ·simpa using c
theorem z1o {ns:List Int}{k:Nat}(h:k < ns.length):¬off ns (k:Int):=λ z=>by unfold off at z;omega
theorem z9c {ns:List Int}{k:Nat}{f m:Int}(f0:0≤f) (m0:0≤m) (h:f+m≤ns.getD k 0):¬bad ns (k:Int) f m 1:=λ z=>by
 unfold bad at z
 rw [Int.toNat_natCast] at z
 omega
theorem z9p (x:List Int):pairOk x x/\pairL x x=x:=by
 unfold pairOk pairL
 rw [if_neg (Nat.lt_irrefl _),if_neg (Nat.lt_irrefl _)]
 exact ⟨List.take_length,rfl⟩
theorem GT.nbig {ns cs:List Int}(h:GT ns cs):¬bigI ns:=λ z=>by
 unfold bigI at z
 have a:=h.2.1
 have b:=h.2.2.1
 omega
theorem GT.l20 {ns cs:List Int}(h:GT ns cs):ns.length≤20:=Nat.le_trans h.2.1 (by decide)
theorem GT.l60 {ns cs:List Int}(h:GT ns cs):ns.length≤60:=Nat.le_trans h.2.1 (by decide)
theorem GT.l512 {ns cs:List Int}(h:GT ns cs):ns.length≤512:=Nat.le_trans h.2.1 (by decide)
theorem z7w {w:Str}{ns cs:List Int}{k:Nat}{m f:Int}(hw:w∈fw) (h:GT ns cs) (hk:k < ns.length) (m0:0≤m) (m1:m≤ns.getD k 0):GT (ns.eraseIdx k) (fldL w (ns.set k m) (movC ns cs (ns.set k m) (cutF k f 1)) k):=by
 have:=z3s (k:=k) hw (by rw [List.length_set];exact hk) (z9g (f:=f) h hk m0 m1)
 rwa [z6p] at this
theorem y0z {ns:List Int}(h:∀n∈ns,0≤n):1≤prodI (ns.map one1):=z5e (ns:=ns.map one1) λ m hm=>by
 obtain ⟨x,hx,rfl⟩:=List.mem_map.mp hm
 have:=h x hx
 unfold one1;split<;>omega
theorem y6w:∀ {ns:List Int},(∀n∈ns,0≤n)->∀n∈ns,n≤prodI (ns.map one1)
 | [],_,n,hn=>nomatch hn
 | x::xs,h,n,hn=>by
  have hx:=h x List.mem_cons_self
  have p:=y0z (ns:=xs) λ m hm=>h m (List.mem_cons_of_mem _ hm)
  have o:1≤one1 x/\x≤one1 x:=by unfold one1;split<;>omega
  rw [List.map_cons,z0u]
  have a:one1 x * 1≤one1 x * prodI (xs.map one1):=Int.mul_le_mul_of_nonneg_left p (by omega)
  have b:1 * prodI (xs.map one1)≤one1 x * prodI (xs.map one1):=Int.mul_le_mul_of_nonneg_right o.1 (by omega)
  rcases List.mem_cons.mp hn with rfl | hn
  ·omega
  ·have:=y6w (ns:=xs) (λ m hm=>h m (List.mem_cons_of_mem _ hm)) n hn
   omega
theorem GT.at {ns cs:List Int}{k:Nat}(h:GT ns cs) (hk:k < ns.length):0≤ns.getD k 0/\ns.getD k 0≤512:=⟨(h.1 _ (z1x hk)).1,Int.le_trans (y6w h.nn _ (z1x hk)) h.2.2.1⟩
theorem x0d {k p:Nat}:((k:Int)+if (p:Int)≤(k:Int) then 1 else 0)=((moreN k p:Nat):Int):=by
 unfold moreN
 by_cases c:p≤k
 ·rw [if_pos (by omega),if_pos c];omega
 ·rw [if_neg (by omega),if_neg c];omega
theorem z8v {a k:Nat}:((a:Int) - if (k:Int) < (a:Int) then 1 else 0)=((lessN a k:Nat):Int):=y2q
theorem x6k:Str.ofString "add" ∈ fw:=by simp [fw]
theorem x5o:Str.ofString "mul" ∈ fw:=by simp [fw]
theorem x5m:okS 1000 (Str.ofString "add"):=by decide +kernel
theorem y2j (x:List Int):pairOk x []/\pairL x []=x:=by
 unfold pairOk pairL
 cases x with
 | nil=>exact ⟨rfl,rfl⟩
 | cons a l=>exact ⟨rfl,rfl⟩
theorem x3c {n p k:Nat}(hp:p≤n) (hk:k < n):lessN p k≤n - 1:=by unfold lessN;split<;>omega
theorem x2z {n p k:Nat}(hk:k < n):moreN k p < n+1:=by unfold moreN;split<;>omega
theorem x3n {x:Int}(h0:0≤x) (h1:x < 9):fit [1+x]:=by
 have e:prodI ([1+x].map one1)=1+x:=by
  rw [List.map_cons,List.map_nil,z0u,show prodI []=1 from rfl]
  unfold one1;rw [if_neg (by omega),Int.mul_one]
 exact ⟨λ n hn=>by cases List.mem_singleton.mp hn;omega,by show (1:Nat)≤6;decide,by rw [e];omega,by rw [e];omega⟩
theorem y4f (x:Int) {r:Int}(h:0 < r):x.fmod r=x % r:=Int.fmod_eq_emod_of_nonneg x (by omega)
theorem y7q {f x P:Int}(hf:0≤f) (hx:1≤x) (hP:0≤P) (h:f * P≤512):0≤f / x/\f / x * (P * x)≤512:=by
 refine ⟨Int.ediv_nonneg hf (by omega),?_⟩
 have a:f / x * x≤f:=Int.ediv_mul_le f (by omega)
 have b:f / x * x * P≤f * P:=Int.mul_le_mul_of_nonneg_right a hP
 have e:f / x * (P * x)=f / x * x * P:=by rw [Int.mul_assoc,Int.mul_comm x P]
 omega
theorem z9m:∀ {ns:List Int}{k:Nat}{m:Int},prodI (insL ns k m)=m * prodI ns
 | ns,0,m=>by show prodI (m::ns)=_;rw [z0u]
 | [],k+1,m=>by show prodI ([]++[m]++[])=_;rw [List.append_nil,List.nil_append,z0u]
 | n::ns,k+1,m=>by
  show prodI (n::insL ns k m)=_
  rw [z0u,z9m (ns:=ns),z0u,← Int.mul_assoc,← Int.mul_assoc,Int.mul_comm n m]
theorem x0e (ns:List Int) (k:Nat) (m:Int):(insL ns k m).map one1=insL (ns.map one1) k (one1 m):=by
 unfold insL
 rw [List.map_append,List.map_append,List.map_take,List.map_drop];rfl
theorem x0f {ns:List Int}{p:Nat}{f m:Int}(l5:ns.length < 6) (nn:∀n∈ns,0≤n) (p5:prodI (ns.map one1)≤512) (hf:f * prodI (ns.map one1)≤512) (m0:0≤m) (m1:m≤f):¬bigI (insL ns p m)/\m≤512:=by
 have P:=y0z nn
 have a:m * prodI (ns.map one1)≤f * prodI (ns.map one1):=Int.mul_le_mul_of_nonneg_right m1 (by omega)
 have b:m * 1≤m * prodI (ns.map one1):=Int.mul_le_mul_of_nonneg_left P m0
 refine ⟨λ z=>?_,by omega⟩
 unfold bigI at z
 rw [z1y,x0e,z9m] at z
 have o:one1 m=m\/one1 m=1:=by unfold one1;split<;>simp
 rcases o with e | e<;>rw [e] at z
 ·omega
 ·rw [Int.one_mul] at z;omega
abbrev swrapped:Stmt:=top 11
def spwrapped:Sp:=λ vs H Q _=>∃n:Int,vs=[.int n]/\Q (.int (wrapI n)) H
variable {P:Program}{w:World}{K:W.Frag}{mg:Str->Option Value}{base:Heap}{f:Addr}{fd:FuncData}{TD TL TT TP TU TS:Addr}
theorem y5g:FnScope ["n"] ["n"] (defScope swrapped):=⟨rfl,rfl,rfl,by decide +kernel,rfl,by decide +kernel,by decide +kernel⟩
theorem y6h (F:Fun K "wrapped" "wrapped" swrapped f fd) {tLOW:Tok}(gLOW:mg "LOW" = some (.int (-9223372036854775808) tLOW)):FnOk P w K mg base CX0 (1) f fd ["n"] (spwrapped):=by
 have sc:=y5g
 refine F.ok sc (λ vs H Q E h=>?_) (λ cdv A outer s H vs Q E hr h=>?_)
 ·obtain ⟨n,rfl,_⟩:=h;rfl
 obtain ⟨n,rfl,q⟩:=h
 refine ⟨_,(z0d (z0j (z0q z1s (z0q z2x (z0q z2w (pv 0) (z5o (v:=.int (-9223372036854775808)) (by rfl) gLOW ⟨_,rfl⟩)) (z0q z6u z0f z0f)) (z5o (v:=.int (-9223372036854775808)) (by rfl) gLOW ⟨_,rfl⟩)))),?_⟩
 wp_walk using tSeq,tIfS,inV,eqV
 have e:(n - -9223372036854775808) % 18446744073709551616 + -9223372036854775808=wrapI n:=by unfold wrapI;omega
 rw [e];exact q
abbrev squotient:Stmt:=top 12
def spquotient:Sp:=λ vs H Q _=>∃x y:Int,vs=[.int x,.int y]/\inB x/\inB y/\Q (.int (quoI x y)) H
theorem y3k:FnScope ["x", "y"] ["x", "y"] (defScope squotient):=⟨rfl,rfl,rfl,by decide +kernel,rfl,by decide +kernel,by decide +kernel⟩
theorem y3u (F:Fun K "quotient" "quotient" squotient f fd) (cwrapped:Callee P w K mg base CX0 (1) "wrapped" ["n"] spwrapped):FnOk P w K mg base CX0 (2) f fd ["x", "y"] (spquotient):=by
 have sc:=y3k
 refine F.ok sc (λ vs H Q E h=>?_) (λ cdv A outer s H vs Q E hr h=>?_)
 ·obtain ⟨x,y,rfl,_⟩:=h;rfl
 obtain ⟨x,y,rfl,hx,hy,q⟩:=h
 refine ⟨_,(z0c (z1f (z0k z2f (pv 1) z0f (z0t _)) (z0d (z0j z0f)) z0o) (z0d (z0j (z0g cwrapped hr (by rfl) z0x (z0a (z0q z5g (pv 0) (pv 1)) z0b))))),?_⟩
 wp_walk using tSeq,tIfS,inV,eqV,spwrapped
 unfold quoI at q
 by_cases h:y=0
 ·rw [if_pos h]
  rw [if_pos h] at q
  exact q
 ·rw [if_neg h]
  rw [if_neg h] at q
  unfold inB at hy
  exact ⟨h,by omega,by omega,q⟩
abbrev sremainder:Stmt:=top 13
def spremainder:Sp:=λ vs H Q _=>∃x y:Int,vs=[.int x,.int y]/\Q (.int (restI x y)) H
theorem y0q:FnScope ["x", "y"] ["x", "y"] (defScope sremainder):=⟨rfl,rfl,rfl,by decide +kernel,rfl,by decide +kernel,by decide +kernel⟩
theorem y1c (F:Fun K "remainder" "remainder" sremainder f fd):FnOk P w K mg base CX0 (1) f fd ["x", "y"] (spremainder):=by
 have sc:=y0q
 refine F.ok sc (λ vs H Q E h=>?_) (λ cdv A outer s H vs Q E hr h=>?_)
 ·obtain ⟨x,y,rfl,_⟩:=h;rfl
 obtain ⟨x,y,rfl,q⟩:=h
 refine ⟨_,(z0d (z0j (z5f (z0k z2f (pv 1) z0f (z0t _)) (pv 0) (z0q z3j (pv 0) (pv 1))))),?_⟩
 wp_walk using tSeq,tIfS,inV,eqV
 unfold restI at q
 by_cases h:y=0
 ·rw [if_pos h]
  rw [if_pos h] at q
  exact q
 ·rw [if_neg h]
  rw [if_neg h] at q
  exact ⟨h,q⟩
abbrev stwice:Stmt:=top 14
def sptwice:Sp:=λ vs H Q _=>∃(w:Str) (x y:Int),vs=[.str w,.int x,.int y]/\w∈tw/\inB x/\inB y/\Q (.int (twiceI w x y)) H
theorem x2j:FnScope ["word", "x", "y"] ["word", "x", "y"] (defScope stwice):=⟨rfl,rfl,rfl,by decide +kernel,rfl,by decide +kernel,by decide +kernel⟩
theorem x2x (F:Fun K "twice" "twice" stwice f fd) (cwrapped:Callee P w K mg base CX0 (2) "wrapped" ["n"] spwrapped) (cquotient:Callee P w K mg base CX0 (2) "quotient" ["x", "y"] spquotient) (cremainder:Callee P w K mg base CX0 (2) "remainder" ["x", "y"] spremainder) (zmax:mg "max" = none) (zmin:mg "min" = none):FnOk P w K mg base CX0 (3) f fd ["word", "x", "y"] (sptwice):=by
 have sc:=x2j
 refine F.ok sc (λ vs H Q E h=>?_) (λ cdv A outer s H vs Q E hr h=>?_)
 ·obtain ⟨w,x,y,rfl,_⟩:=h;rfl
 obtain ⟨wd,x,y,rfl,hw,hx,hy,q⟩:=h
 refine ⟨_,(z0c (z1f (z0k z2f (pv 0) z1a (z0t _)) (z0d (z0j (z0g cwrapped hr (by rfl) z0x (z0a (z0q z1s (pv 1) (pv 2)) z0b)))) z0o) (z0c (z1f (z0k z2f (pv 0) z1a (z0t _)) (z0d (z0j (z0g cwrapped hr (by rfl) z0x (z0a (z0q z2w (pv 1) (pv 2)) z0b)))) z0o) (z0c (z1f (z0k z2f (pv 0) z1a (z0t _)) (z0d (z0j (z0g cwrapped hr (by rfl) z0x (z0a (z0q z3q (pv 1) (pv 2)) z0b)))) z0o) (z0c (z1f (z0k z2f (pv 0) z1a (z0t _)) (z0d (z0j (z0g cquotient hr (by rfl) z0x (z0a (pv 1) (z0a (pv 2) z0b))))) z0o) (z0c (z1f (z0k z2f (pv 0) z1a (z0t _)) (z0d (z0j (z0g cremainder hr (by rfl) z0x (z0a (pv 1) (z0a (pv 2) z0b))))) z0o) (z0c (z1f (z0k z2f (pv 0) z1a (z0t _)) (z0d (z0j (z0s (z5k rfl) (by rfl) zmax boot_max (z0a (pv 1) (z0a (pv 2) z0b))))) z0o) (z0c (z1f (z0k z2f (pv 0) z1a (z0t _)) (z0d (z0j (z0s (z7a rfl) (by rfl) zmin boot_min (z0a (pv 1) (z0a (pv 2) z0b))))) z0o) (z0c (z1f (z0k z2f (pv 0) z1a (z0t _)) (z0d (z0j (z5f (z0k z7f (pv 1) (pv 2) (z0t _)) z0f z0f))) z0o) (z0c (z1f (z0k z2f (pv 0) z1a (z0t _)) (z0d (z0j (z5f (z0k z2f (pv 1) (pv 2) (z0t _)) z0f z0f))) z0o) (z0c (z1f (z0k z2f (pv 0) z1a (z0t _)) (z0d (z0j (z0q x5d (pv 1) (pv 2)))) z0o) (z0c (z1f (z0k z2f (pv 0) z1a (z0t _)) (z0d (z0j (z0q x6x (pv 1) (pv 2)))) z0o) (z0c (z1f (z0k z2f (pv 0) z1a (z0t _)) (z0d (z0j (z0q x4y (pv 1) (pv 2)))) z0o) (z0d y9p))))))))))))),?_⟩
 wp_walk using tSeq,tIfS,inV,eqV,spwrapped,spquotient,spremainder
 simp only [tw,List.mem_cons,List.not_mem_nil,or_false] at hw
 unfold twiceI at q
 have hm:(-18446744073709551616 < x/\x < 18446744073709551616\/-18446744073709551616 < y/\y < 18446744073709551616):=by
  unfold inB at hx;omega
 by_cases h0:wd=Str.ofString "add"
 ·rw [if_pos h0] at q ⊢
  exact q
 rw [if_neg h0] at q ⊢
 by_cases h1:wd=Str.ofString "sub"
 ·rw [if_pos h1] at q ⊢
  exact q
 rw [if_neg h1] at q ⊢
 by_cases h2:wd=Str.ofString "mul"
 ·rw [if_pos h2] at q ⊢
  exact ⟨hm,q⟩
 rw [if_neg h2] at q ⊢
 by_cases h3:wd=Str.ofString "quo"
 ·rw [if_pos h3] at q ⊢
  exact ⟨hx,hy,q⟩
 rw [if_neg h3] at q ⊢
 by_cases h4:wd=Str.ofString "rest"
 ·rw [if_pos h4] at q ⊢
  exact q
 rw [if_neg h4] at q ⊢
 by_cases h5:wd=Str.ofString "max"
 ·rw [if_pos h5] at q ⊢
  exact q
 rw [if_neg h5] at q ⊢
 by_cases h6:wd=Str.ofString "min"
 ·rw [if_pos h6] at q ⊢
  exact q
 rw [if_neg h6] at q ⊢
 by_cases h7:wd=Str.ofString "less"
 ·rw [if_pos h7] at q ⊢
  split<;>(split at q<;>first | exact q | contradiction)
 rw [if_neg h7] at q ⊢
 by_cases h8:wd=Str.ofString "like"
 ·rw [if_pos h8] at q ⊢
  split<;>(split at q<;>first | exact q | contradiction)
 rw [if_neg h8] at q ⊢
 by_cases h9:wd=Str.ofString "and"
 ·rw [if_pos h9] at q ⊢
  exact q
 rw [if_neg h9] at q ⊢
 by_cases h10:wd=Str.ofString "or"
 ·rw [if_pos h10] at q ⊢
  exact q
 rw [if_neg h10] at q ⊢
 have h11:wd=Str.ofString "xor" := by simpa [h0,h1,h2,h3,h4,h5,h6,h7,h8,h9,h10] using hw
 rw [if_pos h11]
 exact q
abbrev sneutral:Stmt:=top 15
theorem y5k:FnScope ["word"] ["word"] (defScope sneutral):=⟨rfl,rfl,rfl,by decide +kernel,rfl,by decide +kernel,by decide +kernel⟩
theorem y6k (F:Fun K "neutral" "neutral" sneutral f fd) {CNoWord:Addr}(nNoWord:W.nsIn K mainGlobals "NoWord" = some (some (.ref CNoWord))) {tLOW:Tok}(gLOW:mg "LOW" = some (.int (-9223372036854775808) tLOW)) {tHIGH:Tok}(gHIGH:mg "HIGH" = some (.int 9223372036854775807 tHIGH)) (xNoWord:W.excIn K CNoWord [.type "ValueError",.type "Exception",.type "BaseException",.type "object"] "ValueError.__new__" = true):FnOk P w K mg base (CX1 P w) (1) f fd ["word"] ((spneutral CNoWord)):=by
 have sc:=y5k
 refine F.okX sc (λ vs H Q E h=>?_) (λ cdv A outer s H vs Q E hr h=>?_)
 ·obtain ⟨w,rfl,_⟩:=h;rfl
 obtain ⟨wd,rfl,ok,q1,q2⟩:=h
 refine ⟨_,(z0c (z1f (z0k x5b (pv 0) (z2s (z0a z1a (z0a z1a (z0a z1a z0b)))) rfl) (z0d (z0j z0f)) z0o) (z0c (z1f (z0k z2f (pv 0) z1a (z0t _)) (z0d (z0j z0f)) z0o) (z0c (z1f (z0k z2f (pv 0) z1a (z0t _)) (z0d (z0j (z5o (v:=.int (-9223372036854775808)) (by rfl) gLOW ⟨_,rfl⟩))) z0o) (z0c (z1f (z0k z2f (pv 0) z1a (z0t _)) (z0d (z0j (z5o (v:=.int 9223372036854775807) (by rfl) gHIGH ⟨_,rfl⟩))) z0o) (z0c (z1f (z0k z2f (pv 0) z1a (z0t _)) (z0d (z0j (x2q y4q z0f))) z0o) (z0d (z1p PySem.F.excBase_ValueError rfl (by rfl) nNoWord xNoWord z2c (z0a (x6u z1a (pv 0)) z0b)))))))),?_⟩
 wp_walk using tSeq,tIfS,inV,eqV
 refine ⟨small (by decide),λ p hp=>?_⟩
 have s1:=z0e hp (.tup [V.str (Str.ofString "add"),V.str (Str.ofString "or"),V.str (Str.ofString "xor")])
 generalize upd H p (.tup [V.str (Str.ofString "add"),V.str (Str.ofString "or"),V.str (Str.ofString "xor")])=H1 at *
 by_cases t:Str.ofString "add" = wd\/Str.ofString "or" = wd\/Str.ofString "xor" = wd
 ·rw [if_pos t]
  rcases t with t | t | t<;>subst t
  ·have q:=q1 (by simp [isF,fw]) _ s1;rw [z9s] at q;exact q
  ·have q:=q1 (by simp [isF,fw]) _ s1;rw [x0b] at q;exact q
  ·have q:=q1 (by simp [isF,fw]) _ s1;rw [y2l] at q;exact q
 rw [if_neg t]
 by_cases c0:wd=Str.ofString "mul"
 ·rw [if_pos c0];subst c0
  have q:=q1 (by simp [isF,fw]) _ s1;rw [y2m] at q;exact q
 rw [if_neg c0]
 by_cases c1:wd=Str.ofString "max"
 ·rw [if_pos c1];subst c1
  have q:=q1 (by simp [isF,fw]) _ s1;rw [y2o] at q;exact q
 rw [if_neg c1]
 by_cases c2:wd=Str.ofString "min"
 ·rw [if_pos c2];subst c2
  have q:=q1 (by simp [isF,fw]) _ s1;rw [y2n] at q;exact q
 rw [if_neg c2]
 by_cases c3:wd=Str.ofString "and"
 ·rw [if_pos c3];subst c3
  have q:=q1 (by simp [isF,fw]) _ s1;rw [y2p] at q;exact q
 rw [if_neg c3]
 exact ⟨⟨by decide +kernel,by decide +kernel⟩,ok,λ z=>⟨small (by decide),q2 (by
  unfold isF
  simp only [fw,List.mem_cons,List.not_mem_nil,or_false,not_or]
  exact ⟨λ z=>t (.inl z.symm),c0,c1,c2,c3,λ z=>t (.inr (.inl z.symm)),λ z=>t (.inr (.inr z.symm))⟩) _ s1⟩⟩
abbrev samount:Stmt:=top 19
def spamount:Sp:=λ vs H Q _=>∃(a:Addr) (ns:List Int),vs=[.ref a]/\(H a=some (.lst (ns.map V.int))\/H a=some (.tup (ns.map V.int)))/\sdOk ns/\Q (.int (prodI ns)) H
theorem y9n:FnScope ["sides", "product", "side"] ["sides"] (defScope samount):=⟨rfl,rfl,rfl,by decide +kernel,rfl,by decide +kernel,by decide +kernel⟩
theorem y9z (F:Fun K "amount" "amount" samount f fd):FnOk P w K mg base CX0 (1) f fd ["sides"] (spamount):=by
 have sc:=y9n
 refine F.ok sc (λ vs H Q E h=>?_) (λ cdv A outer s H vs Q E hr h=>?_)
 ·obtain ⟨a,ns,rfl,_⟩:=h;rfl
 obtain ⟨a,ns,rfl,ha | ha,hs,q⟩:=h
 ·refine ⟨_,(z0c (z0n (i:=1) sc.nd rfl (by first | exact Or.inl rfl | exact Or.inr rfl) z0f) (z0c (z2r PassesOwn.never rfl (z5n (pv 0)) (z1b (i:=2) sc.nd rfl (Or.inl rfl)) (z0d (z0n (i:=1) sc.nd rfl (by first | exact Or.inl rfl | exact Or.inr rfl) (z0q z3q (pv 1) (pv 2))))) (z0d (z0j (pv 1))))),?_⟩
  wp_walk using tSeq,tIfS,inV,eqV
  refine LoopL.mk (xs:=ns.map V.int) (.of ha) (λ i σ H'=>H'=H/\∃y,σ=[some (.ref a),some (.int (prodI (ns.take i))),y]) ⟨rfl,_,rfl⟩ (λ i σ H' _ h=>by rw [h.1];exact .of ha) (λ i x σ H' e h=>?_) (λ σ H' h=>?_)
  ·obtain ⟨h1,y,rfl⟩:=h
   subst h1
   obtain ⟨m,rfl,hm,m0,m1⟩:=y0o hs e
   wp_walk using tSeq,tIfS,inV,eqV
   rw [z5c hm]
   exact ⟨.inr ⟨by omega,by omega⟩,rfl,_,rfl⟩
  ·obtain ⟨h1,y,rfl⟩:=h
   subst h1
   wp_walk using tSeq,tIfS,inV,eqV
   rw [z0l,List.take_length]
   exact q
 ·refine ⟨_,(z0c (z0n (i:=1) sc.nd rfl (by first | exact Or.inl rfl | exact Or.inr rfl) z0f) (z0c (z2r PassesOwn.never rfl (z7r (pv 0)) (z1b (i:=2) sc.nd rfl (Or.inl rfl)) (z0d (z0n (i:=1) sc.nd rfl (by first | exact Or.inl rfl | exact Or.inr rfl) (z0q z3q (pv 1) (pv 2))))) (z0d (z0j (pv 1))))),?_⟩
  wp_walk using tSeq,tIfS,inV,eqV
  refine LoopT.mk (xs:=ns.map V.int) (.of ha) (λ i σ H'=>H'=H/\∃y,σ=[some (.ref a),some (.int (prodI (ns.take i))),y]) ⟨rfl,_,rfl⟩ (λ i σ H' _ h=>by rw [h.1];exact .of ha) (λ i x σ H' e h=>?_) (λ σ H' h=>?_)
  ·obtain ⟨h1,y,rfl⟩:=h
   subst h1
   obtain ⟨m,rfl,hm,m0,m1⟩:=y0o hs e
   wp_walk using tSeq,tIfS,inV,eqV
   rw [z5c hm]
   exact ⟨.inr ⟨by omega,by omega⟩,rfl,_,rfl⟩
  ·obtain ⟨h1,y,rfl⟩:=h
   subst h1
   wp_walk using tSeq,tIfS,inV,eqV
   rw [z0l,List.take_length]
   exact q
abbrev sbreadth:Stmt:=top 20
def spbreadth:Sp:=λ vs H Q _=>∃(a:Addr) (ns:List Int),vs=[.ref a]/\H a=some (.tup (ns.map V.int))/\sdOk ns/\ns.length≤63/\∀H',Same H H'->Q (.int (prodI (ns.map one1))) H'
theorem y5m:FnScope ["sides"] ["sides"] (defScope sbreadth):=⟨rfl,rfl,rfl,by decide +kernel,rfl,by decide +kernel,by decide +kernel⟩
theorem y6m (F:Fun K "breadth" "breadth" sbreadth f fd) (camount:Callee P w K mg base CX0 (1) "amount" ["sides"] spamount):FnOk P w K mg base CX0 (2) f fd ["sides"] (spbreadth):=by
 have sc:=y5m
 refine F.ok sc (λ vs H Q E h=>?_) (λ cdv A outer s H vs Q E hr h=>?_)
 ·obtain ⟨a,ns,rfl,_⟩:=h;rfl
 obtain ⟨a,ns,rfl,ha,hs,h63,q⟩:=h
 refine ⟨_,(z0d (z0j (z0g camount hr (by rfl) z0x (z0a (y2h (own:=["side"]) rfl (z7r (pv 0)) (by decide) (by decide) rfl (by decide) (λ _ _ _ _=>(z1b (i:=0) (show (["side"]:List Str).Nodup by decide +kernel) rfl (Or.inl rfl))) (λ _ _ _ _=>(z5f (z0k z8n (pv 0) z0f (z0t _)) (pv 0) z0f))) z0b)))),?_⟩
 wp_walk using tSeq,tIfS,inV,eqV
 refine CompT.mk (xs:=ns.map V.int) (.of ha) (λ i ys σ H'=>H'=H/\ys=((ns.take i).map one1).map V.int/\∃y,σ=[y]) ⟨rfl,rfl,_,rfl⟩ (λ i ys σ H' _ h=>by rw [h.1];exact .of ha) (λ i x ys σ H' e h=>?_) (λ ys σ H' h p hp=>?_)
 ·obtain ⟨h1,h2,y,rfl⟩:=h
  subst h1 h2
  obtain ⟨m,rfl,hm,m0,m1⟩:=y0o hs e
  have e1:((ns.take (i+1)).map one1).map V.int=((ns.take i).map one1).map V.int++[V.int (one1 m)]:=by
   rw [List.take_add_one,hm,List.map_append,List.map_append];rfl
  have e2:(((ns.take i).map one1).map V.int).length < sizeLine:=by
   rw [List.length_map,List.length_map,List.length_take];exact z0z (by omega)
  wp_walk using tSeq,tIfS,inV,eqV,e1
  refine ⟨e2,?_⟩
  unfold one1
  by_cases m2:m=0
  ·simp [m2]
  ·simp [m2]
 ·obtain ⟨h1,h2,y,rfl⟩:=h
  subst h1 h2
  rw [z0l,List.take_length]
  exact ⟨p,_,rfl,.inl z0h,x5f hs,q _ (z0e hp _)⟩
abbrev sallowed:Stmt:=top 21
theorem y5o:FnScope ["sides"] ["sides"] (defScope sallowed):=⟨rfl,rfl,rfl,by decide +kernel,rfl,by decide +kernel,by decide +kernel⟩
theorem y6o (F:Fun K "allowed" "allowed" sallowed f fd) {CTooLarge:Addr}(nTooLarge:W.nsIn K mainGlobals "TooLarge" = some (some (.ref CTooLarge))) (cbreadth:Callee P w K mg base CX0 (2) "breadth" ["sides"] spbreadth) (zlen:mg "len" = none) {tMOST_SIDES:Tok}(gMOST_SIDES:mg "MOST_SIDES" = some (.int 6 tMOST_SIDES)) {tMOST_BREADTH:Tok}(gMOST_BREADTH:mg "MOST_BREADTH" = some (.int 512 tMOST_BREADTH)) (xTooLarge:W.excIn K CTooLarge [.type "ValueError",.type "Exception",.type "BaseException",.type "object"] "ValueError.__new__" = true):FnOk P w K mg base (CX1 P w) (3) f fd ["sides"] ((spallowed CTooLarge)):=by
 have sc:=y5o
 refine F.okX sc (λ vs H Q E h=>?_) (λ cdv A outer s H vs Q E hr h=>?_)
 ·obtain ⟨a,ns,rfl,_⟩:=h;rfl
 obtain ⟨a,ns,rfl,ha,hs,h63,q1,q2⟩:=h
 refine ⟨_,(z0c (z1f (z0k z7g (z0s z0m (by rfl) zlen PySem.boot_len (z0a (pv 0) z0b)) (z5o (v:=.int 6) (by rfl) gMOST_SIDES ⟨_,rfl⟩) (z0t _)) (z0d (z1p PySem.F.excBase_ValueError rfl (by rfl) nTooLarge xTooLarge z2c (z0a z1a z0b))) z0o) (z0c (z1f (z0k z7g (z0g cbreadth hr (by rfl) z0x (z0a (pv 0) z0b)) (z5o (v:=.int 512) (by rfl) gMOST_BREADTH ⟨_,rfl⟩) (z0t _)) (z0d (z1p PySem.F.excBase_ValueError rfl (by rfl) nTooLarge xTooLarge z2c (z0a z1a z0b))) z0o) (z0d (z0j (pv 0))))),?_⟩
 wp_walk using tSeq,tIfS,inV,eqV,spbreadth
 refine ⟨_,.inr (.of ha),?_⟩
 rw [z0l]
 by_cases h6:6 < ns.length
 ·rw [if_pos (by omega)]
  exact ⟨small (by decide),q1 (.inl h6) _ (Same.refl _)⟩
 rw [if_neg (by omega)]
 refine ⟨ns,ha,hs,h63,λ H1 s1=>?_⟩
 by_cases h5:512 < prodI (ns.map one1)
 ·rw [if_pos h5]
  exact ⟨small (by decide),q1 (.inr h5) _ s1⟩
 rw [if_neg h5]
 exact q2 (λ z=>z.elim h6 h5) _ s1
abbrev sstridesof:Stmt:=top 22
def spstridesof:Sp:=λ vs H Q _=>∃(a:Addr) (ns:List Int),vs=[.ref a]/\H a=some (.tup (ns.map V.int))/\sdOk ns/\ns.length≤63/\∀H' p,Same H H'->H' p=some (.tup ((stL ns ns.length).reverse.map V.int))->Q (.ref p) H'
theorem y0p:FnScope ["sides", "strides", "stride", "side"] ["sides"] (defScope sstridesof):=⟨rfl,rfl,rfl,by decide +kernel,rfl,by decide +kernel,by decide +kernel⟩
theorem y1b (F:Fun K "strides_of" "strides_of" sstridesof f fd) (ztuple:mg "tuple" = none) (zreversed:mg "reversed" = none):FnOk P w K mg base CX0 (1) f fd ["sides"] (spstridesof):=by
 have sc:=y0p
 refine F.ok sc (λ vs H Q E h=>?_) (λ cdv A outer s H vs Q E hr h=>?_)
 ·obtain ⟨a,ns,rfl,_⟩:=h;rfl
 obtain ⟨a,ns,rfl,ha,hs,h63,q⟩:=h
 refine ⟨_,(z0c (z0n (i:=1) sc.nd rfl (by first | exact Or.inl rfl | exact Or.inr rfl) (z6r z0b)) (z0c (z0n (i:=2) sc.nd rfl (by first | exact Or.inl rfl | exact Or.inr rfl) z0f) (z0c (z2r PassesOwn.never rfl (y6b (by rfl) zreversed (pv 0)) (z1b (i:=3) sc.nd rfl (Or.inl rfl)) (z0c (z3a (y2i (pv 1) (pv 2))) (z0d (z0n (i:=2) sc.nd rfl (by first | exact Or.inl rfl | exact Or.inr rfl) (z0q z3q (pv 2) (pv 3)))))) (z0d (z0j (z9n rfl (by rfl) (by rfl) ztuple zreversed (pv 1))))))),?_⟩
 wp_walk using tSeq,tIfS,inV,eqV
 refine ⟨small (by decide),λ p hp=>?_⟩
 refine LoopV.mk (xs:=ns.map V.int) (.of (z0e hp _ _ _ ha)) (λ i σ H'=>Same H H'/\H' p=some (.lst ((stL ns i).map V.int))/\∃y,σ=[some (.ref a),some (.ref p),some (.int (stP ns i)),y]) ⟨z0e hp _,z0h,_,rfl⟩ (λ i σ H' _ h=>.of (h.1 _ _ ha)) (λ i x σ H' hi e h=>?_) (λ σ H' h=>?_)
 ·obtain ⟨h1,h2,y,rfl⟩:=h
  obtain ⟨m,rfl,hm,m0,m1⟩:=y0o hs e
  rw [z0l] at hi hm
  have sm:((stL ns i).map V.int).length < sizeLine:=by
   rw [List.length_map,stL,List.length_map,List.length_range];exact z0z (by omega)
  have s2:Same H (upd H' p (.lst (((stL ns i).map V.int)++[V.int (stP ns i)]))):=λ b o e=>by
   have nb:b≠p:=λ z=>by rw [z,hp] at e;cases e
   rw [z0p nb];exact h1 b o e
  wp_walk using tSeq,tIfS,inV,eqV
  rw [y1z hi hm,z8a,List.map_append]
  refine ⟨⟨_,h2⟩,_,h2,sm,.inr ⟨by omega,by omega⟩,s2,rfl,?_⟩
  exact ⟨rfl,_,rfl⟩
 ·obtain ⟨h1,h2,y,rfl⟩:=h
  rw [z0l] at h2
  wp_walk using tSeq,tIfS,inV,eqV
  refine ⟨_,.of h2,λ p2 hp2=>?_⟩
  rw [← List.map_reverse]
  exact q _ _ (h1.trans (z0e hp2 _)) z0h
abbrev splaceof:Stmt:=top 23
theorem y5j:FnScope ["sides", "at", "side", "coordinate"] ["sides", "at"] (defScope splaceof):=⟨rfl,rfl,rfl,by decide +kernel,rfl,by decide +kernel,by decide +kernel⟩
theorem y6j (F:Fun K "place_of" "place_of" splaceof f fd) {CNoPlace:Addr}(nNoPlace:W.nsIn K mainGlobals "NoPlace" = some (some (.ref CNoPlace))) (cstridesof:Callee P w K mg base CX0 (1) "strides_of" ["sides"] spstridesof) (zlen:mg "len" = none) (zzip:mg "zip" = none) (zsum:mg "sum" = none) (xNoPlace:W.excIn K CNoPlace [.type "ValueError",.type "Exception",.type "BaseException",.type "object"] "ValueError.__new__" = true):FnOk P w K mg base (CX1 P w) (2) f fd ["sides", "at"] ((spplaceof CNoPlace)):=by
 have sc:=y5j
 refine F.okX sc (λ vs H Q E h=>?_) (λ cdv A outer s H vs Q E hr h=>?_)
 ·obtain ⟨a,b,ns,ms,rfl,_⟩:=h;rfl
 obtain ⟨a,b,ns,ms,rfl,ha,hb,hs,h63,h70,q1,q2⟩:=h
 refine ⟨_,(z0c (z1f (z0k z8n (z0s z0m (by rfl) zlen PySem.boot_len (z0a (pv 1) z0b)) (z0s z0m (by rfl) zlen PySem.boot_len (z0a (pv 0) z0b)) (z0t _)) (z0d (z1p PySem.F.excBase_ValueError rfl (by rfl) nNoPlace xNoPlace z2c (z0a z1a z0b))) z0o) (z0c (z2r PassesOwn.leaving rfl (y6a (by rfl) zzip (z0a (pv 0) (z0a (pv 1) z0b))) (z8m (n:=2) (y2f rfl (z2v (z1b (i:=2) sc.nd rfl (Or.inl rfl)) (z2v (z1b (i:=3) sc.nd rfl (Or.inl rfl)) z8l)))) (z0d (z1f (PW.pt (z6q (z0k z7f (pv 3) z0f (z0t _)) (z5b (z0k y9v (pv 3) (pv 2) (z0t _))))) (z0d (z1p PySem.F.excBase_ValueError rfl (by rfl) nNoPlace xNoPlace z2c (z0a z1a z0b))) z0o))) (z0d (z0j (z0s (y8s rfl) (by rfl) zsum boot_sum (z0a (y2h (own:=["coordinate", "stride"]) rfl (y6a (by rfl) zzip (z0a (pv 1) (z0a (z0g cstridesof hr (by rfl) z0x (z0a (pv 0) z0b)) z0b))) (by decide) (by decide) rfl (by decide) (λ _ _ _ _=>(z8m (n:=2) (y2f rfl (z2v (z1b (i:=0) (show (["coordinate", "stride"]:List Str).Nodup by decide +kernel) rfl (Or.inl rfl)) (z2v (z1b (i:=1) (show (["coordinate", "stride"]:List Str).Nodup by decide +kernel) rfl (Or.inl rfl)) z8l))))) (λ _ _ _ _=>(z0q z3q (pv 0) (pv 1)))) z0b)))))),?_⟩
 wp_walk using tSeq,tIfS,inV,eqV
 refine ⟨_,.inr (.of hb),_,.inr (.of ha),?_⟩
 rw [z0l,z0l]
 by_cases hl:ms.length=ns.length
 ·rw [if_neg (by omega)]
  refine LoopZ.mk (xs:=ns.map V.int) (ys:=ms.map V.int) ns.length (by rw [z0l,z0l,hl,Nat.min_self]) (.of ha) (.of hb) (λ i σ H'=>Same H H'/\(∀(j:Nat) m n,j < i->ms[j]?=some m->ns[j]?=some n->0≤m/\m < n)/\∃y2 y3,σ=[some (.ref a),some (.ref b),y2,y3]) ⟨Same.refl _,(λ j m n hj=>absurd hj (Nat.not_lt_zero _)),_,_,rfl⟩ (λ i σ H' _ h=>⟨.of (h.1 _ _ ha),.of (h.1 _ _ hb)⟩) (λ i x y σ H' T hi ex ey h hT=>?_) (λ σ H' h=>?_)
  ·obtain ⟨h1,h2,y2,y3,rfl⟩:=h
   obtain ⟨n,rfl,hn,n0,n1⟩:=y0o hs ex
   rw [List.getElem?_map] at ey
   obtain ⟨m,hm,rfl⟩:∃m,ms[i]?=some m/\y=.int m:=by
    cases q:ms[i]? with
    | none=>rw [q] at ey;cases ey
    | some m=>rw [q] at ey;exact ⟨m,rfl,(Option.some.inj ey).symm⟩
   wp_walk using tSeq,tIfS,inV,eqV
   have s2:Same H (upd H' T (.tup [V.int n,V.int m])):=h1.trans (z0e hT _)
   by_cases c1:m < 0
   ·rw [if_pos c1];exact ⟨small (by decide),q1 (λ g=>by have:=g.2 i m n hm hn;omega) _ s2⟩
   rw [if_neg c1]
   by_cases c2:n≤m
   ·rw [if_pos c2];exact ⟨small (by decide),q1 (λ g=>by have:=g.2 i m n hm hn;omega) _ s2⟩
   rw [if_neg c2]
   refine ⟨s2,λ j m' n' hj e1 e2=>?_,_,rfl⟩
   by_cases hji:j=i
   ·subst hji;rw [hm] at e1;rw [hn] at e2;cases e1;cases e2;omega
   ·exact h2 j m' n' (by omega) e1 e2
  ·obtain ⟨h1,h2,y2,y3,rfl⟩:=h
   have g:good ns ms:=⟨hl,λ i m n e1 e2=>h2 i m n (List.getElem?_eq_some_iff.mp e2).1 e1 e2⟩
   wp_walk using tSeq,tIfS,inV,eqV,spstridesof
   refine ⟨ns,h1 _ _ ha,hs,h63,λ H1 p s1 hp=>?_⟩
   have hb1:=s1 _ _ (h1 _ _ hb)
   have lz:(List.zipWith (λ a b=>a * b) ms (stL ns ns.length).reverse).length=ns.length:=by rw [List.length_zipWith,List.length_reverse,stL,List.length_map,List.length_range,hl,Nat.min_self]
   refine CompZ.mk (xs:=ms.map V.int) (ys:=(stL ns ns.length).reverse.map V.int) ns.length (by rw [z0l,x4a,hl,Nat.min_self]) (.of hb1) (.of hp) (λ i zs σ H'=>Same H1 H'/\zs=((List.zipWith (λ a b=>a * b) ms (stL ns ns.length).reverse).take i).map V.int/\∃y z,σ=[y,z]) ⟨Same.refl _,rfl,_,_,rfl⟩ (λ i zs σ H' _ h=>⟨.of (h.1 _ _ hb1),.of (h.1 _ _ hp)⟩) (λ i x y zs σ H' T hi ex ey h hT=>?_) (λ zs σ H' h q hq=>?_) (λ i zs σ H' h=>?_)
   ·obtain ⟨h3,rfl,y4,y5,rfl⟩:=h
    obtain ⟨m,rfl,hm⟩:=z3r ex
    obtain ⟨t,rfl,ht⟩:=z3r ey
    obtain ⟨n,hn⟩:∃n,ns[i]?=some n:=⟨ns[i],List.getElem?_eq_getElem hi⟩
    have mb:=g.2 i m n hm hn
    have nb:=hs n (List.mem_of_getElem? hn)
    have ez:(List.zipWith (λ a b=>a * b) ms (stL ns ns.length).reverse)[i]?=some (m * t):=by rw [List.getElem?_zipWith,hm,ht]
    have et:((List.zipWith (λ a b=>a * b) ms (stL ns ns.length).reverse).take (i+1)).map V.int=((List.zipWith (λ a b=>a * b) ms (stL ns ns.length).reverse).take i).map V.int++[V.int (m * t)]:=by
     rw [List.take_add_one,ez,List.map_append];rfl
    have sm:(((List.zipWith (λ a b=>a * b) ms (stL ns ns.length).reverse).take i).map V.int).length < sizeLine:=by rw [List.length_map,List.length_take];exact z0z (by omega)
    refine ⟨sm,?_⟩
    wp_walk using tSeq,tIfS,inV,eqV,et
    exact ⟨.inl ⟨by omega,by omega⟩,h3.trans (z0e hT _),_,rfl⟩
   ·obtain ⟨h3,rfl,y4,y5,rfl⟩:=h
    rw [List.take_of_length_le (by omega)]
    exact ⟨q,rfl,_,.of z0h,q2 g _ ((h1.trans s1).trans (h3.trans (z0e hq _)))⟩
   ·obtain ⟨h3,rfl,_⟩:=h
    rw [List.length_map,List.length_take];exact z0z (by omega)
 ·rw [if_pos (by omega)]
  exact ⟨small (by decide),q1 (λ g=>hl g.1) _ (Same.refl _)⟩
abbrev satof:Stmt:=top 24
theorem x4i:FnScope ["sides", "place", "at", "left", "side"] ["sides", "place"] (defScope satof):=⟨rfl,rfl,rfl,by decide +kernel,rfl,by decide +kernel,by decide +kernel⟩
theorem x5l (F:Fun K "at_of" "at_of" satof f fd) {CNoPlace:Addr}(nNoPlace:W.nsIn K mainGlobals "NoPlace" = some (some (.ref CNoPlace))) (camount:Callee P w K mg base CX0 (1) "amount" ["sides"] spamount) (zreversed:mg "reversed" = none) (ztuple:mg "tuple" = none) (xNoPlace:W.excIn K CNoPlace [.type "ValueError",.type "Exception",.type "BaseException",.type "object"] "ValueError.__new__" = true):FnOk P w K mg base (CX1 P w) (2) f fd ["sides", "place"] ((spatof CNoPlace)):=by
 have sc:=x4i
 refine F.okX sc (λ vs H Q E h=>?_) (λ cdv A outer s H vs Q E hr h=>?_)
 ·obtain ⟨a,ns,pl,rfl,_⟩:=h;rfl
 obtain ⟨a,ns,pl,rfl,ha,hs,h63,q1,q2⟩:=h
 refine ⟨_,(z0c (z1f (PW.pt (z6q (z0k z7f (pv 1) z0f (z0t _)) (z5b (z0k y9v (pv 1) (z0g camount hr (by rfl) z0x (z0a (pv 0) z0b)) (z0t _))))) (z0d (z1p PySem.F.excBase_ValueError rfl (by rfl) nNoPlace xNoPlace z2c (z0a z1a z0b))) z0o) (z0c (z0n (i:=2) sc.nd rfl (by first | exact Or.inl rfl | exact Or.inr rfl) (z6r z0b)) (z0c (z0n (i:=3) sc.nd rfl (by first | exact Or.inl rfl | exact Or.inr rfl) (pv 1)) (z0c (z2r PassesOwn.leaving rfl (y6b (by rfl) zreversed (pv 0)) (z1b (i:=4) sc.nd rfl (Or.inl rfl)) (z0c (z3a (y2i (pv 2) (z0q z2x (pv 3) (pv 4)))) (z0d (z0n (i:=3) sc.nd rfl (by first | exact Or.inl rfl | exact Or.inr rfl) (z0q z5g (pv 3) (pv 4)))))) (z0d (z0j (z9n rfl (by rfl) (by rfl) ztuple zreversed (pv 2)))))))),?_⟩
 wp_walk using tSeq,tIfS,inV,eqV,spamount
 by_cases c1:pl < 0
 ·rw [if_pos c1];exact ⟨small (by decide),q1 (.inl c1) _ (Same.refl _)⟩
 rw [if_neg c1]
 refine ⟨ns,.inr ha,hs,?_⟩
 by_cases c2:prodI ns≤pl
 ·rw [if_pos c2];exact ⟨small (by decide),q1 (.inr c2) _ (Same.refl _)⟩
 rw [if_neg c2]
 have nz:=y0y (ns:=ns) (by omega)
 refine ⟨small (by decide),λ p hp=>?_⟩
 refine LoopV.mk (xs:=ns.map V.int) (.of (z0e hp _ _ _ ha)) (λ i σ H'=>Same H H'/\H' p=some (.lst ((dgL ns pl i).map V.int))/\∃y,σ=[some (.ref a),some (.int pl),some (.ref p),some (.int (lfI ns pl i)),y]) ⟨z0e hp _,z0h,_,rfl⟩ (λ i σ H' _ h=>.of (h.1 _ _ ha)) (λ i x σ H' hi e h=>?_) (λ σ H' h=>?_)
 ·obtain ⟨h1,h2,y,rfl⟩:=h
  obtain ⟨m,rfl,hm,m0,m1⟩:=y0o hs e
  rw [z0l] at hi hm
  have mz:=nz m (List.mem_of_getElem? hm)
  have rg:=z8k hi hm
  have sm:((dgL ns pl i).map V.int).length < sizeLine:=by
   rw [List.length_map,dgL,List.length_map,List.length_range];exact z0z (by omega)
  have d1:dgI ns pl i=lfI ns pl i % m:=by unfold dgI;rw [rg]
  have l1:lfI ns pl (i+1)=lfI ns pl i / m:=by show lfI ns pl i / _=_;rw [rg]
  have fd:(lfI ns pl i).fdiv m=lfI ns pl i / m:=Int.fdiv_eq_ediv_of_nonneg _ m0
  have s2:Same H (upd H' p (.lst (((dgL ns pl i).map V.int)++[V.int (lfI ns pl i % m)]))):=λ b o e=>by
   have nb:b≠p:=λ z=>by rw [z,hp] at e;cases e
   rw [z0p nb];exact h1 b o e
  wp_walk using tSeq,tIfS,inV,eqV
  rw [l1,y2v,List.map_append,d1,fd]
  exact ⟨⟨_,h2⟩,by omega,_,h2,sm,mz,by omega,by omega,s2,rfl,rfl,_,rfl⟩
 ·obtain ⟨h1,h2,y,rfl⟩:=h
  rw [z0l] at h2
  wp_walk using tSeq,tIfS,inV,eqV
  refine ⟨_,.of h2,λ p2 hp2=>?_⟩
  rw [← List.map_reverse]
  exact q2 (by omega) (by omega) _ _ (h1.trans (z0e hp2 _)) z0h
abbrev sallat:Stmt:=top 25
def spallat:Sp:=λ vs H Q _=>∃(a:Addr) (ns:List Int),vs=[.ref a]/\H a=some (.tup (ns.map V.int))/\sdOk ns/\ns.length≤63/\prodI ns≤512/\∀H' l ps,Same H H'->H' l=some (.lst (ps.map V.ref))->TpsAt H' ps (allD ns)->Q (.ref l) H'
theorem x2k:FnScope ["sides"] ["sides"] (defScope sallat):=⟨rfl,rfl,rfl,by decide +kernel,rfl,by decide +kernel,by decide +kernel⟩
theorem x2y (F:Fun K "all_at" "all_at" sallat f fd) (catof:Callee P w K mg base (CX1 P w) (2) "at_of" ["sides", "place"] (spatof CNoPlace)) (camount:Callee P w K mg base CX0 (2) "amount" ["sides"] spamount) (zrange:mg "range" = none):FnOk P w K mg base CX0 (3) f fd ["sides"] (spallat):=by
 have sc:=x2k
 refine F.ok sc (λ vs H Q E h=>?_) (λ cdv A outer s H vs Q E hr h=>?_)
 ·obtain ⟨a,ns,rfl,_⟩:=h;rfl
 obtain ⟨a,ns,rfl,ha,hs,h63,h512,q⟩:=h
 refine ⟨_,(z0d (z0j (z4j (own:=["place"]) (fv:=["sides"]) (js:=[0]) rfl (z3e (by rfl) zrange (z0a (z0g camount hr (by rfl) z0x (z0a (pv 0) z0b)) z0b)) rfl (by decide) rfl (by decide) (by first | exact λ _ _ h=>h | exact z3w rfl | exact z3v rfl rfl | exact z3u rfl rfl rfl) (z5x (by rfl)) rfl (x3r (by first | exact ⟨rfl,.inl rfl,.inl rfl⟩ | exact ⟨rfl,.inl rfl,.inr rfl⟩)) (λ _ _ _ _=>(z1b (i:=0) (show (["place", "sides"]:List Str).Nodup by decide +kernel) rfl (Or.inl rfl))) (λ _ _ _ _=>(z0g catof hr (by rfl) z1l (z0a (pv 1) (z0a (pv 0) z0b))))))),?_⟩
 have pn:=z5m λ n hn=>(hs n hn).1
 wp_walk using tSeq,tIfS,inV,eqV,spamount
 refine ⟨ns,.inr ha,hs,by omega,by omega,?_⟩
 refine CompR.mk (λ j ys σ G=>∃ps:List Addr,Same H G/\ys=ps.map V.ref/\TpsAt G ps ((allD ns).take j)/\∃y,σ=[y,some (.ref a)]) ⟨[],Same.refl _,rfl,⟨rfl,λ i t e=>by simp at e⟩,_,rfl⟩ (λ j ys σ G hj h=>?_) (λ ys σ G h p hp=>?_)
 ·obtain ⟨ps,sG,rfl,tp,y,rfl⟩:=h
  have pl:=tp.1
  rw [List.length_take,y1u] at pl
  refine ⟨by rw [List.length_map];exact z0z (by omega),?_⟩
  wp_walk using tSeq,tIfS,inV,eqV,spatof
  refine ⟨ns,sG _ _ ha,hs,h63,(λ z=>by omega),λ z1 z2 H1 p s1 hp=>⟨sG.trans s1,ps++[p],by rw [List.map_append];rfl,?_,_,rfl⟩⟩
  rw [List.take_add_one,y8y (by omega)]
  refine (tp.mono λ b xs e=>s1 _ _ e).snoc ?_
  rw [hp,show (0:Int)+(j:Int)=(j:Int) by omega];rfl
 ·obtain ⟨ps,sG,rfl,tp,y,rfl⟩:=h
  rw [List.take_of_length_le (by rw [y1u];omega)] at tp
  exact q _ p ps (sG.trans (z0e hp _)) z0h (tp.mono λ b xs e=>z0e hp _ _ _ e)
abbrev schangedat:Stmt:=top 26
def spchangedat:Sp:=λ vs H Q _=>∃(a:Addr) (ns:List Int) (k:Nat) (m:Int),vs=[.ref a,.int k,.int m]/\H a=some (.tup (ns.map V.int))/\ns.length≤63/\k < ns.length/\∀H' p,Same H H'->H' p=some (.tup ((ns.set k m).map V.int))->Q (.ref p) H'
theorem y0x:FnScope ["row", "k", "number"] ["row", "k", "number"] (defScope schangedat):=⟨rfl,rfl,rfl,by decide +kernel,rfl,by decide +kernel,by decide +kernel⟩
theorem y1j (F:Fun K "changed_at" "changed_at" schangedat f fd):FnOk P w K mg base CX0 (1) f fd ["row", "k", "number"] (spchangedat):=by
 have sc:=y0x
 refine F.ok sc (λ vs H Q E h=>?_) (λ cdv A outer s H vs Q E hr h=>?_)
 ·obtain ⟨a,ns,k,m,rfl,_⟩:=h;rfl
 obtain ⟨a,ns,k,m,rfl,ha,h63,hk,q⟩:=h
 refine ⟨_,(z0d (z0j (z0q z3k (z0q z3k (z1v z6o (pv 0) z2l (z2k (pv 1))) (z2s (z0a (pv 2) z0b))) (z1v z6o (pv 0) (z2k (z0q z1s (pv 1) z0f)) z2l)))),?_⟩
 wp_walk using tSeq,tIfS,inV,eqV
 refine ⟨_,ha,?_,λ r1 H1 s1 hr1=>⟨small (by decide),λ p hp=>⟨_,z0e hp _ _ _ hr1,?_,λ r2 H2 s2 hr2=>⟨_,s2 _ _ (z0e hp _ _ _ (s1 _ _ ha)),?_,λ r3 H3 s3 hr3=>⟨_,s3 _ _ hr2,_,hr3,?_,λ r4 H4 s4 hr4=>?_⟩⟩⟩⟩⟩
 ·rw [z0l];intro z;have z2:=z.2;simp only [HT.sIx] at z2;rw [if_neg (by omega)] at z2;omega
 ·rw [y0a (by omega),z0l];exact small (by rw [List.length_take];omega)
 ·rw [z0l];intro z;have z1:=z.1;simp only [HT.sIx] at z1;rw [if_neg (by omega)] at z1;omega
 ·rw [show (k:Int)+1=((k+1:Nat):Int) by omega,y0a (by omega),y2x (by omega)];simp only [List.length_append,List.length_map,List.length_take,List.length_drop,List.length_cons,List.length_nil];exact small (by omega)
 rw [show (k:Int)+1=((k+1:Nat):Int) by omega,y0a (by omega),y2x (by omega)] at hr4
 refine q _ _ (s1.trans ((z0e hp _).trans (s2.trans (s3.trans s4)))) ?_
 rw [hr4,List.set_eq_take_append_cons_drop,if_pos hk,List.append_assoc,List.map_append,List.map_cons]
 rfl
abbrev saddedat:Stmt:=top 27
def spaddedat:Sp:=λ vs H Q _=>∃(a:Addr) (ns:List Int) (k:Nat) (m:Int),vs=[.ref a,.int k,.int m]/\H a=some (.tup (ns.map V.int))/\ns.length≤63/\∀H' p,Same H H'->H' p=some (.tup ((insL ns k m).map V.int))->Q (.ref p) H'
theorem y5p:FnScope ["row", "k", "number"] ["row", "k", "number"] (defScope saddedat):=⟨rfl,rfl,rfl,by decide +kernel,rfl,by decide +kernel,by decide +kernel⟩
theorem y6p (F:Fun K "added_at" "added_at" saddedat f fd):FnOk P w K mg base CX0 (1) f fd ["row", "k", "number"] (spaddedat):=by
 have sc:=y5p
 refine F.ok sc (λ vs H Q E h=>?_) (λ cdv A outer s H vs Q E hr h=>?_)
 ·obtain ⟨a,ns,k,m,rfl,_⟩:=h;rfl
 obtain ⟨a,ns,k,m,rfl,ha,h63,q⟩:=h
 refine ⟨_,(z0d (z0j (z0q z3k (z0q z3k (z1v z3p (pv 0) z2l (z2k (pv 1))) (z2s (z0a (pv 2) z0b))) (z1v z3p (pv 0) (z2k (pv 1)) z2l)))),?_⟩
 wp_walk using tSeq,tIfS,inV,eqV
 refine ⟨_,ha,λ r1 H1 s1 hr1=>⟨small (by decide),λ p hp=>⟨_,z0e hp _ _ _ hr1,?_,λ r2 H2 s2 hr2=>⟨_,s2 _ _ (z0e hp _ _ _ (s1 _ _ ha)),λ r3 H3 s3 hr3=>⟨_,s3 _ _ hr2,_,hr3,?_,λ r4 H4 s4 hr4=>?_⟩⟩⟩⟩⟩
 ·rw [z3b,z0l];exact small (by rw [List.length_take];omega)
 ·rw [z3b,z4c];simp only [List.length_append,List.length_map,List.length_take,List.length_drop,List.length_cons,List.length_nil];exact small (by omega)
 rw [z3b,z4c] at hr4
 refine q _ _ (s1.trans ((z0e hp _).trans (s2.trans (s3.trans s4)))) ?_
 rw [hr4];unfold insL;rw [List.map_append,List.map_append];rfl
abbrev sdroppedat:Stmt:=top 28
def spdroppedat:Sp:=λ vs H Q _=>∃(a:Addr) (ns:List Int) (k:Nat),vs=[.ref a,.int k]/\H a=some (.tup (ns.map V.int))/\ns.length≤63/\k < ns.length/\∀H' p,Same H H'->H' p=some (.tup ((ns.eraseIdx k).map V.int))->Q (.ref p) H'
theorem y0w:FnScope ["row", "k"] ["row", "k"] (defScope sdroppedat):=⟨rfl,rfl,rfl,by decide +kernel,rfl,by decide +kernel,by decide +kernel⟩
theorem y1i (F:Fun K "dropped_at" "dropped_at" sdroppedat f fd):FnOk P w K mg base CX0 (1) f fd ["row", "k"] (spdroppedat):=by
 have sc:=y0w
 refine F.ok sc (λ vs H Q E h=>?_) (λ cdv A outer s H vs Q E hr h=>?_)
 ·obtain ⟨a,ns,k,rfl,_⟩:=h;rfl
 obtain ⟨a,ns,k,rfl,ha,h63,hk,q⟩:=h
 refine ⟨_,(z0d (z0j (z0q z3k (z1v z6o (pv 0) z2l (z2k (pv 1))) (z1v z6o (pv 0) (z2k (z0q z1s (pv 1) z0f)) z2l)))),?_⟩
 wp_walk using tSeq,tIfS,inV,eqV
 refine ⟨_,ha,?_,λ r1 H1 s1 hr1=>⟨_,s1 _ _ ha,?_,λ r3 H3 s3 hr3=>⟨_,s3 _ _ hr1,_,hr3,?_,λ r4 H4 s4 hr4=>?_⟩⟩⟩
 ·rw [z0l];intro z;have z2:=z.2;simp only [HT.sIx] at z2;rw [if_neg (by omega)] at z2;omega
 ·rw [z0l];intro z;have z1:=z.1;simp only [HT.sIx] at z1;rw [if_neg (by omega)] at z1;omega
 ·rw [show (k:Int)+1=((k+1:Nat):Int) by omega,y0a (by omega),y2x (by omega)];simp only [List.length_map,List.length_take,List.length_drop];exact small (by omega)
 rw [show (k:Int)+1=((k+1:Nat):Int) by omega,y0a (by omega),y2x (by omega)] at hr4
 refine q _ _ (s1.trans (s3.trans s4)) ?_
 rw [hr4,List.eraseIdx_eq_take_drop_succ,List.map_append]
abbrev saskside:Stmt:=top 30
theorem y5n:FnScope ["sides", "side"] ["sides", "side"] (defScope saskside):=⟨rfl,rfl,rfl,by decide +kernel,rfl,by decide +kernel,by decide +kernel⟩
theorem y6n (F:Fun K "ask_side" "ask_side" saskside f fd) {CNoSide:Addr}(nNoSide:W.nsIn K mainGlobals "NoSide" = some (some (.ref CNoSide))) (zlen:mg "len" = none) (xNoSide:W.excIn K CNoSide [.type "ValueError",.type "Exception",.type "BaseException",.type "object"] "ValueError.__new__" = true):FnOk P w K mg base (CX1 P w) (1) f fd ["sides", "side"] ((spask CNoSide)):=by
 have sc:=y5n
 refine F.okX sc (λ vs H Q E h=>?_) (λ cdv A outer s H vs Q E hr h=>?_)
 ·obtain ⟨a,ns,side,rfl,_⟩:=h;rfl
 obtain ⟨a,ns,side,rfl,ha,q1,q2⟩:=h
 refine ⟨_,(z0d (z1f (PW.pt (z6q (z0k z7f (pv 1) z0f (z0t _)) (z5b (z0k y9v (pv 1) (z0s z0m (by rfl) zlen PySem.boot_len (z0a (pv 0) z0b)) (z0t _))))) (z0d (z1p PySem.F.excBase_ValueError rfl (by rfl) nNoSide xNoSide z2c (z0a z1a z0b))) z0o)),?_⟩
 wp_walk using tSeq,tIfS,inV,eqV
 unfold off at q1 q2
 by_cases c1:side < 0
 ·rw [if_pos c1];exact ⟨small (by decide),q1 (.inl c1)⟩
 rw [if_neg c1]
 refine ⟨_,.inr (.of ha),?_⟩
 rw [z0l]
 by_cases c2:(ns.length:Int)≤side
 ·rw [if_pos c2];exact ⟨small (by decide),q1 (.inr c2)⟩
 rw [if_neg c2]
 exact q2 (by omega)
abbrev sturnedsides:Stmt:=top 31
theorem z8d:FnScope ["sides", "order"] ["sides", "order"] (defScope sturnedsides):=⟨rfl,rfl,rfl,by decide +kernel,rfl,by decide +kernel,by decide +kernel⟩
theorem z8o (F:Fun K "turned_sides" "turned_sides" sturnedsides f fd) {CNoSide:Addr}(nNoSide:W.nsIn K mainGlobals "NoSide" = some (some (.ref CNoSide))) (zsorted:mg "sorted" = none) (zlist:mg "list" = none) (zrange:mg "range" = none) (zlen:mg "len" = none) (ztuple:mg "tuple" = none) (xNoSide:W.excIn K CNoSide [.type "ValueError",.type "Exception",.type "BaseException",.type "object"] "ValueError.__new__" = true):FnOk P w K mg base (CX1 P w) (1) f fd ["sides", "order"] ((spturned CNoSide)):=by
 have sc:=z8d
 refine F.okX sc (λ vs H Q E h=>?_) (λ cdv A outer s H vs Q E hr h=>?_)
 ·obtain ⟨a,b,ns,os,rfl,_⟩:=h;rfl
 obtain ⟨a,b,ns,os,rfl,ha,hb,h20,h21,q1,q2⟩:=h
 refine ⟨_,(z0c (z1f (z0k (x5a hr.units0) (z0s y0c (by rfl) zsorted boot_sorted (z0a (pv 1) z0b)) (z1d (z5y rfl) (by rfl) zlist boot_list (z0a (z1d z6z (by rfl) zrange boot_range (z0a (z0s z0m (by rfl) zlen PySem.boot_len (z0a (pv 0) z0b)) z0b)) z0b)) (z0t _)) (z0d (z1p PySem.F.excBase_ValueError rfl (by rfl) nNoSide xNoSide z2c (z0a z1a z0b))) z0o) (z0d (z0j (z1d z1n (by rfl) ztuple boot_tuple (z0a (z4j (own:=["side"]) (fv:=["sides"]) (js:=[0]) rfl (z7r (pv 1)) rfl (by decide) rfl (by decide) (by first | exact λ _ _ h=>h | exact z3w rfl | exact z3v rfl rfl | exact z3u rfl rfl rfl) (z5x (by rfl)) rfl (x3r (by first | exact ⟨rfl,.inl rfl,.inl rfl⟩ | exact ⟨rfl,.inl rfl,.inr rfl⟩)) (λ _ _ _ _=>(z1b (i:=0) (show (["side", "sides"]:List Str).Nodup by decide +kernel) rfl (Or.inl rfl))) (λ _ _ _ _=>(z1c z0r (pv 1) (pv 0) (λ _ _=>rfl)))) z0b))))),?_⟩
 wp_walk using tSeq,tIfS,inV,eqV
 refine ⟨os,.inr hb.sq,by omega,λ ss pm pw l1 hl1=>⟨_,.inr (.of (z0e hl1 _ _ _ ha)),λ r hr=>⟨ns.length,by rw [z0l];rfl,by omega,λ l2 hl2=>?_⟩⟩⟩
 have t1:=z0e hl1 (.lst (ss.map V.int))
 have t2:=t1.trans (z0e hr (.rng 0 (((ns.map V.int).length:Nat):Int)))
 have t3:=t2.trans (z0e hl2 (.lst ((upL ns.length).map V.int)))
 refine ⟨_,.of (z0e hl2 _ _ _ (z0e hr _ _ _ z0h)),_,.of z0h,z2i _,z2i _,?_⟩
 rw [z5i]
 by_cases c:ss=upL ns.length
 ·have tk:=(z6m (n:=ns.length) pm pw).mp c
  rw [decide_eq_true c,if_neg (by decide)]
  have ha3:=t3 _ _ ha
  have hb3:=hb.same t3
  generalize upd (upd (upd H l1 (HO.lst (List.map V.int ss))) r (HO.rng 0 (((ns.map V.int).length:Nat):Int))) l2 (HO.lst (List.map V.int (upL ns.length)))=H3 at *
  refine CompT.mk (xs:=os.map V.int) hb3.sq (λ i ys σ H'=>H'=H3/\i≤os.length/\ys=(turnL ns (os.take i)).map V.int/\∃y,σ=[y,some (.ref a)]) ⟨rfl,Nat.zero_le _,rfl,_,rfl⟩ (λ i ys σ H' _ h=>by rw [h.1];exact hb3.sq) (λ i x ys σ H' e h=>?_) (λ ys σ H' h p hp=>?_)
  ·obtain ⟨rfl,hi,rfl,y,rfl⟩:=h
   obtain ⟨o,rfl,ho⟩:=z3r e
   have il:=(List.getElem?_eq_some_iff.mp ho).1
   have om:=up_mem.mp (tk.subset (List.mem_of_getElem? ho))
   have e1:(turnL ns (os.take (i+1))).map V.int=(turnL ns (os.take i)).map V.int++[V.int (ns.getD o.toNat 0)]:=by
    unfold turnL;rw [List.take_add_one,ho,List.map_append,List.map_append];rfl
   have sm:((turnL ns (os.take i)).map V.int).length < sizeLine:=by unfold turnL;rw [List.length_map,List.length_map,List.length_take];exact z0z (by omega)
   wp_walk using tSeq,tIfS,inV,eqV,e1
   exact ⟨sm,_,ha3,_,x7k om.1 om.2,il,rfl,_,rfl⟩
  ·obtain ⟨rfl,hi,rfl,y,rfl⟩:=h
   rw [z0l,List.take_length]
   exact ⟨p,rfl,_,.inl ⟨.of z0h,λ l hl=>q2 tk _ _ (t3.trans ((z0e hp _).trans (z0e hl _))) z0h⟩⟩
 ·rw [decide_eq_false c,if_pos rfl]
  exact ⟨small (by decide),q1 (λ z=>c ((z6m pm pw).mpr z)) _ t3⟩
abbrev sflippedsides:Stmt:=top 32
theorem z7e:FnScope ["sides", "side"] ["sides", "side"] (defScope sflippedsides):=⟨rfl,rfl,rfl,by decide +kernel,rfl,by decide +kernel,by decide +kernel⟩
theorem z7i (F:Fun K "flipped_sides" "flipped_sides" sflippedsides f fd) {CNoSide:Addr}(nNoSide:W.nsIn K mainGlobals "NoSide" = some (some (.ref CNoSide))) (caskside:Callee P w K mg base (CX1 P w) (1) "ask_side" ["sides", "side"] (spask CNoSide)):FnOk P w K mg base (CX1 P w) (2) f fd ["sides", "side"] ((spflip CNoSide)):=by
 have sc:=z7e
 refine F.okX sc (λ vs H Q E h=>?_) (λ cdv A outer s H vs Q E hr h=>?_)
 ·obtain ⟨a,ns,side,rfl,_⟩:=h;rfl
 obtain ⟨a,ns,side,rfl,ha,q1,q2⟩:=h
 refine ⟨_,(z0c (z3a (z0g caskside hr (by rfl) z1k (z0a (pv 0) (z0a (pv 1) z0b)))) (z0d (z0j (pv 0)))),?_⟩
 wp_walk using tSeq,tIfS,inV,eqV,spask
 exact ⟨ns,ha,q1,q2⟩
abbrev scutsides:Stmt:=top 33
theorem y3r:FnScope ["sides", "side", "first", "many", "step"] ["sides", "side", "first", "many", "step"] (defScope scutsides):=⟨rfl,rfl,rfl,by decide +kernel,rfl,by decide +kernel,by decide +kernel⟩
theorem y4b (F:Fun K "cut_sides" "cut_sides" scutsides f fd) {CNoSide:Addr}(nNoSide:W.nsIn K mainGlobals "NoSide" = some (some (.ref CNoSide))) {CBeyond:Addr}(nBeyond:W.nsIn K mainGlobals "Beyond" = some (some (.ref CBeyond))) (caskside:Callee P w K mg base (CX1 P w) (1) "ask_side" ["sides", "side"] (spask CNoSide)) (cchangedat:Callee P w K mg base CX0 (1) "changed_at" ["row", "k", "number"] spchangedat) (xBeyond:W.excIn K CBeyond [.type "ValueError",.type "Exception",.type "BaseException",.type "object"] "ValueError.__new__" = true):FnOk P w K mg base (CX1 P w) (2) f fd ["sides", "side", "first", "many", "step"] ((spcut CNoSide CBeyond)):=by
 have sc:=y3r
 refine F.okX sc (λ vs H Q E h=>?_) (λ cdv A outer s H vs Q E hr h=>?_)
 ·obtain ⟨a,ns,side,first,many,step,rfl,_⟩:=h;rfl
 obtain ⟨a,ns,side,first,many,step,rfl,ha,h63,m0,m1,q1,q2,q3⟩:=h
 refine ⟨_,(z0c (z3a (z0g caskside hr (by rfl) z1k (z0a (pv 0) (z0a (pv 1) z0b)))) (z0c (z1f (PW.pt (z6q (z0k z7f (pv 2) z0f (z0t _)) (z6q (z0k z7f (pv 3) z0f (z0t _)) (z5b (z0k z7f (pv 4) z0f (z0t _)))))) (z0d (z1p PySem.F.excBase_ValueError rfl (by rfl) nBeyond xBeyond z2c (z0a z1a z0b))) z0o) (z0c (z1f (PW.pt (x4q (z0k z7g (pv 3) z0f (z0t _)) (x2o (z0k y9v (z0q z1s (pv 2) (z0q z3q (z0q z2w (pv 3) z0f) (pv 4))) (z1c z0r (pv 0) (pv 1) (λ _ _=>rfl)) (z0t _))))) (z0d (z1p PySem.F.excBase_ValueError rfl (by rfl) nBeyond xBeyond z2c (z0a z1a z0b))) z0o) (z0d (z0j (z0g cchangedat hr (by rfl) z0x (z0a (pv 0) (z0a (pv 1) (z0a (pv 3) z0b))))))))),?_⟩
 wp_walk using tSeq,tIfS,inV,eqV,spask,spchangedat
 refine ⟨ns,ha,q1,λ no=>?_⟩
 replace q2:=q2 no
 replace q3:=q3 no
 obtain ⟨k,rfl,hk⟩:=y1s no
 unfold bad at q2 q3
 simp only [Int.toNat_natCast] at q2 q3
 by_cases c1:first < 0
 ·rw [if_pos c1];exact ⟨small (by decide),q2 (.inl c1)⟩
 rw [if_neg c1]
 by_cases c2:many < 0
 ·rw [if_pos c2];exact ⟨small (by decide),q2 (.inr (.inl c2))⟩
 rw [if_neg c2]
 by_cases c3:step < 1
 ·rw [if_pos c3];exact ⟨small (by decide),q2 (.inr (.inr (.inl c3)))⟩
 rw [if_neg c3]
 by_cases c4:0 < many
 ·rw [if_pos c4]
  refine ⟨.inl ⟨by omega,by omega⟩,_,ha,_,z3h hk,_,rfl,?_⟩
  by_cases c5:ns.getD k 0≤first+(many - 1) * step
  ·rw [if_pos c5];exact ⟨small (by decide),q2 (.inr (.inr (.inr ⟨c4,c5⟩)))⟩
  rw [if_neg c5]
  exact ⟨ns,k,rfl,ha,h63,hk,q3 (λ z=>z.elim c1 λ z=>z.elim c2 λ z=>z.elim c3 λ z=>c5 z.2)⟩
 ·rw [if_neg c4]
  exact ⟨ns,k,rfl,ha,h63,hk,q3 (λ z=>z.elim c1 λ z=>z.elim c2 λ z=>z.elim c3 λ z=>c4 z.1)⟩
abbrev sspreadsides:Stmt:=top 34
theorem z8e:FnScope ["sides", "side", "many"] ["sides", "side", "many"] (defScope sspreadsides):=⟨rfl,rfl,rfl,by decide +kernel,rfl,by decide +kernel,by decide +kernel⟩
theorem z8p (F:Fun K "spread_sides" "spread_sides" sspreadsides f fd) {CNoSide:Addr}(nNoSide:W.nsIn K mainGlobals "NoSide" = some (some (.ref CNoSide))) {CBeyond:Addr}(nBeyond:W.nsIn K mainGlobals "Beyond" = some (some (.ref CBeyond))) {CTooLarge:Addr}(nTooLarge:W.nsIn K mainGlobals "TooLarge" = some (some (.ref CTooLarge))) (caddedat:Callee P w K mg base CX0 (3) "added_at" ["row", "k", "number"] spaddedat) (callowed:Callee P w K mg base (CX1 P w) (3) "allowed" ["sides"] (spallowed CTooLarge)) (zlen:mg "len" = none) (xNoSide:W.excIn K CNoSide [.type "ValueError",.type "Exception",.type "BaseException",.type "object"] "ValueError.__new__" = true) (xBeyond:W.excIn K CBeyond [.type "ValueError",.type "Exception",.type "BaseException",.type "object"] "ValueError.__new__" = true):FnOk P w K mg base (CX1 P w) (4) f fd ["sides", "side", "many"] ((spspr CNoSide CBeyond CTooLarge)):=by
 have sc:=z8e
 refine F.okX sc (λ vs H Q E h=>?_) (λ cdv A outer s H vs Q E hr h=>?_)
 ·obtain ⟨a,ns,side,many,rfl,_⟩:=h;rfl
 obtain ⟨a,ns,side,many,rfl,ha,hs,h20,hm,q1,q2,q3,q4⟩:=h
 refine ⟨_,(z0c (z1f (PW.pt (z6q (z0k z7f (pv 1) z0f (z0t _)) (z5b (z0k z7g (pv 1) (z0s z0m (by rfl) zlen PySem.boot_len (z0a (pv 0) z0b)) (z0t _))))) (z0d (z1p PySem.F.excBase_ValueError rfl (by rfl) nNoSide xNoSide z2c (z0a z1a z0b))) z0o) (z0c (z1f (z0k z7f (pv 2) z0f (z0t _)) (z0d (z1p PySem.F.excBase_ValueError rfl (by rfl) nBeyond xBeyond z2c (z0a z1a z0b))) z0o) (z0d (z0j (z0g callowed hr (by rfl) z1k (z0a (z0g caddedat hr (by rfl) z0x (z0a (pv 0) (z0a (pv 1) (z0a (pv 2) z0b)))) z0b)))))),?_⟩
 wp_walk using tSeq,tIfS,inV,eqV,spaddedat,spallowed
 unfold off1 at q1 q2 q3 q4
 by_cases c1:side < 0
 ·rw [if_pos c1];exact ⟨small (by decide),q1 (.inl c1)⟩
 rw [if_neg c1]
 refine ⟨_,.inr (.of ha),?_⟩
 rw [z0l]
 by_cases c2:(ns.length:Int) < side
 ·rw [if_pos c2];exact ⟨small (by decide),q1 (.inr c2)⟩
 rw [if_neg c2]
 have no:¬(side < 0\/(ns.length:Int) < side):=by omega
 by_cases c3:many < 0
 ·rw [if_pos c3];exact ⟨small (by decide),q2 no c3⟩
 rw [if_neg c3]
 obtain ⟨k,rfl⟩:∃k:Nat,side=k:=⟨side.toNat,by omega⟩
 refine ⟨ns,k,rfl,ha,by omega,λ H1 p s1 hp=>⟨_,hp,x1v hs (by omega) hm,by rw [z1y];omega,λ b H2 s2=>q3 no c3 b _ (s1.trans s2),λ b H2 s2=>q4 no c3 b _ _ (s1.trans s2) (s2 _ _ hp)⟩⟩
abbrev slaidsides:Stmt:=top 35
theorem y0v:FnScope ["sides", "others"] ["sides", "others"] (defScope slaidsides):=⟨rfl,rfl,rfl,by decide +kernel,rfl,by decide +kernel,by decide +kernel⟩
theorem y1h (F:Fun K "laid_sides" "laid_sides" slaidsides f fd) {CTooLarge:Addr}(nTooLarge:W.nsIn K mainGlobals "TooLarge" = some (some (.ref CTooLarge))) {CUnlike:Addr}(nUnlike:W.nsIn K mainGlobals "Unlike" = some (some (.ref CUnlike))) (callowed:Callee P w K mg base (CX1 P w) (3) "allowed" ["sides"] (spallowed CTooLarge)) (camount:Callee P w K mg base CX0 (3) "amount" ["sides"] spamount) (xUnlike:W.excIn K CUnlike [.type "ValueError",.type "Exception",.type "BaseException",.type "object"] "ValueError.__new__" = true):FnOk P w K mg base (CX1 P w) (4) f fd ["sides", "others"] ((splaid CTooLarge CUnlike)):=by
 have sc:=y0v
 refine F.okX sc (λ vs H Q E h=>?_) (λ cdv A outer s H vs Q E hr h=>?_)
 ·obtain ⟨a,b,ns,ms,rfl,_⟩:=h;rfl
 obtain ⟨a,b,ns,ms,rfl,ha,hb,hn,hm,hl,q1,q2,q3⟩:=h
 refine ⟨_,(z0c (z3a (z0g callowed hr (by rfl) z1k (z0a (pv 1) z0b))) (z0c (z1f (z0k z8n (z0g camount hr (by rfl) z0x (z0a (pv 0) z0b)) (z0g camount hr (by rfl) z0x (z0a (pv 1) z0b)) (z0t _)) (z0d (z1p PySem.F.excBase_ValueError rfl (by rfl) nUnlike xUnlike z2c (z0a z1a z0b))) z0o) (z0d (z0j (pv 1))))),?_⟩
 wp_walk using tSeq,tIfS,inV,eqV,spallowed,spamount
 refine ⟨ms,hb,hm,by omega,q1,λ nb H1 s1=>⟨ns,.inr (s1 _ _ ha),hn,ms,.inr (s1 _ _ hb),hm,?_⟩⟩
 by_cases c:prodI ns=prodI ms
 ·rw [if_neg (λ z=>z c)];exact q3 nb c _ s1
 ·rw [if_pos c];exact ⟨small (by decide),q2 nb c _ s1⟩
abbrev sledsides:Stmt:=top 36
theorem y3l:FnScope ["sides", "others"] ["sides", "others"] (defScope sledsides):=⟨rfl,rfl,rfl,by decide +kernel,rfl,by decide +kernel,by decide +kernel⟩
theorem y3v (F:Fun K "led_sides" "led_sides" sledsides f fd) {CUnlike:Addr}(nUnlike:W.nsIn K mainGlobals "Unlike" = some (some (.ref CUnlike))) (zlen:mg "len" = none) (xUnlike:W.excIn K CUnlike [.type "ValueError",.type "Exception",.type "BaseException",.type "object"] "ValueError.__new__" = true):FnOk P w K mg base (CX1 P w) (1) f fd ["sides", "others"] ((spled CUnlike)):=by
 have sc:=y3l
 refine F.okX sc (λ vs H Q E h=>?_) (λ cdv A outer s H vs Q E hr h=>?_)
 ·obtain ⟨a,b,ns,ms,rfl,_⟩:=h;rfl
 obtain ⟨a,b,ns,ms,rfl,ha,hb,q1,q2⟩:=h
 refine ⟨_,(z0c (z1f (z0k (x4z hr.units0) (z1v z3p (pv 1) z2l (z2k (z0s z0m (by rfl) zlen PySem.boot_len (z0a (pv 0) z0b)))) (pv 0) (z0t _)) (z0d (z1p PySem.F.excBase_ValueError rfl (by rfl) nUnlike xUnlike z2c (z0a z1a z0b))) z0o) (z0d (z0j (pv 1)))),?_⟩
 wp_walk using tSeq,tIfS,inV,eqV
 refine ⟨_,.inr (.of ha),_,hb,λ r H1 s1 hr1=>?_⟩
 rw [z0l,z3b] at hr1
 refine ⟨_,.of hr1,_,.of (s1 _ _ ha),z2i _,z2i _,?_⟩
 rw [z5i]
 by_cases c:ms.take ns.length=ns
 ·rw [if_neg (by simp [c])];exact q2 c _ s1
 ·rw [if_pos (by simp [c])];exact ⟨small (by decide),q1 c _ s1⟩
abbrev spairedsides:Stmt:=top 37
theorem z8f:FnScope ["sides", "others"] ["sides", "others"] (defScope spairedsides):=⟨rfl,rfl,rfl,by decide +kernel,rfl,by decide +kernel,by decide +kernel⟩
theorem z8q (F:Fun K "paired_sides" "paired_sides" spairedsides f fd) {CUnlike:Addr}(nUnlike:W.nsIn K mainGlobals "Unlike" = some (some (.ref CUnlike))) (cledsides:Callee P w K mg base (CX1 P w) (1) "led_sides" ["sides", "others"] (spled CUnlike)) (zlen:mg "len" = none):FnOk P w K mg base (CX1 P w) (2) f fd ["sides", "others"] ((sppaired CUnlike)):=by
 have sc:=z8f
 refine F.okX sc (λ vs H Q E h=>?_) (λ cdv A outer s H vs Q E hr h=>?_)
 ·obtain ⟨a,b,ns,ms,rfl,_⟩:=h;rfl
 obtain ⟨a,b,ns,ms,rfl,ha,hb,q1,q2⟩:=h
 refine ⟨_,(z0c (z1f (z0k z7g (z0s z0m (by rfl) zlen PySem.boot_len (z0a (pv 0) z0b)) (z0s z0m (by rfl) zlen PySem.boot_len (z0a (pv 1) z0b)) (z0t _)) (z0d (z0j (z0g cledsides hr (by rfl) z1k (z0a (pv 1) (z0a (pv 0) z0b))))) z0o) (z0d (z0j (z0g cledsides hr (by rfl) z1k (z0a (pv 0) (z0a (pv 1) z0b)))))),?_⟩
 wp_walk using tSeq,tIfS,inV,eqV,spled
 refine ⟨_,.inr (.of ha),_,.inr (.of hb),?_⟩
 rw [z0l,z0l]
 unfold pairOk at q1 q2
 unfold pairL at q2
 by_cases c:ms.length < ns.length
 ·rw [if_pos (by omega)]
  simp only [if_pos c] at q1 q2
  exact ⟨ms,hb,ns,ha,q1,λ e H1 s1=>q2 e _ _ s1 (s1 _ _ ha)⟩
 ·rw [if_neg (by omega)]
  simp only [if_neg c] at q1 q2
  exact ⟨ns,ha,ms,hb,q1,λ e H1 s1=>q2 e _ _ s1 (s1 _ _ hb)⟩
abbrev sfoldedsides:Stmt:=top 38
theorem z8g:FnScope ["sides", "side"] ["sides", "side"] (defScope sfoldedsides):=⟨rfl,rfl,rfl,by decide +kernel,rfl,by decide +kernel,by decide +kernel⟩
theorem z8r (F:Fun K "folded_sides" "folded_sides" sfoldedsides f fd) {CNoSide:Addr}(nNoSide:W.nsIn K mainGlobals "NoSide" = some (some (.ref CNoSide))) (caskside:Callee P w K mg base (CX1 P w) (1) "ask_side" ["sides", "side"] (spask CNoSide)) (cdroppedat:Callee P w K mg base CX0 (1) "dropped_at" ["row", "k"] spdroppedat):FnOk P w K mg base (CX1 P w) (2) f fd ["sides", "side"] ((spfolded CNoSide)):=by
 have sc:=z8g
 refine F.okX sc (λ vs H Q E h=>?_) (λ cdv A outer s H vs Q E hr h=>?_)
 ·obtain ⟨a,ns,side,rfl,_⟩:=h;rfl
 obtain ⟨a,ns,side,rfl,ha,h63,q1,q2⟩:=h
 refine ⟨_,(z0c (z3a (z0g caskside hr (by rfl) z1k (z0a (pv 0) (z0a (pv 1) z0b)))) (z0d (z0j (z0g cdroppedat hr (by rfl) z0x (z0a (pv 0) (z0a (pv 1) z0b)))))),?_⟩
 wp_walk using tSeq,tIfS,inV,eqV,spask,spdroppedat
 refine ⟨ns,ha,q1,λ no=>?_⟩
 obtain ⟨k,rfl,hk⟩:=y1s no
 exact ⟨ns,k,rfl,ha,h63,hk,q2 no⟩
abbrev stableby:Stmt:=top 40
theorem y5h:FnScope ["sides", "number_at"] ["sides", "number_at"] (defScope stableby):=⟨rfl,rfl,rfl,by decide +kernel,rfl,by decide +kernel,by decide +kernel⟩
theorem y6i (F:Fun K "table_by" "table_by" stableby f fd) (callat:Callee P w K mg base CX0 (6) "all_at" ["sides"] spallat) (ztuple:mg "tuple" = none):FnOk P w K mg base CX0 (7) f fd ["sides", "number_at"] ((sptableby P w K mg base)):=by
 have sc:=y5h
 refine F.ok sc (λ vs H Q E h=>?_) (λ cdv A outer s H vs Q E hr h=>?_)
 ·obtain ⟨sa,fa,ns,fn,rfl,_⟩:=h;rfl
 obtain ⟨sa,fa,ns,fn,rfl,ha,hs,h63,h512,hf,hc,q⟩:=h
 refine ⟨_,(z0d (z0j (z2s (z0a (pv 0) (z0a (z1d z1n (by rfl) ztuple boot_tuple (z0a (z4j (own:=["at"]) (fv:=["number_at"]) (js:=[1]) rfl (z5n (z0g callat hr (by rfl) z0x (z0a (pv 0) z0b))) rfl (by decide) rfl (by decide) (by first | exact λ _ _ h=>h | exact z3w rfl | exact z3v rfl rfl | exact z3u rfl rfl rfl) (z5x (by rfl)) rfl (x3r (by first | exact ⟨rfl,.inl rfl,.inl rfl⟩ | exact ⟨rfl,.inl rfl,.inr rfl⟩)) (λ _ _ _ _=>(z1b (i:=0) (show (["at", "number_at"]:List Str).Nodup by decide +kernel) rfl (Or.inl rfl))) (λ _ _ _ _=>(y9t (P:=P) (w:=w) (K:=K) (mg:=mg) (base:=base) (i:=1) rfl rfl rfl rfl rfl hr rfl (by first | exact Or.inl rfl | exact Or.inr (Or.inl rfl) | exact Or.inr (Or.inr rfl)) (z0a (pv 0) z0b)))) z0b)) z0b))))),?_⟩
 have pn:=z5m λ n hn=>(hs n hn).1
 wp_walk using tSeq,tIfS,inV,eqV,spallat
 refine ⟨ns,ha,hs,h63,h512,λ H1 l ps s1 hl tp=>?_⟩
 have pl:=tp.1
 rw [y1u] at pl
 refine CompL.mk (xs:=ps.map V.ref) (.of hl) (λ i ys σ G=>Same H1 G/\ys=(((List.range i).map fn).map V.int)/\∃y,σ=[y,some (.ref fa)]) ⟨Same.refl _,rfl,_,rfl⟩ (λ i ys σ G _ h=>.of (h.1 _ _ hl)) (λ i x ys σ G ex h=>?_) (λ ys σ G h p hp=>?_)
 ·obtain ⟨sG,rfl,y,rfl⟩:=h
  have il:i < ps.length:=by have:=(List.getElem?_eq_some_iff.mp ex).1;rwa [List.length_map] at this
  obtain ⟨p,ep,hp⟩:=tp.2 i _ (y8y (by omega))
  rw [List.getElem?_map,ep] at ex
  cases (Option.some.inj ex)
  refine ⟨by rw [List.length_map,List.length_map,List.length_range];exact z0z (by omega),?_⟩
  wp_walk using tSeq,tIfS,inV,eqV
  have f1:=hf.same λ o e=>(s1.trans sG) _ _ e
  refine ⟨f1,f1,hc i G p _ (by omega) (s1.trans sG) (sG _ _ hp) λ H2 s2=>⟨sG.trans s2,?_,_,rfl⟩⟩
  rw [List.range_succ,List.map_append,List.map_append];rfl
 ·obtain ⟨sG,rfl,y,rfl⟩:=h
  rw [List.length_map,pl]
  refine ⟨p,rfl,_,.inl ⟨.of z0h,λ q0 hq0=>⟨small (by decide),λ r hr0=>?_⟩⟩⟩
  exact q _ r q0 (s1.trans (sG.trans ((z0e hp _).trans ((z0e hq0 _).trans (z0e hr0 _))))) (z0e hr0 _ _ _ z0h) z0h
abbrev scellat:Stmt:=top 41
def spcellat:Sp:=λ vs H Q _=>∃(ta b:Addr) (ns cs ms:List Int),vs=[.ref ta,.ref b]/\TbAt H ta ns cs/\H b=some (.tup (ms.map V.int))/\sdOk ns/\ns.length≤63/\good ns ms/\(cs.length:Int)=prodI ns/\∀H',Same H H'->Q (.int (cs.getD (plH ns ms).toNat 0)) H'
theorem y9m:FnScope ["tab", "at"] ["tab", "at"] (defScope scellat):=⟨rfl,rfl,rfl,by decide +kernel,rfl,by decide +kernel,by decide +kernel⟩
theorem y9y (F:Fun K "cell_at" "cell_at" scellat f fd) (cplaceof:Callee P w K mg base (CX1 P w) (2) "place_of" ["sides", "at"] (spplaceof CNoPlace)):FnOk P w K mg base CX0 (3) f fd ["tab", "at"] (spcellat):=by
 have sc:=y9m
 refine F.ok sc (λ vs H Q E h=>?_) (λ cdv A outer s H vs Q E hr h=>?_)
 ·obtain ⟨ta,b,ns,cs,ms,rfl,_⟩:=h;rfl
 obtain ⟨ta,b,ns,cs,ms,rfl,⟨sa,ca,ht,ha,hc⟩,hb,hs,h63,g,cl,q⟩:=h
 refine ⟨_,(z0d (z0j (z1c z0r (z1c z0r (pv 0) z0f (λ _ _=>rfl)) (z0g cplaceof hr (by rfl) z1l (z0a (z1c z0r (pv 0) z0f (λ _ _=>rfl)) (z0a (pv 1) z0b))) (λ _ _=>rfl)))),?_⟩
 have pi:=z7q g
 have gl:=g.1
 have ex:cs[(plH ns ms).toNat]?=some (cs.getD (plH ns ms).toNat 0):=by
  rw [List.getD_eq_getElem?_getD,List.getElem?_eq_getElem (by omega)];rfl
 wp_walk using tSeq,tIfS,inV,eqV,spplaceof
 exact ⟨_,ht,_,z0v (j:=1) rfl,_,ht,_,z0v (j:=0) rfl,sa,rfl,ns,ha,ms,hb,hs,h63,by omega,λ n=>absurd g n,λ _ H1 s1=>⟨ca,rfl,_,s1 _ _ hc,_,y0h pi.1 ex,q _ s1⟩⟩
abbrev sfold:Stmt:=top 43
theorem x4g:FnScope ["word", "tab", "side", "begin", "sides", "length", "number_at"] ["word", "tab", "side"] (defScope sfold):=⟨rfl,rfl,rfl,by decide +kernel,rfl,by decide +kernel,by decide +kernel⟩
theorem x5j (F:Fun K "fold" "fold" sfold f fd) {c:Addr}(hcd:fd.code=.ref c) (TF:TabF base mg c TD) {CNoWord:Addr}(nNoWord:W.nsIn K mainGlobals "NoWord" = some (some (.ref CNoWord))) {CNoSide:Addr}(nNoSide:W.nsIn K mainGlobals "NoSide" = some (some (.ref CNoSide))) (ctableby:Callee P w K mg base CX0 (7) "table_by" ["sides", "number_at"] (sptableby P w K mg base)) (cfoldedsides:Callee P w K mg base (CX1 P w) (7) "folded_sides" ["sides", "side"] (spfolded CNoSide)) (cneutral:Callee P w K mg base (CX1 P w) (7) "neutral" ["word"] (spneutral CNoWord)) (zrange:mg "range" = none) (c5cellat:Callee P w K mg base CX0 5 "cell_at" ["tab", "at"] spcellat) (c5addedat:Callee P w K mg base CX0 5 "added_at" ["row", "k", "number"] spaddedat) (c5twice:Callee P w K mg base CX0 5 "twice" ["word", "x", "y"] sptwice):FnOk P w K mg base (CX1 P w) (8) f fd ["word", "tab", "side"] ((spfoldT TD CNoWord CNoSide)):=by
 have sc:=x4g
 refine F.okTX hcd sc (λ vs H Q E h=>?_) (λ A outer s H vs Q E hr h=>?_)
 ·obtain ⟨w,t,ns,cs,side,rfl,_⟩:=h;rfl
 obtain ⟨wd,t,ns,cs,side,rfl,okw,tb,hm,h20,p5,csl,hin,ht,q1,q2,q3⟩:=h
 have own:OwnCl (envOfC "fold" (defScope sfold) s.heap.objs.size f (.ref c)).cells ["word", "tab", "side", "length", "begin"] [("word",s.heap.objs.size+1),("tab",s.heap.objs.size+2),("side",s.heap.objs.size+3),("length",s.heap.objs.size+5),("begin",s.heap.objs.size+4)]:=⟨rfl,(fc rfl (fc rfl (fc rfl (fc rfl (fc rfl fc0)))))⟩
 refine ⟨_,(z0c (z0n (i:=3) sc.nd rfl (by first | exact Or.inl rfl | exact Or.inr rfl) (z0g cneutral hr (by rfl) z1k (z0a (pv 0) z0b))) (z0c (z0n (i:=4) sc.nd rfl (by first | exact Or.inl rfl | exact Or.inr rfl) (z0g cfoldedsides hr (by rfl) z1k (z0a (z1c z0r (pv 1) z0f (λ _ _=>rfl)) (z0a (pv 2) z0b)))) (z0c (z0n (i:=5) sc.nd rfl (by first | exact Or.inl rfl | exact Or.inr rfl) (z1c z0r (z1c z0r (pv 1) z0f (λ _ _=>rfl)) (pv 2) (λ _ _=>rfl))) (z0c (x4r (i:=6) (qual := "fold.<locals>.number_at") (fv:=["word", "tab", "side", "length", "begin"]) (cl:=[("word",s.heap.objs.size+1),("tab",s.heap.objs.size+2),("side",s.heap.objs.size+3),("length",s.heap.objs.size+5),("begin",s.heap.objs.size+4)]) sc.nd rfl (.inl rfl) rfl rfl TF rfl own rfl rfl rfl) (z0d (z0j (z5p (fv:=["word", "tab", "side", "length", "begin"]) (js:=[0,1,2,5,3]) ctableby hr (by rfl) own rfl (fc rfl (fc rfl (fc rfl (fc rfl (fc rfl fc0))))) (fc rfl (fc rfl (fc rfl (fc rfl (fc rfl fc0))))) (by decide +kernel) (z0a (pv 4) (z0a (pv 6) z0b))))))))),?_⟩
 generalize (cxOf _ _ _ _ _ _ _ _ _ _ _ _ _ _ _ _).env.cells=ec
 wp_walk using tSeq,tIfS,inV,eqV,spneutral,spfolded,sptableby
 obtain ⟨sa,ca,tt,ta,tc⟩:=id tb
 refine ⟨okw,λ hw H0 s0=>?_,q1⟩
 refine ⟨_,s0 _ _ tt,_,z0v (j:=0) rfl,_,rfl,ns,s0 _ _ ta,by omega,λ o=>q2 hw o _ s0,λ no H1 p s1 hp=>?_⟩
 replace q3:=q3 hw no
 obtain ⟨k,rfl,hk⟩:=y1s no
 simp only [Int.toNat_natCast] at hp q3
 have s01:=s0.trans s1
 refine ⟨_,s01 _ _ tt,_,z0v (j:=0) rfl,_,rfl,_,s01 _ _ ta,_,z3h hk,ht.same s01,λ fa c' cl H2 o1 ffa hfa hc2 ht2 up2=>⟨[.str wd,.ref t,.int k,.int (ns.getD k 0),.int (neuI wd)],by simp,λ cl' H3 o2 fr hcel eq3=>?_⟩⟩
 cases OwnCl.uniq o1 o2
 have ht0:=ht.same s01
 have up3:∀a xs,H1 a=some (.tup xs)->H2 a=some (.tup xs):=λ a xs e=>up2 _ _ (z7n ht0 e) e
 have u3:=z4n fr eq3
 have hs:=z3c hm
 have nn:∀n∈ns,0≤n:=λ n hn=>(hs n hn).1
 have sdA:sdOk (ns.eraseIdx k):=λ n hn=>hs n (List.mem_of_mem_eraseIdx hn)
 have pb:=z1e λ n hn=>(sdA n hn).1
 have pe:=z3t (k:=k) nn
 have li:(ns.eraseIdx k).length=ns.length - 1:=by rw [List.length_eraseIdx,if_pos hk]
 have nk:=hm _ (z1x hk)
 have lsc:LmScope ["at", "word", "tab", "side", "length", "begin", "number", "k"] ["at"] ["word", "tab", "side", "length", "begin"] { kind:=ScopeKind.function,names:=[("at",NameKind.local),("number",NameKind.local),("k",NameKind.local),("begin",NameKind.free),("length",NameKind.free),("side",NameKind.free),("tab",NameKind.free),("word",NameKind.free),("range",NameKind.globalImplicit),("twice",NameKind.globalImplicit),("cell_at",NameKind.globalImplicit),("added_at",NameKind.globalImplicit)],isGenerator:=false,isCoroutine:=false }:=⟨rfl,rfl,rfl,by decide +kernel,rfl,fc (.inl rfl) fc0,fc rfl (fc rfl (fc rfl (fc rfl (fc rfl fc0)))),by decide +kernel,by decide +kernel⟩
 refine ⟨ns.eraseIdx k,u3 _ _ (up3 _ _ hp),sdA,by omega,by omega,FnV.dfn (u3 _ _ hfa),λ i=>fldV wd (neuI wd) ns cs k (atD (ns.eraseIdx k) (i:Int)) (ns.getD k 0).toNat,λ i H4 p1 Q' hi s4 hp1 hq=>?_,λ H4 p q s4 hq hp'=>?_⟩
 ·have hcel1:=hcel.same s4
  have tbm:TbAt (minC H4 cl) t ns cs:=z7s hcel1 (((y3h (T:=TD) (tb.same s01) up3).same u3).same s4)
  have hpm:=z1i hcel1 hp1
  have gd:=z2o sdA (by omega) hi
  have al:=z3n (ns.eraseIdx k) i
  replace hq:∀H2,Same H4 H2->Q' (V.int (fldV wd (neuI wd) ns cs k (atD (ns.eraseIdx k) (i:Int)) (ns.getD k 0).toNat)) H2:=hq
  generalize atD (ns.eraseIdx k) (i:Int)=At at *
  refine x3q (k:=5) (vs:=[V.ref p1]) (vcs:=[.str wd,.ref t,.int k,.int (ns.getD k 0),.int (neuI wd)]) lsc o1.1 (λ doc pm ctv us hl=>by match us,hl with | [u],_=>rfl) rfl (s4 _ _ (u3 _ _ hfa)) (s4 _ _ (u3 _ _ hc2)) hcel1 (λ A outer s hr=>(z0c (z0n (i:=6) lsc.nd rfl (by first | exact Or.inl rfl | exact Or.inr rfl) (pv 5)) (z0c (z2r PassesOwn.never rfl (z3e (by rfl) zrange (z0a (pv 4) z0b)) (z1b (i:=7) lsc.nd rfl (Or.inl rfl)) (z0d (z0n (i:=6) lsc.nd rfl (by first | exact Or.inl rfl | exact Or.inr rfl) (z0g c5twice hr (by rfl) z0x (z0a (pv 1) (z0a (pv 6) (z0a (z0g c5cellat hr (by rfl) z0x (z0a (pv 2) (z0a (z0g c5addedat hr (by rfl) z0x (z0a (pv 0) (z0a (pv 3) (z0a (pv 7) z0b)))) z0b))) z0b))))))) (z0d (z0j (pv 6)))))) ?_
  wp_walk using tIfS,inV,eqV
  refine z0i (λ σ G=>G=minC H4 cl/\σ=[some (.ref p1),some (.str wd),some (.ref t),some (.int k),some (.int (ns.getD k 0)),some (.int (neuI wd)),some (.int (neuI wd)),none]) ?_ (λ R hR=>?_)
  rotate_left
  ·wp_walk using tSeq,tIfS,inV,eqV
   exact hR _ _ ⟨rfl,rfl⟩
  rintro σ1 G1 ⟨rfl,rfl⟩
  refine z0i (λ σ G=>Same (minC H4 cl) G/\∃y7,σ=[some (.ref p1),some (.str wd),some (.ref t),some (.int k),some (.int (ns.getD k 0)),some (.int (neuI wd)),some (.int (fldV wd (neuI wd) ns cs k At (ns.getD k 0).toNat)),y7]) ?_ (λ R hR=>?_)
  rotate_left
  ·wp_walk using tIfS,inV,eqV
   refine ⟨by omega,by omega,?_⟩
   refine LoopR.mk (λ j σ G=>Same (minC H4 cl) G/\∃y7,σ=[some (.ref p1),some (.str wd),some (.ref t),some (.int k),some (.int (ns.getD k 0)),some (.int (neuI wd)),some (.int (fldV wd (neuI wd) ns cs k At j)),y7]) ⟨Same.refl _,_,rfl⟩ (λ j σ G hj h=>?_) (λ σ G h=>hR _ _ h)
   obtain ⟨sG,y7,rfl⟩:=h
   wp_walk using tSeq,tIfS,inV,eqV,spcellat,spaddedat,sptwice
   rw [Int.zero_add]
   have gj:=z2g hk gd (y:=(j:Int)) (by omega) (by omega)
   have pi:=z7q gj
   refine ⟨At,k,rfl,sG _ _ hpm,by omega,λ G2 r s2 hr2=>⟨ns,cs,(tbm.same sG).same s2,_,hr2,hs,by omega,gj,csl,λ G3 s3=>⟨x6d hw,x1w hw (z6v _) hin _,hin _ (z1x (by omega)),sG.trans (s2.trans s3),rfl,_,rfl⟩⟩⟩
  rintro σ2 G2 ⟨s2,y7,rfl⟩
  wp_walk using tSeq,tIfS,inV,eqV
  exact hq _ (z4a s2)
 ·have hb:=z3g fr eq3 s4
  have hc4:=hcel.same s4
  exact q3 _ p (λ b o n e=>hb _ _ (up2 _ _ n (s01 _ _ e))) (ht2.same hb) ⟨_,_,z1i hc4 hp',hb _ _ (up3 _ _ hp),z1i hc4 hq⟩
abbrev srun:Stmt:=top 44
theorem x6q:FnScope ["word", "tab", "side", "begin", "sides", "stride", "cells", "place", "cell", "is_first", "before"] ["word", "tab", "side"] (defScope srun):=⟨rfl,rfl,rfl,by decide +kernel,rfl,by decide +kernel,by decide +kernel⟩
theorem x6z (F:Fun K "run" "run" srun f fd) {CNoWord:Addr}(nNoWord:W.nsIn K mainGlobals "NoWord" = some (some (.ref CNoWord))) {CNoSide:Addr}(nNoSide:W.nsIn K mainGlobals "NoSide" = some (some (.ref CNoSide))) (cneutral:Callee P w K mg base (CX1 P w) (3) "neutral" ["word"] (spneutral CNoWord)) (caskside:Callee P w K mg base (CX1 P w) (3) "ask_side" ["sides", "side"] (spask CNoSide)) (cstridesof:Callee P w K mg base CX0 (3) "strides_of" ["sides"] spstridesof) (ctwice:Callee P w K mg base CX0 (3) "twice" ["word", "x", "y"] sptwice) (zenumerate:mg "enumerate" = none) (ztuple:mg "tuple" = none):FnOk P w K mg base (CX1 P w) (4) f fd ["word", "tab", "side"] ((sprunT CNoWord CNoSide)):=by
 have sc:=x6q
 refine F.okX sc (λ vs H Q E h=>?_) (λ cdv A outer s H vs Q E hr h=>?_)
 ·obtain ⟨w,t,ns,cs,side,rfl,_⟩:=h;rfl
 obtain ⟨wd,t,ns,cs,side,rfl,okw,⟨sa,ca,tt,ta,tc⟩,hm,h20,p5,csl,hin,q1,q2,q3⟩:=h
 refine ⟨_,(z0c (z0n (i:=3) sc.nd rfl (by first | exact Or.inl rfl | exact Or.inr rfl) (z0g cneutral hr (by rfl) z1k (z0a (pv 0) z0b))) (z0c (z0n (i:=4) sc.nd rfl (by first | exact Or.inl rfl | exact Or.inr rfl) (z1c z0r (pv 1) z0f (λ _ _=>rfl))) (z0c (z3a (z0g caskside hr (by rfl) z1k (z0a (pv 4) (z0a (pv 2) z0b)))) (z0c (z0n (i:=5) sc.nd rfl (by first | exact Or.inl rfl | exact Or.inr rfl) (z1c z0r (z0g cstridesof hr (by rfl) z0x (z0a (pv 4) z0b)) (pv 2) (λ _ _=>rfl))) (z0c (z0n (i:=6) sc.nd rfl (by first | exact Or.inl rfl | exact Or.inr rfl) (z6r z0b)) (z0c (z2r PassesOwn.leaving rfl (x2p (by rfl) zenumerate (z1c z0r (pv 1) z0f (λ _ _=>rfl))) (z8m (n:=2) (y2f rfl (z2v (z1b (i:=7) sc.nd rfl (Or.inl rfl)) (z2v (z1b (i:=8) sc.nd rfl (Or.inl rfl)) z8l)))) (z0c (z0n (i:=9) sc.nd rfl (by first | exact Or.inl rfl | exact Or.inr rfl) (z4k z2f (z0q z3j (z0q z5g (pv 7) (pv 5)) (z1c z0r (pv 4) (pv 2) (λ _ _=>rfl))) z0f (z0t _))) (z0c (z0n (i:=10) sc.nd rfl (by first | exact Or.inl rfl | exact Or.inr rfl) (z5f (z2u (pv 9)) (pv 3) (z1c z6e (pv 6) (z0q z2w (pv 7) (pv 5)) (λ _ _=>rfl)))) (z0d (z3a (y2i (pv 6) (z0g ctwice hr (by rfl) z0x (z0a (pv 0) (z0a (pv 10) (z0a (pv 8) z0b)))))))))) (z0d (z0j (z2s (z0a (pv 4) (z0a (z1d z1n (by rfl) ztuple boot_tuple (z0a (pv 6) z0b)) z0b))))))))))),?_⟩
 simp only [L2.start,List.length_cons,List.length_nil,List.replicate,List.cons_append,List.nil_append,Nat.reduceSub,Nat.reduceAdd,List.map_cons,List.map_nil]
 have hs:=z3c hm
 have nn:∀n∈ns,0≤n:=λ n hn=>(hs n hn).1
 have po:=z1e nn
 refine z0i (λ σ G=>isF wd/\Same H G/\σ=[some (.str wd),some (.ref t),some (.int side),some (.int (neuI wd)),none,none,none,none,none,none,none]) ?_ (λ R hR=>?_)
 rotate_left
 ·wp_walk using tSeq,tIfS,inV,eqV,spneutral
  exact ⟨okw,λ hw G s0=>hR _ _ ⟨hw,s0,rfl⟩,q1⟩
 rintro σ1 G1 ⟨hw,s1,rfl⟩
 replace tt:=s1 _ _ tt
 replace ta:=s1 _ _ ta
 replace tc:=s1 _ _ tc
 refine z0i (λ σ G=>G=G1/\σ=[some (.str wd),some (.ref t),some (.int side),some (.int (neuI wd)),some (.ref sa),none,none,none,none,none,none]) ?_ (λ R hR=>?_)
 rotate_left
 ·wp_walk using tSeq,tIfS,inV,eqV
  exact ⟨_,tt,_,z0v (j:=0) rfl,hR _ _ ⟨rfl,rfl⟩⟩
 rintro σ2 G2 ⟨rfl,rfl⟩
 refine z0i (λ σ G=>¬off ns side/\G=G2/\σ=[some (.str wd),some (.ref t),some (.int side),some (.int (neuI wd)),some (.ref sa),none,none,none,none,none,none]) ?_ (λ R hR=>?_)
 rotate_left
 ·wp_walk using tSeq,tIfS,inV,eqV,spask
  exact ⟨ns,ta,λ o=>q2 hw o _ s1,λ no=>hR _ _ ⟨no,rfl,rfl⟩⟩
 rintro σ3 G3 ⟨no,rfl,rfl⟩
 replace q3:=q3 hw no
 obtain ⟨k,rfl,hk⟩:=y1s no
 simp only [Int.toNat_natCast] at q3
 refine z0i (λ σ G=>Same G3 G/\σ=[some (.str wd),some (.ref t),some (.int k),some (.int (neuI wd)),some (.ref sa),some (.int (prodI (ns.drop (k+1)))),none,none,none,none,none]) ?_ (λ R hR=>?_)
 rotate_left
 ·wp_walk using tSeq,tIfS,inV,eqV,spstridesof
  exact ⟨ns,ta,hs,by omega,λ G p s hp=>⟨_,hp,_,z0v (j:=k) (v:=.int (prodI (ns.drop (k+1)))) (by rw [List.getElem?_map,x1n hk];rfl),hR _ _ ⟨s,rfl⟩⟩⟩
 rintro σ4 G4 ⟨s4,rfl⟩
 replace tt:=s4 _ _ tt
 replace ta:=s4 _ _ ta
 replace tc:=s4 _ _ tc
 replace s1:=s1.trans s4
 clear s4
 refine z0i (λ σ G=>∃l,G=upd G4 l (.lst [])/\G4 l=none/\σ=[some (.str wd),some (.ref t),some (.int k),some (.int (neuI wd)),some (.ref sa),some (.int (prodI (ns.drop (k+1)))),some (.ref l),none,none,none,none]) ?_ (λ R hR=>?_)
 rotate_left
 ·wp_walk using tSeq,tIfS,inV,eqV
  exact ⟨small (by decide),λ l hl=>hR _ _ ⟨l,rfl,hl,rfl⟩⟩
 rintro σ5 G5 ⟨l,rfl,l0,rfl⟩
 refine z0i (λ σ G=>∃y7 y8 y9 y10,Same G4 G/\G l=some (.lst ((runT wd ns cs k).map V.int))/\σ=[some (.str wd),some (.ref t),some (.int k),some (.int (neuI wd)),some (.ref sa),some (.int (prodI (ns.drop (k+1)))),some (.ref l),y7,y8,y9,y10]) ?_ (λ R hR=>?_)
 rotate_left
 ·wp_walk using inV,eqV
  have sl:=z0e l0 (.lst [])
  refine ⟨_,sl _ _ tt,_,z0v (j:=1) rfl,?_⟩
  refine LoopE.mk (xs:=cs.map V.int) (.of (sl _ _ tc)) (λ j σ G=>∃y7 y8 y9 y10,Same G4 G/\G l=some (.lst ((runL wd (neuI wd) (prodI (ns.drop (k+1))) (ns.getD k 0) cs j).map V.int))/\σ=[some (.str wd),some (.ref t),some (.int k),some (.int (neuI wd)),some (.ref sa),some (.int (prodI (ns.drop (k+1)))),some (.ref l),y7,y8,y9,y10]) ⟨_,_,_,_,sl,z0h,rfl⟩ (λ j σ G _ ⟨_,_,_,_,sG,_⟩=>.of (sG _ _ tc)) (λ j x σ G T ex h T0=>?_) (λ σ G h=>?_)
  ·obtain ⟨y7,y8,y9,y10,sG,gl,rfl⟩:=h
   obtain ⟨c,rfl,hc⟩:=z3r ex
   have jl:j < cs.length:=(List.getElem?_eq_some_iff.mp hc).1
   have np:=x0a hs (p:=(j:Int)) (by omega) (by omega)
   have sp:=z5e (ns:=ns.drop (k+1)) λ n hn=>np n (List.mem_of_mem_drop hn)
   have nk:=np _ (z1x hk)
   have sT:=z0e T0 (.tup [V.int j,V.int c])
   have ec:cs.getD j 0=c:=by rw [List.getD_eq_getElem?_getD,hc];rfl
   have e1:((j:Int)).fdiv (prodI (ns.drop (k+1)))=(j:Int) / prodI (ns.drop (k+1)):=Int.fdiv_eq_ediv_of_nonneg _ (by omega)
   have e2:((j:Int) / prodI (ns.drop (k+1))).fmod (ns.getD k 0)=(j:Int) / prodI (ns.drop (k+1)) % ns.getD k 0:=Int.fmod_eq_emod_of_nonneg _ (by omega)
   have nx:∀v:Int,v=twiceI wd (if (j:Int) / prodI (ns.drop (k+1)) % ns.getD k 0=0 then neuI wd else (runL wd (neuI wd) (prodI (ns.drop (k+1))) (ns.getD k 0) cs j).getD ((j:Int) - prodI (ns.drop (k+1))).toNat 0) c->(runL wd (neuI wd) (prodI (ns.drop (k+1))) (ns.getD k 0) cs j).map V.int++[V.int v]=(runL wd (neuI wd) (prodI (ns.drop (k+1))) (ns.getD k 0) cs (j+1)).map V.int:=λ v ev=>by
    show _=(runL wd (neuI wd) (prodI (ns.drop (k+1))) (ns.getD k 0) cs j++[twiceI wd (if (j:Int) / prodI (ns.drop (k+1)) % ns.getD k 0=0 then neuI wd else (runL wd (neuI wd) (prodI (ns.drop (k+1))) (ns.getD k 0) cs j).getD ((j:Int) - prodI (ns.drop (k+1))).toNat 0) (cs.getD j 0)]).map V.int
    rw [ec,← ev,List.map_append];rfl
   have rl:=z5l wd (neuI wd) (prodI (ns.drop (k+1))) (ns.getD k 0) cs j
   have rin:=y5t (st:=prodI (ns.drop (k+1))) (n:=ns.getD k 0) hw (z6v wd) hin (j:=j) (by omega)
   have lim:((runL wd (neuI wd) (prodI (ns.drop (k+1))) (ns.getD k 0) cs j).map V.int).length < sizeLine:=by rw [List.length_map,rl];exact z0z (by omega)
   have inc:inB c:=hin _ (List.mem_of_getElem? hc)
   have s1a:prodI (ns.drop (k+1))≤512:=by
    have a1:=z1e (ns:=ns.drop (k+1)) λ n hn=>nn n (List.mem_of_mem_drop hn)
    have a2:=y5b (ns:=ns) nn ns.length
    have a3:prodI ns=prodI (ns.take (k+1)) * prodI (ns.drop (k+1)):=by rw [← y2e,List.take_append_drop]
    have a4:=z5e (ns:=ns.take (k+1)) λ n hn=>np n (List.mem_of_mem_take hn)
    have a5:1 * prodI (ns.drop (k+1))≤prodI (ns.take (k+1)) * prodI (ns.drop (k+1)):=Int.mul_le_mul_of_nonneg_right (by omega) (by omega)
    omega
   have gT:=sT _ _ gl
   have fin:∀v:Int,v=twiceI wd (if (j:Int) / prodI (ns.drop (k+1)) % ns.getD k 0=0 then neuI wd else (runL wd (neuI wd) (prodI (ns.drop (k+1))) (ns.getD k 0) cs j).getD ((j:Int) - prodI (ns.drop (k+1))).toNat 0) c->Same G4 (upd (upd G T (.tup [V.int j,V.int c])) l (.lst ((runL wd (neuI wd) (prodI (ns.drop (k+1))) (ns.getD k 0) cs j).map V.int++[V.int v]))):=λ v _ b o e=>by
    rw [z0p (λ z=>by rw [z,l0] at e;cases e)]
    exact sT _ _ (sG _ _ e)
   have taT:=sT _ _ (sG _ _ ta)
   generalize prodI (ns.drop (k+1))=st at *
   generalize runL wd (neuI wd) st (ns.getD k 0) cs j=rj at *
   wp_walk using tSeq,tIfS,inV,eqV,sptwice
   refine ⟨by omega,by omega,by omega,_,taT,_,z3h hk,_,rfl,by omega,?_⟩
   rw [e1,e2]
   by_cases c0:(j:Int) / st % ns.getD k 0=0
   ·rw [if_pos c0]
    have ev:twiceI wd (neuI wd) c=twiceI wd (if (j:Int) / st % ns.getD k 0=0 then neuI wd else rj.getD ((j:Int) - st).toNat 0) c:=by rw [if_pos c0]
    exact ⟨⟨_,gT⟩,x6d hw,z6v _,inc,_,gT,lim,fin _ ev,nx _ ev,_,rfl⟩
   ·rw [if_neg c0]
    have j1:st≤(j:Int):=by
     by_cases z:st≤(j:Int)
     ·exact z
     ·rw [Int.ediv_eq_zero_of_lt (by omega) (by omega),Int.zero_emod] at c0
      exact absurd rfl c0
    have ev:twiceI wd (rj.getD ((j:Int) - st).toNat 0) c=twiceI wd (if (j:Int) / st % ns.getD k 0=0 then neuI wd else rj.getD ((j:Int) - st).toNat 0) c:=by rw [if_neg c0]
    have xl:((j:Int) - st).toNat < rj.length:=by omega
    exact ⟨_,gT,_,y0h (by omega) (z1w xl),⟨_,gT⟩,_,rfl,x6d hw,rin _ (z1x xl),inc,_,gT,lim,fin _ ev,nx _ ev,_,rfl⟩
  ·rw [List.length_map] at h
   exact hR _ _ h
 rintro σ6 G6 ⟨y7,y8,y9,y10,s6,g6,rfl⟩
 wp_walk using tSeq,tIfS,inV,eqV
 exact ⟨_,.inl ⟨.of g6,λ l1 hl1=>⟨small (by decide),λ p hp=>q3 _ p (s1.trans (s6.trans ((z0e hl1 _).trans (z0e hp _)))) ⟨sa,l1,z0h,z0e hp _ _ _ (z0e hl1 _ _ _ (s6 _ _ ta)),z0e hp _ _ _ z0h⟩⟩⟩⟩
abbrev slead:Stmt:=top 46
theorem x4f:FnScope ["tab", "sides", "many"] ["tab", "sides"] (defScope slead):=⟨rfl,rfl,rfl,by decide +kernel,rfl,by decide +kernel,by decide +kernel⟩
theorem x5i (F:Fun K "lead" "lead" slead f fd) {c:Addr}(hcd:fd.code=.ref c) (TF:TabF base mg c TL) {CUnlike:Addr}(nUnlike:W.nsIn K mainGlobals "Unlike" = some (some (.ref CUnlike))) (ctableby:Callee P w K mg base CX0 (7) "table_by" ["sides", "number_at"] (sptableby P w K mg base)) (cledsides:Callee P w K mg base (CX1 P w) (7) "led_sides" ["sides", "others"] (spled CUnlike)) (zlen:mg "len" = none) (c5cellat:Callee P w K mg base CX0 5 "cell_at" ["tab", "at"] spcellat):FnOk P w K mg base (CX1 P w) (8) f fd ["tab", "sides"] ((spleadT TL CUnlike)):=by
 have sc:=x4f
 refine F.okTX hcd sc (λ vs H Q E h=>?_) (λ A outer s H vs Q E hr h=>?_)
 ·obtain ⟨t,b,ns,cs,ms,rfl,_⟩:=h;rfl
 obtain ⟨t,b,ns,cs,ms,rfl,tb,hb,hs,hm,h20,m20,csl,p5,ht,q1,q2⟩:=h
 have own:OwnCl (envOfC "lead" (defScope slead) s.heap.objs.size f (.ref c)).cells ["tab", "many"] [("tab",s.heap.objs.size+1),("many",s.heap.objs.size+2)]:=⟨rfl,(fc rfl (fc rfl fc0))⟩
 refine ⟨_,(z0c (z0n (i:=2) sc.nd rfl (by first | exact Or.inl rfl | exact Or.inr rfl) (z0s z0m (by rfl) zlen PySem.boot_len (z0a (z1c z0r (pv 0) z0f (λ _ _=>rfl)) z0b))) (z0d (z0j (z5p (fv:=["tab", "many"]) (js:=[0,2]) ctableby hr (by rfl) own rfl (fc rfl (fc rfl fc0)) (fc rfl (fc rfl fc0)) (by decide +kernel) (z0a (z0g cledsides hr (by rfl) z1k (z0a (z1c z0r (pv 0) z0f (λ _ _=>rfl)) (z0a (pv 1) z0b))) (z0a (z9o (qual := "lead.<locals>.<lambda>") (fv:=["tab", "many"]) (cl:=[("tab",s.heap.objs.size+1),("many",s.heap.objs.size+2)]) rfl rfl TF rfl rfl own) z0b)))))),?_⟩
 generalize (cxOf _ _ _ _ _ _ _ _ _ _ _ _ _ _ _ _).env.cells=ec
 wp_walk using tSeq,tIfS,inV,eqV,spled,sptableby
 obtain ⟨sa,ca,tt,ta,tc⟩:=id tb
 refine ⟨_,tt,_,z0v (j:=0) rfl,_,rfl,_,.inr (.of ta),_,tt,_,z0v (j:=0) rfl,_,rfl,ns,ta,ms,hb,q1,λ no H0 s0=>⟨ht.same s0,λ fa c' cl H2 o1 ffa hfa hc2 ht2 up2=>⟨[.ref t,.int ns.length],by rw [z0l];rfl,λ cl' H3 o2 fr hcel eq3=>?_⟩⟩⟩
 cases OwnCl.uniq o1 o2
 have q5:=q2 no
 have ht0:=ht.same s0
 have up3:∀a xs,H0 a=some (.tup xs)->H2 a=some (.tup xs):=λ a xs e=>up2 _ _ (z7n ht0 e) e
 have u3:=z4n fr eq3
 refine ⟨_,u3 _ _ (up3 _ _ (s0 _ _ hb)),hm,by omega,p5,FnV.lam (u3 _ _ hfa),ledV ns cs ms,λ i H1 p1 Q' hi s1 hp1 hq=>?_,λ H4 p q s4 hq hp'=>?_⟩
 ·have hcel1:=hcel.same s1
  have tbm:TbAt (minC H1 cl) t ns cs:=z7s hcel1 (((y3h (T:=TL) (tb.same s0) up3).same u3).same s1)
  have hpm:=z1i hcel1 hp1
  have gd:=y7o ns.length (z2o hm (Int.natCast_nonneg i) hi)
  rw [no] at gd
  have al:=z3n ms i
  refine z6w (k:=5) (N:=["at", "tab", "many"]) (ps:=["at"]) (fv:=["tab", "many"]) (vs:=[V.ref p1]) (vcs:=[.ref t,.int ns.length]) ⟨rfl,rfl,rfl,by decide +kernel,rfl,fc (.inl rfl) fc0,fc rfl (fc rfl fc0),by decide +kernel,by decide +kernel⟩ o1.1 (λ pm ctv us hl=>by match us,hl with | [u],_=>rfl) rfl (s1 _ _ (u3 _ _ hfa)) (s1 _ _ (u3 _ _ hc2)) hcel1 (λ A outer s hr=>z0g c5cellat hr (by rfl) z0x (z0a (pv 1) (z0a (z1v z3p (pv 0) z2l (z2k (pv 2))) z0b))) ?_
  wp_walk using tSeq,tIfS,inV,eqV,spcellat
  refine ⟨_,hpm,λ r G s2 h2=>?_⟩
  rw [z3b] at h2
  exact ⟨ns,cs,tbm.same s2,_,h2,hs,by omega,gd,csl,λ G2 s3=>hq _ (z4a (s2.trans s3))⟩
 ·have hb':=z3g fr eq3 s4
  have hc4:=hcel.same s4
  exact q5 _ p (λ b o n e=>hb' _ _ (up2 _ _ n (s0 _ _ e))) (ht2.same hb') ⟨_,_,z1i hc4 hp',hb' _ _ (up3 _ _ (s0 _ _ hb)),z1i hc4 hq⟩
abbrev spair:Stmt:=top 47
theorem x4e:FnScope ["word", "tab", "other", "sides", "xs", "ys"] ["word", "tab", "other"] (defScope spair):=⟨rfl,rfl,rfl,by decide +kernel,rfl,by decide +kernel,by decide +kernel⟩
theorem x5h (F:Fun K "pair" "pair" spair f fd) {CUnlike:Addr}(nUnlike:W.nsIn K mainGlobals "Unlike" = some (some (.ref CUnlike))) (ctwice:Callee P w K mg base CX0 (8) "twice" ["word", "x", "y"] sptwice) (cpairedsides:Callee P w K mg base (CX1 P w) (8) "paired_sides" ["sides", "others"] (sppaired CUnlike)) (clead:Callee P w K mg base (CX1 P w) (8) "lead" ["tab", "sides"] (spleadT TL CUnlike)) (ztuple:mg "tuple" = none) (zzip:mg "zip" = none):FnOk P w K mg base (CX1 P w) (9) f fd ["word", "tab", "other"] ((sppairG TL CUnlike)):=by
 have sc:=x4e
 refine F.okX sc (λ vs H Q E h=>?_) (λ cdv A outer s H vs Q E hr h=>?_)
 ·obtain ⟨w,t,u,ns,cs,ms,ds,rfl,_⟩:=h;rfl
 obtain ⟨wd,t,u,ns,cs,ms,ds,rfl,hw,tb,ub,hs,hm,h20,m20,csl,dsl,p5,r5,ib,jb,ht,q2,q3⟩:=h
 refine ⟨_,(z0c (z3a (z0g ctwice hr (by rfl) z0x (z0a (pv 0) (z0a z0f (z0a z0f z0b))))) (z0c (z0n (i:=3) sc.nd rfl (by first | exact Or.inl rfl | exact Or.inr rfl) (z0g cpairedsides hr (by rfl) z1k (z0a (z1c z0r (pv 1) z0f (λ _ _=>rfl)) (z0a (z1c z0r (pv 2) z0f (λ _ _=>rfl)) z0b)))) (z0c (z0n (i:=4) sc.nd rfl (by first | exact Or.inl rfl | exact Or.inr rfl) (z1c z0r (z0g clead hr (by rfl) z1k (z0a (pv 1) (z0a (pv 3) z0b))) z0f (λ _ _=>rfl))) (z0c (z0n (i:=5) sc.nd rfl (by first | exact Or.inl rfl | exact Or.inr rfl) (z1c z0r (z0g clead hr (by rfl) z1k (z0a (pv 2) (z0a (pv 3) z0b))) z0f (λ _ _=>rfl))) (z0d (z0j (z2s (z0a (pv 3) (z0a (z1d z1n (by rfl) ztuple boot_tuple (z0a (z4j (own:=["x", "y"]) (fv:=["word"]) (js:=[0]) rfl (y6a (by rfl) zzip (z0a (pv 4) (z0a (pv 5) z0b))) rfl (by decide) rfl (by decide) (by first | exact λ _ _ h=>h | exact z3w rfl | exact z3v rfl rfl | exact z3u rfl rfl rfl) (z5x (by rfl)) rfl (x3r (by first | exact ⟨rfl,.inl rfl,.inl rfl⟩ | exact ⟨rfl,.inl rfl,.inr rfl⟩)) (λ _ _ _ _=>(z8m (n:=2) (y2f rfl (z2v (z1b (i:=0) (show (["x", "y", "word"]:List Str).Nodup by decide +kernel) rfl (Or.inl rfl)) (z2v (z1b (i:=1) (show (["x", "y", "word"]:List Str).Nodup by decide +kernel) rfl (Or.inl rfl)) z8l))))) (λ _ _ _ _=>(z0g ctwice hr (by rfl) z0x (z0a (pv 2) (z0a (pv 0) (z0a (pv 1) z0b)))))) z0b)) z0b))))))))),?_⟩
 simp only [L2.start,List.length_cons,List.length_nil,List.replicate,List.cons_append,List.nil_append,Nat.reduceSub,Nat.reduceAdd,List.map_cons,List.map_nil]
 refine z0i (λ σ G=>G=H/\σ=[some (.str wd),some (.ref t),some (.ref u),none,none,none]) ?_ (λ R hR=>?_)
 rotate_left
 ·wp_walk using tSeq,tIfS,inV,eqV,sptwice
  exact ⟨x6d hw,⟨by decide,by decide⟩,⟨by decide,by decide⟩,hR _ _ ⟨rfl,rfl⟩⟩
 rintro σ1 G1 ⟨rfl,rfl⟩
 refine z0i (λ σ G=>Same G1 G/\pairOk ns ms/\∃p,G p=some (.tup ((pairL ns ms).map V.int))/\σ=[some (.str wd),some (.ref t),some (.ref u),some (.ref p),none,none]) ?_ (λ R hR=>?_)
 rotate_left
 ·obtain ⟨sa,ca,tt,ta,tc⟩:=id tb
  obtain ⟨sb,cb,ut,ua,uc⟩:=id ub
  wp_walk using tSeq,tIfS,inV,eqV,sppaired
  exact ⟨_,tt,_,z0v (j:=0) rfl,_,ut,_,z0v (j:=0) rfl,_,rfl,_,rfl,ns,ta,ms,ua,q2,λ h G p s hp=>hR _ _ ⟨s,h,p,hp,rfl⟩⟩
 rintro σ2 G2 ⟨s2,po,p,hp,rfl⟩
 have ⟨l1,l2⟩:=y6d po
 have sP:sdOk (pairL ns ms):=z6t (P:=sdOk) hs hm
 have lP:(pairL ns ms).length≤20:=z6t (P:=λ z=>z.length≤20) h20 m20
 have pP:prodI (pairL ns ms)≤512:=z6t (P:=λ z=>prodI z≤512) p5 r5
 have q3:=q3 po
 generalize hPP:pairL ns ms=P at *
 refine z0i (λ σ G=>(SmT G2 G/\SameP TL G2 G)/\TabOk G TL ⟨183,46,183,80⟩ "lead.<locals>.<lambda>" /\ ∃x,G x=some (.tup ((ledL ns cs P).map V.int))/\σ=[some (.str wd),some (.ref t),some (.ref u),some (.ref p),some (.ref x),none]) ?_ (λ R hR=>?_)
 rotate_left
 ·wp_walk using tSeq,tIfS,inV,eqV,spleadT
  exact ⟨ns,cs,tb.same s2,P,hp,hs,sP,h20,lP,csl,pP,ht.same s2,λ z=>absurd l1 z,λ _ G x sp tk ⟨_,qx,e1,_,e3⟩=>⟨_,e1,_,z0v (j:=1) rfl,hR _ _ ⟨⟨SmT.ofP (ht.same s2) sp,sp⟩,tk,qx,e3,rfl⟩⟩⟩
 rintro σ3 G3 ⟨⟨s3,r3⟩,t3,x,hx,rfl⟩
 refine z0i (λ σ G=>(SmT G3 G/\SameP TL G3 G)/\TabOk G TL ⟨183,46,183,80⟩ "lead.<locals>.<lambda>" /\ ∃y,G y=some (.tup ((ledL ms ds P).map V.int))/\σ=[some (.str wd),some (.ref t),some (.ref u),some (.ref p),some (.ref x),some (.ref y)]) ?_ (λ R hR=>?_)
 rotate_left
 ·wp_walk using tSeq,tIfS,inV,eqV,spleadT
  exact ⟨ms,ds,s3.tb (ub.same s2),P,s3.tup hp,hm,sP,m20,lP,dsl,pP,t3,λ z=>absurd l2 z,λ _ G x sp tk ⟨_,qx,e1,_,e3⟩=>⟨_,e1,_,z0v (j:=1) rfl,hR _ _ ⟨⟨SmT.ofP t3 sp,sp⟩,tk,qx,e3,rfl⟩⟩⟩
 rintro σ4 G4 ⟨⟨s4,r4⟩,t4,y,hy,rfl⟩
 have hx4:=s4.tup hx
 have hp4:=s4.tup (s3.tup hp)
 have n0:(List.zipWith (twiceI wd) (ledL ns cs P) (ledL ms ds P)).length=(prodI P).toNat:=by rw [List.length_zipWith,z8x,z8x,Nat.min_self]
 wp_walk using tSeq,tIfS,inV,eqV
 refine CompZ.mk (xs:=(ledL ns cs P).map V.int) (ys:=(ledL ms ds P).map V.int) (prodI P).toNat (by rw [z0l,z0l,z8x,z8x,Nat.min_self]) (.of hx4) (.of hy) (λ i zs σ G=>Same G4 G/\zs=((List.zipWith (twiceI wd) (ledL ns cs P) (ledL ms ds P)).take i).map V.int/\∃y z,σ=[y,z,some (.str wd)]) ⟨Same.refl _,rfl,_,_,rfl⟩ (λ i zs σ G _ h=>⟨.of (h.1 _ _ hx4),.of (h.1 _ _ hy)⟩) (λ i a b zs σ G T hi ea eb h hT=>?_) (λ zs σ G h l hl=>?_) (λ i zs σ G h=>?_)
 ·obtain ⟨sg,rfl,y1,y2,rfl⟩:=h
  obtain ⟨m,rfl,hm'⟩:=z3r ea
  obtain ⟨n,rfl,hn'⟩:=z3r eb
  have e1:((List.zipWith (twiceI wd) (ledL ns cs P) (ledL ms ds P)).take (i+1)).map V.int=((List.zipWith (twiceI wd) (ledL ns cs P) (ledL ms ds P)).take i).map V.int++[V.int (twiceI wd m n)]:=by
   rw [List.take_add_one,List.getElem?_zipWith,hm',hn',List.map_append];rfl
  have ln:(((List.zipWith (twiceI wd) (ledL ns cs P) (ledL ms ds P)).take i).map V.int).length < sizeLine:=by rw [List.length_map,List.length_take];exact z0z (by omega)
  wp_walk using tSeq,tIfS,inV,eqV,sptwice,e1
  exact ⟨ln,x6d hw,x1u ib m (List.mem_of_getElem? hm'),x1u jb n (List.mem_of_getElem? hn'),sg.trans (z0e hT _),_,rfl⟩
 ·obtain ⟨sg,rfl,y1,y2,rfl⟩:=h
  rw [List.take_of_length_le (Nat.le_of_eq n0)]
  refine ⟨l,rfl,_,.inl ⟨.of z0h,λ l2 hl2=>⟨small (by decide),λ p2 hp2=>?_⟩⟩⟩
  have k1:=(z0e hl (.lst ((List.zipWith (twiceI wd) (ledL ns cs P) (ledL ms ds P)).map V.int))).trans ((z0e hl2 (.tup ((List.zipWith (twiceI wd) (ledL ns cs P) (ledL ms ds P)).map V.int))).trans (z0e hp2 (.tup [V.ref p,V.ref l2])))
  exact q3 _ p2 (z8h (y2c s2) (z8h r3 (z8h r4 (y2c (sg.trans k1))))) (t4.same (sg.trans k1)) ⟨p,l2,z0h,k1 _ _ (sg _ _ hp4),z0e hp2 _ _ _ z0h⟩
 ·obtain ⟨sg,rfl,y1,y2,rfl⟩:=h
  rw [List.length_map,List.length_take]
  exact z0z (by omega)
abbrev sturn:Stmt:=top 49
theorem x4d:FnScope ["tab", "order", "sides", "places"] ["tab", "order"] (defScope sturn):=⟨rfl,rfl,rfl,by decide +kernel,rfl,by decide +kernel,by decide +kernel⟩
theorem x5g (F:Fun K "turn" "turn" sturn f fd) {c:Addr}(hcd:fd.code=.ref c) (TF:TabF base mg c TT) {CNoSide:Addr}(nNoSide:W.nsIn K mainGlobals "NoSide" = some (some (.ref CNoSide))) (ctableby:Callee P w K mg base CX0 (7) "table_by" ["sides", "number_at"] (sptableby P w K mg base)) (cturnedsides:Callee P w K mg base (CX1 P w) (7) "turned_sides" ["sides", "order"] (spturned CNoSide)) (zrange:mg "range" = none) (zlen:mg "len" = none) (ztuple:mg "tuple" = none) (c5cellat:Callee P w K mg base CX0 5 "cell_at" ["tab", "at"] spcellat):FnOk P w K mg base (CX1 P w) (8) f fd ["tab", "order"] ((spturnT TT CNoSide)):=by
 have sc:=x4d
 refine F.okTX hcd sc (λ vs H Q E h=>?_) (λ A outer s H vs Q E hr h=>?_)
 ·obtain ⟨t,b,ns,cs,os,rfl,_⟩:=h;rfl
 obtain ⟨t,b,ns,cs,os,rfl,tb,hb0,hm,h20,o20,p5,csl,ht,q1,q2⟩:=h
 have own:OwnCl (envOfC "turn" (defScope sturn) s.heap.objs.size f (.ref c)).cells ["tab", "places"] [("tab",s.heap.objs.size+1),("places",s.heap.objs.size+3)]:=⟨rfl,(fc rfl (fc rfl fc0))⟩
 refine ⟨_,(z0c (z0n (i:=2) sc.nd rfl (by first | exact Or.inl rfl | exact Or.inr rfl) (z0g cturnedsides hr (by rfl) z1k (z0a (z1c z0r (pv 0) z0f (λ _ _=>rfl)) (z0a (pv 1) z0b)))) (z0c (z0n (i:=3) sc.nd rfl (by first | exact Or.inl rfl | exact Or.inr rfl) (z4j (own:=["side"]) (fv:=["order"]) (js:=[1]) rfl (z3e (by rfl) zrange (z0a (z0s z0m (by rfl) zlen PySem.boot_len (z0a (pv 1) z0b)) z0b)) rfl (by decide) rfl (by decide) (by first | exact λ _ _ h=>h | exact z3w rfl | exact z3v rfl rfl | exact z3u rfl rfl rfl) (z5x (by rfl)) rfl (x3r (by first | exact ⟨rfl,.inl rfl,.inl rfl⟩ | exact ⟨rfl,.inl rfl,.inr rfl⟩)) (λ _ _ _ _=>(z1b (i:=0) (show (["side", "order"]:List Str).Nodup by decide +kernel) rfl (Or.inl rfl))) (λ _ _ _ _=>(x4v PySem.F.slot_tuple_index PySem.F.type_tuple_index y6t (pv 1) (z0a (pv 0) z0b))))) (z0d (z0j (z5p (fv:=["tab", "places"]) (js:=[0,3]) ctableby hr (by rfl) own rfl (fc rfl (fc rfl fc0)) (fc rfl (fc rfl fc0)) (by decide +kernel) (z0a (pv 2) (z0a (z9o (qual := "turn.<locals>.<lambda>") (fv:=["tab", "places"]) (cl:=[("tab",s.heap.objs.size+1),("places",s.heap.objs.size+3)]) rfl rfl TF rfl rfl own) z0b))))))),?_⟩
 generalize (cxOf _ _ _ _ _ _ _ _ _ _ _ _ _ _ _ _).env.cells=ec
 wp_walk using tSeq,tIfS,inV,eqV,spturned,sptableby
 obtain ⟨sa,ca,tt,ta,tc⟩:=id tb
 refine ⟨_,tt,_,z0v (j:=0) rfl,_,rfl,ns,ta,os,hb0,h20,o20,q1,λ tk H0 p s0 hp=>?_⟩
 have hb1:=hb0.same s0
 have ol:=z2t tk
 refine ⟨_,.inr hb1.sq,by rw [z0l];omega,by rw [z0l];omega,?_⟩
 rw [z0l,Int.toNat_natCast]
 refine CompR.mk (λ i ys σ G=>G=H0/\i≤os.length/\ys=((List.range i).map λ s:Nat=>V.int ((os.idxOf (s:Int):Nat):Int))/\∃y,σ=[y,some (.ref b)]) ⟨rfl,Nat.zero_le _,rfl,_,rfl⟩ (λ i ys σ G hi h=>?_) (λ ys σ G h l hl=>?_)
 ·obtain ⟨rfl,il,rfl,y,rfl⟩:=h
  refine ⟨by rw [List.length_map,List.length_range];exact z0z (by omega),?_⟩
  wp_walk using tSeq,tIfS,inV,Int.zero_add
  obtain ⟨o,e,dd⟩:=id hb1
  have mi:=z2j tk (s:=i) (by omega)
  have xl:=List.idxOf_lt_length_iff.mpr mi
  refine ⟨⟨o,_,e,dd⟩,o,_,e,z2i _,os.idxOf (i:Int),⟨V.int i,?_,?_⟩,λ m z hm' ez=>?_,by omega,?_,_,rfl⟩
  ·rw [List.getElem?_map,List.getElem?_eq_getElem xl,List.getElem_idxOf xl];rfl
  ·show ((i:Int) == (i:Int))=true
   exact beq_self_eq_true _
  ·obtain ⟨n,rfl,hn⟩:=z3r ez
   obtain ⟨ml,en⟩:=List.getElem?_eq_some_iff.mp hn
   have z:=ne_of_lt_idxOf hm' ml
   rw [en] at z;exact z
  ·rw [List.range_succ,List.map_append];rfl
 ·obtain ⟨rfl,il,rfl,y,rfl⟩:=h
  have sl:=z0e hl (.lst ((List.range os.length).map λ s:Nat=>V.int ((os.idxOf (s:Int):Nat):Int)))
  have hll:upd G l (.lst ((List.range os.length).map λ s:Nat=>V.int ((os.idxOf (s:Int):Nat):Int))) l=some (.lst ((List.range os.length).map λ s:Nat=>V.int ((os.idxOf (s:Int):Nat):Int))):=z0h
  generalize upd G l (.lst ((List.range os.length).map λ s:Nat=>V.int ((os.idxOf (s:Int):Nat):Int)))=H1 at *
  have s01:=s0.trans sl
  have ht1:=ht.same s01
  refine ⟨ht1,λ fa c' cl H2 o1 ffa hfa hc2 ht2 up2=>⟨[.ref t,.ref l],by simp,λ cl' H3 o2 fr hcel eq3=>?_⟩⟩
  cases OwnCl.uniq o1 o2
  have up3:∀a xs,H1 a=some (.tup xs)->H2 a=some (.tup xs):=λ a xs e=>up2 _ _ (z7n ht1 e) e
  have lne:¬l=TT:=λ z=>by
   obtain ⟨ps,h1,_⟩:=ht1
   rw [← z,hll] at h1;cases h1
  have u3:=z4n fr eq3
  have hs:=z3c hm
  obtain ⟨smS,lS,pS⟩:=x6g (side:=0) (f:=0) (m:=0) (g:=0) hm (.inl ⟨rfl,tk,rfl,rfl⟩)
  have sdS:=z3c smS
  have pb:=z1e λ n hn=>(sdS n hn).1
  refine ⟨turnL ns os,u3 _ _ (up3 _ _ (sl _ _ hp)),sdS,by omega,by omega,FnV.lam (u3 _ _ hfa),λ i:Nat=>cs.getD (plH ns (oldT os (atD (turnL ns os) (i:Int)))).toNat 0,λ i H4 p1 Q' hi s4 hp1 hq=>?_,λ H4 p q s4 hq hp'=>?_⟩
  ·have hcel1:=hcel.same s4
   have tbm:TbAt (minC H4 cl) t ns cs:=z7s hcel1 (((y3h (T:=TT) (tb.same s01) up3).same u3).same s4)
   have hlm:=x3a hcel1 (s4 _ _ (u3 _ _ (up2 _ _ lne hll)))
   have hpm:=z1i hcel1 hp1
   have gd:=z2o sdS (by omega) hi
   have al:=z3n (turnL ns os) i
   replace hq:∀H2,Same H4 H2->Q' (V.int (cs.getD (plH ns (oldT os (atD (turnL ns os) (i:Int)))).toNat 0)) H2:=hq
   generalize atD (turnL ns os) (i:Int)=At at *
   have gf:=y2u tk gd
   refine z6w (k:=5) (N:=["at", "tab", "places"]) (ps:=["at"]) (fv:=["tab", "places"]) (vs:=[V.ref p1]) (vcs:=[.ref t,.ref l]) ⟨rfl,rfl,rfl,by decide +kernel,rfl,fc (.inr rfl) fc0,fc rfl (fc rfl fc0),by decide +kernel,by decide +kernel⟩ o1.1 (λ pm ctv us hl=>by match us,hl with | [u],_=>rfl) rfl (s4 _ _ (u3 _ _ hfa)) (s4 _ _ (u3 _ _ hc2)) hcel1 (λ A outer s hr=>z0g c5cellat hr (by rfl) z0x (z0a (pv 1) (z0a (z1d (z7l (K:=K) rfl) (by rfl) ztuple boot_tuple (z0a (z4j (own:=["place"]) (fv:=["at"]) (js:=[0]) rfl (y9s (K:=K) rfl (pv 2)) rfl (by decide) rfl (by decide) (by first | exact λ _ _ h=>h | exact z3w rfl | exact z3v rfl rfl | exact z3u rfl rfl rfl) (z5x (by rfl)) rfl (x3r (by first | exact ⟨rfl,.inl rfl,.inl rfl⟩ | exact ⟨rfl,.inl rfl,.inr rfl⟩)) (λ _ _ _ _=>(z1b (i:=0) (show (["place", "at"]:List Str).Nodup by decide +kernel) rfl (Or.inl rfl))) (λ _ _ _ _=>(z1c z0r (pv 1) (pv 0) (λ _ _=>rfl)))) z0b)) z0b))) ?_
   wp_walk using tSeq,tIfS,inV,eqV,spcellat
   have tl:(turnL ns os).length=os.length:=List.length_map ..
   refine CompL.mk (xs:=(List.range os.length).map λ s:Nat=>V.int ((os.idxOf (s:Int):Nat):Int)) (.of hlm) (λ i ys σ G=>G=minC H4 cl/\i≤os.length/\ys=((oldT os At).take i).map V.int/\∃y,σ=[y,some (.ref p1)]) ⟨rfl,Nat.zero_le _,rfl,_,rfl⟩ (λ i ys σ G _ h=>by rw [h.1];exact .of hlm) (λ i x ys σ G ex h=>?_) (λ ys σ G h p2 hp2=>?_)
   ·obtain ⟨rfl,il,rfl,y,rfl⟩:=h
    have i1:i < os.length:=by have:=(List.getElem?_eq_some_iff.mp ex).1;rwa [List.length_map,List.length_range] at this
    rw [List.getElem?_map,List.getElem?_range i1] at ex
    cases (Option.some.inj ex)
    have xl:=List.idxOf_lt_length_iff.mpr (z2j tk (s:=i) (by omega))
    have eo:(oldT os At)[i]?=some (At.getD (os.idxOf (i:Int)) 0):=by unfold oldT;rw [List.getElem?_map,List.getElem?_range i1];rfl
    have et:((oldT os At).take (i+1)).map V.int=((oldT os At).take i).map V.int++[V.int (At.getD (os.idxOf (i:Int)) 0)]:=by rw [List.take_add_one,eo,List.map_append];rfl
    refine ⟨by rw [List.length_map,List.length_take];exact z0z (by omega),?_⟩
    wp_walk using tSeq,tIfS,inV,eqV,et
    exact ⟨_,hpm,_,z3h (by omega),i1,rfl,_,rfl⟩
   ·obtain ⟨rfl,il,rfl,y,rfl⟩:=h
    rw [List.length_map,List.length_range,List.take_of_length_le (by unfold oldT;rw [List.length_map,List.length_range];exact Nat.le_refl _)]
    exact ⟨p2,rfl,_,.inl ⟨.of z0h,λ l3 hl3=>⟨ns,cs,(tbm.same (z0e hp2 _)).same (z0e hl3 _),oldT os At,rfl,hs,by omega,gf,csl,λ G2 s3=>hq _ (z4a ((z0e hp2 _).trans ((z0e hl3 _).trans s3)))⟩⟩⟩
  ·have hb':=z3g fr eq3 s4
   have hc4:=hcel.same s4
   exact q2 tk _ p (λ b o n e=>hb' _ _ (up2 _ _ n (s01 _ _ e))) (ht2.same hb') ⟨_,_,z1i hc4 hp',hb' _ _ (up3 _ _ (sl _ _ hp)),z1i hc4 hq⟩
abbrev sflip:Stmt:=top 50
theorem x4h:FnScope ["tab", "side", "sides"] ["tab", "side"] (defScope sflip):=⟨rfl,rfl,rfl,by decide +kernel,rfl,by decide +kernel,by decide +kernel⟩
theorem x5k (F:Fun K "flip" "flip" sflip f fd) {c:Addr}(hcd:fd.code=.ref c) (TF:TabF base mg c TP) {CNoSide:Addr}(nNoSide:W.nsIn K mainGlobals "NoSide" = some (some (.ref CNoSide))) (ctableby:Callee P w K mg base CX0 (7) "table_by" ["sides", "number_at"] (sptableby P w K mg base)) (cflippedsides:Callee P w K mg base (CX1 P w) (7) "flipped_sides" ["sides", "side"] (spflip CNoSide)) (c5cellat:Callee P w K mg base CX0 5 "cell_at" ["tab", "at"] spcellat) (c5changedat:Callee P w K mg base CX0 5 "changed_at" ["row", "k", "number"] spchangedat):FnOk P w K mg base (CX1 P w) (8) f fd ["tab", "side"] ((spflipT TP CNoSide)):=by
 have sc:=x4h
 refine F.okTX hcd sc (λ vs H Q E h=>?_) (λ A outer s H vs Q E hr h=>?_)
 ·obtain ⟨t,ns,cs,side,rfl,_⟩:=h;rfl
 obtain ⟨t,ns,cs,side,rfl,tb,hm,h20,p5,csl,ht,q1,q2⟩:=h
 have own:OwnCl (envOfC "flip" (defScope sflip) s.heap.objs.size f (.ref c)).cells ["tab", "sides", "side"] [("tab",s.heap.objs.size+1),("sides",s.heap.objs.size+3),("side",s.heap.objs.size+2)]:=⟨rfl,(fc rfl (fc rfl (fc rfl fc0)))⟩
 refine ⟨_,(z0c (z0n (i:=2) sc.nd rfl (by first | exact Or.inl rfl | exact Or.inr rfl) (z0g cflippedsides hr (by rfl) z1k (z0a (z1c z0r (pv 0) z0f (λ _ _=>rfl)) (z0a (pv 1) z0b)))) (z0d (z0j (z5p (fv:=["tab", "sides", "side"]) (js:=[0,2,1]) ctableby hr (by rfl) own rfl (fc rfl (fc rfl (fc rfl fc0))) (fc rfl (fc rfl (fc rfl fc0))) (by decide +kernel) (z0a (pv 2) (z0a (z9o (qual := "flip.<locals>.<lambda>") (fv:=["tab", "sides", "side"]) (cl:=[("tab",s.heap.objs.size+1),("sides",s.heap.objs.size+3),("side",s.heap.objs.size+2)]) rfl rfl TF rfl rfl own) z0b)))))),?_⟩
 generalize (cxOf _ _ _ _ _ _ _ _ _ _ _ _ _ _ _ _).env.cells=ec
 wp_walk using tSeq,tIfS,inV,eqV,spflip,sptableby
 obtain ⟨sa,ca,tt,ta,tc⟩:=id tb
 refine ⟨_,tt,_,z0v (j:=0) rfl,_,rfl,ns,ta,λ o=>q1 o _ (Same.refl _),λ no=>⟨ht,λ fa c' cl H2 o1 ffa hfa hc2 ht2 up2=>⟨[.ref t,.ref sa,.int side],by simp,λ cl' H3 o2 fr hcel eq3=>?_⟩⟩⟩
 cases OwnCl.uniq o1 o2
 replace q2:=q2 no
 obtain ⟨k,rfl,hk⟩:=y1s no
 simp only [Int.toNat_natCast] at q2
 have up3:∀a xs,H a=some (.tup xs)->H2 a=some (.tup xs):=λ a xs e=>up2 _ _ (z7n ht e) e
 have u3:=z4n fr eq3
 have hs:=z3c hm
 have po:=z1e λ n hn=>(hs n hn).1
 refine ⟨ns,u3 _ _ (up3 _ _ ta),hs,by omega,by omega,FnV.lam (u3 _ _ hfa),λ i:Nat=>cs.getD (plH ns (flipF ns k (atD ns (i:Int)))).toNat 0,λ i H1 p1 Q' hi s1 hp1 hq=>?_,λ H4 p q s4 hq hp'=>?_⟩
 ·have hcel1:=hcel.same s1
  have tbm:TbAt (minC H1 cl) t ns cs:=z7s hcel1 (((y3h (T:=TP) tb up3).same u3).same s1)
  have tam:=z1i hcel1 (s1 _ _ (u3 _ _ (up3 _ _ ta)))
  have hpm:=z1i hcel1 hp1
  have gd:=z2o hs (by omega) hi
  have al:=z3n ns i
  replace hq:∀H2,Same H1 H2->Q' (V.int (cs.getD (plH ns (flipF ns k (atD ns (i:Int)))).toNat 0)) H2:=hq
  generalize atD ns (i:Int)=At at *
  have gf:=z9x hk gd
  refine z6w (k:=5) (N:=["at", "tab", "sides", "side"]) (ps:=["at"]) (fv:=["tab", "sides", "side"]) (vs:=[V.ref p1]) (vcs:=[.ref t,.ref sa,.int k]) ⟨rfl,rfl,rfl,by decide +kernel,rfl,fc (.inl rfl) fc0,fc rfl (fc rfl (fc rfl fc0)),by decide +kernel,by decide +kernel⟩ o1.1 (λ pm ctv us hl=>by match us,hl with | [u],_=>rfl) rfl (s1 _ _ (u3 _ _ hfa)) (s1 _ _ (u3 _ _ hc2)) hcel1 (λ A outer s hr=>z0g c5cellat hr (by rfl) z0x (z0a (pv 1) (z0a (z0g c5changedat hr (by rfl) z0x (z0a (pv 0) (z0a (pv 3) (z0a (z0q z2w (z0q z2w (z1c z0r (pv 2) (pv 3) (λ _ _=>rfl)) z0f) (z1c z0r (pv 0) (pv 3) (λ _ _=>rfl))) z0b)))) z0b))) ?_
  wp_walk using tSeq,tIfS,inV,eqV,spcellat,spchangedat
  exact ⟨_,tam,_,z3h hk,_,rfl,_,hpm,_,z3h (by omega),_,rfl,At,k,rfl,hpm,by omega,by omega,λ G p2 s2 h2=>⟨ns,cs,tbm.same s2,_,h2,hs,by omega,gf,csl,λ G2 s3=>hq _ (z4a (s2.trans s3))⟩⟩
 ·have hb:=z3g fr eq3 s4
  have hc4:=hcel.same s4
  exact q2 _ p (λ b o n e=>hb _ _ (up2 _ _ n (e))) (ht2.same hb) ⟨_,_,z1i hc4 hp',hb _ _ (up3 _ _ ta),z1i hc4 hq⟩
abbrev scut:Stmt:=top 51
theorem x6t:FnScope ["tab", "side", "first", "many", "step", "sides"] ["tab", "side", "first", "many", "step"] (defScope scut):=⟨rfl,rfl,rfl,by decide +kernel,rfl,by decide +kernel,by decide +kernel⟩
theorem x7c (F:Fun K "cut" "cut" scut f fd) {c:Addr}(hcd:fd.code=.ref c) (TF:TabF base mg c TU) {CNoSide:Addr}(nNoSide:W.nsIn K mainGlobals "NoSide" = some (some (.ref CNoSide))) {CBeyond:Addr}(nBeyond:W.nsIn K mainGlobals "Beyond" = some (some (.ref CBeyond))) (ctableby:Callee P w K mg base CX0 (7) "table_by" ["sides", "number_at"] (sptableby P w K mg base)) (ccutsides:Callee P w K mg base (CX1 P w) (7) "cut_sides" ["sides", "side", "first", "many", "step"] (spcut CNoSide CBeyond)) (c5cellat:Callee P w K mg base CX0 5 "cell_at" ["tab", "at"] spcellat) (c5changedat:Callee P w K mg base CX0 5 "changed_at" ["row", "k", "number"] spchangedat):FnOk P w K mg base (CX1 P w) (8) f fd ["tab", "side", "first", "many", "step"] ((spcutT TU CNoSide CBeyond)):=by
 have sc:=x6t
 refine F.okTX hcd sc (λ vs H Q E h=>?_) (λ A outer s H vs Q E hr h=>?_)
 ·obtain ⟨t,ns,cs,side,f,m,g,rfl,_⟩:=h;rfl
 obtain ⟨t,ns,cs,side,ff,mm,gg,rfl,tb,hm,h20,p5,csl,m0,m1,ht,q1,q2,q3⟩:=h
 have own:OwnCl (envOfC "cut" (defScope scut) s.heap.objs.size f (.ref c)).cells ["tab", "step", "side", "first"] [("tab",s.heap.objs.size+1),("step",s.heap.objs.size+4),("side",s.heap.objs.size+2),("first",s.heap.objs.size+3)]:=⟨rfl,(fc rfl (fc rfl (fc rfl (fc rfl fc0))))⟩
 refine ⟨_,(z0c (z0n (i:=5) sc.nd rfl (by first | exact Or.inl rfl | exact Or.inr rfl) (z0g ccutsides hr (by rfl) z1k (z0a (z1c z0r (pv 0) z0f (λ _ _=>rfl)) (z0a (pv 1) (z0a (pv 2) (z0a (pv 3) (z0a (pv 4) z0b))))))) (z0d (z0j (z5p (fv:=["tab", "step", "side", "first"]) (js:=[0,4,1,2]) ctableby hr (by rfl) own rfl (fc rfl (fc rfl (fc rfl (fc rfl fc0)))) (fc rfl (fc rfl (fc rfl (fc rfl fc0)))) (by decide +kernel) (z0a (pv 5) (z0a (z9o (qual := "cut.<locals>.<lambda>") (fv:=["tab", "step", "side", "first"]) (cl:=[("tab",s.heap.objs.size+1),("step",s.heap.objs.size+4),("side",s.heap.objs.size+2),("first",s.heap.objs.size+3)]) rfl rfl TF rfl rfl own) z0b)))))),?_⟩
 generalize (cxOf _ _ _ _ _ _ _ _ _ _ _ _ _ _ _ _).env.cells=ec
 wp_walk using tSeq,tIfS,inV,eqV,spcut,sptableby
 obtain ⟨sa,ca,tt,ta,tc⟩:=id tb
 refine ⟨_,tt,_,z0v (j:=0) rfl,_,rfl,ns,ta,by omega,m0,m1,λ o=>q1 o _ (Same.refl _),λ no b=>q2 no b _ (Same.refl _),λ no nb H0 p s0 hp=>⟨ht.same s0,λ fa c' cl H2 o1 ffa hfa hc2 ht2 up2=>⟨[.ref t,.int gg,.int side,.int ff],by simp,λ cl' H3 o2 fr hcel eq3=>?_⟩⟩⟩
 cases OwnCl.uniq o1 o2
 replace q3:=q3 no nb
 obtain ⟨k,rfl,hk⟩:=y1s no
 simp only [Int.toNat_natCast] at q3 hp
 have ht0:=ht.same s0
 have up3:∀a xs,H0 a=some (.tup xs)->H2 a=some (.tup xs):=λ a xs e=>up2 _ _ (z7n ht0 e) e
 have u3:=z4n fr eq3
 have hs:=z3c hm
 have nn:∀n∈ns,0≤n:=λ n hn=>(hs n hn).1
 have nk:=hm _ (z1x hk)
 have cm:=y2w nk.1 nb
 have sdA:=z3c (x1p (k:=k) hm cm.1 (show mm≤1000000 by omega))
 have po:=z1e λ n hn=>(sdA n hn).1
 have so:=z3z (k:=k) nn cm.1 cm.2
 have li:(ns.set k mm).length=ns.length:=List.length_set ..
 refine ⟨ns.set k mm,u3 _ _ (up3 _ _ hp),sdA,by omega,by omega,FnV.lam (u3 _ _ hfa),λ i:Nat=>cs.getD (plH ns (cutF k ff gg (atD (ns.set k mm) (i:Int)))).toNat 0,λ i H1 p1 Q' hi s1 hp1 hq=>?_,λ H4 p q s4 hq hp'=>?_⟩
 ·have hcel1:=hcel.same s1
  have tbm:TbAt (minC H1 cl) t ns cs:=z7s hcel1 (((y3h (T:=TU) (tb.same s0) up3).same u3).same s1)
  have hpm:=z1i hcel1 hp1
  have gd:=z2o sdA (by omega) hi
  have al:=z3n (ns.set k mm) i
  replace hq:∀H2,Same H1 H2->Q' (V.int (cs.getD (plH ns (cutF k ff gg (atD (ns.set k mm) (i:Int)))).toNat 0)) H2:=hq
  generalize atD (ns.set k mm) (i:Int)=At at *
  have gf:=x0z hk nb gd
  have ab:=gd.2 k _ _ (z1w (by omega)) (List.getElem?_set_self hk)
  refine z6w (k:=5) (N:=["at", "tab", "step", "side", "first"]) (ps:=["at"]) (fv:=["tab", "step", "side", "first"]) (vs:=[V.ref p1]) (vcs:=[.ref t,.int gg,.int k,.int ff]) ⟨rfl,rfl,rfl,by decide +kernel,rfl,fc (.inl rfl) fc0,fc rfl (fc rfl (fc rfl (fc rfl fc0))),by decide +kernel,by decide +kernel⟩ o1.1 (λ pm ctv us hl=>by match us,hl with | [u],_=>rfl) rfl (s1 _ _ (u3 _ _ hfa)) (s1 _ _ (u3 _ _ hc2)) hcel1 (λ A outer s hr=>z0g c5cellat hr (by rfl) z0x (z0a (pv 1) (z0a (z0g c5changedat hr (by rfl) z0x (z0a (pv 0) (z0a (pv 3) (z0a (z0q z1s (pv 4) (z0q z3q (z1c z0r (pv 0) (pv 3) (λ _ _=>rfl)) (pv 2))) z0b)))) z0b))) ?_
  wp_walk using tSeq,tIfS,inV,eqV,spcellat,spchangedat
  exact ⟨_,hpm,_,z3h (by omega),_,rfl,.inl ⟨by omega,by omega⟩,At,k,rfl,hpm,by omega,by omega,λ G p2 s2 h2=>⟨ns,cs,tbm.same s2,_,h2,hs,by omega,gf,csl,λ G2 s3=>hq _ (z4a (s2.trans s3))⟩⟩
 ·have hb:=z3g fr eq3 s4
  have hc4:=hcel.same s4
  exact q3 _ p (λ b o n e=>hb _ _ (up2 _ _ n (s0 _ _ e))) (ht2.same hb) ⟨_,_,z1i hc4 hp',hb _ _ (up3 _ _ hp),z1i hc4 hq⟩
abbrev sspread:Stmt:=top 52
theorem y9k:FnScope ["tab", "side", "many", "sides"] ["tab", "side", "many"] (defScope sspread):=⟨rfl,rfl,rfl,by decide +kernel,rfl,by decide +kernel,by decide +kernel⟩
theorem y9w (F:Fun K "spread" "spread" sspread f fd) {c:Addr}(hcd:fd.code=.ref c) (TF:TabF base mg c TS) {CNoSide:Addr}(nNoSide:W.nsIn K mainGlobals "NoSide" = some (some (.ref CNoSide))) {CBeyond:Addr}(nBeyond:W.nsIn K mainGlobals "Beyond" = some (some (.ref CBeyond))) {CTooLarge:Addr}(nTooLarge:W.nsIn K mainGlobals "TooLarge" = some (some (.ref CTooLarge))) (ctableby:Callee P w K mg base CX0 (7) "table_by" ["sides", "number_at"] (sptableby P w K mg base)) (cspreadsides:Callee P w K mg base (CX1 P w) (7) "spread_sides" ["sides", "side", "many"] (spspr CNoSide CBeyond CTooLarge)) (c5cellat:Callee P w K mg base CX0 5 "cell_at" ["tab", "at"] spcellat) (c5droppedat:Callee P w K mg base CX0 5 "dropped_at" ["row", "k"] spdroppedat):FnOk P w K mg base (CX1 P w) (8) f fd ["tab", "side", "many"] ((spspreadT TS CNoSide CBeyond CTooLarge)):=by
 have sc:=y9k
 refine F.okTX hcd sc (λ vs H Q E h=>?_) (λ A outer s H vs Q E hr h=>?_)
 ·obtain ⟨t,ns,cs,side,many,rfl,_⟩:=h;rfl
 obtain ⟨t,ns,cs,side,many,rfl,tb,hs,h20,csl,hmany,ht,q1,q2,q3,q4⟩:=h
 have own:OwnCl (envOfC "spread" (defScope sspread) s.heap.objs.size f (.ref c)).cells ["tab", "side"] [("tab",s.heap.objs.size+1),("side",s.heap.objs.size+2)]:=⟨rfl,(fc rfl (fc rfl fc0))⟩
 refine ⟨_,(z0c (z0n (i:=3) sc.nd rfl (by first | exact Or.inl rfl | exact Or.inr rfl) (z0g cspreadsides hr (by rfl) z1k (z0a (z1c z0r (pv 0) z0f (λ _ _=>rfl)) (z0a (pv 1) (z0a (pv 2) z0b))))) (z0d (z0j (z5p (fv:=["tab", "side"]) (js:=[0,1]) ctableby hr (by rfl) own rfl (fc rfl (fc rfl fc0)) (fc rfl (fc rfl fc0)) (by decide +kernel) (z0a (pv 3) (z0a (z9o (qual := "spread.<locals>.<lambda>") (fv:=["tab", "side"]) (cl:=[("tab",s.heap.objs.size+1),("side",s.heap.objs.size+2)]) rfl rfl TF rfl rfl own) z0b)))))),?_⟩
 generalize (cxOf _ _ _ _ _ _ _ _ _ _ _ _ _ _ _ _).env.cells=ec
 wp_walk using tSeq,tIfS,inV,eqV,spspr,sptableby
 obtain ⟨sa,ca,tt,ta,tc⟩:=id tb
 refine ⟨_,tt,_,z0v (j:=0) rfl,_,rfl,ns,ta,hs,h20,hmany,λ e=>q1 e _ (Same.refl _),λ e z=>q2 e z _ (Same.refl _),q3,λ no nn nb H0 p s0 hp=>⟨ht.same s0,λ fa c' cl H2 o1 ffa hfa hc2 ht2 up2=>⟨[.ref t,.int side],by simp,λ cl' H3 o2 fr hcel eq3=>?_⟩⟩⟩
 cases OwnCl.uniq o1 o2
 have q5:=q4 no nn nb
 unfold off1 at no
 obtain ⟨k,rfl⟩:∃k:Nat,side=k:=⟨side.toNat,by omega⟩
 simp only [Int.toNat_natCast] at nb hp q5
 have ht0:=ht.same s0
 have up3:∀a xs,H0 a=some (.tup xs)->H2 a=some (.tup xs):=λ a xs e=>up2 _ _ (z7n ht0 e) e
 have u3:=z4n fr eq3
 have sdA:=x1v (k:=k) hs (by omega) hmany
 have pb:=z1e λ n hn=>(sdA n hn).1
 have nb':=nb
 unfold bigI at nb'
 have li:=z1y ns k many
 refine ⟨_,u3 _ _ (up3 _ _ hp),sdA,by omega,by omega,FnV.lam (u3 _ _ hfa),sprV ns cs k many,λ i H1 p1 Q' hi s1 hp1 hq=>?_,λ H4 p q s4 hq hp'=>?_⟩
 ·have hcel1:=hcel.same s1
  have tbm:TbAt (minC H1 cl) t ns cs:=z7s hcel1 (((y3h (T:=TS) (tb.same s0) up3).same u3).same s1)
  have hpm:=z1i hcel1 hp1
  have gd:=z7u k (z2o sdA (by omega) hi)
  rw [z3f (by omega)] at gd
  have al:=z3n (insL ns k many) i
  refine z6w (k:=5) (N:=["at", "tab", "side"]) (ps:=["at"]) (fv:=["tab", "side"]) (vs:=[V.ref p1]) (vcs:=[.ref t,.int k]) ⟨rfl,rfl,rfl,by decide +kernel,rfl,fc (.inl rfl) fc0,fc rfl (fc rfl fc0),by decide +kernel,by decide +kernel⟩ o1.1 (λ pm ctv us hl=>by match us,hl with | [u],_=>rfl) rfl (s1 _ _ (u3 _ _ hfa)) (s1 _ _ (u3 _ _ hc2)) hcel1 (λ A outer s hr=>z0g c5cellat hr (by rfl) z0x (z0a (pv 1) (z0a (z0g c5droppedat hr (by rfl) z0x (z0a (pv 0) (z0a (pv 2) z0b))) z0b))) ?_
  wp_walk using tSeq,tIfS,inV,eqV,spcellat,spdroppedat
  exact ⟨_,k,rfl,hpm,by omega,by omega,λ G p2 s2 h2=>⟨ns,cs,tbm.same s2,_,h2,hs,by omega,gd,csl,λ G2 s3=>hq _ (z4a (s2.trans s3))⟩⟩
 ·have hb:=z3g fr eq3 s4
  have hc4:=hcel.same s4
  exact q5 _ p (λ b o n e=>hb _ _ (up2 _ _ n (s0 _ _ e))) (ht2.same hb) ⟨_,_,z1i hc4 hp',hb _ _ (up3 _ _ hp),z1i hc4 hq⟩
abbrev slay:Stmt:=top 53
theorem x6r:FnScope ["tab", "sides"] ["tab", "sides"] (defScope slay):=⟨rfl,rfl,rfl,by decide +kernel,rfl,by decide +kernel,by decide +kernel⟩
theorem x7a (F:Fun K "lay" "lay" slay f fd) {CTooLarge:Addr}(nTooLarge:W.nsIn K mainGlobals "TooLarge" = some (some (.ref CTooLarge))) {CUnlike:Addr}(nUnlike:W.nsIn K mainGlobals "Unlike" = some (some (.ref CUnlike))) (claidsides:Callee P w K mg base (CX1 P w) (4) "laid_sides" ["sides", "others"] (splaid CTooLarge CUnlike)):FnOk P w K mg base (CX1 P w) (5) f fd ["tab", "sides"] ((splayT CTooLarge CUnlike)):=by
 have sc:=x6r
 refine F.okX sc (λ vs H Q E h=>?_) (λ cdv A outer s H vs Q E hr h=>?_)
 ·obtain ⟨t,b,ns,cs,ms,rfl,_⟩:=h;rfl
 obtain ⟨t,b,ns,cs,ms,rfl,⟨sa,ca,tt,ta,tc⟩,hb,hs,hm,hl,q1,q2,q3⟩:=h
 refine ⟨_,(z0d (z0j (z2s (z0a (z0g claidsides hr (by rfl) z1k (z0a (z1c z0r (pv 0) z0f (λ _ _=>rfl)) (z0a (pv 1) z0b))) (z0a (z1c z0r (pv 0) z0f (λ _ _=>rfl)) z0b))))),?_⟩
 wp_walk using tSeq,tIfS,inV,eqV,splaid
 refine ⟨_,tt,_,z0v (j:=0) rfl,_,rfl,ns,ta,ms,hb,hs,hm,hl,q1,q2,λ nb e H' s'=>⟨_,s' _ _ tt,_,z0v (j:=1) rfl,small (by decide),λ p hp=>?_⟩⟩
 exact q3 nb e _ p (s'.trans (z0e hp _)) ⟨_,_,z0h,z0e hp _ _ _ (s' _ _ hb),z0e hp _ _ _ (s' _ _ tc)⟩
abbrev slawwhole:Stmt:=top 55
def splawwhole:Sp:=λ vs H Q _=>∃(n:Int),vs=[.int n]/\Q (.bl true) H
theorem y3m:FnScope ["found"] ["found"] (defScope slawwhole):=⟨rfl,rfl,rfl,by decide +kernel,rfl,by decide +kernel,by decide +kernel⟩
theorem y3w (F:Fun K "_law_whole" "_law_whole" slawwhole f fd) (zisinstance:mg "isinstance" = none) (zint:mg "int" = none) (zbool:mg "bool" = none):FnOk P w K mg base CX0 (1) f fd ["found"] (splawwhole):=by
 have sc:=y3m
 refine F.ok sc (λ vs H Q E h=>?_) (λ cdv A outer s H vs Q E hr h=>?_)
 ·obtain ⟨n,rfl,_⟩:=h;rfl
 obtain ⟨n,rfl,q⟩:=h
 refine ⟨_,(z0d (z0j (x4w (z0s y0d (by rfl) zisinstance boot_isinstance (z0a (pv 0) (z0a (z6s (v:=.ty "int") (by rfl) zint boot_int rfl) z0b))) (x4t (x4u (z0s y0d (by rfl) zisinstance boot_isinstance (z0a (pv 0) (z0a (z6s (v:=.ty "bool") (by rfl) zbool boot_bool rfl) z0b)))))))),?_⟩
 wp_walk using tSeq,tIfS,inV,eqV
 exact q
abbrev slawcellat:Stmt:=top 56
def splawcellat:W.Frag->Sp:=λ K=>λ vs H Q _=>∃(a:Addr) (ns:List Int) (k:Nat),vs=[.ref a,.int k]/\SqL K H a (ns.map V.int)/\Q (.int (cellI ns k)) H
theorem y0u:FnScope ["script", "k"] ["script", "k"] (defScope slawcellat):=⟨rfl,rfl,rfl,by decide +kernel,rfl,by decide +kernel,by decide +kernel⟩
theorem y1g (F:Fun K "_law_cell_at" "_law_cell_at" slawcellat f fd) (zlen:mg "len" = none):FnOk P w K mg base CX0 (1) f fd ["script", "k"] ((splawcellat K)):=by
 have sc:=y0u
 refine F.ok sc (λ vs H Q E h=>?_) (λ cdv A outer s H vs Q E hr h=>?_)
 ·obtain ⟨a,ns,k,rfl,_⟩:=h;rfl
 obtain ⟨a,ns,k,rfl,hS,q⟩:=h
 refine ⟨_,(z0c (z1f (z0k z7f (pv 1) (z0s z0m (by rfl) zlen PySem.boot_len (z0a (pv 0) z0b)) (z0t _)) (z0d (z0j (z1c z6x (pv 0) (pv 1) (λ _ _=>rfl)))) z0o) (z0d (z0j z0f))),?_⟩
 wp_walk using tSeq,tIfS,inV,eqV
 refine ⟨_,.inl hS,?_⟩
 rw [z0l]
 unfold cellI at q
 by_cases c:k < ns.length
 ·rw [if_pos (by omega)]
  exact ⟨_,hS,_,z0v (j:=k) (by rw [List.getElem?_map,List.getElem?_eq_getElem c];rfl),by rw [List.getD_eq_getElem?_getD,List.getElem?_eq_getElem c] at q;exact q⟩
 ·rw [if_neg (by omega)]
  rw [List.getD_eq_getElem?_getD,List.getElem?_eq_none (by omega)] at q
  exact q
abbrev slawsides:Stmt:=top 57
def splawsides:W.Frag->Sp:=λ K=>λ vs H Q _=>∃(a:Addr) (ns:List Int) (k:Nat),vs=[.ref a,.int k]/\SqL K H a (ns.map V.int)/\∀H' p ms,Same H H'->fit ms->H' p=some (.tup (ms.map V.int))->Q (.ref p) H'
theorem y3n:FnScope ["script", "at", "sides", "free", "k", "cell", "length"] ["script", "at"] (defScope slawsides):=⟨rfl,rfl,rfl,by decide +kernel,rfl,by decide +kernel,by decide +kernel⟩
theorem y3x (F:Fun K "_law_sides" "_law_sides" slawsides f fd) (clawcellat:Callee P w K mg base CX0 (1) "_law_cell_at" ["script", "k"] (splawcellat K)) (zrange:mg "range" = none) (zmin:mg "min" = none) (zmax:mg "max" = none):FnOk P w K mg base CX0 (2) f fd ["script", "at"] ((splawsides K)):=by
 have sc:=y3n
 refine F.ok sc (λ vs H Q E h=>?_) (λ cdv A outer s H vs Q E hr h=>?_)
 ·obtain ⟨a,ns,k,rfl,_⟩:=h;rfl
 obtain ⟨a,ns,k,rfl,hS,q⟩:=h
 refine ⟨_,(z0c (z0n (i:=2) sc.nd rfl (by first | exact Or.inl rfl | exact Or.inr rfl) (z2s z0b)) (z0c (z0n (i:=3) sc.nd rfl (by first | exact Or.inl rfl | exact Or.inr rfl) z0f) (z0c (z2r PassesOwn.never rfl (z3e (by rfl) zrange (z0a (z0q z2x (z0g clawcellat hr (by rfl) z0x (z0a (pv 0) (z0a (pv 1) z0b))) z0f) z0b)) (z1b (i:=4) sc.nd rfl (Or.inl rfl)) (z0c (z0n (i:=5) sc.nd rfl (by first | exact Or.inl rfl | exact Or.inr rfl) (z0g clawcellat hr (by rfl) z0x (z0a (pv 0) (z0a (z0q z1s (z0q z1s (pv 1) z0f) (pv 4)) z0b)))) (z0c (z0n (i:=6) sc.nd rfl (by first | exact Or.inl rfl | exact Or.inr rfl) (z0q z1s z0f (z0q z2x (pv 5) (z0s (z7a rfl) (by rfl) zmin boot_min (z0a z0f (z0a (pv 3) z0b)))))) (z0c (z1f (z0k z2f (z0q z2x (pv 5) z0f) z0f (z0t _)) (z0d (z0n (i:=6) sc.nd rfl (by first | exact Or.inl rfl | exact Or.inr rfl) (z0q z1s z0f (z0q z2x (z0q z5q (pv 5) z0f) (pv 3))))) z0o) (z0c (z1f (z0k z2f (z0q z2x (pv 5) z0f) z0f (z0t _)) (z0d (z0n (i:=6) sc.nd rfl (by first | exact Or.inl rfl | exact Or.inr rfl) z0f)) z0o) (z0c (z0n (i:=2) sc.nd rfl (by first | exact Or.inl rfl | exact Or.inr rfl) (z0q z3k (pv 2) (z2s (z0a (pv 6) z0b)))) (z0d (z0n (i:=3) sc.nd rfl (by first | exact Or.inl rfl | exact Or.inr rfl) (z0q z5q (pv 3) (z0s (z5k rfl) (by rfl) zmax boot_max (z0a z0f (z0a (pv 6) z0b)))))))))))) (z0d (z0j (pv 2)))))),?_⟩
 wp_walk using tSeq,tIfS,inV,eqV,splawcellat
 refine ⟨small (by decide),λ p hp=>⟨ns,k,rfl,(z0e hp _).seq hS,by omega,by omega,?_⟩⟩
 have s0:=z0e hp (.tup [])
 have g0:upd H p (.tup []) p=some (.tup (([]:List Int).map V.int)):=z0h
 generalize upd H p (.tup [])=H0 at *
 have n7:(cellI ns k % 7).toNat≤6:=by omega
 refine LoopR.mk (λ i σ H'=>Same H H'/\∃(p':Addr) (ms:List Int) (free:Int) (y4 y5 y6:Option V),σ=[some (.ref a),some (.int k),some (.ref p'),some (.int free),y4,y5,y6]/\grow ms free i/\H' p'=some (.tup (ms.map V.int))/\i≤6) ⟨s0,p,[],512,_,_,_,rfl,⟨(λ n hn=>nomatch hn),rfl,by decide,by decide,by decide,by decide⟩,g0,by omega⟩ (λ i σ H' hi h=>?_) (λ σ H' h=>?_)
 ·obtain ⟨h1,p',ms,free,y4,y5,y6,rfl,hg,hp',i6⟩:=h
  have f0:=hg.2.2.1
  have f1:=hg.2.2.2.1
  have e1:(k:Int)+1+(0+(i:Int))=((k+1+i:Nat):Int):=by omega
  simp only [gName,List.set_cons_succ,List.set_cons_zero]
  refine z0i (λ σ G=>G=H'/\∃c:Int,σ=[some (.ref a),some (.int k),some (.ref p'),some (.int free),some (.int (0+(i:Int))),some (.int c),y6]) ?_ (λ R hR=>?_)
  rotate_left
  ·wp_walk using tSeq,tIfS,inV,eqV,splawcellat,e1
   exact ⟨ns,k+1+i,rfl,h1.seq hS,hR _ _ ⟨rfl,_,rfl⟩⟩
  rintro σ1 G1 ⟨rfl,c,rfl⟩
  refine z0i (λ σ G=>G=G1/\∃m:Int,0≤m/\m≤free/\σ=[some (.ref a),some (.int k),some (.ref p'),some (.int free),some (.int (0+(i:Int))),some (.int c),some (.int m)]) ?_ (λ R hR=>?_)
  rotate_left
  ·wp_walk using tSeq,tIfS,inV,eqV
   have c4:0 < (if free < 4 then free else 4)/\(if free < 4 then free else 4)≤free:=by split<;>omega
   generalize (if free < 4 then free else 4)=f4 at *
   have d0:=Int.emod_nonneg c (show f4≠0 by omega)
   have d1:=Int.emod_lt_of_pos c c4.1
   exact ⟨c4.1,hR _ _ ⟨rfl,_,by omega,by omega,rfl⟩⟩
  rintro σ2 G2 ⟨rfl,m2,a20,a21,rfl⟩
  refine z0i (λ σ G=>G=G2/\∃m:Int,0≤m/\m≤free/\σ=[some (.ref a),some (.int k),some (.ref p'),some (.int free),some (.int (0+(i:Int))),some (.int c),some (.int m)]) ?_ (λ R hR=>?_)
  rotate_left
  ·wp_walk using tSeq,tIfS,inV,eqV
   have d2:=Int.emod_nonneg (c / 7) (show free≠0 by omega)
   have d3:=Int.emod_lt_of_pos (c / 7) (show 0 < free by omega)
   split
   ·exact ⟨by omega,hR _ _ ⟨rfl,_,by omega,by omega,rfl⟩⟩
   ·exact hR _ _ ⟨rfl,_,a20,a21,rfl⟩
  rintro σ3 G3 ⟨rfl,m3,a30,a31,rfl⟩
  refine z0i (λ σ G=>G=G3/\∃m:Int,0≤m/\m≤free/\σ=[some (.ref a),some (.int k),some (.ref p'),some (.int free),some (.int (0+(i:Int))),some (.int c),some (.int m)]) ?_ (λ R hR=>?_)
  rotate_left
  ·wp_walk using tSeq,tIfS,inV,eqV
   split
   ·exact hR _ _ ⟨rfl,_,Int.le_refl _,by omega,rfl⟩
   ·exact hR _ _ ⟨rfl,_,a30,a31,rfl⟩
  rintro σ4 G4 ⟨rfl,m,m0,m1,rfl⟩
  wp_walk using tSeq,tIfS,inV,eqV
  refine ⟨small (by decide),λ p2 hp2=>⟨_,z0e hp2 _ _ _ hp',by rw [z0l,hg.2.1];exact small (by omega),λ r H2 s2 hr=>?_⟩⟩
  rw [x1t m0]
  have o1:1≤one1 m/\one1 m≤512:=by unfold one1;split<;>omega
  exact ⟨by omega,by omega,h1.trans ((z0e hp2 _).trans s2),ms++[m],y7n hg m0 m1,by rw [hr,List.map_append];rfl,by omega⟩
 ·obtain ⟨h1,p',ms,free,y4,y5,y6,rfl,hg,hp',i6⟩:=h
  wp_walk using tSeq,tIfS,inV,eqV
  exact q _ _ ms h1 (x0k hg n7) hp'
abbrev slawissides:Stmt:=top 58
def splawissides:Sp:=λ vs H Q _=>∃(a b:Addr) (ns:List Int),vs=[.ref a,.ref b]/\H a=some (.tup (ns.map V.int))/\RwI H b ns/\ns.length≤512/\Q (.bl true) H
theorem z9i:FnScope ["found", "due", "k"] ["found", "due"] (defScope slawissides):=⟨rfl,rfl,rfl,by decide +kernel,rfl,by decide +kernel,by decide +kernel⟩
theorem z9r (F:Fun K "_law_is_sides" "_law_is_sides" slawissides f fd) (clawwhole:Callee P w K mg base CX0 (1) "_law_whole" ["found"] splawwhole) (zisinstance:mg "isinstance" = none) (ztuple:mg "tuple" = none) (zlen:mg "len" = none) (zrange:mg "range" = none):FnOk P w K mg base CX0 (2) f fd ["found", "due"] (splawissides):=by
 have sc:=z9i
 refine F.ok sc (λ vs H Q E h=>?_) (λ cdv A outer s H vs Q E hr h=>?_)
 ·obtain ⟨a,b,ns,rfl,_⟩:=h;rfl
 obtain ⟨a,b,ns,rfl,ha,hb,h63,q⟩:=h
 refine ⟨_,(z0c (z1f (PW.pt (z6q (z3d (z2u (z0s z5t (by rfl) zisinstance boot_isinstance (z0a (pv 0) (z0a (z6s (v:=.ty "tuple") (by rfl) ztuple boot_tuple rfl) z0b))))) (z5b (z0k z8n (z0s z0m (by rfl) zlen PySem.boot_len (z0a (pv 0) z0b)) (z0s z0m (by rfl) zlen PySem.boot_len (z0a (pv 1) z0b)) (z0t _))))) (z0d (z0j z4d)) z0o) (z0c (z2r PassesOwn.never rfl (z3e (by rfl) zrange (z0a (z0s z0m (by rfl) zlen PySem.boot_len (z0a (pv 1) z0b)) z0b)) (z1b (i:=2) sc.nd rfl (Or.inl rfl)) (z0d (z1f (PW.pt (z6q (z3d (z2u (z0g clawwhole hr (by rfl) z0x (z0a (z1c z0r (pv 0) (pv 2) (λ _ _=>rfl)) z0b)))) (z5b (z0k z8n (z1c z0r (pv 0) (pv 2) (λ _ _=>rfl)) (z1c x3d (pv 1) (pv 2) (λ _ _=>rfl)) (z0t _))))) (z0d (z0j z4d)) z0o))) (z0d (z0j z4d)))),?_⟩
 wp_walk using tSeq,tIfS,inV,eqV
 refine ⟨_,ha,_,.inr (.of ha),_,hb.imp .of .of,?_⟩
 rw [z0l,if_neg (by simp)]
 refine ⟨_,hb.imp .of .of,by rw [z0l];omega,by rw [z0l];omega,?_⟩
 rw [z0l,Int.toNat_natCast]
 refine LoopR.mk (λ i σ H'=>H'=H/\∃y,σ=[some (.ref a),some (.ref b),y]) ⟨rfl,_,rfl⟩ (λ i σ H' hi h=>?_) (λ σ H' h=>?_)
 ·obtain ⟨h1,y,rfl⟩:=h
  subst h1
  have e1:=z3h (ns:=ns) hi
  wp_walk using tSeq,tIfS,inV,eqV,splawwhole,Int.zero_add
  refine ⟨_,ha,_,e1,_,rfl,_,ha,_,e1,_,hb,_,e1,rfl,?_⟩
  rw [if_neg (by simp)]
  exact ⟨_,rfl⟩
 ·obtain ⟨h1,y,rfl⟩:=h
  subst h1
  wp_walk using tSeq,tIfS,inV,eqV
  exact q
abbrev slawsize:Stmt:=top 59
def splawsize:Sp:=λ vs H Q _=>∃(a:Addr) (ns:List Int),vs=[.ref a]/\H a=some (.tup (ns.map V.int))/\sdOk ns/\Q (.int (prodI ns)) H
theorem y5l:FnScope ["sides", "size", "length"] ["sides"] (defScope slawsize):=⟨rfl,rfl,rfl,by decide +kernel,rfl,by decide +kernel,by decide +kernel⟩
theorem y6l (F:Fun K "_law_size" "_law_size" slawsize f fd):FnOk P w K mg base CX0 (1) f fd ["sides"] (splawsize):=by
 have sc:=y5l
 refine F.ok sc (λ vs H Q E h=>?_) (λ cdv A outer s H vs Q E hr h=>?_)
 ·obtain ⟨a,ns,rfl,_⟩:=h;rfl
 obtain ⟨a,ns,rfl,ha,hs,q⟩:=h
 refine ⟨_,(z0c (z0n (i:=1) sc.nd rfl (by first | exact Or.inl rfl | exact Or.inr rfl) z0f) (z0c (z2r PassesOwn.never rfl (z7r (pv 0)) (z1b (i:=2) sc.nd rfl (Or.inl rfl)) (z0d (z0n (i:=1) sc.nd rfl (by first | exact Or.inl rfl | exact Or.inr rfl) (z0q z3q (pv 1) (pv 2))))) (z0d (z0j (pv 1))))),?_⟩
 wp_walk using tSeq,tIfS,inV,eqV
 refine LoopT.mk (xs:=ns.map V.int) (.of ha) (λ i σ H'=>H'=H/\∃y,σ=[some (.ref a),some (.int (prodI (ns.take i))),y]) ⟨rfl,_,rfl⟩ (λ i σ H' _ h=>by rw [h.1];exact .of ha) (λ i x σ H' e h=>?_) (λ σ H' h=>?_)
 ·obtain ⟨h1,y,rfl⟩:=h
  subst h1
  obtain ⟨m,rfl,hm,m0,m1⟩:=y0o hs e
  wp_walk using tSeq,tIfS,inV,eqV
  rw [z5c hm]
  exact ⟨.inr ⟨by omega,by omega⟩,rfl,_,rfl⟩
 ·obtain ⟨h1,y,rfl⟩:=h
  subst h1
  wp_walk using tSeq,tIfS,inV,eqV
  rw [z0l,List.take_length]
  exact q
abbrev slawnumber:Stmt:=top 60
def splawnumber:Sp:=λ vs H Q _=>∃n:Int,vs=[.int n]/\∀H',Same H H'->Q (.int (numI n)) H'
theorem y0t:FnScope ["n"] ["n"] (defScope slawnumber):=⟨rfl,rfl,rfl,by decide +kernel,rfl,by decide +kernel,by decide +kernel⟩
theorem y1f (F:Fun K "_law_number" "_law_number" slawnumber f fd):FnOk P w K mg base CX0 (1) f fd ["n"] (splawnumber):=by
 have sc:=y0t
 refine F.ok sc (λ vs H Q E h=>?_) (λ cdv A outer s H vs Q E hr h=>?_)
 ·obtain ⟨n,rfl,_⟩:=h;rfl
 obtain ⟨n,rfl,q⟩:=h
 refine ⟨_,(z0c (z1f (z0k z2f (z0q z2x (pv 0) z0f) z0f (z0t _)) (z0d (z0j (z1c z6x (z6r (z0a (x2q y4q (z0q z6u z0f z0f)) (z0a (z0q z2w (z0q z6u z0f z0f) z0f) (z0a (x2q y4q z0f) (z0a (z0q z6u z0f z0f) z0b))))) (z0q z2x (z0q z5q (pv 0) z0f) z0f) (λ _ _=>rfl)))) z0o) (z0d (z0j (z0q z2w (z0q z2x (z0q z1s (pv 0) (z0q z6u z0f z0f)) (z0q z6u z0f z0f)) (z0q z6u z0f z0f))))),?_⟩
 wp_walk using tSeq,tIfS,inV,eqV
 unfold numI at q
 by_cases c1:n % 17=5
 ·rw [if_pos c1]
  rw [if_pos c1] at q
  refine ⟨small (by decide),λ p hp=>⟨_,.of z0h,_,?_,q _ (z0e hp _)⟩⟩
  exact y0h (r:=[-9223372036854775808,9223372036854775807,-1,4611686018427387904]) (by omega) (by rw [List.getD_eq_getElem?_getD,List.getElem?_eq_getElem (show _ < 4 by omega)];rfl)
 ·rw [if_neg c1]
  rw [if_neg c1] at q
  exact q _ (Same.refl _)
abbrev slawcells:Stmt:=top 61
def splawcells:W.Frag->Sp:=λ K=>λ vs H Q _=>∃(a:Addr) (ns:List Int) (b z:Nat) (salt:Int),vs=[.ref a,.int b,.int z,.int salt]/\SqL K H a (ns.map V.int)/\ns.length≤63/\b≤100/\z≤512/\0≤salt/\salt≤100000000/\∀H' p (cs:List Int),Same H H'->H' p=some (.tup (cs.map V.int))->cs.length=z->(∀c∈cs,inB c)->Q (.ref p) H'
theorem y3p:FnScope ["script", "begin", "size", "salt", "made", "count", "k", "n"] ["script", "begin", "size", "salt"] (defScope slawcells):=⟨rfl,rfl,rfl,by decide +kernel,rfl,by decide +kernel,by decide +kernel⟩
theorem y3z (F:Fun K "_law_cells" "_law_cells" slawcells f fd) (clawnumber:Callee P w K mg base CX0 (1) "_law_number" ["n"] splawnumber) (zmax:mg "max" = none) (zlen:mg "len" = none) (zrange:mg "range" = none) (ztuple:mg "tuple" = none):FnOk P w K mg base CX0 (2) f fd ["script", "begin", "size", "salt"] ((splawcells K)):=by
 have sc:=y3p
 refine F.ok sc (λ vs H Q E h=>?_) (λ cdv A outer s H vs Q E hr h=>?_)
 ·obtain ⟨a,ns,b,z,salt,rfl,_⟩:=h;rfl
 obtain ⟨a,ns,b,z,salt,rfl,hS,h63,hb,hz,s0,s1,q⟩:=h
 refine ⟨_,(z0c (z0n (i:=4) sc.nd rfl (by first | exact Or.inl rfl | exact Or.inr rfl) (z6r z0b)) (z0c (z0n (i:=5) sc.nd rfl (by first | exact Or.inl rfl | exact Or.inr rfl) (z0s (z5k rfl) (by rfl) zmax boot_max (z0a z0f (z0a (z0s z0m (by rfl) zlen PySem.boot_len (z0a (pv 0) z0b)) z0b)))) (z0c (z2r PassesOwn.never rfl (z3e (by rfl) zrange (z0a (pv 2) z0b)) (z1b (i:=6) sc.nd rfl (Or.inl rfl)) (z0c (z0n (i:=7) sc.nd rfl (by first | exact Or.inl rfl | exact Or.inr rfl) (z0q z1s (z0q z3q (pv 6) (pv 3)) (z0q z3q (z0q z3q (z0q z5g (pv 6) (pv 5)) (z0q z5g (pv 6) (pv 5))) z0f))) (z0c (z1f (z0k z7g (z0s z0m (by rfl) zlen PySem.boot_len (z0a (pv 0) z0b)) z0f (z0t _)) (z0d (z0n (i:=7) sc.nd rfl (by first | exact Or.inl rfl | exact Or.inr rfl) (z0q z1s (pv 7) (z1c z6x (pv 0) (z0q z3j (z0q z1s (pv 1) (pv 6)) (pv 5)) (λ _ _=>rfl))))) z0o) (z0d (z3a (y2i (pv 4) (z0g clawnumber hr (by rfl) z0x (z0a (pv 7) z0b)))))))) (z0d (z0j (z1d z1n (by rfl) ztuple boot_tuple (z0a (pv 4) z0b))))))),?_⟩
 wp_walk using inV,eqV,splawnumber
 refine z0i (λ σ G=>∃p,G=upd H p (HO.lst [])/\H p=none/\σ=[some (.ref a),some (.int b),some (.int z),some (.int salt),some (.ref p),none,none,none]) ?_ (λ R hR=>?_)
 rotate_left
 ·wp_walk using tSeq,tIfS,inV,eqV
  exact ⟨small (by decide),λ p hp=>hR _ _ ⟨p,rfl,hp,rfl⟩⟩
 rintro σ1 G1 ⟨p,rfl,hp,rfl⟩
 obtain ⟨cN,hcn,c1,c2,c3⟩:∃cN:Nat,(if (ns.length:Int) > 1 then (ns.length:Int) else 1)=(cN:Int)/\1≤cN/\(ns.length=0\/cN=ns.length)/\cN≤63:=by
  by_cases h:(ns.length:Int) > 1
  ·exact ⟨ns.length,by rw [if_pos h],by omega,.inr rfl,by omega⟩
  ·exact ⟨1,by rw [if_neg h];rfl,by omega,by omega,by omega⟩
 refine z0i (λ σ G=>G=upd H p (HO.lst [])/\σ=[some (.ref a),some (.int b),some (.int z),some (.int salt),some (.ref p),some (.int cN),none,none]) ?_ (λ R hR=>?_)
 rotate_left
 ·wp_walk using tSeq,tIfS,inV,eqV
  refine ⟨_,.inl ((z0e hp _).seq hS),?_⟩
  rw [z0l,hcn]
  exact hR _ _ ⟨rfl,rfl⟩
 rintro σ2 G2 ⟨rfl,rfl⟩
 refine z0i (λ σ G=>∃(cs:List Int) (y6 y7:Option V),Same H G/\G p=some (.lst (cs.map V.int))/\cs.length=z/\(∀c∈cs,inB c)/\σ=[some (.ref a),some (.int b),some (.int z),some (.int salt),some (.ref p),some (.int cN),y6,y7]) ?_ (λ R hR=>?_)
 rotate_left
 ·wp_walk using inV,eqV
  refine ⟨by omega,by omega,?_⟩
  rw [Int.toNat_natCast]
  refine LoopR.mk (λ i σ G=>∃(cs:List Int) (y6 y7:Option V),Same H G/\G p=some (.lst (cs.map V.int))/\cs.length=i/\(∀c∈cs,inB c)/\σ=[some (.ref a),some (.int b),some (.int z),some (.int salt),some (.ref p),some (.int cN),y6,y7]) ⟨[],_,_,z0e hp _,z0h,rfl,fc0,rfl⟩ (λ i σ G hi h=>?_) (λ σ G h=>hR _ _ h)
  obtain ⟨cs,y6,y7,sG,gp,cl,cb,rfl⟩:=h
  simp only [gName,List.set_cons_succ,List.set_cons_zero,Int.zero_add]
  refine z0i (λ σ G'=>G'=G/\∃v:Int,σ=[some (.ref a),some (.int b),some (.int z),some (.int salt),some (.ref p),some (.int cN),some (.int i),some (.int v)]) ?_ (λ R2 hR2=>?_)
  rotate_left
  ·wp_walk using tSeq,tIfS,inV,eqV
   have dv:(i:Int).fdiv cN=(i:Int) / cN:=Int.fdiv_eq_ediv_of_nonneg _ (by omega)
   have d0:0≤(i:Int) / cN:=Int.ediv_nonneg (by omega) (by omega)
   have d1:(i:Int) / cN≤i:=Int.ediv_le_self _ (by omega)
   rw [dv]
   exact ⟨.inl ⟨by omega,by omega⟩,by omega,by omega,by omega,by omega,by omega,by omega,.inl ⟨by omega,by omega⟩,hR2 _ _ ⟨rfl,_,rfl⟩⟩
  rintro σ3 G3 ⟨rfl,v0,rfl⟩
  refine z0i (λ σ G'=>G'=G3/\∃v:Int,σ=[some (.ref a),some (.int b),some (.int z),some (.int salt),some (.ref p),some (.int cN),some (.int i),some (.int v)]) ?_ (λ R2 hR2=>?_)
  rotate_left
  ·wp_walk using tSeq,tIfS,inV,eqV
   refine ⟨_,.inl (sG.seq hS),?_⟩
   rw [z0l]
   split
   ·have m0:=Int.fmod_nonneg (a:=(b:Int)+i) (b:=cN) (by omega) (by omega)
    have m1:=Int.fmod_lt_of_pos ((b:Int)+i) (show (0:Int) < cN by omega)
    generalize ((b:Int)+i).fmod cN=mm at *
    have lt:mm.toNat < ns.length:=by omega
    exact ⟨by omega,_,sG.seq hS,_,y0h (r:=ns) m0 (List.getElem?_eq_getElem lt),_,rfl,hR2 _ _ ⟨rfl,_,rfl⟩⟩
   ·exact hR2 _ _ ⟨rfl,_,rfl⟩
  rintro σ4 G4 ⟨rfl,v1,rfl⟩
  wp_walk using tSeq,tIfS,inV,eqV,splawnumber
  refine ⟨⟨_,gp⟩,λ G5 s5=>⟨_,s5 _ _ gp,by rw [List.length_map];exact z0z (by omega),λ b o e=>?_,cs++[numI v1],by rw [List.map_append];rfl,by rw [List.length_append,cl];rfl,(λ c hc=>(List.mem_append.mp hc).elim (cb c) λ z=>by cases List.mem_singleton.mp z;exact x5n _),_,rfl⟩⟩
  rw [z0p (λ z=>by rw [z,hp] at e;cases e)]
  exact s5 _ _ (sG _ _ e)
 rintro σ3 G3 ⟨cs,y6,y7,s3,g3,l3,b3,rfl⟩
 wp_walk using tSeq,tIfS,inV,eqV
 exact ⟨_,.inl ⟨.of g3,λ l hl=>q _ l cs (s3.trans (z0e hl _)) z0h l3 b3⟩⟩
abbrev slaworder:Stmt:=top 62
def splaworder:W.Frag->Sp:=λ K=>λ vs H Q _=>∃(a:Addr) (ns:List Int) (t c:Nat),vs=[.ref a,.int t,.int c]/\SqL K H a (ns.map V.int)/\c≤6/\∀H' p (os:List Int),Same H H'->H' p=some (.lst (os.map V.int))->turnOk c os->Q (.ref p) H'
theorem y3o:FnScope ["script", "at", "count", "order", "k", "j", "kept"] ["script", "at", "count"] (defScope slaworder):=⟨rfl,rfl,rfl,by decide +kernel,rfl,by decide +kernel,by decide +kernel⟩
theorem y3y (F:Fun K "_law_order" "_law_order" slaworder f fd) (clawcellat:Callee P w K mg base CX0 (1) "_law_cell_at" ["script", "k"] (splawcellat K)) (zlist:mg "list" = none) (zrange:mg "range" = none):FnOk P w K mg base CX0 (2) f fd ["script", "at", "count"] ((splaworder K)):=by
 have sc:=y3o
 refine F.ok sc (λ vs H Q E h=>?_) (λ cdv A outer s H vs Q E hr h=>?_)
 ·obtain ⟨a,ns,t,c,rfl,_⟩:=h;rfl
 obtain ⟨a,ns,t,c,rfl,hS,hc,q⟩:=h
 refine ⟨_,(z0c (z0n (i:=3) sc.nd rfl (by first | exact Or.inl rfl | exact Or.inr rfl) (z1d (z5y rfl) (by rfl) zlist boot_list (z0a (z1d z6z (by rfl) zrange boot_range (z0a (pv 2) z0b)) z0b))) (z0c (z2r PassesOwn.never rfl (y6c (by rfl) zrange (z0a z0f (z0a (pv 2) z0b))) (z1b (i:=4) sc.nd rfl (Or.inl rfl)) (z0c (z0n (i:=5) sc.nd rfl (by first | exact Or.inl rfl | exact Or.inr rfl) (z0q z2x (z0g clawcellat hr (by rfl) z0x (z0a (pv 0) (z0a (z0q z1s (pv 1) (pv 4)) z0b))) (z0q z1s (pv 4) z0f))) (z0c (z0n (i:=6) sc.nd rfl (by first | exact Or.inl rfl | exact Or.inr rfl) (z1c z6e (pv 3) (pv 5) (λ _ _=>rfl))) (z0c (x1q (z1c z6e (pv 3) (pv 4) (λ _ _=>rfl)) (x1r (pv 3) (pv 5) y2b)) (z0d (x1q (pv 6) (x1r (pv 3) (pv 4) y2b))))))) (z0d (z0j (pv 3))))),?_⟩
 wp_walk using tSeq,tIfS,inV,eqV
 intro r hr
 refine ⟨c,rfl,by omega,λ l hl=>⟨by omega,by omega,?_⟩⟩
 have t2:=(z0e hr (.rng 0 (c:Int))).trans (z0e hl (.lst ((upL c).map V.int)))
 have g2:upd (upd H r (.rng 0 (c:Int))) l (.lst ((upL c).map V.int)) l=some (.lst ((upL c).map V.int)):=z0h
 have Hl:H l=none:=(z0e hr _).free hl
 have sl0:∀ {G:Hp},Same H G->∀o,Same H (upd G l o):=λ {G} sg o b' u e=>by rw [z0p (λ z=>by rw [z,Hl] at e;cases e)];exact sg _ _ e
 generalize upd (upd H r (.rng 0 (c:Int))) l (.lst ((upL c).map V.int))=H2 at *
 refine LoopR.mk (λ i σ H'=>Same H H'/\∃(os:List Int) (y4 y5 y6:Option V),H' l=some (.lst (os.map V.int))/\turnOk c os/\σ=[some (.ref a),some (.int (t:Nat)),some (.int (c:Nat)),some (.ref l),y4,y5,y6]) ⟨t2,upL c,_,_,_,g2,List.Perm.refl _,rfl⟩ (λ i σ H' hi h=>?_) (λ σ H' h=>?_)
 ·obtain ⟨h1,os,y4,y5,y6,h2,lo,rfl⟩:=h
  wp_walk using tSeq,tIfS,inV,eqV,splawcellat
  refine ⟨ns,t+(1+i),by omega,h1.seq hS,by omega,?_⟩
  have e1:(1:Int)+(i:Int)+1=((i+2:Nat):Int):=by omega
  rw [e1]
  obtain ⟨j,jb,ej⟩:=x5w (cellI ns (t+(1+i))) (n:=i+2) (by omega)
  rw [ej,show (1:Int)+(i:Int)=((1+i:Nat):Int) by omega]
  have ol:=z2t lo
  have b1:j < os.length:=by omega
  have b2:1+i < os.length:=by omega
  refine ⟨_,h2,_,z3h b1,_,h2,_,z3h b2,_,h2,j,by rw [z0l];exact y7h b1,1+i,by rw [List.length_set,z0l];exact y7h b2,sl0 (sl0 h1 _) _,(os.set j (os.getD (1+i) 0)).set (1+i) (os.getD j 0),by rw [List.map_set,List.map_set],(y5d b1 b2).trans lo,_,rfl⟩
 ·obtain ⟨h1,os,y4,y5,y6,h2,lo,rfl⟩:=h
  wp_walk using tSeq,tIfS,inV,eqV
  exact q _ _ os h1 h2 lo
abbrev slawalike:Stmt:=top 63
def splawalike:Sp:=λ vs H Q _=>∃(f g b:Addr) (ns cs:List Int),vs=[.ref f,.ref g,.ref b]/\TbAt H f ns cs/\TbAt H g ns cs/\H b=some (.tup (ns.map V.int))/\sdOk ns/\ns.length≤512/\(cs.length:Int)=prodI ns/\∀H',Same H H'->Q (.bl true) H'
theorem y3q:FnScope ["found", "other", "sides", "one", "n"] ["found", "other", "sides"] (defScope slawalike):=⟨rfl,rfl,rfl,by decide +kernel,rfl,by decide +kernel,by decide +kernel⟩
theorem y4a (F:Fun K "_law_alike" "_law_alike" slawalike f fd) (clawissides:Callee P w K mg base CX0 (2) "_law_is_sides" ["found", "due"] splawissides) (clawsize:Callee P w K mg base CX0 (2) "_law_size" ["sides"] splawsize) (clawwhole:Callee P w K mg base CX0 (2) "_law_whole" ["found"] splawwhole) (zisinstance:mg "isinstance" = none) (ztuple:mg "tuple" = none) (zlen:mg "len" = none):FnOk P w K mg base CX0 (3) f fd ["found", "other", "sides"] (splawalike):=by
 have sc:=y3q
 refine F.ok sc (λ vs H Q E h=>?_) (λ cdv A outer s H vs Q E hr h=>?_)
 ·obtain ⟨f,g,b,ns,cs,rfl,_⟩:=h;rfl
 obtain ⟨f,g,b,ns,cs,rfl,tf,tg,hb,hs,l1,cl,q⟩:=h
 refine ⟨_,(z0c (z2r PassesOwn.never rfl (z5n (z6r (z0a (pv 0) (z0a (pv 1) z0b)))) (z1b (i:=3) sc.nd rfl (Or.inl rfl)) (z0c (z1f (PW.pt (z6q (z3d (z2u (z0s z5t (by rfl) zisinstance boot_isinstance (z0a (pv 3) (z0a (z6s (v:=.ty "tuple") (by rfl) ztuple boot_tuple rfl) z0b))))) (z6q (z0k z8n (z0s z0m (by rfl) zlen PySem.boot_len (z0a (pv 3) z0b)) z0f (z0t _)) (z5b (z3d (z2u (z0g clawissides hr (by rfl) z0x (z0a (z1c z0r (pv 3) z0f (λ _ _=>rfl)) (z0a (pv 2) z0b))))))))) (z0d (z0j z4d)) z0o) (z0c (z1f (PW.pt (z6q (z3d (z2u (z0s z5t (by rfl) zisinstance boot_isinstance (z0a (z1c z0r (pv 3) z0f (λ _ _=>rfl)) (z0a (z6s (v:=.ty "tuple") (by rfl) ztuple boot_tuple rfl) z0b))))) (z5b (z0k z8n (z0s z0m (by rfl) zlen PySem.boot_len (z0a (z1c z0r (pv 3) z0f (λ _ _=>rfl)) z0b)) (z0g clawsize hr (by rfl) z0x (z0a (pv 2) z0b)) (z0t _))))) (z0d (z0j z4d)) z0o) (z0d (z2r PassesOwn.never rfl (z7r (z1c z0r (pv 3) z0f (λ _ _=>rfl))) (z1b (i:=4) sc.nd rfl (Or.inl rfl)) (z0d (z1f (z3d (z2u (z0g clawwhole hr (by rfl) z0x (z0a (pv 4) z0b)))) (z0d (z0j z4d)) z0o))))))) (z0d (z0j (z4k (x5c hr.units0) (z1c z0r (pv 0) z0f (λ _ _=>rfl)) (z1c z0r (pv 1) z0f (λ _ _=>rfl)) (z0t _))))),?_⟩
 simp only [L2.start,List.length_cons,List.length_nil,List.replicate,List.cons_append,List.nil_append,Nat.reduceSub,Nat.reduceAdd,List.map_cons,List.map_nil]
 refine z0i (λ σ G=>Same H G/\∃y z,σ=[some (.ref f),some (.ref g),some (.ref b),y,z]) ?_ (λ R hR=>?_)
 rotate_left
 ·wp_walk using tIfS,inV,eqV
  refine ⟨small (by decide),λ l hl=>?_⟩
  have s0:=z0e hl (.lst [V.ref f,V.ref g])
  refine LoopL.mk (xs:=[V.ref f,V.ref g]) (.of z0h) (λ i σ G=>Same H G/\G l=some (.lst [V.ref f,V.ref g])/\∃y z,σ=[some (.ref f),some (.ref g),some (.ref b),y,z]) ⟨s0,z0h,_,_,rfl⟩ (λ i σ G _ h=>.of h.2.1) (λ i x σ G ex h=>?_) (λ σ G h=>hR _ _ ⟨h.1,h.2.2⟩)
  obtain ⟨sG,hl',y,z,rfl⟩:=h
  obtain ⟨e,rfl,te⟩:∃e,x=.ref e/\TbAt H e ns cs:=by
   match i,ex with
   | 0,ex=>cases ex;exact ⟨_,rfl,tf⟩
   | 1,ex=>cases ex;exact ⟨_,rfl,tg⟩
  obtain ⟨sa,ca,h1,h2,h3⟩:=te.same sG
  have hb1:=sG _ _ hb
  simp only [gName,List.set_cons_succ,List.set_cons_zero]
  refine z0i (λ σ G'=>G'=G/\σ=[some (.ref f),some (.ref g),some (.ref b),some (.ref e),z]) ?_ (λ R2 hR2=>?_)
  rotate_left
  ·wp_walk using tSeq,tIfS,inV,eqV,splawissides
   refine ⟨_,h1,_,.inr (.of h1),?_⟩
   rw [if_neg (λ z=>z rfl)]
   exact ⟨_,h1,_,z0v (j:=0) rfl,_,rfl,ns,h2,.inr hb1,l1,hR2 _ _ ⟨rfl,rfl⟩⟩
  rintro σ1 G1 ⟨rfl,rfl⟩
  refine z0i (λ σ G'=>G'=G1/\σ=[some (.ref f),some (.ref g),some (.ref b),some (.ref e),z]) ?_ (λ R2 hR2=>?_)
  rotate_left
  ·wp_walk using tSeq,tIfS,inV,eqV,splawsize
   refine ⟨_,h1,_,z0v (j:=1) rfl,_,rfl,_,h3,_,h1,_,z0v (j:=1) rfl,_,rfl,_,.inr (.of h3),ns,hb1,hs,?_⟩
   rw [z0l,if_neg (λ z=>z cl)]
   exact hR2 _ _ ⟨rfl,rfl⟩
  rintro σ2 G2 ⟨rfl,rfl⟩
  wp_walk using tSeq,tIfS,inV,eqV
  refine ⟨_,h1,_,z0v (j:=1) rfl,?_⟩
  refine LoopT.mk (xs:=cs.map V.int) (.of h3) (λ i σ G=>G=G2/\∃z,σ=[some (.ref f),some (.ref g),some (.ref b),some (.ref e),z]) ⟨rfl,_,rfl⟩ (λ i σ G _ h=>by rw [h.1];exact .of h3) (λ i x σ G ex h=>?_) (λ σ G h=>?_)
  ·obtain ⟨rfl,z,rfl⟩:=h
   obtain ⟨c,rfl,hc⟩:=z3r ex
   wp_walk using tSeq,tIfS,inV,eqV,splawwhole
   exact ⟨_,rfl⟩
  ·obtain ⟨rfl,z,rfl⟩:=h
   exact ⟨sG,hl',_,_,rfl⟩
 rintro σ1 G1 ⟨s1,y,z,rfl⟩
 obtain ⟨sa,ca,h1,h2,h3⟩:=tf.same s1
 obtain ⟨sb,cb,g1,g2,g3⟩:=tg.same s1
 wp_walk using tSeq,tIfS,inV,eqV
 refine ⟨_,h1,_,z0v (j:=1) rfl,_,g1,_,z0v (j:=1) rfl,_,rfl,_,rfl,_,.of h3,_,.of g3,z2i _,z2i _,?_⟩
 rw [z5i,decide_eq_true rfl]
 exact q _ s1
abbrev slawwithout:Stmt:=top 64
def splawwithout:Sp:=λ vs H Q _=>∃(a:Addr) (ns:List Int) (k:Nat),vs=[.ref a,.int (k:Int)]/\H a=some (.tup (ns.map V.int))/\ns.length≤60/\∀H' p,Same H H'->H' p=some (.tup ((ns.eraseIdx k).map V.int))->Q (.ref p) H'
theorem z9h:FnScope ["sides", "side"] ["sides", "side"] (defScope slawwithout):=⟨rfl,rfl,rfl,by decide +kernel,rfl,by decide +kernel,by decide +kernel⟩
theorem z9q (F:Fun K "_law_without" "_law_without" slawwithout f fd):FnOk P w K mg base CX0 (1) f fd ["sides", "side"] (splawwithout):=by
 have sc:=z9h
 refine F.ok sc (λ vs H Q E h=>?_) (λ cdv A outer s H vs Q E hr h=>?_)
 ·obtain ⟨a,ns,k,rfl,_⟩:=h;rfl
 obtain ⟨a,ns,k,rfl,ha,l60,q⟩:=h
 refine ⟨_,(z0d (z0j (z0q z3k (z1v z3p (pv 0) z2l (z2k (pv 1))) (z1v z3p (pv 0) (z2k (z0q z1s (pv 1) z0f)) z2l)))),?_⟩
 have ck:((k:Int)+1)=((k+1:Nat):Int):=rfl
 wp_walk using tSeq,tIfS,inV,eqV,ck
 refine ⟨_,ha,λ r1 H1 s1 h1=>⟨_,s1 _ _ ha,λ r3 H3 s3 h3=>⟨_,s3 _ _ h1,_,h3,?_,λ r4 H4 s4 h4=>q _ r4 (s1.trans (s3.trans s4)) ?_⟩⟩⟩
 ·exact x7p l60
 ·rw [h4,z3b,z4c,← List.map_append,← List.eraseIdx_eq_take_drop_succ]
abbrev slawturned:Stmt:=top 65
theorem y0r:FnScope ["word", "tab", "side", "order", "kept", "less", "sides"] ["word", "tab", "side", "order", "kept"] (defScope slawturned):=⟨rfl,rfl,rfl,by decide +kernel,rfl,by decide +kernel,by decide +kernel⟩
theorem y1d (F:Fun K "_law_turned" "_law_turned" slawturned f fd) {CNoWord:Addr}(nNoWord:W.nsIn K mainGlobals "NoWord" = some (some (.ref CNoWord))) {CNoSide:Addr}(nNoSide:W.nsIn K mainGlobals "NoSide" = some (some (.ref CNoSide))) (clawalike:Callee P w K mg base CX0 (9) "_law_alike" ["found", "other", "sides"] splawalike) (cfold:Callee P w K mg base (CX1 P w) (9) "fold" ["word", "tab", "side"] (spfoldT TD CNoWord CNoSide)) (cturn:Callee P w K mg base (CX1 P w) (9) "turn" ["tab", "order"] (spturnT TT CNoSide)) (ztuple:mg "tuple" = none) (zint:mg "int" = none) (nd6:((T6 TD TL TT TP TU TS).map λ x=>x.1).Nodup):FnOk P w K mg base CX0 (10) f fd ["word", "tab", "side", "order", "kept"] ((splturned TD TL TT TP TU TS)):=by
 have sc:=y0r
 refine F.ok sc (λ vs H Q E h=>?_) (λ cdv A outer s H vs Q E hr h=>?_)
 ·obtain ⟨wd,t,o,kp,ns,cs,os,k,rfl,_⟩:=h;rfl
 obtain ⟨wd,t,o,kp,ns,cs,os,k,rfl,hw,okw,tb,gt,hk,ho,tk,tkp,hT,q⟩:=h
 refine ⟨_,(z0c (z0n (i:=5) sc.nd rfl (by first | exact Or.inl rfl | exact Or.inr rfl) (z1d z4h (by rfl) ztuple boot_tuple (z0a (y2g (own:=["k"]) (fv:=["side"]) (js:=[2]) rfl (z5n (pv 3)) rfl (by decide) rfl (by decide) (by first | exact λ _ _ h=>h | exact z3w rfl | exact z3v rfl rfl | exact z3u rfl rfl rfl) (z5x (by rfl)) rfl (x3r (by first | exact ⟨rfl,.inl rfl,.inl rfl⟩ | exact ⟨rfl,.inl rfl,.inr rfl⟩)) (λ _ _ _ _=>(z1b (i:=0) (show (["k", "side"]:List Str).Nodup by decide +kernel) rfl (Or.inl rfl))) (λ _ _ _ _=>(z0q z2w (pv 0) (z1d z3x (by rfl) zint boot_int (z0a (z4k z7g (pv 0) (pv 1) (z0t _)) z0b)))) (λ _ _ _ _=>(z0k z8n (pv 0) (pv 1) (z0t _)))) z0b))) (z0c (z0n (i:=6) sc.nd rfl (by first | exact Or.inl rfl | exact Or.inr rfl) (z1d z1n (by rfl) ztuple boot_tuple (z0a (y2g (own:=["k"]) (fv:=["tab", "side"]) (js:=[1,2]) rfl (z5n (pv 3)) rfl (by decide) rfl (by decide) (by first | exact λ _ _ h=>h | exact z3w rfl | exact z3v rfl rfl | exact z3u rfl rfl rfl) (z5x (by rfl)) rfl (x7s (by first | exact ⟨rfl,.inl rfl,.inl rfl⟩ | exact ⟨rfl,.inl rfl,.inr rfl⟩) (by first | exact ⟨rfl,.inl rfl,.inl rfl⟩ | exact ⟨rfl,.inl rfl,.inr rfl⟩)) (λ _ _ _ _=>(z1b (i:=0) (show (["k", "tab", "side"]:List Str).Nodup by decide +kernel) rfl (Or.inl rfl))) (λ _ _ _ _=>(z1c z0r (z1c z0r (pv 1) z0f (λ _ _=>rfl)) (pv 0) (λ _ _=>rfl))) (λ _ _ _ _=>(z0k z8n (pv 0) (pv 2) (z0t _)))) z0b))) (z0d (z0j (z0g clawalike hr (by rfl) z0x (z0a (z0g cfold hr (by rfl) z1l (z0a (pv 0) (z0a (z0g cturn hr (by rfl) z1l (z0a (pv 1) (z0a (z1d z4h (by rfl) ztuple boot_tuple (z0a (pv 3) z0b)) z0b))) (z0a (x6v PySem.F.plainAttrs_list PySem.F.slot_list_index PySem.F.type_list_index x0c (pv 3) (z0a (pv 2) z0b)) z0b)))) (z0a (z0g cturn hr (by rfl) z1l (z0a (pv 4) (z0a (pv 5) z0b))) (z0a (pv 6) z0b)))))))),?_⟩
 simp only [L2.start,List.length_cons,List.length_nil,List.replicate,List.cons_append,List.nil_append,Nat.reduceSub,Nat.reduceAdd,List.map_cons,List.map_nil]
 have ol:=z2t tk
 have n6:=gt.2.1
 refine z0i (λ σ G=>∃ls,Same H G/\Frz G ls (lessL os (k:Int))/\σ=[some (.str wd),some (.ref t),some (.int (k:Int)),some (.ref o),some (.ref kp),some (.ref ls),none]) ?_ (λ R hR=>?_)
 rotate_left
 ·wp_walk using tSeq,tIfS,inV,eqV
  refine CompLI.mk (xs:=os.map V.int) (.of ho) (λ i zs σ G=>Same H G/\zs=(((os.take i).filter (λ x=>decide (x≠(k:Int)))).map (lsF (k:Int))).map V.int/\∃y,σ=[y,some (.int (k:Int))]) ⟨Same.refl _,rfl,_,rfl⟩ (λ i zs σ G il h=>?_) (λ i x zs σ G ex h=>?_) (λ zs σ G h p hp=>?_)
  ·obtain ⟨sG,rfl,_⟩:=h
   exact ⟨.of (sG _ _ ho),by rw [List.length_map,List.length_map];exact z0z (Nat.le_trans (List.length_filter_le ..) (by rw [List.length_take];omega))⟩
  ·obtain ⟨sG,rfl,y,rfl⟩:=h
   obtain ⟨n,rfl,hn⟩:=z3r ex
   rw [z9u (k:Int) hn]
   wp_walk using tSeq,tIfS,inV,eqV
   by_cases c:n=(k:Int)
   ·rw [if_neg (λ z=>z c),if_neg (λ z=>z c),List.append_nil]
    exact ⟨sG,rfl,_,rfl⟩
   ·rw [if_pos c,if_pos c]
    exact ⟨sG,by rw [List.map_append,List.map_append];rfl,_,rfl⟩
  ·obtain ⟨sG,rfl,y,rfl⟩:=h
   rw [z0l,List.take_length]
   exact ⟨p,rfl,_,.of z0h,λ l o' hl hd=>hR _ _ ⟨l,sG.trans ((z0e hp _).trans (z0e hl _)),⟨o',z0h,hd⟩,rfl⟩⟩
 rintro σ1 G1 ⟨ls,s1,hls,rfl⟩
 refine z0i (λ σ G=>∃sd,Same G1 G/\G sd=some (.tup (((os.filter (λ x=>decide (x≠(k:Int)))).map λ x=>ns.getD x.toNat 0).map V.int))/\σ=[some (.str wd),some (.ref t),some (.int (k:Int)),some (.ref o),some (.ref kp),some (.ref ls),some (.ref sd)]) ?_ (λ R hR=>?_)
 rotate_left
 ·obtain ⟨sa,ca,t0,t1,t2⟩:=tb.same s1
  have ho1:=s1 _ _ ho
  wp_walk using tSeq,tIfS,inV,eqV
  refine CompLI.mk (xs:=os.map V.int) (.of ho1) (λ i zs σ G=>Same G1 G/\zs=(((os.take i).filter (λ x=>decide (x≠(k:Int)))).map λ x=>ns.getD x.toNat 0).map V.int/\∃y,σ=[y,some (.ref t),some (.int (k:Int))]) ⟨Same.refl _,rfl,_,rfl⟩ (λ i zs σ G il h=>?_) (λ i x zs σ G ex h=>?_) (λ zs σ G h p hp=>?_)
  ·obtain ⟨sG,rfl,_⟩:=h
   exact ⟨.of (sG _ _ ho1),by rw [List.length_map,List.length_map];exact z0z (Nat.le_trans (List.length_filter_le ..) (by rw [List.length_take];omega))⟩
  ·obtain ⟨sG,rfl,y,rfl⟩:=h
   obtain ⟨n,rfl,hn⟩:=z3r ex
   rw [z9u (k:Int) hn]
   wp_walk using tSeq,tIfS,inV,eqV
   by_cases c:n=(k:Int)
   ·rw [if_neg (λ z=>z c),if_neg (λ z=>z c),List.append_nil]
    exact ⟨sG,rfl,_,rfl⟩
   ·rw [if_pos c,if_pos c]
    have nb:=up_mem.mp (tk.subset (List.mem_of_getElem? hn))
    exact ⟨_,sG _ _ t0,_,z0v (j:=0) rfl,_,rfl,_,sG _ _ t1,_,y0h nb.1 (z1w (by omega)),sG,by rw [List.map_append,List.map_append];rfl,_,rfl⟩
  ·obtain ⟨sG,rfl,y,rfl⟩:=h
   rw [z0l,List.take_length]
   exact ⟨p,rfl,_,.inl ⟨.of z0h,λ l hl=>hR _ _ ⟨l,sG.trans ((z0e hp _).trans (z0e hl _)),z0h,rfl⟩⟩⟩
 rintro σ2 G2 ⟨sd,s2,hsd,rfl⟩
 have s02:=s1.trans s2
 wp_walk using tSeq,tIfS,splawalike,spfoldT,spturnT
 refine ⟨_,.of (s02 _ _ ho),λ l o' hl hd=>?_⟩
 have s3:=s02.trans (z0e hl (.frz o' (.tup (os.map V.int))))
 have T3:=hT.same s3
 refine ⟨ns,cs,tb.same s3,os,⟨o',z0h,hd⟩,gt.1,by omega,by omega,gt.2.2.1,gt.2.2.2.1,T3 _ (by unfold T6;exact List.mem_cons_of_mem _ (List.mem_cons_of_mem _ (List.mem_cons_self))),λ z=>absurd tk z,λ _ H4 p4 s4 t4 tb4=>?_⟩
 obtain ⟨m4,T4⟩:=T3.both nd6 (by unfold T6;exact List.mem_cons_of_mem _ (List.mem_cons_of_mem _ (List.mem_cons_self))) s4 t4
 have m04:=(SmT.of s3).trans m4
 have E:=y4u tk hk
 have G4:=y4x tk gt
 have G5:=z3s hw hk gt
 have tk':turnOk (ns.eraseIdx k).length (lessL os (k:Int)):=by rw [z2b hk];exact z4y tk hk
 have G6:=y4x tk' G5
 have il:os.idxOf (k:Int) < (turnL ns os).length:=by rw [(z2q tk).length_eq,← ol];exact List.idxOf_lt_length_iff.mpr (z2j tk hk)
 obtain ⟨i1,i2⟩:=y7l tk hk
 have z20:∀ {n:Nat},n≤6->n≤20:=λ h=>Nat.le_trans h (by decide)
 have l20:(lessL os (k:Int)).length≤20:=by rw [z2t tk'];exact z20 G5.2.1
 refine ⟨.inl ⟨_,m04.seq (.of ho)⟩,_,m04.seq (.of ho),z2i _,os.idxOf (k:Int),i1,i2,okw,_,_,tb4,G4.1,z20 G4.2.1,G4.2.2.1,G4.2.2.2.1,G4.2.2.2.2,T4 _ (by unfold T6;exact List.mem_cons_self),λ z=>absurd hw z,λ _ z=>absurd z (z1o il),λ _ _ H5 p5 s5 t5 tb5=>?_⟩
 obtain ⟨m5,T5⟩:=T4.both nd6 (by unfold T6;exact List.mem_cons_self) s5 t5
 have m05:=m04.trans m5
 refine ⟨_,_,m05.tb tkp,_,m5.frz (m4.frz ((hls.same s2).same (z0e hl _))),G5.1,z20 G5.2.1,l20,G5.2.2.1,G5.2.2.2.1,T5 _ (by unfold T6;exact List.mem_cons_of_mem _ (List.mem_cons_of_mem _ (List.mem_cons_self))),λ z=>absurd tk' z,λ _ H6 p6 s6 t6 tb6=>?_⟩
 obtain ⟨m6,T6⟩:=T5.both nd6 (by unfold T6;exact List.mem_cons_of_mem _ (List.mem_cons_of_mem _ (List.mem_cons_self))) s6 t6
 rw [Int.toNat_natCast,y4t hw gt tk hk,E.1.trans E.2.symm] at tb5
 rw [← E.2] at hsd
 exact ⟨_,_,m6.tb tb5,tb6,m6.tup (m5.tup (m4.tup (z0e hl _ _ _ hsd))),G6.sd,Nat.le_trans G6.2.1 (by decide),G6.2.2.2.1,λ H7 s7=>q _ ((m05.trans m6).trans (.of s7)) (T6.same s7)⟩
abbrev slawparted:Stmt:=top 66
theorem y0s:FnScope ["word", "tab", "side", "first", "kept", "length", "one", "other", "last"] ["word", "tab", "side", "first", "kept"] (defScope slawparted):=⟨rfl,rfl,rfl,by decide +kernel,rfl,by decide +kernel,by decide +kernel⟩
theorem y1e (F:Fun K "_law_parted" "_law_parted" slawparted f fd) {CNoWord:Addr}(nNoWord:W.nsIn K mainGlobals "NoWord" = some (some (.ref CNoWord))) {CNoSide:Addr}(nNoSide:W.nsIn K mainGlobals "NoSide" = some (some (.ref CNoSide))) {CBeyond:Addr}(nBeyond:W.nsIn K mainGlobals "Beyond" = some (some (.ref CBeyond))) {CUnlike:Addr}(nUnlike:W.nsIn K mainGlobals "Unlike" = some (some (.ref CUnlike))) {CTooLarge:Addr}(nTooLarge:W.nsIn K mainGlobals "TooLarge" = some (some (.ref CTooLarge))) (clawalike:Callee P w K mg base CX0 (9) "_law_alike" ["found", "other", "sides"] splawalike) (cfold:Callee P w K mg base (CX1 P w) (9) "fold" ["word", "tab", "side"] (spfoldT TD CNoWord CNoSide)) (ccut:Callee P w K mg base (CX1 P w) (9) "cut" ["tab", "side", "first", "many", "step"] (spcutT TU CNoSide CBeyond)) (cpair:Callee P w K mg base (CX1 P w) (9) "pair" ["word", "tab", "other"] (sppairG TL CUnlike)) (clawwithout:Callee P w K mg base CX0 (9) "_law_without" ["sides", "side"] splawwithout) (crun:Callee P w K mg base (CX1 P w) (9) "run" ["word", "tab", "side"] (sprunT CNoWord CNoSide)) (clay:Callee P w K mg base (CX1 P w) (9) "lay" ["tab", "sides"] (splayT CTooLarge CUnlike)) (nd6:((T6 TD TL TT TP TU TS).map λ x=>x.1).Nodup):FnOk P w K mg base CX0 (10) f fd ["word", "tab", "side", "first", "kept"] ((splparted TD TL TT TP TU TS)):=by
 have sc:=y0s
 refine F.ok sc (λ vs H Q E h=>?_) (λ cdv A outer s H vs Q E hr h=>?_)
 ·obtain ⟨wd,t,kp,ns,cs,k,ff,rfl,_⟩:=h;rfl
 obtain ⟨wd,t,kp,ns,cs,k,ff,rfl,hw,okw,tb,gt,hk,f0,f1,tkp,hT,q⟩:=h
 refine ⟨_,(z0c (z0n (i:=5) sc.nd rfl (by first | exact Or.inl rfl | exact Or.inr rfl) (z1c z0r (z1c z0r (pv 1) z0f (λ _ _=>rfl)) (pv 2) (λ _ _=>rfl))) (z0c (z0n (i:=6) sc.nd rfl (by first | exact Or.inl rfl | exact Or.inr rfl) (z0g cfold hr (by rfl) z1l (z0a (pv 0) (z0a (z0g ccut hr (by rfl) z1l (z0a (pv 1) (z0a (pv 2) (z0a z0f (z0a (pv 3) (z0a z0f z0b)))))) (z0a (pv 2) z0b))))) (z0c (z0n (i:=7) sc.nd rfl (by first | exact Or.inl rfl | exact Or.inr rfl) (z0g cfold hr (by rfl) z1l (z0a (pv 0) (z0a (z0g ccut hr (by rfl) z1l (z0a (pv 1) (z0a (pv 2) (z0a (pv 3) (z0a (z0q z2w (pv 5) (pv 3)) (z0a z0f z0b)))))) (z0a (pv 2) z0b))))) (z0c (z1f (z3d (z2u (z0g clawalike hr (by rfl) z0x (z0a (z0g cpair hr (by rfl) z1l (z0a (pv 0) (z0a (pv 6) (z0a (pv 7) z0b)))) (z0a (pv 4) (z0a (z0g clawwithout hr (by rfl) z0x (z0a (z1c z0r (pv 1) z0f (λ _ _=>rfl)) (z0a (pv 2) z0b))) z0b)))))) (z0d (z0j z4d)) z0o) (z0c (z1f (z0k z2f (pv 5) z0f (z0t _)) (z0d (z0j z4d)) z0o) (z0c (z0n (i:=8) sc.nd rfl (by first | exact Or.inl rfl | exact Or.inr rfl) (z0g ccut hr (by rfl) z1l (z0a (z0g crun hr (by rfl) z1l (z0a (pv 0) (z0a (pv 1) (z0a (pv 2) z0b)))) (z0a (pv 2) (z0a (z0q z2w (pv 5) z0f) (z0a z0f (z0a z0f z0b))))))) (z0d (z0j (z0g clawalike hr (by rfl) z0x (z0a (z0g clay hr (by rfl) z1l (z0a (pv 8) (z0a (z0g clawwithout hr (by rfl) z0x (z0a (z1c z0r (pv 1) z0f (λ _ _=>rfl)) (z0a (pv 2) z0b))) z0b))) (z0a (pv 4) (z0a (z0g clawwithout hr (by rfl) z0x (z0a (z1c z0r (pv 1) z0f (λ _ _=>rfl)) (z0a (pv 2) z0b))) z0b)))))))))))),?_⟩
 simp only [L2.start,List.length_cons,List.length_nil,List.replicate,List.cons_append,List.nil_append,Nat.reduceSub,Nat.reduceAdd,List.map_cons,List.map_nil]
 have n6:=gt.2.1
 have nb:=gt.at hk
 obtain ⟨ta0,tc0,t0,t1,t2⟩:=id tb
 have G5:=z3s hw hk gt
 have D1:=z7w (f:=0) (m:=ff) hw gt hk f0 f1
 have D2:=z7w (f:=ff) (m:=ns.getD k 0 - ff) hw gt hk (by omega) (by omega)
 refine z0i (λ σ G=>G=H/\σ=[some (.str wd),some (.ref t),some (.int (k:Int)),some (.int ff),some (.ref kp),some (.int (ns.getD k 0)),none,none,none]) ?_ (λ R hR=>?_)
 rotate_left
 ·wp_walk using tSeq,tIfS,inV,eqV
  exact ⟨_,t0,_,z0v (j:=0) rfl,_,rfl,_,t1,_,z3h hk,hR _ _ ⟨rfl,rfl⟩⟩
 rintro σ1 G1 ⟨rfl,rfl⟩
 refine z0i (λ σ G=>∃p1,SmT G1 G/\TabsL (T6 TD TL TT TP TU TS) G/\TbAt G p1 (ns.eraseIdx k) (fldL wd (ns.set k ff) (movC ns cs (ns.set k ff) (cutF k 0 1)) k)/\σ=[some (.str wd),some (.ref t),some (.int (k:Int)),some (.int ff),some (.ref kp),some (.int (ns.getD k 0)),some (.ref p1),none,none]) ?_ (λ R hR=>?_)
 rotate_left
 ·wp_walk using tSeq,tIfS,inV,eqV,spcutT,spfoldT
  refine ⟨ns,cs,tb,gt.1,gt.l20,gt.2.2.1,gt.2.2.2.1,by omega,by omega,hT _ (by unfold T6;exact List.mem_cons_of_mem _ (List.mem_cons_of_mem _ (List.mem_cons_of_mem _ (List.mem_cons_of_mem _ (List.mem_cons_self))))),λ z=>absurd z (z1o hk),λ _ z=>absurd z (z9c (by omega) (by omega) (by omega)),λ _ _ Ha1 pa1 sa1 ta1 tba1=>?_⟩
  obtain ⟨ma1,Ta1⟩:=TabsL.both hT nd6 (by unfold T6;exact List.mem_cons_of_mem _ (List.mem_cons_of_mem _ (List.mem_cons_of_mem _ (List.mem_cons_of_mem _ (List.mem_cons_self))))) sa1 ta1
  rw [Int.toNat_natCast] at tba1
  have Ga1:=z9g (f:=0) (m:=ff) gt hk (by omega) (by omega)
  refine ⟨okw,_,_,tba1,Ga1.1,Ga1.l20,Ga1.2.2.1,Ga1.2.2.2.1,Ga1.2.2.2.2,Ta1 _ (by unfold T6;exact List.mem_cons_self),λ z=>absurd hw z,λ _ z=>absurd z (z1o (by rw [List.length_set];exact hk)),λ _ _ Hb1 pb1 sb1 tb1 tbb1=>?_⟩
  obtain ⟨mb1,Tb1⟩:=Ta1.both nd6 (by unfold T6;exact List.mem_cons_self) sb1 tb1
  rw [Int.toNat_natCast,z6p] at tbb1
  exact hR _ _ ⟨pb1,ma1.trans mb1,Tb1,tbb1,rfl⟩
 rintro σ2 G2 ⟨p1,u2,T2,tb1,rfl⟩
 refine z0i (λ σ G=>∃p2,SmT G2 G/\TabsL (T6 TD TL TT TP TU TS) G/\TbAt G p2 (ns.eraseIdx k) (fldL wd (ns.set k (ns.getD k 0 - ff)) (movC ns cs (ns.set k (ns.getD k 0 - ff)) (cutF k ff 1)) k)/\σ=[some (.str wd),some (.ref t),some (.int (k:Int)),some (.int ff),some (.ref kp),some (.int (ns.getD k 0)),some (.ref p1),some (.ref p2),none]) ?_ (λ R hR=>?_)
 rotate_left
 ·wp_walk using tSeq,tIfS,inV,eqV,spcutT,spfoldT
  refine ⟨ns,cs,u2.tb tb,gt.1,gt.l20,gt.2.2.1,gt.2.2.2.1,by omega,by omega,T2 _ (by unfold T6;exact List.mem_cons_of_mem _ (List.mem_cons_of_mem _ (List.mem_cons_of_mem _ (List.mem_cons_of_mem _ (List.mem_cons_self))))),λ z=>absurd z (z1o hk),λ _ z=>absurd z (z9c (by omega) (by omega) (by omega)),λ _ _ Ha2 pa2 sa2 ta2 tba2=>?_⟩
  obtain ⟨ma2,Ta2⟩:=TabsL.both T2 nd6 (by unfold T6;exact List.mem_cons_of_mem _ (List.mem_cons_of_mem _ (List.mem_cons_of_mem _ (List.mem_cons_of_mem _ (List.mem_cons_self))))) sa2 ta2
  rw [Int.toNat_natCast] at tba2
  have Ga2:=z9g (f:=ff) (m:=ns.getD k 0 - ff) gt hk (by omega) (by omega)
  refine ⟨okw,_,_,tba2,Ga2.1,Ga2.l20,Ga2.2.2.1,Ga2.2.2.2.1,Ga2.2.2.2.2,Ta2 _ (by unfold T6;exact List.mem_cons_self),λ z=>absurd hw z,λ _ z=>absurd z (z1o (by rw [List.length_set];exact hk)),λ _ _ Hb2 pb2 sb2 tb2 tbb2=>?_⟩
  obtain ⟨mb2,Tb2⟩:=Ta2.both nd6 (by unfold T6;exact List.mem_cons_self) sb2 tb2
  rw [Int.toNat_natCast,z6p] at tbb2
  exact hR _ _ ⟨pb2,ma2.trans mb2,Tb2,tbb2,rfl⟩
 rintro σ3 G3 ⟨p2,u3,T3,tb2,rfl⟩
 have u03:=u2.trans u3
 refine z0i (λ σ G=>SmT G3 G/\TabsL (T6 TD TL TT TP TU TS) G/\σ=[some (.str wd),some (.ref t),some (.int (k:Int)),some (.int ff),some (.ref kp),some (.int (ns.getD k 0)),some (.ref p1),some (.ref p2),none]) ?_ (λ R hR=>?_)
 rotate_left
 ·wp_walk using tSeq,tIfS,inV,eqV,sppairG,splawwithout,splawalike
  refine ⟨hw,_,_,u3.tb tb1,_,_,tb2,D1.sd,D2.sd,D1.l20,D2.l20,D1.2.2.2.1,D2.2.2.2.1,D1.p5,D2.p5,D1.2.2.2.2,D2.2.2.2.2,T3 _ (by unfold T6;exact List.mem_cons_of_mem _ (List.mem_cons_self)),λ z=>absurd (z9p _).1 z,λ _ H4 p4 s4 t4 tb4=>?_⟩
  obtain ⟨m4,T4⟩:=T3.both nd6 (by unfold T6;exact List.mem_cons_of_mem _ (List.mem_cons_self)) s4 t4
  have m04:=u03.trans m4
  rw [(z9p (ns.eraseIdx k)).2,x4x hw gt hk f0 f1] at tb4
  exact ⟨_,m04.tup t0,_,z0v (j:=0) rfl,_,rfl,ns,k,rfl,m04.tup t1,gt.l60,λ H5 p5 s5 h5=>⟨_,_,tb4.same s5,(m04.tb tkp).same s5,h5,G5.sd,G5.l512,G5.2.2.2.1,λ H6 s6=>hR _ _ ⟨m4.trans (.of (s5.trans s6)),T4.same (s5.trans s6),rfl⟩⟩⟩
 rintro σ4 G4 ⟨u4,T4,rfl⟩
 have u04:=u03.trans u4
 wp_walk using tSeq,tIfS,inV,eqV,spcutT,sprunT,splawwithout,splawalike,splayT
 by_cases c0:ns.getD k 0=0
 ·rw [if_pos c0]
  exact q _ u04 T4
 rw [if_neg c0]
 have R5:=x4o (k:=k) hw gt
 have S6:=z9g (f:=0) (m:=1) gt hk (by omega) (by omega)
 refine ⟨okw,_,_,u04.tb tb,gt.1,gt.l20,gt.2.2.1,gt.2.2.2.1,gt.2.2.2.2,λ z=>absurd hw z,λ _ z=>absurd z (z1o hk),λ _ _ H5 p5 s5 tb5=>?_⟩
 rw [Int.toNat_natCast] at tb5
 have T5:=T4.same s5
 refine ⟨_,_,tb5,R5.1,R5.l20,R5.2.2.1,R5.2.2.2.1,T5 _ (by unfold T6;exact List.mem_cons_of_mem _ (List.mem_cons_of_mem _ (List.mem_cons_of_mem _ (List.mem_cons_of_mem _ (List.mem_cons_self))))),λ z=>absurd z (z1o hk),λ _ z=>absurd z (z9c (by omega) (by omega) (by omega)),λ _ _ H6 p6 s6 t6 tb6=>?_⟩
 obtain ⟨m6,T6⟩:=T5.both nd6 (by unfold T6;exact List.mem_cons_of_mem _ (List.mem_cons_of_mem _ (List.mem_cons_of_mem _ (List.mem_cons_of_mem _ (List.mem_cons_self))))) s6 t6
 rw [Int.toNat_natCast,y9o gt hk (by omega)] at tb6
 have m06:=(u04.trans (.of s5)).trans m6
 refine ⟨_,m06.tup t0,_,z0v (j:=0) rfl,_,rfl,ns,k,rfl,m06.tup t1,gt.l60,λ H7 p7 s7 h7=>?_⟩
 exact ⟨_,_,tb6.same s7,_,h7,S6.sd,G5.sd,G5.l20,λ z=>absurd z G5.nbig,λ _ z=>absurd (z5d hk) z,λ _ _ H8 p8 s8 tb8=>⟨_,(s7.trans s8) _ _ (m06.tup t0),_,z0v (j:=0) rfl,_,rfl,ns,k,rfl,(s7.trans s8) _ _ (m06.tup t1),gt.l60,λ H9 p9 s9 h9=>⟨_,_,tb8.same s9,(m06.tb tkp).same (s7.trans (s8.trans s9)),h9,G5.sd,G5.l512,G5.2.2.2.1,λ Hx sx=>q _ (m06.trans (.of (s7.trans (s8.trans (s9.trans sx))))) (T6.same (s7.trans (s8.trans (s9.trans sx))))⟩⟩⟩
abbrev slawtwo:Stmt:=top 67
theorem y9l:FnScope ["word", "tab", "side", "along", "kept", "less", "mine", "sides", "other"] ["word", "tab", "side", "along", "kept"] (defScope slawtwo):=⟨rfl,rfl,rfl,by decide +kernel,rfl,by decide +kernel,by decide +kernel⟩
theorem y9x (F:Fun K "_law_two" "_law_two" slawtwo f fd) {CNoWord:Addr}(nNoWord:W.nsIn K mainGlobals "NoWord" = some (some (.ref CNoWord))) {CNoSide:Addr}(nNoSide:W.nsIn K mainGlobals "NoSide" = some (some (.ref CNoSide))) (clawalike:Callee P w K mg base CX0 (9) "_law_alike" ["found", "other", "sides"] splawalike) (cfold:Callee P w K mg base (CX1 P w) (9) "fold" ["word", "tab", "side"] (spfoldT TD CNoWord CNoSide)) (cflip:Callee P w K mg base (CX1 P w) (9) "flip" ["tab", "side"] (spflipT TP CNoSide)) (clawwithout:Callee P w K mg base CX0 (9) "_law_without" ["sides", "side"] splawwithout) (zint:mg "int" = none) (nd6:((T6 TD TL TT TP TU TS).map λ x=>x.1).Nodup):FnOk P w K mg base CX0 (10) f fd ["word", "tab", "side", "along", "kept"] ((spltwo TD TL TT TP TU TS)):=by
 have sc:=y9l
 refine F.ok sc (λ vs H Q E h=>?_) (λ cdv A outer s H vs Q E hr h=>?_)
 ·obtain ⟨wd,t,kp,ns,cs,k,a,rfl,_⟩:=h;rfl
 obtain ⟨wd,t,kp,ns,cs,k,a,rfl,hw,okw,tb,gt,hk,ha,tkp,hT,q⟩:=h
 refine ⟨_,(z0c (z1f (z3d (z2u (z0g clawalike hr (by rfl) z0x (z0a (z0g cfold hr (by rfl) z1l (z0a (pv 0) (z0a (z0g cflip hr (by rfl) z1l (z0a (pv 1) (z0a (pv 2) z0b))) (z0a (pv 2) z0b)))) (z0a (pv 4) (z0a (z0g clawwithout hr (by rfl) z0x (z0a (z1c z0r (pv 1) z0f (λ _ _=>rfl)) (z0a (pv 2) z0b))) z0b)))))) (z0d (z0j z4d)) z0o) (z0c (z1f (z0k z2f (pv 3) (pv 2) (z0t _)) (z0d (z0j z4d)) z0o) (z0c (z0n (i:=5) sc.nd rfl (by first | exact Or.inl rfl | exact Or.inr rfl) (z0q z2w (pv 3) (z1d z3x (by rfl) zint boot_int (z0a (z4k z7g (pv 3) (pv 2) (z0t _)) z0b)))) (z0c (z0n (i:=6) sc.nd rfl (by first | exact Or.inl rfl | exact Or.inr rfl) (z0g cfold hr (by rfl) z1l (z0a (pv 0) (z0a (z0g cflip hr (by rfl) z1l (z0a (pv 1) (z0a (pv 3) z0b))) (z0a (pv 2) z0b))))) (z0c (z1f (z3d (z2u (z0g clawalike hr (by rfl) z0x (z0a (pv 6) (z0a (z0g cflip hr (by rfl) z1l (z0a (pv 4) (z0a (pv 5) z0b))) (z0a (z0g clawwithout hr (by rfl) z0x (z0a (z1c z0r (pv 1) z0f (λ _ _=>rfl)) (z0a (pv 2) z0b))) z0b)))))) (z0d (z0j z4d)) z0o) (z0c (z0n (i:=7) sc.nd rfl (by first | exact Or.inl rfl | exact Or.inr rfl) (z0g clawwithout hr (by rfl) z0x (z0a (z0g clawwithout hr (by rfl) z0x (z0a (z1c z0r (pv 1) z0f (λ _ _=>rfl)) (z0a (pv 2) z0b))) (z0a (pv 5) z0b)))) (z0c (z0n (i:=8) sc.nd rfl (by first | exact Or.inl rfl | exact Or.inr rfl) (z0g cfold hr (by rfl) z1l (z0a (pv 0) (z0a (z0g cfold hr (by rfl) z1l (z0a (pv 0) (z0a (pv 1) (z0a (pv 3) z0b)))) (z0a (z0q z2w (pv 2) (z1d z3x (by rfl) zint boot_int (z0a (z4k z7g (pv 2) (pv 3) (z0t _)) z0b))) z0b))))) (z0d (z0j (z0g clawalike hr (by rfl) z0x (z0a (z0g cfold hr (by rfl) z1l (z0a (pv 0) (z0a (pv 4) (z0a (pv 5) z0b)))) (z0a (pv 8) (z0a (pv 7) z0b))))))))))))),?_⟩
 simp only [L2.start,List.length_cons,List.length_nil,List.replicate,List.cons_append,List.nil_append,Nat.reduceSub,Nat.reduceAdd,List.map_cons,List.map_nil]
 obtain ⟨ta0,tc0,t0,t1,t2⟩:=id tb
 have G5:=z3s hw hk gt
 have el:=@z8v a k
 have er:=@z8v k a
 refine z0i (λ σ G=>SmT H G/\TabsL (T6 TD TL TT TP TU TS) G/\σ=[some (.str wd),some (.ref t),some (.int (k:Int)),some (.int (a:Int)),some (.ref kp),none,none,none,none]) ?_ (λ R hR=>?_)
 rotate_left
 ·wp_walk using tSeq,tIfS,inV,eqV,spflipT,spfoldT,splawwithout,splawalike
  refine ⟨_,_,tb,gt.1,gt.l20,gt.2.2.1,gt.2.2.2.1,hT _ (by unfold T6;exact List.mem_cons_of_mem _ (List.mem_cons_of_mem _ (List.mem_cons_of_mem _ (List.mem_cons_self)))),λ z=>absurd z (z1o hk),λ _ Hf1 pf1 sf1 tf1 tbf1=>?_⟩
  obtain ⟨mf1,Tf1⟩:=TabsL.both hT nd6 (by unfold T6;exact List.mem_cons_of_mem _ (List.mem_cons_of_mem _ (List.mem_cons_of_mem _ (List.mem_cons_self)))) sf1 tf1
  rw [Int.toNat_natCast] at tbf1
  have G1:=y1n (k:=k) gt
  refine ⟨okw,_,_,tbf1,G1.1,G1.l20,G1.2.2.1,G1.2.2.2.1,G1.2.2.2.2,Tf1 _ (by unfold T6;exact List.mem_cons_self),λ z=>absurd hw z,λ _ z=>absurd z (z1o hk),λ _ _ Hf2 pf2 sf2 tf2 tbf2=>?_⟩
  obtain ⟨mf2,Tf2⟩:=TabsL.both Tf1 nd6 (by unfold T6;exact List.mem_cons_self) sf2 tf2
  rw [Int.toNat_natCast] at tbf2
  have m02:=mf1.trans mf2
  rw [z7k hw gt hk] at tbf2
  exact ⟨_,m02.tup t0,_,z0v (j:=0) rfl,_,rfl,ns,k,rfl,m02.tup t1,gt.l60,λ H5 p5 s5 h5=>⟨_,_,tbf2.same s5,(m02.tb tkp).same s5,h5,G5.sd,G5.l512,G5.2.2.2.1,λ H6 s6=>hR _ _ ⟨m02.trans (.of (s5.trans s6)),Tf2.same (s5.trans s6),rfl⟩⟩⟩
 rintro σ1 G1 ⟨u1,T1,rfl⟩
 by_cases ne:a=k
 ·subst ne
  wp_walk using tSeq,tIfS,inV,eqV
  exact q _ u1 T1
 have lk:=z8w ha hk ne
 have lk':lessN a k < (ns.eraseIdx k).length:=by rw [z2b hk];exact lk
 have rk:=z8w hk ha (λ z=>ne z.symm)
 have rk':lessN k a < (ns.eraseIdx a).length:=by rw [z2b ha];exact rk
 refine z0i (λ σ G=>G=G1/\σ=[some (.str wd),some (.ref t),some (.int (k:Int)),some (.int (a:Int)),some (.ref kp),none,none,none,none]) ?_ (λ R hR=>?_)
 rotate_left
 ·wp_walk using tSeq,tIfS,inV,eqV
  rw [if_neg (show ¬(a:Int)=(k:Int) by omega)]
  exact hR _ _ ⟨rfl,rfl⟩
 rintro σ2 G2 ⟨rfl,rfl⟩
 refine z0i (λ σ G=>G=G2/\σ=[some (.str wd),some (.ref t),some (.int (k:Int)),some (.int (a:Int)),some (.ref kp),some (.int ((lessN a k:Nat):Int)),none,none,none]) ?_ (λ R hR=>?_)
 rotate_left
 ·wp_walk using tSeq,tIfS,inV,eqV
  rw [el]
  exact hR _ _ ⟨rfl,rfl⟩
 rintro σ3 G3 ⟨rfl,rfl⟩
 refine z0i (λ σ G=>∃mi,SmT G3 G/\TabsL (T6 TD TL TT TP TU TS) G/\TbAt G mi (ns.eraseIdx k) (fldL wd ns (movC ns cs ns (flipF ns a)) k)/\σ=[some (.str wd),some (.ref t),some (.int (k:Int)),some (.int (a:Int)),some (.ref kp),some (.int ((lessN a k:Nat):Int)),some (.ref mi),none,none]) ?_ (λ R hR=>?_)
 rotate_left
 ·wp_walk using tSeq,tIfS,inV,eqV,spflipT,spfoldT
  refine ⟨_,_,u1.tb tb,gt.1,gt.l20,gt.2.2.1,gt.2.2.2.1,T1 _ (by unfold T6;exact List.mem_cons_of_mem _ (List.mem_cons_of_mem _ (List.mem_cons_of_mem _ (List.mem_cons_self)))),λ z=>absurd z (z1o ha),λ _ Hf4 pf4 sf4 tf4 tbf4=>?_⟩
  obtain ⟨mf4,Tf4⟩:=TabsL.both T1 nd6 (by unfold T6;exact List.mem_cons_of_mem _ (List.mem_cons_of_mem _ (List.mem_cons_of_mem _ (List.mem_cons_self)))) sf4 tf4
  rw [Int.toNat_natCast] at tbf4
  have G4:=y1n (k:=a) gt
  refine ⟨okw,_,_,tbf4,G4.1,G4.l20,G4.2.2.1,G4.2.2.2.1,G4.2.2.2.2,Tf4 _ (by unfold T6;exact List.mem_cons_self),λ z=>absurd hw z,λ _ z=>absurd z (z1o hk),λ _ _ Hf5 pf5 sf5 tf5 tbf5=>?_⟩
  obtain ⟨mf5,Tf5⟩:=TabsL.both Tf4 nd6 (by unfold T6;exact List.mem_cons_self) sf5 tf5
  rw [Int.toNat_natCast] at tbf5
  exact hR _ _ ⟨pf5,mf4.trans mf5,Tf5,tbf5,rfl⟩
 rintro σ4 G4 ⟨mi,u4,T4,tmi,rfl⟩
 have u04:=u1.trans u4
 refine z0i (λ σ G=>SmT G4 G/\TabsL (T6 TD TL TT TP TU TS) G/\σ=[some (.str wd),some (.ref t),some (.int (k:Int)),some (.int (a:Int)),some (.ref kp),some (.int ((lessN a k:Nat):Int)),some (.ref mi),none,none]) ?_ (λ R hR=>?_)
 rotate_left
 ·wp_walk using tSeq,tIfS,inV,eqV,spflipT,splawwithout,splawalike
  refine ⟨_,_,u04.tb tkp,G5.1,G5.l20,G5.2.2.1,G5.2.2.2.1,T4 _ (by unfold T6;exact List.mem_cons_of_mem _ (List.mem_cons_of_mem _ (List.mem_cons_of_mem _ (List.mem_cons_self)))),λ z=>absurd z (z1o lk'),λ _ H5 p5 s5 t5 tb5=>?_⟩
  obtain ⟨m5,T5⟩:=TabsL.both T4 nd6 (by unfold T6;exact List.mem_cons_of_mem _ (List.mem_cons_of_mem _ (List.mem_cons_of_mem _ (List.mem_cons_self)))) s5 t5
  rw [Int.toNat_natCast] at tb5
  have m05:=u04.trans m5
  rw [z9y gt hk ha ne] at tmi
  have G6:=y1n (k:=lessN a k) G5
  exact ⟨_,m05.tup t0,_,z0v (j:=0) rfl,_,rfl,ns,k,rfl,m05.tup t1,gt.l60,λ H6 p6 s6 h6=>⟨_,_,(m5.tb tmi).same s6,tb5.same s6,h6,G5.sd,G5.l512,G6.2.2.2.1,λ H7 s7=>hR _ _ ⟨m5.trans (.of (s6.trans s7)),T5.same (s6.trans s7),rfl⟩⟩⟩
 rintro σ5 G6 ⟨u5,T5,rfl⟩
 have u05:=u04.trans u5
 refine z0i (λ σ G=>∃sd,Same G6 G/\G sd=some (.tup (((ns.eraseIdx k).eraseIdx (lessN a k)).map V.int))/\σ=[some (.str wd),some (.ref t),some (.int (k:Int)),some (.int (a:Int)),some (.ref kp),some (.int ((lessN a k:Nat):Int)),some (.ref mi),some (.ref sd),none]) ?_ (λ R hR=>?_)
 rotate_left
 ·wp_walk using tSeq,tIfS,inV,eqV,splawwithout
  exact ⟨_,u05.tup t0,_,z0v (j:=0) rfl,_,rfl,ns,k,rfl,u05.tup t1,gt.l60,λ H6 p6 s6 h6=>⟨_,_,rfl,h6,G5.l60,λ H7 p7 s7 h7=>hR _ _ ⟨p7,s6.trans s7,h7,rfl⟩⟩⟩
 rintro σ6 G7 ⟨sd,s6,hsd,rfl⟩
 have T6':=T5.same s6
 have u06:=u05.trans (.of s6)
 refine z0i (λ σ G=>∃ot,SmT G7 G/\TabsL (T6 TD TL TT TP TU TS) G/\TbAt G ot ((ns.eraseIdx a).eraseIdx (lessN k a)) (fldL wd (ns.eraseIdx a) (fldL wd ns cs a) (lessN k a))/\σ=[some (.str wd),some (.ref t),some (.int (k:Int)),some (.int (a:Int)),some (.ref kp),some (.int ((lessN a k:Nat):Int)),some (.ref mi),some (.ref sd),some (.ref ot)]) ?_ (λ R hR=>?_)
 rotate_left
 ·wp_walk using tSeq,tIfS,inV,eqV,spfoldT,er
  refine ⟨okw,_,_,u06.tb tb,gt.1,gt.l20,gt.2.2.1,gt.2.2.2.1,gt.2.2.2.2,T6' _ (by unfold T6;exact List.mem_cons_self),λ z=>absurd hw z,λ _ z=>absurd z (z1o ha),λ _ _ H8 p8 s8 t8 tb8=>?_⟩
  obtain ⟨m8,T8⟩:=TabsL.both T6' nd6 (by unfold T6;exact List.mem_cons_self) s8 t8
  rw [Int.toNat_natCast] at tb8
  have G8:=z3s hw ha gt
  refine ⟨okw,_,_,tb8,G8.1,G8.l20,G8.2.2.1,G8.2.2.2.1,G8.2.2.2.2,T8 _ (by unfold T6;exact List.mem_cons_self),λ z=>absurd hw z,λ _ z=>absurd z (z1o rk'),λ _ _ H9 p9 s9 t9 tb9=>?_⟩
  obtain ⟨m9,T9⟩:=TabsL.both T8 nd6 (by unfold T6;exact List.mem_cons_self) s9 t9
  rw [Int.toNat_natCast] at tb9
  exact hR _ _ ⟨p9,m8.trans m9,T9,tb9,rfl⟩
 rintro σ7 G8 ⟨ot,u8,T8,tot,rfl⟩
 have u08:=u06.trans u8
 wp_walk using tSeq,tIfS,inV,eqV,spfoldT,splawalike
 refine ⟨okw,_,_,u08.tb tkp,G5.1,G5.l20,G5.2.2.1,G5.2.2.2.1,G5.2.2.2.2,T8 _ (by unfold T6;exact List.mem_cons_self),λ z=>absurd hw z,λ _ z=>absurd z (z1o lk'),λ _ _ H9 p9 s9 t9 tb9=>?_⟩
 obtain ⟨m9,T9⟩:=TabsL.both T8 nd6 (by unfold T6;exact List.mem_cons_self) s9 t9
 rw [Int.toNat_natCast] at tb9
 have G9:=z3s hw lk' G5
 rw [← x6f ne,← y7s hw gt hk ha ne] at tot
 exact ⟨_,_,tb9,m9.tb tot,m9.tup (u8.tup hsd),G9.sd,G9.l512,G9.2.2.2.1,λ H7 s7=>q _ ((u08.trans m9).trans (.of s7)) (T9.same s7)⟩
abbrev slawspreadout:Stmt:=top 68
theorem z7d:FnScope ["word", "tab", "side", "place", "many", "kept", "wide", "mine", "place_less", "sides"] ["word", "tab", "side", "place", "many", "kept"] (defScope slawspreadout):=⟨rfl,rfl,rfl,by decide +kernel,rfl,by decide +kernel,by decide +kernel⟩
theorem z7h (F:Fun K "_law_spread_out" "_law_spread_out" slawspreadout f fd) {CNoWord:Addr}(nNoWord:W.nsIn K mainGlobals "NoWord" = some (some (.ref CNoWord))) {CNoSide:Addr}(nNoSide:W.nsIn K mainGlobals "NoSide" = some (some (.ref CNoSide))) {CBeyond:Addr}(nBeyond:W.nsIn K mainGlobals "Beyond" = some (some (.ref CBeyond))) {CTooLarge:Addr}(nTooLarge:W.nsIn K mainGlobals "TooLarge" = some (some (.ref CTooLarge))) {CUnlike:Addr}(nUnlike:W.nsIn K mainGlobals "Unlike" = some (some (.ref CUnlike))) (clawalike:Callee P w K mg base CX0 (9) "_law_alike" ["found", "other", "sides"] splawalike) (cfold:Callee P w K mg base (CX1 P w) (9) "fold" ["word", "tab", "side"] (spfoldT TD CNoWord CNoSide)) (cspread:Callee P w K mg base (CX1 P w) (9) "spread" ["tab", "side", "many"] (spspreadT TS CNoSide CBeyond CTooLarge)) (clawwithout:Callee P w K mg base CX0 (9) "_law_without" ["sides", "side"] splawwithout) (cpair:Callee P w K mg base (CX1 P w) (9) "pair" ["word", "tab", "other"] (sppairG TL CUnlike)) (zint:mg "int" = none) (nd6:((T6 TD TL TT TP TU TS).map λ x=>x.1).Nodup):FnOk P w K mg base CX0 (10) f fd ["word", "tab", "side", "place", "many", "kept"] ((splspread TD TL TT TP TU TS)):=by
 have sc:=z7d
 refine F.ok sc (λ vs H Q E h=>?_) (λ cdv A outer s H vs Q E hr h=>?_)
 ·obtain ⟨wd,t,kp,ns,cs,k,p,mm,rfl,_⟩:=h;rfl
 obtain ⟨wd,t,kp,ns,cs,k,p,mm,rfl,hw,okw,tb,gt,hk,hp,m0,m1,nb,tkp,hT,q⟩:=h
 refine ⟨_,(z0c (z0n (i:=6) sc.nd rfl (by first | exact Or.inl rfl | exact Or.inr rfl) (z0g cspread hr (by rfl) z1l (z0a (pv 1) (z0a (pv 3) (z0a (pv 4) z0b))))) (z0c (z0n (i:=7) sc.nd rfl (by first | exact Or.inl rfl | exact Or.inr rfl) (z0g cfold hr (by rfl) z1l (z0a (pv 0) (z0a (pv 6) (z0a (z0q z1s (pv 2) (z1d z3x (by rfl) zint boot_int (z0a (z4k x6y (pv 3) (pv 2) (z0t _)) z0b))) z0b))))) (z0c (z0n (i:=8) sc.nd rfl (by first | exact Or.inl rfl | exact Or.inr rfl) (z0q z2w (pv 3) (z1d z3x (by rfl) zint boot_int (z0a (z4k z7g (pv 3) (pv 2) (z0t _)) z0b)))) (z0c (z0n (i:=9) sc.nd rfl (by first | exact Or.inl rfl | exact Or.inr rfl) (z0g clawwithout hr (by rfl) z0x (z0a (z1c z0r (pv 1) z0f (λ _ _=>rfl)) (z0a (pv 2) z0b)))) (z0c (z0n (i:=9) sc.nd rfl (by first | exact Or.inl rfl | exact Or.inr rfl) (z0q z3k (z0q z3k (z1v z3p (pv 9) z2l (z2k (pv 8))) (z2s (z0a (pv 4) z0b))) (z1v z3p (pv 9) (z2k (pv 8)) z2l))) (z0c (z1f (z3d (z2u (z0g clawalike hr (by rfl) z0x (z0a (pv 7) (z0a (z0g cspread hr (by rfl) z1l (z0a (pv 5) (z0a (pv 8) (z0a (pv 4) z0b)))) (z0a (pv 9) z0b)))))) (z0d (z0j z4d)) z0o) (z0d (z0j (z0g clawalike hr (by rfl) z0x (z0a (z0g cfold hr (by rfl) z1l (z0a z1a (z0a (pv 6) (z0a (pv 3) z0b)))) (z0a (z0g cpair hr (by rfl) z1l (z0a z1a (z0a (pv 1) (y6e (z2s (y6e (z2s z0b) (y6e (z2s (z0a (pv 4) z0b)) z0b))) z0b)))) (z0a (z1c z0r (pv 1) z0f (λ _ _=>rfl)) z0b)))))))))))),?_⟩
 simp only [L2.start,List.length_cons,List.length_nil,List.replicate,List.cons_append,List.nil_append,Nat.reduceSub,Nat.reduceAdd,List.map_cons,List.map_nil]
 obtain ⟨ta0,tc0,t0,t1,t2⟩:=id tb
 have n6:=gt.2.1
 have G5:=z3s hw hk gt
 have Gw:=z4z (k:=p) gt m0 m1 nb
 have em:=@x0d k p
 have el:=@z8v p k
 have ei:=x1x (y:=mm) hk hp
 have mk:moreN k p < (insL ns p mm).length:=by rw [z1y];exact x2z hk
 have Gm:=z3s hw mk Gw
 have lp:lessN p k≤(ns.eraseIdx k).length:=by rw [z2b hk];exact x3c hp hk
 have nb2:¬bigI (insL (ns.eraseIdx k) (lessN p k) mm):=by rw [← ei];exact Gm.nbig
 have o1:∀ {l:List Int}{j:Nat},j≤l.length->¬off1 l (j:Int):=λ h z=>by unfold off1 at z;omega
 refine z0i (λ σ G=>∃wi,SmT H G/\TabsL (T6 TD TL TT TP TU TS) G/\TbAt G wi (insL ns p mm) (sprL ns cs p mm)/\σ=[some (.str wd),some (.ref t),some (.int (k:Int)),some (.int (p:Int)),some (.int mm),some (.ref kp),some (.ref wi),none,none,none]) ?_ (λ R hR=>?_)
 rotate_left
 ·wp_walk using tSeq,tIfS,inV,eqV,spspreadT
  refine ⟨_,_,tb,gt.sd,gt.l20,gt.2.2.2.1,by omega,hT _ (by unfold T6;exact List.mem_cons_of_mem _ (List.mem_cons_of_mem _ (List.mem_cons_of_mem _ (List.mem_cons_of_mem _ (List.mem_cons_of_mem _ (List.mem_cons_self)))))),λ z=>absurd z (o1 hp),λ _ z=>absurd z (by omega),λ _ _ z=>absurd z (nb),λ _ _ _ Hf1 pf1 sf1 tf1 tbf1=>?_⟩
  obtain ⟨mf1,Tf1⟩:=TabsL.both hT nd6 (by unfold T6;exact List.mem_cons_of_mem _ (List.mem_cons_of_mem _ (List.mem_cons_of_mem _ (List.mem_cons_of_mem _ (List.mem_cons_of_mem _ (List.mem_cons_self)))))) sf1 tf1
  rw [Int.toNat_natCast] at tbf1
  exact hR _ _ ⟨pf1,mf1,Tf1,tbf1,rfl⟩
 rintro σ1 G1 ⟨wi,u1,T1,twi,rfl⟩
 refine z0i (λ σ G=>∃mi,SmT G1 G/\TabsL (T6 TD TL TT TP TU TS) G/\TbAt G mi ((insL ns p mm).eraseIdx (moreN k p)) (fldL wd (insL ns p mm) (sprL ns cs p mm) (moreN k p))/\σ=[some (.str wd),some (.ref t),some (.int (k:Int)),some (.int (p:Int)),some (.int mm),some (.ref kp),some (.ref wi),some (.ref mi),none,none]) ?_ (λ R hR=>?_)
 rotate_left
 ·wp_walk using tSeq,tIfS,inV,eqV,spfoldT,em
  refine ⟨okw,_,_,twi,Gw.1,Gw.l20,Gw.2.2.1,Gw.2.2.2.1,Gw.2.2.2.2,T1 _ (by unfold T6;exact List.mem_cons_self),λ z=>absurd hw z,λ _ z=>absurd z (z1o mk),λ _ _ Hf2 pf2 sf2 tf2 tbf2=>?_⟩
  obtain ⟨mf2,Tf2⟩:=TabsL.both T1 nd6 (by unfold T6;exact List.mem_cons_self) sf2 tf2
  rw [Int.toNat_natCast] at tbf2
  exact hR _ _ ⟨pf2,mf2,Tf2,tbf2,rfl⟩
 rintro σ2 G2 ⟨mi,u2,T2,tmi,rfl⟩
 have u02:=u1.trans u2
 refine z0i (λ σ G=>G=G2/\σ=[some (.str wd),some (.ref t),some (.int (k:Int)),some (.int (p:Int)),some (.int mm),some (.ref kp),some (.ref wi),some (.ref mi),some (.int ((lessN p k:Nat):Int)),none]) ?_ (λ R hR=>?_)
 rotate_left
 ·wp_walk using tSeq,tIfS,inV,eqV,el
  exact hR _ _ ⟨rfl,rfl⟩
 rintro σ3 G3 ⟨rfl,rfl⟩
 refine z0i (λ σ G=>∃sd,Same G3 G/\G sd=some (.tup ((ns.eraseIdx k).map V.int))/\σ=[some (.str wd),some (.ref t),some (.int (k:Int)),some (.int (p:Int)),some (.int mm),some (.ref kp),some (.ref wi),some (.ref mi),some (.int ((lessN p k:Nat):Int)),some (.ref sd)]) ?_ (λ R hR=>?_)
 rotate_left
 ·wp_walk using tSeq,tIfS,inV,eqV,splawwithout
  exact ⟨_,u02.tup t0,_,z0v (j:=0) rfl,_,rfl,ns,k,rfl,u02.tup t1,gt.l60,λ H6 p6 s6 h6=>hR _ _ ⟨p6,s6,h6,rfl⟩⟩
 rintro σ4 G4 ⟨sd0,s4,hsd0,rfl⟩
 refine z0i (λ σ G=>∃sd,Same G4 G/\G sd=some (.tup ((insL (ns.eraseIdx k) (lessN p k) mm).map V.int))/\σ=[some (.str wd),some (.ref t),some (.int (k:Int)),some (.int (p:Int)),some (.int mm),some (.ref kp),some (.ref wi),some (.ref mi),some (.int ((lessN p k:Nat):Int)),some (.ref sd)]) ?_ (λ R hR=>?_)
 rotate_left
 ·wp_walk using tSeq,tIfS,inV,eqV
  refine ⟨_,hsd0,λ r1 H1 s1 h1=>⟨small (by decide),λ pq hpq=>⟨_,z0e hpq _ _ _ h1,x7r G5.l60,λ r2 H2 s2 h2=>⟨_,s2 _ _ (z0e hpq _ _ _ (s1 _ _ hsd0)),λ r3 H3 s3 h3=>⟨_,s3 _ _ h2,_,h3,x7q G5.l60,λ r4 H4 s4 h4=>hR _ _ ⟨r4,s1.trans ((z0e hpq _).trans (s2.trans (s3.trans s4))),?_,rfl⟩⟩⟩⟩⟩⟩
  rw [h4,z3b,z4c];unfold insL;rw [List.map_append,List.map_append];rfl
 rintro σ5 G5' ⟨sd,s5,hsd,rfl⟩
 have s45:=s4.trans s5
 have u05:=u02.trans (.of s45)
 have T5:=T2.same s45
 refine z0i (λ σ G=>SmT G5' G/\TabsL (T6 TD TL TT TP TU TS) G/\σ=[some (.str wd),some (.ref t),some (.int (k:Int)),some (.int (p:Int)),some (.int mm),some (.ref kp),some (.ref wi),some (.ref mi),some (.int ((lessN p k:Nat):Int)),some (.ref sd)]) ?_ (λ R hR=>?_)
 rotate_left
 ·wp_walk using tSeq,tIfS,inV,eqV,spspreadT,splawalike
  refine ⟨_,_,u05.tb tkp,G5.sd,G5.l20,G5.2.2.2.1,by omega,T5 _ (by unfold T6;exact List.mem_cons_of_mem _ (List.mem_cons_of_mem _ (List.mem_cons_of_mem _ (List.mem_cons_of_mem _ (List.mem_cons_of_mem _ (List.mem_cons_self)))))),λ z=>absurd z (o1 lp),λ _ z=>absurd z (by omega),λ _ _ z=>absurd z (nb2),λ _ _ _ H6 p6 s6 t6 tb6=>?_⟩
  obtain ⟨m6,T6⟩:=TabsL.both T5 nd6 (by unfold T6;exact List.mem_cons_of_mem _ (List.mem_cons_of_mem _ (List.mem_cons_of_mem _ (List.mem_cons_of_mem _ (List.mem_cons_of_mem _ (List.mem_cons_self)))))) s6 t6
  rw [Int.toNat_natCast] at tb6
  have G6:=z4z (k:=lessN p k) G5 m0 m1 nb2
  rw [y0n gt hk hp m0 m1 nb,ei] at tmi
  exact ⟨_,_,m6.tb (tmi.same s45),tb6,m6.tup hsd,G6.sd,G6.l512,G6.2.2.2.1,λ H7 s7=>hR _ _ ⟨m6.trans (.of s7),T6.same s7,rfl⟩⟩
 rintro σ6 G6 ⟨u6,T6',rfl⟩
 have u06:=u05.trans u6
 wp_walk using tSeq,tIfS,inV,eqV,spfoldT,sppairG,splawalike
 refine ⟨x5m,_,_,u6.tb ((u2.tb twi).same s45),Gw.1,Gw.l20,Gw.2.2.1,Gw.2.2.2.1,Gw.2.2.2.2,T6' _ (by unfold T6;exact List.mem_cons_self),λ z=>absurd x6k z,λ _ z=>absurd z (z1o (by rw [z1y];omega)),λ _ _ Hf7 pf7 sf7 tf7 tbf7=>?_⟩
 obtain ⟨mf7,Tf7⟩:=TabsL.both T6' nd6 (by unfold T6;exact List.mem_cons_self) sf7 tf7
 rw [Int.toNat_natCast] at tbf7
 refine ⟨small (by decide),λ pn hn=>⟨small (by decide),λ pm hm=>⟨small (by decide),λ pt ht=>?_⟩⟩⟩
 have s8:=(z0e hn (.tup [])).trans ((z0e hm (.tup [V.int mm])).trans (z0e ht (.tup [V.ref pn,V.ref pm])))
 have u07:=(u06.trans mf7).trans (.of s8)
 refine ⟨x5o,_,_,u07.tb tb,[],[mm],⟨pn,pm,z0h,z0e ht _ _ _ (z0e hm _ _ _ z0h),z0e ht _ _ _ z0h⟩,gt.sd,λ n hn=>(nomatch hn),gt.l20,by decide,gt.2.2.2.1,rfl,gt.p5,by decide,gt.2.2.2.2,λ c hc=>by cases List.mem_singleton.mp hc;unfold inB;omega,(Tf7.same s8) _ (by unfold T6;exact List.mem_cons_of_mem _ (List.mem_cons_self)),λ z=>absurd (y2j ns).1 z,λ _ H9 p9 s9 t9 tb9=>?_⟩
 obtain ⟨m9,T9⟩:=(Tf7.same s8).both nd6 (by unfold T6;exact List.mem_cons_of_mem _ (List.mem_cons_self)) s9 t9
 have u09:=u07.trans m9
 rw [(y2j ns).2] at tb9
 rw [z3f hp,y3j gt hp m0 m1 nb] at tbf7
 exact ⟨_,u09.tup t0,_,z0v (j:=0) rfl,_,rfl,_,_,m9.tb (tbf7.same s8),tb9,u09.tup t1,gt.sd,gt.l512,by rw [y5w,x1m];have:=z5m gt.nn;omega,λ Hx sx=>q _ (u09.trans (.of sx)) (T9.same sx)⟩
abbrev slaw:Stmt:=top 69
theorem x6s:FnScope ["script", "sides", "tab", "word", "side", "kept", "order", "free", "length", "many"] ["script"] (defScope slaw):=⟨rfl,rfl,rfl,by decide +kernel,rfl,by decide +kernel,by decide +kernel⟩
theorem x7b (F:Fun K "law" "law" slaw f fd) {CNoWord:Addr}(nNoWord:W.nsIn K mainGlobals "NoWord" = some (some (.ref CNoWord))) {CNoSide:Addr}(nNoSide:W.nsIn K mainGlobals "NoSide" = some (some (.ref CNoSide))) (clawsides:Callee P w K mg base CX0 (10) "_law_sides" ["script", "at"] (splawsides K)) (clawcells:Callee P w K mg base CX0 (10) "_law_cells" ["script", "begin", "size", "salt"] (splawcells K)) (clawsize:Callee P w K mg base CX0 (10) "_law_size" ["sides"] splawsize) (clawcellat:Callee P w K mg base CX0 (10) "_law_cell_at" ["script", "k"] (splawcellat K)) (cfold:Callee P w K mg base (CX1 P w) (10) "fold" ["word", "tab", "side"] (spfoldT TD CNoWord CNoSide)) (claworder:Callee P w K mg base CX0 (10) "_law_order" ["script", "at", "count"] (splaworder K)) (clawturned:Callee P w K mg base CX0 (10) "_law_turned" ["word", "tab", "side", "order", "kept"] (splturned TD TL TT TP TU TS)) (clawtwo:Callee P w K mg base CX0 (10) "_law_two" ["word", "tab", "side", "along", "kept"] (spltwo TD TL TT TP TU TS)) (clawparted:Callee P w K mg base CX0 (10) "_law_parted" ["word", "tab", "side", "first", "kept"] (splparted TD TL TT TP TU TS)) (clawspreadout:Callee P w K mg base CX0 (10) "_law_spread_out" ["word", "tab", "side", "place", "many", "kept"] (splspread TD TL TT TP TU TS)) (zlen:mg "len" = none) (zmax:mg "max" = none) (zmin:mg "min" = none) (nd6:((T6 TD TL TT TP TU TS).map λ x=>x.1).Nodup):FnOk P w K mg base CX0 (11) f fd ["script"] ((splawT K [TD,TL,TT,TP,TU,TS])):=by
 have sc:=x6s
 refine F.ok sc (λ vs H Q E h=>?_) (λ cdv A outer s H vs Q E hr h=>?_)
 ·obtain ⟨a,ns,rfl,_⟩:=h;rfl
 obtain ⟨a,ns,rfl,hS,h63,hT,q⟩:=h
 refine ⟨_,(z0c (z0n (i:=1) sc.nd rfl (by first | exact Or.inl rfl | exact Or.inr rfl) (z0g clawsides hr (by rfl) z0x (z0a (pv 0) (z0a z0f z0b)))) (z0c (z1f (z0k z2f (z0s z0m (by rfl) zlen PySem.boot_len (z0a (pv 1) z0b)) z0f (z0t _)) (z0d (z0n (i:=1) sc.nd rfl (by first | exact Or.inl rfl | exact Or.inr rfl) (z2s (z0a (z0q z1s z0f (z0q z2x (z0g clawcellat hr (by rfl) z0x (z0a (pv 0) (z0a z0f z0b))) z0f)) z0b)))) z0o) (z0c (z0n (i:=2) sc.nd rfl (by first | exact Or.inl rfl | exact Or.inr rfl) (z2s (z0a (pv 1) (z0a (z0g clawcells hr (by rfl) z0x (z0a (pv 0) (z0a z0f (z0a (z0g clawsize hr (by rfl) z0x (z0a (pv 1) z0b)) (z0a z0f z0b))))) z0b)))) (z0c (z0n (i:=3) sc.nd rfl (by first | exact Or.inl rfl | exact Or.inr rfl) (z1c z6x (z6r (z0a z1a (z0a z1a (z0a z1a (z0a z1a (z0a z1a (z0a z1a (z0a z1a z0b)))))))) (z0q z2x (z0g clawcellat hr (by rfl) z0x (z0a (pv 0) (z0a z0f z0b))) z0f) (λ _ _=>rfl))) (z0c (z0n (i:=4) sc.nd rfl (by first | exact Or.inl rfl | exact Or.inr rfl) (z0q z3j (z0g clawcellat hr (by rfl) z0x (z0a (pv 0) (z0a z0f z0b))) (z0s z0m (by rfl) zlen PySem.boot_len (z0a (pv 1) z0b)))) (z0c (z0n (i:=5) sc.nd rfl (by first | exact Or.inl rfl | exact Or.inr rfl) (z0g cfold hr (by rfl) z1l (z0a (pv 3) (z0a (pv 2) (z0a (pv 4) z0b))))) (z0c (z0n (i:=6) sc.nd rfl (by first | exact Or.inl rfl | exact Or.inr rfl) (z0g claworder hr (by rfl) z0x (z0a (pv 0) (z0a z0f (z0a (z0s z0m (by rfl) zlen PySem.boot_len (z0a (pv 1) z0b)) z0b))))) (z0c (z1f (z3d (z2u (z0g clawturned hr (by rfl) z0x (z0a (pv 3) (z0a (pv 2) (z0a (pv 4) (z0a (pv 6) (z0a (pv 5) z0b)))))))) (z0d (z0j z4d)) z0o) (z0c (z1f (z3d (z2u (z0g clawtwo hr (by rfl) z0x (z0a (pv 3) (z0a (pv 2) (z0a (pv 4) (z0a (z0q z3j (z0g clawcellat hr (by rfl) z0x (z0a (pv 0) (z0a z0f z0b))) (z0s z0m (by rfl) zlen PySem.boot_len (z0a (pv 1) z0b))) (z0a (pv 5) z0b)))))))) (z0d (z0j z4d)) z0o) (z0c (z1f (z3d (z2u (z0g clawparted hr (by rfl) z0x (z0a (pv 3) (z0a (pv 2) (z0a (pv 4) (z0a (z0q z3j (z0g clawcellat hr (by rfl) z0x (z0a (pv 0) (z0a z0f z0b))) (z0q z1s (z1c z0r (pv 1) (pv 4) (λ _ _=>rfl)) z0f)) (z0a (pv 5) z0b)))))))) (z0d (z0j z4d)) z0o) (z0c (z1f (z0k z2f (z0s z0m (by rfl) zlen PySem.boot_len (z0a (pv 1) z0b)) z0f (z0t _)) (z0d (z0j z4d)) z0o) (z0c (z0n (i:=7) sc.nd rfl (by first | exact Or.inl rfl | exact Or.inr rfl) z0f) (z0c (z2r PassesOwn.never rfl (z7r (pv 1)) (z1b (i:=8) sc.nd rfl (Or.inl rfl)) (z0d (z0n (i:=7) sc.nd rfl (by first | exact Or.inl rfl | exact Or.inr rfl) (z0q z5q (pv 7) (z0s (z5k rfl) (by rfl) zmax boot_max (z0a z0f (z0a (pv 8) z0b))))))) (z0c (z0n (i:=9) sc.nd rfl (by first | exact Or.inl rfl | exact Or.inr rfl) (z0q z3j (z0q z5q (z0g clawcellat hr (by rfl) z0x (z0a (pv 0) (z0a z0f z0b))) z0f) (z0s (z7a rfl) (by rfl) zmin boot_min (z0a z0f (z0a (z0q z1s (pv 7) z0f) z0b))))) (z0c (z1f (z0k z2f (z0q z2x (z0g clawcellat hr (by rfl) z0x (z0a (pv 0) (z0a z0f z0b))) z0f) z0f (z0t _)) (z0d (z0n (i:=9) sc.nd rfl (by first | exact Or.inl rfl | exact Or.inr rfl) (z0q z3j (z0q z5q (z0g clawcellat hr (by rfl) z0x (z0a (pv 0) (z0a z0f z0b))) z0f) (z0q z1s (pv 7) z0f)))) z0o) (z0d (z0j (z0g clawspreadout hr (by rfl) z0x (z0a (pv 3) (z0a (pv 2) (z0a (pv 4) (z0a (z0q z3j (z0g clawcellat hr (by rfl) z0x (z0a (pv 0) (z0a z0f z0b))) (z0q z1s (z0s z0m (by rfl) zlen PySem.boot_len (z0a (pv 1) z0b)) z0f)) (z0a (pv 9) (z0a (pv 5) z0b)))))))))))))))))))))))),?_⟩
 simp only [L2.start,List.length_cons,List.length_nil,List.replicate,List.cons_append,List.nil_append,Nat.reduceSub,Nat.reduceAdd,List.map_cons,List.map_nil]
 have tt:TabsL (T6 TD TL TT TP TU TS) H:=λ x hx=>by
  refine ⟨#[],hT x.1 ?_,trivial,.inl rfl⟩
  have:(x.1:Addr)∈(T6 TD TL TT TP TU TS).map (λ x=>x.1):=List.mem_map.mpr ⟨x,hx,rfl⟩
  exact this
 refine z0i (λ σ H1=>∃p ms,Same H H1/\fit ms/\H1 p=some (.tup (ms.map V.int))/\σ=[some (.ref a),some (.ref p),none,none,none,none,none,none,none,none]) ?_ (λ R hR=>?_)
 rotate_left
 ·wp_walk using tSeq,tIfS,inV,eqV,splawsides
  exact ⟨ns,0,rfl,hS,λ H1 p ms s1 f hp=>hR _ _ ⟨p,ms,s1,f,hp,rfl⟩⟩
 rintro σ1 G1 ⟨p0,ms0,s1,hf0,hp0,rfl⟩
 refine z0i (λ σ G=>∃p ms,Same H G/\fit ms/\1≤ms.length/\G p=some (.tup (ms.map V.int))/\σ=[some (.ref a),some (.ref p),none,none,none,none,none,none,none,none]) ?_ (λ R hR=>?_)
 rotate_left
 ·wp_walk using tSeq,tIfS,inV,eqV,splawcellat
  refine ⟨_,.inr (.of hp0),?_⟩
  rw [z0l]
  by_cases c:(ms0.length:Int)=0
  ·rw [if_pos c]
   exact ⟨ns,1,rfl,s1.seq hS,small (by decide),λ p hp=>hR _ _ ⟨p,[1+cellI ns 1 % 9],s1.trans (z0e hp _),x3n (by omega) (by omega),by show 1≤1;decide,z0h,rfl⟩⟩
  ·rw [if_neg c]
   exact hR _ _ ⟨p0,ms0,s1,hf0,by omega,hp0,rfl⟩
 clear hp0 hf0 s1
 rintro σ2 H1 ⟨p,ms,s1,hf,l1,hp,rfl⟩
 have hS1:=s1.seq hS
 have hm:=x4b hf
 have sd1:=z3c hm
 have nn1:∀n∈ms,0≤n:=λ n hn=>(sd1 n hn).1
 have po1:=z1e nn1
 have f4:=hf.2.2.2
 have f6:=hf.2.1
 refine z0i (λ σ G=>∃t cs,Same H1 G/\TbAt G t ms cs/\GT ms cs/\σ=[some (.ref a),some (.ref p),some (.ref t),none,none,none,none,none,none,none]) ?_ (λ R hR=>?_)
 rotate_left
 ·wp_walk using tSeq,tIfS,inV,eqV,splawcells,splawsize
  exact ⟨ms,hp,sd1,ns,0,rfl,(prodI ms).toNat,by omega,hS1,h63,by omega,by omega,λ G c cs sG hc cl ci=>⟨small (by decide),λ t ht=>hR _ _ ⟨t,cs,sG.trans (z0e ht _),⟨p,c,z0h,z0e ht _ _ _ (sG _ _ hp),z0e ht _ _ _ hc⟩,⟨hm,f6,f4,by omega,ci⟩,rfl⟩⟩⟩
 rintro σ3 H2 ⟨t,cs,s2,tb,gt,rfl⟩
 have hS2:=s2.seq hS1
 have hp2:=s2 _ _ hp
 obtain ⟨wd,a0,hw,okw,_⟩:=y9j (cellI ns 7 % 7) (by omega) (by omega)
 refine z0i (λ σ G=>Same H2 G/\σ=[some (.ref a),some (.ref p),some (.ref t),some (.str wd),none,none,none,none,none,none]) ?_ (λ R hR=>?_)
 rotate_left
 ·wp_walk using tSeq,tIfS,inV,eqV,splawcellat
  exact ⟨small (by decide),λ l hl=>⟨ns,7,rfl,(z0e hl _).seq hS2,_,.of z0h,_,a0,hR _ _ ⟨z0e hl _,rfl⟩⟩⟩
 rintro σ4 H3 ⟨s3,rfl⟩
 have hS3:=s3.seq hS2
 have hp3:=s3 _ _ hp2
 have mb:=Int.emod_nonneg (cellI ns 8) (show (ms.length:Int)≠0 by omega)
 have mb2:=Int.emod_lt_of_pos (cellI ns 8) (show 0 < (ms.length:Int) by omega)
 obtain ⟨k,ek,hk⟩:∃k:Nat,cellI ns 8 % (ms.length:Int)=(k:Int)/\k < ms.length:=⟨(cellI ns 8 % (ms.length:Int)).toNat,by omega,by omega⟩
 refine z0i (λ σ G=>G=H3/\σ=[some (.ref a),some (.ref p),some (.ref t),some (.str wd),some (.int (k:Int)),none,none,none,none,none]) ?_ (λ R hR=>?_)
 rotate_left
 ·wp_walk using tSeq,tIfS,inV,eqV,splawcellat
  refine ⟨ns,8,rfl,hS3,_,.inr (.of hp3),?_⟩
  rw [z0l,y4f _ (by omega),ek]
  exact ⟨by omega,hR _ _ ⟨rfl,rfl⟩⟩
 rintro σ5 H4 ⟨rfl,rfl⟩
 have T4:=tt.same (s1.trans (s2.trans s3))
 refine z0i (λ σ G=>∃kp,SmT H4 G/\TabsL (T6 TD TL TT TP TU TS) G/\TbAt G kp (ms.eraseIdx k) (fldL wd ms cs k)/\σ=[some (.ref a),some (.ref p),some (.ref t),some (.str wd),some (.int (k:Int)),some (.ref kp),none,none,none,none]) ?_ (λ R hR=>?_)
 rotate_left
 ·wp_walk using tSeq,tIfS,inV,eqV,spfoldT
  refine ⟨okw,_,_,tb.same s3,gt.1,gt.l20,gt.2.2.1,gt.2.2.2.1,gt.2.2.2.2,T4 _ (by unfold T6;exact List.mem_cons_self),λ z=>absurd hw z,λ _ z=>absurd z (z1o hk),λ _ _ Hf1 pf1 sf1 tf1 tbf1=>?_⟩
  obtain ⟨mf1,Tf1⟩:=TabsL.both T4 nd6 (by unfold T6;exact List.mem_cons_self) sf1 tf1
  rw [Int.toNat_natCast] at tbf1
  exact hR _ _ ⟨pf1,mf1,Tf1,tbf1,rfl⟩
 rintro σ6 H5 ⟨kp,u5,T5,tkp,rfl⟩
 have tb5:=u5.tb (tb.same s3)
 have hS5:=u5.seq hS3
 have hp5:=u5.tup hp3
 refine z0i (λ σ G=>∃o os,Same H5 G/\G o=some (.lst (os.map V.int))/\turnOk ms.length os/\σ=[some (.ref a),some (.ref p),some (.ref t),some (.str wd),some (.int (k:Int)),some (.ref kp),some (.ref o),none,none,none]) ?_ (λ R hR=>?_)
 rotate_left
 ·wp_walk using tSeq,tIfS,inV,eqV,splaworder
  refine ⟨_,.inr (.of hp5),ns,9,rfl,ms.length,by rw [z0l],hS5,f6,λ G o os sG ho tk=>hR _ _ ⟨o,os,sG,ho,tk,rfl⟩⟩
 rintro σ7 H6 ⟨o,os,s6,ho,tk,rfl⟩
 refine z0i (λ σ G=>SmT H5 G/\TabsL (T6 TD TL TT TP TU TS) G/\σ=[some (.ref a),some (.ref p),some (.ref t),some (.str wd),some (.int (k:Int)),some (.ref kp),some (.ref o),none,none,none]) ?_ (λ R hR=>?_)
 rotate_left
 ·wp_walk using tSeq,tIfS,inV,eqV,splturned
  exact ⟨_,_,ms,cs,os,k,rfl,rfl,rfl,hw,okw,tb5.same s6,gt,hk,ho,tk,tkp.same s6,T5.same s6,λ G sG tG=>hR _ _ ⟨(SmT.of s6).trans sG,tG,rfl⟩⟩
 rintro σ8 H7 ⟨u7,T7,rfl⟩
 have mc:=Int.emod_nonneg (cellI ns 15) (show (ms.length:Int)≠0 by omega)
 have mc2:=Int.emod_lt_of_pos (cellI ns 15) (show 0 < (ms.length:Int) by omega)
 obtain ⟨al,ea,hal⟩:∃k:Nat,cellI ns 15 % (ms.length:Int)=(k:Int)/\k < ms.length:=⟨(cellI ns 15 % (ms.length:Int)).toNat,by omega,by omega⟩
 refine z0i (λ σ G=>SmT H5 G/\TabsL (T6 TD TL TT TP TU TS) G/\σ=[some (.ref a),some (.ref p),some (.ref t),some (.str wd),some (.int (k:Int)),some (.ref kp),some (.ref o),none,none,none]) ?_ (λ R hR=>?_)
 rotate_left
 ·wp_walk using tSeq,tIfS,inV,eqV,splawcellat,spltwo
  refine ⟨ns,15,rfl,u7.seq hS5,_,.inr (.of (u7.tup hp5)),?_⟩
  rw [z0l,y4f _ (by omega),ea]
  exact ⟨by omega,_,ms,cs,k,rfl,al,rfl,rfl,hw,okw,u7.tb tb5,gt,hk,hal,u7.tb tkp,T7,λ G sG tG=>hR _ _ ⟨u7.trans sG,tG,rfl⟩⟩
 rintro σ9 H8 ⟨u8,T8,rfl⟩
 have gk:=gt.at hk
 have md:=Int.emod_nonneg (cellI ns 16) (show (ms.getD k 0+1)≠0 by omega)
 have md2:=Int.emod_lt_of_pos (cellI ns 16) (show 0 < (ms.getD k 0+1) by omega)
 refine z0i (λ σ G=>SmT H5 G/\TabsL (T6 TD TL TT TP TU TS) G/\σ=[some (.ref a),some (.ref p),some (.ref t),some (.str wd),some (.int (k:Int)),some (.ref kp),some (.ref o),none,none,none]) ?_ (λ R hR=>?_)
 rotate_left
 ·wp_walk using tSeq,tIfS,inV,eqV,splawcellat,splparted
  refine ⟨ns,16,rfl,u8.seq hS5,_,u8.tup hp5,_,z3h hk,_,rfl,?_⟩
  rw [y4f _ (by omega)]
  exact ⟨by omega,_,ms,cs,k,rfl,rfl,hw,okw,u8.tb tb5,gt,hk,md,by omega,u8.tb tkp,T8,λ G sG tG=>hR _ _ ⟨u8.trans sG,tG,rfl⟩⟩
 rintro σ10 H9 ⟨u9,T9,rfl⟩
 by_cases l6:(ms.length:Int)=6
 ·refine z0i (λ σ G=>False) (λ σ G h=>h.elim) (λ R hR=>?_)
  wp_walk using tSeq,tIfS,inV,eqV
  refine ⟨_,.inr (.of (u9.tup hp5)),?_⟩
  rw [z0l,if_pos l6]
  exact q _
 refine z0i (λ σ G=>G=H9/\σ=[some (.ref a),some (.ref p),some (.ref t),some (.str wd),some (.int (k:Int)),some (.ref kp),some (.ref o),none,none,none]) ?_ (λ R hR=>?_)
 rotate_left
 ·wp_walk using tSeq,tIfS,inV,eqV
  refine ⟨_,.inr (.of (u9.tup hp5)),?_⟩
  rw [z0l,if_neg l6]
  exact hR _ _ ⟨rfl,rfl⟩
 rintro σ11 H10 ⟨rfl,rfl⟩
 refine z0i (λ σ G=>G=H10/\σ=[some (.ref a),some (.ref p),some (.ref t),some (.str wd),some (.int (k:Int)),some (.ref kp),some (.ref o),some (.int 512),none,none]) ?_ (λ R hR=>?_)
 rotate_left
 ·wp_walk using tSeq,tIfS,inV,eqV
  exact hR _ _ ⟨rfl,rfl⟩
 rintro σ12 H11 ⟨rfl,rfl⟩
 refine z0i (λ σ G=>G=H11/\∃(f:Int) (y:Option V),0≤f/\f * prodI (ms.map one1)≤512/\σ=[some (.ref a),some (.ref p),some (.ref t),some (.str wd),some (.int (k:Int)),some (.ref kp),some (.ref o),some (.int f),y,none]) ?_ (λ R hR=>?_)
 rotate_left
 ·wp_walk using tSeq,tIfS,inV,eqV
  refine LoopT.mk (xs:=ms.map V.int) (.of (u9.tup hp5)) (λ i σ G=>G=H11/\∃(f:Int) (y:Option V),0≤f/\f≤512/\f * prodI ((ms.take i).map one1)≤512/\σ=[some (.ref a),some (.ref p),some (.ref t),some (.str wd),some (.int (k:Int)),some (.ref kp),some (.ref o),some (.int f),y,none]) ⟨rfl,512,_,by decide,by decide,(show (512:Int) * prodI []≤512 by decide),rfl⟩ (λ i σ G _ h=>by rw [h.1];exact .of (u9.tup hp5)) (λ i x σ G ex h=>?_) (λ σ G h=>?_)
  ·obtain ⟨rfl,f,y,g0,g512,g1,rfl⟩:=h
   obtain ⟨n,rfl,hn⟩:=z3r ex
   have nm:=hf.1 n (List.mem_of_getElem? hn)
   have o1:1≤one1 n/\one1 n≤512:=by unfold one1;split<;>omega
   have P:=y0z (ns:=ms.take i) λ n hn=>nn1 n (List.mem_of_mem_take hn)
   have fs:=y7q g0 o1.1 (by omega) g1
   wp_walk using tSeq,tIfS,inV,eqV
   rw [x1t nm.1]
   refine ⟨by omega,by omega,_,fs.1,Int.le_trans (Int.ediv_le_self _ g0) g512,?_,rfl,_,rfl⟩
   rw [List.take_add_one,hn,List.map_append]
   show _ * prodI ((ms.take i).map one1++[one1 n])≤512
   rw [z6c]
   exact fs.2
  ·obtain ⟨rfl,f,y,g0,g512,g1,rfl⟩:=h
   rw [z0l,List.take_length] at g1
   exact hR _ _ ⟨rfl,f,y,g0,g1,rfl⟩
 rintro σ13 H12 ⟨rfl,f,y,g0,g1,rfl⟩
 have mul1:∀ {r:Int},0 < r->0≤cellI ns 17 / 3 % r/\cellI ns 17 / 3 % r < r:=λ h=>⟨Int.emod_nonneg _ (by omega),Int.emod_lt_of_pos _ h⟩
 refine z0i (λ σ G=>G=H12/\∃m:Int,0≤m/\m≤f/\σ=[some (.ref a),some (.ref p),some (.ref t),some (.str wd),some (.int (k:Int)),some (.ref kp),some (.ref o),some (.int f),y,some (.int m)]) ?_ (λ R hR=>?_)
 rotate_left
 ·wp_walk using tSeq,tIfS,inV,eqV,splawcellat
  refine ⟨ns,17,rfl,u9.seq hS5,?_⟩
  have c5:0 < (if f+1 < 5 then f+1 else 5)/\(if f+1 < 5 then f+1 else 5)≤f+1:=by split<;>omega
  generalize (if f+1 < 5 then f+1 else 5)=f5 at *
  rw [y4f _ c5.1]
  have e:=mul1 c5.1
  exact ⟨by omega,hR _ _ ⟨rfl,_,e.1,by omega,rfl⟩⟩
 rintro σ14 H13 ⟨rfl,m,m0,m1,rfl⟩
 refine z0i (λ σ G=>G=H13/\∃m:Int,0≤m/\m≤f/\σ=[some (.ref a),some (.ref p),some (.ref t),some (.str wd),some (.int (k:Int)),some (.ref kp),some (.ref o),some (.int f),y,some (.int m)]) ?_ (λ R hR=>?_)
 rotate_left
 ·wp_walk using tSeq,tIfS,inV,eqV,splawcellat
  refine ⟨ns,17,rfl,u9.seq hS5,?_⟩
  split
  ·refine ⟨ns,17,rfl,u9.seq hS5,?_⟩
   rw [y4f _ (by omega)]
   have e:=mul1 (r:=f+1) (by omega)
   exact ⟨by omega,hR _ _ ⟨rfl,_,e.1,by omega,rfl⟩⟩
  ·exact hR _ _ ⟨rfl,_,m0,m1,rfl⟩
 clear m0 m1
 rintro σ15 H14 ⟨rfl,m,m0,m1,rfl⟩
 have mz:=Int.emod_nonneg (cellI ns 18) (show ((ms.length:Int)+1)≠0 by omega)
 have mz2:=Int.emod_lt_of_pos (cellI ns 18) (show 0 < ((ms.length:Int)+1) by omega)
 obtain ⟨pl,ep,hpl⟩:∃k:Nat,cellI ns 18 % ((ms.length:Int)+1)=(k:Int)/\k≤ms.length:=⟨(cellI ns 18 % ((ms.length:Int)+1)).toNat,by omega,by omega⟩
 have mf:=x0f (p:=pl) (show ms.length < 6 by omega) nn1 f4 g1 m0 m1
 wp_walk using tSeq,tIfS,inV,eqV,splawcellat,splspread
 refine ⟨ns,18,rfl,u9.seq hS5,_,.inr (.of (u9.tup hp5)),?_⟩
 rw [z0l,y4f _ (by omega),ep]
 exact ⟨by omega,_,ms,cs,k,rfl,pl,rfl,rfl,hw,okw,u9.tb tb5,gt,hk,hpl,m0,mf.2,mf.1,u9.tb tkp,T9,λ G _ _=>q _⟩
theorem z2p {α:Type}{us:List α}(h:us.length=1):∃x0,us=[x0]:=by
 match us,h with
 | [x0],_=>exact ⟨_,rfl⟩
theorem z1h {α:Type}{us:List α}(h:us.length=2):∃x0 x1,us=[x0,x1]:=by
 match us,h with
 | [x0,x1],_=>exact ⟨_,_,rfl⟩
theorem z2z {α:Type}{us:List α}(h:us.length=3):∃x0 x1 x2,us=[x0,x1,x2]:=by
 match us,h with
 | [x0,x1,x2],_=>exact ⟨_,_,_,rfl⟩
theorem x2d {α:Type}{us:List α}(h:us.length=4):∃x0 x1 x2 x3,us=[x0,x1,x2,x3]:=by
 match us,h with
 | [x0,x1,x2,x3],_=>exact ⟨_,_,_,_,rfl⟩
theorem z6l {α:Type}{us:List α}(h:us.length=5):∃x0 x1 x2 x3 x4,us=[x0,x1,x2,x3,x4]:=by
 match us,h with
 | [x0,x1,x2,x3,x4],_=>exact ⟨_,_,_,_,_,rfl⟩
theorem x2c {α:Type}{us:List α}(h:us.length=6):∃x0 x1 x2 x3 x4 x5,us=[x0,x1,x2,x3,x4,x5]:=by
 match us,h with
 | [x0,x1,x2,x3,x4,x5],_=>exact ⟨_,_,_,_,_,_,rfl⟩
theorem all_mk {l:W.OpenLaw}{w:World}{K:W.Frag}{h:Heap}{mg:Str->Option Value}{TD TL TT TP TU TS:Addr}{fa f0 f1 f2 f3 f4 f5 f6 f7 f8 f9 f10 f11 f12 f13 f14 f15 f16 f17 f18 f19 f20 f21 f22 f23 f24 f25 f26 f27 f28 f29 f30 f31 f32 f33 f34 f35 f36 f37 f38 f39 f40 f41 f42 f43 f44 f45 f46 f47 f48 f49:Addr}(X:K.In h) (G:h.Ns mainGlobals mg) (hfa:mg "law" = some (.ref fa))
  {od0 an0 od1 an1 od2 an2 od3 an3 od4 an4 od5 an5 od6 an6 od7 an7 od8 an8 od9 an9 od10 an10 od11 an11 od12 an12 od13 an13 od14 an14 od15 an15 od16 an16 od17 an17 od18 an18 od19 an19 od20 an20 od21 an21 od22 an22 od23 an23 od24 an24 od25 an25 od26 an26 od27 an27 od28 an28 od29 an29 od30 an30 od31 an31 od32 an32 od33 an33 od34 an34 od35 an35 od36 an36 od37 an37 od38 an38 od39 an39 od40 an40 od41 an41 od42 an42 od43 an43 od44 an44 od45 an45 od46 an46 od47 an47 od48 an48 od49 an49:Option Addr}{sl0 sl1 sl2 sl3 sl4 sl5 sl6 sl7 sl8 sl9 sl10 sl11 sl12 sl13 sl14 sl15 sl16 sl17 sl18 sl19 sl20 sl21 sl22 sl23 sl24 sl25 sl26 sl27 sl28 sl29 sl30 sl31 sl32 sl33 sl34 sl35 sl36 sl37 sl38 sl39 sl40 sl41 sl42 sl43 sl44 sl45 sl46 sl47 sl48 sl49:Array (Option Value)}{oc0 kV0 dc0 pm0 ct0 cd0 oc1 kV1 dc1 pm1 ct1 cd1 oc2 kV2 dc2 pm2 ct2 cd2 oc3 kV3 dc3 pm3 ct3 cd3 oc4 kV4 dc4 pm4 ct4 cd4 oc5 kV5 dc5 pm5 ct5 cd5 oc6 kV6 dc6 pm6 ct6 cd6 oc7 kV7 dc7 pm7 ct7 cd7 oc8 kV8 dc8 pm8 ct8 cd8 oc9 kV9 dc9 pm9 ct9 cd9 oc10 kV10 dc10 pm10 ct10 cd10 oc11 kV11 dc11 pm11 ct11 cd11 oc12 kV12 dc12 pm12 ct12 cd12 oc13 kV13 dc13 pm13 ct13 cd13 oc14 kV14 dc14 pm14 ct14 cd14 oc15 kV15 dc15 pm15 ct15 cd15 oc16 kV16 dc16 pm16 ct16 cd16 oc17 kV17 dc17 pm17 ct17 cd17 oc18 kV18 dc18 pm18 ct18 cd18 oc19 kV19 dc19 pm19 ct19 cd19 oc20 kV20 dc20 pm20 ct20 cd20 oc21 kV21 dc21 pm21 ct21 cd21 oc22 kV22 dc22 pm22 ct22 cd22 oc23 kV23 dc23 pm23 ct23 cd23 oc24 kV24 dc24 pm24 ct24 cd24 oc25 kV25 dc25 pm25 ct25 cd25 oc26 kV26 dc26 pm26 ct26 oc27 kV27 dc27 pm27 ct27 cd27 oc28 kV28 dc28 pm28 ct28 oc29 kV29 dc29 pm29 ct29 cd29 oc30 kV30 dc30 pm30 ct30 oc31 kV31 dc31 pm31 ct31 oc32 kV32 dc32 pm32 ct32 oc33 kV33 dc33 pm33 ct33 oc34 kV34 dc34 pm34 ct34 cd34 oc35 kV35 dc35 pm35 ct35 cd35 oc36 kV36 dc36 pm36 ct36 cd36 oc37 kV37 dc37 pm37 ct37 cd37 oc38 kV38 dc38 pm38 ct38 cd38 oc39 kV39 dc39 pm39 ct39 cd39 oc40 kV40 dc40 pm40 ct40 cd40 oc41 kV41 dc41 pm41 ct41 cd41 oc42 kV42 dc42 pm42 ct42 cd42 oc43 kV43 dc43 pm43 ct43 cd43 oc44 kV44 dc44 pm44 ct44 cd44 oc45 kV45 dc45 pm45 ct45 cd45 oc46 kV46 dc46 pm46 ct46 cd46 oc47 kV47 dc47 pm47 ct47 cd47 oc48 kV48 dc48 pm48 ct48 cd48 oc49 kV49 dc49 pm49 ct49 cd49:Value}
  (a0:W.nsIn K mainGlobals "wrapped" = some (some (.ref f0))) (l0:K.lookup f0=some ⟨oc0,od0,.func (W.fnOf "wrapped" "wrapped" (defArgs swrapped) (defBody swrapped) (defScope swrapped) .none kV0 dc0 pm0 an0 cd0 ct0),sl0⟩) (q0:W.codeIn K cd0 "wrapped" = true) (k0:W.keepIn K (.ref f0)=true)
  (a1:W.nsIn K mainGlobals "quotient" = some (some (.ref f1))) (l1:K.lookup f1=some ⟨oc1,od1,.func (W.fnOf "quotient" "quotient" (defArgs squotient) (defBody squotient) (defScope squotient) .none kV1 dc1 pm1 an1 cd1 ct1),sl1⟩) (q1:W.codeIn K cd1 "quotient" = true) (k1:W.keepIn K (.ref f1)=true)
  (a2:W.nsIn K mainGlobals "remainder" = some (some (.ref f2))) (l2:K.lookup f2=some ⟨oc2,od2,.func (W.fnOf "remainder" "remainder" (defArgs sremainder) (defBody sremainder) (defScope sremainder) .none kV2 dc2 pm2 an2 cd2 ct2),sl2⟩) (q2:W.codeIn K cd2 "remainder" = true) (k2:W.keepIn K (.ref f2)=true)
  (a3:W.nsIn K mainGlobals "twice" = some (some (.ref f3))) (l3:K.lookup f3=some ⟨oc3,od3,.func (W.fnOf "twice" "twice" (defArgs stwice) (defBody stwice) (defScope stwice) .none kV3 dc3 pm3 an3 cd3 ct3),sl3⟩) (q3:W.codeIn K cd3 "twice" = true) (k3:W.keepIn K (.ref f3)=true)
  (a4:W.nsIn K mainGlobals "neutral" = some (some (.ref f4))) (l4:K.lookup f4=some ⟨oc4,od4,.func (W.fnOf "neutral" "neutral" (defArgs sneutral) (defBody sneutral) (defScope sneutral) .none kV4 dc4 pm4 an4 cd4 ct4),sl4⟩) (q4:W.codeIn K cd4 "neutral" = true) (k4:W.keepIn K (.ref f4)=true)
  (a5:W.nsIn K mainGlobals "amount" = some (some (.ref f5))) (l5:K.lookup f5=some ⟨oc5,od5,.func (W.fnOf "amount" "amount" (defArgs samount) (defBody samount) (defScope samount) .none kV5 dc5 pm5 an5 cd5 ct5),sl5⟩) (q5:W.codeIn K cd5 "amount" = true) (k5:W.keepIn K (.ref f5)=true)
  (a6:W.nsIn K mainGlobals "breadth" = some (some (.ref f6))) (l6:K.lookup f6=some ⟨oc6,od6,.func (W.fnOf "breadth" "breadth" (defArgs sbreadth) (defBody sbreadth) (defScope sbreadth) .none kV6 dc6 pm6 an6 cd6 ct6),sl6⟩) (q6:W.codeIn K cd6 "breadth" = true) (k6:W.keepIn K (.ref f6)=true)
  (a7:W.nsIn K mainGlobals "allowed" = some (some (.ref f7))) (l7:K.lookup f7=some ⟨oc7,od7,.func (W.fnOf "allowed" "allowed" (defArgs sallowed) (defBody sallowed) (defScope sallowed) .none kV7 dc7 pm7 an7 cd7 ct7),sl7⟩) (q7:W.codeIn K cd7 "allowed" = true) (k7:W.keepIn K (.ref f7)=true)
  (a8:W.nsIn K mainGlobals "strides_of" = some (some (.ref f8))) (l8:K.lookup f8=some ⟨oc8,od8,.func (W.fnOf "strides_of" "strides_of" (defArgs sstridesof) (defBody sstridesof) (defScope sstridesof) .none kV8 dc8 pm8 an8 cd8 ct8),sl8⟩) (q8:W.codeIn K cd8 "strides_of" = true) (k8:W.keepIn K (.ref f8)=true)
  (a9:W.nsIn K mainGlobals "place_of" = some (some (.ref f9))) (l9:K.lookup f9=some ⟨oc9,od9,.func (W.fnOf "place_of" "place_of" (defArgs splaceof) (defBody splaceof) (defScope splaceof) .none kV9 dc9 pm9 an9 cd9 ct9),sl9⟩) (q9:W.codeIn K cd9 "place_of" = true) (k9:W.keepIn K (.ref f9)=true)
  (a10:W.nsIn K mainGlobals "at_of" = some (some (.ref f10))) (l10:K.lookup f10=some ⟨oc10,od10,.func (W.fnOf "at_of" "at_of" (defArgs satof) (defBody satof) (defScope satof) .none kV10 dc10 pm10 an10 cd10 ct10),sl10⟩) (q10:W.codeIn K cd10 "at_of" = true) (k10:W.keepIn K (.ref f10)=true)
  (a11:W.nsIn K mainGlobals "all_at" = some (some (.ref f11))) (l11:K.lookup f11=some ⟨oc11,od11,.func (W.fnOf "all_at" "all_at" (defArgs sallat) (defBody sallat) (defScope sallat) .none kV11 dc11 pm11 an11 cd11 ct11),sl11⟩) (q11:W.codeIn K cd11 "all_at" = true) (k11:W.keepIn K (.ref f11)=true)
  (a12:W.nsIn K mainGlobals "changed_at" = some (some (.ref f12))) (l12:K.lookup f12=some ⟨oc12,od12,.func (W.fnOf "changed_at" "changed_at" (defArgs schangedat) (defBody schangedat) (defScope schangedat) .none kV12 dc12 pm12 an12 cd12 ct12),sl12⟩) (q12:W.codeIn K cd12 "changed_at" = true) (k12:W.keepIn K (.ref f12)=true)
  (a13:W.nsIn K mainGlobals "added_at" = some (some (.ref f13))) (l13:K.lookup f13=some ⟨oc13,od13,.func (W.fnOf "added_at" "added_at" (defArgs saddedat) (defBody saddedat) (defScope saddedat) .none kV13 dc13 pm13 an13 cd13 ct13),sl13⟩) (q13:W.codeIn K cd13 "added_at" = true) (k13:W.keepIn K (.ref f13)=true)
  (a14:W.nsIn K mainGlobals "dropped_at" = some (some (.ref f14))) (l14:K.lookup f14=some ⟨oc14,od14,.func (W.fnOf "dropped_at" "dropped_at" (defArgs sdroppedat) (defBody sdroppedat) (defScope sdroppedat) .none kV14 dc14 pm14 an14 cd14 ct14),sl14⟩) (q14:W.codeIn K cd14 "dropped_at" = true) (k14:W.keepIn K (.ref f14)=true)
  (a15:W.nsIn K mainGlobals "ask_side" = some (some (.ref f15))) (l15:K.lookup f15=some ⟨oc15,od15,.func (W.fnOf "ask_side" "ask_side" (defArgs saskside) (defBody saskside) (defScope saskside) .none kV15 dc15 pm15 an15 cd15 ct15),sl15⟩) (q15:W.codeIn K cd15 "ask_side" = true) (k15:W.keepIn K (.ref f15)=true)
  (a16:W.nsIn K mainGlobals "turned_sides" = some (some (.ref f16))) (l16:K.lookup f16=some ⟨oc16,od16,.func (W.fnOf "turned_sides" "turned_sides" (defArgs sturnedsides) (defBody sturnedsides) (defScope sturnedsides) .none kV16 dc16 pm16 an16 cd16 ct16),sl16⟩) (q16:W.codeIn K cd16 "turned_sides" = true) (k16:W.keepIn K (.ref f16)=true)
  (a17:W.nsIn K mainGlobals "flipped_sides" = some (some (.ref f17))) (l17:K.lookup f17=some ⟨oc17,od17,.func (W.fnOf "flipped_sides" "flipped_sides" (defArgs sflippedsides) (defBody sflippedsides) (defScope sflippedsides) .none kV17 dc17 pm17 an17 cd17 ct17),sl17⟩) (q17:W.codeIn K cd17 "flipped_sides" = true) (k17:W.keepIn K (.ref f17)=true)
  (a18:W.nsIn K mainGlobals "cut_sides" = some (some (.ref f18))) (l18:K.lookup f18=some ⟨oc18,od18,.func (W.fnOf "cut_sides" "cut_sides" (defArgs scutsides) (defBody scutsides) (defScope scutsides) .none kV18 dc18 pm18 an18 cd18 ct18),sl18⟩) (q18:W.codeIn K cd18 "cut_sides" = true) (k18:W.keepIn K (.ref f18)=true)
  (a19:W.nsIn K mainGlobals "spread_sides" = some (some (.ref f19))) (l19:K.lookup f19=some ⟨oc19,od19,.func (W.fnOf "spread_sides" "spread_sides" (defArgs sspreadsides) (defBody sspreadsides) (defScope sspreadsides) .none kV19 dc19 pm19 an19 cd19 ct19),sl19⟩) (q19:W.codeIn K cd19 "spread_sides" = true) (k19:W.keepIn K (.ref f19)=true)
  (a20:W.nsIn K mainGlobals "laid_sides" = some (some (.ref f20))) (l20:K.lookup f20=some ⟨oc20,od20,.func (W.fnOf "laid_sides" "laid_sides" (defArgs slaidsides) (defBody slaidsides) (defScope slaidsides) .none kV20 dc20 pm20 an20 cd20 ct20),sl20⟩) (q20:W.codeIn K cd20 "laid_sides" = true) (k20:W.keepIn K (.ref f20)=true)
  (a21:W.nsIn K mainGlobals "led_sides" = some (some (.ref f21))) (l21:K.lookup f21=some ⟨oc21,od21,.func (W.fnOf "led_sides" "led_sides" (defArgs sledsides) (defBody sledsides) (defScope sledsides) .none kV21 dc21 pm21 an21 cd21 ct21),sl21⟩) (q21:W.codeIn K cd21 "led_sides" = true) (k21:W.keepIn K (.ref f21)=true)
  (a22:W.nsIn K mainGlobals "paired_sides" = some (some (.ref f22))) (l22:K.lookup f22=some ⟨oc22,od22,.func (W.fnOf "paired_sides" "paired_sides" (defArgs spairedsides) (defBody spairedsides) (defScope spairedsides) .none kV22 dc22 pm22 an22 cd22 ct22),sl22⟩) (q22:W.codeIn K cd22 "paired_sides" = true) (k22:W.keepIn K (.ref f22)=true)
  (a23:W.nsIn K mainGlobals "folded_sides" = some (some (.ref f23))) (l23:K.lookup f23=some ⟨oc23,od23,.func (W.fnOf "folded_sides" "folded_sides" (defArgs sfoldedsides) (defBody sfoldedsides) (defScope sfoldedsides) .none kV23 dc23 pm23 an23 cd23 ct23),sl23⟩) (q23:W.codeIn K cd23 "folded_sides" = true) (k23:W.keepIn K (.ref f23)=true)
  (a24:W.nsIn K mainGlobals "table_by" = some (some (.ref f24))) (l24:K.lookup f24=some ⟨oc24,od24,.func (W.fnOf "table_by" "table_by" (defArgs stableby) (defBody stableby) (defScope stableby) .none kV24 dc24 pm24 an24 cd24 ct24),sl24⟩) (q24:W.codeIn K cd24 "table_by" = true) (k24:W.keepIn K (.ref f24)=true)
  (a25:W.nsIn K mainGlobals "cell_at" = some (some (.ref f25))) (l25:K.lookup f25=some ⟨oc25,od25,.func (W.fnOf "cell_at" "cell_at" (defArgs scellat) (defBody scellat) (defScope scellat) .none kV25 dc25 pm25 an25 cd25 ct25),sl25⟩) (q25:W.codeIn K cd25 "cell_at" = true) (k25:W.keepIn K (.ref f25)=true)
  {c26:Addr}
  (a26:W.nsIn K mainGlobals "fold" = some (some (.ref f26))) (l26:K.lookup f26=some ⟨oc26,od26,.func (W.fnOf "fold" "fold" (defArgs sfold) (defBody sfold) (defScope sfold) .none kV26 dc26 pm26 an26 (.ref c26) ct26),sl26⟩) (q26:W.codeIn K (.ref c26) "fold" = true) (k26:W.keepIn K (.ref f26)=true)
  {oc2_26:Value}{od2_26:Option Addr}{vs_26:Array Value}{sl2_26:Array (Option Value)}(h4_26:K.lookup c26=some ⟨oc2_26,od2_26,.fields vs_26,sl2_26⟩) (h5_26:vs_26[11]?=some (.ref TD))
  (a27:W.nsIn K mainGlobals "run" = some (some (.ref f27))) (l27:K.lookup f27=some ⟨oc27,od27,.func (W.fnOf "run" "run" (defArgs srun) (defBody srun) (defScope srun) .none kV27 dc27 pm27 an27 cd27 ct27),sl27⟩) (q27:W.codeIn K cd27 "run" = true) (k27:W.keepIn K (.ref f27)=true)
  {c28:Addr}
  (a28:W.nsIn K mainGlobals "lead" = some (some (.ref f28))) (l28:K.lookup f28=some ⟨oc28,od28,.func (W.fnOf "lead" "lead" (defArgs slead) (defBody slead) (defScope slead) .none kV28 dc28 pm28 an28 (.ref c28) ct28),sl28⟩) (q28:W.codeIn K (.ref c28) "lead" = true) (k28:W.keepIn K (.ref f28)=true)
  {oc2_28:Value}{od2_28:Option Addr}{vs_28:Array Value}{sl2_28:Array (Option Value)}(h4_28:K.lookup c28=some ⟨oc2_28,od2_28,.fields vs_28,sl2_28⟩) (h5_28:vs_28[11]?=some (.ref TL))
  (a29:W.nsIn K mainGlobals "pair" = some (some (.ref f29))) (l29:K.lookup f29=some ⟨oc29,od29,.func (W.fnOf "pair" "pair" (defArgs spair) (defBody spair) (defScope spair) .none kV29 dc29 pm29 an29 cd29 ct29),sl29⟩) (q29:W.codeIn K cd29 "pair" = true) (k29:W.keepIn K (.ref f29)=true)
  {c30:Addr}
  (a30:W.nsIn K mainGlobals "turn" = some (some (.ref f30))) (l30:K.lookup f30=some ⟨oc30,od30,.func (W.fnOf "turn" "turn" (defArgs sturn) (defBody sturn) (defScope sturn) .none kV30 dc30 pm30 an30 (.ref c30) ct30),sl30⟩) (q30:W.codeIn K (.ref c30) "turn" = true) (k30:W.keepIn K (.ref f30)=true)
  {oc2_30:Value}{od2_30:Option Addr}{vs_30:Array Value}{sl2_30:Array (Option Value)}(h4_30:K.lookup c30=some ⟨oc2_30,od2_30,.fields vs_30,sl2_30⟩) (h5_30:vs_30[11]?=some (.ref TT))
  {c31:Addr}
  (a31:W.nsIn K mainGlobals "flip" = some (some (.ref f31))) (l31:K.lookup f31=some ⟨oc31,od31,.func (W.fnOf "flip" "flip" (defArgs sflip) (defBody sflip) (defScope sflip) .none kV31 dc31 pm31 an31 (.ref c31) ct31),sl31⟩) (q31:W.codeIn K (.ref c31) "flip" = true) (k31:W.keepIn K (.ref f31)=true)
  {oc2_31:Value}{od2_31:Option Addr}{vs_31:Array Value}{sl2_31:Array (Option Value)}(h4_31:K.lookup c31=some ⟨oc2_31,od2_31,.fields vs_31,sl2_31⟩) (h5_31:vs_31[11]?=some (.ref TP))
  {c32:Addr}
  (a32:W.nsIn K mainGlobals "cut" = some (some (.ref f32))) (l32:K.lookup f32=some ⟨oc32,od32,.func (W.fnOf "cut" "cut" (defArgs scut) (defBody scut) (defScope scut) .none kV32 dc32 pm32 an32 (.ref c32) ct32),sl32⟩) (q32:W.codeIn K (.ref c32) "cut" = true) (k32:W.keepIn K (.ref f32)=true)
  {oc2_32:Value}{od2_32:Option Addr}{vs_32:Array Value}{sl2_32:Array (Option Value)}(h4_32:K.lookup c32=some ⟨oc2_32,od2_32,.fields vs_32,sl2_32⟩) (h5_32:vs_32[11]?=some (.ref TU))
  {c33:Addr}
  (a33:W.nsIn K mainGlobals "spread" = some (some (.ref f33))) (l33:K.lookup f33=some ⟨oc33,od33,.func (W.fnOf "spread" "spread" (defArgs sspread) (defBody sspread) (defScope sspread) .none kV33 dc33 pm33 an33 (.ref c33) ct33),sl33⟩) (q33:W.codeIn K (.ref c33) "spread" = true) (k33:W.keepIn K (.ref f33)=true)
  {oc2_33:Value}{od2_33:Option Addr}{vs_33:Array Value}{sl2_33:Array (Option Value)}(h4_33:K.lookup c33=some ⟨oc2_33,od2_33,.fields vs_33,sl2_33⟩) (h5_33:vs_33[11]?=some (.ref TS))
  (a34:W.nsIn K mainGlobals "lay" = some (some (.ref f34))) (l34:K.lookup f34=some ⟨oc34,od34,.func (W.fnOf "lay" "lay" (defArgs slay) (defBody slay) (defScope slay) .none kV34 dc34 pm34 an34 cd34 ct34),sl34⟩) (q34:W.codeIn K cd34 "lay" = true) (k34:W.keepIn K (.ref f34)=true)
  (a35:W.nsIn K mainGlobals "_law_whole" = some (some (.ref f35))) (l35:K.lookup f35=some ⟨oc35,od35,.func (W.fnOf "_law_whole" "_law_whole" (defArgs slawwhole) (defBody slawwhole) (defScope slawwhole) .none kV35 dc35 pm35 an35 cd35 ct35),sl35⟩) (q35:W.codeIn K cd35 "_law_whole" = true) (k35:W.keepIn K (.ref f35)=true)
  (a36:W.nsIn K mainGlobals "_law_cell_at" = some (some (.ref f36))) (l36:K.lookup f36=some ⟨oc36,od36,.func (W.fnOf "_law_cell_at" "_law_cell_at" (defArgs slawcellat) (defBody slawcellat) (defScope slawcellat) .none kV36 dc36 pm36 an36 cd36 ct36),sl36⟩) (q36:W.codeIn K cd36 "_law_cell_at" = true) (k36:W.keepIn K (.ref f36)=true)
  (a37:W.nsIn K mainGlobals "_law_sides" = some (some (.ref f37))) (l37:K.lookup f37=some ⟨oc37,od37,.func (W.fnOf "_law_sides" "_law_sides" (defArgs slawsides) (defBody slawsides) (defScope slawsides) .none kV37 dc37 pm37 an37 cd37 ct37),sl37⟩) (q37:W.codeIn K cd37 "_law_sides" = true) (k37:W.keepIn K (.ref f37)=true)
  (a38:W.nsIn K mainGlobals "_law_is_sides" = some (some (.ref f38))) (l38:K.lookup f38=some ⟨oc38,od38,.func (W.fnOf "_law_is_sides" "_law_is_sides" (defArgs slawissides) (defBody slawissides) (defScope slawissides) .none kV38 dc38 pm38 an38 cd38 ct38),sl38⟩) (q38:W.codeIn K cd38 "_law_is_sides" = true) (k38:W.keepIn K (.ref f38)=true)
  (a39:W.nsIn K mainGlobals "_law_size" = some (some (.ref f39))) (l39:K.lookup f39=some ⟨oc39,od39,.func (W.fnOf "_law_size" "_law_size" (defArgs slawsize) (defBody slawsize) (defScope slawsize) .none kV39 dc39 pm39 an39 cd39 ct39),sl39⟩) (q39:W.codeIn K cd39 "_law_size" = true) (k39:W.keepIn K (.ref f39)=true)
  (a40:W.nsIn K mainGlobals "_law_number" = some (some (.ref f40))) (l40:K.lookup f40=some ⟨oc40,od40,.func (W.fnOf "_law_number" "_law_number" (defArgs slawnumber) (defBody slawnumber) (defScope slawnumber) .none kV40 dc40 pm40 an40 cd40 ct40),sl40⟩) (q40:W.codeIn K cd40 "_law_number" = true) (k40:W.keepIn K (.ref f40)=true)
  (a41:W.nsIn K mainGlobals "_law_cells" = some (some (.ref f41))) (l41:K.lookup f41=some ⟨oc41,od41,.func (W.fnOf "_law_cells" "_law_cells" (defArgs slawcells) (defBody slawcells) (defScope slawcells) .none kV41 dc41 pm41 an41 cd41 ct41),sl41⟩) (q41:W.codeIn K cd41 "_law_cells" = true) (k41:W.keepIn K (.ref f41)=true)
  (a42:W.nsIn K mainGlobals "_law_order" = some (some (.ref f42))) (l42:K.lookup f42=some ⟨oc42,od42,.func (W.fnOf "_law_order" "_law_order" (defArgs slaworder) (defBody slaworder) (defScope slaworder) .none kV42 dc42 pm42 an42 cd42 ct42),sl42⟩) (q42:W.codeIn K cd42 "_law_order" = true) (k42:W.keepIn K (.ref f42)=true)
  (a43:W.nsIn K mainGlobals "_law_alike" = some (some (.ref f43))) (l43:K.lookup f43=some ⟨oc43,od43,.func (W.fnOf "_law_alike" "_law_alike" (defArgs slawalike) (defBody slawalike) (defScope slawalike) .none kV43 dc43 pm43 an43 cd43 ct43),sl43⟩) (q43:W.codeIn K cd43 "_law_alike" = true) (k43:W.keepIn K (.ref f43)=true)
  (a44:W.nsIn K mainGlobals "_law_without" = some (some (.ref f44))) (l44:K.lookup f44=some ⟨oc44,od44,.func (W.fnOf "_law_without" "_law_without" (defArgs slawwithout) (defBody slawwithout) (defScope slawwithout) .none kV44 dc44 pm44 an44 cd44 ct44),sl44⟩) (q44:W.codeIn K cd44 "_law_without" = true) (k44:W.keepIn K (.ref f44)=true)
  (a45:W.nsIn K mainGlobals "_law_turned" = some (some (.ref f45))) (l45:K.lookup f45=some ⟨oc45,od45,.func (W.fnOf "_law_turned" "_law_turned" (defArgs slawturned) (defBody slawturned) (defScope slawturned) .none kV45 dc45 pm45 an45 cd45 ct45),sl45⟩) (q45:W.codeIn K cd45 "_law_turned" = true) (k45:W.keepIn K (.ref f45)=true)
  (a46:W.nsIn K mainGlobals "_law_parted" = some (some (.ref f46))) (l46:K.lookup f46=some ⟨oc46,od46,.func (W.fnOf "_law_parted" "_law_parted" (defArgs slawparted) (defBody slawparted) (defScope slawparted) .none kV46 dc46 pm46 an46 cd46 ct46),sl46⟩) (q46:W.codeIn K cd46 "_law_parted" = true) (k46:W.keepIn K (.ref f46)=true)
  (a47:W.nsIn K mainGlobals "_law_two" = some (some (.ref f47))) (l47:K.lookup f47=some ⟨oc47,od47,.func (W.fnOf "_law_two" "_law_two" (defArgs slawtwo) (defBody slawtwo) (defScope slawtwo) .none kV47 dc47 pm47 an47 cd47 ct47),sl47⟩) (q47:W.codeIn K cd47 "_law_two" = true) (k47:W.keepIn K (.ref f47)=true)
  (a48:W.nsIn K mainGlobals "_law_spread_out" = some (some (.ref f48))) (l48:K.lookup f48=some ⟨oc48,od48,.func (W.fnOf "_law_spread_out" "_law_spread_out" (defArgs slawspreadout) (defBody slawspreadout) (defScope slawspreadout) .none kV48 dc48 pm48 an48 cd48 ct48),sl48⟩) (q48:W.codeIn K cd48 "_law_spread_out" = true) (k48:W.keepIn K (.ref f48)=true)
  (a49:W.nsIn K mainGlobals "law" = some (some (.ref f49))) (l49:K.lookup f49=some ⟨oc49,od49,.func (W.fnOf "law" "law" (defArgs slaw) (defBody slaw) (defScope slaw) .none kV49 dc49 pm49 an49 cd49 ct49),sl49⟩) (q49:W.codeIn K cd49 "law" = true) (k49:W.keepIn K (.ref f49)=true)
  (zmax:W.nsIn K mainGlobals "max" = some none)
  (zmin:W.nsIn K mainGlobals "min" = some none)
  (zlen:W.nsIn K mainGlobals "len" = some none)
  (ztuple:W.nsIn K mainGlobals "tuple" = some none)
  (zreversed:W.nsIn K mainGlobals "reversed" = some none)
  (zzip:W.nsIn K mainGlobals "zip" = some none)
  (zsum:W.nsIn K mainGlobals "sum" = some none)
  (zrange:W.nsIn K mainGlobals "range" = some none)
  (zsorted:W.nsIn K mainGlobals "sorted" = some none)
  (zlist:W.nsIn K mainGlobals "list" = some none)
  (zenumerate:W.nsIn K mainGlobals "enumerate" = some none)
  (zisinstance:W.nsIn K mainGlobals "isinstance" = some none)
  (zint:W.nsIn K mainGlobals "int" = some none)
  (zbool:W.nsIn K mainGlobals "bool" = some none)
  {tLOW:Tok}(gLOW:W.nsIn K mainGlobals "LOW" = some (some (.int (-9223372036854775808) tLOW)))
  {tHIGH:Tok}(gHIGH:W.nsIn K mainGlobals "HIGH" = some (some (.int 9223372036854775807 tHIGH)))
  {tMOST_SIDES:Tok}(gMOST_SIDES:W.nsIn K mainGlobals "MOST_SIDES" = some (some (.int 6 tMOST_SIDES)))
  {tMOST_BREADTH:Tok}(gMOST_BREADTH:W.nsIn K mainGlobals "MOST_BREADTH" = some (some (.int 512 tMOST_BREADTH)))
  {CNoWord:Addr}(nNoWord:W.nsIn K mainGlobals "NoWord" = some (some (.ref CNoWord)))
  {CTooLarge:Addr}(nTooLarge:W.nsIn K mainGlobals "TooLarge" = some (some (.ref CTooLarge)))
  {CNoPlace:Addr}(nNoPlace:W.nsIn K mainGlobals "NoPlace" = some (some (.ref CNoPlace)))
  {CNoSide:Addr}(nNoSide:W.nsIn K mainGlobals "NoSide" = some (some (.ref CNoSide)))
  {CBeyond:Addr}(nBeyond:W.nsIn K mainGlobals "Beyond" = some (some (.ref CBeyond)))
  {CUnlike:Addr}(nUnlike:W.nsIn K mainGlobals "Unlike" = some (some (.ref CUnlike)))
  (xNoWord:W.excIn K CNoWord [.type "ValueError",.type "Exception",.type "BaseException",.type "object"] "ValueError.__new__" = true)
  (xTooLarge:W.excIn K CTooLarge [.type "ValueError",.type "Exception",.type "BaseException",.type "object"] "ValueError.__new__" = true)
  (xUnlike:W.excIn K CUnlike [.type "ValueError",.type "Exception",.type "BaseException",.type "object"] "ValueError.__new__" = true)
  (xNoSide:W.excIn K CNoSide [.type "ValueError",.type "Exception",.type "BaseException",.type "object"] "ValueError.__new__" = true)
  (xBeyond:W.excIn K CBeyond [.type "ValueError",.type "Exception",.type "BaseException",.type "object"] "ValueError.__new__" = true)
  (xNoPlace:W.excIn K CNoPlace [.type "ValueError",.type "Exception",.type "BaseException",.type "object"] "ValueError.__new__" = true)
  (nd6:((T6 TD TL TT TP TU TS).map λ x=>x.1).Nodup)
  : ∃(fd:FuncData) (tbs:List (Str × Addr × Addr)),(∀p∈tbs,W.tabIn K p.1=some p.2/\p.1∈(["fold", "lead", "turn", "flip", "cut", "spread"]:List Str))/\(∀(s:Shared) (v:Value),BindsTo s fd ⟨[v],[]⟩ [("script",v)])/\∀base:Heap,K.In base->base.Ns mainGlobals mg->(∀p∈tbs,TabF base mg p.2.1 p.2.2)->FnOk l.prog w K mg base CX0 11 fa fd ["script"] (splawT K (tbs.map λ p=>p.2.2)):=by
 have e:=hfa.symm.trans (W.mg_of X G a49)
 cases e
 have F0:=z0w (st:=swrapped) l0 q0 k0
 have b0:=F0.binds (ps:=["n"]) λ _ _ _ _ _ _ us hl=>by
  obtain ⟨_,rfl⟩:=z2p hl
  rfl
 have F1:=z0w (st:=squotient) l1 q1 k1
 have b1:=F1.binds (ps:=["x", "y"]) λ _ _ _ _ _ _ us hl=>by
  obtain ⟨_,_,rfl⟩:=z1h hl
  rfl
 have F2:=z0w (st:=sremainder) l2 q2 k2
 have b2:=F2.binds (ps:=["x", "y"]) λ _ _ _ _ _ _ us hl=>by
  obtain ⟨_,_,rfl⟩:=z1h hl
  rfl
 have F3:=z0w (st:=stwice) l3 q3 k3
 have b3:=F3.binds (ps:=["word", "x", "y"]) λ _ _ _ _ _ _ us hl=>by
  obtain ⟨_,_,_,rfl⟩:=z2z hl
  rfl
 have F4:=z0w (st:=sneutral) l4 q4 k4
 have b4:=F4.binds (ps:=["word"]) λ _ _ _ _ _ _ us hl=>by
  obtain ⟨_,rfl⟩:=z2p hl
  rfl
 have F5:=z0w (st:=samount) l5 q5 k5
 have b5:=F5.binds (ps:=["sides"]) λ _ _ _ _ _ _ us hl=>by
  obtain ⟨_,rfl⟩:=z2p hl
  rfl
 have F6:=z0w (st:=sbreadth) l6 q6 k6
 have b6:=F6.binds (ps:=["sides"]) λ _ _ _ _ _ _ us hl=>by
  obtain ⟨_,rfl⟩:=z2p hl
  rfl
 have F7:=z0w (st:=sallowed) l7 q7 k7
 have b7:=F7.binds (ps:=["sides"]) λ _ _ _ _ _ _ us hl=>by
  obtain ⟨_,rfl⟩:=z2p hl
  rfl
 have F8:=z0w (st:=sstridesof) l8 q8 k8
 have b8:=F8.binds (ps:=["sides"]) λ _ _ _ _ _ _ us hl=>by
  obtain ⟨_,rfl⟩:=z2p hl
  rfl
 have F9:=z0w (st:=splaceof) l9 q9 k9
 have b9:=F9.binds (ps:=["sides", "at"]) λ _ _ _ _ _ _ us hl=>by
  obtain ⟨_,_,rfl⟩:=z1h hl
  rfl
 have F10:=z0w (st:=satof) l10 q10 k10
 have b10:=F10.binds (ps:=["sides", "place"]) λ _ _ _ _ _ _ us hl=>by
  obtain ⟨_,_,rfl⟩:=z1h hl
  rfl
 have F11:=z0w (st:=sallat) l11 q11 k11
 have b11:=F11.binds (ps:=["sides"]) λ _ _ _ _ _ _ us hl=>by
  obtain ⟨_,rfl⟩:=z2p hl
  rfl
 have F12:=z0w (st:=schangedat) l12 q12 k12
 have b12:=F12.binds (ps:=["row", "k", "number"]) λ _ _ _ _ _ _ us hl=>by
  obtain ⟨_,_,_,rfl⟩:=z2z hl
  rfl
 have F13:=z0w (st:=saddedat) l13 q13 k13
 have b13:=F13.binds (ps:=["row", "k", "number"]) λ _ _ _ _ _ _ us hl=>by
  obtain ⟨_,_,_,rfl⟩:=z2z hl
  rfl
 have F14:=z0w (st:=sdroppedat) l14 q14 k14
 have b14:=F14.binds (ps:=["row", "k"]) λ _ _ _ _ _ _ us hl=>by
  obtain ⟨_,_,rfl⟩:=z1h hl
  rfl
 have F15:=z0w (st:=saskside) l15 q15 k15
 have b15:=F15.binds (ps:=["sides", "side"]) λ _ _ _ _ _ _ us hl=>by
  obtain ⟨_,_,rfl⟩:=z1h hl
  rfl
 have F16:=z0w (st:=sturnedsides) l16 q16 k16
 have b16:=F16.binds (ps:=["sides", "order"]) λ _ _ _ _ _ _ us hl=>by
  obtain ⟨_,_,rfl⟩:=z1h hl
  rfl
 have F17:=z0w (st:=sflippedsides) l17 q17 k17
 have b17:=F17.binds (ps:=["sides", "side"]) λ _ _ _ _ _ _ us hl=>by
  obtain ⟨_,_,rfl⟩:=z1h hl
  rfl
 have F18:=z0w (st:=scutsides) l18 q18 k18
 have b18:=F18.binds (ps:=["sides", "side", "first", "many", "step"]) λ _ _ _ _ _ _ us hl=>by
  obtain ⟨_,_,_,_,_,rfl⟩:=z6l hl
  rfl
 have F19:=z0w (st:=sspreadsides) l19 q19 k19
 have b19:=F19.binds (ps:=["sides", "side", "many"]) λ _ _ _ _ _ _ us hl=>by
  obtain ⟨_,_,_,rfl⟩:=z2z hl
  rfl
 have F20:=z0w (st:=slaidsides) l20 q20 k20
 have b20:=F20.binds (ps:=["sides", "others"]) λ _ _ _ _ _ _ us hl=>by
  obtain ⟨_,_,rfl⟩:=z1h hl
  rfl
 have F21:=z0w (st:=sledsides) l21 q21 k21
 have b21:=F21.binds (ps:=["sides", "others"]) λ _ _ _ _ _ _ us hl=>by
  obtain ⟨_,_,rfl⟩:=z1h hl
  rfl
 have F22:=z0w (st:=spairedsides) l22 q22 k22
 have b22:=F22.binds (ps:=["sides", "others"]) λ _ _ _ _ _ _ us hl=>by
  obtain ⟨_,_,rfl⟩:=z1h hl
  rfl
 have F23:=z0w (st:=sfoldedsides) l23 q23 k23
 have b23:=F23.binds (ps:=["sides", "side"]) λ _ _ _ _ _ _ us hl=>by
  obtain ⟨_,_,rfl⟩:=z1h hl
  rfl
 have F24:=z0w (st:=stableby) l24 q24 k24
 have b24:=F24.binds (ps:=["sides", "number_at"]) λ _ _ _ _ _ _ us hl=>by
  obtain ⟨_,_,rfl⟩:=z1h hl
  rfl
 have F25:=z0w (st:=scellat) l25 q25 k25
 have b25:=F25.binds (ps:=["tab", "at"]) λ _ _ _ _ _ _ us hl=>by
  obtain ⟨_,_,rfl⟩:=z1h hl
  rfl
 have F26:=z0w (st:=sfold) l26 q26 k26
 have b26:=F26.binds (ps:=["word", "tab", "side"]) λ _ _ _ _ _ _ us hl=>by
  obtain ⟨_,_,_,rfl⟩:=z2z hl
  rfl
 have F27:=z0w (st:=srun) l27 q27 k27
 have b27:=F27.binds (ps:=["word", "tab", "side"]) λ _ _ _ _ _ _ us hl=>by
  obtain ⟨_,_,_,rfl⟩:=z2z hl
  rfl
 have F28:=z0w (st:=slead) l28 q28 k28
 have b28:=F28.binds (ps:=["tab", "sides"]) λ _ _ _ _ _ _ us hl=>by
  obtain ⟨_,_,rfl⟩:=z1h hl
  rfl
 have F29:=z0w (st:=spair) l29 q29 k29
 have b29:=F29.binds (ps:=["word", "tab", "other"]) λ _ _ _ _ _ _ us hl=>by
  obtain ⟨_,_,_,rfl⟩:=z2z hl
  rfl
 have F30:=z0w (st:=sturn) l30 q30 k30
 have b30:=F30.binds (ps:=["tab", "order"]) λ _ _ _ _ _ _ us hl=>by
  obtain ⟨_,_,rfl⟩:=z1h hl
  rfl
 have F31:=z0w (st:=sflip) l31 q31 k31
 have b31:=F31.binds (ps:=["tab", "side"]) λ _ _ _ _ _ _ us hl=>by
  obtain ⟨_,_,rfl⟩:=z1h hl
  rfl
 have F32:=z0w (st:=scut) l32 q32 k32
 have b32:=F32.binds (ps:=["tab", "side", "first", "many", "step"]) λ _ _ _ _ _ _ us hl=>by
  obtain ⟨_,_,_,_,_,rfl⟩:=z6l hl
  rfl
 have F33:=z0w (st:=sspread) l33 q33 k33
 have b33:=F33.binds (ps:=["tab", "side", "many"]) λ _ _ _ _ _ _ us hl=>by
  obtain ⟨_,_,_,rfl⟩:=z2z hl
  rfl
 have F34:=z0w (st:=slay) l34 q34 k34
 have b34:=F34.binds (ps:=["tab", "sides"]) λ _ _ _ _ _ _ us hl=>by
  obtain ⟨_,_,rfl⟩:=z1h hl
  rfl
 have F35:=z0w (st:=slawwhole) l35 q35 k35
 have b35:=F35.binds (ps:=["found"]) λ _ _ _ _ _ _ us hl=>by
  obtain ⟨_,rfl⟩:=z2p hl
  rfl
 have F36:=z0w (st:=slawcellat) l36 q36 k36
 have b36:=F36.binds (ps:=["script", "k"]) λ _ _ _ _ _ _ us hl=>by
  obtain ⟨_,_,rfl⟩:=z1h hl
  rfl
 have F37:=z0w (st:=slawsides) l37 q37 k37
 have b37:=F37.binds (ps:=["script", "at"]) λ _ _ _ _ _ _ us hl=>by
  obtain ⟨_,_,rfl⟩:=z1h hl
  rfl
 have F38:=z0w (st:=slawissides) l38 q38 k38
 have b38:=F38.binds (ps:=["found", "due"]) λ _ _ _ _ _ _ us hl=>by
  obtain ⟨_,_,rfl⟩:=z1h hl
  rfl
 have F39:=z0w (st:=slawsize) l39 q39 k39
 have b39:=F39.binds (ps:=["sides"]) λ _ _ _ _ _ _ us hl=>by
  obtain ⟨_,rfl⟩:=z2p hl
  rfl
 have F40:=z0w (st:=slawnumber) l40 q40 k40
 have b40:=F40.binds (ps:=["n"]) λ _ _ _ _ _ _ us hl=>by
  obtain ⟨_,rfl⟩:=z2p hl
  rfl
 have F41:=z0w (st:=slawcells) l41 q41 k41
 have b41:=F41.binds (ps:=["script", "begin", "size", "salt"]) λ _ _ _ _ _ _ us hl=>by
  obtain ⟨_,_,_,_,rfl⟩:=x2d hl
  rfl
 have F42:=z0w (st:=slaworder) l42 q42 k42
 have b42:=F42.binds (ps:=["script", "at", "count"]) λ _ _ _ _ _ _ us hl=>by
  obtain ⟨_,_,_,rfl⟩:=z2z hl
  rfl
 have F43:=z0w (st:=slawalike) l43 q43 k43
 have b43:=F43.binds (ps:=["found", "other", "sides"]) λ _ _ _ _ _ _ us hl=>by
  obtain ⟨_,_,_,rfl⟩:=z2z hl
  rfl
 have F44:=z0w (st:=slawwithout) l44 q44 k44
 have b44:=F44.binds (ps:=["sides", "side"]) λ _ _ _ _ _ _ us hl=>by
  obtain ⟨_,_,rfl⟩:=z1h hl
  rfl
 have F45:=z0w (st:=slawturned) l45 q45 k45
 have b45:=F45.binds (ps:=["word", "tab", "side", "order", "kept"]) λ _ _ _ _ _ _ us hl=>by
  obtain ⟨_,_,_,_,_,rfl⟩:=z6l hl
  rfl
 have F46:=z0w (st:=slawparted) l46 q46 k46
 have b46:=F46.binds (ps:=["word", "tab", "side", "first", "kept"]) λ _ _ _ _ _ _ us hl=>by
  obtain ⟨_,_,_,_,_,rfl⟩:=z6l hl
  rfl
 have F47:=z0w (st:=slawtwo) l47 q47 k47
 have b47:=F47.binds (ps:=["word", "tab", "side", "along", "kept"]) λ _ _ _ _ _ _ us hl=>by
  obtain ⟨_,_,_,_,_,rfl⟩:=z6l hl
  rfl
 have F48:=z0w (st:=slawspreadout) l48 q48 k48
 have b48:=F48.binds (ps:=["word", "tab", "side", "place", "many", "kept"]) λ _ _ _ _ _ _ us hl=>by
  obtain ⟨_,_,_,_,_,_,rfl⟩:=x2c hl
  rfl
 have F49:=z0w (st:=slaw) l49 q49 k49
 have b49:=F49.binds (ps:=["script"]) λ _ _ _ _ _ _ us hl=>by
  obtain ⟨_,rfl⟩:=z2p hl
  rfl
 refine ⟨W.fnOf "law" "law" (defArgs slaw) (defBody slaw) (defScope slaw) .none kV49 dc49 pm49 an49 cd49 ct49,[("fold",c26,TD),("lead",c28,TL),("turn",c30,TT),("flip",c31,TP),("cut",c32,TU),("spread",c33,TS)],(fc ⟨z3y a26 l26 rfl h4_26 h5_26,by simp⟩ (fc ⟨z3y a28 l28 rfl h4_28 h5_28,by simp⟩ (fc ⟨z3y a30 l30 rfl h4_30 h5_30,by simp⟩ (fc ⟨z3y a31 l31 rfl h4_31 h5_31,by simp⟩ (fc ⟨z3y a32 l32 rfl h4_32 h5_32,by simp⟩ (fc ⟨z3y a33 l33 rfl h4_33 h5_33,by simp⟩ fc0)))))),λ s v=>.of_eq rfl,λ base KB GB tf=>?_⟩
 have O_wrapped:=y6h (P:=l.prog) (w:=w) (base:=base) (mg:=mg) F0 (W.mg_of X G gLOW)
 have C_wrapped:=Callee.mk' F0 (W.mg_of X G a0) b0 O_wrapped
 have O_quotient:=y3u (P:=l.prog) (w:=w) (base:=base) (mg:=mg) F1 (C_wrapped.mono (by decide))
 have C_quotient:=Callee.mk' F1 (W.mg_of X G a1) b1 O_quotient
 have O_remainder:=y1c (P:=l.prog) (w:=w) (base:=base) (mg:=mg) F2
 have C_remainder:=Callee.mk' F2 (W.mg_of X G a2) b2 O_remainder
 have O_twice:=x2x (P:=l.prog) (w:=w) (base:=base) (mg:=mg) F3 (C_wrapped.mono (by decide)) (C_quotient.mono (by decide)) (C_remainder.mono (by decide)) (W.mg_none_of X G zmax) (W.mg_none_of X G zmin)
 have C_twice:=Callee.mk' F3 (W.mg_of X G a3) b3 O_twice
 have O_neutral:=y6k (P:=l.prog) (w:=w) (base:=base) (mg:=mg) F4 nNoWord (W.mg_of X G gLOW) (W.mg_of X G gHIGH) xNoWord
 have C_neutral:=Callee.mk' F4 (W.mg_of X G a4) b4 O_neutral
 have O_amount:=y9z (P:=l.prog) (w:=w) (base:=base) (mg:=mg) F5
 have C_amount:=Callee.mk' F5 (W.mg_of X G a5) b5 O_amount
 have O_breadth:=y6m (P:=l.prog) (w:=w) (base:=base) (mg:=mg) F6 (C_amount.mono (by decide))
 have C_breadth:=Callee.mk' F6 (W.mg_of X G a6) b6 O_breadth
 have O_allowed:=y6o (P:=l.prog) (w:=w) (base:=base) (mg:=mg) F7 nTooLarge (C_breadth.mono (by decide)) (W.mg_none_of X G zlen) (W.mg_of X G gMOST_SIDES) (W.mg_of X G gMOST_BREADTH) xTooLarge
 have C_allowed:=Callee.mk' F7 (W.mg_of X G a7) b7 O_allowed
 have O_stridesof:=y1b (P:=l.prog) (w:=w) (base:=base) (mg:=mg) F8 (W.mg_none_of X G ztuple) (W.mg_none_of X G zreversed)
 have C_stridesof:=Callee.mk' F8 (W.mg_of X G a8) b8 O_stridesof
 have O_placeof:=y6j (P:=l.prog) (w:=w) (base:=base) (mg:=mg) F9 nNoPlace (C_stridesof.mono (by decide)) (W.mg_none_of X G zlen) (W.mg_none_of X G zzip) (W.mg_none_of X G zsum) xNoPlace
 have C_placeof:=Callee.mk' F9 (W.mg_of X G a9) b9 O_placeof
 have O_atof:=x5l (P:=l.prog) (w:=w) (base:=base) (mg:=mg) F10 nNoPlace (C_amount.mono (by decide)) (W.mg_none_of X G zreversed) (W.mg_none_of X G ztuple) xNoPlace
 have C_atof:=Callee.mk' F10 (W.mg_of X G a10) b10 O_atof
 have O_allat:=x2y (P:=l.prog) (w:=w) (base:=base) (mg:=mg) F11 (C_atof.mono (by decide)) (C_amount.mono (by decide)) (W.mg_none_of X G zrange)
 have C_allat:=Callee.mk' F11 (W.mg_of X G a11) b11 O_allat
 have O_changedat:=y1j (P:=l.prog) (w:=w) (base:=base) (mg:=mg) F12
 have C_changedat:=Callee.mk' F12 (W.mg_of X G a12) b12 O_changedat
 have O_addedat:=y6p (P:=l.prog) (w:=w) (base:=base) (mg:=mg) F13
 have C_addedat:=Callee.mk' F13 (W.mg_of X G a13) b13 O_addedat
 have O_droppedat:=y1i (P:=l.prog) (w:=w) (base:=base) (mg:=mg) F14
 have C_droppedat:=Callee.mk' F14 (W.mg_of X G a14) b14 O_droppedat
 have O_askside:=y6n (P:=l.prog) (w:=w) (base:=base) (mg:=mg) F15 nNoSide (W.mg_none_of X G zlen) xNoSide
 have C_askside:=Callee.mk' F15 (W.mg_of X G a15) b15 O_askside
 have O_turnedsides:=z8o (P:=l.prog) (w:=w) (base:=base) (mg:=mg) F16 nNoSide (W.mg_none_of X G zsorted) (W.mg_none_of X G zlist) (W.mg_none_of X G zrange) (W.mg_none_of X G zlen) (W.mg_none_of X G ztuple) xNoSide
 have C_turnedsides:=Callee.mk' F16 (W.mg_of X G a16) b16 O_turnedsides
 have O_flippedsides:=z7i (P:=l.prog) (w:=w) (base:=base) (mg:=mg) F17 nNoSide (C_askside.mono (by decide))
 have C_flippedsides:=Callee.mk' F17 (W.mg_of X G a17) b17 O_flippedsides
 have O_cutsides:=y4b (P:=l.prog) (w:=w) (base:=base) (mg:=mg) F18 nNoSide nBeyond (C_askside.mono (by decide)) (C_changedat.mono (by decide)) xBeyond
 have C_cutsides:=Callee.mk' F18 (W.mg_of X G a18) b18 O_cutsides
 have O_spreadsides:=z8p (P:=l.prog) (w:=w) (base:=base) (mg:=mg) F19 nNoSide nBeyond nTooLarge (C_addedat.mono (by decide)) (C_allowed.mono (by decide)) (W.mg_none_of X G zlen) xNoSide xBeyond
 have C_spreadsides:=Callee.mk' F19 (W.mg_of X G a19) b19 O_spreadsides
 have O_laidsides:=y1h (P:=l.prog) (w:=w) (base:=base) (mg:=mg) F20 nTooLarge nUnlike (C_allowed.mono (by decide)) (C_amount.mono (by decide)) xUnlike
 have C_laidsides:=Callee.mk' F20 (W.mg_of X G a20) b20 O_laidsides
 have O_ledsides:=y3v (P:=l.prog) (w:=w) (base:=base) (mg:=mg) F21 nUnlike (W.mg_none_of X G zlen) xUnlike
 have C_ledsides:=Callee.mk' F21 (W.mg_of X G a21) b21 O_ledsides
 have O_pairedsides:=z8q (P:=l.prog) (w:=w) (base:=base) (mg:=mg) F22 nUnlike (C_ledsides.mono (by decide)) (W.mg_none_of X G zlen)
 have C_pairedsides:=Callee.mk' F22 (W.mg_of X G a22) b22 O_pairedsides
 have O_foldedsides:=z8r (P:=l.prog) (w:=w) (base:=base) (mg:=mg) F23 nNoSide (C_askside.mono (by decide)) (C_droppedat.mono (by decide))
 have C_foldedsides:=Callee.mk' F23 (W.mg_of X G a23) b23 O_foldedsides
 have O_tableby:=y6i (P:=l.prog) (w:=w) (base:=base) (mg:=mg) F24 (C_allat.mono (by decide)) (W.mg_none_of X G ztuple)
 have C_tableby:=Callee.mk' F24 (W.mg_of X G a24) b24 O_tableby
 have O_cellat:=y9y (P:=l.prog) (w:=w) (base:=base) (mg:=mg) F25 (C_placeof.mono (by decide))
 have C_cellat:=Callee.mk' F25 (W.mg_of X G a25) b25 O_cellat
 have O_fold:=x5j (P:=l.prog) (w:=w) (base:=base) (mg:=mg) F26 rfl (tf ("fold",c26,TD) (by simp)) nNoWord nNoSide (C_tableby.mono (by decide)) (C_foldedsides.mono (by decide)) (C_neutral.mono (by decide)) (W.mg_none_of X G zrange) (C_cellat.mono (by decide)) (C_addedat.mono (by decide)) (C_twice.mono (by decide))
 have C_fold:=Callee.mk' F26 (W.mg_of X G a26) b26 O_fold
 have O_run:=x6z (P:=l.prog) (w:=w) (base:=base) (mg:=mg) F27 nNoWord nNoSide (C_neutral.mono (by decide)) (C_askside.mono (by decide)) (C_stridesof.mono (by decide)) (C_twice.mono (by decide)) (W.mg_none_of X G zenumerate) (W.mg_none_of X G ztuple)
 have C_run:=Callee.mk' F27 (W.mg_of X G a27) b27 O_run
 have O_lead:=x5i (P:=l.prog) (w:=w) (base:=base) (mg:=mg) F28 rfl (tf ("lead",c28,TL) (by simp)) nUnlike (C_tableby.mono (by decide)) (C_ledsides.mono (by decide)) (W.mg_none_of X G zlen) (C_cellat.mono (by decide))
 have C_lead:=Callee.mk' F28 (W.mg_of X G a28) b28 O_lead
 have O_pair:=x5h (P:=l.prog) (w:=w) (base:=base) (mg:=mg) F29 nUnlike (C_twice.mono (by decide)) (C_pairedsides.mono (by decide)) (C_lead.mono (by decide)) (W.mg_none_of X G ztuple) (W.mg_none_of X G zzip)
 have C_pair:=Callee.mk' F29 (W.mg_of X G a29) b29 O_pair
 have O_turn:=x5g (P:=l.prog) (w:=w) (base:=base) (mg:=mg) F30 rfl (tf ("turn",c30,TT) (by simp)) nNoSide (C_tableby.mono (by decide)) (C_turnedsides.mono (by decide)) (W.mg_none_of X G zrange) (W.mg_none_of X G zlen) (W.mg_none_of X G ztuple) (C_cellat.mono (by decide))
 have C_turn:=Callee.mk' F30 (W.mg_of X G a30) b30 O_turn
 have O_flip:=x5k (P:=l.prog) (w:=w) (base:=base) (mg:=mg) F31 rfl (tf ("flip",c31,TP) (by simp)) nNoSide (C_tableby.mono (by decide)) (C_flippedsides.mono (by decide)) (C_cellat.mono (by decide)) (C_changedat.mono (by decide))
 have C_flip:=Callee.mk' F31 (W.mg_of X G a31) b31 O_flip
 have O_cut:=x7c (P:=l.prog) (w:=w) (base:=base) (mg:=mg) F32 rfl (tf ("cut",c32,TU) (by simp)) nNoSide nBeyond (C_tableby.mono (by decide)) (C_cutsides.mono (by decide)) (C_cellat.mono (by decide)) (C_changedat.mono (by decide))
 have C_cut:=Callee.mk' F32 (W.mg_of X G a32) b32 O_cut
 have O_spread:=y9w (P:=l.prog) (w:=w) (base:=base) (mg:=mg) F33 rfl (tf ("spread",c33,TS) (by simp)) nNoSide nBeyond nTooLarge (C_tableby.mono (by decide)) (C_spreadsides.mono (by decide)) (C_cellat.mono (by decide)) (C_droppedat.mono (by decide))
 have C_spread:=Callee.mk' F33 (W.mg_of X G a33) b33 O_spread
 have O_lay:=x7a (P:=l.prog) (w:=w) (base:=base) (mg:=mg) F34 nTooLarge nUnlike (C_laidsides.mono (by decide))
 have C_lay:=Callee.mk' F34 (W.mg_of X G a34) b34 O_lay
 have O_lawwhole:=y3w (P:=l.prog) (w:=w) (base:=base) (mg:=mg) F35 (W.mg_none_of X G zisinstance) (W.mg_none_of X G zint) (W.mg_none_of X G zbool)
 have C_lawwhole:=Callee.mk' F35 (W.mg_of X G a35) b35 O_lawwhole
 have O_lawcellat:=y1g (P:=l.prog) (w:=w) (base:=base) (mg:=mg) F36 (W.mg_none_of X G zlen)
 have C_lawcellat:=Callee.mk' F36 (W.mg_of X G a36) b36 O_lawcellat
 have O_lawsides:=y3x (P:=l.prog) (w:=w) (base:=base) (mg:=mg) F37 (C_lawcellat.mono (by decide)) (W.mg_none_of X G zrange) (W.mg_none_of X G zmin) (W.mg_none_of X G zmax)
 have C_lawsides:=Callee.mk' F37 (W.mg_of X G a37) b37 O_lawsides
 have O_lawissides:=z9r (P:=l.prog) (w:=w) (base:=base) (mg:=mg) F38 (C_lawwhole.mono (by decide)) (W.mg_none_of X G zisinstance) (W.mg_none_of X G ztuple) (W.mg_none_of X G zlen) (W.mg_none_of X G zrange)
 have C_lawissides:=Callee.mk' F38 (W.mg_of X G a38) b38 O_lawissides
 have O_lawsize:=y6l (P:=l.prog) (w:=w) (base:=base) (mg:=mg) F39
 have C_lawsize:=Callee.mk' F39 (W.mg_of X G a39) b39 O_lawsize
 have O_lawnumber:=y1f (P:=l.prog) (w:=w) (base:=base) (mg:=mg) F40
 have C_lawnumber:=Callee.mk' F40 (W.mg_of X G a40) b40 O_lawnumber
 have O_lawcells:=y3z (P:=l.prog) (w:=w) (base:=base) (mg:=mg) F41 (C_lawnumber.mono (by decide)) (W.mg_none_of X G zmax) (W.mg_none_of X G zlen) (W.mg_none_of X G zrange) (W.mg_none_of X G ztuple)
 have C_lawcells:=Callee.mk' F41 (W.mg_of X G a41) b41 O_lawcells
 have O_laworder:=y3y (P:=l.prog) (w:=w) (base:=base) (mg:=mg) F42 (C_lawcellat.mono (by decide)) (W.mg_none_of X G zlist) (W.mg_none_of X G zrange)
 have C_laworder:=Callee.mk' F42 (W.mg_of X G a42) b42 O_laworder
 have O_lawalike:=y4a (P:=l.prog) (w:=w) (base:=base) (mg:=mg) F43 (C_lawissides.mono (by decide)) (C_lawsize.mono (by decide)) (C_lawwhole.mono (by decide)) (W.mg_none_of X G zisinstance) (W.mg_none_of X G ztuple) (W.mg_none_of X G zlen)
 have C_lawalike:=Callee.mk' F43 (W.mg_of X G a43) b43 O_lawalike
 have O_lawwithout:=z9q (P:=l.prog) (w:=w) (base:=base) (mg:=mg) F44
 have C_lawwithout:=Callee.mk' F44 (W.mg_of X G a44) b44 O_lawwithout
 have O_lawturned:=y1d (P:=l.prog) (w:=w) (base:=base) (mg:=mg) F45 nNoWord nNoSide (C_lawalike.mono (by decide)) (C_fold.mono (by decide)) (C_turn.mono (by decide)) (W.mg_none_of X G ztuple) (W.mg_none_of X G zint) nd6
 have C_lawturned:=Callee.mk' F45 (W.mg_of X G a45) b45 O_lawturned
 have O_lawparted:=y1e (P:=l.prog) (w:=w) (base:=base) (mg:=mg) F46 nNoWord nNoSide nBeyond nUnlike nTooLarge (C_lawalike.mono (by decide)) (C_fold.mono (by decide)) (C_cut.mono (by decide)) (C_pair.mono (by decide)) (C_lawwithout.mono (by decide)) (C_run.mono (by decide)) (C_lay.mono (by decide)) nd6
 have C_lawparted:=Callee.mk' F46 (W.mg_of X G a46) b46 O_lawparted
 have O_lawtwo:=y9x (P:=l.prog) (w:=w) (base:=base) (mg:=mg) F47 nNoWord nNoSide (C_lawalike.mono (by decide)) (C_fold.mono (by decide)) (C_flip.mono (by decide)) (C_lawwithout.mono (by decide)) (W.mg_none_of X G zint) nd6
 have C_lawtwo:=Callee.mk' F47 (W.mg_of X G a47) b47 O_lawtwo
 have O_lawspreadout:=z7h (P:=l.prog) (w:=w) (base:=base) (mg:=mg) F48 nNoWord nNoSide nBeyond nTooLarge nUnlike (C_lawalike.mono (by decide)) (C_fold.mono (by decide)) (C_spread.mono (by decide)) (C_lawwithout.mono (by decide)) (C_pair.mono (by decide)) (W.mg_none_of X G zint) nd6
 have C_lawspreadout:=Callee.mk' F48 (W.mg_of X G a48) b48 O_lawspreadout
 have O_law:=x7b (P:=l.prog) (w:=w) (base:=base) (mg:=mg) F49 nNoWord nNoSide (C_lawsides.mono (by decide)) (C_lawcells.mono (by decide)) (C_lawsize.mono (by decide)) (C_lawcellat.mono (by decide)) (C_fold.mono (by decide)) (C_laworder.mono (by decide)) (C_lawturned.mono (by decide)) (C_lawtwo.mono (by decide)) (C_lawparted.mono (by decide)) (C_lawspreadout.mono (by decide)) (W.mg_none_of X G zlen) (W.mg_none_of X G zmax) (W.mg_none_of X G zmin) nd6
 exact O_law
open PySem.W in
theorem walk {l:W.OpenLaw}{q:Program}{loose:List Str}{XP:(Str->Option Value)->Heap->Prop}{YP:World->Heap->Prop}{d:DefRec}{K:Params->W.Frag}(hn:l.most=some 63) (hdf:d.params.defaults=[])
  (hY:∀(w:World) (h:Heap),YP w h->(K w.params).In h) (hK0:∀w:World,noTabs (K w.params)=true) (hrec:∀x∈(["fold", "lead", "turn", "flip", "cut", "spread"]:List Str),((recsOf q).find? λ e=>e.name == x).isSome=true)
  (F:∀(w:World) (mg:Str->Option Value) (fa:Addr) (h:Heap),(K w.params).In h->h.Ns mainGlobals mg->mg d.name=some (.ref fa) ->
   ∃(fd:FuncData) (tbs:List (Str × Addr × Addr)),(∀p∈tbs,tabIn (K w.params) p.1=some p.2/\p.1∈(["fold", "lead", "turn", "flip", "cut", "spread"]:List Str))/\(∀(s:Shared) (u:Value),BindsTo s fd ⟨[u],[]⟩ [("script",u)])/\∀base:Heap,(K w.params).In base->base.Ns mainGlobals mg->(∀p∈tbs,TabF base mg p.2.1 p.2.2)->FnOk l.prog w (K w.params) mg base CX0 11 fa fd ["script"] (splawT (K w.params) (tbs.map λ p=>p.2.2))) :
  W.WalkO q loose XP YP l.row.toRowW d [] (λ f vs=>PySem.call f vs) :=
 L2.walk_ofT (n:=63) (k:=11) (x := "script") (CX:=λ _=>CX0) (sp:=λ w ts=>splawT (K w.params) ts) hn (by decide) hdf ⟨rfl,by decide,by decide⟩ hY hK0 (λ w mg fa h a b c=>by
  obtain ⟨fd,tbs,h1,h2⟩:=F w mg fa h a b c
  exact ⟨fd,tbs,λ p hp=>⟨(h1 p hp).1,hrec _ (h1 p hp).2⟩,h2⟩) (λ _ _ a ns ts hl hT hS=>⟨a,ns,rfl,hS,hl,hT,λ _=>rfl⟩) λ _ _ _ _ _ z=>z
end My
end
open PySem PySem.W PyProof.Rows
set_option maxRecDepth 100000 in
set_option maxHeartbeats 0 in
theorem PySem.Challenge.cw_sideloom_k19_whole_folds_go_with_moves_holds : PySem.Challenge.rw_sideloom_k19_whole_folds_go_with_moves.Holds := by
 w_on;o_law;k_head;(case hw=>w_witness2)
 k_fill
 refine My.walk (l:=PySem.Challenge.rw_sideloom_k19_whole_folds_go_with_moves) rfl rfl (λ w h Y=>W.km_in_of Y) ?K0 ?rec ?F
 case K0=>intro w;kernel_rfl
 case rec=>exact (My.fc (by kernel_rfl) (My.fc (by kernel_rfl) (My.fc (by kernel_rfl) (My.fc (by kernel_rfl) (My.fc (by kernel_rfl) (My.fc (by kernel_rfl) My.fc0))))))
 case F =>
  intro w mg fa h KX G hmg
  refine' My.all_mk KX G hmg ?a0 ?l0 ?q0 ?k0 ?a1 ?l1 ?q1 ?k1 ?a2 ?l2 ?q2 ?k2 ?a3 ?l3 ?q3 ?k3 ?a4 ?l4 ?q4 ?k4 ?a5 ?l5 ?q5 ?k5 ?a6 ?l6 ?q6 ?k6 ?a7 ?l7 ?q7 ?k7 ?a8 ?l8 ?q8 ?k8 ?a9 ?l9 ?q9 ?k9 ?a10 ?l10 ?q10 ?k10 ?a11 ?l11 ?q11 ?k11 ?a12 ?l12 ?q12 ?k12 ?a13 ?l13 ?q13 ?k13 ?a14 ?l14 ?q14 ?k14 ?a15 ?l15 ?q15 ?k15 ?a16 ?l16 ?q16 ?k16 ?a17 ?l17 ?q17 ?k17 ?a18 ?l18 ?q18 ?k18 ?a19 ?l19 ?q19 ?k19 ?a20 ?l20 ?q20 ?k20 ?a21 ?l21 ?q21 ?k21 ?a22 ?l22 ?q22 ?k22 ?a23 ?l23 ?q23 ?k23 ?a24 ?l24 ?q24 ?k24 ?a25 ?l25 ?q25 ?k25 ?a26 ?l26 ?q26 ?k26 ?h4_26 ?h5_26 ?a27 ?l27 ?q27 ?k27 ?a28 ?l28 ?q28 ?k28 ?h4_28 ?h5_28 ?a29 ?l29 ?q29 ?k29 ?a30 ?l30 ?q30 ?k30 ?h4_30 ?h5_30 ?a31 ?l31 ?q31 ?k31 ?h4_31 ?h5_31 ?a32 ?l32 ?q32 ?k32 ?h4_32 ?h5_32 ?a33 ?l33 ?q33 ?k33 ?h4_33 ?h5_33 ?a34 ?l34 ?q34 ?k34 ?a35 ?l35 ?q35 ?k35 ?a36 ?l36 ?q36 ?k36 ?a37 ?l37 ?q37 ?k37 ?a38 ?l38 ?q38 ?k38 ?a39 ?l39 ?q39 ?k39 ?a40 ?l40 ?q40 ?k40 ?a41 ?l41 ?q41 ?k41 ?a42 ?l42 ?q42 ?k42 ?a43 ?l43 ?q43 ?k43 ?a44 ?l44 ?q44 ?k44 ?a45 ?l45 ?q45 ?k45 ?a46 ?l46 ?q46 ?k46 ?a47 ?l47 ?q47 ?k47 ?a48 ?l48 ?q48 ?k48 ?a49 ?l49 ?q49 ?k49 ?zmax ?zmin ?zlen ?ztuple ?zreversed ?zzip ?zsum ?zrange ?zsorted ?zlist ?zenumerate ?zisinstance ?zint ?zbool ?gLOW ?gHIGH ?gMOST_SIDES ?gMOST_BREADTH ?nNoWord ?nTooLarge ?nNoPlace ?nNoSide ?nBeyond ?nUnlike ?xNoWord ?xTooLarge ?xUnlike ?xNoSide ?xBeyond ?xNoPlace ?nd6
  (case a0=>k_is)
  (case l0=>k_is)
  (case q0=>k_is)
  (case k0=>k_is)
  (case a1=>k_is)
  (case l1=>k_is)
  (case q1=>k_is)
  (case k1=>k_is)
  (case a2=>k_is)
  (case l2=>k_is)
  (case q2=>k_is)
  (case k2=>k_is)
  (case a3=>k_is)
  (case l3=>k_is)
  (case q3=>k_is)
  (case k3=>k_is)
  (case a4=>k_is)
  (case l4=>k_is)
  (case q4=>k_is)
  (case k4=>k_is)
  (case a5=>k_is)
  (case l5=>k_is)
  (case q5=>k_is)
  (case k5=>k_is)
  (case a6=>k_is)
  (case l6=>k_is)
  (case q6=>k_is)
  (case k6=>k_is)
  (case a7=>k_is)
  (case l7=>k_is)
  (case q7=>k_is)
  (case k7=>k_is)
  (case a8=>k_is)
  (case l8=>k_is)
  (case q8=>k_is)
  (case k8=>k_is)
  (case a9=>k_is)
  (case l9=>k_is)
  (case q9=>k_is)
  (case k9=>k_is)
  (case a10=>k_is)
  (case l10=>k_is)
  (case q10=>k_is)
  (case k10=>k_is)
  (case a11=>k_is)
  (case l11=>k_is)
  (case q11=>k_is)
  (case k11=>k_is)
  (case a12=>k_is)
  (case l12=>k_is)
  (case q12=>k_is)
  (case k12=>k_is)
  (case a13=>k_is)
  (case l13=>k_is)
  (case q13=>k_is)
  (case k13=>k_is)
  (case a14=>k_is)
  (case l14=>k_is)
  (case q14=>k_is)
  (case k14=>k_is)
  (case a15=>k_is)
  (case l15=>k_is)
  (case q15=>k_is)
  (case k15=>k_is)
  (case a16=>k_is)
  (case l16=>k_is)
  (case q16=>k_is)
  (case k16=>k_is)
  (case a17=>k_is)
  (case l17=>k_is)
  (case q17=>k_is)
  (case k17=>k_is)
  (case a18=>k_is)
  (case l18=>k_is)
  (case q18=>k_is)
  (case k18=>k_is)
  (case a19=>k_is)
  (case l19=>k_is)
  (case q19=>k_is)
  (case k19=>k_is)
  (case a20=>k_is)
  (case l20=>k_is)
  (case q20=>k_is)
  (case k20=>k_is)
  (case a21=>k_is)
  (case l21=>k_is)
  (case q21=>k_is)
  (case k21=>k_is)
  (case a22=>k_is)
  (case l22=>k_is)
  (case q22=>k_is)
  (case k22=>k_is)
  (case a23=>k_is)
  (case l23=>k_is)
  (case q23=>k_is)
  (case k23=>k_is)
  (case a24=>k_is)
  (case l24=>k_is)
  (case q24=>k_is)
  (case k24=>k_is)
  (case a25=>k_is)
  (case l25=>k_is)
  (case q25=>k_is)
  (case k25=>k_is)
  (case a26=>k_is)
  (case l26=>k_is)
  (case q26=>k_is)
  (case k26=>k_is)
  (case h4_26=>k_is)
  (case h5_26=>rfl)
  (case a27=>k_is)
  (case l27=>k_is)
  (case q27=>k_is)
  (case k27=>k_is)
  (case a28=>k_is)
  (case l28=>k_is)
  (case q28=>k_is)
  (case k28=>k_is)
  (case h4_28=>k_is)
  (case h5_28=>rfl)
  (case a29=>k_is)
  (case l29=>k_is)
  (case q29=>k_is)
  (case k29=>k_is)
  (case a30=>k_is)
  (case l30=>k_is)
  (case q30=>k_is)
  (case k30=>k_is)
  (case h4_30=>k_is)
  (case h5_30=>rfl)
  (case a31=>k_is)
  (case l31=>k_is)
  (case q31=>k_is)
  (case k31=>k_is)
  (case h4_31=>k_is)
  (case h5_31=>rfl)
  (case a32=>k_is)
  (case l32=>k_is)
  (case q32=>k_is)
  (case k32=>k_is)
  (case h4_32=>k_is)
  (case h5_32=>rfl)
  (case a33=>k_is)
  (case l33=>k_is)
  (case q33=>k_is)
  (case k33=>k_is)
  (case h4_33=>k_is)
  (case h5_33=>rfl)
  (case a34=>k_is)
  (case l34=>k_is)
  (case q34=>k_is)
  (case k34=>k_is)
  (case a35=>k_is)
  (case l35=>k_is)
  (case q35=>k_is)
  (case k35=>k_is)
  (case a36=>k_is)
  (case l36=>k_is)
  (case q36=>k_is)
  (case k36=>k_is)
  (case a37=>k_is)
  (case l37=>k_is)
  (case q37=>k_is)
  (case k37=>k_is)
  (case a38=>k_is)
  (case l38=>k_is)
  (case q38=>k_is)
  (case k38=>k_is)
  (case a39=>k_is)
  (case l39=>k_is)
  (case q39=>k_is)
  (case k39=>k_is)
  (case a40=>k_is)
  (case l40=>k_is)
  (case q40=>k_is)
  (case k40=>k_is)
  (case a41=>k_is)
  (case l41=>k_is)
  (case q41=>k_is)
  (case k41=>k_is)
  (case a42=>k_is)
  (case l42=>k_is)
  (case q42=>k_is)
  (case k42=>k_is)
  (case a43=>k_is)
  (case l43=>k_is)
  (case q43=>k_is)
  (case k43=>k_is)
  (case a44=>k_is)
  (case l44=>k_is)
  (case q44=>k_is)
  (case k44=>k_is)
  (case a45=>k_is)
  (case l45=>k_is)
  (case q45=>k_is)
  (case k45=>k_is)
  (case a46=>k_is)
  (case l46=>k_is)
  (case q46=>k_is)
  (case k46=>k_is)
  (case a47=>k_is)
  (case l47=>k_is)
  (case q47=>k_is)
  (case k47=>k_is)
  (case a48=>k_is)
  (case l48=>k_is)
  (case q48=>k_is)
  (case k48=>k_is)
  (case a49=>k_is)
  (case l49=>k_is)
  (case q49=>k_is)
  (case k49=>k_is)
  (case zmax=>k_is)
  (case zmin=>k_is)
  (case zlen=>k_is)
  (case ztuple=>k_is)
  (case zreversed=>k_is)
  (case zzip=>k_is)
  (case zsum=>k_is)
  (case zrange=>k_is)
  (case zsorted=>k_is)
  (case zlist=>k_is)
  (case zenumerate=>k_is)
  (case zisinstance=>k_is)
  (case zint=>k_is)
  (case zbool=>k_is)
  (case gLOW=>k_is)
  (case gHIGH=>k_is)
  (case gMOST_SIDES=>k_is)
  (case gMOST_BREADTH=>k_is)
  (case nNoWord=>k_is)
  (case nTooLarge=>k_is)
  (case nNoPlace=>k_is)
  (case nNoSide=>k_is)
  (case nBeyond=>k_is)
  (case nUnlike=>k_is)
  (case xNoWord=>k_exc)
  (case xTooLarge=>k_exc)
  (case xUnlike=>k_exc)
  (case xNoSide=>k_exc)
  (case xBeyond=>k_exc)
  (case xNoPlace=>k_exc)
  (case nd6=>decide)
