import PyProof.Rows.All
import Wide.All
import OpenK.AllK
import Wide.FinOn
import Lean
import PyProof.EqAt
import PyProof.EqKinds
import PyProof.TupleCall
import PySem.Challenge.RW_sideloom_k57_rounds_of_a_fill
set_option Elab.async false
set_option linter.all false
set_option maxRecDepth 100000
section
set_option hygiene false

set_option hygiene true
namespace L2
open PySem PySem.Spec PyProof.Rows
abbrev Key:=Sum Int Str
def keyIs:Key->Value->Bool
 | .inl k,v=>Value.isInt k v
 | .inr x,v=>Value.isStrOf x v
def keyH (w:World):Key->Int
 | .inl k=>hashInt k
 | .inr x=>hashStr w x
theorem keyIs_shape:∀ {k:Key}{v:Value},keyIs k v=true->(∃i t,k=Sum.inl i/\v=Value.int i t)\/(∃x t,k=Sum.inr x/\v=Value.str x t)
 | .inl i,v,h=>by
  obtain ⟨t,e⟩:=Value.isInt_shape (k:=i) (v:=v) h
  exact .inl ⟨i,t,rfl,e⟩
 | .inr x,v,h=>by
  obtain ⟨t,e⟩:=Value.isStrOf_shape (x:=x) (v:=v) h
  exact .inr ⟨x,t,rfl,e⟩
theorem keyIs_int (i:Int) (t:Tok):keyIs (.inl i) (.int i t)=true:=by simp [keyIs,Value.isInt]
theorem keyIs_str (x:Str) (t:Tok):keyIs (.inr x) (.str x t)=true:=by simp [keyIs,Value.isStrOf]
theorem key_ll (a b:Int):decide ((Sum.inl a:Key)=Sum.inl b)=(a == b):=by
 by_cases e:a=b
 ·subst e;simp
 ·have h:¬(Sum.inl a:Key)=Sum.inl b:=λ q=>e (Sum.inl.inj q)
  rw [decide_eq_false h]
  exact (beq_eq_false_iff_ne.mpr e).symm
theorem key_rr (a b:Str):decide ((Sum.inr a:Key)=Sum.inr b)=decide (a=b):=by
 by_cases e:a=b
 ·subst e;simp
 ·have h:¬(Sum.inr a:Key)=Sum.inr b:=λ q=>e (Sum.inr.inj q)
  rw [decide_eq_false h,decide_eq_false e]
theorem key_lr (a:Int) (b:Str):decide ((Sum.inl a:Key)=Sum.inr b)=false:=decide_eq_false (λ q=>nomatch q)
theorem key_rl (a:Str) (b:Int):decide ((Sum.inr a:Key)=Sum.inl b)=false:=decide_eq_false (λ q=>nomatch q)
def mixKind (prog:Program) (w:World):PySem.KeyKind prog w Key where
 is:=keyIs
 hash:=keyH w
 inj:=λ v a b ha hb=>by
  rcases keyIs_shape ha with ⟨i,t,rfl,rfl⟩ | ⟨x,t,rfl,rfl⟩
  ·rcases keyIs_shape hb with ⟨j,u,rfl,e⟩ | ⟨y,u,rfl,e⟩
   ·injection e with e1 _;rw [e1]
   ·exact nomatch e
  ·rcases keyIs_shape hb with ⟨j,u,rfl,e⟩ | ⟨y,u,rfl,e⟩
   ·exact nomatch e
   ·injection e with e1 _;rw [e1]
 byValue:=λ k v h=>by
  rcases keyIs_shape h with ⟨i,t,rfl,rfl⟩ | ⟨x,t,rfl,rfl⟩<;>rfl
 pyHash:=λ hv h=>by
  rcases keyIs_shape hv with ⟨i,t,rfl,rfl⟩ | ⟨x,t,rfl,rfl⟩
  ·exact wpAny_pyHash_int h
  ·exact wpAny_pyHash_str h
 eqBool:=λ hu hv h=>by
  rcases keyIs_shape hu with ⟨i,t,rfl,rfl⟩ | ⟨x,t,rfl,rfl⟩
  ·rcases keyIs_shape hv with ⟨j,u,rfl,rfl⟩ | ⟨y,u,rfl,rfl⟩
   ·rw [key_ll] at h;exact wpAny_eqBool_int h
   ·rw [key_lr] at h;exact SeqAt.EqAt.int_str i t y u _ _ _ _ h
  ·rcases keyIs_shape hv with ⟨j,u,rfl,rfl⟩ | ⟨y,u,rfl,rfl⟩
   ·rw [key_rl] at h;exact SeqAt.EqAt.str_int x t j u _ _ _ _ h
   ·rw [key_rr] at h;exact wpAny_eqBool_str h
 «strs»:=λ k x t v h=>by
  rcases keyIs_shape h with ⟨i,u,rfl,e⟩ | ⟨y,u,rfl,e⟩
  ·exact nomatch e
  ·injection e with e1 _
   subst e1
   cases v<;>rfl
theorem mixKind_int (prog:Program) (w:World) (i:Int) (t:Tok):(mixKind prog w).is (.inl i) (.int i t)=true:=keyIs_int i t
theorem mixKind_str (prog:Program) (w:World) (x:Str) (t:Tok):(mixKind prog w).is (.inr x) (.str x t)=true:=keyIs_str x t
inductive V where
 | non | bl (b:Bool) | int (i:Int) | str (x:Str) | byt (b:Array UInt8) | flt (b:UInt64) | ref (a:Addr) | ty (n:String)
 deriving DecidableEq
def RelV:V->Value->Prop
 | .non,u=>u=Value.none
 | .bl b,u=>u=Value.bool b
 | .int i,u=>∃t,u=Value.int i t
 | .str x,u=>∃t,u=Value.str x t
 | .byt b,u=>∃t,u=Value.bytes b t
 | .flt b,u=>∃t,u=Value.float b t
 | .ref a,u=>u=Value.ref a
 | .ty n,u=>u=Value.type n
abbrev Vals:List V->List Value->Prop:=Paired RelV
theorem Vals.length {xs:List V}{us:List Value}(r:Vals xs us):xs.length=us.length:=Paired.length r
theorem Vals.get:∀ {xs:List V}{us:List Value}{i:Nat}{x:V},Vals xs us->xs[i]?=some x->∃u,us[i]?=some u/\RelV x u
 | _,_,_,_,.nil,e=>by simp at e
 | _,_,0,_,.cons r _,e=>by simp at e;subst e;exact ⟨_,rfl,r⟩
 | _,_,i+1,x,.cons _ t,e=>by
  obtain ⟨u,h1,h2⟩:=Vals.get (i:=i) (x:=x) t (by simpa using e)
  exact ⟨u,by simpa using h1,h2⟩
theorem Vals.set {x:V}{u:Value}(r:RelV x u):∀ {xs:List V}{us:List Value}(i:Nat),Vals xs us->Vals (xs.set i x) (us.set i u)
 | _,_,_,.nil=>.nil
 | _,_,0,.cons _ t=>.cons r t
 | _,_,i+1,.cons q t=>.cons q (Vals.set r i t)
theorem Vals.append:∀ {xs ys:List V}{us ws:List Value},Vals xs us->Vals ys ws->Vals (xs++ys) (us++ws)
 | _,_,_,_,.nil,s=>s
 | _,_,_,_,.cons r t,s=>.cons r (Vals.append t s)
theorem Vals.take:∀ {xs:List V}{us:List Value}(n:Nat),Vals xs us->Vals (xs.take n) (us.take n)
 | _,_,0,_=>.nil
 | _,_,_+1,.nil=>.nil
 | _,_,n+1,.cons r t=>.cons r (Vals.take n t)
theorem Vals.drop:∀ {xs:List V}{us:List Value}(n:Nat),Vals xs us->Vals (xs.drop n) (us.drop n)
 | _,_,0,r=>r
 | _,_,_+1,.nil=>.nil
 | _,_,n+1,.cons _ t=>Vals.drop n t
theorem Vals.none_of:∀ {xs:List V}{us:List Value}{i:Nat},Vals xs us->xs[i]?=none->us[i]?=none:=λ {xs us i} r e=>by
 have h1:=r.length
 have h2:xs.length≤i:=List.getElem?_eq_none_iff.mp e
 exact List.getElem?_eq_none_iff.mpr (by omega)
def RelO:Option V->Option Value->Prop
 | some v,some u=>RelV v u
 | none,none=>True
 | _,_=>False
def KV {κ:Type}:List (κ × V)->List (κ × Value)->Prop:=Paired λ (p:κ × V) (q:κ × Value)=>p.1=q.1/\RelV p.2 q.2
def kV:Key->V
 | .inl i=>.int i
 | .inr x=>.str x
inductive HO where
 | lst (xs:List V)
 | tup (xs:List V)
 | dK (kvs:List (Key × V)) | dT (kvs:List (List Key × V))
 | set (S:Int->Bool) (n:Nat)
 | ins (C dx:Addr) (fs:List (Str × V))
 | own (x:Addr)
 | xd (fs:List (Str × V))
 | met (f x:Addr)
 | rng (lo hi:Int)
 | frz (o:Obj) (u:HO)
 | tbl (ps:Array Value)
 | ext (φ:Heap->Prop)
abbrev Hp:=Addr->Option HO
def upd (H:Hp) (a:Addr) (o:HO):Hp:=λ b=>if b=a then some o else H b
theorem upd_same {H:Hp}{a:Addr}{o:HO}:upd H a o a=some o:=by unfold upd;rw [if_pos rfl]
theorem upd_ne {H:Hp}{a b:Addr}{o:HO}(h:b≠a):upd H a o b=H b:=by unfold upd;rw [if_neg h]
theorem ne_of {H:Hp}{a b:Addr}{o u:HO}(h:H a=some o) (h':H b=some u) (d:o≠u):a≠b:=by
 intro e;subst e;rw [h] at h';exact d (Option.some.inj h')
theorem ne_of_none {H:Hp}{a b:Addr}{o:HO}(h:H a=some o) (h':H b=none):a≠b:=by
 intro e;subst e;rw [h] at h';cases h'
section
variable (P:Program) (w:World)
def ObjOk (H:Hp) (h:Heap) (a:Addr):HO->Prop
 | .lst xs=>xs.length≤sizeLine/\∃(its:List Value) (n:Nat),Vals xs its/\h.get? a=some { cls:=.type "list",data:=.seq its.toArray n }
 | .tup xs=>xs.length≤sizeLine/\∃its:List Value,Vals xs its/\IsTup h a its.toArray
 | .dK kvs=>kvs.length≤sizeLine/\(a == sysModules)=false/\∃vs,KV kvs vs/\h.DictOf (mixKind P w) a vs
 | .dT kvs=>kvs.length≤sizeLine/\(a == sysModules)=false/\∃xs:List (List Key × Addr × Value),
   Paired (λ (p:List Key × V) (q:List Key × Addr × Value)=>p.1=q.1/\H q.2.1=some (.tup (p.1.map kV))/\RelV p.2 q.2.2) kvs xs /\
   ∃o es ep,h.get? a=some o/\o.ExactDict/\o.data=.dict es ep/\es.toList=xs.map (entryOfKey (tupleKind (mixKind P w)))/\(xs.map (·.1)).Nodup
 | .set S n=>h.SetOf (intKind P w) a S n
 | .ins C dx fs=>H dx=some (.own a)/\fs.length≤1000/\dx≠a/\h.get? a=some (W.instObj C dx) /\
   ∃mA,h.Ns1 dx mA/\(∀f,RelO (fs.lookup f) (mA f))/\PySem.Within mA (fs.map (·.1))
 | .own _=>∃o,h.get? a=some o
 | .xd fs=>∃mA,h.Ns1 a mA/\∀f,RelO (fs.lookup f) (mA f)
 | .rng lo hi=>∃t u v,h.get? a=some { cls:=.type "range",data:=.fields #[.int lo t,.int hi u,.int 1 v] }
 | .frz o u=>h.get? a=some o/\ObjOk H h a u
 | .tbl ps=>h.get? a=some { cls:=.none,data:=.fields ps }
 | .met f x=>h.get? a=some (W.methodObj (.ref f) (.ref x))
 | .ext φ=>φ h/\(∃o,h.get? a=some o)/\∀h1 h2:Heap,φ h1->(∀o,h1.get? a=some o->h2.get? a=some o)->φ h2
def HOk (H:Hp) (h:Heap):Prop:=∀a o,H a=some o->ObjOk P w H h a o
end
section
variable {P:Program}{w:World}{H H':Hp}{h h':Heap}{a:Addr}{o:HO}
theorem ObjOk.lt (x:ObjOk P w H h a o):a < h.objs.size:=by
 cases o with
 | lst xs=>obtain ⟨_,_,_,_,e⟩:=x;exact Heap.lt_size e
 | tup xs=>obtain ⟨_,_,_,p⟩:=x;exact p.lt
 | dK kvs=>obtain ⟨_,_,_,_,o,_,_,e,_⟩:=x;exact Heap.lt_size e
 | dT kvs=>obtain ⟨_,_,_,_,o,_,_,e,_⟩:=x;exact Heap.lt_size e
 | set S n=>obtain ⟨o,_,_,_,e,_⟩:=x;exact Heap.lt_size e
 | ins C dx fs=>obtain ⟨_,_,_,e,_⟩:=x;exact Heap.lt_size e
 | own y=>obtain ⟨_,e⟩:=x;exact Heap.lt_size e
 | xd fs=>obtain ⟨_,⟨_,_,_,e,_⟩,_⟩:=x;exact Heap.lt_size e
 | rng lo hi=>obtain ⟨_,_,_,e⟩:=x;exact Heap.lt_size e
 | frz ob u=>obtain ⟨e,_⟩:=x;exact Heap.lt_size e
 | tbl ps=>exact Heap.lt_size (show h.get? a=some _ from x)
 | met f y=>exact Heap.lt_size (show h.get? a=some _ from x)
 | ext φ=>obtain ⟨_,⟨_,e⟩,_⟩:=x;exact Heap.lt_size e
theorem Paired.mapP {α β:Type}{F G:α->β->Prop}:∀ {l₁:List α}{l₂:List β},Paired F l₁ l₂->(∀a b,F a b->G a b)->Paired G l₁ l₂
 | _,_,.nil,_=>.nil
 | _,_,.cons r t,f=>.cons (f _ _ r) (Paired.mapP t f)
theorem ObjOk.stay (x:ObjOk P w H h a o) (k:∀b u,(b=a\/H b=some (.own a))->h.get? b=some u->h'.get? b=some u)
  (ho:∀b,H b=some (.own a)->H' b=some (.own a)) (ht:∀b xs,H b=some (.tup xs)->H' b=some (.tup xs)):ObjOk P w H' h' a o:=by
 induction o with
 | lst xs=>obtain ⟨z,its,n,r,e⟩:=x;exact ⟨z,its,n,r,k _ _ (.inl rfl) e⟩
 | tup xs=>obtain ⟨z,its,r,ob,e,c⟩:=x;exact ⟨z,its,r,ob,k _ _ (.inl rfl) e,c⟩
 | dK kvs=>obtain ⟨z,y,vs,r,ob,es,ep,e,c⟩:=x;exact ⟨z,y,vs,r,ob,es,ep,k _ _ (.inl rfl) e,c⟩
 | dT kvs =>
  obtain ⟨z,y,xs,r,ob,es,ep,e,c⟩:=x
  exact ⟨z,y,xs,Paired.mapP r λ p q z=>⟨z.1,ht _ _ z.2.1,z.2.2⟩,ob,es,ep,k _ _ (.inl rfl) e,c⟩
 | set S n=>obtain ⟨ob,es,ep,t,e,c⟩:=x;exact ⟨ob,es,ep,t,k _ _ (.inl rfl) e,c⟩
 | ins C dx fs =>
  obtain ⟨d,z,ne,e,mA,⟨od,es,ep,e2,c⟩,r⟩:=x
  exact ⟨ho _ d,z,ne,k _ _ (.inl rfl) e,mA,⟨od,es,ep,k _ _ (.inr d) e2,c⟩,r⟩
 | own y=>obtain ⟨ob,e⟩:=x;exact ⟨ob,k _ _ (.inl rfl) e⟩
 | xd fs=>obtain ⟨mA,⟨od,es,ep,e,c⟩,r⟩:=x;exact ⟨mA,⟨od,es,ep,k _ _ (.inl rfl) e,c⟩,r⟩
 | rng lo hi=>obtain ⟨t,u,v,e⟩:=x;exact ⟨t,u,v,k _ _ (.inl rfl) e⟩
 | frz ob u ih=>obtain ⟨e,q⟩:=x;exact ⟨k _ _ (.inl rfl) e,ih q⟩
 | tbl ps =>
  have e:h.get? a=some { cls:=.none,data:=.fields ps }:=x
  show h'.get? a=some { cls:=.none,data:=.fields ps }
  exact k a _ (.inl rfl) e
 | met f y =>
  have e:h.get? a=some (W.methodObj (.ref f) (.ref y)):=x
  show h'.get? a=some (W.methodObj (.ref f) (.ref y))
  exact k a _ (.inl rfl) e
 | ext φ=>obtain ⟨p,⟨o,e⟩,st⟩:=x;exact ⟨st _ _ p λ o q=>k _ _ (.inl rfl) q,⟨o,k _ _ (.inl rfl) e⟩,st⟩
theorem HOk.lt (x:HOk P w H h) (e:H a=some o):a < h.objs.size:=(x a o e).lt
theorem HOk.fresh (x:HOk P w H h) (e:h.objs.size≤a):H a=none:=by
 cases q:H a with
 | none=>rfl
 | some u=>exact absurd (Nat.lt_of_lt_of_le (x.lt q) e) (Nat.lt_irrefl _)
theorem HOk.kept (x:HOk P w H h) (k:∀b u,h.get? b=some u->h'.get? b=some u):HOk P w H h':=λ a o e =>
 (x a o e).stay (λ b u _ q=>k b u q) (λ _ q=>q) λ _ _ q=>q
theorem HOk.laid (x:HOk P w H h) (k:∀b u,h.get? b=some u->h'.get? b=some u) (hp:h.objs.size≤a) (new:ObjOk P w (upd H a o) h' a o):HOk P w (upd H a o) h':=λ b u e=>by
 have hn:=x.fresh hp
 by_cases hb:b=a
 ·subst hb;rw [upd_same] at e;cases e;exact new
 ·rw [upd_ne hb] at e
  exact (x b u e).stay (λ c v _ q=>k c v q) (λ c q=>by rw [upd_ne (ne_of_none q hn)];exact q) λ c xs q=>by rw [upd_ne (ne_of_none q hn)];exact q
end
def Rd (H:Hp) (a:Addr) (u:HO):Prop:=H a=some u\/∃o,H a=some (.frz o u)
theorem Rd.of {H:Hp}{a:Addr}{u:HO}(h:H a=some u):Rd H a u:=.inl h
theorem Rd.ok {P:Program}{w:World}{H:Hp}{h:Heap}{a:Addr}{u:HO}(r:Rd H a u) (x:HOk P w H h):ObjOk P w H h a u:=by
 rcases r with r | ⟨o,r⟩
 ·exact x a u r
 ·obtain ⟨_,q⟩:=x a _ r
  exact q
def Mut:Option HO->Prop
 | some (.lst _)=>True
 | some (.dK _)=>True
 | some (.dT _)=>True
 | some (.set _ _)=>True
 | some (.ins _ _ _)=>True
 | some (.ext _)=>True
 | _=>False
section
variable {P:Program}{w:World}{H:Hp}{h h':Heap}{x e:Addr}{o':HO}
theorem HOk.write (ok:HOk P w H h) (mu:Mut (H x)) (he:e=x\/H e=some (.own x)) (k:∀b u,b≠e->h.get? b=some u->h'.get? b=some u) (heo:∃u,h'.get? e=some u)
  (new:ObjOk P w (upd H x o') h' x o'):HOk P w (upd H x o') h':=λ b u q=>by
 have nown:∀c y,H c=some (.own y)->c≠x:=λ c y r z=>by subst z;rw [r] at mu;exact mu
 have ntup:∀c xs,H c=some (.tup xs)->c≠x:=λ c xs r z=>by subst z;rw [r] at mu;exact mu
 by_cases hb:b=x
 ·subst hb;rw [upd_same] at q;cases q;exact new
 ·rw [upd_ne hb] at q
  by_cases hbe:b=e
  ·have q':H b=some (.own x):=by
    rcases he with z | z
    ·exact absurd (hbe.trans z) hb
    ·rw [hbe];exact z
   rw [q] at q';cases q'
   obtain ⟨v,hv⟩:=heo
   exact ⟨v,by rw [hbe];exact hv⟩
  ·refine (ok b u q).stay (λ c v hc r=>k c v ?_ r) (λ c r=>by rw [upd_ne (nown c b r)];exact r) λ c xs r=>by rw [upd_ne (ntup c xs r)];exact r
   rcases hc with rfl | hc
   ·exact hbe
   ·rintro rfl
    rcases he with z | z
    ·exact nown c b hc z
    ·rw [hc] at z;cases z;exact hb rfl
end
structure Un (fs ex:List Addr) (H H':Hp) (h h':Heap):Prop where
 keep:∀b o,h.get? b=some o->H b=none->b ∉ fs->b ∉ ex->h'.get? b=some o
 slot:∀b o,h.get? b=some o->H b=none->b∈fs->b ∉ ex->∃sl,h'.get? b=some { o with slots:=sl }
 free:∀b o,h.get? b=some o->H b=none->b ∉ ex->H' b=none
 there:∀b o,h.get? b=some o->b ∉ ex->∃o',h'.get? b=some o'
 tups:∀b xs,H b=some (.tup xs)->H' b=some (.tup xs)
 frzs:∀b o u,H b=some (.frz o u)->H' b=some (.frz o u)
 tbls:∀b ps,H b=some (.tbl ps)->∃more,H' b=some (.tbl (ps++more))
section
variable {fs fs' ex ex':List Addr}{H H1 H2:Hp}{h h1 h2 h':Heap}{a x e:Addr}{o:HO}
theorem Un.any (u:Un fs ex H H1 h h1) {b:Addr}{ob:Obj}(q:h.get? b=some ob) (n:H b=none) (hx:b ∉ ex):∃sl,h1.get? b=some { ob with slots:=sl }:=by
 by_cases hb:b∈fs
 ·exact u.slot b ob q n hb hx
 ·exact ⟨ob.slots,u.keep b ob q n hb hx⟩
theorem Un.trans (a:Un fs ex H H1 h h1) (b:Un fs ex H1 H2 h1 h2):Un fs ex H H2 h h2 where
 keep:=λ c ob q n hc hx=>b.keep c ob (a.keep c ob q n hc hx) (a.free c ob q n hx) hc hx
 slot:=λ c ob q n hc hx=>by
  obtain ⟨sl,e1⟩:=a.slot c ob q n hc hx
  obtain ⟨sl',e2⟩:=b.slot c _ e1 (a.free c ob q n hx) hc hx
  exact ⟨sl',e2⟩
 free:=λ c ob q n hx=>by
  obtain ⟨o',e1⟩:=a.there c ob q hx
  exact b.free c o' e1 (a.free c ob q n hx) hx
 there:=λ c ob q hx=>by
  obtain ⟨o',e1⟩:=a.there c ob q hx
  exact b.there c o' e1 hx
 tups:=λ c xs q=>b.tups c xs (a.tups c xs q)
 frzs:=λ c ob xs q=>b.frzs c ob xs (a.frzs c ob xs q)
 tbls:=λ c ps q=>by
  obtain ⟨m1,e1⟩:=a.tbls c ps q
  obtain ⟨m2,e2⟩:=b.tbls c _ e1
  exact ⟨m1++m2,by rw [e2,Array.append_assoc]⟩
theorem Un.kept (k:∀b u,h.get? b=some u->h'.get? b=some u):Un fs ex H H h h' :=
 ⟨λ b ob q _ _ _=>k b ob q,λ b ob q _ _ _=>⟨ob.slots,k b ob q⟩,λ _ _ _ n _=>n,λ b ob q _=>⟨ob,k b ob q⟩,λ _ _ q=>q,λ _ _ _ q=>q,λ _ ps q=>⟨#[],by rw [q];simp⟩⟩
theorem Un.refl:Un fs ex H H h h:=Un.kept λ _ _ q=>q
theorem Un.laid (k:∀b u,h.get? b=some u->h'.get? b=some u) (hp:h.objs.size≤a) (hn:H a=none):Un fs ex H (upd H a o) h h' where
 keep:=λ b u q _ _ _=>k b u q
 slot:=λ b u q _ _ _=>⟨u.slots,k b u q⟩
 free:=λ b u q n _=>by rw [upd_ne (Nat.ne_of_lt (Nat.lt_of_lt_of_le (Heap.lt_size q) hp))];exact n
 there:=λ b u q _=>⟨u,k b u q⟩
 tups:=λ b xs q=>by rw [upd_ne (ne_of_none q hn)];exact q
 frzs:=λ b u xs q=>by rw [upd_ne (ne_of_none q hn)];exact q
 tbls:=λ b ps q=>⟨#[],by rw [upd_ne (ne_of_none q hn),q];simp⟩
theorem Un.write (mu:Mut (H x)) (he:e=x\/H e=some (.own x)) (k:∀b u,b≠e->h.get? b=some u->h'.get? b=some u) (heo:∃u,h'.get? e=some u):Un fs ex H (upd H x o) h h':=by
 have hx:∀b,H b=none->b≠x:=λ b n z=>by subst z;rw [n] at mu;exact mu
 have hb:∀b,H b=none->b≠e:=λ b n z=>by
  subst z
  rcases he with r | r
  ·exact hx b n r
  ·rw [n] at r;cases r
 have hm:∀b u,H b=some u->¬Mut (some u)->b≠x:=λ b u q nm z=>by subst z;rw [q] at mu;exact nm mu
 refine ⟨λ b u q n _ _=>k b u (hb b n) q,λ b u q n _ _=>⟨u.slots,k b u (hb b n) q⟩,λ b u q n _=>by rw [upd_ne (hx b n)];exact n,λ b u q _=>?_,
  λ b xs q=>by rw [upd_ne (hm b _ q λ z=>z)];exact q,λ b u xs q=>by rw [upd_ne (hm b _ q λ z=>z)];exact q,λ b ps q=>⟨#[],by rw [upd_ne (hm b _ q λ z=>z),q];simp⟩⟩
 by_cases hbe:b=e
 ·subst hbe;exact heo
 ·exact ⟨u,k b u hbe q⟩
theorem Un.mono (u:Un fs ex H H1 h h1) (hs:∀b∈fs,b∈fs') (hx:∀b∈ex,b∈ex'):Un fs' ex' H H1 h h1 :=
 ⟨λ b ob q n hb he=>u.keep b ob q n (λ z=>hb (hs b z)) λ z=>he (hx b z),λ _ _ q n _ he=>u.any q n λ z=>he (hx _ z),λ b ob q n he=>u.free b ob q n λ z=>he (hx b z),λ b ob q he=>u.there b ob q λ z=>he (hx b z),u.tups,u.frzs,u.tbls⟩
end
def trk (h:Heap) (H:Hp):List Addr:=(List.range h.objs.size).filter λ a=>(H a).isSome
def hidT (h:Heap) (H:Hp):Heap:=W.hideAll h (trk h H)
theorem hidT_size (h:Heap) (H:Hp):(hidT h H).objs.size=h.objs.size:=W.hideAll_size _ _
theorem hidT_get {h:Heap}{H:Hp}{b:Addr}{o:Obj}(e:h.get? b=some o) (n:H b=none):(hidT h H).get? b=some o :=
 W.hideAll_get _ e λ hm=>by
  have q:(H b).isSome=true:=(List.mem_filter.mp hm).2
  rw [n] at q;simp at q
theorem of_hidT {h:Heap}{H:Hp}{b:Addr}{o:Obj}(e:(hidT h H).get? b=some o):h.get? b=some o/\H b=none:=by
 have e':h.get? b=some o:=W.of_hideAll (trk h H) e
 refine ⟨e',?_⟩
 cases q:H b with
 | none=>rfl
 | some x =>
  have hm:b∈trk h H:=List.mem_filter.mpr ⟨List.mem_range.mpr (Heap.lt_size e'),by simp [q]⟩
  have z:(hidT h H).get? b=none:=W.hideAll_none (trk h H) hm
  rw [z] at e;cases e
def allNews (g h:Heap) (L:Addr):List (Addr × Obj):=(List.range h.objs.size).filterMap λ a=>if a=L\/(g.get? a).isSome=true then none else (h.get? a).map λ o=>(a,o)
def rest (g h:Heap) (L d:Addr):List (Addr × Obj):=(allNews g h L).filter λ p=>decide (p.1≠d)
structure Mod (K:W.Frag) (mg:Str->Option Value) (base:Heap):Prop where
 kin:K.In base
 glob:base.Ns mainGlobals mg
 blt:∃mb,base.Ns builtinsNs mb/\∀x:Str,x ≠ "__name__" -> mb x=bootBuiltins x
 nolimit:base.NoLimit
structure Cx where
 prog:Program
 w:World
 K:W.Frag
 mg:Str->Option Value
 base:Heap
 A:Around
 N:List Str
 s₀:Shared
 H₀:Hp
 env:Env
 outer:List Env
 stack:List Env
 ex:List Addr
 fn:Str->Bool
 calm:Bool
 pn:List (Addr × Obj)
 xe:Value->Shared->Prop
def frs (l:List Env):List Addr:=l.filterMap (·.frame)
abbrev Cx.fs (X:Cx):List Addr:=frs X.outer
def Vis (sc:Scope) (x:Str):Prop:=sc.names.lookup x=some .local\/sc.names.lookup x=some .cell\/sc.names.lookup x=some .free
def Loc (sc:Scope) (x:Str):Prop:=sc.names.lookup x=some .local\/sc.names.lookup x=some .cell
def Look (env:Env) (h:Heap) (m:Str->Option Value) (x:Str) (u:Value):Prop :=
 (env.kindOf x=some .local/\m x=some u)\/((env.kindOf x=some .cell\/env.kindOf x=some .free)/\∃c,env.cells.lookup x=some c/\h.IsCell c (some u))
structure Cx.Ok (X:Cx):Prop where
 mod:Mod X.K X.mg X.base
 kind:X.env.scope.kind=.function
 glob:X.env.globals=mainGlobals
 blt:X.env.builtins=builtinsNs
 above:X.s₀.heap.objs.size≤X.env.locals
 inj:∀x y c,X.env.cells.lookup x=some c->X.env.cells.lookup y=some c->x=y
 has:∀x,(X.env.kindOf x=some .cell\/X.env.kindOf x=some .free)->∃c,X.env.cells.lookup x=some c
 cab:∀x c,X.fn x=true->X.env.cells.lookup x=some c->X.s₀.heap.objs.size≤c
 hd:X.calm=true->X.A.handled=none
 frames:X.A.frames=some X.stack
 stk:X.stack=X.outer\/(X.stack=X.env::X.outer/\X.env.frame=some X.env.locals)
 exf:∀b∈X.ex,b≠X.env.locals/\∀x c,X.env.cells.lookup x=some c->c≠b
 bs:∀b o,X.base.get? b=some o->X.s₀.heap.get? b=some o/\X.H₀ b=none
 bsz:X.base.objs.size≤X.s₀.heap.objs.size
 noex:∀b o,X.base.get? b=some o->b ∉ X.ex
 exfs:∀b∈X.ex,b ∉ X.fs
 funs:X.s₀.heap.FunFrames X.base X.outer
 frf:∀b∈X.fs,X.H₀ b=none
structure Inv (X:Cx) (pins:List (Addr × Obj)) (σ:List (Option V)) (H:Hp) (s:Shared):Prop where
 ok:X.Ok
 os:s.os=X.s₀.os
 bare:AllBare s.gens
 base:Un X.fs X.ex X.H₀ H X.s₀.heap s.heap
 loc:∃m,s.heap.Ns X.env.locals m/\∀(i:Nat) (x:Str) (v:V),X.N[i]?=some x->σ[i]?=some (some v)->Vis X.env.scope x->∃u,RelV v u/\Look X.env s.heap m x u
 cell:∀x c,X.env.cells.lookup x=some c->∃v,s.heap.IsCell c v
 free:H X.env.locals=none
 freeC:∀x c,X.env.cells.lookup x=some c->H c=none
 pin:∀p∈X.pn++pins,s.heap.get? p.1=some p.2/\H p.1=none/\p.1≠X.env.locals/\p.1 ∉ X.fs/\∀v,p.2.data≠.cell v
 hok:HOk X.prog X.w H s.heap
 len:σ.length=X.N.length
section
variable {X:Cx}{pins:List (Addr × Obj)}{σ:List (Option V)}{H H':Hp}{s:Shared}{h':Heap}
theorem Cx.Ok.nofr (ok:X.Ok) {b:Addr}{o:Obj}(e:X.base.get? b=some o):b ∉ X.fs:=λ hb=>by
 have:=(ok.funs.mem hb).1
 rw [e] at this;cases this
theorem Inv.bs (I:Inv X pins σ H s):∀b o,X.base.get? b=some o->s.heap.get? b=some o/\H b=none:=λ b o e =>
 ⟨I.base.keep b o (I.ok.bs b o e).1 (I.ok.bs b o e).2 (I.ok.nofr e) (I.ok.noex b o e),I.base.free b o (I.ok.bs b o e).1 (I.ok.bs b o e).2 (I.ok.noex b o e)⟩
theorem Inv.bk (I:Inv X pins σ H s):∀b o,X.base.get? b=some o->s.heap.get? b=some o:=λ b o e=>(I.bs b o e).1
theorem Inv.mod (I:Inv X pins σ H s):Mod X.K X.mg X.base:=I.ok.mod
theorem Inv.kIn (I:Inv X pins σ H s):X.K.In s.heap:=I.ok.mod.kin.keeps I.bk
theorem Inv.nolimit (I:Inv X pins σ H s):s.heap.NoLimit:=I.ok.mod.nolimit.keeps I.bk
theorem Inv.fr (I:Inv X pins σ H s):∃m,Fr X.base X.env.locals s.heap m :=
 let ⟨m,hn,_⟩:=I.loc
 ⟨m,hn,I.bk,Nat.le_trans I.ok.bsz I.ok.above⟩
theorem Inv.lt (I:Inv X pins σ H s):X.env.locals < s.heap.objs.size:=let ⟨_,hn,_⟩:=I.loc;hn.lt
theorem Inv.sz (I:Inv X pins σ H s):X.s₀.heap.objs.size≤s.heap.objs.size:=Nat.le_trans I.ok.above (Nat.le_of_lt I.lt)
theorem Inv.nofs (I:Inv X pins σ H s) {a:Addr}(h:s.heap.objs.size≤a):a ∉ X.fs:=λ hb=>by
 obtain ⟨_,o,ho,_⟩:=I.ok.funs.mem hb
 exact absurd (Nat.lt_of_lt_of_le (Heap.lt_size ho) (Nat.le_trans I.sz h)) (Nat.lt_irrefl _)
theorem Inv.cne (I:Inv X pins σ H s):∀x c,X.env.cells.lookup x=some c->c≠X.env.locals:=λ x c e z=>by
 obtain ⟨v,o,ho,hd⟩:=I.cell x c e
 obtain ⟨m,⟨o',es,ep,ho',hd',_⟩,_⟩:=I.loc
 rw [z,ho'] at ho;cases ho;rw [hd'] at hd;cases hd
theorem Inv.funs (I:Inv X pins σ H s):s.heap.FunFrames X.base X.outer:=by
 have all:∀(l:List Env),(∀b∈frs l,b∈X.fs)->X.s₀.heap.FunFrames X.base l->s.heap.FunFrames X.base l:=by
  intro l
  induction l with
  | nil=>intro _ _;trivial
  | cons env r ih =>
   intro hs hl
   obtain ⟨hk,⟨L,o,hf,hn,ho,hd⟩,hr⟩:=hl
   have hL:L∈X.fs:=hs L (by unfold frs;rw [List.filterMap_cons,hf];exact List.mem_cons_self)
   obtain ⟨sl,e⟩:=I.base.slot L o ho (I.ok.frf L hL) hL λ z=>I.ok.exfs L z hL
   exact ⟨hk,⟨L,_,hf,hn,e,hd⟩,ih (λ b hb=>hs b (by unfold frs;rw [List.filterMap_cons,hf];exact List.mem_cons_of_mem _ hb)) hr⟩
 exact all X.outer (λ _ hb=>hb) I.ok.funs
theorem Inv.stack (I:Inv X pins σ H s):s.heap.FunFrames X.base X.stack:=by
 rcases I.ok.stk with e | ⟨e,hf⟩
 ·rw [e];exact I.funs
 ·rw [e]
  obtain ⟨m,hn,_⟩:=I.loc
  refine .cons (by rw [I.ok.kind];decide) hf hn ?_ I.funs
  exact Heap.get?_none_of_le (Nat.le_trans I.ok.bsz I.ok.above)
theorem Inv.stkSub (I:Inv X pins σ H s):∀b∈frs X.stack,b∈X.env.locals::X.fs:=λ b hb=>by
 rcases I.ok.stk with e | ⟨e,hf⟩
 ·rw [e] at hb;exact List.mem_cons_of_mem _ hb
 ·rw [e] at hb
  unfold frs at hb
  rw [List.filterMap_cons,hf] at hb
  exact hb
theorem Inv.stkFree (I:Inv X pins σ H s):∀b∈frs X.stack,H b=none:=λ b hb=>by
 rcases List.mem_cons.mp (I.stkSub b hb) with e | hb
 ·rw [e];exact I.free
 ·obtain ⟨_,o,ho,_⟩:=I.ok.funs.mem hb
  exact I.base.free b o ho (I.ok.frf b hb) λ z=>I.ok.exfs b z hb
theorem Inv.step {g':Array GenState}{t':Nat}{d':Drawn}{ch:List Addr}(I:Inv X pins σ H s)
  (hch:∀b∈ch,(b∈X.ex\/X.s₀.heap.objs.size≤b)/\b≠X.env.locals/\(∀x c,X.env.cells.lookup x=some c->c≠b)/\∀p∈X.pn++pins,p.1≠b)
  (keep:∀b o,b≠X.env.locals->b ∉ X.fs->b ∉ ch->s.heap.get? b=some o->H b=none->h'.get? b=some o)
  (slot:∀b o,b≠X.env.locals->b∈X.fs->b ∉ ch->s.heap.get? b=some o->H b=none->∃sl,h'.get? b=some { o with slots:=sl }) (free:∀b o,b ∉ ch->s.heap.get? b=some o->H b=none->H' b=none)
  (there:∀b o,b ∉ ch->s.heap.get? b=some o->∃o',h'.get? b=some o')
  (tups:∀b xs,H b=some (.tup xs)->H' b=some (.tup xs)) (frzs:∀b o u,H b=some (.frz o u)->H' b=some (.frz o u)) (tbls:∀b ps,H b=some (.tbl ps)->∃more,H' b=some (.tbl (ps++more)))
  (ns:∀m,s.heap.Ns X.env.locals m->h'.Ns X.env.locals m) (hok:HOk X.prog X.w H' h') (hg:AllBare g') :
  Inv X pins σ H' { s with heap:=h',gens:=g',drawn:=d',toks:=t' }:=by
 have neL:∀b o,X.s₀.heap.get? b=some o->b≠X.env.locals:=λ b o e=>Nat.ne_of_lt (Nat.lt_of_lt_of_le (Heap.lt_size e) I.ok.above)
 have neC:∀b o,X.s₀.heap.get? b=some o->b ∉ X.ex->b ∉ ch:=λ b o e hx hb=>by
  rcases (hch b hb).1 with z | z
  ·exact hx z
  ·exact absurd (Nat.lt_of_lt_of_le (Heap.lt_size e) z) (Nat.lt_irrefl _)
 have cellK:∀x c,X.env.cells.lookup x=some c->∀v,s.heap.IsCell c v->h'.IsCell c v:=λ x c e v ⟨o,ho,hd⟩=>by
  have nch:c ∉ ch:=λ z=>(hch c z).2.2.1 x c e rfl
  by_cases hc:c∈X.fs
  ·obtain ⟨sl,q⟩:=slot c o (I.cne x c e) hc nch ho (I.freeC x c e)
   exact ⟨_,q,hd⟩
  ·exact ⟨o,keep c o (I.cne x c e) hc nch ho (I.freeC x c e),hd⟩
 refine ⟨I.ok,I.os,hg,⟨λ b o e n hb hx=>?_,λ b o e n hb hx=>?_,λ b o e n hx=>?_,λ b o e hx=>?_,λ b xs e=>tups b xs (I.base.tups b xs e),λ b o xs e=>frzs b o xs (I.base.frzs b o xs e),λ b ps e=>?_⟩,?_,λ x c e=>?_,?_,λ x c e=>?_,λ p hp=>?_,hok,I.len⟩
 ·exact keep b o (neL b o e) hb (neC b o e hx) (I.base.keep b o e n hb hx) (I.base.free b o e n hx)
 ·obtain ⟨sl,e1⟩:=I.base.slot b o e n hb hx
  obtain ⟨sl',e2⟩:=slot b _ (neL b o e) hb (neC b o e hx) e1 (I.base.free b o e n hx)
  exact ⟨sl',e2⟩
 ·obtain ⟨o',e1⟩:=I.base.there b o e hx
  exact free b o' (neC b o e hx) e1 (I.base.free b o e n hx)
 ·obtain ⟨o',e1⟩:=I.base.there b o e hx
  exact there b o' (neC b o e hx) e1
 ·obtain ⟨m1,e1⟩:=I.base.tbls b ps e
  obtain ⟨m2,e2⟩:=tbls b _ e1
  exact ⟨m1++m2,by rw [e2,Array.append_assoc]⟩
 ·obtain ⟨m,hn,hl⟩:=I.loc
  refine ⟨m,ns m hn,λ i x v e1 e2 e3=>?_⟩
  obtain ⟨u,r,l⟩:=hl i x v e1 e2 e3
  refine ⟨u,r,?_⟩
  rcases l with l | ⟨k,c,e,z⟩
  ·exact .inl l
  ·exact .inr ⟨k,c,e,cellK x c e _ z⟩
 ·obtain ⟨v,z⟩:=I.cell x c e
  exact ⟨v,cellK x c e v z⟩
 ·obtain ⟨m,⟨o,_,_,ho,_⟩,_⟩:=I.loc
  exact free _ o (λ z=>(hch _ z).2.1 rfl) ho I.free
 ·obtain ⟨v,o,ho,hd⟩:=I.cell x c e
  exact free c o (λ z=>(hch c z).2.2.1 x c e rfl) ho (I.freeC x c e)
 ·obtain ⟨e,n,ne,nf,d⟩:=I.pin p hp
  have nch:p.1 ∉ ch:=λ z=>(hch p.1 z).2.2.2 p hp rfl
  exact ⟨keep p.1 p.2 ne nf nch e n,free p.1 p.2 nch e n,ne,nf,d⟩
theorem Inv.un {t':Nat}(I:Inv X pins σ H s) (u:Un X.fs [] H H' s.heap h') (hok:HOk X.prog X.w H' h'):Inv X pins σ H' { s with heap:=h',toks:=t' }:=by
 obtain ⟨m,⟨o,es,ep,ho,r⟩,_⟩:=id I.loc
 obtain ⟨sl,hL⟩:=u.any ho I.free (by simp)
 exact I.step (g':=s.gens) (d':=s.drawn) (ch:=[]) (λ _ z=>nomatch z) (λ b o _ hb _ e n=>u.keep b o e n hb (by simp)) (λ b o _ hb _ e n=>u.slot b o e n hb (by simp)) (λ b o _ e n=>u.free b o e n (by simp)) (λ b o _ e=>u.there b o e (by simp)) u.tups u.frzs u.tbls (λ m' hm=>by
  obtain ⟨o',es',ep',ho',r'⟩:=hm
  rw [ho] at ho';cases ho'
  exact ⟨_,es',ep',hL,r'⟩) hok I.bare
theorem Inv.call {g':Array GenState}{t':Nat}{d':Drawn}{ch:List Addr}(I:Inv X pins σ H s) (u:Un (frs X.stack) ch H H' s.heap h') (hok:HOk X.prog X.w H' h') (hg:AllBare g')
  (hch:∀b∈ch,(b∈X.ex\/X.s₀.heap.objs.size≤b)/\b≠X.env.locals/\(∀x c,X.env.cells.lookup x=some c->c≠b)/\∀p∈X.pn++pins,p.1≠b) :
  Inv X pins σ H' { s with heap:=h',gens:=g',drawn:=d',toks:=t' }:=by
 obtain ⟨m,⟨o,es,ep,ho,r⟩,_⟩:=id I.loc
 obtain ⟨sl,hL⟩:=u.any ho I.free λ z=>(hch _ z).2.1 rfl
 exact I.step (ch:=ch) hch (λ b o hL hb hc e n=>u.keep b o e n (λ z=>(List.mem_cons.mp (I.stkSub b z)).elim hL hb) hc) (λ b o _ _ hc e n=>u.any e n hc) (λ b o hc e n=>u.free b o e n hc) (λ b o hc e=>u.there b o e hc) u.tups u.frzs u.tbls (λ m' hm=>by
  obtain ⟨o',es',ep',ho',r'⟩:=hm
  rw [ho] at ho';cases ho'
  exact ⟨_,es',ep',hL,r'⟩) hok hg
theorem Inv.turned {t':Nat}{it:Addr}(I:Inv X pins σ H s) (k:∀b o,b≠it->s.heap.get? b=some o->h'.get? b=some o) (hn:H it=none) (hL:it≠X.env.locals)
  (h1:it∈X.ex\/X.s₀.heap.objs.size≤it) (h2:∀x c,X.env.cells.lookup x=some c->c≠it) (h3:∀p∈X.pn++pins,p.1≠it):Inv X pins σ H { s with heap:=h',toks:=t' }:=by
 have nit:∀b u,H b=some u->b≠it:=λ b u e z=>by rw [z,hn] at e;cases e
 refine I.step (g':=s.gens) (d':=s.drawn) (ch:=[it]) (λ b hb=>?_) (λ b o _ _ hc e _=>k b o (λ z=>hc (by simp [z])) e) (λ b o _ _ hc e _=>⟨o.slots,k b o (λ z=>hc (by simp [z])) e⟩) (λ _ _ _ _ n=>n)
  (λ b o hc e=>⟨o,k b o (λ z=>hc (by simp [z])) e⟩) (λ _ _ e=>e) (λ _ _ _ e=>e) (λ b ps e=>⟨#[],by rw [e];simp⟩) (λ m hm=>?_) (λ b u e=>?_) I.bare
 ·have e:b=it:=by simpa using hb
  subst e
  exact ⟨h1,hL,h2,h3⟩
 ·obtain ⟨o,es,ep,ho,r⟩:=hm
  exact ⟨o,es,ep,k _ o (Ne.symm hL) ho,r⟩
 ·refine (I.hok b u e).stay (λ c v hc q=>k c v ?_ q) (λ _ q=>q) λ _ _ q=>q
  rcases hc with z | z
  ·rw [z];exact nit b u e
  ·exact nit c _ z
theorem Inv.tok (I:Inv X pins σ H s) (t:Nat):Inv X pins σ H { s with toks:=t }:=I.un (h':=s.heap) (t':=t) Un.refl I.hok
theorem Inv.kept {t':Nat}(I:Inv X pins σ H s) (k:∀b u,s.heap.get? b=some u->h'.get? b=some u):Inv X pins σ H { s with heap:=h',toks:=t' }:=I.un (Un.kept k) (I.hok.kept k)
theorem Inv.laid {a:Addr}{o:HO}{t':Nat}(I:Inv X pins σ H s) (k:∀b u,s.heap.get? b=some u->h'.get? b=some u) (hp:s.heap.objs.size≤a) (new:ObjOk X.prog X.w (upd H a o) h' a o) :
  Inv X pins σ (upd H a o) { s with heap:=h',toks:=t' }:=I.un (Un.laid k hp (I.hok.fresh hp)) (I.hok.laid k hp new)
theorem Inv.write {x e:Addr}{o:HO}{t':Nat}(I:Inv X pins σ H s) (mu:Mut (H x)) (he:e=x\/H e=some (.own x)) (k:∀b u,b≠e->s.heap.get? b=some u->h'.get? b=some u) (heo:∃u,h'.get? e=some u)
  (new:ObjOk X.prog X.w (upd H x o) h' x o):Inv X pins σ (upd H x o) { s with heap:=h',toks:=t' }:=I.un (Un.write mu he k heo) (I.hok.write mu he k heo new)
theorem Inv.pins_of {pins':List (Addr × Obj)}(I:Inv X pins σ H s) (h:∀p∈pins',s.heap.get? p.1=some p.2/\H p.1=none/\p.1≠X.env.locals/\p.1 ∉ X.fs/\∀v,p.2.data≠.cell v):Inv X pins' σ H s :=
 ⟨I.ok,I.os,I.bare,I.base,I.loc,I.cell,I.free,I.freeC,λ p hp=>(List.mem_append.mp hp).elim (λ z=>I.pin p (List.mem_append_left _ z)) (h p),I.hok,I.len⟩
theorem nodup_ix {N:List Str}(hN:N.Nodup) {i j:Nat}{x:Str}(a:N[i]?=some x) (b:N[j]?=some x):i=j:=by
 obtain ⟨h1,e1⟩:=List.getElem?_eq_some_iff.mp a
 obtain ⟨h2,e2⟩:=List.getElem?_eq_some_iff.mp b
 exact (List.getElem_inj hN).mp (e1.trans e2.symm)
theorem store_ok2 {M:Model}{A:Around}{E:Value->Shared->Prop}{i:Nat}{x:Str}{v:V}{u:Value}{Q:Unit->Shared->Prop}(I:Inv X pins σ H s) (hN:X.N.Nodup) (hi:X.N[i]?=some x) (hx:Loc X.env.scope x) (r:RelV v u)
  (h:∀s',Inv X pins (σ.set i (some v)) H s'->(∃a,Heap.SameBut a s.heap s'.heap/\(a=X.env.locals\/X.env.cells.lookup x=some a))->Q () s') (hf:X.fn x=true\/X.env.scope.names.lookup x=some .local:=by first | exact .inl rfl | exact .inr rfl | assumption):wpAny M A (storeName X.env x u) Q E s:=by
 obtain ⟨m,hn,hl⟩:=id I.loc
 have hcls:(X.env.scope.kind == .class || (X.env.scope.kind == .module && X.env.locals != X.env.globals))=false:=by rw [I.ok.kind];rfl
 have hiσ:i < σ.length:=by rw [I.len];exact (List.getElem?_eq_some_iff.mp hi).1
 have cne:=I.cne
 have tracked:∀ {a:Addr}{h':Heap},(∃o,s.heap.get? a=some o/\H a=none)->Heap.SameBut a s.heap h'->HOk X.prog X.w H h':=λ {a h'} ha hs b ob e=>by
  obtain ⟨_,_,hfree⟩:=ha
  refine (I.hok b ob e).stay (λ c w' hc q=>(hs.2 c ?_).trans q) (λ _ q=>q) λ _ _ q=>q
  rintro rfl
  rcases hc with rfl | hc
  ·rw [hfree] at e;cases e
  ·rw [hfree] at hc;cases hc
 rcases hx with hk | hk
 ·refine wpAny_storeName_local hk hn (λ h' hn' hs=>?_) hcls
  obtain ⟨oL,_,_,hoL,_⟩:=id hn
  refine h _ ⟨I.ok,I.os,I.bare,⟨λ b o e n hb hx=>?_,λ b o e n hb hx=>?_,I.base.free,λ b o e hx=>?_,I.base.tups,I.base.frzs,I.base.tbls⟩,⟨_,hn',λ j y v' e1 e2 e3=>?_⟩,λ y c e=>?_,I.free,I.freeC,λ p hp=>?_,tracked ⟨oL,hoL,I.free⟩ hs,by simpa using I.len⟩ ⟨_,hs,.inl rfl⟩
  ·exact (hs.2 b (Nat.ne_of_lt (Nat.lt_of_lt_of_le (Heap.lt_size e) I.ok.above))).trans (I.base.keep b o e n hb hx)
  ·obtain ⟨sl,e1⟩:=I.base.slot b o e n hb hx
   exact ⟨sl,(hs.2 b (Nat.ne_of_lt (Nat.lt_of_lt_of_le (Heap.lt_size e) I.ok.above))).trans e1⟩
  ·obtain ⟨o',e1⟩:=I.base.there b o e hx
   exact ⟨o',(hs.2 b (Nat.ne_of_lt (Nat.lt_of_lt_of_le (Heap.lt_size e) I.ok.above))).trans e1⟩
  ·by_cases hj:j=i
   ·subst hj
    rw [hi] at e1;cases e1
    rw [List.getElem?_set_self hiσ] at e2
    cases e2
    exact ⟨u,r,.inl ⟨hk,by simp⟩⟩
   ·rw [List.getElem?_set_ne (Ne.symm hj)] at e2
    obtain ⟨u',r',q⟩:=hl j y v' e1 e2 e3
    refine ⟨u',r',?_⟩
    rcases q with ⟨k,e⟩ | ⟨k,c,e,z⟩
    ·refine .inl ⟨k,?_⟩
     have:y≠x:=λ e=>hj (nodup_ix hN e1 (e ▸ hi))
     simp [this,e]
    ·exact .inr ⟨k,c,e,z.sameBut hs (cne y c e)⟩
  ·obtain ⟨w',z⟩:=I.cell y c e
   exact ⟨w',z.sameBut hs (cne y c e)⟩
  ·obtain ⟨e,n,ne,nf,d⟩:=I.pin p hp
   exact ⟨(hs.2 p.1 ne).trans e,n,ne,nf,d⟩
 ·have hfn:X.fn x=true:=by
   rcases hf with z | z
   ·exact z
   ·rw [z] at hk;cases hk
  obtain ⟨c,hc⟩:=I.ok.has x (.inl hk)
  obtain ⟨w',z⟩:=I.cell x c hc
  refine wpAny_storeName_cell I.ok.kind hk hc z (λ h' hc' hs=>?_)
  obtain ⟨oc,hoc,hocd⟩:=id z
  refine h { s with heap:=h' } ⟨I.ok,I.os,I.bare,⟨λ b o e n hb hx=>?_,λ b o e n hb hx=>?_,I.base.free,λ b o e hx=>?_,I.base.tups,I.base.frzs,I.base.tbls⟩,⟨m,hn.sameBut hs (Ne.symm (cne x c hc)),λ j y v' e1 e2 e3=>?_⟩,λ y c' e=>?_,I.free,I.freeC,λ p hp=>?_,tracked ⟨oc,hoc,I.freeC x c hc⟩ hs,by simpa using I.len⟩ ⟨c,hs,.inr hc⟩
  ·exact (hs.2 b (Nat.ne_of_lt (Nat.lt_of_lt_of_le (Heap.lt_size e) (I.ok.cab x c hfn hc)))).trans (I.base.keep b o e n hb hx)
  ·obtain ⟨sl,e1⟩:=I.base.slot b o e n hb hx
   exact ⟨sl,(hs.2 b (Nat.ne_of_lt (Nat.lt_of_lt_of_le (Heap.lt_size e) (I.ok.cab x c hfn hc)))).trans e1⟩
  ·obtain ⟨o',e1⟩:=I.base.there b o e hx
   exact ⟨o',(hs.2 b (Nat.ne_of_lt (Nat.lt_of_lt_of_le (Heap.lt_size e) (I.ok.cab x c hfn hc)))).trans e1⟩
  ·by_cases hj:j=i
   ·subst hj
    rw [hi] at e1;cases e1
    rw [List.getElem?_set_self hiσ] at e2
    cases e2
    exact ⟨u,r,.inr ⟨.inl hk,c,hc,hc'⟩⟩
   ·rw [List.getElem?_set_ne (Ne.symm hj)] at e2
    obtain ⟨u',r',q⟩:=hl j y v' e1 e2 e3
    refine ⟨u',r',?_⟩
    rcases q with q | ⟨k,c',e,z'⟩
    ·exact .inl q
    ·refine .inr ⟨k,c',e,z'.sameBut hs ?_⟩
     rintro rfl
     exact hj (nodup_ix hN e1 (I.ok.inj _ _ _ e hc ▸ hi))
  ·by_cases hcc:c'=c
   ·subst hcc;exact ⟨_,hc'⟩
   ·obtain ⟨w2,z2⟩:=I.cell y c' e
    exact ⟨w2,z2.sameBut hs hcc⟩
  ·obtain ⟨e,n,ne,nf,d⟩:=I.pin p hp
   refine ⟨(hs.2 p.1 ?_).trans e,n,ne,nf,d⟩
   intro q
   rw [q,hoc] at e
   have q':oc=p.2:=Option.some.inj e
   exact d w' (by rw [← q'];exact hocd)
theorem store_ok {M:Model}{A:Around}{E:Value->Shared->Prop}{i:Nat}{x:Str}{v:V}{u:Value}{Q:Unit->Shared->Prop}(I:Inv X pins σ H s) (hN:X.N.Nodup) (hi:X.N[i]?=some x) (hx:Loc X.env.scope x) (r:RelV v u)
  (h:∀s',Inv X pins (σ.set i (some v)) H s'->Q () s') (hf:X.fn x=true\/X.env.scope.names.lookup x=some .local:=by first | exact .inl rfl | exact .inr rfl | assumption):wpAny M A (storeName X.env x u) Q E s :=
 store_ok2 I hN hi hx r (λ s' I' _=>h s' I') hf
theorem Inv.call' {s':Shared}{ch:List Addr}(I:Inv X pins σ H s) (ho:s'.os=s.os) (u:Un (frs X.stack) ch H H' s.heap s'.heap) (hok:HOk X.prog X.w H' s'.heap) (hg:AllBare s'.gens)
  (hch:∀b∈ch,(b∈X.ex\/X.s₀.heap.objs.size≤b)/\b≠X.env.locals/\(∀x c,X.env.cells.lookup x=some c->c≠b)/\∀p∈X.pn++pins,p.1≠b):Inv X pins σ H' s':=by
 obtain ⟨h',g',d',t',o'⟩:=s'
 have e:o'=s.os:=ho
 subst e
 exact I.call (g':=g') (t':=t') (d':=d') u hok hg hch
end
abbrev XK:=Value->Option Addr->Hp->Prop
abbrev St:=List (Option V)
abbrev VK:=V->Hp->Prop
abbrev TE:=St->Hp->VK->Prop
abbrev TT:=St->Hp->(Bool->Hp->Prop)->Prop
abbrev TA:=St->Hp->(List V->Hp->Prop)->Prop
structure Ends where
 nx:St->Hp->Prop
 rt:VK
 bk:St->Hp->Prop:=λ _ _=>False
 ct:St->Hp->Prop:=λ _ _=>False
abbrev TS:=Ends->St->Hp->Prop
def EP (X:Cx) (pins:List (Addr × Obj)) (σ:St) (Q:VK) (u:Value) (s':Shared):Prop:=∃v H',Inv X pins σ H' s'/\RelV v u/\Q v H'
def TP (X:Cx) (pins:List (Addr × Obj)) (σ:St) (Q:Bool->Hp->Prop) (b:Bool) (s':Shared):Prop:=∃H',Inv X pins σ H' s'/\Q b H'
def AP (X:Cx) (pins:List (Addr × Obj)) (σ:St) (Q:List V->Hp->Prop) (us:List Value) (s':Shared):Prop:=∃vs H',Inv X pins σ H' s'/\Vals vs us/\Q vs H'
def SP (X:Cx) (pins:List (Addr × Obj)) (D:Ends) (f:Flow) (s':Shared):Prop :=
 match f with
 | .next=>∃σ' H',Inv X pins σ' H' s'/\D.nx σ' H'
 | .brk=>∃σ' H',Inv X pins σ' H' s'/\D.bk σ' H'
 | .cont=>∃σ' H',Inv X pins σ' H' s'/\D.ct σ' H'
 | .ret u=>∃v σ' H',Inv X pins σ' H' s'/\RelV v u/\D.rt v H'
def PE (X:Cx) (e:Expr) (t:TE):Prop :=
 ∀(pins:List (Addr × Obj)) (s:Shared) (σ:St) (H:Hp) (Q:VK),Inv X pins σ H s->t σ H Q->wpAny (model X.prog X.w) X.A (eval e X.env) (EP X pins σ Q) X.xe s
def PT (X:Cx) (e:Expr) (t:TT):Prop :=
 ∀(pins:List (Addr × Obj)) (s:Shared) (σ:St) (H:Hp) (Q:Bool->Hp->Prop),Inv X pins σ H s->t σ H Q->wpAny (model X.prog X.w) X.A (isTrue e X.env (eval e X.env)) (TP X pins σ Q) X.xe s
def PW (X:Cx) (e:Expr) (t:TT):Prop :=
 ∀(whole:Sem Value) (pins:List (Addr × Obj)) (s:Shared) (σ:St) (H:Hp) (Q:Bool->Hp->Prop),Inv X pins σ H s->t σ H Q->wpAny (model X.prog X.w) X.A (isTrue e X.env whole) (TP X pins σ Q) X.xe s
theorem PW.pt {X:Cx}{e:Expr}{t:TT}(h:PW X e t):PT X e t:=h _
def PA (X:Cx) (es:List Expr) (t:TA):Prop :=
 ∀(pos:Pos) (pins:List (Addr × Obj)) (s:Shared) (σ:St) (H:Hp) (Q:List V->Hp->Prop),Inv X pins σ H s->t σ H Q->wpAny (model X.prog X.w) X.A (spliced (backTo pos (starEach es X.env))) (AP X pins σ Q) X.xe s
def PS (X:Cx) (st:Stmt) (t:TS):Prop :=
 ∀(pins:List (Addr × Obj)) (s:Shared) (σ:St) (H:Hp) (D:Ends),Inv X pins σ H s->t D σ H->wpAny (model X.prog X.w) X.A (exec st X.env) (SP X pins D) X.xe s
def PSs (X:Cx) (st:List Stmt) (t:TS):Prop :=
 ∀(pins:List (Addr × Obj)) (s:Shared) (σ:St) (H:Hp) (D:Ends),Inv X pins σ H s->t D σ H->wpAny (model X.prog X.w) X.A (execs st X.env) (SP X pins D) X.xe s
theorem thn {α:Type}{t:Sem α}{Q Q':α->Shared->Prop}{M:Model}{A:Around}{E:Value->Shared->Prop}{s:Shared}(h:wpAny M A t Q E s) (hQ:∀a s,Q a s->Q' a s):wpAny M A t Q' E s:=wpAny_mono h hQ λ _ _ x=>x
section
variable {X:Cx}
def tVar (i:Nat):TE:=λ σ H Q=>∃v,σ[i]?=some (some v)/\Q v H
def tC (v:V):TE:=λ _ H Q=>Q v H
theorem pe_var {i:Nat}{x:Str}{pos:Pos}(hN:X.N[i]?=some x) (hv:Vis X.env.scope x) (hd:(x == ("__debug__" : Str))=false:=by decide) (hcd:(x == ("__classdict__" : Str))=false:=by decide):PE X (.Name x pos) (tVar i):=by
 intro pins s σ H Q I h
 obtain ⟨v,e,h⟩:=h
 obtain ⟨m,hn,hl⟩:=I.loc
 obtain ⟨u,r,l⟩:=hl i x v hN e hv
 have fin:EP X pins σ Q u s:=⟨v,H,I,r,h⟩
 rcases l with ⟨hk,hm⟩ | ⟨hk,c,hc,hcell⟩
 ·exact wpAny_Name (wpAny_loadName_local I.ok.kind hk hn hm fin) hd
 ·rcases hk with hk | hk
  ·exact wpAny_Name (wpAny_loadName_cell I.ok.kind hk hc hcell fin) hd
  ·exact wpAny_Name (wpAny_loadName_free I.ok.kind hk hc hcell fin hcd) hd
theorem pe_int {i j pos}:PE X (.Constant (.int i) j pos) (tC (.int i)):=λ _ _ _ H _ I h=>wpAny_Constant_int ⟨.int i,H,I.tok _,⟨_,rfl⟩,h⟩
theorem pe_bl {b j pos}:PE X (.Constant (.bool b) j pos) (tC (.bl b)):=λ _ _ _ H _ I h=>Constant_bool ⟨.bl b,H,I,rfl,h⟩
theorem pe_non {j pos}:PE X (.Constant .none j pos) (tC .non):=λ _ _ _ H _ I h=>Constant_none ⟨.non,H,I,rfl,h⟩
theorem pe_str {x j pos}:PE X (.Constant (.str x) j pos) (tC (.str x)):=λ _ _ _ H _ I h=>Calls.Constant_str ⟨.str x,H,I.tok _,⟨_,rfl⟩,h⟩
def Gl (X:Cx) (x:Str):Prop:=X.env.kindOf x=some .globalImplicit
theorem ld_glob {E:Value->Shared->Prop}{pins:List (Addr × Obj)}{s:Shared}{σ:St}{H:Hp}{x:Str}{u:Value}{pos:Pos}{Q:Value->Shared->Prop}(I:Inv X pins σ H s) (hg:Gl X x) (hm:X.mg x=some u) (h:Q u s)
  (hd:(x == ("__debug__" : Str))=false:=by decide):wpAny (model X.prog X.w) X.A (eval (.Name x pos) X.env) Q E s :=
 Calls.Name_function_global I.ok.kind hg (Calls.loadGlobal_global (by rw [I.ok.glob];exact I.mod.glob.keeps I.bk) hm h) hd
theorem ld_blt {E:Value->Shared->Prop}{pins:List (Addr × Obj)}{s:Shared}{σ:St}{H:Hp}{x:Str}{u:Value}{pos:Pos}{Q:Value->Shared->Prop}(I:Inv X pins σ H s) (hg:Gl X x) (hm:X.mg x=none) (hv:bootBuiltins x=some u) (h:Q u s)
  (hn:x ≠ "__name__" := by decide) (hd:(x == ("__debug__" : Str))=false:=by decide):wpAny (model X.prog X.w) X.A (eval (.Name x pos) X.env) Q E s:=by
 obtain ⟨mb,h1,h2⟩:=I.mod.blt
 exact Calls.Name_function_global I.ok.kind hg (Calls.loadGlobal_builtin (by rw [I.ok.glob];exact I.mod.glob.keeps I.bk) hm (by rw [I.ok.blt];exact h1.keeps I.bk) ((h2 x hn).trans hv) h) hd
theorem pe_glob {x:Str}{v:V}{u:Value}{pos:Pos}(hg:Gl X x) (hm:X.mg x=some u) (r:RelV v u) (hd:(x == ("__debug__" : Str))=false:=by decide):PE X (.Name x pos) (tC v) :=
 λ _ _ _ H _ I h=>ld_glob I hg hm ⟨v,H,I,r,h⟩ hd
theorem pe_bltn {x:Str}{v:V}{u:Value}{pos:Pos}(hg:Gl X x) (hm:X.mg x=none) (hv:bootBuiltins x=some u) (r:RelV v u) (hn:x ≠ "__name__" := by decide) (hd:(x == ("__debug__" : Str))=false:=by decide):PE X (.Name x pos) (tC v) :=
 λ _ _ _ H _ I h=>ld_blt I hg hm hv ⟨v,H,I,r,h⟩ hn hd
variable {a b:Expr}{ta tb:TE}{pos:Pos}
def PC (X:Cx) (op:CmpOp) (a b:Expr) (t:TE):Prop :=
 ∀(pins:List (Addr × Obj)) (s:Shared) (σ:St) (H:Hp) (Q:VK),Inv X pins σ H s->t σ H Q ->
  wpAny (model X.prog X.w) X.A (eval a X.env) (λ v s₁=>wpAny (model X.prog X.w) X.A (eval b X.env) (λ u s₂=>wpAny (model X.prog X.w) X.A (compareOp op v u) (EP X pins σ Q) X.xe s₂) X.xe s₁) X.xe s
theorem nobehind (b:Expr) {op:CmpOp}(h:op≠.In) (h2:op≠.NotIn):behindInMarks op b=false:=by
 have e1:(op == CmpOp.In)=false:=by cases op<;>first | rfl | exact absurd rfl h
 have e2:(op == CmpOp.NotIn)=false:=by cases op<;>first | rfl | exact absurd rfl h2
 cases b<;>simp [behindInMarks,e1,e2]
def tB (t:TE):TT:=λ σ H Q=>t σ H λ x H1=>∃c,x=.bl c/\Q c H1
theorem pt_cmp {op:CmpOp}{t:TE}(h:PC X op a b t) (h1:behindInMarks op b=false:=by first | exact nobehind _ (by decide) (by decide) | rfl):PT X (.Compare a [op] [b] pos) (tB t):=by
 intro pins s σ H Q I hw
 refine wpAny_isTrue_Compare1 (thn (h pins s σ H _ I hw) λ v s1 h1=>thn h1 λ u s2 h2=>thn h2 λ c s3 ⟨x,H1,I1,r1,q1⟩=>?_) h1
 obtain ⟨d,rfl,q⟩:=q1
 cases r1
 exact wpAny_truthy_bool ⟨H1,I1,q⟩
theorem pt_val {e:Expr}{t:TE}(h:PE X e t) (he:∀whole,isTrue e X.env whole=(do let v ← whole;standAt e.pos;holding [v] (truthy v)):=by intro _;rfl):PT X e (tB t):=by
 intro pins s σ H Q I hw
 refine isTrue_plain (thn (h pins s σ H _ I hw) λ v s1 ⟨x,H1,I1,r1,q1⟩=>?_) (he _)
 obtain ⟨d,rfl,q⟩:=q1
 cases r1
 exact wpAny_truthy_bool ⟨H1,I1,q⟩
variable {tA tB':TT}{rest:List Expr}
def tAnd (t u:TT):TT:=λ σ H Q=>t σ H λ c H1=>if c=true then u σ H1 Q else Q false H1
def tOr (t u:TT):TT:=λ σ H Q=>t σ H λ c H1=>if c=true then Q true H1 else u σ H1 Q
def tNot (t:TT):TT:=λ σ H Q=>t σ H λ c H1=>Q (!c) H1
theorem pw_and1 (ha:PT X a tA):PW X (.BoolOp .And [a] pos) tA:=by
 intro wh pins s σ H Q I h
 refine isTrue_and (thn (ha pins s σ H Q I h) λ c s1 e=>?_)
 cases c with
 | true=>exact isTrue_and_nil e
 | false=>exact e
theorem pw_or1 (ha:PT X a tA):PW X (.BoolOp .Or [a] pos) tA:=by
 intro wh pins s σ H Q I h
 refine isTrue_or (thn (ha pins s σ H Q I h) λ c s1 e=>?_)
 cases c with
 | false=>exact isTrue_or_nil e
 | true=>exact e
theorem pw_and (ha:PT X a tA) (hb:PW X (.BoolOp .And (b::rest) pos) tB'):PW X (.BoolOp .And (a::b::rest) pos) (tAnd tA tB'):=by
 intro wh pins s σ H Q I h
 refine isTrue_and (thn (ha pins s σ H _ I h) λ c s1 ⟨H1,I1,q1⟩=>?_)
 cases c with
 | true=>exact hb wh pins s1 σ H1 Q I1 q1
 | false=>exact ⟨H1,I1,q1⟩
theorem pw_or (ha:PT X a tA) (hb:PW X (.BoolOp .Or (b::rest) pos) tB'):PW X (.BoolOp .Or (a::b::rest) pos) (tOr tA tB'):=by
 intro wh pins s σ H Q I h
 refine isTrue_or (thn (ha pins s σ H _ I h) λ c s1 ⟨H1,I1,q1⟩=>?_)
 cases c with
 | true=>exact ⟨H1,I1,q1⟩
 | false=>exact hb wh pins s1 σ H1 Q I1 q1
theorem pt_not (ha:PT X a tA):PT X (.UnaryOp .Not a pos) (tNot tA):=by
 intro pins s σ H Q I h
 exact isTrue_not (ha pins s σ H (λ c H1=>Q (!c) H1) I h)
def tAndV (ta tb:TE):TE:=λ σ H Q=>ta σ H λ x H1=>∃c,x=.bl c/\if c=true then tb σ H1 Q else Q (.bl false) H1
def tOrV (ta tb:TE):TE:=λ σ H Q=>ta σ H λ x H1=>∃c,x=.bl c/\if c=true then Q (.bl true) H1 else tb σ H1 Q
def tNotV (ta:TE):TE:=λ σ H Q=>ta σ H λ x H1=>∃c,x=.bl c/\Q (.bl (!c)) H1
theorem pe_one {op} {t:TE}(h:PE X a t):PE X (.BoolOp op [a] pos) t:=λ pins s σ H Q I hw=>BoolOp_one (h pins s σ H Q I hw)
theorem pe_and (ha:PE X a ta) (hb:PE X (.BoolOp .And (b::rest) pos) tb):PE X (.BoolOp .And (a::b::rest) pos) (tAndV ta tb):=by
 intro pins s σ H Q I h
 refine BoolOp_and (thn (ha pins s σ H _ I h) λ v s1 ⟨x,H1,I1,r1,q1⟩=>?_)
 obtain ⟨c,rfl,q1⟩:=q1
 cases r1
 refine wpAny_truthy_bool ?_
 cases c with
 | true=>exact hb pins s1 σ H1 Q I1 q1
 | false=>exact ⟨.bl false,H1,I1,rfl,q1⟩
def tIf (t:TT) (ta tb:TE):TE:=λ σ H Q=>t σ H λ c H1=>if c=true then ta σ H1 Q else tb σ H1 Q
theorem pe_ifExp {c:Expr}(hc:PT X c tA) (ha:PE X a ta) (hb:PE X b tb):PE X (.IfExp c a b pos) (tIf tA ta tb):=by
 intro pins s σ H Q I h
 refine wpAny_IfExp (thn (hc pins s σ H _ I h) λ d s1 ⟨H1,I1,q1⟩=>?_)
 cases d with
 | true=>exact ha pins s1 σ H1 Q I1 q1
 | false=>exact hb pins s1 σ H1 Q I1 q1
end
def SqL (K:W.Frag) (H:Hp) (a:Addr) (xs:List V):Prop :=
 Rd H a (.lst xs) \/
  ∃(o:Obj) (its:Array Value) (n:Nat),K.lookup a=some o/\o.cls=.type "list" /\ o.dict=none/\o.data=.seq its n/\its.size≤sizeLine/\Vals xs its.toList
def SqT (K:W.Frag) (H:Hp) (a:Addr) (xs:List V):Prop :=
 Rd H a (.tup xs) \/
  ∃(o:Obj) (its:Array Value) (n:Nat),K.lookup a=some o/\o.cls=.type "tuple" /\ o.data=.seq its n/\its.size≤sizeLine/\Vals xs its.toList
def absV:Value->Option V
 | .none=>some .non
 | .bool b=>some (.bl b)
 | .int i _=>some (.int i)
 | .str x _=>some (.str x)
 | .bytes b _=>some (.byt b)
 | .float b _=>some (.flt b)
 | .ref a=>some (.ref a)
 | .type n=>some (.ty n)
 | _=>none
theorem RelV.abs {x:V}{u:Value}(r:RelV x u):absV u=some x:=by
 cases x with
 | non=>cases r;rfl
 | bl _=>cases r;rfl
 | int _=>obtain ⟨t,rfl⟩:=r;rfl
 | str _=>obtain ⟨t,rfl⟩:=r;rfl
 | byt _=>obtain ⟨t,rfl⟩:=r;rfl
 | flt _=>obtain ⟨t,rfl⟩:=r;rfl
 | ref _=>cases r;rfl
 | ty _=>cases r;rfl
theorem RelV.inj {x y:V}{u:Value}(r:RelV x u) (q:RelV y u):x=y:=Option.some.inj (r.abs.symm.trans q.abs)
theorem Vals.inj:∀ {xs ys:List V}{us:List Value},Vals xs us->Vals ys us->xs=ys
 | _,_,_,.nil,.nil=>rfl
 | _,_,_,.cons r t,.cons r' t'=>by rw [r.inj r',Vals.inj t t']
section
variable {X:Cx}{pins:List (Addr × Obj)}{σ:St}{H:Hp}{s:Shared}{a:Addr}{xs ys:List V}
theorem SqL.of {K:W.Frag}(h:H a=some (.lst xs)):SqL K H a xs:=.inl (.inl h)
theorem SqT.of {K:W.Frag}(h:H a=some (.tup xs)):SqT K H a xs:=.inl (.inl h)
theorem Inv.list (I:Inv X pins σ H s) (h:SqL X.K H a xs):∃its:List Value,Vals xs its/\PlainL s.heap a its.toArray/\xs.length≤sizeLine:=by
 rcases h with h | ⟨o,its,n,hk,hc,hd,hs,hz,r⟩
 ·obtain ⟨z,its,n,r,e⟩:=h.ok I.hok
  exact ⟨its,r,⟨_,n,e,rfl,rfl,rfl⟩,z⟩
 ·refine ⟨its.toList,r,⟨o,n,I.kIn a o hk,hc,hd,by simpa using hs⟩,?_⟩
  have e:=r.length
  simp only [Array.length_toList] at e
  omega
theorem Inv.tuple (I:Inv X pins σ H s) (h:SqT X.K H a xs):∃its:List Value,Vals xs its/\IsTup s.heap a its.toArray/\xs.length≤sizeLine:=by
 rcases h with h | ⟨o,its,n,hk,hc,hs,hz,r⟩
 ·obtain ⟨z,its,r,p⟩:=h.ok I.hok
  exact ⟨its,r,p,z⟩
 ·refine ⟨its.toList,r,⟨o,I.kIn a o hk,hc,n,by simpa using hs⟩,?_⟩
  have e:=r.length
  simp only [Array.length_toList] at e
  omega
theorem Inv.list_inj (I:Inv X pins σ H s) (h:SqL X.K H a xs) (h':SqL X.K H a ys):xs=ys:=by
 obtain ⟨its,r,⟨o,n,e,_,_,d⟩,_⟩:=I.list h
 obtain ⟨its',r',⟨o',n',e',_,_,d'⟩,_⟩:=I.list h'
 rw [e] at e';cases e'
 rw [d] at d'
 injection d' with d1 _
 have:its=its':=by simpa using congrArg Array.toList d1
 subst this
 exact r.inj r'
theorem Inv.tuple_inj (I:Inv X pins σ H s) (h:SqT X.K H a xs) (h':SqT X.K H a ys):xs=ys:=by
 obtain ⟨its,r,⟨o,e,_,n,d⟩,_⟩:=I.tuple h
 obtain ⟨its',r',⟨o',e',_,n',d'⟩,_⟩:=I.tuple h'
 rw [e] at e';cases e'
 rw [d] at d'
 injection d' with d1 _
 have:its=its':=by simpa using congrArg Array.toList d1
 subst this
 exact r.inj r'
end
abbrev Cx.wish (X:Cx) (E:Value->Shared->Prop):Cx:={ X with xe:=E }
abbrev Cx.nox (X:Cx):Cx:=X.wish λ _ _=>False
theorem Cx.Ok.wish {X:Cx}(ok:X.Ok) (E:Value->Shared->Prop):(X.wish E).Ok :=
 ⟨ok.mod,ok.kind,ok.glob,ok.blt,ok.above,ok.inj,ok.has,ok.cab,ok.hd,ok.frames,ok.stk,ok.exf,ok.bs,ok.bsz,ok.noex,ok.exfs,ok.funs,ok.frf⟩
theorem Cx.Ok.unwish {X:Cx}{E:Value->Shared->Prop}(ok:(X.wish E).Ok):X.Ok :=
 ⟨ok.mod,ok.kind,ok.glob,ok.blt,ok.above,ok.inj,ok.has,ok.cab,ok.hd,ok.frames,ok.stk,ok.exf,ok.bs,ok.bsz,ok.noex,ok.exfs,ok.funs,ok.frf⟩
section
variable {X:Cx}{pins:List (Addr × Obj)}{σ:St}{H:Hp}{s:Shared}{E:Value->Shared->Prop}
theorem Inv.wish (I:Inv X pins σ H s) (E:Value->Shared->Prop):Inv (X.wish E) pins σ H s:=⟨I.ok.wish E,I.os,I.bare,I.base,I.loc,I.cell,I.free,I.freeC,I.pin,I.hok,I.len⟩
theorem Inv.unwish (I:Inv (X.wish E) pins σ H s):Inv X pins σ H s:=⟨I.ok.unwish,I.os,I.bare,I.base,I.loc,I.cell,I.free,I.freeC,I.pin,I.hok,I.len⟩
theorem SP.unwish {D:Ends}{f:Flow}{s':Shared}(h:SP (X.wish E) pins D f s'):SP X pins D f s':=by
 cases f with
 | next=>obtain ⟨σ',H',I,q⟩:=h;exact ⟨σ',H',I.unwish,q⟩
 | brk=>obtain ⟨σ',H',I,q⟩:=h;exact ⟨σ',H',I.unwish,q⟩
 | cont=>obtain ⟨σ',H',I,q⟩:=h;exact ⟨σ',H',I.unwish,q⟩
 | ret u=>obtain ⟨v,σ',H',I,r,q⟩:=h;exact ⟨v,σ',H',I.unwish,r,q⟩
theorem PE.nox {e:Expr}{t:TE}(h:PE X.nox e t):PE X e t:=λ pins s σ H Q I hw =>
 wpAny_mono (h pins s σ H Q (I.wish _) hw) (λ _ _ ⟨v,H',I',r,q⟩=>⟨v,H',I'.unwish,r,q⟩) λ _ _ z=>False.elim z
theorem PT.nox {e:Expr}{t:TT}(h:PT X.nox e t):PT X e t:=λ pins s σ H Q I hw =>
 wpAny_mono (h pins s σ H Q (I.wish _) hw) (λ _ _ ⟨H',I',q⟩=>⟨H',I'.unwish,q⟩) λ _ _ z=>False.elim z
theorem PSs.nox {st:List Stmt}{t:TS}(h:PSs X.nox st t):PSs X st t:=λ pins s σ H D I hw =>
 wpAny_mono (h pins s σ H D (I.wish _) hw) (λ _ _ q=>q.unwish) λ _ _ z=>False.elim z
end
section
variable {X:Cx}{st:Stmt}{rest:List Stmt}{t u:TS}{e:Expr}{te:TE}{pos:Pos}
def tNext:TS:=λ D σ H=>D.nx σ H
def tSeq (t u:TS):TS:=λ D σ H=>t { D with nx:=u D } σ H
theorem pss_nil:PSs X [] tNext:=λ _ _ σ H _ I h=>wpAny_execs_nil ⟨σ,H,I,h⟩
theorem pss_cons (h1:PS X st t) (h2:PSs X rest u):PSs X (st::rest) (tSeq t u):=by
 intro pins s σ H D I h
 refine wpAny_execs_cons (thn (h1 pins s σ H { D with nx:=u D } I h) λ f s1 q=>?_)
 cases f with
 | next =>
  obtain ⟨σ',H',I',q⟩:=q
  exact h2 pins s1 σ' H' D I' q
 | ret v=>exact q
 | brk=>exact q
 | cont=>exact q
theorem pss_one (h1:PS X st t):PSs X [st] t:=by
 intro pins s σ H D I h
 refine wpAny_execs_cons (thn (h1 pins s σ H D I h) λ f s1 q=>?_)
 cases f with
 | next=>exact wpAny_execs_nil q
 | ret v=>exact q
 | brk=>exact q
 | cont=>exact q
theorem Inv.quiet {pins:List (Addr × Obj)}{σ:St}{H:Hp}{s:Shared}(I:Inv X pins σ H s):interactive X.env=false:=by simp [interactive,I.ok.kind]
def tDrop (te:TE):TS:=λ D σ H=>te σ H λ _ H1=>D.nx σ H1
theorem ps_expr (he:PE X e te) (hs:swapsWith e none pos.line X.env=pure false:=by rfl):PS X (.Expr e pos) (tDrop te):=by
 intro pins s σ H D I h
 exact wpAny_Expr_any (thn (he pins s σ H _ I h) λ v s1 ⟨x,H1,I1,r1,q1⟩=>⟨σ,H1,I1,q1⟩) I.quiet hs
def tRet (te:TE):TS:=λ D σ H=>te σ H D.rt
theorem ps_ret (he:PE X e te):PS X (.Return (some e) pos) (tRet te):=by
 intro pins s σ H D I h
 exact wpAny_Return_some (thn (he pins s σ H _ I h) λ v s1 ⟨x,H1,I1,r1,q1⟩=>⟨x,σ,H1,I1,r1,q1⟩)
def tRetN:TS:=λ D _ H=>D.rt .non H
def tIfS (c:TT) (t u:TS):TS:=λ D σ H=>c σ H λ b H1=>if b=true then t D σ H1 else u D σ H1
theorem ps_if {c:Expr}{a b:List Stmt}{tc:TT}(hc:PT X c tc) (ha:PSs X a t) (hb:PSs X b u):PS X (.If c a b pos) (tIfS tc t u):=by
 intro pins s σ H D I h
 refine wpAny_If (thn (hc pins s σ H _ I h) λ d s1 ⟨H1,I1,q1⟩=>?_)
 cases d with
 | true=>exact ha pins s1 σ H1 D I1 q1
 | false=>exact hb pins s1 σ H1 D I1 q1
def tNever:TS:=λ _ _ _=>False
theorem ps_never:PS X st tNever:=λ _ _ _ _ _ _ h=>h.elim
end
abbrev TG:=V->St->Hp->(St->Hp->Prop)->Prop
abbrev TGs:=List V->St->Hp->(St->Hp->Prop)->Prop
def PG (X:Cx) (target:Expr) (t:TG):Prop :=
 ∀(pins:List (Addr × Obj)) (s:Shared) (σ:St) (H:Hp) (v:V) (u:Value) (Q:St->Hp->Prop),Inv X pins σ H s->RelV v u->t v σ H Q ->
  wpAny (model X.prog X.w) X.A (assign target X.env u) (λ _ s'=>∃σ' H',Inv X pins σ' H' s'/\Q σ' H') X.xe s
def PGs (X:Cx) (ts:List Expr) (t:TGs):Prop :=
 ∀(pins:List (Addr × Obj)) (s:Shared) (σ:St) (H:Hp) (vs:List V) (us:List Value) (Q:St->Hp->Prop),Inv X pins σ H s->Vals vs us->t vs σ H Q ->
  wpAny (model X.prog X.w) X.A (assignInOrder ((assignEach ts X.env).map (·.2)) us) (λ _ s'=>∃σ' H',Inv X pins σ' H' s'/\Q σ' H') X.xe s
abbrev TSet:=V->V->V->Hp->(Hp->Prop)->Prop
def PSet (X:Cx) (t:TSet):Prop :=
 ∀(pins:List (Addr × Obj)) (s:Shared) (σ:St) (H:Hp) (o i v:V) (ov iv u:Value) (Q:Hp->Prop),Inv X pins σ H s->RelV o ov->RelV i iv->RelV v u->t o i v H Q ->
  wpAny (model X.prog X.w) X.A (setItem ov iv u) (λ _ s'=>∃H',Inv X pins σ H' s'/\Q H') X.xe s
section
variable {X:Cx}{pos:Pos}
def gName (i:Nat):TG:=λ v σ H Q=>Q (σ.set i (some v)) H
theorem pg_name {i:Nat}{x:Str}(hN:X.N.Nodup) (hi:X.N[i]?=some x) (hx:Loc X.env.scope x) (hf:X.fn x=true\/X.env.scope.names.lookup x=some .local:=by first | exact .inl rfl | exact .inr rfl | assumption):PG X (.Name x pos) (gName i):=by
 intro pins s σ H v u Q I r h
 exact wpAny_assign_Name (store_ok I hN hi hx r (λ s' I'=>⟨_,H,I',h⟩) hf)
def gNil:TGs:=λ vs σ H Q=>vs=[]/\Q σ H
def gCons (t:TG) (u:TGs):TGs:=λ vs σ H Q=>∃v r,vs=v::r/\t v σ H λ σ' H'=>u r σ' H' Q
theorem pgs_nil:PGs X [] gNil:=by
 intro pins s σ H vs us Q I r h
 obtain ⟨e,h⟩:=h
 subst e
 cases r
 exact assignInOrder_nil ⟨σ,H,I,h⟩
theorem pgs_cons {e:Expr}{es:List Expr}{t:TG}{u:TGs}(h1:PG X e t) (h2:PGs X es u)
  (hs:(assignEach (e::es) X.env).map (·.2)=assign e X.env::(assignEach es X.env).map (·.2):=by rfl):PGs X (e::es) (gCons t u):=by
 intro pins s σ H vs us Q I r h
 obtain ⟨v,vr,e1,h⟩:=h
 subst e1
 cases r with
 | cons r rr =>
  rw [hs]
  refine assignInOrder_cons (thn (h1 pins s σ H _ _ _ I r h) λ _ s1 ⟨σ1,H1,I1,q1⟩=>?_)
  exact h2 pins s1 σ1 H1 _ _ Q I1 rr q1
def gTup (K:W.Frag) (n:Nat) (t:TGs):TG:=λ v σ H Q=>∃a xs,v=.ref a/\SqT K H a xs/\xs.length=n/\t xs σ H Q
theorem pg_tup {es:List Expr}{k:Nat}{t:TGs}{n:Nat}(hc:X.calm=true) (h:PGs X es t)
  (hn:(assignEach es X.env).length=n:=by rfl) (hst:(assignEach es X.env).findIdx? (·.1)=none:=by rfl):PG X (.Tuple es k pos) (gTup X.K n t):=by
 intro pins s σ H v u Q I r hw
 obtain ⟨a,xs,e1,hq,hl,hw⟩:=hw
 subst e1
 cases r
 obtain ⟨its,rv,ht,hz⟩:=I.tuple hq
 refine assign_Tuple_tuple (I.ok.hd hc) ht (by simp [hn,← hl,rv.length]) hst λ h' hx=>?_
 have I1:Inv X pins σ H { s with heap:=h' }:=I.kept (t':=s.toks) λ b o e=>hx b o (Nat.ne_of_lt (Heap.lt_size e)) e
 exact h pins _ σ H xs _ Q I1 (by simpa using rv) hw
def gSub (to ti:TE) (t:TSet):TG:=λ v σ H Q=>to σ H λ o H1=>ti σ H1 λ i H2=>t o i v H2 λ H3=>Q σ H3
theorem pg_sub {o i:Expr}{to ti:TE}{t:TSet}(ho:PE X o to) (hi:PE X i ti) (hs:PSet X t)
  (ha:∀v,assign (.Subscript o i pos) X.env v=(do
   let ov ← holding [v] (eval o X.env)
   let iv ← holding [v,ov] (eval i X.env)
   standAt pos
   holding [v,ov,iv] (setItem ov iv v)
   release [v,ov,iv] []):=by intro _;rfl):PG X (.Subscript o i pos) (gSub to ti t):=by
 intro pins s σ H v u Q I r h
 rw [ha]
 refine wpAny_bind (wpAny_holding (thn (ho pins s σ H _ I h) λ ov s1 ⟨x,H1,I1,r1,q1⟩=>?_))
 refine wpAny_bind (wpAny_holding (thn (hi pins s1 σ H1 _ I1 q1) λ iv s2 ⟨y,H2,I2,r2,q2⟩=>?_))
 refine wpAny_bind (wpAny_standAt (wpAny_bind (wpAny_holding (thn (hs pins s2 σ H2 x y v ov iv u _ I2 r1 r2 r q2) λ _ s3 ⟨H3,I3,q3⟩=>?_))))
 exact wpAny_release ⟨σ,H3,I3,q3⟩
def tAsg (te:TE) (g:TG):TS:=λ D σ H=>te σ H λ x H1=>g x σ H1 D.nx
theorem ps_asg {tg e:Expr}{te:TE}{g:TG}(he:PE X e te) (hg:PG X tg g) (hs:swapsWithSole [tg] e pos.line X.env=pure false:=by rfl) (hw:swappedStores [tg] e X.env=pure none:=by rfl)
  (h1:(assignEach [tg] X.env).map (·.2)=[assign tg X.env]:=by rfl):PS X (.Assign [tg] e pos) (tAsg te g):=by
 intro pins s σ H D I h
 refine wpAny_Assign_stores (thn (he pins s σ H _ I h) λ v s1 ⟨x,H1,I1,r1,q1⟩=>?_) hs hw
 rw [h1]
 exact thn (hg pins s1 σ H1 x v _ I1 r1 q1) λ _ s2 q=>q
theorem ps_set {i:Nat}{x:Str}{e:Expr}{te:TE}{pos':Pos}(hN:X.N.Nodup) (hi:X.N[i]?=some x) (hx:Loc X.env.scope x) (he:PE X e te) (hs:swapsWith e (some (.Name x pos')) pos.line X.env=pure false:=by rfl) (hf:X.fn x=true\/X.env.scope.names.lookup x=some .local:=by first | exact .inl rfl | exact .inr rfl | assumption) :
  PS X (.Assign [.Name x pos'] e pos) (tAsg te (gName i)):=by
 intro pins s σ H D I h
 refine wpAny_Assign_Name (thn (he pins s σ H _ I h) λ v s1 ⟨y,H1,I1,r1,q1⟩=>?_) hs
 exact store_ok I1 hN hi hx r1 (λ s2 I2=>⟨_,H1,I2,q1⟩) hf
end
section
variable {X:Cx}{pos:Pos}
def tWhile (c:TT) (tb:TS):TS:=λ D σ H=>∃W:Nat->St->Hp->Prop,(∃m,W m σ H)/\∀m σ H,W m σ H ->
 c σ H λ b H1=>if b=true then ∃N:St->Hp->Prop,(∀σ' H',N σ' H'->∃m',m' < m/\W m' σ' H')/\tb { D with nx:=N,ct:=N,bk:=D.nx } σ H1 else D.nx σ H1
theorem ps_while {c:Expr}{body:List Stmt}{tc:TT}{tb:TS}(hp:PassesOwn (model X.prog X.w) X.A X.env X.xe) (hc:PT X c tc) (hb:PSs X body tb):PS X (.While c body [] pos) (tWhile tc tb):=by
 intro pins s σ H D I h
 obtain ⟨W,⟨m0,w0⟩,turn⟩:=h
 refine wpAny_While (codeAny_whileLoop (λ n s'=>∃σ' H',Inv X pins σ' H' s'/\W n σ' H') ?_ m0 ⟨σ,H,I,w0⟩)
 rintro n s1 ⟨σ1,H1,I1,w1⟩
 refine wpAny_passesOwn hp (thn (hc pins s1 σ1 H1 _ I1 (turn n σ1 H1 w1)) λ b s2 ⟨H2,I2,q2⟩=>?_)
 cases b with
 | true =>
  obtain ⟨N,hN,q2⟩:=q2
  rw [if_pos rfl]
  refine wpAny_passesOwn hp (thn (hb pins s2 σ1 H2 _ I2 q2) λ f s3 q3=>?_)
  cases f with
  | next =>
   obtain ⟨σ3,H3,I3,n3⟩:=q3
   obtain ⟨m',hm,w3⟩:=hN σ3 H3 n3
   exact ⟨m',hm,σ3,H3,I3,w3⟩
  | cont =>
   obtain ⟨σ3,H3,I3,n3⟩:=q3
   obtain ⟨m',hm,w3⟩:=hN σ3 H3 n3
   exact ⟨m',hm,σ3,H3,I3,w3⟩
  | brk=>exact q3
  | ret v=>exact q3
 | false =>
  rw [if_neg Bool.false_ne_true]
  exact wpAny_execs_nil ⟨σ1,H2,I2,q2⟩
end
structure It where
 go:Nat->Hp->Prop
 yld:Nat->Hp->V->Hp->Prop
 stop:Nat->Hp->Prop
def FpOk (X:Cx) (pins:List (Addr × Obj)) (H:Hp) (b:Addr):Prop :=
 H b=none/\b≠X.env.locals/\b ∉ X.fs/\(b∈X.ex\/X.s₀.heap.objs.size≤b)/\(∀x c,X.env.cells.lookup x=some c->c≠b)/\∀p∈X.pn++pins,p.1≠b
theorem Inv.fpOk {X:Cx}{pins:List (Addr × Obj)}{σ:St}{H H':Hp}{s:Shared}{b:Addr}(I:Inv X pins σ H s) (hb:s.heap.objs.size≤b) (hn:H' b=none):FpOk X pins H' b:=by
 refine ⟨hn,Nat.ne_of_gt (Nat.lt_of_lt_of_le I.lt hb),I.nofs hb,.inr (Nat.le_trans I.sz hb),λ x c e z=>?_,λ p hp z=>?_⟩
 ·obtain ⟨v,q⟩:=I.cell x c e
  exact absurd (Nat.lt_of_lt_of_le q.lt (by rw [z];exact hb)) (Nat.lt_irrefl _)
 ·exact absurd (Nat.lt_of_lt_of_le (Heap.lt_size (I.pin p hp).1) (by rw [z];exact hb)) (Nat.lt_irrefl _)
structure Turn (P:Program) (w:World) (K:W.Frag) (tg:Expr) (J:It) (fp:List Addr) (it:Addr) (tn:Nat->Heap->Prop):Prop where
 mem:it∈fp
 obj:∀i h,tn i h->∀b∈fp,∃o,h.get? b=some o/\∀v,o.data≠.cell v
 keep:∀i h h',tn i h->(∀b∈fp,∀o,h.get? b=some o->h'.get? b=some o)->tn i h'
 item:∀(X:Cx),X.prog=P->X.w=w->X.K=K->X.calm=true->∀(i:Nat) (pins:List (Addr × Obj)) (s:Shared) (σ:St) (H:Hp) (E:Value->Shared->Prop),Inv X pins σ H s->(∀b∈fp,FpOk X pins H b)->tn i s.heap->J.go i H ->
  wpAny (model P w) X.A (pyNext (.ref it)) (λ r s1=>∃u,r=some u /\
   wpAny (model P w) X.A (letOwnedTupleGo tg (.ref it) u) (λ _ s2=>∃x H',Inv X pins σ H' s2/\RelV x u/\J.yld i H x H'/\tn (i+1) s2.heap/\∀b∈fp,H' b=none) E s1) E s
 done:∀(X:Cx),X.prog=P->X.w=w->X.K=K->X.calm=true->∀(i:Nat) (pins:List (Addr × Obj)) (s:Shared) (σ:St) (H:Hp) (E:Value->Shared->Prop),Inv X pins σ H s->(∀b∈fp,FpOk X pins H b)->tn i s.heap->J.stop i H ->
  wpAny (model P w) X.A (pyNext (.ref it)) (λ r s1=>r=none/\Inv X pins σ H s1) E s
 self:∀(A:Around) (i:Nat) (s:Shared) (Q:Value->Shared->Prop) (E:Value->Shared->Prop),tn i s.heap->Q (.ref it) s->wpAny (model P w) A (pyIter (.ref it)) Q E s
abbrev TI:=St->Hp->(It->Hp->Prop)->Prop
def PIE (X:Cx) (pins:List (Addr × Obj)) (σ:St) (tg:Expr) (R:It->Hp->Prop) (itv:Value) (s2:Shared):Prop :=
 ∃(it:Addr) (fp:List Addr) (tn:Nat->Heap->Prop) (J:It) (H':Hp),itv=.ref it/\Inv X pins σ H' s2/\Turn X.prog X.w X.K tg J fp it tn/\tn 0 s2.heap/\(∀b∈fp,FpOk X pins H' b)/\R J H'
def PI (X:Cx) (tg iter:Expr) (wi:TI):Prop :=
 ∀(pins:List (Addr × Obj)) (s:Shared) (σ:St) (H:Hp) (R:It->Hp->Prop),Inv X pins σ H s->wi σ H R ->
  wpAny (model X.prog X.w) X.A (eval iter X.env) (λ v s1=>wpAny (model X.prog X.w) X.A (pyIter v) (PIE X pins σ tg R) X.xe s1) X.xe s
theorem go_of {M:Model}{A:Around}{E:Value->Shared->Prop}{s:Shared}{tg:Expr}{it:Addr}{u:Value}{o:Obj}{n:String}{vs:Array Value}{Q:Unit->Shared->Prop}(ho:s.heap.get? it=some o) (hc:o.cls=.type n) (hd:o.data=.fields vs)
    (hn:["enumerate", "zip", "dict_itemiterator", "dict_reverseitemiterator", "odict_iterator", "itertools.zip_longest", "itertools.pairwise"].contains n=false) (hQ:Q () s):wpAny M A (letOwnedTupleGo tg (.ref it) u) Q E s:=by
  unfold letOwnedTupleGo
  cases tg<;>first
    | exact wpAny_pure hQ
    | (cases u<;>first
        | exact wpAny_pure hQ
        | (refine wpAny_bind (wpAny_load ho ?_)
           rw [hc,hd]
           show wpAny M A (if (["enumerate", "zip", "dict_itemiterator", "dict_reverseitemiterator", "odict_iterator", "itertools.zip_longest", "itertools.pairwise"].contains n && vs[0]? == some (rawInt _))=true then _ else _) Q E s
           rw [if_neg (by intro h;rw [hn,Bool.false_and] at h;cases h)]
           exact wpAny_pure hQ))
def Itl (K:W.Frag) (a:Addr):It :=
 ⟨λ i H=>∃xs x,SqL K H a xs/\xs[i]?=some x,λ i H x H'=>H'=H/\∀xs,SqL K H a xs->xs[i]?=some x,λ i H=>∃xs,SqL K H a xs/\xs.length≤i⟩
def Itt (K:W.Frag) (a:Addr):It :=
 ⟨λ i H=>∃xs x,SqT K H a xs/\xs[i]?=some x,λ i H x H'=>H'=H/\∀xs,SqT K H a xs->xs[i]?=some x,λ i H=>∃xs,SqT K H a xs/\xs.length≤i⟩
def Itr (lo:Int) (n:Nat):It:=⟨λ i _=>i < n,λ i H x H'=>H'=H/\x=.int (lo+i),λ i _=>n≤i⟩
theorem turn_list {P:Program}{w:World}{K:W.Frag}{tg:Expr}(a it:Addr):Turn P w K tg (Itl K a) [it] it (λ i h=>h.IsListIter it a i) where
 mem:=by simp
 obj:=λ i h st b hb=>by
  have e:b=it:=by simpa using hb
  subst e
  obtain ⟨o,e,c,d⟩:=st
  exact ⟨o,e,λ v z=>by rw [d] at z;cases z⟩
 keep:=λ i h h' st k=>st.at λ o e=>k it (by simp) o e
 item:=by
  intro X hP hw hK hc i pins s σ H E I hf st hg
  subst hP hw hK
  obtain ⟨xs,x,hq,hx⟩:=hg
  obtain ⟨its,rv,p,hz⟩:=I.list hq
  obtain ⟨u,hu,ru⟩:=rv.get hx
  obtain ⟨f0,f1,f2,f3,f4,f5⟩:=hf it (by simp)
  refine wpAny_pyNext_list_item st p.isList (x:=u) (by simpa using hu) λ h' st' sb=>?_
  have I1:Inv X pins σ H { s with heap:=h' }:=I.turned (t':=s.toks) (λ b o hb e=>(sb.2 b hb).trans e) f0 f1 f3 f4 f5
  obtain ⟨o,e,c,d⟩:=id st'
  exact ⟨u,rfl,go_of (s:={ s with heap:=h' }) e c d (by decide) ⟨x,H,I1,ru,⟨rfl,λ ys hy=>by rw [I.list_inj hy hq];exact hx⟩,st',λ b hb=>(hf b hb).1⟩⟩
 done:=by
  intro X hP hw hK hc i pins s σ H E I hf st hg
  subst hP hw hK
  obtain ⟨xs,hq,hx⟩:=hg
  obtain ⟨its,rv,p,hz⟩:=I.list hq
  obtain ⟨f0,f1,f2,f3,f4,f5⟩:=hf it (by simp)
  have hl:=rv.length
  exact wpAny_pyNext_list_end (I.ok.hd hc) st p.isList (by simp;omega) λ h' eb=>⟨rfl,I.turned (t':=s.toks) (λ b o hb e=>eb b o hb e) f0 f1 f3 f4 f5⟩
 self:=λ _ _ _ _ _ st h=>wpAny_pyIter_listiter st h
theorem turn_tuple {P:Program}{w:World}{K:W.Frag}{tg:Expr}(a it:Addr):Turn P w K tg (Itt K a) [it] it (λ i h=>h.IsTupleIter it a i) where
 mem:=by simp
 obj:=λ i h st b hb=>by
  have e:b=it:=by simpa using hb
  subst e
  obtain ⟨o,e,c,d⟩:=st
  exact ⟨o,e,λ v z=>by rw [d] at z;cases z⟩
 keep:=λ i h h' st k=>st.at λ o e=>k it (by simp) o e
 item:=by
  intro X hP hw hK hc i pins s σ H E I hf st hg
  subst hP hw hK
  obtain ⟨xs,x,hq,hx⟩:=hg
  obtain ⟨its,rv,p,hz⟩:=I.tuple hq
  obtain ⟨u,hu,ru⟩:=rv.get hx
  obtain ⟨f0,f1,f2,f3,f4,f5⟩:=hf it (by simp)
  refine wpAny_pyNext_tuple_item st (show s.heap.IsTuple a its.toArray from p) (x:=u) (by simpa using hu) λ h' st' sb=>?_
  have I1:Inv X pins σ H { s with heap:=h' }:=I.turned (t':=s.toks) (λ b o hb e=>(sb.2 b hb).trans e) f0 f1 f3 f4 f5
  obtain ⟨o,e,c,d⟩:=id st'
  exact ⟨u,rfl,go_of (s:={ s with heap:=h' }) e c d (by decide) ⟨x,H,I1,ru,⟨rfl,λ ys hy=>by rw [I.tuple_inj hy hq];exact hx⟩,st',λ b hb=>(hf b hb).1⟩⟩
 done:=by
  intro X hP hw hK hc i pins s σ H E I hf st hg
  subst hP hw hK
  obtain ⟨xs,hq,hx⟩:=hg
  obtain ⟨its,rv,p,hz⟩:=I.tuple hq
  obtain ⟨f0,f1,f2,f3,f4,f5⟩:=hf it (by simp)
  have hl:=rv.length
  exact wpAny_pyNext_tuple_end (I.ok.hd hc) st (show s.heap.IsTuple a its.toArray from p) (by simp;omega) λ h' eb=>⟨rfl,I.turned (t':=s.toks) (λ b o hb e=>eb b o hb e) f0 f1 f3 f4 f5⟩
 self:=λ _ _ _ _ _ st h=>wpAny_pyIter_tupleiter st h
theorem turn_range {P:Program}{w:World}{K:PySem.W.Frag}{tg:Expr}(it:Addr) (lo:Int) (n:Nat):Turn P w K tg (Itr lo n) [it] it (λ i h=>IsRangeIter h it (lo+(i:Nat) * 1) ((n:Int) - (i:Nat)) 1) where
 mem:=by simp
 obj:=λ i h st b hb=>by
  have e:b=it:=by simpa using hb
  subst e
  exact ⟨_,st,λ v z=>by
   have z':Data.fields _=Data.cell v:=z
   cases z'⟩
 keep:=λ i h h' st k=>k it (by simp) _ st
 item:=by
  intro X hP hw hK hc i pins s σ H E I hf st hg
  subst hP hw hK
  obtain ⟨f0,f1,f2,f3,f4,f5⟩:=hf it (by simp)
  have W:=Walks.range (prog:=X.prog) (w:=X.w) (I.ok.hd hc) it lo 1 n
  refine W.item i s _ _ hg st λ v h' tk hv st' kk=>?_
  obtain ⟨t,rfl⟩:=hv
  have I1:Inv X pins σ H { s with heap:=h',toks:=tk }:=I.turned (λ b o hb e=>kk b o (by simpa using hb) e) f0 f1 f3 f4 f5
  refine ⟨_,rfl,go_of (s:={ s with heap:=h',toks:=tk }) (n := "range_iterator") st' rfl rfl (by decide) ⟨.int (lo+i),H,I1,⟨t,?_⟩,⟨rfl,rfl⟩,st',λ b hb=>(hf b hb).1⟩⟩
  rw [Int.mul_one]
 done:=by
  intro X hP hw hK hc i pins s σ H E I hf st hg
  subst hP hw hK
  obtain ⟨f0,f1,f2,f3,f4,f5⟩:=hf it (by simp)
  exact wpAny_pyNext_range_end (I.ok.hd hc) st (by have:n≤i:=hg;omega) λ h' eb=>⟨rfl,I.turned (t':=s.toks) (λ b o hb e=>eb b o hb e) f0 f1 f3 f4 f5⟩
 self:=λ _ _ _ _ _ st h=>wpAny_pyIter_rangeiter st h
section
variable {X:Cx}{tg:Expr}
def iList (K:W.Frag) (tl:TE):TI:=λ σ H R=>tl σ H λ x H1=>∃a,x=.ref a/\(∃xs,SqL K H1 a xs)/\R (Itl K a) H1
def iTup (K:W.Frag) (tl:TE):TI:=λ σ H R=>tl σ H λ x H1=>∃a,x=.ref a/\(∃xs,SqT K H1 a xs)/\R (Itt K a) H1
theorem pi_list {l:Expr}{tl:TE}(hl:PE X l tl):PI X tg l (iList X.K tl):=by
 intro pins s σ H R I h
 refine thn (hl pins s σ H _ I h) λ v s1 ⟨x,H1,I1,r1,q1⟩=>?_
 obtain ⟨a,e,⟨xs,hq⟩,q⟩:=q1
 subst e
 cases r1
 obtain ⟨its,rv,p,hz⟩:=I1.list hq
 refine wpAny_pyIter_list p.isList ?_
 refine ⟨s1.heap.objs.size,[s1.heap.objs.size],_,_,H1,rfl,I1.kept (t':=s1.toks) λ b o e=>Heap.get?_push_of_some _ e,turn_list a _,⟨_,Heap.get?_push_size _ rfl,rfl,rfl⟩,λ b hb=>?_,q⟩
 have e:b=s1.heap.objs.size:=by simpa using hb
 subst e
 exact I1.fpOk (Nat.le_refl _) (I1.hok.fresh (Nat.le_refl _))
theorem pi_tup {l:Expr}{tl:TE}(hl:PE X l tl):PI X tg l (iTup X.K tl):=by
 intro pins s σ H R I h
 refine thn (hl pins s σ H _ I h) λ v s1 ⟨x,H1,I1,r1,q1⟩=>?_
 obtain ⟨a,e,⟨xs,hq⟩,q⟩:=q1
 subst e
 cases r1
 obtain ⟨its,rv,p,hz⟩:=I1.tuple hq
 refine wpAny_pyIter_tuple (show s1.heap.IsTuple a its.toArray from p) ?_
 refine ⟨s1.heap.objs.size,[s1.heap.objs.size],_,_,H1,rfl,I1.kept (t':=s1.toks) λ b o e=>Heap.get?_push_of_some _ e,turn_tuple a _,⟨_,Heap.get?_push_size _ rfl,rfl,rfl⟩,λ b hb=>?_,q⟩
 have e:b=s1.heap.objs.size:=by simpa using hb
 subst e
 exact I1.fpOk (Nat.le_refl _) (I1.hok.fresh (Nat.le_refl _))
theorem range_it {pins:List (Addr × Obj)}{σ:St}{H:Hp}{s:Shared}{R:It->Hp->Prop}{E:Value->Shared->Prop}{lo hi:Int}{t u v:Tok}{tk:Nat}(I:Inv X pins σ H s) (h1:-(2 ^ 62)≤lo) (h2:lo < 2 ^ 62) (h3:-(2 ^ 62)≤hi) (h4:hi < 2 ^ 62)
  (q:R (Itr lo (hi - lo).toNat) H):wpAny (model X.prog X.w) X.A (pyIter (.ref s.heap.objs.size)) (PIE X pins σ tg R) E { s with heap:=s.heap.push { cls:=.type "range",data:=.fields #[.int lo t,.int hi u,.int 1 v] },toks:=tk }:=by
 refine wpAny_pyIter_range (IsRange.new ..) (small_one h1 h2 h3 h4) ?_
 have I1:Inv X pins σ H { s with heap:=s.heap.push { cls:=.type "range",data:=.fields #[.int lo t,.int hi u,.int 1 v] },toks:=tk }:=I.kept λ b o e=>Heap.get?_push_of_some _ e
 refine ⟨(s.heap.push { cls:=.type "range",data:=.fields #[.int lo t,.int hi u,.int 1 v] }).objs.size,[(s.heap.push { cls:=.type "range",data:=.fields #[.int lo t,.int hi u,.int 1 v] }).objs.size],_,_,H,rfl,
  I1.kept (t':=tk) λ b o e=>Heap.get?_push_of_some _ e,turn_range _ lo (hi - lo).toNat,?_,λ b hb=>?_,q⟩
 ·have e1:lo+((0:Nat):Int) * 1=lo:=by simp
  have e2:(((hi - lo).toNat:Nat):Int) - ((0:Nat):Int)=Builtin.Range.rangeSize lo hi 1:=by rw [rangeSize_one];split<;>omega
  show IsRangeIter _ _ (lo+((0:Nat):Int) * 1) ((((hi - lo).toNat:Nat):Int) - ((0:Nat):Int)) 1
  rw [e1,e2]
  exact Heap.get?_push_size _ rfl
 ·have e:b=(s.heap.push { cls:=.type "range",data:=.fields #[.int lo t,.int hi u,.int 1 v] }).objs.size:=by simpa using hb
  subst e
  exact I1.fpOk (Nat.le_refl _) (I1.hok.fresh (Nat.le_refl _))
def iRng1 (ta:TA):TI:=λ σ H R=>ta σ H λ vs H1=>∃j:Int,vs=[.int j]/\-(2 ^ 62)≤j/\j < 2 ^ 62/\R (Itr 0 j.toNat) H1
def iRng2 (ta:TA):TI:=λ σ H R=>ta σ H λ vs H1=>∃i j:Int,vs=[.int i,.int j]/\(-(2 ^ 62)≤i/\i < 2 ^ 62/\-(2 ^ 62)≤j/\j < 2 ^ 62)/\R (Itr i (j - i).toNat) H1
theorem pi_range1 {a:Expr}{ta:TA}{p pos:Pos}(hg:Gl X "range") (hm:X.mg "range" = none) (ha:PA X [a] ta) (hs:starEach [a] X.env=[(false,eval a X.env)]:=by rfl):PI X tg (.Call (.Name "range" p) [a] [] pos) (iRng1 ta):=by
 intro pins s σ H R I h
 refine Call_ (ld_blt I hg hm boot_range (PyProof.Rows.callWith_type1 (thn (ha pos pins s σ H _ I h) λ us s1 ⟨vs,H1,I1,r1,q1⟩=>?_) hs rfl))
 obtain ⟨j,e,q1,q2,q⟩:=q1
 subst e
 cases r1 with
 | cons r rr =>
  cases rr
  obtain ⟨t,rfl⟩:=r
  exact call_range_1 (range_it I1 (by omega) (by omega) q1 q2 (by simpa using q))
def tFor (wi:TI) (g:TG) (tb:TS):TS:=λ D σ H=>wi σ H λ J H1=>∃W:Nat->Nat->St->Hp->Prop,(∃m,W 0 m σ H1)/\∀i m σ H,W i m σ H ->
 (J.stop i H/\D.nx σ H)\/(J.go i H/\∃N:St->Hp->Prop,(∀σ' H',N σ' H'->∃m',m' < m/\W (i+1) m' σ' H')/\∀x H',J.yld i H x H'->g x σ H' λ σ2 H2=>tb { D with nx:=N,ct:=N,bk:=D.nx } σ2 H2)
def pinsAt (fp:List Addr) (h:Heap):List (Addr × Obj):=fp.filterMap λ b=>(h.get? b).map λ o=>(b,o)
theorem mem_pinsAt {fp:List Addr}{h:Heap}{b:Addr}{o:Obj}(hb:b∈fp) (e:h.get? b=some o):(b,o)∈pinsAt fp h:=List.mem_filterMap.mpr ⟨b,hb,by rw [e];rfl⟩
theorem of_pinsAt {fp:List Addr}{h:Heap}{p:Addr × Obj}(hp:p∈pinsAt fp h):p.1∈fp/\h.get? p.1=some p.2:=by
 obtain ⟨b,hb,e⟩:=List.mem_filterMap.mp hp
 cases q:h.get? b with
 | none=>rw [q] at e;cases e
 | some o =>
  rw [q] at e
  have e':(b,o)=p:=Option.some.inj e
  subst e'
  exact ⟨hb,q⟩
theorem Inv.pinned {pins:List (Addr × Obj)}{σ:St}{H:Hp}{s:Shared}{fp:List Addr}(I:Inv X pins σ H s) (hf:∀b∈fp,FpOk X pins H b) (ho:∀b∈fp,∃o,s.heap.get? b=some o/\∀v,o.data≠.cell v):Inv X (pins++pinsAt fp s.heap) σ H s :=
 I.pins_of λ p hp=>(List.mem_append.mp hp).elim (λ z=>I.pin p (List.mem_append_right _ z)) λ z=>by
  obtain ⟨hb,e⟩:=of_pinsAt z
  obtain ⟨f0,f1,f2,_⟩:=hf p.1 hb
  obtain ⟨o,e',d⟩:=ho p.1 hb
  rw [e] at e';cases e'
  exact ⟨e,f0,f1,f2,d⟩
theorem Inv.unpinned {pins pl:List (Addr × Obj)}{σ:St}{H:Hp}{s:Shared}(I:Inv X (pins++pl) σ H s):Inv X pins σ H s:=I.pins_of λ p hp=>I.pin p (List.mem_append_right _ (List.mem_append_left _ hp))
theorem ps_for {iter:Expr}{body:List Stmt}{wi:TI}{g:TG}{tb:TS}{pos:Pos}(hp:PassesOwn (model X.prog X.w) X.A X.env X.xe) (hc:X.calm=true) (hi:PI X tg iter wi) (hg:PG X tg g) (hb:PSs X body tb)
  (hs:∀x,foldedSetIterable iter X.env x=pure x:=by intro _;rfl):PS X (.For tg iter body [] pos) (tFor wi g tb):=by
 intro pins s σ H D I h
 refine wpAny_For (thn (hi pins s σ H _ I h) λ v s1 h1=>thn h1 λ itv s2 h2=>?_) hs
 obtain ⟨it,fp,tn,J,H2,e,I2,T,st2,f2,W,⟨m0,w0⟩,turn⟩:=h2
 subst e
 have stat:∀ {H':Hp},(∀b∈fp,H' b=none)->∀b∈fp,FpOk X pins H' b:=λ hn b hb=>⟨hn b hb,(f2 b hb).2⟩
 refine codeAny_forLoop_any (λ n s'=>∃i σ' H',Inv X pins σ' H' s'/\tn i s'.heap/\(∀b∈fp,H' b=none)/\W i n σ' H') ?_ m0 ⟨0,σ,H2,I2,st2,λ b hb=>(f2 b hb).1,w0⟩
 rintro n s3 ⟨i,σ3,H3,I3,st3,fr3,w3⟩
 rcases turn i n σ3 H3 w3 with ⟨stop,qn⟩ | ⟨go,N,hN,step⟩
 ·refine wpAny_passesOwn hp (thn (T.done X rfl rfl rfl hc i pins s3 σ3 H3 X.xe I3 (stat fr3) st3 stop) λ r s4 ⟨hr,I4⟩=>?_)
  subst hr
  exact wpAny_execs_nil ⟨σ3,H3,I4,qn⟩
 ·refine wpAny_passesOwn hp (thn (T.item X rfl rfl rfl hc i pins s3 σ3 H3 X.xe I3 (stat fr3) st3 go) λ r s4 ⟨u,hr,h4⟩=>?_)
  subst hr
  refine wpAny_passesOwn hp (thn h4 λ _ s5 ⟨x,H5,I5,r5,y5,st5,fr5⟩=>?_)
  have I5':=I5.pinned (stat fr5) (T.obj _ _ st5)
  refine wpAny_passesOwn hp (thn (hg _ s5 σ3 H5 x u _ I5' r5 (step x H5 y5)) λ _ s6 ⟨σ6,H6,I6,q6⟩=>?_)
  refine wpAny_passesOwn hp (thn (hb _ s6 σ6 H6 _ I6 q6) λ f s7 q7=>?_)
  have again:∀ {σ7:St}{H7:Hp},Inv X (pins++pinsAt fp s5.heap) σ7 H7 s7->N σ7 H7->∃m,m < n/\∃i σ' H',Inv X pins σ' H' s7/\tn i s7.heap/\(∀b∈fp,H' b=none)/\W i m σ' H':=λ {σ7 H7} I7 n7=>by
   obtain ⟨m',hm,w7⟩:=hN σ7 H7 n7
   refine ⟨m',hm,i+1,σ7,H7,I7.unpinned,T.keep _ _ _ st5 λ b hb o e=>(I7.pin (b,o) (List.mem_append_right _ (List.mem_append_right _ (mem_pinsAt hb e)))).1,λ b hb=>?_,w7⟩
   obtain ⟨o,e,d⟩:=T.obj _ _ st5 b hb
   exact (I7.pin (b,o) (List.mem_append_right _ (List.mem_append_right _ (mem_pinsAt hb e)))).2.1
  cases f with
  | next=>obtain ⟨σ7,H7,I7,n7⟩:=q7;exact again I7 n7
  | cont=>obtain ⟨σ7,H7,I7,n7⟩:=q7;exact again I7 n7
  | brk=>obtain ⟨σ7,H7,I7,q7⟩:=q7;exact ⟨σ7,H7,I7.unpinned,q7⟩
  | ret v=>obtain ⟨x7,σ7,H7,I7,r7,q7⟩:=q7;exact ⟨x7,σ7,H7,I7.unpinned,r7,q7⟩
end
theorem for_list {K:PySem.W.Frag}{a:Addr}{xs:List V}{g:TG}{tb:TS}{D:Ends}{σ:St}{H:Hp}(Pv:Nat->St->Hp->Prop) (h0:Pv 0 σ H) (hl:∀i σ H,i≤xs.length->Pv i σ H->SqL K H a xs)
  (hs:∀i x σ H,xs[i]?=some x->Pv i σ H->g x σ H λ σ2 H2=>tb { D with nx:=Pv (i+1),ct:=Pv (i+1),bk:=D.nx } σ2 H2) (hd:∀σ H,Pv xs.length σ H->D.nx σ H) :
  ∃W:Nat->Nat->St->Hp->Prop,(∃m,W 0 m σ H)/\∀i m σ H,W i m σ H ->
   ((Itl K a).stop i H/\D.nx σ H)\/((Itl K a).go i H/\∃N:St->Hp->Prop,(∀σ' H',N σ' H'->∃m',m' < m/\W (i+1) m' σ' H')/\∀x H',(Itl K a).yld i H x H'->g x σ H' λ σ2 H2=>tb { D with nx:=N,ct:=N,bk:=D.nx } σ2 H2):=by
 refine ⟨λ i m σ H=>m=xs.length - i/\i≤xs.length/\Pv i σ H,⟨xs.length,by simp,Nat.zero_le _,h0⟩,?_⟩
 rintro i m σ H ⟨rfl,hi,p⟩
 have q:=hl i σ H hi p
 by_cases hlt:i < xs.length
 ·refine .inr ⟨⟨xs,xs[i],q,by simp [hlt]⟩,Pv (i+1),λ σ' H' p'=>⟨xs.length - (i+1),by omega,rfl,hlt,p'⟩,λ x H' y=>?_⟩
  obtain ⟨e,y⟩:=y
  subst e
  exact hs i x σ _ (y xs q) p
 ·have e:i=xs.length:=by omega
  subst e
  exact .inl ⟨⟨xs,q,Nat.le_refl _⟩,hd σ H p⟩
theorem for_tup {K:PySem.W.Frag}{a:Addr}{xs:List V}{g:TG}{tb:TS}{D:Ends}{σ:St}{H:Hp}(Pv:Nat->St->Hp->Prop) (h0:Pv 0 σ H) (hl:∀i σ H,i≤xs.length->Pv i σ H->SqT K H a xs)
  (hs:∀i x σ H,xs[i]?=some x->Pv i σ H->g x σ H λ σ2 H2=>tb { D with nx:=Pv (i+1),ct:=Pv (i+1),bk:=D.nx } σ2 H2) (hd:∀σ H,Pv xs.length σ H->D.nx σ H) :
  ∃W:Nat->Nat->St->Hp->Prop,(∃m,W 0 m σ H)/\∀i m σ H,W i m σ H ->
   ((Itt K a).stop i H/\D.nx σ H)\/((Itt K a).go i H/\∃N:St->Hp->Prop,(∀σ' H',N σ' H'->∃m',m' < m/\W (i+1) m' σ' H')/\∀x H',(Itt K a).yld i H x H'->g x σ H' λ σ2 H2=>tb { D with nx:=N,ct:=N,bk:=D.nx } σ2 H2):=by
 refine ⟨λ i m σ H=>m=xs.length - i/\i≤xs.length/\Pv i σ H,⟨xs.length,by simp,Nat.zero_le _,h0⟩,?_⟩
 rintro i m σ H ⟨rfl,hi,p⟩
 have q:=hl i σ H hi p
 by_cases hlt:i < xs.length
 ·refine .inr ⟨⟨xs,xs[i],q,by simp [hlt]⟩,Pv (i+1),λ σ' H' p'=>⟨xs.length - (i+1),by omega,rfl,hlt,p'⟩,λ x H' y=>?_⟩
  obtain ⟨e,y⟩:=y
  subst e
  exact hs i x σ _ (y xs q) p
 ·have e:i=xs.length:=by omega
  subst e
  exact .inl ⟨⟨xs,q,Nat.le_refl _⟩,hd σ H p⟩
theorem for_range {lo:Int}{n:Nat}{g:TG}{tb:TS}{D:Ends}{σ:St}{H:Hp}(Pv:Nat->St->Hp->Prop) (h0:Pv 0 σ H)
  (hs:∀i σ H,i < n->Pv i σ H->g (.int (lo+i)) σ H λ σ2 H2=>tb { D with nx:=Pv (i+1),ct:=Pv (i+1),bk:=D.nx } σ2 H2) (hd:∀σ H,Pv n σ H->D.nx σ H) :
  ∃W:Nat->Nat->St->Hp->Prop,(∃m,W 0 m σ H)/\∀i m σ H,W i m σ H ->
   ((Itr lo n).stop i H/\D.nx σ H)\/((Itr lo n).go i H/\∃N:St->Hp->Prop,(∀σ' H',N σ' H'->∃m',m' < m/\W (i+1) m' σ' H')/\∀x H',(Itr lo n).yld i H x H'->g x σ H' λ σ2 H2=>tb { D with nx:=N,ct:=N,bk:=D.nx } σ2 H2):=by
 refine ⟨λ i m σ H=>m=n - i/\i≤n/\Pv i σ H,⟨n,by simp,Nat.zero_le _,h0⟩,?_⟩
 rintro i m σ H ⟨rfl,hi,p⟩
 by_cases hlt:i < n
 ·refine .inr ⟨hlt,Pv (i+1),λ σ' H' p'=>⟨n - (i+1),by omega,rfl,hlt,p'⟩,λ x H' y=>?_⟩
  obtain ⟨e,y⟩:=y
  subst e y
  exact hs i σ _ hlt p
 ·have e:i=n:=by omega
  subst e
  exact .inl ⟨Nat.le_refl _,hd σ H p⟩
abbrev R2:=V->V->Hp->VK->Prop
def OpR (X:Cx) (f:Value->Value->Sem Value) (r:R2):Prop :=
 ∀(pins:List (Addr × Obj)) (s:Shared) (σ:St) (H:Hp) (x y:V) (v u:Value) (Q:VK),Inv X pins σ H s->RelV x v->RelV y u->r x y H Q ->
  wpAny (model X.prog X.w) X.A (f v u) (EP X pins σ Q) X.xe s
def UnR (X:Cx) (f:Value->Sem Value) (r:V->Hp->VK->Prop):Prop :=
 ∀(pins:List (Addr × Obj)) (s:Shared) (σ:St) (H:Hp) (x:V) (v:Value) (Q:VK),Inv X pins σ H s->RelV x v->r x H Q ->
  wpAny (model X.prog X.w) X.A (f v) (EP X pins σ Q) X.xe s
def CallR (X:Cx) (f:Value) (r:List V->Hp->VK->Prop):Prop :=
 ∀(pins:List (Addr × Obj)) (s:Shared) (σ:St) (H:Hp) (xs:List V) (us:List Value) (Q:VK),Inv X pins σ H s->Vals xs us->r xs H Q ->
  wpAny (model X.prog X.w) X.A (call f us) (EP X pins σ Q) X.xe s
def tOp (r:R2) (ta tb:TE):TE:=λ σ H Q=>ta σ H λ x H1=>tb σ H1 λ y H2=>r x y H2 Q
def tUn (r:V->Hp->VK->Prop) (ta:TE):TE:=λ σ H Q=>ta σ H λ x H1=>r x H1 Q
def rI (C:Int->Int->Prop) (g:Int->Int->V):R2:=λ x y H Q=>∃i j,x=.int i/\y=.int j/\C i j/\Q (g i j) H
def rI0 (g:Int->Int->V):R2:=λ x y H Q=>∃i j,x=.int i/\y=.int j/\Q (g i j) H
def rU (g:Int->V):V->Hp->VK->Prop:=λ x H Q=>∃i,x=.int i/\Q (g i) H
section
variable {X:Cx}{a b c:Expr}{ta tb tc:TE}{pos:Pos}
theorem binT (ha:PE X a ta) (hb:PE X b tb) {pins:List (Addr × Obj)}{s:Shared}{σ:St}{H:Hp}{R:V->V->Hp->Prop}(I:Inv X pins σ H s)
  (h:ta σ H λ x H1=>tb σ H1 λ y H2=>R x y H2) {Q:Value->Shared->Prop}{f:Value->Value->Sem Value}
  (hf:∀v u s2 x y H2,Inv X pins σ H2 s2->RelV x v->RelV y u->R x y H2->wpAny (model X.prog X.w) X.A (f v u) Q X.xe s2) :
  wpAny (model X.prog X.w) X.A (eval a X.env) (λ v s₁=>wpAny (model X.prog X.w) X.A (eval b X.env) (λ u s₂=>wpAny (model X.prog X.w) X.A (f v u) Q X.xe s₂) X.xe s₁) X.xe s:=by
 refine thn (ha pins s σ H _ I h) λ v s1 ⟨x,H1,I1,r1,q1⟩=>?_
 refine thn (hb pins s1 σ H1 _ I1 q1) λ u s2 ⟨y,H2,I2,r2,q2⟩=>?_
 exact hf v u s2 x y H2 I2 r1 r2 q2
theorem pe_op {op:Operator}{r:R2}(ho:OpR X (binaryOp op) r) (ha:PE X a ta) (hb:PE X b tb):PE X (.BinOp a op b pos) (tOp r ta tb):=by
 intro pins s σ H Q I h
 exact wpAny_BinOp (binT ha hb I h λ v u s2 x y H2 I2 rx ry q=>ho pins s2 σ H2 x y v u Q I2 rx ry q)
theorem pe_un {op:UnaryOp}{r:V->Hp->VK->Prop}(ho:UnR X (unaryOp op) r) (ha:PE X a ta):PE X (.UnaryOp op a pos) (tUn r ta):=by
 intro pins s σ H Q I h
 exact UnaryOp_ (thn (ha pins s σ H _ I h) λ v s1 ⟨x,H1,I1,r1,q1⟩=>ho pins s1 σ H1 x v Q I1 r1 q1)
theorem opI {f:Value->Value->Sem Value}{C:Int->Int->Prop}{g:Int->Int->Int}
  (rule:∀(i j:Int) (t u:Tok) (s:Shared) (Q:Value->Shared->Prop) (E:Value->Shared->Prop),C i j->Q (.int (g i j) s.toks) { s with toks:=s.toks+1 }->wpAny (model X.prog X.w) X.A (f (.int i t) (.int j u)) Q E s) :
  OpR X f (rI C λ i j=>.int (g i j)):=by
 intro pins s σ H x y v u Q I rx ry h
 obtain ⟨i,j,rfl,rfl,hc,q⟩:=h
 obtain ⟨t,rfl⟩:=rx
 obtain ⟨t',rfl⟩:=ry
 exact rule i j t t' s _ _ hc ⟨.int (g i j),H,I.tok _,⟨_,rfl⟩,q⟩
theorem opI0 {f:Value->Value->Sem Value}{g:Int->Int->Int}
  (rule:∀(i j:Int) (t u:Tok) (s:Shared) (Q:Value->Shared->Prop) (E:Value->Shared->Prop),Q (.int (g i j) s.toks) { s with toks:=s.toks+1 }->wpAny (model X.prog X.w) X.A (f (.int i t) (.int j u)) Q E s) :
  OpR X f (rI0 λ i j=>.int (g i j)):=by
 intro pins s σ H x y v u Q I rx ry h
 obtain ⟨i,j,rfl,rfl,q⟩:=h
 obtain ⟨t,rfl⟩:=rx
 obtain ⟨t',rfl⟩:=ry
 exact rule i j t t' s _ _ ⟨.int (g i j),H,I.tok _,⟨_,rfl⟩,q⟩
theorem opB0 {f:Value->Value->Sem Value}{g:Int->Int->Bool}
  (rule:∀(i j:Int) (t u:Tok) (s:Shared) (Q:Value->Shared->Prop) (E:Value->Shared->Prop),Q (.bool (g i j)) s->wpAny (model X.prog X.w) X.A (f (.int i t) (.int j u)) Q E s) :
  OpR X f (rI0 λ i j=>.bl (g i j)):=by
 intro pins s σ H x y v u Q I rx ry h
 obtain ⟨i,j,rfl,rfl,q⟩:=h
 obtain ⟨t,rfl⟩:=rx
 obtain ⟨t',rfl⟩:=ry
 exact rule i j t t' s _ _ ⟨.bl (g i j),H,I,rfl,q⟩
def CDiv (i j:Int):Prop:=0 < j/\j < 1073741824
def CDivN (i j:Int):Prop:=j≠0/\j.natAbs < 1073741824
def CPow (i j:Int):Prop:=0≤j/\j≤1000000/\i.natAbs < 2 ^ 64
def CMul (i j:Int):Prop:=(-(2 ^ 64) < i/\i < 2 ^ 64)\/(-(2 ^ 64) < j/\j < 2 ^ 64)
theorem CMul.ok {i j:Int}(h:CMul i j):IntMulOk i j:=by
 rcases h with ⟨h1,h2⟩ | ⟨h1,h2⟩
 ·exact .of_left (intBits_le_64 h1 h2)
 ·exact .of_right (intBits_le_64 h1 h2)
theorem op_add:OpR X (binaryOp .Add) (rI0 λ i j=>.int (i+j)):=opI0 λ _ _ _ _ _ _ _ q=>add_int q
theorem op_sub:OpR X (binaryOp .Sub) (rI0 λ i j=>.int (i - j)):=opI0 λ _ _ _ _ _ _ _ q=>sub_int q
theorem op_mul:OpR X (binaryOp .Mult) (rI CMul λ i j=>.int (i * j)):=opI λ _ _ _ _ _ _ _ hc q=>mul_int q hc.ok
theorem op_fdiv:OpR X (binaryOp .FloorDiv) (rI CDiv λ i j=>.int (i / j)):=opI λ i j _ _ _ _ _ hc q=>by
 have h1:(0:Int) < j:=hc.1
 have h2:j < 1073741824:=hc.2
 exact floordiv_int (by omega) (by rw [Int.fdiv_eq_ediv_of_nonneg i (by omega)];exact q) (.inl (PyProof.noPylong_small (by omega)))
theorem op_mod:OpR X (binaryOp .Mod) (rI (λ _ j=>0 < j) λ i j=>.int (i % j)):=opI λ i j _ _ _ _ _ hc q=>by
 have h1:(0:Int) < j:=hc
 exact mod_int' (by omega) (by rw [Int.fmod_eq_emod_of_nonneg i (by omega)];exact q)
theorem op_modN:OpR X (binaryOp .Mod) (rI (λ _ j=>j≠0) λ i j=>.int (i.fmod j)):=opI λ _ _ _ _ _ _ _ hc q=>mod_int' hc q
theorem op_pow:OpR X (binaryOp .Pow) (rI CPow λ i j=>.int (i ^ j.toNat)):=opI λ _ _ _ _ _ _ _ hc q=>pow_int_small hc.1 hc.2.1 hc.2.2 q
theorem op_and:OpR X (binaryOp .BitAnd) (rI0 λ i j=>.int (Builtin.bitAnd i j)):=opI0 λ _ _ _ _ _ _ _ q=>and_int q
theorem op_or:OpR X (binaryOp .BitOr) (rI0 λ i j=>.int (Builtin.bitOr i j)):=opI0 λ _ _ _ _ _ _ _ q=>or_int q
theorem op_xor:OpR X (binaryOp .BitXor) (rI0 λ i j=>.int (Builtin.bitXor i j)):=opI0 λ _ _ _ _ _ _ _ q=>xor_int q
theorem unI {f:Value->Sem Value}{g:Int->Int}
  (rule:∀(i:Int) (t:Tok) (s:Shared) (Q:Value->Shared->Prop) (E:Value->Shared->Prop),Q (.int (g i) s.toks) { s with toks:=s.toks+1 }->wpAny (model X.prog X.w) X.A (f (.int i t)) Q E s) :
  UnR X f (rU λ i=>.int (g i)):=by
 intro pins s σ H x v Q I rx h
 obtain ⟨i,rfl,q⟩:=h
 obtain ⟨t,rfl⟩:=rx
 exact rule i t s _ _ ⟨.int (g i),H,I.tok _,⟨_,rfl⟩,q⟩
theorem un_neg:UnR X (unaryOp .USub) (rU λ i=>.int (-i)):=unI λ _ _ _ _ _ q=>neg_int q
end
def scal:V->V->Bool
 | .non,.non=>true | .non,.int _=>true | .int _,.non=>true | .non,.bl _=>true | .bl _,.non=>true | .non,.str _=>true | .str _,.non=>true
 | .int _,.int _=>true | .bl _,.bl _=>true | .str _,.str _=>true | .byt _,.byt _=>true
 | .int _,.str _=>true | .str _,.int _=>true | .bl _,.str _=>true | .str _,.bl _=>true
 | _,_=>false
def rEq:R2:=λ x y H Q=>scal x y=true/\Q (.bl (decide (x=y))) H
def rNe:R2:=λ x y H Q=>scal x y=true/\Q (.bl (!decide (x=y))) H
theorem dec_int {i j:Int}:decide (V.int i=V.int j)=(i == j):=by
 rw [Bool.eq_iff_iff]
 simp
theorem dec_bl {i j:Bool}:decide (V.bl i=V.bl j)=(i == j):=by
 rw [Bool.eq_iff_iff]
 simp
theorem dec_str {i j:Str}:decide (V.str i=V.str j)=(i == j):=by
 rw [Bool.eq_iff_iff]
 simp
theorem dec_byt {i j:Array UInt8}:decide (V.byt i=V.byt j)=(i.toList == j.toList):=by
 rw [Bool.eq_iff_iff]
 cases i
 cases j
 simp
section
variable {X:Cx}{a b c:Expr}{ta tb tc:TE}{pos:Pos}
theorem fin_bl {pins:List (Addr × Obj)}{σ:St}{H:Hp}{s:Shared}{Q:VK}{k k':Bool}(I:Inv X pins σ H s) (q:Q (.bl k) H) (e:k=k'):EP X pins σ Q (.bool k') s:=by
 subst e
 exact ⟨.bl k,H,I,rfl,q⟩
theorem op_eq:OpR X (compareOp .Eq) rEq:=by
 intro pins s σ H x y v u Q I rx ry h
 obtain ⟨hs,q⟩:=h
 cases x with
 | non =>
  cases rx
  cases y with
  | non=>cases ry;exact PySem.EqNone.eq_none_none (fin_bl I q (by simp))
  | bl j=>cases ry;exact PySem.EqNone.eq_none_bool (fin_bl I q (by simp))
  | int j=>obtain ⟨t',rfl⟩:=ry;exact PySem.EqNone.eq_none_int (fin_bl I q (by simp))
  | str j=>obtain ⟨t',rfl⟩:=ry;exact PySem.EqNone.eq_none_str (fin_bl I q (by simp))
  | _=>exact absurd (show false=true from hs) Bool.false_ne_true
 | bl i =>
  cases rx
  cases y with
  | non=>cases ry;exact PySem.EqNone.eq_bool_none (fin_bl I q (by simp))
  | bl j=>cases ry;exact eq_bool (fin_bl I q dec_bl)
  | str j=>obtain ⟨t',rfl⟩:=ry;exact PySem.EqMixed.eq_bool_str (fin_bl I q (by simp))
  | _=>exact absurd (show false=true from hs) Bool.false_ne_true
 | int i =>
  obtain ⟨t,rfl⟩:=rx
  cases y with
  | non=>cases ry;exact PySem.EqNone.eq_int_none (fin_bl I q (by simp))
  | int j=>obtain ⟨t',rfl⟩:=ry;exact eq_int (fin_bl I q dec_int)
  | str j=>obtain ⟨t',rfl⟩:=ry;exact PySem.EqMixed.eq_int_str (fin_bl I q (by simp))
  | _=>exact absurd (show false=true from hs) Bool.false_ne_true
 | str i =>
  obtain ⟨t,rfl⟩:=rx
  cases y with
  | non=>cases ry;exact PySem.EqNone.eq_str_none (fin_bl I q (by simp))
  | bl j=>cases ry;exact PySem.EqMixed.eq_str_bool (fin_bl I q (by simp))
  | int j=>obtain ⟨t',rfl⟩:=ry;exact PySem.EqMixed.eq_str_int (fin_bl I q (by simp))
  | str j=>obtain ⟨t',rfl⟩:=ry;exact eq_str (fin_bl I q dec_str)
  | _=>exact absurd (show false=true from hs) Bool.false_ne_true
 | byt i =>
  obtain ⟨t,rfl⟩:=rx
  cases y with
  | byt j=>obtain ⟨t',rfl⟩:=ry;exact W.eq_bytes (fin_bl I q dec_byt)
  | _=>exact absurd (show false=true from hs) Bool.false_ne_true
 | _=>cases y<;>exact absurd (show false=true from hs) Bool.false_ne_true
theorem op_ne:OpR X (compareOp .NotEq) rNe:=by
 intro pins s σ H x y v u Q I rx ry h
 obtain ⟨hs,q⟩:=h
 cases x with
 | non =>
  cases rx
  cases y with
  | non=>cases ry;exact PySem.EqNone.ne_none_none (fin_bl I q (by simp))
  | bl j=>cases ry;exact PySem.EqNone.ne_none_bool (fin_bl I q (by simp))
  | int j=>obtain ⟨t',rfl⟩:=ry;exact PySem.EqNone.ne_none_int (fin_bl I q (by simp))
  | str j=>obtain ⟨t',rfl⟩:=ry;exact PySem.EqNone.ne_none_str (fin_bl I q (by simp))
  | _=>exact absurd (show false=true from hs) Bool.false_ne_true
 | bl i =>
  cases rx
  cases y with
  | non=>cases ry;exact PySem.EqNone.ne_bool_none (fin_bl I q (by simp))
  | bl j=>cases ry;exact ne_bool (fin_bl I q (congrArg not dec_bl))
  | str j=>obtain ⟨t',rfl⟩:=ry;exact PySem.EqMixed.ne_bool_str (fin_bl I q (by simp))
  | _=>exact absurd (show false=true from hs) Bool.false_ne_true
 | int i =>
  obtain ⟨t,rfl⟩:=rx
  cases y with
  | non=>cases ry;exact PySem.EqNone.ne_int_none (fin_bl I q (by simp))
  | int j=>obtain ⟨t',rfl⟩:=ry;exact ne_int (fin_bl I q (congrArg not dec_int))
  | str j=>obtain ⟨t',rfl⟩:=ry;exact PySem.EqMixed.ne_int_str (fin_bl I q (by simp))
  | _=>exact absurd (show false=true from hs) Bool.false_ne_true
 | str i =>
  obtain ⟨t,rfl⟩:=rx
  cases y with
  | non=>cases ry;exact PySem.EqNone.ne_str_none (fin_bl I q (by simp))
  | bl j=>cases ry;exact PySem.EqMixed.ne_str_bool (fin_bl I q (by simp))
  | int j=>obtain ⟨t',rfl⟩:=ry;exact PySem.EqMixed.ne_str_int (fin_bl I q (by simp))
  | str j=>obtain ⟨t',rfl⟩:=ry;exact ne_str (fin_bl I q (congrArg not dec_str))
  | _=>exact absurd (show false=true from hs) Bool.false_ne_true
 | byt i =>
  obtain ⟨t,rfl⟩:=rx
  cases y with
  | byt j=>obtain ⟨t',rfl⟩:=ry;exact W.ne_bytes (fin_bl I q (congrArg not dec_byt))
  | _=>exact absurd (show false=true from hs) Bool.false_ne_true
 | _=>cases y<;>exact absurd (show false=true from hs) Bool.false_ne_true
theorem op_lt:OpR X (compareOp .Lt) (rI0 λ i j=>.bl (decide (i < j))):=opB0 λ _ _ _ _ _ _ _ q=>lt_int q
theorem op_gt:OpR X (compareOp .Gt) (rI0 λ i j=>.bl (decide (j < i))):=opB0 λ _ _ _ _ _ _ _ q=>gt_int q
theorem op_ge:OpR X (compareOp .GtE) (rI0 λ i j=>.bl (decide (j≤i))):=opB0 λ _ _ _ _ _ _ _ q=>ge_int q
theorem op_isN:OpR X (compareOp .Is) (λ x y H Q=>y=.non/\Q (.bl (decide (x=.non))) H):=by
 intro pins s σ H x y v u Q I rx ry h
 obtain ⟨rfl,q⟩:=h
 cases ry
 refine is_none_gen (fin_bl I q ?_)
 cases x<;>first
  | (cases rx;rfl)
  | (obtain ⟨t,rfl⟩:=rx;rfl)
theorem op_notN:OpR X (compareOp .IsNot) (λ x y H Q=>y=.non/\Q (.bl (!decide (x=.non))) H):=by
 intro pins s σ H x y v u Q I rx ry h
 obtain ⟨rfl,q⟩:=h
 cases ry
 refine isnot_none_gen (fin_bl I q ?_)
 cases x<;>first
  | (cases rx;rfl)
  | (obtain ⟨t,rfl⟩:=rx;rfl)
theorem OpR.or {f:Value->Value->Sem Value}{r r':R2}(h:OpR X f r) (h':OpR X f r'):OpR X f (λ x y H Q=>r x y H Q\/r' x y H Q):=by
 intro pins s σ H x y v u Q I rx ry q
 rcases q with q | q
 ·exact h pins s σ H x y v u Q I rx ry q
 ·exact h' pins s σ H x y v u Q I rx ry q
theorem nomark (b:Expr) {op:CmpOp}(h:op≠.In:=by decide) (h2:op≠.NotIn:=by decide):behindInMarks op b=false:=by
 have e1:(op == CmpOp.In)=false:=by cases op<;>first | rfl | exact absurd rfl h
 have e2:(op == CmpOp.NotIn)=false:=by cases op<;>first | rfl | exact absurd rfl h2
 cases b<;>simp [behindInMarks,e1,e2]
theorem pe_cmpR {op:CmpOp}{r:R2}(ho:OpR X (compareOp op) r) (ha:PE X a ta) (hb:PE X b tb) (hm:behindInMarks op b=false):PE X (.Compare a [op] [b] pos) (tOp r ta tb):=by
 intro pins s σ H Q I h
 exact wpAny_Compare1 (binT ha hb I h λ v u s2 x y H2 I2 rx ry q=>ho pins s2 σ H2 x y v u Q I2 rx ry q) hm
def tTest (t:TE):TT:=λ σ H Q=>t σ H λ x H'=>∃k,x=.bl k/\Q k H'
theorem pt_cmpR {op:CmpOp}{r:R2}(ho:OpR X (compareOp op) r) (ha:PE X a ta) (hb:PE X b tb) (hm:behindInMarks op b=false):PT X (.Compare a [op] [b] pos) (tTest (tOp r ta tb)):=by
 intro pins s σ H Q I h
 refine wpAny_isTrue_Compare1 (thn (ha pins s σ H _ I h) λ v s1 ⟨x,H1,I1,r1,q1⟩=>thn (hb pins s1 σ H1 _ I1 q1) λ u s2 ⟨y,H2,I2,r2,q2⟩ =>
  thn (ho pins s2 σ H2 x y v u _ I2 r1 r2 q2) λ c s3 ⟨z,H3,I3,r3,k,e,q3⟩=>?_) hm
 subst e
 cases r3
 exact wpAny_truthy_bool ⟨H3,I3,q3⟩
def tChain (r r':R2) (ta tb tc:TE):TE:=λ σ H Q=>ta σ H λ x H1=>tb σ H1 λ y H2=>r x y H2 λ z H3=>∃k,z=.bl k /\
 (if k=true then tc σ H3 λ w' H4=>r' y w' H4 Q else Q (.bl false) H3)
theorem line63:(sizeLine:Nat) < 2 ^ 63:=by rw [sizeLine_eq];decide
theorem vals1 {x:V}{us:List Value}(r:Vals [x] us):∃u,us=[u]/\RelV x u:=by
 cases r with
 | cons r1 r2=>cases r2;exact ⟨_,rfl,r1⟩
theorem vals2 {x y:V}{us:List Value}(r:Vals [x,y] us):∃u w',us=[u,w']/\RelV x u/\RelV y w':=by
 cases r with
 | cons r1 r2 =>
  cases r2 with
  | cons r3 r4=>cases r4;exact ⟨_,_,rfl,r1,r3⟩
theorem call_max2 (hc:X.calm=true):CallR X (.builtin "max") (λ xs H Q=>∃i j,xs=[.int i,.int j]/\Q (.int (if j > i then j else i)) H):=by
 intro pins s σ H xs us Q I r h
 obtain ⟨i,j,rfl,q⟩:=h
 obtain ⟨u,w',rfl,⟨t,rfl⟩,⟨t',rfl⟩⟩:=vals2 r
 refine max_two_ints (I.ok.hd hc) λ h' tk k=>⟨_,H,I.kept k,?_,q⟩
 by_cases hj:j > i
 ·rw [if_pos hj,if_pos hj];exact ⟨_,rfl⟩
 ·rw [if_neg hj,if_neg hj];exact ⟨_,rfl⟩
theorem call_min2 (hc:X.calm=true):CallR X (.builtin "min") (λ xs H Q=>∃i j,xs=[.int i,.int j]/\Q (.int (if j < i then j else i)) H):=by
 intro pins s σ H xs us Q I r h
 obtain ⟨i,j,rfl,q⟩:=h
 obtain ⟨u,w',rfl,⟨t,rfl⟩,⟨t',rfl⟩⟩:=vals2 r
 refine min_two_ints (I.ok.hd hc) λ h' tk k=>⟨_,H,I.kept k,?_,q⟩
 by_cases hj:j < i
 ·rw [if_pos hj,if_pos hj];exact ⟨_,rfl⟩
 ·rw [if_neg hj,if_neg hj];exact ⟨_,rfl⟩
end
structure ObjM (h:Heap) (x dx C:Addr) (mA:Str->Option Value):Prop where
 obj:h.get? x=some (W.instObj C dx)
 ns:h.Ns1 dx mA
 ne:dx≠x
theorem lookIn_ns {h:Heap}{dx:Addr}{mA:Str->Option Value}(n:h.Ns1 dx mA):∃od,h.get? dx=some od/\∀name,W.lookIn name od=some (mA name):=by
 obtain ⟨o,es,ep,ho,hd,hk,_,hm⟩:=n
 refine ⟨o,ho,λ name=>?_⟩
 have e:=hm name
 unfold nsFind findBy at e
 rw [← Array.find?_toList] at e
 unfold W.lookIn
 rw [hd]
 dsimp only
 split
 ·rename_i y q
  rw [q] at e
  exact congrArg some e
 ·rename_i q
  rw [q] at e
  have a:es.toList.any (·.refKey)=false:=by
   rw [List.any_eq_false]
   intro y hy
   obtain ⟨z,t,hkey⟩:=hk y (Array.mem_toList_iff.mp hy)
   simp [DictEntry.refKey,hkey]
  have a':¬es.toList.any (·.refKey)=true:=by rw [a];exact Bool.false_ne_true
  rw [if_neg a']
  exact congrArg some e
theorem ObjM.look {h:Heap}{x dx C:Addr}{mA:Str->Option Value}(I:ObjM h x dx C mA):∃od,W.InstAt h x (W.instObj C dx) C (some od)/\∀name,W.lookIn name od=some (mA name) :=
 let ⟨od,ho,hl⟩:=lookIn_ns I.ns
 ⟨od,⟨I.obj,rfl,rfl,ho⟩,hl⟩
section
variable {prog:Program}{w:World}{A:Around}{E:Value->Shared->Prop}{s:Shared}{K:W.Frag}{x dx C f:Addr}{mA:Str->Option Value}{name:Str}{v:Value}
theorem get_map {expr:Bool}{Q:Value->Shared->Prop}(X:K.In s.heap) (I:ObjM s.heap x dx C mA) (hg:W.plainGet K C name=true) (hh:W.hasDictIn K C=true)
  (ha:W.findIn K (.ref C) name=some none) (hv:mA name=some v) (hv':W.handedIn v=true) (h:Q v { s with toks:=s.toks+1 }) :
  wpAny (model prog w) A (getAttr (.ref x) name expr) Q E s:=by
 obtain ⟨od,J,hl⟩:=I.look
 exact W.get_value X J (W.plainGet_of hg).1 (W.findObj_own hh ha rfl (by rw [hl,hv])) hv' h
theorem get_meth {pl:Sem Bool}{Q:Value × List Value->Shared->Prop}(X:K.In s.heap) (I:ObjM s.heap x dx C mA) (hg:W.plainGet K C name=true)
  (hf:W.findIn K (.ref C) name=some (some (.ref f))) (ht:W.isFn K (.ref f)=true) (hv:mA name=none) (h:Q (.ref f,[.ref x]) s) :
  wpAny (model prog w) A (getMethod (.ref x) name pl) Q E s:=by
 obtain ⟨od,J,hl⟩:=I.look
 exact W.method_fn X J (W.plainGet_of hg).1 (W.plainGet_of hg).2 hf (beq_iff_eq.mp ht) (by show (W.lookIn name od).map (·.isSome)=some false;rw [hl,hv];rfl) h
theorem set_map {ns:List Str}{Q:Unit->Shared->Prop}(X:K.In s.heap) (I:ObjM s.heap x dx C mA)
  (hs:W.findIn K (.ref C) "__setattr__" = some (some (.builtin "object.__setattr__"))) (hp:W.plainOver K C=true) (ht:W.takerIn K C name=some none) (hh:W.hasDictIn K C=true)
  (hw:PySem.Within mA ns) (hsz:ns.length≤sizeLine)
  (h:∀h',ObjM h' x dx C (λ y=>if y=name then some v else mA y)->Heap.SameBut dx s.heap h'->Q () { s with heap:=h',toks:=s.toks+2 }) :
  wpAny (model prog w) A (setAttr (.ref x) name v) Q E s:=by
 obtain ⟨od,J,hl⟩:=I.look
 refine W.set_plain X J hs (W.osa_open (s:={ s with toks:=s.toks+1 }) (r:=none) X J hp ht λ b=>?_)
 obtain ⟨cd,hc,hd'⟩:=W.any_some hh
 have hx:s.heap.get? x=some ⟨.ref C,some dx,.plain,#[]⟩:=I.obj
 refine wpAny_bind (wpAny_pure (wpAny_bind (wpAny_bind (wpAny_loadPart hx (wpAny_bind (W.Looks.here (s:={ s with toks:=s.toks+1 }) (W.looks_clsIn X hc) ?_))))))
 rw [hd']
 refine wpAny_pure (a:=some dx) (wpAny_bind (wpAny_pure (wpAny_bind ?_)))
 refine wpAny_nsSet1 (s:={ s with toks:=s.toks+1 }) I.ns λ h' hn2 hs2=>?_
 obtain ⟨oD,esD,epD,hoD,hdD,hcD⟩:=hn2.count (PySem.Within.cons name v hw)
 refine wpAny_bind (wpAny_lookBehind hoD (by rw [hdD];exact pastItsLine_dict (Nat.le_trans hcD (by rw [List.length_cons];omega))) ?_)
 exact wpAny_pure (h _ ⟨(hs2.2 _ (Ne.symm I.ne)).trans I.obj,hn2,I.ne⟩ hs2)
theorem make_map {R:Result->Shared->Prop}{vs:List Value}{kw:List (Str × Value)}(X:K.In s.heap) (hm:W.makesIn K C=true)
  (hi:W.findIn K (.ref C) "__init__" = some (some (.ref f))) (hf:W.typeIn K (.ref f)=some (.type "function"))
  (h:codeAny (model prog w) (A.under (.builtin "type.__call__" ⟨.ref C::vs,kw⟩)) (.call (.ref f) ⟨.ref (s.heap.objs.size+1)::vs,kw⟩) (W.InitBack (s.heap.objs.size+1) R)
   { s with heap:=(s.heap.push W.emptyDict).push (W.instObj C s.heap.objs.size) }) :
  codeAny (model prog w) A (.call (.ref C) ⟨vs,kw⟩) R s:=by
 obtain ⟨hh,g,d,t,os⟩:=s
 exact W.make_core (W.makes_of X hm) (W.looks_findIn X hi) (λ self=>W.bind_fn X self hf) (.inl rfl) h
end
def putF (f:Str) (v:V):List (Str × V)->List (Str × V)
 | []=>[(f,v)]
 | (g,x)::r=>if g=f then (g,v)::r else (g,x)::putF f v r
theorem lookup_putF (f g:Str) (v:V):∀fs:List (Str × V),(putF f v fs).lookup g=if g=f then some v else fs.lookup g
 | []=>by
  show List.lookup g [(f,v)]=_
  by_cases h:g=f
  ·have hb:(g == f)=true:=beq_iff_eq.mpr h
   simp only [List.lookup,hb,if_pos h]
  ·have hb:(g == f)=false:=beq_eq_false_iff_ne.mpr h
   simp only [List.lookup,hb,if_neg h]
 | (k,x)::r=>by
  have ih:=lookup_putF f g v r
  rw [show putF f v ((k,x)::r)=(if k=f then (k,v)::r else (k,x)::putF f v r) from rfl]
  by_cases hk:k=f
  ·rw [if_pos hk]
   by_cases h:g=k
   ·have hb:(g == k)=true:=beq_iff_eq.mpr h
    simp only [List.lookup,hb,if_pos (h.trans hk)]
   ·have hb:(g == k)=false:=beq_eq_false_iff_ne.mpr h
    simp only [List.lookup,hb,if_neg (λ e:g=f=>h (e.trans hk.symm))]
  ·rw [if_neg hk]
   by_cases h:g=k
   ·have hb:(g == k)=true:=beq_iff_eq.mpr h
    simp only [List.lookup,hb,if_neg (λ e:g=f=>hk (h.symm.trans e))]
   ·have hb:(g == k)=false:=beq_eq_false_iff_ne.mpr h
    simp only [List.lookup,hb]
    exact ih
theorem keys_putF (f:Str) (v:V):∀fs:List (Str × V),f∈(putF f v fs).map (·.1)/\∀g,g∈fs.map (·.1)->g∈(putF f v fs).map (·.1)
 | []=>⟨by simp [putF],λ g h=>by simp at h⟩
 | (k,x)::r=>by
  obtain ⟨i1,i2⟩:=keys_putF f v r
  rw [show putF f v ((k,x)::r)=(if k=f then (k,v)::r else (k,x)::putF f v r) from rfl]
  by_cases hk:k=f
  ·rw [if_pos hk]
   subst hk
   exact ⟨by simp,λ g h=>by simpa using h⟩
  ·rw [if_neg hk]
   refine ⟨?_,λ g h=>?_⟩
   ·rw [List.map_cons]
    exact List.mem_cons_of_mem _ i1
   ·rw [List.map_cons] at h ⊢
    rcases List.mem_cons.mp h with e | e
    ·exact List.mem_cons.mpr (.inl e)
    ·exact List.mem_cons_of_mem _ (i2 g e)
theorem length_putF (f:Str) (v:V):∀fs:List (Str × V),(putF f v fs).length≤fs.length+1
 | []=>by simp [putF]
 | (k,x)::r=>by
  have ih:=length_putF f v r
  rw [show putF f v ((k,x)::r)=(if k=f then (k,v)::r else (k,x)::putF f v r) from rfl]
  by_cases hk:k=f
  ·rw [if_pos hk,List.length_cons,List.length_cons];omega
  ·rw [if_neg hk,List.length_cons,List.length_cons];omega
theorem RelO.some_of {v:V}{o:Option Value}(r:RelO (some v) o):∃u,o=some u/\RelV v u:=by
 cases o with
 | none=>exact (show False from r).elim
 | some u=>exact ⟨u,rfl,r⟩
theorem RelO.none_of {o:Option Value}(r:RelO none o):o=none:=by
 cases o with
 | none=>rfl
 | some u=>exact (show False from r).elim
theorem handed_of {v:V}{u:Value}(r:RelV v u):W.handedIn u=true:=by
 cases v with
 | non=>cases (show u=Value.none from r);rfl
 | bl b=>cases (show u=Value.bool b from r);rfl
 | int i=>obtain ⟨t,e⟩:=(show ∃t,u=Value.int i t from r);cases e;rfl
 | str x=>obtain ⟨t,e⟩:=(show ∃t,u=Value.str x t from r);cases e;rfl
 | byt b=>obtain ⟨t,e⟩:=(show ∃t,u=Value.bytes b t from r);cases e;rfl
 | flt b=>obtain ⟨t,e⟩:=(show ∃t,u=Value.float b t from r);cases e;rfl
 | ref a=>cases (show u=Value.ref a from r);rfl
 | ty n=>cases (show u=Value.type n from r);rfl
section
variable {P:Program}{w:World}{H H':Hp}{h h':Heap}{a C dx:Addr}{fs fs':List (Str × V)}
theorem ins_get (hok:HOk P w H h) (e:H a=some (.ins C dx fs)):∃mA,ObjM h a dx C mA/\(∀f,RelO (fs.lookup f) (mA f))/\PySem.Within mA (fs.map (·.1))/\fs.length≤1000/\H dx=some (.own a):=by
 obtain ⟨d,z,ne,ob,mA,n,r,q⟩:=(show ObjOk P w H h a (.ins C dx fs) from hok a _ e)
 exact ⟨mA,⟨ob,n,ne⟩,r,q,z,d⟩
end
structure Cls (K:W.Frag) (C:Addr):Prop where
 pg:W.plainGet K C Str.empty=true
 hd:W.hasDictIn K C=true
 po:W.plainOver K C=true
 sa:W.findIn K (.ref C) "__setattr__" = some (some (.builtin "object.__setattr__"))
theorem Cls.get {K:W.Frag}{C:Addr}(c:Cls K C) (f:Str):W.plainGet K C f=true:=c.pg
def NoAttr (K:W.Frag) (C:Addr) (f:Str):Prop:=W.findIn K (.ref C) f=some none
theorem NoAttr.taker {K:W.Frag}{C:Addr}{f:Str}(n:NoAttr K C f):W.takerIn K C f=some none:=by
 unfold W.takerIn
 rw [show W.findIn K (.ref C) f=some none from n]
 rfl
structure Con (K:W.Frag) (C:Addr) (f:Str) (v:V) (u:Value):Prop where
 at_:W.findIn K (.ref C) f=some (some u)
 rel:RelV v u
 get:W.specialIn K u "__get__" = some none
 cp:W.copiedNames.contains f=false
structure Meth (K:W.Frag) (C:Addr) (m:Str) (f:Addr):Prop where
 at_:W.findIn K (.ref C) m=some (some (.ref f))
 fn:W.isFn K (.ref f)=true
 kp:W.keepIn K (.ref f)=true
section
variable {X:Cx}{pins:List (Addr × Obj)}{σ:St}{H:Hp}{s:Shared}{a C dx:Addr}{fs:List (Str × V)}{f:Str}{v:V}{A:Around}{E:Value->Shared->Prop}
theorem getattr_ok {b:Bool}{Q:Value->Shared->Prop}(I:Inv X pins σ H s) (e:H a=some (.ins C dx fs)) (c:Cls X.K C) (n:NoAttr X.K C f) (l:fs.lookup f=some v)
  (h:∀u s',Inv X pins σ H s'->RelV v u->Q u s'):wpAny (model X.prog X.w) A (getAttr (.ref a) f b) Q E s:=by
 obtain ⟨mA,O,r,_,_,_⟩:=ins_get I.hok e
 obtain ⟨u,hu,ru⟩:=RelO.some_of (v:=v) (o:=mA f) (by rw [← l];exact r f)
 exact get_map I.kIn O (c.get f) c.hd n hu (handed_of ru) (h u _ (I.tok _) ru)
theorem getmeth_ok {m:Str}{g:Addr}{pl:Sem Bool}{Q:Value × List Value->Shared->Prop}(I:Inv X pins σ H s) (e:H a=some (.ins C dx fs)) (c:Cls X.K C) (k:Meth X.K C m g) (l:fs.lookup m=none)
  (h:Q (.ref g,[.ref a]) s):wpAny (model X.prog X.w) A (getMethod (.ref a) m pl) Q E s:=by
 obtain ⟨mA,O,r,_,_,_⟩:=ins_get I.hok e
 have hn:mA m=none:=RelO.none_of (by rw [← l];exact r m)
 exact get_meth I.kIn O (c.get m) k.at_ k.fn hn h
theorem setattr_ok {y:V}{u:Value}{Q:Unit->Shared->Prop}(I:Inv X pins σ H s) (e:H a=some (.ins C dx fs)) (c:Cls X.K C) (n:NoAttr X.K C f) (hl:fs.length < 1000) (ry:RelV y u)
  (h:∀s',Inv X pins σ (upd H a (.ins C dx (putF f y fs))) s'->Q () s'):wpAny (model X.prog X.w) A (setAttr (.ref a) f u) Q E s:=by
 obtain ⟨mA,O,r,wi,_,ho⟩:=ins_get I.hok e
 have hz:(fs.map (·.1)).length≤sizeLine:=by rw [List.length_map,sizeLine_eq];omega
 refine set_map I.kIn O c.sa c.po n.taker c.hd wi hz λ h' O' sb=>h _ ?_
 have hd:∃o,h'.get? dx=some o:=let ⟨o,_,_,e',_⟩:=O'.ns;⟨o,e'⟩
 refine I.write (x:=a) (e:=dx) (by rw [e];exact True.intro) (.inr ho) (λ b q hb z=>(sb.2 b hb).trans z) hd ?_
 refine ⟨by rw [upd_ne O.ne];exact ho,?_,O.ne,O'.obj,_,O'.ns,λ g=>?_,λ g hg=>?_⟩
 ·have:=length_putF f y fs;omega
 ·show RelO ((putF f y fs).lookup g) (if g=f then some u else mA g)
  rw [lookup_putF]
  by_cases q:g=f
  ·rw [if_pos q,if_pos q];exact ry
  ·rw [if_neg q,if_neg q];exact r g
 ·by_cases q:g=f
  ·rw [q];exact (keys_putF f y fs).1
  ·refine (keys_putF f y fs).2 g (wi g λ z=>hg ?_)
   show (if g=f then some u else mA g)=none
   rw [if_neg q];exact z
theorem Inv.made (I:Inv X pins σ H s):Inv X pins σ (upd (upd H s.heap.objs.size (.own (s.heap.objs.size+1))) (s.heap.objs.size+1) (.ins C s.heap.objs.size []))
  { s with heap:=(s.heap.push W.emptyDict).push (W.instObj C s.heap.objs.size) }:=by
 have e1:(s.heap.push W.emptyDict).get? s.heap.objs.size=some W.emptyDict:=Heap.get?_push_size s.heap rfl
 have e2:((s.heap.push W.emptyDict).push (W.instObj C s.heap.objs.size)).get? (s.heap.objs.size+1)=some (W.instObj C s.heap.objs.size):=by
  have:=Heap.get?_push_size (s.heap.push W.emptyDict) (o:=W.instObj C s.heap.objs.size) rfl
  rwa [Heap.size_push] at this
 have e3:(s.heap.push W.emptyDict).Ns s.heap.objs.size (λ _=>none):=⟨W.emptyDict,#[],_,e1,rfl,(λ e he=>absurd he (by simp)),λ _=>rfl⟩
 have I1:=I.laid (a:=s.heap.objs.size) (o:=.own (s.heap.objs.size+1)) (h':=s.heap.push W.emptyDict) (t':=s.toks) (λ b u q=>Heap.get?_push_of_some _ q) (Nat.le_refl _) ⟨_,e1⟩
 refine I1.laid (a:=s.heap.objs.size+1) (o:=.ins C s.heap.objs.size []) (t':=s.toks) (λ b u q=>Heap.get?_push_of_some _ q) (Nat.le_of_eq (Heap.size_push _ _)) ?_
 have ne:s.heap.objs.size≠s.heap.objs.size+1:=Nat.ne_of_lt (Nat.lt_succ_self _)
 refine ⟨by rw [upd_ne ne,upd_same],Nat.zero_le _,ne,e2,λ _=>none,(Heap.Ns1.of_empty e3).at λ o q=>Heap.get?_push_of_some _ q,λ _=>True.intro,λ y hy=>absurd rfl hy⟩
theorem attr_of {prog:Program}{w:World}{env:Env}{e:Expr}{f:Str}{pos:Pos}{s:Shared}{Q:Value->Shared->Prop}(hb:attributeBase e f env (eval e env)=eval e env)
  (h:wpAny (model prog w) A (eval e env) (λ o s₁=>wpAny (model prog w) A (getAttr o f true) Q E s₁) E s):wpAny (model prog w) A (eval (.Attribute e f pos) env) Q E s :=
 Attribute_any_ h (by rw [arm_eval_Attribute,hb])
end
def tFld (K:W.Frag) (ta:TE) (f:Str):TE:=λ σ H Q=>ta σ H λ x H1=>∃a C dx fs v,x=.ref a/\H1 a=some (.ins C dx fs)/\Cls K C/\NoAttr K C f/\fs.lookup f=some v/\Q v H1
def sFld (K:W.Frag) (ta tv:TE) (f:Str):TS:=λ D σ H=>tv σ H λ y H1=>ta σ H1 λ x H2=>∃a C dx fs,x=.ref a/\H2 a=some (.ins C dx fs)/\Cls K C/\NoAttr K C f/\fs.length < 1000 /\
 D.nx σ (upd H2 a (.ins C dx (putF f y fs)))
section
variable {X:Cx}{o e value:Expr}{f:Str}{pos pos' tpos:Pos}{ta tv:TE}
theorem pe_fld (he:PE X e ta) (hb:attributeBase e f X.env (eval e X.env)=eval e X.env):PE X (.Attribute e f pos) (tFld X.K ta f):=by
 intro pins s σ H Q I h
 refine attr_of hb (thn (he pins s σ H _ I h) λ u s1 ⟨x,H1,I1,rx,a,C,dx,fs,v,ex,ea,c,n,l,q⟩=>?_)
 subst ex
 obtain rfl:u=Value.ref a:=rx
 exact getattr_ok I1 ea c n l λ u' s2 I2 ru=>⟨v,H1,I2,ru,q⟩
theorem ps_fld (ha:PE X o ta) (hv:PE X value tv) (hs:swapsWith value (some (.Attribute o f pos')) pos.line X.env=pure false):PS X (.Assign [.Attribute o f pos'] value pos) (sFld X.K ta tv f):=by
 intro pins s σ H D I h
 refine plainObj_wpAny_Assign_Attribute (thn (hv pins s σ H _ I h) λ u s1 ⟨y,H1,I1,ry,q⟩=>thn (ha pins s1 σ H1 _ I1 q) λ ov s2 ⟨x,H2,I2,rx,a,C,dx,fs,ex,ea,c,n,l,q2⟩=>?_) hs
 subst ex
 obtain rfl:ov=Value.ref a:=rx
 exact setattr_ok I2 ea c n l ry λ s3 I3=>⟨σ,_,I3,q2⟩
end
section
variable {X:Cx}{pins:List (Addr × Obj)}{σ:St}{H:Hp}{s:Shared}{A:Around}{E:Value->Shared->Prop}{Q:Value->Shared->Prop}{c:Value}{b:Bool}
inductive TyOf (K:W.Frag) (H:Hp):V->Value->Prop where
 | non:TyOf K H .non (.type "NoneType")
 | bl (x:Bool):TyOf K H (.bl x) (.type "bool")
 | int (i:Int):TyOf K H (.int i) (.type "int")
 | str (x:Str):TyOf K H (.str x) (.type "str")
 | flt (x:UInt64):TyOf K H (.flt x) (.type "float")
 | lst {a:Addr}{xs:List V}(e:H a=some (.lst xs)):TyOf K H (.ref a) (.type "list")
 | frz {a:Addr}{o:Obj}{xs:List V}(e:H a=some (.frz o (.lst xs))):TyOf K H (.ref a) (.type "list")
 | tup {a:Addr}{xs:List V}(e:H a=some (.tup xs)):TyOf K H (.ref a) (.type "tuple")
 | dK {a:Addr}{kvs:List (Key × V)}(e:H a=some (.dK kvs)):TyOf K H (.ref a) (.type "dict")
 | dT {a:Addr}{kvs:List (List Key × V)}(e:H a=some (.dT kvs)):TyOf K H (.ref a) (.type "dict")
 | ins {a C dx:Addr}{fs:List (Str × V)}(e:H a=some (.ins C dx fs)) (cl:Cls K C) (ha:W.findIn K (.ref C) "__class__" = some (some (.builtin "object.__class__")))
   (hn:W.specialIn K (.builtin "object.__class__") "__get__" = some (some (.builtin "getset_descriptor.__get__"))) (htk:W.takesIn K (.builtin "object.__class__")=some true)
   (hm:W.mroIn K C (.type "object")=some true):TyOf K H (.ref a) (.ref C)
theorem isinst_ok {x:V}{u t:Value}(I:Inv X pins σ H s) (rx:RelV x u) (ty:TyOf X.K H x t) (e:W.kitOne X.K t c=some b) (h:∀tk,Q (.bool b) { s with toks:=tk }) :
  wpAny (model X.prog X.w) A (call (.builtin "isinstance") [u,c]) Q E s:=by
 cases ty with
 | non=>cases (show u=Value.none from rx);exact W.kia_one W.kitx_none I.kIn True.intro e (λ z=>nomatch z) h
 | bl y=>cases (show u=Value.bool y from rx);exact W.kia_one W.kitx_bool I.kIn True.intro e (λ z=>nomatch z) h
 | int i=>obtain ⟨t,q⟩:=(show ∃t,u=Value.int i t from rx);cases q;exact W.kia_one W.kitx_int I.kIn True.intro e (λ z=>nomatch z) h
 | str y=>obtain ⟨t,q⟩:=(show ∃t,u=Value.str y t from rx);cases q;exact W.kia_one W.kitx_str I.kIn True.intro e (λ z=>nomatch z) h
 | flt y=>obtain ⟨t,q⟩:=(show ∃t,u=Value.float y t from rx);cases q;exact W.kia_one W.kitx_float I.kIn True.intro e (λ z=>nomatch z) h
 | @lst a xs ea =>
  cases (show u=Value.ref a from rx)
  obtain ⟨_,_,n,_,h1⟩:=(show ObjOk X.prog X.w H s.heap a (.lst xs) from I.hok a _ ea)
  exact W.kia_one W.kitx_list I.kIn ⟨_,h1,rfl⟩ e (λ z=>nomatch z) h
 | @frz a ob xs ea =>
  cases (show u=Value.ref a from rx)
  obtain ⟨_,_,_,n,_,h1⟩:=(show ObjOk X.prog X.w H s.heap a (.frz ob (.lst xs)) from I.hok a _ ea)
  exact W.kia_one W.kitx_list I.kIn ⟨_,h1,rfl⟩ e (λ z=>nomatch z) h
 | @tup a xs ea =>
  cases (show u=Value.ref a from rx)
  obtain ⟨_,_,_,p⟩:=(show ObjOk X.prog X.w H s.heap a (.tup xs) from I.hok a _ ea)
  obtain ⟨o,h1,h2,_⟩:=p
  exact W.kia_one W.kitx_tuple I.kIn ⟨o,h1,h2⟩ e (λ z=>nomatch z) h
 | @dK a kvs ea =>
  cases (show u=Value.ref a from rx)
  obtain ⟨_,_,vs,_,p⟩:=(show ObjOk X.prog X.w H s.heap a (.dK kvs) from I.hok a _ ea)
  obtain ⟨o,es,ep,h1,h2,_⟩:=p
  exact W.kia_one W.kitx_dict I.kIn ⟨o,h1,h2.1⟩ e (λ z=>nomatch z) h
 | @dT a kvs ea =>
  cases (show u=Value.ref a from rx)
  obtain ⟨_,_,xs,_,o,es,ep,h1,h2,_⟩:=(show ObjOk X.prog X.w H s.heap a (.dT kvs) from I.hok a _ ea)
  exact W.kia_one W.kitx_dict I.kIn ⟨o,h1,h2.1⟩ e (λ z=>nomatch z) h
 | @ins a C dx fs ea cl ha hn htk hm =>
  cases (show u=Value.ref a from rx)
  obtain ⟨mA,O,_⟩:=ins_get I.hok ea
  obtain ⟨od,J,_⟩:=O.look
  exact W.kia_one (W.kitx_own (cl.get _) cl.hd ha hn htk hm) I.kIn J e (λ z=>nomatch z) h
end
structure Room (k:Nat) (A:Around):Prop where
 hd:A.handled=none
 dp:A.depth+3 * k+5 < recursionLimit
 un:A.units+16 * k+200 < cLine
theorem Room.mono {j k:Nat}{A:Around}(r:Room k A) (h:j≤k):Room j A:=⟨r.hd,by have:=r.dp;omega,by have:=r.un;omega⟩
theorem Room.deeper {k:Nat}{A:Around}(r:Room (k+1) A) (env:Env):Room k (A.deeper env) :=
 ⟨r.hd,by have:=r.dp;show A.depth+1+3 * k+5 < _;omega,by have:=r.un;show A.units+3+16 * k+200 < _;omega⟩
theorem Room.in1 {k:Nat}{A:Around}(r:Room (k+1) A):Room k A.in1 :=
 ⟨r.hd,by have:=r.dp;show A.depth+3 * k+5 < _;omega,by have:=r.un;show A.units+1+16 * k+200 < _;omega⟩
theorem make_depth {A:Around}{C:Addr}{us:List Value}{kw:List (Str × Value)}:(A.under (.builtin "type.__call__" ⟨.ref C::us,kw⟩)).depth=A.depth+1:=by
 first | rfl | simp [Around.under,Code.weight,Code.isCreation,Code.isGuard,Code.isCaller,Code.frames,Code.isFrame,guardIds]
theorem make_units {A:Around}{C:Addr}{us:List Value}{kw:List (Str × Value)}:(A.under (.builtin "type.__call__" ⟨.ref C::us,kw⟩)).units=A.units+1:=by
 first | rfl | simp [Around.under,Code.cUnits,Code.frames,Code.isFrame]
theorem Room.make {k:Nat}{A:Around}(r:Room (k+1) A) (C:Addr) (us:List Value) (kw:List (Str × Value)):Room k (A.under (.builtin "type.__call__" ⟨.ref C::us,kw⟩)) :=
 ⟨r.hd,by have:=r.dp;rw [make_depth];omega,by have:=r.un;rw [make_units];omega⟩
theorem Room.depth {k:Nat}{A:Around}(r:Room k A):A.depth < recursionLimit:=by have:=r.dp;omega
theorem Room.units {k:Nat}{A:Around}(r:Room k A):A.units+64 < cLine:=by have:=r.un;omega
theorem Room.units0 {k:Nat}{A:Around}(r:Room k A):A.units < cLine:=by have:=r.un;omega
def tNil:TA:=λ _ H Q=>Q [] H
def tCons (ta:TE) (tr:TA):TA:=λ σ H Q=>ta σ H λ x H1=>tr σ H1 λ xs H2=>Q (x::xs) H2
section
variable {X:Cx}{e:Expr}{es:List Expr}{te:TE}{t:TA}{pos:Pos}
theorem pa_nil:PA X [] tNil:=λ _ _ _ _ H Q I h=>Calls.spliced_nil ⟨[],H,I,.nil,h⟩
theorem pa_cons (ha:PE X e te) (hr:PA X es t) (hs:starEach (e::es) X.env=(false,eval e X.env)::starEach es X.env:=by rfl):PA X (e::es) (tCons te t):=by
 intro pos pins s σ H Q I h
 rw [hs]
 show wpAny _ _ (spliced ((false,eval e X.env)::backTo pos (starEach es X.env))) _ _ s
 refine Calls.spliced_cons (thn (ha pins s σ H _ I h) λ u s1 ⟨x,H1,I1,r1,q1⟩=>?_)
 exact thn (hr pos pins s1 σ H1 _ I1 q1) λ us s2 ⟨xs,H2,I2,r2,q2⟩=>⟨x::xs,H2,I2,.cons r1 r2,q2⟩
def tTup (t:TA):TE:=λ σ H Q=>t σ H λ xs H1=>xs.length≤sizeLine/\∀p,H1 p=none->Q (.ref p) (upd H1 p (.tup xs))
def tLst (t:TA):TE:=λ σ H Q=>t σ H λ xs H1=>xs.length≤sizeLine/\∀p,H1 p=none->Q (.ref p) (upd H1 p (.lst xs))
theorem pe_tup {x1} (h:PA X es t):PE X (.Tuple es x1 pos) (tTup t):=by
 intro pins s σ H Q I hq
 refine wpAny_Tuple_spliced (thn (h pos pins s σ H _ I hq) λ us s1 ⟨xs,H1,I1,r,z,q⟩=>⟨by rw [← r.length];exact z,?_⟩)
 have hf:H1 s1.heap.objs.size=none:=I1.hok.fresh (Nat.le_refl _)
 refine ⟨.ref s1.heap.objs.size,upd H1 s1.heap.objs.size (.tup xs),I1.laid (t':=s1.toks) (λ b u e=>Heap.get?_push_of_some _ e) (Nat.le_refl _) ?_,rfl,q _ hf⟩
 exact ⟨z,us,r,⟨_,Heap.get?_push_size _ rfl,rfl,_,rfl⟩⟩
theorem pe_lst (h:PA X es t):PE X (.List es pos) (tLst t):=by
 intro pins s σ H Q I hq
 refine wpAny_List_spliced (thn (h pos pins s σ H _ I hq) λ us s1 ⟨xs,H1,I1,r,z,q⟩=>⟨by rw [← r.length];exact z,?_⟩)
 have hf:H1 s1.heap.objs.size=none:=I1.hok.fresh (Nat.le_refl _)
 refine ⟨.ref s1.heap.objs.size,upd H1 s1.heap.objs.size (.lst xs),I1.laid (t':=s1.toks) (λ b u e=>Heap.get?_push_of_some _ e) (Nat.le_refl _) ?_,rfl,q _ hf⟩
 exact ⟨z,us,0,r,Heap.get?_push_size _ rfl⟩
end
abbrev Sp:=List V->Hp->VK->XK->Prop
abbrev CXT:=List Env->Hp->Shared->XK->Value->Shared->Prop
structure Env0 (P:Program) (w:World) (K:W.Frag) (mg:Str->Option Value) (base:Heap) (A:Around) (outer:List Env) (s:Shared) (H:Hp):Prop where
 frames:A.frames=some outer
 mod:Mod K mg base
 bs:∀b o,base.get? b=some o->s.heap.get? b=some o/\H b=none
 bsz:base.objs.size≤s.heap.objs.size
 funs:s.heap.FunFrames base outer
 frf:∀b∈frs outer,H b=none
 hok:HOk P w H s.heap
 bare:AllBare s.gens
def CE (outer:List Env) (P:Program) (w:World) (H:Hp) (s:Shared) (Q:VK) (u:Value) (s':Shared):Prop :=
 ∃v H',s'.os=s.os/\AllBare s'.gens/\Un (frs outer) [] H H' s.heap s'.heap/\HOk P w H' s'.heap/\RelV v u/\Q v H'
def CR (CX:CXT) (outer:List Env) (P:Program) (w:World) (H:Hp) (s:Shared) (Q:VK) (E:XK) (r:Result) (s':Shared):Prop :=
 match r with
 | .ok (.ret u)=>CE outer P w H s Q u s'
 | .ok _=>False
 | .error e=>CX outer H s E e s'
structure FnOk (P:Program) (w:World) (K:W.Frag) (mg:Str->Option Value) (base:Heap) (CX:CXT) (k:Nat) (f:Addr) (fd:FuncData) (ps:List Str) (sp:Sp):Prop where
 len:∀vs H Q E,sp vs H Q E->vs.length=ps.length
 run:∀(A:Around) (outer:List Env) (s:Shared) (H:Hp) (args:Args) (us:List Value) (vs:List V) (Q:VK) (E:XK),Room k A->Env0 P w K mg base A outer s H->BindsTo s fd args (ps.zip us)->Vals vs us->sp vs H Q E ->
  codeAny (model P w) A (.call (.ref f) args) (CR CX outer P w H s Q E) s
theorem FnOk.mono {P:Program}{w:World}{K:W.Frag}{mg:Str->Option Value}{base:Heap}{CX:CXT}{j k:Nat}{f:Addr}{fd:FuncData}{ps:List Str}{sp:Sp}(F:FnOk P w K mg base CX j f fd ps sp) (h:j≤k) :
  FnOk P w K mg base CX k f fd ps sp:=⟨F.len,λ A outer s H args us vs Q E hr=>F.run A outer s H args us vs Q E (hr.mono h)⟩
theorem FnOk.imp {P:Program}{w:World}{K:W.Frag}{mg:Str->Option Value}{base:Heap}{CX:CXT}{k:Nat}{f:Addr}{fd:FuncData}{ps:List Str}{sp sp':Sp}(F:FnOk P w K mg base CX k f fd ps sp)
  (h:∀vs H Q E,sp' vs H Q E->sp vs H Q E):FnOk P w K mg base CX k f fd ps sp' :=
 ⟨λ vs H Q E q=>F.len vs H Q E (h _ _ _ _ q),λ A outer s H args us vs Q E hr he hb hv hs=>F.run A outer s H args us vs Q E hr he hb hv (h _ _ _ _ hs)⟩
theorem Env0.make {P:Program}{w:World}{K:W.Frag}{mg:Str->Option Value}{base:Heap}{A:Around}{outer:List Env}{s:Shared}{H:Hp}(e:Env0 P w K mg base A outer s H) (C:Addr) (us:List Value) (kw:List (Str × Value)) :
  Env0 P w K mg base (A.under (.builtin "type.__call__" ⟨.ref C::us,kw⟩)) outer s H:=⟨by first | exact e.frames | (simpa [Around.under,Code.envs,Code.isFrame,pushEnvs] using e.frames),e.mod,e.bs,e.bsz,e.funs,e.frf,e.hok,e.bare⟩
theorem Env0.in1 {P:Program}{w:World}{K:W.Frag}{mg:Str->Option Value}{base:Heap}{A:Around}{outer:List Env}{s:Shared}{H:Hp}(e:Env0 P w K mg base A outer s H) :
  Env0 P w K mg base A.in1 outer s H:=⟨e.frames,e.mod,e.bs,e.bsz,e.funs,e.frf,e.hok,e.bare⟩
section
variable {X:Cx}{pins:List (Addr × Obj)}{σ:St}{H:Hp}{s s':Shared}
theorem Inv.env0 (I:Inv X pins σ H s):Env0 X.prog X.w X.K X.mg X.base X.A X.stack s H :=
 ⟨I.ok.frames,I.ok.mod,I.bs,Nat.le_trans I.ok.bsz I.sz,I.stack,I.stkFree,I.hok,I.bare⟩
theorem Inv.after {Q:VK}{u:Value}(I:Inv X pins σ H s) (h:CE X.stack X.prog X.w H s Q u s'):EP X pins σ Q u s':=by
 obtain ⟨v,H',os,bare,un,hok,r,q⟩:=h
 obtain ⟨hh,g,d,t,os'⟩:=s'
 obtain rfl:os'=s.os:=os
 exact ⟨v,H',I.call (h':=hh) (g':=g) (d':=d) (t':=t) (ch:=[]) un hok bare (λ b z=>absurd z (by simp)),r,q⟩
end
def tCall (sp:Sp) (dvs:List V) (E:XK) (t:TA):TE:=λ σ H Q=>t σ H λ vs H1=>sp (vs++dvs) H1 Q E
def tMeth (C:Addr) (m:Str) (sp:Sp) (dvs:List V) (E:XK) (ta:TE) (t:TA):TE:=λ σ H Q=>ta σ H λ x H1=>∃a dx fs,x=.ref a/\H1 a=some (.ins C dx fs)/\fs.lookup m=none /\
 t σ H1 λ vs H2=>sp (x::(vs++dvs)) H2 Q E
def tMake (C:Addr) (sp:Sp) (dvs:List V) (E:XK) (t:TA):TE:=λ σ H Q=>t σ H λ vs H1=>∀x dx,H1 x=none->H1 dx=none->dx≠x ->
 sp (.ref x::(vs++dvs)) (upd (upd H1 dx (.own x)) x (.ins C dx [])) (λ v H2=>v=.non/\Q (.ref x) H2) E
def Binds (K:W.Frag) (fd:FuncData) (ps:List Str) (ds:List Value):Prop :=
 ∀(s:Shared) (us:List Value),K.In s.heap->(us++ds).length=ps.length->BindsTo s fd ⟨us,[]⟩ (ps.zip (us++ds))
theorem Binds.all {K:W.Frag}{fd:FuncData}{ps:List Str}(h:∀us:List Value,us.length=ps.length->bindArgs fd ⟨us,[]⟩=pure (ps.zip us)):Binds K fd ps []:=λ s us _ hl=>by
 rw [List.append_nil] at hl ⊢
 exact .of_eq (h us hl)
def Passes (CX:CXT) (X:Cx) (E:XK):Prop:=∀(pins:List (Addr × Obj)) (σ:St) (H:Hp) (s:Shared) (e:Value) (s':Shared),Inv X pins σ H s->CX X.stack H s E e s'->X.xe e s'
section
variable {X:Cx}{CX:CXT}{k:Nat}{f C:Addr}{fd:FuncData}{ps:List Str}{sp:Sp}{dvs:List V}{ds:List Value}{E:XK}{x m:Str}{p pos apos:Pos}{e o:Expr}{es:List Expr}{ta:TE}{t:TA}
theorem run_fn {pins:List (Addr × Obj)}{σ:St}{H:Hp}{s:Shared}{Q:VK}{us:List Value}{vs:List V}(F:FnOk X.prog X.w X.K X.mg X.base CX k f fd ps sp) (hr:Room k X.A) (hb:Binds X.K fd ps ds) (hd:Vals dvs ds) (hx:Passes CX X E)
  (I:Inv X pins σ H s) (r:Vals vs us) (h:sp (vs++dvs) H Q E):wpAny (model X.prog X.w) X.A (call (.ref f) us) (EP X pins σ Q) X.xe s:=by
 have r2:Vals (vs++dvs) (us++ds):=r.append hd
 have hl:(us++ds).length=ps.length:=by rw [← r2.length];exact F.len _ _ _ _ h
 refine wpAny_call (codeAny_mono (F.run X.A X.stack s H ⟨us,[]⟩ (us++ds) (vs++dvs) Q E hr I.env0 (hb s us I.kIn hl) r2 h) λ r s' hq=>?_)
 cases r with
 | error e=>exact hx pins σ H s e s' I hq
 | ok fl =>
  cases fl with
  | ret u=>exact I.after hq
  | next=>exact False.elim hq
  | brk=>exact False.elim hq
  | cont=>exact False.elim hq
theorem pe_call (F:FnOk X.prog X.w X.K X.mg X.base CX k f fd ps sp) (hr:Room k X.A) (hg:Gl X x) (hm:X.mg x=some (.ref f)) (hk:W.keepIn X.K (.ref f)=true) (hb:Binds X.K fd ps ds) (hd:Vals dvs ds) (hx:Passes CX X E)
  (ha:PA X (e::es) t) (hdb:(x == ("__debug__" : Str))=false:=by decide) (he:starEach (e::es) X.env=(false,eval e X.env)::starEach es X.env:=by rfl) (hpl:(backTo pos (starEach es X.env)).any (·.1)=false:=by rfl) :
  PE X (.Call (.Name x p) (e::es) [] pos) (tCall sp dvs E t):=by
 intro pins s σ H Q I h
 refine wpAny_Call_Name_kw (ld_glob I hg hm ?_ hdb)
 refine W.callWith_K (h₀:=X.base) I.ok.mod.kin hk (thn (ha pos pins s σ H _ I h) λ us s1 ⟨vs,H1,I1,r,q⟩=>⟨I1.kIn,?_⟩) he hpl
 exact run_fn F hr hb hd hx I1 r q
theorem pe_meth {pl:Sem Bool}(he:PE X o ta) (c:Cls X.K C) (hm:Meth X.K C m f) (F:FnOk X.prog X.w X.K X.mg X.base CX k f fd ps sp) (hr:Room k X.A) (hb:Binds X.K fd ps ds) (hd:Vals dvs ds) (hx:Passes CX X E) (ha:PA X (e::es) t)
  (hst:starEach (e::es) X.env=(false,eval e X.env)::starEach es X.env:=by rfl) (hpl:(backTo pos (starEach es X.env)).any (·.1)=false:=by rfl)
  (ht:eval (.Call (.Attribute o m apos) (e::es) [] pos) X.env=(do
   let ov ← eval o X.env
   standAt apos.atName
   let (f,first) ← holding [ov] (getMethod ov m pl)
   callWith pos f first (backTo pos (starEach (e::es) X.env)) (backToKw pos (keywordEach [] X.env))):=by rfl) :
  PE X (.Call (.Attribute o m apos) (e::es) [] pos) (tMeth C m sp dvs E ta t):=by
 intro pins s σ H Q I h
 refine W.methodCall_KW (pl:=pl) (thn (he pins s σ H _ I h) λ u s1 ⟨x,H1,I1,rx,a,dx,fs,ex,ea,l,q⟩=>?_) ht
 subst ex
 obtain rfl:u=Value.ref a:=rx
 refine getmeth_ok I1 ea c hm l ?_
 refine W.callWith_K (first:=[.ref a]) (h₀:=X.base) I.ok.mod.kin hm.kp (thn (ha pos pins s1 σ H1 _ I1 q) λ us s2 ⟨vs,H2,I2,r,q2⟩=>⟨I2.kIn,?_⟩) hst hpl
 exact run_fn (us:=.ref a::us) (vs:=.ref a::vs) F hr hb hd hx I2 (.cons rfl r) q2
theorem pe_meth0 {pl:Sem Bool}(he:PE X o ta) (c:Cls X.K C) (hm:Meth X.K C m f) (F:FnOk X.prog X.w X.K X.mg X.base CX k f fd ps sp) (hr:Room k X.A) (hb:Binds X.K fd ps ds) (hd:Vals dvs ds) (hx:Passes CX X E)
  (ht:eval (.Call (.Attribute o m apos) [] [] pos) X.env=(do
   let ov ← eval o X.env
   standAt apos.atName
   let (f,first) ← holding [ov] (getMethod ov m pl)
   callWith pos f first (backTo pos (starEach [] X.env)) (backToKw pos (keywordEach [] X.env))):=by rfl) :
  PE X (.Call (.Attribute o m apos) [] [] pos) (tMeth C m sp dvs E ta tNil):=by
 intro pins s σ H Q I h
 refine W.methodCall_KW (pl:=pl) (thn (he pins s σ H _ I h) λ u s1 ⟨x,H1,I1,rx,a,dx,fs,ex,ea,l,q⟩=>?_) ht
 subst ex
 obtain rfl:u=Value.ref a:=rx
 refine getmeth_ok I1 ea c hm l ?_
 exact W.callWith_K0 (first:=[.ref a]) I1.kIn hm.kp (run_fn (us:=[.ref a]) (vs:=[.ref a]) F hr hb hd hx I1 (.cons rfl .nil) q)
structure Mk (K:W.Frag) (C f:Addr):Prop where
 makes:W.makesIn K C=true
 init:W.findIn K (.ref C) "__init__" = some (some (.ref f))
 fn:W.isFn K (.ref f)=true
 kp:W.keepIn K (.ref C)=true
theorem run_make {pins:List (Addr × Obj)}{σ:St}{H:Hp}{s:Shared}{Q:VK}{us:List Value}{vs:List V}(M:Mk X.K C f) (F:FnOk X.prog X.w X.K X.mg X.base CX k f fd ps sp) (hr:Room (k+1) X.A) (hb:Binds X.K fd ps ds) (hd:Vals dvs ds)
  (hx:Passes CX X E) (I:Inv X pins σ H s) (r:Vals vs us)
  (h:∀x dx,H x=none->H dx=none->dx≠x->sp (.ref x::(vs++dvs)) (upd (upd H dx (.own x)) x (.ins C dx [])) (λ v H2=>v=.non/\Q (.ref x) H2) E) :
  wpAny (model X.prog X.w) X.A (call (.ref C) us) (EP X pins σ Q) X.xe s:=by
 have hq:=h (s.heap.objs.size+1) s.heap.objs.size (I.hok.fresh (Nat.le_succ _)) (I.hok.fresh (Nat.le_refl _)) (Nat.ne_of_lt (Nat.lt_succ_self _))
 have I2:=Inv.made (C:=C) I
 have r2:Vals (V.ref (s.heap.objs.size+1)::(vs++dvs)) (Value.ref (s.heap.objs.size+1)::(us++ds)):=.cons rfl (r.append hd)
 have hl:(Value.ref (s.heap.objs.size+1)::us++ds).length=ps.length:=by
  have e:=r2.length
  rw [F.len _ _ _ _ hq] at e
  exact e.symm
 refine wpAny_call (make_map (f:=f) I.kIn M.makes M.init (beq_iff_eq.mp M.fn) (codeAny_mono (F.run _ X.stack _ _ ⟨Value.ref (s.heap.objs.size+1)::us,[]⟩ (Value.ref (s.heap.objs.size+1)::(us++ds)) _ _ E (hr.make C us [])
  (I2.env0.make C us []) (hb _ (Value.ref (s.heap.objs.size+1)::us) I2.kIn hl) r2 hq) λ r s' hq'=>?_))
 cases r with
 | error e=>exact hx pins σ _ _ e s' I2 hq'
 | ok fl =>
  cases fl with
  | ret u =>
   obtain ⟨v,H',I3,rv,ev,q3⟩:=I2.after hq'
   subst ev
   exact ⟨rv,⟨V.ref (s.heap.objs.size+1),H',I3,rfl,q3⟩⟩
  | next=>exact False.elim hq'
  | brk=>exact False.elim hq'
  | cont=>exact False.elim hq'
theorem pe_make (M:Mk X.K C f) (F:FnOk X.prog X.w X.K X.mg X.base CX k f fd ps sp) (hr:Room (k+1) X.A) (hg:Gl X x) (hm:X.mg x=some (.ref C)) (hb:Binds X.K fd ps ds) (hd:Vals dvs ds) (hx:Passes CX X E)
  (ha:PA X (e::es) t) (hdb:(x == ("__debug__" : Str))=false:=by decide) (he:starEach (e::es) X.env=(false,eval e X.env)::starEach es X.env:=by rfl) (hpl:(backTo pos (starEach es X.env)).any (·.1)=false:=by rfl) :
  PE X (.Call (.Name x p) (e::es) [] pos) (tMake C sp dvs E t):=by
 intro pins s σ H Q I h
 refine wpAny_Call_Name_kw (ld_glob I hg hm ?_ hdb)
 refine W.callWith_K (h₀:=X.base) I.ok.mod.kin M.kp (thn (ha pos pins s σ H _ I h) λ us s1 ⟨vs,H1,I1,r,q⟩=>⟨I1.kIn,?_⟩) he hpl
 exact run_make M F hr hb hd hx I1 r q
end
section
variable {X:Cx}{CX:CXT}{k:Nat}{f C:Addr}{fd:FuncData}{ps ks:List Str}{sp:Sp}{E:XK}{x m:Str}{p pos apos kpos:Pos}{e o:Expr}{es:List Expr}{kws:List Keyword}{te ta:TE}{t tk:TA}{nm:Option Str}
structure KBinds (K:W.Frag) (fd:FuncData) (ps ks:List Str) (g:List Value->List Value->List Value) (gV:List V->List V->List V):Prop where
 to:∀(s:Shared) (us ws:List Value),K.In s.heap->(g us ws).length=ps.length->BindsTo s fd ⟨us,ks.zip ws⟩ (ps.zip (g us ws))
 rel:∀ {vs:List V}{us:List Value}{zs:List V}{ws:List Value},Vals vs us->Vals zs ws->Vals (gV vs zs) (g us ws)
variable {g:List Value->List Value->List Value}{gV:List V->List V->List V}
end
structure FnScope (N P:List Str) (sc:Scope):Prop where
 kind:sc.kind=.function
 co:sc.isCoroutine=false
 gen:sc.isGenerator=false
 nd:N.Nodup
 pre:N.take P.length=P
 par:∀x∈P,sc.names.lookup x=some .local\/sc.names.lookup x=some .cell
 nofree:∀y∈sc.names,y.2≠.free
theorem bindL_out {kindOf:Str->Option NameKind}{x:Str}:∀ {binds:List (Str × Value)}{m:Str->Option Value},(∀v,(x,v) ∉ binds)->bindL kindOf binds m x=m x
 | [],_,_=>rfl
 | (n,v)::r,m,h=>by
  unfold bindL
  rw [bindL_out λ w hw=>h w (List.mem_cons_of_mem _ hw)]
  split
  ·have:x≠n:=by rintro rfl;exact h v List.mem_cons_self
   simp [this]
  ·rfl
theorem bindC_out {kindOf:Str->Option NameKind}{x:Str}:∀ {binds:List (Str × Value)}{m:Str->Option Value},(∀v,(x,v) ∉ binds)->bindC kindOf binds m x=m x
 | [],_,_=>rfl
 | (n,v)::r,m,h=>by
  unfold bindC
  rw [bindC_out λ w hw=>h w (List.mem_cons_of_mem _ hw)]
  split
  ·rfl
  ·have:x≠n:=by rintro rfl;exact h v List.mem_cons_self
   simp [this]
theorem bindL_get {kindOf:Str->Option NameKind}{x:Str}{v:Value}:∀ {P:List Str}{vs:List Value}{i:Nat}{m:Str->Option Value},P.Nodup->P[i]?=some x->vs[i]?=some v->kindOf x=some .local ->
  bindL kindOf (P.zip vs) m x=some v
 | [],_,_,_,_,h,_,_=>by simp at h
 | _::_,[],_,_,_,_,h,_=>by simp at h
 | p::P,w::vs,0,m,nd,h1,h2,hk=>by
  simp at h1 h2;subst h1;subst h2
  show bindL kindOf ((p,w)::P.zip vs) m p=_
  unfold bindL
  rw [bindL_out λ v hv=>(List.nodup_cons.mp nd).1 (List.of_mem_zip hv).1,if_pos hk]
  simp
 | p::P,w::vs,i+1,m,nd,h1,h2,hk=>by
  show bindL kindOf ((p,w)::P.zip vs) m x=_
  unfold bindL
  exact bindL_get (i:=i) (List.nodup_cons.mp nd).2 (by simpa using h1) (by simpa using h2) hk
theorem bindC_get {kindOf:Str->Option NameKind}{x:Str}{v:Value}:∀ {P:List Str}{vs:List Value}{i:Nat}{m:Str->Option Value},P.Nodup->P[i]?=some x->vs[i]?=some v->kindOf x≠some .local ->
  bindC kindOf (P.zip vs) m x=some v
 | [],_,_,_,_,h,_,_=>by simp at h
 | _::_,[],_,_,_,_,h,_=>by simp at h
 | p::P,w::vs,0,m,nd,h1,h2,hk=>by
  simp at h1 h2;subst h1;subst h2
  show bindC kindOf ((p,w)::P.zip vs) m p=_
  unfold bindC
  rw [bindC_out λ v hv=>(List.nodup_cons.mp nd).1 (List.of_mem_zip hv).1,if_neg hk]
  simp
 | p::P,w::vs,i+1,m,nd,h1,h2,hk=>by
  show bindC kindOf ((p,w)::P.zip vs) m x=_
  unfold bindC
  exact bindC_get (i:=i) (List.nodup_cons.mp nd).2 (by simpa using h1) (by simpa using h2) hk
def start (N:List Str) (vs:List V):St:=vs.map some++List.replicate (N.length - vs.length) none
def cxOf (CX:CXT) (P:Program) (w:World) (K:W.Frag) (mg:Str->Option Value) (base:Heap) (N:List Str) (qual:Str) (scope:Scope) (f:Addr) (cd:Value) (A:Around) (outer:List Env) (s:Shared) (H:Hp) (E:XK):Cx where
 prog:=P
 w:=w
 K:=K
 mg:=mg
 base:=base
 A:=A.deeper (envOfC qual scope s.heap.objs.size f cd)
 N:=N
 s₀:=s
 H₀:=H
 env:=envOfC qual scope s.heap.objs.size f cd
 outer:=outer
 stack:=envOfC qual scope s.heap.objs.size f cd::outer
 ex:=[]
 calm:=true
 fn:=λ _=>true
 pn:=[]
 xe:=λ e s'=>wpAny (model P w) (A.deeper (envOfC qual scope s.heap.objs.size f cd)) (leaving (envOfC qual scope s.heap.objs.size f cd) e) (λ _ s''=>CX outer H s E e s'') (λ e' s''=>CX outer H s E e' s'') s'
theorem cell_has {sc:Scope}{n:Nat}{x:Str}(h:sc.names.lookup x=some .cell):∃c,(cellsFrom n sc.names []).lookup x=some c:=by
 have q:=W.cellsFrom_some sc.names n [] (.inl h)
 exact Option.isSome_iff_exists.mp q
theorem inv_start {CX:CXT}{P:Program}{w:World}{K:W.Frag}{mg:Str->Option Value}{base:Heap}{N ps:List Str}{qual:Str}{scope:Scope}{f:Addr}{cd:Value}{A:Around}{outer:List Env}{s s1:Shared}{H:Hp}{E:XK}{us:List Value}{vs:List V}
  (S:FnScope N ps scope) (hd:A.handled=none) (e0:Env0 P w K mg base A outer s H) (hl:vs.length=ps.length) (r:Vals vs us)
  (x:InCallC s s.heap.objs.size (bindL (envOfC qual scope s.heap.objs.size f cd).kindOf (ps.zip us) λ _=>none) (cellsFrom (s.heap.objs.size+1) scope.names []) (bindC (envOfC qual scope s.heap.objs.size f cd).kindOf (ps.zip us) λ _=>none) s1) :
  Inv (cxOf CX P w K mg base N qual scope f cd A outer s H E) [] (start N vs) H s1:=by
 have hpl:ps.length≤N.length:=by have:=congrArg List.length S.pre;rw [List.length_take] at this;omega
 obtain ⟨h1,tk,rfl,hk⟩:=x.done
 have noA:∀b:Addr,b ∉ (cxOf CX P w K mg base N qual scope f cd A outer s H E).ex:=λ b z=>absurd (show b∈([]:List Addr) from z) (by simp)
 refine ⟨⟨e0.mod,S.kind,rfl,rfl,Nat.le_refl _,λ y z c h1 h2=>?_,λ y hy=>?_,λ y c _ h=>?_,λ _=>hd,Around.frames_deeper e0.frames,.inr ⟨rfl,rfl⟩,λ b z=>absurd z (noA b),e0.bs,e0.bsz,λ b _ _=>noA b,λ b z=>absurd z (noA b),e0.funs,e0.frf⟩,
  rfl,e0.bare,Un.kept hk,⟨_,x.toInCall.ns,λ i y v h1 h2 h3=>?_⟩,λ y c h=>⟨_,x.cell y c h⟩,e0.hok.fresh (Nat.le_refl _),λ y c h=>?_,λ p hp=>absurd (show p∈([]:List (Addr × Obj)) from hp) (by simp),e0.hok.kept hk,?_⟩
 ·exact name_of_addr x.apart (PySem.mem_of_lookup h1) (PySem.mem_of_lookup h2)
 ·have hy:scope.names.lookup y=some .cell\/scope.names.lookup y=some .free:=hy
  rcases hy with hy | hy
  ·exact cell_has hy
  ·exact absurd rfl (S.nofree _ (PySem.mem_of_lookup hy))
 ·exact Nat.le_of_lt (x.above y c (PySem.mem_of_lookup h))
 ·have hi:i < vs.length:=by
   unfold start at h2
   by_cases hi:i < vs.length
   ·exact hi
   ·rw [List.getElem?_append_right (by simpa using hi)] at h2
    rw [List.getElem?_replicate] at h2
    split at h2<;>cases h2
  have ha:vs[i]?=some v:=by
   unfold start at h2
   rw [List.getElem?_append_left (by simpa using hi),List.getElem?_map] at h2
   cases e:vs[i]? with
   | none=>rw [e] at h2;cases h2
   | some a=>rw [e] at h2;cases h2;rfl
  obtain ⟨u,hu,rv⟩:=r.get ha
  have hp:ps[i]?=some y:=by
   rw [← S.pre,List.getElem?_take_of_lt (by omega)];exact h1
  have ndP:ps.Nodup:=by rw [← S.pre];exact S.nd.sublist (List.take_sublist _ _)
  refine ⟨u,rv,?_⟩
  rcases S.par y (List.mem_of_getElem? hp) with k | k
  ·exact .inl ⟨k,bindL_get ndP hp hu k⟩
  ·obtain ⟨c,e⟩:=cell_has (n:=s.heap.objs.size+1) k
   refine .inr ⟨.inl k,c,e,?_⟩
   have q:=x.cell y c e
   rw [bindC_get ndP hp hu (by show scope.names.lookup y≠_;rw [k];decide)] at q
   exact q
 ·exact e0.hok.fresh (Nat.le_of_lt (x.above y c (PySem.mem_of_lookup h)))
 ·unfold start
  show _=N.length
  rw [List.length_append,List.length_map,List.length_replicate]
  omega
theorem fn_of {CX:CXT}{P:Program}{w:World}{K:W.Frag}{mg:Str->Option Value}{base:Heap}{k:Nat}{f:Addr}{name qual:Str}{params:Arguments}{body:List Stmt}{scope:Scope}{dV kV doc pm cdv ct oc:Value}{an od:Option Addr}
  {osl:Array (Option Value)}{N ps:List Str}{sp:Sp}(lk:K.lookup f=some ⟨oc,od,.func (W.fnOf name qual params body scope dV kV doc pm an cdv ct),osl⟩) (hcd:W.codeIn K cdv qual=true) (S:FnScope N ps scope)
  (len:∀vs H Q E,sp vs H Q E->vs.length=ps.length)
  (hbody:∀(A:Around) (outer:List Env) (s:Shared) (H:Hp) (vs:List V) (Q:VK) (E:XK),Room k (A.deeper (envOfC qual scope s.heap.objs.size f cdv))->sp vs H Q E ->
   ∃t,PSs (cxOf CX P w K mg base N qual scope f cdv A outer s H E) body t/\t { nx:=λ _ H'=>Q .non H',rt:=Q } (start N vs) H) :
  FnOk P w K mg base CX (k+1) f (W.fnOf name qual params body scope dV kV doc pm an cdv ct) ps sp:=by
 refine ⟨len,λ A outer s H args us vs Q E hr e0 hb r hsp=>?_⟩
 have hl:=len _ _ _ _ hsp
 have KX:K.In s.heap:=e0.mod.kin.keeps λ b o e=>(e0.bs b o e).1
 have lim:s.heap.NoLimit:=e0.mod.nolimit.keeps λ b o e=>(e0.bs b o e).1
 have hkind:∀y∈ps.zip us,scope.names.lookup y.1=some .local\/(scope.names.lookup y.1=some .cell/\((cellsFrom (s.heap.objs.size+1) scope.names []).lookup y.1).isSome=true):=λ ⟨n,v⟩ hy=>by
  rcases S.par n (List.of_mem_zip hy).1 with q | q
  ·exact .inl q
  ·exact .inr ⟨q,W.cellsFrom_some _ _ _ (.inl q)⟩
 refine codeAny_call_function hr.depth (KX _ _ lk) rfl S.co S.gen rfl (W.codeRec_of KX hcd) (hb _ _ _ _ ?_)
 refine wpAny_newFunctionEnv_cells S.kind hkind λ env he s1 x=>?_
 subst he
 refine ⟨lim.keeps x.toInCall.keep,codeAny_func ?_⟩
 obtain ⟨t,ht,hq⟩:=hbody A outer s H vs Q E (hr.deeper _) hsp
 have I:Inv (cxOf CX P w K mg base N qual scope f cdv A outer s H E) [] (start N vs) H s1:=inv_start S hr.hd e0 hl r x
 refine wpAny_mono (ht [] s1 (start N vs) H _ I hq) (λ fl s' hs=>?_) λ e s' hs=>hs
 have fin:∀ {σ':St}{H':Hp}{v:V}{u:Value},Inv (cxOf CX P w K mg base N qual scope f cdv A outer s H E) [] σ' H' s'->RelV v u->Q v H'->CE outer P w H s Q u s' :=
  λ {σ' H' v u} J rv q=>⟨v,H',J.os,J.bare,J.base,J.hok,rv,q⟩
 cases fl with
 | ret u =>
  obtain ⟨v,σ',H',J,rv,q⟩:=hs
  exact fin J rv q
 | next =>
  obtain ⟨σ',H',J,q⟩:=hs
  exact fin (v:=V.non) (u:=Value.none) J rfl q
 | brk =>
  obtain ⟨_,_,_,q⟩:=hs
  exact False.elim q
 | cont =>
  obtain ⟨_,_,_,q⟩:=hs
  exact False.elim q
section
variable {X:Cx}{x:Str}{p pos:Pos}{e:Expr}{es:List Expr}{t:TA}{id T:String}{r:List V->Hp->VK->Prop}
def tCB (r:List V->Hp->VK->Prop) (t:TA):TE:=λ σ H Q=>t σ H λ vs H1=>r vs H1 Q
theorem pe_callB (hc:CallR X (.builtin id) r) (hg:Gl X x) (hm:X.mg x=none) (hv:bootBuiltins x=some (.builtin id)) (ha:PA X (e::es) t) (hn:x ≠ "__name__" := by decide) (hdb:(x == ("__debug__" : Str))=false:=by decide)
  (he:starEach (e::es) X.env=(false,eval e X.env)::starEach es X.env:=by rfl) (hpl:(backTo pos (starEach es X.env)).any (·.1)=false:=by rfl):PE X (.Call (.Name x p) (e::es) [] pos) (tCB r t):=by
 intro pins s σ H Q I h
 refine wpAny_Call_Name_kw (ld_blt I hg hm hv ?_ hn hdb)
 exact PyProof.Rows.callWith_builtin1 (thn (ha pos pins s σ H _ I h) λ us s1 ⟨vs,H1,I1,r1,q1⟩=>hc pins s1 σ H1 vs us Q I1 r1 q1) he hpl
theorem pe_callTy (hc:CallR X (.type T) r) (hg:Gl X x) (hm:X.mg x=none) (hv:bootBuiltins x=some (.type T)) (ha:PA X (e::es) t) (hn:x ≠ "__name__" := by decide) (hdb:(x == ("__debug__" : Str))=false:=by decide)
  (he:starEach (e::es) X.env=(false,eval e X.env)::starEach es X.env:=by rfl) (hpl:(backTo pos (starEach es X.env)).any (·.1)=false:=by rfl):PE X (.Call (.Name x p) (e::es) [] pos) (tCB r t):=by
 intro pins s σ H Q I h
 refine wpAny_Call_Name_kw (ld_blt I hg hm hv ?_ hn hdb)
 exact PyProof.Rows.callWith_type1 (thn (ha pos pins s σ H _ I h) λ us s1 ⟨vs,H1,I1,r1,q1⟩=>hc pins s1 σ H1 vs us Q I1 r1 q1) he hpl
end
end L2
namespace HT
open PySem PyProof.Rows
section
open PySem.SeqAt
open PySem.AutoSeq1 (wpAny_loadPart')
open PySem.MeetsSeq PySem.MeetsSeq2 PySem.MeetsSeq3
end
section
variable {prog:Program}{w:World}{A:Around}{E:Value->Shared->Prop}{s:Shared}
theorem cat_tup {t b:Addr}{vs ws:List Value}{Q:Value->Shared->Prop}(ht:IsTup s.heap t vs.toArray) (hb:IsTup s.heap b ws.toArray) (hv:vs≠[])
  (h1:ws=[]->Q (.ref t) s) (h2:ws≠[]->Q (.ref s.heap.objs.size) { s with heap:=s.heap.push { cls:=.type "tuple",data:=.seq (vs++ws).toArray } })
  (hsz:vs.length+ws.length≤sizeLine):wpAny (model prog w) A (binaryOp .Add (.ref t) (.ref b)) Q E s:=by
 obtain ⟨⟨cls,dd,data,sl⟩,ho,hc,n,hd⟩:=id ht
 obtain ⟨⟨cls2,dd2,data2,sl2⟩,ho2,hc2,n2,hd2⟩:=id hb
 simp only at hc hd hc2 hd2
 subst hc hd hc2 hd2
 have e:vs.toArray++ws.toArray=(vs++ws).toArray:=by simp
 by_cases hw:ws=[]
 ·exact concat_meets ⟨_,ho,rfl⟩ ⟨_,ho2,rfl⟩ noFill_tuple_add seq_tuple_add PySem.F.slot_tuple_add PySem.F.entry_tuple_add (PySem.F.args_tuple_add_2 _ _)
   (tuple_addW1 t b vs.toArray ws.toArray n n2 dd dd2 sl sl2 (by simpa using hv) (by simp [hw])) ⟨ho,ho2,h1 hw⟩
 ·refine concat_meets ⟨_,ho,rfl⟩ ⟨_,ho2,rfl⟩ noFill_tuple_add seq_tuple_add PySem.F.slot_tuple_add PySem.F.entry_tuple_add (PySem.F.args_tuple_add_2 _ _)
   (tuple_addW2 t b vs.toArray ws.toArray n n2 dd dd2 sl sl2 (by simpa using hv) (by simpa using hw) (by rw [List.size_toArray,List.size_toArray];exact hsz)) ⟨ho,ho2,?_⟩
  rw [e]
  exact h2 hw
def sIx (n d:Nat):Option Int->Nat
 | none=>d
 | some v=>if v < 0 then (v+(n:Int)).toNat else min v.toNat n
theorem sIx_le (n d:Nat) (hd:d≤n) (o:Option Int):sIx n d o≤n:=by
 cases o with
 | none=>exact hd
 | some v =>
  show (if v < 0 then (v+(n:Int)).toNat else min v.toNat n)≤n
  by_cases hv:v < 0
  ·rw [if_pos hv];omega
  ·rw [if_neg hv];exact Nat.min_le_right _ _
theorem clip_eq (v:Int) (n d:Nat):(if v < 0 then max (v+(n:Int)) 0 else min v (n:Int))=((sIx n d (some v):Nat):Int):=by
 show (if v < 0 then max (v+(n:Int)) 0 else min v (n:Int))=(((if v < 0 then (v+(n:Int)).toNat else min v.toNat n):Nat):Int)
 by_cases hv:v < 0
 ·simp only [if_pos hv];omega
 ·simp only [if_neg hv];omega
theorem adjust_gen (lo hi:Option Int) (n:Nat):Builtin.Slice.sliceAdjust lo hi 1 (n:Int)=(((sIx n 0 lo:Nat):Int),((sIx n n hi:Nat):Int)):=by
 have h1:¬((1:Int) < 0):=by omega
 unfold Builtin.Slice.sliceAdjust
 simp only [h1,if_false]
 refine Prod.ext ?_ ?_
 ·cases lo with
  | none=>rfl
  | some v=>exact clip_eq v n 0
 ·cases hi with
  | none=>rfl
  | some v=>exact clip_eq v n n
theorem places_gen (i j:Nat):Builtin.Slice.slicePlaces (i:Int) (j:Int) 1=j - i:=by
 unfold Builtin.Slice.slicePlaces
 have h1:(1:Int) > 0:=by omega
 simp only [h1,if_true,Int.ediv_one]
 split<;>omega
theorem slicePart_ {v:Value}{o:Option Int}{Q:Option Int->Shared->Prop}(p:IsPart v o) (h:Q o s):wpAny (model prog w) A (Builtin.Slice.slicePartIndex v) Q E s:=by
 cases p with
 | none=>exact slicePart_none h
 | int i t=>exact slicePart_int h
theorem sliceApplied_gen {sl:Addr}{vl vu:Value}{lo hi:Option Int}{n:Nat}{Q:Int × Int × Nat->Shared->Prop}(hs:s.heap.IsSliceOf sl vl vu .none) (pl:IsPart vl lo) (pu:IsPart vu hi)
  (h:Q (((sIx n 0 lo:Nat):Int),1,sIx n n hi - sIx n 0 lo) s):wpAny (model prog w) A (Builtin.Slice.sliceApplied (.ref sl) (pure (n:Int))) Q E s:=by
 obtain ⟨os,hos,hcs,hds⟩:=id hs
 unfold Builtin.Slice.sliceApplied Builtin.Slice.sliceFields
 refine wpAny_bind (wpAny_bind (wpAny_field hos hds (x:=vl) rfl (wpAny_bind (wpAny_field hos hds (x:=vu) rfl (wpAny_bind (wpAny_field hos hds (x:=.none) rfl (wpAny_pure ?_)))))))
 refine wpAny_bind (slicePart_none ?_)
 show wpAny _ _ (if ((1:Int) == 0)=true then _ else _) _ _ s
 rw [if_neg (by decide)]
 refine wpAny_bind (slicePart_ pl (wpAny_bind (slicePart_ pu (wpAny_bind (wpAny_pure ?_)))))
 show wpAny _ _ (match Builtin.Slice.sliceAdjust lo hi 1 (n:Int) with | (lo,hi)=>pure (lo,(1:Int),Builtin.Slice.slicePlaces lo hi 1)) _ _ s
 rw [adjust_gen lo hi n]
 show wpAny _ _ (pure (((sIx n 0 lo:Nat):Int),(1:Int),Builtin.Slice.slicePlaces ((sIx n 0 lo:Nat):Int) ((sIx n n hi:Nat):Int) 1)) _ _ s
 rw [places_gen]
 exact wpAny_pure h
theorem pick_gen (xs:Array Value) (i k:Nat):((List.range k).filterMap λ (m:Nat)=>xs[((i:Int)+(m:Int) * 1).toNat]?).toArray=((xs.toList.drop i).take k).toArray:=by
 have e:(λ (m:Nat)=>xs[((i:Int)+(m:Int) * 1).toNat]?)=λ m=>xs[i+m]?:=by
  funext m
  have:((i:Int)+(m:Int) * 1).toNat=i+m:=by omega
  rw [this]
 rw [e]
 have:=pick_run xs i k
 rw [List.filterMap_map] at this
 have e2:((λ x=>xs[x]?) ∘ λ x=>i+x)=λ m=>xs[i+m]?:=rfl
 rw [e2] at this
 rw [this]
theorem getItem_tuple_cut {t sl:Addr}{items:Array Value}{vl vu:Value}{lo hi:Option Int}{Q:Value->Shared->Prop}(ht:IsTup s.heap t items) (hs:s.heap.IsSliceOf sl vl vu .none) (pl:IsPart vl lo) (pu:IsPart vu hi)
  (hw:¬(sIx items.size 0 lo=0/\sIx items.size items.size hi=items.size))
  (h:Q (.ref s.heap.objs.size) { s with heap:=s.heap.push { cls:=.type "tuple",data:=.seq ((items.toList.drop (sIx items.size 0 lo)).take (sIx items.size items.size hi - sIx items.size 0 lo)).toArray } })
  (hsz:items.size≤sizeLine):wpAny (model prog w) A (getItem (.ref t) (.ref sl)) Q E s:=by
 have htake:sizeOk (.seq ((items.toList.drop (sIx items.size 0 lo)).take (sIx items.size items.size hi - sIx items.size 0 lo)).toArray):=by
  show ((items.toList.drop (sIx items.size 0 lo)).take (sIx items.size items.size hi - sIx items.size 0 lo)).toArray.size≤sizeLine
  rw [List.size_toArray,List.length_take,List.length_drop,Array.length_toList]
  omega
 have hj:sIx items.size items.size hi≤items.size:=sIx_le _ _ (Nat.le_refl _) hi
 obtain ⟨os,hos,hcs,hds⟩:=id hs
 have hTs:s.TypeIs (.ref sl) "slice" := ⟨os,hos,hcs⟩
 unfold getItem
 try with_reducible refine wpAny_holding ?_
 first | refine wpAny_bind (wpAny_pure ?_) | skip
 refine wpAny_bind (wpAny_sequenceKey ht.typeIs (by decide) ?_)
 refine wpAny_bind (wpAny_callSpecial?_slot (name:=Str.ofString "__getitem__") ht.typeIs PyProof.Rows.slot_tuple_getitem
  (wpAny_call_entry PyProof.Rows.slot_tuple_getitem ht.typeIs entry_tuple_getitem ?_ (args_tuple_getitem _ _)))
 show wpAny _ _ (Builtin.Tuple.tupleItemsOf (.ref t) >>= _) _ _ s
 refine wpAny_bind (tupleItemsOf_ ht ?_)
 refine wpAny_bind (wpAny_typeOf hTs ?_)
 rw [if_pos (by decide)]
 refine wpAny_bind (sliceApplied_gen hs pl pu ?_)
 have hno:¬((((sIx items.size 0 lo:Nat):Int) == 0 && (1:Int) == 1 && (sIx items.size items.size hi - sIx items.size 0 lo) == items.size)=true):=by
  intro q
  rw [Bool.and_eq_true,Bool.and_eq_true] at q
  have q1:((sIx items.size 0 lo:Nat):Int)=0:=eq_of_beq q.1.1
  have q2:sIx items.size items.size hi - sIx items.size 0 lo=items.size:=eq_of_beq q.2
  exact hw ⟨by omega,by omega⟩
 show wpAny _ _ (if (((sIx items.size 0 lo:Nat):Int) == 0 && (1:Int) == 1 && (sIx items.size items.size hi - sIx items.size 0 lo) == items.size)=true then _ else _) _ _ s
 rw [if_neg hno,pick_gen]
 first
  | exact wpAny_bind (m:=Builtin.Tuple.tupleExact _) (wpAny_newObj_type (wpAny_pure ⟨_,rfl,wpAny_pure h⟩) htake)
  | exact wpAny_bind (m:=Builtin.Tuple.tupleExact _) (wpAny_newObj_type (wpAny_bind (wpAny_pure (wpAny_pure ⟨_,rfl,wpAny_pure h⟩))) htake)
  | exact wpAny_bind (wpAny_bind (m:=Builtin.Tuple.tupleExact _) (wpAny_newObj_type (wpAny_pure (wpAny_pure ⟨_,rfl,wpAny_pure h⟩)) htake))
  | exact wpAny_bind (wpAny_bind (m:=Builtin.Tuple.tupleExact _) (wpAny_newObj_type (wpAny_pure ⟨_,rfl,wpAny_pure h⟩) htake))
end
end HT
namespace L2
open PySem PySem.Spec PyProof.Rows
abbrev TO:=St->Hp->(Option Int->Hp->Prop)->Prop
def PO (X:Cx) (e:Option Expr) (t:TO):Prop :=
 ∀(pins:List (Addr × Obj)) (s:Shared) (σ:St) (H:Hp) (Q:Option Int->Hp->Prop),Inv X pins σ H s->t σ H Q ->
  wpAny (model X.prog X.w) X.A (evalPart e X.env) (λ u s'=>∃o H',Inv X pins σ H' s'/\IsPart u o/\Q o H') X.xe s
def tNoPart:TO:=λ _ H Q=>Q none H
def tPart (t:TE):TO:=λ σ H Q=>t σ H λ x H1=>∃i,x=.int i/\Q (some i) H1
theorem intsAre_of {ns:List Int}:∀ {us:List Value},Vals (ns.map V.int) us->IntsAre us ns:=by
 induction ns with
 | nil=>intro us r;rw [List.map_nil] at r;cases r;exact .nil
 | cons n ns ih =>
  intro us r
  rw [List.map_cons] at r
  cases r with
  | cons r1 r2 =>
   obtain ⟨t,e⟩:=r1
   subst e
   exact .cons n t (ih r2)
section
variable {X:Cx}{e:Expr}{te:TE}{lo hi:Option Expr}{tl th:TO}{pos p2:Pos}
theorem po_none:PO X none tNoPart:=by
 intro pins s σ H Q I h
 rw [evalPart_none]
 exact wpAny_pure ⟨none,H,I,.none,h⟩
theorem po_some (h:PE X e te):PO X (some e) (tPart te):=by
 intro pins s σ H Q I hw
 rw [evalPart_some]
 refine thn (h pins s σ H _ I hw) λ u s1 ⟨x,H1,I1,r1,q1⟩=>?_
 obtain ⟨i,rfl,q⟩:=q1
 obtain ⟨t,rfl⟩:=r1
 exact ⟨some i,H1,I1,.int i t,q⟩
def SlR (X:Cx) (r:V->Option Int->Option Int->Hp->VK->Prop):Prop :=
 ∀(pins:List (Addr × Obj)) (s:Shared) (σ:St) (H:Hp) (x:V) (v vl vu:Value) (lo hi:Option Int) (sl:Addr) (Q:VK),Inv X pins σ H s->RelV x v->s.heap.IsSliceOf sl vl vu .none->IsPart vl lo->IsPart vu hi->r x lo hi H Q ->
  ∃T id,typeLookup (.type T) "__getitem__" = pure (some (.builtin id))/\s.TypeIs v T/\wpAny (model X.prog X.w) X.A (getItem v (.ref sl)) (EP X pins σ Q) X.xe s
theorem SlR.or {r r':V->Option Int->Option Int->Hp->VK->Prop}(h:SlR X r) (h':SlR X r'):SlR X (λ x lo hi H Q=>r x lo hi H Q\/r' x lo hi H Q):=by
 intro pins s σ H x v vl vu lo hi sl Q I rx hs pl pu q
 rcases q with q | q
 ·exact h pins s σ H x v vl vu lo hi sl Q I rx hs pl pu q
 ·exact h' pins s σ H x v vl vu lo hi sl Q I rx hs pl pu q
def tSl (r:V->Option Int->Option Int->Hp->VK->Prop) (te:TE) (tl th:TO):TE:=λ σ H Q=>te σ H λ x H1=>tl σ H1 λ l H2=>th σ H2 λ u H3=>r x l u H3 Q
theorem pe_slice {r:V->Option Int->Option Int->Hp->VK->Prop}(hr:SlR X r) (he:PE X e te) (hl:PO X lo tl) (hu:PO X hi th):PE X (.Subscript e (.Slice lo hi none p2) pos) (tSl r te tl th):=by
 intro pins s σ H Q I h
 refine Subscript_ (thn (he pins s σ H _ I h) λ v s1 ⟨x,H1,I1,r1,q1⟩=>?_)
 refine wpAny_Slice (thn (hl pins s1 σ H1 _ I1 q1) λ vl s2 ⟨l,H2,I2,pl,q2⟩=>thn (hu pins s2 σ H2 _ I2 q2) λ vu s3 ⟨u,H3,I3,pu,q3⟩=>?_)
 rw [evalPart_none]
 refine wpAny_pure ?_
 have I4:Inv X pins σ H3 { s3 with heap:=s3.heap.push { cls:=.type "slice",data:=.fields #[vl,vu,.none] } }:=I3.kept (t':=s3.toks) λ b ob q=>Heap.get?_push_of_some _ q
 obtain ⟨T,id,hT,ht,hg⟩:=hr pins { s3 with heap:=s3.heap.push { cls:=.type "slice",data:=.fields #[vl,vu,.none] } } σ H3 x v vl vu l u s3.heap.objs.size Q I4 r1 (Heap.IsSliceOf.new ..) pl pu q3
 show wpAny (model X.prog X.w) X.A (subscriptTail e (.Slice lo hi none p2) v (.ref s3.heap.objs.size)) (EP X pins σ Q) X.xe { s3 with heap:=s3.heap.push { cls:=.type "slice",data:=.fields #[vl,vu,.none] } }
 exact tail_any (ops:=[.ref s3.heap.objs.size,v]) ht hT hg (by with_unfolding_all rfl)
def cutV (xs:List V) (lo hi:Option Int):List V:=(xs.drop (HT.sIx xs.length 0 lo)).take (HT.sIx xs.length xs.length hi - HT.sIx xs.length 0 lo)
theorem cutV_length (xs:List V) (lo hi:Option Int):(cutV xs lo hi).length≤xs.length:=by
 unfold cutV
 rw [List.length_take,List.length_drop]
 omega
def rSlT (K:W.Frag):V->Option Int->Option Int->Hp->VK->Prop:=λ x lo hi H Q=>∃a xs,x=.ref a/\SqT K H a xs /\
 ¬(HT.sIx xs.length 0 lo=0/\HT.sIx xs.length xs.length hi=xs.length)/\∀p,H p=none->Q (.ref p) (upd H p (.tup (cutV xs lo hi)))
theorem sl_tup:SlR X (rSlT X.K):=by
 intro pins s σ H x v vl vu lo hi sl Q I rx hs pl pu h
 obtain ⟨a,xs,rfl,hx,hw,q⟩:=h
 cases rx
 obtain ⟨its,r,ht,hz⟩:=I.tuple hx
 have hlen:its.toArray.size=xs.length:=by rw [List.size_toArray];exact r.length.symm
 refine ⟨"tuple",_,PyProof.Rows.slot_tuple_getitem.lookup,ht.typeIs,?_⟩
 refine HT.getItem_tuple_cut ht hs pl pu (by rw [hlen];exact hw) ?_ (by rw [hlen];exact hz)
 rw [hlen]
 refine ⟨.ref s.heap.objs.size,_,I.laid (t':=s.toks) (o:=.tup (cutV xs lo hi)) (λ b ob q=>Heap.get?_push_of_some _ q) (Nat.le_refl _) ?_,rfl,q _ (I.hok.fresh (Nat.le_refl _))⟩
 exact ⟨Nat.le_trans (cutV_length xs lo hi) hz,_,(r.drop (HT.sIx xs.length 0 lo)).take (HT.sIx xs.length xs.length hi - HT.sIx xs.length 0 lo),IsTup.new _ _⟩
def rCatT (K:W.Frag):R2:=λ x y H Q=>∃a b xs ys,x=.ref a/\y=.ref b/\SqT K H a xs/\SqT K H b ys/\xs≠[]/\xs.length+ys.length≤sizeLine /\
 (ys=[]->Q (.ref a) H)/\(ys≠[]->∀p,H p=none->Q (.ref p) (upd H p (.tup (xs++ys))))
theorem Vals.nil_iff {xs:List V}{us:List Value}(r:Vals xs us):us=[] ↔ xs=[]:=by
 cases r with
 | nil=>simp
 | cons _ _=>simp
theorem op_catT:OpR X (binaryOp .Add) (rCatT X.K):=by
 intro pins s σ H x y v u Q I rx ry h
 obtain ⟨a,b,xs,ys,rfl,rfl,ha,hb,hx,hz,q1,q2⟩:=h
 cases rx
 cases ry
 obtain ⟨its,r1,p1,_⟩:=I.tuple ha
 obtain ⟨its2,r2,p2,_⟩:=I.tuple hb
 refine HT.cat_tup p1 p2 (λ z=>hx (r1.nil_iff.mp z)) (λ z=>⟨.ref a,H,I,rfl,q1 (r2.nil_iff.mp z)⟩) (λ z=>?_) (by rw [← r1.length,← r2.length];exact hz)
 refine ⟨.ref s.heap.objs.size,_,I.laid (t':=s.toks) (o:=.tup (xs++ys)) (λ b ob q=>Heap.get?_push_of_some _ q) (Nat.le_refl _) ?_,rfl,q2 (λ w=>z (r2.nil_iff.mpr w)) _ (I.hok.fresh (Nat.le_refl _))⟩
 exact ⟨by rw [List.length_append];exact hz,_,r1.append r2,IsTup.new _ _⟩
end
def ixN (n:Nat) (i:Int):Option Nat:=if 0≤i then (if i < n then some i.toNat else none) else if -(n:Int)≤i then some (i+n).toNat else none
def atI {α:Type}(xs:List α) (i:Int):Option α:=(ixN xs.length i).bind λ j=>xs[j]?
theorem ixN_seq {n:Nat}{i:Int}{j:Nat}(h:ixN n i=some j):seqIndex? i n=some j/\j < n/\-(n:Int)≤i/\i < n:=by
 unfold ixN at h
 by_cases h0:0≤i
 ·rw [if_pos h0] at h
  by_cases h1:i < n
  ·rw [if_pos h1] at h
   have e:i.toNat=j:=Option.some.inj h
   exact ⟨by rw [seqIndex_of h0 h1,e],by omega,by omega,h1⟩
  ·rw [if_neg h1] at h;cases h
 ·rw [if_neg h0] at h
  by_cases h1:-(n:Int)≤i
  ·rw [if_pos h1] at h
   have e:(i+n).toNat=j:=Option.some.inj h
   exact ⟨by rw [seqIndex_neg (by omega) h1,e],by omega,h1,by omega⟩
  ·rw [if_neg h1] at h;cases h
theorem atI_get {α:Type}{xs:List α}{i:Int}{v:α}(h:atI xs i=some v):∃j,seqIndex? i xs.length=some j/\xs[j]?=some v/\j < xs.length/\-(xs.length:Int)≤i/\i < xs.length:=by
 unfold atI at h
 cases e:ixN xs.length i with
 | none=>rw [e] at h;cases h
 | some j =>
  rw [e] at h
  obtain ⟨h1,h2,h3,h4⟩:=ixN_seq e
  exact ⟨j,h1,h,h2,h3,h4⟩
theorem atI_nat {α:Type}{xs:List α}{j:Nat}{v:α}(h:xs[j]?=some v):atI xs (j:Int)=some v:=by
 have hj:j < xs.length:=(List.getElem?_eq_some_iff.mp h).1
 have e:ixN xs.length (j:Int)=some j:=by
  unfold ixN
  rw [if_pos (by omega),if_pos (by omega)];simp
 unfold atI;rw [e];exact h
def PlainIx (b:Expr):Prop:=∀o i,subscripted b false o i=operate [o,i] (getItem o i)
def IxR (X:Cx) (r:R2):Prop :=
 ∀(value slice:Expr) (pins:List (Addr × Obj)) (s:Shared) (σ:St) (H:Hp) (x y:V) (v u:Value) (Q:VK),Inv X pins σ H s->RelV x v->RelV y u->r x y H Q ->
  subscripted slice false v u=operate [v,u] (getItem v u)->wpAny (model X.prog X.w) X.A (subscriptTail value slice v u) (EP X pins σ Q) X.xe s
def MtR (X:Cx) (id:String) (r:V->List V->Hp->VK->Prop):Prop :=
 ∀(pins:List (Addr × Obj)) (s:Shared) (σ:St) (H:Hp) (x:V) (xs:List V) (v:Value) (us:List Value) (Q:VK),Inv X pins σ H s->RelV x v->Vals xs us->r x xs H Q ->
  wpAny (model X.prog X.w) X.A (call (.builtin id) (v::us)) (EP X pins σ Q) X.xe s
section
variable {X:Cx}{a b:Expr}{ta tb:TE}{pos:Pos}
theorem IxR.or {r r':R2}(h:IxR X r) (h':IxR X r'):IxR X (λ x y H Q=>r x y H Q\/r' x y H Q):=by
 intro value slice pins s σ H x y v u Q I rx ry q hs
 rcases q with q | q
 ·exact h value slice pins s σ H x y v u Q I rx ry q hs
 ·exact h' value slice pins s σ H x y v u Q I rx ry q hs
theorem MtR.or {id:String}{r r':V->List V->Hp->VK->Prop}(h:MtR X id r) (h':MtR X id r'):MtR X id (λ x xs H Q=>r x xs H Q\/r' x xs H Q):=by
 intro pins s σ H x xs v us Q I rx rs q
 rcases q with q | q
 ·exact h pins s σ H x xs v us Q I rx rs q
 ·exact h' pins s σ H x xs v us Q I rx rs q
theorem pe_ix {r:R2}(hr:IxR X r) (ha:PE X a ta) (hb:PE X b tb) (hs:PlainIx b):PE X (.Subscript a b pos) (tOp r ta tb):=by
 intro pins s σ H Q I h
 exact Subscript_ (binT ha hb I h λ v u s2 x y H2 I2 rx ry q=>hr a b pins s2 σ H2 x y v u Q I2 rx ry q (hs _ _))
def rIxL (K:W.Frag):R2:=λ x y H Q=>∃p xs i v,x=.ref p/\y=.int i/\SqL K H p xs/\atI xs i=some v/\Q v H
def rIxT (K:W.Frag):R2:=λ x y H Q=>∃p xs i v,x=.ref p/\y=.int i/\SqT K H p xs/\atI xs i=some v/\Q v H
theorem ix_list:IxR X (rIxL X.K):=by
 intro value slice pins s σ H x y v u Q I rx ry h hs
 obtain ⟨p,xs,i,z,rfl,rfl,hq,he,q⟩:=h
 cases rx
 obtain ⟨t,rfl⟩:=ry
 obtain ⟨its,r,pl,hz⟩:=I.list hq
 obtain ⟨j,h1,h2,h3,h4,h5⟩:=atI_get he
 obtain ⟨w,ew,rw'⟩:=r.get h2
 have hl:=r.length
 have hn:=line63
 have fin:EP X pins σ Q w s:=⟨z,H,I,rw',q⟩
 by_cases h0:0≤i
 ·have hj:i.toNat=j:=by
   rw [seqIndex_of h0 h5] at h1
   exact Option.some.inj h1
  exact item_listR pl.isList h0 (by omega) (by rw [hj];simpa using ew) fin hs
 ·have hj:(i+(its.toArray.size:Int)).toNat=j:=by
   rw [seqIndex_neg (by omega) h4] at h1
   rw [List.size_toArray,← hl]
   exact Option.some.inj h1
  exact subscriptTail_builtinR (x:=w) pl.isList.typeIs slot_list_getitem.lookup
   (wpAny_getItem_list_neg (Q:=λ r s'=>r=w/\EP X pins σ Q r s') pl.isList (by omega) (by rw [List.size_toArray]<;>omega) (by omega) (by rw [hj];simpa using ew) ⟨rfl,fin⟩) hs
theorem ix_tup:IxR X (rIxT X.K):=by
 intro value slice pins s σ H x y v u Q I rx ry h hs
 obtain ⟨p,xs,i,z,rfl,rfl,hq,he,q⟩:=h
 cases rx
 obtain ⟨t,rfl⟩:=ry
 obtain ⟨its,r,pl,hz⟩:=I.tuple hq
 obtain ⟨j,h1,h2,h3,h4,h5⟩:=atI_get he
 obtain ⟨w,ew,rw'⟩:=r.get h2
 have hl:=r.length
 have hn:=line63
 have fin:EP X pins σ Q w s:=⟨z,H,I,rw',q⟩
 exact subscriptTail_builtinR (x:=w) pl.typeIs slot_tuple_getitem.lookup
  (getItem_tuple (j:=j) (Q:=λ r s'=>r=w/\EP X pins σ Q r s') pl (by omega) (by omega) (by rw [List.size_toArray,← hl];exact h1) (by simpa using ew) ⟨rfl,fin⟩) hs
theorem mapSeq_set (its:List Value) (n j:Nat) (u:Value):Obj.mapSeq (·.setIfInBounds j u) { cls:=.type "list",data:=.seq its.toArray n }={ cls:=.type "list",data:=.seq (its.set j u).toArray n }:=by
 simp [Obj.mapSeq]
theorem Inv.lst {pins:List (Addr × Obj)}{σ:St}{H:Hp}{s:Shared}{p:Addr}{xs:List V}(I:Inv X pins σ H s) (h:H p=some (.lst xs)) :
  ∃(its:List Value) (n:Nat),Vals xs its/\s.heap.get? p=some { cls:=.type "list",data:=.seq its.toArray n }/\xs.length≤sizeLine:=by
 obtain ⟨z,its,n,r,e⟩:=I.hok p _ h
 exact ⟨its,n,r,e,z⟩
theorem Inv.lstUpd {pins:List (Addr × Obj)}{σ:St}{H:Hp}{s:Shared}{p:Addr}{xs ys:List V}{its its':List Value}{n n':Nat}{f:Obj->Obj}(I:Inv X pins σ H s) (h:H p=some (.lst xs))
  (ho:s.heap.get? p=some { cls:=.type "list",data:=.seq its.toArray n }) (hf:f { cls:=.type "list",data:=.seq its.toArray n }={ cls:=.type "list",data:=.seq its'.toArray n' }) (r:Vals ys its') (hz:ys.length≤sizeLine) (t:Nat) :
  Inv X pins σ (upd H p (.lst ys)) { s with heap:=s.heap.update p f,toks:=t }:=by
 have e:(s.heap.update p f).get? p=some { cls:=.type "list",data:=.seq its'.toArray n' }:=by
  rw [Heap.get?_update_self f ho (by rw [hf]<;>rfl),hf]
 refine I.write (x:=p) (e:=p) (by rw [h];trivial) (.inl rfl) (λ b u hb q=>(Heap.get?_update_other _ _ (Ne.symm hb)).trans q) ⟨_,e⟩ ?_
 exact ⟨hz,its',n',r,e⟩
def rSetL:V->V->V->Hp->(Hp->Prop)->Prop:=λ o i v H Q=>∃p xs k j,o=.ref p/\i=.int k/\H p=some (.lst xs)/\ixN xs.length k=some j/\Q (upd H p (.lst (xs.set j v)))
theorem set_list:PSet X rSetL:=by
 intro pins s σ H o i v ov iv u Q I ro ri rv h
 obtain ⟨p,xs,k,j,rfl,rfl,hp,hj,q⟩:=h
 cases ro
 obtain ⟨t,rfl⟩:=ri
 obtain ⟨its,n,r,ho,hz⟩:=I.lst hp
 obtain ⟨h1,h2,h3,h4⟩:=ixN_seq hj
 have hl:=r.length
 have hn:=line63
 have I':Inv X pins σ (upd H p (.lst (xs.set j v))) { s with heap:=s.heap.update p (Obj.mapSeq (·.setIfInBounds j u)) } :=
  I.lstUpd hp ho (mapSeq_set its n j u) (r.set rv j) (by rw [List.length_set];exact hz) s.toks
 by_cases h0:0≤k
 ·have hk:k.toNat=j:=by
   rw [seqIndex_of h0 h4] at h1
   exact Option.some.inj h1
  exact W.ki_setAt ho h0 (by omega) (by rw [List.size_toArray,← hl];exact h4) (by rw [hk];exact ⟨_,I',q⟩)
 ·have hk:(k+(its.toArray.size:Int)).toNat=j:=by
   rw [seqIndex_neg (by omega) h3] at h1
   rw [List.size_toArray,← hl]
   exact Option.some.inj h1
  exact W.ki_setBack ho (by omega) (by rw [List.size_toArray,← hl];exact h3) (by omega) (by rw [hk];exact ⟨_,I',q⟩)
theorem slice_bounds (lo hi:Option Int) (n:Nat):(sliceBounds lo hi none n).1=((HT.sIx n 0 lo:Nat):Int)/\(sliceBounds lo hi none n).2.1=((HT.sIx n n hi:Nat):Int)/\(sliceBounds lo hi none n).2.2=1:=by
 refine ⟨?_,?_,rfl⟩
 ·cases lo with
  | none=>simp [sliceBounds,HT.sIx]
  | some i =>
   simp only [sliceBounds,HT.sIx,Option.getD_none,show (1:Int) > 0 by decide,if_true]
   by_cases h:i < 0
   ·simp only [h,if_true]<;>omega
   ·simp only [h,if_false]<;>omega
 ·cases hi with
  | none=>simp [sliceBounds,HT.sIx]
  | some i =>
   simp only [sliceBounds,HT.sIx,Option.getD_none,show (1:Int) > 0 by decide,if_true]
   by_cases h:i < 0
   ·simp only [h,if_true]<;>omega
   ·simp only [h,if_false]<;>omega
theorem slicePick_cut (its:List Value) (lo hi:Option Int):slicePick its.toArray lo hi none=((its.drop (HT.sIx its.length 0 lo)).take (HT.sIx its.length its.length hi - HT.sIx its.length 0 lo)).toArray:=by
 obtain ⟨h1,h2,h3⟩:=slice_bounds lo hi its.toArray.size
 unfold slicePick
 rw [h1,h2,h3]
 simp only [sliceRange_one,pick_run,List.size_toArray]<;>rfl
def rSlL (K:W.Frag):V->Option Int->Option Int->Hp->VK->Prop:=λ x lo hi H Q=>∃a xs,x=.ref a/\SqL K H a xs/\∀p,H p=none->Q (.ref p) (upd H p (.lst (cutV xs lo hi)))
theorem sl_list:SlR X (rSlL X.K):=by
 intro pins s σ H x v vl vu lo hi sl Q I rx hs pl pu h
 obtain ⟨a,xs,rfl,hx,q⟩:=h
 cases rx
 obtain ⟨its,r,ht,hz⟩:=I.list hx
 have hlen:=r.length
 refine ⟨"list",_,slot_list_getitem.lookup,ht.isList.typeIs,?_⟩
 refine wpAny_getItem_list_slice ht.isList hs pl pu .none (by simp) ?_ (by rw [List.size_toArray]<;>omega)
 rw [slicePick_cut,← hlen]
 refine ⟨.ref s.heap.objs.size,_,I.laid (t':=s.toks) (o:=.lst (cutV xs lo hi)) (λ b ob q=>Heap.get?_push_of_some _ q) (Nat.le_refl _) ?_,rfl,q _ (I.hok.fresh (Nat.le_refl _))⟩
 exact ⟨Nat.le_trans (cutV_length xs lo hi) hz,_,0,(r.drop (HT.sIx xs.length 0 lo)).take (HT.sIx xs.length xs.length hi - HT.sIx xs.length 0 lo),Heap.get?_push_size _ rfl⟩
def flatV:V->Bool
 | .non=>true
 | .bl _=>true
 | .int _=>true
 | .str _=>true
 | _=>false
def eqV:V->V->Bool
 | .non,.non=>true
 | .bl a,.bl b=>a == b
 | .bl a,.int b=>(if a then 1 else 0) == b
 | .int a,.bl b=>a == (if b then 1 else 0)
 | .int a,.int b=>a == b
 | .str a,.str b=>a == b
 | _,_=>false
theorem eqAt_V {A:Around}{s:Shared}{y x:V}{u v:Value}(ry:RelV y u) (rx:RelV x v) (fy:flatV y=true) (fx:flatV x=true):SeqAt.EqAt A s u v (eqV y x):=by
 cases y with
 | non =>
  cases ry
  cases x with
  | non=>cases rx;exact SeqAt.EqAt.same _
  | bl b=>cases rx;exact SeqAt.EqAt.none_bool b
  | int b=>obtain ⟨t,rfl⟩:=rx;exact SeqAt.EqAt.none_int b t
  | str b=>obtain ⟨t,rfl⟩:=rx;exact SeqAt.EqAt.none_str b t
  | _=>exact absurd (show false=true from fx) Bool.false_ne_true
 | bl a =>
  cases ry
  cases x with
  | non=>cases rx;exact SeqAt.EqAt.bool_none a
  | bl b=>cases rx;exact SeqAt.EqAt.bool_bool a b
  | int b=>obtain ⟨t,rfl⟩:=rx;exact SeqAt.EqAt.bool_int a b t
  | str b=>obtain ⟨t,rfl⟩:=rx;exact SeqAt.EqAt.bool_str a b t
  | _=>exact absurd (show false=true from fx) Bool.false_ne_true
 | int a =>
  obtain ⟨t',rfl⟩:=ry
  cases x with
  | non=>cases rx;exact SeqAt.EqAt.int_none a t'
  | bl b=>cases rx;exact SeqAt.EqAt.int_bool a t' b
  | int b=>obtain ⟨t,rfl⟩:=rx;exact SeqAt.EqAt.int_int a t' b t
  | str b=>obtain ⟨t,rfl⟩:=rx;exact SeqAt.EqAt.int_str a t' b t
  | _=>exact absurd (show false=true from fx) Bool.false_ne_true
 | str a =>
  obtain ⟨t',rfl⟩:=ry
  cases x with
  | non=>cases rx;exact SeqAt.EqAt.str_none a t'
  | bl b=>cases rx;exact SeqAt.EqAt.str_bool a t' b
  | int b=>obtain ⟨t,rfl⟩:=rx;exact SeqAt.EqAt.str_int a t' b t
  | str b=>obtain ⟨t,rfl⟩:=rx;exact SeqAt.EqAt.str_str a t' b t
  | _=>exact absurd (show false=true from fx) Bool.false_ne_true
 | _=>exact absurd (show false=true from fy) Bool.false_ne_true
def eqU (x:V) (u:Value):Bool:=match u with
 | .none=>eqV .non x
 | .bool b=>eqV (.bl b) x
 | .int i _=>eqV (.int i) x
 | .str z _=>eqV (.str z) x
 | _=>false
theorem eqU_of {x y:V}{u:Value}(r:RelV y u) (f:flatV y=true):eqU x u=eqV y x:=by
 cases y with
 | non=>cases r;rfl
 | bl b=>cases r;rfl
 | int i=>obtain ⟨t,rfl⟩:=r;rfl
 | str z=>obtain ⟨t,rfl⟩:=r;rfl
 | _=>exact absurd (show false=true from f) Bool.false_ne_true
theorem any_eqU {x:V}:∀ {xs:List V}{us:List Value},Vals xs us->xs.all flatV=true->us.any (eqU x)=xs.any λ y=>eqV y x
 | _,_,.nil,_=>rfl
 | y::xs,u::us,.cons r t,f=>by
  rw [List.all_cons,Bool.and_eq_true] at f
  rw [List.any_cons,List.any_cons,eqU_of r f.1,any_eqU t f.2]
theorem mem_eqAt {A:Around}{s:Shared}{x:V}{v:Value}(rx:RelV x v) (fx:flatV x=true):∀ {xs:List V}{us:List Value},Vals xs us->xs.all flatV=true->∀u∈us,SeqAt.EqAt A s u v (eqU x u)
 | _,_,.nil,_=>λ u hu=>by cases hu
 | y::xs,u::us,.cons r t,f=>λ u' hu=>by
  rw [List.all_cons,Bool.and_eq_true] at f
  rcases List.mem_cons.mp hu with rfl | hu
  ·rw [eqU_of r f.1];exact eqAt_V r rx f.1 fx
  ·exact mem_eqAt rx fx t f.2 u' hu
def inV (x:V) (xs:List V):Bool:=xs.any λ y=>eqV y x
def rIn (K:W.Frag) (neg:Bool):R2:=λ x y H Q=>∃p xs,y=.ref p/\(SqL K H p xs\/SqT K H p xs)/\flatV x=true/\xs.all flatV=true/\Q (.bl (if neg then !inV x xs else inV x xs)) H
theorem op_in_seq:OpR X (compareOp .In) (rIn X.K false):=by
 intro pins s σ H x y v u Q I rx ry h
 obtain ⟨p,xs,rfl,hq,fx,fs,q⟩:=h
 cases ry
 rcases hq with hq | hq
 ·obtain ⟨its,r,pl,hz⟩:=I.list hq
  refine SeqAt.in_listAt (eqU x) pl.isList (λ w hw=>mem_eqAt rx fx r fs w (by simpa using hw)) ⟨.bl _,H,I,rfl,?_⟩
  rw [show its.toArray.any (eqU x)=its.any (eqU x) by simp,any_eqU r fs]
  exact q
 ·obtain ⟨its,r,pl,hz⟩:=I.tuple hq
  refine SeqAt.in_tupleAt (eqU x) pl (λ w hw=>mem_eqAt rx fx r fs w (by simpa using hw)) ⟨.bl _,H,I,rfl,?_⟩
  rw [show its.toArray.any (eqU x)=its.any (eqU x) by simp,any_eqU r fs]
  exact q
theorem op_notIn_seq:OpR X (compareOp .NotIn) (rIn X.K true):=by
 intro pins s σ H x y v u Q I rx ry h
 obtain ⟨p,xs,rfl,hq,fx,fs,q⟩:=h
 cases ry
 rcases hq with hq | hq
 ·obtain ⟨its,r,pl,hz⟩:=I.list hq
  refine SeqAt.notIn_listAt (eqU x) pl.isList (λ w hw=>mem_eqAt rx fx r fs w (by simpa using hw)) ⟨.bl _,H,I,rfl,?_⟩
  rw [show its.toArray.any (eqU x)=its.any (eqU x) by simp,any_eqU r fs]
  exact q
 ·obtain ⟨its,r,pl,hz⟩:=I.tuple hq
  refine SeqAt.notIn_tupleAt (eqU x) pl (λ w hw=>mem_eqAt rx fx r fs w (by simpa using hw)) ⟨.bl _,H,I,rfl,?_⟩
  rw [show its.toArray.any (eqU x)=its.any (eqU x) by simp,any_eqU r fs]
  exact q
theorem call_len_seq:CallR X (.builtin "len") (λ xs H Q=>∃p ys,xs=[.ref p]/\(SqL X.K H p ys\/SqT X.K H p ys)/\Q (.int ys.length) H):=by
 intro pins s σ H xs us Q I r h
 obtain ⟨p,ys,rfl,hq,q⟩:=h
 obtain ⟨u,rfl,rx⟩:=vals1 r
 cases rx
 have hn:=line63
 rcases hq with hq | hq
 ·obtain ⟨its,r',pl,hz⟩:=I.list hq
  have hlen:=r'.length
  exact Calls.call_len_list pl.isList (by simp only [List.size_toArray]<;>omega) ⟨.int ys.length,H,I.tok _,⟨s.toks+1,by rw [List.size_toArray,hlen]⟩,q⟩
 ·obtain ⟨its,r',pl,hz⟩:=I.tuple hq
  have hlen:=r'.length
  exact len_tuple pl (by simp only [List.size_toArray]<;>omega) ⟨.int ys.length,H,I.tok _,⟨s.toks+1,by rw [List.size_toArray,hlen]⟩,q⟩
theorem CallR.or {f:Value}{r r':List V->Hp->VK->Prop}(h:CallR X f r) (h':CallR X f r'):CallR X f (λ xs H Q=>r xs H Q\/r' xs H Q):=by
 intro pins s σ H xs us Q I rs q
 rcases q with q | q
 ·exact h pins s σ H xs us Q I rs q
 ·exact h' pins s σ H xs us Q I rs q
theorem call_list_of:CallR X (.type "list") (λ xs H Q=>∃p ys,xs=[.ref p]/\(SqL X.K H p ys\/SqT X.K H p ys)/\∀l,H l=none->Q (.ref l) (upd H l (.lst ys))):=by
 intro pins s σ H xs us Q I r h
 obtain ⟨p,ys,rfl,hq,q⟩:=h
 obtain ⟨u,rfl,rx⟩:=vals1 r
 cases rx
 have fin:∀(its:List Value),Vals ys its->ys.length≤sizeLine->∀(h':Heap) (c':Nat),(∀b o',s.heap.get? b=some o'->h'.get? b=some o') ->
   h'.get? s.heap.objs.size=some { cls:=.type "list",dict:=none,data:=.seq its.toArray c',slots:=#[] }->EP X pins σ Q (.ref s.heap.objs.size) { s with heap:=h' }:=λ its r' hz h' c' kp e =>
  ⟨.ref s.heap.objs.size,_,I.laid (t':=s.toks) kp (Nat.le_refl _) (show ObjOk X.prog X.w _ h' _ (.lst ys) from ⟨hz,its,c',r',e⟩),rfl,q _ (I.hok.fresh (Nat.le_refl _))⟩
 rcases hq with hq | hq
 ·obtain ⟨its,r',pl,hz⟩:=I.list hq
  have hlen:=r'.length
  obtain ⟨o,ho,hc,n,hd⟩:=pl.isList
  exact call_list_seq p (.inl rfl) ho hc hd (λ h' c' kp e=>fin its r' hz h' c' kp e) (by simp only [List.size_toArray]<;>omega)
 ·obtain ⟨its,r',pl,hz⟩:=I.tuple hq
  have hlen:=r'.length
  obtain ⟨o,ho,hc,n,hd⟩:=pl
  exact call_list_seq p (.inr rfl) ho hc hd (λ h' c' kp e=>fin its r' hz h' c' kp e) (by simp only [List.size_toArray]<;>omega)
theorem call_tuple_of:CallR X (.type "tuple") (λ xs H Q=>∃p ys,xs=[.ref p]/\((SqL X.K H p ys/\∀l,H l=none->Q (.ref l) (upd H l (.tup ys)))\/(SqT X.K H p ys/\Q (.ref p) H))):=by
 intro pins s σ H xs us Q I r h
 obtain ⟨p,ys,rfl,h⟩:=h
 obtain ⟨u,rfl,rx⟩:=vals1 r
 cases rx
 rcases h with ⟨hq,q⟩ | ⟨hq,q⟩
 ·obtain ⟨its,r',pl,hz⟩:=I.list hq
  have hlen:=r'.length
  refine call_tuple_list pl.isList (λ h' kp=>?_) (by simp only [List.size_toArray]<;>omega)
  have I1:Inv X pins σ H { s with heap:=h' }:=I.kept (t':=s.toks) kp
  have I2:Inv X pins σ (upd H h'.objs.size (.tup ys)) { s with heap:=h'.push { cls:=.type "tuple",data:=.seq its.toArray } } :=
   I1.laid (t':=s.toks) (λ b o e=>Heap.get?_push_of_some _ e) (Nat.le_refl _) (show ObjOk X.prog X.w _ _ _ (.tup ys) from ⟨hz,its,r',IsTup.new _ _⟩)
  exact ⟨.ref h'.objs.size,_,I2,rfl,q _ (I1.hok.fresh (Nat.le_refl _))⟩
 ·obtain ⟨its,r',pl,hz⟩:=I.tuple hq
  exact call_tuple_same pl ⟨.ref p,H,I,rfl,q⟩
def tyV (K:W.Frag) (T:String) (x:V) (H:Hp):Prop:=match x with
 | .str _=>T = "str"
 | .int _=>T = "int"
 | .ref p=>(T = "list" /\ ∃xs,SqL K H p xs)\/(T = "tuple" /\ ∃o,K.lookup p=some o/\o.cls=.type "tuple" /\ o.dict=none) \/
   (T = "dict" /\ ((∃kvs,H p=some (.dK kvs))\/∃kvs,H p=some (.dT kvs)))\/(T = "set" /\ ∃S n,H p=some (.set S n))
 | _=>False
theorem tyV_is {pins:List (Addr × Obj)}{σ:St}{H:Hp}{s:Shared}{T:String}{x:V}{v:Value}(I:Inv X pins σ H s) (r:RelV x v) (ty:tyV X.K T x H) :
  s.TypeIs v T/\∀a,v=.ref a->∃ob,s.heap.get? a=some ob/\ob.dict=none:=by
 cases x with
 | str z =>
  obtain ⟨t,rfl⟩:=r
  cases (show T = "str" from ty)
  exact ⟨typeIs_str s z t,λ _ e=>nomatch e⟩
 | int i =>
  obtain ⟨t,rfl⟩:=r
  cases (show T = "int" from ty)
  exact ⟨typeIs_int s i t,λ _ e=>nomatch e⟩
 | ref p =>
  cases r
  rcases ty with ⟨rfl,xs,hq⟩ | ⟨rfl,o,hk,hc,hd⟩ | ⟨rfl,hk⟩ | ⟨rfl,S,n,hk⟩
  ·obtain ⟨its,_,pl,_⟩:=I.list hq
   refine ⟨pl.isList.typeIs,λ a e=>?_⟩
   cases e
   obtain ⟨o,n,e,c,hd,_⟩:=pl
   exact ⟨o,e,hd⟩
  ·refine ⟨⟨o,I.kIn p o hk,hc⟩,λ a e=>?_⟩
   cases e
   exact ⟨o,I.kIn _ o hk,hd⟩
  ·have z:∃o,s.heap.get? p=some o/\o.ExactDict:=by
    rcases hk with ⟨kvs,hk⟩ | ⟨kvs,hk⟩
    ·obtain ⟨_,_,_,_,o,_,_,e,ex,_⟩:=I.hok p _ hk
     exact ⟨o,e,ex⟩
    ·obtain ⟨_,_,_,_,o,_,_,e,ex,_⟩:=I.hok p _ hk
     exact ⟨o,e,ex⟩
   obtain ⟨o,e,ex⟩:=z
   refine ⟨⟨o,e,ex.1⟩,λ a e2=>?_⟩
   cases e2
   exact ⟨o,e,ex.2.1⟩
  ·obtain ⟨o,_,_,_,e,ex,_⟩:=I.hok p _ hk
   refine ⟨⟨o,e,ex.1⟩,λ a e2=>?_⟩
   cases e2
   exact ⟨o,e,ex.2.1⟩
 | _=>exact False.elim ty
def tBM0 (K:W.Frag) (T:String) (r:V->List V->Hp->VK->Prop) (to:TE):TE:=λ σ H Q=>to σ H λ x H1=>tyV K T x H1/\r x [] H1 Q
def tBM (K:W.Frag) (T:String) (r:V->List V->Hp->VK->Prop) (to:TE) (t:TA):TE:=λ σ H Q=>to σ H λ x H1=>tyV K T x H1/\t σ H1 λ xs H2=>r x xs H2 Q
variable {o e:Expr}{es:List Expr}{to:TE}{t:TA}{name:Str}{apos cpos:Pos}{T id:String}{r:V->List V->Hp->VK->Prop}
theorem pe_bm0 (pa:PlainAttrs T) (slot:Slot T name id) (hty:typeOf (.builtin id)=pure (.type "method_descriptor")) (hm:MtR X id r) (ho:PE X o to)
  (hbase:attributeBase o name X.env (eval o X.env)=eval o X.env:=by rfl) (hline:(apos.endLine == cpos.line)=true:=by rfl):PE X (.Call (.Attribute o name apos) [] [] cpos) (tBM0 X.K T r to):=by
 intro pins s σ H Q I h
 refine wpAny_Call_method0_late hbase hline (thn (ho pins s σ H _ I h) λ v s1 ⟨x,H1,I1,r1,ty,q1⟩=>?_)
 obtain ⟨h1,h2⟩:=tyV_is I1 r1 ty
 exact ⟨T,id,pa,slot,hty,h1,h2,Calls.callWith_builtin rfl (PySem.evalArgs_none (hm pins s1 σ H1 x [] v [] Q I1 r1 .nil q1))⟩
theorem pe_bm (pa:PlainAttrs T) (slot:Slot T name id) (hty:typeOf (.builtin id)=pure (.type "method_descriptor")) (hm:MtR X id r) (ho:PE X o to) (ha:PA X (e::es) t)
  (hbase:attributeBase o name X.env (eval o X.env)=eval o X.env:=by rfl)
  (hfew:((backTo cpos (starEach (e::es) X.env)).all (λ x=>!x.1) && (backToKw cpos (keywordEach [] X.env)).all (λ x=>x.1.isSome)
   && decide ((e::es).length+([]:List Keyword).length+(if ([]:List Keyword).isEmpty then 0 else 1) < 30))=true:=by rfl)
  (hline:(apos.endLine == cpos.line)=true:=by rfl) (hs:starEach (e::es) X.env=(false,eval e X.env)::starEach es X.env:=by rfl) (hplain:(backTo cpos (starEach es X.env)).any (·.1)=false:=by rfl) :
  PE X (.Call (.Attribute o name apos) (e::es) [] cpos) (tBM X.K T r to t):=by
 intro pins s σ H Q I h
 refine wpAny_Call_method_late hbase hfew hline rfl (thn (ho pins s σ H _ I h) λ v s1 ⟨x,H1,I1,r1,ty,q1⟩=>?_)
 obtain ⟨h1,h2⟩:=tyV_is I1 r1 ty
 refine ⟨T,id,pa,slot,hty,h1,h2,?_⟩
 have hA:=ha cpos pins s1 σ H1 _ I1 q1
 rw [hs] at hA ⊢
 refine Calls.callWith_builtin (by show (false || (backTo cpos (starEach es X.env)).any (·.1))=false;rw [hplain]<;>rfl) (Calls.evalArgs_plain ?_)
 exact thn hA λ us s2 ⟨vs,H2,I2,r2,q2⟩=>hm pins s2 σ H2 x vs v us Q I2 r1 r2 q2
end
def MtM (X:Cx) (id:String) (r:V->List V->Hp->VK->Prop):Prop :=
 ∀(pins:List (Addr × Obj)) (s:Shared) (σ:St) (H:Hp) (x:V) (xs:List V) (v:Value) (us:List Value) (Q:VK),Inv X pins σ H s->RelV x v->Vals xs us->r x xs H Q ->
  wpAny (model X.prog X.w) X.A (call (.builtin id) (v::us)) (EP X pins σ Q) X.xe s
theorem Vals.one:∀ {x:V}{us:List Value},Vals [x] us->∃u,us=[u]/\RelV x u
 | _,_,.cons r .nil=>⟨_,rfl,r⟩
theorem Vals.zero:∀ {us:List Value},Vals [] us->us=[]
 | _,.nil=>rfl
theorem Vals.dropLast {xs:List V}{us:List Value}(h:Vals xs us):Vals xs.dropLast us.dropLast:=by
 induction h with
 | nil=>exact .nil
 | cons r t ih =>
  cases t with
  | nil=>exact .nil
  | cons q t'=>exact .cons r ih
theorem Vals.eraseIdx:∀ {xs:List V}{us:List Value}(i:Nat),Vals xs us->Vals (xs.eraseIdx i) (us.eraseIdx i)
 | _,_,_,.nil=>.nil
 | _,_,0,.cons _ t=>t
 | _,_,i+1,.cons r t=>.cons r (Vals.eraseIdx i t)
theorem Vals.reverse {xs:List V}{us:List Value}(h:Vals xs us):Vals xs.reverse us.reverse:=by
 induction h with
 | nil=>exact .nil
 | cons r t ih=>rw [List.reverse_cons,List.reverse_cons];exact Vals.append ih (.cons r .nil)
theorem Vals.rep {xs:List V}{us:List Value}(h:Vals xs us):∀k:Nat,Vals (List.replicate k xs).flatten (List.replicate k us).flatten
 | 0=>.nil
 | k+1=>by
  rw [List.replicate_succ,List.replicate_succ,List.flatten_cons,List.flatten_cons]
  exact Vals.append h (Vals.rep h k)
theorem len_erase {α:Type}:∀(l:List α) (i:Nat),(l.eraseIdx i).length≤l.length
 | [],_=>Nat.le_refl _
 | _::_,0=>Nat.le_succ _
 | _::r,i+1=>Nat.succ_le_succ (len_erase r i)
theorem foldl_rep (its:List Value):∀(k:Nat) (acc:List Value),
  List.foldl (λ x1 x2=>x1++x2) acc.toArray (List.replicate k its.toArray)=(acc++(List.replicate k its).flatten).toArray
 | 0,acc=>by simp
 | k+1,acc=>by
  have e:acc.toArray++its.toArray=(acc++its).toArray:=by simp
  have e2:(acc++its)++(List.replicate k its).flatten=acc++(List.replicate (k+1) its).flatten:=by
   rw [List.replicate_succ,List.flatten_cons,List.append_assoc]
  rw [← e2,← foldl_rep its k (acc++its),← e,List.replicate_succ,List.foldl_cons]
section
variable {X:Cx}{pins:List (Addr × Obj)}{σ:St}{H:Hp}{s:Shared}{l b:Addr}{xs ys zs:List V}
theorem Inv.lset {its its':List Value}{n:Nat}{f:Array Value->Array Value}{t':Nat}(I:Inv X pins σ H s) (hH:H l=some (.lst xs))
  (e:s.heap.get? l=some { cls:=.type "list",data:=.seq its.toArray n }) (hf:f its.toArray=its'.toArray) (hv:Vals ys its') (hz:ys.length≤sizeLine) :
  Inv X pins σ (upd H l (.lst ys)) { s with heap:=s.heap.update l (Obj.mapSeq f),toks:=t' }:=by
 have q:=PySem.IsL.update e f
 rw [hf] at q
 refine I.write (x:=l) (e:=l) (by rw [hH];exact trivial) (.inl rfl) (λ b' u hb hu=>(Heap.get?_update_other s.heap (Obj.mapSeq f) (Ne.symm hb)).trans hu) ⟨_,q⟩ ?_
 exact ⟨hz,its',_,hv,q⟩
theorem Inv.lnew {its:List Value}{t':Nat}(I:Inv X pins σ H s) (hv:Vals ys its) (hz:ys.length≤sizeLine) :
  Inv X pins σ (upd H s.heap.objs.size (.lst ys)) { s with heap:=s.heap.push { cls:=.type "list",data:=.seq its.toArray },toks:=t' } :=
 I.laid (λ _ _ q=>Heap.get?_push_of_some _ q) (Nat.le_refl _) ⟨hz,its,0,hv,Heap.get?_push_size _ rfl⟩
theorem Inv.fresh (I:Inv X pins σ H s):H s.heap.objs.size=none:=I.hok.fresh (Nat.le_refl _)
theorem Inv.lstM (I:Inv X pins σ H s) (hH:H l=some (.lst xs)):xs.length≤sizeLine/\∃(its:List Value) (n:Nat),Vals xs its/\xs.length=its.length/\s.heap.get? l=some { cls:=.type "list",data:=.seq its.toArray n }:=by
 obtain ⟨z,its,n,r,e⟩:=I.hok l _ hH
 exact ⟨z,its,n,r,r.length,e⟩
theorem notLongL {n:Nat}(h:n≤sizeLine):Builtin.List.listTooLong n=false:=by
 unfold Builtin.List.listTooLong
 exact decide_eq_false (by omega)
end
section
variable {X:Cx}
def rAppend:V->List V->Hp->VK->Prop:=λ x vs H Q=>∃l xs y,x=.ref l/\vs=[y]/\H l=some (.lst xs)/\xs.length < sizeLine/\Q .non (upd H l (.lst (xs++[y])))
theorem mt_append:MtM X "list.append" rAppend:=by
 intro pins s σ H x vs v us Q I rx rv h
 obtain ⟨l,xs,y,rfl,rfl,hH,hz,q⟩:=h
 cases rx
 obtain ⟨u,rfl,ru⟩:=rv.one
 obtain ⟨z,its,n,r,hl,e⟩:=I.lstM hH
 refine call_meets F.slot_list_append ⟨_,e,rfl⟩ F.entry_list_append (F.args_list_append_2 _ _) (PySem.list_append l its.toArray n u (by rw [List.size_toArray];omega)) ⟨e,?_⟩
 refine ⟨.non,_,I.lset (its':=its++[u]) hH e (by simp) (r.append (.cons ru .nil)) ?_,rfl,q⟩
 rw [List.length_append,List.length_singleton]
 omega
def rExtend:V->List V->Hp->VK->Prop:=λ x vs H Q=>∃l b xs zs,x=.ref l/\vs=[.ref b]/\H l=some (.lst xs)/\H b=some (.lst zs)/\xs.length+zs.length≤sizeLine/\Q .non (upd H l (.lst (xs++zs)))
def rPopAt:V->List V->Hp->VK->Prop:=λ x vs H Q=>∃l xs i k y,x=.ref l/\vs=[.int i]/\H l=some (.lst xs)/\-(2 ^ 63)≤i/\i < 2 ^ 63/\seqIndex? i xs.length=some k/\xs[k]?=some y/\Q y (upd H l (.lst (xs.eraseIdx k)))
theorem mt_popAt:MtM X "list.pop" rPopAt:=by
 intro pins s σ H x vs v us Q I rx rv h
 obtain ⟨l,xs,i,k,y,rfl,rfl,hH,h1,h2,hk,hy,q⟩:=h
 cases rx
 obtain ⟨u,rfl,ru⟩:=rv.one
 obtain ⟨t,rfl⟩:=ru
 obtain ⟨z,its,n,r,hl,e⟩:=I.lstM hH
 obtain ⟨w,hw,rw'⟩:=r.get hy
 refine call_meets F.slot_list_pop ⟨_,e,rfl⟩ F.entry_list_pop (F.args_list_pop_2 _ _)
  (MeetsSeq.list_pop_at l its.toArray n i t k w (fitsIndex_both h1 h2) (by rw [List.size_toArray,← hl];exact hk) (by rw [← Array.getElem?_toList];exact hw) (by rw [List.size_toArray];omega)) ⟨e,?_⟩
 refine ⟨y,_,I.lset (its':=its.eraseIdx k) hH e ?_ (r.eraseIdx k) ?_,rw',q⟩
 ·show its.toArray.eraseIdxIfInBounds k=(its.eraseIdx k).toArray
  rw [List.eraseIdxIfInBounds_toArray]
 ·have:=len_erase xs k
  omega
def rClear:V->List V->Hp->VK->Prop:=λ x vs H Q=>∃l xs,x=.ref l/\vs=[]/\H l=some (.lst xs)/\Q .non (upd H l (.lst []))
theorem mt_clear:MtM X "list.clear" rClear:=by
 intro pins s σ H x vs v us Q I rx rv h
 obtain ⟨l,xs,rfl,rfl,hH,q⟩:=h
 cases rx
 have hus:=rv.zero
 subst hus
 obtain ⟨z,its,n,r,hl,e⟩:=I.lstM hH
 refine call_meets F.slot_list_clear ⟨_,e,rfl⟩ F.entry_list_clear (F.args_list_clear_1 _) (AutoSeq1.list_clear_list_0 l its.toArray n (by rw [List.size_toArray];omega)) ⟨e,?_⟩
 exact ⟨.non,_,I.lset (its':=[]) (ys:=[]) hH e rfl .nil (Nat.zero_le _),rfl,q⟩
def rCat:R2:=λ x y H Q=>∃l b xs zs,x=.ref l/\y=.ref b/\H l=some (.lst xs)/\H b=some (.lst zs)/\xs.length+zs.length≤sizeLine/\∀p,H p=none->Q (.ref p) (upd H p (.lst (xs++zs)))
theorem op_cat:OpR X (binaryOp .Add) rCat:=by
 intro pins s σ H x y v u Q I rx ry h
 obtain ⟨l,b,xs,zs,rfl,rfl,hH,hB,hz,q⟩:=h
 cases rx
 cases ry
 obtain ⟨z,its,n,r,hl,e⟩:=I.lstM hH
 obtain ⟨z2,its2,n2,r2,hl2,e2⟩:=I.lstM hB
 refine PySem.P.add_list e e2 ?_ (by rw [List.size_toArray,List.size_toArray];omega)
 have ea:its.toArray++its2.toArray=(its++its2).toArray:=by simp
 rw [ea]
 exact ⟨.ref _,_,I.lnew (t':=s.toks) (r.append r2) (by rw [List.length_append];omega),rfl,q _ I.fresh⟩
def rRep:R2:=λ x y H Q=>∃l k xs,x=.ref l/\y=.int k/\H l=some (.lst xs)/\-(2 ^ 63)≤k/\k < 2 ^ 63/\xs.length * k.toNat≤sizeLine /\
 ∀p,H p=none->Q (.ref p) (upd H p (.lst (List.replicate k.toNat xs).flatten))
theorem len_rep {α:Type}(xs:List α) (k:Nat):(List.replicate k xs).flatten.length=k * xs.length:=by
 induction k with
 | zero=>simp
 | succ k ih=>rw [List.replicate_succ,List.flatten_cons,List.length_append,ih,Nat.succ_mul,Nat.add_comm]
theorem op_rep:OpR X (binaryOp .Mult) rRep:=by
 intro pins s σ H x y v u Q I rx ry h
 obtain ⟨l,k,xs,rfl,rfl,hH,h1,h2,hz,q⟩:=h
 cases rx
 obtain ⟨t,rfl⟩:=ry
 obtain ⟨z,its,n,r,hl,e⟩:=I.lstM hH
 have hlen:its.toArray.size * k.toNat≤sizeLine:=by rw [List.size_toArray,← hl];exact hz
 have hcap:¬its.toArray.size * k.toNat > (2 ^ 63 - 1) / 8:=by
  have:(sizeLine:Nat)≤(2 ^ 63 - 1) / 8:=by decide
  omega
 have hfit:¬(!Builtin.List.listFitsIndex k)=true:=by
  rw [fitsIndex_both h1 h2]
  exact Bool.false_ne_true
 have hlong:¬Builtin.List.listTooLong (its.toArray.size * k.toNat)=true:=by
  rw [notLongL hlen]
  exact Bool.false_ne_true
 have hnew:List.foldl (λ x1 x2=>x1++x2) #[] (List.replicate (if its.toArray.isEmpty=true then 0 else k.toNat) its.toArray)=(List.replicate k.toNat its).flatten.toArray:=by
  have f0:∀m:Nat,List.foldl (λ x1 x2=>x1++x2) #[] (List.replicate m its.toArray)=(List.replicate m its).flatten.toArray:=λ m=>by
   have:=foldl_rep its m []
   rw [List.nil_append] at this
   exact this
  rw [f0]
  cases its with
  | nil=>simp
  | cons a r'=>rw [if_neg (by simp)]
 refine wpAny_binaryOp_repeat_ref (T := "list") (U := "int") (by decide) ⟨_,e,rfl⟩ (λ s'=>typeIs_int s' k t) noFill_list_mul F.fills_int_mul F.slot_int_rmul repeat_list F.slot_int_index.lookup
  (call_meets F.slot_int_rmul (typeIs_int s k t) F.entry_int_rmul (F.args_int_rmul_2 _ _) (int___rmul___int_list k t l its.toArray n)
   ⟨e,rfl,⟨_,e,rfl⟩,call_meets F.slot_list_mul ⟨_,e,rfl⟩ F.entry_list_mul (F.args_list_mul_2 _ _) (AutoListH.list___mul___list_int_3 l its.toArray n k t hfit hcap hlong) ⟨e,?_⟩⟩)
 rw [hnew]
 exact ⟨.ref _,_,I.lnew (t':=s.toks) (r.rep k.toNat) (by rw [len_rep,Nat.mul_comm];exact hz),rfl,q _ I.fresh⟩
end
section
variable {prog:Program}{w:World}{A:Around}{E:Value->Shared->Prop}{s:Shared}
end
section
variable {X:Cx}
end
end L2
namespace Att
open PySem PySem.W PySem.Calls PyProof.Rows
theorem ints_of_wellAll {P:Params}{h:Heap}:∀(ns:List Int) (vs:List Value),WellAll P h vs (ns.map WData.int)->IntsAre vs ns:=by
 intro ns
 induction ns with
 | nil =>
  intro vs w
  rw [List.map_nil] at w
  cases w
  exact .nil
 | cons n ns ih =>
  intro vs w
  rw [List.map_cons] at w
  cases w with
  | cons a b =>
   cases a
   exact .cons _ _ (ih _ b)
theorem script_of {l:OpenLaw}{n:Nat}(hn:l.most=some n) {P:Params}{h:Heap}{args:List WData}{vals:List Value}
  (hpre:l.row.toRowW.claim.pre args=true) (hwl:WellAll P h vals args) :
  ∃a vs ns,vals=[Value.ref a]/\args=[WData.list (ns.map WData.int)]/\h.get? a=some { cls:=.type "list",data:=.seq vs.toArray }/\IntsAre vs ns/\ns.length≤n:=by
 have hsh:WShape.hasAll [] args [.list .int]=true:=(pre_splitW hpre).1
 have hc:l.pre.holds [] { args:=args }=true:=(pre_splitW hpre).2
 obtain ⟨d,r,rfl,h1,h2⟩:=hasAllW_cons hsh
 obtain rfl:=hasAllW_nil h2
 obtain ⟨xs,rfl,h3⟩:=hasW_list h1
 obtain ⟨ns,rfl⟩:=items_int h3
 have hlen:ns.length≤n:=by
  unfold OpenLaw.pre at hc
  have h4:(WTm.not (.lt (.lit (.int (n:Int))) (.len (.arg 0)))).holds [] { args:=[.list (ns.map .int)] }=true:=by
   have h4:=(holds_andW hc).1
   rw [hn] at h4
   exact h4
  have h5:=condW_of h4 (w_not (w_lt w_lit (w_len_list (w_arg rfl))))
  rw [List.length_map] at h5
  refine Nat.le_of_not_lt λ q=>?_
  have q':(n:Int) < ((ns.length:Nat):Int):=by omega
  first
   | (rw [decide_eq_true q'] at h5;exact absurd h5 (by decide))
   | (simp at h5;omega)
 cases hwl with
 | cons w1 w2 =>
  cases w2
  cases w1 with
  | list ho hall=>exact ⟨_,_,ns,rfl,rfl,ho,ints_of_wellAll ns _ hall,hlen⟩
theorem post_true (l:OpenLaw) (args:List WData):l.row.toRowW.claim.post args (.bool true) args=true :=
 postW_of (r:=l.row.toRowW) (X:=(true == true))
  (show WShape.has [] (.bool true) .bool=true by first | rfl | decide | simp [WShape.has,WShape.arms,WShape.armsAll])
  (show (WTm.eq .res (.lit (.bool true))).value [] { args:=args,res:=some (.bool true),after:=args }=some (.bool (true == true)) from w_eq_bool (w_res rfl) w_lit) rfl
theorem attach_call {l:OpenLaw}{n:Nat}{q:Program}{loose:List Str}{XP:(Str->Option Value)->Heap->Prop}{YP:World->Heap->Prop}{d:DefRec}
  (hn:l.most=some n) (hdf:d.params.defaults=[])
  (call:∀(w:World) (s₀ s₁:Shared) (mg mb:Str->Option Value) (fa:Addr) (o:Obj) (pm cd doc:Value) (a:Addr) (vs:List Value) (ns:List Int),
   Ground q loose [] XP w s₀ mg mb s₁.heap->YP w s₁.heap ->
   s₁.heap.get? fa=some o->o.data=.func (docDef d.name d.params d.body d.scope pm cd doc)->s₁.heap.CodeRec cd d.name->mg d.name=some (.ref fa) ->
   s₁.heap.get? a=some { cls:=.type "list",data:=.seq vs.toArray }->IntsAre vs ns->ns.length≤n->s₁.gens=#[] ->
   codeAny (model l.prog w) callerA (.call (.ref fa) ⟨[.ref a],[]⟩) (λ r s'=>r=.ok (.ret (.bool true))/\OldK s₁.heap s'.heap/\s'.os=s₁.os/\AllBare s'.gens) s₁) :
  WalkO q loose XP YP l.row.toRowW d [] (λ f vs=>PySem.call f vs):=by
 intro w s₀ s₁ mg mb G Y fa o pm cd doc dV kV ho hd hcd hD hmg hg args vals as hpre hlay hrd hwl hlo
 obtain rfl:dV=.none:=Dflts.none hD hdf
 obtain rfl:kV=.none:=Dflts.noKw hD
 obtain ⟨a,vs,ns,rfl,rfl,hobj,hints,hlen⟩:=script_of hn hpre hwl
 refine enter_call (codeAny_mono (call w s₀ s₁ mg mb fa o pm cd doc a vs ns G Y ho (fd_plain hd) hcd hmg hobj hints hlen hg) λ r s' hq=>?_)
 obtain ⟨rfl,h2,h3,h4⟩:=hq
 exact ⟨.inl ⟨.bool true,.bool true,[],rfl,λ _=>rfl,.bool true,post_true l _,λ _=>⟨List.Pairwise.nil,λ _ hm=>(nomatch hm)⟩⟩,h2,h3,h4⟩
section
variable {prog:Program}{w:World}{A:Around}{E:Value->Shared->Prop}{s:Shared}{K:Frag}
end
end Att
namespace L2
open PySem PySem.Spec PyProof.Rows
theorem vals_ints:∀ {vs:List Value}{ns:List Int},IntsAre vs ns->Vals (ns.map V.int) vs
 | _,_,.nil=>.nil
 | _,_,.cons n t h=>.cons ⟨t,rfl⟩ (vals_ints h)
def Only (H:Hp):Prop:=∀b,H b=none\/∃o xs,H b=some (.frz o (.lst xs))
theorem law_call {P:Program}{w:World}{K:W.Frag}{mg mb:Str->Option Value}{CX:CXT}{k:Nat}{fa a:Addr}{fd:FuncData}{x:Str}{sp:Sp}{s₁:Shared}{vs:List Value}{ns:List Int}
  (KX:K.In s₁.heap) (hns:s₁.heap.Ns mainGlobals mg) (hb:s₁.heap.Ns builtinsNs mb) (hbb:∀x:Str,x ≠ "__name__" -> mb x=bootBuiltins x) (hlim:s₁.heap.NoLimit) (hg:s₁.gens=#[])
  (ha:s₁.heap.get? a=some { cls:=.type "list",data:=.seq vs.toArray }) (hi:IntsAre vs ns) (hl:ns.length≤sizeLine) (hr:Room k callerA)
  (F:∀base:Heap,K.In base->base.Ns mainGlobals mg->FnOk P w K mg base CX k fa fd [x] sp) (hbind:∀(s:Shared) (u:Value),BindsTo s fd ⟨[u],[]⟩ [(x,u)])
  (hsp:∀H:Hp,Only H->SqL K H a (ns.map V.int)->sp [.ref a] H (λ v _=>v=.bl true) λ _ _ _=>False)
  (hCX:∀H e s',CX [] H s₁ (λ _ _ _=>False) e s'->False) :
  codeAny (model P w) callerA (.call (.ref fa) ⟨[.ref a],[]⟩) (λ r s'=>r=.ok (.ret (.bool true))/\OldK s₁.heap s'.heap/\s'.os=s₁.os/\AllBare s'.gens) s₁:=by
 have rv:=vals_ints hi
 have lenV:=hi.length
 have core:∀H:Hp,Only H->SqL K H a (ns.map V.int)->HOk P w H s₁.heap->(∀b,H b≠none->b=a)->(H a≠none->K.lookup a=none) ->
   codeAny (model P w) callerA (.call (.ref fa) ⟨[.ref a],[]⟩) (λ r s'=>r=.ok (.ret (.bool true))/\OldK s₁.heap s'.heap/\s'.os=s₁.os/\AllBare s'.gens) s₁:=by
  intro H hO hS hok hA hK
  have base_of:∀ {b:Addr}{o:Obj},s₁.heap.get? b=some o->H b=none->(hidT s₁.heap H).get? b=some o:=λ e n=>hidT_get e n
  have noA:∀ {b:Addr}{o:Obj}{es:Array DictEntry}{ep:Nat},s₁.heap.get? b=some o->o.data=.dict es ep->H b=none:=λ {b o es ep} e d=>by
   cases q:H b with
   | none=>rfl
   | some u =>
    have e':b=a:=hA b (by rw [q];simp)
    subst e'
    rw [ha] at e;cases e
    have d':Data.seq vs.toArray _=Data.dict es ep:=d
    cases d'
  have nsK:∀ {b:Addr}{m:Str->Option Value},s₁.heap.Ns b m->(hidT s₁.heap H).Ns b m:=λ {b m} ⟨o,es,ep,e,d,r⟩=>⟨o,es,ep,base_of e (noA e d),d,r⟩
  have hKb:K.In (hidT s₁.heap H):=λ b o e=>base_of (KX b o e) (by
   cases q:H b with
   | none=>rfl
   | some u =>
    have e':b=a:=hA b (by rw [q];simp)
    subst e'
    rw [hK (by rw [q];simp)] at e;cases e)
  have hM:Mod K mg (hidT s₁.heap H):=⟨hKb,nsK hns,⟨mb,nsK hb,hbb⟩,let ⟨mc,h1,h2⟩:=hlim;⟨mc,nsK h1,h2⟩⟩
  have e0:Env0 P w K mg (hidT s₁.heap H) callerA [] s₁ H:=⟨rfl,hM,λ b o e=>of_hidT e,Nat.le_of_eq (hidT_size _ _),trivial,λ b hb=>absurd (show b∈([]:List Addr) from hb) (by simp),hok,.of_eq hg⟩
  refine codeAny_mono ((F _ hKb (nsK hns)).run callerA [] s₁ H ⟨[.ref a],[]⟩ [.ref a] [.ref a] _ _ hr e0 (hbind s₁ (.ref a)) (.cons rfl .nil) (hsp H hO hS)) λ r s' h=>?_
  cases r with
  | error e=>exact (hCX H e s' h).elim
  | ok fl =>
   cases fl with
   | next=>exact False.elim h
   | brk=>exact False.elim h
   | cont=>exact False.elim h
   | ret u =>
    obtain ⟨v,H',os,bare,un,hok',r',q⟩:=h
    have q':v=.bl true:=q
    subst q'
    obtain rfl:u=Value.bool true:=r'
    refine ⟨rfl,OldK.of_keep λ b o e=>?_,os,bare⟩
    cases q:H b with
    | none=>exact un.keep b o e q (by intro z;exact absurd (show b∈([]:List Addr) from z) (by simp)) (by simp)
    | some u =>
     rcases hO b with z | ⟨ob,xs,z⟩
     ·rw [q] at z;cases z
     ·have z2:=un.frzs b ob _ z
      obtain ⟨e1,_⟩:=hok b _ z
      obtain ⟨e2,_⟩:=hok' b _ z2
      rw [e] at e1;cases e1
      exact e2
 cases hk:K.lookup a with
 | some o =>
  have e:=KX a o hk
  rw [ha] at e
  cases e
  refine core (λ _=>none) (λ _=>.inl rfl) (.inr ⟨_,vs.toArray,_,hk,rfl,rfl,rfl,by rw [List.size_toArray,lenV];exact hl,by simpa using rv⟩) (λ b u z=>by have z':(none:Option HO)=some u:=z;cases z') (λ b z=>absurd rfl z) λ z=>absurd rfl z
 | none =>
  refine core (λ b=>if b=a then some (.frz { cls:=.type "list",data:=.seq vs.toArray } (.lst (ns.map V.int))) else none) (λ b=>?_) (.inl (.inr ⟨{ cls:=.type "list",data:=.seq vs.toArray },if_pos rfl⟩)) (λ b u z=>?_) (λ b z=>?_) λ _=>hk
  ·by_cases hb:b=a
   ·exact .inr ⟨_,_,if_pos hb⟩
   ·exact .inl (if_neg hb)
  ·by_cases hb:b=a
   ·have z':=(if_pos hb).symm.trans z
    cases z'
    subst hb
    exact ⟨ha,by rw [List.length_map];exact hl,vs,_,rv,ha⟩
   ·have z':=(if_neg hb).symm.trans z
    cases z'
  ·by_cases hb:b=a
   ·exact hb
   ·exact absurd (if_neg hb) z
theorem walk_of {l:W.OpenLaw}{n k:Nat}{q:Program}{loose:List Str}{XP:(Str->Option Value)->Heap->Prop}{YP:World->Heap->Prop}{d:DefRec}{K:Params->W.Frag}{CX:World->CXT}{sp:World->Sp}{x:Str}
  (hn:l.most=some n) (hn2:n≤sizeLine) (hdf:d.params.defaults=[]) (hr:Room k callerA)
  (hY:∀(w:World) (h:Heap),YP w h->(K w.params).In h)
  (F:∀(w:World) (mg:Str->Option Value) (fa:Addr) (h:Heap),(K w.params).In h->h.Ns mainGlobals mg->mg d.name=some (.ref fa) ->
   ∃fd:FuncData,(∀(s:Shared) (u:Value),BindsTo s fd ⟨[u],[]⟩ [(x,u)]) /\
    ∀base:Heap,(K w.params).In base->base.Ns mainGlobals mg->FnOk l.prog w (K w.params) mg base (CX w) k fa fd [x] (sp w))
  (hsp:∀(w:World) (H:Hp) (a:Addr) (ns:List Int),ns.length≤n->Only H->SqL (K w.params) H a (ns.map V.int)->sp w [.ref a] H (λ v _=>v=.bl true) λ _ _ _=>False)
  (hCX:∀(w:World) (H:Hp) (s:Shared) (e:Value) (s':Shared),CX w [] H s (λ _ _ _=>False) e s'->False) :
  W.WalkO q loose XP YP l.row.toRowW d [] (λ f vs=>PySem.call f vs):=by
 refine Att.attach_call hn hdf λ w s₀ s₁ mg mb fa o pm cd doc a vs ns G Y ho hd hcd hmg hobj hints hlen hg=>?_
 have KX:=hY w _ Y
 obtain ⟨fd,hb,hF⟩:=F w mg fa _ KX G.T.g hmg
 exact law_call KX G.T.g G.T.b G.T.builtins G.T.nolimit hg hobj hints (Nat.le_trans hlen hn2) hr hF hb (λ H hO hS=>hsp w H a ns hlen hO hS) λ H e s'=>hCX w H s₁ e s'
def defArgs (s:Stmt):Arguments:=match s with
 | .FunctionDef _ a _ _ _ _ _ _ _ _=>a
 | _=>{ posonlyargs:=[],args:=[],vararg:=none,kwonlyargs:=[],kw_defaults:=[],kwarg:=none,defaults:=[] }
def defBody (s:Stmt):List Stmt:=match s with
 | .FunctionDef _ _ b _ _ _ _ _ _ _=>b
 | _=>[]
def defScope (s:Stmt):Scope:=match s with
 | .FunctionDef _ _ _ _ _ _ sc _ _ _=>sc
 | _=>{ kind:=.function,names:=[],isGenerator:=false,isCoroutine:=false }
abbrev CX0:CXT:=λ _ _ _ _ _ _=>False
abbrev E0:XK:=λ _ _ _=>False
theorem pass0 {X:Cx}:Passes CX0 X E0:=λ _ _ _ _ _ _ _ h=>h.elim
structure Fun (K:W.Frag) (x qual:Str) (st:Stmt) (f:Addr) (fd:FuncData):Prop where
 ex:∃(oc:Value) (od:Option Addr) (kV doc pm:Value) (an:Option Addr) (cdv ct:Value) (osl:Array (Option Value)),
  fd=W.fnOf x qual (defArgs st) (defBody st) (defScope st) .none kV doc pm an cdv ct/\K.lookup f=some ⟨oc,od,.func fd,osl⟩/\W.codeIn K cdv qual=true
 kp:W.keepIn K (.ref f)=true
section
variable {P:Program}{w:World}{K:W.Frag}{mg:Str->Option Value}{base:Heap}
theorem Fun.ok {x qual:Str}{st:Stmt}{f:Addr}{fd:FuncData}{N ps:List Str}{k:Nat}{sp:Sp}(F:Fun K x qual st f fd) (S:FnScope N ps (defScope st)) (len:∀vs H Q E,sp vs H Q E->vs.length=ps.length)
  (hbody:∀(cdv:Value) (A:Around) (outer:List Env) (s:Shared) (H:Hp) (vs:List V) (Q:VK) (E:XK),Room k (A.deeper (envOfC qual (defScope st) s.heap.objs.size f cdv))->sp vs H Q E ->
   ∃t,PSs (cxOf CX0 P w K mg base N qual (defScope st) f cdv A outer s H E).nox (defBody st) t/\t { nx:=λ _ H'=>Q .non H',rt:=Q } (start N vs) H):FnOk P w K mg base CX0 (k+1) f fd ps sp:=by
 obtain ⟨oc,od,kV,doc,pm,an,cdv,ct,osl,rfl,lk,hcd⟩:=F.ex
 refine fn_of lk hcd S len λ A outer s H vs Q E hr hsp=>?_
 obtain ⟨t,h,q⟩:=hbody cdv A outer s H vs Q E hr hsp
 exact ⟨t,h.nox,q⟩
theorem Fun.binds {x qual:Str}{st:Stmt}{f:Addr}{fd:FuncData}{ps:List Str}(F:Fun K x qual st f fd)
  (h:∀(kV doc pm:Value) (an:Option Addr) (cdv ct:Value) (us:List Value),us.length=ps.length->bindArgs (W.fnOf x qual (defArgs st) (defBody st) (defScope st) .none kV doc pm an cdv ct) ⟨us,[]⟩=pure (ps.zip us)):Binds K fd ps []:=by
 obtain ⟨oc,od,kV,doc,pm,an,cdv,ct,osl,rfl,lk,hcd⟩:=F.ex
 exact .all (h kV doc pm an cdv ct)
theorem fun_mk {x qual:Str}{st:Stmt}{f:Addr}{oc:Value}{od an:Option Addr}{osl:Array (Option Value)}{kV doc pm cdv ct:Value}(l:K.lookup f=some ⟨oc,od,.func (W.fnOf x qual (defArgs st) (defBody st) (defScope st) .none kV doc pm an cdv ct),osl⟩)
  (c:W.codeIn K cdv qual=true) (k:W.keepIn K (.ref f)=true):Fun K x qual st f (W.fnOf x qual (defArgs st) (defBody st) (defScope st) .none kV doc pm an cdv ct):=⟨⟨oc,od,kV,doc,pm,an,cdv,ct,osl,rfl,l,c⟩,k⟩
end
theorem small1000 {n:Nat}(h:n≤1000):n < sizeLine:=Nat.lt_of_le_of_lt h (by decide)
section
variable {X:Cx}
theorem pv (i:Nat) {x:Str}{pos:Pos}(hN:X.N[i]?=some x:=by rfl) (hv:Vis X.env.scope x:=by first | exact Or.inl rfl | exact Or.inr (Or.inl rfl) | exact Or.inr (Or.inr rfl)) (hd:(x == ("__debug__" : Str))=false:=by decide)
  (hcd:(x == ("__classdict__" : Str))=false:=by decide):PE X (.Name x pos) (tVar i):=pe_var hN hv hd hcd
end
def Same (H H':Hp):Prop:=∀b o,H b=some o->H' b=some o
theorem Same.refl (H:Hp):Same H H:=λ _ _ h=>h
theorem Same.trans {H H1 H2:Hp}(a:Same H H1) (b:Same H1 H2):Same H H2:=λ c o h=>b c o (a c o h)
theorem Same.free {H H':Hp}(e:Same H H') {l:Addr}(h:H' l=Option.none):H l=Option.none:=by
 cases q:H l with
 | none=>rfl
 | some o =>
  rw [e l o q] at h
  cases h
theorem Same.seq {K:W.Frag}{H H':Hp}{a:Addr}{xs:List V}(e:Same H H') (h:SqL K H a xs):SqL K H' a xs:=by
 rcases h with (h | ⟨o,h⟩) | h
 ·exact .inl (.inl (e _ _ h))
 ·exact .inl (.inr ⟨o,e _ _ h⟩)
 ·exact .inr h
end L2
set_option maxHeartbeats 4000000
namespace L2
open PySem PySem.Spec PyProof.Rows
section
variable {prog:Program}{w:World}{A:Around}{R:Result->Shared->Prop}{s:Shared}
theorem compLoop_any {elt target iter:Expr}{scope:Scope}{pos:Pos}{it acc:Value}{env:Env}(I:Nat->Shared->Prop)
  (turn:∀n s,I n s->wpAny (model prog w) A (pyNext it) (λ r s₁=>match r with
   | none=>R (.ok .next) s₁
   | some v=>wpAny (model prog w) A (letOwnedTupleGo target it v) (λ _ s₀=>wpAny (model prog w) A (assign target env v) (λ _ s₂=>wpAny (model prog w) A (eval elt env) (λ x s₃ =>
     wpAny (model prog w) A (call (.builtin "list.append") [acc,x]) (λ _ s₄=>∃m,m < n/\I m s₄) (λ _ _=>False) s₃)
     (λ _ _=>False) s₂) (λ _ _=>False) s₀) (λ _ _=>False) s₁) (λ _ _=>False) s)
  (n:Nat) (h:I n s) :
  codeAny (model prog w) A (.compLoop (.ListComp elt [⟨target,iter,[],0⟩] scope pos) 0 it acc env) R s:=by
 refine codeAny_loop rfl I (λ n s hI=>?_) n h
 show wpAny _ _ ((compTurn (.ListComp elt [⟨target,iter,[],0⟩] scope pos) 0 it acc env).onRaise (λ x=>do noteFrame x env;theTreesLotGoes x)) _ _ s
 refine wpAny_noted ?_
 rw [compTurn_list1]
 refine wpAny_bind (wpAny_standAt (wpAny_bind (wpAny_mono (turn n s hI) (λ r s₁ h₁=>?_) λ _ _ h'=>h'.elim)))
 cases r with
 | none=>exact wpAny_pure h₁
 | some v =>
  refine wpAny_bind (wpAny_mono h₁ (λ _ s₀ h₀=>?_) λ _ _ h'=>h'.elim)
  exact wpAny_bind (wpAny_mono h₀ (λ _ s₂ h₂=>wpAny_bind (wpAny_bind (wpAny_mono h₂ (λ x s₃ h₃=>wpAny_bind (wpAny_mono h₃
   (λ _ s₄ h₄=>wpAny_pure (wpAny_pure ⟨rfl,h₄⟩)) λ _ _ h'=>h'.elim)) λ _ _ h'=>h'.elim))) λ _ _ h'=>h'.elim)
end
def cxComp (X:Cx) (N:List Str) (scope:Scope) (cl:List (Str × Addr)) (C:Addr) (ex:List Addr) (s:Shared) (H:Hp):Cx where
 prog:=X.prog
 w:=X.w
 K:=X.K
 mg:=X.mg
 base:=X.base
 A:=X.A
 N:=N
 s₀:=s
 H₀:=H
 env:=compEnvC scope cl C X.env
 outer:=X.stack
 stack:=X.stack
 ex:=ex
 fn:=λ _=>false
 calm:=X.calm
 pn:=X.pn
 xe:=λ _ _=>False
def compSt (k:Nat) (js:List Nat) (σ:St):St:=List.replicate k none++js.map λ j=>(σ[j]?).join
def tComp (wi:TI) (k:Nat) (js:List Nat) (g:TG) (te:TE):TE:=λ σ H Q=>wi σ H λ J H1 =>
 ∃W:Nat->Nat->List V->St->Hp->Prop,(∃m,W 0 m [] (compSt k js σ) H1)/\∀i m ys σ' H',W i m ys σ' H' ->
  (J.stop i H'/\∀p,H' p=none->Q (.ref p) (upd H' p (.lst ys))) \/
  (J.go i H'/\ys.length < sizeLine/\∃N:List V->St->Hp->Prop,(∀zs σ2 H2,N zs σ2 H2->∃m',m' < m/\W (i+1) m' zs σ2 H2) /\
   ∀x H2,J.yld i H' x H2->g x σ' H2 λ σ3 H3=>te σ3 H3 λ v H4=>N (ys++[v]) σ3 H4)
structure Cap (X:Cx) (scope:Scope) (cl:List (Str × Addr)) (x:Str) (j:Nat):Prop where
 at_:X.N[j]?=some x
 out:X.env.scope.names.lookup x=some .cell\/X.env.scope.names.lookup x=some .free
 inn:(relabel scope X.env).names.lookup x=some .cell\/(relabel scope X.env).names.lookup x=some .free
theorem join_some {σ:St}{j:Nat}{v:V}(h:(σ[j]?).join=some v):σ[j]?=some (some v):=by
 cases e:σ[j]? with
 | none=>rw [e] at h;cases h
 | some o =>
  rw [e] at h
  cases o with
  | none=>cases h
  | some u=>cases h;rfl
theorem comp_core {X:Cx}{elt tg iter:Expr}{scope:Scope}{cl:List (Str × Addr)}{pos:Pos}{own fv:List Str}{js:List Nat}{wi:TI}{g:TG}{te:TE}
    (hc:X.calm=true) (hi:PI X tg iter wi) (hclos:closureFor scope X.env=pure cl) (hcell:∀y∈scope.names,y.2≠.cell) (hkind:scope.kind=.function)
    (hnames:∀y∈scope.names,y.2=.local->scope.names.lookup y.1=some .local)
    (hcl:∀x c,cl.lookup x=some c->X.env.cells.lookup x=some c)
    (hhas:∀x,((relabel scope X.env).names.lookup x=some .cell\/(relabel scope X.env).names.lookup x=some .free)->∃c,cl.lookup x=some c)
    (hlen:js.length=fv.length) (hcap:∀(i:Nat) x j,fv[i]?=some x->js[i]?=some j->Cap X scope cl x j)
    (hg:∀(C:Addr) (ex:List Addr) (s:Shared) (H:Hp),PG (cxComp X (own++fv) scope cl C ex s H) tg g)
    (he:∀(C:Addr) (ex:List Addr) (s:Shared) (H:Hp),PE (cxComp X (own++fv) scope cl C ex s H) elt te)
    (hs:∀x,foldedSetIterable iter X.env x=pure x)
    {pins:List (Addr × Obj)}{s:Shared}{σ:St}{H:Hp}{Q:VK}{use:Option (Value->Sem Unit)}{QQ:Value->Shared->Prop}{fpos:Pos}(I:Inv X pins σ H s) (h:tComp wi own.length js g te σ H Q)
    (fin:∀(a C:Addr) (s5:Shared) (H5:Hp) (fl:Flow),Inv X pins σ H5 s5->H5 C=none->C≠X.env.locals->X.s₀.heap.objs.size≤C->(∀x c,X.env.cells.lookup x=some c->c≠C)->(∀p∈X.pn++pins,p.1≠C)->(∃m,s5.heap.Ns C m)->Q (.ref a) H5->compPost (model X.prog X.w) X.A X.xe use QQ (.ref a) C (.ok fl) s5) :
    wpAny (model X.prog X.w) X.A (comprehension (.ListComp elt [⟨tg,iter,[],0⟩] scope pos) scope X.env fpos (newList []) false (firstIter [⟨tg,iter,[],0⟩] X.env) use) QQ X.xe s:=by
  refine wpAny_comprehension_free (use:=use) rfl hs hclos hkind hnames (thn (hi pins s σ H _ I h) λ v s1 h1=>thn h1 λ itv s2 h2=>?_)
  obtain ⟨it,fp,tn,J,H2,e,I2,T,st2,f2,W,⟨m0,w0⟩,turn⟩:=h2
  subst e
  refine wpAny_newObj_type (wpAny_newFunctionEnv hcell (by intro y hy;simp at hy) (λ h₁ hns₁ hsb₁=>?_) hkind)
  dsimp only at hns₁ hsb₁ ⊢
  generalize hHp:s2.heap.push { cls:=.type "list",dict:=none,data:=.seq ([]:List Value).toArray }=hL at hns₁ hsb₁ ⊢
  have hC:hL.objs.size=s2.heap.objs.size+1:=by rw [← hHp,Heap.size_push]
  have hDC:s2.heap.objs.size≠hL.objs.size:=by rw [hC];exact Nat.ne_of_lt (Nat.lt_succ_self _)
  have ltC:∀b,b < s2.heap.objs.size->b≠hL.objs.size:=λ b hb=>by rw [hC];exact Nat.ne_of_lt (Nat.lt_succ_of_lt hb)
  have old:∀b o,s2.heap.get? b=some o->h₁.get? b=some o:=λ b o e=>hsb₁.extBut b o (ltC b (Heap.lt_size e)) (Heap.get?_push_of_some _ (hHp ▸ Heap.get?_push_of_some _ e))
  have hacc:h₁.get? s2.heap.objs.size=some { cls:=.type "list",data:=.seq ([]:List Value).toArray 0 }:=hsb₁.extBut _ _ hDC (Heap.get?_push_of_some _ (hHp ▸ Heap.get?_push_size _ rfl))
  have hfresh:∀a,s2.heap.objs.size≤a->H2 a=none:=λ a ha=>I2.hok.fresh ha
  have fpL:∀b∈fp,b < s2.heap.objs.size:=λ b hb=>by
    obtain ⟨o,e,_⟩:=T.obj _ _ st2 b hb
    exact Heap.lt_size e
  have cellL:∀x c,cl.lookup x=some c->c < s2.heap.objs.size:=λ x c e=>by
    obtain ⟨v,q⟩:=I2.cell x c (hcl x c e)
    exact q.lt
  have pinL:∀p∈X.pn++pins,p.1 < s2.heap.objs.size:=λ p hp=>Heap.lt_size (I2.pin p hp).1
  generalize hX:cxComp X (own++fv) scope cl hL.objs.size fp s2 H2=Y
  have ok:Y.Ok:=by
    subst hX
    refine ⟨I2.ok.mod,hkind,I2.ok.glob,I2.ok.blt,by show s2.heap.objs.size≤hL.objs.size;omega,λ x y c h1 h2=>I2.ok.inj x y c (hcl x c h1) (hcl y c h2),λ x hx=>hhas x hx,
      λ x c hf=>absurd hf (by show ¬(false=true);decide),I2.ok.hd,I2.ok.frames,.inl rfl,λ b hb=>⟨ltC b (fpL b hb),λ x c e=>(f2 b hb).2.2.2.2.1 x c (hcl x c e)⟩,I2.bs,Nat.le_trans I2.ok.bsz I2.sz,λ b o e hb=>?_,λ b hb hz=>?_,I2.stack,I2.stkFree⟩
    · rcases (f2 b hb).2.2.2.1 with z | z
      · exact I2.ok.noex b o e z
      · exact absurd (Nat.lt_of_lt_of_le (Heap.lt_size e) (Nat.le_trans I2.ok.bsz z)) (Nat.lt_irrefl _)
    · rcases List.mem_cons.mp (I2.stkSub b hz) with z | z
      · exact (f2 b hb).2.1 z
      · exact (f2 b hb).2.2.1 z
  have hYl:Y.env.locals=hL.objs.size:=by subst hX;rfl
  have hYs:Y.s₀=s2:=by subst hX;rfl
  have hYH:Y.H₀=H2:=by subst hX;rfl
  have hYx:Y.ex=fp:=by subst hX;rfl
  have hYf:Y.fs=frs X.stack:=by subst hX;rfl
  have hYc:Y.env.cells=cl:=by subst hX;rfl
  have hYp:Y.pn=X.pn:=by subst hX;rfl
  have pinOk:∀p∈X.pn++pins,s2.heap.get? p.1=some p.2/\H2 p.1=none/\p.1≠hL.objs.size/\p.1 ∉ frs X.stack/\∀v,p.2.data≠.cell v:=λ p hp=>by
    obtain ⟨e,n,ne,nf,d⟩:=I2.pin p hp
    refine ⟨e,n,ltC _ (Heap.lt_size e),λ z=>?_,d⟩
    rcases List.mem_cons.mp (I2.stkSub _ z) with q | q
    · exact ne q
    · exact nf q
  have stkL:∀b∈frs X.stack,b < s2.heap.objs.size:=λ b hb=>by
    obtain ⟨_,o,ho,_⟩:=I2.stack.mem hb
    exact Heap.lt_size ho
  have I3:Inv Y (pins++[(s2.heap.objs.size,{ cls:=.type "list",data:=.seq ([]:List Value).toArray 0 })]) (compSt own.length js σ) H2 { s2 with heap:=h₁,toks:=s2.toks+([]:List (Str × Value)).length }:=by
    refine ⟨ok,by subst hX;rfl,I2.bare,by rw [hYH,hYs];exact Un.kept old,⟨_,by rw [hYl];exact hns₁,λ i x v e1 e2 e3=>?_⟩,λ x c e=>?_,by rw [hYl];exact hfresh _ (by omega),λ x c e=>?_,λ p hp=>?_,by subst hX;exact I2.hok.kept old,?_⟩
    · subst hX
      have e1:(own++fv)[i]?=some x:=e1
      unfold compSt at e2
      by_cases hi:i < own.length
      · rw [List.getElem?_append_left (by simpa using hi),List.getElem?_replicate] at e2
        split at e2<;>cases e2
      · rw [List.getElem?_append_right (by simpa using hi),List.length_replicate,List.getElem?_map] at e2
        rw [List.getElem?_append_right (by omega)] at e1
        cases ej:js[i - own.length]? with
        | none=>rw [ej] at e2;cases e2
        | some j =>
          rw [ej] at e2
          have cp:=hcap _ x j e1 ej
          have e2':σ[j]?=some (some v):=join_some (Option.some.inj e2)
          obtain ⟨m,hn,hl⟩:=I2.loc
          obtain ⟨u,r,l⟩:=hl j x v cp.at_ e2' (cp.out.elim (λ z=>.inr (.inl z)) λ z=>.inr (.inr z))
          refine ⟨u,r,.inr ⟨cp.inn,?_⟩⟩
          obtain ⟨c,ec⟩:=hhas x cp.inn
          rcases l with ⟨k,_⟩ | ⟨_,c',ec',z⟩
          · have k:X.env.scope.names.lookup x=some .local:=k
            rcases cp.out with q | q<;>rw [q] at k<;>cases k
          · rw [hcl x c ec] at ec'
            cases ec'
            obtain ⟨o,ho,hd⟩:=z
            exact ⟨c,ec,o,old _ _ ho,hd⟩
    · rw [hYc] at e
      obtain ⟨v,o,ho,hd⟩:=I2.cell x c (hcl x c e)
      exact ⟨v,o,old _ _ ho,hd⟩
    · rw [hYc] at e
      exact I2.freeC x c (hcl x c e)
    · rw [hYp] at hp
      rw [hYl,hYf]
      rcases List.mem_append.mp hp with z | z
      · obtain ⟨a,b,c,d,f⟩:=pinOk p (List.mem_append_left _ z)
        exact ⟨old _ _ a,b,c,d,f⟩
      · rcases List.mem_append.mp z with z | z
        · obtain ⟨a,b,c,d,f⟩:=pinOk p (List.mem_append_right _ z)
          exact ⟨old _ _ a,b,c,d,f⟩
        · have e:p=_:=List.mem_singleton.mp z
          subst e
          exact ⟨hacc,hfresh _ (Nat.le_refl _),hDC,λ z=>absurd (stkL _ z) (Nat.lt_irrefl _),λ v z=>by cases z⟩
    · subst hX
      unfold compSt
      show _=(own++fv).length
      simp [hlen]
  have hYprog:Y.prog=X.prog:=by subst hX;rfl
  have hYw:Y.w=X.w:=by subst hX;rfl
  have hYK:Y.K=X.K:=by subst hX;rfl
  have hYA:Y.A=X.A:=by subst hX;rfl
  have hYcalm:Y.calm=true:=by subst hX;exact hc
  have hYxe:Y.xe=λ _ _=>False:=by subst hX;rfl
  have hYenv:Y.env=compEnvC scope cl hL.objs.size X.env:=by subst hX;rfl
  have hg':=hg hL.objs.size fp s2 H2
  have he':=he hL.objs.size fp s2 H2
  rw [hX] at hg' he'
  have fpOk:∀ {H':Hp}{pn:List (Addr × Obj)},(∀b∈fp,H' b=none)->(∀p∈pn,p.1=s2.heap.objs.size\/p∈pins)->∀b∈fp,FpOk Y pn H' b:=λ hn hp b hb=>by
    refine ⟨hn b hb,by rw [hYl];exact ltC b (fpL b hb),?_,.inl (by rw [hYx];exact hb),λ x c e=>?_,λ p hq=>?_⟩
    · rw [hYf]
      intro hz
      rcases List.mem_cons.mp (I2.stkSub b hz) with z | z
      · exact (f2 b hb).2.1 z
      · exact (f2 b hb).2.2.1 z
    · rw [hYc] at e
      exact (f2 b hb).2.2.2.2.1 x c (hcl x c e)
    · rw [hYp] at hq
      rcases List.mem_append.mp hq with z | z
      · exact (f2 b hb).2.2.2.2.2 p (List.mem_append_left _ z)
      · rcases hp p z with q | q
        · rw [q];exact Ne.symm (Nat.ne_of_lt (fpL b hb))
        · exact (f2 b hb).2.2.2.2.2 p (List.mem_append_right _ q)
  have loop:∀s₃:Shared,s₃={ s2 with heap:=h₁,toks:=s2.toks+([]:List (Str × Value)).length } ->
      codeAny (model X.prog X.w) X.A (.compLoop (.ListComp elt [⟨tg,iter,[],0⟩] scope pos) 0 (.ref it) (.ref s2.heap.objs.size) (compEnvC scope cl hL.objs.size X.env))
        (compPost (model X.prog X.w) X.A X.xe use QQ (.ref s2.heap.objs.size) hL.objs.size) s₃:=by
    rintro s₃ rfl
    refine compLoop_any (λ n s'=>∃i ys its k σ' H',Inv Y (pins++[(s2.heap.objs.size,{ cls:=.type "list",data:=.seq (its:List Value).toArray k })]) σ' H' s'/\tn i s'.heap/\(∀b∈fp,H' b=none)/\Vals ys its/\ys.length≤sizeLine/\W i n ys σ' H') ?_ m0
      ⟨0,[],[],0,_,H2,I3,T.keep _ _ _ st2 λ b _ o e=>old b o e,λ b hb=>(f2 b hb).1,.nil,Nat.zero_le _,w0⟩
    rintro n s4 ⟨i,ys,its,k,σ4,H4,I4,st4,fr4,rv,hz,w4⟩
    have pinD:∀p∈(pins++[(s2.heap.objs.size,({ cls:=.type "list",data:=.seq (its:List Value).toArray k }:Obj))]),p.1=s2.heap.objs.size\/p∈pins:=λ p hp=>by
      rcases List.mem_append.mp hp with z | z
      · exact .inr z
      · rw [List.mem_singleton.mp z];exact .inl rfl
    have F4:=fpOk (pn:=pins++[(s2.heap.objs.size,{ cls:=.type "list",data:=.seq (its:List Value).toArray k })]) fr4 pinD
    rcases turn i n ys σ4 H4 w4 with ⟨stop,qn⟩ | ⟨go,hlt,N,hN,step⟩
    · have d:=T.done Y hYprog hYw hYK hYcalm i _ s4 σ4 H4 (λ _ _=>False) I4 F4 st4 stop
      rw [hYA] at d
      refine thn d λ r s5 ⟨hr,I5⟩=>?_
      subst hr
      obtain ⟨m,hn,_⟩:=id I5.loc
      rw [hYl] at hn
      have hD:=I5.pin (s2.heap.objs.size,{ cls:=.type "list",data:=.seq (its:List Value).toArray k }) (List.mem_append_right _ (List.mem_append_right _ (List.mem_singleton.mpr rfl)))
      have hDn:H4 s2.heap.objs.size=none:=hD.2.1
      have kp:∀b o,b≠hL.objs.size->s5.heap.get? b=some o->s5.heap.get? b=some o:=λ b o _ e=>e
      have B:=I5.base
      rw [hYH,hYs,hYx,hYf] at B
      have s2C:∀b o,s2.heap.get? b=some o->b≠hL.objs.size:=λ b o e=>ltC b (Heap.lt_size e)
      have trk:∀b u,H4 b=some u->b≠s2.heap.objs.size:=λ b u e z=>by rw [z,hDn] at e;cases e
      have trC:∀b u,H4 b=some u->b≠hL.objs.size:=λ b u e z=>by
        have:=I5.free
        rw [hYl,← z,e] at this;cases this
      have hH2:∀b u,H2 b=some u->b≠s2.heap.objs.size:=λ b u e z=>by rw [z,hfresh _ (Nat.le_refl _)] at e;cases e
      have IX:Inv X pins σ (upd H4 s2.heap.objs.size (.lst ys)) s5:=by
       refine I2.call' (ch:=fp) (by show s5.os=s2.os;rw [I5.os,hYs]) ⟨λ b o e n hb hx=>kp b o (s2C b o e) (B.keep b o e n hb hx),λ b o e n hb hx=>?_,λ b o e n hx=>?_,λ b o e hx=>?_,λ b xs e=>?_,λ b o u e=>?_,λ b ps e=>?_⟩ ?_ I5.bare (λ b hb=>⟨(f2 b hb).2.2.2.1,(f2 b hb).2.1,(f2 b hb).2.2.2.2.1,(f2 b hb).2.2.2.2.2⟩)
       · obtain ⟨sl,q⟩:=B.slot b o e n hb hx
         exact ⟨sl,kp b _ (s2C b o e) q⟩
       · rw [upd_ne (Nat.ne_of_lt (Heap.lt_size e))]
         exact B.free b o e n hx
       · obtain ⟨o',q⟩:=B.there b o e hx
         exact ⟨o',kp b o' (s2C b o e) q⟩
       · rw [upd_ne (hH2 b _ e)]
         exact B.tups b xs e
       · rw [upd_ne (hH2 b _ e)]
         exact B.frzs b o u e
       · obtain ⟨more,q⟩:=B.tbls b ps e
         exact ⟨more,by rw [upd_ne (hH2 b _ e)];exact q⟩
       · intro b u e
         by_cases hb:b=s2.heap.objs.size
         · subst hb
           rw [upd_same] at e
           cases e
           exact ⟨hz,its,k,rv,kp _ _ hDC hD.1⟩
         · rw [upd_ne hb] at e
           have okb:=I5.hok b u e
           rw [hYprog,hYw] at okb
           refine okb.stay (λ c v hc q=>kp c v ?_ q) (λ c q=>by rw [upd_ne (trk c _ q)];exact q) λ c xs q=>by rw [upd_ne (trk c _ q)];exact q
           rcases hc with z | z
           · rw [z];exact trC b u e
           · exact trC c _ z
      have zC:upd H4 s2.heap.objs.size (.lst ys) hL.objs.size=none:=by
        rw [upd_ne (Ne.symm hDC)]
        have:=I5.free
        rwa [hYl] at this
      exact fin s2.heap.objs.size hL.objs.size s5 _ _ IX zC (Ne.symm (ltC _ I2.lt)) (by have:=I2.sz;omega) (λ x c e=>ltC c (by obtain ⟨v,q⟩:=I2.cell x c e;exact q.lt)) (λ p hp=>ltC _ (pinL p hp)) ⟨m,hn⟩ (qn _ hDn)
    · have d:=T.item Y hYprog hYw hYK hYcalm i _ s4 σ4 H4 (λ _ _=>False) I4 F4 st4 go
      rw [hYA] at d
      refine thn d λ r s5 ⟨u,hr,h5⟩=>?_
      subst hr
      refine thn h5 λ _ s6 ⟨x,H6,I6,r6,y6,st6,fr6⟩=>?_
      have I6':=I6.pinned (fpOk (pn:=pins++[(s2.heap.objs.size,{ cls:=.type "list",data:=.seq (its:List Value).toArray k })]) fr6 pinD) (T.obj _ _ st6)
      have d7:=hg' _ s6 σ4 H6 x u _ I6' r6 (step x H6 y6)
      rw [hYprog,hYw,hYA,hYxe,hYenv] at d7
      refine thn d7 λ _ s7 ⟨σ7,H7,I7,q7⟩=>?_
      have d8:=he' _ s7 σ7 H7 _ I7 q7
      rw [hYprog,hYw,hYA,hYxe,hYenv] at d8
      refine thn d8 λ u8 s8 ⟨v8,H8,I8,r8,n8⟩=>?_
      obtain ⟨m',hm,w8⟩:=hN _ _ _ n8
      have pD:=I8.pin (s2.heap.objs.size,{ cls:=.type "list",data:=.seq (its:List Value).toArray k }) (List.mem_append_right _ (List.mem_append_left _ (List.mem_append_right _ (List.mem_singleton.mpr rfl))))
      have tn8:tn (i+1) s8.heap:=T.keep _ _ _ st6 λ b hb o e=>(I8.pin (b,o) (List.mem_append_right _ (List.mem_append_right _ (mem_pinsAt hb e)))).1
      have fr8:∀b∈fp,H8 b=none:=λ b hb=>by
        obtain ⟨o,e,d⟩:=T.obj _ _ st6 b hb
        exact (I8.pin (b,o) (List.mem_append_right _ (List.mem_append_right _ (mem_pinsAt hb e)))).2.1
      have J8:Inv Y pins σ7 H8 s8:=I8.unpinned.unpinned
      have eD:s8.heap.get? s2.heap.objs.size=some { cls:=.type "list",data:=.seq its.toArray k }:=pD.1
      refine call_meets F.slot_list_append ⟨_,eD,rfl⟩ F.entry_list_append (F.args_list_append_2 _ _) (PySem.list_append _ its.toArray k u8 (by rw [List.size_toArray,← rv.length];omega)) ⟨eD,?_⟩
      have other:∀b o,b≠s2.heap.objs.size->s8.heap.get? b=some o->(s8.heap.update s2.heap.objs.size (Obj.mapSeq λ xs=>xs.push u8)).get? b=some o:=λ b o nb e=>(Heap.get?_update_other s8.heap _ (Ne.symm nb)).trans e
      have J9:=J8.turned (t':=s8.toks) (it:=s2.heap.objs.size) (h':=s8.heap.update s2.heap.objs.size (Obj.mapSeq λ xs=>xs.push u8)) other pD.2.1 (by rw [hYl];exact hDC) (.inr (by rw [hYs];exact Nat.le_refl _))
        (λ x c e=>by rw [hYc] at e;exact Nat.ne_of_lt (cellL x c e)) (λ p hp=>by rw [hYp] at hp;exact Nat.ne_of_lt (pinL p hp))
      have ep:(its.toArray.push u8)=(its++[u8]).toArray:=by simp
      obtain ⟨kk,upD⟩:∃kk,(s8.heap.update s2.heap.objs.size (Obj.mapSeq λ xs=>xs.push u8)).get? s2.heap.objs.size=some { cls:=.type "list",data:=.seq (its++[u8]).toArray kk }:=by
        have z:=PySem.IsL.update eD (λ xs=>xs.push u8)
        rw [ep] at z
        exact ⟨_,z⟩
      refine ⟨m',hm,i+1,ys++[v8],its++[u8],kk,σ7,H8,J9.pins_of λ p hp=>?_,T.keep _ _ _ tn8 λ b hb o e=>other b o (Nat.ne_of_lt (fpL b hb)) e,fr8,rv.append (.cons r8 .nil),?_,w8⟩
      · rcases List.mem_append.mp hp with z | z
        · exact J9.pin p (List.mem_append_right _ z)
        · rw [List.mem_singleton.mp z]
          exact ⟨upD,pD.2.1,by rw [hYl];exact hDC,by rw [hYf];exact λ z=>absurd (stkL _ z) (Nat.lt_irrefl _),λ v z=>by cases z⟩
      · rw [List.length_append,List.length_singleton];omega
  exact codeAny_compStart_list (loop _ rfl) (T.self _ 0 _ _ _ (T.keep _ _ _ st2 λ b _ o e=>old b o e) (loop _ rfl))
theorem pe_comp {X:Cx}{elt tg iter:Expr}{scope:Scope}{cl:List (Str × Addr)}{pos:Pos}{own fv:List Str}{js:List Nat}{wi:TI}{g:TG}{te:TE}
  (hc:X.calm=true) (hi:PI X tg iter wi) (hclos:closureFor scope X.env=pure cl) (hcell:∀y∈scope.names,y.2≠.cell) (hkind:scope.kind=.function)
  (hnames:∀y∈scope.names,y.2=.local->scope.names.lookup y.1=some .local)
  (hcl:∀x c,cl.lookup x=some c->X.env.cells.lookup x=some c)
  (hhas:∀x,((relabel scope X.env).names.lookup x=some .cell\/(relabel scope X.env).names.lookup x=some .free)->∃c,cl.lookup x=some c)
  (hlen:js.length=fv.length) (hcap:∀(i:Nat) x j,fv[i]?=some x->js[i]?=some j->Cap X scope cl x j)
  (hg:∀(C:Addr) (ex:List Addr) (s:Shared) (H:Hp),PG (cxComp X (own++fv) scope cl C ex s H) tg g)
  (he:∀(C:Addr) (ex:List Addr) (s:Shared) (H:Hp),PE (cxComp X (own++fv) scope cl C ex s H) elt te)
  (hs:∀x,foldedSetIterable iter X.env x=pure x:=by intro _;rfl) :
  PE X (.ListComp elt [⟨tg,iter,[],0⟩] scope pos) (tComp wi own.length js g te):=by
 intro pins s σ H Q I h
 rw [eval_ListComp]
 refine comp_core (use:=none) (QQ:=EP X pins σ Q) hc hi hclos hcell hkind hnames hcl hhas hlen hcap hg he hs I h λ a C s5 H5 fl I5 zC zL zS zc zp ⟨m,hn⟩ q=>⟨m,hn,λ h' sc=>?_⟩
 exact ⟨.ref a,H5,I5.turned (t':=s5.toks) (it:=C) (λ d o nd e=>sc.extBut d o nd e) zC zL (.inr zS) zc zp,rfl,q⟩
theorem comp_list {K:PySem.W.Frag}{a:Addr}{xs:List V}{g:TG}{te:TE}{Q:VK}{σ:St}{H:Hp}(Pv:Nat->List V->St->Hp->Prop) (h0:Pv 0 [] σ H) (hl:∀i ys σ H,i≤xs.length->Pv i ys σ H->SqL K H a xs)
  (hs:∀i x ys σ H,xs[i]?=some x->Pv i ys σ H->ys.length < sizeLine/\g x σ H λ σ3 H3=>te σ3 H3 λ v H4=>Pv (i+1) (ys++[v]) σ3 H4) (hd:∀ys σ H,Pv xs.length ys σ H->∀p,H p=none->Q (.ref p) (upd H p (.lst ys))) :
  ∃W:Nat->Nat->List V->St->Hp->Prop,(∃m,W 0 m [] σ H)/\∀i m ys σ' H',W i m ys σ' H' ->
   ((Itl K a).stop i H'/\∀p,H' p=none->Q (.ref p) (upd H' p (.lst ys))) \/
   ((Itl K a).go i H'/\ys.length < sizeLine/\∃N:List V->St->Hp->Prop,(∀zs σ2 H2,N zs σ2 H2->∃m',m' < m/\W (i+1) m' zs σ2 H2) /\
    ∀x H2,(Itl K a).yld i H' x H2->g x σ' H2 λ σ3 H3=>te σ3 H3 λ v H4=>N (ys++[v]) σ3 H4):=by
 refine ⟨λ i m ys σ H=>m=xs.length - i/\i≤xs.length/\Pv i ys σ H,⟨xs.length,by simp,Nat.zero_le _,h0⟩,?_⟩
 rintro i m ys σ H ⟨rfl,hi,p⟩
 have q:=hl i ys σ H hi p
 by_cases hlt:i < xs.length
 ·have e:xs[i]?=some xs[i]:=by simp [hlt]
  refine .inr ⟨⟨xs,xs[i],q,e⟩,(hs i _ ys σ H e p).1,Pv (i+1),λ zs σ' H' p'=>⟨xs.length - (i+1),by omega,rfl,hlt,p'⟩,λ x H' y=>?_⟩
  obtain ⟨e,y⟩:=y
  subst e
  exact (hs i x ys σ _ (y xs q) p).2
 ·have e:i=xs.length:=by omega
  subst e
  exact .inl ⟨⟨xs,q,Nat.le_refl _⟩,hd ys σ H p⟩
theorem comp_tup {K:PySem.W.Frag}{a:Addr}{xs:List V}{g:TG}{te:TE}{Q:VK}{σ:St}{H:Hp}(Pv:Nat->List V->St->Hp->Prop) (h0:Pv 0 [] σ H) (hl:∀i ys σ H,i≤xs.length->Pv i ys σ H->SqT K H a xs)
  (hs:∀i x ys σ H,xs[i]?=some x->Pv i ys σ H->ys.length < sizeLine/\g x σ H λ σ3 H3=>te σ3 H3 λ v H4=>Pv (i+1) (ys++[v]) σ3 H4) (hd:∀ys σ H,Pv xs.length ys σ H->∀p,H p=none->Q (.ref p) (upd H p (.lst ys))) :
  ∃W:Nat->Nat->List V->St->Hp->Prop,(∃m,W 0 m [] σ H)/\∀i m ys σ' H',W i m ys σ' H' ->
   ((Itt K a).stop i H'/\∀p,H' p=none->Q (.ref p) (upd H' p (.lst ys))) \/
   ((Itt K a).go i H'/\ys.length < sizeLine/\∃N:List V->St->Hp->Prop,(∀zs σ2 H2,N zs σ2 H2->∃m',m' < m/\W (i+1) m' zs σ2 H2) /\
    ∀x H2,(Itt K a).yld i H' x H2->g x σ' H2 λ σ3 H3=>te σ3 H3 λ v H4=>N (ys++[v]) σ3 H4):=by
 refine ⟨λ i m ys σ H=>m=xs.length - i/\i≤xs.length/\Pv i ys σ H,⟨xs.length,by simp,Nat.zero_le _,h0⟩,?_⟩
 rintro i m ys σ H ⟨rfl,hi,p⟩
 have q:=hl i ys σ H hi p
 by_cases hlt:i < xs.length
 ·have e:xs[i]?=some xs[i]:=by simp [hlt]
  refine .inr ⟨⟨xs,xs[i],q,e⟩,(hs i _ ys σ H e p).1,Pv (i+1),λ zs σ' H' p'=>⟨xs.length - (i+1),by omega,rfl,hlt,p'⟩,λ x H' y=>?_⟩
  obtain ⟨e,y⟩:=y
  subst e
  exact (hs i x ys σ _ (y xs q) p).2
 ·have e:i=xs.length:=by omega
  subst e
  exact .inl ⟨⟨xs,q,Nat.le_refl _⟩,hd ys σ H p⟩
theorem comp_range {lo:Int}{n:Nat}{g:TG}{te:TE}{Q:VK}{σ:St}{H:Hp}(Pv:Nat->List V->St->Hp->Prop) (h0:Pv 0 [] σ H)
  (hs:∀i ys σ H,i < n->Pv i ys σ H->ys.length < sizeLine/\g (.int (lo+i)) σ H λ σ3 H3=>te σ3 H3 λ v H4=>Pv (i+1) (ys++[v]) σ3 H4) (hd:∀ys σ H,Pv n ys σ H->∀p,H p=none->Q (.ref p) (upd H p (.lst ys))) :
  ∃W:Nat->Nat->List V->St->Hp->Prop,(∃m,W 0 m [] σ H)/\∀i m ys σ' H',W i m ys σ' H' ->
   ((Itr lo n).stop i H'/\∀p,H' p=none->Q (.ref p) (upd H' p (.lst ys))) \/
   ((Itr lo n).go i H'/\ys.length < sizeLine/\∃N:List V->St->Hp->Prop,(∀zs σ2 H2,N zs σ2 H2->∃m',m' < m/\W (i+1) m' zs σ2 H2) /\
    ∀x H2,(Itr lo n).yld i H' x H2->g x σ' H2 λ σ3 H3=>te σ3 H3 λ v H4=>N (ys++[v]) σ3 H4):=by
 refine ⟨λ i m ys σ H=>m=n - i/\i≤n/\Pv i ys σ H,⟨n,by simp,Nat.zero_le _,h0⟩,?_⟩
 rintro i m ys σ H ⟨rfl,hi,p⟩
 by_cases hlt:i < n
 ·refine .inr ⟨hlt,(hs i ys σ H hlt p).1,Pv (i+1),λ zs σ' H' p'=>⟨n - (i+1),by omega,rfl,hlt,p'⟩,λ x H' y=>?_⟩
  obtain ⟨e,y⟩:=y
  subst e y
  exact (hs i ys σ _ hlt p).2
 ·have e:i=n:=by omega
  subst e
  exact .inl ⟨Nat.le_refl _,hd ys σ H p⟩
theorem own_cls {K:W.Frag}{h:Heap}{gm:Str->Option Value}{nmX:Str}{Cx':Addr}{bmX:List Value}{nid:String}(KI:K.In h) (GN:h.Ns mainGlobals gm)
  (hn:W.nsIn K mainGlobals nmX=some (some (.ref Cx'))) (hq:W.excIn K Cx' bmX nid=true):OwnCls nmX Cx' bmX nid gm h:=by
 constructor
 ·exact W.mg_of KI GN hn
 ·unfold W.excIn at hq
  split at hq
  ·rename_i ddx cdx slx hlk
   split at hq
   ·rename_i C2 bm2 f0 f1 f2 f3 nn f5 hmro hsl0
    simp only [Bool.and_eq_true,beq_iff_eq,Bool.not_eq_true'] at hq
    obtain ⟨⟨⟨⟨⟨eC,eN⟩,hdl⟩,htl⟩,hnsok⟩,hinit⟩:=hq
    subst eC eN
    obtain ⟨c1,c2,c3,c4,c5,c6,c7,c8,c9,c10,c11⟩:=cdx
    dsimp only at hmro hdl hnsok hinit
    subst hmro hdl
    have hsl1:slx=#[f0,f1,f2,f3,some (.builtin nn),f5]:=by
     obtain ⟨lst⟩:=slx
     simp only at hsl0
     rw [hsl0]
    subst hsl1
    refine ⟨bm2,c4,c1,c5,c2,c6,c7,c8,c9,c10,ddx,f0,f1,f2,f3,f5,h.nsMap c4,KI _ _ hlk,?_,?_,?_⟩
    ·exact .of_isNs (W.isNs_of_in KI hnsok)
    ·exact W.nsMap_none_of_in KI hnsok hinit
    ·exact W.tail_of_in KI htl
   ·cases hq
  ·cases hq
def CX1 (P:Program) (w:World):CXT:=λ outer H s E e s' =>
 ∃(a C:Addr) (a0:Value) (H':Hp) (B:Heap),e=.ref a/\s'.os=s.os/\AllBare s'.gens/\Heap.FlyingW B outer a (.ref C) a0 s'.heap /\
  (∀b o,s.heap.get? b=some o->H b=none->b ∉ frs outer->B.get? b=some o)/\(∀b o,s.heap.get? b=some o->b ∉ frs outer->∃o',B.get? b=some o') /\
  Un (frs outer) [] H H' s.heap s'.heap/\HOk P w H' B/\E (.ref C) none H'
section
variable {P:Program}{w:World}{K:W.Frag}{mg:Str->Option Value}{base:Heap}{N:List Str}{qual:Str}{scope:Scope}{f:Addr}{cd:Value}{A:Around}{outer:List Env}{s:Shared}{H:Hp}{E:XK}
theorem hok_hide {H:Hp}{h:Heap}{l:List Addr}(ok:HOk P w H h) (hl:∀b∈l,H b=none):HOk P w H (W.hideAll h l):=λ b u e=>by
 have nb:∀c v,H c=some v->c ∉ l:=λ c v q z=>by rw [hl c z] at q;cases q
 refine (ok b u e).stay (λ c v hc q=>W.hideAll_get _ q ?_) (λ _ q=>q) λ _ _ q=>q
 rcases hc with z | z
 ·rw [z];exact nb b u e
 ·exact nb c _ z
theorem frs_in {l:List Env}:∀env∈l,∀b,env.frame=some b->b∈frs l:=λ env he b hb=>List.mem_filterMap.mpr ⟨env,he,hb⟩
theorem passes1:Passes (CX1 P w) (cxOf (CX1 P w) P w K mg base N qual scope f cd A outer s H E) E:=by
 intro pins σ H1 s1 e s' I hx
 obtain ⟨a,C,a0,H',B,rfl,os,bare,fl,inB,thB,un,okB,hE⟩:=hx
 have hfr:(cxOf (CX1 P w) P w K mg base N qual scope f cd A outer s H E).A.frames=some (envOfC qual scope s.heap.objs.size f cd::outer):=I.ok.frames
 refine wpAny_leaves_onW hfr rfl fl λ h'' fl'' up''=>?_
 have Bs:∀b o,B.get? b=some o->h''.get? b=some o:=fl''.1
 have ub:Un (frs outer) [] H H1 s.heap s1.heap:=I.base
 have stk:∀b,b ∉ frs outer->b < s.heap.objs.size->b ∉ frs (envOfC qual scope s.heap.objs.size f cd::outer):=λ b hb hlt z=>by
  rcases List.mem_cons.mp (I.stkSub b z) with q | q
  ·have q:b=s.heap.objs.size:=q
   exact Nat.lt_irrefl _ (q ▸ hlt)
  ·exact hb q
 have inB':∀b o,s.heap.get? b=some o->H b=none->b ∉ frs outer->B.get? b=some o:=λ b o e n hb =>
  inB b o (ub.keep b o e n hb (by simp)) (ub.free b o e n (by simp)) (stk b hb (Heap.lt_size e))
 have thB':∀b o,s.heap.get? b=some o->b ∉ frs outer->∃o',B.get? b=some o':=λ b o e hb=>by
  obtain ⟨o1,e1⟩:=ub.there b o e (by simp)
  exact thB b o1 e1 (stk b hb (Heap.lt_size e))
 have sub:∀b,b∈frs outer->b∈frs (envOfC qual scope s.heap.objs.size f cd::outer):=λ b hb=>List.mem_cons_of_mem _ hb
 have slot:∀b o,s.heap.get? b=some o->H b=none->b∈frs outer->∃sl,h''.get? b=some { o with slots:=sl }:=λ b o e n hb=>by
  obtain ⟨sl1,e1⟩:=ub.slot b o e n hb (by simp)
  obtain ⟨sl2,e2⟩:=un.slot b _ e1 (ub.free b o e n (by simp)) (sub b hb) (by simp)
  obtain ⟨_,o3,e3,nf⟩:=I.ok.funs.mem hb
  have e3:s.heap.get? b=some o3:=e3
  rw [e] at e3;cases e3
  obtain ⟨sl3,e4⟩:=up'' b _ e2 nf
  exact ⟨sl3,e4⟩
 have frf:∀b∈frs outer,H b=none:=I.ok.frf
 refine ⟨a,C,a0,H',B,rfl,os.trans I.os,bare,fl'',inB',thB',⟨λ b o e n hb _=>Bs _ _ (inB' b o e n hb),λ b o e n hb _=>slot b o e n hb,λ b o e n _=>?_,λ b o e _=>?_,
  λ b xs e=>un.tups b xs (ub.tups b xs e),λ b o u e=>un.frzs b o u (ub.frzs b o u e),λ b ps e=>?_⟩,okB,hE⟩
 ·obtain ⟨o1,e1⟩:=ub.there b o e (by simp)
  exact un.free b o1 e1 (ub.free b o e n (by simp)) (by simp)
 ·by_cases hb:b∈frs outer
  ·obtain ⟨sl,q⟩:=slot b o e (frf b hb) hb
   exact ⟨_,q⟩
  ·obtain ⟨o',q⟩:=thB' b o e hb
   exact ⟨o',Bs _ _ q⟩
 ·obtain ⟨m1,q1⟩:=ub.tbls b ps e
  obtain ⟨m2,q2⟩:=un.tbls b _ q1
  exact ⟨m1++m2,by rw [q2,Array.append_assoc]⟩
def RaisesTo (X:Cx) (Ex:Value->Hp->Prop):Prop:=∀(pins:List (Addr × Obj)) (σ:St) (H:Hp) (s:Shared) (h':Heap) (e C:Addr) (vs:List Value),Inv X pins σ H s->Heap.MadeExcOf s.heap h' e (.ref C) vs->Ex (.ref C) H->X.xe (.ref e) { s with heap:=h' }
theorem raises1:RaisesTo (cxOf (CX1 P w) P w K mg base N qual scope f cd A outer s H E) (λ c H'=>E c none H'):=by
 intro pins σ H1 s1 h' e C vs I hm hE
 have hfr:(cxOf (CX1 P w) P w K mg base N qual scope f cd A outer s H E).A.frames=some (envOfC qual scope s.heap.objs.size f cd::outer):=I.ok.frames
 have st:s1.heap.FunFrames base (envOfC qual scope s.heap.objs.size f cd::outer):=I.stack
 refine wpAny_leaves_madeW (base:=W.hideAll s1.heap (frs (envOfC qual scope s.heap.objs.size f cd::outer))) hfr rfl (λ b o q=>W.of_hideAll _ q) (W.funFrames_hide st frs_in) hm λ h'' t fl'' tp nt up''=>?_
 have ub:Un (frs outer) [] H H1 s.heap s1.heap:=I.base
 have Bs:=fl''.1
 have stk:∀b,b ∉ frs outer->b < s.heap.objs.size->b ∉ frs (envOfC qual scope s.heap.objs.size f cd::outer):=λ b hb hlt z=>by
  rcases List.mem_cons.mp (I.stkSub b z) with q | q
  ·have q:b=s.heap.objs.size:=q
   exact Nat.lt_irrefl _ (q ▸ hlt)
  ·exact hb q
 have inB':∀b o,s.heap.get? b=some o->H b=none->b ∉ frs outer->(W.hideAll s1.heap (frs (envOfC qual scope s.heap.objs.size f cd::outer))).get? b=some o:=λ b o e n hb =>
  W.hideAll_get _ (ub.keep b o e n hb (by simp)) (stk b hb (Heap.lt_size e))
 have thB':∀b o,s.heap.get? b=some o->b ∉ frs outer->∃o',(W.hideAll s1.heap (frs (envOfC qual scope s.heap.objs.size f cd::outer))).get? b=some o':=λ b o e hb=>by
  obtain ⟨o1,e1⟩:=ub.there b o e (by simp)
  exact ⟨o1,W.hideAll_get _ e1 (stk b hb (Heap.lt_size e))⟩
 have slot:∀b o,s.heap.get? b=some o->H b=none->b∈frs outer->∃sl,h''.get? b=some { o with slots:=sl }:=λ b o e n hb=>by
  obtain ⟨sl1,e1⟩:=ub.slot b o e n hb (by simp)
  obtain ⟨_,o3,e3,nf⟩:=I.ok.funs.mem hb
  have e3:s.heap.get? b=some o3:=e3
  rw [e] at e3;cases e3
  obtain ⟨sl3,e4⟩:=up'' b _ (hm.keeps _ _ e1) nf
  exact ⟨sl3,e4⟩
 have frf:∀b∈frs outer,H b=none:=I.ok.frf
 refine ⟨e,C,.ref t,H1,_,rfl,I.os,I.bare,fl'',inB',thB',⟨λ b o e n hb _=>Bs _ _ (inB' b o e n hb),λ b o e n hb _=>slot b o e n hb,λ b o e n _=>ub.free b o e n (by simp),λ b o e _=>?_,
  ub.tups,ub.frzs,ub.tbls⟩,hok_hide I.hok I.stkFree,hE⟩
 by_cases hb:b∈frs outer
 ·obtain ⟨sl,q⟩:=slot b o e (frf b hb) hb
  exact ⟨_,q⟩
 ·obtain ⟨o',q⟩:=thB' b o e hb
  exact ⟨o',Bs _ _ q⟩
end
def tRaise (C:Addr) (Ex:Value->Hp->Prop) (t:TA):TS:=λ _ σ H=>t σ H λ vs H1=>vs.length≤sizeLine/\Ex (.ref C) H1
theorem ps_raise {X:Cx}{x:Str}{C:Addr}{B newId initId:String}{bm:List Value}{np cpos pos:Pos}{e₀:Expr}{es:List Expr}{t:TA}{Ex:Value->Hp->Prop}
  (FB:ExcBaseFacts B newId initId bm) (hc:X.calm=true) (hg:Gl X x) (hn:W.nsIn X.K mainGlobals x=some (some (.ref C))) (hq:W.excIn X.K C bm newId=true) (hx:RaisesTo X Ex) (ha:PA X (e₀::es) t)
  (hs:starEach (e₀::es) X.env=(false,eval e₀ X.env)::starEach es X.env:=by rfl) (hpl:(backTo cpos (starEach es X.env)).any (·.1)=false:=by rfl) (hd:(x == ("__debug__" : Str))=false:=by decide) :
  PS X (.Raise (some (.Call (.Name x np) (e₀::es) [] cpos)) none pos) (tRaise C Ex t):=by
 intro pins s σ H D I h
 have O:=own_cls I.ok.mod.kin I.ok.mod.glob hn hq
 obtain ⟨tl,Nn,n1,q1,b1,d1,m1,u1,a1,l1,dd1,j0,j1,j2,j3,j5,mN,hC,hN,hni,T⟩:=O.obj
 refine wpAny_Raise_call_subT (C:=C) (nm:=n1) (q:=q1) (N:=Nn) (bs:=b1) (bm:=tl) (hdct:=d1) (sn:=m1) (sub:=u1) (ab:=a1) (col:=l1) (dd:=dd1) (k0:=j0) (k1:=j1) (k2:=j2) (k3:=j3) (k5:=j5) (mN:=mN)
  FB (T.hasType FB.hasBase) (I.ok.hd hc) (by rw [hs];show (false || (backTo cpos (starEach es X.env)).any (·.1))=false;rw [hpl];rfl) hni (ld_glob I hg O.bound ⟨rfl,?_⟩ hd)
 have hA:=ha cpos pins s σ H _ I h
 rw [hs] at hA ⊢
 refine Calls.evalArgs_plain (thn hA λ us s2 ⟨vs,H2,I2,r2,hz,hE⟩=>⟨rfl,?_,I2.bk _ _ hC,hN.keeps I2.bk,T.keeps I2.bk,λ h' e hm=>hx pins σ H2 s2 h' e C us I2 hm hE⟩)
 show us.length≤sizeLine
 rw [← r2.length]
 exact hz
section
variable {P:Program}{w:World}{K:W.Frag}{mg:Str->Option Value}{base:Heap}
theorem Fun.okX {x qual:Str}{st:Stmt}{f:Addr}{fd:FuncData}{N ps:List Str}{k:Nat}{sp:Sp}(F:Fun K x qual st f fd) (S:FnScope N ps (defScope st)) (len:∀vs H Q E,sp vs H Q E->vs.length=ps.length)
  (hbody:∀(cdv:Value) (A:Around) (outer:List Env) (s:Shared) (H:Hp) (vs:List V) (Q:VK) (E:XK),Room k (A.deeper (envOfC qual (defScope st) s.heap.objs.size f cdv))->sp vs H Q E ->
   ∃t,PSs (cxOf (CX1 P w) P w K mg base N qual (defScope st) f cdv A outer s H E) (defBody st) t/\t { nx:=λ _ H'=>Q .non H',rt:=Q } (start N vs) H):FnOk P w K mg base (CX1 P w) (k+1) f fd ps sp:=by
 obtain ⟨oc,od,kV,doc,pm,an,cdv,ct,osl,rfl,lk,hcd⟩:=F.ex
 exact fn_of lk hcd S len λ A outer s H vs Q E hr hsp=>hbody cdv A outer s H vs Q E hr hsp
theorem FnOk.up {k:Nat}{f:Addr}{fd:FuncData}{ps:List Str}{sp:Sp}(F:FnOk P w K mg base CX0 k f fd ps sp):FnOk P w K mg base (CX1 P w) k f fd ps sp :=
 ⟨F.len,λ A outer s H args us vs Q E h1 h2 h3 h4 h5=>codeAny_mono (F.run A outer s H args us vs Q E h1 h2 h3 h4 h5) λ r s' q=>by
  cases r with
  | error e=>exact False.elim q
  | ok fl=>cases fl<;>exact q⟩
end
theorem passNo {P:Program}{w:World}{X:Cx}:Passes (CX1 P w) X E0:=λ _ _ _ _ _ _ _ h=>by
 obtain ⟨_,_,_,_,_,_,_,_,_,_,_,_,_,q⟩:=h
 exact q.elim
def ExcO (a C:Addr):HO:=.ext λ h=>∃o vs,h.get? a=some o/\o.cls=.ref C/\o.data=.fields vs
section
variable {X:Cx}{pins:List (Addr × Obj)}{σ:St}{H:Hp}{s:Shared}
theorem Inv.gone {i:Nat}{x:Str}{v:Option Value}{m:Str->Option Value}{h':Heap}{t':Nat}(I:Inv X pins σ H s) (hN:X.N.Nodup) (hi:X.N[i]?=some x) (hk:X.env.scope.names.lookup x=some .local) (hm:s.heap.Ns X.env.locals m)
  (hl:∀(j:Nat) (y:Str) (z:V),X.N[j]?=some y->σ[j]?=some (some z)->Vis X.env.scope y->∃u,RelV z u/\Look X.env s.heap m y u) (hn':h'.Ns X.env.locals (λ y=>if y=x then v else m y)) (hs:Heap.SameBut X.env.locals s.heap h') :
  Inv X pins (σ.set i none) H { s with heap:=h',toks:=t' }:=by
 have hiσ:i < σ.length:=by rw [I.len];exact (List.getElem?_eq_some_iff.mp hi).1
 have cne:=I.cne
 have lne:∀b o,X.s₀.heap.get? b=some o->b≠X.env.locals:=λ b o e=>Nat.ne_of_lt (Nat.lt_of_lt_of_le (Heap.lt_size e) I.ok.above)
 refine ⟨I.ok,I.os,I.bare,⟨λ b o e n hb hx=>(hs.2 b (lne b o e)).trans (I.base.keep b o e n hb hx),λ b o e n hb hx=>?_,I.base.free,λ b o e hx=>?_,I.base.tups,I.base.frzs,I.base.tbls⟩,⟨_,hn',λ j y z e1 e2 e3=>?_⟩,
  λ y c e=>?_,I.free,I.freeC,λ p hp=>?_,λ b ob e=>?_,by simpa using I.len⟩
 ·obtain ⟨sl,q⟩:=I.base.slot b o e n hb hx
  exact ⟨sl,(hs.2 b (lne b o e)).trans q⟩
 ·obtain ⟨o',q⟩:=I.base.there b o e hx
  exact ⟨o',(hs.2 b (lne b o e)).trans q⟩
 ·by_cases hj:j=i
  ·subst hj
   rw [List.getElem?_set_self hiσ] at e2
   cases e2
  ·rw [List.getElem?_set_ne (Ne.symm hj)] at e2
   obtain ⟨u,r,q⟩:=hl j y z e1 e2 e3
   refine ⟨u,r,?_⟩
   rcases q with ⟨k,e⟩ | ⟨k,c,e,cz⟩
   ·refine .inl ⟨k,?_⟩
    have ny:y≠x:=λ e=>hj (nodup_ix hN e1 (e ▸ hi))
    simp [ny,e]
   ·exact .inr ⟨k,c,e,cz.sameBut hs (cne y c e)⟩
 ·obtain ⟨w',z⟩:=I.cell y c e
  exact ⟨w',z.sameBut hs (cne y c e)⟩
 ·obtain ⟨e,n,ne,nf,d⟩:=I.pin p hp
  exact ⟨(hs.2 p.1 ne).trans e,n,ne,nf,d⟩
 ·refine (I.hok b ob e).stay (λ c w' hc q=>(hs.2 c ?_).trans q) (λ _ q=>q) λ _ _ q=>q
  rintro rfl
  rcases hc with rfl | hc
  ·rw [I.free] at e;cases e
  ·rw [I.free] at hc;cases hc
theorem Inv.track {a:Addr}{o:HO}(I:Inv X pins σ H s) (hn:H a=none) (new:ObjOk X.prog X.w (upd H a o) s.heap a o) (h1:a≠X.env.locals) (h2:∀x c,X.env.cells.lookup x=some c->c≠a) (h3:∀p∈X.pn++pins,p.1≠a)
  (h4:X.s₀.heap.get? a=none):Inv X pins σ (upd H a o) s:=by
 have ne:∀b u,H b=some u->b≠a:=λ b u e z=>by rw [z,hn] at e;cases e
 have n0:∀b u,X.s₀.heap.get? b=some u->b≠a:=λ b u e z=>by rw [z,h4] at e;cases e
 refine ⟨I.ok,I.os,I.bare,⟨I.base.keep,I.base.slot,λ b u e n hx=>?_,I.base.there,λ b xs e=>?_,λ b u v e=>?_,λ b ps e=>?_⟩,I.loc,I.cell,?_,λ x c e=>?_,λ p hp=>?_,λ b u e=>?_,I.len⟩
 ·rw [upd_ne (n0 b u e)];exact I.base.free b u e n hx
 ·have q:=I.base.tups b xs e
  rw [upd_ne (ne b _ q)];exact q
 ·have q:=I.base.frzs b u v e
  rw [upd_ne (ne b _ q)];exact q
 ·obtain ⟨more,q⟩:=I.base.tbls b ps e
  exact ⟨more,by rw [upd_ne (ne b _ q)];exact q⟩
 ·rw [upd_ne (Ne.symm h1)];exact I.free
 ·rw [upd_ne (h2 x c e)];exact I.freeC x c e
 ·obtain ⟨e,n,ne,nf,d⟩:=I.pin p hp
  exact ⟨e,by rw [upd_ne (h3 p hp)];exact n,ne,nf,d⟩
 ·by_cases hb:b=a
  ·subst hb;rw [upd_same] at e;cases e;exact new
  ·rw [upd_ne hb] at e
   exact (I.hok b u e).stay (λ c v _ q=>q) (λ c q=>by rw [upd_ne (ne c _ q)];exact q) λ c xs q=>by rw [upd_ne (ne c _ q)];exact q
end
abbrev Cx.more (X:Cx) (xe:Value->Shared->Prop) (pn:List (Addr × Obj)):Cx:={ X with xe:=xe,pn:=pn }
abbrev Cx.suite (X:Cx) (a:Addr) (pn:List (Addr × Obj)):Cx:={ X with A:=X.A.mark (some (.ref a)),calm:=false,xe:=λ _ _=>False,pn:=pn }
theorem Cx.Ok.more {X:Cx}(ok:X.Ok) (xe:Value->Shared->Prop) (pn:List (Addr × Obj)):(X.more xe pn).Ok :=
 ⟨ok.mod,ok.kind,ok.glob,ok.blt,ok.above,ok.inj,ok.has,ok.cab,ok.hd,ok.frames,ok.stk,ok.exf,ok.bs,ok.bsz,ok.noex,ok.exfs,ok.funs,ok.frf⟩
theorem Cx.Ok.suite {X:Cx}(ok:X.Ok) (a:Addr) (pn:List (Addr × Obj)):(X.suite a pn).Ok :=
 ⟨ok.mod,ok.kind,ok.glob,ok.blt,ok.above,ok.inj,ok.has,ok.cab,λ z=>absurd z (by show ¬(false=true);decide),ok.frames,ok.stk,ok.exf,ok.bs,ok.bsz,ok.noex,ok.exfs,ok.funs,ok.frf⟩
def PassesAt (CX:CXT) (X:Cx) (E:XK) (σ:St):Prop:=∀(pins:List (Addr × Obj)) (H:Hp) (s:Shared) (e:Value) (s':Shared),Inv X pins σ H s->CX X.stack H s E e s'->X.xe e s'
section
variable {X:Cx}{CX:CXT}{k:Nat}{f:Addr}{fd:FuncData}{ps:List Str}{sp:Sp}{dvs:List V}{ds:List Value}{EE:St->XK}{x:Str}{p pos:Pos}{e:Expr}{es:List Expr}{t:TA}
def tCallX (sp:Sp) (dvs:List V) (EE:St->XK) (t:TA):TE:=λ σ H Q=>t σ H λ vs H1=>sp (vs++dvs) H1 Q (EE σ)
end
def goneEnds (D:Ends) (i:Nat):Ends:={ nx:=λ σ H=>D.nx (σ.set i none) H,rt:=D.rt,bk:=λ σ H=>D.bk (σ.set i none) H,ct:=λ σ H=>D.ct (σ.set i none) H }
def caughtBy (C:Addr) (i:Nat) (ts:TS) (D:Ends):St->XK:=λ σ1 cls _ H1=>cls=.ref C/\∀a,H1 a=none->ts (goneEnds D i) (σ1.set i (some (.ref a))) (upd H1 a (ExcO a C))
def tTry (C:Addr) (i:Nat) (tb:(St->XK)->TS) (ts:TS):TS:=λ D σ H=>tb (caughtBy C i ts D) D σ H
theorem ps_try {X:Cx}{x n:Str}{C:Addr}{bm:List Value}{newId:String}{body suite:List Stmt}{b₀:Stmt}{np hpos pos:Pos}{i:Nat}{tb:(St->XK)->TS}{ts:TS}
  (hstk:X.stack=X.env::X.outer/\X.env.frame=some X.env.locals) (hex:X.ex=[]) (hN:X.N.Nodup) (hi:X.N[i]?=some n) (hk:X.env.scope.names.lookup n=some .local)
  (hg:Gl X x) (hn:W.nsIn X.K mainGlobals x=some (some (.ref C))) (hq:W.excIn X.K C bm newId=true) (hbm:bm.contains (.type "BaseException")=true)
  (hb:∀(xe:Value->Shared->Prop) (pn:List (Addr × Obj)) (EE:St->XK),(∀σ,PassesAt (CX1 X.prog X.w) (X.more xe pn) (EE σ) σ)->PSs (X.more xe pn) body (tb EE))
  (hs:∀(a:Addr) (pn:List (Addr × Obj)),PSs (X.suite a pn) (b₀::suite) ts) (hd:(x == ("__debug__" : Str))=false:=by decide) :
  PS X (.Try body [.ExceptHandler (some (.Name x np)) (some n) (b₀::suite) hpos] [] [] pos) (tTry C i tb ts):=by
 intro pins s σ H D I h
 refine wpAny_Try_except ?_
 generalize hXE:(λ e s₁=>wpAny (model X.prog X.w) X.A (noteFrame e X.env) (λ _ s₂=>wpAny (model X.prog X.w) X.A (setFlight e none) (λ _ s₃=>wpAny (model X.prog X.w) X.A (handleBy e X.env [.ExceptHandler (some (.Name x np)) (some n) (b₀::suite) hpos]) (SP X pins D) X.xe s₃) X.xe s₂) X.xe s₁:Value->Shared->Prop)=XE
 have toY:∀ {σ':St}{H':Hp}{s':Shared},Inv X pins σ' H' s'->Inv (X.more XE (X.pn++pins)) [] σ' H' s':=λ J=>⟨J.ok.more _ _,J.os,J.bare,J.base,J.loc,J.cell,J.free,J.freeC,λ p hp=>J.pin p (by simpa using hp),J.hok,J.len⟩
 have ofY:∀ {σ':St}{H':Hp}{s':Shared}{pp:List (Addr × Obj)},Inv (X.more XE (X.pn++pins)) pp σ' H' s'->Inv X pins σ' H' s':=λ J=>⟨I.ok,J.os,J.bare,J.base,J.loc,J.cell,J.free,J.freeC,λ p hp=>J.pin p (List.mem_append_left _ hp),J.hok,J.len⟩
 have body_ok:=hb XE (X.pn++pins) (caughtBy C i ts D) ?_ [] s σ H D (toY I) h
 ·refine thn body_ok λ fl s' q=>?_
  cases fl with
  | next=>obtain ⟨σ',H',J,z⟩:=q;exact wpAny_execs_nil ⟨σ',H',ofY J,z⟩
  | brk=>obtain ⟨σ',H',J,z⟩:=q;exact ⟨σ',H',ofY J,z⟩
  | cont=>obtain ⟨σ',H',J,z⟩:=q;exact ⟨σ',H',ofY J,z⟩
  | ret u=>obtain ⟨v,σ',H',J,r,z⟩:=q;exact ⟨v,σ',H',ofY J,r,z⟩
 intro σ1 pins1 H1 s1 e s' I1 hx
 obtain ⟨a,C',a0,H',B,rfl,os,bare,fl,inB,thB,un,okB,hC',hsuite⟩:=hx
 obtain rfl:C'=C:=Value.ref.inj hC'
 subst hXE
 have fl:Heap.FlyingW B (X.env::X.outer) a (.ref C') a0 s'.heap:=by
  have z:Heap.FlyingW B X.stack a (.ref C') a0 s'.heap:=fl
  rw [hstk.1] at z;exact z
 have hfr:X.A.frames=some (X.env::X.outer):=by rw [I.ok.frames,hstk.1]
 have at_:∀h2:Heap,Heap.FlyingW B (X.env::X.outer) a (.ref C') a0 h2->s'.heap.UpToSlots h2->∀t2:Nat,Inv X pins σ1 H' { s' with heap:=h2,toks:=t2 }:=λ h2 f2 u2 t2=>by
  have J1:Inv X pins σ1 H1 s1:=ofY I1
  have slot:∀b o,s1.heap.get? b=some o->H1 b=none->b∈frs X.stack->∃sl,h2.get? b=some { o with slots:=sl }:=λ b o e nn hb=>by
   obtain ⟨sl2,e2⟩:=un.slot b o e nn hb (by simp)
   obtain ⟨_,o3,e3,nf⟩:=J1.stack.mem hb
   rw [e] at e3;cases e3
   obtain ⟨sl3,e4⟩:=u2 b _ e2 nf
   exact ⟨sl3,e4⟩
  refine J1.call' (s':={ s' with heap:=h2,toks:=t2 }) (ch:=[]) os ⟨λ b o e nn hb _=>f2.1 _ _ (inB b o e nn hb),λ b o e nn hb _=>slot b o e nn hb,un.free,λ b o e _=>?_,un.tups,un.frzs,un.tbls⟩ (okB.kept f2.1) bare (λ b z=>nomatch z)
  by_cases hb:b∈frs X.stack
  ·obtain ⟨sl,q⟩:=slot b o e (J1.stkFree b hb) hb
   exact ⟨_,q⟩
  ·obtain ⟨o',q⟩:=thB b o e hb
   exact ⟨o',f2.1 _ _ q⟩
 refine wpAny_looks_onW hfr hstk.2 fl λ h4 held4 up4=>?_
 refine wpAny_landsW held4 λ h5 fl5 up5=>?_
 have J5:=at_ h5 fl5 (up4.trans up5) s'.toks
 have O:=own_cls J5.ok.mod.kin J5.ok.mod.glob hn hq
 obtain ⟨tl,Nn,n1,q1,b1,d1,m1,u1,a1,l1,dd1,j0,j1,j2,j3,j5,mN,hC,hNn,hni,T⟩:=O.obj
 obtain ⟨oe5,ve5,he5,hc5,hd5,_⟩:=fl5.first
 have toZ:∀ {σ':St}{H':Hp}{s':Shared},Inv X pins σ' H' s'->Inv (X.suite a (X.pn++pins)) [] σ' H' s':=λ J=>⟨J.ok.suite _ _,J.os,J.bare,J.base,J.loc,J.cell,J.free,J.freeC,λ p hp=>J.pin p (by simpa using hp),J.hok,J.len⟩
 have ofZ:∀ {σ':St}{H':Hp}{s':Shared},Inv (X.suite a (X.pn++pins)) [] σ' H' s'->Inv X pins σ' H' s':=λ J=>⟨I.ok,J.os,J.bare,J.base,J.loc,J.cell,J.free,J.freeC,λ p hp=>J.pin p (List.mem_append_left _ hp),J.hok,J.len⟩
 refine wpAny_handleBy_cons (codeAny_handlers_test ?_) (by intro q;cases q)
 refine ld_glob (X:=X.suite a (X.pn++pins)) (toZ J5) hg O.bound ?_ hd
 have hC5:=J5.bk _ _ hC
 obtain ⟨hh,gg,dd,tt,oo⟩:=s'
 refine wpAny_excMatches_sub_self hC5 he5 hc5 (T.hasType hbm) ?_
 refine codeAny_handlers_suite_as ?_
 refine lands_againW fl5 λ h6 fl6 up6=>?_
 have J6:=at_ h6 fl6 ((up4.trans up5).trans up6) tt
 obtain ⟨oe,ve,hoe,hoc,hod,_⟩:=fl6.first
 have Ba:B.get? a=none:=fl6.2.1
 have Ha:H' a=none:=by
  cases q:H' a with
  | none=>rfl
  | some u =>
   have z:a < B.objs.size:=okB.lt q
   have y:=okB a u q
   obtain ⟨o9,e9⟩:∃o9,B.get? a=some o9:=by
    cases u with
    | lst xs=>obtain ⟨_,_,_,_,e⟩:=y;exact ⟨_,e⟩
    | tup xs=>obtain ⟨_,_,_,o,e,_⟩:=y;exact ⟨_,e⟩
    | dK kvs=>obtain ⟨_,_,_,_,o,_,_,e,_⟩:=y;exact ⟨_,e⟩
    | dT kvs=>obtain ⟨_,_,_,_,o,_,_,e,_⟩:=y;exact ⟨_,e⟩
    | set S n=>obtain ⟨o,_,_,_,e,_⟩:=y;exact ⟨_,e⟩
    | ins C dx fs=>obtain ⟨_,_,_,e,_⟩:=y;exact ⟨_,e⟩
    | own y'=>obtain ⟨_,e⟩:=y;exact ⟨_,e⟩
    | xd fs=>obtain ⟨_,⟨_,_,_,e,_⟩,_⟩:=y;exact ⟨_,e⟩
    | rng lo hi=>obtain ⟨_,_,_,e⟩:=y;exact ⟨_,e⟩
    | frz ob u=>obtain ⟨e,_⟩:=y;exact ⟨_,e⟩
    | tbl ps=>exact ⟨_,(show B.get? a=some _ from y)⟩
    | met f y'=>exact ⟨_,(show B.get? a=some _ from y)⟩
    | ext φ=>obtain ⟨_,⟨_,e⟩,_⟩:=y;exact ⟨_,e⟩
   rw [Ba] at e9;cases e9
 have J1:Inv X pins σ1 H1 s1:=ofY I1
 have notfields:∀b o,h6.get? b=some o->(∀vs,o.data≠.fields vs)->b≠a:=λ b o e nf z=>by
  rw [z,hoe] at e;cases e;exact nf _ hod
 obtain ⟨mL,⟨oL,esL,epL,hoL,hdL,_⟩,_⟩:=id J6.loc
 have aL:a≠X.env.locals:=λ z=>(notfields X.env.locals oL hoL λ vs q=>by rw [hdL] at q;cases q) z.symm
 have ac:∀y c,X.env.cells.lookup y=some c->c≠a:=λ y c e=>by
  obtain ⟨v,o,ho,hdc⟩:=J6.cell y c e
  exact notfields c o ho λ vs q=>by rw [hdc] at q;cases q
 have inB2:∀b o,s1.heap.get? b=some o->H1 b=none->b ∉ frs X.stack->b≠a:=λ b o e nn hb z=>by
  have q:=inB b o e nn hb
  rw [z,Ba] at q;cases q
 have nstk:∀b,b≠X.env.locals->b ∉ X.fs->b ∉ frs X.stack:=λ b h1 h2 z=>by
  rcases List.mem_cons.mp (J1.stkSub b z) with q | q
  ·exact h1 q
  ·exact h2 q
 have ap:∀p∈X.pn++pins,p.1≠a:=λ p hp=>by
  obtain ⟨e,nn,ne,nf,_⟩:=J1.pin p hp
  exact inB2 p.1 p.2 e nn (nstk p.1 ne nf)
 have a0n:X.s₀.heap.get? a=none:=by
  cases q:X.s₀.heap.get? a with
  | none=>rfl
  | some o =>
   by_cases hx:a∈X.ex
   ·rw [hex] at hx;cases hx
   ·obtain ⟨o1,e1⟩:=J1.base.there a o q hx
    by_cases hf:a∈frs X.stack
    ·obtain ⟨_,o3,e3,nf⟩:=J6.stack.mem hf
     exact absurd rfl (notfields a o3 e3 nf)
    ·obtain ⟨o',q'⟩:=thB a o1 e1 hf
     rw [Ba] at q';cases q'
 have J7:Inv X pins σ1 (upd H' a (ExcO a C')) { heap:=h6,gens:=gg,drawn:=dd,toks:=tt,os:=oo }:=J6.track Ha ⟨⟨oe,ve,hoe,hoc,hod⟩,⟨oe,hoe⟩,λ k1 k2 ⟨o,vs,e,c,d⟩ kk=>⟨o,vs,kk o e,c,d⟩⟩ aL ac ap a0n
 refine store_ok (X:=X.suite a (X.pn++pins)) (v:=.ref a) (toZ J7) hN hi (.inl hk) rfl (λ s8 J8=>?_) (.inr hk)
 refine wpAny_mono (hs a (X.pn++pins) [] s8 _ _ _ J8 (hsuite a Ha)) (λ fl s9 q=>?_) λ _ _ z=>z.elim
 have hcls:(X.env.scope.kind == .class || (X.env.scope.kind == .module && X.env.locals != X.env.globals))=false:=by rw [I.ok.kind];rfl
 have gone:∀ {σ9:St}{H9:Hp}{QQ:Unit->Shared->Prop},Inv (X.suite a (X.pn++pins)) [] σ9 H9 s9->(∀s10,Inv X pins (σ9.set i none) H9 s10->QQ () s10)->wpAny (model X.prog X.w) X.A (do bindName X.env n .none;unbindBehindTheSuite X.env n hpos) QQ X.xe s9:=λ {σ9 H9 QQ} J9 k=>by
  have J9':=ofZ J9
  obtain ⟨m,hm,hl⟩:=id J9'.loc
  exact wpAny_nameGoes_keeps hk hm hcls λ h' v hn' hs'=>k _ (J9'.gone hN hi hk hm hl hn' hs')
 cases fl with
 | next=>obtain ⟨σ9,H9,J9,z⟩:=q;exact gone J9 λ s10 J10=>⟨_,H9,J10,z⟩
 | brk=>obtain ⟨σ9,H9,J9,z⟩:=q;exact gone J9 λ s10 J10=>⟨_,H9,J10,z⟩
 | cont=>obtain ⟨σ9,H9,J9,z⟩:=q;exact gone J9 λ s10 J10=>⟨_,H9,J10,z⟩
 | ret u=>obtain ⟨v,σ9,H9,J9,r,z⟩:=q;exact gone J9 λ s10 J10=>⟨v,_,H9,J10,r,z⟩
structure Callee (P:Program) (w:World) (K:W.Frag) (mg:Str->Option Value) (base:Heap) (CX:CXT) (k:Nat) (x:Str) (ps:List Str) (sp:Sp):Prop where
 has:∃(f:Addr) (fd:FuncData),FnOk P w K mg base CX k f fd ps sp/\mg x=some (.ref f)/\W.keepIn K (.ref f)=true/\Binds K fd ps []
theorem Callee.mk' {P:Program}{w:World}{K:W.Frag}{mg:Str->Option Value}{base:Heap}{CX:CXT}{k:Nat}{x qual:Str}{st:Stmt}{f:Addr}{fd:FuncData}{ps:List Str}{sp:Sp}(F:Fun K x qual st f fd) (m:mg x=some (.ref f)) (b:Binds K fd ps [])
  (ok:FnOk P w K mg base CX k f fd ps sp):Callee P w K mg base CX k x ps sp:=⟨⟨f,fd,ok,m,F.kp,b⟩⟩
theorem Callee.mono {P:Program}{w:World}{K:W.Frag}{mg:Str->Option Value}{base:Heap}{CX:CXT}{j k:Nat}{x:Str}{ps:List Str}{sp:Sp}(c:Callee P w K mg base CX j x ps sp) (h:j≤k):Callee P w K mg base CX k x ps sp :=
 let ⟨f,fd,ok,m,kp,b⟩:=c.has;⟨⟨f,fd,ok.mono h,m,kp,b⟩⟩
section
variable {X:Cx}{CX:CXT}{k:Nat}{ps:List Str}{sp:Sp}{E:XK}{x:Str}{p pos:Pos}{e:Expr}{es:List Expr}{t:TA}
theorem pe_cal (c:Callee X.prog X.w X.K X.mg X.base CX k x ps sp) (hr:Room k X.A) (hg:Gl X x) (hx:Passes CX X E) (ha:PA X (e::es) t) (hdb:(x == ("__debug__" : Str))=false:=by decide)
  (he:starEach (e::es) X.env=(false,eval e X.env)::starEach es X.env:=by rfl) (hpl:(backTo pos (starEach es X.env)).any (·.1)=false:=by rfl):PE X (.Call (.Name x p) (e::es) [] pos) (tCall sp [] E t):=by
 obtain ⟨f,fd,ok,m,kp,b⟩:=c.has
 exact pe_call ok hr hg m kp b .nil hx ha hdb he hpl
theorem call_isi:CallR X (.builtin "isinstance") (λ xs H Q=>∃x n t b,xs=[x,.ty n]/\TyOf X.K H x t/\W.kitOne X.K t (.type n)=some b/\Q (.bl b) H):=by
 intro pins s σ H xs us Q I r h
 obtain ⟨x,n,t,b,rfl,ty,e,q⟩:=h
 obtain ⟨u,w',rfl,rx,ry⟩:=vals2 r
 cases (show w'=Value.type n from ry)
 exact isinst_ok I rx ty e λ tk=>⟨.bl b,H,I.tok tk,rfl,q⟩
end
theorem relabel_none {scope:Scope}{env:Env}(hfree:∀y∈scope.names,y.2≠.free):(relabel scope env).names=scope.names:=by
 show scope.names.map _=scope.names
 have all:∀l:List (Str × NameKind),(∀y∈l,y.2≠.free)->(l.map λ (x:Str × NameKind)=>match x with | (n,k)=>if (k == .free && env.scope.kind == .function && env.kindOf n == some .cell) then (n,.cell) else (n,k))=l:=by
  intro l
  induction l with
  | nil=>intro _;rfl
  | cons y r ih =>
   intro hy
   obtain ⟨n,k⟩:=y
   have hk:(k == NameKind.free)=false:=by simpa using hy (n,k) (List.mem_cons_self ..)
   rw [List.map_cons,ih λ z hz=>hy z (List.mem_cons_of_mem _ hz)]
   simp [hk]
 exact all _ hfree
theorem pe_comp0 {X:Cx}{elt tg iter:Expr}{scope:Scope}{pos:Pos}{own:List Str}{wi:TI}{g:TG}{te:TE}
  (hc:X.calm=true) (hi:PI X tg iter wi) (hcell:∀y∈scope.names,y.2≠.cell) (hfree:∀y∈scope.names,y.2≠.free) (hkind:scope.kind=.function)
  (hnames:∀y∈scope.names,y.2=.local->scope.names.lookup y.1=some .local)
  (hg:∀(C:Addr) (ex:List Addr) (s:Shared) (H:Hp),PG (cxComp X own scope [] C ex s H) tg g)
  (he:∀(C:Addr) (ex:List Addr) (s:Shared) (H:Hp),PE (cxComp X own scope [] C ex s H) elt te)
  (hs:∀x,foldedSetIterable iter X.env x=pure x:=by intro _;rfl) :
  PE X (.ListComp elt [⟨tg,iter,[],0⟩] scope pos) (tComp wi own.length [] g te):=by
 refine pe_comp (own:=own) (fv:=[]) (js:=[]) (cl:=[]) hc hi (closureFor_none hfree) hcell hkind hnames (λ x c h=>by cases h) (λ x h=>?_) rfl (λ i x j h=>by simp at h) (by simpa using hg) (by simpa using he) hs
 rw [relabel_none hfree] at h
 rcases h with h | h
 ·exact absurd rfl (hcell _ (PySem.mem_of_lookup h))
 ·exact absurd rfl (hfree _ (PySem.mem_of_lookup h))
def CDivW (i j:Int):Prop:=j≠0/\-18446744073709551616 < j/\j < 18446744073709551616
theorem log_small {y:Int}(h0:-18446744073709551616 < y) (h1:y < 18446744073709551616):y.natAbs.log2 < 9000:=by
 by_cases z:y.natAbs=0
 ·rw [z];decide
 ·exact Nat.lt_of_lt_of_le ((Nat.log2_lt z).mpr (show y.natAbs < 2 ^ 64 by omega)) (by decide)
theorem op_fdivW {X:Cx}:OpR X (binaryOp .FloorDiv) (rI CDivW λ i j=>.int (i.fdiv j)):=opI λ _ _ _ _ _ _ _ hc q=>floordiv_int hc.1 q (.inl (PyProof.noPylong_of_log2 (log_small hc.2.1 hc.2.2)))
section
variable {K:W.Frag}
def LoopL (K:PySem.W.Frag) (g:TG) (tb:TS) (D:Ends) (σ:St) (x:V) (H1:Hp):Prop:=∃a,x=.ref a/\(∃xs,SqL K H1 a xs)/\∃W:Nat->Nat->St->Hp->Prop,(∃m,W 0 m σ H1)/\∀i m σ H,W i m σ H ->
 ((Itl K a).stop i H/\D.nx σ H)\/((Itl K a).go i H/\∃N:St->Hp->Prop,(∀σ' H',N σ' H'->∃m',m' < m/\W (i+1) m' σ' H')/\∀x H',(Itl K a).yld i H x H'->g x σ H' λ σ2 H2=>tb { D with nx:=N,ct:=N,bk:=D.nx } σ2 H2)
def LoopT (K:PySem.W.Frag) (g:TG) (tb:TS) (D:Ends) (σ:St) (x:V) (H1:Hp):Prop:=∃a,x=.ref a/\(∃xs,SqT K H1 a xs)/\∃W:Nat->Nat->St->Hp->Prop,(∃m,W 0 m σ H1)/\∀i m σ H,W i m σ H ->
 ((Itt K a).stop i H/\D.nx σ H)\/((Itt K a).go i H/\∃N:St->Hp->Prop,(∀σ' H',N σ' H'->∃m',m' < m/\W (i+1) m' σ' H')/\∀x H',(Itt K a).yld i H x H'->g x σ H' λ σ2 H2=>tb { D with nx:=N,ct:=N,bk:=D.nx } σ2 H2)
def LoopR (lo:Int) (n:Nat) (g:TG) (tb:TS) (D:Ends) (σ:St) (H1:Hp):Prop:=∃W:Nat->Nat->St->Hp->Prop,(∃m,W 0 m σ H1)/\∀i m σ H,W i m σ H ->
 ((Itr lo n).stop i H/\D.nx σ H)\/((Itr lo n).go i H/\∃N:St->Hp->Prop,(∀σ' H',N σ' H'->∃m',m' < m/\W (i+1) m' σ' H')/\∀x H',(Itr lo n).yld i H x H'->g x σ H' λ σ2 H2=>tb { D with nx:=N,ct:=N,bk:=D.nx } σ2 H2)
theorem for_eqL {te:TE}{g:TG}{tb:TS}{D:Ends}{σ:St}{H:Hp}:tFor (iList K te) g tb D σ H=te σ H λ x H1=>LoopL K g tb D σ x H1:=rfl
theorem for_eqT {te:TE}{g:TG}{tb:TS}{D:Ends}{σ:St}{H:Hp}:tFor (iTup K te) g tb D σ H=te σ H λ x H1=>LoopT K g tb D σ x H1:=rfl
theorem for_eqR1 {ta:TA}{g:TG}{tb:TS}{D:Ends}{σ:St}{H:Hp}:tFor (iRng1 ta) g tb D σ H=ta σ H λ vs H1=>∃j:Int,vs=[.int j]/\-(2 ^ 62)≤j/\j < 2 ^ 62/\LoopR 0 j.toNat g tb D σ H1:=rfl
theorem for_eqR2 {ta:TA}{g:TG}{tb:TS}{D:Ends}{σ:St}{H:Hp}:tFor (iRng2 ta) g tb D σ H=ta σ H λ vs H1=>∃i j:Int,vs=[.int i,.int j]/\(-(2 ^ 62)≤i/\i < 2 ^ 62/\-(2 ^ 62)≤j/\j < 2 ^ 62)/\LoopR i (j - i).toNat g tb D σ H1:=rfl
theorem LoopL.mk {a:Addr}{xs:List V}{g:TG}{tb:TS}{D:Ends}{σ:St}{H:Hp}(hS:SqL K H a xs) (Pv:Nat->St->Hp->Prop) (h0:Pv 0 σ H) (hl:∀i σ H,i≤xs.length->Pv i σ H->SqL K H a xs)
  (hs:∀i x σ H,xs[i]?=some x->Pv i σ H->g x σ H λ σ2 H2=>tb { D with nx:=Pv (i+1),ct:=Pv (i+1),bk:=D.nx } σ2 H2) (hd:∀σ H,Pv xs.length σ H->D.nx σ H):LoopL K g tb D σ (.ref a) H:=⟨a,rfl,⟨xs,hS⟩,for_list Pv h0 hl hs hd⟩
theorem LoopT.mk {a:Addr}{xs:List V}{g:TG}{tb:TS}{D:Ends}{σ:St}{H:Hp}(hS:SqT K H a xs) (Pv:Nat->St->Hp->Prop) (h0:Pv 0 σ H) (hl:∀i σ H,i≤xs.length->Pv i σ H->SqT K H a xs)
  (hs:∀i x σ H,xs[i]?=some x->Pv i σ H->g x σ H λ σ2 H2=>tb { D with nx:=Pv (i+1),ct:=Pv (i+1),bk:=D.nx } σ2 H2) (hd:∀σ H,Pv xs.length σ H->D.nx σ H):LoopT K g tb D σ (.ref a) H:=⟨a,rfl,⟨xs,hS⟩,for_tup Pv h0 hl hs hd⟩
theorem LoopR.mk {lo:Int}{n:Nat}{g:TG}{tb:TS}{D:Ends}{σ:St}{H:Hp}(Pv:Nat->St->Hp->Prop) (h0:Pv 0 σ H)
  (hs:∀i σ H,i < n->Pv i σ H->g (.int (lo+i)) σ H λ σ2 H2=>tb { D with nx:=Pv (i+1),ct:=Pv (i+1),bk:=D.nx } σ2 H2) (hd:∀σ H,Pv n σ H->D.nx σ H):LoopR lo n g tb D σ H:=for_range Pv h0 hs hd
def CompL (K:PySem.W.Frag) (k:Nat) (js:List Nat) (g:TG) (te:TE) (σ:St) (x:V) (H1:Hp) (Q:VK):Prop:=∃a,x=.ref a/\(∃xs,SqL K H1 a xs)/\∃W:Nat->Nat->List V->St->Hp->Prop,(∃m,W 0 m [] (compSt k js σ) H1)/\∀i m ys σ' H',W i m ys σ' H' ->
  ((Itl K a).stop i H'/\∀p,H' p=none->Q (.ref p) (upd H' p (.lst ys))) \/
  ((Itl K a).go i H'/\ys.length < sizeLine/\∃N:List V->St->Hp->Prop,(∀zs σ2 H2,N zs σ2 H2->∃m',m' < m/\W (i+1) m' zs σ2 H2)/\∀x H2,(Itl K a).yld i H' x H2->g x σ' H2 λ σ3 H3=>te σ3 H3 λ v H4=>N (ys++[v]) σ3 H4)
def CompT (K:PySem.W.Frag) (k:Nat) (js:List Nat) (g:TG) (te:TE) (σ:St) (x:V) (H1:Hp) (Q:VK):Prop:=∃a,x=.ref a/\(∃xs,SqT K H1 a xs)/\∃W:Nat->Nat->List V->St->Hp->Prop,(∃m,W 0 m [] (compSt k js σ) H1)/\∀i m ys σ' H',W i m ys σ' H' ->
  ((Itt K a).stop i H'/\∀p,H' p=none->Q (.ref p) (upd H' p (.lst ys))) \/
  ((Itt K a).go i H'/\ys.length < sizeLine/\∃N:List V->St->Hp->Prop,(∀zs σ2 H2,N zs σ2 H2->∃m',m' < m/\W (i+1) m' zs σ2 H2)/\∀x H2,(Itt K a).yld i H' x H2->g x σ' H2 λ σ3 H3=>te σ3 H3 λ v H4=>N (ys++[v]) σ3 H4)
def CompR (lo:Int) (n k:Nat) (js:List Nat) (g:TG) (te:TE) (σ:St) (H1:Hp) (Q:VK):Prop:=∃W:Nat->Nat->List V->St->Hp->Prop,(∃m,W 0 m [] (compSt k js σ) H1)/\∀i m ys σ' H',W i m ys σ' H' ->
  ((Itr lo n).stop i H'/\∀p,H' p=none->Q (.ref p) (upd H' p (.lst ys))) \/
  ((Itr lo n).go i H'/\ys.length < sizeLine/\∃N:List V->St->Hp->Prop,(∀zs σ2 H2,N zs σ2 H2->∃m',m' < m/\W (i+1) m' zs σ2 H2)/\∀x H2,(Itr lo n).yld i H' x H2->g x σ' H2 λ σ3 H3=>te σ3 H3 λ v H4=>N (ys++[v]) σ3 H4)
theorem comp_eqL {k:Nat}{js:List Nat}{ti:TE}{g:TG}{te:TE}{σ:St}{H:Hp}{Q:VK}:tComp (iList K ti) k js g te σ H Q=ti σ H λ x H1=>CompL K k js g te σ x H1 Q:=rfl
theorem comp_eqT {k:Nat}{js:List Nat}{ti:TE}{g:TG}{te:TE}{σ:St}{H:Hp}{Q:VK}:tComp (iTup K ti) k js g te σ H Q=ti σ H λ x H1=>CompT K k js g te σ x H1 Q:=rfl
theorem comp_eqR1 {k:Nat}{js:List Nat}{ta:TA}{g:TG}{te:TE}{σ:St}{H:Hp}{Q:VK}:tComp (iRng1 ta) k js g te σ H Q=ta σ H λ vs H1=>∃j:Int,vs=[.int j]/\-(2 ^ 62)≤j/\j < 2 ^ 62/\CompR 0 j.toNat k js g te σ H1 Q:=rfl
theorem CompL.mk {a:Addr}{xs:List V}{k:Nat}{js:List Nat}{g:TG}{te:TE}{Q:VK}{σ:St}{H:Hp}(hS:SqL K H a xs) (Pv:Nat->List V->St->Hp->Prop) (h0:Pv 0 [] (compSt k js σ) H) (hl:∀i ys σ H,i≤xs.length->Pv i ys σ H->SqL K H a xs)
  (hs:∀i x ys σ H,xs[i]?=some x->Pv i ys σ H->ys.length < sizeLine/\g x σ H λ σ3 H3=>te σ3 H3 λ v H4=>Pv (i+1) (ys++[v]) σ3 H4) (hd:∀ys σ H,Pv xs.length ys σ H->∀p,H p=none->Q (.ref p) (upd H p (.lst ys))) :
  CompL K k js g te σ (.ref a) H Q:=⟨a,rfl,⟨xs,hS⟩,comp_list Pv h0 hl hs hd⟩
theorem CompT.mk {a:Addr}{xs:List V}{k:Nat}{js:List Nat}{g:TG}{te:TE}{Q:VK}{σ:St}{H:Hp}(hS:SqT K H a xs) (Pv:Nat->List V->St->Hp->Prop) (h0:Pv 0 [] (compSt k js σ) H) (hl:∀i ys σ H,i≤xs.length->Pv i ys σ H->SqT K H a xs)
  (hs:∀i x ys σ H,xs[i]?=some x->Pv i ys σ H->ys.length < sizeLine/\g x σ H λ σ3 H3=>te σ3 H3 λ v H4=>Pv (i+1) (ys++[v]) σ3 H4) (hd:∀ys σ H,Pv xs.length ys σ H->∀p,H p=none->Q (.ref p) (upd H p (.lst ys))) :
  CompT K k js g te σ (.ref a) H Q:=⟨a,rfl,⟨xs,hS⟩,comp_tup Pv h0 hl hs hd⟩
theorem CompR.mk {lo:Int}{n k:Nat}{js:List Nat}{g:TG}{te:TE}{Q:VK}{σ:St}{H:Hp}(Pv:Nat->List V->St->Hp->Prop) (h0:Pv 0 [] (compSt k js σ) H)
  (hs:∀i ys σ H,i < n->Pv i ys σ H->ys.length < sizeLine/\g (.int (lo+i)) σ H λ σ3 H3=>te σ3 H3 λ v H4=>Pv (i+1) (ys++[v]) σ3 H4) (hd:∀ys σ H,Pv n ys σ H->∀p,H p=none->Q (.ref p) (upd H p (.lst ys))) :
  CompR lo n k js g te σ H Q:=comp_range Pv h0 hs hd
end
theorem cxOf_K {CX:CXT}{P:Program}{w:World}{K:W.Frag}{mg:Str->Option Value}{base:Heap}{N:List Str}{qual:Str}{scope:Scope}{f:Addr}{cd:Value}{A:Around}{outer:List Env}{s:Shared}{H:Hp}{E:XK}:(cxOf CX P w K mg base N qual scope f cd A outer s H E).K=K:=rfl
theorem cxComp_K {X:Cx}{N:List Str}{scope:Scope}{cl:List (Str × Addr)}{C:Addr}{ex:List Addr}{s:Shared}{H:Hp}:(cxComp X N scope cl C ex s H).K=X.K:=rfl
def tyS:V->Option String
 | .int _=>some "int"
 | .bl _=>some "bool"
 | .str _=>some "str"
 | .non=>some "NoneType"
 | _=>none
def isiN (t n:String):Bool:=t == n || (t == "bool" && n == "int")
def isiB (x:V) (n:String):Bool:=match tyS x with
 | some t=>isiN t n
 | none=>false
theorem isi_ii {i:Int}:isiB (.int i) "int" = true:=by show isiN "int" "int" = true;decide +kernel
theorem isi_ib {i:Int}:isiB (.int i) "bool" = false:=by show isiN "int" "bool" = false;decide +kernel
theorem isi_bi {b:Bool}:isiB (.bl b) "int" = true:=by show isiN "bool" "int" = true;decide +kernel
theorem isi_bb {b:Bool}:isiB (.bl b) "bool" = true:=by show isiN "bool" "bool" = true;decide +kernel
theorem isi_it {i:Int}:isiB (.int i) "tuple" = false:=by show isiN "int" "tuple" = false;decide +kernel
theorem kit_type {K:W.Frag}{t n:String}{b:Bool}(e:(if (Value.type t == Value.type n)=true then some true else if W.kitMeta n=true then (fastBuiltinMro t).map (·.contains (.type n)) else none)=some b):W.kitOne K (.type t) (.type n)=some b:=by
 unfold W.kitOne
 split at e
 ·rename_i h;rw [if_pos h];exact e
 ·rename_i h;rw [if_neg h];exact e
theorem na2:(Int.natAbs 2 < 18446744073709551616)=True:=eq_true (by decide)
theorem na10:(Int.natAbs 10 < 18446744073709551616)=True:=eq_true (by decide)
theorem same_new {H:Hp}{p:Addr}(h:H p=none) (o:HO):Same H (upd H p o):=λ b u q=>by rw [upd_ne (ne_of_none q h)];exact q
theorem small {n:Nat}(h:n≤1000):n≤sizeLine:=Nat.le_of_lt (small1000 h)
theorem Same.tup {K:W.Frag}{H H':Hp}{a:Addr}{xs:List V}(e:Same H H') (h:SqT K H a xs):SqT K H' a xs:=by
 rcases h with (h | ⟨o,h⟩) | h
 ·exact .inl (.inl (e _ _ h))
 ·exact .inl (.inr ⟨o,e _ _ h⟩)
 ·exact .inr h
theorem st_one {σ:St}(h:σ.length=1):∃z,σ=[z]:=by
 match σ,h with
 | [z],_=>exact ⟨z,rfl⟩
theorem take_succ' {α:Type}{l:List α}{i:Nat}{x:α}(h:l[i]?=some x):l.take (i+1)=l.take i++[x]:=by
 rw [List.take_succ,h];rfl
theorem CompL.vals {K:W.Frag}{a:Addr}{xs:List V}{te:TE}{Q:VK}{σ:St}{H:Hp}{fn:V->V}(hS:SqL K H a xs) (hz:xs.length≤1000)
  (hs:∀x∈xs,∀H1,Same H H1->∀Q':VK,(∀H2,Same H1 H2->Q' (fn x) H2)->te [some x] H1 Q')
  (hd:∀H1,Same H H1->∀p,H1 p=none->Q (.ref p) (upd H1 p (.lst (xs.map fn)))):CompL K 1 [] (gName 0) te σ (.ref a) H Q:=by
 refine CompL.mk hS (λ i ys σ' H'=>Same H H'/\ys=(xs.take i).map fn/\σ'.length=1) ⟨Same.refl _,rfl,rfl⟩ (λ i ys σ' H' _ h=>h.1.seq hS) (λ i x ys σ' H' e h=>?_) (λ ys σ' H' h p hp=>?_)
 ·obtain ⟨h1,rfl,h3⟩:=h
  obtain ⟨z,rfl⟩:=st_one h3
  refine ⟨?_,?_⟩
  ·rw [List.length_map,List.length_take]
   exact Nat.lt_of_le_of_lt (Nat.min_le_right _ _) (small1000 hz)
  ·refine hs x (List.mem_of_getElem? e) H' h1 _ λ H2 h2=>⟨h1.trans h2,?_,rfl⟩
   rw [take_succ' e,List.map_append];rfl
 ·obtain ⟨h1,rfl,h3⟩:=h
  rw [List.take_length]
  exact hd H' h1 p hp
section
variable {X:Cx}
def rInT:R2:=λ x y H Q=>∃p xs,y=.ref p/\H p=some (.tup xs)/\flatV x=true/\xs.all flatV=true/\Q (.bl (inV x xs)) H
def rInL:R2:=λ x y H Q=>∃p xs,y=.ref p/\H p=some (.lst xs)/\flatV x=true/\xs.all flatV=true/\Q (.bl (inV x xs)) H
theorem op_inT:OpR X (compareOp .In) rInT:=by
 intro pins s σ H x y v u Q I rx ry h
 obtain ⟨p,xs,rfl,hq,fx,fs,q⟩:=h
 exact op_in_seq pins s σ H x _ v u Q I rx ry ⟨p,xs,rfl,.inr (.of hq),fx,fs,q⟩
def rIxLH:R2:=λ x y H Q=>∃p xs i v,x=.ref p/\y=.int i/\H p=some (.lst xs)/\atI xs i=some v/\Q v H
def rIxTH:R2:=λ x y H Q=>∃p xs i v,x=.ref p/\y=.int i/\H p=some (.tup xs)/\atI xs i=some v/\Q v H
theorem ix_listH:IxR X rIxLH:=by
 intro value slice pins s σ H x y v u Q I rx ry h hs
 obtain ⟨p,xs,i,z,rfl,rfl,hq,he,q⟩:=h
 exact ix_list value slice pins s σ H _ _ v u Q I rx ry ⟨p,xs,i,z,rfl,rfl,.of hq,he,q⟩ hs
theorem ix_tupH:IxR X rIxTH:=by
 intro value slice pins s σ H x y v u Q I rx ry h hs
 obtain ⟨p,xs,i,z,rfl,rfl,hq,he,q⟩:=h
 exact ix_tup value slice pins s σ H _ _ v u Q I rx ry ⟨p,xs,i,z,rfl,rfl,.of hq,he,q⟩ hs
end
section
variable {X:Cx}
def gTupH (n:Nat) (t:TGs):TG:=λ v σ H Q=>∃a xs,v=.ref a/\H a=some (.tup xs)/\xs.length=n/\t xs σ H Q
theorem pg_tupH {es:List Expr}{k:Nat}{pos:Pos}{t:TGs}{n:Nat}(h:PG X (.Tuple es k pos) (gTup X.K n t)):PG X (.Tuple es k pos) (gTupH n t):=by
 intro pins s σ H v u Q I r q
 obtain ⟨a,xs,e,ha,hl,q⟩:=q
 exact h pins s σ H v u Q I r ⟨a,xs,e,.of ha,hl,q⟩
def tApp (to te:TE):TE:=λ σ H Q=>to σ H λ x H1=>∃l,x=.ref l/\(∃xs,H1 l=some (.lst xs))/\te σ H1 λ v H2=>∃xs,H2 l=some (.lst xs)/\xs.length < sizeLine/\Q .non (upd H2 l (.lst (xs++[v])))
theorem pe_app {o e:Expr}{to te:TE}{apos cpos:Pos}(ho:PE X o to) (he:PE X e te)
  (hbase:attributeBase o "append" X.env (eval o X.env)=eval o X.env:=by rfl) (hfew:((backTo cpos (starEach [e] X.env)).all (λ x=>!x.1) && (backToKw cpos (keywordEach [] X.env)).all (λ x=>x.1.isSome)
   && decide ([e].length+([]:List Keyword).length+(if ([]:List Keyword).isEmpty then 0 else 1) < 30))=true:=by rfl)
  (hline:(apos.endLine == cpos.line)=true:=by rfl) (hs:starEach [e] X.env=[(false,eval e X.env)]:=by rfl):PE X (.Call (.Attribute o "append" apos) [e] [] cpos) (tApp to te):=by
 intro pins s σ H Q I h
 refine wpAny_Call_method_late hbase hfew hline rfl (thn (ho pins s σ H _ I h) λ v s1 ⟨x,H1,I1,r1,q1⟩=>?_)
 obtain ⟨l,rfl,⟨xs1,hx1⟩,q2⟩:=q1
 obtain ⟨h1,h2⟩:=tyV_is (T := "list") I1 r1 (.inl ⟨rfl,_,.of hx1⟩)
 refine ⟨"list", "list.append",PySem.F.plainAttrs_list,PySem.F.slot_list_append,PySem.F.type_list_append,h1,h2,?_⟩
 have hA:=(pa_cons he pa_nil hs) cpos pins s1 σ H1 (λ vs H2=>match vs with | [v]=>∃xs,H2 l=some (.lst xs)/\xs.length < sizeLine/\Q .non (upd H2 l (.lst (xs++[v]))) | _=>False) I1 q2
 rw [hs] at hA ⊢
 refine Calls.callWith_builtin rfl (Calls.evalArgs_plain ?_)
 refine thn hA λ us s2 ⟨vs,H2,I2,r2,q3⟩=>?_
 match vs,q3 with
 | [v2],⟨xs,hx,hz,q⟩=>exact mt_append pins s2 σ H2 (.ref l) [v2] v us Q I2 r1 r2 ⟨l,xs,v2,rfl,rfl,hx,hz,q⟩
end
def SameX (l:Addr) (H H':Hp):Prop:=∀b o,b≠l->H b=some o->H' b=some o
theorem SameX.refl (l:Addr) (H:Hp):SameX l H H:=λ _ _ _ h=>h
theorem SameX.trans {l:Addr}{H H1 H2:Hp}(a:SameX l H H1) (b:SameX l H1 H2):SameX l H H2:=λ c o n h=>b c o n (a c o n h)
theorem SameX.set {l:Addr}(H:Hp) (o:HO):SameX l H (upd H l o):=λ b u n e=>by rw [upd_ne n];exact e
end L2
namespace L2
open PySem PySem.Spec PyProof.Rows PySem.W PySem.Calls
structure ExcK (K:W.Frag) (C:Addr):Prop where
 cls:(clsIn K C).isSome=true
 ga:findIn K (.ref C) "__getattribute__" = some (some (.builtin "BaseException.__getattribute__"))
 gt:findIn K (.ref C) "__getattr__" = some none
 cl:findIn K (.ref C) "__class__" = some (some (.builtin "object.__class__"))
 mo:mroIn K C (.type "object")=some true
 mb:mroIn K C (.type "BaseException")=some true
section
variable {prog:Program}{w:World}{A:Around}{E:Value->Shared->Prop}{K:W.Frag}{h:Heap}{g:Array GenState}{d:Drawn}{t:Nat}{os:OsState}{a C:Addr}{ox:Obj}
theorem exc_get {R:Result->Shared->Prop}(X:K.In h) (k:ExcK K C) (hx:h.get? a=some ox) (hc:ox.cls=.ref C) (hq:R (.ok (.ret (.ref C))) ⟨h,g,d,t,os⟩) :
  codeAny (model prog w) A (.call (.builtin "getset_descriptor.__get__") ⟨[.builtin "object.__class__",.ref a,.ref C],[]⟩) R ⟨h,g,d,t,os⟩:=by
 have L0:Looks (model prog w) h (typeOf (.ref a)) (.ref C):=hc ▸ (Looks.ld hx).andThen .now
 have L1:=looks_mroIn (M:=model prog w) X k.mo
 have hT5:(⟨h,g,d,t,os⟩:Shared).TypeIs (.builtin "object.__class__") "getset_descriptor" := F.typeOf_object_class
 have L2:Looks (model prog w) h (isSubtype (.ref C) (.type (".".intercalate ("object.__class__".cutAt '.').dropLast))) true:=by
  rw [show (".".intercalate ("object.__class__".cutAt '.').dropLast) = "object" by decide +kernel]
  exact L1
 refine codeAny_call_builtin F.slot_gs_get.plain F.entry_gs_get (F.slot_gs_get.check _ _ _ _ _ _ _ _ hT5 (F.args_gs_get _ _ _) ?_)
 repeat (any_goals (first | assumption | with_reducible refine L0.at ?_ | with_reducible refine L2.at ?_ | wp_step))
 refine ⟨Code.quiet_builtin _ (by decide +kernel),codeAny_builtin F.entry_object_class ?_⟩
 repeat (any_goals (first | assumption | with_reducible refine L0.at ?_ | wp_step))
theorem exc_entry {tk:Tok}{Q:Fin->Shared->Prop}(X:K.In h) (k:ExcK K C) (hx:h.get? a=some ox) (hc:ox.cls=.ref C) (hq:Q (.done (.ret (.ref C))) ⟨h,g,d,t,os⟩) :
  wpAny (model prog w) A (Builtin.«object.__getattribute__» ⟨[.ref a,.str "__class__" tk],[]⟩) Q E ⟨h,g,d,t,os⟩:=by
 have L0:Looks (model prog w) h (typeOf (.ref a)) (.ref C):=hc ▸ (Looks.ld hx).andThen .now
 have L3:=looks_findIn (M:=model prog w) X k.cl
 have hT5:(⟨h,g,d,t,os⟩:Shared).TypeIs (.builtin "object.__class__") "getset_descriptor" := F.typeOf_object_class
 have f5:=F.typeOf_object_class
 have f6:=F.slot_gs_get.lookup
 have f7:=F.slot_gs_set.lookup
 repeat (any_goals (first | assumption | with_reducible refine L0.at ?_ | with_reducible refine L3.at ?_ | wp_step))
 refine exc_get X k hx hc ?_
 repeat (any_goals (first | assumption | wp_step))
theorem exc_check {M:Model}{nameV:Value}{Q:Unit->Shared->Prop}(X:K.In h) (k:ExcK K C) (hx:h.get? a=some ox) (hc:ox.cls=.ref C) (hq:Q () ⟨h,g,d,t,os⟩) :
  wpAny M A (checkBuiltinCall "BaseException.__getattribute__" ⟨[.ref a,nameV],[]⟩) Q E ⟨h,g,d,t,os⟩:=by
 have e1:builtinKind "BaseException.__getattribute__" = some .slot:=by decide +kernel
 have e2:splitId "BaseException.__getattribute__" = some ("BaseException", "__getattribute__"):=by decide +kernel
 have e3:=F.args_bexc_ga (.ref a) nameV
 have L0:Looks M h (typeOf (.ref a)) (.ref C):=hc ▸ (Looks.ld hx).andThen .now
 have L5:=looks_mroIn (M:=M) X k.mb
 have LI:Looks M h (isInstance (.ref a) (.type "BaseException")) true:=L0.andThen L5
 simp only [checkBuiltinCall,e1,e2]
 refine wpAny_bind (LI.at ?_)
 repeat (first | assumption | wp_step)
theorem exc_ca {Q:Option Value->Shared->Prop}{s:Shared}(X:K.In s.heap) (k:ExcK K C) (hx:s.heap.get? a=some ox) (hc:ox.cls=.ref C) (hq:Q (some (.ref C)) { s with toks:=s.toks+1 }) :
  wpAny (model prog w) A (getAttr? (.ref a) "__class__") Q E s:=by
 obtain ⟨h,g,d,t,os⟩:=s
 have L0:Looks (model prog w) h (typeOf (.ref a)) (.ref C):=hc ▸ (Looks.ld hx).andThen .now
 have L1:=looks_findIn (M:=model prog w) X k.ga
 have L2:=looks_findIn (M:=model prog w) X k.gt
 have f3:=F.excAttr_ValueError.ga.bind (.ref a)
 unfold getAttr? getAttrBy? getAttrBy
 refine wpAny_bind (wpAny_mkText (wpAny_bind (wpAny_attempt (wpAny_holding (wpAny_bind (L0.at (wpAny_bind (L1.at ?_))))))))
 dsimp only
 have n1:¬(onTheHeap (Value.ref C) && Value.builtin "BaseException.__getattribute__" == Value.builtin "object.__getattribute__")=true:=by
  show ¬((true && (Value.builtin "BaseException.__getattribute__" == Value.builtin "object.__getattribute__"))=true)
  decide +kernel
 rw [if_neg n1]
 unfold getAttrByItsOwn hookBefore
 refine wpAny_bind ?_
 rw [if_pos (show onTheHeap (Value.ref C)=true from rfl)]
 refine L2.at (wpAny_bind (wpAny_attempt (wpAny_holding ?_)))
 unfold callGetattribute
 rw [if_neg (by decide +kernel)]
 unfold boundAndCalled
 refine wpAny_bind (wpAny_of_eq f3 ?_)
 refine wpAny_call (codeAny_call_builtin F.excAttr_ValueError.ga.plain F.entry_bexc_ga (exc_check X k hx hc (exc_entry X k hx hc ?_)))
 repeat (any_goals (first | assumption | wp_step))
end
theorem kitx_exc {K:W.Frag}{a C:Addr}(k:ExcK K C):KitX K (.ref a) (.ref C) (λ h=>∃o vs,h.get? a=some o/\o.cls=.ref C/\o.data=.fields vs) where
 ty:=λ M h _ ⟨o,_,h1,h2,_⟩=>h2 ▸ (Looks.ld h1).andThen .now
 it:=λ M h X _=>by
  obtain ⟨cd,hcd⟩:=Option.isSome_iff_exists.mp k.cls
  unfold clsIn at hcd
  split at hcd
  ·rename_i z1 z2 z3 z4 hlk
   intro A' Q' E' s' kk q
   unfold isType loadHead
   exact wpAny_bind (wpAny_loadPart (kk _ _ (X _ _ hlk)) (wpAny_pure q))
  ·cases hcd
 ne:=λ h tp dd its n sl X htp=>by
  obtain ⟨cd,hcd⟩:=Option.isSome_iff_exists.mp k.cls
  refine Bool.eq_false_iff.mpr λ q=>?_
  have e:C=tp:=Value.ref.inj (beq_iff_eq.mp q)
  subst e
  unfold clsIn at hcd
  split at hcd
  ·rename_i z1 z2 z3 z4 hlk
   have z:=(X _ _ hlk).symm.trans htp
   cases z
  ·cases hcd
 ca:=λ X ⟨o,_,h1,h2,_⟩ q=>exc_ca X k h1 h2 q
section
variable {X:Cx}
theorem call_isiET {C:Addr}{cs:List Addr}{b:Bool}(k:ExcK X.K C) (e:kitAny X.K (.ref C) (cs.map Value.ref)=some b) :
  CallR X (.builtin "isinstance") (λ xs H Q=>∃a p,xs=[.ref a,.ref p]/\H a=some (ExcO a C)/\H p=some (.tup (cs.map V.ref))/\Q (.bl b) H):=by
 intro pins s σ H xs us Q I r h
 obtain ⟨a,p,rfl,ha,hp,q⟩:=h
 obtain ⟨u,u',rfl,r1,r2⟩:=vals2 r
 cases (show u=Value.ref a from r1)
 cases (show u'=Value.ref p from r2)
 obtain ⟨pe,_⟩:=(show ObjOk X.prog X.w H s.heap a (ExcO a C) from I.hok a _ ha)
 obtain ⟨zz,its,rv,ot,h1,h2,n,h3⟩:=(show ObjOk X.prog X.w H s.heap p (.tup (cs.map V.ref)) from I.hok p _ hp)
 have ei:its=cs.map Value.ref:=by
  clear hp h3 h1 e zz
  induction cs generalizing its with
  | nil=>cases rv;rfl
  | cons c r ih =>
   cases rv with
   | cons z rr =>
    rw [ih _ rr]
    cases (show _=Value.ref c from z)
    rfl
 subst ei
 obtain ⟨oc,od,oda,osl⟩:=ot
 dsimp only at h2 h3
 subst h2 h3
 exact kia_tup (kitx_exc k) I.kIn pe h1 e (λ z=>nomatch z) λ tk=>⟨.bl b,H,I.tok tk,rfl,q⟩
theorem pe_cls {x:Str}{C:Addr}{pos:Pos}(hg:Gl X x) (hn:W.nsIn X.K mainGlobals x=some (some (.ref C))) (hd:(x == ("__debug__" : Str))=false:=by decide):PE X (.Name x pos) (tC (.ref C)):=by
 intro pins s σ H Q I h
 exact ld_glob I hg (W.mg_of I.ok.mod.kin I.ok.mod.glob hn) ⟨.ref C,H,I,rfl,h⟩ hd
end
def rvObj (t:Addr) (i:Int):Obj:={ cls:=.type "reversed",data:=.fields #[.ref t,rawInt i] }
def IsRv (h:Heap) (a t:Addr) (i:Int):Prop:=∃o,h.get? a=some o/\o.cls=.type "reversed" /\ o.data=.fields #[.ref t,rawInt i]
theorem IsRv.typeIs {s:Shared}{a t:Addr}{i:Int}(x:IsRv s.heap a t i):s.TypeIs (.ref a) "reversed" := let ⟨o,ho,hc,_⟩:=x;⟨o,ho,hc⟩
theorem tup_norev:typeLookup (.type "tuple") "__reversed__" = pure none:=by rw [typeLookup_type,builtinLookup_eq_fast];kernel_rfl
theorem tup_getitem:typeLookup (.type "tuple") "__getitem__" = pure (some (.builtin "tuple.__getitem__")):=by rw [typeLookup_type,builtinLookup_eq_fast];kernel_rfl
theorem tup_nodict:isSubtype (.type "tuple") (.type "dict")=pure false:=by rw [isSubtype_type];kernel_rfl
theorem rv_init:Slot "reversed" "__init__" "object.__init__" :=
 .of (owner := "object") (n := "__init__") (by rw [typeLookup_type,builtinLookup_eq_fast];kernel_rfl) (by decide +kernel) (by decide +kernel) (by decide +kernel) (.inl (by decide +kernel)) (by rw [isSubtype_type];kernel_rfl)
theorem rv_next:Slot "reversed" "__next__" "reversed.__next__" :=
 .of (owner := "reversed") (n := "__next__") (by rw [typeLookup_type,builtinLookup_eq_fast];kernel_rfl) (by decide +kernel) (by decide +kernel) (by decide +kernel) (.inl (by decide +kernel)) (by rw [isSubtype_type];kernel_rfl)
theorem rv_iter:Slot "reversed" "__iter__" "reversed.__iter__" :=
 .of (owner := "reversed") (n := "__iter__") (by rw [typeLookup_type,builtinLookup_eq_fast];kernel_rfl) (by decide +kernel) (by decide +kernel) (by decide +kernel) (.inl (by decide +kernel)) (by rw [isSubtype_type];kernel_rfl)
theorem rv_entry_next:entryFor table "reversed.__next__" = some Builtin.«reversed.__next__»:=entryFor_of_tree (by kernel_rfl)
theorem rv_entry_iter:entryFor table "reversed.__iter__" = some Builtin.«dict_keyiterator.__iter__» :=
 entryFor_alias (id' := "dict_keyiterator.__iter__") (by kernel_rfl) (by first | rfl | decide +kernel) (by decide +kernel) (by kernel_rfl)
theorem rv_args_next (a:Value):argsOk "reversed.__next__" ⟨[a],[]⟩:=by unfold argsOk;kernel_rfl
theorem rv_args_iter (a:Value):argsOk "reversed.__iter__" ⟨[a],[]⟩:=by unfold argsOk;kernel_rfl
theorem rv_called:TypeCalled "reversed" "reversed.__new__" "object.__init__" :=
 ⟨by decide +kernel,PySem.F.create_reversed,⟨_,_,PySem.F.mro_reversed⟩,PySem.F.made_reversed,PySem.F.plain_reversed_new,PySem.F.sub_reversed_self,rv_init⟩
theorem rv_new (t:Addr) (items:Array Value) (hz:(items.size:Int) < 2 ^ 63):Meets (Builtin.«reversed.__new__» ⟨[.type "reversed",.ref t],[]⟩)
  (λ _ R s=>IsTup s.heap t items/\∀tk,R (.ok (.ret (.ref s.heap.objs.size))) { s with heap:=s.heap.push (rvObj t ((items.size:Int) - 1)),toks:=tk }) :=
 .of_wp λ prog w A R s h=>by
  obtain ⟨ht,h⟩:=h
  have hT:s.TypeIs (.ref t) "tuple" := ht.typeIs
  unfold Builtin.«reversed.__new__»
  refine wpAny_bind (wpAny_of_eq (PySem.newClass_reversed _) ?_)
  try dsimp only
  refine wpAny_bind (wpAny_of_eq (a:=()) (by first | rfl | kernel_rfl) ?_)
  refine wpAny_bind (wpAny_of_eq (a:=()) (by first | rfl | kernel_rfl) ?_)
  try dsimp only
  refine wpAny_bind (wpAny_specialOf hT tup_norev ?_)
  try dsimp only
  refine wpAny_bind ?_
  k_delta "hasItemSlot"
  refine wpAny_bind (wpAny_isInstance (T := "tuple") (b:=false) hT tup_nodict ?_)
  rw [if_neg Bool.false_ne_true]
  refine wpAny_bind (wpAny_specialOf hT tup_getitem ?_)
  dsimp only
  rw [if_pos (by decide +kernel)]
  refine wpAny_pure ?_
  rw [if_neg (by decide)]
  refine wpAny_bind (len_tuple ht hz ?_)
  refine wpAny_bind (wpAny_of_eq (a:=some (items.size:Int)) rfl ?_)
  dsimp only
  refine wpAny_bind ?_
  unfold Builtin.SmallTypes.newRecord
  refine wpAny_newObj_type (wpAny_pure ⟨_,rfl,h _⟩)
section
variable {prog:Program}{w:World}{A:Around}{E:Value->Shared->Prop}{s:Shared}
theorem call_rv {t:Addr}{items:Array Value}{Q:Value->Shared->Prop}(ht:IsTup s.heap t items) (hz:(items.size:Int) < 2 ^ 63)
  (h:∀tk,Q (.ref s.heap.objs.size) { s with heap:=s.heap.push (rvObj t ((items.size:Int) - 1)),toks:=tk }):wpAny (model prog w) A (call (.type "reversed") [.ref t]) Q E s :=
 callType_new rv_called (by decide) (PySem.F.typeCall_reversed_1 _) (PySem.F.newCall_reversed_1 _) (λ obj=>F.args_object_init_2 obj _) PySem.F.entry_reversed_new (rv_new t items hz)
  ⟨ht,λ tk=>⟨⟨_,Heap.get?_push_size _ rfl,rfl⟩,h tk⟩⟩
theorem rv_item {it t:Addr}{i:Nat}{items:Array Value}{x:Value}{Q:Option Value->Shared->Prop}(hit:IsRv s.heap it t (i:Int)) (ht:IsTup s.heap t items) (hx:items[i]?=some x) (hz:(items.size:Int) < 2 ^ 63)
  (hQ:∀h' tk,IsRv h' it t ((i:Int) - 1)->Heap.SameBut it s.heap h'->Q (some x) { s with heap:=h',toks:=tk }):wpAny (model prog w) A (pyNext (.ref it)) Q E s:=by
 obtain ⟨o,ho,hc,hd⟩:=id hit
 have hT:s.TypeIs (.ref t) "tuple" := ht.typeIs
 have hi:i < items.size:=(Array.getElem?_eq_some_iff.mp hx).1
 unfold pyNext
 refine wpAny_bind (wpAny_attempt (wpAny_callSpecial?_slot (name:=Str.ofString "__next__") hit.typeIs rv_next (wpAny_call_entry rv_next hit.typeIs rv_entry_next ?_ (rv_args_next _))))
 unfold Builtin.«reversed.__next__»
 refine wpAny_bind (wpAny_of_eq (a:=(Value.ref it,[])) rfl ?_)
 try dsimp only
 refine wpAny_bind (wpAny_field ho hd (x:=.ref t) rfl ?_)
 refine wpAny_bind (wpAny_field ho hd (x:=rawInt (i:Int)) rfl ?_)
 show wpAny _ _ (if (i:Int) < 0 then _ else _) _ _ s
 rw [if_neg (by omega)]
 refine wpAny_bind (wpAny_specialOf hT tup_getitem ?_)
 rw [if_neg (by decide)]
 refine wpAny_bind (wpAny_mkInt ?_)
 refine wpAny_bind (wpAny_attempt (getItem_tuple (k:=(i:Int)) (j:=i) ht (by omega) (by omega) (by simp [seqIndex?];omega) hx ?_))
 dsimp only
 refine wpAny_bind (wpAny_field ho hd (x:=rawInt (i:Int)) rfl ?_)
 show wpAny _ _ (setField (.ref it) 1 (rawInt ((i:Int) - 1)) >>= _) _ _ _
 refine wpAny_bind (wpAny_setField ho hd (by simp) ?_)
 refine wpAny_pure ⟨x,rfl,wpAny_pure (hQ _ _ ?_ (Heap.SameBut.update ..))⟩
 exact ⟨_,Heap.get?_update_self _ ho (Obj.isFreed_of_fields (Obj.data_mapFields hd _)),(Obj.cls_mapFields ..).trans hc,by rw [Obj.data_mapFields hd];simp⟩
theorem rv_end {it t:Addr}{Q:Option Value->Shared->Prop}(hh:A.handled=none) (hit:IsRv s.heap it t (-1)) (hQ:∀h' tk,Heap.ExtBut it s.heap h'->Q none { s with heap:=h',toks:=tk }):wpAny (model prog w) A (pyNext (.ref it)) Q E s:=by
 obtain ⟨o,ho,hc,hd⟩:=id hit
 unfold pyNext
 refine wpAny_bind (wpAny_attempt (wpAny_callSpecial?_slot (name:=Str.ofString "__next__") hit.typeIs rv_next (wpAny_call_entry rv_next hit.typeIs rv_entry_next ?_ (rv_args_next _))))
 unfold Builtin.«reversed.__next__»
 refine wpAny_bind (wpAny_of_eq (a:=(Value.ref it,[])) rfl ?_)
 try dsimp only
 refine wpAny_bind (wpAny_field ho hd (x:=.ref t) rfl ?_)
 refine wpAny_bind (wpAny_field ho hd (x:=rawInt (-1)) rfl ?_)
 show wpAny _ _ (if (-1:Int) < 0 then _ else _) _ _ s
 rw [if_pos (by decide)]
 refine wpAny_bind (wpAny_rule ?_)
 refine wpAny_bind ?_
 k_delta "reversedEnd"
 refine wpAny_bind (wpAny_setField ho hd (by simp) ?_)
 refine wpAny_setField (Heap.get?_update_self _ ho (Obj.isFreed_of_fields (Obj.data_mapFields hd _))) (Obj.data_mapFields hd _) (by simp) ?_
 refine wpAny_bind ?_
 have other:∀b u,b≠it->s.heap.get? b=some u->((s.heap.update it (Obj.mapFields λ x=>x.setIfInBounds 1 (rawInt (-1)))).update it (Obj.mapFields λ x=>x.setIfInBounds 0 Value.none)).get? b=some u:=λ b u nb e=>by
  rw [Heap.get?_update_other _ _ (Ne.symm nb),Heap.get?_update_other _ _ (Ne.symm nb)];exact e
 generalize ((s.heap.update it (Obj.mapFields λ x=>x.setIfInBounds 1 (rawInt (-1)))).update it (Obj.mapFields λ x=>x.setIfInBounds 0 Value.none))=hU at *
 show wpAny _ _ (newExc (.type "StopIteration") [] >>= _) _ _ _
 refine wpAny_bind ?_
 simp only [newExc,newTuple]
 refine wpAny_bind (wpAny_newObj_type ?_ (by size_fits))
 refine wpAny_bind (m:=firstArgMember _ _) (wpAny_of_eq (a:=Value.none) (by first | rfl | (simp only [firstArgMember];rfl)) ?_)
 refine wpAny_newObj_type ?_ (by size_fits)
 simp only [raiseNew]
 refine wpAny_bind (wpAny_handled ?_)
 rw [show A.in1.handled=none from hh]
 refine wpAny_bind (wpAny_pure (wpAny_throw ?_))
 refine wpAny_bind (wpAny_isInstance (T := "StopIteration") (b:=true) ⟨_,Heap.get?_push_size _ rfl,rfl⟩ isSubtype_stop ?_)
 exact wpAny_pure (hQ _ _ λ b u nb e=>Heap.get?_push_of_some _ (Heap.get?_push_of_some _ (other b u nb e)))
theorem rv_self {it t:Addr}{i:Int}{Q:Value->Shared->Prop}(hit:IsRv s.heap it t i) (h:Q (.ref it) s):wpAny (model prog w) A (pyIter (.ref it)) Q E s:=by
 refine wpAny_pyIter_slot hit.typeIs rv_iter (wpAny_call_entry rv_iter hit.typeIs rv_entry_iter ?_ (rv_args_iter _))
 show wpAny _ _ (ret (.ref it)) _ _ s
 exact wpAny_pure ⟨_,rfl, "reversed",_,hit.typeIs,rv_next.lookup,h⟩
end
def Itrv (K:W.Frag) (a:Addr) (n:Nat):It:=⟨λ i H=>∃xs,SqT K H a xs/\xs.length=n/\i < n,λ i H x H'=>H'=H/\∀xs,SqT K H a xs->xs[n - 1 - i]?=some x,λ i H=>∃xs,SqT K H a xs/\xs.length=n/\i=n⟩
theorem line63':(sizeLine:Int) < 2 ^ 63:=by rw [sizeLine_eq];decide
theorem turn_rv {P:Program}{w:World}{K:W.Frag}{tg:Expr}(a it:Addr) (n:Nat):Turn P w K tg (Itrv K a n) [it] it (λ i h=>IsRv h it a ((n:Int) - 1 - (i:Int))) where
 mem:=by simp
 obj:=λ i h x b hb=>by
  have e:b=it:=by simpa using hb
  subst e
  obtain ⟨o,ho,_,hd⟩:=x
  exact ⟨o,ho,λ v q=>by rw [hd] at q;cases q⟩
 keep:=λ i h h' x k=>let ⟨o,ho,r⟩:=x;⟨o,k it (by simp) o ho,r⟩
 item:=by
  intro X hP hw hK hc i pins s σ H E I hf st hg
  subst hP hw hK
  obtain ⟨xs,hq,hn,hi⟩:=hg
  obtain ⟨its,rv,p,hz⟩:=I.tuple hq
  have hx:xs[n - 1 - i]?=some (xs[n - 1 - i]'(by omega)):=List.getElem?_eq_getElem (by omega)
  obtain ⟨u,hu,ru⟩:=rv.get hx
  obtain ⟨f0,f1,f2,f3,f4,f5⟩:=hf it (by simp)
  have e:(n:Int) - 1 - (i:Int)=((n - 1 - i:Nat):Int):=by omega
  rw [e] at st
  have hl:=rv.length
  have z63:=line63'
  refine rv_item st p (x:=u) (by simpa using hu) (by simp;omega) λ h' tk st' sb=>?_
  have I1:Inv X pins σ H { s with heap:=h',toks:=tk }:=I.turned (t':=tk) (λ b o hb e=>(sb.2 b hb).trans e) f0 f1 f3 f4 f5
  obtain ⟨o,e,c,d⟩:=id st'
  have e2:((n - 1 - i:Nat):Int) - 1=(n:Int) - 1 - ((i+1:Nat):Int):=by omega
  rw [e2] at st'
  exact ⟨u,rfl,go_of (s:={ s with heap:=h',toks:=tk }) e c d (by decide) ⟨_,H,I1,ru,⟨rfl,λ ys hy=>by rw [I.tuple_inj hy hq];exact hx⟩,st',λ b hb=>(hf b hb).1⟩⟩
 done:=by
  intro X hP hw hK hc i pins s σ H E I hf st hg
  subst hP hw hK
  obtain ⟨xs,hq,hn,hi⟩:=hg
  obtain ⟨f0,f1,f2,f3,f4,f5⟩:=hf it (by simp)
  have e:(n:Int) - 1 - (i:Int)=-1:=by omega
  rw [e] at st
  exact rv_end (I.ok.hd hc) st λ h' tk eb=>⟨rfl,I.turned (t':=tk) (λ b o hb e=>eb b o hb e) f0 f1 f3 f4 f5⟩
 self:=λ _ _ _ _ _ st h=>rv_self st h
section
variable {X:Cx}{tg:Expr}
def iRevT (K:W.Frag) (te:TE):TI:=λ σ H R=>te σ H λ x H1=>∃a xs,x=.ref a/\SqT K H1 a xs/\R (Itrv K a xs.length) H1
theorem pi_revT {e:Expr}{te:TE}{p pos:Pos}(hg:Gl X "reversed") (hm:X.mg "reversed" = none) (he:PE X e te) (hs:starEach [e] X.env=[(false,eval e X.env)]:=by rfl) :
  PI X tg (.Call (.Name "reversed" p) [e] [] pos) (iRevT X.K te):=by
 intro pins s σ H R I h
 have hA:=(pa_cons he (pa_nil (X:=X)) hs) pos pins s σ H (λ vs H1=>match vs with | [x]=>∃a xs,x=.ref a/\SqT X.K H1 a xs/\R (Itrv X.K a xs.length) H1 | _=>False) I h
 refine Call_ (ld_blt I hg hm boot_reversed (PyProof.Rows.callWith_type1 (thn hA λ us s1 ⟨vs,H1,I1,r1,q1⟩=>?_) hs rfl))
 match vs,q1 with
 | [x],⟨a,xs,e,hq,q⟩ =>
  subst e
  obtain ⟨u,rfl,ru⟩:=vals1 r1
  cases (show u=Value.ref a from ru)
  obtain ⟨its,rv,p,hz⟩:=I1.tuple hq
  have hl:=rv.length
  have z63:=line63'
  refine call_rv p (by simp;omega) λ tk=>?_
  have I2:Inv X pins σ H1 { s1 with heap:=s1.heap.push (rvObj a ((its.toArray.size:Int) - 1)),toks:=tk }:=I1.kept (t':=tk) λ b o e=>Heap.get?_push_of_some _ e
  have ir:IsRv (s1.heap.push (rvObj a ((its.toArray.size:Int) - 1))) s1.heap.objs.size a ((xs.length:Int) - 1 - ((0:Nat):Int)):=by
   refine ⟨_,Heap.get?_push_size _ rfl,rfl,?_⟩
   show Data.fields #[.ref a,rawInt ((its.toArray.size:Int) - 1)]=_
   have e:((its.toArray.size:Nat):Int) - 1=(xs.length:Int) - 1 - ((0:Nat):Int):=by simp;omega
   rw [e]
  refine rv_self ir ⟨s1.heap.objs.size,[s1.heap.objs.size],_,_,H1,rfl,I2,turn_rv a _ xs.length,ir,λ b hb=>?_,q⟩
  have e:b=s1.heap.objs.size:=by simpa using hb
  subst e
  exact I1.fpOk (Nat.le_refl _) (I1.hok.fresh (Nat.le_refl _))
end
def LoopV (K:PySem.W.Frag) (g:TG) (tb:TS) (D:Ends) (σ:St) (x:V) (H1:Hp):Prop:=∃a xs,x=.ref a/\SqT K H1 a xs/\∃W:Nat->Nat->St->Hp->Prop,(∃m,W 0 m σ H1)/\∀i m σ H,W i m σ H ->
 ((Itrv K a xs.length).stop i H/\D.nx σ H)\/((Itrv K a xs.length).go i H/\∃N:St->Hp->Prop,(∀σ' H',N σ' H'->∃m',m' < m/\W (i+1) m' σ' H')/\∀x H',(Itrv K a xs.length).yld i H x H'->g x σ H' λ σ2 H2=>tb { D with nx:=N,ct:=N,bk:=D.nx } σ2 H2)
theorem for_eqV {K:W.Frag}{te:TE}{g:TG}{tb:TS}{D:Ends}{σ:St}{H:Hp}:tFor (iRevT K te) g tb D σ H=te σ H λ x H1=>LoopV K g tb D σ x H1:=rfl
theorem LoopV.mk {K:W.Frag}{a:Addr}{xs:List V}{g:TG}{tb:TS}{D:Ends}{σ:St}{H:Hp}(hS:SqT K H a xs) (Pv:Nat->St->Hp->Prop) (h0:Pv 0 σ H) (hl:∀i σ H,i≤xs.length->Pv i σ H->SqT K H a xs)
  (hs:∀i x σ H,i < xs.length->xs[xs.length - 1 - i]?=some x->Pv i σ H->g x σ H λ σ2 H2=>tb { D with nx:=Pv (i+1),ct:=Pv (i+1),bk:=D.nx } σ2 H2) (hd:∀σ H,Pv xs.length σ H->D.nx σ H):LoopV K g tb D σ (.ref a) H:=by
 refine ⟨a,xs,rfl,hS,λ i m σ H=>m=xs.length - i/\i≤xs.length/\Pv i σ H,⟨xs.length,by simp,Nat.zero_le _,h0⟩,?_⟩
 rintro i m σ H ⟨rfl,hi,p⟩
 have q:=hl i σ H hi p
 by_cases hlt:i < xs.length
 ·refine .inr ⟨⟨xs,q,rfl,hlt⟩,Pv (i+1),λ σ' H' p'=>⟨xs.length - (i+1),by omega,rfl,hlt,p'⟩,λ x H' y=>?_⟩
  obtain ⟨e,y⟩:=y
  subst e
  exact hs i x σ _ hlt (y xs q) p
 ·have e:i=xs.length:=by omega
  subst e
  exact .inl ⟨⟨xs,q,rfl,rfl⟩,hd σ H p⟩
theorem lri_nolen:typeLookup (.type "list_reverseiterator") "__len__" = pure none:=by rw [typeLookup_type,builtinLookup_eq_fast];kernel_rfl
theorem lri_hint:typeLookup (.type "list_reverseiterator") "__length_hint__" = pure (some (.builtin "list_reverseiterator.__length_hint__")):=by rw [typeLookup_type,builtinLookup_eq_fast];kernel_rfl
section
variable {pg:Program}{wd:World}{B:Around}{X0:Value->Shared->Prop}{s0:Shared}{J:Addr}{fs ws:List Addr}{Gg:Array GenState->Array GenState->Prop}{m:Nat}{Pr:Nat->Value->Prop}{Sx:Nat->Shared->Prop}
theorem collect_lri {R:List Value->Shared->Prop}(wk:WalksS pg wd B.in1 J fs ws Gg m Pr Sx) (ty:∀j z,Sx j z->z.TypeIs (.ref J) "list_reverseiterator") (z0:Sx 0 s0) (lt:∀b∈fs,b < s0.heap.objs.size) (mJ:J∈fs) (sm:m≤sizeLine)
  (fin:∀z' ac,Moved ws Gg s0 z'->ItemsOf Pr ac m->R ac.toList z'):wpAny (model pg wd) B (collect (.ref J)) R X0 s0:=by
 have out:s0.heap.objs.size ∉ fs:=λ q=>absurd (lt _ q) (Nat.lt_irrefl _)
 have neJ:s0.heap.objs.size≠J:=by rintro rfl;exact out mJ
 let nu:Obj:={ cls:=.type "list",data:=.seq ([]:List Value).toArray }
 unfold collect
 refine wpAny_bind (wpAny_runValue (codeAny_builtin F.entry_proto_collect ?_))
 rw [Around.under_plainId F.plain_proto_collect _]
 show wpAny _ B.in1 (newList [] >>= λ q=>again (.builtin "list.__iadd__" ⟨[q,.ref J],[]⟩)) _ _ s0
 refine wpAny_bind (wpAny_newObj_type ?_)
 refine wpAny_pure ⟨plainId_quiet F.plain_list_iadd _,codeAny_builtin F.entry_list_iadd ?_⟩
 rw [Around.under_plainId F.plain_list_iadd _]
 have z1:=wk.frame 0 s0 (s0.heap.push nu) s0.toks z0 (Nat.le_refl _) λ b _ o e=>Heap.get?_push_of_some _ e
 have at1:(s0.heap.push nu).get? s0.heap.objs.size=some nu:=Heap.get?_push_size _ rfl
 have dif:Builtin.List.listSameRef (.ref s0.heap.objs.size) (.ref J)=false:=by simp [Builtin.List.listSameRef,neJ]
 show wpAny _ B.in1 (Builtin.List.listExtendWith (.ref s0.heap.objs.size) (.ref J) (.ref s0.heap.objs.size)) _ _ _
 unfold Builtin.List.listExtendWith
 refine wpAny_bind (wpAny_typeOf (ty 0 _ z1) ?_)
 rw [if_neg (by rw [dif];decide)]
 refine wpAny_bind (wk.self 0 _ _ _ z1 ?_)
 refine wpAny_bind (wpAny_holding ?_)
 unfold Builtin.List.listLengthHint
 refine wpAny_bind (wpAny_specialOf (ty 0 _ z1) lri_nolen ?_)
 show wpAny _ B.in1 (specialOf (Value.ref J) (Str.ofString "__length_hint__") >>= _) _ _ _
 refine wpAny_bind (wpAny_specialOf (ty 0 _ z1) lri_hint ?_)
 (generalize hid:("list_reverseiterator.__length_hint__" : String)=id0;wp_delta;rw [show splitId id0=some ("list_reverseiterator", "__length_hint__") from by subst hid;decide +kernel];subst hid)
 refine wpAny_bind (wpAny_isInstance (b:=true) (ty 0 _ z1) (by rw [isSubtype_type];kernel_rfl) ?_)
 refine wpAny_pure ?_
 rw [if_neg (by decide)]
 refine wpAny_pure ⟨plainId_quiet F.plain_extend_loop _,codeAny_extend_loopS wk sm _ out _ m 0 _ _ _ rfl (Nat.zero_le _) z1 at1 (ItemsOf.nil Pr) λ z' ac cc mv at2 its=>?_⟩
 show wpAny _ B (load s0.heap.objs.size >>= _) _ _ z'
 exact wpAny_bind (wpAny_load at2 (wpAny_pure (fin z' ac (Moved.drop_new (o:=nu) (tk:=s0.toks) mv (Nat.le_refl _)) its)))
theorem new_tuple_lri {R:Value->Shared->Prop}(wk:WalksS pg wd B.in1.in1 J fs ws Gg m Pr Sx) (ty:∀j z,Sx j z->z.TypeIs (.ref J) "list_reverseiterator") (z0:Sx 0 s0) (lt:∀b∈fs,b < s0.heap.objs.size) (mJ:J∈fs) (sm:m≤sizeLine)
  (fin:∀z' ac,Moved ws Gg s0 z'->ItemsOf Pr ac m->R (.ref z'.heap.objs.size) { z' with heap:=z'.heap.push { cls:=.type "tuple",data:=.seq ac } }) :
  codeAny (model pg wd) B (.call (.builtin "tuple.__new__") ⟨[.type "tuple",.ref J],[]⟩) (wants R X0) s0:=by
 refine codeAny_of_tree ?_
 show wpAny _ B.in1 (do checkBuiltinCall "tuple.__new__" ⟨[.type "tuple",.ref J],[]⟩;again (.builtin "tuple.__new__" ⟨[.type "tuple",.ref J],[]⟩)) _ _ s0
 refine wpAny_bind (wpAny_of_eq (F.newCall_tuple_1 _) (wpAny_pure ⟨plainId_quiet F.plain_tuple_new _,codeAny_builtin F.entry_tuple_new ?_⟩))
 rw [Around.under_plainId F.plain_tuple_new _]
 have q1:=sub_tuple_self
 have q2:=init_tuple_lookup
 have q3:=madeHere_tuple
 have q4:=ty 0 s0 z0
 wp_walk using wpAny_typeOf q4,collect_lri (sm:=sm) wk ty z0 lt mJ
 intro z' ac mv its
 show wpAny _ _ (Builtin.Tuple.tupleExact ac.toList.toArray >>= λ q=>ret q) _ _ _
 have e:ac.toList.toArray=ac:=by simp
 rw [e]
 unfold Builtin.Tuple.tupleExact
 exact wpAny_bind (wpAny_newObj_type (wpAny_pure (fin z' ac mv its)) (by show ac.size≤sizeLine;rw [its.1];exact sm))
theorem call_tuple_lri {R:Value->Shared->Prop}(wk:WalksS pg wd B.in1.in1.in1 J fs ws Gg m Pr Sx) (ty:∀j z,Sx j z->z.TypeIs (.ref J) "list_reverseiterator") (z0:Sx 0 s0) (lt:∀b∈fs,b < s0.heap.objs.size) (mJ:J∈fs) (sm:m≤sizeLine)
  (fin:∀z' ac,Moved ws Gg s0 z'->ItemsOf Pr ac m->R (.ref z'.heap.objs.size) { z' with heap:=z'.heap.push { cls:=.type "tuple",data:=.seq ac } }) :
  wpAny (model pg wd) B (call (.type "tuple") [.ref J]) R X0 s0 :=
 callType_codes (Q₁:=λ ob z=>z.TypeIs ob "tuple" /\ R ob z) F.called_tuple (F.typeCall_tuple_1 _) F.entry_object_init
  (new_tuple_lri (sm:=sm) wk ty z0 lt mJ λ z' ac mv its=>⟨⟨_,Heap.get?_push_size _ rfl,rfl⟩,fin z' ac mv its⟩)
  λ ob z q=>⟨q.1,F.args_object_init_2 ob _,object_init_meets F.called_tuple.init.lookup F.called_tuple.made (by decide) pg wd B.in1 _ z ⟨q.1,rfl,q.2⟩⟩
end
section
variable {X:Cx}
def tTupRev (K:W.Frag) (te:TE):TE:=λ σ H Q=>te σ H λ x H1=>∃a xs,x=.ref a/\SqL K H1 a xs/\∀p,H1 p=none->Q (.ref p) (upd H1 p (.tup xs.reverse))
theorem pe_tupRev {e:Expr}{te:TE}{p1 p2 pos pos':Pos}(hc:X.calm=true) (ht:Gl X "tuple") (hr:Gl X "reversed") (mt:X.mg "tuple" = none) (mr:X.mg "reversed" = none) (he:PE X e te) (hs:starEach [e] X.env=[(false,eval e X.env)]:=by rfl) :
  PE X (.Call (.Name "tuple" p1) [.Call (.Name "reversed" p2) [e] [] pos'] [] pos) (tTupRev X.K te):=by
 intro pins s σ H Q I h
 refine Call_ (ld_blt I ht mt boot_tuple (PyProof.Rows.callWith_type1 ?_ rfl rfl))
 refine Calls.spliced_cons ?_
 have hA:=(pa_cons he (pa_nil (X:=X)) hs) pos' pins s σ H (λ vs H1=>match vs with | [x]=>∃a xs,x=.ref a/\SqL X.K H1 a xs/\∀p,H1 p=none->Q (.ref p) (upd H1 p (.tup xs.reverse)) | _=>False) I h
 refine Call_ (ld_blt I hr mr boot_reversed (PyProof.Rows.callWith_type1 (thn hA λ us s1 ⟨vs,H1,I1,r1,q1⟩=>?_) hs rfl))
 match vs,q1 with
 | [x],⟨a,xs,e,hq,q⟩ =>
  subst e
  obtain ⟨u,rfl,ru⟩:=vals1 r1
  cases (show u=Value.ref a from ru)
  obtain ⟨its,rv,pl,hz⟩:=I1.list hq
  have hl:=rv.length
  refine call_reversed_list pl.isList ?_
  refine Calls.spliced_nil ?_
  have I2:Inv X pins σ H1 { s1 with heap:=s1.heap.push (revObj a ((its.toArray.size:Int) - 1)) }:=I1.kept (t':=s1.toks) λ b o e=>Heap.get?_push_of_some _ e
  have al:a < s1.heap.objs.size:=by obtain ⟨o,ho,_⟩:=pl.isList;exact Heap.lt_size ho
  have hne:a≠s1.heap.objs.size:=Nat.ne_of_lt al
  have ir:(s1.heap.push (revObj a ((its.toArray.size:Int) - 1))).IsRevIter s1.heap.objs.size a ((its.toArray.size:Int) - 1 - ((0:Nat):Int)):=by
   refine ⟨_,Heap.get?_push_size _ rfl,rfl,?_⟩
   have e:(its.toArray.size:Int) - 1 - ((0:Nat):Int)=(its.toArray.size:Int) - 1:=by omega
   rw [e];rfl
  have sz:(s1.heap.push (revObj a ((its.toArray.size:Int) - 1))).objs.size=s1.heap.objs.size+1:=by simp [Heap.push]
  have ff:=I1.fpOk (Nat.le_refl s1.heap.objs.size) (I1.hok.fresh (Nat.le_refl _))
  refine call_tuple_lri (Walks.listRev (A:=X.A.in1.in1.in1) (I.ok.hd hc) s1.heap.objs.size a hne its.toArray).toS (λ j z q=>let ⟨o,ho,hk,_⟩:=q.2.1;⟨o,ho,hk⟩)
   ⟨Nat.zero_le _,ir,pl.isList.at λ o e=>Heap.get?_push_of_some _ e⟩ (λ b hb=>?_) (List.mem_cons_self ..) (by simp only [List.size_toArray];omega) λ z' ac mv io=>?_
  ·show b < (s1.heap.push (revObj a ((its.toArray.size:Int) - 1))).objs.size
   rw [sz]
   simp only [List.mem_cons,List.not_mem_nil,or_false] at hb
   rcases hb with rfl | rfl
   ·exact Nat.lt_succ_self _
   ·exact Nat.lt_succ_of_lt al
  have I3:Inv X pins σ H1 z':=by
   obtain ⟨zh,zg,zd,zt,zo⟩:=z'
   have e1:zg=s1.gens:=mv.gens
   have e2:zd=s1.drawn:=mv.drawn
   have e3:zo=s1.os:=mv.os
   subst e1 e2 e3
   obtain ⟨f0,f1,f2,f3,f4,f5⟩:=ff
   exact I1.turned (t':=zt) (λ b o hb e=>mv.heap b o (by simpa using hb) (Heap.get?_push_of_some _ e)) f0 f1 f3 f4 f5
  have er:ac=its.reverse.toArray:=by
   have sz2:ac.size=its.length:=by simpa using io.1
   apply Array.ext
   ·simp [sz2]
   ·intro j h1 h2
    have q:=io.2 j _ (Array.getElem?_eq_getElem h1)
    simp only [List.size_toArray,List.getElem?_toArray] at q
    have q2:its.reverse[j]?=some ac[j]:=by rw [List.getElem?_reverse (by omega)];exact q
    rw [List.getElem_toArray]
    exact (Option.some.inj ((List.getElem?_eq_getElem (by simpa using h2)).symm.trans q2)).symm
  subst er
  have I4:Inv X pins σ (upd H1 z'.heap.objs.size (.tup xs.reverse)) { z' with heap:=z'.heap.push { cls:=.type "tuple",data:=.seq its.reverse.toArray } } :=
   I3.laid (t':=z'.toks) (λ b o e=>Heap.get?_push_of_some _ e) (Nat.le_refl _) (show ObjOk X.prog X.w _ _ _ (.tup xs.reverse) from ⟨by simpa using hz,its.reverse,rv.reverse,IsTup.new _ _⟩)
  exact ⟨.ref z'.heap.objs.size,_,I4,rfl,q _ (I3.hok.fresh (Nat.le_refl _))⟩
end
section
variable {X:Cx}
def rCatA (K:W.Frag):R2:=λ x y H Q=>∃a b xs ys,x=.ref a/\y=.ref b/\SqT K H a xs/\SqT K H b ys/\xs.length+ys.length≤sizeLine /\
 (xs=[]->Q (.ref b) H)/\(xs≠[]->ys=[]->Q (.ref a) H)/\(xs≠[]->ys≠[]->∀p,H p=none->Q (.ref p) (upd H p (.tup (xs++ys))))
theorem op_catA:OpR X (binaryOp .Add) (rCatA X.K):=by
 intro pins s σ H x y v u Q I rx ry h
 obtain ⟨a,b,xs,ys,rfl,rfl,ha,hb,hz,q0,q1,q2⟩:=h
 by_cases hx:xs=[]
 ·cases rx
  cases ry
  obtain ⟨its,r1,p1,_⟩:=I.tuple ha
  obtain ⟨its2,r2,p2,_⟩:=I.tuple hb
  have e1:its=[]:=r1.nil_iff.mpr hx
  obtain ⟨⟨c1,d1,z1,l1⟩,g1,hc1,n1,hd1⟩:=id p1
  obtain ⟨⟨c2,d2,z2,l2⟩,g2,hc2,n2,hd2⟩:=id p2
  simp only at hc1 hd1 hc2 hd2
  subst hc1 hd1 hc2 hd2
  exact concat_meets ⟨_,g1,rfl⟩ ⟨_,g2,rfl⟩ noFill_tuple_add seq_tuple_add PySem.F.slot_tuple_add PySem.F.entry_tuple_add (PySem.F.args_tuple_add_2 _ _)
   (tuple_addW0 a b its.toArray its2.toArray n1 n2 d1 d2 l1 l2 (by simp [e1])) ⟨g1,g2,.ref b,H,I,rfl,q0 hx⟩
 ·exact op_catT pins s σ H _ _ v u Q I rx ry ⟨a,b,xs,ys,rfl,rfl,ha,hb,hx,hz,q1 hx,q2 hx⟩
def eqVs:List V->List V->Bool
 | [],[]=>true
 | x::xs,y::ys=>eqV x y && eqVs xs ys
 | _,_=>false
theorem eqVs_len:∀ {xs ys:List V},xs.length≠ys.length->eqVs xs ys=false
 | [],[],h=>absurd rfl h
 | x::xs,y::ys,h=>by
  have e:xs.length≠ys.length:=λ z=>h (by simp [z])
  simp [eqVs,eqVs_len e]
 | [],_::_,_=>rfl
 | _::_,[],_=>rfl
def eqAtI (xs ys:List V) (j:Nat):Bool:=match xs[j]?,ys[j]? with | some x,some y=>eqV x y | _,_=>false
theorem eqVs_all:∀ {xs ys:List V},xs.length=ys.length->(List.range xs.length).all (eqAtI xs ys)=eqVs xs ys
 | [],[],_=>rfl
 | x::xs,y::ys,h=>by
  have e:xs.length=ys.length:=by simpa using h
  rw [List.length_cons,List.range_succ_eq_map,List.all_cons,List.all_map]
  have z:(eqAtI (x::xs) (y::ys) ∘ Nat.succ)=eqAtI xs ys:=by funext j;simp [eqAtI]
  rw [z,eqVs_all e]
  rfl
 | [],_::_,h=>by cases h
 | _::_,[],h=>by cases h
theorem eqAtI_ok {A:Around}{s:Shared}{xs ys:List V}{us ws:List Value}(r1:Vals xs us) (r2:Vals ys ws) (f1:xs.all flatV=true) (f2:ys.all flatV=true) (j:Nat) (h1:j < us.toArray.size) (h2:j < ws.toArray.size) :
  SeqAt.EqAt A s us.toArray[j] ws.toArray[j] (eqAtI xs ys j):=by
 have l1:=r1.length
 have l2:=r2.length
 have k1:j < xs.length:=by rw [l1];simpa using h1
 have k2:j < ys.length:=by rw [l2];simpa using h2
 obtain ⟨u,hu,ru⟩:=r1.get (List.getElem?_eq_getElem k1)
 obtain ⟨v,hv,rv⟩:=r2.get (List.getElem?_eq_getElem k2)
 have e1:us.toArray[j]=u:=by
  have z:us[j]?=some (us[j]'(by simpa using h1)):=List.getElem?_eq_getElem _
  rw [z] at hu
  simpa using hu
 have e2:ws.toArray[j]=v:=by
  have z:ws[j]?=some (ws[j]'(by simpa using h2)):=List.getElem?_eq_getElem _
  rw [z] at hv
  simpa using hv
 rw [e1,e2]
 have e3:eqAtI xs ys j=eqV xs[j] ys[j]:=by simp [eqAtI,k1,k2]
 rw [e3]
 exact eqAt_V ru rv (List.all_eq_true.mp f1 _ (List.getElem_mem k1)) (List.all_eq_true.mp f2 _ (List.getElem_mem k2))
def rEqL (K:W.Frag):R2:=λ x y H Q=>∃a b xs ys,x=.ref a/\y=.ref b/\SqL K H a xs/\SqL K H b ys/\xs.all flatV=true/\ys.all flatV=true/\Q (.bl (eqVs xs ys)) H
theorem op_eqL (hu:X.A.units < cLine):OpR X (compareOp .Eq) (rEqL X.K):=by
 intro pins s σ H x y v u Q I rx ry h
 obtain ⟨a,b,xs,ys,rfl,rfl,ha,hb,f1,f2,q⟩:=h
 cases rx
 cases ry
 obtain ⟨us,r1,p1,_⟩:=I.list ha
 obtain ⟨ws,r2,p2,_⟩:=I.list hb
 by_cases hl:xs.length=ys.length
 ·refine SeqAt.eq_listAt p1.isList p2.isList (e:=eqAtI xs ys) (by simp [← r1.length,← r2.length,hl]) hu (eqAtI_ok r1 r2 f1 f2) ?_
  have e:us.toArray.size=xs.length:=by simp [r1.length]
  rw [e,eqVs_all hl]
  exact ⟨.bl _,H,I,rfl,q⟩
 ·refine SeqAt.eq_list_lengthsAt p1.isList p2.isList (by simp [← r1.length,← r2.length,hl]) hu ?_
  rw [eqVs_len hl] at q
  exact ⟨.bl _,H,I,rfl,q⟩
def rEqT (K:W.Frag):R2:=λ x y H Q=>∃a b xs ys,x=.ref a/\y=.ref b/\SqT K H a xs/\SqT K H b ys/\xs.all flatV=true/\ys.all flatV=true/\Q (.bl (eqVs xs ys)) H
theorem eqVs_ints:∀(ns:List Int),eqVs (ns.map V.int) (ns.map V.int)=true
 | []=>rfl
 | n::ns=>by simp [eqVs,eqV,eqVs_ints ns]
theorem flat_ints:∀(ns:List Int),(ns.map V.int).all flatV=true
 | []=>rfl
 | n::ns=>by simp [flatV]
end
section
variable {pg:Program}{wd:World}{B:Around}{X0:Value->Shared->Prop}{s0:Shared}
theorem nx_tup_item {j t:Addr}{k:Nat}{its:Array Value}{x:Value}{R:Value->Shared->Prop}(p:s0.heap.IsTupleIter j t k) (q:s0.heap.IsTuple t its) (e:its[k]?=some x)
  (f:∀h',h'.IsTupleIter j t (k+1)->Heap.SameBut j s0.heap h'->R x { s0 with heap:=h' }):wpAny (model pg wd) B (Builtin.SmallTypes.nextOf (.ref j)) R X0 s0:=by
 obtain ⟨o,g,c,d⟩:=id p
 obtain ⟨ot,gt,_,nt,dt⟩:=q
 unfold Builtin.SmallTypes.nextOf
 refine wpAny_bind (wpAny_callSpecial?_slot (name:=Str.ofString "__next__") p.typeIs F.slot_tuple_iterator_next (wpAny_call_entry F.slot_tuple_iterator_next p.typeIs F.entry_tuple_iterator_next ?_ (F.args_tuple_iterator_next_1 _)))
 show wpAny _ _ (field (.ref j) 0 >>= _) _ _ s0
 refine wpAny_bind (wpAny_field g d (x:=.ref t) rfl ?_)
 show wpAny _ _ (if (Value.ref t == Value.none)=true then _ else _) _ _ s0
 rw [if_neg (show ¬((Value.ref t == Value.none)=true) from Bool.false_ne_true)]
 show wpAny _ _ (field (.ref j) 1 >>= _) _ _ s0
 refine wpAny_bind (wpAny_field g d (x:=.int k 0) rfl ?_)
 show wpAny _ _ (seqItems? (.ref t) >>= _) _ _ s0
 refine wpAny_bind (wpAny_seqItems gt dt ?_)
 simp only [Int.toNat_natCast,e]
 refine wpAny_bind (wpAny_setField g d (by simp) (wpAny_pure ⟨x,rfl,wpAny_pure (f _ ?_ (Heap.SameBut.update ..))⟩))
 exact ⟨_,Heap.get?_update_self _ g (Obj.isFreed_of_fields (Obj.data_mapFields d _)),(Obj.cls_mapFields ..).trans c,by rw [Obj.data_mapFields d];simp [rawInt]⟩
theorem nx_tup_end {j t:Addr}{k:Nat}{its:Array Value}{R:Value->Shared->Prop}(hh:B.handled=none) (p:s0.heap.IsTupleIter j t k) (q:s0.heap.IsTuple t its) (e:its[k]?=none)
  (f:∀h' z,Heap.ExtBut j s0.heap h'->(∃o,h'.get? z=some o/\o.cls=.type "StopIteration")->X0 (.ref z) { s0 with heap:=h' }):wpAny (model pg wd) B (Builtin.SmallTypes.nextOf (.ref j)) R X0 s0:=by
 obtain ⟨o,g,c,d⟩:=id p
 obtain ⟨ot,gt,_,nt,dt⟩:=q
 unfold Builtin.SmallTypes.nextOf
 refine wpAny_bind (wpAny_callSpecial?_slot (name:=Str.ofString "__next__") p.typeIs F.slot_tuple_iterator_next (wpAny_call_entry F.slot_tuple_iterator_next p.typeIs F.entry_tuple_iterator_next ?_ (F.args_tuple_iterator_next_1 _)))
 show wpAny _ _ (field (.ref j) 0 >>= _) _ _ s0
 refine wpAny_bind (wpAny_field g d (x:=.ref t) rfl ?_)
 show wpAny _ _ (if (Value.ref t == Value.none)=true then _ else _) _ _ s0
 rw [if_neg (show ¬((Value.ref t == Value.none)=true) from Bool.false_ne_true)]
 show wpAny _ _ (field (.ref j) 1 >>= _) _ _ s0
 refine wpAny_bind (wpAny_field g d (x:=.int k 0) rfl ?_)
 show wpAny _ _ (seqItems? (.ref t) >>= _) _ _ s0
 refine wpAny_bind (wpAny_seqItems gt dt ?_)
 simp only [Int.toNat_natCast,e]
 refine wpAny_bind (wpAny_rule (wpAny_bind (wpAny_setField g d (by simp) ?_)))
 show wpAny _ _ (newExc (.type "StopIteration") [] >>= _) _ _ _
 refine wpAny_bind ?_
 simp only [newExc,newTuple]
 refine wpAny_bind (wpAny_newObj_type ?_ (by size_fits))
 refine wpAny_bind (m:=firstArgMember _ _) (wpAny_of_eq (a:=Value.none) (by first | rfl | (simp only [firstArgMember];rfl)) ?_)
 refine wpAny_newObj_type ?_ (by size_fits)
 simp only [raiseNew]
 refine wpAny_bind (wpAny_handled ?_)
 first | rw [show B.in1.handled=none from hh] | rw [hh]
 refine wpAny_bind (wpAny_pure (wpAny_throw ?_))
 exact f _ _ (((Heap.SameBut.update ..).extBut.push _).push _) ⟨_,Heap.get?_push_size _ rfl,rfl⟩
structure Apart5 (z ti ox j1 j2 t1 t2:Addr):Prop where
 ti_z:ti≠z
 ox_z:ox≠z
 j1_z:j1≠z
 j2_z:j2≠z
 ti_ox:ti≠ox
 ti_j1:ti≠j1
 ti_j2:ti≠j2
 ox_j1:ox≠j1
 ox_j2:ox≠j2
 j12:j1≠j2
 t1_z:t1≠z
 t1_ox:t1≠ox
 t1_j1:t1≠j1
 t1_j2:t1≠j2
 t2_z:t2≠z
 t2_ox:t2≠ox
 t2_j1:t2≠j1
 t2_j2:t2≠j2
def But4 (z ox j1 j2:Addr) (h h':Heap):Prop:=∀c o,c≠z->c≠ox->c≠j1->c≠j2->h.get? c=some o->h'.get? c=some o
theorem tupIt_at {h h':Heap}{j t:Addr}{k:Nat}(p:h.IsTupleIter j t k) (f:∀o,h.get? j=some o->h'.get? j=some o):h'.IsTupleIter j t k:=let ⟨o,g,r⟩:=p;⟨o,f o g,r⟩
theorem tup_at {h h':Heap}{t:Addr}{its:Array Value}(p:h.IsTuple t its) (f:∀o,h.get? t=some o->h'.get? t=some o):h'.IsTuple t its:=let ⟨o,g,r⟩:=p;⟨o,f o g,r⟩
theorem zipT_item {z ti ox j1 j2 t1 t2:Addr}{k:Nat}{as bs:Array Value}{x y u v:Value}{R:Option Value->Shared->Prop}(ap:Apart5 z ti ox j1 j2 t1 t2) (hz:IsZip s0.heap z ti ox .none) (hi:IsPair s0.heap ti (.ref j1) (.ref j2)) (ho:IsPair s0.heap ox u v)
  (p1:s0.heap.IsTupleIter j1 t1 k) (p2:s0.heap.IsTupleIter j2 t2 k) (q1:s0.heap.IsTuple t1 as) (q2:s0.heap.IsTuple t2 bs) (e1:as[k]?=some x) (e2:bs[k]?=some y)
  (f:∀h',IsZip h' z ti ox (rawInt s0.heap.objs.size)->IsPair h' ox x y->h'.IsTupleIter j1 t1 (k+1)->h'.IsTupleIter j2 t2 (k+1)->IsPair h' s0.heap.objs.size x y->But4 z ox j1 j2 s0.heap h'->R (some (.ref s0.heap.objs.size)) { s0 with heap:=h' }) :
  wpAny (model pg wd) B (pyNext (.ref z)) R X0 s0:=by
 have ty:s0.TypeIs (.ref z) "zip" := ⟨_,hz,rfl⟩
 unfold pyNext
 refine wpAny_bind (wpAny_attempt (wpAny_callSpecial?_slot (name:=Str.ofString "__next__") ty F.slot_zip_next (wpAny_call_entry F.slot_zip_next ty F.entry_zip_next ?_ (F.args_zip_next_1 _))))
 show wpAny _ _ (field (.ref z) 2 >>= _) _ _ _
 refine wpAny_bind (wpAny_field hz rfl (x:=.bool false) rfl ?_)
 show wpAny _ _ (field (.ref z) 3 >>= _) _ _ _
 refine wpAny_bind (wpAny_field hz rfl (x:=.ref ti) rfl ?_)
 refine wpAny_bind (wpAny_seqItems hi rfl ?_)
 show wpAny _ _ (Builtin.SmallTypes.ownedTupleIsFree (.ref z) >>= _) _ _ _
 refine wpAny_bind ?_
 unfold Builtin.SmallTypes.ownedTupleIsFree
 refine wpAny_bind (wpAny_field hz rfl (x:=.none) rfl (wpAny_pure ?_))
 simp only [if_true]
 refine wpAny_bind (wpAny_rule ?_)
 refine wpAny_bind (wpAny_field hz rfl (x:=.ref ox) rfl ?_)
 refine wpAny_bind (wpAny_setField_rec hz (by simp) λ m1 zm1 sb1=>?_)
 have zm1:IsZip m1 z ti ox .ellipsis:=zm1
 refine wpAny_bind ?_
 simp only [List.zipIdx_cons,List.zipIdx_nil,List.forIn_cons,List.forIn_nil]
 refine wpAny_bind (wpAny_bind (wpAny_onRaise ?_))
 show wpAny _ _ (Builtin.SmallTypes.nextOf (.ref j1) >>= _) _ _ _
 refine wpAny_bind (nx_tup_item (tupIt_at p1 λ o g=>sb1.extBut _ _ ap.j1_z g) (tup_at q1 λ o g=>sb1.extBut _ _ ap.t1_z g) e1 λ m2 pm2 sb2=>wpAny_pure ?_)
 have om2:IsPair m2 ox u v:=sb2.extBut _ _ ap.ox_j1 (sb1.extBut _ _ ap.ox_z ho)
 refine wpAny_bind (wpAny_seqItems om2 rfl ?_)
 refine wpAny_bind (wpAny_updateSeq_pair om2 λ m3 om3 sb3=>?_)
 have om3:IsPair m3 ox x v:=om3
 refine wpAny_bind (wpAny_letGo (wpAny_pure ?_))
 refine wpAny_bind (wpAny_bind (wpAny_onRaise ?_))
 show wpAny _ _ (Builtin.SmallTypes.nextOf (.ref j2) >>= _) _ _ _
 have to3:∀c o,c≠z->c≠ox->c≠j1->s0.heap.get? c=some o->m3.get? c=some o:=λ c o a1 a2 a3 g=>sb3.extBut _ _ a2 (sb2.extBut _ _ a3 (sb1.extBut _ _ a1 g))
 refine wpAny_bind (nx_tup_item (tupIt_at p2 λ o g=>to3 _ o ap.j2_z ap.ox_j2.symm ap.j12.symm g) (tup_at q2 λ o g=>to3 _ o ap.t2_z ap.t2_ox ap.t2_j1 g) e2 λ m4 pm4 sb4=>wpAny_pure ?_)
 have om4:IsPair m4 ox x v:=sb4.extBut _ _ ap.ox_j2 om3
 refine wpAny_bind (wpAny_seqItems om4 rfl ?_)
 refine wpAny_bind (wpAny_updateSeq_pair om4 λ m5 om5 sb5=>?_)
 have om5:IsPair m5 ox x y:=om5
 refine wpAny_bind (wpAny_letGo (wpAny_pure (wpAny_pure ?_)))
 refine wpAny_bind (wpAny_seqItems om5 rfl ?_)
 refine wpAny_bind (wpAny_newTuple ?_)
 have sz5:m5.objs.size=s0.heap.objs.size:=by rw [sb5.1,sb4.1,sb3.1,sb2.1,sb1.1]
 have zm5:IsZip m5 z ti ox .ellipsis:=sb5.extBut _ _ ap.ox_z.symm (sb4.extBut _ _ ap.j2_z.symm (sb3.extBut _ _ ap.ox_z.symm (sb2.extBut _ _ ap.j1_z.symm zm1)))
 have to5:But4 z ox j1 j2 s0.heap m5:=λ c o a1 a2 a3 a4 g=>sb5.extBut _ _ a2 (sb4.extBut _ _ a4 (to3 c o a1 a2 a3 g))
 have pj1:m5.IsTupleIter j1 t1 (k+1):=tupIt_at pm2 λ o g=>sb5.extBut _ _ ap.ox_j1.symm (sb4.extBut _ _ ap.j12 (sb3.extBut _ _ ap.ox_j1.symm g))
 have pj2:m5.IsTupleIter j2 t2 (k+1):=tupIt_at pm4 λ o g=>sb5.extBut _ _ ap.ox_j2.symm g
 have zlt:z < m5.objs.size:=Heap.lt_size zm5
 show wpAny _ _ (Builtin.SmallTypes.ownedTupleHandOut (.ref z) (.ref m5.objs.size) >>= _) _ _ _
 refine wpAny_bind ?_
 unfold Builtin.SmallTypes.ownedTupleHandOut
 have zm6:IsZip (m5.push { cls:=.type "tuple",data:=.seq #[x,y] }) z ti ox .ellipsis:=Heap.get?_push_of_some _ zm5
 refine wpAny_bind (wpAny_setField_rec zm6 (by simp) λ m7 zm7 sb7=>?_)
 have zm7:IsZip m7 z ti ox (rawInt m5.objs.size):=zm7
 refine wpAny_setField_rec zm7 (by simp) λ m8 zm8 sb8=>?_
 have zm8:IsZip m8 z ti ox (rawInt m5.objs.size):=zm8
 have to8:∀c o,c≠z->m5.get? c=some o->m8.get? c=some o:=λ c o a1 g=>sb8.extBut _ _ a1 (sb7.extBut _ _ a1 (Heap.get?_push_of_some _ g))
 have np8:IsPair m8 m5.objs.size x y:=sb8.extBut _ _ (Nat.ne_of_gt zlt) (sb7.extBut _ _ (Nat.ne_of_gt zlt) (Heap.get?_push_size _ rfl))
 rw [sz5] at zm8 np8
 refine wpAny_pure ⟨_,rfl,wpAny_pure ?_⟩
 show R (some (.ref m5.objs.size)) _
 rw [sz5]
 exact f m8 zm8 (to8 _ _ ap.ox_z om5) (tupIt_at pj1 λ o g=>to8 _ o ap.j1_z g) (tupIt_at pj2 λ o g=>to8 _ o ap.j2_z g) np8 λ c o a1 a2 a3 a4 g=>to8 c o a1 (to5 c o a1 a2 a3 a4 g)
theorem zipT_end {z ti ox j1 j2 t1 t2:Addr}{k:Nat}{as bs:Array Value}{u v:Value}{R:Option Value->Shared->Prop}(hh:B.handled=none) (ap:Apart5 z ti ox j1 j2 t1 t2) (hz:IsZip s0.heap z ti ox .none) (hi:IsPair s0.heap ti (.ref j1) (.ref j2)) (ho:IsPair s0.heap ox u v)
  (p1:s0.heap.IsTupleIter j1 t1 k) (p2:s0.heap.IsTupleIter j2 t2 k) (q1:s0.heap.IsTuple t1 as) (q2:s0.heap.IsTuple t2 bs) (hend:as[k]?=none\/bs[k]?=none)
  (f:∀h',But4 z ox j1 j2 s0.heap h'->R none { s0 with heap:=h' }):wpAny (model pg wd) B (pyNext (.ref z)) R X0 s0:=by
 have ty:s0.TypeIs (.ref z) "zip" := ⟨_,hz,rfl⟩
 have last:∀(h':Heap) (e:Addr),But4 z ox j1 j2 s0.heap h'->(∃o,h'.get? e=some o/\o.cls=.type "StopIteration")->wpAny (model pg wd) B (do if ← isInstance (.ref e) (.type "StopIteration") then pure none else throw (.ref e)) R X0 { s0 with heap:=h' }:=λ h' e bt ⟨o,g,c⟩ =>
  wpAny_bind (wpAny_isInstance (T := "StopIteration") (b:=true) ⟨o,g,c⟩ isSubtype_stop (wpAny_pure (f _ bt)))
 unfold pyNext
 refine wpAny_bind (wpAny_attempt (wpAny_callSpecial?_slot (name:=Str.ofString "__next__") ty F.slot_zip_next (wpAny_call_entry F.slot_zip_next ty F.entry_zip_next ?_ (F.args_zip_next_1 _))))
 show wpAny _ _ (field (.ref z) 2 >>= _) _ _ _
 refine wpAny_bind (wpAny_field hz rfl (x:=.bool false) rfl ?_)
 show wpAny _ _ (field (.ref z) 3 >>= _) _ _ _
 refine wpAny_bind (wpAny_field hz rfl (x:=.ref ti) rfl ?_)
 refine wpAny_bind (wpAny_seqItems hi rfl ?_)
 show wpAny _ _ (Builtin.SmallTypes.ownedTupleIsFree (.ref z) >>= _) _ _ _
 refine wpAny_bind ?_
 unfold Builtin.SmallTypes.ownedTupleIsFree
 refine wpAny_bind (wpAny_field hz rfl (x:=.none) rfl (wpAny_pure ?_))
 simp only [if_true]
 refine wpAny_bind (wpAny_rule ?_)
 refine wpAny_bind (wpAny_field hz rfl (x:=.ref ox) rfl ?_)
 refine wpAny_bind (wpAny_setField_rec hz (by simp) λ m1 zm1 sb1=>?_)
 have zm1:IsZip m1 z ti ox .ellipsis:=zm1
 refine wpAny_bind ?_
 simp only [List.zipIdx_cons,List.zipIdx_nil,List.forIn_cons,List.forIn_nil]
 refine wpAny_bind (wpAny_bind (wpAny_onRaise ?_))
 show wpAny _ _ (Builtin.SmallTypes.nextOf (.ref j1) >>= _) _ _ _
 cases e1:as[k]? with
 | none =>
  refine wpAny_bind (nx_tup_end hh (tupIt_at p1 λ o g=>sb1.extBut _ _ ap.j1_z g) (tup_at q1 λ o g=>sb1.extBut _ _ ap.t1_z g) e1 λ m2 e xb he=>?_)
  obtain ⟨oe,ge,ce⟩:=he
  have zm2:IsZip m2 z ti ox .ellipsis:=xb _ _ ap.j1_z.symm zm1
  have ez:e≠z:=λ q=>by subst q;rw [zm2] at ge;cases ge;simp at ce
  exact wpAny_setField_rec zm2 (by simp) λ m3 _ sb3=>last m3 e (λ c o a1 _ a3 _ g=>sb3.extBut _ _ a1 (xb _ _ a3 (sb1.extBut _ _ a1 g))) ⟨oe,sb3.extBut _ _ ez ge,ce⟩
 | some x =>
  have e2:bs[k]?=none:=by rcases hend with q | q;rw [e1] at q;cases q;exact q
  refine wpAny_bind (nx_tup_item (tupIt_at p1 λ o g=>sb1.extBut _ _ ap.j1_z g) (tup_at q1 λ o g=>sb1.extBut _ _ ap.t1_z g) e1 λ m2 pm2 sb2=>wpAny_pure ?_)
  have om2:IsPair m2 ox u v:=sb2.extBut _ _ ap.ox_j1 (sb1.extBut _ _ ap.ox_z ho)
  refine wpAny_bind (wpAny_seqItems om2 rfl ?_)
  refine wpAny_bind (wpAny_updateSeq_pair om2 λ m3 om3 sb3=>?_)
  refine wpAny_bind (wpAny_letGo (wpAny_pure ?_))
  refine wpAny_bind (wpAny_bind (wpAny_onRaise ?_))
  show wpAny _ _ (Builtin.SmallTypes.nextOf (.ref j2) >>= _) _ _ _
  have to3:∀c o,c≠z->c≠ox->c≠j1->s0.heap.get? c=some o->m3.get? c=some o:=λ c o a1 a2 a3 g=>sb3.extBut _ _ a2 (sb2.extBut _ _ a3 (sb1.extBut _ _ a1 g))
  refine wpAny_bind (nx_tup_end hh (tupIt_at p2 λ o g=>to3 _ o ap.j2_z ap.ox_j2.symm ap.j12.symm g) (tup_at q2 λ o g=>to3 _ o ap.t2_z ap.t2_ox ap.t2_j1 g) e2 λ m4 e xb he=>?_)
  obtain ⟨oe,ge,ce⟩:=he
  have zm4:IsZip m4 z ti ox .ellipsis:=xb _ _ ap.j2_z.symm (sb3.extBut _ _ ap.ox_z.symm (sb2.extBut _ _ ap.j1_z.symm zm1))
  have ez:e≠z:=λ q=>by subst q;rw [zm4] at ge;cases ge;simp at ce
  exact wpAny_setField_rec zm4 (by simp) λ m5 _ sb5=>last m5 e (λ c o a1 a2 a3 a4 g=>sb5.extBut _ _ a1 (xb _ _ a4 (to3 c o a1 a2 a3 g))) ⟨oe,sb5.extBut _ _ ez ge,ce⟩
end
theorem Inv.turnedL {X:Cx}{pins:List (Addr × Obj)}{σ:St}{H:Hp}{s:Shared}{h':Heap}{t':Nat}{fl:List Addr}(I:Inv X pins σ H s) (kk:∀b o,b ∉ fl->s.heap.get? b=some o->h'.get? b=some o) (fo:∀b∈fl,FpOk X pins H b):Inv X pins σ H { s with heap:=h',toks:=t' }:=by
 have out:∀b u,H b=some u->b ∉ fl:=λ b u e z=>by rw [(fo b z).1] at e;cases e
 refine I.step (g':=s.gens) (d':=s.drawn) (ch:=fl) (λ b hb=>?_) (λ b o _ _ hc e _=>kk b o hc e) (λ b o _ _ hc e _=>⟨o.slots,kk b o hc e⟩) (λ _ _ _ _ q=>q)
  (λ b o hc e=>⟨o,kk b o hc e⟩) (λ _ _ e=>e) (λ _ _ _ e=>e) (λ b ps e=>⟨#[],by rw [e];simp⟩) (λ m hm=>?_) (λ b u e=>?_) I.bare
 ·obtain ⟨_,f1,_,f3,f4,f5⟩:=fo b hb
  exact ⟨f3,f1,f4,f5⟩
 ·obtain ⟨o,es,ep,ho,r⟩:=hm
  exact ⟨o,es,ep,kk _ o (λ z=>(fo _ z).2.1 rfl) ho,r⟩
 ·refine (I.hok b u e).stay (λ c v hc q=>kk c v ?_ q) (λ _ q=>q) λ _ _ q=>q
  rcases hc with z | z
  ·rw [z];exact out b u e
  ·exact out c _ z
def Itz (K:W.Frag) (a b:Addr):It:=⟨λ i H=>∃xs ys x y,SqT K H a xs/\SqT K H b ys/\xs[i]?=some x/\ys[i]?=some y,
 λ i H v H'=>∃T x y,v=.ref T/\H T=none/\H'=upd H T (.tup [x,y])/\∀xs ys,SqT K H a xs->SqT K H b ys->xs[i]?=some x/\ys[i]?=some y,λ i H=>∃xs ys,SqT K H a xs/\SqT K H b ys/\(xs.length≤i\/ys.length≤i)⟩
theorem turn_zip {P:Program}{w:World}{K:W.Frag}{es:List Expr}{x1:Nat}{pp:Pos}{a b z ti ox j1 j2:Addr}(ap:Apart5 z ti ox j1 j2 a b) :
  Turn P w K (.Tuple es x1 pp) (Itz K a b) [z,ti,ox,j1,j2] z (λ i h=>IsZip h z ti ox .none/\IsPair h ti (.ref j1) (.ref j2)/\(∃u v,IsPair h ox u v)/\h.IsTupleIter j1 a i/\h.IsTupleIter j2 b i) where
 mem:=by simp
 obj:=λ i h q c hc=>by
  obtain ⟨q1,q2,⟨u,v,q3⟩,⟨o4,g4,_,d4⟩,⟨o5,g5,_,d5⟩⟩:=q
  simp only [List.mem_cons,List.not_mem_nil,or_false] at hc
  rcases hc with rfl | rfl | rfl | rfl | rfl
  ·exact ⟨_,q1,λ v z=>nomatch z⟩
  ·exact ⟨_,q2,λ v z=>nomatch z⟩
  ·exact ⟨_,q3,λ v z=>nomatch z⟩
  ·exact ⟨_,g4,λ v z=>by rw [d4] at z;cases z⟩
  ·exact ⟨_,g5,λ v z=>by rw [d5] at z;cases z⟩
 keep:=λ i h h' q k=>by
  obtain ⟨q1,q2,⟨u,v,q3⟩,q4,q5⟩:=q
  exact ⟨k _ (by simp) _ q1,k _ (by simp) _ q2,⟨u,v,k _ (by simp) _ q3⟩,tupIt_at q4 λ o g=>k _ (by simp) o g,tupIt_at q5 λ o g=>k _ (by simp) o g⟩
 item:=by
  intro X hP hw hK hc i pins s σ H E I hf st hg
  subst hP hw hK
  obtain ⟨xs,ys,x,y,hq1,hq2,hx,hy⟩:=hg
  obtain ⟨q1,q2,⟨u,v,q3⟩,q4,q5⟩:=st
  obtain ⟨as,ra,pa,za⟩:=I.tuple hq1
  obtain ⟨bs,rb,pb,zb⟩:=I.tuple hq2
  obtain ⟨ux,hux,rux⟩:=ra.get hx
  obtain ⟨uy,huy,ruy⟩:=rb.get hy
  refine zipT_item ap q1 q2 q3 q4 q5 (show s.heap.IsTuple a as.toArray from pa) (show s.heap.IsTuple b bs.toArray from pb) (x:=ux) (y:=uy) (by simpa using hux) (by simpa using huy) λ h' zz oo p1' p2' np bt=>?_
  have I1:Inv X pins σ H { s with heap:=h' }:=I.turnedL (t':=s.toks) (fl:=[z,ti,ox,j1,j2]) (λ c o hc e=>by
   simp only [List.mem_cons,List.not_mem_nil,or_false,not_or] at hc
   exact bt c o hc.1 hc.2.2.1 hc.2.2.2.1 hc.2.2.2.2 e) hf
  obtain ⟨f0,f1,f2,f3,f4,f5⟩:=I.fpOk (Nat.le_refl s.heap.objs.size) (I.hok.fresh (Nat.le_refl _))
  have n0:X.s₀.heap.get? s.heap.objs.size=none:=by
   cases q:X.s₀.heap.get? s.heap.objs.size with
   | none=>rfl
   | some o=>exact absurd (Nat.lt_of_lt_of_le (Heap.lt_size q) I.sz) (Nat.lt_irrefl _)
  have I2:Inv X pins σ (upd H s.heap.objs.size (.tup [x,y])) { s with heap:=h' }:=I1.track f0 ⟨small (by simp),[ux,uy],.cons rux (.cons ruy .nil),⟨_,np,rfl,_,rfl⟩⟩ f1 f4 f5 n0
  have lt:∀ {c o},s.heap.get? c=some o->c≠s.heap.objs.size:=λ e=>Nat.ne_of_lt (Heap.lt_size e)
  have hzT:z≠s.heap.objs.size:=lt q1
  have ti2:IsPair h' ti (.ref j1) (.ref j2):=bt _ _ ap.ti_z ap.ti_ox ap.ti_j1 ap.ti_j2 q2
  obtain ⟨e0,e1,e2,e3,e4,e5⟩:=hf z (by simp)
  refine ⟨_,rfl,wpAny_letOwnedTupleGo_zip zz λ h2 z2 sb=>?_⟩
  have I3:Inv X pins σ (upd H s.heap.objs.size (.tup [x,y])) { s with heap:=h2 }:=Inv.turned (s:={ s with heap:=h' }) (h':=h2) (t':=s.toks) (it:=z) I2 (λ c o hc e=>sb.extBut _ _ hc e) (by rw [upd_ne hzT];exact e0) e1 e3 e4 e5
  refine ⟨.ref s.heap.objs.size,_,I3,rfl,⟨_,x,y,rfl,f0,rfl,λ xs' ys' k1 k2=>?_⟩,⟨z2,sb.extBut _ _ ap.ti_z ti2,⟨_,_,sb.extBut _ _ ap.ox_z oo⟩,tupIt_at p1' λ o g=>sb.extBut _ _ ap.j1_z g,tupIt_at p2' λ o g=>sb.extBut _ _ ap.j2_z g⟩,λ c hc=>?_⟩
  ·rw [I.tuple_inj k1 hq1,I.tuple_inj k2 hq2];exact ⟨hx,hy⟩
  ·have cT:c≠s.heap.objs.size:=by
    obtain ⟨o4,g4,_⟩:=q4
    obtain ⟨o5,g5,_⟩:=q5
    simp only [List.mem_cons,List.not_mem_nil,or_false] at hc
    rcases hc with rfl | rfl | rfl | rfl | rfl
    ·exact hzT
    ·exact lt q2
    ·exact lt q3
    ·exact lt g4
    ·exact lt g5
   rw [upd_ne cT];exact (hf c hc).1
 done:=by
  intro X hP hw hK hc i pins s σ H E I hf st hg
  subst hP hw hK
  obtain ⟨xs,ys,hq1,hq2,hx⟩:=hg
  obtain ⟨q1,q2,⟨u,v,q3⟩,q4,q5⟩:=st
  obtain ⟨as,ra,pa,za⟩:=I.tuple hq1
  obtain ⟨bs,rb,pb,zb⟩:=I.tuple hq2
  have la:=ra.length
  have lb:=rb.length
  refine zipT_end (I.ok.hd hc) ap q1 q2 q3 q4 q5 (show s.heap.IsTuple a as.toArray from pa) (show s.heap.IsTuple b bs.toArray from pb) (by rcases hx with q | q;exact .inl (by simp;omega);exact .inr (by simp;omega)) λ h' bt=>⟨rfl,?_⟩
  exact I.turnedL (t':=s.toks) (fl:=[z,ti,ox,j1,j2]) (λ c o hc e=>by
   simp only [List.mem_cons,List.not_mem_nil,or_false,not_or] at hc
   exact bt c o hc.1 hc.2.2.1 hc.2.2.2.1 hc.2.2.2.2 e) hf
 self:=λ _ _ _ _ _ st h=>wpAny_pyIter_zip st.1 h
abbrev zt1 (h:Heap) (a:Addr):Heap:=h.push { cls:=.type "tuple_iterator",data:=.fields #[.ref a,.int 0 0] }
abbrev zt2 (h:Heap) (a b:Addr):Heap:=(zt1 h a).push { cls:=.type "tuple_iterator",data:=.fields #[.ref b,.int 0 0] }
abbrev zt3 (h:Heap) (a b:Addr):Heap:=(zt2 h a b).push { cls:=.type "tuple",data:=.seq #[.ref h.objs.size,.ref (zt1 h a).objs.size] }
abbrev zt4 (h:Heap) (a b:Addr):Heap:=(zt3 h a b).push { cls:=.type "tuple",data:=.seq #[.none,.none] }
abbrev zt5 (h:Heap) (a b:Addr):Heap:=(zt4 h a b).push { cls:=.type "zip",data:=.fields #[.none,.bool false,.bool false,.ref (zt2 h a b).objs.size,.ref (zt3 h a b).objs.size] }
theorem zipT_new (a b:Addr) (as bs:Array Value):Meets (Builtin.«zip.__new__» ⟨[.type "zip",.ref a,.ref b],[]⟩) (λ _ R s=>s.heap.IsTuple a as/\s.heap.IsTuple b bs/\R (.ok (.ret (.ref (zt4 s.heap a b).objs.size))) { s with heap:=zt5 s.heap a b }) :=
 .of_wp λ prog w A R s h=>by
  obtain ⟨hp,g,d,tk,os⟩:=s
  obtain ⟨ha,hb,h⟩:=h
  have q0:=sub_zip
  have q1:Heap.IsTuple (Shared.heap ⟨hp,g,d,tk,os⟩) a as:=ha
  have q2:Heap.IsTuple (Shared.heap ⟨hp.push { cls:=.type "tuple_iterator",data:=.fields #[.ref a,.int 0 0] },g,d,tk,os⟩) b bs:=tup_at hb λ o e=>Heap.get?_push_of_some _ e
  wp_walk using wpAny_pyIter_tuple q1,wpAny_pyIter_tuple q2
  exact ⟨_,rfl,h⟩
theorem zipT_call {pg:Program}{wd:World}{B:Around}{X0:Value->Shared->Prop}{s0:Shared}{a b:Addr}{as bs:Array Value}{R:Value->Shared->Prop}(ha:s0.heap.IsTuple a as) (hb:s0.heap.IsTuple b bs)
  (f:∀h',IsZip h' (s0.heap.objs.size+4) (s0.heap.objs.size+2) (s0.heap.objs.size+3) .none->IsPair h' (s0.heap.objs.size+2) (.ref s0.heap.objs.size) (.ref (s0.heap.objs.size+1))->IsPair h' (s0.heap.objs.size+3) .none .none ->
   h'.IsTupleIter s0.heap.objs.size a 0->h'.IsTupleIter (s0.heap.objs.size+1) b 0->(∀c o,s0.heap.get? c=some o->h'.get? c=some o)->R (.ref (s0.heap.objs.size+4)) { s0 with heap:=h' }) :
  wpAny (model pg wd) B (call (.type "zip") [.ref a,.ref b]) R X0 s0:=by
 refine callType_new F.called_zip (by decide) (F.typeCall_zip_2 _ _) (F.newCall_zip_2 _ _) (λ ob=>F.args_object_init_3 ob _ _) F.entry_zip_new (zipT_new a b as bs) ⟨ha,hb,?_⟩
 have n1:(zt1 s0.heap a).objs.size=s0.heap.objs.size+1:=Heap.size_push ..
 have n2:(zt2 s0.heap a b).objs.size=s0.heap.objs.size+2:=by rw [Heap.size_push,n1]
 have n3:(zt3 s0.heap a b).objs.size=s0.heap.objs.size+3:=by rw [Heap.size_push,n2]
 have n4:(zt4 s0.heap a b).objs.size=s0.heap.objs.size+4:=by rw [Heap.size_push,n3]
 have g5:(zt5 s0.heap a b).get? (zt4 s0.heap a b).objs.size=some _:=Heap.get?_push_size _ rfl
 have g4:(zt5 s0.heap a b).get? (zt3 s0.heap a b).objs.size=some _:=Heap.get?_push_of_some _ (Heap.get?_push_size _ rfl)
 have g3:(zt5 s0.heap a b).get? (zt2 s0.heap a b).objs.size=some _:=Heap.get?_push_of_some _ (Heap.get?_push_of_some _ (Heap.get?_push_size _ rfl))
 have g2:(zt5 s0.heap a b).get? (zt1 s0.heap a).objs.size=some _:=Heap.get?_push_of_some _ (Heap.get?_push_of_some _ (Heap.get?_push_of_some _ (Heap.get?_push_size _ rfl)))
 have g1:(zt5 s0.heap a b).get? s0.heap.objs.size=some _:=Heap.get?_push_of_some _ (Heap.get?_push_of_some _ (Heap.get?_push_of_some _ (Heap.get?_push_of_some _ (Heap.get?_push_size _ rfl))))
 show _/\_
 rw [n2,n3,n4] at g5
 rw [n1,n2] at g3
 rw [n3] at g4
 rw [n1] at g2
 rw [n4]
 exact ⟨⟨_,g5,rfl⟩,f _ g5 g3 g4 ⟨_,g1,rfl,rfl⟩ ⟨_,g2,rfl,rfl⟩ λ c o q=>Heap.get?_push_of_some _ (Heap.get?_push_of_some _ (Heap.get?_push_of_some _ (Heap.get?_push_of_some _ (Heap.get?_push_of_some _ q))))⟩
theorem apart_of (n a b:Nat) (ha:a < n) (hb:b < n):Apart5 (n+4) (n+2) (n+3) n (n+1) a b:=by
 constructor<;>first | exact Nat.ne_of_lt (by omega) | exact Nat.ne_of_gt (by omega)
section
variable {X:Cx}{es:List Expr}{x1:Nat}{pp:Pos}
def iZip (K:W.Frag) (ta:TA):TI:=λ σ H R=>ta σ H λ vs H1=>∃a b xs ys,vs=[.ref a,.ref b]/\SqT K H1 a xs/\SqT K H1 b ys/\R (Itz K a b) H1
theorem pi_zip {e1 e2:Expr}{ta:TA}{p pos:Pos}(hg:Gl X "zip") (hm:X.mg "zip" = none) (ha:PA X [e1,e2] ta) (hs:starEach [e1,e2] X.env=[(false,eval e1 X.env),(false,eval e2 X.env)]:=by rfl) (hs2:starEach [e2] X.env=[(false,eval e2 X.env)]:=by rfl) :
  PI X (.Tuple es x1 pp) (.Call (.Name "zip" p) [e1,e2] [] pos) (iZip X.K ta):=by
 intro pins s σ H R I h
 have hA:=ha pos pins s σ H _ I h
 refine Call_ (ld_blt I hg hm boot_zip (PyProof.Rows.callWith_type1 (thn hA λ us s1 ⟨vs,H1,I1,r1,q1⟩=>?_) (by rw [hs,hs2]) (by rw [hs2];rfl)))
 obtain ⟨a,b,xs,ys,rfl,ha,hb,q⟩:=q1
 obtain ⟨u,u',rfl,ra,rb⟩:=vals2 r1
 cases (show u=Value.ref a from ra)
 cases (show u'=Value.ref b from rb)
 obtain ⟨as,va,pa,za⟩:=I1.tuple ha
 obtain ⟨bs,vb,pb,zb⟩:=I1.tuple hb
 have al:a < s1.heap.objs.size:=by obtain ⟨o,g,_⟩:=pa;exact Heap.lt_size g
 have bl:b < s1.heap.objs.size:=by obtain ⟨o,g,_⟩:=pb;exact Heap.lt_size g
 refine zipT_call (show s1.heap.IsTuple a as.toArray from pa) (show s1.heap.IsTuple b bs.toArray from pb) λ h' w1 w2 w3 w4 w5 kk=>?_
 have I2:Inv X pins σ H1 { s1 with heap:=h' }:=I1.kept (t':=s1.toks) kk
 have ap:=apart_of s1.heap.objs.size a b al bl
 refine wpAny_pyIter_zip w1 ⟨s1.heap.objs.size+4,[s1.heap.objs.size+4,s1.heap.objs.size+2,s1.heap.objs.size+3,s1.heap.objs.size,s1.heap.objs.size+1],_,_,H1,rfl,I2,turn_zip ap,⟨w1,w2,⟨_,_,w3⟩,w4,w5⟩,λ c hc=>?_,q⟩
 have ge:s1.heap.objs.size≤c:=by
  simp only [List.mem_cons,List.not_mem_nil,or_false] at hc
  rcases hc with rfl | rfl | rfl | rfl | rfl<;>omega
 exact I1.fpOk ge (I1.hok.fresh ge)
end
def LoopZ (K:PySem.W.Frag) (g:TG) (tb:TS) (D:Ends) (σ:St) (vs:List V) (H1:Hp):Prop:=∃a b xs ys,vs=[.ref a,.ref b]/\SqT K H1 a xs/\SqT K H1 b ys/\∃W:Nat->Nat->St->Hp->Prop,(∃m,W 0 m σ H1)/\∀i m σ H,W i m σ H ->
 ((Itz K a b).stop i H/\D.nx σ H)\/((Itz K a b).go i H/\∃N:St->Hp->Prop,(∀σ' H',N σ' H'->∃m',m' < m/\W (i+1) m' σ' H')/\∀x H',(Itz K a b).yld i H x H'->g x σ H' λ σ2 H2=>tb { D with nx:=N,ct:=N,bk:=D.nx } σ2 H2)
theorem for_eqZ {K:W.Frag}{ta:TA}{g:TG}{tb:TS}{D:Ends}{σ:St}{H:Hp}:tFor (iZip K ta) g tb D σ H=ta σ H λ vs H1=>LoopZ K g tb D σ vs H1:=rfl
theorem LoopZ.mk {K:W.Frag}{a b:Addr}{xs ys:List V}{g:TG}{tb:TS}{D:Ends}{σ:St}{H:Hp}(n:Nat) (hn:n=min xs.length ys.length) (h1:SqT K H a xs) (h2:SqT K H b ys) (Pv:Nat->St->Hp->Prop) (h0:Pv 0 σ H) (hl:∀i σ H,i≤n->Pv i σ H->SqT K H a xs/\SqT K H b ys)
  (hs:∀i x y σ H T,i < n->xs[i]?=some x->ys[i]?=some y->Pv i σ H->H T=none->g (.ref T) σ (upd H T (.tup [x,y])) λ σ2 H2=>tb { D with nx:=Pv (i+1),ct:=Pv (i+1),bk:=D.nx } σ2 H2) (hd:∀σ H,Pv n σ H->D.nx σ H) :
  LoopZ K g tb D σ [.ref a,.ref b] H:=by
 subst hn
 refine ⟨a,b,xs,ys,rfl,h1,h2,λ i m σ H=>m=min xs.length ys.length - i/\i≤min xs.length ys.length/\Pv i σ H,⟨_,rfl,Nat.zero_le _,h0⟩,?_⟩
 rintro i m σ H ⟨rfl,hi,p⟩
 obtain ⟨k1,k2⟩:=hl i σ H hi p
 by_cases hlt:i < min xs.length ys.length
 ·have l1:i < xs.length:=by omega
  have l2:i < ys.length:=by omega
  refine .inr ⟨⟨xs,ys,_,_,k1,k2,List.getElem?_eq_getElem l1,List.getElem?_eq_getElem l2⟩,Pv (i+1),λ σ' H' p'=>⟨min xs.length ys.length - (i+1),by omega,rfl,hlt,p'⟩,λ v H' yy=>?_⟩
  obtain ⟨T,x,y,rfl,hT,rfl,ex⟩:=yy
  obtain ⟨ex1,ex2⟩:=ex xs ys k1 k2
  exact hs i x y σ H T hlt ex1 ex2 p hT
 ·have e:i=min xs.length ys.length:=by omega
  exact .inl ⟨⟨xs,ys,k1,k2,by omega⟩,hd σ H (e ▸ p)⟩
def CompZ (K:PySem.W.Frag) (k:Nat) (js:List Nat) (g:TG) (te:TE) (σ:St) (vs:List V) (H1:Hp) (Q:VK):Prop:=∃a b xs ys,vs=[.ref a,.ref b]/\SqT K H1 a xs/\SqT K H1 b ys/\∃W:Nat->Nat->List V->St->Hp->Prop,(∃m,W 0 m [] (compSt k js σ) H1)/\∀i m zs σ' H',W i m zs σ' H' ->
  ((Itz K a b).stop i H'/\∀p,H' p=none->Q (.ref p) (upd H' p (.lst zs))) \/
  ((Itz K a b).go i H'/\zs.length < sizeLine/\∃N:List V->St->Hp->Prop,(∀zs σ2 H2,N zs σ2 H2->∃m',m' < m/\W (i+1) m' zs σ2 H2)/\∀x H2,(Itz K a b).yld i H' x H2->g x σ' H2 λ σ3 H3=>te σ3 H3 λ v H4=>N (zs++[v]) σ3 H4)
theorem comp_eqZ {K:W.Frag}{k:Nat}{js:List Nat}{ta:TA}{g:TG}{te:TE}{σ:St}{H:Hp}{Q:VK}:tComp (iZip K ta) k js g te σ H Q=ta σ H λ vs H1=>CompZ K k js g te σ vs H1 Q:=rfl
theorem CompZ.mk {K:W.Frag}{a b:Addr}{xs ys:List V}{k:Nat}{js:List Nat}{g:TG}{te:TE}{Q:VK}{σ:St}{H:Hp}(n:Nat) (hn:n=min xs.length ys.length) (h1:SqT K H a xs) (h2:SqT K H b ys) (Pv:Nat->List V->St->Hp->Prop) (h0:Pv 0 [] (compSt k js σ) H) (hl:∀i zs σ H,i≤n->Pv i zs σ H->SqT K H a xs/\SqT K H b ys)
  (hs:∀i x y zs σ H T,i < n->xs[i]?=some x->ys[i]?=some y->Pv i zs σ H->H T=none->zs.length < sizeLine/\g (.ref T) σ (upd H T (.tup [x,y])) λ σ3 H3=>te σ3 H3 λ v H4=>Pv (i+1) (zs++[v]) σ3 H4) (hz:∀zs σ H,Pv n zs σ H->∀p,H p=none->Q (.ref p) (upd H p (.lst zs))) (hlen:∀i zs σ H,Pv i zs σ H->zs.length < sizeLine) :
  CompZ K k js g te σ [.ref a,.ref b] H Q:=by
 subst hn
 refine ⟨a,b,xs,ys,rfl,h1,h2,λ i m zs σ H=>m=min xs.length ys.length - i/\i≤min xs.length ys.length/\Pv i zs σ H,⟨_,rfl,Nat.zero_le _,h0⟩,?_⟩
 rintro i m zs σ H ⟨rfl,hi,p⟩
 obtain ⟨k1,k2⟩:=hl i zs σ H hi p
 by_cases hlt:i < min xs.length ys.length
 ·have l1:i < xs.length:=by omega
  have l2:i < ys.length:=by omega
  refine .inr ⟨⟨xs,ys,_,_,k1,k2,List.getElem?_eq_getElem l1,List.getElem?_eq_getElem l2⟩,hlen _ _ _ _ p,Pv (i+1),λ zs' σ' H' p'=>⟨min xs.length ys.length - (i+1),by omega,rfl,hlt,p'⟩,λ v H' yy=>?_⟩
  obtain ⟨T,x,y,rfl,hT,rfl,ex⟩:=yy
  obtain ⟨ex1,ex2⟩:=ex xs ys k1 k2
  exact (hs i x y zs σ H T hlt ex1 ex2 p hT).2
 ·have e:i=min xs.length ys.length:=by omega
  exact .inl ⟨⟨xs,ys,k1,k2,by omega⟩,hz zs σ H (e ▸ p)⟩
section
variable {X:Cx}
theorem call_sumL (hc:X.calm=true):CallR X (.builtin "sum") (λ xs H Q=>∃(a:Addr) (ns:List Int),xs=[.ref a]/\SqL X.K H a (ns.map V.int)/\Q (.int ns.sum) H):=by
 intro pins s σ H xs us Q I r h
 obtain ⟨a,ns,rfl,hq,q⟩:=h
 obtain ⟨u,rfl,ru⟩:=vals1 r
 cases (show u=Value.ref a from ru)
 obtain ⟨its,rv,pl,hz⟩:=I.list hq
 have hi:=intsAre_of rv
 have hn:=hi.numsOf
 obtain ⟨ps,e⟩:=hi.allInts.items
 have hl:s.heap.IsList a (intItems ps):=e ▸ pl.isList
 refine sum_intListG (I.ok.hd hc) hl λ h' tk t' kk=>?_
 have e2:preSum (numAt ps) ps.size=ns.sum:=by
  rw [preSum_eq,List.take_of_length_le (by simp),← nums_intItems,← e]
  exact congrArg List.sum hn
 rw [e2]
 exact ⟨.int ns.sum,H,I.kept kk,⟨t',rfl⟩,q⟩
def Its (lo st:Int) (n:Nat):It:=⟨λ i _=>i < n,λ i H x H'=>H'=H/\x=.int (lo+i * st),λ i _=>n≤i⟩
def iRng3 (ta:TA):TI:=λ σ H R=>ta σ H λ vs H1=>∃i j c:Int,vs=[.int i,.int j,.int c]/\(c≠0/\c.natAbs < 1073741824/\Builtin.Range.small i j c=true)/\R (Its i c (Builtin.Range.rangeSize i j c).toNat) H1
end
def LoopS (lo st:Int) (n:Nat) (g:TG) (tb:TS) (D:Ends) (σ:St) (H1:Hp):Prop:=∃W:Nat->Nat->St->Hp->Prop,(∃m,W 0 m σ H1)/\∀i m σ H,W i m σ H ->
 ((Its lo st n).stop i H/\D.nx σ H)\/((Its lo st n).go i H/\∃N:St->Hp->Prop,(∀σ' H',N σ' H'->∃m',m' < m/\W (i+1) m' σ' H')/\∀x H',(Its lo st n).yld i H x H'->g x σ H' λ σ2 H2=>tb { D with nx:=N,ct:=N,bk:=D.nx } σ2 H2)
theorem for_eqR3 {ta:TA}{g:TG}{tb:TS}{D:Ends}{σ:St}{H:Hp}:tFor (iRng3 ta) g tb D σ H=ta σ H λ vs H1=>∃i j c:Int,vs=[.int i,.int j,.int c]/\(c≠0/\c.natAbs < 1073741824/\Builtin.Range.small i j c=true)/\LoopS i c (Builtin.Range.rangeSize i j c).toNat g tb D σ H1:=rfl
theorem LoopS.mk {lo st:Int}{n:Nat}{g:TG}{tb:TS}{D:Ends}{σ:St}{H:Hp}(Pv:Nat->St->Hp->Prop) (h0:Pv 0 σ H)
  (hs:∀i σ H,i < n->Pv i σ H->g (.int (lo+i * st)) σ H λ σ2 H2=>tb { D with nx:=Pv (i+1),ct:=Pv (i+1),bk:=D.nx } σ2 H2) (hd:∀σ H,Pv n σ H->D.nx σ H):LoopS lo st n g tb D σ H:=by
 refine ⟨λ i m σ H=>m=n - i/\i≤n/\Pv i σ H,⟨_,rfl,Nat.zero_le _,h0⟩,?_⟩
 rintro i m σ H ⟨rfl,hi,p⟩
 by_cases hlt:i < n
 ·refine .inr ⟨hlt,Pv (i+1),λ σ' H' p'=>⟨n - (i+1),by omega,rfl,hlt,p'⟩,λ v H' yy=>?_⟩
  obtain ⟨rfl,rfl⟩:=yy
  exact hs i σ _ hlt p
 ·have e:i=n:=by omega
  exact .inl ⟨(show n≤i by omega),hd σ H (e ▸ p)⟩
def CompS (lo st:Int) (n k:Nat) (js:List Nat) (g:TG) (te:TE) (σ:St) (H1:Hp) (Q:VK):Prop:=∃W:Nat->Nat->List V->St->Hp->Prop,(∃m,W 0 m [] (compSt k js σ) H1)/\∀i m ys σ' H',W i m ys σ' H' ->
  ((Its lo st n).stop i H'/\∀p,H' p=none->Q (.ref p) (upd H' p (.lst ys))) \/
  ((Its lo st n).go i H'/\ys.length < sizeLine/\∃N:List V->St->Hp->Prop,(∀zs σ2 H2,N zs σ2 H2->∃m',m' < m/\W (i+1) m' zs σ2 H2)/\∀x H2,(Its lo st n).yld i H' x H2->g x σ' H2 λ σ3 H3=>te σ3 H3 λ v H4=>N (ys++[v]) σ3 H4)
theorem comp_eqR3 {k:Nat}{js:List Nat}{ta:TA}{g:TG}{te:TE}{σ:St}{H:Hp}{Q:VK}:tComp (iRng3 ta) k js g te σ H Q=ta σ H λ vs H1=>∃i j c:Int,vs=[.int i,.int j,.int c]/\(c≠0/\c.natAbs < 1073741824/\Builtin.Range.small i j c=true)/\CompS i c (Builtin.Range.rangeSize i j c).toNat k js g te σ H1 Q:=rfl
theorem CompS.mk {lo st:Int}{n k:Nat}{js:List Nat}{g:TG}{te:TE}{Q:VK}{σ:St}{H:Hp}(Pv:Nat->List V->St->Hp->Prop) (h0:Pv 0 [] (compSt k js σ) H) (hlen:∀i ys σ H,Pv i ys σ H->ys.length < sizeLine)
  (hs:∀i ys σ H,i < n->Pv i ys σ H->g (.int (lo+i * st)) σ H λ σ3 H3=>te σ3 H3 λ v H4=>Pv (i+1) (ys++[v]) σ3 H4) (hd:∀ys σ H,Pv n ys σ H->∀p,H p=none->Q (.ref p) (upd H p (.lst ys))):CompS lo st n k js g te σ H Q:=by
 refine ⟨λ i m ys σ H=>m=n - i/\i≤n/\Pv i ys σ H,⟨_,rfl,Nat.zero_le _,h0⟩,?_⟩
 rintro i m ys σ H ⟨rfl,hi,p⟩
 by_cases hlt:i < n
 ·refine .inr ⟨hlt,hlen _ _ _ _ p,Pv (i+1),λ zs σ' H' p'=>⟨n - (i+1),by omega,rfl,hlt,p'⟩,λ v H' yy=>?_⟩
  obtain ⟨rfl,rfl⟩:=yy
  exact hs i ys σ _ hlt p
 ·have e:i=n:=by omega
  exact .inl ⟨(show n≤i by omega),hd ys σ H (e ▸ p)⟩
section
variable {X:Cx}
def rCatS:R2:=λ x y H Q=>∃a b xs ys,x=.ref a/\y=.ref b/\H a=some (.tup xs)/\H b=some (.tup ys)/\xs.length+ys.length≤sizeLine/\∀r H',Same H H'->H' r=some (.tup (xs++ys))->Q (.ref r) H'
theorem op_catS:OpR X (binaryOp .Add) rCatS:=by
 intro pins s σ H x y v u Q I rx ry h
 obtain ⟨a,b,xs,ys,rfl,rfl,ha,hb,hz,q⟩:=h
 refine op_catA pins s σ H _ _ v u Q I rx ry ⟨a,b,xs,ys,rfl,rfl,.of ha,.of hb,hz,λ e=>?_,λ _ e=>?_,λ _ _ p hp=>?_⟩
 ·subst e;exact q b H (Same.refl _) hb
 ·subst e;exact q a H (Same.refl _) (by rw [List.append_nil];exact ha)
 ·exact q p _ (same_new hp _) upd_same
def rSlTS:V->Option Int->Option Int->Hp->VK->Prop:=λ x lo hi H Q=>∃a xs,x=.ref a/\H a=some (.tup xs)/\¬(HT.sIx xs.length 0 lo=0/\HT.sIx xs.length xs.length hi=xs.length)/\∀r H',Same H H'->H' r=some (.tup (cutV xs lo hi))->Q (.ref r) H'
theorem sl_tupS:SlR X rSlTS:=by
 intro pins s σ H x v vl vu lo hi sl Q I rx hs pl pu h
 obtain ⟨a,xs,e,ha,nw,q⟩:=h
 exact sl_tup pins s σ H x v vl vu lo hi sl Q I rx hs pl pu ⟨a,xs,e,.of ha,nw,λ p hp=>q p _ (same_new hp _) upd_same⟩
end
theorem has_of {names:List (Str × NameKind)}{cl:List (Str × Addr)}(h:names.all (λ y=>match y.2 with | .cell=>(cl.lookup y.1).isSome | .free=>(cl.lookup y.1).isSome | _=>true)=true) :
  ∀x,(names.lookup x=some .cell\/names.lookup x=some .free)->∃c,cl.lookup x=some c:=by
 intro x hx
 have z:=List.all_eq_true.mp h
 rcases hx with hx | hx
 ·exact Option.isSome_iff_exists.mp (z _ (PySem.mem_of_lookup hx))
 ·exact Option.isSome_iff_exists.mp (z _ (PySem.mem_of_lookup hx))
theorem cap1 {X:Cx}{scope:Scope}{cl:List (Str × Addr)}{x0:Str}{j0:Nat}(c0:Cap X scope cl x0 j0):∀(i:Nat) x j,[x0][i]?=some x->[j0][i]?=some j->Cap X scope cl x j
 | 0,_,_,h1,h2=>by cases h1;cases h2;exact c0
 | _+1,_,_,h1,_=>by cases h1
section
variable {prog:Program}{w:World}{A:Around}{R:Result->Shared->Prop}{s:Shared}
theorem compLoop_if {elt target iter cnd:Expr}{scope:Scope}{pos:Pos}{it acc:Value}{env:Env}(I:Nat->Shared->Prop)
  (turn:∀n s,I n s->wpAny (model prog w) A (pyNext it) (λ r s₁=>match r with
   | none=>R (.ok .next) s₁
   | some v=>wpAny (model prog w) A (letOwnedTupleGo target it v) (λ _ s₀=>wpAny (model prog w) A (assign target env v) (λ _ s₂=>wpAny (model prog w) A (isTrue cnd env (eval cnd env)) (λ b s₃ =>
     if b=true then wpAny (model prog w) A (eval elt env) (λ x s₄ =>
      wpAny (model prog w) A (call (.builtin "list.append") [acc,x]) (λ _ s₅=>∃m,m < n/\I m s₅) (λ _ _=>False) s₄) (λ _ _=>False) s₃
     else ∃m,m < n/\I m s₃)
     (λ _ _=>False) s₂) (λ _ _=>False) s₀) (λ _ _=>False) s₁) (λ _ _=>False) s)
  (n:Nat) (h:I n s) :
  codeAny (model prog w) A (.compLoop (.ListComp elt [⟨target,iter,[cnd],0⟩] scope pos) 0 it acc env) R s:=by
 refine codeAny_loop rfl I (λ n s hI=>?_) n h
 show wpAny _ _ ((compTurn (.ListComp elt [⟨target,iter,[cnd],0⟩] scope pos) 0 it acc env).onRaise (λ x=>do noteFrame x env;theTreesLotGoes x)) _ _ s
 refine wpAny_noted ?_
 rw [compTurn_list]
 refine wpAny_bind (wpAny_standAt (wpAny_bind (wpAny_mono (turn n s hI) (λ r s₁ h₁=>?_) λ _ _ h'=>h'.elim)))
 cases r with
 | none=>exact wpAny_pure h₁
 | some v =>
  refine wpAny_bind (wpAny_mono h₁ (λ _ s₀ h₀=>?_) λ _ _ h'=>h'.elim)
  refine wpAny_bind (wpAny_mono h₀ (λ _ s₂ h₂=>?_) λ _ _ h'=>h'.elim)
  refine wpAny_bind (wpAny_mono (wpAny_tests_one h₂) (λ ok s₃ h₃=>?_) λ _ _ h'=>h'.elim)
  cases ok with
  | false=>exact wpAny_pure ⟨rfl,h₃⟩
  | true=>exact wpAny_bind (wpAny_bind (wpAny_mono h₃ (λ x s₄ h₄=>wpAny_bind (wpAny_mono h₄ (λ _ s₅ h₅=>wpAny_pure (wpAny_pure ⟨rfl,h₅⟩)) λ _ _ z=>z.elim)) λ _ _ z=>z.elim))
end
def tCompI (wi:TI) (k:Nat) (js:List Nat) (g:TG) (tc:TT) (te:TE):TE:=λ σ H Q=>wi σ H λ J H1 =>
 ∃W:Nat->Nat->List V->St->Hp->Prop,(∃m,W 0 m [] (compSt k js σ) H1)/\∀i m ys σ' H',W i m ys σ' H' ->
  (J.stop i H'/\∀p,H' p=none->Q (.ref p) (upd H' p (.lst ys))) \/
  (J.go i H'/\ys.length < sizeLine/\∃N:List V->St->Hp->Prop,(∀zs σ2 H2,N zs σ2 H2->∃m',m' < m/\W (i+1) m' zs σ2 H2) /\
   ∀x H2,J.yld i H' x H2->g x σ' H2 λ σ3 H3=>tc σ3 H3 λ b H4=>if b=true then te σ3 H4 λ v H5=>N (ys++[v]) σ3 H5 else N ys σ3 H4)
theorem compI_core {X:Cx}{elt tg iter cnd:Expr}{scope:Scope}{cl:List (Str × Addr)}{pos:Pos}{own fv:List Str}{js:List Nat}{wi:TI}{g:TG}{tc:TT}{te:TE}
    (hc:X.calm=true) (hi:PI X tg iter wi) (hclos:closureFor scope X.env=pure cl) (hcell:∀y∈scope.names,y.2≠.cell) (hkind:scope.kind=.function)
    (hnames:∀y∈scope.names,y.2=.local->scope.names.lookup y.1=some .local)
    (hcl:∀x c,cl.lookup x=some c->X.env.cells.lookup x=some c)
    (hhas:∀x,((relabel scope X.env).names.lookup x=some .cell\/(relabel scope X.env).names.lookup x=some .free)->∃c,cl.lookup x=some c)
    (hlen:js.length=fv.length) (hcap:∀(i:Nat) x j,fv[i]?=some x->js[i]?=some j->Cap X scope cl x j)
    (hg:∀(C:Addr) (ex:List Addr) (s:Shared) (H:Hp),PG (cxComp X (own++fv) scope cl C ex s H) tg g)
    (he:∀(C:Addr) (ex:List Addr) (s:Shared) (H:Hp),PE (cxComp X (own++fv) scope cl C ex s H) elt te)
    (ht:∀(C:Addr) (ex:List Addr) (s:Shared) (H:Hp),PT (cxComp X (own++fv) scope cl C ex s H) cnd tc)
    (hs:∀x,foldedSetIterable iter X.env x=pure x)
    {pins:List (Addr × Obj)}{s:Shared}{σ:St}{H:Hp}{Q:VK}{use:Option (Value->Sem Unit)}{QQ:Value->Shared->Prop}{fpos:Pos}(I:Inv X pins σ H s) (h:tCompI wi own.length js g tc te σ H Q)
    (fin:∀(a C:Addr) (s5:Shared) (H5:Hp) (fl:Flow),Inv X pins σ H5 s5->H5 C=none->C≠X.env.locals->X.s₀.heap.objs.size≤C->(∀x c,X.env.cells.lookup x=some c->c≠C)->(∀p∈X.pn++pins,p.1≠C)->(∃m,s5.heap.Ns C m)->Q (.ref a) H5->compPost (model X.prog X.w) X.A X.xe use QQ (.ref a) C (.ok fl) s5) :
    wpAny (model X.prog X.w) X.A (comprehension (.ListComp elt [⟨tg,iter,[cnd],0⟩] scope pos) scope X.env fpos (newList []) false (firstIter [⟨tg,iter,[cnd],0⟩] X.env) use) QQ X.xe s:=by
  refine wpAny_comprehension_free (use:=use) rfl hs hclos hkind hnames (thn (hi pins s σ H _ I h) λ v s1 h1=>thn h1 λ itv s2 h2=>?_)
  obtain ⟨it,fp,tn,J,H2,e,I2,T,st2,f2,W,⟨m0,w0⟩,turn⟩:=h2
  subst e
  refine wpAny_newObj_type (wpAny_newFunctionEnv hcell (by intro y hy;simp at hy) (λ h₁ hns₁ hsb₁=>?_) hkind)
  dsimp only at hns₁ hsb₁ ⊢
  generalize hHp:s2.heap.push { cls:=.type "list",dict:=none,data:=.seq ([]:List Value).toArray }=hL at hns₁ hsb₁ ⊢
  have hC:hL.objs.size=s2.heap.objs.size+1:=by rw [← hHp,Heap.size_push]
  have hDC:s2.heap.objs.size≠hL.objs.size:=by rw [hC];exact Nat.ne_of_lt (Nat.lt_succ_self _)
  have ltC:∀b,b < s2.heap.objs.size->b≠hL.objs.size:=λ b hb=>by rw [hC];exact Nat.ne_of_lt (Nat.lt_succ_of_lt hb)
  have old:∀b o,s2.heap.get? b=some o->h₁.get? b=some o:=λ b o e=>hsb₁.extBut b o (ltC b (Heap.lt_size e)) (Heap.get?_push_of_some _ (hHp ▸ Heap.get?_push_of_some _ e))
  have hacc:h₁.get? s2.heap.objs.size=some { cls:=.type "list",data:=.seq ([]:List Value).toArray 0 }:=hsb₁.extBut _ _ hDC (Heap.get?_push_of_some _ (hHp ▸ Heap.get?_push_size _ rfl))
  have hfresh:∀a,s2.heap.objs.size≤a->H2 a=none:=λ a ha=>I2.hok.fresh ha
  have fpL:∀b∈fp,b < s2.heap.objs.size:=λ b hb=>by
    obtain ⟨o,e,_⟩:=T.obj _ _ st2 b hb
    exact Heap.lt_size e
  have cellL:∀x c,cl.lookup x=some c->c < s2.heap.objs.size:=λ x c e=>by
    obtain ⟨v,q⟩:=I2.cell x c (hcl x c e)
    exact q.lt
  have pinL:∀p∈X.pn++pins,p.1 < s2.heap.objs.size:=λ p hp=>Heap.lt_size (I2.pin p hp).1
  generalize hX:cxComp X (own++fv) scope cl hL.objs.size fp s2 H2=Y
  have ok:Y.Ok:=by
    subst hX
    refine ⟨I2.ok.mod,hkind,I2.ok.glob,I2.ok.blt,by show s2.heap.objs.size≤hL.objs.size;omega,λ x y c h1 h2=>I2.ok.inj x y c (hcl x c h1) (hcl y c h2),λ x hx=>hhas x hx,
      λ x c hf=>absurd hf (by show ¬(false=true);decide),I2.ok.hd,I2.ok.frames,.inl rfl,λ b hb=>⟨ltC b (fpL b hb),λ x c e=>(f2 b hb).2.2.2.2.1 x c (hcl x c e)⟩,I2.bs,Nat.le_trans I2.ok.bsz I2.sz,λ b o e hb=>?_,λ b hb hz=>?_,I2.stack,I2.stkFree⟩
    · rcases (f2 b hb).2.2.2.1 with z | z
      · exact I2.ok.noex b o e z
      · exact absurd (Nat.lt_of_lt_of_le (Heap.lt_size e) (Nat.le_trans I2.ok.bsz z)) (Nat.lt_irrefl _)
    · rcases List.mem_cons.mp (I2.stkSub b hz) with z | z
      · exact (f2 b hb).2.1 z
      · exact (f2 b hb).2.2.1 z
  have hYl:Y.env.locals=hL.objs.size:=by subst hX;rfl
  have hYs:Y.s₀=s2:=by subst hX;rfl
  have hYH:Y.H₀=H2:=by subst hX;rfl
  have hYx:Y.ex=fp:=by subst hX;rfl
  have hYf:Y.fs=frs X.stack:=by subst hX;rfl
  have hYc:Y.env.cells=cl:=by subst hX;rfl
  have hYp:Y.pn=X.pn:=by subst hX;rfl
  have pinOk:∀p∈X.pn++pins,s2.heap.get? p.1=some p.2/\H2 p.1=none/\p.1≠hL.objs.size/\p.1 ∉ frs X.stack/\∀v,p.2.data≠.cell v:=λ p hp=>by
    obtain ⟨e,n,ne,nf,d⟩:=I2.pin p hp
    refine ⟨e,n,ltC _ (Heap.lt_size e),λ z=>?_,d⟩
    rcases List.mem_cons.mp (I2.stkSub _ z) with q | q
    · exact ne q
    · exact nf q
  have stkL:∀b∈frs X.stack,b < s2.heap.objs.size:=λ b hb=>by
    obtain ⟨_,o,ho,_⟩:=I2.stack.mem hb
    exact Heap.lt_size ho
  have I3:Inv Y (pins++[(s2.heap.objs.size,{ cls:=.type "list",data:=.seq ([]:List Value).toArray 0 })]) (compSt own.length js σ) H2 { s2 with heap:=h₁,toks:=s2.toks+([]:List (Str × Value)).length }:=by
    refine ⟨ok,by subst hX;rfl,I2.bare,by rw [hYH,hYs];exact Un.kept old,⟨_,by rw [hYl];exact hns₁,λ i x v e1 e2 e3=>?_⟩,λ x c e=>?_,by rw [hYl];exact hfresh _ (by omega),λ x c e=>?_,λ p hp=>?_,by subst hX;exact I2.hok.kept old,?_⟩
    · subst hX
      have e1:(own++fv)[i]?=some x:=e1
      unfold compSt at e2
      by_cases hi:i < own.length
      · rw [List.getElem?_append_left (by simpa using hi),List.getElem?_replicate] at e2
        split at e2<;>cases e2
      · rw [List.getElem?_append_right (by simpa using hi),List.length_replicate,List.getElem?_map] at e2
        rw [List.getElem?_append_right (by omega)] at e1
        cases ej:js[i - own.length]? with
        | none=>rw [ej] at e2;cases e2
        | some j =>
          rw [ej] at e2
          have cp:=hcap _ x j e1 ej
          have e2':σ[j]?=some (some v):=join_some (Option.some.inj e2)
          obtain ⟨m,hn,hl⟩:=I2.loc
          obtain ⟨u,r,l⟩:=hl j x v cp.at_ e2' (cp.out.elim (λ z=>.inr (.inl z)) λ z=>.inr (.inr z))
          refine ⟨u,r,.inr ⟨cp.inn,?_⟩⟩
          obtain ⟨c,ec⟩:=hhas x cp.inn
          rcases l with ⟨k,_⟩ | ⟨_,c',ec',z⟩
          · have k:X.env.scope.names.lookup x=some .local:=k
            rcases cp.out with q | q<;>rw [q] at k<;>cases k
          · rw [hcl x c ec] at ec'
            cases ec'
            obtain ⟨o,ho,hd⟩:=z
            exact ⟨c,ec,o,old _ _ ho,hd⟩
    · rw [hYc] at e
      obtain ⟨v,o,ho,hd⟩:=I2.cell x c (hcl x c e)
      exact ⟨v,o,old _ _ ho,hd⟩
    · rw [hYc] at e
      exact I2.freeC x c (hcl x c e)
    · rw [hYp] at hp
      rw [hYl,hYf]
      rcases List.mem_append.mp hp with z | z
      · obtain ⟨a,b,c,d,f⟩:=pinOk p (List.mem_append_left _ z)
        exact ⟨old _ _ a,b,c,d,f⟩
      · rcases List.mem_append.mp z with z | z
        · obtain ⟨a,b,c,d,f⟩:=pinOk p (List.mem_append_right _ z)
          exact ⟨old _ _ a,b,c,d,f⟩
        · have e:p=_:=List.mem_singleton.mp z
          subst e
          exact ⟨hacc,hfresh _ (Nat.le_refl _),hDC,λ z=>absurd (stkL _ z) (Nat.lt_irrefl _),λ v z=>by cases z⟩
    · subst hX
      unfold compSt
      show _=(own++fv).length
      simp [hlen]
  have hYprog:Y.prog=X.prog:=by subst hX;rfl
  have hYw:Y.w=X.w:=by subst hX;rfl
  have hYK:Y.K=X.K:=by subst hX;rfl
  have hYA:Y.A=X.A:=by subst hX;rfl
  have hYcalm:Y.calm=true:=by subst hX;exact hc
  have hYxe:Y.xe=λ _ _=>False:=by subst hX;rfl
  have hYenv:Y.env=compEnvC scope cl hL.objs.size X.env:=by subst hX;rfl
  have hg':=hg hL.objs.size fp s2 H2
  have he':=he hL.objs.size fp s2 H2
  have ht':=ht hL.objs.size fp s2 H2
  rw [hX] at hg' he' ht'
  have fpOk:∀ {H':Hp}{pn:List (Addr × Obj)},(∀b∈fp,H' b=none)->(∀p∈pn,p.1=s2.heap.objs.size\/p∈pins)->∀b∈fp,FpOk Y pn H' b:=λ hn hp b hb=>by
    refine ⟨hn b hb,by rw [hYl];exact ltC b (fpL b hb),?_,.inl (by rw [hYx];exact hb),λ x c e=>?_,λ p hq=>?_⟩
    · rw [hYf]
      intro hz
      rcases List.mem_cons.mp (I2.stkSub b hz) with z | z
      · exact (f2 b hb).2.1 z
      · exact (f2 b hb).2.2.1 z
    · rw [hYc] at e
      exact (f2 b hb).2.2.2.2.1 x c (hcl x c e)
    · rw [hYp] at hq
      rcases List.mem_append.mp hq with z | z
      · exact (f2 b hb).2.2.2.2.2 p (List.mem_append_left _ z)
      · rcases hp p z with q | q
        · rw [q];exact Ne.symm (Nat.ne_of_lt (fpL b hb))
        · exact (f2 b hb).2.2.2.2.2 p (List.mem_append_right _ q)
  have loop:∀s₃:Shared,s₃={ s2 with heap:=h₁,toks:=s2.toks+([]:List (Str × Value)).length } ->
      codeAny (model X.prog X.w) X.A (.compLoop (.ListComp elt [⟨tg,iter,[cnd],0⟩] scope pos) 0 (.ref it) (.ref s2.heap.objs.size) (compEnvC scope cl hL.objs.size X.env))
        (compPost (model X.prog X.w) X.A X.xe use QQ (.ref s2.heap.objs.size) hL.objs.size) s₃:=by
    rintro s₃ rfl
    refine compLoop_if (λ n s'=>∃i ys its k σ' H',Inv Y (pins++[(s2.heap.objs.size,{ cls:=.type "list",data:=.seq (its:List Value).toArray k })]) σ' H' s'/\tn i s'.heap/\(∀b∈fp,H' b=none)/\Vals ys its/\ys.length≤sizeLine/\W i n ys σ' H') ?_ m0
      ⟨0,[],[],0,_,H2,I3,T.keep _ _ _ st2 λ b _ o e=>old b o e,λ b hb=>(f2 b hb).1,.nil,Nat.zero_le _,w0⟩
    rintro n s4 ⟨i,ys,its,k,σ4,H4,I4,st4,fr4,rv,hz,w4⟩
    have pinD:∀p∈(pins++[(s2.heap.objs.size,({ cls:=.type "list",data:=.seq (its:List Value).toArray k }:Obj))]),p.1=s2.heap.objs.size\/p∈pins:=λ p hp=>by
      rcases List.mem_append.mp hp with z | z
      · exact .inr z
      · rw [List.mem_singleton.mp z];exact .inl rfl
    have F4:=fpOk (pn:=pins++[(s2.heap.objs.size,{ cls:=.type "list",data:=.seq (its:List Value).toArray k })]) fr4 pinD
    rcases turn i n ys σ4 H4 w4 with ⟨stop,qn⟩ | ⟨go,hlt,N,hN,step⟩
    · have d:=T.done Y hYprog hYw hYK hYcalm i _ s4 σ4 H4 (λ _ _=>False) I4 F4 st4 stop
      rw [hYA] at d
      refine thn d λ r s5 ⟨hr,I5⟩=>?_
      subst hr
      obtain ⟨m,hn,_⟩:=id I5.loc
      rw [hYl] at hn
      have hD:=I5.pin (s2.heap.objs.size,{ cls:=.type "list",data:=.seq (its:List Value).toArray k }) (List.mem_append_right _ (List.mem_append_right _ (List.mem_singleton.mpr rfl)))
      have hDn:H4 s2.heap.objs.size=none:=hD.2.1
      have kp:∀b o,b≠hL.objs.size->s5.heap.get? b=some o->s5.heap.get? b=some o:=λ b o _ e=>e
      have B:=I5.base
      rw [hYH,hYs,hYx,hYf] at B
      have s2C:∀b o,s2.heap.get? b=some o->b≠hL.objs.size:=λ b o e=>ltC b (Heap.lt_size e)
      have trk:∀b u,H4 b=some u->b≠s2.heap.objs.size:=λ b u e z=>by rw [z,hDn] at e;cases e
      have trC:∀b u,H4 b=some u->b≠hL.objs.size:=λ b u e z=>by
        have:=I5.free
        rw [hYl,← z,e] at this;cases this
      have hH2:∀b u,H2 b=some u->b≠s2.heap.objs.size:=λ b u e z=>by rw [z,hfresh _ (Nat.le_refl _)] at e;cases e
      have IX:Inv X pins σ (upd H4 s2.heap.objs.size (.lst ys)) s5:=by
       refine I2.call' (ch:=fp) (by show s5.os=s2.os;rw [I5.os,hYs]) ⟨λ b o e n hb hx=>kp b o (s2C b o e) (B.keep b o e n hb hx),λ b o e n hb hx=>?_,λ b o e n hx=>?_,λ b o e hx=>?_,λ b xs e=>?_,λ b o u e=>?_,λ b ps e=>?_⟩ ?_ I5.bare (λ b hb=>⟨(f2 b hb).2.2.2.1,(f2 b hb).2.1,(f2 b hb).2.2.2.2.1,(f2 b hb).2.2.2.2.2⟩)
       · obtain ⟨sl,q⟩:=B.slot b o e n hb hx
         exact ⟨sl,kp b _ (s2C b o e) q⟩
       · rw [upd_ne (Nat.ne_of_lt (Heap.lt_size e))]
         exact B.free b o e n hx
       · obtain ⟨o',q⟩:=B.there b o e hx
         exact ⟨o',kp b o' (s2C b o e) q⟩
       · rw [upd_ne (hH2 b _ e)]
         exact B.tups b xs e
       · rw [upd_ne (hH2 b _ e)]
         exact B.frzs b o u e
       · obtain ⟨more,q⟩:=B.tbls b ps e
         exact ⟨more,by rw [upd_ne (hH2 b _ e)];exact q⟩
       · intro b u e
         by_cases hb:b=s2.heap.objs.size
         · subst hb
           rw [upd_same] at e
           cases e
           exact ⟨hz,its,k,rv,kp _ _ hDC hD.1⟩
         · rw [upd_ne hb] at e
           have okb:=I5.hok b u e
           rw [hYprog,hYw] at okb
           refine okb.stay (λ c v hc q=>kp c v ?_ q) (λ c q=>by rw [upd_ne (trk c _ q)];exact q) λ c xs q=>by rw [upd_ne (trk c _ q)];exact q
           rcases hc with z | z
           · rw [z];exact trC b u e
           · exact trC c _ z
      have zC:upd H4 s2.heap.objs.size (.lst ys) hL.objs.size=none:=by
        rw [upd_ne (Ne.symm hDC)]
        have:=I5.free
        rwa [hYl] at this
      exact fin s2.heap.objs.size hL.objs.size s5 _ _ IX zC (Ne.symm (ltC _ I2.lt)) (by have:=I2.sz;omega) (λ x c e=>ltC c (by obtain ⟨v,q⟩:=I2.cell x c e;exact q.lt)) (λ p hp=>ltC _ (pinL p hp)) ⟨m,hn⟩ (qn _ hDn)
    · have d:=T.item Y hYprog hYw hYK hYcalm i _ s4 σ4 H4 (λ _ _=>False) I4 F4 st4 go
      rw [hYA] at d
      refine thn d λ r s5 ⟨u,hr,h5⟩=>?_
      subst hr
      refine thn h5 λ _ s6 ⟨x,H6,I6,r6,y6,st6,fr6⟩=>?_
      have I6':=I6.pinned (fpOk (pn:=pins++[(s2.heap.objs.size,{ cls:=.type "list",data:=.seq (its:List Value).toArray k })]) fr6 pinD) (T.obj _ _ st6)
      have d7:=hg' _ s6 σ4 H6 x u _ I6' r6 (step x H6 y6)
      rw [hYprog,hYw,hYA,hYxe,hYenv] at d7
      refine thn d7 λ _ s7 ⟨σ7,H7,I7,q7⟩=>?_
      have dt:=ht' _ s7 σ7 H7 _ I7 q7
      rw [hYprog,hYw,hYA,hYxe,hYenv] at dt
      refine thn dt λ bb s7 ⟨H7,I7,q7⟩=>?_
      cases bb with
      | false =>
        obtain ⟨m',hm,w8⟩:=hN _ _ _ q7
        have tn8:tn (i+1) s7.heap:=T.keep _ _ _ st6 λ b hb o e=>(I7.pin (b,o) (List.mem_append_right _ (List.mem_append_right _ (mem_pinsAt hb e)))).1
        have fr8:∀b∈fp,H7 b=none:=λ b hb=>by
          obtain ⟨o,e,d⟩:=T.obj _ _ st6 b hb
          exact (I7.pin (b,o) (List.mem_append_right _ (List.mem_append_right _ (mem_pinsAt hb e)))).2.1
        exact ⟨m',hm,i+1,ys,its,k,σ7,H7,I7.unpinned,tn8,fr8,rv,hz,w8⟩
      | true =>
        have q7:te σ7 H7 _:=q7
        show wpAny _ _ (eval elt _) _ _ s7
        have d8:=he' _ s7 σ7 H7 _ I7 q7
        rw [hYprog,hYw,hYA,hYxe,hYenv] at d8
        refine thn d8 λ u8 s8 ⟨v8,H8,I8,r8,n8⟩=>?_
        obtain ⟨m',hm,w8⟩:=hN _ _ _ n8
        have pD:=I8.pin (s2.heap.objs.size,{ cls:=.type "list",data:=.seq (its:List Value).toArray k }) (List.mem_append_right _ (List.mem_append_left _ (List.mem_append_right _ (List.mem_singleton.mpr rfl))))
        have tn8:tn (i+1) s8.heap:=T.keep _ _ _ st6 λ b hb o e=>(I8.pin (b,o) (List.mem_append_right _ (List.mem_append_right _ (mem_pinsAt hb e)))).1
        have fr8:∀b∈fp,H8 b=none:=λ b hb=>by
          obtain ⟨o,e,d⟩:=T.obj _ _ st6 b hb
          exact (I8.pin (b,o) (List.mem_append_right _ (List.mem_append_right _ (mem_pinsAt hb e)))).2.1
        have J8:Inv Y pins σ7 H8 s8:=I8.unpinned.unpinned
        have eD:s8.heap.get? s2.heap.objs.size=some { cls:=.type "list",data:=.seq its.toArray k }:=pD.1
        refine call_meets F.slot_list_append ⟨_,eD,rfl⟩ F.entry_list_append (F.args_list_append_2 _ _) (PySem.list_append _ its.toArray k u8 (by rw [List.size_toArray,← rv.length];omega)) ⟨eD,?_⟩
        have other:∀b o,b≠s2.heap.objs.size->s8.heap.get? b=some o->(s8.heap.update s2.heap.objs.size (Obj.mapSeq λ xs=>xs.push u8)).get? b=some o:=λ b o nb e=>(Heap.get?_update_other s8.heap _ (Ne.symm nb)).trans e
        have J9:=J8.turned (t':=s8.toks) (it:=s2.heap.objs.size) (h':=s8.heap.update s2.heap.objs.size (Obj.mapSeq λ xs=>xs.push u8)) other pD.2.1 (by rw [hYl];exact hDC) (.inr (by rw [hYs];exact Nat.le_refl _))
          (λ x c e=>by rw [hYc] at e;exact Nat.ne_of_lt (cellL x c e)) (λ p hp=>by rw [hYp] at hp;exact Nat.ne_of_lt (pinL p hp))
        have ep:(its.toArray.push u8)=(its++[u8]).toArray:=by simp
        obtain ⟨kk,upD⟩:∃kk,(s8.heap.update s2.heap.objs.size (Obj.mapSeq λ xs=>xs.push u8)).get? s2.heap.objs.size=some { cls:=.type "list",data:=.seq (its++[u8]).toArray kk }:=by
          have z:=PySem.IsL.update eD (λ xs=>xs.push u8)
          rw [ep] at z
          exact ⟨_,z⟩
        refine ⟨m',hm,i+1,ys++[v8],its++[u8],kk,σ7,H8,J9.pins_of λ p hp=>?_,T.keep _ _ _ tn8 λ b hb o e=>other b o (Nat.ne_of_lt (fpL b hb)) e,fr8,rv.append (.cons r8 .nil),?_,w8⟩
        · rcases List.mem_append.mp hp with z | z
          · exact J9.pin p (List.mem_append_right _ z)
          · rw [List.mem_singleton.mp z]
            exact ⟨upD,pD.2.1,by rw [hYl];exact hDC,by rw [hYf];exact λ z=>absurd (stkL _ z) (Nat.lt_irrefl _),λ v z=>by cases z⟩
        · rw [List.length_append,List.length_singleton];omega
  exact codeAny_compStart_list (loop _ rfl) (T.self _ 0 _ _ _ (T.keep _ _ _ st2 λ b _ o e=>old b o e) (loop _ rfl))
theorem drawT {pg:Program}{wd:World}{B:Around}(hh:B.handled=none) (j t:Addr) (ne:t≠j) (as:Array Value):Draws pg wd B j [j,t] as.size (λ i v=>as[i]?=some v) (λ i h=>h.IsTupleIter j t i/\h.IsTuple t as) where
 live:=λ _ _ q=>let ⟨o,g,_⟩:=q.1;⟨o,g⟩
 frame:=λ _ _ _ q k=>⟨tupIt_at q.1 λ o g=>k j (by simp) o g,tup_at q.2 λ o g=>k t (by simp) o g⟩
 item:=λ i s R X0 hi q f=>nx_tup_item q.1 q.2 (x:=as[i]) (by simp [hi]) λ m p sb=>f _ m s.toks (by simp [hi]) ⟨p,tup_at q.2 λ o g=>sb.extBut _ _ ne g⟩ sb
 done:=λ s R X0 q f=>nx_tup_end hh q.1 q.2 (by simp) f
section
variable {pg:Program}{wd:World}{B:Around}{X0:Value->Shared->Prop}{s0:Shared}
theorem enumT_end {z j t:Addr}{i:Nat}{n:Int}{as:Array Value}{u:Value}{R:Option Value->Shared->Prop}(hh:B.handled=none) (hz:IsEnum s0.heap z j n u) (p:s0.heap.IsTupleIter j t i) (q:s0.heap.IsTuple t as) (ex:as[i]?=none)
  (f:∀m,Heap.ExtBut j s0.heap m->R none { s0 with heap:=m }):wpAny (model pg wd) B (pyNext (.ref z)) R X0 s0:=by
 have ty:s0.TypeIs (.ref z) "enumerate" := ⟨_,hz,rfl⟩
 unfold pyNext
 refine wpAny_bind (wpAny_attempt (wpAny_callSpecial?_slot (name:=Str.ofString "__next__") ty F.slot_enumerate_next (wpAny_call_entry F.slot_enumerate_next ty F.entry_enumerate_next ?_ (F.args_enumerate_next_1 _))))
 show wpAny _ _ (field (.ref z) 2 >>= _) _ _ _
 refine wpAny_bind (wpAny_field hz rfl (x:=.ref j) rfl ?_)
 refine wpAny_bind (nx_tup_end hh p q ex λ m w xb hw=>?_)
 obtain ⟨ow,gw,cw⟩:=hw
 exact wpAny_bind (wpAny_isInstance (T := "StopIteration") (b:=true) ⟨ow,gw,cw⟩ isSubtype_stop (wpAny_pure (f _ xb)))
theorem enumT_new (t:Addr) (as:Array Value) (n:Nat) (dc:Option Addr) (sl:Array (Option Value)) :
  Meets (Builtin.«enumerate.__new__» ⟨[.type "enumerate",.ref t],[]⟩) (λ _ R s=>s.heap.get? t=some { cls:=.type "tuple",dict:=dc,data:=.seq as n,slots:=sl } /\
   R (.ok (.ret (.ref (s.heap.push { cls:=.type "tuple_iterator",data:=.fields #[.ref t,.int 0 0] }).objs.size))) { s with heap:=(s.heap.push { cls:=.type "tuple_iterator",data:=.fields #[.ref t,.int 0 0] }).push { cls:=.type "enumerate",data:=.fields #[.none,.bool false,.ref s.heap.objs.size,rawInt 0,.none,.none] } }) :=
 .of_wp λ pg wd A R s h=>by
  obtain ⟨hp,g,d,tk,os⟩:=s
  obtain ⟨ht,h⟩:=h
  have q0:=sub_enumerate
  have q1:Heap.IsTuple (Shared.heap ⟨hp,g,d,tk,os⟩) t as:=⟨_,ht,rfl,n,rfl⟩
  wp_walk using AutoSeq1.wpAny_loadPart' ht
  refine wpAny_stack_any λ stk=>wpAny_pure ?_
  split
  ·rename_i c _ _ _ _ _
   cases (c == Value.type "enumerate")<;>(wp_walk using AutoSeq1.wpAny_loadPart' ht,wpAny_pyIter_tuple q1)<;>exact ⟨_,rfl,h⟩
  ·wp_walk using AutoSeq1.wpAny_loadPart' ht,wpAny_pyIter_tuple q1
   exact ⟨_,rfl,h⟩
theorem enumT_call {t:Addr}{as:Array Value}{R:Value->Shared->Prop}(q:s0.heap.IsTuple t as)
  (f:∀m,IsEnum m (s0.heap.objs.size+1) s0.heap.objs.size 0 .none->m.IsTupleIter s0.heap.objs.size t 0->(∀c o,s0.heap.get? c=some o->m.get? c=some o)->R (.ref (s0.heap.objs.size+1)) { s0 with heap:=m }) :
  wpAny (model pg wd) B (call (.type "enumerate") [.ref t]) R X0 s0:=by
 obtain ⟨⟨c,dc,dt,sl⟩,ht,hc,n,hd⟩:=q
 cases (show c=.type "tuple" from hc)
 cases (show dt=.seq as n from hd)
 refine callType_new F.called_enumerate (by decide) (F.typeCall_enumerate_1 _) (F.newCall_enumerate_1 _) (λ ob=>F.args_object_init_2 ob _) F.entry_enumerate_new (enumT_new t as n dc sl) ⟨ht,?_⟩
 have n1:(s0.heap.push { cls:=.type "tuple_iterator",data:=.fields #[.ref t,.int 0 0] }).objs.size=s0.heap.objs.size+1:=Heap.size_push ..
 show _/\_
 have g2:=Heap.get?_push_size (s0.heap.push { cls:=.type "tuple_iterator",data:=.fields #[.ref t,.int 0 0] }) (o:={ cls:=.type "enumerate",data:=.fields #[.none,.bool false,.ref s0.heap.objs.size,rawInt 0,.none,.none] }) rfl
 rw [n1] at g2 ⊢
 exact ⟨⟨_,g2,rfl⟩,f _ g2 ⟨_,Heap.get?_push_of_some _ (Heap.get?_push_size _ rfl),rfl,rfl⟩ λ c o z=>Heap.get?_push_of_some _ (Heap.get?_push_of_some _ z)⟩
end
def Ite (K:W.Frag) (a:Addr):It:=⟨λ i H=>∃xs x,SqT K H a xs/\xs[i]?=some x,
 λ i H v H'=>∃T x,v=.ref T/\H T=none/\H'=upd H T (.tup [.int i,x])/\∀xs,SqT K H a xs->xs[i]?=some x,λ i H=>∃xs,SqT K H a xs/\xs.length≤i⟩
theorem turn_enum {P:Program}{w:World}{K:W.Frag}{es:List Expr}{x1:Nat}{pp:Pos}{a z j:Addr}(zj:z≠j) :
  Turn P w K (.Tuple es x1 pp) (Ite K a) [z,j] z (λ i h=>(∃u,IsEnum h z j i u)/\h.IsTupleIter j a i) where
 mem:=by simp
 obj:=λ i h q c hc=>by
  obtain ⟨⟨u,q1⟩,⟨o4,g4,_,d4⟩⟩:=q
  simp only [List.mem_cons,List.not_mem_nil,or_false] at hc
  rcases hc with rfl | rfl
  ·exact ⟨_,q1,λ v y=>nomatch y⟩
  ·exact ⟨_,g4,λ v y=>by rw [d4] at y;cases y⟩
 keep:=λ i h h' q k=>by
  obtain ⟨⟨u,q1⟩,q4⟩:=q
  exact ⟨⟨u,k _ (by simp) _ q1⟩,tupIt_at q4 λ o g=>k _ (by simp) o g⟩
 item:=by
  intro X hP hw hK hc i pins s σ H E I hf st hg
  subst hP hw hK
  obtain ⟨xs,x,hq,hx⟩:=hg
  obtain ⟨⟨u,q1⟩,q4⟩:=st
  obtain ⟨as,ra,pa,za⟩:=I.tuple hq
  obtain ⟨ux,hux,rux⟩:=ra.get hx
  have ta:s.heap.IsTuple a as.toArray:=pa
  have az:a≠z:=by rintro rfl;obtain ⟨o,g,c,_⟩:=ta;rw [q1] at g;cases g;simp at c
  have aj:a≠j:=by rintro rfl;obtain ⟨o,g,c,_⟩:=ta;obtain ⟨o4,g4,c4,_⟩:=q4;rw [g4] at g;cases g;rw [c4] at c;simp at c
  have il:i < as.toArray.size:=by simpa using (List.getElem?_eq_some_iff.mp hux).1
  refine wpAny_pyNext_enum_itemD (drawT (B:=X.A.in1) (I.ok.hd hc) j a aj as.toArray) q1 ⟨q4,ta⟩ il zj (by simp only [List.mem_cons,List.not_mem_nil,or_false,not_or];exact ⟨zj,az.symm⟩) λ y m tk hy zo st' np sz bt=>?_
  have yu:y=ux:=by simp only [List.getElem?_toArray] at hy;rw [hux] at hy;exact (Option.some.inj hy).symm
  subst yu
  have I1:Inv X pins σ H { s with heap:=m,toks:=tk+1 }:=I.turnedL (t':=tk+1) (fl:=[z,j]) (λ c o hc e=>by
   simp only [List.mem_cons,List.not_mem_nil,or_false,not_or] at hc
   exact bt c o hc.1 hc.2 e) hf
  obtain ⟨f0,f1,f2,f3,f4,f5⟩:=I.fpOk (Nat.le_refl s.heap.objs.size) (I.hok.fresh (Nat.le_refl _))
  have n0:X.s₀.heap.get? s.heap.objs.size=none:=by
   cases q:X.s₀.heap.get? s.heap.objs.size with
   | none=>rfl
   | some o=>exact absurd (Nat.lt_of_lt_of_le (Heap.lt_size q) I.sz) (Nat.lt_irrefl _)
  have I2:Inv X pins σ (upd H s.heap.objs.size (.tup [.int i,x])) { s with heap:=m,toks:=tk+1 }:=I1.track f0 ⟨small (by simp),[.int i tk,y],.cons (show RelV (V.int i) (Value.int i tk) from ⟨_,rfl⟩) (.cons rux .nil),⟨_,np,rfl,_,rfl⟩⟩ f1 f4 f5 n0
  have lt:∀ {c o},s.heap.get? c=some o->c≠s.heap.objs.size:=λ e=>Nat.ne_of_lt (Heap.lt_size e)
  have zT:z≠s.heap.objs.size:=lt q1
  obtain ⟨e0,e1,e2,e3,e4,e5⟩:=hf z (by simp)
  refine ⟨_,rfl,wpAny_letOwnedTupleGo_enum zo λ h2 z2 sb=>?_⟩
  have I3:Inv X pins σ (upd H s.heap.objs.size (.tup [.int i,x])) { s with heap:=h2,toks:=tk+1 }:=Inv.turned (s:={ s with heap:=m,toks:=tk+1 }) (h':=h2) (t':=tk+1) (it:=z) I2 (λ c o hc e=>sb.extBut _ _ hc e) (by rw [upd_ne zT];exact e0) e1 e3 e4 e5
  refine ⟨.ref s.heap.objs.size,_,I3,rfl,⟨_,x,rfl,f0,rfl,λ xs' k1=>?_⟩,⟨⟨_,by simpa using z2⟩,tupIt_at st'.1 λ o g=>sb.extBut _ _ zj.symm g⟩,λ c hc=>?_⟩
  ·rw [I.tuple_inj k1 hq];exact hx
  ·have cT:c≠s.heap.objs.size:=by
    obtain ⟨o4,g4,_⟩:=q4
    simp only [List.mem_cons,List.not_mem_nil,or_false] at hc
    rcases hc with rfl | rfl
    ·exact zT
    ·exact lt g4
   rw [upd_ne cT];exact (hf c hc).1
 done:=by
  intro X hP hw hK hc i pins s σ H E I hf st hg
  subst hP hw hK
  obtain ⟨xs,hq,hx⟩:=hg
  obtain ⟨⟨u,q1⟩,q4⟩:=st
  obtain ⟨as,ra,pa,za⟩:=I.tuple hq
  have la:=ra.length
  refine enumT_end (I.ok.hd hc) q1 q4 (show s.heap.IsTuple a as.toArray from pa) (by simp;omega) λ m bt=>⟨rfl,?_⟩
  exact I.turnedL (t':=s.toks) (fl:=[z,j]) (λ c o hc e=>by
   simp only [List.mem_cons,List.not_mem_nil,or_false,not_or] at hc
   exact bt c o hc.2 e) hf
 self:=λ _ _ _ _ _ st h=>let ⟨⟨_,q1⟩,_⟩:=st;wpAny_pyIter_enum q1 h
section
variable {X:Cx}{es:List Expr}{x1:Nat}{pp:Pos}
def iEnum (K:W.Frag) (te:TE):TI:=λ σ H R=>te σ H λ v H1=>∃a xs,v=.ref a/\SqT K H1 a xs/\R (Ite K a) H1
theorem pi_enum {e:Expr}{te:TE}{p pos:Pos}(hg:Gl X "enumerate") (hm:X.mg "enumerate" = none) (he:PE X e te) (hs:starEach [e] X.env=[(false,eval e X.env)]:=by rfl) :
  PI X (.Tuple es x1 pp) (.Call (.Name "enumerate" p) [e] [] pos) (iEnum X.K te):=by
 intro pins s σ H R I h
 have hA:=(pa_cons he (pa_nil (X:=X)) hs) pos pins s σ H (λ vs H1=>match vs with | [x]=>∃a xs,x=.ref a/\SqT X.K H1 a xs/\R (Ite X.K a) H1 | _=>False) I h
 refine Call_ (ld_blt I hg hm boot_enumerate (PyProof.Rows.callWith_type1 (thn hA λ us s1 ⟨vs,H1,I1,r1,q1⟩=>?_) hs rfl))
 match vs,q1 with
 | [x],⟨a,xs,e,hq,q⟩ =>
  subst e
  obtain ⟨u,rfl,ru⟩:=vals1 r1
  cases (show u=Value.ref a from ru)
  obtain ⟨as,va,pa,za⟩:=I1.tuple hq
  refine enumT_call (show s1.heap.IsTuple a as.toArray from pa) λ m w1 w2 kk=>?_
  have I2:Inv X pins σ H1 { s1 with heap:=m }:=I1.kept (t':=s1.toks) kk
  refine wpAny_pyIter_enum w1 ⟨s1.heap.objs.size+1,[s1.heap.objs.size+1,s1.heap.objs.size],_,_,H1,rfl,I2,turn_enum (Nat.succ_ne_self _),⟨⟨_,w1⟩,w2⟩,λ c hc=>?_,q⟩
  have ge:s1.heap.objs.size≤c:=by
   simp only [List.mem_cons,List.not_mem_nil,or_false] at hc
   rcases hc with rfl | rfl<;>omega
  exact I1.fpOk ge (I1.hok.fresh ge)
end
def CompE (K:PySem.W.Frag) (k:Nat) (js:List Nat) (g:TG) (te:TE) (σ:St) (v:V) (H1:Hp) (Q:VK):Prop:=∃a xs,v=.ref a/\SqT K H1 a xs/\∃W:Nat->Nat->List V->St->Hp->Prop,(∃m,W 0 m [] (compSt k js σ) H1)/\∀i m zs σ' H',W i m zs σ' H' ->
  ((Ite K a).stop i H'/\∀p,H' p=none->Q (.ref p) (upd H' p (.lst zs))) \/
  ((Ite K a).go i H'/\zs.length < sizeLine/\∃N:List V->St->Hp->Prop,(∀zs σ2 H2,N zs σ2 H2->∃m',m' < m/\W (i+1) m' zs σ2 H2)/\∀x H2,(Ite K a).yld i H' x H2->g x σ' H2 λ σ3 H3=>te σ3 H3 λ v H4=>N (zs++[v]) σ3 H4)
theorem comp_eqE {K:W.Frag}{k:Nat}{js:List Nat}{tx:TE}{g:TG}{te:TE}{σ:St}{H:Hp}{Q:VK}:tComp (iEnum K tx) k js g te σ H Q=tx σ H λ v H1=>CompE K k js g te σ v H1 Q:=rfl
theorem CompE.mk {K:W.Frag}{a:Addr}{xs:List V}{k:Nat}{js:List Nat}{g:TG}{te:TE}{Q:VK}{σ:St}{H:Hp}(h1:SqT K H a xs) (Pv:Nat->List V->St->Hp->Prop) (h0:Pv 0 [] (compSt k js σ) H) (hl:∀i zs σ H,i≤xs.length->Pv i zs σ H->SqT K H a xs/\zs.length < sizeLine)
  (hs:∀i x zs σ H T,xs[i]?=some x->Pv i zs σ H->H T=none->g (.ref T) σ (upd H T (.tup [.int i,x])) λ σ3 H3=>te σ3 H3 λ v H4=>Pv (i+1) (zs++[v]) σ3 H4) (hz:∀zs σ H,Pv xs.length zs σ H->∀p,H p=none->Q (.ref p) (upd H p (.lst zs))) :
  CompE K k js g te σ (.ref a) H Q:=by
 refine ⟨a,xs,rfl,h1,λ i m zs σ H=>m=xs.length - i/\i≤xs.length/\Pv i zs σ H,⟨_,rfl,Nat.zero_le _,h0⟩,?_⟩
 rintro i m zs σ H ⟨rfl,hi,p⟩
 obtain ⟨k1,k2⟩:=hl i zs σ H hi p
 by_cases hlt:i < xs.length
 ·refine .inr ⟨⟨xs,_,k1,List.getElem?_eq_getElem hlt⟩,k2,Pv (i+1),λ zs' σ' H' p'=>⟨xs.length - (i+1),by omega,rfl,hlt,p'⟩,λ v H' yy=>?_⟩
  obtain ⟨T,x,rfl,hT,rfl,ex⟩:=yy
  exact hs i x zs σ H T (ex xs k1) p hT
 ·have e:i=xs.length:=by omega
  exact .inl ⟨⟨xs,k1,by omega⟩,hz zs σ H (e ▸ p)⟩
def CompEI (K:PySem.W.Frag) (k:Nat) (js:List Nat) (g:TG) (tc:TT) (te:TE) (σ:St) (v:V) (H1:Hp) (Q:VK):Prop:=∃a xs,v=.ref a/\SqT K H1 a xs/\∃W:Nat->Nat->List V->St->Hp->Prop,(∃m,W 0 m [] (compSt k js σ) H1)/\∀i m zs σ' H',W i m zs σ' H' ->
  ((Ite K a).stop i H'/\∀p,H' p=none->Q (.ref p) (upd H' p (.lst zs))) \/
  ((Ite K a).go i H'/\zs.length < sizeLine/\∃N:List V->St->Hp->Prop,(∀zs σ2 H2,N zs σ2 H2->∃m',m' < m/\W (i+1) m' zs σ2 H2)/\∀x H2,(Ite K a).yld i H' x H2->g x σ' H2 λ σ3 H3=>tc σ3 H3 λ b H4=>if b=true then te σ3 H4 λ v H5=>N (zs++[v]) σ3 H5 else N zs σ3 H4)
theorem comp_eqEI {K:W.Frag}{k:Nat}{js:List Nat}{tx:TE}{g:TG}{tc:TT}{te:TE}{σ:St}{H:Hp}{Q:VK}:tCompI (iEnum K tx) k js g tc te σ H Q=tx σ H λ v H1=>CompEI K k js g tc te σ v H1 Q:=rfl
theorem CompEI.mk {K:W.Frag}{a:Addr}{xs:List V}{k:Nat}{js:List Nat}{g:TG}{tc:TT}{te:TE}{Q:VK}{σ:St}{H:Hp}(h1:SqT K H a xs) (Pv:Nat->List V->St->Hp->Prop) (h0:Pv 0 [] (compSt k js σ) H) (hl:∀i zs σ H,i≤xs.length->Pv i zs σ H->SqT K H a xs/\zs.length < sizeLine)
  (hs:∀i x zs σ H T,xs[i]?=some x->Pv i zs σ H->H T=none->g (.ref T) σ (upd H T (.tup [.int i,x])) λ σ3 H3=>tc σ3 H3 λ b H4=>if b=true then te σ3 H4 λ v H5=>Pv (i+1) (zs++[v]) σ3 H5 else Pv (i+1) zs σ3 H4) (hz:∀zs σ H,Pv xs.length zs σ H->∀p,H p=none->Q (.ref p) (upd H p (.lst zs))) :
  CompEI K k js g tc te σ (.ref a) H Q:=by
 refine ⟨a,xs,rfl,h1,λ i m zs σ H=>m=xs.length - i/\i≤xs.length/\Pv i zs σ H,⟨_,rfl,Nat.zero_le _,h0⟩,?_⟩
 rintro i m zs σ H ⟨rfl,hi,p⟩
 obtain ⟨k1,k2⟩:=hl i zs σ H hi p
 by_cases hlt:i < xs.length
 ·refine .inr ⟨⟨xs,_,k1,List.getElem?_eq_getElem hlt⟩,k2,Pv (i+1),λ zs' σ' H' p'=>⟨xs.length - (i+1),by omega,rfl,hlt,p'⟩,λ v H' yy=>?_⟩
  obtain ⟨T,x,rfl,hT,rfl,ex⟩:=yy
  exact hs i x zs σ H T (ex xs k1) p hT
 ·have e:i=xs.length:=by omega
  exact .inl ⟨⟨xs,k1,by omega⟩,hz zs σ H (e ▸ p)⟩
end L2
namespace L2
open PySem PySem.Spec PyProof.Rows PySem.W PySem.Calls
def catchN (K:W.Frag):List (Addr × TS)->Value->(TS->Prop)->Prop
 | [],_,_=>False
 | (C,ts)::r,c,k=>(W.exmOne K c (.ref C)=some true/\k ts)\/(W.exmOne K c (.ref C)=some false/\catchN K r c k)
def caughtN (K:W.Frag) (cs:List (Addr × TS)) (D:Ends):St->XK:=λ σ1 c _ H1=>catchN K cs c λ ts=>ts D σ1 H1
def tTryN (K:W.Frag) (cs:List (Addr × TS)) (tb:(St->XK)->TS):TS:=λ D σ H=>tb (caughtN K cs D) D σ H
inductive Clauses (X:Cx):List ExceptHandler->List (Addr × TS)->Prop
 | nil:Clauses X [] []
 | cons {x:Str}{C:Addr}{b₀:Stmt}{suite:List Stmt}{np hpos:Pos}{ts:TS}{r:List ExceptHandler}{tr:List (Addr × TS)}(hg:Gl X x) (hn:W.nsIn X.K mainGlobals x=some (some (.ref C)))
   (hs:∀(a:Addr) (pn:List (Addr × Obj)),PSs (X.suite a pn) (b₀::suite) ts) (hr:Clauses X r tr) (hd:(x == ("__debug__" : Str))=false):Clauses X (.ExceptHandler (some (.Name x np)) none (b₀::suite) hpos::r) ((C,ts)::tr)
theorem ps_tryN {X:Cx}{body:List Stmt}{h₀:ExceptHandler}{hl:List ExceptHandler}{cs:List (Addr × TS)}{pos:Pos}{tb:(St->XK)->TS}(hstk:X.stack=X.env::X.outer/\X.env.frame=some X.env.locals)
  (hb:∀(xe:Value->Shared->Prop) (pn:List (Addr × Obj)) (EE:St->XK),(∀σ,PassesAt (CX1 X.prog X.w) (X.more xe pn) (EE σ) σ)->PSs (X.more xe pn) body (tb EE)) (hc:Clauses X (h₀::hl) cs) :
  PS X (.Try body (h₀::hl) [] [] pos) (tTryN X.K cs tb):=by
 intro pins s σ H D I h
 refine wpAny_Try_except ?_
 generalize hXE:(λ e s₁=>wpAny (model X.prog X.w) X.A (noteFrame e X.env) (λ _ s₂=>wpAny (model X.prog X.w) X.A (setFlight e none) (λ _ s₃=>wpAny (model X.prog X.w) X.A (handleBy e X.env (h₀::hl)) (SP X pins D) X.xe s₃) X.xe s₂) X.xe s₁:Value->Shared->Prop)=XE
 have toY:∀ {σ':St}{H':Hp}{s':Shared},Inv X pins σ' H' s'->Inv (X.more XE (X.pn++pins)) [] σ' H' s':=λ J=>⟨J.ok.more _ _,J.os,J.bare,J.base,J.loc,J.cell,J.free,J.freeC,λ p hp=>J.pin p (by simpa using hp),J.hok,J.len⟩
 have ofY:∀ {σ':St}{H':Hp}{s':Shared}{pp:List (Addr × Obj)},Inv (X.more XE (X.pn++pins)) pp σ' H' s'->Inv X pins σ' H' s':=λ J=>⟨I.ok,J.os,J.bare,J.base,J.loc,J.cell,J.free,J.freeC,λ p hp=>J.pin p (List.mem_append_left _ hp),J.hok,J.len⟩
 have body_ok:=hb XE (X.pn++pins) (caughtN X.K cs D) ?_ [] s σ H D (toY I) h
 ·refine thn body_ok λ fl s' q=>?_
  cases fl with
  | next=>obtain ⟨σ',H',J,z⟩:=q;exact wpAny_execs_nil ⟨σ',H',ofY J,z⟩
  | brk=>obtain ⟨σ',H',J,z⟩:=q;exact ⟨σ',H',ofY J,z⟩
  | cont=>obtain ⟨σ',H',J,z⟩:=q;exact ⟨σ',H',ofY J,z⟩
  | ret u=>obtain ⟨v,σ',H',J,r,z⟩:=q;exact ⟨v,σ',H',ofY J,r,z⟩
 intro σ1 pins1 H1 s1 e s' I1 hx
 obtain ⟨a,C',a0,H',B,rfl,os,bare,fl,inB,thB,un,okB,hcatch⟩:=hx
 have hcatch:catchN X.K cs (.ref C') λ ts=>ts D σ1 H':=hcatch
 subst hXE
 have fl:Heap.FlyingW B (X.env::X.outer) a (.ref C') a0 s'.heap:=by
  have z:Heap.FlyingW B X.stack a (.ref C') a0 s'.heap:=fl
  rw [hstk.1] at z;exact z
 have hfr:X.A.frames=some (X.env::X.outer):=by rw [I.ok.frames,hstk.1]
 have at_:∀h2:Heap,Heap.FlyingW B (X.env::X.outer) a (.ref C') a0 h2->s'.heap.UpToSlots h2->∀t2:Nat,Inv X pins σ1 H' { s' with heap:=h2,toks:=t2 }:=λ h2 f2 u2 t2=>by
  have J1:Inv X pins σ1 H1 s1:=ofY I1
  have slot:∀b o,s1.heap.get? b=some o->H1 b=none->b∈frs X.stack->∃sl,h2.get? b=some { o with slots:=sl }:=λ b o e nn hb=>by
   obtain ⟨sl2,e2⟩:=un.slot b o e nn hb (by simp)
   obtain ⟨_,o3,e3,nf⟩:=J1.stack.mem hb
   rw [e] at e3;cases e3
   obtain ⟨sl3,e4⟩:=u2 b _ e2 nf
   exact ⟨sl3,e4⟩
  refine J1.call' (s':={ s' with heap:=h2,toks:=t2 }) (ch:=[]) os ⟨λ b o e nn hb _=>f2.1 _ _ (inB b o e nn hb),λ b o e nn hb _=>slot b o e nn hb,un.free,λ b o e _=>?_,un.tups,un.frzs,un.tbls⟩ (okB.kept f2.1) bare (λ b z=>nomatch z)
  by_cases hb:b∈frs X.stack
  ·obtain ⟨sl,q⟩:=slot b o e (J1.stkFree b hb) hb
   exact ⟨_,q⟩
  ·obtain ⟨o',q⟩:=thB b o e hb
   exact ⟨o',f2.1 _ _ q⟩
 refine wpAny_looks_onW hfr hstk.2 fl λ h4 held4 up4=>?_
 refine wpAny_landsW held4 λ h5 fl5 up5=>?_
 have J5:=at_ h5 fl5 (up4.trans up5) s'.toks
 obtain ⟨oe5,ve5,he5,hc5,hd5,_⟩:=fl5.first
 have toZ:∀ {σ':St}{H':Hp}{s':Shared},Inv X pins σ' H' s'->Inv (X.suite a (X.pn++pins)) [] σ' H' s':=λ J=>⟨J.ok.suite _ _,J.os,J.bare,J.base,J.loc,J.cell,J.free,J.freeC,λ p hp=>J.pin p (by simpa using hp),J.hok,J.len⟩
 have ofZ:∀ {σ':St}{H':Hp}{s':Shared},Inv (X.suite a (X.pn++pins)) [] σ' H' s'->Inv X pins σ' H' s':=λ J=>⟨I.ok,J.os,J.bare,J.base,J.loc,J.cell,J.free,J.freeC,λ p hp=>J.pin p (List.mem_append_left _ hp),J.hok,J.len⟩
 have LT:Looks (model X.prog X.w) h5 (typeOf (.ref a)) (.ref C'):=hc5 ▸ (Looks.ld he5).andThen .now
 have all:∀(hs':List ExceptHandler) (cs':List (Addr × TS)),Clauses X hs' cs'->(catchN X.K cs' (.ref C') λ ts=>ts D σ1 H')->wpAny (model X.prog X.w) X.A (handleBy (.ref a) X.env hs') (SP X pins D) X.xe { s' with heap:=h5 }:=by
  intro hs' cs' hcl
  induction hcl with
  | nil=>intro z;exact z.elim
  | cons hg hn hs hr hd ih =>
   intro z
   have bnd:=W.mg_of J5.ok.mod.kin J5.ok.mod.glob hn
   refine wpAny_handleBy_cons (codeAny_handlers_test ?_) (by intro q;cases q)
   refine ld_glob (X:=X.suite a (X.pn++pins)) (toZ J5) hg bnd ?_ hd
   rcases z with ⟨z1,z2⟩ | ⟨z1,z2⟩
   ·refine (W.exm_one (M:=model X.prog X.w) J5.kIn LT z1).here ?_
    refine codeAny_handlers_suite ?_
    refine lands_againW fl5 λ h6 fl6 up6=>?_
    have J6:=at_ h6 fl6 ((up4.trans up5).trans up6) s'.toks
    refine wpAny_mono (hs a (X.pn++pins) [] _ _ _ D (toZ J6) z2) (λ fl s9 q=>?_) λ _ _ z=>z.elim
    cases fl with
    | next=>obtain ⟨σ9,H9,J9,z⟩:=q;exact ⟨_,H9,ofZ J9,z⟩
    | brk=>obtain ⟨σ9,H9,J9,z⟩:=q;exact ⟨_,H9,ofZ J9,z⟩
    | cont=>obtain ⟨σ9,H9,J9,z⟩:=q;exact ⟨_,H9,ofZ J9,z⟩
    | ret u=>obtain ⟨v,σ9,H9,J9,r,z⟩:=q;exact ⟨v,_,H9,ofZ J9,r,z⟩
   ·refine (W.exm_one (M:=model X.prog X.w) J5.kIn LT z1).here ?_
    exact ih z2
 exact all _ _ hc hcatch
section
variable {X:Cx}
def rNeT (K:W.Frag):R2:=λ x y H Q=>∃a b xs ys,x=.ref a/\y=.ref b/\SqT K H a xs/\SqT K H b ys/\xs.all flatV=true/\ys.all flatV=true/\Q (.bl (!eqVs xs ys)) H
def rNeL (K:W.Frag):R2:=λ x y H Q=>∃a b xs ys,x=.ref a/\y=.ref b/\SqL K H a xs/\SqL K H b ys/\xs.all flatV=true/\ys.all flatV=true/\Q (.bl (!eqVs xs ys)) H
theorem op_neL (hu:X.A.units < cLine):OpR X (compareOp .NotEq) (rNeL X.K):=by
 intro pins s σ H x y v u Q I rx ry h
 obtain ⟨a,b,xs,ys,rfl,rfl,ha,hb,f1,f2,q⟩:=h
 cases rx
 cases ry
 obtain ⟨us,r1,p1,_⟩:=I.list ha
 obtain ⟨ws,r2,p2,_⟩:=I.list hb
 by_cases hl:xs.length=ys.length
 ·refine SeqAt.RcNeAt.lists p1.isList p2.isList (e:=eqAtI xs ys) (by simp [← r1.length,← r2.length,hl]) hu (eqAtI_ok r1 r2 f1 f2) _ _ _ _ ?_
  have e:us.toArray.size=xs.length:=by simp [r1.length]
  rw [e,eqVs_all hl]
  exact ⟨.bl _,H,I,rfl,q⟩
 ·refine SeqAt.RcNeAt.lists_lengths p1.isList p2.isList (by simp [← r1.length,← r2.length,hl]) hu _ _ _ _ ?_
  rw [eqVs_len hl] at q
  exact ⟨.bl _,H,I,rfl,q⟩
end
theorem cl_sub1 {cells:List (Str × Addr)}{y:Str}{a:Addr}(h:cells.lookup y=some a):∀x c,[(y,a)].lookup x=some c->cells.lookup x=some c:=λ x c e=>by
 cases List.mem_singleton.mp (PySem.mem_of_lookup e);exact h
theorem cl_sub2 {cells:List (Str × Addr)}{y z:Str}{a b:Addr}(h:cells.lookup y=some a) (h2:cells.lookup z=some b):∀x c,[(y,a),(z,b)].lookup x=some c->cells.lookup x=some c:=λ x c e=>by
 rcases List.mem_cons.mp (PySem.mem_of_lookup e) with q | q
 ·cases q;exact h
 ·cases List.mem_singleton.mp q;exact h2
end L2
namespace HT
open PySem PySem.Spec PyProof.Rows L2
theorem whole_tup {prog:Program}{w:World}{A:Around}{E:Value->Shared->Prop}{s:Shared}{t sl:Addr}{its:Array Value}{vl vu:Value}{lo hi:Option Int}{R:Value->Shared->Prop}(ht:IsTup s.heap t its) (hs:s.heap.IsSliceOf sl vl vu .none) (pl:IsPart vl lo) (pu:IsPart vu hi)
  (h0:sIx its.size 0 lo=0) (h1:sIx its.size its.size hi=its.size) (h:R (.ref t) s):wpAny (model prog w) A (getItem (.ref t) (.ref sl)) R E s:=by
 obtain ⟨os,hos,hcs,hds⟩:=id hs
 have hTs:s.TypeIs (.ref sl) "slice" := ⟨os,hos,hcs⟩
 unfold getItem
 try with_reducible refine wpAny_holding ?_
 first | refine wpAny_bind (wpAny_pure ?_) | skip
 refine wpAny_bind (wpAny_sequenceKey ht.typeIs (by decide) ?_)
 refine wpAny_bind (wpAny_callSpecial?_slot (name:=Str.ofString "__getitem__") ht.typeIs PyProof.Rows.slot_tuple_getitem (wpAny_call_entry PyProof.Rows.slot_tuple_getitem ht.typeIs entry_tuple_getitem ?_ (args_tuple_getitem _ _)))
 show wpAny _ _ (Builtin.Tuple.tupleItemsOf (.ref t) >>= _) _ _ s
 refine wpAny_bind (tupleItemsOf_ ht ?_)
 refine wpAny_bind (wpAny_typeOf hTs ?_)
 rw [if_pos (by decide)]
 refine wpAny_bind (sliceApplied_gen hs pl pu ?_)
 show wpAny _ _ (if (((sIx its.size 0 lo:Nat):Int) == 0 && (1:Int) == 1 && (sIx its.size its.size hi - sIx its.size 0 lo) == its.size)=true then _ else _) _ _ s
 rw [if_pos (by rw [h0,h1];simp)]
 unfold Builtin.Tuple.tupleIsExact
 exact wpAny_bind (wpAny_bind (wpAny_typeOf ht.typeIs (wpAny_pure (wpAny_bind (wpAny_rule (wpAny_pure ⟨_,rfl,wpAny_pure h⟩))))))
end HT
namespace L2
open PySem PySem.Spec PyProof.Rows
section
variable {X:Cx}
def rSlTA:V->Option Int->Option Int->Hp->VK->Prop:=λ x lo hi H Q=>∃a xs,x=.ref a/\H a=some (.tup xs)/\∀r H',Same H H'->H' r=some (.tup (cutV xs lo hi))->Q (.ref r) H'
theorem sl_tupA:SlR X rSlTA:=by
 intro pins s σ H x v vl vu lo hi sl Q I rx hs pl pu h
 obtain ⟨a,xs,rfl,ha,q⟩:=h
 by_cases c:HT.sIx xs.length 0 lo=0/\HT.sIx xs.length xs.length hi=xs.length
 ·cases rx
  obtain ⟨its,r,ht,hz⟩:=I.tuple (show SqT X.K H a xs from .of ha)
  have hlen:its.toArray.size=xs.length:=by rw [List.size_toArray];exact r.length.symm
  refine ⟨"tuple",_,PyProof.Rows.slot_tuple_getitem.lookup,ht.typeIs,HT.whole_tup ht hs pl pu (by rw [hlen];exact c.1) (by rw [hlen];exact c.2) ⟨.ref a,H,I,rfl,q a H (Same.refl _) ?_⟩⟩
  unfold cutV
  rw [c.1,c.2,List.drop_zero,Nat.sub_zero,List.take_length]
  exact ha
 ·exact sl_tupS pins s σ H _ v vl vu lo hi sl Q I rx hs pl pu ⟨a,xs,rfl,ha,c,q⟩
end
def okS (k:Nat) (x:Str):Prop:=x.length≤k/\∀c∈x.cps.toList,c < 1000
theorem okS.mono {k m:Nat}{x:Str}(h:okS k x) (l:k≤m):okS m x:=⟨Nat.le_trans h.1 l,h.2⟩
section
variable {X:Cx}
def tFR (t1 t2:TE):TE:=λ σ H Q=>t1 σ H λ x H1=>∃a,x=.str a/\okS 1000 a/\t2 σ H1 λ y H2=>∃b,y=.str b/\okS 1000 b/\∀z,Q (.str z) H2
def rSlStr:V->Option Int->Option Int->Hp->VK->Prop:=λ x lo hi H Q=>∃z,x=.str z/\z.length≤1000/\∀y:Str,y.length≤z.length->(∀c∈y.cps.toList,c∈z.cps.toList)->Q (.str y) H
def rUpper:V->List V->Hp->VK->Prop:=λ x xs H Q=>∃z,x=.str z/\xs=[]/\okS 1000 ⟨placed z λ _ c=>Unicode.upperOf c⟩/\Q (.str ⟨placed z λ _ c=>Unicode.upperOf c⟩) H
def rJoin (K:W.Frag):V->List V->Hp->VK->Prop:=λ x xs H Q=>∃(z:Str) (l:Addr) (ys:List Str),x=.str z/\z.length=0/\xs=[.ref l]/\SqL K H l (ys.map V.str)/\ys.length≤100/\(∀y∈ys,okS 10 y)/\∀y:Str,okS 1000 y->Q (.str y) H
end
def Itel (K:W.Frag) (a:Addr):It:=⟨λ i H=>∃xs x,SqL K H a xs/\xs[i]?=some x,
 λ i H v H'=>∃T x,v=.ref T/\H T=none/\H'=upd H T (.tup [.int i,x])/\∀xs,SqL K H a xs->xs[i]?=some x,λ i H=>∃xs,SqL K H a xs/\xs.length≤i⟩
section
variable {X:Cx}{es:List Expr}{x1:Nat}{pp:Pos}
def iEnumL (K:W.Frag) (te:TE):TI:=λ σ H R=>te σ H λ v H1=>∃a xs,v=.ref a/\SqL K H1 a xs/\R (Itel K a) H1
end
def LoopEL (K:PySem.W.Frag) (g:TG) (tb:TS) (D:Ends) (σ:St) (v:V) (H1:Hp):Prop:=∃a xs,v=.ref a/\SqL K H1 a xs/\∃W:Nat->Nat->St->Hp->Prop,(∃m,W 0 m σ H1)/\∀i m σ H,W i m σ H ->
 ((Itel K a).stop i H/\D.nx σ H)\/((Itel K a).go i H/\∃N:St->Hp->Prop,(∀σ' H',N σ' H'->∃m',m' < m/\W (i+1) m' σ' H')/\∀x H',(Itel K a).yld i H x H'->g x σ H' λ σ2 H2=>tb { D with nx:=N,ct:=N,bk:=D.nx } σ2 H2)
theorem for_eqEL {K:W.Frag}{te:TE}{g:TG}{tb:TS}{D:Ends}{σ:St}{H:Hp}:tFor (iEnumL K te) g tb D σ H=te σ H λ v H1=>LoopEL K g tb D σ v H1:=rfl
theorem LoopEL.mk {K:W.Frag}{a:Addr}{xs:List V}{g:TG}{tb:TS}{D:Ends}{σ:St}{H:Hp}(h1:SqL K H a xs) (Pv:Nat->St->Hp->Prop) (h0:Pv 0 σ H) (hl:∀i σ H,i≤xs.length->Pv i σ H->SqL K H a xs)
  (hs:∀i x σ H T,xs[i]?=some x->Pv i σ H->H T=none->g (.ref T) σ (upd H T (.tup [.int i,x])) λ σ2 H2=>tb { D with nx:=Pv (i+1),ct:=Pv (i+1),bk:=D.nx } σ2 H2) (hd:∀σ H,Pv xs.length σ H->D.nx σ H) :
  LoopEL K g tb D σ (.ref a) H:=by
 refine ⟨a,xs,rfl,h1,λ i m σ H=>m=xs.length - i/\i≤xs.length/\Pv i σ H,⟨_,rfl,Nat.zero_le _,h0⟩,?_⟩
 rintro i m σ H ⟨rfl,hi,p⟩
 have k1:=hl i σ H hi p
 by_cases hlt:i < xs.length
 ·refine .inr ⟨⟨xs,_,k1,List.getElem?_eq_getElem hlt⟩,Pv (i+1),λ σ' H' p'=>⟨xs.length - (i+1),by omega,rfl,hlt,p'⟩,λ v H' yy=>?_⟩
  obtain ⟨T,x,rfl,hT,rfl,ex⟩:=yy
  exact hs i x σ H T (ex xs k1) p hT
 ·have e:i=xs.length:=by omega
  exact .inl ⟨⟨xs,k1,by omega⟩,hd σ H (e ▸ p)⟩
def Itx (x:Str):It:=⟨λ i _=>i < x.cps.size,λ i H v H'=>H'=H/\∃c,x.cps[i]?=some c/\v=.str ⟨#[c]⟩,λ i _=>x.cps.size≤i⟩
section
variable {X:Cx}{tg:Expr}
def iStr (tl:TE):TI:=λ σ H R=>tl σ H λ x H1=>∃z,x=.str z/\R (Itx z) H1
end
def LoopX (g:TG) (tb:TS) (D:Ends) (σ:St) (v:V) (H1:Hp):Prop:=∃z,v=.str z/\∃W:Nat->Nat->St->Hp->Prop,(∃m,W 0 m σ H1)/\∀i m σ H,W i m σ H ->
 ((Itx z).stop i H/\D.nx σ H)\/((Itx z).go i H/\∃N:St->Hp->Prop,(∀σ' H',N σ' H'->∃m',m' < m/\W (i+1) m' σ' H')/\∀x H',(Itx z).yld i H x H'->g x σ H' λ σ2 H2=>tb { D with nx:=N,ct:=N,bk:=D.nx } σ2 H2)
theorem for_eqX {te:TE}{g:TG}{tb:TS}{D:Ends}{σ:St}{H:Hp}:tFor (iStr te) g tb D σ H=te σ H λ v H1=>LoopX g tb D σ v H1:=rfl
theorem LoopX.mk {z:Str}{g:TG}{tb:TS}{D:Ends}{σ:St}{H:Hp}(Pv:Nat->St->Hp->Prop) (h0:Pv 0 σ H)
  (hs:∀i c σ H,z.cps[i]?=some c->Pv i σ H->g (.str ⟨#[c]⟩) σ H λ σ2 H2=>tb { D with nx:=Pv (i+1),ct:=Pv (i+1),bk:=D.nx } σ2 H2) (hd:∀σ H,Pv z.cps.size σ H->D.nx σ H) :
  LoopX g tb D σ (.str z) H:=by
 refine ⟨z,rfl,λ i m σ H=>m=z.cps.size - i/\i≤z.cps.size/\Pv i σ H,⟨_,rfl,Nat.zero_le _,h0⟩,?_⟩
 rintro i m σ H ⟨rfl,hi,p⟩
 by_cases hlt:i < z.cps.size
 ·refine .inr ⟨hlt,Pv (i+1),λ σ' H' p'=>⟨z.cps.size - (i+1),by omega,rfl,hlt,p'⟩,λ v H' yy=>?_⟩
  obtain ⟨rfl,c,ec,rfl⟩:=yy
  exact hs i c σ H' ec p
 ·have e:i=z.cps.size:=by omega
  exact .inl ⟨by show z.cps.size≤i;omega,hd σ H (e ▸ p)⟩
def CompX (k:Nat) (js:List Nat) (g:TG) (te:TE) (σ:St) (v:V) (H1:Hp) (Q:VK):Prop:=∃z,v=.str z/\∃W:Nat->Nat->List V->St->Hp->Prop,(∃m,W 0 m [] (compSt k js σ) H1)/\∀i m ys σ' H',W i m ys σ' H' ->
  ((Itx z).stop i H'/\∀p,H' p=none->Q (.ref p) (upd H' p (.lst ys))) \/
  ((Itx z).go i H'/\ys.length < sizeLine/\∃N:List V->St->Hp->Prop,(∀zs σ2 H2,N zs σ2 H2->∃m',m' < m/\W (i+1) m' zs σ2 H2)/\∀x H2,(Itx z).yld i H' x H2->g x σ' H2 λ σ3 H3=>te σ3 H3 λ v H4=>N (ys++[v]) σ3 H4)
theorem comp_eqX {k:Nat}{js:List Nat}{ti:TE}{g:TG}{te:TE}{σ:St}{H:Hp}{Q:VK}:tComp (iStr ti) k js g te σ H Q=ti σ H λ x H1=>CompX k js g te σ x H1 Q:=rfl
theorem CompX.mk {z:Str}{k:Nat}{js:List Nat}{g:TG}{te:TE}{Q:VK}{σ:St}{H:Hp}(Pv:Nat->List V->St->Hp->Prop) (h0:Pv 0 [] (compSt k js σ) H)
  (hs:∀i c ys σ H,z.cps[i]?=some c->Pv i ys σ H->ys.length < sizeLine/\g (.str ⟨#[c]⟩) σ H λ σ3 H3=>te σ3 H3 λ v H4=>Pv (i+1) (ys++[v]) σ3 H4) (hd:∀ys σ H,Pv z.cps.size ys σ H->∀p,H p=none->Q (.ref p) (upd H p (.lst ys))) :
  CompX k js g te σ (.str z) H Q:=by
 refine ⟨z,rfl,λ i m ys σ H=>m=z.cps.size - i/\i≤z.cps.size/\Pv i ys σ H,⟨_,rfl,Nat.zero_le _,h0⟩,?_⟩
 rintro i m ys σ H ⟨rfl,hi,p⟩
 by_cases hlt:i < z.cps.size
 ·refine .inr ⟨hlt,(hs i (z.cps[i]'hlt) ys σ H (Array.getElem?_eq_getElem hlt) p).1,Pv (i+1),λ zs σ' H' p'=>⟨z.cps.size - (i+1),by omega,rfl,hlt,p'⟩,λ v H' yy=>?_⟩
  obtain ⟨rfl,c,ec,rfl⟩:=yy
  exact (hs i c ys σ H' ec p).2
 ·have e:i=z.cps.size:=by omega
  exact .inl ⟨by show z.cps.size≤i;omega,hd ys σ H (e ▸ p)⟩
section
variable {X:Cx}
def findI (x y:Str):Int:=match Builtin.Str.occurrences x y 0 x.length 1 with | i::_=>(i:Int) | []=>-1
def rFind:V->List V->Hp->VK->Prop:=λ x xs H Q=>∃z y,x=.str z/\xs=[.str y]/\Q (.int (findI z y)) H
end
section
variable {X:Cx}
def rCatL (K:W.Frag):R2:=λ x y H Q=>∃l b xs zs,x=.ref l/\y=.ref b/\SqL K H l xs/\SqL K H b zs/\xs.length+zs.length≤sizeLine/\∀p,H p=none->Q (.ref p) (upd H p (.lst (xs++zs)))
theorem op_catL:OpR X (binaryOp .Add) (rCatL X.K):=by
 intro pins s σ H x y v u Q I rx ry h
 obtain ⟨l,b,xs,zs,rfl,rfl,hH,hB,hz,q⟩:=h
 cases rx
 cases ry
 obtain ⟨its,r,⟨⟨c1,d1,z1,l1⟩,n,e,hc,hd,hs⟩,_⟩:=I.list hH
 obtain ⟨its2,r2,⟨⟨c2,d2,z2,l2⟩,n2,e2,hc2,hd2,hs2⟩,_⟩:=I.list hB
 simp only at hc hd hs hc2 hd2 hs2
 subst hc hd hs hc2 hd2 hs2
 have a1:=r.length
 have a2:=r2.length
 have ea:its.toArray++its2.toArray=(its++its2).toArray:=by simp
 refine concat_meets ⟨_,e,rfl⟩ ⟨_,e2,rfl⟩ noFill_list_add seq_list_add F.slot_list_add F.entry_list_add (F.args_list_add_2 _ _) (list_addW l b its.toArray its2.toArray n n2 _ _ _ _ (by rw [List.size_toArray,List.size_toArray];omega)) ⟨e,e2,?_⟩
 rw [ea]
 exact ⟨.ref _,_,I.lnew (t':=s.toks) (r.append r2) (by rw [List.length_append];omega),rfl,q _ I.fresh⟩
end
section
variable {pg:Program}{wd:World}{B:Around}{X0:Value->Shared->Prop}{s0:Shared}
theorem lstIt_at {h h':Heap}{j t:Addr}{k:Nat}(p:h.IsListIter j t k) (f:∀o,h.get? j=some o->h'.get? j=some o):h'.IsListIter j t k:=let ⟨o,g,r⟩:=p;⟨o,f o g,r⟩
theorem lst_at {h h':Heap}{t:Addr}{its:Array Value}(p:h.IsList t its) (f:∀o,h.get? t=some o->h'.get? t=some o):h'.IsList t its:=let ⟨o,g,r⟩:=p;⟨o,f o g,r⟩
end
def ItzL (K:W.Frag) (a b:Addr):It:=⟨λ i H=>∃xs ys x y,SqL K H a xs/\SqL K H b ys/\xs[i]?=some x/\ys[i]?=some y,
 λ i H v H'=>∃T x y,v=.ref T/\H T=none/\H'=upd H T (.tup [x,y])/\∀xs ys,SqL K H a xs->SqL K H b ys->xs[i]?=some x/\ys[i]?=some y,λ i H=>∃xs ys,SqL K H a xs/\SqL K H b ys/\(xs.length≤i\/ys.length≤i)⟩
section
variable {X:Cx}{es:List Expr}{x1:Nat}{pp:Pos}
def iZipL (K:W.Frag) (ta:TA):TI:=λ σ H R=>ta σ H λ vs H1=>∃a b xs ys,vs=[.ref a,.ref b]/\SqL K H1 a xs/\SqL K H1 b ys/\R (ItzL K a b) H1
end
def LoopZL (K:PySem.W.Frag) (g:TG) (tb:TS) (D:Ends) (σ:St) (vs:List V) (H1:Hp):Prop:=∃a b xs ys,vs=[.ref a,.ref b]/\SqL K H1 a xs/\SqL K H1 b ys/\∃W:Nat->Nat->St->Hp->Prop,(∃m,W 0 m σ H1)/\∀i m σ H,W i m σ H ->
 ((ItzL K a b).stop i H/\D.nx σ H)\/((ItzL K a b).go i H/\∃N:St->Hp->Prop,(∀σ' H',N σ' H'->∃m',m' < m/\W (i+1) m' σ' H')/\∀x H',(ItzL K a b).yld i H x H'->g x σ H' λ σ2 H2=>tb { D with nx:=N,ct:=N,bk:=D.nx } σ2 H2)
theorem for_eqZL {K:W.Frag}{ta:TA}{g:TG}{tb:TS}{D:Ends}{σ:St}{H:Hp}:tFor (iZipL K ta) g tb D σ H=ta σ H λ vs H1=>LoopZL K g tb D σ vs H1:=rfl
theorem LoopZL.mk {K:W.Frag}{a b:Addr}{xs ys:List V}{g:TG}{tb:TS}{D:Ends}{σ:St}{H:Hp}(n:Nat) (hn:n=min xs.length ys.length) (h1:SqL K H a xs) (h2:SqL K H b ys) (Pv:Nat->St->Hp->Prop) (h0:Pv 0 σ H) (hl:∀i σ H,i≤n->Pv i σ H->SqL K H a xs/\SqL K H b ys)
  (hs:∀i x y σ H T,i < n->xs[i]?=some x->ys[i]?=some y->Pv i σ H->H T=none->g (.ref T) σ (upd H T (.tup [x,y])) λ σ2 H2=>tb { D with nx:=Pv (i+1),ct:=Pv (i+1),bk:=D.nx } σ2 H2) (hd:∀σ H,Pv n σ H->D.nx σ H) :
  LoopZL K g tb D σ [.ref a,.ref b] H:=by
 subst hn
 refine ⟨a,b,xs,ys,rfl,h1,h2,λ i m σ H=>m=min xs.length ys.length - i/\i≤min xs.length ys.length/\Pv i σ H,⟨_,rfl,Nat.zero_le _,h0⟩,?_⟩
 rintro i m σ H ⟨rfl,hi,p⟩
 obtain ⟨k1,k2⟩:=hl i σ H hi p
 by_cases hlt:i < min xs.length ys.length
 ·have l1:i < xs.length:=by omega
  have l2:i < ys.length:=by omega
  refine .inr ⟨⟨xs,ys,_,_,k1,k2,List.getElem?_eq_getElem l1,List.getElem?_eq_getElem l2⟩,Pv (i+1),λ σ' H' p'=>⟨min xs.length ys.length - (i+1),by omega,rfl,hlt,p'⟩,λ v H' yy=>?_⟩
  obtain ⟨T,x,y,rfl,hT,rfl,ex⟩:=yy
  obtain ⟨ex1,ex2⟩:=ex xs ys k1 k2
  exact hs i x y σ H T hlt ex1 ex2 p hT
 ·have e:i=min xs.length ys.length:=by omega
  exact .inl ⟨⟨xs,ys,k1,k2,by omega⟩,hd σ H (e ▸ p)⟩
def CompZL (K:PySem.W.Frag) (k:Nat) (js:List Nat) (g:TG) (te:TE) (σ:St) (vs:List V) (H1:Hp) (Q:VK):Prop:=∃a b xs ys,vs=[.ref a,.ref b]/\SqL K H1 a xs/\SqL K H1 b ys/\∃W:Nat->Nat->List V->St->Hp->Prop,(∃m,W 0 m [] (compSt k js σ) H1)/\∀i m zs σ' H',W i m zs σ' H' ->
  ((ItzL K a b).stop i H'/\∀p,H' p=none->Q (.ref p) (upd H' p (.lst zs))) \/
  ((ItzL K a b).go i H'/\zs.length < sizeLine/\∃N:List V->St->Hp->Prop,(∀zs σ2 H2,N zs σ2 H2->∃m',m' < m/\W (i+1) m' zs σ2 H2)/\∀x H2,(ItzL K a b).yld i H' x H2->g x σ' H2 λ σ3 H3=>te σ3 H3 λ v H4=>N (zs++[v]) σ3 H4)
theorem comp_eqZL {K:W.Frag}{k:Nat}{js:List Nat}{ta:TA}{g:TG}{te:TE}{σ:St}{H:Hp}{Q:VK}:tComp (iZipL K ta) k js g te σ H Q=ta σ H λ vs H1=>CompZL K k js g te σ vs H1 Q:=rfl
theorem CompZL.mk {K:W.Frag}{a b:Addr}{xs ys:List V}{k:Nat}{js:List Nat}{g:TG}{te:TE}{Q:VK}{σ:St}{H:Hp}(n:Nat) (hn:n=min xs.length ys.length) (h1:SqL K H a xs) (h2:SqL K H b ys) (Pv:Nat->List V->St->Hp->Prop) (h0:Pv 0 [] (compSt k js σ) H) (hl:∀i zs σ H,i≤n->Pv i zs σ H->SqL K H a xs/\SqL K H b ys)
  (hs:∀i x y zs σ H T,i < n->xs[i]?=some x->ys[i]?=some y->Pv i zs σ H->H T=none->zs.length < sizeLine/\g (.ref T) σ (upd H T (.tup [x,y])) λ σ3 H3=>te σ3 H3 λ v H4=>Pv (i+1) (zs++[v]) σ3 H4) (hz:∀zs σ H,Pv n zs σ H->∀p,H p=none->Q (.ref p) (upd H p (.lst zs))) (hlen:∀i zs σ H,Pv i zs σ H->zs.length < sizeLine) :
  CompZL K k js g te σ [.ref a,.ref b] H Q:=by
 subst hn
 refine ⟨a,b,xs,ys,rfl,h1,h2,λ i m zs σ H=>m=min xs.length ys.length - i/\i≤min xs.length ys.length/\Pv i zs σ H,⟨_,rfl,Nat.zero_le _,h0⟩,?_⟩
 rintro i m zs σ H ⟨rfl,hi,p⟩
 obtain ⟨k1,k2⟩:=hl i zs σ H hi p
 by_cases hlt:i < min xs.length ys.length
 ·have l1:i < xs.length:=by omega
  have l2:i < ys.length:=by omega
  refine .inr ⟨⟨xs,ys,_,_,k1,k2,List.getElem?_eq_getElem l1,List.getElem?_eq_getElem l2⟩,hlen _ _ _ _ p,Pv (i+1),λ zs' σ' H' p'=>⟨min xs.length ys.length - (i+1),by omega,rfl,hlt,p'⟩,λ v H' yy=>?_⟩
  obtain ⟨T,x,y,rfl,hT,rfl,ex⟩:=yy
  obtain ⟨ex1,ex2⟩:=ex xs ys k1 k2
  exact (hs i x y zs σ H T hlt ex1 ex2 p hT).2
 ·have e:i=min xs.length ys.length:=by omega
  exact .inl ⟨⟨xs,ys,k1,k2,by omega⟩,hz zs σ H (e ▸ p)⟩
section
variable {prog:Program}{w:World}{A:Around}{E:Value->Shared->Prop}{s:Shared}
end
theorem vals_of_get:∀ {xs:List V}{us:List Value},xs.length=us.length->(∀(i:Nat) u,us[i]?=some u->∃x,xs[i]?=some x/\RelV x u)->Vals xs us
 | [],[],_,_=>.nil
 | [],_::_,h,_=>by simp at h
 | _::_,[],h,_=>by simp at h
 | x::xs,u::us,h,f=>by
  obtain ⟨y,e,r⟩:=f 0 u rfl
  cases (Option.some.inj e)
  exact .cons r (vals_of_get (by simpa using h) λ i v e=>f (i+1) v e)
section
variable {X:Cx}
theorem call_rangeV:CallR X (.type "range") (λ xs H Q=>∃j:Int,xs=[.int j]/\∀r,H r=none->Q (.ref r) (upd H r (.rng 0 j))):=by
 intro pins s σ H xs us Q I r h
 obtain ⟨j,rfl,q⟩:=h
 obtain ⟨u,rfl,t,rfl⟩:=vals1 r
 refine call_range_1 ⟨.ref s.heap.objs.size,_,I.laid (λ b o e=>Heap.get?_push_of_some _ e) (Nat.le_refl _) ?_,rfl,q _ (I.hok.fresh (Nat.le_refl _))⟩
 exact ⟨_,_,_,Heap.get?_push_size _ rfl⟩
def upL (n:Nat):List Int:=(List.range n).map λ (i:Nat)=>(i:Int)
theorem call_listRng (hc:X.calm=true):CallR X (.type "list") (λ xs H Q=>∃p n,xs=[.ref p]/\H p=some (.rng 0 (Int.ofNat n))/\n≤1000/\∀l,H l=none->Q (.ref l) (upd H l (.lst ((upL n).map V.int)))):=by
 intro pins s σ H xs us Q I r h
 obtain ⟨p,n,rfl,hp,hn,q⟩:=h
 obtain ⟨u,rfl,rx⟩:=vals1 r
 cases rx
 obtain ⟨t,u,v,e⟩:=I.hok p _ hp
 have hs:Builtin.Range.small 0 (Int.ofNat n) 1=true:=by
  have z:∀m:Fin 1001,Builtin.Range.small 0 (Int.ofNat m.val) 1=true:=by decide +kernel
  exact z ⟨n,by omega⟩
 have hsz:Builtin.Range.rangeSize 0 (Int.ofNat n) 1=n:=by
  unfold Builtin.Range.rangeSize
  rw [if_pos (by decide)]
  split
  ·show (Int.ofNat n - 0 - 1) / 1+1=_;simp; 
  ·simp at *;omega
 refine call_list_range (I.ok.hd hc) e hs hsz (by omega) λ h' tk acc' c' k g it=>?_
 have rv:Vals ((upL n).map V.int) acc'.toList:=by
  refine vals_of_get (by simp [upL,it.1]) λ i v e=>?_
  rw [Array.getElem?_toList] at e
  obtain ⟨tt,rfl⟩:=it.2 i v e
  have hi:i < n:=by rw [← it.1];exact (Array.getElem?_eq_some_iff.mp e).1
  exact ⟨.int i,by simp [upL,hi],tt,by simp⟩
 exact ⟨.ref s.heap.objs.size,_,I.laid k (Nat.le_refl _) (show ObjOk X.prog X.w _ _ _ (.lst _) from ⟨by simp [upL];exact Nat.le_of_lt (small1000 hn),acc'.toList,c',rv,by rw [Array.toArray_toList];exact g⟩),rfl,q _ (I.hok.fresh (Nat.le_refl _))⟩
def rCount:V->List V->Hp->VK->Prop:=λ x ys H Q=>∃a o xs y,x=.ref a/\ys=[y]/\H a=some (.frz o (.tup xs))/\xs.all flatV=true/\flatV y=true/\Q (.int (xs.countP λ z=>eqV z y)) H
def tBMf (r:V->List V->Hp->VK->Prop) (to:TE) (t:TA):TE:=λ σ H Q=>to σ H λ x H1=>(∃a o xs,x=.ref a/\H1 a=some (.frz o (.tup xs))/\o.dict=none)/\t σ H1 λ ys H2=>r x ys H2 Q
theorem mr_popAt:MtR X "list.pop" rPopAt:=mt_popAt
end
theorem ps_setC {X:Cx}{i:Nat}{x:Str}{elt tg iter:Expr}{scope:Scope}{cl:List (Str × Addr)}{pos pos' lpos:Pos}{own fv:List Str}{js:List Nat}{wi:TI}{g:TG}{te:TE}
  (hN:X.N.Nodup) (hx1:X.N[i]?=some x) (hx:Loc X.env.scope x) (hf:X.fn x=true\/X.env.scope.names.lookup x=some .local)
  (hc:X.calm=true) (hi:PI X tg iter wi) (hclos:closureFor scope X.env=pure cl) (hcell:∀y∈scope.names,y.2≠.cell) (hkind:scope.kind=.function)
  (hnames:∀y∈scope.names,y.2=.local->scope.names.lookup y.1=some .local)
  (hcl:∀x c,cl.lookup x=some c->X.env.cells.lookup x=some c)
  (hhas:∀x,((relabel scope X.env).names.lookup x=some .cell\/(relabel scope X.env).names.lookup x=some .free)->∃c,cl.lookup x=some c)
  (hlen:js.length=fv.length) (hcap:∀(i:Nat) x j,fv[i]?=some x->js[i]?=some j->Cap X scope cl x j)
  (hg:∀(C:Addr) (ex:List Addr) (s:Shared) (H:Hp),PG (cxComp X (own++fv) scope cl C ex s H) tg g)
  (he:∀(C:Addr) (ex:List Addr) (s:Shared) (H:Hp),PE (cxComp X (own++fv) scope cl C ex s H) elt te)
  (hsw:swapsWith (.ListComp elt [⟨tg,iter,[],0⟩] scope lpos) (some (.Name x pos')) pos.line X.env=pure true:=by rfl)
  (hs:∀x,foldedSetIterable iter X.env x=pure x:=by intro _;rfl) :
  PS X (.Assign [.Name x pos'] (.ListComp elt [⟨tg,iter,[],0⟩] scope lpos) pos) (tAsg (tComp wi own.length js g te) (gName i)):=by
 intro pins s σ H D I h
 rw [exec_Assign_Name_used _ _ _ _ hsw]
 refine wpAny_bind (wpAny_standAt ?_)
 rw [arm_evalThenUse_ListComp]
 have core:=comp_core (use:=some (assign (.Name x pos') X.env)) (QQ:=λ _ s'=>SP X pins D .next s') (fpos:=firstIterPos [⟨tg,iter,[],0⟩] lpos) (pos:=lpos) hc hi hclos hcell hkind hnames hcl hhas hlen hcap hg he hs I h (λ a C s5 H5 fl I5 zC zL zS zc zp ⟨m,hn⟩ q=>?_)
 ·refine wpAny_bind (wpAny_bind (thn core λ _ s' hq=>?_))
  exact wpAny_pure (wpAny_pure hq)
 ·show wpAny (model X.prog X.w) X.A (assign (.Name x pos') X.env (.ref a)) _ X.xe s5
  show wpAny (model X.prog X.w) X.A (do standAt pos';bindName X.env x (.ref a)) _ X.xe s5
  refine wpAny_bind (wpAny_standAt ?_)
  refine bindName_ ?_
  refine store_ok2 I5 hN hx1 hx (show RelV (.ref a) (.ref a) from rfl) (λ s6 I6 ⟨b,sb,hb⟩=>?_) hf
  have cb:C≠b:=by
   rcases hb with rfl | hb
   ·exact zL
   ·exact λ z=>zc x b hb z.symm
  obtain ⟨o,es,ep,e,r⟩:=hn
  refine ⟨m,⟨o,es,ep,(sb.2 C cb).trans e,r⟩,λ h' sc=>?_⟩
  exact ⟨_,H5,I6.turned (t':=s6.toks) (it:=C) (λ d o nd e=>sc.extBut d o nd e) zC zL (.inr zS) zc zp,q⟩
theorem ps_setC0 {X:Cx}{i:Nat}{x:Str}{elt tg iter:Expr}{scope:Scope}{pos pos' lpos:Pos}{own:List Str}{wi:TI}{g:TG}{te:TE}
  (hN:X.N.Nodup) (hx1:X.N[i]?=some x) (hx:Loc X.env.scope x) (hf:X.fn x=true\/X.env.scope.names.lookup x=some .local)
  (hc:X.calm=true) (hi:PI X tg iter wi) (hcell:∀y∈scope.names,y.2≠.cell) (hfree:∀y∈scope.names,y.2≠.free) (hkind:scope.kind=.function)
  (hnames:∀y∈scope.names,y.2=.local->scope.names.lookup y.1=some .local)
  (hg:∀(C:Addr) (ex:List Addr) (s:Shared) (H:Hp),PG (cxComp X own scope [] C ex s H) tg g)
  (he:∀(C:Addr) (ex:List Addr) (s:Shared) (H:Hp),PE (cxComp X own scope [] C ex s H) elt te)
  (hsw:swapsWith (.ListComp elt [⟨tg,iter,[],0⟩] scope lpos) (some (.Name x pos')) pos.line X.env=pure true:=by rfl)
  (hs:∀x,foldedSetIterable iter X.env x=pure x:=by intro _;rfl) :
  PS X (.Assign [.Name x pos'] (.ListComp elt [⟨tg,iter,[],0⟩] scope lpos) pos) (tAsg (tComp wi own.length [] g te) (gName i)):=by
 refine ps_setC (own:=own) (fv:=[]) (js:=[]) (cl:=[]) hN hx1 hx hf hc hi (closureFor_none hfree) hcell hkind hnames (λ x c h=>by cases h) (λ x h=>?_) rfl (λ i x j h=>by simp at h) (by simpa using hg) (by simpa using he) hsw hs
 rw [relabel_none hfree] at h
 rcases h with h | h
 ·exact absurd rfl (hcell _ (PySem.mem_of_lookup h))
 ·exact absurd rfl (hfree _ (PySem.mem_of_lookup h))
section
variable {X:Cx}
def startsB (x y:Str):Bool:=decide (0+y.length≤x.length) && Builtin.Str.subAt x y 0
def rStarts:V->List V->Hp->VK->Prop:=λ x xs H Q=>∃z y,x=.str z/\xs=[.str y]/\Q (.bl (startsB z y)) H
def rSlStrX:V->Option Int->Option Int->Hp->VK->Prop:=λ x lo hi H Q=>∃z,x=.str z/\z.length≤20000/\Q (.str (Txt.slice z lo hi)) H
end
section
variable {κ:Type} [DecidableEq κ]
def valV (kvs:List (κ × V)) (k:κ):Option V:=(kvs.find? λ kv=>decide (kv.1=k)).map (·.2)
def putK (kvs:List (κ × V)) (k:κ) (v:V):List (κ × V) :=
 if (kvs.any λ kv=>decide (kv.1=k))=true then kvs.map (λ kv=>if kv.1=k then (kv.1,v) else kv) else kvs++[(k,v)]
def dropK (kvs:List (κ × V)) (k:κ):List (κ × V):=kvs.filter λ kv=>decide (kv.1≠k)
theorem valV_pos {p:κ × V}{r:List (κ × V)}{k:κ}(e:p.1=k):valV (p::r) k=some p.2:=by simp [valV,List.find?_cons,e]
theorem valV_neg {p:κ × V}{r:List (κ × V)}{k:κ}(e:¬p.1=k):valV (p::r) k=valV r k:=by simp [valV,List.find?_cons,e]
theorem valV_any (k:κ):∀kvs:List (κ × V),(kvs.any λ kv=>decide (kv.1=k))=(valV kvs k).isSome
 | []=>rfl
 | p::r=>by
  rw [List.any_cons]
  by_cases e:p.1=k
  ·simp only [valV_pos e,decide_eq_true e,Bool.true_or,Option.isSome_some]
  ·rw [valV_neg e,decide_eq_false e,Bool.false_or];exact valV_any k r
theorem length_putK (kvs:List (κ × V)) (k:κ) (v:V):(putK kvs k v).length≤kvs.length+1:=by
 unfold putK
 split
 ·rw [List.length_map];omega
 ·rw [List.length_append,List.length_cons,List.length_nil];omega
theorem RelO.isSome_eq {o:Option V}{u:Option Value}(r:RelO o u):o.isSome=u.isSome:=by
 cases o with
 | none=>cases u with
  | none=>rfl
  | some _=>exact (show False from r).elim
 | some _=>cases u with
  | none=>exact (show False from r).elim
  | some _=>rfl
theorem RelO.getD {o:Option V}{u:Option Value}{d:V}{d':Value}(r:RelO o u) (rd:RelV d d'):RelV (o.getD d) (u.getD d'):=by
 cases o with
 | none=>cases u with
  | none=>exact rd
  | some _=>exact (show False from r).elim
 | some _=>cases u with
  | none=>exact (show False from r).elim
  | some _=>exact r
theorem KV.val {kvs:List (κ × V)}{vs:List (κ × Value)}(r:KV kvs vs) (k:κ):RelO (valV kvs k) (valueAt vs k):=by
 unfold KV at r
 induction r with
 | nil=>exact True.intro
 | @cons p q ps qs h t ih =>
  obtain ⟨h1,h2⟩:=h
  by_cases e:p.1=k
  ·have e':q.1=k:=h1.symm.trans e
   have b:valueAt (q::qs) k=some q.2:=by simp [valueAt,List.find?_cons,e']
   rw [valV_pos e,b];exact h2
  ·have e':¬q.1=k:=λ z=>e (h1.trans z)
   have b:valueAt (q::qs) k=valueAt qs k:=by simp [valueAt,List.find?_cons,e']
   rw [valV_neg e,b];exact ih
theorem KV.any {kvs:List (κ × V)}{vs:List (κ × Value)}(r:KV kvs vs) (k:κ):(kvs.any λ kv=>decide (kv.1=k))=vs.any λ kv=>decide (kv.1=k):=by
 unfold KV at r
 induction r with
 | nil=>rfl
 | cons h t ih=>rw [List.any_cons,List.any_cons,ih,h.1]
theorem KV.repl {kvs:List (κ × V)}{vs:List (κ × Value)}(r:KV kvs vs) (k:κ) {y:V}{u:Value}(ry:RelV y u) :
  KV (kvs.map λ kv=>if kv.1=k then (kv.1,y) else kv) (vs.map λ kv=>if kv.1=k then (kv.1,u) else kv):=by
 unfold KV at r ⊢
 induction r with
 | nil=>exact .nil
 | @cons p q ps qs h t ih =>
  rw [List.map_cons,List.map_cons]
  refine .cons ?_ ih
  obtain ⟨h1,h2⟩:=h
  by_cases e:p.1=k
  ·rw [if_pos e,if_pos (h1.symm.trans e)];exact ⟨h1,ry⟩
  ·rw [if_neg e,if_neg (λ z=>e (h1.trans z))];exact ⟨h1,h2⟩
theorem KV.put {kvs:List (κ × V)}{vs:List (κ × Value)}(r:KV kvs vs) (k:κ) {y:V}{u:Value}(ry:RelV y u):KV (putK kvs k y) (stored vs k u):=by
 unfold putK stored
 rw [r.any k]
 by_cases e:(vs.any λ kv=>decide (kv.1=k))=true
 ·rw [if_pos e,if_pos e];exact r.repl k ry
 ·rw [if_neg e,if_neg e];exact Paired.snoc r ⟨rfl,ry⟩
theorem KV.drop {kvs:List (κ × V)}{vs:List (κ × Value)}(r:KV kvs vs) (k:κ):KV (dropK kvs k) (without vs k):=by
 unfold KV at r ⊢
 unfold dropK without
 induction r with
 | nil=>exact .nil
 | @cons p q ps qs h t ih =>
  obtain ⟨h1,h2⟩:=h
  rw [List.filter_cons,List.filter_cons]
  by_cases e:p.1=k
  ·have a:¬decide (p.1≠k)=true:=by simp [e]
   have b:¬decide (q.1≠k)=true:=by simp [h1.symm.trans e]
   rw [if_neg a,if_neg b];exact ih
  ·have e':¬q.1=k:=λ z=>e (h1.trans z)
   have a:decide (p.1≠k)=true:=by simp [e]
   have b:decide (q.1≠k)=true:=by simp [e']
   rw [if_pos a,if_pos b];exact .cons ⟨h1,h2⟩ ih
theorem KV.length {kvs:List (κ × V)}{vs:List (κ × Value)}(r:KV kvs vs):kvs.length=vs.length:=Paired.length r
end
theorem kV_is {P:Program}{w:World}{k:Key}{u:Value}(r:RelV (kV k) u):(mixKind P w).is k u=true:=by
 cases k with
 | inl i=>obtain ⟨t,e⟩:=(show ∃t,u=Value.int i t from r);subst e;exact mixKind_int P w i t
 | inr x=>obtain ⟨t,e⟩:=(show ∃t,u=Value.str x t from r);subst e;exact mixKind_str P w x t
theorem items_are {P:Program}{w:World}:∀ {ks:List Key}{us:List Value},Vals (ks.map kV) us->ItemsAre (mixKind P w) ks us
 | [],_,r=>by rw [List.map_nil] at r;cases r;exact .nil
 | k::ks,_,r=>by
  rw [List.map_cons] at r
  cases r with
  | cons h t=>exact .cons (kV_is h) (items_are t)
abbrev KT (H:Hp):List (List Key × V)->List (List Key × Addr × Value)->Prop:=Paired λ p q=>p.1=q.1/\H q.2.1=some (.tup (p.1.map kV))/\RelV p.2 q.2.2
theorem KT.val {H:Hp}{kvs:List (List Key × V)}{xs:List (List Key × Addr × Value)}(r:KT H kvs xs) (k:List Key):RelO (valV kvs k) ((atKey xs k).map (·.2)):=by
 induction r with
 | nil=>exact True.intro
 | @cons p q ps qs h t ih =>
  obtain ⟨h1,_,h2⟩:=h
  by_cases e:p.1=k
  ·have e':q.1=k:=h1.symm.trans e
   have b:atKey (q::qs) k=some q.2:=by simp [atKey,List.find?_cons,e']
   rw [valV_pos e,b];exact h2
  ·have e':¬q.1=k:=λ z=>e (h1.trans z)
   have b:atKey (q::qs) k=atKey qs k:=by simp [atKey,List.find?_cons,e']
   rw [valV_neg e,b];exact ih
theorem KT.repl {H:Hp}{kvs:List (List Key × V)}{xs:List (List Key × Addr × Value)}(r:KT H kvs xs) (k:List Key) {y:V}{u:Value}(ry:RelV y u) :
  KT H (kvs.map λ kv=>if kv.1=k then (kv.1,y) else kv) (xs.map (putAt k u)):=by
 induction r with
 | nil=>exact .nil
 | @cons p q ps qs h t ih =>
  rw [List.map_cons,List.map_cons]
  refine .cons ?_ ih
  obtain ⟨h1,h2,h3⟩:=h
  unfold putAt
  by_cases e:p.1=k
  ·rw [if_pos e,if_pos (h1.symm.trans e)];exact ⟨h1,h2,ry⟩
  ·rw [if_neg e,if_neg (λ z=>e (h1.trans z))];exact ⟨h1,h2,h3⟩
theorem KT.put {H:Hp}{kvs:List (List Key × V)}{xs:List (List Key × Addr × Value)}(r:KT H kvs xs) (k:List Key) {b:Addr}{y:V}{u:Value}(hb:H b=some (.tup (k.map kV))) (ry:RelV y u) :
  KT H (putK kvs k y) (storedH xs k b u):=by
 have e:(kvs.any λ kv=>decide (kv.1=k))=(atKey xs k).isSome:=by
  rw [valV_any,(r.val k).isSome_eq,Option.isSome_map]
 unfold putK storedH
 rw [e]
 by_cases q:(atKey xs k).isSome=true
 ·rw [if_pos q,if_pos q];exact r.repl k ry
 ·rw [if_neg q,if_neg q];exact Paired.snoc r ⟨rfl,hb,ry⟩
theorem KT.keeps {H H':Hp}{kvs:List (List Key × V)}{xs:List (List Key × Addr × Value)}(r:KT H kvs xs) (ht:∀b ys,H b=some (.tup ys)->H' b=some (.tup ys)):KT H' kvs xs :=
 Paired.mapP r λ _ _ z=>⟨z.1,ht _ _ z.2.1,z.2.2⟩
section
variable {P:Program}{w:World}{H:Hp}{h:Heap}{a:Addr}
theorem rd_of {u:HO}(ok:HOk P w H h) (e:Rd H a u):ObjOk P w H h a u:=e.ok ok
theorem dk_rd {kvs:List (Key × V)}(ok:HOk P w H h) (e:Rd H a (.dK kvs)):kvs.length≤sizeLine/\(a == sysModules)=false/\∃vs,KV kvs vs/\h.DictOf (mixKind P w) a vs :=
 show ObjOk P w H h a (.dK kvs) from rd_of ok e
theorem dk_of {kvs:List (Key × V)}(ok:HOk P w H h) (e:H a=some (.dK kvs)):kvs.length≤sizeLine/\(a == sysModules)=false/\∃vs,KV kvs vs/\h.DictOf (mixKind P w) a vs:=dk_rd ok (.inl e)
theorem key_of {ks:List Key}(ok:HOk P w H h) (e:H a=some (.tup (ks.map kV))):(tupleKind (mixKind P w)).is h ks a:=by
 obtain ⟨_,its,r,o,h1,h2,n,h3⟩:=(show ObjOk P w H h a (.tup (ks.map kV)) from ok a _ e)
 exact ⟨o,its.toArray,n,h1,h2,h3,by simpa using items_are r⟩
theorem dt_rd {kvs:List (List Key × V)}(ok:HOk P w H h) (e:Rd H a (.dT kvs)):kvs.length≤sizeLine/\(a == sysModules)=false /\
  ∃xs,KT H kvs xs/\h.DictOfH (tupleKind (mixKind P w)) a xs:=by
 obtain ⟨z,y,xs,r,o,es,ep,h1,h2,h3,h4,h5⟩:=(show ObjOk P w H h a (.dT kvs) from rd_of ok e)
 refine ⟨z,y,xs,r,o,es,ep,h1,h2,h3,h4,λ x hx=>?_,h5⟩
 have all:∀ {l:List (List Key × V)}{m:List (List Key × Addr × Value)},KT H l m->∀x∈m,(tupleKind (mixKind P w)).is h x.1 x.2.1:=by
  intro l m q
  induction q with
  | nil=>intro x hx;exact nomatch hx
  | @cons p q ps qs hq t ih =>
   intro x hx
   rcases List.mem_cons.mp hx with e | hx
   ·subst e
    exact key_of ok (by rw [← hq.1];exact hq.2.1)
   ·exact ih x hx
 exact all r x hx
theorem dt_of {kvs:List (List Key × V)}(ok:HOk P w H h) (e:H a=some (.dT kvs)):kvs.length≤sizeLine/\(a == sysModules)=false /\
  ∃xs,KT H kvs xs/\h.DictOfH (tupleKind (mixKind P w)) a xs:=dt_rd ok (.inl e)
end
def DGet (H:Hp) (a:Addr) (y:V) (r:Option V):Prop :=
 (∃kvs k,Rd H a (.dK kvs)/\y=kV k/\r=valV kvs k)\/∃kvs k b,Rd H a (.dT kvs)/\y=.ref b/\H b=some (.tup (k.map kV))/\r=valV kvs k
def DPut (H:Hp) (a:Addr) (y v:V) (H':Hp):Prop :=
 (∃kvs k,H a=some (.dK kvs)/\y=kV k/\kvs.length < sizeLine/\H'=upd H a (.dK (putK kvs k v))) \/
 ∃kvs k b,H a=some (.dT kvs)/\y=.ref b/\H b=some (.tup (k.map kV))/\kvs.length < sizeLine/\H'=upd H a (.dT (putK kvs k v))
theorem DGet.k {H:Hp}{a:Addr}{kvs:List (Key × V)}{k:Key}(e:H a=some (.dK kvs)):DGet H a (kV k) (valV kvs k):=.inl ⟨kvs,k,.inl e,rfl,rfl⟩
theorem DGet.t {H:Hp}{a b:Addr}{kvs:List (List Key × V)}{k:List Key}(e:H a=some (.dT kvs)) (eb:H b=some (.tup (k.map kV))):DGet H a (.ref b) (valV kvs k):=.inr ⟨kvs,k,b,.inl e,rfl,eb,rfl⟩
theorem DPut.k {H:Hp}{a:Addr}{kvs:List (Key × V)}{k:Key}{v:V}(e:H a=some (.dK kvs)) (hl:kvs.length < sizeLine):DPut H a (kV k) v (upd H a (.dK (putK kvs k v))):=.inl ⟨kvs,k,e,rfl,hl,rfl⟩
theorem DPut.t {H:Hp}{a b:Addr}{kvs:List (List Key × V)}{k:List Key}{v:V}(e:H a=some (.dT kvs)) (eb:H b=some (.tup (k.map kV))) (hl:kvs.length < sizeLine) :
  DPut H a (.ref b) v (upd H a (.dT (putK kvs k v))):=.inr ⟨kvs,k,b,e,rfl,eb,hl,rfl⟩
section
variable {X:Cx}{pins:List (Addr × Obj)}{σ:St}{H:Hp}{s:Shared}{a:Addr}{y v:V}{u r:Value}{o:Option V}{A:Around}{E:Value->Shared->Prop}
theorem Inv.big (I:Inv X pins σ H s):sysModules < s.heap.objs.size:=by
 have h:mainGlobals < s.heap.objs.size:=(I.mod.glob.keeps I.bk).lt
 exact Nat.lt_trans (by decide) h
theorem d_in {Q:Value->Shared->Prop}(hu:A.units+1 < cLine) (I:Inv X pins σ H s) (g:DGet H a y o) (ry:RelV y u) (h:∀s',Inv X pins σ H s'->Q (.bool o.isSome) s') :
  wpAny (model X.prog X.w) A (compareOp .In u (.ref a)) Q E s:=by
 rcases g with ⟨kvs,k,e,ey,l⟩ | ⟨kvs,k,b,e,ey,eb,l⟩
 ·subst ey
  obtain ⟨z,hd,vs,rel,dd⟩:=dk_rd I.hok e
  refine wpAny_in_of (kV_is ry) hd dd.mapOf ?_
  rw [← (rel.val k).isSome_eq,← l]
  exact h _ (I.tok _)
 ·subst ey
  cases (show u=Value.ref b from ry)
  obtain ⟨z,hd,xs,rel,dd⟩:=dt_rd I.hok e
  refine wpAny_in_heap (tupleKind_room_in1 hu) (key_of I.hok eb) hd dd ?_
  have q:=(rel.val k).isSome_eq
  rw [Option.isSome_map] at q
  rw [← q,← l]
  exact h _ (I.tok _)
theorem d_notIn {Q:Value->Shared->Prop}(hu:A.units+1 < cLine) (I:Inv X pins σ H s) (g:DGet H a y o) (ry:RelV y u) (h:∀s',Inv X pins σ H s'->Q (.bool (!o.isSome)) s') :
  wpAny (model X.prog X.w) A (compareOp .NotIn u (.ref a)) Q E s:=by
 rcases g with ⟨kvs,k,e,ey,l⟩ | ⟨kvs,k,b,e,ey,eb,l⟩
 ·subst ey
  obtain ⟨z,hd,vs,rel,dd⟩:=dk_rd I.hok e
  refine wpAny_notIn_of (kV_is ry) hd dd.mapOf ?_
  rw [← (rel.val k).isSome_eq,← l]
  exact h _ (I.tok _)
 ·subst ey
  cases (show u=Value.ref b from ry)
  obtain ⟨z,hd,xs,rel,dd⟩:=dt_rd I.hok e
  refine wpAny_notIn_heap (tupleKind_room_in1 hu) (key_of I.hok eb) hd dd ?_
  have q:=(rel.val k).isSome_eq
  rw [Option.isSome_map] at q
  rw [← q,← l]
  exact h _ (I.tok _)
theorem d_write {h':Heap}{t':Nat}{ob:HO}(I:Inv X pins σ H s) (mu:Mut (H a)) (hs:Heap.SameBut a s.heap h') (he:∃q,h'.get? a=some q) (new:ObjOk X.prog X.w (upd H a ob) h' a ob) :
  Inv X pins σ (upd H a ob) { s with heap:=h',toks:=t' } :=
 I.write (x:=a) (e:=a) mu (.inl rfl) (λ b q hb z=>(hs.2 b hb).trans z) he new
theorem dk_new {P:Program}{w:World}{H':Hp}{h':Heap}{kvs:List (Key × V)}{vs:List (Key × Value)}(z:kvs.length≤sizeLine) (hd:(a == sysModules)=false) (rel:KV kvs vs) (dd:h'.DictOf (mixKind P w) a vs) :
  ObjOk P w H' h' a (.dK kvs):=⟨z,hd,vs,rel,dd⟩
theorem d_setItem {H':Hp}{Q:Unit->Shared->Prop}(hu:A.units+1 < cLine) (I:Inv X pins σ H s) (g:DPut H a y v H') (ry:RelV y u) (rv:RelV v r) (h:∀s',Inv X pins σ H' s'->Q () s') :
  wpAny (model X.prog X.w) A (setItem (.ref a) u r) Q E s:=by
 rcases g with ⟨kvs,k,e,ey,l,eH⟩ | ⟨kvs,k,b,e,ey,eb,l,eH⟩
 ·subst ey eH
  obtain ⟨z,hd,vs,rel,dd⟩:=dk_of I.hok e
  have hz:vs.length≤sizeLine:=by rw [← rel.length];exact z
  have hl:(putK kvs k v).length≤sizeLine:=by have:=length_putK kvs k v;omega
  refine wpAny_setItem_pairs (hsz:=hz) (kV_is ry) dd λ h' dd' hs=>h _ ?_
  have he:∃q,h'.get? a=some q:=let ⟨q,_,_,hq,_⟩:=dd';⟨q,hq⟩
  exact d_write I (by rw [e];exact True.intro) hs he (dk_new hl hd (rel.put k rv) dd')
 ·subst ey eH
  cases (show u=Value.ref b from ry)
  obtain ⟨z,hd,xs,rel,dd⟩:=dt_of I.hok e
  have hz:xs.length≤sizeLine:=by rw [← Paired.length rel];exact z
  have hl:(putK kvs k v).length≤sizeLine:=by have:=length_putK kvs k v;omega
  refine wpAny_setItem_heap (hsz:=hz) (tupleKind_room_in1 hu) (key_of I.hok eb) dd λ h' dd' hs=>h _ ?_
  obtain ⟨q,es,ep,hq,h2,h3,h4,_,h5⟩:=dd'
  refine d_write I (by rw [e];exact True.intro) hs ⟨q,hq⟩ ⟨hl,hd,_,(rel.put k eb rv).keeps λ c ys ec=>?_,q,es,ep,hq,h2,h3,h4,h5⟩
  rw [upd_ne (ne_of ec e (λ z=>nomatch z))]
  exact ec
end
section
variable {X:Cx}{pins:List (Addr × Obj)}{σ:St}{H:Hp}{s:Shared}{a:Addr}{kvs:List (Key × V)}{k:Key}{u:Value}{A:Around}{E:Value->Shared->Prop}
end
def tDIn (ty td:TE):TE:=λ σ H Q=>ty σ H λ y H1=>td σ H1 λ x H2=>∃a o,x=.ref a/\DGet H2 a y o/\Q (.bl o.isSome) H2
def tDNotIn (ty td:TE):TE:=λ σ H Q=>ty σ H λ y H1=>td σ H1 λ x H2=>∃a o,x=.ref a/\DGet H2 a y o/\Q (.bl (!o.isSome)) H2
def sDPut (td ty tv:TE):TS:=λ D σ H=>tv σ H λ v H1=>td σ H1 λ x H2=>ty σ H2 λ y H3=>∃a H4,x=.ref a/\DPut H3 a y v H4/\D.nx σ H4
section
variable {X:Cx}{o i e value:Expr}{pos pos' tpos:Pos}{td ty tv:TE}
theorem pc_din (hu:X.A.units+1 < cLine) (hi:PE X i ty) (ho:PE X o td):PC X .In i o (tDIn ty td):=by
 intro pins s σ H Q I h
 refine thn (hi pins s σ H _ I h) λ iv s1 ⟨y,H1,I1,ry,q1⟩=>thn (ho pins s1 σ H1 _ I1 q1) λ u s2 ⟨x,H2,I2,rx,a,ov,ex,g,q2⟩=>?_
 subst ex
 obtain rfl:u=Value.ref a:=rx
 exact d_in hu I2 g ry λ s3 I3=>⟨.bl ov.isSome,H2,I3,rfl,q2⟩
theorem pc_dnotin (hu:X.A.units+1 < cLine) (hi:PE X i ty) (ho:PE X o td):PC X .NotIn i o (tDNotIn ty td):=by
 intro pins s σ H Q I h
 refine thn (hi pins s σ H _ I h) λ iv s1 ⟨y,H1,I1,ry,q1⟩=>thn (ho pins s1 σ H1 _ I1 q1) λ u s2 ⟨x,H2,I2,rx,a,ov,ex,g,q2⟩=>?_
 subst ex
 obtain rfl:u=Value.ref a:=rx
 exact d_notIn hu I2 g ry λ s3 I3=>⟨.bl (!ov.isSome),H2,I3,rfl,q2⟩
theorem ps_dput (hu:X.A.units+1 < cLine) (ho:PE X o td) (hi:PE X i ty) (hv:PE X value tv) (hs:swapsWith value (some (.Subscript o i pos')) pos.line X.env=pure false) :
  PS X (.Assign [.Subscript o i pos'] value pos) (sDPut td ty tv):=by
 intro pins s σ H D I h
 refine wpAny_Assign_Subscript (thn (hv pins s σ H _ I h) λ r s1 ⟨v,H1,I1,rv,q1⟩=>thn (ho pins s1 σ H1 _ I1 q1) λ u s2 ⟨x,H2,I2,rx,q2⟩=>thn (hi pins s2 σ H2 _ I2 q2) λ iv s3 ⟨y,H3,I3,ry,a,H4,ex,g,q3⟩=>?_) hs
 subst ex
 obtain rfl:u=Value.ref a:=rx
 exact d_setItem hu I3 g ry rv λ s4 I4=>⟨σ,H4,I4,q3⟩
end
theorem dt_empty {P:Program}{w:World}{H:Hp}(h:Heap) (hb:sysModules < h.objs.size):ObjOk P w H (h.push { cls:=.type "dict",data:=.dict #[] }) h.objs.size (.dT []) :=
 ⟨Nat.zero_le _,beq_eq_false_iff_ne.mpr (Ne.symm (Nat.ne_of_lt hb)),[],.nil,_,#[],0,Heap.get?_push_size _ rfl,⟨rfl,rfl,rfl⟩,rfl,rfl,List.nodup_nil⟩
def tDNewK:TE:=λ _ H Q=>∀p,H p=none->Q (.ref p) (upd H p (.dK []))
def tDNewT:TE:=λ _ H Q=>∀p,H p=none->Q (.ref p) (upd H p (.dT []))
section
variable {X:Cx}{pos:Pos}
theorem pe_dnewT:PE X (.Dict [] [] pos) tDNewT:=λ pins s σ H Q I h =>
 wpAny_Dict_empty ⟨.ref s.heap.objs.size,_,I.laid (a:=s.heap.objs.size) (o:=.dT []) (t':=s.toks) (λ _ _ q=>Heap.get?_push_of_some _ q) (Nat.le_refl _) (dt_empty s.heap I.big),rfl,h _ (I.hok.fresh (Nat.le_refl _))⟩
end
def mergeK (kvs more:List (Key × V)):List (Key × V):=more.foldl (λ acc kv=>putK acc kv.1 kv.2) kvs
structure M1 (X:Cx) (o:Expr) (m:Str) (apos:Pos) (e:Expr) (cpos:Pos):Prop where
 base:attributeBase o m X.env (eval o X.env)=eval o X.env
 few:((backTo cpos (starEach [e] X.env)).all (λ x=>!x.1) && (backToKw cpos (keywordEach [] X.env)).all (λ x=>x.1.isSome)
  && decide (([e]:List Expr).length+([]:List Keyword).length+(if ([]:List Keyword).isEmpty then 0 else 1) < 30))=true
 line:(apos.endLine == cpos.line)=true
 trees:backTo cpos (starEach [e] X.env)=[(false,eval e X.env)]
structure M2 (X:Cx) (o:Expr) (m:Str) (apos:Pos) (e f:Expr) (cpos:Pos):Prop where
 base:attributeBase o m X.env (eval o X.env)=eval o X.env
 few:((backTo cpos (starEach [e,f] X.env)).all (λ x=>!x.1) && (backToKw cpos (keywordEach [] X.env)).all (λ x=>x.1.isSome)
  && decide (([e,f]:List Expr).length+([]:List Keyword).length+(if ([]:List Keyword).isEmpty then 0 else 1) < 30))=true
 line:(apos.endLine == cpos.line)=true
 trees:backTo cpos (starEach [e,f] X.env)=[(false,eval e X.env),(false,eval f X.env)]
def IsD (H:Hp) (a:Addr):Prop:=(∃kvs,Rd H a (.dK kvs))\/∃kvs,Rd H a (.dT kvs)
section
variable {X:Cx}{pins:List (Addr × Obj)}{σ:St}{H:Hp}{s:Shared}{a:Addr}{y d:V}{u r:Value}{o:Option V}{A:Around}{E:Value->Shared->Prop}
end
def tDGet1 (td ty:TE):TE:=λ σ H Q=>td σ H λ x H1=>∃a,x=.ref a/\IsD H1 a/\ty σ H1 λ y H2=>∃o,DGet H2 a y o/\Q (o.getD .non) H2
section
variable {X:Cx}{o e f:Expr}{apos cpos:Pos}{td ty tx:TE}
end
section
variable {X:Cx}{pins:List (Addr × Obj)}{σ:St}{H:Hp}{s:Shared}{a:Addr}{kvs:List (Key × V)}{A:Around}{E:Value->Shared->Prop}
end
section
variable {X:Cx}{pins:List (Addr × Obj)}{σ:St}{H:Hp}{s:Shared}{a:Addr}{y:V}{u:Value}{A:Around}{E:Value->Shared->Prop}
end
section
variable {X:Cx}
end
section
variable {κ:Type} [DecidableEq κ]
end
def KTab (P:Program) (w:World) (K:W.Frag) (d:Addr) (kvs:List (Str × Addr)):Prop:=(d == sysModules)=false/\∀h:Heap,K.In h->h.DictOf (mixKind P w) d (kvs.map λ p=>((Sum.inr p.1:Key),Value.ref p.2))
def entT (pm:Params) (l:List (Str × Tok × Addr)):List DictEntry:=l.map λ p=>⟨PyData.keyHash pm p.1,.str p.1 p.2.1,.ref p.2.2⟩
theorem KTab.mk {P:Program}{w:World}{K:W.Frag}{d:Addr}{l:List (Str × Tok × Addr)}{es:Array DictEntry}{n:Nat}(hd:(d == sysModules)=false) (hl:K.lookup d=some { cls:=.type "dict",data:=.dict es n }) (he:es.toList=entT w.params l) (nd:(l.map (·.1)).Nodup) :
  KTab P w K d (l.map λ p=>(p.1,p.2.2)):=by
 refine ⟨hd,λ h KI=>⟨_,es,n,KI d _ hl,⟨rfl,rfl,rfl⟩,rfl,?_,?_,?_⟩⟩
 ·intro e hm
  have hm:e∈es.toList:=Array.mem_toList_iff.mpr hm
  rw [he] at hm
  obtain ⟨p,_,rfl⟩:=List.mem_map.mp hm
  exact ⟨Sum.inr p.1,keyIs_str p.1 p.2.1,rfl⟩
 ·rw [he]
  clear he nd hl
  induction l with
  | nil=>exact .nil
  | cons p r ih=>exact .cons (keyIs_str p.1 p.2.1) rfl ih
 ·rw [List.map_map,List.map_map]
  have e:((λ x:Key × Value=>x.1) ∘ (λ p:Str × Addr=>((Sum.inr p.1:Key),Value.ref p.2))) ∘ (λ p:Str × Tok × Addr=>(p.1,p.2.2))=(λ x:Str=>(Sum.inr x:Key)) ∘ λ p=>p.1:=rfl
  rw [← List.map_map] at *
  have z:(l.map λ p=>(Sum.inr p.1:Key)).Nodup:=by
   have:(l.map λ p=>(Sum.inr p.1:Key))=(l.map (·.1)).map (λ x:Str=>(Sum.inr x:Key)):=by rw [List.map_map];rfl
   rw [this]
   exact List.Pairwise.map _ (λ a b (h:a≠b) z=>h (Sum.inr.inj z)) nd
  simpa [List.map_map,Function.comp_def] using z
section
variable {X:Cx}
def rKTab (kvs:List (Str × Addr)):V->Hp->VK->Prop:=λ y H Q=>∃x a,y=.str x/\kvs.lookup x=some a/\Q (.ref a) H
def tKTab (kvs:List (Str × Addr)) (te:TE):TE:=λ σ H Q=>te σ H λ y H1=>rKTab kvs y H1 Q
def tKIn (kvs:List (Str × Addr)) (te:TE):TE:=λ σ H Q=>te σ H λ y H1=>∃x,y=.str x/\Q (.bl (kvs.lookup x).isSome) H1
end
section
variable {pg:Program}{wd:World}{B:Around}{X0:Value->Shared->Prop}{s0:Shared}
theorem zipM_item {z ti ox j1 j2 t1 t2:Addr}{k:Nat}{as bs:Array Value}{x y u v:Value}{R:Option Value->Shared->Prop}(ap:Apart5 z ti ox j1 j2 t1 t2) (hz:IsZip s0.heap z ti ox .none) (hi:IsPair s0.heap ti (.ref j1) (.ref j2)) (ho:IsPair s0.heap ox u v)
  (p1:s0.heap.IsListIter j1 t1 k) (p2:s0.heap.IsTupleIter j2 t2 k) (q1:s0.heap.IsList t1 as) (q2:s0.heap.IsTuple t2 bs) (e1:as[k]?=some x) (e2:bs[k]?=some y)
  (f:∀h',IsZip h' z ti ox (rawInt s0.heap.objs.size)->IsPair h' ox x y->h'.IsListIter j1 t1 (k+1)->h'.IsTupleIter j2 t2 (k+1)->IsPair h' s0.heap.objs.size x y->But4 z ox j1 j2 s0.heap h'->R (some (.ref s0.heap.objs.size)) { s0 with heap:=h' }) :
  wpAny (model pg wd) B (pyNext (.ref z)) R X0 s0:=by
 have ty:s0.TypeIs (.ref z) "zip" := ⟨_,hz,rfl⟩
 unfold pyNext
 refine wpAny_bind (wpAny_attempt (wpAny_callSpecial?_slot (name:=Str.ofString "__next__") ty F.slot_zip_next (wpAny_call_entry F.slot_zip_next ty F.entry_zip_next ?_ (F.args_zip_next_1 _))))
 show wpAny _ _ (field (.ref z) 2 >>= _) _ _ _
 refine wpAny_bind (wpAny_field hz rfl (x:=.bool false) rfl ?_)
 show wpAny _ _ (field (.ref z) 3 >>= _) _ _ _
 refine wpAny_bind (wpAny_field hz rfl (x:=.ref ti) rfl ?_)
 refine wpAny_bind (wpAny_seqItems hi rfl ?_)
 show wpAny _ _ (Builtin.SmallTypes.ownedTupleIsFree (.ref z) >>= _) _ _ _
 refine wpAny_bind ?_
 unfold Builtin.SmallTypes.ownedTupleIsFree
 refine wpAny_bind (wpAny_field hz rfl (x:=.none) rfl (wpAny_pure ?_))
 simp only [if_true]
 refine wpAny_bind (wpAny_rule ?_)
 refine wpAny_bind (wpAny_field hz rfl (x:=.ref ox) rfl ?_)
 refine wpAny_bind (wpAny_setField_rec hz (by simp) λ m1 zm1 sb1=>?_)
 have zm1:IsZip m1 z ti ox .ellipsis:=zm1
 refine wpAny_bind ?_
 simp only [List.zipIdx_cons,List.zipIdx_nil,List.forIn_cons,List.forIn_nil]
 refine wpAny_bind (wpAny_bind (wpAny_onRaise ?_))
 show wpAny _ _ (Builtin.SmallTypes.nextOf (.ref j1) >>= _) _ _ _
 refine wpAny_bind (wpAny_nextOf_list_item (lstIt_at p1 λ o g=>sb1.extBut _ _ ap.j1_z g) (lst_at q1 λ o g=>sb1.extBut _ _ ap.t1_z g) e1 λ m2 pm2 sb2=>wpAny_pure ?_)
 have om2:IsPair m2 ox u v:=sb2.extBut _ _ ap.ox_j1 (sb1.extBut _ _ ap.ox_z ho)
 refine wpAny_bind (wpAny_seqItems om2 rfl ?_)
 refine wpAny_bind (wpAny_updateSeq_pair om2 λ m3 om3 sb3=>?_)
 have om3:IsPair m3 ox x v:=om3
 refine wpAny_bind (wpAny_letGo (wpAny_pure ?_))
 refine wpAny_bind (wpAny_bind (wpAny_onRaise ?_))
 show wpAny _ _ (Builtin.SmallTypes.nextOf (.ref j2) >>= _) _ _ _
 have to3:∀c o,c≠z->c≠ox->c≠j1->s0.heap.get? c=some o->m3.get? c=some o:=λ c o a1 a2 a3 g=>sb3.extBut _ _ a2 (sb2.extBut _ _ a3 (sb1.extBut _ _ a1 g))
 refine wpAny_bind (nx_tup_item (tupIt_at p2 λ o g=>to3 _ o ap.j2_z ap.ox_j2.symm ap.j12.symm g) (tup_at q2 λ o g=>to3 _ o ap.t2_z ap.t2_ox ap.t2_j1 g) e2 λ m4 pm4 sb4=>wpAny_pure ?_)
 have om4:IsPair m4 ox x v:=sb4.extBut _ _ ap.ox_j2 om3
 refine wpAny_bind (wpAny_seqItems om4 rfl ?_)
 refine wpAny_bind (wpAny_updateSeq_pair om4 λ m5 om5 sb5=>?_)
 have om5:IsPair m5 ox x y:=om5
 refine wpAny_bind (wpAny_letGo (wpAny_pure (wpAny_pure ?_)))
 refine wpAny_bind (wpAny_seqItems om5 rfl ?_)
 refine wpAny_bind (wpAny_newTuple ?_)
 have sz5:m5.objs.size=s0.heap.objs.size:=by rw [sb5.1,sb4.1,sb3.1,sb2.1,sb1.1]
 have zm5:IsZip m5 z ti ox .ellipsis:=sb5.extBut _ _ ap.ox_z.symm (sb4.extBut _ _ ap.j2_z.symm (sb3.extBut _ _ ap.ox_z.symm (sb2.extBut _ _ ap.j1_z.symm zm1)))
 have to5:But4 z ox j1 j2 s0.heap m5:=λ c o a1 a2 a3 a4 g=>sb5.extBut _ _ a2 (sb4.extBut _ _ a4 (to3 c o a1 a2 a3 g))
 have pj1:m5.IsListIter j1 t1 (k+1):=lstIt_at pm2 λ o g=>sb5.extBut _ _ ap.ox_j1.symm (sb4.extBut _ _ ap.j12 (sb3.extBut _ _ ap.ox_j1.symm g))
 have pj2:m5.IsTupleIter j2 t2 (k+1):=tupIt_at pm4 λ o g=>sb5.extBut _ _ ap.ox_j2.symm g
 have zlt:z < m5.objs.size:=Heap.lt_size zm5
 show wpAny _ _ (Builtin.SmallTypes.ownedTupleHandOut (.ref z) (.ref m5.objs.size) >>= _) _ _ _
 refine wpAny_bind ?_
 unfold Builtin.SmallTypes.ownedTupleHandOut
 have zm6:IsZip (m5.push { cls:=.type "tuple",data:=.seq #[x,y] }) z ti ox .ellipsis:=Heap.get?_push_of_some _ zm5
 refine wpAny_bind (wpAny_setField_rec zm6 (by simp) λ m7 zm7 sb7=>?_)
 have zm7:IsZip m7 z ti ox (rawInt m5.objs.size):=zm7
 refine wpAny_setField_rec zm7 (by simp) λ m8 zm8 sb8=>?_
 have zm8:IsZip m8 z ti ox (rawInt m5.objs.size):=zm8
 have to8:∀c o,c≠z->m5.get? c=some o->m8.get? c=some o:=λ c o a1 g=>sb8.extBut _ _ a1 (sb7.extBut _ _ a1 (Heap.get?_push_of_some _ g))
 have np8:IsPair m8 m5.objs.size x y:=sb8.extBut _ _ (Nat.ne_of_gt zlt) (sb7.extBut _ _ (Nat.ne_of_gt zlt) (Heap.get?_push_size _ rfl))
 rw [sz5] at zm8 np8
 refine wpAny_pure ⟨_,rfl,wpAny_pure ?_⟩
 show R (some (.ref m5.objs.size)) _
 rw [sz5]
 exact f m8 zm8 (to8 _ _ ap.ox_z om5) (lstIt_at pj1 λ o g=>to8 _ o ap.j1_z g) (tupIt_at pj2 λ o g=>to8 _ o ap.j2_z g) np8 λ c o a1 a2 a3 a4 g=>to8 c o a1 (to5 c o a1 a2 a3 a4 g)
theorem zipM_end {z ti ox j1 j2 t1 t2:Addr}{k:Nat}{as bs:Array Value}{u v:Value}{R:Option Value->Shared->Prop}(hh:B.handled=none) (ap:Apart5 z ti ox j1 j2 t1 t2) (hz:IsZip s0.heap z ti ox .none) (hi:IsPair s0.heap ti (.ref j1) (.ref j2)) (ho:IsPair s0.heap ox u v)
  (p1:s0.heap.IsListIter j1 t1 k) (p2:s0.heap.IsTupleIter j2 t2 k) (q1:s0.heap.IsList t1 as) (q2:s0.heap.IsTuple t2 bs) (hend:as[k]?=none\/bs[k]?=none)
  (f:∀h',But4 z ox j1 j2 s0.heap h'->R none { s0 with heap:=h' }):wpAny (model pg wd) B (pyNext (.ref z)) R X0 s0:=by
 have ty:s0.TypeIs (.ref z) "zip" := ⟨_,hz,rfl⟩
 have last:∀(h':Heap) (e:Addr),But4 z ox j1 j2 s0.heap h'->(∃o,h'.get? e=some o/\o.cls=.type "StopIteration")->wpAny (model pg wd) B (do if ← isInstance (.ref e) (.type "StopIteration") then pure none else throw (.ref e)) R X0 { s0 with heap:=h' }:=λ h' e bt ⟨o,g,c⟩ =>
  wpAny_bind (wpAny_isInstance (T := "StopIteration") (b:=true) ⟨o,g,c⟩ isSubtype_stop (wpAny_pure (f _ bt)))
 unfold pyNext
 refine wpAny_bind (wpAny_attempt (wpAny_callSpecial?_slot (name:=Str.ofString "__next__") ty F.slot_zip_next (wpAny_call_entry F.slot_zip_next ty F.entry_zip_next ?_ (F.args_zip_next_1 _))))
 show wpAny _ _ (field (.ref z) 2 >>= _) _ _ _
 refine wpAny_bind (wpAny_field hz rfl (x:=.bool false) rfl ?_)
 show wpAny _ _ (field (.ref z) 3 >>= _) _ _ _
 refine wpAny_bind (wpAny_field hz rfl (x:=.ref ti) rfl ?_)
 refine wpAny_bind (wpAny_seqItems hi rfl ?_)
 show wpAny _ _ (Builtin.SmallTypes.ownedTupleIsFree (.ref z) >>= _) _ _ _
 refine wpAny_bind ?_
 unfold Builtin.SmallTypes.ownedTupleIsFree
 refine wpAny_bind (wpAny_field hz rfl (x:=.none) rfl (wpAny_pure ?_))
 simp only [if_true]
 refine wpAny_bind (wpAny_rule ?_)
 refine wpAny_bind (wpAny_field hz rfl (x:=.ref ox) rfl ?_)
 refine wpAny_bind (wpAny_setField_rec hz (by simp) λ m1 zm1 sb1=>?_)
 have zm1:IsZip m1 z ti ox .ellipsis:=zm1
 refine wpAny_bind ?_
 simp only [List.zipIdx_cons,List.zipIdx_nil,List.forIn_cons,List.forIn_nil]
 refine wpAny_bind (wpAny_bind (wpAny_onRaise ?_))
 show wpAny _ _ (Builtin.SmallTypes.nextOf (.ref j1) >>= _) _ _ _
 cases e1:as[k]? with
 | none =>
  refine wpAny_bind (wpAny_nextOf_list_end hh (lstIt_at p1 λ o g=>sb1.extBut _ _ ap.j1_z g) (lst_at q1 λ o g=>sb1.extBut _ _ ap.t1_z g) e1 λ m2 e xb he=>?_)
  obtain ⟨oe,ge,ce⟩:=he
  have zm2:IsZip m2 z ti ox .ellipsis:=xb _ _ ap.j1_z.symm zm1
  have ez:e≠z:=λ q=>by subst q;rw [zm2] at ge;cases ge;simp at ce
  exact wpAny_setField_rec zm2 (by simp) λ m3 _ sb3=>last m3 e (λ c o a1 _ a3 _ g=>sb3.extBut _ _ a1 (xb _ _ a3 (sb1.extBut _ _ a1 g))) ⟨oe,sb3.extBut _ _ ez ge,ce⟩
 | some x =>
  have e2:bs[k]?=none:=by rcases hend with q | q;rw [e1] at q;cases q;exact q
  refine wpAny_bind (wpAny_nextOf_list_item (lstIt_at p1 λ o g=>sb1.extBut _ _ ap.j1_z g) (lst_at q1 λ o g=>sb1.extBut _ _ ap.t1_z g) e1 λ m2 pm2 sb2=>wpAny_pure ?_)
  have om2:IsPair m2 ox u v:=sb2.extBut _ _ ap.ox_j1 (sb1.extBut _ _ ap.ox_z ho)
  refine wpAny_bind (wpAny_seqItems om2 rfl ?_)
  refine wpAny_bind (wpAny_updateSeq_pair om2 λ m3 om3 sb3=>?_)
  refine wpAny_bind (wpAny_letGo (wpAny_pure ?_))
  refine wpAny_bind (wpAny_bind (wpAny_onRaise ?_))
  show wpAny _ _ (Builtin.SmallTypes.nextOf (.ref j2) >>= _) _ _ _
  have to3:∀c o,c≠z->c≠ox->c≠j1->s0.heap.get? c=some o->m3.get? c=some o:=λ c o a1 a2 a3 g=>sb3.extBut _ _ a2 (sb2.extBut _ _ a3 (sb1.extBut _ _ a1 g))
  refine wpAny_bind (nx_tup_end hh (tupIt_at p2 λ o g=>to3 _ o ap.j2_z ap.ox_j2.symm ap.j12.symm g) (tup_at q2 λ o g=>to3 _ o ap.t2_z ap.t2_ox ap.t2_j1 g) e2 λ m4 e xb he=>?_)
  obtain ⟨oe,ge,ce⟩:=he
  have zm4:IsZip m4 z ti ox .ellipsis:=xb _ _ ap.j2_z.symm (sb3.extBut _ _ ap.ox_z.symm (sb2.extBut _ _ ap.j1_z.symm zm1))
  have ez:e≠z:=λ q=>by subst q;rw [zm4] at ge;cases ge;simp at ce
  exact wpAny_setField_rec zm4 (by simp) λ m5 _ sb5=>last m5 e (λ c o a1 a2 a3 a4 g=>sb5.extBut _ _ a1 (xb _ _ a4 (to3 c o a1 a2 a3 g))) ⟨oe,sb5.extBut _ _ ez ge,ce⟩
end
def ItzM (K:W.Frag) (a b:Addr):It:=⟨λ i H=>∃xs ys x y,SqL K H a xs/\SqT K H b ys/\xs[i]?=some x/\ys[i]?=some y,
 λ i H v H'=>∃T x y,v=.ref T/\H T=none/\H'=upd H T (.tup [x,y])/\∀xs ys,SqL K H a xs->SqT K H b ys->xs[i]?=some x/\ys[i]?=some y,λ i H=>∃xs ys,SqL K H a xs/\SqT K H b ys/\(xs.length≤i\/ys.length≤i)⟩
theorem turn_zipM {P:Program}{w:World}{K:W.Frag}{es:List Expr}{x1:Nat}{pp:Pos}{a b z ti ox j1 j2:Addr}(ap:Apart5 z ti ox j1 j2 a b) :
  Turn P w K (.Tuple es x1 pp) (ItzM K a b) [z,ti,ox,j1,j2] z (λ i h=>IsZip h z ti ox .none/\IsPair h ti (.ref j1) (.ref j2)/\(∃u v,IsPair h ox u v)/\h.IsListIter j1 a i/\h.IsTupleIter j2 b i) where
 mem:=by simp
 obj:=λ i h q c hc=>by
  obtain ⟨q1,q2,⟨u,v,q3⟩,⟨o4,g4,_,d4⟩,⟨o5,g5,_,d5⟩⟩:=q
  simp only [List.mem_cons,List.not_mem_nil,or_false] at hc
  rcases hc with rfl | rfl | rfl | rfl | rfl
  ·exact ⟨_,q1,λ v z=>nomatch z⟩
  ·exact ⟨_,q2,λ v z=>nomatch z⟩
  ·exact ⟨_,q3,λ v z=>nomatch z⟩
  ·exact ⟨_,g4,λ v z=>by rw [d4] at z;cases z⟩
  ·exact ⟨_,g5,λ v z=>by rw [d5] at z;cases z⟩
 keep:=λ i h h' q k=>by
  obtain ⟨q1,q2,⟨u,v,q3⟩,q4,q5⟩:=q
  exact ⟨k _ (by simp) _ q1,k _ (by simp) _ q2,⟨u,v,k _ (by simp) _ q3⟩,lstIt_at q4 λ o g=>k _ (by simp) o g,tupIt_at q5 λ o g=>k _ (by simp) o g⟩
 item:=by
  intro X hP hw hK hc i pins s σ H E I hf st hg
  subst hP hw hK
  obtain ⟨xs,ys,x,y,hq1,hq2,hx,hy⟩:=hg
  obtain ⟨q1,q2,⟨u,v,q3⟩,q4,q5⟩:=st
  obtain ⟨as,ra,pa,za⟩:=I.list hq1
  obtain ⟨bs,rb,pb,zb⟩:=I.tuple hq2
  obtain ⟨ux,hux,rux⟩:=ra.get hx
  obtain ⟨uy,huy,ruy⟩:=rb.get hy
  refine zipM_item ap q1 q2 q3 q4 q5 pa.isList (show s.heap.IsTuple b bs.toArray from pb) (x:=ux) (y:=uy) (by simpa using hux) (by simpa using huy) λ h' zz oo p1' p2' np bt=>?_
  have I1:Inv X pins σ H { s with heap:=h' }:=I.turnedL (t':=s.toks) (fl:=[z,ti,ox,j1,j2]) (λ c o hc e=>by
   simp only [List.mem_cons,List.not_mem_nil,or_false,not_or] at hc
   exact bt c o hc.1 hc.2.2.1 hc.2.2.2.1 hc.2.2.2.2 e) hf
  obtain ⟨f0,f1,f2,f3,f4,f5⟩:=I.fpOk (Nat.le_refl s.heap.objs.size) (I.hok.fresh (Nat.le_refl _))
  have n0:X.s₀.heap.get? s.heap.objs.size=none:=by
   cases q:X.s₀.heap.get? s.heap.objs.size with
   | none=>rfl
   | some o=>exact absurd (Nat.lt_of_lt_of_le (Heap.lt_size q) I.sz) (Nat.lt_irrefl _)
  have I2:Inv X pins σ (upd H s.heap.objs.size (.tup [x,y])) { s with heap:=h' }:=I1.track f0 ⟨small (by simp),[ux,uy],.cons rux (.cons ruy .nil),⟨_,np,rfl,_,rfl⟩⟩ f1 f4 f5 n0
  have lt:∀ {c o},s.heap.get? c=some o->c≠s.heap.objs.size:=λ e=>Nat.ne_of_lt (Heap.lt_size e)
  have hzT:z≠s.heap.objs.size:=lt q1
  have ti2:IsPair h' ti (.ref j1) (.ref j2):=bt _ _ ap.ti_z ap.ti_ox ap.ti_j1 ap.ti_j2 q2
  obtain ⟨e0,e1,e2,e3,e4,e5⟩:=hf z (by simp)
  refine ⟨_,rfl,wpAny_letOwnedTupleGo_zip zz λ h2 z2 sb=>?_⟩
  have I3:Inv X pins σ (upd H s.heap.objs.size (.tup [x,y])) { s with heap:=h2 }:=Inv.turned (s:={ s with heap:=h' }) (h':=h2) (t':=s.toks) (it:=z) I2 (λ c o hc e=>sb.extBut _ _ hc e) (by rw [upd_ne hzT];exact e0) e1 e3 e4 e5
  refine ⟨.ref s.heap.objs.size,_,I3,rfl,⟨_,x,y,rfl,f0,rfl,λ xs' ys' k1 k2=>?_⟩,⟨z2,sb.extBut _ _ ap.ti_z ti2,⟨_,_,sb.extBut _ _ ap.ox_z oo⟩,lstIt_at p1' λ o g=>sb.extBut _ _ ap.j1_z g,tupIt_at p2' λ o g=>sb.extBut _ _ ap.j2_z g⟩,λ c hc=>?_⟩
  ·rw [I.list_inj k1 hq1,I.tuple_inj k2 hq2];exact ⟨hx,hy⟩
  ·have cT:c≠s.heap.objs.size:=by
    obtain ⟨o4,g4,_⟩:=q4
    obtain ⟨o5,g5,_⟩:=q5
    simp only [List.mem_cons,List.not_mem_nil,or_false] at hc
    rcases hc with rfl | rfl | rfl | rfl | rfl
    ·exact hzT
    ·exact lt q2
    ·exact lt q3
    ·exact lt g4
    ·exact lt g5
   rw [upd_ne cT];exact (hf c hc).1
 done:=by
  intro X hP hw hK hc i pins s σ H E I hf st hg
  subst hP hw hK
  obtain ⟨xs,ys,hq1,hq2,hx⟩:=hg
  obtain ⟨q1,q2,⟨u,v,q3⟩,q4,q5⟩:=st
  obtain ⟨as,ra,pa,za⟩:=I.list hq1
  obtain ⟨bs,rb,pb,zb⟩:=I.tuple hq2
  have la:=ra.length
  have lb:=rb.length
  refine zipM_end (I.ok.hd hc) ap q1 q2 q3 q4 q5 pa.isList (show s.heap.IsTuple b bs.toArray from pb) (by rcases hx with q | q;exact .inl (by simp;omega);exact .inr (by simp;omega)) λ h' bt=>⟨rfl,?_⟩
  exact I.turnedL (t':=s.toks) (fl:=[z,ti,ox,j1,j2]) (λ c o hc e=>by
   simp only [List.mem_cons,List.not_mem_nil,or_false,not_or] at hc
   exact bt c o hc.1 hc.2.2.1 hc.2.2.2.1 hc.2.2.2.2 e) hf
 self:=λ _ _ _ _ _ st h=>wpAny_pyIter_zip st.1 h
abbrev zq1 (h:Heap) (a:Addr):Heap:=h.push { cls:=.type "list_iterator",data:=.fields #[.ref a,.int 0 0] }
abbrev zq2 (h:Heap) (a b:Addr):Heap:=(zq1 h a).push { cls:=.type "tuple_iterator",data:=.fields #[.ref b,.int 0 0] }
abbrev zq3 (h:Heap) (a b:Addr):Heap:=(zq2 h a b).push { cls:=.type "tuple",data:=.seq #[.ref h.objs.size,.ref (zq1 h a).objs.size] }
abbrev zq4 (h:Heap) (a b:Addr):Heap:=(zq3 h a b).push { cls:=.type "tuple",data:=.seq #[.none,.none] }
abbrev zq5 (h:Heap) (a b:Addr):Heap:=(zq4 h a b).push { cls:=.type "zip",data:=.fields #[.none,.bool false,.bool false,.ref (zq2 h a b).objs.size,.ref (zq3 h a b).objs.size] }
theorem zipM_new (a b:Addr) (as bs:Array Value):Meets (Builtin.«zip.__new__» ⟨[.type "zip",.ref a,.ref b],[]⟩) (λ _ R s=>s.heap.IsList a as/\s.heap.IsTuple b bs/\R (.ok (.ret (.ref (zq4 s.heap a b).objs.size))) { s with heap:=zq5 s.heap a b }) :=
 .of_wp λ prog w A R s h=>by
  obtain ⟨hp,g,d,tk,os⟩:=s
  obtain ⟨ha,hb,h⟩:=h
  have q0:=sub_zip
  have q1:Heap.IsList (Shared.heap ⟨hp,g,d,tk,os⟩) a as:=ha
  have q2:Heap.IsTuple (Shared.heap ⟨hp.push { cls:=.type "list_iterator",data:=.fields #[.ref a,.int 0 0] },g,d,tk,os⟩) b bs:=tup_at hb λ o e=>Heap.get?_push_of_some _ e
  wp_walk using wpAny_pyIter_list q1,wpAny_pyIter_tuple q2
  exact ⟨_,rfl,h⟩
theorem zipM_call {pg:Program}{wd:World}{B:Around}{X0:Value->Shared->Prop}{s0:Shared}{a b:Addr}{as bs:Array Value}{R:Value->Shared->Prop}(ha:s0.heap.IsList a as) (hb:s0.heap.IsTuple b bs)
  (f:∀h',IsZip h' (s0.heap.objs.size+4) (s0.heap.objs.size+2) (s0.heap.objs.size+3) .none->IsPair h' (s0.heap.objs.size+2) (.ref s0.heap.objs.size) (.ref (s0.heap.objs.size+1))->IsPair h' (s0.heap.objs.size+3) .none .none ->
   h'.IsListIter s0.heap.objs.size a 0->h'.IsTupleIter (s0.heap.objs.size+1) b 0->(∀c o,s0.heap.get? c=some o->h'.get? c=some o)->R (.ref (s0.heap.objs.size+4)) { s0 with heap:=h' }) :
  wpAny (model pg wd) B (call (.type "zip") [.ref a,.ref b]) R X0 s0:=by
 refine callType_new F.called_zip (by decide) (F.typeCall_zip_2 _ _) (F.newCall_zip_2 _ _) (λ ob=>F.args_object_init_3 ob _ _) F.entry_zip_new (zipM_new a b as bs) ⟨ha,hb,?_⟩
 have n1:(zq1 s0.heap a).objs.size=s0.heap.objs.size+1:=Heap.size_push ..
 have n2:(zq2 s0.heap a b).objs.size=s0.heap.objs.size+2:=by rw [Heap.size_push,n1]
 have n3:(zq3 s0.heap a b).objs.size=s0.heap.objs.size+3:=by rw [Heap.size_push,n2]
 have n4:(zq4 s0.heap a b).objs.size=s0.heap.objs.size+4:=by rw [Heap.size_push,n3]
 have g5:(zq5 s0.heap a b).get? (zq4 s0.heap a b).objs.size=some _:=Heap.get?_push_size _ rfl
 have g4:(zq5 s0.heap a b).get? (zq3 s0.heap a b).objs.size=some _:=Heap.get?_push_of_some _ (Heap.get?_push_size _ rfl)
 have g3:(zq5 s0.heap a b).get? (zq2 s0.heap a b).objs.size=some _:=Heap.get?_push_of_some _ (Heap.get?_push_of_some _ (Heap.get?_push_size _ rfl))
 have g2:(zq5 s0.heap a b).get? (zq1 s0.heap a).objs.size=some _:=Heap.get?_push_of_some _ (Heap.get?_push_of_some _ (Heap.get?_push_of_some _ (Heap.get?_push_size _ rfl)))
 have g1:(zq5 s0.heap a b).get? s0.heap.objs.size=some _:=Heap.get?_push_of_some _ (Heap.get?_push_of_some _ (Heap.get?_push_of_some _ (Heap.get?_push_of_some _ (Heap.get?_push_size _ rfl))))
 show _/\_
 rw [n2,n3,n4] at g5
 rw [n1,n2] at g3
 rw [n3] at g4
 rw [n1] at g2
 rw [n4]
 exact ⟨⟨_,g5,rfl⟩,f _ g5 g3 g4 ⟨_,g1,rfl,rfl⟩ ⟨_,g2,rfl,rfl⟩ λ c o q=>Heap.get?_push_of_some _ (Heap.get?_push_of_some _ (Heap.get?_push_of_some _ (Heap.get?_push_of_some _ (Heap.get?_push_of_some _ q))))⟩
section
variable {X:Cx}{es:List Expr}{x1:Nat}{pp:Pos}
def iZipM (K:W.Frag) (ta:TA):TI:=λ σ H R=>ta σ H λ vs H1=>∃a b xs ys,vs=[.ref a,.ref b]/\SqL K H1 a xs/\SqT K H1 b ys/\R (ItzM K a b) H1
theorem pi_zipM {e1 e2:Expr}{ta:TA}{p pos:Pos}(hg:Gl X "zip") (hm:X.mg "zip" = none) (ha:PA X [e1,e2] ta) (hs:starEach [e1,e2] X.env=[(false,eval e1 X.env),(false,eval e2 X.env)]:=by rfl) (hs2:starEach [e2] X.env=[(false,eval e2 X.env)]:=by rfl) :
  PI X (.Tuple es x1 pp) (.Call (.Name "zip" p) [e1,e2] [] pos) (iZipM X.K ta):=by
 intro pins s σ H R I h
 have hA:=ha pos pins s σ H _ I h
 refine Call_ (ld_blt I hg hm boot_zip (PyProof.Rows.callWith_type1 (thn hA λ us s1 ⟨vs,H1,I1,r1,q1⟩=>?_) (by rw [hs,hs2]) (by rw [hs2];rfl)))
 obtain ⟨a,b,xs,ys,rfl,ha,hb,q⟩:=q1
 obtain ⟨u,u',rfl,ra,rb⟩:=vals2 r1
 cases (show u=Value.ref a from ra)
 cases (show u'=Value.ref b from rb)
 obtain ⟨as,va,pa,za⟩:=I1.list ha
 obtain ⟨bs,vb,pb,zb⟩:=I1.tuple hb
 have al:a < s1.heap.objs.size:=by obtain ⟨o,g,_⟩:=pa.isList;exact Heap.lt_size g
 have bl:b < s1.heap.objs.size:=by obtain ⟨o,g,_⟩:=pb;exact Heap.lt_size g
 refine zipM_call pa.isList (show s1.heap.IsTuple b bs.toArray from pb) λ h' w1 w2 w3 w4 w5 kk=>?_
 have I2:Inv X pins σ H1 { s1 with heap:=h' }:=I1.kept (t':=s1.toks) kk
 have ap:=apart_of s1.heap.objs.size a b al bl
 refine wpAny_pyIter_zip w1 ⟨s1.heap.objs.size+4,[s1.heap.objs.size+4,s1.heap.objs.size+2,s1.heap.objs.size+3,s1.heap.objs.size,s1.heap.objs.size+1],_,_,H1,rfl,I2,turn_zipM ap,⟨w1,w2,⟨_,_,w3⟩,w4,w5⟩,λ c hc=>?_,q⟩
 have ge:s1.heap.objs.size≤c:=by
  simp only [List.mem_cons,List.not_mem_nil,or_false] at hc
  rcases hc with rfl | rfl | rfl | rfl | rfl<;>omega
 exact I1.fpOk ge (I1.hok.fresh ge)
end
def LoopZM (K:PySem.W.Frag) (g:TG) (tb:TS) (D:Ends) (σ:St) (vs:List V) (H1:Hp):Prop:=∃a b xs ys,vs=[.ref a,.ref b]/\SqL K H1 a xs/\SqT K H1 b ys/\∃W:Nat->Nat->St->Hp->Prop,(∃m,W 0 m σ H1)/\∀i m σ H,W i m σ H ->
 ((ItzM K a b).stop i H/\D.nx σ H)\/((ItzM K a b).go i H/\∃N:St->Hp->Prop,(∀σ' H',N σ' H'->∃m',m' < m/\W (i+1) m' σ' H')/\∀x H',(ItzM K a b).yld i H x H'->g x σ H' λ σ2 H2=>tb { D with nx:=N,ct:=N,bk:=D.nx } σ2 H2)
theorem for_eqZM {K:W.Frag}{ta:TA}{g:TG}{tb:TS}{D:Ends}{σ:St}{H:Hp}:tFor (iZipM K ta) g tb D σ H=ta σ H λ vs H1=>LoopZM K g tb D σ vs H1:=rfl
theorem LoopZM.mk {K:W.Frag}{a b:Addr}{xs ys:List V}{g:TG}{tb:TS}{D:Ends}{σ:St}{H:Hp}(n:Nat) (hn:n=min xs.length ys.length) (h1:SqL K H a xs) (h2:SqT K H b ys) (Pv:Nat->St->Hp->Prop) (h0:Pv 0 σ H) (hl:∀i σ H,i≤n->Pv i σ H->SqL K H a xs/\SqT K H b ys)
  (hs:∀i x y σ H T,i < n->xs[i]?=some x->ys[i]?=some y->Pv i σ H->H T=none->g (.ref T) σ (upd H T (.tup [x,y])) λ σ2 H2=>tb { D with nx:=Pv (i+1),ct:=Pv (i+1),bk:=D.nx } σ2 H2) (hd:∀σ H,Pv n σ H->D.nx σ H) :
  LoopZM K g tb D σ [.ref a,.ref b] H:=by
 subst hn
 refine ⟨a,b,xs,ys,rfl,h1,h2,λ i m σ H=>m=min xs.length ys.length - i/\i≤min xs.length ys.length/\Pv i σ H,⟨_,rfl,Nat.zero_le _,h0⟩,?_⟩
 rintro i m σ H ⟨rfl,hi,p⟩
 obtain ⟨k1,k2⟩:=hl i σ H hi p
 by_cases hlt:i < min xs.length ys.length
 ·have l1:i < xs.length:=by omega
  have l2:i < ys.length:=by omega
  refine .inr ⟨⟨xs,ys,_,_,k1,k2,List.getElem?_eq_getElem l1,List.getElem?_eq_getElem l2⟩,Pv (i+1),λ σ' H' p'=>⟨min xs.length ys.length - (i+1),by omega,rfl,hlt,p'⟩,λ v H' yy=>?_⟩
  obtain ⟨T,x,y,rfl,hT,rfl,ex⟩:=yy
  obtain ⟨ex1,ex2⟩:=ex xs ys k1 k2
  exact hs i x y σ H T hlt ex1 ex2 p hT
 ·have e:i=min xs.length ys.length:=by omega
  exact .inl ⟨⟨xs,ys,k1,k2,by omega⟩,hd σ H (e ▸ p)⟩
def CompZM (K:PySem.W.Frag) (k:Nat) (js:List Nat) (g:TG) (te:TE) (σ:St) (vs:List V) (H1:Hp) (Q:VK):Prop:=∃a b xs ys,vs=[.ref a,.ref b]/\SqL K H1 a xs/\SqT K H1 b ys/\∃W:Nat->Nat->List V->St->Hp->Prop,(∃m,W 0 m [] (compSt k js σ) H1)/\∀i m zs σ' H',W i m zs σ' H' ->
  ((ItzM K a b).stop i H'/\∀p,H' p=none->Q (.ref p) (upd H' p (.lst zs))) \/
  ((ItzM K a b).go i H'/\zs.length < sizeLine/\∃N:List V->St->Hp->Prop,(∀zs σ2 H2,N zs σ2 H2->∃m',m' < m/\W (i+1) m' zs σ2 H2)/\∀x H2,(ItzM K a b).yld i H' x H2->g x σ' H2 λ σ3 H3=>te σ3 H3 λ v H4=>N (zs++[v]) σ3 H4)
theorem comp_eqZM {K:W.Frag}{k:Nat}{js:List Nat}{ta:TA}{g:TG}{te:TE}{σ:St}{H:Hp}{Q:VK}:tComp (iZipM K ta) k js g te σ H Q=ta σ H λ vs H1=>CompZM K k js g te σ vs H1 Q:=rfl
theorem CompZM.mk {K:W.Frag}{a b:Addr}{xs ys:List V}{k:Nat}{js:List Nat}{g:TG}{te:TE}{Q:VK}{σ:St}{H:Hp}(n:Nat) (hn:n=min xs.length ys.length) (h1:SqL K H a xs) (h2:SqT K H b ys) (Pv:Nat->List V->St->Hp->Prop) (h0:Pv 0 [] (compSt k js σ) H) (hl:∀i zs σ H,i≤n->Pv i zs σ H->SqL K H a xs/\SqT K H b ys)
  (hs:∀i x y zs σ H T,i < n->xs[i]?=some x->ys[i]?=some y->Pv i zs σ H->H T=none->zs.length < sizeLine/\g (.ref T) σ (upd H T (.tup [x,y])) λ σ3 H3=>te σ3 H3 λ v H4=>Pv (i+1) (zs++[v]) σ3 H4) (hz:∀zs σ H,Pv n zs σ H->∀p,H p=none->Q (.ref p) (upd H p (.lst zs))) (hlen:∀i zs σ H,Pv i zs σ H->zs.length < sizeLine) :
  CompZM K k js g te σ [.ref a,.ref b] H Q:=by
 subst hn
 refine ⟨a,b,xs,ys,rfl,h1,h2,λ i m zs σ H=>m=min xs.length ys.length - i/\i≤min xs.length ys.length/\Pv i zs σ H,⟨_,rfl,Nat.zero_le _,h0⟩,?_⟩
 rintro i m zs σ H ⟨rfl,hi,p⟩
 obtain ⟨k1,k2⟩:=hl i zs σ H hi p
 by_cases hlt:i < min xs.length ys.length
 ·have l1:i < xs.length:=by omega
  have l2:i < ys.length:=by omega
  refine .inr ⟨⟨xs,ys,_,_,k1,k2,List.getElem?_eq_getElem l1,List.getElem?_eq_getElem l2⟩,hlen _ _ _ _ p,Pv (i+1),λ zs' σ' H' p'=>⟨min xs.length ys.length - (i+1),by omega,rfl,hlt,p'⟩,λ v H' yy=>?_⟩
  obtain ⟨T,x,y,rfl,hT,rfl,ex⟩:=yy
  obtain ⟨ex1,ex2⟩:=ex xs ys k1 k2
  exact (hs i x y zs σ H T hlt ex1 ex2 p hT).2
 ·have e:i=min xs.length ys.length:=by omega
  exact .inl ⟨⟨xs,ys,k1,k2,by omega⟩,hz zs σ H (e ▸ p)⟩
def CompTI (K:PySem.W.Frag) (k:Nat) (js:List Nat) (g:TG) (tc:TT) (te:TE) (σ:St) (v:V) (H1:Hp) (Q:VK):Prop:=∃a,v=.ref a/\(∃xs,SqT K H1 a xs)/\∃W:Nat->Nat->List V->St->Hp->Prop,(∃m,W 0 m [] (compSt k js σ) H1)/\∀i m zs σ' H',W i m zs σ' H' ->
  ((Itt K a).stop i H'/\∀p,H' p=none->Q (.ref p) (upd H' p (.lst zs))) \/
  ((Itt K a).go i H'/\zs.length < sizeLine/\∃N:List V->St->Hp->Prop,(∀zs σ2 H2,N zs σ2 H2->∃m',m' < m/\W (i+1) m' zs σ2 H2)/\∀x H2,(Itt K a).yld i H' x H2->g x σ' H2 λ σ3 H3=>tc σ3 H3 λ b H4=>if b=true then te σ3 H4 λ v H5=>N (zs++[v]) σ3 H5 else N zs σ3 H4)
theorem comp_eqTI {K:W.Frag}{k:Nat}{js:List Nat}{tx:TE}{g:TG}{tc:TT}{te:TE}{σ:St}{H:Hp}{Q:VK}:tCompI (iTup K tx) k js g tc te σ H Q=tx σ H λ v H1=>CompTI K k js g tc te σ v H1 Q:=rfl
theorem CompTI.mk {K:W.Frag}{a:Addr}{xs:List V}{k:Nat}{js:List Nat}{g:TG}{tc:TT}{te:TE}{Q:VK}{σ:St}{H:Hp}(h1:SqT K H a xs) (Pv:Nat->List V->St->Hp->Prop) (h0:Pv 0 [] (compSt k js σ) H) (hl:∀i zs σ H,i≤xs.length->Pv i zs σ H->SqT K H a xs/\zs.length < sizeLine)
  (hs:∀i x zs σ H,xs[i]?=some x->Pv i zs σ H->g x σ H λ σ3 H3=>tc σ3 H3 λ b H4=>if b=true then te σ3 H4 λ v H5=>Pv (i+1) (zs++[v]) σ3 H5 else Pv (i+1) zs σ3 H4) (hz:∀zs σ H,Pv xs.length zs σ H->∀p,H p=none->Q (.ref p) (upd H p (.lst zs))) :
  CompTI K k js g tc te σ (.ref a) H Q:=by
 refine ⟨a,rfl,⟨xs,h1⟩,λ i m zs σ H=>m=xs.length - i/\i≤xs.length/\Pv i zs σ H,⟨_,rfl,Nat.zero_le _,h0⟩,?_⟩
 rintro i m zs σ H ⟨rfl,hi,p⟩
 obtain ⟨k1,k2⟩:=hl i zs σ H hi p
 by_cases hlt:i < xs.length
 ·refine .inr ⟨⟨xs,_,k1,List.getElem?_eq_getElem hlt⟩,k2,Pv (i+1),λ zs' σ' H' p'=>⟨xs.length - (i+1),by omega,rfl,hlt,p'⟩,λ v H' yy=>?_⟩
  obtain ⟨rfl,ex⟩:=yy
  exact hs i v zs σ _ (ex xs k1) p
 ·have e:i=xs.length:=by omega
  exact .inl ⟨⟨xs,k1,by omega⟩,hz zs σ H (e ▸ p)⟩
section
variable {X:Cx}
def rJoinD (K:W.Frag):V->List V->Hp->VK->Prop:=λ x xs H Q=>∃(z:Str) (l:Addr) (ys:List Str),x=.str z/\z.length=0/\xs=[.ref l]/\SqL K H l (ys.map V.str)/\ys.length≤100/\(∀y∈ys,okS 10 y)/\(okS 1000 (Builtin.Str.glued z ys)->Q (.str (Builtin.Str.glued z ys)) H)
end
theorem cap3 {X:Cx}{scope:Scope}{cl:List (Str × Addr)}{x0 x1 x2:Str}{j0 j1 j2:Nat}(c0:Cap X scope cl x0 j0) (c1:Cap X scope cl x1 j1) (c2:Cap X scope cl x2 j2):∀(i:Nat) x j,[x0,x1,x2][i]?=some x->[j0,j1,j2][i]?=some j->Cap X scope cl x j
 | 0,_,_,h1,h2=>by cases h1;cases h2;exact c0
 | 1,_,_,h1,h2=>by cases h1;cases h2;exact c1
 | 2,_,_,h1,h2=>by cases h1;cases h2;exact c2
 | _+3,_,_,h1,_=>by cases h1
theorem cl_sub3 {cells:List (Str × Addr)}{y z u:Str}{a b d:Addr}(h:cells.lookup y=some a) (h2:cells.lookup z=some b) (h3:cells.lookup u=some d):∀x c,[(y,a),(z,b),(u,d)].lookup x=some c->cells.lookup x=some c:=λ x c e=>by
 rcases List.mem_cons.mp (PySem.mem_of_lookup e) with q | q
 ·cases q;exact h
 ·rcases List.mem_cons.mp q with q | q
  ·cases q;exact h2
  ·cases List.mem_singleton.mp q;exact h3
structure FunD (K:W.Frag) (x qual:Str) (st:Stmt) (dV:Addr) (its:Array Value) (f:Addr) (fd:FuncData):Prop where
 ex:∃(oc:Value) (od:Option Addr) (kV doc pm:Value) (an:Option Addr) (cdv ct:Value) (osl:Array (Option Value)),
  fd=W.fnOf x qual (defArgs st) (defBody st) (defScope st) (.ref dV) kV doc pm an cdv ct/\K.lookup f=some ⟨oc,od,.func fd,osl⟩/\W.codeIn K cdv qual=true
 kp:W.keepIn K (.ref f)=true
 dt:∃(o:Obj) (n:Nat),K.lookup dV=some o/\o.data=.seq its n
section
variable {P:Program}{w:World}{K:W.Frag}{mg:Str->Option Value}{base:Heap}
theorem FunD.ok {x qual:Str}{st:Stmt}{dV:Addr}{its:Array Value}{f:Addr}{fd:FuncData}{N ps:List Str}{k:Nat}{sp:Sp}(F:FunD K x qual st dV its f fd) (S:FnScope N ps (defScope st)) (len:∀vs H Q E,sp vs H Q E->vs.length=ps.length)
  (hbody:∀(cdv:Value) (A:Around) (outer:List Env) (s:Shared) (H:Hp) (vs:List V) (Q:VK) (E:XK),Room k (A.deeper (envOfC qual (defScope st) s.heap.objs.size f cdv))->sp vs H Q E ->
   ∃t,PSs (cxOf CX0 P w K mg base N qual (defScope st) f cdv A outer s H E).nox (defBody st) t/\t { nx:=λ _ H'=>Q .non H',rt:=Q } (start N vs) H):FnOk P w K mg base CX0 (k+1) f fd ps sp:=by
 obtain ⟨oc,od,kV,doc,pm,an,cdv,ct,osl,rfl,lk,hcd⟩:=F.ex
 refine fn_of lk hcd S len λ A outer s H vs Q E hr hsp=>?_
 obtain ⟨t,h,q⟩:=hbody cdv A outer s H vs Q E hr hsp
 exact ⟨t,h.nox,q⟩
theorem FunD.binds {x qual:Str}{st:Stmt}{dV:Addr}{its:Array Value}{f:Addr}{fd:FuncData}{ps:List Str}{ds:List Value}(F:FunD K x qual st dV its f fd)
  (h:∀(kV doc pm:Value) (an:Option Addr) (cdv ct:Value) (us:List Value),(us++ds).length=ps.length->∃k,bindArgs (W.fnOf x qual (defArgs st) (defBody st) (defScope st) (.ref dV) kV doc pm an cdv ct) ⟨us,[]⟩=seqItems? (.ref dV) >>= k/\k (some its)=pure (ps.zip (us++ds))):Binds K fd ps ds:=by
 obtain ⟨oc,od,kV,doc,pm,an,cdv,ct,osl,rfl,lk,hcd⟩:=F.ex
 obtain ⟨o,n,ho,hs⟩:=F.dt
 intro s us KI hl
 obtain ⟨k,h1,h2⟩:=h kV doc pm an cdv ct us hl
 exact .of_defaults (T:=dV) rfl (KI dV o ho) hs h1 h2
end
structure CalleeD (P:Program) (w:World) (K:W.Frag) (mg:Str->Option Value) (base:Heap) (CX:CXT) (k:Nat) (x:Str) (ps:List Str) (dvs:List V) (sp:Sp):Prop where
 has:∃(f:Addr) (fd:FuncData) (ds:List Value),FnOk P w K mg base CX k f fd ps sp/\mg x=some (.ref f)/\W.keepIn K (.ref f)=true/\Binds K fd ps ds/\Vals dvs ds
theorem CalleeD.mono {P:Program}{w:World}{K:W.Frag}{mg:Str->Option Value}{base:Heap}{CX:CXT}{j k:Nat}{x:Str}{ps:List Str}{dvs:List V}{sp:Sp}(c:CalleeD P w K mg base CX j x ps dvs sp) (h:j≤k):CalleeD P w K mg base CX k x ps dvs sp :=
 let ⟨f,fd,ds,ok,m,kp,b,v⟩:=c.has;⟨⟨f,fd,ds,ok.mono h,m,kp,b,v⟩⟩
section
variable {X:Cx}{CX:CXT}{k:Nat}{ps:List Str}{dvs:List V}{sp:Sp}{E:XK}{x:Str}{p pos:Pos}{e:Expr}{es:List Expr}{t:TA}
end
def totS (z:Str) (ys:List Str):Nat:=ys.foldl (λ (n:Nat) (y:Str)=>n+y.length+z.length) 0
section
variable {X:Cx}
def rJoinW (K:W.Frag):V->List V->Hp->VK->Prop:=λ x xs H Q=>∃(z:Str) (l:Addr) (ys:List Str),x=.str z/\xs=[.ref l]/\SqL K H l (ys.map V.str)/\totS z ys≤1000000/\Q (.str (Builtin.Str.glued z ys)) H
def rMulS:R2:=λ x y H Q=>∃a n,x=.str a/\y=.int n/\0≤n/\n≤100/\a.length≤10/\∀z:Str,z.length=a.length * n.toNat->Q (.str z) H
def rIxQ:R2:=λ x y H Q=>∃p xs i v,x=.ref p/\y=.int i/\(H p=some (.lst xs)\/H p=some (.tup xs))/\atI xs i=some v/\Q v H
end
section
open PySem.Builtin PySem.Builtin.Str
def splitL (c:Nat):List Nat->List (List Nat)
 | []=>[[]]
 | d::r=>if d=c then []::splitL c r else match splitL c r with
  | []=>[[d]]
  | p::ps=>(d::p)::ps
def strL (L:List Nat):Str:=⟨L.toArray⟩
section
variable {X:Cx}
def rSplit:V->List V->Hp->VK->Prop:=λ x ys H Q=>∃(t:Str) (c:Nat),x=.str t/\ys=[.str ⟨#[c]⟩]/\c < 256/\t.length≤1000000/\∀l,H l=none->Q (.ref l) (upd H l (.lst ((splitL c t.cps.toList).map λ w=>V.str (strL w))))
end
end
theorem hu1 {k:Nat}{A:Around}(r:Room k A):A.units+1 < cLine:=by have:=r.un;omega
section
variable {X:Cx}
def rInN:R2:=λ x y H Q=>∃p xs,x=.non/\y=.ref p/\H p=some (.lst xs)/\(∀z∈xs,flatV z=true\/∃a ys,z=.ref a/\H a=some (.tup ys))/\Q (.bl (xs.any λ z=>eqV z .non)) H
end
section
variable {pg:Program}{wd:World}{B:Around}{X0:Value->Shared->Prop}{s0:Shared}{J d:Addr}{m:Nat}{Pr:Nat->Value->Prop}{OK:Heap->Prop}
end
section
variable {X:Cx}
def rMulC:R2:=λ x y H Q=>∃a n,x=.str (strL a)/\y=.int n/\0≤n/\n≤100/\a.length≤10/\Q (.str (strL (List.replicate n.toNat a).flatten)) H
end
section
variable {pg:Program}{wd:World}{B:Around}{X0:Value->Shared->Prop}{z0:Shared}
end
section
variable {X:Cx}
def rExtendT:V->List V->Hp->VK->Prop:=λ x vs H Q=>∃l b xs zs,x=.ref l/\vs=[.ref b]/\H l=some (.lst xs)/\H b=some (.tup zs)/\xs.length+zs.length≤sizeLine/\Q .non (upd H l (.lst (xs++zs)))
def rUpdate:V->List V->Hp->VK->Prop:=λ x ys H Q=>∃a b kvs more,x=.ref a/\ys=[.ref b]/\a≠b/\H a=some (.dK kvs)/\H b=some (.dK more)/\kvs.length+more.length≤sizeLine/\Q .non (upd H a (.dK (mergeK kvs more)))
theorem call_isiLL:CallR X (.builtin "isinstance") (λ xs H Q=>∃a ys,xs=[.ref a,.ty "list"]/\H a=some (.lst ys)/\Q (.bl true) H):=by
 intro pins s σ H xs us Q I r h
 obtain ⟨a,ys,rfl,ha,q⟩:=h
 exact call_isi pins s σ H _ us Q I r ⟨.ref a, "list",.type "list",true,rfl,.lst ha,kit_type (by decide +kernel),q⟩
theorem pa_tup {es r:List Expr}{k:Nat}{pos:Pos}{te:TE}{t:TA}(h:PE X (.Tuple es k pos) te) (hr:PA X r t):PA X (.Tuple es k pos::r) (tCons te t):=pa_cons h hr rfl
end
def AlkV (H:Hp):Nat->V->V->Prop
 | 0,x,y=>flatV x=true/\x=y
 | d+1,x,y=>(flatV x=true/\x=y)\/∃(a b:Addr) (xs ys:List V),x=.ref a/\y=.ref b/\((H a=some (.lst xs)/\H b=some (.lst ys))\/(H a=some (.tup xs)/\H b=some (.tup ys)))/\xs.length=ys.length/\∀(i:Nat) z w,xs[i]?=some z->ys[i]?=some w->AlkV H d z w
theorem AlkV.same {H H':Hp}(s:Same H H'):∀ {d:Nat}{x y:V},AlkV H d x y->AlkV H' d x y
 | 0,_,_,h=>h
 | d+1,_,_,.inl h=>.inl h
 | d+1,_,_,.inr ⟨a,b,xs,ys,e1,e2,h,hl,q⟩=>.inr ⟨a,b,xs,ys,e1,e2,h.imp (λ z=>⟨s _ _ z.1,s _ _ z.2⟩) (λ z=>⟨s _ _ z.1,s _ _ z.2⟩),hl,λ i z w e1 e2=>(q i z w e1 e2).same s⟩
theorem AlkV.flat {H:Hp}{d:Nat}{x:V}(h:flatV x=true):AlkV H d x x:=by
 cases d with
 | zero=>exact ⟨h,rfl⟩
 | succ d=>exact .inl ⟨h,rfl⟩
theorem AlkV.lst {H:Hp}{d:Nat}{a b:Addr}{xs:List V}(h1:H a=some (.lst xs)) (h2:H b=some (.lst xs)) (f:xs.all flatV=true):AlkV H (d+1) (.ref a) (.ref b) :=
 .inr ⟨a,b,xs,xs,rfl,rfl,.inl ⟨h1,h2⟩,rfl,λ i z w e1 e2=>by
  rw [e1] at e2;cases e2
  exact .flat (List.all_eq_true.mp f _ (List.mem_of_getElem? e1))⟩
theorem AlkV.tup {H:Hp}{d:Nat}{a b:Addr}{xs:List V}(h1:H a=some (.tup xs)) (h2:H b=some (.tup xs)) (f:xs.all flatV=true):AlkV H (d+1) (.ref a) (.ref b) :=
 .inr ⟨a,b,xs,xs,rfl,rfl,.inr ⟨h1,h2⟩,rfl,λ i z w e1 e2=>by
  rw [e1] at e2;cases e2
  exact .flat (List.all_eq_true.mp f _ (List.mem_of_getElem? e1))⟩
theorem eqV_self {x:V}(h:flatV x=true):eqV x x=true:=by
 cases x<;>simp_all [eqV,flatV]
theorem vals_at {xs:List V}{us:List Value}(r:Vals xs us) {j:Nat}(h:j < us.toArray.size):∃z,xs[j]?=some z/\RelV z us.toArray[j]:=by
 have l:=r.length
 have k:j < xs.length:=by rw [l];simpa using h
 obtain ⟨u,hu,ru⟩:=r.get (List.getElem?_eq_getElem k)
 have e:us.toArray[j]=u:=by
  have z:us[j]?=some (us[j]'(by simpa using h)):=List.getElem?_eq_getElem _
  rw [z] at hu
  simpa using hu
 exact ⟨_,List.getElem?_eq_getElem k,by rw [e];exact ru⟩
theorem all_true {n:Nat}:(List.range n).all (λ _=>true)=true:=by simp
section
variable {X:Cx}{pins:List (Addr × Obj)}{σ:St}{H:Hp}{s:Shared}
theorem eqAt_alk (I:Inv X pins σ H s):∀(d:Nat) (A:Around) (x y:V) (v u:Value),A.units+d < cLine->AlkV H d x y->RelV x v->RelV y u->SeqAt.EqAt A s v u true:=by
  intro d
  induction d with
  | zero =>
    intro A x y v u hu h rx ry
    obtain ⟨f,rfl⟩:=h
    have z:=eqAt_V (A:=A) (s:=s) rx ry f f
    rwa [eqV_self f] at z
  | succ d ih =>
    intro A x y v u hu h rx ry
    rcases h with ⟨f,rfl⟩ | ⟨a,b,xs,ys,rfl,rfl,h,hl,q⟩
    · have z:=eqAt_V (A:=A) (s:=s) rx ry f f
      rwa [eqV_self f] at z
    · cases rx
      cases ry
      by_cases ab:a=b
      · subst ab;exact SeqAt.EqAt.same _
      · refine SeqAt.EqAt.of_refs ab ?_
        rcases h with ⟨h1,h2⟩ | ⟨h1,h2⟩
        · obtain ⟨us,r1,p1,_⟩:=I.list (.of h1)
          obtain ⟨ws,r2,p2,_⟩:=I.list (.of h2)
          have z:=SeqAt.RcAt.lists (A:=A) p1.isList p2.isList (e:=λ _=>true) (by simp [← r1.length,← r2.length,hl]) (by omega) (λ j k1 k2=>by
            obtain ⟨z,e1,rz⟩:=vals_at r1 k1
            obtain ⟨w,e2,rw⟩:=vals_at r2 k2
            exact ih A.in1 z w _ _ (by show A.units+1+d < cLine;omega) (q j z w e1 e2) rz rw)
          rwa [all_true] at z
        · obtain ⟨us,r1,p1,_⟩:=I.tuple (.of h1)
          obtain ⟨ws,r2,p2,_⟩:=I.tuple (.of h2)
          have z:=SeqAt.RcAt.tuples (A:=A) (show s.heap.IsTuple a us.toArray from p1) (show s.heap.IsTuple b ws.toArray from p2) (e:=λ _=>true) (by omega) (λ j k1 k2=>by
            obtain ⟨z,e1,rz⟩:=vals_at r1 k1
            obtain ⟨w,e2,rw⟩:=vals_at r2 k2
            exact ih A.in1 z w _ _ (by show A.units+1+d < cLine;omega) (q j z w e1 e2) rz rw)
          have e:(us.toArray.size == ws.toArray.size)=true:=by simp [← r1.length,← r2.length,hl]
          rw [all_true,e] at z
          exact z
def rEqD:R2:=λ x y H Q=>(∃a,x=.ref a)/\AlkV H 9 x y/\Q (.bl true) H
theorem op_eqD (hu:X.A.units+20 < cLine):OpR X (compareOp .Eq) rEqD:=by
 intro pins s σ H x y v u Q I rx ry h
 obtain ⟨⟨a,rfl⟩,h,q⟩:=h
 rcases h with ⟨f,_⟩ | ⟨a',b,xs,ys,e,rfl,h,hl,al⟩
 ·simp [flatV] at f
 ·cases e
  cases rx
  cases ry
  have fin:EP X pins σ Q (.bool true) s:=⟨.bl true,H,I,rfl,q⟩
  rcases h with ⟨h1,h2⟩ | ⟨h1,h2⟩
  ·obtain ⟨us,r1,p1,_⟩:=I.list (.of h1)
   obtain ⟨ws,r2,p2,_⟩:=I.list (.of h2)
   refine SeqAt.eq_listAt p1.isList p2.isList (e:=λ _=>true) (by simp [← r1.length,← r2.length,hl]) (by omega) (λ j k1 k2=>?_) (by rw [all_true];exact fin)
   obtain ⟨z,e1,rz⟩:=vals_at r1 k1
   obtain ⟨w,e2,rw⟩:=vals_at r2 k2
   exact eqAt_alk I 8 X.A.in1 z w _ _ (by show X.A.units+1+8 < cLine;omega) (al j z w e1 e2) rz rw
  ·obtain ⟨us,r1,p1,_⟩:=I.tuple (.of h1)
   obtain ⟨ws,r2,p2,_⟩:=I.tuple (.of h2)
   have e:(us.toArray.size == ws.toArray.size)=true:=by simp [← r1.length,← r2.length,hl]
   refine SeqAt.eq_tupleAt (show s.heap.IsTuple a us.toArray from p1) (show s.heap.IsTuple b ws.toArray from p2) (e:=λ _=>true) (by omega) (λ j k1 k2=>?_) (by rw [all_true,e];exact fin)
   obtain ⟨z,e1,rz⟩:=vals_at r1 k1
   obtain ⟨w,e2,rw⟩:=vals_at r2 k2
   exact eqAt_alk I 8 X.A.in1 z w _ _ (by show X.A.units+1+8 < cLine;omega) (al j z w e1 e2) rz rw
def rNeD:R2:=λ x y H Q=>(∃a,x=.ref a)/\AlkV H 9 x y/\Q (.bl false) H
theorem op_neD (hu:X.A.units+20 < cLine):OpR X (compareOp .NotEq) rNeD:=by
 intro pins s σ H x y v u Q I rx ry h
 obtain ⟨⟨a,rfl⟩,h,q⟩:=h
 rcases h with ⟨f,_⟩ | ⟨a',b,xs,ys,e,rfl,h,hl,al⟩
 ·simp [flatV] at f
 ·cases e
  cases rx
  cases ry
  have fin:EP X pins σ Q (.bool false) s:=⟨.bl false,H,I,rfl,q⟩
  rcases h with ⟨h1,h2⟩ | ⟨h1,h2⟩
  ·obtain ⟨us,r1,p1,_⟩:=I.list (.of h1)
   obtain ⟨ws,r2,p2,_⟩:=I.list (.of h2)
   refine SeqAt.RcNeAt.lists p1.isList p2.isList (e:=λ _=>true) (by simp [← r1.length,← r2.length,hl]) (by omega) (λ j k1 k2=>?_) _ _ _ _ (by rw [all_true];exact fin)
   obtain ⟨z,e1,rz⟩:=vals_at r1 k1
   obtain ⟨w,e2,rw⟩:=vals_at r2 k2
   exact eqAt_alk I 8 X.A.in1 z w _ _ (by show X.A.units+1+8 < cLine;omega) (al j z w e1 e2) rz rw
  ·obtain ⟨us,r1,p1,_⟩:=I.tuple (.of h1)
   obtain ⟨ws,r2,p2,_⟩:=I.tuple (.of h2)
   have e:(us.toArray.size == ws.toArray.size)=true:=by simp [← r1.length,← r2.length,hl]
   refine SeqAt.RcNeAt.tuples (show s.heap.IsTuple a us.toArray from p1) (show s.heap.IsTuple b ws.toArray from p2) (e:=λ _=>true) (by omega) (λ j k1 k2=>?_) _ _ _ _ (by rw [all_true,e];exact fin)
   obtain ⟨z,e1,rz⟩:=vals_at r1 k1
   obtain ⟨w,e2,rw⟩:=vals_at r2 k2
   exact eqAt_alk I 8 X.A.in1 z w _ _ (by show X.A.units+1+8 < cLine;omega) (al j z w e1 e2) rz rw
end
theorem hu20 {k:Nat}{A:Around}(r:Room k A):A.units+20 < cLine:=by have:=r.un;omega
section
variable {X:Cx}
def iSeq (K:W.Frag) (tl:TE):TI:=λ σ H R=>tl σ H λ x H1=>(∃a,x=.ref a/\(∃xs,SqL K H1 a xs)/\R (Itl K a) H1)\/(∃a,x=.ref a/\(∃xs,SqT K H1 a xs)/\R (Itt K a) H1)
theorem for_eqQ {K:W.Frag}{te:TE}{g:TG}{tb:TS}{D:Ends}{σ:St}{H:Hp}:tFor (iSeq K te) g tb D σ H=te σ H λ x H1=>LoopL K g tb D σ x H1\/LoopT K g tb D σ x H1:=rfl
theorem comp_eqQ {K:W.Frag}{k:Nat}{js:List Nat}{ti:TE}{g:TG}{te:TE}{σ:St}{H:Hp}{Q:VK}:tComp (iSeq K ti) k js g te σ H Q=ti σ H λ x H1=>CompL K k js g te σ x H1 Q\/CompT K k js g te σ x H1 Q:=rfl
end
def Itrl (K:W.Frag) (a:Addr) (n:Nat):It:=⟨λ i H=>∃xs,SqL K H a xs/\xs.length=n/\i < n,λ i H x H'=>H'=H/\∀xs,SqL K H a xs->xs[n - 1 - i]?=some x,λ i H=>∃xs,SqL K H a xs/\xs.length=n/\i=n⟩
section
variable {X:Cx}{tg:Expr}
def iRevL (K:W.Frag) (te:TE):TI:=λ σ H R=>te σ H λ x H1=>∃a xs,x=.ref a/\SqL K H1 a xs/\R (Itrl K a xs.length) H1
end
def LoopVL (K:PySem.W.Frag) (g:TG) (tb:TS) (D:Ends) (σ:St) (x:V) (H1:Hp):Prop:=∃a xs,x=.ref a/\SqL K H1 a xs/\∃W:Nat->Nat->St->Hp->Prop,(∃m,W 0 m σ H1)/\∀i m σ H,W i m σ H ->
 ((Itrl K a xs.length).stop i H/\D.nx σ H)\/((Itrl K a xs.length).go i H/\∃N:St->Hp->Prop,(∀σ' H',N σ' H'->∃m',m' < m/\W (i+1) m' σ' H')/\∀x H',(Itrl K a xs.length).yld i H x H'->g x σ H' λ σ2 H2=>tb { D with nx:=N,ct:=N,bk:=D.nx } σ2 H2)
theorem for_eqVL {K:W.Frag}{te:TE}{g:TG}{tb:TS}{D:Ends}{σ:St}{H:Hp}:tFor (iRevL K te) g tb D σ H=te σ H λ x H1=>LoopVL K g tb D σ x H1:=rfl
theorem LoopVL.mk {K:W.Frag}{a:Addr}{xs:List V}{g:TG}{tb:TS}{D:Ends}{σ:St}{H:Hp}(hS:SqL K H a xs) (Pv:Nat->St->Hp->Prop) (h0:Pv 0 σ H) (hl:∀i σ H,i≤xs.length->Pv i σ H->SqL K H a xs)
  (hs:∀i x σ H,i < xs.length->xs[xs.length - 1 - i]?=some x->Pv i σ H->g x σ H λ σ2 H2=>tb { D with nx:=Pv (i+1),ct:=Pv (i+1),bk:=D.nx } σ2 H2) (hd:∀σ H,Pv xs.length σ H->D.nx σ H):LoopVL K g tb D σ (.ref a) H:=by
 refine ⟨a,xs,rfl,hS,λ i m σ H=>m=xs.length - i/\i≤xs.length/\Pv i σ H,⟨xs.length,by simp,Nat.zero_le _,h0⟩,?_⟩
 rintro i m σ H ⟨rfl,hi,p⟩
 have q:=hl i σ H hi p
 by_cases hlt:i < xs.length
 ·refine .inr ⟨⟨xs,q,rfl,hlt⟩,Pv (i+1),λ σ' H' p'=>⟨xs.length - (i+1),by omega,rfl,hlt,p'⟩,λ x H' y=>?_⟩
  obtain ⟨e,y⟩:=y
  subst e
  exact hs i x σ _ hlt (y xs q) p
 ·have e:i=xs.length:=by omega
  subst e
  exact .inl ⟨⟨xs,q,rfl,rfl⟩,hd σ H p⟩
end L2
namespace L2
open PySem PySem.Spec PyProof.Rows PySem.W PySem.Calls
section
variable {M:Model}{A:Around}{E:Value->Shared->Prop}{s₀ s:Shared}{m cm:Str->Option Value}{env:Env}{cs:List (Str × Addr)}
end
section
variable {M:Model}{A:Around}{E:Value->Shared->Prop}{s:Shared}
end
def CelO (c:Addr) (v:V):HO:=.ext λ h=>∃u,RelV v u/\h.IsCell c (some u)
def CodO (c:Addr) (qual:Str):HO:=.ext λ h=>h.CodeRec (.ref c) qual
def LamO (fa c':Addr) (qual:Str) (params:Arguments) (body:Expr) (scope:Scope) (cl:List (Str × Addr)):HO:=.ext λ h=>∃pm ctv,h.get? fa=some (kla_obj "<lambda>" qual params body scope cl pm c' ctv)
structure CelAt (H:Hp) (cl:List (Str × Addr)) (vcs:List V):Prop where
 len:cl.length=vcs.length
 at_:∀(i:Nat) q,cl[i]?=some q->∃v o,vcs[i]?=some v/\H q.2=some (.frz o (CelO q.2 v))
 apart:cl.Pairwise λ x y=>x.2≠y.2
theorem CelAt.mem {H:Hp}{cl:List (Str × Addr)}{vcs:List V}(h:CelAt H cl vcs) {q:Str × Addr}(hq:q∈cl):∃o v,H q.2=some (.frz o (CelO q.2 v)):=by
 obtain ⟨i,e⟩:=List.mem_iff_getElem?.mp hq
 obtain ⟨v,o,_,e2⟩:=h.at_ i q e
 exact ⟨o,v,e2⟩
theorem CelAt.same {H H':Hp}{cl:List (Str × Addr)}{vcs:List V}(h:CelAt H cl vcs) (s:∀a o,H a=some o->H' a=some o):CelAt H' cl vcs :=
 ⟨h.len,λ i q e=>let ⟨v,o,e1,e2⟩:=h.at_ i q e;⟨v,o,e1,s _ _ e2⟩,h.apart⟩
structure LmScope (N ps fv:List Str) (sc:Scope):Prop where
 kind:sc.kind=.function
 co:sc.isCoroutine=false
 gen:sc.isGenerator=false
 nd:N.Nodup
 pre:N.take (ps++fv).length=ps++fv
 par:∀x∈ps,sc.names.lookup x=some .local\/sc.names.lookup x=some .cell
 fre:∀x∈fv,sc.names.lookup x=some .free
 has:∀y∈sc.names,y.2=.free->y.1∈fv
 own:∀x∈fv,∀y∈sc.names,y.2=.cell->y.1≠x
def CallV (P:Program) (w:World) (K:W.Frag) (mg:Str->Option Value) (base:Heap) (k:Nat) (fa:Addr) (vs:List V) (H:Hp) (Q:VK):Prop :=
 ∀(A:Around) (outer:List Env) (s:Shared) (us:List Value),Room k A->Env0 P w K mg base A outer s H->Vals vs us->codeAny (model P w) A (.call (.ref fa) ⟨us,[]⟩) (CR CX0 outer P w H s Q λ _ _ _=>False) s
end L2
namespace L2
open PySem PySem.Spec PyProof.Rows PySem.W PySem.Calls
def FnV (H:Hp) (fa:Addr):Prop:=∃φ,H fa=some (.ext φ)/\∀h,φ h->FnAt fa h
theorem FnV.same {H H':Hp}{fa:Addr}(h:FnV H fa) (s:∀o,H fa=some o->H' fa=some o):FnV H' fa:=let ⟨φ,e,k⟩:=h;⟨φ,s _ e,k⟩
def tCalV (P:Program) (w:World) (K:W.Frag) (mg:Str->Option Value) (base:Heap) (k i:Nat) (t:TA):TE:=λ σ H Q=>∃fa,σ[i]?=some (some (.ref fa))/\FnV H fa/\t σ H λ vs H1=>FnV H1 fa/\CallV P w K mg base k fa vs H1 Q
section
variable {X:Cx}{k:Nat}{x:Str}{p pos:Pos}{e:Expr}{es:List Expr}{t:TA}
end
def OwnCl (ec:List (Str × Addr)) (fv:List Str) (cl:List (Str × Addr)):Prop:=cl.map (·.1)=fv/\∀q∈cl,ec.lookup q.1=some q.2
def TabOk (H:Hp) (T:Addr) (pos:Pos) (qual:Str):Prop:=∃ps,H T=some (.tbl ps)/\TriplesOk ps.toList/\(codeAmong pos ps.toList=none\/∃c',codeAmong pos ps.toList=some (.ref c')/\H c'=some (CodO c' qual))
theorem TabOk.same {H H':Hp}{T:Addr}{pos:Pos}{qual:Str}(h:TabOk H T pos qual) (s:∀a o,H a=some o->H' a=some o):TabOk H' T pos qual:=by
 obtain ⟨ps,e,t,z⟩:=h
 exact ⟨ps,s _ _ e,t,z.imp id λ ⟨c',a,b⟩=>⟨c',a,s _ _ b⟩⟩
structure TabF (base:Heap) (mg:Str->Option Value) (c T:Addr):Prop where
 hd:CodeHd base c T
 none_:base.get? T=none
 blt:∃bm o,mg "__builtins__" = some (.ref bm)/\bm≠builtinsNs/\bm≠mainGlobals/\bm≠T/\base.get? bm=some o/\o.cls=.type "module" /\ o.dict=some builtinsNs/\o.data=.plain
 ne:mainGlobals≠T
def tLam (ec:List (Str × Addr)) (fv:List Str) (T:Addr) (pos:Pos) (qual:Str) (params:Arguments) (body:Expr) (scope:Scope):TE:=λ _ H Q=>TabOk H T pos qual /\
 ∀fa c' cl H2,OwnCl ec fv cl->H fa=none->H2 fa=some (LamO fa c' qual params body scope cl)->H2 c'=some (CodO c' qual)->TabOk H2 T pos qual->(∀b o,b≠T->H b=some o->H2 b=some o)->Q (.ref fa) H2
section
variable {X:Cx}{params:Arguments}{body:Expr}{scope:Scope}{pos:Pos}{fv:List Str}{c T:Addr}{cl:List (Str × Addr)}
end
end L2
namespace L2
open PySem PySem.Spec PyProof.Rows PySem.W PySem.Calls
theorem CallV.mono {P:Program}{w:World}{K:W.Frag}{mg:Str->Option Value}{base:Heap}{j k:Nat}{fa:Addr}{vs:List V}{H:Hp}{Q:VK}(h:CallV P w K mg base j fa vs H Q) (l:j≤k):CallV P w K mg base k fa vs H Q :=
 λ A outer s us hr e0 r=>h A outer s us (hr.mono l) e0 r
def LoopE (K:PySem.W.Frag) (g:TG) (tb:TS) (D:Ends) (σ:St) (v:V) (H1:Hp):Prop:=∃a xs,v=.ref a/\SqT K H1 a xs/\∃W:Nat->Nat->St->Hp->Prop,(∃m,W 0 m σ H1)/\∀i m σ H,W i m σ H ->
 ((Ite K a).stop i H/\D.nx σ H)\/((Ite K a).go i H/\∃N:St->Hp->Prop,(∀σ' H',N σ' H'->∃m',m' < m/\W (i+1) m' σ' H')/\∀x H',(Ite K a).yld i H x H'->g x σ H' λ σ2 H2=>tb { D with nx:=N,ct:=N,bk:=D.nx } σ2 H2)
theorem for_eqE {K:W.Frag}{te:TE}{g:TG}{tb:TS}{D:Ends}{σ:St}{H:Hp}:tFor (iEnum K te) g tb D σ H=te σ H λ v H1=>LoopE K g tb D σ v H1:=rfl
theorem LoopE.mk {K:W.Frag}{a:Addr}{xs:List V}{g:TG}{tb:TS}{D:Ends}{σ:St}{H:Hp}(h1:SqT K H a xs) (Pv:Nat->St->Hp->Prop) (h0:Pv 0 σ H) (hl:∀i σ H,i≤xs.length->Pv i σ H->SqT K H a xs)
  (hs:∀i x σ H T,xs[i]?=some x->Pv i σ H->H T=none->g (.ref T) σ (upd H T (.tup [.int i,x])) λ σ2 H2=>tb { D with nx:=Pv (i+1),ct:=Pv (i+1),bk:=D.nx } σ2 H2) (hd:∀σ H,Pv xs.length σ H->D.nx σ H) :
  LoopE K g tb D σ (.ref a) H:=by
 refine ⟨a,xs,rfl,h1,λ i m σ H=>m=xs.length - i/\i≤xs.length/\Pv i σ H,⟨_,rfl,Nat.zero_le _,h0⟩,?_⟩
 rintro i m σ H ⟨rfl,hi,p⟩
 have k1:=hl i σ H hi p
 by_cases hlt:i < xs.length
 ·refine .inr ⟨⟨xs,_,k1,List.getElem?_eq_getElem hlt⟩,Pv (i+1),λ σ' H' p'=>⟨xs.length - (i+1),by omega,rfl,hlt,p'⟩,λ v H' yy=>?_⟩
  obtain ⟨T,x,rfl,hT,rfl,ex⟩:=yy
  exact hs i x σ H T (ex xs k1) p hT
 ·have e:i=xs.length:=by omega
  exact .inl ⟨⟨xs,k1,by omega⟩,hd σ H (e ▸ p)⟩
section
variable {X:Cx}
def rIndex (K:W.Frag):V->List V->Hp->VK->Prop:=λ x ys H Q=>∃a xs y j,x=.ref a/\ys=[y]/\SqL K H a xs/\xs.all flatV=true/\flatV y=true/\(∃z,xs[j]?=some z/\eqV z y=true)/\(∀m z,m < j->xs[m]?=some z->eqV z y=false)/\Q (.int (j:Nat)) H
end
section
variable {X:Cx}
def rIndexT:V->List V->Hp->VK->Prop:=λ x ys H Q=>∃a o xs y j,x=.ref a/\ys=[y]/\H a=some (.frz o (.tup xs))/\xs.all flatV=true/\flatV y=true/\(∃z,xs[j]?=some z/\eqV z y=true)/\(∀m z,m < j->xs[m]?=some z->eqV z y=false)/\Q (.int (j:Nat)) H
theorem call_tuple_ofK {K:W.Frag}(hK:X.K=K):CallR X (.type "tuple") (λ xs H Q=>∃p ys,xs=[.ref p]/\((SqL K H p ys/\∀l,H l=none->Q (.ref l) (upd H l (.tup ys)))\/(SqT K H p ys/\Q (.ref p) H))):=hK ▸ call_tuple_of
end
section
variable {pg:Program}{wd:World}{B:Around}{X0:Value->Shared->Prop}{s0:Shared}
end
def ItzN (K:W.Frag) (a b:Addr):It:=⟨λ i H=>∃xs ys x y,SqT K H a xs/\SqL K H b ys/\xs[i]?=some x/\ys[i]?=some y,
 λ i H v H'=>∃T x y,v=.ref T/\H T=none/\H'=upd H T (.tup [x,y])/\∀xs ys,SqT K H a xs->SqL K H b ys->xs[i]?=some x/\ys[i]?=some y,λ i H=>∃xs ys,SqT K H a xs/\SqL K H b ys/\(xs.length≤i\/ys.length≤i)⟩
section
variable {X:Cx}{es:List Expr}{x1:Nat}{pp:Pos}
def iZipN (K:W.Frag) (ta:TA):TI:=λ σ H R=>ta σ H λ vs H1=>∃a b xs ys,vs=[.ref a,.ref b]/\SqT K H1 a xs/\SqL K H1 b ys/\R (ItzN K a b) H1
end
def LoopZN (K:PySem.W.Frag) (g:TG) (tb:TS) (D:Ends) (σ:St) (vs:List V) (H1:Hp):Prop:=∃a b xs ys,vs=[.ref a,.ref b]/\SqT K H1 a xs/\SqL K H1 b ys/\∃W:Nat->Nat->St->Hp->Prop,(∃m,W 0 m σ H1)/\∀i m σ H,W i m σ H ->
 ((ItzN K a b).stop i H/\D.nx σ H)\/((ItzN K a b).go i H/\∃N:St->Hp->Prop,(∀σ' H',N σ' H'->∃m',m' < m/\W (i+1) m' σ' H')/\∀x H',(ItzN K a b).yld i H x H'->g x σ H' λ σ2 H2=>tb { D with nx:=N,ct:=N,bk:=D.nx } σ2 H2)
theorem for_eqZN {K:W.Frag}{ta:TA}{g:TG}{tb:TS}{D:Ends}{σ:St}{H:Hp}:tFor (iZipN K ta) g tb D σ H=ta σ H λ vs H1=>LoopZN K g tb D σ vs H1:=rfl
theorem LoopZN.mk {K:W.Frag}{a b:Addr}{xs ys:List V}{g:TG}{tb:TS}{D:Ends}{σ:St}{H:Hp}(n:Nat) (hn:n=min xs.length ys.length) (h1:SqT K H a xs) (h2:SqL K H b ys) (Pv:Nat->St->Hp->Prop) (h0:Pv 0 σ H) (hl:∀i σ H,i≤n->Pv i σ H->SqT K H a xs/\SqL K H b ys)
  (hs:∀i x y σ H T,i < n->xs[i]?=some x->ys[i]?=some y->Pv i σ H->H T=none->g (.ref T) σ (upd H T (.tup [x,y])) λ σ2 H2=>tb { D with nx:=Pv (i+1),ct:=Pv (i+1),bk:=D.nx } σ2 H2) (hd:∀σ H,Pv n σ H->D.nx σ H) :
  LoopZN K g tb D σ [.ref a,.ref b] H:=by
 subst hn
 refine ⟨a,b,xs,ys,rfl,h1,h2,λ i m σ H=>m=min xs.length ys.length - i/\i≤min xs.length ys.length/\Pv i σ H,⟨_,rfl,Nat.zero_le _,h0⟩,?_⟩
 rintro i m σ H ⟨rfl,hi,p⟩
 obtain ⟨k1,k2⟩:=hl i σ H hi p
 by_cases hlt:i < min xs.length ys.length
 ·have l1:i < xs.length:=by omega
  have l2:i < ys.length:=by omega
  refine .inr ⟨⟨xs,ys,_,_,k1,k2,List.getElem?_eq_getElem l1,List.getElem?_eq_getElem l2⟩,Pv (i+1),λ σ' H' p'=>⟨min xs.length ys.length - (i+1),by omega,rfl,hlt,p'⟩,λ v H' yy=>?_⟩
  obtain ⟨T,x,y,rfl,hT,rfl,ex⟩:=yy
  obtain ⟨ex1,ex2⟩:=ex xs ys k1 k2
  exact hs i x y σ H T hlt ex1 ex2 p hT
 ·have e:i=min xs.length ys.length:=by omega
  exact .inl ⟨⟨xs,ys,k1,k2,by omega⟩,hd σ H (e ▸ p)⟩
def CompZN (K:PySem.W.Frag) (k:Nat) (js:List Nat) (g:TG) (te:TE) (σ:St) (vs:List V) (H1:Hp) (Q:VK):Prop:=∃a b xs ys,vs=[.ref a,.ref b]/\SqT K H1 a xs/\SqL K H1 b ys/\∃W:Nat->Nat->List V->St->Hp->Prop,(∃m,W 0 m [] (compSt k js σ) H1)/\∀i m zs σ' H',W i m zs σ' H' ->
  ((ItzN K a b).stop i H'/\∀p,H' p=none->Q (.ref p) (upd H' p (.lst zs))) \/
  ((ItzN K a b).go i H'/\zs.length < sizeLine/\∃N:List V->St->Hp->Prop,(∀zs σ2 H2,N zs σ2 H2->∃m',m' < m/\W (i+1) m' zs σ2 H2)/\∀x H2,(ItzN K a b).yld i H' x H2->g x σ' H2 λ σ3 H3=>te σ3 H3 λ v H4=>N (zs++[v]) σ3 H4)
theorem comp_eqZN {K:W.Frag}{k:Nat}{js:List Nat}{ta:TA}{g:TG}{te:TE}{σ:St}{H:Hp}{Q:VK}:tComp (iZipN K ta) k js g te σ H Q=ta σ H λ vs H1=>CompZN K k js g te σ vs H1 Q:=rfl
theorem CompZN.mk {K:W.Frag}{a b:Addr}{xs ys:List V}{k:Nat}{js:List Nat}{g:TG}{te:TE}{Q:VK}{σ:St}{H:Hp}(n:Nat) (hn:n=min xs.length ys.length) (h1:SqT K H a xs) (h2:SqL K H b ys) (Pv:Nat->List V->St->Hp->Prop) (h0:Pv 0 [] (compSt k js σ) H) (hl:∀i zs σ H,i≤n->Pv i zs σ H->SqT K H a xs/\SqL K H b ys)
  (hs:∀i x y zs σ H T,i < n->xs[i]?=some x->ys[i]?=some y->Pv i zs σ H->H T=none->zs.length < sizeLine/\g (.ref T) σ (upd H T (.tup [x,y])) λ σ3 H3=>te σ3 H3 λ v H4=>Pv (i+1) (zs++[v]) σ3 H4) (hz:∀zs σ H,Pv n zs σ H->∀p,H p=none->Q (.ref p) (upd H p (.lst zs))) (hlen:∀i zs σ H,Pv i zs σ H->zs.length < sizeLine) :
  CompZN K k js g te σ [.ref a,.ref b] H Q:=by
 subst hn
 refine ⟨a,b,xs,ys,rfl,h1,h2,λ i m zs σ H=>m=min xs.length ys.length - i/\i≤min xs.length ys.length/\Pv i zs σ H,⟨_,rfl,Nat.zero_le _,h0⟩,?_⟩
 rintro i m zs σ H ⟨rfl,hi,p⟩
 obtain ⟨k1,k2⟩:=hl i zs σ H hi p
 by_cases hlt:i < min xs.length ys.length
 ·have l1:i < xs.length:=by omega
  have l2:i < ys.length:=by omega
  refine .inr ⟨⟨xs,ys,_,_,k1,k2,List.getElem?_eq_getElem l1,List.getElem?_eq_getElem l2⟩,hlen _ _ _ _ p,Pv (i+1),λ zs' σ' H' p'=>⟨min xs.length ys.length - (i+1),by omega,rfl,hlt,p'⟩,λ v H' yy=>?_⟩
  obtain ⟨T,x,y,rfl,hT,rfl,ex⟩:=yy
  obtain ⟨ex1,ex2⟩:=ex xs ys k1 k2
  exact (hs i x y zs σ H T hlt ex1 ex2 p hT).2
 ·have e:i=min xs.length ys.length:=by omega
  exact .inl ⟨⟨xs,ys,k1,k2,by omega⟩,hz zs σ H (e ▸ p)⟩
structure Apart6 (z ti ox j1 j2 j3 t1 t2 t3:Addr):Prop where
 ti_z:ti≠z
 ox_z:ox≠z
 j1_z:j1≠z
 j2_z:j2≠z
 j3_z:j3≠z
 ti_ox:ti≠ox
 ti_j1:ti≠j1
 ti_j2:ti≠j2
 ti_j3:ti≠j3
 ox_j1:ox≠j1
 ox_j2:ox≠j2
 ox_j3:ox≠j3
 j12:j1≠j2
 j13:j1≠j3
 j23:j2≠j3
 t1_z:t1≠z
 t2_z:t2≠z
 t2_ox:t2≠ox
 t2_j1:t2≠j1
 t3_z:t3≠z
 t3_ox:t3≠ox
 t3_j1:t3≠j1
 t3_j2:t3≠j2
section
variable {pg:Program}{wd:World}{B:Around}{X0:Value->Shared->Prop}{s0:Shared}
end
def Itz3 (K:W.Frag) (a b c:Addr):It:=⟨λ i H=>∃xs ys zs x y z,SqT K H a xs/\SqT K H b ys/\SqT K H c zs/\xs[i]?=some x/\ys[i]?=some y/\zs[i]?=some z,
 λ i H v H'=>∃T x y z,v=.ref T/\H T=none/\H'=upd H T (.tup [x,y,z])/\∀xs ys zs,SqT K H a xs->SqT K H b ys->SqT K H c zs->xs[i]?=some x/\ys[i]?=some y/\zs[i]?=some z,λ i H=>∃xs,SqT K H a xs/\xs.length≤i⟩
section
variable {X:Cx}{es:List Expr}{x1:Nat}{pp:Pos}
def iZip3 (K:W.Frag) (ta:TA):TI:=λ σ H R=>ta σ H λ vs H1=>∃a b c xs ys zs,vs=[.ref a,.ref b,.ref c]/\SqT K H1 a xs/\SqT K H1 b ys/\SqT K H1 c zs/\R (Itz3 K a b c) H1
end
def CompZ3 (K:PySem.W.Frag) (k:Nat) (js:List Nat) (g:TG) (te:TE) (σ:St) (vs:List V) (H1:Hp) (Q:VK):Prop:=∃a b c xs ys zs,vs=[.ref a,.ref b,.ref c]/\SqT K H1 a xs/\SqT K H1 b ys/\SqT K H1 c zs/\∃W:Nat->Nat->List V->St->Hp->Prop,(∃m,W 0 m [] (compSt k js σ) H1)/\∀i m zs σ' H',W i m zs σ' H' ->
  ((Itz3 K a b c).stop i H'/\∀p,H' p=none->Q (.ref p) (upd H' p (.lst zs))) \/
  ((Itz3 K a b c).go i H'/\zs.length < sizeLine/\∃N:List V->St->Hp->Prop,(∀zs σ2 H2,N zs σ2 H2->∃m',m' < m/\W (i+1) m' zs σ2 H2)/\∀x H2,(Itz3 K a b c).yld i H' x H2->g x σ' H2 λ σ3 H3=>te σ3 H3 λ v H4=>N (zs++[v]) σ3 H4)
theorem comp_eqZ3 {K:W.Frag}{k:Nat}{js:List Nat}{ta:TA}{g:TG}{te:TE}{σ:St}{H:Hp}{Q:VK}:tComp (iZip3 K ta) k js g te σ H Q=ta σ H λ vs H1=>CompZ3 K k js g te σ vs H1 Q:=rfl
theorem CompZ3.mk {K:W.Frag}{a b c:Addr}{xs ys zs:List V}{k:Nat}{js:List Nat}{g:TG}{te:TE}{Q:VK}{σ:St}{H:Hp}(n:Nat) (hn:n=xs.length) (hy:ys.length=n) (hz:zs.length=n) (h1:SqT K H a xs) (h2:SqT K H b ys) (h3:SqT K H c zs) (Pv:Nat->List V->St->Hp->Prop) (h0:Pv 0 [] (compSt k js σ) H) (hl:∀i us σ H,i≤n->Pv i us σ H->SqT K H a xs/\SqT K H b ys/\SqT K H c zs)
  (hs:∀i x y z us σ H T,i < n->xs[i]?=some x->ys[i]?=some y->zs[i]?=some z->Pv i us σ H->H T=none->g (.ref T) σ (upd H T (.tup [x,y,z])) λ σ3 H3=>te σ3 H3 λ v H4=>Pv (i+1) (us++[v]) σ3 H4) (hd:∀us σ H,Pv n us σ H->∀p,H p=none->Q (.ref p) (upd H p (.lst us))) (hlen:∀i us σ H,Pv i us σ H->us.length < sizeLine) :
  CompZ3 K k js g te σ [.ref a,.ref b,.ref c] H Q:=by
 subst hn
 refine ⟨a,b,c,xs,ys,zs,rfl,h1,h2,h3,λ i m us σ H=>m=xs.length - i/\i≤xs.length/\Pv i us σ H,⟨_,rfl,Nat.zero_le _,h0⟩,?_⟩
 rintro i m us σ H ⟨rfl,hi,p⟩
 obtain ⟨k1,k2,k3⟩:=hl i us σ H hi p
 by_cases hlt:i < xs.length
 ·refine .inr ⟨⟨xs,ys,zs,_,_,_,k1,k2,k3,List.getElem?_eq_getElem hlt,List.getElem?_eq_getElem (hy ▸ hlt),List.getElem?_eq_getElem (hz ▸ hlt)⟩,hlen _ _ _ _ p,Pv (i+1),λ us' σ' H' p'=>⟨xs.length - (i+1),by omega,rfl,hlt,p'⟩,λ v H' yy=>?_⟩
  obtain ⟨T,x,y,z,rfl,hT,rfl,ex⟩:=yy
  obtain ⟨ex1,ex2,ex3⟩:=ex xs ys zs k1 k2 k3
  exact hs i x y z us σ H T hlt ex1 ex2 ex3 p hT
 ·have e:i=xs.length:=by omega
  exact .inl ⟨⟨xs,k1,by omega⟩,hd us σ H (e ▸ p)⟩
def CompLI (K:PySem.W.Frag) (k:Nat) (js:List Nat) (g:TG) (tc:TT) (te:TE) (σ:St) (v:V) (H1:Hp) (Q:VK):Prop:=∃a,v=.ref a/\(∃xs,SqL K H1 a xs)/\∃W:Nat->Nat->List V->St->Hp->Prop,(∃m,W 0 m [] (compSt k js σ) H1)/\∀i m zs σ' H',W i m zs σ' H' ->
  ((Itl K a).stop i H'/\∀p,H' p=none->Q (.ref p) (upd H' p (.lst zs))) \/
  ((Itl K a).go i H'/\zs.length < sizeLine/\∃N:List V->St->Hp->Prop,(∀zs σ2 H2,N zs σ2 H2->∃m',m' < m/\W (i+1) m' zs σ2 H2)/\∀x H2,(Itl K a).yld i H' x H2->g x σ' H2 λ σ3 H3=>tc σ3 H3 λ b H4=>if b=true then te σ3 H4 λ v H5=>N (zs++[v]) σ3 H5 else N zs σ3 H4)
theorem comp_eqLI {K:W.Frag}{k:Nat}{js:List Nat}{tx:TE}{g:TG}{tc:TT}{te:TE}{σ:St}{H:Hp}{Q:VK}:tCompI (iList K tx) k js g tc te σ H Q=tx σ H λ v H1=>CompLI K k js g tc te σ v H1 Q:=rfl
theorem CompLI.mk {K:W.Frag}{a:Addr}{xs:List V}{k:Nat}{js:List Nat}{g:TG}{tc:TT}{te:TE}{Q:VK}{σ:St}{H:Hp}(h1:SqL K H a xs) (Pv:Nat->List V->St->Hp->Prop) (h0:Pv 0 [] (compSt k js σ) H) (hl:∀i zs σ H,i≤xs.length->Pv i zs σ H->SqL K H a xs/\zs.length < sizeLine)
  (hs:∀i x zs σ H,xs[i]?=some x->Pv i zs σ H->g x σ H λ σ3 H3=>tc σ3 H3 λ b H4=>if b=true then te σ3 H4 λ v H5=>Pv (i+1) (zs++[v]) σ3 H5 else Pv (i+1) zs σ3 H4) (hz:∀zs σ H,Pv xs.length zs σ H->∀p,H p=none->Q (.ref p) (upd H p (.lst zs))) :
  CompLI K k js g tc te σ (.ref a) H Q:=by
 refine ⟨a,rfl,⟨xs,h1⟩,λ i m zs σ H=>m=xs.length - i/\i≤xs.length/\Pv i zs σ H,⟨_,rfl,Nat.zero_le _,h0⟩,?_⟩
 rintro i m zs σ H ⟨rfl,hi,p⟩
 obtain ⟨k1,k2⟩:=hl i zs σ H hi p
 by_cases hlt:i < xs.length
 ·refine .inr ⟨⟨xs,_,k1,List.getElem?_eq_getElem hlt⟩,k2,Pv (i+1),λ zs' σ' H' p'=>⟨xs.length - (i+1),by omega,rfl,hlt,p'⟩,λ v H' yy=>?_⟩
  obtain ⟨rfl,ex⟩:=yy
  exact hs i v zs σ _ (ex xs k1) p
 ·have e:i=xs.length:=by omega
  exact .inl ⟨⟨xs,k1,by omega⟩,hz zs σ H (e ▸ p)⟩
def CompRI (lo:Int) (n k:Nat) (js:List Nat) (g:TG) (tc:TT) (te:TE) (σ:St) (H1:Hp) (Q:VK):Prop:=∃W:Nat->Nat->List V->St->Hp->Prop,(∃m,W 0 m [] (compSt k js σ) H1)/\∀i m zs σ' H',W i m zs σ' H' ->
  ((Itr lo n).stop i H'/\∀p,H' p=none->Q (.ref p) (upd H' p (.lst zs))) \/
  ((Itr lo n).go i H'/\zs.length < sizeLine/\∃N:List V->St->Hp->Prop,(∀zs σ2 H2,N zs σ2 H2->∃m',m' < m/\W (i+1) m' zs σ2 H2)/\∀x H2,(Itr lo n).yld i H' x H2->g x σ' H2 λ σ3 H3=>tc σ3 H3 λ b H4=>if b=true then te σ3 H4 λ v H5=>N (zs++[v]) σ3 H5 else N zs σ3 H4)
theorem comp_eqRI {k:Nat}{js:List Nat}{ta:TA}{g:TG}{tc:TT}{te:TE}{σ:St}{H:Hp}{Q:VK}:tCompI (iRng1 ta) k js g tc te σ H Q=ta σ H λ vs H1=>∃j:Int,vs=[.int j]/\-(2 ^ 62)≤j/\j < 2 ^ 62/\CompRI 0 j.toNat k js g tc te σ H1 Q:=rfl
theorem CompRI.mk {lo:Int}{n k:Nat}{js:List Nat}{g:TG}{tc:TT}{te:TE}{Q:VK}{σ:St}{H:Hp}(Pv:Nat->List V->St->Hp->Prop) (h0:Pv 0 [] (compSt k js σ) H) (hl:∀i zs σ H,i≤n->Pv i zs σ H->zs.length < sizeLine)
  (hs:∀i zs σ H,i < n->Pv i zs σ H->g (.int (lo+i)) σ H λ σ3 H3=>tc σ3 H3 λ b H4=>if b=true then te σ3 H4 λ v H5=>Pv (i+1) (zs++[v]) σ3 H5 else Pv (i+1) zs σ3 H4) (hz:∀zs σ H,Pv n zs σ H->∀p,H p=none->Q (.ref p) (upd H p (.lst zs))) :
  CompRI lo n k js g tc te σ H Q:=by
 refine ⟨λ i m zs σ H=>m=n - i/\i≤n/\Pv i zs σ H,⟨_,rfl,Nat.zero_le _,h0⟩,?_⟩
 rintro i m zs σ H ⟨rfl,hi,p⟩
 by_cases hlt:i < n
 ·refine .inr ⟨hlt,hl i zs σ H hi p,Pv (i+1),λ zs' σ' H' p'=>⟨n - (i+1),by omega,rfl,hlt,p'⟩,λ v H' yy=>?_⟩
  obtain ⟨rfl,rfl⟩:=yy
  exact hs i zs σ _ hlt p
 ·have e:i=n:=by omega
  exact .inl ⟨show n≤i by omega,hz zs σ H (e ▸ p)⟩
theorem ps_setCI {X:Cx}{i:Nat}{x:Str}{elt tg iter cnd:Expr}{scope:Scope}{cl:List (Str × Addr)}{pos pos' lpos:Pos}{own fv:List Str}{js:List Nat}{wi:TI}{g:TG}{tc:TT}{te:TE}
  (hN:X.N.Nodup) (hx1:X.N[i]?=some x) (hx:Loc X.env.scope x) (hf:X.fn x=true\/X.env.scope.names.lookup x=some .local)
  (hc:X.calm=true) (hi:PI X tg iter wi) (hclos:closureFor scope X.env=pure cl) (hcell:∀y∈scope.names,y.2≠.cell) (hkind:scope.kind=.function)
  (hnames:∀y∈scope.names,y.2=.local->scope.names.lookup y.1=some .local)
  (hcl:∀x c,cl.lookup x=some c->X.env.cells.lookup x=some c)
  (hhas:∀x,((relabel scope X.env).names.lookup x=some .cell\/(relabel scope X.env).names.lookup x=some .free)->∃c,cl.lookup x=some c)
  (hlen:js.length=fv.length) (hcap:∀(i:Nat) x j,fv[i]?=some x->js[i]?=some j->Cap X scope cl x j)
  (hg:∀(C:Addr) (ex:List Addr) (s:Shared) (H:Hp),PG (cxComp X (own++fv) scope cl C ex s H) tg g)
  (he:∀(C:Addr) (ex:List Addr) (s:Shared) (H:Hp),PE (cxComp X (own++fv) scope cl C ex s H) elt te)
  (ht:∀(C:Addr) (ex:List Addr) (s:Shared) (H:Hp),PT (cxComp X (own++fv) scope cl C ex s H) cnd tc)
  (hsw:swapsWith (.ListComp elt [⟨tg,iter,[cnd],0⟩] scope lpos) (some (.Name x pos')) pos.line X.env=pure true:=by rfl)
  (hs:∀x,foldedSetIterable iter X.env x=pure x:=by intro _;rfl) :
  PS X (.Assign [.Name x pos'] (.ListComp elt [⟨tg,iter,[cnd],0⟩] scope lpos) pos) (tAsg (tCompI wi own.length js g tc te) (gName i)):=by
 intro pins s σ H D I h
 rw [exec_Assign_Name_used _ _ _ _ hsw]
 refine wpAny_bind (wpAny_standAt ?_)
 rw [arm_evalThenUse_ListComp]
 have core:=compI_core (use:=some (assign (.Name x pos') X.env)) (QQ:=λ _ s'=>SP X pins D .next s') (fpos:=firstIterPos [⟨tg,iter,[cnd],0⟩] lpos) (pos:=lpos) hc hi hclos hcell hkind hnames hcl hhas hlen hcap hg he ht hs I h (λ a C s5 H5 fl I5 zC zL zS zc zp ⟨m,hn⟩ q=>?_)
 ·refine wpAny_bind (wpAny_bind (thn core λ _ s' hq=>?_))
  exact wpAny_pure (wpAny_pure hq)
 ·show wpAny (model X.prog X.w) X.A (assign (.Name x pos') X.env (.ref a)) _ X.xe s5
  show wpAny (model X.prog X.w) X.A (do standAt pos';bindName X.env x (.ref a)) _ X.xe s5
  refine wpAny_bind (wpAny_standAt ?_)
  refine bindName_ ?_
  refine store_ok2 I5 hN hx1 hx (show RelV (.ref a) (.ref a) from rfl) (λ s6 I6 ⟨b,sb,hb⟩=>?_) hf
  have cb:C≠b:=by
   rcases hb with rfl | hb
   ·exact zL
   ·exact λ z=>zc x b hb z.symm
  obtain ⟨o,es,ep,e,r⟩:=hn
  refine ⟨m,⟨o,es,ep,(sb.2 C cb).trans e,r⟩,λ h' sc=>?_⟩
  exact ⟨_,H5,I6.turned (t':=s6.toks) (it:=C) (λ d o nd e=>sc.extBut d o nd e) zC zL (.inr zS) zc zp,q⟩
def ExcAt (B h:Heap) (e:Addr) (cls:Value) (dx:Addr) (hd:Value):Prop :=
 ∃oe vs,h.get? e=some oe/\(oe.cls=cls/\oe.dict=some dx)/\oe.data=.fields vs/\vs[1]?=some hd
def TrAt (B h:Heap) (e:Addr) (hd fl:Value):Prop:=∃T oT ts,hd=.ref T/\B.get? T=none/\T≠e/\h.get? T=some oT/\oT.data=.fields ts/\ts[3]?=some fl
def FlyD (B:Heap) (l:List Env) (e:Addr) (cls:Value) (dx:Addr) (fl:Value) (h:Heap):Prop :=
 B.StaysIn h/\B.get? e=none/\h.FunFrames B l/\∃hd,ExcAt B h e cls dx hd/\TrAt B h e hd fl
theorem FlyD.first {B h:Heap}{l:List Env}{e dx:Addr}{cls fl:Value}(x:FlyD B l e cls dx fl h):∃oe vs,h.get? e=some oe/\oe.cls=cls/\oe.data=.fields vs/\oe.dict=some dx :=
 let ⟨_,_,_,_,⟨oe,vs,he,hc,hd,_⟩,_⟩:=x;⟨oe,vs,he,hc.1,hd,hc.2⟩
section
variable {M:Model}{A:Around}{E:Value->Shared->Prop}{s:Shared}{B:Heap}{env:Env}{outer:List Env}{L e dx:Addr}{cls:Value}
theorem FlyD.pop {fl:Value}{h:Heap}(x:FlyD B (env::outer) e cls dx fl h):FlyD B outer e cls dx fl h:=let ⟨a,b,⟨_,_,c⟩,d⟩:=x;⟨a,b,c,d⟩
end
end L2
namespace L2
open PySem PySem.Spec PyProof.Rows Builtin Builtin.ObjectAttr
def clsX (K:W.Frag) (C:Addr) (bmB:List Value) (nid:String):Bool:=match K.lookup C with
 | some ⟨.type "type",_,.cls cd,kk⟩=>cd.hasDict && (match cd.mro,kk.toList with | .ref C2::tl,[_,_,_,_,some (.builtin n2),_]=>C2 == C && (n2 == nid && (!cd.hasDel && W.tailIn K bmB tl)) | _,_=>false)
 | _=>false
structure HasX (h:Heap) (C:Addr) (bmB:List Value) (nid:String):Prop where
 ex:∃(nm q:Str) (N:Addr) (bs bm:List Value) (sn:List Str) (sub:List Value) (ab:Bool) (col:Option Bool) (dd:Option Addr) (k0 k1 k2 k3 k5:Option Value),
  h.get? C=some (excClassObj nm q C N bs bm true sn sub ab col dd k0 k1 k2 k3 k5 nid)/\OwnTail h bmB bm
abbrev excRec (C t:Addr) (d:Option Addr):Obj:={ cls:=.ref C,dict:=d,data:=.fields #[.ref t,.none,.none,.none,.bool false,.none] }
def ExcM (a C:Addr) (d:Option Addr):HO:=.ext λ h=>∃t,h.get? a=some (excRec C t d)
def ExcF (d:Addr) (fs:List (Str × V)):HO:=.ext λ h=>fs.length≤1000/\∃mA,h.Ns1 d mA/\(∀f,RelO (fs.lookup f) (mA f))/\PySem.Within mA (fs.map (·.1))
section
variable {prog:Program}{w:World}{A:Around}{E:Value->Shared->Prop}{h:Heap}{g:Array GenState}{dr:Drawn}{tk:Nat}{os:OsState}{C:Addr}{bmB:List Value}{B nid initId:String}
end
end L2
namespace L2
open PySem PySem.Spec PyProof.Rows Builtin Builtin.ObjectAttr
section
variable {prog:Program}{w:World}{A:Around}{E:Value->Shared->Prop}{h:Heap}{g:Array GenState}{dr:Drawn}{tk:Nat}{os:OsState}{C x:Addr}{bmB:List Value}{B nid initId:String}{K:W.Frag}
def overX:List Value->Bool
 | .ref _::r=>overX r
 | l=>l == [.type "ValueError",.type "Exception",.type "BaseException",.type "object"]
structure AtX (K:W.Frag) (C:Addr):Prop where
 over:(W.clsIn K C).any (λ cd=>cd.hasDict && overX cd.mro)=true
 sa:W.findIn K (.ref C) "__setattr__" = some (some (.builtin "object.__setattr__"))
 ga:W.findIn K (.ref C) "__getattribute__" = some (some (.builtin "BaseException.__getattribute__"))
theorem AtX.cls (a:AtX K C):∃cd,W.clsIn K C=some cd/\cd.hasDict=true/\overX cd.mro=true:=by
 obtain ⟨cd,hc,q⟩:=W.any_some a.over
 rw [Bool.and_eq_true] at q
 exact ⟨cd,hc,q.1,q.2⟩
end
def rm (H:Hp) (a:Addr):Hp:=λ b=>if b=a then none else H b
section
variable {P:Program}{w:World}{K:W.Frag}{mg:Str->Option Value}{base:Heap}{N:List Str}{qual:Str}{scope:Scope}{f:Addr}{cd:Value}{A:Around}{outer:List Env}{s:Shared}{H:Hp}{E:XK}
end
section
variable {M:Model}{A:Around}{E:Value->Shared->Prop}{env:Env}{C:Addr}{bmB:List Value}{nid:String}
end
structure MkX (K:W.Frag) (C f:Addr) (bmB:List Value) (nid:String):Prop where
 cls:clsX K C bmB nid=true
 init:W.findIn K (.ref C) "__init__" = some (some (.ref f))
 fn:W.isFn K (.ref f)=true
 kp:W.keepIn K (.ref C)=true
def tRaiseX (C:Addr) (sp:Sp) (Ex:XK) (t:TA):TS:=λ _ σ H=>t σ H λ vs H1=>vs.length≤sizeLine/\∀a,H1 a=none ->
 sp (.ref a::vs) (upd H1 a (ExcM a C none)) (λ v H2=>v=.non/\∃dx,H2 a=some (ExcM a C (some dx))/\Ex (.ref C) (some dx) (rm H2 a)) E0
end L2
namespace L2
open PySem PySem.Spec PyProof.Rows PySem.W
def ExcD (a C d:Addr):HO:=.ext λ h=>∃o vs,h.get? a=some o/\o.cls=.ref C/\o.data=.fields vs/\o.dict=some d
section
variable {X:Cx}{o e value:Expr}{f:Str}{pos pos' tpos:Pos}{ta tv:TE}
def tInitX (K:W.Frag) (bm:List Value) (nid:String) (t:TA):TE:=λ σ H Q=>t σ H λ vs H1=>∃a C d ws,vs=.ref a::ws/\H1 a=some (ExcM a C d)/\clsX K C bm nid=true/\ws.length≤sizeLine/\Q .non H1
def sXf0 (K:W.Frag) (ta tv:TE) (f:Str):TS:=λ D σ H=>tv σ H λ y H1=>ta σ H1 λ x H2=>∃a C,x=.ref a/\H2 a=some (ExcM a C none)/\AtX K C/\NoAttr K C f /\
 ∀dx,H2 dx=none->dx≠a->D.nx σ (upd (upd H2 dx (ExcF dx [(f,y)])) a (ExcM a C (some dx)))
def sXf1 (K:W.Frag) (ta tv:TE) (f:Str):TS:=λ D σ H=>tv σ H λ y H1=>ta σ H1 λ x H2=>∃a C dx fs,x=.ref a/\H2 a=some (ExcM a C (some dx))/\H2 dx=some (ExcF dx fs)/\AtX K C/\NoAttr K C f/\fs.length < 1000 /\
 D.nx σ (upd H2 dx (ExcF dx (putF f y fs)))
def tXFld (K:W.Frag) (ta:TE) (f:Str):TE:=λ σ H Q=>ta σ H λ x H1=>∃a C d fs v,x=.ref a/\H1 a=some (ExcD a C d)/\H1 d=some (ExcF d fs)/\AtX K C/\NoAttr K C f/\NoAttr K C "__getattr__" /\ fs.lookup f=some v/\Q v H1
end
def caughtD (C:Addr) (i:Nat) (ts:TS) (D:Ends):St->XK:=λ σ1 cls d H1=>cls=.ref C/\∃dx,d=some dx/\∀a,H1 a=none->ts (goneEnds D i) (σ1.set i (some (.ref a))) (upd H1 a (ExcD a C dx))
def tTryD (C:Addr) (i:Nat) (tb:(St->XK)->TS) (ts:TS):TS:=λ D σ H=>tb (caughtD C i ts D) D σ H
def CompZI (K:PySem.W.Frag) (k:Nat) (js:List Nat) (g:TG) (tc:TT) (te:TE) (σ:St) (vs:List V) (H1:Hp) (Q:VK):Prop:=∃a b xs ys,vs=[.ref a,.ref b]/\SqT K H1 a xs/\SqT K H1 b ys/\∃W:Nat->Nat->List V->St->Hp->Prop,(∃m,W 0 m [] (compSt k js σ) H1)/\∀i m zs σ' H',W i m zs σ' H' ->
  ((Itz K a b).stop i H'/\∀p,H' p=none->Q (.ref p) (upd H' p (.lst zs))) \/
  ((Itz K a b).go i H'/\zs.length < sizeLine/\∃N:List V->St->Hp->Prop,(∀zs σ2 H2,N zs σ2 H2->∃m',m' < m/\W (i+1) m' zs σ2 H2)/\∀x H2,(Itz K a b).yld i H' x H2->g x σ' H2 λ σ3 H3=>tc σ3 H3 λ b H4=>if b=true then te σ3 H4 λ v H5=>N (zs++[v]) σ3 H5 else N zs σ3 H4)
theorem comp_eqZI {K:W.Frag}{k:Nat}{js:List Nat}{ta:TA}{g:TG}{tc:TT}{te:TE}{σ:St}{H:Hp}{Q:VK}:tCompI (iZip K ta) k js g tc te σ H Q=ta σ H λ vs H1=>CompZI K k js g tc te σ vs H1 Q:=rfl
theorem CompZI.mk {K:W.Frag}{a b:Addr}{xs ys:List V}{k:Nat}{js:List Nat}{g:TG}{tc:TT}{te:TE}{Q:VK}{σ:St}{H:Hp}(n:Nat) (hn:n=min xs.length ys.length) (h1:SqT K H a xs) (h2:SqT K H b ys) (Pv:Nat->List V->St->Hp->Prop) (h0:Pv 0 [] (compSt k js σ) H) (hl:∀i zs σ H,i≤n->Pv i zs σ H->SqT K H a xs/\SqT K H b ys/\zs.length < sizeLine)
  (hs:∀i x y zs σ H T,i < n->xs[i]?=some x->ys[i]?=some y->Pv i zs σ H->H T=none->g (.ref T) σ (upd H T (.tup [x,y])) λ σ3 H3=>tc σ3 H3 λ b H4=>if b=true then te σ3 H4 λ v H5=>Pv (i+1) (zs++[v]) σ3 H5 else Pv (i+1) zs σ3 H4) (hz:∀zs σ H,Pv n zs σ H->∀p,H p=none->Q (.ref p) (upd H p (.lst zs))) :
  CompZI K k js g tc te σ [.ref a,.ref b] H Q:=by
 subst hn
 refine ⟨a,b,xs,ys,rfl,h1,h2,λ i m zs σ H=>m=min xs.length ys.length - i/\i≤min xs.length ys.length/\Pv i zs σ H,⟨_,rfl,Nat.zero_le _,h0⟩,?_⟩
 rintro i m zs σ H ⟨rfl,hi,p⟩
 obtain ⟨k1,k2,k3⟩:=hl i zs σ H hi p
 by_cases hlt:i < min xs.length ys.length
 ·have l1:i < xs.length:=by omega
  have l2:i < ys.length:=by omega
  refine .inr ⟨⟨xs,ys,_,_,k1,k2,List.getElem?_eq_getElem l1,List.getElem?_eq_getElem l2⟩,k3,Pv (i+1),λ zs' σ' H' p'=>⟨min xs.length ys.length - (i+1),by omega,rfl,hlt,p'⟩,λ v H' yy=>?_⟩
  obtain ⟨T,x,y,rfl,hT,rfl,ex⟩:=yy
  obtain ⟨ex1,ex2⟩:=ex xs ys k1 k2
  exact hs i x y zs σ H T hlt ex1 ex2 p hT
 ·have e:i=min xs.length ys.length:=by omega
  exact .inl ⟨⟨xs,ys,k1,k2,by omega⟩,hz zs σ H (e ▸ p)⟩
structure CalM (P:Program) (w:World) (K:W.Frag) (mg:Str->Option Value) (base:Heap) (CX:CXT) (k:Nat) (C:Addr) (m:Str) (ps:List Str) (sp:Sp):Prop where
 has:∃(f:Addr) (fd:FuncData),FnOk P w K mg base CX k f fd ps sp/\Meth K C m f/\Binds K fd ps []
theorem CalM.mono {P:Program}{w:World}{K:W.Frag}{mg:Str->Option Value}{base:Heap}{CX:CXT}{j k:Nat}{C:Addr}{m:Str}{ps:List Str}{sp:Sp}(c:CalM P w K mg base CX j C m ps sp) (h:j≤k):CalM P w K mg base CX k C m ps sp :=
 let ⟨f,fd,ok,m,b⟩:=c.has;⟨⟨f,fd,ok.mono h,m,b⟩⟩
structure MakC (P:Program) (w:World) (K:W.Frag) (mg:Str->Option Value) (base:Heap) (CX:CXT) (k:Nat) (C:Addr) (x:Str) (ps:List Str) (sp:Sp):Prop where
 has:∃(f:Addr) (fd:FuncData),FnOk P w K mg base CX k f fd ps sp/\Mk K C f/\Binds K fd ps []/\mg x=some (.ref C)
theorem MakC.mono {P:Program}{w:World}{K:W.Frag}{mg:Str->Option Value}{base:Heap}{CX:CXT}{j k:Nat}{C:Addr}{x:Str}{ps:List Str}{sp:Sp}(c:MakC P w K mg base CX j C x ps sp) (h:j≤k):MakC P w K mg base CX k C x ps sp :=
 let ⟨f,fd,ok,m,b,g⟩:=c.has;⟨⟨f,fd,ok.mono h,m,b,g⟩⟩
section
variable {X:Cx}{CX:CXT}{k:Nat}{f C:Addr}{fd:FuncData}{ps:List Str}{sp:Sp}{dvs:List V}{ds:List Value}{E:XK}{EE:St->XK}{x m:Str}{p pos apos:Pos}{e o:Expr}{es:List Expr}{ta:TE}{t:TA}
def tMethX (C:Addr) (m:Str) (sp:Sp) (EE:St->XK) (ta:TE) (t:TA):TE:=λ σ H Q=>ta σ H λ x H1=>∃a dx fs,x=.ref a/\H1 a=some (.ins C dx fs)/\fs.lookup m=none/\t σ H1 λ vs H2=>sp (x::vs) H2 Q (EE σ)
def tMakeX (C:Addr) (sp:Sp) (EE:St->XK) (t:TA):TE:=λ σ H Q=>t σ H λ vs H1=>∀x dx,H1 x=none->H1 dx=none->dx≠x->sp (.ref x::vs) (upd (upd H1 dx (.own x)) x (.ins C dx [])) (λ v H2=>v=.non/\Q (.ref x) H2) (EE σ)
theorem run_fnX {pins:List (Addr × Obj)}{σ:St}{H:Hp}{s:Shared}{Q:VK}{us:List Value}{vs:List V}(F:FnOk X.prog X.w X.K X.mg X.base CX k f fd ps sp) (hr:Room k X.A) (hb:Binds X.K fd ps []) (hx:∀σ,PassesAt CX X (EE σ) σ)
  (I:Inv X pins σ H s) (r:Vals vs us) (h:sp vs H Q (EE σ)):wpAny (model X.prog X.w) X.A (call (.ref f) us) (EP X pins σ Q) X.xe s:=by
 have hl:(us++[]).length=ps.length:=by rw [List.append_nil,← r.length];exact F.len _ _ _ _ h
 refine wpAny_call (codeAny_mono (F.run X.A X.stack s H ⟨us,[]⟩ (us++[]) vs Q (EE σ) hr I.env0 (hb s us I.kIn hl) (by rw [List.append_nil];exact r) h) λ r s' hq=>?_)
 cases r with
 | error e=>exact hx σ pins H s e s' I hq
 | ok fl =>
  cases fl with
  | ret u=>exact I.after hq
  | next=>exact False.elim hq
  | brk=>exact False.elim hq
  | cont=>exact False.elim hq
theorem pe_met {pl:Sem Bool}(c:Cls X.K C) (h:CalM X.prog X.w X.K X.mg X.base CX k C m ps sp) (hr:Room k X.A) (hx:Passes CX X E) (he:PE X o ta) (ha:PA X (e::es) t)
  (hst:starEach (e::es) X.env=(false,eval e X.env)::starEach es X.env:=by rfl) (hpl:(backTo pos (starEach es X.env)).any (·.1)=false:=by rfl)
  (ht:eval (.Call (.Attribute o m apos) (e::es) [] pos) X.env=(do
   let ov ← eval o X.env
   standAt apos.atName
   let (f,first) ← holding [ov] (getMethod ov m pl)
   callWith pos f first (backTo pos (starEach (e::es) X.env)) (backToKw pos (keywordEach [] X.env))):=by rfl) :
  PE X (.Call (.Attribute o m apos) (e::es) [] pos) (tMeth C m sp [] E ta t):=by
 obtain ⟨f,fd,F,hm,hb⟩:=h.has
 exact pe_meth he c hm F hr hb .nil hx ha hst hpl ht
theorem pe_met0 {pl:Sem Bool}(c:Cls X.K C) (h:CalM X.prog X.w X.K X.mg X.base CX k C m ps sp) (hr:Room k X.A) (hx:Passes CX X E) (he:PE X o ta)
  (ht:eval (.Call (.Attribute o m apos) [] [] pos) X.env=(do
   let ov ← eval o X.env
   standAt apos.atName
   let (f,first) ← holding [ov] (getMethod ov m pl)
   callWith pos f first (backTo pos (starEach [] X.env)) (backToKw pos (keywordEach [] X.env))):=by rfl) :
  PE X (.Call (.Attribute o m apos) [] [] pos) (tMeth C m sp [] E ta tNil):=by
 obtain ⟨f,fd,F,hm,hb⟩:=h.has
 exact pe_meth0 he c hm F hr hb .nil hx ht
theorem pe_metX {pl:Sem Bool}(c:Cls X.K C) (h:CalM X.prog X.w X.K X.mg X.base CX k C m ps sp) (hr:Room k X.A) (hx:∀σ,PassesAt CX X (EE σ) σ) (he:PE X o ta) (ha:PA X (e::es) t)
  (hst:starEach (e::es) X.env=(false,eval e X.env)::starEach es X.env:=by rfl) (hpl:(backTo pos (starEach es X.env)).any (·.1)=false:=by rfl)
  (ht:eval (.Call (.Attribute o m apos) (e::es) [] pos) X.env=(do
   let ov ← eval o X.env
   standAt apos.atName
   let (f,first) ← holding [ov] (getMethod ov m pl)
   callWith pos f first (backTo pos (starEach (e::es) X.env)) (backToKw pos (keywordEach [] X.env))):=by rfl) :
  PE X (.Call (.Attribute o m apos) (e::es) [] pos) (tMethX C m sp EE ta t):=by
 obtain ⟨f,fd,F,hm,hb⟩:=h.has
 intro pins s σ H Q I h
 refine W.methodCall_KW (pl:=pl) (thn (he pins s σ H _ I h) λ u s1 ⟨x,H1,I1,rx,a,dx,fs,ex,ea,l,q⟩=>?_) ht
 subst ex
 obtain rfl:u=Value.ref a:=rx
 refine getmeth_ok I1 ea c hm l ?_
 refine W.callWith_K (first:=[.ref a]) (h₀:=X.base) I.ok.mod.kin hm.kp (thn (ha pos pins s1 σ H1 _ I1 q) λ us s2 ⟨vs,H2,I2,r,q2⟩=>⟨I2.kIn,?_⟩) hst hpl
 exact run_fnX (us:=.ref a::us) (vs:=.ref a::vs) F hr hb hx I2 (.cons rfl r) q2
theorem pe_met0X {pl:Sem Bool}(c:Cls X.K C) (h:CalM X.prog X.w X.K X.mg X.base CX k C m ps sp) (hr:Room k X.A) (hx:∀σ,PassesAt CX X (EE σ) σ) (he:PE X o ta)
  (ht:eval (.Call (.Attribute o m apos) [] [] pos) X.env=(do
   let ov ← eval o X.env
   standAt apos.atName
   let (f,first) ← holding [ov] (getMethod ov m pl)
   callWith pos f first (backTo pos (starEach [] X.env)) (backToKw pos (keywordEach [] X.env))):=by rfl) :
  PE X (.Call (.Attribute o m apos) [] [] pos) (tMethX C m sp EE ta tNil):=by
 obtain ⟨f,fd,F,hm,hb⟩:=h.has
 intro pins s σ H Q I h
 refine W.methodCall_KW (pl:=pl) (thn (he pins s σ H _ I h) λ u s1 ⟨x,H1,I1,rx,a,dx,fs,ex,ea,l,q⟩=>?_) ht
 subst ex
 obtain rfl:u=Value.ref a:=rx
 refine getmeth_ok I1 ea c hm l ?_
 exact W.callWith_K0 (first:=[.ref a]) I1.kIn hm.kp (run_fnX (us:=[.ref a]) (vs:=[.ref a]) F hr hb hx I1 (.cons rfl .nil) q)
theorem pe_mak (h:MakC X.prog X.w X.K X.mg X.base CX k C x ps sp) (hr:Room (k+1) X.A) (hg:Gl X x) (hx:Passes CX X E) (ha:PA X (e::es) t)
  (hdb:(x == ("__debug__" : Str))=false:=by decide) (he:starEach (e::es) X.env=(false,eval e X.env)::starEach es X.env:=by rfl) (hpl:(backTo pos (starEach es X.env)).any (·.1)=false:=by rfl) :
  PE X (.Call (.Name x p) (e::es) [] pos) (tMake C sp [] E t):=by
 obtain ⟨f,fd,F,M,hb,hm⟩:=h.has
 exact pe_make M F hr hg hm hb .nil hx ha hdb he hpl
theorem run_makeX {pins:List (Addr × Obj)}{σ:St}{H:Hp}{s:Shared}{Q:VK}{us:List Value}{vs:List V}(M:Mk X.K C f) (F:FnOk X.prog X.w X.K X.mg X.base CX k f fd ps sp) (hr:Room (k+1) X.A) (hb:Binds X.K fd ps [])
  (hx:∀σ,PassesAt CX X (EE σ) σ) (I:Inv X pins σ H s) (r:Vals vs us)
  (h:∀x dx,H x=none->H dx=none->dx≠x->sp (.ref x::vs) (upd (upd H dx (.own x)) x (.ins C dx [])) (λ v H2=>v=.non/\Q (.ref x) H2) (EE σ)) :
  wpAny (model X.prog X.w) X.A (call (.ref C) us) (EP X pins σ Q) X.xe s:=by
 have hq:=h (s.heap.objs.size+1) s.heap.objs.size (I.hok.fresh (Nat.le_succ _)) (I.hok.fresh (Nat.le_refl _)) (Nat.ne_of_lt (Nat.lt_succ_self _))
 have I2:=Inv.made (C:=C) I
 have r2:Vals (V.ref (s.heap.objs.size+1)::vs) (Value.ref (s.heap.objs.size+1)::us):=.cons rfl r
 have hl:(Value.ref (s.heap.objs.size+1)::us++[]).length=ps.length:=by
  have e:=r2.length
  rw [F.len _ _ _ _ hq] at e
  rw [List.append_nil]
  exact e.symm
 refine wpAny_call (make_map (f:=f) I.kIn M.makes M.init (beq_iff_eq.mp M.fn) (codeAny_mono (F.run _ X.stack _ _ ⟨Value.ref (s.heap.objs.size+1)::us,[]⟩ (Value.ref (s.heap.objs.size+1)::us++[]) _ _ (EE σ) (hr.make C us [])
  (I2.env0.make C us []) (hb _ (Value.ref (s.heap.objs.size+1)::us) I2.kIn hl) (by rw [List.append_nil];exact r2) hq) λ r s' hq'=>?_))
 cases r with
 | error e=>exact hx σ pins _ _ e s' I2 hq'
 | ok fl =>
  cases fl with
  | ret u =>
   obtain ⟨v,H',I3,rv,ev,q3⟩:=I2.after hq'
   subst ev
   exact ⟨rv,⟨V.ref (s.heap.objs.size+1),H',I3,rfl,q3⟩⟩
  | next=>exact False.elim hq'
  | brk=>exact False.elim hq'
  | cont=>exact False.elim hq'
theorem pe_makX (h:MakC X.prog X.w X.K X.mg X.base CX k C x ps sp) (hr:Room (k+1) X.A) (hg:Gl X x) (hx:∀σ,PassesAt CX X (EE σ) σ) (ha:PA X (e::es) t)
  (hdb:(x == ("__debug__" : Str))=false:=by decide) (he:starEach (e::es) X.env=(false,eval e X.env)::starEach es X.env:=by rfl) (hpl:(backTo pos (starEach es X.env)).any (·.1)=false:=by rfl) :
  PE X (.Call (.Name x p) (e::es) [] pos) (tMakeX C sp EE t):=by
 obtain ⟨f,fd,F,M,hb,hm⟩:=h.has
 intro pins s σ H Q I h
 refine wpAny_Call_Name_kw (ld_glob I hg hm ?_ hdb)
 refine W.callWith_K (h₀:=X.base) I.ok.mod.kin M.kp (thn (ha pos pins s σ H _ I h) λ us s1 ⟨vs,H1,I1,r,q⟩=>⟨I1.kIn,?_⟩) he hpl
 exact run_makeX M F hr hb hx I1 r q
end
section
variable {X:Cx}
abbrev metL (ns:List Int):List Int:=firstMet (λ i=>ns.getD i 0) ns.length
theorem call_setI (hc:X.calm=true):CallR X (.type "set") (λ xs H Q=>∃p ns,xs=[.ref p]/\SqL X.K H p (List.map V.int ns)/\ns.length≤1000/\∀l,H l=none->Q (.ref l) (upd H l (.set (λ k'=>(metL ns).any λ x=>x == k') (metL ns).length))):=by
 intro pins s σ H xs us Q I r h
 obtain ⟨p,ns,rfl,hq,hn,q⟩:=h
 obtain ⟨u,rfl,rx⟩:=vals1 r
 cases rx
 obtain ⟨its,r',pl,hz⟩:=I.list hq
 have hi:=intsAre_of r'
 have hl:its.toArray.size=ns.length:=by rw [List.size_toArray];have:=hi.length;simpa using this
 refine call_set_list (I.ok.hd hc) pl.isList hi (by rw [hl];exact Nat.lt_of_le_of_lt (Nat.succ_le_succ hn) (by decide)) λ h' tk so ol=>?_
 rw [hl] at so
 exact ⟨.ref s.heap.objs.size,_,I.laid (a:=s.heap.objs.size) (o:=.set (λ k'=>(metL ns).any λ x=>x == k') (metL ns).length) (h':=h') (t':=tk) (λ b o e=>ol b o (Heap.lt_size e) e) (Nat.le_refl _) so,rfl,q _ (I.hok.fresh (Nat.le_refl _))⟩
theorem call_lenS:CallR X (.builtin "len") (λ xs H Q=>∃a S n,xs=[.ref a]/\H a=some (.set S n)/\Q (.int (n:Nat)) H):=by
 intro pins s σ H xs us Q I r h
 obtain ⟨a,S,n,rfl,ha,q⟩:=h
 obtain ⟨u,rfl,rx⟩:=vals1 r
 cases rx
 obtain ⟨o,es,ep,t,h1,h2,h3,_,_,h6,h7,h8⟩:=(show Heap.SetOf (intKind X.prog X.w) s.heap a S n from I.hok a _ ha)
 subst h8
 exact call_len_set h1 h2 h3 h7 (Int.lt_trans (Int.ofNat_lt.mpr h6) (by decide)) ⟨.int es.size,H,I.tok _,⟨_,rfl⟩,q⟩
theorem mr_clear:MtR X "list.clear" rClear:=mt_clear
theorem pe_fldK {K:W.Frag}{e:Expr}{ta:TE}{f:Str}{pos:Pos}(hK:X.K=K) (he:PE X e ta) (hb:attributeBase e f X.env (eval e X.env)=eval e X.env):PE X (.Attribute e f pos) (tFld K ta f):=by subst hK;exact pe_fld he hb
end
end L2
namespace PySem.W.Fast
theorem tw529583457390498531:True:=⟨⟩
theorem tw17583570112795634111:True:=⟨⟩
theorem tw5964091869662110769:True:=⟨⟩
theorem tw574224694383449370:True:=⟨⟩
theorem tw4448155416488695498:True:=⟨⟩
theorem tw8084136175807619166:True:=⟨⟩
theorem tw8650950178533643555:True:=⟨⟩
theorem tw11874970135500234269:True:=⟨⟩
theorem tw4633444459569325178:True:=⟨⟩
theorem tw15482465769071507040:True:=⟨⟩
theorem tw6050829844648740334:True:=⟨⟩
theorem tw8535861593021645805:True:=⟨⟩
theorem tw10660411960118393103:True:=⟨⟩
theorem tw13494732808808541888:True:=⟨⟩
theorem tw18021065815603352858:True:=⟨⟩
theorem tw9853941495645380500:True:=⟨⟩
theorem tw12484604389217766089:True:=⟨⟩
theorem tw13749843440842830936:True:=⟨⟩
theorem tw7769075734164166425:True:=⟨⟩
theorem tw12881910465419465747:True:=⟨⟩
theorem tw18114248683117745515:True:=⟨⟩
theorem tw17806781904387520898:True:=⟨⟩
theorem tw3297597681607487531:True:=⟨⟩
theorem tw13465985445850095028:True:=⟨⟩
theorem tw10501670797246210472:True:=⟨⟩
theorem tw4711743275996503354:True:=⟨⟩
theorem tw9629632458050601718:True:=⟨⟩
theorem tw5714615287498073060:True:=⟨⟩
theorem tw17416340086392238258:True:=⟨⟩
theorem tw17872721079548597811:True:=⟨⟩
theorem tw13723508911660912164:True:=⟨⟩
theorem tw13611930599588279351:True:=⟨⟩
theorem tw16120237554166497644:True:=⟨⟩
theorem tw14999725956143836680:True:=⟨⟩
theorem tw10483925753959907709:True:=⟨⟩
theorem tw10189445275262692874:True:=⟨⟩
theorem tw1395268711176242858:True:=⟨⟩
theorem tw2605696073368408123:True:=⟨⟩
theorem tw7816724707911225577:True:=⟨⟩
theorem tw4917636489804960171:True:=⟨⟩
theorem tw10444574500169211625:True:=⟨⟩
theorem tw5692308778411069408:True:=⟨⟩
theorem tw13453505924510631999:True:=⟨⟩
theorem tw10488568587688726168:True:=⟨⟩
theorem tw9827157277175313860:True:=⟨⟩
theorem tw7325349568045122942:True:=⟨⟩
theorem tw15320788813205300132:True:=⟨⟩
theorem tw7595486718104040106:True:=⟨⟩
theorem tw14072609632799063312:True:=⟨⟩
theorem tw5128221652582282781:True:=⟨⟩
theorem tw12687257607103323909:True:=⟨⟩
theorem tw4876486336560044999:True:=⟨⟩
theorem tw5268025799481581188:True:=⟨⟩
theorem tw11252088646955281214:True:=⟨⟩
theorem tw14536097395588942816:True:=⟨⟩
theorem tw14587283869146098388:True:=⟨⟩
theorem tw4759232080615746282:True:=⟨⟩
theorem tw14512907931332845513:True:=⟨⟩
theorem tw9416927810504410764:True:=⟨⟩
theorem tw4231426205971765021:True:=⟨⟩
theorem tw18264677574496916931:True:=⟨⟩
theorem tw11459318885504827938:True:=⟨⟩
theorem tw13688273260402651644:True:=⟨⟩
theorem tw13166348802389506845:True:=⟨⟩
theorem tw4017242057853980845:True:=⟨⟩
theorem tw7863420471702907131:True:=⟨⟩
theorem tw4069323937401263906:True:=⟨⟩
theorem tw6642463432291966747:True:=⟨⟩
theorem tw14616733932086434808:True:=⟨⟩
theorem tw12170862892773191634:True:=⟨⟩
theorem tw8119051699015160989:True:=⟨⟩
theorem tw10545826772844663230:True:=⟨⟩
theorem tw11060751679373483743:True:=⟨⟩
theorem tw3574667214506068705:True:=⟨⟩
theorem tw8878870521077207137:True:=⟨⟩
theorem tw4601626987075874386:True:=⟨⟩
theorem tw8701246710122806814:True:=⟨⟩
theorem tw2804779199970284516:True:=⟨⟩
theorem tw9589760253776689281:True:=⟨⟩
theorem tw3293971932724497859:True:=⟨⟩
theorem tw1588816360708246573:True:=⟨⟩
theorem tw2654276770714832740:True:=⟨⟩
theorem tw2966288598515327046:True:=⟨⟩
theorem tw12000046058831076003:True:=⟨⟩
theorem tw2110531103429775997:True:=⟨⟩
theorem tw16138517686345802467:True:=⟨⟩
theorem tw2749914463792017447:True:=⟨⟩
theorem tw15596085924424027194:True:=⟨⟩
theorem tw6249951325884850333:True:=⟨⟩
theorem tw11430752620769227217:True:=⟨⟩
theorem tw16415749623237027398:True:=⟨⟩
theorem tw1074328870672320797:True:=⟨⟩
theorem tw13657136262661753972:True:=⟨⟩
theorem tw3270076157719590987:True:=⟨⟩
theorem tw13920120392292740286:True:=⟨⟩
theorem tw3230952006042754240:True:=⟨⟩
theorem tw13921954779675652901:True:=⟨⟩
theorem tw969381342342699423:True:=⟨⟩
theorem tw14790555920012947994:True:=⟨⟩
theorem tw14201638996044222564:True:=⟨⟩
theorem tw3266337807489513002:True:=⟨⟩
theorem tw15139731520880744831:True:=⟨⟩
theorem tw14066569014953995198:True:=⟨⟩
theorem tw108711629432302580:True:=⟨⟩
theorem tw8657834955473533118:True:=⟨⟩
theorem tw15239934739326065668:True:=⟨⟩
theorem tw7889628903644008232:True:=⟨⟩
theorem tw1517926074374333242:True:=⟨⟩
theorem tw13953007889137668969:True:=⟨⟩
theorem tw1679888357881898099:True:=⟨⟩
theorem tw7130197837203203589:True:=⟨⟩
theorem tw3375365603926351250:True:=⟨⟩
theorem tw13539307629737058253:True:=⟨⟩
theorem tw9913137074164348073:True:=⟨⟩
theorem tw15360169413466768679:True:=⟨⟩
theorem tw8481523369696455571:True:=⟨⟩
theorem tw17472995154829114536:True:=⟨⟩
theorem tw16568292704342067495:True:=⟨⟩
theorem tw16180541793956864515:True:=⟨⟩
theorem tw15916655944715853016:True:=⟨⟩
theorem tw2177327993346391535:True:=⟨⟩
theorem tw4832715589178283809:True:=⟨⟩
theorem tw7401421366256742274:True:=⟨⟩
theorem tw18399587844065193746:True:=⟨⟩
theorem tw13864625592252258422:True:=⟨⟩
theorem tw16563350075299703344:True:=⟨⟩
theorem tw8710197961948959692:True:=⟨⟩
theorem tw14725429879606274084:True:=⟨⟩
theorem tw6168940807691937925:True:=⟨⟩
theorem tw4339087011430630715:True:=⟨⟩
theorem tw17867201936604213423:True:=⟨⟩
theorem tw5982522147747021028:True:=⟨⟩
theorem tw6183933447272218747:True:=⟨⟩
theorem tw830836609438131722:True:=⟨⟩
theorem tw17209286080203182500:True:=⟨⟩
theorem tw13172349219947155650:True:=⟨⟩
theorem tw691980530296692560:True:=⟨⟩
theorem tw3489987032031358436:True:=⟨⟩
theorem tw18229559056376286217:True:=⟨⟩
theorem tw13699104266884494602:True:=⟨⟩
theorem tw10604190205431646630:True:=⟨⟩
theorem tw11490481699327839867:True:=⟨⟩
theorem tw1835349879236675254:True:=⟨⟩
theorem tw6061102430946485580:True:=⟨⟩
theorem tw6651294976038673610:True:=⟨⟩
theorem tw17447650962870366490:True:=⟨⟩
theorem tw15851624516748242063:True:=⟨⟩
theorem tw240300722416699770:True:=⟨⟩
theorem tw784314322841733471:True:=⟨⟩
theorem tw1484766831727327438:True:=⟨⟩
theorem tw15653097963967662622:True:=⟨⟩
theorem tw12853529718160647130:True:=⟨⟩
theorem tw413709750581567892:True:=⟨⟩
theorem tw13962423130676596872:True:=⟨⟩
theorem tw2097070307614552102:True:=⟨⟩
theorem tw14066959783464288796:True:=⟨⟩
theorem tw13693147870801929111:True:=⟨⟩
theorem tw4129318503485565016:True:=⟨⟩
theorem tw7189641535875513726:True:=⟨⟩
theorem tw17273069044222526051:True:=⟨⟩
theorem tw15772005771763786989:True:=⟨⟩
theorem tw10335077062038745047:True:=⟨⟩
theorem tw11990355124887220174:True:=⟨⟩
theorem tw16552293251635925786:True:=⟨⟩
theorem tw7078011290411359603:True:=⟨⟩
theorem tw10755848328875969132:True:=⟨⟩
theorem tw2310728600965733967:True:=⟨⟩
theorem tw6767207721924615026:True:=⟨⟩
theorem tw8708806500983983915:True:=⟨⟩
theorem tw14060631721739502980:True:=⟨⟩
end PySem.W.Fast
namespace My
open PySem L2 PyProof.Rows
local macro_rules | `(tactic| wp_walk using $xs:term,*)=>`(tactic| simp only [rPopAt,rCount,tBMf,rStarts,rSlStrX,tKTab,rKTab,tKIn,for_eqZM,comp_eqZM,comp_eqTI,gTup,rJoinD,rJoinW,rMulS,rIxQ,rExtend,rSplit,rInN,rMulC,tDGet1,tDIn,sDPut,tDNewK,rRep,rExtendT,rUpdate,rEqD,rNeD,for_eqQ,comp_eqQ,for_eqVL,tCalV,tLam,for_eqE,rIndex,rIndexT,for_eqZN,comp_eqZN,comp_eqZ3,comp_eqLI,comp_eqRI,tRaiseX,tTryD,caughtD,tXFld,tInitX,sXf0,sXf1,comp_eqZI,tMethX,tMakeX,tMeth,tMake,tFld,sFld,rClear,tDNotIn,tDNewT,for_eqZL,comp_eqZL,rCatL,for_eqX,comp_eqX,rFind,tFR,rSlStr,rUpper,rJoin,tBM0,tBM,tyV,for_eqEL,rSlTA,tTryN,caughtN,catchN,comp_eqE,comp_eqEI,rNeT,rNeL,tRaise,tTry,tCallX,caughtBy,goneEnds,tTupRev,rCatA,rEqL,rEqT,for_eqV,for_eqZ,comp_eqZ,for_eqR3,comp_eqR3,rCatS,rSlTS,tSl,tNoPart,tPart,rSetL,gSub,rIxT,tRet,tRetN,tNext,tVar,tC,tOp,tUn,rI,rI0,rU,rEq,rNe,tTest,tB,tNot,tAnd,tOr,tAndV,tOrV,tNotV,tIf,tCall,tCB,tNil,tCons,tChain,tLst,tTup,tAsg,gName,tDrop,tNever,rIxL,rCat,CPow,CMul,CDiv,CDivN,CDivW,L2.start,scal,for_eqL,for_eqT,for_eqR1,for_eqR2,comp_eqL,comp_eqT,comp_eqR1,cxOf_K,cxComp_K,isi_ii,isi_ib,isi_bi,isi_bb,isi_it,tyS,tApp,gTupH,gCons,gNil,rInT,rInL,rIxLH,rIxTH,flatV,upd_same,HO.lst.injEq,HO.tup.injEq,List.any_cons,List.any_nil,List.all_cons,List.all_nil,Bool.or_false,Bool.and_self,Bool.and_true,Bool.or_eq_true,beq_iff_eq,V.int.injEq,V.bl.injEq,V.str.injEq,V.ref.injEq,V.ty.injEq,List.map_cons,List.map_nil,List.length_cons,List.length_nil,List.cons_append,List.nil_append,List.getElem?_cons_zero,List.getElem?_cons_succ,Option.some.injEq,exists_eq_left',exists_eq_left,exists_and_left,List.cons.injEq,and_true,true_and,and_assoc,decide_eq_true_eq,List.set_cons_zero,List.set_cons_succ,List.replicate,Nat.sub_self,List.append_nil,Nat.add_sub_cancel,Nat.reduceAdd,Nat.reduceSub,Int.reduceLT,Int.reduceLE,Int.reduceNeg,Int.reduceSub,Int.reduceAdd,Int.reducePow,Int.reduceToNat,na2,na10,Nat.reducePow,Nat.reduceLT,if_true,if_false,Bool.not_true,Bool.not_false,Bool.false_eq_true,List.mem_cons,List.not_mem_nil,eq_self,true_or,or_true,or_false,false_or,String.reduceEq,Option.isSome_some,ne_eq,not_false_eq_true,not_true_eq_false,Bool.not_eq_true',decide_eq_false_iff_not,Bool.true_eq_false,$[$xs:term],*])
def top (i:Nat):Stmt:=PySem.Challenge.pw_sideloom_k57_rounds_of_a_fill.main.body.getD i (.Pass ⟨0,0,0,0⟩)
def prodI (ns:List Int):Int:=ns.foldl (λ a b=>a * b) 1
theorem prod_step {ns:List Int}{i:Nat}{x:Int}(h:ns[i]?=some x):prodI (ns.take (i+1))=prodI (ns.take i) * x:=by
 unfold prodI
 rw [List.take_add_one,h,List.foldl_append]
 rfl
def sdOk (ns:List Int):Prop:=∀n∈ns,0≤n/\n < 1000000000000000000
def one1 (n:Int):Int:=if n=0 then 1 else n
theorem sd_at {ns:List Int}(h:sdOk ns) {i:Nat}{x:V}(e:(ns.map V.int)[i]?=some x):∃m,x=.int m/\ns[i]?=some m/\0≤m/\m < 1000000000000000000:=by
 rw [List.getElem?_map] at e
 cases q:ns[i]? with
 | none=>rw [q] at e;cases e
 | some m =>
  rw [q] at e
  exact ⟨m,(Option.some.inj e).symm,rfl,h m (List.mem_of_getElem? q)⟩
def stP (ns:List Int) (j:Nat):Int:=prodI (ns.reverse.take j)
def stL (ns:List Int) (i:Nat):List Int:=(List.range i).map (stP ns)
theorem stL_succ (ns:List Int) (i:Nat):stL ns (i+1)=stL ns i++[stP ns i]:=by
 unfold stL;rw [List.range_succ,List.map_append];rfl
theorem stP_succ {ns:List Int}{i:Nat}{m:Int}(hi:i < ns.length) (h:ns[ns.length - 1 - i]?=some m):stP ns (i+1)=stP ns i * m:=by
 unfold stP
 exact prod_step (by rw [List.getElem?_reverse hi];exact h)
def bigI (ns:List Int):Prop:=6 < ns.length\/512 < prodI (ns.map one1)
theorem seq_with {A B:TS}{D:Ends}{σ:L2.St}{H:Hp}(J:L2.St->Hp->Prop) (h2:∀σ H,J σ H->B D σ H) (h1:∀R:L2.St->Hp->Prop,(∀σ H,J σ H->R σ H)->A { D with nx:=R } σ H):tSeq A B D σ H:=h1 (B D) h2
theorem mx_one {n:Int}(h:0≤n):(if n > 1 then n else 1)=one1 n:=by
 unfold one1
 by_cases h1:n=0
 ·rw [if_pos h1,if_neg (by omega)]
 ·rw [if_neg h1];split<;>omega
theorem len_map (ns:List Int):(ns.map V.int).length=ns.length:=List.length_map ..
def good (ns ms:List Int):Prop:=ms.length=ns.length/\∀(i:Nat) m n,ms[i]?=some m->ns[i]?=some n->0≤m/\m < n
def dotI (ms ss:List Int):Int:=(List.zipWith (λ a b=>a * b) ms ss).sum
theorem int_at {ms:List Int}{i:Nat}{y:V}(ey:(ms.map V.int)[i]?=some y):∃m,y=.int m/\ms[i]?=some m:=by
 rw [List.getElem?_map] at ey
 cases q:ms[i]? with
 | none=>rw [q] at ey;cases ey
 | some m=>rw [q] at ey;exact ⟨m,(Option.some.inj ey).symm,rfl⟩
def lfI (ns:List Int) (place:Int):Nat->Int
 | 0=>place
 | i+1=>lfI ns place i / ns.reverse.getD i 1
def dgI (ns:List Int) (place:Int) (i:Nat):Int:=lfI ns place i % ns.reverse.getD i 1
def dgL (ns:List Int) (place:Int) (i:Nat):List Int:=(List.range i).map (dgI ns place)
theorem dgL_succ (ns:List Int) (p:Int) (i:Nat):dgL ns p (i+1)=dgL ns p i++[dgI ns p i]:=by
 unfold dgL;rw [List.range_succ,List.map_append];rfl
theorem rev_get {ns:List Int}{i:Nat}{m:Int}(hi:i < ns.length) (h:ns[ns.length - 1 - i]?=some m):ns.reverse.getD i 1=m:=by
 rw [List.getD_eq_getElem?_getD,List.getElem?_reverse hi,h];rfl
theorem prod_app (xs:List Int) (y:Int):prodI (xs++[y])=prodI xs * y:=by unfold prodI;rw [List.foldl_append];rfl
theorem prod_from (xs:List Int):∀a:Int,xs.foldl (λ a b=>a * b) a=a * prodI xs:=by
 induction xs with
 | nil=>intro a;show a=a * 1;rw [Int.mul_one]
 | cons x xs ih=>intro a;show xs.foldl (λ a b=>a * b) (a * x)=a * (xs.foldl (λ a b=>a * b) (1 * x));rw [ih,ih (1 * x),Int.one_mul,Int.mul_assoc]
theorem prod_cons (x:Int) (xs:List Int):prodI (x::xs)=x * prodI xs:=by
 show xs.foldl (λ a b=>a * b) (1 * x)=_
 rw [prod_from,Int.one_mul]
theorem prod_rev (ns:List Int):prodI ns.reverse=prodI ns:=by
 induction ns with
 | nil=>rfl
 | cons x xs ih=>rw [List.reverse_cons,prod_app,prod_cons,ih,Int.mul_comm]
theorem prod_nz {ns:List Int}(h:prodI ns≠0):∀n∈ns,n≠0:=by
 induction ns with
 | nil=>intro n hn;cases hn
 | cons x xs ih =>
  rw [prod_cons] at h
  intro n hn
  rcases List.mem_cons.mp hn with rfl | hn
  ·intro z;rw [z,Int.zero_mul] at h;exact h rfl
  ·exact ih (λ z=>h (by rw [z,Int.mul_zero])) n hn
theorem stP_all (ns:List Int):stP ns ns.length=prodI ns:=by
 unfold stP;rw [← List.length_reverse,List.take_length,prod_rev]
theorem prod_nn {ns:List Int}(h:∀n∈ns,0≤n):0≤prodI ns:=by
 induction ns with
 | nil=>decide
 | cons x xs ih=>rw [prod_cons];exact Int.mul_nonneg (h x (List.mem_cons_self ..)) (ih λ n hn=>h n (List.mem_cons_of_mem _ hn))
theorem stP_nn {ns:List Int}(h:sdOk ns) (i:Nat):0≤stP ns i:=prod_nn λ n hn=>(h n (List.mem_reverse.mp (List.mem_of_mem_take hn))).1
def totI (ns:List Int) (pl:Int):Nat->Int
 | 0=>0
 | i+1=>totI ns pl i+dgI ns pl i * stP ns i
theorem at_rev (ns:List Int) {i:Nat}(hi:i < ns.length):∃m,ns[ns.length - 1 - i]?=some m/\m∈ns:=by
 have z:ns.length - 1 - i < ns.length:=by omega
 exact ⟨ns[ns.length - 1 - i],List.getElem?_eq_getElem z,List.getElem_mem z⟩
theorem tot_inv {ns:List Int}{pl:Int}:∀i,i≤ns.length->totI ns pl i+stP ns i * lfI ns pl i=pl
 | 0,_=>by show 0+1 * pl=pl;omega
 | i+1,h=>by
  obtain ⟨m,hm,_⟩:=at_rev ns (i:=i) (by omega)
  have ih:=tot_inv (ns:=ns) (pl:=pl) i (by omega)
  rw [stP_succ (by omega) hm]
  show totI ns pl i+dgI ns pl i * stP ns i+stP ns i * m * (lfI ns pl i / _)=pl
  have rg:=rev_get (by omega) hm
  unfold dgI
  rw [rg]
  have e:=Int.mul_ediv_add_emod (lfI ns pl i) m
  have e2:stP ns i * m * (lfI ns pl i / m)=stP ns i * (m * (lfI ns pl i / m)):=Int.mul_assoc ..
  have e3:stP ns i * (m * (lfI ns pl i / m))+stP ns i * (lfI ns pl i % m)=stP ns i * lfI ns pl i:=by rw [← Int.mul_add,e]
  have e4:lfI ns pl i % m * stP ns i=stP ns i * (lfI ns pl i % m):=Int.mul_comm ..
  omega
theorem lf_nn {ns:List Int}{pl:Int}(h:sdOk ns) (h0:0≤pl):∀i,i≤ns.length->0≤lfI ns pl i
 | 0,_=>h0
 | i+1,hi=>by
  obtain ⟨m,hm,mm⟩:=at_rev ns (i:=i) (by omega)
  show 0≤lfI ns pl i / _
  rw [rev_get (by omega) hm]
  exact Int.ediv_nonneg (lf_nn h h0 i (by omega)) (h m mm).1
theorem dg_in {ns:List Int}{pl:Int}(nz:∀n∈ns,n≠0) (h:sdOk ns) {i:Nat}{m:Int}(hi:i < ns.length) (hm:ns[ns.length - 1 - i]?=some m):0≤dgI ns pl i/\dgI ns pl i < m:=by
 unfold dgI
 rw [rev_get hi hm]
 have mm:=List.mem_of_getElem? hm
 have m0:=(h m mm).1
 have mz:=nz m mm
 exact ⟨Int.emod_nonneg _ mz,Int.emod_lt_of_pos _ (by omega)⟩
theorem tot_nn {ns:List Int}{pl:Int}(nz:∀n∈ns,n≠0) (h:sdOk ns):∀i,i≤ns.length->0≤totI ns pl i
 | 0,_=>Int.le_refl _
 | i+1,hi=>by
  obtain ⟨m,hm,_⟩:=at_rev ns (i:=i) (by omega)
  have a1:=tot_nn (pl:=pl) nz h i (by omega)
  have a2:=Int.mul_nonneg (dg_in (pl:=pl) nz h (by omega) hm).1 (stP_nn h i)
  show 0≤totI ns pl i+_
  omega
theorem tot_all {ns:List Int}{pl:Int}(h:sdOk ns) (h0:0≤pl) (h1:pl < prodI ns):totI ns pl ns.length=pl:=by
 have nz:=prod_nz (ns:=ns) (by omega)
 have e:=tot_inv (ns:=ns) (pl:=pl) ns.length (Nat.le_refl _)
 have t:=tot_nn (pl:=pl) nz h ns.length (Nat.le_refl _)
 have l:=lf_nn h h0 ns.length (Nat.le_refl _)
 have z:lfI ns pl ns.length=0:=by
  refine Decidable.byContradiction λ nl=>?_
  have g:=Int.mul_le_mul_of_nonneg_left (show 1≤lfI ns pl ns.length by omega) (stP_nn h ns.length)
  rw [stP_all] at g e
  omega
 rw [z,Int.mul_zero] at e
 omega
theorem dg_get {ns:List Int}{pl:Int}{k:Nat}(hk:k < ns.length):(dgL ns pl ns.length).reverse[k]?=some (dgI ns pl (ns.length - 1 - k)):=by
 have l:(dgL ns pl ns.length).length=ns.length:=by rw [dgL,List.length_map,List.length_range]
 have z:ns.length - 1 - k < ns.length:=by omega
 rw [List.getElem?_reverse (by rw [l];exact hk),l,dgL,List.getElem?_map,List.getElem?_range z]
 rfl
theorem dot_tot (ns:List Int) (pl:Int):∀n,dotI (dgL ns pl n).reverse (stL ns n).reverse=totI ns pl n
 | 0=>rfl
 | n+1=>by
  rw [dgL_succ,stL_succ,List.reverse_append,List.reverse_append]
  show dgI ns pl n * stP ns n+dotI (dgL ns pl n).reverse (stL ns n).reverse=totI ns pl n+dgI ns pl n * stP ns n
  rw [dot_tot ns pl n,Int.add_comm]
theorem dg_good {ns:List Int}{pl:Int}(nz:∀n∈ns,n≠0) (h:sdOk ns):good ns (dgL ns pl ns.length).reverse:=by
 refine ⟨by rw [List.length_reverse,dgL,List.length_map,List.length_range],λ i m n hm hn=>?_⟩
 have hi:=(List.getElem?_eq_some_iff.mp hn).1
 rw [dg_get hi] at hm
 cases hm
 exact dg_in nz h (by omega) (by rw [show ns.length - 1 - (ns.length - 1 - i)=i by omega];exact hn)
def spatof (C:Addr):Sp:=λ vs H Q E=>∃(a:Addr) (ns:List Int) (pl:Int),vs=[.ref a,.int pl]/\H a=some (.tup (ns.map V.int))/\sdOk ns/\ns.length≤63/\((pl < 0\/prodI ns≤pl)->∀H',Same H H'->E (.ref C) none H')/\(0≤pl->pl < prodI ns->∀H' p,Same H H'->H' p=some (.tup ((dgL ns pl ns.length).reverse.map V.int))->Q (.ref p) H')
def cellI (ns:List Int) (k:Nat):Int:=ns.getD k 0
def fit (ns:List Int):Prop:=(∀n∈ns,0≤n/\n≤512)/\ns.length≤6/\1≤prodI (ns.map one1)/\prodI (ns.map one1)≤512
def grow (ns:List Int) (free:Int) (i:Nat):Prop:=(∀n∈ns,0≤n/\n≤512)/\ns.length=i/\1≤free/\free≤512/\1≤prodI (ns.map one1)/\free * prodI (ns.map one1)≤512
theorem grow_fit {ns:List Int}{free:Int}{i:Nat}(h:grow ns free i) (hi:i≤6):fit ns:=by
 obtain ⟨h1,h2,h3,h4,h5,h6⟩:=h
 refine ⟨h1,by omega,h5,?_⟩
 have:=Int.mul_le_mul_of_nonneg_right h3 (show 0≤prodI (ns.map one1) by omega)
 omega
theorem grow_step {ns:List Int}{free m:Int}{i:Nat}(h:grow ns free i) (m0:0≤m) (m1:m≤free):grow (ns++[m]) (free / one1 m) (i+1):=by
 obtain ⟨h1,h2,h3,h4,h5,h6⟩:=h
 have o1:1≤one1 m/\one1 m≤free:=by unfold one1;split<;>omega
 have d1:1≤free / one1 m:=by rw [Int.le_ediv_iff_mul_le (by omega)];omega
 have d2:free / one1 m * one1 m≤free:=Int.ediv_mul_le _ (by omega)
 have d3:free / one1 m≤512:=Int.le_trans (Int.ediv_le_self _ (by omega)) h4
 have e:prodI ((ns++[m]).map one1)=prodI (ns.map one1) * one1 m:=by rw [List.map_append];exact prod_app _ _
 refine ⟨λ n hn=>?_,by rw [List.length_append,h2];rfl,d1,d3,?_,?_⟩
 ·rcases List.mem_append.mp hn with hn | hn
  ·exact h1 n hn
  ·cases List.mem_singleton.mp hn;omega
 ·rw [e]
  have:=Int.mul_le_mul_of_nonneg_right h5 (show 0≤one1 m by omega)
  omega
 ·rw [e]
  have z1:free / one1 m * (prodI (ns.map one1) * one1 m)=free / one1 m * one1 m * prodI (ns.map one1):=by rw [Int.mul_comm (prodI _),Int.mul_assoc]
  have z2:=Int.mul_le_mul_of_nonneg_right d2 (show 0≤prodI (ns.map one1) by omega)
  omega
def Pair (H:Hp) (p:Addr) (w:String) (ms:List Int):Prop:=∃q,H p=some (.tup [.str w,.ref q])/\H q=some (.tup (ms.map V.int))
theorem Pair.same {H H':Hp}{p:Addr}{w:String}{ms:List Int}(h:Pair H p w ms) (s:Same H H'):Pair H' p w ms:=let ⟨q,a,b⟩:=h;⟨q,s _ _ a,s _ _ b⟩
def bad (ns:List Int) (side first many step:Int):Prop:=first < 0\/many < 0\/step < 1\/(0 < many/\ns.getD side.toNat 0≤first+(many - 1) * step)
instance (ns:List Int):Decidable (bigI ns):=by unfold bigI;infer_instance
theorem cut_any (ns:List Int) (k:Nat):cutV (ns.map V.int) none (some (k:Int))=(ns.take k).map V.int:=by
 unfold cutV;simp only [HT.sIx,len_map];rw [if_neg (by omega),List.drop_zero,Nat.sub_zero,← List.map_take];congr 1
 by_cases c:k≤ns.length
 ·congr 1;omega
 ·rw [List.take_of_length_le (by omega),List.take_of_length_le (by omega)]
def tups (H:Hp) (ps:List Addr) (L:List (List Int)):Prop:=ps.length=L.length/\∀(i:Nat) p m,ps[i]?=some p->L[i]?=some m->H p=some (.tup (m.map V.int))
theorem tups.same {H H':Hp}{ps:List Addr}{L:List (List Int)}(h:tups H ps L) (s:Same H H'):tups H' ps L:=⟨h.1,λ i p m a b=>s _ _ (h.2 i p m a b)⟩
theorem tups.at {H:Hp}{ps:List Addr}{L:List (List Int)}(h:tups H ps L) {i:Nat}{v:V}(e:(ps.map V.ref)[i]?=some v):∃p m,v=.ref p/\L[i]?=some m/\m∈L/\H p=some (.tup (m.map V.int)):=by
 rw [List.getElem?_map] at e
 cases q:ps[i]? with
 | none=>rw [q] at e;cases e
 | some p =>
  rw [q] at e
  have hi:=(List.getElem?_eq_some_iff.mp q).1
  rw [h.1] at hi
  have z:=List.getElem?_eq_getElem hi
  exact ⟨p,L[i],(Option.some.inj e).symm,z,List.getElem_mem hi,h.2 i p _ q z⟩
theorem tups.snoc {H:Hp}{ps:List Addr}{L:List (List Int)}{p:Addr}{m:List Int}(h:tups H ps L) (hp:H p=some (.tup (m.map V.int))):tups H (ps++[p]) (L++[m]):=by
 refine ⟨by rw [List.length_append,List.length_append,h.1];rfl,λ i p' m' a b=>?_⟩
 by_cases c:i < ps.length
 ·rw [List.getElem?_append_left c] at a
  rw [List.getElem?_append_left (by rw [← h.1];exact c)] at b
  exact h.2 i p' m' a b
 ·have e:i=ps.length:=by have:=(List.getElem?_eq_some_iff.mp a).1;simp at this;omega
  subst e
  rw [List.getElem?_append_right (Nat.le_refl _),Nat.sub_self] at a
  rw [h.1,List.getElem?_append_right (Nat.le_refl _),Nat.sub_self] at b
  cases a;cases b;exact hp
theorem tups.take {H:Hp}{ps:List Addr}{L:List (List Int)}(h:tups H ps L) (k:Nat):tups H (ps.take k) (L.take k):=by
 refine ⟨by rw [List.length_take,List.length_take,h.1],λ i p m a b=>?_⟩
 have c:i < k:=by have:=(List.getElem?_eq_some_iff.mp a).1;rw [List.length_take] at this;omega
 rw [List.getElem?_take_of_lt c] at a b
 exact h.2 i p m a b
def sm (ns:List Int):Prop:=∀n∈ns,0≤n/\n≤1000000
theorem sm_sd {ns:List Int}(h:sm ns):sdOk ns:=λ n hn=>by have:=h n hn;omega
theorem sm_fit {ns:List Int}(h:fit ns):sm ns:=λ n hn=>by have:=h.1 n hn;omega
theorem getD_mem {ns:List Int}{k:Nat}(h:k < ns.length):ns.getD k 0∈ns:=by rw [List.getD_eq_getElem?_getD,List.getElem?_eq_getElem h];exact List.getElem_mem h
def atD (ns:List Int) (p:Int):List Int:=(dgL ns p ns.length).reverse
theorem atD_len (ns:List Int) (p:Int):(atD ns p).length=ns.length:=by simp [atD,dgL]
def plH (ns ms:List Int):Int:=dotI ms (stL ns ns.length).reverse
theorem plH_at {ns:List Int}{p:Int}(h:sdOk ns) (h0:0≤p) (h1:p < prodI ns):plH ns (atD ns p)=p:=by
 unfold plH atD
 rw [dot_tot,tot_all h h0 h1]
theorem nz_of {ns:List Int}{p:Int}(h:sdOk ns) (h0:0≤p) (h1:p < prodI ns):∀n∈ns,0 < n:=λ n hn=>by
 have a:=prod_nz (ns:=ns) (by omega) n hn
 have b:=h n hn
 omega
theorem atD_good {ns:List Int}{p:Int}(h:sdOk ns) (h0:0≤p) (h1:p < prodI ns):good ns (atD ns p):=dg_good (λ n hn=>by have:=nz_of h h0 h1 n hn;omega) h
def RwI (H:Hp) (a:Addr) (ns:List Int):Prop:=H a=some (.lst (ns.map V.int))\/H a=some (.tup (ns.map V.int))
theorem RwI.same {H H':Hp}{a:Addr}{ns:List Int}(h:RwI H a ns) (s:Same H H'):RwI H' a ns:=h.imp (s _ _) (s _ _)
def TbAt (H:Hp) (t:Addr) (ns cs:List Int):Prop:=∃a c,H t=some (.tup [.ref a,.ref c])/\H a=some (.tup (ns.map V.int))/\H c=some (.tup (cs.map V.int))
theorem TbAt.same {H H':Hp}{t:Addr}{ns cs:List Int}(h:TbAt H t ns cs) (s:Same H H'):TbAt H' t ns cs:=let ⟨a,c,h1,h2,h3⟩:=h;⟨a,c,s _ _ h1,s _ _ h2,s _ _ h3⟩
def TpsAt (H:Hp) (ps:List Addr) (L:List (List Int)):Prop:=ps.length=L.length/\∀(i:Nat) t,L[i]?=some t->∃p,ps[i]?=some p/\H p=some (.tup (t.map V.int))
theorem TpsAt.mono {H H':Hp}{ps:List Addr}{L:List (List Int)}(h:TpsAt H ps L) (s:∀a xs,H a=some (.tup xs)->H' a=some (.tup xs)):TpsAt H' ps L:=⟨h.1,λ i t e=>let ⟨p,e1,g⟩:=h.2 i t e;⟨p,e1,s _ _ g⟩⟩
theorem TpsAt.snoc {H:Hp}{ps:List Addr}{L:List (List Int)}{t:List Int}{q:Addr}(h:TpsAt H ps L) (g:H q=some (.tup (t.map V.int))):TpsAt H (ps++[q]) (L++[t]):=by
 refine ⟨by simp [h.1],λ i u e=>?_⟩
 rcases Nat.lt_trichotomy i L.length with hi | hi | hi
 ·rw [List.getElem?_append_left hi] at e
  obtain ⟨p,e1,l⟩:=h.2 i u e
  exact ⟨p,by rw [List.getElem?_append_left (by rw [h.1];exact hi)];exact e1,l⟩
 ·subst hi
  rw [List.getElem?_append_right (Nat.le_refl _),Nat.sub_self] at e
  cases (Option.some.inj e)
  exact ⟨q,by rw [List.getElem?_append_right (by rw [h.1];exact Nat.le_refl _),h.1,Nat.sub_self];rfl,g⟩
 ·rw [List.getElem?_eq_none (by simp;omega)] at e;cases e
def SameP (T:Addr) (H H':Hp):Prop:=∀a o,a≠T->H a=some o->H' a=some o
theorem prod_one_le:∀ {ns:List Int},(∀n∈ns,0≤n)->0≤prodI ns/\prodI ns≤prodI (ns.map one1)
 | [],_=>by decide
 | n::ns,h=>by
  obtain ⟨i0,i1⟩:=prod_one_le (ns:=ns) λ m hm=>h m (List.mem_cons_of_mem _ hm)
  have n0:=h n List.mem_cons_self
  rw [List.map_cons,prod_cons,prod_cons]
  have o:n≤one1 n/\0≤one1 n:=by unfold one1;split<;>omega
  exact ⟨Int.mul_nonneg n0 i0,Int.mul_le_mul o.1 i1 i0 o.2⟩
theorem fc {α:Type}{p:α->Prop}{a:α}{l:List α}(h:p a) (t:∀n∈l,p n):∀n∈a::l,p n:=λ n hn=>by
 cases hn with
 | head=>exact h
 | tail _ g=>exact t n g
theorem fc0 {α:Type}{p:α->Prop}:∀n∈([]:List α),p n:=λ _ h=>nomatch h
def SmT (H H':Hp):Prop:=∀a o,(∀ps,o≠.tbl ps)->H a=some o->H' a=some o
theorem SmT.refl (H:Hp):SmT H H:=λ _ _ _ e=>e
theorem SmT.trans {H H1 H2:Hp}(h:SmT H H1) (g:SmT H1 H2):SmT H H2:=λ a o n e=>g a o n (h a o n e)
theorem SmT.of {H H':Hp}(h:Same H H'):SmT H H':=λ a o _ e=>h a o e
theorem SmT.tup {H H':Hp}(h:SmT H H') {a:Addr}{xs:List V}(e:H a=some (.tup xs)):H' a=some (.tup xs):=h a _ (λ _ z=>by cases z) e
theorem SmT.lst {H H':Hp}(h:SmT H H') {a:Addr}{xs:List V}(e:H a=some (.lst xs)):H' a=some (.lst xs):=h a _ (λ _ z=>by cases z) e
theorem SmT.seq {K:W.Frag}{H H':Hp}{a:Addr}{xs:List V}(e:SmT H H') (h:SqL K H a xs):SqL K H' a xs:=by
 rcases h with (h | ⟨o,h⟩) | h
 ·exact .inl (.inl (e.lst h))
 ·exact .inl (.inr ⟨o,e _ _ (λ _ z=>by cases z) h⟩)
 ·exact .inr h
theorem SmT.tb {H H':Hp}(h:SmT H H') {t:Addr}{ns cs:List Int}(e:TbAt H t ns cs):TbAt H' t ns cs:=let ⟨a,c,h1,h2,h3⟩:=e;⟨a,c,h.tup h1,h.tup h2,h.tup h3⟩
theorem SmT.ofP {H H':Hp}{T:Addr}{pos:Pos}{qual:Str}(t:TabOk H T pos qual) (h:SameP T H H'):SmT H H':=λ a o n e=>h a o (λ z=>by
 obtain ⟨ps,h1,_⟩:=t
 rw [z,h1] at e
 exact n ps (Option.some.inj e).symm) e
theorem TabOk.other {H H':Hp}{T T2:Addr}{pos pos2:Pos}{qual qual2:Str}(ne:T2≠T) (t:TabOk H T pos qual) (t2:TabOk H T2 pos2 qual2) (h:SameP T H H'):TabOk H' T2 pos2 qual2:=by
 obtain ⟨ps,h1,h2,h3⟩:=t2
 refine ⟨ps,h _ _ ne h1,h2,h3.imp id λ ⟨c',e,g⟩=>⟨c',e,(SmT.ofP t h) _ _ (λ _ z=>by cases z) g⟩⟩
theorem get_some {ns:List Int}{k:Nat}(hk:k < ns.length):ns[k]?=some (ns.getD k 0):=by rw [List.getD_eq_getElem?_getD,List.getElem?_eq_getElem hk];rfl
theorem ixN_nat {n k:Nat}(h:k < n):ixN n (k:Int)=some k:=by
 unfold ixN;rw [if_pos (by omega),if_pos (by omega)];simp
def wrapI (n:Int):Int:=(n+9223372036854775808) % 18446744073709551616 - 9223372036854775808
def fig (n:Int):Int :=
  if n % 5=0 then
    (if n / 5 % 6=0 then -9223372036854775808 else if n / 5 % 6=1 then 9223372036854775807 else if n / 5 % 6=2 then -1
     else if n / 5 % 6=3 then 0 else if n / 5 % 6=4 then 1 else -9223372036854775807)
  else if n % 5=1 then n / 5 % 19 - 9
  else n * 11400714819323198485 % 18446744073709551616 - 9223372036854775808
theorem fig_in (n:Int):-9223372036854775808≤fig n/\fig n < 9223372036854775808:=by
 unfold fig
 repeat' split
 all_goals omega
def tabI (k:Int):Int:=if k=0 then -9223372036854775808 else if k=1 then 9223372036854775807 else if k=2 then -1 else if k=3 then 0 else if k=4 then 1 else -9223372036854775807
theorem tab_at (k:Int) (h0:0≤k) (h1:k < 6):atI [V.int (-9223372036854775808),.int 9223372036854775807,.int (-1),.int 0,.int 1,.int (-9223372036854775807)] k=some (.int (tabI k)):=by
 rcases (show k=0\/k=1\/k=2\/k=3\/k=4\/k=5 by omega) with e | e | e | e | e | e<;>subst e<;>rfl
def quoI (x y:Int):Int:=if y=0 then 0 else wrapI (Int.fdiv x y)
def restI (x y:Int):Int:=if y=0 then x else Int.fmod x y
def twiceI (w:Str) (x y:Int):Int :=
 if w = "add" then wrapI (x+y) else if w = "sub" then wrapI (x - y) else if w = "mul" then wrapI (x * y) else if w = "quo" then quoI x y else if w = "rest" then restI x y
 else if w = "max" then (if x < y then y else x) else if w = "min" then (if y < x then y else x) else if w = "less" then (if x < y then 1 else 0) else if w = "like" then (if x=y then 1 else 0)
 else if w = "and" then Builtin.bitAnd x y else if w = "or" then Builtin.bitOr x y else Builtin.bitXor x y
theorem tw_xor (x y:Int):twiceI "xor" x y=(Builtin.bitXor x y):=by unfold twiceI;rw [if_neg (by decide +kernel),if_neg (by decide +kernel),if_neg (by decide +kernel),if_neg (by decide +kernel),if_neg (by decide +kernel),if_neg (by decide +kernel),if_neg (by decide +kernel),if_neg (by decide +kernel),if_neg (by decide +kernel),if_neg (by decide +kernel),if_neg (by decide +kernel)]
abbrev tw:List Str:=["add", "sub", "mul", "quo", "rest", "max", "min", "less", "like", "and", "or", "xor"]
def inB (x:Int):Prop:=-9223372036854775808≤x/\x < 9223372036854775808
def clsBody (s:Stmt):List Stmt:=match s with
 | .ClassDef _ _ _ b _ _ _ _ _ _ _=>b
 | _=>[]
structure BenCls (K:W.Frag) (C:Addr):Prop where
 cl:Cls K C
 n1:NoAttr K C (Str.ofString "cells")
 n2:NoAttr K C (Str.ofString "loops")
 n3:NoAttr K C (Str.ofString "outs")
 n4:NoAttr K C (Str.ofString "done")
 n5:NoAttr K C (Str.ofString "calls")
 n6:NoAttr K C (Str.ofString "log")
structure Wf where
 S:List Int
 T:List Int
 C:List Int
 mo:Int
def WfOk (W:Wf):Prop:=sdOk W.S/\W.S.length≤6/\(∀s∈W.S,s≤32)/\(W.C.length:Int)=prodI W.S/\W.C.length≤512/\W.T=(stL W.S W.S.length).reverse/\(∀c∈W.C,inB c)/\inB W.mo
def dueW (W:Wf) (r:Nat):Int:=twiceI (Str.ofString "xor") (W.C.getD (W.C.length - 1 - r) 0) W.mo
def cellsV (W:Wf) (D:List Nat):List V:=(List.range W.C.length).map λ i=>if i∈D then .int (dueW W i) else .non
structure LA where
 sd:Addr
 st:Addr
 tr:Addr
 rd:Addr
 nm:Addr
 ng:Addr
def LoopAt (H:Hp) (lp:Addr) (L:LA) (W:Wf):Prop:=H lp=some (.tup [.str (Str.ofString "fill"),.int 1,.ref L.sd,.int 0,.ref L.st,.ref L.tr])/\H L.sd=some (.tup (W.S.map V.int))/\H L.st=some (.tup (W.T.map V.int)) /\
 H L.tr=some (.tup [.str (Str.ofString "pair"),.str (Str.ofString "xor"),.ref L.rd,.ref L.nm])/\H L.rd=some (.tup [.str (Str.ofString "read"),.int 0,.int ((W.C.length:Int) - 1),.ref L.ng])/\H L.nm=some (.tup [.str (Str.ofString "num"),.int W.mo])/\H L.ng=some (.tup ((W.T.map λ x=>0 - x).map V.int))
def UpT (H H':Hp):Prop:=∀a xs,H a=some (.tup xs)->H' a=some (.tup xs)
theorem UpT.of {H H':Hp}(s:Same H H'):UpT H H':=λ a xs e=>s _ _ e
theorem LoopAt.up {H H':Hp}{lp:Addr}{L:LA}{W:Wf}(h:LoopAt H lp L W) (u:UpT H H'):LoopAt H' lp L W:=⟨u _ _ h.1,u _ _ h.2.1,u _ _ h.2.2.1,u _ _ h.2.2.2.1,u _ _ h.2.2.2.2.1,u _ _ h.2.2.2.2.2.1,u _ _ h.2.2.2.2.2.2⟩
def TrV (H:Hp) (at_:Addr) (st:Addr):Nat->Addr->Int->Int->Prop
 | 0,_,_,_=>False
 | d+1,t,v,c=>(∃n,H t=some (.tup [.str (Str.ofString "num"),.int n])/\v=n/\c=0) \/
  (∃(k:Nat) (s0:Int) (p sa:Addr) (ss as:List Int) (ps:List Addr) (xs:List V),H t=some (.tup [.str (Str.ofString "read"),.int (k:Int),.int s0,.ref p])/\H p=some (.tup (ss.map V.int))/\H at_=some (.tup (as.map V.int))/\as.length=ss.length/\ss.length≤10/\(∀x∈as,0≤x/\x≤1000) /\
   H st=some (.lst (ps.map V.ref))/\ps[k]?=some sa/\H sa=some (.lst xs)/\0≤s0+dotI ss as/\s0+dotI ss as < (xs.length:Int)/\xs[(s0+dotI ss as).toNat]?=some (.int v)/\c=0) \/
  (∃(w:Str) (t1 t2:Addr) (v1 v2 c1 c2:Int),H t=some (.tup [.str (Str.ofString "pair"),.str w,.ref t1,.ref t2])/\w∈tw/\inB v1/\inB v2/\TrV H at_ st d t1 v1 c1/\TrV H at_ st d t2 v2 c2/\v=twiceI w v1 v2/\c=1+c1+c2)
theorem TrV.same {H H':Hp}{at_ st:Addr}(s:Same H H'):∀ {d:Nat}{t:Addr}{v c:Int},TrV H at_ st d t v c->TrV H' at_ st d t v c
 | 0,_,_,_,h=>h
 | d+1,t,v,c,h=>by
  rcases h with ⟨n,h1,h2⟩ | ⟨k,s0,p,sa,ss,as,ps,xs,h1,h2,h3,h4,h5,h6,h7,h8,h9,h10⟩ | ⟨w,t1,t2,v1,v2,c1,c2,h1,h2,h3,h4,h5,h6,h7⟩
  ·exact .inl ⟨n,s _ _ h1,h2⟩
  ·exact .inr (.inl ⟨k,s0,p,sa,ss,as,ps,xs,s _ _ h1,s _ _ h2,s _ _ h3,h4,h5,h6,s _ _ h7,h8,s _ _ h9,h10⟩)
  ·exact .inr (.inr ⟨w,t1,t2,v1,v2,c1,c2,s _ _ h1,h2,h3,h4,TrV.same s h5,TrV.same s h6,h7⟩)
theorem op_notInK {X:Cx}{K:W.Frag}(h:X.K=K):OpR X (compareOp .NotIn) (rIn K true):=by subst h;exact op_notIn_seq
theorem rep_non (n:Nat):(List.replicate n [V.non]).flatten=List.replicate n V.non:=by
 induction n with
 | zero=>rfl
 | succ n ih=>rw [List.replicate_succ,List.replicate_succ,List.flatten_cons,ih];rfl
theorem pe_never {X:Cx}{e:Expr}:PE X e (λ _ _ _=>False):=λ _ _ _ _ _ _ h=>h.elim
theorem dot_sum:∀(st c:List Int),(List.zipWith (λ a b=>a * b) c st).sum=dotI st c
 | [],c=>by cases c<;>rfl
 | s::st,[]=>by rfl
 | s::st,x::c=>by
  show x * s+(List.zipWith (λ a b=>a * b) c st).sum=s * x+dotI st c
  rw [dot_sum st c,Int.mul_comm]
theorem sne {a b:Str}(h:(a == b)=false):¬V.str a=V.str b:=λ z=>by rw [V.str.inj z,beq_self_eq_true] at h;cases h
theorem dot_comm:∀(a b:List Int),dotI a b=dotI b a
 | [],b=>by cases b<;>rfl
 | _::_,[]=>rfl
 | x::a,y::b=>by
  show x * y+dotI a b=y * x+dotI b a
  rw [dot_comm a b,Int.mul_comm]
theorem dot_neg:∀(a b:List Int),dotI (a.map λ x=>0 - x) b=-dotI a b
 | [],b=>by cases b<;>rfl
 | _::_,[]=>rfl
 | x::a,y::b=>by
  show (0 - x) * y+dotI (a.map λ x=>0 - x) b=-(x * y+dotI a b)
  rw [dot_neg a b,Int.zero_sub,Int.neg_mul];omega
theorem wf_good {W:Wf}(ok:WfOk W) {r:Nat}(h:r < W.C.length):good W.S (atD W.S (r:Int)):=atD_good ok.1 (Int.natCast_nonneg r) (by rw [← ok.2.2.2.1];omega)
theorem wf_spot {W:Wf}(ok:WfOk W) {r:Nat}(h:r < W.C.length):dotI W.T (atD W.S (r:Int))=(r:Int):=by
 have e:=plH_at (p:=(r:Int)) ok.1 (Int.natCast_nonneg r) (by rw [← ok.2.2.2.1];omega)
 unfold plH at e
 rw [ok.2.2.2.2.2.1,dot_comm];exact e
theorem wf_co {W:Wf}(ok:WfOk W) {r:Nat}(h:r < W.C.length):∀x∈atD W.S (r:Int),0≤x/\x≤1000:=λ x hx=>by
 obtain ⟨i,hi,e⟩:=List.getElem_of_mem hx
 have g:=wf_good ok h
 have il:i < W.S.length:=by rw [← g.1];exact hi
 have b:=g.2 i x (W.S[i]) (by rw [List.getElem?_eq_getElem hi,e]) (List.getElem?_eq_getElem il)
 have:=ok.2.2.1 _ (List.getElem_mem il)
 omega
theorem met_one (x:Int):(metL [x]).length=1:=by
 unfold metL
 rfl
structure WA where
 st0:Addr
 lo:Addr
 ou:Addr
 a0:Addr
 a1:Addr
 lp:Addr
 o1:Addr
def WeftAt (H:Hp) (w:Addr) (B:WA) (L:LA) (W:Wf):Prop:=H w=some (.tup [.ref B.st0,.ref B.lo,.ref B.ou])/\H B.st0=some (.tup [.ref B.a0,.ref B.a1])/\H B.a0=some (.tup [.int 0,.int (W.C.length:Int)])/\H B.a1=some (.tup [.int 1,.int (W.C.length:Int)])/\H B.lo=some (.tup [.ref B.lp])/\LoopAt H B.lp L W/\H B.ou=some (.tup [.ref B.o1])/\H B.o1=some (.tup [.int 1,.ref L.sd])
theorem WeftAt.up {H H':Hp}{w:Addr}{B:WA}{L:LA}{W:Wf}(h:WeftAt H w B L W) (u:UpT H H'):WeftAt H' w B L W:=⟨u _ _ h.1,u _ _ h.2.1,u _ _ h.2.2.1,u _ _ h.2.2.2.1,u _ _ h.2.2.2.2.1,h.2.2.2.2.2.1.up u,u _ _ h.2.2.2.2.2.2.1,u _ _ h.2.2.2.2.2.2.2⟩
def InpAt (H:Hp) (inp:Addr) (W:Wf) (good_:Prop):Prop:=∃tabs:List Addr,H inp=some (.tup (tabs.map V.ref))/\tabs.length≤10/\((tabs.length≠1/\¬good_)\/∃(tb sa ca:Addr) (xs:List Int),tabs=[tb]/\H tb=some (.tup [.ref sa,.ref ca])/\H ca=some (.tup (xs.map V.int))/\xs.length≤600/\((xs.length≠W.C.length/\¬good_)\/(xs=W.C/\good_)))
def spfilled (C:Addr):Sp:=λ vs H Q E=>∃(w inp:Addr) (B:WA) (L:LA) (W:Wf) (g:Prop),vs=[.ref w,.ref inp]/\WeftAt H w B L W/\WfOk W/\InpAt H inp W g/\(¬g->∀H',Same H H'->E (.ref C) none H')/\(g->∀H' lc c0 c1,Same H H'->H lc=none->H c0=none->H c1=none->lc≠c0->lc≠c1->c0≠c1->H' lc=some (.lst [.ref c0,.ref c1])->H' c0=some (.lst (W.C.map V.int))->H' c1=some (.lst (List.replicate W.C.length .non))->Q (.ref lc) H')
structure BA where
 dx:Addr
 lc:Addr
 c0:Addr
 c1:Addr
 d:Addr
 lg:Addr
def keyD (D:List Nat):List (List Key × V):=D.map λ k:Nat=>([Sum.inl 0,Sum.inl (k:Int)],V.bl true)
def LogAt (H:Hp) (ps:List Addr) (W:Wf) (D:List Nat):Prop:=ps.length=D.length/\∀(i k:Nat) (p:Addr),D[i]?=some k->ps[i]?=some p->H p=some (.tup [.int 0,.int (k:Int),.int 1,.int (k:Int),.int (dueW W k)])
def fldB (A:BA) (B:WA) (n:Nat):List (Str × V):=[(Str.ofString "cells",.ref A.lc),(Str.ofString "loops",.ref B.lo),(Str.ofString "outs",.ref B.ou),(Str.ofString "done",.ref A.d),(Str.ofString "calls",.int (n:Int)),(Str.ofString "log",.ref A.lg)]
structure BenAt (CB:Addr) (H:Hp) (b:Addr) (A:BA) (B:WA) (L:LA) (W:Wf) (D:List Nat):Prop where
 hb:H b=some (.ins CB A.dx (fldB A B D.length))
 hlc:H A.lc=some (.lst [.ref A.c0,.ref A.c1])
 hc0:H A.c0=some (.lst (W.C.map V.int))
 hc1:H A.c1=some (.lst (cellsV W D))
 hd:H A.d=some (.dT (keyD D))
 hlg:∃ps:List Addr,H A.lg=some (.lst (ps.map V.ref))/\LogAt H ps W D
 n1:A.lc≠A.c1/\A.lc≠A.lg/\A.c0≠A.c1/\A.c0≠A.lg/\A.c1≠A.lg
 hlo:H B.lo=some (.tup [.ref B.lp])
 hlp:LoopAt H B.lp L W
 hou:H B.ou=some (.tup [.ref B.o1])
 ho1:H B.o1=some (.tup [.int 1,.ref L.sd])
 nd:D.Nodup
 lt:∀k∈D,k < W.C.length
 ok:WfOk W
theorem BenAt.same {CB:Addr}{H H':Hp}{b:Addr}{A:BA}{B:WA}{L:LA}{W:Wf}{D:List Nat}(h:BenAt CB H b A B L W D) (s:Same H H'):BenAt CB H' b A B L W D :=
 ⟨s _ _ h.hb,s _ _ h.hlc,s _ _ h.hc0,s _ _ h.hc1,s _ _ h.hd,let ⟨ps,h1,h2⟩:=h.hlg;⟨ps,s _ _ h1,h2.1,λ i k p e1 e2=>s _ _ (h2.2 i k p e1 e2)⟩,h.n1,s _ _ h.hlo,h.hlp.up (.of s),s _ _ h.hou,s _ _ h.ho1,h.nd,h.lt,h.ok⟩
theorem cells0 (W:Wf):cellsV W []=List.replicate W.C.length .non:=by
 unfold cellsV
 simp only [List.not_mem_nil,if_false]
 rw [List.map_const',List.length_range]
def Keep1 (b:Addr) (H H':Hp):Prop:=∀a o,a≠b->H a=some o->H' a=some o
theorem Keep1.tr {b:Addr}{H H1 H2:Hp}(h:Keep1 b H H1) (g:Keep1 b H1 H2):Keep1 b H H2:=λ a o n e=>g a o n (h a o n e)
theorem Keep1.of {b:Addr}{H H1:Hp}(h:Same H H1):Keep1 b H H1:=λ a o _ e=>h a o e
theorem Keep1.upd {b:Addr}{H:Hp}{o:HO}:Keep1 b H (upd H b o):=λ a x n e=>by rw [upd_ne n];exact e
def spbinit (CB CU:Addr):Sp:=λ vs H Q E=>∃(b dx w inp:Addr) (B:WA) (L:LA) (W:Wf) (g:Prop),vs=[.ref b,.ref w,.ref inp]/\H b=some (.ins CB dx [])/\WeftAt H w B L W/\WfOk W/\InpAt H inp W g/\(¬g->∀H',Same H H'->E (.ref CU) none H')/\(g->∀H' A,Keep1 b H H'->H A.lc=none->H A.c0=none->H A.c1=none->H A.d=none->H A.lg=none->BenAt CB H' b A B L W []->Q .non H')
def leftL (W:Wf) (D:List Nat):List Nat:=(List.range W.C.length).filter (λ k=>decide (k ∉ D))
def PrsAt (H:Hp) (ps:List Addr) (ks:List Nat):Prop:=ps.length=ks.length/\∀(i k:Nat) (p:Addr),ks[i]?=some k->ps[i]?=some p->H p=some (.tup [.int 0,.int (k:Int)])
theorem PrsAt.mono {H H':Hp}{ps:List Addr}{ks:List Nat}(h:PrsAt H ps ks) (u:UpT H H'):PrsAt H' ps ks:=⟨h.1,λ i k p a b=>u _ _ (h.2 i k p a b)⟩
theorem PrsAt.snoc {H:Hp}{ps:List Addr}{ks:List Nat}{k:Nat}{p:Addr}(h:PrsAt H ps ks) (e:H p=some (.tup [.int 0,.int (k:Int)])):PrsAt H (ps++[p]) (ks++[k]):=by
 refine ⟨by simp [h.1],λ i k' p' a b=>?_⟩
 by_cases c:i < ks.length
 ·rw [List.getElem?_append_left c] at a
  rw [List.getElem?_append_left (by rw [h.1];exact c)] at b
  exact h.2 i k' p' a b
 ·rw [List.getElem?_append_right (by omega)] at a
  rw [List.getElem?_append_right (by rw [h.1];omega),h.1] at b
  have z:i - ks.length=0:=by
   have:=(List.getElem?_eq_some_iff.mp a).1
   simp at this;omega
  rw [z] at a b
  cases a
  cases b
  exact e
theorem val_key (r:Nat):∀D:List Nat,valV (keyD D) [Sum.inl 0,Sum.inl (r:Int)]=if r∈D then some (V.bl true) else none
 | []=>rfl
 | k::D=>by
  have ih:=val_key r D
  unfold valV keyD at ih ⊢
  rw [List.map_cons,List.find?_cons]
  by_cases c:r=k
  ·subst c
   simp
  ·have n:¬(([Sum.inl 0,Sum.inl (k:Int)]:List Key)=[Sum.inl 0,Sum.inl (r:Int)]):=λ z=>by
    simp at z;omega
   rw [decide_eq_false n]
   show Option.map _ (List.find? _ _)=_
   rw [ih]
   simp [c]
theorem filt_succ (n:Nat) (D:List Nat):(List.range (n+1)).filter (λ k=>decide (k ∉ D))=(List.range n).filter (λ k=>decide (k ∉ D))++if n∈D then [] else [n]:=by
 rw [List.range_succ,List.filter_append]
 congr 1
 by_cases c:n∈D
 ·simp [c]
 ·simp [c]
def spbleft (CB:Addr):Sp:=λ vs H Q _=>∃(b:Addr) (A:BA) (B:WA) (L:LA) (W:Wf) (D:List Nat),vs=[.ref b]/\BenAt CB H b A B L W D/\∀H' l ps,Same H H'->H l=none->H' l=some (.lst (ps.map V.ref))->PrsAt H' ps (leftL W D)->Q (.ref l) H'
def spbcalls (CB:Addr):Sp:=λ vs H Q _=>∃(b:Addr) (A:BA) (B:WA) (L:LA) (W:Wf) (D:List Nat),vs=[.ref b]/\BenAt CB H b A B L W D/\Q (.int (D.length:Int)) H
def spblog (CB:Addr):Sp:=λ vs H Q _=>∃(b:Addr) (A:BA) (B:WA) (L:LA) (W:Wf) (D:List Nat),vs=[.ref b]/\BenAt CB H b A B L W D/\∀H' l ps,Same H H'->H l=none->H' l=some (.lst (ps.map V.ref))->LogAt H' ps W D->Q (.ref l) H'
def spbstore (CB:Addr):Sp:=λ vs H Q _=>∃(b:Addr) (A:BA) (B:WA) (L:LA) (W:Wf) (D:List Nat) (k:Nat),vs=[.ref b,.int (k:Int)]/\BenAt CB H b A B L W D/\k < 2/\∀H' l,Same H H'->H l=none->H' l=some (.lst (if k=0 then W.C.map V.int else cellsV W D))->Q (.ref l) H'
theorem BenAt.tn {CB:Addr}{H:Hp}{b:Addr}{A:BA}{B:WA}{L:LA}{W:Wf}{D:List Nat}(h:BenAt CB H b A B L W D) {a:Addr}{xs:List V}(e:H a=some (.tup xs)):a≠b/\a≠A.c1/\a≠A.d/\a≠A.lg :=
 ⟨ne_of e h.hb (by intro z;cases z),ne_of e h.hc1 (by intro z;cases z),ne_of e h.hd (by intro z;cases z),let ⟨_,h1,_⟩:=h.hlg;ne_of e h1 (by intro z;cases z)⟩
theorem BenAt.bn {CB:Addr}{H:Hp}{b:Addr}{A:BA}{B:WA}{L:LA}{W:Wf}{D:List Nat}(h:BenAt CB H b A B L W D):b≠A.c1/\b≠A.d/\b≠A.lg :=
 ⟨ne_of h.hb h.hc1 (by intro z;cases z),ne_of h.hb h.hd (by intro z;cases z),let ⟨_,h1,_⟩:=h.hlg;ne_of h.hb h1 (by intro z;cases z)⟩
theorem BenAt.dn {CB:Addr}{H:Hp}{b:Addr}{A:BA}{B:WA}{L:LA}{W:Wf}{D:List Nat}(h:BenAt CB H b A B L W D):A.d≠A.c1/\A.d≠A.lg :=
 ⟨ne_of h.hd h.hc1 (by intro z;cases z),let ⟨_,h1,_⟩:=h.hlg;ne_of h.hd h1 (by intro z;cases z)⟩
theorem BenAt.ln {CB:Addr}{H:Hp}{b:Addr}{A:BA}{B:WA}{L:LA}{W:Wf}{D:List Nat}(h:BenAt CB H b A B L W D) {a:Addr}{xs:List V}(e:H a=some (.lst xs)):a≠b/\a≠A.d:=⟨ne_of e h.hb (by intro z;cases z),ne_of e h.hd (by intro z;cases z)⟩
theorem bnd_len {D:List Nat}{n:Nat}(nd:D.Nodup) (h:∀k∈D,k < n):D.length≤n:=by
 have:=nd.length_le_of_subset (λ k hk=>List.mem_range.mpr (h k hk):D ⊆ List.range n)
 rwa [List.length_range] at this
theorem put_key {D:List Nat}{k:Nat}(n:k ∉ D):putK (keyD D) [Sum.inl 0,Sum.inl (k:Int)] (V.bl true)=keyD (D++[k]):=by
 have h:=val_key k D
 rw [if_neg n] at h
 have a:((keyD D).any λ kv=>decide (kv.1=([Sum.inl 0,Sum.inl (k:Int)]:List Key)))=false:=by
  rw [List.any_eq_false]
  intro kv hkv
  unfold keyD at hkv
  obtain ⟨j,hj,rfl⟩:=List.mem_map.mp hkv
  have:j≠k:=λ z=>n (z ▸ hj)
  simp
  omega
 unfold putK
 rw [if_neg (by rw [a];decide)]
 unfold keyD
 rw [List.map_append];rfl
theorem LogAt.mono {H H':Hp}{ps:List Addr}{W:Wf}{D:List Nat}(h:LogAt H ps W D) (u:UpT H H'):LogAt H' ps W D:=⟨h.1,λ i k p a b=>u _ _ (h.2 i k p a b)⟩
theorem LogAt.snoc {H:Hp}{ps:List Addr}{W:Wf}{D:List Nat}{k:Nat}{p:Addr}(h:LogAt H ps W D) (e:H p=some (.tup [.int 0,.int (k:Int),.int 1,.int (k:Int),.int (dueW W k)])):LogAt H (ps++[p]) W (D++[k]):=by
 refine ⟨by simp [h.1],λ i k' p' a b=>?_⟩
 by_cases c:i < D.length
 ·rw [List.getElem?_append_left c] at a
  rw [List.getElem?_append_left (by rw [h.1];exact c)] at b
  exact h.2 i k' p' a b
 ·rw [List.getElem?_append_right (by omega)] at a
  rw [List.getElem?_append_right (by rw [h.1];omega),h.1] at b
  have z:i - D.length=0:=by
   have:=(List.getElem?_eq_some_iff.mp a).1
   simp at this;omega
  rw [z] at a b
  cases a
  cases b
  exact e
theorem cells_non {W:Wf}{D:List Nat}{k:Nat}(h:k < W.C.length) (n:k ∉ D):(cellsV W D)[k]?=some .non:=by
 unfold cellsV
 rw [List.getElem?_map,List.getElem?_range h]
 show some (if k∈D then _ else _)=_
 rw [if_neg n]
theorem cells_len (W:Wf) (D:List Nat):(cellsV W D).length=W.C.length:=by unfold cellsV;rw [List.length_map,List.length_range]
theorem cells_set {W:Wf}{D:List Nat}{k:Nat}(h:k < W.C.length):(cellsV W D).set k (.int (dueW W k))=cellsV W (D++[k]):=by
 apply List.ext_getElem?
 intro i
 rw [List.getElem?_set,cells_len]
 unfold cellsV
 by_cases c:i < W.C.length
 ·rw [List.getElem?_map,List.getElem?_map,List.getElem?_range c]
  by_cases e:k=i
  ·subst e
   rw [if_pos rfl,if_pos c]
   show _=some (if k∈D++[k] then _ else _)
   rw [if_pos (by simp)]
  ·rw [if_neg e]
   show some (if i∈D then _ else _)=some (if i∈D++[k] then _ else _)
   have iff':i∈D++[k] ↔ i∈D:=by simp;omega
   by_cases m:i∈D
   ·rw [if_pos m,if_pos (iff'.mpr m)]
   ·rw [if_neg m,if_neg (λ z=>m (iff'.mp z))]
 ·rw [if_neg (by omega),List.getElem?_eq_none (by simp;omega),List.getElem?_eq_none (by simp;omega)]
def spbansw (CB C:Addr):Sp:=λ vs H Q E=>∃(b:Addr) (A:BA) (B:WA) (L:LA) (W:Wf) (D:List Nat),vs=[.ref b]/\BenAt CB H b A B L W D/\(leftL W D≠[]->∀H',Same H H'->E (.ref C) none H')/\(leftL W D=[]->∀H' t x c,Same H H'->H' t=some (.tup [.ref x])->H' x=some (.tup [.ref L.sd,.ref c])->H' c=some (.tup (cellsV W D))->Q (.ref t) H')
def KeepB (b:Addr) (A:BA) (H H':Hp):Prop:=∀a o,a≠b->a≠A.c1->a≠A.d->a≠A.lg->H a=some o->H' a=some o
def spbdo (CB C:Addr):Sp:=λ vs H Q E=>∃(b:Addr) (A:BA) (B:WA) (L:LA) (W:Wf) (D:List Nat) (lo r:Int),vs=[.ref b,.int lo,.int r]/\BenAt CB H b A B L W D/\((lo≠0\/r < 0\/(W.C.length:Int)≤r\/r.toNat∈D)->∀H',Same H H'->E (.ref C) none H')/\(lo=0->0≤r->r < (W.C.length:Int)->r.toNat ∉ D->∀H',KeepB b A H H'->BenAt CB H' b A B L W (D++[r.toNat])->Q (.bl true) H')
def spkbench:Sp:=λ vs H Q _=>∃(w inp:Addr) (B:WA) (L:LA) (W:Wf),vs=[.ref w,.ref inp]/\WeftAt H w B L W/\WfOk W/\InpAt H inp W False/\∀H',Same H H'->Q .non H'
def badR (W:Wf) (D:List Nat) (lo r:Int):Prop:=lo≠0\/r < 0\/(W.C.length:Int)≤r\/r.toNat∈D
theorem nbad {W:Wf}{D:List Nat}{lo r:Int}(e1:lo=0) (e2:0≤r) (e3:r < (W.C.length:Int)) (e4:¬r.toNat∈D):¬badR W D lo r:=λ z=>by
 rcases z with z | z | z | z
 ·exact z e1
 ·omega
 ·omega
 ·exact e4 z
def natI (xs:List Nat):List Int:=xs.map λ k:Nat=>(k:Int)
def spkasked (CB:Addr):Sp:=λ vs H Q _=>∃(b:Addr) (A:BA) (B:WA) (L:LA) (W:Wf) (D:List Nat) (lo r:Int),vs=[.ref b,.int lo,.int r]/\BenAt CB H b A B L W D/\(badR W D lo r->∀H' l,Same H H'->H' l=some (.lst [.str (Str.ofString "none"),.bl false])->Q (.ref l) H')/\(¬badR W D lo r->∀H' l,KeepB b A H H'->BenAt CB H' b A B L W (D++[r.toNat])->H' l=some (.lst [.bl true])->Q (.ref l) H')
theorem InpAt.same {H H':Hp}{inp:Addr}{W:Wf}{g:Prop}(h:InpAt H inp W g) (s:Same H H'):InpAt H' inp W g:=by
 obtain ⟨tabs,h1,h2,h3⟩:=h
 refine ⟨tabs,s _ _ h1,h2,h3.imp id ?_⟩
 rintro ⟨tb,sa,ca,xs,e,a,b,c⟩
 exact ⟨tb,sa,ca,xs,e,s _ _ a,s _ _ b,c⟩
theorem eqEarly:eqVs [V.str (Str.ofString "early"),V.bl false] [V.str (Str.ofString "early"),V.bl false]=true:=by simp [eqVs,eqV]
theorem eqNone:eqVs [V.str (Str.ofString "none"),V.bl false] [V.str (Str.ofString "none"),V.bl false]=true:=by simp [eqVs,eqV]
def PrB (H:Hp) (W:Wf) (D:List Nat) (ps:List Addr):Prop:=∀p∈ps,∃lo r:Int,H p=some (.tup [.int lo,.int r])/\badR W D lo r
theorem PrB.mono {H H':Hp}{W:Wf}{D:List Nat}{ps:List Addr}(h:PrB H W D ps) (s:Same H H'):PrB H' W D ps:=λ p hp=>let ⟨lo,r,e,b⟩:=h p hp;⟨lo,r,s _ _ e,b⟩
def spkstrange (CB:Addr):Sp:=λ vs H Q _=>∃(b dl:Addr) (A:BA) (B:WA) (L:LA) (W:Wf) (D xs:List Nat),vs=[.ref b,.int (W.C.length:Int),.ref dl]/\BenAt CB H b A B L W D/\H dl=some (.lst ((natI xs).map V.int))/\xs.length≤40/\(∀k∈xs,k∈D)/\∀H',Same H H'->Q (.bl true) H'
def spkearly (CB:Addr):Sp:=λ vs H Q _=>∃(b:Addr) (A:BA) (B:WA) (L:LA) (W:Wf) (D:List Nat),vs=[.ref b]/\BenAt CB H b A B L W D/\leftL W D≠[]/\∀H',Same H H'->Q (.bl true) H'
theorem KeepB.tr {b:Addr}{A:BA}{H H1 H2:Hp}(h:KeepB b A H H1) (g:KeepB b A H1 H2):KeepB b A H H2:=λ a o n1 n2 n3 n4 e=>g a o n1 n2 n3 n4 (h a o n1 n2 n3 n4 e)
theorem KeepB.of {b:Addr}{A:BA}{H H1:Hp}(h:Same H H1):KeepB b A H H1:=λ a o _ _ _ _ e=>h a o e
theorem BenAt.fr {CB:Addr}{H:Hp}{b:Addr}{A:BA}{B:WA}{L:LA}{W:Wf}{D:List Nat}(h:BenAt CB H b A B L W D) {a:Addr}(e:H a=none):a≠b/\a≠A.c1/\a≠A.d/\a≠A.lg/\a≠A.lc/\a≠A.c0:=by
 obtain ⟨ps,h1,_⟩:=h.hlg
 refine ⟨λ z=>?_,λ z=>?_,λ z=>?_,λ z=>?_,λ z=>?_,λ z=>?_⟩<;>subst z
 ·rw [h.hb] at e;cases e
 ·rw [h.hc1] at e;cases e
 ·rw [h.hd] at e;cases e
 ·rw [h1] at e;cases e
 ·rw [h.hlc] at e;cases e
 ·rw [h.hc0] at e;cases e
theorem BenAt.wr {CB:Addr}{H:Hp}{b:Addr}{A:BA}{B:WA}{L:LA}{W:Wf}{D:List Nat}(h:BenAt CB H b A B L W D) {l:Addr}{xs ys:List V}(hl:H l=some (.lst xs)) (n:l≠A.c1/\l≠A.lg/\l≠A.lc/\l≠A.c0):BenAt CB (upd H l (.lst ys)) b A B L W D:=by
 have k:∀ {a:Addr}{o:HO},a≠l->H a=some o->upd H l (.lst ys) a=some o:=λ n e=>by rw [upd_ne n];exact e
 have t:UpT H (upd H l (.lst ys)):=λ a zs e=>k (ne_of e hl (by intro z;cases z)) e
 obtain ⟨ps,h1,h2⟩:=h.hlg
 exact ⟨k (ne_of h.hb hl (by intro z;cases z)) h.hb,k n.2.2.1.symm h.hlc,k n.2.2.2.symm h.hc0,k n.1.symm h.hc1,k (ne_of h.hd hl (by intro z;cases z)) h.hd,⟨ps,k n.2.1.symm h1,h2.mono t⟩,h.n1,t _ _ h.hlo,h.hlp.up t,t _ _ h.hou,t _ _ h.ho1,h.nd,h.lt,h.ok⟩
theorem left_mem {W:Wf}{D:List Nat}{k:Nat}:k∈leftL W D ↔ k < W.C.length/\k ∉ D:=by
 unfold leftL
 rw [List.mem_filter,List.mem_range]
 simp
theorem left_nd (W:Wf) (D:List Nat):(leftL W D).Nodup:=List.Nodup.sublist List.filter_sublist List.nodup_range
theorem left_pop {W:Wf}{D:List Nat}{i k:Nat}(h:(leftL W D)[i]?=some k):(leftL W D).eraseIdx i=leftL W (D++[k]):=by
 have il:=(List.getElem?_eq_some_iff.mp h).1
 have ix:(leftL W D).idxOf k=i:=by
  have e:=(List.getElem?_eq_some_iff.mp h).2
  rw [← e]
  exact (left_nd W D).idxOf_getElem i il
 have e1:(leftL W D).eraseIdx i=(leftL W D).filter (λ x=>x != k):=by
  rw [← ix,← List.erase_eq_eraseIdx_of_idxOf (l:=leftL W D) (a:=k) rfl,(left_nd W D).erase_eq_filter]
 rw [e1]
 unfold leftL
 rw [List.filter_filter]
 refine List.filter_congr λ x _=>?_
 by_cases a:x=k
 ·subst a;simp
 ·simp [a]
theorem left_nil (W:Wf):leftL W []=List.range W.C.length:=List.filter_eq_self.mpr λ _ _=>by simp
theorem natI_len (xs:List Nat):(natI xs).length=xs.length:=by unfold natI;rw [List.length_map]
theorem left_le (W:Wf) (D:List Nat):(leftL W D).length≤W.C.length:=by
 have:=List.length_filter_le (λ k=>decide (k ∉ D)) (List.range W.C.length)
 rwa [List.length_range] at this
theorem KeepB.seq {K:PySem.W.Frag}{b scr:Addr}{A:BA}{H H':Hp}{CB:Addr}{B:WA}{L:LA}{W:Wf}{D:List Nat}(k:KeepB b A H H') (hb:BenAt CB H b A B L W D) {xs:List V}(n:(∀G,SqL K G scr xs)\/(scr≠A.c1/\scr≠A.lg)) (h:SqL K H scr xs):SqL K H' scr xs:=by
 rcases n with n | n
 ·exact n _
 rcases h with (h | ⟨o,h⟩) | h
 ·exact .inl (.inl (k _ _ (ne_of h hb.hb (by intro z;cases z)) n.1 (ne_of h hb.hd (by intro z;cases z)) n.2 h))
 ·exact .inl (.inr ⟨o,k _ _ (ne_of h hb.hb (by intro z;cases z)) n.1 (ne_of h hb.hd (by intro z;cases z)) n.2 h⟩)
 ·exact .inr h
theorem fm_em (x:Int) {r:Int}(h:0 < r):x.fmod r=x % r:=Int.fmod_eq_emod_of_nonneg x (by omega)
theorem seqIx {n i:Nat}(h:i < n):seqIndex? (i:Int) n=some i:=by
 unfold seqIndex?
 simp
 omega
theorem er_map {α β:Type}(f:α->β) (l:List α) (i:Nat):(l.map f).eraseIdx i=(l.eraseIdx i).map f:=by
 rw [List.eraseIdx_eq_take_drop_succ,List.eraseIdx_eq_take_drop_succ,List.map_append,List.map_take,List.map_drop]
theorem eqTrue1:eqVs [V.bl true] [V.bl true]=true:=by simp [eqVs,eqV]
theorem cut_two (ms:List Int):cutV (ms.map V.int) (some (-2)) none=(ms.drop (ms.length - 2)).map V.int:=by
 unfold cutV
 simp only [HT.sIx,len_map]
 rw [List.map_drop,if_pos (by decide),show (-2+(ms.length:Int)).toNat=ms.length - 2 by omega,List.take_of_length_le (by rw [List.length_drop,List.length_map];omega)]
theorem alk_prs {H:Hp}{a b:Addr}{ps qs:List Addr}{ks:List Nat}(h1:H a=some (.lst (ps.map V.ref))) (h2:H b=some (.lst (qs.map V.ref))) (p1:PrsAt H ps ks) (p2:PrsAt H qs ks):AlkV H 9 (.ref a) (.ref b):=by
 refine .inr ⟨a,b,_,_,rfl,rfl,.inl ⟨h1,h2⟩,by rw [List.length_map,List.length_map,p1.1,p2.1],λ i x y hx hy=>?_⟩
 rw [List.getElem?_map] at hx hy
 obtain ⟨p,hp,rfl⟩:=Option.map_eq_some_iff.mp hx
 obtain ⟨q,hq,rfl⟩:=Option.map_eq_some_iff.mp hy
 have il:i < ks.length:=by rw [← p1.1];exact (List.getElem?_eq_some_iff.mp hp).1
 have e:=List.getElem?_eq_getElem il
 exact .tup (p1.2 i _ p e hp) (p2.2 i _ q e hq) rfl
theorem last2 (D:List Nat) (k:Nat):cutV ((natI D).map V.int) (some (-2)) none++[V.int (k:Int)]=(natI (D.drop (D.length - 2)++[k])).map V.int:=by
 rw [cut_two,natI_len]
 unfold natI
 simp only [List.map_append,List.map_drop];rfl
def spkall (K:PySem.W.Frag) (CB:Addr):Sp:=λ vs H Q _=>∃(b sc:Addr) (A:BA) (B:WA) (L:LA) (W:Wf) (ns:List Int),vs=[.ref b,.ref sc,.int (W.C.length:Int)]/\BenAt CB H b A B L W []/\SqL K H sc (ns.map V.int)/\((∀G,SqL K G sc (ns.map V.int))\/(sc≠A.c1/\sc≠A.lg))/\∀H' D dl,KeepB b A H H'->BenAt CB H' b A B L W D->leftL W D=[]->H dl=none->H' dl=some (.lst ((natI D).map V.int))->Q (.ref dl) H'
theorem call_lenK {X:Cx}{K:W.Frag}(hK:X.K=K):CallR X (.builtin "len") (λ xs H Q=>∃p ys,xs=[.ref p]/\(SqL K H p ys\/SqT K H p ys)/\Q (.int (ys.length:Nat)) H):=hK ▸ call_len_seq
theorem cut4 (ns:List Int) (m:Int) (h0:0≤m) (h1:m < 4):∃ms:List Int,cutV (ns.map V.int) (some 1) (some (1+m))=ms.map V.int/\ms.length≤4:=by
 refine ⟨(ns.drop (HT.sIx ns.length 0 (some 1))).take (HT.sIx ns.length ns.length (some (1+m)) - HT.sIx ns.length 0 (some 1)),?_,?_⟩
 ·unfold cutV
  rw [len_map,List.map_take,List.map_drop]
 ·rw [List.length_take]
  simp only [HT.sIx]
  rw [if_neg (by omega),if_neg (by omega)]
  omega
theorem cell_snoc {C:List Int}{i:Nat}{x:Int}(cl:C.length=i) (hC:∀c∈C,inB c):∃C':List Int,C.map V.int++[V.int (fig x)]=C'.map V.int/\C'.length=i+1/\∀c∈C',inB c :=
 ⟨C++[fig x],by rw [List.map_append];rfl,by rw [List.length_append,cl];rfl,λ c hc=>(List.mem_append.mp hc).elim (hC c) (λ z=>by rw [List.mem_singleton.mp z];exact fig_in _)⟩
theorem weft_mk {H:Hp}{w st0 lo ou a0 a1 lp o1 p st tr rd nm ng:Addr}{S T C:List Int}{mo:Int}{n:Nat}(cn:C.length=n) (b1:H w=some (.tup [.ref st0,.ref lo,.ref ou])) (b2:H st0=some (.tup [.ref a0,.ref a1])) (b3:H a0=some (.tup [.int 0,.int (n:Int)])) (b4:H a1=some (.tup [.int 1,.int (n:Int)])) (b5:H lo=some (.tup [.ref lp])) (b6:H lp=some (.tup [.str (Str.ofString "fill"),.int 1,.ref p,.int 0,.ref st,.ref tr])) (b7:H ou=some (.tup [.ref o1])) (b8:H o1=some (.tup [.int 1,.ref p])) (hS:H p=some (.tup (S.map V.int))) (hst:H st=some (.tup (T.map V.int))) (htr:H tr=some (.tup [.str (Str.ofString "pair"),.str (Str.ofString "xor"),.ref rd,.ref nm])) (hrd:H rd=some (.tup [.str (Str.ofString "read"),.int 0,.int ((n:Int) - 1),.ref ng])) (hnm:H nm=some (.tup [.str (Str.ofString "num"),.int mo])) (hng:H ng=some (.tup ((T.map λ x=>0 - x).map V.int))):WeftAt H w ⟨st0,lo,ou,a0,a1,lp,o1⟩ ⟨p,st,tr,rd,nm,ng⟩ ⟨S,T,C,mo⟩:=by
 subst cn
 exact ⟨b1,b2,b3,b4,b5,⟨b6,hS,hst,htr,hrd,hnm,hng⟩,b7,b8⟩
theorem wf_mk {S T C:List Int}{mo:Int}{n:Nat}(cn:C.length=n) (hn:prodI S=(n:Int)) (n5:n≤512) (sd:sdOk S) (h4:S.length≤4) (h32:∀s∈S,s≤32) (hT:T=(stL S S.length).reverse) (hC:∀c∈C,inB c) (hmo:inB mo):WfOk ⟨S,T,C,mo⟩:=by
 subst cn
 exact ⟨sd,by show S.length≤6;omega,h32,hn.symm,n5,hT,hC,hmo⟩
theorem BenAt.keep {CB:Addr}{H H':Hp}{b b2:Addr}{A A2:BA}{B B2:WA}{L L2:LA}{W W2:Wf}{D D2:List Nat}(h:BenAt CB H b2 A2 B2 L2 W2 D2) (k:KeepB b A H H') (hb:BenAt CB H b A B L W D) (n:∀x,x=b2\/x=A2.lc\/x=A2.c0\/x=A2.c1\/x=A2.d\/x=A2.lg->x≠b/\x≠A.c1/\x≠A.d/\x≠A.lg):BenAt CB H' b2 A2 B2 L2 W2 D2:=by
 obtain ⟨qs,g1,_⟩:=hb.hlg
 obtain ⟨ps,h1,h2⟩:=h.hlg
 have t:UpT H H':=λ a xs e=>k a _ (ne_of e hb.hb (by intro z;cases z)) (ne_of e hb.hc1 (by intro z;cases z)) (ne_of e hb.hd (by intro z;cases z)) (ne_of e g1 (by intro z;cases z)) e
 have kk:∀ {x:Addr}{o:HO},(x=b2\/x=A2.lc\/x=A2.c0\/x=A2.c1\/x=A2.d\/x=A2.lg)->H x=some o->H' x=some o:=λ m e=>let z:=n _ m;k _ _ z.1 z.2.1 z.2.2.1 z.2.2.2 e
 exact ⟨kk (by simp) h.hb,kk (by simp) h.hlc,kk (by simp) h.hc0,kk (by simp) h.hc1,kk (by simp) h.hd,⟨ps,kk (by simp) h1,h2.mono t⟩,h.n1,t _ _ h.hlo,h.hlp.up t,t _ _ h.hou,t _ _ h.ho1,h.nd,h.lt,h.ok⟩
def dueV (W:Wf):List Int:=(List.range W.C.length).map (dueW W)
theorem all_done {W:Wf}{D:List Nat}(h:leftL W D=[]) {i:Nat}(hi:i < W.C.length):i∈D:=by
 by_cases c:i∈D
 ·exact c
 have:=left_mem.mpr ⟨hi,c⟩
 rw [h] at this
 cases this
theorem cells_due {W:Wf}{D:List Nat}(h:leftL W D=[]):cellsV W D=(dueV W).map V.int:=by
 unfold cellsV dueV
 rw [List.map_map]
 refine List.map_congr_left λ i hi=>?_
 rw [if_pos (all_done h (List.mem_range.mp hi))]
 rfl
theorem full_len {W:Wf}{D:List Nat}(nd:D.Nodup) (lt:∀k∈D,k < W.C.length) (h:leftL W D=[]):D.length=W.C.length:=by
 have a:=bnd_len nd lt
 have b:=(List.nodup_range (n:=W.C.length)).length_le_of_subset (λ i hi=>all_done h (List.mem_range.mp hi):List.range W.C.length ⊆ D)
 rw [List.length_range] at b
 omega
theorem cut_last (ms:List Int):cutV (ms.map V.int) (some (-1)) none=(ms.drop (ms.length - 1)).map V.int:=by
 unfold cutV
 simp only [HT.sIx,len_map]
 rw [List.map_drop,if_pos (by decide),show (-1+(ms.length:Int)).toNat=ms.length - 1 by omega,List.take_of_length_le (by rw [List.length_drop,List.length_map];omega)]
theorem alk_log {H:Hp}{a b:Addr}{ps qs:List Addr}{W:Wf}{D:List Nat}(h1:H a=some (.lst (ps.map V.ref))) (h2:H b=some (.lst (qs.map V.ref))) (p1:LogAt H ps W D) (p2:LogAt H qs W D):AlkV H 9 (.ref a) (.ref b):=by
 refine .inr ⟨a,b,_,_,rfl,rfl,.inl ⟨h1,h2⟩,by rw [List.length_map,List.length_map,p1.1,p2.1],λ i x y hx hy=>?_⟩
 rw [List.getElem?_map] at hx hy
 obtain ⟨p,hp,rfl⟩:=Option.map_eq_some_iff.mp hx
 obtain ⟨q,hq,rfl⟩:=Option.map_eq_some_iff.mp hy
 have il:i < D.length:=by rw [← p1.1];exact (List.getElem?_eq_some_iff.mp hp).1
 have e:=List.getElem?_eq_getElem il
 exact .tup (p1.2 i _ p e hp) (p2.2 i _ q e hq) rfl
theorem alk_one {H:Hp}{d:Nat}{t t' x x':Addr}(h:H t=some (.tup [.ref x])) (h':H t'=some (.tup [.ref x'])) (a:AlkV H d (.ref x) (.ref x')):AlkV H (d+1) (.ref t) (.ref t'):=by
 refine .inr ⟨t,t',_,_,rfl,rfl,.inr ⟨h,h'⟩,rfl,λ i z w e1 e2=>?_⟩
 rcases i with _ | i
 ·simp only [List.getElem?_cons_zero,Option.some.injEq] at e1 e2
  subst e1;subst e2;exact a
 ·simp at e1
theorem alk_two {H:Hp}{d:Nat}{t t' x x' y y':Addr}(h:H t=some (.tup [.ref x,.ref y])) (h':H t'=some (.tup [.ref x',.ref y'])) (a:AlkV H d (.ref x) (.ref x')) (b:AlkV H d (.ref y) (.ref y')):AlkV H (d+1) (.ref t) (.ref t'):=by
 refine .inr ⟨t,t',_,_,rfl,rfl,.inr ⟨h,h'⟩,rfl,λ i z w e1 e2=>?_⟩
 rcases i with _ | _ | i
 ·simp only [List.getElem?_cons_zero,Option.some.injEq] at e1 e2
  subst e1;subst e2;exact a
 ·simp only [List.getElem?_cons_succ,List.getElem?_cons_zero,Option.some.injEq] at e1 e2
  subst e1;subst e2;exact b
 ·simp at e1
theorem eqVs_non:∀n:Nat,eqVs (List.replicate n V.non) (List.replicate n V.non)=true
 | 0=>rfl
 | n+1=>by rw [List.replicate_succ];simp only [eqVs,eqVs_non n,Bool.and_true];rfl
theorem flat_non:∀n:Nat,(List.replicate n V.non).all flatV=true
 | 0=>rfl
 | n+1=>by rw [List.replicate_succ,List.all_cons,flat_non n];rfl
structure LwAt (CB:Addr) (G:Hp) (b b2:Addr) (A A2:BA) (B:WA) (L:LA) (W:Wf) (D:List Nat) (cl dn:Addr):Prop where
 h1:BenAt CB G b A B L W D
 h2:BenAt CB G b2 A2 B L W []
 hc:G cl=some (.lst (W.C.map V.int))
 hd:G dn=some (.lst ((natI D).map V.int))
theorem LwAt.same {CB:Addr}{G G':Hp}{b b2:Addr}{A A2:BA}{B:WA}{L:LA}{W:Wf}{D:List Nat}{cl dn:Addr}(h:LwAt CB G b b2 A A2 B L W D cl dn) (s:Same G G'):LwAt CB G' b b2 A A2 B L W D cl dn:=⟨h.h1.same s,h.h2.same s,s _ _ h.hc,s _ _ h.hd⟩
theorem LwAt.wr {CB:Addr}{G0 G:Hp}{b b2:Addr}{A A2:BA}{B:WA}{L:LA}{W:Wf}{D:List Nat}{cl dn l:Addr}{xs ys:List V}(h:LwAt CB G0 b b2 A A2 B L W D cl dn) (s:Same G0 G) (f:G0 l=none) (hl:G l=some (.lst xs)):LwAt CB (upd G l (.lst ys)) b b2 A A2 B L W D cl dn:=by
 have f1:=h.h1.fr f
 have f2:=h.h2.fr f
 have n:∀ {a:Addr}{o:HO},G0 a=some o->a≠l:=λ e z=>by rw [z,f] at e;cases e
 exact ⟨(h.h1.same s).wr hl ⟨f1.2.1,f1.2.2.2.1,f1.2.2.2.2.1,f1.2.2.2.2.2⟩,(h.h2.same s).wr hl ⟨f2.2.1,f2.2.2.2.1,f2.2.2.2.2.1,f2.2.2.2.2.2⟩,by rw [upd_ne (n h.hc)];exact s _ _ h.hc,by rw [upd_ne (n h.hd)];exact s _ _ h.hd⟩
theorem cut_tail (ms:List Int) (h:0 < ms.length):∃xs:List Int,cutV (ms.map V.int) (some 1) none=xs.map V.int/\xs.length < ms.length:=by
 refine ⟨(ms.drop (HT.sIx ms.length 0 (some 1))).take (HT.sIx ms.length ms.length none - HT.sIx ms.length 0 (some 1)),?_,?_⟩
 ·unfold cutV
  rw [len_map,List.map_take,List.map_drop]
 ·rw [List.length_take,List.length_drop]
  simp only [HT.sIx]
  rw [if_neg (by omega)]
  omega
theorem due_at {W:Wf}{i:Nat}(hi:i < W.C.length):∃c:Int,atI (W.C.map V.int) ((W.C.length:Int) - 1 - (0+(i:Int)))=some (.int c)/\Builtin.bitXor c W.mo=dueW W i:=by
 have il:W.C.length - 1 - i < W.C.length:=by omega
 refine ⟨W.C[W.C.length - 1 - i],?_,?_⟩
 ·rw [show ((W.C.length:Int) - 1 - (0+(i:Int)))=((W.C.length - 1 - i:Nat):Int) by omega]
  exact atI_nat (by rw [List.getElem?_map,List.getElem?_eq_getElem il];rfl)
 ·unfold dueW
  rw [List.getD_eq_getElem?_getD,List.getElem?_eq_getElem il]
  exact (tw_xor _ _).symm
theorem due_snoc {W:Wf}{i:Nat}:((List.range i).map (dueW W)).map V.int++[V.int (dueW W i)]=((List.range (i+1)).map (dueW W)).map V.int:=by rw [List.range_succ,List.map_append,List.map_append];rfl
theorem due_ix {W:Wf}{j:Nat}(h:j < W.C.length):((dueV W).map V.int)[j]?=some (.int (dueW W j)):=by
 unfold dueV
 rw [List.getElem?_map,List.getElem?_map,List.getElem?_range h]
 rfl
def splaw (K:W.Frag):Sp:=λ vs H Q _=>∃(a:Addr) (ns:List Int),vs=[.ref a]/\SqL K H a (ns.map V.int)/\ns.length≤63/\∀H',Q (.bl true) H'
abbrev swrapped:Stmt:=top 12
def spwrapped:Sp:=λ vs H Q _=>∃n:Int,vs=[.int n]/\Q (.int (wrapI n)) H
variable {P:Program}{w:World}{K:W.Frag}{mg:Str->Option Value}{base:Heap}{f:Addr}{fd:FuncData}
theorem scwrapped:FnScope ["n"] ["n"] (defScope swrapped):=⟨rfl,rfl,rfl,by decide +kernel,rfl,by decide +kernel,by decide +kernel⟩
theorem okwrapped (F:Fun K "wrapped" "wrapped" swrapped f fd) {tLOW:Tok}(gLOW:mg "LOW" = some (.int (-9223372036854775808) tLOW)):FnOk P w K mg base CX0 (1) f fd ["n"] (spwrapped):=by
 have sc:=scwrapped
 refine F.ok sc (λ vs H Q E h=>?_) (λ cdv A outer s H vs Q E hr h=>?_)
 ·obtain ⟨n,rfl,_⟩:=h;rfl
 obtain ⟨n,rfl,q⟩:=h
 refine ⟨_,(pss_one (ps_ret (pe_op op_add (pe_op op_mod (pe_op op_sub (pv 0) (pe_glob (v:=.int (-9223372036854775808)) (by rfl) gLOW ⟨_,rfl⟩)) (pe_op op_pow pe_int pe_int)) (pe_glob (v:=.int (-9223372036854775808)) (by rfl) gLOW ⟨_,rfl⟩)))),?_⟩
 wp_walk using tSeq,tIfS,inV,eqV
 have e:(n - -9223372036854775808) % 18446744073709551616 + -9223372036854775808=wrapI n:=by unfold wrapI;omega
 rw [e];exact q
abbrev squotient:Stmt:=top 14
def spquotient:Sp:=λ vs H Q _=>∃x y:Int,vs=[.int x,.int y]/\inB x/\inB y/\Q (.int (quoI x y)) H
theorem scquotient:FnScope ["x", "y"] ["x", "y"] (defScope squotient):=⟨rfl,rfl,rfl,by decide +kernel,rfl,by decide +kernel,by decide +kernel⟩
theorem okquotient (F:Fun K "quotient" "quotient" squotient f fd) (cwrapped:Callee P w K mg base CX0 (1) "wrapped" ["n"] spwrapped):FnOk P w K mg base CX0 (2) f fd ["x", "y"] (spquotient):=by
 have sc:=scquotient
 refine F.ok sc (λ vs H Q E h=>?_) (λ cdv A outer s H vs Q E hr h=>?_)
 ·obtain ⟨x,y,rfl,_⟩:=h;rfl
 obtain ⟨x,y,rfl,hx,hy,q⟩:=h
 refine ⟨_,(pss_cons (ps_if (pt_cmpR op_eq (pv 1) pe_int (nomark _)) (pss_one (ps_ret pe_int)) pss_nil) (pss_one (ps_ret (pe_cal cwrapped hr (by rfl) pass0 (pa_cons (pe_op op_fdivW (pv 0) (pv 1)) pa_nil))))),?_⟩
 wp_walk using tSeq,tIfS,inV,eqV,spwrapped
 unfold quoI at q
 by_cases h:y=0
 ·rw [if_pos h]
  rw [if_pos h] at q
  exact q
 ·rw [if_neg h]
  rw [if_neg h] at q
  unfold inB at hy
  exact ⟨h,by omega,by omega,q⟩
abbrev sremainder:Stmt:=top 15
def spremainder:Sp:=λ vs H Q _=>∃x y:Int,vs=[.int x,.int y]/\Q (.int (restI x y)) H
theorem scremainder:FnScope ["x", "y"] ["x", "y"] (defScope sremainder):=⟨rfl,rfl,rfl,by decide +kernel,rfl,by decide +kernel,by decide +kernel⟩
theorem okremainder (F:Fun K "remainder" "remainder" sremainder f fd):FnOk P w K mg base CX0 (1) f fd ["x", "y"] (spremainder):=by
 have sc:=scremainder
 refine F.ok sc (λ vs H Q E h=>?_) (λ cdv A outer s H vs Q E hr h=>?_)
 ·obtain ⟨x,y,rfl,_⟩:=h;rfl
 obtain ⟨x,y,rfl,q⟩:=h
 refine ⟨_,(pss_one (ps_ret (pe_ifExp (pt_cmpR op_eq (pv 1) pe_int (nomark _)) (pv 0) (pe_op op_modN (pv 0) (pv 1))))),?_⟩
 wp_walk using tSeq,tIfS,inV,eqV
 unfold restI at q
 by_cases h:y=0
 ·rw [if_pos h]
  rw [if_pos h] at q
  exact q
 ·rw [if_neg h]
  rw [if_neg h] at q
  exact ⟨h,q⟩
abbrev stwice:Stmt:=top 17
def sptwice:Sp:=λ vs H Q _=>∃(w:Str) (x y:Int),vs=[.str w,.int x,.int y]/\w∈tw/\inB x/\inB y/\Q (.int (twiceI w x y)) H
theorem sctwice:FnScope ["word", "x", "y"] ["word", "x", "y"] (defScope stwice):=⟨rfl,rfl,rfl,by decide +kernel,rfl,by decide +kernel,by decide +kernel⟩
theorem oktwice (F:Fun K "twice" "twice" stwice f fd) (cwrapped:Callee P w K mg base CX0 (2) "wrapped" ["n"] spwrapped) (cquotient:Callee P w K mg base CX0 (2) "quotient" ["x", "y"] spquotient) (cremainder:Callee P w K mg base CX0 (2) "remainder" ["x", "y"] spremainder) (zmax:mg "max" = none) (zmin:mg "min" = none):FnOk P w K mg base CX0 (3) f fd ["word", "x", "y"] (sptwice):=by
 have sc:=sctwice
 refine F.ok sc (λ vs H Q E h=>?_) (λ cdv A outer s H vs Q E hr h=>?_)
 ·obtain ⟨w,x,y,rfl,_⟩:=h;rfl
 obtain ⟨wd,x,y,rfl,hw,hx,hy,q⟩:=h
 refine ⟨_,(pss_cons (ps_if (pt_cmpR op_eq (pv 0) pe_str (nomark _)) (pss_one (ps_ret (pe_cal cwrapped hr (by rfl) pass0 (pa_cons (pe_op op_add (pv 1) (pv 2)) pa_nil)))) pss_nil) (pss_cons (ps_if (pt_cmpR op_eq (pv 0) pe_str (nomark _)) (pss_one (ps_ret (pe_cal cwrapped hr (by rfl) pass0 (pa_cons (pe_op op_sub (pv 1) (pv 2)) pa_nil)))) pss_nil) (pss_cons (ps_if (pt_cmpR op_eq (pv 0) pe_str (nomark _)) (pss_one (ps_ret (pe_cal cwrapped hr (by rfl) pass0 (pa_cons (pe_op op_mul (pv 1) (pv 2)) pa_nil)))) pss_nil) (pss_cons (ps_if (pt_cmpR op_eq (pv 0) pe_str (nomark _)) (pss_one (ps_ret (pe_cal cquotient hr (by rfl) pass0 (pa_cons (pv 1) (pa_cons (pv 2) pa_nil))))) pss_nil) (pss_cons (ps_if (pt_cmpR op_eq (pv 0) pe_str (nomark _)) (pss_one (ps_ret (pe_cal cremainder hr (by rfl) pass0 (pa_cons (pv 1) (pa_cons (pv 2) pa_nil))))) pss_nil) (pss_cons (ps_if (pt_cmpR op_eq (pv 0) pe_str (nomark _)) (pss_one (ps_ret (pe_callB (call_max2 rfl) (by rfl) zmax boot_max (pa_cons (pv 1) (pa_cons (pv 2) pa_nil))))) pss_nil) (pss_cons (ps_if (pt_cmpR op_eq (pv 0) pe_str (nomark _)) (pss_one (ps_ret (pe_callB (call_min2 rfl) (by rfl) zmin boot_min (pa_cons (pv 1) (pa_cons (pv 2) pa_nil))))) pss_nil) (pss_cons (ps_if (pt_cmpR op_eq (pv 0) pe_str (nomark _)) (pss_one (ps_ret (pe_ifExp (pt_cmpR op_lt (pv 1) (pv 2) (nomark _)) pe_int pe_int))) pss_nil) (pss_cons (ps_if (pt_cmpR op_eq (pv 0) pe_str (nomark _)) (pss_one (ps_ret (pe_ifExp (pt_cmpR op_eq (pv 1) (pv 2) (nomark _)) pe_int pe_int))) pss_nil) (pss_cons (ps_if (pt_cmpR op_eq (pv 0) pe_str (nomark _)) (pss_one (ps_ret (pe_op op_and (pv 1) (pv 2)))) pss_nil) (pss_cons (ps_if (pt_cmpR op_eq (pv 0) pe_str (nomark _)) (pss_one (ps_ret (pe_op op_or (pv 1) (pv 2)))) pss_nil) (pss_cons (ps_if (pt_cmpR op_eq (pv 0) pe_str (nomark _)) (pss_one (ps_ret (pe_op op_xor (pv 1) (pv 2)))) pss_nil) (pss_one ps_never))))))))))))),?_⟩
 wp_walk using tSeq,tIfS,inV,eqV,spwrapped,spquotient,spremainder
 simp only [tw,List.mem_cons,List.not_mem_nil,or_false] at hw
 unfold twiceI at q
 have hm:(-18446744073709551616 < x/\x < 18446744073709551616\/-18446744073709551616 < y/\y < 18446744073709551616):=by
  unfold inB at hx;omega
 by_cases h0:wd=Str.ofString "add"
 ·rw [if_pos h0] at q ⊢
  exact q
 rw [if_neg h0] at q ⊢
 by_cases h1:wd=Str.ofString "sub"
 ·rw [if_pos h1] at q ⊢
  exact q
 rw [if_neg h1] at q ⊢
 by_cases h2:wd=Str.ofString "mul"
 ·rw [if_pos h2] at q ⊢
  exact ⟨hm,q⟩
 rw [if_neg h2] at q ⊢
 by_cases h3:wd=Str.ofString "quo"
 ·rw [if_pos h3] at q ⊢
  exact ⟨hx,hy,q⟩
 rw [if_neg h3] at q ⊢
 by_cases h4:wd=Str.ofString "rest"
 ·rw [if_pos h4] at q ⊢
  exact q
 rw [if_neg h4] at q ⊢
 by_cases h5:wd=Str.ofString "max"
 ·rw [if_pos h5] at q ⊢
  exact q
 rw [if_neg h5] at q ⊢
 by_cases h6:wd=Str.ofString "min"
 ·rw [if_pos h6] at q ⊢
  exact q
 rw [if_neg h6] at q ⊢
 by_cases h7:wd=Str.ofString "less"
 ·rw [if_pos h7] at q ⊢
  split<;>(split at q<;>first | exact q | contradiction)
 rw [if_neg h7] at q ⊢
 by_cases h8:wd=Str.ofString "like"
 ·rw [if_pos h8] at q ⊢
  split<;>(split at q<;>first | exact q | contradiction)
 rw [if_neg h8] at q ⊢
 by_cases h9:wd=Str.ofString "and"
 ·rw [if_pos h9] at q ⊢
  exact q
 rw [if_neg h9] at q ⊢
 by_cases h10:wd=Str.ofString "or"
 ·rw [if_pos h10] at q ⊢
  exact q
 rw [if_neg h10] at q ⊢
 have h11:wd=Str.ofString "xor" := by simpa [h0,h1,h2,h3,h4,h5,h6,h7,h8,h9,h10] using hw
 rw [if_pos h11]
 exact q
abbrev samount:Stmt:=top 20
def spamount:Sp:=λ vs H Q _=>∃(a:Addr) (ns:List Int),vs=[.ref a]/\(H a=some (.lst (ns.map V.int))\/H a=some (.tup (ns.map V.int)))/\sdOk ns/\Q (.int (prodI ns)) H
theorem scamount:FnScope ["sides", "product", "side"] ["sides"] (defScope samount):=⟨rfl,rfl,rfl,by decide +kernel,rfl,by decide +kernel,by decide +kernel⟩
theorem okamount (F:Fun K "amount" "amount" samount f fd):FnOk P w K mg base CX0 (1) f fd ["sides"] (spamount):=by
 have sc:=scamount
 refine F.ok sc (λ vs H Q E h=>?_) (λ cdv A outer s H vs Q E hr h=>?_)
 ·obtain ⟨a,ns,rfl,_⟩:=h;rfl
 obtain ⟨a,ns,rfl,ha | ha,hs,q⟩:=h
 ·refine ⟨_,(pss_cons (ps_set (i:=1) sc.nd rfl (by first | exact Or.inl rfl | exact Or.inr rfl) pe_int) (pss_cons (ps_for PassesOwn.never rfl (pi_list (pv 0)) (pg_name (i:=2) sc.nd rfl (Or.inl rfl)) (pss_one (ps_set (i:=1) sc.nd rfl (by first | exact Or.inl rfl | exact Or.inr rfl) (pe_op op_mul (pv 1) (pv 2))))) (pss_one (ps_ret (pv 1))))),?_⟩
  wp_walk using tSeq,tIfS,inV,eqV
  refine LoopL.mk (xs:=ns.map V.int) (.of ha) (λ i σ H'=>H'=H/\∃y,σ=[some (.ref a),some (.int (prodI (ns.take i))),y]) ⟨rfl,_,rfl⟩ (λ i σ H' _ h=>by rw [h.1];exact .of ha) (λ i x σ H' e h=>?_) (λ σ H' h=>?_)
  ·obtain ⟨h1,y,rfl⟩:=h
   subst h1
   obtain ⟨m,rfl,hm,m0,m1⟩:=sd_at hs e
   wp_walk using tSeq,tIfS,inV,eqV
   rw [prod_step hm]
   exact ⟨.inr ⟨by omega,by omega⟩,rfl,_,rfl⟩
  ·obtain ⟨h1,y,rfl⟩:=h
   subst h1
   wp_walk using tSeq,tIfS,inV,eqV
   rw [len_map,List.take_length]
   exact q
 ·refine ⟨_,(pss_cons (ps_set (i:=1) sc.nd rfl (by first | exact Or.inl rfl | exact Or.inr rfl) pe_int) (pss_cons (ps_for PassesOwn.never rfl (pi_tup (pv 0)) (pg_name (i:=2) sc.nd rfl (Or.inl rfl)) (pss_one (ps_set (i:=1) sc.nd rfl (by first | exact Or.inl rfl | exact Or.inr rfl) (pe_op op_mul (pv 1) (pv 2))))) (pss_one (ps_ret (pv 1))))),?_⟩
  wp_walk using tSeq,tIfS,inV,eqV
  refine LoopT.mk (xs:=ns.map V.int) (.of ha) (λ i σ H'=>H'=H/\∃y,σ=[some (.ref a),some (.int (prodI (ns.take i))),y]) ⟨rfl,_,rfl⟩ (λ i σ H' _ h=>by rw [h.1];exact .of ha) (λ i x σ H' e h=>?_) (λ σ H' h=>?_)
  ·obtain ⟨h1,y,rfl⟩:=h
   subst h1
   obtain ⟨m,rfl,hm,m0,m1⟩:=sd_at hs e
   wp_walk using tSeq,tIfS,inV,eqV
   rw [prod_step hm]
   exact ⟨.inr ⟨by omega,by omega⟩,rfl,_,rfl⟩
  ·obtain ⟨h1,y,rfl⟩:=h
   subst h1
   wp_walk using tSeq,tIfS,inV,eqV
   rw [len_map,List.take_length]
   exact q
abbrev satof:Stmt:=top 21
theorem scatof:FnScope ["sides", "place", "at", "left", "side"] ["sides", "place"] (defScope satof):=⟨rfl,rfl,rfl,by decide +kernel,rfl,by decide +kernel,by decide +kernel⟩
theorem okatof (F:Fun K "at_of" "at_of" satof f fd) {CNoPlace:Addr}(nNoPlace:W.nsIn K mainGlobals "NoPlace" = some (some (.ref CNoPlace))) (camount:Callee P w K mg base CX0 (1) "amount" ["sides"] spamount) (zreversed:mg "reversed" = none) (ztuple:mg "tuple" = none) (xNoPlace:W.excIn K CNoPlace [.type "ValueError",.type "Exception",.type "BaseException",.type "object"] "ValueError.__new__" = true):FnOk P w K mg base (CX1 P w) (2) f fd ["sides", "place"] ((spatof CNoPlace)):=by
 have sc:=scatof
 refine F.okX sc (λ vs H Q E h=>?_) (λ cdv A outer s H vs Q E hr h=>?_)
 ·obtain ⟨a,ns,pl,rfl,_⟩:=h;rfl
 obtain ⟨a,ns,pl,rfl,ha,hs,h63,q1,q2⟩:=h
 refine ⟨_,(pss_cons (ps_if (PW.pt (pw_or (pt_cmpR op_lt (pv 1) pe_int (nomark _)) (pw_or1 (pt_cmpR op_ge (pv 1) (pe_cal camount hr (by rfl) pass0 (pa_cons (pv 0) pa_nil)) (nomark _))))) (pss_one (ps_raise PySem.F.excBase_ValueError rfl (by rfl) nNoPlace xNoPlace raises1 (pa_cons pe_str pa_nil))) pss_nil) (pss_cons (ps_set (i:=2) sc.nd rfl (by first | exact Or.inl rfl | exact Or.inr rfl) (pe_lst pa_nil)) (pss_cons (ps_set (i:=3) sc.nd rfl (by first | exact Or.inl rfl | exact Or.inr rfl) (pv 1)) (pss_cons (ps_for PassesOwn.leaving rfl (pi_revT (by rfl) zreversed (pv 0)) (pg_name (i:=4) sc.nd rfl (Or.inl rfl)) (pss_cons (ps_expr (pe_app (pv 2) (pe_op op_mod (pv 3) (pv 4)))) (pss_one (ps_set (i:=3) sc.nd rfl (by first | exact Or.inl rfl | exact Or.inr rfl) (pe_op op_fdivW (pv 3) (pv 4)))))) (pss_one (ps_ret (pe_tupRev rfl (by rfl) (by rfl) ztuple zreversed (pv 2)))))))),?_⟩
 wp_walk using tSeq,tIfS,inV,eqV,spamount
 by_cases c1:pl < 0
 ·rw [if_pos c1];exact ⟨small (by decide),q1 (.inl c1) _ (Same.refl _)⟩
 rw [if_neg c1]
 refine ⟨ns,.inr ha,hs,?_⟩
 by_cases c2:prodI ns≤pl
 ·rw [if_pos c2];exact ⟨small (by decide),q1 (.inr c2) _ (Same.refl _)⟩
 rw [if_neg c2]
 have nz:=prod_nz (ns:=ns) (by omega)
 refine ⟨small (by decide),λ p hp=>?_⟩
 refine LoopV.mk (xs:=ns.map V.int) (.of (same_new hp _ _ _ ha)) (λ i σ H'=>Same H H'/\H' p=some (.lst ((dgL ns pl i).map V.int))/\∃y,σ=[some (.ref a),some (.int pl),some (.ref p),some (.int (lfI ns pl i)),y]) ⟨same_new hp _,upd_same,_,rfl⟩ (λ i σ H' _ h=>.of (h.1 _ _ ha)) (λ i x σ H' hi e h=>?_) (λ σ H' h=>?_)
 ·obtain ⟨h1,h2,y,rfl⟩:=h
  obtain ⟨m,rfl,hm,m0,m1⟩:=sd_at hs e
  rw [len_map] at hi hm
  have mz:=nz m (List.mem_of_getElem? hm)
  have rg:=rev_get hi hm
  have sm:((dgL ns pl i).map V.int).length < sizeLine:=by
   rw [List.length_map,dgL,List.length_map,List.length_range];exact small1000 (by omega)
  have d1:dgI ns pl i=lfI ns pl i % m:=by unfold dgI;rw [rg]
  have l1:lfI ns pl (i+1)=lfI ns pl i / m:=by show lfI ns pl i / _=_;rw [rg]
  have fd:(lfI ns pl i).fdiv m=lfI ns pl i / m:=Int.fdiv_eq_ediv_of_nonneg _ m0
  have s2:Same H (upd H' p (.lst (((dgL ns pl i).map V.int)++[V.int (lfI ns pl i % m)]))):=λ b o e=>by
   have nb:b≠p:=λ z=>by rw [z,hp] at e;cases e
   rw [upd_ne nb];exact h1 b o e
  wp_walk using tSeq,tIfS,inV,eqV
  rw [l1,dgL_succ,List.map_append,d1,fd]
  exact ⟨⟨_,h2⟩,by omega,_,h2,sm,mz,by omega,by omega,s2,rfl,rfl,_,rfl⟩
 ·obtain ⟨h1,h2,y,rfl⟩:=h
  rw [len_map] at h2
  wp_walk using tSeq,tIfS,inV,eqV
  refine ⟨_,.of h2,λ p2 hp2=>?_⟩
  rw [← List.map_reverse]
  exact q2 (by omega) (by omega) _ _ (h1.trans (same_new hp2 _)) upd_same
abbrev sspotof:Stmt:=top 23
def spspotof:Sp:=λ vs H Q _=>∃(v b e p:Addr) (s:Int) (st c:List Int),vs=[.ref v,.ref b]/\H v=some (.tup [.ref e,.int s,.ref p])/\H e=some (.tup [])/\H p=some (.tup (st.map V.int))/\H b=some (.tup (c.map V.int))/\c.length=st.length/\st.length≤10/\(∀x∈c,0≤x/\x≤1000)/\∀H',Same H H'->Q (.int (s+dotI st c)) H'
theorem scspotof:FnScope ["view", "at", "side", "coordinate"] ["view", "at"] (defScope sspotof):=⟨rfl,rfl,rfl,by decide +kernel,rfl,by decide +kernel,by decide +kernel⟩
theorem okspotof (F:Fun K "spot_of" "spot_of" sspotof f fd) (zlen:mg "len" = none) (zzip:mg "zip" = none) (zsum:mg "sum" = none):FnOk P w K mg base CX0 (1) f fd ["view", "at"] (spspotof):=by
 have sc:=scspotof
 refine F.ok sc (λ vs H Q E h=>?_) (λ cdv A outer s H vs Q E hr h=>?_)
 ·obtain ⟨v,b,e,p,s,st,c,rfl,_⟩:=h;rfl
 obtain ⟨v,b,ea,p,s0,st,c,rfl,hv,he,hp,hb,hl,h10,hc,q⟩:=h
 refine ⟨_,(pss_cons (ps_if (pt_cmpR op_ne (pe_callB call_len_seq (by rfl) zlen PySem.boot_len (pa_cons (pv 1) pa_nil)) (pe_callB call_len_seq (by rfl) zlen PySem.boot_len (pa_cons (pe_ix ix_tupH (pv 0) pe_int (λ _ _=>rfl)) pa_nil)) (nomark _)) (pss_one ps_never) pss_nil) (pss_cons (ps_for PassesOwn.never rfl (pi_zip (by rfl) zzip (pa_cons (pe_ix ix_tupH (pv 0) pe_int (λ _ _=>rfl)) (pa_cons (pv 1) pa_nil))) (pg_tupH (n:=2) (pg_tup rfl (pgs_cons (pg_name (i:=2) sc.nd rfl (Or.inl rfl)) (pgs_cons (pg_name (i:=3) sc.nd rfl (Or.inl rfl)) pgs_nil)))) (pss_one (ps_if (PW.pt (pw_or (pt_cmpR op_lt (pv 3) pe_int (nomark _)) (pw_or1 (pt_cmpR op_ge (pv 3) (pv 2) (nomark _))))) (pss_one ps_never) pss_nil))) (pss_one (ps_ret (pe_op op_add (pe_ix ix_tupH (pv 0) pe_int (λ _ _=>rfl)) (pe_callB (call_sumL rfl) (by rfl) zsum boot_sum (pa_cons (pe_comp0 (own:=["coordinate", "stride"]) rfl (pi_zip (by rfl) zzip (pa_cons (pv 1) (pa_cons (pe_ix ix_tupH (pv 0) pe_int (λ _ _=>rfl)) pa_nil))) (by decide) (by decide) rfl (by decide) (λ _ _ _ _=>(pg_tupH (n:=2) (pg_tup rfl (pgs_cons (pg_name (i:=0) (show (["coordinate", "stride"]:List Str).Nodup by decide +kernel) rfl (Or.inl rfl)) (pgs_cons (pg_name (i:=1) (show (["coordinate", "stride"]:List Str).Nodup by decide +kernel) rfl (Or.inl rfl)) pgs_nil))))) (λ _ _ _ _=>(pe_op op_mul (pv 0) (pv 1)))) pa_nil))))))),?_⟩
 wp_walk using tSeq,tIfS,inV,eqV
 refine ⟨_,.inr (.of hb),_,hv,_,atI_nat (j:=2) rfl,_,rfl,_,.inr (.of hp),?_⟩
 rw [len_map,len_map]
 rw [if_neg (by omega)]
 refine ⟨_,hv,_,atI_nat (j:=0) rfl,?_⟩
 refine LoopZ.mk (xs:=[]) (ys:=c.map V.int) 0 (by simp) (.of he) (.of hb) (λ i σ H'=>Same H H'/\∃y2 y3,σ=[some (.ref v),some (.ref b),y2,y3]) ⟨Same.refl _,_,_,rfl⟩ (λ i σ H' _ h=>⟨.of (h.1 _ _ he),.of (h.1 _ _ hb)⟩) (λ i x y σ H' T hi ex ey h hT=>absurd hi (Nat.not_lt_zero _)) (λ σ H' h=>?_)
 obtain ⟨h1,y2,y3,rfl⟩:=h
 wp_walk using tSeq,tIfS,inV,eqV
 have hb1:=h1 _ _ hb
 have hp1:=h1 _ _ hp
 refine ⟨_,h1 _ _ hv,_,atI_nat (j:=1) rfl,_,h1 _ _ hv,_,atI_nat (j:=2) rfl,?_⟩
 have lz:(List.zipWith (λ a b=>a * b) c st).length=st.length:=by rw [List.length_zipWith,hl,Nat.min_self]
 refine CompZ.mk (xs:=c.map V.int) (ys:=st.map V.int) st.length (by rw [len_map,len_map,hl,Nat.min_self]) (.of hb1) (.of hp1) (λ i zs σ H2=>Same H' H2/\zs=((List.zipWith (λ a b=>a * b) c st).take i).map V.int/\∃y z,σ=[y,z]) ⟨Same.refl _,rfl,_,_,rfl⟩ (λ i zs σ H2 _ h=>⟨.of (h.1 _ _ hb1),.of (h.1 _ _ hp1)⟩) (λ i x y zs σ H2 T hi ex ey h hT=>?_) (λ zs σ H2 h r hr=>?_) (λ i zs σ H2 h=>?_)
 ·obtain ⟨h3,rfl,y4,y5,rfl⟩:=h
  obtain ⟨m,rfl,hm⟩:=int_at ex
  obtain ⟨t,rfl,ht⟩:=int_at ey
  have ez:(List.zipWith (λ a b=>a * b) c st)[i]?=some (m * t):=by rw [List.getElem?_zipWith,hm,ht]
  have et:((List.zipWith (λ a b=>a * b) c st).take (i+1)).map V.int=((List.zipWith (λ a b=>a * b) c st).take i).map V.int++[V.int (m * t)]:=by
   rw [List.take_add_one,ez,List.map_append];rfl
  have mm:=hc m (List.mem_of_getElem? hm)
  refine ⟨by rw [List.length_map,List.length_take];exact small1000 (by omega),?_⟩
  wp_walk using tSeq,tIfS,inV,eqV,et
  exact ⟨.inl ⟨by omega,by omega⟩,h3.trans (same_new hT _),_,rfl⟩
 ·obtain ⟨h3,rfl,y4,y5,rfl⟩:=h
  rw [List.take_of_length_le (by omega)]
  refine ⟨r,rfl,_,.of upd_same,_,rfl,?_⟩
  rw [dot_sum]
  exact q _ (h1.trans (h3.trans (same_new hr _)))
 ·obtain ⟨h3,rfl,_⟩:=h
  rw [List.length_map,List.length_take]
  exact small1000 (by omega)
abbrev sisfree:Stmt:=top 25
def spisfree:Sp:=λ vs H Q _=>∃(a:Addr) (w:Str) (xs:List V) (b:Bool),vs=[.ref a]/\H a=some (.tup (.str w::xs))/\((b=true/\(w=Str.ofString "num" \/ w=Str.ofString "read"))\/(b=false/\w=Str.ofString "pair"))/\∀H',Same H H'->Q (.bl b) H'
theorem scisfree:FnScope ["tree"] ["tree"] (defScope sisfree):=⟨rfl,rfl,rfl,by decide +kernel,rfl,by decide +kernel,by decide +kernel⟩
theorem okisfree (F:Fun K "is_free" "is_free" sisfree f fd):FnOk P w K mg base CX0 (1) f fd ["tree"] (spisfree):=by
 have sc:=scisfree
 refine F.ok sc (λ vs H Q E h=>?_) (λ cdv A outer s H vs Q E hr h=>?_)
 ·obtain ⟨a,w,xs,b,rfl,_⟩:=h;rfl
 obtain ⟨a,w,xs,b,rfl,ha,hw,q⟩:=h
 refine ⟨_,(pss_one (ps_ret (pe_cmpR op_inT (pe_ix ix_tupH (pv 0) pe_int (λ _ _=>rfl)) (pe_tup (pa_cons pe_str (pa_cons pe_str (pa_cons pe_str pa_nil)))) rfl))),?_⟩
 wp_walk using tSeq,tIfS
 refine ⟨_,ha,_,atI_nat (j:=0) rfl,small (by decide),λ p hp=>⟨rfl,?_⟩⟩
 have e:inV (.str w) [V.str (Str.ofString "num"),V.str (Str.ofString "index"),V.str (Str.ofString "read")]=b:=by
  rcases hw with ⟨rfl,rfl | rfl⟩ | ⟨rfl,rfl⟩<;>decide +kernel
 rw [e]
 exact q _ (same_new hp _)
abbrev sbranchesof:Stmt:=top 26
def spbranchesof:Sp:=λ vs H Q _=>∃(a t1 t2:Addr) (w:Str),vs=[.ref a]/\H a=some (.tup [.str (Str.ofString "pair"),.str w,.ref t1,.ref t2])/\∀H' p,Same H H'->H' p=some (.tup [.ref t1,.ref t2])->Q (.ref p) H'
theorem scbranchesof:FnScope ["tree", "form"] ["tree"] (defScope sbranchesof):=⟨rfl,rfl,rfl,by decide +kernel,rfl,by decide +kernel,by decide +kernel⟩
theorem okbranchesof (F:Fun K "branches_of" "branches_of" sbranchesof f fd):FnOk P w K mg base CX0 (1) f fd ["tree"] (spbranchesof):=by
 have sc:=scbranchesof
 refine F.ok sc (λ vs H Q E h=>?_) (λ cdv A outer s H vs Q E hr h=>?_)
 ·obtain ⟨a,t1,t2,w,rfl,_⟩:=h;rfl
 obtain ⟨a,t1,t2,w,rfl,ha,q⟩:=h
 refine ⟨_,(pss_cons (ps_set (i:=1) sc.nd rfl (by first | exact Or.inl rfl | exact Or.inr rfl) (pe_ix ix_tupH (pv 0) pe_int (λ _ _=>rfl))) (pss_cons (ps_if (pt_cmpR op_eq (pv 1) pe_str (nomark _)) (pss_one (ps_ret (pe_slice sl_tupA (pv 0) (po_some pe_int) po_none))) pss_nil) (pss_cons (ps_if (pt_cmpR op_inT (pv 1) (pe_tup (pa_cons pe_str (pa_cons pe_str pa_nil))) rfl) (pss_one (ps_ret (pe_slice sl_tupA (pv 0) (po_some pe_int) po_none))) pss_nil) (pss_cons (ps_if (pt_cmpR op_eq (pv 1) pe_str (nomark _)) (pss_one (ps_ret (pe_slice sl_tupA (pv 0) (po_some pe_int) po_none))) pss_nil) (pss_cons (ps_if (pt_cmpR op_eq (pv 1) pe_str (nomark _)) (pss_one (ps_ret (pe_slice sl_tupA (pv 0) (po_some pe_int) po_none))) pss_nil) (pss_one (ps_ret (pe_tup pa_nil)))))))),?_⟩
 wp_walk using tSeq,tIfS,inV,eqV
 refine ⟨_,ha,_,atI_nat (j:=0) rfl,rfl,?_⟩
 rw [if_neg (sne (by decide +kernel))]
 refine ⟨small (by decide),λ p0 hp0=>⟨rfl,?_⟩⟩
 rw [if_pos (by decide +kernel)]
 exact ⟨_,same_new hp0 _ _ _ ha,λ r H' s hr=>q _ r ((same_new hp0 _).trans s) hr⟩
abbrev staken:Stmt:=top 27
def sptaken:Sp:=λ vs H Q _=>∃(a:Addr) (i:Int) (xs:List V) (x:Int),vs=[.ref a,.int i]/\H a=some (.lst xs)/\0≤i/\i < xs.length/\xs[i.toNat]?=some (.int x)/\Q (.int x) H
theorem sctaken:FnScope ["store", "spot"] ["store", "spot"] (defScope staken):=⟨rfl,rfl,rfl,by decide +kernel,rfl,by decide +kernel,by decide +kernel⟩
theorem oktaken (F:Fun K "taken" "taken" staken f fd) (zlen:mg "len" = none):FnOk P w K mg base CX0 (1) f fd ["store", "spot"] (sptaken):=by
 have sc:=sctaken
 refine F.ok sc (λ vs H Q E h=>?_) (λ cdv A outer s H vs Q E hr h=>?_)
 ·obtain ⟨a,i,r,x,rfl,_⟩:=h;rfl
 obtain ⟨a,i,r,x,rfl,ha,i0,i1,ex,q⟩:=h
 refine ⟨_,(pss_cons (ps_if (PW.pt (pw_or (pt_cmpR op_lt (pv 1) pe_int (nomark _)) (pw_or1 (pt_cmpR op_ge (pv 1) (pe_callB call_len_seq (by rfl) zlen PySem.boot_len (pa_cons (pv 0) pa_nil)) (nomark _))))) (pss_one ps_never) pss_nil) (pss_cons (ps_if (pt_cmpR op_isN (pe_ix ix_listH (pv 0) (pv 1) (λ _ _=>rfl)) pe_non (nomark _)) (pss_one ps_never) pss_nil) (pss_one (ps_ret (pe_ix ix_listH (pv 0) (pv 1) (λ _ _=>rfl)))))),?_⟩
 wp_walk using tSeq,tIfS,inV,eqV
 have hx:atI r i=some (.int x):=by
  have z:=atI_nat (xs:=r) (j:=i.toNat) (v:=.int x) ex
  rwa [show ((i.toNat:Nat):Int)=i by omega] at z
 rw [if_neg (by omega)]
 refine ⟨_,.inl (.of ha),?_⟩
 rw [if_neg (by omega)]
 refine ⟨_,ha,_,hx,?_⟩
 rw [if_neg (by intro z;cases z)]
 exact ⟨_,ha,_,hx,q⟩
abbrev streespot:Stmt:=top 28
def sptreespot:Sp:=λ vs H Q _=>∃(b p:Addr) (s:Int) (st c:List Int),vs=[.int s,.ref p,.ref b]/\H p=some (.tup (st.map V.int))/\H b=some (.tup (c.map V.int))/\c.length=st.length/\st.length≤10/\(∀x∈c,0≤x/\x≤1000)/\∀H',Same H H'->Q (.int (s+dotI st c)) H'
theorem sctreespot:FnScope ["start", "strides", "at"] ["start", "strides", "at"] (defScope streespot):=⟨rfl,rfl,rfl,by decide +kernel,rfl,by decide +kernel,by decide +kernel⟩
theorem oktreespot (F:Fun K "tree_spot" "tree_spot" streespot f fd) (cspotof:Callee P w K mg base CX0 (1) "spot_of" ["view", "at"] spspotof):FnOk P w K mg base CX0 (2) f fd ["start", "strides", "at"] (sptreespot):=by
 have sc:=sctreespot
 refine F.ok sc (λ vs H Q E h=>?_) (λ cdv A outer s H vs Q E hr h=>?_)
 ·obtain ⟨b,p,s,st,c,rfl,_⟩:=h;rfl
 obtain ⟨b,p,s0,st,c,rfl,hp,hb,hl,h10,hc,q⟩:=h
 refine ⟨_,(pss_one (ps_ret (pe_cal cspotof hr (by rfl) pass0 (pa_cons (pe_tup (pa_cons (pe_tup pa_nil) (pa_cons (pv 0) (pa_cons (pv 1) pa_nil)))) (pa_cons (pv 2) pa_nil))))),?_⟩
 wp_walk using tSeq,tIfS,inV,eqV,spspotof
 refine ⟨small (by decide),λ e he=>⟨small (by decide),λ v hv=>?_⟩⟩
 have t1:=same_new he (HO.tup [])
 have t2:=same_new hv (HO.tup [V.ref e,V.int s0,V.ref p])
 have t12:=t1.trans t2
 exact ⟨t2 _ _ upd_same,st,t12 _ _ hp,c,t12 _ _ hb,hl,h10,hc,λ H1 s1=>q _ (t12.trans s1)⟩
abbrev sfreenumber:Stmt:=top 29
def spfreenumber:Sp:=λ vs H Q _=>∃(t at_ st:Addr) (d:Nat) (v c:Int),vs=[.ref t,.ref at_,.ref st]/\TrV H at_ st (d+1) t v c/\(∀w t1 t2,H t≠some (.tup [.str (Str.ofString "pair"),.str w,.ref t1,.ref t2]))/\∀H',Same H H'->Q (.int v) H'
theorem scfreenumber:FnScope ["tree", "at", "stores"] ["tree", "at", "stores"] (defScope sfreenumber):=⟨rfl,rfl,rfl,by decide +kernel,rfl,by decide +kernel,by decide +kernel⟩
theorem okfreenumber (F:Fun K "free_number" "free_number" sfreenumber f fd) (ctreespot:Callee P w K mg base CX0 (2) "tree_spot" ["start", "strides", "at"] sptreespot) (ctaken:Callee P w K mg base CX0 (2) "taken" ["store", "spot"] sptaken):FnOk P w K mg base CX0 (3) f fd ["tree", "at", "stores"] (spfreenumber):=by
 have sc:=scfreenumber
 refine F.ok sc (λ vs H Q E h=>?_) (λ cdv A outer s H vs Q E hr h=>?_)
 ·obtain ⟨t,a,st,d,v,c,rfl,_⟩:=h;rfl
 obtain ⟨t,a,st,d,v,c,rfl,hv,nf,q⟩:=h
 refine ⟨_,(pss_cons (ps_if (pt_cmpR op_eq (pe_ix ix_tupH (pv 0) pe_int (λ _ _=>rfl)) pe_str (nomark _)) (pss_one (ps_ret (pe_ix ix_tupH (pv 0) pe_int (λ _ _=>rfl)))) pss_nil) (pss_cons (ps_if (pt_cmpR op_eq (pe_ix ix_tupH (pv 0) pe_int (λ _ _=>rfl)) pe_str (nomark _)) (pss_one (ps_ret (pe_cal ctreespot hr (by rfl) pass0 (pa_cons (pe_ix ix_tupH (pv 0) pe_int (λ _ _=>rfl)) (pa_cons (pe_ix ix_tupH (pv 0) pe_int (λ _ _=>rfl)) (pa_cons (pv 1) pa_nil)))))) pss_nil) (pss_one (ps_ret (pe_cal ctaken hr (by rfl) pass0 (pa_cons (pe_ix ix_listH (pv 2) (pe_ix ix_tupH (pv 0) pe_int (λ _ _=>rfl)) (λ _ _=>rfl)) (pa_cons (pe_cal ctreespot hr (by rfl) pass0 (pa_cons (pe_ix ix_tupH (pv 0) pe_int (λ _ _=>rfl)) (pa_cons (pe_ix ix_tupH (pv 0) pe_int (λ _ _=>rfl)) (pa_cons (pv 1) pa_nil)))) pa_nil))))))),?_⟩
 wp_walk using tSeq,tIfS,inV,eqV,sptreespot,sptaken
 rcases hv with ⟨n,h1,rfl,_⟩ | ⟨k,s0,p,sa,ss,as,ps,xs,h1,h2,h3,h4,h5,h6,h7,h8,h9,h10,h11,h12,_⟩ | ⟨w,t1,t2,v1,v2,c1,c2,h1,_⟩
 ·refine ⟨_,h1,_,atI_nat (j:=0) rfl,rfl,?_⟩
  rw [if_pos rfl]
  exact ⟨_,h1,_,atI_nat (j:=1) rfl,q _ (Same.refl _)⟩
 ·refine ⟨_,h1,_,atI_nat (j:=0) rfl,rfl,?_⟩
  rw [if_neg (sne (by decide +kernel))]
  refine ⟨_,h1,_,atI_nat (j:=0) rfl,rfl,?_⟩
  rw [if_neg (sne (by decide +kernel))]
  exact ⟨_,h1,_,atI_nat (j:=1) rfl,_,(k:Int),rfl,h7,_,atI_nat (j:=k) (v:=.ref sa) (by rw [List.getElem?_map,h8];rfl),_,h1,_,atI_nat (j:=2) rfl,_,h1,_,atI_nat (j:=3) rfl,_,p,s0,rfl,rfl,rfl,ss,h2,as,h3,h4,h5,h6,λ H' s=>⟨sa,rfl,xs,s _ _ h9,h10,h11,v,h12,q _ s⟩⟩
 ·exact absurd h1 (nf _ _ _)
abbrev sputtogether:Stmt:=top 30
def spputtogether:Sp:=λ vs H Q _=>∃(t na a st t1 t2:Addr) (w:Str) (v1 v2:Int),vs=[.ref t,.ref na,.ref a,.ref st]/\H t=some (.tup [.str (Str.ofString "pair"),.str w,.ref t1,.ref t2])/\w∈tw/\inB v1/\inB v2/\H na=some (.lst [.int v1,.int v2])/\Q (.int (twiceI w v1 v2)) H
theorem scputtogether:FnScope ["tree", "numbers", "at", "stores", "form", "row"] ["tree", "numbers", "at", "stores"] (defScope sputtogether):=⟨rfl,rfl,rfl,by decide +kernel,rfl,by decide +kernel,by decide +kernel⟩
theorem okputtogether (F:Fun K "put_together" "put_together" sputtogether f fd) (ctwice:Callee P w K mg base CX0 (3) "twice" ["word", "x", "y"] sptwice):FnOk P w K mg base CX0 (4) f fd ["tree", "numbers", "at", "stores"] (spputtogether):=by
 have sc:=scputtogether
 refine F.ok sc (λ vs H Q E h=>?_) (λ cdv A outer s H vs Q E hr h=>?_)
 ·obtain ⟨t,na,a,st,t1,t2,w,v1,v2,rfl,_⟩:=h;rfl
 obtain ⟨t,na,a,st,t1,t2,w,v1,v2,rfl,ht,hw,b1,b2,hn,q⟩:=h
 refine ⟨_,(pss_cons (ps_set (i:=4) sc.nd rfl (by first | exact Or.inl rfl | exact Or.inr rfl) (pe_ix ix_tupH (pv 0) pe_int (λ _ _=>rfl))) (pss_cons (ps_if (pt_cmpR op_eq (pv 4) pe_str (nomark _)) (pss_one (ps_ret pe_never)) pss_nil) (pss_cons (ps_if (pt_cmpR op_eq (pv 4) pe_str (nomark _)) (pss_one (ps_ret (pe_cal ctwice hr (by rfl) pass0 (pa_cons (pe_ix ix_tupH (pv 0) pe_int (λ _ _=>rfl)) (pa_cons (pe_ix ix_listH (pv 1) pe_int (λ _ _=>rfl)) (pa_cons (pe_ix ix_listH (pv 1) pe_int (λ _ _=>rfl)) pa_nil)))))) pss_nil) (pss_cons (ps_if (pt_cmpR op_eq (pv 4) pe_str (nomark _)) (pss_one (ps_ret (pe_ifExp (pt_cmpR op_ne (pe_ix ix_listH (pv 1) pe_int (λ _ _=>rfl)) pe_int (nomark _)) (pe_ix ix_listH (pv 1) pe_int (λ _ _=>rfl)) (pe_ix ix_listH (pv 1) pe_int (λ _ _=>rfl))))) pss_nil) (pss_cons (ps_set (i:=5) sc.nd rfl (by first | exact Or.inl rfl | exact Or.inr rfl) pe_never) (pss_one (ps_ret pe_never))))))),?_⟩
 wp_walk using tSeq,tIfS,inV,eqV,sptwice
 refine ⟨_,ht,_,atI_nat (j:=0) rfl,rfl,?_⟩
 rw [if_neg (sne (by decide +kernel))]
 refine ⟨rfl,?_⟩
 rw [if_pos rfl]
 exact ⟨_,ht,_,atI_nat (j:=1) rfl,_,hn,_,atI_nat (j:=0) rfl,_,hn,_,atI_nat (j:=1) rfl,w,rfl,_,rfl,_,rfl,by simpa [tw] using hw,b1,b2,q⟩
abbrev sreckoned:Stmt:=top 32
def spreckoned:Nat->Sp:=λ d=>match d with | 0=>λ _ _ _ _=>False | d+1=>λ vs H Q _=>∃(t a st:Addr) (v c:Int),vs=[.ref t,.ref a,.ref st]/\TrV H a st (d+1) t v c/\∀H' p,Same H H'->H' p=some (.tup [.int v,.int c])->Q (.ref p) H'
theorem screckoned:FnScope ["tree", "at", "stores", "numbers", "calls", "branch", "told"] ["tree", "at", "stores"] (defScope sreckoned):=⟨rfl,rfl,rfl,by decide +kernel,rfl,by decide +kernel,by decide +kernel⟩
theorem okreckoned (F:Fun K "reckoned" "reckoned" sreckoned f fd) {d0:Nat}(cisfree:Callee P w K mg base CX0 (d0+4) "is_free" ["tree"] spisfree) (cbranchesof:Callee P w K mg base CX0 (d0+4) "branches_of" ["tree"] spbranchesof) (cfreenumber:Callee P w K mg base CX0 (d0+4) "free_number" ["tree", "at", "stores"] spfreenumber) (cputtogether:Callee P w K mg base CX0 (d0+4) "put_together" ["tree", "numbers", "at", "stores"] spputtogether) (creckoned:Callee P w K mg base CX0 (d0+4) "reckoned" ["tree", "at", "stores"] (spreckoned d0)):FnOk P w K mg base CX0 (d0+5) f fd ["tree", "at", "stores"] (spreckoned (d0+1)):=by
 have sc:=screckoned
 refine F.ok sc (λ vs H Q E h=>?_) (λ cdv A outer s H vs Q E hr h=>?_)
 ·obtain ⟨t,a,st,v,c,rfl,_⟩:=h;rfl
 obtain ⟨t,a,st,v,c,rfl,hv,q⟩:=h
 refine ⟨_,(pss_cons (ps_if (pt_val (pe_cal cisfree hr (by rfl) pass0 (pa_cons (pv 0) pa_nil))) (pss_one (ps_ret (pe_tup (pa_cons (pe_cal cfreenumber hr (by rfl) pass0 (pa_cons (pv 0) (pa_cons (pv 1) (pa_cons (pv 2) pa_nil)))) (pa_cons pe_int pa_nil))))) pss_nil) (pss_cons (ps_if (pt_cmpR op_eq (pe_ix ix_tupH (pv 0) pe_int (λ _ _=>rfl)) pe_str (nomark _)) (pss_one (ps_ret pe_never)) pss_nil) (pss_cons (ps_set (i:=3) sc.nd rfl (by first | exact Or.inl rfl | exact Or.inr rfl) (pe_lst pa_nil)) (pss_cons (ps_set (i:=4) sc.nd rfl (by first | exact Or.inl rfl | exact Or.inr rfl) pe_int) (pss_cons (ps_for PassesOwn.never rfl (pi_tup (pe_cal cbranchesof hr (by rfl) pass0 (pa_cons (pv 0) pa_nil))) (pg_name (i:=5) sc.nd rfl (Or.inl rfl)) (pss_cons (ps_set (i:=6) sc.nd rfl (by first | exact Or.inl rfl | exact Or.inr rfl) (pe_cal creckoned hr (by rfl) pass0 (pa_cons (pv 5) (pa_cons (pv 1) (pa_cons (pv 2) pa_nil))))) (pss_cons (ps_expr (pe_app (pv 3) (pe_ix ix_tupH (pv 6) pe_int (λ _ _=>rfl)))) (pss_one (ps_set (i:=4) sc.nd rfl (by first | exact Or.inl rfl | exact Or.inr rfl) (pe_op op_add (pv 4) (pe_ix ix_tupH (pv 6) pe_int (λ _ _=>rfl)))))))) (pss_one (ps_ret (pe_tup (pa_cons (pe_cal cputtogether hr (by rfl) pass0 (pa_cons (pv 0) (pa_cons (pv 3) (pa_cons (pv 1) (pa_cons (pv 2) pa_nil))))) (pa_cons (pv 4) pa_nil)))))))))),?_⟩
 simp only [L2.start,List.length_cons,List.length_nil,List.replicate,List.cons_append,List.nil_append,Nat.reduceSub,Nat.reduceAdd,List.map_cons,List.map_nil]
 obtain ⟨w,xs,ht,hw⟩:∃w xs,H t=some (.tup (.str w::xs))/\((w=Str.ofString "num" \/ w=Str.ofString "read")\/w=Str.ofString "pair"):=by
  rcases hv with ⟨n,h1,_⟩ | ⟨k,s0,p,sa,ss,as,ps,xs,h1,_⟩ | ⟨w,t1,t2,v1,v2,c1,c2,h1,_⟩
  ·exact ⟨_,_,h1,.inl (.inl rfl)⟩
  ·exact ⟨_,_,h1,.inl (.inr rfl)⟩
  ·exact ⟨_,_,h1,.inr rfl⟩
 rcases hw with hw | rfl
 ·have nf:∀w' t1 t2,H t≠some (.tup [.str (Str.ofString "pair"),.str w',.ref t1,.ref t2]):=λ w' t1 t2 z=>by
   rw [ht] at z
   cases z
   rcases hw with z | z<;>exact absurd z (by decide +kernel)
  have c0:c=0:=by
   rcases hv with ⟨n,h1,_,h⟩ | ⟨k,s0,p,sa,ss,as,ps,xs,h1,_,_,_,_,_,_,_,_,_,_,_,h⟩ | ⟨w,t1,t2,v1,v2,c1,c2,h1,_⟩
   ·exact h
   ·exact h
   ·exact absurd h1 (nf _ _ _)
  refine seq_with (λ σ G=>False) (λ σ G h=>h.elim) (λ R hR=>?_)
  wp_walk using tSeq,tIfS,inV,eqV,spisfree,spfreenumber
  refine ⟨_,_,ht,true,.inl ⟨rfl,hw⟩,λ H1 s1=>?_⟩
  rw [if_pos rfl]
  exact ⟨d0,v,c,hv.same s1,λ w' t1 t2 z=>by
   rcases hw with rfl | rfl<;>(rw [s1 _ _ ht] at z;cases z),λ H2 s2=>⟨small (by decide),λ p hp=>q _ p ((s1.trans s2).trans (same_new hp _)) (by rw [upd_same,c0])⟩⟩
 obtain ⟨e,rfl,w,t1,t2,v1,v2,c1,c2,h1,hw,b1,b2,r1,r2,rfl,rfl⟩:∃e,d0=e+1/\∃(w:Str) (t1 t2:Addr) (v1 v2 c1 c2:Int),H t=some (.tup [.str (Str.ofString "pair"),.str w,.ref t1,.ref t2])/\w∈tw/\inB v1/\inB v2/\TrV H a st d0 t1 v1 c1/\TrV H a st d0 t2 v2 c2/\v=twiceI w v1 v2/\c=1+c1+c2:=by
  rcases hv with ⟨n,h1,_⟩ | ⟨k,s0,p,sa,ss,as,ps,xs',h1,_⟩ | ⟨w,t1,t2,v1,v2,c1,c2,h⟩
  ·rw [ht] at h1;cases h1
  ·rw [ht] at h1;cases h1
  ·cases d0 with
   | zero=>exact h.2.2.2.2.1.elim
   | succ e=>exact ⟨e,rfl,w,t1,t2,v1,v2,c1,c2,h⟩
 clear hv ht
 refine seq_with (λ σ G=>Same H G/\σ=[some (.ref t),some (.ref a),some (.ref st),none,none,none,none]) ?_ (λ R hR=>?_)
 rotate_left
 ·wp_walk using tSeq,tIfS,inV,eqV,spisfree
  refine ⟨_,_,h1,false,.inr ⟨rfl,rfl⟩,λ H1 s1=>?_⟩
  rw [if_neg (by decide)]
  exact hR _ _ ⟨s1,rfl⟩
 rintro σ1 G1 ⟨s1,rfl⟩
 refine seq_with (λ σ G=>G=G1/\σ=[some (.ref t),some (.ref a),some (.ref st),none,none,none,none]) ?_ (λ R hR=>?_)
 rotate_left
 ·wp_walk using tSeq,tIfS,inV,eqV
  refine ⟨_,s1 _ _ h1,_,atI_nat (j:=0) rfl,rfl,?_⟩
  rw [if_neg (sne (by decide +kernel))]
  exact hR _ _ ⟨rfl,rfl⟩
 rintro σ2 G2 ⟨rfl,rfl⟩
 refine seq_with (λ σ G=>∃nl,G2 nl=none/\Same G2 G/\G nl=some (.lst [])/\σ=[some (.ref t),some (.ref a),some (.ref st),some (.ref nl),none,none,none]) ?_ (λ R hR=>?_)
 rotate_left
 ·wp_walk using tSeq,tIfS,inV,eqV
  exact ⟨small (by decide),λ p hp=>hR _ _ ⟨p,hp,same_new hp _,upd_same,rfl⟩⟩
 rintro σ3 G3 ⟨nl,nl0,s3,hnl,rfl⟩
 refine seq_with (λ σ G=>G=G3/\σ=[some (.ref t),some (.ref a),some (.ref st),some (.ref nl),some (.int 1),none,none]) ?_ (λ R hR=>?_)
 rotate_left
 ·wp_walk using tSeq,tIfS,inV,eqV
  exact hR _ _ ⟨rfl,rfl⟩
 rintro σ4 G4 ⟨rfl,rfl⟩
 have s04:=s1.trans s3
 refine seq_with (λ σ G=>∃y5 y6,Same G2 G/\G nl=some (.lst [.int v1,.int v2])/\σ=[some (.ref t),some (.ref a),some (.ref st),some (.ref nl),some (.int (1+c1+c2)),y5,y6]) ?_ (λ R hR=>?_)
 rotate_left
 ·wp_walk using tIfS,inV,eqV,spbranchesof
  refine ⟨_,_,_,s04 _ _ h1,λ G5 bp s5 hbp=>?_⟩
  have nlb:∀ {b:Addr}{o:HO},G2 b=some o->b≠nl:=λ e z=>by rw [z,nl0] at e;cases e
  have nb:bp≠nl:=λ z=>by rw [z,s5 _ _ hnl] at hbp;cases hbp
  refine LoopT.mk (xs:=[V.ref t1,V.ref t2]) (.of hbp) (λ i σ G=>∃y5 y6,(∀b o,b≠nl->G5 b=some o->G b=some o)/\G nl=some (.lst (([v1,v2].take i).map V.int))/\σ=[some (.ref t),some (.ref a),some (.ref st),some (.ref nl),some (.int (1+([c1,c2].take i).sum)),y5,y6]) ⟨_,_,λ _ _ _ h=>h,s5 _ _ hnl,rfl⟩ (λ i σ G _ ⟨_,_,k,_⟩=>.of (k _ _ nb hbp)) (λ i x σ G ex h=>?_) (λ σ G h=>?_)
  ·obtain ⟨y5,y6,k,hn,rfl⟩:=h
   have sG:Same G2 G:=λ b o e=>k b o (nlb e) ((s3.trans s5) _ _ e)
   obtain ⟨ti,vi,ci,rfl,ri,e1,e2⟩:∃ti vi ci,x=.ref ti/\TrV H a st (e+1) ti vi ci/\[v1,v2].take (i+1)=[v1,v2].take i++[vi]/\([c1,c2].take (i+1)).sum=([c1,c2].take i).sum+ci:=by
    match i,ex with
    | 0,ex=>cases ex;exact ⟨t1,v1,c1,rfl,r1,rfl,by simp⟩
    | 1,ex=>cases ex;exact ⟨t2,v2,c2,rfl,r2,rfl,by simp⟩
   have il:i < 2:=by have:=(List.getElem?_eq_some_iff.mp ex).1;simpa using this
   rw [e1,e2]
   simp only [gName,List.set_cons_succ,List.set_cons_zero]
   wp_walk using tSeq,tIfS,inV,eqV,spreckoned
   refine ⟨vi,ci,ri.same (s1.trans sG),λ G6 p6 s6 h6=>?_⟩
   have hn6:=s6 _ _ hn
   have np:p6≠nl:=λ z=>by rw [z,hn6] at h6;cases h6
   exact ⟨⟨_,hn6⟩,_,h6,_,atI_nat (j:=0) rfl,_,hn6,small1000 (by rw [List.length_map,List.length_take];omega),_,by rw [upd_ne np];exact h6,_,atI_nat (j:=1) rfl,ci,rfl,λ b o nb' e'=>by rw [upd_ne nb'];exact s6 _ _ (k b o nb' e'),by rw [List.map_append];rfl,by omega,_,rfl⟩
  ·obtain ⟨y5,y6,k,hn,rfl⟩:=h
   refine hR _ _ ⟨y5,y6,λ b o e=>k b o (nlb e) ((s3.trans s5) _ _ e),hn,?_⟩
   rw [Int.add_assoc];simp
 rintro σ5 G5 ⟨y5,y6,s5,hn5,rfl⟩
 have s05:=s1.trans s5
 wp_walk using tSeq,tIfS,inV,eqV,spputtogether
 exact ⟨t1,t2,w,s05 _ _ h1,by simpa [tw] using hw,v1,b1,v2,b2,hn5,small (by decide),λ p hp=>q _ p (s05.trans (same_new hp _)) upd_same⟩
theorem okreckonedA (F:Fun K "reckoned" "reckoned" sreckoned f fd) (cisfree:Callee P w K mg base CX0 4 "is_free" ["tree"] spisfree) (cbranchesof:Callee P w K mg base CX0 4 "branches_of" ["tree"] spbranchesof) (cfreenumber:Callee P w K mg base CX0 4 "free_number" ["tree", "at", "stores"] spfreenumber) (cputtogether:Callee P w K mg base CX0 4 "put_together" ["tree", "numbers", "at", "stores"] spputtogether) (m:mg "reckoned" = some (.ref f)) (b:Binds K fd ["tree", "at", "stores"] []):∀d0:Nat,FnOk P w K mg base CX0 (d0+4) f fd ["tree", "at", "stores"] (spreckoned d0)
 | 0=>⟨λ _ _ _ _ h=>h.elim,λ _ _ _ _ _ _ _ _ _ _ _ _ _ h=>h.elim⟩
 | d0+1=>(okreckoned F (cisfree.mono (Nat.le_add_left _ _)) (cbranchesof.mono (Nat.le_add_left _ _)) (cfreenumber.mono (Nat.le_add_left _ _)) (cputtogether.mono (Nat.le_add_left _ _)) (Callee.mk' F m b (okreckonedA F cisfree cbranchesof cfreenumber cputtogether m b d0))).mono (by omega)
abbrev sloopsides:Stmt:=top 34
def sploopsides:Sp:=λ vs H Q _=>∃(p:Addr) (L:LA) (W:Wf),vs=[.ref p]/\LoopAt H p L W/\Q (.ref L.sd) H
theorem scloopsides:FnScope ["loop"] ["loop"] (defScope sloopsides):=⟨rfl,rfl,rfl,by decide +kernel,rfl,by decide +kernel,by decide +kernel⟩
theorem okloopsides (F:Fun K "loop_sides" "loop_sides" sloopsides f fd):FnOk P w K mg base CX0 (1) f fd ["loop"] (sploopsides):=by
 have sc:=scloopsides
 refine F.ok sc (λ vs H Q E h=>?_) (λ cdv A outer s H vs Q E hr h=>?_)
 ·obtain ⟨p,L,W,rfl,_⟩:=h;rfl
 obtain ⟨p,L,W,rfl,hp,q⟩:=h
 refine ⟨_,(pss_one (ps_ret (pe_ifExp (pt_cmpR op_eq (pe_ix ix_tupH (pv 0) pe_int (λ _ _=>rfl)) pe_str (nomark _)) (pe_ix ix_tupH (pv 0) pe_int (λ _ _=>rfl)) (pe_ix ix_tupH (pv 0) pe_int (λ _ _=>rfl))))),?_⟩
 wp_walk using tSeq,tIfS,inV,eqV
 refine ⟨_,hp.1,_,atI_nat (j:=0) rfl,rfl,?_⟩
 rw [if_pos rfl]
 exact ⟨_,hp.1,_,atI_nat (j:=2) rfl,q⟩
abbrev sroundsof:Stmt:=top 35
def sproundsof:Sp:=λ vs H Q _=>∃(p:Addr) (L:LA) (W:Wf),vs=[.ref p]/\LoopAt H p L W/\WfOk W/\Q (.int (W.C.length:Int)) H
theorem scroundsof:FnScope ["loop"] ["loop"] (defScope sroundsof):=⟨rfl,rfl,rfl,by decide +kernel,rfl,by decide +kernel,by decide +kernel⟩
theorem okroundsof (F:Fun K "rounds_of" "rounds_of" sroundsof f fd) (camount:Callee P w K mg base CX0 (1) "amount" ["sides"] spamount) (cloopsides:Callee P w K mg base CX0 (1) "loop_sides" ["loop"] sploopsides):FnOk P w K mg base CX0 (2) f fd ["loop"] (sproundsof):=by
 have sc:=scroundsof
 refine F.ok sc (λ vs H Q E h=>?_) (λ cdv A outer s H vs Q E hr h=>?_)
 ·obtain ⟨p,L,W,rfl,_⟩:=h;rfl
 obtain ⟨p,L,W,rfl,hp,ok,q⟩:=h
 refine ⟨_,(pss_one (ps_ret (pe_cal camount hr (by rfl) pass0 (pa_cons (pe_cal cloopsides hr (by rfl) pass0 (pa_cons (pv 0) pa_nil)) pa_nil)))),?_⟩
 wp_walk using tSeq,tIfS,inV,eqV,spamount,sploopsides
 exact ⟨L,W,hp,W.S,.inr hp.2.1,ok.1,by rw [← ok.2.2.2.1];exact q⟩
abbrev sloopstore:Stmt:=top 37
def sploopstore:Sp:=λ vs H Q _=>∃(p:Addr) (L:LA) (W:Wf),vs=[.ref p]/\LoopAt H p L W/\Q (.int 1) H
theorem scloopstore:FnScope ["loop"] ["loop"] (defScope sloopstore):=⟨rfl,rfl,rfl,by decide +kernel,rfl,by decide +kernel,by decide +kernel⟩
theorem okloopstore (F:Fun K "loop_store" "loop_store" sloopstore f fd):FnOk P w K mg base CX0 (1) f fd ["loop"] (sploopstore):=by
 have sc:=scloopstore
 refine F.ok sc (λ vs H Q E h=>?_) (λ cdv A outer s H vs Q E hr h=>?_)
 ·obtain ⟨p,L,W,rfl,_⟩:=h;rfl
 obtain ⟨p,L,W,rfl,hp,q⟩:=h
 refine ⟨_,(pss_one (ps_ret (pe_ifExp (pt_cmpR op_eq (pe_ix ix_tupH (pv 0) pe_int (λ _ _=>rfl)) pe_str (nomark _)) (pe_ix ix_tupH (pv 0) pe_int (λ _ _=>rfl)) (pe_ix ix_tupH (pv 0) pe_int (λ _ _=>rfl))))),?_⟩
 wp_walk using tSeq,tIfS,inV,eqV
 refine ⟨_,hp.1,_,atI_nat (j:=0) rfl,rfl,?_⟩
 rw [if_pos rfl]
 exact ⟨_,hp.1,_,atI_nat (j:=1) rfl,q⟩
abbrev sstoresfilled:Stmt:=top 38
theorem scstoresfilled:FnScope ["weft", "inputs", "stores", "written_to", "ins", "cells", "k", "tab"] ["weft", "inputs"] (defScope sstoresfilled):=⟨rfl,rfl,rfl,by decide +kernel,rfl,by decide +kernel,by decide +kernel⟩
theorem okstoresfilled (F:Fun K "stores_filled" "stores_filled" sstoresfilled f fd) {CUnlike:Addr}(nUnlike:PySem.W.nsIn K mainGlobals "Unlike" = some (some (.ref CUnlike))) (cloopstore:Callee P w K mg base CX0 (1) "loop_store" ["loop"] sploopstore) (zlen:mg "len" = none) (zrange:mg "range" = none) (zzip:mg "zip" = none) (zlist:mg "list" = none) (xUnlike:PySem.W.excIn K CUnlike [.type "ValueError",.type "Exception",.type "BaseException",.type "object"] "ValueError.__new__" = true):FnOk P w K mg base (CX1 P w) (2) f fd ["weft", "inputs"] ((spfilled CUnlike)):=by
 have sc:=scstoresfilled
 refine F.okX sc (λ vs H Q E h=>?_) (λ cdv A outer s H vs Q E hr h=>?_)
 ·obtain ⟨w,inp,B,L,W,g,rfl,_⟩:=h;rfl
 obtain ⟨w,inp,B,L,W,g,rfl,hw,ok,hi,q1,q2⟩:=h
 refine ⟨_,(pss_cons (ps_set (i:=2) sc.nd rfl (by first | exact Or.inl rfl | exact Or.inr rfl) (pe_ix ix_tupH (pv 0) pe_int (λ _ _=>rfl))) (pss_cons (ps_set (i:=3) sc.nd rfl (by first | exact Or.inl rfl | exact Or.inr rfl) (pe_comp0 (own:=["loop"]) rfl (pi_tup (pe_ix ix_tupH (pv 0) pe_int (λ _ _=>rfl))) (by decide) (by decide) rfl (by decide) (λ _ _ _ _=>(pg_name (i:=0) (show (["loop"]:List Str).Nodup by decide +kernel) rfl (Or.inl rfl))) (λ _ _ _ _=>(pe_cal cloopstore hr (by rfl) pass0 (pa_cons (pv 0) pa_nil))))) (pss_cons (ps_setCI (own:=["k"]) (fv:=["written_to"]) (js:=[3]) sc.nd (i:=4) rfl (by first | exact Or.inl rfl | exact Or.inr rfl) (by first | exact Or.inl rfl | exact Or.inr rfl) rfl (pi_range1 (by rfl) zrange (pa_cons (pe_callB call_len_seq (by rfl) zlen PySem.boot_len (pa_cons (pv 2) pa_nil)) pa_nil)) rfl (by decide) rfl (by decide) (by first | exact λ _ _ h=>h | exact cl_sub1 rfl | exact cl_sub2 rfl rfl | exact cl_sub3 rfl rfl rfl) (has_of (by rfl)) rfl (cap1 (by first | exact ⟨rfl,.inl rfl,.inl rfl⟩ | exact ⟨rfl,.inl rfl,.inr rfl⟩)) (λ _ _ _ _=>(pg_name (i:=0) (show (["k", "written_to"]:List Str).Nodup by decide +kernel) rfl (Or.inl rfl))) (λ _ _ _ _=>(pv 0)) (λ _ _ _ _=>(pt_cmpR (op_notInK (K:=K) rfl) (pv 0) (pv 1) rfl))) (pss_cons (ps_if (pt_cmpR op_ne (pe_callB call_len_seq (by rfl) zlen PySem.boot_len (pa_cons (pv 1) pa_nil)) (pe_callB call_len_seq (by rfl) zlen PySem.boot_len (pa_cons (pv 4) pa_nil)) (nomark _)) (pss_one (ps_raise PySem.F.excBase_ValueError rfl (by rfl) nUnlike xUnlike raises1 (pa_cons pe_str pa_nil))) pss_nil) (pss_cons (ps_setC0 (own:=["store"]) sc.nd (i:=5) rfl (by first | exact Or.inl rfl | exact Or.inr rfl) (by first | exact Or.inl rfl | exact Or.inr rfl) rfl (pi_tup (pv 2)) (by decide) (by decide) rfl (by decide) (λ _ _ _ _=>(pg_name (i:=0) (show (["store"]:List Str).Nodup by decide +kernel) rfl (Or.inl rfl))) (λ _ _ _ _=>(pe_op op_rep (pe_lst (pa_cons pe_non pa_nil)) (pe_ix ix_tupH (pv 0) pe_int (λ _ _=>rfl))))) (pss_cons (ps_for PassesOwn.leaving rfl (pi_zipM (by rfl) zzip (pa_cons (pv 4) (pa_cons (pv 1) pa_nil))) (pg_tupH (n:=2) (pg_tup rfl (pgs_cons (pg_name (i:=6) sc.nd rfl (Or.inl rfl)) (pgs_cons (pg_name (i:=7) sc.nd rfl (Or.inl rfl)) pgs_nil)))) (pss_cons (ps_if (pt_cmpR op_ne (pe_callB call_len_seq (by rfl) zlen PySem.boot_len (pa_cons (pe_ix ix_tupH (pv 7) pe_int (λ _ _=>rfl)) pa_nil)) (pe_ix ix_tupH (pe_ix ix_tupH (pv 2) (pv 6) (λ _ _=>rfl)) pe_int (λ _ _=>rfl)) (nomark _)) (pss_one (ps_raise PySem.F.excBase_ValueError rfl (by rfl) nUnlike xUnlike raises1 (pa_cons pe_str pa_nil))) pss_nil) (pss_one (ps_asg (pe_callTy call_list_of (by rfl) zlist boot_list (pa_cons (pe_ix ix_tupH (pv 7) pe_int (λ _ _=>rfl)) pa_nil)) (pg_sub (pv 5) (pv 6) set_list))))) (pss_one (ps_ret (pv 5))))))))),?_⟩
 simp only [L2.start,List.length_cons,List.length_nil,List.replicate,List.cons_append,List.nil_append,Nat.reduceSub,Nat.reduceAdd,List.map_cons,List.map_nil]
 obtain ⟨tabs,hin,t10,hi⟩:=hi
 refine seq_with (λ σ G=>G=H/\σ=[some (.ref w),some (.ref inp),some (.ref B.st0),none,none,none,none,none]) ?_ (λ R hR=>?_)
 rotate_left
 ·wp_walk using tSeq,tIfS,inV,eqV
  exact ⟨_,hw.1,_,atI_nat (j:=0) rfl,hR _ _ ⟨rfl,rfl⟩⟩
 rintro σ1 G1 ⟨rfl,rfl⟩
 refine seq_with (λ σ G=>∃wt,Same G1 G/\G wt=some (.lst [.int 1])/\σ=[some (.ref w),some (.ref inp),some (.ref B.st0),some (.ref wt),none,none,none,none]) ?_ (λ R hR=>?_)
 rotate_left
 ·wp_walk using tSeq,tIfS,inV,eqV
  refine ⟨_,hw.1,_,atI_nat (j:=1) rfl,?_⟩
  refine CompT.mk (xs:=[V.ref B.lp]) (.of hw.2.2.2.2.1) (λ i ys σ G=>G=G1/\ys=[V.int 1].take i/\∃y,σ=[y]) ⟨rfl,rfl,_,rfl⟩ (λ i ys σ G _ h=>by rw [h.1];exact .of hw.2.2.2.2.1) (λ i x ys σ G ex h=>?_) (λ ys σ G h l hl=>?_)
  ·obtain ⟨rfl,rfl,y,rfl⟩:=h
   match i,ex with
   | 0,ex =>
    cases ex
    refine ⟨small (by simp),?_⟩
    wp_walk using tSeq,tIfS,inV,eqV,sploopstore
    exact ⟨L,W,hw.2.2.2.2.2.1,rfl,_,rfl⟩
  ·obtain ⟨rfl,rfl,y,rfl⟩:=h
   exact hR _ _ ⟨l,same_new hl _,upd_same,rfl⟩
 rintro σ2 G2 ⟨wt,s2,hwt,rfl⟩
 refine seq_with (λ σ G=>∃ins,Same G2 G/\G ins=some (.lst [.int 0])/\σ=[some (.ref w),some (.ref inp),some (.ref B.st0),some (.ref wt),some (.ref ins),none,none,none]) ?_ (λ R hR=>?_)
 rotate_left
 ·wp_walk using tSeq,tIfS,inV,eqV
  refine ⟨_,.inr (.of (s2 _ _ hw.2.1)),by simp,by simp,?_⟩
  show CompRI 0 2 1 [3] _ _ _ _ _ _
  refine CompRI.mk (λ i ys σ G=>G=G2/\ys=[V.int 0].take i/\∃y,σ=[y,some (.ref wt)]) ⟨rfl,rfl,_,rfl⟩ (λ i ys σ G _ h=>?_) (λ i ys σ G hi h=>?_) (λ ys σ G h l hl=>?_)
  ·obtain ⟨rfl,rfl,y,rfl⟩:=h
   exact small1000 (by rw [List.length_take];simp only [List.length_cons,List.length_nil];omega)
  ·obtain ⟨rfl,rfl,y,rfl⟩:=h
   wp_walk using tSeq,tIfS,rIn
   refine ⟨_,.inl (.of hwt),rfl,?_⟩
   match i,hi with
   | 0,_ =>
    rw [if_pos (by decide +kernel)]
    exact ⟨rfl,_,rfl⟩
   | 1,_ =>
    rw [if_neg (by decide +kernel)]
    exact ⟨rfl,_,rfl⟩
  ·obtain ⟨rfl,rfl,y,rfl⟩:=h
   exact hR _ _ ⟨l,same_new hl _,upd_same,rfl⟩
 rintro σ3 G3 ⟨ins,s3,hins,rfl⟩
 have s03:=s2.trans s3
 refine seq_with (λ σ G=>G=G3/\tabs.length=1/\σ=[some (.ref w),some (.ref inp),some (.ref B.st0),some (.ref wt),some (.ref ins),none,none,none]) ?_ (λ R hR=>?_)
 rotate_left
 ·wp_walk using tSeq,tIfS,inV,eqV
  refine ⟨_,.inr (.of (s03 _ _ hin)),_,.inl (.of hins),?_⟩
  rw [List.length_map]
  by_cases l1:tabs.length=1
  ·rw [if_neg (λ z=>z (by rw [l1];rfl))]
   exact hR _ _ ⟨rfl,l1,rfl⟩
  ·rw [if_pos (λ z=>l1 (by simp only [List.length_cons,List.length_nil] at z;omega))]
   refine ⟨small (by decide),q1 ?_ _ s03⟩
   rcases hi with ⟨_,ng⟩ | ⟨tb,sa,ca,xs,rfl,_⟩
   ·exact ng
   ·exact absurd rfl l1
 rintro σ4 G4 ⟨rfl,l1,rfl⟩
 refine seq_with (λ σ G=>∃lc c0 c1,Same G4 G/\G4 lc=none/\G4 c0=none/\G4 c1=none/\lc≠c0/\lc≠c1/\c0≠c1/\G lc=some (.lst [.ref c0,.ref c1])/\G c0=some (.lst (List.replicate W.C.length .non))/\G c1=some (.lst (List.replicate W.C.length .non))/\σ=[some (.ref w),some (.ref inp),some (.ref B.st0),some (.ref wt),some (.ref ins),some (.ref lc),none,none]) ?_ (λ R hR=>?_)
 rotate_left
 ·wp_walk using tSeq,tIfS,inV,eqV
  have hs4:=s03 _ _ hw.2.1
  have ha0:=s03 _ _ hw.2.2.1
  have ha1:=s03 _ _ hw.2.2.2.1
  refine CompT.mk (xs:=[V.ref B.a0,V.ref B.a1]) (.of hs4) (λ i ys σ G=>∃cs:List Addr,cs.length=i/\ys=cs.map V.ref/\Same G4 G/\(∀c∈cs,G4 c=none/\G c=some (.lst (List.replicate W.C.length .non)))/\cs.Nodup/\∃y,σ=[y]) ⟨[],rfl,rfl,Same.refl _,(λ c hc=>nomatch hc),List.nodup_nil,_,rfl⟩ (λ i ys σ G _ ⟨_,_,_,sG,_⟩=>.of (sG _ _ hs4)) (λ i x ys σ G ex h=>?_) (λ ys σ G h l hl=>?_)
  ·obtain ⟨cs,cl,rfl,sG,hc,nd,y,rfl⟩:=h
   obtain ⟨ai,b,rfl,hai⟩:∃ai b,x=.ref ai/\G4 ai=some (.tup [.int b,.int (W.C.length:Int)]):=by
    match i,ex with
    | 0,ex=>cases ex;exact ⟨_,_,rfl,ha0⟩
    | 1,ex=>cases ex;exact ⟨_,_,rfl,ha1⟩
   have il:=(List.getElem?_eq_some_iff.mp ex).1
   refine ⟨small (by rw [List.length_map,cl];simp at il;omega),?_⟩
   have c32:=ok.2.2.2.2.1
   wp_walk using tSeq,tIfS,inV,eqV
   refine ⟨small (by decide),λ p hp=>⟨_,same_new hp _ _ _ (sG _ _ hai),_,atI_nat (j:=1) rfl,_,rfl,by omega,by omega,small (by rw [Int.toNat_natCast];omega),λ p1 hp1=>⟨cs++[p1],by rw [List.length_append,cl];rfl,by rw [List.map_append];rfl,sG.trans ((same_new hp _).trans (same_new hp1 _)),λ c hcc=>?_,?_,_,rfl⟩⟩⟩
   ·rcases List.mem_append.mp hcc with z | z
    ·exact ⟨(hc c z).1,same_new hp1 _ _ _ (same_new hp _ _ _ (hc c z).2)⟩
    ·cases List.mem_singleton.mp z
     refine ⟨(sG.trans (same_new hp _)).free hp1,?_⟩
     rw [upd_same,Int.toNat_natCast,rep_non]
   ·rw [List.nodup_append]
    refine ⟨nd,(by simp),λ a ha b hb z=>?_⟩
    cases List.mem_singleton.mp hb
    subst z
    rw [same_new hp _ _ _ (hc a ha).2] at hp1
    cases hp1
  ·obtain ⟨cs,cl,rfl,sG,hc,nd,y,rfl⟩:=h
   match cs,cl with
   | [c0,c1],_ =>
    have e0:=hc c0 (by simp)
    have e1:=hc c1 (by simp)
    have d:c0≠c1:=by simpa using nd
    exact hR _ _ ⟨l,c0,c1,sG.trans (same_new hl _),sG.free hl,e0.1,e1.1,(λ z=>by rw [z,e0.2] at hl;cases hl),(λ z=>by rw [z,e1.2] at hl;cases hl),d,upd_same,same_new hl _ _ _ e0.2,same_new hl _ _ _ e1.2,rfl⟩
 rintro σ5 G5 ⟨lc,c0,c1,s5,f1,f2,f3,d1,d2,d3,h1,h2,h3,rfl⟩
 have s05:=s03.trans s5
 obtain ⟨tb,sa,ca,xs,rfl,htb,hca,x40,hg⟩:∃(tb sa ca:Addr) (xs:List Int),tabs=[tb]/\G1 tb=some (.tup [.ref sa,.ref ca])/\G1 ca=some (.tup (xs.map V.int))/\xs.length≤600/\((xs.length≠W.C.length/\¬g)\/(xs=W.C/\g)):=hi.resolve_left λ z=>z.1 l1
 refine seq_with (λ σ G=>∃c y z,g/\(∀b o,b≠lc->G5 b=some o->G b=some o)/\G5 c=none/\G lc=some (.lst [.ref c,.ref c1])/\G c=some (.lst (W.C.map V.int))/\σ=[some (.ref w),some (.ref inp),some (.ref B.st0),some (.ref wt),some (.ref ins),some (.ref lc),y,z]) ?_ (λ R hR=>?_)
 rotate_left
 ·have hins5:=s5 _ _ hins
  have hin5:=s05 _ _ hin
  have nil_:ins≠lc:=λ z=>by rw [z,f1] at hins;cases hins
  have ninp:inp≠lc:=λ z=>by rw [z,s03.free f1] at hin;cases hin
  wp_walk using tIfS,inV,eqV
  refine LoopZM.mk (xs:=[V.int 0]) (ys:=[V.ref tb]) 1 rfl (.of hins5) (.of hin5) (λ i σ G=>(i=0/\G=G5/\σ=[some (.ref w),some (.ref inp),some (.ref B.st0),some (.ref wt),some (.ref ins),some (.ref lc),none,none])\/(i=1/\∃c y z,g/\(∀b o,b≠lc->G5 b=some o->G b=some o)/\G5 c=none/\G lc=some (.lst [.ref c,.ref c1])/\G c=some (.lst (W.C.map V.int))/\σ=[some (.ref w),some (.ref inp),some (.ref B.st0),some (.ref wt),some (.ref ins),some (.ref lc),y,z])) (.inl ⟨rfl,rfl,rfl⟩) (λ i σ G _ h=>?_) (λ i x y σ G T hi ex ey h hT=>?_) (λ σ G h=>?_)
  ·rcases h with ⟨_,rfl,_⟩ | ⟨_,c,y,z,_,k,_⟩
   ·exact ⟨.of hins5,.of hin5⟩
   ·exact ⟨.of (k _ _ nil_ hins5),.of (k _ _ ninp hin5)⟩
  ·rcases h with ⟨rfl,rfl,rfl⟩ | ⟨rfl,_⟩
   ·cases ex
    cases ey
    have sT:=s05.trans (same_new hT (.tup [V.int 0,V.ref tb]))
    wp_walk using tSeq,tIfS,inV,eqV
    refine ⟨_,sT _ _ htb,_,atI_nat (j:=1) rfl,_,rfl,_,.inr (.of (sT _ _ hca)),_,sT _ _ hw.2.1,_,atI_nat (j:=0) rfl,_,rfl,_,sT _ _ hw.2.2.1,_,atI_nat (j:=1) rfl,rfl,?_⟩
    rw [len_map]
    rcases hg with ⟨ne,ng⟩ | ⟨e,hgg⟩
    ·rw [if_pos (λ z=>ne (by have:=V.int.inj z;omega))]
     exact ⟨small (by decide),q1 ng _ sT⟩
    subst e
    rw [if_neg (λ z=>z rfl)]
    refine ⟨_,sT _ _ htb,_,atI_nat (j:=1) rfl,_,rfl,_,.inr (.of (sT _ _ hca)),λ l hl=>⟨_,same_new hl _ _ _ (same_new hT _ _ _ h1),0,rfl,?_⟩⟩
    have nll:l≠lc:=λ z=>by rw [z,same_new hT _ _ _ h1] at hl;cases hl
    exact .inr ⟨hgg,λ b o nb e=>by rw [upd_ne nb];exact same_new hl _ _ _ (same_new hT _ _ _ e),l,(same_new hT _).free hl,rfl,by rw [upd_ne nll];exact upd_same,_,rfl⟩
   ·exact absurd hi (by decide)
  ·rcases h with ⟨z,_⟩ | ⟨_,h⟩
   ·exact absurd z (by decide)
   ·exact hR _ _ h
 rintro σ6 G6 ⟨c,y,z,hgg,k6,fc,h6,h7,rfl⟩
 wp_walk using tSeq,tIfS,inV,eqV
 refine q2 hgg _ lc c c1 (λ b o e=>k6 b o (λ z=>by rw [z,s03.free f1] at e;cases e) (s05 _ _ e)) (s03.free f1) (s05.free fc) (s03.free f3) (λ z=>by rw [← z,h1] at fc;cases fc) d2 (λ z=>by rw [z,h3] at fc;cases fc) h6 h7 (k6 _ _ (λ z=>d2 z.symm) h3)
abbrev sfillmade:Stmt:=top 39
def spfillmade:Sp:=λ vs H Q _=>∃(p a st c0:Addr) (L:LA) (W:Wf) (r:Nat) (ps:List Addr),vs=[.ref p,.ref a,.ref st]/\LoopAt H p L W/\WfOk W/\r < W.C.length/\H a=some (.tup ((atD W.S (r:Int)).map V.int))/\H st=some (.lst (ps.map V.ref))/\ps[0]?=some c0/\H c0=some (.lst (W.C.map V.int))/\∀H' m l x,Same H H'->H' m=some (.tup [.ref l,.int 1])->H' l=some (.lst [.ref x])->H' x=some (.tup [.int (r:Int),.int (dueW W r)])->H l=none->Q (.ref m) H'
theorem scfillmade:FnScope ["loop", "at", "cells", "told"] ["loop", "at", "cells"] (defScope sfillmade):=⟨rfl,rfl,rfl,by decide +kernel,rfl,by decide +kernel,by decide +kernel⟩
theorem okfillmade (F:Fun K "fill_made" "fill_made" sfillmade f fd) (creckoned:Callee P w K mg base CX0 (8) "reckoned" ["tree", "at", "stores"] (spreckoned 3)) (ctreespot:Callee P w K mg base CX0 (8) "tree_spot" ["start", "strides", "at"] sptreespot):FnOk P w K mg base CX0 (9) f fd ["loop", "at", "cells"] (spfillmade):=by
 have sc:=scfillmade
 refine F.ok sc (λ vs H Q E h=>?_) (λ cdv A outer s H vs Q E hr h=>?_)
 ·obtain ⟨p,a,st,c0,L,W,r,ps,rfl,_⟩:=h;rfl
 obtain ⟨p,a,st,c0,L,W,r,ps,rfl,hp,ok,hr0,ha,hst,ep,hc,q⟩:=h
 refine ⟨_,(pss_cons (ps_set (i:=3) sc.nd rfl (by first | exact Or.inl rfl | exact Or.inr rfl) (pe_cal creckoned hr (by rfl) pass0 (pa_cons (pe_ix ix_tupH (pv 0) pe_int (λ _ _=>rfl)) (pa_cons (pv 1) (pa_cons (pv 2) pa_nil))))) (pss_one (ps_ret (pe_tup (pa_cons (pe_lst (pa_cons (pe_tup (pa_cons (pe_cal ctreespot hr (by rfl) pass0 (pa_cons (pe_ix ix_tupH (pv 0) pe_int (λ _ _=>rfl)) (pa_cons (pe_ix ix_tupH (pv 0) pe_int (λ _ _=>rfl)) (pa_cons (pv 1) pa_nil)))) (pa_cons (pe_ix ix_tupH (pv 3) pe_int (λ _ _=>rfl)) pa_nil))) pa_nil)) (pa_cons (pe_ix ix_tupH (pv 3) pe_int (λ _ _=>rfl)) pa_nil)))))),?_⟩
 have ws:=wf_spot ok hr0
 have al:=atD_len W.S (r:Int)
 have tl:W.T.length=W.S.length:=by rw [ok.2.2.2.2.2.1];simp [stL]
 have tv:TrV H a st 3 L.tr (dueW W r) 1:=by
  refine .inr (.inr ⟨Str.ofString "xor",L.rd,L.nm,W.C.getD (W.C.length - 1 - r) 0,W.mo,0,0,hp.2.2.2.1,by simp [tw],ok.2.2.2.2.2.2.1 _ (getD_mem (by omega)),ok.2.2.2.2.2.2.2,.inr (.inl ⟨0,_,L.ng,c0,W.T.map λ x=>0 - x,atD W.S (r:Int),ps,_,hp.2.2.2.2.1,hp.2.2.2.2.2.2,ha,by rw [al,List.length_map,tl],by rw [List.length_map,tl];have:=ok.2.1;omega,wf_co ok hr0,hst,ep,hc,?_,?_,?_,rfl⟩),.inl ⟨_,hp.2.2.2.2.2.1,rfl,rfl⟩,rfl,rfl⟩)
  ·rw [dot_neg,ws];omega
  ·rw [dot_neg,ws,List.length_map];omega
  ·rw [dot_neg,ws,show ((W.C.length:Int) - 1 + -(r:Int)).toNat=W.C.length - 1 - r by omega,List.getElem?_map,get_some (by omega)];rfl
 wp_walk using tSeq,tIfS,inV,eqV,spreckoned,sptreespot
 refine ⟨_,hp.1,_,atI_nat (j:=5) rfl,_,rfl,_,_,tv,λ H1 p1 s1 h1=>⟨_,s1 _ _ hp.1,_,atI_nat (j:=3) rfl,_,s1 _ _ hp.1,_,atI_nat (j:=4) rfl,_,L.st,0,rfl,rfl,rfl,W.T,s1 _ _ hp.2.2.1,_,s1 _ _ ha,by rw [al,tl],by have:=ok.2.1;omega,wf_co ok hr0,λ H2 s2=>?_⟩⟩
 rw [ws,Int.zero_add]
 exact ⟨_,s2 _ _ h1,_,atI_nat (j:=0) rfl,small (by decide),λ x hx=>⟨small (by decide),λ l hl=>⟨_,same_new hl _ _ _ (same_new hx _ _ _ (s2 _ _ h1)),_,atI_nat (j:=1) rfl,small (by decide),λ m hm=>q _ m l x (s1.trans (s2.trans ((same_new hx _).trans ((same_new hl _).trans (same_new hm _))))) upd_same (same_new hm _ _ _ upd_same) (same_new hm _ _ _ (same_new hl _ _ _ upd_same)) ((s1.trans (s2.trans (same_new hx _))).free hl)⟩⟩⟩
abbrev saskwritings:Stmt:=top 41
def spaskwritings:Sp:=λ vs H Q _=>∃(wa ca p:Addr) (r:Nat) (v:Int) (xs:List V),vs=[.ref wa,.ref ca]/\H wa=some (.lst [.ref p])/\H p=some (.tup [.int (r:Int),.int v])/\H ca=some (.lst xs)/\xs[r]?=some .non/\∀H',Same H H'->Q .non H'
theorem scaskwritings:FnScope ["writings", "cells", "spots", "spot"] ["writings", "cells"] (defScope saskwritings):=⟨rfl,rfl,rfl,by decide +kernel,rfl,by decide +kernel,by decide +kernel⟩
theorem okaskwritings (F:Fun K "ask_writings" "ask_writings" saskwritings f fd) (zlen:mg "len" = none) (zset:mg "set" = none):FnOk P w K mg base CX0 (1) f fd ["writings", "cells"] (spaskwritings):=by
 have sc:=scaskwritings
 refine F.ok sc (λ vs H Q E h=>?_) (λ cdv A outer s H vs Q E hr h=>?_)
 ·obtain ⟨wa,ca,p,r,v,xs,rfl,_⟩:=h;rfl
 obtain ⟨wa,ca,p,r,v,xs,rfl,hw,hp,hc,hx,q⟩:=h
 refine ⟨_,(pss_cons (ps_setC0 (own:=["spot", "number"]) sc.nd (i:=2) rfl (by first | exact Or.inl rfl | exact Or.inr rfl) (by first | exact Or.inl rfl | exact Or.inr rfl) rfl (pi_list (pv 0)) (by decide) (by decide) rfl (by decide) (λ _ _ _ _=>(pg_tupH (n:=2) (pg_tup rfl (pgs_cons (pg_name (i:=0) (show (["spot", "number"]:List Str).Nodup by decide +kernel) rfl (Or.inl rfl)) (pgs_cons (pg_name (i:=1) (show (["spot", "number"]:List Str).Nodup by decide +kernel) rfl (Or.inl rfl)) pgs_nil))))) (λ _ _ _ _=>(pv 0))) (pss_cons (ps_if (pt_cmpR op_ne (pe_callB call_lenS (by rfl) zlen PySem.boot_len (pa_cons (pe_callTy (call_setI rfl) (by rfl) zset boot_set (pa_cons (pv 2) pa_nil)) pa_nil)) (pe_callB call_len_seq (by rfl) zlen PySem.boot_len (pa_cons (pv 2) pa_nil)) (nomark _)) (pss_one ps_never) pss_nil) (pss_one (ps_for PassesOwn.never rfl (pi_list (pv 2)) (pg_name (i:=3) sc.nd rfl (Or.inl rfl)) (pss_cons (ps_if (PW.pt (pw_or (pt_cmpR op_lt (pv 3) pe_int (nomark _)) (pw_or1 (pt_cmpR op_ge (pv 3) (pe_callB call_len_seq (by rfl) zlen PySem.boot_len (pa_cons (pv 1) pa_nil)) (nomark _))))) (pss_one ps_never) pss_nil) (pss_one (ps_if (pt_cmpR op_notN (pe_ix ix_listH (pv 1) (pv 3) (λ _ _=>rfl)) pe_non (nomark _)) (pss_one ps_never) pss_nil))))))),?_⟩
 simp only [L2.start,List.length_cons,List.length_nil,List.replicate,List.cons_append,List.nil_append,Nat.reduceSub,Nat.reduceAdd,List.map_cons,List.map_nil]
 refine seq_with (λ σ G=>∃sl,Same H G/\G sl=some (.lst [.int (r:Int)])/\σ=[some (.ref wa),some (.ref ca),some (.ref sl),none]) ?_ (λ R hR=>?_)
 rotate_left
 ·wp_walk using tSeq,tIfS,inV,eqV
  refine CompL.mk (xs:=[V.ref p]) (.of hw) (λ i ys σ G=>G=H/\ys=[V.int (r:Int)].take i/\∃y z,σ=[y,z]) ⟨rfl,rfl,_,_,rfl⟩ (λ i ys σ G _ h=>by rw [h.1];exact .of hw) (λ i x ys σ G ex h=>?_) (λ ys σ G h l hl=>?_)
  ·obtain ⟨rfl,rfl,y,z,rfl⟩:=h
   match i,ex with
   | 0,ex =>
    cases ex
    refine ⟨small (by simp),?_⟩
    wp_walk using tSeq,tIfS,inV,eqV
    exact ⟨_,hp,rfl,_,_,rfl,_,_,rfl,rfl,rfl,_,rfl⟩
  ·obtain ⟨rfl,rfl,y,z,rfl⟩:=h
   exact hR _ _ ⟨l,same_new hl _,upd_same,rfl⟩
 rintro σ1 G1 ⟨sl,s1,hsl,rfl⟩
 refine seq_with (λ σ G=>Same G1 G/\σ=[some (.ref wa),some (.ref ca),some (.ref sl),none]) ?_ (λ R hR=>?_)
 rotate_left
 ·wp_walk using tSeq,tIfS,inV,eqV
  refine ⟨[(r:Int)],.of hsl,by simp,λ l hl=>⟨_,_,rfl,_,.inl (.of (same_new hl _ _ _ hsl)),?_⟩⟩
  rw [met_one,if_neg (λ z=>z rfl)]
  exact hR _ _ ⟨same_new hl _,rfl⟩
 rintro σ2 G2 ⟨s2,rfl⟩
 have hsl2:=s2 _ _ hsl
 have hc2:=(s1.trans s2) _ _ hc
 wp_walk using tSeq,tIfS,inV,eqV
 refine LoopL.mk (xs:=[V.int (r:Int)]) (.of hsl2) (λ i σ G=>G=G2/\∃y,σ=[some (.ref wa),some (.ref ca),some (.ref sl),y]) ⟨rfl,_,rfl⟩ (λ i σ G _ h=>by rw [h.1];exact .of hsl2) (λ i x σ G ex h=>?_) (λ σ G h=>?_)
 ·obtain ⟨rfl,y,rfl⟩:=h
  match i,ex with
  | 0,ex =>
   cases ex
   have rl:=(List.getElem?_eq_some_iff.mp hx).1
   wp_walk using tSeq,tIfS,inV,eqV
   rw [if_neg (by omega)]
   refine ⟨_,.inl (.of hc2),?_⟩
   rw [if_neg (by omega)]
   refine ⟨_,hc2,_,atI_nat hx,?_⟩
   rw [if_neg (λ z=>z rfl)]
   exact ⟨_,rfl⟩
 ·obtain ⟨rfl,y,rfl⟩:=h
  exact q _ (s1.trans s2)
abbrev sBenchinit:Stmt:=(clsBody (top 42)).getD 0 (.Pass ⟨0,0,0,0⟩)
theorem scBenchinit:FnScope ["self", "weft", "inputs"] ["self", "weft", "inputs"] (defScope sBenchinit):=⟨rfl,rfl,rfl,by decide +kernel,rfl,by decide +kernel,by decide +kernel⟩
theorem okBenchinit (F:Fun K "__init__" "Bench.__init__" sBenchinit f fd) {CUnlike:Addr}(nUnlike:PySem.W.nsIn K mainGlobals "Unlike" = some (some (.ref CUnlike))) {CBench:Addr}(nBench:PySem.W.nsIn K mainGlobals "Bench" = some (some (.ref CBench))) (cstoresfilled:Callee P w K mg base (CX1 P w) (2) "stores_filled" ["weft", "inputs"] (spfilled CUnlike)) (BC:BenCls K CBench):FnOk P w K mg base (CX1 P w) (3) f fd ["self", "weft", "inputs"] ((spbinit CBench CUnlike)):=by
 have sc:=scBenchinit
 refine F.okX sc (λ vs H Q E h=>?_) (λ cdv A outer s H vs Q E hr h=>?_)
 ·obtain ⟨b,dx,w,inp,B,L,W,g,rfl,_⟩:=h;rfl
 obtain ⟨b,dx,w,inp,B,L,W,g,rfl,hb,hw,ok,hi,q1,q2⟩:=h
 refine ⟨_,(pss_cons (ps_fld (pv 0) (pe_cal cstoresfilled hr (by rfl) passes1 (pa_cons (pv 1) (pa_cons (pv 2) pa_nil))) rfl) (pss_cons (ps_fld (pv 0) (pe_ix ix_tupH (pv 1) pe_int (λ _ _=>rfl)) rfl) (pss_cons (ps_fld (pv 0) (pe_ix ix_tupH (pv 1) pe_int (λ _ _=>rfl)) rfl) (pss_cons (ps_fld (pv 0) pe_dnewT rfl) (pss_cons (ps_fld (pv 0) pe_int rfl) (pss_one (ps_fld (pv 0) (pe_lst pa_nil) rfl))))))),?_⟩
 simp only [L2.start,List.length_cons,List.length_nil,List.replicate,List.cons_append,List.nil_append,Nat.reduceSub,Nat.reduceAdd,List.map_cons,List.map_nil]
 refine seq_with (λ σ G=>∃lc c0 c1,g/\Keep1 b H G/\H lc=none/\H c0=none/\H c1=none/\lc≠c0/\lc≠c1/\c0≠c1/\G lc=some (.lst [.ref c0,.ref c1])/\G c0=some (.lst (W.C.map V.int))/\G c1=some (.lst (List.replicate W.C.length .non))/\G b=some (.ins CBench dx [(Str.ofString "cells",.ref lc)])/\σ=[some (.ref b),some (.ref w),some (.ref inp)]) ?_ (λ R hR=>?_)
 rotate_left
 ·wp_walk using tSeq,tIfS,inV,eqV,spfilled
  have nb:∀ {x:Addr},H x=none->x≠b:=λ e z=>by rw [z,hb] at e;cases e
  exact ⟨B,L,W,hw,ok,g,hi,q1,λ hg G lc c0 c1 sG f1 f2 f3 d1 d2 d3 h1 h2 h3=>⟨_,_,_,sG _ _ hb,BC.cl,BC.n1,by decide,hR _ _ ⟨lc,c0,c1,hg,(Keep1.of sG).tr .upd,f1,f2,f3,d1,d2,d3,by rw [upd_ne (nb f1)];exact h1,by rw [upd_ne (nb f2)];exact h2,by rw [upd_ne (nb f3)];exact h3,upd_same,rfl⟩⟩⟩
 rintro σ1 G1 ⟨lc,c0,c1,hg,k1,f1,f2,f3,d1,d2,d3,h1,h2,h3,hb1,rfl⟩
 have nb:∀ {x:Addr},H x=none->x≠b:=λ e z=>by rw [z,hb] at e;cases e
 have nw:w≠b:=λ z=>by have e:=hw.1;rw [z,hb] at e;cases e
 have hw1:=k1 _ _ nw hw.1
 refine seq_with (λ σ G=>Keep1 b G1 G/\G b=some (.ins CBench dx [(Str.ofString "cells",.ref lc),(Str.ofString "loops",.ref B.lo)])/\σ=[some (.ref b),some (.ref w),some (.ref inp)]) ?_ (λ R hR=>?_)
 rotate_left
 ·wp_walk using tSeq,tIfS,inV,eqV
  exact ⟨_,hw1,_,atI_nat (j:=1) rfl,_,_,_,hb1,BC.cl,BC.n2,by simp,hR _ _ ⟨.upd,upd_same,rfl⟩⟩
 rintro σ2 G2 ⟨k2,hb2,rfl⟩
 refine seq_with (λ σ G=>Keep1 b G2 G/\G b=some (.ins CBench dx [(Str.ofString "cells",.ref lc),(Str.ofString "loops",.ref B.lo),(Str.ofString "outs",.ref B.ou)])/\σ=[some (.ref b),some (.ref w),some (.ref inp)]) ?_ (λ R hR=>?_)
 rotate_left
 ·wp_walk using tSeq,tIfS,inV,eqV
  exact ⟨_,k2 _ _ nw hw1,_,atI_nat (j:=2) rfl,_,_,_,hb2,BC.cl,BC.n3,by simp,hR _ _ ⟨.upd,upd_same,rfl⟩⟩
 rintro σ3 G3 ⟨k3,hb3,rfl⟩
 refine seq_with (λ σ G=>∃d,Keep1 b G3 G/\G3 d=none/\G d=some (.dT [])/\G b=some (.ins CBench dx [(Str.ofString "cells",.ref lc),(Str.ofString "loops",.ref B.lo),(Str.ofString "outs",.ref B.ou),(Str.ofString "done",.ref d)])/\σ=[some (.ref b),some (.ref w),some (.ref inp)]) ?_ (λ R hR=>?_)
 rotate_left
 ·wp_walk using tSeq,tIfS,inV,eqV
  exact λ d hd=>⟨_,_,_,same_new hd _ _ _ hb3,BC.cl,BC.n4,by simp,hR _ _ ⟨d,(Keep1.of (same_new hd _)).tr .upd,hd,by rw [upd_ne (λ z=>by rw [z,hb3] at hd;cases hd)];exact upd_same,upd_same,rfl⟩⟩
 rintro σ4 G4 ⟨d,k4,fd,hd,hb4,rfl⟩
 refine seq_with (λ σ G=>Keep1 b G4 G/\G b=some (.ins CBench dx [(Str.ofString "cells",.ref lc),(Str.ofString "loops",.ref B.lo),(Str.ofString "outs",.ref B.ou),(Str.ofString "done",.ref d),(Str.ofString "calls",.int 0)])/\σ=[some (.ref b),some (.ref w),some (.ref inp)]) ?_ (λ R hR=>?_)
 rotate_left
 ·wp_walk using tSeq,tIfS,inV,eqV
  exact ⟨_,_,_,hb4,BC.cl,BC.n5,by simp,hR _ _ ⟨.upd,upd_same,rfl⟩⟩
 rintro σ5 G5 ⟨k5,hb5,rfl⟩
 wp_walk using tSeq,tIfS,inV,eqV
 refine ⟨small (by decide),λ lg hlg=>⟨_,_,_,same_new hlg _ _ _ hb5,BC.cl,BC.n6,by simp,?_⟩⟩
 have k15:=k2.tr (k3.tr (k4.tr k5))
 have kA:Keep1 b G1 (upd (upd G5 lg (.lst [])) b (.ins CBench dx (putF (Str.ofString "log") (V.ref lg) [(Str.ofString "cells",.ref lc),(Str.ofString "loops",.ref B.lo),(Str.ofString "outs",.ref B.ou),(Str.ofString "done",.ref d),(Str.ofString "calls",.int 0)]))):=k15.tr ((Keep1.of (same_new hlg _)).tr .upd)
 have kH:=k1.tr kA
 have up:UpT H (upd (upd G5 lg (.lst [])) b (.ins CBench dx (putF (Str.ofString "log") (V.ref lg) [(Str.ofString "cells",.ref lc),(Str.ofString "loops",.ref B.lo),(Str.ofString "outs",.ref B.ou),(Str.ofString "done",.ref d),(Str.ofString "calls",.int 0)]))):=λ a xs e=>kH _ _ (λ z=>by rw [z,hb] at e;cases e) e
 have hw':=hw.up up
 have fn:∀ {x:Addr}{G:Hp},Keep1 b H G->G x=none->H x=none\/x=b:=λ {x G} k e=>by
  by_cases c:x=b
  ·exact .inr c
  ·cases h:H x with
   | none=>exact .inl rfl
   | some o=>rw [k _ _ c h] at e;cases e
 have dnb:d≠b:=λ z=>by rw [z,hb3] at fd;cases fd
 have gnb:lg≠b:=λ z=>by rw [z,hb5] at hlg;cases hlg
 have d5:G5 d=some (.dT []):=k5 _ _ dnb hd
 have ne5:∀ {x:Addr}{o:HO},x≠b->G1 x=some o->x≠lg:=λ n e z=>by rw [← z,k15 _ _ n e] at hlg;cases hlg
 refine q2 hg _ ⟨dx,lc,c0,c1,d,lg⟩ kH f1 f2 f3 ((fn (k1.tr (k2.tr k3)) fd).resolve_right dnb) ((fn (k1.tr k15) hlg).resolve_right gnb) ⟨upd_same,kA _ _ (nb f1) h1,kA _ _ (nb f2) h2,by rw [cells0];exact kA _ _ (nb f3) h3,by rw [upd_ne dnb];exact same_new hlg _ _ _ d5,⟨[],by rw [upd_ne gnb];exact upd_same,rfl,λ i k p e=>by simp at e⟩,⟨d2,ne5 (nb f1) h1,d3,ne5 (nb f2) h2,ne5 (nb f3) h3⟩,hw'.2.2.2.2.1,hw'.2.2.2.2.2.1,hw'.2.2.2.2.2.2.1,hw'.2.2.2.2.2.2.2,List.nodup_nil,(λ k hk=>nomatch hk),ok⟩
abbrev sBenchleft:Stmt:=(clsBody (top 42)).getD 1 (.Pass ⟨0,0,0,0⟩)
theorem scBenchleft:FnScope ["self", "rounds", "k", "loop", "round_at"] ["self"] (defScope sBenchleft):=⟨rfl,rfl,rfl,by decide +kernel,rfl,by decide +kernel,by decide +kernel⟩
theorem okBenchleft (F:Fun K "left" "Bench.left" sBenchleft f fd) {CBench:Addr}(nBench:PySem.W.nsIn K mainGlobals "Bench" = some (some (.ref CBench))) (croundsof:Callee P w K mg base CX0 (3) "rounds_of" ["loop"] sproundsof) (zenumerate:mg "enumerate" = none) (zrange:mg "range" = none) (BC:BenCls K CBench):FnOk P w K mg base CX0 (4) f fd ["self"] ((spbleft CBench)):=by
 have sc:=scBenchleft
 refine F.ok sc (λ vs H Q E h=>?_) (λ cdv A outer s H vs Q E hr h=>?_)
 ·obtain ⟨b,A,B,L,W,D,rfl,_⟩:=h;rfl
 obtain ⟨b,A,B,L,W,D,rfl,hb,q⟩:=h
 refine ⟨_,(pss_cons (ps_set (i:=1) sc.nd rfl (by first | exact Or.inl rfl | exact Or.inr rfl) (pe_lst pa_nil)) (pss_cons (ps_for PassesOwn.never rfl (pi_enum (by rfl) zenumerate (pe_fld (pv 0) rfl)) (pg_tupH (n:=2) (pg_tup rfl (pgs_cons (pg_name (i:=2) sc.nd rfl (Or.inl rfl)) (pgs_cons (pg_name (i:=3) sc.nd rfl (Or.inl rfl)) pgs_nil)))) (pss_one (ps_for PassesOwn.never rfl (pi_range1 (by rfl) zrange (pa_cons (pe_cal croundsof hr (by rfl) pass0 (pa_cons (pv 3) pa_nil)) pa_nil)) (pg_name (i:=4) sc.nd rfl (Or.inl rfl)) (pss_one (ps_if (pt_cmp (pc_dnotin (hu1 hr) (pe_tup (pa_cons (pv 2) (pa_cons (pv 4) pa_nil))) (pe_fld (pv 0) rfl)) rfl) (pss_one (ps_expr (pe_app (pv 1) (pe_tup (pa_cons (pv 2) (pa_cons (pv 4) pa_nil)))))) pss_nil))))) (pss_one (ps_ret (pv 1))))),?_⟩
 simp only [L2.start,List.length_cons,List.length_nil,List.replicate,List.cons_append,List.nil_append,Nat.reduceSub,Nat.reduceAdd,List.map_cons,List.map_nil]
 refine seq_with (λ σ G=>∃l,Same H G/\H l=none/\G l=some (.lst [])/\σ=[some (.ref b),some (.ref l),none,none,none]) ?_ (λ R hR=>?_)
 rotate_left
 ·wp_walk using tSeq,tIfS,inV,eqV
  exact ⟨small (by decide),λ p hp=>hR _ _ ⟨p,same_new hp _,hp,upd_same,rfl⟩⟩
 rintro σ1 G1 ⟨l,s1,l0,hl,rfl⟩
 refine seq_with (λ σ G=>∃ps y2 y3 y4,Same H G/\G l=some (.lst (ps.map V.ref))/\PrsAt G ps (leftL W D)/\σ=[some (.ref b),some (.ref l),y2,y3,y4]) ?_ (λ R hR=>?_)
 rotate_left
 ·wp_walk using tIfS,inV,eqV
  refine ⟨_,_,_,s1 _ _ hb.hb,BC.cl,BC.n2,_,rfl,?_⟩
  have nl:∀ {x:Addr}{o:HO},H x=some o->x≠l:=λ e z=>by rw [z,l0] at e;cases e
  refine LoopE.mk (xs:=[V.ref B.lp]) (.of (s1 _ _ hb.hlo)) (λ i σ G=>∃ps y2 y3 y4,Same H G/\G l=some (.lst (ps.map V.ref))/\PrsAt G ps (if i=0 then [] else leftL W D)/\σ=[some (.ref b),some (.ref l),y2,y3,y4]) ⟨[],_,_,_,s1,hl,⟨rfl,λ i k p e=>by simp at e⟩,rfl⟩ (λ i σ G _ ⟨_,_,_,_,sG,_⟩=>.of (sG _ _ hb.hlo)) (λ i x σ G T ex h hT=>?_) (λ σ G h=>?_)
  ·obtain ⟨ps,y2,y3,y4,sG,hlG,hps,rfl⟩:=h
   match i,ex with
   | 0,ex =>
    cases ex
    have sT:=sG.trans (same_new hT (.tup [V.int ((0:Nat):Int),V.ref B.lp]))
    have hlT:=same_new hT (.tup [V.int ((0:Nat):Int),V.ref B.lp]) _ _ hlG
    have hpT:=hps.mono (.of (same_new hT (.tup [V.int ((0:Nat):Int),V.ref B.lp])))
    have hTT:upd G T (.tup [V.int ((0:Nat):Int),V.ref B.lp]) T=some (.tup [V.int ((0:Nat):Int),V.ref B.lp]):=upd_same
    generalize upd G T (.tup [V.int ((0:Nat):Int),V.ref B.lp])=GT at *
    wp_walk using inV,eqV,sproundsof
    have c32:=hb.ok.2.2.2.2.1
    refine ⟨_,hTT,rfl,_,_,rfl,_,_,rfl,rfl,_,rfl,L,W,hb.hlp.up (.of sT),hb.ok,by omega,by omega,?_⟩
    rw [Int.toNat_natCast]
    refine LoopR.mk (λ i σ G=>∃ps y4,Same H G/\G l=some (.lst (ps.map V.ref))/\PrsAt G ps ((List.range i).filter (λ k=>decide (k ∉ D)))/\σ=[some (.ref b),some (.ref l),some (.int ((0:Nat):Int)),some (.ref B.lp),y4]) ⟨ps,_,sT,hlT,hpT,rfl⟩ (λ i σ G hi h=>?_) (λ σ G h=>?_)
    ·obtain ⟨ps,y4,sG,hlG,hps,rfl⟩:=h
     have pl:=hps.1
     have fl:=List.length_filter_le (λ k=>decide (k ∉ D)) (List.range i)
     rw [List.length_range] at fl
     rw [filt_succ]
     wp_walk using tSeq,tIfS,inV,eqV
     rw [Int.zero_add]
     refine ⟨small (by decide),λ p hp=>⟨_,_,_,same_new hp _ _ _ (sG _ _ hb.hb),BC.cl,BC.n4,_,rfl,_,rfl,_,DGet.t (k:=[Sum.inl 0,Sum.inl (i:Int)]) (same_new hp _ _ _ (sG _ _ hb.hd)) upd_same,?_⟩⟩
     rw [val_key]
     have s1':=sG.trans (same_new hp (.tup [V.int ((0:Nat):Int),V.int (i:Int)]))
     by_cases c:i∈D
     ·rw [if_pos c,if_pos c,if_neg (by simp),List.append_nil]
      exact ⟨s1',ps,same_new hp _ _ _ hlG,hps.mono (.of (same_new hp _)),_,rfl⟩
     ·rw [if_neg c,if_neg c,if_pos (show (none:Option V).isSome=false from rfl)]
      refine ⟨⟨_,same_new hp _ _ _ hlG⟩,small (by decide),λ p1 hp1=>⟨_,same_new hp1 _ _ _ (same_new hp _ _ _ hlG),small1000 (by rw [List.length_map];omega),?_,ps++[p1],by rw [List.map_append];rfl,?_,_,rfl⟩⟩
      ·intro a o e
       rw [upd_ne (nl e)]
       exact (s1'.trans (same_new hp1 _)) a o e
      ·refine PrsAt.snoc ?_ ?_
       ·exact hps.mono λ a xs e=>by rw [upd_ne (λ z=>by rw [z,hlG] at e;cases e)];exact same_new hp1 _ _ _ (same_new hp _ _ _ e)
       ·have n1:p1≠l:=λ z=>by rw [z,same_new hp _ _ _ hlG] at hp1;cases hp1
        rw [upd_ne n1]
        exact upd_same
    ·obtain ⟨ps,y4,sG,hlG,hps,rfl⟩:=h
     exact ⟨sG,ps,hlG,hps,_,_,_,rfl⟩
  ·obtain ⟨ps,y2,y3,y4,sG,hlG,hps,rfl⟩:=h
   exact hR _ _ ⟨ps,y2,y3,y4,sG,hlG,hps,rfl⟩
 rintro σ2 G2 ⟨ps,y2,y3,y4,s2,hl2,hp2,rfl⟩
 wp_walk using tSeq,tIfS,inV,eqV
 exact q _ l ps s2 l0 hl2 hp2
abbrev sBenchcallsmade:Stmt:=(clsBody (top 42)).getD 3 (.Pass ⟨0,0,0,0⟩)
theorem scBenchcallsmade:FnScope ["self"] ["self"] (defScope sBenchcallsmade):=⟨rfl,rfl,rfl,by decide +kernel,rfl,by decide +kernel,by decide +kernel⟩
theorem okBenchcallsmade (F:Fun K "calls_made" "Bench.calls_made" sBenchcallsmade f fd) {CBench:Addr}(nBench:PySem.W.nsIn K mainGlobals "Bench" = some (some (.ref CBench))) (BC:BenCls K CBench):FnOk P w K mg base CX0 (1) f fd ["self"] ((spbcalls CBench)):=by
 have sc:=scBenchcallsmade
 refine F.ok sc (λ vs H Q E h=>?_) (λ cdv A outer s H vs Q E hr h=>?_)
 ·obtain ⟨b,A,B,L,W,D,rfl,_⟩:=h;rfl
 obtain ⟨b,A,B,L,W,D,rfl,hb,q⟩:=h
 refine ⟨_,(pss_one (ps_ret (pe_fld (pv 0) rfl))),?_⟩
 wp_walk using tSeq,tIfS,inV,eqV
 exact ⟨_,_,_,hb.hb,BC.cl,BC.n5,_,rfl,q⟩
abbrev sBenchlogtold:Stmt:=(clsBody (top 42)).getD 4 (.Pass ⟨0,0,0,0⟩)
theorem scBenchlogtold:FnScope ["self"] ["self"] (defScope sBenchlogtold):=⟨rfl,rfl,rfl,by decide +kernel,rfl,by decide +kernel,by decide +kernel⟩
theorem okBenchlogtold (F:Fun K "log_told" "Bench.log_told" sBenchlogtold f fd) {CBench:Addr}(nBench:PySem.W.nsIn K mainGlobals "Bench" = some (some (.ref CBench))) (zlist:mg "list" = none) (BC:BenCls K CBench):FnOk P w K mg base CX0 (1) f fd ["self"] ((spblog CBench)):=by
 have sc:=scBenchlogtold
 refine F.ok sc (λ vs H Q E h=>?_) (λ cdv A outer s H vs Q E hr h=>?_)
 ·obtain ⟨b,A,B,L,W,D,rfl,_⟩:=h;rfl
 obtain ⟨b,A,B,L,W,D,rfl,hb,q⟩:=h
 refine ⟨_,(pss_one (ps_ret (pe_callTy call_list_of (by rfl) zlist boot_list (pa_cons (pe_fld (pv 0) rfl) pa_nil)))),?_⟩
 obtain ⟨ps,hl,hp⟩:=hb.hlg
 wp_walk using tSeq,tIfS,inV,eqV
 exact ⟨_,_,_,hb.hb,BC.cl,BC.n6,_,rfl,_,rfl,_,.inl (.of hl),λ l h0=>q _ l ps (same_new h0 _) h0 upd_same ⟨hp.1,λ i k p a b=>same_new h0 _ _ _ (hp.2 i k p a b)⟩⟩
abbrev sBenchstore:Stmt:=(clsBody (top 42)).getD 5 (.Pass ⟨0,0,0,0⟩)
theorem scBenchstore:FnScope ["self", "k"] ["self", "k"] (defScope sBenchstore):=⟨rfl,rfl,rfl,by decide +kernel,rfl,by decide +kernel,by decide +kernel⟩
theorem okBenchstore (F:Fun K "store" "Bench.store" sBenchstore f fd) {CBench:Addr}(nBench:PySem.W.nsIn K mainGlobals "Bench" = some (some (.ref CBench))) (zlist:mg "list" = none) (BC:BenCls K CBench):FnOk P w K mg base CX0 (1) f fd ["self", "k"] ((spbstore CBench)):=by
 have sc:=scBenchstore
 refine F.ok sc (λ vs H Q E h=>?_) (λ cdv A outer s H vs Q E hr h=>?_)
 ·obtain ⟨b,A,B,L,W,D,k,rfl,_⟩:=h;rfl
 obtain ⟨b,A,B,L,W,D,k,rfl,hb,k2,q⟩:=h
 refine ⟨_,(pss_one (ps_ret (pe_callTy call_list_of (by rfl) zlist boot_list (pa_cons (pe_ix ix_listH (pe_fld (pv 0) rfl) (pv 1) (λ _ _=>rfl)) pa_nil)))),?_⟩
 wp_walk using tSeq,tIfS,inV,eqV
 match k,k2 with
 | 0,_=>exact ⟨_,_,_,hb.hb,BC.cl,BC.n1,_,rfl,_,rfl,_,hb.hlc,_,atI_nat (j:=0) rfl,_,rfl,_,.inl (.of hb.hc0),λ l h0=>q _ l (same_new h0 _) h0 upd_same⟩
 | 1,_=>exact ⟨_,_,_,hb.hb,BC.cl,BC.n1,_,rfl,_,rfl,_,hb.hlc,_,atI_nat (j:=1) rfl,_,rfl,_,.inl (.of hb.hc1),λ l h0=>q _ l (same_new h0 _) h0 upd_same⟩
abbrev sBenchanswerstold:Stmt:=(clsBody (top 42)).getD 6 (.Pass ⟨0,0,0,0⟩)
theorem scBenchanswerstold:FnScope ["self"] ["self"] (defScope sBenchanswerstold):=⟨rfl,rfl,rfl,by decide +kernel,rfl,by decide +kernel,by decide +kernel⟩
theorem okBenchanswerstold (F:Fun K "answers_told" "Bench.answers_told" sBenchanswerstold f fd) {CBench:Addr}(nBench:PySem.W.nsIn K mainGlobals "Bench" = some (some (.ref CBench))) {CNotDone:Addr}(nNotDone:PySem.W.nsIn K mainGlobals "NotDone" = some (some (.ref CNotDone))) (cBenchleft:CalM P w K mg base CX0 4 CBench "left" ["self"] (spbleft CBench)) (zlen:mg "len" = none) (ztuple:mg "tuple" = none) (BC:BenCls K CBench) (xNotDone:PySem.W.excIn K CNotDone [.type "ValueError",.type "Exception",.type "BaseException",.type "object"] "ValueError.__new__" = true):FnOk P w K mg base (CX1 P w) (5) f fd ["self"] ((spbansw CBench CNotDone)):=by
 have sc:=scBenchanswerstold
 refine F.okX sc (λ vs H Q E h=>?_) (λ cdv A outer s H vs Q E hr h=>?_)
 ·obtain ⟨b,A,B,L,W,D,rfl,_⟩:=h;rfl
 obtain ⟨b,A,B,L,W,D,rfl,hb,q1,q2⟩:=h
 refine ⟨_,(pss_cons (ps_if (pt_cmpR op_gt (pe_callB call_len_seq (by rfl) zlen PySem.boot_len (pa_cons (pe_met0 BC.cl cBenchleft hr pass0 (pv 0)) pa_nil)) pe_int (nomark _)) (pss_one (ps_raise PySem.F.excBase_ValueError rfl (by rfl) nNotDone xNotDone raises1 (pa_cons pe_str pa_nil))) pss_nil) (pss_one (ps_ret (pe_callTy call_tuple_of (by rfl) ztuple boot_tuple (pa_cons (pe_comp (own:=["k", "sides"]) (fv:=["self"]) (js:=[0]) rfl (pi_tup (pe_fld (pv 0) rfl)) rfl (by decide) rfl (by decide) (by first | exact λ _ _ h=>h | exact cl_sub1 rfl | exact cl_sub2 rfl rfl | exact cl_sub3 rfl rfl rfl) (has_of (by rfl)) rfl (cap1 (by first | exact ⟨rfl,.inl rfl,.inl rfl⟩ | exact ⟨rfl,.inl rfl,.inr rfl⟩)) (λ _ _ _ _=>(pg_tupH (n:=2) (pg_tup rfl (pgs_cons (pg_name (i:=0) (show (["k", "sides", "self"]:List Str).Nodup by decide +kernel) rfl (Or.inl rfl)) (pgs_cons (pg_name (i:=1) (show (["k", "sides", "self"]:List Str).Nodup by decide +kernel) rfl (Or.inl rfl)) pgs_nil))))) (λ _ _ _ _=>(pe_tup (pa_cons (pv 1) (pa_cons (pe_callTy ((call_tuple_ofK (K:=K) rfl)) (by rfl) ztuple boot_tuple (pa_cons (pe_ix ix_listH (pe_fldK (K:=K) rfl (pv 2) rfl) (pv 0) (λ _ _=>rfl)) pa_nil)) pa_nil))))) pa_nil))))),?_⟩
 simp only [L2.start,List.length_cons,List.length_nil,List.replicate,List.cons_append,List.nil_append,Nat.reduceSub,Nat.reduceAdd,List.map_cons,List.map_nil]
 refine seq_with (λ σ G=>leftL W D=[]/\Same H G/\σ=[some (.ref b)]) ?_ (λ R hR=>?_)
 rotate_left
 ·wp_walk using tSeq,tIfS,inV,eqV,spbleft
  refine ⟨_,_,hb.hb,rfl,A,B,L,W,D,hb,λ H1 l ps s1 l0 hl hp=>⟨_,.inl (.of hl),?_⟩⟩
  rw [List.length_map,hp.1]
  by_cases c:leftL W D=[]
  ·rw [c,if_neg (by simp)]
   exact hR _ _ ⟨c,s1,rfl⟩
  ·rw [if_pos (by have:=List.length_pos_iff.mpr c;omega)]
   exact ⟨small (by decide),q1 c _ s1⟩
 rintro σ1 G1 ⟨e1,s1,rfl⟩
 wp_walk using tSeq,tIfS,inV,eqV
 refine ⟨_,_,_,s1 _ _ hb.hb,BC.cl,BC.n3,_,rfl,?_⟩
 refine CompT.mk (xs:=[V.ref B.o1]) (.of (s1 _ _ hb.hou)) (λ i ys σ G=>Same H G/\(∃xs:List Addr,xs.length=i/\ys=xs.map V.ref/\∀x∈xs,∃c,G x=some (.tup [.ref L.sd,.ref c])/\G c=some (.tup (cellsV W D)))/\∃y z,σ=[y,z,some (.ref b)]) ⟨s1,⟨[],rfl,rfl,λ x hx=>nomatch hx⟩,_,_,rfl⟩ (λ i ys σ G _ h=>.of (h.1 _ _ hb.hou)) (λ i x ys σ G ex h=>?_) (λ ys σ G h l hl=>?_)
 ·obtain ⟨sG,⟨xs,xl,rfl,hx⟩,y,z,rfl⟩:=h
  match i,ex with
  | 0,ex =>
   cases ex
   cases List.eq_nil_of_length_eq_zero xl
   refine ⟨small (by simp),?_⟩
   wp_walk using tSeq,tIfS,inV,eqV
   exact ⟨_,sG _ _ hb.ho1,rfl,_,_,rfl,_,_,rfl,rfl,_,_,_,sG _ _ hb.hb,BC.cl,BC.n1,_,rfl,_,rfl,_,1,rfl,sG _ _ hb.hlc,_,atI_nat (j:=1) rfl,_,rfl,_,.inl ⟨.of (sG _ _ hb.hc1),λ c hc=>⟨small (by decide),λ x hx=>⟨sG.trans ((same_new hc _).trans (same_new hx _)),⟨[x],rfl,rfl,λ x' hx'=>by cases List.mem_singleton.mp hx';exact ⟨c,upd_same,same_new hx _ _ _ upd_same⟩⟩,_,rfl⟩⟩⟩⟩
 ·obtain ⟨sG,⟨xs,xl,rfl,hx⟩,y,z,rfl⟩:=h
  match xs,xl with
  | [x],_ =>
   obtain ⟨c,h1,h2⟩:=hx x (by simp)
   exact ⟨l,rfl,_,.inl ⟨.of upd_same,λ t ht=>q2 e1 _ t x c (sG.trans ((same_new hl _).trans (same_new ht _))) upd_same (same_new ht _ _ _ (same_new hl _ _ _ h1)) (same_new ht _ _ _ (same_new hl _ _ _ h2))⟩⟩
abbrev sBenchdo:Stmt:=(clsBody (top 42)).getD 2 (.Pass ⟨0,0,0,0⟩)
theorem scBenchdo:FnScope ["self", "loop", "round_at", "told", "at", "made", "to", "spot", "number"] ["self", "loop", "round_at"] (defScope sBenchdo):=⟨rfl,rfl,rfl,by decide +kernel,rfl,by decide +kernel,by decide +kernel⟩
theorem okBenchdo (F:Fun K "do" "Bench.do" sBenchdo f fd) {CBench:Addr}(nBench:PySem.W.nsIn K mainGlobals "Bench" = some (some (.ref CBench))) {CNoRound:Addr}(nNoRound:PySem.W.nsIn K mainGlobals "NoRound" = some (some (.ref CNoRound))) {CNoPlace:Addr}(nNoPlace:PySem.W.nsIn K mainGlobals "NoPlace" = some (some (.ref CNoPlace))) (croundsof:Callee P w K mg base CX0 (9) "rounds_of" ["loop"] sproundsof) (catof:Callee P w K mg base (CX1 P w) (9) "at_of" ["sides", "place"] (spatof CNoPlace)) (cloopsides:Callee P w K mg base CX0 (9) "loop_sides" ["loop"] sploopsides) (cfillmade:Callee P w K mg base CX0 (9) "fill_made" ["loop", "at", "cells"] spfillmade) (cloopstore:Callee P w K mg base CX0 (9) "loop_store" ["loop"] sploopstore) (caskwritings:Callee P w K mg base CX0 (9) "ask_writings" ["writings", "cells"] spaskwritings) (zlen:mg "len" = none) (BC:BenCls K CBench) (xNoRound:PySem.W.excIn K CNoRound [.type "ValueError",.type "Exception",.type "BaseException",.type "object"] "ValueError.__new__" = true):FnOk P w K mg base (CX1 P w) (10) f fd ["self", "loop", "round_at"] ((spbdo CBench CNoRound)):=by
 have sc:=scBenchdo
 refine F.okX sc (λ vs H Q E h=>?_) (λ cdv A outer s H vs Q E hr h=>?_)
 ·obtain ⟨b,A,B,L,W,D,lo,r,rfl,_⟩:=h;rfl
 obtain ⟨b,A,B,L,W,D,lo,r,rfl,hb,q1,q2⟩:=h
 refine ⟨_,(pss_cons (ps_if (PW.pt (pw_or (pt_cmpR op_lt (pv 1) pe_int (nomark _)) (pw_or1 (pt_cmpR op_ge (pv 1) (pe_callB call_len_seq (by rfl) zlen PySem.boot_len (pa_cons (pe_fld (pv 0) rfl) pa_nil)) (nomark _))))) (pss_one (ps_raise PySem.F.excBase_ValueError rfl (by rfl) nNoRound xNoRound raises1 (pa_cons pe_str pa_nil))) pss_nil) (pss_cons (ps_set (i:=3) sc.nd rfl (by first | exact Or.inl rfl | exact Or.inr rfl) (pe_ix ix_tupH (pe_fld (pv 0) rfl) (pv 1) (λ _ _=>rfl))) (pss_cons (ps_if (PW.pt (pw_or (pt_cmpR op_lt (pv 2) pe_int (nomark _)) (pw_or1 (pt_cmpR op_ge (pv 2) (pe_cal croundsof hr (by rfl) pass0 (pa_cons (pv 3) pa_nil)) (nomark _))))) (pss_one (ps_raise PySem.F.excBase_ValueError rfl (by rfl) nNoRound xNoRound raises1 (pa_cons pe_str pa_nil))) pss_nil) (pss_cons (ps_if (pt_cmp (pc_din (hu1 hr) (pe_tup (pa_cons (pv 1) (pa_cons (pv 2) pa_nil))) (pe_fld (pv 0) rfl)) rfl) (pss_one (ps_raise PySem.F.excBase_ValueError rfl (by rfl) nNoRound xNoRound raises1 (pa_cons pe_str pa_nil))) pss_nil) (pss_cons (ps_set (i:=4) sc.nd rfl (by first | exact Or.inl rfl | exact Or.inr rfl) (pe_cal catof hr (by rfl) passNo (pa_cons (pe_cal cloopsides hr (by rfl) pass0 (pa_cons (pv 3) pa_nil)) (pa_cons (pv 2) pa_nil)))) (pss_cons (ps_set (i:=5) sc.nd rfl (by first | exact Or.inl rfl | exact Or.inr rfl) (pe_ifExp (pt_cmpR op_eq (pe_ix ix_tupH (pv 3) pe_int (λ _ _=>rfl)) pe_str (nomark _)) (pe_cal cfillmade hr (by rfl) pass0 (pa_cons (pv 3) (pa_cons (pv 4) (pa_cons (pe_fld (pv 0) rfl) pa_nil)))) pe_never)) (pss_cons (ps_set (i:=6) sc.nd rfl (by first | exact Or.inl rfl | exact Or.inr rfl) (pe_cal cloopstore hr (by rfl) pass0 (pa_cons (pv 3) pa_nil))) (pss_cons (ps_expr (pe_cal caskwritings hr (by rfl) pass0 (pa_cons (pe_ix ix_tupH (pv 5) pe_int (λ _ _=>rfl)) (pa_cons (pe_ix ix_listH (pe_fld (pv 0) rfl) (pv 6) (λ _ _=>rfl)) pa_nil)))) (pss_cons (ps_for PassesOwn.leaving rfl (pi_list (pe_ix ix_tupH (pv 5) pe_int (λ _ _=>rfl))) (pg_tupH (n:=2) (pg_tup rfl (pgs_cons (pg_name (i:=7) sc.nd rfl (Or.inl rfl)) (pgs_cons (pg_name (i:=8) sc.nd rfl (Or.inl rfl)) pgs_nil)))) (pss_cons (ps_asg (pv 8) (pg_sub (pe_ix ix_listH (pe_fld (pv 0) rfl) (pv 6) (λ _ _=>rfl)) (pv 7) set_list)) (pss_one (ps_expr (pe_app (pe_fld (pv 0) rfl) (pe_tup (pa_cons (pv 1) (pa_cons (pv 2) (pa_cons (pv 6) (pa_cons (pv 7) (pa_cons (pv 8) pa_nil))))))))))) (pss_cons (ps_fld (pv 0) (pe_op op_add (pe_fld (pv 0) rfl) (pe_ix ix_tupH (pv 5) pe_int (λ _ _=>rfl))) rfl) (pss_cons (ps_dput (hu1 hr) (pe_fld (pv 0) rfl) (pe_tup (pa_cons (pv 1) (pa_cons (pv 2) pa_nil))) pe_bl rfl) (pss_one (ps_ret pe_bl))))))))))))),?_⟩
 simp only [L2.start,List.length_cons,List.length_nil,List.replicate,List.cons_append,List.nil_append,Nat.reduceSub,Nat.reduceAdd,List.map_cons,List.map_nil]
 refine seq_with (λ σ G=>G=H/\lo=0/\σ=[some (.ref b),some (.int lo),some (.int r),none,none,none,none,none,none]) ?_ (λ R hR=>?_)
 rotate_left
 ·wp_walk using tSeq,tIfS,inV,eqV
  by_cases c1:lo < 0
  ·rw [if_pos c1]
   exact ⟨small (by decide),q1 (.inl (by omega)) _ (Same.refl _)⟩
  rw [if_neg c1]
  refine ⟨_,_,_,hb.hb,BC.cl,BC.n2,_,rfl,_,rfl,_,.inr (.of hb.hlo),?_⟩
  by_cases c2:lo=0
  ·rw [if_neg (by simp;omega)]
   exact hR _ _ ⟨rfl,c2,rfl⟩
  ·rw [if_pos (by simp;omega)]
   exact ⟨small (by decide),q1 (.inl c2) _ (Same.refl _)⟩
 rintro σ1 G1 ⟨rfl,rfl,rfl⟩
 refine seq_with (λ σ G=>G=G1/\σ=[some (.ref b),some (.int 0),some (.int r),some (.ref B.lp),none,none,none,none,none]) ?_ (λ R hR=>?_)
 rotate_left
 ·wp_walk using tSeq,tIfS,inV,eqV
  exact ⟨_,_,_,hb.hb,BC.cl,BC.n2,_,rfl,_,rfl,_,hb.hlo,_,atI_nat (j:=0) rfl,hR _ _ ⟨rfl,rfl⟩⟩
 rintro σ2 G2 ⟨rfl,rfl⟩
 refine seq_with (λ σ G=>G=G2/\0≤r/\r < (W.C.length:Int)/\σ=[some (.ref b),some (.int 0),some (.int r),some (.ref B.lp),none,none,none,none,none]) ?_ (λ R hR=>?_)
 rotate_left
 ·wp_walk using tSeq,tIfS,inV,eqV,sproundsof
  by_cases c1:r < 0
  ·rw [if_pos c1]
   exact ⟨small (by decide),q1 (.inr (.inl c1)) _ (Same.refl _)⟩
  rw [if_neg c1]
  refine ⟨L,W,hb.hlp,hb.ok,?_⟩
  by_cases c2:(W.C.length:Int)≤r
  ·rw [if_pos c2]
   exact ⟨small (by decide),q1 (.inr (.inr (.inl c2))) _ (Same.refl _)⟩
  ·rw [if_neg c2]
   exact hR _ _ ⟨rfl,by omega,by omega,rfl⟩
 rintro σ3 G3 ⟨rfl,r0,r1,rfl⟩
 obtain ⟨k,rfl⟩:∃k:Nat,r=(k:Int):=⟨r.toNat,by omega⟩
 rw [Int.toNat_natCast] at q1 q2
 have kn:k < W.C.length:=by omega
 refine seq_with (λ σ G=>Same G3 G/\k ∉ D/\σ=[some (.ref b),some (.int 0),some (.int (k:Int)),some (.ref B.lp),none,none,none,none,none]) ?_ (λ R hR=>?_)
 rotate_left
 ·wp_walk using tSeq,tIfS,inV,eqV
  refine ⟨small (by decide),λ p hp=>⟨_,_,_,same_new hp _ _ _ hb.hb,BC.cl,BC.n4,_,rfl,_,rfl,_,DGet.t (k:=[Sum.inl 0,Sum.inl (k:Int)]) (same_new hp _ _ _ hb.hd) upd_same,?_⟩⟩
  rw [val_key]
  by_cases c:k∈D
  ·rw [if_pos c,if_pos (show (some (V.bl true)).isSome=true from rfl)]
   exact ⟨small (by decide),q1 (.inr (.inr (.inr c))) _ (same_new hp _)⟩
  ·rw [if_neg c,if_neg (show ¬(none:Option V).isSome=true by decide)]
   exact hR _ _ ⟨same_new hp _,c,rfl⟩
 rintro σ4 G4 ⟨s4,nk,rfl⟩
 have q2:=q2 rfl r0 r1 nk
 clear q1
 have hb4:=hb.same s4
 refine seq_with (λ σ G=>∃at_,Same G4 G/\G at_=some (.tup ((atD W.S (k:Int)).map V.int))/\σ=[some (.ref b),some (.int 0),some (.int (k:Int)),some (.ref B.lp),some (.ref at_),none,none,none,none]) ?_ (λ R hR=>?_)
 rotate_left
 ·wp_walk using tSeq,tIfS,inV,eqV,spatof,sploopsides
  exact ⟨L,W,hb4.hlp,W.S,hb4.hlp.2.1,hb.ok.1,by have:=hb.ok.2.1;omega,(λ z=>by have:=hb.ok.2.2.2.1;omega),λ _ _ G p s hp=>hR _ _ ⟨p,s,hp,rfl⟩⟩
 rintro σ5 G5 ⟨at_,s5,hat,rfl⟩
 have hb5:=hb4.same s5
 refine seq_with (λ σ G=>∃m l x,G5 l=none/\Same G5 G/\G m=some (.tup [.ref l,.int 1])/\G l=some (.lst [.ref x])/\G x=some (.tup [.int (k:Int),.int (dueW W k)])/\σ=[some (.ref b),some (.int 0),some (.int (k:Int)),some (.ref B.lp),some (.ref at_),some (.ref m),none,none,none]) ?_ (λ R hR=>?_)
 rotate_left
 ·wp_walk using tSeq,tIfS,inV,eqV,spfillmade
  refine ⟨_,hb5.hlp.1,_,atI_nat (j:=0) rfl,rfl,?_⟩
  rw [if_pos rfl]
  exact ⟨_,_,_,hb5.hb,BC.cl,BC.n1,_,rfl,_,rfl,A.c0,L,W,hb5.hlp,hb.ok,k,kn,hat,[A.c0,A.c1],hb5.hlc,rfl,hb5.hc0,λ G m l x s h1 h2 h3 l0=>hR _ _ ⟨m,l,x,l0,s,h1,h2,h3,rfl⟩⟩
 rintro σ6 G6 ⟨m,l,x,l0,s6,hm,hl,hx,rfl⟩
 have hb6:=hb5.same s6
 refine seq_with (λ σ G=>G=G6/\σ=[some (.ref b),some (.int 0),some (.int (k:Int)),some (.ref B.lp),some (.ref at_),some (.ref m),some (.int 1),none,none]) ?_ (λ R hR=>?_)
 rotate_left
 ·wp_walk using tSeq,tIfS,inV,eqV,sploopstore
  exact ⟨L,W,hb6.hlp,hR _ _ ⟨rfl,rfl⟩⟩
 rintro σ7 G7 ⟨rfl,rfl⟩
 refine seq_with (λ σ G=>Same G7 G/\σ=[some (.ref b),some (.int 0),some (.int (k:Int)),some (.ref B.lp),some (.ref at_),some (.ref m),some (.int 1),none,none]) ?_ (λ R hR=>?_)
 rotate_left
 ·wp_walk using tSeq,tIfS,inV,eqV,spaskwritings
  exact ⟨_,hm,_,atI_nat (j:=0) rfl,_,_,_,hb6.hb,BC.cl,BC.n1,_,rfl,_,rfl,_,hb6.hlc,_,atI_nat (j:=1) rfl,_,rfl,_,rfl,x,hl,k,_,hx,_,hb6.hc1,cells_non kn nk,λ G s=>hR _ _ ⟨s,rfl⟩⟩
 rintro σ8 G8 ⟨s8,rfl⟩
 have hb8:=hb6.same s8
 have up8:=s4.trans (s5.trans (s6.trans s8))
 refine seq_with (λ σ G=>∃y z,(∀a o,a≠A.c1->a≠A.lg->G8 a=some o->G a=some o)/\G A.c1=some (.lst (cellsV W (D++[k])))/\(∃ps:List Addr,G A.lg=some (.lst (ps.map V.ref))/\LogAt G ps W (D++[k]))/\σ=[some (.ref b),some (.int 0),some (.int (k:Int)),some (.ref B.lp),some (.ref at_),some (.ref m),some (.int 1),y,z]) ?_ (λ R hR=>?_)
 rotate_left
 ·wp_walk using tIfS,inV,eqV
  refine ⟨_,s8 _ _ hm,_,atI_nat (j:=0) rfl,?_⟩
  have hl8:=s8 _ _ hl
  have hx8:=s8 _ _ hx
  obtain ⟨ps,hlg,lg⟩:=hb8.hlg
  refine LoopL.mk (xs:=[V.ref x]) (.of hl8) (λ i σ G=>(i=0/\G=G8/\σ=[some (.ref b),some (.int 0),some (.int (k:Int)),some (.ref B.lp),some (.ref at_),some (.ref m),some (.int 1),none,none])\/(i=1/\G l=some (.lst [.ref x])/\∃y z,(∀a o,a≠A.c1->a≠A.lg->G8 a=some o->G a=some o)/\G A.c1=some (.lst (cellsV W (D++[k])))/\(∃ps:List Addr,G A.lg=some (.lst (ps.map V.ref))/\LogAt G ps W (D++[k]))/\σ=[some (.ref b),some (.int 0),some (.int (k:Int)),some (.ref B.lp),some (.ref at_),some (.ref m),some (.int 1),y,z])) (.inl ⟨rfl,rfl,rfl⟩) (λ i σ G _ h=>?_) (λ i v σ G ex h=>?_) (λ σ G h=>?_)
  ·rcases h with ⟨_,rfl,_⟩ | ⟨_,h,_⟩
   ·exact .of hl8
   ·exact .of h
  ·rcases h with ⟨rfl,rfl,rfl⟩ | ⟨rfl,_⟩
   ·cases ex
    wp_walk using tSeq,tIfS,inV,eqV
    refine ⟨_,hx8,rfl,_,_,rfl,_,_,rfl,rfl,_,_,_,hb8.hb,BC.cl,BC.n1,_,rfl,_,rfl,_,hb8.hlc,_,atI_nat (j:=1) rfl,_,rfl,_,(k:Int),rfl,hb8.hc1,k,by rw [cells_len];exact ixN_nat kn,?_⟩
    have bn:=hb8.bn
    have cl:=hb8.n1.2.2.2.2
    have lc1:l≠A.c1:=λ z=>by rw [z,hb5.hc1] at l0;cases l0
    have llg:l≠A.lg:=λ z=>by
     obtain ⟨ps',e',_⟩:=hb5.hlg
     rw [z,e'] at l0;cases l0
    refine ⟨_,_,_,by rw [upd_ne bn.1];exact hb8.hb,BC.cl,BC.n6,_,rfl,_,rfl,⟨_,by rw [upd_ne cl.symm];exact hlg⟩,small (by decide),λ p hp=>?_⟩
    have pc:p≠A.c1:=λ z=>by rw [z,upd_same] at hp;cases hp
    have pG:=hp
    rw [upd_ne pc] at pG
    have np:∀ {a:Addr}{o:HO},G a=some o->a≠p:=λ e z=>by rw [z,pG] at e;cases e
    have d40:ps.length≤512:=by
     rw [lg.1]
     have:=bnd_len hb.nd hb.lt
     have:=hb.ok.2.2.2.2.1
     omega
    refine ⟨_,same_new hp _ _ _ (by rw [upd_ne cl.symm];exact hlg),small1000 (by rw [List.length_map];omega),.inr ⟨?_,?_,?_,⟨ps++[p],?_,?_⟩,_,rfl⟩⟩
    ·rw [upd_ne llg,upd_ne (np hl8),upd_ne lc1];exact hl8
    ·intro a o n1 n2 e
     rw [upd_ne n2,upd_ne (np e),upd_ne n1];exact e
    ·rw [upd_ne cl,upd_ne (np hb8.hc1),upd_same,cells_set kn]
    ·rw [upd_same,List.map_append];rfl
    ·refine LogAt.snoc (lg.mono λ a xs e=>?_) ?_
     ·have t:=hb8.tn e
      rw [upd_ne t.2.2.2,upd_ne (np e),upd_ne t.2.1];exact e
     ·rw [upd_ne (λ z=>by rw [z,hlg] at pG;cases pG)];exact upd_same
   ·cases ex
  ·rcases h with ⟨z,_⟩ | ⟨_,_,h⟩
   ·exact absurd z (by simp)
   ·exact hR _ _ h
 rintro σ9 G9 ⟨y,z,k9,hc9,⟨ps9,hl9,lg9⟩,rfl⟩
 have bne:=hb8.bn
 have dne:=hb8.dn
 have hb9:=k9 _ _ bne.1 bne.2.2 hb8.hb
 have hd9:=k9 _ _ dne.1 dne.2 hb8.hd
 refine seq_with (λ σ G=>Keep1 b G9 G/\G b=some (.ins CBench A.dx (fldB A B (D++[k]).length))/\σ=[some (.ref b),some (.int 0),some (.int (k:Int)),some (.ref B.lp),some (.ref at_),some (.ref m),some (.int 1),y,z]) ?_ (λ R hR=>?_)
 rotate_left
 ·wp_walk using tSeq,tIfS,inV,eqV
  have hm8:=s8 _ _ hm
  refine ⟨_,_,_,hb9,BC.cl,BC.n5,_,rfl,_,k9 _ _ (hb8.tn hm8).2.1 (hb8.tn hm8).2.2.2 hm8,_,atI_nat (j:=1) rfl,_,rfl,_,rfl,_,_,_,hb9,BC.cl,BC.n5,by show 6 < 1000;decide,hR _ _ ⟨.upd,?_,rfl⟩⟩
  rw [upd_same,List.length_append]
  rfl
 rintro σ10 G10 ⟨k10,hb10,rfl⟩
 have bn:=hb8.bn
 have hd10:=k10 _ _ bn.2.1.symm hd9
 wp_walk using tSeq,tIfS,inV,eqV
 refine ⟨_,_,_,hb10,BC.cl,BC.n4,_,rfl,small (by decide),λ p hp=>⟨_,rfl,_,DPut.t (k:=[Sum.inl 0,Sum.inl (k:Int)]) (same_new hp _ _ _ hd10) upd_same (small1000 (by unfold keyD;rw [List.length_map];have:=bnd_len hb.nd hb.lt;have:=hb.ok.2.2.2.2.1;omega)),?_⟩⟩
 rw [put_key nk]
 have fin:∀ {a:Addr}{o:HO},a≠b->a≠A.c1->a≠A.d->a≠A.lg->G8 a=some o->upd (upd G10 p (.tup [V.int 0,V.int (k:Int)])) A.d (.dT (keyD (D++[k]))) a=some o:=λ n1 n2 n3 n4 e=>by
  rw [upd_ne n3];exact same_new hp _ _ _ (k10 _ _ n1 (k9 _ _ n2 n4 e))
 have fin9:∀ {a:Addr}{o:HO},a≠b->a≠A.d->G9 a=some o->upd (upd G10 p (.tup [V.int 0,V.int (k:Int)])) A.d (.dT (keyD (D++[k]))) a=some o:=λ n1 n3 e=>by
  rw [upd_ne n3];exact same_new hp _ _ _ (k10 _ _ n1 e)
 have ft:UpT G8 (upd (upd G10 p (.tup [V.int 0,V.int (k:Int)])) A.d (.dT (keyD (D++[k])))):=λ a xs e=>let t:=hb8.tn e;fin t.1 t.2.1 t.2.2.1 t.2.2.2 e
 have l1:=hb8.ln hb8.hlc
 have l2:=hb8.ln hb8.hc0
 have l3:=hb8.ln hb8.hc1
 obtain ⟨ps8,hlg8,_⟩:=hb8.hlg
 have l4:=hb8.ln hlg8
 refine q2 _ (λ a o n1 n2 n3 n4 e=>fin n1 n2 n3 n4 (up8 _ _ e)) ⟨by rw [upd_ne bn.2.1];exact same_new hp _ _ _ hb10,fin l1.1 hb.n1.1 l1.2 hb.n1.2.1 hb8.hlc,fin l2.1 hb.n1.2.2.1 l2.2 hb.n1.2.2.2.1 hb8.hc0,fin9 l3.1 l3.2 hc9,upd_same,⟨ps9,fin9 l4.1 l4.2 hl9,lg9.mono λ a xs e=>?_⟩,hb.n1,ft _ _ hb8.hlo,hb8.hlp.up ft,ft _ _ hb8.hou,ft _ _ hb8.ho1,?_,?_,hb.ok⟩
 ·refine fin9 (λ z=>?_) (λ z=>?_) e
  ·rw [z,hb9] at e;cases e
  ·rw [z,hd9] at e;cases e
 ·rw [List.nodup_append]
  refine ⟨hb.nd,by simp,λ a ha c hc z=>?_⟩
  cases List.mem_singleton.mp hc
  exact nk (z ▸ ha)
 ·intro j hj
  rcases List.mem_append.mp hj with z | z
  ·exact hb.lt j z
  ·cases List.mem_singleton.mp z;exact kn
abbrev slawat:Stmt:=top 44
def splawat:W.Frag->Sp:=λ K=>λ vs H Q _=>∃(a:Addr) (ns:List Int) (k:Nat),vs=[.ref a,.int k]/\SqL K H a (ns.map V.int)/\Q (.int (cellI ns k)) H
theorem sclawat:FnScope ["row", "k"] ["row", "k"] (defScope slawat):=⟨rfl,rfl,rfl,by decide +kernel,rfl,by decide +kernel,by decide +kernel⟩
theorem oklawat (F:Fun K "_law_at" "_law_at" slawat f fd) (zlen:mg "len" = none):FnOk P w K mg base CX0 (1) f fd ["row", "k"] ((splawat K)):=by
 have sc:=sclawat
 refine F.ok sc (λ vs H Q E h=>?_) (λ cdv A outer s H vs Q E hr h=>?_)
 ·obtain ⟨a,ns,k,rfl,_⟩:=h;rfl
 obtain ⟨a,ns,k,rfl,hS,q⟩:=h
 refine ⟨_,(pss_cons (ps_if (pt_cmpR op_lt (pv 1) (pe_callB call_len_seq (by rfl) zlen PySem.boot_len (pa_cons (pv 0) pa_nil)) (nomark _)) (pss_one (ps_ret (pe_ix ix_list (pv 0) (pv 1) (λ _ _=>rfl)))) pss_nil) (pss_one (ps_ret pe_int))),?_⟩
 wp_walk using tSeq,tIfS,inV,eqV
 refine ⟨_,.inl hS,?_⟩
 rw [len_map]
 unfold cellI at q
 by_cases c:k < ns.length
 ·rw [if_pos (by omega)]
  exact ⟨_,hS,_,atI_nat (j:=k) (by rw [List.getElem?_map,List.getElem?_eq_getElem c];rfl),by rw [List.getD_eq_getElem?_getD,List.getElem?_eq_getElem c] at q;exact q⟩
 ·rw [if_neg (by omega)]
  rw [List.getD_eq_getElem?_getD,List.getElem?_eq_none (by omega)] at q
  exact q
abbrev slawfigure:Stmt:=top 45
def splawfigure:Sp:=λ vs H Q _=>∃n:Int,vs=[.int n]/\∀H',Same H H'->Q (.int (fig n)) H'
theorem sclawfigure:FnScope ["one"] ["one"] (defScope slawfigure):=⟨rfl,rfl,rfl,by decide +kernel,rfl,by decide +kernel,by decide +kernel⟩
theorem oklawfigure (F:Fun K "_law_figure" "_law_figure" slawfigure f fd):FnOk P w K mg base CX0 (1) f fd ["one"] (splawfigure):=by
 have sc:=sclawfigure
 refine F.ok sc (λ vs H Q E h=>?_) (λ cdv A outer s H vs Q E hr h=>?_)
 ·obtain ⟨n,rfl,_⟩:=h;rfl
 obtain ⟨n,rfl,q⟩:=h
 refine ⟨_,(pss_cons (ps_if (pt_cmpR op_eq (pe_op op_mod (pv 0) pe_int) pe_int (nomark _)) (pss_one (ps_ret (pe_ix ix_list (pe_lst (pa_cons (pe_un un_neg (pe_op op_pow pe_int pe_int)) (pa_cons (pe_op op_sub (pe_op op_pow pe_int pe_int) pe_int) (pa_cons (pe_un un_neg pe_int) (pa_cons pe_int (pa_cons pe_int (pa_cons (pe_op op_sub pe_int (pe_op op_pow pe_int pe_int)) pa_nil))))))) (pe_op op_mod (pe_op op_fdiv (pv 0) pe_int) pe_int) (λ _ _=>rfl)))) pss_nil) (pss_cons (ps_if (pt_cmpR op_eq (pe_op op_mod (pv 0) pe_int) pe_int (nomark _)) (pss_one (ps_ret (pe_op op_sub (pe_op op_mod (pe_op op_fdiv (pv 0) pe_int) pe_int) pe_int))) pss_nil) (pss_one (ps_ret (pe_op op_sub (pe_op op_mod (pe_op op_mul (pv 0) pe_int) (pe_op op_pow pe_int pe_int)) (pe_op op_pow pe_int pe_int)))))),?_⟩
 wp_walk using tSeq,tIfS,inV,eqV
 unfold fig at q
 by_cases h5:n % 5=0
 ·rw [if_pos h5]
  rw [if_pos h5] at q
  refine ⟨small (by decide),λ p hp=>⟨_,.of upd_same,_,tab_at (n / 5 % 6) (by omega) (by omega),q _ (same_new hp _)⟩⟩
 ·rw [if_neg h5]
  rw [if_neg h5] at q
  by_cases h6:n % 5=1
  ·rw [if_pos h6]
   rw [if_pos h6] at q
   exact q _ (Same.refl _)
  ·rw [if_neg h6]
   rw [if_neg h6] at q
   exact q _ (Same.refl _)
abbrev slawsides:Stmt:=top 46
def splawsides:Sp:=λ vs H Q _=>∃(a:Addr) (rs:List Int),vs=[.ref a,.int 32]/\H a=some (.lst (rs.map V.int))/\rs.length≤4/\∀H' p ms,Same H H'->fit ms->(∀n∈ms,n≤32)->ms.length≤4->H' p=some (.tup (ms.map V.int))->Q (.ref p) H'
theorem sclawsides:FnScope ["row", "room", "sides", "one", "side"] ["row", "room"] (defScope slawsides):=⟨rfl,rfl,rfl,by decide +kernel,rfl,by decide +kernel,by decide +kernel⟩
theorem oklawsides (F:Fun K "_law_sides" "_law_sides" slawsides f fd) (zmin:mg "min" = none) (zmax:mg "max" = none):FnOk P w K mg base CX0 (1) f fd ["row", "room"] (splawsides):=by
 have sc:=sclawsides
 refine F.ok sc (λ vs H Q E h=>?_) (λ cdv A outer s H vs Q E hr h=>?_)
 ·obtain ⟨a,rs,rfl,_⟩:=h;rfl
 obtain ⟨a,rs,rfl,ha,h4,q⟩:=h
 refine ⟨_,(pss_cons (ps_set (i:=2) sc.nd rfl (by first | exact Or.inl rfl | exact Or.inr rfl) (pe_tup pa_nil)) (pss_cons (ps_for PassesOwn.never rfl (pi_list (pe_slice sl_list (pv 0) po_none (po_some pe_int))) (pg_name (i:=3) sc.nd rfl (Or.inl rfl)) (pss_cons (ps_set (i:=4) sc.nd rfl (by first | exact Or.inl rfl | exact Or.inr rfl) (pe_op op_add pe_int (pe_op op_modN (pe_op op_fdiv (pv 3) pe_int) (pe_callB (call_min2 rfl) (by rfl) zmin boot_min (pa_cons (pv 1) (pa_cons pe_int pa_nil)))))) (pss_cons (ps_if (pt_cmpR op_eq (pe_op op_mod (pv 3) pe_int) pe_int (nomark _)) (pss_one (ps_set (i:=4) sc.nd rfl (by first | exact Or.inl rfl | exact Or.inr rfl) (pe_op op_modN (pe_op op_fdiv (pv 3) pe_int) (pe_op op_add (pe_callB (call_min2 rfl) (by rfl) zmin boot_min (pa_cons (pv 1) (pa_cons pe_int pa_nil))) pe_int)))) pss_nil) (pss_cons (ps_if (pt_cmpR op_eq (pe_op op_mod (pv 3) pe_int) pe_int (nomark _)) (pss_one (ps_set (i:=4) sc.nd rfl (by first | exact Or.inl rfl | exact Or.inr rfl) (pe_op op_add pe_int (pe_op op_modN (pe_op op_fdiv (pv 3) pe_int) (pv 1))))) pss_nil) (pss_cons (ps_set (i:=2) sc.nd rfl (by first | exact Or.inl rfl | exact Or.inr rfl) (pe_op op_catS (pv 2) (pe_tup (pa_cons (pv 4) pa_nil)))) (pss_one (ps_set (i:=1) sc.nd rfl (by first | exact Or.inl rfl | exact Or.inr rfl) (pe_op op_fdivW (pv 1) (pe_callB (call_max2 rfl) (by rfl) zmax boot_max (pa_cons pe_int (pa_cons (pv 4) pa_nil))))))))))) (pss_one (ps_ret (pv 2))))),?_⟩
 wp_walk using tSeq,tIfS,inV,eqV,rSlL
 refine ⟨small (by decide),λ p0 hp0=>⟨_,.of (same_new hp0 _ _ _ ha),λ l hl=>?_⟩⟩
 have s0:=(same_new hp0 (.tup [])).trans (same_new hl (.lst (cutV (rs.map V.int) none (some 6))))
 have g0:=same_new hl (.lst (cutV (rs.map V.int) none (some 6))) _ _ (upd_same (H:=H) (a:=p0) (o:=.tup []))
 have ec:cutV (rs.map V.int) none (some 6)=rs.map V.int:=by
  have:=cut_any rs 6
  rw [List.take_of_length_le (by omega)] at this
  exact this
 have gl:upd (upd H p0 (.tup [])) l (.lst (cutV (rs.map V.int) none (some 6))) l=some (.lst (rs.map V.int)):=by rw [upd_same,ec]
 generalize upd (upd H p0 (.tup [])) l (.lst (cutV (rs.map V.int) none (some 6)))=H0 at *
 refine LoopL.mk (xs:=rs.map V.int) (.of gl) (λ i σ G=>Same H0 G/\∃(p:Addr) (ms:List Int) (free:Int) (y3 y4:Option V),σ=[some (.ref a),some (.int free),some (.ref p),y3,y4]/\grow ms free i/\free≤32/\(∀n∈ms,n≤32)/\G p=some (.tup (ms.map V.int))/\i≤4) ⟨Same.refl _,p0,[],32,_,_,rfl,⟨fc0,rfl,by decide,by decide,by decide,by decide⟩,by decide,fc0,g0,by omega⟩ (λ i σ G _ h=>.of (h.1 _ _ gl)) (λ i x σ G ex h=>?_) (λ σ G h=>?_)
 ·obtain ⟨sG,p,ms,free,y3,y4,rfl,hg,f32,m32,hp,i4⟩:=h
  obtain ⟨r,rfl,hr⟩:=int_at ex
  have il:=(List.getElem?_eq_some_iff.mp hr).1
  have f0:=hg.2.2.1
  have c3:0 < (if 3 < free then 3 else free)/\(if 3 < free then 3 else free)≤free:=by split<;>omega
  simp only [gName,List.set_cons_succ,List.set_cons_zero]
  refine seq_with (λ σ G'=>G'=G/\∃m:Int,0≤m/\m≤free/\σ=[some (.ref a),some (.int free),some (.ref p),some (.int r),some (.int m)]) ?_ (λ R hR=>?_)
  rotate_left
  ·wp_walk using tSeq,tIfS,inV,eqV
   have z0:=Int.fmod_nonneg_of_pos (r / 4) c3.1
   have z1:=Int.fmod_lt_of_pos (r / 4) c3.1
   exact ⟨by omega,hR _ _ ⟨rfl,_,by omega,by omega,rfl⟩⟩
  rintro σ1 G1 ⟨rfl,m1,a10,a11,rfl⟩
  refine seq_with (λ σ G'=>G'=G1/\∃m:Int,0≤m/\m≤free/\σ=[some (.ref a),some (.int free),some (.ref p),some (.int r),some (.int m)]) ?_ (λ R hR=>?_)
  rotate_left
  ·wp_walk using tSeq,tIfS,inV,eqV
   have z0:=Int.fmod_nonneg_of_pos (r / 4) (show 0 < (if 3 < free then 3 else free)+1 by omega)
   have z1:=Int.fmod_lt_of_pos (r / 4) (show 0 < (if 3 < free then 3 else free)+1 by omega)
   split
   ·exact ⟨by omega,hR _ _ ⟨rfl,_,by omega,by omega,rfl⟩⟩
   ·exact hR _ _ ⟨rfl,_,a10,a11,rfl⟩
  rintro σ2 G2 ⟨rfl,m2,a20,a21,rfl⟩
  refine seq_with (λ σ G'=>G'=G2/\∃m:Int,0≤m/\m≤free/\σ=[some (.ref a),some (.int free),some (.ref p),some (.int r),some (.int m)]) ?_ (λ R hR=>?_)
  rotate_left
  ·wp_walk using tSeq,tIfS,inV,eqV
   have z0:=Int.fmod_nonneg_of_pos (r / 4) (show 0 < free by omega)
   have z1:=Int.fmod_lt_of_pos (r / 4) (show 0 < free by omega)
   split
   ·exact ⟨by omega,hR _ _ ⟨rfl,_,by omega,by omega,rfl⟩⟩
   ·exact hR _ _ ⟨rfl,_,a20,a21,rfl⟩
  rintro σ3 G3 ⟨rfl,m,m0,m1,rfl⟩
  wp_walk using tSeq,tIfS,inV,eqV
  refine ⟨small (by decide),λ p2 hp2=>⟨_,same_new hp2 _ _ _ hp,by rw [len_map,hg.2.1];exact small (by omega),λ p4 H2 s2 hr2=>?_⟩⟩
  rw [mx_one m0]
  have o1:1≤one1 m/\one1 m≤32:=by unfold one1;split<;>omega
  rw [Int.fdiv_eq_ediv_of_nonneg _ (by omega)]
  have gs:=grow_step hg m0 m1
  have le:=Int.ediv_le_self (one1 m) (show 0≤free by omega)
  exact ⟨by omega,by omega,by omega,sG.trans ((same_new hp2 _).trans s2),ms++[m],gs,by omega,λ n hn=>(List.mem_append.mp hn).elim (m32 n) λ z=>by cases List.mem_singleton.mp z;omega,by rw [hr2,List.map_append];rfl,by omega⟩
 ·obtain ⟨sG,p,ms,free,y3,y4,rfl,hg,f32,m32,hp,i4⟩:=h
  wp_walk using tSeq,tIfS,inV,eqV
  exact q _ _ ms (s0.trans sG) (grow_fit hg (by rw [len_map];omega)) m32 (by rw [hg.2.1,len_map];exact h4) hp
abbrev slawbench:Stmt:=top 47
theorem sclawbench:FnScope ["weft", "inputs", "bench"] ["weft", "inputs"] (defScope slawbench):=⟨rfl,rfl,rfl,by decide +kernel,rfl,by decide +kernel,by decide +kernel⟩
theorem oklawbench (F:Fun K "_law_bench" "_law_bench" slawbench f fd) {CBench:Addr}(nBench:PySem.W.nsIn K mainGlobals "Bench" = some (some (.ref CBench))) {CUnlike:Addr}(nUnlike:PySem.W.nsIn K mainGlobals "Unlike" = some (some (.ref CUnlike))) (cBenchinit:MakC P w K mg base (CX1 P w) 3 CBench "Bench" ["self", "weft", "inputs"] (spbinit CBench CUnlike)) (BC:BenCls K CBench) (xUnlike:PySem.W.excIn K CUnlike [.type "ValueError",.type "Exception",.type "BaseException",.type "object"] "ValueError.__new__" = true) (eUU:PySem.W.exmOne K (.ref CUnlike) (.ref CUnlike)=some true):FnOk P w K mg base CX0 (5) f fd ["weft", "inputs"] (spkbench):=by
 have sc:=sclawbench
 refine F.ok sc (λ vs H Q E h=>?_) (λ cdv A outer s H vs Q E hr h=>?_)
 ·obtain ⟨w,inp,B,L,W,rfl,_⟩:=h;rfl
 obtain ⟨w,inp,B,L,W,rfl,hw,ok,hi,q⟩:=h
 refine ⟨_,(pss_cons (ps_set (i:=2) sc.nd rfl (by first | exact Or.inl rfl | exact Or.inr rfl) pe_non) (pss_cons (ps_tryN ⟨rfl,rfl⟩ (λ xe pn EE hx=>(pss_one (ps_set (i:=2) sc.nd rfl (by first | exact Or.inl rfl | exact Or.inr rfl) (pe_makX cBenchinit hr (by rfl) hx (pa_cons (pv 0) (pa_cons (pv 1) pa_nil)))))) (.cons (by rfl) nUnlike (λ ae pn=>(pss_one (ps_set (i:=2) sc.nd rfl (by first | exact Or.inl rfl | exact Or.inr rfl) pe_non))) .nil (by decide))) (pss_one (ps_ret (pv 2))))),?_⟩
 wp_walk using tSeq,tIfS,inV,eqV,spbinit
 intro x dx hx hdx ne
 have s:=(same_new hdx (.own x)).trans (same_new (show upd H dx (.own x) x=none by rw [upd_ne (λ z=>ne z.symm)];exact hx) (.ins CBench dx []))
 exact ⟨dx,rfl,B,L,W,hw.up (.of s),ok,False,hi.same s,λ _ H' s'=>.inl ⟨eUU,q _ (s.trans s')⟩,λ z=>z.elim⟩
abbrev slawasked:Stmt:=top 48
theorem sclawasked:FnScope ["bench", "loop", "number", "told", "e"] ["bench", "loop", "number"] (defScope slawasked):=⟨rfl,rfl,rfl,by decide +kernel,rfl,by decide +kernel,by decide +kernel⟩
theorem oklawasked (F:Fun K "_law_asked" "_law_asked" slawasked f fd) {CBench:Addr}(nBench:PySem.W.nsIn K mainGlobals "Bench" = some (some (.ref CBench))) {CNoRound:Addr}(nNoRound:PySem.W.nsIn K mainGlobals "NoRound" = some (some (.ref CNoRound))) {CNotReady:Addr}(nNotReady:PySem.W.nsIn K mainGlobals "NotReady" = some (some (.ref CNotReady))) {CNotDone:Addr}(nNotDone:PySem.W.nsIn K mainGlobals "NotDone" = some (some (.ref CNotDone))) {CStuck:Addr}(nStuck:PySem.W.nsIn K mainGlobals "Stuck" = some (some (.ref CStuck))) {CUnlike:Addr}(nUnlike:PySem.W.nsIn K mainGlobals "Unlike" = some (some (.ref CUnlike))) (cBenchdo:CalM P w K mg base (CX1 P w) 10 CBench "do" ["self", "loop", "round_at"] (spbdo CBench CNoRound)) (zisinstance:mg "isinstance" = none) (BC:BenCls K CBench) (xNoRound:PySem.W.excIn K CNoRound [.type "ValueError",.type "Exception",.type "BaseException",.type "object"] "ValueError.__new__" = true) (kxR:ExcK K CNoRound) (k3:PySem.W.kitAny K (.ref CNoRound) ([CNotReady,CNotDone,CStuck,CUnlike].map Value.ref)=some false):FnOk P w K mg base CX0 (11) f fd ["bench", "loop", "number"] ((spkasked CBench)):=by
 have sc:=sclawasked
 refine F.ok sc (λ vs H Q E h=>?_) (λ cdv A outer s H vs Q E hr h=>?_)
 ·obtain ⟨b,A,B,L,W,D,lo,r,rfl,_⟩:=h;rfl
 obtain ⟨b,A,B,L,W,D,lo,r,rfl,hb,q1,q2⟩:=h
 refine ⟨_,(pss_cons (ps_set (i:=3) sc.nd rfl (by first | exact Or.inl rfl | exact Or.inr rfl) (pe_lst (pa_cons pe_bl pa_nil))) (pss_cons (ps_try (i:=4) ⟨rfl,rfl⟩ rfl sc.nd rfl rfl (by rfl) nNoRound xNoRound (by decide) (λ xe pn EE hx=>(pss_one (ps_set (i:=3) sc.nd rfl (by first | exact Or.inl rfl | exact Or.inr rfl) (pe_lst (pa_cons (pe_metX BC.cl cBenchdo hr hx (pv 0) (pa_cons (pv 1) (pa_cons (pv 2) pa_nil))) pa_nil))))) (λ ae pn=>(pss_one (ps_set (i:=3) sc.nd rfl (by first | exact Or.inl rfl | exact Or.inr rfl) (pe_lst (pa_cons pe_str (pa_cons (pe_callB (call_isiET kxR k3) (by rfl) zisinstance boot_isinstance (pa_cons (pv 4) (pa_cons (pe_tup (pa_cons (pe_cls (by rfl) nNotReady) (pa_cons (pe_cls (by rfl) nNotDone) (pa_cons (pe_cls (by rfl) nStuck) (pa_cons (pe_cls (by rfl) nUnlike) pa_nil))))) pa_nil))) pa_nil))))))) (pss_one (ps_ret (pv 3))))),?_⟩
 wp_walk using tSeq,tIfS,inV,eqV,spbdo
 exact ⟨small (by decide),λ p hp=>⟨_,_,same_new hp _ _ _ hb.hb,rfl,A,B,L,W,D,hb.same (same_new hp _),λ bad H1 s1 a ha=>⟨small (by decide),λ p1 hp1=>⟨same_new hp1 _ _ _ upd_same,small (by decide),λ p2 hp2=>q1 bad _ p2 ((same_new hp _).trans (s1.trans ((same_new ha _).trans ((same_new hp1 _).trans (same_new hp2 _))))) upd_same⟩⟩,λ e1 e2 e3 e4 H1 k1 hb1=>⟨small (by decide),λ p1 hp1=>q2 (nbad e1 e2 e3 e4) _ p1 (λ a o n1 n2 n3 n4 e=>same_new hp1 _ _ _ (k1 a o n1 n2 n3 n4 (same_new hp _ _ _ e))) (hb1.same (same_new hp1 _)) upd_same⟩⟩⟩
abbrev slawearly:Stmt:=top 49
theorem sclawearly:FnScope ["bench", "told", "e"] ["bench"] (defScope slawearly):=⟨rfl,rfl,rfl,by decide +kernel,rfl,by decide +kernel,by decide +kernel⟩
theorem oklawearly (F:Fun K "_law_early" "_law_early" slawearly f fd) {CBench:Addr}(nBench:PySem.W.nsIn K mainGlobals "Bench" = some (some (.ref CBench))) {CNotDone:Addr}(nNotDone:PySem.W.nsIn K mainGlobals "NotDone" = some (some (.ref CNotDone))) {CNotReady:Addr}(nNotReady:PySem.W.nsIn K mainGlobals "NotReady" = some (some (.ref CNotReady))) {CNoRound:Addr}(nNoRound:PySem.W.nsIn K mainGlobals "NoRound" = some (some (.ref CNoRound))) {CStuck:Addr}(nStuck:PySem.W.nsIn K mainGlobals "Stuck" = some (some (.ref CStuck))) {CUnlike:Addr}(nUnlike:PySem.W.nsIn K mainGlobals "Unlike" = some (some (.ref CUnlike))) (cBenchanswerstold:CalM P w K mg base (CX1 P w) 5 CBench "answers_told" ["self"] (spbansw CBench CNotDone)) (zisinstance:mg "isinstance" = none) (BC:BenCls K CBench) (xNotDone:PySem.W.excIn K CNotDone [.type "ValueError",.type "Exception",.type "BaseException",.type "object"] "ValueError.__new__" = true) (kxN:ExcK K CNotDone) (k4:PySem.W.kitAny K (.ref CNotDone) ([CNotReady,CNoRound,CStuck,CUnlike].map Value.ref)=some false):FnOk P w K mg base CX0 (6) f fd ["bench"] ((spkearly CBench)):=by
 have sc:=sclawearly
 refine F.ok sc (λ vs H Q E h=>?_) (λ cdv A outer s H vs Q E hr h=>?_)
 ·obtain ⟨b,A,B,L,W,D,rfl,_⟩:=h;rfl
 obtain ⟨b,A,B,L,W,D,rfl,hb,ne,q⟩:=h
 refine ⟨_,(pss_cons (ps_set (i:=1) sc.nd rfl (by first | exact Or.inl rfl | exact Or.inr rfl) (pe_lst (pa_cons pe_bl pa_nil))) (pss_cons (ps_try (i:=2) ⟨rfl,rfl⟩ rfl sc.nd rfl rfl (by rfl) nNotDone xNotDone (by decide) (λ xe pn EE hx=>(pss_one (ps_expr (pe_met0X BC.cl cBenchanswerstold hr hx (pv 0))))) (λ ae pn=>(pss_one (ps_set (i:=1) sc.nd rfl (by first | exact Or.inl rfl | exact Or.inr rfl) (pe_lst (pa_cons pe_str (pa_cons (pe_callB (call_isiET kxN k4) (by rfl) zisinstance boot_isinstance (pa_cons (pv 2) (pa_cons (pe_tup (pa_cons (pe_cls (by rfl) nNotReady) (pa_cons (pe_cls (by rfl) nNoRound) (pa_cons (pe_cls (by rfl) nStuck) (pa_cons (pe_cls (by rfl) nUnlike) pa_nil))))) pa_nil))) pa_nil))))))) (pss_one (ps_ret (pe_cmpR (op_eqL hr.units0) (pv 1) (pe_lst (pa_cons pe_str (pa_cons pe_bl pa_nil))) (nomark _)))))),?_⟩
 wp_walk using tSeq,tIfS,inV,eqV,spbansw
 refine ⟨small (by decide),λ p hp=>⟨_,_,same_new hp _ _ _ hb.hb,rfl,A,B,L,W,D,hb.same (same_new hp _),λ _ H1 s1 a ha=>⟨small (by decide),λ p1 hp1=>⟨same_new hp1 _ _ _ upd_same,small (by decide),λ p2 hp2=>⟨small (by decide),λ p3 hp3=>⟨_,.of (same_new hp3 _ _ _ upd_same),_,.of upd_same,rfl,rfl,?_⟩⟩⟩⟩,λ z=>absurd z ne⟩⟩
 rw [eqEarly]
 exact q _ ((same_new hp _).trans (s1.trans ((same_new ha _).trans ((same_new hp1 _).trans ((same_new hp2 _).trans (same_new hp3 _))))))
abbrev slawstrange:Stmt:=top 50
theorem sclawstrange:FnScope ["bench", "size", "done", "loop", "number"] ["bench", "size", "done"] (defScope slawstrange):=⟨rfl,rfl,rfl,by decide +kernel,rfl,by decide +kernel,by decide +kernel⟩
theorem oklawstrange (F:Fun K "_law_strange" "_law_strange" slawstrange f fd) {CBench:Addr}(nBench:PySem.W.nsIn K mainGlobals "Bench" = some (some (.ref CBench))) (clawasked:Callee P w K mg base CX0 (11) "_law_asked" ["bench", "loop", "number"] (spkasked CBench)):FnOk P w K mg base CX0 (12) f fd ["bench", "size", "done"] ((spkstrange CBench)):=by
 have sc:=sclawstrange
 refine F.ok sc (λ vs H Q E h=>?_) (λ cdv A outer s H vs Q E hr h=>?_)
 ·obtain ⟨b,dl,A,B,L,W,D,xs,rfl,_⟩:=h;rfl
 obtain ⟨b,dl,A,B,L,W,D,xs,rfl,hb,hd,x40,hx,q⟩:=h
 refine ⟨_,(pss_cons (ps_for PassesOwn.never rfl (pi_list (pe_op op_cat (pe_lst (pa_tup (pe_tup (pa_cons pe_int (pa_cons (pe_un un_neg pe_int) pa_nil))) (pa_tup (pe_tup (pa_cons pe_int (pa_cons (pv 1) pa_nil))) (pa_tup (pe_tup (pa_cons pe_int (pa_cons (pe_op op_add (pv 1) pe_int) pa_nil))) (pa_tup (pe_tup (pa_cons pe_int (pa_cons pe_int pa_nil))) (pa_tup (pe_tup (pa_cons (pe_un un_neg pe_int) (pa_cons pe_int pa_nil))) pa_nil)))))) (pe_comp0 (own:=["number"]) rfl (pi_list (pe_slice sl_list (pv 2) po_none (po_some pe_int))) (by decide) (by decide) rfl (by decide) (λ _ _ _ _=>(pg_name (i:=0) (show (["number"]:List Str).Nodup by decide +kernel) rfl (Or.inl rfl))) (λ _ _ _ _=>(pe_tup (pa_cons pe_int (pa_cons (pv 0) pa_nil))))))) (pg_tupH (n:=2) (pg_tup rfl (pgs_cons (pg_name (i:=3) sc.nd rfl (Or.inl rfl)) (pgs_cons (pg_name (i:=4) sc.nd rfl (Or.inl rfl)) pgs_nil)))) (pss_one (ps_if (pt_cmpR (op_neL hr.units0) (pe_cal clawasked hr (by rfl) pass0 (pa_cons (pv 0) (pa_cons (pv 3) (pa_cons (pv 4) pa_nil)))) (pe_lst (pa_cons pe_str (pa_cons pe_bl pa_nil))) (nomark _)) (pss_one (ps_ret pe_bl)) pss_nil))) (pss_one (ps_ret pe_bl))),?_⟩
 simp only [L2.start,List.length_cons,List.length_nil,List.replicate,List.cons_append,List.nil_append,Nat.reduceSub,Nat.reduceAdd,List.map_cons,List.map_nil]
 refine seq_with (λ σ G=>Same H G) ?_ (λ R hR=>?_)
 rotate_left
 ·wp_walk using tIfS,inV,eqV,rSlL
  refine ⟨small (by decide),λ p0 h0=>⟨small (by decide),λ p1 h1=>⟨small (by decide),λ p2 h2=>⟨small (by decide),λ p3 h3=>⟨small (by decide),λ p4 h4=>⟨small (by decide),λ l5 h5=>?_⟩⟩⟩⟩⟩⟩
  have s5:=(same_new h0 (.tup [V.int 0,V.int (-1)])).trans ((same_new h1 (.tup [V.int 0,V.int (W.C.length:Int)])).trans ((same_new h2 (.tup [V.int 0,V.int ((W.C.length:Int)+40)])).trans ((same_new h3 (.tup [V.int 1,V.int 0])).trans ((same_new h4 (.tup [V.int (-1),V.int 0])).trans (same_new h5 (.lst [V.ref p0,V.ref p1,V.ref p2,V.ref p3,V.ref p4]))))))
  have b5:PrB (upd (upd (upd (upd (upd (upd H p0 (.tup [V.int 0,V.int (-1)])) p1 (.tup [V.int 0,V.int (W.C.length:Int)])) p2 (.tup [V.int 0,V.int ((W.C.length:Int)+40)])) p3 (.tup [V.int 1,V.int 0])) p4 (.tup [V.int (-1),V.int 0])) l5 (.lst [V.ref p0,V.ref p1,V.ref p2,V.ref p3,V.ref p4])) W D [p0,p1,p2,p3,p4]:=λ p hp=>by
   simp only [List.mem_cons,List.not_mem_nil,or_false] at hp
   rcases hp with rfl | rfl | rfl | rfl | rfl
   ·exact ⟨0,-1,same_new h5 _ _ _ (same_new h4 _ _ _ (same_new h3 _ _ _ (same_new h2 _ _ _ (same_new h1 _ _ _ upd_same)))),.inr (.inl (by decide))⟩
   ·exact ⟨0,_,same_new h5 _ _ _ (same_new h4 _ _ _ (same_new h3 _ _ _ (same_new h2 _ _ _ upd_same))),.inr (.inr (.inl (Int.le_refl _)))⟩
   ·exact ⟨0,_,same_new h5 _ _ _ (same_new h4 _ _ _ (same_new h3 _ _ _ upd_same)),.inr (.inr (.inl (by omega)))⟩
   ·exact ⟨1,0,same_new h5 _ _ _ (same_new h4 _ _ _ upd_same),.inl (by decide)⟩
   ·exact ⟨-1,0,same_new h5 _ _ _ upd_same,.inl (by decide)⟩
  have l5h:(upd (upd (upd (upd (upd (upd H p0 (.tup [V.int 0,V.int (-1)])) p1 (.tup [V.int 0,V.int (W.C.length:Int)])) p2 (.tup [V.int 0,V.int ((W.C.length:Int)+40)])) p3 (.tup [V.int 1,V.int 0])) p4 (.tup [V.int (-1),V.int 0])) l5 (.lst [V.ref p0,V.ref p1,V.ref p2,V.ref p3,V.ref p4])) l5=some (.lst ([p0,p1,p2,p3,p4].map V.ref)):=upd_same
  generalize (upd (upd (upd (upd (upd (upd H p0 (.tup [V.int 0,V.int (-1)])) p1 (.tup [V.int 0,V.int (W.C.length:Int)])) p2 (.tup [V.int 0,V.int ((W.C.length:Int)+40)])) p3 (.tup [V.int 1,V.int 0])) p4 (.tup [V.int (-1),V.int 0])) l5 (.lst [V.ref p0,V.ref p1,V.ref p2,V.ref p3,V.ref p4]))=G5 at *
  refine ⟨_,.of (s5 _ _ hd),λ l6 h6=>?_⟩
  rw [show (some 3:Option Int)=some ((3:Nat):Int) from rfl,cut_any]
  have s6:=s5.trans (same_new h6 (.lst (((natI xs).take 3).map V.int)))
  have b6:=b5.mono (same_new h6 (.lst (((natI xs).take 3).map V.int)))
  have l56:=same_new h6 (.lst (((natI xs).take 3).map V.int)) _ _ l5h
  have l66:upd G5 l6 (.lst (((natI xs).take 3).map V.int)) l6=some (.lst (((natI xs).take 3).map V.int)):=upd_same
  generalize upd G5 l6 (.lst (((natI xs).take 3).map V.int))=G6 at *
  have t3:((natI xs).take 3).length≤3:=by rw [List.length_take];omega
  refine CompL.mk (xs:=((natI xs).take 3).map V.int) (.of l66) (λ i ys σ G=>∃qs:List Addr,ys=qs.map V.ref/\qs.length=i/\Same G6 G/\PrB G W D qs/\∃y,σ=[y]) ⟨[],rfl,rfl,Same.refl _,(λ p hp=>nomatch hp),_,rfl⟩ (λ i ys σ G _ ⟨_,_,_,sG,_⟩=>.of (sG _ _ l66)) (λ i x ys σ G ex h=>?_) (λ ys σ G h l7 h7=>?_)
  ·obtain ⟨qs,rfl,ql,sG,bq,y,rfl⟩:=h
   have il:=(List.getElem?_eq_some_iff.mp ex).1
   rw [len_map] at il
   obtain ⟨n,rfl,hn⟩:=int_at ex
   obtain ⟨k,hk,rfl⟩:=List.mem_map.mp (List.mem_of_mem_take (List.mem_of_getElem? hn))
   refine ⟨small1000 (by rw [List.length_map];omega),?_⟩
   wp_walk using tSeq,tIfS,inV,eqV
   exact ⟨small (by decide),λ p hp=>⟨qs++[p],by rw [List.map_append];rfl,by rw [List.length_append,ql];rfl,sG.trans (same_new hp _),λ p' hp'=>by
    rcases List.mem_append.mp hp' with z | z
    ·exact bq.mono (same_new hp _) p' z
    ·cases List.mem_singleton.mp z
     exact ⟨0,k,upd_same,.inr (.inr (.inr (by rw [Int.toNat_natCast];exact hx k hk)))⟩,_,rfl⟩⟩
  ·obtain ⟨qs,rfl,ql,sG,bq,y,rfl⟩:=h
   rw [len_map] at ql
   have s7:=sG.trans (same_new h7 (.lst (qs.map V.ref)))
   refine ⟨_,rfl,_,s7 _ _ l56,_,upd_same,small (by rw [List.length_map,List.length_map];simp only [List.length_cons,List.length_nil];omega),λ l8 h8=>?_⟩
   rw [← List.map_append]
   have s8:=s7.trans (same_new h8 (.lst (([p0,p1,p2,p3,p4]++qs).map V.ref)))
   have b8:PrB (upd (upd G l7 (.lst (qs.map V.ref))) l8 (.lst (([p0,p1,p2,p3,p4]++qs).map V.ref))) W D ([p0,p1,p2,p3,p4]++qs):=λ p hp=>(List.mem_append.mp hp).elim (b6.mono s8 p) (bq.mono ((same_new h7 _).trans (same_new h8 _)) p)
   have l8h:upd (upd G l7 (.lst (qs.map V.ref))) l8 (.lst (([p0,p1,p2,p3,p4]++qs).map V.ref)) l8=some (.lst (([p0,p1,p2,p3,p4]++qs).map V.ref)):=upd_same
   generalize upd (upd G l7 (.lst (qs.map V.ref))) l8 (.lst (([p0,p1,p2,p3,p4]++qs).map V.ref))=G8 at *
   refine LoopL.mk (xs:=([p0,p1,p2,p3,p4]++qs).map V.ref) (.of l8h) (λ i σ G=>Same G8 G/\∃y z,σ=[some (.ref b),some (.int (W.C.length:Int)),some (.ref dl),y,z]) ⟨Same.refl _,_,_,rfl⟩ (λ i σ G _ h=>.of (h.1 _ _ l8h)) (λ i x σ G ex h=>?_) (λ σ G h=>hR _ _ (s6.trans (s8.trans h.1)))
   obtain ⟨sG8,y,z,rfl⟩:=h
   rw [List.getElem?_map] at ex
   obtain ⟨p,hp,rfl⟩:=Option.map_eq_some_iff.mp ex
   obtain ⟨lo,r,e,bad⟩:=b8 p (List.mem_of_getElem? hp)
   wp_walk using tSeq,tIfS,inV,eqV,spkasked
   refine ⟨_,sG8 _ _ e,rfl,_,_,rfl,_,_,rfl,rfl,?_⟩
   refine ⟨A,B,L,W,D,lo,rfl,r,rfl,hb.same (s6.trans (s8.trans sG8)),λ _ H1 l s1 hl=>⟨small (by decide),λ p' hp'=>⟨_,.of (same_new hp' _ _ _ hl),_,.of upd_same,rfl,rfl,?_⟩⟩,λ z=>absurd bad z⟩
   rw [eqNone,if_neg (by decide)]
   exact ⟨sG8.trans (s1.trans (same_new hp' _)),_,rfl⟩
 rintro σ1 G1 s1
 wp_walk using tSeq,tIfS,inV,eqV
 exact q _ s1
abbrev slawsteps:Stmt:=top 51
def splawsteps:Sp:=λ vs H Q _=>∃(a:Addr) (S:List Int),vs=[.ref a]/\H a=some (.tup (S.map V.int))/\sdOk S/\S.length≤6/\∀H' p,Same H H'->H' p=some (.tup (((stL S S.length).reverse).map V.int))->Q (.ref p) H'
theorem sclawsteps:FnScope ["sides", "steps", "size", "side"] ["sides"] (defScope slawsteps):=⟨rfl,rfl,rfl,by decide +kernel,rfl,by decide +kernel,by decide +kernel⟩
theorem oklawsteps (F:Fun K "_law_steps" "_law_steps" slawsteps f fd) (zreversed:mg "reversed" = none):FnOk P w K mg base CX0 (1) f fd ["sides"] (splawsteps):=by
 have sc:=sclawsteps
 refine F.ok sc (λ vs H Q E h=>?_) (λ cdv A outer s H vs Q E hr h=>?_)
 ·obtain ⟨a,S,rfl,_⟩:=h;rfl
 obtain ⟨a,S,rfl,ha,hs,h6,q⟩:=h
 refine ⟨_,(pss_cons (ps_set (i:=1) sc.nd rfl (by first | exact Or.inl rfl | exact Or.inr rfl) (pe_tup pa_nil)) (pss_cons (ps_set (i:=2) sc.nd rfl (by first | exact Or.inl rfl | exact Or.inr rfl) pe_int) (pss_cons (ps_for PassesOwn.never rfl (pi_revT (by rfl) zreversed (pv 0)) (pg_name (i:=3) sc.nd rfl (Or.inl rfl)) (pss_cons (ps_set (i:=1) sc.nd rfl (by first | exact Or.inl rfl | exact Or.inr rfl) (pe_op op_catS (pe_tup (pa_cons (pv 2) pa_nil)) (pv 1))) (pss_one (ps_set (i:=2) sc.nd rfl (by first | exact Or.inl rfl | exact Or.inr rfl) (pe_op op_mul (pv 2) (pv 3)))))) (pss_one (ps_ret (pv 1)))))),?_⟩
 simp only [L2.start,List.length_cons,List.length_nil,List.replicate,List.cons_append,List.nil_append,Nat.reduceSub,Nat.reduceAdd,List.map_cons,List.map_nil]
 wp_walk using tSeq,tIfS,inV,eqV
 refine ⟨small (by decide),λ p hp=>?_⟩
 refine LoopV.mk (xs:=S.map V.int) (.of (same_new hp _ _ _ ha)) (λ i σ G=>∃p,Same H G/\G p=some (.tup (((stL S i).reverse).map V.int))/\∃y,σ=[some (.ref a),some (.ref p),some (.int (stP S i)),y]) ⟨p,same_new hp _,upd_same,_,rfl⟩ (λ i σ G _ ⟨_,h,_⟩=>.of (h _ _ ha)) (λ i x σ G hi e h=>?_) (λ σ G h=>?_)
 ·obtain ⟨p',h1,h2,y,rfl⟩:=h
  obtain ⟨m,rfl,hm,m0,m1⟩:=sd_at hs e
  rw [len_map] at hi hm
  have sm:((stL S i).reverse.map V.int).length=i:=by rw [List.length_map,List.length_reverse,stL,List.length_map,List.length_range]
  wp_walk using tSeq,tIfS,inV,eqV
  rw [stP_succ hi hm,stL_succ,List.reverse_append]
  exact ⟨small (by decide),λ p2 hp2=>⟨_,same_new hp2 _ _ _ h2,small (by rw [sm];omega),λ r G' s hr=>⟨.inr ⟨by omega,by omega⟩,h1.trans ((same_new hp2 _).trans s),r,hr,rfl,rfl,_,rfl⟩⟩⟩
 ·obtain ⟨p',h1,h2,y,rfl⟩:=h
  rw [len_map] at h2
  wp_walk using tSeq,tIfS,inV,eqV
  exact q _ _ h1 h2
abbrev slawdoneall:Stmt:=top 52
theorem sclawdoneall:FnScope ["bench", "script", "size", "left", "done", "number", "told"] ["bench", "script", "size"] (defScope slawdoneall):=⟨rfl,rfl,rfl,by decide +kernel,rfl,by decide +kernel,by decide +kernel⟩
theorem oklawdoneall (F:Fun K "_law_done_all" "_law_done_all" slawdoneall f fd) {CBench:Addr}(nBench:PySem.W.nsIn K mainGlobals "Bench" = some (some (.ref CBench))) (clawearly:Callee P w K mg base CX0 (12) "_law_early" ["bench"] (spkearly CBench)) (clawat:Callee P w K mg base CX0 (12) "_law_at" ["row", "k"] (splawat K)) (clawasked:Callee P w K mg base CX0 (12) "_law_asked" ["bench", "loop", "number"] (spkasked CBench)) (clawstrange:Callee P w K mg base CX0 (12) "_law_strange" ["bench", "size", "done"] (spkstrange CBench)) (cBenchleft:CalM P w K mg base CX0 12 CBench "left" ["self"] (spbleft CBench)) (cBenchcallsmade:CalM P w K mg base CX0 12 CBench "calls_made" ["self"] (spbcalls CBench)) (zlist:mg "list" = none) (zrange:mg "range" = none) (zlen:mg "len" = none) (zisinstance:mg "isinstance" = none) (BC:BenCls K CBench):FnOk P w K mg base CX0 (13) f fd ["bench", "script", "size"] ((spkall K CBench)):=by
 have sc:=sclawdoneall
 refine F.ok sc (λ vs H Q E h=>?_) (λ cdv A outer s H vs Q E hr h=>?_)
 ·obtain ⟨b,scr,A,B,L,W,ns,rfl,_⟩:=h;rfl
 obtain ⟨b,scr,A,B,L,W,ns,rfl,hb,hS,hsc,q⟩:=h
 refine ⟨_,(pss_cons (ps_set (i:=3) sc.nd rfl (by first | exact Or.inl rfl | exact Or.inr rfl) (pe_callTy (call_listRng rfl) (by rfl) zlist boot_list (pa_cons (pe_callTy call_rangeV (by rfl) zrange boot_range (pa_cons (pv 2) pa_nil)) pa_nil))) (pss_cons (ps_set (i:=4) sc.nd rfl (by first | exact Or.inl rfl | exact Or.inr rfl) (pe_lst pa_nil)) (pss_cons (ps_while PassesOwn.never (pt_cmpR op_gt (pe_callB call_len_seq (by rfl) zlen PySem.boot_len (pa_cons (pv 3) pa_nil)) pe_int (nomark _)) (pss_cons (ps_if (pt_not (pt_val (pe_cal clawearly hr (by rfl) pass0 (pa_cons (pv 0) pa_nil)))) (pss_one (ps_ret pe_non)) pss_nil) (pss_cons (ps_set (i:=5) sc.nd rfl (by first | exact Or.inl rfl | exact Or.inr rfl) (pe_bm PySem.F.plainAttrs_list PySem.F.slot_list_pop PySem.F.type_list_pop mr_popAt (pv 3) (pa_cons (pe_op op_modN (pe_cal clawat hr (by rfl) pass0 (pa_cons (pv 1) (pa_cons (pe_callB call_len_seq (by rfl) zlen PySem.boot_len (pa_cons (pv 4) pa_nil)) pa_nil))) (pe_callB call_len_seq (by rfl) zlen PySem.boot_len (pa_cons (pv 3) pa_nil))) pa_nil))) (pss_cons (ps_if (PW.pt (pw_or (pt_cmpR (op_neL hr.units0) (pe_cal clawasked hr (by rfl) pass0 (pa_cons (pv 0) (pa_cons pe_int (pa_cons (pv 5) pa_nil)))) (pe_lst (pa_cons pe_bl pa_nil)) (nomark _)) (pw_or1 (pt_not (pt_val (pe_cal clawstrange hr (by rfl) pass0 (pa_cons (pv 0) (pa_cons (pv 2) (pa_cons (pe_op op_cat (pe_slice sl_list (pv 4) (po_some (pe_un un_neg pe_int)) po_none) (pe_lst (pa_cons (pv 5) pa_nil))) pa_nil))))))))) (pss_one (ps_ret pe_non)) pss_nil) (pss_cons (ps_expr (pe_app (pv 4) (pv 5))) (pss_cons (ps_set (i:=6) sc.nd rfl (by first | exact Or.inl rfl | exact Or.inr rfl) (pe_met0 BC.cl cBenchleft hr pass0 (pv 0))) (pss_cons (ps_if (PW.pt (pw_or (pt_not (pt_val (pe_callB call_isiLL (by rfl) zisinstance boot_isinstance (pa_cons (pv 6) (pa_cons (pe_bltn (v:=.ty "list") (by rfl) zlist boot_list rfl) pa_nil))))) (pw_or (pt_cmpR (op_neD (hu20 hr)) (pv 6) (pe_comp0 (own:=["one"]) rfl (pi_list (pv 3)) (by decide) (by decide) rfl (by decide) (λ _ _ _ _=>(pg_name (i:=0) (show (["one"]:List Str).Nodup by decide +kernel) rfl (Or.inl rfl))) (λ _ _ _ _=>(pe_tup (pa_cons pe_int (pa_cons (pv 0) pa_nil))))) (nomark _)) (pw_or1 (pt_cmpR op_ne (pe_met0 BC.cl cBenchcallsmade hr pass0 (pv 0)) (pe_callB call_len_seq (by rfl) zlen PySem.boot_len (pa_cons (pv 4) pa_nil)) (nomark _)))))) (pss_one (ps_ret pe_non)) pss_nil) (pss_one (ps_expr (pe_bm0 PySem.F.plainAttrs_list PySem.F.slot_list_clear PySem.F.type_list_clear mr_clear (pv 6))))))))))) (pss_one (ps_ret (pv 4)))))),?_⟩
 simp only [L2.start,List.length_cons,List.length_nil,List.replicate,List.cons_append,List.nil_append,Nat.reduceSub,Nat.reduceAdd,List.map_cons,List.map_nil]
 have c32:=hb.ok.2.2.2.2.1
 refine seq_with (λ σ G=>∃lf,Same H G/\H lf=none/\G lf=some (.lst ((natI (leftL W [])).map V.int))/\σ=[some (.ref b),some (.ref scr),some (.int (W.C.length:Int)),some (.ref lf),none,none,none]) ?_ (λ R hR=>?_)
 rotate_left
 ·wp_walk using tSeq,tIfS,inV,eqV
  intro r hr'
  refine ⟨W.C.length,rfl,by omega,λ l hl=>hR _ _ ⟨l,(same_new hr' _).trans (same_new hl _),(same_new hr' _).free hl,?_,rfl⟩⟩
  rw [upd_same,left_nil]
  rfl
 rintro σ1 G1 ⟨lf,s1,f1,h1,rfl⟩
 refine seq_with (λ σ G=>∃dn,Same G1 G/\G1 dn=none/\G dn=some (.lst [])/\σ=[some (.ref b),some (.ref scr),some (.int (W.C.length:Int)),some (.ref lf),some (.ref dn),none,none]) ?_ (λ R hR=>?_)
 rotate_left
 ·wp_walk using tSeq,tIfS,inV,eqV
  exact ⟨small (by decide),λ p hp=>hR _ _ ⟨p,same_new hp _,hp,upd_same,rfl⟩⟩
 rintro σ2 G2 ⟨dn,s2,f2,h2,rfl⟩
 have fd:=s1.free f2
 have nld:lf≠dn:=λ z=>by rw [← z,h1] at f2;cases f2
 have n1:=hb.fr f1
 have n2:=hb.fr fd
 refine seq_with (λ σ G=>∃D y5 y6,KeepB b A H G/\BenAt CBench G b A B L W D/\leftL W D=[]/\G dn=some (.lst ((natI D).map V.int))/\σ=[some (.ref b),some (.ref scr),some (.int (W.C.length:Int)),some (.ref lf),some (.ref dn),y5,y6]) ?_ (λ R hR=>?_)
 rotate_left
 ·wp_walk using inV,eqV
  obtain ⟨J,hJ⟩:∃J:Nat->L2.St->Hp->Prop,J=(λ m σ G=>∃D y5 y6,m=(leftL W D).length/\KeepB b A H G/\BenAt CBench G b A B L W D/\G lf=some (.lst ((natI (leftL W D)).map V.int))/\G dn=some (.lst ((natI D).map V.int))/\σ=[some (.ref b),some (.ref scr),some (.int (W.C.length:Int)),some (.ref lf),some (.ref dn),y5,y6]):=⟨_,rfl⟩
  refine ⟨J,⟨_,by rw [hJ];exact ⟨[],_,_,rfl,.of (s1.trans s2),hb.same (s1.trans s2),s2 _ _ h1,h2,rfl⟩⟩,?_⟩
  intro m σ G hj
  rw [hJ] at hj
  obtain ⟨D,y5,y6,rfl,kG,hbG,hlf,hdn,rfl⟩:=hj
  wp_walk using inV,eqV
  refine ⟨_,.inl (.of hlf),?_⟩
  rw [len_map,natI_len]
  by_cases c0:leftL W D=[]
  ·rw [c0,if_neg (by simp)]
   exact hR _ _ ⟨D,_,_,kG,hbG,c0,hdn,rfl⟩
  have lp:=List.length_pos_iff.mpr c0
  have l32:(leftL W D).length≤512:=Nat.le_trans (left_le W D) c32
  rw [if_pos (by omega)]
  refine ⟨λ σ' G'=>∃m',m' < (leftL W D).length/\J m' σ' G',λ _ _ h=>h,?_⟩
  refine seq_with (λ σ G'=>Same G G'/\σ=[some (.ref b),some (.ref scr),some (.int (W.C.length:Int)),some (.ref lf),some (.ref dn),y5,y6]) ?_ (λ R2 hR2=>?_)
  rotate_left
  ·wp_walk using tSeq,tIfS,inV,eqV,spkearly
   exact ⟨A,B,L,W,D,hbG,c0,λ G1 s1=>hR2 _ _ ⟨s1,rfl⟩⟩
  rintro σa Ga ⟨sa,rfl⟩
  have hbA:=hbG.same sa
  have hlfA:=sa _ _ hlf
  have hdnA:=sa _ _ hdn
  obtain ⟨i,ei,il⟩:∃i:Nat,cellI ns D.length % ((leftL W D).length:Int)=(i:Int)/\i < (leftL W D).length:=by
   have a:=Int.emod_nonneg (cellI ns D.length) (show ((leftL W D).length:Int)≠0 by omega)
   have b:=Int.emod_lt_of_pos (cellI ns D.length) (show 0 < ((leftL W D).length:Int) by omega)
   exact ⟨(cellI ns D.length % ((leftL W D).length:Int)).toNat,by omega,by omega⟩
  obtain ⟨k,hk⟩:∃k,(leftL W D)[i]?=some k:=⟨_,List.getElem?_eq_getElem il⟩
  have km:=left_mem.mp (List.mem_of_getElem? hk)
  refine seq_with (λ σ G'=>G'=upd Ga lf (.lst ((natI (leftL W (D++[k]))).map V.int))/\σ=[some (.ref b),some (.ref scr),some (.int (W.C.length:Int)),some (.ref lf),some (.ref dn),some (.int (k:Int)),y6]) ?_ (λ R2 hR2=>?_)
  rotate_left
  ·wp_walk using tSeq,tIfS,inV,eqV,splawat
   refine ⟨.inl ⟨_,.of hlfA⟩,_,.inl (.of hdnA),ns,D.length,by rw [len_map,natI_len],(kG.tr (.of sa)).seq hb hsc hS,_,.inl (.of hlfA),?_⟩
   rw [len_map,natI_len,fm_em _ (by omega),ei]
   refine ⟨by omega,_,hlfA,by omega,by omega,i,by rw [len_map,natI_len];exact seqIx il,.int (k:Int),by rw [List.getElem?_map,natI,List.getElem?_map,hk];rfl,hR2 _ _ ⟨?_,rfl⟩⟩
   rw [er_map,natI,er_map,left_pop hk];rfl
  rintro σb Gb ⟨rfl,rfl⟩
  have nA:lf≠A.c1/\lf≠A.lg/\lf≠A.lc/\lf≠A.c0:=⟨n1.2.1,n1.2.2.2.1,n1.2.2.2.2.1,n1.2.2.2.2.2⟩
  have nD:dn≠A.c1/\dn≠A.lg/\dn≠A.lc/\dn≠A.c0:=⟨n2.2.1,n2.2.2.2.1,n2.2.2.2.2.1,n2.2.2.2.2.2⟩
  have hbB:=hbA.wr (ys:=(natI (leftL W (D++[k]))).map V.int) hlfA nA
  have hlfB:upd Ga lf (.lst ((natI (leftL W (D++[k]))).map V.int)) lf=some (.lst ((natI (leftL W (D++[k]))).map V.int)):=upd_same
  have hdnB:upd Ga lf (.lst ((natI (leftL W (D++[k]))).map V.int)) dn=some (.lst ((natI D).map V.int)):=by rw [upd_ne nld.symm];exact hdnA
  have kB:KeepB b A H (upd Ga lf (.lst ((natI (leftL W (D++[k]))).map V.int))):=λ a o m1 m2 m3 m4 e=>by
   rw [upd_ne (λ z=>by rw [z,f1] at e;cases e)]
   exact sa _ _ (kG a o m1 m2 m3 m4 e)
  generalize upd Ga lf (.lst ((natI (leftL W (D++[k]))).map V.int))=Gb at *
  refine seq_with (λ σ G'=>KeepB b A Gb G'/\BenAt CBench G' b A B L W (D++[k])/\σ=[some (.ref b),some (.ref scr),some (.int (W.C.length:Int)),some (.ref lf),some (.ref dn),some (.int (k:Int)),y6]) ?_ (λ R2 hR2=>?_)
  rotate_left
  ·wp_walk using tSeq,tIfS,inV,eqV,spkasked,spkstrange,rSlL
   have nb:¬badR W D 0 (k:Int):=nbad rfl (by omega) (by omega) (by rw [Int.toNat_natCast];exact km.2)
   refine ⟨A,B,L,W,D,hbB,λ z=>absurd z nb,λ _ H1 l k1 hb1 hl=>⟨small (by decide),λ p hp=>⟨_,.of (same_new hp _ _ _ hl),_,.of upd_same,rfl,rfl,?_⟩⟩⟩
   rw [Int.toNat_natCast] at hb1
   rw [eqTrue1,if_neg (by decide)]
   have hdn1:=k1 _ _ n2.1 n2.2.1 n2.2.2.1 n2.2.2.2.1 hdnB
   have dl:D.length≤512:=Nat.le_trans (bnd_len hbG.nd hbG.lt) c32
   refine ⟨_,.of (same_new hp _ _ _ hdn1),λ p1 hp1=>⟨small (by decide),λ p2 hp2=>⟨_,same_new hp2 _ _ _ upd_same,small (by have:=cutV_length ((natI D).map V.int) (some (-2)) none;rw [len_map,natI_len] at this;omega),λ p3 hp3=>?_⟩⟩⟩
   have s3:=(same_new hp (.lst [V.bl true])).trans ((same_new hp1 (.lst (cutV ((natI D).map V.int) (some (-2)) none))).trans ((same_new hp2 (.lst [V.int (k:Int)])).trans (same_new hp3 (.lst (cutV ((natI D).map V.int) (some (-2)) none++[V.int (k:Int)])))))
   exact ⟨_,A,B,L,W,rfl,rfl,D++[k],hb1.same s3,D.drop (D.length - 2)++[k],by rw [upd_same,last2],by rw [List.length_append,List.length_drop];simp only [List.length_cons,List.length_nil];omega,λ j hj=>by
    rcases List.mem_append.mp hj with z | z
    ·exact List.mem_append_left _ (List.mem_of_mem_drop z)
    ·exact List.mem_append_right _ z,λ G' sG=>hR2 _ _ ⟨λ a o m1 m2 m3 m4 e=>sG _ _ (s3 _ _ (k1 a o m1 m2 m3 m4 e)),hb1.same (s3.trans sG),rfl⟩⟩
  rintro σc Gc ⟨kc,hbC,rfl⟩
  have hlfC:=kc _ _ n1.1 n1.2.1 n1.2.2.1 n1.2.2.2.1 hlfB
  have hdnC:=kc _ _ n2.1 n2.2.1 n2.2.2.1 n2.2.2.2.1 hdnB
  refine seq_with (λ σ G'=>G'=upd Gc dn (.lst ((natI (D++[k])).map V.int))/\σ=[some (.ref b),some (.ref scr),some (.int (W.C.length:Int)),some (.ref lf),some (.ref dn),some (.int (k:Int)),y6]) ?_ (λ R2 hR2=>?_)
  rotate_left
  ·wp_walk using tSeq,tIfS,inV,eqV
   have dl:D.length≤512:=Nat.le_trans (bnd_len hbG.nd hbG.lt) c32
   exact ⟨⟨_,hdnC⟩,_,hdnC,small1000 (by rw [len_map,natI_len];omega),hR2 _ _ ⟨by unfold natI;rw [List.map_append,List.map_append];rfl,rfl⟩⟩
  rintro σd Gd ⟨rfl,rfl⟩
  have hbD:=hbC.wr (ys:=(natI (D++[k])).map V.int) hdnC nD
  have hlfD:upd Gc dn (.lst ((natI (D++[k])).map V.int)) lf=some (.lst ((natI (leftL W (D++[k]))).map V.int)):=by rw [upd_ne nld];exact hlfC
  have hdnD:upd Gc dn (.lst ((natI (D++[k])).map V.int)) dn=some (.lst ((natI (D++[k])).map V.int)):=upd_same
  have kD:KeepB b A H (upd Gc dn (.lst ((natI (D++[k])).map V.int))):=λ a o m1 m2 m3 m4 e=>by
   rw [upd_ne (λ z=>by rw [z,fd] at e;cases e)]
   exact kc _ _ m1 m2 m3 m4 (kB a o m1 m2 m3 m4 e)
  generalize upd Gc dn (.lst ((natI (D++[k])).map V.int))=Gd at *
  refine seq_with (λ σ G'=>∃tl ps,Same Gd G'/\Gd tl=none/\G' tl=some (.lst (ps.map V.ref))/\PrsAt G' ps (leftL W (D++[k]))/\σ=[some (.ref b),some (.ref scr),some (.int (W.C.length:Int)),some (.ref lf),some (.ref dn),some (.int (k:Int)),some (.ref tl)]) ?_ (λ R2 hR2=>?_)
  rotate_left
  ·wp_walk using tSeq,tIfS,inV,eqV,spbleft
   exact ⟨_,_,hbD.hb,rfl,A,B,L,W,D++[k],hbD,λ G1 l ps s1 f hl hp=>hR2 _ _ ⟨l,ps,s1,f,hl,hp,rfl⟩⟩
  rintro σe Ge ⟨tl,ps,se,ftl,htl,hps,rfl⟩
  refine seq_with (λ σ G'=>Same Ge G'/\σ=[some (.ref b),some (.ref scr),some (.int (W.C.length:Int)),some (.ref lf),some (.ref dn),some (.int (k:Int)),some (.ref tl)]) ?_ (λ R2 hR2=>?_)
  rotate_left
  ·wp_walk using tSeq,tIfS,inV,eqV,spbcalls
   refine ⟨_,htl,?_⟩
   have hlfE:=se _ _ hlfD
   have lf32:(leftL W (D++[k])).length≤512:=Nat.le_trans (left_le W _) c32
   refine CompL.mk (xs:=(natI (leftL W (D++[k]))).map V.int) (.of hlfE) (λ i ys σ G=>∃qs:List Addr,ys=qs.map V.ref/\Same Ge G/\PrsAt G qs ((leftL W (D++[k])).take i)/\∃y,σ=[y]) ⟨[],rfl,Same.refl _,⟨rfl,λ i k p e=>by simp at e⟩,_,rfl⟩ (λ i ys σ G _ ⟨_,_,sG,_⟩=>.of (sG _ _ hlfE)) (λ i x ys σ G ex h=>?_) (λ ys σ G h l7 h7=>?_)
   ·obtain ⟨qs,rfl,sG,hq,y,rfl⟩:=h
    obtain ⟨n,rfl,hn⟩:=int_at ex
    unfold natI at hn
    rw [List.getElem?_map] at hn
    obtain ⟨j,hj,rfl⟩:=Option.map_eq_some_iff.mp hn
    have ql:=hq.1
    rw [List.length_take] at ql
    refine ⟨small1000 (by rw [List.length_map];omega),?_⟩
    wp_walk using tSeq,tIfS,inV,eqV
    refine ⟨small (by decide),λ p hp=>⟨qs++[p],by rw [List.map_append];rfl,sG.trans (same_new hp _),?_,_,rfl⟩⟩
    rw [List.take_add_one,hj]
    exact (hq.mono (.of (same_new hp _))).snoc upd_same
   ·obtain ⟨qs,rfl,sG,hq,y,rfl⟩:=h
    rw [len_map,natI_len,List.take_length] at hq
    have s7:=sG.trans (same_new h7 (.lst (qs.map V.ref)))
    have sd7:=se.trans s7
    have hb7:=hbD.same sd7
    refine ⟨⟨_,rfl⟩,alk_prs (s7 _ _ htl) upd_same (hps.mono (.of s7)) (hq.mono (.of (same_new h7 _))),_,_,hb7.hb,rfl,A,B,L,W,D++[k],hb7,_,.inl (.of (sd7 _ _ hdnD)),?_⟩
    rw [len_map,natI_len,if_neg (λ z=>z rfl)]
    exact hR2 _ _ ⟨s7,rfl⟩
  rintro σf Gf ⟨sf,rfl⟩
  have sdf:=se.trans sf
  have htl':=sf _ _ htl
  have tf:=hbD.fr ftl
  have tne:∀ {a:Addr}{o:HO},Gd a=some o->a≠tl:=λ e z=>by rw [z,ftl] at e;cases e
  wp_walk using tSeq,tIfS,inV,eqV
  refine ⟨.inl ⟨_,.of htl'⟩,_,htl',_,?_,by rw [hJ];exact ⟨D++[k],_,_,rfl,λ a o m1 m2 m3 m4 e=>by rw [upd_ne (tne (kD a o m1 m2 m3 m4 e))];exact sdf _ _ (kD a o m1 m2 m3 m4 e),(hbD.same sdf).wr htl' ⟨tf.2.1,tf.2.2.2.1,tf.2.2.2.2.1,tf.2.2.2.2.2⟩,by rw [upd_ne (tne hlfD)];exact sdf _ _ hlfD,by rw [upd_ne (tne hdnD)];exact sdf _ _ hdnD,rfl⟩⟩
  rw [← left_pop hk,List.length_eraseIdx,if_pos il]
  omega
 rintro σ3 G3 ⟨D,y5,y6,k3,hb3,e3,h3,rfl⟩
 wp_walk using tSeq,tIfS,inV,eqV
 exact q _ D dn k3 hb3 e3 fd h3
abbrev slaw:Stmt:=top 53
theorem sclaw:FnScope ["script", "sides", "row", "size", "side", "cells", "more", "steps", "tree", "weft", "handed", "bench", "other", "done", "due", "told"] ["script"] (defScope slaw):=⟨rfl,rfl,rfl,by decide +kernel,rfl,by decide +kernel,by decide +kernel⟩
theorem oklaw (F:Fun K "law" "law" slaw f fd) {CBench:Addr}(nBench:PySem.W.nsIn K mainGlobals "Bench" = some (some (.ref CBench))) {CUnlike:Addr}(nUnlike:PySem.W.nsIn K mainGlobals "Unlike" = some (some (.ref CUnlike))) {CNotDone:Addr}(nNotDone:PySem.W.nsIn K mainGlobals "NotDone" = some (some (.ref CNotDone))) (clawsides:Callee P w K mg base CX0 (13) "_law_sides" ["row", "room"] splawsides) (clawat:Callee P w K mg base CX0 (13) "_law_at" ["row", "k"] (splawat K)) (clawfigure:Callee P w K mg base CX0 (13) "_law_figure" ["one"] splawfigure) (clawsteps:Callee P w K mg base CX0 (13) "_law_steps" ["sides"] splawsteps) (clawbench:Callee P w K mg base CX0 (13) "_law_bench" ["weft", "inputs"] spkbench) (clawdoneall:Callee P w K mg base CX0 (13) "_law_done_all" ["bench", "script", "size"] (spkall K CBench)) (clawstrange:Callee P w K mg base CX0 (13) "_law_strange" ["bench", "size", "done"] (spkstrange CBench)) (cBenchlogtold:CalM P w K mg base CX0 13 CBench "log_told" ["self"] (spblog CBench)) (cBenchstore:CalM P w K mg base CX0 13 CBench "store" ["self", "k"] (spbstore CBench)) (cBenchcallsmade:CalM P w K mg base CX0 13 CBench "calls_made" ["self"] (spbcalls CBench)) (cBenchanswerstold:CalM P w K mg base (CX1 P w) 13 CBench "answers_told" ["self"] (spbansw CBench CNotDone)) (cBenchleft:CalM P w K mg base CX0 13 CBench "left" ["self"] (spbleft CBench)) (cBenchinit:MakC P w K mg base (CX1 P w) 12 CBench "Bench" ["self", "weft", "inputs"] (spbinit CBench CUnlike)) (zlen:mg "len" = none) (zrange:mg "range" = none) (ztuple:mg "tuple" = none) (BC:BenCls K CBench):FnOk P w K mg base CX0 (14) f fd ["script"] ((splaw K)):=by
 have sc:=sclaw
 refine F.ok sc (λ vs H Q E h=>?_) (λ cdv A outer s H vs Q E hr h=>?_)
 ·obtain ⟨a,ns,rfl,_⟩:=h;rfl
 obtain ⟨a,ns,rfl,hS,h63,q⟩:=h
 refine ⟨_,(pss_cons (ps_set (i:=1) sc.nd rfl (by first | exact Or.inl rfl | exact Or.inr rfl) (pe_cal clawsides hr (by rfl) pass0 (pa_cons (pe_slice sl_list (pv 0) (po_some pe_int) (po_some (pe_op op_add pe_int (pe_op op_mod (pe_cal clawat hr (by rfl) pass0 (pa_cons (pv 0) (pa_cons pe_int pa_nil))) pe_int)))) (pa_cons pe_int pa_nil)))) (pss_cons (ps_set (i:=2) sc.nd rfl (by first | exact Or.inl rfl | exact Or.inr rfl) (pe_op op_catL (pv 0) (pe_lst (pa_cons pe_int pa_nil)))) (pss_cons (ps_set (i:=3) sc.nd rfl (by first | exact Or.inl rfl | exact Or.inr rfl) pe_int) (pss_cons (ps_for PassesOwn.never rfl (pi_tup (pv 1)) (pg_name (i:=4) sc.nd rfl (Or.inl rfl)) (pss_one (ps_set (i:=3) sc.nd rfl (by first | exact Or.inl rfl | exact Or.inr rfl) (pe_op op_mul (pv 3) (pv 4))))) (pss_cons (ps_set (i:=5) sc.nd rfl (by first | exact Or.inl rfl | exact Or.inr rfl) (pe_comp (own:=["k"]) (fv:=["row"]) (js:=[2]) rfl (pi_range1 (by rfl) zrange (pa_cons (pv 3) pa_nil)) rfl (by decide) rfl (by decide) (by first | exact λ _ _ h=>h | exact cl_sub1 rfl | exact cl_sub2 rfl rfl | exact cl_sub3 rfl rfl rfl) (has_of (by rfl)) rfl (cap1 (by first | exact ⟨rfl,.inl rfl,.inl rfl⟩ | exact ⟨rfl,.inl rfl,.inr rfl⟩)) (λ _ _ _ _=>(pg_name (i:=0) (show (["k", "row"]:List Str).Nodup by decide +kernel) rfl (Or.inl rfl))) (λ _ _ _ _=>(pe_cal clawfigure hr (by rfl) pass0 (pa_cons (pe_op op_add (pe_ix ix_listH (pv 1) (pe_op op_modN (pv 0) (pe_callB (call_lenK (K:=K) rfl) (by rfl) zlen PySem.boot_len (pa_cons (pv 1) pa_nil))) (λ _ _=>rfl)) (pe_op op_fdivW (pv 0) (pe_callB (call_lenK (K:=K) rfl) (by rfl) zlen PySem.boot_len (pa_cons (pv 1) pa_nil)))) pa_nil))))) (pss_cons (ps_set (i:=6) sc.nd rfl (by first | exact Or.inl rfl | exact Or.inr rfl) (pe_cal clawfigure hr (by rfl) pass0 (pa_cons (pe_cal clawat hr (by rfl) pass0 (pa_cons (pv 0) (pa_cons pe_int pa_nil))) pa_nil))) (pss_cons (ps_set (i:=7) sc.nd rfl (by first | exact Or.inl rfl | exact Or.inr rfl) (pe_cal clawsteps hr (by rfl) pass0 (pa_cons (pv 1) pa_nil))) (pss_cons (ps_set (i:=8) sc.nd rfl (by first | exact Or.inl rfl | exact Or.inr rfl) (pe_tup (pa_cons pe_str (pa_cons pe_str (pa_tup (pe_tup (pa_cons pe_str (pa_cons pe_int (pa_cons (pe_op op_sub (pv 3) pe_int) (pa_cons (pe_callTy call_tuple_of (by rfl) ztuple boot_tuple (pa_cons (pe_comp0 (own:=["one"]) rfl (pi_tup (pv 7)) (by decide) (by decide) rfl (by decide) (λ _ _ _ _=>(pg_name (i:=0) (show (["one"]:List Str).Nodup by decide +kernel) rfl (Or.inl rfl))) (λ _ _ _ _=>(pe_op op_sub pe_int (pv 0)))) pa_nil)) pa_nil))))) (pa_tup (pe_tup (pa_cons pe_str (pa_cons (pv 6) pa_nil))) pa_nil)))))) (pss_cons (ps_set (i:=9) sc.nd rfl (by first | exact Or.inl rfl | exact Or.inr rfl) (pe_tup (pa_tup (pe_tup (pa_tup (pe_tup (pa_cons pe_int (pa_cons (pv 3) pa_nil))) (pa_tup (pe_tup (pa_cons pe_int (pa_cons (pv 3) pa_nil))) pa_nil))) (pa_tup (pe_tup (pa_tup (pe_tup (pa_cons pe_str (pa_cons pe_int (pa_cons (pv 1) (pa_cons pe_int (pa_cons (pv 7) (pa_cons (pv 8) pa_nil))))))) pa_nil)) (pa_tup (pe_tup (pa_tup (pe_tup (pa_cons pe_int (pa_cons (pv 1) pa_nil))) pa_nil)) pa_nil))))) (pss_cons (ps_set (i:=10) sc.nd rfl (by first | exact Or.inl rfl | exact Or.inr rfl) (pe_tup (pa_tup (pe_tup (pa_cons (pv 1) (pa_cons (pe_callTy call_tuple_of (by rfl) ztuple boot_tuple (pa_cons (pv 5) pa_nil)) pa_nil))) pa_nil))) (pss_cons (ps_if (PW.pt (pw_or (pt_cmpR op_notN (pe_cal clawbench hr (by rfl) pass0 (pa_cons (pv 9) (pa_cons (pe_op op_catS (pv 10) (pv 10)) pa_nil))) pe_non (nomark _)) (pw_or1 (pt_cmpR op_notN (pe_cal clawbench hr (by rfl) pass0 (pa_cons (pv 9) (pa_tup (pe_tup pa_nil) pa_nil))) pe_non (nomark _))))) (pss_one (ps_ret pe_bl)) pss_nil) (pss_cons (ps_if (pt_cmpR op_notN (pe_cal clawbench hr (by rfl) pass0 (pa_cons (pv 9) (pa_tup (pe_tup (pa_tup (pe_tup (pa_tup (pe_tup (pa_cons (pe_op op_add (pv 3) pe_int) pa_nil)) (pa_cons (pe_op op_catS (pe_callTy call_tuple_of (by rfl) ztuple boot_tuple (pa_cons (pv 5) pa_nil)) (pe_tup (pa_cons pe_int pa_nil))) pa_nil))) pa_nil)) pa_nil))) pe_non (nomark _)) (pss_one (ps_ret pe_bl)) pss_nil) (pss_cons (ps_if (PW.pt (pw_and (pt_cmpR op_gt (pv 3) pe_int (nomark _)) (pw_and1 (pt_cmpR op_notN (pe_cal clawbench hr (by rfl) pass0 (pa_cons (pv 9) (pa_tup (pe_tup (pa_tup (pe_tup (pa_tup (pe_tup (pa_cons (pe_op op_sub (pv 3) pe_int) pa_nil)) (pa_cons (pe_callTy call_tuple_of (by rfl) ztuple boot_tuple (pa_cons (pe_slice sl_list (pv 5) (po_some pe_int) po_none) pa_nil)) pa_nil))) pa_nil)) pa_nil))) pe_non (nomark _))))) (pss_one (ps_ret pe_bl)) pss_nil) (pss_cons (ps_set (i:=11) sc.nd rfl (by first | exact Or.inl rfl | exact Or.inr rfl) (pe_mak cBenchinit hr (by rfl) passNo (pa_cons (pv 9) (pa_cons (pv 10) pa_nil)))) (pss_cons (ps_set (i:=12) sc.nd rfl (by first | exact Or.inl rfl | exact Or.inr rfl) (pe_mak cBenchinit hr (by rfl) passNo (pa_cons (pv 9) (pa_cons (pv 10) pa_nil)))) (pss_cons (ps_set (i:=13) sc.nd rfl (by first | exact Or.inl rfl | exact Or.inr rfl) (pe_cal clawdoneall hr (by rfl) pass0 (pa_cons (pv 11) (pa_cons (pv 0) (pa_cons (pv 3) pa_nil))))) (pss_cons (ps_if (PW.pt (pw_or (pt_cmpR op_isN (pv 13) pe_non (nomark _)) (pw_or1 (pt_not (pt_val (pe_cal clawstrange hr (by rfl) pass0 (pa_cons (pv 11) (pa_cons (pv 3) (pa_cons (pe_slice sl_list (pv 13) (po_some (pe_un un_neg pe_int)) po_none) pa_nil))))))))) (pss_one (ps_ret pe_bl)) pss_nil) (pss_cons (ps_set (i:=14) sc.nd rfl (by first | exact Or.inl rfl | exact Or.inr rfl) (pe_comp (own:=["k"]) (fv:=["more", "cells", "size"]) (js:=[6,5,3]) rfl (pi_range1 (by rfl) zrange (pa_cons (pv 3) pa_nil)) rfl (by decide) rfl (by decide) (by first | exact λ _ _ h=>h | exact cl_sub1 rfl | exact cl_sub2 rfl rfl | exact cl_sub3 rfl rfl rfl) (has_of (by rfl)) rfl (cap3 (by first | exact ⟨rfl,.inl rfl,.inl rfl⟩ | exact ⟨rfl,.inl rfl,.inr rfl⟩) (by first | exact ⟨rfl,.inl rfl,.inl rfl⟩ | exact ⟨rfl,.inl rfl,.inr rfl⟩) (by first | exact ⟨rfl,.inl rfl,.inl rfl⟩ | exact ⟨rfl,.inl rfl,.inr rfl⟩)) (λ _ _ _ _=>(pg_name (i:=0) (show (["k", "more", "cells", "size"]:List Str).Nodup by decide +kernel) rfl (Or.inl rfl))) (λ _ _ _ _=>(pe_op op_xor (pe_ix ix_listH (pv 2) (pe_op op_sub (pe_op op_sub (pv 3) pe_int) (pv 0)) (λ _ _=>rfl)) (pv 1))))) (pss_cons (ps_set (i:=15) sc.nd rfl (by first | exact Or.inl rfl | exact Or.inr rfl) (pe_met0 BC.cl cBenchlogtold hr pass0 (pv 11))) (pss_cons (ps_if (PW.pt (pw_or (pt_cmpR (op_neD (hu20 hr)) (pv 15) (pe_comp (own:=["k"]) (fv:=["due"]) (js:=[14]) rfl (pi_list (pv 13)) rfl (by decide) rfl (by decide) (by first | exact λ _ _ h=>h | exact cl_sub1 rfl | exact cl_sub2 rfl rfl | exact cl_sub3 rfl rfl rfl) (has_of (by rfl)) rfl (cap1 (by first | exact ⟨rfl,.inl rfl,.inl rfl⟩ | exact ⟨rfl,.inl rfl,.inr rfl⟩)) (λ _ _ _ _=>(pg_name (i:=0) (show (["k", "due"]:List Str).Nodup by decide +kernel) rfl (Or.inl rfl))) (λ _ _ _ _=>(pe_tup (pa_cons pe_int (pa_cons (pv 0) (pa_cons pe_int (pa_cons (pv 0) (pa_cons (pe_ix ix_listH (pv 1) (pv 0) (λ _ _=>rfl)) pa_nil)))))))) (nomark _)) (pw_or (pt_cmpR (op_neL hr.units0) (pe_met BC.cl cBenchstore hr pass0 (pv 11) (pa_cons pe_int pa_nil)) (pv 14) (nomark _)) (pw_or1 (pt_cmpR (op_neL hr.units0) (pe_met BC.cl cBenchstore hr pass0 (pv 11) (pa_cons pe_int pa_nil)) (pv 5) (nomark _)))))) (pss_one (ps_ret pe_bl)) pss_nil) (pss_cons (ps_expr (pe_bm0 PySem.F.plainAttrs_list PySem.F.slot_list_clear PySem.F.type_list_clear mr_clear (pv 15))) (pss_cons (ps_expr (pe_bm0 PySem.F.plainAttrs_list PySem.F.slot_list_clear PySem.F.type_list_clear mr_clear (pe_met BC.cl cBenchstore hr pass0 (pv 11) (pa_cons pe_int pa_nil)))) (pss_cons (ps_if (PW.pt (pw_or (pt_cmpR op_ne (pe_callB call_len_seq (by rfl) zlen PySem.boot_len (pa_cons (pe_met0 BC.cl cBenchlogtold hr pass0 (pv 11)) pa_nil)) (pv 3) (nomark _)) (pw_or (pt_cmpR (op_neL hr.units0) (pe_met BC.cl cBenchstore hr pass0 (pv 11) (pa_cons pe_int pa_nil)) (pv 14) (nomark _)) (pw_or1 (pt_cmpR op_ne (pe_met0 BC.cl cBenchcallsmade hr pass0 (pv 11)) (pv 3) (nomark _)))))) (pss_one (ps_ret pe_bl)) pss_nil) (pss_cons (ps_if (PW.pt (pw_or (pt_cmpR (op_neD (hu20 hr)) (pe_met0 BC.cl cBenchanswerstold hr passNo (pv 11)) (pe_tup (pa_tup (pe_tup (pa_cons (pv 1) (pa_cons (pe_callTy call_tuple_of (by rfl) ztuple boot_tuple (pa_cons (pv 14) pa_nil)) pa_nil))) pa_nil)) (nomark _)) (pw_or1 (pt_cmpR (op_neL hr.units0) (pe_met0 BC.cl cBenchleft hr pass0 (pv 11)) (pe_lst pa_nil) (nomark _))))) (pss_one (ps_ret pe_bl)) pss_nil) (pss_one (ps_ret (pe_and (pe_cmpR (op_eqD (hu20 hr)) (pe_met0 BC.cl cBenchleft hr pass0 (pv 12)) (pe_comp0 (own:=["k"]) rfl (pi_range1 (by rfl) zrange (pa_cons (pv 3) pa_nil)) (by decide) (by decide) rfl (by decide) (λ _ _ _ _=>(pg_name (i:=0) (show (["k"]:List Str).Nodup by decide +kernel) rfl (Or.inl rfl))) (λ _ _ _ _=>(pe_tup (pa_cons pe_int (pa_cons (pv 0) pa_nil))))) (nomark _)) (pe_and (pe_cmpR (op_eqL hr.units0) (pe_met BC.cl cBenchstore hr pass0 (pv 12) (pa_cons pe_int pa_nil)) (pe_op op_rep (pe_lst (pa_cons pe_non pa_nil)) (pv 3)) (nomark _)) (pe_one (pe_cmpR (op_eqL hr.units0) (pe_met0 BC.cl cBenchlogtold hr pass0 (pv 12)) (pe_lst pa_nil) (nomark _))))))))))))))))))))))))))))))),?_⟩
 simp only [L2.start,List.length_cons,List.length_nil,List.replicate,List.cons_append,List.nil_append,Nat.reduceSub,Nat.reduceAdd,List.map_cons,List.map_nil]
 refine seq_with (λ σ G=>∃(p:Addr) (S:List Int),Same H G/\fit S/\(∀s∈S,s≤32)/\S.length≤4/\G p=some (.tup (S.map V.int))/\σ=[some (.ref a),some (.ref p),none,none,none,none,none,none,none,none,none,none,none,none,none,none]) ?_ (λ R hR=>?_)
 rotate_left
 ·wp_walk using tSeq,tIfS,inV,eqV,splawat,splawsides,rSlL
  obtain ⟨ms,e,l4⟩:=cut4 ns (cellI ns 0 % 4) (by omega) (by omega)
  exact ⟨ns,0,rfl,hS,_,hS,λ l hl=>⟨ms,e,l4,λ G' p S s f b h4 hp=>hR _ _ ⟨p,S,(same_new hl _).trans s,f,b,h4,hp,rfl⟩⟩⟩
 rintro σ1 G1 ⟨p,S,s1,hf,h32,h4,hp,rfl⟩
 refine seq_with (λ σ G=>∃rw_,Same G1 G/\G rw_=some (.lst ((ns++[9]).map V.int))/\σ=[some (.ref a),some (.ref p),some (.ref rw_),none,none,none,none,none,none,none,none,none,none,none,none,none]) ?_ (λ R hR=>?_)
 rotate_left
 ·wp_walk using tSeq,tIfS,inV,eqV
  exact ⟨small (by decide),λ p1 hp1=>⟨_,(s1.trans (same_new hp1 _)).seq hS,_,.of upd_same,small (by rw [len_map];simp only [List.length_cons,List.length_nil];omega),λ p2 hp2=>hR _ _ ⟨p2,(same_new hp1 _).trans (same_new hp2 _),by rw [upd_same,List.map_append];rfl,rfl⟩⟩⟩
 rintro σ2 G2 ⟨rw_,s2,hrw,rfl⟩
 have sd:sdOk S:=sm_sd (sm_fit hf)
 have nn:∀n∈S,0≤n:=λ n hn=>(sd n hn).1
 have pp:=prod_one_le nn
 have p5:=hf.2.2.2
 obtain ⟨n,hn⟩:∃n:Nat,prodI S=(n:Int):=⟨(prodI S).toNat,by omega⟩
 refine seq_with (λ σ G=>G=G2/\σ=[some (.ref a),some (.ref p),some (.ref rw_),some (.int 1),none,none,none,none,none,none,none,none,none,none,none,none]) ?_ (λ R hR=>?_)
 rotate_left
 ·wp_walk using tSeq,tIfS,inV,eqV
  exact hR _ _ ⟨rfl,rfl⟩
 rintro σ3 G3 ⟨rfl,rfl⟩
 refine seq_with (λ σ G=>∃y4,G=G3/\σ=[some (.ref a),some (.ref p),some (.ref rw_),some (.int (prodI S)),y4,none,none,none,none,none,none,none,none,none,none,none]) ?_ (λ R hR=>?_)
 rotate_left
 ·wp_walk using tSeq,tIfS,inV,eqV
  refine LoopT.mk (xs:=S.map V.int) (.of (s2 _ _ hp)) (λ i σ G=>G=G3/\∃y,σ=[some (.ref a),some (.ref p),some (.ref rw_),some (.int (prodI (S.take i))),y,none,none,none,none,none,none,none,none,none,none,none]) ⟨rfl,_,rfl⟩ (λ i σ G _ h=>by rw [h.1];exact .of (s2 _ _ hp)) (λ i x σ G e h=>?_) (λ σ G h=>?_)
  ·obtain ⟨rfl,y,rfl⟩:=h
   obtain ⟨m,rfl,hm,m0,m1⟩:=sd_at sd e
   wp_walk using tSeq,tIfS,inV,eqV
   rw [prod_step hm]
   exact ⟨.inr ⟨by omega,by omega⟩,rfl,_,rfl⟩
  ·obtain ⟨rfl,y,rfl⟩:=h
   rw [len_map,List.take_length]
   exact hR _ _ ⟨_,rfl,rfl⟩
 rintro σ4 G4 ⟨y4,rfl,rfl⟩
 have s14:=s1.trans s2
 have hp4:=s2 _ _ hp
 refine seq_with (λ σ G=>∃(cl:Addr) (C:List Int),Same G4 G/\G cl=some (.lst (C.map V.int))/\C.length=n/\(∀c∈C,inB c)/\σ=[some (.ref a),some (.ref p),some (.ref rw_),some (.int (prodI S)),y4,some (.ref cl),none,none,none,none,none,none,none,none,none,none]) ?_ (λ R hR=>?_)
 rotate_left
 ·wp_walk using tSeq,tIfS,inV,eqV,splawfigure
  rw [hn]
  refine ⟨by omega,by omega,?_⟩
  rw [Int.toNat_natCast]
  refine CompR.mk (λ i ys σ G=>Same G4 G/\(∃C:List Int,ys=C.map V.int/\C.length=i/\∀c∈C,inB c)/\∃y,σ=[y,some (.ref rw_)]) ⟨Same.refl _,⟨[],rfl,rfl,λ c hc=>nomatch hc⟩,_,rfl⟩ (λ i ys σ G hi h=>?_) (λ ys σ G h l hl=>?_)
  ·obtain ⟨sG,⟨C,rfl,cl,hC⟩,y,rfl⟩:=h
   refine ⟨small1000 (by rw [len_map];omega),?_⟩
   wp_walk using tSeq,tIfS,inV,eqV,splawfigure
   have hr':=sG _ _ hrw
   have rl:((ns++[9]).map V.int).length=ns.length+1:=by rw [len_map,List.length_append];rfl
   obtain ⟨j,ej,jl⟩:∃j:Nat,((0:Int)+(i:Int)).fmod (((ns++[9]).map V.int).length:Int)=(j:Int)/\j < (ns++[9]).length:=by
    rw [rl,fm_em _ (by omega)]
    exact ⟨i % (ns.length+1),by rw [Int.zero_add];exact (Int.natCast_emod _ _).symm,by rw [List.length_append];exact Nat.mod_lt _ (Nat.succ_pos _)⟩
   exact ⟨_,.inl (.of hr'),by rw [rl];omega,_,hr',.int ((ns++[9])[j]),by rw [ej];exact atI_nat (by rw [List.getElem?_map,List.getElem?_eq_getElem jl];rfl),_,.inl (.of hr'),by rw [rl];omega,by rw [rl];omega,by rw [rl];omega,_,rfl,λ G' s'=>⟨sG.trans s',cell_snoc cl hC,_,rfl⟩⟩
  ·obtain ⟨sG,⟨C,rfl,cl,hC⟩,y,rfl⟩:=h
   exact hR _ _ ⟨l,C,sG.trans (same_new hl _),upd_same,cl,hC,by rw [hn]⟩
 rintro σ5 G5 ⟨cl,C,s5,hcl,cn,hC,rfl⟩
 refine seq_with (λ σ G=>∃mo:Int,Same G5 G/\inB mo/\σ=[some (.ref a),some (.ref p),some (.ref rw_),some (.int (prodI S)),y4,some (.ref cl),some (.int mo),none,none,none,none,none,none,none,none,none]) ?_ (λ R hR=>?_)
 rotate_left
 ·wp_walk using tSeq,tIfS,inV,eqV,splawfigure,splawat
  exact ⟨ns,4,rfl,(s14.trans s5).seq hS,λ G' s'=>hR _ _ ⟨_,s',fig_in _,rfl⟩⟩
 rintro σ6 G6 ⟨mo,s6,hmo,rfl⟩
 have s46:=s5.trans s6
 refine seq_with (λ σ G=>∃st,Same G6 G/\G st=some (.tup (((stL S S.length).reverse).map V.int))/\σ=[some (.ref a),some (.ref p),some (.ref rw_),some (.int (prodI S)),y4,some (.ref cl),some (.int mo),some (.ref st),none,none,none,none,none,none,none,none]) ?_ (λ R hR=>?_)
 rotate_left
 ·wp_walk using tSeq,tIfS,inV,eqV,splawsteps
  exact ⟨S,s46 _ _ hp4,sd,by omega,λ G' p' s' h'=>hR _ _ ⟨p',s',h',rfl⟩⟩
 rintro σ7 G7 ⟨st,s7,hst,rfl⟩
 obtain ⟨T,hT⟩:∃T,T=(stL S S.length).reverse:=⟨_,rfl⟩
 rw [← hT] at hst
 have tl:T.length=S.length:=by rw [hT];simp [stL]
 have s47:=s46.trans s7
 refine seq_with (λ σ G=>∃tr rd nm ng,Same G7 G/\G tr=some (.tup [.str (Str.ofString "pair"),.str (Str.ofString "xor"),.ref rd,.ref nm])/\G rd=some (.tup [.str (Str.ofString "read"),.int 0,.int ((n:Int) - 1),.ref ng])/\G nm=some (.tup [.str (Str.ofString "num"),.int mo])/\G ng=some (.tup ((T.map λ x=>0 - x).map V.int))/\σ=[some (.ref a),some (.ref p),some (.ref rw_),some (.int (prodI S)),y4,some (.ref cl),some (.int mo),some (.ref st),some (.ref tr),none,none,none,none,none,none,none]) ?_ (λ R hR=>?_)
 rotate_left
 ·wp_walk using tSeq,tIfS,inV,eqV
  refine CompT.mk (xs:=T.map V.int) (.of hst) (λ i ys σ G=>G=G7/\ys=((T.take i).map λ x=>0 - x).map V.int/\∃y,σ=[y]) ⟨rfl,rfl,_,rfl⟩ (λ i ys σ G _ h=>by rw [h.1];exact .of hst) (λ i x ys σ G ex h=>?_) (λ ys σ G h l hl=>?_)
  ·obtain ⟨rfl,rfl,y,rfl⟩:=h
   obtain ⟨m,rfl,hm⟩:=int_at ex
   refine ⟨small1000 (by rw [len_map,List.length_map,List.length_take];omega),?_⟩
   wp_walk using tSeq,tIfS,inV,eqV
   exact ⟨by rw [List.take_add_one,hm,List.map_append,List.map_append];rfl,_,rfl⟩
  ·obtain ⟨rfl,rfl,y,rfl⟩:=h
   rw [len_map,List.take_length]
   exact ⟨l,rfl,_,.inl ⟨.of upd_same,λ t ht=>⟨small (by decide),λ p2 h2=>⟨small (by decide),λ p3 h3=>⟨small (by decide),λ p4 h4'=>hR _ _ ⟨p4,p2,p3,t,(same_new hl _).trans ((same_new ht _).trans ((same_new h2 _).trans ((same_new h3 _).trans (same_new h4' _)))),upd_same,by rw [← hn];exact same_new h4' _ _ _ (same_new h3 _ _ _ upd_same),same_new h4' _ _ _ upd_same,same_new h4' _ _ _ (same_new h3 _ _ _ (same_new h2 _ _ _ upd_same)),rfl⟩⟩⟩⟩⟩⟩
 rintro σ8 G8 ⟨tr,rd,nm,ng,s8,htr,hrd,hnm,hng,rfl⟩
 have s48:=s47.trans s8
 refine seq_with (λ σ G=>∃w st0 lo ou a0 a1 lp o1,Same G8 G/\G w=some (.tup [.ref st0,.ref lo,.ref ou])/\G st0=some (.tup [.ref a0,.ref a1])/\G a0=some (.tup [.int 0,.int (n:Int)])/\G a1=some (.tup [.int 1,.int (n:Int)])/\G lo=some (.tup [.ref lp])/\G lp=some (.tup [.str (Str.ofString "fill"),.int 1,.ref p,.int 0,.ref st,.ref tr])/\G ou=some (.tup [.ref o1])/\G o1=some (.tup [.int 1,.ref p])/\σ=[some (.ref a),some (.ref p),some (.ref rw_),some (.int (prodI S)),y4,some (.ref cl),some (.int mo),some (.ref st),some (.ref tr),some (.ref w),none,none,none,none,none,none]) ?_ (λ R hR=>?_)
 rotate_left
 ·wp_walk using tSeq,tIfS,inV,eqV
  exact ⟨small (by decide),λ p1 h1=>⟨small (by decide),λ p2 h2=>⟨small (by decide),λ p3 h3=>⟨small (by decide),λ p4 h4=>⟨small (by decide),λ p5 h5=>⟨small (by decide),λ p6 h6=>⟨small (by decide),λ p7 h7=>⟨small (by decide),λ p8 h8=>hR _ _ ⟨p8,p3,p5,p7,p1,p2,p4,p6,(same_new h1 _).trans ((same_new h2 _).trans ((same_new h3 _).trans ((same_new h4 _).trans ((same_new h5 _).trans ((same_new h6 _).trans ((same_new h7 _).trans (same_new h8 _))))))),upd_same,same_new h8 _ _ _ (same_new h7 _ _ _ (same_new h6 _ _ _ (same_new h5 _ _ _ (same_new h4 _ _ _ upd_same)))),by rw [← hn];exact same_new h8 _ _ _ (same_new h7 _ _ _ (same_new h6 _ _ _ (same_new h5 _ _ _ (same_new h4 _ _ _ (same_new h3 _ _ _ (same_new h2 _ _ _ upd_same)))))),by rw [← hn];exact same_new h8 _ _ _ (same_new h7 _ _ _ (same_new h6 _ _ _ (same_new h5 _ _ _ (same_new h4 _ _ _ (same_new h3 _ _ _ upd_same))))),same_new h8 _ _ _ (same_new h7 _ _ _ (same_new h6 _ _ _ upd_same)),same_new h8 _ _ _ (same_new h7 _ _ _ (same_new h6 _ _ _ (same_new h5 _ _ _ upd_same))),same_new h8 _ _ _ upd_same,same_new h8 _ _ _ (same_new h7 _ _ _ upd_same),rfl⟩⟩⟩⟩⟩⟩⟩⟩⟩
 rintro σ9 G9 ⟨w,st0,lo,ou,a0,a1,lp,o1,s9,b1,b2,b3,b4,b5,b6,b7,b8,rfl⟩
 have s49:=s48.trans s9
 have s59:=s6.trans (s7.trans (s8.trans s9))
 obtain ⟨B,hB⟩:∃B:WA,B=⟨st0,lo,ou,a0,a1,lp,o1⟩:=⟨_,rfl⟩
 obtain ⟨L,hL⟩:∃L:LA,L=⟨p,st,tr,rd,nm,ng⟩:=⟨_,rfl⟩
 obtain ⟨W,hW⟩:∃W:Wf,W=⟨S,T,C,mo⟩:=⟨_,rfl⟩
 have hw:WeftAt G9 w B L W:=by
  rw [hB,hL,hW]
  exact weft_mk cn b1 b2 b3 b4 b5 b6 b7 b8 (s49 _ _ hp4) ((s8.trans s9) _ _ hst) (s9 _ _ htr) (s9 _ _ hrd) (s9 _ _ hnm) (s9 _ _ hng)
 have ok:WfOk W:=by
  rw [hW]
  exact wf_mk cn hn (by omega) sd h4 h32 hT hC hmo
 have WC:W.C=C:=by rw [hW]
 have WS:W.S=S:=by rw [hW]
 have Wmo:W.mo=mo:=by rw [hW]
 have Lsd:L.sd=p:=by rw [hL]
 have Wn:prodI S=(W.C.length:Int):=by rw [WC,cn];exact hn
 have w5:W.C.length≤512:=ok.2.2.2.2.1
 refine seq_with (λ σ G=>∃hd tb ca,Same G9 G/\G hd=some (.tup [.ref tb])/\G tb=some (.tup [.ref p,.ref ca])/\G ca=some (.tup (C.map V.int))/\σ=[some (.ref a),some (.ref p),some (.ref rw_),some (.int (prodI S)),y4,some (.ref cl),some (.int mo),some (.ref st),some (.ref tr),some (.ref w),some (.ref hd),none,none,none,none,none]) ?_ (λ R hR=>?_)
 rotate_left
 ·wp_walk using tSeq,tIfS,inV,eqV
  exact ⟨_,.inl ⟨.of (s59 _ _ hcl),λ l hl=>⟨small (by decide),λ p1 h1=>⟨small (by decide),λ p2 h2=>hR _ _ ⟨p2,p1,l,(same_new hl _).trans ((same_new h1 _).trans (same_new h2 _)),upd_same,same_new h2 _ _ _ upd_same,same_new h2 _ _ _ (same_new h1 _ _ _ upd_same),rfl⟩⟩⟩⟩⟩
 rintro σ10 G10 ⟨hd,tb,ca,s10,e1,e2,e3,rfl⟩
 rw [Wn]
 have hw10:=hw.up (.of s10)
 have hi:InpAt G10 hd W True:=⟨[tb],e1,by simp,.inr ⟨tb,p,ca,C,rfl,e2,e3,by rw [cn];omega,.inr ⟨WC.symm,trivial⟩⟩⟩
 have hc10:G10 cl=some (.lst (W.C.map V.int)):=by rw [WC];exact (s59.trans s10) _ _ hcl
 have s110:=s1.trans (s2.trans (s49.trans s10))
 refine seq_with (λ σ G=>Same G10 G/\σ=[some (.ref a),some (.ref p),some (.ref rw_),some (.int (W.C.length:Int)),y4,some (.ref cl),some (.int mo),some (.ref st),some (.ref tr),some (.ref w),some (.ref hd),none,none,none,none,none]) ?_ (λ R hR=>?_)
 rotate_left
 ·wp_walk using tSeq,tIfS,inV,eqV,spkbench
  exact ⟨_,e1,_,e1,small (by show (2:Nat)≤_;decide),λ r G' s' hr'=>⟨B,L,W,hw10.up (.of s'),ok,⟨[tb,tb],hr',by simp,.inl ⟨by simp,id⟩⟩,λ G1 t1=>⟨small (by decide),λ p1 h1=>⟨B,L,W,hw10.up (.of (s'.trans (t1.trans (same_new h1 _)))),ok,⟨[],upd_same,by simp,.inl ⟨by simp,id⟩⟩,λ G2 t2=>hR _ _ ⟨s'.trans (t1.trans ((same_new h1 _).trans t2)),rfl⟩⟩⟩⟩⟩
 rintro σ11 G11 ⟨s11,rfl⟩
 refine seq_with (λ σ G=>Same G11 G/\σ=[some (.ref a),some (.ref p),some (.ref rw_),some (.int (W.C.length:Int)),y4,some (.ref cl),some (.int mo),some (.ref st),some (.ref tr),some (.ref w),some (.ref hd),none,none,none,none,none]) ?_ (λ R hR=>?_)
 rotate_left
 ·wp_walk using tSeq,tIfS,inV,eqV,spkbench
  exact ⟨small (by decide),λ p1 h1=>⟨_,.inl ⟨.of (same_new h1 _ _ _ (s11 _ _ hc10)),λ l hl=>⟨small (by decide),λ p2 h2=>⟨_,same_new h2 _ _ _ upd_same,small (by rw [len_map];omega),λ r G' s' hr'=>⟨small (by decide),λ p3 h3=>⟨small (by decide),λ p4 h4'=>⟨B,L,W,hw10.up (.of (s11.trans ((same_new h1 _).trans ((same_new hl _).trans ((same_new h2 _).trans (s'.trans ((same_new h3 _).trans (same_new h4' _)))))))),ok,⟨[p3],upd_same,by simp,.inr ⟨p3,p1,r,W.C++[0],rfl,same_new h4' _ _ _ upd_same,same_new h4' _ _ _ (same_new h3 _ _ _ (by rw [List.map_append];exact hr')),by rw [List.length_append];show W.C.length+1≤600;omega,.inl ⟨by rw [List.length_append];show W.C.length+1≠W.C.length;omega,id⟩⟩⟩,λ G1 t1=>hR _ _ ⟨((same_new h1 _).trans ((same_new hl _).trans ((same_new h2 _).trans (s'.trans ((same_new h3 _).trans (same_new h4' _)))))).trans t1,rfl⟩⟩⟩⟩⟩⟩⟩⟩⟩
 rintro σ12 G12 ⟨s12,rfl⟩
 refine seq_with (λ σ G=>Same G12 G/\σ=[some (.ref a),some (.ref p),some (.ref rw_),some (.int (W.C.length:Int)),y4,some (.ref cl),some (.int mo),some (.ref st),some (.ref tr),some (.ref w),some (.ref hd),none,none,none,none,none]) ?_ (λ R hR=>?_)
 rotate_left
 ·wp_walk using tSeq,tIfS,inV,eqV,spkbench,rSlL
  by_cases c:0 < (W.C.length:Int)
  ·rw [if_pos c]
   obtain ⟨xs,ex,xl⟩:=cut_tail W.C (by omega)
   exact ⟨small (by decide),λ p1 h1=>⟨_,.of (same_new h1 _ _ _ (s12 _ _ (s11 _ _ hc10))),λ l0 hl0=>⟨_,.inl ⟨.of upd_same,λ l hl=>⟨small (by decide),λ p3 h3=>⟨small (by decide),λ p4 h4'=>⟨B,L,W,hw10.up (.of (s11.trans (s12.trans ((same_new h1 _).trans ((same_new hl0 _).trans ((same_new hl _).trans ((same_new h3 _).trans (same_new h4' _)))))))),ok,⟨[p3],upd_same,by simp,.inr ⟨p3,p1,l,xs,rfl,same_new h4' _ _ _ upd_same,same_new h4' _ _ _ (same_new h3 _ _ _ (by rw [← ex];exact upd_same)),by omega,.inl ⟨by omega,id⟩⟩⟩,λ G1 t1=>hR _ _ ⟨((same_new h1 _).trans ((same_new hl0 _).trans ((same_new hl _).trans ((same_new h3 _).trans (same_new h4' _))))).trans t1,rfl⟩⟩⟩⟩⟩⟩⟩⟩
  ·rw [if_neg c]
   exact hR _ _ ⟨Same.refl _,rfl⟩
 rintro σ13 G13 ⟨s13,rfl⟩
 have t13:=s11.trans (s12.trans s13)
 have hw13:=hw10.up (.of t13)
 have hi13:=hi.same t13
 have hc13:=t13 _ _ hc10
 refine seq_with (λ σ G=>∃(b:Addr) (A:BA),Same G13 G/\G13 b=none/\G13 A.lc=none/\G13 A.c0=none/\G13 A.c1=none/\G13 A.d=none/\G13 A.lg=none/\BenAt CBench G b A B L W []/\σ=[some (.ref a),some (.ref p),some (.ref rw_),some (.int (W.C.length:Int)),y4,some (.ref cl),some (.int mo),some (.ref st),some (.ref tr),some (.ref w),some (.ref hd),some (.ref b),none,none,none,none]) ?_ (λ R hR=>?_)
 rotate_left
 ·wp_walk using tSeq,tIfS,inV,eqV,spbinit
  intro x dx hx hdx ne
  have s:=(same_new hdx (.own x)).trans (same_new (show upd G13 dx (.own x) x=none by rw [upd_ne (λ z=>ne z.symm)];exact hx) (.ins CBench dx []))
  exact ⟨dx,rfl,B,L,W,(hw13).up (.of s),ok,True,(hi13).same s,λ z=>absurd trivial z,λ _ G' A' k f1 f2 f3 f4 f5 hb'=>hR _ _ ⟨x,A',λ a o e=>k a o (λ z=>by rw [z,hx] at e;cases e) (s a o e),hx,s.free f1,s.free f2,s.free f3,s.free f4,s.free f5,hb',rfl⟩⟩
 rintro σ14 G14 ⟨b,A,s14b,fb,fa1,fa2,fa3,fa4,fa5,hb,rfl⟩
 refine seq_with (λ σ G=>∃(b2:Addr) (A2:BA),Same G14 G/\G14 b2=none/\G14 A2.lc=none/\G14 A2.c0=none/\G14 A2.c1=none/\G14 A2.d=none/\G14 A2.lg=none/\BenAt CBench G b2 A2 B L W []/\σ=[some (.ref a),some (.ref p),some (.ref rw_),some (.int (W.C.length:Int)),y4,some (.ref cl),some (.int mo),some (.ref st),some (.ref tr),some (.ref w),some (.ref hd),some (.ref b),some (.ref b2),none,none,none]) ?_ (λ R hR=>?_)
 rotate_left
 ·wp_walk using tSeq,tIfS,inV,eqV,spbinit
  intro x dx hx hdx ne
  have s:=(same_new hdx (.own x)).trans (same_new (show upd G14 dx (.own x) x=none by rw [upd_ne (λ z=>ne z.symm)];exact hx) (.ins CBench dx []))
  exact ⟨dx,rfl,B,L,W,(hw13.up (.of s14b)).up (.of s),ok,True,(hi13.same s14b).same s,λ z=>absurd trivial z,λ _ G' A' k f1 f2 f3 f4 f5 hb'=>hR _ _ ⟨x,A',λ a o e=>k a o (λ z=>by rw [z,hx] at e;cases e) (s a o e),hx,s.free f1,s.free f2,s.free f3,s.free f4,s.free f5,hb',rfl⟩⟩
 rintro σ15 G15 ⟨b2,A2,s15,fb2,fc1,fc2,fc3,fc4,fc5,hb2,rfl⟩
 have hb15:=hb.same s15
 have hs13:SqL K G13 a (ns.map V.int):=(s110.trans t13).seq hS
 have hsc:(∀G,SqL K G a (ns.map V.int))\/(a≠A.c1/\a≠A.lg):=by
  rcases hs13 with (h | ⟨o,h⟩) | h
  ·exact .inr ⟨λ z=>(by rw [z,fa3] at h;cases h),λ z=>(by rw [z,fa5] at h;cases h)⟩
  ·exact .inr ⟨λ z=>(by rw [z,fa3] at h;cases h),λ z=>(by rw [z,fa5] at h;cases h)⟩
  ·exact .inl λ G=>.inr h
 have nob:∀ {x:Addr},G14 x=none->x≠b/\x≠A.c1/\x≠A.d/\x≠A.lg:=λ e=>let z:=hb.fr e;⟨z.1,z.2.1,z.2.2.1,z.2.2.2.1⟩
 refine seq_with (λ σ G=>∃(D:List Nat) (dn:Addr),LwAt CBench G b b2 A A2 B L W D cl dn/\leftL W D=[]/\σ=[some (.ref a),some (.ref p),some (.ref rw_),some (.int (W.C.length:Int)),y4,some (.ref cl),some (.int mo),some (.ref st),some (.ref tr),some (.ref w),some (.ref hd),some (.ref b),some (.ref b2),some (.ref dn),none,none]) ?_ (λ R hR=>?_)
 rotate_left
 ·wp_walk using tSeq,tIfS,inV,eqV,spkall
  refine ⟨A,B,L,W,rfl,hb15,ns,s15.seq (s14b.seq hs13),hsc,λ G' D dl k hbD lD fd hd'=>?_⟩
  refine hR _ _ ⟨D,dl,⟨hbD,hb2.keep k hb15 ?_,?_,hd'⟩,lD,rfl⟩
  ·rintro x (rfl | rfl | rfl | rfl | rfl | rfl)
   ·exact nob fb2
   ·exact nob fc1
   ·exact nob fc2
   ·exact nob fc3
   ·exact nob fc4
   ·exact nob fc5
  ·have nn':∀ {y:Addr},G13 y=none->cl≠y:=λ e z=>by rw [← z,hc13] at e;cases e
   exact k _ _ (nn' fb) (nn' fa3) (nn' fa4) (nn' fa5) (s15 _ _ (s14b _ _ hc13))
 rintro σ16 G16 ⟨D,dn,hl16,lD,rfl⟩
 refine seq_with (λ σ G=>Same G16 G/\σ=[some (.ref a),some (.ref p),some (.ref rw_),some (.int (W.C.length:Int)),y4,some (.ref cl),some (.int mo),some (.ref st),some (.ref tr),some (.ref w),some (.ref hd),some (.ref b),some (.ref b2),some (.ref dn),none,none]) ?_ (λ R hR=>?_)
 rotate_left
 ·wp_walk using tSeq,tIfS,inV,eqV,spkstrange,rSlL
  rw [if_neg (by intro z;cases z)]
  exact ⟨_,.of hl16.hd,λ p1 h1=>⟨_,A,B,L,W,rfl,rfl,D,hl16.h1.same (same_new h1 _),D.drop (D.length - 1),by rw [upd_same,cut_last,natI_len];unfold natI;simp only [List.map_drop],by rw [List.length_drop];omega,λ k hk=>List.mem_of_mem_drop hk,λ G' s'=>hR _ _ ⟨(same_new h1 _).trans s',rfl⟩⟩⟩
 rintro σ17 G17 ⟨s17,rfl⟩
 have hl17:=hl16.same s17
 refine seq_with (λ σ G=>∃du,Same G17 G/\G du=some (.lst ((dueV W).map V.int))/\σ=[some (.ref a),some (.ref p),some (.ref rw_),some (.int (W.C.length:Int)),y4,some (.ref cl),some (.int mo),some (.ref st),some (.ref tr),some (.ref w),some (.ref hd),some (.ref b),some (.ref b2),some (.ref dn),some (.ref du),none]) ?_ (λ R hR=>?_)
 rotate_left
 ·wp_walk using tSeq,tIfS,inV,eqV
  refine ⟨by omega,by omega,?_⟩
  rw [Int.toNat_natCast]
  refine CompR.mk (λ i ys σ G=>G=G17/\ys=((List.range i).map (dueW W)).map V.int/\∃y,σ=[y,some (.int mo),some (.ref cl),some (.int (W.C.length:Int))]) ⟨rfl,rfl,_,rfl⟩ (λ i ys σ G hi h=>?_) (λ ys σ G h l hl=>?_)
  ·obtain ⟨rfl,rfl,y,rfl⟩:=h
   refine ⟨small1000 (by rw [len_map,List.length_map,List.length_range];omega),?_⟩
   wp_walk using tSeq,tIfS,inV,eqV
   obtain ⟨c,ec,ed⟩:=due_at hi
   rw [Wmo] at ed
   exact ⟨_,hl17.hc,_,ec,_,rfl,by rw [ed];exact due_snoc,_,rfl⟩
  ·obtain ⟨rfl,rfl,y,rfl⟩:=h
   exact hR _ _ ⟨l,same_new hl _,upd_same,rfl⟩
 rintro σ18 G18 ⟨du,s18,hdu,rfl⟩
 have hl18:=hl17.same s18
 refine seq_with (λ σ G=>∃tl ps,Same G18 G/\G18 tl=none/\G tl=some (.lst (ps.map V.ref))/\LogAt G ps W D/\σ=[some (.ref a),some (.ref p),some (.ref rw_),some (.int (W.C.length:Int)),y4,some (.ref cl),some (.int mo),some (.ref st),some (.ref tr),some (.ref w),some (.ref hd),some (.ref b),some (.ref b2),some (.ref dn),some (.ref du),some (.ref tl)]) ?_ (λ R hR=>?_)
 rotate_left
 ·wp_walk using tSeq,tIfS,inV,eqV,spblog
  exact ⟨_,_,hl18.h1.hb,rfl,A,B,L,W,D,hl18.h1,λ G1 l ps s1 f hl hp=>hR _ _ ⟨l,ps,s1,f,hl,hp,rfl⟩⟩
 rintro σ19 G19 ⟨tl,ps,s19,ftl,htl,hps,rfl⟩
 have hl19:=hl18.same s19
 refine seq_with (λ σ G=>Same G19 G/\σ=[some (.ref a),some (.ref p),some (.ref rw_),some (.int (W.C.length:Int)),y4,some (.ref cl),some (.int mo),some (.ref st),some (.ref tr),some (.ref w),some (.ref hd),some (.ref b),some (.ref b2),some (.ref dn),some (.ref du),some (.ref tl)]) ?_ (λ R hR=>?_)
 rotate_left
 ·wp_walk using tSeq,tIfS,inV,eqV,spbstore
  have hdu19:=s19 _ _ hdu
  have dl:=full_len hl19.h1.nd hl19.h1.lt lD
  refine CompL.mk (xs:=(natI D).map V.int) (.of hl19.hd) (λ i ys σ G=>∃qs:List Addr,ys=qs.map V.ref/\Same G19 G/\LogAt G qs W (D.take i)/\∃y,σ=[y,some (.ref du)]) ⟨[],rfl,Same.refl _,⟨rfl,λ i k p e=>by simp at e⟩,_,rfl⟩ (λ i ys σ G _ ⟨_,_,sG,_⟩=>.of (sG _ _ hl19.hd)) (λ i x ys σ G ex h=>?_) (λ ys σ G h l7 h7=>?_)
  ·obtain ⟨qs,rfl,sG,hq,y,rfl⟩:=h
   obtain ⟨n',rfl,hn'⟩:=int_at ex
   unfold natI at hn'
   rw [List.getElem?_map] at hn'
   obtain ⟨j,hj,rfl⟩:=Option.map_eq_some_iff.mp hn'
   have jl:=hl19.h1.lt j (List.mem_of_getElem? hj)
   have ql:=hq.1
   rw [List.length_take] at ql
   refine ⟨small1000 (by rw [List.length_map];omega),?_⟩
   wp_walk using tSeq,tIfS,inV,eqV
   refine ⟨_,sG _ _ hdu19,_,atI_nat (due_ix jl),small (by decide),λ p hp=>⟨qs++[p],by rw [List.map_append];rfl,sG.trans (same_new hp _),?_,_,rfl⟩⟩
   rw [List.take_add_one,hj]
   exact (hq.mono (.of (same_new hp _))).snoc upd_same
  ·obtain ⟨qs,rfl,sG,hq,y,rfl⟩:=h
   rw [len_map,natI_len,List.take_length] at hq
   have s7:=sG.trans (same_new h7 (.lst (qs.map V.ref)))
   have hl7:=hl19.same s7
   refine ⟨⟨_,rfl⟩,alk_log (s7 _ _ htl) upd_same (hps.mono (.of s7)) (hq.mono (.of (same_new h7 _))),_,_,hl7.h1.hb,rfl,A,B,L,W,D,1,rfl,hl7.h1,by decide,λ G1 l1 t1 f1 hl1=>?_⟩
   rw [if_neg (by decide),cells_due lD] at hl1
   refine ⟨_,.of hl1,_,.of ((s7.trans t1) _ _ hdu19),flat_ints _,flat_ints _,?_⟩
   rw [eqVs_ints,if_neg (by decide)]
   refine ⟨_,_,(hl7.same t1).h1.hb,rfl,A,B,L,W,D,0,rfl,(hl7.same t1).h1,by decide,λ G2 l2 t2 f2 hl2=>?_⟩
   rw [if_pos rfl] at hl2
   refine ⟨_,.of hl2,_,.of (hl7.same (t1.trans t2)).hc,flat_ints _,flat_ints _,?_⟩
   rw [eqVs_ints,if_neg (by decide)]
   exact hR _ _ ⟨s7.trans (t1.trans t2),rfl⟩
 rintro σ20 G20 ⟨s20,rfl⟩
 refine seq_with (λ σ G=>LwAt CBench G b b2 A A2 B L W D cl dn/\G du=some (.lst ((dueV W).map V.int))/\σ=[some (.ref a),some (.ref p),some (.ref rw_),some (.int (W.C.length:Int)),y4,some (.ref cl),some (.int mo),some (.ref st),some (.ref tr),some (.ref w),some (.ref hd),some (.ref b),some (.ref b2),some (.ref dn),some (.ref du),some (.ref tl)]) ?_ (λ R hR=>?_)
 rotate_left
 ·wp_walk using tSeq,tIfS,inV,eqV
  have htl20:=s20 _ _ htl
  exact ⟨.inl ⟨_,.of htl20⟩,_,htl20,hR _ _ ⟨hl18.wr (s19.trans s20) ftl htl20,(by rw [upd_ne (λ z=>(by rw [z,ftl] at hdu;cases hdu))];exact (s19.trans s20) _ _ hdu),rfl⟩⟩
 rintro σ21 G21 ⟨hl21,hdu21,rfl⟩
 refine seq_with (λ σ G=>LwAt CBench G b b2 A A2 B L W D cl dn/\G du=some (.lst ((dueV W).map V.int))/\σ=[some (.ref a),some (.ref p),some (.ref rw_),some (.int (W.C.length:Int)),y4,some (.ref cl),some (.int mo),some (.ref st),some (.ref tr),some (.ref w),some (.ref hd),some (.ref b),some (.ref b2),some (.ref dn),some (.ref du),some (.ref tl)]) ?_ (λ R hR=>?_)
 rotate_left
 ·wp_walk using tSeq,tIfS,inV,eqV,spbstore
  exact ⟨_,_,hl21.h1.hb,rfl,A,B,L,W,D,1,rfl,hl21.h1,by decide,λ G1 l t1 f1 hl=>⟨.inl ⟨_,.of hl⟩,_,hl,hR _ _ ⟨hl21.wr t1 f1 hl,(by rw [upd_ne (λ z=>(by rw [z,f1] at hdu21;cases hdu21))];exact t1 _ _ hdu21),rfl⟩⟩⟩
 rintro σ22 G22 ⟨hl22,hdu22,rfl⟩
 refine seq_with (λ σ G=>LwAt CBench G b b2 A A2 B L W D cl dn/\G du=some (.lst ((dueV W).map V.int))/\σ=[some (.ref a),some (.ref p),some (.ref rw_),some (.int (W.C.length:Int)),y4,some (.ref cl),some (.int mo),some (.ref st),some (.ref tr),some (.ref w),some (.ref hd),some (.ref b),some (.ref b2),some (.ref dn),some (.ref du),some (.ref tl)]) ?_ (λ R hR=>?_)
 rotate_left
 ·wp_walk using tSeq,tIfS,inV,eqV,spbstore,spblog,spbcalls
  refine ⟨_,_,hl22.h1.hb,rfl,A,B,L,W,D,hl22.h1,λ G1 l ps' t1 f1 hl hp'=>⟨_,.inl (.of hl),?_⟩⟩
  have fl:=full_len hl22.h1.nd hl22.h1.lt lD
  rw [List.length_map,hp'.1,fl,if_neg (λ z=>z rfl)]
  refine ⟨_,_,(hl22.same t1).h1.hb,rfl,A,B,L,W,D,1,rfl,(hl22.same t1).h1,by decide,λ G2 l2 t2 f2 hl2=>?_⟩
  rw [if_neg (by decide),cells_due lD] at hl2
  refine ⟨_,.of hl2,_,.of ((t1.trans t2) _ _ hdu22),flat_ints _,flat_ints _,?_⟩
  rw [eqVs_ints,if_neg (by decide)]
  refine ⟨_,_,(hl22.same (t1.trans t2)).h1.hb,rfl,A,B,L,W,D,(hl22.same (t1.trans t2)).h1,?_⟩
  rw [fl,if_neg (λ z=>z rfl)]
  exact hR _ _ ⟨hl22.same (t1.trans t2),(t1.trans t2) _ _ hdu22,rfl⟩
 rintro σ23 G23 ⟨hl23,hdu23,rfl⟩
 refine seq_with (λ σ G=>LwAt CBench G b b2 A A2 B L W D cl dn/\G du=some (.lst ((dueV W).map V.int))/\σ=[some (.ref a),some (.ref p),some (.ref rw_),some (.int (W.C.length:Int)),y4,some (.ref cl),some (.int mo),some (.ref st),some (.ref tr),some (.ref w),some (.ref hd),some (.ref b),some (.ref b2),some (.ref dn),some (.ref du),some (.ref tl)]) ?_ (λ R hR=>?_)
 rotate_left
 ·wp_walk using tSeq,tIfS,inV,eqV,spbansw,spbleft
  have hp23:=hl23.h1.hlp.2.1
  rw [Lsd] at hp23
  refine ⟨_,_,hl23.h1.hb,rfl,A,B,L,W,D,hl23.h1,λ z=>absurd lD z,λ _ G1 t x c t1 ht hx hc=>?_⟩
  rw [Lsd] at hx
  rw [cells_due lD] at hc
  refine ⟨_,.inl ⟨.of (t1 _ _ hdu23),λ l hl=>⟨small (by decide),λ p1 h1=>⟨small (by decide),λ p2 h2=>?_⟩⟩⟩⟩
  have s3:=(same_new hl (.tup ((dueV W).map V.int))).trans ((same_new h1 (.tup [V.ref p,V.ref l])).trans (same_new h2 (.tup [V.ref p1])))
  have h3:=hl23.same (t1.trans s3)
  refine ⟨⟨_,rfl⟩,alk_one (s3 _ _ ht) upd_same (alk_two (s3 _ _ hx) (same_new h2 _ _ _ upd_same) (.tup ((t1.trans s3) _ _ hp23) ((t1.trans s3) _ _ hp23) (flat_ints _)) (.tup (s3 _ _ hc) (same_new h2 _ _ _ (same_new h1 _ _ _ upd_same)) (flat_ints _))),_,_,h3.h1.hb,rfl,A,B,L,W,D,h3.h1,λ G2 l2 ps2 t2 f2 hl2 hp2=>?_⟩
  have e0:ps2=[]:=List.eq_nil_of_length_eq_zero (by rw [hp2.1,lD];rfl)
  subst e0
  refine ⟨small (by decide),λ p3 h3'=>⟨_,.of (same_new h3' _ _ _ hl2),_,.of upd_same,rfl,rfl,?_⟩⟩
  rw [show eqVs (List.map V.ref []) []=true from rfl,if_neg (by decide)]
  have s4:=t1.trans (s3.trans (t2.trans (same_new h3' (.lst []))))
  exact hR _ _ ⟨hl23.same s4,s4 _ _ hdu23,rfl⟩
 rintro σ24 G24 ⟨hl24,hdu24,rfl⟩
 wp_walk using tSeq,tIfS,inV,eqV,spbleft,spbstore,spblog
 refine ⟨_,_,hl24.h2.hb,rfl,A2,B,L,W,[],hl24.h2,λ G1 l ps1 t1 f1 hl hp1=>⟨by omega,by omega,?_⟩⟩
 rw [Int.toNat_natCast]
 rw [left_nil] at hp1
 refine CompR.mk (λ i ys σ G=>∃qs:List Addr,ys=qs.map V.ref/\Same G1 G/\PrsAt G qs (List.range i)/\∃y,σ=[y]) ⟨[],rfl,Same.refl _,⟨rfl,λ i k p e=>by simp at e⟩,_,rfl⟩ (λ i ys σ G hi h=>?_) (λ ys σ G h l7 h7=>?_)
 ·obtain ⟨qs,rfl,sG,hq,y,rfl⟩:=h
  have ql:=hq.1
  rw [List.length_range] at ql
  refine ⟨small1000 (by rw [List.length_map];omega),?_⟩
  wp_walk using tSeq,tIfS,inV,eqV
  refine ⟨small (by decide),λ p' hp'=>⟨qs++[p'],by rw [List.map_append];rfl,sG.trans (same_new hp' _),?_,_,rfl⟩⟩
  rw [List.range_succ]
  exact (hq.mono (.of (same_new hp' _))).snoc (by rw [upd_same,Int.zero_add])
 ·obtain ⟨qs,rfl,sG,hq,y,rfl⟩:=h
  have s7:=sG.trans (same_new h7 (.lst (qs.map V.ref)))
  have h27:=(hl24.h2.same t1).same s7
  refine ⟨⟨_,rfl⟩,alk_prs (s7 _ _ hl) upd_same (hp1.mono (.of s7)) (hq.mono (.of (same_new h7 _))),_,_,h27.hb,rfl,A2,B,L,W,[],1,rfl,h27,by decide,λ G2 l2 t2 f2 hl2=>?_⟩
  rw [if_neg (by decide),cells0] at hl2
  refine ⟨small (by decide),λ q1 g1=>⟨by omega,by omega,small (by omega),λ q2 g2=>?_⟩⟩
  rw [List.flatten_replicate_singleton]
  have s3:=(same_new g1 (.lst [V.non])).trans (same_new g2 (.lst (List.replicate W.C.length V.non)))
  refine ⟨_,.of (s3 _ _ hl2),_,.of upd_same,flat_non _,flat_non _,?_⟩
  rw [if_pos (eqVs_non _)]
  have h3:=(h27.same t2).same s3
  refine ⟨_,_,h3.hb,rfl,A2,B,L,W,[],h3,λ G3 l3 ps3 t3 f3 hl3 hp3=>?_⟩
  have e0:ps3=[]:=List.eq_nil_of_length_eq_zero hp3.1
  subst e0
  exact ⟨small (by decide),λ q3 g3=>⟨_,.of (same_new g3 _ _ _ hl3),_,.of upd_same,rfl,rfl,q _⟩⟩
theorem us_len1 {α:Type}{us:List α}(h:us.length=1):∃x0,us=[x0]:=by
 match us,h with
 | [x0],_=>exact ⟨_,rfl⟩
theorem us_len2 {α:Type}{us:List α}(h:us.length=2):∃x0 x1,us=[x0,x1]:=by
 match us,h with
 | [x0,x1],_=>exact ⟨_,_,rfl⟩
theorem us_len3 {α:Type}{us:List α}(h:us.length=3):∃x0 x1 x2,us=[x0,x1,x2]:=by
 match us,h with
 | [x0,x1,x2],_=>exact ⟨_,_,_,rfl⟩
theorem us_len4 {α:Type}{us:List α}(h:us.length=4):∃x0 x1 x2 x3,us=[x0,x1,x2,x3]:=by
 match us,h with
 | [x0,x1,x2,x3],_=>exact ⟨_,_,_,_,rfl⟩
theorem all_mk {l:W.OpenLaw}{w:World}{K:W.Frag}{h:Heap}{mg:Str->Option Value}{fa f0 f1 f2 f3 f4 f5 f6 f7 f8 f9 f10 f11 f12 f13 f14 f15 f16 f17 f18 f19 f20 f21 f22 f23 f24 f25 f26 f27 f28 f29 f30 f31 f32 f33 f34 f35 f36:Addr}(X:K.In h) (G:h.Ns mainGlobals mg) (hfa:mg "law" = some (.ref fa))
  {od0 an0 od1 an1 od2 an2 od3 an3 od4 an4 od5 an5 od6 an6 od7 an7 od8 an8 od9 an9 od10 an10 od11 an11 od12 an12 od13 an13 od14 an14 od15 an15 od16 an16 od17 an17 od18 an18 od19 an19 od20 an20 od21 an21 od22 an22 od23 an23 od24 an24 od25 an25 od26 an26 od27 an27 od28 an28 od29 an29 od30 an30 od31 an31 od32 an32 od33 an33 od34 an34 od35 an35 od36 an36:Option Addr}{sl0 sl1 sl2 sl3 sl4 sl5 sl6 sl7 sl8 sl9 sl10 sl11 sl12 sl13 sl14 sl15 sl16 sl17 sl18 sl19 sl20 sl21 sl22 sl23 sl24 sl25 sl26 sl27 sl28 sl29 sl30 sl31 sl32 sl33 sl34 sl35 sl36:Array (Option Value)}{oc0 kV0 dc0 pm0 ct0 cd0 oc1 kV1 dc1 pm1 ct1 cd1 oc2 kV2 dc2 pm2 ct2 cd2 oc3 kV3 dc3 pm3 ct3 cd3 oc4 kV4 dc4 pm4 ct4 cd4 oc5 kV5 dc5 pm5 ct5 cd5 oc6 kV6 dc6 pm6 ct6 cd6 oc7 kV7 dc7 pm7 ct7 cd7 oc8 kV8 dc8 pm8 ct8 cd8 oc9 kV9 dc9 pm9 ct9 cd9 oc10 kV10 dc10 pm10 ct10 cd10 oc11 kV11 dc11 pm11 ct11 cd11 oc12 kV12 dc12 pm12 ct12 cd12 oc13 kV13 dc13 pm13 ct13 cd13 oc14 kV14 dc14 pm14 ct14 cd14 oc15 kV15 dc15 pm15 ct15 cd15 oc16 kV16 dc16 pm16 ct16 cd16 oc17 kV17 dc17 pm17 ct17 cd17 oc18 kV18 dc18 pm18 ct18 cd18 oc19 kV19 dc19 pm19 ct19 cd19 oc20 kV20 dc20 pm20 ct20 cd20 oc21 kV21 dc21 pm21 ct21 cd21 oc22 kV22 dc22 pm22 ct22 cd22 oc23 kV23 dc23 pm23 ct23 cd23 oc24 kV24 dc24 pm24 ct24 cd24 oc25 kV25 dc25 pm25 ct25 cd25 oc26 kV26 dc26 pm26 ct26 cd26 oc27 kV27 dc27 pm27 ct27 cd27 oc28 kV28 dc28 pm28 ct28 cd28 oc29 kV29 dc29 pm29 ct29 cd29 oc30 kV30 dc30 pm30 ct30 cd30 oc31 kV31 dc31 pm31 ct31 cd31 oc32 kV32 dc32 pm32 ct32 cd32 oc33 kV33 dc33 pm33 ct33 cd33 oc34 kV34 dc34 pm34 ct34 cd34 oc35 kV35 dc35 pm35 ct35 cd35 oc36 kV36 dc36 pm36 ct36 cd36:Value}
  {CNoPlace:Addr}(nNoPlace:W.nsIn K mainGlobals "NoPlace" = some (some (.ref CNoPlace)))
  {CUnlike:Addr}(nUnlike:W.nsIn K mainGlobals "Unlike" = some (some (.ref CUnlike)))
  {CBench:Addr}(nBench:W.nsIn K mainGlobals "Bench" = some (some (.ref CBench)))
  {CNotDone:Addr}(nNotDone:W.nsIn K mainGlobals "NotDone" = some (some (.ref CNotDone)))
  {CNoRound:Addr}(nNoRound:W.nsIn K mainGlobals "NoRound" = some (some (.ref CNoRound)))
  {CNotReady:Addr}(nNotReady:W.nsIn K mainGlobals "NotReady" = some (some (.ref CNotReady)))
  {CStuck:Addr}(nStuck:W.nsIn K mainGlobals "Stuck" = some (some (.ref CStuck)))
  (a0:W.nsIn K mainGlobals "wrapped" = some (some (.ref f0))) (l0:K.lookup f0=some ⟨oc0,od0,.func (W.fnOf "wrapped" "wrapped" (defArgs swrapped) (defBody swrapped) (defScope swrapped) .none kV0 dc0 pm0 an0 cd0 ct0),sl0⟩) (q0:W.codeIn K cd0 "wrapped" = true) (k0:W.keepIn K (.ref f0)=true)
  (a1:W.nsIn K mainGlobals "quotient" = some (some (.ref f1))) (l1:K.lookup f1=some ⟨oc1,od1,.func (W.fnOf "quotient" "quotient" (defArgs squotient) (defBody squotient) (defScope squotient) .none kV1 dc1 pm1 an1 cd1 ct1),sl1⟩) (q1:W.codeIn K cd1 "quotient" = true) (k1:W.keepIn K (.ref f1)=true)
  (a2:W.nsIn K mainGlobals "remainder" = some (some (.ref f2))) (l2:K.lookup f2=some ⟨oc2,od2,.func (W.fnOf "remainder" "remainder" (defArgs sremainder) (defBody sremainder) (defScope sremainder) .none kV2 dc2 pm2 an2 cd2 ct2),sl2⟩) (q2:W.codeIn K cd2 "remainder" = true) (k2:W.keepIn K (.ref f2)=true)
  (a3:W.nsIn K mainGlobals "twice" = some (some (.ref f3))) (l3:K.lookup f3=some ⟨oc3,od3,.func (W.fnOf "twice" "twice" (defArgs stwice) (defBody stwice) (defScope stwice) .none kV3 dc3 pm3 an3 cd3 ct3),sl3⟩) (q3:W.codeIn K cd3 "twice" = true) (k3:W.keepIn K (.ref f3)=true)
  (a4:W.nsIn K mainGlobals "amount" = some (some (.ref f4))) (l4:K.lookup f4=some ⟨oc4,od4,.func (W.fnOf "amount" "amount" (defArgs samount) (defBody samount) (defScope samount) .none kV4 dc4 pm4 an4 cd4 ct4),sl4⟩) (q4:W.codeIn K cd4 "amount" = true) (k4:W.keepIn K (.ref f4)=true)
  (a5:W.nsIn K mainGlobals "at_of" = some (some (.ref f5))) (l5:K.lookup f5=some ⟨oc5,od5,.func (W.fnOf "at_of" "at_of" (defArgs satof) (defBody satof) (defScope satof) .none kV5 dc5 pm5 an5 cd5 ct5),sl5⟩) (q5:W.codeIn K cd5 "at_of" = true) (k5:W.keepIn K (.ref f5)=true)
  (a6:W.nsIn K mainGlobals "spot_of" = some (some (.ref f6))) (l6:K.lookup f6=some ⟨oc6,od6,.func (W.fnOf "spot_of" "spot_of" (defArgs sspotof) (defBody sspotof) (defScope sspotof) .none kV6 dc6 pm6 an6 cd6 ct6),sl6⟩) (q6:W.codeIn K cd6 "spot_of" = true) (k6:W.keepIn K (.ref f6)=true)
  (a7:W.nsIn K mainGlobals "is_free" = some (some (.ref f7))) (l7:K.lookup f7=some ⟨oc7,od7,.func (W.fnOf "is_free" "is_free" (defArgs sisfree) (defBody sisfree) (defScope sisfree) .none kV7 dc7 pm7 an7 cd7 ct7),sl7⟩) (q7:W.codeIn K cd7 "is_free" = true) (k7:W.keepIn K (.ref f7)=true)
  (a8:W.nsIn K mainGlobals "branches_of" = some (some (.ref f8))) (l8:K.lookup f8=some ⟨oc8,od8,.func (W.fnOf "branches_of" "branches_of" (defArgs sbranchesof) (defBody sbranchesof) (defScope sbranchesof) .none kV8 dc8 pm8 an8 cd8 ct8),sl8⟩) (q8:W.codeIn K cd8 "branches_of" = true) (k8:W.keepIn K (.ref f8)=true)
  (a9:W.nsIn K mainGlobals "taken" = some (some (.ref f9))) (l9:K.lookup f9=some ⟨oc9,od9,.func (W.fnOf "taken" "taken" (defArgs staken) (defBody staken) (defScope staken) .none kV9 dc9 pm9 an9 cd9 ct9),sl9⟩) (q9:W.codeIn K cd9 "taken" = true) (k9:W.keepIn K (.ref f9)=true)
  (a10:W.nsIn K mainGlobals "tree_spot" = some (some (.ref f10))) (l10:K.lookup f10=some ⟨oc10,od10,.func (W.fnOf "tree_spot" "tree_spot" (defArgs streespot) (defBody streespot) (defScope streespot) .none kV10 dc10 pm10 an10 cd10 ct10),sl10⟩) (q10:W.codeIn K cd10 "tree_spot" = true) (k10:W.keepIn K (.ref f10)=true)
  (a11:W.nsIn K mainGlobals "free_number" = some (some (.ref f11))) (l11:K.lookup f11=some ⟨oc11,od11,.func (W.fnOf "free_number" "free_number" (defArgs sfreenumber) (defBody sfreenumber) (defScope sfreenumber) .none kV11 dc11 pm11 an11 cd11 ct11),sl11⟩) (q11:W.codeIn K cd11 "free_number" = true) (k11:W.keepIn K (.ref f11)=true)
  (a12:W.nsIn K mainGlobals "put_together" = some (some (.ref f12))) (l12:K.lookup f12=some ⟨oc12,od12,.func (W.fnOf "put_together" "put_together" (defArgs sputtogether) (defBody sputtogether) (defScope sputtogether) .none kV12 dc12 pm12 an12 cd12 ct12),sl12⟩) (q12:W.codeIn K cd12 "put_together" = true) (k12:W.keepIn K (.ref f12)=true)
  (a13:W.nsIn K mainGlobals "reckoned" = some (some (.ref f13))) (l13:K.lookup f13=some ⟨oc13,od13,.func (W.fnOf "reckoned" "reckoned" (defArgs sreckoned) (defBody sreckoned) (defScope sreckoned) .none kV13 dc13 pm13 an13 cd13 ct13),sl13⟩) (q13:W.codeIn K cd13 "reckoned" = true) (k13:W.keepIn K (.ref f13)=true)
  (a14:W.nsIn K mainGlobals "loop_sides" = some (some (.ref f14))) (l14:K.lookup f14=some ⟨oc14,od14,.func (W.fnOf "loop_sides" "loop_sides" (defArgs sloopsides) (defBody sloopsides) (defScope sloopsides) .none kV14 dc14 pm14 an14 cd14 ct14),sl14⟩) (q14:W.codeIn K cd14 "loop_sides" = true) (k14:W.keepIn K (.ref f14)=true)
  (a15:W.nsIn K mainGlobals "rounds_of" = some (some (.ref f15))) (l15:K.lookup f15=some ⟨oc15,od15,.func (W.fnOf "rounds_of" "rounds_of" (defArgs sroundsof) (defBody sroundsof) (defScope sroundsof) .none kV15 dc15 pm15 an15 cd15 ct15),sl15⟩) (q15:W.codeIn K cd15 "rounds_of" = true) (k15:W.keepIn K (.ref f15)=true)
  (a16:W.nsIn K mainGlobals "loop_store" = some (some (.ref f16))) (l16:K.lookup f16=some ⟨oc16,od16,.func (W.fnOf "loop_store" "loop_store" (defArgs sloopstore) (defBody sloopstore) (defScope sloopstore) .none kV16 dc16 pm16 an16 cd16 ct16),sl16⟩) (q16:W.codeIn K cd16 "loop_store" = true) (k16:W.keepIn K (.ref f16)=true)
  (a17:W.nsIn K mainGlobals "stores_filled" = some (some (.ref f17))) (l17:K.lookup f17=some ⟨oc17,od17,.func (W.fnOf "stores_filled" "stores_filled" (defArgs sstoresfilled) (defBody sstoresfilled) (defScope sstoresfilled) .none kV17 dc17 pm17 an17 cd17 ct17),sl17⟩) (q17:W.codeIn K cd17 "stores_filled" = true) (k17:W.keepIn K (.ref f17)=true)
  (a18:W.nsIn K mainGlobals "fill_made" = some (some (.ref f18))) (l18:K.lookup f18=some ⟨oc18,od18,.func (W.fnOf "fill_made" "fill_made" (defArgs sfillmade) (defBody sfillmade) (defScope sfillmade) .none kV18 dc18 pm18 an18 cd18 ct18),sl18⟩) (q18:W.codeIn K cd18 "fill_made" = true) (k18:W.keepIn K (.ref f18)=true)
  (a19:W.nsIn K mainGlobals "ask_writings" = some (some (.ref f19))) (l19:K.lookup f19=some ⟨oc19,od19,.func (W.fnOf "ask_writings" "ask_writings" (defArgs saskwritings) (defBody saskwritings) (defScope saskwritings) .none kV19 dc19 pm19 an19 cd19 ct19),sl19⟩) (q19:W.codeIn K cd19 "ask_writings" = true) (k19:W.keepIn K (.ref f19)=true)
  (a20:W.findIn K (.ref CBench) "__init__" = some (some (.ref f20))) (i20:W.isFn K (.ref f20)=true) (l20:K.lookup f20=some ⟨oc20,od20,.func (W.fnOf "__init__" "Bench.__init__" (defArgs sBenchinit) (defBody sBenchinit) (defScope sBenchinit) .none kV20 dc20 pm20 an20 cd20 ct20),sl20⟩) (q20:W.codeIn K cd20 "Bench.__init__" = true) (k20:W.keepIn K (.ref f20)=true)
  (a21:W.findIn K (.ref CBench) "left" = some (some (.ref f21))) (i21:W.isFn K (.ref f21)=true) (l21:K.lookup f21=some ⟨oc21,od21,.func (W.fnOf "left" "Bench.left" (defArgs sBenchleft) (defBody sBenchleft) (defScope sBenchleft) .none kV21 dc21 pm21 an21 cd21 ct21),sl21⟩) (q21:W.codeIn K cd21 "Bench.left" = true) (k21:W.keepIn K (.ref f21)=true)
  (a22:W.findIn K (.ref CBench) "calls_made" = some (some (.ref f22))) (i22:W.isFn K (.ref f22)=true) (l22:K.lookup f22=some ⟨oc22,od22,.func (W.fnOf "calls_made" "Bench.calls_made" (defArgs sBenchcallsmade) (defBody sBenchcallsmade) (defScope sBenchcallsmade) .none kV22 dc22 pm22 an22 cd22 ct22),sl22⟩) (q22:W.codeIn K cd22 "Bench.calls_made" = true) (k22:W.keepIn K (.ref f22)=true)
  (a23:W.findIn K (.ref CBench) "log_told" = some (some (.ref f23))) (i23:W.isFn K (.ref f23)=true) (l23:K.lookup f23=some ⟨oc23,od23,.func (W.fnOf "log_told" "Bench.log_told" (defArgs sBenchlogtold) (defBody sBenchlogtold) (defScope sBenchlogtold) .none kV23 dc23 pm23 an23 cd23 ct23),sl23⟩) (q23:W.codeIn K cd23 "Bench.log_told" = true) (k23:W.keepIn K (.ref f23)=true)
  (a24:W.findIn K (.ref CBench) "store" = some (some (.ref f24))) (i24:W.isFn K (.ref f24)=true) (l24:K.lookup f24=some ⟨oc24,od24,.func (W.fnOf "store" "Bench.store" (defArgs sBenchstore) (defBody sBenchstore) (defScope sBenchstore) .none kV24 dc24 pm24 an24 cd24 ct24),sl24⟩) (q24:W.codeIn K cd24 "Bench.store" = true) (k24:W.keepIn K (.ref f24)=true)
  (a25:W.findIn K (.ref CBench) "answers_told" = some (some (.ref f25))) (i25:W.isFn K (.ref f25)=true) (l25:K.lookup f25=some ⟨oc25,od25,.func (W.fnOf "answers_told" "Bench.answers_told" (defArgs sBenchanswerstold) (defBody sBenchanswerstold) (defScope sBenchanswerstold) .none kV25 dc25 pm25 an25 cd25 ct25),sl25⟩) (q25:W.codeIn K cd25 "Bench.answers_told" = true) (k25:W.keepIn K (.ref f25)=true)
  (a26:W.findIn K (.ref CBench) "do" = some (some (.ref f26))) (i26:W.isFn K (.ref f26)=true) (l26:K.lookup f26=some ⟨oc26,od26,.func (W.fnOf "do" "Bench.do" (defArgs sBenchdo) (defBody sBenchdo) (defScope sBenchdo) .none kV26 dc26 pm26 an26 cd26 ct26),sl26⟩) (q26:W.codeIn K cd26 "Bench.do" = true) (k26:W.keepIn K (.ref f26)=true)
  (a27:W.nsIn K mainGlobals "_law_at" = some (some (.ref f27))) (l27:K.lookup f27=some ⟨oc27,od27,.func (W.fnOf "_law_at" "_law_at" (defArgs slawat) (defBody slawat) (defScope slawat) .none kV27 dc27 pm27 an27 cd27 ct27),sl27⟩) (q27:W.codeIn K cd27 "_law_at" = true) (k27:W.keepIn K (.ref f27)=true)
  (a28:W.nsIn K mainGlobals "_law_figure" = some (some (.ref f28))) (l28:K.lookup f28=some ⟨oc28,od28,.func (W.fnOf "_law_figure" "_law_figure" (defArgs slawfigure) (defBody slawfigure) (defScope slawfigure) .none kV28 dc28 pm28 an28 cd28 ct28),sl28⟩) (q28:W.codeIn K cd28 "_law_figure" = true) (k28:W.keepIn K (.ref f28)=true)
  (a29:W.nsIn K mainGlobals "_law_sides" = some (some (.ref f29))) (l29:K.lookup f29=some ⟨oc29,od29,.func (W.fnOf "_law_sides" "_law_sides" (defArgs slawsides) (defBody slawsides) (defScope slawsides) .none kV29 dc29 pm29 an29 cd29 ct29),sl29⟩) (q29:W.codeIn K cd29 "_law_sides" = true) (k29:W.keepIn K (.ref f29)=true)
  (a30:W.nsIn K mainGlobals "_law_bench" = some (some (.ref f30))) (l30:K.lookup f30=some ⟨oc30,od30,.func (W.fnOf "_law_bench" "_law_bench" (defArgs slawbench) (defBody slawbench) (defScope slawbench) .none kV30 dc30 pm30 an30 cd30 ct30),sl30⟩) (q30:W.codeIn K cd30 "_law_bench" = true) (k30:W.keepIn K (.ref f30)=true)
  (a31:W.nsIn K mainGlobals "_law_asked" = some (some (.ref f31))) (l31:K.lookup f31=some ⟨oc31,od31,.func (W.fnOf "_law_asked" "_law_asked" (defArgs slawasked) (defBody slawasked) (defScope slawasked) .none kV31 dc31 pm31 an31 cd31 ct31),sl31⟩) (q31:W.codeIn K cd31 "_law_asked" = true) (k31:W.keepIn K (.ref f31)=true)
  (a32:W.nsIn K mainGlobals "_law_early" = some (some (.ref f32))) (l32:K.lookup f32=some ⟨oc32,od32,.func (W.fnOf "_law_early" "_law_early" (defArgs slawearly) (defBody slawearly) (defScope slawearly) .none kV32 dc32 pm32 an32 cd32 ct32),sl32⟩) (q32:W.codeIn K cd32 "_law_early" = true) (k32:W.keepIn K (.ref f32)=true)
  (a33:W.nsIn K mainGlobals "_law_strange" = some (some (.ref f33))) (l33:K.lookup f33=some ⟨oc33,od33,.func (W.fnOf "_law_strange" "_law_strange" (defArgs slawstrange) (defBody slawstrange) (defScope slawstrange) .none kV33 dc33 pm33 an33 cd33 ct33),sl33⟩) (q33:W.codeIn K cd33 "_law_strange" = true) (k33:W.keepIn K (.ref f33)=true)
  (a34:W.nsIn K mainGlobals "_law_steps" = some (some (.ref f34))) (l34:K.lookup f34=some ⟨oc34,od34,.func (W.fnOf "_law_steps" "_law_steps" (defArgs slawsteps) (defBody slawsteps) (defScope slawsteps) .none kV34 dc34 pm34 an34 cd34 ct34),sl34⟩) (q34:W.codeIn K cd34 "_law_steps" = true) (k34:W.keepIn K (.ref f34)=true)
  (a35:W.nsIn K mainGlobals "_law_done_all" = some (some (.ref f35))) (l35:K.lookup f35=some ⟨oc35,od35,.func (W.fnOf "_law_done_all" "_law_done_all" (defArgs slawdoneall) (defBody slawdoneall) (defScope slawdoneall) .none kV35 dc35 pm35 an35 cd35 ct35),sl35⟩) (q35:W.codeIn K cd35 "_law_done_all" = true) (k35:W.keepIn K (.ref f35)=true)
  (a36:W.nsIn K mainGlobals "law" = some (some (.ref f36))) (l36:K.lookup f36=some ⟨oc36,od36,.func (W.fnOf "law" "law" (defArgs slaw) (defBody slaw) (defScope slaw) .none kV36 dc36 pm36 an36 cd36 ct36),sl36⟩) (q36:W.codeIn K cd36 "law" = true) (k36:W.keepIn K (.ref f36)=true)
  (zmax:W.nsIn K mainGlobals "max" = some none)
  (zmin:W.nsIn K mainGlobals "min" = some none)
  (zreversed:W.nsIn K mainGlobals "reversed" = some none)
  (ztuple:W.nsIn K mainGlobals "tuple" = some none)
  (zlen:W.nsIn K mainGlobals "len" = some none)
  (zzip:W.nsIn K mainGlobals "zip" = some none)
  (zsum:W.nsIn K mainGlobals "sum" = some none)
  (zrange:W.nsIn K mainGlobals "range" = some none)
  (zlist:W.nsIn K mainGlobals "list" = some none)
  (zset:W.nsIn K mainGlobals "set" = some none)
  (zenumerate:W.nsIn K mainGlobals "enumerate" = some none)
  (zisinstance:W.nsIn K mainGlobals "isinstance" = some none)
  {tLOW:Tok}(gLOW:W.nsIn K mainGlobals "LOW" = some (some (.int (-9223372036854775808) tLOW)))
  (xNoPlace:W.excIn K CNoPlace [.type "ValueError",.type "Exception",.type "BaseException",.type "object"] "ValueError.__new__" = true)
  (xUnlike:W.excIn K CUnlike [.type "ValueError",.type "Exception",.type "BaseException",.type "object"] "ValueError.__new__" = true)
  (xNotDone:W.excIn K CNotDone [.type "ValueError",.type "Exception",.type "BaseException",.type "object"] "ValueError.__new__" = true)
  (xNoRound:W.excIn K CNoRound [.type "ValueError",.type "Exception",.type "BaseException",.type "object"] "ValueError.__new__" = true)
  (eUU:W.exmOne K (.ref CUnlike) (.ref CUnlike)=some true)
  (Rc:(W.clsIn K CNoRound).isSome=true)
  (Rga:W.findIn K (.ref CNoRound) "__getattribute__" = some (some (.builtin "BaseException.__getattribute__")))
  (Rgt:W.findIn K (.ref CNoRound) "__getattr__" = some none)
  (Rcl:W.findIn K (.ref CNoRound) "__class__" = some (some (.builtin "object.__class__")))
  (Rmo:W.mroIn K CNoRound (.type "object")=some true)
  (Rmb:W.mroIn K CNoRound (.type "BaseException")=some true)
  (Nc:(W.clsIn K CNotDone).isSome=true)
  (Nga:W.findIn K (.ref CNotDone) "__getattribute__" = some (some (.builtin "BaseException.__getattribute__")))
  (Ngt:W.findIn K (.ref CNotDone) "__getattr__" = some none)
  (Ncl:W.findIn K (.ref CNotDone) "__class__" = some (some (.builtin "object.__class__")))
  (Nmo:W.mroIn K CNotDone (.type "object")=some true)
  (Nmb:W.mroIn K CNotDone (.type "BaseException")=some true)
  (kR3:W.kitAny K (.ref CNoRound) [Value.ref CNotReady,Value.ref CNotDone,Value.ref CStuck,Value.ref CUnlike]=some false)
  (kN4:W.kitAny K (.ref CNotDone) [Value.ref CNotReady,Value.ref CNoRound,Value.ref CStuck,Value.ref CUnlike]=some false)
  (Bpg:W.plainGet K CBench Str.empty=true)
  (Bhd:W.hasDictIn K CBench=true)
  (Bpo:W.plainOver K CBench=true)
  (Bsa:W.findIn K (.ref CBench) "__setattr__" = some (some (.builtin "object.__setattr__")))
  (mkBench:W.makesIn K CBench=true)
  (kpBench:W.keepIn K (.ref CBench)=true)
  (Bn0:W.findIn K (.ref CBench) "cells" = some none)
  (Bn1:W.findIn K (.ref CBench) "loops" = some none)
  (Bn2:W.findIn K (.ref CBench) "outs" = some none)
  (Bn3:W.findIn K (.ref CBench) "done" = some none)
  (Bn4:W.findIn K (.ref CBench) "calls" = some none)
  (Bn5:W.findIn K (.ref CBench) "log" = some none)
  : ∃fd:FuncData,(∀(s:Shared) (v:Value),BindsTo s fd ⟨[v],[]⟩ [("script",v)])/\∀base:Heap,K.In base->base.Ns mainGlobals mg->FnOk l.prog w K mg base CX0 14 fa fd ["script"] (splaw K):=by
 have e:=hfa.symm.trans (W.mg_of X G a36)
 cases e
 have F0:=fun_mk (st:=swrapped) l0 q0 k0
 have b0:=F0.binds (ps:=["n"]) λ _ _ _ _ _ _ us hl=>by
  obtain ⟨_,rfl⟩:=us_len1 hl
  rfl
 have F1:=fun_mk (st:=squotient) l1 q1 k1
 have b1:=F1.binds (ps:=["x", "y"]) λ _ _ _ _ _ _ us hl=>by
  obtain ⟨_,_,rfl⟩:=us_len2 hl
  rfl
 have F2:=fun_mk (st:=sremainder) l2 q2 k2
 have b2:=F2.binds (ps:=["x", "y"]) λ _ _ _ _ _ _ us hl=>by
  obtain ⟨_,_,rfl⟩:=us_len2 hl
  rfl
 have F3:=fun_mk (st:=stwice) l3 q3 k3
 have b3:=F3.binds (ps:=["word", "x", "y"]) λ _ _ _ _ _ _ us hl=>by
  obtain ⟨_,_,_,rfl⟩:=us_len3 hl
  rfl
 have F4:=fun_mk (st:=samount) l4 q4 k4
 have b4:=F4.binds (ps:=["sides"]) λ _ _ _ _ _ _ us hl=>by
  obtain ⟨_,rfl⟩:=us_len1 hl
  rfl
 have F5:=fun_mk (st:=satof) l5 q5 k5
 have b5:=F5.binds (ps:=["sides", "place"]) λ _ _ _ _ _ _ us hl=>by
  obtain ⟨_,_,rfl⟩:=us_len2 hl
  rfl
 have F6:=fun_mk (st:=sspotof) l6 q6 k6
 have b6:=F6.binds (ps:=["view", "at"]) λ _ _ _ _ _ _ us hl=>by
  obtain ⟨_,_,rfl⟩:=us_len2 hl
  rfl
 have F7:=fun_mk (st:=sisfree) l7 q7 k7
 have b7:=F7.binds (ps:=["tree"]) λ _ _ _ _ _ _ us hl=>by
  obtain ⟨_,rfl⟩:=us_len1 hl
  rfl
 have F8:=fun_mk (st:=sbranchesof) l8 q8 k8
 have b8:=F8.binds (ps:=["tree"]) λ _ _ _ _ _ _ us hl=>by
  obtain ⟨_,rfl⟩:=us_len1 hl
  rfl
 have F9:=fun_mk (st:=staken) l9 q9 k9
 have b9:=F9.binds (ps:=["store", "spot"]) λ _ _ _ _ _ _ us hl=>by
  obtain ⟨_,_,rfl⟩:=us_len2 hl
  rfl
 have F10:=fun_mk (st:=streespot) l10 q10 k10
 have b10:=F10.binds (ps:=["start", "strides", "at"]) λ _ _ _ _ _ _ us hl=>by
  obtain ⟨_,_,_,rfl⟩:=us_len3 hl
  rfl
 have F11:=fun_mk (st:=sfreenumber) l11 q11 k11
 have b11:=F11.binds (ps:=["tree", "at", "stores"]) λ _ _ _ _ _ _ us hl=>by
  obtain ⟨_,_,_,rfl⟩:=us_len3 hl
  rfl
 have F12:=fun_mk (st:=sputtogether) l12 q12 k12
 have b12:=F12.binds (ps:=["tree", "numbers", "at", "stores"]) λ _ _ _ _ _ _ us hl=>by
  obtain ⟨_,_,_,_,rfl⟩:=us_len4 hl
  rfl
 have F13:=fun_mk (st:=sreckoned) l13 q13 k13
 have b13:=F13.binds (ps:=["tree", "at", "stores"]) λ _ _ _ _ _ _ us hl=>by
  obtain ⟨_,_,_,rfl⟩:=us_len3 hl
  rfl
 have F14:=fun_mk (st:=sloopsides) l14 q14 k14
 have b14:=F14.binds (ps:=["loop"]) λ _ _ _ _ _ _ us hl=>by
  obtain ⟨_,rfl⟩:=us_len1 hl
  rfl
 have F15:=fun_mk (st:=sroundsof) l15 q15 k15
 have b15:=F15.binds (ps:=["loop"]) λ _ _ _ _ _ _ us hl=>by
  obtain ⟨_,rfl⟩:=us_len1 hl
  rfl
 have F16:=fun_mk (st:=sloopstore) l16 q16 k16
 have b16:=F16.binds (ps:=["loop"]) λ _ _ _ _ _ _ us hl=>by
  obtain ⟨_,rfl⟩:=us_len1 hl
  rfl
 have F17:=fun_mk (st:=sstoresfilled) l17 q17 k17
 have b17:=F17.binds (ps:=["weft", "inputs"]) λ _ _ _ _ _ _ us hl=>by
  obtain ⟨_,_,rfl⟩:=us_len2 hl
  rfl
 have F18:=fun_mk (st:=sfillmade) l18 q18 k18
 have b18:=F18.binds (ps:=["loop", "at", "cells"]) λ _ _ _ _ _ _ us hl=>by
  obtain ⟨_,_,_,rfl⟩:=us_len3 hl
  rfl
 have F19:=fun_mk (st:=saskwritings) l19 q19 k19
 have b19:=F19.binds (ps:=["writings", "cells"]) λ _ _ _ _ _ _ us hl=>by
  obtain ⟨_,_,rfl⟩:=us_len2 hl
  rfl
 have F20:=fun_mk (st:=sBenchinit) l20 q20 k20
 have b20:=F20.binds (ps:=["self", "weft", "inputs"]) λ _ _ _ _ _ _ us hl=>by
  obtain ⟨_,_,_,rfl⟩:=us_len3 hl
  rfl
 have F21:=fun_mk (st:=sBenchleft) l21 q21 k21
 have b21:=F21.binds (ps:=["self"]) λ _ _ _ _ _ _ us hl=>by
  obtain ⟨_,rfl⟩:=us_len1 hl
  rfl
 have F22:=fun_mk (st:=sBenchcallsmade) l22 q22 k22
 have b22:=F22.binds (ps:=["self"]) λ _ _ _ _ _ _ us hl=>by
  obtain ⟨_,rfl⟩:=us_len1 hl
  rfl
 have F23:=fun_mk (st:=sBenchlogtold) l23 q23 k23
 have b23:=F23.binds (ps:=["self"]) λ _ _ _ _ _ _ us hl=>by
  obtain ⟨_,rfl⟩:=us_len1 hl
  rfl
 have F24:=fun_mk (st:=sBenchstore) l24 q24 k24
 have b24:=F24.binds (ps:=["self", "k"]) λ _ _ _ _ _ _ us hl=>by
  obtain ⟨_,_,rfl⟩:=us_len2 hl
  rfl
 have F25:=fun_mk (st:=sBenchanswerstold) l25 q25 k25
 have b25:=F25.binds (ps:=["self"]) λ _ _ _ _ _ _ us hl=>by
  obtain ⟨_,rfl⟩:=us_len1 hl
  rfl
 have F26:=fun_mk (st:=sBenchdo) l26 q26 k26
 have b26:=F26.binds (ps:=["self", "loop", "round_at"]) λ _ _ _ _ _ _ us hl=>by
  obtain ⟨_,_,_,rfl⟩:=us_len3 hl
  rfl
 have F27:=fun_mk (st:=slawat) l27 q27 k27
 have b27:=F27.binds (ps:=["row", "k"]) λ _ _ _ _ _ _ us hl=>by
  obtain ⟨_,_,rfl⟩:=us_len2 hl
  rfl
 have F28:=fun_mk (st:=slawfigure) l28 q28 k28
 have b28:=F28.binds (ps:=["one"]) λ _ _ _ _ _ _ us hl=>by
  obtain ⟨_,rfl⟩:=us_len1 hl
  rfl
 have F29:=fun_mk (st:=slawsides) l29 q29 k29
 have b29:=F29.binds (ps:=["row", "room"]) λ _ _ _ _ _ _ us hl=>by
  obtain ⟨_,_,rfl⟩:=us_len2 hl
  rfl
 have F30:=fun_mk (st:=slawbench) l30 q30 k30
 have b30:=F30.binds (ps:=["weft", "inputs"]) λ _ _ _ _ _ _ us hl=>by
  obtain ⟨_,_,rfl⟩:=us_len2 hl
  rfl
 have F31:=fun_mk (st:=slawasked) l31 q31 k31
 have b31:=F31.binds (ps:=["bench", "loop", "number"]) λ _ _ _ _ _ _ us hl=>by
  obtain ⟨_,_,_,rfl⟩:=us_len3 hl
  rfl
 have F32:=fun_mk (st:=slawearly) l32 q32 k32
 have b32:=F32.binds (ps:=["bench"]) λ _ _ _ _ _ _ us hl=>by
  obtain ⟨_,rfl⟩:=us_len1 hl
  rfl
 have F33:=fun_mk (st:=slawstrange) l33 q33 k33
 have b33:=F33.binds (ps:=["bench", "size", "done"]) λ _ _ _ _ _ _ us hl=>by
  obtain ⟨_,_,_,rfl⟩:=us_len3 hl
  rfl
 have F34:=fun_mk (st:=slawsteps) l34 q34 k34
 have b34:=F34.binds (ps:=["sides"]) λ _ _ _ _ _ _ us hl=>by
  obtain ⟨_,rfl⟩:=us_len1 hl
  rfl
 have F35:=fun_mk (st:=slawdoneall) l35 q35 k35
 have b35:=F35.binds (ps:=["bench", "script", "size"]) λ _ _ _ _ _ _ us hl=>by
  obtain ⟨_,_,_,rfl⟩:=us_len3 hl
  rfl
 have F36:=fun_mk (st:=slaw) l36 q36 k36
 have b36:=F36.binds (ps:=["script"]) λ _ _ _ _ _ _ us hl=>by
  obtain ⟨_,rfl⟩:=us_len1 hl
  rfl
 refine ⟨W.fnOf "law" "law" (defArgs slaw) (defBody slaw) (defScope slaw) .none kV36 dc36 pm36 an36 cd36 ct36,λ s v=>.of_eq rfl,λ base KB GB=>?_⟩
 have BC:BenCls K CBench:=⟨⟨Bpg,Bhd,Bpo,Bsa⟩,Bn0,Bn1,Bn2,Bn3,Bn4,Bn5⟩
 have kxR:ExcK K CNoRound:=⟨Rc,Rga,Rgt,Rcl,Rmo,Rmb⟩
 have kxN:ExcK K CNotDone:=⟨Nc,Nga,Ngt,Ncl,Nmo,Nmb⟩
 have O_wrapped:=okwrapped (P:=l.prog) (w:=w) (base:=base) (mg:=mg) F0 (W.mg_of X G gLOW)
 have C_wrapped:=Callee.mk' F0 (W.mg_of X G a0) b0 O_wrapped
 have O_quotient:=okquotient (P:=l.prog) (w:=w) (base:=base) (mg:=mg) F1 (C_wrapped.mono (by decide))
 have C_quotient:=Callee.mk' F1 (W.mg_of X G a1) b1 O_quotient
 have O_remainder:=okremainder (P:=l.prog) (w:=w) (base:=base) (mg:=mg) F2
 have C_remainder:=Callee.mk' F2 (W.mg_of X G a2) b2 O_remainder
 have O_twice:=oktwice (P:=l.prog) (w:=w) (base:=base) (mg:=mg) F3 (C_wrapped.mono (by decide)) (C_quotient.mono (by decide)) (C_remainder.mono (by decide)) (W.mg_none_of X G zmax) (W.mg_none_of X G zmin)
 have C_twice:=Callee.mk' F3 (W.mg_of X G a3) b3 O_twice
 have O_amount:=okamount (P:=l.prog) (w:=w) (base:=base) (mg:=mg) F4
 have C_amount:=Callee.mk' F4 (W.mg_of X G a4) b4 O_amount
 have O_atof:=okatof (P:=l.prog) (w:=w) (base:=base) (mg:=mg) F5 nNoPlace (C_amount.mono (by decide)) (W.mg_none_of X G zreversed) (W.mg_none_of X G ztuple) xNoPlace
 have C_atof:=Callee.mk' F5 (W.mg_of X G a5) b5 O_atof
 have O_spotof:=okspotof (P:=l.prog) (w:=w) (base:=base) (mg:=mg) F6 (W.mg_none_of X G zlen) (W.mg_none_of X G zzip) (W.mg_none_of X G zsum)
 have C_spotof:=Callee.mk' F6 (W.mg_of X G a6) b6 O_spotof
 have O_isfree:=okisfree (P:=l.prog) (w:=w) (base:=base) (mg:=mg) F7
 have C_isfree:=Callee.mk' F7 (W.mg_of X G a7) b7 O_isfree
 have O_branchesof:=okbranchesof (P:=l.prog) (w:=w) (base:=base) (mg:=mg) F8
 have C_branchesof:=Callee.mk' F8 (W.mg_of X G a8) b8 O_branchesof
 have O_taken:=oktaken (P:=l.prog) (w:=w) (base:=base) (mg:=mg) F9 (W.mg_none_of X G zlen)
 have C_taken:=Callee.mk' F9 (W.mg_of X G a9) b9 O_taken
 have O_treespot:=oktreespot (P:=l.prog) (w:=w) (base:=base) (mg:=mg) F10 (C_spotof.mono (by decide))
 have C_treespot:=Callee.mk' F10 (W.mg_of X G a10) b10 O_treespot
 have O_freenumber:=okfreenumber (P:=l.prog) (w:=w) (base:=base) (mg:=mg) F11 (C_treespot.mono (by decide)) (C_taken.mono (by decide))
 have C_freenumber:=Callee.mk' F11 (W.mg_of X G a11) b11 O_freenumber
 have O_puttogether:=okputtogether (P:=l.prog) (w:=w) (base:=base) (mg:=mg) F12 (C_twice.mono (by decide))
 have C_puttogether:=Callee.mk' F12 (W.mg_of X G a12) b12 O_puttogether
 have O_reckoned:=okreckonedA (P:=l.prog) (w:=w) (base:=base) (mg:=mg) F13 (C_isfree.mono (by decide)) (C_branchesof.mono (by decide)) (C_freenumber.mono (by decide)) (C_puttogether.mono (by decide)) (W.mg_of X G a13) b13 3
 have C_reckoned:=Callee.mk' F13 (W.mg_of X G a13) b13 O_reckoned
 have O_loopsides:=okloopsides (P:=l.prog) (w:=w) (base:=base) (mg:=mg) F14
 have C_loopsides:=Callee.mk' F14 (W.mg_of X G a14) b14 O_loopsides
 have O_roundsof:=okroundsof (P:=l.prog) (w:=w) (base:=base) (mg:=mg) F15 (C_amount.mono (by decide)) (C_loopsides.mono (by decide))
 have C_roundsof:=Callee.mk' F15 (W.mg_of X G a15) b15 O_roundsof
 have O_loopstore:=okloopstore (P:=l.prog) (w:=w) (base:=base) (mg:=mg) F16
 have C_loopstore:=Callee.mk' F16 (W.mg_of X G a16) b16 O_loopstore
 have O_storesfilled:=okstoresfilled (P:=l.prog) (w:=w) (base:=base) (mg:=mg) F17 nUnlike (C_loopstore.mono (by decide)) (W.mg_none_of X G zlen) (W.mg_none_of X G zrange) (W.mg_none_of X G zzip) (W.mg_none_of X G zlist) xUnlike
 have C_storesfilled:=Callee.mk' F17 (W.mg_of X G a17) b17 O_storesfilled
 have O_fillmade:=okfillmade (P:=l.prog) (w:=w) (base:=base) (mg:=mg) F18 (C_reckoned.mono (by decide)) (C_treespot.mono (by decide))
 have C_fillmade:=Callee.mk' F18 (W.mg_of X G a18) b18 O_fillmade
 have O_askwritings:=okaskwritings (P:=l.prog) (w:=w) (base:=base) (mg:=mg) F19 (W.mg_none_of X G zlen) (W.mg_none_of X G zset)
 have C_askwritings:=Callee.mk' F19 (W.mg_of X G a19) b19 O_askwritings
 have O_Benchinit:=okBenchinit (P:=l.prog) (w:=w) (base:=base) (mg:=mg) F20 nUnlike nBench (C_storesfilled.mono (by decide)) BC
 have C_Benchinit:MakC l.prog w K mg base _ 3 CBench "Bench" _ _:=⟨⟨_,_,O_Benchinit,⟨mkBench,a20,i20,kpBench⟩,b20,W.mg_of X G nBench⟩⟩
 have O_Benchleft:=okBenchleft (P:=l.prog) (w:=w) (base:=base) (mg:=mg) F21 nBench (C_roundsof.mono (by decide)) (W.mg_none_of X G zenumerate) (W.mg_none_of X G zrange) BC
 have C_Benchleft:CalM l.prog w K mg base _ 4 CBench "left" _ _:=⟨⟨_,_,O_Benchleft,⟨a21,i21,k21⟩,b21⟩⟩
 have O_Benchcallsmade:=okBenchcallsmade (P:=l.prog) (w:=w) (base:=base) (mg:=mg) F22 nBench BC
 have C_Benchcallsmade:CalM l.prog w K mg base _ 1 CBench "calls_made" _ _:=⟨⟨_,_,O_Benchcallsmade,⟨a22,i22,k22⟩,b22⟩⟩
 have O_Benchlogtold:=okBenchlogtold (P:=l.prog) (w:=w) (base:=base) (mg:=mg) F23 nBench (W.mg_none_of X G zlist) BC
 have C_Benchlogtold:CalM l.prog w K mg base _ 1 CBench "log_told" _ _:=⟨⟨_,_,O_Benchlogtold,⟨a23,i23,k23⟩,b23⟩⟩
 have O_Benchstore:=okBenchstore (P:=l.prog) (w:=w) (base:=base) (mg:=mg) F24 nBench (W.mg_none_of X G zlist) BC
 have C_Benchstore:CalM l.prog w K mg base _ 1 CBench "store" _ _:=⟨⟨_,_,O_Benchstore,⟨a24,i24,k24⟩,b24⟩⟩
 have O_Benchanswerstold:=okBenchanswerstold (P:=l.prog) (w:=w) (base:=base) (mg:=mg) F25 nBench nNotDone (C_Benchleft.mono (by decide)) (W.mg_none_of X G zlen) (W.mg_none_of X G ztuple) BC xNotDone
 have C_Benchanswerstold:CalM l.prog w K mg base _ 5 CBench "answers_told" _ _:=⟨⟨_,_,O_Benchanswerstold,⟨a25,i25,k25⟩,b25⟩⟩
 have O_Benchdo:=okBenchdo (P:=l.prog) (w:=w) (base:=base) (mg:=mg) F26 nBench nNoRound nNoPlace (C_roundsof.mono (by decide)) (C_atof.mono (by decide)) (C_loopsides.mono (by decide)) (C_fillmade.mono (by decide)) (C_loopstore.mono (by decide)) (C_askwritings.mono (by decide)) (W.mg_none_of X G zlen) BC xNoRound
 have C_Benchdo:CalM l.prog w K mg base _ 10 CBench "do" _ _:=⟨⟨_,_,O_Benchdo,⟨a26,i26,k26⟩,b26⟩⟩
 have O_lawat:=oklawat (P:=l.prog) (w:=w) (base:=base) (mg:=mg) F27 (W.mg_none_of X G zlen)
 have C_lawat:=Callee.mk' F27 (W.mg_of X G a27) b27 O_lawat
 have O_lawfigure:=oklawfigure (P:=l.prog) (w:=w) (base:=base) (mg:=mg) F28
 have C_lawfigure:=Callee.mk' F28 (W.mg_of X G a28) b28 O_lawfigure
 have O_lawsides:=oklawsides (P:=l.prog) (w:=w) (base:=base) (mg:=mg) F29 (W.mg_none_of X G zmin) (W.mg_none_of X G zmax)
 have C_lawsides:=Callee.mk' F29 (W.mg_of X G a29) b29 O_lawsides
 have O_lawbench:=oklawbench (P:=l.prog) (w:=w) (base:=base) (mg:=mg) F30 nBench nUnlike (C_Benchinit.mono (by decide)) BC xUnlike eUU
 have C_lawbench:=Callee.mk' F30 (W.mg_of X G a30) b30 O_lawbench
 have O_lawasked:=oklawasked (P:=l.prog) (w:=w) (base:=base) (mg:=mg) F31 nBench nNoRound nNotReady nNotDone nStuck nUnlike (C_Benchdo.mono (by decide)) (W.mg_none_of X G zisinstance) BC xNoRound kxR kR3
 have C_lawasked:=Callee.mk' F31 (W.mg_of X G a31) b31 O_lawasked
 have O_lawearly:=oklawearly (P:=l.prog) (w:=w) (base:=base) (mg:=mg) F32 nBench nNotDone nNotReady nNoRound nStuck nUnlike (C_Benchanswerstold.mono (by decide)) (W.mg_none_of X G zisinstance) BC xNotDone kxN kN4
 have C_lawearly:=Callee.mk' F32 (W.mg_of X G a32) b32 O_lawearly
 have O_lawstrange:=oklawstrange (P:=l.prog) (w:=w) (base:=base) (mg:=mg) F33 nBench (C_lawasked.mono (by decide))
 have C_lawstrange:=Callee.mk' F33 (W.mg_of X G a33) b33 O_lawstrange
 have O_lawsteps:=oklawsteps (P:=l.prog) (w:=w) (base:=base) (mg:=mg) F34 (W.mg_none_of X G zreversed)
 have C_lawsteps:=Callee.mk' F34 (W.mg_of X G a34) b34 O_lawsteps
 have O_lawdoneall:=oklawdoneall (P:=l.prog) (w:=w) (base:=base) (mg:=mg) F35 nBench (C_lawearly.mono (by decide)) (C_lawat.mono (by decide)) (C_lawasked.mono (by decide)) (C_lawstrange.mono (by decide)) (C_Benchleft.mono (by decide)) (C_Benchcallsmade.mono (by decide)) (W.mg_none_of X G zlist) (W.mg_none_of X G zrange) (W.mg_none_of X G zlen) (W.mg_none_of X G zisinstance) BC
 have C_lawdoneall:=Callee.mk' F35 (W.mg_of X G a35) b35 O_lawdoneall
 have O_law:=oklaw (P:=l.prog) (w:=w) (base:=base) (mg:=mg) F36 nBench nUnlike nNotDone (C_lawsides.mono (by decide)) (C_lawat.mono (by decide)) (C_lawfigure.mono (by decide)) (C_lawsteps.mono (by decide)) (C_lawbench.mono (by decide)) (C_lawdoneall.mono (by decide)) (C_lawstrange.mono (by decide)) (C_Benchlogtold.mono (by decide)) (C_Benchstore.mono (by decide)) (C_Benchcallsmade.mono (by decide)) (C_Benchanswerstold.mono (by decide)) (C_Benchleft.mono (by decide)) (C_Benchinit.mono (by decide)) (W.mg_none_of X G zlen) (W.mg_none_of X G zrange) (W.mg_none_of X G ztuple) BC
 exact O_law
theorem walk {l:W.OpenLaw}{q:Program}{loose:List Str}{XP:(Str->Option Value)->Heap->Prop}{YP:World->Heap->Prop}{d:DefRec}{K:Params->W.Frag}(hn:l.most=some 63) (hdf:d.params.defaults=[])
  (hY:∀(w:World) (h:Heap),YP w h->(K w.params).In h)
  (F:∀(w:World) (mg:Str->Option Value) (fa:Addr) (h:Heap),(K w.params).In h->h.Ns mainGlobals mg->mg d.name=some (.ref fa) ->
   ∃fd:FuncData,(∀(s:Shared) (u:Value),BindsTo s fd ⟨[u],[]⟩ [("script",u)])/\∀base:Heap,(K w.params).In base->base.Ns mainGlobals mg->FnOk l.prog w (K w.params) mg base (CX0) 14 fa fd ["script"] (splaw (K w.params))) :
  W.WalkO q loose XP YP l.row.toRowW d [] (λ f vs=>PySem.call f vs) :=
 L2.walk_of (n:=63) (k:=14) (x := "script") (CX:=λ _=>CX0) (sp:=λ w=>splaw (K w.params)) hn (by decide) hdf ⟨rfl,by decide,by decide⟩ hY F (λ _ _ a ns hl hfew hS=>⟨a,ns,rfl,hS,hl,λ _=>rfl⟩) λ _ _ _ _ _ z=>z
end My
end
open PySem PySem.W PyProof.Rows
set_option maxRecDepth 100000 in
set_option maxHeartbeats 0 in
theorem PySem.Challenge.cw_sideloom_k57_rounds_of_a_fill_holds : PySem.Challenge.rw_sideloom_k57_rounds_of_a_fill.Holds := by
 w_on;o_law;k_head;(case hw=>w_witness2)
 k_fill
 refine My.walk (l:=PySem.Challenge.rw_sideloom_k57_rounds_of_a_fill) rfl rfl (λ w h Y=>W.kIn_of Y) ?F
 case F =>
  intro w mg fa h KX G hmg
  refine' My.all_mk KX G hmg ?nNoPlace ?nUnlike ?nBench ?nNotDone ?nNoRound ?nNotReady ?nStuck ?a0 ?l0 ?q0 ?k0 ?a1 ?l1 ?q1 ?k1 ?a2 ?l2 ?q2 ?k2 ?a3 ?l3 ?q3 ?k3 ?a4 ?l4 ?q4 ?k4 ?a5 ?l5 ?q5 ?k5 ?a6 ?l6 ?q6 ?k6 ?a7 ?l7 ?q7 ?k7 ?a8 ?l8 ?q8 ?k8 ?a9 ?l9 ?q9 ?k9 ?a10 ?l10 ?q10 ?k10 ?a11 ?l11 ?q11 ?k11 ?a12 ?l12 ?q12 ?k12 ?a13 ?l13 ?q13 ?k13 ?a14 ?l14 ?q14 ?k14 ?a15 ?l15 ?q15 ?k15 ?a16 ?l16 ?q16 ?k16 ?a17 ?l17 ?q17 ?k17 ?a18 ?l18 ?q18 ?k18 ?a19 ?l19 ?q19 ?k19 ?a20 ?i20 ?l20 ?q20 ?k20 ?a21 ?i21 ?l21 ?q21 ?k21 ?a22 ?i22 ?l22 ?q22 ?k22 ?a23 ?i23 ?l23 ?q23 ?k23 ?a24 ?i24 ?l24 ?q24 ?k24 ?a25 ?i25 ?l25 ?q25 ?k25 ?a26 ?i26 ?l26 ?q26 ?k26 ?a27 ?l27 ?q27 ?k27 ?a28 ?l28 ?q28 ?k28 ?a29 ?l29 ?q29 ?k29 ?a30 ?l30 ?q30 ?k30 ?a31 ?l31 ?q31 ?k31 ?a32 ?l32 ?q32 ?k32 ?a33 ?l33 ?q33 ?k33 ?a34 ?l34 ?q34 ?k34 ?a35 ?l35 ?q35 ?k35 ?a36 ?l36 ?q36 ?k36 ?zmax ?zmin ?zreversed ?ztuple ?zlen ?zzip ?zsum ?zrange ?zlist ?zset ?zenumerate ?zisinstance ?gLOW ?xNoPlace ?xUnlike ?xNotDone ?xNoRound ?eUU ?Rc ?Rga ?Rgt ?Rcl ?Rmo ?Rmb ?Nc ?Nga ?Ngt ?Ncl ?Nmo ?Nmb ?kR3 ?kN4 ?Bpg ?Bhd ?Bpo ?Bsa ?mkBench ?kpBench ?Bn0 ?Bn1 ?Bn2 ?Bn3 ?Bn4 ?Bn5
  (case nNoPlace=>k_is)
  (case nUnlike=>k_is)
  (case nBench=>k_is)
  (case nNotDone=>k_is)
  (case nNoRound=>k_is)
  (case nNotReady=>k_is)
  (case nStuck=>k_is)
  (case a0=>k_is)
  (case l0=>k_is)
  (case q0=>k_is)
  (case k0=>k_is)
  (case a1=>k_is)
  (case l1=>k_is)
  (case q1=>k_is)
  (case k1=>k_is)
  (case a2=>k_is)
  (case l2=>k_is)
  (case q2=>k_is)
  (case k2=>k_is)
  (case a3=>k_is)
  (case l3=>k_is)
  (case q3=>k_is)
  (case k3=>k_is)
  (case a4=>k_is)
  (case l4=>k_is)
  (case q4=>k_is)
  (case k4=>k_is)
  (case a5=>k_is)
  (case l5=>k_is)
  (case q5=>k_is)
  (case k5=>k_is)
  (case a6=>k_is)
  (case l6=>k_is)
  (case q6=>k_is)
  (case k6=>k_is)
  (case a7=>k_is)
  (case l7=>k_is)
  (case q7=>k_is)
  (case k7=>k_is)
  (case a8=>k_is)
  (case l8=>k_is)
  (case q8=>k_is)
  (case k8=>k_is)
  (case a9=>k_is)
  (case l9=>k_is)
  (case q9=>k_is)
  (case k9=>k_is)
  (case a10=>k_is)
  (case l10=>k_is)
  (case q10=>k_is)
  (case k10=>k_is)
  (case a11=>k_is)
  (case l11=>k_is)
  (case q11=>k_is)
  (case k11=>k_is)
  (case a12=>k_is)
  (case l12=>k_is)
  (case q12=>k_is)
  (case k12=>k_is)
  (case a13=>k_is)
  (case l13=>k_is)
  (case q13=>k_is)
  (case k13=>k_is)
  (case a14=>k_is)
  (case l14=>k_is)
  (case q14=>k_is)
  (case k14=>k_is)
  (case a15=>k_is)
  (case l15=>k_is)
  (case q15=>k_is)
  (case k15=>k_is)
  (case a16=>k_is)
  (case l16=>k_is)
  (case q16=>k_is)
  (case k16=>k_is)
  (case a17=>k_is)
  (case l17=>k_is)
  (case q17=>k_is)
  (case k17=>k_is)
  (case a18=>k_is)
  (case l18=>k_is)
  (case q18=>k_is)
  (case k18=>k_is)
  (case a19=>k_is)
  (case l19=>k_is)
  (case q19=>k_is)
  (case k19=>k_is)
  (case a20=>k_is)
  (case i20=>k_is)
  (case l20=>k_is)
  (case q20=>k_is)
  (case k20=>k_is)
  (case a21=>k_is)
  (case i21=>k_is)
  (case l21=>k_is)
  (case q21=>k_is)
  (case k21=>k_is)
  (case a22=>k_is)
  (case i22=>k_is)
  (case l22=>k_is)
  (case q22=>k_is)
  (case k22=>k_is)
  (case a23=>k_is)
  (case i23=>k_is)
  (case l23=>k_is)
  (case q23=>k_is)
  (case k23=>k_is)
  (case a24=>k_is)
  (case i24=>k_is)
  (case l24=>k_is)
  (case q24=>k_is)
  (case k24=>k_is)
  (case a25=>k_is)
  (case i25=>k_is)
  (case l25=>k_is)
  (case q25=>k_is)
  (case k25=>k_is)
  (case a26=>k_is)
  (case i26=>k_is)
  (case l26=>k_is)
  (case q26=>k_is)
  (case k26=>k_is)
  (case a27=>k_is)
  (case l27=>k_is)
  (case q27=>k_is)
  (case k27=>k_is)
  (case a28=>k_is)
  (case l28=>k_is)
  (case q28=>k_is)
  (case k28=>k_is)
  (case a29=>k_is)
  (case l29=>k_is)
  (case q29=>k_is)
  (case k29=>k_is)
  (case a30=>k_is)
  (case l30=>k_is)
  (case q30=>k_is)
  (case k30=>k_is)
  (case a31=>k_is)
  (case l31=>k_is)
  (case q31=>k_is)
  (case k31=>k_is)
  (case a32=>k_is)
  (case l32=>k_is)
  (case q32=>k_is)
  (case k32=>k_is)
  (case a33=>k_is)
  (case l33=>k_is)
  (case q33=>k_is)
  (case k33=>k_is)
  (case a34=>k_is)
  (case l34=>k_is)
  (case q34=>k_is)
  (case k34=>k_is)
  (case a35=>k_is)
  (case l35=>k_is)
  (case q35=>k_is)
  (case k35=>k_is)
  (case a36=>k_is)
  (case l36=>k_is)
  (case q36=>k_is)
  (case k36=>k_is)
  (case zmax=>k_is)
  (case zmin=>k_is)
  (case zreversed=>k_is)
  (case ztuple=>k_is)
  (case zlen=>k_is)
  (case zzip=>k_is)
  (case zsum=>k_is)
  (case zrange=>k_is)
  (case zlist=>k_is)
  (case zset=>k_is)
  (case zenumerate=>k_is)
  (case zisinstance=>k_is)
  (case gLOW=>k_is)
  (case xNoPlace=>k_exc)
  (case xUnlike=>k_exc)
  (case xNotDone=>k_exc)
  (case xNoRound=>k_exc)
  (case eUU=>kts_exm)
  (case Rc=>exact Option.isSome_iff_exists.mpr ⟨_,by k_is⟩)
  (case Rga=>k_is)
  (case Rgt=>k_is)
  (case Rcl=>k_is)
  (case Rmo=>k_is)
  (case Rmb=>k_is)
  (case Nc=>exact Option.isSome_iff_exists.mpr ⟨_,by k_is⟩)
  (case Nga=>k_is)
  (case Ngt=>k_is)
  (case Ncl=>k_is)
  (case Nmo=>k_is)
  (case Nmb=>k_is)
  (case kR3=>kit_is)
  (case kN4=>kit_is)
  (case Bpg=>k_is)
  (case Bhd=>k_is)
  (case Bpo=>k_is)
  (case Bsa=>k_is)
  (case mkBench=>k_is)
  (case kpBench=>k_is)
  (case Bn0=>k_is)
  (case Bn1=>k_is)
  (case Bn2=>k_is)
  (case Bn3=>k_is)
  (case Bn4=>k_is)
  (case Bn5=>k_is)
