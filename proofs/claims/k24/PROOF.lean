import PyProof.Rows.All
import Wide.All
import OpenK.AllK
import Wide.FinOn
import Lean
import PyProof.EqAt
import PyProof.EqKinds
import PyProof.TupleCall
import PySem.Challenge.RW_sideloom_k24_whole_views_and_tables
set_option Elab.async false
set_option linter.all false
set_option maxRecDepth 100000
namespace L2
open PySem PySem.Spec PyProof.Rows
abbrev Key := Sum Int Str
def keyIs : Key -> Value -> Bool
  | .inl k, v => Value.isInt k v
  | .inr x, v => Value.isStrOf x v
def keyH (w : World) : Key -> Int
  | .inl k => hashInt k
  | .inr x => hashStr w x
theorem z1s : ∀ {k : Key} {v : Value}, keyIs k v = true -> (∃ i t, k = Sum.inl i /\ v = Value.int i t) \/ (∃ x t, k = Sum.inr x /\ v = Value.str x t)
  | .inl i, v, h => by
    obtain ⟨t, e⟩ := Value.isInt_shape (k := i) (v := v) h
    exact .inl ⟨i, t, rfl, e⟩
  | .inr x, v, h => by
    obtain ⟨t, e⟩ := Value.isStrOf_shape (x := x) (v := v) h
    exact .inr ⟨x, t, rfl, e⟩
theorem keyIs_str (x : Str) (t : Tok) : keyIs (.inr x) (.str x t) = true := by simp [keyIs, Value.isStrOf]
theorem key_ll (a b : Int) : decide ((Sum.inl a : Key) = Sum.inl b) = (a == b) := by
  by_cases e : a = b
  · subst e; simp
  · have h : ¬ (Sum.inl a : Key) = Sum.inl b := fun q => e (Sum.inl.inj q)
    rw [decide_eq_false h]
    exact (beq_eq_false_iff_ne.mpr e).symm
theorem key_rr (a b : Str) : decide ((Sum.inr a : Key) = Sum.inr b) = decide (a = b) := by
  by_cases e : a = b
  · subst e; simp
  · have h : ¬ (Sum.inr a : Key) = Sum.inr b := fun q => e (Sum.inr.inj q)
    rw [decide_eq_false h, decide_eq_false e]
theorem key_lr (a : Int) (b : Str) : decide ((Sum.inl a : Key) = Sum.inr b) = false := decide_eq_false (fun q => nomatch q)
theorem key_rl (a : Str) (b : Int) : decide ((Sum.inr a : Key) = Sum.inl b) = false := decide_eq_false (fun q => nomatch q)
def mixKind (prog : Program) (w : World) : PySem.KeyKind prog w Key where
  is := keyIs
  hash := keyH w
  inj := fun v a b ha hb => by
    rcases z1s ha with ⟨i, t, rfl, rfl⟩ | ⟨x, t, rfl, rfl⟩
    · rcases z1s hb with ⟨j, u, rfl, e⟩ | ⟨y, u, rfl, e⟩
      · injection e with e1 _; rw [e1]
      · exact nomatch e
    · rcases z1s hb with ⟨j, u, rfl, e⟩ | ⟨y, u, rfl, e⟩
      · exact nomatch e
      · injection e with e1 _; rw [e1]
  byValue := fun k v h => by
    rcases z1s h with ⟨i, t, rfl, rfl⟩ | ⟨x, t, rfl, rfl⟩ <;> rfl
  pyHash := fun hv h => by
    rcases z1s hv with ⟨i, t, rfl, rfl⟩ | ⟨x, t, rfl, rfl⟩
    · exact wpAny_pyHash_int h
    · exact wpAny_pyHash_str h
  eqBool := fun hu hv h => by
    rcases z1s hu with ⟨i, t, rfl, rfl⟩ | ⟨x, t, rfl, rfl⟩
    · rcases z1s hv with ⟨j, u, rfl, rfl⟩ | ⟨y, u, rfl, rfl⟩
      · rw [key_ll] at h; exact wpAny_eqBool_int h
      · rw [key_lr] at h; exact SeqAt.EqAt.int_str i t y u _ _ _ _ h
    · rcases z1s hv with ⟨j, u, rfl, rfl⟩ | ⟨y, u, rfl, rfl⟩
      · rw [key_rl] at h; exact SeqAt.EqAt.str_int x t j u _ _ _ _ h
      · rw [key_rr] at h; exact wpAny_eqBool_str h
  «strs» := fun k x t v h => by
    rcases z1s h with ⟨i, u, rfl, e⟩ | ⟨y, u, rfl, e⟩
    · exact nomatch e
    · injection e with e1 _
      subst e1
      cases v <;> rfl
inductive V where
  | non | bl (b : Bool) | int (i : Int) | str (x : Str) | byt (b : Array UInt8) | flt (b : UInt64) | ref (a : Addr) | ty (n : String)
  deriving DecidableEq
def RelV : V -> Value -> Prop
  | .non, u => u = Value.none
  | .bl b, u => u = Value.bool b
  | .int i, u => ∃ t, u = Value.int i t
  | .str x, u => ∃ t, u = Value.str x t
  | .byt b, u => ∃ t, u = Value.bytes b t
  | .flt b, u => ∃ t, u = Value.float b t
  | .ref a, u => u = Value.ref a
  | .ty n, u => u = Value.type n
abbrev Vals : List V -> List Value -> Prop := Paired RelV
theorem Vals.length {xs : List V} {us : List Value} (r : Vals xs us) : xs.length = us.length := Paired.length r
theorem Vals.get : ∀ {xs : List V} {us : List Value} {i : Nat} {x : V}, Vals xs us -> xs[i]? = some x -> ∃ u, us[i]? = some u /\ RelV x u
  | _, _, _, _, .nil, e => by simp at e
  | _, _, 0, _, .cons r _, e => by simp at e; subst e; exact ⟨_, rfl, r⟩
  | _, _, i + 1, x, .cons _ t, e => by
    obtain ⟨u, h1, h2⟩ := Vals.get (i := i) (x := x) t (by simpa using e)
    exact ⟨u, by simpa using h1, h2⟩
theorem Vals.set {x : V} {u : Value} (r : RelV x u) : ∀ {xs : List V} {us : List Value} (i : Nat), Vals xs us -> Vals (xs.set i x) (us.set i u)
  | _, _, _, .nil => .nil
  | _, _, 0, .cons _ t => .cons r t
  | _, _, i + 1, .cons q t => .cons q (Vals.set r i t)
theorem Vals.append : ∀ {xs ys : List V} {us ws : List Value}, Vals xs us -> Vals ys ws -> Vals (xs ++ ys) (us ++ ws)
  | _, _, _, _, .nil, s => s
  | _, _, _, _, .cons r t, s => .cons r (Vals.append t s)
theorem Vals.take : ∀ {xs : List V} {us : List Value} (n : Nat), Vals xs us -> Vals (xs.take n) (us.take n)
  | _, _, 0, _ => .nil
  | _, _, _ + 1, .nil => .nil
  | _, _, n + 1, .cons r t => .cons r (Vals.take n t)
theorem Vals.drop : ∀ {xs : List V} {us : List Value} (n : Nat), Vals xs us -> Vals (xs.drop n) (us.drop n)
  | _, _, 0, r => r
  | _, _, _ + 1, .nil => .nil
  | _, _, n + 1, .cons _ t => Vals.drop n t
def RelO : Option V -> Option Value -> Prop
  | some v, some u => RelV v u
  | none, none => True
  | _, _ => False
def KV {κ : Type} : List (κ × V) -> List (κ × Value) -> Prop := Paired fun (p : κ × V) (q : κ × Value) => p.1 = q.1 /\ RelV p.2 q.2
def kV : Key -> V
  | .inl i => .int i
  | .inr x => .str x
inductive HO where
  | lst (xs : List V)
  | tup (xs : List V)
  | dK (kvs : List (Key × V)) | dT (kvs : List (List Key × V))
  | set (S : Int -> Bool) (n : Nat)
  | ins (C dx : Addr) (fs : List (Str × V))
  | own (x : Addr)
  | xd (fs : List (Str × V))
  | met (f x : Addr)
  | rng (lo hi : Int)
  | frz (o : Obj) (u : HO)
  | tbl (ps : Array Value)
  | ext (φ : Heap -> Prop)
abbrev Hp := Addr -> Option HO
def upd (H : Hp) (a : Addr) (o : HO) : Hp := fun b => if b = a then some o else H b
theorem z0k {H : Hp} {a : Addr} {o : HO} : upd H a o a = some o := by unfold upd; rw [if_pos rfl]
theorem z0x {H : Hp} {a b : Addr} {o : HO} (h : b ≠ a) : upd H a o b = H b := by unfold upd; rw [if_neg h]
theorem z2i {H : Hp} {a b : Addr} {o : HO} (h : H a = some o) (h' : H b = none) : a ≠ b := by
  intro e; subst e; rw [h] at h'; cases h'
section
variable (P : Program) (w : World)
def ObjOk (H : Hp) (h : Heap) (a : Addr) : HO -> Prop
  | .lst xs => xs.length ≤ sizeLine /\ ∃ (its : List Value) (n : Nat), Vals xs its /\ h.get? a = some { cls := .type "list", data := .seq its.toArray n }
  | .tup xs => xs.length ≤ sizeLine /\ ∃ its : List Value, Vals xs its /\ IsTup h a its.toArray
  | .dK kvs => kvs.length ≤ sizeLine /\ (a == sysModules) = false /\ ∃ vs, KV kvs vs /\ h.DictOf (mixKind P w) a vs
  | .dT kvs => kvs.length ≤ sizeLine /\ (a == sysModules) = false /\ ∃ xs : List (List Key × Addr × Value),
      Paired (fun (p : List Key × V) (q : List Key × Addr × Value) => p.1 = q.1 /\ H q.2.1 = some (.tup (p.1.map kV)) /\ RelV p.2 q.2.2) kvs xs /\
      ∃ o es ep, h.get? a = some o /\ o.ExactDict /\ o.data = .dict es ep /\ es.toList = xs.map (entryOfKey (tupleKind (mixKind P w))) /\ (xs.map (·.1)).Nodup
  | .set S n => h.SetOf (intKind P w) a S n
  | .ins C dx fs => H dx = some (.own a) /\ fs.length ≤ 1000 /\ dx ≠ a /\ h.get? a = some (PySem.W.instObj C dx) /\
      ∃ mA, h.Ns1 dx mA /\ (∀ f, RelO (fs.lookup f) (mA f)) /\ PySem.Within mA (fs.map (·.1))
  | .own _ => ∃ o, h.get? a = some o
  | .xd fs => ∃ mA, h.Ns1 a mA /\ ∀ f, RelO (fs.lookup f) (mA f)
  | .rng lo hi => ∃ t u v, h.get? a = some { cls := .type "range", data := .fields #[.int lo t, .int hi u, .int 1 v] }
  | .frz o u => h.get? a = some o /\ ObjOk H h a u
  | .tbl ps => h.get? a = some { cls := .none, data := .fields ps }
  | .met f x => h.get? a = some (PySem.W.methodObj (.ref f) (.ref x))
  | .ext φ => φ h /\ (∃ o, h.get? a = some o) /\ ∀ h1 h2 : Heap, φ h1 -> (∀ o, h1.get? a = some o -> h2.get? a = some o) -> φ h2
def HOk (H : Hp) (h : Heap) : Prop := ∀ a o, H a = some o -> ObjOk P w H h a o
end
section
variable {P : Program} {w : World} {H H' : Hp} {h h' : Heap} {a : Addr} {o : HO}
theorem ObjOk.lt (x : ObjOk P w H h a o) : a < h.objs.size := by
  cases o with
  | lst xs => obtain ⟨_, _, _, _, e⟩ := x; exact Heap.lt_size e
  | tup xs => obtain ⟨_, _, _, p⟩ := x; exact p.lt
  | dK kvs => obtain ⟨_, _, _, _, o, _, _, e, _⟩ := x; exact Heap.lt_size e
  | dT kvs => obtain ⟨_, _, _, _, o, _, _, e, _⟩ := x; exact Heap.lt_size e
  | set S n => obtain ⟨o, _, _, _, e, _⟩ := x; exact Heap.lt_size e
  | ins C dx fs => obtain ⟨_, _, _, e, _⟩ := x; exact Heap.lt_size e
  | own y => obtain ⟨_, e⟩ := x; exact Heap.lt_size e
  | xd fs => obtain ⟨_, ⟨_, _, _, e, _⟩, _⟩ := x; exact Heap.lt_size e
  | rng lo hi => obtain ⟨_, _, _, e⟩ := x; exact Heap.lt_size e
  | frz ob u => obtain ⟨e, _⟩ := x; exact Heap.lt_size e
  | tbl ps => exact Heap.lt_size (show h.get? a = some _ from x)
  | met f y => exact Heap.lt_size (show h.get? a = some _ from x)
  | ext φ => obtain ⟨_, ⟨_, e⟩, _⟩ := x; exact Heap.lt_size e
theorem Paired.mapP {α β : Type} {F G : α -> β -> Prop} : ∀ {l₁ : List α} {l₂ : List β}, Paired F l₁ l₂ -> (∀ a b, F a b -> G a b) -> Paired G l₁ l₂
  | _, _, .nil, _ => .nil
  | _, _, .cons r t, f => .cons (f _ _ r) (Paired.mapP t f)
theorem ObjOk.stay (x : ObjOk P w H h a o) (k : ∀ b u, (b = a \/ H b = some (.own a)) -> h.get? b = some u -> h'.get? b = some u)
    (ho : ∀ b, H b = some (.own a) -> H' b = some (.own a)) (ht : ∀ b xs, H b = some (.tup xs) -> H' b = some (.tup xs)) : ObjOk P w H' h' a o := by
  induction o with
  | lst xs => obtain ⟨z, its, n, r, e⟩ := x; exact ⟨z, its, n, r, k _ _ (.inl rfl) e⟩
  | tup xs => obtain ⟨z, its, r, ob, e, c⟩ := x; exact ⟨z, its, r, ob, k _ _ (.inl rfl) e, c⟩
  | dK kvs => obtain ⟨z, y, vs, r, ob, es, ep, e, c⟩ := x; exact ⟨z, y, vs, r, ob, es, ep, k _ _ (.inl rfl) e, c⟩
  | dT kvs =>
    obtain ⟨z, y, xs, r, ob, es, ep, e, c⟩ := x
    exact ⟨z, y, xs, Paired.mapP r fun p q z => ⟨z.1, ht _ _ z.2.1, z.2.2⟩, ob, es, ep, k _ _ (.inl rfl) e, c⟩
  | set S n => obtain ⟨ob, es, ep, t, e, c⟩ := x; exact ⟨ob, es, ep, t, k _ _ (.inl rfl) e, c⟩
  | ins C dx fs =>
    obtain ⟨d, z, ne, e, mA, ⟨od, es, ep, e2, c⟩, r⟩ := x
    exact ⟨ho _ d, z, ne, k _ _ (.inl rfl) e, mA, ⟨od, es, ep, k _ _ (.inr d) e2, c⟩, r⟩
  | own y => obtain ⟨ob, e⟩ := x; exact ⟨ob, k _ _ (.inl rfl) e⟩
  | xd fs => obtain ⟨mA, ⟨od, es, ep, e, c⟩, r⟩ := x; exact ⟨mA, ⟨od, es, ep, k _ _ (.inl rfl) e, c⟩, r⟩
  | rng lo hi => obtain ⟨t, u, v, e⟩ := x; exact ⟨t, u, v, k _ _ (.inl rfl) e⟩
  | frz ob u ih => obtain ⟨e, q⟩ := x; exact ⟨k _ _ (.inl rfl) e, ih q⟩
  | tbl ps =>
    have e : h.get? a = some { cls := .none, data := .fields ps } := x
    show h'.get? a = some { cls := .none, data := .fields ps }
    exact k a _ (.inl rfl) e
  | met f y =>
    have e : h.get? a = some (PySem.W.methodObj (.ref f) (.ref y)) := x
    show h'.get? a = some (PySem.W.methodObj (.ref f) (.ref y))
    exact k a _ (.inl rfl) e
  | ext φ => obtain ⟨p, ⟨o, e⟩, st⟩ := x; exact ⟨st _ _ p fun o q => k _ _ (.inl rfl) q, ⟨o, k _ _ (.inl rfl) e⟩, st⟩
theorem HOk.lt (x : HOk P w H h) (e : H a = some o) : a < h.objs.size := (x a o e).lt
theorem HOk.fresh (x : HOk P w H h) (e : h.objs.size ≤ a) : H a = none := by
  cases q : H a with
  | none => rfl
  | some u => exact absurd (Nat.lt_of_lt_of_le (x.lt q) e) (Nat.lt_irrefl _)
theorem HOk.kept (x : HOk P w H h) (k : ∀ b u, h.get? b = some u -> h'.get? b = some u) : HOk P w H h' := fun a o e =>
  (x a o e).stay (fun b u _ q => k b u q) (fun _ q => q) fun _ _ q => q
theorem HOk.laid (x : HOk P w H h) (k : ∀ b u, h.get? b = some u -> h'.get? b = some u) (hp : h.objs.size ≤ a) (new : ObjOk P w (upd H a o) h' a o) : HOk P w (upd H a o) h' := fun b u e => by
  have hn := x.fresh hp
  by_cases hb : b = a
  · subst hb; rw [z0k] at e; cases e; exact new
  · rw [z0x hb] at e
    exact (x b u e).stay (fun c v _ q => k c v q) (fun c q => by rw [z0x (z2i q hn)]; exact q) fun c xs q => by rw [z0x (z2i q hn)]; exact q
end
def Rd (H : Hp) (a : Addr) (u : HO) : Prop := H a = some u \/ ∃ o, H a = some (.frz o u)
theorem Rd.of {H : Hp} {a : Addr} {u : HO} (h : H a = some u) : Rd H a u := .inl h
theorem Rd.ok {P : Program} {w : World} {H : Hp} {h : Heap} {a : Addr} {u : HO} (r : Rd H a u) (x : HOk P w H h) : ObjOk P w H h a u := by
  rcases r with r | ⟨o, r⟩
  · exact x a u r
  · obtain ⟨_, q⟩ := x a _ r
    exact q
def Mut : Option HO -> Prop
  | some (.lst _) => True
  | some (.dK _) => True
  | some (.dT _) => True
  | some (.set _ _) => True
  | some (.ins _ _ _) => True
  | some (.ext _) => True
  | _ => False
section
variable {P : Program} {w : World} {H : Hp} {h h' : Heap} {x e : Addr} {o' : HO}
theorem HOk.write (ok : HOk P w H h) (mu : Mut (H x)) (he : e = x \/ H e = some (.own x)) (k : ∀ b u, b ≠ e -> h.get? b = some u -> h'.get? b = some u) (heo : ∃ u, h'.get? e = some u)
    (new : ObjOk P w (upd H x o') h' x o') : HOk P w (upd H x o') h' := fun b u q => by
  have nown : ∀ c y, H c = some (.own y) -> c ≠ x := fun c y r z => by subst z; rw [r] at mu; exact mu
  have ntup : ∀ c xs, H c = some (.tup xs) -> c ≠ x := fun c xs r z => by subst z; rw [r] at mu; exact mu
  by_cases hb : b = x
  · subst hb; rw [z0k] at q; cases q; exact new
  · rw [z0x hb] at q
    by_cases hbe : b = e
    · have q' : H b = some (.own x) := by
        rcases he with z | z
        · exact absurd (hbe.trans z) hb
        · rw [hbe]; exact z
      rw [q] at q'; cases q'
      obtain ⟨v, hv⟩ := heo
      exact ⟨v, by rw [hbe]; exact hv⟩
    · refine (ok b u q).stay (fun c v hc r => k c v ?_ r) (fun c r => by rw [z0x (nown c b r)]; exact r) fun c xs r => by rw [z0x (ntup c xs r)]; exact r
      rcases hc with rfl | hc
      · exact hbe
      · rintro rfl
        rcases he with z | z
        · exact nown c b hc z
        · rw [hc] at z; cases z; exact hb rfl
end
structure Un (fs ex : List Addr) (H H' : Hp) (h h' : Heap) : Prop where
  keep : ∀ b o, h.get? b = some o -> H b = none -> b ∉ fs -> b ∉ ex -> h'.get? b = some o
  slot : ∀ b o, h.get? b = some o -> H b = none -> b ∈ fs -> b ∉ ex -> ∃ sl, h'.get? b = some { o with slots := sl }
  free : ∀ b o, h.get? b = some o -> H b = none -> b ∉ ex -> H' b = none
  there : ∀ b o, h.get? b = some o -> b ∉ ex -> ∃ o', h'.get? b = some o'
  tups : ∀ b xs, H b = some (.tup xs) -> H' b = some (.tup xs)
  frzs : ∀ b o u, H b = some (.frz o u) -> H' b = some (.frz o u)
  tbls : ∀ b ps, H b = some (.tbl ps) -> ∃ more, H' b = some (.tbl (ps ++ more))
section
variable {fs fs' ex ex' : List Addr} {H H1 H2 : Hp} {h h1 h2 h' : Heap} {a x e : Addr} {o : HO}
theorem Un.any (u : Un fs ex H H1 h h1) {b : Addr} {ob : Obj} (q : h.get? b = some ob) (n : H b = none) (hx : b ∉ ex) : ∃ sl, h1.get? b = some { ob with slots := sl } := by
  by_cases hb : b ∈ fs
  · exact u.slot b ob q n hb hx
  · exact ⟨ob.slots, u.keep b ob q n hb hx⟩
theorem Un.trans (a : Un fs ex H H1 h h1) (b : Un fs ex H1 H2 h1 h2) : Un fs ex H H2 h h2 where
  keep := fun c ob q n hc hx => b.keep c ob (a.keep c ob q n hc hx) (a.free c ob q n hx) hc hx
  slot := fun c ob q n hc hx => by
    obtain ⟨sl, e1⟩ := a.slot c ob q n hc hx
    obtain ⟨sl', e2⟩ := b.slot c _ e1 (a.free c ob q n hx) hc hx
    exact ⟨sl', e2⟩
  free := fun c ob q n hx => by
    obtain ⟨o', e1⟩ := a.there c ob q hx
    exact b.free c o' e1 (a.free c ob q n hx) hx
  there := fun c ob q hx => by
    obtain ⟨o', e1⟩ := a.there c ob q hx
    exact b.there c o' e1 hx
  tups := fun c xs q => b.tups c xs (a.tups c xs q)
  frzs := fun c ob xs q => b.frzs c ob xs (a.frzs c ob xs q)
  tbls := fun c ps q => by
    obtain ⟨m1, e1⟩ := a.tbls c ps q
    obtain ⟨m2, e2⟩ := b.tbls c _ e1
    exact ⟨m1 ++ m2, by rw [e2, Array.append_assoc]⟩
theorem Un.kept (k : ∀ b u, h.get? b = some u -> h'.get? b = some u) : Un fs ex H H h h' :=
  ⟨fun b ob q _ _ _ => k b ob q, fun b ob q _ _ _ => ⟨ob.slots, k b ob q⟩, fun _ _ _ n _ => n, fun b ob q _ => ⟨ob, k b ob q⟩, fun _ _ q => q, fun _ _ _ q => q, fun _ ps q => ⟨#[], by rw [q]; simp⟩⟩
theorem Un.refl : Un fs ex H H h h := Un.kept fun _ _ q => q
theorem Un.laid (k : ∀ b u, h.get? b = some u -> h'.get? b = some u) (hp : h.objs.size ≤ a) (hn : H a = none) : Un fs ex H (upd H a o) h h' where
  keep := fun b u q _ _ _ => k b u q
  slot := fun b u q _ _ _ => ⟨u.slots, k b u q⟩
  free := fun b u q n _ => by rw [z0x (Nat.ne_of_lt (Nat.lt_of_lt_of_le (Heap.lt_size q) hp))]; exact n
  there := fun b u q _ => ⟨u, k b u q⟩
  tups := fun b xs q => by rw [z0x (z2i q hn)]; exact q
  frzs := fun b u xs q => by rw [z0x (z2i q hn)]; exact q
  tbls := fun b ps q => ⟨#[], by rw [z0x (z2i q hn), q]; simp⟩
theorem Un.write (mu : Mut (H x)) (he : e = x \/ H e = some (.own x)) (k : ∀ b u, b ≠ e -> h.get? b = some u -> h'.get? b = some u) (heo : ∃ u, h'.get? e = some u) : Un fs ex H (upd H x o) h h' := by
  have hx : ∀ b, H b = none -> b ≠ x := fun b n z => by subst z; rw [n] at mu; exact mu
  have hb : ∀ b, H b = none -> b ≠ e := fun b n z => by
    subst z
    rcases he with r | r
    · exact hx b n r
    · rw [n] at r; cases r
  have hm : ∀ b u, H b = some u -> ¬ Mut (some u) -> b ≠ x := fun b u q nm z => by subst z; rw [q] at mu; exact nm mu
  refine ⟨fun b u q n _ _ => k b u (hb b n) q, fun b u q n _ _ => ⟨u.slots, k b u (hb b n) q⟩, fun b u q n _ => by rw [z0x (hx b n)]; exact n, fun b u q _ => ?_,
    fun b xs q => by rw [z0x (hm b _ q fun z => z)]; exact q, fun b u xs q => by rw [z0x (hm b _ q fun z => z)]; exact q, fun b ps q => ⟨#[], by rw [z0x (hm b _ q fun z => z), q]; simp⟩⟩
  by_cases hbe : b = e
  · subst hbe; exact heo
  · exact ⟨u, k b u hbe q⟩
theorem Un.mono (u : Un fs ex H H1 h h1) (hs : ∀ b ∈ fs, b ∈ fs') (hx : ∀ b ∈ ex, b ∈ ex') : Un fs' ex' H H1 h h1 :=
  ⟨fun b ob q n hb he => u.keep b ob q n (fun z => hb (hs b z)) fun z => he (hx b z), fun _ _ q n _ he => u.any q n fun z => he (hx _ z), fun b ob q n he => u.free b ob q n fun z => he (hx b z), fun b ob q he => u.there b ob q fun z => he (hx b z), u.tups, u.frzs, u.tbls⟩
end
def trk (h : Heap) (H : Hp) : List Addr := (List.range h.objs.size).filter fun a => (H a).isSome
def hidT (h : Heap) (H : Hp) : Heap := PySem.W.hideAll h (trk h H)
theorem hidT_size (h : Heap) (H : Hp) : (hidT h H).objs.size = h.objs.size := PySem.W.hideAll_size _ _
theorem hidT_get {h : Heap} {H : Hp} {b : Addr} {o : Obj} (e : h.get? b = some o) (n : H b = none) : (hidT h H).get? b = some o :=
  PySem.W.hideAll_get _ e fun hm => by
    have q : (H b).isSome = true := (List.mem_filter.mp hm).2
    rw [n] at q; simp at q
theorem of_hidT {h : Heap} {H : Hp} {b : Addr} {o : Obj} (e : (hidT h H).get? b = some o) : h.get? b = some o /\ H b = none := by
  have e' : h.get? b = some o := PySem.W.of_hideAll (trk h H) e
  refine ⟨e', ?_⟩
  cases q : H b with
  | none => rfl
  | some x =>
    have hm : b ∈ trk h H := List.mem_filter.mpr ⟨List.mem_range.mpr (Heap.lt_size e'), by simp [q]⟩
    have z : (hidT h H).get? b = none := PySem.W.hideAll_none (trk h H) hm
    rw [z] at e; cases e
def allNews (g h : Heap) (L : Addr) : List (Addr × Obj) := (List.range h.objs.size).filterMap fun a => if a = L \/ (g.get? a).isSome = true then none else (h.get? a).map fun o => (a, o)
def rest (g h : Heap) (L d : Addr) : List (Addr × Obj) := (allNews g h L).filter fun p => decide (p.1 ≠ d)
structure Mod (K : PySem.W.Frag) (mg : Str -> Option Value) (base : Heap) : Prop where
  kin : K.In base
  glob : base.Ns mainGlobals mg
  blt : ∃ mb, base.Ns builtinsNs mb /\ ∀ x : Str, x ≠ "__name__" -> mb x = bootBuiltins x
  nolimit : base.NoLimit
structure Cx where
  prog : Program
  w : World
  K : PySem.W.Frag
  mg : Str -> Option Value
  base : Heap
  A : Around
  N : List Str
  s₀ : Shared
  H₀ : Hp
  env : Env
  outer : List Env
  stack : List Env
  ex : List Addr
  fn : Str -> Bool
  calm : Bool
  pn : List (Addr × Obj)
  xe : Value -> Shared -> Prop
def frs (l : List Env) : List Addr := l.filterMap (·.frame)
abbrev Cx.fs (X : Cx) : List Addr := frs X.outer
def Vis (sc : Scope) (x : Str) : Prop := sc.names.lookup x = some .local \/ sc.names.lookup x = some .cell \/ sc.names.lookup x = some .free
def Loc (sc : Scope) (x : Str) : Prop := sc.names.lookup x = some .local \/ sc.names.lookup x = some .cell
def Look (env : Env) (h : Heap) (m : Str -> Option Value) (x : Str) (u : Value) : Prop :=
  (env.kindOf x = some .local /\ m x = some u) \/ ((env.kindOf x = some .cell \/ env.kindOf x = some .free) /\ ∃ c, env.cells.lookup x = some c /\ h.IsCell c (some u))
structure Cx.Ok (X : Cx) : Prop where
  mod : Mod X.K X.mg X.base
  kind : X.env.scope.kind = .function
  glob : X.env.globals = mainGlobals
  blt : X.env.builtins = builtinsNs
  above : X.s₀.heap.objs.size ≤ X.env.locals
  inj : ∀ x y c, X.env.cells.lookup x = some c -> X.env.cells.lookup y = some c -> x = y
  has : ∀ x, (X.env.kindOf x = some .cell \/ X.env.kindOf x = some .free) -> ∃ c, X.env.cells.lookup x = some c
  cab : ∀ x c, X.fn x = true -> X.env.cells.lookup x = some c -> X.s₀.heap.objs.size ≤ c
  hd : X.calm = true -> X.A.handled = none
  frames : X.A.frames = some X.stack
  stk : X.stack = X.outer \/ (X.stack = X.env :: X.outer /\ X.env.frame = some X.env.locals)
  exf : ∀ b ∈ X.ex, b ≠ X.env.locals /\ ∀ x c, X.env.cells.lookup x = some c -> c ≠ b
  bs : ∀ b o, X.base.get? b = some o -> X.s₀.heap.get? b = some o /\ X.H₀ b = none
  bsz : X.base.objs.size ≤ X.s₀.heap.objs.size
  noex : ∀ b o, X.base.get? b = some o -> b ∉ X.ex
  exfs : ∀ b ∈ X.ex, b ∉ X.fs
  funs : X.s₀.heap.FunFrames X.base X.outer
  frf : ∀ b ∈ X.fs, X.H₀ b = none
structure Inv (X : Cx) (pins : List (Addr × Obj)) (σ : List (Option V)) (H : Hp) (s : Shared) : Prop where
  ok : X.Ok
  os : s.os = X.s₀.os
  bare : AllBare s.gens
  base : Un X.fs X.ex X.H₀ H X.s₀.heap s.heap
  loc : ∃ m, s.heap.Ns X.env.locals m /\ ∀ (i : Nat) (x : Str) (v : V), X.N[i]? = some x -> σ[i]? = some (some v) -> Vis X.env.scope x -> ∃ u, RelV v u /\ Look X.env s.heap m x u
  cell : ∀ x c, X.env.cells.lookup x = some c -> ∃ v, s.heap.IsCell c v
  free : H X.env.locals = none
  freeC : ∀ x c, X.env.cells.lookup x = some c -> H c = none
  pin : ∀ p ∈ X.pn ++ pins, s.heap.get? p.1 = some p.2 /\ H p.1 = none /\ p.1 ≠ X.env.locals /\ p.1 ∉ X.fs /\ ∀ v, p.2.data ≠ .cell v
  hok : HOk X.prog X.w H s.heap
  len : σ.length = X.N.length
section
variable {X : Cx} {pins : List (Addr × Obj)} {σ : List (Option V)} {H H' : Hp} {s : Shared} {h' : Heap}
theorem Cx.Ok.nofr (ok : X.Ok) {b : Addr} {o : Obj} (e : X.base.get? b = some o) : b ∉ X.fs := fun hb => by
  have := (ok.funs.mem hb).1
  rw [e] at this; cases this
theorem Inv.bs (I : Inv X pins σ H s) : ∀ b o, X.base.get? b = some o -> s.heap.get? b = some o /\ H b = none := fun b o e =>
  ⟨I.base.keep b o (I.ok.bs b o e).1 (I.ok.bs b o e).2 (I.ok.nofr e) (I.ok.noex b o e), I.base.free b o (I.ok.bs b o e).1 (I.ok.bs b o e).2 (I.ok.noex b o e)⟩
theorem Inv.bk (I : Inv X pins σ H s) : ∀ b o, X.base.get? b = some o -> s.heap.get? b = some o := fun b o e => (I.bs b o e).1
theorem Inv.mod (I : Inv X pins σ H s) : Mod X.K X.mg X.base := I.ok.mod
theorem Inv.kIn (I : Inv X pins σ H s) : X.K.In s.heap := I.ok.mod.kin.keeps I.bk
theorem Inv.nolimit (I : Inv X pins σ H s) : s.heap.NoLimit := I.ok.mod.nolimit.keeps I.bk
theorem Inv.fr (I : Inv X pins σ H s) : ∃ m, Fr X.base X.env.locals s.heap m :=
  let ⟨m, hn, _⟩ := I.loc
  ⟨m, hn, I.bk, Nat.le_trans I.ok.bsz I.ok.above⟩
theorem Inv.lt (I : Inv X pins σ H s) : X.env.locals < s.heap.objs.size := let ⟨_, hn, _⟩ := I.loc; hn.lt
theorem Inv.sz (I : Inv X pins σ H s) : X.s₀.heap.objs.size ≤ s.heap.objs.size := Nat.le_trans I.ok.above (Nat.le_of_lt I.lt)
theorem Inv.nofs (I : Inv X pins σ H s) {a : Addr} (h : s.heap.objs.size ≤ a) : a ∉ X.fs := fun hb => by
  obtain ⟨_, o, ho, _⟩ := I.ok.funs.mem hb
  exact absurd (Nat.lt_of_lt_of_le (Heap.lt_size ho) (Nat.le_trans I.sz h)) (Nat.lt_irrefl _)
theorem Inv.cne (I : Inv X pins σ H s) : ∀ x c, X.env.cells.lookup x = some c -> c ≠ X.env.locals := fun x c e z => by
  obtain ⟨v, o, ho, hd⟩ := I.cell x c e
  obtain ⟨m, ⟨o', es, ep, ho', hd', _⟩, _⟩ := I.loc
  rw [z, ho'] at ho; cases ho; rw [hd'] at hd; cases hd
theorem Inv.funs (I : Inv X pins σ H s) : s.heap.FunFrames X.base X.outer := by
  have all : ∀ (l : List Env), (∀ b ∈ frs l, b ∈ X.fs) -> X.s₀.heap.FunFrames X.base l -> s.heap.FunFrames X.base l := by
    intro l
    induction l with
    | nil => intro _ _; trivial
    | cons env r ih =>
      intro hs hl
      obtain ⟨hk, ⟨L, o, hf, hn, ho, hd⟩, hr⟩ := hl
      have hL : L ∈ X.fs := hs L (by unfold frs; rw [List.filterMap_cons, hf]; exact List.mem_cons_self)
      obtain ⟨sl, e⟩ := I.base.slot L o ho (I.ok.frf L hL) hL fun z => I.ok.exfs L z hL
      exact ⟨hk, ⟨L, _, hf, hn, e, hd⟩, ih (fun b hb => hs b (by unfold frs; rw [List.filterMap_cons, hf]; exact List.mem_cons_of_mem _ hb)) hr⟩
  exact all X.outer (fun _ hb => hb) I.ok.funs
theorem Inv.stack (I : Inv X pins σ H s) : s.heap.FunFrames X.base X.stack := by
  rcases I.ok.stk with e | ⟨e, hf⟩
  · rw [e]; exact I.funs
  · rw [e]
    obtain ⟨m, hn, _⟩ := I.loc
    refine .cons (by rw [I.ok.kind]; decide) hf hn ?_ I.funs
    exact Heap.get?_none_of_le (Nat.le_trans I.ok.bsz I.ok.above)
theorem Inv.stkSub (I : Inv X pins σ H s) : ∀ b ∈ frs X.stack, b ∈ X.env.locals :: X.fs := fun b hb => by
  rcases I.ok.stk with e | ⟨e, hf⟩
  · rw [e] at hb; exact List.mem_cons_of_mem _ hb
  · rw [e] at hb
    unfold frs at hb
    rw [List.filterMap_cons, hf] at hb
    exact hb
theorem Inv.stkFree (I : Inv X pins σ H s) : ∀ b ∈ frs X.stack, H b = none := fun b hb => by
  rcases List.mem_cons.mp (I.stkSub b hb) with e | hb
  · rw [e]; exact I.free
  · obtain ⟨_, o, ho, _⟩ := I.ok.funs.mem hb
    exact I.base.free b o ho (I.ok.frf b hb) fun z => I.ok.exfs b z hb
theorem Inv.step {g' : Array GenState} {t' : Nat} {d' : Drawn} {ch : List Addr} (I : Inv X pins σ H s)
    (hch : ∀ b ∈ ch, (b ∈ X.ex \/ X.s₀.heap.objs.size ≤ b) /\ b ≠ X.env.locals /\ (∀ x c, X.env.cells.lookup x = some c -> c ≠ b) /\ ∀ p ∈ X.pn ++ pins, p.1 ≠ b)
    (keep : ∀ b o, b ≠ X.env.locals -> b ∉ X.fs -> b ∉ ch -> s.heap.get? b = some o -> H b = none -> h'.get? b = some o)
    (slot : ∀ b o, b ≠ X.env.locals -> b ∈ X.fs -> b ∉ ch -> s.heap.get? b = some o -> H b = none -> ∃ sl, h'.get? b = some { o with slots := sl }) (free : ∀ b o, b ∉ ch -> s.heap.get? b = some o -> H b = none -> H' b = none)
    (there : ∀ b o, b ∉ ch -> s.heap.get? b = some o -> ∃ o', h'.get? b = some o')
    (tups : ∀ b xs, H b = some (.tup xs) -> H' b = some (.tup xs)) (frzs : ∀ b o u, H b = some (.frz o u) -> H' b = some (.frz o u)) (tbls : ∀ b ps, H b = some (.tbl ps) -> ∃ more, H' b = some (.tbl (ps ++ more)))
    (ns : ∀ m, s.heap.Ns X.env.locals m -> h'.Ns X.env.locals m) (hok : HOk X.prog X.w H' h') (hg : AllBare g') :
    Inv X pins σ H' { s with heap := h', gens := g', drawn := d', toks := t' } := by
  have neL : ∀ b o, X.s₀.heap.get? b = some o -> b ≠ X.env.locals := fun b o e => Nat.ne_of_lt (Nat.lt_of_lt_of_le (Heap.lt_size e) I.ok.above)
  have neC : ∀ b o, X.s₀.heap.get? b = some o -> b ∉ X.ex -> b ∉ ch := fun b o e hx hb => by
    rcases (hch b hb).1 with z | z
    · exact hx z
    · exact absurd (Nat.lt_of_lt_of_le (Heap.lt_size e) z) (Nat.lt_irrefl _)
  have cellK : ∀ x c, X.env.cells.lookup x = some c -> ∀ v, s.heap.IsCell c v -> h'.IsCell c v := fun x c e v ⟨o, ho, hd⟩ => by
    have nch : c ∉ ch := fun z => (hch c z).2.2.1 x c e rfl
    by_cases hc : c ∈ X.fs
    · obtain ⟨sl, q⟩ := slot c o (I.cne x c e) hc nch ho (I.freeC x c e)
      exact ⟨_, q, hd⟩
    · exact ⟨o, keep c o (I.cne x c e) hc nch ho (I.freeC x c e), hd⟩
  refine ⟨I.ok, I.os, hg, ⟨fun b o e n hb hx => ?_, fun b o e n hb hx => ?_, fun b o e n hx => ?_, fun b o e hx => ?_, fun b xs e => tups b xs (I.base.tups b xs e), fun b o xs e => frzs b o xs (I.base.frzs b o xs e), fun b ps e => ?_⟩, ?_, fun x c e => ?_, ?_, fun x c e => ?_, fun p hp => ?_, hok, I.len⟩
  · exact keep b o (neL b o e) hb (neC b o e hx) (I.base.keep b o e n hb hx) (I.base.free b o e n hx)
  · obtain ⟨sl, e1⟩ := I.base.slot b o e n hb hx
    obtain ⟨sl', e2⟩ := slot b _ (neL b o e) hb (neC b o e hx) e1 (I.base.free b o e n hx)
    exact ⟨sl', e2⟩
  · obtain ⟨o', e1⟩ := I.base.there b o e hx
    exact free b o' (neC b o e hx) e1 (I.base.free b o e n hx)
  · obtain ⟨o', e1⟩ := I.base.there b o e hx
    exact there b o' (neC b o e hx) e1
  · obtain ⟨m1, e1⟩ := I.base.tbls b ps e
    obtain ⟨m2, e2⟩ := tbls b _ e1
    exact ⟨m1 ++ m2, by rw [e2, Array.append_assoc]⟩
  · obtain ⟨m, hn, hl⟩ := I.loc
    refine ⟨m, ns m hn, fun i x v e1 e2 e3 => ?_⟩
    obtain ⟨u, r, l⟩ := hl i x v e1 e2 e3
    refine ⟨u, r, ?_⟩
    rcases l with l | ⟨k, c, e, z⟩
    · exact .inl l
    · exact .inr ⟨k, c, e, cellK x c e _ z⟩
  · obtain ⟨v, z⟩ := I.cell x c e
    exact ⟨v, cellK x c e v z⟩
  · obtain ⟨m, ⟨o, _, _, ho, _⟩, _⟩ := I.loc
    exact free _ o (fun z => (hch _ z).2.1 rfl) ho I.free
  · obtain ⟨v, o, ho, hd⟩ := I.cell x c e
    exact free c o (fun z => (hch c z).2.2.1 x c e rfl) ho (I.freeC x c e)
  · obtain ⟨e, n, ne, nf, d⟩ := I.pin p hp
    have nch : p.1 ∉ ch := fun z => (hch p.1 z).2.2.2 p hp rfl
    exact ⟨keep p.1 p.2 ne nf nch e n, free p.1 p.2 nch e n, ne, nf, d⟩
theorem Inv.un {t' : Nat} (I : Inv X pins σ H s) (u : Un X.fs [] H H' s.heap h') (hok : HOk X.prog X.w H' h') : Inv X pins σ H' { s with heap := h', toks := t' } := by
  obtain ⟨m, ⟨o, es, ep, ho, r⟩, _⟩ := id I.loc
  obtain ⟨sl, hL⟩ := u.any ho I.free (by simp)
  exact I.step (g' := s.gens) (d' := s.drawn) (ch := []) (fun _ z => nomatch z) (fun b o _ hb _ e n => u.keep b o e n hb (by simp)) (fun b o _ hb _ e n => u.slot b o e n hb (by simp)) (fun b o _ e n => u.free b o e n (by simp)) (fun b o _ e => u.there b o e (by simp)) u.tups u.frzs u.tbls (fun m' hm => by
    obtain ⟨o', es', ep', ho', r'⟩ := hm
    rw [ho] at ho'; cases ho'
    exact ⟨_, es', ep', hL, r'⟩) hok I.bare
theorem Inv.call {g' : Array GenState} {t' : Nat} {d' : Drawn} {ch : List Addr} (I : Inv X pins σ H s) (u : Un (frs X.stack) ch H H' s.heap h') (hok : HOk X.prog X.w H' h') (hg : AllBare g')
    (hch : ∀ b ∈ ch, (b ∈ X.ex \/ X.s₀.heap.objs.size ≤ b) /\ b ≠ X.env.locals /\ (∀ x c, X.env.cells.lookup x = some c -> c ≠ b) /\ ∀ p ∈ X.pn ++ pins, p.1 ≠ b) :
    Inv X pins σ H' { s with heap := h', gens := g', drawn := d', toks := t' } := by
  obtain ⟨m, ⟨o, es, ep, ho, r⟩, _⟩ := id I.loc
  obtain ⟨sl, hL⟩ := u.any ho I.free fun z => (hch _ z).2.1 rfl
  exact I.step (ch := ch) hch (fun b o hL hb hc e n => u.keep b o e n (fun z => (List.mem_cons.mp (I.stkSub b z)).elim hL hb) hc) (fun b o _ _ hc e n => u.any e n hc) (fun b o hc e n => u.free b o e n hc) (fun b o hc e => u.there b o e hc) u.tups u.frzs u.tbls (fun m' hm => by
    obtain ⟨o', es', ep', ho', r'⟩ := hm
    rw [ho] at ho'; cases ho'
    exact ⟨_, es', ep', hL, r'⟩) hok hg
theorem Inv.turned {t' : Nat} {it : Addr} (I : Inv X pins σ H s) (k : ∀ b o, b ≠ it -> s.heap.get? b = some o -> h'.get? b = some o) (hn : H it = none) (hL : it ≠ X.env.locals)
    (h1 : it ∈ X.ex \/ X.s₀.heap.objs.size ≤ it) (h2 : ∀ x c, X.env.cells.lookup x = some c -> c ≠ it) (h3 : ∀ p ∈ X.pn ++ pins, p.1 ≠ it) : Inv X pins σ H { s with heap := h', toks := t' } := by
  have nit : ∀ b u, H b = some u -> b ≠ it := fun b u e z => by rw [z, hn] at e; cases e
  refine I.step (g' := s.gens) (d' := s.drawn) (ch := [it]) (fun b hb => ?_) (fun b o _ _ hc e _ => k b o (fun z => hc (by simp [z])) e) (fun b o _ _ hc e _ => ⟨o.slots, k b o (fun z => hc (by simp [z])) e⟩) (fun _ _ _ _ n => n)
    (fun b o hc e => ⟨o, k b o (fun z => hc (by simp [z])) e⟩) (fun _ _ e => e) (fun _ _ _ e => e) (fun b ps e => ⟨#[], by rw [e]; simp⟩) (fun m hm => ?_) (fun b u e => ?_) I.bare
  · have e : b = it := by simpa using hb
    subst e
    exact ⟨h1, hL, h2, h3⟩
  · obtain ⟨o, es, ep, ho, r⟩ := hm
    exact ⟨o, es, ep, k _ o (Ne.symm hL) ho, r⟩
  · refine (I.hok b u e).stay (fun c v hc q => k c v ?_ q) (fun _ q => q) fun _ _ q => q
    rcases hc with z | z
    · rw [z]; exact nit b u e
    · exact nit c _ z
theorem Inv.tok (I : Inv X pins σ H s) (t : Nat) : Inv X pins σ H { s with toks := t } := I.un (h' := s.heap) (t' := t) Un.refl I.hok
theorem Inv.kept {t' : Nat} (I : Inv X pins σ H s) (k : ∀ b u, s.heap.get? b = some u -> h'.get? b = some u) : Inv X pins σ H { s with heap := h', toks := t' } := I.un (Un.kept k) (I.hok.kept k)
theorem Inv.laid {a : Addr} {o : HO} {t' : Nat} (I : Inv X pins σ H s) (k : ∀ b u, s.heap.get? b = some u -> h'.get? b = some u) (hp : s.heap.objs.size ≤ a) (new : ObjOk X.prog X.w (upd H a o) h' a o) :
    Inv X pins σ (upd H a o) { s with heap := h', toks := t' } := I.un (Un.laid k hp (I.hok.fresh hp)) (I.hok.laid k hp new)
theorem Inv.write {x e : Addr} {o : HO} {t' : Nat} (I : Inv X pins σ H s) (mu : Mut (H x)) (he : e = x \/ H e = some (.own x)) (k : ∀ b u, b ≠ e -> s.heap.get? b = some u -> h'.get? b = some u) (heo : ∃ u, h'.get? e = some u)
    (new : ObjOk X.prog X.w (upd H x o) h' x o) : Inv X pins σ (upd H x o) { s with heap := h', toks := t' } := I.un (Un.write mu he k heo) (I.hok.write mu he k heo new)
theorem Inv.pins_of {pins' : List (Addr × Obj)} (I : Inv X pins σ H s) (h : ∀ p ∈ pins', s.heap.get? p.1 = some p.2 /\ H p.1 = none /\ p.1 ≠ X.env.locals /\ p.1 ∉ X.fs /\ ∀ v, p.2.data ≠ .cell v) : Inv X pins' σ H s :=
  ⟨I.ok, I.os, I.bare, I.base, I.loc, I.cell, I.free, I.freeC, fun p hp => (List.mem_append.mp hp).elim (fun z => I.pin p (List.mem_append_left _ z)) (h p), I.hok, I.len⟩
theorem nodup_ix {N : List Str} (hN : N.Nodup) {i j : Nat} {x : Str} (a : N[i]? = some x) (b : N[j]? = some x) : i = j := by
  obtain ⟨h1, e1⟩ := List.getElem?_eq_some_iff.mp a
  obtain ⟨h2, e2⟩ := List.getElem?_eq_some_iff.mp b
  exact (List.getElem_inj hN).mp (e1.trans e2.symm)
theorem store_ok2 {M : Model} {A : Around} {E : Value -> Shared -> Prop} {i : Nat} {x : Str} {v : V} {u : Value} {Q : Unit -> Shared -> Prop} (I : Inv X pins σ H s) (hN : X.N.Nodup) (hi : X.N[i]? = some x) (hx : Loc X.env.scope x) (r : RelV v u)
    (h : ∀ s', Inv X pins (σ.set i (some v)) H s' -> (∃ a, Heap.SameBut a s.heap s'.heap /\ (a = X.env.locals \/ X.env.cells.lookup x = some a)) -> Q () s') (hf : X.fn x = true \/ X.env.scope.names.lookup x = some .local := by first | exact .inl rfl | exact .inr rfl | assumption) : wpAny M A (storeName X.env x u) Q E s := by
  obtain ⟨m, hn, hl⟩ := id I.loc
  have hcls : (X.env.scope.kind == .class || (X.env.scope.kind == .module && X.env.locals != X.env.globals)) = false := by rw [I.ok.kind]; rfl
  have hiσ : i < σ.length := by rw [I.len]; exact (List.getElem?_eq_some_iff.mp hi).1
  have cne := I.cne
  have tracked : ∀ {a : Addr} {h' : Heap}, (∃ o, s.heap.get? a = some o /\ H a = none) -> Heap.SameBut a s.heap h' -> HOk X.prog X.w H h' := fun {a h'} ha hs b ob e => by
    obtain ⟨_, _, hfree⟩ := ha
    refine (I.hok b ob e).stay (fun c w' hc q => (hs.2 c ?_).trans q) (fun _ q => q) fun _ _ q => q
    rintro rfl
    rcases hc with rfl | hc
    · rw [hfree] at e; cases e
    · rw [hfree] at hc; cases hc
  rcases hx with hk | hk
  · refine wpAny_storeName_local hk hn (fun h' hn' hs => ?_) hcls
    obtain ⟨oL, _, _, hoL, _⟩ := id hn
    refine h _ ⟨I.ok, I.os, I.bare, ⟨fun b o e n hb hx => ?_, fun b o e n hb hx => ?_, I.base.free, fun b o e hx => ?_, I.base.tups, I.base.frzs, I.base.tbls⟩, ⟨_, hn', fun j y v' e1 e2 e3 => ?_⟩, fun y c e => ?_, I.free, I.freeC, fun p hp => ?_, tracked ⟨oL, hoL, I.free⟩ hs, by simpa using I.len⟩ ⟨_, hs, .inl rfl⟩
    · exact (hs.2 b (Nat.ne_of_lt (Nat.lt_of_lt_of_le (Heap.lt_size e) I.ok.above))).trans (I.base.keep b o e n hb hx)
    · obtain ⟨sl, e1⟩ := I.base.slot b o e n hb hx
      exact ⟨sl, (hs.2 b (Nat.ne_of_lt (Nat.lt_of_lt_of_le (Heap.lt_size e) I.ok.above))).trans e1⟩
    · obtain ⟨o', e1⟩ := I.base.there b o e hx
      exact ⟨o', (hs.2 b (Nat.ne_of_lt (Nat.lt_of_lt_of_le (Heap.lt_size e) I.ok.above))).trans e1⟩
    · by_cases hj : j = i
      · subst hj
        rw [hi] at e1; cases e1
        rw [List.getElem?_set_self hiσ] at e2
        cases e2
        exact ⟨u, r, .inl ⟨hk, by simp⟩⟩
      · rw [List.getElem?_set_ne (Ne.symm hj)] at e2
        obtain ⟨u', r', q⟩ := hl j y v' e1 e2 e3
        refine ⟨u', r', ?_⟩
        rcases q with ⟨k, e⟩ | ⟨k, c, e, z⟩
        · refine .inl ⟨k, ?_⟩
          have : y ≠ x := fun e => hj (nodup_ix hN e1 (e ▸ hi))
          simp [this, e]
        · exact .inr ⟨k, c, e, z.sameBut hs (cne y c e)⟩
    · obtain ⟨w', z⟩ := I.cell y c e
      exact ⟨w', z.sameBut hs (cne y c e)⟩
    · obtain ⟨e, n, ne, nf, d⟩ := I.pin p hp
      exact ⟨(hs.2 p.1 ne).trans e, n, ne, nf, d⟩
  · have hfn : X.fn x = true := by
      rcases hf with z | z
      · exact z
      · rw [z] at hk; cases hk
    obtain ⟨c, hc⟩ := I.ok.has x (.inl hk)
    obtain ⟨w', z⟩ := I.cell x c hc
    refine wpAny_storeName_cell I.ok.kind hk hc z (fun h' hc' hs => ?_)
    obtain ⟨oc, hoc, hocd⟩ := id z
    refine h { s with heap := h' } ⟨I.ok, I.os, I.bare, ⟨fun b o e n hb hx => ?_, fun b o e n hb hx => ?_, I.base.free, fun b o e hx => ?_, I.base.tups, I.base.frzs, I.base.tbls⟩, ⟨m, hn.sameBut hs (Ne.symm (cne x c hc)), fun j y v' e1 e2 e3 => ?_⟩, fun y c' e => ?_, I.free, I.freeC, fun p hp => ?_, tracked ⟨oc, hoc, I.freeC x c hc⟩ hs, by simpa using I.len⟩ ⟨c, hs, .inr hc⟩
    · exact (hs.2 b (Nat.ne_of_lt (Nat.lt_of_lt_of_le (Heap.lt_size e) (I.ok.cab x c hfn hc)))).trans (I.base.keep b o e n hb hx)
    · obtain ⟨sl, e1⟩ := I.base.slot b o e n hb hx
      exact ⟨sl, (hs.2 b (Nat.ne_of_lt (Nat.lt_of_lt_of_le (Heap.lt_size e) (I.ok.cab x c hfn hc)))).trans e1⟩
    · obtain ⟨o', e1⟩ := I.base.there b o e hx
      exact ⟨o', (hs.2 b (Nat.ne_of_lt (Nat.lt_of_lt_of_le (Heap.lt_size e) (I.ok.cab x c hfn hc)))).trans e1⟩
    · by_cases hj : j = i
      · subst hj
        rw [hi] at e1; cases e1
        rw [List.getElem?_set_self hiσ] at e2
        cases e2
        exact ⟨u, r, .inr ⟨.inl hk, c, hc, hc'⟩⟩
      · rw [List.getElem?_set_ne (Ne.symm hj)] at e2
        obtain ⟨u', r', q⟩ := hl j y v' e1 e2 e3
        refine ⟨u', r', ?_⟩
        rcases q with q | ⟨k, c', e, z'⟩
        · exact .inl q
        · refine .inr ⟨k, c', e, z'.sameBut hs ?_⟩
          rintro rfl
          exact hj (nodup_ix hN e1 (I.ok.inj _ _ _ e hc ▸ hi))
    · by_cases hcc : c' = c
      · subst hcc; exact ⟨_, hc'⟩
      · obtain ⟨w2, z2⟩ := I.cell y c' e
        exact ⟨w2, z2.sameBut hs hcc⟩
    · obtain ⟨e, n, ne, nf, d⟩ := I.pin p hp
      refine ⟨(hs.2 p.1 ?_).trans e, n, ne, nf, d⟩
      intro q
      rw [q, hoc] at e
      have q' : oc = p.2 := Option.some.inj e
      exact d w' (by rw [← q']; exact hocd)
theorem store_ok {M : Model} {A : Around} {E : Value -> Shared -> Prop} {i : Nat} {x : Str} {v : V} {u : Value} {Q : Unit -> Shared -> Prop} (I : Inv X pins σ H s) (hN : X.N.Nodup) (hi : X.N[i]? = some x) (hx : Loc X.env.scope x) (r : RelV v u)
    (h : ∀ s', Inv X pins (σ.set i (some v)) H s' -> Q () s') (hf : X.fn x = true \/ X.env.scope.names.lookup x = some .local := by first | exact .inl rfl | exact .inr rfl | assumption) : wpAny M A (storeName X.env x u) Q E s :=
  store_ok2 I hN hi hx r (fun s' I' _ => h s' I') hf
theorem Inv.call' {s' : Shared} {ch : List Addr} (I : Inv X pins σ H s) (ho : s'.os = s.os) (u : Un (frs X.stack) ch H H' s.heap s'.heap) (hok : HOk X.prog X.w H' s'.heap) (hg : AllBare s'.gens)
    (hch : ∀ b ∈ ch, (b ∈ X.ex \/ X.s₀.heap.objs.size ≤ b) /\ b ≠ X.env.locals /\ (∀ x c, X.env.cells.lookup x = some c -> c ≠ b) /\ ∀ p ∈ X.pn ++ pins, p.1 ≠ b) : Inv X pins σ H' s' := by
  obtain ⟨h', g', d', t', o'⟩ := s'
  have e : o' = s.os := ho
  subst e
  exact I.call (g' := g') (t' := t') (d' := d') u hok hg hch
end
abbrev XK := Value -> Option Addr -> Hp -> Prop
abbrev St := List (Option V)
abbrev VK := V -> Hp -> Prop
abbrev TE := St -> Hp -> VK -> Prop
abbrev TT := St -> Hp -> (Bool -> Hp -> Prop) -> Prop
abbrev TA := St -> Hp -> (List V -> Hp -> Prop) -> Prop
structure Ends where
  nx : St -> Hp -> Prop
  rt : VK
  bk : St -> Hp -> Prop := fun _ _ => False
  ct : St -> Hp -> Prop := fun _ _ => False
abbrev TS := Ends -> St -> Hp -> Prop
def EP (X : Cx) (pins : List (Addr × Obj)) (σ : St) (Q : VK) (u : Value) (s' : Shared) : Prop := ∃ v H', Inv X pins σ H' s' /\ RelV v u /\ Q v H'
def TP (X : Cx) (pins : List (Addr × Obj)) (σ : St) (Q : Bool -> Hp -> Prop) (b : Bool) (s' : Shared) : Prop := ∃ H', Inv X pins σ H' s' /\ Q b H'
def AP (X : Cx) (pins : List (Addr × Obj)) (σ : St) (Q : List V -> Hp -> Prop) (us : List Value) (s' : Shared) : Prop := ∃ vs H', Inv X pins σ H' s' /\ Vals vs us /\ Q vs H'
def SP (X : Cx) (pins : List (Addr × Obj)) (D : Ends) (f : Flow) (s' : Shared) : Prop :=
  match f with
  | .next => ∃ σ' H', Inv X pins σ' H' s' /\ D.nx σ' H'
  | .brk => ∃ σ' H', Inv X pins σ' H' s' /\ D.bk σ' H'
  | .cont => ∃ σ' H', Inv X pins σ' H' s' /\ D.ct σ' H'
  | .ret u => ∃ v σ' H', Inv X pins σ' H' s' /\ RelV v u /\ D.rt v H'
def PE (X : Cx) (e : Expr) (t : TE) : Prop :=
  ∀ (pins : List (Addr × Obj)) (s : Shared) (σ : St) (H : Hp) (Q : VK), Inv X pins σ H s -> t σ H Q -> wpAny (model X.prog X.w) X.A (eval e X.env) (EP X pins σ Q) X.xe s
def PT (X : Cx) (e : Expr) (t : TT) : Prop :=
  ∀ (pins : List (Addr × Obj)) (s : Shared) (σ : St) (H : Hp) (Q : Bool -> Hp -> Prop), Inv X pins σ H s -> t σ H Q -> wpAny (model X.prog X.w) X.A (isTrue e X.env (eval e X.env)) (TP X pins σ Q) X.xe s
def PW (X : Cx) (e : Expr) (t : TT) : Prop :=
  ∀ (whole : Sem Value) (pins : List (Addr × Obj)) (s : Shared) (σ : St) (H : Hp) (Q : Bool -> Hp -> Prop), Inv X pins σ H s -> t σ H Q -> wpAny (model X.prog X.w) X.A (isTrue e X.env whole) (TP X pins σ Q) X.xe s
theorem PW.pt {X : Cx} {e : Expr} {t : TT} (h : PW X e t) : PT X e t := h _
def PA (X : Cx) (es : List Expr) (t : TA) : Prop :=
  ∀ (pos : Pos) (pins : List (Addr × Obj)) (s : Shared) (σ : St) (H : Hp) (Q : List V -> Hp -> Prop), Inv X pins σ H s -> t σ H Q -> wpAny (model X.prog X.w) X.A (spliced (backTo pos (starEach es X.env))) (AP X pins σ Q) X.xe s
def PS (X : Cx) (st : Stmt) (t : TS) : Prop :=
  ∀ (pins : List (Addr × Obj)) (s : Shared) (σ : St) (H : Hp) (D : Ends), Inv X pins σ H s -> t D σ H -> wpAny (model X.prog X.w) X.A (exec st X.env) (SP X pins D) X.xe s
def PSs (X : Cx) (st : List Stmt) (t : TS) : Prop :=
  ∀ (pins : List (Addr × Obj)) (s : Shared) (σ : St) (H : Hp) (D : Ends), Inv X pins σ H s -> t D σ H -> wpAny (model X.prog X.w) X.A (execs st X.env) (SP X pins D) X.xe s
theorem thn {α : Type} {t : Sem α} {Q Q' : α -> Shared -> Prop} {M : Model} {A : Around} {E : Value -> Shared -> Prop} {s : Shared} (h : wpAny M A t Q E s) (hQ : ∀ a s, Q a s -> Q' a s) : wpAny M A t Q' E s := wpAny_mono h hQ fun _ _ x => x
section
variable {X : Cx}
def tVar (i : Nat) : TE := fun σ H Q => ∃ v, σ[i]? = some (some v) /\ Q v H
def tC (v : V) : TE := fun _ H Q => Q v H
theorem pe_var {i : Nat} {x : Str} {pos : Pos} (hN : X.N[i]? = some x) (hv : Vis X.env.scope x) (hd : (x == ("__debug__" : Str)) = false := by decide) (hcd : (x == ("__classdict__" : Str)) = false := by decide) : PE X (.Name x pos) (tVar i) := by
  intro pins s σ H Q I h
  obtain ⟨v, e, h⟩ := h
  obtain ⟨m, hn, hl⟩ := I.loc
  obtain ⟨u, r, l⟩ := hl i x v hN e hv
  have fin : EP X pins σ Q u s := ⟨v, H, I, r, h⟩
  rcases l with ⟨hk, hm⟩ | ⟨hk, c, hc, hcell⟩
  · exact wpAny_Name (wpAny_loadName_local I.ok.kind hk hn hm fin) hd
  · rcases hk with hk | hk
    · exact wpAny_Name (wpAny_loadName_cell I.ok.kind hk hc hcell fin) hd
    · exact wpAny_Name (wpAny_loadName_free I.ok.kind hk hc hcell fin hcd) hd
theorem z0b {i j pos} : PE X (.Constant (.int i) j pos) (tC (.int i)) := fun _ _ _ H _ I h => wpAny_Constant_int ⟨.int i, H, I.tok _, ⟨_, rfl⟩, h⟩
theorem pe_bl {b j pos} : PE X (.Constant (.bool b) j pos) (tC (.bl b)) := fun _ _ _ H _ I h => Constant_bool ⟨.bl b, H, I, rfl, h⟩
theorem pe_non {j pos} : PE X (.Constant .none j pos) (tC .non) := fun _ _ _ H _ I h => Constant_none ⟨.non, H, I, rfl, h⟩
theorem z0z {x j pos} : PE X (.Constant (.str x) j pos) (tC (.str x)) := fun _ _ _ H _ I h => Calls.Constant_str ⟨.str x, H, I.tok _, ⟨_, rfl⟩, h⟩
def Gl (X : Cx) (x : Str) : Prop := X.env.kindOf x = some .globalImplicit
theorem ld_glob {E : Value -> Shared -> Prop} {pins : List (Addr × Obj)} {s : Shared} {σ : St} {H : Hp} {x : Str} {u : Value} {pos : Pos} {Q : Value -> Shared -> Prop} (I : Inv X pins σ H s) (hg : Gl X x) (hm : X.mg x = some u) (h : Q u s)
    (hd : (x == ("__debug__" : Str)) = false := by decide) : wpAny (model X.prog X.w) X.A (eval (.Name x pos) X.env) Q E s :=
  Calls.Name_function_global I.ok.kind hg (Calls.loadGlobal_global (by rw [I.ok.glob]; exact I.mod.glob.keeps I.bk) hm h) hd
theorem z5h {E : Value -> Shared -> Prop} {pins : List (Addr × Obj)} {s : Shared} {σ : St} {H : Hp} {x : Str} {u : Value} {pos : Pos} {Q : Value -> Shared -> Prop} (I : Inv X pins σ H s) (hg : Gl X x) (hm : X.mg x = none) (hv : bootBuiltins x = some u) (h : Q u s)
    (hn : x ≠ "__name__" := by decide) (hd : (x == ("__debug__" : Str)) = false := by decide) : wpAny (model X.prog X.w) X.A (eval (.Name x pos) X.env) Q E s := by
  obtain ⟨mb, h1, h2⟩ := I.mod.blt
  exact Calls.Name_function_global I.ok.kind hg (Calls.loadGlobal_builtin (by rw [I.ok.glob]; exact I.mod.glob.keeps I.bk) hm (by rw [I.ok.blt]; exact h1.keeps I.bk) ((h2 x hn).trans hv) h) hd
theorem pe_glob {x : Str} {v : V} {u : Value} {pos : Pos} (hg : Gl X x) (hm : X.mg x = some u) (r : RelV v u) (hd : (x == ("__debug__" : Str)) = false := by decide) : PE X (.Name x pos) (tC v) :=
  fun _ _ _ H _ I h => ld_glob I hg hm ⟨v, H, I, r, h⟩ hd
theorem z6f {x : Str} {v : V} {u : Value} {pos : Pos} (hg : Gl X x) (hm : X.mg x = none) (hv : bootBuiltins x = some u) (r : RelV v u) (hn : x ≠ "__name__" := by decide) (hd : (x == ("__debug__" : Str)) = false := by decide) : PE X (.Name x pos) (tC v) :=
  fun _ _ _ H _ I h => z5h I hg hm hv ⟨v, H, I, r, h⟩ hn hd
variable {a b : Expr} {ta tb : TE} {pos : Pos}
def tB (t : TE) : TT := fun σ H Q => t σ H fun x H1 => ∃ c, x = .bl c /\ Q c H1
theorem z6c {e : Expr} {t : TE} (h : PE X e t) (he : ∀ whole, isTrue e X.env whole = (do let v ← whole; standAt e.pos; holding [v] (truthy v)) := by intro _; rfl) : PT X e (tB t) := by
  intro pins s σ H Q I hw
  refine isTrue_plain (thn (h pins s σ H _ I hw) fun v s1 ⟨x, H1, I1, r1, q1⟩ => ?_) (he _)
  obtain ⟨d, rfl, q⟩ := q1
  cases r1
  exact wpAny_truthy_bool ⟨H1, I1, q⟩
variable {tA tB' : TT} {rest : List Expr}
def tAnd (t u : TT) : TT := fun σ H Q => t σ H fun c H1 => if c = true then u σ H1 Q else Q false H1
def tOr (t u : TT) : TT := fun σ H Q => t σ H fun c H1 => if c = true then Q true H1 else u σ H1 Q
def tNot (t : TT) : TT := fun σ H Q => t σ H fun c H1 => Q (!c) H1
theorem z2b (ha : PT X a tA) : PW X (.BoolOp .And [a] pos) tA := by
  intro wh pins s σ H Q I h
  refine isTrue_and (thn (ha pins s σ H Q I h) fun c s1 e => ?_)
  cases c with
  | true => exact isTrue_and_nil e
  | false => exact e
theorem z2u (ha : PT X a tA) : PW X (.BoolOp .Or [a] pos) tA := by
  intro wh pins s σ H Q I h
  refine isTrue_or (thn (ha pins s σ H Q I h) fun c s1 e => ?_)
  cases c with
  | false => exact isTrue_or_nil e
  | true => exact e
theorem z2r (ha : PT X a tA) (hb : PW X (.BoolOp .And (b :: rest) pos) tB') : PW X (.BoolOp .And (a :: b :: rest) pos) (tAnd tA tB') := by
  intro wh pins s σ H Q I h
  refine isTrue_and (thn (ha pins s σ H _ I h) fun c s1 ⟨H1, I1, q1⟩ => ?_)
  cases c with
  | true => exact hb wh pins s1 σ H1 Q I1 q1
  | false => exact ⟨H1, I1, q1⟩
theorem z3i (ha : PT X a tA) (hb : PW X (.BoolOp .Or (b :: rest) pos) tB') : PW X (.BoolOp .Or (a :: b :: rest) pos) (tOr tA tB') := by
  intro wh pins s σ H Q I h
  refine isTrue_or (thn (ha pins s σ H _ I h) fun c s1 ⟨H1, I1, q1⟩ => ?_)
  cases c with
  | true => exact ⟨H1, I1, q1⟩
  | false => exact hb wh pins s1 σ H1 Q I1 q1
theorem pt_not (ha : PT X a tA) : PT X (.UnaryOp .Not a pos) (tNot tA) := by
  intro pins s σ H Q I h
  exact isTrue_not (ha pins s σ H (fun c H1 => Q (!c) H1) I h)
def tAndV (ta tb : TE) : TE := fun σ H Q => ta σ H fun x H1 => ∃ c, x = .bl c /\ if c = true then tb σ H1 Q else Q (.bl false) H1
def tOrV (ta tb : TE) : TE := fun σ H Q => ta σ H fun x H1 => ∃ c, x = .bl c /\ if c = true then Q (.bl true) H1 else tb σ H1 Q
def tNotV (ta : TE) : TE := fun σ H Q => ta σ H fun x H1 => ∃ c, x = .bl c /\ Q (.bl (!c)) H1
theorem pe_one {op} {t : TE} (h : PE X a t) : PE X (.BoolOp op [a] pos) t := fun pins s σ H Q I hw => BoolOp_one (h pins s σ H Q I hw)
theorem pe_and (ha : PE X a ta) (hb : PE X (.BoolOp .And (b :: rest) pos) tb) : PE X (.BoolOp .And (a :: b :: rest) pos) (tAndV ta tb) := by
  intro pins s σ H Q I h
  refine BoolOp_and (thn (ha pins s σ H _ I h) fun v s1 ⟨x, H1, I1, r1, q1⟩ => ?_)
  obtain ⟨c, rfl, q1⟩ := q1
  cases r1
  refine wpAny_truthy_bool ?_
  cases c with
  | true => exact hb pins s1 σ H1 Q I1 q1
  | false => exact ⟨.bl false, H1, I1, rfl, q1⟩
def tIf (t : TT) (ta tb : TE) : TE := fun σ H Q => t σ H fun c H1 => if c = true then ta σ H1 Q else tb σ H1 Q
theorem pe_ifExp {c : Expr} (hc : PT X c tA) (ha : PE X a ta) (hb : PE X b tb) : PE X (.IfExp c a b pos) (tIf tA ta tb) := by
  intro pins s σ H Q I h
  refine wpAny_IfExp (thn (hc pins s σ H _ I h) fun d s1 ⟨H1, I1, q1⟩ => ?_)
  cases d with
  | true => exact ha pins s1 σ H1 Q I1 q1
  | false => exact hb pins s1 σ H1 Q I1 q1
end
def SqL (K : PySem.W.Frag) (H : Hp) (a : Addr) (xs : List V) : Prop :=
  Rd H a (.lst xs) \/
    ∃ (o : Obj) (its : Array Value) (n : Nat), K.lookup a = some o /\ o.cls = .type "list" /\ o.dict = none /\ o.data = .seq its n /\ its.size ≤ sizeLine /\ Vals xs its.toList
def SqT (K : PySem.W.Frag) (H : Hp) (a : Addr) (xs : List V) : Prop :=
  Rd H a (.tup xs) \/
    ∃ (o : Obj) (its : Array Value) (n : Nat), K.lookup a = some o /\ o.cls = .type "tuple" /\ o.data = .seq its n /\ its.size ≤ sizeLine /\ Vals xs its.toList
def absV : Value -> Option V
  | .none => some .non
  | .bool b => some (.bl b)
  | .int i _ => some (.int i)
  | .str x _ => some (.str x)
  | .bytes b _ => some (.byt b)
  | .float b _ => some (.flt b)
  | .ref a => some (.ref a)
  | .type n => some (.ty n)
  | _ => none
theorem RelV.abs {x : V} {u : Value} (r : RelV x u) : absV u = some x := by
  cases x with
  | non => cases r; rfl
  | bl _ => cases r; rfl
  | int _ => obtain ⟨t, rfl⟩ := r; rfl
  | str _ => obtain ⟨t, rfl⟩ := r; rfl
  | byt _ => obtain ⟨t, rfl⟩ := r; rfl
  | flt _ => obtain ⟨t, rfl⟩ := r; rfl
  | ref _ => cases r; rfl
  | ty _ => cases r; rfl
theorem RelV.inj {x y : V} {u : Value} (r : RelV x u) (q : RelV y u) : x = y := Option.some.inj (r.abs.symm.trans q.abs)
theorem Vals.inj : ∀ {xs ys : List V} {us : List Value}, Vals xs us -> Vals ys us -> xs = ys
  | _, _, _, .nil, .nil => rfl
  | _, _, _, .cons r t, .cons r' t' => by rw [r.inj r', Vals.inj t t']
section
variable {X : Cx} {pins : List (Addr × Obj)} {σ : St} {H : Hp} {s : Shared} {a : Addr} {xs ys : List V}
theorem SqL.of {K : PySem.W.Frag} (h : H a = some (.lst xs)) : SqL K H a xs := .inl (.inl h)
theorem SqT.of {K : PySem.W.Frag} (h : H a = some (.tup xs)) : SqT K H a xs := .inl (.inl h)
theorem Inv.list (I : Inv X pins σ H s) (h : SqL X.K H a xs) : ∃ its : List Value, Vals xs its /\ PlainL s.heap a its.toArray /\ xs.length ≤ sizeLine := by
  rcases h with h | ⟨o, its, n, hk, hc, hd, hs, hz, r⟩
  · obtain ⟨z, its, n, r, e⟩ := h.ok I.hok
    exact ⟨its, r, ⟨_, n, e, rfl, rfl, rfl⟩, z⟩
  · refine ⟨its.toList, r, ⟨o, n, I.kIn a o hk, hc, hd, by simpa using hs⟩, ?_⟩
    have e := r.length
    simp only [Array.length_toList] at e
    omega
theorem Inv.tuple (I : Inv X pins σ H s) (h : SqT X.K H a xs) : ∃ its : List Value, Vals xs its /\ IsTup s.heap a its.toArray /\ xs.length ≤ sizeLine := by
  rcases h with h | ⟨o, its, n, hk, hc, hs, hz, r⟩
  · obtain ⟨z, its, r, p⟩ := h.ok I.hok
    exact ⟨its, r, p, z⟩
  · refine ⟨its.toList, r, ⟨o, I.kIn a o hk, hc, n, by simpa using hs⟩, ?_⟩
    have e := r.length
    simp only [Array.length_toList] at e
    omega
theorem Inv.list_inj (I : Inv X pins σ H s) (h : SqL X.K H a xs) (h' : SqL X.K H a ys) : xs = ys := by
  obtain ⟨its, r, ⟨o, n, e, _, _, d⟩, _⟩ := I.list h
  obtain ⟨its', r', ⟨o', n', e', _, _, d'⟩, _⟩ := I.list h'
  rw [e] at e'; cases e'
  rw [d] at d'
  injection d' with d1 _
  have : its = its' := by simpa using congrArg Array.toList d1
  subst this
  exact r.inj r'
theorem Inv.tuple_inj (I : Inv X pins σ H s) (h : SqT X.K H a xs) (h' : SqT X.K H a ys) : xs = ys := by
  obtain ⟨its, r, ⟨o, e, _, n, d⟩, _⟩ := I.tuple h
  obtain ⟨its', r', ⟨o', e', _, n', d'⟩, _⟩ := I.tuple h'
  rw [e] at e'; cases e'
  rw [d] at d'
  injection d' with d1 _
  have : its = its' := by simpa using congrArg Array.toList d1
  subst this
  exact r.inj r'
end
abbrev Cx.wish (X : Cx) (E : Value -> Shared -> Prop) : Cx := { X with xe := E }
abbrev Cx.nox (X : Cx) : Cx := X.wish fun _ _ => False
theorem Cx.Ok.wish {X : Cx} (ok : X.Ok) (E : Value -> Shared -> Prop) : (X.wish E).Ok :=
  ⟨ok.mod, ok.kind, ok.glob, ok.blt, ok.above, ok.inj, ok.has, ok.cab, ok.hd, ok.frames, ok.stk, ok.exf, ok.bs, ok.bsz, ok.noex, ok.exfs, ok.funs, ok.frf⟩
theorem Cx.Ok.unwish {X : Cx} {E : Value -> Shared -> Prop} (ok : (X.wish E).Ok) : X.Ok :=
  ⟨ok.mod, ok.kind, ok.glob, ok.blt, ok.above, ok.inj, ok.has, ok.cab, ok.hd, ok.frames, ok.stk, ok.exf, ok.bs, ok.bsz, ok.noex, ok.exfs, ok.funs, ok.frf⟩
section
variable {X : Cx} {pins : List (Addr × Obj)} {σ : St} {H : Hp} {s : Shared} {E : Value -> Shared -> Prop}
theorem Inv.wish (I : Inv X pins σ H s) (E : Value -> Shared -> Prop) : Inv (X.wish E) pins σ H s := ⟨I.ok.wish E, I.os, I.bare, I.base, I.loc, I.cell, I.free, I.freeC, I.pin, I.hok, I.len⟩
theorem Inv.unwish (I : Inv (X.wish E) pins σ H s) : Inv X pins σ H s := ⟨I.ok.unwish, I.os, I.bare, I.base, I.loc, I.cell, I.free, I.freeC, I.pin, I.hok, I.len⟩
theorem SP.unwish {D : Ends} {f : Flow} {s' : Shared} (h : SP (X.wish E) pins D f s') : SP X pins D f s' := by
  cases f with
  | next => obtain ⟨σ', H', I, q⟩ := h; exact ⟨σ', H', I.unwish, q⟩
  | brk => obtain ⟨σ', H', I, q⟩ := h; exact ⟨σ', H', I.unwish, q⟩
  | cont => obtain ⟨σ', H', I, q⟩ := h; exact ⟨σ', H', I.unwish, q⟩
  | ret u => obtain ⟨v, σ', H', I, r, q⟩ := h; exact ⟨v, σ', H', I.unwish, r, q⟩
theorem PE.nox {e : Expr} {t : TE} (h : PE X.nox e t) : PE X e t := fun pins s σ H Q I hw =>
  wpAny_mono (h pins s σ H Q (I.wish _) hw) (fun _ _ ⟨v, H', I', r, q⟩ => ⟨v, H', I'.unwish, r, q⟩) fun _ _ z => False.elim z
theorem PT.nox {e : Expr} {t : TT} (h : PT X.nox e t) : PT X e t := fun pins s σ H Q I hw =>
  wpAny_mono (h pins s σ H Q (I.wish _) hw) (fun _ _ ⟨H', I', q⟩ => ⟨H', I'.unwish, q⟩) fun _ _ z => False.elim z
theorem PSs.nox {st : List Stmt} {t : TS} (h : PSs X.nox st t) : PSs X st t := fun pins s σ H D I hw =>
  wpAny_mono (h pins s σ H D (I.wish _) hw) (fun _ _ q => q.unwish) fun _ _ z => False.elim z
end
section
variable {X : Cx} {st : Stmt} {rest : List Stmt} {t u : TS} {e : Expr} {te : TE} {pos : Pos}
def tNext : TS := fun D σ H => D.nx σ H
def tSeq (t u : TS) : TS := fun D σ H => t { D with nx := u D } σ H
theorem z0p : PSs X [] tNext := fun _ _ σ H _ I h => wpAny_execs_nil ⟨σ, H, I, h⟩
theorem z0c (h1 : PS X st t) (h2 : PSs X rest u) : PSs X (st :: rest) (tSeq t u) := by
  intro pins s σ H D I h
  refine wpAny_execs_cons (thn (h1 pins s σ H { D with nx := u D } I h) fun f s1 q => ?_)
  cases f with
  | next =>
    obtain ⟨σ', H', I', q⟩ := q
    exact h2 pins s1 σ' H' D I' q
  | ret v => exact q
  | brk => exact q
  | cont => exact q
theorem z0f (h1 : PS X st t) : PSs X [st] t := by
  intro pins s σ H D I h
  refine wpAny_execs_cons (thn (h1 pins s σ H D I h) fun f s1 q => ?_)
  cases f with
  | next => exact wpAny_execs_nil q
  | ret v => exact q
  | brk => exact q
  | cont => exact q
theorem Inv.quiet {pins : List (Addr × Obj)} {σ : St} {H : Hp} {s : Shared} (I : Inv X pins σ H s) : interactive X.env = false := by simp [interactive, I.ok.kind]
def tDrop (te : TE) : TS := fun D σ H => te σ H fun _ H1 => D.nx σ H1
theorem z3q (he : PE X e te) (hs : swapsWith e none pos.line X.env = pure false := by rfl) : PS X (.Expr e pos) (tDrop te) := by
  intro pins s σ H D I h
  exact wpAny_Expr_any (thn (he pins s σ H _ I h) fun v s1 ⟨x, H1, I1, r1, q1⟩ => ⟨σ, H1, I1, q1⟩) I.quiet hs
def tRet (te : TE) : TS := fun D σ H => te σ H D.rt
theorem z0s (he : PE X e te) : PS X (.Return (some e) pos) (tRet te) := by
  intro pins s σ H D I h
  exact wpAny_Return_some (thn (he pins s σ H _ I h) fun v s1 ⟨x, H1, I1, r1, q1⟩ => ⟨x, σ, H1, I1, r1, q1⟩)
def tRetN : TS := fun D _ H => D.rt .non H
def tIfS (c : TT) (t u : TS) : TS := fun D σ H => c σ H fun b H1 => if b = true then t D σ H1 else u D σ H1
theorem z1a {c : Expr} {a b : List Stmt} {tc : TT} (hc : PT X c tc) (ha : PSs X a t) (hb : PSs X b u) : PS X (.If c a b pos) (tIfS tc t u) := by
  intro pins s σ H D I h
  refine wpAny_If (thn (hc pins s σ H _ I h) fun d s1 ⟨H1, I1, q1⟩ => ?_)
  cases d with
  | true => exact ha pins s1 σ H1 D I1 q1
  | false => exact hb pins s1 σ H1 D I1 q1
def tNever : TS := fun _ _ _ => False
theorem ps_never : PS X st tNever := fun _ _ _ _ _ _ h => h.elim
end
abbrev TG := V -> St -> Hp -> (St -> Hp -> Prop) -> Prop
abbrev TGs := List V -> St -> Hp -> (St -> Hp -> Prop) -> Prop
def PG (X : Cx) (target : Expr) (t : TG) : Prop :=
  ∀ (pins : List (Addr × Obj)) (s : Shared) (σ : St) (H : Hp) (v : V) (u : Value) (Q : St -> Hp -> Prop), Inv X pins σ H s -> RelV v u -> t v σ H Q ->
    wpAny (model X.prog X.w) X.A (assign target X.env u) (fun _ s' => ∃ σ' H', Inv X pins σ' H' s' /\ Q σ' H') X.xe s
def PGs (X : Cx) (ts : List Expr) (t : TGs) : Prop :=
  ∀ (pins : List (Addr × Obj)) (s : Shared) (σ : St) (H : Hp) (vs : List V) (us : List Value) (Q : St -> Hp -> Prop), Inv X pins σ H s -> Vals vs us -> t vs σ H Q ->
    wpAny (model X.prog X.w) X.A (assignInOrder ((assignEach ts X.env).map (·.2)) us) (fun _ s' => ∃ σ' H', Inv X pins σ' H' s' /\ Q σ' H') X.xe s
abbrev TSet := V -> V -> V -> Hp -> (Hp -> Prop) -> Prop
def PSet (X : Cx) (t : TSet) : Prop :=
  ∀ (pins : List (Addr × Obj)) (s : Shared) (σ : St) (H : Hp) (o i v : V) (ov iv u : Value) (Q : Hp -> Prop), Inv X pins σ H s -> RelV o ov -> RelV i iv -> RelV v u -> t o i v H Q ->
    wpAny (model X.prog X.w) X.A (setItem ov iv u) (fun _ s' => ∃ H', Inv X pins σ H' s' /\ Q H') X.xe s
section
variable {X : Cx} {pos : Pos}
def gName (i : Nat) : TG := fun v σ H Q => Q (σ.set i (some v)) H
theorem z0y {i : Nat} {x : Str} (hN : X.N.Nodup) (hi : X.N[i]? = some x) (hx : Loc X.env.scope x) (hf : X.fn x = true \/ X.env.scope.names.lookup x = some .local := by first | exact .inl rfl | exact .inr rfl | assumption) : PG X (.Name x pos) (gName i) := by
  intro pins s σ H v u Q I r h
  exact wpAny_assign_Name (store_ok I hN hi hx r (fun s' I' => ⟨_, H, I', h⟩) hf)
def gNil : TGs := fun vs σ H Q => vs = [] /\ Q σ H
def gCons (t : TG) (u : TGs) : TGs := fun vs σ H Q => ∃ v r, vs = v :: r /\ t v σ H fun σ' H' => u r σ' H' Q
theorem z4f : PGs X [] gNil := by
  intro pins s σ H vs us Q I r h
  obtain ⟨e, h⟩ := h
  subst e
  cases r
  exact assignInOrder_nil ⟨σ, H, I, h⟩
theorem z1x {e : Expr} {es : List Expr} {t : TG} {u : TGs} (h1 : PG X e t) (h2 : PGs X es u)
    (hs : (assignEach (e :: es) X.env).map (·.2) = assign e X.env :: (assignEach es X.env).map (·.2) := by rfl) : PGs X (e :: es) (gCons t u) := by
  intro pins s σ H vs us Q I r h
  obtain ⟨v, vr, e1, h⟩ := h
  subst e1
  cases r with
  | cons r rr =>
    rw [hs]
    refine assignInOrder_cons (thn (h1 pins s σ H _ _ _ I r h) fun _ s1 ⟨σ1, H1, I1, q1⟩ => ?_)
    exact h2 pins s1 σ1 H1 _ _ Q I1 rr q1
def gTup (K : PySem.W.Frag) (n : Nat) (t : TGs) : TG := fun v σ H Q => ∃ a xs, v = .ref a /\ SqT K H a xs /\ xs.length = n /\ t xs σ H Q
theorem z6e {es : List Expr} {k : Nat} {t : TGs} {n : Nat} (hc : X.calm = true) (h : PGs X es t)
    (hn : (assignEach es X.env).length = n := by rfl) (hst : (assignEach es X.env).findIdx? (·.1) = none := by rfl) : PG X (.Tuple es k pos) (gTup X.K n t) := by
  intro pins s σ H v u Q I r hw
  obtain ⟨a, xs, e1, hq, hl, hw⟩ := hw
  subst e1
  cases r
  obtain ⟨its, rv, ht, hz⟩ := I.tuple hq
  refine assign_Tuple_tuple (I.ok.hd hc) ht (by simp [hn, ← hl, rv.length]) hst fun h' hx => ?_
  have I1 : Inv X pins σ H { s with heap := h' } := I.kept (t' := s.toks) fun b o e => hx b o (Nat.ne_of_lt (Heap.lt_size e)) e
  exact h pins _ σ H xs _ Q I1 (by simpa using rv) hw
def gSub (to ti : TE) (t : TSet) : TG := fun v σ H Q => to σ H fun o H1 => ti σ H1 fun i H2 => t o i v H2 fun H3 => Q σ H3
theorem pg_sub {o i : Expr} {to ti : TE} {t : TSet} (ho : PE X o to) (hi : PE X i ti) (hs : PSet X t)
    (ha : ∀ v, assign (.Subscript o i pos) X.env v = (do
      let ov ← holding [v] (eval o X.env)
      let iv ← holding [v, ov] (eval i X.env)
      standAt pos
      holding [v, ov, iv] (setItem ov iv v)
      release [v, ov, iv] []) := by intro _; rfl) : PG X (.Subscript o i pos) (gSub to ti t) := by
  intro pins s σ H v u Q I r h
  rw [ha]
  refine wpAny_bind (wpAny_holding (thn (ho pins s σ H _ I h) fun ov s1 ⟨x, H1, I1, r1, q1⟩ => ?_))
  refine wpAny_bind (wpAny_holding (thn (hi pins s1 σ H1 _ I1 q1) fun iv s2 ⟨y, H2, I2, r2, q2⟩ => ?_))
  refine wpAny_bind (wpAny_standAt (wpAny_bind (wpAny_holding (thn (hs pins s2 σ H2 x y v ov iv u _ I2 r1 r2 r q2) fun _ s3 ⟨H3, I3, q3⟩ => ?_))))
  exact wpAny_release ⟨σ, H3, I3, q3⟩
def tAsg (te : TE) (g : TG) : TS := fun D σ H => te σ H fun x H1 => g x σ H1 D.nx
theorem ps_asg {tg e : Expr} {te : TE} {g : TG} (he : PE X e te) (hg : PG X tg g) (hs : swapsWithSole [tg] e pos.line X.env = pure false := by rfl) (hw : swappedStores [tg] e X.env = pure none := by rfl)
    (h1 : (assignEach [tg] X.env).map (·.2) = [assign tg X.env] := by rfl) : PS X (.Assign [tg] e pos) (tAsg te g) := by
  intro pins s σ H D I h
  refine wpAny_Assign_stores (thn (he pins s σ H _ I h) fun v s1 ⟨x, H1, I1, r1, q1⟩ => ?_) hs hw
  rw [h1]
  exact thn (hg pins s1 σ H1 x v _ I1 r1 q1) fun _ s2 q => q
theorem z0m {i : Nat} {x : Str} {e : Expr} {te : TE} {pos' : Pos} (hN : X.N.Nodup) (hi : X.N[i]? = some x) (hx : Loc X.env.scope x) (he : PE X e te) (hs : swapsWith e (some (.Name x pos')) pos.line X.env = pure false := by rfl) (hf : X.fn x = true \/ X.env.scope.names.lookup x = some .local := by first | exact .inl rfl | exact .inr rfl | assumption) :
    PS X (.Assign [.Name x pos'] e pos) (tAsg te (gName i)) := by
  intro pins s σ H D I h
  refine wpAny_Assign_Name (thn (he pins s σ H _ I h) fun v s1 ⟨y, H1, I1, r1, q1⟩ => ?_) hs
  exact store_ok I1 hN hi hx r1 (fun s2 I2 => ⟨_, H1, I2, q1⟩) hf
end
section
variable {X : Cx} {pos : Pos}
end
structure It where
  go : Nat -> Hp -> Prop
  yld : Nat -> Hp -> V -> Hp -> Prop
  stop : Nat -> Hp -> Prop
def FpOk (X : Cx) (pins : List (Addr × Obj)) (H : Hp) (b : Addr) : Prop :=
  H b = none /\ b ≠ X.env.locals /\ b ∉ X.fs /\ (b ∈ X.ex \/ X.s₀.heap.objs.size ≤ b) /\ (∀ x c, X.env.cells.lookup x = some c -> c ≠ b) /\ ∀ p ∈ X.pn ++ pins, p.1 ≠ b
theorem Inv.fpOk {X : Cx} {pins : List (Addr × Obj)} {σ : St} {H H' : Hp} {s : Shared} {b : Addr} (I : Inv X pins σ H s) (hb : s.heap.objs.size ≤ b) (hn : H' b = none) : FpOk X pins H' b := by
  refine ⟨hn, Nat.ne_of_gt (Nat.lt_of_lt_of_le I.lt hb), I.nofs hb, .inr (Nat.le_trans I.sz hb), fun x c e z => ?_, fun p hp z => ?_⟩
  · obtain ⟨v, q⟩ := I.cell x c e
    exact absurd (Nat.lt_of_lt_of_le q.lt (by rw [z]; exact hb)) (Nat.lt_irrefl _)
  · exact absurd (Nat.lt_of_lt_of_le (Heap.lt_size (I.pin p hp).1) (by rw [z]; exact hb)) (Nat.lt_irrefl _)
structure Turn (P : Program) (w : World) (K : PySem.W.Frag) (tg : Expr) (J : It) (fp : List Addr) (it : Addr) (tn : Nat -> Heap -> Prop) : Prop where
  mem : it ∈ fp
  obj : ∀ i h, tn i h -> ∀ b ∈ fp, ∃ o, h.get? b = some o /\ ∀ v, o.data ≠ .cell v
  keep : ∀ i h h', tn i h -> (∀ b ∈ fp, ∀ o, h.get? b = some o -> h'.get? b = some o) -> tn i h'
  item : ∀ (X : Cx), X.prog = P -> X.w = w -> X.K = K -> X.calm = true -> ∀ (i : Nat) (pins : List (Addr × Obj)) (s : Shared) (σ : St) (H : Hp) (E : Value -> Shared -> Prop), Inv X pins σ H s -> (∀ b ∈ fp, FpOk X pins H b) -> tn i s.heap -> J.go i H ->
    wpAny (model P w) X.A (pyNext (.ref it)) (fun r s1 => ∃ u, r = some u /\
      wpAny (model P w) X.A (letOwnedTupleGo tg (.ref it) u) (fun _ s2 => ∃ x H', Inv X pins σ H' s2 /\ RelV x u /\ J.yld i H x H' /\ tn (i + 1) s2.heap /\ ∀ b ∈ fp, H' b = none) E s1) E s
  done : ∀ (X : Cx), X.prog = P -> X.w = w -> X.K = K -> X.calm = true -> ∀ (i : Nat) (pins : List (Addr × Obj)) (s : Shared) (σ : St) (H : Hp) (E : Value -> Shared -> Prop), Inv X pins σ H s -> (∀ b ∈ fp, FpOk X pins H b) -> tn i s.heap -> J.stop i H ->
    wpAny (model P w) X.A (pyNext (.ref it)) (fun r s1 => r = none /\ Inv X pins σ H s1) E s
  self : ∀ (A : Around) (i : Nat) (s : Shared) (Q : Value -> Shared -> Prop) (E : Value -> Shared -> Prop), tn i s.heap -> Q (.ref it) s -> wpAny (model P w) A (pyIter (.ref it)) Q E s
abbrev TI := St -> Hp -> (It -> Hp -> Prop) -> Prop
def PIE (X : Cx) (pins : List (Addr × Obj)) (σ : St) (tg : Expr) (R : It -> Hp -> Prop) (itv : Value) (s2 : Shared) : Prop :=
  ∃ (it : Addr) (fp : List Addr) (tn : Nat -> Heap -> Prop) (J : It) (H' : Hp), itv = .ref it /\ Inv X pins σ H' s2 /\ Turn X.prog X.w X.K tg J fp it tn /\ tn 0 s2.heap /\ (∀ b ∈ fp, FpOk X pins H' b) /\ R J H'
def PI (X : Cx) (tg iter : Expr) (wi : TI) : Prop :=
  ∀ (pins : List (Addr × Obj)) (s : Shared) (σ : St) (H : Hp) (R : It -> Hp -> Prop), Inv X pins σ H s -> wi σ H R ->
    wpAny (model X.prog X.w) X.A (eval iter X.env) (fun v s1 => wpAny (model X.prog X.w) X.A (pyIter v) (PIE X pins σ tg R) X.xe s1) X.xe s
theorem go_of {M : Model} {A : Around} {E : Value -> Shared -> Prop} {s : Shared} {tg : Expr} {it : Addr} {u : Value} {o : Obj} {n : String} {vs : Array Value} {Q : Unit -> Shared -> Prop} (ho : s.heap.get? it = some o) (hc : o.cls = .type n) (hd : o.data = .fields vs)
    (hn : ["enumerate", "zip", "dict_itemiterator", "dict_reverseitemiterator", "odict_iterator", "itertools.zip_longest", "itertools.pairwise"].contains n = false) (hQ : Q () s) : wpAny M A (letOwnedTupleGo tg (.ref it) u) Q E s := by
  unfold letOwnedTupleGo
  cases tg <;> first
    | exact wpAny_pure hQ
    | (cases u <;> first
        | exact wpAny_pure hQ
        | (refine wpAny_bind (wpAny_load ho ?_)
           rw [hc, hd]
           show wpAny M A (if (["enumerate", "zip", "dict_itemiterator", "dict_reverseitemiterator", "odict_iterator", "itertools.zip_longest", "itertools.pairwise"].contains n && vs[0]? == some (rawInt _)) = true then _ else _) Q E s
           rw [if_neg (by intro h; rw [hn, Bool.false_and] at h; cases h)]
           exact wpAny_pure hQ))
def Itl (K : PySem.W.Frag) (a : Addr) : It :=
  ⟨fun i H => ∃ xs x, SqL K H a xs /\ xs[i]? = some x, fun i H x H' => H' = H /\ ∀ xs, SqL K H a xs -> xs[i]? = some x, fun i H => ∃ xs, SqL K H a xs /\ xs.length ≤ i⟩
def Itt (K : PySem.W.Frag) (a : Addr) : It :=
  ⟨fun i H => ∃ xs x, SqT K H a xs /\ xs[i]? = some x, fun i H x H' => H' = H /\ ∀ xs, SqT K H a xs -> xs[i]? = some x, fun i H => ∃ xs, SqT K H a xs /\ xs.length ≤ i⟩
def Itr (lo : Int) (n : Nat) : It := ⟨fun i _ => i < n, fun i H x H' => H' = H /\ x = .int (lo + i), fun i _ => n ≤ i⟩
theorem turn_list {P : Program} {w : World} {K : PySem.W.Frag} {tg : Expr} (a it : Addr) : Turn P w K tg (Itl K a) [it] it (fun i h => h.IsListIter it a i) where
  mem := by simp
  obj := fun i h st b hb => by
    have e : b = it := by simpa using hb
    subst e
    obtain ⟨o, e, c, d⟩ := st
    exact ⟨o, e, fun v z => by rw [d] at z; cases z⟩
  keep := fun i h h' st k => st.at fun o e => k it (by simp) o e
  item := by
    intro X hP hw hK hc i pins s σ H E I hf st hg
    subst hP hw hK
    obtain ⟨xs, x, hq, hx⟩ := hg
    obtain ⟨its, rv, p, hz⟩ := I.list hq
    obtain ⟨u, hu, ru⟩ := rv.get hx
    obtain ⟨f0, f1, f2, f3, f4, f5⟩ := hf it (by simp)
    refine wpAny_pyNext_list_item st p.isList (x := u) (by simpa using hu) fun h' st' sb => ?_
    have I1 : Inv X pins σ H { s with heap := h' } := I.turned (t' := s.toks) (fun b o hb e => (sb.2 b hb).trans e) f0 f1 f3 f4 f5
    obtain ⟨o, e, c, d⟩ := id st'
    exact ⟨u, rfl, go_of (s := { s with heap := h' }) e c d (by decide) ⟨x, H, I1, ru, ⟨rfl, fun ys hy => by rw [I.list_inj hy hq]; exact hx⟩, st', fun b hb => (hf b hb).1⟩⟩
  done := by
    intro X hP hw hK hc i pins s σ H E I hf st hg
    subst hP hw hK
    obtain ⟨xs, hq, hx⟩ := hg
    obtain ⟨its, rv, p, hz⟩ := I.list hq
    obtain ⟨f0, f1, f2, f3, f4, f5⟩ := hf it (by simp)
    have hl := rv.length
    exact wpAny_pyNext_list_end (I.ok.hd hc) st p.isList (by simp; omega) fun h' eb => ⟨rfl, I.turned (t' := s.toks) (fun b o hb e => eb b o hb e) f0 f1 f3 f4 f5⟩
  self := fun _ _ _ _ _ st h => wpAny_pyIter_listiter st h
theorem z6u {P : Program} {w : World} {K : PySem.W.Frag} {tg : Expr} (a it : Addr) : Turn P w K tg (Itt K a) [it] it (fun i h => h.IsTupleIter it a i) where
  mem := by simp
  obj := fun i h st b hb => by
    have e : b = it := by simpa using hb
    subst e
    obtain ⟨o, e, c, d⟩ := st
    exact ⟨o, e, fun v z => by rw [d] at z; cases z⟩
  keep := fun i h h' st k => st.at fun o e => k it (by simp) o e
  item := by
    intro X hP hw hK hc i pins s σ H E I hf st hg
    subst hP hw hK
    obtain ⟨xs, x, hq, hx⟩ := hg
    obtain ⟨its, rv, p, hz⟩ := I.tuple hq
    obtain ⟨u, hu, ru⟩ := rv.get hx
    obtain ⟨f0, f1, f2, f3, f4, f5⟩ := hf it (by simp)
    refine wpAny_pyNext_tuple_item st (show s.heap.IsTuple a its.toArray from p) (x := u) (by simpa using hu) fun h' st' sb => ?_
    have I1 : Inv X pins σ H { s with heap := h' } := I.turned (t' := s.toks) (fun b o hb e => (sb.2 b hb).trans e) f0 f1 f3 f4 f5
    obtain ⟨o, e, c, d⟩ := id st'
    exact ⟨u, rfl, go_of (s := { s with heap := h' }) e c d (by decide) ⟨x, H, I1, ru, ⟨rfl, fun ys hy => by rw [I.tuple_inj hy hq]; exact hx⟩, st', fun b hb => (hf b hb).1⟩⟩
  done := by
    intro X hP hw hK hc i pins s σ H E I hf st hg
    subst hP hw hK
    obtain ⟨xs, hq, hx⟩ := hg
    obtain ⟨its, rv, p, hz⟩ := I.tuple hq
    obtain ⟨f0, f1, f2, f3, f4, f5⟩ := hf it (by simp)
    have hl := rv.length
    exact wpAny_pyNext_tuple_end (I.ok.hd hc) st (show s.heap.IsTuple a its.toArray from p) (by simp; omega) fun h' eb => ⟨rfl, I.turned (t' := s.toks) (fun b o hb e => eb b o hb e) f0 f1 f3 f4 f5⟩
  self := fun _ _ _ _ _ st h => wpAny_pyIter_tupleiter st h
theorem turn_range {P : Program} {w : World} {K : PySem.W.Frag} {tg : Expr} (it : Addr) (lo : Int) (n : Nat) : Turn P w K tg (Itr lo n) [it] it (fun i h => IsRangeIter h it (lo + (i : Nat) * 1) ((n : Int) - (i : Nat)) 1) where
  mem := by simp
  obj := fun i h st b hb => by
    have e : b = it := by simpa using hb
    subst e
    exact ⟨_, st, fun v z => by
      have z' : Data.fields _ = Data.cell v := z
      cases z'⟩
  keep := fun i h h' st k => k it (by simp) _ st
  item := by
    intro X hP hw hK hc i pins s σ H E I hf st hg
    subst hP hw hK
    obtain ⟨f0, f1, f2, f3, f4, f5⟩ := hf it (by simp)
    have W := Walks.range (prog := X.prog) (w := X.w) (I.ok.hd hc) it lo 1 n
    refine W.item i s _ _ hg st fun v h' tk hv st' kk => ?_
    obtain ⟨t, rfl⟩ := hv
    have I1 : Inv X pins σ H { s with heap := h', toks := tk } := I.turned (fun b o hb e => kk b o (by simpa using hb) e) f0 f1 f3 f4 f5
    refine ⟨_, rfl, go_of (s := { s with heap := h', toks := tk }) (n := "range_iterator") st' rfl rfl (by decide) ⟨.int (lo + i), H, I1, ⟨t, ?_⟩, ⟨rfl, rfl⟩, st', fun b hb => (hf b hb).1⟩⟩
    rw [Int.mul_one]
  done := by
    intro X hP hw hK hc i pins s σ H E I hf st hg
    subst hP hw hK
    obtain ⟨f0, f1, f2, f3, f4, f5⟩ := hf it (by simp)
    exact wpAny_pyNext_range_end (I.ok.hd hc) st (by have : n ≤ i := hg; omega) fun h' eb => ⟨rfl, I.turned (t' := s.toks) (fun b o hb e => eb b o hb e) f0 f1 f3 f4 f5⟩
  self := fun _ _ _ _ _ st h => wpAny_pyIter_rangeiter st h
section
variable {X : Cx} {tg : Expr}
def iList (K : PySem.W.Frag) (tl : TE) : TI := fun σ H R => tl σ H fun x H1 => ∃ a, x = .ref a /\ (∃ xs, SqL K H1 a xs) /\ R (Itl K a) H1
def iTup (K : PySem.W.Frag) (tl : TE) : TI := fun σ H R => tl σ H fun x H1 => ∃ a, x = .ref a /\ (∃ xs, SqT K H1 a xs) /\ R (Itt K a) H1
theorem z4e {l : Expr} {tl : TE} (hl : PE X l tl) : PI X tg l (iList X.K tl) := by
  intro pins s σ H R I h
  refine thn (hl pins s σ H _ I h) fun v s1 ⟨x, H1, I1, r1, q1⟩ => ?_
  obtain ⟨a, e, ⟨xs, hq⟩, q⟩ := q1
  subst e
  cases r1
  obtain ⟨its, rv, p, hz⟩ := I1.list hq
  refine wpAny_pyIter_list p.isList ?_
  refine ⟨s1.heap.objs.size, [s1.heap.objs.size], _, _, H1, rfl, I1.kept (t' := s1.toks) fun b o e => Heap.get?_push_of_some _ e, turn_list a _, ⟨_, Heap.get?_push_size _ rfl, rfl, rfl⟩, fun b hb => ?_, q⟩
  have e : b = s1.heap.objs.size := by simpa using hb
  subst e
  exact I1.fpOk (Nat.le_refl _) (I1.hok.fresh (Nat.le_refl _))
theorem z4o {l : Expr} {tl : TE} (hl : PE X l tl) : PI X tg l (iTup X.K tl) := by
  intro pins s σ H R I h
  refine thn (hl pins s σ H _ I h) fun v s1 ⟨x, H1, I1, r1, q1⟩ => ?_
  obtain ⟨a, e, ⟨xs, hq⟩, q⟩ := q1
  subst e
  cases r1
  obtain ⟨its, rv, p, hz⟩ := I1.tuple hq
  refine wpAny_pyIter_tuple (show s1.heap.IsTuple a its.toArray from p) ?_
  refine ⟨s1.heap.objs.size, [s1.heap.objs.size], _, _, H1, rfl, I1.kept (t' := s1.toks) fun b o e => Heap.get?_push_of_some _ e, z6u a _, ⟨_, Heap.get?_push_size _ rfl, rfl, rfl⟩, fun b hb => ?_, q⟩
  have e : b = s1.heap.objs.size := by simpa using hb
  subst e
  exact I1.fpOk (Nat.le_refl _) (I1.hok.fresh (Nat.le_refl _))
theorem range_it {pins : List (Addr × Obj)} {σ : St} {H : Hp} {s : Shared} {R : It -> Hp -> Prop} {E : Value -> Shared -> Prop} {lo hi : Int} {t u v : Tok} {tk : Nat} (I : Inv X pins σ H s) (h1 : -(2 ^ 62) ≤ lo) (h2 : lo < 2 ^ 62) (h3 : -(2 ^ 62) ≤ hi) (h4 : hi < 2 ^ 62)
    (q : R (Itr lo (hi - lo).toNat) H) : wpAny (model X.prog X.w) X.A (pyIter (.ref s.heap.objs.size)) (PIE X pins σ tg R) E { s with heap := s.heap.push { cls := .type "range", data := .fields #[.int lo t, .int hi u, .int 1 v] }, toks := tk } := by
  refine wpAny_pyIter_range (IsRange.new ..) (small_one h1 h2 h3 h4) ?_
  have I1 : Inv X pins σ H { s with heap := s.heap.push { cls := .type "range", data := .fields #[.int lo t, .int hi u, .int 1 v] }, toks := tk } := I.kept fun b o e => Heap.get?_push_of_some _ e
  refine ⟨(s.heap.push { cls := .type "range", data := .fields #[.int lo t, .int hi u, .int 1 v] }).objs.size, [(s.heap.push { cls := .type "range", data := .fields #[.int lo t, .int hi u, .int 1 v] }).objs.size], _, _, H, rfl,
    I1.kept (t' := tk) fun b o e => Heap.get?_push_of_some _ e, turn_range _ lo (hi - lo).toNat, ?_, fun b hb => ?_, q⟩
  · have e1 : lo + ((0 : Nat) : Int) * 1 = lo := by simp
    have e2 : (((hi - lo).toNat : Nat) : Int) - ((0 : Nat) : Int) = Builtin.Range.rangeSize lo hi 1 := by rw [rangeSize_one]; split <;> omega
    show IsRangeIter _ _ (lo + ((0 : Nat) : Int) * 1) ((((hi - lo).toNat : Nat) : Int) - ((0 : Nat) : Int)) 1
    rw [e1, e2]
    exact Heap.get?_push_size _ rfl
  · have e : b = (s.heap.push { cls := .type "range", data := .fields #[.int lo t, .int hi u, .int 1 v] }).objs.size := by simpa using hb
    subst e
    exact I1.fpOk (Nat.le_refl _) (I1.hok.fresh (Nat.le_refl _))
def iRng1 (ta : TA) : TI := fun σ H R => ta σ H fun vs H1 => ∃ j : Int, vs = [.int j] /\ -(2 ^ 62) ≤ j /\ j < 2 ^ 62 /\ R (Itr 0 j.toNat) H1
def iRng2 (ta : TA) : TI := fun σ H R => ta σ H fun vs H1 => ∃ i j : Int, vs = [.int i, .int j] /\ (-(2 ^ 62) ≤ i /\ i < 2 ^ 62 /\ -(2 ^ 62) ≤ j /\ j < 2 ^ 62) /\ R (Itr i (j - i).toNat) H1
theorem z3r {a : Expr} {ta : TA} {p pos : Pos} (hg : Gl X "range") (hm : X.mg "range" = none) (ha : PA X [a] ta) (hs : starEach [a] X.env = [(false, eval a X.env)] := by rfl) : PI X tg (.Call (.Name "range" p) [a] [] pos) (iRng1 ta) := by
  intro pins s σ H R I h
  refine Call_ (z5h I hg hm boot_range (PyProof.Rows.callWith_type1 (thn (ha pos pins s σ H _ I h) fun us s1 ⟨vs, H1, I1, r1, q1⟩ => ?_) hs rfl))
  obtain ⟨j, e, q1, q2, q⟩ := q1
  subst e
  cases r1 with
  | cons r rr =>
    cases rr
    obtain ⟨t, rfl⟩ := r
    exact call_range_1 (range_it I1 (by omega) (by omega) q1 q2 (by simpa using q))
def tFor (wi : TI) (g : TG) (tb : TS) : TS := fun D σ H => wi σ H fun J H1 => ∃ W : Nat -> Nat -> St -> Hp -> Prop, (∃ m, W 0 m σ H1) /\ ∀ i m σ H, W i m σ H ->
  (J.stop i H /\ D.nx σ H) \/ (J.go i H /\ ∃ N : St -> Hp -> Prop, (∀ σ' H', N σ' H' -> ∃ m', m' < m /\ W (i + 1) m' σ' H') /\ ∀ x H', J.yld i H x H' -> g x σ H' fun σ2 H2 => tb { D with nx := N, ct := N, bk := D.nx } σ2 H2)
def pinsAt (fp : List Addr) (h : Heap) : List (Addr × Obj) := fp.filterMap fun b => (h.get? b).map fun o => (b, o)
theorem z4a {fp : List Addr} {h : Heap} {b : Addr} {o : Obj} (hb : b ∈ fp) (e : h.get? b = some o) : (b, o) ∈ pinsAt fp h := List.mem_filterMap.mpr ⟨b, hb, by rw [e]; rfl⟩
theorem of_pinsAt {fp : List Addr} {h : Heap} {p : Addr × Obj} (hp : p ∈ pinsAt fp h) : p.1 ∈ fp /\ h.get? p.1 = some p.2 := by
  obtain ⟨b, hb, e⟩ := List.mem_filterMap.mp hp
  cases q : h.get? b with
  | none => rw [q] at e; cases e
  | some o =>
    rw [q] at e
    have e' : (b, o) = p := Option.some.inj e
    subst e'
    exact ⟨hb, q⟩
theorem Inv.pinned {pins : List (Addr × Obj)} {σ : St} {H : Hp} {s : Shared} {fp : List Addr} (I : Inv X pins σ H s) (hf : ∀ b ∈ fp, FpOk X pins H b) (ho : ∀ b ∈ fp, ∃ o, s.heap.get? b = some o /\ ∀ v, o.data ≠ .cell v) : Inv X (pins ++ pinsAt fp s.heap) σ H s :=
  I.pins_of fun p hp => (List.mem_append.mp hp).elim (fun z => I.pin p (List.mem_append_right _ z)) fun z => by
    obtain ⟨hb, e⟩ := of_pinsAt z
    obtain ⟨f0, f1, f2, _⟩ := hf p.1 hb
    obtain ⟨o, e', d⟩ := ho p.1 hb
    rw [e] at e'; cases e'
    exact ⟨e, f0, f1, f2, d⟩
theorem Inv.unpinned {pins pl : List (Addr × Obj)} {σ : St} {H : Hp} {s : Shared} (I : Inv X (pins ++ pl) σ H s) : Inv X pins σ H s := I.pins_of fun p hp => I.pin p (List.mem_append_right _ (List.mem_append_left _ hp))
theorem z2v {iter : Expr} {body : List Stmt} {wi : TI} {g : TG} {tb : TS} {pos : Pos} (hp : PassesOwn (model X.prog X.w) X.A X.env X.xe) (hc : X.calm = true) (hi : PI X tg iter wi) (hg : PG X tg g) (hb : PSs X body tb)
    (hs : ∀ x, foldedSetIterable iter X.env x = pure x := by intro _; rfl) : PS X (.For tg iter body [] pos) (tFor wi g tb) := by
  intro pins s σ H D I h
  refine wpAny_For (thn (hi pins s σ H _ I h) fun v s1 h1 => thn h1 fun itv s2 h2 => ?_) hs
  obtain ⟨it, fp, tn, J, H2, e, I2, T, st2, f2, W, ⟨m0, w0⟩, turn⟩ := h2
  subst e
  have stat : ∀ {H' : Hp}, (∀ b ∈ fp, H' b = none) -> ∀ b ∈ fp, FpOk X pins H' b := fun hn b hb => ⟨hn b hb, (f2 b hb).2⟩
  refine codeAny_forLoop_any (fun n s' => ∃ i σ' H', Inv X pins σ' H' s' /\ tn i s'.heap /\ (∀ b ∈ fp, H' b = none) /\ W i n σ' H') ?_ m0 ⟨0, σ, H2, I2, st2, fun b hb => (f2 b hb).1, w0⟩
  rintro n s3 ⟨i, σ3, H3, I3, st3, fr3, w3⟩
  rcases turn i n σ3 H3 w3 with ⟨stop, qn⟩ | ⟨go, N, hN, step⟩
  · refine wpAny_passesOwn hp (thn (T.done X rfl rfl rfl hc i pins s3 σ3 H3 X.xe I3 (stat fr3) st3 stop) fun r s4 ⟨hr, I4⟩ => ?_)
    subst hr
    exact wpAny_execs_nil ⟨σ3, H3, I4, qn⟩
  · refine wpAny_passesOwn hp (thn (T.item X rfl rfl rfl hc i pins s3 σ3 H3 X.xe I3 (stat fr3) st3 go) fun r s4 ⟨u, hr, h4⟩ => ?_)
    subst hr
    refine wpAny_passesOwn hp (thn h4 fun _ s5 ⟨x, H5, I5, r5, y5, st5, fr5⟩ => ?_)
    have I5' := I5.pinned (stat fr5) (T.obj _ _ st5)
    refine wpAny_passesOwn hp (thn (hg _ s5 σ3 H5 x u _ I5' r5 (step x H5 y5)) fun _ s6 ⟨σ6, H6, I6, q6⟩ => ?_)
    refine wpAny_passesOwn hp (thn (hb _ s6 σ6 H6 _ I6 q6) fun f s7 q7 => ?_)
    have again : ∀ {σ7 : St} {H7 : Hp}, Inv X (pins ++ pinsAt fp s5.heap) σ7 H7 s7 -> N σ7 H7 -> ∃ m, m < n /\ ∃ i σ' H', Inv X pins σ' H' s7 /\ tn i s7.heap /\ (∀ b ∈ fp, H' b = none) /\ W i m σ' H' := fun {σ7 H7} I7 n7 => by
      obtain ⟨m', hm, w7⟩ := hN σ7 H7 n7
      refine ⟨m', hm, i + 1, σ7, H7, I7.unpinned, T.keep _ _ _ st5 fun b hb o e => (I7.pin (b, o) (List.mem_append_right _ (List.mem_append_right _ (z4a hb e)))).1, fun b hb => ?_, w7⟩
      obtain ⟨o, e, d⟩ := T.obj _ _ st5 b hb
      exact (I7.pin (b, o) (List.mem_append_right _ (List.mem_append_right _ (z4a hb e)))).2.1
    cases f with
    | next => obtain ⟨σ7, H7, I7, n7⟩ := q7; exact again I7 n7
    | cont => obtain ⟨σ7, H7, I7, n7⟩ := q7; exact again I7 n7
    | brk => obtain ⟨σ7, H7, I7, q7⟩ := q7; exact ⟨σ7, H7, I7.unpinned, q7⟩
    | ret v => obtain ⟨x7, σ7, H7, I7, r7, q7⟩ := q7; exact ⟨x7, σ7, H7, I7.unpinned, r7, q7⟩
end
theorem for_list {K : PySem.W.Frag} {a : Addr} {xs : List V} {g : TG} {tb : TS} {D : Ends} {σ : St} {H : Hp} (Pv : Nat -> St -> Hp -> Prop) (h0 : Pv 0 σ H) (hl : ∀ i σ H, i ≤ xs.length -> Pv i σ H -> SqL K H a xs)
    (hs : ∀ i x σ H, xs[i]? = some x -> Pv i σ H -> g x σ H fun σ2 H2 => tb { D with nx := Pv (i + 1), ct := Pv (i + 1), bk := D.nx } σ2 H2) (hd : ∀ σ H, Pv xs.length σ H -> D.nx σ H) :
    ∃ W : Nat -> Nat -> St -> Hp -> Prop, (∃ m, W 0 m σ H) /\ ∀ i m σ H, W i m σ H ->
      ((Itl K a).stop i H /\ D.nx σ H) \/ ((Itl K a).go i H /\ ∃ N : St -> Hp -> Prop, (∀ σ' H', N σ' H' -> ∃ m', m' < m /\ W (i + 1) m' σ' H') /\ ∀ x H', (Itl K a).yld i H x H' -> g x σ H' fun σ2 H2 => tb { D with nx := N, ct := N, bk := D.nx } σ2 H2) := by
  refine ⟨fun i m σ H => m = xs.length - i /\ i ≤ xs.length /\ Pv i σ H, ⟨xs.length, by simp, Nat.zero_le _, h0⟩, ?_⟩
  rintro i m σ H ⟨rfl, hi, p⟩
  have q := hl i σ H hi p
  by_cases hlt : i < xs.length
  · refine .inr ⟨⟨xs, xs[i], q, by simp [hlt]⟩, Pv (i + 1), fun σ' H' p' => ⟨xs.length - (i + 1), by omega, rfl, hlt, p'⟩, fun x H' y => ?_⟩
    obtain ⟨e, y⟩ := y
    subst e
    exact hs i x σ _ (y xs q) p
  · have e : i = xs.length := by omega
    subst e
    exact .inl ⟨⟨xs, q, Nat.le_refl _⟩, hd σ H p⟩
theorem for_tup {K : PySem.W.Frag} {a : Addr} {xs : List V} {g : TG} {tb : TS} {D : Ends} {σ : St} {H : Hp} (Pv : Nat -> St -> Hp -> Prop) (h0 : Pv 0 σ H) (hl : ∀ i σ H, i ≤ xs.length -> Pv i σ H -> SqT K H a xs)
    (hs : ∀ i x σ H, xs[i]? = some x -> Pv i σ H -> g x σ H fun σ2 H2 => tb { D with nx := Pv (i + 1), ct := Pv (i + 1), bk := D.nx } σ2 H2) (hd : ∀ σ H, Pv xs.length σ H -> D.nx σ H) :
    ∃ W : Nat -> Nat -> St -> Hp -> Prop, (∃ m, W 0 m σ H) /\ ∀ i m σ H, W i m σ H ->
      ((Itt K a).stop i H /\ D.nx σ H) \/ ((Itt K a).go i H /\ ∃ N : St -> Hp -> Prop, (∀ σ' H', N σ' H' -> ∃ m', m' < m /\ W (i + 1) m' σ' H') /\ ∀ x H', (Itt K a).yld i H x H' -> g x σ H' fun σ2 H2 => tb { D with nx := N, ct := N, bk := D.nx } σ2 H2) := by
  refine ⟨fun i m σ H => m = xs.length - i /\ i ≤ xs.length /\ Pv i σ H, ⟨xs.length, by simp, Nat.zero_le _, h0⟩, ?_⟩
  rintro i m σ H ⟨rfl, hi, p⟩
  have q := hl i σ H hi p
  by_cases hlt : i < xs.length
  · refine .inr ⟨⟨xs, xs[i], q, by simp [hlt]⟩, Pv (i + 1), fun σ' H' p' => ⟨xs.length - (i + 1), by omega, rfl, hlt, p'⟩, fun x H' y => ?_⟩
    obtain ⟨e, y⟩ := y
    subst e
    exact hs i x σ _ (y xs q) p
  · have e : i = xs.length := by omega
    subst e
    exact .inl ⟨⟨xs, q, Nat.le_refl _⟩, hd σ H p⟩
theorem for_range {lo : Int} {n : Nat} {g : TG} {tb : TS} {D : Ends} {σ : St} {H : Hp} (Pv : Nat -> St -> Hp -> Prop) (h0 : Pv 0 σ H)
    (hs : ∀ i σ H, i < n -> Pv i σ H -> g (.int (lo + i)) σ H fun σ2 H2 => tb { D with nx := Pv (i + 1), ct := Pv (i + 1), bk := D.nx } σ2 H2) (hd : ∀ σ H, Pv n σ H -> D.nx σ H) :
    ∃ W : Nat -> Nat -> St -> Hp -> Prop, (∃ m, W 0 m σ H) /\ ∀ i m σ H, W i m σ H ->
      ((Itr lo n).stop i H /\ D.nx σ H) \/ ((Itr lo n).go i H /\ ∃ N : St -> Hp -> Prop, (∀ σ' H', N σ' H' -> ∃ m', m' < m /\ W (i + 1) m' σ' H') /\ ∀ x H', (Itr lo n).yld i H x H' -> g x σ H' fun σ2 H2 => tb { D with nx := N, ct := N, bk := D.nx } σ2 H2) := by
  refine ⟨fun i m σ H => m = n - i /\ i ≤ n /\ Pv i σ H, ⟨n, by simp, Nat.zero_le _, h0⟩, ?_⟩
  rintro i m σ H ⟨rfl, hi, p⟩
  by_cases hlt : i < n
  · refine .inr ⟨hlt, Pv (i + 1), fun σ' H' p' => ⟨n - (i + 1), by omega, rfl, hlt, p'⟩, fun x H' y => ?_⟩
    obtain ⟨e, y⟩ := y
    subst e y
    exact hs i σ _ hlt p
  · have e : i = n := by omega
    subst e
    exact .inl ⟨Nat.le_refl _, hd σ H p⟩
abbrev R2 := V -> V -> Hp -> VK -> Prop
def OpR (X : Cx) (f : Value -> Value -> Sem Value) (r : R2) : Prop :=
  ∀ (pins : List (Addr × Obj)) (s : Shared) (σ : St) (H : Hp) (x y : V) (v u : Value) (Q : VK), Inv X pins σ H s -> RelV x v -> RelV y u -> r x y H Q ->
    wpAny (model X.prog X.w) X.A (f v u) (EP X pins σ Q) X.xe s
def UnR (X : Cx) (f : Value -> Sem Value) (r : V -> Hp -> VK -> Prop) : Prop :=
  ∀ (pins : List (Addr × Obj)) (s : Shared) (σ : St) (H : Hp) (x : V) (v : Value) (Q : VK), Inv X pins σ H s -> RelV x v -> r x H Q ->
    wpAny (model X.prog X.w) X.A (f v) (EP X pins σ Q) X.xe s
def CallR (X : Cx) (f : Value) (r : List V -> Hp -> VK -> Prop) : Prop :=
  ∀ (pins : List (Addr × Obj)) (s : Shared) (σ : St) (H : Hp) (xs : List V) (us : List Value) (Q : VK), Inv X pins σ H s -> Vals xs us -> r xs H Q ->
    wpAny (model X.prog X.w) X.A (call f us) (EP X pins σ Q) X.xe s
def tOp (r : R2) (ta tb : TE) : TE := fun σ H Q => ta σ H fun x H1 => tb σ H1 fun y H2 => r x y H2 Q
def tUn (r : V -> Hp -> VK -> Prop) (ta : TE) : TE := fun σ H Q => ta σ H fun x H1 => r x H1 Q
def rI (C : Int -> Int -> Prop) (g : Int -> Int -> V) : R2 := fun x y H Q => ∃ i j, x = .int i /\ y = .int j /\ C i j /\ Q (g i j) H
def rI0 (g : Int -> Int -> V) : R2 := fun x y H Q => ∃ i j, x = .int i /\ y = .int j /\ Q (g i j) H
def rU (g : Int -> V) : V -> Hp -> VK -> Prop := fun x H Q => ∃ i, x = .int i /\ Q (g i) H
section
variable {X : Cx} {a b c : Expr} {ta tb tc : TE} {pos : Pos}
theorem binT (ha : PE X a ta) (hb : PE X b tb) {pins : List (Addr × Obj)} {s : Shared} {σ : St} {H : Hp} {R : V -> V -> Hp -> Prop} (I : Inv X pins σ H s)
    (h : ta σ H fun x H1 => tb σ H1 fun y H2 => R x y H2) {Q : Value -> Shared -> Prop} {f : Value -> Value -> Sem Value}
    (hf : ∀ v u s2 x y H2, Inv X pins σ H2 s2 -> RelV x v -> RelV y u -> R x y H2 -> wpAny (model X.prog X.w) X.A (f v u) Q X.xe s2) :
    wpAny (model X.prog X.w) X.A (eval a X.env) (fun v s₁ => wpAny (model X.prog X.w) X.A (eval b X.env) (fun u s₂ => wpAny (model X.prog X.w) X.A (f v u) Q X.xe s₂) X.xe s₁) X.xe s := by
  refine thn (ha pins s σ H _ I h) fun v s1 ⟨x, H1, I1, r1, q1⟩ => ?_
  refine thn (hb pins s1 σ H1 _ I1 q1) fun u s2 ⟨y, H2, I2, r2, q2⟩ => ?_
  exact hf v u s2 x y H2 I2 r1 r2 q2
theorem z0n {op : Operator} {r : R2} (ho : OpR X (binaryOp op) r) (ha : PE X a ta) (hb : PE X b tb) : PE X (.BinOp a op b pos) (tOp r ta tb) := by
  intro pins s σ H Q I h
  exact wpAny_BinOp (binT ha hb I h fun v u s2 x y H2 I2 rx ry q => ho pins s2 σ H2 x y v u Q I2 rx ry q)
theorem z6p {op : UnaryOp} {r : V -> Hp -> VK -> Prop} (ho : UnR X (unaryOp op) r) (ha : PE X a ta) : PE X (.UnaryOp op a pos) (tUn r ta) := by
  intro pins s σ H Q I h
  exact UnaryOp_ (thn (ha pins s σ H _ I h) fun v s1 ⟨x, H1, I1, r1, q1⟩ => ho pins s1 σ H1 x v Q I1 r1 q1)
theorem opI {f : Value -> Value -> Sem Value} {C : Int -> Int -> Prop} {g : Int -> Int -> Int}
    (rule : ∀ (i j : Int) (t u : Tok) (s : Shared) (Q : Value -> Shared -> Prop) (E : Value -> Shared -> Prop), C i j -> Q (.int (g i j) s.toks) { s with toks := s.toks + 1 } -> wpAny (model X.prog X.w) X.A (f (.int i t) (.int j u)) Q E s) :
    OpR X f (rI C fun i j => .int (g i j)) := by
  intro pins s σ H x y v u Q I rx ry h
  obtain ⟨i, j, rfl, rfl, hc, q⟩ := h
  obtain ⟨t, rfl⟩ := rx
  obtain ⟨t', rfl⟩ := ry
  exact rule i j t t' s _ _ hc ⟨.int (g i j), H, I.tok _, ⟨_, rfl⟩, q⟩
theorem opI0 {f : Value -> Value -> Sem Value} {g : Int -> Int -> Int}
    (rule : ∀ (i j : Int) (t u : Tok) (s : Shared) (Q : Value -> Shared -> Prop) (E : Value -> Shared -> Prop), Q (.int (g i j) s.toks) { s with toks := s.toks + 1 } -> wpAny (model X.prog X.w) X.A (f (.int i t) (.int j u)) Q E s) :
    OpR X f (rI0 fun i j => .int (g i j)) := by
  intro pins s σ H x y v u Q I rx ry h
  obtain ⟨i, j, rfl, rfl, q⟩ := h
  obtain ⟨t, rfl⟩ := rx
  obtain ⟨t', rfl⟩ := ry
  exact rule i j t t' s _ _ ⟨.int (g i j), H, I.tok _, ⟨_, rfl⟩, q⟩
theorem opB0 {f : Value -> Value -> Sem Value} {g : Int -> Int -> Bool}
    (rule : ∀ (i j : Int) (t u : Tok) (s : Shared) (Q : Value -> Shared -> Prop) (E : Value -> Shared -> Prop), Q (.bool (g i j)) s -> wpAny (model X.prog X.w) X.A (f (.int i t) (.int j u)) Q E s) :
    OpR X f (rI0 fun i j => .bl (g i j)) := by
  intro pins s σ H x y v u Q I rx ry h
  obtain ⟨i, j, rfl, rfl, q⟩ := h
  obtain ⟨t, rfl⟩ := rx
  obtain ⟨t', rfl⟩ := ry
  exact rule i j t t' s _ _ ⟨.bl (g i j), H, I, rfl, q⟩
def CDiv (i j : Int) : Prop := 0 < j /\ j < 1073741824
def CDivN (i j : Int) : Prop := j ≠ 0 /\ j.natAbs < 1073741824
def CPow (i j : Int) : Prop := 0 ≤ j /\ j ≤ 1000000 /\ i.natAbs < 2 ^ 64
def CMul (i j : Int) : Prop := (-(2 ^ 64) < i /\ i < 2 ^ 64) \/ (-(2 ^ 64) < j /\ j < 2 ^ 64)
theorem CMul.ok {i j : Int} (h : CMul i j) : IntMulOk i j := by
  rcases h with ⟨h1, h2⟩ | ⟨h1, h2⟩
  · exact .of_left (intBits_le_64 h1 h2)
  · exact .of_right (intBits_le_64 h1 h2)
theorem z1i : OpR X (binaryOp .Add) (rI0 fun i j => .int (i + j)) := opI0 fun _ _ _ _ _ _ _ q => add_int q
theorem z2g : OpR X (binaryOp .Sub) (rI0 fun i j => .int (i - j)) := opI0 fun _ _ _ _ _ _ _ q => sub_int q
theorem z2h : OpR X (binaryOp .Mult) (rI CMul fun i j => .int (i * j)) := opI fun _ _ _ _ _ _ _ hc q => mul_int q hc.ok
theorem z1u : OpR X (binaryOp .FloorDiv) (rI CDiv fun i j => .int (i / j)) := opI fun i j _ _ _ _ _ hc q => by
  have h1 : (0 : Int) < j := hc.1
  have h2 : j < 1073741824 := hc.2
  exact floordiv_int (by omega) (by rw [Int.fdiv_eq_ediv_of_nonneg i (by omega)]; exact q) (.inl (PyProof.noPylong_small (by omega)))
theorem z1q : OpR X (binaryOp .Mod) (rI (fun _ j => 0 < j) fun i j => .int (i % j)) := opI fun i j _ _ _ _ _ hc q => by
  have h1 : (0 : Int) < j := hc
  exact mod_int' (by omega) (by rw [Int.fmod_eq_emod_of_nonneg i (by omega)]; exact q)
theorem z2d : OpR X (binaryOp .Mod) (rI (fun _ j => j ≠ 0) fun i j => .int (i.fmod j)) := opI fun _ _ _ _ _ _ _ hc q => mod_int' hc q
theorem op_pow : OpR X (binaryOp .Pow) (rI CPow fun i j => .int (i ^ j.toNat)) := opI fun _ _ _ _ _ _ _ hc q => pow_int_small hc.1 hc.2.1 hc.2.2 q
theorem unI {f : Value -> Sem Value} {g : Int -> Int}
    (rule : ∀ (i : Int) (t : Tok) (s : Shared) (Q : Value -> Shared -> Prop) (E : Value -> Shared -> Prop), Q (.int (g i) s.toks) { s with toks := s.toks + 1 } -> wpAny (model X.prog X.w) X.A (f (.int i t)) Q E s) :
    UnR X f (rU fun i => .int (g i)) := by
  intro pins s σ H x v Q I rx h
  obtain ⟨i, rfl, q⟩ := h
  obtain ⟨t, rfl⟩ := rx
  exact rule i t s _ _ ⟨.int (g i), H, I.tok _, ⟨_, rfl⟩, q⟩
theorem z4d : UnR X (unaryOp .USub) (rU fun i => .int (-i)) := unI fun _ _ _ _ _ q => neg_int q
end
def scal : V -> V -> Bool
  | .non, .non => true | .non, .int _ => true | .int _, .non => true | .non, .bl _ => true | .bl _, .non => true | .non, .str _ => true | .str _, .non => true
  | .int _, .int _ => true | .bl _, .bl _ => true | .str _, .str _ => true | .byt _, .byt _ => true
  | .int _, .str _ => true | .str _, .int _ => true | .bl _, .str _ => true | .str _, .bl _ => true
  | _, _ => false
def rEq : R2 := fun x y H Q => scal x y = true /\ Q (.bl (decide (x = y))) H
def rNe : R2 := fun x y H Q => scal x y = true /\ Q (.bl (!decide (x = y))) H
theorem dec_int {i j : Int} : decide (V.int i = V.int j) = (i == j) := by
  rw [Bool.eq_iff_iff]
  simp
theorem dec_bl {i j : Bool} : decide (V.bl i = V.bl j) = (i == j) := by
  rw [Bool.eq_iff_iff]
  simp
theorem dec_str {i j : Str} : decide (V.str i = V.str j) = (i == j) := by
  rw [Bool.eq_iff_iff]
  simp
theorem dec_byt {i j : Array UInt8} : decide (V.byt i = V.byt j) = (i.toList == j.toList) := by
  rw [Bool.eq_iff_iff]
  cases i
  cases j
  simp
section
variable {X : Cx} {a b c : Expr} {ta tb tc : TE} {pos : Pos}
theorem z1l {pins : List (Addr × Obj)} {σ : St} {H : Hp} {s : Shared} {Q : VK} {k k' : Bool} (I : Inv X pins σ H s) (q : Q (.bl k) H) (e : k = k') : EP X pins σ Q (.bool k') s := by
  subst e
  exact ⟨.bl k, H, I, rfl, q⟩
theorem z1m : OpR X (compareOp .Eq) rEq := by
  intro pins s σ H x y v u Q I rx ry h
  obtain ⟨hs, q⟩ := h
  cases x with
  | non =>
    cases rx
    cases y with
    | non => cases ry; exact PySem.EqNone.eq_none_none (z1l I q (by simp))
    | bl j => cases ry; exact PySem.EqNone.eq_none_bool (z1l I q (by simp))
    | int j => obtain ⟨t', rfl⟩ := ry; exact PySem.EqNone.eq_none_int (z1l I q (by simp))
    | str j => obtain ⟨t', rfl⟩ := ry; exact PySem.EqNone.eq_none_str (z1l I q (by simp))
    | _ => exact absurd (show false = true from hs) Bool.false_ne_true
  | bl i =>
    cases rx
    cases y with
    | non => cases ry; exact PySem.EqNone.eq_bool_none (z1l I q (by simp))
    | bl j => cases ry; exact eq_bool (z1l I q dec_bl)
    | str j => obtain ⟨t', rfl⟩ := ry; exact PySem.EqMixed.eq_bool_str (z1l I q (by simp))
    | _ => exact absurd (show false = true from hs) Bool.false_ne_true
  | int i =>
    obtain ⟨t, rfl⟩ := rx
    cases y with
    | non => cases ry; exact PySem.EqNone.eq_int_none (z1l I q (by simp))
    | int j => obtain ⟨t', rfl⟩ := ry; exact eq_int (z1l I q dec_int)
    | str j => obtain ⟨t', rfl⟩ := ry; exact PySem.EqMixed.eq_int_str (z1l I q (by simp))
    | _ => exact absurd (show false = true from hs) Bool.false_ne_true
  | str i =>
    obtain ⟨t, rfl⟩ := rx
    cases y with
    | non => cases ry; exact PySem.EqNone.eq_str_none (z1l I q (by simp))
    | bl j => cases ry; exact PySem.EqMixed.eq_str_bool (z1l I q (by simp))
    | int j => obtain ⟨t', rfl⟩ := ry; exact PySem.EqMixed.eq_str_int (z1l I q (by simp))
    | str j => obtain ⟨t', rfl⟩ := ry; exact eq_str (z1l I q dec_str)
    | _ => exact absurd (show false = true from hs) Bool.false_ne_true
  | byt i =>
    obtain ⟨t, rfl⟩ := rx
    cases y with
    | byt j => obtain ⟨t', rfl⟩ := ry; exact PySem.W.eq_bytes (z1l I q dec_byt)
    | _ => exact absurd (show false = true from hs) Bool.false_ne_true
  | _ => cases y <;> exact absurd (show false = true from hs) Bool.false_ne_true
theorem op_ne : OpR X (compareOp .NotEq) rNe := by
  intro pins s σ H x y v u Q I rx ry h
  obtain ⟨hs, q⟩ := h
  cases x with
  | non =>
    cases rx
    cases y with
    | non => cases ry; exact PySem.EqNone.ne_none_none (z1l I q (by simp))
    | bl j => cases ry; exact PySem.EqNone.ne_none_bool (z1l I q (by simp))
    | int j => obtain ⟨t', rfl⟩ := ry; exact PySem.EqNone.ne_none_int (z1l I q (by simp))
    | str j => obtain ⟨t', rfl⟩ := ry; exact PySem.EqNone.ne_none_str (z1l I q (by simp))
    | _ => exact absurd (show false = true from hs) Bool.false_ne_true
  | bl i =>
    cases rx
    cases y with
    | non => cases ry; exact PySem.EqNone.ne_bool_none (z1l I q (by simp))
    | bl j => cases ry; exact ne_bool (z1l I q (congrArg not dec_bl))
    | str j => obtain ⟨t', rfl⟩ := ry; exact PySem.EqMixed.ne_bool_str (z1l I q (by simp))
    | _ => exact absurd (show false = true from hs) Bool.false_ne_true
  | int i =>
    obtain ⟨t, rfl⟩ := rx
    cases y with
    | non => cases ry; exact PySem.EqNone.ne_int_none (z1l I q (by simp))
    | int j => obtain ⟨t', rfl⟩ := ry; exact ne_int (z1l I q (congrArg not dec_int))
    | str j => obtain ⟨t', rfl⟩ := ry; exact PySem.EqMixed.ne_int_str (z1l I q (by simp))
    | _ => exact absurd (show false = true from hs) Bool.false_ne_true
  | str i =>
    obtain ⟨t, rfl⟩ := rx
    cases y with
    | non => cases ry; exact PySem.EqNone.ne_str_none (z1l I q (by simp))
    | bl j => cases ry; exact PySem.EqMixed.ne_str_bool (z1l I q (by simp))
    | int j => obtain ⟨t', rfl⟩ := ry; exact PySem.EqMixed.ne_str_int (z1l I q (by simp))
    | str j => obtain ⟨t', rfl⟩ := ry; exact ne_str (z1l I q (congrArg not dec_str))
    | _ => exact absurd (show false = true from hs) Bool.false_ne_true
  | byt i =>
    obtain ⟨t, rfl⟩ := rx
    cases y with
    | byt j => obtain ⟨t', rfl⟩ := ry; exact PySem.W.ne_bytes (z1l I q (congrArg not dec_byt))
    | _ => exact absurd (show false = true from hs) Bool.false_ne_true
  | _ => cases y <;> exact absurd (show false = true from hs) Bool.false_ne_true
theorem z3a : OpR X (compareOp .Lt) (rI0 fun i j => .bl (decide (i < j))) := opB0 fun _ _ _ _ _ _ _ q => lt_int q
theorem op_le : OpR X (compareOp .LtE) (rI0 fun i j => .bl (decide (i ≤ j))) := opB0 fun _ _ _ _ _ _ _ q => le_int q
theorem z4h : OpR X (compareOp .Gt) (rI0 fun i j => .bl (decide (j < i))) := opB0 fun _ _ _ _ _ _ _ q => gt_int q
theorem op_ge : OpR X (compareOp .GtE) (rI0 fun i j => .bl (decide (j ≤ i))) := opB0 fun _ _ _ _ _ _ _ q => ge_int q
theorem op_notN : OpR X (compareOp .IsNot) (fun x y H Q => y = .non /\ Q (.bl (!decide (x = .non))) H) := by
  intro pins s σ H x y v u Q I rx ry h
  obtain ⟨rfl, q⟩ := h
  cases ry
  refine isnot_none_gen (z1l I q ?_)
  cases x <;> first
    | (cases rx; rfl)
    | (obtain ⟨t, rfl⟩ := rx; rfl)
theorem z0o (b : Expr) {op : CmpOp} (h : op ≠ .In := by decide) (h2 : op ≠ .NotIn := by decide) : behindInMarks op b = false := by
  have e1 : (op == CmpOp.In) = false := by cases op <;> first | rfl | exact absurd rfl h
  have e2 : (op == CmpOp.NotIn) = false := by cases op <;> first | rfl | exact absurd rfl h2
  cases b <;> simp [behindInMarks, e1, e2]
theorem pe_cmpR {op : CmpOp} {r : R2} (ho : OpR X (compareOp op) r) (ha : PE X a ta) (hb : PE X b tb) (hm : behindInMarks op b = false) : PE X (.Compare a [op] [b] pos) (tOp r ta tb) := by
  intro pins s σ H Q I h
  exact wpAny_Compare1 (binT ha hb I h fun v u s2 x y H2 I2 rx ry q => ho pins s2 σ H2 x y v u Q I2 rx ry q) hm
def tTest (t : TE) : TT := fun σ H Q => t σ H fun x H' => ∃ k, x = .bl k /\ Q k H'
theorem z0j {op : CmpOp} {r : R2} (ho : OpR X (compareOp op) r) (ha : PE X a ta) (hb : PE X b tb) (hm : behindInMarks op b = false) : PT X (.Compare a [op] [b] pos) (tTest (tOp r ta tb)) := by
  intro pins s σ H Q I h
  refine wpAny_isTrue_Compare1 (thn (ha pins s σ H _ I h) fun v s1 ⟨x, H1, I1, r1, q1⟩ => thn (hb pins s1 σ H1 _ I1 q1) fun u s2 ⟨y, H2, I2, r2, q2⟩ =>
    thn (ho pins s2 σ H2 x y v u _ I2 r1 r2 q2) fun c s3 ⟨z, H3, I3, r3, k, e, q3⟩ => ?_) hm
  subst e
  cases r3
  exact wpAny_truthy_bool ⟨H3, I3, q3⟩
def tChain (r r' : R2) (ta tb tc : TE) : TE := fun σ H Q => ta σ H fun x H1 => tb σ H1 fun y H2 => r x y H2 fun z H3 => ∃ k, z = .bl k /\
  (if k = true then tc σ H3 fun w' H4 => r' y w' H4 Q else Q (.bl false) H3)
theorem pe_chain {op op' : CmpOp} {r r' : R2} (ho : OpR X (compareOp op) r) (ho' : OpR X (compareOp op') r') (ha : PE X a ta) (hb : PE X b tb) (hc : PE X c tc)
    (hm : lastMarks [op, op'] [b, c] = false := by with_unfolding_all rfl) : PE X (.Compare a [op, op'] [b, c] pos) (tChain r r' ta tb tc) := by
  intro pins s σ H Q I h
  refine Compare_chain (thn (ha pins s σ H _ I h) fun v s1 ⟨x, H1, I1, r1, q1⟩ => chain_link (thn (hb pins s1 σ H1 _ I1 q1) fun u s2 ⟨y, H2, I2, r2, q2⟩ =>
    thn (ho pins s2 σ H2 x y v u _ I2 r1 r2 q2) fun d s3 ⟨z, H3, I3, r3, k, e, q3⟩ => ?_)) hm
  subst e
  cases r3
  refine wpAny_truthy_bool ?_
  cases k with
  | false => exact ite_ff ⟨.bl false, H3, I3, rfl, q3⟩
  | true => exact ite_tt (chain_last (thn (hc pins s3 σ H3 _ I3 q3) fun w' s4 ⟨z', H4, I4, r4, q4⟩ => ho' pins s4 σ H4 y z' u w' Q I4 r2 r4 q4))
theorem pt_chain {op op' : CmpOp} {r r' : R2} (ho : OpR X (compareOp op) r) (ho' : OpR X (compareOp op') r') (ha : PE X a ta) (hb : PE X b tb) (hc : PE X c tc)
    (hm : lastMarks [op, op'] [b, c] = false := by with_unfolding_all rfl) : PT X (.Compare a [op, op'] [b, c] pos) (tTest (tChain r r' ta tb tc)) := by
  intro pins s σ H Q I h
  refine isTrue_chain (thn (ha pins s σ H _ I h) fun v s1 ⟨x, H1, I1, r1, q1⟩ => test_link (thn (hb pins s1 σ H1 _ I1 q1) fun u s2 ⟨y, H2, I2, r2, q2⟩ =>
    thn (ho pins s2 σ H2 x y v u _ I2 r1 r2 q2) fun d s3 ⟨z, H3, I3, r3, k, e, q3⟩ => ?_)) hm
  subst e
  cases r3
  refine wpAny_truthy_bool ?_
  cases k with
  | false =>
    obtain ⟨k', e', q'⟩ := q3
    cases e'
    exact ite_ff ⟨H3, I3, q'⟩
  | true =>
    refine ite_tt (test_last (thn (hc pins s3 σ H3 _ I3 q3) fun w' s4 ⟨z', H4, I4, r4, q4⟩ => thn (ho' pins s4 σ H4 y z' u w' _ I4 r2 r4 q4) fun d' s5 ⟨z2, H5, I5, r5, k2, e2, q5⟩ => ?_))
    subst e2
    cases r5
    exact wpAny_truthy_bool ⟨H5, I5, q5⟩
theorem line63 : (sizeLine : Nat) < 2 ^ 63 := by rw [sizeLine_eq]; decide
theorem z5y {x : V} {us : List Value} (r : Vals [x] us) : ∃ u, us = [u] /\ RelV x u := by
  cases r with
  | cons r1 r2 => cases r2; exact ⟨_, rfl, r1⟩
theorem vals2 {x y : V} {us : List Value} (r : Vals [x, y] us) : ∃ u w', us = [u, w'] /\ RelV x u /\ RelV y w' := by
  cases r with
  | cons r1 r2 =>
    cases r2 with
    | cons r3 r4 => cases r4; exact ⟨_, _, rfl, r1, r3⟩
theorem z3d (hc : X.calm = true) : CallR X (.builtin "max") (fun xs H Q => ∃ i j, xs = [.int i, .int j] /\ Q (.int (if j > i then j else i)) H) := by
  intro pins s σ H xs us Q I r h
  obtain ⟨i, j, rfl, q⟩ := h
  obtain ⟨u, w', rfl, ⟨t, rfl⟩, ⟨t', rfl⟩⟩ := vals2 r
  refine max_two_ints (I.ok.hd hc) fun h' tk k => ⟨_, H, I.kept k, ?_, q⟩
  by_cases hj : j > i
  · rw [if_pos hj, if_pos hj]; exact ⟨_, rfl⟩
  · rw [if_neg hj, if_neg hj]; exact ⟨_, rfl⟩
theorem z2t (hc : X.calm = true) : CallR X (.builtin "min") (fun xs H Q => ∃ i j, xs = [.int i, .int j] /\ Q (.int (if j < i then j else i)) H) := by
  intro pins s σ H xs us Q I r h
  obtain ⟨i, j, rfl, q⟩ := h
  obtain ⟨u, w', rfl, ⟨t, rfl⟩, ⟨t', rfl⟩⟩ := vals2 r
  refine min_two_ints (I.ok.hd hc) fun h' tk k => ⟨_, H, I.kept k, ?_, q⟩
  by_cases hj : j < i
  · rw [if_pos hj, if_pos hj]; exact ⟨_, rfl⟩
  · rw [if_neg hj, if_neg hj]; exact ⟨_, rfl⟩
end
structure ObjM (h : Heap) (x dx C : Addr) (mA : Str -> Option Value) : Prop where
  obj : h.get? x = some (PySem.W.instObj C dx)
  ns : h.Ns1 dx mA
  ne : dx ≠ x
theorem lookIn_ns {h : Heap} {dx : Addr} {mA : Str -> Option Value} (n : h.Ns1 dx mA) : ∃ od, h.get? dx = some od /\ ∀ name, PySem.W.lookIn name od = some (mA name) := by
  obtain ⟨o, es, ep, ho, hd, hk, _, hm⟩ := n
  refine ⟨o, ho, fun name => ?_⟩
  have e := hm name
  unfold nsFind findBy at e
  rw [← Array.find?_toList] at e
  unfold PySem.W.lookIn
  rw [hd]
  dsimp only
  split
  · rename_i y q
    rw [q] at e
    exact congrArg some e
  · rename_i q
    rw [q] at e
    have a : es.toList.any (·.refKey) = false := by
      rw [List.any_eq_false]
      intro y hy
      obtain ⟨z, t, hkey⟩ := hk y (Array.mem_toList_iff.mp hy)
      simp [DictEntry.refKey, hkey]
    have a' : ¬ es.toList.any (·.refKey) = true := by rw [a]; exact Bool.false_ne_true
    rw [if_neg a']
    exact congrArg some e
theorem ObjM.look {h : Heap} {x dx C : Addr} {mA : Str -> Option Value} (I : ObjM h x dx C mA) : ∃ od, PySem.W.InstAt h x (PySem.W.instObj C dx) C (some od) /\ ∀ name, PySem.W.lookIn name od = some (mA name) :=
  let ⟨od, ho, hl⟩ := lookIn_ns I.ns
  ⟨od, ⟨I.obj, rfl, rfl, ho⟩, hl⟩
section
variable {prog : Program} {w : World} {A : Around} {E : Value -> Shared -> Prop} {s : Shared} {K : PySem.W.Frag} {x dx C f : Addr} {mA : Str -> Option Value} {name : Str} {v : Value}
end
section
variable {P : Program} {w : World} {H H' : Hp} {h h' : Heap} {a C dx : Addr} {fs fs' : List (Str × V)}
theorem ins_get (hok : HOk P w H h) (e : H a = some (.ins C dx fs)) : ∃ mA, ObjM h a dx C mA /\ (∀ f, RelO (fs.lookup f) (mA f)) /\ PySem.Within mA (fs.map (·.1)) /\ fs.length ≤ 1000 /\ H dx = some (.own a) := by
  obtain ⟨d, z, ne, ob, mA, n, r, q⟩ := (show ObjOk P w H h a (.ins C dx fs) from hok a _ e)
  exact ⟨mA, ⟨ob, n, ne⟩, r, q, z, d⟩
end
structure Cls (K : PySem.W.Frag) (C : Addr) : Prop where
  pg : PySem.W.plainGet K C Str.empty = true
  hd : PySem.W.hasDictIn K C = true
  po : PySem.W.plainOver K C = true
  sa : PySem.W.findIn K (.ref C) "__setattr__" = some (some (.builtin "object.__setattr__"))
theorem Cls.get {K : PySem.W.Frag} {C : Addr} (c : Cls K C) (f : Str) : PySem.W.plainGet K C f = true := c.pg
structure Con (K : PySem.W.Frag) (C : Addr) (f : Str) (v : V) (u : Value) : Prop where
  at_ : PySem.W.findIn K (.ref C) f = some (some u)
  rel : RelV v u
  get : PySem.W.specialIn K u "__get__" = some none
  cp : PySem.W.copiedNames.contains f = false
structure Meth (K : PySem.W.Frag) (C : Addr) (m : Str) (f : Addr) : Prop where
  at_ : PySem.W.findIn K (.ref C) m = some (some (.ref f))
  fn : PySem.W.isFn K (.ref f) = true
  kp : PySem.W.keepIn K (.ref f) = true
section
variable {X : Cx} {pins : List (Addr × Obj)} {σ : St} {H : Hp} {s : Shared} {a C dx : Addr} {fs : List (Str × V)} {f : Str} {v : V} {A : Around} {E : Value -> Shared -> Prop}
theorem Inv.made (I : Inv X pins σ H s) : Inv X pins σ (upd (upd H s.heap.objs.size (.own (s.heap.objs.size + 1))) (s.heap.objs.size + 1) (.ins C s.heap.objs.size []))
    { s with heap := (s.heap.push PySem.W.emptyDict).push (PySem.W.instObj C s.heap.objs.size) } := by
  have e1 : (s.heap.push PySem.W.emptyDict).get? s.heap.objs.size = some PySem.W.emptyDict := Heap.get?_push_size s.heap rfl
  have e2 : ((s.heap.push PySem.W.emptyDict).push (PySem.W.instObj C s.heap.objs.size)).get? (s.heap.objs.size + 1) = some (PySem.W.instObj C s.heap.objs.size) := by
    have := Heap.get?_push_size (s.heap.push PySem.W.emptyDict) (o := PySem.W.instObj C s.heap.objs.size) rfl
    rwa [Heap.size_push] at this
  have e3 : (s.heap.push PySem.W.emptyDict).Ns s.heap.objs.size (fun _ => none) := ⟨PySem.W.emptyDict, #[], _, e1, rfl, (fun e he => absurd he (by simp)), fun _ => rfl⟩
  have I1 := I.laid (a := s.heap.objs.size) (o := .own (s.heap.objs.size + 1)) (h' := s.heap.push PySem.W.emptyDict) (t' := s.toks) (fun b u q => Heap.get?_push_of_some _ q) (Nat.le_refl _) ⟨_, e1⟩
  refine I1.laid (a := s.heap.objs.size + 1) (o := .ins C s.heap.objs.size []) (t' := s.toks) (fun b u q => Heap.get?_push_of_some _ q) (Nat.le_of_eq (Heap.size_push _ _)) ?_
  have ne : s.heap.objs.size ≠ s.heap.objs.size + 1 := Nat.ne_of_lt (Nat.lt_succ_self _)
  refine ⟨by rw [z0x ne, z0k], Nat.zero_le _, ne, e2, fun _ => none, (Heap.Ns1.of_empty e3).at fun o q => Heap.get?_push_of_some _ q, fun _ => True.intro, fun y hy => absurd rfl hy⟩
end
section
variable {X : Cx} {o e value : Expr} {f : Str} {pos pos' tpos : Pos} {ta tv : TE}
end
section
variable {X : Cx} {pins : List (Addr × Obj)} {σ : St} {H : Hp} {s : Shared} {A : Around} {E : Value -> Shared -> Prop} {Q : Value -> Shared -> Prop} {c : Value} {b : Bool}
inductive TyOf (K : PySem.W.Frag) (H : Hp) : V -> Value -> Prop where
  | non : TyOf K H .non (.type "NoneType")
  | bl (x : Bool) : TyOf K H (.bl x) (.type "bool")
  | int (i : Int) : TyOf K H (.int i) (.type "int")
  | str (x : Str) : TyOf K H (.str x) (.type "str")
  | flt (x : UInt64) : TyOf K H (.flt x) (.type "float")
  | lst {a : Addr} {xs : List V} (e : H a = some (.lst xs)) : TyOf K H (.ref a) (.type "list")
  | frz {a : Addr} {o : Obj} {xs : List V} (e : H a = some (.frz o (.lst xs))) : TyOf K H (.ref a) (.type "list")
  | tup {a : Addr} {xs : List V} (e : H a = some (.tup xs)) : TyOf K H (.ref a) (.type "tuple")
  | dK {a : Addr} {kvs : List (Key × V)} (e : H a = some (.dK kvs)) : TyOf K H (.ref a) (.type "dict")
  | dT {a : Addr} {kvs : List (List Key × V)} (e : H a = some (.dT kvs)) : TyOf K H (.ref a) (.type "dict")
  | ins {a C dx : Addr} {fs : List (Str × V)} (e : H a = some (.ins C dx fs)) (cl : Cls K C) (ha : PySem.W.findIn K (.ref C) "__class__" = some (some (.builtin "object.__class__")))
      (hn : PySem.W.specialIn K (.builtin "object.__class__") "__get__" = some (some (.builtin "getset_descriptor.__get__"))) (htk : PySem.W.takesIn K (.builtin "object.__class__") = some true)
      (hm : PySem.W.mroIn K C (.type "object") = some true) : TyOf K H (.ref a) (.ref C)
theorem isinst_ok {x : V} {u t : Value} (I : Inv X pins σ H s) (rx : RelV x u) (ty : TyOf X.K H x t) (e : PySem.W.kitOne X.K t c = some b) (h : ∀ tk, Q (.bool b) { s with toks := tk }) :
    wpAny (model X.prog X.w) A (call (.builtin "isinstance") [u, c]) Q E s := by
  cases ty with
  | non => cases (show u = Value.none from rx); exact PySem.W.kia_one PySem.W.kitx_none I.kIn True.intro e (fun z => nomatch z) h
  | bl y => cases (show u = Value.bool y from rx); exact PySem.W.kia_one PySem.W.kitx_bool I.kIn True.intro e (fun z => nomatch z) h
  | int i => obtain ⟨t, q⟩ := (show ∃ t, u = Value.int i t from rx); cases q; exact PySem.W.kia_one PySem.W.kitx_int I.kIn True.intro e (fun z => nomatch z) h
  | str y => obtain ⟨t, q⟩ := (show ∃ t, u = Value.str y t from rx); cases q; exact PySem.W.kia_one PySem.W.kitx_str I.kIn True.intro e (fun z => nomatch z) h
  | flt y => obtain ⟨t, q⟩ := (show ∃ t, u = Value.float y t from rx); cases q; exact PySem.W.kia_one PySem.W.kitx_float I.kIn True.intro e (fun z => nomatch z) h
  | @lst a xs ea =>
    cases (show u = Value.ref a from rx)
    obtain ⟨_, _, n, _, h1⟩ := (show ObjOk X.prog X.w H s.heap a (.lst xs) from I.hok a _ ea)
    exact PySem.W.kia_one PySem.W.kitx_list I.kIn ⟨_, h1, rfl⟩ e (fun z => nomatch z) h
  | @frz a ob xs ea =>
    cases (show u = Value.ref a from rx)
    obtain ⟨_, _, _, n, _, h1⟩ := (show ObjOk X.prog X.w H s.heap a (.frz ob (.lst xs)) from I.hok a _ ea)
    exact PySem.W.kia_one PySem.W.kitx_list I.kIn ⟨_, h1, rfl⟩ e (fun z => nomatch z) h
  | @tup a xs ea =>
    cases (show u = Value.ref a from rx)
    obtain ⟨_, _, _, p⟩ := (show ObjOk X.prog X.w H s.heap a (.tup xs) from I.hok a _ ea)
    obtain ⟨o, h1, h2, _⟩ := p
    exact PySem.W.kia_one PySem.W.kitx_tuple I.kIn ⟨o, h1, h2⟩ e (fun z => nomatch z) h
  | @dK a kvs ea =>
    cases (show u = Value.ref a from rx)
    obtain ⟨_, _, vs, _, p⟩ := (show ObjOk X.prog X.w H s.heap a (.dK kvs) from I.hok a _ ea)
    obtain ⟨o, es, ep, h1, h2, _⟩ := p
    exact PySem.W.kia_one PySem.W.kitx_dict I.kIn ⟨o, h1, h2.1⟩ e (fun z => nomatch z) h
  | @dT a kvs ea =>
    cases (show u = Value.ref a from rx)
    obtain ⟨_, _, xs, _, o, es, ep, h1, h2, _⟩ := (show ObjOk X.prog X.w H s.heap a (.dT kvs) from I.hok a _ ea)
    exact PySem.W.kia_one PySem.W.kitx_dict I.kIn ⟨o, h1, h2.1⟩ e (fun z => nomatch z) h
  | @ins a C dx fs ea cl ha hn htk hm =>
    cases (show u = Value.ref a from rx)
    obtain ⟨mA, O, _⟩ := ins_get I.hok ea
    obtain ⟨od, J, _⟩ := O.look
    exact PySem.W.kia_one (PySem.W.kitx_own (cl.get _) cl.hd ha hn htk hm) I.kIn J e (fun z => nomatch z) h
end
structure Room (k : Nat) (A : Around) : Prop where
  hd : A.handled = none
  dp : A.depth + 3 * k + 5 < recursionLimit
  un : A.units + 16 * k + 200 < cLine
theorem Room.mono {j k : Nat} {A : Around} (r : Room k A) (h : j ≤ k) : Room j A := ⟨r.hd, by have := r.dp; omega, by have := r.un; omega⟩
theorem Room.deeper {k : Nat} {A : Around} (r : Room (k + 1) A) (env : Env) : Room k (A.deeper env) :=
  ⟨r.hd, by have := r.dp; show A.depth + 1 + 3 * k + 5 < _; omega, by have := r.un; show A.units + 3 + 16 * k + 200 < _; omega⟩
theorem Room.in1 {k : Nat} {A : Around} (r : Room (k + 1) A) : Room k A.in1 :=
  ⟨r.hd, by have := r.dp; show A.depth + 3 * k + 5 < _; omega, by have := r.un; show A.units + 1 + 16 * k + 200 < _; omega⟩
theorem Room.depth {k : Nat} {A : Around} (r : Room k A) : A.depth < recursionLimit := by have := r.dp; omega
theorem Room.units {k : Nat} {A : Around} (r : Room k A) : A.units + 64 < cLine := by have := r.un; omega
theorem Room.units0 {k : Nat} {A : Around} (r : Room k A) : A.units < cLine := by have := r.un; omega
def tNil : TA := fun _ H Q => Q [] H
def tCons (ta : TE) (tr : TA) : TA := fun σ H Q => ta σ H fun x H1 => tr σ H1 fun xs H2 => Q (x :: xs) H2
section
variable {X : Cx} {e : Expr} {es : List Expr} {te : TE} {t : TA} {pos : Pos}
theorem z0d : PA X [] tNil := fun _ _ _ _ H Q I h => Calls.spliced_nil ⟨[], H, I, .nil, h⟩
theorem z0a (ha : PE X e te) (hr : PA X es t) (hs : starEach (e :: es) X.env = (false, eval e X.env) :: starEach es X.env := by rfl) : PA X (e :: es) (tCons te t) := by
  intro pos pins s σ H Q I h
  rw [hs]
  show wpAny _ _ (spliced ((false, eval e X.env) :: backTo pos (starEach es X.env))) _ _ s
  refine Calls.spliced_cons (thn (ha pins s σ H _ I h) fun u s1 ⟨x, H1, I1, r1, q1⟩ => ?_)
  exact thn (hr pos pins s1 σ H1 _ I1 q1) fun us s2 ⟨xs, H2, I2, r2, q2⟩ => ⟨x :: xs, H2, I2, .cons r1 r2, q2⟩
def tTup (t : TA) : TE := fun σ H Q => t σ H fun xs H1 => xs.length ≤ sizeLine /\ ∀ p, H1 p = none -> Q (.ref p) (upd H1 p (.tup xs))
def tLst (t : TA) : TE := fun σ H Q => t σ H fun xs H1 => xs.length ≤ sizeLine /\ ∀ p, H1 p = none -> Q (.ref p) (upd H1 p (.lst xs))
theorem z1d {x1} (h : PA X es t) : PE X (.Tuple es x1 pos) (tTup t) := by
  intro pins s σ H Q I hq
  refine wpAny_Tuple_spliced (thn (h pos pins s σ H _ I hq) fun us s1 ⟨xs, H1, I1, r, z, q⟩ => ⟨by rw [← r.length]; exact z, ?_⟩)
  have hf : H1 s1.heap.objs.size = none := I1.hok.fresh (Nat.le_refl _)
  refine ⟨.ref s1.heap.objs.size, upd H1 s1.heap.objs.size (.tup xs), I1.laid (t' := s1.toks) (fun b u e => Heap.get?_push_of_some _ e) (Nat.le_refl _) ?_, rfl, q _ hf⟩
  exact ⟨z, us, r, ⟨_, Heap.get?_push_size _ rfl, rfl, _, rfl⟩⟩
theorem pe_lst (h : PA X es t) : PE X (.List es pos) (tLst t) := by
  intro pins s σ H Q I hq
  refine wpAny_List_spliced (thn (h pos pins s σ H _ I hq) fun us s1 ⟨xs, H1, I1, r, z, q⟩ => ⟨by rw [← r.length]; exact z, ?_⟩)
  have hf : H1 s1.heap.objs.size = none := I1.hok.fresh (Nat.le_refl _)
  refine ⟨.ref s1.heap.objs.size, upd H1 s1.heap.objs.size (.lst xs), I1.laid (t' := s1.toks) (fun b u e => Heap.get?_push_of_some _ e) (Nat.le_refl _) ?_, rfl, q _ hf⟩
  exact ⟨z, us, 0, r, Heap.get?_push_size _ rfl⟩
end
abbrev Sp := List V -> Hp -> VK -> XK -> Prop
abbrev CXT := List Env -> Hp -> Shared -> XK -> Value -> Shared -> Prop
structure Env0 (P : Program) (w : World) (K : PySem.W.Frag) (mg : Str -> Option Value) (base : Heap) (A : Around) (outer : List Env) (s : Shared) (H : Hp) : Prop where
  frames : A.frames = some outer
  mod : Mod K mg base
  bs : ∀ b o, base.get? b = some o -> s.heap.get? b = some o /\ H b = none
  bsz : base.objs.size ≤ s.heap.objs.size
  funs : s.heap.FunFrames base outer
  frf : ∀ b ∈ frs outer, H b = none
  hok : HOk P w H s.heap
  bare : AllBare s.gens
def CE (outer : List Env) (P : Program) (w : World) (H : Hp) (s : Shared) (Q : VK) (u : Value) (s' : Shared) : Prop :=
  ∃ v H', s'.os = s.os /\ AllBare s'.gens /\ Un (frs outer) [] H H' s.heap s'.heap /\ HOk P w H' s'.heap /\ RelV v u /\ Q v H'
def CR (CX : CXT) (outer : List Env) (P : Program) (w : World) (H : Hp) (s : Shared) (Q : VK) (E : XK) (r : Result) (s' : Shared) : Prop :=
  match r with
  | .ok (.ret u) => CE outer P w H s Q u s'
  | .ok _ => False
  | .error e => CX outer H s E e s'
structure FnOk (P : Program) (w : World) (K : PySem.W.Frag) (mg : Str -> Option Value) (base : Heap) (CX : CXT) (k : Nat) (f : Addr) (fd : FuncData) (ps : List Str) (sp : Sp) : Prop where
  len : ∀ vs H Q E, sp vs H Q E -> vs.length = ps.length
  run : ∀ (A : Around) (outer : List Env) (s : Shared) (H : Hp) (args : Args) (us : List Value) (vs : List V) (Q : VK) (E : XK), Room k A -> Env0 P w K mg base A outer s H -> BindsTo s fd args (ps.zip us) -> Vals vs us -> sp vs H Q E ->
    codeAny (model P w) A (.call (.ref f) args) (CR CX outer P w H s Q E) s
theorem FnOk.mono {P : Program} {w : World} {K : PySem.W.Frag} {mg : Str -> Option Value} {base : Heap} {CX : CXT} {j k : Nat} {f : Addr} {fd : FuncData} {ps : List Str} {sp : Sp} (F : FnOk P w K mg base CX j f fd ps sp) (h : j ≤ k) :
    FnOk P w K mg base CX k f fd ps sp := ⟨F.len, fun A outer s H args us vs Q E hr => F.run A outer s H args us vs Q E (hr.mono h)⟩
theorem FnOk.imp {P : Program} {w : World} {K : PySem.W.Frag} {mg : Str -> Option Value} {base : Heap} {CX : CXT} {k : Nat} {f : Addr} {fd : FuncData} {ps : List Str} {sp sp' : Sp} (F : FnOk P w K mg base CX k f fd ps sp)
    (h : ∀ vs H Q E, sp' vs H Q E -> sp vs H Q E) : FnOk P w K mg base CX k f fd ps sp' :=
  ⟨fun vs H Q E q => F.len vs H Q E (h _ _ _ _ q), fun A outer s H args us vs Q E hr he hb hv hs => F.run A outer s H args us vs Q E hr he hb hv (h _ _ _ _ hs)⟩
theorem Env0.in1 {P : Program} {w : World} {K : PySem.W.Frag} {mg : Str -> Option Value} {base : Heap} {A : Around} {outer : List Env} {s : Shared} {H : Hp} (e : Env0 P w K mg base A outer s H) :
    Env0 P w K mg base A.in1 outer s H := ⟨e.frames, e.mod, e.bs, e.bsz, e.funs, e.frf, e.hok, e.bare⟩
section
variable {X : Cx} {pins : List (Addr × Obj)} {σ : St} {H : Hp} {s s' : Shared}
theorem Inv.env0 (I : Inv X pins σ H s) : Env0 X.prog X.w X.K X.mg X.base X.A X.stack s H :=
  ⟨I.ok.frames, I.ok.mod, I.bs, Nat.le_trans I.ok.bsz I.sz, I.stack, I.stkFree, I.hok, I.bare⟩
theorem Inv.after {Q : VK} {u : Value} (I : Inv X pins σ H s) (h : CE X.stack X.prog X.w H s Q u s') : EP X pins σ Q u s' := by
  obtain ⟨v, H', os, bare, un, hok, r, q⟩ := h
  obtain ⟨hh, g, d, t, os'⟩ := s'
  obtain rfl : os' = s.os := os
  exact ⟨v, H', I.call (h' := hh) (g' := g) (d' := d) (t' := t) (ch := []) un hok bare (fun b z => absurd z (by simp)), r, q⟩
end
def tCall (sp : Sp) (dvs : List V) (E : XK) (t : TA) : TE := fun σ H Q => t σ H fun vs H1 => sp (vs ++ dvs) H1 Q E
def Binds (K : PySem.W.Frag) (fd : FuncData) (ps : List Str) (ds : List Value) : Prop :=
  ∀ (s : Shared) (us : List Value), K.In s.heap -> (us ++ ds).length = ps.length -> BindsTo s fd ⟨us, []⟩ (ps.zip (us ++ ds))
theorem Binds.all {K : PySem.W.Frag} {fd : FuncData} {ps : List Str} (h : ∀ us : List Value, us.length = ps.length -> bindArgs fd ⟨us, []⟩ = pure (ps.zip us)) : Binds K fd ps [] := fun s us _ hl => by
  rw [List.append_nil] at hl ⊢
  exact .of_eq (h us hl)
def Passes (CX : CXT) (X : Cx) (E : XK) : Prop := ∀ (pins : List (Addr × Obj)) (σ : St) (H : Hp) (s : Shared) (e : Value) (s' : Shared), Inv X pins σ H s -> CX X.stack H s E e s' -> X.xe e s'
section
variable {X : Cx} {CX : CXT} {k : Nat} {f C : Addr} {fd : FuncData} {ps : List Str} {sp : Sp} {dvs : List V} {ds : List Value} {E : XK} {x m : Str} {p pos apos : Pos} {e o : Expr} {es : List Expr} {ta : TE} {t : TA}
theorem run_fn {pins : List (Addr × Obj)} {σ : St} {H : Hp} {s : Shared} {Q : VK} {us : List Value} {vs : List V} (F : FnOk X.prog X.w X.K X.mg X.base CX k f fd ps sp) (hr : Room k X.A) (hb : Binds X.K fd ps ds) (hd : Vals dvs ds) (hx : Passes CX X E)
    (I : Inv X pins σ H s) (r : Vals vs us) (h : sp (vs ++ dvs) H Q E) : wpAny (model X.prog X.w) X.A (call (.ref f) us) (EP X pins σ Q) X.xe s := by
  have r2 : Vals (vs ++ dvs) (us ++ ds) := r.append hd
  have hl : (us ++ ds).length = ps.length := by rw [← r2.length]; exact F.len _ _ _ _ h
  refine wpAny_call (codeAny_mono (F.run X.A X.stack s H ⟨us, []⟩ (us ++ ds) (vs ++ dvs) Q E hr I.env0 (hb s us I.kIn hl) r2 h) fun r s' hq => ?_)
  cases r with
  | error e => exact hx pins σ H s e s' I hq
  | ok fl =>
    cases fl with
    | ret u => exact I.after hq
    | next => exact False.elim hq
    | brk => exact False.elim hq
    | cont => exact False.elim hq
theorem pe_call (F : FnOk X.prog X.w X.K X.mg X.base CX k f fd ps sp) (hr : Room k X.A) (hg : Gl X x) (hm : X.mg x = some (.ref f)) (hk : PySem.W.keepIn X.K (.ref f) = true) (hb : Binds X.K fd ps ds) (hd : Vals dvs ds) (hx : Passes CX X E)
    (ha : PA X (e :: es) t) (hdb : (x == ("__debug__" : Str)) = false := by decide) (he : starEach (e :: es) X.env = (false, eval e X.env) :: starEach es X.env := by rfl) (hpl : (backTo pos (starEach es X.env)).any (·.1) = false := by rfl) :
    PE X (.Call (.Name x p) (e :: es) [] pos) (tCall sp dvs E t) := by
  intro pins s σ H Q I h
  refine wpAny_Call_Name_kw (ld_glob I hg hm ?_ hdb)
  refine PySem.W.callWith_K (h₀ := X.base) I.ok.mod.kin hk (thn (ha pos pins s σ H _ I h) fun us s1 ⟨vs, H1, I1, r, q⟩ => ⟨I1.kIn, ?_⟩) he hpl
  exact run_fn F hr hb hd hx I1 r q
structure Mk (K : PySem.W.Frag) (C f : Addr) : Prop where
  makes : PySem.W.makesIn K C = true
  init : PySem.W.findIn K (.ref C) "__init__" = some (some (.ref f))
  fn : PySem.W.isFn K (.ref f) = true
  kp : PySem.W.keepIn K (.ref C) = true
end
section
variable {X : Cx} {CX : CXT} {k : Nat} {f C : Addr} {fd : FuncData} {ps ks : List Str} {sp : Sp} {E : XK} {x m : Str} {p pos apos kpos : Pos} {e o : Expr} {es : List Expr} {kws : List Keyword} {te ta : TE} {t tk : TA} {nm : Option Str}
structure KBinds (K : PySem.W.Frag) (fd : FuncData) (ps ks : List Str) (g : List Value -> List Value -> List Value) (gV : List V -> List V -> List V) : Prop where
  to : ∀ (s : Shared) (us ws : List Value), K.In s.heap -> (g us ws).length = ps.length -> BindsTo s fd ⟨us, ks.zip ws⟩ (ps.zip (g us ws))
  rel : ∀ {vs : List V} {us : List Value} {zs : List V} {ws : List Value}, Vals vs us -> Vals zs ws -> Vals (gV vs zs) (g us ws)
variable {g : List Value -> List Value -> List Value} {gV : List V -> List V -> List V}
end
structure FnScope (N P : List Str) (sc : Scope) : Prop where
  kind : sc.kind = .function
  co : sc.isCoroutine = false
  gen : sc.isGenerator = false
  nd : N.Nodup
  pre : N.take P.length = P
  par : ∀ x ∈ P, sc.names.lookup x = some .local \/ sc.names.lookup x = some .cell
  nofree : ∀ y ∈ sc.names, y.2 ≠ .free
theorem bindL_out {kindOf : Str -> Option NameKind} {x : Str} : ∀ {binds : List (Str × Value)} {m : Str -> Option Value}, (∀ v, (x, v) ∉ binds) -> bindL kindOf binds m x = m x
  | [], _, _ => rfl
  | (n, v) :: r, m, h => by
    unfold bindL
    rw [bindL_out fun w hw => h w (List.mem_cons_of_mem _ hw)]
    split
    · have : x ≠ n := by rintro rfl; exact h v List.mem_cons_self
      simp [this]
    · rfl
theorem bindC_out {kindOf : Str -> Option NameKind} {x : Str} : ∀ {binds : List (Str × Value)} {m : Str -> Option Value}, (∀ v, (x, v) ∉ binds) -> bindC kindOf binds m x = m x
  | [], _, _ => rfl
  | (n, v) :: r, m, h => by
    unfold bindC
    rw [bindC_out fun w hw => h w (List.mem_cons_of_mem _ hw)]
    split
    · rfl
    · have : x ≠ n := by rintro rfl; exact h v List.mem_cons_self
      simp [this]
theorem z6k {kindOf : Str -> Option NameKind} {x : Str} {v : Value} : ∀ {P : List Str} {vs : List Value} {i : Nat} {m : Str -> Option Value}, P.Nodup -> P[i]? = some x -> vs[i]? = some v -> kindOf x = some .local ->
    bindL kindOf (P.zip vs) m x = some v
  | [], _, _, _, _, h, _, _ => by simp at h
  | _ :: _, [], _, _, _, _, h, _ => by simp at h
  | p :: P, w :: vs, 0, m, nd, h1, h2, hk => by
    simp at h1 h2; subst h1; subst h2
    show bindL kindOf ((p, w) :: P.zip vs) m p = _
    unfold bindL
    rw [bindL_out fun v hv => (List.nodup_cons.mp nd).1 (List.of_mem_zip hv).1, if_pos hk]
    simp
  | p :: P, w :: vs, i + 1, m, nd, h1, h2, hk => by
    show bindL kindOf ((p, w) :: P.zip vs) m x = _
    unfold bindL
    exact z6k (i := i) (List.nodup_cons.mp nd).2 (by simpa using h1) (by simpa using h2) hk
theorem z6l {kindOf : Str -> Option NameKind} {x : Str} {v : Value} : ∀ {P : List Str} {vs : List Value} {i : Nat} {m : Str -> Option Value}, P.Nodup -> P[i]? = some x -> vs[i]? = some v -> kindOf x ≠ some .local ->
    bindC kindOf (P.zip vs) m x = some v
  | [], _, _, _, _, h, _, _ => by simp at h
  | _ :: _, [], _, _, _, _, h, _ => by simp at h
  | p :: P, w :: vs, 0, m, nd, h1, h2, hk => by
    simp at h1 h2; subst h1; subst h2
    show bindC kindOf ((p, w) :: P.zip vs) m p = _
    unfold bindC
    rw [bindC_out fun v hv => (List.nodup_cons.mp nd).1 (List.of_mem_zip hv).1, if_neg hk]
    simp
  | p :: P, w :: vs, i + 1, m, nd, h1, h2, hk => by
    show bindC kindOf ((p, w) :: P.zip vs) m x = _
    unfold bindC
    exact z6l (i := i) (List.nodup_cons.mp nd).2 (by simpa using h1) (by simpa using h2) hk
def start (N : List Str) (vs : List V) : St := vs.map some ++ List.replicate (N.length - vs.length) none
def cxOf (CX : CXT) (P : Program) (w : World) (K : PySem.W.Frag) (mg : Str -> Option Value) (base : Heap) (N : List Str) (qual : Str) (scope : Scope) (f : Addr) (cd : Value) (A : Around) (outer : List Env) (s : Shared) (H : Hp) (E : XK) : Cx where
  prog := P
  w := w
  K := K
  mg := mg
  base := base
  A := A.deeper (envOfC qual scope s.heap.objs.size f cd)
  N := N
  s₀ := s
  H₀ := H
  env := envOfC qual scope s.heap.objs.size f cd
  outer := outer
  stack := envOfC qual scope s.heap.objs.size f cd :: outer
  ex := []
  calm := true
  fn := fun _ => true
  pn := []
  xe := fun e s' => wpAny (model P w) (A.deeper (envOfC qual scope s.heap.objs.size f cd)) (leaving (envOfC qual scope s.heap.objs.size f cd) e) (fun _ s'' => CX outer H s E e s'') (fun e' s'' => CX outer H s E e' s'') s'
theorem z4u {sc : Scope} {n : Nat} {x : Str} (h : sc.names.lookup x = some .cell) : ∃ c, (cellsFrom n sc.names []).lookup x = some c := by
  have q := PySem.W.cellsFrom_some sc.names n [] (.inl h)
  exact Option.isSome_iff_exists.mp q
theorem inv_start {CX : CXT} {P : Program} {w : World} {K : PySem.W.Frag} {mg : Str -> Option Value} {base : Heap} {N ps : List Str} {qual : Str} {scope : Scope} {f : Addr} {cd : Value} {A : Around} {outer : List Env} {s s1 : Shared} {H : Hp} {E : XK} {us : List Value} {vs : List V}
    (S : FnScope N ps scope) (hd : A.handled = none) (e0 : Env0 P w K mg base A outer s H) (hl : vs.length = ps.length) (r : Vals vs us)
    (x : InCallC s s.heap.objs.size (bindL (envOfC qual scope s.heap.objs.size f cd).kindOf (ps.zip us) fun _ => none) (cellsFrom (s.heap.objs.size + 1) scope.names []) (bindC (envOfC qual scope s.heap.objs.size f cd).kindOf (ps.zip us) fun _ => none) s1) :
    Inv (cxOf CX P w K mg base N qual scope f cd A outer s H E) [] (start N vs) H s1 := by
  have hpl : ps.length ≤ N.length := by have := congrArg List.length S.pre; rw [List.length_take] at this; omega
  obtain ⟨h1, tk, rfl, hk⟩ := x.done
  have noA : ∀ b : Addr, b ∉ (cxOf CX P w K mg base N qual scope f cd A outer s H E).ex := fun b z => absurd (show b ∈ ([] : List Addr) from z) (by simp)
  refine ⟨⟨e0.mod, S.kind, rfl, rfl, Nat.le_refl _, fun y z c h1 h2 => ?_, fun y hy => ?_, fun y c _ h => ?_, fun _ => hd, Around.frames_deeper e0.frames, .inr ⟨rfl, rfl⟩, fun b z => absurd z (noA b), e0.bs, e0.bsz, fun b _ _ => noA b, fun b z => absurd z (noA b), e0.funs, e0.frf⟩,
    rfl, e0.bare, Un.kept hk, ⟨_, x.toInCall.ns, fun i y v h1 h2 h3 => ?_⟩, fun y c h => ⟨_, x.cell y c h⟩, e0.hok.fresh (Nat.le_refl _), fun y c h => ?_, fun p hp => absurd (show p ∈ ([] : List (Addr × Obj)) from hp) (by simp), e0.hok.kept hk, ?_⟩
  · exact name_of_addr x.apart (PySem.mem_of_lookup h1) (PySem.mem_of_lookup h2)
  · have hy : scope.names.lookup y = some .cell \/ scope.names.lookup y = some .free := hy
    rcases hy with hy | hy
    · exact z4u hy
    · exact absurd rfl (S.nofree _ (PySem.mem_of_lookup hy))
  · exact Nat.le_of_lt (x.above y c (PySem.mem_of_lookup h))
  · have hi : i < vs.length := by
      unfold start at h2
      by_cases hi : i < vs.length
      · exact hi
      · rw [List.getElem?_append_right (by simpa using hi)] at h2
        rw [List.getElem?_replicate] at h2
        split at h2 <;> cases h2
    have ha : vs[i]? = some v := by
      unfold start at h2
      rw [List.getElem?_append_left (by simpa using hi), List.getElem?_map] at h2
      cases e : vs[i]? with
      | none => rw [e] at h2; cases h2
      | some a => rw [e] at h2; cases h2; rfl
    obtain ⟨u, hu, rv⟩ := r.get ha
    have hp : ps[i]? = some y := by
      rw [← S.pre, List.getElem?_take_of_lt (by omega)]; exact h1
    have ndP : ps.Nodup := by rw [← S.pre]; exact S.nd.sublist (List.take_sublist _ _)
    refine ⟨u, rv, ?_⟩
    rcases S.par y (List.mem_of_getElem? hp) with k | k
    · exact .inl ⟨k, z6k ndP hp hu k⟩
    · obtain ⟨c, e⟩ := z4u (n := s.heap.objs.size + 1) k
      refine .inr ⟨.inl k, c, e, ?_⟩
      have q := x.cell y c e
      rw [z6l ndP hp hu (by show scope.names.lookup y ≠ _; rw [k]; decide)] at q
      exact q
  · exact e0.hok.fresh (Nat.le_of_lt (x.above y c (PySem.mem_of_lookup h)))
  · unfold start
    show _ = N.length
    rw [List.length_append, List.length_map, List.length_replicate]
    omega
theorem fn_of {CX : CXT} {P : Program} {w : World} {K : PySem.W.Frag} {mg : Str -> Option Value} {base : Heap} {k : Nat} {f : Addr} {name qual : Str} {params : Arguments} {body : List Stmt} {scope : Scope} {dV kV doc pm cdv ct oc : Value} {an od : Option Addr}
    {osl : Array (Option Value)} {N ps : List Str} {sp : Sp} (lk : K.lookup f = some ⟨oc, od, .func (PySem.W.fnOf name qual params body scope dV kV doc pm an cdv ct), osl⟩) (hcd : PySem.W.codeIn K cdv qual = true) (S : FnScope N ps scope)
    (len : ∀ vs H Q E, sp vs H Q E -> vs.length = ps.length)
    (hbody : ∀ (A : Around) (outer : List Env) (s : Shared) (H : Hp) (vs : List V) (Q : VK) (E : XK), Room k (A.deeper (envOfC qual scope s.heap.objs.size f cdv)) -> sp vs H Q E ->
      ∃ t, PSs (cxOf CX P w K mg base N qual scope f cdv A outer s H E) body t /\ t { nx := fun _ H' => Q .non H', rt := Q } (start N vs) H) :
    FnOk P w K mg base CX (k + 1) f (PySem.W.fnOf name qual params body scope dV kV doc pm an cdv ct) ps sp := by
  refine ⟨len, fun A outer s H args us vs Q E hr e0 hb r hsp => ?_⟩
  have hl := len _ _ _ _ hsp
  have KX : K.In s.heap := e0.mod.kin.keeps fun b o e => (e0.bs b o e).1
  have lim : s.heap.NoLimit := e0.mod.nolimit.keeps fun b o e => (e0.bs b o e).1
  have hkind : ∀ y ∈ ps.zip us, scope.names.lookup y.1 = some .local \/ (scope.names.lookup y.1 = some .cell /\ ((cellsFrom (s.heap.objs.size + 1) scope.names []).lookup y.1).isSome = true) := fun ⟨n, v⟩ hy => by
    rcases S.par n (List.of_mem_zip hy).1 with q | q
    · exact .inl q
    · exact .inr ⟨q, PySem.W.cellsFrom_some _ _ _ (.inl q)⟩
  refine codeAny_call_function hr.depth (KX _ _ lk) rfl S.co S.gen rfl (PySem.W.codeRec_of KX hcd) (hb _ _ _ _ ?_)
  refine wpAny_newFunctionEnv_cells S.kind hkind fun env he s1 x => ?_
  subst he
  refine ⟨lim.keeps x.toInCall.keep, codeAny_func ?_⟩
  obtain ⟨t, ht, hq⟩ := hbody A outer s H vs Q E (hr.deeper _) hsp
  have I : Inv (cxOf CX P w K mg base N qual scope f cdv A outer s H E) [] (start N vs) H s1 := inv_start S hr.hd e0 hl r x
  refine wpAny_mono (ht [] s1 (start N vs) H _ I hq) (fun fl s' hs => ?_) fun e s' hs => hs
  have fin : ∀ {σ' : St} {H' : Hp} {v : V} {u : Value}, Inv (cxOf CX P w K mg base N qual scope f cdv A outer s H E) [] σ' H' s' -> RelV v u -> Q v H' -> CE outer P w H s Q u s' :=
    fun {σ' H' v u} J rv q => ⟨v, H', J.os, J.bare, J.base, J.hok, rv, q⟩
  cases fl with
  | ret u =>
    obtain ⟨v, σ', H', J, rv, q⟩ := hs
    exact fin J rv q
  | next =>
    obtain ⟨σ', H', J, q⟩ := hs
    exact fin (v := V.non) (u := Value.none) J rfl q
  | brk =>
    obtain ⟨_, _, _, q⟩ := hs
    exact False.elim q
  | cont =>
    obtain ⟨_, _, _, q⟩ := hs
    exact False.elim q
section
variable {X : Cx} {x : Str} {p pos : Pos} {e : Expr} {es : List Expr} {t : TA} {id T : String} {r : List V -> Hp -> VK -> Prop}
def tCB (r : List V -> Hp -> VK -> Prop) (t : TA) : TE := fun σ H Q => t σ H fun vs H1 => r vs H1 Q
theorem z0r (hc : CallR X (.builtin id) r) (hg : Gl X x) (hm : X.mg x = none) (hv : bootBuiltins x = some (.builtin id)) (ha : PA X (e :: es) t) (hn : x ≠ "__name__" := by decide) (hdb : (x == ("__debug__" : Str)) = false := by decide)
    (he : starEach (e :: es) X.env = (false, eval e X.env) :: starEach es X.env := by rfl) (hpl : (backTo pos (starEach es X.env)).any (·.1) = false := by rfl) : PE X (.Call (.Name x p) (e :: es) [] pos) (tCB r t) := by
  intro pins s σ H Q I h
  refine wpAny_Call_Name_kw (z5h I hg hm hv ?_ hn hdb)
  exact PyProof.Rows.callWith_builtin1 (thn (ha pos pins s σ H _ I h) fun us s1 ⟨vs, H1, I1, r1, q1⟩ => hc pins s1 σ H1 vs us Q I1 r1 q1) he hpl
theorem z1f (hc : CallR X (.type T) r) (hg : Gl X x) (hm : X.mg x = none) (hv : bootBuiltins x = some (.type T)) (ha : PA X (e :: es) t) (hn : x ≠ "__name__" := by decide) (hdb : (x == ("__debug__" : Str)) = false := by decide)
    (he : starEach (e :: es) X.env = (false, eval e X.env) :: starEach es X.env := by rfl) (hpl : (backTo pos (starEach es X.env)).any (·.1) = false := by rfl) : PE X (.Call (.Name x p) (e :: es) [] pos) (tCB r t) := by
  intro pins s σ H Q I h
  refine wpAny_Call_Name_kw (z5h I hg hm hv ?_ hn hdb)
  exact PyProof.Rows.callWith_type1 (thn (ha pos pins s σ H _ I h) fun us s1 ⟨vs, H1, I1, r1, q1⟩ => hc pins s1 σ H1 vs us Q I1 r1 q1) he hpl
end
end L2
namespace HT
open PySem PyProof.Rows
section
open PySem.SeqAt
open PySem.AutoSeq1 (wpAny_loadPart')
open PySem.MeetsSeq PySem.MeetsSeq2 PySem.MeetsSeq3
end
section
variable {prog : Program} {w : World} {A : Around} {E : Value -> Shared -> Prop} {s : Shared}
theorem cat_tup {t b : Addr} {vs ws : List Value} {Q : Value -> Shared -> Prop} (ht : IsTup s.heap t vs.toArray) (hb : IsTup s.heap b ws.toArray) (hv : vs ≠ [])
    (h1 : ws = [] -> Q (.ref t) s) (h2 : ws ≠ [] -> Q (.ref s.heap.objs.size) { s with heap := s.heap.push { cls := .type "tuple", data := .seq (vs ++ ws).toArray } })
    (hsz : vs.length + ws.length ≤ sizeLine) : wpAny (model prog w) A (binaryOp .Add (.ref t) (.ref b)) Q E s := by
  obtain ⟨⟨cls, dd, data, sl⟩, ho, hc, n, hd⟩ := id ht
  obtain ⟨⟨cls2, dd2, data2, sl2⟩, ho2, hc2, n2, hd2⟩ := id hb
  simp only at hc hd hc2 hd2
  subst hc hd hc2 hd2
  have e : vs.toArray ++ ws.toArray = (vs ++ ws).toArray := by simp
  by_cases hw : ws = []
  · exact concat_meets ⟨_, ho, rfl⟩ ⟨_, ho2, rfl⟩ noFill_tuple_add seq_tuple_add PySem.F.slot_tuple_add PySem.F.entry_tuple_add (PySem.F.args_tuple_add_2 _ _)
      (tuple_addW1 t b vs.toArray ws.toArray n n2 dd dd2 sl sl2 (by simpa using hv) (by simp [hw])) ⟨ho, ho2, h1 hw⟩
  · refine concat_meets ⟨_, ho, rfl⟩ ⟨_, ho2, rfl⟩ noFill_tuple_add seq_tuple_add PySem.F.slot_tuple_add PySem.F.entry_tuple_add (PySem.F.args_tuple_add_2 _ _)
      (tuple_addW2 t b vs.toArray ws.toArray n n2 dd dd2 sl sl2 (by simpa using hv) (by simpa using hw) (by rw [List.size_toArray, List.size_toArray]; exact hsz)) ⟨ho, ho2, ?_⟩
    rw [e]
    exact h2 hw
def sIx (n d : Nat) : Option Int -> Nat
  | none => d
  | some v => if v < 0 then (v + (n : Int)).toNat else min v.toNat n
theorem sIx_le (n d : Nat) (hd : d ≤ n) (o : Option Int) : sIx n d o ≤ n := by
  cases o with
  | none => exact hd
  | some v =>
    show (if v < 0 then (v + (n : Int)).toNat else min v.toNat n) ≤ n
    by_cases hv : v < 0
    · rw [if_pos hv]; omega
    · rw [if_neg hv]; exact Nat.min_le_right _ _
theorem clip_eq (v : Int) (n d : Nat) : (if v < 0 then max (v + (n : Int)) 0 else min v (n : Int)) = ((sIx n d (some v) : Nat) : Int) := by
  show (if v < 0 then max (v + (n : Int)) 0 else min v (n : Int)) = (((if v < 0 then (v + (n : Int)).toNat else min v.toNat n) : Nat) : Int)
  by_cases hv : v < 0
  · simp only [if_pos hv]; omega
  · simp only [if_neg hv]; omega
theorem adjust_gen (lo hi : Option Int) (n : Nat) : Builtin.Slice.sliceAdjust lo hi 1 (n : Int) = (((sIx n 0 lo : Nat) : Int), ((sIx n n hi : Nat) : Int)) := by
  have h1 : ¬ ((1 : Int) < 0) := by omega
  unfold Builtin.Slice.sliceAdjust
  simp only [h1, if_false]
  refine Prod.ext ?_ ?_
  · cases lo with
    | none => rfl
    | some v => exact clip_eq v n 0
  · cases hi with
    | none => rfl
    | some v => exact clip_eq v n n
theorem places_gen (i j : Nat) : Builtin.Slice.slicePlaces (i : Int) (j : Int) 1 = j - i := by
  unfold Builtin.Slice.slicePlaces
  have h1 : (1 : Int) > 0 := by omega
  simp only [h1, if_true, Int.ediv_one]
  split <;> omega
theorem z6y {v : Value} {o : Option Int} {Q : Option Int -> Shared -> Prop} (p : IsPart v o) (h : Q o s) : wpAny (model prog w) A (Builtin.Slice.slicePartIndex v) Q E s := by
  cases p with
  | none => exact slicePart_none h
  | int i t => exact slicePart_int h
theorem z3n {sl : Addr} {vl vu : Value} {lo hi : Option Int} {n : Nat} {Q : Int × Int × Nat -> Shared -> Prop} (hs : s.heap.IsSliceOf sl vl vu .none) (pl : IsPart vl lo) (pu : IsPart vu hi)
    (h : Q (((sIx n 0 lo : Nat) : Int), 1, sIx n n hi - sIx n 0 lo) s) : wpAny (model prog w) A (Builtin.Slice.sliceApplied (.ref sl) (pure (n : Int))) Q E s := by
  obtain ⟨os, hos, hcs, hds⟩ := id hs
  unfold Builtin.Slice.sliceApplied Builtin.Slice.sliceFields
  refine wpAny_bind (wpAny_bind (wpAny_field hos hds (x := vl) rfl (wpAny_bind (wpAny_field hos hds (x := vu) rfl (wpAny_bind (wpAny_field hos hds (x := .none) rfl (wpAny_pure ?_)))))))
  refine wpAny_bind (slicePart_none ?_)
  show wpAny _ _ (if ((1 : Int) == 0) = true then _ else _) _ _ s
  rw [if_neg (by decide)]
  refine wpAny_bind (z6y pl (wpAny_bind (z6y pu (wpAny_bind (wpAny_pure ?_)))))
  show wpAny _ _ (match Builtin.Slice.sliceAdjust lo hi 1 (n : Int) with | (lo, hi) => pure (lo, (1 : Int), Builtin.Slice.slicePlaces lo hi 1)) _ _ s
  rw [adjust_gen lo hi n]
  show wpAny _ _ (pure (((sIx n 0 lo : Nat) : Int), (1 : Int), Builtin.Slice.slicePlaces ((sIx n 0 lo : Nat) : Int) ((sIx n n hi : Nat) : Int) 1)) _ _ s
  rw [places_gen]
  exact wpAny_pure h
theorem pick_gen (xs : Array Value) (i k : Nat) : ((List.range k).filterMap fun (m : Nat) => xs[((i : Int) + (m : Int) * 1).toNat]?).toArray = ((xs.toList.drop i).take k).toArray := by
  have e : (fun (m : Nat) => xs[((i : Int) + (m : Int) * 1).toNat]?) = fun m => xs[i + m]? := by
    funext m
    have : ((i : Int) + (m : Int) * 1).toNat = i + m := by omega
    rw [this]
  rw [e]
  have := pick_run xs i k
  rw [List.filterMap_map] at this
  have e2 : ((fun x => xs[x]?) ∘ fun x => i + x) = fun m => xs[i + m]? := rfl
  rw [e2] at this
  rw [this]
theorem getItem_tuple_cut {t sl : Addr} {items : Array Value} {vl vu : Value} {lo hi : Option Int} {Q : Value -> Shared -> Prop} (ht : IsTup s.heap t items) (hs : s.heap.IsSliceOf sl vl vu .none) (pl : IsPart vl lo) (pu : IsPart vu hi)
    (hw : ¬ (sIx items.size 0 lo = 0 /\ sIx items.size items.size hi = items.size))
    (h : Q (.ref s.heap.objs.size) { s with heap := s.heap.push { cls := .type "tuple", data := .seq ((items.toList.drop (sIx items.size 0 lo)).take (sIx items.size items.size hi - sIx items.size 0 lo)).toArray } })
    (hsz : items.size ≤ sizeLine) : wpAny (model prog w) A (getItem (.ref t) (.ref sl)) Q E s := by
  have htake : sizeOk (.seq ((items.toList.drop (sIx items.size 0 lo)).take (sIx items.size items.size hi - sIx items.size 0 lo)).toArray) := by
    show ((items.toList.drop (sIx items.size 0 lo)).take (sIx items.size items.size hi - sIx items.size 0 lo)).toArray.size ≤ sizeLine
    rw [List.size_toArray, List.length_take, List.length_drop, Array.length_toList]
    omega
  have hj : sIx items.size items.size hi ≤ items.size := sIx_le _ _ (Nat.le_refl _) hi
  obtain ⟨os, hos, hcs, hds⟩ := id hs
  have hTs : s.TypeIs (.ref sl) "slice" := ⟨os, hos, hcs⟩
  unfold getItem
  try with_reducible refine wpAny_holding ?_
  first | refine wpAny_bind (wpAny_pure ?_) | skip
  refine wpAny_bind (wpAny_sequenceKey ht.typeIs (by decide) ?_)
  refine wpAny_bind (wpAny_callSpecial?_slot (name := Str.ofString "__getitem__") ht.typeIs PyProof.Rows.slot_tuple_getitem
    (wpAny_call_entry PyProof.Rows.slot_tuple_getitem ht.typeIs entry_tuple_getitem ?_ (args_tuple_getitem _ _)))
  show wpAny _ _ (Builtin.Tuple.tupleItemsOf (.ref t) >>= _) _ _ s
  refine wpAny_bind (tupleItemsOf_ ht ?_)
  refine wpAny_bind (wpAny_typeOf hTs ?_)
  rw [if_pos (by decide)]
  refine wpAny_bind (z3n hs pl pu ?_)
  have hno : ¬ ((((sIx items.size 0 lo : Nat) : Int) == 0 && (1 : Int) == 1 && (sIx items.size items.size hi - sIx items.size 0 lo) == items.size) = true) := by
    intro q
    rw [Bool.and_eq_true, Bool.and_eq_true] at q
    have q1 : ((sIx items.size 0 lo : Nat) : Int) = 0 := eq_of_beq q.1.1
    have q2 : sIx items.size items.size hi - sIx items.size 0 lo = items.size := eq_of_beq q.2
    exact hw ⟨by omega, by omega⟩
  show wpAny _ _ (if (((sIx items.size 0 lo : Nat) : Int) == 0 && (1 : Int) == 1 && (sIx items.size items.size hi - sIx items.size 0 lo) == items.size) = true then _ else _) _ _ s
  rw [if_neg hno, pick_gen]
  first
    | exact wpAny_bind (m := Builtin.Tuple.tupleExact _) (wpAny_newObj_type (wpAny_pure ⟨_, rfl, wpAny_pure h⟩) htake)
    | exact wpAny_bind (m := Builtin.Tuple.tupleExact _) (wpAny_newObj_type (wpAny_bind (wpAny_pure (wpAny_pure ⟨_, rfl, wpAny_pure h⟩))) htake)
    | exact wpAny_bind (wpAny_bind (m := Builtin.Tuple.tupleExact _) (wpAny_newObj_type (wpAny_pure (wpAny_pure ⟨_, rfl, wpAny_pure h⟩)) htake))
    | exact wpAny_bind (wpAny_bind (m := Builtin.Tuple.tupleExact _) (wpAny_newObj_type (wpAny_pure ⟨_, rfl, wpAny_pure h⟩) htake))
end
end HT
namespace L2
open PySem PySem.Spec PyProof.Rows
abbrev TO := St -> Hp -> (Option Int -> Hp -> Prop) -> Prop
def PO (X : Cx) (e : Option Expr) (t : TO) : Prop :=
  ∀ (pins : List (Addr × Obj)) (s : Shared) (σ : St) (H : Hp) (Q : Option Int -> Hp -> Prop), Inv X pins σ H s -> t σ H Q ->
    wpAny (model X.prog X.w) X.A (evalPart e X.env) (fun u s' => ∃ o H', Inv X pins σ H' s' /\ IsPart u o /\ Q o H') X.xe s
def tNoPart : TO := fun _ H Q => Q none H
def tPart (t : TE) : TO := fun σ H Q => t σ H fun x H1 => ∃ i, x = .int i /\ Q (some i) H1
theorem z5b {ns : List Int} : ∀ {us : List Value}, Vals (ns.map V.int) us -> IntsAre us ns := by
  induction ns with
  | nil => intro us r; rw [List.map_nil] at r; cases r; exact .nil
  | cons n ns ih =>
    intro us r
    rw [List.map_cons] at r
    cases r with
    | cons r1 r2 =>
      obtain ⟨t, e⟩ := r1
      subst e
      exact .cons n t (ih r2)
section
variable {X : Cx} {e : Expr} {te : TE} {lo hi : Option Expr} {tl th : TO} {pos p2 : Pos}
theorem z1k : PO X none tNoPart := by
  intro pins s σ H Q I h
  rw [evalPart_none]
  exact wpAny_pure ⟨none, H, I, .none, h⟩
theorem z1e (h : PE X e te) : PO X (some e) (tPart te) := by
  intro pins s σ H Q I hw
  rw [evalPart_some]
  refine thn (h pins s σ H _ I hw) fun u s1 ⟨x, H1, I1, r1, q1⟩ => ?_
  obtain ⟨i, rfl, q⟩ := q1
  obtain ⟨t, rfl⟩ := r1
  exact ⟨some i, H1, I1, .int i t, q⟩
def SlR (X : Cx) (r : V -> Option Int -> Option Int -> Hp -> VK -> Prop) : Prop :=
  ∀ (pins : List (Addr × Obj)) (s : Shared) (σ : St) (H : Hp) (x : V) (v vl vu : Value) (lo hi : Option Int) (sl : Addr) (Q : VK), Inv X pins σ H s -> RelV x v -> s.heap.IsSliceOf sl vl vu .none -> IsPart vl lo -> IsPart vu hi -> r x lo hi H Q ->
    ∃ T id, typeLookup (.type T) "__getitem__" = pure (some (.builtin id)) /\ s.TypeIs v T /\ wpAny (model X.prog X.w) X.A (getItem v (.ref sl)) (EP X pins σ Q) X.xe s
def tSl (r : V -> Option Int -> Option Int -> Hp -> VK -> Prop) (te : TE) (tl th : TO) : TE := fun σ H Q => te σ H fun x H1 => tl σ H1 fun l H2 => th σ H2 fun u H3 => r x l u H3 Q
theorem z1c {r : V -> Option Int -> Option Int -> Hp -> VK -> Prop} (hr : SlR X r) (he : PE X e te) (hl : PO X lo tl) (hu : PO X hi th) : PE X (.Subscript e (.Slice lo hi none p2) pos) (tSl r te tl th) := by
  intro pins s σ H Q I h
  refine Subscript_ (thn (he pins s σ H _ I h) fun v s1 ⟨x, H1, I1, r1, q1⟩ => ?_)
  refine wpAny_Slice (thn (hl pins s1 σ H1 _ I1 q1) fun vl s2 ⟨l, H2, I2, pl, q2⟩ => thn (hu pins s2 σ H2 _ I2 q2) fun vu s3 ⟨u, H3, I3, pu, q3⟩ => ?_)
  rw [evalPart_none]
  refine wpAny_pure ?_
  have I4 : Inv X pins σ H3 { s3 with heap := s3.heap.push { cls := .type "slice", data := .fields #[vl, vu, .none] } } := I3.kept (t' := s3.toks) fun b ob q => Heap.get?_push_of_some _ q
  obtain ⟨T, id, hT, ht, hg⟩ := hr pins { s3 with heap := s3.heap.push { cls := .type "slice", data := .fields #[vl, vu, .none] } } σ H3 x v vl vu l u s3.heap.objs.size Q I4 r1 (Heap.IsSliceOf.new ..) pl pu q3
  show wpAny (model X.prog X.w) X.A (subscriptTail e (.Slice lo hi none p2) v (.ref s3.heap.objs.size)) (EP X pins σ Q) X.xe { s3 with heap := s3.heap.push { cls := .type "slice", data := .fields #[vl, vu, .none] } }
  exact tail_any (ops := [.ref s3.heap.objs.size, v]) ht hT hg (by with_unfolding_all rfl)
def cutV (xs : List V) (lo hi : Option Int) : List V := (xs.drop (HT.sIx xs.length 0 lo)).take (HT.sIx xs.length xs.length hi - HT.sIx xs.length 0 lo)
theorem z6j (xs : List V) (lo hi : Option Int) : (cutV xs lo hi).length ≤ xs.length := by
  unfold cutV
  rw [List.length_take, List.length_drop]
  omega
def rSlT (K : PySem.W.Frag) : V -> Option Int -> Option Int -> Hp -> VK -> Prop := fun x lo hi H Q => ∃ a xs, x = .ref a /\ SqT K H a xs /\
  ¬ (HT.sIx xs.length 0 lo = 0 /\ HT.sIx xs.length xs.length hi = xs.length) /\ ∀ p, H p = none -> Q (.ref p) (upd H p (.tup (cutV xs lo hi)))
theorem sl_tup : SlR X (rSlT X.K) := by
  intro pins s σ H x v vl vu lo hi sl Q I rx hs pl pu h
  obtain ⟨a, xs, rfl, hx, hw, q⟩ := h
  cases rx
  obtain ⟨its, r, ht, hz⟩ := I.tuple hx
  have hlen : its.toArray.size = xs.length := by rw [List.size_toArray]; exact r.length.symm
  refine ⟨"tuple", _, PyProof.Rows.slot_tuple_getitem.lookup, ht.typeIs, ?_⟩
  refine HT.getItem_tuple_cut ht hs pl pu (by rw [hlen]; exact hw) ?_ (by rw [hlen]; exact hz)
  rw [hlen]
  refine ⟨.ref s.heap.objs.size, _, I.laid (t' := s.toks) (o := .tup (cutV xs lo hi)) (fun b ob q => Heap.get?_push_of_some _ q) (Nat.le_refl _) ?_, rfl, q _ (I.hok.fresh (Nat.le_refl _))⟩
  exact ⟨Nat.le_trans (z6j xs lo hi) hz, _, (r.drop (HT.sIx xs.length 0 lo)).take (HT.sIx xs.length xs.length hi - HT.sIx xs.length 0 lo), IsTup.new _ _⟩
def rCatT (K : PySem.W.Frag) : R2 := fun x y H Q => ∃ a b xs ys, x = .ref a /\ y = .ref b /\ SqT K H a xs /\ SqT K H b ys /\ xs ≠ [] /\ xs.length + ys.length ≤ sizeLine /\
  (ys = [] -> Q (.ref a) H) /\ (ys ≠ [] -> ∀ p, H p = none -> Q (.ref p) (upd H p (.tup (xs ++ ys))))
theorem Vals.nil_iff {xs : List V} {us : List Value} (r : Vals xs us) : us = [] ↔ xs = [] := by
  cases r with
  | nil => simp
  | cons _ _ => simp
theorem op_catT : OpR X (binaryOp .Add) (rCatT X.K) := by
  intro pins s σ H x y v u Q I rx ry h
  obtain ⟨a, b, xs, ys, rfl, rfl, ha, hb, hx, hz, q1, q2⟩ := h
  cases rx
  cases ry
  obtain ⟨its, r1, p1, _⟩ := I.tuple ha
  obtain ⟨its2, r2, p2, _⟩ := I.tuple hb
  refine HT.cat_tup p1 p2 (fun z => hx (r1.nil_iff.mp z)) (fun z => ⟨.ref a, H, I, rfl, q1 (r2.nil_iff.mp z)⟩) (fun z => ?_) (by rw [← r1.length, ← r2.length]; exact hz)
  refine ⟨.ref s.heap.objs.size, _, I.laid (t' := s.toks) (o := .tup (xs ++ ys)) (fun b ob q => Heap.get?_push_of_some _ q) (Nat.le_refl _) ?_, rfl, q2 (fun w => z (r2.nil_iff.mpr w)) _ (I.hok.fresh (Nat.le_refl _))⟩
  exact ⟨by rw [List.length_append]; exact hz, _, r1.append r2, IsTup.new _ _⟩
end
def ixN (n : Nat) (i : Int) : Option Nat := if 0 ≤ i then (if i < n then some i.toNat else none) else if -(n : Int) ≤ i then some (i + n).toNat else none
def atI {α : Type} (xs : List α) (i : Int) : Option α := (ixN xs.length i).bind fun j => xs[j]?
theorem ixN_seq {n : Nat} {i : Int} {j : Nat} (h : ixN n i = some j) : seqIndex? i n = some j /\ j < n /\ -(n : Int) ≤ i /\ i < n := by
  unfold ixN at h
  by_cases h0 : 0 ≤ i
  · rw [if_pos h0] at h
    by_cases h1 : i < n
    · rw [if_pos h1] at h
      have e : i.toNat = j := Option.some.inj h
      exact ⟨by rw [seqIndex_of h0 h1, e], by omega, by omega, h1⟩
    · rw [if_neg h1] at h; cases h
  · rw [if_neg h0] at h
    by_cases h1 : -(n : Int) ≤ i
    · rw [if_pos h1] at h
      have e : (i + n).toNat = j := Option.some.inj h
      exact ⟨by rw [seqIndex_neg (by omega) h1, e], by omega, h1, by omega⟩
    · rw [if_neg h1] at h; cases h
theorem atI_get {α : Type} {xs : List α} {i : Int} {v : α} (h : atI xs i = some v) : ∃ j, seqIndex? i xs.length = some j /\ xs[j]? = some v /\ j < xs.length /\ -(xs.length : Int) ≤ i /\ i < xs.length := by
  unfold atI at h
  cases e : ixN xs.length i with
  | none => rw [e] at h; cases h
  | some j =>
    rw [e] at h
    obtain ⟨h1, h2, h3, h4⟩ := ixN_seq e
    exact ⟨j, h1, h, h2, h3, h4⟩
theorem z0h {α : Type} {xs : List α} {j : Nat} {v : α} (h : xs[j]? = some v) : atI xs (j : Int) = some v := by
  have hj : j < xs.length := (List.getElem?_eq_some_iff.mp h).1
  have e : ixN xs.length (j : Int) = some j := by
    unfold ixN
    rw [if_pos (by omega), if_pos (by omega)]; simp
  unfold atI; rw [e]; exact h
def PlainIx (b : Expr) : Prop := ∀ o i, subscripted b false o i = operate [o, i] (getItem o i)
def IxR (X : Cx) (r : R2) : Prop :=
  ∀ (value slice : Expr) (pins : List (Addr × Obj)) (s : Shared) (σ : St) (H : Hp) (x y : V) (v u : Value) (Q : VK), Inv X pins σ H s -> RelV x v -> RelV y u -> r x y H Q ->
    subscripted slice false v u = operate [v, u] (getItem v u) -> wpAny (model X.prog X.w) X.A (subscriptTail value slice v u) (EP X pins σ Q) X.xe s
def MtR (X : Cx) (id : String) (r : V -> List V -> Hp -> VK -> Prop) : Prop :=
  ∀ (pins : List (Addr × Obj)) (s : Shared) (σ : St) (H : Hp) (x : V) (xs : List V) (v : Value) (us : List Value) (Q : VK), Inv X pins σ H s -> RelV x v -> Vals xs us -> r x xs H Q ->
    wpAny (model X.prog X.w) X.A (call (.builtin id) (v :: us)) (EP X pins σ Q) X.xe s
section
variable {X : Cx} {a b : Expr} {ta tb : TE} {pos : Pos}
theorem z0t {r : R2} (hr : IxR X r) (ha : PE X a ta) (hb : PE X b tb) (hs : PlainIx b) : PE X (.Subscript a b pos) (tOp r ta tb) := by
  intro pins s σ H Q I h
  exact Subscript_ (binT ha hb I h fun v u s2 x y H2 I2 rx ry q => hr a b pins s2 σ H2 x y v u Q I2 rx ry q (hs _ _))
def rIxL (K : PySem.W.Frag) : R2 := fun x y H Q => ∃ p xs i v, x = .ref p /\ y = .int i /\ SqL K H p xs /\ atI xs i = some v /\ Q v H
def rIxT (K : PySem.W.Frag) : R2 := fun x y H Q => ∃ p xs i v, x = .ref p /\ y = .int i /\ SqT K H p xs /\ atI xs i = some v /\ Q v H
theorem ix_list : IxR X (rIxL X.K) := by
  intro value slice pins s σ H x y v u Q I rx ry h hs
  obtain ⟨p, xs, i, z, rfl, rfl, hq, he, q⟩ := h
  cases rx
  obtain ⟨t, rfl⟩ := ry
  obtain ⟨its, r, pl, hz⟩ := I.list hq
  obtain ⟨j, h1, h2, h3, h4, h5⟩ := atI_get he
  obtain ⟨w, ew, rw'⟩ := r.get h2
  have hl := r.length
  have hn := line63
  have fin : EP X pins σ Q w s := ⟨z, H, I, rw', q⟩
  by_cases h0 : 0 ≤ i
  · have hj : i.toNat = j := by
      rw [seqIndex_of h0 h5] at h1
      exact Option.some.inj h1
    exact item_listR pl.isList h0 (by omega) (by rw [hj]; simpa using ew) fin hs
  · have hj : (i + (its.toArray.size : Int)).toNat = j := by
      rw [seqIndex_neg (by omega) h4] at h1
      rw [List.size_toArray, ← hl]
      exact Option.some.inj h1
    exact subscriptTail_builtinR (x := w) pl.isList.typeIs slot_list_getitem.lookup
      (wpAny_getItem_list_neg (Q := fun r s' => r = w /\ EP X pins σ Q r s') pl.isList (by omega) (by rw [List.size_toArray] <;> omega) (by omega) (by rw [hj]; simpa using ew) ⟨rfl, fin⟩) hs
theorem ix_tup : IxR X (rIxT X.K) := by
  intro value slice pins s σ H x y v u Q I rx ry h hs
  obtain ⟨p, xs, i, z, rfl, rfl, hq, he, q⟩ := h
  cases rx
  obtain ⟨t, rfl⟩ := ry
  obtain ⟨its, r, pl, hz⟩ := I.tuple hq
  obtain ⟨j, h1, h2, h3, h4, h5⟩ := atI_get he
  obtain ⟨w, ew, rw'⟩ := r.get h2
  have hl := r.length
  have hn := line63
  have fin : EP X pins σ Q w s := ⟨z, H, I, rw', q⟩
  exact subscriptTail_builtinR (x := w) pl.typeIs slot_tuple_getitem.lookup
    (getItem_tuple (j := j) (Q := fun r s' => r = w /\ EP X pins σ Q r s') pl (by omega) (by omega) (by rw [List.size_toArray, ← hl]; exact h1) (by simpa using ew) ⟨rfl, fin⟩) hs
theorem mapSeq_set (its : List Value) (n j : Nat) (u : Value) : Obj.mapSeq (·.setIfInBounds j u) { cls := .type "list", data := .seq its.toArray n } = { cls := .type "list", data := .seq (its.set j u).toArray n } := by
  simp [Obj.mapSeq]
theorem Inv.lst {pins : List (Addr × Obj)} {σ : St} {H : Hp} {s : Shared} {p : Addr} {xs : List V} (I : Inv X pins σ H s) (h : H p = some (.lst xs)) :
    ∃ (its : List Value) (n : Nat), Vals xs its /\ s.heap.get? p = some { cls := .type "list", data := .seq its.toArray n } /\ xs.length ≤ sizeLine := by
  obtain ⟨z, its, n, r, e⟩ := I.hok p _ h
  exact ⟨its, n, r, e, z⟩
theorem Inv.lstUpd {pins : List (Addr × Obj)} {σ : St} {H : Hp} {s : Shared} {p : Addr} {xs ys : List V} {its its' : List Value} {n n' : Nat} {f : Obj -> Obj} (I : Inv X pins σ H s) (h : H p = some (.lst xs))
    (ho : s.heap.get? p = some { cls := .type "list", data := .seq its.toArray n }) (hf : f { cls := .type "list", data := .seq its.toArray n } = { cls := .type "list", data := .seq its'.toArray n' }) (r : Vals ys its') (hz : ys.length ≤ sizeLine) (t : Nat) :
    Inv X pins σ (upd H p (.lst ys)) { s with heap := s.heap.update p f, toks := t } := by
  have e : (s.heap.update p f).get? p = some { cls := .type "list", data := .seq its'.toArray n' } := by
    rw [Heap.get?_update_self f ho (by rw [hf] <;> rfl), hf]
  refine I.write (x := p) (e := p) (by rw [h]; trivial) (.inl rfl) (fun b u hb q => (Heap.get?_update_other _ _ (Ne.symm hb)).trans q) ⟨_, e⟩ ?_
  exact ⟨hz, its', n', r, e⟩
def rSetL : V -> V -> V -> Hp -> (Hp -> Prop) -> Prop := fun o i v H Q => ∃ p xs k j, o = .ref p /\ i = .int k /\ H p = some (.lst xs) /\ ixN xs.length k = some j /\ Q (upd H p (.lst (xs.set j v)))
theorem z7i : PSet X rSetL := by
  intro pins s σ H o i v ov iv u Q I ro ri rv h
  obtain ⟨p, xs, k, j, rfl, rfl, hp, hj, q⟩ := h
  cases ro
  obtain ⟨t, rfl⟩ := ri
  obtain ⟨its, n, r, ho, hz⟩ := I.lst hp
  obtain ⟨h1, h2, h3, h4⟩ := ixN_seq hj
  have hl := r.length
  have hn := line63
  have I' : Inv X pins σ (upd H p (.lst (xs.set j v))) { s with heap := s.heap.update p (Obj.mapSeq (·.setIfInBounds j u)) } :=
    I.lstUpd hp ho (mapSeq_set its n j u) (r.set rv j) (by rw [List.length_set]; exact hz) s.toks
  by_cases h0 : 0 ≤ k
  · have hk : k.toNat = j := by
      rw [seqIndex_of h0 h4] at h1
      exact Option.some.inj h1
    exact PySem.W.ki_setAt ho h0 (by omega) (by rw [List.size_toArray, ← hl]; exact h4) (by rw [hk]; exact ⟨_, I', q⟩)
  · have hk : (k + (its.toArray.size : Int)).toNat = j := by
      rw [seqIndex_neg (by omega) h3] at h1
      rw [List.size_toArray, ← hl]
      exact Option.some.inj h1
    exact PySem.W.ki_setBack ho (by omega) (by rw [List.size_toArray, ← hl]; exact h3) (by omega) (by rw [hk]; exact ⟨_, I', q⟩)
theorem slice_bounds (lo hi : Option Int) (n : Nat) : (sliceBounds lo hi none n).1 = ((HT.sIx n 0 lo : Nat) : Int) /\ (sliceBounds lo hi none n).2.1 = ((HT.sIx n n hi : Nat) : Int) /\ (sliceBounds lo hi none n).2.2 = 1 := by
  refine ⟨?_, ?_, rfl⟩
  · cases lo with
    | none => simp [sliceBounds, HT.sIx]
    | some i =>
      simp only [sliceBounds, HT.sIx, Option.getD_none, show (1 : Int) > 0 by decide, if_true]
      by_cases h : i < 0
      · simp only [h, if_true] <;> omega
      · simp only [h, if_false] <;> omega
  · cases hi with
    | none => simp [sliceBounds, HT.sIx]
    | some i =>
      simp only [sliceBounds, HT.sIx, Option.getD_none, show (1 : Int) > 0 by decide, if_true]
      by_cases h : i < 0
      · simp only [h, if_true] <;> omega
      · simp only [h, if_false] <;> omega
theorem z7h (its : List Value) (lo hi : Option Int) : slicePick its.toArray lo hi none = ((its.drop (HT.sIx its.length 0 lo)).take (HT.sIx its.length its.length hi - HT.sIx its.length 0 lo)).toArray := by
  obtain ⟨h1, h2, h3⟩ := slice_bounds lo hi its.toArray.size
  unfold slicePick
  rw [h1, h2, h3]
  simp only [sliceRange_one, pick_run, List.size_toArray] <;> rfl
def rSlL (K : PySem.W.Frag) : V -> Option Int -> Option Int -> Hp -> VK -> Prop := fun x lo hi H Q => ∃ a xs, x = .ref a /\ SqL K H a xs /\ ∀ p, H p = none -> Q (.ref p) (upd H p (.lst (cutV xs lo hi)))
theorem sl_list : SlR X (rSlL X.K) := by
  intro pins s σ H x v vl vu lo hi sl Q I rx hs pl pu h
  obtain ⟨a, xs, rfl, hx, q⟩ := h
  cases rx
  obtain ⟨its, r, ht, hz⟩ := I.list hx
  have hlen := r.length
  refine ⟨"list", _, slot_list_getitem.lookup, ht.isList.typeIs, ?_⟩
  refine wpAny_getItem_list_slice ht.isList hs pl pu .none (by simp) ?_ (by rw [List.size_toArray] <;> omega)
  rw [z7h, ← hlen]
  refine ⟨.ref s.heap.objs.size, _, I.laid (t' := s.toks) (o := .lst (cutV xs lo hi)) (fun b ob q => Heap.get?_push_of_some _ q) (Nat.le_refl _) ?_, rfl, q _ (I.hok.fresh (Nat.le_refl _))⟩
  exact ⟨Nat.le_trans (z6j xs lo hi) hz, _, 0, (r.drop (HT.sIx xs.length 0 lo)).take (HT.sIx xs.length xs.length hi - HT.sIx xs.length 0 lo), Heap.get?_push_size _ rfl⟩
def flatV : V -> Bool
  | .non => true
  | .bl _ => true
  | .int _ => true
  | .str _ => true
  | _ => false
def eqV : V -> V -> Bool
  | .non, .non => true
  | .bl a, .bl b => a == b
  | .bl a, .int b => (if a then 1 else 0) == b
  | .int a, .bl b => a == (if b then 1 else 0)
  | .int a, .int b => a == b
  | .str a, .str b => a == b
  | _, _ => false
theorem eqAt_V {A : Around} {s : Shared} {y x : V} {u v : Value} (ry : RelV y u) (rx : RelV x v) (fy : flatV y = true) (fx : flatV x = true) : SeqAt.EqAt A s u v (eqV y x) := by
  cases y with
  | non =>
    cases ry
    cases x with
    | non => cases rx; exact SeqAt.EqAt.same _
    | bl b => cases rx; exact SeqAt.EqAt.none_bool b
    | int b => obtain ⟨t, rfl⟩ := rx; exact SeqAt.EqAt.none_int b t
    | str b => obtain ⟨t, rfl⟩ := rx; exact SeqAt.EqAt.none_str b t
    | _ => exact absurd (show false = true from fx) Bool.false_ne_true
  | bl a =>
    cases ry
    cases x with
    | non => cases rx; exact SeqAt.EqAt.bool_none a
    | bl b => cases rx; exact SeqAt.EqAt.bool_bool a b
    | int b => obtain ⟨t, rfl⟩ := rx; exact SeqAt.EqAt.bool_int a b t
    | str b => obtain ⟨t, rfl⟩ := rx; exact SeqAt.EqAt.bool_str a b t
    | _ => exact absurd (show false = true from fx) Bool.false_ne_true
  | int a =>
    obtain ⟨t', rfl⟩ := ry
    cases x with
    | non => cases rx; exact SeqAt.EqAt.int_none a t'
    | bl b => cases rx; exact SeqAt.EqAt.int_bool a t' b
    | int b => obtain ⟨t, rfl⟩ := rx; exact SeqAt.EqAt.int_int a t' b t
    | str b => obtain ⟨t, rfl⟩ := rx; exact SeqAt.EqAt.int_str a t' b t
    | _ => exact absurd (show false = true from fx) Bool.false_ne_true
  | str a =>
    obtain ⟨t', rfl⟩ := ry
    cases x with
    | non => cases rx; exact SeqAt.EqAt.str_none a t'
    | bl b => cases rx; exact SeqAt.EqAt.str_bool a t' b
    | int b => obtain ⟨t, rfl⟩ := rx; exact SeqAt.EqAt.str_int a t' b t
    | str b => obtain ⟨t, rfl⟩ := rx; exact SeqAt.EqAt.str_str a t' b t
    | _ => exact absurd (show false = true from fx) Bool.false_ne_true
  | _ => exact absurd (show false = true from fy) Bool.false_ne_true
def eqU (x : V) (u : Value) : Bool := match u with
  | .none => eqV .non x
  | .bool b => eqV (.bl b) x
  | .int i _ => eqV (.int i) x
  | .str z _ => eqV (.str z) x
  | _ => false
theorem eqU_of {x y : V} {u : Value} (r : RelV y u) (f : flatV y = true) : eqU x u = eqV y x := by
  cases y with
  | non => cases r; rfl
  | bl b => cases r; rfl
  | int i => obtain ⟨t, rfl⟩ := r; rfl
  | str z => obtain ⟨t, rfl⟩ := r; rfl
  | _ => exact absurd (show false = true from f) Bool.false_ne_true
theorem mem_eqAt {A : Around} {s : Shared} {x : V} {v : Value} (rx : RelV x v) (fx : flatV x = true) : ∀ {xs : List V} {us : List Value}, Vals xs us -> xs.all flatV = true -> ∀ u ∈ us, SeqAt.EqAt A s u v (eqU x u)
  | _, _, .nil, _ => fun u hu => by cases hu
  | y :: xs, u :: us, .cons r t, f => fun u' hu => by
    rw [List.all_cons, Bool.and_eq_true] at f
    rcases List.mem_cons.mp hu with rfl | hu
    · rw [eqU_of r f.1]; exact eqAt_V r rx f.1 fx
    · exact mem_eqAt rx fx t f.2 u' hu
def inV (x : V) (xs : List V) : Bool := xs.any fun y => eqV y x
theorem z0q : CallR X (.builtin "len") (fun xs H Q => ∃ p ys, xs = [.ref p] /\ (SqL X.K H p ys \/ SqT X.K H p ys) /\ Q (.int ys.length) H) := by
  intro pins s σ H xs us Q I r h
  obtain ⟨p, ys, rfl, hq, q⟩ := h
  obtain ⟨u, rfl, rx⟩ := z5y r
  cases rx
  have hn := line63
  rcases hq with hq | hq
  · obtain ⟨its, r', pl, hz⟩ := I.list hq
    have hlen := r'.length
    exact Calls.call_len_list pl.isList (by simp only [List.size_toArray] <;> omega) ⟨.int ys.length, H, I.tok _, ⟨s.toks + 1, by rw [List.size_toArray, hlen]⟩, q⟩
  · obtain ⟨its, r', pl, hz⟩ := I.tuple hq
    have hlen := r'.length
    exact len_tuple pl (by simp only [List.size_toArray] <;> omega) ⟨.int ys.length, H, I.tok _, ⟨s.toks + 1, by rw [List.size_toArray, hlen]⟩, q⟩
theorem z5m : CallR X (.type "list") (fun xs H Q => ∃ p ys, xs = [.ref p] /\ (SqL X.K H p ys \/ SqT X.K H p ys) /\ ∀ l, H l = none -> Q (.ref l) (upd H l (.lst ys))) := by
  intro pins s σ H xs us Q I r h
  obtain ⟨p, ys, rfl, hq, q⟩ := h
  obtain ⟨u, rfl, rx⟩ := z5y r
  cases rx
  have fin : ∀ (its : List Value), Vals ys its -> ys.length ≤ sizeLine -> ∀ (h' : Heap) (c' : Nat), (∀ b o', s.heap.get? b = some o' -> h'.get? b = some o') ->
      h'.get? s.heap.objs.size = some { cls := .type "list", dict := none, data := .seq its.toArray c', slots := #[] } -> EP X pins σ Q (.ref s.heap.objs.size) { s with heap := h' } := fun its r' hz h' c' kp e =>
    ⟨.ref s.heap.objs.size, _, I.laid (t' := s.toks) kp (Nat.le_refl _) (show ObjOk X.prog X.w _ h' _ (.lst ys) from ⟨hz, its, c', r', e⟩), rfl, q _ (I.hok.fresh (Nat.le_refl _))⟩
  rcases hq with hq | hq
  · obtain ⟨its, r', pl, hz⟩ := I.list hq
    have hlen := r'.length
    obtain ⟨o, ho, hc, n, hd⟩ := pl.isList
    exact call_list_seq p (.inl rfl) ho hc hd (fun h' c' kp e => fin its r' hz h' c' kp e) (by simp only [List.size_toArray] <;> omega)
  · obtain ⟨its, r', pl, hz⟩ := I.tuple hq
    have hlen := r'.length
    obtain ⟨o, ho, hc, n, hd⟩ := pl
    exact call_list_seq p (.inr rfl) ho hc hd (fun h' c' kp e => fin its r' hz h' c' kp e) (by simp only [List.size_toArray] <;> omega)
theorem z1p : CallR X (.type "tuple") (fun xs H Q => ∃ p ys, xs = [.ref p] /\ ((SqL X.K H p ys /\ ∀ l, H l = none -> Q (.ref l) (upd H l (.tup ys))) \/ (SqT X.K H p ys /\ Q (.ref p) H))) := by
  intro pins s σ H xs us Q I r h
  obtain ⟨p, ys, rfl, h⟩ := h
  obtain ⟨u, rfl, rx⟩ := z5y r
  cases rx
  rcases h with ⟨hq, q⟩ | ⟨hq, q⟩
  · obtain ⟨its, r', pl, hz⟩ := I.list hq
    have hlen := r'.length
    refine call_tuple_list pl.isList (fun h' kp => ?_) (by simp only [List.size_toArray] <;> omega)
    have I1 : Inv X pins σ H { s with heap := h' } := I.kept (t' := s.toks) kp
    have I2 : Inv X pins σ (upd H h'.objs.size (.tup ys)) { s with heap := h'.push { cls := .type "tuple", data := .seq its.toArray } } :=
      I1.laid (t' := s.toks) (fun b o e => Heap.get?_push_of_some _ e) (Nat.le_refl _) (show ObjOk X.prog X.w _ _ _ (.tup ys) from ⟨hz, its, r', IsTup.new _ _⟩)
    exact ⟨.ref h'.objs.size, _, I2, rfl, q _ (I1.hok.fresh (Nat.le_refl _))⟩
  · obtain ⟨its, r', pl, hz⟩ := I.tuple hq
    exact call_tuple_same pl ⟨.ref p, H, I, rfl, q⟩
def tyV (K : PySem.W.Frag) (T : String) (x : V) (H : Hp) : Prop := match x with
  | .str _ => T = "str"
  | .int _ => T = "int"
  | .ref p => (T = "list" /\ ∃ xs, SqL K H p xs) \/ (T = "tuple" /\ ∃ o, K.lookup p = some o /\ o.cls = .type "tuple" /\ o.dict = none) \/
      (T = "dict" /\ ((∃ kvs, H p = some (.dK kvs)) \/ ∃ kvs, H p = some (.dT kvs))) \/ (T = "set" /\ ∃ S n, H p = some (.set S n))
  | _ => False
theorem tyV_is {pins : List (Addr × Obj)} {σ : St} {H : Hp} {s : Shared} {T : String} {x : V} {v : Value} (I : Inv X pins σ H s) (r : RelV x v) (ty : tyV X.K T x H) :
    s.TypeIs v T /\ ∀ a, v = .ref a -> ∃ ob, s.heap.get? a = some ob /\ ob.dict = none := by
  cases x with
  | str z =>
    obtain ⟨t, rfl⟩ := r
    cases (show T = "str" from ty)
    exact ⟨typeIs_str s z t, fun _ e => nomatch e⟩
  | int i =>
    obtain ⟨t, rfl⟩ := r
    cases (show T = "int" from ty)
    exact ⟨typeIs_int s i t, fun _ e => nomatch e⟩
  | ref p =>
    cases r
    rcases ty with ⟨rfl, xs, hq⟩ | ⟨rfl, o, hk, hc, hd⟩ | ⟨rfl, hk⟩ | ⟨rfl, S, n, hk⟩
    · obtain ⟨its, _, pl, _⟩ := I.list hq
      refine ⟨pl.isList.typeIs, fun a e => ?_⟩
      cases e
      obtain ⟨o, n, e, c, hd, _⟩ := pl
      exact ⟨o, e, hd⟩
    · refine ⟨⟨o, I.kIn p o hk, hc⟩, fun a e => ?_⟩
      cases e
      exact ⟨o, I.kIn _ o hk, hd⟩
    · have z : ∃ o, s.heap.get? p = some o /\ o.ExactDict := by
        rcases hk with ⟨kvs, hk⟩ | ⟨kvs, hk⟩
        · obtain ⟨_, _, _, _, o, _, _, e, ex, _⟩ := I.hok p _ hk
          exact ⟨o, e, ex⟩
        · obtain ⟨_, _, _, _, o, _, _, e, ex, _⟩ := I.hok p _ hk
          exact ⟨o, e, ex⟩
      obtain ⟨o, e, ex⟩ := z
      refine ⟨⟨o, e, ex.1⟩, fun a e2 => ?_⟩
      cases e2
      exact ⟨o, e, ex.2.1⟩
    · obtain ⟨o, _, _, _, e, ex, _⟩ := I.hok p _ hk
      refine ⟨⟨o, e, ex.1⟩, fun a e2 => ?_⟩
      cases e2
      exact ⟨o, e, ex.2.1⟩
  | _ => exact False.elim ty
def tBM (K : PySem.W.Frag) (T : String) (r : V -> List V -> Hp -> VK -> Prop) (to : TE) (t : TA) : TE := fun σ H Q => to σ H fun x H1 => tyV K T x H1 /\ t σ H1 fun xs H2 => r x xs H2 Q
variable {o e : Expr} {es : List Expr} {to : TE} {t : TA} {name : Str} {apos cpos : Pos} {T id : String} {r : V -> List V -> Hp -> VK -> Prop}
theorem pe_bm (pa : PlainAttrs T) (slot : Slot T name id) (hty : typeOf (.builtin id) = pure (.type "method_descriptor")) (hm : MtR X id r) (ho : PE X o to) (ha : PA X (e :: es) t)
    (hbase : attributeBase o name X.env (eval o X.env) = eval o X.env := by rfl)
    (hfew : ((backTo cpos (starEach (e :: es) X.env)).all (fun x => !x.1) && (backToKw cpos (keywordEach [] X.env)).all (fun x => x.1.isSome)
      && decide ((e :: es).length + ([] : List Keyword).length + (if ([] : List Keyword).isEmpty then 0 else 1) < 30)) = true := by rfl)
    (hline : (apos.endLine == cpos.line) = true := by rfl) (hs : starEach (e :: es) X.env = (false, eval e X.env) :: starEach es X.env := by rfl) (hplain : (backTo cpos (starEach es X.env)).any (·.1) = false := by rfl) :
    PE X (.Call (.Attribute o name apos) (e :: es) [] cpos) (tBM X.K T r to t) := by
  intro pins s σ H Q I h
  refine wpAny_Call_method_late hbase hfew hline rfl (thn (ho pins s σ H _ I h) fun v s1 ⟨x, H1, I1, r1, ty, q1⟩ => ?_)
  obtain ⟨h1, h2⟩ := tyV_is I1 r1 ty
  refine ⟨T, id, pa, slot, hty, h1, h2, ?_⟩
  have hA := ha cpos pins s1 σ H1 _ I1 q1
  rw [hs] at hA ⊢
  refine Calls.callWith_builtin (by show (false || (backTo cpos (starEach es X.env)).any (·.1)) = false; rw [hplain] <;> rfl) (Calls.evalArgs_plain ?_)
  exact thn hA fun us s2 ⟨vs, H2, I2, r2, q2⟩ => hm pins s2 σ H2 x vs v us Q I2 r1 r2 q2
end
def MtM (X : Cx) (id : String) (r : V -> List V -> Hp -> VK -> Prop) : Prop :=
  ∀ (pins : List (Addr × Obj)) (s : Shared) (σ : St) (H : Hp) (x : V) (xs : List V) (v : Value) (us : List Value) (Q : VK), Inv X pins σ H s -> RelV x v -> Vals xs us -> r x xs H Q ->
    wpAny (model X.prog X.w) X.A (call (.builtin id) (v :: us)) (EP X pins σ Q) X.xe s
theorem Vals.one : ∀ {x : V} {us : List Value}, Vals [x] us -> ∃ u, us = [u] /\ RelV x u
  | _, _, .cons r .nil => ⟨_, rfl, r⟩
theorem Vals.zero : ∀ {us : List Value}, Vals [] us -> us = []
  | _, .nil => rfl
theorem Vals.eraseIdx : ∀ {xs : List V} {us : List Value} (i : Nat), Vals xs us -> Vals (xs.eraseIdx i) (us.eraseIdx i)
  | _, _, _, .nil => .nil
  | _, _, 0, .cons _ t => t
  | _, _, i + 1, .cons r t => .cons r (Vals.eraseIdx i t)
theorem Vals.reverse {xs : List V} {us : List Value} (h : Vals xs us) : Vals xs.reverse us.reverse := by
  induction h with
  | nil => exact .nil
  | cons r t ih => rw [List.reverse_cons, List.reverse_cons]; exact Vals.append ih (.cons r .nil)
theorem Vals.rep {xs : List V} {us : List Value} (h : Vals xs us) : ∀ k : Nat, Vals (List.replicate k xs).flatten (List.replicate k us).flatten
  | 0 => .nil
  | k + 1 => by
    rw [List.replicate_succ, List.replicate_succ, List.flatten_cons, List.flatten_cons]
    exact Vals.append h (Vals.rep h k)
theorem len_erase {α : Type} : ∀ (l : List α) (i : Nat), (l.eraseIdx i).length ≤ l.length
  | [], _ => Nat.le_refl _
  | _ :: _, 0 => Nat.le_succ _
  | _ :: r, i + 1 => Nat.succ_le_succ (len_erase r i)
section
variable {X : Cx} {pins : List (Addr × Obj)} {σ : St} {H : Hp} {s : Shared} {l b : Addr} {xs ys zs : List V}
theorem Inv.lset {its its' : List Value} {n : Nat} {f : Array Value -> Array Value} {t' : Nat} (I : Inv X pins σ H s) (hH : H l = some (.lst xs))
    (e : s.heap.get? l = some { cls := .type "list", data := .seq its.toArray n }) (hf : f its.toArray = its'.toArray) (hv : Vals ys its') (hz : ys.length ≤ sizeLine) :
    Inv X pins σ (upd H l (.lst ys)) { s with heap := s.heap.update l (Obj.mapSeq f), toks := t' } := by
  have q := PySem.IsL.update e f
  rw [hf] at q
  refine I.write (x := l) (e := l) (by rw [hH]; exact trivial) (.inl rfl) (fun b' u hb hu => (Heap.get?_update_other s.heap (Obj.mapSeq f) (Ne.symm hb)).trans hu) ⟨_, q⟩ ?_
  exact ⟨hz, its', _, hv, q⟩
theorem Inv.lnew {its : List Value} {t' : Nat} (I : Inv X pins σ H s) (hv : Vals ys its) (hz : ys.length ≤ sizeLine) :
    Inv X pins σ (upd H s.heap.objs.size (.lst ys)) { s with heap := s.heap.push { cls := .type "list", data := .seq its.toArray }, toks := t' } :=
  I.laid (fun _ _ q => Heap.get?_push_of_some _ q) (Nat.le_refl _) ⟨hz, its, 0, hv, Heap.get?_push_size _ rfl⟩
theorem Inv.fresh (I : Inv X pins σ H s) : H s.heap.objs.size = none := I.hok.fresh (Nat.le_refl _)
theorem Inv.lstM (I : Inv X pins σ H s) (hH : H l = some (.lst xs)) : xs.length ≤ sizeLine /\ ∃ (its : List Value) (n : Nat), Vals xs its /\ xs.length = its.length /\ s.heap.get? l = some { cls := .type "list", data := .seq its.toArray n } := by
  obtain ⟨z, its, n, r, e⟩ := I.hok l _ hH
  exact ⟨z, its, n, r, r.length, e⟩
end
section
variable {X : Cx}
def rAppend : V -> List V -> Hp -> VK -> Prop := fun x vs H Q => ∃ l xs y, x = .ref l /\ vs = [y] /\ H l = some (.lst xs) /\ xs.length < sizeLine /\ Q .non (upd H l (.lst (xs ++ [y])))
theorem mt_append : MtM X "list.append" rAppend := by
  intro pins s σ H x vs v us Q I rx rv h
  obtain ⟨l, xs, y, rfl, rfl, hH, hz, q⟩ := h
  cases rx
  obtain ⟨u, rfl, ru⟩ := rv.one
  obtain ⟨z, its, n, r, hl, e⟩ := I.lstM hH
  refine call_meets F.slot_list_append ⟨_, e, rfl⟩ F.entry_list_append (F.args_list_append_2 _ _) (PySem.list_append l its.toArray n u (by rw [List.size_toArray]; omega)) ⟨e, ?_⟩
  refine ⟨.non, _, I.lset (its' := its ++ [u]) hH e (by simp) (r.append (.cons ru .nil)) ?_, rfl, q⟩
  rw [List.length_append, List.length_singleton]
  omega
def rPopAt : V -> List V -> Hp -> VK -> Prop := fun x vs H Q => ∃ l xs i k y, x = .ref l /\ vs = [.int i] /\ H l = some (.lst xs) /\ -(2 ^ 63) ≤ i /\ i < 2 ^ 63 /\ seqIndex? i xs.length = some k /\ xs[k]? = some y /\ Q y (upd H l (.lst (xs.eraseIdx k)))
theorem mt_popAt : MtM X "list.pop" rPopAt := by
  intro pins s σ H x vs v us Q I rx rv h
  obtain ⟨l, xs, i, k, y, rfl, rfl, hH, h1, h2, hk, hy, q⟩ := h
  cases rx
  obtain ⟨u, rfl, ru⟩ := rv.one
  obtain ⟨t, rfl⟩ := ru
  obtain ⟨z, its, n, r, hl, e⟩ := I.lstM hH
  obtain ⟨w, hw, rw'⟩ := r.get hy
  refine call_meets F.slot_list_pop ⟨_, e, rfl⟩ F.entry_list_pop (F.args_list_pop_2 _ _)
    (MeetsSeq.list_pop_at l its.toArray n i t k w (fitsIndex_both h1 h2) (by rw [List.size_toArray, ← hl]; exact hk) (by rw [← Array.getElem?_toList]; exact hw) (by rw [List.size_toArray]; omega)) ⟨e, ?_⟩
  refine ⟨y, _, I.lset (its' := its.eraseIdx k) hH e ?_ (r.eraseIdx k) ?_, rw', q⟩
  · show its.toArray.eraseIdxIfInBounds k = (its.eraseIdx k).toArray
    rw [List.eraseIdxIfInBounds_toArray]
  · have := len_erase xs k
    omega
def rCat : R2 := fun x y H Q => ∃ l b xs zs, x = .ref l /\ y = .ref b /\ H l = some (.lst xs) /\ H b = some (.lst zs) /\ xs.length + zs.length ≤ sizeLine /\ ∀ p, H p = none -> Q (.ref p) (upd H p (.lst (xs ++ zs)))
theorem len_rep {α : Type} (xs : List α) (k : Nat) : (List.replicate k xs).flatten.length = k * xs.length := by
  induction k with
  | zero => simp
  | succ k ih => rw [List.replicate_succ, List.flatten_cons, List.length_append, ih, Nat.succ_mul, Nat.add_comm]
end
section
variable {prog : Program} {w : World} {A : Around} {E : Value -> Shared -> Prop} {s : Shared}
end
section
variable {X : Cx}
end
end L2
namespace Att
open PySem PySem.W PySem.Calls PyProof.Rows
theorem z6g {P : Params} {h : Heap} : ∀ (ns : List Int) (vs : List Value), WellAll P h vs (ns.map WData.int) -> IntsAre vs ns := by
  intro ns
  induction ns with
  | nil =>
    intro vs w
    rw [List.map_nil] at w
    cases w
    exact .nil
  | cons n ns ih =>
    intro vs w
    rw [List.map_cons] at w
    cases w with
    | cons a b =>
      cases a
      exact .cons _ _ (ih _ b)
theorem script_of {l : OpenLaw} {n : Nat} (hn : l.most = some n) {P : Params} {h : Heap} {args : List WData} {vals : List Value}
    (hpre : l.row.toRowW.claim.pre args = true) (hwl : WellAll P h vals args) :
    ∃ a vs ns, vals = [Value.ref a] /\ args = [WData.list (ns.map WData.int)] /\ h.get? a = some { cls := .type "list", data := .seq vs.toArray } /\ IntsAre vs ns /\ ns.length ≤ n := by
  have hsh : WShape.hasAll [] args [.list .int] = true := (pre_splitW hpre).1
  have hc : l.pre.holds [] { args := args } = true := (pre_splitW hpre).2
  obtain ⟨d, r, rfl, h1, h2⟩ := hasAllW_cons hsh
  obtain rfl := hasAllW_nil h2
  obtain ⟨xs, rfl, h3⟩ := hasW_list h1
  obtain ⟨ns, rfl⟩ := items_int h3
  have hlen : ns.length ≤ n := by
    unfold OpenLaw.pre at hc
    have h4 : (WTm.not (.lt (.lit (.int (n : Int))) (.len (.arg 0)))).holds [] { args := [.list (ns.map .int)] } = true := by
      have h4 := (holds_andW hc).1
      rw [hn] at h4
      exact h4
    have h5 := condW_of h4 (w_not (w_lt w_lit (w_len_list (w_arg rfl))))
    rw [List.length_map] at h5
    refine Nat.le_of_not_lt fun q => ?_
    have q' : (n : Int) < ((ns.length : Nat) : Int) := by omega
    first
      | (rw [decide_eq_true q'] at h5; exact absurd h5 (by decide))
      | (simp at h5; omega)
  cases hwl with
  | cons w1 w2 =>
    cases w2
    cases w1 with
    | list ho hall => exact ⟨_, _, ns, rfl, rfl, ho, z6g ns _ hall, hlen⟩
theorem post_true (l : OpenLaw) (args : List WData) : l.row.toRowW.claim.post args (.bool true) args = true :=
  postW_of (r := l.row.toRowW) (X := (true == true))
    (show WShape.has [] (.bool true) .bool = true by first | rfl | decide | simp [WShape.has, WShape.arms, WShape.armsAll])
    (show (WTm.eq .res (.lit (.bool true))).value [] { args := args, res := some (.bool true), after := args } = some (.bool (true == true)) from w_eq_bool (w_res rfl) w_lit) rfl
theorem attach_call {l : OpenLaw} {n : Nat} {q : Program} {loose : List Str} {XP : (Str -> Option Value) -> Heap -> Prop} {YP : World -> Heap -> Prop} {d : DefRec}
    (hn : l.most = some n) (hdf : d.params.defaults = [])
    (call : ∀ (w : World) (s₀ s₁ : Shared) (mg mb : Str -> Option Value) (fa : Addr) (o : Obj) (pm cd doc : Value) (a : Addr) (vs : List Value) (ns : List Int),
      Ground q loose [] XP w s₀ mg mb s₁.heap -> YP w s₁.heap ->
      s₁.heap.get? fa = some o -> o.data = .func (docDef d.name d.params d.body d.scope pm cd doc) -> s₁.heap.CodeRec cd d.name -> mg d.name = some (.ref fa) ->
      s₁.heap.get? a = some { cls := .type "list", data := .seq vs.toArray } -> IntsAre vs ns -> ns.length ≤ n -> s₁.gens = #[] ->
      codeAny (model l.prog w) callerA (.call (.ref fa) ⟨[.ref a], []⟩) (fun r s' => r = .ok (.ret (.bool true)) /\ OldK s₁.heap s'.heap /\ s'.os = s₁.os /\ AllBare s'.gens) s₁) :
    WalkO q loose XP YP l.row.toRowW d [] (fun f vs => PySem.call f vs) := by
  intro w s₀ s₁ mg mb G Y fa o pm cd doc dV kV ho hd hcd hD hmg hg args vals as hpre hlay hrd hwl hlo
  obtain rfl : dV = .none := Dflts.none hD hdf
  obtain rfl : kV = .none := Dflts.noKw hD
  obtain ⟨a, vs, ns, rfl, rfl, hobj, hints, hlen⟩ := script_of hn hpre hwl
  refine enter_call (codeAny_mono (call w s₀ s₁ mg mb fa o pm cd doc a vs ns G Y ho (fd_plain hd) hcd hmg hobj hints hlen hg) fun r s' hq => ?_)
  obtain ⟨rfl, h2, h3, h4⟩ := hq
  exact ⟨.inl ⟨.bool true, .bool true, [], rfl, fun _ => rfl, .bool true, post_true l _, fun _ => ⟨List.Pairwise.nil, fun _ hm => (nomatch hm)⟩⟩, h2, h3, h4⟩
section
variable {prog : Program} {w : World} {A : Around} {E : Value -> Shared -> Prop} {s : Shared} {K : Frag}
end
end Att
namespace L2
open PySem PySem.Spec PyProof.Rows
theorem z5x : ∀ {vs : List Value} {ns : List Int}, IntsAre vs ns -> Vals (ns.map V.int) vs
  | _, _, .nil => .nil
  | _, _, .cons n t h => .cons ⟨t, rfl⟩ (z5x h)
def defArgs (s : Stmt) : Arguments := match s with
  | .FunctionDef _ a _ _ _ _ _ _ _ _ => a
  | _ => { posonlyargs := [], args := [], vararg := none, kwonlyargs := [], kw_defaults := [], kwarg := none, defaults := [] }
def defBody (s : Stmt) : List Stmt := match s with
  | .FunctionDef _ _ b _ _ _ _ _ _ _ => b
  | _ => []
def defScope (s : Stmt) : Scope := match s with
  | .FunctionDef _ _ _ _ _ _ sc _ _ _ => sc
  | _ => { kind := .function, names := [], isGenerator := false, isCoroutine := false }
abbrev CX0 : CXT := fun _ _ _ _ _ _ => False
abbrev E0 : XK := fun _ _ _ => False
theorem z1n {X : Cx} : Passes CX0 X E0 := fun _ _ _ _ _ _ _ h => h.elim
structure Fun (K : PySem.W.Frag) (x qual : Str) (st : Stmt) (f : Addr) (fd : FuncData) : Prop where
  ex : ∃ (oc : Value) (od : Option Addr) (kV doc pm : Value) (an : Option Addr) (cdv ct : Value) (osl : Array (Option Value)),
    fd = PySem.W.fnOf x qual (defArgs st) (defBody st) (defScope st) .none kV doc pm an cdv ct /\ K.lookup f = some ⟨oc, od, .func fd, osl⟩ /\ PySem.W.codeIn K cdv qual = true
  kp : PySem.W.keepIn K (.ref f) = true
section
variable {P : Program} {w : World} {K : PySem.W.Frag} {mg : Str -> Option Value} {base : Heap}
theorem Fun.ok {x qual : Str} {st : Stmt} {f : Addr} {fd : FuncData} {N ps : List Str} {k : Nat} {sp : Sp} (F : Fun K x qual st f fd) (S : FnScope N ps (defScope st)) (len : ∀ vs H Q E, sp vs H Q E -> vs.length = ps.length)
    (hbody : ∀ (cdv : Value) (A : Around) (outer : List Env) (s : Shared) (H : Hp) (vs : List V) (Q : VK) (E : XK), Room k (A.deeper (envOfC qual (defScope st) s.heap.objs.size f cdv)) -> sp vs H Q E ->
      ∃ t, PSs (cxOf CX0 P w K mg base N qual (defScope st) f cdv A outer s H E).nox (defBody st) t /\ t { nx := fun _ H' => Q .non H', rt := Q } (start N vs) H) : FnOk P w K mg base CX0 (k + 1) f fd ps sp := by
  obtain ⟨oc, od, kV, doc, pm, an, cdv, ct, osl, rfl, lk, hcd⟩ := F.ex
  refine fn_of lk hcd S len fun A outer s H vs Q E hr hsp => ?_
  obtain ⟨t, h, q⟩ := hbody cdv A outer s H vs Q E hr hsp
  exact ⟨t, h.nox, q⟩
theorem Fun.binds {x qual : Str} {st : Stmt} {f : Addr} {fd : FuncData} {ps : List Str} (F : Fun K x qual st f fd)
    (h : ∀ (kV doc pm : Value) (an : Option Addr) (cdv ct : Value) (us : List Value), us.length = ps.length -> bindArgs (PySem.W.fnOf x qual (defArgs st) (defBody st) (defScope st) .none kV doc pm an cdv ct) ⟨us, []⟩ = pure (ps.zip us)) : Binds K fd ps [] := by
  obtain ⟨oc, od, kV, doc, pm, an, cdv, ct, osl, rfl, lk, hcd⟩ := F.ex
  exact .all (h kV doc pm an cdv ct)
theorem z1b {x qual : Str} {st : Stmt} {f : Addr} {oc : Value} {od an : Option Addr} {osl : Array (Option Value)} {kV doc pm cdv ct : Value} (l : K.lookup f = some ⟨oc, od, .func (PySem.W.fnOf x qual (defArgs st) (defBody st) (defScope st) .none kV doc pm an cdv ct), osl⟩)
    (c : PySem.W.codeIn K cdv qual = true) (k : PySem.W.keepIn K (.ref f) = true) : Fun K x qual st f (PySem.W.fnOf x qual (defArgs st) (defBody st) (defScope st) .none kV doc pm an cdv ct) := ⟨⟨oc, od, kV, doc, pm, an, cdv, ct, osl, rfl, l, c⟩, k⟩
end
theorem z0w {n : Nat} (h : n ≤ 1000) : n < sizeLine := Nat.lt_of_le_of_lt h (by decide)
section
variable {X : Cx}
theorem pv (i : Nat) {x : Str} {pos : Pos} (hN : X.N[i]? = some x := by rfl) (hv : Vis X.env.scope x := by first | exact Or.inl rfl | exact Or.inr (Or.inl rfl) | exact Or.inr (Or.inr rfl)) (hd : (x == ("__debug__" : Str)) = false := by decide)
    (hcd : (x == ("__classdict__" : Str)) = false := by decide) : PE X (.Name x pos) (tVar i) := pe_var hN hv hd hcd
end
def Same (H H' : Hp) : Prop := ∀ b o, H b = some o -> H' b = some o
theorem Same.refl (H : Hp) : Same H H := fun _ _ h => h
theorem Same.trans {H H1 H2 : Hp} (a : Same H H1) (b : Same H1 H2) : Same H H2 := fun c o h => b c o (a c o h)
theorem Same.free {H H' : Hp} (e : Same H H') {l : Addr} (h : H' l = Option.none) : H l = Option.none := by
  cases q : H l with
  | none => rfl
  | some o =>
    rw [e l o q] at h
    cases h
theorem Same.seq {K : PySem.W.Frag} {H H' : Hp} {a : Addr} {xs : List V} (e : Same H H') (h : SqL K H a xs) : SqL K H' a xs := by
  rcases h with (h | ⟨o, h⟩) | h
  · exact .inl (.inl (e _ _ h))
  · exact .inl (.inr ⟨o, e _ _ h⟩)
  · exact .inr h
end L2
set_option maxHeartbeats 4000000
namespace L2
open PySem PySem.Spec PyProof.Rows
section
variable {prog : Program} {w : World} {A : Around} {R : Result -> Shared -> Prop} {s : Shared}
theorem compLoop_any {elt target iter : Expr} {scope : Scope} {pos : Pos} {it acc : Value} {env : Env} (I : Nat -> Shared -> Prop)
    (turn : ∀ n s, I n s -> wpAny (model prog w) A (pyNext it) (fun r s₁ => match r with
      | none => R (.ok .next) s₁
      | some v => wpAny (model prog w) A (letOwnedTupleGo target it v) (fun _ s₀ => wpAny (model prog w) A (assign target env v) (fun _ s₂ => wpAny (model prog w) A (eval elt env) (fun x s₃ =>
          wpAny (model prog w) A (call (.builtin "list.append") [acc, x]) (fun _ s₄ => ∃ m, m < n /\ I m s₄) (fun _ _ => False) s₃)
          (fun _ _ => False) s₂) (fun _ _ => False) s₀) (fun _ _ => False) s₁) (fun _ _ => False) s)
    (n : Nat) (h : I n s) :
    codeAny (model prog w) A (.compLoop (.ListComp elt [⟨target, iter, [], 0⟩] scope pos) 0 it acc env) R s := by
  refine codeAny_loop rfl I (fun n s hI => ?_) n h
  show wpAny _ _ ((compTurn (.ListComp elt [⟨target, iter, [], 0⟩] scope pos) 0 it acc env).onRaise (fun x => do noteFrame x env; theTreesLotGoes x)) _ _ s
  refine wpAny_noted ?_
  rw [compTurn_list1]
  refine wpAny_bind (wpAny_standAt (wpAny_bind (wpAny_mono (turn n s hI) (fun r s₁ h₁ => ?_) fun _ _ h' => h'.elim)))
  cases r with
  | none => exact wpAny_pure h₁
  | some v =>
    refine wpAny_bind (wpAny_mono h₁ (fun _ s₀ h₀ => ?_) fun _ _ h' => h'.elim)
    exact wpAny_bind (wpAny_mono h₀ (fun _ s₂ h₂ => wpAny_bind (wpAny_bind (wpAny_mono h₂ (fun x s₃ h₃ => wpAny_bind (wpAny_mono h₃
      (fun _ s₄ h₄ => wpAny_pure (wpAny_pure ⟨rfl, h₄⟩)) fun _ _ h' => h'.elim)) fun _ _ h' => h'.elim))) fun _ _ h' => h'.elim)
end
def cxComp (X : Cx) (N : List Str) (scope : Scope) (cl : List (Str × Addr)) (C : Addr) (ex : List Addr) (s : Shared) (H : Hp) : Cx where
  prog := X.prog
  w := X.w
  K := X.K
  mg := X.mg
  base := X.base
  A := X.A
  N := N
  s₀ := s
  H₀ := H
  env := compEnvC scope cl C X.env
  outer := X.stack
  stack := X.stack
  ex := ex
  fn := fun _ => false
  calm := X.calm
  pn := X.pn
  xe := fun _ _ => False
def compSt (k : Nat) (js : List Nat) (σ : St) : St := List.replicate k none ++ js.map fun j => (σ[j]?).join
def tComp (wi : TI) (k : Nat) (js : List Nat) (g : TG) (te : TE) : TE := fun σ H Q => wi σ H fun J H1 =>
  ∃ W : Nat -> Nat -> List V -> St -> Hp -> Prop, (∃ m, W 0 m [] (compSt k js σ) H1) /\ ∀ i m ys σ' H', W i m ys σ' H' ->
    (J.stop i H' /\ ∀ p, H' p = none -> Q (.ref p) (upd H' p (.lst ys))) \/
    (J.go i H' /\ ys.length < sizeLine /\ ∃ N : List V -> St -> Hp -> Prop, (∀ zs σ2 H2, N zs σ2 H2 -> ∃ m', m' < m /\ W (i + 1) m' zs σ2 H2) /\
      ∀ x H2, J.yld i H' x H2 -> g x σ' H2 fun σ3 H3 => te σ3 H3 fun v H4 => N (ys ++ [v]) σ3 H4)
structure Cap (X : Cx) (scope : Scope) (cl : List (Str × Addr)) (x : Str) (j : Nat) : Prop where
  at_ : X.N[j]? = some x
  out : X.env.scope.names.lookup x = some .cell \/ X.env.scope.names.lookup x = some .free
  inn : (relabel scope X.env).names.lookup x = some .cell \/ (relabel scope X.env).names.lookup x = some .free
theorem join_some {σ : St} {j : Nat} {v : V} (h : (σ[j]?).join = some v) : σ[j]? = some (some v) := by
  cases e : σ[j]? with
  | none => rw [e] at h; cases h
  | some o =>
    rw [e] at h
    cases o with
    | none => cases h
    | some u => cases h; rfl
theorem comp_core {X : Cx} {elt tg iter : Expr} {scope : Scope} {cl : List (Str × Addr)} {pos : Pos} {own fv : List Str} {js : List Nat} {wi : TI} {g : TG} {te : TE}
    (hc : X.calm = true) (hi : PI X tg iter wi) (hclos : closureFor scope X.env = pure cl) (hcell : ∀ y ∈ scope.names, y.2 ≠ .cell) (hkind : scope.kind = .function)
    (hnames : ∀ y ∈ scope.names, y.2 = .local -> scope.names.lookup y.1 = some .local)
    (hcl : ∀ x c, cl.lookup x = some c -> X.env.cells.lookup x = some c)
    (hhas : ∀ x, ((relabel scope X.env).names.lookup x = some .cell \/ (relabel scope X.env).names.lookup x = some .free) -> ∃ c, cl.lookup x = some c)
    (hlen : js.length = fv.length) (hcap : ∀ (i : Nat) x j, fv[i]? = some x -> js[i]? = some j -> Cap X scope cl x j)
    (hg : ∀ (C : Addr) (ex : List Addr) (s : Shared) (H : Hp), PG (cxComp X (own ++ fv) scope cl C ex s H) tg g)
    (he : ∀ (C : Addr) (ex : List Addr) (s : Shared) (H : Hp), PE (cxComp X (own ++ fv) scope cl C ex s H) elt te)
    (hs : ∀ x, foldedSetIterable iter X.env x = pure x)
    {pins : List (Addr × Obj)} {s : Shared} {σ : St} {H : Hp} {Q : VK} {use : Option (Value -> Sem Unit)} {QQ : Value -> Shared -> Prop} {fpos : Pos} (I : Inv X pins σ H s) (h : tComp wi own.length js g te σ H Q)
    (fin : ∀ (a C : Addr) (s5 : Shared) (H5 : Hp) (fl : Flow), Inv X pins σ H5 s5 -> H5 C = none -> C ≠ X.env.locals -> X.s₀.heap.objs.size ≤ C -> (∀ x c, X.env.cells.lookup x = some c -> c ≠ C) -> (∀ p ∈ X.pn ++ pins, p.1 ≠ C) -> (∃ m, s5.heap.Ns C m) -> Q (.ref a) H5 -> compPost (model X.prog X.w) X.A X.xe use QQ (.ref a) C (.ok fl) s5) :
    wpAny (model X.prog X.w) X.A (comprehension (.ListComp elt [⟨tg, iter, [], 0⟩] scope pos) scope X.env fpos (newList []) false (firstIter [⟨tg, iter, [], 0⟩] X.env) use) QQ X.xe s := by
  refine wpAny_comprehension_free (use := use) rfl hs hclos hkind hnames (thn (hi pins s σ H _ I h) fun v s1 h1 => thn h1 fun itv s2 h2 => ?_)
  obtain ⟨it, fp, tn, J, H2, e, I2, T, st2, f2, W, ⟨m0, w0⟩, turn⟩ := h2
  subst e
  refine wpAny_newObj_type (wpAny_newFunctionEnv hcell (by intro y hy; simp at hy) (fun h₁ hns₁ hsb₁ => ?_) hkind)
  dsimp only at hns₁ hsb₁ ⊢
  generalize hHp : s2.heap.push { cls := .type "list", dict := none, data := .seq ([] : List Value).toArray } = hL at hns₁ hsb₁ ⊢
  have hC : hL.objs.size = s2.heap.objs.size + 1 := by rw [← hHp, Heap.size_push]
  have hDC : s2.heap.objs.size ≠ hL.objs.size := by rw [hC]; exact Nat.ne_of_lt (Nat.lt_succ_self _)
  have ltC : ∀ b, b < s2.heap.objs.size -> b ≠ hL.objs.size := fun b hb => by rw [hC]; exact Nat.ne_of_lt (Nat.lt_succ_of_lt hb)
  have old : ∀ b o, s2.heap.get? b = some o -> h₁.get? b = some o := fun b o e => hsb₁.extBut b o (ltC b (Heap.lt_size e)) (Heap.get?_push_of_some _ (hHp ▸ Heap.get?_push_of_some _ e))
  have hacc : h₁.get? s2.heap.objs.size = some { cls := .type "list", data := .seq ([] : List Value).toArray 0 } := hsb₁.extBut _ _ hDC (Heap.get?_push_of_some _ (hHp ▸ Heap.get?_push_size _ rfl))
  have hfresh : ∀ a, s2.heap.objs.size ≤ a -> H2 a = none := fun a ha => I2.hok.fresh ha
  have fpL : ∀ b ∈ fp, b < s2.heap.objs.size := fun b hb => by
    obtain ⟨o, e, _⟩ := T.obj _ _ st2 b hb
    exact Heap.lt_size e
  have cellL : ∀ x c, cl.lookup x = some c -> c < s2.heap.objs.size := fun x c e => by
    obtain ⟨v, q⟩ := I2.cell x c (hcl x c e)
    exact q.lt
  have pinL : ∀ p ∈ X.pn ++ pins, p.1 < s2.heap.objs.size := fun p hp => Heap.lt_size (I2.pin p hp).1
  generalize hX : cxComp X (own ++ fv) scope cl hL.objs.size fp s2 H2 = Y
  have ok : Y.Ok := by
    subst hX
    refine ⟨I2.ok.mod, hkind, I2.ok.glob, I2.ok.blt, by show s2.heap.objs.size ≤ hL.objs.size; omega, fun x y c h1 h2 => I2.ok.inj x y c (hcl x c h1) (hcl y c h2), fun x hx => hhas x hx,
      fun x c hf => absurd hf (by show ¬ (false = true); decide), I2.ok.hd, I2.ok.frames, .inl rfl, fun b hb => ⟨ltC b (fpL b hb), fun x c e => (f2 b hb).2.2.2.2.1 x c (hcl x c e)⟩, I2.bs, Nat.le_trans I2.ok.bsz I2.sz, fun b o e hb => ?_, fun b hb hz => ?_, I2.stack, I2.stkFree⟩
    · rcases (f2 b hb).2.2.2.1 with z | z
      · exact I2.ok.noex b o e z
      · exact absurd (Nat.lt_of_lt_of_le (Heap.lt_size e) (Nat.le_trans I2.ok.bsz z)) (Nat.lt_irrefl _)
    · rcases List.mem_cons.mp (I2.stkSub b hz) with z | z
      · exact (f2 b hb).2.1 z
      · exact (f2 b hb).2.2.1 z
  have hYl : Y.env.locals = hL.objs.size := by subst hX; rfl
  have hYs : Y.s₀ = s2 := by subst hX; rfl
  have hYH : Y.H₀ = H2 := by subst hX; rfl
  have hYx : Y.ex = fp := by subst hX; rfl
  have hYf : Y.fs = frs X.stack := by subst hX; rfl
  have hYc : Y.env.cells = cl := by subst hX; rfl
  have hYp : Y.pn = X.pn := by subst hX; rfl
  have pinOk : ∀ p ∈ X.pn ++ pins, s2.heap.get? p.1 = some p.2 /\ H2 p.1 = none /\ p.1 ≠ hL.objs.size /\ p.1 ∉ frs X.stack /\ ∀ v, p.2.data ≠ .cell v := fun p hp => by
    obtain ⟨e, n, ne, nf, d⟩ := I2.pin p hp
    refine ⟨e, n, ltC _ (Heap.lt_size e), fun z => ?_, d⟩
    rcases List.mem_cons.mp (I2.stkSub _ z) with q | q
    · exact ne q
    · exact nf q
  have stkL : ∀ b ∈ frs X.stack, b < s2.heap.objs.size := fun b hb => by
    obtain ⟨_, o, ho, _⟩ := I2.stack.mem hb
    exact Heap.lt_size ho
  have I3 : Inv Y (pins ++ [(s2.heap.objs.size, { cls := .type "list", data := .seq ([] : List Value).toArray 0 })]) (compSt own.length js σ) H2 { s2 with heap := h₁, toks := s2.toks + ([] : List (Str × Value)).length } := by
    refine ⟨ok, by subst hX; rfl, I2.bare, by rw [hYH, hYs]; exact Un.kept old, ⟨_, by rw [hYl]; exact hns₁, fun i x v e1 e2 e3 => ?_⟩, fun x c e => ?_, by rw [hYl]; exact hfresh _ (by omega), fun x c e => ?_, fun p hp => ?_, by subst hX; exact I2.hok.kept old, ?_⟩
    · subst hX
      have e1 : (own ++ fv)[i]? = some x := e1
      unfold compSt at e2
      by_cases hi : i < own.length
      · rw [List.getElem?_append_left (by simpa using hi), List.getElem?_replicate] at e2
        split at e2 <;> cases e2
      · rw [List.getElem?_append_right (by simpa using hi), List.length_replicate, List.getElem?_map] at e2
        rw [List.getElem?_append_right (by omega)] at e1
        cases ej : js[i - own.length]? with
        | none => rw [ej] at e2; cases e2
        | some j =>
          rw [ej] at e2
          have cp := hcap _ x j e1 ej
          have e2' : σ[j]? = some (some v) := join_some (Option.some.inj e2)
          obtain ⟨m, hn, hl⟩ := I2.loc
          obtain ⟨u, r, l⟩ := hl j x v cp.at_ e2' (cp.out.elim (fun z => .inr (.inl z)) fun z => .inr (.inr z))
          refine ⟨u, r, .inr ⟨cp.inn, ?_⟩⟩
          obtain ⟨c, ec⟩ := hhas x cp.inn
          rcases l with ⟨k, _⟩ | ⟨_, c', ec', z⟩
          · have k : X.env.scope.names.lookup x = some .local := k
            rcases cp.out with q | q <;> rw [q] at k <;> cases k
          · rw [hcl x c ec] at ec'
            cases ec'
            obtain ⟨o, ho, hd⟩ := z
            exact ⟨c, ec, o, old _ _ ho, hd⟩
    · rw [hYc] at e
      obtain ⟨v, o, ho, hd⟩ := I2.cell x c (hcl x c e)
      exact ⟨v, o, old _ _ ho, hd⟩
    · rw [hYc] at e
      exact I2.freeC x c (hcl x c e)
    · rw [hYp] at hp
      rw [hYl, hYf]
      rcases List.mem_append.mp hp with z | z
      · obtain ⟨a, b, c, d, f⟩ := pinOk p (List.mem_append_left _ z)
        exact ⟨old _ _ a, b, c, d, f⟩
      · rcases List.mem_append.mp z with z | z
        · obtain ⟨a, b, c, d, f⟩ := pinOk p (List.mem_append_right _ z)
          exact ⟨old _ _ a, b, c, d, f⟩
        · have e : p = _ := List.mem_singleton.mp z
          subst e
          exact ⟨hacc, hfresh _ (Nat.le_refl _), hDC, fun z => absurd (stkL _ z) (Nat.lt_irrefl _), fun v z => by cases z⟩
    · subst hX
      unfold compSt
      show _ = (own ++ fv).length
      simp [hlen]
  have hYprog : Y.prog = X.prog := by subst hX; rfl
  have hYw : Y.w = X.w := by subst hX; rfl
  have hYK : Y.K = X.K := by subst hX; rfl
  have hYA : Y.A = X.A := by subst hX; rfl
  have hYcalm : Y.calm = true := by subst hX; exact hc
  have hYxe : Y.xe = fun _ _ => False := by subst hX; rfl
  have hYenv : Y.env = compEnvC scope cl hL.objs.size X.env := by subst hX; rfl
  have hg' := hg hL.objs.size fp s2 H2
  have he' := he hL.objs.size fp s2 H2
  rw [hX] at hg' he'
  have fpOk : ∀ {H' : Hp} {pn : List (Addr × Obj)}, (∀ b ∈ fp, H' b = none) -> (∀ p ∈ pn, p.1 = s2.heap.objs.size \/ p ∈ pins) -> ∀ b ∈ fp, FpOk Y pn H' b := fun hn hp b hb => by
    refine ⟨hn b hb, by rw [hYl]; exact ltC b (fpL b hb), ?_, .inl (by rw [hYx]; exact hb), fun x c e => ?_, fun p hq => ?_⟩
    · rw [hYf]
      intro hz
      rcases List.mem_cons.mp (I2.stkSub b hz) with z | z
      · exact (f2 b hb).2.1 z
      · exact (f2 b hb).2.2.1 z
    · rw [hYc] at e
      exact (f2 b hb).2.2.2.2.1 x c (hcl x c e)
    · rw [hYp] at hq
      rcases List.mem_append.mp hq with z | z
      · exact (f2 b hb).2.2.2.2.2 p (List.mem_append_left _ z)
      · rcases hp p z with q | q
        · rw [q]; exact Ne.symm (Nat.ne_of_lt (fpL b hb))
        · exact (f2 b hb).2.2.2.2.2 p (List.mem_append_right _ q)
  have loop : ∀ s₃ : Shared, s₃ = { s2 with heap := h₁, toks := s2.toks + ([] : List (Str × Value)).length } ->
      codeAny (model X.prog X.w) X.A (.compLoop (.ListComp elt [⟨tg, iter, [], 0⟩] scope pos) 0 (.ref it) (.ref s2.heap.objs.size) (compEnvC scope cl hL.objs.size X.env))
        (compPost (model X.prog X.w) X.A X.xe use QQ (.ref s2.heap.objs.size) hL.objs.size) s₃ := by
    rintro s₃ rfl
    refine compLoop_any (fun n s' => ∃ i ys its k σ' H', Inv Y (pins ++ [(s2.heap.objs.size, { cls := .type "list", data := .seq (its : List Value).toArray k })]) σ' H' s' /\ tn i s'.heap /\ (∀ b ∈ fp, H' b = none) /\ Vals ys its /\ ys.length ≤ sizeLine /\ W i n ys σ' H') ?_ m0
      ⟨0, [], [], 0, _, H2, I3, T.keep _ _ _ st2 fun b _ o e => old b o e, fun b hb => (f2 b hb).1, .nil, Nat.zero_le _, w0⟩
    rintro n s4 ⟨i, ys, its, k, σ4, H4, I4, st4, fr4, rv, hz, w4⟩
    have pinD : ∀ p ∈ (pins ++ [(s2.heap.objs.size, ({ cls := .type "list", data := .seq (its : List Value).toArray k } : Obj))]), p.1 = s2.heap.objs.size \/ p ∈ pins := fun p hp => by
      rcases List.mem_append.mp hp with z | z
      · exact .inr z
      · rw [List.mem_singleton.mp z]; exact .inl rfl
    have F4 := fpOk (pn := pins ++ [(s2.heap.objs.size, { cls := .type "list", data := .seq (its : List Value).toArray k })]) fr4 pinD
    rcases turn i n ys σ4 H4 w4 with ⟨stop, qn⟩ | ⟨go, hlt, N, hN, step⟩
    · have d := T.done Y hYprog hYw hYK hYcalm i _ s4 σ4 H4 (fun _ _ => False) I4 F4 st4 stop
      rw [hYA] at d
      refine thn d fun r s5 ⟨hr, I5⟩ => ?_
      subst hr
      obtain ⟨m, hn, _⟩ := id I5.loc
      rw [hYl] at hn
      have hD := I5.pin (s2.heap.objs.size, { cls := .type "list", data := .seq (its : List Value).toArray k }) (List.mem_append_right _ (List.mem_append_right _ (List.mem_singleton.mpr rfl)))
      have hDn : H4 s2.heap.objs.size = none := hD.2.1
      have kp : ∀ b o, b ≠ hL.objs.size -> s5.heap.get? b = some o -> s5.heap.get? b = some o := fun b o _ e => e
      have B := I5.base
      rw [hYH, hYs, hYx, hYf] at B
      have s2C : ∀ b o, s2.heap.get? b = some o -> b ≠ hL.objs.size := fun b o e => ltC b (Heap.lt_size e)
      have trk : ∀ b u, H4 b = some u -> b ≠ s2.heap.objs.size := fun b u e z => by rw [z, hDn] at e; cases e
      have trC : ∀ b u, H4 b = some u -> b ≠ hL.objs.size := fun b u e z => by
        have := I5.free
        rw [hYl, ← z, e] at this; cases this
      have hH2 : ∀ b u, H2 b = some u -> b ≠ s2.heap.objs.size := fun b u e z => by rw [z, hfresh _ (Nat.le_refl _)] at e; cases e
      have IX : Inv X pins σ (upd H4 s2.heap.objs.size (.lst ys)) s5 := by
       refine I2.call' (ch := fp) (by show s5.os = s2.os; rw [I5.os, hYs]) ⟨fun b o e n hb hx => kp b o (s2C b o e) (B.keep b o e n hb hx), fun b o e n hb hx => ?_, fun b o e n hx => ?_, fun b o e hx => ?_, fun b xs e => ?_, fun b o u e => ?_, fun b ps e => ?_⟩ ?_ I5.bare (fun b hb => ⟨(f2 b hb).2.2.2.1, (f2 b hb).2.1, (f2 b hb).2.2.2.2.1, (f2 b hb).2.2.2.2.2⟩)
       · obtain ⟨sl, q⟩ := B.slot b o e n hb hx
         exact ⟨sl, kp b _ (s2C b o e) q⟩
       · rw [z0x (Nat.ne_of_lt (Heap.lt_size e))]
         exact B.free b o e n hx
       · obtain ⟨o', q⟩ := B.there b o e hx
         exact ⟨o', kp b o' (s2C b o e) q⟩
       · rw [z0x (hH2 b _ e)]
         exact B.tups b xs e
       · rw [z0x (hH2 b _ e)]
         exact B.frzs b o u e
       · obtain ⟨more, q⟩ := B.tbls b ps e
         exact ⟨more, by rw [z0x (hH2 b _ e)]; exact q⟩
       · intro b u e
         by_cases hb : b = s2.heap.objs.size
         · subst hb
           rw [z0k] at e
           cases e
           exact ⟨hz, its, k, rv, kp _ _ hDC hD.1⟩
         · rw [z0x hb] at e
           have okb := I5.hok b u e
           rw [hYprog, hYw] at okb
           refine okb.stay (fun c v hc q => kp c v ?_ q) (fun c q => by rw [z0x (trk c _ q)]; exact q) fun c xs q => by rw [z0x (trk c _ q)]; exact q
           rcases hc with z | z
           · rw [z]; exact trC b u e
           · exact trC c _ z
      have zC : upd H4 s2.heap.objs.size (.lst ys) hL.objs.size = none := by
        rw [z0x (Ne.symm hDC)]
        have := I5.free
        rwa [hYl] at this
      exact fin s2.heap.objs.size hL.objs.size s5 _ _ IX zC (Ne.symm (ltC _ I2.lt)) (by have := I2.sz; omega) (fun x c e => ltC c (by obtain ⟨v, q⟩ := I2.cell x c e; exact q.lt)) (fun p hp => ltC _ (pinL p hp)) ⟨m, hn⟩ (qn _ hDn)
    · have d := T.item Y hYprog hYw hYK hYcalm i _ s4 σ4 H4 (fun _ _ => False) I4 F4 st4 go
      rw [hYA] at d
      refine thn d fun r s5 ⟨u, hr, h5⟩ => ?_
      subst hr
      refine thn h5 fun _ s6 ⟨x, H6, I6, r6, y6, st6, fr6⟩ => ?_
      have I6' := I6.pinned (fpOk (pn := pins ++ [(s2.heap.objs.size, { cls := .type "list", data := .seq (its : List Value).toArray k })]) fr6 pinD) (T.obj _ _ st6)
      have d7 := hg' _ s6 σ4 H6 x u _ I6' r6 (step x H6 y6)
      rw [hYprog, hYw, hYA, hYxe, hYenv] at d7
      refine thn d7 fun _ s7 ⟨σ7, H7, I7, q7⟩ => ?_
      have d8 := he' _ s7 σ7 H7 _ I7 q7
      rw [hYprog, hYw, hYA, hYxe, hYenv] at d8
      refine thn d8 fun u8 s8 ⟨v8, H8, I8, r8, n8⟩ => ?_
      obtain ⟨m', hm, w8⟩ := hN _ _ _ n8
      have pD := I8.pin (s2.heap.objs.size, { cls := .type "list", data := .seq (its : List Value).toArray k }) (List.mem_append_right _ (List.mem_append_left _ (List.mem_append_right _ (List.mem_singleton.mpr rfl))))
      have tn8 : tn (i + 1) s8.heap := T.keep _ _ _ st6 fun b hb o e => (I8.pin (b, o) (List.mem_append_right _ (List.mem_append_right _ (z4a hb e)))).1
      have fr8 : ∀ b ∈ fp, H8 b = none := fun b hb => by
        obtain ⟨o, e, d⟩ := T.obj _ _ st6 b hb
        exact (I8.pin (b, o) (List.mem_append_right _ (List.mem_append_right _ (z4a hb e)))).2.1
      have J8 : Inv Y pins σ7 H8 s8 := I8.unpinned.unpinned
      have eD : s8.heap.get? s2.heap.objs.size = some { cls := .type "list", data := .seq its.toArray k } := pD.1
      refine call_meets F.slot_list_append ⟨_, eD, rfl⟩ F.entry_list_append (F.args_list_append_2 _ _) (PySem.list_append _ its.toArray k u8 (by rw [List.size_toArray, ← rv.length]; omega)) ⟨eD, ?_⟩
      have other : ∀ b o, b ≠ s2.heap.objs.size -> s8.heap.get? b = some o -> (s8.heap.update s2.heap.objs.size (Obj.mapSeq fun xs => xs.push u8)).get? b = some o := fun b o nb e => (Heap.get?_update_other s8.heap _ (Ne.symm nb)).trans e
      have J9 := J8.turned (t' := s8.toks) (it := s2.heap.objs.size) (h' := s8.heap.update s2.heap.objs.size (Obj.mapSeq fun xs => xs.push u8)) other pD.2.1 (by rw [hYl]; exact hDC) (.inr (by rw [hYs]; exact Nat.le_refl _))
        (fun x c e => by rw [hYc] at e; exact Nat.ne_of_lt (cellL x c e)) (fun p hp => by rw [hYp] at hp; exact Nat.ne_of_lt (pinL p hp))
      have ep : (its.toArray.push u8) = (its ++ [u8]).toArray := by simp
      obtain ⟨kk, upD⟩ : ∃ kk, (s8.heap.update s2.heap.objs.size (Obj.mapSeq fun xs => xs.push u8)).get? s2.heap.objs.size = some { cls := .type "list", data := .seq (its ++ [u8]).toArray kk } := by
        have z := PySem.IsL.update eD (fun xs => xs.push u8)
        rw [ep] at z
        exact ⟨_, z⟩
      refine ⟨m', hm, i + 1, ys ++ [v8], its ++ [u8], kk, σ7, H8, J9.pins_of fun p hp => ?_, T.keep _ _ _ tn8 fun b hb o e => other b o (Nat.ne_of_lt (fpL b hb)) e, fr8, rv.append (.cons r8 .nil), ?_, w8⟩
      · rcases List.mem_append.mp hp with z | z
        · exact J9.pin p (List.mem_append_right _ z)
        · rw [List.mem_singleton.mp z]
          exact ⟨upD, pD.2.1, by rw [hYl]; exact hDC, by rw [hYf]; exact fun z => absurd (stkL _ z) (Nat.lt_irrefl _), fun v z => by cases z⟩
      · rw [List.length_append, List.length_singleton]; omega
  exact codeAny_compStart_list (loop _ rfl) (T.self _ 0 _ _ _ (T.keep _ _ _ st2 fun b _ o e => old b o e) (loop _ rfl))
theorem z3k {X : Cx} {elt tg iter : Expr} {scope : Scope} {cl : List (Str × Addr)} {pos : Pos} {own fv : List Str} {js : List Nat} {wi : TI} {g : TG} {te : TE}
    (hc : X.calm = true) (hi : PI X tg iter wi) (hclos : closureFor scope X.env = pure cl) (hcell : ∀ y ∈ scope.names, y.2 ≠ .cell) (hkind : scope.kind = .function)
    (hnames : ∀ y ∈ scope.names, y.2 = .local -> scope.names.lookup y.1 = some .local)
    (hcl : ∀ x c, cl.lookup x = some c -> X.env.cells.lookup x = some c)
    (hhas : ∀ x, ((relabel scope X.env).names.lookup x = some .cell \/ (relabel scope X.env).names.lookup x = some .free) -> ∃ c, cl.lookup x = some c)
    (hlen : js.length = fv.length) (hcap : ∀ (i : Nat) x j, fv[i]? = some x -> js[i]? = some j -> Cap X scope cl x j)
    (hg : ∀ (C : Addr) (ex : List Addr) (s : Shared) (H : Hp), PG (cxComp X (own ++ fv) scope cl C ex s H) tg g)
    (he : ∀ (C : Addr) (ex : List Addr) (s : Shared) (H : Hp), PE (cxComp X (own ++ fv) scope cl C ex s H) elt te)
    (hs : ∀ x, foldedSetIterable iter X.env x = pure x := by intro _; rfl) :
    PE X (.ListComp elt [⟨tg, iter, [], 0⟩] scope pos) (tComp wi own.length js g te) := by
  intro pins s σ H Q I h
  rw [eval_ListComp]
  refine comp_core (use := none) (QQ := EP X pins σ Q) hc hi hclos hcell hkind hnames hcl hhas hlen hcap hg he hs I h fun a C s5 H5 fl I5 zC zL zS zc zp ⟨m, hn⟩ q => ⟨m, hn, fun h' sc => ?_⟩
  exact ⟨.ref a, H5, I5.turned (t' := s5.toks) (it := C) (fun d o nd e => sc.extBut d o nd e) zC zL (.inr zS) zc zp, rfl, q⟩
theorem comp_list {K : PySem.W.Frag} {a : Addr} {xs : List V} {g : TG} {te : TE} {Q : VK} {σ : St} {H : Hp} (Pv : Nat -> List V -> St -> Hp -> Prop) (h0 : Pv 0 [] σ H) (hl : ∀ i ys σ H, i ≤ xs.length -> Pv i ys σ H -> SqL K H a xs)
    (hs : ∀ i x ys σ H, xs[i]? = some x -> Pv i ys σ H -> ys.length < sizeLine /\ g x σ H fun σ3 H3 => te σ3 H3 fun v H4 => Pv (i + 1) (ys ++ [v]) σ3 H4) (hd : ∀ ys σ H, Pv xs.length ys σ H -> ∀ p, H p = none -> Q (.ref p) (upd H p (.lst ys))) :
    ∃ W : Nat -> Nat -> List V -> St -> Hp -> Prop, (∃ m, W 0 m [] σ H) /\ ∀ i m ys σ' H', W i m ys σ' H' ->
      ((Itl K a).stop i H' /\ ∀ p, H' p = none -> Q (.ref p) (upd H' p (.lst ys))) \/
      ((Itl K a).go i H' /\ ys.length < sizeLine /\ ∃ N : List V -> St -> Hp -> Prop, (∀ zs σ2 H2, N zs σ2 H2 -> ∃ m', m' < m /\ W (i + 1) m' zs σ2 H2) /\
        ∀ x H2, (Itl K a).yld i H' x H2 -> g x σ' H2 fun σ3 H3 => te σ3 H3 fun v H4 => N (ys ++ [v]) σ3 H4) := by
  refine ⟨fun i m ys σ H => m = xs.length - i /\ i ≤ xs.length /\ Pv i ys σ H, ⟨xs.length, by simp, Nat.zero_le _, h0⟩, ?_⟩
  rintro i m ys σ H ⟨rfl, hi, p⟩
  have q := hl i ys σ H hi p
  by_cases hlt : i < xs.length
  · have e : xs[i]? = some xs[i] := by simp [hlt]
    refine .inr ⟨⟨xs, xs[i], q, e⟩, (hs i _ ys σ H e p).1, Pv (i + 1), fun zs σ' H' p' => ⟨xs.length - (i + 1), by omega, rfl, hlt, p'⟩, fun x H' y => ?_⟩
    obtain ⟨e, y⟩ := y
    subst e
    exact (hs i x ys σ _ (y xs q) p).2
  · have e : i = xs.length := by omega
    subst e
    exact .inl ⟨⟨xs, q, Nat.le_refl _⟩, hd ys σ H p⟩
theorem comp_tup {K : PySem.W.Frag} {a : Addr} {xs : List V} {g : TG} {te : TE} {Q : VK} {σ : St} {H : Hp} (Pv : Nat -> List V -> St -> Hp -> Prop) (h0 : Pv 0 [] σ H) (hl : ∀ i ys σ H, i ≤ xs.length -> Pv i ys σ H -> SqT K H a xs)
    (hs : ∀ i x ys σ H, xs[i]? = some x -> Pv i ys σ H -> ys.length < sizeLine /\ g x σ H fun σ3 H3 => te σ3 H3 fun v H4 => Pv (i + 1) (ys ++ [v]) σ3 H4) (hd : ∀ ys σ H, Pv xs.length ys σ H -> ∀ p, H p = none -> Q (.ref p) (upd H p (.lst ys))) :
    ∃ W : Nat -> Nat -> List V -> St -> Hp -> Prop, (∃ m, W 0 m [] σ H) /\ ∀ i m ys σ' H', W i m ys σ' H' ->
      ((Itt K a).stop i H' /\ ∀ p, H' p = none -> Q (.ref p) (upd H' p (.lst ys))) \/
      ((Itt K a).go i H' /\ ys.length < sizeLine /\ ∃ N : List V -> St -> Hp -> Prop, (∀ zs σ2 H2, N zs σ2 H2 -> ∃ m', m' < m /\ W (i + 1) m' zs σ2 H2) /\
        ∀ x H2, (Itt K a).yld i H' x H2 -> g x σ' H2 fun σ3 H3 => te σ3 H3 fun v H4 => N (ys ++ [v]) σ3 H4) := by
  refine ⟨fun i m ys σ H => m = xs.length - i /\ i ≤ xs.length /\ Pv i ys σ H, ⟨xs.length, by simp, Nat.zero_le _, h0⟩, ?_⟩
  rintro i m ys σ H ⟨rfl, hi, p⟩
  have q := hl i ys σ H hi p
  by_cases hlt : i < xs.length
  · have e : xs[i]? = some xs[i] := by simp [hlt]
    refine .inr ⟨⟨xs, xs[i], q, e⟩, (hs i _ ys σ H e p).1, Pv (i + 1), fun zs σ' H' p' => ⟨xs.length - (i + 1), by omega, rfl, hlt, p'⟩, fun x H' y => ?_⟩
    obtain ⟨e, y⟩ := y
    subst e
    exact (hs i x ys σ _ (y xs q) p).2
  · have e : i = xs.length := by omega
    subst e
    exact .inl ⟨⟨xs, q, Nat.le_refl _⟩, hd ys σ H p⟩
theorem comp_range {lo : Int} {n : Nat} {g : TG} {te : TE} {Q : VK} {σ : St} {H : Hp} (Pv : Nat -> List V -> St -> Hp -> Prop) (h0 : Pv 0 [] σ H)
    (hs : ∀ i ys σ H, i < n -> Pv i ys σ H -> ys.length < sizeLine /\ g (.int (lo + i)) σ H fun σ3 H3 => te σ3 H3 fun v H4 => Pv (i + 1) (ys ++ [v]) σ3 H4) (hd : ∀ ys σ H, Pv n ys σ H -> ∀ p, H p = none -> Q (.ref p) (upd H p (.lst ys))) :
    ∃ W : Nat -> Nat -> List V -> St -> Hp -> Prop, (∃ m, W 0 m [] σ H) /\ ∀ i m ys σ' H', W i m ys σ' H' ->
      ((Itr lo n).stop i H' /\ ∀ p, H' p = none -> Q (.ref p) (upd H' p (.lst ys))) \/
      ((Itr lo n).go i H' /\ ys.length < sizeLine /\ ∃ N : List V -> St -> Hp -> Prop, (∀ zs σ2 H2, N zs σ2 H2 -> ∃ m', m' < m /\ W (i + 1) m' zs σ2 H2) /\
        ∀ x H2, (Itr lo n).yld i H' x H2 -> g x σ' H2 fun σ3 H3 => te σ3 H3 fun v H4 => N (ys ++ [v]) σ3 H4) := by
  refine ⟨fun i m ys σ H => m = n - i /\ i ≤ n /\ Pv i ys σ H, ⟨n, by simp, Nat.zero_le _, h0⟩, ?_⟩
  rintro i m ys σ H ⟨rfl, hi, p⟩
  by_cases hlt : i < n
  · refine .inr ⟨hlt, (hs i ys σ H hlt p).1, Pv (i + 1), fun zs σ' H' p' => ⟨n - (i + 1), by omega, rfl, hlt, p'⟩, fun x H' y => ?_⟩
    obtain ⟨e, y⟩ := y
    subst e y
    exact (hs i ys σ _ hlt p).2
  · have e : i = n := by omega
    subst e
    exact .inl ⟨Nat.le_refl _, hd ys σ H p⟩
theorem own_cls {K : PySem.W.Frag} {h : Heap} {gm : Str -> Option Value} {nmX : Str} {Cx' : Addr} {bmX : List Value} {nid : String} (KI : K.In h) (GN : h.Ns mainGlobals gm)
    (hn : PySem.W.nsIn K mainGlobals nmX = some (some (.ref Cx'))) (hq : PySem.W.excIn K Cx' bmX nid = true) : OwnCls nmX Cx' bmX nid gm h := by
  constructor
  · exact PySem.W.mg_of KI GN hn
  · unfold PySem.W.excIn at hq
    split at hq
    · rename_i ddx cdx slx hlk
      split at hq
      · rename_i C2 bm2 f0 f1 f2 f3 nn f5 hmro hsl0
        simp only [Bool.and_eq_true, beq_iff_eq, Bool.not_eq_true'] at hq
        obtain ⟨⟨⟨⟨⟨eC, eN⟩, hdl⟩, htl⟩, hnsok⟩, hinit⟩ := hq
        subst eC eN
        obtain ⟨c1, c2, c3, c4, c5, c6, c7, c8, c9, c10, c11⟩ := cdx
        dsimp only at hmro hdl hnsok hinit
        subst hmro hdl
        have hsl1 : slx = #[f0, f1, f2, f3, some (.builtin nn), f5] := by
          obtain ⟨lst⟩ := slx
          simp only at hsl0
          rw [hsl0]
        subst hsl1
        refine ⟨bm2, c4, c1, c5, c2, c6, c7, c8, c9, c10, ddx, f0, f1, f2, f3, f5, h.nsMap c4, KI _ _ hlk, ?_, ?_, ?_⟩
        · exact .of_isNs (PySem.W.isNs_of_in KI hnsok)
        · exact PySem.W.nsMap_none_of_in KI hnsok hinit
        · exact PySem.W.tail_of_in KI htl
      · cases hq
    · cases hq
def CX1 (P : Program) (w : World) : CXT := fun outer H s E e s' =>
  ∃ (a C : Addr) (a0 : Value) (H' : Hp) (B : Heap), e = .ref a /\ s'.os = s.os /\ AllBare s'.gens /\ Heap.FlyingW B outer a (.ref C) a0 s'.heap /\
    (∀ b o, s.heap.get? b = some o -> H b = none -> b ∉ frs outer -> B.get? b = some o) /\ (∀ b o, s.heap.get? b = some o -> b ∉ frs outer -> ∃ o', B.get? b = some o') /\
    Un (frs outer) [] H H' s.heap s'.heap /\ HOk P w H' B /\ E (.ref C) none H'
section
variable {P : Program} {w : World} {K : PySem.W.Frag} {mg : Str -> Option Value} {base : Heap} {N : List Str} {qual : Str} {scope : Scope} {f : Addr} {cd : Value} {A : Around} {outer : List Env} {s : Shared} {H : Hp} {E : XK}
theorem hok_hide {H : Hp} {h : Heap} {l : List Addr} (ok : HOk P w H h) (hl : ∀ b ∈ l, H b = none) : HOk P w H (PySem.W.hideAll h l) := fun b u e => by
  have nb : ∀ c v, H c = some v -> c ∉ l := fun c v q z => by rw [hl c z] at q; cases q
  refine (ok b u e).stay (fun c v hc q => PySem.W.hideAll_get _ q ?_) (fun _ q => q) fun _ _ q => q
  rcases hc with z | z
  · rw [z]; exact nb b u e
  · exact nb c _ z
theorem frs_in {l : List Env} : ∀ env ∈ l, ∀ b, env.frame = some b -> b ∈ frs l := fun env he b hb => List.mem_filterMap.mpr ⟨env, he, hb⟩
theorem z2c : Passes (CX1 P w) (cxOf (CX1 P w) P w K mg base N qual scope f cd A outer s H E) E := by
  intro pins σ H1 s1 e s' I hx
  obtain ⟨a, C, a0, H', B, rfl, os, bare, fl, inB, thB, un, okB, hE⟩ := hx
  have hfr : (cxOf (CX1 P w) P w K mg base N qual scope f cd A outer s H E).A.frames = some (envOfC qual scope s.heap.objs.size f cd :: outer) := I.ok.frames
  refine wpAny_leaves_onW hfr rfl fl fun h'' fl'' up'' => ?_
  have Bs : ∀ b o, B.get? b = some o -> h''.get? b = some o := fl''.1
  have ub : Un (frs outer) [] H H1 s.heap s1.heap := I.base
  have stk : ∀ b, b ∉ frs outer -> b < s.heap.objs.size -> b ∉ frs (envOfC qual scope s.heap.objs.size f cd :: outer) := fun b hb hlt z => by
    rcases List.mem_cons.mp (I.stkSub b z) with q | q
    · have q : b = s.heap.objs.size := q
      exact Nat.lt_irrefl _ (q ▸ hlt)
    · exact hb q
  have inB' : ∀ b o, s.heap.get? b = some o -> H b = none -> b ∉ frs outer -> B.get? b = some o := fun b o e n hb =>
    inB b o (ub.keep b o e n hb (by simp)) (ub.free b o e n (by simp)) (stk b hb (Heap.lt_size e))
  have thB' : ∀ b o, s.heap.get? b = some o -> b ∉ frs outer -> ∃ o', B.get? b = some o' := fun b o e hb => by
    obtain ⟨o1, e1⟩ := ub.there b o e (by simp)
    exact thB b o1 e1 (stk b hb (Heap.lt_size e))
  have sub : ∀ b, b ∈ frs outer -> b ∈ frs (envOfC qual scope s.heap.objs.size f cd :: outer) := fun b hb => List.mem_cons_of_mem _ hb
  have slot : ∀ b o, s.heap.get? b = some o -> H b = none -> b ∈ frs outer -> ∃ sl, h''.get? b = some { o with slots := sl } := fun b o e n hb => by
    obtain ⟨sl1, e1⟩ := ub.slot b o e n hb (by simp)
    obtain ⟨sl2, e2⟩ := un.slot b _ e1 (ub.free b o e n (by simp)) (sub b hb) (by simp)
    obtain ⟨_, o3, e3, nf⟩ := I.ok.funs.mem hb
    have e3 : s.heap.get? b = some o3 := e3
    rw [e] at e3; cases e3
    obtain ⟨sl3, e4⟩ := up'' b _ e2 nf
    exact ⟨sl3, e4⟩
  have frf : ∀ b ∈ frs outer, H b = none := I.ok.frf
  refine ⟨a, C, a0, H', B, rfl, os.trans I.os, bare, fl'', inB', thB', ⟨fun b o e n hb _ => Bs _ _ (inB' b o e n hb), fun b o e n hb _ => slot b o e n hb, fun b o e n _ => ?_, fun b o e _ => ?_,
    fun b xs e => un.tups b xs (ub.tups b xs e), fun b o u e => un.frzs b o u (ub.frzs b o u e), fun b ps e => ?_⟩, okB, hE⟩
  · obtain ⟨o1, e1⟩ := ub.there b o e (by simp)
    exact un.free b o1 e1 (ub.free b o e n (by simp)) (by simp)
  · by_cases hb : b ∈ frs outer
    · obtain ⟨sl, q⟩ := slot b o e (frf b hb) hb
      exact ⟨_, q⟩
    · obtain ⟨o', q⟩ := thB' b o e hb
      exact ⟨o', Bs _ _ q⟩
  · obtain ⟨m1, q1⟩ := ub.tbls b ps e
    obtain ⟨m2, q2⟩ := un.tbls b _ q1
    exact ⟨m1 ++ m2, by rw [q2, Array.append_assoc]⟩
def RaisesTo (X : Cx) (Ex : Value -> Hp -> Prop) : Prop := ∀ (pins : List (Addr × Obj)) (σ : St) (H : Hp) (s : Shared) (h' : Heap) (e C : Addr) (vs : List Value), Inv X pins σ H s -> Heap.MadeExcOf s.heap h' e (.ref C) vs -> Ex (.ref C) H -> X.xe (.ref e) { s with heap := h' }
theorem z2a : RaisesTo (cxOf (CX1 P w) P w K mg base N qual scope f cd A outer s H E) (fun c H' => E c none H') := by
  intro pins σ H1 s1 h' e C vs I hm hE
  have hfr : (cxOf (CX1 P w) P w K mg base N qual scope f cd A outer s H E).A.frames = some (envOfC qual scope s.heap.objs.size f cd :: outer) := I.ok.frames
  have st : s1.heap.FunFrames base (envOfC qual scope s.heap.objs.size f cd :: outer) := I.stack
  refine wpAny_leaves_madeW (base := PySem.W.hideAll s1.heap (frs (envOfC qual scope s.heap.objs.size f cd :: outer))) hfr rfl (fun b o q => PySem.W.of_hideAll _ q) (PySem.W.funFrames_hide st frs_in) hm fun h'' t fl'' tp nt up'' => ?_
  have ub : Un (frs outer) [] H H1 s.heap s1.heap := I.base
  have Bs := fl''.1
  have stk : ∀ b, b ∉ frs outer -> b < s.heap.objs.size -> b ∉ frs (envOfC qual scope s.heap.objs.size f cd :: outer) := fun b hb hlt z => by
    rcases List.mem_cons.mp (I.stkSub b z) with q | q
    · have q : b = s.heap.objs.size := q
      exact Nat.lt_irrefl _ (q ▸ hlt)
    · exact hb q
  have inB' : ∀ b o, s.heap.get? b = some o -> H b = none -> b ∉ frs outer -> (PySem.W.hideAll s1.heap (frs (envOfC qual scope s.heap.objs.size f cd :: outer))).get? b = some o := fun b o e n hb =>
    PySem.W.hideAll_get _ (ub.keep b o e n hb (by simp)) (stk b hb (Heap.lt_size e))
  have thB' : ∀ b o, s.heap.get? b = some o -> b ∉ frs outer -> ∃ o', (PySem.W.hideAll s1.heap (frs (envOfC qual scope s.heap.objs.size f cd :: outer))).get? b = some o' := fun b o e hb => by
    obtain ⟨o1, e1⟩ := ub.there b o e (by simp)
    exact ⟨o1, PySem.W.hideAll_get _ e1 (stk b hb (Heap.lt_size e))⟩
  have slot : ∀ b o, s.heap.get? b = some o -> H b = none -> b ∈ frs outer -> ∃ sl, h''.get? b = some { o with slots := sl } := fun b o e n hb => by
    obtain ⟨sl1, e1⟩ := ub.slot b o e n hb (by simp)
    obtain ⟨_, o3, e3, nf⟩ := I.ok.funs.mem hb
    have e3 : s.heap.get? b = some o3 := e3
    rw [e] at e3; cases e3
    obtain ⟨sl3, e4⟩ := up'' b _ (hm.keeps _ _ e1) nf
    exact ⟨sl3, e4⟩
  have frf : ∀ b ∈ frs outer, H b = none := I.ok.frf
  refine ⟨e, C, .ref t, H1, _, rfl, I.os, I.bare, fl'', inB', thB', ⟨fun b o e n hb _ => Bs _ _ (inB' b o e n hb), fun b o e n hb _ => slot b o e n hb, fun b o e n _ => ub.free b o e n (by simp), fun b o e _ => ?_,
    ub.tups, ub.frzs, ub.tbls⟩, hok_hide I.hok I.stkFree, hE⟩
  by_cases hb : b ∈ frs outer
  · obtain ⟨sl, q⟩ := slot b o e (frf b hb) hb
    exact ⟨_, q⟩
  · obtain ⟨o', q⟩ := thB' b o e hb
    exact ⟨o', Bs _ _ q⟩
end
def tRaise (C : Addr) (Ex : Value -> Hp -> Prop) (t : TA) : TS := fun _ σ H => t σ H fun vs H1 => vs.length ≤ sizeLine /\ Ex (.ref C) H1
theorem z1w {X : Cx} {x : Str} {C : Addr} {B newId initId : String} {bm : List Value} {np cpos pos : Pos} {e₀ : Expr} {es : List Expr} {t : TA} {Ex : Value -> Hp -> Prop}
    (FB : ExcBaseFacts B newId initId bm) (hc : X.calm = true) (hg : Gl X x) (hn : PySem.W.nsIn X.K mainGlobals x = some (some (.ref C))) (hq : PySem.W.excIn X.K C bm newId = true) (hx : RaisesTo X Ex) (ha : PA X (e₀ :: es) t)
    (hs : starEach (e₀ :: es) X.env = (false, eval e₀ X.env) :: starEach es X.env := by rfl) (hpl : (backTo cpos (starEach es X.env)).any (·.1) = false := by rfl) (hd : (x == ("__debug__" : Str)) = false := by decide) :
    PS X (.Raise (some (.Call (.Name x np) (e₀ :: es) [] cpos)) none pos) (tRaise C Ex t) := by
  intro pins s σ H D I h
  have O := own_cls I.ok.mod.kin I.ok.mod.glob hn hq
  obtain ⟨tl, Nn, n1, q1, b1, d1, m1, u1, a1, l1, dd1, j0, j1, j2, j3, j5, mN, hC, hN, hni, T⟩ := O.obj
  refine wpAny_Raise_call_subT (C := C) (nm := n1) (q := q1) (N := Nn) (bs := b1) (bm := tl) (hdct := d1) (sn := m1) (sub := u1) (ab := a1) (col := l1) (dd := dd1) (k0 := j0) (k1 := j1) (k2 := j2) (k3 := j3) (k5 := j5) (mN := mN)
    FB (T.hasType FB.hasBase) (I.ok.hd hc) (by rw [hs]; show (false || (backTo cpos (starEach es X.env)).any (·.1)) = false; rw [hpl]; rfl) hni (ld_glob I hg O.bound ⟨rfl, ?_⟩ hd)
  have hA := ha cpos pins s σ H _ I h
  rw [hs] at hA ⊢
  refine Calls.evalArgs_plain (thn hA fun us s2 ⟨vs, H2, I2, r2, hz, hE⟩ => ⟨rfl, ?_, I2.bk _ _ hC, hN.keeps I2.bk, T.keeps I2.bk, fun h' e hm => hx pins σ H2 s2 h' e C us I2 hm hE⟩)
  show us.length ≤ sizeLine
  rw [← r2.length]
  exact hz
section
variable {P : Program} {w : World} {K : PySem.W.Frag} {mg : Str -> Option Value} {base : Heap}
theorem Fun.okX {x qual : Str} {st : Stmt} {f : Addr} {fd : FuncData} {N ps : List Str} {k : Nat} {sp : Sp} (F : Fun K x qual st f fd) (S : FnScope N ps (defScope st)) (len : ∀ vs H Q E, sp vs H Q E -> vs.length = ps.length)
    (hbody : ∀ (cdv : Value) (A : Around) (outer : List Env) (s : Shared) (H : Hp) (vs : List V) (Q : VK) (E : XK), Room k (A.deeper (envOfC qual (defScope st) s.heap.objs.size f cdv)) -> sp vs H Q E ->
      ∃ t, PSs (cxOf (CX1 P w) P w K mg base N qual (defScope st) f cdv A outer s H E) (defBody st) t /\ t { nx := fun _ H' => Q .non H', rt := Q } (start N vs) H) : FnOk P w K mg base (CX1 P w) (k + 1) f fd ps sp := by
  obtain ⟨oc, od, kV, doc, pm, an, cdv, ct, osl, rfl, lk, hcd⟩ := F.ex
  exact fn_of lk hcd S len fun A outer s H vs Q E hr hsp => hbody cdv A outer s H vs Q E hr hsp
theorem FnOk.up {k : Nat} {f : Addr} {fd : FuncData} {ps : List Str} {sp : Sp} (F : FnOk P w K mg base CX0 k f fd ps sp) : FnOk P w K mg base (CX1 P w) k f fd ps sp :=
  ⟨F.len, fun A outer s H args us vs Q E h1 h2 h3 h4 h5 => codeAny_mono (F.run A outer s H args us vs Q E h1 h2 h3 h4 h5) fun r s' q => by
    cases r with
    | error e => exact False.elim q
    | ok fl => cases fl <;> exact q⟩
end
theorem z2s {P : Program} {w : World} {X : Cx} : Passes (CX1 P w) X E0 := fun _ _ _ _ _ _ _ h => by
  obtain ⟨_, _, _, _, _, _, _, _, _, _, _, _, _, q⟩ := h
  exact q.elim
def ExcO (a C : Addr) : HO := .ext fun h => ∃ o vs, h.get? a = some o /\ o.cls = .ref C /\ o.data = .fields vs
section
variable {X : Cx} {pins : List (Addr × Obj)} {σ : St} {H : Hp} {s : Shared}
theorem Inv.track {a : Addr} {o : HO} (I : Inv X pins σ H s) (hn : H a = none) (new : ObjOk X.prog X.w (upd H a o) s.heap a o) (h1 : a ≠ X.env.locals) (h2 : ∀ x c, X.env.cells.lookup x = some c -> c ≠ a) (h3 : ∀ p ∈ X.pn ++ pins, p.1 ≠ a)
    (h4 : X.s₀.heap.get? a = none) : Inv X pins σ (upd H a o) s := by
  have ne : ∀ b u, H b = some u -> b ≠ a := fun b u e z => by rw [z, hn] at e; cases e
  have n0 : ∀ b u, X.s₀.heap.get? b = some u -> b ≠ a := fun b u e z => by rw [z, h4] at e; cases e
  refine ⟨I.ok, I.os, I.bare, ⟨I.base.keep, I.base.slot, fun b u e n hx => ?_, I.base.there, fun b xs e => ?_, fun b u v e => ?_, fun b ps e => ?_⟩, I.loc, I.cell, ?_, fun x c e => ?_, fun p hp => ?_, fun b u e => ?_, I.len⟩
  · rw [z0x (n0 b u e)]; exact I.base.free b u e n hx
  · have q := I.base.tups b xs e
    rw [z0x (ne b _ q)]; exact q
  · have q := I.base.frzs b u v e
    rw [z0x (ne b _ q)]; exact q
  · obtain ⟨more, q⟩ := I.base.tbls b ps e
    exact ⟨more, by rw [z0x (ne b _ q)]; exact q⟩
  · rw [z0x (Ne.symm h1)]; exact I.free
  · rw [z0x (h2 x c e)]; exact I.freeC x c e
  · obtain ⟨e, n, ne, nf, d⟩ := I.pin p hp
    exact ⟨e, by rw [z0x (h3 p hp)]; exact n, ne, nf, d⟩
  · by_cases hb : b = a
    · subst hb; rw [z0k] at e; cases e; exact new
    · rw [z0x hb] at e
      exact (I.hok b u e).stay (fun c v _ q => q) (fun c q => by rw [z0x (ne c _ q)]; exact q) fun c xs q => by rw [z0x (ne c _ q)]; exact q
end
abbrev Cx.more (X : Cx) (xe : Value -> Shared -> Prop) (pn : List (Addr × Obj)) : Cx := { X with xe := xe, pn := pn }
theorem Cx.Ok.more {X : Cx} (ok : X.Ok) (xe : Value -> Shared -> Prop) (pn : List (Addr × Obj)) : (X.more xe pn).Ok :=
  ⟨ok.mod, ok.kind, ok.glob, ok.blt, ok.above, ok.inj, ok.has, ok.cab, ok.hd, ok.frames, ok.stk, ok.exf, ok.bs, ok.bsz, ok.noex, ok.exfs, ok.funs, ok.frf⟩
section
variable {X : Cx} {CX : CXT} {k : Nat} {f : Addr} {fd : FuncData} {ps : List Str} {sp : Sp} {dvs : List V} {ds : List Value} {EE : St -> XK} {x : Str} {p pos : Pos} {e : Expr} {es : List Expr} {t : TA}
def tCallX (sp : Sp) (dvs : List V) (EE : St -> XK) (t : TA) : TE := fun σ H Q => t σ H fun vs H1 => sp (vs ++ dvs) H1 Q (EE σ)
end
def goneEnds (D : Ends) (i : Nat) : Ends := { nx := fun σ H => D.nx (σ.set i none) H, rt := D.rt, bk := fun σ H => D.bk (σ.set i none) H, ct := fun σ H => D.ct (σ.set i none) H }
def caughtBy (C : Addr) (i : Nat) (ts : TS) (D : Ends) : St -> XK := fun σ1 cls _ H1 => cls = .ref C /\ ∀ a, H1 a = none -> ts (goneEnds D i) (σ1.set i (some (.ref a))) (upd H1 a (ExcO a C))
def tTry (C : Addr) (i : Nat) (tb : (St -> XK) -> TS) (ts : TS) : TS := fun D σ H => tb (caughtBy C i ts D) D σ H
structure Callee (P : Program) (w : World) (K : PySem.W.Frag) (mg : Str -> Option Value) (base : Heap) (CX : CXT) (k : Nat) (x : Str) (ps : List Str) (sp : Sp) : Prop where
  has : ∃ (f : Addr) (fd : FuncData), FnOk P w K mg base CX k f fd ps sp /\ mg x = some (.ref f) /\ PySem.W.keepIn K (.ref f) = true /\ Binds K fd ps []
theorem Callee.mk' {P : Program} {w : World} {K : PySem.W.Frag} {mg : Str -> Option Value} {base : Heap} {CX : CXT} {k : Nat} {x qual : Str} {st : Stmt} {f : Addr} {fd : FuncData} {ps : List Str} {sp : Sp} (F : Fun K x qual st f fd) (m : mg x = some (.ref f)) (b : Binds K fd ps [])
    (ok : FnOk P w K mg base CX k f fd ps sp) : Callee P w K mg base CX k x ps sp := ⟨⟨f, fd, ok, m, F.kp, b⟩⟩
theorem Callee.mono {P : Program} {w : World} {K : PySem.W.Frag} {mg : Str -> Option Value} {base : Heap} {CX : CXT} {j k : Nat} {x : Str} {ps : List Str} {sp : Sp} (c : Callee P w K mg base CX j x ps sp) (h : j ≤ k) : Callee P w K mg base CX k x ps sp :=
  let ⟨f, fd, ok, m, kp, b⟩ := c.has; ⟨⟨f, fd, ok.mono h, m, kp, b⟩⟩
section
variable {X : Cx} {CX : CXT} {k : Nat} {ps : List Str} {sp : Sp} {E : XK} {x : Str} {p pos : Pos} {e : Expr} {es : List Expr} {t : TA}
theorem z0u (c : Callee X.prog X.w X.K X.mg X.base CX k x ps sp) (hr : Room k X.A) (hg : Gl X x) (hx : Passes CX X E) (ha : PA X (e :: es) t) (hdb : (x == ("__debug__" : Str)) = false := by decide)
    (he : starEach (e :: es) X.env = (false, eval e X.env) :: starEach es X.env := by rfl) (hpl : (backTo pos (starEach es X.env)).any (·.1) = false := by rfl) : PE X (.Call (.Name x p) (e :: es) [] pos) (tCall sp [] E t) := by
  obtain ⟨f, fd, ok, m, kp, b⟩ := c.has
  exact pe_call ok hr hg m kp b .nil hx ha hdb he hpl
theorem call_isi : CallR X (.builtin "isinstance") (fun xs H Q => ∃ x n t b, xs = [x, .ty n] /\ TyOf X.K H x t /\ PySem.W.kitOne X.K t (.type n) = some b /\ Q (.bl b) H) := by
  intro pins s σ H xs us Q I r h
  obtain ⟨x, n, t, b, rfl, ty, e, q⟩ := h
  obtain ⟨u, w', rfl, rx, ry⟩ := vals2 r
  cases (show w' = Value.type n from ry)
  exact isinst_ok I rx ty e fun tk => ⟨.bl b, H, I.tok tk, rfl, q⟩
end
theorem z5g {scope : Scope} {env : Env} (hfree : ∀ y ∈ scope.names, y.2 ≠ .free) : (relabel scope env).names = scope.names := by
  show scope.names.map _ = scope.names
  have all : ∀ l : List (Str × NameKind), (∀ y ∈ l, y.2 ≠ .free) -> (l.map fun (x : Str × NameKind) => match x with | (n, k) => if (k == .free && env.scope.kind == .function && env.kindOf n == some .cell) then (n, .cell) else (n, k)) = l := by
    intro l
    induction l with
    | nil => intro _; rfl
    | cons y r ih =>
      intro hy
      obtain ⟨n, k⟩ := y
      have hk : (k == NameKind.free) = false := by simpa using hy (n, k) (List.mem_cons_self ..)
      rw [List.map_cons, ih fun z hz => hy z (List.mem_cons_of_mem _ hz)]
      simp [hk]
  exact all _ hfree
theorem z3j {X : Cx} {elt tg iter : Expr} {scope : Scope} {pos : Pos} {own : List Str} {wi : TI} {g : TG} {te : TE}
    (hc : X.calm = true) (hi : PI X tg iter wi) (hcell : ∀ y ∈ scope.names, y.2 ≠ .cell) (hfree : ∀ y ∈ scope.names, y.2 ≠ .free) (hkind : scope.kind = .function)
    (hnames : ∀ y ∈ scope.names, y.2 = .local -> scope.names.lookup y.1 = some .local)
    (hg : ∀ (C : Addr) (ex : List Addr) (s : Shared) (H : Hp), PG (cxComp X own scope [] C ex s H) tg g)
    (he : ∀ (C : Addr) (ex : List Addr) (s : Shared) (H : Hp), PE (cxComp X own scope [] C ex s H) elt te)
    (hs : ∀ x, foldedSetIterable iter X.env x = pure x := by intro _; rfl) :
    PE X (.ListComp elt [⟨tg, iter, [], 0⟩] scope pos) (tComp wi own.length [] g te) := by
  refine z3k (own := own) (fv := []) (js := []) (cl := []) hc hi (closureFor_none hfree) hcell hkind hnames (fun x c h => by cases h) (fun x h => ?_) rfl (fun i x j h => by simp at h) (by simpa using hg) (by simpa using he) hs
  rw [z5g hfree] at h
  rcases h with h | h
  · exact absurd rfl (hcell _ (PySem.mem_of_lookup h))
  · exact absurd rfl (hfree _ (PySem.mem_of_lookup h))
def CDivW (i j : Int) : Prop := j ≠ 0 /\ -18446744073709551616 < j /\ j < 18446744073709551616
theorem log_small {y : Int} (h0 : -18446744073709551616 < y) (h1 : y < 18446744073709551616) : y.natAbs.log2 < 9000 := by
  by_cases z : y.natAbs = 0
  · rw [z]; decide
  · exact Nat.lt_of_lt_of_le ((Nat.log2_lt z).mpr (show y.natAbs < 2 ^ 64 by omega)) (by decide)
theorem z2w {X : Cx} : OpR X (binaryOp .FloorDiv) (rI CDivW fun i j => .int (i.fdiv j)) := opI fun _ _ _ _ _ _ _ hc q => floordiv_int hc.1 q (.inl (PyProof.noPylong_of_log2 (log_small hc.2.1 hc.2.2)))
section
variable {K : PySem.W.Frag}
def LoopL (K : PySem.W.Frag) (g : TG) (tb : TS) (D : Ends) (σ : St) (x : V) (H1 : Hp) : Prop := ∃ a, x = .ref a /\ (∃ xs, SqL K H1 a xs) /\ ∃ W : Nat -> Nat -> St -> Hp -> Prop, (∃ m, W 0 m σ H1) /\ ∀ i m σ H, W i m σ H ->
  ((Itl K a).stop i H /\ D.nx σ H) \/ ((Itl K a).go i H /\ ∃ N : St -> Hp -> Prop, (∀ σ' H', N σ' H' -> ∃ m', m' < m /\ W (i + 1) m' σ' H') /\ ∀ x H', (Itl K a).yld i H x H' -> g x σ H' fun σ2 H2 => tb { D with nx := N, ct := N, bk := D.nx } σ2 H2)
def LoopT (K : PySem.W.Frag) (g : TG) (tb : TS) (D : Ends) (σ : St) (x : V) (H1 : Hp) : Prop := ∃ a, x = .ref a /\ (∃ xs, SqT K H1 a xs) /\ ∃ W : Nat -> Nat -> St -> Hp -> Prop, (∃ m, W 0 m σ H1) /\ ∀ i m σ H, W i m σ H ->
  ((Itt K a).stop i H /\ D.nx σ H) \/ ((Itt K a).go i H /\ ∃ N : St -> Hp -> Prop, (∀ σ' H', N σ' H' -> ∃ m', m' < m /\ W (i + 1) m' σ' H') /\ ∀ x H', (Itt K a).yld i H x H' -> g x σ H' fun σ2 H2 => tb { D with nx := N, ct := N, bk := D.nx } σ2 H2)
def LoopR (lo : Int) (n : Nat) (g : TG) (tb : TS) (D : Ends) (σ : St) (H1 : Hp) : Prop := ∃ W : Nat -> Nat -> St -> Hp -> Prop, (∃ m, W 0 m σ H1) /\ ∀ i m σ H, W i m σ H ->
  ((Itr lo n).stop i H /\ D.nx σ H) \/ ((Itr lo n).go i H /\ ∃ N : St -> Hp -> Prop, (∀ σ' H', N σ' H' -> ∃ m', m' < m /\ W (i + 1) m' σ' H') /\ ∀ x H', (Itr lo n).yld i H x H' -> g x σ H' fun σ2 H2 => tb { D with nx := N, ct := N, bk := D.nx } σ2 H2)
theorem for_eqL {te : TE} {g : TG} {tb : TS} {D : Ends} {σ : St} {H : Hp} : tFor (iList K te) g tb D σ H = te σ H fun x H1 => LoopL K g tb D σ x H1 := rfl
theorem for_eqT {te : TE} {g : TG} {tb : TS} {D : Ends} {σ : St} {H : Hp} : tFor (iTup K te) g tb D σ H = te σ H fun x H1 => LoopT K g tb D σ x H1 := rfl
theorem for_eqR1 {ta : TA} {g : TG} {tb : TS} {D : Ends} {σ : St} {H : Hp} : tFor (iRng1 ta) g tb D σ H = ta σ H fun vs H1 => ∃ j : Int, vs = [.int j] /\ -(2 ^ 62) ≤ j /\ j < 2 ^ 62 /\ LoopR 0 j.toNat g tb D σ H1 := rfl
theorem for_eqR2 {ta : TA} {g : TG} {tb : TS} {D : Ends} {σ : St} {H : Hp} : tFor (iRng2 ta) g tb D σ H = ta σ H fun vs H1 => ∃ i j : Int, vs = [.int i, .int j] /\ (-(2 ^ 62) ≤ i /\ i < 2 ^ 62 /\ -(2 ^ 62) ≤ j /\ j < 2 ^ 62) /\ LoopR i (j - i).toNat g tb D σ H1 := rfl
theorem LoopL.mk {a : Addr} {xs : List V} {g : TG} {tb : TS} {D : Ends} {σ : St} {H : Hp} (hS : SqL K H a xs) (Pv : Nat -> St -> Hp -> Prop) (h0 : Pv 0 σ H) (hl : ∀ i σ H, i ≤ xs.length -> Pv i σ H -> SqL K H a xs)
    (hs : ∀ i x σ H, xs[i]? = some x -> Pv i σ H -> g x σ H fun σ2 H2 => tb { D with nx := Pv (i + 1), ct := Pv (i + 1), bk := D.nx } σ2 H2) (hd : ∀ σ H, Pv xs.length σ H -> D.nx σ H) : LoopL K g tb D σ (.ref a) H := ⟨a, rfl, ⟨xs, hS⟩, for_list Pv h0 hl hs hd⟩
theorem LoopT.mk {a : Addr} {xs : List V} {g : TG} {tb : TS} {D : Ends} {σ : St} {H : Hp} (hS : SqT K H a xs) (Pv : Nat -> St -> Hp -> Prop) (h0 : Pv 0 σ H) (hl : ∀ i σ H, i ≤ xs.length -> Pv i σ H -> SqT K H a xs)
    (hs : ∀ i x σ H, xs[i]? = some x -> Pv i σ H -> g x σ H fun σ2 H2 => tb { D with nx := Pv (i + 1), ct := Pv (i + 1), bk := D.nx } σ2 H2) (hd : ∀ σ H, Pv xs.length σ H -> D.nx σ H) : LoopT K g tb D σ (.ref a) H := ⟨a, rfl, ⟨xs, hS⟩, for_tup Pv h0 hl hs hd⟩
theorem LoopR.mk {lo : Int} {n : Nat} {g : TG} {tb : TS} {D : Ends} {σ : St} {H : Hp} (Pv : Nat -> St -> Hp -> Prop) (h0 : Pv 0 σ H)
    (hs : ∀ i σ H, i < n -> Pv i σ H -> g (.int (lo + i)) σ H fun σ2 H2 => tb { D with nx := Pv (i + 1), ct := Pv (i + 1), bk := D.nx } σ2 H2) (hd : ∀ σ H, Pv n σ H -> D.nx σ H) : LoopR lo n g tb D σ H := for_range Pv h0 hs hd
def CompL (K : PySem.W.Frag) (k : Nat) (js : List Nat) (g : TG) (te : TE) (σ : St) (x : V) (H1 : Hp) (Q : VK) : Prop := ∃ a, x = .ref a /\ (∃ xs, SqL K H1 a xs) /\ ∃ W : Nat -> Nat -> List V -> St -> Hp -> Prop, (∃ m, W 0 m [] (compSt k js σ) H1) /\ ∀ i m ys σ' H', W i m ys σ' H' ->
    ((Itl K a).stop i H' /\ ∀ p, H' p = none -> Q (.ref p) (upd H' p (.lst ys))) \/
    ((Itl K a).go i H' /\ ys.length < sizeLine /\ ∃ N : List V -> St -> Hp -> Prop, (∀ zs σ2 H2, N zs σ2 H2 -> ∃ m', m' < m /\ W (i + 1) m' zs σ2 H2) /\ ∀ x H2, (Itl K a).yld i H' x H2 -> g x σ' H2 fun σ3 H3 => te σ3 H3 fun v H4 => N (ys ++ [v]) σ3 H4)
def CompT (K : PySem.W.Frag) (k : Nat) (js : List Nat) (g : TG) (te : TE) (σ : St) (x : V) (H1 : Hp) (Q : VK) : Prop := ∃ a, x = .ref a /\ (∃ xs, SqT K H1 a xs) /\ ∃ W : Nat -> Nat -> List V -> St -> Hp -> Prop, (∃ m, W 0 m [] (compSt k js σ) H1) /\ ∀ i m ys σ' H', W i m ys σ' H' ->
    ((Itt K a).stop i H' /\ ∀ p, H' p = none -> Q (.ref p) (upd H' p (.lst ys))) \/
    ((Itt K a).go i H' /\ ys.length < sizeLine /\ ∃ N : List V -> St -> Hp -> Prop, (∀ zs σ2 H2, N zs σ2 H2 -> ∃ m', m' < m /\ W (i + 1) m' zs σ2 H2) /\ ∀ x H2, (Itt K a).yld i H' x H2 -> g x σ' H2 fun σ3 H3 => te σ3 H3 fun v H4 => N (ys ++ [v]) σ3 H4)
def CompR (lo : Int) (n k : Nat) (js : List Nat) (g : TG) (te : TE) (σ : St) (H1 : Hp) (Q : VK) : Prop := ∃ W : Nat -> Nat -> List V -> St -> Hp -> Prop, (∃ m, W 0 m [] (compSt k js σ) H1) /\ ∀ i m ys σ' H', W i m ys σ' H' ->
    ((Itr lo n).stop i H' /\ ∀ p, H' p = none -> Q (.ref p) (upd H' p (.lst ys))) \/
    ((Itr lo n).go i H' /\ ys.length < sizeLine /\ ∃ N : List V -> St -> Hp -> Prop, (∀ zs σ2 H2, N zs σ2 H2 -> ∃ m', m' < m /\ W (i + 1) m' zs σ2 H2) /\ ∀ x H2, (Itr lo n).yld i H' x H2 -> g x σ' H2 fun σ3 H3 => te σ3 H3 fun v H4 => N (ys ++ [v]) σ3 H4)
theorem comp_eqL {k : Nat} {js : List Nat} {ti : TE} {g : TG} {te : TE} {σ : St} {H : Hp} {Q : VK} : tComp (iList K ti) k js g te σ H Q = ti σ H fun x H1 => CompL K k js g te σ x H1 Q := rfl
theorem comp_eqT {k : Nat} {js : List Nat} {ti : TE} {g : TG} {te : TE} {σ : St} {H : Hp} {Q : VK} : tComp (iTup K ti) k js g te σ H Q = ti σ H fun x H1 => CompT K k js g te σ x H1 Q := rfl
theorem comp_eqR1 {k : Nat} {js : List Nat} {ta : TA} {g : TG} {te : TE} {σ : St} {H : Hp} {Q : VK} : tComp (iRng1 ta) k js g te σ H Q = ta σ H fun vs H1 => ∃ j : Int, vs = [.int j] /\ -(2 ^ 62) ≤ j /\ j < 2 ^ 62 /\ CompR 0 j.toNat k js g te σ H1 Q := rfl
theorem CompL.mk {a : Addr} {xs : List V} {k : Nat} {js : List Nat} {g : TG} {te : TE} {Q : VK} {σ : St} {H : Hp} (hS : SqL K H a xs) (Pv : Nat -> List V -> St -> Hp -> Prop) (h0 : Pv 0 [] (compSt k js σ) H) (hl : ∀ i ys σ H, i ≤ xs.length -> Pv i ys σ H -> SqL K H a xs)
    (hs : ∀ i x ys σ H, xs[i]? = some x -> Pv i ys σ H -> ys.length < sizeLine /\ g x σ H fun σ3 H3 => te σ3 H3 fun v H4 => Pv (i + 1) (ys ++ [v]) σ3 H4) (hd : ∀ ys σ H, Pv xs.length ys σ H -> ∀ p, H p = none -> Q (.ref p) (upd H p (.lst ys))) :
    CompL K k js g te σ (.ref a) H Q := ⟨a, rfl, ⟨xs, hS⟩, comp_list Pv h0 hl hs hd⟩
theorem CompT.mk {a : Addr} {xs : List V} {k : Nat} {js : List Nat} {g : TG} {te : TE} {Q : VK} {σ : St} {H : Hp} (hS : SqT K H a xs) (Pv : Nat -> List V -> St -> Hp -> Prop) (h0 : Pv 0 [] (compSt k js σ) H) (hl : ∀ i ys σ H, i ≤ xs.length -> Pv i ys σ H -> SqT K H a xs)
    (hs : ∀ i x ys σ H, xs[i]? = some x -> Pv i ys σ H -> ys.length < sizeLine /\ g x σ H fun σ3 H3 => te σ3 H3 fun v H4 => Pv (i + 1) (ys ++ [v]) σ3 H4) (hd : ∀ ys σ H, Pv xs.length ys σ H -> ∀ p, H p = none -> Q (.ref p) (upd H p (.lst ys))) :
    CompT K k js g te σ (.ref a) H Q := ⟨a, rfl, ⟨xs, hS⟩, comp_tup Pv h0 hl hs hd⟩
theorem CompR.mk {lo : Int} {n k : Nat} {js : List Nat} {g : TG} {te : TE} {Q : VK} {σ : St} {H : Hp} (Pv : Nat -> List V -> St -> Hp -> Prop) (h0 : Pv 0 [] (compSt k js σ) H)
    (hs : ∀ i ys σ H, i < n -> Pv i ys σ H -> ys.length < sizeLine /\ g (.int (lo + i)) σ H fun σ3 H3 => te σ3 H3 fun v H4 => Pv (i + 1) (ys ++ [v]) σ3 H4) (hd : ∀ ys σ H, Pv n ys σ H -> ∀ p, H p = none -> Q (.ref p) (upd H p (.lst ys))) :
    CompR lo n k js g te σ H Q := comp_range Pv h0 hs hd
end
theorem cxOf_K {CX : CXT} {P : Program} {w : World} {K : PySem.W.Frag} {mg : Str -> Option Value} {base : Heap} {N : List Str} {qual : Str} {scope : Scope} {f : Addr} {cd : Value} {A : Around} {outer : List Env} {s : Shared} {H : Hp} {E : XK} : (cxOf CX P w K mg base N qual scope f cd A outer s H E).K = K := rfl
theorem cxComp_K {X : Cx} {N : List Str} {scope : Scope} {cl : List (Str × Addr)} {C : Addr} {ex : List Addr} {s : Shared} {H : Hp} : (cxComp X N scope cl C ex s H).K = X.K := rfl
def tyS : V -> Option String
  | .int _ => some "int"
  | .bl _ => some "bool"
  | .str _ => some "str"
  | .non => some "NoneType"
  | _ => none
def isiN (t n : String) : Bool := t == n || (t == "bool" && n == "int")
def isiB (x : V) (n : String) : Bool := match tyS x with
  | some t => isiN t n
  | none => false
theorem isi_ii {i : Int} : isiB (.int i) "int" = true := by show isiN "int" "int" = true; decide +kernel
theorem isi_ib {i : Int} : isiB (.int i) "bool" = false := by show isiN "int" "bool" = false; decide +kernel
theorem isi_bi {b : Bool} : isiB (.bl b) "int" = true := by show isiN "bool" "int" = true; decide +kernel
theorem isi_bb {b : Bool} : isiB (.bl b) "bool" = true := by show isiN "bool" "bool" = true; decide +kernel
theorem isi_it {i : Int} : isiB (.int i) "tuple" = false := by show isiN "int" "tuple" = false; decide +kernel
theorem kit_type {K : PySem.W.Frag} {t n : String} {b : Bool} (e : (if (Value.type t == Value.type n) = true then some true else if PySem.W.kitMeta n = true then (fastBuiltinMro t).map (·.contains (.type n)) else none) = some b) : PySem.W.kitOne K (.type t) (.type n) = some b := by
  unfold PySem.W.kitOne
  split at e
  · rename_i h; rw [if_pos h]; exact e
  · rename_i h; rw [if_neg h]; exact e
theorem kit_plain {K : PySem.W.Frag} {x : V} {t n : String} (hn : n ∈ ["int", "bool", "tuple", "list", "str"]) (ht : tyS x = some t) : PySem.W.kitOne K (.type t) (.type n) = some (isiB x n) := by
  simp only [List.mem_cons, List.mem_nil_iff, or_false] at hn
  cases x <;> simp only [tyS, reduceCtorEq, Option.some.injEq] at ht <;> subst ht <;> rcases hn with rfl | rfl | rfl | rfl | rfl <;> refine kit_type ?_ <;> simp only [isiB, tyS] <;> decide +kernel
theorem call_isiS {X : Cx} : CallR X (.builtin "isinstance") (fun xs H Q => ∃ x n, xs = [x, .ty n] /\ (n ∈ ["int", "bool", "tuple", "list", "str"] /\ (tyS x).isSome = true) /\ Q (.bl (isiB x n)) H) := by
  intro pins s σ H xs us Q I r h
  obtain ⟨x, n, rfl, ⟨hn, hx⟩, q⟩ := h
  obtain ⟨t, ht⟩ := Option.isSome_iff_exists.mp hx
  refine call_isi pins s σ H _ us Q I r ⟨x, n, .type t, isiB x n, rfl, ?_, kit_plain hn ht, q⟩
  cases x <;> simp only [tyS, reduceCtorEq, Option.some.injEq] at ht <;> subst ht
  · exact .non
  · exact .bl _
  · exact .int _
  · exact .str _
theorem na2 : (Int.natAbs 2 < 18446744073709551616) = True := eq_true (by decide)
theorem na10 : (Int.natAbs 10 < 18446744073709551616) = True := eq_true (by decide)
theorem z0e {H : Hp} {p : Addr} (h : H p = none) (o : HO) : Same H (upd H p o) := fun b u q => by rw [z0x (z2i q h)]; exact q
theorem small {n : Nat} (h : n ≤ 1000) : n ≤ sizeLine := Nat.le_of_lt (z0w h)
theorem Same.tup {K : PySem.W.Frag} {H H' : Hp} {a : Addr} {xs : List V} (e : Same H H') (h : SqT K H a xs) : SqT K H' a xs := by
  rcases h with (h | ⟨o, h⟩) | h
  · exact .inl (.inl (e _ _ h))
  · exact .inl (.inr ⟨o, e _ _ h⟩)
  · exact .inr h
theorem st_one {σ : St} (h : σ.length = 1) : ∃ z, σ = [z] := by
  match σ, h with
  | [z], _ => exact ⟨z, rfl⟩
theorem take_succ' {α : Type} {l : List α} {i : Nat} {x : α} (h : l[i]? = some x) : l.take (i + 1) = l.take i ++ [x] := by
  rw [List.take_succ, h]; rfl
theorem CompL.vals {K : PySem.W.Frag} {a : Addr} {xs : List V} {te : TE} {Q : VK} {σ : St} {H : Hp} {fn : V -> V} (hS : SqL K H a xs) (hz : xs.length ≤ 1000)
    (hs : ∀ x ∈ xs, ∀ H1, Same H H1 -> ∀ Q' : VK, (∀ H2, Same H1 H2 -> Q' (fn x) H2) -> te [some x] H1 Q')
    (hd : ∀ H1, Same H H1 -> ∀ p, H1 p = none -> Q (.ref p) (upd H1 p (.lst (xs.map fn)))) : CompL K 1 [] (gName 0) te σ (.ref a) H Q := by
  refine CompL.mk hS (fun i ys σ' H' => Same H H' /\ ys = (xs.take i).map fn /\ σ'.length = 1) ⟨Same.refl _, rfl, rfl⟩ (fun i ys σ' H' _ h => h.1.seq hS) (fun i x ys σ' H' e h => ?_) (fun ys σ' H' h p hp => ?_)
  · obtain ⟨h1, rfl, h3⟩ := h
    obtain ⟨z, rfl⟩ := st_one h3
    refine ⟨?_, ?_⟩
    · rw [List.length_map, List.length_take]
      exact Nat.lt_of_le_of_lt (Nat.min_le_right _ _) (z0w hz)
    · refine hs x (List.mem_of_getElem? e) H' h1 _ fun H2 h2 => ⟨h1.trans h2, ?_, rfl⟩
      rw [take_succ' e, List.map_append]; rfl
  · obtain ⟨h1, rfl, h3⟩ := h
    rw [List.take_length]
    exact hd H' h1 p hp
theorem CompL.ints {K : PySem.W.Frag} {a : Addr} {ns : List Int} {te : TE} {Q : VK} {σ : St} {H : Hp} {fn : Int -> Int} (hS : SqL K H a (ns.map V.int)) (hz : ns.length ≤ 1000)
    (hs : ∀ n ∈ ns, ∀ H1, Same H H1 -> ∀ Q' : VK, (∀ H2, Same H1 H2 -> Q' (.int (fn n)) H2) -> te [some (.int n)] H1 Q')
    (hd : ∀ H1, Same H H1 -> ∀ p, H1 p = none -> Q (.ref p) (upd H1 p (.lst ((ns.map fn).map V.int)))) : CompL K 1 [] (gName 0) te σ (.ref a) H Q := by
  refine CompL.vals (fn := fun x => match x with | .int n => .int (fn n) | y => y) hS (by rw [List.length_map]; exact hz) (fun x hx H1 h1 Q' h2 => ?_) (fun H1 h1 p hp => ?_)
  · obtain ⟨n, hn, rfl⟩ := List.mem_map.mp hx
    exact hs n hn H1 h1 Q' h2
  · have e := hd H1 h1 p hp
    rw [List.map_map] at e ⊢
    exact e
section
variable {X : Cx}
def rIxLH : R2 := fun x y H Q => ∃ p xs i v, x = .ref p /\ y = .int i /\ H p = some (.lst xs) /\ atI xs i = some v /\ Q v H
def rIxTH : R2 := fun x y H Q => ∃ p xs i v, x = .ref p /\ y = .int i /\ H p = some (.tup xs) /\ atI xs i = some v /\ Q v H
theorem z5p : IxR X rIxLH := by
  intro value slice pins s σ H x y v u Q I rx ry h hs
  obtain ⟨p, xs, i, z, rfl, rfl, hq, he, q⟩ := h
  exact ix_list value slice pins s σ H _ _ v u Q I rx ry ⟨p, xs, i, z, rfl, rfl, .of hq, he, q⟩ hs
theorem z0i : IxR X rIxTH := by
  intro value slice pins s σ H x y v u Q I rx ry h hs
  obtain ⟨p, xs, i, z, rfl, rfl, hq, he, q⟩ := h
  exact ix_tup value slice pins s σ H _ _ v u Q I rx ry ⟨p, xs, i, z, rfl, rfl, .of hq, he, q⟩ hs
end
section
variable {X : Cx}
def gTupH (n : Nat) (t : TGs) : TG := fun v σ H Q => ∃ a xs, v = .ref a /\ H a = some (.tup xs) /\ xs.length = n /\ t xs σ H Q
theorem z4g {es : List Expr} {k : Nat} {pos : Pos} {t : TGs} {n : Nat} (h : PG X (.Tuple es k pos) (gTup X.K n t)) : PG X (.Tuple es k pos) (gTupH n t) := by
  intro pins s σ H v u Q I r q
  obtain ⟨a, xs, e, ha, hl, q⟩ := q
  exact h pins s σ H v u Q I r ⟨a, xs, e, .of ha, hl, q⟩
def tApp (to te : TE) : TE := fun σ H Q => to σ H fun x H1 => ∃ l, x = .ref l /\ (∃ xs, H1 l = some (.lst xs)) /\ te σ H1 fun v H2 => ∃ xs, H2 l = some (.lst xs) /\ xs.length < sizeLine /\ Q .non (upd H2 l (.lst (xs ++ [v])))
theorem pe_app {o e : Expr} {to te : TE} {apos cpos : Pos} (ho : PE X o to) (he : PE X e te)
    (hbase : attributeBase o "append" X.env (eval o X.env) = eval o X.env := by rfl) (hfew : ((backTo cpos (starEach [e] X.env)).all (fun x => !x.1) && (backToKw cpos (keywordEach [] X.env)).all (fun x => x.1.isSome)
      && decide ([e].length + ([] : List Keyword).length + (if ([] : List Keyword).isEmpty then 0 else 1) < 30)) = true := by rfl)
    (hline : (apos.endLine == cpos.line) = true := by rfl) (hs : starEach [e] X.env = [(false, eval e X.env)] := by rfl) : PE X (.Call (.Attribute o "append" apos) [e] [] cpos) (tApp to te) := by
  intro pins s σ H Q I h
  refine wpAny_Call_method_late hbase hfew hline rfl (thn (ho pins s σ H _ I h) fun v s1 ⟨x, H1, I1, r1, q1⟩ => ?_)
  obtain ⟨l, rfl, ⟨xs1, hx1⟩, q2⟩ := q1
  obtain ⟨h1, h2⟩ := tyV_is (T := "list") I1 r1 (.inl ⟨rfl, _, .of hx1⟩)
  refine ⟨"list", "list.append", PySem.F.plainAttrs_list, PySem.F.slot_list_append, PySem.F.type_list_append, h1, h2, ?_⟩
  have hA := (z0a he z0d hs) cpos pins s1 σ H1 (fun vs H2 => match vs with | [v] => ∃ xs, H2 l = some (.lst xs) /\ xs.length < sizeLine /\ Q .non (upd H2 l (.lst (xs ++ [v]))) | _ => False) I1 q2
  rw [hs] at hA ⊢
  refine Calls.callWith_builtin rfl (Calls.evalArgs_plain ?_)
  refine thn hA fun us s2 ⟨vs, H2, I2, r2, q3⟩ => ?_
  match vs, q3 with
  | [v2], ⟨xs, hx, hz, q⟩ => exact mt_append pins s2 σ H2 (.ref l) [v2] v us Q I2 r1 r2 ⟨l, xs, v2, rfl, rfl, hx, hz, q⟩
end
def SameX (l : Addr) (H H' : Hp) : Prop := ∀ b o, b ≠ l -> H b = some o -> H' b = some o
theorem SameX.refl (l : Addr) (H : Hp) : SameX l H H := fun _ _ _ h => h
theorem SameX.trans {l : Addr} {H H1 H2 : Hp} (a : SameX l H H1) (b : SameX l H1 H2) : SameX l H H2 := fun c o n h => b c o n (a c o n h)
theorem SameX.set {l : Addr} (H : Hp) (o : HO) : SameX l H (upd H l o) := fun b u n e => by rw [z0x n]; exact e
def rvObj (t : Addr) (i : Int) : Obj := { cls := .type "reversed", data := .fields #[.ref t, rawInt i] }
def IsRv (h : Heap) (a t : Addr) (i : Int) : Prop := ∃ o, h.get? a = some o /\ o.cls = .type "reversed" /\ o.data = .fields #[.ref t, rawInt i]
theorem IsRv.typeIs {s : Shared} {a t : Addr} {i : Int} (x : IsRv s.heap a t i) : s.TypeIs (.ref a) "reversed" := let ⟨o, ho, hc, _⟩ := x; ⟨o, ho, hc⟩
theorem tup_norev : typeLookup (.type "tuple") "__reversed__" = pure none := by rw [typeLookup_type, builtinLookup_eq_fast]; kernel_rfl
theorem z5z : typeLookup (.type "tuple") "__getitem__" = pure (some (.builtin "tuple.__getitem__")) := by rw [typeLookup_type, builtinLookup_eq_fast]; kernel_rfl
theorem tup_nodict : isSubtype (.type "tuple") (.type "dict") = pure false := by rw [isSubtype_type]; kernel_rfl
theorem rv_init : Slot "reversed" "__init__" "object.__init__" :=
  .of (owner := "object") (n := "__init__") (by rw [typeLookup_type, builtinLookup_eq_fast]; kernel_rfl) (by decide +kernel) (by decide +kernel) (by decide +kernel) (.inl (by decide +kernel)) (by rw [isSubtype_type]; kernel_rfl)
theorem rv_next : Slot "reversed" "__next__" "reversed.__next__" :=
  .of (owner := "reversed") (n := "__next__") (by rw [typeLookup_type, builtinLookup_eq_fast]; kernel_rfl) (by decide +kernel) (by decide +kernel) (by decide +kernel) (.inl (by decide +kernel)) (by rw [isSubtype_type]; kernel_rfl)
theorem rv_iter : Slot "reversed" "__iter__" "reversed.__iter__" :=
  .of (owner := "reversed") (n := "__iter__") (by rw [typeLookup_type, builtinLookup_eq_fast]; kernel_rfl) (by decide +kernel) (by decide +kernel) (by decide +kernel) (.inl (by decide +kernel)) (by rw [isSubtype_type]; kernel_rfl)
theorem z4n : entryFor table "reversed.__next__" = some Builtin.«reversed.__next__» := entryFor_of_tree (by kernel_rfl)
theorem z7n : entryFor table "reversed.__iter__" = some Builtin.«dict_keyiterator.__iter__» :=
  entryFor_alias (id' := "dict_keyiterator.__iter__") (by kernel_rfl) (by first | rfl | decide +kernel) (by decide +kernel) (by kernel_rfl)
theorem z5f (a : Value) : argsOk "reversed.__next__" ⟨[a], []⟩ := by unfold argsOk; kernel_rfl
theorem rv_args_iter (a : Value) : argsOk "reversed.__iter__" ⟨[a], []⟩ := by unfold argsOk; kernel_rfl
theorem rv_called : TypeCalled "reversed" "reversed.__new__" "object.__init__" :=
  ⟨by decide +kernel, PySem.F.create_reversed, ⟨_, _, PySem.F.mro_reversed⟩, PySem.F.made_reversed, PySem.F.plain_reversed_new, PySem.F.sub_reversed_self, rv_init⟩
theorem rv_new (t : Addr) (items : Array Value) (hz : (items.size : Int) < 2 ^ 63) : Meets (Builtin.«reversed.__new__» ⟨[.type "reversed", .ref t], []⟩)
    (fun _ R s => IsTup s.heap t items /\ ∀ tk, R (.ok (.ret (.ref s.heap.objs.size))) { s with heap := s.heap.push (rvObj t ((items.size : Int) - 1)), toks := tk }) :=
  .of_wp fun prog w A R s h => by
    obtain ⟨ht, h⟩ := h
    have hT : s.TypeIs (.ref t) "tuple" := ht.typeIs
    unfold Builtin.«reversed.__new__»
    refine wpAny_bind (wpAny_of_eq (PySem.newClass_reversed _) ?_)
    try dsimp only
    refine wpAny_bind (wpAny_of_eq (a := ()) (by first | rfl | kernel_rfl) ?_)
    refine wpAny_bind (wpAny_of_eq (a := ()) (by first | rfl | kernel_rfl) ?_)
    try dsimp only
    refine wpAny_bind (wpAny_specialOf hT tup_norev ?_)
    try dsimp only
    refine wpAny_bind ?_
    k_delta "hasItemSlot"
    refine wpAny_bind (wpAny_isInstance (T := "tuple") (b := false) hT tup_nodict ?_)
    rw [if_neg Bool.false_ne_true]
    refine wpAny_bind (wpAny_specialOf hT z5z ?_)
    dsimp only
    rw [if_pos (by decide +kernel)]
    refine wpAny_pure ?_
    rw [if_neg (by decide)]
    refine wpAny_bind (len_tuple ht hz ?_)
    refine wpAny_bind (wpAny_of_eq (a := some (items.size : Int)) rfl ?_)
    dsimp only
    refine wpAny_bind ?_
    unfold Builtin.SmallTypes.newRecord
    refine wpAny_newObj_type (wpAny_pure ⟨_, rfl, h _⟩)
section
variable {prog : Program} {w : World} {A : Around} {E : Value -> Shared -> Prop} {s : Shared}
theorem call_rv {t : Addr} {items : Array Value} {Q : Value -> Shared -> Prop} (ht : IsTup s.heap t items) (hz : (items.size : Int) < 2 ^ 63)
    (h : ∀ tk, Q (.ref s.heap.objs.size) { s with heap := s.heap.push (rvObj t ((items.size : Int) - 1)), toks := tk }) : wpAny (model prog w) A (call (.type "reversed") [.ref t]) Q E s :=
  callType_new rv_called (by decide) (PySem.F.typeCall_reversed_1 _) (PySem.F.newCall_reversed_1 _) (fun obj => F.args_object_init_2 obj _) PySem.F.entry_reversed_new (rv_new t items hz)
    ⟨ht, fun tk => ⟨⟨_, Heap.get?_push_size _ rfl, rfl⟩, h tk⟩⟩
theorem rv_item {it t : Addr} {i : Nat} {items : Array Value} {x : Value} {Q : Option Value -> Shared -> Prop} (hit : IsRv s.heap it t (i : Int)) (ht : IsTup s.heap t items) (hx : items[i]? = some x) (hz : (items.size : Int) < 2 ^ 63)
    (hQ : ∀ h' tk, IsRv h' it t ((i : Int) - 1) -> Heap.SameBut it s.heap h' -> Q (some x) { s with heap := h', toks := tk }) : wpAny (model prog w) A (pyNext (.ref it)) Q E s := by
  obtain ⟨o, ho, hc, hd⟩ := id hit
  have hT : s.TypeIs (.ref t) "tuple" := ht.typeIs
  have hi : i < items.size := (Array.getElem?_eq_some_iff.mp hx).1
  unfold pyNext
  refine wpAny_bind (wpAny_attempt (wpAny_callSpecial?_slot (name := Str.ofString "__next__") hit.typeIs rv_next (wpAny_call_entry rv_next hit.typeIs z4n ?_ (z5f _))))
  unfold Builtin.«reversed.__next__»
  refine wpAny_bind (wpAny_of_eq (a := (Value.ref it, [])) rfl ?_)
  try dsimp only
  refine wpAny_bind (wpAny_field ho hd (x := .ref t) rfl ?_)
  refine wpAny_bind (wpAny_field ho hd (x := rawInt (i : Int)) rfl ?_)
  show wpAny _ _ (if (i : Int) < 0 then _ else _) _ _ s
  rw [if_neg (by omega)]
  refine wpAny_bind (wpAny_specialOf hT z5z ?_)
  rw [if_neg (by decide)]
  refine wpAny_bind (wpAny_mkInt ?_)
  refine wpAny_bind (wpAny_attempt (getItem_tuple (k := (i : Int)) (j := i) ht (by omega) (by omega) (by simp [seqIndex?]; omega) hx ?_))
  dsimp only
  refine wpAny_bind (wpAny_field ho hd (x := rawInt (i : Int)) rfl ?_)
  show wpAny _ _ (setField (.ref it) 1 (rawInt ((i : Int) - 1)) >>= _) _ _ _
  refine wpAny_bind (wpAny_setField ho hd (by simp) ?_)
  refine wpAny_pure ⟨x, rfl, wpAny_pure (hQ _ _ ?_ (Heap.SameBut.update ..))⟩
  exact ⟨_, Heap.get?_update_self _ ho (Obj.isFreed_of_fields (Obj.data_mapFields hd _)), (Obj.cls_mapFields ..).trans hc, by rw [Obj.data_mapFields hd]; simp⟩
theorem rv_end {it t : Addr} {Q : Option Value -> Shared -> Prop} (hh : A.handled = none) (hit : IsRv s.heap it t (-1)) (hQ : ∀ h' tk, Heap.ExtBut it s.heap h' -> Q none { s with heap := h', toks := tk }) : wpAny (model prog w) A (pyNext (.ref it)) Q E s := by
  obtain ⟨o, ho, hc, hd⟩ := id hit
  unfold pyNext
  refine wpAny_bind (wpAny_attempt (wpAny_callSpecial?_slot (name := Str.ofString "__next__") hit.typeIs rv_next (wpAny_call_entry rv_next hit.typeIs z4n ?_ (z5f _))))
  unfold Builtin.«reversed.__next__»
  refine wpAny_bind (wpAny_of_eq (a := (Value.ref it, [])) rfl ?_)
  try dsimp only
  refine wpAny_bind (wpAny_field ho hd (x := .ref t) rfl ?_)
  refine wpAny_bind (wpAny_field ho hd (x := rawInt (-1)) rfl ?_)
  show wpAny _ _ (if (-1 : Int) < 0 then _ else _) _ _ s
  rw [if_pos (by decide)]
  refine wpAny_bind (wpAny_rule ?_)
  refine wpAny_bind ?_
  k_delta "reversedEnd"
  refine wpAny_bind (wpAny_setField ho hd (by simp) ?_)
  refine wpAny_setField (Heap.get?_update_self _ ho (Obj.isFreed_of_fields (Obj.data_mapFields hd _))) (Obj.data_mapFields hd _) (by simp) ?_
  refine wpAny_bind ?_
  have other : ∀ b u, b ≠ it -> s.heap.get? b = some u -> ((s.heap.update it (Obj.mapFields fun x => x.setIfInBounds 1 (rawInt (-1)))).update it (Obj.mapFields fun x => x.setIfInBounds 0 Value.none)).get? b = some u := fun b u nb e => by
    rw [Heap.get?_update_other _ _ (Ne.symm nb), Heap.get?_update_other _ _ (Ne.symm nb)]; exact e
  generalize ((s.heap.update it (Obj.mapFields fun x => x.setIfInBounds 1 (rawInt (-1)))).update it (Obj.mapFields fun x => x.setIfInBounds 0 Value.none)) = hU at *
  show wpAny _ _ (newExc (.type "StopIteration") [] >>= _) _ _ _
  refine wpAny_bind ?_
  simp only [newExc, newTuple]
  refine wpAny_bind (wpAny_newObj_type ?_ (by size_fits))
  refine wpAny_bind (m := firstArgMember _ _) (wpAny_of_eq (a := Value.none) (by first | rfl | (simp only [firstArgMember]; rfl)) ?_)
  refine wpAny_newObj_type ?_ (by size_fits)
  simp only [raiseNew]
  refine wpAny_bind (wpAny_handled ?_)
  rw [show A.in1.handled = none from hh]
  refine wpAny_bind (wpAny_pure (wpAny_throw ?_))
  refine wpAny_bind (wpAny_isInstance (T := "StopIteration") (b := true) ⟨_, Heap.get?_push_size _ rfl, rfl⟩ isSubtype_stop ?_)
  exact wpAny_pure (hQ _ _ fun b u nb e => Heap.get?_push_of_some _ (Heap.get?_push_of_some _ (other b u nb e)))
theorem rv_self {it t : Addr} {i : Int} {Q : Value -> Shared -> Prop} (hit : IsRv s.heap it t i) (h : Q (.ref it) s) : wpAny (model prog w) A (pyIter (.ref it)) Q E s := by
  refine wpAny_pyIter_slot hit.typeIs rv_iter (wpAny_call_entry rv_iter hit.typeIs z7n ?_ (rv_args_iter _))
  show wpAny _ _ (ret (.ref it)) _ _ s
  exact wpAny_pure ⟨_, rfl, "reversed", _, hit.typeIs, rv_next.lookup, h⟩
end
def Itrv (K : PySem.W.Frag) (a : Addr) (n : Nat) : It := ⟨fun i H => ∃ xs, SqT K H a xs /\ xs.length = n /\ i < n, fun i H x H' => H' = H /\ ∀ xs, SqT K H a xs -> xs[n - 1 - i]? = some x, fun i H => ∃ xs, SqT K H a xs /\ xs.length = n /\ i = n⟩
theorem line63' : (sizeLine : Int) < 2 ^ 63 := by rw [sizeLine_eq]; decide
theorem turn_rv {P : Program} {w : World} {K : PySem.W.Frag} {tg : Expr} (a it : Addr) (n : Nat) : Turn P w K tg (Itrv K a n) [it] it (fun i h => IsRv h it a ((n : Int) - 1 - (i : Int))) where
  mem := by simp
  obj := fun i h x b hb => by
    have e : b = it := by simpa using hb
    subst e
    obtain ⟨o, ho, _, hd⟩ := x
    exact ⟨o, ho, fun v q => by rw [hd] at q; cases q⟩
  keep := fun i h h' x k => let ⟨o, ho, r⟩ := x; ⟨o, k it (by simp) o ho, r⟩
  item := by
    intro X hP hw hK hc i pins s σ H E I hf st hg
    subst hP hw hK
    obtain ⟨xs, hq, hn, hi⟩ := hg
    obtain ⟨its, rv, p, hz⟩ := I.tuple hq
    have hx : xs[n - 1 - i]? = some (xs[n - 1 - i]'(by omega)) := List.getElem?_eq_getElem (by omega)
    obtain ⟨u, hu, ru⟩ := rv.get hx
    obtain ⟨f0, f1, f2, f3, f4, f5⟩ := hf it (by simp)
    have e : (n : Int) - 1 - (i : Int) = ((n - 1 - i : Nat) : Int) := by omega
    rw [e] at st
    have hl := rv.length
    have z63 := line63'
    refine rv_item st p (x := u) (by simpa using hu) (by simp; omega) fun h' tk st' sb => ?_
    have I1 : Inv X pins σ H { s with heap := h', toks := tk } := I.turned (t' := tk) (fun b o hb e => (sb.2 b hb).trans e) f0 f1 f3 f4 f5
    obtain ⟨o, e, c, d⟩ := id st'
    have e2 : ((n - 1 - i : Nat) : Int) - 1 = (n : Int) - 1 - ((i + 1 : Nat) : Int) := by omega
    rw [e2] at st'
    exact ⟨u, rfl, go_of (s := { s with heap := h', toks := tk }) e c d (by decide) ⟨_, H, I1, ru, ⟨rfl, fun ys hy => by rw [I.tuple_inj hy hq]; exact hx⟩, st', fun b hb => (hf b hb).1⟩⟩
  done := by
    intro X hP hw hK hc i pins s σ H E I hf st hg
    subst hP hw hK
    obtain ⟨xs, hq, hn, hi⟩ := hg
    obtain ⟨f0, f1, f2, f3, f4, f5⟩ := hf it (by simp)
    have e : (n : Int) - 1 - (i : Int) = -1 := by omega
    rw [e] at st
    exact rv_end (I.ok.hd hc) st fun h' tk eb => ⟨rfl, I.turned (t' := tk) (fun b o hb e => eb b o hb e) f0 f1 f3 f4 f5⟩
  self := fun _ _ _ _ _ st h => rv_self st h
section
variable {X : Cx} {tg : Expr}
def iRevT (K : PySem.W.Frag) (te : TE) : TI := fun σ H R => te σ H fun x H1 => ∃ a xs, x = .ref a /\ SqT K H1 a xs /\ R (Itrv K a xs.length) H1
theorem pi_revT {e : Expr} {te : TE} {p pos : Pos} (hg : Gl X "reversed") (hm : X.mg "reversed" = none) (he : PE X e te) (hs : starEach [e] X.env = [(false, eval e X.env)] := by rfl) :
    PI X tg (.Call (.Name "reversed" p) [e] [] pos) (iRevT X.K te) := by
  intro pins s σ H R I h
  have hA := (z0a he (z0d (X := X)) hs) pos pins s σ H (fun vs H1 => match vs with | [x] => ∃ a xs, x = .ref a /\ SqT X.K H1 a xs /\ R (Itrv X.K a xs.length) H1 | _ => False) I h
  refine Call_ (z5h I hg hm boot_reversed (PyProof.Rows.callWith_type1 (thn hA fun us s1 ⟨vs, H1, I1, r1, q1⟩ => ?_) hs rfl))
  match vs, q1 with
  | [x], ⟨a, xs, e, hq, q⟩ =>
    subst e
    obtain ⟨u, rfl, ru⟩ := z5y r1
    cases (show u = Value.ref a from ru)
    obtain ⟨its, rv, p, hz⟩ := I1.tuple hq
    have hl := rv.length
    have z63 := line63'
    refine call_rv p (by simp; omega) fun tk => ?_
    have I2 : Inv X pins σ H1 { s1 with heap := s1.heap.push (rvObj a ((its.toArray.size : Int) - 1)), toks := tk } := I1.kept (t' := tk) fun b o e => Heap.get?_push_of_some _ e
    have ir : IsRv (s1.heap.push (rvObj a ((its.toArray.size : Int) - 1))) s1.heap.objs.size a ((xs.length : Int) - 1 - ((0 : Nat) : Int)) := by
      refine ⟨_, Heap.get?_push_size _ rfl, rfl, ?_⟩
      show Data.fields #[.ref a, rawInt ((its.toArray.size : Int) - 1)] = _
      have e : ((its.toArray.size : Nat) : Int) - 1 = (xs.length : Int) - 1 - ((0 : Nat) : Int) := by simp; omega
      rw [e]
    refine rv_self ir ⟨s1.heap.objs.size, [s1.heap.objs.size], _, _, H1, rfl, I2, turn_rv a _ xs.length, ir, fun b hb => ?_, q⟩
    have e : b = s1.heap.objs.size := by simpa using hb
    subst e
    exact I1.fpOk (Nat.le_refl _) (I1.hok.fresh (Nat.le_refl _))
end
def LoopV (K : PySem.W.Frag) (g : TG) (tb : TS) (D : Ends) (σ : St) (x : V) (H1 : Hp) : Prop := ∃ a xs, x = .ref a /\ SqT K H1 a xs /\ ∃ W : Nat -> Nat -> St -> Hp -> Prop, (∃ m, W 0 m σ H1) /\ ∀ i m σ H, W i m σ H ->
  ((Itrv K a xs.length).stop i H /\ D.nx σ H) \/ ((Itrv K a xs.length).go i H /\ ∃ N : St -> Hp -> Prop, (∀ σ' H', N σ' H' -> ∃ m', m' < m /\ W (i + 1) m' σ' H') /\ ∀ x H', (Itrv K a xs.length).yld i H x H' -> g x σ H' fun σ2 H2 => tb { D with nx := N, ct := N, bk := D.nx } σ2 H2)
theorem for_eqV {K : PySem.W.Frag} {te : TE} {g : TG} {tb : TS} {D : Ends} {σ : St} {H : Hp} : tFor (iRevT K te) g tb D σ H = te σ H fun x H1 => LoopV K g tb D σ x H1 := rfl
theorem LoopV.mk {K : PySem.W.Frag} {a : Addr} {xs : List V} {g : TG} {tb : TS} {D : Ends} {σ : St} {H : Hp} (hS : SqT K H a xs) (Pv : Nat -> St -> Hp -> Prop) (h0 : Pv 0 σ H) (hl : ∀ i σ H, i ≤ xs.length -> Pv i σ H -> SqT K H a xs)
    (hs : ∀ i x σ H, i < xs.length -> xs[xs.length - 1 - i]? = some x -> Pv i σ H -> g x σ H fun σ2 H2 => tb { D with nx := Pv (i + 1), ct := Pv (i + 1), bk := D.nx } σ2 H2) (hd : ∀ σ H, Pv xs.length σ H -> D.nx σ H) : LoopV K g tb D σ (.ref a) H := by
  refine ⟨a, xs, rfl, hS, fun i m σ H => m = xs.length - i /\ i ≤ xs.length /\ Pv i σ H, ⟨xs.length, by simp, Nat.zero_le _, h0⟩, ?_⟩
  rintro i m σ H ⟨rfl, hi, p⟩
  have q := hl i σ H hi p
  by_cases hlt : i < xs.length
  · refine .inr ⟨⟨xs, q, rfl, hlt⟩, Pv (i + 1), fun σ' H' p' => ⟨xs.length - (i + 1), by omega, rfl, hlt, p'⟩, fun x H' y => ?_⟩
    obtain ⟨e, y⟩ := y
    subst e
    exact hs i x σ _ hlt (y xs q) p
  · have e : i = xs.length := by omega
    subst e
    exact .inl ⟨⟨xs, q, rfl, rfl⟩, hd σ H p⟩
theorem lri_nolen : typeLookup (.type "list_reverseiterator") "__len__" = pure none := by rw [typeLookup_type, builtinLookup_eq_fast]; kernel_rfl
theorem lri_hint : typeLookup (.type "list_reverseiterator") "__length_hint__" = pure (some (.builtin "list_reverseiterator.__length_hint__")) := by rw [typeLookup_type, builtinLookup_eq_fast]; kernel_rfl
section
variable {pg : Program} {wd : World} {B : Around} {X0 : Value -> Shared -> Prop} {s0 : Shared} {J : Addr} {fs ws : List Addr} {Gg : Array GenState -> Array GenState -> Prop} {m : Nat} {Pr : Nat -> Value -> Prop} {Sx : Nat -> Shared -> Prop}
theorem collect_lri {R : List Value -> Shared -> Prop} (wk : WalksS pg wd B.in1 J fs ws Gg m Pr Sx) (ty : ∀ j z, Sx j z -> z.TypeIs (.ref J) "list_reverseiterator") (z0 : Sx 0 s0) (lt : ∀ b ∈ fs, b < s0.heap.objs.size) (mJ : J ∈ fs) (sm : m ≤ sizeLine)
    (fin : ∀ z' ac, Moved ws Gg s0 z' -> ItemsOf Pr ac m -> R ac.toList z') : wpAny (model pg wd) B (collect (.ref J)) R X0 s0 := by
  have out : s0.heap.objs.size ∉ fs := fun q => absurd (lt _ q) (Nat.lt_irrefl _)
  have neJ : s0.heap.objs.size ≠ J := by rintro rfl; exact out mJ
  let nu : Obj := { cls := .type "list", data := .seq ([] : List Value).toArray }
  unfold collect
  refine wpAny_bind (wpAny_runValue (codeAny_builtin F.entry_proto_collect ?_))
  rw [Around.under_plainId F.plain_proto_collect _]
  show wpAny _ B.in1 (newList [] >>= fun q => again (.builtin "list.__iadd__" ⟨[q, .ref J], []⟩)) _ _ s0
  refine wpAny_bind (wpAny_newObj_type ?_)
  refine wpAny_pure ⟨plainId_quiet F.plain_list_iadd _, codeAny_builtin F.entry_list_iadd ?_⟩
  rw [Around.under_plainId F.plain_list_iadd _]
  have z1 := wk.frame 0 s0 (s0.heap.push nu) s0.toks z0 (Nat.le_refl _) fun b _ o e => Heap.get?_push_of_some _ e
  have at1 : (s0.heap.push nu).get? s0.heap.objs.size = some nu := Heap.get?_push_size _ rfl
  have dif : Builtin.List.listSameRef (.ref s0.heap.objs.size) (.ref J) = false := by simp [Builtin.List.listSameRef, neJ]
  show wpAny _ B.in1 (Builtin.List.listExtendWith (.ref s0.heap.objs.size) (.ref J) (.ref s0.heap.objs.size)) _ _ _
  unfold Builtin.List.listExtendWith
  refine wpAny_bind (wpAny_typeOf (ty 0 _ z1) ?_)
  rw [if_neg (by rw [dif]; decide)]
  refine wpAny_bind (wk.self 0 _ _ _ z1 ?_)
  refine wpAny_bind (wpAny_holding ?_)
  unfold Builtin.List.listLengthHint
  refine wpAny_bind (wpAny_specialOf (ty 0 _ z1) lri_nolen ?_)
  show wpAny _ B.in1 (specialOf (Value.ref J) (Str.ofString "__length_hint__") >>= _) _ _ _
  refine wpAny_bind (wpAny_specialOf (ty 0 _ z1) lri_hint ?_)
  (generalize hid : ("list_reverseiterator.__length_hint__" : String) = id0; wp_delta; rw [show splitId id0 = some ("list_reverseiterator", "__length_hint__") from by subst hid; decide +kernel]; subst hid)
  refine wpAny_bind (wpAny_isInstance (b := true) (ty 0 _ z1) (by rw [isSubtype_type]; kernel_rfl) ?_)
  refine wpAny_pure ?_
  rw [if_neg (by decide)]
  refine wpAny_pure ⟨plainId_quiet F.plain_extend_loop _, codeAny_extend_loopS wk sm _ out _ m 0 _ _ _ rfl (Nat.zero_le _) z1 at1 (ItemsOf.nil Pr) fun z' ac cc mv at2 its => ?_⟩
  show wpAny _ B (load s0.heap.objs.size >>= _) _ _ z'
  exact wpAny_bind (wpAny_load at2 (wpAny_pure (fin z' ac (Moved.drop_new (o := nu) (tk := s0.toks) mv (Nat.le_refl _)) its)))
theorem new_tuple_lri {R : Value -> Shared -> Prop} (wk : WalksS pg wd B.in1.in1 J fs ws Gg m Pr Sx) (ty : ∀ j z, Sx j z -> z.TypeIs (.ref J) "list_reverseiterator") (z0 : Sx 0 s0) (lt : ∀ b ∈ fs, b < s0.heap.objs.size) (mJ : J ∈ fs) (sm : m ≤ sizeLine)
    (fin : ∀ z' ac, Moved ws Gg s0 z' -> ItemsOf Pr ac m -> R (.ref z'.heap.objs.size) { z' with heap := z'.heap.push { cls := .type "tuple", data := .seq ac } }) :
    codeAny (model pg wd) B (.call (.builtin "tuple.__new__") ⟨[.type "tuple", .ref J], []⟩) (wants R X0) s0 := by
  refine codeAny_of_tree ?_
  show wpAny _ B.in1 (do checkBuiltinCall "tuple.__new__" ⟨[.type "tuple", .ref J], []⟩; again (.builtin "tuple.__new__" ⟨[.type "tuple", .ref J], []⟩)) _ _ s0
  refine wpAny_bind (wpAny_of_eq (F.newCall_tuple_1 _) (wpAny_pure ⟨plainId_quiet F.plain_tuple_new _, codeAny_builtin F.entry_tuple_new ?_⟩))
  rw [Around.under_plainId F.plain_tuple_new _]
  have q1 := sub_tuple_self
  have q2 := init_tuple_lookup
  have q3 := madeHere_tuple
  have q4 := ty 0 s0 z0
  wp_walk using wpAny_typeOf q4, collect_lri (sm := sm) wk ty z0 lt mJ
  intro z' ac mv its
  show wpAny _ _ (Builtin.Tuple.tupleExact ac.toList.toArray >>= fun q => ret q) _ _ _
  have e : ac.toList.toArray = ac := by simp
  rw [e]
  unfold Builtin.Tuple.tupleExact
  exact wpAny_bind (wpAny_newObj_type (wpAny_pure (fin z' ac mv its)) (by show ac.size ≤ sizeLine; rw [its.1]; exact sm))
theorem z6s {R : Value -> Shared -> Prop} (wk : WalksS pg wd B.in1.in1.in1 J fs ws Gg m Pr Sx) (ty : ∀ j z, Sx j z -> z.TypeIs (.ref J) "list_reverseiterator") (z0 : Sx 0 s0) (lt : ∀ b ∈ fs, b < s0.heap.objs.size) (mJ : J ∈ fs) (sm : m ≤ sizeLine)
    (fin : ∀ z' ac, Moved ws Gg s0 z' -> ItemsOf Pr ac m -> R (.ref z'.heap.objs.size) { z' with heap := z'.heap.push { cls := .type "tuple", data := .seq ac } }) :
    wpAny (model pg wd) B (call (.type "tuple") [.ref J]) R X0 s0 :=
  callType_codes (Q₁ := fun ob z => z.TypeIs ob "tuple" /\ R ob z) F.called_tuple (F.typeCall_tuple_1 _) F.entry_object_init
    (new_tuple_lri (sm := sm) wk ty z0 lt mJ fun z' ac mv its => ⟨⟨_, Heap.get?_push_size _ rfl, rfl⟩, fin z' ac mv its⟩)
    fun ob z q => ⟨q.1, F.args_object_init_2 ob _, object_init_meets F.called_tuple.init.lookup F.called_tuple.made (by decide) pg wd B.in1 _ z ⟨q.1, rfl, q.2⟩⟩
end
section
variable {X : Cx}
def tTupRev (K : PySem.W.Frag) (te : TE) : TE := fun σ H Q => te σ H fun x H1 => ∃ a xs, x = .ref a /\ SqL K H1 a xs /\ ∀ p, H1 p = none -> Q (.ref p) (upd H1 p (.tup xs.reverse))
theorem pe_tupRev {e : Expr} {te : TE} {p1 p2 pos pos' : Pos} (hc : X.calm = true) (ht : Gl X "tuple") (hr : Gl X "reversed") (mt : X.mg "tuple" = none) (mr : X.mg "reversed" = none) (he : PE X e te) (hs : starEach [e] X.env = [(false, eval e X.env)] := by rfl) :
    PE X (.Call (.Name "tuple" p1) [.Call (.Name "reversed" p2) [e] [] pos'] [] pos) (tTupRev X.K te) := by
  intro pins s σ H Q I h
  refine Call_ (z5h I ht mt boot_tuple (PyProof.Rows.callWith_type1 ?_ rfl rfl))
  refine Calls.spliced_cons ?_
  have hA := (z0a he (z0d (X := X)) hs) pos' pins s σ H (fun vs H1 => match vs with | [x] => ∃ a xs, x = .ref a /\ SqL X.K H1 a xs /\ ∀ p, H1 p = none -> Q (.ref p) (upd H1 p (.tup xs.reverse)) | _ => False) I h
  refine Call_ (z5h I hr mr boot_reversed (PyProof.Rows.callWith_type1 (thn hA fun us s1 ⟨vs, H1, I1, r1, q1⟩ => ?_) hs rfl))
  match vs, q1 with
  | [x], ⟨a, xs, e, hq, q⟩ =>
    subst e
    obtain ⟨u, rfl, ru⟩ := z5y r1
    cases (show u = Value.ref a from ru)
    obtain ⟨its, rv, pl, hz⟩ := I1.list hq
    have hl := rv.length
    refine call_reversed_list pl.isList ?_
    refine Calls.spliced_nil ?_
    have I2 : Inv X pins σ H1 { s1 with heap := s1.heap.push (revObj a ((its.toArray.size : Int) - 1)) } := I1.kept (t' := s1.toks) fun b o e => Heap.get?_push_of_some _ e
    have al : a < s1.heap.objs.size := by obtain ⟨o, ho, _⟩ := pl.isList; exact Heap.lt_size ho
    have hne : a ≠ s1.heap.objs.size := Nat.ne_of_lt al
    have ir : (s1.heap.push (revObj a ((its.toArray.size : Int) - 1))).IsRevIter s1.heap.objs.size a ((its.toArray.size : Int) - 1 - ((0 : Nat) : Int)) := by
      refine ⟨_, Heap.get?_push_size _ rfl, rfl, ?_⟩
      have e : (its.toArray.size : Int) - 1 - ((0 : Nat) : Int) = (its.toArray.size : Int) - 1 := by omega
      rw [e]; rfl
    have sz : (s1.heap.push (revObj a ((its.toArray.size : Int) - 1))).objs.size = s1.heap.objs.size + 1 := by simp [Heap.push]
    have ff := I1.fpOk (Nat.le_refl s1.heap.objs.size) (I1.hok.fresh (Nat.le_refl _))
    refine z6s (Walks.listRev (A := X.A.in1.in1.in1) (I.ok.hd hc) s1.heap.objs.size a hne its.toArray).toS (fun j z q => let ⟨o, ho, hk, _⟩ := q.2.1; ⟨o, ho, hk⟩)
      ⟨Nat.zero_le _, ir, pl.isList.at fun o e => Heap.get?_push_of_some _ e⟩ (fun b hb => ?_) (List.mem_cons_self ..) (by simp only [List.size_toArray]; omega) fun z' ac mv io => ?_
    · show b < (s1.heap.push (revObj a ((its.toArray.size : Int) - 1))).objs.size
      rw [sz]
      simp only [List.mem_cons, List.not_mem_nil, or_false] at hb
      rcases hb with rfl | rfl
      · exact Nat.lt_succ_self _
      · exact Nat.lt_succ_of_lt al
    have I3 : Inv X pins σ H1 z' := by
      obtain ⟨zh, zg, zd, zt, zo⟩ := z'
      have e1 : zg = s1.gens := mv.gens
      have e2 : zd = s1.drawn := mv.drawn
      have e3 : zo = s1.os := mv.os
      subst e1 e2 e3
      obtain ⟨f0, f1, f2, f3, f4, f5⟩ := ff
      exact I1.turned (t' := zt) (fun b o hb e => mv.heap b o (by simpa using hb) (Heap.get?_push_of_some _ e)) f0 f1 f3 f4 f5
    have er : ac = its.reverse.toArray := by
      have sz2 : ac.size = its.length := by simpa using io.1
      apply Array.ext
      · simp [sz2]
      · intro j h1 h2
        have q := io.2 j _ (Array.getElem?_eq_getElem h1)
        simp only [List.size_toArray, List.getElem?_toArray] at q
        have q2 : its.reverse[j]? = some ac[j] := by rw [List.getElem?_reverse (by omega)]; exact q
        rw [List.getElem_toArray]
        exact (Option.some.inj ((List.getElem?_eq_getElem (by simpa using h2)).symm.trans q2)).symm
    subst er
    have I4 : Inv X pins σ (upd H1 z'.heap.objs.size (.tup xs.reverse)) { z' with heap := z'.heap.push { cls := .type "tuple", data := .seq its.reverse.toArray } } :=
      I3.laid (t' := z'.toks) (fun b o e => Heap.get?_push_of_some _ e) (Nat.le_refl _) (show ObjOk X.prog X.w _ _ _ (.tup xs.reverse) from ⟨by simpa using hz, its.reverse, rv.reverse, IsTup.new _ _⟩)
    exact ⟨.ref z'.heap.objs.size, _, I4, rfl, q _ (I3.hok.fresh (Nat.le_refl _))⟩
end
section
variable {X : Cx}
def rCatA (K : PySem.W.Frag) : R2 := fun x y H Q => ∃ a b xs ys, x = .ref a /\ y = .ref b /\ SqT K H a xs /\ SqT K H b ys /\ xs.length + ys.length ≤ sizeLine /\
  (xs = [] -> Q (.ref b) H) /\ (xs ≠ [] -> ys = [] -> Q (.ref a) H) /\ (xs ≠ [] -> ys ≠ [] -> ∀ p, H p = none -> Q (.ref p) (upd H p (.tup (xs ++ ys))))
theorem op_catA : OpR X (binaryOp .Add) (rCatA X.K) := by
  intro pins s σ H x y v u Q I rx ry h
  obtain ⟨a, b, xs, ys, rfl, rfl, ha, hb, hz, q0, q1, q2⟩ := h
  by_cases hx : xs = []
  · cases rx
    cases ry
    obtain ⟨its, r1, p1, _⟩ := I.tuple ha
    obtain ⟨its2, r2, p2, _⟩ := I.tuple hb
    have e1 : its = [] := r1.nil_iff.mpr hx
    obtain ⟨⟨c1, d1, z1, l1⟩, g1, hc1, n1, hd1⟩ := id p1
    obtain ⟨⟨c2, d2, z2, l2⟩, g2, hc2, n2, hd2⟩ := id p2
    simp only at hc1 hd1 hc2 hd2
    subst hc1 hd1 hc2 hd2
    exact concat_meets ⟨_, g1, rfl⟩ ⟨_, g2, rfl⟩ noFill_tuple_add seq_tuple_add PySem.F.slot_tuple_add PySem.F.entry_tuple_add (PySem.F.args_tuple_add_2 _ _)
      (tuple_addW0 a b its.toArray its2.toArray n1 n2 d1 d2 l1 l2 (by simp [e1])) ⟨g1, g2, .ref b, H, I, rfl, q0 hx⟩
  · exact op_catT pins s σ H _ _ v u Q I rx ry ⟨a, b, xs, ys, rfl, rfl, ha, hb, hx, hz, q1 hx, q2 hx⟩
def eqVs : List V -> List V -> Bool
  | [], [] => true
  | x :: xs, y :: ys => eqV x y && eqVs xs ys
  | _, _ => false
theorem z5s : ∀ {xs ys : List V}, xs.length ≠ ys.length -> eqVs xs ys = false
  | [], [], h => absurd rfl h
  | x :: xs, y :: ys, h => by
    have e : xs.length ≠ ys.length := fun z => h (by simp [z])
    simp [eqVs, z5s e]
  | [], _ :: _, _ => rfl
  | _ :: _, [], _ => rfl
def eqAtI (xs ys : List V) (j : Nat) : Bool := match xs[j]?, ys[j]? with | some x, some y => eqV x y | _, _ => false
theorem z5t : ∀ {xs ys : List V}, xs.length = ys.length -> (List.range xs.length).all (eqAtI xs ys) = eqVs xs ys
  | [], [], _ => rfl
  | x :: xs, y :: ys, h => by
    have e : xs.length = ys.length := by simpa using h
    rw [List.length_cons, List.range_succ_eq_map, List.all_cons, List.all_map]
    have z : (eqAtI (x :: xs) (y :: ys) ∘ Nat.succ) = eqAtI xs ys := by funext j; simp [eqAtI]
    rw [z, z5t e]
    rfl
  | [], _ :: _, h => by cases h
  | _ :: _, [], h => by cases h
theorem eqAtI_ok {A : Around} {s : Shared} {xs ys : List V} {us ws : List Value} (r1 : Vals xs us) (r2 : Vals ys ws) (f1 : xs.all flatV = true) (f2 : ys.all flatV = true) (j : Nat) (h1 : j < us.toArray.size) (h2 : j < ws.toArray.size) :
    SeqAt.EqAt A s us.toArray[j] ws.toArray[j] (eqAtI xs ys j) := by
  have l1 := r1.length
  have l2 := r2.length
  have k1 : j < xs.length := by rw [l1]; simpa using h1
  have k2 : j < ys.length := by rw [l2]; simpa using h2
  obtain ⟨u, hu, ru⟩ := r1.get (List.getElem?_eq_getElem k1)
  obtain ⟨v, hv, rv⟩ := r2.get (List.getElem?_eq_getElem k2)
  have e1 : us.toArray[j] = u := by
    have z : us[j]? = some (us[j]'(by simpa using h1)) := List.getElem?_eq_getElem _
    rw [z] at hu
    simpa using hu
  have e2 : ws.toArray[j] = v := by
    have z : ws[j]? = some (ws[j]'(by simpa using h2)) := List.getElem?_eq_getElem _
    rw [z] at hv
    simpa using hv
  rw [e1, e2]
  have e3 : eqAtI xs ys j = eqV xs[j] ys[j] := by simp [eqAtI, k1, k2]
  rw [e3]
  exact eqAt_V ru rv (List.all_eq_true.mp f1 _ (List.getElem_mem k1)) (List.all_eq_true.mp f2 _ (List.getElem_mem k2))
def rEqL (K : PySem.W.Frag) : R2 := fun x y H Q => ∃ a b xs ys, x = .ref a /\ y = .ref b /\ SqL K H a xs /\ SqL K H b ys /\ xs.all flatV = true /\ ys.all flatV = true /\ Q (.bl (eqVs xs ys)) H
def rEqT (K : PySem.W.Frag) : R2 := fun x y H Q => ∃ a b xs ys, x = .ref a /\ y = .ref b /\ SqT K H a xs /\ SqT K H b ys /\ xs.all flatV = true /\ ys.all flatV = true /\ Q (.bl (eqVs xs ys)) H
theorem op_eqT (hu : X.A.units < cLine) : OpR X (compareOp .Eq) (rEqT X.K) := by
  intro pins s σ H x y v u Q I rx ry h
  obtain ⟨a, b, xs, ys, rfl, rfl, ha, hb, f1, f2, q⟩ := h
  cases rx
  cases ry
  obtain ⟨us, r1, p1, _⟩ := I.tuple ha
  obtain ⟨ws, r2, p2, _⟩ := I.tuple hb
  refine SeqAt.eq_tupleAt (show s.heap.IsTuple a us.toArray from p1) (show s.heap.IsTuple b ws.toArray from p2) (e := eqAtI xs ys) hu (eqAtI_ok r1 r2 f1 f2) ?_
  have e1 : us.toArray.size = xs.length := by simp [r1.length]
  have e2 : ws.toArray.size = ys.length := by simp [r2.length]
  rw [e1, e2]
  by_cases hl : xs.length = ys.length
  · have z : ((List.range (min xs.length ys.length)).all (eqAtI xs ys) && xs.length == ys.length) = eqVs xs ys := by
      rw [← hl, Nat.min_self, z5t hl]; simp
    rw [z]
    exact ⟨.bl _, H, I, rfl, q⟩
  · have z : ((List.range (min xs.length ys.length)).all (eqAtI xs ys) && xs.length == ys.length) = eqVs xs ys := by
      rw [z5s hl]; simp [hl]
    rw [z]
    exact ⟨.bl _, H, I, rfl, q⟩
theorem z1h : ∀ (ns : List Int), (ns.map V.int).all flatV = true
  | [] => rfl
  | n :: ns => by simp [flatV]
theorem z5e : CallR X (.builtin "isinstance") (fun xs H Q => ∃ a ys, xs = [.ref a, .ty "tuple"] /\ H a = some (.tup ys) /\ Q (.bl true) H) := by
  intro pins s σ H xs us Q I r h
  obtain ⟨a, ys, rfl, ha, q⟩ := h
  exact call_isi pins s σ H _ us Q I r ⟨.ref a, "tuple", .type "tuple", true, rfl, .tup ha, kit_type (by decide +kernel), q⟩
end
section
variable {pg : Program} {wd : World} {B : Around} {X0 : Value -> Shared -> Prop} {s0 : Shared}
theorem z4i {j t : Addr} {k : Nat} {its : Array Value} {x : Value} {R : Value -> Shared -> Prop} (p : s0.heap.IsTupleIter j t k) (q : s0.heap.IsTuple t its) (e : its[k]? = some x)
    (f : ∀ h', h'.IsTupleIter j t (k + 1) -> Heap.SameBut j s0.heap h' -> R x { s0 with heap := h' }) : wpAny (model pg wd) B (Builtin.SmallTypes.nextOf (.ref j)) R X0 s0 := by
  obtain ⟨o, g, c, d⟩ := id p
  obtain ⟨ot, gt, _, nt, dt⟩ := q
  unfold Builtin.SmallTypes.nextOf
  refine wpAny_bind (wpAny_callSpecial?_slot (name := Str.ofString "__next__") p.typeIs F.slot_tuple_iterator_next (wpAny_call_entry F.slot_tuple_iterator_next p.typeIs F.entry_tuple_iterator_next ?_ (F.args_tuple_iterator_next_1 _)))
  show wpAny _ _ (field (.ref j) 0 >>= _) _ _ s0
  refine wpAny_bind (wpAny_field g d (x := .ref t) rfl ?_)
  show wpAny _ _ (if (Value.ref t == Value.none) = true then _ else _) _ _ s0
  rw [if_neg (show ¬ ((Value.ref t == Value.none) = true) from Bool.false_ne_true)]
  show wpAny _ _ (field (.ref j) 1 >>= _) _ _ s0
  refine wpAny_bind (wpAny_field g d (x := .int k 0) rfl ?_)
  show wpAny _ _ (seqItems? (.ref t) >>= _) _ _ s0
  refine wpAny_bind (wpAny_seqItems gt dt ?_)
  simp only [Int.toNat_natCast, e]
  refine wpAny_bind (wpAny_setField g d (by simp) (wpAny_pure ⟨x, rfl, wpAny_pure (f _ ?_ (Heap.SameBut.update ..))⟩))
  exact ⟨_, Heap.get?_update_self _ g (Obj.isFreed_of_fields (Obj.data_mapFields d _)), (Obj.cls_mapFields ..).trans c, by rw [Obj.data_mapFields d]; simp [rawInt]⟩
theorem z7c {j t : Addr} {k : Nat} {its : Array Value} {R : Value -> Shared -> Prop} (hh : B.handled = none) (p : s0.heap.IsTupleIter j t k) (q : s0.heap.IsTuple t its) (e : its[k]? = none)
    (f : ∀ h' z, Heap.ExtBut j s0.heap h' -> (∃ o, h'.get? z = some o /\ o.cls = .type "StopIteration") -> X0 (.ref z) { s0 with heap := h' }) : wpAny (model pg wd) B (Builtin.SmallTypes.nextOf (.ref j)) R X0 s0 := by
  obtain ⟨o, g, c, d⟩ := id p
  obtain ⟨ot, gt, _, nt, dt⟩ := q
  unfold Builtin.SmallTypes.nextOf
  refine wpAny_bind (wpAny_callSpecial?_slot (name := Str.ofString "__next__") p.typeIs F.slot_tuple_iterator_next (wpAny_call_entry F.slot_tuple_iterator_next p.typeIs F.entry_tuple_iterator_next ?_ (F.args_tuple_iterator_next_1 _)))
  show wpAny _ _ (field (.ref j) 0 >>= _) _ _ s0
  refine wpAny_bind (wpAny_field g d (x := .ref t) rfl ?_)
  show wpAny _ _ (if (Value.ref t == Value.none) = true then _ else _) _ _ s0
  rw [if_neg (show ¬ ((Value.ref t == Value.none) = true) from Bool.false_ne_true)]
  show wpAny _ _ (field (.ref j) 1 >>= _) _ _ s0
  refine wpAny_bind (wpAny_field g d (x := .int k 0) rfl ?_)
  show wpAny _ _ (seqItems? (.ref t) >>= _) _ _ s0
  refine wpAny_bind (wpAny_seqItems gt dt ?_)
  simp only [Int.toNat_natCast, e]
  refine wpAny_bind (wpAny_rule (wpAny_bind (wpAny_setField g d (by simp) ?_)))
  show wpAny _ _ (newExc (.type "StopIteration") [] >>= _) _ _ _
  refine wpAny_bind ?_
  simp only [newExc, newTuple]
  refine wpAny_bind (wpAny_newObj_type ?_ (by size_fits))
  refine wpAny_bind (m := firstArgMember _ _) (wpAny_of_eq (a := Value.none) (by first | rfl | (simp only [firstArgMember]; rfl)) ?_)
  refine wpAny_newObj_type ?_ (by size_fits)
  simp only [raiseNew]
  refine wpAny_bind (wpAny_handled ?_)
  first | rw [show B.in1.handled = none from hh] | rw [hh]
  refine wpAny_bind (wpAny_pure (wpAny_throw ?_))
  exact f _ _ (((Heap.SameBut.update ..).extBut.push _).push _) ⟨_, Heap.get?_push_size _ rfl, rfl⟩
structure Apart5 (z ti ox j1 j2 t1 t2 : Addr) : Prop where
  ti_z : ti ≠ z
  ox_z : ox ≠ z
  j1_z : j1 ≠ z
  j2_z : j2 ≠ z
  ti_ox : ti ≠ ox
  ti_j1 : ti ≠ j1
  ti_j2 : ti ≠ j2
  ox_j1 : ox ≠ j1
  ox_j2 : ox ≠ j2
  j12 : j1 ≠ j2
  t1_z : t1 ≠ z
  t1_ox : t1 ≠ ox
  t1_j1 : t1 ≠ j1
  t1_j2 : t1 ≠ j2
  t2_z : t2 ≠ z
  t2_ox : t2 ≠ ox
  t2_j1 : t2 ≠ j1
  t2_j2 : t2 ≠ j2
def But4 (z ox j1 j2 : Addr) (h h' : Heap) : Prop := ∀ c o, c ≠ z -> c ≠ ox -> c ≠ j1 -> c ≠ j2 -> h.get? c = some o -> h'.get? c = some o
theorem z1y {h h' : Heap} {j t : Addr} {k : Nat} (p : h.IsTupleIter j t k) (f : ∀ o, h.get? j = some o -> h'.get? j = some o) : h'.IsTupleIter j t k := let ⟨o, g, r⟩ := p; ⟨o, f o g, r⟩
theorem z6v {h h' : Heap} {t : Addr} {its : Array Value} (p : h.IsTuple t its) (f : ∀ o, h.get? t = some o -> h'.get? t = some o) : h'.IsTuple t its := let ⟨o, g, r⟩ := p; ⟨o, f o g, r⟩
theorem zipT_item {z ti ox j1 j2 t1 t2 : Addr} {k : Nat} {as bs : Array Value} {x y u v : Value} {R : Option Value -> Shared -> Prop} (ap : Apart5 z ti ox j1 j2 t1 t2) (hz : IsZip s0.heap z ti ox .none) (hi : IsPair s0.heap ti (.ref j1) (.ref j2)) (ho : IsPair s0.heap ox u v)
    (p1 : s0.heap.IsTupleIter j1 t1 k) (p2 : s0.heap.IsTupleIter j2 t2 k) (q1 : s0.heap.IsTuple t1 as) (q2 : s0.heap.IsTuple t2 bs) (e1 : as[k]? = some x) (e2 : bs[k]? = some y)
    (f : ∀ h', IsZip h' z ti ox (rawInt s0.heap.objs.size) -> IsPair h' ox x y -> h'.IsTupleIter j1 t1 (k + 1) -> h'.IsTupleIter j2 t2 (k + 1) -> IsPair h' s0.heap.objs.size x y -> But4 z ox j1 j2 s0.heap h' -> R (some (.ref s0.heap.objs.size)) { s0 with heap := h' }) :
    wpAny (model pg wd) B (pyNext (.ref z)) R X0 s0 := by
  have ty : s0.TypeIs (.ref z) "zip" := ⟨_, hz, rfl⟩
  unfold pyNext
  refine wpAny_bind (wpAny_attempt (wpAny_callSpecial?_slot (name := Str.ofString "__next__") ty F.slot_zip_next (wpAny_call_entry F.slot_zip_next ty F.entry_zip_next ?_ (F.args_zip_next_1 _))))
  show wpAny _ _ (field (.ref z) 2 >>= _) _ _ _
  refine wpAny_bind (wpAny_field hz rfl (x := .bool false) rfl ?_)
  show wpAny _ _ (field (.ref z) 3 >>= _) _ _ _
  refine wpAny_bind (wpAny_field hz rfl (x := .ref ti) rfl ?_)
  refine wpAny_bind (wpAny_seqItems hi rfl ?_)
  show wpAny _ _ (Builtin.SmallTypes.ownedTupleIsFree (.ref z) >>= _) _ _ _
  refine wpAny_bind ?_
  unfold Builtin.SmallTypes.ownedTupleIsFree
  refine wpAny_bind (wpAny_field hz rfl (x := .none) rfl (wpAny_pure ?_))
  simp only [if_true]
  refine wpAny_bind (wpAny_rule ?_)
  refine wpAny_bind (wpAny_field hz rfl (x := .ref ox) rfl ?_)
  refine wpAny_bind (wpAny_setField_rec hz (by simp) fun m1 zm1 sb1 => ?_)
  have zm1 : IsZip m1 z ti ox .ellipsis := zm1
  refine wpAny_bind ?_
  simp only [List.zipIdx_cons, List.zipIdx_nil, List.forIn_cons, List.forIn_nil]
  refine wpAny_bind (wpAny_bind (wpAny_onRaise ?_))
  show wpAny _ _ (Builtin.SmallTypes.nextOf (.ref j1) >>= _) _ _ _
  refine wpAny_bind (z4i (z1y p1 fun o g => sb1.extBut _ _ ap.j1_z g) (z6v q1 fun o g => sb1.extBut _ _ ap.t1_z g) e1 fun m2 pm2 sb2 => wpAny_pure ?_)
  have om2 : IsPair m2 ox u v := sb2.extBut _ _ ap.ox_j1 (sb1.extBut _ _ ap.ox_z ho)
  refine wpAny_bind (wpAny_seqItems om2 rfl ?_)
  refine wpAny_bind (wpAny_updateSeq_pair om2 fun m3 om3 sb3 => ?_)
  have om3 : IsPair m3 ox x v := om3
  refine wpAny_bind (wpAny_letGo (wpAny_pure ?_))
  refine wpAny_bind (wpAny_bind (wpAny_onRaise ?_))
  show wpAny _ _ (Builtin.SmallTypes.nextOf (.ref j2) >>= _) _ _ _
  have to3 : ∀ c o, c ≠ z -> c ≠ ox -> c ≠ j1 -> s0.heap.get? c = some o -> m3.get? c = some o := fun c o a1 a2 a3 g => sb3.extBut _ _ a2 (sb2.extBut _ _ a3 (sb1.extBut _ _ a1 g))
  refine wpAny_bind (z4i (z1y p2 fun o g => to3 _ o ap.j2_z ap.ox_j2.symm ap.j12.symm g) (z6v q2 fun o g => to3 _ o ap.t2_z ap.t2_ox ap.t2_j1 g) e2 fun m4 pm4 sb4 => wpAny_pure ?_)
  have om4 : IsPair m4 ox x v := sb4.extBut _ _ ap.ox_j2 om3
  refine wpAny_bind (wpAny_seqItems om4 rfl ?_)
  refine wpAny_bind (wpAny_updateSeq_pair om4 fun m5 om5 sb5 => ?_)
  have om5 : IsPair m5 ox x y := om5
  refine wpAny_bind (wpAny_letGo (wpAny_pure (wpAny_pure ?_)))
  refine wpAny_bind (wpAny_seqItems om5 rfl ?_)
  refine wpAny_bind (wpAny_newTuple ?_)
  have sz5 : m5.objs.size = s0.heap.objs.size := by rw [sb5.1, sb4.1, sb3.1, sb2.1, sb1.1]
  have zm5 : IsZip m5 z ti ox .ellipsis := sb5.extBut _ _ ap.ox_z.symm (sb4.extBut _ _ ap.j2_z.symm (sb3.extBut _ _ ap.ox_z.symm (sb2.extBut _ _ ap.j1_z.symm zm1)))
  have to5 : But4 z ox j1 j2 s0.heap m5 := fun c o a1 a2 a3 a4 g => sb5.extBut _ _ a2 (sb4.extBut _ _ a4 (to3 c o a1 a2 a3 g))
  have pj1 : m5.IsTupleIter j1 t1 (k + 1) := z1y pm2 fun o g => sb5.extBut _ _ ap.ox_j1.symm (sb4.extBut _ _ ap.j12 (sb3.extBut _ _ ap.ox_j1.symm g))
  have pj2 : m5.IsTupleIter j2 t2 (k + 1) := z1y pm4 fun o g => sb5.extBut _ _ ap.ox_j2.symm g
  have zlt : z < m5.objs.size := Heap.lt_size zm5
  show wpAny _ _ (Builtin.SmallTypes.ownedTupleHandOut (.ref z) (.ref m5.objs.size) >>= _) _ _ _
  refine wpAny_bind ?_
  unfold Builtin.SmallTypes.ownedTupleHandOut
  have zm6 : IsZip (m5.push { cls := .type "tuple", data := .seq #[x, y] }) z ti ox .ellipsis := Heap.get?_push_of_some _ zm5
  refine wpAny_bind (wpAny_setField_rec zm6 (by simp) fun m7 zm7 sb7 => ?_)
  have zm7 : IsZip m7 z ti ox (rawInt m5.objs.size) := zm7
  refine wpAny_setField_rec zm7 (by simp) fun m8 zm8 sb8 => ?_
  have zm8 : IsZip m8 z ti ox (rawInt m5.objs.size) := zm8
  have to8 : ∀ c o, c ≠ z -> m5.get? c = some o -> m8.get? c = some o := fun c o a1 g => sb8.extBut _ _ a1 (sb7.extBut _ _ a1 (Heap.get?_push_of_some _ g))
  have np8 : IsPair m8 m5.objs.size x y := sb8.extBut _ _ (Nat.ne_of_gt zlt) (sb7.extBut _ _ (Nat.ne_of_gt zlt) (Heap.get?_push_size _ rfl))
  rw [sz5] at zm8 np8
  refine wpAny_pure ⟨_, rfl, wpAny_pure ?_⟩
  show R (some (.ref m5.objs.size)) _
  rw [sz5]
  exact f m8 zm8 (to8 _ _ ap.ox_z om5) (z1y pj1 fun o g => to8 _ o ap.j1_z g) (z1y pj2 fun o g => to8 _ o ap.j2_z g) np8 fun c o a1 a2 a3 a4 g => to8 c o a1 (to5 c o a1 a2 a3 a4 g)
theorem zipT_end {z ti ox j1 j2 t1 t2 : Addr} {k : Nat} {as bs : Array Value} {u v : Value} {R : Option Value -> Shared -> Prop} (hh : B.handled = none) (ap : Apart5 z ti ox j1 j2 t1 t2) (hz : IsZip s0.heap z ti ox .none) (hi : IsPair s0.heap ti (.ref j1) (.ref j2)) (ho : IsPair s0.heap ox u v)
    (p1 : s0.heap.IsTupleIter j1 t1 k) (p2 : s0.heap.IsTupleIter j2 t2 k) (q1 : s0.heap.IsTuple t1 as) (q2 : s0.heap.IsTuple t2 bs) (hend : as[k]? = none \/ bs[k]? = none)
    (f : ∀ h', But4 z ox j1 j2 s0.heap h' -> R none { s0 with heap := h' }) : wpAny (model pg wd) B (pyNext (.ref z)) R X0 s0 := by
  have ty : s0.TypeIs (.ref z) "zip" := ⟨_, hz, rfl⟩
  have last : ∀ (h' : Heap) (e : Addr), But4 z ox j1 j2 s0.heap h' -> (∃ o, h'.get? e = some o /\ o.cls = .type "StopIteration") -> wpAny (model pg wd) B (do if ← isInstance (.ref e) (.type "StopIteration") then pure none else throw (.ref e)) R X0 { s0 with heap := h' } := fun h' e bt ⟨o, g, c⟩ =>
    wpAny_bind (wpAny_isInstance (T := "StopIteration") (b := true) ⟨o, g, c⟩ isSubtype_stop (wpAny_pure (f _ bt)))
  unfold pyNext
  refine wpAny_bind (wpAny_attempt (wpAny_callSpecial?_slot (name := Str.ofString "__next__") ty F.slot_zip_next (wpAny_call_entry F.slot_zip_next ty F.entry_zip_next ?_ (F.args_zip_next_1 _))))
  show wpAny _ _ (field (.ref z) 2 >>= _) _ _ _
  refine wpAny_bind (wpAny_field hz rfl (x := .bool false) rfl ?_)
  show wpAny _ _ (field (.ref z) 3 >>= _) _ _ _
  refine wpAny_bind (wpAny_field hz rfl (x := .ref ti) rfl ?_)
  refine wpAny_bind (wpAny_seqItems hi rfl ?_)
  show wpAny _ _ (Builtin.SmallTypes.ownedTupleIsFree (.ref z) >>= _) _ _ _
  refine wpAny_bind ?_
  unfold Builtin.SmallTypes.ownedTupleIsFree
  refine wpAny_bind (wpAny_field hz rfl (x := .none) rfl (wpAny_pure ?_))
  simp only [if_true]
  refine wpAny_bind (wpAny_rule ?_)
  refine wpAny_bind (wpAny_field hz rfl (x := .ref ox) rfl ?_)
  refine wpAny_bind (wpAny_setField_rec hz (by simp) fun m1 zm1 sb1 => ?_)
  have zm1 : IsZip m1 z ti ox .ellipsis := zm1
  refine wpAny_bind ?_
  simp only [List.zipIdx_cons, List.zipIdx_nil, List.forIn_cons, List.forIn_nil]
  refine wpAny_bind (wpAny_bind (wpAny_onRaise ?_))
  show wpAny _ _ (Builtin.SmallTypes.nextOf (.ref j1) >>= _) _ _ _
  cases e1 : as[k]? with
  | none =>
    refine wpAny_bind (z7c hh (z1y p1 fun o g => sb1.extBut _ _ ap.j1_z g) (z6v q1 fun o g => sb1.extBut _ _ ap.t1_z g) e1 fun m2 e xb he => ?_)
    obtain ⟨oe, ge, ce⟩ := he
    have zm2 : IsZip m2 z ti ox .ellipsis := xb _ _ ap.j1_z.symm zm1
    have ez : e ≠ z := fun q => by subst q; rw [zm2] at ge; cases ge; simp at ce
    exact wpAny_setField_rec zm2 (by simp) fun m3 _ sb3 => last m3 e (fun c o a1 _ a3 _ g => sb3.extBut _ _ a1 (xb _ _ a3 (sb1.extBut _ _ a1 g))) ⟨oe, sb3.extBut _ _ ez ge, ce⟩
  | some x =>
    have e2 : bs[k]? = none := by rcases hend with q | q; rw [e1] at q; cases q; exact q
    refine wpAny_bind (z4i (z1y p1 fun o g => sb1.extBut _ _ ap.j1_z g) (z6v q1 fun o g => sb1.extBut _ _ ap.t1_z g) e1 fun m2 pm2 sb2 => wpAny_pure ?_)
    have om2 : IsPair m2 ox u v := sb2.extBut _ _ ap.ox_j1 (sb1.extBut _ _ ap.ox_z ho)
    refine wpAny_bind (wpAny_seqItems om2 rfl ?_)
    refine wpAny_bind (wpAny_updateSeq_pair om2 fun m3 om3 sb3 => ?_)
    refine wpAny_bind (wpAny_letGo (wpAny_pure ?_))
    refine wpAny_bind (wpAny_bind (wpAny_onRaise ?_))
    show wpAny _ _ (Builtin.SmallTypes.nextOf (.ref j2) >>= _) _ _ _
    have to3 : ∀ c o, c ≠ z -> c ≠ ox -> c ≠ j1 -> s0.heap.get? c = some o -> m3.get? c = some o := fun c o a1 a2 a3 g => sb3.extBut _ _ a2 (sb2.extBut _ _ a3 (sb1.extBut _ _ a1 g))
    refine wpAny_bind (z7c hh (z1y p2 fun o g => to3 _ o ap.j2_z ap.ox_j2.symm ap.j12.symm g) (z6v q2 fun o g => to3 _ o ap.t2_z ap.t2_ox ap.t2_j1 g) e2 fun m4 e xb he => ?_)
    obtain ⟨oe, ge, ce⟩ := he
    have zm4 : IsZip m4 z ti ox .ellipsis := xb _ _ ap.j2_z.symm (sb3.extBut _ _ ap.ox_z.symm (sb2.extBut _ _ ap.j1_z.symm zm1))
    have ez : e ≠ z := fun q => by subst q; rw [zm4] at ge; cases ge; simp at ce
    exact wpAny_setField_rec zm4 (by simp) fun m5 _ sb5 => last m5 e (fun c o a1 a2 a3 a4 g => sb5.extBut _ _ a1 (xb _ _ a4 (to3 c o a1 a2 a3 g))) ⟨oe, sb5.extBut _ _ ez ge, ce⟩
end
theorem Inv.turnedL {X : Cx} {pins : List (Addr × Obj)} {σ : St} {H : Hp} {s : Shared} {h' : Heap} {t' : Nat} {fl : List Addr} (I : Inv X pins σ H s) (kk : ∀ b o, b ∉ fl -> s.heap.get? b = some o -> h'.get? b = some o) (fo : ∀ b ∈ fl, FpOk X pins H b) : Inv X pins σ H { s with heap := h', toks := t' } := by
  have out : ∀ b u, H b = some u -> b ∉ fl := fun b u e z => by rw [(fo b z).1] at e; cases e
  refine I.step (g' := s.gens) (d' := s.drawn) (ch := fl) (fun b hb => ?_) (fun b o _ _ hc e _ => kk b o hc e) (fun b o _ _ hc e _ => ⟨o.slots, kk b o hc e⟩) (fun _ _ _ _ q => q)
    (fun b o hc e => ⟨o, kk b o hc e⟩) (fun _ _ e => e) (fun _ _ _ e => e) (fun b ps e => ⟨#[], by rw [e]; simp⟩) (fun m hm => ?_) (fun b u e => ?_) I.bare
  · obtain ⟨_, f1, _, f3, f4, f5⟩ := fo b hb
    exact ⟨f3, f1, f4, f5⟩
  · obtain ⟨o, es, ep, ho, r⟩ := hm
    exact ⟨o, es, ep, kk _ o (fun z => (fo _ z).2.1 rfl) ho, r⟩
  · refine (I.hok b u e).stay (fun c v hc q => kk c v ?_ q) (fun _ q => q) fun _ _ q => q
    rcases hc with z | z
    · rw [z]; exact out b u e
    · exact out c _ z
def Itz (K : PySem.W.Frag) (a b : Addr) : It := ⟨fun i H => ∃ xs ys x y, SqT K H a xs /\ SqT K H b ys /\ xs[i]? = some x /\ ys[i]? = some y,
  fun i H v H' => ∃ T x y, v = .ref T /\ H T = none /\ H' = upd H T (.tup [x, y]) /\ ∀ xs ys, SqT K H a xs -> SqT K H b ys -> xs[i]? = some x /\ ys[i]? = some y, fun i H => ∃ xs ys, SqT K H a xs /\ SqT K H b ys /\ (xs.length ≤ i \/ ys.length ≤ i)⟩
theorem turn_zip {P : Program} {w : World} {K : PySem.W.Frag} {es : List Expr} {x1 : Nat} {pp : Pos} {a b z ti ox j1 j2 : Addr} (ap : Apart5 z ti ox j1 j2 a b) :
    Turn P w K (.Tuple es x1 pp) (Itz K a b) [z, ti, ox, j1, j2] z (fun i h => IsZip h z ti ox .none /\ IsPair h ti (.ref j1) (.ref j2) /\ (∃ u v, IsPair h ox u v) /\ h.IsTupleIter j1 a i /\ h.IsTupleIter j2 b i) where
  mem := by simp
  obj := fun i h q c hc => by
    obtain ⟨q1, q2, ⟨u, v, q3⟩, ⟨o4, g4, _, d4⟩, ⟨o5, g5, _, d5⟩⟩ := q
    simp only [List.mem_cons, List.not_mem_nil, or_false] at hc
    rcases hc with rfl | rfl | rfl | rfl | rfl
    · exact ⟨_, q1, fun v z => nomatch z⟩
    · exact ⟨_, q2, fun v z => nomatch z⟩
    · exact ⟨_, q3, fun v z => nomatch z⟩
    · exact ⟨_, g4, fun v z => by rw [d4] at z; cases z⟩
    · exact ⟨_, g5, fun v z => by rw [d5] at z; cases z⟩
  keep := fun i h h' q k => by
    obtain ⟨q1, q2, ⟨u, v, q3⟩, q4, q5⟩ := q
    exact ⟨k _ (by simp) _ q1, k _ (by simp) _ q2, ⟨u, v, k _ (by simp) _ q3⟩, z1y q4 fun o g => k _ (by simp) o g, z1y q5 fun o g => k _ (by simp) o g⟩
  item := by
    intro X hP hw hK hc i pins s σ H E I hf st hg
    subst hP hw hK
    obtain ⟨xs, ys, x, y, hq1, hq2, hx, hy⟩ := hg
    obtain ⟨q1, q2, ⟨u, v, q3⟩, q4, q5⟩ := st
    obtain ⟨as, ra, pa, za⟩ := I.tuple hq1
    obtain ⟨bs, rb, pb, zb⟩ := I.tuple hq2
    obtain ⟨ux, hux, rux⟩ := ra.get hx
    obtain ⟨uy, huy, ruy⟩ := rb.get hy
    refine zipT_item ap q1 q2 q3 q4 q5 (show s.heap.IsTuple a as.toArray from pa) (show s.heap.IsTuple b bs.toArray from pb) (x := ux) (y := uy) (by simpa using hux) (by simpa using huy) fun h' zz oo p1' p2' np bt => ?_
    have I1 : Inv X pins σ H { s with heap := h' } := I.turnedL (t' := s.toks) (fl := [z, ti, ox, j1, j2]) (fun c o hc e => by
      simp only [List.mem_cons, List.not_mem_nil, or_false, not_or] at hc
      exact bt c o hc.1 hc.2.2.1 hc.2.2.2.1 hc.2.2.2.2 e) hf
    obtain ⟨f0, f1, f2, f3, f4, f5⟩ := I.fpOk (Nat.le_refl s.heap.objs.size) (I.hok.fresh (Nat.le_refl _))
    have n0 : X.s₀.heap.get? s.heap.objs.size = none := by
      cases q : X.s₀.heap.get? s.heap.objs.size with
      | none => rfl
      | some o => exact absurd (Nat.lt_of_lt_of_le (Heap.lt_size q) I.sz) (Nat.lt_irrefl _)
    have I2 : Inv X pins σ (upd H s.heap.objs.size (.tup [x, y])) { s with heap := h' } := I1.track f0 ⟨small (by simp), [ux, uy], .cons rux (.cons ruy .nil), ⟨_, np, rfl, _, rfl⟩⟩ f1 f4 f5 n0
    have lt : ∀ {c o}, s.heap.get? c = some o -> c ≠ s.heap.objs.size := fun e => Nat.ne_of_lt (Heap.lt_size e)
    have hzT : z ≠ s.heap.objs.size := lt q1
    have ti2 : IsPair h' ti (.ref j1) (.ref j2) := bt _ _ ap.ti_z ap.ti_ox ap.ti_j1 ap.ti_j2 q2
    obtain ⟨e0, e1, e2, e3, e4, e5⟩ := hf z (by simp)
    refine ⟨_, rfl, wpAny_letOwnedTupleGo_zip zz fun h2 z2 sb => ?_⟩
    have I3 : Inv X pins σ (upd H s.heap.objs.size (.tup [x, y])) { s with heap := h2 } := Inv.turned (s := { s with heap := h' }) (h' := h2) (t' := s.toks) (it := z) I2 (fun c o hc e => sb.extBut _ _ hc e) (by rw [z0x hzT]; exact e0) e1 e3 e4 e5
    refine ⟨.ref s.heap.objs.size, _, I3, rfl, ⟨_, x, y, rfl, f0, rfl, fun xs' ys' k1 k2 => ?_⟩, ⟨z2, sb.extBut _ _ ap.ti_z ti2, ⟨_, _, sb.extBut _ _ ap.ox_z oo⟩, z1y p1' fun o g => sb.extBut _ _ ap.j1_z g, z1y p2' fun o g => sb.extBut _ _ ap.j2_z g⟩, fun c hc => ?_⟩
    · rw [I.tuple_inj k1 hq1, I.tuple_inj k2 hq2]; exact ⟨hx, hy⟩
    · have cT : c ≠ s.heap.objs.size := by
        obtain ⟨o4, g4, _⟩ := q4
        obtain ⟨o5, g5, _⟩ := q5
        simp only [List.mem_cons, List.not_mem_nil, or_false] at hc
        rcases hc with rfl | rfl | rfl | rfl | rfl
        · exact hzT
        · exact lt q2
        · exact lt q3
        · exact lt g4
        · exact lt g5
      rw [z0x cT]; exact (hf c hc).1
  done := by
    intro X hP hw hK hc i pins s σ H E I hf st hg
    subst hP hw hK
    obtain ⟨xs, ys, hq1, hq2, hx⟩ := hg
    obtain ⟨q1, q2, ⟨u, v, q3⟩, q4, q5⟩ := st
    obtain ⟨as, ra, pa, za⟩ := I.tuple hq1
    obtain ⟨bs, rb, pb, zb⟩ := I.tuple hq2
    have la := ra.length
    have lb := rb.length
    refine zipT_end (I.ok.hd hc) ap q1 q2 q3 q4 q5 (show s.heap.IsTuple a as.toArray from pa) (show s.heap.IsTuple b bs.toArray from pb) (by rcases hx with q | q; exact .inl (by simp; omega); exact .inr (by simp; omega)) fun h' bt => ⟨rfl, ?_⟩
    exact I.turnedL (t' := s.toks) (fl := [z, ti, ox, j1, j2]) (fun c o hc e => by
      simp only [List.mem_cons, List.not_mem_nil, or_false, not_or] at hc
      exact bt c o hc.1 hc.2.2.1 hc.2.2.2.1 hc.2.2.2.2 e) hf
  self := fun _ _ _ _ _ st h => wpAny_pyIter_zip st.1 h
abbrev zt1 (h : Heap) (a : Addr) : Heap := h.push { cls := .type "tuple_iterator", data := .fields #[.ref a, .int 0 0] }
abbrev zt2 (h : Heap) (a b : Addr) : Heap := (zt1 h a).push { cls := .type "tuple_iterator", data := .fields #[.ref b, .int 0 0] }
abbrev zt3 (h : Heap) (a b : Addr) : Heap := (zt2 h a b).push { cls := .type "tuple", data := .seq #[.ref h.objs.size, .ref (zt1 h a).objs.size] }
abbrev zt4 (h : Heap) (a b : Addr) : Heap := (zt3 h a b).push { cls := .type "tuple", data := .seq #[.none, .none] }
abbrev zt5 (h : Heap) (a b : Addr) : Heap := (zt4 h a b).push { cls := .type "zip", data := .fields #[.none, .bool false, .bool false, .ref (zt2 h a b).objs.size, .ref (zt3 h a b).objs.size] }
theorem zipT_new (a b : Addr) (as bs : Array Value) : Meets (Builtin.«zip.__new__» ⟨[.type "zip", .ref a, .ref b], []⟩) (fun _ R s => s.heap.IsTuple a as /\ s.heap.IsTuple b bs /\ R (.ok (.ret (.ref (zt4 s.heap a b).objs.size))) { s with heap := zt5 s.heap a b }) :=
  .of_wp fun prog w A R s h => by
    obtain ⟨hp, g, d, tk, os⟩ := s
    obtain ⟨ha, hb, h⟩ := h
    have q0 := sub_zip
    have q1 : Heap.IsTuple (Shared.heap ⟨hp, g, d, tk, os⟩) a as := ha
    have q2 : Heap.IsTuple (Shared.heap ⟨hp.push { cls := .type "tuple_iterator", data := .fields #[.ref a, .int 0 0] }, g, d, tk, os⟩) b bs := z6v hb fun o e => Heap.get?_push_of_some _ e
    wp_walk using wpAny_pyIter_tuple q1, wpAny_pyIter_tuple q2
    exact ⟨_, rfl, h⟩
theorem zipT_call {pg : Program} {wd : World} {B : Around} {X0 : Value -> Shared -> Prop} {s0 : Shared} {a b : Addr} {as bs : Array Value} {R : Value -> Shared -> Prop} (ha : s0.heap.IsTuple a as) (hb : s0.heap.IsTuple b bs)
    (f : ∀ h', IsZip h' (s0.heap.objs.size + 4) (s0.heap.objs.size + 2) (s0.heap.objs.size + 3) .none -> IsPair h' (s0.heap.objs.size + 2) (.ref s0.heap.objs.size) (.ref (s0.heap.objs.size + 1)) -> IsPair h' (s0.heap.objs.size + 3) .none .none ->
      h'.IsTupleIter s0.heap.objs.size a 0 -> h'.IsTupleIter (s0.heap.objs.size + 1) b 0 -> (∀ c o, s0.heap.get? c = some o -> h'.get? c = some o) -> R (.ref (s0.heap.objs.size + 4)) { s0 with heap := h' }) :
    wpAny (model pg wd) B (call (.type "zip") [.ref a, .ref b]) R X0 s0 := by
  refine callType_new F.called_zip (by decide) (F.typeCall_zip_2 _ _) (F.newCall_zip_2 _ _) (fun ob => F.args_object_init_3 ob _ _) F.entry_zip_new (zipT_new a b as bs) ⟨ha, hb, ?_⟩
  have n1 : (zt1 s0.heap a).objs.size = s0.heap.objs.size + 1 := Heap.size_push ..
  have n2 : (zt2 s0.heap a b).objs.size = s0.heap.objs.size + 2 := by rw [Heap.size_push, n1]
  have n3 : (zt3 s0.heap a b).objs.size = s0.heap.objs.size + 3 := by rw [Heap.size_push, n2]
  have n4 : (zt4 s0.heap a b).objs.size = s0.heap.objs.size + 4 := by rw [Heap.size_push, n3]
  have g5 : (zt5 s0.heap a b).get? (zt4 s0.heap a b).objs.size = some _ := Heap.get?_push_size _ rfl
  have g4 : (zt5 s0.heap a b).get? (zt3 s0.heap a b).objs.size = some _ := Heap.get?_push_of_some _ (Heap.get?_push_size _ rfl)
  have g3 : (zt5 s0.heap a b).get? (zt2 s0.heap a b).objs.size = some _ := Heap.get?_push_of_some _ (Heap.get?_push_of_some _ (Heap.get?_push_size _ rfl))
  have g2 : (zt5 s0.heap a b).get? (zt1 s0.heap a).objs.size = some _ := Heap.get?_push_of_some _ (Heap.get?_push_of_some _ (Heap.get?_push_of_some _ (Heap.get?_push_size _ rfl)))
  have g1 : (zt5 s0.heap a b).get? s0.heap.objs.size = some _ := Heap.get?_push_of_some _ (Heap.get?_push_of_some _ (Heap.get?_push_of_some _ (Heap.get?_push_of_some _ (Heap.get?_push_size _ rfl))))
  show _ /\ _
  rw [n2, n3, n4] at g5
  rw [n1, n2] at g3
  rw [n3] at g4
  rw [n1] at g2
  rw [n4]
  exact ⟨⟨_, g5, rfl⟩, f _ g5 g3 g4 ⟨_, g1, rfl, rfl⟩ ⟨_, g2, rfl, rfl⟩ fun c o q => Heap.get?_push_of_some _ (Heap.get?_push_of_some _ (Heap.get?_push_of_some _ (Heap.get?_push_of_some _ (Heap.get?_push_of_some _ q))))⟩
theorem apart_of (n a b : Nat) (ha : a < n) (hb : b < n) : Apart5 (n + 4) (n + 2) (n + 3) n (n + 1) a b := by
  constructor <;> first | exact Nat.ne_of_lt (by omega) | exact Nat.ne_of_gt (by omega)
section
variable {X : Cx} {es : List Expr} {x1 : Nat} {pp : Pos}
def iZip (K : PySem.W.Frag) (ta : TA) : TI := fun σ H R => ta σ H fun vs H1 => ∃ a b xs ys, vs = [.ref a, .ref b] /\ SqT K H1 a xs /\ SqT K H1 b ys /\ R (Itz K a b) H1
theorem z7a {e1 e2 : Expr} {ta : TA} {p pos : Pos} (hg : Gl X "zip") (hm : X.mg "zip" = none) (ha : PA X [e1, e2] ta) (hs : starEach [e1, e2] X.env = [(false, eval e1 X.env), (false, eval e2 X.env)] := by rfl) (hs2 : starEach [e2] X.env = [(false, eval e2 X.env)] := by rfl) :
    PI X (.Tuple es x1 pp) (.Call (.Name "zip" p) [e1, e2] [] pos) (iZip X.K ta) := by
  intro pins s σ H R I h
  have hA := ha pos pins s σ H _ I h
  refine Call_ (z5h I hg hm boot_zip (PyProof.Rows.callWith_type1 (thn hA fun us s1 ⟨vs, H1, I1, r1, q1⟩ => ?_) (by rw [hs, hs2]) (by rw [hs2]; rfl)))
  obtain ⟨a, b, xs, ys, rfl, ha, hb, q⟩ := q1
  obtain ⟨u, u', rfl, ra, rb⟩ := vals2 r1
  cases (show u = Value.ref a from ra)
  cases (show u' = Value.ref b from rb)
  obtain ⟨as, va, pa, za⟩ := I1.tuple ha
  obtain ⟨bs, vb, pb, zb⟩ := I1.tuple hb
  have al : a < s1.heap.objs.size := by obtain ⟨o, g, _⟩ := pa; exact Heap.lt_size g
  have bl : b < s1.heap.objs.size := by obtain ⟨o, g, _⟩ := pb; exact Heap.lt_size g
  refine zipT_call (show s1.heap.IsTuple a as.toArray from pa) (show s1.heap.IsTuple b bs.toArray from pb) fun h' w1 w2 w3 w4 w5 kk => ?_
  have I2 : Inv X pins σ H1 { s1 with heap := h' } := I1.kept (t' := s1.toks) kk
  have ap := apart_of s1.heap.objs.size a b al bl
  refine wpAny_pyIter_zip w1 ⟨s1.heap.objs.size + 4, [s1.heap.objs.size + 4, s1.heap.objs.size + 2, s1.heap.objs.size + 3, s1.heap.objs.size, s1.heap.objs.size + 1], _, _, H1, rfl, I2, turn_zip ap, ⟨w1, w2, ⟨_, _, w3⟩, w4, w5⟩, fun c hc => ?_, q⟩
  have ge : s1.heap.objs.size ≤ c := by
    simp only [List.mem_cons, List.not_mem_nil, or_false] at hc
    rcases hc with rfl | rfl | rfl | rfl | rfl <;> omega
  exact I1.fpOk ge (I1.hok.fresh ge)
end
def LoopZ (K : PySem.W.Frag) (g : TG) (tb : TS) (D : Ends) (σ : St) (vs : List V) (H1 : Hp) : Prop := ∃ a b xs ys, vs = [.ref a, .ref b] /\ SqT K H1 a xs /\ SqT K H1 b ys /\ ∃ W : Nat -> Nat -> St -> Hp -> Prop, (∃ m, W 0 m σ H1) /\ ∀ i m σ H, W i m σ H ->
  ((Itz K a b).stop i H /\ D.nx σ H) \/ ((Itz K a b).go i H /\ ∃ N : St -> Hp -> Prop, (∀ σ' H', N σ' H' -> ∃ m', m' < m /\ W (i + 1) m' σ' H') /\ ∀ x H', (Itz K a b).yld i H x H' -> g x σ H' fun σ2 H2 => tb { D with nx := N, ct := N, bk := D.nx } σ2 H2)
theorem for_eqZ {K : PySem.W.Frag} {ta : TA} {g : TG} {tb : TS} {D : Ends} {σ : St} {H : Hp} : tFor (iZip K ta) g tb D σ H = ta σ H fun vs H1 => LoopZ K g tb D σ vs H1 := rfl
theorem LoopZ.mk {K : PySem.W.Frag} {a b : Addr} {xs ys : List V} {g : TG} {tb : TS} {D : Ends} {σ : St} {H : Hp} (n : Nat) (hn : n = min xs.length ys.length) (h1 : SqT K H a xs) (h2 : SqT K H b ys) (Pv : Nat -> St -> Hp -> Prop) (h0 : Pv 0 σ H) (hl : ∀ i σ H, i ≤ n -> Pv i σ H -> SqT K H a xs /\ SqT K H b ys)
    (hs : ∀ i x y σ H T, i < n -> xs[i]? = some x -> ys[i]? = some y -> Pv i σ H -> H T = none -> g (.ref T) σ (upd H T (.tup [x, y])) fun σ2 H2 => tb { D with nx := Pv (i + 1), ct := Pv (i + 1), bk := D.nx } σ2 H2) (hd : ∀ σ H, Pv n σ H -> D.nx σ H) :
    LoopZ K g tb D σ [.ref a, .ref b] H := by
  subst hn
  refine ⟨a, b, xs, ys, rfl, h1, h2, fun i m σ H => m = min xs.length ys.length - i /\ i ≤ min xs.length ys.length /\ Pv i σ H, ⟨_, rfl, Nat.zero_le _, h0⟩, ?_⟩
  rintro i m σ H ⟨rfl, hi, p⟩
  obtain ⟨k1, k2⟩ := hl i σ H hi p
  by_cases hlt : i < min xs.length ys.length
  · have l1 : i < xs.length := by omega
    have l2 : i < ys.length := by omega
    refine .inr ⟨⟨xs, ys, _, _, k1, k2, List.getElem?_eq_getElem l1, List.getElem?_eq_getElem l2⟩, Pv (i + 1), fun σ' H' p' => ⟨min xs.length ys.length - (i + 1), by omega, rfl, hlt, p'⟩, fun v H' yy => ?_⟩
    obtain ⟨T, x, y, rfl, hT, rfl, ex⟩ := yy
    obtain ⟨ex1, ex2⟩ := ex xs ys k1 k2
    exact hs i x y σ H T hlt ex1 ex2 p hT
  · have e : i = min xs.length ys.length := by omega
    exact .inl ⟨⟨xs, ys, k1, k2, by omega⟩, hd σ H (e ▸ p)⟩
def CompZ (K : PySem.W.Frag) (k : Nat) (js : List Nat) (g : TG) (te : TE) (σ : St) (vs : List V) (H1 : Hp) (Q : VK) : Prop := ∃ a b xs ys, vs = [.ref a, .ref b] /\ SqT K H1 a xs /\ SqT K H1 b ys /\ ∃ W : Nat -> Nat -> List V -> St -> Hp -> Prop, (∃ m, W 0 m [] (compSt k js σ) H1) /\ ∀ i m zs σ' H', W i m zs σ' H' ->
    ((Itz K a b).stop i H' /\ ∀ p, H' p = none -> Q (.ref p) (upd H' p (.lst zs))) \/
    ((Itz K a b).go i H' /\ zs.length < sizeLine /\ ∃ N : List V -> St -> Hp -> Prop, (∀ zs σ2 H2, N zs σ2 H2 -> ∃ m', m' < m /\ W (i + 1) m' zs σ2 H2) /\ ∀ x H2, (Itz K a b).yld i H' x H2 -> g x σ' H2 fun σ3 H3 => te σ3 H3 fun v H4 => N (zs ++ [v]) σ3 H4)
theorem comp_eqZ {K : PySem.W.Frag} {k : Nat} {js : List Nat} {ta : TA} {g : TG} {te : TE} {σ : St} {H : Hp} {Q : VK} : tComp (iZip K ta) k js g te σ H Q = ta σ H fun vs H1 => CompZ K k js g te σ vs H1 Q := rfl
theorem CompZ.mk {K : PySem.W.Frag} {a b : Addr} {xs ys : List V} {k : Nat} {js : List Nat} {g : TG} {te : TE} {Q : VK} {σ : St} {H : Hp} (n : Nat) (hn : n = min xs.length ys.length) (h1 : SqT K H a xs) (h2 : SqT K H b ys) (Pv : Nat -> List V -> St -> Hp -> Prop) (h0 : Pv 0 [] (compSt k js σ) H) (hl : ∀ i zs σ H, i ≤ n -> Pv i zs σ H -> SqT K H a xs /\ SqT K H b ys)
    (hs : ∀ i x y zs σ H T, i < n -> xs[i]? = some x -> ys[i]? = some y -> Pv i zs σ H -> H T = none -> zs.length < sizeLine /\ g (.ref T) σ (upd H T (.tup [x, y])) fun σ3 H3 => te σ3 H3 fun v H4 => Pv (i + 1) (zs ++ [v]) σ3 H4) (hz : ∀ zs σ H, Pv n zs σ H -> ∀ p, H p = none -> Q (.ref p) (upd H p (.lst zs))) (hlen : ∀ i zs σ H, Pv i zs σ H -> zs.length < sizeLine) :
    CompZ K k js g te σ [.ref a, .ref b] H Q := by
  subst hn
  refine ⟨a, b, xs, ys, rfl, h1, h2, fun i m zs σ H => m = min xs.length ys.length - i /\ i ≤ min xs.length ys.length /\ Pv i zs σ H, ⟨_, rfl, Nat.zero_le _, h0⟩, ?_⟩
  rintro i m zs σ H ⟨rfl, hi, p⟩
  obtain ⟨k1, k2⟩ := hl i zs σ H hi p
  by_cases hlt : i < min xs.length ys.length
  · have l1 : i < xs.length := by omega
    have l2 : i < ys.length := by omega
    refine .inr ⟨⟨xs, ys, _, _, k1, k2, List.getElem?_eq_getElem l1, List.getElem?_eq_getElem l2⟩, hlen _ _ _ _ p, Pv (i + 1), fun zs' σ' H' p' => ⟨min xs.length ys.length - (i + 1), by omega, rfl, hlt, p'⟩, fun v H' yy => ?_⟩
    obtain ⟨T, x, y, rfl, hT, rfl, ex⟩ := yy
    obtain ⟨ex1, ex2⟩ := ex xs ys k1 k2
    exact (hs i x y zs σ H T hlt ex1 ex2 p hT).2
  · have e : i = min xs.length ys.length := by omega
    exact .inl ⟨⟨xs, ys, k1, k2, by omega⟩, hz zs σ H (e ▸ p)⟩
section
variable {X : Cx}
theorem z4v (hc : X.calm = true) : CallR X (.builtin "sum") (fun xs H Q => ∃ (a : Addr) (ns : List Int), xs = [.ref a] /\ SqL X.K H a (ns.map V.int) /\ Q (.int ns.sum) H) := by
  intro pins s σ H xs us Q I r h
  obtain ⟨a, ns, rfl, hq, q⟩ := h
  obtain ⟨u, rfl, ru⟩ := z5y r
  cases (show u = Value.ref a from ru)
  obtain ⟨its, rv, pl, hz⟩ := I.list hq
  have hi := z5b rv
  have hn := hi.numsOf
  obtain ⟨ps, e⟩ := hi.allInts.items
  have hl : s.heap.IsList a (intItems ps) := e ▸ pl.isList
  refine sum_intListG (I.ok.hd hc) hl fun h' tk t' kk => ?_
  have e2 : preSum (numAt ps) ps.size = ns.sum := by
    rw [preSum_eq, List.take_of_length_le (by simp), ← nums_intItems, ← e]
    exact congrArg List.sum hn
  rw [e2]
  exact ⟨.int ns.sum, H, I.kept kk, ⟨t', rfl⟩, q⟩
def Its (lo st : Int) (n : Nat) : It := ⟨fun i _ => i < n, fun i H x H' => H' = H /\ x = .int (lo + i * st), fun i _ => n ≤ i⟩
end
def LoopS (lo st : Int) (n : Nat) (g : TG) (tb : TS) (D : Ends) (σ : St) (H1 : Hp) : Prop := ∃ W : Nat -> Nat -> St -> Hp -> Prop, (∃ m, W 0 m σ H1) /\ ∀ i m σ H, W i m σ H ->
  ((Its lo st n).stop i H /\ D.nx σ H) \/ ((Its lo st n).go i H /\ ∃ N : St -> Hp -> Prop, (∀ σ' H', N σ' H' -> ∃ m', m' < m /\ W (i + 1) m' σ' H') /\ ∀ x H', (Its lo st n).yld i H x H' -> g x σ H' fun σ2 H2 => tb { D with nx := N, ct := N, bk := D.nx } σ2 H2)
theorem LoopS.mk {lo st : Int} {n : Nat} {g : TG} {tb : TS} {D : Ends} {σ : St} {H : Hp} (Pv : Nat -> St -> Hp -> Prop) (h0 : Pv 0 σ H)
    (hs : ∀ i σ H, i < n -> Pv i σ H -> g (.int (lo + i * st)) σ H fun σ2 H2 => tb { D with nx := Pv (i + 1), ct := Pv (i + 1), bk := D.nx } σ2 H2) (hd : ∀ σ H, Pv n σ H -> D.nx σ H) : LoopS lo st n g tb D σ H := by
  refine ⟨fun i m σ H => m = n - i /\ i ≤ n /\ Pv i σ H, ⟨_, rfl, Nat.zero_le _, h0⟩, ?_⟩
  rintro i m σ H ⟨rfl, hi, p⟩
  by_cases hlt : i < n
  · refine .inr ⟨hlt, Pv (i + 1), fun σ' H' p' => ⟨n - (i + 1), by omega, rfl, hlt, p'⟩, fun v H' yy => ?_⟩
    obtain ⟨rfl, rfl⟩ := yy
    exact hs i σ _ hlt p
  · have e : i = n := by omega
    exact .inl ⟨(show n ≤ i by omega), hd σ H (e ▸ p)⟩
def CompS (lo st : Int) (n k : Nat) (js : List Nat) (g : TG) (te : TE) (σ : St) (H1 : Hp) (Q : VK) : Prop := ∃ W : Nat -> Nat -> List V -> St -> Hp -> Prop, (∃ m, W 0 m [] (compSt k js σ) H1) /\ ∀ i m ys σ' H', W i m ys σ' H' ->
    ((Its lo st n).stop i H' /\ ∀ p, H' p = none -> Q (.ref p) (upd H' p (.lst ys))) \/
    ((Its lo st n).go i H' /\ ys.length < sizeLine /\ ∃ N : List V -> St -> Hp -> Prop, (∀ zs σ2 H2, N zs σ2 H2 -> ∃ m', m' < m /\ W (i + 1) m' zs σ2 H2) /\ ∀ x H2, (Its lo st n).yld i H' x H2 -> g x σ' H2 fun σ3 H3 => te σ3 H3 fun v H4 => N (ys ++ [v]) σ3 H4)
theorem CompS.mk {lo st : Int} {n k : Nat} {js : List Nat} {g : TG} {te : TE} {Q : VK} {σ : St} {H : Hp} (Pv : Nat -> List V -> St -> Hp -> Prop) (h0 : Pv 0 [] (compSt k js σ) H) (hlen : ∀ i ys σ H, Pv i ys σ H -> ys.length < sizeLine)
    (hs : ∀ i ys σ H, i < n -> Pv i ys σ H -> g (.int (lo + i * st)) σ H fun σ3 H3 => te σ3 H3 fun v H4 => Pv (i + 1) (ys ++ [v]) σ3 H4) (hd : ∀ ys σ H, Pv n ys σ H -> ∀ p, H p = none -> Q (.ref p) (upd H p (.lst ys))) : CompS lo st n k js g te σ H Q := by
  refine ⟨fun i m ys σ H => m = n - i /\ i ≤ n /\ Pv i ys σ H, ⟨_, rfl, Nat.zero_le _, h0⟩, ?_⟩
  rintro i m ys σ H ⟨rfl, hi, p⟩
  by_cases hlt : i < n
  · refine .inr ⟨hlt, hlen _ _ _ _ p, Pv (i + 1), fun zs σ' H' p' => ⟨n - (i + 1), by omega, rfl, hlt, p'⟩, fun v H' yy => ?_⟩
    obtain ⟨rfl, rfl⟩ := yy
    exact hs i ys σ _ hlt p
  · have e : i = n := by omega
    exact .inl ⟨(show n ≤ i by omega), hd ys σ H (e ▸ p)⟩
open AutoSeq1 (wpAny_loadPart')
theorem tup_norf_mul : fillsNumberSlot (.type "tuple") "mul" = pure false :=
  PySem.fillsNumberSlot_seq (id := "tuple.__mul__") (r := some (.builtin "tuple.__rmul__")) F.slot_tuple_mul.lookup (by decide +kernel) (by rw [typeLookup_type, builtinLookup_eq_fast]; kernel_rfl) (by decide +kernel)
theorem tup_repeat : seqRepeat? (.type "tuple") = pure (some (.builtin "tuple.__mul__")) := by
  have e1 : typeLookup (.type "tuple") "__rmul__" = pure (some (.builtin "tuple.__rmul__")) := by rw [typeLookup_type, builtinLookup_eq_fast]; kernel_rfl
  unfold seqRepeat?
  rw [PySem.seqSlot_of (T := "tuple") (name := "__mul__") (id := "tuple.__mul__") F.slot_tuple_mul.lookup (by decide +kernel), PySem.seqSlot_of (T := "tuple") (name := "__rmul__") (id := "tuple.__rmul__") e1 (by decide +kernel)]
  rfl
theorem int_rmul_tup (k : Int) (t : Tok) (l : Addr) (its : Array Value) (n : Nat) (dd : Option Addr) (sl : Array (Option Value)) :
    Meets (Builtin.«int.__rmul__» ⟨[.int k t, .ref l], []⟩) (fun _ R s => s.heap.get? l = some { cls := .type "tuple", dict := dd, data := .seq its n, slots := sl } /\ R (.ok (.ret Value.notImplemented)) s) :=
  .of_wp fun prog w A R s h => by obtain ⟨hp, g, d, tk, os⟩ := s; obtain ⟨hl, h⟩ := h; wp_walk; exact ⟨_, rfl, h⟩
theorem tup_mul_one (l : Addr) (its : Array Value) (n : Nat) (u : Tok) (dd : Option Addr) (sl : Array (Option Value)) :
    Meets (Builtin.«tuple.__mul__» ⟨[.ref l, .int 1 u], []⟩) (fun _ R s => s.heap.get? l = some { cls := .type "tuple", dict := dd, data := .seq its n, slots := sl } /\ R (.ok (.ret (.ref l))) s) :=
  .of_wp fun prog w A R s h => by
    obtain ⟨hp, g, d, tk, os⟩ := s; obtain ⟨hl, h⟩ := h
    have f1 := AutoSeq1.idx_int
    have c1 : ¬ ((decide ((1 : Int) < -(2 ^ 63)) || decide ((1 : Int) ≥ 2 ^ 63)) = true) := by decide
    have c2 : (its.isEmpty || (1 : Int) == 1) = true := by simp
    wp_walk using wpAny_loadPart' hl
    exact ⟨_, rfl, h⟩
theorem tup_mul_no (l : Addr) (its : Array Value) (n : Nat) (k : Int) (u : Tok) (dd : Option Addr) (sl : Array (Option Value)) (h0 : k ≤ 0) (h1 : -(2 ^ 63) ≤ k) (ne : its.isEmpty = false) :
    Meets (Builtin.«tuple.__mul__» ⟨[.ref l, .int k u], []⟩) (fun _ R s => s.heap.get? l = some { cls := .type "tuple", dict := dd, data := .seq its n, slots := sl } /\ R (.ok (.ret (.ref s.heap.objs.size))) { s with heap := s.heap.push { cls := .type "tuple", data := .seq #[] } }) :=
  .of_wp fun prog w A R s h => by
    obtain ⟨hp, g, d, tk, os⟩ := s; obtain ⟨hl, h⟩ := h
    have f1 := AutoSeq1.idx_int
    have c1 : ¬ ((decide (k < -(2 ^ 63)) || decide (k ≥ 2 ^ 63)) = true) := by simp; omega
    have c2 : ¬ (its.isEmpty || k == 1) = true := by simp [ne]; omega
    have c3 : (decide (k ≤ 0) || its.isEmpty) = true := by simp [h0]
    wp_walk using wpAny_loadPart' hl
    rw [if_neg c1]
    wp_walk using wpAny_loadPart' hl
    rw [if_neg c2]
    dsimp only
    rw [if_pos c3]
    wp_walk
    exact ⟨_, rfl, h⟩
theorem tup_mul_many (l : Addr) (its : Array Value) (n : Nat) (k : Int) (u : Tok) (dd : Option Addr) (sl : Array (Option Value)) (h0 : 1 < k) (h1 : k < 2 ^ 63) (ne : its.isEmpty = false) (hz : its.size * k.toNat ≤ sizeLine) :
    Meets (Builtin.«tuple.__mul__» ⟨[.ref l, .int k u], []⟩) (fun _ R s => s.heap.get? l = some { cls := .type "tuple", dict := dd, data := .seq its n, slots := sl } /\ R (.ok (.ret (.ref s.heap.objs.size))) { s with heap := s.heap.push { cls := .type "tuple", data := .seq ((List.replicate k.toNat its).foldl (· ++ ·) #[]) } }) :=
  .of_wp fun prog w A R s h => by
    obtain ⟨hp, g, d, tk, os⟩ := s; obtain ⟨hl, h⟩ := h
    have f1 := AutoSeq1.idx_int
    have ek : (its.size : Int) * k = ((its.size * k.toNat : Nat) : Int) := by rw [Int.natCast_mul]; congr 1; omega
    have sl63 : (sizeLine : Int) ≤ (2 ^ 63 - 1) / 8 := by rw [sizeLine_eq]; decide
    have c1 : ¬ ((decide (k < -(2 ^ 63)) || decide (k ≥ 2 ^ 63)) = true) := by simp; omega
    have c2 : ¬ (its.isEmpty || k == 1) = true := by simp [ne]; omega
    have c3 : ¬ (decide (k ≤ 0) || its.isEmpty) = true := by simp [ne]; omega
    have c4 : ¬ ((its.size : Int) * k > (2 ^ 63 - 1) / 8) := by rw [ek]; omega
    have c5 : ¬ (Builtin.Tuple.tupleTooMany ((its.size : Int) * k) = true) := by
      unfold Builtin.Tuple.tupleTooMany
      rw [ek, decide_eq_true_eq]; omega
    have c6 : ((List.replicate k.toNat its).foldl (· ++ ·) #[]).size ≤ sizeLine := by
      have e : ∀ (m : Nat) (a : Array Value), ((List.replicate m its).foldl (· ++ ·) a).size = a.size + m * its.size := by
        intro m
        induction m with
        | zero => intro a; simp
        | succ m ih => intro a; rw [List.replicate_succ, List.foldl_cons, ih]; simp [Nat.succ_mul]; omega
      rw [e]; simp; rw [Nat.mul_comm]; exact hz
    wp_walk using wpAny_loadPart' hl
    rw [if_neg c1]
    wp_walk using wpAny_loadPart' hl
    rw [if_neg c2]
    dsimp only
    rw [if_neg c3]
    rw [if_neg c4]
    rw [if_neg c5]
    unfold Builtin.Tuple.tupleExact
    refine wpAny_bind (wpAny_newObj_type (wpAny_pure ?_) c6)
    exact ⟨_, rfl, h⟩
section
variable {X : Cx}
def rRepT : R2 := fun x y H Q => ∃ a k xs, x = .ref a /\ y = .int k /\ H a = some (.tup xs) /\ xs ≠ [] /\ (0 ≤ k /\ k < 2 ^ 63) /\ xs.length * k.toNat ≤ sizeLine /\ (k = 1 -> Q (.ref a) H) /\ (k ≠ 1 -> ∀ p, H p = none -> Q (.ref p) (upd H p (.tup (List.replicate k.toNat xs).flatten)))
theorem op_repT : OpR X (binaryOp .Mult) rRepT := by
  intro pins s σ H x y v u Q I rx ry h
  obtain ⟨a, k, xs, rfl, rfl, hH, hx, ⟨h1, h2⟩, hz, q1, q2⟩ := h
  cases rx
  obtain ⟨t, rfl⟩ := ry
  obtain ⟨its, r, pl, _⟩ := I.tuple (.of hH)
  obtain ⟨⟨c, dd, dt, sl⟩, g, hc, n, hd⟩ := id pl
  simp only at hc hd
  subst hc hd
  have hl := r.length
  have ne : its.toArray.isEmpty = false := by
    cases its with
    | nil => exact absurd (r.nil_iff.mp rfl) hx
    | cons _ _ => rfl
  have hz' : its.toArray.size * k.toNat ≤ sizeLine := by rw [List.size_toArray, ← hl]; exact hz
  refine wpAny_binaryOp_repeat_ref (T := "tuple") (U := "int") (by decide) ⟨_, g, rfl⟩ (fun s' => typeIs_int s' k t) tup_norf_mul F.fills_int_mul F.slot_int_rmul tup_repeat F.slot_int_index.lookup
    (call_meets F.slot_int_rmul (typeIs_int s k t) F.entry_int_rmul (F.args_int_rmul_2 _ _) (int_rmul_tup k t a its.toArray n dd sl) ⟨g, rfl, ⟨_, g, rfl⟩, ?_⟩)
  by_cases e1 : k = 1
  · subst e1
    exact call_meets F.slot_tuple_mul ⟨_, g, rfl⟩ F.entry_tuple_mul (F.args_tuple_mul_2 _ _) (tup_mul_one a its.toArray n t dd sl) ⟨g, .ref a, H, I, rfl, q1 rfl⟩
  have fl : ∀ (m : Nat) (b : List Value), (List.replicate m its.toArray).foldl (· ++ ·) b.toArray = (b ++ (List.replicate m its).flatten).toArray := by
    intro m
    induction m with
    | zero => intro b; simp
    | succ m ih =>
      intro b
      rw [List.replicate_succ, List.foldl_cons, List.append_toArray, ih, List.replicate_succ, List.flatten_cons, List.append_assoc]
  have fin : ∀ bs : List Value, bs = (List.replicate k.toNat its).flatten -> EP X pins σ Q (.ref s.heap.objs.size) { s with heap := s.heap.push { cls := .type "tuple", data := .seq bs.toArray } } := by
    rintro bs rfl
    refine ⟨.ref s.heap.objs.size, _, I.laid (t' := s.toks) (o := .tup (List.replicate k.toNat xs).flatten) (fun b ob q => Heap.get?_push_of_some _ q) (Nat.le_refl _) ?_, rfl, q2 e1 _ (I.hok.fresh (Nat.le_refl _))⟩
    exact ⟨by rw [len_rep, Nat.mul_comm]; exact hz, _, r.rep k.toNat, IsTup.new _ _⟩
  by_cases e0 : k = 0
  · subst e0
    exact call_meets F.slot_tuple_mul ⟨_, g, rfl⟩ F.entry_tuple_mul (F.args_tuple_mul_2 _ _) (tup_mul_no a its.toArray n 0 t dd sl (by omega) (by omega) ne) ⟨g, fin [] rfl⟩
  · refine call_meets F.slot_tuple_mul ⟨_, g, rfl⟩ F.entry_tuple_mul (F.args_tuple_mul_2 _ _) (tup_mul_many a its.toArray n k t dd sl (by omega) h2 ne hz') ⟨g, ?_⟩
    have e := fl k.toNat []
    rw [List.nil_append] at e
    show EP X pins σ Q (.ref s.heap.objs.size) { s with heap := s.heap.push { cls := .type "tuple", data := .seq ((List.replicate k.toNat its.toArray).foldl (· ++ ·) ([] : List Value).toArray) } }
    rw [e]
    exact fin _ rfl
end
section
variable {X : Cx}
def rCatS : R2 := fun x y H Q => ∃ a b xs ys, x = .ref a /\ y = .ref b /\ H a = some (.tup xs) /\ H b = some (.tup ys) /\ xs.length + ys.length ≤ sizeLine /\ ∀ r H', Same H H' -> H' r = some (.tup (xs ++ ys)) -> Q (.ref r) H'
theorem z1v : OpR X (binaryOp .Add) rCatS := by
  intro pins s σ H x y v u Q I rx ry h
  obtain ⟨a, b, xs, ys, rfl, rfl, ha, hb, hz, q⟩ := h
  refine op_catA pins s σ H _ _ v u Q I rx ry ⟨a, b, xs, ys, rfl, rfl, .of ha, .of hb, hz, fun e => ?_, fun _ e => ?_, fun _ _ p hp => ?_⟩
  · subst e; exact q b H (Same.refl _) hb
  · subst e; exact q a H (Same.refl _) (by rw [List.append_nil]; exact ha)
  · exact q p _ (z0e hp _) z0k
def rSlTS : V -> Option Int -> Option Int -> Hp -> VK -> Prop := fun x lo hi H Q => ∃ a xs, x = .ref a /\ H a = some (.tup xs) /\ ¬ (HT.sIx xs.length 0 lo = 0 /\ HT.sIx xs.length xs.length hi = xs.length) /\ ∀ r H', Same H H' -> H' r = some (.tup (cutV xs lo hi)) -> Q (.ref r) H'
theorem z6a : SlR X rSlTS := by
  intro pins s σ H x v vl vu lo hi sl Q I rx hs pl pu h
  obtain ⟨a, xs, e, ha, nw, q⟩ := h
  exact sl_tup pins s σ H x v vl vu lo hi sl Q I rx hs pl pu ⟨a, xs, e, .of ha, nw, fun p hp => q p _ (z0e hp _) z0k⟩
end
theorem z5i {names : List (Str × NameKind)} {cl : List (Str × Addr)} (h : names.all (fun y => match y.2 with | .cell => (cl.lookup y.1).isSome | .free => (cl.lookup y.1).isSome | _ => true) = true) :
    ∀ x, (names.lookup x = some .cell \/ names.lookup x = some .free) -> ∃ c, cl.lookup x = some c := by
  intro x hx
  have z := List.all_eq_true.mp h
  rcases hx with hx | hx
  · exact Option.isSome_iff_exists.mp (z _ (PySem.mem_of_lookup hx))
  · exact Option.isSome_iff_exists.mp (z _ (PySem.mem_of_lookup hx))
theorem cap1 {X : Cx} {scope : Scope} {cl : List (Str × Addr)} {x0 : Str} {j0 : Nat} (c0 : Cap X scope cl x0 j0) : ∀ (i : Nat) x j, [x0][i]? = some x -> [j0][i]? = some j -> Cap X scope cl x j
  | 0, _, _, h1, h2 => by cases h1; cases h2; exact c0
  | _ + 1, _, _, h1, _ => by cases h1
section
variable {prog : Program} {w : World} {A : Around} {R : Result -> Shared -> Prop} {s : Shared}
end
section
variable {pg : Program} {wd : World} {B : Around} {X0 : Value -> Shared -> Prop} {s0 : Shared}
end
def Ite (K : PySem.W.Frag) (a : Addr) : It := ⟨fun i H => ∃ xs x, SqT K H a xs /\ xs[i]? = some x,
  fun i H v H' => ∃ T x, v = .ref T /\ H T = none /\ H' = upd H T (.tup [.int i, x]) /\ ∀ xs, SqT K H a xs -> xs[i]? = some x, fun i H => ∃ xs, SqT K H a xs /\ xs.length ≤ i⟩
section
variable {X : Cx} {es : List Expr} {x1 : Nat} {pp : Pos}
end
def CompE (K : PySem.W.Frag) (k : Nat) (js : List Nat) (g : TG) (te : TE) (σ : St) (v : V) (H1 : Hp) (Q : VK) : Prop := ∃ a xs, v = .ref a /\ SqT K H1 a xs /\ ∃ W : Nat -> Nat -> List V -> St -> Hp -> Prop, (∃ m, W 0 m [] (compSt k js σ) H1) /\ ∀ i m zs σ' H', W i m zs σ' H' ->
    ((Ite K a).stop i H' /\ ∀ p, H' p = none -> Q (.ref p) (upd H' p (.lst zs))) \/
    ((Ite K a).go i H' /\ zs.length < sizeLine /\ ∃ N : List V -> St -> Hp -> Prop, (∀ zs σ2 H2, N zs σ2 H2 -> ∃ m', m' < m /\ W (i + 1) m' zs σ2 H2) /\ ∀ x H2, (Ite K a).yld i H' x H2 -> g x σ' H2 fun σ3 H3 => te σ3 H3 fun v H4 => N (zs ++ [v]) σ3 H4)
theorem CompE.mk {K : PySem.W.Frag} {a : Addr} {xs : List V} {k : Nat} {js : List Nat} {g : TG} {te : TE} {Q : VK} {σ : St} {H : Hp} (h1 : SqT K H a xs) (Pv : Nat -> List V -> St -> Hp -> Prop) (h0 : Pv 0 [] (compSt k js σ) H) (hl : ∀ i zs σ H, i ≤ xs.length -> Pv i zs σ H -> SqT K H a xs /\ zs.length < sizeLine)
    (hs : ∀ i x zs σ H T, xs[i]? = some x -> Pv i zs σ H -> H T = none -> g (.ref T) σ (upd H T (.tup [.int i, x])) fun σ3 H3 => te σ3 H3 fun v H4 => Pv (i + 1) (zs ++ [v]) σ3 H4) (hz : ∀ zs σ H, Pv xs.length zs σ H -> ∀ p, H p = none -> Q (.ref p) (upd H p (.lst zs))) :
    CompE K k js g te σ (.ref a) H Q := by
  refine ⟨a, xs, rfl, h1, fun i m zs σ H => m = xs.length - i /\ i ≤ xs.length /\ Pv i zs σ H, ⟨_, rfl, Nat.zero_le _, h0⟩, ?_⟩
  rintro i m zs σ H ⟨rfl, hi, p⟩
  obtain ⟨k1, k2⟩ := hl i zs σ H hi p
  by_cases hlt : i < xs.length
  · refine .inr ⟨⟨xs, _, k1, List.getElem?_eq_getElem hlt⟩, k2, Pv (i + 1), fun zs' σ' H' p' => ⟨xs.length - (i + 1), by omega, rfl, hlt, p'⟩, fun v H' yy => ?_⟩
    obtain ⟨T, x, rfl, hT, rfl, ex⟩ := yy
    exact hs i x zs σ H T (ex xs k1) p hT
  · have e : i = xs.length := by omega
    exact .inl ⟨⟨xs, k1, by omega⟩, hz zs σ H (e ▸ p)⟩
def CompEI (K : PySem.W.Frag) (k : Nat) (js : List Nat) (g : TG) (tc : TT) (te : TE) (σ : St) (v : V) (H1 : Hp) (Q : VK) : Prop := ∃ a xs, v = .ref a /\ SqT K H1 a xs /\ ∃ W : Nat -> Nat -> List V -> St -> Hp -> Prop, (∃ m, W 0 m [] (compSt k js σ) H1) /\ ∀ i m zs σ' H', W i m zs σ' H' ->
    ((Ite K a).stop i H' /\ ∀ p, H' p = none -> Q (.ref p) (upd H' p (.lst zs))) \/
    ((Ite K a).go i H' /\ zs.length < sizeLine /\ ∃ N : List V -> St -> Hp -> Prop, (∀ zs σ2 H2, N zs σ2 H2 -> ∃ m', m' < m /\ W (i + 1) m' zs σ2 H2) /\ ∀ x H2, (Ite K a).yld i H' x H2 -> g x σ' H2 fun σ3 H3 => tc σ3 H3 fun b H4 => if b = true then te σ3 H4 fun v H5 => N (zs ++ [v]) σ3 H5 else N zs σ3 H4)
theorem CompEI.mk {K : PySem.W.Frag} {a : Addr} {xs : List V} {k : Nat} {js : List Nat} {g : TG} {tc : TT} {te : TE} {Q : VK} {σ : St} {H : Hp} (h1 : SqT K H a xs) (Pv : Nat -> List V -> St -> Hp -> Prop) (h0 : Pv 0 [] (compSt k js σ) H) (hl : ∀ i zs σ H, i ≤ xs.length -> Pv i zs σ H -> SqT K H a xs /\ zs.length < sizeLine)
    (hs : ∀ i x zs σ H T, xs[i]? = some x -> Pv i zs σ H -> H T = none -> g (.ref T) σ (upd H T (.tup [.int i, x])) fun σ3 H3 => tc σ3 H3 fun b H4 => if b = true then te σ3 H4 fun v H5 => Pv (i + 1) (zs ++ [v]) σ3 H5 else Pv (i + 1) zs σ3 H4) (hz : ∀ zs σ H, Pv xs.length zs σ H -> ∀ p, H p = none -> Q (.ref p) (upd H p (.lst zs))) :
    CompEI K k js g tc te σ (.ref a) H Q := by
  refine ⟨a, xs, rfl, h1, fun i m zs σ H => m = xs.length - i /\ i ≤ xs.length /\ Pv i zs σ H, ⟨_, rfl, Nat.zero_le _, h0⟩, ?_⟩
  rintro i m zs σ H ⟨rfl, hi, p⟩
  obtain ⟨k1, k2⟩ := hl i zs σ H hi p
  by_cases hlt : i < xs.length
  · refine .inr ⟨⟨xs, _, k1, List.getElem?_eq_getElem hlt⟩, k2, Pv (i + 1), fun zs' σ' H' p' => ⟨xs.length - (i + 1), by omega, rfl, hlt, p'⟩, fun v H' yy => ?_⟩
    obtain ⟨T, x, rfl, hT, rfl, ex⟩ := yy
    exact hs i x zs σ H T (ex xs k1) p hT
  · have e : i = xs.length := by omega
    exact .inl ⟨⟨xs, k1, by omega⟩, hz zs σ H (e ▸ p)⟩
section
variable {X : Cx}
def rNeT (K : PySem.W.Frag) : R2 := fun x y H Q => ∃ a b xs ys, x = .ref a /\ y = .ref b /\ SqT K H a xs /\ SqT K H b ys /\ xs.all flatV = true /\ ys.all flatV = true /\ Q (.bl (!eqVs xs ys)) H
theorem op_neT (hu : X.A.units < cLine) : OpR X (compareOp .NotEq) (rNeT X.K) := by
  intro pins s σ H x y v u Q I rx ry h
  obtain ⟨a, b, xs, ys, rfl, rfl, ha, hb, f1, f2, q⟩ := h
  cases rx
  cases ry
  obtain ⟨us, r1, p1, _⟩ := I.tuple ha
  obtain ⟨ws, r2, p2, _⟩ := I.tuple hb
  refine SeqAt.RcNeAt.tuples (show s.heap.IsTuple a us.toArray from p1) (show s.heap.IsTuple b ws.toArray from p2) (e := eqAtI xs ys) hu (eqAtI_ok r1 r2 f1 f2) _ _ _ _ ?_
  have e1 : us.toArray.size = xs.length := by simp [r1.length]
  have e2 : ws.toArray.size = ys.length := by simp [r2.length]
  rw [e1, e2]
  have z : ((List.range (min xs.length ys.length)).all (eqAtI xs ys) && xs.length == ys.length) = eqVs xs ys := by
    by_cases hl : xs.length = ys.length
    · rw [← hl, Nat.min_self, z5t hl]; simp
    · rw [z5s hl]; simp [hl]
  rw [z]
  exact ⟨.bl _, H, I, rfl, q⟩
def rNeL (K : PySem.W.Frag) : R2 := fun x y H Q => ∃ a b xs ys, x = .ref a /\ y = .ref b /\ SqL K H a xs /\ SqL K H b ys /\ xs.all flatV = true /\ ys.all flatV = true /\ Q (.bl (!eqVs xs ys)) H
theorem op_neL (hu : X.A.units < cLine) : OpR X (compareOp .NotEq) (rNeL X.K) := by
  intro pins s σ H x y v u Q I rx ry h
  obtain ⟨a, b, xs, ys, rfl, rfl, ha, hb, f1, f2, q⟩ := h
  cases rx
  cases ry
  obtain ⟨us, r1, p1, _⟩ := I.list ha
  obtain ⟨ws, r2, p2, _⟩ := I.list hb
  by_cases hl : xs.length = ys.length
  · refine SeqAt.RcNeAt.lists p1.isList p2.isList (e := eqAtI xs ys) (by simp [← r1.length, ← r2.length, hl]) hu (eqAtI_ok r1 r2 f1 f2) _ _ _ _ ?_
    have e : us.toArray.size = xs.length := by simp [r1.length]
    rw [e, z5t hl]
    exact ⟨.bl _, H, I, rfl, q⟩
  · refine SeqAt.RcNeAt.lists_lengths p1.isList p2.isList (by simp [← r1.length, ← r2.length, hl]) hu _ _ _ _ ?_
    rw [z5s hl] at q
    exact ⟨.bl _, H, I, rfl, q⟩
end
theorem z3u {cells : List (Str × Addr)} {y : Str} {a : Addr} (h : cells.lookup y = some a) : ∀ x c, [(y, a)].lookup x = some c -> cells.lookup x = some c := fun x c e => by
  cases List.mem_singleton.mp (PySem.mem_of_lookup e); exact h
theorem z3t {cells : List (Str × Addr)} {y z : Str} {a b : Addr} (h : cells.lookup y = some a) (h2 : cells.lookup z = some b) : ∀ x c, [(y, a), (z, b)].lookup x = some c -> cells.lookup x = some c := fun x c e => by
  rcases List.mem_cons.mp (PySem.mem_of_lookup e) with q | q
  · cases q; exact h
  · cases List.mem_singleton.mp q; exact h2
end L2
namespace HT
open PySem PySem.Spec PyProof.Rows L2
theorem whole_tup {prog : Program} {w : World} {A : Around} {E : Value -> Shared -> Prop} {s : Shared} {t sl : Addr} {its : Array Value} {vl vu : Value} {lo hi : Option Int} {R : Value -> Shared -> Prop} (ht : IsTup s.heap t its) (hs : s.heap.IsSliceOf sl vl vu .none) (pl : IsPart vl lo) (pu : IsPart vu hi)
    (h0 : sIx its.size 0 lo = 0) (h1 : sIx its.size its.size hi = its.size) (h : R (.ref t) s) : wpAny (model prog w) A (getItem (.ref t) (.ref sl)) R E s := by
  obtain ⟨os, hos, hcs, hds⟩ := id hs
  have hTs : s.TypeIs (.ref sl) "slice" := ⟨os, hos, hcs⟩
  unfold getItem
  try with_reducible refine wpAny_holding ?_
  first | refine wpAny_bind (wpAny_pure ?_) | skip
  refine wpAny_bind (wpAny_sequenceKey ht.typeIs (by decide) ?_)
  refine wpAny_bind (wpAny_callSpecial?_slot (name := Str.ofString "__getitem__") ht.typeIs PyProof.Rows.slot_tuple_getitem (wpAny_call_entry PyProof.Rows.slot_tuple_getitem ht.typeIs entry_tuple_getitem ?_ (args_tuple_getitem _ _)))
  show wpAny _ _ (Builtin.Tuple.tupleItemsOf (.ref t) >>= _) _ _ s
  refine wpAny_bind (tupleItemsOf_ ht ?_)
  refine wpAny_bind (wpAny_typeOf hTs ?_)
  rw [if_pos (by decide)]
  refine wpAny_bind (z3n hs pl pu ?_)
  show wpAny _ _ (if (((sIx its.size 0 lo : Nat) : Int) == 0 && (1 : Int) == 1 && (sIx its.size its.size hi - sIx its.size 0 lo) == its.size) = true then _ else _) _ _ s
  rw [if_pos (by rw [h0, h1]; simp)]
  unfold Builtin.Tuple.tupleIsExact
  exact wpAny_bind (wpAny_bind (wpAny_typeOf ht.typeIs (wpAny_pure (wpAny_bind (wpAny_rule (wpAny_pure ⟨_, rfl, wpAny_pure h⟩))))))
end HT
namespace L2
open PySem PySem.Spec PyProof.Rows
section
variable {X : Cx}
def rSlTA : V -> Option Int -> Option Int -> Hp -> VK -> Prop := fun x lo hi H Q => ∃ a xs, x = .ref a /\ H a = some (.tup xs) /\ ∀ r H', Same H H' -> H' r = some (.tup (cutV xs lo hi)) -> Q (.ref r) H'
theorem z1t : SlR X rSlTA := by
  intro pins s σ H x v vl vu lo hi sl Q I rx hs pl pu h
  obtain ⟨a, xs, rfl, ha, q⟩ := h
  by_cases c : HT.sIx xs.length 0 lo = 0 /\ HT.sIx xs.length xs.length hi = xs.length
  · cases rx
    obtain ⟨its, r, ht, hz⟩ := I.tuple (show SqT X.K H a xs from .of ha)
    have hlen : its.toArray.size = xs.length := by rw [List.size_toArray]; exact r.length.symm
    refine ⟨"tuple", _, PyProof.Rows.slot_tuple_getitem.lookup, ht.typeIs, HT.whole_tup ht hs pl pu (by rw [hlen]; exact c.1) (by rw [hlen]; exact c.2) ⟨.ref a, H, I, rfl, q a H (Same.refl _) ?_⟩⟩
    unfold cutV
    rw [c.1, c.2, List.drop_zero, Nat.sub_zero, List.take_length]
    exact ha
  · exact z6a pins s σ H _ v vl vu lo hi sl Q I rx hs pl pu ⟨a, xs, rfl, ha, c, q⟩
end
def okS (k : Nat) (x : Str) : Prop := x.length ≤ k /\ ∀ c ∈ x.cps.toList, c < 1000
theorem okS.mono {k m : Nat} {x : Str} (h : okS k x) (l : k ≤ m) : okS m x := ⟨Nat.le_trans h.1 l, h.2⟩
section
variable {X : Cx}
end
def Itel (K : PySem.W.Frag) (a : Addr) : It := ⟨fun i H => ∃ xs x, SqL K H a xs /\ xs[i]? = some x,
  fun i H v H' => ∃ T x, v = .ref T /\ H T = none /\ H' = upd H T (.tup [.int i, x]) /\ ∀ xs, SqL K H a xs -> xs[i]? = some x, fun i H => ∃ xs, SqL K H a xs /\ xs.length ≤ i⟩
section
variable {X : Cx} {es : List Expr} {x1 : Nat} {pp : Pos}
end
def LoopEL (K : PySem.W.Frag) (g : TG) (tb : TS) (D : Ends) (σ : St) (v : V) (H1 : Hp) : Prop := ∃ a xs, v = .ref a /\ SqL K H1 a xs /\ ∃ W : Nat -> Nat -> St -> Hp -> Prop, (∃ m, W 0 m σ H1) /\ ∀ i m σ H, W i m σ H ->
  ((Itel K a).stop i H /\ D.nx σ H) \/ ((Itel K a).go i H /\ ∃ N : St -> Hp -> Prop, (∀ σ' H', N σ' H' -> ∃ m', m' < m /\ W (i + 1) m' σ' H') /\ ∀ x H', (Itel K a).yld i H x H' -> g x σ H' fun σ2 H2 => tb { D with nx := N, ct := N, bk := D.nx } σ2 H2)
theorem LoopEL.mk {K : PySem.W.Frag} {a : Addr} {xs : List V} {g : TG} {tb : TS} {D : Ends} {σ : St} {H : Hp} (h1 : SqL K H a xs) (Pv : Nat -> St -> Hp -> Prop) (h0 : Pv 0 σ H) (hl : ∀ i σ H, i ≤ xs.length -> Pv i σ H -> SqL K H a xs)
    (hs : ∀ i x σ H T, xs[i]? = some x -> Pv i σ H -> H T = none -> g (.ref T) σ (upd H T (.tup [.int i, x])) fun σ2 H2 => tb { D with nx := Pv (i + 1), ct := Pv (i + 1), bk := D.nx } σ2 H2) (hd : ∀ σ H, Pv xs.length σ H -> D.nx σ H) :
    LoopEL K g tb D σ (.ref a) H := by
  refine ⟨a, xs, rfl, h1, fun i m σ H => m = xs.length - i /\ i ≤ xs.length /\ Pv i σ H, ⟨_, rfl, Nat.zero_le _, h0⟩, ?_⟩
  rintro i m σ H ⟨rfl, hi, p⟩
  have k1 := hl i σ H hi p
  by_cases hlt : i < xs.length
  · refine .inr ⟨⟨xs, _, k1, List.getElem?_eq_getElem hlt⟩, Pv (i + 1), fun σ' H' p' => ⟨xs.length - (i + 1), by omega, rfl, hlt, p'⟩, fun v H' yy => ?_⟩
    obtain ⟨T, x, rfl, hT, rfl, ex⟩ := yy
    exact hs i x σ H T (ex xs k1) p hT
  · have e : i = xs.length := by omega
    exact .inl ⟨⟨xs, k1, by omega⟩, hd σ H (e ▸ p)⟩
def Itx (x : Str) : It := ⟨fun i _ => i < x.cps.size, fun i H v H' => H' = H /\ ∃ c, x.cps[i]? = some c /\ v = .str ⟨#[c]⟩, fun i _ => x.cps.size ≤ i⟩
section
variable {X : Cx} {tg : Expr}
end
def LoopX (g : TG) (tb : TS) (D : Ends) (σ : St) (v : V) (H1 : Hp) : Prop := ∃ z, v = .str z /\ ∃ W : Nat -> Nat -> St -> Hp -> Prop, (∃ m, W 0 m σ H1) /\ ∀ i m σ H, W i m σ H ->
  ((Itx z).stop i H /\ D.nx σ H) \/ ((Itx z).go i H /\ ∃ N : St -> Hp -> Prop, (∀ σ' H', N σ' H' -> ∃ m', m' < m /\ W (i + 1) m' σ' H') /\ ∀ x H', (Itx z).yld i H x H' -> g x σ H' fun σ2 H2 => tb { D with nx := N, ct := N, bk := D.nx } σ2 H2)
theorem LoopX.mk {z : Str} {g : TG} {tb : TS} {D : Ends} {σ : St} {H : Hp} (Pv : Nat -> St -> Hp -> Prop) (h0 : Pv 0 σ H)
    (hs : ∀ i c σ H, z.cps[i]? = some c -> Pv i σ H -> g (.str ⟨#[c]⟩) σ H fun σ2 H2 => tb { D with nx := Pv (i + 1), ct := Pv (i + 1), bk := D.nx } σ2 H2) (hd : ∀ σ H, Pv z.cps.size σ H -> D.nx σ H) :
    LoopX g tb D σ (.str z) H := by
  refine ⟨z, rfl, fun i m σ H => m = z.cps.size - i /\ i ≤ z.cps.size /\ Pv i σ H, ⟨_, rfl, Nat.zero_le _, h0⟩, ?_⟩
  rintro i m σ H ⟨rfl, hi, p⟩
  by_cases hlt : i < z.cps.size
  · refine .inr ⟨hlt, Pv (i + 1), fun σ' H' p' => ⟨z.cps.size - (i + 1), by omega, rfl, hlt, p'⟩, fun v H' yy => ?_⟩
    obtain ⟨rfl, c, ec, rfl⟩ := yy
    exact hs i c σ H' ec p
  · have e : i = z.cps.size := by omega
    exact .inl ⟨by show z.cps.size ≤ i; omega, hd σ H (e ▸ p)⟩
def CompX (k : Nat) (js : List Nat) (g : TG) (te : TE) (σ : St) (v : V) (H1 : Hp) (Q : VK) : Prop := ∃ z, v = .str z /\ ∃ W : Nat -> Nat -> List V -> St -> Hp -> Prop, (∃ m, W 0 m [] (compSt k js σ) H1) /\ ∀ i m ys σ' H', W i m ys σ' H' ->
    ((Itx z).stop i H' /\ ∀ p, H' p = none -> Q (.ref p) (upd H' p (.lst ys))) \/
    ((Itx z).go i H' /\ ys.length < sizeLine /\ ∃ N : List V -> St -> Hp -> Prop, (∀ zs σ2 H2, N zs σ2 H2 -> ∃ m', m' < m /\ W (i + 1) m' zs σ2 H2) /\ ∀ x H2, (Itx z).yld i H' x H2 -> g x σ' H2 fun σ3 H3 => te σ3 H3 fun v H4 => N (ys ++ [v]) σ3 H4)
theorem CompX.mk {z : Str} {k : Nat} {js : List Nat} {g : TG} {te : TE} {Q : VK} {σ : St} {H : Hp} (Pv : Nat -> List V -> St -> Hp -> Prop) (h0 : Pv 0 [] (compSt k js σ) H)
    (hs : ∀ i c ys σ H, z.cps[i]? = some c -> Pv i ys σ H -> ys.length < sizeLine /\ g (.str ⟨#[c]⟩) σ H fun σ3 H3 => te σ3 H3 fun v H4 => Pv (i + 1) (ys ++ [v]) σ3 H4) (hd : ∀ ys σ H, Pv z.cps.size ys σ H -> ∀ p, H p = none -> Q (.ref p) (upd H p (.lst ys))) :
    CompX k js g te σ (.str z) H Q := by
  refine ⟨z, rfl, fun i m ys σ H => m = z.cps.size - i /\ i ≤ z.cps.size /\ Pv i ys σ H, ⟨_, rfl, Nat.zero_le _, h0⟩, ?_⟩
  rintro i m ys σ H ⟨rfl, hi, p⟩
  by_cases hlt : i < z.cps.size
  · refine .inr ⟨hlt, (hs i (z.cps[i]'hlt) ys σ H (Array.getElem?_eq_getElem hlt) p).1, Pv (i + 1), fun zs σ' H' p' => ⟨z.cps.size - (i + 1), by omega, rfl, hlt, p'⟩, fun v H' yy => ?_⟩
    obtain ⟨rfl, c, ec, rfl⟩ := yy
    exact (hs i c ys σ H' ec p).2
  · have e : i = z.cps.size := by omega
    exact .inl ⟨by show z.cps.size ≤ i; omega, hd ys σ H (e ▸ p)⟩
section
variable {X : Cx}
end
section
variable {X : Cx}
def rCatL (K : PySem.W.Frag) : R2 := fun x y H Q => ∃ l b xs zs, x = .ref l /\ y = .ref b /\ SqL K H l xs /\ SqL K H b zs /\ xs.length + zs.length ≤ sizeLine /\ ∀ p, H p = none -> Q (.ref p) (upd H p (.lst (xs ++ zs)))
theorem op_catL : OpR X (binaryOp .Add) (rCatL X.K) := by
  intro pins s σ H x y v u Q I rx ry h
  obtain ⟨l, b, xs, zs, rfl, rfl, hH, hB, hz, q⟩ := h
  cases rx
  cases ry
  obtain ⟨its, r, ⟨⟨c1, d1, z1, l1⟩, n, e, hc, hd, hs⟩, _⟩ := I.list hH
  obtain ⟨its2, r2, ⟨⟨c2, d2, z2, l2⟩, n2, e2, hc2, hd2, hs2⟩, _⟩ := I.list hB
  simp only at hc hd hs hc2 hd2 hs2
  subst hc hd hs hc2 hd2 hs2
  have a1 := r.length
  have a2 := r2.length
  have ea : its.toArray ++ its2.toArray = (its ++ its2).toArray := by simp
  refine concat_meets ⟨_, e, rfl⟩ ⟨_, e2, rfl⟩ noFill_list_add seq_list_add F.slot_list_add F.entry_list_add (F.args_list_add_2 _ _) (list_addW l b its.toArray its2.toArray n n2 _ _ _ _ (by rw [List.size_toArray, List.size_toArray]; omega)) ⟨e, e2, ?_⟩
  rw [ea]
  exact ⟨.ref _, _, I.lnew (t' := s.toks) (r.append r2) (by rw [List.length_append]; omega), rfl, q _ I.fresh⟩
end
section
variable {pg : Program} {wd : World} {B : Around} {X0 : Value -> Shared -> Prop} {s0 : Shared}
end
def ItzL (K : PySem.W.Frag) (a b : Addr) : It := ⟨fun i H => ∃ xs ys x y, SqL K H a xs /\ SqL K H b ys /\ xs[i]? = some x /\ ys[i]? = some y,
  fun i H v H' => ∃ T x y, v = .ref T /\ H T = none /\ H' = upd H T (.tup [x, y]) /\ ∀ xs ys, SqL K H a xs -> SqL K H b ys -> xs[i]? = some x /\ ys[i]? = some y, fun i H => ∃ xs ys, SqL K H a xs /\ SqL K H b ys /\ (xs.length ≤ i \/ ys.length ≤ i)⟩
section
variable {X : Cx} {es : List Expr} {x1 : Nat} {pp : Pos}
end
def LoopZL (K : PySem.W.Frag) (g : TG) (tb : TS) (D : Ends) (σ : St) (vs : List V) (H1 : Hp) : Prop := ∃ a b xs ys, vs = [.ref a, .ref b] /\ SqL K H1 a xs /\ SqL K H1 b ys /\ ∃ W : Nat -> Nat -> St -> Hp -> Prop, (∃ m, W 0 m σ H1) /\ ∀ i m σ H, W i m σ H ->
  ((ItzL K a b).stop i H /\ D.nx σ H) \/ ((ItzL K a b).go i H /\ ∃ N : St -> Hp -> Prop, (∀ σ' H', N σ' H' -> ∃ m', m' < m /\ W (i + 1) m' σ' H') /\ ∀ x H', (ItzL K a b).yld i H x H' -> g x σ H' fun σ2 H2 => tb { D with nx := N, ct := N, bk := D.nx } σ2 H2)
theorem LoopZL.mk {K : PySem.W.Frag} {a b : Addr} {xs ys : List V} {g : TG} {tb : TS} {D : Ends} {σ : St} {H : Hp} (n : Nat) (hn : n = min xs.length ys.length) (h1 : SqL K H a xs) (h2 : SqL K H b ys) (Pv : Nat -> St -> Hp -> Prop) (h0 : Pv 0 σ H) (hl : ∀ i σ H, i ≤ n -> Pv i σ H -> SqL K H a xs /\ SqL K H b ys)
    (hs : ∀ i x y σ H T, i < n -> xs[i]? = some x -> ys[i]? = some y -> Pv i σ H -> H T = none -> g (.ref T) σ (upd H T (.tup [x, y])) fun σ2 H2 => tb { D with nx := Pv (i + 1), ct := Pv (i + 1), bk := D.nx } σ2 H2) (hd : ∀ σ H, Pv n σ H -> D.nx σ H) :
    LoopZL K g tb D σ [.ref a, .ref b] H := by
  subst hn
  refine ⟨a, b, xs, ys, rfl, h1, h2, fun i m σ H => m = min xs.length ys.length - i /\ i ≤ min xs.length ys.length /\ Pv i σ H, ⟨_, rfl, Nat.zero_le _, h0⟩, ?_⟩
  rintro i m σ H ⟨rfl, hi, p⟩
  obtain ⟨k1, k2⟩ := hl i σ H hi p
  by_cases hlt : i < min xs.length ys.length
  · have l1 : i < xs.length := by omega
    have l2 : i < ys.length := by omega
    refine .inr ⟨⟨xs, ys, _, _, k1, k2, List.getElem?_eq_getElem l1, List.getElem?_eq_getElem l2⟩, Pv (i + 1), fun σ' H' p' => ⟨min xs.length ys.length - (i + 1), by omega, rfl, hlt, p'⟩, fun v H' yy => ?_⟩
    obtain ⟨T, x, y, rfl, hT, rfl, ex⟩ := yy
    obtain ⟨ex1, ex2⟩ := ex xs ys k1 k2
    exact hs i x y σ H T hlt ex1 ex2 p hT
  · have e : i = min xs.length ys.length := by omega
    exact .inl ⟨⟨xs, ys, k1, k2, by omega⟩, hd σ H (e ▸ p)⟩
def CompZL (K : PySem.W.Frag) (k : Nat) (js : List Nat) (g : TG) (te : TE) (σ : St) (vs : List V) (H1 : Hp) (Q : VK) : Prop := ∃ a b xs ys, vs = [.ref a, .ref b] /\ SqL K H1 a xs /\ SqL K H1 b ys /\ ∃ W : Nat -> Nat -> List V -> St -> Hp -> Prop, (∃ m, W 0 m [] (compSt k js σ) H1) /\ ∀ i m zs σ' H', W i m zs σ' H' ->
    ((ItzL K a b).stop i H' /\ ∀ p, H' p = none -> Q (.ref p) (upd H' p (.lst zs))) \/
    ((ItzL K a b).go i H' /\ zs.length < sizeLine /\ ∃ N : List V -> St -> Hp -> Prop, (∀ zs σ2 H2, N zs σ2 H2 -> ∃ m', m' < m /\ W (i + 1) m' zs σ2 H2) /\ ∀ x H2, (ItzL K a b).yld i H' x H2 -> g x σ' H2 fun σ3 H3 => te σ3 H3 fun v H4 => N (zs ++ [v]) σ3 H4)
theorem CompZL.mk {K : PySem.W.Frag} {a b : Addr} {xs ys : List V} {k : Nat} {js : List Nat} {g : TG} {te : TE} {Q : VK} {σ : St} {H : Hp} (n : Nat) (hn : n = min xs.length ys.length) (h1 : SqL K H a xs) (h2 : SqL K H b ys) (Pv : Nat -> List V -> St -> Hp -> Prop) (h0 : Pv 0 [] (compSt k js σ) H) (hl : ∀ i zs σ H, i ≤ n -> Pv i zs σ H -> SqL K H a xs /\ SqL K H b ys)
    (hs : ∀ i x y zs σ H T, i < n -> xs[i]? = some x -> ys[i]? = some y -> Pv i zs σ H -> H T = none -> zs.length < sizeLine /\ g (.ref T) σ (upd H T (.tup [x, y])) fun σ3 H3 => te σ3 H3 fun v H4 => Pv (i + 1) (zs ++ [v]) σ3 H4) (hz : ∀ zs σ H, Pv n zs σ H -> ∀ p, H p = none -> Q (.ref p) (upd H p (.lst zs))) (hlen : ∀ i zs σ H, Pv i zs σ H -> zs.length < sizeLine) :
    CompZL K k js g te σ [.ref a, .ref b] H Q := by
  subst hn
  refine ⟨a, b, xs, ys, rfl, h1, h2, fun i m zs σ H => m = min xs.length ys.length - i /\ i ≤ min xs.length ys.length /\ Pv i zs σ H, ⟨_, rfl, Nat.zero_le _, h0⟩, ?_⟩
  rintro i m zs σ H ⟨rfl, hi, p⟩
  obtain ⟨k1, k2⟩ := hl i zs σ H hi p
  by_cases hlt : i < min xs.length ys.length
  · have l1 : i < xs.length := by omega
    have l2 : i < ys.length := by omega
    refine .inr ⟨⟨xs, ys, _, _, k1, k2, List.getElem?_eq_getElem l1, List.getElem?_eq_getElem l2⟩, hlen _ _ _ _ p, Pv (i + 1), fun zs' σ' H' p' => ⟨min xs.length ys.length - (i + 1), by omega, rfl, hlt, p'⟩, fun v H' yy => ?_⟩
    obtain ⟨T, x, y, rfl, hT, rfl, ex⟩ := yy
    obtain ⟨ex1, ex2⟩ := ex xs ys k1 k2
    exact (hs i x y zs σ H T hlt ex1 ex2 p hT).2
  · have e : i = min xs.length ys.length := by omega
    exact .inl ⟨⟨xs, ys, k1, k2, by omega⟩, hz zs σ H (e ▸ p)⟩
section
variable {prog : Program} {w : World} {A : Around} {E : Value -> Shared -> Prop} {s : Shared}
theorem z6x {l : Addr} {T : String} {o : Obj} {vs : List Value} {n : Nat} {ns : List Int} {Q : Value -> Shared -> Prop} (hT : T = "list" \/ T = "tuple") (ho : s.heap.get? l = some o) (hc : o.cls = .type T) (hd : o.data = .seq vs.toArray n) (hI : IntsAre vs ns) (h64 : vs.length < 64)
    (h : ∀ (h1 h2 : Heap) (vs' : List Value) (ns' : List Int) (e : Nat), (∀ b u, s.heap.get? b = some u -> h1.get? b = some u) -> (∀ b u, h1.get? b = some u -> h2.get? b = some u) -> h2.get? h1.objs.size = some (seqObj "list" vs'.toArray e) -> IntsAre vs' ns' -> ns'.Perm ns -> ns'.Pairwise (· ≤ ·) -> Q (.ref h1.objs.size) { s with heap := h2 }) :
    wpAny (model prog w) A (call (.builtin "sorted") [.ref l]) Q E s := by
  refine Calls.call_function_entry kind_sorted plain_sorted entry_sorted (args_sorted1 _) ?_
  unfold Builtin.«sorted»
  refine wpAny_bind (m := checkCount "sorted" 1 1 _) (wpAny_pure ?_)
  refine wpAny_bind (wpAny_collect_seq l hT ho hc hd (fun h1 k1 => ?_) (by simp only [List.size_toArray]; exact Nat.le_of_lt (z0w (by omega))))
  rw [show vs.toArray.toList = vs by simp]
  refine wpAny_bind (wpAny_newList ?_)
  have hoL : (h1.push (seqObj "list" vs.toArray 0)).get? h1.objs.size = some (seqObj "list" vs.toArray 0) := Heap.get?_push_size _ rfl
  refine wpAny_bind (wpAny_holding (wpAny_call_entry slot_list_sort ⟨_, hoL, rfl⟩ entry_list_sort (list_sort_tree hoL hI h64 fun out ns' a1 a2 a3 => ⟨_, rfl, ?_⟩) (args_list_sort _)))
  refine wpAny_pure ⟨_, rfl, ?_⟩
  obtain ⟨e, he⟩ := sortedHeap_at (vs := vs) (out := out) hoL
  refine h h1 _ out.toList ns' e k1 (fun b u q => ?_) (by rw [Array.toArray_toList]; exact he) a1 a2 a3
  have hlt := Heap.lt_size q
  rw [sortedHeap_old (Nat.ne_of_lt hlt) (by rw [size_push']; exact Nat.lt_succ_of_lt hlt)]
  exact Heap.get?_push_of_some _ q
end
theorem z5w : ∀ {xs : List V} {us : List Value}, xs.length = us.length -> (∀ (i : Nat) u, us[i]? = some u -> ∃ x, xs[i]? = some x /\ RelV x u) -> Vals xs us
  | [], [], _, _ => .nil
  | [], _ :: _, h, _ => by simp at h
  | _ :: _, [], h, _ => by simp at h
  | x :: xs, u :: us, h, f => by
    obtain ⟨y, e, r⟩ := f 0 u rfl
    cases (Option.some.inj e)
    exact .cons r (z5w (by simpa using h) fun i v e => f (i + 1) v e)
section
variable {X : Cx}
theorem z5l : CallR X (.builtin "sorted") (fun xs H Q => ∃ p ns, xs = [.ref p] /\ (SqL X.K H p (List.map V.int ns) \/ SqT X.K H p (List.map V.int ns)) /\ ns.length < 64 /\ ∀ ns' : List Int, ns'.Perm ns -> ns'.Pairwise (· ≤ ·) -> ∀ l, H l = none -> Q (.ref l) (upd H l (.lst (ns'.map V.int)))) := by
  intro pins s σ H xs us Q I r h
  obtain ⟨p, ns, rfl, hq, h64, q⟩ := h
  obtain ⟨u, rfl, rx⟩ := z5y r
  cases rx
  have fin : ∀ (h1 h2 : Heap) (vs' : List Value) (ns' : List Int) (e : Nat), (∀ b u, s.heap.get? b = some u -> h1.get? b = some u) -> (∀ b u, h1.get? b = some u -> h2.get? b = some u) -> h2.get? h1.objs.size = some (seqObj "list" vs'.toArray e) -> IntsAre vs' ns' -> ns'.Perm ns -> ns'.Pairwise (· ≤ ·) -> EP X pins σ Q (.ref h1.objs.size) { s with heap := h2 } := by
    intro h1 h2 vs' ns' e k1 k2 g a1 a2 a3
    have I1 : Inv X pins σ H { s with heap := h1 } := I.kept (t' := s.toks) k1
    have hz : (ns'.map V.int).length ≤ sizeLine := by rw [List.length_map, a2.length_eq]; exact Nat.le_of_lt (z0w (by omega))
    have I2 : Inv X pins σ (upd H h1.objs.size (.lst (ns'.map V.int))) { s with heap := h2 } := I1.laid (t' := s.toks) k2 (Nat.le_refl _) (show ObjOk X.prog X.w _ _ _ (.lst (ns'.map V.int)) from ⟨hz, vs', e, z5x a1, g⟩)
    exact ⟨.ref h1.objs.size, _, I2, rfl, q ns' a2 a3 _ (I1.hok.fresh (Nat.le_refl _))⟩
  rcases hq with hq | hq
  · obtain ⟨its, r', pl, hz⟩ := I.list hq
    have hi := z5b r'
    obtain ⟨o, ho, hc, n, hd⟩ := pl.isList
    exact z6x (.inl rfl) ho hc hd hi (by rw [hi.length]; exact h64) fin
  · obtain ⟨its, r', pl, hz⟩ := I.tuple hq
    have hi := z5b r'
    obtain ⟨o, ho, hc, n, hd⟩ := pl
    exact z6x (.inr rfl) ho hc hd hi (by rw [hi.length]; exact h64) fin
theorem z4l : CallR X (.type "range") (fun xs H Q => ∃ j : Int, xs = [.int j] /\ ∀ r, H r = none -> Q (.ref r) (upd H r (.rng 0 j))) := by
  intro pins s σ H xs us Q I r h
  obtain ⟨j, rfl, q⟩ := h
  obtain ⟨u, rfl, t, rfl⟩ := z5y r
  refine call_range_1 ⟨.ref s.heap.objs.size, _, I.laid (fun b o e => Heap.get?_push_of_some _ e) (Nat.le_refl _) ?_, rfl, q _ (I.hok.fresh (Nat.le_refl _))⟩
  exact ⟨_, _, _, Heap.get?_push_size _ rfl⟩
def upL (n : Nat) : List Int := (List.range n).map fun (i : Nat) => (i : Int)
theorem z3v (hc : X.calm = true) : CallR X (.type "list") (fun xs H Q => ∃ p n, xs = [.ref p] /\ H p = some (.rng 0 (Int.ofNat n)) /\ n ≤ 1000 /\ ∀ l, H l = none -> Q (.ref l) (upd H l (.lst ((upL n).map V.int)))) := by
  intro pins s σ H xs us Q I r h
  obtain ⟨p, n, rfl, hp, hn, q⟩ := h
  obtain ⟨u, rfl, rx⟩ := z5y r
  cases rx
  obtain ⟨t, u, v, e⟩ := I.hok p _ hp
  have hs : Builtin.Range.small 0 (Int.ofNat n) 1 = true := by
    have z : ∀ m : Fin 1001, Builtin.Range.small 0 (Int.ofNat m.val) 1 = true := by decide +kernel
    exact z ⟨n, by omega⟩
  have hsz : Builtin.Range.rangeSize 0 (Int.ofNat n) 1 = n := by
    unfold Builtin.Range.rangeSize
    rw [if_pos (by decide)]
    split
    · show (Int.ofNat n - 0 - 1) / 1 + 1 = _; simp; 
    · simp at *; omega
  refine call_list_range (I.ok.hd hc) e hs hsz (by omega) fun h' tk acc' c' k g it => ?_
  have rv : Vals ((upL n).map V.int) acc'.toList := by
    refine z5w (by simp [upL, it.1]) fun i v e => ?_
    rw [Array.getElem?_toList] at e
    obtain ⟨tt, rfl⟩ := it.2 i v e
    have hi : i < n := by rw [← it.1]; exact (Array.getElem?_eq_some_iff.mp e).1
    exact ⟨.int i, by simp [upL, hi], tt, by simp⟩
  exact ⟨.ref s.heap.objs.size, _, I.laid k (Nat.le_refl _) (show ObjOk X.prog X.w _ _ _ (.lst _) from ⟨by simp [upL]; exact Nat.le_of_lt (z0w hn), acc'.toList, c', rv, by rw [Array.toArray_toList]; exact g⟩), rfl, q _ (I.hok.fresh (Nat.le_refl _))⟩
theorem z6t : CallR X (.type "tuple") (fun xs H Q => ∃ p ys, xs = [.ref p] /\ SqL X.K H p ys /\ ∀ l o, H l = none -> o.dict = none -> Q (.ref l) (upd H l (.frz o (.tup ys)))) := by
  intro pins s σ H xs us Q I r h
  obtain ⟨p, ys, rfl, hq, q⟩ := h
  obtain ⟨u, rfl, rx⟩ := z5y r
  cases rx
  obtain ⟨its, r', pl, hz⟩ := I.list hq
  have hlen := r'.length
  refine call_tuple_list pl.isList (fun h' kp => ?_) (by simp only [List.size_toArray] <;> omega)
  have I1 : Inv X pins σ H { s with heap := h' } := I.kept (t' := s.toks) kp
  have I2 : Inv X pins σ (upd H h'.objs.size (.frz { cls := .type "tuple", data := .seq its.toArray } (.tup ys))) { s with heap := h'.push { cls := .type "tuple", data := .seq its.toArray } } :=
    I1.laid (t' := s.toks) (fun b o e => Heap.get?_push_of_some _ e) (Nat.le_refl _) (show ObjOk X.prog X.w _ _ _ (.frz _ (.tup ys)) from ⟨Heap.get?_push_size _ rfl, hz, its, r', IsTup.new _ _⟩)
  exact ⟨.ref h'.objs.size, _, I2, rfl, q _ _ (I1.hok.fresh (Nat.le_refl _)) rfl⟩
def tBMf (r : V -> List V -> Hp -> VK -> Prop) (to : TE) (t : TA) : TE := fun σ H Q => to σ H fun x H1 => (∃ a o xs, x = .ref a /\ H1 a = some (.frz o (.tup xs)) /\ o.dict = none) /\ t σ H1 fun ys H2 => r x ys H2 Q
theorem pe_bmF {o e : Expr} {es : List Expr} {to : TE} {t : TA} {name : Str} {apos cpos : Pos} {id : String} {r : V -> List V -> Hp -> VK -> Prop} (slot : Slot "tuple" name id) (hty : typeOf (.builtin id) = pure (.type "method_descriptor")) (hm : MtR X id r) (ho : PE X o to) (ha : PA X (e :: es) t)
    (hbase : attributeBase o name X.env (eval o X.env) = eval o X.env := by rfl)
    (hfew : ((backTo cpos (starEach (e :: es) X.env)).all (fun x => !x.1) && (backToKw cpos (keywordEach [] X.env)).all (fun x => x.1.isSome)
      && decide ((e :: es).length + ([] : List Keyword).length + (if ([] : List Keyword).isEmpty then 0 else 1) < 30)) = true := by rfl)
    (hline : (apos.endLine == cpos.line) = true := by rfl) (hs : starEach (e :: es) X.env = (false, eval e X.env) :: starEach es X.env := by rfl) (hplain : (backTo cpos (starEach es X.env)).any (·.1) = false := by rfl) :
    PE X (.Call (.Attribute o name apos) (e :: es) [] cpos) (tBMf r to t) := by
  intro pins s σ H Q I h
  refine wpAny_Call_method_late hbase hfew hline rfl (thn (ho pins s σ H _ I h) fun v s1 ⟨x, H1, I1, r1, ty, q1⟩ => ?_)
  have hh : s1.TypeIs v "tuple" /\ ∀ a, v = .ref a -> ∃ ob, s1.heap.get? a = some ob /\ ob.dict = none := by
    obtain ⟨a, ob, xs, rfl, ha, hd⟩ := ty
    cases r1
    obtain ⟨g1, hz, its, rv, o2, g2, c2, n2, d2⟩ := I1.hok a _ ha
    rw [g1] at g2; cases g2
    exact ⟨⟨_, g1, c2⟩, fun b e => by cases e; exact ⟨_, g1, hd⟩⟩
  refine ⟨"tuple", id, PySem.F.plainAttrs_tuple, slot, hty, hh.1, hh.2, ?_⟩
  have hA := ha cpos pins s1 σ H1 _ I1 q1
  rw [hs] at hA ⊢
  refine Calls.callWith_builtin (by show (false || (backTo cpos (starEach es X.env)).any (·.1)) = false; rw [hplain] <;> rfl) (Calls.evalArgs_plain ?_)
  exact thn hA fun us s2 ⟨vs, H2, I2, r2, q2⟩ => hm pins s2 σ H2 x vs v us Q I2 r1 r2 q2
theorem mr_popAt : MtR X "list.pop" rPopAt := mt_popAt
end
theorem ps_setC {X : Cx} {i : Nat} {x : Str} {elt tg iter : Expr} {scope : Scope} {cl : List (Str × Addr)} {pos pos' lpos : Pos} {own fv : List Str} {js : List Nat} {wi : TI} {g : TG} {te : TE}
    (hN : X.N.Nodup) (hx1 : X.N[i]? = some x) (hx : Loc X.env.scope x) (hf : X.fn x = true \/ X.env.scope.names.lookup x = some .local)
    (hc : X.calm = true) (hi : PI X tg iter wi) (hclos : closureFor scope X.env = pure cl) (hcell : ∀ y ∈ scope.names, y.2 ≠ .cell) (hkind : scope.kind = .function)
    (hnames : ∀ y ∈ scope.names, y.2 = .local -> scope.names.lookup y.1 = some .local)
    (hcl : ∀ x c, cl.lookup x = some c -> X.env.cells.lookup x = some c)
    (hhas : ∀ x, ((relabel scope X.env).names.lookup x = some .cell \/ (relabel scope X.env).names.lookup x = some .free) -> ∃ c, cl.lookup x = some c)
    (hlen : js.length = fv.length) (hcap : ∀ (i : Nat) x j, fv[i]? = some x -> js[i]? = some j -> Cap X scope cl x j)
    (hg : ∀ (C : Addr) (ex : List Addr) (s : Shared) (H : Hp), PG (cxComp X (own ++ fv) scope cl C ex s H) tg g)
    (he : ∀ (C : Addr) (ex : List Addr) (s : Shared) (H : Hp), PE (cxComp X (own ++ fv) scope cl C ex s H) elt te)
    (hsw : swapsWith (.ListComp elt [⟨tg, iter, [], 0⟩] scope lpos) (some (.Name x pos')) pos.line X.env = pure true := by rfl)
    (hs : ∀ x, foldedSetIterable iter X.env x = pure x := by intro _; rfl) :
    PS X (.Assign [.Name x pos'] (.ListComp elt [⟨tg, iter, [], 0⟩] scope lpos) pos) (tAsg (tComp wi own.length js g te) (gName i)) := by
  intro pins s σ H D I h
  rw [exec_Assign_Name_used _ _ _ _ hsw]
  refine wpAny_bind (wpAny_standAt ?_)
  rw [arm_evalThenUse_ListComp]
  have core := comp_core (use := some (assign (.Name x pos') X.env)) (QQ := fun _ s' => SP X pins D .next s') (fpos := firstIterPos [⟨tg, iter, [], 0⟩] lpos) (pos := lpos) hc hi hclos hcell hkind hnames hcl hhas hlen hcap hg he hs I h (fun a C s5 H5 fl I5 zC zL zS zc zp ⟨m, hn⟩ q => ?_)
  · refine wpAny_bind (wpAny_bind (thn core fun _ s' hq => ?_))
    exact wpAny_pure (wpAny_pure hq)
  · show wpAny (model X.prog X.w) X.A (assign (.Name x pos') X.env (.ref a)) _ X.xe s5
    show wpAny (model X.prog X.w) X.A (do standAt pos'; bindName X.env x (.ref a)) _ X.xe s5
    refine wpAny_bind (wpAny_standAt ?_)
    refine bindName_ ?_
    refine store_ok2 I5 hN hx1 hx (show RelV (.ref a) (.ref a) from rfl) (fun s6 I6 ⟨b, sb, hb⟩ => ?_) hf
    have cb : C ≠ b := by
      rcases hb with rfl | hb
      · exact zL
      · exact fun z => zc x b hb z.symm
    obtain ⟨o, es, ep, e, r⟩ := hn
    refine ⟨m, ⟨o, es, ep, (sb.2 C cb).trans e, r⟩, fun h' sc => ?_⟩
    exact ⟨_, H5, I6.turned (t' := s6.toks) (it := C) (fun d o nd e => sc.extBut d o nd e) zC zL (.inr zS) zc zp, q⟩
theorem ps_setC0 {X : Cx} {i : Nat} {x : Str} {elt tg iter : Expr} {scope : Scope} {pos pos' lpos : Pos} {own : List Str} {wi : TI} {g : TG} {te : TE}
    (hN : X.N.Nodup) (hx1 : X.N[i]? = some x) (hx : Loc X.env.scope x) (hf : X.fn x = true \/ X.env.scope.names.lookup x = some .local)
    (hc : X.calm = true) (hi : PI X tg iter wi) (hcell : ∀ y ∈ scope.names, y.2 ≠ .cell) (hfree : ∀ y ∈ scope.names, y.2 ≠ .free) (hkind : scope.kind = .function)
    (hnames : ∀ y ∈ scope.names, y.2 = .local -> scope.names.lookup y.1 = some .local)
    (hg : ∀ (C : Addr) (ex : List Addr) (s : Shared) (H : Hp), PG (cxComp X own scope [] C ex s H) tg g)
    (he : ∀ (C : Addr) (ex : List Addr) (s : Shared) (H : Hp), PE (cxComp X own scope [] C ex s H) elt te)
    (hsw : swapsWith (.ListComp elt [⟨tg, iter, [], 0⟩] scope lpos) (some (.Name x pos')) pos.line X.env = pure true := by rfl)
    (hs : ∀ x, foldedSetIterable iter X.env x = pure x := by intro _; rfl) :
    PS X (.Assign [.Name x pos'] (.ListComp elt [⟨tg, iter, [], 0⟩] scope lpos) pos) (tAsg (tComp wi own.length [] g te) (gName i)) := by
  refine ps_setC (own := own) (fv := []) (js := []) (cl := []) hN hx1 hx hf hc hi (closureFor_none hfree) hcell hkind hnames (fun x c h => by cases h) (fun x h => ?_) rfl (fun i x j h => by simp at h) (by simpa using hg) (by simpa using he) hsw hs
  rw [z5g hfree] at h
  rcases h with h | h
  · exact absurd rfl (hcell _ (PySem.mem_of_lookup h))
  · exact absurd rfl (hfree _ (PySem.mem_of_lookup h))
section
variable {X : Cx}
end
section
variable {κ : Type} [DecidableEq κ]
def valV (kvs : List (κ × V)) (k : κ) : Option V := (kvs.find? fun kv => decide (kv.1 = k)).map (·.2)
def putK (kvs : List (κ × V)) (k : κ) (v : V) : List (κ × V) :=
  if (kvs.any fun kv => decide (kv.1 = k)) = true then kvs.map (fun kv => if kv.1 = k then (kv.1, v) else kv) else kvs ++ [(k, v)]
def dropK (kvs : List (κ × V)) (k : κ) : List (κ × V) := kvs.filter fun kv => decide (kv.1 ≠ k)
theorem valV_pos {p : κ × V} {r : List (κ × V)} {k : κ} (e : p.1 = k) : valV (p :: r) k = some p.2 := by simp [valV, List.find?_cons, e]
theorem valV_neg {p : κ × V} {r : List (κ × V)} {k : κ} (e : ¬ p.1 = k) : valV (p :: r) k = valV r k := by simp [valV, List.find?_cons, e]
theorem RelO.getD {o : Option V} {u : Option Value} {d : V} {d' : Value} (r : RelO o u) (rd : RelV d d') : RelV (o.getD d) (u.getD d') := by
  cases o with
  | none => cases u with
    | none => exact rd
    | some _ => exact (show False from r).elim
  | some _ => cases u with
    | none => exact (show False from r).elim
    | some _ => exact r
theorem KV.val {kvs : List (κ × V)} {vs : List (κ × Value)} (r : KV kvs vs) (k : κ) : RelO (valV kvs k) (valueAt vs k) := by
  unfold KV at r
  induction r with
  | nil => exact True.intro
  | @cons p q ps qs h t ih =>
    obtain ⟨h1, h2⟩ := h
    by_cases e : p.1 = k
    · have e' : q.1 = k := h1.symm.trans e
      have b : valueAt (q :: qs) k = some q.2 := by simp [valueAt, List.find?_cons, e']
      rw [valV_pos e, b]; exact h2
    · have e' : ¬ q.1 = k := fun z => e (h1.trans z)
      have b : valueAt (q :: qs) k = valueAt qs k := by simp [valueAt, List.find?_cons, e']
      rw [valV_neg e, b]; exact ih
theorem KV.any {kvs : List (κ × V)} {vs : List (κ × Value)} (r : KV kvs vs) (k : κ) : (kvs.any fun kv => decide (kv.1 = k)) = vs.any fun kv => decide (kv.1 = k) := by
  unfold KV at r
  induction r with
  | nil => rfl
  | cons h t ih => rw [List.any_cons, List.any_cons, ih, h.1]
theorem KV.drop {kvs : List (κ × V)} {vs : List (κ × Value)} (r : KV kvs vs) (k : κ) : KV (dropK kvs k) (without vs k) := by
  unfold KV at r ⊢
  unfold dropK without
  induction r with
  | nil => exact .nil
  | @cons p q ps qs h t ih =>
    obtain ⟨h1, h2⟩ := h
    rw [List.filter_cons, List.filter_cons]
    by_cases e : p.1 = k
    · have a : ¬ decide (p.1 ≠ k) = true := by simp [e]
      have b : ¬ decide (q.1 ≠ k) = true := by simp [h1.symm.trans e]
      rw [if_neg a, if_neg b]; exact ih
    · have e' : ¬ q.1 = k := fun z => e (h1.trans z)
      have a : decide (p.1 ≠ k) = true := by simp [e]
      have b : decide (q.1 ≠ k) = true := by simp [e']
      rw [if_pos a, if_pos b]; exact .cons ⟨h1, h2⟩ ih
theorem KV.length {kvs : List (κ × V)} {vs : List (κ × Value)} (r : KV kvs vs) : kvs.length = vs.length := Paired.length r
end
abbrev KT (H : Hp) : List (List Key × V) -> List (List Key × Addr × Value) -> Prop := Paired fun p q => p.1 = q.1 /\ H q.2.1 = some (.tup (p.1.map kV)) /\ RelV p.2 q.2.2
theorem KT.val {H : Hp} {kvs : List (List Key × V)} {xs : List (List Key × Addr × Value)} (r : KT H kvs xs) (k : List Key) : RelO (valV kvs k) ((atKey xs k).map (·.2)) := by
  induction r with
  | nil => exact True.intro
  | @cons p q ps qs h t ih =>
    obtain ⟨h1, _, h2⟩ := h
    by_cases e : p.1 = k
    · have e' : q.1 = k := h1.symm.trans e
      have b : atKey (q :: qs) k = some q.2 := by simp [atKey, List.find?_cons, e']
      rw [valV_pos e, b]; exact h2
    · have e' : ¬ q.1 = k := fun z => e (h1.trans z)
      have b : atKey (q :: qs) k = atKey qs k := by simp [atKey, List.find?_cons, e']
      rw [valV_neg e, b]; exact ih
theorem KT.keeps {H H' : Hp} {kvs : List (List Key × V)} {xs : List (List Key × Addr × Value)} (r : KT H kvs xs) (ht : ∀ b ys, H b = some (.tup ys) -> H' b = some (.tup ys)) : KT H' kvs xs :=
  Paired.mapP r fun _ _ z => ⟨z.1, ht _ _ z.2.1, z.2.2⟩
section
variable {P : Program} {w : World} {H : Hp} {h : Heap} {a : Addr}
end
def DGet (H : Hp) (a : Addr) (y : V) (r : Option V) : Prop :=
  (∃ kvs k, Rd H a (.dK kvs) /\ y = kV k /\ r = valV kvs k) \/ ∃ kvs k b, Rd H a (.dT kvs) /\ y = .ref b /\ H b = some (.tup (k.map kV)) /\ r = valV kvs k
def DPut (H : Hp) (a : Addr) (y v : V) (H' : Hp) : Prop :=
  (∃ kvs k, H a = some (.dK kvs) /\ y = kV k /\ kvs.length < sizeLine /\ H' = upd H a (.dK (putK kvs k v))) \/
  ∃ kvs k b, H a = some (.dT kvs) /\ y = .ref b /\ H b = some (.tup (k.map kV)) /\ kvs.length < sizeLine /\ H' = upd H a (.dT (putK kvs k v))
theorem DGet.k {H : Hp} {a : Addr} {kvs : List (Key × V)} {k : Key} (e : H a = some (.dK kvs)) : DGet H a (kV k) (valV kvs k) := .inl ⟨kvs, k, .inl e, rfl, rfl⟩
theorem DGet.t {H : Hp} {a b : Addr} {kvs : List (List Key × V)} {k : List Key} (e : H a = some (.dT kvs)) (eb : H b = some (.tup (k.map kV))) : DGet H a (.ref b) (valV kvs k) := .inr ⟨kvs, k, b, .inl e, rfl, eb, rfl⟩
theorem DPut.k {H : Hp} {a : Addr} {kvs : List (Key × V)} {k : Key} {v : V} (e : H a = some (.dK kvs)) (hl : kvs.length < sizeLine) : DPut H a (kV k) v (upd H a (.dK (putK kvs k v))) := .inl ⟨kvs, k, e, rfl, hl, rfl⟩
theorem DPut.t {H : Hp} {a b : Addr} {kvs : List (List Key × V)} {k : List Key} {v : V} (e : H a = some (.dT kvs)) (eb : H b = some (.tup (k.map kV))) (hl : kvs.length < sizeLine) :
    DPut H a (.ref b) v (upd H a (.dT (putK kvs k v))) := .inr ⟨kvs, k, b, e, rfl, eb, hl, rfl⟩
section
variable {X : Cx} {pins : List (Addr × Obj)} {σ : St} {H : Hp} {s : Shared} {a : Addr} {y v : V} {u r : Value} {o : Option V} {A : Around} {E : Value -> Shared -> Prop}
end
section
variable {X : Cx} {pins : List (Addr × Obj)} {σ : St} {H : Hp} {s : Shared} {a : Addr} {kvs : List (Key × V)} {k : Key} {u : Value} {A : Around} {E : Value -> Shared -> Prop}
end
section
variable {X : Cx} {o i e value : Expr} {pos pos' tpos : Pos} {td ty tv : TE}
end
section
variable {X : Cx} {pos : Pos}
end
structure M1 (X : Cx) (o : Expr) (m : Str) (apos : Pos) (e : Expr) (cpos : Pos) : Prop where
  base : attributeBase o m X.env (eval o X.env) = eval o X.env
  few : ((backTo cpos (starEach [e] X.env)).all (fun x => !x.1) && (backToKw cpos (keywordEach [] X.env)).all (fun x => x.1.isSome)
    && decide (([e] : List Expr).length + ([] : List Keyword).length + (if ([] : List Keyword).isEmpty then 0 else 1) < 30)) = true
  line : (apos.endLine == cpos.line) = true
  trees : backTo cpos (starEach [e] X.env) = [(false, eval e X.env)]
structure M2 (X : Cx) (o : Expr) (m : Str) (apos : Pos) (e f : Expr) (cpos : Pos) : Prop where
  base : attributeBase o m X.env (eval o X.env) = eval o X.env
  few : ((backTo cpos (starEach [e, f] X.env)).all (fun x => !x.1) && (backToKw cpos (keywordEach [] X.env)).all (fun x => x.1.isSome)
    && decide (([e, f] : List Expr).length + ([] : List Keyword).length + (if ([] : List Keyword).isEmpty then 0 else 1) < 30)) = true
  line : (apos.endLine == cpos.line) = true
  trees : backTo cpos (starEach [e, f] X.env) = [(false, eval e X.env), (false, eval f X.env)]
section
variable {X : Cx} {pins : List (Addr × Obj)} {σ : St} {H : Hp} {s : Shared} {a : Addr} {y d : V} {u r : Value} {o : Option V} {A : Around} {E : Value -> Shared -> Prop}
end
section
variable {X : Cx} {o e f : Expr} {apos cpos : Pos} {td ty tx : TE}
end
section
variable {X : Cx} {pins : List (Addr × Obj)} {σ : St} {H : Hp} {s : Shared} {a : Addr} {kvs : List (Key × V)} {A : Around} {E : Value -> Shared -> Prop}
end
section
variable {X : Cx} {pins : List (Addr × Obj)} {σ : St} {H : Hp} {s : Shared} {a : Addr} {y : V} {u : Value} {A : Around} {E : Value -> Shared -> Prop}
end
section
variable {X : Cx}
end
section
variable {κ : Type} [DecidableEq κ]
end
def KTab (P : Program) (w : World) (K : PySem.W.Frag) (d : Addr) (kvs : List (Str × Addr)) : Prop := (d == sysModules) = false /\ ∀ h : Heap, K.In h -> h.DictOf (mixKind P w) d (kvs.map fun p => ((Sum.inr p.1 : Key), Value.ref p.2))
def entT (pm : Params) (l : List (Str × Tok × Addr)) : List DictEntry := l.map fun p => ⟨PyData.keyHash pm p.1, .str p.1 p.2.1, .ref p.2.2⟩
theorem KTab.mk {P : Program} {w : World} {K : PySem.W.Frag} {d : Addr} {l : List (Str × Tok × Addr)} {es : Array DictEntry} {n : Nat} (hd : (d == sysModules) = false) (hl : K.lookup d = some { cls := .type "dict", data := .dict es n }) (he : es.toList = entT w.params l) (nd : (l.map (·.1)).Nodup) :
    KTab P w K d (l.map fun p => (p.1, p.2.2)) := by
  refine ⟨hd, fun h KI => ⟨_, es, n, KI d _ hl, ⟨rfl, rfl, rfl⟩, rfl, ?_, ?_, ?_⟩⟩
  · intro e hm
    have hm : e ∈ es.toList := Array.mem_toList_iff.mpr hm
    rw [he] at hm
    obtain ⟨p, _, rfl⟩ := List.mem_map.mp hm
    exact ⟨Sum.inr p.1, keyIs_str p.1 p.2.1, rfl⟩
  · rw [he]
    clear he nd hl
    induction l with
    | nil => exact .nil
    | cons p r ih => exact .cons (keyIs_str p.1 p.2.1) rfl ih
  · rw [List.map_map, List.map_map]
    have e : ((fun x : Key × Value => x.1) ∘ (fun p : Str × Addr => ((Sum.inr p.1 : Key), Value.ref p.2))) ∘ (fun p : Str × Tok × Addr => (p.1, p.2.2)) = (fun x : Str => (Sum.inr x : Key)) ∘ fun p => p.1 := rfl
    rw [← List.map_map] at *
    have z : (l.map fun p => (Sum.inr p.1 : Key)).Nodup := by
      have : (l.map fun p => (Sum.inr p.1 : Key)) = (l.map (·.1)).map (fun x : Str => (Sum.inr x : Key)) := by rw [List.map_map]; rfl
      rw [this]
      exact List.Pairwise.map _ (fun a b (h : a ≠ b) z => h (Sum.inr.inj z)) nd
    simpa [List.map_map, Function.comp_def] using z
section
variable {X : Cx}
end
def KTup (K : PySem.W.Frag) (a : Addr) (xs : List V) : Prop := ∃ (o : Obj) (its : Array Value) (n : Nat), K.lookup a = some o /\ o.cls = .type "tuple" /\ o.data = .seq its n /\ its.size ≤ sizeLine /\ Vals xs its.toList
theorem KTup.sq {K : PySem.W.Frag} {a : Addr} {xs : List V} (h : KTup K a xs) {H : Hp} : SqT K H a xs := .inr h
section
variable {pg : Program} {wd : World} {B : Around} {X0 : Value -> Shared -> Prop} {s0 : Shared}
end
def ItzM (K : PySem.W.Frag) (a b : Addr) : It := ⟨fun i H => ∃ xs ys x y, SqL K H a xs /\ SqT K H b ys /\ xs[i]? = some x /\ ys[i]? = some y,
  fun i H v H' => ∃ T x y, v = .ref T /\ H T = none /\ H' = upd H T (.tup [x, y]) /\ ∀ xs ys, SqL K H a xs -> SqT K H b ys -> xs[i]? = some x /\ ys[i]? = some y, fun i H => ∃ xs ys, SqL K H a xs /\ SqT K H b ys /\ (xs.length ≤ i \/ ys.length ≤ i)⟩
section
variable {X : Cx} {es : List Expr} {x1 : Nat} {pp : Pos}
end
def LoopZM (K : PySem.W.Frag) (g : TG) (tb : TS) (D : Ends) (σ : St) (vs : List V) (H1 : Hp) : Prop := ∃ a b xs ys, vs = [.ref a, .ref b] /\ SqL K H1 a xs /\ SqT K H1 b ys /\ ∃ W : Nat -> Nat -> St -> Hp -> Prop, (∃ m, W 0 m σ H1) /\ ∀ i m σ H, W i m σ H ->
  ((ItzM K a b).stop i H /\ D.nx σ H) \/ ((ItzM K a b).go i H /\ ∃ N : St -> Hp -> Prop, (∀ σ' H', N σ' H' -> ∃ m', m' < m /\ W (i + 1) m' σ' H') /\ ∀ x H', (ItzM K a b).yld i H x H' -> g x σ H' fun σ2 H2 => tb { D with nx := N, ct := N, bk := D.nx } σ2 H2)
theorem LoopZM.mk {K : PySem.W.Frag} {a b : Addr} {xs ys : List V} {g : TG} {tb : TS} {D : Ends} {σ : St} {H : Hp} (n : Nat) (hn : n = min xs.length ys.length) (h1 : SqL K H a xs) (h2 : SqT K H b ys) (Pv : Nat -> St -> Hp -> Prop) (h0 : Pv 0 σ H) (hl : ∀ i σ H, i ≤ n -> Pv i σ H -> SqL K H a xs /\ SqT K H b ys)
    (hs : ∀ i x y σ H T, i < n -> xs[i]? = some x -> ys[i]? = some y -> Pv i σ H -> H T = none -> g (.ref T) σ (upd H T (.tup [x, y])) fun σ2 H2 => tb { D with nx := Pv (i + 1), ct := Pv (i + 1), bk := D.nx } σ2 H2) (hd : ∀ σ H, Pv n σ H -> D.nx σ H) :
    LoopZM K g tb D σ [.ref a, .ref b] H := by
  subst hn
  refine ⟨a, b, xs, ys, rfl, h1, h2, fun i m σ H => m = min xs.length ys.length - i /\ i ≤ min xs.length ys.length /\ Pv i σ H, ⟨_, rfl, Nat.zero_le _, h0⟩, ?_⟩
  rintro i m σ H ⟨rfl, hi, p⟩
  obtain ⟨k1, k2⟩ := hl i σ H hi p
  by_cases hlt : i < min xs.length ys.length
  · have l1 : i < xs.length := by omega
    have l2 : i < ys.length := by omega
    refine .inr ⟨⟨xs, ys, _, _, k1, k2, List.getElem?_eq_getElem l1, List.getElem?_eq_getElem l2⟩, Pv (i + 1), fun σ' H' p' => ⟨min xs.length ys.length - (i + 1), by omega, rfl, hlt, p'⟩, fun v H' yy => ?_⟩
    obtain ⟨T, x, y, rfl, hT, rfl, ex⟩ := yy
    obtain ⟨ex1, ex2⟩ := ex xs ys k1 k2
    exact hs i x y σ H T hlt ex1 ex2 p hT
  · have e : i = min xs.length ys.length := by omega
    exact .inl ⟨⟨xs, ys, k1, k2, by omega⟩, hd σ H (e ▸ p)⟩
def CompZM (K : PySem.W.Frag) (k : Nat) (js : List Nat) (g : TG) (te : TE) (σ : St) (vs : List V) (H1 : Hp) (Q : VK) : Prop := ∃ a b xs ys, vs = [.ref a, .ref b] /\ SqL K H1 a xs /\ SqT K H1 b ys /\ ∃ W : Nat -> Nat -> List V -> St -> Hp -> Prop, (∃ m, W 0 m [] (compSt k js σ) H1) /\ ∀ i m zs σ' H', W i m zs σ' H' ->
    ((ItzM K a b).stop i H' /\ ∀ p, H' p = none -> Q (.ref p) (upd H' p (.lst zs))) \/
    ((ItzM K a b).go i H' /\ zs.length < sizeLine /\ ∃ N : List V -> St -> Hp -> Prop, (∀ zs σ2 H2, N zs σ2 H2 -> ∃ m', m' < m /\ W (i + 1) m' zs σ2 H2) /\ ∀ x H2, (ItzM K a b).yld i H' x H2 -> g x σ' H2 fun σ3 H3 => te σ3 H3 fun v H4 => N (zs ++ [v]) σ3 H4)
theorem CompZM.mk {K : PySem.W.Frag} {a b : Addr} {xs ys : List V} {k : Nat} {js : List Nat} {g : TG} {te : TE} {Q : VK} {σ : St} {H : Hp} (n : Nat) (hn : n = min xs.length ys.length) (h1 : SqL K H a xs) (h2 : SqT K H b ys) (Pv : Nat -> List V -> St -> Hp -> Prop) (h0 : Pv 0 [] (compSt k js σ) H) (hl : ∀ i zs σ H, i ≤ n -> Pv i zs σ H -> SqL K H a xs /\ SqT K H b ys)
    (hs : ∀ i x y zs σ H T, i < n -> xs[i]? = some x -> ys[i]? = some y -> Pv i zs σ H -> H T = none -> zs.length < sizeLine /\ g (.ref T) σ (upd H T (.tup [x, y])) fun σ3 H3 => te σ3 H3 fun v H4 => Pv (i + 1) (zs ++ [v]) σ3 H4) (hz : ∀ zs σ H, Pv n zs σ H -> ∀ p, H p = none -> Q (.ref p) (upd H p (.lst zs))) (hlen : ∀ i zs σ H, Pv i zs σ H -> zs.length < sizeLine) :
    CompZM K k js g te σ [.ref a, .ref b] H Q := by
  subst hn
  refine ⟨a, b, xs, ys, rfl, h1, h2, fun i m zs σ H => m = min xs.length ys.length - i /\ i ≤ min xs.length ys.length /\ Pv i zs σ H, ⟨_, rfl, Nat.zero_le _, h0⟩, ?_⟩
  rintro i m zs σ H ⟨rfl, hi, p⟩
  obtain ⟨k1, k2⟩ := hl i zs σ H hi p
  by_cases hlt : i < min xs.length ys.length
  · have l1 : i < xs.length := by omega
    have l2 : i < ys.length := by omega
    refine .inr ⟨⟨xs, ys, _, _, k1, k2, List.getElem?_eq_getElem l1, List.getElem?_eq_getElem l2⟩, hlen _ _ _ _ p, Pv (i + 1), fun zs' σ' H' p' => ⟨min xs.length ys.length - (i + 1), by omega, rfl, hlt, p'⟩, fun v H' yy => ?_⟩
    obtain ⟨T, x, y, rfl, hT, rfl, ex⟩ := yy
    obtain ⟨ex1, ex2⟩ := ex xs ys k1 k2
    exact (hs i x y zs σ H T hlt ex1 ex2 p hT).2
  · have e : i = min xs.length ys.length := by omega
    exact .inl ⟨⟨xs, ys, k1, k2, by omega⟩, hz zs σ H (e ▸ p)⟩
def CompTI (K : PySem.W.Frag) (k : Nat) (js : List Nat) (g : TG) (tc : TT) (te : TE) (σ : St) (v : V) (H1 : Hp) (Q : VK) : Prop := ∃ a, v = .ref a /\ (∃ xs, SqT K H1 a xs) /\ ∃ W : Nat -> Nat -> List V -> St -> Hp -> Prop, (∃ m, W 0 m [] (compSt k js σ) H1) /\ ∀ i m zs σ' H', W i m zs σ' H' ->
    ((Itt K a).stop i H' /\ ∀ p, H' p = none -> Q (.ref p) (upd H' p (.lst zs))) \/
    ((Itt K a).go i H' /\ zs.length < sizeLine /\ ∃ N : List V -> St -> Hp -> Prop, (∀ zs σ2 H2, N zs σ2 H2 -> ∃ m', m' < m /\ W (i + 1) m' zs σ2 H2) /\ ∀ x H2, (Itt K a).yld i H' x H2 -> g x σ' H2 fun σ3 H3 => tc σ3 H3 fun b H4 => if b = true then te σ3 H4 fun v H5 => N (zs ++ [v]) σ3 H5 else N zs σ3 H4)
theorem CompTI.mk {K : PySem.W.Frag} {a : Addr} {xs : List V} {k : Nat} {js : List Nat} {g : TG} {tc : TT} {te : TE} {Q : VK} {σ : St} {H : Hp} (h1 : SqT K H a xs) (Pv : Nat -> List V -> St -> Hp -> Prop) (h0 : Pv 0 [] (compSt k js σ) H) (hl : ∀ i zs σ H, i ≤ xs.length -> Pv i zs σ H -> SqT K H a xs /\ zs.length < sizeLine)
    (hs : ∀ i x zs σ H, xs[i]? = some x -> Pv i zs σ H -> g x σ H fun σ3 H3 => tc σ3 H3 fun b H4 => if b = true then te σ3 H4 fun v H5 => Pv (i + 1) (zs ++ [v]) σ3 H5 else Pv (i + 1) zs σ3 H4) (hz : ∀ zs σ H, Pv xs.length zs σ H -> ∀ p, H p = none -> Q (.ref p) (upd H p (.lst zs))) :
    CompTI K k js g tc te σ (.ref a) H Q := by
  refine ⟨a, rfl, ⟨xs, h1⟩, fun i m zs σ H => m = xs.length - i /\ i ≤ xs.length /\ Pv i zs σ H, ⟨_, rfl, Nat.zero_le _, h0⟩, ?_⟩
  rintro i m zs σ H ⟨rfl, hi, p⟩
  obtain ⟨k1, k2⟩ := hl i zs σ H hi p
  by_cases hlt : i < xs.length
  · refine .inr ⟨⟨xs, _, k1, List.getElem?_eq_getElem hlt⟩, k2, Pv (i + 1), fun zs' σ' H' p' => ⟨xs.length - (i + 1), by omega, rfl, hlt, p'⟩, fun v H' yy => ?_⟩
    obtain ⟨rfl, ex⟩ := yy
    exact hs i v zs σ _ (ex xs k1) p
  · have e : i = xs.length := by omega
    exact .inl ⟨⟨xs, k1, by omega⟩, hz zs σ H (e ▸ p)⟩
section
variable {X : Cx}
end
theorem z3s {cells : List (Str × Addr)} {y z u : Str} {a b d : Addr} (h : cells.lookup y = some a) (h2 : cells.lookup z = some b) (h3 : cells.lookup u = some d) : ∀ x c, [(y, a), (z, b), (u, d)].lookup x = some c -> cells.lookup x = some c := fun x c e => by
  rcases List.mem_cons.mp (PySem.mem_of_lookup e) with q | q
  · cases q; exact h
  · rcases List.mem_cons.mp q with q | q
    · cases q; exact h2
    · cases List.mem_singleton.mp q; exact h3
structure FunD (K : PySem.W.Frag) (x qual : Str) (st : Stmt) (dV : Addr) (its : Array Value) (f : Addr) (fd : FuncData) : Prop where
  ex : ∃ (oc : Value) (od : Option Addr) (kV doc pm : Value) (an : Option Addr) (cdv ct : Value) (osl : Array (Option Value)),
    fd = PySem.W.fnOf x qual (defArgs st) (defBody st) (defScope st) (.ref dV) kV doc pm an cdv ct /\ K.lookup f = some ⟨oc, od, .func fd, osl⟩ /\ PySem.W.codeIn K cdv qual = true
  kp : PySem.W.keepIn K (.ref f) = true
  dt : ∃ (o : Obj) (n : Nat), K.lookup dV = some o /\ o.data = .seq its n
section
variable {P : Program} {w : World} {K : PySem.W.Frag} {mg : Str -> Option Value} {base : Heap}
theorem FunD.ok {x qual : Str} {st : Stmt} {dV : Addr} {its : Array Value} {f : Addr} {fd : FuncData} {N ps : List Str} {k : Nat} {sp : Sp} (F : FunD K x qual st dV its f fd) (S : FnScope N ps (defScope st)) (len : ∀ vs H Q E, sp vs H Q E -> vs.length = ps.length)
    (hbody : ∀ (cdv : Value) (A : Around) (outer : List Env) (s : Shared) (H : Hp) (vs : List V) (Q : VK) (E : XK), Room k (A.deeper (envOfC qual (defScope st) s.heap.objs.size f cdv)) -> sp vs H Q E ->
      ∃ t, PSs (cxOf CX0 P w K mg base N qual (defScope st) f cdv A outer s H E).nox (defBody st) t /\ t { nx := fun _ H' => Q .non H', rt := Q } (start N vs) H) : FnOk P w K mg base CX0 (k + 1) f fd ps sp := by
  obtain ⟨oc, od, kV, doc, pm, an, cdv, ct, osl, rfl, lk, hcd⟩ := F.ex
  refine fn_of lk hcd S len fun A outer s H vs Q E hr hsp => ?_
  obtain ⟨t, h, q⟩ := hbody cdv A outer s H vs Q E hr hsp
  exact ⟨t, h.nox, q⟩
theorem FunD.binds {x qual : Str} {st : Stmt} {dV : Addr} {its : Array Value} {f : Addr} {fd : FuncData} {ps : List Str} {ds : List Value} (F : FunD K x qual st dV its f fd)
    (h : ∀ (kV doc pm : Value) (an : Option Addr) (cdv ct : Value) (us : List Value), (us ++ ds).length = ps.length -> ∃ k, bindArgs (PySem.W.fnOf x qual (defArgs st) (defBody st) (defScope st) (.ref dV) kV doc pm an cdv ct) ⟨us, []⟩ = seqItems? (.ref dV) >>= k /\ k (some its) = pure (ps.zip (us ++ ds))) : Binds K fd ps ds := by
  obtain ⟨oc, od, kV, doc, pm, an, cdv, ct, osl, rfl, lk, hcd⟩ := F.ex
  obtain ⟨o, n, ho, hs⟩ := F.dt
  intro s us KI hl
  obtain ⟨k, h1, h2⟩ := h kV doc pm an cdv ct us hl
  exact .of_defaults (T := dV) rfl (KI dV o ho) hs h1 h2
end
structure CalleeD (P : Program) (w : World) (K : PySem.W.Frag) (mg : Str -> Option Value) (base : Heap) (CX : CXT) (k : Nat) (x : Str) (ps : List Str) (dvs : List V) (sp : Sp) : Prop where
  has : ∃ (f : Addr) (fd : FuncData) (ds : List Value), FnOk P w K mg base CX k f fd ps sp /\ mg x = some (.ref f) /\ PySem.W.keepIn K (.ref f) = true /\ Binds K fd ps ds /\ Vals dvs ds
theorem CalleeD.mono {P : Program} {w : World} {K : PySem.W.Frag} {mg : Str -> Option Value} {base : Heap} {CX : CXT} {j k : Nat} {x : Str} {ps : List Str} {dvs : List V} {sp : Sp} (c : CalleeD P w K mg base CX j x ps dvs sp) (h : j ≤ k) : CalleeD P w K mg base CX k x ps dvs sp :=
  let ⟨f, fd, ds, ok, m, kp, b, v⟩ := c.has; ⟨⟨f, fd, ds, ok.mono h, m, kp, b, v⟩⟩
section
variable {X : Cx} {CX : CXT} {k : Nat} {ps : List Str} {dvs : List V} {sp : Sp} {E : XK} {x : Str} {p pos : Pos} {e : Expr} {es : List Expr} {t : TA}
end
section
variable {X : Cx}
def rIxQ : R2 := fun x y H Q => ∃ p xs i v, x = .ref p /\ y = .int i /\ (H p = some (.lst xs) \/ H p = some (.tup xs)) /\ atI xs i = some v /\ Q v H
theorem ix_seqH : IxR X rIxQ := by
  intro value slice pins s σ H x y v u Q I rx ry h hs
  obtain ⟨p, xs, i, z, e1, e2, hh | hh, ha, q⟩ := h
  · exact z5p value slice pins s σ H x y v u Q I rx ry ⟨p, xs, i, z, e1, e2, hh, ha, q⟩ hs
  · exact z0i value slice pins s σ H x y v u Q I rx ry ⟨p, xs, i, z, e1, e2, hh, ha, q⟩ hs
end
def AlkV (H : Hp) : Nat -> V -> V -> Prop
  | 0, x, y => flatV x = true /\ x = y
  | d + 1, x, y => (flatV x = true /\ x = y) \/ ∃ (a b : Addr) (xs ys : List V), x = .ref a /\ y = .ref b /\ ((H a = some (.lst xs) /\ H b = some (.lst ys)) \/ (H a = some (.tup xs) /\ H b = some (.tup ys))) /\ xs.length = ys.length /\ ∀ (i : Nat) z w, xs[i]? = some z -> ys[i]? = some w -> AlkV H d z w
theorem AlkV.same {H H' : Hp} (s : Same H H') : ∀ {d : Nat} {x y : V}, AlkV H d x y -> AlkV H' d x y
  | 0, _, _, h => h
  | d + 1, _, _, .inl h => .inl h
  | d + 1, _, _, .inr ⟨a, b, xs, ys, e1, e2, h, hl, q⟩ => .inr ⟨a, b, xs, ys, e1, e2, h.imp (fun z => ⟨s _ _ z.1, s _ _ z.2⟩) (fun z => ⟨s _ _ z.1, s _ _ z.2⟩), hl, fun i z w e1 e2 => (q i z w e1 e2).same s⟩
theorem AlkV.flat {H : Hp} {d : Nat} {x : V} (h : flatV x = true) : AlkV H d x x := by
  cases d with
  | zero => exact ⟨h, rfl⟩
  | succ d => exact .inl ⟨h, rfl⟩
theorem AlkV.lst {H : Hp} {d : Nat} {a b : Addr} {xs : List V} (h1 : H a = some (.lst xs)) (h2 : H b = some (.lst xs)) (f : xs.all flatV = true) : AlkV H (d + 1) (.ref a) (.ref b) :=
  .inr ⟨a, b, xs, xs, rfl, rfl, .inl ⟨h1, h2⟩, rfl, fun i z w e1 e2 => by
    rw [e1] at e2; cases e2
    exact .flat (List.all_eq_true.mp f _ (List.mem_of_getElem? e1))⟩
theorem AlkV.tup {H : Hp} {d : Nat} {a b : Addr} {xs : List V} (h1 : H a = some (.tup xs)) (h2 : H b = some (.tup xs)) (f : xs.all flatV = true) : AlkV H (d + 1) (.ref a) (.ref b) :=
  .inr ⟨a, b, xs, xs, rfl, rfl, .inr ⟨h1, h2⟩, rfl, fun i z w e1 e2 => by
    rw [e1] at e2; cases e2
    exact .flat (List.all_eq_true.mp f _ (List.mem_of_getElem? e1))⟩
theorem eqV_self {x : V} (h : flatV x = true) : eqV x x = true := by
  cases x <;> simp_all [eqV, flatV]
theorem z3o {xs : List V} {us : List Value} (r : Vals xs us) {j : Nat} (h : j < us.toArray.size) : ∃ z, xs[j]? = some z /\ RelV z us.toArray[j] := by
  have l := r.length
  have k : j < xs.length := by rw [l]; simpa using h
  obtain ⟨u, hu, ru⟩ := r.get (List.getElem?_eq_getElem k)
  have e : us.toArray[j] = u := by
    have z : us[j]? = some (us[j]'(by simpa using h)) := List.getElem?_eq_getElem _
    rw [z] at hu
    simpa using hu
  exact ⟨_, List.getElem?_eq_getElem k, by rw [e]; exact ru⟩
theorem z5v {n : Nat} : (List.range n).all (fun _ => true) = true := by simp
section
variable {X : Cx} {pins : List (Addr × Obj)} {σ : St} {H : Hp} {s : Shared}
theorem eqAt_alk (I : Inv X pins σ H s) : ∀ (d : Nat) (A : Around) (x y : V) (v u : Value), A.units + d < cLine -> AlkV H d x y -> RelV x v -> RelV y u -> SeqAt.EqAt A s v u true := by
  intro d
  induction d with
  | zero =>
    intro A x y v u hu h rx ry
    obtain ⟨f, rfl⟩ := h
    have z := eqAt_V (A := A) (s := s) rx ry f f
    rwa [eqV_self f] at z
  | succ d ih =>
    intro A x y v u hu h rx ry
    rcases h with ⟨f, rfl⟩ | ⟨a, b, xs, ys, rfl, rfl, h, hl, q⟩
    · have z := eqAt_V (A := A) (s := s) rx ry f f
      rwa [eqV_self f] at z
    · cases rx
      cases ry
      by_cases ab : a = b
      · subst ab; exact SeqAt.EqAt.same _
      · refine SeqAt.EqAt.of_refs ab ?_
        rcases h with ⟨h1, h2⟩ | ⟨h1, h2⟩
        · obtain ⟨us, r1, p1, _⟩ := I.list (.of h1)
          obtain ⟨ws, r2, p2, _⟩ := I.list (.of h2)
          have z := SeqAt.RcAt.lists (A := A) p1.isList p2.isList (e := fun _ => true) (by simp [← r1.length, ← r2.length, hl]) (by omega) (fun j k1 k2 => by
            obtain ⟨z, e1, rz⟩ := z3o r1 k1
            obtain ⟨w, e2, rw⟩ := z3o r2 k2
            exact ih A.in1 z w _ _ (by show A.units + 1 + d < cLine; omega) (q j z w e1 e2) rz rw)
          rwa [z5v] at z
        · obtain ⟨us, r1, p1, _⟩ := I.tuple (.of h1)
          obtain ⟨ws, r2, p2, _⟩ := I.tuple (.of h2)
          have z := SeqAt.RcAt.tuples (A := A) (show s.heap.IsTuple a us.toArray from p1) (show s.heap.IsTuple b ws.toArray from p2) (e := fun _ => true) (by omega) (fun j k1 k2 => by
            obtain ⟨z, e1, rz⟩ := z3o r1 k1
            obtain ⟨w, e2, rw⟩ := z3o r2 k2
            exact ih A.in1 z w _ _ (by show A.units + 1 + d < cLine; omega) (q j z w e1 e2) rz rw)
          have e : (us.toArray.size == ws.toArray.size) = true := by simp [← r1.length, ← r2.length, hl]
          rw [z5v, e] at z
          exact z
def rEqD : R2 := fun x y H Q => (∃ a, x = .ref a) /\ AlkV H 9 x y /\ Q (.bl true) H
theorem op_eqD (hu : X.A.units + 20 < cLine) : OpR X (compareOp .Eq) rEqD := by
  intro pins s σ H x y v u Q I rx ry h
  obtain ⟨⟨a, rfl⟩, h, q⟩ := h
  rcases h with ⟨f, _⟩ | ⟨a', b, xs, ys, e, rfl, h, hl, al⟩
  · simp [flatV] at f
  · cases e
    cases rx
    cases ry
    have fin : EP X pins σ Q (.bool true) s := ⟨.bl true, H, I, rfl, q⟩
    rcases h with ⟨h1, h2⟩ | ⟨h1, h2⟩
    · obtain ⟨us, r1, p1, _⟩ := I.list (.of h1)
      obtain ⟨ws, r2, p2, _⟩ := I.list (.of h2)
      refine SeqAt.eq_listAt p1.isList p2.isList (e := fun _ => true) (by simp [← r1.length, ← r2.length, hl]) (by omega) (fun j k1 k2 => ?_) (by rw [z5v]; exact fin)
      obtain ⟨z, e1, rz⟩ := z3o r1 k1
      obtain ⟨w, e2, rw⟩ := z3o r2 k2
      exact eqAt_alk I 8 X.A.in1 z w _ _ (by show X.A.units + 1 + 8 < cLine; omega) (al j z w e1 e2) rz rw
    · obtain ⟨us, r1, p1, _⟩ := I.tuple (.of h1)
      obtain ⟨ws, r2, p2, _⟩ := I.tuple (.of h2)
      have e : (us.toArray.size == ws.toArray.size) = true := by simp [← r1.length, ← r2.length, hl]
      refine SeqAt.eq_tupleAt (show s.heap.IsTuple a us.toArray from p1) (show s.heap.IsTuple b ws.toArray from p2) (e := fun _ => true) (by omega) (fun j k1 k2 => ?_) (by rw [z5v, e]; exact fin)
      obtain ⟨z, e1, rz⟩ := z3o r1 k1
      obtain ⟨w, e2, rw⟩ := z3o r2 k2
      exact eqAt_alk I 8 X.A.in1 z w _ _ (by show X.A.units + 1 + 8 < cLine; omega) (al j z w e1 e2) rz rw
end
theorem hu20 {k : Nat} {A : Around} (r : Room k A) : A.units + 20 < cLine := by have := r.un; omega
section
variable {X : Cx}
def iSeq (K : PySem.W.Frag) (tl : TE) : TI := fun σ H R => tl σ H fun x H1 => (∃ a, x = .ref a /\ (∃ xs, SqL K H1 a xs) /\ R (Itl K a) H1) \/ (∃ a, x = .ref a /\ (∃ xs, SqT K H1 a xs) /\ R (Itt K a) H1)
theorem pi_seq {tg l : Expr} {tl : TE} (hl : PE X l tl) : PI X tg l (iSeq X.K tl) := by
  intro pins s σ H R I h
  refine thn (hl pins s σ H _ I h) fun v s1 ⟨x, H1, I1, r1, q1⟩ => ?_
  rcases q1 with ⟨a, e, ⟨xs, hq⟩, q⟩ | ⟨a, e, ⟨xs, hq⟩, q⟩
  · subst e
    cases r1
    obtain ⟨its, rv, p, hz⟩ := I1.list hq
    refine wpAny_pyIter_list p.isList ?_
    refine ⟨s1.heap.objs.size, [s1.heap.objs.size], _, _, H1, rfl, I1.kept (t' := s1.toks) fun b o e => Heap.get?_push_of_some _ e, turn_list a _, ⟨_, Heap.get?_push_size _ rfl, rfl, rfl⟩, fun b hb => ?_, q⟩
    have e : b = s1.heap.objs.size := by simpa using hb
    subst e
    exact I1.fpOk (Nat.le_refl _) (I1.hok.fresh (Nat.le_refl _))
  · subst e
    cases r1
    obtain ⟨its, rv, p, hz⟩ := I1.tuple hq
    refine wpAny_pyIter_tuple (show s1.heap.IsTuple a its.toArray from p) ?_
    refine ⟨s1.heap.objs.size, [s1.heap.objs.size], _, _, H1, rfl, I1.kept (t' := s1.toks) fun b o e => Heap.get?_push_of_some _ e, z6u a _, ⟨_, Heap.get?_push_size _ rfl, rfl, rfl⟩, fun b hb => ?_, q⟩
    have e : b = s1.heap.objs.size := by simpa using hb
    subst e
    exact I1.fpOk (Nat.le_refl _) (I1.hok.fresh (Nat.le_refl _))
theorem for_eqQ {K : PySem.W.Frag} {te : TE} {g : TG} {tb : TS} {D : Ends} {σ : St} {H : Hp} : tFor (iSeq K te) g tb D σ H = te σ H fun x H1 => LoopL K g tb D σ x H1 \/ LoopT K g tb D σ x H1 := rfl
theorem comp_eqQ {K : PySem.W.Frag} {k : Nat} {js : List Nat} {ti : TE} {g : TG} {te : TE} {σ : St} {H : Hp} {Q : VK} : tComp (iSeq K ti) k js g te σ H Q = ti σ H fun x H1 => CompL K k js g te σ x H1 Q \/ CompT K k js g te σ x H1 Q := rfl
end
def Itrl (K : PySem.W.Frag) (a : Addr) (n : Nat) : It := ⟨fun i H => ∃ xs, SqL K H a xs /\ xs.length = n /\ i < n, fun i H x H' => H' = H /\ ∀ xs, SqL K H a xs -> xs[n - 1 - i]? = some x, fun i H => ∃ xs, SqL K H a xs /\ xs.length = n /\ i = n⟩
section
variable {X : Cx} {tg : Expr}
end
def LoopVL (K : PySem.W.Frag) (g : TG) (tb : TS) (D : Ends) (σ : St) (x : V) (H1 : Hp) : Prop := ∃ a xs, x = .ref a /\ SqL K H1 a xs /\ ∃ W : Nat -> Nat -> St -> Hp -> Prop, (∃ m, W 0 m σ H1) /\ ∀ i m σ H, W i m σ H ->
  ((Itrl K a xs.length).stop i H /\ D.nx σ H) \/ ((Itrl K a xs.length).go i H /\ ∃ N : St -> Hp -> Prop, (∀ σ' H', N σ' H' -> ∃ m', m' < m /\ W (i + 1) m' σ' H') /\ ∀ x H', (Itrl K a xs.length).yld i H x H' -> g x σ H' fun σ2 H2 => tb { D with nx := N, ct := N, bk := D.nx } σ2 H2)
theorem LoopVL.mk {K : PySem.W.Frag} {a : Addr} {xs : List V} {g : TG} {tb : TS} {D : Ends} {σ : St} {H : Hp} (hS : SqL K H a xs) (Pv : Nat -> St -> Hp -> Prop) (h0 : Pv 0 σ H) (hl : ∀ i σ H, i ≤ xs.length -> Pv i σ H -> SqL K H a xs)
    (hs : ∀ i x σ H, i < xs.length -> xs[xs.length - 1 - i]? = some x -> Pv i σ H -> g x σ H fun σ2 H2 => tb { D with nx := Pv (i + 1), ct := Pv (i + 1), bk := D.nx } σ2 H2) (hd : ∀ σ H, Pv xs.length σ H -> D.nx σ H) : LoopVL K g tb D σ (.ref a) H := by
  refine ⟨a, xs, rfl, hS, fun i m σ H => m = xs.length - i /\ i ≤ xs.length /\ Pv i σ H, ⟨xs.length, by simp, Nat.zero_le _, h0⟩, ?_⟩
  rintro i m σ H ⟨rfl, hi, p⟩
  have q := hl i σ H hi p
  by_cases hlt : i < xs.length
  · refine .inr ⟨⟨xs, q, rfl, hlt⟩, Pv (i + 1), fun σ' H' p' => ⟨xs.length - (i + 1), by omega, rfl, hlt, p'⟩, fun x H' y => ?_⟩
    obtain ⟨e, y⟩ := y
    subst e
    exact hs i x σ _ hlt (y xs q) p
  · have e : i = xs.length := by omega
    subst e
    exact .inl ⟨⟨xs, q, rfl, rfl⟩, hd σ H p⟩
end L2
namespace L2
open PySem PySem.Spec PyProof.Rows PySem.W PySem.Calls
theorem z2f : ∀ (names : List (Str × NameKind)) (n : Nat) (acc : List (Str × Addr)), cellsFrom n names acc = cellsFrom n names [] ++ acc
  | [], _, _ => rfl
  | (x, k) :: r, n, acc => by
    unfold cellsFrom
    split
    · rw [z2f r (n + 1) ((x, n) :: acc), z2f r (n + 1) [(x, n)], List.append_assoc]; rfl
    · exact z2f r n acc
theorem z2n {α : Type} : ∀ {a b : List (Str × α)} {x : Str}, (a ++ b).lookup x = match a.lookup x with | some c => some c | none => b.lookup x
  | [], _, _ => rfl
  | (y, c) :: a, b, x => by
    rw [List.cons_append, List.lookup_cons, List.lookup_cons]
    cases x == y with
    | true => rfl
    | false => exact z2n
theorem look_some {α : Type} {y : Str} : ∀ {cl : List (Str × α)} {q : Str × α}, q ∈ cl -> q.1 = y -> (cl.lookup y).isSome = true
  | a :: r, q, hq, e => by
    rw [List.lookup_cons]
    cases q0 : y == a.1 with
    | true => rfl
    | false =>
      rcases List.mem_cons.mp hq with z | z
      · rw [← z, e, beq_self_eq_true] at q0; cases q0
      · exact look_some z e
theorem look_nd {α : Type} : ∀ {cl : List (Str × α)} {q : Str × α}, (cl.map (·.1)).Nodup -> q ∈ cl -> cl.lookup q.1 = some q.2
  | a :: r, q, nd, hq => by
    rw [List.lookup_cons]
    rcases List.mem_cons.mp hq with z | z
    · rw [← z, beq_self_eq_true]
    · have na := (List.nodup_cons.mp nd).1
      have : (q.1 == a.1) = false := by
        cases q0 : q.1 == a.1 with
        | false => rfl
        | true => exact absurd (List.mem_map.mpr ⟨q, z, eq_of_beq q0⟩) na
      rw [this]
      exact look_nd (List.nodup_cons.mp nd).2 z
theorem z2j {x : Str} : ∀ {names : List (Str × NameKind)} {n : Nat}, (∀ y ∈ names, y.2 = .cell -> y.1 ≠ x) -> (cellsFrom n names []).lookup x = none
  | [], _, _ => rfl
  | (y, k) :: r, n, h => by
    unfold cellsFrom
    split
    · rename_i hk
      rw [z2f, z2n, z2j fun z hz => h z (List.mem_cons_of_mem _ hz)]
      have hy : y ≠ x := h (y, k) List.mem_cons_self (eq_of_beq hk)
      show List.lookup x [(y, n)] = none
      rw [List.lookup_cons]
      have : (x == y) = false := by
        cases q : x == y with
        | false => rfl
        | true => exact absurd (eq_of_beq q).symm hy
      rw [this]; rfl
    · exact z2j fun z hz => h z (List.mem_cons_of_mem _ hz)
section
variable {M : Model} {A : Around} {E : Value -> Shared -> Prop} {s₀ s : Shared} {m cm : Str -> Option Value} {env : Env} {cs : List (Str × Addr)}
theorem stLX {n : Str} {v : Value} {Q : Unit -> Shared -> Prop} (x : InCallC s₀ env.locals m cs cm s) (hk : env.scope.kind = .function) (hl : env.kindOf n = some .local)
    (h : ∀ s', InCallC s₀ env.locals (fun y => if y = n then some v else m y) cs cm s' -> Q () s') : wpAny M A (storeName env n v) Q E s := by
  refine wpAny_storeName_local hl x.toInCall.ns (fun h' hn' hs' => h _ ⟨⟨?_, hn', fun b o e => ?_, x.toInCall.fresh⟩, fun k c hc => ?_, x.apart, x.above⟩) (by rw [hk]; rfl)
  · obtain ⟨h₁, tk, rfl⟩ := x.toInCall.same
    exact ⟨h', _, rfl⟩
  · exact hs'.extBut b o (Nat.ne_of_lt (Nat.lt_of_lt_of_le (Heap.lt_size e) x.toInCall.fresh)) (x.toInCall.keep b o e)
  · exact (x.cell k c hc).sameBut hs' (Nat.ne_of_gt (x.above k c (PySem.mem_of_lookup hc)))
theorem stCX {n : Str} {c : Addr} {v : Value} {Q : Unit -> Shared -> Prop} (x : InCallC s₀ env.locals m cs cm s) (hk : env.scope.kind = .function) (hl : env.kindOf n = some .cell)
    (hc : cs.lookup n = some c) (he : env.cells.lookup n = some c)
    (h : ∀ s', InCallC s₀ env.locals m cs (fun y => if y = n then some v else cm y) s' -> Q () s') : wpAny M A (storeName env n v) Q E s := by
  have hLc := x.above n c (PySem.mem_of_lookup hc)
  refine wpAny_storeName_cell hk hl he (x.cell n c hc) fun h' hc' hs' => h _ ⟨⟨?_, x.toInCall.ns.sameBut hs' (Nat.ne_of_lt hLc), fun b o e => ?_, x.toInCall.fresh⟩, fun k c' hk' => ?_, x.apart, x.above⟩
  · obtain ⟨h₁, tk, rfl⟩ := x.toInCall.same
    exact ⟨h', _, rfl⟩
  · exact hs'.extBut b o (Nat.ne_of_lt (Nat.lt_trans (Nat.lt_of_lt_of_le (Heap.lt_size e) x.toInCall.fresh) hLc)) (x.toInCall.keep b o e)
  · by_cases hkn : k = n
    · subst hkn
      rw [hc] at hk'; cases hk'
      simpa using hc'
    · rw [if_neg hkn]
      exact (x.cell k c' hk').sameBut hs' fun e => hkn (name_of_addr x.apart (PySem.mem_of_lookup hk') (e ▸ PySem.mem_of_lookup hc))
theorem z4m (f : Str × Value -> PUnit -> Sem (ForInStep PUnit)) (hf : ∀ n v u, f (n, v) u = (do storeName env n v; pure (.yield ⟨⟩))) (hk : env.scope.kind = .function) (hcs : ∀ n c, cs.lookup n = some c -> env.cells.lookup n = some c) :
    ∀ (binds : List (Str × Value)) (m cm : Str -> Option Value) (s : Shared) (Q : PUnit -> Shared -> Prop), InCallC s₀ env.locals m cs cm s ->
      (∀ x ∈ binds, env.kindOf x.1 = some .local \/ (env.kindOf x.1 = some .cell /\ (cs.lookup x.1).isSome = true)) ->
      (∀ s', InCallC s₀ env.locals (bindL env.kindOf binds m) cs (bindC env.kindOf binds cm) s' -> Q ⟨⟩ s') -> wpAny M A (forIn binds ⟨⟩ f) Q E s
  | [], m, cm, s, Q, x, _, h => by rw [List.forIn_nil]; exact wpAny_pure (h s x)
  | (n, v) :: r, m, cm, s, Q, x, hkind, h => by
    rw [List.forIn_cons, hf]
    have hr : ∀ y ∈ r, env.kindOf y.1 = some .local \/ (env.kindOf y.1 = some .cell /\ (cs.lookup y.1).isSome = true) := fun y hy => hkind y (List.mem_cons_of_mem _ hy)
    rcases hkind (n, v) List.mem_cons_self with hl | ⟨hl, hc⟩
    · refine wpAny_bind (wpAny_bind (stLX x hk hl fun s' x' => wpAny_pure (z4m f hf hk hcs r _ _ s' Q x' hr fun s'' x'' => h s'' ?_)))
      unfold bindL bindC; rw [if_pos hl, if_pos hl]; exact x''
    · obtain ⟨c, hc⟩ := Option.isSome_iff_exists.mp hc
      have hnl : ¬ env.kindOf n = some .local := by rw [hl]; decide
      refine wpAny_bind (wpAny_bind (stCX x hk hl hc (hcs n c hc) fun s' x' => wpAny_pure (z4m f hf hk hcs r _ _ s' Q x' hr fun s'' x'' => h s'' ?_)))
      unfold bindL bindC; rw [if_neg hnl, if_neg hnl]; exact x''
end
section
variable {M : Model} {A : Around} {E : Value -> Shared -> Prop} {s : Shared}
theorem z7e {scope : Scope} {globals : Addr} {cl : List (Str × Addr)} {binds : List (Str × Value)} {qual : Str} {func : Option Addr} {code : Value} {builtins : Addr} {Q : Env -> Shared -> Prop}
    (hk : scope.kind = .function)
    (hkind : ∀ x ∈ binds, scope.names.lookup x.1 = some .local \/ (scope.names.lookup x.1 = some .cell /\ ((cellsFrom (s.heap.objs.size + 1) scope.names []).lookup x.1).isSome = true))
    (hQ : ∀ env, env = newEnv scope s.heap.objs.size globals (cellsFrom (s.heap.objs.size + 1) scope.names [] ++ cl) qual func code none builtins ->
      ∀ s', InCallC s env.locals (bindL env.kindOf binds fun _ => none) (cellsFrom (s.heap.objs.size + 1) scope.names []) (bindC env.kindOf binds fun _ => none) s' -> Q env s') :
    wpAny M A (newFunctionEnv scope globals cl binds qual func code none builtins) Q E s := by
  simp only [newFunctionEnv, Option.isSome_none, Bool.false_eq_true, if_false]
  refine wpAny_bind (wpAny_alloc ?_)
  refine wpAny_bind (wpAny_layCells _ (fun name kind cells => by cases hkc : kind == NameKind.cell <;> simp [hkc]) _ _ _ _ ?_)
  have ok := cellsFrom_ok scope.names (s.heap.push { cls := .type "frame", data := .dict #[] }) (s.heap.objs.size + 1) [] ⟨fun _ _ hm => (nomatch hm), List.Pairwise.nil⟩ (by rw [Heap.size_push]; exact Nat.le_refl _)
  rw [Heap.size_push] at ok
  rw [show ({ s with heap := s.heap.push { cls := .type "frame", data := .dict #[] } } : Shared).heap.objs.size = s.heap.objs.size + 1 from Heap.size_push ..]
  rw [z2f scope.names (s.heap.objs.size + 1) cl]
  refine wpAny_bind (z4m (s₀ := s) (cs := cellsFrom (s.heap.objs.size + 1) scope.names []) (env := newEnv scope s.heap.objs.size globals (cellsFrom (s.heap.objs.size + 1) scope.names [] ++ cl) qual func code none builtins)
    _ (fun _ _ _ => rfl) hk (fun n c hc => by show List.lookup n (cellsFrom (s.heap.objs.size + 1) scope.names [] ++ cl) = some c; rw [z2n, hc]) binds (fun _ => none) (fun _ => none) _ _
    ⟨⟨⟨_, _, rfl⟩, (Heap.Ns.new s.heap (.type "frame")).keeps (pushCells_keeps _ _), fun b o e => pushCells_keeps _ _ b o (Heap.get?_push_of_some _ e), Nat.le_refl _⟩,
      fun n c hc => (ok.empty n c (PySem.mem_of_lookup hc)).1, ok.apart, fun n c hm => (ok.empty n c hm).2⟩
    hkind fun s' x => wpAny_pure (hQ _ rfl s' x))
end
def CelO (c : Addr) (v : V) : HO := .ext fun h => ∃ u, RelV v u /\ h.IsCell c (some u)
def CodO (c : Addr) (qual : Str) : HO := .ext fun h => h.CodeRec (.ref c) qual
def LamO (fa c' : Addr) (qual : Str) (params : Arguments) (body : Expr) (scope : Scope) (cl : List (Str × Addr)) : HO := .ext fun h => ∃ pm ctv, h.get? fa = some (kla_obj "<lambda>" qual params body scope cl pm c' ctv)
structure CelAt (H : Hp) (cl : List (Str × Addr)) (vcs : List V) : Prop where
  len : cl.length = vcs.length
  at_ : ∀ (i : Nat) q, cl[i]? = some q -> ∃ v o, vcs[i]? = some v /\ H q.2 = some (.frz o (CelO q.2 v))
  apart : cl.Pairwise fun x y => x.2 ≠ y.2
theorem CelAt.mem {H : Hp} {cl : List (Str × Addr)} {vcs : List V} (h : CelAt H cl vcs) {q : Str × Addr} (hq : q ∈ cl) : ∃ o v, H q.2 = some (.frz o (CelO q.2 v)) := by
  obtain ⟨i, e⟩ := List.mem_iff_getElem?.mp hq
  obtain ⟨v, o, _, e2⟩ := h.at_ i q e
  exact ⟨o, v, e2⟩
theorem CelAt.same {H H' : Hp} {cl : List (Str × Addr)} {vcs : List V} (h : CelAt H cl vcs) (s : ∀ a o, H a = some o -> H' a = some o) : CelAt H' cl vcs :=
  ⟨h.len, fun i q e => let ⟨v, o, e1, e2⟩ := h.at_ i q e; ⟨v, o, e1, s _ _ e2⟩, h.apart⟩
open Classical in
noncomputable def minC (H : Hp) (cl : List (Str × Addr)) : Hp := fun b => if ∃ q ∈ cl, q.2 = b then none else H b
open Classical in
noncomputable def resC (H H' : Hp) (cl : List (Str × Addr)) : Hp := fun b => if ∃ q ∈ cl, q.2 = b then H b else H' b
theorem minC_in {H : Hp} {cl : List (Str × Addr)} {q : Str × Addr} (h : q ∈ cl) : minC H cl q.2 = none := if_pos ⟨q, h, rfl⟩
theorem z2e {H : Hp} {cl : List (Str × Addr)} {b : Addr} (h : ∀ q ∈ cl, q.2 ≠ b) : minC H cl b = H b := if_neg fun ⟨q, hq, e⟩ => h q hq e
theorem minC_some {H : Hp} {cl : List (Str × Addr)} {b : Addr} {o : HO} (h : minC H cl b = some o) : H b = some o /\ ∀ q ∈ cl, q.2 ≠ b := by
  by_cases c : ∃ q ∈ cl, q.2 = b
  · rw [show minC H cl b = none from if_pos c] at h; cases h
  · rw [show minC H cl b = H b from if_neg c] at h
    exact ⟨h, fun q hq e => c ⟨q, hq, e⟩⟩
theorem z3b {H : Hp} {cl : List (Str × Addr)} {b : Addr} (h : H b = none) : minC H cl b = none := by
  by_cases c : ∃ q ∈ cl, q.2 = b
  · exact if_pos c
  · rw [show minC H cl b = H b from if_neg c]; exact h
theorem z6b {H H' : Hp} {cl : List (Str × Addr)} {q : Str × Addr} (h : q ∈ cl) : resC H H' cl q.2 = H q.2 := if_pos ⟨q, h, rfl⟩
theorem z3h {H H' : Hp} {cl : List (Str × Addr)} {b : Addr} (h : ∀ q ∈ cl, q.2 ≠ b) : resC H H' cl b = H' b := if_neg fun ⟨q, hq, e⟩ => h q hq e
theorem HOk.minC {P : Program} {w : World} {H : Hp} {h : Heap} {cl : List (Str × Addr)} {vcs : List V} (x : HOk P w H h) (hc : CelAt H cl vcs) : HOk P w (minC H cl) h := fun b o e => by
  obtain ⟨e1, _⟩ := minC_some e
  have nf : ∀ c u, H c = some u -> (∀ ob v, u ≠ .frz ob v) -> L2.minC H cl c = some u := fun c u e2 n => by
    rw [z2e fun q hq z => ?_]
    · exact e2
    · obtain ⟨ob, v, e3⟩ := hc.mem hq
      rw [z, e2] at e3
      exact n _ _ (Option.some.inj e3)
  exact (x b o e1).stay (fun _ _ _ q => q) (fun c q => nf c _ q fun _ _ z => nomatch z) fun c xs q => nf c _ q fun _ _ z => nomatch z
structure LmScope (N ps fv : List Str) (sc : Scope) : Prop where
  kind : sc.kind = .function
  co : sc.isCoroutine = false
  gen : sc.isGenerator = false
  nd : N.Nodup
  pre : N.take (ps ++ fv).length = ps ++ fv
  par : ∀ x ∈ ps, sc.names.lookup x = some .local \/ sc.names.lookup x = some .cell
  fre : ∀ x ∈ fv, sc.names.lookup x = some .free
  has : ∀ y ∈ sc.names, y.2 = .free -> y.1 ∈ fv
  own : ∀ x ∈ fv, ∀ y ∈ sc.names, y.2 = .cell -> y.1 ≠ x
def cxLam (P : Program) (w : World) (K : PySem.W.Frag) (mg : Str -> Option Value) (base : Heap) (N : List Str) (qual : Str) (scope : Scope) (f : Addr) (cd : Value) (cl : List (Str × Addr)) (A : Around) (outer : List Env) (s : Shared) (H : Hp) : Cx where
  prog := P
  w := w
  K := K
  mg := mg
  base := base
  A := A.deeper (envX qual scope s.heap.objs.size f cd (cellsFrom (s.heap.objs.size + 1) scope.names [] ++ cl))
  N := N
  s₀ := s
  H₀ := H
  env := envX qual scope s.heap.objs.size f cd (cellsFrom (s.heap.objs.size + 1) scope.names [] ++ cl)
  outer := outer
  stack := envX qual scope s.heap.objs.size f cd (cellsFrom (s.heap.objs.size + 1) scope.names [] ++ cl) :: outer
  ex := []
  calm := true
  fn := fun x => decide (scope.names.lookup x = some .cell)
  pn := []
  xe := fun _ _ => False
theorem start_at {N : List Str} {vs : List V} {i : Nat} {v : V} (h : (start N vs)[i]? = some (some v)) : vs[i]? = some v := by
  unfold start at h
  have hi : i < vs.length := by
    by_cases hi : i < vs.length
    · exact hi
    · rw [List.getElem?_append_right (by simpa using hi), List.getElem?_replicate] at h
      split at h <;> cases h
  rw [List.getElem?_append_left (by simpa using hi), List.getElem?_map] at h
  cases e : vs[i]? with
  | none => rw [e] at h; cases h
  | some a => rw [e] at h; cases h; rfl
theorem inv_lam {P : Program} {w : World} {K : PySem.W.Frag} {mg : Str -> Option Value} {base : Heap} {N ps fv : List Str} {qual : Str} {scope : Scope} {f : Addr} {cd : Value} {cl : List (Str × Addr)} {A : Around} {outer : List Env} {s s1 : Shared} {H : Hp} {us : List Value} {vs vcs : List V}
    (S : LmScope N ps fv scope) (hd : A.handled = none) (e0 : Env0 P w K mg base A outer s H) (hl : vs.length = ps.length) (r : Vals vs us) (hcl : cl.map (·.1) = fv) (hc : CelAt H cl vcs)
    (x : InCallC s s.heap.objs.size (bindL (fun x => scope.names.lookup x) (ps.zip us) fun _ => none) (cellsFrom (s.heap.objs.size + 1) scope.names []) (bindC (fun x => scope.names.lookup x) (ps.zip us) fun _ => none) s1) :
    Inv (cxLam P w K mg base N qual scope f cd cl A outer s (minC H cl)) [] (start N (vs ++ vcs)) (minC H cl) s1 := by
  obtain ⟨h1, tk, rfl, hk⟩ := x.done
  have cll : cl.length = fv.length := by rw [← hcl, List.length_map]
  have hpl : (ps ++ fv).length ≤ N.length := by have := congrArg List.length S.pre; rw [List.length_take] at this; omega
  have noA : ∀ b : Addr, b ∉ (cxLam P w K mg base N qual scope f cd cl A outer s (minC H cl)).ex := fun b z => absurd (show b ∈ ([] : List Addr) from z) (by simp)
  have old : ∀ q ∈ cl, q.2 < s.heap.objs.size := fun q hq => by
    obtain ⟨o, v, e⟩ := hc.mem hq
    exact e0.hok.lt e
  have celv : ∀ (i : Nat) q, cl[i]? = some q -> ∃ v u, vcs[i]? = some v /\ RelV v u /\ h1.IsCell q.2 (some u) := fun i q e => by
    obtain ⟨v, o, e1, e2⟩ := hc.at_ i q e
    obtain ⟨_, ⟨u, ru, ic⟩, _⟩ := e0.hok _ _ e2
    exact ⟨v, u, e1, ru, ic.keeps hk⟩
  have lk : ∀ y c, (cellsFrom (s.heap.objs.size + 1) scope.names [] ++ cl).lookup y = some c -> (y, c) ∈ cellsFrom (s.heap.objs.size + 1) scope.names [] \/ (y, c) ∈ cl := fun y c e => List.mem_append.mp (PySem.mem_of_lookup e)
  have abv : ∀ y c, (y, c) ∈ cellsFrom (s.heap.objs.size + 1) scope.names [] -> s.heap.objs.size ≤ c := fun y c e => Nat.le_of_lt (x.above y c e)
  refine ⟨⟨e0.mod, S.kind, rfl, rfl, Nat.le_refl _, fun y z c h1 h2 => ?_, fun y hy => ?_, fun y c hf h => ?_, fun _ => hd, Around.frames_deeper e0.frames, .inr ⟨rfl, rfl⟩, fun b z => absurd z (noA b), fun b o e => ⟨(e0.bs b o e).1, z3b (e0.bs b o e).2⟩, e0.bsz, fun b _ _ => noA b, fun b z => absurd z (noA b), e0.funs, fun b hb => z3b (e0.frf b hb)⟩,
    rfl, e0.bare, Un.kept hk, ⟨_, x.toInCall.ns, fun i y v h1 h2 h3 => ?_⟩, fun y c h => ?_, (e0.hok.minC hc).fresh (Nat.le_refl _), fun y c h => ?_, fun p hp => absurd (show p ∈ ([] : List (Addr × Obj)) from hp) (by simp), (e0.hok.minC hc).kept hk, ?_⟩
  · rcases lk y c h1 with m1 | m1 <;> rcases lk z c h2 with m2 | m2
    · exact name_of_addr x.apart m1 m2
    · exact absurd (abv y c m1) (Nat.not_le_of_lt (old _ m2))
    · exact absurd (abv z c m2) (Nat.not_le_of_lt (old _ m1))
    · exact name_of_addr hc.apart m1 m2
  · have hy : scope.names.lookup y = some .cell \/ scope.names.lookup y = some .free := hy
    rcases hy with hy | hy
    · obtain ⟨c, e⟩ := z4u (n := s.heap.objs.size + 1) hy
      exact ⟨c, by show List.lookup y (cellsFrom (s.heap.objs.size + 1) scope.names [] ++ cl) = some c; rw [z2n, e]⟩
    · have hm := S.has _ (PySem.mem_of_lookup hy) rfl
      have hm : y ∈ cl.map (·.1) := by rw [hcl]; exact hm
      obtain ⟨q, hq, e⟩ := List.mem_map.mp hm
      have iss : (cl.lookup y).isSome = true := look_some hq e
      obtain ⟨c, ec⟩ := Option.isSome_iff_exists.mp iss
      have e1 : (cellsFrom (s.heap.objs.size + 1) scope.names []).lookup y = none := z2j (S.own y (by rw [← hcl]; exact hm))
      exact ⟨c, by show List.lookup y (cellsFrom (s.heap.objs.size + 1) scope.names [] ++ cl) = some c; rw [z2n, e1]; exact ec⟩
  · have hf : scope.names.lookup y = some .cell := of_decide_eq_true hf
    obtain ⟨c', e⟩ := z4u (n := s.heap.objs.size + 1) hf
    have h : List.lookup y (cellsFrom (s.heap.objs.size + 1) scope.names [] ++ cl) = some c := h
    rw [z2n, e] at h
    cases h
    exact abv y _ (PySem.mem_of_lookup e)
  · have ha := start_at h2
    have hi : i < (vs ++ vcs).length := (List.getElem?_eq_some_iff.mp ha).1
    have lv : (vs ++ vcs).length = (ps ++ fv).length := by rw [List.length_append, List.length_append, hl, ← hc.len, cll]
    have hp : (ps ++ fv)[i]? = some y := by
      rw [← S.pre, List.getElem?_take_of_lt (by omega)]; exact h1
    have ndA : (ps ++ fv).Nodup := by rw [← S.pre]; exact S.nd.sublist (List.take_sublist _ _)
    have ndP : ps.Nodup := ndA.sublist (List.sublist_append_left _ _)
    by_cases hil : i < ps.length
    · rw [List.getElem?_append_left (by omega)] at ha
      rw [List.getElem?_append_left hil] at hp
      obtain ⟨u, hu, rv⟩ := r.get ha
      refine ⟨u, rv, ?_⟩
      rcases S.par y (List.mem_of_getElem? hp) with k | k
      · exact .inl ⟨k, z6k ndP hp hu k⟩
      · obtain ⟨c, e⟩ := z4u (n := s.heap.objs.size + 1) k
        refine .inr ⟨.inl k, c, by show List.lookup y (cellsFrom (s.heap.objs.size + 1) scope.names [] ++ cl) = some c; rw [z2n, e], ?_⟩
        have q := x.cell y c e
        rw [z6l ndP hp hu (by rw [k]; decide)] at q
        exact q
    · rw [List.getElem?_append_right (by omega), hl] at ha
      rw [List.getElem?_append_right (by omega)] at hp
      have hm := List.mem_of_getElem? hp
      have hqc : (cl.map (·.1))[i - ps.length]? = some y := by rw [hcl]; exact hp
      rw [List.getElem?_map] at hqc
      obtain ⟨q, eq, e1⟩ : ∃ q, cl[i - ps.length]? = some q /\ q.1 = y := by
        cases z : cl[i - ps.length]? with
        | none => rw [z] at hqc; cases hqc
        | some q => rw [z] at hqc; exact ⟨q, rfl, Option.some.inj hqc⟩
      obtain ⟨v', u, e2, ru, ic⟩ := celv _ q eq
      rw [ha] at e2; cases e2
      have ndF : (cl.map (·.1)).Nodup := by rw [hcl]; exact ndA.sublist (List.sublist_append_right _ _)
      have lkq : cl.lookup y = some q.2 := by rw [← e1]; exact look_nd ndF (List.mem_of_getElem? eq)
      have own0 : (cellsFrom (s.heap.objs.size + 1) scope.names []).lookup y = none := z2j (S.own y hm)
      exact ⟨u, ru, .inr ⟨.inr (S.fre y hm), q.2, by show List.lookup y (cellsFrom (s.heap.objs.size + 1) scope.names [] ++ cl) = some q.2; rw [z2n, own0]; exact lkq, ic⟩⟩
  · rcases lk y c h with m | m
    · have h : List.lookup y (cellsFrom (s.heap.objs.size + 1) scope.names [] ++ cl) = some c := h
      rw [z2n] at h
      cases e : (cellsFrom (s.heap.objs.size + 1) scope.names []).lookup y with
      | some c2 => rw [e] at h; cases h; exact ⟨_, x.cell y _ e⟩
      | none =>
        rw [e] at h
        obtain ⟨i, ei⟩ := List.mem_iff_getElem?.mp (PySem.mem_of_lookup h)
        obtain ⟨v, u, _, _, ic⟩ := celv i _ ei
        exact ⟨_, ic⟩
    · obtain ⟨i, ei⟩ := List.mem_iff_getElem?.mp m
      obtain ⟨v, u, _, _, ic⟩ := celv i _ ei
      exact ⟨_, ic⟩
  · rcases lk y c h with m | m
    · exact (e0.hok.minC hc).fresh (abv y c m)
    · exact minC_in m
  · unfold start
    show _ = N.length
    have lv : (vs ++ vcs).length = (ps ++ fv).length := by rw [List.length_append, List.length_append, hl, ← hc.len, cll]
    rw [List.length_append, List.length_map, List.length_replicate]
    omega
def CallV (P : Program) (w : World) (K : PySem.W.Frag) (mg : Str -> Option Value) (base : Heap) (k : Nat) (fa : Addr) (vs : List V) (H : Hp) (Q : VK) : Prop :=
  ∀ (A : Around) (outer : List Env) (s : Shared) (us : List Value), Room k A -> Env0 P w K mg base A outer s H -> Vals vs us -> codeAny (model P w) A (.call (.ref fa) ⟨us, []⟩) (CR CX0 outer P w H s Q fun _ _ _ => False) s
theorem z5a {P : Program} {w : World} {K : PySem.W.Frag} {mg : Str -> Option Value} {base : Heap} {k : Nat} {N ps fv : List Str} {fa c' : Addr} {qual : Str} {params : Arguments} {body : Expr} {scope : Scope} {cl : List (Str × Addr)} {vs vcs : List V} {H : Hp} {Q : VK} {te : TE}
    (S : LmScope N ps fv scope) (hcl : cl.map (·.1) = fv)
    (hb : ∀ (pm ctv : Value) (us : List Value), us.length = ps.length -> bindArgs (kla_fn "<lambda>" qual params body scope cl pm (.ref c') ctv) ⟨us, []⟩ = pure (ps.zip us)) (hl : vs.length = ps.length)
    (L1 : H fa = some (LamO fa c' qual params body scope cl)) (L2 : H c' = some (CodO c' qual)) (hc : CelAt H cl vcs)
    (hbody : ∀ (A : Around) (outer : List Env) (s : Shared), Room k (A.deeper (envX qual scope s.heap.objs.size fa (.ref c') (cellsFrom (s.heap.objs.size + 1) scope.names [] ++ cl))) -> PE (cxLam P w K mg base N qual scope fa (.ref c') cl A outer s (minC H cl)) body te)
    (hq : te (start N (vs ++ vcs)) (minC H cl) (fun v H' => Q v (resC H H' cl))) : CallV P w K mg base (k + 1) fa vs H Q := by
  intro A outer s us hr e0 r
  obtain ⟨⟨pm, ctv, ho⟩, _⟩ := e0.hok fa _ L1
  obtain ⟨hcd, _⟩ := e0.hok c' _ L2
  have lim : s.heap.NoLimit := e0.mod.nolimit.keeps fun b o e => (e0.bs b o e).1
  have hkind : ∀ y ∈ ps.zip us, scope.names.lookup y.1 = some .local \/ (scope.names.lookup y.1 = some .cell /\ ((cellsFrom (s.heap.objs.size + 1) scope.names []).lookup y.1).isSome = true) := fun ⟨n, v⟩ hy => by
    rcases S.par n (List.of_mem_zip hy).1 with q | q
    · exact .inl q
    · exact .inr ⟨q, PySem.W.cellsFrom_some _ _ _ (.inl q)⟩
  refine kla_callFunE hr.depth ho rfl S.co S.gen rfl hcd ?_
  rw [hb pm ctv us (by rw [← r.length]; exact hl)]
  refine wpAny_pure (z7e S.kind hkind fun env he s1 x => ?_)
  subst he
  refine ⟨lim.keeps x.toInCall.keep, kla_codeExpr ?_⟩
  have I : Inv (cxLam P w K mg base N qual scope fa (.ref c') cl A outer s (minC H cl)) [] (start N (vs ++ vcs)) (minC H cl) s1 := inv_lam S hr.hd e0 hl r hcl hc x
  refine wpAny_mono (hbody A outer s (hr.deeper _) [] s1 _ _ _ I hq) (fun u s' hs => ?_) (fun e s' hs => False.elim hs)
  obtain ⟨v, H', J, rv, q⟩ := hs
  have un : Un (frs outer) [] (minC H cl) H' s.heap s'.heap := J.base
  have nfr : ∀ q ∈ cl, q.2 ∉ frs outer := fun q hq z => by
    obtain ⟨o, v, e⟩ := hc.mem hq
    rw [e0.frf _ z] at e; cases e
  have kc : ∀ q ∈ cl, ∀ o, s.heap.get? q.2 = some o -> s'.heap.get? q.2 = some o /\ H' q.2 = none := fun q hq o e => ⟨un.keep _ o e (minC_in hq) (nfr q hq) (by simp), un.free _ o e (minC_in hq) (by simp)⟩
  have there : ∀ q ∈ cl, ∃ o, s.heap.get? q.2 = some o := fun q hq => by
    obtain ⟨o, v, e⟩ := hc.mem hq
    exact ⟨o, (e0.hok _ _ e).1⟩
  have split : ∀ b, (∃ q ∈ cl, q.2 = b) \/ ∀ q ∈ cl, q.2 ≠ b := fun b => by
    by_cases c : ∃ q ∈ cl, q.2 = b
    · exact .inl c
    · exact .inr fun q hq e => c ⟨q, hq, e⟩
  refine ⟨v, resC H H' cl, J.os, J.bare, ⟨fun b o e n hb hx => un.keep b o e (z3b n) hb hx, fun b o e n hb hx => un.slot b o e (z3b n) hb hx, fun b o e n hx => ?_, un.there, fun b xs e => ?_, fun b o u e => ?_, fun b ps e => ?_⟩, fun b o e => ?_, rv, q⟩
  · rcases split b with ⟨q, hq, rfl⟩ | hn
    · rw [z6b hq]; exact n
    · rw [z3h hn]; exact un.free b o e (z3b n) hx
  · rcases split b with ⟨q, hq, rfl⟩ | hn
    · rw [z6b hq]; exact e
    · rw [z3h hn]; exact un.tups b xs (by rw [z2e hn]; exact e)
  · rcases split b with ⟨q, hq, rfl⟩ | hn
    · rw [z6b hq]; exact e
    · rw [z3h hn]; exact un.frzs b o u (by rw [z2e hn]; exact e)
  · rcases split b with ⟨q, hq, rfl⟩ | hn
    · obtain ⟨o, v, e2⟩ := hc.mem hq
      rw [e] at e2; cases e2
    · rw [z3h hn]; exact un.tbls b ps (by rw [z2e hn]; exact e)
  · rcases split b with ⟨q, hq, rfl⟩ | hn
    · rw [z6b hq] at e
      obtain ⟨o2, v2, e2⟩ := hc.mem hq
      rw [e] at e2
      cases e2
      obtain ⟨g1, ⟨u2, ru, ic⟩, _, st⟩ := e0.hok _ _ e
      have k1 := (kc q hq _ g1).1
      refine ⟨k1, ⟨u2, ru, ?_⟩, ⟨_, k1⟩, st⟩
      obtain ⟨o3, e3, d3⟩ := ic
      rw [g1] at e3; cases e3
      exact ⟨_, k1, d3⟩
    · rw [z3h hn] at e
      have nf : ∀ c u, H' c = some u -> resC H H' cl c = some u := fun c u e2 => by
        rcases split c with ⟨q, hq, rfl⟩ | hn
        · obtain ⟨o, eo⟩ := there q hq
          rw [(kc q hq o eo).2] at e2; cases e2
        · rw [z3h hn]; exact e2
      exact (J.hok b o e).stay (fun _ _ _ q => q) (fun c q => nf c _ q) fun c xs q => nf c _ q
end L2
namespace L2
open PySem PySem.Spec PyProof.Rows PySem.W PySem.Calls
def FnV (H : Hp) (fa : Addr) : Prop := ∃ φ, H fa = some (.ext φ) /\ ∀ h, φ h -> FnAt fa h
theorem FnV.same {H H' : Hp} {fa : Addr} (h : FnV H fa) (s : ∀ o, H fa = some o -> H' fa = some o) : FnV H' fa := let ⟨φ, e, k⟩ := h; ⟨φ, s _ e, k⟩
theorem FnV.lam {H : Hp} {fa c' : Addr} {qual : Str} {params : Arguments} {body : Expr} {scope : Scope} {cl : List (Str × Addr)} (h : H fa = some (LamO fa c' qual params body scope cl)) : FnV H fa := ⟨_, h, fun _ ⟨_, _, e⟩ => ⟨_, _, _, _, e⟩⟩
def tCalV (P : Program) (w : World) (K : PySem.W.Frag) (mg : Str -> Option Value) (base : Heap) (k i : Nat) (t : TA) : TE := fun σ H Q => ∃ fa, σ[i]? = some (some (.ref fa)) /\ FnV H fa /\ t σ H fun vs H1 => FnV H1 fa /\ CallV P w K mg base k fa vs H1 Q
section
variable {X : Cx} {k : Nat} {x : Str} {p pos : Pos} {e : Expr} {es : List Expr} {t : TA}
theorem pe_calV {i : Nat} (hr : Room k X.A) (hN : X.N[i]? = some x) (hv : Vis X.env.scope x) (ha : PA X (e :: es) t) (hd : (x == ("__debug__" : Str)) = false := by decide) (hcd : (x == ("__classdict__" : Str)) = false := by decide)
    (he : starEach (e :: es) X.env = (false, eval e X.env) :: starEach es X.env := by rfl) (hpl : (backTo pos (starEach es X.env)).any (·.1) = false := by rfl) :
    PE X (.Call (.Name x p) (e :: es) [] pos) (tCalV X.prog X.w X.K X.mg X.base k i t) := by
  intro pins s σ H Q I h
  obtain ⟨fa, es', fn, h⟩ := h
  refine wpAny_Call_Name_kw (thn ((pe_var (pos := p) hN hv hd hcd) pins s σ H (fun v H1 => v = .ref fa /\ H1 = H) I ⟨_, es', rfl, rfl⟩) fun u s1 ⟨v, H1, I1, r1, e1, e2⟩ => ?_)
  subst e1 e2
  cases r1
  have at1 : ∀ {H' : Hp} {s' : Shared}, Inv X pins σ H' s' -> FnV H' fa -> FnAt fa s'.heap := fun J ⟨φ, e, k⟩ => k _ (J.hok _ _ e).1
  refine callWith_F (at1 I1 fn) (thn (ha pos pins s1 σ _ _ I1 h) fun us s2 ⟨vs, H2, I2, r2, fn2, cv⟩ => ⟨at1 I2 fn2, ?_⟩) he hpl
  refine wpAny_call (codeAny_mono (cv X.A X.stack s2 us hr I2.env0 r2) fun r s' hq => ?_)
  cases r with
  | error e => exact False.elim hq
  | ok fl =>
    cases fl with
    | ret u => exact I2.after hq
    | next => exact False.elim hq
    | brk => exact False.elim hq
    | cont => exact False.elim hq
end
def OwnCl (ec : List (Str × Addr)) (fv : List Str) (cl : List (Str × Addr)) : Prop := cl.map (·.1) = fv /\ ∀ q ∈ cl, ec.lookup q.1 = some q.2
theorem OwnCl.uniq {ec : List (Str × Addr)} : ∀ {fv : List Str} {cl cl' : List (Str × Addr)}, OwnCl ec fv cl -> OwnCl ec fv cl' -> cl = cl'
  | [], [], [], _, _ => rfl
  | [], _ :: _, _, h, _ => by cases h.1
  | [], [], _ :: _, _, h => by cases h.1
  | _ :: _, [], _, h, _ => by cases h.1
  | _ :: _, _ :: _, [], _, h => by cases h.1
  | n :: fv, (a, c) :: cl, (b, d) :: cl', h, h' => by
    have e1 : a = n := (List.cons.inj h.1).1
    have e2 : b = n := (List.cons.inj h'.1).1
    subst e1 e2
    have l1 := h.2 (b, c) List.mem_cons_self
    have l2 := h'.2 (b, d) List.mem_cons_self
    rw [show ec.lookup b = some c from l1] at l2
    cases l2
    rw [OwnCl.uniq (fv := fv) ⟨(List.cons.inj h.1).2, fun q hq => h.2 q (List.mem_cons_of_mem _ hq)⟩ ⟨(List.cons.inj h'.1).2, fun q hq => h'.2 q (List.mem_cons_of_mem _ hq)⟩]
def TabOk (H : Hp) (T : Addr) (pos : Pos) (qual : Str) : Prop := ∃ ps, H T = some (.tbl ps) /\ TriplesOk ps.toList /\ (codeAmong pos ps.toList = none \/ ∃ c', codeAmong pos ps.toList = some (.ref c') /\ H c' = some (CodO c' qual))
theorem TabOk.same {H H' : Hp} {T : Addr} {pos : Pos} {qual : Str} (h : TabOk H T pos qual) (s : ∀ a o, H a = some o -> H' a = some o) : TabOk H' T pos qual := by
  obtain ⟨ps, e, t, z⟩ := h
  exact ⟨ps, s _ _ e, t, z.imp id fun ⟨c', a, b⟩ => ⟨c', a, s _ _ b⟩⟩
theorem triples_snoc {a b : Int} {c : Value} (l : List Value) (h : TriplesOk l) : TriplesOk (l ++ [rawInt a, rawInt b, c]) := by
  fun_induction TriplesOk l with
  | case1 => simp [TriplesOk, rawInt]
  | case2 i t j u v rest ih => simpa [TriplesOk] using ih h
  | case3 => exact h.elim
structure TabF (base : Heap) (mg : Str -> Option Value) (c T : Addr) : Prop where
  hd : CodeHd base c T
  none_ : base.get? T = none
  blt : ∃ bm o, mg "__builtins__" = some (.ref bm) /\ bm ≠ builtinsNs /\ bm ≠ mainGlobals /\ bm ≠ T /\ base.get? bm = some o /\ o.cls = .type "module" /\ o.dict = some builtinsNs /\ o.data = .plain
  ne : mainGlobals ≠ T
def tLam (ec : List (Str × Addr)) (fv : List Str) (T : Addr) (pos : Pos) (qual : Str) (params : Arguments) (body : Expr) (scope : Scope) : TE := fun _ H Q => TabOk H T pos qual /\
  ∀ fa c' cl H2, OwnCl ec fv cl -> H fa = none -> H2 fa = some (LamO fa c' qual params body scope cl) -> H2 c' = some (CodO c' qual) -> TabOk H2 T pos qual -> (∀ b o, b ≠ T -> H b = some o -> H2 b = some o) -> Q (.ref fa) H2
theorem z5k {c : Addr} {qual : Str} {h1 h2 : Heap} (x : h1.CodeRec (.ref c) qual) (k : ∀ o, h1.get? c = some o -> h2.get? c = some o) : h2.CodeRec (.ref c) qual := by
  obtain ⟨c', o, vs, t, e, ho, r⟩ := x
  cases e
  exact ⟨c, o, vs, t, rfl, k _ ho, r⟩
section
variable {X : Cx} {params : Arguments} {body : Expr} {scope : Scope} {pos : Pos} {fv : List Str} {c T : Addr} {cl : List (Str × Addr)}
theorem z7b {qual : Str} (hq : X.env.qual ++ "<lambda>" = qual) (hcode : X.env.code = .ref c) (TF : TabF X.base X.mg c T) (hdef : defaultsOf params X.env = ([], [])) (hcl : closureFor scope X.env = pure cl) (own : OwnCl X.env.cells fv cl) :
    PE X (.Lambda params body scope pos) (tLam X.env.cells fv T pos qual params body scope) := by
  intro pins s σ H Q I h
  obtain ⟨⟨ps, hT, ht, hz⟩, h⟩ := h
  subst hq
  have eT : s.heap.get? T = some (tabObj ps) := I.hok _ _ hT
  have hg : s.heap.Ns mainGlobals X.mg := I.mod.glob.keeps I.bk
  obtain ⟨bm, ob, b1, b2, b3, b4, b5, b6⟩ := TF.blt
  have hb : s.heap.BuiltinsAt X.mg T := ⟨bm, ob, b1, b2, b3, b4, I.bk _ _ b5, b6⟩
  have C : CodeHd s.heap c T := TF.hd.keeps I.bk
  refine kla_eval hdef ?_
  rcases hz with hnf | ⟨c', hf, hc'⟩
  · refine kla_makeFunction hcl I.ok.glob hg hcode C eT ht hnf TF.ne hb fun c' ctv h' tk hx hge hlt hrec htb => ?_
    have hfa : H h'.objs.size = none := I.hok.fresh (Nat.le_of_lt (Nat.lt_of_le_of_lt hge hlt))
    have hc0 : H c' = none := I.hok.fresh hge
    have nTc : c' ≠ T := fun z => by rw [z, hT] at hc0; cases hc0
    have nTf : h'.objs.size ≠ T := fun z => by rw [z, hT] at hfa; cases hfa
    have ncf : c' ≠ h'.objs.size := Nat.ne_of_lt hlt
    have old : ∀ b o, b ≠ T -> s.heap.get? b = some o -> (h'.push (kla_obj "<lambda>" (X.env.qual ++ "<lambda>") params body scope cl ((X.mg "__name__").getD .none) c' ctv)).get? b = some o := fun b o n e => Heap.get?_push_of_some _ (hx b o n e)
    have eP : (h'.push (kla_obj "<lambda>" (X.env.qual ++ "<lambda>") params body scope cl ((X.mg "__name__").getD .none) c' ctv)).get? T = some (tabObj (ps ++ #[rawInt pos.line, rawInt pos.col, .ref c'])) := Heap.get?_push_of_some _ htb
    have eF : (h'.push (kla_obj "<lambda>" (X.env.qual ++ "<lambda>") params body scope cl ((X.mg "__name__").getD .none) c' ctv)).get? h'.objs.size = some (kla_obj "<lambda>" (X.env.qual ++ "<lambda>") params body scope cl ((X.mg "__name__").getD .none) c' ctv) := Heap.get?_push_size _ rfl
    have eC : (h'.push (kla_obj "<lambda>" (X.env.qual ++ "<lambda>") params body scope cl ((X.mg "__name__").getD .none) c' ctv)).CodeRec (.ref c') (X.env.qual ++ "<lambda>") := z5k hrec fun o e => Heap.get?_push_of_some _ e
    generalize h'.push (kla_obj "<lambda>" (X.env.qual ++ "<lambda>") params body scope cl ((X.mg "__name__").getD .none) c' ctv) = h2 at *
    generalize h'.objs.size = fa at *
    have lowT : ∀ b o, s.heap.get? b = some o -> b ≠ c' /\ (H b = none -> b ≠ T) := fun b o e => ⟨Nat.ne_of_lt (Nat.lt_of_lt_of_le (Heap.lt_size e) hge), fun n z => by rw [z, hT] at n; cases n⟩
    have lowF : ∀ b o, s.heap.get? b = some o -> b ≠ fa := fun b o e => Nat.ne_of_lt (Nat.lt_trans (Nat.lt_of_lt_of_le (Heap.lt_size e) hge) hlt)
    have out : ∀ b, b ≠ T -> b ≠ c' -> b ≠ fa -> upd (upd (upd H T (.tbl (ps ++ #[rawInt pos.line, rawInt pos.col, .ref c']))) c' (CodO c' (X.env.qual ++ "<lambda>"))) fa (LamO fa c' (X.env.qual ++ "<lambda>") params body scope cl) b = H b := fun b n1 n2 n3 => by rw [z0x n3, z0x n2, z0x n1]
    have trk : ∀ b o, H b = some o -> b ≠ c' /\ b ≠ fa := fun b o e => ⟨(fun z => by rw [z, hc0] at e; cases e), (fun z => by rw [z, hfa] at e; cases e)⟩
    have HT : upd (upd (upd H T (.tbl (ps ++ #[rawInt pos.line, rawInt pos.col, .ref c']))) c' (CodO c' (X.env.qual ++ "<lambda>"))) fa (LamO fa c' (X.env.qual ++ "<lambda>") params body scope cl) T = some (.tbl (ps ++ #[rawInt pos.line, rawInt pos.col, .ref c'])) := by rw [z0x nTf.symm, z0x nTc.symm, z0k]
    have HC : upd (upd (upd H T (.tbl (ps ++ #[rawInt pos.line, rawInt pos.col, .ref c']))) c' (CodO c' (X.env.qual ++ "<lambda>"))) fa (LamO fa c' (X.env.qual ++ "<lambda>") params body scope cl) c' = some (CodO c' (X.env.qual ++ "<lambda>")) := by rw [z0x ncf, z0k]
    have HF : upd (upd (upd H T (.tbl (ps ++ #[rawInt pos.line, rawInt pos.col, .ref c']))) c' (CodO c' (X.env.qual ++ "<lambda>"))) fa (LamO fa c' (X.env.qual ++ "<lambda>") params body scope cl) fa = some (LamO fa c' (X.env.qual ++ "<lambda>") params body scope cl) := z0k
    generalize upd (upd (upd H T (.tbl (ps ++ #[rawInt pos.line, rawInt pos.col, .ref c']))) c' (CodO c' (X.env.qual ++ "<lambda>"))) fa (LamO fa c' (X.env.qual ++ "<lambda>") params body scope cl) = H2 at *
    have same : ∀ b o, b ≠ T -> H b = some o -> H2 b = some o := fun b o n e => by rw [out b n (trk b o e).1 (trk b o e).2]; exact e
    have un : Un X.fs [] H H2 s.heap h2 := ⟨fun b o e n _ _ => old b o ((lowT b o e).2 n) e, fun b o e n _ _ => ⟨o.slots, old b o ((lowT b o e).2 n) e⟩, fun b o e n _ => by rw [out b ((lowT b o e).2 n) (lowT b o e).1 (lowF b o e)]; exact n, fun b o e _ => by
      by_cases z : b = T
      · rw [z]; exact ⟨_, eP⟩
      · exact ⟨o, old b o z e⟩, fun b xs e => same b _ (fun z => by rw [z, hT] at e; cases e) e, fun b o u e => same b _ (fun z => by rw [z, hT] at e; cases e) e, fun b qs e => by
      by_cases z : b = T
      · subst z; rw [hT] at e; cases e; exact ⟨_, HT⟩
      · exact ⟨#[], by rw [same b _ z e]; simp⟩⟩
    have hok : HOk X.prog X.w H2 h2 := fun b o e => by
      by_cases zf : b = fa
      · subst zf; rw [HF] at e; cases e
        exact ⟨⟨_, _, eF⟩, ⟨_, eF⟩, fun h1 h3 ⟨pm, cv, e1⟩ k => ⟨pm, cv, k _ e1⟩⟩
      · by_cases zc : b = c'
        · subst zc; rw [HC] at e; cases e
          obtain ⟨c2, o2, vs2, t2, e2, ho2, r2⟩ := id eC
          cases e2
          exact ⟨eC, ⟨_, ho2⟩, fun h1 h3 x k => z5k x k⟩
        · by_cases zT : b = T
          · subst zT; rw [HT] at e; cases e
            exact eP
          · rw [out b zT zc zf] at e
            refine (I.hok b o e).stay (fun d u hd q => old d u (fun z => ?_) q) (fun d q => same d _ (fun z => by rw [z, hT] at q; cases q) q) fun d xs q => same d _ (fun z => by rw [z, hT] at q; cases q) q
            rcases hd with hd | hd
            · exact zT (hd.symm.trans z)
            · rw [z, hT] at hd; cases hd
    exact ⟨.ref fa, H2, I.un un hok, rfl, h fa c' cl H2 own hfa HF HC ⟨_, HT, by simpa using triples_snoc ps.toList ht, .inr ⟨c', by simpa using codeAmong_snoc ps.toList ht hnf, HC⟩⟩ same⟩
  · refine kla_makeFunctionHit hcl I.ok.glob hg hcode C eT ht hf hb fun ctv h' tk hx hsz => ?_
    have hfa : H h'.objs.size = none := I.hok.fresh hsz
    have same : ∀ b o, H b = some o -> upd H h'.objs.size (LamO h'.objs.size c' (X.env.qual ++ "<lambda>") params body scope cl) b = some o := fun b o e => by rw [z0x (z2i e hfa)]; exact e
    refine ⟨.ref h'.objs.size, upd H h'.objs.size (LamO h'.objs.size c' (X.env.qual ++ "<lambda>") params body scope cl), I.laid (t' := tk) (fun b u e => Heap.get?_push_of_some _ (hx b u e)) hsz ?_, rfl, h _ c' cl _ own hfa z0k (same _ _ hc') ⟨ps, same _ _ hT, ht, .inr ⟨c', hf, same _ _ hc'⟩⟩ fun b o _ e => same b o e⟩
    exact ⟨⟨_, _, Heap.get?_push_size _ rfl⟩, ⟨_, Heap.get?_push_size _ rfl⟩, fun h1 h3 ⟨pm, cv, e1⟩ k => ⟨pm, cv, k _ e1⟩⟩
end
end L2
namespace L2
open PySem PySem.Spec PyProof.Rows PySem.W PySem.Calls
noncomputable def addC (h : Heap) (H : Hp) : List (Str × Addr) -> List V -> Hp
  | q :: cl, v :: vs => upd (addC h H cl vs) q.2 (.frz ((h.get? q.2).getD { cls := .none, data := .plain }) (CelO q.2 v))
  | _, _ => H
theorem addC_out {h : Heap} {H : Hp} {b : Addr} : ∀ {cl : List (Str × Addr)} {vs : List V}, (∀ q ∈ cl, q.2 ≠ b) -> addC h H cl vs b = H b
  | [], _, _ => rfl
  | _ :: _, [], _ => rfl
  | q :: cl, v :: vs, n => by
    show upd _ _ _ b = _
    rw [z0x (Ne.symm (n q List.mem_cons_self))]
    exact addC_out fun q' hq => n q' (List.mem_cons_of_mem _ hq)
theorem addC_at {h : Heap} {H : Hp} : ∀ {cl : List (Str × Addr)} {vs : List V}, (cl.Pairwise fun x y => x.2 ≠ y.2) -> cl.length = vs.length -> ∀ (i : Nat) q, cl[i]? = some q -> ∃ v, vs[i]? = some v /\ addC h H cl vs q.2 = some (.frz ((h.get? q.2).getD { cls := .none, data := .plain }) (CelO q.2 v))
  | [], _, _, _, i, q, e => by simp at e
  | _ :: _, [], _, l, _, _, _ => by simp at l
  | a :: cl, v :: vs, pw, l, 0, q, e => by
    cases (Option.some.inj e)
    exact ⟨v, rfl, z0k⟩
  | a :: cl, v :: vs, pw, l, i + 1, q, e => by
    have e : cl[i]? = some q := by simpa using e
    obtain ⟨u, e1, e2⟩ := addC_at (List.pairwise_cons.mp pw).2 (by simpa using l) i q e
    refine ⟨u, by simpa using e1, ?_⟩
    show upd _ _ _ _ = _
    rw [z0x (Ne.symm ((List.pairwise_cons.mp pw).1 q (List.mem_of_getElem? e)))]
    exact e2
def tCalF (ec : List (Str × Addr)) (fv : List Str) (js : List Nat) (sp : Sp) (t : TA) : TE := fun σ H Q => t σ H fun vs H1 => ∃ vcs : List V, js.map (fun j => σ[j]?) = vcs.map (fun v => some (some v)) /\
  ∀ cl H2, OwnCl ec fv cl -> (∀ q ∈ cl, H1 q.2 = none) -> CelAt H2 cl vcs -> (∀ b, (∀ q ∈ cl, q.2 ≠ b) -> H2 b = H1 b) -> sp vs H2 (fun v H' => Q v (minC H' cl)) E0
section
variable {X : Cx} {k : Nat} {x : Str} {ps : List Str} {sp : Sp} {p pos : Pos} {e : Expr} {es : List Expr} {t : TA} {fv : List Str} {js : List Nat} {cl : List (Str × Addr)}
theorem z4z (c : Callee X.prog X.w X.K X.mg X.base CX0 k x ps sp) (hr : Room k X.A) (hg : Gl X x) (own : OwnCl X.env.cells fv cl) (hj : js.map (fun j => X.N[j]?) = fv.map some) (hk : ∀ n ∈ fv, X.env.scope.names.lookup n = some .cell) (hf : ∀ n ∈ fv, X.fn n = true) (nd : fv.Nodup)
    (ha : PA X (e :: es) t) (hdb : (x == ("__debug__" : Str)) = false := by decide)
    (he : starEach (e :: es) X.env = (false, eval e X.env) :: starEach es X.env := by rfl) (hpl : (backTo pos (starEach es X.env)).any (·.1) = false := by rfl) :
    PE X (.Call (.Name x p) (e :: es) [] pos) (tCalF X.env.cells fv js sp t) := by
  obtain ⟨f, fd, F, hm, kp, hb⟩ := c.has
  intro pins s0 σ H0 Q I0 h
  refine wpAny_Call_Name_kw (ld_glob I0 hg hm ?_ hdb)
  refine PySem.W.callWith_K (h₀ := X.base) I0.ok.mod.kin kp (thn (ha pos pins s0 σ H0 _ I0 h) fun us s ⟨vs, H, I, r, vcs, hv, q⟩ => ⟨I.kIn, ?_⟩) he hpl
  have mfv : ∀ q ∈ cl, q.1 ∈ fv := fun q hq => by rw [← own.1]; exact List.mem_map.mpr ⟨q, hq, rfl⟩
  have free : ∀ q ∈ cl, H q.2 = none := fun q hq => I.freeC q.1 q.2 (own.2 q hq)
  have apart : cl.Pairwise fun x y => x.2 ≠ y.2 := by
    have nd' : (cl.map (·.1)).Nodup := by rw [own.1]; exact nd
    have ec := own.2
    clear own mfv free
    induction cl with
    | nil => exact .nil
    | cons a r ih =>
      refine List.pairwise_cons.mpr ⟨fun y hy z => ?_, ih (List.nodup_cons.mp nd').2 (fun q hq => ec q (List.mem_cons_of_mem _ hq))⟩
      have := I.ok.inj a.1 y.1 a.2 (ec a List.mem_cons_self) (by rw [z]; exact ec y (List.mem_cons_of_mem _ hy))
      exact (List.nodup_cons.mp nd').1 (List.mem_map.mpr ⟨y, hy, this.symm⟩)
  have lf : js.length = fv.length := by have := congrArg List.length hj; simpa using this
  have lv : js.length = vcs.length := by have := congrArg List.length hv; simpa using this
  have lc : cl.length = fv.length := by rw [← own.1, List.length_map]
  have l : cl.length = vcs.length := by rw [lc, ← lf, lv]
  have holds : ∀ (i : Nat) q, cl[i]? = some q -> ∃ v u, vcs[i]? = some v /\ RelV v u /\ s.heap.IsCell q.2 (some u) := fun i q e => by
    have il : i < cl.length := (List.getElem?_eq_some_iff.mp e).1
    have ej := List.getElem?_eq_getElem (l := js) (i := i) (by omega)
    have ev := List.getElem?_eq_getElem (l := vcs) (i := i) (by omega)
    have en : X.N[js[i]'(by omega)]? = some q.1 := by
      have z := congrArg (fun l => l[i]?) hj
      simp only [List.getElem?_map, ej, Option.map_some] at z
      have y : fv[i]? = some q.1 := by rw [← own.1, List.getElem?_map, e]; rfl
      rw [y] at z
      exact Option.some.inj z
    have eσ : σ[js[i]'(by omega)]? = some (some (vcs[i]'(by omega))) := by
      have z := congrArg (fun l => l[i]?) hv
      simp only [List.getElem?_map, ej, ev, Option.map_some] at z
      exact Option.some.inj z
    obtain ⟨m, _, lo⟩ := I.loc
    have kq := hk q.1 (mfv q (List.mem_of_getElem? e))
    obtain ⟨u, ru, lk⟩ := lo _ _ _ en eσ (.inr (.inl kq))
    refine ⟨_, u, ev, ru, ?_⟩
    rcases lk with ⟨k1, _⟩ | ⟨_, c, ec, ic⟩
    · have k1 : X.env.scope.names.lookup q.1 = some .local := k1
      rw [kq] at k1; cases k1
    · rw [own.2 q (List.mem_of_getElem? e)] at ec
      cases ec; exact ic
  have hat := addC_at (h := s.heap) (H := H) apart l
  have hC : CelAt (addC s.heap H cl vcs) cl vcs := ⟨l, fun i q e => let ⟨v, e1, e2⟩ := hat i q e; ⟨v, _, e1, e2⟩, apart⟩
  have hout : ∀ b, (∀ q ∈ cl, q.2 ≠ b) -> addC s.heap H cl vcs b = H b := fun b n => addC_out n
  have split : ∀ b, (∃ q ∈ cl, q.2 = b) \/ ∀ q ∈ cl, q.2 ≠ b := fun b => by
    by_cases c : ∃ q ∈ cl, q.2 = b
    · exact .inl c
    · exact .inr fun q hq e => c ⟨q, hq, e⟩
  have gobj : ∀ q ∈ cl, ∃ o v, addC s.heap H cl vcs q.2 = some (.frz o (CelO q.2 v)) /\ s.heap.get? q.2 = some o /\ ∃ u, RelV v u /\ s.heap.IsCell q.2 (some u) := fun q hq => by
    obtain ⟨i, e⟩ := List.mem_iff_getElem?.mp hq
    obtain ⟨v, e1, e2⟩ := hat i q e
    obtain ⟨v', u, e3, ru, ic⟩ := holds i q e
    rw [e1] at e3; cases e3
    obtain ⟨o, eo, d⟩ := id ic
    rw [eo] at e2
    exact ⟨o, v, e2, eo, u, ru, ic⟩
  have trk : ∀ b o, H b = some o -> addC s.heap H cl vcs b = some o := fun b o e => by
    rw [hout b fun q hq z => by rw [← z, free q hq] at e; cases e]; exact e
  have hok : HOk X.prog X.w (addC s.heap H cl vcs) s.heap := fun b o e => by
    rcases split b with ⟨q, hq, rfl⟩ | hn
    · obtain ⟨o', v, e1, eo, u, ru, ic⟩ := gobj q hq
      rw [e1] at e; cases e
      exact ⟨eo, ⟨u, ru, ic⟩, ⟨_, eo⟩, fun h1 h2 ⟨u, ru, o2, e2, d2⟩ k => ⟨u, ru, o2, k _ e2, d2⟩⟩
    · rw [hout b hn] at e
      exact (I.hok b o e).stay (fun _ _ _ z => z) (fun d z => trk d _ z) fun d xs z => trk d _ z
  have abv : ∀ q ∈ cl, X.s₀.heap.objs.size ≤ q.2 := fun q hq => I.ok.cab q.1 q.2 (hf q.1 (mfv q hq)) (own.2 q hq)
  have nfr : ∀ b ∈ frs X.stack, ∀ q ∈ cl, q.2 ≠ b := fun b hb q hq z => by
    rcases List.mem_cons.mp (I.stkSub b hb) with y | y
    · exact I.cne q.1 q.2 (own.2 q hq) (z.trans y)
    · obtain ⟨_, o, eo, _⟩ := I.ok.funs.mem y
      have := Heap.lt_size eo
      rw [← z] at this
      exact absurd this (Nat.not_lt_of_le (abv q hq))
  have e0 : Env0 X.prog X.w X.K X.mg X.base X.A X.stack s (addC s.heap H cl vcs) := by
    have b0 := I.env0
    refine ⟨b0.frames, b0.mod, fun b o e => ⟨(b0.bs b o e).1, ?_⟩, b0.bsz, b0.funs, fun b hb => ?_, hok, b0.bare⟩
    · rw [hout b fun q hq z => ?_]
      · exact (b0.bs b o e).2
      · have := Heap.lt_size e
        rw [← z] at this
        exact absurd (Nat.lt_of_lt_of_le this I.ok.bsz) (Nat.not_lt_of_le (abv q hq))
    · rw [hout b (nfr b hb)]; exact b0.frf b hb
  have hl : us.length = ps.length := by rw [← r.length]; exact F.len _ _ _ _ (q cl _ own free hC hout)
  have hb' := hb s us I.kIn (by simpa using hl)
  rw [List.append_nil] at hb'
  refine wpAny_call (codeAny_mono (F.run X.A X.stack s (addC s.heap H cl vcs) ⟨us, []⟩ us vs _ E0 hr e0 hb' r (q cl _ own free hC hout)) fun r s' hq => ?_)
  cases r with
  | error e => exact False.elim hq
  | ok fl =>
    cases fl with
    | next => exact False.elim hq
    | brk => exact False.elim hq
    | cont => exact False.elim hq
    | ret u =>
      obtain ⟨v, H', os, bare, un, hok', rv, q'⟩ := hq
      have hC' : CelAt H' cl vcs := ⟨l, fun i q e => let ⟨v, o, e1, e2⟩ := hC.at_ i q e; ⟨v, o, e1, un.frzs _ _ _ e2⟩, apart⟩
      obtain ⟨hh, gg, dd, tt, os'⟩ := s'
      obtain rfl : os' = s.os := os
      have un2 : Un (frs X.stack) [] H (minC H' cl) s.heap hh := by
        refine ⟨fun b o e n hb hx => ?_, fun b o e n hb hx => ?_, fun b o e n hx => ?_, un.there, fun b xs e => ?_, fun b o u e => ?_, fun b qs e => ?_⟩
        · rcases split b with ⟨q, hq, rfl⟩ | hn
          · obtain ⟨o', v', e1, eo, _⟩ := gobj q hq
            rw [e] at eo; cases eo
            exact (hok' _ _ (un.frzs _ _ _ e1)).1
          · exact un.keep b o e (by rw [hout b hn]; exact n) hb hx
        · exact un.slot b o e (by rw [hout b (nfr b hb)]; exact n) hb hx
        · rcases split b with ⟨q, hq, rfl⟩ | hn
          · exact minC_in hq
          · exact z3b (un.free b o e (by rw [hout b hn]; exact n) hx)
        · have hn : ∀ q ∈ cl, q.2 ≠ b := fun q hq z => by rw [← z, free q hq] at e; cases e
          rw [z2e hn]; exact un.tups b xs (trk b _ e)
        · have hn : ∀ q ∈ cl, q.2 ≠ b := fun q hq z => by rw [← z, free q hq] at e; cases e
          rw [z2e hn]; exact un.frzs b o u (trk b _ e)
        · have hn : ∀ q ∈ cl, q.2 ≠ b := fun q hq z => by rw [← z, free q hq] at e; cases e
          rw [z2e hn]; exact un.tbls b qs (trk b _ e)
      exact ⟨v, minC H' cl, I.call (h' := hh) (g' := gg) (d' := dd) (t' := tt) (ch := []) un2 (hok'.minC hC') bare (fun b z => absurd z (by simp)), rv, q'⟩
end
theorem Fun.okTX {P : Program} {w : World} {K : PySem.W.Frag} {mg : Str -> Option Value} {base : Heap} {x qual : Str} {st : Stmt} {f c : Addr} {fd : FuncData} {N ps : List Str} {k : Nat} {sp : Sp} (F : Fun K x qual st f fd) (hcd : fd.code = .ref c) (S : FnScope N ps (defScope st)) (len : ∀ vs H Q E, sp vs H Q E -> vs.length = ps.length)
    (hbody : ∀ (A : Around) (outer : List Env) (s : Shared) (H : Hp) (vs : List V) (Q : VK) (E : XK), Room k (A.deeper (envOfC qual (defScope st) s.heap.objs.size f (.ref c))) -> sp vs H Q E ->
      ∃ t, PSs (cxOf (CX1 P w) P w K mg base N qual (defScope st) f (.ref c) A outer s H E) (defBody st) t /\ t { nx := fun _ H' => Q .non H', rt := Q } (start N vs) H) : FnOk P w K mg base (CX1 P w) (k + 1) f fd ps sp := by
  obtain ⟨oc, od, kV, doc, pm, an, cdv, ct, osl, rfl, lk, hc⟩ := F.ex
  obtain rfl : cdv = .ref c := hcd
  exact fn_of lk hc S len fun A outer s H vs Q E hr hsp => hbody A outer s H vs Q E hr hsp
end L2
namespace L2
open PySem PySem.Spec PyProof.Rows PySem.W PySem.Calls
theorem law_callT {P : Program} {w : World} {K : PySem.W.Frag} {mg mb : Str -> Option Value} {CX : CXT} {k : Nat} {fa a : Addr} {fd : FuncData} {x : Str} {sp : Sp} {s₁ : Shared} {vs : List Value} {ns : List Int} (tbs : List (Addr × Addr))
    (hT : TabsAt tbs s₁.heap) (hK0 : noTabs K = true) (hbm : ∃ bm ob, mg "__builtins__" = some (.ref bm) /\ bm ≠ builtinsNs /\ s₁.heap.get? bm = some ob /\ ob.cls = .type "module" /\ ob.dict = some builtinsNs /\ ob.data = .plain)
    (KX : K.In s₁.heap) (hns : s₁.heap.Ns mainGlobals mg) (hb : s₁.heap.Ns builtinsNs mb) (hbb : ∀ x : Str, x ≠ "__name__" -> mb x = bootBuiltins x) (hlim : s₁.heap.NoLimit) (hg : s₁.gens = #[])
    (ha : s₁.heap.get? a = some { cls := .type "list", data := .seq vs.toArray }) (hi : IntsAre vs ns) (hl : ns.length ≤ sizeLine) (hr : Room k callerA)
    (F : ∀ base : Heap, K.In base -> base.Ns mainGlobals mg -> (∀ q ∈ tbs, TabF base mg q.1 q.2) -> FnOk P w K mg base CX k fa fd [x] sp) (hbind : ∀ (s : Shared) (u : Value), BindsTo s fd ⟨[u], []⟩ [(x, u)])
    (hsp : ∀ H : Hp, (∀ q ∈ tbs, H q.2 = some (.tbl #[])) -> SqL K H a (ns.map V.int) -> sp [.ref a] H (fun v _ => v = .bl true) fun _ _ _ => False)
    (hCX : ∀ H e s', CX [] H s₁ (fun _ _ _ => False) e s' -> False) :
    codeAny (model P w) callerA (.call (.ref fa) ⟨[.ref a], []⟩) (fun r s' => r = .ok (.ret (.bool true)) /\ OldK s₁.heap s'.heap /\ s'.os = s₁.os /\ AllBare s'.gens) s₁ := by
  have rv := z5x hi
  have lenV := hi.length
  have tab : ∀ q ∈ tbs, s₁.heap.get? q.2 = some (tabObj #[]) := fun q hq => (hT q hq).2
  have naT : ∀ q ∈ tbs, q.2 ≠ a := fun q hq z => by
    have e := tab q hq
    rw [z, ha] at e; cases e
  have kT : ∀ q ∈ tbs, K.lookup q.2 = none := fun q hq => by
    cases e : K.lookup q.2 with
    | none => rfl
    | some o =>
      have e1 := KX _ _ e
      rw [tab q hq] at e1
      have h2 := List.all_eq_true.mp hK0 (q.2, o) (mem_of_lookupK e)
      cases e1
      exact absurd (show false = true from h2) Bool.false_ne_true
  have core : ∀ H : Hp, (∀ q ∈ tbs, H q.2 = some (.tbl #[])) -> (∀ b, H b = none \/ (∃ o xs, H b = some (.frz o (.lst xs))) \/ ∃ q ∈ tbs, q.2 = b) -> SqL K H a (ns.map V.int) -> HOk P w H s₁.heap -> (∀ b, H b ≠ none -> b = a \/ ∃ q ∈ tbs, q.2 = b) -> (H a ≠ none -> K.lookup a = none) ->
      codeAny (model P w) callerA (.call (.ref fa) ⟨[.ref a], []⟩) (fun r s' => r = .ok (.ret (.bool true)) /\ OldK s₁.heap s'.heap /\ s'.os = s₁.os /\ AllBare s'.gens) s₁ := by
    intro H hH hO hS hok hA hK
    have base_of : ∀ {b : Addr} {o : Obj}, s₁.heap.get? b = some o -> H b = none -> (hidT s₁.heap H).get? b = some o := fun e n => hidT_get e n
    have noA : ∀ {b : Addr} {o : Obj}, s₁.heap.get? b = some o -> o ≠ { cls := .type "list", data := .seq vs.toArray } -> o ≠ tabObj #[] -> H b = none := fun {b o} e n1 n2 => by
      cases q : H b with
      | none => rfl
      | some u =>
        rcases hA b (by rw [q]; simp) with z | ⟨p, hp, z⟩
        · subst z; rw [ha] at e; cases e; exact absurd rfl n1
        · subst z; rw [tab p hp] at e; cases e; exact absurd rfl n2
    have nsK : ∀ {b : Addr} {m : Str -> Option Value}, s₁.heap.Ns b m -> (hidT s₁.heap H).Ns b m := fun {b m} ⟨o, es, ep, e, d, r⟩ => ⟨o, es, ep, base_of e (noA e (fun z => by rw [z] at d; cases d) (fun z => by rw [z] at d; cases d)), d, r⟩
    have hKb : K.In (hidT s₁.heap H) := fun b o e => base_of (KX b o e) (by
      cases q : H b with
      | none => rfl
      | some u =>
        rcases hA b (by rw [q]; simp) with z | ⟨p, hp, z⟩
        · subst z; rw [hK (by rw [q]; simp)] at e; cases e
        · subst z; rw [kT p hp] at e; cases e)
    have hM : Mod K mg (hidT s₁.heap H) := ⟨hKb, nsK hns, ⟨mb, nsK hb, hbb⟩, let ⟨mc, h1, h2⟩ := hlim; ⟨mc, nsK h1, h2⟩⟩
    have e0 : Env0 P w K mg (hidT s₁.heap H) callerA [] s₁ H := ⟨rfl, hM, fun b o e => of_hidT e, Nat.le_of_eq (hidT_size _ _), trivial, fun b hb => absurd (show b ∈ ([] : List Addr) from hb) (by simp), hok, .of_eq hg⟩
    have tf : ∀ q ∈ tbs, TabF (hidT s₁.heap H) mg q.1 q.2 := fun q hq => by
      obtain ⟨o, vs', file, tf, flags, tg, inF, text, tt, e1, r1, r2⟩ := (hT q hq).1
      obtain ⟨bm, ob, b1, b2, b3, b4, b5, b6⟩ := hbm
      have bmT : bm ≠ q.2 := fun z => by rw [z, tab q hq] at b3; cases b3; cases b4
      have bmG : bm ≠ mainGlobals := fun z => by
        obtain ⟨o, es, ep, e, d, _⟩ := hns
        rw [← z, b3] at e; cases e; rw [b6] at d; cases d
      have gT : mainGlobals ≠ q.2 := fun z => by
        obtain ⟨o, es, ep, e, d, _⟩ := hns
        rw [z, tab q hq] at e; cases e; cases d
      refine ⟨⟨o, vs', file, tf, flags, tg, inF, text, tt, base_of e1 (noA e1 (fun z => by rw [z] at r1; exact absurd (show Value.type "list" = Value.type "code" from r1) (by decide)) (fun z => by rw [z] at r1; cases r1)), r1, r2⟩, ?_, ⟨bm, ob, b1, b2, bmG, bmT, base_of b3 (noA b3 (fun z => by rw [z] at b4; exact absurd (show Value.type "list" = Value.type "module" from b4) (by decide)) (fun z => by rw [z] at b4; cases b4)), b4, b5, b6⟩, gT⟩
      cases e : (hidT s₁.heap H).get? q.2 with
      | none => rfl
      | some o => have := (of_hidT e).2; rw [hH q hq] at this; cases this
    refine codeAny_mono ((F _ hKb (nsK hns) tf).run callerA [] s₁ H ⟨[.ref a], []⟩ [.ref a] [.ref a] _ _ hr e0 (hbind s₁ (.ref a)) (.cons rfl .nil) (hsp H hH hS)) fun r s' h => ?_
    cases r with
    | error e => exact (hCX H e s' h).elim
    | ok fl =>
      cases fl with
      | next => exact False.elim h
      | brk => exact False.elim h
      | cont => exact False.elim h
      | ret u =>
        obtain ⟨v, H', os, bare, un, hok', r', q⟩ := h
        have q' : v = .bl true := q
        subst q'
        obtain rfl : u = Value.bool true := r'
        refine ⟨rfl, ⟨fun b o e => ?_, fun b o e => un.there b o e (by simp)⟩, os, bare⟩
        rcases hO b with z | ⟨ob, xs, z⟩ | ⟨p, hp, z⟩
        · exact .inl (un.keep b o e z (by intro z; exact absurd (show b ∈ ([] : List Addr) from z) (by simp)) (by simp))
        · have z2 := un.frzs b ob _ z
          obtain ⟨e1, _⟩ := hok b _ z
          obtain ⟨e2, _⟩ := hok' b _ z2
          rw [e] at e1; cases e1
          exact .inl e2
        · subst z
          obtain ⟨more, z2⟩ := un.tbls p.2 #[] (hH p hp)
          have e2 : s'.heap.get? p.2 = some (tabObj (#[] ++ more)) := hok' _ _ z2
          have e1 := tab p hp
          rw [e] at e1; cases e1
          obtain ⟨o, vs', file, tf, flags, tg, inF, text, tt, c1, c2, c3, c4, _⟩ := (hT p hp).1
          exact .inr (.inl ⟨⟨p.1, o, vs', c1, c2, c3, c4⟩, rfl, #[], more, rfl, e2⟩)
  have withT : ∀ H : Hp, (∀ b, H b = none \/ ∃ o xs, H b = some (.frz o (.lst xs))) -> SqL K H a (ns.map V.int) -> HOk P w H s₁.heap -> (∀ b, H b ≠ none -> b = a) -> (H a ≠ none -> K.lookup a = none) ->
      codeAny (model P w) callerA (.call (.ref fa) ⟨[.ref a], []⟩) (fun r s' => r = .ok (.ret (.bool true)) /\ OldK s₁.heap s'.heap /\ s'.os = s₁.os /\ AllBare s'.gens) s₁ := by
    intro H hO hS hok hA hK
    have inT : ∀ q ∈ tbs, (fun b => if (tbs.any fun q => q.2 == b) = true then some (HO.tbl #[]) else H b) q.2 = some (.tbl #[]) := fun q hq => if_pos (List.any_eq_true.mpr ⟨q, hq, by simp⟩)
    have split : ∀ b, (∃ q ∈ tbs, q.2 = b) \/ (fun b => if (tbs.any fun q => q.2 == b) = true then some (HO.tbl #[]) else H b) b = H b := fun b => by
      by_cases c : (tbs.any fun q => q.2 == b) = true
      · obtain ⟨q, hq, e⟩ := List.any_eq_true.mp c
        exact .inl ⟨q, hq, eq_of_beq e⟩
      · exact .inr (if_neg c)
    have aT : (fun b => if (tbs.any fun q => q.2 == b) = true then some (HO.tbl #[]) else H b) a = H a := by
      rcases split a with ⟨q, hq, z⟩ | z
      · exact absurd z (naT q hq)
      · exact z
    generalize (fun b => if (tbs.any fun q => q.2 == b) = true then some (HO.tbl #[]) else H b) = G at *
    have noneT : ∀ q ∈ tbs, H q.2 = none := fun q hq => by
      cases e : H q.2 with
      | none => rfl
      | some u => exact absurd (hA q.2 (by rw [e]; simp)) (naT q hq)
    refine core G inT (fun b => ?_) ?_ (fun b o e => ?_) (fun b n => ?_) (fun n => hK (by rw [← aT]; exact n))
    · rcases split b with z | z
      · exact .inr (.inr z)
      · rw [z]; rcases hO b with y | y
        · exact .inl y
        · exact .inr (.inl y)
    · rcases hS with (z | ⟨o, z⟩) | z
      · exact .inl (.inl (by rw [aT]; exact z))
      · exact .inl (.inr ⟨o, by rw [aT]; exact z⟩)
      · exact .inr z
    · rcases split b with ⟨q, hq, z⟩ | z
      · subst z; rw [inT q hq] at e; cases e; exact tab q hq
      · rw [z] at e
        rcases hO b with y | ⟨ob, xs, y⟩
        · rw [y] at e; cases e
        · rw [y] at e; cases e
          obtain ⟨e1, l, its, n, r, e2⟩ := hok b _ y
          exact ⟨e1, l, its, n, r, e2⟩
    · rcases split b with z | z
      · exact .inr z
      · rw [z] at n; exact .inl (hA b n)
  cases hk : K.lookup a with
  | some o =>
    have e := KX a o hk
    rw [ha] at e
    cases e
    refine withT (fun _ => none) (fun _ => .inl rfl) (.inr ⟨_, vs.toArray, _, hk, rfl, rfl, rfl, by rw [List.size_toArray, lenV]; exact hl, by simpa using rv⟩) (fun b u z => by have z' : (none : Option HO) = some u := z; cases z') (fun b z => absurd rfl z) fun z => absurd rfl z
  | none =>
    refine withT (fun b => if b = a then some (.frz { cls := .type "list", data := .seq vs.toArray } (.lst (ns.map V.int))) else none) (fun b => ?_) (.inl (.inr ⟨{ cls := .type "list", data := .seq vs.toArray }, if_pos rfl⟩)) (fun b u z => ?_) (fun b z => ?_) fun _ => hk
    · by_cases hb : b = a
      · exact .inr ⟨_, _, if_pos hb⟩
      · exact .inl (if_neg hb)
    · by_cases hb : b = a
      · have z' := (if_pos hb).symm.trans z
        cases z'
        subst hb
        exact ⟨ha, by rw [List.length_map]; exact hl, vs, _, rv, ha⟩
      · have z' := (if_neg hb).symm.trans z
        cases z'
    · by_cases hb : b = a
      · exact hb
      · exact absurd (if_neg hb) z
theorem z3w {K : PySem.W.Frag} {x : Str} {f c T : Addr} {oc oc2 : Value} {od od2 : Option Addr} {fd : FuncData} {sl sl2 : Array (Option Value)} {vs : Array Value} (h1 : nsIn K mainGlobals x = some (some (.ref f))) (h2 : K.lookup f = some ⟨oc, od, .func fd, sl⟩) (h3 : fd.code = .ref c) (h4 : K.lookup c = some ⟨oc2, od2, .fields vs, sl2⟩) (h5 : vs[11]? = some (.ref T)) : tabIn K x = some (c, T) := by
  unfold tabIn
  simp only [h1, h2, h3, h4, h5]
theorem walk_ofT {l : PySem.W.OpenLaw} {n k : Nat} {q : Program} {loose : List Str} {XP : (Str -> Option Value) -> Heap -> Prop} {YP : World -> Heap -> Prop} {d : DefRec} {K : Params -> PySem.W.Frag} {CX : World -> CXT} {sp : World -> List Addr -> Sp} {x : Str}
    (hn : l.most = some n) (hn2 : n ≤ sizeLine) (hdf : d.params.defaults = []) (hr : Room k callerA)
    (hY : ∀ (w : World) (h : Heap), YP w h -> (K w.params).In h) (hK0 : ∀ w : World, noTabs (K w.params) = true)
    (F : ∀ (w : World) (mg : Str -> Option Value) (fa : Addr) (h : Heap), (K w.params).In h -> h.Ns mainGlobals mg -> mg d.name = some (.ref fa) ->
      ∃ (fd : FuncData) (tbs : List (Str × Addr × Addr)), (∀ p ∈ tbs, tabIn (K w.params) p.1 = some p.2 /\ ((recsOf q).find? fun e => e.name == p.1).isSome = true) /\ (∀ (s : Shared) (u : Value), BindsTo s fd ⟨[u], []⟩ [(x, u)]) /\
        ∀ base : Heap, (K w.params).In base -> base.Ns mainGlobals mg -> (∀ p ∈ tbs, TabF base mg p.2.1 p.2.2) -> FnOk l.prog w (K w.params) mg base (CX w) k fa fd [x] (sp w (tbs.map fun p => p.2.2)))
    (hsp : ∀ (w : World) (H : Hp) (a : Addr) (ns : List Int) (ts : List Addr), ns.length ≤ n -> (∀ T ∈ ts, H T = some (.tbl #[])) -> SqL (K w.params) H a (ns.map V.int) -> sp w ts [.ref a] H (fun v _ => v = .bl true) fun _ _ _ => False)
    (hCX : ∀ (w : World) (H : Hp) (s : Shared) (e : Value) (s' : Shared), CX w [] H s (fun _ _ _ => False) e s' -> False) :
    PySem.W.WalkO q loose XP YP l.row.toRowW d [] (fun f vs => PySem.call f vs) := by
  refine Att.attach_call hn hdf fun w s₀ s₁ mg mb fa o pm cd doc a vs ns G Y ho hd hcd hmg hobj hints hlen hg => ?_
  have KX := hY w _ Y
  obtain ⟨fd, tbs, ht, hb, hF⟩ := F w mg fa _ KX G.T.g hmg
  have hT : TabsAt (tbs.map (·.2)) s₁.heap := fun p hp => by
    obtain ⟨t, htm, rfl⟩ := List.mem_map.mp hp
    obtain ⟨h1, h2⟩ := ht t htm
    obtain ⟨d', hd'⟩ := Option.isSome_iff_exists.mp h2
    exact tab_of G.T KX hd' (show tabIn (K w.params) t.1 = some (t.2.1, t.2.2) from h1)
  refine law_callT (tbs.map (·.2)) hT (hK0 w) G.T.bmain KX G.T.g G.T.b G.T.builtins G.T.nolimit hg hobj hints (Nat.le_trans hlen hn2) hr (fun base kb nb tf => hF base kb nb fun p hp => tf p.2 (List.mem_map.mpr ⟨p, hp, rfl⟩)) hb (fun H hH hS => hsp w H a ns _ hlen (fun T hT => ?_) hS) fun H e s' => hCX w H s₁ e s'
  obtain ⟨t, htm, rfl⟩ := List.mem_map.mp hT
  exact hH t.2 (List.mem_map.mpr ⟨t, htm, rfl⟩)
end L2
namespace L2
open PySem PySem.Spec PyProof.Rows PySem.W PySem.Calls
theorem pe_calVK {X : Cx} {P : Program} {w : World} {K : PySem.W.Frag} {mg : Str -> Option Value} {base : Heap} {k i : Nat} {x : Str} {p pos : Pos} {e : Expr} {es : List Expr} {t : TA} (e1 : X.prog = P) (e2 : X.w = w) (e3 : X.K = K) (e4 : X.mg = mg) (e5 : X.base = base) (hr : Room k X.A) (hN : X.N[i]? = some x) (hv : Vis X.env.scope x) (ha : PA X (e :: es) t)
    (hd : (x == ("__debug__" : Str)) = false := by decide) (hcd : (x == ("__classdict__" : Str)) = false := by decide)
    (he : starEach (e :: es) X.env = (false, eval e X.env) :: starEach es X.env := by rfl) (hpl : (backTo pos (starEach es X.env)).any (·.1) = false := by rfl) :
    PE X (.Call (.Name x p) (e :: es) [] pos) (tCalV P w K mg base k i t) := by
  subst e1 e2 e3 e4 e5
  exact pe_calV hr hN hv ha hd hcd he hpl
theorem CallV.mono {P : Program} {w : World} {K : PySem.W.Frag} {mg : Str -> Option Value} {base : Heap} {j k : Nat} {fa : Addr} {vs : List V} {H : Hp} {Q : VK} (h : CallV P w K mg base j fa vs H Q) (l : j ≤ k) : CallV P w K mg base k fa vs H Q :=
  fun A outer s us hr e0 r => h A outer s us (hr.mono l) e0 r
def LoopE (K : PySem.W.Frag) (g : TG) (tb : TS) (D : Ends) (σ : St) (v : V) (H1 : Hp) : Prop := ∃ a xs, v = .ref a /\ SqT K H1 a xs /\ ∃ W : Nat -> Nat -> St -> Hp -> Prop, (∃ m, W 0 m σ H1) /\ ∀ i m σ H, W i m σ H ->
  ((Ite K a).stop i H /\ D.nx σ H) \/ ((Ite K a).go i H /\ ∃ N : St -> Hp -> Prop, (∀ σ' H', N σ' H' -> ∃ m', m' < m /\ W (i + 1) m' σ' H') /\ ∀ x H', (Ite K a).yld i H x H' -> g x σ H' fun σ2 H2 => tb { D with nx := N, ct := N, bk := D.nx } σ2 H2)
theorem LoopE.mk {K : PySem.W.Frag} {a : Addr} {xs : List V} {g : TG} {tb : TS} {D : Ends} {σ : St} {H : Hp} (h1 : SqT K H a xs) (Pv : Nat -> St -> Hp -> Prop) (h0 : Pv 0 σ H) (hl : ∀ i σ H, i ≤ xs.length -> Pv i σ H -> SqT K H a xs)
    (hs : ∀ i x σ H T, xs[i]? = some x -> Pv i σ H -> H T = none -> g (.ref T) σ (upd H T (.tup [.int i, x])) fun σ2 H2 => tb { D with nx := Pv (i + 1), ct := Pv (i + 1), bk := D.nx } σ2 H2) (hd : ∀ σ H, Pv xs.length σ H -> D.nx σ H) :
    LoopE K g tb D σ (.ref a) H := by
  refine ⟨a, xs, rfl, h1, fun i m σ H => m = xs.length - i /\ i ≤ xs.length /\ Pv i σ H, ⟨_, rfl, Nat.zero_le _, h0⟩, ?_⟩
  rintro i m σ H ⟨rfl, hi, p⟩
  have k1 := hl i σ H hi p
  by_cases hlt : i < xs.length
  · refine .inr ⟨⟨xs, _, k1, List.getElem?_eq_getElem hlt⟩, Pv (i + 1), fun σ' H' p' => ⟨xs.length - (i + 1), by omega, rfl, hlt, p'⟩, fun v H' yy => ?_⟩
    obtain ⟨T, x, rfl, hT, rfl, ex⟩ := yy
    exact hs i x σ H T (ex xs k1) p hT
  · have e : i = xs.length := by omega
    exact .inl ⟨⟨xs, k1, by omega⟩, hd σ H (e ▸ p)⟩
theorem eqU_at {x : V} : ∀ {xs : List V} {us : List Value}, Vals xs us -> xs.all flatV = true -> ∀ (j : Nat) (h1 : j < xs.length) (h2 : j < us.length), eqU x us[j] = eqV xs[j] x
  | y :: xs, u :: us, .cons r t, f, j, h1, h2 => by
    rw [List.all_cons, Bool.and_eq_true] at f
    cases j with
    | zero => exact eqU_of r f.1
    | succ j => exact eqU_at t f.2 j (Nat.lt_of_succ_lt_succ h1) (Nat.lt_of_succ_lt_succ h2)
section
variable {X : Cx}
end
theorem tuple_idx (l : Addr) (its : Array Value) (n : Nat) (dd : Option Addr) (sl : Array (Option Value)) (x : Value) (e : Value -> Bool) (j : Nat) (hj : j < its.size) (hit : e its[j] = true) (hno : ∀ m (hm : m < its.size), m < j -> e its[m] = false) : Meets (Builtin.«tuple.index» ⟨[.ref l, x], []⟩) (fun A R s => s.heap.get? l = some ⟨.type "tuple", dd, .seq its n, sl⟩ /\ (∀ y, y ∈ its -> SeqAt.EqAt A.in1 s y x (e y)) /\ R (.ok (.ret (.int j s.toks))) { s with toks := s.toks + 1 }) :=
  .of_wp fun prog w A R s h => by
    obtain ⟨hp, g, d, tk, os⟩ := s
    obtain ⟨hl, he, h⟩ := h
    unfold Builtin.«tuple.index»
    simp only [Std.Legacy.Range.forIn_eq_forIn_range', Std.Legacy.Range.size, Nat.sub_zero, Nat.add_sub_cancel, Nat.div_one]
    wp_walk using AutoSeq1.wpAny_loadPart' hl, wpAny_forIn_list _ (fun rest b s' => b.1 = none /\ s' = ⟨hp, g, d, tk, os⟩ /\ ∃ i, i ≤ j /\ rest = List.range' i (its.size - i)) _
    case turn =>
      rintro y rest b s' ⟨hb, rfl, i, ij, er⟩
      have il : i < its.size := by omega
      rw [show its.size - i = (its.size - (i + 1)) + 1 by omega, List.range'_succ] at er
      obtain ⟨rfl, rfl⟩ := List.cons.inj er
      rw [Array.getElem?_eq_getElem il]
      refine wpAny_bind (he _ (Array.getElem_mem il) prog w _ _ ?_)
      by_cases c : y = j
      · subst c
        rw [hit]
        wp_walk
        exact ⟨_, rfl, h⟩
      · rw [hno y il (by omega)]
        wp_walk
        exact ⟨rfl, rfl, y + 1, by omega, rfl⟩
    case fin =>
      rintro b s' ⟨hb, rfl, i, ij, er⟩
      have := congrArg List.length er
      rw [List.length_nil, List.length_range'] at this
      omega
    case h =>
      exact ⟨rfl, rfl, 0, Nat.zero_le _, by simp⟩
section
variable {X : Cx}
def rIndexT : V -> List V -> Hp -> VK -> Prop := fun x ys H Q => ∃ a o xs y j, x = .ref a /\ ys = [y] /\ H a = some (.frz o (.tup xs)) /\ xs.all flatV = true /\ flatV y = true /\ (∃ z, xs[j]? = some z /\ eqV z y = true) /\ (∀ m z, m < j -> xs[m]? = some z -> eqV z y = false) /\ Q (.int (j : Nat)) H
theorem mt_indexT : MtR X "tuple.index" rIndexT := by
  intro pins s σ H x ys v us Q I rx rv h
  obtain ⟨a, o, xs, y, j, rfl, rfl, ha, hfl, fy, ⟨z, ez, hz0⟩, hn, q⟩ := h
  cases rx
  obtain ⟨u, rfl, ru⟩ := z5y rv
  obtain ⟨g1, hz, its, rv2, o2, g2, c2, n2, d2⟩ := I.hok a _ ha
  rw [g1] at g2; cases g2
  obtain ⟨oc, od, odt, osl⟩ := o
  subst c2 d2
  have hlen := rv2.length
  have jl := (List.getElem?_eq_some_iff.mp ez).1
  have jl2 : j < its.length := by omega
  refine call_meets F.slot_tuple_index ⟨_, g1, rfl⟩ F.entry_tuple_index (F.args_tuple_index_2 _ _) (tuple_idx a its.toArray n2 od osl u (eqU y) j (by simpa using jl2) ?_ ?_) ⟨g1, fun w hw => mem_eqAt ru fy rv2 hfl w (by simpa using hw), ?_⟩
  · show eqU y its[j] = true
    rw [eqU_at rv2 hfl j jl jl2]
    rw [List.getElem?_eq_getElem jl] at ez
    cases (Option.some.inj ez); exact hz0
  · intro m hm hlt
    show eqU y its[m] = false
    have ml : m < xs.length := by simp only [List.size_toArray] at hm; omega
    rw [eqU_at rv2 hfl m ml (by simpa using hm)]
    exact hn m _ hlt (List.getElem?_eq_getElem ml)
  · exact ⟨.int _, H, I.tok _, ⟨_, rfl⟩, q⟩
theorem z6r {K : PySem.W.Frag} (hK : X.K = K) : CallR X (.type "tuple") (fun xs H Q => ∃ p ys, xs = [.ref p] /\ ((SqL K H p ys /\ ∀ l, H l = none -> Q (.ref l) (upd H l (.tup ys))) \/ (SqT K H p ys /\ Q (.ref p) H))) := hK ▸ z1p
theorem pi_listK {K : PySem.W.Frag} {tg l : Expr} {tl : TE} (hK : X.K = K) (hl : PE X l tl) : PI X tg l (iList K tl) := hK ▸ z4e hl
end
section
variable {pg : Program} {wd : World} {B : Around} {X0 : Value -> Shared -> Prop} {s0 : Shared}
end
def ItzN (K : PySem.W.Frag) (a b : Addr) : It := ⟨fun i H => ∃ xs ys x y, SqT K H a xs /\ SqL K H b ys /\ xs[i]? = some x /\ ys[i]? = some y,
  fun i H v H' => ∃ T x y, v = .ref T /\ H T = none /\ H' = upd H T (.tup [x, y]) /\ ∀ xs ys, SqT K H a xs -> SqL K H b ys -> xs[i]? = some x /\ ys[i]? = some y, fun i H => ∃ xs ys, SqT K H a xs /\ SqL K H b ys /\ (xs.length ≤ i \/ ys.length ≤ i)⟩
section
variable {X : Cx} {es : List Expr} {x1 : Nat} {pp : Pos}
end
def LoopZN (K : PySem.W.Frag) (g : TG) (tb : TS) (D : Ends) (σ : St) (vs : List V) (H1 : Hp) : Prop := ∃ a b xs ys, vs = [.ref a, .ref b] /\ SqT K H1 a xs /\ SqL K H1 b ys /\ ∃ W : Nat -> Nat -> St -> Hp -> Prop, (∃ m, W 0 m σ H1) /\ ∀ i m σ H, W i m σ H ->
  ((ItzN K a b).stop i H /\ D.nx σ H) \/ ((ItzN K a b).go i H /\ ∃ N : St -> Hp -> Prop, (∀ σ' H', N σ' H' -> ∃ m', m' < m /\ W (i + 1) m' σ' H') /\ ∀ x H', (ItzN K a b).yld i H x H' -> g x σ H' fun σ2 H2 => tb { D with nx := N, ct := N, bk := D.nx } σ2 H2)
theorem LoopZN.mk {K : PySem.W.Frag} {a b : Addr} {xs ys : List V} {g : TG} {tb : TS} {D : Ends} {σ : St} {H : Hp} (n : Nat) (hn : n = min xs.length ys.length) (h1 : SqT K H a xs) (h2 : SqL K H b ys) (Pv : Nat -> St -> Hp -> Prop) (h0 : Pv 0 σ H) (hl : ∀ i σ H, i ≤ n -> Pv i σ H -> SqT K H a xs /\ SqL K H b ys)
    (hs : ∀ i x y σ H T, i < n -> xs[i]? = some x -> ys[i]? = some y -> Pv i σ H -> H T = none -> g (.ref T) σ (upd H T (.tup [x, y])) fun σ2 H2 => tb { D with nx := Pv (i + 1), ct := Pv (i + 1), bk := D.nx } σ2 H2) (hd : ∀ σ H, Pv n σ H -> D.nx σ H) :
    LoopZN K g tb D σ [.ref a, .ref b] H := by
  subst hn
  refine ⟨a, b, xs, ys, rfl, h1, h2, fun i m σ H => m = min xs.length ys.length - i /\ i ≤ min xs.length ys.length /\ Pv i σ H, ⟨_, rfl, Nat.zero_le _, h0⟩, ?_⟩
  rintro i m σ H ⟨rfl, hi, p⟩
  obtain ⟨k1, k2⟩ := hl i σ H hi p
  by_cases hlt : i < min xs.length ys.length
  · have l1 : i < xs.length := by omega
    have l2 : i < ys.length := by omega
    refine .inr ⟨⟨xs, ys, _, _, k1, k2, List.getElem?_eq_getElem l1, List.getElem?_eq_getElem l2⟩, Pv (i + 1), fun σ' H' p' => ⟨min xs.length ys.length - (i + 1), by omega, rfl, hlt, p'⟩, fun v H' yy => ?_⟩
    obtain ⟨T, x, y, rfl, hT, rfl, ex⟩ := yy
    obtain ⟨ex1, ex2⟩ := ex xs ys k1 k2
    exact hs i x y σ H T hlt ex1 ex2 p hT
  · have e : i = min xs.length ys.length := by omega
    exact .inl ⟨⟨xs, ys, k1, k2, by omega⟩, hd σ H (e ▸ p)⟩
def CompZN (K : PySem.W.Frag) (k : Nat) (js : List Nat) (g : TG) (te : TE) (σ : St) (vs : List V) (H1 : Hp) (Q : VK) : Prop := ∃ a b xs ys, vs = [.ref a, .ref b] /\ SqT K H1 a xs /\ SqL K H1 b ys /\ ∃ W : Nat -> Nat -> List V -> St -> Hp -> Prop, (∃ m, W 0 m [] (compSt k js σ) H1) /\ ∀ i m zs σ' H', W i m zs σ' H' ->
    ((ItzN K a b).stop i H' /\ ∀ p, H' p = none -> Q (.ref p) (upd H' p (.lst zs))) \/
    ((ItzN K a b).go i H' /\ zs.length < sizeLine /\ ∃ N : List V -> St -> Hp -> Prop, (∀ zs σ2 H2, N zs σ2 H2 -> ∃ m', m' < m /\ W (i + 1) m' zs σ2 H2) /\ ∀ x H2, (ItzN K a b).yld i H' x H2 -> g x σ' H2 fun σ3 H3 => te σ3 H3 fun v H4 => N (zs ++ [v]) σ3 H4)
theorem CompZN.mk {K : PySem.W.Frag} {a b : Addr} {xs ys : List V} {k : Nat} {js : List Nat} {g : TG} {te : TE} {Q : VK} {σ : St} {H : Hp} (n : Nat) (hn : n = min xs.length ys.length) (h1 : SqT K H a xs) (h2 : SqL K H b ys) (Pv : Nat -> List V -> St -> Hp -> Prop) (h0 : Pv 0 [] (compSt k js σ) H) (hl : ∀ i zs σ H, i ≤ n -> Pv i zs σ H -> SqT K H a xs /\ SqL K H b ys)
    (hs : ∀ i x y zs σ H T, i < n -> xs[i]? = some x -> ys[i]? = some y -> Pv i zs σ H -> H T = none -> zs.length < sizeLine /\ g (.ref T) σ (upd H T (.tup [x, y])) fun σ3 H3 => te σ3 H3 fun v H4 => Pv (i + 1) (zs ++ [v]) σ3 H4) (hz : ∀ zs σ H, Pv n zs σ H -> ∀ p, H p = none -> Q (.ref p) (upd H p (.lst zs))) (hlen : ∀ i zs σ H, Pv i zs σ H -> zs.length < sizeLine) :
    CompZN K k js g te σ [.ref a, .ref b] H Q := by
  subst hn
  refine ⟨a, b, xs, ys, rfl, h1, h2, fun i m zs σ H => m = min xs.length ys.length - i /\ i ≤ min xs.length ys.length /\ Pv i zs σ H, ⟨_, rfl, Nat.zero_le _, h0⟩, ?_⟩
  rintro i m zs σ H ⟨rfl, hi, p⟩
  obtain ⟨k1, k2⟩ := hl i zs σ H hi p
  by_cases hlt : i < min xs.length ys.length
  · have l1 : i < xs.length := by omega
    have l2 : i < ys.length := by omega
    refine .inr ⟨⟨xs, ys, _, _, k1, k2, List.getElem?_eq_getElem l1, List.getElem?_eq_getElem l2⟩, hlen _ _ _ _ p, Pv (i + 1), fun zs' σ' H' p' => ⟨min xs.length ys.length - (i + 1), by omega, rfl, hlt, p'⟩, fun v H' yy => ?_⟩
    obtain ⟨T, x, y, rfl, hT, rfl, ex⟩ := yy
    obtain ⟨ex1, ex2⟩ := ex xs ys k1 k2
    exact (hs i x y zs σ H T hlt ex1 ex2 p hT).2
  · have e : i = min xs.length ys.length := by omega
    exact .inl ⟨⟨xs, ys, k1, k2, by omega⟩, hz zs σ H (e ▸ p)⟩
structure Apart6 (z ti ox j1 j2 j3 t1 t2 t3 : Addr) : Prop where
  ti_z : ti ≠ z
  ox_z : ox ≠ z
  j1_z : j1 ≠ z
  j2_z : j2 ≠ z
  j3_z : j3 ≠ z
  ti_ox : ti ≠ ox
  ti_j1 : ti ≠ j1
  ti_j2 : ti ≠ j2
  ti_j3 : ti ≠ j3
  ox_j1 : ox ≠ j1
  ox_j2 : ox ≠ j2
  ox_j3 : ox ≠ j3
  j12 : j1 ≠ j2
  j13 : j1 ≠ j3
  j23 : j2 ≠ j3
  t1_z : t1 ≠ z
  t2_z : t2 ≠ z
  t2_ox : t2 ≠ ox
  t2_j1 : t2 ≠ j1
  t3_z : t3 ≠ z
  t3_ox : t3 ≠ ox
  t3_j1 : t3 ≠ j1
  t3_j2 : t3 ≠ j2
section
variable {pg : Program} {wd : World} {B : Around} {X0 : Value -> Shared -> Prop} {s0 : Shared}
end
def Itz3 (K : PySem.W.Frag) (a b c : Addr) : It := ⟨fun i H => ∃ xs ys zs x y z, SqT K H a xs /\ SqT K H b ys /\ SqT K H c zs /\ xs[i]? = some x /\ ys[i]? = some y /\ zs[i]? = some z,
  fun i H v H' => ∃ T x y z, v = .ref T /\ H T = none /\ H' = upd H T (.tup [x, y, z]) /\ ∀ xs ys zs, SqT K H a xs -> SqT K H b ys -> SqT K H c zs -> xs[i]? = some x /\ ys[i]? = some y /\ zs[i]? = some z, fun i H => ∃ xs, SqT K H a xs /\ xs.length ≤ i⟩
section
variable {X : Cx} {es : List Expr} {x1 : Nat} {pp : Pos}
end
def CompZ3 (K : PySem.W.Frag) (k : Nat) (js : List Nat) (g : TG) (te : TE) (σ : St) (vs : List V) (H1 : Hp) (Q : VK) : Prop := ∃ a b c xs ys zs, vs = [.ref a, .ref b, .ref c] /\ SqT K H1 a xs /\ SqT K H1 b ys /\ SqT K H1 c zs /\ ∃ W : Nat -> Nat -> List V -> St -> Hp -> Prop, (∃ m, W 0 m [] (compSt k js σ) H1) /\ ∀ i m zs σ' H', W i m zs σ' H' ->
    ((Itz3 K a b c).stop i H' /\ ∀ p, H' p = none -> Q (.ref p) (upd H' p (.lst zs))) \/
    ((Itz3 K a b c).go i H' /\ zs.length < sizeLine /\ ∃ N : List V -> St -> Hp -> Prop, (∀ zs σ2 H2, N zs σ2 H2 -> ∃ m', m' < m /\ W (i + 1) m' zs σ2 H2) /\ ∀ x H2, (Itz3 K a b c).yld i H' x H2 -> g x σ' H2 fun σ3 H3 => te σ3 H3 fun v H4 => N (zs ++ [v]) σ3 H4)
theorem CompZ3.mk {K : PySem.W.Frag} {a b c : Addr} {xs ys zs : List V} {k : Nat} {js : List Nat} {g : TG} {te : TE} {Q : VK} {σ : St} {H : Hp} (n : Nat) (hn : n = xs.length) (hy : ys.length = n) (hz : zs.length = n) (h1 : SqT K H a xs) (h2 : SqT K H b ys) (h3 : SqT K H c zs) (Pv : Nat -> List V -> St -> Hp -> Prop) (h0 : Pv 0 [] (compSt k js σ) H) (hl : ∀ i us σ H, i ≤ n -> Pv i us σ H -> SqT K H a xs /\ SqT K H b ys /\ SqT K H c zs)
    (hs : ∀ i x y z us σ H T, i < n -> xs[i]? = some x -> ys[i]? = some y -> zs[i]? = some z -> Pv i us σ H -> H T = none -> g (.ref T) σ (upd H T (.tup [x, y, z])) fun σ3 H3 => te σ3 H3 fun v H4 => Pv (i + 1) (us ++ [v]) σ3 H4) (hd : ∀ us σ H, Pv n us σ H -> ∀ p, H p = none -> Q (.ref p) (upd H p (.lst us))) (hlen : ∀ i us σ H, Pv i us σ H -> us.length < sizeLine) :
    CompZ3 K k js g te σ [.ref a, .ref b, .ref c] H Q := by
  subst hn
  refine ⟨a, b, c, xs, ys, zs, rfl, h1, h2, h3, fun i m us σ H => m = xs.length - i /\ i ≤ xs.length /\ Pv i us σ H, ⟨_, rfl, Nat.zero_le _, h0⟩, ?_⟩
  rintro i m us σ H ⟨rfl, hi, p⟩
  obtain ⟨k1, k2, k3⟩ := hl i us σ H hi p
  by_cases hlt : i < xs.length
  · refine .inr ⟨⟨xs, ys, zs, _, _, _, k1, k2, k3, List.getElem?_eq_getElem hlt, List.getElem?_eq_getElem (hy ▸ hlt), List.getElem?_eq_getElem (hz ▸ hlt)⟩, hlen _ _ _ _ p, Pv (i + 1), fun us' σ' H' p' => ⟨xs.length - (i + 1), by omega, rfl, hlt, p'⟩, fun v H' yy => ?_⟩
    obtain ⟨T, x, y, z, rfl, hT, rfl, ex⟩ := yy
    obtain ⟨ex1, ex2, ex3⟩ := ex xs ys zs k1 k2 k3
    exact hs i x y z us σ H T hlt ex1 ex2 ex3 p hT
  · have e : i = xs.length := by omega
    exact .inl ⟨⟨xs, k1, by omega⟩, hd us σ H (e ▸ p)⟩
end L2
namespace PySem.W.Fast
theorem tw5976467490676531939 : True := ⟨⟩
theorem tw7222220562218825095 : True := ⟨⟩
theorem tw13837734956602599750 : True := ⟨⟩
theorem tw13290954321746012066 : True := ⟨⟩
theorem tw15571409945541555288 : True := ⟨⟩
theorem tw1788642385349493478 : True := ⟨⟩
theorem tw8843835699973028383 : True := ⟨⟩
theorem tw14579959176983033936 : True := ⟨⟩
theorem tw15050952325738328130 : True := ⟨⟩
theorem tw2888418624197274773 : True := ⟨⟩
theorem tw7161892628573760530 : True := ⟨⟩
theorem tw15868786173370450988 : True := ⟨⟩
theorem tw12130988590556724060 : True := ⟨⟩
theorem tw14113469915956480128 : True := ⟨⟩
theorem tw17826147101803413498 : True := ⟨⟩
theorem tw9374098357300786261 : True := ⟨⟩
theorem tw2130300380376554460 : True := ⟨⟩
theorem tw7388689591321070937 : True := ⟨⟩
theorem tw15288986924867489831 : True := ⟨⟩
theorem tw9178628260343282013 : True := ⟨⟩
theorem tw3822624130060616114 : True := ⟨⟩
theorem tw17873663257653634147 : True := ⟨⟩
theorem tw4216113408260451941 : True := ⟨⟩
theorem tw15987023524230390431 : True := ⟨⟩
theorem tw1573317971467354709 : True := ⟨⟩
theorem tw10672755133036401483 : True := ⟨⟩
theorem tw6609977717110872584 : True := ⟨⟩
theorem tw15709707045371910705 : True := ⟨⟩
theorem tw16754879875311918618 : True := ⟨⟩
theorem tw5796422862263543609 : True := ⟨⟩
theorem tw12755581126158417327 : True := ⟨⟩
theorem tw3374947102832480917 : True := ⟨⟩
theorem tw1237452503660801190 : True := ⟨⟩
theorem tw8043359484443151075 : True := ⟨⟩
theorem tw1793564689194111931 : True := ⟨⟩
theorem tw76601125639796059 : True := ⟨⟩
theorem tw18226420042130277616 : True := ⟨⟩
theorem tw11184121918141324014 : True := ⟨⟩
theorem tw7463387622239403783 : True := ⟨⟩
theorem tw5692313676166440721 : True := ⟨⟩
theorem tw9049882232832866484 : True := ⟨⟩
theorem tw10205281645013385028 : True := ⟨⟩
theorem tw9861730930238391706 : True := ⟨⟩
theorem tw11775713230566299468 : True := ⟨⟩
theorem tw9118464842168228069 : True := ⟨⟩
theorem tw427534093528511050 : True := ⟨⟩
theorem tw17320031850161438572 : True := ⟨⟩
theorem tw11559248121320294839 : True := ⟨⟩
theorem tw10940336653939476998 : True := ⟨⟩
theorem tw17207606421100722346 : True := ⟨⟩
theorem tw9207662292201146866 : True := ⟨⟩
theorem tw5377674812630589604 : True := ⟨⟩
theorem tw13650346494528065309 : True := ⟨⟩
theorem tw1259009243062293861 : True := ⟨⟩
theorem tw7454738959482543352 : True := ⟨⟩
theorem tw223617313394645205 : True := ⟨⟩
theorem tw12836765071713302960 : True := ⟨⟩
theorem tw8627967060470730246 : True := ⟨⟩
theorem tw3355789065252952499 : True := ⟨⟩
theorem tw15268313004514884004 : True := ⟨⟩
theorem tw18380897754239790522 : True := ⟨⟩
theorem tw14674801835809043084 : True := ⟨⟩
theorem tw8640161733192861078 : True := ⟨⟩
theorem tw1993216353516497852 : True := ⟨⟩
theorem tw14069713206997678550 : True := ⟨⟩
theorem tw17646074382440634536 : True := ⟨⟩
theorem tw16811596488044133383 : True := ⟨⟩
theorem tw11141056680661782674 : True := ⟨⟩
theorem tw3178125970845092016 : True := ⟨⟩
theorem tw7020322755286162232 : True := ⟨⟩
theorem tw1458726874832095492 : True := ⟨⟩
theorem tw6851480534229452290 : True := ⟨⟩
theorem tw16373687991944530343 : True := ⟨⟩
theorem tw13033297847319494130 : True := ⟨⟩
theorem tw15374965508480410176 : True := ⟨⟩
theorem tw254386571151308395 : True := ⟨⟩
theorem tw16151203845184092715 : True := ⟨⟩
theorem tw15043444359544863344 : True := ⟨⟩
theorem tw17164633739110852766 : True := ⟨⟩
theorem tw9559826406499766598 : True := ⟨⟩
theorem tw9644633174664681862 : True := ⟨⟩
theorem tw1255633472568270218 : True := ⟨⟩
theorem tw126043074264210378 : True := ⟨⟩
theorem tw1210206596612267185 : True := ⟨⟩
theorem tw17491429521387124797 : True := ⟨⟩
theorem tw17337646841437319774 : True := ⟨⟩
theorem tw10885384131337937201 : True := ⟨⟩
theorem tw10375131353995631532 : True := ⟨⟩
theorem tw15949560951566546822 : True := ⟨⟩
theorem tw2649113236660472566 : True := ⟨⟩
theorem tw1610547348489639634 : True := ⟨⟩
theorem tw26954326080378412 : True := ⟨⟩
theorem tw17964470287303682428 : True := ⟨⟩
theorem tw18301118272792813752 : True := ⟨⟩
theorem tw2944295436836985259 : True := ⟨⟩
theorem tw2813632099635586121 : True := ⟨⟩
theorem tw17770604484857882299 : True := ⟨⟩
theorem tw4896099196979726055 : True := ⟨⟩
theorem tw12687144747331598482 : True := ⟨⟩
theorem tw17165731444059129644 : True := ⟨⟩
theorem tw60846161482212400 : True := ⟨⟩
theorem tw9191495727893655723 : True := ⟨⟩
theorem tw11933506240764096712 : True := ⟨⟩
theorem tw5239596252258892146 : True := ⟨⟩
theorem tw17710269743928057475 : True := ⟨⟩
theorem tw14167007012673434287 : True := ⟨⟩
theorem tw8185439034902297787 : True := ⟨⟩
theorem tw17363984263637693879 : True := ⟨⟩
theorem tw5679472512478958472 : True := ⟨⟩
theorem tw15918733520682115612 : True := ⟨⟩
theorem tw7696906304308377005 : True := ⟨⟩
theorem tw13938357965570723475 : True := ⟨⟩
theorem tw15438884189605185539 : True := ⟨⟩
theorem tw3339543372953429024 : True := ⟨⟩
theorem tw6636815801761521656 : True := ⟨⟩
theorem tw15035722694112412242 : True := ⟨⟩
theorem tw17350441285174056803 : True := ⟨⟩
theorem tw5587567321286523798 : True := ⟨⟩
theorem tw13240099397508925229 : True := ⟨⟩
theorem tw15460396143633039928 : True := ⟨⟩
theorem tw332896037688719114 : True := ⟨⟩
theorem tw9895420304408491679 : True := ⟨⟩
theorem tw8681793277479886427 : True := ⟨⟩
theorem tw15154532083475384729 : True := ⟨⟩
theorem tw1214891810914646897 : True := ⟨⟩
theorem tw4277883102745789579 : True := ⟨⟩
theorem tw4366837351371912311 : True := ⟨⟩
theorem tw4182861961907770253 : True := ⟨⟩
theorem tw2892668847271289031 : True := ⟨⟩
theorem tw8470298269739831975 : True := ⟨⟩
theorem tw1174045227547381427 : True := ⟨⟩
theorem tw2520732272144325356 : True := ⟨⟩
theorem tw3105214752957500588 : True := ⟨⟩
theorem tw7735361198588932420 : True := ⟨⟩
theorem tw6158694282780827123 : True := ⟨⟩
theorem tw17142292611534034743 : True := ⟨⟩
theorem tw876065565439389971 : True := ⟨⟩
theorem tw14403760126090712166 : True := ⟨⟩
theorem tw4544552127032391090 : True := ⟨⟩
theorem tw14840934669914900908 : True := ⟨⟩
theorem tw684031334598220177 : True := ⟨⟩
theorem tw16695100057006274334 : True := ⟨⟩
theorem tw17405297045030512627 : True := ⟨⟩
theorem tw3014526955133710486 : True := ⟨⟩
theorem tw7916343259946984750 : True := ⟨⟩
theorem tw2364576201509327821 : True := ⟨⟩
theorem tw11709207190886029202 : True := ⟨⟩
theorem tw607943771129488215 : True := ⟨⟩
theorem tw13383919051590446930 : True := ⟨⟩
theorem tw1850953745207334210 : True := ⟨⟩
theorem tw16540974908394019164 : True := ⟨⟩
theorem tw16529081669032713516 : True := ⟨⟩
theorem tw13894358710333799373 : True := ⟨⟩
theorem tw796304826180819043 : True := ⟨⟩
theorem tw9215188634241702214 : True := ⟨⟩
theorem tw7226726437871940742 : True := ⟨⟩
theorem tw7780785407310596015 : True := ⟨⟩
theorem tw17175891314165215500 : True := ⟨⟩
theorem tw14464106868622726104 : True := ⟨⟩
theorem tw13434136640609112697 : True := ⟨⟩
theorem tw12670327840088020171 : True := ⟨⟩
theorem tw3166373872095731408 : True := ⟨⟩
theorem tw8356910867518070747 : True := ⟨⟩
end PySem.W.Fast
namespace My
open PySem L2 PyProof.Rows
local macro_rules | `(tactic| wp_walk using $xs:term,*) => `(tactic| simp only [rPopAt, tBMf, gTup, rIxQ, rEqD, for_eqQ, comp_eqQ, tCalV, tLam, tCalF, rIndexT, rCatL, tBM, tyV, rSlTA, rNeT, rNeL, tRaise, tTry, tCallX, caughtBy, goneEnds, tTupRev, rCatA, rEqL, rEqT, for_eqV, for_eqZ, comp_eqZ, rCatS, rSlTS, tSl, tNoPart, tPart, rSetL, gSub, rIxT, tRet, tRetN, tNext, tVar, tC, tOp, tUn, rI, rI0, rU, rEq, rNe, tTest, tB, tNot, tAnd, tOr, tAndV, tOrV, tNotV, tIf, tCall, tCB, tNil, tCons, tChain, tLst, tTup, tAsg, gName, tDrop, tNever, rIxL, rCat, CPow, CMul, CDiv, CDivN, CDivW, L2.start, scal, for_eqL, for_eqT, for_eqR1, for_eqR2, comp_eqL, comp_eqT, comp_eqR1, cxOf_K, cxComp_K, isi_ii, isi_ib, isi_bi, isi_bb, isi_it, tyS, tApp, gTupH, gCons, gNil, rIxLH, rIxTH, inV, flatV, z0k, HO.lst.injEq, HO.tup.injEq, List.any_cons, List.any_nil, List.all_cons, List.all_nil, Bool.or_false, Bool.and_self, Bool.and_true, Bool.or_eq_true, beq_iff_eq, V.int.injEq, V.bl.injEq, V.str.injEq, V.ref.injEq, V.ty.injEq, List.map_cons, List.map_nil, List.length_cons, List.length_nil, List.cons_append, List.nil_append, List.getElem?_cons_zero, List.getElem?_cons_succ, Option.some.injEq, exists_eq_left', exists_eq_left, exists_and_left, List.cons.injEq, and_true, true_and, and_assoc, decide_eq_true_eq, List.set_cons_zero, List.set_cons_succ, List.replicate, Nat.sub_self, List.append_nil, Nat.add_sub_cancel, Nat.reduceAdd, Nat.reduceSub, Int.reduceLT, Int.reduceLE, Int.reduceNeg, Int.reduceSub, Int.reduceAdd, Int.reducePow, Int.reduceToNat, na2, na10, Nat.reducePow, Nat.reduceLT, if_true, if_false, Bool.not_true, Bool.not_false, Bool.false_eq_true, List.mem_cons, List.not_mem_nil, eq_self, true_or, or_true, or_false, false_or, String.reduceEq, Option.isSome_some, ne_eq, not_false_eq_true, not_true_eq_false, Bool.not_eq_true', decide_eq_false_iff_not, Bool.true_eq_false, $[$xs:term],*])
def top (i : Nat) : Stmt := PySem.Challenge.pw_sideloom_k24_whole_views_and_tables.main.body.getD i (.Pass ⟨0, 0, 0, 0⟩)
def prodI (ns : List Int) : Int := ns.foldl (fun a b => a * b) 1
theorem z6d {ns : List Int} {i : Nat} {x : Int} (h : ns[i]? = some x) : prodI (ns.take (i + 1)) = prodI (ns.take i) * x := by
  unfold prodI
  rw [List.take_add_one, h, List.foldl_append]
  rfl
def sdOk (ns : List Int) : Prop := ∀ n ∈ ns, 0 ≤ n /\ n < 1000000000000000000
def one1 (n : Int) : Int := if n = 0 then 1 else n
theorem one_ok {ns : List Int} (h : sdOk ns) : sdOk (ns.map one1) := by
  intro n hn
  obtain ⟨m, hm, rfl⟩ := List.mem_map.mp hn
  have := h m hm
  unfold one1
  split <;> omega
theorem z6n {ns : List Int} (h : sdOk ns) {i : Nat} {x : V} (e : (ns.map V.int)[i]? = some x) : ∃ m, x = .int m /\ ns[i]? = some m /\ 0 ≤ m /\ m < 1000000000000000000 := by
  rw [List.getElem?_map] at e
  cases q : ns[i]? with
  | none => rw [q] at e; cases e
  | some m =>
    rw [q] at e
    exact ⟨m, (Option.some.inj e).symm, rfl, h m (List.mem_of_getElem? q)⟩
def stP (ns : List Int) (j : Nat) : Int := prodI (ns.reverse.take j)
def stL (ns : List Int) (i : Nat) : List Int := (List.range i).map (stP ns)
theorem z7g (ns : List Int) (i : Nat) : stL ns (i + 1) = stL ns i ++ [stP ns i] := by
  unfold stL; rw [List.range_succ, List.map_append]; rfl
theorem stP_succ {ns : List Int} {i : Nat} {m : Int} (hi : i < ns.length) (h : ns[ns.length - 1 - i]? = some m) : stP ns (i + 1) = stP ns i * m := by
  unfold stP
  exact z6d (by rw [List.getElem?_reverse hi]; exact h)
def bigI (ns : List Int) : Prop := 6 < ns.length \/ 512 < prodI (ns.map one1)
def spallowed (C : Addr) : Sp := fun vs H Q E => ∃ (a : Addr) (ns : List Int), vs = [.ref a] /\ H a = some (.tup (ns.map V.int)) /\ sdOk ns /\ ns.length ≤ 63 /\ (bigI ns -> ∀ H', Same H H' -> E (.ref C) none H') /\ (¬ bigI ns -> ∀ H', Same H H' -> Q (.ref a) H')
theorem z0g {A B : TS} {D : Ends} {σ : L2.St} {H : Hp} (J : L2.St -> Hp -> Prop) (h2 : ∀ σ H, J σ H -> B D σ H) (h1 : ∀ R : L2.St -> Hp -> Prop, (∀ σ H, J σ H -> R σ H) -> A { D with nx := R } σ H) : tSeq A B D σ H := h1 (B D) h2
theorem st_len (ns : List Int) : ((stL ns ns.length).reverse.map V.int).length = ns.length := by rw [List.length_map, List.length_reverse, stL, List.length_map, List.length_range]
theorem mx_one {n : Int} (h : 0 ≤ n) : (if n > 1 then n else 1) = one1 n := by
  unfold one1
  by_cases h1 : n = 0
  · rw [if_pos h1, if_neg (by omega)]
  · rw [if_neg h1]; split <;> omega
theorem z0l (ns : List Int) : (ns.map V.int).length = ns.length := List.length_map ..
def good (ns ms : List Int) : Prop := ms.length = ns.length /\ ∀ (i : Nat) m n, ms[i]? = some m -> ns[i]? = some n -> 0 ≤ m /\ m < n
def dotI (ms ss : List Int) : Int := (List.zipWith (fun a b => a * b) ms ss).sum
def spplaceof (C : Addr) : Sp := fun vs H Q E => ∃ (a b : Addr) (ns ms : List Int), vs = [.ref a, .ref b] /\ H a = some (.tup (ns.map V.int)) /\ H b = some (.tup (ms.map V.int)) /\ sdOk ns /\ ns.length ≤ 63 /\ ms.length ≤ 70 /\ (¬ good ns ms -> ∀ H', Same H H' -> E (.ref C) none H') /\ (good ns ms -> ∀ H', Same H H' -> Q (.int (dotI ms (stL ns ns.length).reverse)) H')
theorem z2l {ms : List Int} {i : Nat} {y : V} (ey : (ms.map V.int)[i]? = some y) : ∃ m, y = .int m /\ ms[i]? = some m := by
  rw [List.getElem?_map] at ey
  cases q : ms[i]? with
  | none => rw [q] at ey; cases ey
  | some m => rw [q] at ey; exact ⟨m, (Option.some.inj ey).symm, rfl⟩
def lfI (ns : List Int) (place : Int) : Nat -> Int
  | 0 => place
  | i + 1 => lfI ns place i / ns.reverse.getD i 1
def dgI (ns : List Int) (place : Int) (i : Nat) : Int := lfI ns place i % ns.reverse.getD i 1
def dgL (ns : List Int) (place : Int) (i : Nat) : List Int := (List.range i).map (dgI ns place)
theorem dgL_succ (ns : List Int) (p : Int) (i : Nat) : dgL ns p (i + 1) = dgL ns p i ++ [dgI ns p i] := by
  unfold dgL; rw [List.range_succ, List.map_append]; rfl
theorem z7p {ns : List Int} {i : Nat} {m : Int} (hi : i < ns.length) (h : ns[ns.length - 1 - i]? = some m) : ns.reverse.getD i 1 = m := by
  rw [List.getD_eq_getElem?_getD, List.getElem?_reverse hi, h]; rfl
theorem z3z (xs : List Int) (y : Int) : prodI (xs ++ [y]) = prodI xs * y := by unfold prodI; rw [List.foldl_append]; rfl
theorem prod_from (xs : List Int) : ∀ a : Int, xs.foldl (fun a b => a * b) a = a * prodI xs := by
  induction xs with
  | nil => intro a; show a = a * 1; rw [Int.mul_one]
  | cons x xs ih => intro a; show xs.foldl (fun a b => a * b) (a * x) = a * (xs.foldl (fun a b => a * b) (1 * x)); rw [ih, ih (1 * x), Int.one_mul, Int.mul_assoc]
theorem z0v (x : Int) (xs : List Int) : prodI (x :: xs) = x * prodI xs := by
  show xs.foldl (fun a b => a * b) (1 * x) = _
  rw [prod_from, Int.one_mul]
theorem prod_rev (ns : List Int) : prodI ns.reverse = prodI ns := by
  induction ns with
  | nil => rfl
  | cons x xs ih => rw [List.reverse_cons, z3z, z0v, ih, Int.mul_comm]
theorem prod_nz {ns : List Int} (h : prodI ns ≠ 0) : ∀ n ∈ ns, n ≠ 0 := by
  induction ns with
  | nil => intro n hn; cases hn
  | cons x xs ih =>
    rw [z0v] at h
    intro n hn
    rcases List.mem_cons.mp hn with rfl | hn
    · intro z; rw [z, Int.zero_mul] at h; exact h rfl
    · exact ih (fun z => h (by rw [z, Int.mul_zero])) n hn
theorem stP_all (ns : List Int) : stP ns ns.length = prodI ns := by
  unfold stP; rw [← List.length_reverse, List.take_length, prod_rev]
theorem z4y {ns : List Int} (h : ∀ n ∈ ns, 0 ≤ n) : 0 ≤ prodI ns := by
  induction ns with
  | nil => decide
  | cons x xs ih => rw [z0v]; exact Int.mul_nonneg (h x (List.mem_cons_self ..)) (ih fun n hn => h n (List.mem_cons_of_mem _ hn))
theorem stP_nn {ns : List Int} (h : sdOk ns) (i : Nat) : 0 ≤ stP ns i := z4y fun n hn => (h n (List.mem_reverse.mp (List.mem_of_mem_take hn))).1
def totI (ns : List Int) (pl : Int) : Nat -> Int
  | 0 => 0
  | i + 1 => totI ns pl i + dgI ns pl i * stP ns i
theorem at_rev (ns : List Int) {i : Nat} (hi : i < ns.length) : ∃ m, ns[ns.length - 1 - i]? = some m /\ m ∈ ns := by
  have z : ns.length - 1 - i < ns.length := by omega
  exact ⟨ns[ns.length - 1 - i], List.getElem?_eq_getElem z, List.getElem_mem z⟩
theorem tot_inv {ns : List Int} {pl : Int} : ∀ i, i ≤ ns.length -> totI ns pl i + stP ns i * lfI ns pl i = pl
  | 0, _ => by show 0 + 1 * pl = pl; omega
  | i + 1, h => by
    obtain ⟨m, hm, _⟩ := at_rev ns (i := i) (by omega)
    have ih := tot_inv (ns := ns) (pl := pl) i (by omega)
    rw [stP_succ (by omega) hm]
    show totI ns pl i + dgI ns pl i * stP ns i + stP ns i * m * (lfI ns pl i / _) = pl
    have rg := z7p (by omega) hm
    unfold dgI
    rw [rg]
    have e := Int.mul_ediv_add_emod (lfI ns pl i) m
    have e2 : stP ns i * m * (lfI ns pl i / m) = stP ns i * (m * (lfI ns pl i / m)) := Int.mul_assoc ..
    have e3 : stP ns i * (m * (lfI ns pl i / m)) + stP ns i * (lfI ns pl i % m) = stP ns i * lfI ns pl i := by rw [← Int.mul_add, e]
    have e4 : lfI ns pl i % m * stP ns i = stP ns i * (lfI ns pl i % m) := Int.mul_comm ..
    omega
theorem lf_nn {ns : List Int} {pl : Int} (h : sdOk ns) (h0 : 0 ≤ pl) : ∀ i, i ≤ ns.length -> 0 ≤ lfI ns pl i
  | 0, _ => h0
  | i + 1, hi => by
    obtain ⟨m, hm, mm⟩ := at_rev ns (i := i) (by omega)
    show 0 ≤ lfI ns pl i / _
    rw [z7p (by omega) hm]
    exact Int.ediv_nonneg (lf_nn h h0 i (by omega)) (h m mm).1
theorem dg_in {ns : List Int} {pl : Int} (nz : ∀ n ∈ ns, n ≠ 0) (h : sdOk ns) {i : Nat} {m : Int} (hi : i < ns.length) (hm : ns[ns.length - 1 - i]? = some m) : 0 ≤ dgI ns pl i /\ dgI ns pl i < m := by
  unfold dgI
  rw [z7p hi hm]
  have mm := List.mem_of_getElem? hm
  have m0 := (h m mm).1
  have mz := nz m mm
  exact ⟨Int.emod_nonneg _ mz, Int.emod_lt_of_pos _ (by omega)⟩
theorem tot_nn {ns : List Int} {pl : Int} (nz : ∀ n ∈ ns, n ≠ 0) (h : sdOk ns) : ∀ i, i ≤ ns.length -> 0 ≤ totI ns pl i
  | 0, _ => Int.le_refl _
  | i + 1, hi => by
    obtain ⟨m, hm, _⟩ := at_rev ns (i := i) (by omega)
    have a1 := tot_nn (pl := pl) nz h i (by omega)
    have a2 := Int.mul_nonneg (dg_in (pl := pl) nz h (by omega) hm).1 (stP_nn h i)
    show 0 ≤ totI ns pl i + _
    omega
theorem tot_all {ns : List Int} {pl : Int} (h : sdOk ns) (h0 : 0 ≤ pl) (h1 : pl < prodI ns) : totI ns pl ns.length = pl := by
  have nz := prod_nz (ns := ns) (by omega)
  have e := tot_inv (ns := ns) (pl := pl) ns.length (Nat.le_refl _)
  have t := tot_nn (pl := pl) nz h ns.length (Nat.le_refl _)
  have l := lf_nn h h0 ns.length (Nat.le_refl _)
  have z : lfI ns pl ns.length = 0 := by
    refine Decidable.byContradiction fun nl => ?_
    have g := Int.mul_le_mul_of_nonneg_left (show 1 ≤ lfI ns pl ns.length by omega) (stP_nn h ns.length)
    rw [stP_all] at g e
    omega
  rw [z, Int.mul_zero] at e
  omega
theorem dg_get {ns : List Int} {pl : Int} {k : Nat} (hk : k < ns.length) : (dgL ns pl ns.length).reverse[k]? = some (dgI ns pl (ns.length - 1 - k)) := by
  have l : (dgL ns pl ns.length).length = ns.length := by rw [dgL, List.length_map, List.length_range]
  have z : ns.length - 1 - k < ns.length := by omega
  rw [List.getElem?_reverse (by rw [l]; exact hk), l, dgL, List.getElem?_map, List.getElem?_range z]
  rfl
theorem dot_tot (ns : List Int) (pl : Int) : ∀ n, dotI (dgL ns pl n).reverse (stL ns n).reverse = totI ns pl n
  | 0 => rfl
  | n + 1 => by
    rw [dgL_succ, z7g, List.reverse_append, List.reverse_append]
    show dgI ns pl n * stP ns n + dotI (dgL ns pl n).reverse (stL ns n).reverse = totI ns pl n + dgI ns pl n * stP ns n
    rw [dot_tot ns pl n, Int.add_comm]
theorem dg_good {ns : List Int} {pl : Int} (nz : ∀ n ∈ ns, n ≠ 0) (h : sdOk ns) : good ns (dgL ns pl ns.length).reverse := by
  refine ⟨by rw [List.length_reverse, dgL, List.length_map, List.length_range], fun i m n hm hn => ?_⟩
  have hi := (List.getElem?_eq_some_iff.mp hn).1
  rw [dg_get hi] at hm
  cases hm
  exact dg_in nz h (by omega) (by rw [show ns.length - 1 - (ns.length - 1 - i) = i by omega]; exact hn)
def rep0 (n : Nat) : List Int := List.replicate n 0
theorem z5o (n : Nat) : (rep0 n).length = n := List.length_replicate ..
theorem rep0_flat (n : Nat) : (List.replicate n [V.int 0]).flatten = (rep0 n).map V.int := by unfold rep0; rw [List.flatten_replicate_singleton, List.map_replicate]
def spatof (C : Addr) : Sp := fun vs H Q E => ∃ (a : Addr) (ns : List Int) (pl : Int), vs = [.ref a, .int pl] /\ H a = some (.tup (ns.map V.int)) /\ sdOk ns /\ ns.length ≤ 63 /\ ((pl < 0 \/ prodI ns ≤ pl) -> ∀ H', Same H H' -> E (.ref C) none H') /\ (0 ≤ pl -> pl < prodI ns -> ∀ H' p, Same H H' -> H' p = some (.tup ((dgL ns pl ns.length).reverse.map V.int)) -> Q (.ref p) H')
def fit (ns : List Int) : Prop := (∀ n ∈ ns, 0 ≤ n /\ n ≤ 512) /\ ns.length ≤ 6 /\ 1 ≤ prodI (ns.map one1) /\ prodI (ns.map one1) ≤ 512
def grow (ns : List Int) (free : Int) (i : Nat) : Prop := (∀ n ∈ ns, 0 ≤ n /\ n ≤ 512) /\ ns.length = i /\ 1 ≤ free /\ free ≤ 512 /\ 1 ≤ prodI (ns.map one1) /\ free * prodI (ns.map one1) ≤ 512
theorem grow_fit {ns : List Int} {free : Int} {i : Nat} (h : grow ns free i) (hi : i ≤ 6) : fit ns := by
  obtain ⟨h1, h2, h3, h4, h5, h6⟩ := h
  refine ⟨h1, by omega, h5, ?_⟩
  have := Int.mul_le_mul_of_nonneg_right h3 (show 0 ≤ prodI (ns.map one1) by omega)
  omega
theorem grow_step {ns : List Int} {free m : Int} {i : Nat} (h : grow ns free i) (m0 : 0 ≤ m) (m1 : m ≤ free) : grow (ns ++ [m]) (free / one1 m) (i + 1) := by
  obtain ⟨h1, h2, h3, h4, h5, h6⟩ := h
  have o1 : 1 ≤ one1 m /\ one1 m ≤ free := by unfold one1; split <;> omega
  have d1 : 1 ≤ free / one1 m := by rw [Int.le_ediv_iff_mul_le (by omega)]; omega
  have d2 : free / one1 m * one1 m ≤ free := Int.ediv_mul_le _ (by omega)
  have d3 : free / one1 m ≤ 512 := Int.le_trans (Int.ediv_le_self _ (by omega)) h4
  have e : prodI ((ns ++ [m]).map one1) = prodI (ns.map one1) * one1 m := by rw [List.map_append]; exact z3z _ _
  refine ⟨fun n hn => ?_, by rw [List.length_append, h2]; rfl, d1, d3, ?_, ?_⟩
  · rcases List.mem_append.mp hn with hn | hn
    · exact h1 n hn
    · cases List.mem_singleton.mp hn; omega
  · rw [e]
    have := Int.mul_le_mul_of_nonneg_right h5 (show 0 ≤ one1 m by omega)
    omega
  · rw [e]
    have z1 : free / one1 m * (prodI (ns.map one1) * one1 m) = free / one1 m * one1 m * prodI (ns.map one1) := by rw [Int.mul_comm (prodI _), Int.mul_assoc]
    have z2 := Int.mul_le_mul_of_nonneg_right d2 (show 0 ≤ prodI (ns.map one1) by omega)
    omega
def Pair (H : Hp) (p : Addr) (w : String) (ms : List Int) : Prop := ∃ q, H p = some (.tup [.str w, .ref q]) /\ H q = some (.tup (ms.map V.int))
theorem Pair.same {H H' : Hp} {p : Addr} {w : String} {ms : List Int} (h : Pair H p w ms) (s : Same H H') : Pair H' p w ms := let ⟨q, a, b⟩ := h; ⟨q, s _ _ a, s _ _ b⟩
def off (ns : List Int) (side : Int) : Prop := side < 0 \/ (ns.length : Int) ≤ side
def bad (ns : List Int) (side first many step : Int) : Prop := first < 0 \/ many < 0 \/ step < 1 \/ (0 < many /\ ns.getD side.toNat 0 ≤ first + (many - 1) * step)
def spask (C : Addr) : Sp := fun vs H Q E => ∃ (a : Addr) (ns : List Int) (side : Int), vs = [.ref a, .int side] /\ H a = some (.tup (ns.map V.int)) /\ (off ns side -> E (.ref C) none H) /\ (¬ off ns side -> Q .non H)
def spflip (C : Addr) : Sp := fun vs H Q E => ∃ (a : Addr) (ns : List Int) (side : Int), vs = [.ref a, .int side] /\ H a = some (.tup (ns.map V.int)) /\ (off ns side -> E (.ref C) none H) /\ (¬ off ns side -> Q (.ref a) H)
def spcut (C D : Addr) : Sp := fun vs H Q E => ∃ (a : Addr) (ns : List Int) (side first many step : Int), vs = [.ref a, .int side, .int first, .int many, .int step] /\ H a = some (.tup (ns.map V.int)) /\ ns.length ≤ 63 /\ -100 < many /\ many < 1000000 /\ (off ns side -> E (.ref C) none H) /\ (¬ off ns side -> bad ns side first many step -> E (.ref D) none H) /\ (¬ off ns side -> ¬ bad ns side first many step -> ∀ H' p, Same H H' -> H' p = some (.tup ((ns.set side.toNat many).map V.int)) -> Q (.ref p) H')
theorem cut_lo {ns : List Int} {k : Nat} (h : k ≤ ns.length) : cutV (ns.map V.int) none (some (k : Int)) = (ns.take k).map V.int := by
  unfold cutV; simp only [HT.sIx, z0l]; rw [if_neg (by omega), List.drop_zero, List.map_take]; congr 1; omega
theorem cut_hi {ns : List Int} {k : Nat} (h : k ≤ ns.length) : cutV (ns.map V.int) (some (k : Int)) none = (ns.drop k).map V.int := by
  unfold cutV; simp only [HT.sIx, z0l]; rw [if_neg (by omega), List.map_drop, show min (k : Int).toNat ns.length = k by omega, List.take_of_length_le (by simp)]
theorem at_ok {ns : List Int} {side : Int} (h : ¬ off ns side) : ∃ k : Nat, side = k /\ k < ns.length := by
  unfold off at h
  exact ⟨side.toNat, by omega, by omega⟩
theorem z7d {ns : List Int} {k : Nat} (h : k < ns.length) : atI (ns.map V.int) (k : Int) = some (.int (ns.getD k 0)) := z0h (by rw [List.getElem?_map, List.getElem?_eq_getElem h, List.getD_eq_getElem?_getD, List.getElem?_eq_getElem h]; rfl)
instance (ns : List Int) : Decidable (bigI ns) := by unfold bigI; infer_instance
theorem z2k (ns : List Int) (k : Nat) : cutV (ns.map V.int) none (some (k : Int)) = (ns.take k).map V.int := by
  unfold cutV; simp only [HT.sIx, z0l]; rw [if_neg (by omega), List.drop_zero, Nat.sub_zero, ← List.map_take]; congr 1
  by_cases c : k ≤ ns.length
  · congr 1; omega
  · rw [List.take_of_length_le (by omega), List.take_of_length_le (by omega)]
theorem z2o : ∀ (ns ms : List Int), eqVs (ns.map V.int) (ms.map V.int) = decide (ns = ms)
  | [], [] => rfl
  | [], m :: ms => by simp [eqVs]
  | n :: ns, [] => by simp [eqVs]
  | n :: ns, m :: ms => by
    by_cases e : n = m
    · subst e; simp [eqVs, eqV, z2o ns ms]
    · simp [eqVs, eqV, z2o ns ms, e]
def spled (C : Addr) : Sp := fun vs H Q E => ∃ (a b : Addr) (ns ms : List Int), vs = [.ref a, .ref b] /\ H a = some (.tup (ns.map V.int)) /\ H b = some (.tup (ms.map V.int)) /\ (¬ ms.take ns.length = ns -> ∀ H', Same H H' -> E (.ref C) none H') /\ (ms.take ns.length = ns -> ∀ H', Same H H' -> Q (.ref b) H')
def tups (H : Hp) (ps : List Addr) (L : List (List Int)) : Prop := ps.length = L.length /\ ∀ (i : Nat) p m, ps[i]? = some p -> L[i]? = some m -> H p = some (.tup (m.map V.int))
theorem tups.same {H H' : Hp} {ps : List Addr} {L : List (List Int)} (h : tups H ps L) (s : Same H H') : tups H' ps L := ⟨h.1, fun i p m a b => s _ _ (h.2 i p m a b)⟩
theorem tups.at {H : Hp} {ps : List Addr} {L : List (List Int)} (h : tups H ps L) {i : Nat} {v : V} (e : (ps.map V.ref)[i]? = some v) : ∃ p m, v = .ref p /\ L[i]? = some m /\ m ∈ L /\ H p = some (.tup (m.map V.int)) := by
  rw [List.getElem?_map] at e
  cases q : ps[i]? with
  | none => rw [q] at e; cases e
  | some p =>
    rw [q] at e
    have hi := (List.getElem?_eq_some_iff.mp q).1
    rw [h.1] at hi
    have z := List.getElem?_eq_getElem hi
    exact ⟨p, L[i], (Option.some.inj e).symm, z, List.getElem_mem hi, h.2 i p _ q z⟩
theorem tups.snoc {H : Hp} {ps : List Addr} {L : List (List Int)} {p : Addr} {m : List Int} (h : tups H ps L) (hp : H p = some (.tup (m.map V.int))) : tups H (ps ++ [p]) (L ++ [m]) := by
  refine ⟨by rw [List.length_append, List.length_append, h.1]; rfl, fun i p' m' a b => ?_⟩
  by_cases c : i < ps.length
  · rw [List.getElem?_append_left c] at a
    rw [List.getElem?_append_left (by rw [← h.1]; exact c)] at b
    exact h.2 i p' m' a b
  · have e : i = ps.length := by have := (List.getElem?_eq_some_iff.mp a).1; simp at this; omega
    subst e
    rw [List.getElem?_append_right (Nat.le_refl _), Nat.sub_self] at a
    rw [h.1, List.getElem?_append_right (Nat.le_refl _), Nat.sub_self] at b
    cases a; cases b; exact hp
theorem tups.take {H : Hp} {ps : List Addr} {L : List (List Int)} (h : tups H ps L) (k : Nat) : tups H (ps.take k) (L.take k) := by
  refine ⟨by rw [List.length_take, List.length_take, h.1], fun i p m a b => ?_⟩
  have c : i < k := by have := (List.getElem?_eq_some_iff.mp a).1; rw [List.length_take] at this; omega
  rw [List.getElem?_take_of_lt c] at a b
  exact h.2 i p m a b
def sm (ns : List Int) : Prop := ∀ n ∈ ns, 0 ≤ n /\ n ≤ 1000000
theorem sm_sd {ns : List Int} (h : sm ns) : sdOk ns := fun n hn => by have := h n hn; omega
theorem sm_set {ns : List Int} {k : Nat} {v : Int} (h : sm ns) (h0 : 0 ≤ v) (h1 : v ≤ 1000000) : sm (ns.set k v) := fun n hn => by
  rcases List.mem_or_eq_of_mem_set hn with z | z
  · exact h n z
  · omega
theorem getD_mem {ns : List Int} {k : Nat} (h : k < ns.length) : ns.getD k 0 ∈ ns := by rw [List.getD_eq_getElem?_getD, List.getElem?_eq_getElem h]; exact List.getElem_mem h
def turnOk (n : Nat) (os : List Int) : Prop := os.Perm (upL n)
theorem up_mem {n : Nat} {x : Int} : x ∈ upL n ↔ 0 ≤ x /\ x < n := by
  unfold upL
  constructor
  · intro h; obtain ⟨i, hi, rfl⟩ := List.mem_map.mp h; have := List.mem_range.mp hi; omega
  · intro h; exact List.mem_map.mpr ⟨x.toNat, List.mem_range.mpr (by omega), by omega⟩
theorem up_len (n : Nat) : (upL n).length = n := by simp [upL]
theorem up_pw (n : Nat) : (upL n).Pairwise (· ≤ ·) := by
  unfold upL
  rw [List.pairwise_map]
  exact List.Pairwise.imp (fun h => by omega) (List.pairwise_lt_range (n := n))
theorem up_nd (n : Nat) : (upL n).Nodup := by
  unfold upL
  exact List.Pairwise.map _ (fun a b (h : a ≠ b) => by omega) List.nodup_range
theorem sorted_eq : ∀ {l1 l2 : List Int}, l1.Perm l2 -> l1.Pairwise (· ≤ ·) -> l2.Pairwise (· ≤ ·) -> l1 = l2
  | [], l2, p, _, _ => (List.nil_perm.mp p).symm
  | a :: l1, l2, p, h1, h2 => by
    cases l2 with
    | nil => exact List.perm_nil.mp p
    | cons b l2 =>
      obtain ⟨a1, a2⟩ := List.pairwise_cons.mp h1
      obtain ⟨b1, b2⟩ := List.pairwise_cons.mp h2
      have ab : a ≤ b := by
        rcases List.mem_cons.mp (p.symm.subset (List.mem_cons_self ..)) with e | e
        · omega
        · exact a1 b e
      have ba : b ≤ a := by
        rcases List.mem_cons.mp (p.subset (List.mem_cons_self ..)) with e | e
        · omega
        · exact b1 a e
      have e : a = b := by omega
      subst e
      rw [sorted_eq (List.perm_cons a |>.mp p) a2 b2]
theorem z3f {n : Nat} {os ss : List Int} (p : ss.Perm os) (s : ss.Pairwise (· ≤ ·)) : ss = upL n ↔ turnOk n os :=
  ⟨fun e => p.symm.trans (by rw [e]), fun t => sorted_eq (p.trans t) s (up_pw n)⟩
def turnL (ns os : List Int) : List Int := os.map fun k => ns.getD k.toNat 0
theorem at_in {ns : List Int} {o : Int} (h0 : 0 ≤ o) (h1 : o < ns.length) : atI (ns.map V.int) o = some (.int (ns.getD o.toNat 0)) := by
  have z := z7d (ns := ns) (k := o.toNat) (by omega)
  rwa [show ((o.toNat : Nat) : Int) = o by omega] at z
theorem ixN_nat {n k : Nat} (h : k < n) : ixN n (k : Int) = some k := by
  unfold ixN; rw [if_pos (by omega), if_pos (by omega)]; simp
theorem map_erase (xs : List Int) (k : Nat) : (xs.map V.int).eraseIdx k = (xs.eraseIdx k).map V.int := by
  rw [List.eraseIdx_eq_take_drop_succ, List.eraseIdx_eq_take_drop_succ, List.map_append, List.map_take, List.map_drop]
theorem z2x (ns : List Int) (k : Nat) : cutV (ns.map V.int) (some (k : Int)) none = (ns.drop k).map V.int := by
  unfold cutV; simp only [HT.sIx, z0l]; rw [if_neg (by omega), List.take_of_length_le (by simp), ← List.map_drop]; congr 1
  by_cases c : k ≤ ns.length
  · congr 1; omega
  · rw [List.drop_eq_nil_of_le (by omega), List.drop_eq_nil_of_le (by omega)]
def insL (ns : List Int) (k : Nat) (m : Int) : List Int := ns.take k ++ [m] ++ ns.drop k
def off1 (ns : List Int) (side : Int) : Prop := side < 0 \/ (ns.length : Int) < side
theorem z3l (ns : List Int) (k : Nat) (m : Int) : (insL ns k m).length = ns.length + 1 := by
  unfold insL; simp only [List.length_append, List.length_take, List.length_drop, List.length_cons, List.length_nil]; omega
def VwAt (H : Hp) (v : Addr) (ns : List Int) (st : Int) (ss : List Int) : Prop := ∃ sa ta, H v = some (.tup [.ref sa, .int st, .ref ta]) /\ H sa = some (.tup (ns.map V.int)) /\ H ta = some (.tup (ss.map V.int))
theorem VwAt.same {H H' : Hp} {v : Addr} {ns : List Int} {st : Int} {ss : List Int} (h : VwAt H v ns st ss) (s : Same H H') : VwAt H' v ns st ss := let ⟨sa, ta, a, b, c⟩ := h; ⟨sa, ta, s _ _ a, s _ _ b, s _ _ c⟩
theorem z1o {ns : List Int} {k : Nat} (hk : k < ns.length) : ns[k]? = some (ns.getD k 0) := by rw [List.getD_eq_getElem?_getD, List.getElem?_eq_getElem hk]; rfl
theorem ins_ok {ns : List Int} {k : Nat} {m : Int} (h : sdOk ns) (h0 : 0 ≤ m) (h1 : m < 1000000) : sdOk (insL ns k m) := fun n hn => by
  unfold insL at hn
  rcases List.mem_append.mp hn with hn | hn
  · rcases List.mem_append.mp hn with hn | hn
    · exact h n (List.mem_of_mem_take hn)
    · cases List.mem_singleton.mp hn; omega
  · exact h n (List.mem_of_mem_drop hn)
def spspr (C1 C2 C3 : Addr) : Sp := fun vs H Q E => ∃ (a : Addr) (ns : List Int) (side many : Int), vs = [.ref a, .int side, .int many] /\ H a = some (.tup (ns.map V.int)) /\ sdOk ns /\ ns.length ≤ 20 /\ many < 1000000 /\ (off1 ns side -> E (.ref C1) none H) /\ (¬ off1 ns side -> many < 0 -> E (.ref C2) none H) /\ (¬ off1 ns side -> ¬ many < 0 -> bigI (insL ns side.toNat many) -> ∀ H', Same H H' -> E (.ref C3) none H') /\ (¬ off1 ns side -> ¬ many < 0 -> ¬ bigI (insL ns side.toNat many) -> ∀ H' p, Same H H' -> H' p = some (.tup ((insL ns side.toNat many).map V.int)) -> Q (.ref p) H')
theorem at_int {r : List Int} {i x : Int} (i0 : 0 ≤ i) (h : r[i.toNat]? = some x) : atI (r.map V.int) i = some (.int x) := by
  have z := z0h (xs := r.map V.int) (j := i.toNat) (v := .int x) (by rw [List.getElem?_map, h]; rfl)
  rwa [show ((i.toNat : Nat) : Int) = i by omega] at z
theorem div_div {p B n : Int} (hn : 0 < n) : p / (B * n) = p / n / B := by
  rw [Int.mul_comm, Int.ediv_mul, if_neg (by omega), Int.add_zero]
theorem repT0 {H : Hp} {p : Addr} {n : Nat} {Q : VK} (hp : H p = some (.tup [V.int 0])) (hn : n ≤ 63) (q : ∀ r H', Same H H' -> H' r = some (.tup ((rep0 n).map V.int)) -> Q (.ref r) H') : rRepT (V.ref p) (V.int (n : Int)) H Q := by
  refine ⟨p, _, _, rfl, rfl, hp, by simp, ⟨by omega, by omega⟩, ?_, fun e => ?_, fun e r hr => ?_⟩
  · rw [Int.toNat_natCast]; exact small (by simp; omega)
  · have e : n = 1 := by omega
    subst e
    exact q p H (Same.refl _) hp
  · refine q r _ (z0e hr _) ?_
    rw [z0k, Int.toNat_natCast, rep0_flat]
def Frz (H : Hp) (a : Addr) (os : List Int) : Prop := ∃ o, H a = some (.frz o (.tup (os.map V.int))) /\ o.dict = none
theorem Frz.same {H H' : Hp} {a : Addr} {os : List Int} (h : Frz H a os) (s : Same H H') : Frz H' a os := let ⟨o, e, d⟩ := h; ⟨o, s _ _ e, d⟩
theorem Frz.sq {K : PySem.W.Frag} {H : Hp} {a : Addr} {os : List Int} (h : Frz H a os) : SqT K H a (os.map V.int) := let ⟨o, e, _⟩ := h; .inl (.inr ⟨o, e⟩)
def spturned (C : Addr) : Sp := fun vs H Q E => ∃ (a b : Addr) (ns os : List Int), vs = [.ref a, .ref b] /\ H a = some (.tup (ns.map V.int)) /\ Frz H b os /\ ns.length ≤ 20 /\ os.length ≤ 20 /\ (¬ turnOk ns.length os -> ∀ H', Same H H' -> E (.ref C) none H') /\ (turnOk ns.length os -> ∀ H' p, Same H H' -> H' p = some (.tup ((turnL ns os).map V.int)) -> Q (.ref p) H')
def vwOk (ns ss : List Int) : Prop := sdOk ns /\ ns.length ≤ 6 /\ ns.length ≤ ss.length /\ ss.length ≤ 10
def smI (n : Int) : Prop := -18446744073709551616 < n /\ n < 18446744073709551616
def spvturn (C : Addr) : Sp := fun vs H Q E => ∃ (v b : Addr) (ns ss os : List Int) (st : Int), vs = [.ref v, .ref b] /\ VwAt H v ns st ss /\ vwOk ns ss /\ Frz H b os /\ os.length ≤ 20 /\ (¬ turnOk ns.length os -> ∀ H', Same H H' -> E (.ref C) none H') /\ (turnOk ns.length os -> ∀ H' p, Same H H' -> VwAt H' p (turnL ns os) st (turnL ss os ++ ss.drop ns.length) -> Q (.ref p) H')
def spvflip (C : Addr) : Sp := fun vs H Q E => ∃ (v : Addr) (ns ss : List Int) (st side : Int), vs = [.ref v, .int side] /\ VwAt H v ns st ss /\ vwOk ns ss /\ (off ns side -> E (.ref C) none H) /\ (¬ off ns side -> ∀ H' p, Same H H' -> VwAt H' p ns (st + (ns.getD side.toNat 0 - 1) * ss.getD side.toNat 0) (ss.set side.toNat (-ss.getD side.toNat 0)) -> Q (.ref p) H')
def spvcut (C D : Addr) : Sp := fun vs H Q E => ∃ (v : Addr) (ns ss : List Int) (st side first many step : Int), vs = [.ref v, .int side, .int first, .int many, .int step] /\ VwAt H v ns st ss /\ vwOk ns ss /\ smI first /\ smI step /\ -100 < many /\ many < 1000000 /\ (off ns side -> E (.ref C) none H) /\ (¬ off ns side -> bad ns side first many step -> E (.ref D) none H) /\ (¬ off ns side -> ¬ bad ns side first many step -> ∀ H' p, Same H H' -> VwAt H' p (ns.set side.toNat many) (st + first * ss.getD side.toNat 0) (ss.set side.toNat (ss.getD side.toNat 0 * step)) -> Q (.ref p) H')
def spvspread (C1 C2 C3 : Addr) : Sp := fun vs H Q E => ∃ (v : Addr) (ns ss : List Int) (st side many : Int), vs = [.ref v, .int side, .int many] /\ VwAt H v ns st ss /\ vwOk ns ss /\ many < 1000000 /\ (off1 ns side -> E (.ref C1) none H) /\ (¬ off1 ns side -> many < 0 -> E (.ref C2) none H) /\ (¬ off1 ns side -> ¬ many < 0 -> bigI (insL ns side.toNat many) -> ∀ H', Same H H' -> E (.ref C3) none H') /\ (¬ off1 ns side -> ¬ many < 0 -> ¬ bigI (insL ns side.toNat many) -> ∀ H' p, Same H H' -> VwAt H' p (insL ns side.toNat many) st (insL ss side.toNat 0) -> Q (.ref p) H')
def spvled (C : Addr) : Sp := fun vs H Q E => ∃ (v b : Addr) (ns ss ms : List Int) (st : Int), vs = [.ref v, .ref b] /\ VwAt H v ns st ss /\ vwOk ns ss /\ H b = some (.tup (ms.map V.int)) /\ ms.length ≤ 10 /\ (¬ ms.take ns.length = ns -> ∀ H', Same H H' -> E (.ref C) none H') /\ (ms.take ns.length = ns -> ∀ H' p, Same H H' -> VwAt H' p ms st (ss.take ns.length ++ rep0 (ms.length - ns.length) ++ ss.drop ns.length) -> Q (.ref p) H')
theorem z3m {ss : List Int} {k : Nat} (h : k < ss.length) : atI (ss.map V.int) (k : Int) = some (.int (ss.getD k 0)) := at_int (Int.natCast_nonneg k) (by rw [Int.toNat_natCast]; exact z1o h)
theorem z6i {ns : List Int} {k : Nat} (h : k < ns.length) : ns.getD k 0 ∈ ns := by rw [List.getD_eq_getElem?_getD, List.getElem?_eq_getElem h]; exact List.getElem_mem h
theorem z2m {ns : List Int} {side : Int} (h : ¬ off ns side) : ∃ k : Nat, side = k /\ k < ns.length := by
  unfold off at h
  exact ⟨side.toNat, by omega, by omega⟩
def roomI (ns : List Int) : Int := 512 / prodI (ns.map one1)
def smN (n : Int) : Prop := 0 ≤ n /\ n < 2305843009213693952
theorem z4k {n r : Int} (h : 0 < r) : 0 ≤ n.fmod r /\ n.fmod r < r := by
  rw [Int.fmod_eq_emod_of_nonneg _ (by omega)]
  exact ⟨Int.emod_nonneg _ (by omega), Int.emod_lt_of_pos _ h⟩
theorem most_in {sz f g : Int} (z0 : 0 ≤ sz) (z1 : sz ≤ 512) (f0 : 0 ≤ f) (f1 : f ≤ 512) (g0 : 1 ≤ g) (g1 : g ≤ 4) : 0 ≤ (if (sz - 1 - f).fdiv g + 1 > 0 then (sz - 1 - f).fdiv g + 1 else 0) /\ (if (sz - 1 - f).fdiv g + 1 > 0 then (sz - 1 - f).fdiv g + 1 else 0) ≤ 513 := by
  rw [Int.fdiv_eq_ediv_of_nonneg _ (by omega)]
  rcases (show g = 1 \/ g = 2 \/ g = 3 \/ g = 4 by omega) with rfl | rfl | rfl | rfl <;> (split <;> omega)
theorem z3y {H H' : Hp} (s : Same H H') {l : Addr} {o : HO} (h : H l = none) : Same H (upd H' l o) := fun a x e => by
  have ne : a ≠ l := fun z => by rw [z, h] at e; cases e
  rw [z0x ne]; exact s _ _ e
theorem z3p {H H' : Hp} (s : Same H H') {l : Addr} (h : H' l = none) : H l = none := by
  cases e : H l with
  | none => rfl
  | some o => rw [s _ _ e] at h; cases h
theorem z4p {n : Int} (h : 0 ≤ n) : 1 ≤ one1 n := by unfold one1; split <;> omega
theorem one1_max {n : Int} (h : 0 ≤ n) : (if n > 1 then n else 1) = one1 n := by unfold one1; split <;> split <;> omega
theorem z2z {ns : List Int} (h : ∀ n ∈ ns, 0 ≤ n) : 1 ≤ prodI (ns.map one1) := by
  induction ns with
  | nil => decide
  | cons n ns ih =>
    rw [List.map_cons, z0v]
    have a := z4p (h n List.mem_cons_self)
    have b := ih fun m hm => h m (List.mem_cons_of_mem _ hm)
    exact Int.le_trans (by decide) (Int.mul_le_mul a b (by decide) (by omega))
theorem room_snoc {ns : List Int} {n : Int} (h : ∀ m ∈ ns, 0 ≤ m) : roomI (ns ++ [n]) = roomI ns / one1 n := by
  unfold roomI
  rw [List.map_append]
  show 512 / prodI (ns.map one1 ++ [one1 n]) = _
  rw [z3z, Int.mul_comm, div_div (by have := z2z h; omega)]
theorem z7o {ns : List Int} (h : ∀ m ∈ ns, 0 ≤ m) : 0 ≤ roomI ns /\ roomI ns ≤ 512 := by
  unfold roomI
  have := z2z h
  exact ⟨Int.ediv_nonneg (by decide) (by omega), Int.ediv_le_self _ (by decide)⟩
inductive Dg where
  | turn (os : List Int)
  | flip (side : Int)
  | cut (side f m g : Int)
  | spread (side m : Int)
  | lead (ms : List Int)
  | inner (side : Int)
def DgAt (H : Hp) (p : Addr) : Dg -> Prop
  | .turn os => ∃ b, H p = some (.tup [.str (Str.ofString "turn"), .ref b]) /\ Frz H b os /\ os.length ≤ 7
  | .flip side => H p = some (.tup [.str (Str.ofString "flip"), .int side])
  | .cut side f m g => H p = some (.tup [.str (Str.ofString "cut"), .int side, .int f, .int m, .int g]) /\ smI f /\ smI g /\ -100 < m /\ m < 100000
  | .spread side m => H p = some (.tup [.str (Str.ofString "spread"), .int side, .int m]) /\ -100 < m /\ m < 1000000
  | .lead ms => ∃ b, H p = some (.tup [.str (Str.ofString "lead"), .ref b]) /\ H b = some (.tup (ms.map V.int)) /\ ms.length ≤ 10
  | .inner side => H p = some (.tup [.str (Str.ofString "inner"), .int side])
theorem DgAt.same {H H' : Hp} {p : Addr} (s : Same H H') : ∀ {d : Dg}, DgAt H p d -> DgAt H' p d
  | .turn _, ⟨b, h1, h2, h3⟩ => ⟨b, s _ _ h1, h2.same s, h3⟩
  | .flip _, h => s _ _ h
  | .cut .., ⟨h, r⟩ => ⟨s _ _ h, r⟩
  | .spread .., ⟨h, r⟩ => ⟨s _ _ h, r⟩
  | .lead _, ⟨b, h1, h2, h3⟩ => ⟨b, s _ _ h1, s _ _ h2, h3⟩
  | .inner _, h => s _ _ h
theorem div_one {r d : Int} (h1 : 1 ≤ d) (h2 : d ≤ r) : 1 ≤ r / d := by
  have := Int.ediv_le_ediv (a := d) (b := r) (c := d) (by omega) h2
  rw [Int.ediv_self (by omega)] at this
  exact this
theorem at_last {ns : List Int} (h : 0 < ns.length) : ∃ z, atI (ns.map V.int) (-1) = some (.int z) := by
  unfold atI ixN
  rw [if_neg (by decide), if_pos (by rw [z0l]; omega), z0l]
  have e : (-1 + (ns.length : Int)).toNat = ns.length - 1 := by omega
  refine ⟨ns[ns.length - 1], ?_⟩
  rw [e]
  show (ns.map V.int)[ns.length - 1]? = _
  rw [List.getElem?_map, List.getElem?_eq_getElem (by omega)]; rfl
theorem cut_some (ns : List Int) (lo hi : Option Int) : ∃ ms : List Int, cutV (ns.map V.int) lo hi = ms.map V.int /\ ms.length ≤ ns.length := by
  unfold cutV
  refine ⟨(ns.drop _).take _, by rw [← List.map_drop, ← List.map_take], ?_⟩
  rw [List.length_take, List.length_drop]; omega
noncomputable def fltD (ns : List Int) : Dg -> Option Str
  | .turn os => open Classical in if turnOk ns.length os then none else some "side"
  | .flip side => open Classical in if off ns side then some "side" else none
  | .cut side f m g => open Classical in if off ns side then some "side" else if bad ns side f m g then some "beyond" else none
  | .spread side m => open Classical in if off1 ns side then some "side" else if m < 0 then some "beyond" else if bigI (insL ns side.toNat m) then some "large" else none
  | .lead ms => if ms.take ns.length = ns then none else some "unlike"
  | .inner side => open Classical in if off ns side then some "side" else none
def sdsD (ns : List Int) : Dg -> List Int
  | .turn os => turnL ns os
  | .flip _ => ns
  | .cut side _ m _ => ns.set side.toNat m
  | .spread side m => insL ns side.toNat m
  | .lead ms => ms
  | .inner side => ns.eraseIdx side.toNat
def staD (ns ss : List Int) (st : Int) : Dg -> Int
  | .flip side => st + (ns.getD side.toNat 0 - 1) * ss.getD side.toNat 0
  | .cut side f _ _ => st + f * ss.getD side.toNat 0
  | _ => st
def stsD (ns ss : List Int) : Dg -> List Int
  | .turn os => turnL ss os ++ ss.drop ns.length
  | .flip side => ss.set side.toNat (-ss.getD side.toNat 0)
  | .cut side _ _ g => ss.set side.toNat (ss.getD side.toNat 0 * g)
  | .spread side _ => insL ss side.toNat 0
  | .lead ms => ss.take ns.length ++ rep0 (ms.length - ns.length) ++ ss.drop ns.length
  | .inner side => insL (ss.eraseIdx side.toNat) (ns.length - 1) (ss.getD side.toNat 0)
theorem flt_words {ns : List Int} {d : Dg} {w : Str} (h : fltD ns d = some w) : w = "side" \/ w = "beyond" \/ w = "large" \/ w = "unlike" := by
  cases d with
  | turn os =>
    have h : (open Classical in if turnOk ns.length os then (none : Option Str) else some "side") = some w := h
    split at h <;> cases h
    exact .inl rfl
  | flip side =>
    have h : (open Classical in if off ns side then some (Str.ofString "side") else none) = some w := h
    split at h <;> cases h
    exact .inl rfl
  | inner side =>
    have h : (open Classical in if off ns side then some (Str.ofString "side") else none) = some w := h
    split at h <;> cases h
    exact .inl rfl
  | lead ms =>
    have h : (if ms.take ns.length = ns then (none : Option Str) else some "unlike") = some w := h
    split at h <;> cases h
    exact .inr (.inr (.inr rfl))
  | cut side f m g =>
    have h : (open Classical in if off ns side then some (Str.ofString "side") else if bad ns side f m g then some (Str.ofString "beyond") else none) = some w := h
    split at h
    · cases h; exact .inl rfl
    · split at h <;> cases h
      exact .inr (.inl rfl)
  | spread side m =>
    have h : (open Classical in if off1 ns side then some (Str.ofString "side") else if m < 0 then some (Str.ofString "beyond") else if bigI (insL ns side.toNat m) then some (Str.ofString "large") else none) = some w := h
    split at h
    · cases h; exact .inl rfl
    · split at h
      · cases h; exact .inr (.inl rfl)
      · split at h <;> cases h
        exact .inr (.inr (.inl rfl))
def behR (H' : Hp) (r : Addr) (ns : List Int) (d : Dg) : Prop := ∃ b w, H' r = some (.tup [.ref b, .str w]) /\ (fltD ns d = some w \/ (fltD ns d = none /\ w = "" /\ H' b = some (.tup ((sdsD ns d).map V.int))))
def spbehind : Sp := fun vs H Q _ => ∃ (a p : Addr) (ns : List Int) (d : Dg), vs = [.ref a, .ref p] /\ H a = some (.tup (ns.map V.int)) /\ sdOk ns /\ ¬ bigI ns /\ DgAt H p d /\ ∀ H' r, Same H H' -> behR H' r ns d -> Q (.ref r) H'
theorem big_ins {ns : List Int} {k : Nat} {m : Int} (l6 : ns.length ≤ 6) (sd : sdOk ns) (nb : ¬ bigI ns) (m0 : 0 ≤ m) : bigI (insL ns k m) ↔ ns.length = 6 \/ roomI ns < m := by
  have pp := z2z fun n hn => (sd n hn).1
  have e : prodI ((insL ns k m).map one1) = one1 m * prodI (ns.map one1) := by
    unfold insL
    rw [List.map_append, List.map_append, List.map_take, List.map_drop, List.append_assoc]
    show prodI ((ns.map one1).take k ++ one1 m :: (ns.map one1).drop k) = _
    generalize ns.map one1 = l
    induction l generalizing k with
    | nil => rw [List.take_nil, List.drop_nil, List.nil_append, z0v]
    | cons y l ih =>
      cases k with
      | zero => rw [List.take_zero, List.drop_zero, List.nil_append, z0v]
      | succ k => rw [List.take_succ_cons, List.drop_succ_cons, List.cons_append, z0v, ih, z0v, Int.mul_left_comm]
  have le : (insL ns k m).length = ns.length + 1 := z3l ns k m
  unfold bigI roomI at *
  rw [le, e]
  generalize prodI (ns.map one1) = P at *
  rw [Int.ediv_lt_iff_lt_mul (by omega)]
  by_cases z : m = 0
  · subst z
    show 6 < ns.length + 1 \/ 512 < 1 * P ↔ ns.length = 6 \/ 512 < 0 * P
    omega
  · have e1 : one1 m = m := by unfold one1; rw [if_neg z]
    rw [e1]
    omega
theorem z3g {H G : Hp} {Q : VK} {a : Addr} {ns : List Int} {d : Dg} {w : Str} (q : ∀ H' r, Same H H' -> behR H' r ns d -> Q (.ref r) H') (s : Same H G) (h : fltD ns d = some w) : ∀ r, G r = none -> Q (.ref r) (upd G r (.tup [.ref a, .str w])) := fun r hr => q _ r (s.trans (z0e hr _)) ⟨a, w, z0k, .inl h⟩
theorem z6z {H G : Hp} {Q : VK} {b : Addr} {ns : List Int} {d : Dg} (q : ∀ H' r, Same H H' -> behR H' r ns d -> Q (.ref r) H') (s : Same H G) (h : fltD ns d = none) (hb : G b = some (.tup ((sdsD ns d).map V.int))) : ∀ r, G r = none -> Q (.ref r) (upd G r (.tup [.ref b, .str (Str.ofString "")])) := fun r hr => q _ r (s.trans (z0e hr _)) ⟨b, _, z0k, .inr ⟨h, rfl, z0e hr _ _ _ hb⟩⟩
theorem z4r {ns os : List Int} (h : fltD ns (.turn os) = none) : turnOk ns.length os := by
  have h : (open Classical in if turnOk ns.length os then (none : Option Str) else some "side") = none := h
  split at h
  · assumption
  · cases h
theorem z4c {ns ms : List Int} (h : fltD ns (.lead ms) = none) : ms.take ns.length = ns := by
  have h : (if ms.take ns.length = ns then (none : Option Str) else some "unlike") = none := h
  split at h
  · assumption
  · cases h
theorem flt_flip {ns : List Int} {side : Int} (h : fltD ns (.flip side) = none) : ¬ off ns side := by
  have h : (open Classical in if off ns side then some (Str.ofString "side") else none) = none := h
  split at h
  · cases h
  · assumption
theorem flt_inner {ns : List Int} {side : Int} (h : fltD ns (.inner side) = none) : ¬ off ns side := by
  have h : (open Classical in if off ns side then some (Str.ofString "side") else none) = none := h
  split at h
  · cases h
  · assumption
theorem flt_cut {ns : List Int} {side f m g : Int} (h : fltD ns (.cut side f m g) = none) : ¬ off ns side /\ ¬ bad ns side f m g := by
  have h : (open Classical in if off ns side then some (Str.ofString "side") else if bad ns side f m g then some (Str.ofString "beyond") else none) = none := h
  split at h
  · cases h
  · split at h
    · cases h
    · exact ⟨by assumption, by assumption⟩
theorem z4b {ns : List Int} {side m : Int} (h : fltD ns (.spread side m) = none) : ¬ off1 ns side /\ ¬ m < 0 /\ ¬ bigI (insL ns side.toNat m) := by
  have h : (open Classical in if off1 ns side then some (Str.ofString "side") else if m < 0 then some (Str.ofString "beyond") else if bigI (insL ns side.toNat m) then some (Str.ofString "large") else none) = none := h
  split at h
  · cases h
  · split at h
    · cases h
    · split at h
      · cases h
      · exact ⟨by assumption, by assumption, by assumption⟩
theorem fit_room {ns : List Int} (h : fit ns) : 1 ≤ roomI ns := div_one h.2.2.1 h.2.2.2
theorem z2y {ns : List Int} (h : fit ns) : sdOk ns := fun n hn => by have := h.1 n hn; exact ⟨this.1, by omega⟩
theorem z5r {ns : List Int} (h : fit ns) : ¬ bigI ns := fun b => b.elim (fun z => by have := h.2.1; omega) (fun z => by have := h.2.2.2; omega)
theorem flt_ne {ns : List Int} {d : Dg} {w : Str} (h : fltD ns d = some w) : ¬ w = Str.ofString "" := by
  rcases flt_words h with rfl | rfl | rfl | rfl <;> decide +kernel
def atD (ns : List Int) (p : Int) : List Int := (dgL ns p ns.length).reverse
theorem z6m (ns : List Int) (p : Int) : (atD ns p).length = ns.length := by simp [atD, dgL]
theorem lf_snoc (ns : List Int) (n p : Int) : ∀ i, lfI (ns ++ [n]) p (i + 1) = lfI ns (p / n) i
  | 0 => by
    show p / (ns ++ [n]).reverse.getD 0 1 = p / n
    rw [List.reverse_append]; rfl
  | i + 1 => by
    show lfI (ns ++ [n]) p (i + 1) / (ns ++ [n]).reverse.getD (i + 1) 1 = lfI ns (p / n) i / ns.reverse.getD i 1
    rw [lf_snoc ns n p i, List.reverse_append]; rfl
theorem dg_snoc (ns : List Int) (n p : Int) (i : Nat) : dgI (ns ++ [n]) p (i + 1) = dgI ns (p / n) i := by
  unfold dgI
  rw [lf_snoc, List.reverse_append]; rfl
theorem dg_snoc0 (ns : List Int) (n p : Int) : dgI (ns ++ [n]) p 0 = p % n := by
  show p % (ns ++ [n]).reverse.getD 0 1 = p % n
  rw [List.reverse_append]; rfl
theorem atD_snoc (ns : List Int) (n p : Int) : atD (ns ++ [n]) p = atD ns (p / n) ++ [p % n] := by
  unfold atD dgL
  rw [List.length_append, List.length_singleton, List.range_succ_eq_map, List.map_cons, List.reverse_cons, dg_snoc0, List.map_map]
  congr 2
  exact List.map_congr_left fun i _ => dg_snoc ns n p i
theorem emod_div {p B n : Int} (hn : 0 < n) : p % (B * n) / n = p / n % B := by
  have e : p % (B * n) = p + n * (-(B * (p / (B * n)))) := by
    rw [Int.emod_def, Int.sub_eq_add_neg, Int.mul_neg]
    congr 2
    rw [← Int.mul_assoc, Int.mul_comm n B]
  rw [e, Int.add_mul_ediv_left _ _ (by omega), Int.emod_def (p / n) B, ← div_div hn, Int.sub_eq_add_neg]
theorem prod_two (a : List Int) : ∀ b : List Int, prodI (a ++ b) = prodI a * prodI b := by
  induction a with
  | nil => intro b; show prodI b = 1 * prodI b; rw [Int.one_mul]
  | cons x a ih => intro b; rw [List.cons_append, z0v, z0v, ih, Int.mul_assoc]
theorem snoc_ind {α : Type} {P : List α -> Prop} (h0 : P []) (h1 : ∀ l x, P l -> P (l ++ [x])) (l : List α) : P l := by
  have : ∀ l : List α, P l.reverse := fun l => by
    induction l with
    | nil => exact h0
    | cons x l ih => rw [List.reverse_cons]; exact h1 _ _ ih
  rw [← List.reverse_reverse l]; exact this _
theorem atD_app (a : List Int) (b : List Int) : (∀ n ∈ b, 0 < n) -> ∀ p : Int, atD (a ++ b) p = atD a (p / prodI b) ++ atD b (p % prodI b) := by
  refine snoc_ind (P := fun b => (∀ n ∈ b, 0 < n) -> ∀ p : Int, atD (a ++ b) p = atD a (p / prodI b) ++ atD b (p % prodI b)) ?_ ?_ b
  · intro _ p
    show atD (a ++ []) p = atD a (p / 1) ++ []
    rw [List.append_nil, List.append_nil, Int.ediv_one]
  · intro b n ih h p
    have hn : 0 < n := h n (by simp)
    rw [← List.append_assoc, atD_snoc, ih (fun m hm => h m (by simp [hm])), atD_snoc, z3z, div_div hn, emod_div hn, List.append_assoc, Int.emod_emod_of_dvd p ⟨prodI b, Int.mul_comm _ _⟩]
theorem prod_pos {ns : List Int} (h : ∀ n ∈ ns, 0 < n) : 0 < prodI ns := by
  induction ns with
  | nil => decide
  | cons x xs ih => rw [z0v]; exact Int.mul_pos (h x (List.mem_cons_self ..)) (ih fun n hn => h n (List.mem_cons_of_mem _ hn))
def allD (ns : List Int) : List (List Int) := (List.range (prodI ns).toNat).map fun p : Nat => atD ns (p : Int)
theorem all_len (ns : List Int) : (allD ns).length = (prodI ns).toNat := by simp [allD]
theorem all_get {ns : List Int} {i : Nat} (h : i < (prodI ns).toNat) : (allD ns)[i]? = some (atD ns (i : Int)) := by
  unfold allD
  rw [List.getElem?_map, List.getElem?_range h]; rfl
def plH (ns ms : List Int) : Int := dotI ms (stL ns ns.length).reverse
theorem plH_at {ns : List Int} {p : Int} (h : sdOk ns) (h0 : 0 ≤ p) (h1 : p < prodI ns) : plH ns (atD ns p) = p := by
  unfold plH atD
  rw [dot_tot, tot_all h h0 h1]
theorem nz_of {ns : List Int} {p : Int} (h : sdOk ns) (h0 : 0 ≤ p) (h1 : p < prodI ns) : ∀ n ∈ ns, 0 < n := fun n hn => by
  have a := prod_nz (ns := ns) (by omega) n hn
  have b := h n hn
  omega
theorem z2p {ns : List Int} {p : Int} (h : sdOk ns) (h0 : 0 ≤ p) (h1 : p < prodI ns) : good ns (atD ns p) := dg_good (fun n hn => by have := nz_of h h0 h1 n hn; omega) h
theorem stP_cons (n : Int) (ns : List Int) {j : Nat} (h : j ≤ ns.length) : stP (n :: ns) j = stP ns j := by
  unfold stP
  rw [List.reverse_cons, List.take_append_of_le_length (by simpa using h)]
theorem stL_cons (n : Int) (ns : List Int) : (stL (n :: ns) (n :: ns).length).reverse = prodI ns :: (stL ns ns.length).reverse := by
  rw [List.length_cons, z7g, List.reverse_append, stP_cons n ns (Nat.le_refl _), stP_all]
  show prodI ns :: (stL (n :: ns) ns.length).reverse = _
  congr 2
  unfold stL
  exact List.map_congr_left fun j hj => stP_cons n ns (Nat.le_of_lt (List.mem_range.mp hj))
theorem plH_cons (n m : Int) (ns ms : List Int) : plH (n :: ns) (m :: ms) = m * prodI ns + plH ns ms := by
  unfold plH
  rw [stL_cons]
  show (List.zipWith _ (m :: ms) (prodI ns :: _)).sum = _
  rw [List.zipWith_cons_cons, List.sum_cons]; rfl
theorem plH_in : ∀ {ns ms : List Int}, good ns ms -> 0 ≤ plH ns ms /\ plH ns ms < prodI ns
  | [], [], _ => by decide
  | [], _ :: _, h => by have := h.1; simp at this
  | _ :: _, [], h => by have := h.1; simp at this
  | n :: ns, m :: ms, h => by
    have g : good ns ms := ⟨by have := h.1; simpa using this, fun i a b e1 e2 => h.2 (i + 1) a b (by simpa using e1) (by simpa using e2)⟩
    have ih := plH_in g
    have m0 := h.2 0 m n rfl rfl
    rw [plH_cons, z0v]
    have e : n * prodI ns = m * prodI ns + (n - m) * prodI ns := by rw [← Int.add_mul]; congr 1; omega
    have e2 : prodI ns ≤ (n - m) * prodI ns := by
      have : 1 * prodI ns ≤ (n - m) * prodI ns := Int.mul_le_mul_of_nonneg_right (by omega) (by omega)
      omega
    have e3 : 0 ≤ m * prodI ns := Int.mul_nonneg m0.1 (by omega)
    omega
theorem z4q {n m : Int} {ns ms : List Int} (h : good ns ms) (h0 : 0 ≤ m) (h1 : m < n) : good (n :: ns) (m :: ms) := ⟨by simp [h.1], fun i a b e1 e2 => by
  cases i with
  | zero => cases (Option.some.inj e1); cases (Option.some.inj e2); exact ⟨h0, h1⟩
  | succ i => exact h.2 i a b (by simpa using e1) (by simpa using e2)⟩
def RwI (H : Hp) (a : Addr) (ns : List Int) : Prop := H a = some (.lst (ns.map V.int)) \/ H a = some (.tup (ns.map V.int))
theorem RwI.same {H H' : Hp} {a : Addr} {ns : List Int} (h : RwI H a ns) (s : Same H H') : RwI H' a ns := h.imp (s _ _) (s _ _)
def TbAt (H : Hp) (t : Addr) (ns cs : List Int) : Prop := ∃ a c, H t = some (.tup [.ref a, .ref c]) /\ H a = some (.tup (ns.map V.int)) /\ H c = some (.tup (cs.map V.int))
theorem TbAt.same {H H' : Hp} {t : Addr} {ns cs : List Int} (h : TbAt H t ns cs) (s : Same H H') : TbAt H' t ns cs := let ⟨a, c, h1, h2, h3⟩ := h; ⟨a, c, s _ _ h1, s _ _ h2, s _ _ h3⟩
def TpsAt (H : Hp) (ps : List Addr) (L : List (List Int)) : Prop := ps.length = L.length /\ ∀ (i : Nat) t, L[i]? = some t -> ∃ p, ps[i]? = some p /\ H p = some (.tup (t.map V.int))
theorem TpsAt.mono {H H' : Hp} {ps : List Addr} {L : List (List Int)} (h : TpsAt H ps L) (s : ∀ a xs, H a = some (.tup xs) -> H' a = some (.tup xs)) : TpsAt H' ps L := ⟨h.1, fun i t e => let ⟨p, e1, g⟩ := h.2 i t e; ⟨p, e1, s _ _ g⟩⟩
theorem TpsAt.snoc {H : Hp} {ps : List Addr} {L : List (List Int)} {t : List Int} {q : Addr} (h : TpsAt H ps L) (g : H q = some (.tup (t.map V.int))) : TpsAt H (ps ++ [q]) (L ++ [t]) := by
  refine ⟨by simp [h.1], fun i u e => ?_⟩
  rcases Nat.lt_trichotomy i L.length with hi | hi | hi
  · rw [List.getElem?_append_left hi] at e
    obtain ⟨p, e1, l⟩ := h.2 i u e
    exact ⟨p, by rw [List.getElem?_append_left (by rw [h.1]; exact hi)]; exact e1, l⟩
  · subst hi
    rw [List.getElem?_append_right (Nat.le_refl _), Nat.sub_self] at e
    cases (Option.some.inj e)
    exact ⟨q, by rw [List.getElem?_append_right (by rw [h.1]; exact Nat.le_refl _), h.1, Nat.sub_self]; rfl, g⟩
  · rw [List.getElem?_eq_none (by simp; omega)] at e; cases e
def SameP (T : Addr) (H H' : Hp) : Prop := ∀ a o, a ≠ T -> H a = some o -> H' a = some o
def sptableby (P : Program) (w : World) (K : PySem.W.Frag) (mg : Str -> Option Value) (base : Heap) : Sp := fun vs H Q _ => ∃ (sa fa : Addr) (ns : List Int) (fn : Nat -> Int), vs = [.ref sa, .ref fa] /\ H sa = some (.tup (ns.map V.int)) /\ sdOk ns /\ ns.length ≤ 63 /\ prodI ns ≤ 512 /\ FnV H fa /\ (∀ (i : Nat) H1 p Q', (i : Int) < prodI ns -> Same H H1 -> H1 p = some (.tup ((atD ns (i : Int)).map V.int)) -> (∀ H2, Same H1 H2 -> Q' (.int (fn i)) H2) -> CallV P w K mg base 6 fa [.ref p] H1 Q') /\ ∀ H' p q, Same H H' -> H' q = some (.tup (((List.range (prodI ns).toNat).map fn).map V.int)) -> H' p = some (.tup [.ref sa, .ref q]) -> Q (.ref p) H'
theorem z1r : ∀ {ns : List Int}, (∀ n ∈ ns, 0 ≤ n) -> 0 ≤ prodI ns /\ prodI ns ≤ prodI (ns.map one1)
  | [], _ => by decide
  | n :: ns, h => by
    obtain ⟨i0, i1⟩ := z1r (ns := ns) fun m hm => h m (List.mem_cons_of_mem _ hm)
    have n0 := h n List.mem_cons_self
    rw [List.map_cons, z0v, z0v]
    have o : n ≤ one1 n /\ 0 ≤ one1 n := by unfold one1; split <;> omega
    exact ⟨Int.mul_nonneg n0 i0, Int.mul_le_mul o.1 i1 i0 o.2⟩
theorem z3x {H H' : Hp} {cl : List (Str × Addr)} (s : Same (minC H cl) H') : Same H (resC H H' cl) := fun b o e => by
  by_cases h : ∃ q ∈ cl, q.2 = b
  · obtain ⟨q, hq, rfl⟩ := h
    rw [z6b hq]; exact e
  · have h' : ∀ q ∈ cl, q.2 ≠ b := fun q hq z => h ⟨q, hq, z⟩
    rw [z3h h']
    exact s _ _ (by rw [z2e h']; exact e)
theorem z1g {H : Hp} {cl : List (Str × Addr)} {vcs : List V} {a : Addr} {xs : List V} (hc : CelAt H cl vcs) (h : H a = some (.tup xs)) : minC H cl a = some (.tup xs) := by
  rw [z2e fun q hq z => by obtain ⟨o, v, e⟩ := hc.mem hq; rw [z, h] at e; cases e]; exact h
theorem fc {α : Type} {p : α -> Prop} {a : α} {l : List α} (h : p a) (t : ∀ n ∈ l, p n) : ∀ n ∈ a :: l, p n := fun n hn => by
  cases hn with
  | head => exact h
  | tail _ g => exact t n g
theorem fc0 {α : Type} {p : α -> Prop} : ∀ n ∈ ([] : List α), p n := fun _ h => nomatch h
theorem z4j {H2 H3 : Hp} {cl : List (Str × Addr)} (fr : ∀ q ∈ cl, H2 q.2 = none) (eq : ∀ b, (∀ q ∈ cl, ¬ q.2 = b) -> H3 b = H2 b) : Same H2 H3 := fun b o e => by
  rw [eq b fun q hq z => by rw [← z, fr q hq] at e; cases e]; exact e
theorem z3c {H2 H3 H4 : Hp} {cl : List (Str × Addr)} (fr : ∀ q ∈ cl, H2 q.2 = none) (eq : ∀ b, (∀ q ∈ cl, ¬ q.2 = b) -> H3 b = H2 b) (s : Same H3 H4) : Same H2 (minC H4 cl) := fun b o e => by
  rw [z2e fun q hq z => by rw [← z, fr q hq] at e; cases e]
  exact s _ _ (z4j fr eq _ _ e)
theorem z6w {H : Hp} {T a : Addr} {pos : Pos} {qual : Str} {xs : List V} (h : TabOk H T pos qual) (e : H a = some (.tup xs)) : ¬ a = T := fun z => by
  obtain ⟨ps, h1, _⟩ := h
  rw [z, h1] at e; cases e
theorem min_tb {H : Hp} {cl : List (Str × Addr)} {vcs : List V} {t : Addr} {ns cs : List Int} (hc : CelAt H cl vcs) (h : TbAt H t ns cs) : TbAt (minC H cl) t ns cs := let ⟨a, c, h1, h2, h3⟩ := h; ⟨a, c, z1g hc h1, z1g hc h2, z1g hc h3⟩
theorem tb_up {H H' : Hp} {t T : Addr} {ns cs : List Int} (h : TbAt H t ns cs) (up : ∀ a xs, H a = some (.tup xs) -> H' a = some (.tup xs)) : TbAt H' t ns cs := let ⟨a, c, h1, h2, h3⟩ := h; ⟨a, c, up _ _ h1, up _ _ h2, up _ _ h3⟩
def SmT (H H' : Hp) : Prop := ∀ a o, (∀ ps, o ≠ .tbl ps) -> H a = some o -> H' a = some o
theorem SmT.refl (H : Hp) : SmT H H := fun _ _ _ e => e
theorem SmT.trans {H H1 H2 : Hp} (h : SmT H H1) (g : SmT H1 H2) : SmT H H2 := fun a o n e => g a o n (h a o n e)
theorem SmT.of {H H' : Hp} (h : Same H H') : SmT H H' := fun a o _ e => h a o e
theorem SmT.tup {H H' : Hp} (h : SmT H H') {a : Addr} {xs : List V} (e : H a = some (.tup xs)) : H' a = some (.tup xs) := h a _ (fun _ z => by cases z) e
theorem SmT.lst {H H' : Hp} (h : SmT H H') {a : Addr} {xs : List V} (e : H a = some (.lst xs)) : H' a = some (.lst xs) := h a _ (fun _ z => by cases z) e
theorem SmT.seq {K : PySem.W.Frag} {H H' : Hp} {a : Addr} {xs : List V} (e : SmT H H') (h : SqL K H a xs) : SqL K H' a xs := by
  rcases h with (h | ⟨o, h⟩) | h
  · exact .inl (.inl (e.lst h))
  · exact .inl (.inr ⟨o, e _ _ (fun _ z => by cases z) h⟩)
  · exact .inr h
theorem SmT.tb {H H' : Hp} (h : SmT H H') {t : Addr} {ns cs : List Int} (e : TbAt H t ns cs) : TbAt H' t ns cs := let ⟨a, c, h1, h2, h3⟩ := e; ⟨a, c, h.tup h1, h.tup h2, h.tup h3⟩
theorem SmT.ofP {H H' : Hp} {T : Addr} {pos : Pos} {qual : Str} (t : TabOk H T pos qual) (h : SameP T H H') : SmT H H' := fun a o n e => h a o (fun z => by
  obtain ⟨ps, h1, _⟩ := t
  rw [z, h1] at e
  exact n ps (Option.some.inj e).symm) e
theorem TabOk.other {H H' : Hp} {T T2 : Addr} {pos pos2 : Pos} {qual qual2 : Str} (ne : T2 ≠ T) (t : TabOk H T pos qual) (t2 : TabOk H T2 pos2 qual2) (h : SameP T H H') : TabOk H' T2 pos2 qual2 := by
  obtain ⟨ps, h1, h2, h3⟩ := t2
  refine ⟨ps, h _ _ ne h1, h2, h3.imp id fun ⟨c', e, g⟩ => ⟨c', e, (SmT.ofP t h) _ _ (fun _ z => by cases z) g⟩⟩
theorem take_le {ns : List Int} (h : ∀ n ∈ ns, 0 ≤ n) (i : Nat) : prodI (ns.take i) ≤ prodI (ns.map one1) := by
  have a := z1r (ns := ns.take i) fun n hn => h n (List.mem_of_mem_take hn)
  have e : ns.map one1 = (ns.take i).map one1 ++ (ns.drop i).map one1 := by rw [← List.map_append, List.take_append_drop]
  have b : 1 ≤ prodI ((ns.drop i).map one1) := by
    have := prod_pos (ns := (ns.drop i).map one1) fun n hn => by
      obtain ⟨m, hm, rfl⟩ := List.mem_map.mp hn
      have := h m (List.mem_of_mem_drop hm)
      unfold one1; split <;> omega
    omega
  rw [e, prod_two]
  have := Int.mul_le_mul_of_nonneg_left b (show 0 ≤ prodI ((ns.take i).map one1) by omega)
  omega
theorem z5c {ns ms : List Int} (k : Nat) (g : good ns ms) : good (ns.eraseIdx k) (ms.eraseIdx k) := by
  obtain ⟨l, g⟩ := g
  refine ⟨by rw [List.length_eraseIdx, List.length_eraseIdx, l], fun i m n em en => ?_⟩
  rw [List.getElem?_eraseIdx] at em en
  split at em
  · rename_i c; rw [if_pos c] at en; exact g i m n em en
  · rename_i c; rw [if_neg c] at en; exact g (i + 1) m n em en
theorem z5q {ns ms at_ : List Int} {k : Nat} {y w : Int} (g : good ns at_) (l : ms.length = ns.length) (e : ∀ j, j ≠ k -> ms[j]? = ns[j]?) (hw : ms[k]? = some w) (h0 : 0 ≤ y) (h1 : y < w) : good ms (at_.set k y) := by
  refine ⟨by rw [List.length_set, l]; exact g.1, fun i m n em en => ?_⟩
  by_cases c : i = k
  · subst c
    have il := (List.getElem?_eq_some_iff.mp em).1
    rw [List.length_set] at il
    rw [List.getElem?_set_self il] at em
    rw [hw] at en
    cases em; cases en; exact ⟨h0, h1⟩
  · rw [List.getElem?_set_ne (fun z => c z.symm)] at em
    rw [e i c] at en
    exact g.2 i m n em en
theorem list_of {cs : List Int} {n : Nat} (h : cs.length = n) : (List.range n).map (fun i => cs.getD i 0) = cs := by
  subst h
  apply List.ext_getElem?
  intro k
  by_cases c : k < cs.length
  · rw [List.getElem?_map, List.getElem?_range c]
    exact (z1o c).symm
  · rw [List.getElem?_eq_none (by simp; omega), List.getElem?_eq_none (by omega)]
theorem ins_get {A : List Int} {k : Nat} {y : Int} (hk : k ≤ A.length) (i : Nat) : (insL A k y)[i]? = if i < k then A[i]? else if i = k then some y else A[i - 1]? := by
  unfold insL
  have tl : (A.take k).length = k := by rw [List.length_take]; omega
  split
  · rename_i h
    rw [List.append_assoc, List.getElem?_append_left (by omega), List.getElem?_take, if_pos h]
  · rename_i h
    rw [List.append_assoc, List.getElem?_append_right (by omega), tl]
    split
    · rename_i e; subst e; rw [Nat.sub_self]; rfl
    · rename_i e
      obtain ⟨m, hm⟩ : ∃ m, i - k = m + 1 := ⟨i - k - 1, by omega⟩
      rw [hm]
      show (A.drop k)[m]? = _
      rw [List.getElem?_drop]; congr 1; omega
theorem good_ins {ns A : List Int} {k : Nat} {y : Int} (hk : k < ns.length) (g : good (ns.eraseIdx k) A) (h0 : 0 ≤ y) (h1 : y < ns.getD k 0) : good ns (insL A k y) := by
  obtain ⟨l, g⟩ := g
  have el : (ns.eraseIdx k).length = ns.length - 1 := by rw [List.length_eraseIdx, if_pos hk]
  have kl : k ≤ A.length := by omega
  refine ⟨by rw [z3l]; omega, fun i m n em en => ?_⟩
  rw [ins_get kl] at em
  split at em
  · rename_i c
    exact g i m n em (by rw [List.getElem?_eraseIdx, if_pos c]; exact en)
  · split at em
    · rename_i c e; subst e
      cases em
      rw [z1o hk] at en; cases en
      exact ⟨h0, h1⟩
    · rename_i c e
      refine g (i - 1) m n em ?_
      rw [List.getElem?_eraseIdx, if_neg (by omega), show i - 1 + 1 = i by omega]; exact en
theorem z5j : ∀ {ns : List Int} {k : Nat}, (∀ n ∈ ns, 0 ≤ n) -> prodI ((ns.eraseIdx k).map one1) ≤ prodI (ns.map one1)
  | [], _, _ => by simp
  | n :: ns, 0, h => by
    have n0 := h n List.mem_cons_self
    have p := z1r fun m hm => h m (List.mem_cons_of_mem _ hm)
    show prodI (ns.map one1) ≤ _
    rw [List.map_cons, z0v]
    have : 1 * prodI (ns.map one1) ≤ one1 n * prodI (ns.map one1) := Int.mul_le_mul_of_nonneg_right (by unfold one1; split <;> omega) (by omega)
    omega
  | n :: ns, k + 1, h => by
    have n0 := h n List.mem_cons_self
    have ih := z5j (ns := ns) (k := k) (fun m hm => h m (List.mem_cons_of_mem _ hm))
    show prodI ((n :: ns.eraseIdx k).map one1) ≤ _
    rw [List.map_cons, List.map_cons, z0v, z0v]
    exact Int.mul_le_mul_of_nonneg_left ih (by unfold one1; split <;> omega)
theorem prod_perm {a b : List Int} (h : a.Perm b) : prodI a = prodI b := by
  induction h with
  | nil => rfl
  | cons x _ ih => rw [z0v, z0v, ih]
  | swap x y l => rw [z0v, z0v, z0v, z0v, ← Int.mul_assoc, ← Int.mul_assoc, Int.mul_comm x y]
  | trans _ _ h1 h2 => rw [h1, h2]
theorem turn_perm {ns os : List Int} (t : turnOk ns.length os) : (turnL ns os).Perm ns := by
  have e : (upL ns.length).map (fun k : Int => ns.getD k.toNat 0) = ns := by
    unfold upL; rw [List.map_map]; exact list_of rfl
  have := t.map (fun k : Int => ns.getD k.toNat 0)
  rw [e] at this; exact this
theorem atD_plH : ∀ {ns ms : List Int}, sdOk ns -> good ns ms -> atD ns (plH ns ms) = ms
  | [], [], _, _ => rfl
  | [], _ :: _, _, h => by have := h.1; simp at this
  | _ :: _, [], _, h => by have := h.1; simp at this
  | n :: ns, m :: ms, hs, h => by
    have g : good ns ms := ⟨by have := h.1; simpa using this, fun i a b e1 e2 => h.2 (i + 1) a b (by simpa using e1) (by simpa using e2)⟩
    have hs' : sdOk ns := fun x hx => hs x (List.mem_cons_of_mem _ hx)
    have ih := atD_plH hs' g
    have pi := plH_in g
    have m0 := h.2 0 m n rfl rfl
    have np := nz_of hs' pi.1 pi.2
    have e := atD_app [n] ns np (plH (n :: ns) (m :: ms))
    rw [plH_cons] at e ⊢
    have d1 : (m * prodI ns + plH ns ms) / prodI ns = m := by
      rw [Int.add_comm, Int.add_mul_ediv_right _ _ (by omega), Int.ediv_eq_zero_of_lt pi.1 pi.2, Int.zero_add]
    have d2 : (m * prodI ns + plH ns ms) % prodI ns = plH ns ms := by
      rw [Int.add_comm, Int.add_mul_emod_self_right, Int.emod_eq_of_lt pi.1 pi.2]
    rw [d1, d2, ih] at e
    have e1 : atD [n] m = [m] := by
      have z := atD_snoc [] n m
      rw [List.nil_append] at z
      rw [z, Int.emod_eq_of_lt m0.1 m0.2]; rfl
    rw [e1] at e
    exact e
theorem z4w : ∀ {ns : List Int} {k : Nat} {v : Int}, (∀ n ∈ ns, 0 ≤ n) -> 0 ≤ v -> v ≤ ns.getD k 0 -> prodI ((ns.set k v).map one1) ≤ prodI (ns.map one1)
  | [], _, _, _, _, _ => by simp
  | n :: ns, 0, v, h, h0, h1 => by
    have n0 := h n List.mem_cons_self
    have h1 : v ≤ n := h1
    show prodI ((v :: ns).map one1) ≤ _
    rw [List.map_cons, List.map_cons, z0v, z0v]
    have p := z1r fun m hm => h m (List.mem_cons_of_mem _ hm)
    exact Int.mul_le_mul_of_nonneg_right (by unfold one1; split <;> split <;> omega) (by omega)
  | n :: ns, k + 1, v, h, h0, h1 => by
    have n0 := h n List.mem_cons_self
    have ih := z4w (ns := ns) (k := k) (fun m hm => h m (List.mem_cons_of_mem _ hm)) h0 h1
    show prodI ((n :: ns.set k v).map one1) ≤ _
    rw [List.map_cons, List.map_cons, z0v, z0v]
    exact Int.mul_le_mul_of_nonneg_left ih (by unfold one1; split <;> omega)
theorem z5n {n : Nat} {os : List Int} (t : turnOk n os) : os.length = n := by rw [t.length_eq, up_len]
theorem z7f {n : Nat} {os : List Int} (t : turnOk n os) {s : Nat} (h : s < n) : (s : Int) ∈ os := t.mem_iff.mpr (up_mem.mpr (by omega))
def oldT (os A : List Int) : List Int := (List.range os.length).map fun s : Nat => A.getD (os.idxOf (s : Int)) 0
theorem good_old {ns os A : List Int} (t : turnOk ns.length os) (g : good (turnL ns os) A) : good ns (oldT os A) := by
  have ol := z5n t
  have tl : (turnL ns os).length = os.length := List.length_map ..
  refine ⟨by unfold oldT; rw [List.length_map, List.length_range, ol], fun i m n em en => ?_⟩
  have il := (List.getElem?_eq_some_iff.mp en).1
  have xl := List.idxOf_lt_length_iff.mpr (z7f t il)
  unfold oldT at em
  rw [List.getElem?_map, List.getElem?_range (by omega)] at em
  have e2 : (turnL ns os)[os.idxOf (i : Int)]? = some n := by
    unfold turnL
    rw [List.getElem?_map, List.getElem?_eq_getElem xl, List.getElem_idxOf xl]
    show some (ns.getD ((i : Int)).toNat 0) = _
    rw [Int.toNat_natCast, List.getD_eq_getElem?_getD, en]; rfl
  have al := g.1
  exact g.2 (os.idxOf (i : Int)) m n (by rw [z1o (by omega)]; exact em) e2
def movC (ns cs S : List Int) (F : List Int -> List Int) : List Int := (List.range (prodI S).toNat).map fun i : Nat => cs.getD (plH ns (F (atD S (i : Int)))).toNat 0
def flipF (ns : List Int) (k : Nat) (A : List Int) : List Int := A.set k (ns.getD k 0 - 1 - A.getD k 0)
def cutF (k : Nat) (f g : Int) (A : List Int) : List Int := A.set k (f + A.getD k 0 * g)
theorem flip_good {ns A : List Int} {k : Nat} (hk : k < ns.length) (g : good ns A) : good ns (flipF ns k A) := by
  have al := g.1
  have ab := g.2 k _ _ (z1o (by omega)) (z1o hk)
  exact z5q g rfl (fun _ _ => rfl) (z1o hk) (by omega) (by omega)
theorem cut_good {ns A : List Int} {k : Nat} {f m s : Int} (hk : k < ns.length) (nb : ¬ bad ns k f m s) (g : good (ns.set k m) A) : good ns (cutF k f s A) := by
  unfold bad at nb
  simp only [Int.toNat_natCast] at nb
  have al := g.1
  rw [List.length_set] at al
  have ab := g.2 k _ _ (z1o (by omega)) (List.getElem?_set_self hk)
  have z1 : A.getD k 0 * s ≤ (m - 1) * s := Int.mul_le_mul_of_nonneg_right (by omega) (by omega)
  have z2 : 0 ≤ A.getD k 0 * s := Int.mul_nonneg ab.1 (by omega)
  exact z5q g (List.length_set ..).symm (fun j hj => by rw [List.getElem?_set_ne (fun z => hj z.symm)]) (z1o hk) (by omega) (by omega)
theorem cut_most {ns : List Int} {k : Nat} {f m s : Int} (h0 : 0 ≤ ns.getD k 0) (nb : ¬ bad ns k f m s) : 0 ≤ m /\ m ≤ ns.getD k 0 := by
  unfold bad at nb
  simp only [Int.toNat_natCast] at nb
  by_cases c : 0 < m
  · have z1 : (m - 1) * 1 ≤ (m - 1) * s := Int.mul_le_mul_of_nonneg_left (by omega) (by omega)
    omega
  · omega
def dueQ (what : Int) (ns os : List Int) (side f m g : Int) (S : List Int) (F : List Int -> List Int) : Prop := (what = 0 /\ turnOk ns.length os /\ S = turnL ns os /\ F = oldT os) \/ (what = 1 /\ ¬ off ns side /\ S = ns /\ F = flipF ns side.toNat) \/ (what = 2 /\ ¬ off ns side /\ ¬ bad ns side f m g /\ S = ns.set side.toNat m /\ F = cutF side.toNat f g)
theorem due_sd {what : Int} {ns os : List Int} {side f m g : Int} {S : List Int} {F : List Int -> List Int} (hm : sm ns) (h : dueQ what ns os side f m g S F) : sm S /\ S.length = ns.length /\ prodI (S.map one1) ≤ prodI (ns.map one1) := by
  rcases h with ⟨_, t, rfl, rfl⟩ | ⟨_, o, rfl, rfl⟩ | ⟨_, o, b, rfl, rfl⟩
  · have p := turn_perm t
    exact ⟨fun n hn => hm n (p.subset hn), p.length_eq, Int.le_of_eq (prod_perm (p.map one1))⟩
  · exact ⟨hm, rfl, Int.le_refl _⟩
  · obtain ⟨k, rfl, hk⟩ := at_ok o
    have nk := hm _ (getD_mem hk)
    obtain ⟨c0, c1⟩ := cut_most (k := k) nk.1 b
    simp only [Int.toNat_natCast]
    exact ⟨sm_set hm c0 (by omega), List.length_set .., z4w (fun n hn => (hm n hn).1) c0 c1⟩
theorem nat0 (j : Nat) : (0 : Int) ≤ (j : Int) := by omega
theorem to_lt {a : Int} {n : Nat} (h0 : 0 ≤ a) (h : a < (n : Int)) : a.toNat < n := by omega
def spturnT (T C : Addr) : Sp := fun vs H Q E => ∃ (t b : Addr) (ns cs os : List Int), vs = [.ref t, .ref b] /\ TbAt H t ns cs /\ Frz H b os /\ sm ns /\ ns.length ≤ 20 /\ os.length ≤ 20 /\ prodI (ns.map one1) ≤ 512 /\ (cs.length : Int) = prodI ns /\ TabOk H T ⟨156, 27, 156, 90⟩ "turn.<locals>.<lambda>" /\ (¬ turnOk ns.length os -> ∀ H', Same H H' -> E (.ref C) none H') /\ (turnOk ns.length os -> ∀ H' p, SameP T H H' -> TabOk H' T ⟨156, 27, 156, 90⟩ "turn.<locals>.<lambda>" -> TbAt H' p (turnL ns os) (movC ns cs (turnL ns os) (oldT os)) -> Q (.ref p) H')
def spflipT (T C : Addr) : Sp := fun vs H Q E => ∃ (t : Addr) (ns cs : List Int) (side : Int), vs = [.ref t, .int side] /\ TbAt H t ns cs /\ sm ns /\ ns.length ≤ 20 /\ prodI (ns.map one1) ≤ 512 /\ (cs.length : Int) = prodI ns /\ TabOk H T ⟨159, 27, 159, 100⟩ "flip.<locals>.<lambda>" /\ (off ns side -> ∀ H', Same H H' -> E (.ref C) none H') /\ (¬ off ns side -> ∀ H' p, SameP T H H' -> TabOk H' T ⟨159, 27, 159, 100⟩ "flip.<locals>.<lambda>" -> TbAt H' p ns (movC ns cs ns (flipF ns side.toNat)) -> Q (.ref p) H')
def spcutT (T C D : Addr) : Sp := fun vs H Q E => ∃ (t : Addr) (ns cs : List Int) (side f m g : Int), vs = [.ref t, .int side, .int f, .int m, .int g] /\ TbAt H t ns cs /\ sm ns /\ ns.length ≤ 20 /\ prodI (ns.map one1) ≤ 512 /\ (cs.length : Int) = prodI ns /\ -100 < m /\ m < 1000000 /\ TabOk H T ⟨162, 27, 162, 97⟩ "cut.<locals>.<lambda>" /\ (off ns side -> ∀ H', Same H H' -> E (.ref C) none H') /\ (¬ off ns side -> bad ns side f m g -> ∀ H', Same H H' -> E (.ref D) none H') /\ (¬ off ns side -> ¬ bad ns side f m g -> ∀ H' p, SameP T H H' -> TabOk H' T ⟨162, 27, 162, 97⟩ "cut.<locals>.<lambda>" -> TbAt H' p (ns.set side.toNat m) (movC ns cs (ns.set side.toNat m) (cutF side.toNat f g)) -> Q (.ref p) H')
theorem SmT.frz {H H' : Hp} {a : Addr} {os : List Int} (s : SmT H H') (h : Frz H a os) : Frz H' a os := let ⟨o, e, d⟩ := h; ⟨o, s _ _ (fun _ z => by cases z) e, d⟩
theorem min_lst {H : Hp} {cl : List (Str × Addr)} {vcs : List V} {a : Addr} {xs : List V} (hc : CelAt H cl vcs) (h : H a = some (.lst xs)) : minC H cl a = some (.lst xs) := by
  rw [z2e fun q hq z => by obtain ⟨o, v, e⟩ := hc.mem hq; rw [z, h] at e; cases e]; exact h
theorem ins_erase {ns : List Int} {k : Nat} {m : Int} (h : k ≤ ns.length) : (insL ns k m).eraseIdx k = ns := by
  unfold insL
  rw [List.append_assoc, List.eraseIdx_append_of_length_le (by rw [List.length_take]; omega), List.length_take, Nat.min_eq_left h, Nat.sub_self]
  show ns.take k ++ ns.drop k = ns
  exact List.take_append_drop _ _
def sprV (ns cs : List Int) (k : Nat) (m : Int) (i : Nat) : Int := cs.getD (plH ns ((atD (insL ns k m) (i : Int)).eraseIdx k)).toNat 0
def spspreadT (T C1 C2 C3 : Addr) : Sp := fun vs H Q E => ∃ (t : Addr) (ns cs : List Int) (side many : Int), vs = [.ref t, .int side, .int many] /\ TbAt H t ns cs /\ sdOk ns /\ ns.length ≤ 20 /\ (cs.length : Int) = prodI ns /\ many < 1000000 /\ TabOk H T ⟨165, 27, 165, 72⟩ "spread.<locals>.<lambda>" /\ (off1 ns side -> ∀ H', Same H H' -> E (.ref C1) none H') /\ (¬ off1 ns side -> many < 0 -> ∀ H', Same H H' -> E (.ref C2) none H') /\ (¬ off1 ns side -> ¬ many < 0 -> bigI (insL ns side.toNat many) -> ∀ H', Same H H' -> E (.ref C3) none H') /\ (¬ off1 ns side -> ¬ many < 0 -> ¬ bigI (insL ns side.toNat many) -> ∀ H' p, SameP T H H' -> TabOk H' T ⟨165, 27, 165, 72⟩ "spread.<locals>.<lambda>" -> TbAt H' p (insL ns side.toNat many) ((List.range (prodI (insL ns side.toNat many)).toNat).map (sprV ns cs side.toNat many)) -> Q (.ref p) H')
def wrapI (n : Int) : Int := (n + 9223372036854775808) % 18446744073709551616 - 9223372036854775808
def inB (x : Int) : Prop := -9223372036854775808 ≤ x /\ x < 9223372036854775808
def ledV (ns cs ms : List Int) (i : Nat) : Int := cs.getD (plH ns ((atD ms (i : Int)).take ns.length)).toNat 0
def ledL (ns cs ms : List Int) : List Int := (List.range (prodI ms).toNat).map (ledV ns cs ms)
theorem good_take {ns ms : List Int} (k : Nat) (g : good ns ms) : good (ns.take k) (ms.take k) := by
  obtain ⟨l, g⟩ := g
  refine ⟨by rw [List.length_take, List.length_take, l], fun i m n em en => ?_⟩
  rw [List.getElem?_take] at em en
  split at em
  · rename_i c; rw [if_pos c] at en; exact g i m n em en
  · cases em
def spleadT (T C : Addr) : Sp := fun vs H Q E => ∃ (t b : Addr) (ns cs ms : List Int), vs = [.ref t, .ref b] /\ TbAt H t ns cs /\ H b = some (.tup (ms.map V.int)) /\ sdOk ns /\ sdOk ms /\ ns.length ≤ 20 /\ ms.length ≤ 20 /\ (cs.length : Int) = prodI ns /\ prodI ms ≤ 512 /\ TabOk H T ⟨151, 46, 151, 80⟩ "lead.<locals>.<lambda>" /\ (¬ ms.take ns.length = ns -> ∀ H', Same H H' -> E (.ref C) none H') /\ (ms.take ns.length = ns -> ∀ H' p, SameP T H H' -> TabOk H' T ⟨151, 46, 151, 80⟩ "lead.<locals>.<lambda>" -> TbAt H' p ms (ledL ns cs ms) -> Q (.ref p) H')
def OkT (ns cs : List Int) : Prop := sdOk ns /\ ¬ bigI ns /\ (cs.length : Int) = prodI ns /\ ∀ c ∈ cs, inB c
theorem big_l {ns : List Int} (h : ¬ bigI ns) : ns.length ≤ 6 := by unfold bigI at h; omega
theorem big_t {ns : List Int} (hs : sdOk ns) (h : ¬ bigI ns) (i : Nat) : prodI (ns.take i) ≤ 512 := Int.le_trans (take_le (fun n hn => (hs n hn).1) i) (by unfold bigI at h; omega)
theorem big_p {ns : List Int} (hs : sdOk ns) (h : ¬ bigI ns) : prodI ns ≤ 512 := by have := big_t hs h ns.length; rwa [List.take_length] at this
def Tabs3 (H : Hp) (l : Addr) (n0 c0 n1 c1 n2 c2 : List Int) : Prop := ∃ a b c, H l = some (.lst [.ref a, .ref b, .ref c]) /\ TbAt H a n0 c0 /\ TbAt H b n1 c1 /\ TbAt H c n2 c2
theorem Tabs3.up {H H' : Hp} {l : Addr} {n0 c0 n1 c1 n2 c2 : List Int} (h : Tabs3 H l n0 c0 n1 c1 n2 c2) (s : SmT H H') : Tabs3 H' l n0 c0 n1 c1 n2 c2 := let ⟨a, b, c, h1, h2, h3, h4⟩ := h; ⟨a, b, c, s.lst h1, s.tb h2, s.tb h3, s.tb h4⟩
theorem OkT.l {ns cs : List Int} (o : OkT ns cs) : ns.length ≤ 20 := Nat.le_trans (big_l o.2.1) (by decide)
theorem OkT.p {ns cs : List Int} (o : OkT ns cs) : prodI ns ≤ 512 := big_p o.1 o.2.1
theorem OkT.c {ns cs : List Int} (o : OkT ns cs) : cs.length ≤ 900 := by have := o.p; have := o.2.2.1; omega
def TbL (G : Hp) (ys : List V) : Prop := ∀ y ∈ ys, ∃ p ns cs, y = .ref p /\ TbAt G p ns cs /\ OkT ns cs
theorem TbL.up {G G' : Hp} {ys : List V} (h : TbL G ys) (s : Same G G') : TbL G' ys := fun y hy => let ⟨p, ns, cs, e, t, o⟩ := h y hy; ⟨p, ns, cs, e, t.same s, o⟩
theorem TbL.snoc {G : Hp} {ys : List V} {p : Addr} {ns cs : List Int} (h : TbL G ys) (t : TbAt G p ns cs) (o : OkT ns cs) : TbL G (ys ++ [.ref p]) := fun y hy => (List.mem_append.mp hy).elim (h y) (fun z => ⟨p, ns, cs, List.mem_singleton.mp z, t, o⟩)
def rchL (ns ss : List Int) : List Int := List.zipWith (fun n s => (n - 1) * s) ns ss
def loI (xs : List Int) : Int := (xs.map fun x => if 0 < x then 0 else x).sum
def hiI (xs : List Int) : Int := (xs.map fun x => if 0 > x then 0 else x).sum
theorem term_lo {m n t : Int} (h0 : 0 ≤ m) (h1 : m < n) : (if 0 < (n - 1) * t then 0 else (n - 1) * t) ≤ m * t /\ m * t ≤ (if 0 > (n - 1) * t then 0 else (n - 1) * t) := by
  by_cases c : 0 ≤ t
  · have a := Int.mul_nonneg h0 c
    have b := Int.mul_le_mul_of_nonneg_right (show m ≤ n - 1 by omega) c
    constructor <;> split <;> omega
  · have a := Int.mul_le_mul_of_nonpos_right (show m ≤ n - 1 by omega) (show t ≤ 0 by omega)
    have b := Int.mul_nonpos_of_nonneg_of_nonpos h0 (show t ≤ 0 by omega)
    constructor <;> split <;> omega
theorem dot_in : ∀ {ns A ss : List Int}, good ns A -> ss.length = ns.length -> loI (rchL ns ss) ≤ dotI A ss /\ dotI A ss ≤ hiI (rchL ns ss)
  | [], [], [], _, _ => by decide
  | [], _ :: _, _, h, _ => by have := h.1; simp at this
  | _ :: _, [], _, h, _ => by have := h.1; simp at this
  | [], _, _ :: _, _, h => by simp at h
  | _ :: _, _, [], _, h => by simp at h
  | n :: ns, m :: ms, t :: ss, h, hl => by
    have g : good ns ms := ⟨by have := h.1; simpa using this, fun i a b e1 e2 => h.2 (i + 1) a b (by simpa using e1) (by simpa using e2)⟩
    have ih := dot_in g (ss := ss) (by simpa using hl)
    have m0 := h.2 0 m n rfl rfl
    have tl := term_lo (t := t) m0.1 m0.2
    show (if 0 < (n - 1) * t then 0 else (n - 1) * t) + loI (rchL ns ss) ≤ m * t + dotI ms ss /\ m * t + dotI ms ss ≤ (if 0 > (n - 1) * t then 0 else (n - 1) * t) + hiI (rchL ns ss)
    omega
theorem lo_at : ∀ {ns ss : List Int}, (∀ n ∈ ns, 0 < n) -> ss.length = ns.length -> (∃ A, good ns A /\ dotI A ss = loI (rchL ns ss)) /\ ∃ A, good ns A /\ dotI A ss = hiI (rchL ns ss)
  | [], [], _, _ => ⟨⟨[], ⟨rfl, fun i m n e _ => by simp at e⟩, rfl⟩, ⟨[], ⟨rfl, fun i m n e _ => by simp at e⟩, rfl⟩⟩
  | [], _ :: _, _, h => by simp at h
  | _ :: _, [], _, h => by simp at h
  | n :: ns, t :: ss, h, hl => by
    obtain ⟨⟨A, ga, ea⟩, ⟨B, gb, eb⟩⟩ := lo_at (ns := ns) (ss := ss) (fun m hm => h m (List.mem_cons_of_mem _ hm)) (by simpa using hl)
    have n0 := h n List.mem_cons_self
    constructor
    · by_cases c : 0 < (n - 1) * t
      · refine ⟨0 :: A, z4q ga (by omega) n0, ?_⟩
        show 0 * t + dotI A ss = (if 0 < (n - 1) * t then 0 else (n - 1) * t) + loI (rchL ns ss)
        rw [if_pos c, ea, Int.zero_mul]
      · refine ⟨(n - 1) :: A, z4q ga (by omega) (by omega), ?_⟩
        show (n - 1) * t + dotI A ss = (if 0 < (n - 1) * t then 0 else (n - 1) * t) + loI (rchL ns ss)
        rw [if_neg c, ea]
    · by_cases c : 0 > (n - 1) * t
      · refine ⟨0 :: B, z4q gb (by omega) n0, ?_⟩
        show 0 * t + dotI B ss = (if 0 > (n - 1) * t then 0 else (n - 1) * t) + hiI (rchL ns ss)
        rw [if_pos c, eb, Int.zero_mul]
      · refine ⟨(n - 1) :: B, z4q gb (by omega) (by omega), ?_⟩
        show (n - 1) * t + dotI B ss = (if 0 > (n - 1) * t then 0 else (n - 1) * t) + hiI (rchL ns ss)
        rw [if_neg c, eb]
def outV (ns : List Int) (st : Int) (ss : List Int) (n : Nat) : Prop := ¬ prodI ns = 0 /\ (st + loI (rchL ns ss) < 0 \/ (n : Int) ≤ st + hiI (rchL ns ss))
def seeC (ns : List Int) (st : Int) (ss cs : List Int) : List Int := (List.range (prodI ns).toNat).map fun i : Nat => cs.getD (st + dotI (atD ns (i : Int)) ss).toNat 0
def spseenT (T C : Addr) : Sp := fun vs H Q E => ∃ (v c : Addr) (ns ss cs : List Int) (st : Int), vs = [.ref v, .ref c] /\ VwAt H v ns st ss /\ RwI H c cs /\ sm ns /\ ns.length ≤ 20 /\ ss.length = ns.length /\ prodI ns ≤ 512 /\ TabOk H T ⟨147, 29, 147, 64⟩ "seen_through.<locals>.<lambda>" /\ (outV ns st ss cs.length -> ∀ H', Same H H' -> E (.ref C) none H') /\ (¬ outV ns st ss cs.length -> ∀ H' p, SameP T H H' -> TabOk H' T ⟨147, 29, 147, 64⟩ "seen_through.<locals>.<lambda>" -> TbAt H' p ns (seeC ns st ss cs) -> Q (.ref p) H')
theorem SmT.vw {H H' : Hp} (h : SmT H H') {v : Addr} {ns ss : List Int} {st : Int} (e : VwAt H v ns st ss) : VwAt H' v ns st ss := let ⟨sa, ta, h1, h2, h3⟩ := e; ⟨sa, ta, h.tup h1, h.tup h2, h.tup h3⟩
theorem call_lenK {X : Cx} {K : PySem.W.Frag} (hK : X.K = K) : CallR X (.builtin "len") (fun xs H Q => ∃ p ys, xs = [.ref p] /\ (SqL K H p ys \/ SqT K H p ys) /\ Q (.int (ys.length : Nat)) H) := hK ▸ z0q
def sptableof (CT CU : Addr) : Sp := fun vs H Q E => ∃ (a c : Addr) (ns cs : List Int), vs = [.ref a, .ref c] /\ H a = some (.tup (ns.map V.int)) /\ RwI H c cs /\ sdOk ns /\ ns.length ≤ 63 /\ cs.length ≤ 900 /\ (bigI ns -> ∀ H', Same H H' -> E (.ref CT) none H') /\ (¬ bigI ns -> ¬ (cs.length : Int) = prodI ns -> ∀ H', Same H H' -> E (.ref CU) none H') /\ (¬ bigI ns -> (cs.length : Int) = prodI ns -> ∀ H' p, Same H H' -> TbAt H' p ns (cs.map wrapI) -> Q (.ref p) H')
def chk (cs : List Int) (S i : Nat) : List Int := (cs.drop (i * S)).take S
def Nest : List Int -> List Int -> Hp -> Hp -> V -> Prop
  | [], cs, _, _, v => v = .int (cs.getD 0 0)
  | n :: ns, cs, H0, H, v => ∃ (l : Addr) (xs : List V), v = .ref l /\ H0 l = none /\ H l = some (.lst xs) /\ (xs.length : Int) = n /\ (xs = [] \/ ∃ (x : V) (rest : List V) (Hm : Hp), xs = x :: rest /\ Same H0 Hm /\ Same Hm H /\ Hm l = none /\ Nest ns (chk cs (prodI ns).toNat 0) H0 Hm x /\ ∀ (i : Nat) y, rest[i]? = some y -> Nest ns (chk cs (prodI ns).toNat (i + 1)) Hm H y)
theorem Nest.up : ∀ {ns cs : List Int} {H0 H H' : Hp} {v : V}, Nest ns cs H0 H v -> Same H H' -> Nest ns cs H0 H' v
  | [], _, _, _, _, _, h, _ => h
  | n :: ns, cs, H0, H, H', v, h, s => by
    obtain ⟨l, xs, e1, e2, e3, e4, e5⟩ := h
    refine ⟨l, xs, e1, e2, s _ _ e3, e4, e5.imp id ?_⟩
    rintro ⟨x, rest, Hm, f1, f2, f3, f4, f5, f6⟩
    exact ⟨x, rest, Hm, f1, f2, f3.trans s, f4, f5, fun i y hy => (f6 i y hy).up s⟩
theorem Nest.dn : ∀ {ns cs : List Int} {H0 H1 H : Hp} {v : V}, Nest ns cs H1 H v -> Same H0 H1 -> Nest ns cs H0 H v
  | [], _, _, _, _, _, h, _ => h
  | n :: ns, cs, H0, H1, H, v, h, s => by
    obtain ⟨l, xs, e1, e2, e3, e4, e5⟩ := h
    refine ⟨l, xs, e1, z3p s e2, e3, e4, e5.imp id ?_⟩
    rintro ⟨x, rest, Hm, f1, f2, f3, f4, f5, f6⟩
    exact ⟨x, rest, Hm, f1, s.trans f2, f3, f4, f5.dn s, f6⟩
def CntV : Nat -> Hp -> V -> Int -> Prop
  | 0, _, v, m => (∃ n : Int, v = .int n) /\ m = 1
  | d + 1, H, v, m => ((∃ n : Int, v = .int n) /\ m = 1) \/ ∃ (l : Addr) (xs : List V) (ms : List Int), v = .ref l /\ H l = some (.lst xs) /\ xs.length = ms.length /\ xs.length ≤ 900 /\ ms.sum = m /\ ∀ (i : Nat) x k, xs[i]? = some x -> ms[i]? = some k -> CntV d H x k
theorem CntV.up : ∀ {d : Nat} {H H' : Hp} {v : V} {m : Int}, CntV d H v m -> Same H H' -> CntV d H' v m
  | 0, _, _, _, _, h, _ => h
  | d + 1, _, _, _, _, h, s => Or.imp id (fun ⟨l, xs, ms, e1, e2, e3, e4, e5, f⟩ => ⟨l, xs, ms, e1, s _ _ e2, e3, e4, e5, fun i x k hx hk => (f i x k hx hk).up s⟩) h
theorem CntV.grow {d : Nat} {H : Hp} {l : Addr} {xs : List V} {ms : List Int} (h : H l = some (.lst xs)) (hl : xs.length = ms.length) (h9 : xs.length ≤ 900) (f : ∀ (i : Nat) x k, xs[i]? = some x -> ms[i]? = some k -> CntV d H x k) : CntV (d + 1) H (.ref l) ms.sum := Or.inr ⟨l, xs, ms, rfl, h, hl, h9, rfl, f⟩
def FstL : List Int -> Hp -> V -> Addr -> List V -> Prop
  | [], _, _, _, _ => False
  | [_], H, v, l0, ys => v = .ref l0 /\ H l0 = some (.lst ys)
  | _ :: m :: ns, H, v, l0, ys => ∃ (l : Addr) (x : V) (rest : List V), v = .ref l /\ H l = some (.lst (x :: rest)) /\ FstL (m :: ns) H x l0 ys
theorem FstL.at : ∀ {ns : List Int} {H : Hp} {v : V} {l0 : Addr} {ys : List V}, FstL ns H v l0 ys -> H l0 = some (.lst ys)
  | [], _, _, _, _, h => h.elim
  | [_], _, _, _, _, h => h.2
  | _ :: m :: ns, _, _, _, _, h => by obtain ⟨_, x, _, _, _, h⟩ := h; exact h.at
theorem FstL.dn : ∀ {ns cs : List Int} {H0 Hm H : Hp} {v : V} {l0 : Addr} {ys : List V}, Nest ns cs H0 Hm v -> Same Hm H -> FstL ns H v l0 ys -> Hm l0 = some (.lst ys)
  | [], _, _, _, _, _, _, _, _, _, h => h.elim
  | [_], _, _, _, _, _, _, _, h, s, f => by
    obtain ⟨l, xs, e1, _, e3, _⟩ := h
    cases e1.symm.trans f.1
    have := s _ _ e3
    rw [f.2] at this
    rw [e3, this]
  | n :: m :: ns, cs, H0, Hm, H, v, l0, ys, h, s, f => by
    obtain ⟨l, xs, e1, e2, e3, e4, e5⟩ := h
    obtain ⟨l', x', rest', g1, g2, g3⟩ := f
    cases e1.symm.trans g1
    have e6 := s _ _ e3
    rw [g2] at e6
    cases e6
    rcases e5 with e | ⟨x0, rest, Hk, e, f2, f3, f4, f5, f6⟩
    · cases e
    · cases e
      exact f3 _ _ (FstL.dn f5 (f3.trans s) g3)
theorem FstL.new : ∀ {ns cs : List Int} {H0 H : Hp} {v : V} {l0 : Addr} {ys : List V}, Nest ns cs H0 H v -> FstL ns H v l0 ys -> H0 l0 = none
  | [], _, _, _, _, _, _, _, h => h.elim
  | [_], _, _, _, _, _, _, h, f => by
    obtain ⟨l, xs, e1, e2, _⟩ := h
    cases e1.symm.trans f.1
    exact e2
  | n :: m :: ns, cs, H0, H, v, l0, ys, h, f => by
    obtain ⟨l, xs, e1, e2, e3, e4, e5⟩ := h
    obtain ⟨l', x', rest', g1, g2, g3⟩ := f
    cases e1.symm.trans g1
    rw [g2] at e3
    cases e3
    rcases e5 with e | ⟨x0, rest, Hm, e, f2, f3, f4, f5, f6⟩
    · cases e
    · cases e
      exact FstL.new (f5.up f3) g3
theorem CntV.le : ∀ {d d' : Nat} {H : Hp} {v : V} {m : Int}, CntV d H v m -> d ≤ d' -> CntV d' H v m
  | 0, 0, _, _, _, h, _ => h
  | 0, _ + 1, _, _, _, h, _ => Or.inl h
  | _ + 1, 0, _, _, _, _, l => absurd l (by omega)
  | d + 1, d' + 1, _, _, _, h, l => Or.imp id (fun ⟨a, xs, ms, e1, e2, e3, e4, e5, f⟩ => ⟨a, xs, ms, e1, e2, e3, e4, e5, fun i x k hx hk => (f i x k hx hk).le (by omega)⟩) h
theorem FstL.len : ∀ {ns cs : List Int} {H0 H : Hp} {v : V} {l0 : Addr} {ys : List V}, Nest ns cs H0 H v -> (∀ n ∈ ns, n ≤ 899) -> FstL ns H v l0 ys -> ys.length ≤ 899
  | [], _, _, _, _, _, _, _, _, h => h.elim
  | [n], _, _, _, _, _, _, h, b, f => by
    obtain ⟨l, xs, e1, e2, e3, e4, _⟩ := h
    cases e1.symm.trans f.1
    rw [f.2] at e3
    cases e3
    have := b n List.mem_cons_self
    omega
  | n :: m :: ns, cs, H0, H, v, l0, ys, h, b, f => by
    obtain ⟨l, xs, e1, e2, e3, e4, e5⟩ := h
    obtain ⟨l', x', rest', g1, g2, g3⟩ := f
    cases e1.symm.trans g1
    rw [g2] at e3
    cases e3
    rcases e5 with e | ⟨x0, rest, Hm, e, f2, f3, f4, f5, f6⟩
    · cases e
    · cases e
      exact FstL.len (f5.up f3) (fun k hk => b k (List.mem_cons_of_mem _ hk)) g3
def fl : Nat -> List Nat
  | 0 => [1]
  | k + 1 => (fl k).flatMap fun s => [s, s * 2, s * 3]
def badAt (ns : List Int) (H : Hp) (r : Addr) : Prop := ∃ ms : List Int, H r = some (.tup (ms.map V.int)) /\ ms.length ≤ 70 /\ ¬ good ns ms
theorem badAt.up {ns : List Int} {H H' : Hp} {r : Addr} (h : badAt ns H r) (s : Same H H') : badAt ns H' r := let ⟨ms, a, b, c⟩ := h; ⟨ms, s _ _ a, b, c⟩
theorem all_cons {P : Addr -> Prop} {a : Addr} {l : List Addr} (h : P a) (t : ∀ q ∈ l, P q) : ∀ q ∈ a :: l, P q := fun q hq => (List.mem_cons.mp hq).elim (fun e => e ▸ h) (t q)
theorem all_nil {P : Addr -> Prop} : ∀ q ∈ ([] : List Addr), P q := fun _ h => nomatch h
theorem z1z (a b : Int) (as bs : List Int) : dotI (a :: as) (b :: bs) = a * b + dotI as bs := by
  unfold dotI; rw [List.zipWith_cons_cons, List.sum_cons]
theorem z4t (bs : List Int) : dotI [] bs = 0 := by unfold dotI; rw [List.zipWith_nil_left]; rfl
theorem dot_nilR (as : List Int) : dotI as [] = 0 := by unfold dotI; rw [List.zipWith_nil_right]; rfl
theorem z4s : ∀ {A S : List Int} {k : Nat} {y : Int}, k < A.length -> k < S.length -> dotI (A.set k y) S = dotI A S + (y - A.getD k 0) * S.getD k 0
  | [], _, _, _, h, _ => absurd h (Nat.not_lt_zero _)
  | _ :: _, [], _, _, _, h => absurd h (Nat.not_lt_zero _)
  | a :: A, s :: S, 0, y, _, _ => by rw [List.set_cons_zero, z1z, z1z, List.getD_cons_zero, List.getD_cons_zero]; grind
  | a :: A, s :: S, k + 1, y, h1, h2 => by rw [List.set_cons_succ, z1z, z1z, z4s (Nat.lt_of_succ_lt_succ h1) (Nat.lt_of_succ_lt_succ h2), List.getD_cons_succ, List.getD_cons_succ]; grind
theorem z5u : ∀ (A S : List Int), dotI A S = dotI S A
  | [], S => by rw [z4t, dot_nilR]
  | a :: A, [] => by rw [z4t, dot_nilR]
  | a :: A, s :: S => by rw [z1z, z1z, z5u A S, Int.mul_comm]
theorem dot_set2 {A S : List Int} {k : Nat} {t : Int} (h1 : k < A.length) (h2 : k < S.length) : dotI A (S.set k t) = dotI A S + A.getD k 0 * (t - S.getD k 0) := by
  rw [z5u, z4s h2 h1, z5u, Int.mul_comm]
theorem dot_ins : ∀ {A S : List Int} {k : Nat} {t : Int}, A.length = S.length + 1 -> k ≤ S.length -> dotI A (insL S k t) = dotI (A.eraseIdx k) S + A.getD k 0 * t
  | [], _, _, _, h, _ => by simp at h
  | a :: A, S, 0, t, h, _ => by
    show dotI (a :: A) (t :: S) = _
    rw [z1z, List.eraseIdx_cons_zero, List.getD_cons_zero, Int.add_comm]
  | a :: A, [], k + 1, t, h, h2 => by simp at h2
  | a :: A, s :: S, k + 1, t, h, h2 => by
    show dotI (a :: A) (s :: insL S k t) = _
    rw [z1z, List.eraseIdx_cons_succ, z1z, List.getD_cons_succ, dot_ins (by simpa using h) (by simpa using h2), Int.add_assoc]
theorem ins_back : ∀ {A : List Int} {k : Nat}, k < A.length -> insL (A.eraseIdx k) k (A.getD k 0) = A
  | [], _, h => absurd h (Nat.not_lt_zero _)
  | a :: A, 0, _ => rfl
  | a :: A, k + 1, h => by
    show a :: insL (A.eraseIdx k) k (A.getD k 0) = a :: A
    rw [ins_back (Nat.lt_of_succ_lt_succ h)]
theorem ins_era {A : List Int} {k : Nat} {y : Int} (h : k ≤ A.length) : (insL A k y).eraseIdx k = A := by
  unfold insL
  apply List.ext_getElem?
  intro i
  grind
theorem ins_getD {A : List Int} {k : Nat} {y : Int} (h : k ≤ A.length) : (insL A k y).getD k 0 = y := by
  unfold insL; grind
theorem z5d : ∀ {A B S T : List Int}, A.length = S.length -> dotI (A ++ B) (S ++ T) = dotI A S + dotI B T
  | [], B, [], T, _ => by rw [List.nil_append, List.nil_append, z4t]; omega
  | a :: A, B, s :: S, T, h => by rw [List.cons_append, List.cons_append, z1z, z1z, z5d (by simpa using h), Int.add_assoc]
  | [], B, s :: S, T, h => by simp at h
  | a :: A, B, [], T, h => by simp at h
theorem dot_zero : ∀ (A : List Int) (n : Nat), dotI A (rep0 n) = 0
  | [], n => z4t _
  | a :: A, 0 => dot_nilR _
  | a :: A, n + 1 => by show dotI (a :: A) (0 :: rep0 n) = 0; rw [z1z, dot_zero A n, Int.mul_zero]; rfl
theorem dot_lead {A S : List Int} {n m : Nat} (h1 : A.length = S.length + m) (h2 : n ≤ S.length) : dotI A (S.take n ++ rep0 m ++ S.drop n) = dotI (A.take n ++ A.drop (n + m)) S := by
  have e : A = A.take n ++ ((A.drop n).take m) ++ A.drop (n + m) := by
    apply List.ext_getElem?; intro i; grind
  have e2 : S = S.take n ++ S.drop n := (List.take_append_drop n S).symm
  conv => lhs; rw [e]
  conv => rhs; rw [e2]
  rw [z5d (by simp [rep0]; omega), z5d (by simp; omega), z5d (by simp; omega), dot_zero]; omega
def putL : List Int -> List Int -> List Int -> List Int
  | out, o :: os, a :: as => putL (out.set o.toNat a) os as
  | out, _, _ => out
theorem put_len : ∀ (out os as : List Int), (putL out os as).length = out.length
  | out, o :: os, a :: as => by unfold putL; rw [put_len, List.length_set]
  | out, [], as => by unfold putL; rfl
  | out, o :: os, [] => by unfold putL; rfl
theorem dot_put {S : List Int} : ∀ {os out as : List Int}, os.Nodup -> as.length = os.length -> out.length ≤ S.length -> (∀ o ∈ os, 0 ≤ o /\ o < out.length /\ out.getD o.toNat 0 = 0) -> dotI (putL out os as) S = dotI out S + dotI as (turnL S os)
  | [], out, as, _, h, _, _ => by
    cases as with
    | nil => unfold putL; rw [z4t]; omega
    | cons => simp at h
  | o :: os, out, [], _, h, _, _ => by simp at h
  | o :: os, out, a :: as, nd, h, hl, hz => by
    have z := hz o List.mem_cons_self
    have nd2 := List.nodup_cons.mp nd
    unfold putL
    rw [dot_put nd2.2 (by simpa using h) (by rw [List.length_set]; exact hl) (fun p hp => by
      have y := hz p (List.mem_cons_of_mem _ hp)
      have ne : o.toNat ≠ p.toNat := fun w => nd2.1 (by have : o = p := by omega
                                                        rw [this]; exact hp)
      refine ⟨y.1, by rw [List.length_set]; exact y.2.1, ?_⟩
      rw [List.getD_eq_getElem?_getD, List.getElem?_set_ne ne, ← List.getD_eq_getElem?_getD]; exact y.2.2), z4s (by omega) (by omega), z.2.2]
    show _ = dotI out S + dotI (a :: as) (S.getD o.toNat 0 :: turnL S os)
    rw [z1z]; grind
theorem put_get : ∀ {os out as : List Int} {i : Nat} {m : Int}, (∀ o ∈ os, 0 ≤ o) -> (putL out os as)[i]? = some m -> (out[i]? = some m /\ ((i : Int) ∉ os \/ as.length < os.length)) \/ ∃ j : Nat, os[j]? = some (i : Int) /\ as[j]? = some m
  | [], out, as, i, m, _, h => by unfold putL at h; exact .inl ⟨h, .inl (by simp)⟩
  | o :: os, out, [], i, m, _, h => by unfold putL at h; exact .inl ⟨h, .inr (by simp)⟩
  | o :: os, out, a :: as, i, m, hz, h => by
    unfold putL at h
    have z := hz o List.mem_cons_self
    rcases put_get (fun p hp => hz p (List.mem_cons_of_mem _ hp)) h with ⟨h1, h2⟩ | ⟨j, h1, h2⟩
    · by_cases c : o.toNat = i
      · refine .inr ⟨0, ?_, ?_⟩
        · show some o = _; congr 1; omega
        · subst c
          have il : o.toNat < out.length := by
            have := (List.getElem?_eq_some_iff.mp h1).1
            rwa [List.length_set] at this
          rw [List.getElem?_set_self il] at h1
          exact h1
      · rw [List.getElem?_set_ne c] at h1
        refine .inl ⟨h1, h2.imp (fun h2 w => ?_) (fun h2 => by simpa using h2)⟩
        rcases List.mem_cons.mp w with w | w
        · omega
        · exact h2 w
    · exact .inr ⟨j + 1, h1, h2⟩
def backD (ns bs at_ : List Int) : Dg -> List Int
  | .turn os => putL (rep0 ns.length) os (at_.take bs.length) ++ at_.drop bs.length
  | .lead _ => at_.take ns.length ++ at_.drop bs.length
  | .spread side _ => at_.eraseIdx side.toNat
  | .inner side => insL (at_.eraseIdx bs.length) side.toNat (at_.getD bs.length 0)
  | .flip side => at_.set side.toNat (ns.getD side.toNat 0 - 1 - at_.getD side.toNat 0)
  | .cut side f _ g => at_.set side.toNat (f + at_.getD side.toNat 0 * g)
def lensD (ns L : List Int) : Dg -> List Int
  | .inner side => ns.getD side.toNat 0 :: L
  | _ => L
theorem good_at {N A : List Int} (g : good N A) {k : Nat} (h : k < N.length) : 0 ≤ A.getD k 0 /\ A.getD k 0 < N.getD k 0 :=
  g.2 k _ _ (z1o (by rw [g.1]; exact h)) (z1o h)
theorem getD_app {ns L : List Int} {k : Nat} (h : k < ns.length) : (ns ++ L).getD k 0 = ns.getD k 0 := by
  rw [List.getD_eq_getElem?_getD, List.getElem?_append_left h, List.getD_eq_getElem?_getD]
theorem back_flip {ns ss L A : List Int} {st : Int} {k : Nat} (kl : k < ns.length) (hl : ss.length = ns.length + L.length) (g : good (ns ++ L) A) : good (ns ++ L) (A.set k (ns.getD k 0 - 1 - A.getD k 0)) /\ st + (ns.getD k 0 - 1) * ss.getD k 0 + dotI A (ss.set k (-ss.getD k 0)) = st + dotI (A.set k (ns.getD k 0 - 1 - A.getD k 0)) ss := by
  have gk := good_at g (k := k) (by rw [List.length_append]; omega)
  have al := g.1
  rw [List.length_append] at al
  rw [getD_app kl] at gk
  refine ⟨z5q g rfl (fun _ _ => rfl) (by rw [List.getElem?_append_left kl]; exact z1o kl) (by omega) (by omega), ?_⟩
  rw [z4s (by omega) (by omega), dot_set2 (by omega) (by omega)]
  grind
theorem cut_in {f g m a n : Int} (f0 : 0 ≤ f) (g1 : 1 ≤ g) (h : f + (m - 1) * g < n) (a0 : 0 ≤ a) (a1 : a < m) : 0 ≤ f + a * g /\ f + a * g < n := by
  have h1 := Int.mul_nonneg a0 (show 0 ≤ g by omega)
  have h2 := Int.mul_le_mul_of_nonneg_right (show a ≤ m - 1 by omega) (show 0 ≤ g by omega)
  omega
theorem back_cut {ns ss L A : List Int} {st f m t : Int} {k : Nat} (kl : k < ns.length) (nb : ¬ bad ns (k : Int) f m t) (hl : ss.length = ns.length + L.length) (g : good (ns.set k m ++ L) A) : good (ns ++ L) (A.set k (f + A.getD k 0 * t)) /\ st + f * ss.getD k 0 + dotI A (ss.set k (ss.getD k 0 * t)) = st + dotI (A.set k (f + A.getD k 0 * t)) ss := by
  have gk := good_at g (k := k) (by rw [List.length_append, List.length_set]; omega)
  have al := g.1
  rw [List.length_append, List.length_set] at al
  rw [getD_app (by rw [List.length_set]; exact kl)] at gk
  have e : (ns.set k m).getD k 0 = m := by rw [List.getD_eq_getElem?_getD, List.getElem?_set_self kl]; rfl
  rw [e] at gk
  unfold bad at nb
  rw [Int.toNat_natCast] at nb
  have ci := cut_in (f := f) (g := t) (m := m) (a := A.getD k 0) (n := ns.getD k 0) (by omega) (by omega) (by omega) gk.1 gk.2
  refine ⟨z5q g (by rw [List.length_append, List.length_append, List.length_set]) (fun j hj => ?_) (by rw [List.getElem?_append_left kl]; exact z1o kl) ci.1 ci.2, ?_⟩
  · rw [List.getElem?_append, List.getElem?_append, List.length_set, List.getElem?_set_ne (fun z => hj z.symm)]
  · rw [z4s (by omega) (by omega), dot_set2 (by omega) (by omega)]
    grind
theorem ins_app {ns L : List Int} {k : Nat} {m : Int} (h : k ≤ ns.length) : insL ns k m ++ L = insL (ns ++ L) k m := by
  unfold insL
  rw [List.take_append_of_le_length h, List.drop_append_of_le_length h]
  simp
theorem back_spread {ns ss L A : List Int} {st m : Int} {k : Nat} (kl : k ≤ ns.length) (hl : ss.length = ns.length + L.length) (g : good (insL ns k m ++ L) A) : good (ns ++ L) (A.eraseIdx k) /\ st + dotI A (insL ss k 0) = st + dotI (A.eraseIdx k) ss := by
  rw [ins_app kl] at g
  have al := g.1
  rw [z3l, List.length_append] at al
  have g2 := z5c k g
  rw [ins_era (by rw [List.length_append]; omega)] at g2
  refine ⟨g2, ?_⟩
  rw [dot_ins (by omega) (by omega)]
  omega
theorem erase_app {ns L : List Int} {k : Nat} (h : k < ns.length) : (ns ++ L).eraseIdx k = ns.eraseIdx k ++ L := List.eraseIdx_append_of_lt_length h _
theorem back_inner {ns ss L A : List Int} {st : Int} {k : Nat} (kl : k < ns.length) (hl : ss.length = ns.length + L.length) (g : good (ns.eraseIdx k ++ ns.getD k 0 :: L) A) : good (ns ++ L) (insL (A.eraseIdx (ns.eraseIdx k).length) k (A.getD (ns.eraseIdx k).length 0)) /\ st + dotI A (insL (ss.eraseIdx k) (ns.length - 1) (ss.getD k 0)) = st + dotI (insL (A.eraseIdx (ns.eraseIdx k).length) k (A.getD (ns.eraseIdx k).length 0)) ss := by
  have el : (ns.eraseIdx k).length = ns.length - 1 := by rw [List.length_eraseIdx, if_pos kl]
  have al := g.1
  rw [List.length_append, List.length_cons] at al
  have gk := good_at g (k := (ns.eraseIdx k).length) (by rw [List.length_append, List.length_cons]; omega)
  have ge := z5c (ns.eraseIdx k).length g
  have e1 : (ns.eraseIdx k ++ ns.getD k 0 :: L).eraseIdx (ns.eraseIdx k).length = (ns ++ L).eraseIdx k := by
    rw [erase_app kl, List.eraseIdx_append_of_length_le (Nat.le_refl _), Nat.sub_self, List.eraseIdx_cons_zero]
  have e2 : (ns.eraseIdx k ++ ns.getD k 0 :: L).getD (ns.eraseIdx k).length 0 = ns.getD k 0 := by
    rw [List.getD_eq_getElem?_getD, List.getElem?_append_right (Nat.le_refl _), Nat.sub_self]; rfl
  rw [e1] at ge
  rw [e2] at gk
  refine ⟨good_ins (by rw [List.length_append]; omega) ge gk.1 (by rw [getD_app kl]; exact gk.2), ?_⟩
  have sl : (ss.eraseIdx k).length = ss.length - 1 := by rw [List.length_eraseIdx, if_pos (by omega)]
  have al2 : (A.eraseIdx (ns.eraseIdx k).length).length = A.length - 1 := by rw [List.length_eraseIdx, if_pos (by omega)]
  conv => rhs; rw [← ins_back (A := ss) (k := k) (by omega)]
  rw [dot_ins (by omega) (by omega), dot_ins (by rw [z3l]; omega) (by omega), ins_era (by omega), ins_getD (by omega), el]
theorem back_lead {ns ss L ms A : List Int} {st : Int} (e : ms.take ns.length = ns) (hl : ss.length = ns.length + L.length) (g : good (ms ++ L) A) : good (ns ++ L) (A.take ns.length ++ A.drop ms.length) /\ st + dotI A (ss.take ns.length ++ rep0 (ms.length - ns.length) ++ ss.drop ns.length) = st + dotI (A.take ns.length ++ A.drop ms.length) ss := by
  have nl : ns.length ≤ ms.length := by have := congrArg List.length e; rw [List.length_take] at this; omega
  have al := g.1
  rw [List.length_append] at al
  refine ⟨⟨by simp only [List.length_append, List.length_take, List.length_drop]; omega, fun i m n em en => ?_⟩, ?_⟩
  · rw [List.getElem?_append, List.length_take, Nat.min_eq_left (by omega)] at em
    rw [List.getElem?_append] at en
    split at em
    · rename_i c
      rw [if_pos c] at en
      rw [List.getElem?_take_of_lt c] at em
      refine g.2 i m n em ?_
      rw [List.getElem?_append_left (by omega)]
      rw [← e, List.getElem?_take_of_lt c] at en
      exact en
    · rename_i c
      rw [if_neg c] at en
      rw [List.getElem?_drop] at em
      refine g.2 _ m n em ?_
      rw [List.getElem?_append_right (by omega), show ms.length + (i - ns.length) - ms.length = i - ns.length by omega]
      exact en
  · rw [dot_lead (by omega) (by omega), show ns.length + (ms.length - ns.length) = ms.length by omega]
theorem rep_getD (n k : Nat) : (rep0 n).getD k 0 = 0 := by
  unfold rep0
  rw [List.getD_eq_getElem?_getD, List.getElem?_replicate]
  split <;> rfl
theorem turn_own {ss os : List Int} {n : Nat} (h : ∀ o ∈ os, 0 ≤ o /\ o < n) : turnL (ss.take n) os = turnL ss os := by
  unfold turnL
  refine List.map_congr_left fun o ho => ?_
  have := h o ho
  rw [List.getD_eq_getElem?_getD, List.getElem?_take_of_lt (by omega), List.getD_eq_getElem?_getD]
theorem back_turn {ns ss L os A : List Int} {st : Int} (t : turnOk ns.length os) (hl : ss.length = ns.length + L.length) (g : good (turnL ns os ++ L) A) : good (ns ++ L) (putL (rep0 ns.length) os (A.take (turnL ns os).length) ++ A.drop (turnL ns os).length) /\ st + dotI A (turnL ss os ++ ss.drop ns.length) = st + dotI (putL (rep0 ns.length) os (A.take (turnL ns os).length) ++ A.drop (turnL ns os).length) ss := by
  have ol : os.length = ns.length := by rw [t.length_eq, up_len]
  have tl : (turnL ns os).length = ns.length := by unfold turnL; rw [List.length_map, ol]
  have om : ∀ o ∈ os, 0 ≤ o /\ o < (ns.length : Int) := fun o ho => up_mem.mp (t.subset ho)
  have nd : os.Nodup := t.nodup_iff.mpr (up_nd _)
  have al := g.1
  rw [List.length_append, tl] at al
  rw [tl]
  have rl : (rep0 ns.length).length = ns.length := List.length_replicate ..
  have pl : (putL (rep0 ns.length) os (A.take ns.length)).length = ns.length := by rw [put_len, rl]
  have kl : (A.take ns.length).length = ns.length := by rw [List.length_take]; omega
  refine ⟨⟨by rw [List.length_append, pl, List.length_drop, List.length_append]; omega, fun i m n em en => ?_⟩, ?_⟩
  · rw [List.getElem?_append, pl] at em
    rw [List.getElem?_append] at en
    split at em
    · rename_i c
      rw [if_pos c] at en
      rcases put_get (fun o ho => (om o ho).1) em with ⟨_, h2⟩ | ⟨j, h1, h2⟩
      · rcases h2 with h2 | h2
        · exact absurd (t.mem_iff.mpr (up_mem.mpr (by omega))) h2
        · omega
      · have jl := (List.getElem?_eq_some_iff.mp h1).1
        rw [List.getElem?_take_of_lt (by omega)] at h2
        refine g.2 j m n h2 ?_
        rw [List.getElem?_append_left (by omega)]
        unfold turnL
        rw [List.getElem?_map, h1]
        show some (ns.getD (i : Int).toNat 0) = some n
        rw [Int.toNat_natCast, List.getD_eq_getElem?_getD, en]; rfl
    · rename_i c
      rw [if_neg c] at en
      rw [List.getElem?_drop] at em
      refine g.2 _ m n em ?_
      rw [List.getElem?_append_right (by omega), tl, show ns.length + (i - ns.length) - ns.length = i - ns.length by omega]
      exact en
  · have tl2 : (turnL ss os).length = ns.length := by unfold turnL; rw [List.length_map, ol]
    conv => lhs; rw [← List.take_append_drop ns.length A]
    conv => rhs; rw [← List.take_append_drop ns.length ss]
    rw [z5d (by omega), z5d (by rw [pl, List.length_take]; omega), dot_put nd (by omega) (by rw [rl, List.length_take]; omega) (fun o ho => ⟨(om o ho).1, by rw [rl]; exact (om o ho).2, rep_getD _ _⟩), turn_own om, z5u (rep0 _), dot_zero]
    omega
theorem back_ok {ns ss L A : List Int} {st : Int} {d : Dg} (nf : fltD ns d = none) (hl : ss.length = ns.length + L.length) (g : good (sdsD ns d ++ lensD ns L d) A) : good (ns ++ L) (backD ns (sdsD ns d) A d) /\ staD ns ss st d + dotI A (stsD ns ss d) = st + dotI (backD ns (sdsD ns d) A d) ss := by
  cases d with
  | turn os => exact back_turn (z4r nf) hl g
  | lead ms => exact back_lead (z4c nf) hl g
  | spread side m =>
    have no := (z4b nf).1
    unfold off1 at no
    exact back_spread (k := side.toNat) (by omega) hl g
  | inner side =>
    obtain ⟨k, rfl, kl⟩ := z2m (flt_inner nf)
    exact back_inner (k := k) kl hl g
  | flip side =>
    obtain ⟨k, rfl, kl⟩ := z2m (flt_flip nf)
    exact back_flip (k := k) kl hl g
  | cut side f m t =>
    obtain ⟨no, nb⟩ := flt_cut nf
    obtain ⟨k, rfl, kl⟩ := z2m no
    exact back_cut (k := k) kl nb hl g
theorem sts_lens {ns ss L : List Int} {d : Dg} (nf : fltD ns d = none) (hl : ss.length = ns.length + L.length) : (stsD ns ss d).length = (sdsD ns d).length + (lensD ns L d).length := by
  cases d with
  | turn os =>
    have ol : os.length = ns.length := by rw [(z4r nf).length_eq, up_len]
    show (turnL ss os ++ ss.drop ns.length).length = (turnL ns os).length + L.length
    unfold turnL; rw [List.length_append, List.length_map, List.length_map, List.length_drop]; omega
  | lead ms =>
    have nl : ns.length ≤ ms.length := by have := congrArg List.length (z4c nf); rw [List.length_take] at this; omega
    show (ss.take _ ++ rep0 _ ++ ss.drop _).length = ms.length + L.length
    rw [List.length_append, List.length_append, List.length_take, List.length_drop, z5o]; omega
  | spread side m => show (insL ss _ _).length = (insL ns _ _).length + L.length; rw [z3l, z3l]; omega
  | inner side =>
    obtain ⟨k, rfl, kl⟩ := z2m (flt_inner nf)
    show (insL (ss.eraseIdx k) _ _).length = (ns.eraseIdx k).length + (_ :: L).length
    rw [z3l, List.length_eraseIdx, if_pos (by omega), List.length_eraseIdx, if_pos kl, List.length_cons]; omega
  | flip side => show (ss.set _ _).length = ns.length + L.length; rw [List.length_set]; exact hl
  | cut side f m t => show (ss.set _ _).length = (ns.set _ _).length + L.length; rw [List.length_set, List.length_set]; exact hl
theorem prod_setle {ns : List Int} (h : ∀ n ∈ ns, 0 ≤ n) {m : Int} (m0 : 0 ≤ m) : ∀ (k : Nat), one1 m ≤ one1 (ns.getD k 0) -> 1 ≤ prodI ((ns.set k m).map one1) /\ prodI ((ns.set k m).map one1) ≤ prodI (ns.map one1) := by
  have o1 := z4p m0
  induction ns with
  | nil => intro k _; rw [List.set_nil]; exact ⟨by decide, Int.le_refl _⟩
  | cons n ns ih =>
    have a := z4p (h n List.mem_cons_self)
    have nn : ∀ m ∈ ns, 0 ≤ m := fun m hm => h m (List.mem_cons_of_mem _ hm)
    intro k hk
    cases k with
    | zero =>
      rw [List.getD_cons_zero] at hk
      rw [List.set_cons_zero, List.map_cons, List.map_cons, z0v, z0v]
      have b := z2z nn
      exact ⟨Int.le_trans (by decide) (Int.mul_le_mul o1 b (by decide) (by omega)), Int.mul_le_mul_of_nonneg_right hk (by omega)⟩
    | succ k =>
      rw [List.getD_cons_succ] at hk
      rw [List.set_cons_succ, List.map_cons, List.map_cons, z0v, z0v]
      have b := ih nn k hk
      exact ⟨Int.le_trans (by decide) (Int.mul_le_mul a b.1 (by decide) (by omega)), Int.mul_le_mul_of_nonneg_left b.2 (by omega)⟩
theorem cut_many {f g m n : Int} (f0 : 0 ≤ f) (g1 : 1 ≤ g) (m1 : 0 < m) (h : f + (m - 1) * g < n) : m ≤ n := by
  have := Int.mul_le_mul_of_nonneg_left g1 (show 0 ≤ m - 1 by omega)
  omega
def ledOk (ns : List Int) : Dg -> Prop
  | .lead ms => ms.take ns.length = ns -> fit ms
  | _ => True
theorem fit_cut {ns : List Int} {k : Nat} {m : Int} (h : fit ns) (m0 : 0 ≤ m) (kl : k < ns.length) (hm : m = 0 \/ m ≤ ns.getD k 0) : fit (ns.set k m) := by
  have nk := h.1 _ (z6i kl)
  have ho : one1 m ≤ one1 (ns.getD k 0) := by unfold one1; split <;> split <;> omega
  have p := prod_setle (fun n hn => (h.1 n hn).1) m0 k ho
  refine ⟨fun n hn => ?_, by rw [List.length_set]; exact h.2.1, p.1, Int.le_trans p.2 h.2.2.2⟩
  rcases List.mem_or_eq_of_mem_set hn with z | z
  · exact h.1 n z
  · subst z; omega
theorem fit_next {ns : List Int} {d : Dg} (h : fit ns) (nf : fltD ns d = none) (hl : ledOk ns d) : fit (sdsD ns d) := by
  have nn : ∀ n ∈ ns, 0 ≤ n := fun n hn => (h.1 n hn).1
  cases d with
  | turn os =>
    have p := turn_perm (z4r nf)
    have e := prod_perm (p.map one1)
    exact ⟨fun n hn => h.1 n (p.subset hn), by show (turnL ns os).length ≤ 6; rw [p.length_eq]; exact h.2.1, by show 1 ≤ prodI ((turnL ns os).map one1); rw [e]; exact h.2.2.1, by show prodI ((turnL ns os).map one1) ≤ 512; rw [e]; exact h.2.2.2⟩
  | lead ms => exact hl (z4c nf)
  | spread side m =>
    obtain ⟨no, nm, nb⟩ := z4b nf
    have b1 : (insL ns side.toNat m).length ≤ 6 := by unfold bigI at nb; omega
    have b2 : prodI ((insL ns side.toNat m).map one1) ≤ 512 := by unfold bigI at nb; omega
    have mem : ∀ n ∈ insL ns side.toNat m, 0 ≤ n := fun n hn => by
      unfold insL at hn
      rcases List.mem_append.mp hn with hn | hn
      · rcases List.mem_append.mp hn with hn | hn
        · exact nn n (List.mem_of_mem_take hn)
        · cases List.mem_singleton.mp hn; omega
      · exact nn n (List.mem_of_mem_drop hn)
    have sd : sdOk ns := z2y h
    have rb := z7o nn
    have bi := big_ins (k := side.toNat) h.2.1 sd (z5r h) (show 0 ≤ m by omega)
    have mr : m ≤ 512 := by
      have : ¬ roomI ns < m := fun z => nb (bi.mpr (.inr z))
      omega
    refine ⟨fun n hn => ⟨mem n hn, ?_⟩, b1, z2z mem, b2⟩
    unfold insL at hn
    rcases List.mem_append.mp hn with hn | hn
    · rcases List.mem_append.mp hn with hn | hn
      · exact (h.1 n (List.mem_of_mem_take hn)).2
      · cases List.mem_singleton.mp hn; exact mr
    · exact (h.1 n (List.mem_of_mem_drop hn)).2
  | inner side =>
    have e := z5j (k := side.toNat) nn
    have mem : ∀ n ∈ ns.eraseIdx side.toNat, 0 ≤ n /\ n ≤ 512 := fun n hn => h.1 n (List.mem_of_mem_eraseIdx hn)
    exact ⟨mem, by show (ns.eraseIdx _).length ≤ 6; rw [List.length_eraseIdx]; have := h.2.1; split <;> omega, z2z fun n hn => (mem n hn).1, Int.le_trans e h.2.2.2⟩
  | flip side => exact h
  | cut side f m t =>
    obtain ⟨no, nb⟩ := flt_cut nf
    obtain ⟨k, rfl, kl⟩ := z2m no
    unfold bad at nb
    rw [Int.toNat_natCast] at nb
    show fit (ns.set (k : Int).toNat m)
    rw [Int.toNat_natCast]
    refine fit_cut h (by omega) kl ?_
    by_cases z : m = 0
    · exact .inl z
    · exact .inr (cut_many (f := f) (g := t) (by omega) (by omega) (by omega) (by omega))
theorem grow_room {ns : List Int} (h : fit ns) : grow ns (roomI ns) ns.length := by
  have r := z7o fun n hn => (h.1 n hn).1
  have r1 := fit_room h
  refine ⟨h.1, rfl, r1, r.2, h.2.2.1, ?_⟩
  unfold roomI
  exact Int.ediv_mul_le _ (by have := h.2.2.1; omega)
theorem z6h {ns us : List Int} {x : Int} (h : 0 < ns.length) (e : (x :: us).take ns.length = ns) : x = ns.getD 0 0 := by
  cases ns with
  | nil => cases h
  | cons y l => rw [List.length_cons, List.take_succ_cons] at e; exact (List.cons.inj e).1
theorem cut_last (ms : List Int) : cutV (ms.map V.int) none (some (-1)) = (ms.take (ms.length - 1)).map V.int := by
  unfold cutV; simp only [HT.sIx, z0l]; rw [if_pos (by decide), List.drop_zero, List.map_take]; congr 1; omega
def TabsL (l : List (Addr × Pos × Str)) (H : Hp) : Prop := ∀ x ∈ l, TabOk H x.1 x.2.1 x.2.2
theorem TabsL.same {l : List (Addr × Pos × Str)} {H H' : Hp} (h : TabsL l H) (s : Same H H') : TabsL l H' := fun x hx => (h x hx).same s
theorem TabsL.step {l : List (Addr × Pos × Str)} {H H' : Hp} {T : Addr} {pos : Pos} {qual : Str} (h : TabsL l H) (nd : (l.map fun x => x.1).Nodup) (m : (T, pos, qual) ∈ l) (s : SameP T H H') (t : TabOk H' T pos qual) : TabsL l H' := fun x hx => by
  by_cases c : x = (T, pos, qual)
  · subst c; exact t
  · have ne : x.1 ≠ T := fun z => c (by
      have : x = (T, pos, qual) := by
        obtain ⟨i, hi, e1⟩ := List.getElem_of_mem hx
        obtain ⟨j, hj, e2⟩ := List.getElem_of_mem m
        have e3 : (l.map fun x => x.1)[i]? = (l.map fun x => x.1)[j]? := by
          rw [List.getElem?_map, List.getElem?_map, List.getElem?_eq_getElem hi, List.getElem?_eq_getElem hj, e1, e2]
          show some x.1 = some T
          rw [z]
        have ij := (List.getElem?_inj (by rw [List.length_map]; exact hi) nd).mp e3
        subst ij
        exact e1.symm.trans e2
      exact this)
    exact TabOk.other ne (h _ m) (h x hx) s
theorem TabsL.smT {l : List (Addr × Pos × Str)} {H H' : Hp} {T : Addr} {pos : Pos} {qual : Str} (h : TabsL l H) (m : (T, pos, qual) ∈ l) (s : SameP T H H') : SmT H H' := SmT.ofP (h _ m) s
def T6 (TT TP TU TS TL TV : Addr) : List (Addr × Pos × Str) := [(TV, ⟨147, 29, 147, 64⟩, "seen_through.<locals>.<lambda>"), (TL, ⟨151, 46, 151, 80⟩, "lead.<locals>.<lambda>"), (TT, ⟨156, 27, 156, 90⟩, "turn.<locals>.<lambda>"), (TP, ⟨159, 27, 159, 100⟩, "flip.<locals>.<lambda>"), (TU, ⟨162, 27, 162, 97⟩, "cut.<locals>.<lambda>"), (TS, ⟨165, 27, 165, 72⟩, "spread.<locals>.<lambda>")]
theorem put_old {n : Nat} {os A : List Int} (t : turnOk n os) (al : A.length = n) : putL (rep0 n) os A = oldT os A := by
  have ol := z5n t
  have om : ∀ o ∈ os, 0 ≤ o := fun o ho => (up_mem.mp (t.subset ho)).1
  have nd : os.Nodup := t.nodup_iff.mpr (up_nd _)
  have l1 : (putL (rep0 n) os A).length = n := by rw [put_len, z5o]
  have l2 : (oldT os A).length = n := by unfold oldT; rw [List.length_map, List.length_range, ol]
  refine List.ext_getElem? fun i => ?_
  by_cases c : i < n
  · have e1 := List.getElem?_eq_getElem (l := putL (rep0 n) os A) (i := i) (by omega)
    have mi := z7f t (s := i) c
    rcases put_get om e1 with ⟨_, h2⟩ | ⟨j, h1, h2⟩
    · rcases h2 with h2 | h2
      · exact absurd mi h2
      · omega
    · have jl := (List.getElem?_eq_some_iff.mp h1).1
      have xl := List.idxOf_lt_length_iff.mpr mi
      have e3 : os[os.idxOf (i : Int)]? = some (i : Int) := by rw [List.getElem?_eq_getElem xl, List.getElem_idxOf xl]
      have ij : os.idxOf (i : Int) = j := (List.getElem?_inj xl nd).mp (e3.trans h1.symm)
      rw [e1]
      unfold oldT
      rw [List.getElem?_map, List.getElem?_range (by omega)]
      show some _ = some (A.getD (os.idxOf (i : Int)) 0)
      rw [ij, List.getD_eq_getElem?_getD, h2]; rfl
  · rw [List.getElem?_eq_none (by omega), List.getElem?_eq_none (by omega)]
theorem see_len (ns : List Int) (st : Int) (ss cs : List Int) : (seeC ns st ss cs).length = (prodI ns).toNat := by unfold seeC; rw [List.length_map, List.length_range]
theorem see_at {ns ss cs A : List Int} {st : Int} (hs : sdOk ns) (g : good ns A) : (seeC ns st ss cs).getD (plH ns A).toNat 0 = cs.getD (st + dotI A ss).toNat 0 := by
  have p := plH_in g
  unfold seeC
  rw [List.getD_eq_getElem?_getD, List.getElem?_map, List.getElem?_range (by omega)]
  show cs.getD (st + dotI (atD ns (((plH ns A).toNat : Nat) : Int)) ss).toNat 0 = _
  rw [Int.toNat_of_nonneg p.1, atD_plH hs g]
theorem see_mov {ns ss cs : List Int} {st : Int} {d : Dg} (hf : fit ns) (hf2 : fit (sdsD ns d)) (nf : fltD ns d = none) (ni : ∀ side, d ≠ .inner side) (hl : ss.length = ns.length) : movC ns (seeC ns st ss cs) (sdsD ns d) (fun A => backD ns (sdsD ns d) A d) = seeC (sdsD ns d) (staD ns ss st d) (stsD ns ss d) cs := by
  unfold movC
  conv => rhs; unfold seeC
  refine List.map_congr_left fun i hi => ?_
  have il := List.mem_range.mp hi
  have g := z2p (ns := sdsD ns d) (p := (i : Int)) (z2y hf2) (Int.natCast_nonneg i) (by omega)
  have e : lensD ns [] d = [] := by
    cases d with
    | inner side => exact absurd rfl (ni side)
    | turn os => rfl
    | flip side => rfl
    | cut side f m g => rfl
    | spread side m => rfl
    | lead ms => rfl
  have bk := back_ok (L := []) (st := st) (A := atD (sdsD ns d) (i : Int)) nf (by rw [hl]; rfl) (by rw [e, List.append_nil]; exact g)
  rw [List.append_nil] at bk
  show (seeC ns st ss cs).getD (plH ns (backD ns (sdsD ns d) (atD (sdsD ns d) (i : Int)) d)).toNat 0 = _
  rw [see_at (z2y hf) bk.1, bk.2]
def inR (ns : List Int) (st : Int) (ss : List Int) (n : Nat) : Prop := ∀ A, good ns A -> 0 ≤ st + dotI A ss /\ st + dotI A ss < n
theorem inR_next {ns ss : List Int} {st : Int} {d : Dg} {n : Nat} (h : inR ns st ss n) (nf : fltD ns d = none) (ni : ∀ side, d ≠ .inner side) (hl : ss.length = ns.length) : inR (sdsD ns d) (staD ns ss st d) (stsD ns ss d) n := fun A g => by
  have e : lensD ns [] d = [] := by
    cases d with
    | inner side => exact absurd rfl (ni side)
    | turn os => rfl
    | flip side => rfl
    | cut side f m g => rfl
    | spread side m => rfl
    | lead ms => rfl
  have bk := back_ok (L := []) (st := st) (A := A) nf (by rw [hl]; rfl) (by rw [e, List.append_nil]; exact g)
  rw [List.append_nil] at bk
  rw [bk.2]
  exact h _ bk.1
theorem nz_prod {ns : List Int} (hs : ∀ n ∈ ns, 0 ≤ n) (h : ¬ prodI ns = 0) : ∀ n ∈ ns, 0 < n := by
  induction ns with
  | nil => intro n hn; cases hn
  | cons m ms ih =>
    rw [z0v] at h
    intro n hn
    have m0 := hs m List.mem_cons_self
    rcases List.mem_cons.mp hn with z | z
    · have : m ≠ 0 := fun w => h (by rw [w, Int.zero_mul])
      omega
    · exact ih (fun k hk => hs k (List.mem_cons_of_mem _ hk)) (fun w => h (by rw [w, Int.mul_zero])) n z
theorem inR_out {ns ss : List Int} {st : Int} {n : Nat} (hs : ∀ n ∈ ns, 0 ≤ n) (h : inR ns st ss n) (hl : ss.length = ns.length) : ¬ outV ns st ss n := fun o => by
  obtain ⟨⟨A, g1, e1⟩, B, g2, e2⟩ := lo_at (nz_prod hs o.1) hl
  have a := h A g1
  have b := h B g2
  rw [e1] at a
  rw [e2] at b
  rcases o.2 with z | z <;> omega
theorem sts_len2 {ns ss : List Int} {d : Dg} (nf : fltD ns d = none) (ni : ∀ side, d ≠ .inner side) (hl : ss.length = ns.length) : (stsD ns ss d).length = (sdsD ns d).length := by
  have := sts_lens (L := []) nf (by rw [hl]; rfl)
  rw [this]
  cases d with
  | inner side => exact absurd rfl (ni side)
  | turn os => rfl
  | flip side => rfl
  | cut side f m g => rfl
  | spread side m => rfl
  | lead ms => rfl
theorem fit_sm {ns : List Int} (h : fit ns) : sm ns := fun n hn => by have := h.1 n hn; omega
theorem fit_prod {ns : List Int} (h : fit ns) : prodI ns ≤ 512 := Int.le_trans (z1r fun n hn => (h.1 n hn).1).2 h.2.2.2
theorem SmT.dg {H H' : Hp} {p : Addr} (s : SmT H H') : ∀ {d : Dg}, DgAt H p d -> DgAt H' p d
  | .turn _, ⟨b, h1, h2, h3⟩ => ⟨b, s.tup h1, s.frz h2, h3⟩
  | .flip _, h => s.tup h
  | .cut .., ⟨h, r⟩ => ⟨s.tup h, r⟩
  | .spread .., ⟨h, r⟩ => ⟨s.tup h, r⟩
  | .lead _, ⟨b, h1, h2, h3⟩ => ⟨b, s.tup h1, s.tup h2, h3⟩
  | .inner _, h => s.tup h
def splviewed : Sp := fun vs H Q _ => ∃ (v p : Addr) (ns ss : List Int) (st : Int) (d : Dg), vs = [.ref v, .ref p] /\ VwAt H v ns st ss /\ vwOk ns ss /\ DgAt H p d /\ fltD ns d = none /\ (∀ side, d ≠ .inner side) /\ ∀ H' r, Same H H' -> VwAt H' r (sdsD ns d) (staD ns ss st d) (stsD ns ss d) -> Q (.ref r) H'
def splmoved (TT TP TU TS TL TV : Addr) : Sp := fun vs H Q _ => ∃ (t p : Addr) (ns cs : List Int) (d : Dg), vs = [.ref t, .ref p] /\ TbAt H t ns cs /\ DgAt H p d /\ fltD ns d = none /\ (∀ side, d ≠ .inner side) /\ fit ns /\ fit (sdsD ns d) /\ (cs.length : Int) = prodI ns /\ TabsL (T6 TT TP TU TS TL TV) H /\ ∀ H' r, SmT H H' -> TabsL (T6 TT TP TU TS TL TV) H' -> TbAt H' r (sdsD ns d) (movC ns cs (sdsD ns d) fun A => backD ns (sdsD ns d) A d) -> Q (.ref r) H'
theorem mov_cong {ns cs S : List Int} {F G : List Int -> List Int} (hs : sdOk S) (h : ∀ A, good S A -> F A = G A) : movC ns cs S F = movC ns cs S G := by
  unfold movC
  refine List.map_congr_left fun i hi => ?_
  have il := List.mem_range.mp hi
  rw [h _ (z2p hs (Int.natCast_nonneg i) (by omega))]
def splshows (TT TP TU TS TL TV : Addr) : Sp := fun vs H Q _ => ∃ (v c t : Addr) (ns ss c0 : List Int) (st : Int), vs = [.ref v, .ref c, .ref t] /\ VwAt H v ns st ss /\ H c = some (.tup (c0.map V.int)) /\ TbAt H t ns (seeC ns st ss c0) /\ fit ns /\ ss.length = ns.length /\ inR ns st ss c0.length /\ TabsL (T6 TT TP TU TS TL TV) H /\ ∀ H', SmT H H' -> TabsL (T6 TT TP TU TS TL TV) H' -> Q (.bl true) H'
theorem alk_tb {H : Hp} {a b : Addr} {ns cs : List Int} (h1 : TbAt H a ns cs) (h2 : TbAt H b ns cs) : AlkV H 9 (.ref a) (.ref b) := by
  obtain ⟨sa, ca, e1, e2, e3⟩ := h1
  obtain ⟨sb, cb, g1, g2, g3⟩ := h2
  refine .inr ⟨a, b, _, _, rfl, rfl, .inr ⟨e1, g1⟩, rfl, fun i x y hx hy => ?_⟩
  match i, hx, hy with
  | 0, hx, hy => cases hx; cases hy; exact .tup e2 g2 (z1h _)
  | 1, hx, hy => cases hx; cases hy; exact .tup e3 g3 (z1h _)
def lastOk (d : Dg) : Prop := (∀ ms, d = .lead ms -> fit ms) /\ ∀ side, d ≠ .inner side
theorem last_flip (s : Int) : lastOk (.flip s) := ⟨fun ms z => (nomatch z), fun _ z => (nomatch z)⟩
theorem led_fit {ns : List Int} {d : Dg} (h : ∀ ms, d = .lead ms -> fit ms) : ledOk ns d := by
  cases d with
  | lead ms => exact fun _ => h ms rfl
  | turn os => trivial
  | flip side => trivial
  | cut side f m g => trivial
  | spread side m => trivial
  | inner side => trivial
theorem fit_led {ns : List Int} {d : Dg} (h : ledOk ns d) (nf : fltD ns d = none) : ∀ ms, d = .lead ms -> fit ms := fun ms e => by subst e; exact h (z4c nf)
def splawT (K : PySem.W.Frag) (Ts : List Addr) : Sp := fun vs H Q _ => ∃ (a : Addr) (ns : List Int), vs = [.ref a] /\ SqL K H a (ns.map V.int) /\ ns.length ≤ 63 /\ (∀ T ∈ Ts, H T = some (.tbl #[])) /\ ∀ H', Q (.bl true) H'
theorem cut14 (ns : List Int) : ∃ ms : List Int, cutV (ns.map V.int) (some 1) (some 5) = ms.map V.int /\ ms.length ≤ 4 := by
  refine ⟨(ns.drop (min 1 ns.length)).take (min 5 ns.length - min 1 ns.length), ?_, ?_⟩
  · unfold cutV; simp only [HT.sIx, z0l]; rw [if_neg (by omega), if_neg (by omega), List.map_take, List.map_drop]; rfl
  · rw [List.length_take, List.length_drop]; omega
def fit1 (ns : List Int) : Prop := fit ns /\ ∀ n ∈ ns, 1 ≤ n
theorem z4x : ∀ {l : List Int}, (∀ n ∈ l, 1 ≤ n) -> ∀ j, 1 ≤ prodI (l.take j) /\ prodI (l.take j) ≤ prodI l
  | [], _, j => by rw [List.take_nil]; exact ⟨by decide, Int.le_refl _⟩
  | n :: l, h, 0 => by
    rw [List.take_zero, z0v]
    have a := h n List.mem_cons_self
    have b := (z4x (l := l) (fun m hm => h m (List.mem_cons_of_mem _ hm)) l.length).1
    rw [List.take_length] at b
    exact ⟨by decide, Int.le_trans (by decide) (Int.mul_le_mul a b (by decide) (by omega))⟩
  | n :: l, h, j + 1 => by
    rw [List.take_succ_cons, z0v, z0v]
    have a := h n List.mem_cons_self
    have b := z4x (l := l) (fun m hm => h m (List.mem_cons_of_mem _ hm)) j
    exact ⟨Int.le_trans (by decide) (Int.mul_le_mul a b.1 (by decide) (by omega)), Int.mul_le_mul_of_nonneg_left b.2 (by omega)⟩
theorem one1_one {n : Int} (h : 0 ≤ n) : one1 (one1 n) = one1 n := by
  unfold one1
  by_cases c : n = 0
  · rw [if_pos c]; rfl
  · rw [if_neg c, if_neg c]
theorem fit1_map {ns : List Int} (h : fit ns) : fit1 (ns.map one1) := by
  have e : (ns.map one1).map one1 = ns.map one1 := by
    rw [List.map_map]
    exact List.map_congr_left fun n hn => one1_one (h.1 n hn).1
  have m : ∀ n ∈ ns.map one1, 1 ≤ n /\ n ≤ 512 := fun n hn => by
    obtain ⟨k, hk, rfl⟩ := List.mem_map.mp hn
    have := h.1 k hk
    unfold one1; split <;> omega
  exact ⟨⟨fun n hn => ⟨by have := m n hn; omega, (m n hn).2⟩, by rw [List.length_map]; exact h.2.1, by rw [e]; exact h.2.2.1, by rw [e]; exact h.2.2.2⟩, fun n hn => (m n hn).1⟩
theorem fit1_take {ns : List Int} (h : fit1 ns) (j : Nat) : fit1 (ns.take j) := by
  have p := z4x (l := ns.map one1) (fun n hn => by
    obtain ⟨k, hk, rfl⟩ := List.mem_map.mp hn
    exact z4p (h.1.1 k hk).1) j
  rw [← List.map_take] at p
  exact ⟨⟨fun n hn => h.1.1 n (List.mem_of_mem_take hn), by rw [List.length_take]; have := h.1.2.1; omega, p.1, Int.le_trans p.2 h.1.2.2.2⟩, fun n hn => h.2 n (List.mem_of_mem_take hn)⟩
abbrev samount : Stmt := top 10
def spamount : Sp := fun vs H Q _ => ∃ (a : Addr) (ns : List Int), vs = [.ref a] /\ (H a = some (.lst (ns.map V.int)) \/ H a = some (.tup (ns.map V.int))) /\ sdOk ns /\ Q (.int (prodI ns)) H
variable {P : Program} {w : World} {K : PySem.W.Frag} {mg : Str -> Option Value} {base : Heap} {f : Addr} {fd : FuncData} {TT TP TU TS TL TV : Addr}
theorem scamount : FnScope ["sides", "product", "side"] ["sides"] (defScope samount) := ⟨rfl, rfl, rfl, by decide +kernel, rfl, by decide +kernel, by decide +kernel⟩
theorem okamount (F : Fun K "amount" "amount" samount f fd) : FnOk P w K mg base CX0 (1) f fd ["sides"] (spamount) := by
  have sc := scamount
  refine F.ok sc (fun vs H Q E h => ?_) (fun cdv A outer s H vs Q E hr h => ?_)
  · obtain ⟨a, ns, rfl, _⟩ := h; rfl
  obtain ⟨a, ns, rfl, ha | ha, hs, q⟩ := h
  · refine ⟨_, (z0c (z0m (i := 1) sc.nd rfl (by first | exact Or.inl rfl | exact Or.inr rfl) z0b) (z0c (z2v PassesOwn.never rfl (z4e (pv 0)) (z0y (i := 2) sc.nd rfl (Or.inl rfl)) (z0f (z0m (i := 1) sc.nd rfl (by first | exact Or.inl rfl | exact Or.inr rfl) (z0n z2h (pv 1) (pv 2))))) (z0f (z0s (pv 1))))), ?_⟩
    wp_walk using rRepT, tSeq, tIfS, eqV
    refine LoopL.mk (xs := ns.map V.int) (.of ha) (fun i σ H' => H' = H /\ ∃ y, σ = [some (.ref a), some (.int (prodI (ns.take i))), y]) ⟨rfl, _, rfl⟩ (fun i σ H' _ h => by rw [h.1]; exact .of ha) (fun i x σ H' e h => ?_) (fun σ H' h => ?_)
    · obtain ⟨h1, y, rfl⟩ := h
      subst h1
      obtain ⟨m, rfl, hm, m0, m1⟩ := z6n hs e
      wp_walk using rRepT, tSeq, tIfS, eqV
      rw [z6d hm]
      exact ⟨.inr ⟨by omega, by omega⟩, rfl, _, rfl⟩
    · obtain ⟨h1, y, rfl⟩ := h
      subst h1
      wp_walk using rRepT, tSeq, tIfS, eqV
      rw [z0l, List.take_length]
      exact q
  · refine ⟨_, (z0c (z0m (i := 1) sc.nd rfl (by first | exact Or.inl rfl | exact Or.inr rfl) z0b) (z0c (z2v PassesOwn.never rfl (z4o (pv 0)) (z0y (i := 2) sc.nd rfl (Or.inl rfl)) (z0f (z0m (i := 1) sc.nd rfl (by first | exact Or.inl rfl | exact Or.inr rfl) (z0n z2h (pv 1) (pv 2))))) (z0f (z0s (pv 1))))), ?_⟩
    wp_walk using rRepT, tSeq, tIfS, eqV
    refine LoopT.mk (xs := ns.map V.int) (.of ha) (fun i σ H' => H' = H /\ ∃ y, σ = [some (.ref a), some (.int (prodI (ns.take i))), y]) ⟨rfl, _, rfl⟩ (fun i σ H' _ h => by rw [h.1]; exact .of ha) (fun i x σ H' e h => ?_) (fun σ H' h => ?_)
    · obtain ⟨h1, y, rfl⟩ := h
      subst h1
      obtain ⟨m, rfl, hm, m0, m1⟩ := z6n hs e
      wp_walk using rRepT, tSeq, tIfS, eqV
      rw [z6d hm]
      exact ⟨.inr ⟨by omega, by omega⟩, rfl, _, rfl⟩
    · obtain ⟨h1, y, rfl⟩ := h
      subst h1
      wp_walk using rRepT, tSeq, tIfS, eqV
      rw [z0l, List.take_length]
      exact q
abbrev sbreadth : Stmt := top 11
def spbreadth : Sp := fun vs H Q _ => ∃ (a : Addr) (ns : List Int), vs = [.ref a] /\ H a = some (.tup (ns.map V.int)) /\ sdOk ns /\ ns.length ≤ 63 /\ ∀ H', Same H H' -> Q (.int (prodI (ns.map one1))) H'
theorem scbreadth : FnScope ["sides"] ["sides"] (defScope sbreadth) := ⟨rfl, rfl, rfl, by decide +kernel, rfl, by decide +kernel, by decide +kernel⟩
theorem okbreadth (F : Fun K "breadth" "breadth" sbreadth f fd) (camount : Callee P w K mg base CX0 (1) "amount" ["sides"] spamount) : FnOk P w K mg base CX0 (2) f fd ["sides"] (spbreadth) := by
  have sc := scbreadth
  refine F.ok sc (fun vs H Q E h => ?_) (fun cdv A outer s H vs Q E hr h => ?_)
  · obtain ⟨a, ns, rfl, _⟩ := h; rfl
  obtain ⟨a, ns, rfl, ha, hs, h63, q⟩ := h
  refine ⟨_, (z0f (z0s (z0u camount hr (by rfl) z1n (z0a (z3j (own := ["side"]) rfl (z4o (pv 0)) (by decide) (by decide) rfl (by decide) (fun _ _ _ _ => (z0y (i := 0) (show (["side"] : List Str).Nodup by decide +kernel) rfl (Or.inl rfl))) (fun _ _ _ _ => (pe_ifExp (z0j op_ne (pv 0) z0b (z0o _)) (pv 0) z0b))) z0d)))), ?_⟩
  wp_walk using rRepT, tSeq, tIfS, eqV
  refine CompT.mk (xs := ns.map V.int) (.of ha) (fun i ys σ H' => H' = H /\ ys = ((ns.take i).map one1).map V.int /\ ∃ y, σ = [y]) ⟨rfl, rfl, _, rfl⟩ (fun i ys σ H' _ h => by rw [h.1]; exact .of ha) (fun i x ys σ H' e h => ?_) (fun ys σ H' h p hp => ?_)
  · obtain ⟨h1, h2, y, rfl⟩ := h
    subst h1 h2
    obtain ⟨m, rfl, hm, m0, m1⟩ := z6n hs e
    have e1 : ((ns.take (i + 1)).map one1).map V.int = ((ns.take i).map one1).map V.int ++ [V.int (one1 m)] := by
      rw [List.take_add_one, hm, List.map_append, List.map_append]; rfl
    have e2 : (((ns.take i).map one1).map V.int).length < sizeLine := by
      rw [List.length_map, List.length_map, List.length_take]; exact z0w (by omega)
    wp_walk using rRepT, tSeq, tIfS, eqV, e1
    refine ⟨e2, ?_⟩
    unfold one1
    by_cases m2 : m = 0
    · simp [m2]
    · simp [m2]
  · obtain ⟨h1, h2, y, rfl⟩ := h
    subst h1 h2
    rw [z0l, List.take_length]
    exact ⟨p, _, rfl, .inl z0k, one_ok hs, q _ (z0e hp _)⟩
abbrev sallowed : Stmt := top 12
theorem scallowed : FnScope ["sides"] ["sides"] (defScope sallowed) := ⟨rfl, rfl, rfl, by decide +kernel, rfl, by decide +kernel, by decide +kernel⟩
theorem okallowed (F : Fun K "allowed" "allowed" sallowed f fd) {CTooLarge : Addr} (nTooLarge : PySem.W.nsIn K mainGlobals "TooLarge" = some (some (.ref CTooLarge))) (cbreadth : Callee P w K mg base CX0 (2) "breadth" ["sides"] spbreadth) (zlen : mg "len" = none) {tMOST_SIDES : Tok} (gMOST_SIDES : mg "MOST_SIDES" = some (.int 6 tMOST_SIDES)) {tMOST_BREADTH : Tok} (gMOST_BREADTH : mg "MOST_BREADTH" = some (.int 512 tMOST_BREADTH)) (xTooLarge : PySem.W.excIn K CTooLarge [.type "ValueError", .type "Exception", .type "BaseException", .type "object"] "ValueError.__new__" = true) : FnOk P w K mg base (CX1 P w) (3) f fd ["sides"] ((spallowed CTooLarge)) := by
  have sc := scallowed
  refine F.okX sc (fun vs H Q E h => ?_) (fun cdv A outer s H vs Q E hr h => ?_)
  · obtain ⟨a, ns, rfl, _⟩ := h; rfl
  obtain ⟨a, ns, rfl, ha, hs, h63, q1, q2⟩ := h
  refine ⟨_, (z0c (z1a (z0j z4h (z0r z0q (by rfl) zlen PySem.boot_len (z0a (pv 0) z0d)) (pe_glob (v := .int 6) (by rfl) gMOST_SIDES ⟨_, rfl⟩) (z0o _)) (z0f (z1w PySem.F.excBase_ValueError rfl (by rfl) nTooLarge xTooLarge z2a (z0a z0z z0d))) z0p) (z0c (z1a (z0j z4h (z0u cbreadth hr (by rfl) z1n (z0a (pv 0) z0d)) (pe_glob (v := .int 512) (by rfl) gMOST_BREADTH ⟨_, rfl⟩) (z0o _)) (z0f (z1w PySem.F.excBase_ValueError rfl (by rfl) nTooLarge xTooLarge z2a (z0a z0z z0d))) z0p) (z0f (z0s (pv 0))))), ?_⟩
  wp_walk using rRepT, tSeq, tIfS, eqV, spbreadth
  refine ⟨_, .inr (.of ha), ?_⟩
  rw [z0l]
  by_cases h6 : 6 < ns.length
  · rw [if_pos (by omega)]
    exact ⟨small (by decide), q1 (.inl h6) _ (Same.refl _)⟩
  rw [if_neg (by omega)]
  refine ⟨ns, ha, hs, h63, fun H1 s1 => ?_⟩
  by_cases h5 : 512 < prodI (ns.map one1)
  · rw [if_pos h5]
    exact ⟨small (by decide), q1 (.inr h5) _ s1⟩
  rw [if_neg h5]
  exact q2 (fun z => z.elim h6 h5) _ s1
abbrev sstridesof : Stmt := top 13
def spstridesof : Sp := fun vs H Q _ => ∃ (a : Addr) (ns : List Int), vs = [.ref a] /\ H a = some (.tup (ns.map V.int)) /\ sdOk ns /\ ns.length ≤ 63 /\ ∀ H' p, Same H H' -> H' p = some (.tup ((stL ns ns.length).reverse.map V.int)) -> Q (.ref p) H'
theorem scstridesof : FnScope ["sides", "strides", "stride", "side"] ["sides"] (defScope sstridesof) := ⟨rfl, rfl, rfl, by decide +kernel, rfl, by decide +kernel, by decide +kernel⟩
theorem okstridesof (F : Fun K "strides_of" "strides_of" sstridesof f fd) (ztuple : mg "tuple" = none) (zreversed : mg "reversed" = none) : FnOk P w K mg base CX0 (1) f fd ["sides"] (spstridesof) := by
  have sc := scstridesof
  refine F.ok sc (fun vs H Q E h => ?_) (fun cdv A outer s H vs Q E hr h => ?_)
  · obtain ⟨a, ns, rfl, _⟩ := h; rfl
  obtain ⟨a, ns, rfl, ha, hs, h63, q⟩ := h
  refine ⟨_, (z0c (z0m (i := 1) sc.nd rfl (by first | exact Or.inl rfl | exact Or.inr rfl) (pe_lst z0d)) (z0c (z0m (i := 2) sc.nd rfl (by first | exact Or.inl rfl | exact Or.inr rfl) z0b) (z0c (z2v PassesOwn.never rfl (pi_revT (by rfl) zreversed (pv 0)) (z0y (i := 3) sc.nd rfl (Or.inl rfl)) (z0c (z3q (pe_app (pv 1) (pv 2))) (z0f (z0m (i := 2) sc.nd rfl (by first | exact Or.inl rfl | exact Or.inr rfl) (z0n z2h (pv 2) (pv 3)))))) (z0f (z0s (pe_tupRev rfl (by rfl) (by rfl) ztuple zreversed (pv 1))))))), ?_⟩
  wp_walk using rRepT, tSeq, tIfS, eqV
  refine ⟨small (by decide), fun p hp => ?_⟩
  refine LoopV.mk (xs := ns.map V.int) (.of (z0e hp _ _ _ ha)) (fun i σ H' => Same H H' /\ H' p = some (.lst ((stL ns i).map V.int)) /\ ∃ y, σ = [some (.ref a), some (.ref p), some (.int (stP ns i)), y]) ⟨z0e hp _, z0k, _, rfl⟩ (fun i σ H' _ h => .of (h.1 _ _ ha)) (fun i x σ H' hi e h => ?_) (fun σ H' h => ?_)
  · obtain ⟨h1, h2, y, rfl⟩ := h
    obtain ⟨m, rfl, hm, m0, m1⟩ := z6n hs e
    rw [z0l] at hi hm
    have sm : ((stL ns i).map V.int).length < sizeLine := by
      rw [List.length_map, stL, List.length_map, List.length_range]; exact z0w (by omega)
    have s2 : Same H (upd H' p (.lst (((stL ns i).map V.int) ++ [V.int (stP ns i)]))) := fun b o e => by
      have nb : b ≠ p := fun z => by rw [z, hp] at e; cases e
      rw [z0x nb]; exact h1 b o e
    wp_walk using rRepT, tSeq, tIfS, eqV
    rw [stP_succ hi hm, z7g, List.map_append]
    refine ⟨⟨_, h2⟩, _, h2, sm, .inr ⟨by omega, by omega⟩, s2, rfl, ?_⟩
    exact ⟨rfl, _, rfl⟩
  · obtain ⟨h1, h2, y, rfl⟩ := h
    rw [z0l] at h2
    wp_walk using rRepT, tSeq, tIfS, eqV
    refine ⟨_, .of h2, fun p2 hp2 => ?_⟩
    rw [← List.map_reverse]
    exact q _ _ (h1.trans (z0e hp2 _)) z0k
abbrev splaceof : Stmt := top 14
theorem scplaceof : FnScope ["sides", "at", "side", "coordinate"] ["sides", "at"] (defScope splaceof) := ⟨rfl, rfl, rfl, by decide +kernel, rfl, by decide +kernel, by decide +kernel⟩
theorem okplaceof (F : Fun K "place_of" "place_of" splaceof f fd) {CNoPlace : Addr} (nNoPlace : PySem.W.nsIn K mainGlobals "NoPlace" = some (some (.ref CNoPlace))) (cstridesof : Callee P w K mg base CX0 (1) "strides_of" ["sides"] spstridesof) (zlen : mg "len" = none) (zzip : mg "zip" = none) (zsum : mg "sum" = none) (xNoPlace : PySem.W.excIn K CNoPlace [.type "ValueError", .type "Exception", .type "BaseException", .type "object"] "ValueError.__new__" = true) : FnOk P w K mg base (CX1 P w) (2) f fd ["sides", "at"] ((spplaceof CNoPlace)) := by
  have sc := scplaceof
  refine F.okX sc (fun vs H Q E h => ?_) (fun cdv A outer s H vs Q E hr h => ?_)
  · obtain ⟨a, b, ns, ms, rfl, _⟩ := h; rfl
  obtain ⟨a, b, ns, ms, rfl, ha, hb, hs, h63, h70, q1, q2⟩ := h
  refine ⟨_, (z0c (z1a (z0j op_ne (z0r z0q (by rfl) zlen PySem.boot_len (z0a (pv 1) z0d)) (z0r z0q (by rfl) zlen PySem.boot_len (z0a (pv 0) z0d)) (z0o _)) (z0f (z1w PySem.F.excBase_ValueError rfl (by rfl) nNoPlace xNoPlace z2a (z0a z0z z0d))) z0p) (z0c (z2v PassesOwn.leaving rfl (z7a (by rfl) zzip (z0a (pv 0) (z0a (pv 1) z0d))) (z4g (n := 2) (z6e rfl (z1x (z0y (i := 2) sc.nd rfl (Or.inl rfl)) (z1x (z0y (i := 3) sc.nd rfl (Or.inl rfl)) z4f)))) (z0f (z1a (z3i (z0j z3a (pv 3) z0b (z0o _)) (z2u (z0j op_ge (pv 3) (pv 2) (z0o _)))).pt (z0f (z1w PySem.F.excBase_ValueError rfl (by rfl) nNoPlace xNoPlace z2a (z0a z0z z0d))) z0p))) (z0f (z0s (z0r (z4v rfl) (by rfl) zsum boot_sum (z0a (z3j (own := ["coordinate", "stride"]) rfl (z7a (by rfl) zzip (z0a (pv 1) (z0a (z0u cstridesof hr (by rfl) z1n (z0a (pv 0) z0d)) z0d))) (by decide) (by decide) rfl (by decide) (fun _ _ _ _ => (z4g (n := 2) (z6e rfl (z1x (z0y (i := 0) (show (["coordinate", "stride"] : List Str).Nodup by decide +kernel) rfl (Or.inl rfl)) (z1x (z0y (i := 1) (show (["coordinate", "stride"] : List Str).Nodup by decide +kernel) rfl (Or.inl rfl)) z4f))))) (fun _ _ _ _ => (z0n z2h (pv 0) (pv 1)))) z0d)))))), ?_⟩
  wp_walk using rRepT, tSeq, tIfS, eqV
  refine ⟨_, .inr (.of hb), _, .inr (.of ha), ?_⟩
  rw [z0l, z0l]
  by_cases hl : ms.length = ns.length
  · rw [if_neg (by omega)]
    refine LoopZ.mk (xs := ns.map V.int) (ys := ms.map V.int) ns.length (by rw [z0l, z0l, hl, Nat.min_self]) (.of ha) (.of hb) (fun i σ H' => Same H H' /\ (∀ (j : Nat) m n, j < i -> ms[j]? = some m -> ns[j]? = some n -> 0 ≤ m /\ m < n) /\ ∃ y2 y3, σ = [some (.ref a), some (.ref b), y2, y3]) ⟨Same.refl _, (fun j m n hj => absurd hj (Nat.not_lt_zero _)), _, _, rfl⟩ (fun i σ H' _ h => ⟨.of (h.1 _ _ ha), .of (h.1 _ _ hb)⟩) (fun i x y σ H' T hi ex ey h hT => ?_) (fun σ H' h => ?_)
    · obtain ⟨h1, h2, y2, y3, rfl⟩ := h
      obtain ⟨n, rfl, hn, n0, n1⟩ := z6n hs ex
      rw [List.getElem?_map] at ey
      obtain ⟨m, hm, rfl⟩ : ∃ m, ms[i]? = some m /\ y = .int m := by
        cases q : ms[i]? with
        | none => rw [q] at ey; cases ey
        | some m => rw [q] at ey; exact ⟨m, rfl, (Option.some.inj ey).symm⟩
      wp_walk using rRepT, tSeq, tIfS, eqV
      have s2 : Same H (upd H' T (.tup [V.int n, V.int m])) := h1.trans (z0e hT _)
      by_cases c1 : m < 0
      · rw [if_pos c1]; exact ⟨small (by decide), q1 (fun g => by have := g.2 i m n hm hn; omega) _ s2⟩
      rw [if_neg c1]
      by_cases c2 : n ≤ m
      · rw [if_pos c2]; exact ⟨small (by decide), q1 (fun g => by have := g.2 i m n hm hn; omega) _ s2⟩
      rw [if_neg c2]
      refine ⟨s2, fun j m' n' hj e1 e2 => ?_, _, rfl⟩
      by_cases hji : j = i
      · subst hji; rw [hm] at e1; rw [hn] at e2; cases e1; cases e2; omega
      · exact h2 j m' n' (by omega) e1 e2
    · obtain ⟨h1, h2, y2, y3, rfl⟩ := h
      have g : good ns ms := ⟨hl, fun i m n e1 e2 => h2 i m n (List.getElem?_eq_some_iff.mp e2).1 e1 e2⟩
      wp_walk using rRepT, tSeq, tIfS, eqV, spstridesof
      refine ⟨ns, h1 _ _ ha, hs, h63, fun H1 p s1 hp => ?_⟩
      have hb1 := s1 _ _ (h1 _ _ hb)
      have lz : (List.zipWith (fun a b => a * b) ms (stL ns ns.length).reverse).length = ns.length := by rw [List.length_zipWith, List.length_reverse, stL, List.length_map, List.length_range, hl, Nat.min_self]
      refine CompZ.mk (xs := ms.map V.int) (ys := (stL ns ns.length).reverse.map V.int) ns.length (by rw [z0l, st_len, hl, Nat.min_self]) (.of hb1) (.of hp) (fun i zs σ H' => Same H1 H' /\ zs = ((List.zipWith (fun a b => a * b) ms (stL ns ns.length).reverse).take i).map V.int /\ ∃ y z, σ = [y, z]) ⟨Same.refl _, rfl, _, _, rfl⟩ (fun i zs σ H' _ h => ⟨.of (h.1 _ _ hb1), .of (h.1 _ _ hp)⟩) (fun i x y zs σ H' T hi ex ey h hT => ?_) (fun zs σ H' h q hq => ?_) (fun i zs σ H' h => ?_)
      · obtain ⟨h3, rfl, y4, y5, rfl⟩ := h
        obtain ⟨m, rfl, hm⟩ := z2l ex
        obtain ⟨t, rfl, ht⟩ := z2l ey
        obtain ⟨n, hn⟩ : ∃ n, ns[i]? = some n := ⟨ns[i], List.getElem?_eq_getElem hi⟩
        have mb := g.2 i m n hm hn
        have nb := hs n (List.mem_of_getElem? hn)
        have ez : (List.zipWith (fun a b => a * b) ms (stL ns ns.length).reverse)[i]? = some (m * t) := by rw [List.getElem?_zipWith, hm, ht]
        have et : ((List.zipWith (fun a b => a * b) ms (stL ns ns.length).reverse).take (i + 1)).map V.int = ((List.zipWith (fun a b => a * b) ms (stL ns ns.length).reverse).take i).map V.int ++ [V.int (m * t)] := by
          rw [List.take_add_one, ez, List.map_append]; rfl
        have sm : (((List.zipWith (fun a b => a * b) ms (stL ns ns.length).reverse).take i).map V.int).length < sizeLine := by rw [List.length_map, List.length_take]; exact z0w (by omega)
        refine ⟨sm, ?_⟩
        wp_walk using rRepT, tSeq, tIfS, eqV, et
        exact ⟨.inl ⟨by omega, by omega⟩, h3.trans (z0e hT _), _, rfl⟩
      · obtain ⟨h3, rfl, y4, y5, rfl⟩ := h
        rw [List.take_of_length_le (by omega)]
        exact ⟨q, rfl, _, .of z0k, q2 g _ ((h1.trans s1).trans (h3.trans (z0e hq _)))⟩
      · obtain ⟨h3, rfl, _⟩ := h
        rw [List.length_map, List.length_take]; exact z0w (by omega)
  · rw [if_pos (by omega)]
    exact ⟨small (by decide), q1 (fun g => hl g.1) _ (Same.refl _)⟩
abbrev satof : Stmt := top 15
theorem scatof : FnScope ["sides", "place", "at", "left", "side"] ["sides", "place"] (defScope satof) := ⟨rfl, rfl, rfl, by decide +kernel, rfl, by decide +kernel, by decide +kernel⟩
theorem okatof (F : Fun K "at_of" "at_of" satof f fd) {CNoPlace : Addr} (nNoPlace : PySem.W.nsIn K mainGlobals "NoPlace" = some (some (.ref CNoPlace))) (camount : Callee P w K mg base CX0 (1) "amount" ["sides"] spamount) (zreversed : mg "reversed" = none) (ztuple : mg "tuple" = none) (xNoPlace : PySem.W.excIn K CNoPlace [.type "ValueError", .type "Exception", .type "BaseException", .type "object"] "ValueError.__new__" = true) : FnOk P w K mg base (CX1 P w) (2) f fd ["sides", "place"] ((spatof CNoPlace)) := by
  have sc := scatof
  refine F.okX sc (fun vs H Q E h => ?_) (fun cdv A outer s H vs Q E hr h => ?_)
  · obtain ⟨a, ns, pl, rfl, _⟩ := h; rfl
  obtain ⟨a, ns, pl, rfl, ha, hs, h63, q1, q2⟩ := h
  refine ⟨_, (z0c (z1a (z3i (z0j z3a (pv 1) z0b (z0o _)) (z2u (z0j op_ge (pv 1) (z0u camount hr (by rfl) z1n (z0a (pv 0) z0d)) (z0o _)))).pt (z0f (z1w PySem.F.excBase_ValueError rfl (by rfl) nNoPlace xNoPlace z2a (z0a z0z z0d))) z0p) (z0c (z0m (i := 2) sc.nd rfl (by first | exact Or.inl rfl | exact Or.inr rfl) (pe_lst z0d)) (z0c (z0m (i := 3) sc.nd rfl (by first | exact Or.inl rfl | exact Or.inr rfl) (pv 1)) (z0c (z2v PassesOwn.leaving rfl (pi_revT (by rfl) zreversed (pv 0)) (z0y (i := 4) sc.nd rfl (Or.inl rfl)) (z0c (z3q (pe_app (pv 2) (z0n z1q (pv 3) (pv 4)))) (z0f (z0m (i := 3) sc.nd rfl (by first | exact Or.inl rfl | exact Or.inr rfl) (z0n z2w (pv 3) (pv 4)))))) (z0f (z0s (pe_tupRev rfl (by rfl) (by rfl) ztuple zreversed (pv 2)))))))), ?_⟩
  wp_walk using rRepT, tSeq, tIfS, eqV, spamount
  by_cases c1 : pl < 0
  · rw [if_pos c1]; exact ⟨small (by decide), q1 (.inl c1) _ (Same.refl _)⟩
  rw [if_neg c1]
  refine ⟨ns, .inr ha, hs, ?_⟩
  by_cases c2 : prodI ns ≤ pl
  · rw [if_pos c2]; exact ⟨small (by decide), q1 (.inr c2) _ (Same.refl _)⟩
  rw [if_neg c2]
  have nz := prod_nz (ns := ns) (by omega)
  refine ⟨small (by decide), fun p hp => ?_⟩
  refine LoopV.mk (xs := ns.map V.int) (.of (z0e hp _ _ _ ha)) (fun i σ H' => Same H H' /\ H' p = some (.lst ((dgL ns pl i).map V.int)) /\ ∃ y, σ = [some (.ref a), some (.int pl), some (.ref p), some (.int (lfI ns pl i)), y]) ⟨z0e hp _, z0k, _, rfl⟩ (fun i σ H' _ h => .of (h.1 _ _ ha)) (fun i x σ H' hi e h => ?_) (fun σ H' h => ?_)
  · obtain ⟨h1, h2, y, rfl⟩ := h
    obtain ⟨m, rfl, hm, m0, m1⟩ := z6n hs e
    rw [z0l] at hi hm
    have mz := nz m (List.mem_of_getElem? hm)
    have rg := z7p hi hm
    have sm : ((dgL ns pl i).map V.int).length < sizeLine := by
      rw [List.length_map, dgL, List.length_map, List.length_range]; exact z0w (by omega)
    have d1 : dgI ns pl i = lfI ns pl i % m := by unfold dgI; rw [rg]
    have l1 : lfI ns pl (i + 1) = lfI ns pl i / m := by show lfI ns pl i / _ = _; rw [rg]
    have fd : (lfI ns pl i).fdiv m = lfI ns pl i / m := Int.fdiv_eq_ediv_of_nonneg _ m0
    have s2 : Same H (upd H' p (.lst (((dgL ns pl i).map V.int) ++ [V.int (lfI ns pl i % m)]))) := fun b o e => by
      have nb : b ≠ p := fun z => by rw [z, hp] at e; cases e
      rw [z0x nb]; exact h1 b o e
    wp_walk using rRepT, tSeq, tIfS, eqV
    rw [l1, dgL_succ, List.map_append, d1, fd]
    exact ⟨⟨_, h2⟩, by omega, _, h2, sm, mz, by omega, by omega, s2, rfl, rfl, _, rfl⟩
  · obtain ⟨h1, h2, y, rfl⟩ := h
    rw [z0l] at h2
    wp_walk using rRepT, tSeq, tIfS, eqV
    refine ⟨_, .of h2, fun p2 hp2 => ?_⟩
    rw [← List.map_reverse]
    exact q2 (by omega) (by omega) _ _ (h1.trans (z0e hp2 _)) z0k
abbrev sallat : Stmt := top 16
def spallat : Sp := fun vs H Q _ => ∃ (a : Addr) (ns : List Int), vs = [.ref a] /\ H a = some (.tup (ns.map V.int)) /\ sdOk ns /\ ns.length ≤ 63 /\ prodI ns ≤ 512 /\ ∀ H' l ps, Same H H' -> H' l = some (.lst (ps.map V.ref)) -> TpsAt H' ps (allD ns) -> Q (.ref l) H'
theorem scallat : FnScope ["sides"] ["sides"] (defScope sallat) := ⟨rfl, rfl, rfl, by decide +kernel, rfl, by decide +kernel, by decide +kernel⟩
theorem okallat (F : Fun K "all_at" "all_at" sallat f fd) (catof : Callee P w K mg base (CX1 P w) (2) "at_of" ["sides", "place"] (spatof CNoPlace)) (camount : Callee P w K mg base CX0 (2) "amount" ["sides"] spamount) (zrange : mg "range" = none) : FnOk P w K mg base CX0 (3) f fd ["sides"] (spallat) := by
  have sc := scallat
  refine F.ok sc (fun vs H Q E h => ?_) (fun cdv A outer s H vs Q E hr h => ?_)
  · obtain ⟨a, ns, rfl, _⟩ := h; rfl
  obtain ⟨a, ns, rfl, ha, hs, h63, h512, q⟩ := h
  refine ⟨_, (z0f (z0s (z3k (own := ["place"]) (fv := ["sides"]) (js := [0]) rfl (z3r (by rfl) zrange (z0a (z0u camount hr (by rfl) z1n (z0a (pv 0) z0d)) z0d)) rfl (by decide) rfl (by decide) (by first | exact fun _ _ h => h | exact z3u rfl | exact z3t rfl rfl | exact z3s rfl rfl rfl) (z5i (by rfl)) rfl (cap1 (by first | exact ⟨rfl, .inl rfl, .inl rfl⟩ | exact ⟨rfl, .inl rfl, .inr rfl⟩)) (fun _ _ _ _ => (z0y (i := 0) (show (["place", "sides"] : List Str).Nodup by decide +kernel) rfl (Or.inl rfl))) (fun _ _ _ _ => (z0u catof hr (by rfl) z2s (z0a (pv 1) (z0a (pv 0) z0d))))))), ?_⟩
  have pn := z4y fun n hn => (hs n hn).1
  wp_walk using rRepT, tSeq, tIfS, eqV, spamount
  refine ⟨ns, .inr ha, hs, by omega, by omega, ?_⟩
  refine CompR.mk (fun j ys σ G => ∃ ps : List Addr, Same H G /\ ys = ps.map V.ref /\ TpsAt G ps ((allD ns).take j) /\ ∃ y, σ = [y, some (.ref a)]) ⟨[], Same.refl _, rfl, ⟨rfl, fun i t e => by simp at e⟩, _, rfl⟩ (fun j ys σ G hj h => ?_) (fun ys σ G h p hp => ?_)
  · obtain ⟨ps, sG, rfl, tp, y, rfl⟩ := h
    have pl := tp.1
    rw [List.length_take, all_len] at pl
    refine ⟨by rw [List.length_map]; exact z0w (by omega), ?_⟩
    wp_walk using rRepT, tSeq, tIfS, eqV, spatof
    refine ⟨ns, sG _ _ ha, hs, h63, (fun z => by omega), fun z1 z2 H1 p s1 hp => ⟨sG.trans s1, ps ++ [p], by rw [List.map_append]; rfl, ?_, _, rfl⟩⟩
    rw [List.take_add_one, all_get (by omega)]
    refine (tp.mono fun b xs e => s1 _ _ e).snoc ?_
    rw [hp, show (0 : Int) + (j : Int) = (j : Int) by omega]; rfl
  · obtain ⟨ps, sG, rfl, tp, y, rfl⟩ := h
    rw [List.take_of_length_le (by rw [all_len]; omega)] at tp
    exact q _ p ps (sG.trans (z0e hp _)) z0k (tp.mono fun b xs e => z0e hp _ _ _ e)
abbrev schangedat : Stmt := top 17
def spchangedat : Sp := fun vs H Q _ => ∃ (a : Addr) (ns : List Int) (k : Nat) (m : Int), vs = [.ref a, .int k, .int m] /\ H a = some (.tup (ns.map V.int)) /\ ns.length ≤ 63 /\ k < ns.length /\ ∀ H' p, Same H H' -> H' p = some (.tup ((ns.set k m).map V.int)) -> Q (.ref p) H'
theorem scchangedat : FnScope ["row", "k", "number"] ["row", "k", "number"] (defScope schangedat) := ⟨rfl, rfl, rfl, by decide +kernel, rfl, by decide +kernel, by decide +kernel⟩
theorem okchangedat (F : Fun K "changed_at" "changed_at" schangedat f fd) : FnOk P w K mg base CX0 (1) f fd ["row", "k", "number"] (spchangedat) := by
  have sc := scchangedat
  refine F.ok sc (fun vs H Q E h => ?_) (fun cdv A outer s H vs Q E hr h => ?_)
  · obtain ⟨a, ns, k, m, rfl, _⟩ := h; rfl
  obtain ⟨a, ns, k, m, rfl, ha, h63, hk, q⟩ := h
  refine ⟨_, (z0f (z0s (z0n z1v (z0n z1v (z1c z6a (pv 0) z1k (z1e (pv 1))) (z1d (z0a (pv 2) z0d))) (z1c z6a (pv 0) (z1e (z0n z1i (pv 1) z0b)) z1k)))), ?_⟩
  wp_walk using rRepT, tSeq, tIfS, eqV
  refine ⟨_, ha, ?_, fun r1 H1 s1 hr1 => ⟨small (by decide), fun p hp => ⟨_, z0e hp _ _ _ hr1, ?_, fun r2 H2 s2 hr2 => ⟨_, s2 _ _ (z0e hp _ _ _ (s1 _ _ ha)), ?_, fun r3 H3 s3 hr3 => ⟨_, s3 _ _ hr2, _, hr3, ?_, fun r4 H4 s4 hr4 => ?_⟩⟩⟩⟩⟩
  · rw [z0l]; intro z; have z2 := z.2; simp only [HT.sIx] at z2; rw [if_neg (by omega)] at z2; omega
  · rw [cut_lo (by omega), z0l]; exact small (by rw [List.length_take]; omega)
  · rw [z0l]; intro z; have z1 := z.1; simp only [HT.sIx] at z1; rw [if_neg (by omega)] at z1; omega
  · rw [show (k : Int) + 1 = ((k + 1 : Nat) : Int) by omega, cut_lo (by omega), cut_hi (by omega)]; simp only [List.length_append, List.length_map, List.length_take, List.length_drop, List.length_cons, List.length_nil]; exact small (by omega)
  rw [show (k : Int) + 1 = ((k + 1 : Nat) : Int) by omega, cut_lo (by omega), cut_hi (by omega)] at hr4
  refine q _ _ (s1.trans ((z0e hp _).trans (s2.trans (s3.trans s4)))) ?_
  rw [hr4, List.set_eq_take_append_cons_drop, if_pos hk, List.append_assoc, List.map_append, List.map_cons]
  rfl
abbrev saddedat : Stmt := top 18
def spaddedat : Sp := fun vs H Q _ => ∃ (a : Addr) (ns : List Int) (k : Nat) (m : Int), vs = [.ref a, .int k, .int m] /\ H a = some (.tup (ns.map V.int)) /\ ns.length ≤ 63 /\ ∀ H' p, Same H H' -> H' p = some (.tup ((insL ns k m).map V.int)) -> Q (.ref p) H'
theorem scaddedat : FnScope ["row", "k", "number"] ["row", "k", "number"] (defScope saddedat) := ⟨rfl, rfl, rfl, by decide +kernel, rfl, by decide +kernel, by decide +kernel⟩
theorem okaddedat (F : Fun K "added_at" "added_at" saddedat f fd) : FnOk P w K mg base CX0 (1) f fd ["row", "k", "number"] (spaddedat) := by
  have sc := scaddedat
  refine F.ok sc (fun vs H Q E h => ?_) (fun cdv A outer s H vs Q E hr h => ?_)
  · obtain ⟨a, ns, k, m, rfl, _⟩ := h; rfl
  obtain ⟨a, ns, k, m, rfl, ha, h63, q⟩ := h
  refine ⟨_, (z0f (z0s (z0n z1v (z0n z1v (z1c z1t (pv 0) z1k (z1e (pv 1))) (z1d (z0a (pv 2) z0d))) (z1c z1t (pv 0) (z1e (pv 1)) z1k)))), ?_⟩
  wp_walk using rRepT, tSeq, tIfS, eqV
  refine ⟨_, ha, fun r1 H1 s1 hr1 => ⟨small (by decide), fun p hp => ⟨_, z0e hp _ _ _ hr1, ?_, fun r2 H2 s2 hr2 => ⟨_, s2 _ _ (z0e hp _ _ _ (s1 _ _ ha)), fun r3 H3 s3 hr3 => ⟨_, s3 _ _ hr2, _, hr3, ?_, fun r4 H4 s4 hr4 => ?_⟩⟩⟩⟩⟩
  · rw [z2k, z0l]; exact small (by rw [List.length_take]; omega)
  · rw [z2k, z2x]; simp only [List.length_append, List.length_map, List.length_take, List.length_drop, List.length_cons, List.length_nil]; exact small (by omega)
  rw [z2k, z2x] at hr4
  refine q _ _ (s1.trans ((z0e hp _).trans (s2.trans (s3.trans s4)))) ?_
  rw [hr4]; unfold insL; rw [List.map_append, List.map_append]; rfl
abbrev sdroppedat : Stmt := top 19
def spdroppedat : Sp := fun vs H Q _ => ∃ (a : Addr) (ns : List Int) (k : Nat), vs = [.ref a, .int k] /\ H a = some (.tup (ns.map V.int)) /\ ns.length ≤ 63 /\ k < ns.length /\ ∀ H' p, Same H H' -> H' p = some (.tup ((ns.eraseIdx k).map V.int)) -> Q (.ref p) H'
theorem scdroppedat : FnScope ["row", "k"] ["row", "k"] (defScope sdroppedat) := ⟨rfl, rfl, rfl, by decide +kernel, rfl, by decide +kernel, by decide +kernel⟩
theorem okdroppedat (F : Fun K "dropped_at" "dropped_at" sdroppedat f fd) : FnOk P w K mg base CX0 (1) f fd ["row", "k"] (spdroppedat) := by
  have sc := scdroppedat
  refine F.ok sc (fun vs H Q E h => ?_) (fun cdv A outer s H vs Q E hr h => ?_)
  · obtain ⟨a, ns, k, rfl, _⟩ := h; rfl
  obtain ⟨a, ns, k, rfl, ha, h63, hk, q⟩ := h
  refine ⟨_, (z0f (z0s (z0n z1v (z1c z6a (pv 0) z1k (z1e (pv 1))) (z1c z6a (pv 0) (z1e (z0n z1i (pv 1) z0b)) z1k)))), ?_⟩
  wp_walk using rRepT, tSeq, tIfS, eqV
  refine ⟨_, ha, ?_, fun r1 H1 s1 hr1 => ⟨_, s1 _ _ ha, ?_, fun r3 H3 s3 hr3 => ⟨_, s3 _ _ hr1, _, hr3, ?_, fun r4 H4 s4 hr4 => ?_⟩⟩⟩
  · rw [z0l]; intro z; have z2 := z.2; simp only [HT.sIx] at z2; rw [if_neg (by omega)] at z2; omega
  · rw [z0l]; intro z; have z1 := z.1; simp only [HT.sIx] at z1; rw [if_neg (by omega)] at z1; omega
  · rw [show (k : Int) + 1 = ((k + 1 : Nat) : Int) by omega, cut_lo (by omega), cut_hi (by omega)]; simp only [List.length_map, List.length_take, List.length_drop]; exact small (by omega)
  rw [show (k : Int) + 1 = ((k + 1 : Nat) : Int) by omega, cut_lo (by omega), cut_hi (by omega)] at hr4
  refine q _ _ (s1.trans (s3.trans s4)) ?_
  rw [hr4, List.eraseIdx_eq_take_drop_succ, List.map_append]
abbrev saskside : Stmt := top 21
theorem scaskside : FnScope ["sides", "side"] ["sides", "side"] (defScope saskside) := ⟨rfl, rfl, rfl, by decide +kernel, rfl, by decide +kernel, by decide +kernel⟩
theorem okaskside (F : Fun K "ask_side" "ask_side" saskside f fd) {CNoSide : Addr} (nNoSide : PySem.W.nsIn K mainGlobals "NoSide" = some (some (.ref CNoSide))) (zlen : mg "len" = none) (xNoSide : PySem.W.excIn K CNoSide [.type "ValueError", .type "Exception", .type "BaseException", .type "object"] "ValueError.__new__" = true) : FnOk P w K mg base (CX1 P w) (1) f fd ["sides", "side"] ((spask CNoSide)) := by
  have sc := scaskside
  refine F.okX sc (fun vs H Q E h => ?_) (fun cdv A outer s H vs Q E hr h => ?_)
  · obtain ⟨a, ns, side, rfl, _⟩ := h; rfl
  obtain ⟨a, ns, side, rfl, ha, q1, q2⟩ := h
  refine ⟨_, (z0f (z1a (z3i (z0j z3a (pv 1) z0b (z0o _)) (z2u (z0j op_ge (pv 1) (z0r z0q (by rfl) zlen PySem.boot_len (z0a (pv 0) z0d)) (z0o _)))).pt (z0f (z1w PySem.F.excBase_ValueError rfl (by rfl) nNoSide xNoSide z2a (z0a z0z z0d))) z0p)), ?_⟩
  wp_walk using rRepT, tSeq, tIfS, eqV
  unfold off at q1 q2
  by_cases c1 : side < 0
  · rw [if_pos c1]; exact ⟨small (by decide), q1 (.inl c1)⟩
  rw [if_neg c1]
  refine ⟨_, .inr (.of ha), ?_⟩
  rw [z0l]
  by_cases c2 : (ns.length : Int) ≤ side
  · rw [if_pos c2]; exact ⟨small (by decide), q1 (.inr c2)⟩
  rw [if_neg c2]
  exact q2 (by omega)
abbrev sturnedsides : Stmt := top 22
theorem z7j : FnScope ["sides", "order"] ["sides", "order"] (defScope sturnedsides) := ⟨rfl, rfl, rfl, by decide +kernel, rfl, by decide +kernel, by decide +kernel⟩
theorem okturnedsides (F : Fun K "turned_sides" "turned_sides" sturnedsides f fd) {CNoSide : Addr} (nNoSide : PySem.W.nsIn K mainGlobals "NoSide" = some (some (.ref CNoSide))) (zsorted : mg "sorted" = none) (zlist : mg "list" = none) (zrange : mg "range" = none) (zlen : mg "len" = none) (ztuple : mg "tuple" = none) (xNoSide : PySem.W.excIn K CNoSide [.type "ValueError", .type "Exception", .type "BaseException", .type "object"] "ValueError.__new__" = true) : FnOk P w K mg base (CX1 P w) (1) f fd ["sides", "order"] ((spturned CNoSide)) := by
  have sc := z7j
  refine F.okX sc (fun vs H Q E h => ?_) (fun cdv A outer s H vs Q E hr h => ?_)
  · obtain ⟨a, b, ns, os, rfl, _⟩ := h; rfl
  obtain ⟨a, b, ns, os, rfl, ha, hb, h20, h21, q1, q2⟩ := h
  refine ⟨_, (z0c (z1a (z0j (op_neL hr.units0) (z0r z5l (by rfl) zsorted boot_sorted (z0a (pv 1) z0d)) (z1f (z3v rfl) (by rfl) zlist boot_list (z0a (z1f z4l (by rfl) zrange boot_range (z0a (z0r z0q (by rfl) zlen PySem.boot_len (z0a (pv 0) z0d)) z0d)) z0d)) (z0o _)) (z0f (z1w PySem.F.excBase_ValueError rfl (by rfl) nNoSide xNoSide z2a (z0a z0z z0d))) z0p) (z0f (z0s (z1f z1p (by rfl) ztuple boot_tuple (z0a (z3k (own := ["side"]) (fv := ["sides"]) (js := [0]) rfl (z4o (pv 1)) rfl (by decide) rfl (by decide) (by first | exact fun _ _ h => h | exact z3u rfl | exact z3t rfl rfl | exact z3s rfl rfl rfl) (z5i (by rfl)) rfl (cap1 (by first | exact ⟨rfl, .inl rfl, .inl rfl⟩ | exact ⟨rfl, .inl rfl, .inr rfl⟩)) (fun _ _ _ _ => (z0y (i := 0) (show (["side", "sides"] : List Str).Nodup by decide +kernel) rfl (Or.inl rfl))) (fun _ _ _ _ => (z0t z0i (pv 1) (pv 0) (fun _ _ => rfl)))) z0d))))), ?_⟩
  wp_walk using rRepT, tSeq, tIfS, eqV
  refine ⟨os, .inr hb.sq, by omega, fun ss pm pw l1 hl1 => ⟨_, .inr (.of (z0e hl1 _ _ _ ha)), fun r hr => ⟨ns.length, by rw [z0l]; rfl, by omega, fun l2 hl2 => ?_⟩⟩⟩
  have t1 := z0e hl1 (.lst (ss.map V.int))
  have t2 := t1.trans (z0e hr (.rng 0 (((ns.map V.int).length : Nat) : Int)))
  have t3 := t2.trans (z0e hl2 (.lst ((upL ns.length).map V.int)))
  refine ⟨_, .of (z0e hl2 _ _ _ (z0e hr _ _ _ z0k)), _, .of z0k, z1h _, z1h _, ?_⟩
  rw [z2o]
  by_cases c : ss = upL ns.length
  · have tk := (z3f (n := ns.length) pm pw).mp c
    rw [decide_eq_true c, if_neg (by decide)]
    have ha3 := t3 _ _ ha
    have hb3 := hb.same t3
    generalize upd (upd (upd H l1 (HO.lst (List.map V.int ss))) r (HO.rng 0 (((ns.map V.int).length : Nat) : Int))) l2 (HO.lst (List.map V.int (upL ns.length))) = H3 at *
    refine CompT.mk (xs := os.map V.int) hb3.sq (fun i ys σ H' => H' = H3 /\ i ≤ os.length /\ ys = (turnL ns (os.take i)).map V.int /\ ∃ y, σ = [y, some (.ref a)]) ⟨rfl, Nat.zero_le _, rfl, _, rfl⟩ (fun i ys σ H' _ h => by rw [h.1]; exact hb3.sq) (fun i x ys σ H' e h => ?_) (fun ys σ H' h p hp => ?_)
    · obtain ⟨rfl, hi, rfl, y, rfl⟩ := h
      obtain ⟨o, rfl, ho⟩ := z2l e
      have il := (List.getElem?_eq_some_iff.mp ho).1
      have om := up_mem.mp (tk.subset (List.mem_of_getElem? ho))
      have e1 : (turnL ns (os.take (i + 1))).map V.int = (turnL ns (os.take i)).map V.int ++ [V.int (ns.getD o.toNat 0)] := by
        unfold turnL; rw [List.take_add_one, ho, List.map_append, List.map_append]; rfl
      have sm : ((turnL ns (os.take i)).map V.int).length < sizeLine := by unfold turnL; rw [List.length_map, List.length_map, List.length_take]; exact z0w (by omega)
      wp_walk using rRepT, tSeq, tIfS, eqV, e1
      exact ⟨sm, _, ha3, _, at_in om.1 om.2, il, rfl, _, rfl⟩
    · obtain ⟨rfl, hi, rfl, y, rfl⟩ := h
      rw [z0l, List.take_length]
      exact ⟨p, rfl, _, .inl ⟨.of z0k, fun l hl => q2 tk _ _ (t3.trans ((z0e hp _).trans (z0e hl _))) z0k⟩⟩
  · rw [decide_eq_false c, if_pos rfl]
    exact ⟨small (by decide), q1 (fun z => c ((z3f pm pw).mpr z)) _ t3⟩
abbrev sflippedsides : Stmt := top 23
theorem z6o : FnScope ["sides", "side"] ["sides", "side"] (defScope sflippedsides) := ⟨rfl, rfl, rfl, by decide +kernel, rfl, by decide +kernel, by decide +kernel⟩
theorem z6q (F : Fun K "flipped_sides" "flipped_sides" sflippedsides f fd) {CNoSide : Addr} (nNoSide : PySem.W.nsIn K mainGlobals "NoSide" = some (some (.ref CNoSide))) (caskside : Callee P w K mg base (CX1 P w) (1) "ask_side" ["sides", "side"] (spask CNoSide)) : FnOk P w K mg base (CX1 P w) (2) f fd ["sides", "side"] ((spflip CNoSide)) := by
  have sc := z6o
  refine F.okX sc (fun vs H Q E h => ?_) (fun cdv A outer s H vs Q E hr h => ?_)
  · obtain ⟨a, ns, side, rfl, _⟩ := h; rfl
  obtain ⟨a, ns, side, rfl, ha, q1, q2⟩ := h
  refine ⟨_, (z0c (z3q (z0u caskside hr (by rfl) z2c (z0a (pv 0) (z0a (pv 1) z0d)))) (z0f (z0s (pv 0)))), ?_⟩
  wp_walk using rRepT, tSeq, tIfS, eqV, spask
  exact ⟨ns, ha, q1, q2⟩
abbrev scutsides : Stmt := top 24
theorem sccutsides : FnScope ["sides", "side", "first", "many", "step"] ["sides", "side", "first", "many", "step"] (defScope scutsides) := ⟨rfl, rfl, rfl, by decide +kernel, rfl, by decide +kernel, by decide +kernel⟩
theorem okcutsides (F : Fun K "cut_sides" "cut_sides" scutsides f fd) {CNoSide : Addr} (nNoSide : PySem.W.nsIn K mainGlobals "NoSide" = some (some (.ref CNoSide))) {CBeyond : Addr} (nBeyond : PySem.W.nsIn K mainGlobals "Beyond" = some (some (.ref CBeyond))) (caskside : Callee P w K mg base (CX1 P w) (1) "ask_side" ["sides", "side"] (spask CNoSide)) (cchangedat : Callee P w K mg base CX0 (1) "changed_at" ["row", "k", "number"] spchangedat) (xBeyond : PySem.W.excIn K CBeyond [.type "ValueError", .type "Exception", .type "BaseException", .type "object"] "ValueError.__new__" = true) : FnOk P w K mg base (CX1 P w) (2) f fd ["sides", "side", "first", "many", "step"] ((spcut CNoSide CBeyond)) := by
  have sc := sccutsides
  refine F.okX sc (fun vs H Q E h => ?_) (fun cdv A outer s H vs Q E hr h => ?_)
  · obtain ⟨a, ns, side, first, many, step, rfl, _⟩ := h; rfl
  obtain ⟨a, ns, side, first, many, step, rfl, ha, h63, m0, m1, q1, q2, q3⟩ := h
  refine ⟨_, (z0c (z3q (z0u caskside hr (by rfl) z2c (z0a (pv 0) (z0a (pv 1) z0d)))) (z0c (z1a (z3i (z0j z3a (pv 2) z0b (z0o _)) (z3i (z0j z3a (pv 3) z0b (z0o _)) (z2u (z0j z3a (pv 4) z0b (z0o _))))).pt (z0f (z1w PySem.F.excBase_ValueError rfl (by rfl) nBeyond xBeyond z2a (z0a z0z z0d))) z0p) (z0c (z1a (z2r (z0j z4h (pv 3) z0b (z0o _)) (z2b (z0j op_ge (z0n z1i (pv 2) (z0n z2h (z0n z2g (pv 3) z0b) (pv 4))) (z0t z0i (pv 0) (pv 1) (fun _ _ => rfl)) (z0o _)))).pt (z0f (z1w PySem.F.excBase_ValueError rfl (by rfl) nBeyond xBeyond z2a (z0a z0z z0d))) z0p) (z0f (z0s (z0u cchangedat hr (by rfl) z1n (z0a (pv 0) (z0a (pv 1) (z0a (pv 3) z0d))))))))), ?_⟩
  wp_walk using rRepT, tSeq, tIfS, eqV, spask, spchangedat
  refine ⟨ns, ha, q1, fun no => ?_⟩
  replace q2 := q2 no
  replace q3 := q3 no
  obtain ⟨k, rfl, hk⟩ := at_ok no
  unfold bad at q2 q3
  simp only [Int.toNat_natCast] at q2 q3
  by_cases c1 : first < 0
  · rw [if_pos c1]; exact ⟨small (by decide), q2 (.inl c1)⟩
  rw [if_neg c1]
  by_cases c2 : many < 0
  · rw [if_pos c2]; exact ⟨small (by decide), q2 (.inr (.inl c2))⟩
  rw [if_neg c2]
  by_cases c3 : step < 1
  · rw [if_pos c3]; exact ⟨small (by decide), q2 (.inr (.inr (.inl c3)))⟩
  rw [if_neg c3]
  by_cases c4 : 0 < many
  · rw [if_pos c4]
    refine ⟨.inl ⟨by omega, by omega⟩, _, ha, _, z7d hk, _, rfl, ?_⟩
    by_cases c5 : ns.getD k 0 ≤ first + (many - 1) * step
    · rw [if_pos c5]; exact ⟨small (by decide), q2 (.inr (.inr (.inr ⟨c4, c5⟩)))⟩
    rw [if_neg c5]
    exact ⟨ns, k, rfl, ha, h63, hk, q3 (fun z => z.elim c1 fun z => z.elim c2 fun z => z.elim c3 fun z => c5 z.2)⟩
  · rw [if_neg c4]
    exact ⟨ns, k, rfl, ha, h63, hk, q3 (fun z => z.elim c1 fun z => z.elim c2 fun z => z.elim c3 fun z => c4 z.1)⟩
abbrev sspreadsides : Stmt := top 25
theorem z7k : FnScope ["sides", "side", "many"] ["sides", "side", "many"] (defScope sspreadsides) := ⟨rfl, rfl, rfl, by decide +kernel, rfl, by decide +kernel, by decide +kernel⟩
theorem okspreadsides (F : Fun K "spread_sides" "spread_sides" sspreadsides f fd) {CNoSide : Addr} (nNoSide : PySem.W.nsIn K mainGlobals "NoSide" = some (some (.ref CNoSide))) {CBeyond : Addr} (nBeyond : PySem.W.nsIn K mainGlobals "Beyond" = some (some (.ref CBeyond))) {CTooLarge : Addr} (nTooLarge : PySem.W.nsIn K mainGlobals "TooLarge" = some (some (.ref CTooLarge))) (caddedat : Callee P w K mg base CX0 (3) "added_at" ["row", "k", "number"] spaddedat) (callowed : Callee P w K mg base (CX1 P w) (3) "allowed" ["sides"] (spallowed CTooLarge)) (zlen : mg "len" = none) (xNoSide : PySem.W.excIn K CNoSide [.type "ValueError", .type "Exception", .type "BaseException", .type "object"] "ValueError.__new__" = true) (xBeyond : PySem.W.excIn K CBeyond [.type "ValueError", .type "Exception", .type "BaseException", .type "object"] "ValueError.__new__" = true) : FnOk P w K mg base (CX1 P w) (4) f fd ["sides", "side", "many"] ((spspr CNoSide CBeyond CTooLarge)) := by
  have sc := z7k
  refine F.okX sc (fun vs H Q E h => ?_) (fun cdv A outer s H vs Q E hr h => ?_)
  · obtain ⟨a, ns, side, many, rfl, _⟩ := h; rfl
  obtain ⟨a, ns, side, many, rfl, ha, hs, h20, hm, q1, q2, q3, q4⟩ := h
  refine ⟨_, (z0c (z1a (z3i (z0j z3a (pv 1) z0b (z0o _)) (z2u (z0j z4h (pv 1) (z0r z0q (by rfl) zlen PySem.boot_len (z0a (pv 0) z0d)) (z0o _)))).pt (z0f (z1w PySem.F.excBase_ValueError rfl (by rfl) nNoSide xNoSide z2a (z0a z0z z0d))) z0p) (z0c (z1a (z0j z3a (pv 2) z0b (z0o _)) (z0f (z1w PySem.F.excBase_ValueError rfl (by rfl) nBeyond xBeyond z2a (z0a z0z z0d))) z0p) (z0f (z0s (z0u callowed hr (by rfl) z2c (z0a (z0u caddedat hr (by rfl) z1n (z0a (pv 0) (z0a (pv 1) (z0a (pv 2) z0d)))) z0d)))))), ?_⟩
  wp_walk using rRepT, tSeq, tIfS, eqV, spaddedat, spallowed
  unfold off1 at q1 q2 q3 q4
  by_cases c1 : side < 0
  · rw [if_pos c1]; exact ⟨small (by decide), q1 (.inl c1)⟩
  rw [if_neg c1]
  refine ⟨_, .inr (.of ha), ?_⟩
  rw [z0l]
  by_cases c2 : (ns.length : Int) < side
  · rw [if_pos c2]; exact ⟨small (by decide), q1 (.inr c2)⟩
  rw [if_neg c2]
  have no : ¬ (side < 0 \/ (ns.length : Int) < side) := by omega
  by_cases c3 : many < 0
  · rw [if_pos c3]; exact ⟨small (by decide), q2 no c3⟩
  rw [if_neg c3]
  obtain ⟨k, rfl⟩ : ∃ k : Nat, side = k := ⟨side.toNat, by omega⟩
  refine ⟨ns, k, rfl, ha, by omega, fun H1 p s1 hp => ⟨_, hp, ins_ok hs (by omega) hm, by rw [z3l]; omega, fun b H2 s2 => q3 no c3 b _ (s1.trans s2), fun b H2 s2 => q4 no c3 b _ _ (s1.trans s2) (s2 _ _ hp)⟩⟩
abbrev sledsides : Stmt := top 26
theorem scledsides : FnScope ["sides", "others"] ["sides", "others"] (defScope sledsides) := ⟨rfl, rfl, rfl, by decide +kernel, rfl, by decide +kernel, by decide +kernel⟩
theorem okledsides (F : Fun K "led_sides" "led_sides" sledsides f fd) {CUnlike : Addr} (nUnlike : PySem.W.nsIn K mainGlobals "Unlike" = some (some (.ref CUnlike))) (zlen : mg "len" = none) (xUnlike : PySem.W.excIn K CUnlike [.type "ValueError", .type "Exception", .type "BaseException", .type "object"] "ValueError.__new__" = true) : FnOk P w K mg base (CX1 P w) (1) f fd ["sides", "others"] ((spled CUnlike)) := by
  have sc := scledsides
  refine F.okX sc (fun vs H Q E h => ?_) (fun cdv A outer s H vs Q E hr h => ?_)
  · obtain ⟨a, b, ns, ms, rfl, _⟩ := h; rfl
  obtain ⟨a, b, ns, ms, rfl, ha, hb, q1, q2⟩ := h
  refine ⟨_, (z0c (z1a (z0j (op_neT hr.units0) (z1c z1t (pv 1) z1k (z1e (z0r z0q (by rfl) zlen PySem.boot_len (z0a (pv 0) z0d)))) (pv 0) (z0o _)) (z0f (z1w PySem.F.excBase_ValueError rfl (by rfl) nUnlike xUnlike z2a (z0a z0z z0d))) z0p) (z0f (z0s (pv 1)))), ?_⟩
  wp_walk using rRepT, tSeq, tIfS, eqV
  refine ⟨_, .inr (.of ha), _, hb, fun r H1 s1 hr1 => ?_⟩
  rw [z0l, z2k] at hr1
  refine ⟨_, .of hr1, _, .of (s1 _ _ ha), z1h _, z1h _, ?_⟩
  rw [z2o]
  by_cases c : ms.take ns.length = ns
  · rw [if_neg (by simp [c])]; exact q2 c _ s1
  · rw [if_pos (by simp [c])]; exact ⟨small (by decide), q1 c _ s1⟩
abbrev swrapped : Stmt := top 29
def spwrapped : Sp := fun vs H Q _ => ∃ n : Int, vs = [.int n] /\ Q (.int (wrapI n)) H
theorem scwrapped : FnScope ["n"] ["n"] (defScope swrapped) := ⟨rfl, rfl, rfl, by decide +kernel, rfl, by decide +kernel, by decide +kernel⟩
theorem okwrapped (F : Fun K "wrapped" "wrapped" swrapped f fd) {tLOW : Tok} (gLOW : mg "LOW" = some (.int (-9223372036854775808) tLOW)) : FnOk P w K mg base CX0 (1) f fd ["n"] (spwrapped) := by
  have sc := scwrapped
  refine F.ok sc (fun vs H Q E h => ?_) (fun cdv A outer s H vs Q E hr h => ?_)
  · obtain ⟨n, rfl, _⟩ := h; rfl
  obtain ⟨n, rfl, q⟩ := h
  refine ⟨_, (z0f (z0s (z0n z1i (z0n z1q (z0n z2g (pv 0) (pe_glob (v := .int (-9223372036854775808)) (by rfl) gLOW ⟨_, rfl⟩)) (z0n op_pow z0b z0b)) (pe_glob (v := .int (-9223372036854775808)) (by rfl) gLOW ⟨_, rfl⟩)))), ?_⟩
  wp_walk using rRepT, tSeq, tIfS, eqV
  have e : (n - -9223372036854775808) % 18446744073709551616 + -9223372036854775808 = wrapI n := by unfold wrapI; omega
  rw [e]; exact q
abbrev stableof : Stmt := top 31
theorem sctableof : FnScope ["sides", "cells"] ["sides", "cells"] (defScope stableof) := ⟨rfl, rfl, rfl, by decide +kernel, rfl, by decide +kernel, by decide +kernel⟩
theorem oktableof (F : Fun K "table_of" "table_of" stableof f fd) {CTooLarge : Addr} (nTooLarge : PySem.W.nsIn K mainGlobals "TooLarge" = some (some (.ref CTooLarge))) {CUnlike : Addr} (nUnlike : PySem.W.nsIn K mainGlobals "Unlike" = some (some (.ref CUnlike))) (callowed : Callee P w K mg base (CX1 P w) (3) "allowed" ["sides"] (spallowed CTooLarge)) (camount : Callee P w K mg base CX0 (3) "amount" ["sides"] spamount) (cwrapped : Callee P w K mg base CX0 (3) "wrapped" ["n"] spwrapped) (zlen : mg "len" = none) (ztuple : mg "tuple" = none) (xUnlike : PySem.W.excIn K CUnlike [.type "ValueError", .type "Exception", .type "BaseException", .type "object"] "ValueError.__new__" = true) : FnOk P w K mg base (CX1 P w) (4) f fd ["sides", "cells"] ((sptableof CTooLarge CUnlike)) := by
  have sc := sctableof
  refine F.okX sc (fun vs H Q E h => ?_) (fun cdv A outer s H vs Q E hr h => ?_)
  · obtain ⟨a, c, ns, cs, rfl, _⟩ := h; rfl
  obtain ⟨a, c0, ns, cs, rfl, ha, hc, hs, h63, h900, q1, q2, q3⟩ := h
  refine ⟨_, (z0c (z3q (z0u callowed hr (by rfl) z2c (z0a (pv 0) z0d))) (z0c (z1a (z0j op_ne (z0r z0q (by rfl) zlen PySem.boot_len (z0a (pv 1) z0d)) (z0u camount hr (by rfl) z1n (z0a (pv 0) z0d)) (z0o _)) (z0f (z1w PySem.F.excBase_ValueError rfl (by rfl) nUnlike xUnlike z2a (z0a z0z z0d))) z0p) (z0f (z0s (z1d (z0a (pv 0) (z0a (z1f z1p (by rfl) ztuple boot_tuple (z0a (z3j (own := ["cell"]) rfl (pi_seq (pv 1)) (by decide) (by decide) rfl (by decide) (fun _ _ _ _ => (z0y (i := 0) (show (["cell"] : List Str).Nodup by decide +kernel) rfl (Or.inl rfl))) (fun _ _ _ _ => (z0u cwrapped hr (by rfl) z1n (z0a (pv 0) z0d)))) z0d)) z0d))))))), ?_⟩
  wp_walk using rRepT, tSeq, tIfS, eqV, spallowed, spamount, spwrapped
  refine ⟨ns, ha, hs, h63, q1, fun b H1 s1 => ?_⟩
  refine ⟨_, (hc.same s1).imp .of .of, ns, .inr (s1 _ _ ha), hs, ?_⟩
  rw [z0l]
  by_cases e : (cs.length : Int) = prodI ns
  rotate_left
  · rw [if_pos e]; exact ⟨small (by decide), q2 b e _ s1⟩
  rw [if_neg (fun z => z e)]
  have hc1 := hc.same s1
  have ha1 := s1 _ _ ha
  have fin : ∀ (G : Hp) (p : Addr), Same H1 G -> G p = some (.lst ((cs.map wrapI).map V.int)) -> ∃ p', V.ref p = V.ref p' /\ ∃ x, (SqL K G p' x /\ ∀ (l : Addr), G l = none -> 2 ≤ sizeLine /\ ∀ (p : Addr), upd G l (HO.tup x) p = none -> Q (V.ref p) (upd (upd G l (HO.tup x)) p (HO.tup [V.ref a, V.ref l]))) \/ SqT K G p' x /\ 2 ≤ sizeLine /\ ∀ (p_1 : Addr), G p_1 = none -> Q (V.ref p_1) (upd G p_1 (HO.tup [V.ref a, V.ref p'])) := fun G p sG hp => ⟨p, rfl, _, .inl ⟨.of hp, fun l hl => ⟨small (by decide), fun p2 hp2 => q3 b e _ p2 (s1.trans (sG.trans ((z0e hl _).trans (z0e hp2 _)))) ⟨a, l, z0k, z0e hp2 _ _ _ (z0e hl _ _ _ (sG _ _ ha1)), z0e hp2 _ _ _ z0k⟩⟩⟩⟩
  rcases hc1 with hc1 | hc1
  · refine .inl (CompL.ints (fn := wrapI) (.of hc1) (by omega) (fun n _ G _ Q' hQ => ?_) (fun G sG p hp => fin _ p (sG.trans (z0e hp _)) z0k))
    wp_walk using rRepT, tSeq, tIfS, eqV, spwrapped
    exact hQ _ (Same.refl _)
  · refine .inr (CompT.mk (xs := cs.map V.int) (.of hc1) (fun i ys σ G => G = H1 /\ ys = ((cs.take i).map wrapI).map V.int /\ ∃ y, σ = [y]) ⟨rfl, rfl, _, rfl⟩ (fun i ys σ G _ h => by rw [h.1]; exact .of hc1) (fun i x ys σ G ex h => ?_) (fun ys σ G h p hp => ?_))
    · obtain ⟨rfl, rfl, y, rfl⟩ := h
      obtain ⟨m, rfl, hm⟩ := z2l ex
      have e1 : ((cs.take (i + 1)).map wrapI).map V.int = ((cs.take i).map wrapI).map V.int ++ [V.int (wrapI m)] := by
        rw [List.take_add_one, hm, List.map_append, List.map_append]; rfl
      wp_walk using rRepT, tSeq, tIfS, eqV, spwrapped, e1
      refine ⟨?_, ?_⟩
      · rw [List.length_map, List.length_map, List.length_take]; exact z0w (by omega)
      exact ⟨_, rfl⟩
    · obtain ⟨rfl, rfl, y, rfl⟩ := h
      rw [z0l, List.take_length]
      exact fin _ p (z0e hp _) z0k
abbrev stableby : Stmt := top 32
theorem sctableby : FnScope ["sides", "number_at"] ["sides", "number_at"] (defScope stableby) := ⟨rfl, rfl, rfl, by decide +kernel, rfl, by decide +kernel, by decide +kernel⟩
theorem oktableby (F : Fun K "table_by" "table_by" stableby f fd) (callat : Callee P w K mg base CX0 (6) "all_at" ["sides"] spallat) (ztuple : mg "tuple" = none) : FnOk P w K mg base CX0 (7) f fd ["sides", "number_at"] ((sptableby P w K mg base)) := by
  have sc := sctableby
  refine F.ok sc (fun vs H Q E h => ?_) (fun cdv A outer s H vs Q E hr h => ?_)
  · obtain ⟨sa, fa, ns, fn, rfl, _⟩ := h; rfl
  obtain ⟨sa, fa, ns, fn, rfl, ha, hs, h63, h512, hf, hc, q⟩ := h
  refine ⟨_, (z0f (z0s (z1d (z0a (pv 0) (z0a (z1f z1p (by rfl) ztuple boot_tuple (z0a (z3k (own := ["at"]) (fv := ["number_at"]) (js := [1]) rfl (z4e (z0u callat hr (by rfl) z1n (z0a (pv 0) z0d))) rfl (by decide) rfl (by decide) (by first | exact fun _ _ h => h | exact z3u rfl | exact z3t rfl rfl | exact z3s rfl rfl rfl) (z5i (by rfl)) rfl (cap1 (by first | exact ⟨rfl, .inl rfl, .inl rfl⟩ | exact ⟨rfl, .inl rfl, .inr rfl⟩)) (fun _ _ _ _ => (z0y (i := 0) (show (["at", "number_at"] : List Str).Nodup by decide +kernel) rfl (Or.inl rfl))) (fun _ _ _ _ => (pe_calVK (P := P) (w := w) (K := K) (mg := mg) (base := base) (i := 1) rfl rfl rfl rfl rfl hr rfl (by first | exact Or.inl rfl | exact Or.inr (Or.inl rfl) | exact Or.inr (Or.inr rfl)) (z0a (pv 0) z0d)))) z0d)) z0d))))), ?_⟩
  have pn := z4y fun n hn => (hs n hn).1
  wp_walk using rRepT, tSeq, tIfS, eqV, spallat
  refine ⟨ns, ha, hs, h63, h512, fun H1 l ps s1 hl tp => ?_⟩
  have pl := tp.1
  rw [all_len] at pl
  refine CompL.mk (xs := ps.map V.ref) (.of hl) (fun i ys σ G => Same H1 G /\ ys = (((List.range i).map fn).map V.int) /\ ∃ y, σ = [y, some (.ref fa)]) ⟨Same.refl _, rfl, _, rfl⟩ (fun i ys σ G _ h => .of (h.1 _ _ hl)) (fun i x ys σ G ex h => ?_) (fun ys σ G h p hp => ?_)
  · obtain ⟨sG, rfl, y, rfl⟩ := h
    have il : i < ps.length := by have := (List.getElem?_eq_some_iff.mp ex).1; rwa [List.length_map] at this
    obtain ⟨p, ep, hp⟩ := tp.2 i _ (all_get (by omega))
    rw [List.getElem?_map, ep] at ex
    cases (Option.some.inj ex)
    refine ⟨by rw [List.length_map, List.length_map, List.length_range]; exact z0w (by omega), ?_⟩
    wp_walk using rRepT, tSeq, tIfS, eqV
    have f1 := hf.same fun o e => (s1.trans sG) _ _ e
    refine ⟨f1, f1, hc i G p _ (by omega) (s1.trans sG) (sG _ _ hp) fun H2 s2 => ⟨sG.trans s2, ?_, _, rfl⟩⟩
    rw [List.range_succ, List.map_append, List.map_append]; rfl
  · obtain ⟨sG, rfl, y, rfl⟩ := h
    rw [List.length_map, pl]
    refine ⟨p, rfl, _, .inl ⟨.of z0k, fun q0 hq0 => ⟨small (by decide), fun r hr0 => ?_⟩⟩⟩
    exact q _ r q0 (s1.trans (sG.trans ((z0e hp _).trans ((z0e hq0 _).trans (z0e hr0 _))))) (z0e hr0 _ _ _ z0k) z0k
abbrev scellat : Stmt := top 33
def spcellat : Sp := fun vs H Q _ => ∃ (ta b : Addr) (ns cs ms : List Int), vs = [.ref ta, .ref b] /\ TbAt H ta ns cs /\ H b = some (.tup (ms.map V.int)) /\ sdOk ns /\ ns.length ≤ 63 /\ good ns ms /\ (cs.length : Int) = prodI ns /\ ∀ H', Same H H' -> Q (.int (cs.getD (plH ns ms).toNat 0)) H'
theorem sccellat : FnScope ["tab", "at"] ["tab", "at"] (defScope scellat) := ⟨rfl, rfl, rfl, by decide +kernel, rfl, by decide +kernel, by decide +kernel⟩
theorem okcellat (F : Fun K "cell_at" "cell_at" scellat f fd) (cplaceof : Callee P w K mg base (CX1 P w) (2) "place_of" ["sides", "at"] (spplaceof CNoPlace)) : FnOk P w K mg base CX0 (3) f fd ["tab", "at"] (spcellat) := by
  have sc := sccellat
  refine F.ok sc (fun vs H Q E h => ?_) (fun cdv A outer s H vs Q E hr h => ?_)
  · obtain ⟨ta, b, ns, cs, ms, rfl, _⟩ := h; rfl
  obtain ⟨ta, b, ns, cs, ms, rfl, ⟨sa, ca, ht, ha, hc⟩, hb, hs, h63, g, cl, q⟩ := h
  refine ⟨_, (z0f (z0s (z0t z0i (z0t z0i (pv 0) z0b (fun _ _ => rfl)) (z0u cplaceof hr (by rfl) z2s (z0a (z0t z0i (pv 0) z0b (fun _ _ => rfl)) (z0a (pv 1) z0d))) (fun _ _ => rfl)))), ?_⟩
  have pi := plH_in g
  have gl := g.1
  have ex : cs[(plH ns ms).toNat]? = some (cs.getD (plH ns ms).toNat 0) := by
    rw [List.getD_eq_getElem?_getD, List.getElem?_eq_getElem (by omega)]; rfl
  wp_walk using rRepT, tSeq, tIfS, eqV, spplaceof
  exact ⟨_, ht, _, z0h (j := 1) rfl, _, ht, _, z0h (j := 0) rfl, sa, rfl, ns, ha, ms, hb, hs, h63, by omega, fun n => absurd g n, fun _ H1 s1 => ⟨ca, rfl, _, s1 _ _ hc, _, at_int pi.1 ex, q _ s1⟩⟩
abbrev splainview : Stmt := top 35
def spplainview : Sp := fun vs H Q _ => ∃ (a : Addr) (ns : List Int), vs = [.ref a] /\ H a = some (.tup (ns.map V.int)) /\ sdOk ns /\ ns.length ≤ 63 /\ ∀ H' v ta, Same H H' -> H' v = some (.tup [.ref a, .int 0, .ref ta]) -> H' ta = some (.tup ((stL ns ns.length).reverse.map V.int)) -> Q (.ref v) H'
theorem scplainview : FnScope ["sides"] ["sides"] (defScope splainview) := ⟨rfl, rfl, rfl, by decide +kernel, rfl, by decide +kernel, by decide +kernel⟩
theorem okplainview (F : Fun K "plain_view" "plain_view" splainview f fd) (cstridesof : Callee P w K mg base CX0 (1) "strides_of" ["sides"] spstridesof) : FnOk P w K mg base CX0 (2) f fd ["sides"] (spplainview) := by
  have sc := scplainview
  refine F.ok sc (fun vs H Q E h => ?_) (fun cdv A outer s H vs Q E hr h => ?_)
  · obtain ⟨a, ns, rfl, _⟩ := h; rfl
  obtain ⟨a, ns, rfl, ha, hs, h63, q⟩ := h
  refine ⟨_, (z0f (z0s (z1d (z0a (pv 0) (z0a z0b (z0a (z0u cstridesof hr (by rfl) z1n (z0a (pv 0) z0d)) z0d)))))), ?_⟩
  wp_walk using rRepT, tSeq, tIfS, eqV, spstridesof
  exact ⟨ns, ha, hs, h63, fun H1 p s1 hp => ⟨small (by decide), fun v hv => q _ v p (s1.trans (z0e hv _)) z0k (z0e hv _ _ _ hp)⟩⟩
abbrev sturnedview : Stmt := top 36
theorem scturnedview : FnScope ["view", "order", "sides", "strides", "own"] ["view", "order"] (defScope sturnedview) := ⟨rfl, rfl, rfl, by decide +kernel, rfl, by decide +kernel, by decide +kernel⟩
theorem okturnedview (F : Fun K "turned_view" "turned_view" sturnedview f fd) {CNoSide : Addr} (nNoSide : PySem.W.nsIn K mainGlobals "NoSide" = some (some (.ref CNoSide))) (cturnedsides : Callee P w K mg base (CX1 P w) (2) "turned_sides" ["sides", "order"] (spturned CNoSide)) (ztuple : mg "tuple" = none) (zlen : mg "len" = none) : FnOk P w K mg base (CX1 P w) (3) f fd ["view", "order"] ((spvturn CNoSide)) := by
  have sc := scturnedview
  refine F.okX sc (fun vs H Q E h => ?_) (fun cdv A outer s H vs Q E hr h => ?_)
  · obtain ⟨v, b, ns, ss, os, st, rfl, _⟩ := h; rfl
  obtain ⟨v, b, ns, ss, os, st, rfl, ⟨sa, ta, hv, ha, ht⟩, ⟨sd, l6, ll, l10⟩, hb, o20, q1, q2⟩ := h
  refine ⟨_, (z0c (z0m (i := 2) sc.nd rfl (by first | exact Or.inl rfl | exact Or.inr rfl) (z0u cturnedsides hr (by rfl) z2c (z0a (z0t z0i (pv 0) z0b (fun _ _ => rfl)) (z0a (pv 1) z0d)))) (z0c (z0m (i := 3) sc.nd rfl (by first | exact Or.inl rfl | exact Or.inr rfl) (z0t z0i (pv 0) z0b (fun _ _ => rfl))) (z0c (z0m (i := 4) sc.nd rfl (by first | exact Or.inl rfl | exact Or.inr rfl) (z1f z1p (by rfl) ztuple boot_tuple (z0a (z3k (own := ["side"]) (fv := ["strides"]) (js := [3]) rfl (z4o (pv 1)) rfl (by decide) rfl (by decide) (by first | exact fun _ _ h => h | exact z3u rfl | exact z3t rfl rfl | exact z3s rfl rfl rfl) (z5i (by rfl)) rfl (cap1 (by first | exact ⟨rfl, .inl rfl, .inl rfl⟩ | exact ⟨rfl, .inl rfl, .inr rfl⟩)) (fun _ _ _ _ => (z0y (i := 0) (show (["side", "strides"] : List Str).Nodup by decide +kernel) rfl (Or.inl rfl))) (fun _ _ _ _ => (z0t z0i (pv 1) (pv 0) (fun _ _ => rfl)))) z0d))) (z0f (z0s (z1d (z0a (pv 2) (z0a (z0t z0i (pv 0) z0b (fun _ _ => rfl)) (z0a (z0n z1v (pv 4) (z1c z1t (pv 3) (z1e (z0r z0q (by rfl) zlen PySem.boot_len (z0a (pv 2) z0d))) z1k)) z0d))))))))), ?_⟩
  simp only [L2.start, List.length_cons, List.length_nil, List.replicate, List.cons_append, List.nil_append, Nat.reduceSub, Nat.reduceAdd, List.map_cons, List.map_nil]
  wp_walk using rRepT, tSeq, tIfS, eqV, spturned
  refine ⟨_, hv, _, z0h (j := 0) rfl, _, rfl, ns, ha, os, hb, by omega, o20, q1, fun tk G p s hp => ?_⟩
  have q2 := q2 tk
  have hv1 := s _ _ hv
  have hb1 := hb.same s
  have ht1 := s _ _ ht
  refine ⟨_, hv1, _, z0h (j := 2) rfl, ?_⟩
  refine CompT.mk (xs := os.map V.int) hb1.sq (fun i ys σ G' => G' = G /\ i ≤ os.length /\ ys = (turnL ss (os.take i)).map V.int /\ ∃ y, σ = [y, some (.ref ta)]) ⟨rfl, Nat.zero_le _, rfl, _, rfl⟩ (fun i ys σ G' _ h => by rw [h.1]; exact hb1.sq) (fun i x ys σ G' e h => ?_) (fun ys σ G' h p1 hp1 => ?_)
  · obtain ⟨rfl, hi, rfl, y, rfl⟩ := h
    obtain ⟨o, rfl, ho⟩ := z2l e
    have il := (List.getElem?_eq_some_iff.mp ho).1
    have om := up_mem.mp (tk.subset (List.mem_of_getElem? ho))
    have e1 : (turnL ss (os.take (i + 1))).map V.int = (turnL ss (os.take i)).map V.int ++ [V.int (ss.getD o.toNat 0)] := by
      unfold turnL; rw [List.take_add_one, ho, List.map_append, List.map_append]; rfl
    have sm : ((turnL ss (os.take i)).map V.int).length < sizeLine := by unfold turnL; rw [List.length_map, List.length_map, List.length_take]; exact z0w (by omega)
    wp_walk using rRepT, tSeq, tIfS, eqV, e1
    exact ⟨sm, _, ht1, _, at_in om.1 (by omega), il, rfl, _, rfl⟩
  · obtain ⟨rfl, hi, rfl, y, rfl⟩ := h
    rw [z0l, List.take_length]
    refine ⟨p1, rfl, _, .inl ⟨.of z0k, fun l hl => ?_⟩⟩
    have k1 := (z0e hp1 (.lst ((turnL ss os).map V.int))).trans (z0e hl (.tup ((turnL ss os).map V.int)))
    have pl := tk.length_eq
    rw [up_len] at pl
    refine ⟨_, k1 _ _ hv1, _, z0h (j := 1) rfl, _, .inr (.of (k1 _ _ hp)), ?_⟩
    have tl : (List.map V.int (turnL ns os)).length = ns.length := by unfold turnL; rw [List.length_map, List.length_map, pl]
    rw [tl]
    refine ⟨_, rfl, _, k1 _ _ ht1, fun r G2 s2 hr => ?_⟩
    rw [z2x] at hr
    refine ⟨_, s2 _ _ z0k, _, hr, small (by unfold turnL; simp only [List.length_map, List.length_drop]; omega), fun r2 G3 s3 hr2 => ⟨small (by decide), fun p3 hp3 => ?_⟩⟩
    have k3 := k1.trans (s2.trans (s3.trans (z0e hp3 (.tup [V.ref p, V.int st, V.ref r2]))))
    exact q2 _ p3 (s.trans k3) ⟨p, r2, z0k, k3 _ _ hp, by rw [z0e hp3 _ _ _ hr2, List.map_append]⟩
abbrev sflippedview : Stmt := top 37
theorem z7m : FnScope ["view", "side", "sides", "stride", "start"] ["view", "side"] (defScope sflippedview) := ⟨rfl, rfl, rfl, by decide +kernel, rfl, by decide +kernel, by decide +kernel⟩
theorem okflippedview (F : Fun K "flipped_view" "flipped_view" sflippedview f fd) {CNoSide : Addr} (nNoSide : PySem.W.nsIn K mainGlobals "NoSide" = some (some (.ref CNoSide))) (cflippedsides : Callee P w K mg base (CX1 P w) (2) "flipped_sides" ["sides", "side"] (spflip CNoSide)) (cchangedat : Callee P w K mg base CX0 (2) "changed_at" ["row", "k", "number"] spchangedat) : FnOk P w K mg base (CX1 P w) (3) f fd ["view", "side"] ((spvflip CNoSide)) := by
  have sc := z7m
  refine F.okX sc (fun vs H Q E h => ?_) (fun cdv A outer s H vs Q E hr h => ?_)
  · obtain ⟨v, ns, ss, st, side, rfl, _⟩ := h; rfl
  obtain ⟨v, ns, ss, st, side, rfl, ⟨sa, ta, hv, ha, ht⟩, ⟨sd, l6, ll, l10⟩, q1, q2⟩ := h
  refine ⟨_, (z0c (z0m (i := 2) sc.nd rfl (by first | exact Or.inl rfl | exact Or.inr rfl) (z0u cflippedsides hr (by rfl) z2c (z0a (z0t z0i (pv 0) z0b (fun _ _ => rfl)) (z0a (pv 1) z0d)))) (z0c (z0m (i := 3) sc.nd rfl (by first | exact Or.inl rfl | exact Or.inr rfl) (z0t z0i (z0t z0i (pv 0) z0b (fun _ _ => rfl)) (pv 1) (fun _ _ => rfl))) (z0c (z0m (i := 4) sc.nd rfl (by first | exact Or.inl rfl | exact Or.inr rfl) (z0n z1i (z0t z0i (pv 0) z0b (fun _ _ => rfl)) (z0n z2h (z0n z2g (z0t z0i (pv 2) (pv 1) (fun _ _ => rfl)) z0b) (pv 3)))) (z0f (z0s (z1d (z0a (pv 2) (z0a (pv 4) (z0a (z0u cchangedat hr (by rfl) z1n (z0a (z0t z0i (pv 0) z0b (fun _ _ => rfl)) (z0a (pv 1) (z0a (z6p z4d (pv 3)) z0d)))) z0d))))))))), ?_⟩
  simp only [L2.start, List.length_cons, List.length_nil, List.replicate, List.cons_append, List.nil_append, Nat.reduceSub, Nat.reduceAdd, List.map_cons, List.map_nil]
  wp_walk using rRepT, tSeq, tIfS, eqV, spflip, spchangedat
  refine ⟨_, hv, _, z0h (j := 0) rfl, _, rfl, ns, ha, q1, fun no => ?_⟩
  obtain ⟨k, rfl, kl⟩ := z2m no
  have q2 := q2 no
  simp only [Int.toNat_natCast] at q2
  have nk := sd _ (z6i kl)
  refine ⟨_, hv, _, z0h (j := 2) rfl, _, rfl, _, ht, _, z3m (by omega), _, hv, _, z0h (j := 1) rfl, _, ha, _, z3m kl, _, rfl, _, rfl, .inl ⟨by omega, by omega⟩, _, rfl, ?_⟩
  exact ⟨_, hv, _, z0h (j := 2) rfl, _, rfl, _, rfl, ss, k, rfl, ht, by omega, by omega, fun G p s hp => ⟨small (by decide), fun p1 hp1 => q2 _ p1 (s.trans (z0e hp1 _)) ⟨sa, p, z0k, z0e hp1 _ _ _ (s _ _ ha), z0e hp1 _ _ _ hp⟩⟩⟩
abbrev scutview : Stmt := top 38
theorem sccutview : FnScope ["view", "side", "first", "many", "step", "sides", "stride"] ["view", "side", "first", "many", "step"] (defScope scutview) := ⟨rfl, rfl, rfl, by decide +kernel, rfl, by decide +kernel, by decide +kernel⟩
theorem okcutview (F : Fun K "cut_view" "cut_view" scutview f fd) {CNoSide : Addr} (nNoSide : PySem.W.nsIn K mainGlobals "NoSide" = some (some (.ref CNoSide))) {CBeyond : Addr} (nBeyond : PySem.W.nsIn K mainGlobals "Beyond" = some (some (.ref CBeyond))) (ccutsides : Callee P w K mg base (CX1 P w) (2) "cut_sides" ["sides", "side", "first", "many", "step"] (spcut CNoSide CBeyond)) (cchangedat : Callee P w K mg base CX0 (2) "changed_at" ["row", "k", "number"] spchangedat) : FnOk P w K mg base (CX1 P w) (3) f fd ["view", "side", "first", "many", "step"] ((spvcut CNoSide CBeyond)) := by
  have sc := sccutview
  refine F.okX sc (fun vs H Q E h => ?_) (fun cdv A outer s H vs Q E hr h => ?_)
  · obtain ⟨v, ns, ss, st, side, first, many, step, rfl, _⟩ := h; rfl
  obtain ⟨v, ns, ss, st, side, first, many, step, rfl, ⟨sa, ta, hv, ha, ht⟩, ⟨sd, l6, ll, l10⟩, hf, hg, m0, m1, q1, q2, q3⟩ := h
  refine ⟨_, (z0c (z0m (i := 5) sc.nd rfl (by first | exact Or.inl rfl | exact Or.inr rfl) (z0u ccutsides hr (by rfl) z2c (z0a (z0t z0i (pv 0) z0b (fun _ _ => rfl)) (z0a (pv 1) (z0a (pv 2) (z0a (pv 3) (z0a (pv 4) z0d))))))) (z0c (z0m (i := 6) sc.nd rfl (by first | exact Or.inl rfl | exact Or.inr rfl) (z0t z0i (z0t z0i (pv 0) z0b (fun _ _ => rfl)) (pv 1) (fun _ _ => rfl))) (z0f (z0s (z1d (z0a (pv 5) (z0a (z0n z1i (z0t z0i (pv 0) z0b (fun _ _ => rfl)) (z0n z2h (pv 2) (pv 6))) (z0a (z0u cchangedat hr (by rfl) z1n (z0a (z0t z0i (pv 0) z0b (fun _ _ => rfl)) (z0a (pv 1) (z0a (z0n z2h (pv 6) (pv 4)) z0d)))) z0d)))))))), ?_⟩
  simp only [L2.start, List.length_cons, List.length_nil, List.replicate, List.cons_append, List.nil_append, Nat.reduceSub, Nat.reduceAdd, List.map_cons, List.map_nil]
  wp_walk using rRepT, tSeq, tIfS, eqV, spcut, spchangedat
  refine ⟨_, hv, _, z0h (j := 0) rfl, _, rfl, ns, ha, by omega, m0, m1, q1, q2, fun no nb G p s hp => ?_⟩
  have q3 := q3 no nb
  obtain ⟨k, rfl, kl⟩ := z2m no
  simp only [Int.toNat_natCast] at q3 hp
  have hv1 := s _ _ hv
  refine ⟨_, hv1, _, z0h (j := 2) rfl, _, rfl, _, s _ _ ht, _, z3m (by omega), _, hv1, _, z0h (j := 1) rfl, _, rfl, .inl ⟨hf.1, hf.2⟩, _, rfl, ?_⟩
  exact ⟨_, hv1, _, z0h (j := 2) rfl, _, rfl, .inr ⟨hg.1, hg.2⟩, _, rfl, ss, k, rfl, s _ _ ht, by omega, by omega, fun G' p' s' hp' => ⟨small (by decide), fun p1 hp1 => q3 _ p1 (s.trans (s'.trans (z0e hp1 _))) ⟨p, p', z0k, z0e hp1 _ _ _ (s' _ _ hp), z0e hp1 _ _ _ hp'⟩⟩⟩
abbrev sspreadview : Stmt := top 39
theorem scspreadview : FnScope ["view", "side", "many", "sides"] ["view", "side", "many"] (defScope sspreadview) := ⟨rfl, rfl, rfl, by decide +kernel, rfl, by decide +kernel, by decide +kernel⟩
theorem okspreadview (F : Fun K "spread_view" "spread_view" sspreadview f fd) {CNoSide : Addr} (nNoSide : PySem.W.nsIn K mainGlobals "NoSide" = some (some (.ref CNoSide))) {CBeyond : Addr} (nBeyond : PySem.W.nsIn K mainGlobals "Beyond" = some (some (.ref CBeyond))) {CTooLarge : Addr} (nTooLarge : PySem.W.nsIn K mainGlobals "TooLarge" = some (some (.ref CTooLarge))) (cspreadsides : Callee P w K mg base (CX1 P w) (4) "spread_sides" ["sides", "side", "many"] (spspr CNoSide CBeyond CTooLarge)) (caddedat : Callee P w K mg base CX0 (4) "added_at" ["row", "k", "number"] spaddedat) : FnOk P w K mg base (CX1 P w) (5) f fd ["view", "side", "many"] ((spvspread CNoSide CBeyond CTooLarge)) := by
  have sc := scspreadview
  refine F.okX sc (fun vs H Q E h => ?_) (fun cdv A outer s H vs Q E hr h => ?_)
  · obtain ⟨v, ns, ss, st, side, many, rfl, _⟩ := h; rfl
  obtain ⟨v, ns, ss, st, side, many, rfl, ⟨sa, ta, hv, ha, ht⟩, ⟨sd, l6, ll, l10⟩, m1, q1, q2, q3, q4⟩ := h
  refine ⟨_, (z0c (z0m (i := 3) sc.nd rfl (by first | exact Or.inl rfl | exact Or.inr rfl) (z0u cspreadsides hr (by rfl) z2c (z0a (z0t z0i (pv 0) z0b (fun _ _ => rfl)) (z0a (pv 1) (z0a (pv 2) z0d))))) (z0f (z0s (z1d (z0a (pv 3) (z0a (z0t z0i (pv 0) z0b (fun _ _ => rfl)) (z0a (z0u caddedat hr (by rfl) z1n (z0a (z0t z0i (pv 0) z0b (fun _ _ => rfl)) (z0a (pv 1) (z0a z0b z0d)))) z0d))))))), ?_⟩
  simp only [L2.start, List.length_cons, List.length_nil, List.replicate, List.cons_append, List.nil_append, Nat.reduceSub, Nat.reduceAdd, List.map_cons, List.map_nil]
  wp_walk using rRepT, tSeq, tIfS, eqV, spspr, spaddedat
  refine ⟨_, hv, _, z0h (j := 0) rfl, _, rfl, ns, ha, sd, by omega, m1, q1, q2, q3, fun no nm nb G p s hp => ?_⟩
  have q4 := q4 no nm nb
  obtain ⟨k, rfl⟩ : ∃ k : Nat, side = k := ⟨side.toNat, by unfold off1 at no; omega⟩
  simp only [Int.toNat_natCast] at q4 hp
  have hv1 := s _ _ hv
  exact ⟨_, hv1, _, z0h (j := 1) rfl, _, hv1, _, z0h (j := 2) rfl, _, rfl, ss, k, rfl, s _ _ ht, by omega, fun G' p' s' hp' => ⟨small (by decide), fun p1 hp1 => q4 _ p1 (s.trans (s'.trans (z0e hp1 _))) ⟨p, p', z0k, z0e hp1 _ _ _ (s' _ _ hp), z0e hp1 _ _ _ hp'⟩⟩⟩
abbrev sledview : Stmt := top 40
theorem scledview : FnScope ["view", "sides", "own", "strides", "more"] ["view", "sides"] (defScope sledview) := ⟨rfl, rfl, rfl, by decide +kernel, rfl, by decide +kernel, by decide +kernel⟩
theorem okledview (F : Fun K "led_view" "led_view" sledview f fd) {CUnlike : Addr} (nUnlike : PySem.W.nsIn K mainGlobals "Unlike" = some (some (.ref CUnlike))) (cledsides : Callee P w K mg base (CX1 P w) (2) "led_sides" ["sides", "others"] (spled CUnlike)) (zlen : mg "len" = none) : FnOk P w K mg base (CX1 P w) (3) f fd ["view", "sides"] ((spvled CUnlike)) := by
  have sc := scledview
  refine F.okX sc (fun vs H Q E h => ?_) (fun cdv A outer s H vs Q E hr h => ?_)
  · obtain ⟨v, b, ns, ss, ms, st, rfl, _⟩ := h; rfl
  obtain ⟨v, b, ns, ss, ms, st, rfl, ⟨sa, ta, hv, ha, ht⟩, ⟨sd, l6, ll, l10⟩, hb, m10, q1, q2⟩ := h
  refine ⟨_, (z0c (z3q (z0u cledsides hr (by rfl) z2c (z0a (z0t z0i (pv 0) z0b (fun _ _ => rfl)) (z0a (pv 1) z0d)))) (z0c (z0m (i := 2) sc.nd rfl (by first | exact Or.inl rfl | exact Or.inr rfl) (z0r z0q (by rfl) zlen PySem.boot_len (z0a (z0t z0i (pv 0) z0b (fun _ _ => rfl)) z0d))) (z0c (z0m (i := 3) sc.nd rfl (by first | exact Or.inl rfl | exact Or.inr rfl) (z0t z0i (pv 0) z0b (fun _ _ => rfl))) (z0c (z0m (i := 4) sc.nd rfl (by first | exact Or.inl rfl | exact Or.inr rfl) (z0n op_repT (z1d (z0a z0b z0d)) (z0n z2g (z0r z0q (by rfl) zlen PySem.boot_len (z0a (pv 1) z0d)) (pv 2)))) (z0f (z0s (z1d (z0a (pv 1) (z0a (z0t z0i (pv 0) z0b (fun _ _ => rfl)) (z0a (z0n z1v (z0n z1v (z1c z1t (pv 3) z1k (z1e (pv 2))) (pv 4)) (z1c z1t (pv 3) (z1e (pv 2)) z1k)) z0d)))))))))), ?_⟩
  simp only [L2.start, List.length_cons, List.length_nil, List.replicate, List.cons_append, List.nil_append, Nat.reduceSub, Nat.reduceAdd, List.map_cons, List.map_nil]
  wp_walk using tSeq, tIfS, eqV, spled
  refine ⟨_, hv, _, z0h (j := 0) rfl, _, rfl, ns, ha, ms, hb, q1, fun e G s => ?_⟩
  have q2 := q2 e
  have hv1 := s _ _ hv
  have nl : ns.length ≤ ms.length := by have := congrArg List.length e; rw [List.length_take] at this; omega
  refine ⟨_, hv1, _, z0h (j := 0) rfl, _, rfl, _, .inr (.of (s _ _ ha)), _, hv1, _, z0h (j := 2) rfl, small (by decide), fun p hp => ⟨_, .inr (.of (z0e hp _ _ _ (s _ _ hb))), ?_⟩⟩
  rw [z0l, z0l, show (ms.length : Int) - (ns.length : Int) = ((ms.length - ns.length : Nat) : Int) by omega]
  refine repT0 z0k (by omega) fun r G2 s2 hr => ?_
  have k2 := s.trans ((z0e hp (.tup [V.int 0])).trans s2)
  refine ⟨_, k2 _ _ hv, _, z0h (j := 1) rfl, _, rfl, _, k2 _ _ ht, fun r1 G3 s3 hr1 => ?_⟩
  rw [z2k] at hr1
  refine ⟨_, rfl, _, hr1, _, s3 _ _ hr, small (by simp only [List.length_map, List.length_take, z5o]; omega), fun r2 G4 s4 hr2 => ⟨_, rfl, _, (k2.trans (s3.trans s4)) _ _ ht, fun r3 G5 s5 hr3 => ?_⟩⟩
  rw [z2x] at hr3
  refine ⟨_, s5 _ _ hr2, _, hr3, small (by simp only [List.length_append, List.length_map, List.length_take, List.length_drop, z5o]; omega), fun r4 G6 s6 hr4 => ⟨small (by decide), fun p7 hp7 => ?_⟩⟩
  have k6 := k2.trans (s3.trans (s4.trans (s5.trans (s6.trans (z0e hp7 (.tup [V.ref b, V.int st, V.ref r4]))))))
  exact q2 _ p7 k6 ⟨b, r4, z0k, k6 _ _ hb, by rw [z0e hp7 _ _ _ hr4, List.map_append, List.map_append]⟩
abbrev sspotof : Stmt := top 41
def spspotof : Sp := fun vs H Q _ => ∃ (v b : Addr) (ns ss ms : List Int) (st : Int), vs = [.ref v, .ref b] /\ VwAt H v ns st ss /\ H b = some (.tup (ms.map V.int)) /\ sm ns /\ ns.length ≤ 20 /\ ss.length = ns.length /\ good ns ms /\ ∀ H', Same H H' -> Q (.int (st + dotI ms ss)) H'
theorem scspotof : FnScope ["view", "at", "side", "coordinate"] ["view", "at"] (defScope sspotof) := ⟨rfl, rfl, rfl, by decide +kernel, rfl, by decide +kernel, by decide +kernel⟩
theorem okspotof (F : Fun K "spot_of" "spot_of" sspotof f fd) (zlen : mg "len" = none) (zzip : mg "zip" = none) (zsum : mg "sum" = none) : FnOk P w K mg base CX0 (2) f fd ["view", "at"] (spspotof) := by
  have sc := scspotof
  refine F.ok sc (fun vs H Q E h => ?_) (fun cdv A outer s H vs Q E hr h => ?_)
  · obtain ⟨v, b, ns, ss, ms, st, rfl, _⟩ := h; rfl
  obtain ⟨v, b, ns, ss, ms, st, rfl, ⟨sa, ta, hv, hsa, hta⟩, hb, hm, h20, hl, g, q⟩ := h
  refine ⟨_, (z0c (z1a (z0j op_ne (z0r z0q (by rfl) zlen PySem.boot_len (z0a (pv 1) z0d)) (z0r z0q (by rfl) zlen PySem.boot_len (z0a (z0t z0i (pv 0) z0b (fun _ _ => rfl)) z0d)) (z0o _)) (z0f ps_never) z0p) (z0c (z2v PassesOwn.never rfl (z7a (by rfl) zzip (z0a (z0t z0i (pv 0) z0b (fun _ _ => rfl)) (z0a (pv 1) z0d))) (z4g (n := 2) (z6e rfl (z1x (z0y (i := 2) sc.nd rfl (Or.inl rfl)) (z1x (z0y (i := 3) sc.nd rfl (Or.inl rfl)) z4f)))) (z0f (z1a (z3i (z0j z3a (pv 3) z0b (z0o _)) (z2u (z0j op_ge (pv 3) (pv 2) (z0o _)))).pt (z0f ps_never) z0p))) (z0f (z0s (z0n z1i (z0t z0i (pv 0) z0b (fun _ _ => rfl)) (z0r (z4v rfl) (by rfl) zsum boot_sum (z0a (z3j (own := ["coordinate", "stride"]) rfl (z7a (by rfl) zzip (z0a (pv 1) (z0a (z0t z0i (pv 0) z0b (fun _ _ => rfl)) z0d))) (by decide) (by decide) rfl (by decide) (fun _ _ _ _ => (z4g (n := 2) (z6e rfl (z1x (z0y (i := 0) (show (["coordinate", "stride"] : List Str).Nodup by decide +kernel) rfl (Or.inl rfl)) (z1x (z0y (i := 1) (show (["coordinate", "stride"] : List Str).Nodup by decide +kernel) rfl (Or.inl rfl)) z4f))))) (fun _ _ _ _ => (z0n z2h (pv 0) (pv 1)))) z0d))))))), ?_⟩
  have ml := g.1
  wp_walk using rRepT, tSeq, tIfS, eqV
  refine ⟨_, .inr (.of hb), _, hv, _, z0h (j := 2) rfl, _, rfl, _, .inr (.of hta), ?_⟩
  rw [z0l, z0l, if_neg (by omega)]
  refine ⟨_, hv, _, z0h (j := 0) rfl, ?_⟩
  refine LoopZ.mk (xs := ns.map V.int) (ys := ms.map V.int) ns.length (by rw [z0l, z0l, ml, Nat.min_self]) (.of hsa) (.of hb) (fun i σ H' => Same H H' /\ ∃ y2 y3, σ = [some (.ref v), some (.ref b), y2, y3]) ⟨Same.refl _, _, _, rfl⟩ (fun i σ H' _ h => ⟨.of (h.1 _ _ hsa), .of (h.1 _ _ hb)⟩) (fun i x y σ H' T hi ex ey h hT => ?_) (fun σ H' h => ?_)
  · obtain ⟨h1, y2, y3, rfl⟩ := h
    obtain ⟨n, rfl, hn⟩ := z2l ex
    obtain ⟨m, rfl, hm'⟩ := z2l ey
    have gi := g.2 i m n hm' hn
    wp_walk using rRepT, tSeq, tIfS, eqV
    rw [if_neg (Int.not_lt.mpr gi.1), if_neg (Int.not_le.mpr gi.2)]
    exact ⟨h1.trans (z0e hT _), _, rfl⟩
  · obtain ⟨h1, y2, y3, rfl⟩ := h
    wp_walk using rRepT, tSeq, tIfS, eqV
    have hb1 := h1 _ _ hb
    have hta1 := h1 _ _ hta
    refine ⟨_, h1 _ _ hv, _, z0h (j := 1) rfl, _, h1 _ _ hv, _, z0h (j := 2) rfl, ?_⟩
    have lz : (List.zipWith (fun a b => a * b) ms ss).length = ss.length := by rw [List.length_zipWith, hl, ml, Nat.min_self]
    refine CompZ.mk (xs := ms.map V.int) (ys := ss.map V.int) ss.length (by rw [z0l, z0l, hl, ml, Nat.min_self]) (.of hb1) (.of hta1) (fun i zs σ H2 => Same H' H2 /\ zs = ((List.zipWith (fun a b => a * b) ms ss).take i).map V.int /\ ∃ y z, σ = [y, z]) ⟨Same.refl _, rfl, _, _, rfl⟩ (fun i zs σ H2 _ h => ⟨.of (h.1 _ _ hb1), .of (h.1 _ _ hta1)⟩) (fun i x y zs σ H2 T hi ex ey h hT => ?_) (fun zs σ H2 h q1 hq => ?_) (fun i zs σ H2 h => ?_)
    · obtain ⟨h3, rfl, y4, y5, rfl⟩ := h
      obtain ⟨m, rfl, hm'⟩ := z2l ex
      obtain ⟨t, rfl, ht⟩ := z2l ey
      have il := (List.getElem?_eq_some_iff.mp hm').1
      have gi := g.2 i m _ hm' (z1o (by omega))
      have nb := hm _ (getD_mem (ns := ns) (k := i) (by omega))
      have ez : (List.zipWith (fun a b => a * b) ms ss)[i]? = some (m * t) := by rw [List.getElem?_zipWith, hm', ht]
      have et : ((List.zipWith (fun a b => a * b) ms ss).take (i + 1)).map V.int = ((List.zipWith (fun a b => a * b) ms ss).take i).map V.int ++ [V.int (m * t)] := by rw [List.take_add_one, ez, List.map_append]; rfl
      have sm : (((List.zipWith (fun a b => a * b) ms ss).take i).map V.int).length < sizeLine := by rw [List.length_map, List.length_take]; exact z0w (by omega)
      refine ⟨sm, ?_⟩
      wp_walk using rRepT, tSeq, tIfS, eqV, et
      exact ⟨.inl ⟨by omega, by omega⟩, h3.trans (z0e hT _), _, rfl⟩
    · obtain ⟨h3, rfl, y4, y5, rfl⟩ := h
      rw [List.take_of_length_le (by omega)]
      exact ⟨q1, rfl, _, .of z0k, _, rfl, q _ (h1.trans (h3.trans (z0e hq _)))⟩
    · obtain ⟨h3, rfl, _⟩ := h
      rw [List.length_map, List.length_take]; exact z0w (by omega)
abbrev sspanof : Stmt := top 42
def spspanof : Sp := fun vs H Q _ => ∃ (v : Addr) (ns ss : List Int) (st : Int), vs = [.ref v] /\ VwAt H v ns st ss /\ sdOk ns /\ ns.length ≤ 63 /\ ss.length = ns.length /\ (prodI ns = 0 -> ∀ H', Same H H' -> Q .non H') /\ (¬ prodI ns = 0 -> ∀ H' p, Same H H' -> H' p = some (.tup [.int (st + loI (rchL ns ss)), .int (st + hiI (rchL ns ss))]) -> Q (.ref p) H')
theorem scspanof : FnScope ["view", "reaches", "least", "greatest"] ["view"] (defScope sspanof) := ⟨rfl, rfl, rfl, by decide +kernel, rfl, by decide +kernel, by decide +kernel⟩
theorem okspanof (F : Fun K "span_of" "span_of" sspanof f fd) (camount : Callee P w K mg base CX0 (1) "amount" ["sides"] spamount) (zzip : mg "zip" = none) (zsum : mg "sum" = none) (zmin : mg "min" = none) (zmax : mg "max" = none) : FnOk P w K mg base CX0 (2) f fd ["view"] (spspanof) := by
  have sc := scspanof
  refine F.ok sc (fun vs H Q E h => ?_) (fun cdv A outer s H vs Q E hr h => ?_)
  · obtain ⟨v, ns, ss, st, rfl, _⟩ := h; rfl
  obtain ⟨v, ns, ss, st, rfl, ⟨sa, ta, hv, hsa, hta⟩, hs, h63, hl, q1, q2⟩ := h
  refine ⟨_, (z0c (z1a (z0j z1m (z0u camount hr (by rfl) z1n (z0a (z0t z0i (pv 0) z0b (fun _ _ => rfl)) z0d)) z0b (z0o _)) (z0f (z0s pe_non)) z0p) (z0c (ps_setC0 (own := ["side", "stride"]) sc.nd (i := 1) rfl (by first | exact Or.inl rfl | exact Or.inr rfl) (by first | exact Or.inl rfl | exact Or.inr rfl) rfl (z7a (by rfl) zzip (z0a (z0t z0i (pv 0) z0b (fun _ _ => rfl)) (z0a (z0t z0i (pv 0) z0b (fun _ _ => rfl)) z0d))) (by decide) (by decide) rfl (by decide) (fun _ _ _ _ => (z4g (n := 2) (z6e rfl (z1x (z0y (i := 0) (show (["side", "stride"] : List Str).Nodup by decide +kernel) rfl (Or.inl rfl)) (z1x (z0y (i := 1) (show (["side", "stride"] : List Str).Nodup by decide +kernel) rfl (Or.inl rfl)) z4f))))) (fun _ _ _ _ => (z0n z2h (z0n z2g (pv 0) z0b) (pv 1)))) (z0c (z0m (i := 2) sc.nd rfl (by first | exact Or.inl rfl | exact Or.inr rfl) (z0n z1i (z0t z0i (pv 0) z0b (fun _ _ => rfl)) (z0r (z4v rfl) (by rfl) zsum boot_sum (z0a (z3j (own := ["reach"]) rfl (z4e (pv 1)) (by decide) (by decide) rfl (by decide) (fun _ _ _ _ => (z0y (i := 0) (show (["reach"] : List Str).Nodup by decide +kernel) rfl (Or.inl rfl))) (fun _ _ _ _ => (z0r (z2t rfl) (by rfl) zmin boot_min (z0a (pv 0) (z0a z0b z0d))))) z0d)))) (z0c (z0m (i := 3) sc.nd rfl (by first | exact Or.inl rfl | exact Or.inr rfl) (z0n z1i (z0t z0i (pv 0) z0b (fun _ _ => rfl)) (z0r (z4v rfl) (by rfl) zsum boot_sum (z0a (z3j (own := ["reach"]) rfl (z4e (pv 1)) (by decide) (by decide) rfl (by decide) (fun _ _ _ _ => (z0y (i := 0) (show (["reach"] : List Str).Nodup by decide +kernel) rfl (Or.inl rfl))) (fun _ _ _ _ => (z0r (z3d rfl) (by rfl) zmax boot_max (z0a (pv 0) (z0a z0b z0d))))) z0d)))) (z0f (z0s (z1d (z0a (pv 2) (z0a (pv 3) z0d))))))))), ?_⟩
  wp_walk using rRepT, tSeq, tIfS, eqV, spamount
  refine ⟨_, hv, _, z0h (j := 0) rfl, _, rfl, ns, .inr hsa, hs, ?_⟩
  by_cases z0 : prodI ns = 0
  · rw [if_pos z0]; exact q1 z0 _ (Same.refl _)
  rw [if_neg z0]
  refine ⟨_, hv, _, z0h (j := 0) rfl, _, hv, _, z0h (j := 2) rfl, ?_⟩
  have lz : (rchL ns ss).length = ns.length := by unfold rchL; rw [List.length_zipWith, hl, Nat.min_self]
  refine CompZ.mk (xs := ns.map V.int) (ys := ss.map V.int) ns.length (by rw [z0l, z0l, hl, Nat.min_self]) (.of hsa) (.of hta) (fun i zs σ H' => Same H H' /\ zs = ((rchL ns ss).take i).map V.int /\ ∃ y z, σ = [y, z]) ⟨Same.refl _, rfl, _, _, rfl⟩ (fun i zs σ H' _ h => ⟨.of (h.1 _ _ hsa), .of (h.1 _ _ hta)⟩) (fun i x y zs σ H' T hi ex ey h hT => ?_) (fun zs σ H' h p hp => ?_) (fun i zs σ H' h => ?_)
  · obtain ⟨h3, rfl, y4, y5, rfl⟩ := h
    obtain ⟨n, rfl, hn, n0, n1⟩ := z6n hs ex
    obtain ⟨t, rfl, ht⟩ := z2l ey
    have ez : (rchL ns ss)[i]? = some ((n - 1) * t) := by unfold rchL; rw [List.getElem?_zipWith, hn, ht]
    have et : ((rchL ns ss).take (i + 1)).map V.int = ((rchL ns ss).take i).map V.int ++ [V.int ((n - 1) * t)] := by rw [List.take_add_one, ez, List.map_append]; rfl
    have sm : (((rchL ns ss).take i).map V.int).length < sizeLine := by rw [List.length_map, List.length_take]; exact z0w (by omega)
    refine ⟨sm, ?_⟩
    wp_walk using rRepT, tSeq, tIfS, eqV, et
    exact ⟨.inl ⟨by omega, by omega⟩, h3.trans (z0e hT _), _, rfl⟩
  · obtain ⟨h3, rfl, y4, y5, rfl⟩ := h
    rw [List.take_of_length_le (by omega)]
    have s4 := h3.trans (z0e hp (.lst ((rchL ns ss).map V.int)))
    have g4 : upd H' p (.lst ((rchL ns ss).map V.int)) p = some (.lst ((rchL ns ss).map V.int)) := z0k
    generalize upd H' p (.lst ((rchL ns ss).map V.int)) = H4 at *
    refine ⟨_, s4 _ _ hv, _, z0h (j := 1) rfl, ?_⟩
    refine CompL.ints (fn := fun x => if 0 < x then 0 else x) (.of g4) (by omega) (fun n _ H5 _ Q' hQ => ?_) (fun H5 s5 p5 hp5 => ?_)
    · wp_walk using rRepT, tSeq, tIfS, eqV; exact hQ _ (Same.refl _)
    have s6 := s5.trans (z0e hp5 (.lst ((List.map (fun x : Int => if 0 < x then 0 else x) (rchL ns ss)).map V.int)))
    have g6 : upd H5 p5 (.lst ((List.map (fun x : Int => if 0 < x then 0 else x) (rchL ns ss)).map V.int)) p5 = some (.lst ((List.map (fun x : Int => if 0 < x then 0 else x) (rchL ns ss)).map V.int)) := z0k
    generalize upd H5 p5 (.lst ((List.map (fun x : Int => if 0 < x then 0 else x) (rchL ns ss)).map V.int)) = H6 at *
    refine ⟨p5, rfl, _, .of g6, _, rfl, _, s6 _ _ (s4 _ _ hv), _, z0h (j := 1) rfl, ?_⟩
    refine CompL.ints (fn := fun x => if 0 > x then 0 else x) (.of (s6 _ _ g4)) (by omega) (fun n _ H7 _ Q' hQ => ?_) (fun H7 s7 p7 hp7 => ?_)
    · wp_walk using rRepT, tSeq, tIfS, eqV; exact hQ _ (Same.refl _)
    refine ⟨p7, rfl, _, .of z0k, _, rfl, small (by decide), fun p8 hp8 => ?_⟩
    exact q2 z0 _ _ (s4.trans (s6.trans (s7.trans ((z0e hp7 _).trans (z0e hp8 _))))) z0k
  · obtain ⟨h3, rfl, _⟩ := h
    rw [List.length_map, List.length_take]; exact z0w (by omega)
abbrev sseenthrough : Stmt := top 43
theorem z7l : FnScope ["view", "cells", "span"] ["view", "cells"] (defScope sseenthrough) := ⟨rfl, rfl, rfl, by decide +kernel, rfl, by decide +kernel, by decide +kernel⟩
theorem okseenthrough (F : Fun K "seen_through" "seen_through" sseenthrough f fd) {c : Addr} (hcd : fd.code = .ref c) (TF : TabF base mg c TV) {CBeyond : Addr} (nBeyond : PySem.W.nsIn K mainGlobals "Beyond" = some (some (.ref CBeyond))) (ctableby : Callee P w K mg base CX0 (7) "table_by" ["sides", "number_at"] (sptableby P w K mg base)) (cspanof : Callee P w K mg base CX0 (7) "span_of" ["view"] spspanof) (zlen : mg "len" = none) (xBeyond : PySem.W.excIn K CBeyond [.type "ValueError", .type "Exception", .type "BaseException", .type "object"] "ValueError.__new__" = true) (c5spotof : Callee P w K mg base CX0 5 "spot_of" ["view", "at"] spspotof) : FnOk P w K mg base (CX1 P w) (8) f fd ["view", "cells"] ((spseenT TV CBeyond)) := by
  have sc := z7l
  refine F.okTX hcd sc (fun vs H Q E h => ?_) (fun A outer s H vs Q E hr h => ?_)
  · obtain ⟨v, c, ns, ss, cs, st, rfl, _⟩ := h; rfl
  obtain ⟨v, c0, ns, ss, cs, st, rfl, vw, hc, hm, h20, hl, p5, ht, q1, q2⟩ := h
  have own : OwnCl (envOfC "seen_through" (defScope sseenthrough) s.heap.objs.size f (.ref c)).cells ["view", "cells"] [("view", s.heap.objs.size + 1), ("cells", s.heap.objs.size + 2)] := ⟨rfl, (fc rfl (fc rfl fc0))⟩
  refine ⟨_, (z0c (z0m (i := 2) sc.nd rfl (by first | exact Or.inl rfl | exact Or.inr rfl) (z0u cspanof hr (by rfl) z1n (z0a (pv 0) z0d))) (z0c (z1a (z2r (z0j op_notN (pv 2) pe_non (z0o _)) (z2b (z3i (z0j z3a (z0t z0i (pv 2) z0b (fun _ _ => rfl)) z0b (z0o _)) (z2u (z0j op_ge (z0t z0i (pv 2) z0b (fun _ _ => rfl)) (z0r z0q (by rfl) zlen PySem.boot_len (z0a (pv 1) z0d)) (z0o _)))).pt)).pt (z0f (z1w PySem.F.excBase_ValueError rfl (by rfl) nBeyond xBeyond z2a (z0a z0z z0d))) z0p) (z0f (z0s (z4z (fv := ["view", "cells"]) (js := [0, 1]) ctableby hr (by rfl) own rfl (fc rfl (fc rfl fc0)) (fc rfl (fc rfl fc0)) (by decide +kernel) (z0a (z0t z0i (pv 0) z0b (fun _ _ => rfl)) (z0a (z7b (qual := "seen_through.<locals>.<lambda>") (fv := ["view", "cells"]) (cl := [("view", s.heap.objs.size + 1), ("cells", s.heap.objs.size + 2)]) rfl rfl TF rfl rfl own) z0d))))))), ?_⟩
  generalize (cxOf _ _ _ _ _ _ _ _ _ _ _ _ _ _ _ _).env.cells = ec
  simp only [L2.start, List.length_cons, List.length_nil, List.replicate, List.cons_append, List.nil_append, Nat.reduceSub, Nat.reduceAdd, List.map_cons, List.map_nil]
  have hs := sm_sd hm
  refine z0g (fun σ G => ∃ sp, Same H G /\ ((prodI ns = 0 /\ sp = .non) \/ (¬ prodI ns = 0 /\ ∃ p, sp = .ref p /\ G p = some (.tup [.int (st + loI (rchL ns ss)), .int (st + hiI (rchL ns ss))]))) /\ σ = [some (.ref v), some (.ref c0), some sp]) ?_ (fun R hR => ?_)
  rotate_left
  · wp_walk using rRepT, tSeq, tIfS, eqV, spspanof
    exact ⟨ns, ss, st, vw, hs, by omega, hl, fun z G s => hR _ _ ⟨.non, s, .inl ⟨z, rfl⟩, rfl⟩, fun z G p s hp => hR _ _ ⟨.ref p, s, .inr ⟨z, p, rfl, hp⟩, rfl⟩⟩
  rintro σ1 G1 ⟨sp, s1, hsp, rfl⟩
  refine z0g (fun σ G => ¬ outV ns st ss cs.length /\ G = G1 /\ σ = [some (.ref v), some (.ref c0), some sp]) ?_ (fun R hR => ?_)
  rotate_left
  · wp_walk using rRepT, tSeq, tIfS, eqV
    rcases hsp with ⟨z, rfl⟩ | ⟨nz, p, rfl, hp⟩
    · rw [if_neg (fun y => y rfl)]
      exact hR _ _ ⟨fun o => o.1 z, rfl, rfl⟩
    · rw [if_pos (fun y => by cases y)]
      refine ⟨_, rfl, _, hp, _, z0h (j := 0) rfl, _, rfl, ?_⟩
      by_cases c1 : st + loI (rchL ns ss) < 0
      · rw [if_pos c1]; exact ⟨small (by decide), q1 ⟨nz, .inl c1⟩ _ s1⟩
      rw [if_neg c1]
      refine ⟨_, rfl, _, hp, _, z0h (j := 1) rfl, _, (hc.same s1).imp .of .of, _, rfl, ?_⟩
      rw [z0l]
      by_cases c2 : (cs.length : Int) ≤ st + hiI (rchL ns ss)
      · rw [if_pos c2]; exact ⟨small (by decide), q1 ⟨nz, .inr c2⟩ _ s1⟩
      rw [if_neg c2]
      exact hR _ _ ⟨fun o => o.2.elim c1 c2, rfl, rfl⟩
  rintro σ2 G2 ⟨no, rfl, rfl⟩
  obtain ⟨sa, ta, hv, hsa, hta⟩ := id (vw.same s1)
  wp_walk using rRepT, tSeq, tIfS, eqV, sptableby
  have ht0 := ht.same s1
  refine ⟨_, hv, _, z0h (j := 0) rfl, ht0, fun fa c' cl H2 o1 ffa hfa hc2 ht2 up2 => ⟨[.ref v, .ref c0], by simp, fun cl' H3 o2 fr hcel eq3 => ?_⟩⟩
  cases OwnCl.uniq o1 o2
  have up3 : ∀ a xs, G2 a = some (.tup xs) -> H2 a = some (.tup xs) := fun a xs e => up2 _ _ (z6w ht0 e) e
  have upc : RwI H2 c0 cs := (hc.same s1).elim (fun e => .inl (up2 _ _ (fun z => by obtain ⟨ps, h1, _⟩ := ht0; rw [← z, e] at h1; cases h1) e)) (fun e => .inr (up3 _ _ e))
  have u3 := z4j fr eq3
  refine ⟨_, rfl, ns, u3 _ _ (up3 _ _ hsa), hs, by omega, p5, FnV.lam (u3 _ _ hfa), fun i : Nat => cs.getD (st + dotI (atD ns (i : Int)) ss).toNat 0, fun i H4 p1 Q' hi s4 hp1 hq => ?_, fun H4 p q s4 hq hp' => ?_⟩
  · have hcel1 := hcel.same s4
    have vwm : VwAt (minC H4 cl) v ns st ss := ⟨sa, ta, z1g hcel1 (s4 _ _ (u3 _ _ (up3 _ _ hv))), z1g hcel1 (s4 _ _ (u3 _ _ (up3 _ _ hsa))), z1g hcel1 (s4 _ _ (u3 _ _ (up3 _ _ hta)))⟩
    have cm : RwI (minC H4 cl) c0 cs := ((upc.same u3).same s4).imp (min_lst hcel1) (z1g hcel1)
    have hpm := z1g hcel1 hp1
    have gd := z2p hs (nat0 i) hi
    have nz : ¬ prodI ns = 0 := fun z => by rw [z] at hi; exact absurd hi (Int.not_lt.mpr (nat0 i))
    have di := dot_in gd hl
    have o2' : ¬ (st + loI (rchL ns ss) < 0 \/ (cs.length : Int) ≤ st + hiI (rchL ns ss)) := fun z => no ⟨nz, z⟩
    have b0 : 0 ≤ st + dotI (atD ns (i : Int)) ss := by omega
    have b1 : st + dotI (atD ns (i : Int)) ss < cs.length := by omega
    replace hq : ∀ H2, Same H4 H2 -> Q' (V.int (cs.getD (st + dotI (atD ns (i : Int)) ss).toNat 0)) H2 := hq
    generalize atD ns (i : Int) = At at *
    refine z5a (k := 5) (N := ["at", "view", "cells"]) (ps := ["at"]) (fv := ["view", "cells"]) (vs := [V.ref p1]) (vcs := [.ref v, .ref c0]) ⟨rfl, rfl, rfl, by decide +kernel, rfl, fc (.inl rfl) fc0, fc rfl (fc rfl fc0), by decide +kernel, by decide +kernel⟩ o1.1 (fun pm ctv us hl => by match us, hl with | [u], _ => rfl) rfl (s4 _ _ (u3 _ _ hfa)) (s4 _ _ (u3 _ _ hc2)) hcel1 (fun A outer s hr => z0t ix_seqH (pv 2) (z0u c5spotof hr (by rfl) z1n (z0a (pv 1) (z0a (pv 0) z0d))) (fun _ _ => rfl)) ?_
    wp_walk using rRepT, tSeq, tIfS, eqV, spspotof
    exact ⟨ns, ss, At, st, vwm, hpm, hm, h20, hl, gd, fun G s5 => ⟨_, cm.same s5, _, at_int b0 (z1o (to_lt b0 b1)), hq _ (z3x s5)⟩⟩
  · have hb := z3c fr eq3 s4
    have hc4 := hcel.same s4
    exact q2 no _ p (fun b o n e => hb _ _ (up2 _ _ n (s1 _ _ e))) (ht2.same hb) ⟨_, _, z1g hc4 hp', hb _ _ (up3 _ _ hsa), z1g hc4 hq⟩
abbrev slead : Stmt := top 45
theorem sclead : FnScope ["tab", "sides", "many"] ["tab", "sides"] (defScope slead) := ⟨rfl, rfl, rfl, by decide +kernel, rfl, by decide +kernel, by decide +kernel⟩
theorem oklead (F : Fun K "lead" "lead" slead f fd) {c : Addr} (hcd : fd.code = .ref c) (TF : TabF base mg c TL) {CUnlike : Addr} (nUnlike : PySem.W.nsIn K mainGlobals "Unlike" = some (some (.ref CUnlike))) (ctableby : Callee P w K mg base CX0 (7) "table_by" ["sides", "number_at"] (sptableby P w K mg base)) (cledsides : Callee P w K mg base (CX1 P w) (7) "led_sides" ["sides", "others"] (spled CUnlike)) (zlen : mg "len" = none) (c5cellat : Callee P w K mg base CX0 5 "cell_at" ["tab", "at"] spcellat) : FnOk P w K mg base (CX1 P w) (8) f fd ["tab", "sides"] ((spleadT TL CUnlike)) := by
  have sc := sclead
  refine F.okTX hcd sc (fun vs H Q E h => ?_) (fun A outer s H vs Q E hr h => ?_)
  · obtain ⟨t, b, ns, cs, ms, rfl, _⟩ := h; rfl
  obtain ⟨t, b, ns, cs, ms, rfl, tb, hb, hs, hm, h20, m20, csl, p5, ht, q1, q2⟩ := h
  have own : OwnCl (envOfC "lead" (defScope slead) s.heap.objs.size f (.ref c)).cells ["tab", "many"] [("tab", s.heap.objs.size + 1), ("many", s.heap.objs.size + 2)] := ⟨rfl, (fc rfl (fc rfl fc0))⟩
  refine ⟨_, (z0c (z0m (i := 2) sc.nd rfl (by first | exact Or.inl rfl | exact Or.inr rfl) (z0r z0q (by rfl) zlen PySem.boot_len (z0a (z0t z0i (pv 0) z0b (fun _ _ => rfl)) z0d))) (z0f (z0s (z4z (fv := ["tab", "many"]) (js := [0, 2]) ctableby hr (by rfl) own rfl (fc rfl (fc rfl fc0)) (fc rfl (fc rfl fc0)) (by decide +kernel) (z0a (z0u cledsides hr (by rfl) z2c (z0a (z0t z0i (pv 0) z0b (fun _ _ => rfl)) (z0a (pv 1) z0d))) (z0a (z7b (qual := "lead.<locals>.<lambda>") (fv := ["tab", "many"]) (cl := [("tab", s.heap.objs.size + 1), ("many", s.heap.objs.size + 2)]) rfl rfl TF rfl rfl own) z0d)))))), ?_⟩
  generalize (cxOf _ _ _ _ _ _ _ _ _ _ _ _ _ _ _ _).env.cells = ec
  wp_walk using rRepT, tSeq, tIfS, eqV, spled, sptableby
  obtain ⟨sa, ca, tt, ta, tc⟩ := id tb
  refine ⟨_, tt, _, z0h (j := 0) rfl, _, rfl, _, .inr (.of ta), _, tt, _, z0h (j := 0) rfl, _, rfl, ns, ta, ms, hb, q1, fun no H0 s0 => ⟨ht.same s0, fun fa c' cl H2 o1 ffa hfa hc2 ht2 up2 => ⟨[.ref t, .int ns.length], by rw [z0l]; rfl, fun cl' H3 o2 fr hcel eq3 => ?_⟩⟩⟩
  cases OwnCl.uniq o1 o2
  have q5 := q2 no
  have ht0 := ht.same s0
  have up3 : ∀ a xs, H0 a = some (.tup xs) -> H2 a = some (.tup xs) := fun a xs e => up2 _ _ (z6w ht0 e) e
  have u3 := z4j fr eq3
  refine ⟨_, u3 _ _ (up3 _ _ (s0 _ _ hb)), hm, by omega, p5, FnV.lam (u3 _ _ hfa), ledV ns cs ms, fun i H1 p1 Q' hi s1 hp1 hq => ?_, fun H4 p q s4 hq hp' => ?_⟩
  · have hcel1 := hcel.same s1
    have tbm : TbAt (minC H1 cl) t ns cs := min_tb hcel1 (((tb_up (T := TL) (tb.same s0) up3).same u3).same s1)
    have hpm := z1g hcel1 hp1
    have gd := good_take ns.length (z2p hm (Int.natCast_nonneg i) hi)
    rw [no] at gd
    have al := z6m ms i
    refine z5a (k := 5) (N := ["at", "tab", "many"]) (ps := ["at"]) (fv := ["tab", "many"]) (vs := [V.ref p1]) (vcs := [.ref t, .int ns.length]) ⟨rfl, rfl, rfl, by decide +kernel, rfl, fc (.inl rfl) fc0, fc rfl (fc rfl fc0), by decide +kernel, by decide +kernel⟩ o1.1 (fun pm ctv us hl => by match us, hl with | [u], _ => rfl) rfl (s1 _ _ (u3 _ _ hfa)) (s1 _ _ (u3 _ _ hc2)) hcel1 (fun A outer s hr => z0u c5cellat hr (by rfl) z1n (z0a (pv 1) (z0a (z1c z1t (pv 0) z1k (z1e (pv 2))) z0d))) ?_
    wp_walk using rRepT, tSeq, tIfS, eqV, spcellat
    refine ⟨_, hpm, fun r G s2 h2 => ?_⟩
    rw [z2k] at h2
    exact ⟨ns, cs, tbm.same s2, _, h2, hs, by omega, gd, csl, fun G2 s3 => hq _ (z3x (s2.trans s3))⟩
  · have hb' := z3c fr eq3 s4
    have hc4 := hcel.same s4
    exact q5 _ p (fun b o n e => hb' _ _ (up2 _ _ n (s0 _ _ e))) (ht2.same hb') ⟨_, _, z1g hc4 hp', hb' _ _ (up3 _ _ (s0 _ _ hb)), z1g hc4 hq⟩
abbrev sturn : Stmt := top 47
theorem scturn : FnScope ["tab", "order", "sides", "places"] ["tab", "order"] (defScope sturn) := ⟨rfl, rfl, rfl, by decide +kernel, rfl, by decide +kernel, by decide +kernel⟩
theorem okturn (F : Fun K "turn" "turn" sturn f fd) {c : Addr} (hcd : fd.code = .ref c) (TF : TabF base mg c TT) {CNoSide : Addr} (nNoSide : PySem.W.nsIn K mainGlobals "NoSide" = some (some (.ref CNoSide))) (ctableby : Callee P w K mg base CX0 (7) "table_by" ["sides", "number_at"] (sptableby P w K mg base)) (cturnedsides : Callee P w K mg base (CX1 P w) (7) "turned_sides" ["sides", "order"] (spturned CNoSide)) (zrange : mg "range" = none) (zlen : mg "len" = none) (ztuple : mg "tuple" = none) (c5cellat : Callee P w K mg base CX0 5 "cell_at" ["tab", "at"] spcellat) : FnOk P w K mg base (CX1 P w) (8) f fd ["tab", "order"] ((spturnT TT CNoSide)) := by
  have sc := scturn
  refine F.okTX hcd sc (fun vs H Q E h => ?_) (fun A outer s H vs Q E hr h => ?_)
  · obtain ⟨t, b, ns, cs, os, rfl, _⟩ := h; rfl
  obtain ⟨t, b, ns, cs, os, rfl, tb, hb0, hm, h20, o20, p5, csl, ht, q1, q2⟩ := h
  have own : OwnCl (envOfC "turn" (defScope sturn) s.heap.objs.size f (.ref c)).cells ["tab", "places"] [("tab", s.heap.objs.size + 1), ("places", s.heap.objs.size + 3)] := ⟨rfl, (fc rfl (fc rfl fc0))⟩
  refine ⟨_, (z0c (z0m (i := 2) sc.nd rfl (by first | exact Or.inl rfl | exact Or.inr rfl) (z0u cturnedsides hr (by rfl) z2c (z0a (z0t z0i (pv 0) z0b (fun _ _ => rfl)) (z0a (pv 1) z0d)))) (z0c (z0m (i := 3) sc.nd rfl (by first | exact Or.inl rfl | exact Or.inr rfl) (z3k (own := ["side"]) (fv := ["order"]) (js := [1]) rfl (z3r (by rfl) zrange (z0a (z0r z0q (by rfl) zlen PySem.boot_len (z0a (pv 1) z0d)) z0d)) rfl (by decide) rfl (by decide) (by first | exact fun _ _ h => h | exact z3u rfl | exact z3t rfl rfl | exact z3s rfl rfl rfl) (z5i (by rfl)) rfl (cap1 (by first | exact ⟨rfl, .inl rfl, .inl rfl⟩ | exact ⟨rfl, .inl rfl, .inr rfl⟩)) (fun _ _ _ _ => (z0y (i := 0) (show (["side", "order"] : List Str).Nodup by decide +kernel) rfl (Or.inl rfl))) (fun _ _ _ _ => (pe_bmF PySem.F.slot_tuple_index PySem.F.type_tuple_index mt_indexT (pv 1) (z0a (pv 0) z0d))))) (z0f (z0s (z4z (fv := ["tab", "places"]) (js := [0, 3]) ctableby hr (by rfl) own rfl (fc rfl (fc rfl fc0)) (fc rfl (fc rfl fc0)) (by decide +kernel) (z0a (pv 2) (z0a (z7b (qual := "turn.<locals>.<lambda>") (fv := ["tab", "places"]) (cl := [("tab", s.heap.objs.size + 1), ("places", s.heap.objs.size + 3)]) rfl rfl TF rfl rfl own) z0d))))))), ?_⟩
  generalize (cxOf _ _ _ _ _ _ _ _ _ _ _ _ _ _ _ _).env.cells = ec
  wp_walk using rRepT, tSeq, tIfS, eqV, spturned, sptableby
  obtain ⟨sa, ca, tt, ta, tc⟩ := id tb
  refine ⟨_, tt, _, z0h (j := 0) rfl, _, rfl, ns, ta, os, hb0, h20, o20, q1, fun tk H0 p s0 hp => ?_⟩
  have hb1 := hb0.same s0
  have ol := z5n tk
  refine ⟨_, .inr hb1.sq, by rw [z0l]; omega, by rw [z0l]; omega, ?_⟩
  rw [z0l, Int.toNat_natCast]
  refine CompR.mk (fun i ys σ G => G = H0 /\ i ≤ os.length /\ ys = ((List.range i).map fun s : Nat => V.int ((os.idxOf (s : Int) : Nat) : Int)) /\ ∃ y, σ = [y, some (.ref b)]) ⟨rfl, Nat.zero_le _, rfl, _, rfl⟩ (fun i ys σ G hi h => ?_) (fun ys σ G h l hl => ?_)
  · obtain ⟨rfl, il, rfl, y, rfl⟩ := h
    refine ⟨by rw [List.length_map, List.length_range]; exact z0w (by omega), ?_⟩
    wp_walk using rRepT, tSeq, tIfS, Int.zero_add
    obtain ⟨o, e, dd⟩ := id hb1
    have mi := z7f tk (s := i) (by omega)
    have xl := List.idxOf_lt_length_iff.mpr mi
    refine ⟨⟨o, _, e, dd⟩, o, _, e, z1h _, os.idxOf (i : Int), ⟨V.int i, ?_, ?_⟩, fun m z hm' ez => ?_, by omega, ?_, _, rfl⟩
    · rw [List.getElem?_map, List.getElem?_eq_getElem xl, List.getElem_idxOf xl]; rfl
    · show ((i : Int) == (i : Int)) = true
      exact beq_self_eq_true _
    · obtain ⟨n, rfl, hn⟩ := z2l ez
      obtain ⟨ml, en⟩ := List.getElem?_eq_some_iff.mp hn
      have z := ne_of_lt_idxOf hm' ml
      rw [en] at z; exact z
    · rw [List.range_succ, List.map_append]; rfl
  · obtain ⟨rfl, il, rfl, y, rfl⟩ := h
    have sl := z0e hl (.lst ((List.range os.length).map fun s : Nat => V.int ((os.idxOf (s : Int) : Nat) : Int)))
    have hll : upd G l (.lst ((List.range os.length).map fun s : Nat => V.int ((os.idxOf (s : Int) : Nat) : Int))) l = some (.lst ((List.range os.length).map fun s : Nat => V.int ((os.idxOf (s : Int) : Nat) : Int))) := z0k
    generalize upd G l (.lst ((List.range os.length).map fun s : Nat => V.int ((os.idxOf (s : Int) : Nat) : Int))) = H1 at *
    have s01 := s0.trans sl
    have ht1 := ht.same s01
    refine ⟨ht1, fun fa c' cl H2 o1 ffa hfa hc2 ht2 up2 => ⟨[.ref t, .ref l], by simp, fun cl' H3 o2 fr hcel eq3 => ?_⟩⟩
    cases OwnCl.uniq o1 o2
    have up3 : ∀ a xs, H1 a = some (.tup xs) -> H2 a = some (.tup xs) := fun a xs e => up2 _ _ (z6w ht1 e) e
    have lne : ¬ l = TT := fun z => by
      obtain ⟨ps, h1, _⟩ := ht1
      rw [← z, hll] at h1; cases h1
    have u3 := z4j fr eq3
    have hs := sm_sd hm
    obtain ⟨smS, lS, pS⟩ := due_sd (side := 0) (f := 0) (m := 0) (g := 0) hm (.inl ⟨rfl, tk, rfl, rfl⟩)
    have sdS := sm_sd smS
    have pb := z1r fun n hn => (sdS n hn).1
    refine ⟨turnL ns os, u3 _ _ (up3 _ _ (sl _ _ hp)), sdS, by omega, by omega, FnV.lam (u3 _ _ hfa), fun i : Nat => cs.getD (plH ns (oldT os (atD (turnL ns os) (i : Int)))).toNat 0, fun i H4 p1 Q' hi s4 hp1 hq => ?_, fun H4 p q s4 hq hp' => ?_⟩
    · have hcel1 := hcel.same s4
      have tbm : TbAt (minC H4 cl) t ns cs := min_tb hcel1 (((tb_up (T := TT) (tb.same s01) up3).same u3).same s4)
      have hlm := min_lst hcel1 (s4 _ _ (u3 _ _ (up2 _ _ lne hll)))
      have hpm := z1g hcel1 hp1
      have gd := z2p sdS (by omega) hi
      have al := z6m (turnL ns os) i
      replace hq : ∀ H2, Same H4 H2 -> Q' (V.int (cs.getD (plH ns (oldT os (atD (turnL ns os) (i : Int)))).toNat 0)) H2 := hq
      generalize atD (turnL ns os) (i : Int) = At at *
      have gf := good_old tk gd
      refine z5a (k := 5) (N := ["at", "tab", "places"]) (ps := ["at"]) (fv := ["tab", "places"]) (vs := [V.ref p1]) (vcs := [.ref t, .ref l]) ⟨rfl, rfl, rfl, by decide +kernel, rfl, fc (.inr rfl) fc0, fc rfl (fc rfl fc0), by decide +kernel, by decide +kernel⟩ o1.1 (fun pm ctv us hl => by match us, hl with | [u], _ => rfl) rfl (s4 _ _ (u3 _ _ hfa)) (s4 _ _ (u3 _ _ hc2)) hcel1 (fun A outer s hr => z0u c5cellat hr (by rfl) z1n (z0a (pv 1) (z0a (z1f (z6r (K := K) rfl) (by rfl) ztuple boot_tuple (z0a (z3k (own := ["place"]) (fv := ["at"]) (js := [0]) rfl (pi_listK (K := K) rfl (pv 2)) rfl (by decide) rfl (by decide) (by first | exact fun _ _ h => h | exact z3u rfl | exact z3t rfl rfl | exact z3s rfl rfl rfl) (z5i (by rfl)) rfl (cap1 (by first | exact ⟨rfl, .inl rfl, .inl rfl⟩ | exact ⟨rfl, .inl rfl, .inr rfl⟩)) (fun _ _ _ _ => (z0y (i := 0) (show (["place", "at"] : List Str).Nodup by decide +kernel) rfl (Or.inl rfl))) (fun _ _ _ _ => (z0t z0i (pv 1) (pv 0) (fun _ _ => rfl)))) z0d)) z0d))) ?_
      wp_walk using rRepT, tSeq, tIfS, eqV, spcellat
      have tl : (turnL ns os).length = os.length := List.length_map ..
      refine CompL.mk (xs := (List.range os.length).map fun s : Nat => V.int ((os.idxOf (s : Int) : Nat) : Int)) (.of hlm) (fun i ys σ G => G = minC H4 cl /\ i ≤ os.length /\ ys = ((oldT os At).take i).map V.int /\ ∃ y, σ = [y, some (.ref p1)]) ⟨rfl, Nat.zero_le _, rfl, _, rfl⟩ (fun i ys σ G _ h => by rw [h.1]; exact .of hlm) (fun i x ys σ G ex h => ?_) (fun ys σ G h p2 hp2 => ?_)
      · obtain ⟨rfl, il, rfl, y, rfl⟩ := h
        have i1 : i < os.length := by have := (List.getElem?_eq_some_iff.mp ex).1; rwa [List.length_map, List.length_range] at this
        rw [List.getElem?_map, List.getElem?_range i1] at ex
        cases (Option.some.inj ex)
        have xl := List.idxOf_lt_length_iff.mpr (z7f tk (s := i) (by omega))
        have eo : (oldT os At)[i]? = some (At.getD (os.idxOf (i : Int)) 0) := by unfold oldT; rw [List.getElem?_map, List.getElem?_range i1]; rfl
        have et : ((oldT os At).take (i + 1)).map V.int = ((oldT os At).take i).map V.int ++ [V.int (At.getD (os.idxOf (i : Int)) 0)] := by rw [List.take_add_one, eo, List.map_append]; rfl
        refine ⟨by rw [List.length_map, List.length_take]; exact z0w (by omega), ?_⟩
        wp_walk using rRepT, tSeq, tIfS, eqV, et
        exact ⟨_, hpm, _, z7d (by omega), i1, rfl, _, rfl⟩
      · obtain ⟨rfl, il, rfl, y, rfl⟩ := h
        rw [List.length_map, List.length_range, List.take_of_length_le (by unfold oldT; rw [List.length_map, List.length_range]; exact Nat.le_refl _)]
        exact ⟨p2, rfl, _, .inl ⟨.of z0k, fun l3 hl3 => ⟨ns, cs, (tbm.same (z0e hp2 _)).same (z0e hl3 _), oldT os At, rfl, hs, by omega, gf, csl, fun G2 s3 => hq _ (z3x ((z0e hp2 _).trans ((z0e hl3 _).trans s3)))⟩⟩⟩
    · have hb' := z3c fr eq3 s4
      have hc4 := hcel.same s4
      exact q2 tk _ p (fun b o n e => hb' _ _ (up2 _ _ n (s01 _ _ e))) (ht2.same hb') ⟨_, _, z1g hc4 hp', hb' _ _ (up3 _ _ (sl _ _ hp)), z1g hc4 hq⟩
abbrev sflip : Stmt := top 48
theorem scflip : FnScope ["tab", "side", "sides"] ["tab", "side"] (defScope sflip) := ⟨rfl, rfl, rfl, by decide +kernel, rfl, by decide +kernel, by decide +kernel⟩
theorem okflip (F : Fun K "flip" "flip" sflip f fd) {c : Addr} (hcd : fd.code = .ref c) (TF : TabF base mg c TP) {CNoSide : Addr} (nNoSide : PySem.W.nsIn K mainGlobals "NoSide" = some (some (.ref CNoSide))) (ctableby : Callee P w K mg base CX0 (7) "table_by" ["sides", "number_at"] (sptableby P w K mg base)) (cflippedsides : Callee P w K mg base (CX1 P w) (7) "flipped_sides" ["sides", "side"] (spflip CNoSide)) (c5cellat : Callee P w K mg base CX0 5 "cell_at" ["tab", "at"] spcellat) (c5changedat : Callee P w K mg base CX0 5 "changed_at" ["row", "k", "number"] spchangedat) : FnOk P w K mg base (CX1 P w) (8) f fd ["tab", "side"] ((spflipT TP CNoSide)) := by
  have sc := scflip
  refine F.okTX hcd sc (fun vs H Q E h => ?_) (fun A outer s H vs Q E hr h => ?_)
  · obtain ⟨t, ns, cs, side, rfl, _⟩ := h; rfl
  obtain ⟨t, ns, cs, side, rfl, tb, hm, h20, p5, csl, ht, q1, q2⟩ := h
  have own : OwnCl (envOfC "flip" (defScope sflip) s.heap.objs.size f (.ref c)).cells ["tab", "sides", "side"] [("tab", s.heap.objs.size + 1), ("sides", s.heap.objs.size + 3), ("side", s.heap.objs.size + 2)] := ⟨rfl, (fc rfl (fc rfl (fc rfl fc0)))⟩
  refine ⟨_, (z0c (z0m (i := 2) sc.nd rfl (by first | exact Or.inl rfl | exact Or.inr rfl) (z0u cflippedsides hr (by rfl) z2c (z0a (z0t z0i (pv 0) z0b (fun _ _ => rfl)) (z0a (pv 1) z0d)))) (z0f (z0s (z4z (fv := ["tab", "sides", "side"]) (js := [0, 2, 1]) ctableby hr (by rfl) own rfl (fc rfl (fc rfl (fc rfl fc0))) (fc rfl (fc rfl (fc rfl fc0))) (by decide +kernel) (z0a (pv 2) (z0a (z7b (qual := "flip.<locals>.<lambda>") (fv := ["tab", "sides", "side"]) (cl := [("tab", s.heap.objs.size + 1), ("sides", s.heap.objs.size + 3), ("side", s.heap.objs.size + 2)]) rfl rfl TF rfl rfl own) z0d)))))), ?_⟩
  generalize (cxOf _ _ _ _ _ _ _ _ _ _ _ _ _ _ _ _).env.cells = ec
  wp_walk using rRepT, tSeq, tIfS, eqV, spflip, sptableby
  obtain ⟨sa, ca, tt, ta, tc⟩ := id tb
  refine ⟨_, tt, _, z0h (j := 0) rfl, _, rfl, ns, ta, fun o => q1 o _ (Same.refl _), fun no => ⟨ht, fun fa c' cl H2 o1 ffa hfa hc2 ht2 up2 => ⟨[.ref t, .ref sa, .int side], by simp, fun cl' H3 o2 fr hcel eq3 => ?_⟩⟩⟩
  cases OwnCl.uniq o1 o2
  replace q2 := q2 no
  obtain ⟨k, rfl, hk⟩ := at_ok no
  simp only [Int.toNat_natCast] at q2
  have up3 : ∀ a xs, H a = some (.tup xs) -> H2 a = some (.tup xs) := fun a xs e => up2 _ _ (z6w ht e) e
  have u3 := z4j fr eq3
  have hs := sm_sd hm
  have po := z1r fun n hn => (hs n hn).1
  refine ⟨ns, u3 _ _ (up3 _ _ ta), hs, by omega, by omega, FnV.lam (u3 _ _ hfa), fun i : Nat => cs.getD (plH ns (flipF ns k (atD ns (i : Int)))).toNat 0, fun i H1 p1 Q' hi s1 hp1 hq => ?_, fun H4 p q s4 hq hp' => ?_⟩
  · have hcel1 := hcel.same s1
    have tbm : TbAt (minC H1 cl) t ns cs := min_tb hcel1 (((tb_up (T := TP) tb up3).same u3).same s1)
    have tam := z1g hcel1 (s1 _ _ (u3 _ _ (up3 _ _ ta)))
    have hpm := z1g hcel1 hp1
    have gd := z2p hs (by omega) hi
    have al := z6m ns i
    replace hq : ∀ H2, Same H1 H2 -> Q' (V.int (cs.getD (plH ns (flipF ns k (atD ns (i : Int)))).toNat 0)) H2 := hq
    generalize atD ns (i : Int) = At at *
    have gf := flip_good hk gd
    refine z5a (k := 5) (N := ["at", "tab", "sides", "side"]) (ps := ["at"]) (fv := ["tab", "sides", "side"]) (vs := [V.ref p1]) (vcs := [.ref t, .ref sa, .int k]) ⟨rfl, rfl, rfl, by decide +kernel, rfl, fc (.inl rfl) fc0, fc rfl (fc rfl (fc rfl fc0)), by decide +kernel, by decide +kernel⟩ o1.1 (fun pm ctv us hl => by match us, hl with | [u], _ => rfl) rfl (s1 _ _ (u3 _ _ hfa)) (s1 _ _ (u3 _ _ hc2)) hcel1 (fun A outer s hr => z0u c5cellat hr (by rfl) z1n (z0a (pv 1) (z0a (z0u c5changedat hr (by rfl) z1n (z0a (pv 0) (z0a (pv 3) (z0a (z0n z2g (z0n z2g (z0t z0i (pv 2) (pv 3) (fun _ _ => rfl)) z0b) (z0t z0i (pv 0) (pv 3) (fun _ _ => rfl))) z0d)))) z0d))) ?_
    wp_walk using rRepT, tSeq, tIfS, eqV, spcellat, spchangedat
    exact ⟨_, tam, _, z7d hk, _, rfl, _, hpm, _, z7d (by omega), _, rfl, At, k, rfl, hpm, by omega, by omega, fun G p2 s2 h2 => ⟨ns, cs, tbm.same s2, _, h2, hs, by omega, gf, csl, fun G2 s3 => hq _ (z3x (s2.trans s3))⟩⟩
  · have hb := z3c fr eq3 s4
    have hc4 := hcel.same s4
    exact q2 _ p (fun b o n e => hb _ _ (up2 _ _ n (e))) (ht2.same hb) ⟨_, _, z1g hc4 hp', hb _ _ (up3 _ _ ta), z1g hc4 hq⟩
abbrev scut : Stmt := top 49
theorem sccut : FnScope ["tab", "side", "first", "many", "step", "sides"] ["tab", "side", "first", "many", "step"] (defScope scut) := ⟨rfl, rfl, rfl, by decide +kernel, rfl, by decide +kernel, by decide +kernel⟩
theorem okcut (F : Fun K "cut" "cut" scut f fd) {c : Addr} (hcd : fd.code = .ref c) (TF : TabF base mg c TU) {CNoSide : Addr} (nNoSide : PySem.W.nsIn K mainGlobals "NoSide" = some (some (.ref CNoSide))) {CBeyond : Addr} (nBeyond : PySem.W.nsIn K mainGlobals "Beyond" = some (some (.ref CBeyond))) (ctableby : Callee P w K mg base CX0 (7) "table_by" ["sides", "number_at"] (sptableby P w K mg base)) (ccutsides : Callee P w K mg base (CX1 P w) (7) "cut_sides" ["sides", "side", "first", "many", "step"] (spcut CNoSide CBeyond)) (c5cellat : Callee P w K mg base CX0 5 "cell_at" ["tab", "at"] spcellat) (c5changedat : Callee P w K mg base CX0 5 "changed_at" ["row", "k", "number"] spchangedat) : FnOk P w K mg base (CX1 P w) (8) f fd ["tab", "side", "first", "many", "step"] ((spcutT TU CNoSide CBeyond)) := by
  have sc := sccut
  refine F.okTX hcd sc (fun vs H Q E h => ?_) (fun A outer s H vs Q E hr h => ?_)
  · obtain ⟨t, ns, cs, side, f, m, g, rfl, _⟩ := h; rfl
  obtain ⟨t, ns, cs, side, ff, mm, gg, rfl, tb, hm, h20, p5, csl, m0, m1, ht, q1, q2, q3⟩ := h
  have own : OwnCl (envOfC "cut" (defScope scut) s.heap.objs.size f (.ref c)).cells ["tab", "step", "side", "first"] [("tab", s.heap.objs.size + 1), ("step", s.heap.objs.size + 4), ("side", s.heap.objs.size + 2), ("first", s.heap.objs.size + 3)] := ⟨rfl, (fc rfl (fc rfl (fc rfl (fc rfl fc0))))⟩
  refine ⟨_, (z0c (z0m (i := 5) sc.nd rfl (by first | exact Or.inl rfl | exact Or.inr rfl) (z0u ccutsides hr (by rfl) z2c (z0a (z0t z0i (pv 0) z0b (fun _ _ => rfl)) (z0a (pv 1) (z0a (pv 2) (z0a (pv 3) (z0a (pv 4) z0d))))))) (z0f (z0s (z4z (fv := ["tab", "step", "side", "first"]) (js := [0, 4, 1, 2]) ctableby hr (by rfl) own rfl (fc rfl (fc rfl (fc rfl (fc rfl fc0)))) (fc rfl (fc rfl (fc rfl (fc rfl fc0)))) (by decide +kernel) (z0a (pv 5) (z0a (z7b (qual := "cut.<locals>.<lambda>") (fv := ["tab", "step", "side", "first"]) (cl := [("tab", s.heap.objs.size + 1), ("step", s.heap.objs.size + 4), ("side", s.heap.objs.size + 2), ("first", s.heap.objs.size + 3)]) rfl rfl TF rfl rfl own) z0d)))))), ?_⟩
  generalize (cxOf _ _ _ _ _ _ _ _ _ _ _ _ _ _ _ _).env.cells = ec
  wp_walk using rRepT, tSeq, tIfS, eqV, spcut, sptableby
  obtain ⟨sa, ca, tt, ta, tc⟩ := id tb
  refine ⟨_, tt, _, z0h (j := 0) rfl, _, rfl, ns, ta, by omega, m0, m1, fun o => q1 o _ (Same.refl _), fun no b => q2 no b _ (Same.refl _), fun no nb H0 p s0 hp => ⟨ht.same s0, fun fa c' cl H2 o1 ffa hfa hc2 ht2 up2 => ⟨[.ref t, .int gg, .int side, .int ff], by simp, fun cl' H3 o2 fr hcel eq3 => ?_⟩⟩⟩
  cases OwnCl.uniq o1 o2
  replace q3 := q3 no nb
  obtain ⟨k, rfl, hk⟩ := at_ok no
  simp only [Int.toNat_natCast] at q3 hp
  have ht0 := ht.same s0
  have up3 : ∀ a xs, H0 a = some (.tup xs) -> H2 a = some (.tup xs) := fun a xs e => up2 _ _ (z6w ht0 e) e
  have u3 := z4j fr eq3
  have hs := sm_sd hm
  have nn : ∀ n ∈ ns, 0 ≤ n := fun n hn => (hs n hn).1
  have nk := hm _ (getD_mem hk)
  have cm := cut_most nk.1 nb
  have sdA := sm_sd (sm_set (k := k) hm cm.1 (show mm ≤ 1000000 by omega))
  have po := z1r fun n hn => (sdA n hn).1
  have so := z4w (k := k) nn cm.1 cm.2
  have li : (ns.set k mm).length = ns.length := List.length_set ..
  refine ⟨ns.set k mm, u3 _ _ (up3 _ _ hp), sdA, by omega, by omega, FnV.lam (u3 _ _ hfa), fun i : Nat => cs.getD (plH ns (cutF k ff gg (atD (ns.set k mm) (i : Int)))).toNat 0, fun i H1 p1 Q' hi s1 hp1 hq => ?_, fun H4 p q s4 hq hp' => ?_⟩
  · have hcel1 := hcel.same s1
    have tbm : TbAt (minC H1 cl) t ns cs := min_tb hcel1 (((tb_up (T := TU) (tb.same s0) up3).same u3).same s1)
    have hpm := z1g hcel1 hp1
    have gd := z2p sdA (by omega) hi
    have al := z6m (ns.set k mm) i
    replace hq : ∀ H2, Same H1 H2 -> Q' (V.int (cs.getD (plH ns (cutF k ff gg (atD (ns.set k mm) (i : Int)))).toNat 0)) H2 := hq
    generalize atD (ns.set k mm) (i : Int) = At at *
    have gf := cut_good hk nb gd
    have ab := gd.2 k _ _ (z1o (by omega)) (List.getElem?_set_self hk)
    refine z5a (k := 5) (N := ["at", "tab", "step", "side", "first"]) (ps := ["at"]) (fv := ["tab", "step", "side", "first"]) (vs := [V.ref p1]) (vcs := [.ref t, .int gg, .int k, .int ff]) ⟨rfl, rfl, rfl, by decide +kernel, rfl, fc (.inl rfl) fc0, fc rfl (fc rfl (fc rfl (fc rfl fc0))), by decide +kernel, by decide +kernel⟩ o1.1 (fun pm ctv us hl => by match us, hl with | [u], _ => rfl) rfl (s1 _ _ (u3 _ _ hfa)) (s1 _ _ (u3 _ _ hc2)) hcel1 (fun A outer s hr => z0u c5cellat hr (by rfl) z1n (z0a (pv 1) (z0a (z0u c5changedat hr (by rfl) z1n (z0a (pv 0) (z0a (pv 3) (z0a (z0n z1i (pv 4) (z0n z2h (z0t z0i (pv 0) (pv 3) (fun _ _ => rfl)) (pv 2))) z0d)))) z0d))) ?_
    wp_walk using rRepT, tSeq, tIfS, eqV, spcellat, spchangedat
    exact ⟨_, hpm, _, z7d (by omega), _, rfl, .inl ⟨by omega, by omega⟩, At, k, rfl, hpm, by omega, by omega, fun G p2 s2 h2 => ⟨ns, cs, tbm.same s2, _, h2, hs, by omega, gf, csl, fun G2 s3 => hq _ (z3x (s2.trans s3))⟩⟩
  · have hb := z3c fr eq3 s4
    have hc4 := hcel.same s4
    exact q3 _ p (fun b o n e => hb _ _ (up2 _ _ n (s0 _ _ e))) (ht2.same hb) ⟨_, _, z1g hc4 hp', hb _ _ (up3 _ _ hp), z1g hc4 hq⟩
abbrev sspread : Stmt := top 50
theorem scspread : FnScope ["tab", "side", "many", "sides"] ["tab", "side", "many"] (defScope sspread) := ⟨rfl, rfl, rfl, by decide +kernel, rfl, by decide +kernel, by decide +kernel⟩
theorem okspread (F : Fun K "spread" "spread" sspread f fd) {c : Addr} (hcd : fd.code = .ref c) (TF : TabF base mg c TS) {CNoSide : Addr} (nNoSide : PySem.W.nsIn K mainGlobals "NoSide" = some (some (.ref CNoSide))) {CBeyond : Addr} (nBeyond : PySem.W.nsIn K mainGlobals "Beyond" = some (some (.ref CBeyond))) {CTooLarge : Addr} (nTooLarge : PySem.W.nsIn K mainGlobals "TooLarge" = some (some (.ref CTooLarge))) (ctableby : Callee P w K mg base CX0 (7) "table_by" ["sides", "number_at"] (sptableby P w K mg base)) (cspreadsides : Callee P w K mg base (CX1 P w) (7) "spread_sides" ["sides", "side", "many"] (spspr CNoSide CBeyond CTooLarge)) (c5cellat : Callee P w K mg base CX0 5 "cell_at" ["tab", "at"] spcellat) (c5droppedat : Callee P w K mg base CX0 5 "dropped_at" ["row", "k"] spdroppedat) : FnOk P w K mg base (CX1 P w) (8) f fd ["tab", "side", "many"] ((spspreadT TS CNoSide CBeyond CTooLarge)) := by
  have sc := scspread
  refine F.okTX hcd sc (fun vs H Q E h => ?_) (fun A outer s H vs Q E hr h => ?_)
  · obtain ⟨t, ns, cs, side, many, rfl, _⟩ := h; rfl
  obtain ⟨t, ns, cs, side, many, rfl, tb, hs, h20, csl, hmany, ht, q1, q2, q3, q4⟩ := h
  have own : OwnCl (envOfC "spread" (defScope sspread) s.heap.objs.size f (.ref c)).cells ["tab", "side"] [("tab", s.heap.objs.size + 1), ("side", s.heap.objs.size + 2)] := ⟨rfl, (fc rfl (fc rfl fc0))⟩
  refine ⟨_, (z0c (z0m (i := 3) sc.nd rfl (by first | exact Or.inl rfl | exact Or.inr rfl) (z0u cspreadsides hr (by rfl) z2c (z0a (z0t z0i (pv 0) z0b (fun _ _ => rfl)) (z0a (pv 1) (z0a (pv 2) z0d))))) (z0f (z0s (z4z (fv := ["tab", "side"]) (js := [0, 1]) ctableby hr (by rfl) own rfl (fc rfl (fc rfl fc0)) (fc rfl (fc rfl fc0)) (by decide +kernel) (z0a (pv 3) (z0a (z7b (qual := "spread.<locals>.<lambda>") (fv := ["tab", "side"]) (cl := [("tab", s.heap.objs.size + 1), ("side", s.heap.objs.size + 2)]) rfl rfl TF rfl rfl own) z0d)))))), ?_⟩
  generalize (cxOf _ _ _ _ _ _ _ _ _ _ _ _ _ _ _ _).env.cells = ec
  wp_walk using rRepT, tSeq, tIfS, eqV, spspr, sptableby
  obtain ⟨sa, ca, tt, ta, tc⟩ := id tb
  refine ⟨_, tt, _, z0h (j := 0) rfl, _, rfl, ns, ta, hs, h20, hmany, fun e => q1 e _ (Same.refl _), fun e z => q2 e z _ (Same.refl _), q3, fun no nn nb H0 p s0 hp => ⟨ht.same s0, fun fa c' cl H2 o1 ffa hfa hc2 ht2 up2 => ⟨[.ref t, .int side], by simp, fun cl' H3 o2 fr hcel eq3 => ?_⟩⟩⟩
  cases OwnCl.uniq o1 o2
  have q5 := q4 no nn nb
  unfold off1 at no
  obtain ⟨k, rfl⟩ : ∃ k : Nat, side = k := ⟨side.toNat, by omega⟩
  simp only [Int.toNat_natCast] at nb hp q5
  have ht0 := ht.same s0
  have up3 : ∀ a xs, H0 a = some (.tup xs) -> H2 a = some (.tup xs) := fun a xs e => up2 _ _ (z6w ht0 e) e
  have u3 := z4j fr eq3
  have sdA := ins_ok (k := k) hs (by omega) hmany
  have pb := z1r fun n hn => (sdA n hn).1
  have nb' := nb
  unfold bigI at nb'
  have li := z3l ns k many
  refine ⟨_, u3 _ _ (up3 _ _ hp), sdA, by omega, by omega, FnV.lam (u3 _ _ hfa), sprV ns cs k many, fun i H1 p1 Q' hi s1 hp1 hq => ?_, fun H4 p q s4 hq hp' => ?_⟩
  · have hcel1 := hcel.same s1
    have tbm : TbAt (minC H1 cl) t ns cs := min_tb hcel1 (((tb_up (T := TS) (tb.same s0) up3).same u3).same s1)
    have hpm := z1g hcel1 hp1
    have gd := z5c k (z2p sdA (by omega) hi)
    rw [ins_erase (by omega)] at gd
    have al := z6m (insL ns k many) i
    refine z5a (k := 5) (N := ["at", "tab", "side"]) (ps := ["at"]) (fv := ["tab", "side"]) (vs := [V.ref p1]) (vcs := [.ref t, .int k]) ⟨rfl, rfl, rfl, by decide +kernel, rfl, fc (.inl rfl) fc0, fc rfl (fc rfl fc0), by decide +kernel, by decide +kernel⟩ o1.1 (fun pm ctv us hl => by match us, hl with | [u], _ => rfl) rfl (s1 _ _ (u3 _ _ hfa)) (s1 _ _ (u3 _ _ hc2)) hcel1 (fun A outer s hr => z0u c5cellat hr (by rfl) z1n (z0a (pv 1) (z0a (z0u c5droppedat hr (by rfl) z1n (z0a (pv 0) (z0a (pv 2) z0d))) z0d))) ?_
    wp_walk using rRepT, tSeq, tIfS, eqV, spcellat, spdroppedat
    exact ⟨_, k, rfl, hpm, by omega, by omega, fun G p2 s2 h2 => ⟨ns, cs, tbm.same s2, _, h2, hs, by omega, gd, csl, fun G2 s3 => hq _ (z3x (s2.trans s3))⟩⟩
  · have hb := z3c fr eq3 s4
    have hc4 := hcel.same s4
    exact q5 _ p (fun b o n e => hb _ _ (up2 _ _ n (s0 _ _ e))) (ht2.same hb) ⟨_, _, z1g hc4 hp', hb _ _ (up3 _ _ hp), z1g hc4 hq⟩
abbrev slawsides : Stmt := top 52
def splawsides : Sp := fun vs H Q _ => ∃ (a : Addr) (rs : List Int), vs = [.ref a, .int 24] /\ H a = some (.lst (rs.map V.int)) /\ rs.length ≤ 4 /\ ∀ H' p ms, Same H H' -> fit ms -> (∀ n ∈ ms, n ≤ 24) -> ms.length ≤ 4 -> H' p = some (.tup (ms.map V.int)) -> Q (.ref p) H'
theorem sclawsides : FnScope ["row", "room", "sides", "one", "side"] ["row", "room"] (defScope slawsides) := ⟨rfl, rfl, rfl, by decide +kernel, rfl, by decide +kernel, by decide +kernel⟩
theorem oklawsides (F : Fun K "_law_sides" "_law_sides" slawsides f fd) (zmin : mg "min" = none) (zmax : mg "max" = none) : FnOk P w K mg base CX0 (1) f fd ["row", "room"] (splawsides) := by
  have sc := sclawsides
  refine F.ok sc (fun vs H Q E h => ?_) (fun cdv A outer s H vs Q E hr h => ?_)
  · obtain ⟨a, rs, rfl, _⟩ := h; rfl
  obtain ⟨a, rs, rfl, ha, h4, q⟩ := h
  refine ⟨_, (z0c (z0m (i := 2) sc.nd rfl (by first | exact Or.inl rfl | exact Or.inr rfl) (z1d z0d)) (z0c (z2v PassesOwn.never rfl (z4e (z1c sl_list (pv 0) z1k (z1e z0b))) (z0y (i := 3) sc.nd rfl (Or.inl rfl)) (z0c (z0m (i := 4) sc.nd rfl (by first | exact Or.inl rfl | exact Or.inr rfl) (z0n z1i z0b (z0n z2d (z0n z1u (pv 3) z0b) (z0r (z2t rfl) (by rfl) zmin boot_min (z0a (pv 1) (z0a z0b z0d)))))) (z0c (z1a (z0j z1m (z0n z1q (pv 3) z0b) z0b (z0o _)) (z0f (z0m (i := 4) sc.nd rfl (by first | exact Or.inl rfl | exact Or.inr rfl) (z0n z2d (z0n z1u (pv 3) z0b) (z0n z1i (z0r (z2t rfl) (by rfl) zmin boot_min (z0a (pv 1) (z0a z0b z0d))) z0b)))) z0p) (z0c (z1a (z0j z1m (z0n z1q (pv 3) z0b) z0b (z0o _)) (z0f (z0m (i := 4) sc.nd rfl (by first | exact Or.inl rfl | exact Or.inr rfl) (z0n z1i z0b (z0n z2d (z0n z1u (pv 3) z0b) (pv 1))))) z0p) (z0c (z0m (i := 2) sc.nd rfl (by first | exact Or.inl rfl | exact Or.inr rfl) (z0n z1v (pv 2) (z1d (z0a (pv 4) z0d)))) (z0f (z0m (i := 1) sc.nd rfl (by first | exact Or.inl rfl | exact Or.inr rfl) (z0n z2w (pv 1) (z0r (z3d rfl) (by rfl) zmax boot_max (z0a z0b (z0a (pv 4) z0d))))))))))) (z0f (z0s (pv 2))))), ?_⟩
  wp_walk using rRepT, tSeq, tIfS, eqV, rSlL
  refine ⟨small (by decide), fun p0 hp0 => ⟨_, .of (z0e hp0 _ _ _ ha), fun l hl => ?_⟩⟩
  have s0 := (z0e hp0 (.tup [])).trans (z0e hl (.lst (cutV (rs.map V.int) none (some 6))))
  have g0 := z0e hl (.lst (cutV (rs.map V.int) none (some 6))) _ _ (z0k (H := H) (a := p0) (o := .tup []))
  have ec : cutV (rs.map V.int) none (some 6) = rs.map V.int := by
    have := z2k rs 6
    rw [List.take_of_length_le (by omega)] at this
    exact this
  have gl : upd (upd H p0 (.tup [])) l (.lst (cutV (rs.map V.int) none (some 6))) l = some (.lst (rs.map V.int)) := by rw [z0k, ec]
  generalize upd (upd H p0 (.tup [])) l (.lst (cutV (rs.map V.int) none (some 6))) = H0 at *
  refine LoopL.mk (xs := rs.map V.int) (.of gl) (fun i σ G => Same H0 G /\ ∃ (p : Addr) (ms : List Int) (free : Int) (y3 y4 : Option V), σ = [some (.ref a), some (.int free), some (.ref p), y3, y4] /\ grow ms free i /\ free ≤ 24 /\ (∀ n ∈ ms, n ≤ 24) /\ G p = some (.tup (ms.map V.int)) /\ i ≤ 4) ⟨Same.refl _, p0, [], 24, _, _, rfl, ⟨fc0, rfl, by decide, by decide, by decide, by decide⟩, by decide, fc0, g0, by omega⟩ (fun i σ G _ h => .of (h.1 _ _ gl)) (fun i x σ G ex h => ?_) (fun σ G h => ?_)
  · obtain ⟨sG, p, ms, free, y3, y4, rfl, hg, f24, m24, hp, i4⟩ := h
    obtain ⟨r, rfl, hr⟩ := z2l ex
    have il := (List.getElem?_eq_some_iff.mp hr).1
    have f0 := hg.2.2.1
    have c3 : 0 < (if 3 < free then 3 else free) /\ (if 3 < free then 3 else free) ≤ free := by split <;> omega
    simp only [gName, List.set_cons_succ, List.set_cons_zero]
    refine z0g (fun σ G' => G' = G /\ ∃ m : Int, 0 ≤ m /\ m ≤ free /\ σ = [some (.ref a), some (.int free), some (.ref p), some (.int r), some (.int m)]) ?_ (fun R hR => ?_)
    rotate_left
    · wp_walk using rRepT, tSeq, tIfS, eqV
      have z0 := Int.fmod_nonneg_of_pos (r / 4) c3.1
      have z1 := Int.fmod_lt_of_pos (r / 4) c3.1
      exact ⟨by omega, hR _ _ ⟨rfl, _, by omega, by omega, rfl⟩⟩
    rintro σ1 G1 ⟨rfl, m1, a10, a11, rfl⟩
    refine z0g (fun σ G' => G' = G1 /\ ∃ m : Int, 0 ≤ m /\ m ≤ free /\ σ = [some (.ref a), some (.int free), some (.ref p), some (.int r), some (.int m)]) ?_ (fun R hR => ?_)
    rotate_left
    · wp_walk using rRepT, tSeq, tIfS, eqV
      have z0 := Int.fmod_nonneg_of_pos (r / 4) (show 0 < (if 3 < free then 3 else free) + 1 by omega)
      have z1 := Int.fmod_lt_of_pos (r / 4) (show 0 < (if 3 < free then 3 else free) + 1 by omega)
      split
      · exact ⟨by omega, hR _ _ ⟨rfl, _, by omega, by omega, rfl⟩⟩
      · exact hR _ _ ⟨rfl, _, a10, a11, rfl⟩
    rintro σ2 G2 ⟨rfl, m2, a20, a21, rfl⟩
    refine z0g (fun σ G' => G' = G2 /\ ∃ m : Int, 0 ≤ m /\ m ≤ free /\ σ = [some (.ref a), some (.int free), some (.ref p), some (.int r), some (.int m)]) ?_ (fun R hR => ?_)
    rotate_left
    · wp_walk using rRepT, tSeq, tIfS, eqV
      have z0 := Int.fmod_nonneg_of_pos (r / 4) (show 0 < free by omega)
      have z1 := Int.fmod_lt_of_pos (r / 4) (show 0 < free by omega)
      split
      · exact ⟨by omega, hR _ _ ⟨rfl, _, by omega, by omega, rfl⟩⟩
      · exact hR _ _ ⟨rfl, _, a20, a21, rfl⟩
    rintro σ3 G3 ⟨rfl, m, m0, m1, rfl⟩
    wp_walk using rRepT, tSeq, tIfS, eqV
    refine ⟨small (by decide), fun p2 hp2 => ⟨_, z0e hp2 _ _ _ hp, by rw [z0l, hg.2.1]; exact small (by omega), fun p4 H2 s2 hr2 => ?_⟩⟩
    rw [mx_one m0]
    have o1 : 1 ≤ one1 m /\ one1 m ≤ 24 := by unfold one1; split <;> omega
    rw [Int.fdiv_eq_ediv_of_nonneg _ (by omega)]
    have gs := grow_step hg m0 m1
    have le := Int.ediv_le_self (one1 m) (show 0 ≤ free by omega)
    exact ⟨by omega, by omega, by omega, sG.trans ((z0e hp2 _).trans s2), ms ++ [m], gs, by omega, fun n hn => (List.mem_append.mp hn).elim (m24 n) fun z => by cases List.mem_singleton.mp z; omega, by rw [hr2, List.map_append]; rfl, by omega⟩
  · obtain ⟨sG, p, ms, free, y3, y4, rfl, hg, f24, m24, hp, i4⟩ := h
    wp_walk using rRepT, tSeq, tIfS, eqV
    exact q _ _ ms (s0.trans sG) (grow_fit hg (by rw [z0l]; omega)) m24 (by rw [hg.2.1, z0l]; exact h4) hp
abbrev slaworder : Stmt := top 53
def splaworder : Sp := fun vs H Q _ => ∃ (n : Int) (c : Nat), vs = [.int n, .int c] /\ c ≤ 6 /\ ∀ H' p (os : List Int), Same H H' -> os.length ≤ 7 -> Frz H' p os -> Q (.ref p) H'
theorem sclaworder : FnScope ["n", "count", "left", "out", "k", "size"] ["n", "count"] (defScope slaworder) := ⟨rfl, rfl, rfl, by decide +kernel, rfl, by decide +kernel, by decide +kernel⟩
theorem oklaworder (F : Fun K "_law_order" "_law_order" slaworder f fd) (zlist : mg "list" = none) (zrange : mg "range" = none) (zlen : mg "len" = none) (ztuple : mg "tuple" = none) : FnOk P w K mg base CX0 (1) f fd ["n", "count"] (splaworder) := by
  have sc := sclaworder
  refine F.ok sc (fun vs H Q E h => ?_) (fun cdv A outer s H vs Q E hr h => ?_)
  · obtain ⟨n, c, rfl, _⟩ := h; rfl
  obtain ⟨n, count, rfl, c6, q⟩ := h
  refine ⟨_, (z0c (z0m (i := 2) sc.nd rfl (by first | exact Or.inl rfl | exact Or.inr rfl) (z1f (z3v rfl) (by rfl) zlist boot_list (z0a (z1f z4l (by rfl) zrange boot_range (z0a (pv 1) z0d)) z0d))) (z0c (z0m (i := 3) sc.nd rfl (by first | exact Or.inl rfl | exact Or.inr rfl) (pe_lst z0d)) (z0c (z2v PassesOwn.never rfl (z3r (by rfl) zrange (z0a (pv 1) z0d)) (z0y (i := 4) sc.nd rfl (Or.inl rfl)) (z0c (z0m (i := 5) sc.nd rfl (by first | exact Or.inl rfl | exact Or.inr rfl) (z0r z0q (by rfl) zlen PySem.boot_len (z0a (pv 2) z0d))) (z0c (z3q (pe_app (pv 3) (pe_bm PySem.F.plainAttrs_list PySem.F.slot_list_pop PySem.F.type_list_pop mr_popAt (pv 2) (z0a (z0n z2d (pv 0) (pv 5)) z0d)))) (z0f (z0m (i := 0) sc.nd rfl (by first | exact Or.inl rfl | exact Or.inr rfl) (z0n z2w (pv 0) (pv 5))))))) (z0c (z1a (z0j z1m (z0n z1q (pv 0) z0b) z0b (z0o _)) (z0f (z3q (pe_app (pv 3) (pv 1)))) z0p) (z0c (z1a (z0j z1m (z0n z1q (pv 0) z0b) z0b (z0o _)) (z0f (z0m (i := 3) sc.nd rfl (by first | exact Or.inl rfl | exact Or.inr rfl) (z1c sl_list (pv 3) (z1e z0b) z1k))) z0p) (z0c (z1a (z2r (z0j z1m (z0n z1q (pv 0) z0b) z0b (z0o _)) (z2b (z0j z4h (pv 1) z0b (z0o _)))).pt (z0f (ps_asg (z0n z2g (z6p z4d z0b) (z0n z1q (z0n z1u (pv 0) z0b) z0b)) (pg_sub (pv 3) z0b z7i))) z0p) (z0c (z1a (z2r (z0j z1m (z0n z1q (pv 0) z0b) z0b (z0o _)) (z2b (z0j z4h (pv 1) z0b (z0o _)))).pt (z0f (ps_asg (z0t z5p (pv 3) z0b (fun _ _ => rfl)) (pg_sub (pv 3) z0b z7i))) z0p) (z0c (z1a (z2r (z0j z1m (z0n z1q (pv 0) z0b) z0b (z0o _)) (z2b (z0j z4h (pv 1) z0b (z0o _)))).pt (z0f (ps_asg (z0n z1i (pv 1) (z0n z1q (z0n z1u (pv 0) z0b) z0b)) (pg_sub (pv 3) z0b z7i))) z0p) (z0f (z0s (z1f z6t (by rfl) ztuple boot_tuple (z0a (pv 3) z0d)))))))))))), ?_⟩
  simp only [L2.start, List.length_cons, List.length_nil, List.replicate, List.cons_append, List.nil_append, Nat.reduceSub, Nat.reduceAdd, List.map_cons, List.map_nil]
  refine z0g (fun σ G => ∃ l, Same H G /\ H l = none /\ G l = some (.lst ((upL count).map V.int)) /\ σ = [some (.int n), some (.int count), some (.ref l), none, none, none]) ?_ (fun R hR => ?_)
  rotate_left
  · wp_walk using rRepT, tSeq, tIfS, eqV
    exact fun r hr => ⟨count, rfl, by omega, fun l hl => hR _ _ ⟨l, (z0e hr _).trans (z0e hl _), z3p (z0e hr _) hl, z0k, rfl⟩⟩
  rintro σ1 G1 ⟨l, s1, fl, hl, rfl⟩
  refine z0g (fun σ G => ∃ o, Same G1 G /\ G1 o = none /\ G o = some (.lst []) /\ σ = [some (.int n), some (.int count), some (.ref l), some (.ref o), none, none]) ?_ (fun R hR => ?_)
  rotate_left
  · wp_walk using rRepT, tSeq, tIfS, eqV
    exact ⟨Nat.zero_le _, fun o ho => hR _ _ ⟨o, z0e ho _, ho, z0k, rfl⟩⟩
  rintro σ2 G2 ⟨o, s2, fo, ho, rfl⟩
  refine z0g (fun σ G => ∃ (n : Int) (os : List Int) (y4 y5 : Option V), Same H G /\ G o = some (.lst (os.map V.int)) /\ os.length = count /\ σ = [some (.int n), some (.int count), some (.ref l), some (.ref o), y4, y5]) ?_ (fun R hR => ?_)
  rotate_left
  · wp_walk using rRepT, tSeq, tIfS, eqV
    refine ⟨by omega, by omega, ?_⟩
    rw [Int.toNat_natCast]
    refine LoopR.mk (fun i σ G => ∃ (n : Int) (ls os : List Int) (y4 y5 : Option V), Same H G /\ G l = some (.lst (ls.map V.int)) /\ G o = some (.lst (os.map V.int)) /\ ls.length + i = count /\ os.length = i /\ σ = [some (.int n), some (.int count), some (.ref l), some (.ref o), y4, y5]) ⟨n, upL count, [], _, _, s1.trans s2, s2 _ _ hl, ho, by rw [up_len]; rfl, rfl, rfl⟩ (fun i σ G hi h => ?_) (fun σ G h => ?_)
    · obtain ⟨n, ls, os, y4, y5, sG, h1, h2, l1, l2, rfl⟩ := h
      wp_walk using rRepT, tSeq, tIfS, eqV
      have ne : l ≠ o := fun z => by rw [z, fo] at hl; cases hl
      have fm := z4k (n := n) (r := (ls.length : Int)) (by omega)
      obtain ⟨j, hj⟩ : ∃ j : Nat, n.fmod (ls.length : Int) = j := ⟨_, (Int.toNat_of_nonneg fm.1).symm⟩
      have jl : j < ls.length := by omega
      refine ⟨_, .inl (.of h1), ⟨_, h2⟩, .inl ⟨_, .of h1⟩, ?_⟩
      rw [z0l, hj]
      exact ⟨by omega, _, h1, by omega, by omega, j, by rw [z0l]; exact (ixN_seq (ixN_nat jl)).1, .int ls[j], by rw [List.getElem?_map, List.getElem?_eq_getElem jl]; rfl, os.map V.int, by rw [z0x ne.symm]; exact h2, by rw [List.length_map]; exact z0w (by omega), by omega, by omega, by omega, z3y (z3y sG fl) (z3p s1 fo), _, ls.eraseIdx j, by rw [z0x ne, z0k, map_erase], os ++ [ls[j]], by rw [List.map_append]; rfl, by rw [List.length_eraseIdx, if_pos jl]; omega, by rw [List.length_append, l2]; rfl, rfl, _, rfl⟩
    · obtain ⟨n, ls, os, y4, y5, sG, h1, h2, l1, l2, rfl⟩ := h
      exact hR _ _ ⟨n, os, _, _, sG, h2, l2, rfl⟩
  rintro σ3 G3 ⟨n, os, y4, y5, sG, ho, ol', rfl⟩
  have fo := z3p s1 fo
  have ol6 : os.length ≤ 6 := by omega
  have ol : os.length ≤ 7 := by omega
  have oc : n % 16 = 2 \/ count ≤ os.length := by omega
  clear ol'
  refine z0g (fun σ G => ∃ (o : Addr) (os : List Int), Same H G /\ H o = none /\ G o = some (.lst (os.map V.int)) /\ os.length ≤ 7 /\ (n % 16 = 2 \/ count ≤ os.length) /\ σ = [some (.int n), some (.int count), some (.ref l), some (.ref o), y4, y5]) ?_ (fun R hR => ?_)
  rotate_left
  · wp_walk using rRepT, tSeq, tIfS, eqV
    have keep := hR _ _ ⟨o, os, sG, fo, ho, ol, oc, rfl⟩
    split
    · exact ⟨⟨_, ho⟩, _, ho, by rw [List.length_map]; exact z0w (by omega), hR _ _ ⟨o, os ++ [(count : Int)], z3y sG fo, fo, by rw [z0k, List.map_append]; rfl, by rw [List.length_append, List.length_singleton]; omega, by rw [List.length_append]; omega, rfl⟩⟩
    · exact keep
  rintro σ4 G4 ⟨o, os, sG, fo, ho, ol, oc, rfl⟩
  refine z0g (fun σ G => ∃ (o : Addr) (os : List Int), Same H G /\ H o = none /\ G o = some (.lst (os.map V.int)) /\ os.length ≤ 7 /\ (n % 16 = 2 \/ count ≤ os.length) /\ σ = [some (.int n), some (.int count), some (.ref l), some (.ref o), y4, y5]) ?_ (fun R hR => ?_)
  rotate_left
  · wp_walk using rRepT, tSeq, tIfS, eqV
    have keep := hR _ _ ⟨o, os, sG, fo, ho, ol, oc, rfl⟩
    split
    · rename_i c
      simp only [rSlL]
      exact ⟨o, _, rfl, .of ho, fun p hp => hR _ _ ⟨p, os.drop 1, sG.trans (z0e hp _), z3p sG hp, by rw [z0k, show (some (1 : Int)) = some ((1 : Nat) : Int) from rfl, z2x], by rw [List.length_drop]; omega, .inl c, rfl⟩⟩
    · exact keep
  rintro σ5 G5 ⟨o, os, sG, fo, ho, ol, oc, rfl⟩
  refine z0g (fun σ G => ∃ (o : Addr) (os : List Int), Same H G /\ H o = none /\ G o = some (.lst (os.map V.int)) /\ os.length ≤ 7 /\ (n % 16 = 2 \/ count ≤ os.length) /\ σ = [some (.int n), some (.int count), some (.ref l), some (.ref o), y4, y5]) ?_ (fun R hR => ?_)
  rotate_left
  · wp_walk using rRepT, tSeq, tIfS, eqV
    have keep := hR _ _ ⟨o, os, sG, fo, ho, ol, oc, rfl⟩
    split
    · split
      · exact ⟨_, ho, 0, by rw [z0l]; exact ixN_nat (k := 0) (by omega), hR _ _ ⟨o, os.set 0 _, z3y sG fo, fo, by rw [z0k, List.map_set], by rw [List.length_set]; exact ol, by rw [List.length_set]; exact oc, rfl⟩⟩
      · exact keep
    · exact keep
  rintro σ6 G6 ⟨o, os, sG, fo, ho, ol, oc, rfl⟩
  refine z0g (fun σ G => ∃ (o : Addr) (os : List Int), Same H G /\ H o = none /\ G o = some (.lst (os.map V.int)) /\ os.length ≤ 7 /\ (n % 16 = 2 \/ count ≤ os.length) /\ σ = [some (.int n), some (.int count), some (.ref l), some (.ref o), y4, y5]) ?_ (fun R hR => ?_)
  rotate_left
  · wp_walk using rRepT, tSeq, tIfS, eqV
    have keep := hR _ _ ⟨o, os, sG, fo, ho, ol, oc, rfl⟩
    split
    · split
      · have e1 : atI (os.map V.int) 1 = some (.int os[1]) := z0h (j := 1) (by rw [List.getElem?_map, List.getElem?_eq_getElem (by omega)]; rfl)
        exact ⟨_, ho, _, e1, _, ho, 0, by rw [z0l]; exact ixN_nat (k := 0) (by omega), hR _ _ ⟨o, os.set 0 _, z3y sG fo, fo, by rw [z0k, List.map_set], by rw [List.length_set]; exact ol, by rw [List.length_set]; exact oc, rfl⟩⟩
      · exact keep
    · exact keep
  rintro σ7 G7 ⟨o, os, sG, fo, ho, ol, oc, rfl⟩
  refine z0g (fun σ G => ∃ (o : Addr) (os : List Int), Same H G /\ H o = none /\ G o = some (.lst (os.map V.int)) /\ os.length ≤ 7 /\ (n % 16 = 2 \/ count ≤ os.length) /\ σ = [some (.int n), some (.int count), some (.ref l), some (.ref o), y4, y5]) ?_ (fun R hR => ?_)
  rotate_left
  · wp_walk using rRepT, tSeq, tIfS, eqV
    have keep := hR _ _ ⟨o, os, sG, fo, ho, ol, oc, rfl⟩
    split
    · split
      · exact ⟨_, ho, 0, by rw [z0l]; exact ixN_nat (k := 0) (by omega), hR _ _ ⟨o, os.set 0 _, z3y sG fo, fo, by rw [z0k, List.map_set], by rw [List.length_set]; exact ol, by rw [List.length_set]; exact oc, rfl⟩⟩
      · exact keep
    · exact keep
  rintro σ8 G8 ⟨o, os, sG, fo, ho, ol, oc, rfl⟩
  wp_walk using rRepT, tSeq, tIfS, eqV
  exact ⟨_, .of ho, fun t fo ht hd => q _ t os (sG.trans (z0e ht _)) ol ⟨fo, z0k, hd⟩⟩
abbrev slawcut : Stmt := top 54
def splawcut : Sp := fun vs H Q _ => ∃ (a : Addr) (ns : List Int) (side n : Int), vs = [.ref a, .int side, .int n] /\ H a = some (.tup (ns.map V.int)) /\ (∀ z ∈ ns, 0 ≤ z /\ z ≤ 512) /\ smN n /\ ∀ H' p f m g, Same H H' -> smI f -> smI g -> -100 < m -> m < 100000 -> H' p = some (.tup [.str (Str.ofString "cut"), .int side, .int f, .int m, .int g]) -> Q (.ref p) H'
theorem sclawcut : FnScope ["sides", "side", "n", "size", "step", "first", "most", "many", "far", "way"] ["sides", "side", "n"] (defScope slawcut) := ⟨rfl, rfl, rfl, by decide +kernel, rfl, by decide +kernel, by decide +kernel⟩
theorem oklawcut (F : Fun K "_law_cut" "_law_cut" slawcut f fd) (zlen : mg "len" = none) (zmax : mg "max" = none) (zmin : mg "min" = none) : FnOk P w K mg base CX0 (1) f fd ["sides", "side", "n"] (splawcut) := by
  have sc := sclawcut
  refine F.ok sc (fun vs H Q E h => ?_) (fun cdv A outer s H vs Q E hr h => ?_)
  · obtain ⟨a, ns, side, n, rfl, _⟩ := h; rfl
  obtain ⟨a, ns, side, n, rfl, ha, sd, hn, q⟩ := h
  refine ⟨_, (z0c (z0m (i := 3) sc.nd rfl (by first | exact Or.inl rfl | exact Or.inr rfl) z0b) (z0c (z1a (pt_chain op_le z3a z0b (pv 1) (z0r z0q (by rfl) zlen PySem.boot_len (z0a (pv 0) z0d))) (z0f (z0m (i := 3) sc.nd rfl (by first | exact Or.inl rfl | exact Or.inr rfl) (z0t z0i (pv 0) (pv 1) (fun _ _ => rfl)))) z0p) (z0c (z0m (i := 4) sc.nd rfl (by first | exact Or.inl rfl | exact Or.inr rfl) (z0n z1i z0b (z0n z1q (pv 2) z0b))) (z0c (z0m (i := 5) sc.nd rfl (by first | exact Or.inl rfl | exact Or.inr rfl) (z0n z2d (z0n z1u (pv 2) z0b) (z0r (z3d rfl) (by rfl) zmax boot_max (z0a z0b (z0a (pv 3) z0d))))) (z0c (z0m (i := 6) sc.nd rfl (by first | exact Or.inl rfl | exact Or.inr rfl) (z0r (z3d rfl) (by rfl) zmax boot_max (z0a z0b (z0a (z0n z1i (z0n z2w (z0n z2g (z0n z2g (pv 3) z0b) (pv 5)) (pv 4)) z0b) z0d)))) (z0c (z0m (i := 7) sc.nd rfl (by first | exact Or.inl rfl | exact Or.inr rfl) (z0r (z2t rfl) (by rfl) zmin boot_min (z0a (pv 6) (z0a (z0n z1i z0b (z0n z2d (z0n z1u (pv 2) z0b) (z0n z1i (pv 6) z0b))) z0d)))) (z0c (z0m (i := 8) sc.nd rfl (by first | exact Or.inl rfl | exact Or.inr rfl) (z0n z1u (pv 2) (z0n op_pow z0b z0b))) (z0c (z0m (i := 9) sc.nd rfl (by first | exact Or.inl rfl | exact Or.inr rfl) (z0n z1q (z0n z1u (pv 2) (z0n op_pow z0b z0b)) z0b)) (z0c (z1a (z0j z1m (pv 9) z0b (z0o _)) (z0f (z0m (i := 5) sc.nd rfl (by first | exact Or.inl rfl | exact Or.inr rfl) (z0n z2g (z6p z4d z0b) (z0n z1q (pv 8) z0b)))) z0p) (z0c (z1a (z0j z1m (pv 9) z0b (z0o _)) (z0f (z0m (i := 7) sc.nd rfl (by first | exact Or.inl rfl | exact Or.inr rfl) (z0n z1i (z0n z1i (pv 6) z0b) (z0n z2h (z0n z1q (pv 8) z0b) z0b)))) z0p) (z0c (z1a (z0j z1m (pv 9) z0b (z0o _)) (z0f (z0m (i := 4) sc.nd rfl (by first | exact Or.inl rfl | exact Or.inr rfl) (z0n z2g z0b (z0n z1q (pv 8) z0b)))) z0p) (z0c (z1a (z0j z1m (pv 9) z0b (z0o _)) (z0f (z0m (i := 7) sc.nd rfl (by first | exact Or.inl rfl | exact Or.inr rfl) (z0n z2g (z6p z4d z0b) (z0n z1q (pv 8) z0b)))) z0p) (z0c (z1a (z0j z1m (pv 9) z0b (z0o _)) (z0c (z0m (i := 7) sc.nd rfl (by first | exact Or.inl rfl | exact Or.inr rfl) (z0r (z2t rfl) (by rfl) zmin boot_min (z0a (pv 7) (z0a z0b z0d)))) (z0f (z0m (i := 4) sc.nd rfl (by first | exact Or.inl rfl | exact Or.inr rfl) (z0n z1i z0b (pv 8))))) z0p) (z0c (z1a (z0j z1m (pv 9) z0b (z0o _)) (z0c (z0m (i := 7) sc.nd rfl (by first | exact Or.inl rfl | exact Or.inr rfl) z0b) (z0f (z0m (i := 5) sc.nd rfl (by first | exact Or.inl rfl | exact Or.inr rfl) (pv 8)))) z0p) (z0f (z0s (z1d (z0a z0z (z0a (pv 1) (z0a (pv 5) (z0a (pv 7) (z0a (pv 4) z0d)))))))))))))))))))))), ?_⟩
  simp only [L2.start, List.length_cons, List.length_nil, List.replicate, List.cons_append, List.nil_append, Nat.reduceSub, Nat.reduceAdd, List.map_cons, List.map_nil]
  unfold smN at hn
  refine z0g (fun σ G => G = H /\ σ = [some (.ref a), some (.int side), some (.int n), some (.int 5), none, none, none, none, none, none]) ?_ (fun R hR => ?_)
  rotate_left
  · wp_walk using rRepT, tSeq, tIfS, eqV
    exact hR _ _ ⟨rfl, rfl⟩
  rintro σ1 G1 ⟨rfl, rfl⟩
  refine z0g (fun σ G => G = G1 /\ ∃ sz : Int, 0 ≤ sz /\ sz ≤ 512 /\ σ = [some (.ref a), some (.int side), some (.int n), some (.int sz), none, none, none, none, none, none]) ?_ (fun R hR => ?_)
  rotate_left
  · wp_walk using rRepT, tSeq, tIfS, eqV
    have keep := hR _ _ ⟨rfl, 5, by decide, by decide, rfl⟩
    split
    rotate_left
    · exact keep
    refine ⟨_, .inr (.of ha), ?_⟩
    rw [z0l]
    split
    rotate_left
    · exact keep
    obtain ⟨k, rfl⟩ : ∃ k : Nat, side = k := ⟨side.toNat, by omega⟩
    have kl : k < ns.length := by omega
    have b := sd _ (z6i kl)
    exact ⟨_, ha, _, z3m kl, hR _ _ ⟨rfl, _, b.1, b.2, rfl⟩⟩
  rintro σ2 G2 ⟨rfl, sz, z0, z1, rfl⟩
  refine z0g (fun σ G => G = G2 /\ ∃ g : Int, 1 ≤ g /\ g ≤ 4 /\ σ = [some (.ref a), some (.int side), some (.int n), some (.int sz), some (.int g), none, none, none, none, none]) ?_ (fun R hR => ?_)
  rotate_left
  · wp_walk using rRepT, tSeq, tIfS, eqV
    exact hR _ _ ⟨rfl, _, by omega, by omega, rfl⟩
  rintro σ3 G3 ⟨rfl, g, g0, g1, rfl⟩
  refine z0g (fun σ G => G = G3 /\ ∃ f : Int, 0 ≤ f /\ f ≤ 512 /\ σ = [some (.ref a), some (.int side), some (.int n), some (.int sz), some (.int g), some (.int f), none, none, none, none]) ?_ (fun R hR => ?_)
  rotate_left
  · wp_walk using rRepT, tSeq, tIfS, eqV
    have z : 1 ≤ (if sz > 1 then sz else 1) /\ (if sz > 1 then sz else 1) ≤ 512 := by split <;> omega
    have k := z4k (n := n / 4) (r := if sz > 1 then sz else 1) (by omega)
    exact ⟨by omega, hR _ _ ⟨rfl, _, by omega, by omega, rfl⟩⟩
  rintro σ4 G4 ⟨rfl, f, f0, f1, rfl⟩
  refine z0g (fun σ G => G = G4 /\ ∃ mo : Int, 0 ≤ mo /\ mo ≤ 513 /\ σ = [some (.ref a), some (.int side), some (.int n), some (.int sz), some (.int g), some (.int f), some (.int mo), none, none, none]) ?_ (fun R hR => ?_)
  rotate_left
  · wp_walk using rRepT, tSeq, tIfS, eqV
    have mb := most_in z0 z1 f0 f1 g0 g1
    exact ⟨by omega, by omega, by omega, hR _ _ ⟨rfl, _, mb.1, mb.2, rfl⟩⟩
  rintro σ5 G5 ⟨rfl, mo, o0, o1, rfl⟩
  refine z0g (fun σ G => G = G5 /\ ∃ m : Int, 0 ≤ m /\ m ≤ 600 /\ σ = [some (.ref a), some (.int side), some (.int n), some (.int sz), some (.int g), some (.int f), some (.int mo), some (.int m), none, none]) ?_ (fun R hR => ?_)
  rotate_left
  · wp_walk using rRepT, tSeq, tIfS, eqV
    have k := z4k (n := n / 4096) (r := mo + 1) (by omega)
    refine ⟨by omega, hR _ _ ⟨rfl, _, ?_, ?_, rfl⟩⟩
    · split <;> omega
    · split <;> omega
  rintro σ6 G6 ⟨rfl, m, m0, m1, rfl⟩
  refine z0g (fun σ G => G = G6 /\ σ = [some (.ref a), some (.int side), some (.int n), some (.int sz), some (.int g), some (.int f), some (.int mo), some (.int m), some (.int (n / 67108864)), none]) ?_ (fun R hR => ?_)
  rotate_left
  · wp_walk using rRepT, tSeq, tIfS, eqV
    exact hR _ _ ⟨rfl, rfl⟩
  rintro σ7 G7 ⟨rfl, rfl⟩
  have fb : 0 ≤ n / 67108864 /\ n / 67108864 < 34359738368 := by omega
  generalize n / 67108864 = fa at *
  refine z0g (fun σ G => G = G7 /\ ∃ wa : Int, σ = [some (.ref a), some (.int side), some (.int n), some (.int sz), some (.int g), some (.int f), some (.int mo), some (.int m), some (.int fa), some (.int wa)]) ?_ (fun R hR => ?_)
  rotate_left
  · wp_walk using rRepT, tSeq, tIfS, eqV
    exact hR _ _ ⟨rfl, _, rfl⟩
  rintro σ8 G8 ⟨rfl, wa, rfl⟩
  have h1 : smI f := ⟨by omega, by omega⟩
  have h2 : smI g := ⟨by omega, by omega⟩
  have h3 : -100 < m := by omega
  have h4 : m < 100000 := by omega
  clear f0 f1 g0 g1 m0 m1
  refine z0g (fun σ G => G = G8 /\ ∃ f m g : Int, smI f /\ smI g /\ -100 < m /\ m < 100000 /\ σ = [some (.ref a), some (.int side), some (.int n), some (.int sz), some (.int g), some (.int f), some (.int mo), some (.int m), some (.int fa), some (.int wa)]) ?_ (fun R hR => ?_)
  rotate_left
  · wp_walk using rRepT, tSeq, tIfS, eqV
    split
    · exact hR _ _ ⟨rfl, _, m, g, ⟨by omega, by omega⟩, h2, h3, h4, rfl⟩
    · exact hR _ _ ⟨rfl, f, m, g, h1, h2, h3, h4, rfl⟩
  rintro σ9 G9 ⟨rfl, f, m, g, h1, h2, h3, h4, rfl⟩
  refine z0g (fun σ G => G = G9 /\ ∃ f m g : Int, smI f /\ smI g /\ -100 < m /\ m < 100000 /\ σ = [some (.ref a), some (.int side), some (.int n), some (.int sz), some (.int g), some (.int f), some (.int mo), some (.int m), some (.int fa), some (.int wa)]) ?_ (fun R hR => ?_)
  rotate_left
  · wp_walk using rRepT, tSeq, tIfS, eqV
    split
    · exact hR _ _ ⟨rfl, f, _, g, h1, h2, by omega, by omega, rfl⟩
    · exact hR _ _ ⟨rfl, f, m, g, h1, h2, h3, h4, rfl⟩
  rintro σa Ga ⟨rfl, f, m, g, h1, h2, h3, h4, rfl⟩
  refine z0g (fun σ G => G = Ga /\ ∃ f m g : Int, smI f /\ smI g /\ -100 < m /\ m < 100000 /\ σ = [some (.ref a), some (.int side), some (.int n), some (.int sz), some (.int g), some (.int f), some (.int mo), some (.int m), some (.int fa), some (.int wa)]) ?_ (fun R hR => ?_)
  rotate_left
  · wp_walk using rRepT, tSeq, tIfS, eqV
    split
    · exact hR _ _ ⟨rfl, f, m, _, h1, ⟨by omega, by omega⟩, h3, h4, rfl⟩
    · exact hR _ _ ⟨rfl, f, m, g, h1, h2, h3, h4, rfl⟩
  rintro σb Gb ⟨rfl, f, m, g, h1, h2, h3, h4, rfl⟩
  refine z0g (fun σ G => G = Gb /\ ∃ f m g : Int, smI f /\ smI g /\ -100 < m /\ m < 100000 /\ σ = [some (.ref a), some (.int side), some (.int n), some (.int sz), some (.int g), some (.int f), some (.int mo), some (.int m), some (.int fa), some (.int wa)]) ?_ (fun R hR => ?_)
  rotate_left
  · wp_walk using rRepT, tSeq, tIfS, eqV
    split
    · exact hR _ _ ⟨rfl, f, _, g, h1, h2, by omega, by omega, rfl⟩
    · exact hR _ _ ⟨rfl, f, m, g, h1, h2, h3, h4, rfl⟩
  rintro σc Gc ⟨rfl, f, m, g, h1, h2, h3, h4, rfl⟩
  refine z0g (fun σ G => G = Gc /\ ∃ f m g : Int, smI f /\ smI g /\ -100 < m /\ m < 100000 /\ σ = [some (.ref a), some (.int side), some (.int n), some (.int sz), some (.int g), some (.int f), some (.int mo), some (.int m), some (.int fa), some (.int wa)]) ?_ (fun R hR => ?_)
  rotate_left
  · wp_walk using rRepT, tSeq, tIfS, eqV
    split
    · exact hR _ _ ⟨rfl, f, _, _, h1, ⟨by omega, by omega⟩, by split <;> omega, by split <;> omega, rfl⟩
    · exact hR _ _ ⟨rfl, f, m, g, h1, h2, h3, h4, rfl⟩
  rintro σd Gd ⟨rfl, f, m, g, h1, h2, h3, h4, rfl⟩
  refine z0g (fun σ G => G = Gd /\ ∃ f m g : Int, smI f /\ smI g /\ -100 < m /\ m < 100000 /\ σ = [some (.ref a), some (.int side), some (.int n), some (.int sz), some (.int g), some (.int f), some (.int mo), some (.int m), some (.int fa), some (.int wa)]) ?_ (fun R hR => ?_)
  rotate_left
  · wp_walk using rRepT, tSeq, tIfS, eqV
    split
    · exact hR _ _ ⟨rfl, _, _, g, ⟨by omega, by omega⟩, h2, by decide, by decide, rfl⟩
    · exact hR _ _ ⟨rfl, f, m, g, h1, h2, h3, h4, rfl⟩
  rintro σe Ge ⟨rfl, f, m, g, h1, h2, h3, h4, rfl⟩
  wp_walk using rRepT, tSeq, tIfS, eqV
  exact ⟨small (by decide), fun p hp => q _ p f m g (z0e hp _) h1 h2 h3 h4 z0k⟩
abbrev slawroom : Stmt := top 55
def splawroom : Sp := fun vs H Q _ => ∃ (a : Addr) (ns : List Int), vs = [.ref a] /\ H a = some (.tup (ns.map V.int)) /\ sdOk ns /\ Q (.int (roomI ns)) H
theorem sclawroom : FnScope ["sides", "room", "side"] ["sides"] (defScope slawroom) := ⟨rfl, rfl, rfl, by decide +kernel, rfl, by decide +kernel, by decide +kernel⟩
theorem oklawroom (F : Fun K "_law_room" "_law_room" slawroom f fd) (zmax : mg "max" = none) : FnOk P w K mg base CX0 (1) f fd ["sides"] (splawroom) := by
  have sc := sclawroom
  refine F.ok sc (fun vs H Q E h => ?_) (fun cdv A outer s H vs Q E hr h => ?_)
  · obtain ⟨a, ns, rfl, _⟩ := h; rfl
  obtain ⟨a, ns, rfl, ha, sd, q⟩ := h
  refine ⟨_, (z0c (z0m (i := 1) sc.nd rfl (by first | exact Or.inl rfl | exact Or.inr rfl) z0b) (z0c (z2v PassesOwn.never rfl (z4o (pv 0)) (z0y (i := 2) sc.nd rfl (Or.inl rfl)) (z0f (z0m (i := 1) sc.nd rfl (by first | exact Or.inl rfl | exact Or.inr rfl) (z0n z2w (pv 1) (z0r (z3d rfl) (by rfl) zmax boot_max (z0a z0b (z0a (pv 2) z0d))))))) (z0f (z0s (pv 1))))), ?_⟩
  simp only [L2.start, List.length_cons, List.length_nil, List.replicate, List.cons_append, List.nil_append, Nat.reduceSub, Nat.reduceAdd, List.map_cons, List.map_nil]
  wp_walk using rRepT, tSeq, tIfS, eqV
  refine LoopT.mk (xs := ns.map V.int) (.of ha) (fun i σ G => G = H /\ ∃ y, σ = [some (.ref a), some (.int (roomI (ns.take i))), y]) ⟨rfl, _, rfl⟩ (fun i σ G _ h => by rw [h.1]; exact .of ha) (fun i x σ G e h => ?_) (fun σ G h => ?_)
  · obtain ⟨rfl, y, rfl⟩ := h
    obtain ⟨m, rfl, hm, b0, b1⟩ := z6n sd e
    have e1 : roomI (ns.take (i + 1)) = roomI (ns.take i) / one1 m := by
      rw [List.take_add_one, hm]; exact room_snoc fun n hn => (sd n (List.mem_of_mem_take hn)).1
    have p1 := z4p b0
    have p2 : one1 m < 1000000000000000000 := by unfold one1; split <;> omega
    wp_walk using rRepT, tSeq, tIfS, eqV, one1_max b0
    exact ⟨by omega, by omega, by omega, by rw [e1, Int.fdiv_eq_ediv_of_nonneg _ (by omega)], _, rfl⟩
  · obtain ⟨rfl, y, rfl⟩ := h
    rw [z0l, List.take_length]
    wp_walk using rRepT, tSeq, tIfS, eqV
    exact q
abbrev slawspread : Stmt := top 56
def splawspread : Sp := fun vs H Q _ => ∃ (a : Addr) (ns : List Int) (side n : Int), vs = [.ref a, .int side, .int n] /\ H a = some (.tup (ns.map V.int)) /\ sdOk ns /\ 1 ≤ roomI ns /\ smN n /\ ∀ H' p many, Same H H' -> -100 < many -> many < 1000000 -> H' p = some (.tup [.str (Str.ofString "spread"), .int side, .int many]) -> Q (.ref p) H'
theorem sclawspread : FnScope ["sides", "side", "n", "room", "many", "way"] ["sides", "side", "n"] (defScope slawspread) := ⟨rfl, rfl, rfl, by decide +kernel, rfl, by decide +kernel, by decide +kernel⟩
theorem oklawspread (F : Fun K "_law_spread" "_law_spread" slawspread f fd) (clawroom : Callee P w K mg base CX0 (1) "_law_room" ["sides"] splawroom) (zmin : mg "min" = none) : FnOk P w K mg base CX0 (2) f fd ["sides", "side", "n"] (splawspread) := by
  have sc := sclawspread
  refine F.ok sc (fun vs H Q E h => ?_) (fun cdv A outer s H vs Q E hr h => ?_)
  · obtain ⟨a, ns, side, n, rfl, _⟩ := h; rfl
  obtain ⟨a, ns, side, n, rfl, ha, sd, r1, hn, q⟩ := h
  refine ⟨_, (z0c (z0m (i := 3) sc.nd rfl (by first | exact Or.inl rfl | exact Or.inr rfl) (z0u clawroom hr (by rfl) z1n (z0a (pv 0) z0d))) (z0c (z0m (i := 4) sc.nd rfl (by first | exact Or.inl rfl | exact Or.inr rfl) (z0n z1i z0b (z0n z2d (pv 2) (z0r (z2t rfl) (by rfl) zmin boot_min (z0a (pv 3) (z0a z0b z0d)))))) (z0c (z0m (i := 5) sc.nd rfl (by first | exact Or.inl rfl | exact Or.inr rfl) (z0n z1q (z0n z1u (pv 2) z0b) z0b)) (z0c (z1a (z0j z1m (pv 5) z0b (z0o _)) (z0f (z0m (i := 4) sc.nd rfl (by first | exact Or.inl rfl | exact Or.inr rfl) (z0n z2g (z6p z4d z0b) (z0n z1q (z0n z1u (pv 2) z0b) z0b)))) z0p) (z0c (z1a (z0j z1m (pv 5) z0b (z0o _)) (z0f (z0m (i := 4) sc.nd rfl (by first | exact Or.inl rfl | exact Or.inr rfl) (z0n z1i (z0n z1i (pv 3) z0b) (z0n z2h (z0n z1q (z0n z1u (pv 2) z0b) z0b) z0b)))) z0p) (z0c (z1a (z0j z1m (pv 5) z0b (z0o _)) (z0f (z0m (i := 4) sc.nd rfl (by first | exact Or.inl rfl | exact Or.inr rfl) (z0n z1i z0b (z0n z2d (z0n z1u (pv 2) z0b) (pv 3))))) z0p) (z0c (z1a (z0j z1m (pv 5) z0b (z0o _)) (z0f (z0m (i := 4) sc.nd rfl (by first | exact Or.inl rfl | exact Or.inr rfl) z0b)) z0p) (z0f (z0s (z1d (z0a z0z (z0a (pv 1) (z0a (pv 4) z0d))))))))))))), ?_⟩
  simp only [L2.start, List.length_cons, List.length_nil, List.replicate, List.cons_append, List.nil_append, Nat.reduceSub, Nat.reduceAdd, List.map_cons, List.map_nil]
  have rb := z7o fun n hn => (sd n hn).1
  have hb : 0 ≤ n / 8 % 16 /\ n / 8 % 16 < 16 := by omega
  refine z0g (fun σ G => G = H /\ σ = [some (.ref a), some (.int side), some (.int n), some (.int (roomI ns)), none, none]) ?_ (fun R hR => ?_)
  rotate_left
  · wp_walk using rRepT, tSeq, tIfS, eqV, splawroom
    exact ⟨ns, ha, sd, hR _ _ ⟨rfl, rfl⟩⟩
  rintro σ1 G1 ⟨rfl, rfl⟩
  generalize roomI ns = r at *
  refine z0g (fun σ G => G = G1 /\ ∃ m, -100 < m /\ m < 1000000 /\ σ = [some (.ref a), some (.int side), some (.int n), some (.int r), some (.int m), none]) ?_ (fun R hR => ?_)
  rotate_left
  · wp_walk using rRepT, tSeq, tIfS, eqV
    have z : 1 ≤ (if 3 < r then 3 else r) /\ (if 3 < r then 3 else r) ≤ 3 := by split <;> omega
    have f := z4k (n := n) (r := if 3 < r then 3 else r) (by omega)
    exact ⟨by omega, hR _ _ ⟨rfl, _, by omega, by omega, rfl⟩⟩
  rintro σ2 G2 ⟨rfl, m, m0, m1, rfl⟩
  refine z0g (fun σ G => G = G2 /\ σ = [some (.ref a), some (.int side), some (.int n), some (.int r), some (.int m), some (.int (n / 8 % 16))]) ?_ (fun R hR => ?_)
  rotate_left
  · wp_walk using rRepT, tSeq, tIfS, eqV
    exact hR _ _ ⟨rfl, rfl⟩
  rintro σ3 G3 ⟨rfl, rfl⟩
  refine z0g (fun σ G => G = G3 /\ ∃ m, -100 < m /\ m < 1000000 /\ σ = [some (.ref a), some (.int side), some (.int n), some (.int r), some (.int m), some (.int (n / 8 % 16))]) ?_ (fun R hR => ?_)
  rotate_left
  · wp_walk using rRepT, tSeq, tIfS, eqV
    split
    · exact hR _ _ ⟨rfl, _, by omega, by omega, rfl⟩
    · exact hR _ _ ⟨rfl, m, m0, m1, rfl⟩
  rintro σ4 G4 ⟨rfl, m, m0, m1, rfl⟩
  refine z0g (fun σ G => G = G4 /\ ∃ m, -100 < m /\ m < 1000000 /\ σ = [some (.ref a), some (.int side), some (.int n), some (.int r), some (.int m), some (.int (n / 8 % 16))]) ?_ (fun R hR => ?_)
  rotate_left
  · wp_walk using rRepT, tSeq, tIfS, eqV
    split
    · exact hR _ _ ⟨rfl, _, by omega, by omega, rfl⟩
    · exact hR _ _ ⟨rfl, m, m0, m1, rfl⟩
  rintro σ5 G5 ⟨rfl, m, m0, m1, rfl⟩
  refine z0g (fun σ G => G = G5 /\ ∃ m, -100 < m /\ m < 1000000 /\ σ = [some (.ref a), some (.int side), some (.int n), some (.int r), some (.int m), some (.int (n / 8 % 16))]) ?_ (fun R hR => ?_)
  rotate_left
  · wp_walk using rRepT, tSeq, tIfS, eqV
    split
    · have f := z4k (n := n / 128) (r := r) (by omega)
      exact ⟨by omega, hR _ _ ⟨rfl, _, by omega, by omega, rfl⟩⟩
    · exact hR _ _ ⟨rfl, m, m0, m1, rfl⟩
  rintro σ6 G6 ⟨rfl, m, m0, m1, rfl⟩
  refine z0g (fun σ G => G = G6 /\ ∃ m, -100 < m /\ m < 1000000 /\ σ = [some (.ref a), some (.int side), some (.int n), some (.int r), some (.int m), some (.int (n / 8 % 16))]) ?_ (fun R hR => ?_)
  rotate_left
  · wp_walk using rRepT, tSeq, tIfS, eqV
    split
    · exact hR _ _ ⟨rfl, _, by decide, by decide, rfl⟩
    · exact hR _ _ ⟨rfl, m, m0, m1, rfl⟩
  rintro σ7 G7 ⟨rfl, m, m0, m1, rfl⟩
  wp_walk using rRepT, tSeq, tIfS, eqV
  exact ⟨small (by decide), fun p hp => q _ p m (z0e hp _) m0 m1 z0k⟩
abbrev slawlonger : Stmt := top 57
def splawlonger : Sp := fun vs H Q _ => ∃ (a : Addr) (ns : List Int) (n : Int), vs = [.ref a, .int n] /\ H a = some (.tup (ns.map V.int)) /\ sdOk ns /\ ns.length ≤ 6 /\ 1 ≤ roomI ns /\ fit ns /\ smN n /\ ∀ H' p d, Same H H' -> DgAt H' p d -> ledOk ns d -> (∀ side, d ≠ .inner side) -> Q (.ref p) H'
theorem sclawlonger : FnScope ["sides", "n", "out", "room", "k", "side", "way", "first"] ["sides", "n"] (defScope slawlonger) := ⟨rfl, rfl, rfl, by decide +kernel, rfl, by decide +kernel, by decide +kernel⟩
theorem oklawlonger (F : Fun K "_law_longer" "_law_longer" slawlonger f fd) (clawroom : Callee P w K mg base CX0 (1) "_law_room" ["sides"] splawroom) (zrange : mg "range" = none) (zlen : mg "len" = none) (zmin : mg "min" = none) : FnOk P w K mg base CX0 (2) f fd ["sides", "n"] (splawlonger) := by
  have sc := sclawlonger
  refine F.ok sc (fun vs H Q E h => ?_) (fun cdv A outer s H vs Q E hr h => ?_)
  · obtain ⟨a, ns, n, rfl, _⟩ := h; rfl
  obtain ⟨a, ns, n, rfl, ha, sd, l6, r1, hft, hn, q⟩ := h
  refine ⟨_, (z0c (z0m (i := 2) sc.nd rfl (by first | exact Or.inl rfl | exact Or.inr rfl) (pv 0)) (z0c (z0m (i := 3) sc.nd rfl (by first | exact Or.inl rfl | exact Or.inr rfl) (z0u clawroom hr (by rfl) z1n (z0a (pv 0) z0d))) (z0c (z2v PassesOwn.never rfl (z3r (by rfl) zrange (z0a (z0n z1q (pv 1) z0b) z0d)) (z0y (i := 4) sc.nd rfl (Or.inl rfl)) (z0f (z1a (z0j z3a (z0r z0q (by rfl) zlen PySem.boot_len (z0a (pv 2) z0d)) z0b (z0o _)) (z0c (z0m (i := 5) sc.nd rfl (by first | exact Or.inl rfl | exact Or.inr rfl) (z0n z1i z0b (z0n z2d (z0n z1u (pv 1) z0b) (z0r (z2t rfl) (by rfl) zmin boot_min (z0a (pv 3) (z0a (z0n z1i z0b (z0n z2h z0b (pv 4))) z0d)))))) (z0c (z0m (i := 2) sc.nd rfl (by first | exact Or.inl rfl | exact Or.inr rfl) (z0n z1v (pv 2) (z1d (z0a (pv 5) z0d)))) (z0f (z0m (i := 3) sc.nd rfl (by first | exact Or.inl rfl | exact Or.inr rfl) (z0n z2w (pv 3) (pv 5)))))) z0p))) (z0c (z0m (i := 6) sc.nd rfl (by first | exact Or.inl rfl | exact Or.inr rfl) (z0n z1q (z0n z1u (pv 1) z0b) z0b)) (z0c (z1a (z2r (z0j z1m (pv 6) z0b (z0o _)) (z2b (z0j z4h (z0r z0q (by rfl) zlen PySem.boot_len (z0a (pv 0) z0d)) z0b (z0o _)))).pt (z0f (z0m (i := 2) sc.nd rfl (by first | exact Or.inl rfl | exact Or.inr rfl) (z1c z1t (pv 0) z1k (z1e (z6p z4d z0b))))) z0p) (z0c (z1a (z2r (z0j z1m (pv 6) z0b (z0o _)) (z2b (z0j z4h (z0r z0q (by rfl) zlen PySem.boot_len (z0a (pv 0) z0d)) z0b (z0o _)))).pt (z0c (z0m (i := 7) sc.nd rfl (by first | exact Or.inl rfl | exact Or.inr rfl) (z0n z2g (z0t z0i (pv 0) z0b (fun _ _ => rfl)) z0b)) (z0c (z1a (z0j z3a (pv 7) z0b (z0o _)) (z0f (z0m (i := 7) sc.nd rfl (by first | exact Or.inl rfl | exact Or.inr rfl) z0b)) z0p) (z0f (z0m (i := 2) sc.nd rfl (by first | exact Or.inl rfl | exact Or.inr rfl) (z0n z1v (z1d (z0a (pv 7) z0d)) (z1c z1t (pv 2) (z1e z0b) z1k)))))) z0p) (z0c (z1a (z2r (z0j z1m (pv 6) z0b (z0o _)) (z2r (z0j z4h (z0r z0q (by rfl) zlen PySem.boot_len (z0a (pv 0) z0d)) z0b (z0o _)) (z2b (z0j op_ne (z0t z0i (pv 0) z0b (fun _ _ => rfl)) (z0t z0i (pv 0) (z6p z4d z0b) (fun _ _ => rfl)) (z0o _))))).pt (z0f (z0m (i := 2) sc.nd rfl (by first | exact Or.inl rfl | exact Or.inr rfl) (z0n z1v (z0n z1v (z1d (z0a (z0t z0i (pv 0) (z6p z4d z0b) (fun _ _ => rfl)) z0d)) (z1c z1t (pv 0) (z1e z0b) (z1e (z6p z4d z0b)))) (z1d (z0a (z0t z0i (pv 0) z0b (fun _ _ => rfl)) z0d))))) z0p) (z0f (z0s (z1d (z0a z0z (z0a (pv 2) z0d)))))))))))), ?_⟩
  simp only [L2.start, List.length_cons, List.length_nil, List.replicate, List.cons_append, List.nil_append, Nat.reduceSub, Nat.reduceAdd, List.map_cons, List.map_nil]
  refine z0g (fun σ G => G = H /\ σ = [some (.ref a), some (.int n), some (.ref a), none, none, none, none, none]) ?_ (fun R hR => ?_)
  rotate_left
  · wp_walk using rRepT, tSeq, tIfS, eqV
    exact hR _ _ ⟨rfl, rfl⟩
  rintro σ1 G1 ⟨rfl, rfl⟩
  refine z0g (fun σ G => G = G1 /\ σ = [some (.ref a), some (.int n), some (.ref a), some (.int (roomI ns)), none, none, none, none]) ?_ (fun R hR => ?_)
  rotate_left
  · wp_walk using rRepT, tSeq, tIfS, eqV, splawroom
    exact ⟨ns, ha, sd, hR _ _ ⟨rfl, rfl⟩⟩
  rintro σ2 G2 ⟨rfl, rfl⟩
  have rb := z7o fun n hn => (sd n hn).1
  have g0 := grow_room hft
  generalize roomI ns = r at *
  refine z0g (fun σ G => ∃ (o : Addr) (ms : List Int) (y3 y4 y5 : Option V), Same G2 G /\ G o = some (.tup (ms.map V.int)) /\ ms.length ≤ 8 /\ (ms.take ns.length = ns -> fit ms) /\ σ = [some (.ref a), some (.int n), some (.ref o), y3, y4, y5, none, none]) ?_ (fun R hR => ?_)
  rotate_left
  · wp_walk using rRepT, tSeq, tIfS, eqV
    refine ⟨by omega, by omega, ?_⟩
    refine LoopR.mk (fun i σ G => ∃ (o : Addr) (ms : List Int) (r : Int) (y4 y5 : Option V), Same G2 G /\ G o = some (.tup (ms.map V.int)) /\ ms.length ≤ 6 /\ grow ms r ms.length /\ 1 ≤ r /\ r ≤ 512 /\ σ = [some (.ref a), some (.int n), some (.ref o), some (.int r), y4, y5, none, none]) ⟨a, ns, r, _, _, Same.refl _, ha, l6, g0, r1, rb.2, rfl⟩ (fun i σ G hi h => ?_) (fun σ G h => ?_)
    · obtain ⟨o, ms, r, y4, y5, sG, ho, ml, gr, r0, r5, rfl⟩ := h
      wp_walk using rRepT, tSeq, tIfS, eqV, Int.zero_add
      refine ⟨_, .inr (.of ho), ?_⟩
      rw [z0l]
      split
      · generalize hd : (if 3 + 4 * (i : Int) < r then 3 + 4 * (i : Int) else r) = q1
        have qb : 1 ≤ q1 /\ q1 ≤ r := by rw [← hd]; split <;> omega
        have f := z4k (n := n / 48) (r := q1) (by omega)
        generalize (n / 48).fmod q1 = t at *
        have dv : 1 ≤ r / (1 + t) := div_one (by omega) (by omega)
        have gs := grow_step gr (m := 1 + t) (by omega) (by omega)
        rw [show one1 (1 + t) = 1 + t by unfold one1; rw [if_neg (by omega)]] at gs
        have dv2 : r / (1 + t) ≤ 512 := Int.le_trans (Int.ediv_le_self _ (by omega)) r5
        exact ⟨by omega, small (by decide), fun p hp => ⟨_, z0e hp _ _ _ ho, small (by rw [List.length_map]; omega), fun r1 G' s' hr => ⟨by omega, by omega, by omega, sG.trans ((z0e hp _).trans s'), r1, ms ++ [1 + t], by rw [hr, List.map_append]; rfl, by rw [List.length_append, List.length_singleton]; omega, r / (1 + t), by rw [List.length_append]; exact gs, dv, dv2, rfl, Int.fdiv_eq_ediv_of_nonneg _ (by omega), _, rfl⟩⟩⟩
      · exact ⟨sG, o, ms, ho, ml, r, gr, r0, r5, rfl, rfl, _, rfl⟩
    · obtain ⟨o, ms, r, y4, y5, sG, ho, ml, gr, r0, r5, rfl⟩ := h
      exact hR _ _ ⟨o, ms, _, _, _, sG, ho, by omega, fun _ => grow_fit gr ml, rfl⟩
  rintro σ3 G3 ⟨o, ms, y3, y4, y5, s3, ho, ml, fm, rfl⟩
  refine z0g (fun σ G => G = G3 /\ ∃ w : Int, σ = [some (.ref a), some (.int n), some (.ref o), y3, y4, y5, some (.int w), none]) ?_ (fun R hR => ?_)
  rotate_left
  · wp_walk using rRepT, tSeq, tIfS, eqV
    exact hR _ _ ⟨rfl, _, rfl⟩
  rintro σ4 G4 ⟨rfl, w, rfl⟩
  refine z0g (fun σ G => ∃ (o : Addr) (ms : List Int), Same G2 G /\ G o = some (.tup (ms.map V.int)) /\ ms.length ≤ 8 /\ (ms.take ns.length = ns -> fit ms) /\ σ = [some (.ref a), some (.int n), some (.ref o), y3, y4, y5, some (.int w), none]) ?_ (fun R hR => ?_)
  rotate_left
  · wp_walk using rRepT, tSeq, tIfS, eqV
    have keep := hR _ _ ⟨o, ms, s3, ho, ml, fm, rfl⟩
    split
    rotate_left
    · exact keep
    refine ⟨_, .inr (.of (s3 _ _ ha)), ?_⟩
    rw [z0l]
    split
    rotate_left
    · exact keep
    refine ⟨_, s3 _ _ ha, fun r G s hr => ?_⟩
    rw [cut_last] at hr
    exact hR _ _ ⟨r, _, s3.trans s, hr, by rw [List.length_take]; omega, fun z => by have := congrArg List.length z; rw [List.length_take, List.length_take] at this; omega, rfl⟩
  rintro σ5 G5 ⟨o, ms, s5, ho, ml, fm, rfl⟩
  refine z0g (fun σ G => ∃ (o : Addr) (ms : List Int) (y7 : Option V), Same G2 G /\ G o = some (.tup (ms.map V.int)) /\ ms.length ≤ 9 /\ (ms.take ns.length = ns -> fit ms) /\ σ = [some (.ref a), some (.int n), some (.ref o), y3, y4, y5, some (.int w), y7]) ?_ (fun R hR => ?_)
  rotate_left
  · wp_walk using rRepT, tSeq, tIfS, eqV
    have keep := hR _ _ ⟨o, ms, none, s5, ho, by omega, fm, rfl⟩
    split
    rotate_left
    · exact keep
    refine ⟨_, .inr (.of (s5 _ _ ha)), ?_⟩
    rw [z0l]
    split
    rotate_left
    · exact keep
    refine ⟨_, s5 _ _ ha, _, z3m (k := 0) (by omega), _, rfl, ?_⟩
    split
    · refine ⟨small (by decide), fun p hp => ⟨_, z0e hp _ _ _ ho, fun r G s hr => ?_⟩⟩
      obtain ⟨us, e, ul⟩ := cut_some ms (some 1) none
      rw [e] at hr
      exact ⟨_, s _ _ z0k, _, hr, small (by simp only [List.length_map, List.length_cons, List.length_nil]; omega), fun r2 G' s' hr2 => hR _ _ ⟨r2, 1 :: us, _, s5.trans ((z0e hp _).trans (s.trans s')), hr2, by rw [List.length_cons]; omega, fun z => by have := z6h (by omega) z; omega, rfl⟩⟩
    · refine ⟨small (by decide), fun p hp => ⟨_, z0e hp _ _ _ ho, fun r G s hr => ?_⟩⟩
      obtain ⟨us, e, ul⟩ := cut_some ms (some 1) none
      rw [e] at hr
      exact ⟨_, s _ _ z0k, _, hr, small (by simp only [List.length_map, List.length_cons, List.length_nil]; omega), fun r2 G' s' hr2 => hR _ _ ⟨r2, (ns.getD 0 0 - 1) :: us, _, s5.trans ((z0e hp _).trans (s.trans s')), hr2, by rw [List.length_cons]; omega, fun z => by have := z6h (by omega) z; omega, rfl⟩⟩
  rintro σ6 G6 ⟨o, ms, y7, s6, ho, ml, fm, rfl⟩
  refine z0g (fun σ G => ∃ (o : Addr) (ms : List Int), Same G2 G /\ G o = some (.tup (ms.map V.int)) /\ ms.length ≤ 10 /\ (ms.take ns.length = ns -> fit ms) /\ σ = [some (.ref a), some (.int n), some (.ref o), y3, y4, y5, some (.int w), y7]) ?_ (fun R hR => ?_)
  rotate_left
  · wp_walk using rRepT, tSeq, tIfS, eqV
    have keep := hR _ _ ⟨o, ms, s6, ho, by omega, fm, rfl⟩
    split
    rotate_left
    · exact keep
    refine ⟨_, .inr (.of (s6 _ _ ha)), ?_⟩
    rw [z0l]
    split
    rotate_left
    · exact keep
    obtain ⟨z, ez⟩ := at_last (ns := ns) (by omega)
    refine ⟨_, s6 _ _ ha, _, z3m (k := 0) (by omega), _, s6 _ _ ha, _, ez, rfl, ?_⟩
    split
    rotate_left
    · exact keep
    rename_i cz
    refine ⟨_, s6 _ _ ha, _, ez, small (by decide), fun p hp => ⟨_, z0e hp _ _ _ (s6 _ _ ha), fun r G s hr => ?_⟩⟩
    obtain ⟨us, e, ul⟩ := cut_some ns (some 1) (some (-1))
    rw [e] at hr
    refine ⟨_, s _ _ z0k, _, hr, small (by simp only [List.length_map, List.length_cons, List.length_nil]; omega), fun r2 G' s' hr2 => ?_⟩
    have k2 := s6.trans ((z0e hp (.tup [V.int z])).trans (s.trans s'))
    refine ⟨_, k2 _ _ ha, _, z3m (k := 0) (by omega), small (by decide), fun p2 hp2 => ⟨_, z0e hp2 _ _ _ hr2, small (by simp only [List.length_append, List.length_map, List.length_cons, List.length_nil]; omega), fun r3 G3 s3' hr3 => hR _ _ ⟨r3, z :: us ++ [ns.getD 0 0], k2.trans ((z0e hp2 _).trans s3'), by rw [hr3, List.map_append]; rfl, by rw [List.length_append, List.length_cons, List.length_singleton]; omega, fun w => absurd (congrArg V.int (z6h (by omega) w).symm) cz, rfl⟩⟩⟩
  rintro σ7 G7 ⟨o, ms, s7, ho, ml, fm, rfl⟩
  wp_walk using rRepT, tSeq, tIfS, eqV
  exact ⟨small (by decide), fun p hp => q _ p (.lead ms) (s7.trans (z0e hp _)) ⟨o, z0k, z0e hp _ _ _ ho, ml⟩ fm (fun _ z => by cases z)⟩
abbrev slawdoing : Stmt := top 58
def splawdoing : Sp := fun vs H Q _ => ∃ (a : Addr) (ns : List Int) (one : Int), vs = [.ref a, .int one, .int 5] /\ H a = some (.tup (ns.map V.int)) /\ (∀ z ∈ ns, 0 ≤ z /\ z ≤ 512) /\ sdOk ns /\ ns.length ≤ 6 /\ 1 ≤ roomI ns /\ fit ns /\ ∀ H' p d, Same H H' -> DgAt H' p d -> ledOk ns d -> (∀ side, d ≠ .inner side) -> Q (.ref p) H'
theorem sclawdoing : FnScope ["sides", "one", "kinds", "n", "kind", "count", "side"] ["sides", "one", "kinds"] (defScope slawdoing) := ⟨rfl, rfl, rfl, by decide +kernel, rfl, by decide +kernel, by decide +kernel⟩
theorem oklawdoing (F : Fun K "_law_doing" "_law_doing" slawdoing f fd) (claworder : Callee P w K mg base CX0 (2) "_law_order" ["n", "count"] splaworder) (clawcut : Callee P w K mg base CX0 (2) "_law_cut" ["sides", "side", "n"] splawcut) (clawspread : Callee P w K mg base CX0 (2) "_law_spread" ["sides", "side", "n"] splawspread) (clawlonger : Callee P w K mg base CX0 (2) "_law_longer" ["sides", "n"] splawlonger) (zlen : mg "len" = none) : FnOk P w K mg base CX0 (3) f fd ["sides", "one", "kinds"] (splawdoing) := by
  have sc := sclawdoing
  refine F.ok sc (fun vs H Q E h => ?_) (fun cdv A outer s H vs Q E hr h => ?_)
  · obtain ⟨a, ns, one, rfl, _⟩ := h; rfl
  obtain ⟨a, ns, one, rfl, ha, zb, sd, l6, r1, hft, q⟩ := h
  refine ⟨_, (z0c (z0m (i := 3) sc.nd rfl (by first | exact Or.inl rfl | exact Or.inr rfl) (z0n z1q (z0n z2h (pv 1) z0b) (z0n z2g (z0n op_pow z0b z0b) z0b))) (z0c (z0m (i := 4) sc.nd rfl (by first | exact Or.inl rfl | exact Or.inr rfl) (z0n z2d (pv 3) (pv 2))) (z0c (z0m (i := 3) sc.nd rfl (by first | exact Or.inl rfl | exact Or.inr rfl) (z0n z2w (pv 3) (pv 2))) (z0c (z0m (i := 5) sc.nd rfl (by first | exact Or.inl rfl | exact Or.inr rfl) (z0r z0q (by rfl) zlen PySem.boot_len (z0a (pv 0) z0d))) (z0c (z0m (i := 6) sc.nd rfl (by first | exact Or.inl rfl | exact Or.inr rfl) (z0n z2g (z0n z2d (pv 3) (z0n z1i (pv 5) z0b)) z0b)) (z0c (z1a (z2r (z0j z4h (z0n z1q (z0n z1u (pv 3) z0b) z0b) z0b (z0o _)) (z2b (z0j z4h (pv 5) z0b (z0o _)))).pt (z0f (z0m (i := 6) sc.nd rfl (by first | exact Or.inl rfl | exact Or.inr rfl) (z0n z2d (pv 3) (pv 5)))) z0p) (z0c (z1a (z2r (z0j z4h (z0n z1q (z0n z1u (pv 3) z0b) z0b) z0b (z0o _)) (z2b (z0j z1m (pv 4) z0b (z0o _)))).pt (z0f (z0m (i := 6) sc.nd rfl (by first | exact Or.inl rfl | exact Or.inr rfl) (z0n z2d (pv 3) (z0n z1i (pv 5) z0b)))) z0p) (z0c (z0m (i := 3) sc.nd rfl (by first | exact Or.inl rfl | exact Or.inr rfl) (z0n z1u (pv 3) z0b)) (z0c (z1a (z0j z1m (pv 4) z0b (z0o _)) (z0f (z0s (z1d (z0a z0z (z0a (z0u claworder hr (by rfl) z1n (z0a (pv 3) (z0a (pv 5) z0d))) z0d))))) z0p) (z0c (z1a (z0j z1m (pv 4) z0b (z0o _)) (z0f (z0s (z1d (z0a z0z (z0a (pv 6) z0d))))) z0p) (z0c (z1a (z0j z1m (pv 4) z0b (z0o _)) (z0f (z0s (z0u clawcut hr (by rfl) z1n (z0a (pv 0) (z0a (pv 6) (z0a (pv 3) z0d)))))) z0p) (z0c (z1a (z0j z1m (pv 4) z0b (z0o _)) (z0f (z0s (z0u clawspread hr (by rfl) z1n (z0a (pv 0) (z0a (pv 6) (z0a (pv 3) z0d)))))) z0p) (z0c (z1a (z0j z1m (pv 4) z0b (z0o _)) (z0f (z0s (z0u clawlonger hr (by rfl) z1n (z0a (pv 0) (z0a (pv 3) z0d))))) z0p) (z0f (z0s (z1d (z0a z0z (z0a (pv 6) z0d)))))))))))))))))), ?_⟩
  simp only [L2.start, List.length_cons, List.length_nil, List.replicate, List.cons_append, List.nil_append, Nat.reduceSub, Nat.reduceAdd, List.map_cons, List.map_nil]
  refine z0g (fun σ G => G = H /\ ∃ n, smN n /\ σ = [some (.ref a), some (.int one), some (.int 5), some (.int n), none, none, none]) ?_ (fun R hR => ?_)
  rotate_left
  · wp_walk using rRepT, tSeq, tIfS, eqV
    exact hR _ _ ⟨rfl, _, ⟨by omega, by omega⟩, rfl⟩
  rintro σ1 G1 ⟨rfl, n, hn, rfl⟩
  refine z0g (fun σ G => G = G1 /\ ∃ kd : Int, 0 ≤ kd /\ kd < 5 /\ σ = [some (.ref a), some (.int one), some (.int 5), some (.int n), some (.int kd), none, none]) ?_ (fun R hR => ?_)
  rotate_left
  · wp_walk using rRepT, tSeq, tIfS, eqV
    have fm := z4k (n := n) (r := 5) (by decide)
    exact ⟨by decide, hR _ _ ⟨rfl, _, fm.1, fm.2, rfl⟩⟩
  rintro σ2 G2 ⟨rfl, kd, kd0, kd5, rfl⟩
  refine z0g (fun σ G => G = G2 /\ ∃ n, smN n /\ σ = [some (.ref a), some (.int one), some (.int 5), some (.int n), some (.int kd), none, none]) ?_ (fun R hR => ?_)
  rotate_left
  · wp_walk using rRepT, tSeq, tIfS, eqV
    refine ⟨by decide, hR _ _ ⟨rfl, _, ?_, rfl⟩⟩
    rw [Int.fdiv_eq_ediv_of_nonneg n (show (0 : Int) ≤ 5 by decide)]
    unfold smN at *
    omega
  rintro σ3 G3 ⟨rfl, n, hn, rfl⟩
  refine z0g (fun σ G => G = G3 /\ σ = [some (.ref a), some (.int one), some (.int 5), some (.int n), some (.int kd), some (.int ns.length), none]) ?_ (fun R hR => ?_)
  rotate_left
  · wp_walk using rRepT, tSeq, tIfS, eqV
    refine ⟨_, .inr (.of ha), ?_⟩
    rw [z0l]
    exact hR _ _ ⟨rfl, rfl⟩
  rintro σ4 G4 ⟨rfl, rfl⟩
  have cb : 0 ≤ (ns.length : Int) := Int.natCast_nonneg _
  generalize hc : (ns.length : Int) = c at *
  refine z0g (fun σ G => G = G4 /\ ∃ side : Int, σ = [some (.ref a), some (.int one), some (.int 5), some (.int n), some (.int kd), some (.int c), some (.int side)]) ?_ (fun R hR => ?_)
  rotate_left
  · wp_walk using rRepT, tSeq, tIfS, eqV
    exact ⟨by omega, hR _ _ ⟨rfl, _, rfl⟩⟩
  rintro σ5 G5 ⟨rfl, side, rfl⟩
  refine z0g (fun σ G => G = G5 /\ ∃ side : Int, σ = [some (.ref a), some (.int one), some (.int 5), some (.int n), some (.int kd), some (.int c), some (.int side)]) ?_ (fun R hR => ?_)
  rotate_left
  · wp_walk using rRepT, tSeq, tIfS, eqV
    have keep := hR _ _ ⟨rfl, side, rfl⟩
    split
    · split
      · exact ⟨by omega, hR _ _ ⟨rfl, _, rfl⟩⟩
      · exact keep
    · exact keep
  rintro σ6 G6 ⟨rfl, side, rfl⟩
  refine z0g (fun σ G => G = G6 /\ ∃ side : Int, σ = [some (.ref a), some (.int one), some (.int 5), some (.int n), some (.int kd), some (.int c), some (.int side)]) ?_ (fun R hR => ?_)
  rotate_left
  · wp_walk using rRepT, tSeq, tIfS, eqV
    have keep := hR _ _ ⟨rfl, side, rfl⟩
    split
    · split
      · exact ⟨by omega, hR _ _ ⟨rfl, _, rfl⟩⟩
      · exact keep
    · exact keep
  rintro σ7 G7 ⟨rfl, side, rfl⟩
  refine z0g (fun σ G => G = G7 /\ ∃ n, smN n /\ σ = [some (.ref a), some (.int one), some (.int 5), some (.int n), some (.int kd), some (.int c), some (.int side)]) ?_ (fun R hR => ?_)
  rotate_left
  · wp_walk using rRepT, tSeq, tIfS, eqV
    exact hR _ _ ⟨rfl, _, by unfold smN at *; omega, rfl⟩
  rintro σ8 G8 ⟨rfl, n, hn, rfl⟩
  wp_walk using rRepT, tSeq, tIfS, eqV, splaworder, splawcut, splawspread, splawlonger
  split
  · exact ⟨ns.length, hc.symm, l6, fun G p os s ol hp => ⟨small (by decide), fun p1 hp1 => q _ p1 (.turn os) (s.trans (z0e hp1 _)) ⟨p, z0k, hp.same (z0e hp1 _), ol⟩ trivial (fun _ z => by cases z)⟩⟩
  split
  · exact ⟨small (by decide), fun p hp => q _ p (.flip side) (z0e hp _) z0k trivial (fun _ z => by cases z)⟩
  split
  · exact ⟨ns, ha, zb, hn, fun G p f m g s h1 h2 h3 h4 hp => q _ p (.cut side f m g) s ⟨hp, h1, h2, h3, h4⟩ trivial (fun _ z => by cases z)⟩
  split
  · exact ⟨ns, ha, sd, r1, hn, fun G p m s h1 h2 hp => q _ p (.spread side m) s ⟨hp, h1, h2⟩ trivial (fun _ z => by cases z)⟩
  split
  · exact ⟨ns, ha, sd, l6, r1, hft, hn, q⟩
  · omega
abbrev slawbehind : Stmt := top 59
theorem sclawbehind : FnScope ["sides", "doing", "kind", "side"] ["sides", "doing"] (defScope slawbehind) := ⟨rfl, rfl, rfl, by decide +kernel, rfl, by decide +kernel, by decide +kernel⟩
theorem oklawbehind (F : Fun K "_law_behind" "_law_behind" slawbehind f fd) (clawroom : Callee P w K mg base CX0 (1) "_law_room" ["sides"] splawroom) (zsorted : mg "sorted" = none) (zlist : mg "list" = none) (zrange : mg "range" = none) (zlen : mg "len" = none) (ztuple : mg "tuple" = none) : FnOk P w K mg base CX0 (2) f fd ["sides", "doing"] (spbehind) := by
  have sc := sclawbehind
  refine F.ok sc (fun vs H Q E h => ?_) (fun cdv A outer s H vs Q E hr h => ?_)
  · obtain ⟨a, p, ns, d, rfl, _⟩ := h; rfl
  obtain ⟨a, p, ns, d, rfl, ha, sd, nb, hd, q⟩ := h
  refine ⟨_, (z0c (z0m (i := 2) sc.nd rfl (by first | exact Or.inl rfl | exact Or.inr rfl) (z0t z0i (pv 1) z0b (fun _ _ => rfl))) (z0c (z1a (z0j z1m (pv 2) z0z (z0o _)) (z0c (z1a (z0j (op_neL hr.units0) (z0r z5l (by rfl) zsorted boot_sorted (z0a (z0t z0i (pv 1) z0b (fun _ _ => rfl)) z0d)) (z1f (z3v rfl) (by rfl) zlist boot_list (z0a (z1f z4l (by rfl) zrange boot_range (z0a (z0r z0q (by rfl) zlen PySem.boot_len (z0a (pv 0) z0d)) z0d)) z0d)) (z0o _)) (z0f (z0s (z1d (z0a (pv 0) (z0a z0z z0d))))) z0p) (z0f (z0s (z1d (z0a (z1f z1p (by rfl) ztuple boot_tuple (z0a (z3k (own := ["k"]) (fv := ["sides"]) (js := [0]) rfl (z4o (z0t z0i (pv 1) z0b (fun _ _ => rfl))) rfl (by decide) rfl (by decide) (by first | exact fun _ _ h => h | exact z3u rfl | exact z3t rfl rfl | exact z3s rfl rfl rfl) (z5i (by rfl)) rfl (cap1 (by first | exact ⟨rfl, .inl rfl, .inl rfl⟩ | exact ⟨rfl, .inl rfl, .inr rfl⟩)) (fun _ _ _ _ => (z0y (i := 0) (show (["k", "sides"] : List Str).Nodup by decide +kernel) rfl (Or.inl rfl))) (fun _ _ _ _ => (z0t z0i (pv 1) (pv 0) (fun _ _ => rfl)))) z0d)) (z0a z0z z0d)))))) z0p) (z0c (z1a (z0j z1m (pv 2) z0z (z0o _)) (z0c (z1a (z0j (op_neT hr.units0) (z1c z1t (z0t z0i (pv 1) z0b (fun _ _ => rfl)) z1k (z1e (z0r z0q (by rfl) zlen PySem.boot_len (z0a (pv 0) z0d)))) (pv 0) (z0o _)) (z0f (z0s (z1d (z0a (pv 0) (z0a z0z z0d))))) z0p) (z0f (z0s (z1d (z0a (z0t z0i (pv 1) z0b (fun _ _ => rfl)) (z0a z0z z0d)))))) z0p) (z0c (z0m (i := 3) sc.nd rfl (by first | exact Or.inl rfl | exact Or.inr rfl) (z0t z0i (pv 1) z0b (fun _ _ => rfl))) (z0c (z1a (z3i (z0j z3a (pv 3) z0b (z0o _)) (z3i (z0j z4h (pv 3) (z0r z0q (by rfl) zlen PySem.boot_len (z0a (pv 0) z0d)) (z0o _)) (z2u (z2r (z0j z1m (pv 3) (z0r z0q (by rfl) zlen PySem.boot_len (z0a (pv 0) z0d)) (z0o _)) (z2b (z0j op_ne (pv 2) z0z (z0o _)))).pt))).pt (z0f (z0s (z1d (z0a (pv 0) (z0a z0z z0d))))) z0p) (z0c (z1a (z0j z1m (pv 2) z0z (z0o _)) (z0c (z1a (z0j z3a (z0t z0i (pv 1) z0b (fun _ _ => rfl)) z0b (z0o _)) (z0f (z0s (z1d (z0a (pv 0) (z0a z0z z0d))))) z0p) (z0c (z1a (z3i (z0j z1m (z0r z0q (by rfl) zlen PySem.boot_len (z0a (pv 0) z0d)) z0b (z0o _)) (z2u (z0j z3a (z0u clawroom hr (by rfl) z1n (z0a (pv 0) z0d)) (z0t z0i (pv 1) z0b (fun _ _ => rfl)) (z0o _)))).pt (z0f (z0s (z1d (z0a (pv 0) (z0a z0z z0d))))) z0p) (z0f (z0s (z1d (z0a (z0n z1v (z0n z1v (z1c z1t (pv 0) z1k (z1e (pv 3))) (z1d (z0a (z0t z0i (pv 1) z0b (fun _ _ => rfl)) z0d))) (z1c z1t (pv 0) (z1e (pv 3)) z1k)) (z0a z0z z0d))))))) z0p) (z0c (z1a (z0j z1m (pv 2) z0z (z0o _)) (z0f (z0s (z1d (z0a (z0n z1v (z1c z1t (pv 0) z1k (z1e (pv 3))) (z1c z1t (pv 0) (z1e (z0n z1i (pv 3) z0b)) z1k)) (z0a z0z z0d))))) z0p) (z0c (z1a (z0j z1m (pv 2) z0z (z0o _)) (z0f (z0s (z1d (z0a (pv 0) (z0a z0z z0d))))) z0p) (z0c (z1a (z3i (z0j z3a (z0t z0i (pv 1) z0b (fun _ _ => rfl)) z0b (z0o _)) (z3i (z0j z3a (z0t z0i (pv 1) z0b (fun _ _ => rfl)) z0b (z0o _)) (z2u (z0j z3a (z0t z0i (pv 1) z0b (fun _ _ => rfl)) z0b (z0o _))))).pt (z0f (z0s (z1d (z0a (pv 0) (z0a z0z z0d))))) z0p) (z0c (z1a (z2r (z0j z4h (z0t z0i (pv 1) z0b (fun _ _ => rfl)) z0b (z0o _)) (z2b (z0j op_ge (z0n z1i (z0t z0i (pv 1) z0b (fun _ _ => rfl)) (z0n z2h (z0n z2g (z0t z0i (pv 1) z0b (fun _ _ => rfl)) z0b) (z0t z0i (pv 1) z0b (fun _ _ => rfl)))) (z0t z0i (pv 0) (pv 3) (fun _ _ => rfl)) (z0o _)))).pt (z0f (z0s (z1d (z0a (pv 0) (z0a z0z z0d))))) z0p) (z0f (z0s (z1d (z0a (z0n z1v (z0n z1v (z1c z1t (pv 0) z1k (z1e (pv 3))) (z1d (z0a (z0t z0i (pv 1) z0b (fun _ _ => rfl)) z0d))) (z1c z1t (pv 0) (z1e (z0n z1i (pv 3) z0b)) z1k)) (z0a z0z z0d))))))))))))))), ?_⟩
  simp only [L2.start, List.length_cons, List.length_nil, List.replicate, List.cons_append, List.nil_append, Nat.reduceSub, Nat.reduceAdd, List.map_cons, List.map_nil]
  refine z0g (fun σ G => G = H /\ ∃ kd, σ = [some (.ref a), some (.ref p), some (.str kd), none] /\ (match d with | .turn _ => kd = "turn" | .flip _ => kd = "flip" | .cut .. => kd = "cut" | .spread .. => kd = "spread" | .lead _ => kd = "lead" | .inner _ => kd = "inner")) ?_ (fun R hR => ?_)
  rotate_left
  · wp_walk using rRepT, tSeq, tIfS, eqV
    cases d with
    | turn os => obtain ⟨b, hp, _⟩ := hd; exact ⟨_, hp, _, z0h (j := 0) rfl, hR _ _ ⟨rfl, _, rfl, rfl⟩⟩
    | lead os => obtain ⟨b, hp, _⟩ := hd; exact ⟨_, hp, _, z0h (j := 0) rfl, hR _ _ ⟨rfl, _, rfl, rfl⟩⟩
    | flip side => exact ⟨_, hd, _, z0h (j := 0) rfl, hR _ _ ⟨rfl, _, rfl, rfl⟩⟩
    | inner side => exact ⟨_, hd, _, z0h (j := 0) rfl, hR _ _ ⟨rfl, _, rfl, rfl⟩⟩
    | cut side f m g => exact ⟨_, hd.1, _, z0h (j := 0) rfl, hR _ _ ⟨rfl, _, rfl, rfl⟩⟩
    | spread side m => exact ⟨_, hd.1, _, z0h (j := 0) rfl, hR _ _ ⟨rfl, _, rfl, rfl⟩⟩
  rintro σ1 G1 ⟨rfl, kd, rfl, hk⟩
  have l6 : ns.length ≤ 6 := by unfold bigI at nb; omega
  cases d with
  | turn os =>
    cases hk
    obtain ⟨b, hp, hb, ol⟩ := hd
    refine z0g (fun σ G => False) (fun σ G h => h.elim) (fun R hR => ?_)
    clear hR
    wp_walk using rRepT, tSeq, tIfS, eqV
    refine ⟨_, hp, _, z0h (j := 1) rfl, _, rfl, os, .inr hb.sq, by omega, fun ss pm pw l1 hl1 => ⟨_, .inr (.of (z0e hl1 _ _ _ ha)), fun r hr => ⟨ns.length, by rw [z0l]; rfl, by omega, fun l2 hl2 => ?_⟩⟩⟩
    have t1 := z0e hl1 (.lst (ss.map V.int))
    have t2 := t1.trans (z0e hr (.rng 0 (((ns.map V.int).length : Nat) : Int)))
    have t3 := t2.trans (z0e hl2 (.lst ((upL ns.length).map V.int)))
    refine ⟨_, .of (z0e hl2 _ _ _ (z0e hr _ _ _ z0k)), _, .of z0k, z1h _, z1h _, ?_⟩
    rw [z2o]
    by_cases c : ss = upL ns.length
    rotate_left
    · rw [decide_eq_false c, if_pos rfl]
      exact ⟨small (by decide), z3g q t3 (if_neg fun z => c ((z3f pm pw).mpr z))⟩
    have tk := (z3f (n := ns.length) pm pw).mp c
    rw [decide_eq_true c, if_neg (by decide)]
    have ha3 := t3 _ _ ha
    have hb3 := hb.same t3
    have hp3 := t3 _ _ hp
    generalize upd (upd (upd G1 l1 (HO.lst (List.map V.int ss))) r (HO.rng 0 (((ns.map V.int).length : Nat) : Int))) l2 (HO.lst (List.map V.int (upL ns.length))) = H3 at *
    refine ⟨_, hp3, _, z0h (j := 1) rfl, ?_⟩
    refine CompT.mk (xs := os.map V.int) hb3.sq (fun i ys σ H' => H' = H3 /\ i ≤ os.length /\ ys = (turnL ns (os.take i)).map V.int /\ ∃ y, σ = [y, some (.ref a)]) ⟨rfl, Nat.zero_le _, rfl, _, rfl⟩ (fun i ys σ H' _ h => by rw [h.1]; exact hb3.sq) (fun i x ys σ H' e h => ?_) (fun ys σ H' h p1 hp1 => ?_)
    · obtain ⟨rfl, hi, rfl, y, rfl⟩ := h
      obtain ⟨o, rfl, ho⟩ := z2l e
      have il := (List.getElem?_eq_some_iff.mp ho).1
      have om := up_mem.mp (tk.subset (List.mem_of_getElem? ho))
      have e1 : (turnL ns (os.take (i + 1))).map V.int = (turnL ns (os.take i)).map V.int ++ [V.int (ns.getD o.toNat 0)] := by
        unfold turnL; rw [List.take_add_one, ho, List.map_append, List.map_append]; rfl
      have sm : ((turnL ns (os.take i)).map V.int).length < sizeLine := by unfold turnL; rw [List.length_map, List.length_map, List.length_take]; exact z0w (by omega)
      wp_walk using rRepT, tSeq, tIfS, eqV, e1
      exact ⟨sm, _, ha3, _, at_in om.1 om.2, il, rfl, _, rfl⟩
    · obtain ⟨rfl, hi, rfl, y, rfl⟩ := h
      rw [z0l, List.take_length]
      exact ⟨p1, rfl, _, .inl ⟨.of z0k, fun l hl => ⟨small (by decide), z6z q (t3.trans ((z0e hp1 _).trans (z0e hl _))) (if_pos tk) z0k⟩⟩⟩
  | lead ms =>
    cases hk
    obtain ⟨b, hp, hb, ml⟩ := hd
    refine z0g (fun σ G => G = G1 /\ σ = [some (.ref a), some (.ref p), some (.str (Str.ofString "lead")), none]) ?_ (fun R hR => ?_)
    rotate_left
    · wp_walk using rRepT, tSeq, tIfS, eqV
      rw [if_neg (show ¬ Str.ofString "lead" = Str.ofString "turn" by decide +kernel)]
      exact hR _ _ ⟨rfl, rfl⟩
    rintro σ2 G2 ⟨rfl, rfl⟩
    refine z0g (fun σ G => False) (fun σ G h => h.elim) (fun R hR => ?_)
    clear hR
    wp_walk using rRepT, tSeq, tIfS, eqV
    refine ⟨_, hp, _, z0h (j := 1) rfl, _, .inr (.of ha), _, rfl, _, hb, fun r G s hr => ?_⟩
    rw [z0l, z2k] at hr
    refine ⟨_, .of hr, _, .of (s _ _ ha), z1h _, z1h _, ?_⟩
    rw [z2o]
    by_cases c : ms.take ns.length = ns
    · rw [decide_eq_true c, if_neg (by decide)]
      exact ⟨_, s _ _ hp, _, z0h (j := 1) rfl, small (by decide), z6z q s (if_pos c) (s _ _ hb)⟩
    · rw [decide_eq_false c, if_pos rfl]
      exact ⟨small (by decide), z3g q s (if_neg c)⟩
  | flip side =>
    cases hk
    have hp : G1 p = some (.tup [.str (Str.ofString "flip"), .int side]) := hd
    refine z0g (fun σ G => G = G1 /\ σ = [some (.ref a), some (.ref p), some (.str (Str.ofString "flip")), none]) ?_ (fun R hR => ?_)
    rotate_left
    · wp_walk using rRepT, tSeq, tIfS, eqV
      rw [if_neg (show ¬ Str.ofString "flip" = Str.ofString "turn" by decide +kernel)]
      exact hR _ _ ⟨rfl, rfl⟩
    rintro σ2 G2 ⟨rfl, rfl⟩
    refine z0g (fun σ G => G = G2 /\ σ = [some (.ref a), some (.ref p), some (.str (Str.ofString "flip")), none]) ?_ (fun R hR => ?_)
    rotate_left
    · wp_walk using rRepT, tSeq, tIfS, eqV
      rw [if_neg (show ¬ Str.ofString "flip" = Str.ofString "lead" by decide +kernel)]
      exact hR _ _ ⟨rfl, rfl⟩
    rintro σ3 G3 ⟨rfl, rfl⟩
    refine z0g (fun σ G => G = G3 /\ σ = [some (.ref a), some (.ref p), some (.str (Str.ofString "flip")), some (.int side)]) ?_ (fun R hR => ?_)
    rotate_left
    · wp_walk using rRepT, tSeq, tIfS, eqV
      exact ⟨_, hp, _, z0h (j := 1) rfl, hR _ _ ⟨rfl, rfl⟩⟩
    rintro σ4 G4 ⟨rfl, rfl⟩
    refine z0g (fun σ G => G = G4 /\ ¬ off ns side /\ σ = [some (.ref a), some (.ref p), some (.str (Str.ofString "flip")), some (.int side)]) ?_ (fun R hR => ?_)
    rotate_left
    · wp_walk using rRepT, tSeq, tIfS, eqV
      have no : off ns side -> 2 ≤ sizeLine /\ ∀ r, G4 r = none -> Q (V.ref r) (upd G4 r (HO.tup [V.ref a, V.str (Str.ofString "side")])) := fun o => ⟨small (by decide), z3g q (Same.refl _) (if_pos o)⟩
      split
      · rename_i c; exact no (.inl c)
      refine ⟨_, .inr (.of ha), ?_⟩
      rw [z0l]
      split
      · rename_i c; exact no (.inr (by omega))
      refine ⟨_, .inr (.of ha), ?_⟩
      rw [z0l]
      split
      · rename_i c
        rw [if_pos (show ¬ Str.ofString "flip" = Str.ofString "spread" by decide +kernel)]
        exact no (.inr (by omega))
      · exact hR _ _ ⟨rfl, by unfold off; omega, rfl⟩
    rintro σ5 G5 ⟨rfl, no, rfl⟩
    refine z0g (fun σ G => G = G5 /\ σ = [some (.ref a), some (.ref p), some (.str (Str.ofString "flip")), some (.int side)]) ?_ (fun R hR => ?_)
    rotate_left
    · wp_walk using rRepT, tSeq, tIfS, eqV
      rw [if_neg (show ¬ Str.ofString "flip" = Str.ofString "spread" by decide +kernel)]
      exact hR _ _ ⟨rfl, rfl⟩
    rintro σ6 G6 ⟨rfl, rfl⟩
    refine z0g (fun σ G => G = G6 /\ σ = [some (.ref a), some (.ref p), some (.str (Str.ofString "flip")), some (.int side)]) ?_ (fun R hR => ?_)
    rotate_left
    · wp_walk using rRepT, tSeq, tIfS, eqV
      rw [if_neg (show ¬ Str.ofString "flip" = Str.ofString "inner" by decide +kernel)]
      exact hR _ _ ⟨rfl, rfl⟩
    rintro σ7 G7 ⟨rfl, rfl⟩
    refine z0g (fun σ G => False) (fun σ G h => h.elim) (fun R hR => ?_)
    clear hR
    wp_walk using rRepT, tSeq, tIfS, eqV
    exact ⟨small (by decide), z6z q (Same.refl _) (if_neg no) ha⟩
  | inner side =>
    cases hk
    have hp : G1 p = some (.tup [.str (Str.ofString "inner"), .int side]) := hd
    refine z0g (fun σ G => G = G1 /\ σ = [some (.ref a), some (.ref p), some (.str (Str.ofString "inner")), none]) ?_ (fun R hR => ?_)
    rotate_left
    · wp_walk using rRepT, tSeq, tIfS, eqV
      rw [if_neg (show ¬ Str.ofString "inner" = Str.ofString "turn" by decide +kernel)]
      exact hR _ _ ⟨rfl, rfl⟩
    rintro σ2 G2 ⟨rfl, rfl⟩
    refine z0g (fun σ G => G = G2 /\ σ = [some (.ref a), some (.ref p), some (.str (Str.ofString "inner")), none]) ?_ (fun R hR => ?_)
    rotate_left
    · wp_walk using rRepT, tSeq, tIfS, eqV
      rw [if_neg (show ¬ Str.ofString "inner" = Str.ofString "lead" by decide +kernel)]
      exact hR _ _ ⟨rfl, rfl⟩
    rintro σ3 G3 ⟨rfl, rfl⟩
    refine z0g (fun σ G => G = G3 /\ σ = [some (.ref a), some (.ref p), some (.str (Str.ofString "inner")), some (.int side)]) ?_ (fun R hR => ?_)
    rotate_left
    · wp_walk using rRepT, tSeq, tIfS, eqV
      exact ⟨_, hp, _, z0h (j := 1) rfl, hR _ _ ⟨rfl, rfl⟩⟩
    rintro σ4 G4 ⟨rfl, rfl⟩
    refine z0g (fun σ G => G = G4 /\ ¬ off ns side /\ σ = [some (.ref a), some (.ref p), some (.str (Str.ofString "inner")), some (.int side)]) ?_ (fun R hR => ?_)
    rotate_left
    · wp_walk using rRepT, tSeq, tIfS, eqV
      have no : off ns side -> 2 ≤ sizeLine /\ ∀ r, G4 r = none -> Q (V.ref r) (upd G4 r (HO.tup [V.ref a, V.str (Str.ofString "side")])) := fun o => ⟨small (by decide), z3g q (Same.refl _) (if_pos o)⟩
      split
      · rename_i c; exact no (.inl c)
      refine ⟨_, .inr (.of ha), ?_⟩
      rw [z0l]
      split
      · rename_i c; exact no (.inr (by omega))
      refine ⟨_, .inr (.of ha), ?_⟩
      rw [z0l]
      split
      · rename_i c
        rw [if_pos (show ¬ Str.ofString "inner" = Str.ofString "spread" by decide +kernel)]
        exact no (.inr (by omega))
      · exact hR _ _ ⟨rfl, by unfold off; omega, rfl⟩
    rintro σ5 G5 ⟨rfl, no, rfl⟩
    refine z0g (fun σ G => G = G5 /\ σ = [some (.ref a), some (.ref p), some (.str (Str.ofString "inner")), some (.int side)]) ?_ (fun R hR => ?_)
    rotate_left
    · wp_walk using rRepT, tSeq, tIfS, eqV
      rw [if_neg (show ¬ Str.ofString "inner" = Str.ofString "spread" by decide +kernel)]
      exact hR _ _ ⟨rfl, rfl⟩
    rintro σ6 G6 ⟨rfl, rfl⟩
    refine z0g (fun σ G => False) (fun σ G h => h.elim) (fun R hR => ?_)
    clear hR
    wp_walk using rRepT, tSeq, tIfS, eqV
    have nf : fltD ns (.inner side) = none := if_neg no
    obtain ⟨k, rfl, kl⟩ := z2m no
    refine ⟨_, ha, fun r1 K1 s1 h1 => ⟨_, s1 _ _ ha, fun r2 K2 s2 h2 => ?_⟩⟩
    rw [z2k] at h1
    rw [show (k : Int) + 1 = ((k + 1 : Nat) : Int) by omega, z2x] at h2
    refine ⟨_, s2 _ _ h1, _, h2, small (by simp only [List.length_map, List.length_take, List.length_drop]; omega), fun r3 K3 s3 h3 => ⟨small (by decide), z6z q (s1.trans (s2.trans s3)) nf ?_⟩⟩
    rw [h3, ← List.map_append]
    show _ = some (HO.tup (List.map V.int (ns.eraseIdx (k : Int).toNat)))
    rw [Int.toNat_natCast, List.eraseIdx_eq_take_drop_succ]
  | cut side f m g =>
    cases hk
    obtain ⟨hp, hf, hg, m0, m1⟩ := hd
    refine z0g (fun σ G => G = G1 /\ σ = [some (.ref a), some (.ref p), some (.str (Str.ofString "cut")), none]) ?_ (fun R hR => ?_)
    rotate_left
    · wp_walk using rRepT, tSeq, tIfS, eqV
      rw [if_neg (show ¬ Str.ofString "cut" = Str.ofString "turn" by decide +kernel)]
      exact hR _ _ ⟨rfl, rfl⟩
    rintro σ2 G2 ⟨rfl, rfl⟩
    refine z0g (fun σ G => G = G2 /\ σ = [some (.ref a), some (.ref p), some (.str (Str.ofString "cut")), none]) ?_ (fun R hR => ?_)
    rotate_left
    · wp_walk using rRepT, tSeq, tIfS, eqV
      rw [if_neg (show ¬ Str.ofString "cut" = Str.ofString "lead" by decide +kernel)]
      exact hR _ _ ⟨rfl, rfl⟩
    rintro σ3 G3 ⟨rfl, rfl⟩
    refine z0g (fun σ G => G = G3 /\ σ = [some (.ref a), some (.ref p), some (.str (Str.ofString "cut")), some (.int side)]) ?_ (fun R hR => ?_)
    rotate_left
    · wp_walk using rRepT, tSeq, tIfS, eqV
      exact ⟨_, hp, _, z0h (j := 1) rfl, hR _ _ ⟨rfl, rfl⟩⟩
    rintro σ4 G4 ⟨rfl, rfl⟩
    refine z0g (fun σ G => G = G4 /\ ¬ off ns side /\ σ = [some (.ref a), some (.ref p), some (.str (Str.ofString "cut")), some (.int side)]) ?_ (fun R hR => ?_)
    rotate_left
    · wp_walk using rRepT, tSeq, tIfS, eqV
      have no : off ns side -> 2 ≤ sizeLine /\ ∀ r, G4 r = none -> Q (V.ref r) (upd G4 r (HO.tup [V.ref a, V.str (Str.ofString "side")])) := fun o => ⟨small (by decide), z3g q (Same.refl _) (if_pos o)⟩
      split
      · rename_i c; exact no (.inl c)
      refine ⟨_, .inr (.of ha), ?_⟩
      rw [z0l]
      split
      · rename_i c; exact no (.inr (by omega))
      refine ⟨_, .inr (.of ha), ?_⟩
      rw [z0l]
      split
      · rename_i c
        rw [if_pos (show ¬ Str.ofString "cut" = Str.ofString "spread" by decide +kernel)]
        exact no (.inr (by omega))
      · exact hR _ _ ⟨rfl, by unfold off; omega, rfl⟩
    rintro σ5 G5 ⟨rfl, no, rfl⟩
    refine z0g (fun σ G => G = G5 /\ σ = [some (.ref a), some (.ref p), some (.str (Str.ofString "cut")), some (.int side)]) ?_ (fun R hR => ?_)
    rotate_left
    · wp_walk using rRepT, tSeq, tIfS, eqV
      rw [if_neg (show ¬ Str.ofString "cut" = Str.ofString "spread" by decide +kernel)]
      exact hR _ _ ⟨rfl, rfl⟩
    rintro σ6 G6 ⟨rfl, rfl⟩
    refine z0g (fun σ G => G = G6 /\ σ = [some (.ref a), some (.ref p), some (.str (Str.ofString "cut")), some (.int side)]) ?_ (fun R hR => ?_)
    rotate_left
    · wp_walk using rRepT, tSeq, tIfS, eqV
      rw [if_neg (show ¬ Str.ofString "cut" = Str.ofString "inner" by decide +kernel)]
      exact hR _ _ ⟨rfl, rfl⟩
    rintro σ7 G7 ⟨rfl, rfl⟩
    refine z0g (fun σ G => G = G7 /\ σ = [some (.ref a), some (.ref p), some (.str (Str.ofString "cut")), some (.int side)]) ?_ (fun R hR => ?_)
    rotate_left
    · wp_walk using rRepT, tSeq, tIfS, eqV
      rw [if_neg (show ¬ Str.ofString "cut" = Str.ofString "flip" by decide +kernel)]
      exact hR _ _ ⟨rfl, rfl⟩
    rintro σ8 G8 ⟨rfl, rfl⟩
    have bd : bad ns side f m g -> 2 ≤ sizeLine /\ ∀ r, G8 r = none -> Q (V.ref r) (upd G8 r (HO.tup [V.ref a, V.str (Str.ofString "beyond")])) := fun b => ⟨small (by decide), z3g q (Same.refl _) ((if_neg no).trans (if_pos b))⟩
    obtain ⟨k, hk, kl⟩ := z2m no
    refine z0g (fun σ G => G = G8 /\ ¬ f < 0 /\ ¬ m < 0 /\ ¬ g < 1 /\ σ = [some (.ref a), some (.ref p), some (.str (Str.ofString "cut")), some (.int side)]) ?_ (fun R hR => ?_)
    rotate_left
    · wp_walk using rRepT, tSeq, tIfS, eqV
      refine ⟨_, hp, _, z0h (j := 2) rfl, _, rfl, ?_⟩
      by_cases c1 : f < 0
      · rw [if_pos c1]; exact bd (.inl c1)
      rw [if_neg c1]
      refine ⟨_, hp, _, z0h (j := 3) rfl, _, rfl, ?_⟩
      by_cases c2 : m < 0
      · rw [if_pos c2]; exact bd (.inr (.inl c2))
      rw [if_neg c2]
      refine ⟨_, hp, _, z0h (j := 4) rfl, _, rfl, ?_⟩
      by_cases c3 : g < 1
      · rw [if_pos c3]; exact bd (.inr (.inr (.inl c3)))
      rw [if_neg c3]
      exact hR _ _ ⟨rfl, c1, c2, c3, rfl⟩
    rintro σ9 G9 ⟨rfl, c1, c2, c3, rfl⟩
    refine z0g (fun σ G => G = G9 /\ fltD ns (.cut side f m g) = none /\ σ = [some (.ref a), some (.ref p), some (.str (Str.ofString "cut")), some (.int side)]) ?_ (fun R hR => ?_)
    rotate_left
    · wp_walk using rRepT, tSeq, tIfS, eqV
      have nb4 : ¬ (0 < m /\ ns.getD side.toNat 0 ≤ f + (m - 1) * g) -> fltD ns (.cut side f m g) = none := fun z => (if_neg no).trans (if_neg fun b => b.elim c1 fun b => b.elim c2 fun b => b.elim c3 z)
      refine ⟨_, hp, _, z0h (j := 3) rfl, _, rfl, ?_⟩
      by_cases c4 : 0 < m
      · rw [if_pos c4]
        have ea : atI (ns.map V.int) side = some (.int (ns.getD side.toNat 0)) := by rw [hk, Int.toNat_natCast]; exact z3m kl
        refine ⟨_, hp, _, z0h (j := 2) rfl, _, hp, _, z0h (j := 3) rfl, _, rfl, _, hp, _, z0h (j := 4) rfl, _, rfl, .inr ⟨hg.1, hg.2⟩, _, rfl, _, ha, _, ea, _, rfl, ?_⟩
        by_cases c5 : ns.getD side.toNat 0 ≤ f + (m - 1) * g
        · rw [if_pos c5]; exact bd (.inr (.inr (.inr ⟨c4, c5⟩)))
        rw [if_neg c5]
        exact hR _ _ ⟨rfl, nb4 fun z => c5 z.2, rfl⟩
      · rw [if_neg c4]
        exact hR _ _ ⟨rfl, nb4 fun z => c4 z.1, rfl⟩
    rintro σX GX ⟨rfl, nf, rfl⟩
    subst hk
    wp_walk using rRepT, tSeq, tIfS, eqV
    refine ⟨_, ha, fun r1 K1 s1 h1 => ?_⟩
    rw [z2k] at h1
    refine ⟨_, s1 _ _ hp, _, z0h (j := 3) rfl, small (by decide), fun p4 hp4 => ⟨_, z0e hp4 _ _ _ h1, small (by simp only [List.length_map, List.length_take]; omega), fun r2 K2 s2 h2 => ⟨_, (s1.trans ((z0e hp4 _).trans s2)) _ _ ha, fun r3 K3 s3 h3 => ?_⟩⟩⟩
    rw [show (k : Int) + 1 = ((k + 1 : Nat) : Int) by omega, z2x] at h3
    refine ⟨_, s3 _ _ h2, _, h3, small (by simp only [List.length_append, List.length_map, List.length_take, List.length_drop, List.length_cons, List.length_nil]; omega), fun r4 K4 s4 h4 => ⟨small (by decide), z6z q (s1.trans ((z0e hp4 _).trans (s2.trans (s3.trans s4)))) nf ?_⟩⟩
    rw [h4]
    show _ = some (HO.tup (List.map V.int (ns.set (k : Int).toNat m)))
    rw [Int.toNat_natCast, List.set_eq_take_append_cons_drop, if_pos kl, List.map_append, List.append_assoc]; rfl
  | spread side m =>
    cases hk
    obtain ⟨hp, m0, m1⟩ := hd
    refine z0g (fun σ G => G = G1 /\ σ = [some (.ref a), some (.ref p), some (.str (Str.ofString "spread")), none]) ?_ (fun R hR => ?_)
    rotate_left
    · wp_walk using rRepT, tSeq, tIfS, eqV
      rw [if_neg (show ¬ Str.ofString "spread" = Str.ofString "turn" by decide +kernel)]
      exact hR _ _ ⟨rfl, rfl⟩
    rintro σ2 G2 ⟨rfl, rfl⟩
    refine z0g (fun σ G => G = G2 /\ σ = [some (.ref a), some (.ref p), some (.str (Str.ofString "spread")), none]) ?_ (fun R hR => ?_)
    rotate_left
    · wp_walk using rRepT, tSeq, tIfS, eqV
      rw [if_neg (show ¬ Str.ofString "spread" = Str.ofString "lead" by decide +kernel)]
      exact hR _ _ ⟨rfl, rfl⟩
    rintro σ3 G3 ⟨rfl, rfl⟩
    refine z0g (fun σ G => G = G3 /\ σ = [some (.ref a), some (.ref p), some (.str (Str.ofString "spread")), some (.int side)]) ?_ (fun R hR => ?_)
    rotate_left
    · wp_walk using rRepT, tSeq, tIfS, eqV
      exact ⟨_, hp, _, z0h (j := 1) rfl, hR _ _ ⟨rfl, rfl⟩⟩
    rintro σ4 G4 ⟨rfl, rfl⟩
    refine z0g (fun σ G => G = G4 /\ ¬ off1 ns side /\ σ = [some (.ref a), some (.ref p), some (.str (Str.ofString "spread")), some (.int side)]) ?_ (fun R hR => ?_)
    rotate_left
    · wp_walk using rRepT, tSeq, tIfS, eqV
      have no : off1 ns side -> 2 ≤ sizeLine /\ ∀ r, G4 r = none -> Q (V.ref r) (upd G4 r (HO.tup [V.ref a, V.str (Str.ofString "side")])) := fun o => ⟨small (by decide), z3g q (Same.refl _) (if_pos o)⟩
      split
      · rename_i c; exact no (.inl c)
      refine ⟨_, .inr (.of ha), ?_⟩
      rw [z0l]
      split
      · rename_i c; exact no (.inr (by omega))
      refine ⟨_, .inr (.of ha), ?_⟩
      rw [z0l]
      split
      · exact hR _ _ ⟨rfl, by unfold off1; omega, rfl⟩
      · exact hR _ _ ⟨rfl, by unfold off1; omega, rfl⟩
    rintro σ5 G5 ⟨rfl, no, rfl⟩
    refine z0g (fun σ G => False) (fun σ G h => h.elim) (fun R hR => ?_)
    clear hR
    wp_walk using rRepT, tSeq, tIfS, eqV, splawroom
    refine ⟨_, hp, _, z0h (j := 2) rfl, _, rfl, ?_⟩
    by_cases c : m < 0
    · rw [if_pos c]; exact ⟨small (by decide), z3g q (Same.refl _) ((if_neg no).trans (if_pos c))⟩
    rw [if_neg c]
    obtain ⟨k, hk⟩ : ∃ k : Nat, side = k := ⟨side.toNat, by unfold off1 at no; omega⟩
    have kl : k ≤ ns.length := by unfold off1 at no; omega
    have bi := big_ins (k := side.toNat) l6 sd nb (show 0 ≤ m by omega)
    have lg : bigI (insL ns side.toNat m) -> 2 ≤ sizeLine /\ ∀ r, G5 r = none -> Q (V.ref r) (upd G5 r (HO.tup [V.ref a, V.str (Str.ofString "large")])) := fun b => ⟨small (by decide), z3g q (Same.refl _) ((if_neg no).trans ((if_neg c).trans (if_pos b)))⟩
    refine ⟨_, .inr (.of ha), ?_⟩
    rw [z0l]
    by_cases c6 : (ns.length : Int) = 6
    · rw [if_pos c6]; exact lg (bi.mpr (.inl (by omega)))
    rw [if_neg c6]
    refine ⟨ns, ha, sd, _, hp, _, z0h (j := 2) rfl, _, rfl, ?_⟩
    by_cases cr : roomI ns < m
    · rw [if_pos cr]; exact lg (bi.mpr (.inr cr))
    rw [if_neg cr]
    have nf : fltD ns (.spread side m) = none := (if_neg no).trans ((if_neg c).trans (if_neg fun b => (bi.mp b).elim (fun z => c6 (by omega)) cr))
    subst hk
    refine ⟨_, ha, fun r1 K1 s1 h1 => ?_⟩
    rw [z2k] at h1
    refine ⟨_, s1 _ _ hp, _, z0h (j := 2) rfl, small (by decide), fun p4 hp4 => ⟨_, z0e hp4 _ _ _ h1, small (by simp only [List.length_map, List.length_take]; omega), fun r2 K2 s2 h2 => ⟨_, (s1.trans ((z0e hp4 _).trans s2)) _ _ ha, fun r3 K3 s3 h3 => ?_⟩⟩⟩
    rw [z2x] at h3
    refine ⟨_, s3 _ _ h2, _, h3, small (by simp only [List.length_append, List.length_map, List.length_take, List.length_drop, List.length_cons, List.length_nil]; omega), fun r4 K4 s4 h4 => ⟨small (by decide), z6z q (s1.trans ((z0e hp4 _).trans (s2.trans (s3.trans s4)))) nf ?_⟩⟩
    rw [h4]
    show _ = some (HO.tup (List.map V.int (insL ns (k : Int).toNat m)))
    rw [Int.toNat_natCast]
    unfold insL
    rw [List.map_append, List.map_append]; rfl
abbrev slawviewed : Stmt := top 60
theorem sclawviewed : FnScope ["view", "doing"] ["view", "doing"] (defScope slawviewed) := ⟨rfl, rfl, rfl, by decide +kernel, rfl, by decide +kernel, by decide +kernel⟩
theorem oklawviewed (F : Fun K "_law_viewed" "_law_viewed" slawviewed f fd) {CNoSide : Addr} (nNoSide : PySem.W.nsIn K mainGlobals "NoSide" = some (some (.ref CNoSide))) {CBeyond : Addr} (nBeyond : PySem.W.nsIn K mainGlobals "Beyond" = some (some (.ref CBeyond))) {CTooLarge : Addr} (nTooLarge : PySem.W.nsIn K mainGlobals "TooLarge" = some (some (.ref CTooLarge))) {CUnlike : Addr} (nUnlike : PySem.W.nsIn K mainGlobals "Unlike" = some (some (.ref CUnlike))) (cturnedview : Callee P w K mg base (CX1 P w) (5) "turned_view" ["view", "order"] (spvturn CNoSide)) (cledview : Callee P w K mg base (CX1 P w) (5) "led_view" ["view", "sides"] (spvled CUnlike)) (cspreadview : Callee P w K mg base (CX1 P w) (5) "spread_view" ["view", "side", "many"] (spvspread CNoSide CBeyond CTooLarge)) (ccutview : Callee P w K mg base (CX1 P w) (5) "cut_view" ["view", "side", "first", "many", "step"] (spvcut CNoSide CBeyond)) (cflippedview : Callee P w K mg base (CX1 P w) (5) "flipped_view" ["view", "side"] (spvflip CNoSide)) : FnOk P w K mg base CX0 (6) f fd ["view", "doing"] (splviewed) := by
  have sc := sclawviewed
  refine F.ok sc (fun vs H Q E h => ?_) (fun cdv A outer s H vs Q E hr h => ?_)
  · obtain ⟨v, p, ns, ss, st, d, rfl, _⟩ := h; rfl
  obtain ⟨v, p, ns, ss, st, d, rfl, vw, vo, hd, nf, ni, q⟩ := h
  refine ⟨_, (z0c (z1a (z0j z1m (z0t z0i (pv 1) z0b (fun _ _ => rfl)) z0z (z0o _)) (z0f (z0s (z0u cturnedview hr (by rfl) z2s (z0a (pv 0) (z0a (z0t z0i (pv 1) z0b (fun _ _ => rfl)) z0d))))) z0p) (z0c (z1a (z0j z1m (z0t z0i (pv 1) z0b (fun _ _ => rfl)) z0z (z0o _)) (z0f (z0s (z0u cledview hr (by rfl) z2s (z0a (pv 0) (z0a (z0t z0i (pv 1) z0b (fun _ _ => rfl)) z0d))))) z0p) (z0c (z1a (z0j z1m (z0t z0i (pv 1) z0b (fun _ _ => rfl)) z0z (z0o _)) (z0f (z0s (z0u cspreadview hr (by rfl) z2s (z0a (pv 0) (z0a (z0t z0i (pv 1) z0b (fun _ _ => rfl)) (z0a (z0t z0i (pv 1) z0b (fun _ _ => rfl)) z0d)))))) z0p) (z0c (z1a (z0j z1m (z0t z0i (pv 1) z0b (fun _ _ => rfl)) z0z (z0o _)) (z0f (z0s (z0u ccutview hr (by rfl) z2s (z0a (pv 0) (z0a (z0t z0i (pv 1) z0b (fun _ _ => rfl)) (z0a (z0t z0i (pv 1) z0b (fun _ _ => rfl)) (z0a (z0t z0i (pv 1) z0b (fun _ _ => rfl)) (z0a (z0t z0i (pv 1) z0b (fun _ _ => rfl)) z0d)))))))) z0p) (z0f (z0s (z0u cflippedview hr (by rfl) z2s (z0a (pv 0) (z0a (z0t z0i (pv 1) z0b (fun _ _ => rfl)) z0d))))))))), ?_⟩
  simp only [L2.start, List.length_cons, List.length_nil, List.replicate, List.cons_append, List.nil_append, Nat.reduceSub, Nat.reduceAdd, List.map_cons, List.map_nil]
  wp_walk using rRepT, tSeq, tIfS, eqV, spvturn, spvled, spvspread, spvcut, spvflip
  cases d with
  | turn os =>
    obtain ⟨b, hp, hb, ol⟩ := hd
    have tk := z4r nf
    refine ⟨_, hp, _, z0h (j := 0) rfl, rfl, ?_⟩
    rw [if_pos rfl]
    exact ⟨_, hp, _, z0h (j := 1) rfl, _, rfl, ns, ss, os, st, vw, vo, hb, by omega, fun nt => absurd tk nt, fun _ => q⟩
  | lead ms =>
    obtain ⟨b, hp, hb, ml⟩ := hd
    have tk := z4c nf
    refine ⟨_, hp, _, z0h (j := 0) rfl, rfl, ?_⟩
    rw [if_neg (show ¬ V.str (Str.ofString "lead") = V.str (Str.ofString "turn") from fun z => absurd (V.str.inj z) (by decide +kernel))]
    refine ⟨_, hp, _, z0h (j := 0) rfl, rfl, ?_⟩
    rw [if_pos rfl]
    exact ⟨_, hp, _, z0h (j := 1) rfl, _, rfl, ns, ss, ms, st, vw, vo, hb, ml, fun nt => absurd tk nt, fun _ => q⟩
  | spread side m =>
    obtain ⟨hp, m0, m1⟩ := hd
    obtain ⟨n1, n2, n3⟩ := z4b nf
    refine ⟨_, hp, _, z0h (j := 0) rfl, rfl, ?_⟩
    rw [if_neg (show ¬ V.str (Str.ofString "spread") = V.str (Str.ofString "turn") from fun z => absurd (V.str.inj z) (by decide +kernel))]
    refine ⟨_, hp, _, z0h (j := 0) rfl, rfl, ?_⟩
    rw [if_neg (show ¬ V.str (Str.ofString "spread") = V.str (Str.ofString "lead") from fun z => absurd (V.str.inj z) (by decide +kernel))]
    refine ⟨_, hp, _, z0h (j := 0) rfl, rfl, ?_⟩
    rw [if_pos rfl]
    exact ⟨_, hp, _, z0h (j := 1) rfl, _, hp, _, z0h (j := 2) rfl, ns, ss, st, side, rfl, m, rfl, vw, vo, m1, fun o => absurd o n1, fun _ o => absurd o n2, fun _ _ o => absurd o n3, fun _ _ _ => q⟩
  | cut side f m g =>
    obtain ⟨hp, hf, hg, m0, m1⟩ := hd
    obtain ⟨n1, n2⟩ := flt_cut nf
    refine ⟨_, hp, _, z0h (j := 0) rfl, rfl, ?_⟩
    rw [if_neg (show ¬ V.str (Str.ofString "cut") = V.str (Str.ofString "turn") from fun z => absurd (V.str.inj z) (by decide +kernel))]
    refine ⟨_, hp, _, z0h (j := 0) rfl, rfl, ?_⟩
    rw [if_neg (show ¬ V.str (Str.ofString "cut") = V.str (Str.ofString "lead") from fun z => absurd (V.str.inj z) (by decide +kernel))]
    refine ⟨_, hp, _, z0h (j := 0) rfl, rfl, ?_⟩
    rw [if_neg (show ¬ V.str (Str.ofString "cut") = V.str (Str.ofString "spread") from fun z => absurd (V.str.inj z) (by decide +kernel))]
    refine ⟨_, hp, _, z0h (j := 0) rfl, rfl, ?_⟩
    rw [if_pos rfl]
    exact ⟨_, hp, _, z0h (j := 1) rfl, _, hp, _, z0h (j := 2) rfl, _, hp, _, z0h (j := 3) rfl, _, hp, _, z0h (j := 4) rfl, ns, ss, st, side, rfl, f, rfl, m, rfl, g, rfl, vw, vo, hf, hg, m0, by omega, fun o => absurd o n1, fun _ o => absurd o n2, fun _ _ => q⟩
  | flip side =>
    have hp : H p = some (.tup [.str (Str.ofString "flip"), .int side]) := hd
    have n1 := flt_flip nf
    refine ⟨_, hp, _, z0h (j := 0) rfl, rfl, ?_⟩
    rw [if_neg (show ¬ V.str (Str.ofString "flip") = V.str (Str.ofString "turn") from fun z => absurd (V.str.inj z) (by decide +kernel))]
    refine ⟨_, hp, _, z0h (j := 0) rfl, rfl, ?_⟩
    rw [if_neg (show ¬ V.str (Str.ofString "flip") = V.str (Str.ofString "lead") from fun z => absurd (V.str.inj z) (by decide +kernel))]
    refine ⟨_, hp, _, z0h (j := 0) rfl, rfl, ?_⟩
    rw [if_neg (show ¬ V.str (Str.ofString "flip") = V.str (Str.ofString "spread") from fun z => absurd (V.str.inj z) (by decide +kernel))]
    refine ⟨_, hp, _, z0h (j := 0) rfl, rfl, ?_⟩
    rw [if_neg (show ¬ V.str (Str.ofString "flip") = V.str (Str.ofString "cut") from fun z => absurd (V.str.inj z) (by decide +kernel))]
    exact ⟨_, hp, _, z0h (j := 1) rfl, ns, ss, st, side, rfl, vw, vo, fun o => absurd o n1, fun _ => q⟩
  | inner side => exact absurd rfl (ni side)
abbrev slawmoved : Stmt := top 61
theorem sclawmoved : FnScope ["tab", "doing"] ["tab", "doing"] (defScope slawmoved) := ⟨rfl, rfl, rfl, by decide +kernel, rfl, by decide +kernel, by decide +kernel⟩
theorem oklawmoved (F : Fun K "_law_moved" "_law_moved" slawmoved f fd) {CNoSide : Addr} (nNoSide : PySem.W.nsIn K mainGlobals "NoSide" = some (some (.ref CNoSide))) {CBeyond : Addr} (nBeyond : PySem.W.nsIn K mainGlobals "Beyond" = some (some (.ref CBeyond))) {CTooLarge : Addr} (nTooLarge : PySem.W.nsIn K mainGlobals "TooLarge" = some (some (.ref CTooLarge))) {CUnlike : Addr} (nUnlike : PySem.W.nsIn K mainGlobals "Unlike" = some (some (.ref CUnlike))) (cturn : Callee P w K mg base (CX1 P w) (8) "turn" ["tab", "order"] (spturnT TT CNoSide)) (clead : Callee P w K mg base (CX1 P w) (8) "lead" ["tab", "sides"] (spleadT TL CUnlike)) (cspread : Callee P w K mg base (CX1 P w) (8) "spread" ["tab", "side", "many"] (spspreadT TS CNoSide CBeyond CTooLarge)) (ccut : Callee P w K mg base (CX1 P w) (8) "cut" ["tab", "side", "first", "many", "step"] (spcutT TU CNoSide CBeyond)) (cflip : Callee P w K mg base (CX1 P w) (8) "flip" ["tab", "side"] (spflipT TP CNoSide)) (nd6 : ((T6 TT TP TU TS TL TV).map fun x => x.1).Nodup) : FnOk P w K mg base CX0 (9) f fd ["tab", "doing"] ((splmoved TT TP TU TS TL TV)) := by
  have sc := sclawmoved
  refine F.ok sc (fun vs H Q E h => ?_) (fun cdv A outer s H vs Q E hr h => ?_)
  · obtain ⟨t, p, ns, cs, d, rfl, _⟩ := h; rfl
  obtain ⟨t, p, ns, cs, d, rfl, tb, hd, nf, ni, hf, hf2, cl, hT, q⟩ := h
  refine ⟨_, (z0c (z1a (z0j z1m (z0t z0i (pv 1) z0b (fun _ _ => rfl)) z0z (z0o _)) (z0f (z0s (z0u cturn hr (by rfl) z2s (z0a (pv 0) (z0a (z0t z0i (pv 1) z0b (fun _ _ => rfl)) z0d))))) z0p) (z0c (z1a (z0j z1m (z0t z0i (pv 1) z0b (fun _ _ => rfl)) z0z (z0o _)) (z0f (z0s (z0u clead hr (by rfl) z2s (z0a (pv 0) (z0a (z0t z0i (pv 1) z0b (fun _ _ => rfl)) z0d))))) z0p) (z0c (z1a (z0j z1m (z0t z0i (pv 1) z0b (fun _ _ => rfl)) z0z (z0o _)) (z0f (z0s (z0u cspread hr (by rfl) z2s (z0a (pv 0) (z0a (z0t z0i (pv 1) z0b (fun _ _ => rfl)) (z0a (z0t z0i (pv 1) z0b (fun _ _ => rfl)) z0d)))))) z0p) (z0c (z1a (z0j z1m (z0t z0i (pv 1) z0b (fun _ _ => rfl)) z0z (z0o _)) (z0f (z0s (z0u ccut hr (by rfl) z2s (z0a (pv 0) (z0a (z0t z0i (pv 1) z0b (fun _ _ => rfl)) (z0a (z0t z0i (pv 1) z0b (fun _ _ => rfl)) (z0a (z0t z0i (pv 1) z0b (fun _ _ => rfl)) (z0a (z0t z0i (pv 1) z0b (fun _ _ => rfl)) z0d)))))))) z0p) (z0f (z0s (z0u cflip hr (by rfl) z2s (z0a (pv 0) (z0a (z0t z0i (pv 1) z0b (fun _ _ => rfl)) z0d))))))))), ?_⟩
  simp only [L2.start, List.length_cons, List.length_nil, List.replicate, List.cons_append, List.nil_append, Nat.reduceSub, Nat.reduceAdd, List.map_cons, List.map_nil]
  have hm := fit_sm hf
  have sd := z2y hf
  have l6 := hf.2.1
  have p5 := hf.2.2.2
  have sd2 := z2y hf2
  wp_walk using rRepT, tSeq, tIfS, eqV, spturnT, spleadT, spspreadT, spcutT, spflipT
  cases d with
  | turn os =>
    obtain ⟨b, hp, hb, ol⟩ := hd
    have tk := z4r nf
    have em : movC ns cs (turnL ns os) (oldT os) = movC ns cs (turnL ns os) (fun A => backD ns (turnL ns os) A (.turn os)) := mov_cong sd2 fun A g => by
      have al := g.1
      have tl : (turnL ns os).length = ns.length := by unfold turnL; rw [List.length_map, z5n tk]
      have al : A.length = ns.length := al.trans tl
      show _ = putL (rep0 ns.length) os (A.take (turnL ns os).length) ++ A.drop (turnL ns os).length
      rw [tl, List.take_of_length_le (by omega), List.drop_eq_nil_of_le (by omega), List.append_nil, put_old tk al]
    refine ⟨_, hp, _, z0h (j := 0) rfl, rfl, ?_⟩
    rw [if_pos rfl]
    exact ⟨_, hp, _, z0h (j := 1) rfl, _, rfl, ns, cs, tb, os, hb, hm, by omega, by omega, p5, cl, hT _ (by unfold T6; exact List.mem_cons_of_mem _ (List.mem_cons_of_mem _ (List.mem_cons_self))), fun nt => absurd tk nt, fun _ => fun H1 p1 s1 tt1 tb1 => q H1 p1 (hT.smT (by unfold T6; exact List.mem_cons_of_mem _ (List.mem_cons_of_mem _ (List.mem_cons_self))) s1) (hT.step nd6 (by unfold T6; exact List.mem_cons_of_mem _ (List.mem_cons_of_mem _ (List.mem_cons_self))) s1 tt1) (by rw [em] at tb1; exact tb1)⟩
  | lead ms =>
    obtain ⟨b, hp, hb, ml⟩ := hd
    have tk := z4c nf
    have em : ledL ns cs ms = movC ns cs ms (fun A => backD ns ms A (.lead ms)) := by
      unfold ledL movC
      refine List.map_congr_left fun i hi => ?_
      have il := List.mem_range.mp hi
      have g := z2p (ns := ms) (p := (i : Int)) sd2 (Int.natCast_nonneg i) (by omega)
      unfold ledV
      show _ = cs.getD (plH ns ((atD ms (i : Int)).take ns.length ++ (atD ms (i : Int)).drop ms.length)).toNat 0
      rw [List.drop_eq_nil_of_le (by rw [g.1]; exact Nat.le_refl _), List.append_nil]
    refine ⟨_, hp, _, z0h (j := 0) rfl, rfl, ?_⟩
    rw [if_neg (show ¬ V.str (Str.ofString "lead") = V.str (Str.ofString "turn") from fun z => absurd (V.str.inj z) (by decide +kernel))]
    refine ⟨_, hp, _, z0h (j := 0) rfl, rfl, ?_⟩
    rw [if_pos rfl]
    exact ⟨_, hp, _, z0h (j := 1) rfl, _, rfl, ns, cs, tb, ms, hb, sd, sd2, by omega, by omega, cl, fit_prod hf2, hT _ (by unfold T6; exact List.mem_cons_of_mem _ (List.mem_cons_self)), fun nt => absurd tk nt, fun _ => fun H1 p1 s1 tt1 tb1 => q H1 p1 (hT.smT (by unfold T6; exact List.mem_cons_of_mem _ (List.mem_cons_self)) s1) (hT.step nd6 (by unfold T6; exact List.mem_cons_of_mem _ (List.mem_cons_self)) s1 tt1) (by rw [em] at tb1; exact tb1)⟩
  | spread side m =>
    obtain ⟨hp, m0, m1⟩ := hd
    obtain ⟨n1, n2, n3⟩ := z4b nf
    refine ⟨_, hp, _, z0h (j := 0) rfl, rfl, ?_⟩
    rw [if_neg (show ¬ V.str (Str.ofString "spread") = V.str (Str.ofString "turn") from fun z => absurd (V.str.inj z) (by decide +kernel))]
    refine ⟨_, hp, _, z0h (j := 0) rfl, rfl, ?_⟩
    rw [if_neg (show ¬ V.str (Str.ofString "spread") = V.str (Str.ofString "lead") from fun z => absurd (V.str.inj z) (by decide +kernel))]
    refine ⟨_, hp, _, z0h (j := 0) rfl, rfl, ?_⟩
    rw [if_pos rfl]
    exact ⟨_, hp, _, z0h (j := 1) rfl, _, hp, _, z0h (j := 2) rfl, ns, cs, side, rfl, m, rfl, tb, sd, by omega, cl, m1, hT _ (by unfold T6; exact List.mem_cons_of_mem _ (List.mem_cons_of_mem _ (List.mem_cons_of_mem _ (List.mem_cons_of_mem _ (List.mem_cons_of_mem _ (List.mem_cons_self)))))), fun o => absurd o n1, fun _ o => absurd o n2, fun _ _ o => absurd o n3, fun _ _ _ => fun H1 p1 s1 tt1 tb1 => q H1 p1 (hT.smT (by unfold T6; exact List.mem_cons_of_mem _ (List.mem_cons_of_mem _ (List.mem_cons_of_mem _ (List.mem_cons_of_mem _ (List.mem_cons_of_mem _ (List.mem_cons_self)))))) s1) (hT.step nd6 (by unfold T6; exact List.mem_cons_of_mem _ (List.mem_cons_of_mem _ (List.mem_cons_of_mem _ (List.mem_cons_of_mem _ (List.mem_cons_of_mem _ (List.mem_cons_self)))))) s1 tt1) (by exact tb1)⟩
  | cut side f m g =>
    obtain ⟨hp, hf', hg, m0, m1⟩ := hd
    obtain ⟨n1, n2⟩ := flt_cut nf
    refine ⟨_, hp, _, z0h (j := 0) rfl, rfl, ?_⟩
    rw [if_neg (show ¬ V.str (Str.ofString "cut") = V.str (Str.ofString "turn") from fun z => absurd (V.str.inj z) (by decide +kernel))]
    refine ⟨_, hp, _, z0h (j := 0) rfl, rfl, ?_⟩
    rw [if_neg (show ¬ V.str (Str.ofString "cut") = V.str (Str.ofString "lead") from fun z => absurd (V.str.inj z) (by decide +kernel))]
    refine ⟨_, hp, _, z0h (j := 0) rfl, rfl, ?_⟩
    rw [if_neg (show ¬ V.str (Str.ofString "cut") = V.str (Str.ofString "spread") from fun z => absurd (V.str.inj z) (by decide +kernel))]
    refine ⟨_, hp, _, z0h (j := 0) rfl, rfl, ?_⟩
    rw [if_pos rfl]
    exact ⟨_, hp, _, z0h (j := 1) rfl, _, hp, _, z0h (j := 2) rfl, _, hp, _, z0h (j := 3) rfl, _, hp, _, z0h (j := 4) rfl, ns, cs, side, rfl, f, rfl, m, rfl, g, rfl, tb, hm, by omega, p5, cl, m0, by omega, hT _ (by unfold T6; exact List.mem_cons_of_mem _ (List.mem_cons_of_mem _ (List.mem_cons_of_mem _ (List.mem_cons_of_mem _ (List.mem_cons_self))))), fun o => absurd o n1, fun _ o => absurd o n2, fun _ _ => fun H1 p1 s1 tt1 tb1 => q H1 p1 (hT.smT (by unfold T6; exact List.mem_cons_of_mem _ (List.mem_cons_of_mem _ (List.mem_cons_of_mem _ (List.mem_cons_of_mem _ (List.mem_cons_self))))) s1) (hT.step nd6 (by unfold T6; exact List.mem_cons_of_mem _ (List.mem_cons_of_mem _ (List.mem_cons_of_mem _ (List.mem_cons_of_mem _ (List.mem_cons_self))))) s1 tt1) (by exact tb1)⟩
  | flip side =>
    have hp : H p = some (.tup [.str (Str.ofString "flip"), .int side]) := hd
    have n1 := flt_flip nf
    refine ⟨_, hp, _, z0h (j := 0) rfl, rfl, ?_⟩
    rw [if_neg (show ¬ V.str (Str.ofString "flip") = V.str (Str.ofString "turn") from fun z => absurd (V.str.inj z) (by decide +kernel))]
    refine ⟨_, hp, _, z0h (j := 0) rfl, rfl, ?_⟩
    rw [if_neg (show ¬ V.str (Str.ofString "flip") = V.str (Str.ofString "lead") from fun z => absurd (V.str.inj z) (by decide +kernel))]
    refine ⟨_, hp, _, z0h (j := 0) rfl, rfl, ?_⟩
    rw [if_neg (show ¬ V.str (Str.ofString "flip") = V.str (Str.ofString "spread") from fun z => absurd (V.str.inj z) (by decide +kernel))]
    refine ⟨_, hp, _, z0h (j := 0) rfl, rfl, ?_⟩
    rw [if_neg (show ¬ V.str (Str.ofString "flip") = V.str (Str.ofString "cut") from fun z => absurd (V.str.inj z) (by decide +kernel))]
    exact ⟨_, hp, _, z0h (j := 1) rfl, ns, cs, side, rfl, tb, hm, by omega, p5, cl, hT _ (by unfold T6; exact List.mem_cons_of_mem _ (List.mem_cons_of_mem _ (List.mem_cons_of_mem _ (List.mem_cons_self)))), fun o => absurd o n1, fun _ => fun H1 p1 s1 tt1 tb1 => q H1 p1 (hT.smT (by unfold T6; exact List.mem_cons_of_mem _ (List.mem_cons_of_mem _ (List.mem_cons_of_mem _ (List.mem_cons_self)))) s1) (hT.step nd6 (by unfold T6; exact List.mem_cons_of_mem _ (List.mem_cons_of_mem _ (List.mem_cons_of_mem _ (List.mem_cons_self)))) s1 tt1) (by exact tb1)⟩
  | inner side => exact absurd rfl (ni side)
abbrev slawsmall : Stmt := top 62
def splawsmall : Sp := fun vs H Q _ => ∃ (a : Addr) (ns : List Int), vs = [.ref a] /\ H a = some (.tup (ns.map V.int)) /\ sdOk ns /\ Q (.bl (decide (0 < prodI ns /\ prodI ns ≤ 24))) H
theorem sclawsmall : FnScope ["sides", "size", "side"] ["sides"] (defScope slawsmall) := ⟨rfl, rfl, rfl, by decide +kernel, rfl, by decide +kernel, by decide +kernel⟩
theorem oklawsmall (F : Fun K "_law_small" "_law_small" slawsmall f fd) : FnOk P w K mg base CX0 (1) f fd ["sides"] (splawsmall) := by
  have sc := sclawsmall
  refine F.ok sc (fun vs H Q E h => ?_) (fun cdv A outer s H vs Q E hr h => ?_)
  · obtain ⟨a, ns, rfl, _⟩ := h; rfl
  obtain ⟨a, ns, rfl, ha, sd, q⟩ := h
  refine ⟨_, (z0c (z0m (i := 1) sc.nd rfl (by first | exact Or.inl rfl | exact Or.inr rfl) z0b) (z0c (z2v PassesOwn.never rfl (z4o (pv 0)) (z0y (i := 2) sc.nd rfl (Or.inl rfl)) (z0f (z0m (i := 1) sc.nd rfl (by first | exact Or.inl rfl | exact Or.inr rfl) (z0n z2h (pv 1) (pv 2))))) (z0f (z0s (pe_chain z3a op_le z0b (pv 1) z0b))))), ?_⟩
  simp only [L2.start, List.length_cons, List.length_nil, List.replicate, List.cons_append, List.nil_append, Nat.reduceSub, Nat.reduceAdd, List.map_cons, List.map_nil]
  wp_walk using rRepT, tSeq, tIfS, eqV
  refine LoopT.mk (xs := ns.map V.int) (.of ha) (fun i σ G => G = H /\ ∃ y, σ = [some (.ref a), some (.int (prodI (ns.take i))), y]) ⟨rfl, _, rfl⟩ (fun i σ G _ h => by rw [h.1]; exact .of ha) (fun i x σ G e h => ?_) (fun σ G h => ?_)
  · obtain ⟨rfl, y, rfl⟩ := h
    obtain ⟨m, rfl, hm, b0, b1⟩ := z6n sd e
    have e1 : prodI (ns.take (i + 1)) = prodI (ns.take i) * m := by rw [List.take_add_one, hm]; exact z3z _ _
    wp_walk using rRepT, tSeq, tIfS, eqV, e1
    exact ⟨.inr ⟨by omega, by omega⟩, _, rfl⟩
  · obtain ⟨rfl, y, rfl⟩ := h
    rw [z0l, List.take_length]
    wp_walk using rRepT, tSeq, tIfS, eqV
    by_cases c : 0 < prodI ns
    · rw [if_pos c]
      have e : decide (prodI ns ≤ 24) = decide (0 < prodI ns /\ prodI ns ≤ 24) := by simp [c]
      rw [e]; exact q
    · rw [if_neg c]
      have e : false = decide (0 < prodI ns /\ prodI ns ≤ 24) := by simp [c]
      rw [e]; exact q
abbrev slawshows : Stmt := top 63
theorem sclawshows : FnScope ["view", "cells", "tab", "handed", "found", "one", "other"] ["view", "cells", "tab"] (defScope slawshows) := ⟨rfl, rfl, rfl, by decide +kernel, rfl, by decide +kernel, by decide +kernel⟩
theorem oklawshows (F : Fun K "_law_shows" "_law_shows" slawshows f fd) {CBeyond : Addr} (nBeyond : PySem.W.nsIn K mainGlobals "Beyond" = some (some (.ref CBeyond))) (cseenthrough : Callee P w K mg base (CX1 P w) (8) "seen_through" ["view", "cells"] (spseenT TV CBeyond)) (zlist : mg "list" = none) (zisinstance : mg "isinstance" = none) (ztuple : mg "tuple" = none) (zlen : mg "len" = none) (zzip : mg "zip" = none) (zint : mg "int" = none) (zbool : mg "bool" = none) (nd6 : ((T6 TT TP TU TS TL TV).map fun x => x.1).Nodup) : FnOk P w K mg base CX0 (9) f fd ["view", "cells", "tab"] ((splshows TT TP TU TS TL TV)) := by
  have sc := sclawshows
  refine F.ok sc (fun vs H Q E h => ?_) (fun cdv A outer s H vs Q E hr h => ?_)
  · obtain ⟨v, c, t, ns, ss, c0, st, rfl, _⟩ := h; rfl
  obtain ⟨v, c, t, ns, ss, c0, st, rfl, vw, hc, tb, hf, sl, ir, hT, q⟩ := h
  refine ⟨_, (z0c (z0m (i := 3) sc.nd rfl (by first | exact Or.inl rfl | exact Or.inr rfl) (z1f z5m (by rfl) zlist boot_list (z0a (pv 1) z0d))) (z0c (z0m (i := 4) sc.nd rfl (by first | exact Or.inl rfl | exact Or.inr rfl) (z0u cseenthrough hr (by rfl) z2s (z0a (pv 0) (z0a (pv 3) z0d)))) (z0c (z1a (z3i (z0j (op_neL hr.units0) (pv 3) (z1f z5m (by rfl) zlist boot_list (z0a (pv 1) z0d)) (z0o _)) (z3i (pt_not (z6c (z0r z5e (by rfl) zisinstance boot_isinstance (z0a (pv 4) (z0a (z6f (v := .ty "tuple") (by rfl) ztuple boot_tuple rfl) z0d))))) (z2u (z0j op_ne (z0r z0q (by rfl) zlen PySem.boot_len (z0a (pv 4) z0d)) z0b (z0o _))))).pt (z0f (z0s pe_bl)) z0p) (z0c (z1a (z3i (pt_not (z6c (z0r z5e (by rfl) zisinstance boot_isinstance (z0a (z0t z0i (pv 4) z0b (fun _ _ => rfl)) (z0a (z6f (v := .ty "tuple") (by rfl) ztuple boot_tuple rfl) z0d))))) (z2u (z0j op_ne (z0r z0q (by rfl) zlen PySem.boot_len (z0a (z0t z0i (pv 4) z0b (fun _ _ => rfl)) z0d)) (z0r z0q (by rfl) zlen PySem.boot_len (z0a (z0t z0i (pv 2) z0b (fun _ _ => rfl)) z0d)) (z0o _)))).pt (z0f (z0s pe_bl)) z0p) (z0c (z2v PassesOwn.never rfl (z7a (by rfl) zzip (z0a (z0t z0i (pv 4) z0b (fun _ _ => rfl)) (z0a (z0t z0i (pv 2) z0b (fun _ _ => rfl)) z0d))) (z4g (n := 2) (z6e rfl (z1x (z0y (i := 5) sc.nd rfl (Or.inl rfl)) (z1x (z0y (i := 6) sc.nd rfl (Or.inl rfl)) z4f)))) (z0f (z1a (z3i (pt_not (z6c (z0r call_isiS (by rfl) zisinstance boot_isinstance (z0a (pv 5) (z0a (z6f (v := .ty "int") (by rfl) zint boot_int rfl) z0d))))) (z3i (z6c (z0r call_isiS (by rfl) zisinstance boot_isinstance (z0a (pv 5) (z0a (z6f (v := .ty "bool") (by rfl) zbool boot_bool rfl) z0d)))) (z2u (z0j op_ne (pv 5) (pv 6) (z0o _))))).pt (z0f (z0s pe_bl)) z0p))) (z0f (z0s (pe_and (z0r z5e (by rfl) zisinstance boot_isinstance (z0a (z0t z0i (pv 4) z0b (fun _ _ => rfl)) (z0a (z6f (v := .ty "tuple") (by rfl) ztuple boot_tuple rfl) z0d))) (pe_and (pe_cmpR (op_eqT hr.units0) (z0t z0i (pv 4) z0b (fun _ _ => rfl)) (z0t z0i (pv 2) z0b (fun _ _ => rfl)) (z0o _)) (pe_one (pe_cmpR (op_eqD (hu20 hr)) (z0u cseenthrough hr (by rfl) z2s (z0a (pv 0) (z0a (z1f z1p (by rfl) ztuple boot_tuple (z0a (pv 1) z0d)) z0d))) (pv 4) (z0o _)))))))))))), ?_⟩
  simp only [L2.start, List.length_cons, List.length_nil, List.replicate, List.cons_append, List.nil_append, Nat.reduceSub, Nat.reduceAdd, List.map_cons, List.map_nil]
  have hm := fit_sm hf
  have sd := z2y hf
  have n6 := hf.2.1
  have p5 := fit_prod hf
  have no := inR_out (fun n hn => (sd n hn).1) ir sl
  refine z0g (fun σ G => ∃ h, Same H G /\ G h = some (.lst (c0.map V.int)) /\ σ = [some (.ref v), some (.ref c), some (.ref t), some (.ref h), none, none, none]) ?_ (fun R hR => ?_)
  rotate_left
  · wp_walk using rRepT, tSeq, tIfS, eqV
    exact ⟨_, .inr (.of hc), fun l hl => hR _ _ ⟨l, z0e hl _, z0k, rfl⟩⟩
  rintro σ1 G1 ⟨h, s1, hh, rfl⟩
  refine z0g (fun σ G => ∃ f, SmT G1 G /\ TabsL (T6 TT TP TU TS TL TV) G /\ TbAt G f ns (seeC ns st ss c0) /\ σ = [some (.ref v), some (.ref c), some (.ref t), some (.ref h), some (.ref f), none, none]) ?_ (fun R hR => ?_)
  rotate_left
  · wp_walk using rRepT, tSeq, tIfS, eqV, spseenT
    exact ⟨ns, ss, c0, st, vw.same s1, .inl hh, hm, by omega, sl, p5, (hT.same s1) _ (by unfold T6; exact List.mem_cons_self), fun o => absurd o no, fun _ G p s t tb' => hR _ _ ⟨p, (hT.same s1).smT (by unfold T6; exact List.mem_cons_self) s, (hT.same s1).step nd6 (by unfold T6; exact List.mem_cons_self) s t, tb', rfl⟩⟩
  rintro σ2 G2 ⟨f, s2, t2, tf, rfl⟩
  have u2 := (SmT.of s1).trans s2
  have hc2 := u2.tup hc
  have hh2 := s2.lst hh
  have tb2 := u2.tb tb
  obtain ⟨fa, fb, f1, f2, f3⟩ := id tf
  refine z0g (fun σ G => Same G2 G /\ σ = [some (.ref v), some (.ref c), some (.ref t), some (.ref h), some (.ref f), none, none]) ?_ (fun R hR => ?_)
  rotate_left
  · wp_walk using rRepT, tSeq, tIfS, eqV
    refine ⟨_, .inr (.of hc2), fun l hl => ⟨_, .of (z0e hl _ _ _ hh2), _, .of z0k, z1h _, z1h _, ?_⟩⟩
    rw [z2o, decide_eq_true rfl, if_neg (by decide)]
    refine ⟨_, z0e hl _ _ _ f1, _, .inr (.of (z0e hl _ _ _ f1)), ?_⟩
    rw [if_neg (fun z => z rfl)]
    exact hR _ _ ⟨z0e hl _, rfl⟩
  rintro σ3 G3 ⟨s3, rfl⟩
  replace f1 := s3 _ _ f1
  replace f2 := s3 _ _ f2
  replace f3 := s3 _ _ f3
  obtain ⟨ta, tc, g1, g2, g3⟩ := tb2.same s3
  refine z0g (fun σ G => G = G3 /\ σ = [some (.ref v), some (.ref c), some (.ref t), some (.ref h), some (.ref f), none, none]) ?_ (fun R hR => ?_)
  rotate_left
  · wp_walk using rRepT, tSeq, tIfS, eqV
    refine ⟨_, f1, _, z0h (j := 1) rfl, _, rfl, _, f3, _, f1, _, z0h (j := 1) rfl, _, rfl, _, .inr (.of f3), _, g1, _, z0h (j := 1) rfl, _, rfl, _, .inr (.of g3), ?_⟩
    rw [if_neg (fun z => z rfl)]
    exact hR _ _ ⟨rfl, rfl⟩
  rintro σ4 G4 ⟨rfl, rfl⟩
  refine z0g (fun σ G => ∃ y5 y6, Same G4 G /\ σ = [some (.ref v), some (.ref c), some (.ref t), some (.ref h), some (.ref f), y5, y6]) ?_ (fun R hR => ?_)
  rotate_left
  · wp_walk using rRepT, tSeq, tIfS, eqV
    refine ⟨_, f1, _, z0h (j := 1) rfl, _, g1, _, z0h (j := 1) rfl, ?_⟩
    refine LoopZ.mk (xs := (seeC ns st ss c0).map V.int) (ys := (seeC ns st ss c0).map V.int) (seeC ns st ss c0).length (by rw [z0l, Nat.min_self]) (.of f3) (.of g3) (fun i σ H' => ∃ y5 y6, Same G4 H' /\ σ = [some (.ref v), some (.ref c), some (.ref t), some (.ref h), some (.ref f), y5, y6]) ⟨_, _, Same.refl _, rfl⟩ (fun i σ H' _ ⟨_, _, s, _⟩ => ⟨.of (s _ _ f3), .of (s _ _ g3)⟩) (fun i x y σ H' T hi ex ey h hT => ?_) (fun σ H' h => ?_)
    · obtain ⟨y5, y6, sH, rfl⟩ := h
      rw [ex] at ey
      cases ey
      obtain ⟨n, rfl, hn⟩ := z2l ex
      wp_walk using rRepT, tSeq, tIfS, eqV
      exact ⟨sH.trans (z0e hT _), _, rfl⟩
    · obtain ⟨y5, y6, sH, rfl⟩ := h
      exact hR _ _ ⟨_, _, sH, rfl⟩
  rintro σ5 G5 ⟨y5, y6, s5, rfl⟩
  have u5 := u2.trans (.of (s3.trans s5))
  have t5 := t2.same (s3.trans s5)
  wp_walk using rRepT, tSeq, tIfS, eqV, spseenT
  refine ⟨_, s5 _ _ f1, _, z0h (j := 0) rfl, _, rfl, _, s5 _ _ f2, ?_⟩
  refine ⟨_, s5 _ _ f1, _, z0h (j := 0) rfl, _, s5 _ _ g1, _, z0h (j := 0) rfl, _, rfl, _, rfl, _, .of (s5 _ _ f2), _, .of (s5 _ _ g2), z1h _, z1h _, ?_⟩
  rw [z2o, decide_eq_true rfl, if_pos rfl]
  have hc5 := u5.tup hc
  refine ⟨c0.map V.int, .inr ⟨.of hc5, ns, ss, c0, st, u5.vw vw, .inr hc5, hm, by omega, sl, p5, t5 _ (by unfold T6; exact List.mem_cons_self), fun o => absurd o no, fun _ G p s tt1 tb' => ?_⟩⟩
  exact ⟨⟨_, rfl⟩, alk_tb tb' ((t5.smT (by unfold T6; exact List.mem_cons_self) s).tb (tf.same (s3.trans s5))), q _ (u5.trans (t5.smT (by unfold T6; exact List.mem_cons_self) s)) (t5.step nd6 (by unfold T6; exact List.mem_cons_self) s tt1)⟩
abbrev slaw : Stmt := top 64
theorem sclaw : FnScope ["script", "row", "sides", "size", "side", "tab", "cells", "view", "done", "last", "one", "doing", "behind", "word"] ["script"] (defScope slaw) := ⟨rfl, rfl, rfl, by decide +kernel, rfl, by decide +kernel, by decide +kernel⟩
theorem oklaw (F : Fun K "law" "law" slaw f fd) {CTooLarge : Addr} (nTooLarge : PySem.W.nsIn K mainGlobals "TooLarge" = some (some (.ref CTooLarge))) {CUnlike : Addr} (nUnlike : PySem.W.nsIn K mainGlobals "Unlike" = some (some (.ref CUnlike))) (clawsides : Callee P w K mg base CX0 (10) "_law_sides" ["row", "room"] splawsides) (ctableof : Callee P w K mg base (CX1 P w) (10) "table_of" ["sides", "cells"] (sptableof CTooLarge CUnlike)) (cplainview : Callee P w K mg base CX0 (10) "plain_view" ["sides"] spplainview) (clawdoing : Callee P w K mg base CX0 (10) "_law_doing" ["sides", "one", "kinds"] splawdoing) (clawbehind : Callee P w K mg base CX0 (10) "_law_behind" ["sides", "doing"] spbehind) (clawsmall : Callee P w K mg base CX0 (10) "_law_small" ["sides"] splawsmall) (clawviewed : Callee P w K mg base CX0 (10) "_law_viewed" ["view", "doing"] splviewed) (clawmoved : Callee P w K mg base CX0 (10) "_law_moved" ["tab", "doing"] (splmoved TT TP TU TS TL TV)) (clawshows : Callee P w K mg base CX0 (10) "_law_shows" ["view", "cells", "tab"] (splshows TT TP TU TS TL TV)) (ztuple : mg "tuple" = none) (zmax : mg "max" = none) (zlen : mg "len" = none) (zrange : mg "range" = none) (nd6 : ((T6 TT TP TU TS TL TV).map fun x => x.1).Nodup) : FnOk P w K mg base CX0 (11) f fd ["script"] ((splawT K [TV, TL, TT, TP, TU, TS])) := by
  have sc := sclaw
  refine F.ok sc (fun vs H Q E h => ?_) (fun cdv A outer s H vs Q E hr h => ?_)
  · obtain ⟨a, ns, rfl, _⟩ := h; rfl
  obtain ⟨a, xs, rfl, hS, h63, hT, q⟩ := h
  refine ⟨_, (z0c (z0m (i := 1) sc.nd rfl (by first | exact Or.inl rfl | exact Or.inr rfl) (z0n op_catL (pv 0) (pe_lst (z0a z0b z0d)))) (z0c (z0m (i := 2) sc.nd rfl (by first | exact Or.inl rfl | exact Or.inr rfl) (z1c z1t (z1f z1p (by rfl) ztuple boot_tuple (z0a (z3j (own := ["side"]) rfl (z4o (z0u clawsides hr (by rfl) z1n (z0a (z1c sl_list (pv 0) (z1e z0b) (z1e z0b)) (z0a z0b z0d)))) (by decide) (by decide) rfl (by decide) (fun _ _ _ _ => (z0y (i := 0) (show (["side"] : List Str).Nodup by decide +kernel) rfl (Or.inl rfl))) (fun _ _ _ _ => (z0r (z3d rfl) (by rfl) zmax boot_max (z0a z0b (z0a (pv 0) z0d))))) z0d)) z1k (z1e (z0n z1q (z0t z5p (pv 1) z0b (fun _ _ => rfl)) z0b)))) (z0c (z0m (i := 3) sc.nd rfl (by first | exact Or.inl rfl | exact Or.inr rfl) z0b) (z0c (z2v PassesOwn.never rfl (z4o (pv 2)) (z0y (i := 4) sc.nd rfl (Or.inl rfl)) (z0f (z0m (i := 3) sc.nd rfl (by first | exact Or.inl rfl | exact Or.inr rfl) (z0n z2h (pv 3) (pv 4))))) (z0c (z0m (i := 5) sc.nd rfl (by first | exact Or.inl rfl | exact Or.inr rfl) (z0u ctableof hr (by rfl) z2s (z0a (pv 2) (z0a (z3k (own := ["k"]) (fv := ["row"]) (js := [1]) rfl (z3r (by rfl) zrange (z0a (pv 3) z0d)) rfl (by decide) rfl (by decide) (by first | exact fun _ _ h => h | exact z3u rfl | exact z3t rfl rfl | exact z3s rfl rfl rfl) (z5i (by rfl)) rfl (cap1 (by first | exact ⟨rfl, .inl rfl, .inl rfl⟩ | exact ⟨rfl, .inl rfl, .inr rfl⟩)) (fun _ _ _ _ => (z0y (i := 0) (show (["k", "row"] : List Str).Nodup by decide +kernel) rfl (Or.inl rfl))) (fun _ _ _ _ => (z0n z1i (z0t z5p (pv 1) (z0n z2d (pv 0) (z0r (call_lenK (K := K) rfl) (by rfl) zlen PySem.boot_len (z0a (pv 1) z0d))) (fun _ _ => rfl)) (z0n z2w (pv 0) (z0r (call_lenK (K := K) rfl) (by rfl) zlen PySem.boot_len (z0a (pv 1) z0d)))))) z0d)))) (z0c (z0m (i := 6) sc.nd rfl (by first | exact Or.inl rfl | exact Or.inr rfl) (z0t z0i (pv 5) z0b (fun _ _ => rfl))) (z0c (z0m (i := 7) sc.nd rfl (by first | exact Or.inl rfl | exact Or.inr rfl) (z0u cplainview hr (by rfl) z1n (z0a (pv 2) z0d))) (z0c (z0m (i := 8) sc.nd rfl (by first | exact Or.inl rfl | exact Or.inr rfl) z0b) (z0c (z0m (i := 9) sc.nd rfl (by first | exact Or.inl rfl | exact Or.inr rfl) (z1d (z0a z0z (z0a (z6p z4d z0b) z0d)))) (z0c (z2v PassesOwn.never rfl (z4e (pv 0)) (z0y (i := 10) sc.nd rfl (Or.inl rfl)) (z0c (z0m (i := 11) sc.nd rfl (by first | exact Or.inl rfl | exact Or.inr rfl) (z0u clawdoing hr (by rfl) z1n (z0a (pv 2) (z0a (pv 10) (z0a z0b z0d))))) (z0c (ps_asg (z0u clawbehind hr (by rfl) z1n (z0a (pv 2) (z0a (pv 11) z0d))) (z4g (n := 2) (z6e rfl (z1x (z0y (i := 12) sc.nd rfl (Or.inl rfl)) (z1x (z0y (i := 13) sc.nd rfl (Or.inl rfl)) z4f))))) (z0c (z1a (z0j z1m (pv 13) z0z (z0o _)) (z0f (z0m (i := 9) sc.nd rfl (by first | exact Or.inl rfl | exact Or.inr rfl) (pv 11))) z0p) (z0f (z1a (z2r (z0j z1m (pv 13) z0z (z0o _)) (z2b (z6c (z0u clawsmall hr (by rfl) z1n (z0a (pv 12) z0d))))).pt (z0c (z0m (i := 7) sc.nd rfl (by first | exact Or.inl rfl | exact Or.inr rfl) (z0u clawviewed hr (by rfl) z1n (z0a (pv 7) (z0a (pv 11) z0d)))) (z0c (z0m (i := 5) sc.nd rfl (by first | exact Or.inl rfl | exact Or.inr rfl) (z0u clawmoved hr (by rfl) z1n (z0a (pv 5) (z0a (pv 11) z0d)))) (z0c (z0m (i := 2) sc.nd rfl (by first | exact Or.inl rfl | exact Or.inr rfl) (pv 12)) (z0c (z0m (i := 8) sc.nd rfl (by first | exact Or.inl rfl | exact Or.inr rfl) (z0n z1i (pv 8) z0b)) (z0f (z1a (z3i (z0j (op_neT hr.units0) (z0t z0i (pv 5) z0b (fun _ _ => rfl)) (pv 2) (z0o _)) (z2u (z2r (z0j z1m (z0n z1q (pv 8) z0b) z0b (z0o _)) (z2b (pt_not (z6c (z0u clawshows hr (by rfl) z1n (z0a (pv 7) (z0a (pv 6) (z0a (pv 5) z0d)))))))).pt)).pt (z0f (z0s pe_bl)) z0p)))))) z0p)))))) (z0c (z1a (pt_not (z6c (z0u clawshows hr (by rfl) z1n (z0a (pv 7) (z0a (pv 6) (z0a (pv 5) z0d)))))) (z0f (z0s pe_bl)) z0p) (z0c (z1a (z0j z1m (z0t z0i (z0u clawbehind hr (by rfl) z1n (z0a (pv 2) (z0a (pv 9) z0d))) z0b (fun _ _ => rfl)) z0z (z0o _)) (z0f (z0s (z0u clawshows hr (by rfl) z1n (z0a (z0u clawviewed hr (by rfl) z1n (z0a (pv 7) (z0a (pv 9) z0d))) (z0a (pv 6) (z0a (z0u clawmoved hr (by rfl) z1n (z0a (pv 5) (z0a (pv 9) z0d))) z0d)))))) z0p) (z0f (z0s pe_bl)))))))))))))), ?_⟩
  simp only [L2.start, List.length_cons, List.length_nil, List.replicate, List.cons_append, List.nil_append, Nat.reduceSub, Nat.reduceAdd, List.map_cons, List.map_nil]
  have tt : TabsL (T6 TT TP TU TS TL TV) H := fun x hx => by
    refine ⟨#[], hT x.1 ?_, trivial, .inl rfl⟩
    have : (x.1 : Addr) ∈ (T6 TT TP TU TS TL TV).map (fun x => x.1) := List.mem_map.mpr ⟨x, hx, rfl⟩
    exact this
  refine z0g (fun σ G => ∃ rw_, Same H G /\ G rw_ = some (.lst ((xs ++ [4]).map V.int)) /\ σ = [some (.ref a), some (.ref rw_), none, none, none, none, none, none, none, none, none, none, none, none]) ?_ (fun R hR => ?_)
  rotate_left
  · wp_walk using rRepT, tSeq, tIfS, eqV
    exact ⟨small (by decide), fun p hp => ⟨_, (z0e hp _).seq hS, _, .of z0k, small (by simp only [List.length_map, List.length_cons, List.length_nil]; omega), fun p1 hp1 => hR _ _ ⟨p1, (z0e hp _).trans (z0e hp1 _), by rw [z0k, List.map_append]; rfl, rfl⟩⟩⟩
  rintro σ1 G1 ⟨rw_, s1, hrw, rfl⟩
  obtain ⟨N, hN, nl⟩ : ∃ N : List Int, N = xs ++ [4] /\ N.length = xs.length + 1 := ⟨_, rfl, by rw [List.length_append]; rfl⟩
  rw [← hN] at hrw
  clear hN
  refine z0g (fun σ G => ∃ sa ms, Same H G /\ Same G1 G /\ G sa = some (.tup (ms.map V.int)) /\ fit1 ms /\ σ = [some (.ref a), some (.ref rw_), some (.ref sa), none, none, none, none, none, none, none, none, none, none, none]) ?_ (fun R hR => ?_)
  rotate_left
  · wp_walk using rRepT, tSeq, tIfS, eqV, rSlL, splawsides
    refine ⟨_, s1.seq hS, fun l hl => ?_⟩
    obtain ⟨us, e, ul⟩ := cut14 xs
    rw [e]
    refine ⟨us, rfl, ul, fun G2 p ys s2 hf _ xl hp => ?_⟩
    refine CompT.mk (xs := ys.map V.int) (.of hp) (fun i zs σ G' => G' = G2 /\ zs = ((ys.map one1).take i).map V.int /\ i ≤ ys.length /\ ∃ y, σ = [y]) ⟨rfl, rfl, Nat.zero_le _, _, rfl⟩ (fun i zs σ G' _ h => by rw [h.1]; exact .of hp) (fun i x zs σ G' ex h => ?_) (fun zs σ G' h p1 hp1 => ?_)
    · obtain ⟨rfl, rfl, hi, y, rfl⟩ := h
      obtain ⟨n, rfl, hn⟩ := z2l ex
      have il := (List.getElem?_eq_some_iff.mp hn).1
      have n0 := (hf.1 n (List.mem_of_getElem? hn)).1
      have e1 : ((ys.map one1).take (i + 1)).map V.int = ((ys.map one1).take i).map V.int ++ [V.int (one1 n)] := by rw [List.take_add_one, List.getElem?_map, hn, List.map_append]; rfl
      have sm : (((ys.map one1).take i).map V.int).length < sizeLine := by rw [List.length_map, List.length_take, List.length_map]; exact z0w (by omega)
      refine ⟨sm, ?_⟩
      wp_walk using rRepT, tSeq, tIfS, eqV, one1_max n0
      exact ⟨e1.symm, il, _, rfl⟩
    · obtain ⟨rfl, rfl, hi, y, rfl⟩ := h
      rw [z0l, List.take_of_length_le (by rw [List.length_map]; exact Nat.le_refl _)]
      refine ⟨p1, rfl, _, .inl ⟨.of z0k, fun t ht => ?_⟩⟩
      have u := (z0e hl (.lst (us.map V.int))).trans (s2.trans ((z0e hp1 (.lst ((ys.map one1).map V.int))).trans (z0e ht (.tup ((ys.map one1).map V.int)))))
      refine ⟨_, u _ _ hrw, _, z3m (k := 0) (by omega), _, rfl, fun r G s h => ?_⟩
      obtain ⟨j, hj⟩ : ∃ j : Nat, N.getD 0 0 % (5 : Int) = (j : Int) := ⟨(N.getD 0 0 % (5 : Int)).toNat, by omega⟩
      rw [hj, z2k] at h
      exact hR _ _ ⟨r, _, s1.trans (u.trans s), u.trans s, h, fit1_take (fit1_map hf) j, rfl⟩
  rintro σ2 G2 ⟨sa, ms, s2, s12, hsa, hf1, rfl⟩
  have hft := hf1.1
  have sd := z2y hft
  have m6 := hft.2.1
  replace hrw := s12 _ _ hrw
  refine z0g (fun σ G => G = G2 /\ σ = [some (.ref a), some (.ref rw_), some (.ref sa), some (.int 1), none, none, none, none, none, none, none, none, none, none]) ?_ (fun R hR => ?_)
  rotate_left
  · wp_walk using rRepT, tSeq, tIfS, eqV
    exact hR _ _ ⟨rfl, rfl⟩
  rintro σ3 G3 ⟨rfl, rfl⟩
  refine z0g (fun σ G => G = G3 /\ ∃ y4, σ = [some (.ref a), some (.ref rw_), some (.ref sa), some (.int (prodI ms)), y4, none, none, none, none, none, none, none, none, none]) ?_ (fun R hR => ?_)
  rotate_left
  · wp_walk using rRepT, tSeq, tIfS, eqV
    refine LoopT.mk (xs := ms.map V.int) (.of hsa) (fun i σ G => G = G3 /\ ∃ y4, σ = [some (.ref a), some (.ref rw_), some (.ref sa), some (.int (prodI (ms.take i))), y4, none, none, none, none, none, none, none, none, none]) ⟨rfl, _, rfl⟩ (fun i σ G _ h => by rw [h.1]; exact .of hsa) (fun i x σ G e h => ?_) (fun σ G h => ?_)
    · obtain ⟨rfl, y, rfl⟩ := h
      obtain ⟨m, rfl, hm, b0, b1⟩ := z6n sd e
      have e1 : prodI (ms.take (i + 1)) = prodI (ms.take i) * m := by rw [List.take_add_one, hm]; exact z3z _ _
      wp_walk using rRepT, tSeq, tIfS, eqV, e1
      exact ⟨.inr ⟨by omega, by omega⟩, _, rfl⟩
    · obtain ⟨rfl, y, rfl⟩ := h
      rw [z0l, List.take_length]
      exact hR _ _ ⟨rfl, _, rfl⟩
  rintro σ4 G4 ⟨rfl, y4, rfl⟩
  have pn := z4y fun n hn => (sd n hn).1
  have p5 := fit_prod hft
  refine z0g (fun σ G => ∃ (ta : Addr) (c0 : List Int), Same G4 G /\ TbAt G ta ms c0 /\ (c0.length : Int) = prodI ms /\ σ = [some (.ref a), some (.ref rw_), some (.ref sa), some (.int (prodI ms)), y4, some (.ref ta), none, none, none, none, none, none, none, none]) ?_ (fun R hR => ?_)
  rotate_left
  · wp_walk using rRepT, tSeq, tIfS, eqV, sptableof
    refine ⟨by omega, by omega, ?_⟩
    refine CompR.mk (fun j ys σ G => G = G4 /\ (∃ L : List Int, ys = L.map V.int /\ L.length = j) /\ ∃ y, σ = [y, some (.ref rw_)]) ⟨rfl, ⟨[], rfl, rfl⟩, _, rfl⟩ (fun j ys σ G hj h => ?_) (fun ys σ G h l hl => ?_)
    · obtain ⟨rfl, ⟨L, rfl, Ll⟩, y, rfl⟩ := h
      refine ⟨by rw [z0l, Ll]; exact z0w (by omega), ?_⟩
      wp_walk using rRepT, tSeq, tIfS, eqV
      have m0 := Int.fmod_nonneg_of_pos (0 + (j : Int)) (show (0 : Int) < N.length by omega)
      have m1 := Int.fmod_lt_of_pos (0 + (j : Int)) (show (0 : Int) < N.length by omega)
      refine ⟨_, .inl (.of hrw), by rw [z0l]; omega, _, hrw, ?_⟩
      rw [z0l]
      refine ⟨_, at_int m0 (z1o (to_lt m0 m1)), ?_⟩
      exact ⟨_, .inl (.of hrw), by rw [z0l]; omega, by rw [z0l]; omega, by rw [z0l]; omega, _, rfl, ⟨L ++ [_], by rw [List.map_append]; rfl, by rw [List.length_append, Ll]; rfl⟩, _, rfl⟩
    · obtain ⟨rfl, ⟨L, rfl, Ll⟩, y, rfl⟩ := h
      exact ⟨l, rfl, ms, z0e hl _ _ _ hsa, L, .inl z0k, sd, by omega, by omega, fun b => absurd b (z5r hft), fun _ z => absurd (by omega) z, fun _ _ G p s tb => hR _ _ ⟨p, _, (z0e hl _).trans s, tb, by rw [List.length_map]; omega, rfl⟩⟩
  rintro σ5 G5 ⟨ta, c0, s5, htb, cl, rfl⟩
  obtain ⟨tsa, ca, tb1, tb2, hca⟩ := id htb
  refine z0g (fun σ G => G = G5 /\ σ = [some (.ref a), some (.ref rw_), some (.ref sa), some (.int (prodI ms)), y4, some (.ref ta), some (.ref ca), none, none, none, none, none, none, none]) ?_ (fun R hR => ?_)
  rotate_left
  · wp_walk using rRepT, tSeq, tIfS, eqV
    exact ⟨_, tb1, _, z0h (j := 1) rfl, hR _ _ ⟨rfl, rfl⟩⟩
  rintro σ6 G6 ⟨rfl, rfl⟩
  refine z0g (fun σ G => ∃ va, Same G6 G /\ VwAt G va ms 0 (stL ms ms.length).reverse /\ σ = [some (.ref a), some (.ref rw_), some (.ref sa), some (.int (prodI ms)), y4, some (.ref ta), some (.ref ca), some (.ref va), none, none, none, none, none, none]) ?_ (fun R hR => ?_)
  rotate_left
  · wp_walk using rRepT, tSeq, tIfS, eqV, spplainview
    exact ⟨ms, s5 _ _ hsa, sd, by omega, fun G v tv s h1 h2 => hR _ _ ⟨v, s, ⟨sa, tv, h1, s _ _ (s5 _ _ hsa), h2⟩, rfl⟩⟩
  rintro σ7 G7 ⟨va, s7, hva, rfl⟩
  refine z0g (fun σ G => G = G7 /\ σ = [some (.ref a), some (.ref rw_), some (.ref sa), some (.int (prodI ms)), y4, some (.ref ta), some (.ref ca), some (.ref va), some (.int 0), none, none, none, none, none]) ?_ (fun R hR => ?_)
  rotate_left
  · wp_walk using rRepT, tSeq, tIfS, eqV
    exact hR _ _ ⟨rfl, rfl⟩
  rintro σ8 G8 ⟨rfl, rfl⟩
  refine z0g (fun σ G => ∃ lp, Same G8 G /\ DgAt G lp (.flip (-1)) /\ σ = [some (.ref a), some (.ref rw_), some (.ref sa), some (.int (prodI ms)), y4, some (.ref ta), some (.ref ca), some (.ref va), some (.int 0), some (.ref lp), none, none, none, none]) ?_ (fun R hR => ?_)
  rotate_left
  · wp_walk using rRepT, tSeq, tIfS, eqV
    exact ⟨small (by decide), fun p hp => hR _ _ ⟨p, z0e hp _, z0k, rfl⟩⟩
  rintro σ9 G9 ⟨lp, s9, hlp, rfl⟩
  have t9 := s2.trans (s5.trans (s7.trans s9))
  have stl : (stL ms ms.length).reverse.length = ms.length := by rw [List.length_reverse]; unfold stL; rw [List.length_map, List.length_range]
  have eC : seeC ms 0 (stL ms ms.length).reverse c0 = c0 := by
    have z := list_of (cs := c0) (n := (prodI ms).toNat) (by omega)
    conv => rhs; rw [← z]
    unfold seeC
    refine List.map_congr_left fun i hi => ?_
    have il := List.mem_range.mp hi
    have e := plH_at (p := (i : Int)) sd (Int.natCast_nonneg i) (by omega)
    show c0.getD (0 + plH ms (atD ms (i : Int))).toNat 0 = _
    rw [e, Int.zero_add, Int.toNat_natCast]
  have ir0 : inR ms 0 (stL ms ms.length).reverse c0.length := fun A g => by
    have p := plH_in g
    show 0 ≤ 0 + plH ms A /\ 0 + plH ms A < _
    omega
  refine z0g (fun σ G => ∃ (sa ta va lp : Addr) (dn : Int) (ns ss : List Int) (st : Int) (ld : Dg) (y10 y11 y12 y13 : Option V), SmT H G /\ TabsL (T6 TT TP TU TS TL TV) G /\ G ca = some (.tup (c0.map V.int)) /\ G sa = some (.tup (ns.map V.int)) /\ VwAt G va ns st ss /\ TbAt G ta ns (seeC ns st ss c0) /\ DgAt G lp ld /\ lastOk ld /\ fit ns /\ ss.length = ns.length /\ inR ns st ss c0.length /\ σ = [some (.ref a), some (.ref rw_), some (.ref sa), some (.int (prodI ms)), y4, some (.ref ta), some (.ref ca), some (.ref va), some (.int dn), some (.ref lp), y10, y11, y12, y13]) ?_ (fun R hR => ?_)
  rotate_left
  · wp_walk using rRepT, eqV
    obtain ⟨J, hJ⟩ : ∃ J : Nat -> L2.St -> Hp -> Prop, J = (fun i σ G => ∃ (sa ta va lp : Addr) (dn : Int) (ns ss : List Int) (st : Int) (ld : Dg) (y10 y11 y12 y13 : Option V), SmT H G /\ TabsL (T6 TT TP TU TS TL TV) G /\ G ca = some (.tup (c0.map V.int)) /\ G sa = some (.tup (ns.map V.int)) /\ VwAt G va ns st ss /\ TbAt G ta ns (seeC ns st ss c0) /\ DgAt G lp ld /\ lastOk ld /\ fit ns /\ ss.length = ns.length /\ inR ns st ss c0.length /\ σ = [some (.ref a), some (.ref rw_), some (.ref sa), some (.int (prodI ms)), y4, some (.ref ta), some (.ref ca), some (.ref va), some (.int dn), some (.ref lp), y10, y11, y12, y13]) := ⟨_, rfl⟩
    have htb0 : TbAt G9 ta ms (seeC ms 0 (stL ms ms.length).reverse c0) := by rw [eC]; exact htb.same (s7.trans s9)
    refine LoopL.mk (xs := xs.map V.int) (t9.seq hS) J (by rw [hJ]; exact ⟨sa, ta, va, lp, 0, ms, (stL ms ms.length).reverse, 0, .flip (-1), _, _, _, _, SmT.of t9, tt.same t9, (s7.trans s9) _ _ hca, (s5.trans (s7.trans s9)) _ _ hsa, hva.same s9, htb0, hlp, last_flip _, hft, stl, ir0, rfl⟩) (fun i σ G _ h => by rw [hJ] at h; obtain ⟨_, _, _, _, _, _, _, _, _, _, _, _, _, sG, _⟩ := h; exact sG.seq hS) (fun i x σ G0 ex h => ?_) (fun σ G h => by rw [hJ] at h; exact hR _ _ h)
    clear hR
    rw [hJ] at h
    obtain ⟨sa, ta, va, lp, dn, ns, ss, st, ld, y10, y11, y12, y13, sG, tG, hca, hsa, hva, htb, hlp, hld, hft, sl, ir, rfl⟩ := h
    obtain ⟨one, rfl, hone⟩ := z2l ex
    have sd := z2y hft
    have n6 := hft.2.1
    have vo : vwOk ns ss := ⟨sd, n6, by omega, by omega⟩
    simp only [gName, List.set_cons_succ, List.set_cons_zero]
    refine z0g (fun σ G => ∃ (p7 : Addr) (d : Dg), Same G0 G /\ DgAt G p7 d /\ ledOk ns d /\ (∀ side, d ≠ .inner side) /\ σ = [some (.ref a), some (.ref rw_), some (.ref sa), some (.int (prodI ms)), y4, some (.ref ta), some (.ref ca), some (.ref va), some (.int dn), some (.ref lp), some (.int one), some (.ref p7), y12, y13]) ?_ (fun R hR => ?_)
    rotate_left
    · wp_walk using rRepT, tSeq, tIfS, eqV, splawdoing
      exact ⟨ns, hsa, hft.1, sd, n6, fit_room hft, hft, fun G p d s hd hl ni => hR _ _ ⟨p, d, s, hd, hl, ni, rfl⟩⟩
    rintro σ1 G1 ⟨p7, d, u1, hd, hl7, ni, rfl⟩
    refine z0g (fun σ G => ∃ (b : Addr) (w : Str), Same G1 G /\ (fltD ns d = some w \/ (fltD ns d = none /\ w = Str.ofString "" /\ G b = some (.tup ((sdsD ns d).map V.int)))) /\ σ = [some (.ref a), some (.ref rw_), some (.ref sa), some (.int (prodI ms)), y4, some (.ref ta), some (.ref ca), some (.ref va), some (.int dn), some (.ref lp), some (.int one), some (.ref p7), some (.ref b), some (.str w)]) ?_ (fun R hR => ?_)
    rotate_left
    · wp_walk using rRepT, tSeq, tIfS, eqV, spbehind
      exact ⟨ns, u1 _ _ hsa, sd, z5r hft, d, hd, fun G r s hr => by
        obtain ⟨b, w, h1, h2⟩ := hr
        exact ⟨_, h1, rfl, _, _, rfl, _, _, rfl, rfl, hR _ _ ⟨b, w, s, h2, rfl⟩⟩⟩
    rintro σ2 G2 ⟨b, w, u2, hw, rfl⟩
    have v2 := u1.trans u2
    rcases hw with hw | ⟨hw, rfl, hb⟩
    · wp_walk using rRepT, tSeq, tIfS, eqV
      rw [if_neg (flt_ne hw), if_neg (flt_ne hw), hJ]
      exact ⟨sa, ta, va, lp, dn, ns, ss, st, ld, _, _, _, _, sG.trans (.of v2), tG.same v2, v2 _ _ hca, v2 _ _ hsa, hva.same v2, htb.same v2, hlp.same v2, hld, hft, sl, ir, rfl⟩
    have hlk : lastOk d := ⟨fit_led hl7 hw, ni⟩
    have hf2 := fit_next hft hw hl7
    have cl0 : ((seeC ns st ss c0).length : Int) = prodI ns := by
      rw [see_len]
      have := z4y fun n hn => (sd n hn).1
      omega
    have hd2 := hd.same u2
    have sl2 := sts_len2 hw ni sl
    have ir2 := inR_next ir hw ni sl
    have n2 := hf2.2.1
    refine z0g (fun σ G => G = G2 /\ σ = [some (.ref a), some (.ref rw_), some (.ref sa), some (.int (prodI ms)), y4, some (.ref ta), some (.ref ca), some (.ref va), some (.int dn), some (.ref p7), some (.int one), some (.ref p7), some (.ref b), some (.str (Str.ofString ""))]) ?_ (fun R hR => ?_)
    rotate_left
    · wp_walk using rRepT, tSeq, tIfS, eqV
      exact hR _ _ ⟨rfl, rfl⟩
    rintro σ3 G3 ⟨rfl, rfl⟩
    wp_walk using rRepT, tIfS, eqV, splawsmall
    refine ⟨_, hb, z2y hf2, ?_⟩
    by_cases sml : 0 < prodI (sdsD ns d) /\ prodI (sdsD ns d) ≤ 24
    rotate_left
    · rw [if_neg sml, hJ]
      exact ⟨sa, ta, va, p7, dn, ns, ss, st, d, _, _, _, _, sG.trans (.of v2), tG.same v2, v2 _ _ hca, v2 _ _ hsa, hva.same v2, htb.same v2, hd2, hlk, hft, sl, ir, rfl⟩
    rw [if_pos sml]
    refine z0g (fun σ G => ∃ vb, Same G3 G /\ VwAt G vb (sdsD ns d) (staD ns ss st d) (stsD ns ss d) /\ σ = [some (.ref a), some (.ref rw_), some (.ref sa), some (.int (prodI ms)), y4, some (.ref ta), some (.ref ca), some (.ref vb), some (.int dn), some (.ref p7), some (.int one), some (.ref p7), some (.ref b), some (.str (Str.ofString ""))]) ?_ (fun R hR => ?_)
    rotate_left
    · wp_walk using rRepT, tSeq, tIfS, eqV, splviewed
      exact ⟨ns, ss, st, hva.same v2, vo, d, hd2, hw, ni, fun G r s h => hR _ _ ⟨r, s, h, rfl⟩⟩
    rintro σ4 G4 ⟨vb, u4, hvb, rfl⟩
    have v4 := v2.trans u4
    refine z0g (fun σ G => ∃ tb2, SmT G4 G /\ TabsL (T6 TT TP TU TS TL TV) G /\ TbAt G tb2 (sdsD ns d) (seeC (sdsD ns d) (staD ns ss st d) (stsD ns ss d) c0) /\ σ = [some (.ref a), some (.ref rw_), some (.ref sa), some (.int (prodI ms)), y4, some (.ref tb2), some (.ref ca), some (.ref vb), some (.int dn), some (.ref p7), some (.int one), some (.ref p7), some (.ref b), some (.str (Str.ofString ""))]) ?_ (fun R hR => ?_)
    rotate_left
    · wp_walk using rRepT, tSeq, tIfS, eqV, splmoved
      exact ⟨ns, _, htb.same v4, d, hd2.same u4, hw, ni, hft, hf2, cl0, tG.same v4, fun G r s t h => hR _ _ ⟨r, s, t, by rw [← see_mov hft hf2 hw ni sl]; exact h, rfl⟩⟩
    rintro σ5 G5 ⟨tb2, u5, t5, htb5, rfl⟩
    have w5 := (SmT.of v4).trans u5
    have hb5 := u5.tup (u4 _ _ hb)
    refine z0g (fun σ G => G = G5 /\ σ = [some (.ref a), some (.ref rw_), some (.ref b), some (.int (prodI ms)), y4, some (.ref tb2), some (.ref ca), some (.ref vb), some (.int dn), some (.ref p7), some (.int one), some (.ref p7), some (.ref b), some (.str (Str.ofString ""))]) ?_ (fun R hR => ?_)
    rotate_left
    · wp_walk using rRepT, tSeq, tIfS, eqV
      exact hR _ _ ⟨rfl, rfl⟩
    rintro σ6 G6 ⟨rfl, rfl⟩
    refine z0g (fun σ G => G = G6 /\ σ = [some (.ref a), some (.ref rw_), some (.ref b), some (.int (prodI ms)), y4, some (.ref tb2), some (.ref ca), some (.ref vb), some (.int (dn + 1)), some (.ref p7), some (.int one), some (.ref p7), some (.ref b), some (.str (Str.ofString ""))]) ?_ (fun R hR => ?_)
    rotate_left
    · wp_walk using rRepT, tSeq, tIfS, eqV
      exact hR _ _ ⟨rfl, rfl⟩
    rintro σ7 G7 ⟨rfl, rfl⟩
    obtain ⟨tsa, tca, k1, k2, k3⟩ := id htb5
    have fin : ∀ G, SmT G7 G -> TabsL (T6 TT TP TU TS TL TV) G -> J (i + 1) [some (.ref a), some (.ref rw_), some (.ref b), some (.int (prodI ms)), y4, some (.ref tb2), some (.ref ca), some (.ref vb), some (.int (dn + 1)), some (.ref p7), some (.int one), some (.ref p7), some (.ref b), some (.str (Str.ofString ""))] G := fun G s t => by
      rw [hJ]
      exact ⟨b, tb2, vb, p7, dn + 1, sdsD ns d, stsD ns ss d, staD ns ss st d, d, _, _, _, _, sG.trans (w5.trans s), t, (w5.trans s).tup hca, s.tup hb5, (u5.trans s).vw hvb, s.tb htb5, (u5.trans s).dg (hd2.same u4), hlk, hf2, sl2, ir2, rfl⟩
    wp_walk using rRepT, tSeq, tIfS, eqV, splshows
    refine ⟨_, k1, _, z0h (j := 0) rfl, _, rfl, _, .of k2, _, .of hb5, z1h _, z1h _, ?_⟩
    rw [z2o, decide_eq_true rfl, if_neg (by decide)]
    split
    · exact ⟨_, _, c0, _, u5.vw hvb, w5.tup hca, htb5, hf2, sl2, ir2, t5, fun G s t => fin G s t⟩
    · exact fin _ (SmT.refl _) t5
  rintro σA GA ⟨sa, ta, va, lp, dn, ns, ss, st, ld, y10, y11, y12, y13, sG, tG, hca, hsa, hva, htb, hlp, hld, hft, sl, ir, rfl⟩
  have n6 := hft.2.1
  have sd := z2y hft
  have vo : vwOk ns ss := ⟨sd, n6, by omega, by omega⟩
  have cl0 : ((seeC ns st ss c0).length : Int) = prodI ns := by
    rw [see_len]
    have := z4y fun n hn => (sd n hn).1
    omega
  refine z0g (fun σ G => SmT GA G /\ TabsL (T6 TT TP TU TS TL TV) G /\ σ = [some (.ref a), some (.ref rw_), some (.ref sa), some (.int (prodI ms)), y4, some (.ref ta), some (.ref ca), some (.ref va), some (.int dn), some (.ref lp), y10, y11, y12, y13]) ?_ (fun R hR => ?_)
  rotate_left
  · wp_walk using rRepT, tSeq, tIfS, eqV, splshows
    exact ⟨ns, ss, c0, st, hva, hca, htb, hft, sl, ir, tG, fun G s t => hR _ _ ⟨s, t, rfl⟩⟩
  rintro σB GB ⟨sB, tB, rfl⟩
  wp_walk using rRepT, tSeq, tIfS, eqV, spbehind, splviewed, splmoved, splshows
  refine ⟨ns, sB.tup hsa, sd, z5r hft, ld, sB.dg hlp, fun G r s hr => ?_⟩
  obtain ⟨b, w, e1, e2⟩ := hr
  refine ⟨_, e1, _, z0h (j := 1) rfl, rfl, ?_⟩
  rcases e2 with e2 | ⟨e2, rfl, hb⟩
  · rw [if_neg (fun z => flt_ne e2 (V.str.inj z))]
    exact q _
  · rw [if_pos rfl]
    have hf2 := fit_next hft e2 (led_fit hld.1)
    have sB' := sB.trans (.of s)
    refine ⟨ns, ss, st, sB'.vw hva, vo, ld, sB'.dg hlp, e2, hld.2, fun G2 r2 s2 vw2 => ⟨ns, _, (sB'.trans (.of s2)).tb htb, ld, (sB'.trans (.of s2)).dg hlp, e2, hld.2, hft, hf2, cl0, (tB.same s).same s2, fun G3 r3 s3 t3 tb3 => ?_⟩⟩
    exact ⟨_, _, c0, _, s3.vw vw2, ((sB'.trans (.of s2)).trans s3).tup hca, by rw [← see_mov hft hf2 e2 hld.2 sl]; exact tb3, hf2, sts_len2 e2 hld.2 sl, inR_next ir e2 hld.2 sl, t3, fun G4 _ _ => q _⟩
theorem z2q {α : Type} {us : List α} (h : us.length = 1) : ∃ x0, us = [x0] := by
  match us, h with
  | [x0], _ => exact ⟨_, rfl⟩
theorem z1j {α : Type} {us : List α} (h : us.length = 2) : ∃ x0 x1, us = [x0, x1] := by
  match us, h with
  | [x0, x1], _ => exact ⟨_, _, rfl⟩
theorem z3e {α : Type} {us : List α} (h : us.length = 3) : ∃ x0 x1 x2, us = [x0, x1, x2] := by
  match us, h with
  | [x0, x1, x2], _ => exact ⟨_, _, _, rfl⟩
theorem us_len5 {α : Type} {us : List α} (h : us.length = 5) : ∃ x0 x1 x2 x3 x4, us = [x0, x1, x2, x3, x4] := by
  match us, h with
  | [x0, x1, x2, x3, x4], _ => exact ⟨_, _, _, _, _, rfl⟩
theorem all_mk {l : PySem.W.OpenLaw} {w : World} {K : PySem.W.Frag} {h : Heap} {mg : Str -> Option Value} {TT TP TU TS TL TV : Addr} {fa f0 f1 f2 f3 f4 f5 f6 f7 f8 f9 f10 f11 f12 f13 f14 f15 f16 f17 f18 f19 f20 f21 f22 f23 f24 f25 f26 f27 f28 f29 f30 f31 f32 f33 f34 f35 f36 f37 f38 f39 f40 f41 f42 f43 f44 f45 f46 : Addr} (X : K.In h) (G : h.Ns mainGlobals mg) (hfa : mg "law" = some (.ref fa))
    {od0 an0 od1 an1 od2 an2 od3 an3 od4 an4 od5 an5 od6 an6 od7 an7 od8 an8 od9 an9 od10 an10 od11 an11 od12 an12 od13 an13 od14 an14 od15 an15 od16 an16 od17 an17 od18 an18 od19 an19 od20 an20 od21 an21 od22 an22 od23 an23 od24 an24 od25 an25 od26 an26 od27 an27 od28 an28 od29 an29 od30 an30 od31 an31 od32 an32 od33 an33 od34 an34 od35 an35 od36 an36 od37 an37 od38 an38 od39 an39 od40 an40 od41 an41 od42 an42 od43 an43 od44 an44 od45 an45 od46 an46 : Option Addr} {sl0 sl1 sl2 sl3 sl4 sl5 sl6 sl7 sl8 sl9 sl10 sl11 sl12 sl13 sl14 sl15 sl16 sl17 sl18 sl19 sl20 sl21 sl22 sl23 sl24 sl25 sl26 sl27 sl28 sl29 sl30 sl31 sl32 sl33 sl34 sl35 sl36 sl37 sl38 sl39 sl40 sl41 sl42 sl43 sl44 sl45 sl46 : Array (Option Value)} {oc0 kV0 dc0 pm0 ct0 cd0 oc1 kV1 dc1 pm1 ct1 cd1 oc2 kV2 dc2 pm2 ct2 cd2 oc3 kV3 dc3 pm3 ct3 cd3 oc4 kV4 dc4 pm4 ct4 cd4 oc5 kV5 dc5 pm5 ct5 cd5 oc6 kV6 dc6 pm6 ct6 cd6 oc7 kV7 dc7 pm7 ct7 cd7 oc8 kV8 dc8 pm8 ct8 cd8 oc9 kV9 dc9 pm9 ct9 cd9 oc10 kV10 dc10 pm10 ct10 cd10 oc11 kV11 dc11 pm11 ct11 cd11 oc12 kV12 dc12 pm12 ct12 cd12 oc13 kV13 dc13 pm13 ct13 cd13 oc14 kV14 dc14 pm14 ct14 cd14 oc15 kV15 dc15 pm15 ct15 cd15 oc16 kV16 dc16 pm16 ct16 cd16 oc17 kV17 dc17 pm17 ct17 cd17 oc18 kV18 dc18 pm18 ct18 cd18 oc19 kV19 dc19 pm19 ct19 cd19 oc20 kV20 dc20 pm20 ct20 cd20 oc21 kV21 dc21 pm21 ct21 cd21 oc22 kV22 dc22 pm22 ct22 cd22 oc23 kV23 dc23 pm23 ct23 cd23 oc24 kV24 dc24 pm24 ct24 cd24 oc25 kV25 dc25 pm25 ct25 cd25 oc26 kV26 dc26 pm26 ct26 cd26 oc27 kV27 dc27 pm27 ct27 cd27 oc28 kV28 dc28 pm28 ct28 oc29 kV29 dc29 pm29 ct29 oc30 kV30 dc30 pm30 ct30 oc31 kV31 dc31 pm31 ct31 oc32 kV32 dc32 pm32 ct32 oc33 kV33 dc33 pm33 ct33 oc34 kV34 dc34 pm34 ct34 cd34 oc35 kV35 dc35 pm35 ct35 cd35 oc36 kV36 dc36 pm36 ct36 cd36 oc37 kV37 dc37 pm37 ct37 cd37 oc38 kV38 dc38 pm38 ct38 cd38 oc39 kV39 dc39 pm39 ct39 cd39 oc40 kV40 dc40 pm40 ct40 cd40 oc41 kV41 dc41 pm41 ct41 cd41 oc42 kV42 dc42 pm42 ct42 cd42 oc43 kV43 dc43 pm43 ct43 cd43 oc44 kV44 dc44 pm44 ct44 cd44 oc45 kV45 dc45 pm45 ct45 cd45 oc46 kV46 dc46 pm46 ct46 cd46 : Value}
    (a0 : PySem.W.nsIn K mainGlobals "amount" = some (some (.ref f0))) (l0 : K.lookup f0 = some ⟨oc0, od0, .func (PySem.W.fnOf "amount" "amount" (defArgs samount) (defBody samount) (defScope samount) .none kV0 dc0 pm0 an0 cd0 ct0), sl0⟩) (q0 : PySem.W.codeIn K cd0 "amount" = true) (k0 : PySem.W.keepIn K (.ref f0) = true)
    (a1 : PySem.W.nsIn K mainGlobals "breadth" = some (some (.ref f1))) (l1 : K.lookup f1 = some ⟨oc1, od1, .func (PySem.W.fnOf "breadth" "breadth" (defArgs sbreadth) (defBody sbreadth) (defScope sbreadth) .none kV1 dc1 pm1 an1 cd1 ct1), sl1⟩) (q1 : PySem.W.codeIn K cd1 "breadth" = true) (k1 : PySem.W.keepIn K (.ref f1) = true)
    (a2 : PySem.W.nsIn K mainGlobals "allowed" = some (some (.ref f2))) (l2 : K.lookup f2 = some ⟨oc2, od2, .func (PySem.W.fnOf "allowed" "allowed" (defArgs sallowed) (defBody sallowed) (defScope sallowed) .none kV2 dc2 pm2 an2 cd2 ct2), sl2⟩) (q2 : PySem.W.codeIn K cd2 "allowed" = true) (k2 : PySem.W.keepIn K (.ref f2) = true)
    (a3 : PySem.W.nsIn K mainGlobals "strides_of" = some (some (.ref f3))) (l3 : K.lookup f3 = some ⟨oc3, od3, .func (PySem.W.fnOf "strides_of" "strides_of" (defArgs sstridesof) (defBody sstridesof) (defScope sstridesof) .none kV3 dc3 pm3 an3 cd3 ct3), sl3⟩) (q3 : PySem.W.codeIn K cd3 "strides_of" = true) (k3 : PySem.W.keepIn K (.ref f3) = true)
    (a4 : PySem.W.nsIn K mainGlobals "place_of" = some (some (.ref f4))) (l4 : K.lookup f4 = some ⟨oc4, od4, .func (PySem.W.fnOf "place_of" "place_of" (defArgs splaceof) (defBody splaceof) (defScope splaceof) .none kV4 dc4 pm4 an4 cd4 ct4), sl4⟩) (q4 : PySem.W.codeIn K cd4 "place_of" = true) (k4 : PySem.W.keepIn K (.ref f4) = true)
    (a5 : PySem.W.nsIn K mainGlobals "at_of" = some (some (.ref f5))) (l5 : K.lookup f5 = some ⟨oc5, od5, .func (PySem.W.fnOf "at_of" "at_of" (defArgs satof) (defBody satof) (defScope satof) .none kV5 dc5 pm5 an5 cd5 ct5), sl5⟩) (q5 : PySem.W.codeIn K cd5 "at_of" = true) (k5 : PySem.W.keepIn K (.ref f5) = true)
    (a6 : PySem.W.nsIn K mainGlobals "all_at" = some (some (.ref f6))) (l6 : K.lookup f6 = some ⟨oc6, od6, .func (PySem.W.fnOf "all_at" "all_at" (defArgs sallat) (defBody sallat) (defScope sallat) .none kV6 dc6 pm6 an6 cd6 ct6), sl6⟩) (q6 : PySem.W.codeIn K cd6 "all_at" = true) (k6 : PySem.W.keepIn K (.ref f6) = true)
    (a7 : PySem.W.nsIn K mainGlobals "changed_at" = some (some (.ref f7))) (l7 : K.lookup f7 = some ⟨oc7, od7, .func (PySem.W.fnOf "changed_at" "changed_at" (defArgs schangedat) (defBody schangedat) (defScope schangedat) .none kV7 dc7 pm7 an7 cd7 ct7), sl7⟩) (q7 : PySem.W.codeIn K cd7 "changed_at" = true) (k7 : PySem.W.keepIn K (.ref f7) = true)
    (a8 : PySem.W.nsIn K mainGlobals "added_at" = some (some (.ref f8))) (l8 : K.lookup f8 = some ⟨oc8, od8, .func (PySem.W.fnOf "added_at" "added_at" (defArgs saddedat) (defBody saddedat) (defScope saddedat) .none kV8 dc8 pm8 an8 cd8 ct8), sl8⟩) (q8 : PySem.W.codeIn K cd8 "added_at" = true) (k8 : PySem.W.keepIn K (.ref f8) = true)
    (a9 : PySem.W.nsIn K mainGlobals "dropped_at" = some (some (.ref f9))) (l9 : K.lookup f9 = some ⟨oc9, od9, .func (PySem.W.fnOf "dropped_at" "dropped_at" (defArgs sdroppedat) (defBody sdroppedat) (defScope sdroppedat) .none kV9 dc9 pm9 an9 cd9 ct9), sl9⟩) (q9 : PySem.W.codeIn K cd9 "dropped_at" = true) (k9 : PySem.W.keepIn K (.ref f9) = true)
    (a10 : PySem.W.nsIn K mainGlobals "ask_side" = some (some (.ref f10))) (l10 : K.lookup f10 = some ⟨oc10, od10, .func (PySem.W.fnOf "ask_side" "ask_side" (defArgs saskside) (defBody saskside) (defScope saskside) .none kV10 dc10 pm10 an10 cd10 ct10), sl10⟩) (q10 : PySem.W.codeIn K cd10 "ask_side" = true) (k10 : PySem.W.keepIn K (.ref f10) = true)
    (a11 : PySem.W.nsIn K mainGlobals "turned_sides" = some (some (.ref f11))) (l11 : K.lookup f11 = some ⟨oc11, od11, .func (PySem.W.fnOf "turned_sides" "turned_sides" (defArgs sturnedsides) (defBody sturnedsides) (defScope sturnedsides) .none kV11 dc11 pm11 an11 cd11 ct11), sl11⟩) (q11 : PySem.W.codeIn K cd11 "turned_sides" = true) (k11 : PySem.W.keepIn K (.ref f11) = true)
    (a12 : PySem.W.nsIn K mainGlobals "flipped_sides" = some (some (.ref f12))) (l12 : K.lookup f12 = some ⟨oc12, od12, .func (PySem.W.fnOf "flipped_sides" "flipped_sides" (defArgs sflippedsides) (defBody sflippedsides) (defScope sflippedsides) .none kV12 dc12 pm12 an12 cd12 ct12), sl12⟩) (q12 : PySem.W.codeIn K cd12 "flipped_sides" = true) (k12 : PySem.W.keepIn K (.ref f12) = true)
    (a13 : PySem.W.nsIn K mainGlobals "cut_sides" = some (some (.ref f13))) (l13 : K.lookup f13 = some ⟨oc13, od13, .func (PySem.W.fnOf "cut_sides" "cut_sides" (defArgs scutsides) (defBody scutsides) (defScope scutsides) .none kV13 dc13 pm13 an13 cd13 ct13), sl13⟩) (q13 : PySem.W.codeIn K cd13 "cut_sides" = true) (k13 : PySem.W.keepIn K (.ref f13) = true)
    (a14 : PySem.W.nsIn K mainGlobals "spread_sides" = some (some (.ref f14))) (l14 : K.lookup f14 = some ⟨oc14, od14, .func (PySem.W.fnOf "spread_sides" "spread_sides" (defArgs sspreadsides) (defBody sspreadsides) (defScope sspreadsides) .none kV14 dc14 pm14 an14 cd14 ct14), sl14⟩) (q14 : PySem.W.codeIn K cd14 "spread_sides" = true) (k14 : PySem.W.keepIn K (.ref f14) = true)
    (a15 : PySem.W.nsIn K mainGlobals "led_sides" = some (some (.ref f15))) (l15 : K.lookup f15 = some ⟨oc15, od15, .func (PySem.W.fnOf "led_sides" "led_sides" (defArgs sledsides) (defBody sledsides) (defScope sledsides) .none kV15 dc15 pm15 an15 cd15 ct15), sl15⟩) (q15 : PySem.W.codeIn K cd15 "led_sides" = true) (k15 : PySem.W.keepIn K (.ref f15) = true)
    (a16 : PySem.W.nsIn K mainGlobals "wrapped" = some (some (.ref f16))) (l16 : K.lookup f16 = some ⟨oc16, od16, .func (PySem.W.fnOf "wrapped" "wrapped" (defArgs swrapped) (defBody swrapped) (defScope swrapped) .none kV16 dc16 pm16 an16 cd16 ct16), sl16⟩) (q16 : PySem.W.codeIn K cd16 "wrapped" = true) (k16 : PySem.W.keepIn K (.ref f16) = true)
    (a17 : PySem.W.nsIn K mainGlobals "table_of" = some (some (.ref f17))) (l17 : K.lookup f17 = some ⟨oc17, od17, .func (PySem.W.fnOf "table_of" "table_of" (defArgs stableof) (defBody stableof) (defScope stableof) .none kV17 dc17 pm17 an17 cd17 ct17), sl17⟩) (q17 : PySem.W.codeIn K cd17 "table_of" = true) (k17 : PySem.W.keepIn K (.ref f17) = true)
    (a18 : PySem.W.nsIn K mainGlobals "table_by" = some (some (.ref f18))) (l18 : K.lookup f18 = some ⟨oc18, od18, .func (PySem.W.fnOf "table_by" "table_by" (defArgs stableby) (defBody stableby) (defScope stableby) .none kV18 dc18 pm18 an18 cd18 ct18), sl18⟩) (q18 : PySem.W.codeIn K cd18 "table_by" = true) (k18 : PySem.W.keepIn K (.ref f18) = true)
    (a19 : PySem.W.nsIn K mainGlobals "cell_at" = some (some (.ref f19))) (l19 : K.lookup f19 = some ⟨oc19, od19, .func (PySem.W.fnOf "cell_at" "cell_at" (defArgs scellat) (defBody scellat) (defScope scellat) .none kV19 dc19 pm19 an19 cd19 ct19), sl19⟩) (q19 : PySem.W.codeIn K cd19 "cell_at" = true) (k19 : PySem.W.keepIn K (.ref f19) = true)
    (a20 : PySem.W.nsIn K mainGlobals "plain_view" = some (some (.ref f20))) (l20 : K.lookup f20 = some ⟨oc20, od20, .func (PySem.W.fnOf "plain_view" "plain_view" (defArgs splainview) (defBody splainview) (defScope splainview) .none kV20 dc20 pm20 an20 cd20 ct20), sl20⟩) (q20 : PySem.W.codeIn K cd20 "plain_view" = true) (k20 : PySem.W.keepIn K (.ref f20) = true)
    (a21 : PySem.W.nsIn K mainGlobals "turned_view" = some (some (.ref f21))) (l21 : K.lookup f21 = some ⟨oc21, od21, .func (PySem.W.fnOf "turned_view" "turned_view" (defArgs sturnedview) (defBody sturnedview) (defScope sturnedview) .none kV21 dc21 pm21 an21 cd21 ct21), sl21⟩) (q21 : PySem.W.codeIn K cd21 "turned_view" = true) (k21 : PySem.W.keepIn K (.ref f21) = true)
    (a22 : PySem.W.nsIn K mainGlobals "flipped_view" = some (some (.ref f22))) (l22 : K.lookup f22 = some ⟨oc22, od22, .func (PySem.W.fnOf "flipped_view" "flipped_view" (defArgs sflippedview) (defBody sflippedview) (defScope sflippedview) .none kV22 dc22 pm22 an22 cd22 ct22), sl22⟩) (q22 : PySem.W.codeIn K cd22 "flipped_view" = true) (k22 : PySem.W.keepIn K (.ref f22) = true)
    (a23 : PySem.W.nsIn K mainGlobals "cut_view" = some (some (.ref f23))) (l23 : K.lookup f23 = some ⟨oc23, od23, .func (PySem.W.fnOf "cut_view" "cut_view" (defArgs scutview) (defBody scutview) (defScope scutview) .none kV23 dc23 pm23 an23 cd23 ct23), sl23⟩) (q23 : PySem.W.codeIn K cd23 "cut_view" = true) (k23 : PySem.W.keepIn K (.ref f23) = true)
    (a24 : PySem.W.nsIn K mainGlobals "spread_view" = some (some (.ref f24))) (l24 : K.lookup f24 = some ⟨oc24, od24, .func (PySem.W.fnOf "spread_view" "spread_view" (defArgs sspreadview) (defBody sspreadview) (defScope sspreadview) .none kV24 dc24 pm24 an24 cd24 ct24), sl24⟩) (q24 : PySem.W.codeIn K cd24 "spread_view" = true) (k24 : PySem.W.keepIn K (.ref f24) = true)
    (a25 : PySem.W.nsIn K mainGlobals "led_view" = some (some (.ref f25))) (l25 : K.lookup f25 = some ⟨oc25, od25, .func (PySem.W.fnOf "led_view" "led_view" (defArgs sledview) (defBody sledview) (defScope sledview) .none kV25 dc25 pm25 an25 cd25 ct25), sl25⟩) (q25 : PySem.W.codeIn K cd25 "led_view" = true) (k25 : PySem.W.keepIn K (.ref f25) = true)
    (a26 : PySem.W.nsIn K mainGlobals "spot_of" = some (some (.ref f26))) (l26 : K.lookup f26 = some ⟨oc26, od26, .func (PySem.W.fnOf "spot_of" "spot_of" (defArgs sspotof) (defBody sspotof) (defScope sspotof) .none kV26 dc26 pm26 an26 cd26 ct26), sl26⟩) (q26 : PySem.W.codeIn K cd26 "spot_of" = true) (k26 : PySem.W.keepIn K (.ref f26) = true)
    (a27 : PySem.W.nsIn K mainGlobals "span_of" = some (some (.ref f27))) (l27 : K.lookup f27 = some ⟨oc27, od27, .func (PySem.W.fnOf "span_of" "span_of" (defArgs sspanof) (defBody sspanof) (defScope sspanof) .none kV27 dc27 pm27 an27 cd27 ct27), sl27⟩) (q27 : PySem.W.codeIn K cd27 "span_of" = true) (k27 : PySem.W.keepIn K (.ref f27) = true)
    {c28 : Addr}
    (a28 : PySem.W.nsIn K mainGlobals "seen_through" = some (some (.ref f28))) (l28 : K.lookup f28 = some ⟨oc28, od28, .func (PySem.W.fnOf "seen_through" "seen_through" (defArgs sseenthrough) (defBody sseenthrough) (defScope sseenthrough) .none kV28 dc28 pm28 an28 (.ref c28) ct28), sl28⟩) (q28 : PySem.W.codeIn K (.ref c28) "seen_through" = true) (k28 : PySem.W.keepIn K (.ref f28) = true)
    {oc2_28 : Value} {od2_28 : Option Addr} {vs_28 : Array Value} {sl2_28 : Array (Option Value)} (h4_28 : K.lookup c28 = some ⟨oc2_28, od2_28, .fields vs_28, sl2_28⟩) (h5_28 : vs_28[11]? = some (.ref TV))
    {c29 : Addr}
    (a29 : PySem.W.nsIn K mainGlobals "lead" = some (some (.ref f29))) (l29 : K.lookup f29 = some ⟨oc29, od29, .func (PySem.W.fnOf "lead" "lead" (defArgs slead) (defBody slead) (defScope slead) .none kV29 dc29 pm29 an29 (.ref c29) ct29), sl29⟩) (q29 : PySem.W.codeIn K (.ref c29) "lead" = true) (k29 : PySem.W.keepIn K (.ref f29) = true)
    {oc2_29 : Value} {od2_29 : Option Addr} {vs_29 : Array Value} {sl2_29 : Array (Option Value)} (h4_29 : K.lookup c29 = some ⟨oc2_29, od2_29, .fields vs_29, sl2_29⟩) (h5_29 : vs_29[11]? = some (.ref TL))
    {c30 : Addr}
    (a30 : PySem.W.nsIn K mainGlobals "turn" = some (some (.ref f30))) (l30 : K.lookup f30 = some ⟨oc30, od30, .func (PySem.W.fnOf "turn" "turn" (defArgs sturn) (defBody sturn) (defScope sturn) .none kV30 dc30 pm30 an30 (.ref c30) ct30), sl30⟩) (q30 : PySem.W.codeIn K (.ref c30) "turn" = true) (k30 : PySem.W.keepIn K (.ref f30) = true)
    {oc2_30 : Value} {od2_30 : Option Addr} {vs_30 : Array Value} {sl2_30 : Array (Option Value)} (h4_30 : K.lookup c30 = some ⟨oc2_30, od2_30, .fields vs_30, sl2_30⟩) (h5_30 : vs_30[11]? = some (.ref TT))
    {c31 : Addr}
    (a31 : PySem.W.nsIn K mainGlobals "flip" = some (some (.ref f31))) (l31 : K.lookup f31 = some ⟨oc31, od31, .func (PySem.W.fnOf "flip" "flip" (defArgs sflip) (defBody sflip) (defScope sflip) .none kV31 dc31 pm31 an31 (.ref c31) ct31), sl31⟩) (q31 : PySem.W.codeIn K (.ref c31) "flip" = true) (k31 : PySem.W.keepIn K (.ref f31) = true)
    {oc2_31 : Value} {od2_31 : Option Addr} {vs_31 : Array Value} {sl2_31 : Array (Option Value)} (h4_31 : K.lookup c31 = some ⟨oc2_31, od2_31, .fields vs_31, sl2_31⟩) (h5_31 : vs_31[11]? = some (.ref TP))
    {c32 : Addr}
    (a32 : PySem.W.nsIn K mainGlobals "cut" = some (some (.ref f32))) (l32 : K.lookup f32 = some ⟨oc32, od32, .func (PySem.W.fnOf "cut" "cut" (defArgs scut) (defBody scut) (defScope scut) .none kV32 dc32 pm32 an32 (.ref c32) ct32), sl32⟩) (q32 : PySem.W.codeIn K (.ref c32) "cut" = true) (k32 : PySem.W.keepIn K (.ref f32) = true)
    {oc2_32 : Value} {od2_32 : Option Addr} {vs_32 : Array Value} {sl2_32 : Array (Option Value)} (h4_32 : K.lookup c32 = some ⟨oc2_32, od2_32, .fields vs_32, sl2_32⟩) (h5_32 : vs_32[11]? = some (.ref TU))
    {c33 : Addr}
    (a33 : PySem.W.nsIn K mainGlobals "spread" = some (some (.ref f33))) (l33 : K.lookup f33 = some ⟨oc33, od33, .func (PySem.W.fnOf "spread" "spread" (defArgs sspread) (defBody sspread) (defScope sspread) .none kV33 dc33 pm33 an33 (.ref c33) ct33), sl33⟩) (q33 : PySem.W.codeIn K (.ref c33) "spread" = true) (k33 : PySem.W.keepIn K (.ref f33) = true)
    {oc2_33 : Value} {od2_33 : Option Addr} {vs_33 : Array Value} {sl2_33 : Array (Option Value)} (h4_33 : K.lookup c33 = some ⟨oc2_33, od2_33, .fields vs_33, sl2_33⟩) (h5_33 : vs_33[11]? = some (.ref TS))
    (a34 : PySem.W.nsIn K mainGlobals "_law_sides" = some (some (.ref f34))) (l34 : K.lookup f34 = some ⟨oc34, od34, .func (PySem.W.fnOf "_law_sides" "_law_sides" (defArgs slawsides) (defBody slawsides) (defScope slawsides) .none kV34 dc34 pm34 an34 cd34 ct34), sl34⟩) (q34 : PySem.W.codeIn K cd34 "_law_sides" = true) (k34 : PySem.W.keepIn K (.ref f34) = true)
    (a35 : PySem.W.nsIn K mainGlobals "_law_order" = some (some (.ref f35))) (l35 : K.lookup f35 = some ⟨oc35, od35, .func (PySem.W.fnOf "_law_order" "_law_order" (defArgs slaworder) (defBody slaworder) (defScope slaworder) .none kV35 dc35 pm35 an35 cd35 ct35), sl35⟩) (q35 : PySem.W.codeIn K cd35 "_law_order" = true) (k35 : PySem.W.keepIn K (.ref f35) = true)
    (a36 : PySem.W.nsIn K mainGlobals "_law_cut" = some (some (.ref f36))) (l36 : K.lookup f36 = some ⟨oc36, od36, .func (PySem.W.fnOf "_law_cut" "_law_cut" (defArgs slawcut) (defBody slawcut) (defScope slawcut) .none kV36 dc36 pm36 an36 cd36 ct36), sl36⟩) (q36 : PySem.W.codeIn K cd36 "_law_cut" = true) (k36 : PySem.W.keepIn K (.ref f36) = true)
    (a37 : PySem.W.nsIn K mainGlobals "_law_room" = some (some (.ref f37))) (l37 : K.lookup f37 = some ⟨oc37, od37, .func (PySem.W.fnOf "_law_room" "_law_room" (defArgs slawroom) (defBody slawroom) (defScope slawroom) .none kV37 dc37 pm37 an37 cd37 ct37), sl37⟩) (q37 : PySem.W.codeIn K cd37 "_law_room" = true) (k37 : PySem.W.keepIn K (.ref f37) = true)
    (a38 : PySem.W.nsIn K mainGlobals "_law_spread" = some (some (.ref f38))) (l38 : K.lookup f38 = some ⟨oc38, od38, .func (PySem.W.fnOf "_law_spread" "_law_spread" (defArgs slawspread) (defBody slawspread) (defScope slawspread) .none kV38 dc38 pm38 an38 cd38 ct38), sl38⟩) (q38 : PySem.W.codeIn K cd38 "_law_spread" = true) (k38 : PySem.W.keepIn K (.ref f38) = true)
    (a39 : PySem.W.nsIn K mainGlobals "_law_longer" = some (some (.ref f39))) (l39 : K.lookup f39 = some ⟨oc39, od39, .func (PySem.W.fnOf "_law_longer" "_law_longer" (defArgs slawlonger) (defBody slawlonger) (defScope slawlonger) .none kV39 dc39 pm39 an39 cd39 ct39), sl39⟩) (q39 : PySem.W.codeIn K cd39 "_law_longer" = true) (k39 : PySem.W.keepIn K (.ref f39) = true)
    (a40 : PySem.W.nsIn K mainGlobals "_law_doing" = some (some (.ref f40))) (l40 : K.lookup f40 = some ⟨oc40, od40, .func (PySem.W.fnOf "_law_doing" "_law_doing" (defArgs slawdoing) (defBody slawdoing) (defScope slawdoing) .none kV40 dc40 pm40 an40 cd40 ct40), sl40⟩) (q40 : PySem.W.codeIn K cd40 "_law_doing" = true) (k40 : PySem.W.keepIn K (.ref f40) = true)
    (a41 : PySem.W.nsIn K mainGlobals "_law_behind" = some (some (.ref f41))) (l41 : K.lookup f41 = some ⟨oc41, od41, .func (PySem.W.fnOf "_law_behind" "_law_behind" (defArgs slawbehind) (defBody slawbehind) (defScope slawbehind) .none kV41 dc41 pm41 an41 cd41 ct41), sl41⟩) (q41 : PySem.W.codeIn K cd41 "_law_behind" = true) (k41 : PySem.W.keepIn K (.ref f41) = true)
    (a42 : PySem.W.nsIn K mainGlobals "_law_viewed" = some (some (.ref f42))) (l42 : K.lookup f42 = some ⟨oc42, od42, .func (PySem.W.fnOf "_law_viewed" "_law_viewed" (defArgs slawviewed) (defBody slawviewed) (defScope slawviewed) .none kV42 dc42 pm42 an42 cd42 ct42), sl42⟩) (q42 : PySem.W.codeIn K cd42 "_law_viewed" = true) (k42 : PySem.W.keepIn K (.ref f42) = true)
    (a43 : PySem.W.nsIn K mainGlobals "_law_moved" = some (some (.ref f43))) (l43 : K.lookup f43 = some ⟨oc43, od43, .func (PySem.W.fnOf "_law_moved" "_law_moved" (defArgs slawmoved) (defBody slawmoved) (defScope slawmoved) .none kV43 dc43 pm43 an43 cd43 ct43), sl43⟩) (q43 : PySem.W.codeIn K cd43 "_law_moved" = true) (k43 : PySem.W.keepIn K (.ref f43) = true)
    (a44 : PySem.W.nsIn K mainGlobals "_law_small" = some (some (.ref f44))) (l44 : K.lookup f44 = some ⟨oc44, od44, .func (PySem.W.fnOf "_law_small" "_law_small" (defArgs slawsmall) (defBody slawsmall) (defScope slawsmall) .none kV44 dc44 pm44 an44 cd44 ct44), sl44⟩) (q44 : PySem.W.codeIn K cd44 "_law_small" = true) (k44 : PySem.W.keepIn K (.ref f44) = true)
    (a45 : PySem.W.nsIn K mainGlobals "_law_shows" = some (some (.ref f45))) (l45 : K.lookup f45 = some ⟨oc45, od45, .func (PySem.W.fnOf "_law_shows" "_law_shows" (defArgs slawshows) (defBody slawshows) (defScope slawshows) .none kV45 dc45 pm45 an45 cd45 ct45), sl45⟩) (q45 : PySem.W.codeIn K cd45 "_law_shows" = true) (k45 : PySem.W.keepIn K (.ref f45) = true)
    (a46 : PySem.W.nsIn K mainGlobals "law" = some (some (.ref f46))) (l46 : K.lookup f46 = some ⟨oc46, od46, .func (PySem.W.fnOf "law" "law" (defArgs slaw) (defBody slaw) (defScope slaw) .none kV46 dc46 pm46 an46 cd46 ct46), sl46⟩) (q46 : PySem.W.codeIn K cd46 "law" = true) (k46 : PySem.W.keepIn K (.ref f46) = true)
    (zlen : PySem.W.nsIn K mainGlobals "len" = some none)
    (ztuple : PySem.W.nsIn K mainGlobals "tuple" = some none)
    (zreversed : PySem.W.nsIn K mainGlobals "reversed" = some none)
    (zzip : PySem.W.nsIn K mainGlobals "zip" = some none)
    (zsum : PySem.W.nsIn K mainGlobals "sum" = some none)
    (zrange : PySem.W.nsIn K mainGlobals "range" = some none)
    (zsorted : PySem.W.nsIn K mainGlobals "sorted" = some none)
    (zlist : PySem.W.nsIn K mainGlobals "list" = some none)
    (zmin : PySem.W.nsIn K mainGlobals "min" = some none)
    (zmax : PySem.W.nsIn K mainGlobals "max" = some none)
    (zisinstance : PySem.W.nsIn K mainGlobals "isinstance" = some none)
    (zint : PySem.W.nsIn K mainGlobals "int" = some none)
    (zbool : PySem.W.nsIn K mainGlobals "bool" = some none)
    {tMOST_SIDES : Tok} (gMOST_SIDES : PySem.W.nsIn K mainGlobals "MOST_SIDES" = some (some (.int 6 tMOST_SIDES)))
    {tMOST_BREADTH : Tok} (gMOST_BREADTH : PySem.W.nsIn K mainGlobals "MOST_BREADTH" = some (some (.int 512 tMOST_BREADTH)))
    {tLOW : Tok} (gLOW : PySem.W.nsIn K mainGlobals "LOW" = some (some (.int (-9223372036854775808) tLOW)))
    {CTooLarge : Addr} (nTooLarge : PySem.W.nsIn K mainGlobals "TooLarge" = some (some (.ref CTooLarge)))
    {CNoPlace : Addr} (nNoPlace : PySem.W.nsIn K mainGlobals "NoPlace" = some (some (.ref CNoPlace)))
    {CNoSide : Addr} (nNoSide : PySem.W.nsIn K mainGlobals "NoSide" = some (some (.ref CNoSide)))
    {CBeyond : Addr} (nBeyond : PySem.W.nsIn K mainGlobals "Beyond" = some (some (.ref CBeyond)))
    {CUnlike : Addr} (nUnlike : PySem.W.nsIn K mainGlobals "Unlike" = some (some (.ref CUnlike)))
    (xTooLarge : PySem.W.excIn K CTooLarge [.type "ValueError", .type "Exception", .type "BaseException", .type "object"] "ValueError.__new__" = true)
    (xUnlike : PySem.W.excIn K CUnlike [.type "ValueError", .type "Exception", .type "BaseException", .type "object"] "ValueError.__new__" = true)
    (xNoSide : PySem.W.excIn K CNoSide [.type "ValueError", .type "Exception", .type "BaseException", .type "object"] "ValueError.__new__" = true)
    (xBeyond : PySem.W.excIn K CBeyond [.type "ValueError", .type "Exception", .type "BaseException", .type "object"] "ValueError.__new__" = true)
    (xNoPlace : PySem.W.excIn K CNoPlace [.type "ValueError", .type "Exception", .type "BaseException", .type "object"] "ValueError.__new__" = true)
    (nd6 : ((T6 TT TP TU TS TL TV).map fun x => x.1).Nodup)
    : ∃ (fd : FuncData) (tbs : List (Str × Addr × Addr)), (∀ p ∈ tbs, PySem.W.tabIn K p.1 = some p.2 /\ p.1 ∈ (["seen_through", "lead", "turn", "flip", "cut", "spread"] : List Str)) /\ (∀ (s : Shared) (v : Value), BindsTo s fd ⟨[v], []⟩ [("script", v)]) /\ ∀ base : Heap, K.In base -> base.Ns mainGlobals mg -> (∀ p ∈ tbs, TabF base mg p.2.1 p.2.2) -> FnOk l.prog w K mg base CX0 11 fa fd ["script"] (splawT K (tbs.map fun p => p.2.2)) := by
  have e := hfa.symm.trans (PySem.W.mg_of X G a46)
  cases e
  have F0 := z1b (st := samount) l0 q0 k0
  have b0 := F0.binds (ps := ["sides"]) fun _ _ _ _ _ _ us hl => by
    obtain ⟨_, rfl⟩ := z2q hl
    rfl
  have F1 := z1b (st := sbreadth) l1 q1 k1
  have b1 := F1.binds (ps := ["sides"]) fun _ _ _ _ _ _ us hl => by
    obtain ⟨_, rfl⟩ := z2q hl
    rfl
  have F2 := z1b (st := sallowed) l2 q2 k2
  have b2 := F2.binds (ps := ["sides"]) fun _ _ _ _ _ _ us hl => by
    obtain ⟨_, rfl⟩ := z2q hl
    rfl
  have F3 := z1b (st := sstridesof) l3 q3 k3
  have b3 := F3.binds (ps := ["sides"]) fun _ _ _ _ _ _ us hl => by
    obtain ⟨_, rfl⟩ := z2q hl
    rfl
  have F4 := z1b (st := splaceof) l4 q4 k4
  have b4 := F4.binds (ps := ["sides", "at"]) fun _ _ _ _ _ _ us hl => by
    obtain ⟨_, _, rfl⟩ := z1j hl
    rfl
  have F5 := z1b (st := satof) l5 q5 k5
  have b5 := F5.binds (ps := ["sides", "place"]) fun _ _ _ _ _ _ us hl => by
    obtain ⟨_, _, rfl⟩ := z1j hl
    rfl
  have F6 := z1b (st := sallat) l6 q6 k6
  have b6 := F6.binds (ps := ["sides"]) fun _ _ _ _ _ _ us hl => by
    obtain ⟨_, rfl⟩ := z2q hl
    rfl
  have F7 := z1b (st := schangedat) l7 q7 k7
  have b7 := F7.binds (ps := ["row", "k", "number"]) fun _ _ _ _ _ _ us hl => by
    obtain ⟨_, _, _, rfl⟩ := z3e hl
    rfl
  have F8 := z1b (st := saddedat) l8 q8 k8
  have b8 := F8.binds (ps := ["row", "k", "number"]) fun _ _ _ _ _ _ us hl => by
    obtain ⟨_, _, _, rfl⟩ := z3e hl
    rfl
  have F9 := z1b (st := sdroppedat) l9 q9 k9
  have b9 := F9.binds (ps := ["row", "k"]) fun _ _ _ _ _ _ us hl => by
    obtain ⟨_, _, rfl⟩ := z1j hl
    rfl
  have F10 := z1b (st := saskside) l10 q10 k10
  have b10 := F10.binds (ps := ["sides", "side"]) fun _ _ _ _ _ _ us hl => by
    obtain ⟨_, _, rfl⟩ := z1j hl
    rfl
  have F11 := z1b (st := sturnedsides) l11 q11 k11
  have b11 := F11.binds (ps := ["sides", "order"]) fun _ _ _ _ _ _ us hl => by
    obtain ⟨_, _, rfl⟩ := z1j hl
    rfl
  have F12 := z1b (st := sflippedsides) l12 q12 k12
  have b12 := F12.binds (ps := ["sides", "side"]) fun _ _ _ _ _ _ us hl => by
    obtain ⟨_, _, rfl⟩ := z1j hl
    rfl
  have F13 := z1b (st := scutsides) l13 q13 k13
  have b13 := F13.binds (ps := ["sides", "side", "first", "many", "step"]) fun _ _ _ _ _ _ us hl => by
    obtain ⟨_, _, _, _, _, rfl⟩ := us_len5 hl
    rfl
  have F14 := z1b (st := sspreadsides) l14 q14 k14
  have b14 := F14.binds (ps := ["sides", "side", "many"]) fun _ _ _ _ _ _ us hl => by
    obtain ⟨_, _, _, rfl⟩ := z3e hl
    rfl
  have F15 := z1b (st := sledsides) l15 q15 k15
  have b15 := F15.binds (ps := ["sides", "others"]) fun _ _ _ _ _ _ us hl => by
    obtain ⟨_, _, rfl⟩ := z1j hl
    rfl
  have F16 := z1b (st := swrapped) l16 q16 k16
  have b16 := F16.binds (ps := ["n"]) fun _ _ _ _ _ _ us hl => by
    obtain ⟨_, rfl⟩ := z2q hl
    rfl
  have F17 := z1b (st := stableof) l17 q17 k17
  have b17 := F17.binds (ps := ["sides", "cells"]) fun _ _ _ _ _ _ us hl => by
    obtain ⟨_, _, rfl⟩ := z1j hl
    rfl
  have F18 := z1b (st := stableby) l18 q18 k18
  have b18 := F18.binds (ps := ["sides", "number_at"]) fun _ _ _ _ _ _ us hl => by
    obtain ⟨_, _, rfl⟩ := z1j hl
    rfl
  have F19 := z1b (st := scellat) l19 q19 k19
  have b19 := F19.binds (ps := ["tab", "at"]) fun _ _ _ _ _ _ us hl => by
    obtain ⟨_, _, rfl⟩ := z1j hl
    rfl
  have F20 := z1b (st := splainview) l20 q20 k20
  have b20 := F20.binds (ps := ["sides"]) fun _ _ _ _ _ _ us hl => by
    obtain ⟨_, rfl⟩ := z2q hl
    rfl
  have F21 := z1b (st := sturnedview) l21 q21 k21
  have b21 := F21.binds (ps := ["view", "order"]) fun _ _ _ _ _ _ us hl => by
    obtain ⟨_, _, rfl⟩ := z1j hl
    rfl
  have F22 := z1b (st := sflippedview) l22 q22 k22
  have b22 := F22.binds (ps := ["view", "side"]) fun _ _ _ _ _ _ us hl => by
    obtain ⟨_, _, rfl⟩ := z1j hl
    rfl
  have F23 := z1b (st := scutview) l23 q23 k23
  have b23 := F23.binds (ps := ["view", "side", "first", "many", "step"]) fun _ _ _ _ _ _ us hl => by
    obtain ⟨_, _, _, _, _, rfl⟩ := us_len5 hl
    rfl
  have F24 := z1b (st := sspreadview) l24 q24 k24
  have b24 := F24.binds (ps := ["view", "side", "many"]) fun _ _ _ _ _ _ us hl => by
    obtain ⟨_, _, _, rfl⟩ := z3e hl
    rfl
  have F25 := z1b (st := sledview) l25 q25 k25
  have b25 := F25.binds (ps := ["view", "sides"]) fun _ _ _ _ _ _ us hl => by
    obtain ⟨_, _, rfl⟩ := z1j hl
    rfl
  have F26 := z1b (st := sspotof) l26 q26 k26
  have b26 := F26.binds (ps := ["view", "at"]) fun _ _ _ _ _ _ us hl => by
    obtain ⟨_, _, rfl⟩ := z1j hl
    rfl
  have F27 := z1b (st := sspanof) l27 q27 k27
  have b27 := F27.binds (ps := ["view"]) fun _ _ _ _ _ _ us hl => by
    obtain ⟨_, rfl⟩ := z2q hl
    rfl
  have F28 := z1b (st := sseenthrough) l28 q28 k28
  have b28 := F28.binds (ps := ["view", "cells"]) fun _ _ _ _ _ _ us hl => by
    obtain ⟨_, _, rfl⟩ := z1j hl
    rfl
  have F29 := z1b (st := slead) l29 q29 k29
  have b29 := F29.binds (ps := ["tab", "sides"]) fun _ _ _ _ _ _ us hl => by
    obtain ⟨_, _, rfl⟩ := z1j hl
    rfl
  have F30 := z1b (st := sturn) l30 q30 k30
  have b30 := F30.binds (ps := ["tab", "order"]) fun _ _ _ _ _ _ us hl => by
    obtain ⟨_, _, rfl⟩ := z1j hl
    rfl
  have F31 := z1b (st := sflip) l31 q31 k31
  have b31 := F31.binds (ps := ["tab", "side"]) fun _ _ _ _ _ _ us hl => by
    obtain ⟨_, _, rfl⟩ := z1j hl
    rfl
  have F32 := z1b (st := scut) l32 q32 k32
  have b32 := F32.binds (ps := ["tab", "side", "first", "many", "step"]) fun _ _ _ _ _ _ us hl => by
    obtain ⟨_, _, _, _, _, rfl⟩ := us_len5 hl
    rfl
  have F33 := z1b (st := sspread) l33 q33 k33
  have b33 := F33.binds (ps := ["tab", "side", "many"]) fun _ _ _ _ _ _ us hl => by
    obtain ⟨_, _, _, rfl⟩ := z3e hl
    rfl
  have F34 := z1b (st := slawsides) l34 q34 k34
  have b34 := F34.binds (ps := ["row", "room"]) fun _ _ _ _ _ _ us hl => by
    obtain ⟨_, _, rfl⟩ := z1j hl
    rfl
  have F35 := z1b (st := slaworder) l35 q35 k35
  have b35 := F35.binds (ps := ["n", "count"]) fun _ _ _ _ _ _ us hl => by
    obtain ⟨_, _, rfl⟩ := z1j hl
    rfl
  have F36 := z1b (st := slawcut) l36 q36 k36
  have b36 := F36.binds (ps := ["sides", "side", "n"]) fun _ _ _ _ _ _ us hl => by
    obtain ⟨_, _, _, rfl⟩ := z3e hl
    rfl
  have F37 := z1b (st := slawroom) l37 q37 k37
  have b37 := F37.binds (ps := ["sides"]) fun _ _ _ _ _ _ us hl => by
    obtain ⟨_, rfl⟩ := z2q hl
    rfl
  have F38 := z1b (st := slawspread) l38 q38 k38
  have b38 := F38.binds (ps := ["sides", "side", "n"]) fun _ _ _ _ _ _ us hl => by
    obtain ⟨_, _, _, rfl⟩ := z3e hl
    rfl
  have F39 := z1b (st := slawlonger) l39 q39 k39
  have b39 := F39.binds (ps := ["sides", "n"]) fun _ _ _ _ _ _ us hl => by
    obtain ⟨_, _, rfl⟩ := z1j hl
    rfl
  have F40 := z1b (st := slawdoing) l40 q40 k40
  have b40 := F40.binds (ps := ["sides", "one", "kinds"]) fun _ _ _ _ _ _ us hl => by
    obtain ⟨_, _, _, rfl⟩ := z3e hl
    rfl
  have F41 := z1b (st := slawbehind) l41 q41 k41
  have b41 := F41.binds (ps := ["sides", "doing"]) fun _ _ _ _ _ _ us hl => by
    obtain ⟨_, _, rfl⟩ := z1j hl
    rfl
  have F42 := z1b (st := slawviewed) l42 q42 k42
  have b42 := F42.binds (ps := ["view", "doing"]) fun _ _ _ _ _ _ us hl => by
    obtain ⟨_, _, rfl⟩ := z1j hl
    rfl
  have F43 := z1b (st := slawmoved) l43 q43 k43
  have b43 := F43.binds (ps := ["tab", "doing"]) fun _ _ _ _ _ _ us hl => by
    obtain ⟨_, _, rfl⟩ := z1j hl
    rfl
  have F44 := z1b (st := slawsmall) l44 q44 k44
  have b44 := F44.binds (ps := ["sides"]) fun _ _ _ _ _ _ us hl => by
    obtain ⟨_, rfl⟩ := z2q hl
    rfl
  have F45 := z1b (st := slawshows) l45 q45 k45
  have b45 := F45.binds (ps := ["view", "cells", "tab"]) fun _ _ _ _ _ _ us hl => by
    obtain ⟨_, _, _, rfl⟩ := z3e hl
    rfl
  have F46 := z1b (st := slaw) l46 q46 k46
  have b46 := F46.binds (ps := ["script"]) fun _ _ _ _ _ _ us hl => by
    obtain ⟨_, rfl⟩ := z2q hl
    rfl
  refine ⟨PySem.W.fnOf "law" "law" (defArgs slaw) (defBody slaw) (defScope slaw) .none kV46 dc46 pm46 an46 cd46 ct46, [("seen_through", c28, TV), ("lead", c29, TL), ("turn", c30, TT), ("flip", c31, TP), ("cut", c32, TU), ("spread", c33, TS)], (fc ⟨z3w a28 l28 rfl h4_28 h5_28, by simp⟩ (fc ⟨z3w a29 l29 rfl h4_29 h5_29, by simp⟩ (fc ⟨z3w a30 l30 rfl h4_30 h5_30, by simp⟩ (fc ⟨z3w a31 l31 rfl h4_31 h5_31, by simp⟩ (fc ⟨z3w a32 l32 rfl h4_32 h5_32, by simp⟩ (fc ⟨z3w a33 l33 rfl h4_33 h5_33, by simp⟩ fc0)))))), fun s v => .of_eq rfl, fun base KB GB tf => ?_⟩
  have O_amount := okamount (P := l.prog) (w := w) (base := base) (mg := mg) F0
  have C_amount := Callee.mk' F0 (PySem.W.mg_of X G a0) b0 O_amount
  have O_breadth := okbreadth (P := l.prog) (w := w) (base := base) (mg := mg) F1 (C_amount.mono (by decide))
  have C_breadth := Callee.mk' F1 (PySem.W.mg_of X G a1) b1 O_breadth
  have O_allowed := okallowed (P := l.prog) (w := w) (base := base) (mg := mg) F2 nTooLarge (C_breadth.mono (by decide)) (PySem.W.mg_none_of X G zlen) (PySem.W.mg_of X G gMOST_SIDES) (PySem.W.mg_of X G gMOST_BREADTH) xTooLarge
  have C_allowed := Callee.mk' F2 (PySem.W.mg_of X G a2) b2 O_allowed
  have O_stridesof := okstridesof (P := l.prog) (w := w) (base := base) (mg := mg) F3 (PySem.W.mg_none_of X G ztuple) (PySem.W.mg_none_of X G zreversed)
  have C_stridesof := Callee.mk' F3 (PySem.W.mg_of X G a3) b3 O_stridesof
  have O_placeof := okplaceof (P := l.prog) (w := w) (base := base) (mg := mg) F4 nNoPlace (C_stridesof.mono (by decide)) (PySem.W.mg_none_of X G zlen) (PySem.W.mg_none_of X G zzip) (PySem.W.mg_none_of X G zsum) xNoPlace
  have C_placeof := Callee.mk' F4 (PySem.W.mg_of X G a4) b4 O_placeof
  have O_atof := okatof (P := l.prog) (w := w) (base := base) (mg := mg) F5 nNoPlace (C_amount.mono (by decide)) (PySem.W.mg_none_of X G zreversed) (PySem.W.mg_none_of X G ztuple) xNoPlace
  have C_atof := Callee.mk' F5 (PySem.W.mg_of X G a5) b5 O_atof
  have O_allat := okallat (P := l.prog) (w := w) (base := base) (mg := mg) F6 (C_atof.mono (by decide)) (C_amount.mono (by decide)) (PySem.W.mg_none_of X G zrange)
  have C_allat := Callee.mk' F6 (PySem.W.mg_of X G a6) b6 O_allat
  have O_changedat := okchangedat (P := l.prog) (w := w) (base := base) (mg := mg) F7
  have C_changedat := Callee.mk' F7 (PySem.W.mg_of X G a7) b7 O_changedat
  have O_addedat := okaddedat (P := l.prog) (w := w) (base := base) (mg := mg) F8
  have C_addedat := Callee.mk' F8 (PySem.W.mg_of X G a8) b8 O_addedat
  have O_droppedat := okdroppedat (P := l.prog) (w := w) (base := base) (mg := mg) F9
  have C_droppedat := Callee.mk' F9 (PySem.W.mg_of X G a9) b9 O_droppedat
  have O_askside := okaskside (P := l.prog) (w := w) (base := base) (mg := mg) F10 nNoSide (PySem.W.mg_none_of X G zlen) xNoSide
  have C_askside := Callee.mk' F10 (PySem.W.mg_of X G a10) b10 O_askside
  have O_turnedsides := okturnedsides (P := l.prog) (w := w) (base := base) (mg := mg) F11 nNoSide (PySem.W.mg_none_of X G zsorted) (PySem.W.mg_none_of X G zlist) (PySem.W.mg_none_of X G zrange) (PySem.W.mg_none_of X G zlen) (PySem.W.mg_none_of X G ztuple) xNoSide
  have C_turnedsides := Callee.mk' F11 (PySem.W.mg_of X G a11) b11 O_turnedsides
  have O_flippedsides := z6q (P := l.prog) (w := w) (base := base) (mg := mg) F12 nNoSide (C_askside.mono (by decide))
  have C_flippedsides := Callee.mk' F12 (PySem.W.mg_of X G a12) b12 O_flippedsides
  have O_cutsides := okcutsides (P := l.prog) (w := w) (base := base) (mg := mg) F13 nNoSide nBeyond (C_askside.mono (by decide)) (C_changedat.mono (by decide)) xBeyond
  have C_cutsides := Callee.mk' F13 (PySem.W.mg_of X G a13) b13 O_cutsides
  have O_spreadsides := okspreadsides (P := l.prog) (w := w) (base := base) (mg := mg) F14 nNoSide nBeyond nTooLarge (C_addedat.mono (by decide)) (C_allowed.mono (by decide)) (PySem.W.mg_none_of X G zlen) xNoSide xBeyond
  have C_spreadsides := Callee.mk' F14 (PySem.W.mg_of X G a14) b14 O_spreadsides
  have O_ledsides := okledsides (P := l.prog) (w := w) (base := base) (mg := mg) F15 nUnlike (PySem.W.mg_none_of X G zlen) xUnlike
  have C_ledsides := Callee.mk' F15 (PySem.W.mg_of X G a15) b15 O_ledsides
  have O_wrapped := okwrapped (P := l.prog) (w := w) (base := base) (mg := mg) F16 (PySem.W.mg_of X G gLOW)
  have C_wrapped := Callee.mk' F16 (PySem.W.mg_of X G a16) b16 O_wrapped
  have O_tableof := oktableof (P := l.prog) (w := w) (base := base) (mg := mg) F17 nTooLarge nUnlike (C_allowed.mono (by decide)) (C_amount.mono (by decide)) (C_wrapped.mono (by decide)) (PySem.W.mg_none_of X G zlen) (PySem.W.mg_none_of X G ztuple) xUnlike
  have C_tableof := Callee.mk' F17 (PySem.W.mg_of X G a17) b17 O_tableof
  have O_tableby := oktableby (P := l.prog) (w := w) (base := base) (mg := mg) F18 (C_allat.mono (by decide)) (PySem.W.mg_none_of X G ztuple)
  have C_tableby := Callee.mk' F18 (PySem.W.mg_of X G a18) b18 O_tableby
  have O_cellat := okcellat (P := l.prog) (w := w) (base := base) (mg := mg) F19 (C_placeof.mono (by decide))
  have C_cellat := Callee.mk' F19 (PySem.W.mg_of X G a19) b19 O_cellat
  have O_plainview := okplainview (P := l.prog) (w := w) (base := base) (mg := mg) F20 (C_stridesof.mono (by decide))
  have C_plainview := Callee.mk' F20 (PySem.W.mg_of X G a20) b20 O_plainview
  have O_turnedview := okturnedview (P := l.prog) (w := w) (base := base) (mg := mg) F21 nNoSide (C_turnedsides.mono (by decide)) (PySem.W.mg_none_of X G ztuple) (PySem.W.mg_none_of X G zlen)
  have C_turnedview := Callee.mk' F21 (PySem.W.mg_of X G a21) b21 O_turnedview
  have O_flippedview := okflippedview (P := l.prog) (w := w) (base := base) (mg := mg) F22 nNoSide (C_flippedsides.mono (by decide)) (C_changedat.mono (by decide))
  have C_flippedview := Callee.mk' F22 (PySem.W.mg_of X G a22) b22 O_flippedview
  have O_cutview := okcutview (P := l.prog) (w := w) (base := base) (mg := mg) F23 nNoSide nBeyond (C_cutsides.mono (by decide)) (C_changedat.mono (by decide))
  have C_cutview := Callee.mk' F23 (PySem.W.mg_of X G a23) b23 O_cutview
  have O_spreadview := okspreadview (P := l.prog) (w := w) (base := base) (mg := mg) F24 nNoSide nBeyond nTooLarge (C_spreadsides.mono (by decide)) (C_addedat.mono (by decide))
  have C_spreadview := Callee.mk' F24 (PySem.W.mg_of X G a24) b24 O_spreadview
  have O_ledview := okledview (P := l.prog) (w := w) (base := base) (mg := mg) F25 nUnlike (C_ledsides.mono (by decide)) (PySem.W.mg_none_of X G zlen)
  have C_ledview := Callee.mk' F25 (PySem.W.mg_of X G a25) b25 O_ledview
  have O_spotof := okspotof (P := l.prog) (w := w) (base := base) (mg := mg) F26 (PySem.W.mg_none_of X G zlen) (PySem.W.mg_none_of X G zzip) (PySem.W.mg_none_of X G zsum)
  have C_spotof := Callee.mk' F26 (PySem.W.mg_of X G a26) b26 O_spotof
  have O_spanof := okspanof (P := l.prog) (w := w) (base := base) (mg := mg) F27 (C_amount.mono (by decide)) (PySem.W.mg_none_of X G zzip) (PySem.W.mg_none_of X G zsum) (PySem.W.mg_none_of X G zmin) (PySem.W.mg_none_of X G zmax)
  have C_spanof := Callee.mk' F27 (PySem.W.mg_of X G a27) b27 O_spanof
  have O_seenthrough := okseenthrough (P := l.prog) (w := w) (base := base) (mg := mg) F28 rfl (tf ("seen_through", c28, TV) (by simp)) nBeyond (C_tableby.mono (by decide)) (C_spanof.mono (by decide)) (PySem.W.mg_none_of X G zlen) xBeyond (C_spotof.mono (by decide))
  have C_seenthrough := Callee.mk' F28 (PySem.W.mg_of X G a28) b28 O_seenthrough
  have O_lead := oklead (P := l.prog) (w := w) (base := base) (mg := mg) F29 rfl (tf ("lead", c29, TL) (by simp)) nUnlike (C_tableby.mono (by decide)) (C_ledsides.mono (by decide)) (PySem.W.mg_none_of X G zlen) (C_cellat.mono (by decide))
  have C_lead := Callee.mk' F29 (PySem.W.mg_of X G a29) b29 O_lead
  have O_turn := okturn (P := l.prog) (w := w) (base := base) (mg := mg) F30 rfl (tf ("turn", c30, TT) (by simp)) nNoSide (C_tableby.mono (by decide)) (C_turnedsides.mono (by decide)) (PySem.W.mg_none_of X G zrange) (PySem.W.mg_none_of X G zlen) (PySem.W.mg_none_of X G ztuple) (C_cellat.mono (by decide))
  have C_turn := Callee.mk' F30 (PySem.W.mg_of X G a30) b30 O_turn
  have O_flip := okflip (P := l.prog) (w := w) (base := base) (mg := mg) F31 rfl (tf ("flip", c31, TP) (by simp)) nNoSide (C_tableby.mono (by decide)) (C_flippedsides.mono (by decide)) (C_cellat.mono (by decide)) (C_changedat.mono (by decide))
  have C_flip := Callee.mk' F31 (PySem.W.mg_of X G a31) b31 O_flip
  have O_cut := okcut (P := l.prog) (w := w) (base := base) (mg := mg) F32 rfl (tf ("cut", c32, TU) (by simp)) nNoSide nBeyond (C_tableby.mono (by decide)) (C_cutsides.mono (by decide)) (C_cellat.mono (by decide)) (C_changedat.mono (by decide))
  have C_cut := Callee.mk' F32 (PySem.W.mg_of X G a32) b32 O_cut
  have O_spread := okspread (P := l.prog) (w := w) (base := base) (mg := mg) F33 rfl (tf ("spread", c33, TS) (by simp)) nNoSide nBeyond nTooLarge (C_tableby.mono (by decide)) (C_spreadsides.mono (by decide)) (C_cellat.mono (by decide)) (C_droppedat.mono (by decide))
  have C_spread := Callee.mk' F33 (PySem.W.mg_of X G a33) b33 O_spread
  have O_lawsides := oklawsides (P := l.prog) (w := w) (base := base) (mg := mg) F34 (PySem.W.mg_none_of X G zmin) (PySem.W.mg_none_of X G zmax)
  have C_lawsides := Callee.mk' F34 (PySem.W.mg_of X G a34) b34 O_lawsides
  have O_laworder := oklaworder (P := l.prog) (w := w) (base := base) (mg := mg) F35 (PySem.W.mg_none_of X G zlist) (PySem.W.mg_none_of X G zrange) (PySem.W.mg_none_of X G zlen) (PySem.W.mg_none_of X G ztuple)
  have C_laworder := Callee.mk' F35 (PySem.W.mg_of X G a35) b35 O_laworder
  have O_lawcut := oklawcut (P := l.prog) (w := w) (base := base) (mg := mg) F36 (PySem.W.mg_none_of X G zlen) (PySem.W.mg_none_of X G zmax) (PySem.W.mg_none_of X G zmin)
  have C_lawcut := Callee.mk' F36 (PySem.W.mg_of X G a36) b36 O_lawcut
  have O_lawroom := oklawroom (P := l.prog) (w := w) (base := base) (mg := mg) F37 (PySem.W.mg_none_of X G zmax)
  have C_lawroom := Callee.mk' F37 (PySem.W.mg_of X G a37) b37 O_lawroom
  have O_lawspread := oklawspread (P := l.prog) (w := w) (base := base) (mg := mg) F38 (C_lawroom.mono (by decide)) (PySem.W.mg_none_of X G zmin)
  have C_lawspread := Callee.mk' F38 (PySem.W.mg_of X G a38) b38 O_lawspread
  have O_lawlonger := oklawlonger (P := l.prog) (w := w) (base := base) (mg := mg) F39 (C_lawroom.mono (by decide)) (PySem.W.mg_none_of X G zrange) (PySem.W.mg_none_of X G zlen) (PySem.W.mg_none_of X G zmin)
  have C_lawlonger := Callee.mk' F39 (PySem.W.mg_of X G a39) b39 O_lawlonger
  have O_lawdoing := oklawdoing (P := l.prog) (w := w) (base := base) (mg := mg) F40 (C_laworder.mono (by decide)) (C_lawcut.mono (by decide)) (C_lawspread.mono (by decide)) (C_lawlonger.mono (by decide)) (PySem.W.mg_none_of X G zlen)
  have C_lawdoing := Callee.mk' F40 (PySem.W.mg_of X G a40) b40 O_lawdoing
  have O_lawbehind := oklawbehind (P := l.prog) (w := w) (base := base) (mg := mg) F41 (C_lawroom.mono (by decide)) (PySem.W.mg_none_of X G zsorted) (PySem.W.mg_none_of X G zlist) (PySem.W.mg_none_of X G zrange) (PySem.W.mg_none_of X G zlen) (PySem.W.mg_none_of X G ztuple)
  have C_lawbehind := Callee.mk' F41 (PySem.W.mg_of X G a41) b41 O_lawbehind
  have O_lawviewed := oklawviewed (P := l.prog) (w := w) (base := base) (mg := mg) F42 nNoSide nBeyond nTooLarge nUnlike (C_turnedview.mono (by decide)) (C_ledview.mono (by decide)) (C_spreadview.mono (by decide)) (C_cutview.mono (by decide)) (C_flippedview.mono (by decide))
  have C_lawviewed := Callee.mk' F42 (PySem.W.mg_of X G a42) b42 O_lawviewed
  have O_lawmoved := oklawmoved (P := l.prog) (w := w) (base := base) (mg := mg) F43 nNoSide nBeyond nTooLarge nUnlike (C_turn.mono (by decide)) (C_lead.mono (by decide)) (C_spread.mono (by decide)) (C_cut.mono (by decide)) (C_flip.mono (by decide)) nd6
  have C_lawmoved := Callee.mk' F43 (PySem.W.mg_of X G a43) b43 O_lawmoved
  have O_lawsmall := oklawsmall (P := l.prog) (w := w) (base := base) (mg := mg) F44
  have C_lawsmall := Callee.mk' F44 (PySem.W.mg_of X G a44) b44 O_lawsmall
  have O_lawshows := oklawshows (P := l.prog) (w := w) (base := base) (mg := mg) F45 nBeyond (C_seenthrough.mono (by decide)) (PySem.W.mg_none_of X G zlist) (PySem.W.mg_none_of X G zisinstance) (PySem.W.mg_none_of X G ztuple) (PySem.W.mg_none_of X G zlen) (PySem.W.mg_none_of X G zzip) (PySem.W.mg_none_of X G zint) (PySem.W.mg_none_of X G zbool) nd6
  have C_lawshows := Callee.mk' F45 (PySem.W.mg_of X G a45) b45 O_lawshows
  have O_law := oklaw (P := l.prog) (w := w) (base := base) (mg := mg) F46 nTooLarge nUnlike (C_lawsides.mono (by decide)) (C_tableof.mono (by decide)) (C_plainview.mono (by decide)) (C_lawdoing.mono (by decide)) (C_lawbehind.mono (by decide)) (C_lawsmall.mono (by decide)) (C_lawviewed.mono (by decide)) (C_lawmoved.mono (by decide)) (C_lawshows.mono (by decide)) (PySem.W.mg_none_of X G ztuple) (PySem.W.mg_none_of X G zmax) (PySem.W.mg_none_of X G zlen) (PySem.W.mg_none_of X G zrange) nd6
  exact O_law
open PySem.W in
theorem walk {l : PySem.W.OpenLaw} {q : Program} {loose : List Str} {XP : (Str -> Option Value) -> Heap -> Prop} {YP : World -> Heap -> Prop} {d : DefRec} {K : Params -> PySem.W.Frag} (hn : l.most = some 63) (hdf : d.params.defaults = [])
    (hY : ∀ (w : World) (h : Heap), YP w h -> (K w.params).In h) (hK0 : ∀ w : World, noTabs (K w.params) = true) (hrec : ∀ x ∈ (["seen_through", "lead", "turn", "flip", "cut", "spread"] : List Str), ((recsOf q).find? fun e => e.name == x).isSome = true)
    (F : ∀ (w : World) (mg : Str -> Option Value) (fa : Addr) (h : Heap), (K w.params).In h -> h.Ns mainGlobals mg -> mg d.name = some (.ref fa) ->
      ∃ (fd : FuncData) (tbs : List (Str × Addr × Addr)), (∀ p ∈ tbs, tabIn (K w.params) p.1 = some p.2 /\ p.1 ∈ (["seen_through", "lead", "turn", "flip", "cut", "spread"] : List Str)) /\ (∀ (s : Shared) (u : Value), BindsTo s fd ⟨[u], []⟩ [("script", u)]) /\ ∀ base : Heap, (K w.params).In base -> base.Ns mainGlobals mg -> (∀ p ∈ tbs, TabF base mg p.2.1 p.2.2) -> FnOk l.prog w (K w.params) mg base CX0 11 fa fd ["script"] (splawT (K w.params) (tbs.map fun p => p.2.2))) :
    PySem.W.WalkO q loose XP YP l.row.toRowW d [] (fun f vs => PySem.call f vs) :=
  L2.walk_ofT (n := 63) (k := 11) (x := "script") (CX := fun _ => CX0) (sp := fun w ts => splawT (K w.params) ts) hn (by decide) hdf ⟨rfl, by decide, by decide⟩ hY hK0 (fun w mg fa h a b c => by
    obtain ⟨fd, tbs, h1, h2⟩ := F w mg fa h a b c
    exact ⟨fd, tbs, fun p hp => ⟨(h1 p hp).1, hrec _ (h1 p hp).2⟩, h2⟩) (fun _ _ a ns ts hl hT hS => ⟨a, ns, rfl, hS, hl, hT, fun _ => rfl⟩) fun _ _ _ _ _ z => z
end My
open PySem PySem.W PyProof.Rows
set_option maxRecDepth 100000 in
set_option maxHeartbeats 0 in
theorem PySem.Challenge.cw_sideloom_k24_whole_views_and_tables_holds : PySem.Challenge.rw_sideloom_k24_whole_views_and_tables.Holds := by
  w_on; o_law; k_head; (case hw => w_witness2)
  k_fill
  refine My.walk (l := PySem.Challenge.rw_sideloom_k24_whole_views_and_tables) rfl rfl (fun w h Y => PySem.W.km_in_of Y) ?K0 ?rec ?F
  case K0 => intro w; kernel_rfl
  case rec => exact (My.fc (by kernel_rfl) (My.fc (by kernel_rfl) (My.fc (by kernel_rfl) (My.fc (by kernel_rfl) (My.fc (by kernel_rfl) (My.fc (by kernel_rfl) My.fc0))))))
  case F =>
    intro w mg fa h KX G hmg
    refine' My.all_mk KX G hmg ?a0 ?l0 ?q0 ?k0 ?a1 ?l1 ?q1 ?k1 ?a2 ?l2 ?q2 ?k2 ?a3 ?l3 ?q3 ?k3 ?a4 ?l4 ?q4 ?k4 ?a5 ?l5 ?q5 ?k5 ?a6 ?l6 ?q6 ?k6 ?a7 ?l7 ?q7 ?k7 ?a8 ?l8 ?q8 ?k8 ?a9 ?l9 ?q9 ?k9 ?a10 ?l10 ?q10 ?k10 ?a11 ?l11 ?q11 ?k11 ?a12 ?l12 ?q12 ?k12 ?a13 ?l13 ?q13 ?k13 ?a14 ?l14 ?q14 ?k14 ?a15 ?l15 ?q15 ?k15 ?a16 ?l16 ?q16 ?k16 ?a17 ?l17 ?q17 ?k17 ?a18 ?l18 ?q18 ?k18 ?a19 ?l19 ?q19 ?k19 ?a20 ?l20 ?q20 ?k20 ?a21 ?l21 ?q21 ?k21 ?a22 ?l22 ?q22 ?k22 ?a23 ?l23 ?q23 ?k23 ?a24 ?l24 ?q24 ?k24 ?a25 ?l25 ?q25 ?k25 ?a26 ?l26 ?q26 ?k26 ?a27 ?l27 ?q27 ?k27 ?a28 ?l28 ?q28 ?k28 ?h4_28 ?h5_28 ?a29 ?l29 ?q29 ?k29 ?h4_29 ?h5_29 ?a30 ?l30 ?q30 ?k30 ?h4_30 ?h5_30 ?a31 ?l31 ?q31 ?k31 ?h4_31 ?h5_31 ?a32 ?l32 ?q32 ?k32 ?h4_32 ?h5_32 ?a33 ?l33 ?q33 ?k33 ?h4_33 ?h5_33 ?a34 ?l34 ?q34 ?k34 ?a35 ?l35 ?q35 ?k35 ?a36 ?l36 ?q36 ?k36 ?a37 ?l37 ?q37 ?k37 ?a38 ?l38 ?q38 ?k38 ?a39 ?l39 ?q39 ?k39 ?a40 ?l40 ?q40 ?k40 ?a41 ?l41 ?q41 ?k41 ?a42 ?l42 ?q42 ?k42 ?a43 ?l43 ?q43 ?k43 ?a44 ?l44 ?q44 ?k44 ?a45 ?l45 ?q45 ?k45 ?a46 ?l46 ?q46 ?k46 ?zlen ?ztuple ?zreversed ?zzip ?zsum ?zrange ?zsorted ?zlist ?zmin ?zmax ?zisinstance ?zint ?zbool ?gMOST_SIDES ?gMOST_BREADTH ?gLOW ?nTooLarge ?nNoPlace ?nNoSide ?nBeyond ?nUnlike ?xTooLarge ?xUnlike ?xNoSide ?xBeyond ?xNoPlace ?nd6
    (case a0 => k_is)
    (case l0 => k_is)
    (case q0 => k_is)
    (case k0 => k_is)
    (case a1 => k_is)
    (case l1 => k_is)
    (case q1 => k_is)
    (case k1 => k_is)
    (case a2 => k_is)
    (case l2 => k_is)
    (case q2 => k_is)
    (case k2 => k_is)
    (case a3 => k_is)
    (case l3 => k_is)
    (case q3 => k_is)
    (case k3 => k_is)
    (case a4 => k_is)
    (case l4 => k_is)
    (case q4 => k_is)
    (case k4 => k_is)
    (case a5 => k_is)
    (case l5 => k_is)
    (case q5 => k_is)
    (case k5 => k_is)
    (case a6 => k_is)
    (case l6 => k_is)
    (case q6 => k_is)
    (case k6 => k_is)
    (case a7 => k_is)
    (case l7 => k_is)
    (case q7 => k_is)
    (case k7 => k_is)
    (case a8 => k_is)
    (case l8 => k_is)
    (case q8 => k_is)
    (case k8 => k_is)
    (case a9 => k_is)
    (case l9 => k_is)
    (case q9 => k_is)
    (case k9 => k_is)
    (case a10 => k_is)
    (case l10 => k_is)
    (case q10 => k_is)
    (case k10 => k_is)
    (case a11 => k_is)
    (case l11 => k_is)
    (case q11 => k_is)
    (case k11 => k_is)
    (case a12 => k_is)
    (case l12 => k_is)
    (case q12 => k_is)
    (case k12 => k_is)
    (case a13 => k_is)
    (case l13 => k_is)
    (case q13 => k_is)
    (case k13 => k_is)
    (case a14 => k_is)
    (case l14 => k_is)
    (case q14 => k_is)
    (case k14 => k_is)
    (case a15 => k_is)
    (case l15 => k_is)
    (case q15 => k_is)
    (case k15 => k_is)
    (case a16 => k_is)
    (case l16 => k_is)
    (case q16 => k_is)
    (case k16 => k_is)
    (case a17 => k_is)
    (case l17 => k_is)
    (case q17 => k_is)
    (case k17 => k_is)
    (case a18 => k_is)
    (case l18 => k_is)
    (case q18 => k_is)
    (case k18 => k_is)
    (case a19 => k_is)
    (case l19 => k_is)
    (case q19 => k_is)
    (case k19 => k_is)
    (case a20 => k_is)
    (case l20 => k_is)
    (case q20 => k_is)
    (case k20 => k_is)
    (case a21 => k_is)
    (case l21 => k_is)
    (case q21 => k_is)
    (case k21 => k_is)
    (case a22 => k_is)
    (case l22 => k_is)
    (case q22 => k_is)
    (case k22 => k_is)
    (case a23 => k_is)
    (case l23 => k_is)
    (case q23 => k_is)
    (case k23 => k_is)
    (case a24 => k_is)
    (case l24 => k_is)
    (case q24 => k_is)
    (case k24 => k_is)
    (case a25 => k_is)
    (case l25 => k_is)
    (case q25 => k_is)
    (case k25 => k_is)
    (case a26 => k_is)
    (case l26 => k_is)
    (case q26 => k_is)
    (case k26 => k_is)
    (case a27 => k_is)
    (case l27 => k_is)
    (case q27 => k_is)
    (case k27 => k_is)
    (case a28 => k_is)
    (case l28 => k_is)
    (case q28 => k_is)
    (case k28 => k_is)
    (case h4_28 => k_is)
    (case h5_28 => rfl)
    (case a29 => k_is)
    (case l29 => k_is)
    (case q29 => k_is)
    (case k29 => k_is)
    (case h4_29 => k_is)
    (case h5_29 => rfl)
    (case a30 => k_is)
    (case l30 => k_is)
    (case q30 => k_is)
    (case k30 => k_is)
    (case h4_30 => k_is)
    (case h5_30 => rfl)
    (case a31 => k_is)
    (case l31 => k_is)
    (case q31 => k_is)
    (case k31 => k_is)
    (case h4_31 => k_is)
    (case h5_31 => rfl)
    (case a32 => k_is)
    (case l32 => k_is)
    (case q32 => k_is)
    (case k32 => k_is)
    (case h4_32 => k_is)
    (case h5_32 => rfl)
    (case a33 => k_is)
    (case l33 => k_is)
    (case q33 => k_is)
    (case k33 => k_is)
    (case h4_33 => k_is)
    (case h5_33 => rfl)
    (case a34 => k_is)
    (case l34 => k_is)
    (case q34 => k_is)
    (case k34 => k_is)
    (case a35 => k_is)
    (case l35 => k_is)
    (case q35 => k_is)
    (case k35 => k_is)
    (case a36 => k_is)
    (case l36 => k_is)
    (case q36 => k_is)
    (case k36 => k_is)
    (case a37 => k_is)
    (case l37 => k_is)
    (case q37 => k_is)
    (case k37 => k_is)
    (case a38 => k_is)
    (case l38 => k_is)
    (case q38 => k_is)
    (case k38 => k_is)
    (case a39 => k_is)
    (case l39 => k_is)
    (case q39 => k_is)
    (case k39 => k_is)
    (case a40 => k_is)
    (case l40 => k_is)
    (case q40 => k_is)
    (case k40 => k_is)
    (case a41 => k_is)
    (case l41 => k_is)
    (case q41 => k_is)
    (case k41 => k_is)
    (case a42 => k_is)
    (case l42 => k_is)
    (case q42 => k_is)
    (case k42 => k_is)
    (case a43 => k_is)
    (case l43 => k_is)
    (case q43 => k_is)
    (case k43 => k_is)
    (case a44 => k_is)
    (case l44 => k_is)
    (case q44 => k_is)
    (case k44 => k_is)
    (case a45 => k_is)
    (case l45 => k_is)
    (case q45 => k_is)
    (case k45 => k_is)
    (case a46 => k_is)
    (case l46 => k_is)
    (case q46 => k_is)
    (case k46 => k_is)
    (case zlen => k_is)
    (case ztuple => k_is)
    (case zreversed => k_is)
    (case zzip => k_is)
    (case zsum => k_is)
    (case zrange => k_is)
    (case zsorted => k_is)
    (case zlist => k_is)
    (case zmin => k_is)
    (case zmax => k_is)
    (case zisinstance => k_is)
    (case zint => k_is)
    (case zbool => k_is)
    (case gMOST_SIDES => k_is)
    (case gMOST_BREADTH => k_is)
    (case gLOW => k_is)
    (case nTooLarge => k_is)
    (case nNoPlace => k_is)
    (case nNoSide => k_is)
    (case nBeyond => k_is)
    (case nUnlike => k_is)
    (case xTooLarge => k_exc)
    (case xUnlike => k_exc)
    (case xNoSide => k_exc)
    (case xBeyond => k_exc)
    (case xNoPlace => k_exc)
    (case nd6 => decide)
