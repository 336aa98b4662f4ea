import PyProof.Rows.All
import Wide.All
import OpenK.AllK
import Wide.FinOn
import Lean
import PyProof.EqAt
import PyProof.EqKinds
import PyProof.TupleCall
import PySem.Challenge.RW_sideloom_k32_sides_told_ahead
set_option Elab.async false
set_option linter.all false
set_option maxRecDepth 100000
namespace L2
open PySem PySem.Spec PyProof.Rows
abbrev Key := Sum Int Str
def keyIs : Key -> Value -> Bool
  | .inl k, v => Value.isInt k v
  | .inr x, v => Value.isStrOf x v
def keyH (w : World) : Key -> Int
  | .inl k => hashInt k
  | .inr x => hashStr w x
theorem z1t : ∀ {k : Key} {v : Value}, keyIs k v = true -> (∃ i t, k = Sum.inl i /\ v = Value.int i t) \/ (∃ x t, k = Sum.inr x /\ v = Value.str x t)
  | .inl i, v, h => by
    obtain ⟨t, e⟩ := Value.isInt_shape (k := i) (v := v) h
    exact .inl ⟨i, t, rfl, e⟩
  | .inr x, v, h => by
    obtain ⟨t, e⟩ := Value.isStrOf_shape (x := x) (v := v) h
    exact .inr ⟨x, t, rfl, e⟩
theorem keyIs_str (x : Str) (t : Tok) : keyIs (.inr x) (.str x t) = true := by simp [keyIs, Value.isStrOf]
theorem key_ll (a b : Int) : decide ((Sum.inl a : Key) = Sum.inl b) = (a == b) := by
  by_cases e : a = b
  · subst e; simp
  · have h : ¬ (Sum.inl a : Key) = Sum.inl b := fun q => e (Sum.inl.inj q)
    rw [decide_eq_false h]
    exact (beq_eq_false_iff_ne.mpr e).symm
theorem key_rr (a b : Str) : decide ((Sum.inr a : Key) = Sum.inr b) = decide (a = b) := by
  by_cases e : a = b
  · subst e; simp
  · have h : ¬ (Sum.inr a : Key) = Sum.inr b := fun q => e (Sum.inr.inj q)
    rw [decide_eq_false h, decide_eq_false e]
theorem key_lr (a : Int) (b : Str) : decide ((Sum.inl a : Key) = Sum.inr b) = false := decide_eq_false (fun q => nomatch q)
theorem key_rl (a : Str) (b : Int) : decide ((Sum.inr a : Key) = Sum.inl b) = false := decide_eq_false (fun q => nomatch q)
def mixKind (prog : Program) (w : World) : PySem.KeyKind prog w Key where
  is := keyIs
  hash := keyH w
  inj := fun v a b ha hb => by
    rcases z1t ha with ⟨i, t, rfl, rfl⟩ | ⟨x, t, rfl, rfl⟩
    · rcases z1t hb with ⟨j, u, rfl, e⟩ | ⟨y, u, rfl, e⟩
      · injection e with e1 _; rw [e1]
      · exact nomatch e
    · rcases z1t hb with ⟨j, u, rfl, e⟩ | ⟨y, u, rfl, e⟩
      · exact nomatch e
      · injection e with e1 _; rw [e1]
  byValue := fun k v h => by
    rcases z1t h with ⟨i, t, rfl, rfl⟩ | ⟨x, t, rfl, rfl⟩ <;> rfl
  pyHash := fun hv h => by
    rcases z1t hv with ⟨i, t, rfl, rfl⟩ | ⟨x, t, rfl, rfl⟩
    · exact wpAny_pyHash_int h
    · exact wpAny_pyHash_str h
  eqBool := fun hu hv h => by
    rcases z1t hu with ⟨i, t, rfl, rfl⟩ | ⟨x, t, rfl, rfl⟩
    · rcases z1t hv with ⟨j, u, rfl, rfl⟩ | ⟨y, u, rfl, rfl⟩
      · rw [key_ll] at h; exact wpAny_eqBool_int h
      · rw [key_lr] at h; exact SeqAt.EqAt.int_str i t y u _ _ _ _ h
    · rcases z1t hv with ⟨j, u, rfl, rfl⟩ | ⟨y, u, rfl, rfl⟩
      · rw [key_rl] at h; exact SeqAt.EqAt.str_int x t j u _ _ _ _ h
      · rw [key_rr] at h; exact wpAny_eqBool_str h
  «strs» := fun k x t v h => by
    rcases z1t h with ⟨i, u, rfl, e⟩ | ⟨y, u, rfl, e⟩
    · exact nomatch e
    · injection e with e1 _
      subst e1
      cases v <;> rfl
inductive V where
  | non | bl (b : Bool) | int (i : Int) | str (x : Str) | byt (b : Array UInt8) | flt (b : UInt64) | ref (a : Addr) | ty (n : String)
  deriving DecidableEq
def RelV : V -> Value -> Prop
  | .non, u => u = Value.none
  | .bl b, u => u = Value.bool b
  | .int i, u => ∃ t, u = Value.int i t
  | .str x, u => ∃ t, u = Value.str x t
  | .byt b, u => ∃ t, u = Value.bytes b t
  | .flt b, u => ∃ t, u = Value.float b t
  | .ref a, u => u = Value.ref a
  | .ty n, u => u = Value.type n
abbrev Vals : List V -> List Value -> Prop := Paired RelV
theorem Vals.length {xs : List V} {us : List Value} (r : Vals xs us) : xs.length = us.length := Paired.length r
theorem Vals.get : ∀ {xs : List V} {us : List Value} {i : Nat} {x : V}, Vals xs us -> xs[i]? = some x -> ∃ u, us[i]? = some u /\ RelV x u
  | _, _, _, _, .nil, e => by simp at e
  | _, _, 0, _, .cons r _, e => by simp at e; subst e; exact ⟨_, rfl, r⟩
  | _, _, i + 1, x, .cons _ t, e => by
    obtain ⟨u, h1, h2⟩ := Vals.get (i := i) (x := x) t (by simpa using e)
    exact ⟨u, by simpa using h1, h2⟩
theorem Vals.set {x : V} {u : Value} (r : RelV x u) : ∀ {xs : List V} {us : List Value} (i : Nat), Vals xs us -> Vals (xs.set i x) (us.set i u)
  | _, _, _, .nil => .nil
  | _, _, 0, .cons _ t => .cons r t
  | _, _, i + 1, .cons q t => .cons q (Vals.set r i t)
theorem Vals.append : ∀ {xs ys : List V} {us ws : List Value}, Vals xs us -> Vals ys ws -> Vals (xs ++ ys) (us ++ ws)
  | _, _, _, _, .nil, s => s
  | _, _, _, _, .cons r t, s => .cons r (Vals.append t s)
theorem Vals.take : ∀ {xs : List V} {us : List Value} (n : Nat), Vals xs us -> Vals (xs.take n) (us.take n)
  | _, _, 0, _ => .nil
  | _, _, _ + 1, .nil => .nil
  | _, _, n + 1, .cons r t => .cons r (Vals.take n t)
theorem Vals.drop : ∀ {xs : List V} {us : List Value} (n : Nat), Vals xs us -> Vals (xs.drop n) (us.drop n)
  | _, _, 0, r => r
  | _, _, _ + 1, .nil => .nil
  | _, _, n + 1, .cons _ t => Vals.drop n t
def RelO : Option V -> Option Value -> Prop
  | some v, some u => RelV v u
  | none, none => True
  | _, _ => False
def KV {κ : Type} : List (κ × V) -> List (κ × Value) -> Prop := Paired fun (p : κ × V) (q : κ × Value) => p.1 = q.1 /\ RelV p.2 q.2
def kV : Key -> V
  | .inl i => .int i
  | .inr x => .str x
inductive HO where
  | lst (xs : List V)
  | tup (xs : List V)
  | dK (kvs : List (Key × V)) | dT (kvs : List (List Key × V))
  | set (S : Int -> Bool) (n : Nat)
  | ins (C dx : Addr) (fs : List (Str × V))
  | own (x : Addr)
  | xd (fs : List (Str × V))
  | met (f x : Addr)
  | rng (lo hi : Int)
  | frz (o : Obj) (u : HO)
  | tbl (ps : Array Value)
  | ext (φ : Heap -> Prop)
abbrev Hp := Addr -> Option HO
def upd (H : Hp) (a : Addr) (o : HO) : Hp := fun b => if b = a then some o else H b
theorem z0g {H : Hp} {a : Addr} {o : HO} : upd H a o a = some o := by unfold upd; rw [if_pos rfl]
theorem z1c {H : Hp} {a b : Addr} {o : HO} (h : b ≠ a) : upd H a o b = H b := by unfold upd; rw [if_neg h]
theorem z2k {H : Hp} {a b : Addr} {o : HO} (h : H a = some o) (h' : H b = none) : a ≠ b := by
  intro e; subst e; rw [h] at h'; cases h'
section
variable (P : Program) (w : World)
def ObjOk (H : Hp) (h : Heap) (a : Addr) : HO -> Prop
  | .lst xs => xs.length ≤ sizeLine /\ ∃ (its : List Value) (n : Nat), Vals xs its /\ h.get? a = some { cls := .type "list", data := .seq its.toArray n }
  | .tup xs => xs.length ≤ sizeLine /\ ∃ its : List Value, Vals xs its /\ IsTup h a its.toArray
  | .dK kvs => kvs.length ≤ sizeLine /\ (a == sysModules) = false /\ ∃ vs, KV kvs vs /\ h.DictOf (mixKind P w) a vs
  | .dT kvs => kvs.length ≤ sizeLine /\ (a == sysModules) = false /\ ∃ xs : List (List Key × Addr × Value),
      Paired (fun (p : List Key × V) (q : List Key × Addr × Value) => p.1 = q.1 /\ H q.2.1 = some (.tup (p.1.map kV)) /\ RelV p.2 q.2.2) kvs xs /\
      ∃ o es ep, h.get? a = some o /\ o.ExactDict /\ o.data = .dict es ep /\ es.toList = xs.map (entryOfKey (tupleKind (mixKind P w))) /\ (xs.map (·.1)).Nodup
  | .set S n => h.SetOf (intKind P w) a S n
  | .ins C dx fs => H dx = some (.own a) /\ fs.length ≤ 1000 /\ dx ≠ a /\ h.get? a = some (PySem.W.instObj C dx) /\
      ∃ mA, h.Ns1 dx mA /\ (∀ f, RelO (fs.lookup f) (mA f)) /\ PySem.Within mA (fs.map (·.1))
  | .own _ => ∃ o, h.get? a = some o
  | .xd fs => ∃ mA, h.Ns1 a mA /\ ∀ f, RelO (fs.lookup f) (mA f)
  | .rng lo hi => ∃ t u v, h.get? a = some { cls := .type "range", data := .fields #[.int lo t, .int hi u, .int 1 v] }
  | .frz o u => h.get? a = some o /\ ObjOk H h a u
  | .tbl ps => h.get? a = some { cls := .none, data := .fields ps }
  | .met f x => h.get? a = some (PySem.W.methodObj (.ref f) (.ref x))
  | .ext φ => φ h /\ (∃ o, h.get? a = some o) /\ ∀ h1 h2 : Heap, φ h1 -> (∀ o, h1.get? a = some o -> h2.get? a = some o) -> φ h2
def HOk (H : Hp) (h : Heap) : Prop := ∀ a o, H a = some o -> ObjOk P w H h a o
end
section
variable {P : Program} {w : World} {H H' : Hp} {h h' : Heap} {a : Addr} {o : HO}
theorem ObjOk.lt (x : ObjOk P w H h a o) : a < h.objs.size := by
  cases o with
  | lst xs => obtain ⟨_, _, _, _, e⟩ := x; exact Heap.lt_size e
  | tup xs => obtain ⟨_, _, _, p⟩ := x; exact p.lt
  | dK kvs => obtain ⟨_, _, _, _, o, _, _, e, _⟩ := x; exact Heap.lt_size e
  | dT kvs => obtain ⟨_, _, _, _, o, _, _, e, _⟩ := x; exact Heap.lt_size e
  | set S n => obtain ⟨o, _, _, _, e, _⟩ := x; exact Heap.lt_size e
  | ins C dx fs => obtain ⟨_, _, _, e, _⟩ := x; exact Heap.lt_size e
  | own y => obtain ⟨_, e⟩ := x; exact Heap.lt_size e
  | xd fs => obtain ⟨_, ⟨_, _, _, e, _⟩, _⟩ := x; exact Heap.lt_size e
  | rng lo hi => obtain ⟨_, _, _, e⟩ := x; exact Heap.lt_size e
  | frz ob u => obtain ⟨e, _⟩ := x; exact Heap.lt_size e
  | tbl ps => exact Heap.lt_size (show h.get? a = some _ from x)
  | met f y => exact Heap.lt_size (show h.get? a = some _ from x)
  | ext φ => obtain ⟨_, ⟨_, e⟩, _⟩ := x; exact Heap.lt_size e
theorem Paired.mapP {α β : Type} {F G : α -> β -> Prop} : ∀ {l₁ : List α} {l₂ : List β}, Paired F l₁ l₂ -> (∀ a b, F a b -> G a b) -> Paired G l₁ l₂
  | _, _, .nil, _ => .nil
  | _, _, .cons r t, f => .cons (f _ _ r) (Paired.mapP t f)
theorem ObjOk.stay (x : ObjOk P w H h a o) (k : ∀ b u, (b = a \/ H b = some (.own a)) -> h.get? b = some u -> h'.get? b = some u)
    (ho : ∀ b, H b = some (.own a) -> H' b = some (.own a)) (ht : ∀ b xs, H b = some (.tup xs) -> H' b = some (.tup xs)) : ObjOk P w H' h' a o := by
  induction o with
  | lst xs => obtain ⟨z, its, n, r, e⟩ := x; exact ⟨z, its, n, r, k _ _ (.inl rfl) e⟩
  | tup xs => obtain ⟨z, its, r, ob, e, c⟩ := x; exact ⟨z, its, r, ob, k _ _ (.inl rfl) e, c⟩
  | dK kvs => obtain ⟨z, y, vs, r, ob, es, ep, e, c⟩ := x; exact ⟨z, y, vs, r, ob, es, ep, k _ _ (.inl rfl) e, c⟩
  | dT kvs =>
    obtain ⟨z, y, xs, r, ob, es, ep, e, c⟩ := x
    exact ⟨z, y, xs, Paired.mapP r fun p q z => ⟨z.1, ht _ _ z.2.1, z.2.2⟩, ob, es, ep, k _ _ (.inl rfl) e, c⟩
  | set S n => obtain ⟨ob, es, ep, t, e, c⟩ := x; exact ⟨ob, es, ep, t, k _ _ (.inl rfl) e, c⟩
  | ins C dx fs =>
    obtain ⟨d, z, ne, e, mA, ⟨od, es, ep, e2, c⟩, r⟩ := x
    exact ⟨ho _ d, z, ne, k _ _ (.inl rfl) e, mA, ⟨od, es, ep, k _ _ (.inr d) e2, c⟩, r⟩
  | own y => obtain ⟨ob, e⟩ := x; exact ⟨ob, k _ _ (.inl rfl) e⟩
  | xd fs => obtain ⟨mA, ⟨od, es, ep, e, c⟩, r⟩ := x; exact ⟨mA, ⟨od, es, ep, k _ _ (.inl rfl) e, c⟩, r⟩
  | rng lo hi => obtain ⟨t, u, v, e⟩ := x; exact ⟨t, u, v, k _ _ (.inl rfl) e⟩
  | frz ob u ih => obtain ⟨e, q⟩ := x; exact ⟨k _ _ (.inl rfl) e, ih q⟩
  | tbl ps =>
    have e : h.get? a = some { cls := .none, data := .fields ps } := x
    show h'.get? a = some { cls := .none, data := .fields ps }
    exact k a _ (.inl rfl) e
  | met f y =>
    have e : h.get? a = some (PySem.W.methodObj (.ref f) (.ref y)) := x
    show h'.get? a = some (PySem.W.methodObj (.ref f) (.ref y))
    exact k a _ (.inl rfl) e
  | ext φ => obtain ⟨p, ⟨o, e⟩, st⟩ := x; exact ⟨st _ _ p fun o q => k _ _ (.inl rfl) q, ⟨o, k _ _ (.inl rfl) e⟩, st⟩
theorem HOk.lt (x : HOk P w H h) (e : H a = some o) : a < h.objs.size := (x a o e).lt
theorem HOk.fresh (x : HOk P w H h) (e : h.objs.size ≤ a) : H a = none := by
  cases q : H a with
  | none => rfl
  | some u => exact absurd (Nat.lt_of_lt_of_le (x.lt q) e) (Nat.lt_irrefl _)
theorem HOk.kept (x : HOk P w H h) (k : ∀ b u, h.get? b = some u -> h'.get? b = some u) : HOk P w H h' := fun a o e =>
  (x a o e).stay (fun b u _ q => k b u q) (fun _ q => q) fun _ _ q => q
theorem HOk.laid (x : HOk P w H h) (k : ∀ b u, h.get? b = some u -> h'.get? b = some u) (hp : h.objs.size ≤ a) (new : ObjOk P w (upd H a o) h' a o) : HOk P w (upd H a o) h' := fun b u e => by
  have hn := x.fresh hp
  by_cases hb : b = a
  · subst hb; rw [z0g] at e; cases e; exact new
  · rw [z1c hb] at e
    exact (x b u e).stay (fun c v _ q => k c v q) (fun c q => by rw [z1c (z2k q hn)]; exact q) fun c xs q => by rw [z1c (z2k q hn)]; exact q
end
def Rd (H : Hp) (a : Addr) (u : HO) : Prop := H a = some u \/ ∃ o, H a = some (.frz o u)
theorem Rd.of {H : Hp} {a : Addr} {u : HO} (h : H a = some u) : Rd H a u := .inl h
theorem Rd.ok {P : Program} {w : World} {H : Hp} {h : Heap} {a : Addr} {u : HO} (r : Rd H a u) (x : HOk P w H h) : ObjOk P w H h a u := by
  rcases r with r | ⟨o, r⟩
  · exact x a u r
  · obtain ⟨_, q⟩ := x a _ r
    exact q
def Mut : Option HO -> Prop
  | some (.lst _) => True
  | some (.dK _) => True
  | some (.dT _) => True
  | some (.set _ _) => True
  | some (.ins _ _ _) => True
  | some (.ext _) => True
  | _ => False
section
variable {P : Program} {w : World} {H : Hp} {h h' : Heap} {x e : Addr} {o' : HO}
theorem HOk.write (ok : HOk P w H h) (mu : Mut (H x)) (he : e = x \/ H e = some (.own x)) (k : ∀ b u, b ≠ e -> h.get? b = some u -> h'.get? b = some u) (heo : ∃ u, h'.get? e = some u)
    (new : ObjOk P w (upd H x o') h' x o') : HOk P w (upd H x o') h' := fun b u q => by
  have nown : ∀ c y, H c = some (.own y) -> c ≠ x := fun c y r z => by subst z; rw [r] at mu; exact mu
  have ntup : ∀ c xs, H c = some (.tup xs) -> c ≠ x := fun c xs r z => by subst z; rw [r] at mu; exact mu
  by_cases hb : b = x
  · subst hb; rw [z0g] at q; cases q; exact new
  · rw [z1c hb] at q
    by_cases hbe : b = e
    · have q' : H b = some (.own x) := by
        rcases he with z | z
        · exact absurd (hbe.trans z) hb
        · rw [hbe]; exact z
      rw [q] at q'; cases q'
      obtain ⟨v, hv⟩ := heo
      exact ⟨v, by rw [hbe]; exact hv⟩
    · refine (ok b u q).stay (fun c v hc r => k c v ?_ r) (fun c r => by rw [z1c (nown c b r)]; exact r) fun c xs r => by rw [z1c (ntup c xs r)]; exact r
      rcases hc with rfl | hc
      · exact hbe
      · rintro rfl
        rcases he with z | z
        · exact nown c b hc z
        · rw [hc] at z; cases z; exact hb rfl
end
structure Un (fs ex : List Addr) (H H' : Hp) (h h' : Heap) : Prop where
  keep : ∀ b o, h.get? b = some o -> H b = none -> b ∉ fs -> b ∉ ex -> h'.get? b = some o
  slot : ∀ b o, h.get? b = some o -> H b = none -> b ∈ fs -> b ∉ ex -> ∃ sl, h'.get? b = some { o with slots := sl }
  free : ∀ b o, h.get? b = some o -> H b = none -> b ∉ ex -> H' b = none
  there : ∀ b o, h.get? b = some o -> b ∉ ex -> ∃ o', h'.get? b = some o'
  tups : ∀ b xs, H b = some (.tup xs) -> H' b = some (.tup xs)
  frzs : ∀ b o u, H b = some (.frz o u) -> H' b = some (.frz o u)
  tbls : ∀ b ps, H b = some (.tbl ps) -> ∃ more, H' b = some (.tbl (ps ++ more))
section
variable {fs fs' ex ex' : List Addr} {H H1 H2 : Hp} {h h1 h2 h' : Heap} {a x e : Addr} {o : HO}
theorem Un.any (u : Un fs ex H H1 h h1) {b : Addr} {ob : Obj} (q : h.get? b = some ob) (n : H b = none) (hx : b ∉ ex) : ∃ sl, h1.get? b = some { ob with slots := sl } := by
  by_cases hb : b ∈ fs
  · exact u.slot b ob q n hb hx
  · exact ⟨ob.slots, u.keep b ob q n hb hx⟩
theorem Un.trans (a : Un fs ex H H1 h h1) (b : Un fs ex H1 H2 h1 h2) : Un fs ex H H2 h h2 where
  keep := fun c ob q n hc hx => b.keep c ob (a.keep c ob q n hc hx) (a.free c ob q n hx) hc hx
  slot := fun c ob q n hc hx => by
    obtain ⟨sl, e1⟩ := a.slot c ob q n hc hx
    obtain ⟨sl', e2⟩ := b.slot c _ e1 (a.free c ob q n hx) hc hx
    exact ⟨sl', e2⟩
  free := fun c ob q n hx => by
    obtain ⟨o', e1⟩ := a.there c ob q hx
    exact b.free c o' e1 (a.free c ob q n hx) hx
  there := fun c ob q hx => by
    obtain ⟨o', e1⟩ := a.there c ob q hx
    exact b.there c o' e1 hx
  tups := fun c xs q => b.tups c xs (a.tups c xs q)
  frzs := fun c ob xs q => b.frzs c ob xs (a.frzs c ob xs q)
  tbls := fun c ps q => by
    obtain ⟨m1, e1⟩ := a.tbls c ps q
    obtain ⟨m2, e2⟩ := b.tbls c _ e1
    exact ⟨m1 ++ m2, by rw [e2, Array.append_assoc]⟩
theorem Un.kept (k : ∀ b u, h.get? b = some u -> h'.get? b = some u) : Un fs ex H H h h' :=
  ⟨fun b ob q _ _ _ => k b ob q, fun b ob q _ _ _ => ⟨ob.slots, k b ob q⟩, fun _ _ _ n _ => n, fun b ob q _ => ⟨ob, k b ob q⟩, fun _ _ q => q, fun _ _ _ q => q, fun _ ps q => ⟨#[], by rw [q]; simp⟩⟩
theorem Un.refl : Un fs ex H H h h := Un.kept fun _ _ q => q
theorem Un.laid (k : ∀ b u, h.get? b = some u -> h'.get? b = some u) (hp : h.objs.size ≤ a) (hn : H a = none) : Un fs ex H (upd H a o) h h' where
  keep := fun b u q _ _ _ => k b u q
  slot := fun b u q _ _ _ => ⟨u.slots, k b u q⟩
  free := fun b u q n _ => by rw [z1c (Nat.ne_of_lt (Nat.lt_of_lt_of_le (Heap.lt_size q) hp))]; exact n
  there := fun b u q _ => ⟨u, k b u q⟩
  tups := fun b xs q => by rw [z1c (z2k q hn)]; exact q
  frzs := fun b u xs q => by rw [z1c (z2k q hn)]; exact q
  tbls := fun b ps q => ⟨#[], by rw [z1c (z2k q hn), q]; simp⟩
theorem Un.write (mu : Mut (H x)) (he : e = x \/ H e = some (.own x)) (k : ∀ b u, b ≠ e -> h.get? b = some u -> h'.get? b = some u) (heo : ∃ u, h'.get? e = some u) : Un fs ex H (upd H x o) h h' := by
  have hx : ∀ b, H b = none -> b ≠ x := fun b n z => by subst z; rw [n] at mu; exact mu
  have hb : ∀ b, H b = none -> b ≠ e := fun b n z => by
    subst z
    rcases he with r | r
    · exact hx b n r
    · rw [n] at r; cases r
  have hm : ∀ b u, H b = some u -> ¬ Mut (some u) -> b ≠ x := fun b u q nm z => by subst z; rw [q] at mu; exact nm mu
  refine ⟨fun b u q n _ _ => k b u (hb b n) q, fun b u q n _ _ => ⟨u.slots, k b u (hb b n) q⟩, fun b u q n _ => by rw [z1c (hx b n)]; exact n, fun b u q _ => ?_,
    fun b xs q => by rw [z1c (hm b _ q fun z => z)]; exact q, fun b u xs q => by rw [z1c (hm b _ q fun z => z)]; exact q, fun b ps q => ⟨#[], by rw [z1c (hm b _ q fun z => z), q]; simp⟩⟩
  by_cases hbe : b = e
  · subst hbe; exact heo
  · exact ⟨u, k b u hbe q⟩
theorem Un.mono (u : Un fs ex H H1 h h1) (hs : ∀ b ∈ fs, b ∈ fs') (hx : ∀ b ∈ ex, b ∈ ex') : Un fs' ex' H H1 h h1 :=
  ⟨fun b ob q n hb he => u.keep b ob q n (fun z => hb (hs b z)) fun z => he (hx b z), fun _ _ q n _ he => u.any q n fun z => he (hx _ z), fun b ob q n he => u.free b ob q n fun z => he (hx b z), fun b ob q he => u.there b ob q fun z => he (hx b z), u.tups, u.frzs, u.tbls⟩
end
def trk (h : Heap) (H : Hp) : List Addr := (List.range h.objs.size).filter fun a => (H a).isSome
def hidT (h : Heap) (H : Hp) : Heap := PySem.W.hideAll h (trk h H)
theorem hidT_size (h : Heap) (H : Hp) : (hidT h H).objs.size = h.objs.size := PySem.W.hideAll_size _ _
theorem hidT_get {h : Heap} {H : Hp} {b : Addr} {o : Obj} (e : h.get? b = some o) (n : H b = none) : (hidT h H).get? b = some o :=
  PySem.W.hideAll_get _ e fun hm => by
    have q : (H b).isSome = true := (List.mem_filter.mp hm).2
    rw [n] at q; simp at q
theorem of_hidT {h : Heap} {H : Hp} {b : Addr} {o : Obj} (e : (hidT h H).get? b = some o) : h.get? b = some o /\ H b = none := by
  have e' : h.get? b = some o := PySem.W.of_hideAll (trk h H) e
  refine ⟨e', ?_⟩
  cases q : H b with
  | none => rfl
  | some x =>
    have hm : b ∈ trk h H := List.mem_filter.mpr ⟨List.mem_range.mpr (Heap.lt_size e'), by simp [q]⟩
    have z : (hidT h H).get? b = none := PySem.W.hideAll_none (trk h H) hm
    rw [z] at e; cases e
def allNews (g h : Heap) (L : Addr) : List (Addr × Obj) := (List.range h.objs.size).filterMap fun a => if a = L \/ (g.get? a).isSome = true then none else (h.get? a).map fun o => (a, o)
def rest (g h : Heap) (L d : Addr) : List (Addr × Obj) := (allNews g h L).filter fun p => decide (p.1 ≠ d)
structure Mod (K : PySem.W.Frag) (mg : Str -> Option Value) (base : Heap) : Prop where
  kin : K.In base
  glob : base.Ns mainGlobals mg
  blt : ∃ mb, base.Ns builtinsNs mb /\ ∀ x : Str, x ≠ "__name__" -> mb x = bootBuiltins x
  nolimit : base.NoLimit
structure Cx where
  prog : Program
  w : World
  K : PySem.W.Frag
  mg : Str -> Option Value
  base : Heap
  A : Around
  N : List Str
  s₀ : Shared
  H₀ : Hp
  env : Env
  outer : List Env
  stack : List Env
  ex : List Addr
  fn : Str -> Bool
  calm : Bool
  pn : List (Addr × Obj)
  xe : Value -> Shared -> Prop
def frs (l : List Env) : List Addr := l.filterMap (·.frame)
abbrev Cx.fs (X : Cx) : List Addr := frs X.outer
def Vis (sc : Scope) (x : Str) : Prop := sc.names.lookup x = some .local \/ sc.names.lookup x = some .cell \/ sc.names.lookup x = some .free
def Loc (sc : Scope) (x : Str) : Prop := sc.names.lookup x = some .local \/ sc.names.lookup x = some .cell
def Look (env : Env) (h : Heap) (m : Str -> Option Value) (x : Str) (u : Value) : Prop :=
  (env.kindOf x = some .local /\ m x = some u) \/ ((env.kindOf x = some .cell \/ env.kindOf x = some .free) /\ ∃ c, env.cells.lookup x = some c /\ h.IsCell c (some u))
structure Cx.Ok (X : Cx) : Prop where
  mod : Mod X.K X.mg X.base
  kind : X.env.scope.kind = .function
  glob : X.env.globals = mainGlobals
  blt : X.env.builtins = builtinsNs
  above : X.s₀.heap.objs.size ≤ X.env.locals
  inj : ∀ x y c, X.env.cells.lookup x = some c -> X.env.cells.lookup y = some c -> x = y
  has : ∀ x, (X.env.kindOf x = some .cell \/ X.env.kindOf x = some .free) -> ∃ c, X.env.cells.lookup x = some c
  cab : ∀ x c, X.fn x = true -> X.env.cells.lookup x = some c -> X.s₀.heap.objs.size ≤ c
  hd : X.calm = true -> X.A.handled = none
  frames : X.A.frames = some X.stack
  stk : X.stack = X.outer \/ (X.stack = X.env :: X.outer /\ X.env.frame = some X.env.locals)
  exf : ∀ b ∈ X.ex, b ≠ X.env.locals /\ ∀ x c, X.env.cells.lookup x = some c -> c ≠ b
  bs : ∀ b o, X.base.get? b = some o -> X.s₀.heap.get? b = some o /\ X.H₀ b = none
  bsz : X.base.objs.size ≤ X.s₀.heap.objs.size
  noex : ∀ b o, X.base.get? b = some o -> b ∉ X.ex
  exfs : ∀ b ∈ X.ex, b ∉ X.fs
  funs : X.s₀.heap.FunFrames X.base X.outer
  frf : ∀ b ∈ X.fs, X.H₀ b = none
structure Inv (X : Cx) (pins : List (Addr × Obj)) (σ : List (Option V)) (H : Hp) (s : Shared) : Prop where
  ok : X.Ok
  os : s.os = X.s₀.os
  bare : AllBare s.gens
  base : Un X.fs X.ex X.H₀ H X.s₀.heap s.heap
  loc : ∃ m, s.heap.Ns X.env.locals m /\ ∀ (i : Nat) (x : Str) (v : V), X.N[i]? = some x -> σ[i]? = some (some v) -> Vis X.env.scope x -> ∃ u, RelV v u /\ Look X.env s.heap m x u
  cell : ∀ x c, X.env.cells.lookup x = some c -> ∃ v, s.heap.IsCell c v
  free : H X.env.locals = none
  freeC : ∀ x c, X.env.cells.lookup x = some c -> H c = none
  pin : ∀ p ∈ X.pn ++ pins, s.heap.get? p.1 = some p.2 /\ H p.1 = none /\ p.1 ≠ X.env.locals /\ p.1 ∉ X.fs /\ ∀ v, p.2.data ≠ .cell v
  hok : HOk X.prog X.w H s.heap
  len : σ.length = X.N.length
section
variable {X : Cx} {pins : List (Addr × Obj)} {σ : List (Option V)} {H H' : Hp} {s : Shared} {h' : Heap}
theorem Cx.Ok.nofr (ok : X.Ok) {b : Addr} {o : Obj} (e : X.base.get? b = some o) : b ∉ X.fs := fun hb => by
  have := (ok.funs.mem hb).1
  rw [e] at this; cases this
theorem Inv.bs (I : Inv X pins σ H s) : ∀ b o, X.base.get? b = some o -> s.heap.get? b = some o /\ H b = none := fun b o e =>
  ⟨I.base.keep b o (I.ok.bs b o e).1 (I.ok.bs b o e).2 (I.ok.nofr e) (I.ok.noex b o e), I.base.free b o (I.ok.bs b o e).1 (I.ok.bs b o e).2 (I.ok.noex b o e)⟩
theorem Inv.bk (I : Inv X pins σ H s) : ∀ b o, X.base.get? b = some o -> s.heap.get? b = some o := fun b o e => (I.bs b o e).1
theorem Inv.mod (I : Inv X pins σ H s) : Mod X.K X.mg X.base := I.ok.mod
theorem Inv.kIn (I : Inv X pins σ H s) : X.K.In s.heap := I.ok.mod.kin.keeps I.bk
theorem Inv.nolimit (I : Inv X pins σ H s) : s.heap.NoLimit := I.ok.mod.nolimit.keeps I.bk
theorem Inv.fr (I : Inv X pins σ H s) : ∃ m, Fr X.base X.env.locals s.heap m :=
  let ⟨m, hn, _⟩ := I.loc
  ⟨m, hn, I.bk, Nat.le_trans I.ok.bsz I.ok.above⟩
theorem Inv.lt (I : Inv X pins σ H s) : X.env.locals < s.heap.objs.size := let ⟨_, hn, _⟩ := I.loc; hn.lt
theorem Inv.sz (I : Inv X pins σ H s) : X.s₀.heap.objs.size ≤ s.heap.objs.size := Nat.le_trans I.ok.above (Nat.le_of_lt I.lt)
theorem Inv.nofs (I : Inv X pins σ H s) {a : Addr} (h : s.heap.objs.size ≤ a) : a ∉ X.fs := fun hb => by
  obtain ⟨_, o, ho, _⟩ := I.ok.funs.mem hb
  exact absurd (Nat.lt_of_lt_of_le (Heap.lt_size ho) (Nat.le_trans I.sz h)) (Nat.lt_irrefl _)
theorem Inv.cne (I : Inv X pins σ H s) : ∀ x c, X.env.cells.lookup x = some c -> c ≠ X.env.locals := fun x c e z => by
  obtain ⟨v, o, ho, hd⟩ := I.cell x c e
  obtain ⟨m, ⟨o', es, ep, ho', hd', _⟩, _⟩ := I.loc
  rw [z, ho'] at ho; cases ho; rw [hd'] at hd; cases hd
theorem Inv.funs (I : Inv X pins σ H s) : s.heap.FunFrames X.base X.outer := by
  have all : ∀ (l : List Env), (∀ b ∈ frs l, b ∈ X.fs) -> X.s₀.heap.FunFrames X.base l -> s.heap.FunFrames X.base l := by
    intro l
    induction l with
    | nil => intro _ _; trivial
    | cons env r ih =>
      intro hs hl
      obtain ⟨hk, ⟨L, o, hf, hn, ho, hd⟩, hr⟩ := hl
      have hL : L ∈ X.fs := hs L (by unfold frs; rw [List.filterMap_cons, hf]; exact List.mem_cons_self)
      obtain ⟨sl, e⟩ := I.base.slot L o ho (I.ok.frf L hL) hL fun z => I.ok.exfs L z hL
      exact ⟨hk, ⟨L, _, hf, hn, e, hd⟩, ih (fun b hb => hs b (by unfold frs; rw [List.filterMap_cons, hf]; exact List.mem_cons_of_mem _ hb)) hr⟩
  exact all X.outer (fun _ hb => hb) I.ok.funs
theorem Inv.stack (I : Inv X pins σ H s) : s.heap.FunFrames X.base X.stack := by
  rcases I.ok.stk with e | ⟨e, hf⟩
  · rw [e]; exact I.funs
  · rw [e]
    obtain ⟨m, hn, _⟩ := I.loc
    refine .cons (by rw [I.ok.kind]; decide) hf hn ?_ I.funs
    exact Heap.get?_none_of_le (Nat.le_trans I.ok.bsz I.ok.above)
theorem Inv.stkSub (I : Inv X pins σ H s) : ∀ b ∈ frs X.stack, b ∈ X.env.locals :: X.fs := fun b hb => by
  rcases I.ok.stk with e | ⟨e, hf⟩
  · rw [e] at hb; exact List.mem_cons_of_mem _ hb
  · rw [e] at hb
    unfold frs at hb
    rw [List.filterMap_cons, hf] at hb
    exact hb
theorem Inv.stkFree (I : Inv X pins σ H s) : ∀ b ∈ frs X.stack, H b = none := fun b hb => by
  rcases List.mem_cons.mp (I.stkSub b hb) with e | hb
  · rw [e]; exact I.free
  · obtain ⟨_, o, ho, _⟩ := I.ok.funs.mem hb
    exact I.base.free b o ho (I.ok.frf b hb) fun z => I.ok.exfs b z hb
theorem Inv.step {g' : Array GenState} {t' : Nat} {d' : Drawn} {ch : List Addr} (I : Inv X pins σ H s)
    (hch : ∀ b ∈ ch, (b ∈ X.ex \/ X.s₀.heap.objs.size ≤ b) /\ b ≠ X.env.locals /\ (∀ x c, X.env.cells.lookup x = some c -> c ≠ b) /\ ∀ p ∈ X.pn ++ pins, p.1 ≠ b)
    (keep : ∀ b o, b ≠ X.env.locals -> b ∉ X.fs -> b ∉ ch -> s.heap.get? b = some o -> H b = none -> h'.get? b = some o)
    (slot : ∀ b o, b ≠ X.env.locals -> b ∈ X.fs -> b ∉ ch -> s.heap.get? b = some o -> H b = none -> ∃ sl, h'.get? b = some { o with slots := sl }) (free : ∀ b o, b ∉ ch -> s.heap.get? b = some o -> H b = none -> H' b = none)
    (there : ∀ b o, b ∉ ch -> s.heap.get? b = some o -> ∃ o', h'.get? b = some o')
    (tups : ∀ b xs, H b = some (.tup xs) -> H' b = some (.tup xs)) (frzs : ∀ b o u, H b = some (.frz o u) -> H' b = some (.frz o u)) (tbls : ∀ b ps, H b = some (.tbl ps) -> ∃ more, H' b = some (.tbl (ps ++ more)))
    (ns : ∀ m, s.heap.Ns X.env.locals m -> h'.Ns X.env.locals m) (hok : HOk X.prog X.w H' h') (hg : AllBare g') :
    Inv X pins σ H' { s with heap := h', gens := g', drawn := d', toks := t' } := by
  have neL : ∀ b o, X.s₀.heap.get? b = some o -> b ≠ X.env.locals := fun b o e => Nat.ne_of_lt (Nat.lt_of_lt_of_le (Heap.lt_size e) I.ok.above)
  have neC : ∀ b o, X.s₀.heap.get? b = some o -> b ∉ X.ex -> b ∉ ch := fun b o e hx hb => by
    rcases (hch b hb).1 with z | z
    · exact hx z
    · exact absurd (Nat.lt_of_lt_of_le (Heap.lt_size e) z) (Nat.lt_irrefl _)
  have cellK : ∀ x c, X.env.cells.lookup x = some c -> ∀ v, s.heap.IsCell c v -> h'.IsCell c v := fun x c e v ⟨o, ho, hd⟩ => by
    have nch : c ∉ ch := fun z => (hch c z).2.2.1 x c e rfl
    by_cases hc : c ∈ X.fs
    · obtain ⟨sl, q⟩ := slot c o (I.cne x c e) hc nch ho (I.freeC x c e)
      exact ⟨_, q, hd⟩
    · exact ⟨o, keep c o (I.cne x c e) hc nch ho (I.freeC x c e), hd⟩
  refine ⟨I.ok, I.os, hg, ⟨fun b o e n hb hx => ?_, fun b o e n hb hx => ?_, fun b o e n hx => ?_, fun b o e hx => ?_, fun b xs e => tups b xs (I.base.tups b xs e), fun b o xs e => frzs b o xs (I.base.frzs b o xs e), fun b ps e => ?_⟩, ?_, fun x c e => ?_, ?_, fun x c e => ?_, fun p hp => ?_, hok, I.len⟩
  · exact keep b o (neL b o e) hb (neC b o e hx) (I.base.keep b o e n hb hx) (I.base.free b o e n hx)
  · obtain ⟨sl, e1⟩ := I.base.slot b o e n hb hx
    obtain ⟨sl', e2⟩ := slot b _ (neL b o e) hb (neC b o e hx) e1 (I.base.free b o e n hx)
    exact ⟨sl', e2⟩
  · obtain ⟨o', e1⟩ := I.base.there b o e hx
    exact free b o' (neC b o e hx) e1 (I.base.free b o e n hx)
  · obtain ⟨o', e1⟩ := I.base.there b o e hx
    exact there b o' (neC b o e hx) e1
  · obtain ⟨m1, e1⟩ := I.base.tbls b ps e
    obtain ⟨m2, e2⟩ := tbls b _ e1
    exact ⟨m1 ++ m2, by rw [e2, Array.append_assoc]⟩
  · obtain ⟨m, hn, hl⟩ := I.loc
    refine ⟨m, ns m hn, fun i x v e1 e2 e3 => ?_⟩
    obtain ⟨u, r, l⟩ := hl i x v e1 e2 e3
    refine ⟨u, r, ?_⟩
    rcases l with l | ⟨k, c, e, z⟩
    · exact .inl l
    · exact .inr ⟨k, c, e, cellK x c e _ z⟩
  · obtain ⟨v, z⟩ := I.cell x c e
    exact ⟨v, cellK x c e v z⟩
  · obtain ⟨m, ⟨o, _, _, ho, _⟩, _⟩ := I.loc
    exact free _ o (fun z => (hch _ z).2.1 rfl) ho I.free
  · obtain ⟨v, o, ho, hd⟩ := I.cell x c e
    exact free c o (fun z => (hch c z).2.2.1 x c e rfl) ho (I.freeC x c e)
  · obtain ⟨e, n, ne, nf, d⟩ := I.pin p hp
    have nch : p.1 ∉ ch := fun z => (hch p.1 z).2.2.2 p hp rfl
    exact ⟨keep p.1 p.2 ne nf nch e n, free p.1 p.2 nch e n, ne, nf, d⟩
theorem Inv.un {t' : Nat} (I : Inv X pins σ H s) (u : Un X.fs [] H H' s.heap h') (hok : HOk X.prog X.w H' h') : Inv X pins σ H' { s with heap := h', toks := t' } := by
  obtain ⟨m, ⟨o, es, ep, ho, r⟩, _⟩ := id I.loc
  obtain ⟨sl, hL⟩ := u.any ho I.free (by simp)
  exact I.step (g' := s.gens) (d' := s.drawn) (ch := []) (fun _ z => nomatch z) (fun b o _ hb _ e n => u.keep b o e n hb (by simp)) (fun b o _ hb _ e n => u.slot b o e n hb (by simp)) (fun b o _ e n => u.free b o e n (by simp)) (fun b o _ e => u.there b o e (by simp)) u.tups u.frzs u.tbls (fun m' hm => by
    obtain ⟨o', es', ep', ho', r'⟩ := hm
    rw [ho] at ho'; cases ho'
    exact ⟨_, es', ep', hL, r'⟩) hok I.bare
theorem Inv.call {g' : Array GenState} {t' : Nat} {d' : Drawn} {ch : List Addr} (I : Inv X pins σ H s) (u : Un (frs X.stack) ch H H' s.heap h') (hok : HOk X.prog X.w H' h') (hg : AllBare g')
    (hch : ∀ b ∈ ch, (b ∈ X.ex \/ X.s₀.heap.objs.size ≤ b) /\ b ≠ X.env.locals /\ (∀ x c, X.env.cells.lookup x = some c -> c ≠ b) /\ ∀ p ∈ X.pn ++ pins, p.1 ≠ b) :
    Inv X pins σ H' { s with heap := h', gens := g', drawn := d', toks := t' } := by
  obtain ⟨m, ⟨o, es, ep, ho, r⟩, _⟩ := id I.loc
  obtain ⟨sl, hL⟩ := u.any ho I.free fun z => (hch _ z).2.1 rfl
  exact I.step (ch := ch) hch (fun b o hL hb hc e n => u.keep b o e n (fun z => (List.mem_cons.mp (I.stkSub b z)).elim hL hb) hc) (fun b o _ _ hc e n => u.any e n hc) (fun b o hc e n => u.free b o e n hc) (fun b o hc e => u.there b o e hc) u.tups u.frzs u.tbls (fun m' hm => by
    obtain ⟨o', es', ep', ho', r'⟩ := hm
    rw [ho] at ho'; cases ho'
    exact ⟨_, es', ep', hL, r'⟩) hok hg
theorem Inv.turned {t' : Nat} {it : Addr} (I : Inv X pins σ H s) (k : ∀ b o, b ≠ it -> s.heap.get? b = some o -> h'.get? b = some o) (hn : H it = none) (hL : it ≠ X.env.locals)
    (h1 : it ∈ X.ex \/ X.s₀.heap.objs.size ≤ it) (h2 : ∀ x c, X.env.cells.lookup x = some c -> c ≠ it) (h3 : ∀ p ∈ X.pn ++ pins, p.1 ≠ it) : Inv X pins σ H { s with heap := h', toks := t' } := by
  have nit : ∀ b u, H b = some u -> b ≠ it := fun b u e z => by rw [z, hn] at e; cases e
  refine I.step (g' := s.gens) (d' := s.drawn) (ch := [it]) (fun b hb => ?_) (fun b o _ _ hc e _ => k b o (fun z => hc (by simp [z])) e) (fun b o _ _ hc e _ => ⟨o.slots, k b o (fun z => hc (by simp [z])) e⟩) (fun _ _ _ _ n => n)
    (fun b o hc e => ⟨o, k b o (fun z => hc (by simp [z])) e⟩) (fun _ _ e => e) (fun _ _ _ e => e) (fun b ps e => ⟨#[], by rw [e]; simp⟩) (fun m hm => ?_) (fun b u e => ?_) I.bare
  · have e : b = it := by simpa using hb
    subst e
    exact ⟨h1, hL, h2, h3⟩
  · obtain ⟨o, es, ep, ho, r⟩ := hm
    exact ⟨o, es, ep, k _ o (Ne.symm hL) ho, r⟩
  · refine (I.hok b u e).stay (fun c v hc q => k c v ?_ q) (fun _ q => q) fun _ _ q => q
    rcases hc with z | z
    · rw [z]; exact nit b u e
    · exact nit c _ z
theorem Inv.tok (I : Inv X pins σ H s) (t : Nat) : Inv X pins σ H { s with toks := t } := I.un (h' := s.heap) (t' := t) Un.refl I.hok
theorem Inv.kept {t' : Nat} (I : Inv X pins σ H s) (k : ∀ b u, s.heap.get? b = some u -> h'.get? b = some u) : Inv X pins σ H { s with heap := h', toks := t' } := I.un (Un.kept k) (I.hok.kept k)
theorem Inv.laid {a : Addr} {o : HO} {t' : Nat} (I : Inv X pins σ H s) (k : ∀ b u, s.heap.get? b = some u -> h'.get? b = some u) (hp : s.heap.objs.size ≤ a) (new : ObjOk X.prog X.w (upd H a o) h' a o) :
    Inv X pins σ (upd H a o) { s with heap := h', toks := t' } := I.un (Un.laid k hp (I.hok.fresh hp)) (I.hok.laid k hp new)
theorem Inv.write {x e : Addr} {o : HO} {t' : Nat} (I : Inv X pins σ H s) (mu : Mut (H x)) (he : e = x \/ H e = some (.own x)) (k : ∀ b u, b ≠ e -> s.heap.get? b = some u -> h'.get? b = some u) (heo : ∃ u, h'.get? e = some u)
    (new : ObjOk X.prog X.w (upd H x o) h' x o) : Inv X pins σ (upd H x o) { s with heap := h', toks := t' } := I.un (Un.write mu he k heo) (I.hok.write mu he k heo new)
theorem Inv.pins_of {pins' : List (Addr × Obj)} (I : Inv X pins σ H s) (h : ∀ p ∈ pins', s.heap.get? p.1 = some p.2 /\ H p.1 = none /\ p.1 ≠ X.env.locals /\ p.1 ∉ X.fs /\ ∀ v, p.2.data ≠ .cell v) : Inv X pins' σ H s :=
  ⟨I.ok, I.os, I.bare, I.base, I.loc, I.cell, I.free, I.freeC, fun p hp => (List.mem_append.mp hp).elim (fun z => I.pin p (List.mem_append_left _ z)) (h p), I.hok, I.len⟩
theorem nodup_ix {N : List Str} (hN : N.Nodup) {i j : Nat} {x : Str} (a : N[i]? = some x) (b : N[j]? = some x) : i = j := by
  obtain ⟨h1, e1⟩ := List.getElem?_eq_some_iff.mp a
  obtain ⟨h2, e2⟩ := List.getElem?_eq_some_iff.mp b
  exact (List.getElem_inj hN).mp (e1.trans e2.symm)
theorem store_ok2 {M : Model} {A : Around} {E : Value -> Shared -> Prop} {i : Nat} {x : Str} {v : V} {u : Value} {Q : Unit -> Shared -> Prop} (I : Inv X pins σ H s) (hN : X.N.Nodup) (hi : X.N[i]? = some x) (hx : Loc X.env.scope x) (r : RelV v u)
    (h : ∀ s', Inv X pins (σ.set i (some v)) H s' -> (∃ a, Heap.SameBut a s.heap s'.heap /\ (a = X.env.locals \/ X.env.cells.lookup x = some a)) -> Q () s') (hf : X.fn x = true \/ X.env.scope.names.lookup x = some .local := by first | exact .inl rfl | exact .inr rfl | assumption) : wpAny M A (storeName X.env x u) Q E s := by
  obtain ⟨m, hn, hl⟩ := id I.loc
  have hcls : (X.env.scope.kind == .class || (X.env.scope.kind == .module && X.env.locals != X.env.globals)) = false := by rw [I.ok.kind]; rfl
  have hiσ : i < σ.length := by rw [I.len]; exact (List.getElem?_eq_some_iff.mp hi).1
  have cne := I.cne
  have tracked : ∀ {a : Addr} {h' : Heap}, (∃ o, s.heap.get? a = some o /\ H a = none) -> Heap.SameBut a s.heap h' -> HOk X.prog X.w H h' := fun {a h'} ha hs b ob e => by
    obtain ⟨_, _, hfree⟩ := ha
    refine (I.hok b ob e).stay (fun c w' hc q => (hs.2 c ?_).trans q) (fun _ q => q) fun _ _ q => q
    rintro rfl
    rcases hc with rfl | hc
    · rw [hfree] at e; cases e
    · rw [hfree] at hc; cases hc
  rcases hx with hk | hk
  · refine wpAny_storeName_local hk hn (fun h' hn' hs => ?_) hcls
    obtain ⟨oL, _, _, hoL, _⟩ := id hn
    refine h _ ⟨I.ok, I.os, I.bare, ⟨fun b o e n hb hx => ?_, fun b o e n hb hx => ?_, I.base.free, fun b o e hx => ?_, I.base.tups, I.base.frzs, I.base.tbls⟩, ⟨_, hn', fun j y v' e1 e2 e3 => ?_⟩, fun y c e => ?_, I.free, I.freeC, fun p hp => ?_, tracked ⟨oL, hoL, I.free⟩ hs, by simpa using I.len⟩ ⟨_, hs, .inl rfl⟩
    · exact (hs.2 b (Nat.ne_of_lt (Nat.lt_of_lt_of_le (Heap.lt_size e) I.ok.above))).trans (I.base.keep b o e n hb hx)
    · obtain ⟨sl, e1⟩ := I.base.slot b o e n hb hx
      exact ⟨sl, (hs.2 b (Nat.ne_of_lt (Nat.lt_of_lt_of_le (Heap.lt_size e) I.ok.above))).trans e1⟩
    · obtain ⟨o', e1⟩ := I.base.there b o e hx
      exact ⟨o', (hs.2 b (Nat.ne_of_lt (Nat.lt_of_lt_of_le (Heap.lt_size e) I.ok.above))).trans e1⟩
    · by_cases hj : j = i
      · subst hj
        rw [hi] at e1; cases e1
        rw [List.getElem?_set_self hiσ] at e2
        cases e2
        exact ⟨u, r, .inl ⟨hk, by simp⟩⟩
      · rw [List.getElem?_set_ne (Ne.symm hj)] at e2
        obtain ⟨u', r', q⟩ := hl j y v' e1 e2 e3
        refine ⟨u', r', ?_⟩
        rcases q with ⟨k, e⟩ | ⟨k, c, e, z⟩
        · refine .inl ⟨k, ?_⟩
          have : y ≠ x := fun e => hj (nodup_ix hN e1 (e ▸ hi))
          simp [this, e]
        · exact .inr ⟨k, c, e, z.sameBut hs (cne y c e)⟩
    · obtain ⟨w', z⟩ := I.cell y c e
      exact ⟨w', z.sameBut hs (cne y c e)⟩
    · obtain ⟨e, n, ne, nf, d⟩ := I.pin p hp
      exact ⟨(hs.2 p.1 ne).trans e, n, ne, nf, d⟩
  · have hfn : X.fn x = true := by
      rcases hf with z | z
      · exact z
      · rw [z] at hk; cases hk
    obtain ⟨c, hc⟩ := I.ok.has x (.inl hk)
    obtain ⟨w', z⟩ := I.cell x c hc
    refine wpAny_storeName_cell I.ok.kind hk hc z (fun h' hc' hs => ?_)
    obtain ⟨oc, hoc, hocd⟩ := id z
    refine h { s with heap := h' } ⟨I.ok, I.os, I.bare, ⟨fun b o e n hb hx => ?_, fun b o e n hb hx => ?_, I.base.free, fun b o e hx => ?_, I.base.tups, I.base.frzs, I.base.tbls⟩, ⟨m, hn.sameBut hs (Ne.symm (cne x c hc)), fun j y v' e1 e2 e3 => ?_⟩, fun y c' e => ?_, I.free, I.freeC, fun p hp => ?_, tracked ⟨oc, hoc, I.freeC x c hc⟩ hs, by simpa using I.len⟩ ⟨c, hs, .inr hc⟩
    · exact (hs.2 b (Nat.ne_of_lt (Nat.lt_of_lt_of_le (Heap.lt_size e) (I.ok.cab x c hfn hc)))).trans (I.base.keep b o e n hb hx)
    · obtain ⟨sl, e1⟩ := I.base.slot b o e n hb hx
      exact ⟨sl, (hs.2 b (Nat.ne_of_lt (Nat.lt_of_lt_of_le (Heap.lt_size e) (I.ok.cab x c hfn hc)))).trans e1⟩
    · obtain ⟨o', e1⟩ := I.base.there b o e hx
      exact ⟨o', (hs.2 b (Nat.ne_of_lt (Nat.lt_of_lt_of_le (Heap.lt_size e) (I.ok.cab x c hfn hc)))).trans e1⟩
    · by_cases hj : j = i
      · subst hj
        rw [hi] at e1; cases e1
        rw [List.getElem?_set_self hiσ] at e2
        cases e2
        exact ⟨u, r, .inr ⟨.inl hk, c, hc, hc'⟩⟩
      · rw [List.getElem?_set_ne (Ne.symm hj)] at e2
        obtain ⟨u', r', q⟩ := hl j y v' e1 e2 e3
        refine ⟨u', r', ?_⟩
        rcases q with q | ⟨k, c', e, z'⟩
        · exact .inl q
        · refine .inr ⟨k, c', e, z'.sameBut hs ?_⟩
          rintro rfl
          exact hj (nodup_ix hN e1 (I.ok.inj _ _ _ e hc ▸ hi))
    · by_cases hcc : c' = c
      · subst hcc; exact ⟨_, hc'⟩
      · obtain ⟨w2, z2⟩ := I.cell y c' e
        exact ⟨w2, z2.sameBut hs hcc⟩
    · obtain ⟨e, n, ne, nf, d⟩ := I.pin p hp
      refine ⟨(hs.2 p.1 ?_).trans e, n, ne, nf, d⟩
      intro q
      rw [q, hoc] at e
      have q' : oc = p.2 := Option.some.inj e
      exact d w' (by rw [← q']; exact hocd)
theorem store_ok {M : Model} {A : Around} {E : Value -> Shared -> Prop} {i : Nat} {x : Str} {v : V} {u : Value} {Q : Unit -> Shared -> Prop} (I : Inv X pins σ H s) (hN : X.N.Nodup) (hi : X.N[i]? = some x) (hx : Loc X.env.scope x) (r : RelV v u)
    (h : ∀ s', Inv X pins (σ.set i (some v)) H s' -> Q () s') (hf : X.fn x = true \/ X.env.scope.names.lookup x = some .local := by first | exact .inl rfl | exact .inr rfl | assumption) : wpAny M A (storeName X.env x u) Q E s :=
  store_ok2 I hN hi hx r (fun s' I' _ => h s' I') hf
theorem Inv.call' {s' : Shared} {ch : List Addr} (I : Inv X pins σ H s) (ho : s'.os = s.os) (u : Un (frs X.stack) ch H H' s.heap s'.heap) (hok : HOk X.prog X.w H' s'.heap) (hg : AllBare s'.gens)
    (hch : ∀ b ∈ ch, (b ∈ X.ex \/ X.s₀.heap.objs.size ≤ b) /\ b ≠ X.env.locals /\ (∀ x c, X.env.cells.lookup x = some c -> c ≠ b) /\ ∀ p ∈ X.pn ++ pins, p.1 ≠ b) : Inv X pins σ H' s' := by
  obtain ⟨h', g', d', t', o'⟩ := s'
  have e : o' = s.os := ho
  subst e
  exact I.call (g' := g') (t' := t') (d' := d') u hok hg hch
end
abbrev XK := Value -> Option Addr -> Hp -> Prop
abbrev St := List (Option V)
abbrev VK := V -> Hp -> Prop
abbrev TE := St -> Hp -> VK -> Prop
abbrev TT := St -> Hp -> (Bool -> Hp -> Prop) -> Prop
abbrev TA := St -> Hp -> (List V -> Hp -> Prop) -> Prop
structure Ends where
  nx : St -> Hp -> Prop
  rt : VK
  bk : St -> Hp -> Prop := fun _ _ => False
  ct : St -> Hp -> Prop := fun _ _ => False
abbrev TS := Ends -> St -> Hp -> Prop
def EP (X : Cx) (pins : List (Addr × Obj)) (σ : St) (Q : VK) (u : Value) (s' : Shared) : Prop := ∃ v H', Inv X pins σ H' s' /\ RelV v u /\ Q v H'
def TP (X : Cx) (pins : List (Addr × Obj)) (σ : St) (Q : Bool -> Hp -> Prop) (b : Bool) (s' : Shared) : Prop := ∃ H', Inv X pins σ H' s' /\ Q b H'
def AP (X : Cx) (pins : List (Addr × Obj)) (σ : St) (Q : List V -> Hp -> Prop) (us : List Value) (s' : Shared) : Prop := ∃ vs H', Inv X pins σ H' s' /\ Vals vs us /\ Q vs H'
def SP (X : Cx) (pins : List (Addr × Obj)) (D : Ends) (f : Flow) (s' : Shared) : Prop :=
  match f with
  | .next => ∃ σ' H', Inv X pins σ' H' s' /\ D.nx σ' H'
  | .brk => ∃ σ' H', Inv X pins σ' H' s' /\ D.bk σ' H'
  | .cont => ∃ σ' H', Inv X pins σ' H' s' /\ D.ct σ' H'
  | .ret u => ∃ v σ' H', Inv X pins σ' H' s' /\ RelV v u /\ D.rt v H'
def PE (X : Cx) (e : Expr) (t : TE) : Prop :=
  ∀ (pins : List (Addr × Obj)) (s : Shared) (σ : St) (H : Hp) (Q : VK), Inv X pins σ H s -> t σ H Q -> wpAny (model X.prog X.w) X.A (eval e X.env) (EP X pins σ Q) X.xe s
def PT (X : Cx) (e : Expr) (t : TT) : Prop :=
  ∀ (pins : List (Addr × Obj)) (s : Shared) (σ : St) (H : Hp) (Q : Bool -> Hp -> Prop), Inv X pins σ H s -> t σ H Q -> wpAny (model X.prog X.w) X.A (isTrue e X.env (eval e X.env)) (TP X pins σ Q) X.xe s
def PW (X : Cx) (e : Expr) (t : TT) : Prop :=
  ∀ (whole : Sem Value) (pins : List (Addr × Obj)) (s : Shared) (σ : St) (H : Hp) (Q : Bool -> Hp -> Prop), Inv X pins σ H s -> t σ H Q -> wpAny (model X.prog X.w) X.A (isTrue e X.env whole) (TP X pins σ Q) X.xe s
theorem PW.pt {X : Cx} {e : Expr} {t : TT} (h : PW X e t) : PT X e t := h _
def PA (X : Cx) (es : List Expr) (t : TA) : Prop :=
  ∀ (pos : Pos) (pins : List (Addr × Obj)) (s : Shared) (σ : St) (H : Hp) (Q : List V -> Hp -> Prop), Inv X pins σ H s -> t σ H Q -> wpAny (model X.prog X.w) X.A (spliced (backTo pos (starEach es X.env))) (AP X pins σ Q) X.xe s
def PS (X : Cx) (st : Stmt) (t : TS) : Prop :=
  ∀ (pins : List (Addr × Obj)) (s : Shared) (σ : St) (H : Hp) (D : Ends), Inv X pins σ H s -> t D σ H -> wpAny (model X.prog X.w) X.A (exec st X.env) (SP X pins D) X.xe s
def PSs (X : Cx) (st : List Stmt) (t : TS) : Prop :=
  ∀ (pins : List (Addr × Obj)) (s : Shared) (σ : St) (H : Hp) (D : Ends), Inv X pins σ H s -> t D σ H -> wpAny (model X.prog X.w) X.A (execs st X.env) (SP X pins D) X.xe s
theorem thn {α : Type} {t : Sem α} {Q Q' : α -> Shared -> Prop} {M : Model} {A : Around} {E : Value -> Shared -> Prop} {s : Shared} (h : wpAny M A t Q E s) (hQ : ∀ a s, Q a s -> Q' a s) : wpAny M A t Q' E s := wpAny_mono h hQ fun _ _ x => x
section
variable {X : Cx}
def tVar (i : Nat) : TE := fun σ H Q => ∃ v, σ[i]? = some (some v) /\ Q v H
def tC (v : V) : TE := fun _ H Q => Q v H
theorem pe_var {i : Nat} {x : Str} {pos : Pos} (hN : X.N[i]? = some x) (hv : Vis X.env.scope x) (hd : (x == ("__debug__" : Str)) = false := by decide) (hcd : (x == ("__classdict__" : Str)) = false := by decide) : PE X (.Name x pos) (tVar i) := by
  intro pins s σ H Q I h
  obtain ⟨v, e, h⟩ := h
  obtain ⟨m, hn, hl⟩ := I.loc
  obtain ⟨u, r, l⟩ := hl i x v hN e hv
  have fin : EP X pins σ Q u s := ⟨v, H, I, r, h⟩
  rcases l with ⟨hk, hm⟩ | ⟨hk, c, hc, hcell⟩
  · exact wpAny_Name (wpAny_loadName_local I.ok.kind hk hn hm fin) hd
  · rcases hk with hk | hk
    · exact wpAny_Name (wpAny_loadName_cell I.ok.kind hk hc hcell fin) hd
    · exact wpAny_Name (wpAny_loadName_free I.ok.kind hk hc hcell fin hcd) hd
theorem z0e {i j pos} : PE X (.Constant (.int i) j pos) (tC (.int i)) := fun _ _ _ H _ I h => wpAny_Constant_int ⟨.int i, H, I.tok _, ⟨_, rfl⟩, h⟩
theorem pe_bl {b j pos} : PE X (.Constant (.bool b) j pos) (tC (.bl b)) := fun _ _ _ H _ I h => Constant_bool ⟨.bl b, H, I, rfl, h⟩
theorem z2x {j pos} : PE X (.Constant .none j pos) (tC .non) := fun _ _ _ H _ I h => Constant_none ⟨.non, H, I, rfl, h⟩
theorem z0q {x j pos} : PE X (.Constant (.str x) j pos) (tC (.str x)) := fun _ _ _ H _ I h => Calls.Constant_str ⟨.str x, H, I.tok _, ⟨_, rfl⟩, h⟩
def Gl (X : Cx) (x : Str) : Prop := X.env.kindOf x = some .globalImplicit
theorem ld_glob {E : Value -> Shared -> Prop} {pins : List (Addr × Obj)} {s : Shared} {σ : St} {H : Hp} {x : Str} {u : Value} {pos : Pos} {Q : Value -> Shared -> Prop} (I : Inv X pins σ H s) (hg : Gl X x) (hm : X.mg x = some u) (h : Q u s)
    (hd : (x == ("__debug__" : Str)) = false := by decide) : wpAny (model X.prog X.w) X.A (eval (.Name x pos) X.env) Q E s :=
  Calls.Name_function_global I.ok.kind hg (Calls.loadGlobal_global (by rw [I.ok.glob]; exact I.mod.glob.keeps I.bk) hm h) hd
theorem ld_blt {E : Value -> Shared -> Prop} {pins : List (Addr × Obj)} {s : Shared} {σ : St} {H : Hp} {x : Str} {u : Value} {pos : Pos} {Q : Value -> Shared -> Prop} (I : Inv X pins σ H s) (hg : Gl X x) (hm : X.mg x = none) (hv : bootBuiltins x = some u) (h : Q u s)
    (hn : x ≠ "__name__" := by decide) (hd : (x == ("__debug__" : Str)) = false := by decide) : wpAny (model X.prog X.w) X.A (eval (.Name x pos) X.env) Q E s := by
  obtain ⟨mb, h1, h2⟩ := I.mod.blt
  exact Calls.Name_function_global I.ok.kind hg (Calls.loadGlobal_builtin (by rw [I.ok.glob]; exact I.mod.glob.keeps I.bk) hm (by rw [I.ok.blt]; exact h1.keeps I.bk) ((h2 x hn).trans hv) h) hd
theorem z3c {x : Str} {v : V} {u : Value} {pos : Pos} (hg : Gl X x) (hm : X.mg x = some u) (r : RelV v u) (hd : (x == ("__debug__" : Str)) = false := by decide) : PE X (.Name x pos) (tC v) :=
  fun _ _ _ H _ I h => ld_glob I hg hm ⟨v, H, I, r, h⟩ hd
theorem pe_bltn {x : Str} {v : V} {u : Value} {pos : Pos} (hg : Gl X x) (hm : X.mg x = none) (hv : bootBuiltins x = some u) (r : RelV v u) (hn : x ≠ "__name__" := by decide) (hd : (x == ("__debug__" : Str)) = false := by decide) : PE X (.Name x pos) (tC v) :=
  fun _ _ _ H _ I h => ld_blt I hg hm hv ⟨v, H, I, r, h⟩ hn hd
variable {a b : Expr} {ta tb : TE} {pos : Pos}
def tB (t : TE) : TT := fun σ H Q => t σ H fun x H1 => ∃ c, x = .bl c /\ Q c H1
theorem z3j {e : Expr} {t : TE} (h : PE X e t) (he : ∀ whole, isTrue e X.env whole = (do let v ← whole; standAt e.pos; holding [v] (truthy v)) := by intro _; rfl) : PT X e (tB t) := by
  intro pins s σ H Q I hw
  refine isTrue_plain (thn (h pins s σ H _ I hw) fun v s1 ⟨x, H1, I1, r1, q1⟩ => ?_) (he _)
  obtain ⟨d, rfl, q⟩ := q1
  cases r1
  exact wpAny_truthy_bool ⟨H1, I1, q⟩
variable {tA tB' : TT} {rest : List Expr}
def tAnd (t u : TT) : TT := fun σ H Q => t σ H fun c H1 => if c = true then u σ H1 Q else Q false H1
def tOr (t u : TT) : TT := fun σ H Q => t σ H fun c H1 => if c = true then Q true H1 else u σ H1 Q
def tNot (t : TT) : TT := fun σ H Q => t σ H fun c H1 => Q (!c) H1
theorem z3k (ha : PT X a tA) : PW X (.BoolOp .And [a] pos) tA := by
  intro wh pins s σ H Q I h
  refine isTrue_and (thn (ha pins s σ H Q I h) fun c s1 e => ?_)
  cases c with
  | true => exact isTrue_and_nil e
  | false => exact e
theorem z2w (ha : PT X a tA) : PW X (.BoolOp .Or [a] pos) tA := by
  intro wh pins s σ H Q I h
  refine isTrue_or (thn (ha pins s σ H Q I h) fun c s1 e => ?_)
  cases c with
  | false => exact isTrue_or_nil e
  | true => exact e
theorem pw_and (ha : PT X a tA) (hb : PW X (.BoolOp .And (b :: rest) pos) tB') : PW X (.BoolOp .And (a :: b :: rest) pos) (tAnd tA tB') := by
  intro wh pins s σ H Q I h
  refine isTrue_and (thn (ha pins s σ H _ I h) fun c s1 ⟨H1, I1, q1⟩ => ?_)
  cases c with
  | true => exact hb wh pins s1 σ H1 Q I1 q1
  | false => exact ⟨H1, I1, q1⟩
theorem pw_or (ha : PT X a tA) (hb : PW X (.BoolOp .Or (b :: rest) pos) tB') : PW X (.BoolOp .Or (a :: b :: rest) pos) (tOr tA tB') := by
  intro wh pins s σ H Q I h
  refine isTrue_or (thn (ha pins s σ H _ I h) fun c s1 ⟨H1, I1, q1⟩ => ?_)
  cases c with
  | true => exact ⟨H1, I1, q1⟩
  | false => exact hb wh pins s1 σ H1 Q I1 q1
theorem pt_not (ha : PT X a tA) : PT X (.UnaryOp .Not a pos) (tNot tA) := by
  intro pins s σ H Q I h
  exact isTrue_not (ha pins s σ H (fun c H1 => Q (!c) H1) I h)
def tAndV (ta tb : TE) : TE := fun σ H Q => ta σ H fun x H1 => ∃ c, x = .bl c /\ if c = true then tb σ H1 Q else Q (.bl false) H1
def tOrV (ta tb : TE) : TE := fun σ H Q => ta σ H fun x H1 => ∃ c, x = .bl c /\ if c = true then Q (.bl true) H1 else tb σ H1 Q
def tNotV (ta : TE) : TE := fun σ H Q => ta σ H fun x H1 => ∃ c, x = .bl c /\ Q (.bl (!c)) H1
theorem pe_one {op} {t : TE} (h : PE X a t) : PE X (.BoolOp op [a] pos) t := fun pins s σ H Q I hw => BoolOp_one (h pins s σ H Q I hw)
theorem pe_and (ha : PE X a ta) (hb : PE X (.BoolOp .And (b :: rest) pos) tb) : PE X (.BoolOp .And (a :: b :: rest) pos) (tAndV ta tb) := by
  intro pins s σ H Q I h
  refine BoolOp_and (thn (ha pins s σ H _ I h) fun v s1 ⟨x, H1, I1, r1, q1⟩ => ?_)
  obtain ⟨c, rfl, q1⟩ := q1
  cases r1
  refine wpAny_truthy_bool ?_
  cases c with
  | true => exact hb pins s1 σ H1 Q I1 q1
  | false => exact ⟨.bl false, H1, I1, rfl, q1⟩
theorem pe_or (ha : PE X a ta) (hb : PE X (.BoolOp .Or (b :: rest) pos) tb) : PE X (.BoolOp .Or (a :: b :: rest) pos) (tOrV ta tb) := by
  intro pins s σ H Q I h
  refine BoolOp_or (thn (ha pins s σ H _ I h) fun v s1 ⟨x, H1, I1, r1, q1⟩ => ?_)
  obtain ⟨c, rfl, q1⟩ := q1
  cases r1
  refine wpAny_truthy_bool ?_
  cases c with
  | false => exact hb pins s1 σ H1 Q I1 q1
  | true => exact ⟨.bl true, H1, I1, rfl, q1⟩
theorem pe_not (ha : PE X a ta) : PE X (.UnaryOp .Not a pos) (tNotV ta) := by
  intro pins s σ H Q I h
  refine UnaryOp_ (thn (ha pins s σ H _ I h) fun v s1 ⟨x, H1, I1, r1, q1⟩ => ?_)
  obtain ⟨c, rfl, q1⟩ := q1
  cases r1
  exact not_of (wpAny_truthy_bool ⟨.bl (!c), H1, I1, rfl, q1⟩)
def tIf (t : TT) (ta tb : TE) : TE := fun σ H Q => t σ H fun c H1 => if c = true then ta σ H1 Q else tb σ H1 Q
theorem z3g {c : Expr} (hc : PT X c tA) (ha : PE X a ta) (hb : PE X b tb) : PE X (.IfExp c a b pos) (tIf tA ta tb) := by
  intro pins s σ H Q I h
  refine wpAny_IfExp (thn (hc pins s σ H _ I h) fun d s1 ⟨H1, I1, q1⟩ => ?_)
  cases d with
  | true => exact ha pins s1 σ H1 Q I1 q1
  | false => exact hb pins s1 σ H1 Q I1 q1
end
def SqL (K : PySem.W.Frag) (H : Hp) (a : Addr) (xs : List V) : Prop :=
  Rd H a (.lst xs) \/
    ∃ (o : Obj) (its : Array Value) (n : Nat), K.lookup a = some o /\ o.cls = .type "list" /\ o.dict = none /\ o.data = .seq its n /\ its.size ≤ sizeLine /\ Vals xs its.toList
def SqT (K : PySem.W.Frag) (H : Hp) (a : Addr) (xs : List V) : Prop :=
  Rd H a (.tup xs) \/
    ∃ (o : Obj) (its : Array Value) (n : Nat), K.lookup a = some o /\ o.cls = .type "tuple" /\ o.data = .seq its n /\ its.size ≤ sizeLine /\ Vals xs its.toList
def absV : Value -> Option V
  | .none => some .non
  | .bool b => some (.bl b)
  | .int i _ => some (.int i)
  | .str x _ => some (.str x)
  | .bytes b _ => some (.byt b)
  | .float b _ => some (.flt b)
  | .ref a => some (.ref a)
  | .type n => some (.ty n)
  | _ => none
theorem RelV.abs {x : V} {u : Value} (r : RelV x u) : absV u = some x := by
  cases x with
  | non => cases r; rfl
  | bl _ => cases r; rfl
  | int _ => obtain ⟨t, rfl⟩ := r; rfl
  | str _ => obtain ⟨t, rfl⟩ := r; rfl
  | byt _ => obtain ⟨t, rfl⟩ := r; rfl
  | flt _ => obtain ⟨t, rfl⟩ := r; rfl
  | ref _ => cases r; rfl
  | ty _ => cases r; rfl
theorem RelV.inj {x y : V} {u : Value} (r : RelV x u) (q : RelV y u) : x = y := Option.some.inj (r.abs.symm.trans q.abs)
theorem Vals.inj : ∀ {xs ys : List V} {us : List Value}, Vals xs us -> Vals ys us -> xs = ys
  | _, _, _, .nil, .nil => rfl
  | _, _, _, .cons r t, .cons r' t' => by rw [r.inj r', Vals.inj t t']
section
variable {X : Cx} {pins : List (Addr × Obj)} {σ : St} {H : Hp} {s : Shared} {a : Addr} {xs ys : List V}
theorem SqL.of {K : PySem.W.Frag} (h : H a = some (.lst xs)) : SqL K H a xs := .inl (.inl h)
theorem SqT.of {K : PySem.W.Frag} (h : H a = some (.tup xs)) : SqT K H a xs := .inl (.inl h)
theorem Inv.list (I : Inv X pins σ H s) (h : SqL X.K H a xs) : ∃ its : List Value, Vals xs its /\ PlainL s.heap a its.toArray /\ xs.length ≤ sizeLine := by
  rcases h with h | ⟨o, its, n, hk, hc, hd, hs, hz, r⟩
  · obtain ⟨z, its, n, r, e⟩ := h.ok I.hok
    exact ⟨its, r, ⟨_, n, e, rfl, rfl, rfl⟩, z⟩
  · refine ⟨its.toList, r, ⟨o, n, I.kIn a o hk, hc, hd, by simpa using hs⟩, ?_⟩
    have e := r.length
    simp only [Array.length_toList] at e
    omega
theorem Inv.tuple (I : Inv X pins σ H s) (h : SqT X.K H a xs) : ∃ its : List Value, Vals xs its /\ IsTup s.heap a its.toArray /\ xs.length ≤ sizeLine := by
  rcases h with h | ⟨o, its, n, hk, hc, hs, hz, r⟩
  · obtain ⟨z, its, r, p⟩ := h.ok I.hok
    exact ⟨its, r, p, z⟩
  · refine ⟨its.toList, r, ⟨o, I.kIn a o hk, hc, n, by simpa using hs⟩, ?_⟩
    have e := r.length
    simp only [Array.length_toList] at e
    omega
theorem Inv.list_inj (I : Inv X pins σ H s) (h : SqL X.K H a xs) (h' : SqL X.K H a ys) : xs = ys := by
  obtain ⟨its, r, ⟨o, n, e, _, _, d⟩, _⟩ := I.list h
  obtain ⟨its', r', ⟨o', n', e', _, _, d'⟩, _⟩ := I.list h'
  rw [e] at e'; cases e'
  rw [d] at d'
  injection d' with d1 _
  have : its = its' := by simpa using congrArg Array.toList d1
  subst this
  exact r.inj r'
theorem Inv.tuple_inj (I : Inv X pins σ H s) (h : SqT X.K H a xs) (h' : SqT X.K H a ys) : xs = ys := by
  obtain ⟨its, r, ⟨o, e, _, n, d⟩, _⟩ := I.tuple h
  obtain ⟨its', r', ⟨o', e', _, n', d'⟩, _⟩ := I.tuple h'
  rw [e] at e'; cases e'
  rw [d] at d'
  injection d' with d1 _
  have : its = its' := by simpa using congrArg Array.toList d1
  subst this
  exact r.inj r'
end
abbrev Cx.wish (X : Cx) (E : Value -> Shared -> Prop) : Cx := { X with xe := E }
abbrev Cx.nox (X : Cx) : Cx := X.wish fun _ _ => False
theorem Cx.Ok.wish {X : Cx} (ok : X.Ok) (E : Value -> Shared -> Prop) : (X.wish E).Ok :=
  ⟨ok.mod, ok.kind, ok.glob, ok.blt, ok.above, ok.inj, ok.has, ok.cab, ok.hd, ok.frames, ok.stk, ok.exf, ok.bs, ok.bsz, ok.noex, ok.exfs, ok.funs, ok.frf⟩
theorem Cx.Ok.unwish {X : Cx} {E : Value -> Shared -> Prop} (ok : (X.wish E).Ok) : X.Ok :=
  ⟨ok.mod, ok.kind, ok.glob, ok.blt, ok.above, ok.inj, ok.has, ok.cab, ok.hd, ok.frames, ok.stk, ok.exf, ok.bs, ok.bsz, ok.noex, ok.exfs, ok.funs, ok.frf⟩
section
variable {X : Cx} {pins : List (Addr × Obj)} {σ : St} {H : Hp} {s : Shared} {E : Value -> Shared -> Prop}
theorem Inv.wish (I : Inv X pins σ H s) (E : Value -> Shared -> Prop) : Inv (X.wish E) pins σ H s := ⟨I.ok.wish E, I.os, I.bare, I.base, I.loc, I.cell, I.free, I.freeC, I.pin, I.hok, I.len⟩
theorem Inv.unwish (I : Inv (X.wish E) pins σ H s) : Inv X pins σ H s := ⟨I.ok.unwish, I.os, I.bare, I.base, I.loc, I.cell, I.free, I.freeC, I.pin, I.hok, I.len⟩
theorem SP.unwish {D : Ends} {f : Flow} {s' : Shared} (h : SP (X.wish E) pins D f s') : SP X pins D f s' := by
  cases f with
  | next => obtain ⟨σ', H', I, q⟩ := h; exact ⟨σ', H', I.unwish, q⟩
  | brk => obtain ⟨σ', H', I, q⟩ := h; exact ⟨σ', H', I.unwish, q⟩
  | cont => obtain ⟨σ', H', I, q⟩ := h; exact ⟨σ', H', I.unwish, q⟩
  | ret u => obtain ⟨v, σ', H', I, r, q⟩ := h; exact ⟨v, σ', H', I.unwish, r, q⟩
theorem PE.nox {e : Expr} {t : TE} (h : PE X.nox e t) : PE X e t := fun pins s σ H Q I hw =>
  wpAny_mono (h pins s σ H Q (I.wish _) hw) (fun _ _ ⟨v, H', I', r, q⟩ => ⟨v, H', I'.unwish, r, q⟩) fun _ _ z => False.elim z
theorem PT.nox {e : Expr} {t : TT} (h : PT X.nox e t) : PT X e t := fun pins s σ H Q I hw =>
  wpAny_mono (h pins s σ H Q (I.wish _) hw) (fun _ _ ⟨H', I', q⟩ => ⟨H', I'.unwish, q⟩) fun _ _ z => False.elim z
theorem PSs.nox {st : List Stmt} {t : TS} (h : PSs X.nox st t) : PSs X st t := fun pins s σ H D I hw =>
  wpAny_mono (h pins s σ H D (I.wish _) hw) (fun _ _ q => q.unwish) fun _ _ z => False.elim z
end
section
variable {X : Cx} {st : Stmt} {rest : List Stmt} {t u : TS} {e : Expr} {te : TE} {pos : Pos}
def tNext : TS := fun D σ H => D.nx σ H
def tSeq (t u : TS) : TS := fun D σ H => t { D with nx := u D } σ H
theorem z0k : PSs X [] tNext := fun _ _ σ H _ I h => wpAny_execs_nil ⟨σ, H, I, h⟩
theorem z0d (h1 : PS X st t) (h2 : PSs X rest u) : PSs X (st :: rest) (tSeq t u) := by
  intro pins s σ H D I h
  refine wpAny_execs_cons (thn (h1 pins s σ H { D with nx := u D } I h) fun f s1 q => ?_)
  cases f with
  | next =>
    obtain ⟨σ', H', I', q⟩ := q
    exact h2 pins s1 σ' H' D I' q
  | ret v => exact q
  | brk => exact q
  | cont => exact q
theorem z0f (h1 : PS X st t) : PSs X [st] t := by
  intro pins s σ H D I h
  refine wpAny_execs_cons (thn (h1 pins s σ H D I h) fun f s1 q => ?_)
  cases f with
  | next => exact wpAny_execs_nil q
  | ret v => exact q
  | brk => exact q
  | cont => exact q
theorem Inv.quiet {pins : List (Addr × Obj)} {σ : St} {H : Hp} {s : Shared} (I : Inv X pins σ H s) : interactive X.env = false := by simp [interactive, I.ok.kind]
def tDrop (te : TE) : TS := fun D σ H => te σ H fun _ H1 => D.nx σ H1
theorem z1w (he : PE X e te) (hs : swapsWith e none pos.line X.env = pure false := by rfl) : PS X (.Expr e pos) (tDrop te) := by
  intro pins s σ H D I h
  exact wpAny_Expr_any (thn (he pins s σ H _ I h) fun v s1 ⟨x, H1, I1, r1, q1⟩ => ⟨σ, H1, I1, q1⟩) I.quiet hs
def tRet (te : TE) : TS := fun D σ H => te σ H D.rt
theorem z0l (he : PE X e te) : PS X (.Return (some e) pos) (tRet te) := by
  intro pins s σ H D I h
  exact wpAny_Return_some (thn (he pins s σ H _ I h) fun v s1 ⟨x, H1, I1, r1, q1⟩ => ⟨x, σ, H1, I1, r1, q1⟩)
def tRetN : TS := fun D _ H => D.rt .non H
def tIfS (c : TT) (t u : TS) : TS := fun D σ H => c σ H fun b H1 => if b = true then t D σ H1 else u D σ H1
theorem z0y {c : Expr} {a b : List Stmt} {tc : TT} (hc : PT X c tc) (ha : PSs X a t) (hb : PSs X b u) : PS X (.If c a b pos) (tIfS tc t u) := by
  intro pins s σ H D I h
  refine wpAny_If (thn (hc pins s σ H _ I h) fun d s1 ⟨H1, I1, q1⟩ => ?_)
  cases d with
  | true => exact ha pins s1 σ H1 D I1 q1
  | false => exact hb pins s1 σ H1 D I1 q1
def tNever : TS := fun _ _ _ => False
theorem ps_never : PS X st tNever := fun _ _ _ _ _ _ h => h.elim
end
abbrev TG := V -> St -> Hp -> (St -> Hp -> Prop) -> Prop
abbrev TGs := List V -> St -> Hp -> (St -> Hp -> Prop) -> Prop
def PG (X : Cx) (target : Expr) (t : TG) : Prop :=
  ∀ (pins : List (Addr × Obj)) (s : Shared) (σ : St) (H : Hp) (v : V) (u : Value) (Q : St -> Hp -> Prop), Inv X pins σ H s -> RelV v u -> t v σ H Q ->
    wpAny (model X.prog X.w) X.A (assign target X.env u) (fun _ s' => ∃ σ' H', Inv X pins σ' H' s' /\ Q σ' H') X.xe s
def PGs (X : Cx) (ts : List Expr) (t : TGs) : Prop :=
  ∀ (pins : List (Addr × Obj)) (s : Shared) (σ : St) (H : Hp) (vs : List V) (us : List Value) (Q : St -> Hp -> Prop), Inv X pins σ H s -> Vals vs us -> t vs σ H Q ->
    wpAny (model X.prog X.w) X.A (assignInOrder ((assignEach ts X.env).map (·.2)) us) (fun _ s' => ∃ σ' H', Inv X pins σ' H' s' /\ Q σ' H') X.xe s
abbrev TSet := V -> V -> V -> Hp -> (Hp -> Prop) -> Prop
def PSet (X : Cx) (t : TSet) : Prop :=
  ∀ (pins : List (Addr × Obj)) (s : Shared) (σ : St) (H : Hp) (o i v : V) (ov iv u : Value) (Q : Hp -> Prop), Inv X pins σ H s -> RelV o ov -> RelV i iv -> RelV v u -> t o i v H Q ->
    wpAny (model X.prog X.w) X.A (setItem ov iv u) (fun _ s' => ∃ H', Inv X pins σ H' s' /\ Q H') X.xe s
section
variable {X : Cx} {pos : Pos}
def gName (i : Nat) : TG := fun v σ H Q => Q (σ.set i (some v)) H
theorem z1h {i : Nat} {x : Str} (hN : X.N.Nodup) (hi : X.N[i]? = some x) (hx : Loc X.env.scope x) (hf : X.fn x = true \/ X.env.scope.names.lookup x = some .local := by first | exact .inl rfl | exact .inr rfl | assumption) : PG X (.Name x pos) (gName i) := by
  intro pins s σ H v u Q I r h
  exact wpAny_assign_Name (store_ok I hN hi hx r (fun s' I' => ⟨_, H, I', h⟩) hf)
def gNil : TGs := fun vs σ H Q => vs = [] /\ Q σ H
def gCons (t : TG) (u : TGs) : TGs := fun vs σ H Q => ∃ v r, vs = v :: r /\ t v σ H fun σ' H' => u r σ' H' Q
theorem pgs_nil : PGs X [] gNil := by
  intro pins s σ H vs us Q I r h
  obtain ⟨e, h⟩ := h
  subst e
  cases r
  exact assignInOrder_nil ⟨σ, H, I, h⟩
theorem z3t {e : Expr} {es : List Expr} {t : TG} {u : TGs} (h1 : PG X e t) (h2 : PGs X es u)
    (hs : (assignEach (e :: es) X.env).map (·.2) = assign e X.env :: (assignEach es X.env).map (·.2) := by rfl) : PGs X (e :: es) (gCons t u) := by
  intro pins s σ H vs us Q I r h
  obtain ⟨v, vr, e1, h⟩ := h
  subst e1
  cases r with
  | cons r rr =>
    rw [hs]
    refine assignInOrder_cons (thn (h1 pins s σ H _ _ _ I r h) fun _ s1 ⟨σ1, H1, I1, q1⟩ => ?_)
    exact h2 pins s1 σ1 H1 _ _ Q I1 rr q1
def gTup (K : PySem.W.Frag) (n : Nat) (t : TGs) : TG := fun v σ H Q => ∃ a xs, v = .ref a /\ SqT K H a xs /\ xs.length = n /\ t xs σ H Q
theorem pg_tup {es : List Expr} {k : Nat} {t : TGs} {n : Nat} (hc : X.calm = true) (h : PGs X es t)
    (hn : (assignEach es X.env).length = n := by rfl) (hst : (assignEach es X.env).findIdx? (·.1) = none := by rfl) : PG X (.Tuple es k pos) (gTup X.K n t) := by
  intro pins s σ H v u Q I r hw
  obtain ⟨a, xs, e1, hq, hl, hw⟩ := hw
  subst e1
  cases r
  obtain ⟨its, rv, ht, hz⟩ := I.tuple hq
  refine assign_Tuple_tuple (I.ok.hd hc) ht (by simp [hn, ← hl, rv.length]) hst fun h' hx => ?_
  have I1 : Inv X pins σ H { s with heap := h' } := I.kept (t' := s.toks) fun b o e => hx b o (Nat.ne_of_lt (Heap.lt_size e)) e
  exact h pins _ σ H xs _ Q I1 (by simpa using rv) hw
def gSub (to ti : TE) (t : TSet) : TG := fun v σ H Q => to σ H fun o H1 => ti σ H1 fun i H2 => t o i v H2 fun H3 => Q σ H3
theorem pg_sub {o i : Expr} {to ti : TE} {t : TSet} (ho : PE X o to) (hi : PE X i ti) (hs : PSet X t)
    (ha : ∀ v, assign (.Subscript o i pos) X.env v = (do
      let ov ← holding [v] (eval o X.env)
      let iv ← holding [v, ov] (eval i X.env)
      standAt pos
      holding [v, ov, iv] (setItem ov iv v)
      release [v, ov, iv] []) := by intro _; rfl) : PG X (.Subscript o i pos) (gSub to ti t) := by
  intro pins s σ H v u Q I r h
  rw [ha]
  refine wpAny_bind (wpAny_holding (thn (ho pins s σ H _ I h) fun ov s1 ⟨x, H1, I1, r1, q1⟩ => ?_))
  refine wpAny_bind (wpAny_holding (thn (hi pins s1 σ H1 _ I1 q1) fun iv s2 ⟨y, H2, I2, r2, q2⟩ => ?_))
  refine wpAny_bind (wpAny_standAt (wpAny_bind (wpAny_holding (thn (hs pins s2 σ H2 x y v ov iv u _ I2 r1 r2 r q2) fun _ s3 ⟨H3, I3, q3⟩ => ?_))))
  exact wpAny_release ⟨σ, H3, I3, q3⟩
def tAsg (te : TE) (g : TG) : TS := fun D σ H => te σ H fun x H1 => g x σ H1 D.nx
theorem ps_asg {tg e : Expr} {te : TE} {g : TG} (he : PE X e te) (hg : PG X tg g) (hs : swapsWithSole [tg] e pos.line X.env = pure false := by rfl) (hw : swappedStores [tg] e X.env = pure none := by rfl)
    (h1 : (assignEach [tg] X.env).map (·.2) = [assign tg X.env] := by rfl) : PS X (.Assign [tg] e pos) (tAsg te g) := by
  intro pins s σ H D I h
  refine wpAny_Assign_stores (thn (he pins s σ H _ I h) fun v s1 ⟨x, H1, I1, r1, q1⟩ => ?_) hs hw
  rw [h1]
  exact thn (hg pins s1 σ H1 x v _ I1 r1 q1) fun _ s2 q => q
theorem z0z {i : Nat} {x : Str} {e : Expr} {te : TE} {pos' : Pos} (hN : X.N.Nodup) (hi : X.N[i]? = some x) (hx : Loc X.env.scope x) (he : PE X e te) (hs : swapsWith e (some (.Name x pos')) pos.line X.env = pure false := by rfl) (hf : X.fn x = true \/ X.env.scope.names.lookup x = some .local := by first | exact .inl rfl | exact .inr rfl | assumption) :
    PS X (.Assign [.Name x pos'] e pos) (tAsg te (gName i)) := by
  intro pins s σ H D I h
  refine wpAny_Assign_Name (thn (he pins s σ H _ I h) fun v s1 ⟨y, H1, I1, r1, q1⟩ => ?_) hs
  exact store_ok I1 hN hi hx r1 (fun s2 I2 => ⟨_, H1, I2, q1⟩) hf
end
section
variable {X : Cx} {pos : Pos}
end
structure It where
  go : Nat -> Hp -> Prop
  yld : Nat -> Hp -> V -> Hp -> Prop
  stop : Nat -> Hp -> Prop
def FpOk (X : Cx) (pins : List (Addr × Obj)) (H : Hp) (b : Addr) : Prop :=
  H b = none /\ b ≠ X.env.locals /\ b ∉ X.fs /\ (b ∈ X.ex \/ X.s₀.heap.objs.size ≤ b) /\ (∀ x c, X.env.cells.lookup x = some c -> c ≠ b) /\ ∀ p ∈ X.pn ++ pins, p.1 ≠ b
theorem Inv.fpOk {X : Cx} {pins : List (Addr × Obj)} {σ : St} {H H' : Hp} {s : Shared} {b : Addr} (I : Inv X pins σ H s) (hb : s.heap.objs.size ≤ b) (hn : H' b = none) : FpOk X pins H' b := by
  refine ⟨hn, Nat.ne_of_gt (Nat.lt_of_lt_of_le I.lt hb), I.nofs hb, .inr (Nat.le_trans I.sz hb), fun x c e z => ?_, fun p hp z => ?_⟩
  · obtain ⟨v, q⟩ := I.cell x c e
    exact absurd (Nat.lt_of_lt_of_le q.lt (by rw [z]; exact hb)) (Nat.lt_irrefl _)
  · exact absurd (Nat.lt_of_lt_of_le (Heap.lt_size (I.pin p hp).1) (by rw [z]; exact hb)) (Nat.lt_irrefl _)
structure Turn (P : Program) (w : World) (K : PySem.W.Frag) (tg : Expr) (J : It) (fp : List Addr) (it : Addr) (tn : Nat -> Heap -> Prop) : Prop where
  mem : it ∈ fp
  obj : ∀ i h, tn i h -> ∀ b ∈ fp, ∃ o, h.get? b = some o /\ ∀ v, o.data ≠ .cell v
  keep : ∀ i h h', tn i h -> (∀ b ∈ fp, ∀ o, h.get? b = some o -> h'.get? b = some o) -> tn i h'
  item : ∀ (X : Cx), X.prog = P -> X.w = w -> X.K = K -> X.calm = true -> ∀ (i : Nat) (pins : List (Addr × Obj)) (s : Shared) (σ : St) (H : Hp) (E : Value -> Shared -> Prop), Inv X pins σ H s -> (∀ b ∈ fp, FpOk X pins H b) -> tn i s.heap -> J.go i H ->
    wpAny (model P w) X.A (pyNext (.ref it)) (fun r s1 => ∃ u, r = some u /\
      wpAny (model P w) X.A (letOwnedTupleGo tg (.ref it) u) (fun _ s2 => ∃ x H', Inv X pins σ H' s2 /\ RelV x u /\ J.yld i H x H' /\ tn (i + 1) s2.heap /\ ∀ b ∈ fp, H' b = none) E s1) E s
  done : ∀ (X : Cx), X.prog = P -> X.w = w -> X.K = K -> X.calm = true -> ∀ (i : Nat) (pins : List (Addr × Obj)) (s : Shared) (σ : St) (H : Hp) (E : Value -> Shared -> Prop), Inv X pins σ H s -> (∀ b ∈ fp, FpOk X pins H b) -> tn i s.heap -> J.stop i H ->
    wpAny (model P w) X.A (pyNext (.ref it)) (fun r s1 => r = none /\ Inv X pins σ H s1) E s
  self : ∀ (A : Around) (i : Nat) (s : Shared) (Q : Value -> Shared -> Prop) (E : Value -> Shared -> Prop), tn i s.heap -> Q (.ref it) s -> wpAny (model P w) A (pyIter (.ref it)) Q E s
abbrev TI := St -> Hp -> (It -> Hp -> Prop) -> Prop
def PIE (X : Cx) (pins : List (Addr × Obj)) (σ : St) (tg : Expr) (R : It -> Hp -> Prop) (itv : Value) (s2 : Shared) : Prop :=
  ∃ (it : Addr) (fp : List Addr) (tn : Nat -> Heap -> Prop) (J : It) (H' : Hp), itv = .ref it /\ Inv X pins σ H' s2 /\ Turn X.prog X.w X.K tg J fp it tn /\ tn 0 s2.heap /\ (∀ b ∈ fp, FpOk X pins H' b) /\ R J H'
def PI (X : Cx) (tg iter : Expr) (wi : TI) : Prop :=
  ∀ (pins : List (Addr × Obj)) (s : Shared) (σ : St) (H : Hp) (R : It -> Hp -> Prop), Inv X pins σ H s -> wi σ H R ->
    wpAny (model X.prog X.w) X.A (eval iter X.env) (fun v s1 => wpAny (model X.prog X.w) X.A (pyIter v) (PIE X pins σ tg R) X.xe s1) X.xe s
theorem go_of {M : Model} {A : Around} {E : Value -> Shared -> Prop} {s : Shared} {tg : Expr} {it : Addr} {u : Value} {o : Obj} {n : String} {vs : Array Value} {Q : Unit -> Shared -> Prop} (ho : s.heap.get? it = some o) (hc : o.cls = .type n) (hd : o.data = .fields vs)
    (hn : ["enumerate", "zip", "dict_itemiterator", "dict_reverseitemiterator", "odict_iterator", "itertools.zip_longest", "itertools.pairwise"].contains n = false) (hQ : Q () s) : wpAny M A (letOwnedTupleGo tg (.ref it) u) Q E s := by
  unfold letOwnedTupleGo
  cases tg <;> first
    | exact wpAny_pure hQ
    | (cases u <;> first
        | exact wpAny_pure hQ
        | (refine wpAny_bind (wpAny_load ho ?_)
           rw [hc, hd]
           show wpAny M A (if (["enumerate", "zip", "dict_itemiterator", "dict_reverseitemiterator", "odict_iterator", "itertools.zip_longest", "itertools.pairwise"].contains n && vs[0]? == some (rawInt _)) = true then _ else _) Q E s
           rw [if_neg (by intro h; rw [hn, Bool.false_and] at h; cases h)]
           exact wpAny_pure hQ))
def Itl (K : PySem.W.Frag) (a : Addr) : It :=
  ⟨fun i H => ∃ xs x, SqL K H a xs /\ xs[i]? = some x, fun i H x H' => H' = H /\ ∀ xs, SqL K H a xs -> xs[i]? = some x, fun i H => ∃ xs, SqL K H a xs /\ xs.length ≤ i⟩
def Itt (K : PySem.W.Frag) (a : Addr) : It :=
  ⟨fun i H => ∃ xs x, SqT K H a xs /\ xs[i]? = some x, fun i H x H' => H' = H /\ ∀ xs, SqT K H a xs -> xs[i]? = some x, fun i H => ∃ xs, SqT K H a xs /\ xs.length ≤ i⟩
def Itr (lo : Int) (n : Nat) : It := ⟨fun i _ => i < n, fun i H x H' => H' = H /\ x = .int (lo + i), fun i _ => n ≤ i⟩
theorem turn_list {P : Program} {w : World} {K : PySem.W.Frag} {tg : Expr} (a it : Addr) : Turn P w K tg (Itl K a) [it] it (fun i h => h.IsListIter it a i) where
  mem := by simp
  obj := fun i h st b hb => by
    have e : b = it := by simpa using hb
    subst e
    obtain ⟨o, e, c, d⟩ := st
    exact ⟨o, e, fun v z => by rw [d] at z; cases z⟩
  keep := fun i h h' st k => st.at fun o e => k it (by simp) o e
  item := by
    intro X hP hw hK hc i pins s σ H E I hf st hg
    subst hP hw hK
    obtain ⟨xs, x, hq, hx⟩ := hg
    obtain ⟨its, rv, p, hz⟩ := I.list hq
    obtain ⟨u, hu, ru⟩ := rv.get hx
    obtain ⟨f0, f1, f2, f3, f4, f5⟩ := hf it (by simp)
    refine wpAny_pyNext_list_item st p.isList (x := u) (by simpa using hu) fun h' st' sb => ?_
    have I1 : Inv X pins σ H { s with heap := h' } := I.turned (t' := s.toks) (fun b o hb e => (sb.2 b hb).trans e) f0 f1 f3 f4 f5
    obtain ⟨o, e, c, d⟩ := id st'
    exact ⟨u, rfl, go_of (s := { s with heap := h' }) e c d (by decide) ⟨x, H, I1, ru, ⟨rfl, fun ys hy => by rw [I.list_inj hy hq]; exact hx⟩, st', fun b hb => (hf b hb).1⟩⟩
  done := by
    intro X hP hw hK hc i pins s σ H E I hf st hg
    subst hP hw hK
    obtain ⟨xs, hq, hx⟩ := hg
    obtain ⟨its, rv, p, hz⟩ := I.list hq
    obtain ⟨f0, f1, f2, f3, f4, f5⟩ := hf it (by simp)
    have hl := rv.length
    exact wpAny_pyNext_list_end (I.ok.hd hc) st p.isList (by simp; omega) fun h' eb => ⟨rfl, I.turned (t' := s.toks) (fun b o hb e => eb b o hb e) f0 f1 f3 f4 f5⟩
  self := fun _ _ _ _ _ st h => wpAny_pyIter_listiter st h
theorem turn_tuple {P : Program} {w : World} {K : PySem.W.Frag} {tg : Expr} (a it : Addr) : Turn P w K tg (Itt K a) [it] it (fun i h => h.IsTupleIter it a i) where
  mem := by simp
  obj := fun i h st b hb => by
    have e : b = it := by simpa using hb
    subst e
    obtain ⟨o, e, c, d⟩ := st
    exact ⟨o, e, fun v z => by rw [d] at z; cases z⟩
  keep := fun i h h' st k => st.at fun o e => k it (by simp) o e
  item := by
    intro X hP hw hK hc i pins s σ H E I hf st hg
    subst hP hw hK
    obtain ⟨xs, x, hq, hx⟩ := hg
    obtain ⟨its, rv, p, hz⟩ := I.tuple hq
    obtain ⟨u, hu, ru⟩ := rv.get hx
    obtain ⟨f0, f1, f2, f3, f4, f5⟩ := hf it (by simp)
    refine wpAny_pyNext_tuple_item st (show s.heap.IsTuple a its.toArray from p) (x := u) (by simpa using hu) fun h' st' sb => ?_
    have I1 : Inv X pins σ H { s with heap := h' } := I.turned (t' := s.toks) (fun b o hb e => (sb.2 b hb).trans e) f0 f1 f3 f4 f5
    obtain ⟨o, e, c, d⟩ := id st'
    exact ⟨u, rfl, go_of (s := { s with heap := h' }) e c d (by decide) ⟨x, H, I1, ru, ⟨rfl, fun ys hy => by rw [I.tuple_inj hy hq]; exact hx⟩, st', fun b hb => (hf b hb).1⟩⟩
  done := by
    intro X hP hw hK hc i pins s σ H E I hf st hg
    subst hP hw hK
    obtain ⟨xs, hq, hx⟩ := hg
    obtain ⟨its, rv, p, hz⟩ := I.tuple hq
    obtain ⟨f0, f1, f2, f3, f4, f5⟩ := hf it (by simp)
    have hl := rv.length
    exact wpAny_pyNext_tuple_end (I.ok.hd hc) st (show s.heap.IsTuple a its.toArray from p) (by simp; omega) fun h' eb => ⟨rfl, I.turned (t' := s.toks) (fun b o hb e => eb b o hb e) f0 f1 f3 f4 f5⟩
  self := fun _ _ _ _ _ st h => wpAny_pyIter_tupleiter st h
theorem turn_range {P : Program} {w : World} {K : PySem.W.Frag} {tg : Expr} (it : Addr) (lo : Int) (n : Nat) : Turn P w K tg (Itr lo n) [it] it (fun i h => IsRangeIter h it (lo + (i : Nat) * 1) ((n : Int) - (i : Nat)) 1) where
  mem := by simp
  obj := fun i h st b hb => by
    have e : b = it := by simpa using hb
    subst e
    exact ⟨_, st, fun v z => by
      have z' : Data.fields _ = Data.cell v := z
      cases z'⟩
  keep := fun i h h' st k => k it (by simp) _ st
  item := by
    intro X hP hw hK hc i pins s σ H E I hf st hg
    subst hP hw hK
    obtain ⟨f0, f1, f2, f3, f4, f5⟩ := hf it (by simp)
    have W := Walks.range (prog := X.prog) (w := X.w) (I.ok.hd hc) it lo 1 n
    refine W.item i s _ _ hg st fun v h' tk hv st' kk => ?_
    obtain ⟨t, rfl⟩ := hv
    have I1 : Inv X pins σ H { s with heap := h', toks := tk } := I.turned (fun b o hb e => kk b o (by simpa using hb) e) f0 f1 f3 f4 f5
    refine ⟨_, rfl, go_of (s := { s with heap := h', toks := tk }) (n := "range_iterator") st' rfl rfl (by decide) ⟨.int (lo + i), H, I1, ⟨t, ?_⟩, ⟨rfl, rfl⟩, st', fun b hb => (hf b hb).1⟩⟩
    rw [Int.mul_one]
  done := by
    intro X hP hw hK hc i pins s σ H E I hf st hg
    subst hP hw hK
    obtain ⟨f0, f1, f2, f3, f4, f5⟩ := hf it (by simp)
    exact wpAny_pyNext_range_end (I.ok.hd hc) st (by have : n ≤ i := hg; omega) fun h' eb => ⟨rfl, I.turned (t' := s.toks) (fun b o hb e => eb b o hb e) f0 f1 f3 f4 f5⟩
  self := fun _ _ _ _ _ st h => wpAny_pyIter_rangeiter st h
section
variable {X : Cx} {tg : Expr}
def iList (K : PySem.W.Frag) (tl : TE) : TI := fun σ H R => tl σ H fun x H1 => ∃ a, x = .ref a /\ (∃ xs, SqL K H1 a xs) /\ R (Itl K a) H1
def iTup (K : PySem.W.Frag) (tl : TE) : TI := fun σ H R => tl σ H fun x H1 => ∃ a, x = .ref a /\ (∃ xs, SqT K H1 a xs) /\ R (Itt K a) H1
theorem z2p {l : Expr} {tl : TE} (hl : PE X l tl) : PI X tg l (iList X.K tl) := by
  intro pins s σ H R I h
  refine thn (hl pins s σ H _ I h) fun v s1 ⟨x, H1, I1, r1, q1⟩ => ?_
  obtain ⟨a, e, ⟨xs, hq⟩, q⟩ := q1
  subst e
  cases r1
  obtain ⟨its, rv, p, hz⟩ := I1.list hq
  refine wpAny_pyIter_list p.isList ?_
  refine ⟨s1.heap.objs.size, [s1.heap.objs.size], _, _, H1, rfl, I1.kept (t' := s1.toks) fun b o e => Heap.get?_push_of_some _ e, turn_list a _, ⟨_, Heap.get?_push_size _ rfl, rfl, rfl⟩, fun b hb => ?_, q⟩
  have e : b = s1.heap.objs.size := by simpa using hb
  subst e
  exact I1.fpOk (Nat.le_refl _) (I1.hok.fresh (Nat.le_refl _))
theorem z3s {l : Expr} {tl : TE} (hl : PE X l tl) : PI X tg l (iTup X.K tl) := by
  intro pins s σ H R I h
  refine thn (hl pins s σ H _ I h) fun v s1 ⟨x, H1, I1, r1, q1⟩ => ?_
  obtain ⟨a, e, ⟨xs, hq⟩, q⟩ := q1
  subst e
  cases r1
  obtain ⟨its, rv, p, hz⟩ := I1.tuple hq
  refine wpAny_pyIter_tuple (show s1.heap.IsTuple a its.toArray from p) ?_
  refine ⟨s1.heap.objs.size, [s1.heap.objs.size], _, _, H1, rfl, I1.kept (t' := s1.toks) fun b o e => Heap.get?_push_of_some _ e, turn_tuple a _, ⟨_, Heap.get?_push_size _ rfl, rfl, rfl⟩, fun b hb => ?_, q⟩
  have e : b = s1.heap.objs.size := by simpa using hb
  subst e
  exact I1.fpOk (Nat.le_refl _) (I1.hok.fresh (Nat.le_refl _))
theorem range_it {pins : List (Addr × Obj)} {σ : St} {H : Hp} {s : Shared} {R : It -> Hp -> Prop} {E : Value -> Shared -> Prop} {lo hi : Int} {t u v : Tok} {tk : Nat} (I : Inv X pins σ H s) (h1 : -(2 ^ 62) ≤ lo) (h2 : lo < 2 ^ 62) (h3 : -(2 ^ 62) ≤ hi) (h4 : hi < 2 ^ 62)
    (q : R (Itr lo (hi - lo).toNat) H) : wpAny (model X.prog X.w) X.A (pyIter (.ref s.heap.objs.size)) (PIE X pins σ tg R) E { s with heap := s.heap.push { cls := .type "range", data := .fields #[.int lo t, .int hi u, .int 1 v] }, toks := tk } := by
  refine wpAny_pyIter_range (IsRange.new ..) (small_one h1 h2 h3 h4) ?_
  have I1 : Inv X pins σ H { s with heap := s.heap.push { cls := .type "range", data := .fields #[.int lo t, .int hi u, .int 1 v] }, toks := tk } := I.kept fun b o e => Heap.get?_push_of_some _ e
  refine ⟨(s.heap.push { cls := .type "range", data := .fields #[.int lo t, .int hi u, .int 1 v] }).objs.size, [(s.heap.push { cls := .type "range", data := .fields #[.int lo t, .int hi u, .int 1 v] }).objs.size], _, _, H, rfl,
    I1.kept (t' := tk) fun b o e => Heap.get?_push_of_some _ e, turn_range _ lo (hi - lo).toNat, ?_, fun b hb => ?_, q⟩
  · have e1 : lo + ((0 : Nat) : Int) * 1 = lo := by simp
    have e2 : (((hi - lo).toNat : Nat) : Int) - ((0 : Nat) : Int) = Builtin.Range.rangeSize lo hi 1 := by rw [rangeSize_one]; split <;> omega
    show IsRangeIter _ _ (lo + ((0 : Nat) : Int) * 1) ((((hi - lo).toNat : Nat) : Int) - ((0 : Nat) : Int)) 1
    rw [e1, e2]
    exact Heap.get?_push_size _ rfl
  · have e : b = (s.heap.push { cls := .type "range", data := .fields #[.int lo t, .int hi u, .int 1 v] }).objs.size := by simpa using hb
    subst e
    exact I1.fpOk (Nat.le_refl _) (I1.hok.fresh (Nat.le_refl _))
def iRng1 (ta : TA) : TI := fun σ H R => ta σ H fun vs H1 => ∃ j : Int, vs = [.int j] /\ -(2 ^ 62) ≤ j /\ j < 2 ^ 62 /\ R (Itr 0 j.toNat) H1
def iRng2 (ta : TA) : TI := fun σ H R => ta σ H fun vs H1 => ∃ i j : Int, vs = [.int i, .int j] /\ (-(2 ^ 62) ≤ i /\ i < 2 ^ 62 /\ -(2 ^ 62) ≤ j /\ j < 2 ^ 62) /\ R (Itr i (j - i).toNat) H1
theorem z2j {a : Expr} {ta : TA} {p pos : Pos} (hg : Gl X "range") (hm : X.mg "range" = none) (ha : PA X [a] ta) (hs : starEach [a] X.env = [(false, eval a X.env)] := by rfl) : PI X tg (.Call (.Name "range" p) [a] [] pos) (iRng1 ta) := by
  intro pins s σ H R I h
  refine Call_ (ld_blt I hg hm boot_range (PyProof.Rows.callWith_type1 (thn (ha pos pins s σ H _ I h) fun us s1 ⟨vs, H1, I1, r1, q1⟩ => ?_) hs rfl))
  obtain ⟨j, e, q1, q2, q⟩ := q1
  subst e
  cases r1 with
  | cons r rr =>
    cases rr
    obtain ⟨t, rfl⟩ := r
    exact call_range_1 (range_it I1 (by omega) (by omega) q1 q2 (by simpa using q))
def tFor (wi : TI) (g : TG) (tb : TS) : TS := fun D σ H => wi σ H fun J H1 => ∃ W : Nat -> Nat -> St -> Hp -> Prop, (∃ m, W 0 m σ H1) /\ ∀ i m σ H, W i m σ H ->
  (J.stop i H /\ D.nx σ H) \/ (J.go i H /\ ∃ N : St -> Hp -> Prop, (∀ σ' H', N σ' H' -> ∃ m', m' < m /\ W (i + 1) m' σ' H') /\ ∀ x H', J.yld i H x H' -> g x σ H' fun σ2 H2 => tb { D with nx := N, ct := N, bk := D.nx } σ2 H2)
def pinsAt (fp : List Addr) (h : Heap) : List (Addr × Obj) := fp.filterMap fun b => (h.get? b).map fun o => (b, o)
theorem z1q {fp : List Addr} {h : Heap} {b : Addr} {o : Obj} (hb : b ∈ fp) (e : h.get? b = some o) : (b, o) ∈ pinsAt fp h := List.mem_filterMap.mpr ⟨b, hb, by rw [e]; rfl⟩
theorem of_pinsAt {fp : List Addr} {h : Heap} {p : Addr × Obj} (hp : p ∈ pinsAt fp h) : p.1 ∈ fp /\ h.get? p.1 = some p.2 := by
  obtain ⟨b, hb, e⟩ := List.mem_filterMap.mp hp
  cases q : h.get? b with
  | none => rw [q] at e; cases e
  | some o =>
    rw [q] at e
    have e' : (b, o) = p := Option.some.inj e
    subst e'
    exact ⟨hb, q⟩
theorem Inv.pinned {pins : List (Addr × Obj)} {σ : St} {H : Hp} {s : Shared} {fp : List Addr} (I : Inv X pins σ H s) (hf : ∀ b ∈ fp, FpOk X pins H b) (ho : ∀ b ∈ fp, ∃ o, s.heap.get? b = some o /\ ∀ v, o.data ≠ .cell v) : Inv X (pins ++ pinsAt fp s.heap) σ H s :=
  I.pins_of fun p hp => (List.mem_append.mp hp).elim (fun z => I.pin p (List.mem_append_right _ z)) fun z => by
    obtain ⟨hb, e⟩ := of_pinsAt z
    obtain ⟨f0, f1, f2, _⟩ := hf p.1 hb
    obtain ⟨o, e', d⟩ := ho p.1 hb
    rw [e] at e'; cases e'
    exact ⟨e, f0, f1, f2, d⟩
theorem Inv.unpinned {pins pl : List (Addr × Obj)} {σ : St} {H : Hp} {s : Shared} (I : Inv X (pins ++ pl) σ H s) : Inv X pins σ H s := I.pins_of fun p hp => I.pin p (List.mem_append_right _ (List.mem_append_left _ hp))
theorem z3b {iter : Expr} {body : List Stmt} {wi : TI} {g : TG} {tb : TS} {pos : Pos} (hp : PassesOwn (model X.prog X.w) X.A X.env X.xe) (hc : X.calm = true) (hi : PI X tg iter wi) (hg : PG X tg g) (hb : PSs X body tb)
    (hs : ∀ x, foldedSetIterable iter X.env x = pure x := by intro _; rfl) : PS X (.For tg iter body [] pos) (tFor wi g tb) := by
  intro pins s σ H D I h
  refine wpAny_For (thn (hi pins s σ H _ I h) fun v s1 h1 => thn h1 fun itv s2 h2 => ?_) hs
  obtain ⟨it, fp, tn, J, H2, e, I2, T, st2, f2, W, ⟨m0, w0⟩, turn⟩ := h2
  subst e
  have stat : ∀ {H' : Hp}, (∀ b ∈ fp, H' b = none) -> ∀ b ∈ fp, FpOk X pins H' b := fun hn b hb => ⟨hn b hb, (f2 b hb).2⟩
  refine codeAny_forLoop_any (fun n s' => ∃ i σ' H', Inv X pins σ' H' s' /\ tn i s'.heap /\ (∀ b ∈ fp, H' b = none) /\ W i n σ' H') ?_ m0 ⟨0, σ, H2, I2, st2, fun b hb => (f2 b hb).1, w0⟩
  rintro n s3 ⟨i, σ3, H3, I3, st3, fr3, w3⟩
  rcases turn i n σ3 H3 w3 with ⟨stop, qn⟩ | ⟨go, N, hN, step⟩
  · refine wpAny_passesOwn hp (thn (T.done X rfl rfl rfl hc i pins s3 σ3 H3 X.xe I3 (stat fr3) st3 stop) fun r s4 ⟨hr, I4⟩ => ?_)
    subst hr
    exact wpAny_execs_nil ⟨σ3, H3, I4, qn⟩
  · refine wpAny_passesOwn hp (thn (T.item X rfl rfl rfl hc i pins s3 σ3 H3 X.xe I3 (stat fr3) st3 go) fun r s4 ⟨u, hr, h4⟩ => ?_)
    subst hr
    refine wpAny_passesOwn hp (thn h4 fun _ s5 ⟨x, H5, I5, r5, y5, st5, fr5⟩ => ?_)
    have I5' := I5.pinned (stat fr5) (T.obj _ _ st5)
    refine wpAny_passesOwn hp (thn (hg _ s5 σ3 H5 x u _ I5' r5 (step x H5 y5)) fun _ s6 ⟨σ6, H6, I6, q6⟩ => ?_)
    refine wpAny_passesOwn hp (thn (hb _ s6 σ6 H6 _ I6 q6) fun f s7 q7 => ?_)
    have again : ∀ {σ7 : St} {H7 : Hp}, Inv X (pins ++ pinsAt fp s5.heap) σ7 H7 s7 -> N σ7 H7 -> ∃ m, m < n /\ ∃ i σ' H', Inv X pins σ' H' s7 /\ tn i s7.heap /\ (∀ b ∈ fp, H' b = none) /\ W i m σ' H' := fun {σ7 H7} I7 n7 => by
      obtain ⟨m', hm, w7⟩ := hN σ7 H7 n7
      refine ⟨m', hm, i + 1, σ7, H7, I7.unpinned, T.keep _ _ _ st5 fun b hb o e => (I7.pin (b, o) (List.mem_append_right _ (List.mem_append_right _ (z1q hb e)))).1, fun b hb => ?_, w7⟩
      obtain ⟨o, e, d⟩ := T.obj _ _ st5 b hb
      exact (I7.pin (b, o) (List.mem_append_right _ (List.mem_append_right _ (z1q hb e)))).2.1
    cases f with
    | next => obtain ⟨σ7, H7, I7, n7⟩ := q7; exact again I7 n7
    | cont => obtain ⟨σ7, H7, I7, n7⟩ := q7; exact again I7 n7
    | brk => obtain ⟨σ7, H7, I7, q7⟩ := q7; exact ⟨σ7, H7, I7.unpinned, q7⟩
    | ret v => obtain ⟨x7, σ7, H7, I7, r7, q7⟩ := q7; exact ⟨x7, σ7, H7, I7.unpinned, r7, q7⟩
end
theorem for_list {K : PySem.W.Frag} {a : Addr} {xs : List V} {g : TG} {tb : TS} {D : Ends} {σ : St} {H : Hp} (Pv : Nat -> St -> Hp -> Prop) (h0 : Pv 0 σ H) (hl : ∀ i σ H, i ≤ xs.length -> Pv i σ H -> SqL K H a xs)
    (hs : ∀ i x σ H, xs[i]? = some x -> Pv i σ H -> g x σ H fun σ2 H2 => tb { D with nx := Pv (i + 1), ct := Pv (i + 1), bk := D.nx } σ2 H2) (hd : ∀ σ H, Pv xs.length σ H -> D.nx σ H) :
    ∃ W : Nat -> Nat -> St -> Hp -> Prop, (∃ m, W 0 m σ H) /\ ∀ i m σ H, W i m σ H ->
      ((Itl K a).stop i H /\ D.nx σ H) \/ ((Itl K a).go i H /\ ∃ N : St -> Hp -> Prop, (∀ σ' H', N σ' H' -> ∃ m', m' < m /\ W (i + 1) m' σ' H') /\ ∀ x H', (Itl K a).yld i H x H' -> g x σ H' fun σ2 H2 => tb { D with nx := N, ct := N, bk := D.nx } σ2 H2) := by
  refine ⟨fun i m σ H => m = xs.length - i /\ i ≤ xs.length /\ Pv i σ H, ⟨xs.length, by simp, Nat.zero_le _, h0⟩, ?_⟩
  rintro i m σ H ⟨rfl, hi, p⟩
  have q := hl i σ H hi p
  by_cases hlt : i < xs.length
  · refine .inr ⟨⟨xs, xs[i], q, by simp [hlt]⟩, Pv (i + 1), fun σ' H' p' => ⟨xs.length - (i + 1), by omega, rfl, hlt, p'⟩, fun x H' y => ?_⟩
    obtain ⟨e, y⟩ := y
    subst e
    exact hs i x σ _ (y xs q) p
  · have e : i = xs.length := by omega
    subst e
    exact .inl ⟨⟨xs, q, Nat.le_refl _⟩, hd σ H p⟩
theorem for_tup {K : PySem.W.Frag} {a : Addr} {xs : List V} {g : TG} {tb : TS} {D : Ends} {σ : St} {H : Hp} (Pv : Nat -> St -> Hp -> Prop) (h0 : Pv 0 σ H) (hl : ∀ i σ H, i ≤ xs.length -> Pv i σ H -> SqT K H a xs)
    (hs : ∀ i x σ H, xs[i]? = some x -> Pv i σ H -> g x σ H fun σ2 H2 => tb { D with nx := Pv (i + 1), ct := Pv (i + 1), bk := D.nx } σ2 H2) (hd : ∀ σ H, Pv xs.length σ H -> D.nx σ H) :
    ∃ W : Nat -> Nat -> St -> Hp -> Prop, (∃ m, W 0 m σ H) /\ ∀ i m σ H, W i m σ H ->
      ((Itt K a).stop i H /\ D.nx σ H) \/ ((Itt K a).go i H /\ ∃ N : St -> Hp -> Prop, (∀ σ' H', N σ' H' -> ∃ m', m' < m /\ W (i + 1) m' σ' H') /\ ∀ x H', (Itt K a).yld i H x H' -> g x σ H' fun σ2 H2 => tb { D with nx := N, ct := N, bk := D.nx } σ2 H2) := by
  refine ⟨fun i m σ H => m = xs.length - i /\ i ≤ xs.length /\ Pv i σ H, ⟨xs.length, by simp, Nat.zero_le _, h0⟩, ?_⟩
  rintro i m σ H ⟨rfl, hi, p⟩
  have q := hl i σ H hi p
  by_cases hlt : i < xs.length
  · refine .inr ⟨⟨xs, xs[i], q, by simp [hlt]⟩, Pv (i + 1), fun σ' H' p' => ⟨xs.length - (i + 1), by omega, rfl, hlt, p'⟩, fun x H' y => ?_⟩
    obtain ⟨e, y⟩ := y
    subst e
    exact hs i x σ _ (y xs q) p
  · have e : i = xs.length := by omega
    subst e
    exact .inl ⟨⟨xs, q, Nat.le_refl _⟩, hd σ H p⟩
theorem for_range {lo : Int} {n : Nat} {g : TG} {tb : TS} {D : Ends} {σ : St} {H : Hp} (Pv : Nat -> St -> Hp -> Prop) (h0 : Pv 0 σ H)
    (hs : ∀ i σ H, i < n -> Pv i σ H -> g (.int (lo + i)) σ H fun σ2 H2 => tb { D with nx := Pv (i + 1), ct := Pv (i + 1), bk := D.nx } σ2 H2) (hd : ∀ σ H, Pv n σ H -> D.nx σ H) :
    ∃ W : Nat -> Nat -> St -> Hp -> Prop, (∃ m, W 0 m σ H) /\ ∀ i m σ H, W i m σ H ->
      ((Itr lo n).stop i H /\ D.nx σ H) \/ ((Itr lo n).go i H /\ ∃ N : St -> Hp -> Prop, (∀ σ' H', N σ' H' -> ∃ m', m' < m /\ W (i + 1) m' σ' H') /\ ∀ x H', (Itr lo n).yld i H x H' -> g x σ H' fun σ2 H2 => tb { D with nx := N, ct := N, bk := D.nx } σ2 H2) := by
  refine ⟨fun i m σ H => m = n - i /\ i ≤ n /\ Pv i σ H, ⟨n, by simp, Nat.zero_le _, h0⟩, ?_⟩
  rintro i m σ H ⟨rfl, hi, p⟩
  by_cases hlt : i < n
  · refine .inr ⟨hlt, Pv (i + 1), fun σ' H' p' => ⟨n - (i + 1), by omega, rfl, hlt, p'⟩, fun x H' y => ?_⟩
    obtain ⟨e, y⟩ := y
    subst e y
    exact hs i σ _ hlt p
  · have e : i = n := by omega
    subst e
    exact .inl ⟨Nat.le_refl _, hd σ H p⟩
abbrev R2 := V -> V -> Hp -> VK -> Prop
def OpR (X : Cx) (f : Value -> Value -> Sem Value) (r : R2) : Prop :=
  ∀ (pins : List (Addr × Obj)) (s : Shared) (σ : St) (H : Hp) (x y : V) (v u : Value) (Q : VK), Inv X pins σ H s -> RelV x v -> RelV y u -> r x y H Q ->
    wpAny (model X.prog X.w) X.A (f v u) (EP X pins σ Q) X.xe s
def UnR (X : Cx) (f : Value -> Sem Value) (r : V -> Hp -> VK -> Prop) : Prop :=
  ∀ (pins : List (Addr × Obj)) (s : Shared) (σ : St) (H : Hp) (x : V) (v : Value) (Q : VK), Inv X pins σ H s -> RelV x v -> r x H Q ->
    wpAny (model X.prog X.w) X.A (f v) (EP X pins σ Q) X.xe s
def CallR (X : Cx) (f : Value) (r : List V -> Hp -> VK -> Prop) : Prop :=
  ∀ (pins : List (Addr × Obj)) (s : Shared) (σ : St) (H : Hp) (xs : List V) (us : List Value) (Q : VK), Inv X pins σ H s -> Vals xs us -> r xs H Q ->
    wpAny (model X.prog X.w) X.A (call f us) (EP X pins σ Q) X.xe s
def tOp (r : R2) (ta tb : TE) : TE := fun σ H Q => ta σ H fun x H1 => tb σ H1 fun y H2 => r x y H2 Q
def tUn (r : V -> Hp -> VK -> Prop) (ta : TE) : TE := fun σ H Q => ta σ H fun x H1 => r x H1 Q
def rI (C : Int -> Int -> Prop) (g : Int -> Int -> V) : R2 := fun x y H Q => ∃ i j, x = .int i /\ y = .int j /\ C i j /\ Q (g i j) H
def rI0 (g : Int -> Int -> V) : R2 := fun x y H Q => ∃ i j, x = .int i /\ y = .int j /\ Q (g i j) H
def rU (g : Int -> V) : V -> Hp -> VK -> Prop := fun x H Q => ∃ i, x = .int i /\ Q (g i) H
section
variable {X : Cx} {a b c : Expr} {ta tb tc : TE} {pos : Pos}
theorem binT (ha : PE X a ta) (hb : PE X b tb) {pins : List (Addr × Obj)} {s : Shared} {σ : St} {H : Hp} {R : V -> V -> Hp -> Prop} (I : Inv X pins σ H s)
    (h : ta σ H fun x H1 => tb σ H1 fun y H2 => R x y H2) {Q : Value -> Shared -> Prop} {f : Value -> Value -> Sem Value}
    (hf : ∀ v u s2 x y H2, Inv X pins σ H2 s2 -> RelV x v -> RelV y u -> R x y H2 -> wpAny (model X.prog X.w) X.A (f v u) Q X.xe s2) :
    wpAny (model X.prog X.w) X.A (eval a X.env) (fun v s₁ => wpAny (model X.prog X.w) X.A (eval b X.env) (fun u s₂ => wpAny (model X.prog X.w) X.A (f v u) Q X.xe s₂) X.xe s₁) X.xe s := by
  refine thn (ha pins s σ H _ I h) fun v s1 ⟨x, H1, I1, r1, q1⟩ => ?_
  refine thn (hb pins s1 σ H1 _ I1 q1) fun u s2 ⟨y, H2, I2, r2, q2⟩ => ?_
  exact hf v u s2 x y H2 I2 r1 r2 q2
theorem z0t {op : Operator} {r : R2} (ho : OpR X (binaryOp op) r) (ha : PE X a ta) (hb : PE X b tb) : PE X (.BinOp a op b pos) (tOp r ta tb) := by
  intro pins s σ H Q I h
  exact wpAny_BinOp (binT ha hb I h fun v u s2 x y H2 I2 rx ry q => ho pins s2 σ H2 x y v u Q I2 rx ry q)
theorem pe_un {op : UnaryOp} {r : V -> Hp -> VK -> Prop} (ho : UnR X (unaryOp op) r) (ha : PE X a ta) : PE X (.UnaryOp op a pos) (tUn r ta) := by
  intro pins s σ H Q I h
  exact UnaryOp_ (thn (ha pins s σ H _ I h) fun v s1 ⟨x, H1, I1, r1, q1⟩ => ho pins s1 σ H1 x v Q I1 r1 q1)
theorem opI {f : Value -> Value -> Sem Value} {C : Int -> Int -> Prop} {g : Int -> Int -> Int}
    (rule : ∀ (i j : Int) (t u : Tok) (s : Shared) (Q : Value -> Shared -> Prop) (E : Value -> Shared -> Prop), C i j -> Q (.int (g i j) s.toks) { s with toks := s.toks + 1 } -> wpAny (model X.prog X.w) X.A (f (.int i t) (.int j u)) Q E s) :
    OpR X f (rI C fun i j => .int (g i j)) := by
  intro pins s σ H x y v u Q I rx ry h
  obtain ⟨i, j, rfl, rfl, hc, q⟩ := h
  obtain ⟨t, rfl⟩ := rx
  obtain ⟨t', rfl⟩ := ry
  exact rule i j t t' s _ _ hc ⟨.int (g i j), H, I.tok _, ⟨_, rfl⟩, q⟩
theorem opI0 {f : Value -> Value -> Sem Value} {g : Int -> Int -> Int}
    (rule : ∀ (i j : Int) (t u : Tok) (s : Shared) (Q : Value -> Shared -> Prop) (E : Value -> Shared -> Prop), Q (.int (g i j) s.toks) { s with toks := s.toks + 1 } -> wpAny (model X.prog X.w) X.A (f (.int i t) (.int j u)) Q E s) :
    OpR X f (rI0 fun i j => .int (g i j)) := by
  intro pins s σ H x y v u Q I rx ry h
  obtain ⟨i, j, rfl, rfl, q⟩ := h
  obtain ⟨t, rfl⟩ := rx
  obtain ⟨t', rfl⟩ := ry
  exact rule i j t t' s _ _ ⟨.int (g i j), H, I.tok _, ⟨_, rfl⟩, q⟩
theorem opB0 {f : Value -> Value -> Sem Value} {g : Int -> Int -> Bool}
    (rule : ∀ (i j : Int) (t u : Tok) (s : Shared) (Q : Value -> Shared -> Prop) (E : Value -> Shared -> Prop), Q (.bool (g i j)) s -> wpAny (model X.prog X.w) X.A (f (.int i t) (.int j u)) Q E s) :
    OpR X f (rI0 fun i j => .bl (g i j)) := by
  intro pins s σ H x y v u Q I rx ry h
  obtain ⟨i, j, rfl, rfl, q⟩ := h
  obtain ⟨t, rfl⟩ := rx
  obtain ⟨t', rfl⟩ := ry
  exact rule i j t t' s _ _ ⟨.bl (g i j), H, I, rfl, q⟩
def CDiv (i j : Int) : Prop := 0 < j /\ j < 1073741824
def CDivN (i j : Int) : Prop := j ≠ 0 /\ j.natAbs < 1073741824
def CPow (i j : Int) : Prop := 0 ≤ j /\ j ≤ 1000000 /\ i.natAbs < 2 ^ 64
def CMul (i j : Int) : Prop := (-(2 ^ 64) < i /\ i < 2 ^ 64) \/ (-(2 ^ 64) < j /\ j < 2 ^ 64)
theorem CMul.ok {i j : Int} (h : CMul i j) : IntMulOk i j := by
  rcases h with ⟨h1, h2⟩ | ⟨h1, h2⟩
  · exact .of_left (intBits_le_64 h1 h2)
  · exact .of_right (intBits_le_64 h1 h2)
theorem z2a : OpR X (binaryOp .Add) (rI0 fun i j => .int (i + j)) := opI0 fun _ _ _ _ _ _ _ q => add_int q
theorem z2y : OpR X (binaryOp .Sub) (rI0 fun i j => .int (i - j)) := opI0 fun _ _ _ _ _ _ _ q => sub_int q
theorem op_mul : OpR X (binaryOp .Mult) (rI CMul fun i j => .int (i * j)) := opI fun _ _ _ _ _ _ _ hc q => mul_int q hc.ok
theorem z2d : OpR X (binaryOp .FloorDiv) (rI CDiv fun i j => .int (i / j)) := opI fun i j _ _ _ _ _ hc q => by
  have h1 : (0 : Int) < j := hc.1
  have h2 : j < 1073741824 := hc.2
  exact floordiv_int (by omega) (by rw [Int.fdiv_eq_ediv_of_nonneg i (by omega)]; exact q) (.inl (PyProof.noPylong_small (by omega)))
theorem z1u : OpR X (binaryOp .Mod) (rI (fun _ j => 0 < j) fun i j => .int (i % j)) := opI fun i j _ _ _ _ _ hc q => by
  have h1 : (0 : Int) < j := hc
  exact mod_int' (by omega) (by rw [Int.fmod_eq_emod_of_nonneg i (by omega)]; exact q)
theorem z2b : OpR X (binaryOp .Mod) (rI (fun _ j => j ≠ 0) fun i j => .int (i.fmod j)) := opI fun _ _ _ _ _ _ _ hc q => mod_int' hc q
theorem op_pow : OpR X (binaryOp .Pow) (rI CPow fun i j => .int (i ^ j.toNat)) := opI fun _ _ _ _ _ _ _ hc q => pow_int_small hc.1 hc.2.1 hc.2.2 q
theorem op_and : OpR X (binaryOp .BitAnd) (rI0 fun i j => .int (Builtin.bitAnd i j)) := opI0 fun _ _ _ _ _ _ _ q => and_int q
theorem op_or : OpR X (binaryOp .BitOr) (rI0 fun i j => .int (Builtin.bitOr i j)) := opI0 fun _ _ _ _ _ _ _ q => or_int q
theorem op_xor : OpR X (binaryOp .BitXor) (rI0 fun i j => .int (Builtin.bitXor i j)) := opI0 fun _ _ _ _ _ _ _ q => xor_int q
theorem unI {f : Value -> Sem Value} {g : Int -> Int}
    (rule : ∀ (i : Int) (t : Tok) (s : Shared) (Q : Value -> Shared -> Prop) (E : Value -> Shared -> Prop), Q (.int (g i) s.toks) { s with toks := s.toks + 1 } -> wpAny (model X.prog X.w) X.A (f (.int i t)) Q E s) :
    UnR X f (rU fun i => .int (g i)) := by
  intro pins s σ H x v Q I rx h
  obtain ⟨i, rfl, q⟩ := h
  obtain ⟨t, rfl⟩ := rx
  exact rule i t s _ _ ⟨.int (g i), H, I.tok _, ⟨_, rfl⟩, q⟩
theorem un_neg : UnR X (unaryOp .USub) (rU fun i => .int (-i)) := unI fun _ _ _ _ _ q => neg_int q
end
def scal : V -> V -> Bool
  | .non, .non => true | .non, .int _ => true | .int _, .non => true | .non, .bl _ => true | .bl _, .non => true | .non, .str _ => true | .str _, .non => true
  | .int _, .int _ => true | .bl _, .bl _ => true | .str _, .str _ => true | .byt _, .byt _ => true
  | .int _, .str _ => true | .str _, .int _ => true | .bl _, .str _ => true | .str _, .bl _ => true
  | _, _ => false
def rEq : R2 := fun x y H Q => scal x y = true /\ Q (.bl (decide (x = y))) H
def rNe : R2 := fun x y H Q => scal x y = true /\ Q (.bl (!decide (x = y))) H
theorem dec_int {i j : Int} : decide (V.int i = V.int j) = (i == j) := by
  rw [Bool.eq_iff_iff]
  simp
theorem dec_bl {i j : Bool} : decide (V.bl i = V.bl j) = (i == j) := by
  rw [Bool.eq_iff_iff]
  simp
theorem dec_str {i j : Str} : decide (V.str i = V.str j) = (i == j) := by
  rw [Bool.eq_iff_iff]
  simp
theorem dec_byt {i j : Array UInt8} : decide (V.byt i = V.byt j) = (i.toList == j.toList) := by
  rw [Bool.eq_iff_iff]
  cases i
  cases j
  simp
section
variable {X : Cx} {a b c : Expr} {ta tb tc : TE} {pos : Pos}
theorem z1o {pins : List (Addr × Obj)} {σ : St} {H : Hp} {s : Shared} {Q : VK} {k k' : Bool} (I : Inv X pins σ H s) (q : Q (.bl k) H) (e : k = k') : EP X pins σ Q (.bool k') s := by
  subst e
  exact ⟨.bl k, H, I, rfl, q⟩
theorem z1f : OpR X (compareOp .Eq) rEq := by
  intro pins s σ H x y v u Q I rx ry h
  obtain ⟨hs, q⟩ := h
  cases x with
  | non =>
    cases rx
    cases y with
    | non => cases ry; exact PySem.EqNone.eq_none_none (z1o I q (by simp))
    | bl j => cases ry; exact PySem.EqNone.eq_none_bool (z1o I q (by simp))
    | int j => obtain ⟨t', rfl⟩ := ry; exact PySem.EqNone.eq_none_int (z1o I q (by simp))
    | str j => obtain ⟨t', rfl⟩ := ry; exact PySem.EqNone.eq_none_str (z1o I q (by simp))
    | _ => exact absurd (show false = true from hs) Bool.false_ne_true
  | bl i =>
    cases rx
    cases y with
    | non => cases ry; exact PySem.EqNone.eq_bool_none (z1o I q (by simp))
    | bl j => cases ry; exact eq_bool (z1o I q dec_bl)
    | str j => obtain ⟨t', rfl⟩ := ry; exact PySem.EqMixed.eq_bool_str (z1o I q (by simp))
    | _ => exact absurd (show false = true from hs) Bool.false_ne_true
  | int i =>
    obtain ⟨t, rfl⟩ := rx
    cases y with
    | non => cases ry; exact PySem.EqNone.eq_int_none (z1o I q (by simp))
    | int j => obtain ⟨t', rfl⟩ := ry; exact eq_int (z1o I q dec_int)
    | str j => obtain ⟨t', rfl⟩ := ry; exact PySem.EqMixed.eq_int_str (z1o I q (by simp))
    | _ => exact absurd (show false = true from hs) Bool.false_ne_true
  | str i =>
    obtain ⟨t, rfl⟩ := rx
    cases y with
    | non => cases ry; exact PySem.EqNone.eq_str_none (z1o I q (by simp))
    | bl j => cases ry; exact PySem.EqMixed.eq_str_bool (z1o I q (by simp))
    | int j => obtain ⟨t', rfl⟩ := ry; exact PySem.EqMixed.eq_str_int (z1o I q (by simp))
    | str j => obtain ⟨t', rfl⟩ := ry; exact eq_str (z1o I q dec_str)
    | _ => exact absurd (show false = true from hs) Bool.false_ne_true
  | byt i =>
    obtain ⟨t, rfl⟩ := rx
    cases y with
    | byt j => obtain ⟨t', rfl⟩ := ry; exact PySem.W.eq_bytes (z1o I q dec_byt)
    | _ => exact absurd (show false = true from hs) Bool.false_ne_true
  | _ => cases y <;> exact absurd (show false = true from hs) Bool.false_ne_true
theorem op_ne : OpR X (compareOp .NotEq) rNe := by
  intro pins s σ H x y v u Q I rx ry h
  obtain ⟨hs, q⟩ := h
  cases x with
  | non =>
    cases rx
    cases y with
    | non => cases ry; exact PySem.EqNone.ne_none_none (z1o I q (by simp))
    | bl j => cases ry; exact PySem.EqNone.ne_none_bool (z1o I q (by simp))
    | int j => obtain ⟨t', rfl⟩ := ry; exact PySem.EqNone.ne_none_int (z1o I q (by simp))
    | str j => obtain ⟨t', rfl⟩ := ry; exact PySem.EqNone.ne_none_str (z1o I q (by simp))
    | _ => exact absurd (show false = true from hs) Bool.false_ne_true
  | bl i =>
    cases rx
    cases y with
    | non => cases ry; exact PySem.EqNone.ne_bool_none (z1o I q (by simp))
    | bl j => cases ry; exact ne_bool (z1o I q (congrArg not dec_bl))
    | str j => obtain ⟨t', rfl⟩ := ry; exact PySem.EqMixed.ne_bool_str (z1o I q (by simp))
    | _ => exact absurd (show false = true from hs) Bool.false_ne_true
  | int i =>
    obtain ⟨t, rfl⟩ := rx
    cases y with
    | non => cases ry; exact PySem.EqNone.ne_int_none (z1o I q (by simp))
    | int j => obtain ⟨t', rfl⟩ := ry; exact ne_int (z1o I q (congrArg not dec_int))
    | str j => obtain ⟨t', rfl⟩ := ry; exact PySem.EqMixed.ne_int_str (z1o I q (by simp))
    | _ => exact absurd (show false = true from hs) Bool.false_ne_true
  | str i =>
    obtain ⟨t, rfl⟩ := rx
    cases y with
    | non => cases ry; exact PySem.EqNone.ne_str_none (z1o I q (by simp))
    | bl j => cases ry; exact PySem.EqMixed.ne_str_bool (z1o I q (by simp))
    | int j => obtain ⟨t', rfl⟩ := ry; exact PySem.EqMixed.ne_str_int (z1o I q (by simp))
    | str j => obtain ⟨t', rfl⟩ := ry; exact ne_str (z1o I q (congrArg not dec_str))
    | _ => exact absurd (show false = true from hs) Bool.false_ne_true
  | byt i =>
    obtain ⟨t, rfl⟩ := rx
    cases y with
    | byt j => obtain ⟨t', rfl⟩ := ry; exact PySem.W.ne_bytes (z1o I q (congrArg not dec_byt))
    | _ => exact absurd (show false = true from hs) Bool.false_ne_true
  | _ => cases y <;> exact absurd (show false = true from hs) Bool.false_ne_true
theorem z3l : OpR X (compareOp .Lt) (rI0 fun i j => .bl (decide (i < j))) := opB0 fun _ _ _ _ _ _ _ q => lt_int q
theorem op_le : OpR X (compareOp .LtE) (rI0 fun i j => .bl (decide (i ≤ j))) := opB0 fun _ _ _ _ _ _ _ q => le_int q
theorem op_gt : OpR X (compareOp .Gt) (rI0 fun i j => .bl (decide (j < i))) := opB0 fun _ _ _ _ _ _ _ q => gt_int q
theorem op_ge : OpR X (compareOp .GtE) (rI0 fun i j => .bl (decide (j ≤ i))) := opB0 fun _ _ _ _ _ _ _ q => ge_int q
theorem op_notN : OpR X (compareOp .IsNot) (fun x y H Q => y = .non /\ Q (.bl (!decide (x = .non))) H) := by
  intro pins s σ H x y v u Q I rx ry h
  obtain ⟨rfl, q⟩ := h
  cases ry
  refine isnot_none_gen (z1o I q ?_)
  cases x <;> first
    | (cases rx; rfl)
    | (obtain ⟨t, rfl⟩ := rx; rfl)
theorem OpR.or {f : Value -> Value -> Sem Value} {r r' : R2} (h : OpR X f r) (h' : OpR X f r') : OpR X f (fun x y H Q => r x y H Q \/ r' x y H Q) := by
  intro pins s σ H x y v u Q I rx ry q
  rcases q with q | q
  · exact h pins s σ H x y v u Q I rx ry q
  · exact h' pins s σ H x y v u Q I rx ry q
theorem z0n (b : Expr) {op : CmpOp} (h : op ≠ .In := by decide) (h2 : op ≠ .NotIn := by decide) : behindInMarks op b = false := by
  have e1 : (op == CmpOp.In) = false := by cases op <;> first | rfl | exact absurd rfl h
  have e2 : (op == CmpOp.NotIn) = false := by cases op <;> first | rfl | exact absurd rfl h2
  cases b <;> simp [behindInMarks, e1, e2]
theorem pe_cmpR {op : CmpOp} {r : R2} (ho : OpR X (compareOp op) r) (ha : PE X a ta) (hb : PE X b tb) (hm : behindInMarks op b = false) : PE X (.Compare a [op] [b] pos) (tOp r ta tb) := by
  intro pins s σ H Q I h
  exact wpAny_Compare1 (binT ha hb I h fun v u s2 x y H2 I2 rx ry q => ho pins s2 σ H2 x y v u Q I2 rx ry q) hm
def tTest (t : TE) : TT := fun σ H Q => t σ H fun x H' => ∃ k, x = .bl k /\ Q k H'
theorem z0i {op : CmpOp} {r : R2} (ho : OpR X (compareOp op) r) (ha : PE X a ta) (hb : PE X b tb) (hm : behindInMarks op b = false) : PT X (.Compare a [op] [b] pos) (tTest (tOp r ta tb)) := by
  intro pins s σ H Q I h
  refine wpAny_isTrue_Compare1 (thn (ha pins s σ H _ I h) fun v s1 ⟨x, H1, I1, r1, q1⟩ => thn (hb pins s1 σ H1 _ I1 q1) fun u s2 ⟨y, H2, I2, r2, q2⟩ =>
    thn (ho pins s2 σ H2 x y v u _ I2 r1 r2 q2) fun c s3 ⟨z, H3, I3, r3, k, e, q3⟩ => ?_) hm
  subst e
  cases r3
  exact wpAny_truthy_bool ⟨H3, I3, q3⟩
def tChain (r r' : R2) (ta tb tc : TE) : TE := fun σ H Q => ta σ H fun x H1 => tb σ H1 fun y H2 => r x y H2 fun z H3 => ∃ k, z = .bl k /\
  (if k = true then tc σ H3 fun w' H4 => r' y w' H4 Q else Q (.bl false) H3)
theorem pt_chain {op op' : CmpOp} {r r' : R2} (ho : OpR X (compareOp op) r) (ho' : OpR X (compareOp op') r') (ha : PE X a ta) (hb : PE X b tb) (hc : PE X c tc)
    (hm : lastMarks [op, op'] [b, c] = false := by with_unfolding_all rfl) : PT X (.Compare a [op, op'] [b, c] pos) (tTest (tChain r r' ta tb tc)) := by
  intro pins s σ H Q I h
  refine isTrue_chain (thn (ha pins s σ H _ I h) fun v s1 ⟨x, H1, I1, r1, q1⟩ => test_link (thn (hb pins s1 σ H1 _ I1 q1) fun u s2 ⟨y, H2, I2, r2, q2⟩ =>
    thn (ho pins s2 σ H2 x y v u _ I2 r1 r2 q2) fun d s3 ⟨z, H3, I3, r3, k, e, q3⟩ => ?_)) hm
  subst e
  cases r3
  refine wpAny_truthy_bool ?_
  cases k with
  | false =>
    obtain ⟨k', e', q'⟩ := q3
    cases e'
    exact ite_ff ⟨H3, I3, q'⟩
  | true =>
    refine ite_tt (test_last (thn (hc pins s3 σ H3 _ I3 q3) fun w' s4 ⟨z', H4, I4, r4, q4⟩ => thn (ho' pins s4 σ H4 y z' u w' _ I4 r2 r4 q4) fun d' s5 ⟨z2, H5, I5, r5, k2, e2, q5⟩ => ?_))
    subst e2
    cases r5
    exact wpAny_truthy_bool ⟨H5, I5, q5⟩
theorem line63 : (sizeLine : Nat) < 2 ^ 63 := by rw [sizeLine_eq]; decide
theorem z3z {x : V} {us : List Value} (r : Vals [x] us) : ∃ u, us = [u] /\ RelV x u := by
  cases r with
  | cons r1 r2 => cases r2; exact ⟨_, rfl, r1⟩
theorem vals2 {x y : V} {us : List Value} (r : Vals [x, y] us) : ∃ u w', us = [u, w'] /\ RelV x u /\ RelV y w' := by
  cases r with
  | cons r1 r2 =>
    cases r2 with
    | cons r3 r4 => cases r4; exact ⟨_, _, rfl, r1, r3⟩
theorem call_abs : CallR X (.builtin "abs") (fun xs H Q => ∃ i, xs = [.int i] /\ Q (.int (if i < 0 then -i else i)) H) := by
  intro pins s σ H xs us Q I r h
  obtain ⟨i, rfl, q⟩ := h
  obtain ⟨u, rfl, t, rfl⟩ := z3z r
  exact call_abs_int fun u tk => ⟨.int (if i < 0 then -i else i), H, I.tok _, ⟨_, rfl⟩, q⟩
theorem z3x (hc : X.calm = true) : CallR X (.builtin "max") (fun xs H Q => ∃ i j, xs = [.int i, .int j] /\ Q (.int (if j > i then j else i)) H) := by
  intro pins s σ H xs us Q I r h
  obtain ⟨i, j, rfl, q⟩ := h
  obtain ⟨u, w', rfl, ⟨t, rfl⟩, ⟨t', rfl⟩⟩ := vals2 r
  refine max_two_ints (I.ok.hd hc) fun h' tk k => ⟨_, H, I.kept k, ?_, q⟩
  by_cases hj : j > i
  · rw [if_pos hj, if_pos hj]; exact ⟨_, rfl⟩
  · rw [if_neg hj, if_neg hj]; exact ⟨_, rfl⟩
theorem z2m (hc : X.calm = true) : CallR X (.builtin "min") (fun xs H Q => ∃ i j, xs = [.int i, .int j] /\ Q (.int (if j < i then j else i)) H) := by
  intro pins s σ H xs us Q I r h
  obtain ⟨i, j, rfl, q⟩ := h
  obtain ⟨u, w', rfl, ⟨t, rfl⟩, ⟨t', rfl⟩⟩ := vals2 r
  refine min_two_ints (I.ok.hd hc) fun h' tk k => ⟨_, H, I.kept k, ?_, q⟩
  by_cases hj : j < i
  · rw [if_pos hj, if_pos hj]; exact ⟨_, rfl⟩
  · rw [if_neg hj, if_neg hj]; exact ⟨_, rfl⟩
theorem call_int1 : CallR X (.type "int") (fun xs H Q => (∃ i, xs = [.int i] /\ Q (.int i) H) \/ ∃ k, xs = [.bl k] /\ Q (.int (if k then 1 else 0)) H) := by
  intro pins s σ H xs us Q I r h
  rcases h with ⟨i, rfl, q⟩ | ⟨k, rfl, q⟩
  · obtain ⟨u, rfl, t, rfl⟩ := z3z r
    exact call_int_int ⟨.int i, H, I, ⟨_, rfl⟩, q⟩
  · obtain ⟨u, rfl, r1⟩ := z3z r
    cases r1
    exact call_int_bool ⟨.int (if k then 1 else 0), H, I.tok _, ⟨_, rfl⟩, q⟩
end
structure ObjM (h : Heap) (x dx C : Addr) (mA : Str -> Option Value) : Prop where
  obj : h.get? x = some (PySem.W.instObj C dx)
  ns : h.Ns1 dx mA
  ne : dx ≠ x
theorem lookIn_ns {h : Heap} {dx : Addr} {mA : Str -> Option Value} (n : h.Ns1 dx mA) : ∃ od, h.get? dx = some od /\ ∀ name, PySem.W.lookIn name od = some (mA name) := by
  obtain ⟨o, es, ep, ho, hd, hk, _, hm⟩ := n
  refine ⟨o, ho, fun name => ?_⟩
  have e := hm name
  unfold nsFind findBy at e
  rw [← Array.find?_toList] at e
  unfold PySem.W.lookIn
  rw [hd]
  dsimp only
  split
  · rename_i y q
    rw [q] at e
    exact congrArg some e
  · rename_i q
    rw [q] at e
    have a : es.toList.any (·.refKey) = false := by
      rw [List.any_eq_false]
      intro y hy
      obtain ⟨z, t, hkey⟩ := hk y (Array.mem_toList_iff.mp hy)
      simp [DictEntry.refKey, hkey]
    have a' : ¬ es.toList.any (·.refKey) = true := by rw [a]; exact Bool.false_ne_true
    rw [if_neg a']
    exact congrArg some e
theorem ObjM.look {h : Heap} {x dx C : Addr} {mA : Str -> Option Value} (I : ObjM h x dx C mA) : ∃ od, PySem.W.InstAt h x (PySem.W.instObj C dx) C (some od) /\ ∀ name, PySem.W.lookIn name od = some (mA name) :=
  let ⟨od, ho, hl⟩ := lookIn_ns I.ns
  ⟨od, ⟨I.obj, rfl, rfl, ho⟩, hl⟩
section
variable {prog : Program} {w : World} {A : Around} {E : Value -> Shared -> Prop} {s : Shared} {K : PySem.W.Frag} {x dx C f : Addr} {mA : Str -> Option Value} {name : Str} {v : Value}
end
section
variable {P : Program} {w : World} {H H' : Hp} {h h' : Heap} {a C dx : Addr} {fs fs' : List (Str × V)}
theorem ins_get (hok : HOk P w H h) (e : H a = some (.ins C dx fs)) : ∃ mA, ObjM h a dx C mA /\ (∀ f, RelO (fs.lookup f) (mA f)) /\ PySem.Within mA (fs.map (·.1)) /\ fs.length ≤ 1000 /\ H dx = some (.own a) := by
  obtain ⟨d, z, ne, ob, mA, n, r, q⟩ := (show ObjOk P w H h a (.ins C dx fs) from hok a _ e)
  exact ⟨mA, ⟨ob, n, ne⟩, r, q, z, d⟩
end
structure Cls (K : PySem.W.Frag) (C : Addr) : Prop where
  pg : PySem.W.plainGet K C Str.empty = true
  hd : PySem.W.hasDictIn K C = true
  po : PySem.W.plainOver K C = true
  sa : PySem.W.findIn K (.ref C) "__setattr__" = some (some (.builtin "object.__setattr__"))
theorem Cls.get {K : PySem.W.Frag} {C : Addr} (c : Cls K C) (f : Str) : PySem.W.plainGet K C f = true := c.pg
structure Con (K : PySem.W.Frag) (C : Addr) (f : Str) (v : V) (u : Value) : Prop where
  at_ : PySem.W.findIn K (.ref C) f = some (some u)
  rel : RelV v u
  get : PySem.W.specialIn K u "__get__" = some none
  cp : PySem.W.copiedNames.contains f = false
structure Meth (K : PySem.W.Frag) (C : Addr) (m : Str) (f : Addr) : Prop where
  at_ : PySem.W.findIn K (.ref C) m = some (some (.ref f))
  fn : PySem.W.isFn K (.ref f) = true
  kp : PySem.W.keepIn K (.ref f) = true
section
variable {X : Cx} {pins : List (Addr × Obj)} {σ : St} {H : Hp} {s : Shared} {a C dx : Addr} {fs : List (Str × V)} {f : Str} {v : V} {A : Around} {E : Value -> Shared -> Prop}
theorem Inv.made (I : Inv X pins σ H s) : Inv X pins σ (upd (upd H s.heap.objs.size (.own (s.heap.objs.size + 1))) (s.heap.objs.size + 1) (.ins C s.heap.objs.size []))
    { s with heap := (s.heap.push PySem.W.emptyDict).push (PySem.W.instObj C s.heap.objs.size) } := by
  have e1 : (s.heap.push PySem.W.emptyDict).get? s.heap.objs.size = some PySem.W.emptyDict := Heap.get?_push_size s.heap rfl
  have e2 : ((s.heap.push PySem.W.emptyDict).push (PySem.W.instObj C s.heap.objs.size)).get? (s.heap.objs.size + 1) = some (PySem.W.instObj C s.heap.objs.size) := by
    have := Heap.get?_push_size (s.heap.push PySem.W.emptyDict) (o := PySem.W.instObj C s.heap.objs.size) rfl
    rwa [Heap.size_push] at this
  have e3 : (s.heap.push PySem.W.emptyDict).Ns s.heap.objs.size (fun _ => none) := ⟨PySem.W.emptyDict, #[], _, e1, rfl, (fun e he => absurd he (by simp)), fun _ => rfl⟩
  have I1 := I.laid (a := s.heap.objs.size) (o := .own (s.heap.objs.size + 1)) (h' := s.heap.push PySem.W.emptyDict) (t' := s.toks) (fun b u q => Heap.get?_push_of_some _ q) (Nat.le_refl _) ⟨_, e1⟩
  refine I1.laid (a := s.heap.objs.size + 1) (o := .ins C s.heap.objs.size []) (t' := s.toks) (fun b u q => Heap.get?_push_of_some _ q) (Nat.le_of_eq (Heap.size_push _ _)) ?_
  have ne : s.heap.objs.size ≠ s.heap.objs.size + 1 := Nat.ne_of_lt (Nat.lt_succ_self _)
  refine ⟨by rw [z1c ne, z0g], Nat.zero_le _, ne, e2, fun _ => none, (Heap.Ns1.of_empty e3).at fun o q => Heap.get?_push_of_some _ q, fun _ => True.intro, fun y hy => absurd rfl hy⟩
end
section
variable {X : Cx} {o e value : Expr} {f : Str} {pos pos' tpos : Pos} {ta tv : TE}
end
section
variable {X : Cx} {pins : List (Addr × Obj)} {σ : St} {H : Hp} {s : Shared} {A : Around} {E : Value -> Shared -> Prop} {Q : Value -> Shared -> Prop} {c : Value} {b : Bool}
inductive TyOf (K : PySem.W.Frag) (H : Hp) : V -> Value -> Prop where
  | non : TyOf K H .non (.type "NoneType")
  | bl (x : Bool) : TyOf K H (.bl x) (.type "bool")
  | int (i : Int) : TyOf K H (.int i) (.type "int")
  | str (x : Str) : TyOf K H (.str x) (.type "str")
  | flt (x : UInt64) : TyOf K H (.flt x) (.type "float")
  | lst {a : Addr} {xs : List V} (e : H a = some (.lst xs)) : TyOf K H (.ref a) (.type "list")
  | frz {a : Addr} {o : Obj} {xs : List V} (e : H a = some (.frz o (.lst xs))) : TyOf K H (.ref a) (.type "list")
  | tup {a : Addr} {xs : List V} (e : H a = some (.tup xs)) : TyOf K H (.ref a) (.type "tuple")
  | dK {a : Addr} {kvs : List (Key × V)} (e : H a = some (.dK kvs)) : TyOf K H (.ref a) (.type "dict")
  | dT {a : Addr} {kvs : List (List Key × V)} (e : H a = some (.dT kvs)) : TyOf K H (.ref a) (.type "dict")
  | ins {a C dx : Addr} {fs : List (Str × V)} (e : H a = some (.ins C dx fs)) (cl : Cls K C) (ha : PySem.W.findIn K (.ref C) "__class__" = some (some (.builtin "object.__class__")))
      (hn : PySem.W.specialIn K (.builtin "object.__class__") "__get__" = some (some (.builtin "getset_descriptor.__get__"))) (htk : PySem.W.takesIn K (.builtin "object.__class__") = some true)
      (hm : PySem.W.mroIn K C (.type "object") = some true) : TyOf K H (.ref a) (.ref C)
theorem isinst_ok {x : V} {u t : Value} (I : Inv X pins σ H s) (rx : RelV x u) (ty : TyOf X.K H x t) (e : PySem.W.kitOne X.K t c = some b) (h : ∀ tk, Q (.bool b) { s with toks := tk }) :
    wpAny (model X.prog X.w) A (call (.builtin "isinstance") [u, c]) Q E s := by
  cases ty with
  | non => cases (show u = Value.none from rx); exact PySem.W.kia_one PySem.W.kitx_none I.kIn True.intro e (fun z => nomatch z) h
  | bl y => cases (show u = Value.bool y from rx); exact PySem.W.kia_one PySem.W.kitx_bool I.kIn True.intro e (fun z => nomatch z) h
  | int i => obtain ⟨t, q⟩ := (show ∃ t, u = Value.int i t from rx); cases q; exact PySem.W.kia_one PySem.W.kitx_int I.kIn True.intro e (fun z => nomatch z) h
  | str y => obtain ⟨t, q⟩ := (show ∃ t, u = Value.str y t from rx); cases q; exact PySem.W.kia_one PySem.W.kitx_str I.kIn True.intro e (fun z => nomatch z) h
  | flt y => obtain ⟨t, q⟩ := (show ∃ t, u = Value.float y t from rx); cases q; exact PySem.W.kia_one PySem.W.kitx_float I.kIn True.intro e (fun z => nomatch z) h
  | @lst a xs ea =>
    cases (show u = Value.ref a from rx)
    obtain ⟨_, _, n, _, h1⟩ := (show ObjOk X.prog X.w H s.heap a (.lst xs) from I.hok a _ ea)
    exact PySem.W.kia_one PySem.W.kitx_list I.kIn ⟨_, h1, rfl⟩ e (fun z => nomatch z) h
  | @frz a ob xs ea =>
    cases (show u = Value.ref a from rx)
    obtain ⟨_, _, _, n, _, h1⟩ := (show ObjOk X.prog X.w H s.heap a (.frz ob (.lst xs)) from I.hok a _ ea)
    exact PySem.W.kia_one PySem.W.kitx_list I.kIn ⟨_, h1, rfl⟩ e (fun z => nomatch z) h
  | @tup a xs ea =>
    cases (show u = Value.ref a from rx)
    obtain ⟨_, _, _, p⟩ := (show ObjOk X.prog X.w H s.heap a (.tup xs) from I.hok a _ ea)
    obtain ⟨o, h1, h2, _⟩ := p
    exact PySem.W.kia_one PySem.W.kitx_tuple I.kIn ⟨o, h1, h2⟩ e (fun z => nomatch z) h
  | @dK a kvs ea =>
    cases (show u = Value.ref a from rx)
    obtain ⟨_, _, vs, _, p⟩ := (show ObjOk X.prog X.w H s.heap a (.dK kvs) from I.hok a _ ea)
    obtain ⟨o, es, ep, h1, h2, _⟩ := p
    exact PySem.W.kia_one PySem.W.kitx_dict I.kIn ⟨o, h1, h2.1⟩ e (fun z => nomatch z) h
  | @dT a kvs ea =>
    cases (show u = Value.ref a from rx)
    obtain ⟨_, _, xs, _, o, es, ep, h1, h2, _⟩ := (show ObjOk X.prog X.w H s.heap a (.dT kvs) from I.hok a _ ea)
    exact PySem.W.kia_one PySem.W.kitx_dict I.kIn ⟨o, h1, h2.1⟩ e (fun z => nomatch z) h
  | @ins a C dx fs ea cl ha hn htk hm =>
    cases (show u = Value.ref a from rx)
    obtain ⟨mA, O, _⟩ := ins_get I.hok ea
    obtain ⟨od, J, _⟩ := O.look
    exact PySem.W.kia_one (PySem.W.kitx_own (cl.get _) cl.hd ha hn htk hm) I.kIn J e (fun z => nomatch z) h
end
structure Room (k : Nat) (A : Around) : Prop where
  hd : A.handled = none
  dp : A.depth + 3 * k + 5 < recursionLimit
  un : A.units + 16 * k + 200 < cLine
theorem Room.mono {j k : Nat} {A : Around} (r : Room k A) (h : j ≤ k) : Room j A := ⟨r.hd, by have := r.dp; omega, by have := r.un; omega⟩
theorem Room.deeper {k : Nat} {A : Around} (r : Room (k + 1) A) (env : Env) : Room k (A.deeper env) :=
  ⟨r.hd, by have := r.dp; show A.depth + 1 + 3 * k + 5 < _; omega, by have := r.un; show A.units + 3 + 16 * k + 200 < _; omega⟩
theorem Room.in1 {k : Nat} {A : Around} (r : Room (k + 1) A) : Room k A.in1 :=
  ⟨r.hd, by have := r.dp; show A.depth + 3 * k + 5 < _; omega, by have := r.un; show A.units + 1 + 16 * k + 200 < _; omega⟩
theorem Room.depth {k : Nat} {A : Around} (r : Room k A) : A.depth < recursionLimit := by have := r.dp; omega
theorem Room.units {k : Nat} {A : Around} (r : Room k A) : A.units + 64 < cLine := by have := r.un; omega
theorem Room.units0 {k : Nat} {A : Around} (r : Room k A) : A.units < cLine := by have := r.un; omega
def tNil : TA := fun _ H Q => Q [] H
def tCons (ta : TE) (tr : TA) : TA := fun σ H Q => ta σ H fun x H1 => tr σ H1 fun xs H2 => Q (x :: xs) H2
section
variable {X : Cx} {e : Expr} {es : List Expr} {te : TE} {t : TA} {pos : Pos}
theorem z0c : PA X [] tNil := fun _ _ _ _ H Q I h => Calls.spliced_nil ⟨[], H, I, .nil, h⟩
theorem z0a (ha : PE X e te) (hr : PA X es t) (hs : starEach (e :: es) X.env = (false, eval e X.env) :: starEach es X.env := by rfl) : PA X (e :: es) (tCons te t) := by
  intro pos pins s σ H Q I h
  rw [hs]
  show wpAny _ _ (spliced ((false, eval e X.env) :: backTo pos (starEach es X.env))) _ _ s
  refine Calls.spliced_cons (thn (ha pins s σ H _ I h) fun u s1 ⟨x, H1, I1, r1, q1⟩ => ?_)
  exact thn (hr pos pins s1 σ H1 _ I1 q1) fun us s2 ⟨xs, H2, I2, r2, q2⟩ => ⟨x :: xs, H2, I2, .cons r1 r2, q2⟩
def tTup (t : TA) : TE := fun σ H Q => t σ H fun xs H1 => xs.length ≤ sizeLine /\ ∀ p, H1 p = none -> Q (.ref p) (upd H1 p (.tup xs))
def tLst (t : TA) : TE := fun σ H Q => t σ H fun xs H1 => xs.length ≤ sizeLine /\ ∀ p, H1 p = none -> Q (.ref p) (upd H1 p (.lst xs))
theorem z0w {x1} (h : PA X es t) : PE X (.Tuple es x1 pos) (tTup t) := by
  intro pins s σ H Q I hq
  refine wpAny_Tuple_spliced (thn (h pos pins s σ H _ I hq) fun us s1 ⟨xs, H1, I1, r, z, q⟩ => ⟨by rw [← r.length]; exact z, ?_⟩)
  have hf : H1 s1.heap.objs.size = none := I1.hok.fresh (Nat.le_refl _)
  refine ⟨.ref s1.heap.objs.size, upd H1 s1.heap.objs.size (.tup xs), I1.laid (t' := s1.toks) (fun b u e => Heap.get?_push_of_some _ e) (Nat.le_refl _) ?_, rfl, q _ hf⟩
  exact ⟨z, us, r, ⟨_, Heap.get?_push_size _ rfl, rfl, _, rfl⟩⟩
theorem z2q (h : PA X es t) : PE X (.List es pos) (tLst t) := by
  intro pins s σ H Q I hq
  refine wpAny_List_spliced (thn (h pos pins s σ H _ I hq) fun us s1 ⟨xs, H1, I1, r, z, q⟩ => ⟨by rw [← r.length]; exact z, ?_⟩)
  have hf : H1 s1.heap.objs.size = none := I1.hok.fresh (Nat.le_refl _)
  refine ⟨.ref s1.heap.objs.size, upd H1 s1.heap.objs.size (.lst xs), I1.laid (t' := s1.toks) (fun b u e => Heap.get?_push_of_some _ e) (Nat.le_refl _) ?_, rfl, q _ hf⟩
  exact ⟨z, us, 0, r, Heap.get?_push_size _ rfl⟩
end
abbrev Sp := List V -> Hp -> VK -> XK -> Prop
abbrev CXT := List Env -> Hp -> Shared -> XK -> Value -> Shared -> Prop
structure Env0 (P : Program) (w : World) (K : PySem.W.Frag) (mg : Str -> Option Value) (base : Heap) (A : Around) (outer : List Env) (s : Shared) (H : Hp) : Prop where
  frames : A.frames = some outer
  mod : Mod K mg base
  bs : ∀ b o, base.get? b = some o -> s.heap.get? b = some o /\ H b = none
  bsz : base.objs.size ≤ s.heap.objs.size
  funs : s.heap.FunFrames base outer
  frf : ∀ b ∈ frs outer, H b = none
  hok : HOk P w H s.heap
  bare : AllBare s.gens
def CE (outer : List Env) (P : Program) (w : World) (H : Hp) (s : Shared) (Q : VK) (u : Value) (s' : Shared) : Prop :=
  ∃ v H', s'.os = s.os /\ AllBare s'.gens /\ Un (frs outer) [] H H' s.heap s'.heap /\ HOk P w H' s'.heap /\ RelV v u /\ Q v H'
def CR (CX : CXT) (outer : List Env) (P : Program) (w : World) (H : Hp) (s : Shared) (Q : VK) (E : XK) (r : Result) (s' : Shared) : Prop :=
  match r with
  | .ok (.ret u) => CE outer P w H s Q u s'
  | .ok _ => False
  | .error e => CX outer H s E e s'
structure FnOk (P : Program) (w : World) (K : PySem.W.Frag) (mg : Str -> Option Value) (base : Heap) (CX : CXT) (k : Nat) (f : Addr) (fd : FuncData) (ps : List Str) (sp : Sp) : Prop where
  len : ∀ vs H Q E, sp vs H Q E -> vs.length = ps.length
  run : ∀ (A : Around) (outer : List Env) (s : Shared) (H : Hp) (args : Args) (us : List Value) (vs : List V) (Q : VK) (E : XK), Room k A -> Env0 P w K mg base A outer s H -> BindsTo s fd args (ps.zip us) -> Vals vs us -> sp vs H Q E ->
    codeAny (model P w) A (.call (.ref f) args) (CR CX outer P w H s Q E) s
theorem FnOk.mono {P : Program} {w : World} {K : PySem.W.Frag} {mg : Str -> Option Value} {base : Heap} {CX : CXT} {j k : Nat} {f : Addr} {fd : FuncData} {ps : List Str} {sp : Sp} (F : FnOk P w K mg base CX j f fd ps sp) (h : j ≤ k) :
    FnOk P w K mg base CX k f fd ps sp := ⟨F.len, fun A outer s H args us vs Q E hr => F.run A outer s H args us vs Q E (hr.mono h)⟩
theorem FnOk.imp {P : Program} {w : World} {K : PySem.W.Frag} {mg : Str -> Option Value} {base : Heap} {CX : CXT} {k : Nat} {f : Addr} {fd : FuncData} {ps : List Str} {sp sp' : Sp} (F : FnOk P w K mg base CX k f fd ps sp)
    (h : ∀ vs H Q E, sp' vs H Q E -> sp vs H Q E) : FnOk P w K mg base CX k f fd ps sp' :=
  ⟨fun vs H Q E q => F.len vs H Q E (h _ _ _ _ q), fun A outer s H args us vs Q E hr he hb hv hs => F.run A outer s H args us vs Q E hr he hb hv (h _ _ _ _ hs)⟩
theorem Env0.in1 {P : Program} {w : World} {K : PySem.W.Frag} {mg : Str -> Option Value} {base : Heap} {A : Around} {outer : List Env} {s : Shared} {H : Hp} (e : Env0 P w K mg base A outer s H) :
    Env0 P w K mg base A.in1 outer s H := ⟨e.frames, e.mod, e.bs, e.bsz, e.funs, e.frf, e.hok, e.bare⟩
section
variable {X : Cx} {pins : List (Addr × Obj)} {σ : St} {H : Hp} {s s' : Shared}
theorem Inv.env0 (I : Inv X pins σ H s) : Env0 X.prog X.w X.K X.mg X.base X.A X.stack s H :=
  ⟨I.ok.frames, I.ok.mod, I.bs, Nat.le_trans I.ok.bsz I.sz, I.stack, I.stkFree, I.hok, I.bare⟩
theorem Inv.after {Q : VK} {u : Value} (I : Inv X pins σ H s) (h : CE X.stack X.prog X.w H s Q u s') : EP X pins σ Q u s' := by
  obtain ⟨v, H', os, bare, un, hok, r, q⟩ := h
  obtain ⟨hh, g, d, t, os'⟩ := s'
  obtain rfl : os' = s.os := os
  exact ⟨v, H', I.call (h' := hh) (g' := g) (d' := d) (t' := t) (ch := []) un hok bare (fun b z => absurd z (by simp)), r, q⟩
end
def tCall (sp : Sp) (dvs : List V) (E : XK) (t : TA) : TE := fun σ H Q => t σ H fun vs H1 => sp (vs ++ dvs) H1 Q E
def Binds (K : PySem.W.Frag) (fd : FuncData) (ps : List Str) (ds : List Value) : Prop :=
  ∀ (s : Shared) (us : List Value), K.In s.heap -> (us ++ ds).length = ps.length -> BindsTo s fd ⟨us, []⟩ (ps.zip (us ++ ds))
theorem Binds.all {K : PySem.W.Frag} {fd : FuncData} {ps : List Str} (h : ∀ us : List Value, us.length = ps.length -> bindArgs fd ⟨us, []⟩ = pure (ps.zip us)) : Binds K fd ps [] := fun s us _ hl => by
  rw [List.append_nil] at hl ⊢
  exact .of_eq (h us hl)
def Passes (CX : CXT) (X : Cx) (E : XK) : Prop := ∀ (pins : List (Addr × Obj)) (σ : St) (H : Hp) (s : Shared) (e : Value) (s' : Shared), Inv X pins σ H s -> CX X.stack H s E e s' -> X.xe e s'
section
variable {X : Cx} {CX : CXT} {k : Nat} {f C : Addr} {fd : FuncData} {ps : List Str} {sp : Sp} {dvs : List V} {ds : List Value} {E : XK} {x m : Str} {p pos apos : Pos} {e o : Expr} {es : List Expr} {ta : TE} {t : TA}
theorem run_fn {pins : List (Addr × Obj)} {σ : St} {H : Hp} {s : Shared} {Q : VK} {us : List Value} {vs : List V} (F : FnOk X.prog X.w X.K X.mg X.base CX k f fd ps sp) (hr : Room k X.A) (hb : Binds X.K fd ps ds) (hd : Vals dvs ds) (hx : Passes CX X E)
    (I : Inv X pins σ H s) (r : Vals vs us) (h : sp (vs ++ dvs) H Q E) : wpAny (model X.prog X.w) X.A (call (.ref f) us) (EP X pins σ Q) X.xe s := by
  have r2 : Vals (vs ++ dvs) (us ++ ds) := r.append hd
  have hl : (us ++ ds).length = ps.length := by rw [← r2.length]; exact F.len _ _ _ _ h
  refine wpAny_call (codeAny_mono (F.run X.A X.stack s H ⟨us, []⟩ (us ++ ds) (vs ++ dvs) Q E hr I.env0 (hb s us I.kIn hl) r2 h) fun r s' hq => ?_)
  cases r with
  | error e => exact hx pins σ H s e s' I hq
  | ok fl =>
    cases fl with
    | ret u => exact I.after hq
    | next => exact False.elim hq
    | brk => exact False.elim hq
    | cont => exact False.elim hq
theorem pe_call (F : FnOk X.prog X.w X.K X.mg X.base CX k f fd ps sp) (hr : Room k X.A) (hg : Gl X x) (hm : X.mg x = some (.ref f)) (hk : PySem.W.keepIn X.K (.ref f) = true) (hb : Binds X.K fd ps ds) (hd : Vals dvs ds) (hx : Passes CX X E)
    (ha : PA X (e :: es) t) (hdb : (x == ("__debug__" : Str)) = false := by decide) (he : starEach (e :: es) X.env = (false, eval e X.env) :: starEach es X.env := by rfl) (hpl : (backTo pos (starEach es X.env)).any (·.1) = false := by rfl) :
    PE X (.Call (.Name x p) (e :: es) [] pos) (tCall sp dvs E t) := by
  intro pins s σ H Q I h
  refine wpAny_Call_Name_kw (ld_glob I hg hm ?_ hdb)
  refine PySem.W.callWith_K (h₀ := X.base) I.ok.mod.kin hk (thn (ha pos pins s σ H _ I h) fun us s1 ⟨vs, H1, I1, r, q⟩ => ⟨I1.kIn, ?_⟩) he hpl
  exact run_fn F hr hb hd hx I1 r q
structure Mk (K : PySem.W.Frag) (C f : Addr) : Prop where
  makes : PySem.W.makesIn K C = true
  init : PySem.W.findIn K (.ref C) "__init__" = some (some (.ref f))
  fn : PySem.W.isFn K (.ref f) = true
  kp : PySem.W.keepIn K (.ref C) = true
end
section
variable {X : Cx} {CX : CXT} {k : Nat} {f C : Addr} {fd : FuncData} {ps ks : List Str} {sp : Sp} {E : XK} {x m : Str} {p pos apos kpos : Pos} {e o : Expr} {es : List Expr} {kws : List Keyword} {te ta : TE} {t tk : TA} {nm : Option Str}
structure KBinds (K : PySem.W.Frag) (fd : FuncData) (ps ks : List Str) (g : List Value -> List Value -> List Value) (gV : List V -> List V -> List V) : Prop where
  to : ∀ (s : Shared) (us ws : List Value), K.In s.heap -> (g us ws).length = ps.length -> BindsTo s fd ⟨us, ks.zip ws⟩ (ps.zip (g us ws))
  rel : ∀ {vs : List V} {us : List Value} {zs : List V} {ws : List Value}, Vals vs us -> Vals zs ws -> Vals (gV vs zs) (g us ws)
variable {g : List Value -> List Value -> List Value} {gV : List V -> List V -> List V}
end
structure FnScope (N P : List Str) (sc : Scope) : Prop where
  kind : sc.kind = .function
  co : sc.isCoroutine = false
  gen : sc.isGenerator = false
  nd : N.Nodup
  pre : N.take P.length = P
  par : ∀ x ∈ P, sc.names.lookup x = some .local \/ sc.names.lookup x = some .cell
  nofree : ∀ y ∈ sc.names, y.2 ≠ .free
theorem bindL_out {kindOf : Str -> Option NameKind} {x : Str} : ∀ {binds : List (Str × Value)} {m : Str -> Option Value}, (∀ v, (x, v) ∉ binds) -> bindL kindOf binds m x = m x
  | [], _, _ => rfl
  | (n, v) :: r, m, h => by
    unfold bindL
    rw [bindL_out fun w hw => h w (List.mem_cons_of_mem _ hw)]
    split
    · have : x ≠ n := by rintro rfl; exact h v List.mem_cons_self
      simp [this]
    · rfl
theorem bindC_out {kindOf : Str -> Option NameKind} {x : Str} : ∀ {binds : List (Str × Value)} {m : Str -> Option Value}, (∀ v, (x, v) ∉ binds) -> bindC kindOf binds m x = m x
  | [], _, _ => rfl
  | (n, v) :: r, m, h => by
    unfold bindC
    rw [bindC_out fun w hw => h w (List.mem_cons_of_mem _ hw)]
    split
    · rfl
    · have : x ≠ n := by rintro rfl; exact h v List.mem_cons_self
      simp [this]
theorem bindL_get {kindOf : Str -> Option NameKind} {x : Str} {v : Value} : ∀ {P : List Str} {vs : List Value} {i : Nat} {m : Str -> Option Value}, P.Nodup -> P[i]? = some x -> vs[i]? = some v -> kindOf x = some .local ->
    bindL kindOf (P.zip vs) m x = some v
  | [], _, _, _, _, h, _, _ => by simp at h
  | _ :: _, [], _, _, _, _, h, _ => by simp at h
  | p :: P, w :: vs, 0, m, nd, h1, h2, hk => by
    simp at h1 h2; subst h1; subst h2
    show bindL kindOf ((p, w) :: P.zip vs) m p = _
    unfold bindL
    rw [bindL_out fun v hv => (List.nodup_cons.mp nd).1 (List.of_mem_zip hv).1, if_pos hk]
    simp
  | p :: P, w :: vs, i + 1, m, nd, h1, h2, hk => by
    show bindL kindOf ((p, w) :: P.zip vs) m x = _
    unfold bindL
    exact bindL_get (i := i) (List.nodup_cons.mp nd).2 (by simpa using h1) (by simpa using h2) hk
theorem bindC_get {kindOf : Str -> Option NameKind} {x : Str} {v : Value} : ∀ {P : List Str} {vs : List Value} {i : Nat} {m : Str -> Option Value}, P.Nodup -> P[i]? = some x -> vs[i]? = some v -> kindOf x ≠ some .local ->
    bindC kindOf (P.zip vs) m x = some v
  | [], _, _, _, _, h, _, _ => by simp at h
  | _ :: _, [], _, _, _, _, h, _ => by simp at h
  | p :: P, w :: vs, 0, m, nd, h1, h2, hk => by
    simp at h1 h2; subst h1; subst h2
    show bindC kindOf ((p, w) :: P.zip vs) m p = _
    unfold bindC
    rw [bindC_out fun v hv => (List.nodup_cons.mp nd).1 (List.of_mem_zip hv).1, if_neg hk]
    simp
  | p :: P, w :: vs, i + 1, m, nd, h1, h2, hk => by
    show bindC kindOf ((p, w) :: P.zip vs) m x = _
    unfold bindC
    exact bindC_get (i := i) (List.nodup_cons.mp nd).2 (by simpa using h1) (by simpa using h2) hk
def start (N : List Str) (vs : List V) : St := vs.map some ++ List.replicate (N.length - vs.length) none
def cxOf (CX : CXT) (P : Program) (w : World) (K : PySem.W.Frag) (mg : Str -> Option Value) (base : Heap) (N : List Str) (qual : Str) (scope : Scope) (f : Addr) (cd : Value) (A : Around) (outer : List Env) (s : Shared) (H : Hp) (E : XK) : Cx where
  prog := P
  w := w
  K := K
  mg := mg
  base := base
  A := A.deeper (envOfC qual scope s.heap.objs.size f cd)
  N := N
  s₀ := s
  H₀ := H
  env := envOfC qual scope s.heap.objs.size f cd
  outer := outer
  stack := envOfC qual scope s.heap.objs.size f cd :: outer
  ex := []
  calm := true
  fn := fun _ => true
  pn := []
  xe := fun e s' => wpAny (model P w) (A.deeper (envOfC qual scope s.heap.objs.size f cd)) (leaving (envOfC qual scope s.heap.objs.size f cd) e) (fun _ s'' => CX outer H s E e s'') (fun e' s'' => CX outer H s E e' s'') s'
theorem cell_has {sc : Scope} {n : Nat} {x : Str} (h : sc.names.lookup x = some .cell) : ∃ c, (cellsFrom n sc.names []).lookup x = some c := by
  have q := PySem.W.cellsFrom_some sc.names n [] (.inl h)
  exact Option.isSome_iff_exists.mp q
theorem inv_start {CX : CXT} {P : Program} {w : World} {K : PySem.W.Frag} {mg : Str -> Option Value} {base : Heap} {N ps : List Str} {qual : Str} {scope : Scope} {f : Addr} {cd : Value} {A : Around} {outer : List Env} {s s1 : Shared} {H : Hp} {E : XK} {us : List Value} {vs : List V}
    (S : FnScope N ps scope) (hd : A.handled = none) (e0 : Env0 P w K mg base A outer s H) (hl : vs.length = ps.length) (r : Vals vs us)
    (x : InCallC s s.heap.objs.size (bindL (envOfC qual scope s.heap.objs.size f cd).kindOf (ps.zip us) fun _ => none) (cellsFrom (s.heap.objs.size + 1) scope.names []) (bindC (envOfC qual scope s.heap.objs.size f cd).kindOf (ps.zip us) fun _ => none) s1) :
    Inv (cxOf CX P w K mg base N qual scope f cd A outer s H E) [] (start N vs) H s1 := by
  have hpl : ps.length ≤ N.length := by have := congrArg List.length S.pre; rw [List.length_take] at this; omega
  obtain ⟨h1, tk, rfl, hk⟩ := x.done
  have noA : ∀ b : Addr, b ∉ (cxOf CX P w K mg base N qual scope f cd A outer s H E).ex := fun b z => absurd (show b ∈ ([] : List Addr) from z) (by simp)
  refine ⟨⟨e0.mod, S.kind, rfl, rfl, Nat.le_refl _, fun y z c h1 h2 => ?_, fun y hy => ?_, fun y c _ h => ?_, fun _ => hd, Around.frames_deeper e0.frames, .inr ⟨rfl, rfl⟩, fun b z => absurd z (noA b), e0.bs, e0.bsz, fun b _ _ => noA b, fun b z => absurd z (noA b), e0.funs, e0.frf⟩,
    rfl, e0.bare, Un.kept hk, ⟨_, x.toInCall.ns, fun i y v h1 h2 h3 => ?_⟩, fun y c h => ⟨_, x.cell y c h⟩, e0.hok.fresh (Nat.le_refl _), fun y c h => ?_, fun p hp => absurd (show p ∈ ([] : List (Addr × Obj)) from hp) (by simp), e0.hok.kept hk, ?_⟩
  · exact name_of_addr x.apart (PySem.mem_of_lookup h1) (PySem.mem_of_lookup h2)
  · have hy : scope.names.lookup y = some .cell \/ scope.names.lookup y = some .free := hy
    rcases hy with hy | hy
    · exact cell_has hy
    · exact absurd rfl (S.nofree _ (PySem.mem_of_lookup hy))
  · exact Nat.le_of_lt (x.above y c (PySem.mem_of_lookup h))
  · have hi : i < vs.length := by
      unfold start at h2
      by_cases hi : i < vs.length
      · exact hi
      · rw [List.getElem?_append_right (by simpa using hi)] at h2
        rw [List.getElem?_replicate] at h2
        split at h2 <;> cases h2
    have ha : vs[i]? = some v := by
      unfold start at h2
      rw [List.getElem?_append_left (by simpa using hi), List.getElem?_map] at h2
      cases e : vs[i]? with
      | none => rw [e] at h2; cases h2
      | some a => rw [e] at h2; cases h2; rfl
    obtain ⟨u, hu, rv⟩ := r.get ha
    have hp : ps[i]? = some y := by
      rw [← S.pre, List.getElem?_take_of_lt (by omega)]; exact h1
    have ndP : ps.Nodup := by rw [← S.pre]; exact S.nd.sublist (List.take_sublist _ _)
    refine ⟨u, rv, ?_⟩
    rcases S.par y (List.mem_of_getElem? hp) with k | k
    · exact .inl ⟨k, bindL_get ndP hp hu k⟩
    · obtain ⟨c, e⟩ := cell_has (n := s.heap.objs.size + 1) k
      refine .inr ⟨.inl k, c, e, ?_⟩
      have q := x.cell y c e
      rw [bindC_get ndP hp hu (by show scope.names.lookup y ≠ _; rw [k]; decide)] at q
      exact q
  · exact e0.hok.fresh (Nat.le_of_lt (x.above y c (PySem.mem_of_lookup h)))
  · unfold start
    show _ = N.length
    rw [List.length_append, List.length_map, List.length_replicate]
    omega
theorem fn_of {CX : CXT} {P : Program} {w : World} {K : PySem.W.Frag} {mg : Str -> Option Value} {base : Heap} {k : Nat} {f : Addr} {name qual : Str} {params : Arguments} {body : List Stmt} {scope : Scope} {dV kV doc pm cdv ct oc : Value} {an od : Option Addr}
    {osl : Array (Option Value)} {N ps : List Str} {sp : Sp} (lk : K.lookup f = some ⟨oc, od, .func (PySem.W.fnOf name qual params body scope dV kV doc pm an cdv ct), osl⟩) (hcd : PySem.W.codeIn K cdv qual = true) (S : FnScope N ps scope)
    (len : ∀ vs H Q E, sp vs H Q E -> vs.length = ps.length)
    (hbody : ∀ (A : Around) (outer : List Env) (s : Shared) (H : Hp) (vs : List V) (Q : VK) (E : XK), Room k (A.deeper (envOfC qual scope s.heap.objs.size f cdv)) -> sp vs H Q E ->
      ∃ t, PSs (cxOf CX P w K mg base N qual scope f cdv A outer s H E) body t /\ t { nx := fun _ H' => Q .non H', rt := Q } (start N vs) H) :
    FnOk P w K mg base CX (k + 1) f (PySem.W.fnOf name qual params body scope dV kV doc pm an cdv ct) ps sp := by
  refine ⟨len, fun A outer s H args us vs Q E hr e0 hb r hsp => ?_⟩
  have hl := len _ _ _ _ hsp
  have KX : K.In s.heap := e0.mod.kin.keeps fun b o e => (e0.bs b o e).1
  have lim : s.heap.NoLimit := e0.mod.nolimit.keeps fun b o e => (e0.bs b o e).1
  have hkind : ∀ y ∈ ps.zip us, scope.names.lookup y.1 = some .local \/ (scope.names.lookup y.1 = some .cell /\ ((cellsFrom (s.heap.objs.size + 1) scope.names []).lookup y.1).isSome = true) := fun ⟨n, v⟩ hy => by
    rcases S.par n (List.of_mem_zip hy).1 with q | q
    · exact .inl q
    · exact .inr ⟨q, PySem.W.cellsFrom_some _ _ _ (.inl q)⟩
  refine codeAny_call_function hr.depth (KX _ _ lk) rfl S.co S.gen rfl (PySem.W.codeRec_of KX hcd) (hb _ _ _ _ ?_)
  refine wpAny_newFunctionEnv_cells S.kind hkind fun env he s1 x => ?_
  subst he
  refine ⟨lim.keeps x.toInCall.keep, codeAny_func ?_⟩
  obtain ⟨t, ht, hq⟩ := hbody A outer s H vs Q E (hr.deeper _) hsp
  have I : Inv (cxOf CX P w K mg base N qual scope f cdv A outer s H E) [] (start N vs) H s1 := inv_start S hr.hd e0 hl r x
  refine wpAny_mono (ht [] s1 (start N vs) H _ I hq) (fun fl s' hs => ?_) fun e s' hs => hs
  have fin : ∀ {σ' : St} {H' : Hp} {v : V} {u : Value}, Inv (cxOf CX P w K mg base N qual scope f cdv A outer s H E) [] σ' H' s' -> RelV v u -> Q v H' -> CE outer P w H s Q u s' :=
    fun {σ' H' v u} J rv q => ⟨v, H', J.os, J.bare, J.base, J.hok, rv, q⟩
  cases fl with
  | ret u =>
    obtain ⟨v, σ', H', J, rv, q⟩ := hs
    exact fin J rv q
  | next =>
    obtain ⟨σ', H', J, q⟩ := hs
    exact fin (v := V.non) (u := Value.none) J rfl q
  | brk =>
    obtain ⟨_, _, _, q⟩ := hs
    exact False.elim q
  | cont =>
    obtain ⟨_, _, _, q⟩ := hs
    exact False.elim q
section
variable {X : Cx} {x : Str} {p pos : Pos} {e : Expr} {es : List Expr} {t : TA} {id T : String} {r : List V -> Hp -> VK -> Prop}
def tCB (r : List V -> Hp -> VK -> Prop) (t : TA) : TE := fun σ H Q => t σ H fun vs H1 => r vs H1 Q
theorem z0m (hc : CallR X (.builtin id) r) (hg : Gl X x) (hm : X.mg x = none) (hv : bootBuiltins x = some (.builtin id)) (ha : PA X (e :: es) t) (hn : x ≠ "__name__" := by decide) (hdb : (x == ("__debug__" : Str)) = false := by decide)
    (he : starEach (e :: es) X.env = (false, eval e X.env) :: starEach es X.env := by rfl) (hpl : (backTo pos (starEach es X.env)).any (·.1) = false := by rfl) : PE X (.Call (.Name x p) (e :: es) [] pos) (tCB r t) := by
  intro pins s σ H Q I h
  refine wpAny_Call_Name_kw (ld_blt I hg hm hv ?_ hn hdb)
  exact PyProof.Rows.callWith_builtin1 (thn (ha pos pins s σ H _ I h) fun us s1 ⟨vs, H1, I1, r1, q1⟩ => hc pins s1 σ H1 vs us Q I1 r1 q1) he hpl
theorem z1i (hc : CallR X (.type T) r) (hg : Gl X x) (hm : X.mg x = none) (hv : bootBuiltins x = some (.type T)) (ha : PA X (e :: es) t) (hn : x ≠ "__name__" := by decide) (hdb : (x == ("__debug__" : Str)) = false := by decide)
    (he : starEach (e :: es) X.env = (false, eval e X.env) :: starEach es X.env := by rfl) (hpl : (backTo pos (starEach es X.env)).any (·.1) = false := by rfl) : PE X (.Call (.Name x p) (e :: es) [] pos) (tCB r t) := by
  intro pins s σ H Q I h
  refine wpAny_Call_Name_kw (ld_blt I hg hm hv ?_ hn hdb)
  exact PyProof.Rows.callWith_type1 (thn (ha pos pins s σ H _ I h) fun us s1 ⟨vs, H1, I1, r1, q1⟩ => hc pins s1 σ H1 vs us Q I1 r1 q1) he hpl
end
end L2
namespace HT
open PySem PyProof.Rows
section
open PySem.SeqAt
open PySem.AutoSeq1 (wpAny_loadPart')
open PySem.MeetsSeq PySem.MeetsSeq2 PySem.MeetsSeq3
end
section
variable {prog : Program} {w : World} {A : Around} {E : Value -> Shared -> Prop} {s : Shared}
theorem cat_tup {t b : Addr} {vs ws : List Value} {Q : Value -> Shared -> Prop} (ht : IsTup s.heap t vs.toArray) (hb : IsTup s.heap b ws.toArray) (hv : vs ≠ [])
    (h1 : ws = [] -> Q (.ref t) s) (h2 : ws ≠ [] -> Q (.ref s.heap.objs.size) { s with heap := s.heap.push { cls := .type "tuple", data := .seq (vs ++ ws).toArray } })
    (hsz : vs.length + ws.length ≤ sizeLine) : wpAny (model prog w) A (binaryOp .Add (.ref t) (.ref b)) Q E s := by
  obtain ⟨⟨cls, dd, data, sl⟩, ho, hc, n, hd⟩ := id ht
  obtain ⟨⟨cls2, dd2, data2, sl2⟩, ho2, hc2, n2, hd2⟩ := id hb
  simp only at hc hd hc2 hd2
  subst hc hd hc2 hd2
  have e : vs.toArray ++ ws.toArray = (vs ++ ws).toArray := by simp
  by_cases hw : ws = []
  · exact concat_meets ⟨_, ho, rfl⟩ ⟨_, ho2, rfl⟩ noFill_tuple_add seq_tuple_add PySem.F.slot_tuple_add PySem.F.entry_tuple_add (PySem.F.args_tuple_add_2 _ _)
      (tuple_addW1 t b vs.toArray ws.toArray n n2 dd dd2 sl sl2 (by simpa using hv) (by simp [hw])) ⟨ho, ho2, h1 hw⟩
  · refine concat_meets ⟨_, ho, rfl⟩ ⟨_, ho2, rfl⟩ noFill_tuple_add seq_tuple_add PySem.F.slot_tuple_add PySem.F.entry_tuple_add (PySem.F.args_tuple_add_2 _ _)
      (tuple_addW2 t b vs.toArray ws.toArray n n2 dd dd2 sl sl2 (by simpa using hv) (by simpa using hw) (by rw [List.size_toArray, List.size_toArray]; exact hsz)) ⟨ho, ho2, ?_⟩
    rw [e]
    exact h2 hw
def sIx (n d : Nat) : Option Int -> Nat
  | none => d
  | some v => if v < 0 then (v + (n : Int)).toNat else min v.toNat n
theorem sIx_le (n d : Nat) (hd : d ≤ n) (o : Option Int) : sIx n d o ≤ n := by
  cases o with
  | none => exact hd
  | some v =>
    show (if v < 0 then (v + (n : Int)).toNat else min v.toNat n) ≤ n
    by_cases hv : v < 0
    · rw [if_pos hv]; omega
    · rw [if_neg hv]; exact Nat.min_le_right _ _
theorem clip_eq (v : Int) (n d : Nat) : (if v < 0 then max (v + (n : Int)) 0 else min v (n : Int)) = ((sIx n d (some v) : Nat) : Int) := by
  show (if v < 0 then max (v + (n : Int)) 0 else min v (n : Int)) = (((if v < 0 then (v + (n : Int)).toNat else min v.toNat n) : Nat) : Int)
  by_cases hv : v < 0
  · simp only [if_pos hv]; omega
  · simp only [if_neg hv]; omega
theorem adjust_gen (lo hi : Option Int) (n : Nat) : Builtin.Slice.sliceAdjust lo hi 1 (n : Int) = (((sIx n 0 lo : Nat) : Int), ((sIx n n hi : Nat) : Int)) := by
  have h1 : ¬ ((1 : Int) < 0) := by omega
  unfold Builtin.Slice.sliceAdjust
  simp only [h1, if_false]
  refine Prod.ext ?_ ?_
  · cases lo with
    | none => rfl
    | some v => exact clip_eq v n 0
  · cases hi with
    | none => rfl
    | some v => exact clip_eq v n n
theorem places_gen (i j : Nat) : Builtin.Slice.slicePlaces (i : Int) (j : Int) 1 = j - i := by
  unfold Builtin.Slice.slicePlaces
  have h1 : (1 : Int) > 0 := by omega
  simp only [h1, if_true, Int.ediv_one]
  split <;> omega
theorem slicePart_ {v : Value} {o : Option Int} {Q : Option Int -> Shared -> Prop} (p : IsPart v o) (h : Q o s) : wpAny (model prog w) A (Builtin.Slice.slicePartIndex v) Q E s := by
  cases p with
  | none => exact slicePart_none h
  | int i t => exact slicePart_int h
theorem z2v {sl : Addr} {vl vu : Value} {lo hi : Option Int} {n : Nat} {Q : Int × Int × Nat -> Shared -> Prop} (hs : s.heap.IsSliceOf sl vl vu .none) (pl : IsPart vl lo) (pu : IsPart vu hi)
    (h : Q (((sIx n 0 lo : Nat) : Int), 1, sIx n n hi - sIx n 0 lo) s) : wpAny (model prog w) A (Builtin.Slice.sliceApplied (.ref sl) (pure (n : Int))) Q E s := by
  obtain ⟨os, hos, hcs, hds⟩ := id hs
  unfold Builtin.Slice.sliceApplied Builtin.Slice.sliceFields
  refine wpAny_bind (wpAny_bind (wpAny_field hos hds (x := vl) rfl (wpAny_bind (wpAny_field hos hds (x := vu) rfl (wpAny_bind (wpAny_field hos hds (x := .none) rfl (wpAny_pure ?_)))))))
  refine wpAny_bind (slicePart_none ?_)
  show wpAny _ _ (if ((1 : Int) == 0) = true then _ else _) _ _ s
  rw [if_neg (by decide)]
  refine wpAny_bind (slicePart_ pl (wpAny_bind (slicePart_ pu (wpAny_bind (wpAny_pure ?_)))))
  show wpAny _ _ (match Builtin.Slice.sliceAdjust lo hi 1 (n : Int) with | (lo, hi) => pure (lo, (1 : Int), Builtin.Slice.slicePlaces lo hi 1)) _ _ s
  rw [adjust_gen lo hi n]
  show wpAny _ _ (pure (((sIx n 0 lo : Nat) : Int), (1 : Int), Builtin.Slice.slicePlaces ((sIx n 0 lo : Nat) : Int) ((sIx n n hi : Nat) : Int) 1)) _ _ s
  rw [places_gen]
  exact wpAny_pure h
theorem pick_gen (xs : Array Value) (i k : Nat) : ((List.range k).filterMap fun (m : Nat) => xs[((i : Int) + (m : Int) * 1).toNat]?).toArray = ((xs.toList.drop i).take k).toArray := by
  have e : (fun (m : Nat) => xs[((i : Int) + (m : Int) * 1).toNat]?) = fun m => xs[i + m]? := by
    funext m
    have : ((i : Int) + (m : Int) * 1).toNat = i + m := by omega
    rw [this]
  rw [e]
  have := pick_run xs i k
  rw [List.filterMap_map] at this
  have e2 : ((fun x => xs[x]?) ∘ fun x => i + x) = fun m => xs[i + m]? := rfl
  rw [e2] at this
  rw [this]
theorem getItem_tuple_cut {t sl : Addr} {items : Array Value} {vl vu : Value} {lo hi : Option Int} {Q : Value -> Shared -> Prop} (ht : IsTup s.heap t items) (hs : s.heap.IsSliceOf sl vl vu .none) (pl : IsPart vl lo) (pu : IsPart vu hi)
    (hw : ¬ (sIx items.size 0 lo = 0 /\ sIx items.size items.size hi = items.size))
    (h : Q (.ref s.heap.objs.size) { s with heap := s.heap.push { cls := .type "tuple", data := .seq ((items.toList.drop (sIx items.size 0 lo)).take (sIx items.size items.size hi - sIx items.size 0 lo)).toArray } })
    (hsz : items.size ≤ sizeLine) : wpAny (model prog w) A (getItem (.ref t) (.ref sl)) Q E s := by
  have htake : sizeOk (.seq ((items.toList.drop (sIx items.size 0 lo)).take (sIx items.size items.size hi - sIx items.size 0 lo)).toArray) := by
    show ((items.toList.drop (sIx items.size 0 lo)).take (sIx items.size items.size hi - sIx items.size 0 lo)).toArray.size ≤ sizeLine
    rw [List.size_toArray, List.length_take, List.length_drop, Array.length_toList]
    omega
  have hj : sIx items.size items.size hi ≤ items.size := sIx_le _ _ (Nat.le_refl _) hi
  obtain ⟨os, hos, hcs, hds⟩ := id hs
  have hTs : s.TypeIs (.ref sl) "slice" := ⟨os, hos, hcs⟩
  unfold getItem
  try with_reducible refine wpAny_holding ?_
  first | refine wpAny_bind (wpAny_pure ?_) | skip
  refine wpAny_bind (wpAny_sequenceKey ht.typeIs (by decide) ?_)
  refine wpAny_bind (wpAny_callSpecial?_slot (name := Str.ofString "__getitem__") ht.typeIs PyProof.Rows.slot_tuple_getitem
    (wpAny_call_entry PyProof.Rows.slot_tuple_getitem ht.typeIs entry_tuple_getitem ?_ (args_tuple_getitem _ _)))
  show wpAny _ _ (Builtin.Tuple.tupleItemsOf (.ref t) >>= _) _ _ s
  refine wpAny_bind (tupleItemsOf_ ht ?_)
  refine wpAny_bind (wpAny_typeOf hTs ?_)
  rw [if_pos (by decide)]
  refine wpAny_bind (z2v hs pl pu ?_)
  have hno : ¬ ((((sIx items.size 0 lo : Nat) : Int) == 0 && (1 : Int) == 1 && (sIx items.size items.size hi - sIx items.size 0 lo) == items.size) = true) := by
    intro q
    rw [Bool.and_eq_true, Bool.and_eq_true] at q
    have q1 : ((sIx items.size 0 lo : Nat) : Int) = 0 := eq_of_beq q.1.1
    have q2 : sIx items.size items.size hi - sIx items.size 0 lo = items.size := eq_of_beq q.2
    exact hw ⟨by omega, by omega⟩
  show wpAny _ _ (if (((sIx items.size 0 lo : Nat) : Int) == 0 && (1 : Int) == 1 && (sIx items.size items.size hi - sIx items.size 0 lo) == items.size) = true then _ else _) _ _ s
  rw [if_neg hno, pick_gen]
  first
    | exact wpAny_bind (m := Builtin.Tuple.tupleExact _) (wpAny_newObj_type (wpAny_pure ⟨_, rfl, wpAny_pure h⟩) htake)
    | exact wpAny_bind (m := Builtin.Tuple.tupleExact _) (wpAny_newObj_type (wpAny_bind (wpAny_pure (wpAny_pure ⟨_, rfl, wpAny_pure h⟩))) htake)
    | exact wpAny_bind (wpAny_bind (m := Builtin.Tuple.tupleExact _) (wpAny_newObj_type (wpAny_pure (wpAny_pure ⟨_, rfl, wpAny_pure h⟩)) htake))
    | exact wpAny_bind (wpAny_bind (m := Builtin.Tuple.tupleExact _) (wpAny_newObj_type (wpAny_pure ⟨_, rfl, wpAny_pure h⟩) htake))
end
end HT
namespace L2
open PySem PySem.Spec PyProof.Rows
abbrev TO := St -> Hp -> (Option Int -> Hp -> Prop) -> Prop
def PO (X : Cx) (e : Option Expr) (t : TO) : Prop :=
  ∀ (pins : List (Addr × Obj)) (s : Shared) (σ : St) (H : Hp) (Q : Option Int -> Hp -> Prop), Inv X pins σ H s -> t σ H Q ->
    wpAny (model X.prog X.w) X.A (evalPart e X.env) (fun u s' => ∃ o H', Inv X pins σ H' s' /\ IsPart u o /\ Q o H') X.xe s
def tNoPart : TO := fun _ H Q => Q none H
def tPart (t : TE) : TO := fun σ H Q => t σ H fun x H1 => ∃ i, x = .int i /\ Q (some i) H1
theorem z3h {ns : List Int} : ∀ {us : List Value}, Vals (ns.map V.int) us -> IntsAre us ns := by
  induction ns with
  | nil => intro us r; rw [List.map_nil] at r; cases r; exact .nil
  | cons n ns ih =>
    intro us r
    rw [List.map_cons] at r
    cases r with
    | cons r1 r2 =>
      obtain ⟨t, e⟩ := r1
      subst e
      exact .cons n t (ih r2)
section
variable {X : Cx} {e : Expr} {te : TE} {lo hi : Option Expr} {tl th : TO} {pos p2 : Pos}
theorem z1n : PO X none tNoPart := by
  intro pins s σ H Q I h
  rw [evalPart_none]
  exact wpAny_pure ⟨none, H, I, .none, h⟩
theorem z1k (h : PE X e te) : PO X (some e) (tPart te) := by
  intro pins s σ H Q I hw
  rw [evalPart_some]
  refine thn (h pins s σ H _ I hw) fun u s1 ⟨x, H1, I1, r1, q1⟩ => ?_
  obtain ⟨i, rfl, q⟩ := q1
  obtain ⟨t, rfl⟩ := r1
  exact ⟨some i, H1, I1, .int i t, q⟩
def SlR (X : Cx) (r : V -> Option Int -> Option Int -> Hp -> VK -> Prop) : Prop :=
  ∀ (pins : List (Addr × Obj)) (s : Shared) (σ : St) (H : Hp) (x : V) (v vl vu : Value) (lo hi : Option Int) (sl : Addr) (Q : VK), Inv X pins σ H s -> RelV x v -> s.heap.IsSliceOf sl vl vu .none -> IsPart vl lo -> IsPart vu hi -> r x lo hi H Q ->
    ∃ T id, typeLookup (.type T) "__getitem__" = pure (some (.builtin id)) /\ s.TypeIs v T /\ wpAny (model X.prog X.w) X.A (getItem v (.ref sl)) (EP X pins σ Q) X.xe s
theorem SlR.or {r r' : V -> Option Int -> Option Int -> Hp -> VK -> Prop} (h : SlR X r) (h' : SlR X r') : SlR X (fun x lo hi H Q => r x lo hi H Q \/ r' x lo hi H Q) := by
  intro pins s σ H x v vl vu lo hi sl Q I rx hs pl pu q
  rcases q with q | q
  · exact h pins s σ H x v vl vu lo hi sl Q I rx hs pl pu q
  · exact h' pins s σ H x v vl vu lo hi sl Q I rx hs pl pu q
def tSl (r : V -> Option Int -> Option Int -> Hp -> VK -> Prop) (te : TE) (tl th : TO) : TE := fun σ H Q => te σ H fun x H1 => tl σ H1 fun l H2 => th σ H2 fun u H3 => r x l u H3 Q
theorem z1e {r : V -> Option Int -> Option Int -> Hp -> VK -> Prop} (hr : SlR X r) (he : PE X e te) (hl : PO X lo tl) (hu : PO X hi th) : PE X (.Subscript e (.Slice lo hi none p2) pos) (tSl r te tl th) := by
  intro pins s σ H Q I h
  refine Subscript_ (thn (he pins s σ H _ I h) fun v s1 ⟨x, H1, I1, r1, q1⟩ => ?_)
  refine wpAny_Slice (thn (hl pins s1 σ H1 _ I1 q1) fun vl s2 ⟨l, H2, I2, pl, q2⟩ => thn (hu pins s2 σ H2 _ I2 q2) fun vu s3 ⟨u, H3, I3, pu, q3⟩ => ?_)
  rw [evalPart_none]
  refine wpAny_pure ?_
  have I4 : Inv X pins σ H3 { s3 with heap := s3.heap.push { cls := .type "slice", data := .fields #[vl, vu, .none] } } := I3.kept (t' := s3.toks) fun b ob q => Heap.get?_push_of_some _ q
  obtain ⟨T, id, hT, ht, hg⟩ := hr pins { s3 with heap := s3.heap.push { cls := .type "slice", data := .fields #[vl, vu, .none] } } σ H3 x v vl vu l u s3.heap.objs.size Q I4 r1 (Heap.IsSliceOf.new ..) pl pu q3
  show wpAny (model X.prog X.w) X.A (subscriptTail e (.Slice lo hi none p2) v (.ref s3.heap.objs.size)) (EP X pins σ Q) X.xe { s3 with heap := s3.heap.push { cls := .type "slice", data := .fields #[vl, vu, .none] } }
  exact tail_any (ops := [.ref s3.heap.objs.size, v]) ht hT hg (by with_unfolding_all rfl)
def cutV (xs : List V) (lo hi : Option Int) : List V := (xs.drop (HT.sIx xs.length 0 lo)).take (HT.sIx xs.length xs.length hi - HT.sIx xs.length 0 lo)
theorem cutV_length (xs : List V) (lo hi : Option Int) : (cutV xs lo hi).length ≤ xs.length := by
  unfold cutV
  rw [List.length_take, List.length_drop]
  omega
def rSlT (K : PySem.W.Frag) : V -> Option Int -> Option Int -> Hp -> VK -> Prop := fun x lo hi H Q => ∃ a xs, x = .ref a /\ SqT K H a xs /\
  ¬ (HT.sIx xs.length 0 lo = 0 /\ HT.sIx xs.length xs.length hi = xs.length) /\ ∀ p, H p = none -> Q (.ref p) (upd H p (.tup (cutV xs lo hi)))
theorem sl_tup : SlR X (rSlT X.K) := by
  intro pins s σ H x v vl vu lo hi sl Q I rx hs pl pu h
  obtain ⟨a, xs, rfl, hx, hw, q⟩ := h
  cases rx
  obtain ⟨its, r, ht, hz⟩ := I.tuple hx
  have hlen : its.toArray.size = xs.length := by rw [List.size_toArray]; exact r.length.symm
  refine ⟨"tuple", _, PyProof.Rows.slot_tuple_getitem.lookup, ht.typeIs, ?_⟩
  refine HT.getItem_tuple_cut ht hs pl pu (by rw [hlen]; exact hw) ?_ (by rw [hlen]; exact hz)
  rw [hlen]
  refine ⟨.ref s.heap.objs.size, _, I.laid (t' := s.toks) (o := .tup (cutV xs lo hi)) (fun b ob q => Heap.get?_push_of_some _ q) (Nat.le_refl _) ?_, rfl, q _ (I.hok.fresh (Nat.le_refl _))⟩
  exact ⟨Nat.le_trans (cutV_length xs lo hi) hz, _, (r.drop (HT.sIx xs.length 0 lo)).take (HT.sIx xs.length xs.length hi - HT.sIx xs.length 0 lo), IsTup.new _ _⟩
def rCatT (K : PySem.W.Frag) : R2 := fun x y H Q => ∃ a b xs ys, x = .ref a /\ y = .ref b /\ SqT K H a xs /\ SqT K H b ys /\ xs ≠ [] /\ xs.length + ys.length ≤ sizeLine /\
  (ys = [] -> Q (.ref a) H) /\ (ys ≠ [] -> ∀ p, H p = none -> Q (.ref p) (upd H p (.tup (xs ++ ys))))
theorem Vals.nil_iff {xs : List V} {us : List Value} (r : Vals xs us) : us = [] ↔ xs = [] := by
  cases r with
  | nil => simp
  | cons _ _ => simp
theorem op_catT : OpR X (binaryOp .Add) (rCatT X.K) := by
  intro pins s σ H x y v u Q I rx ry h
  obtain ⟨a, b, xs, ys, rfl, rfl, ha, hb, hx, hz, q1, q2⟩ := h
  cases rx
  cases ry
  obtain ⟨its, r1, p1, _⟩ := I.tuple ha
  obtain ⟨its2, r2, p2, _⟩ := I.tuple hb
  refine HT.cat_tup p1 p2 (fun z => hx (r1.nil_iff.mp z)) (fun z => ⟨.ref a, H, I, rfl, q1 (r2.nil_iff.mp z)⟩) (fun z => ?_) (by rw [← r1.length, ← r2.length]; exact hz)
  refine ⟨.ref s.heap.objs.size, _, I.laid (t' := s.toks) (o := .tup (xs ++ ys)) (fun b ob q => Heap.get?_push_of_some _ q) (Nat.le_refl _) ?_, rfl, q2 (fun w => z (r2.nil_iff.mpr w)) _ (I.hok.fresh (Nat.le_refl _))⟩
  exact ⟨by rw [List.length_append]; exact hz, _, r1.append r2, IsTup.new _ _⟩
end
def ixN (n : Nat) (i : Int) : Option Nat := if 0 ≤ i then (if i < n then some i.toNat else none) else if -(n : Int) ≤ i then some (i + n).toNat else none
def atI {α : Type} (xs : List α) (i : Int) : Option α := (ixN xs.length i).bind fun j => xs[j]?
theorem ixN_seq {n : Nat} {i : Int} {j : Nat} (h : ixN n i = some j) : seqIndex? i n = some j /\ j < n /\ -(n : Int) ≤ i /\ i < n := by
  unfold ixN at h
  by_cases h0 : 0 ≤ i
  · rw [if_pos h0] at h
    by_cases h1 : i < n
    · rw [if_pos h1] at h
      have e : i.toNat = j := Option.some.inj h
      exact ⟨by rw [seqIndex_of h0 h1, e], by omega, by omega, h1⟩
    · rw [if_neg h1] at h; cases h
  · rw [if_neg h0] at h
    by_cases h1 : -(n : Int) ≤ i
    · rw [if_pos h1] at h
      have e : (i + n).toNat = j := Option.some.inj h
      exact ⟨by rw [seqIndex_neg (by omega) h1, e], by omega, h1, by omega⟩
    · rw [if_neg h1] at h; cases h
theorem atI_get {α : Type} {xs : List α} {i : Int} {v : α} (h : atI xs i = some v) : ∃ j, seqIndex? i xs.length = some j /\ xs[j]? = some v /\ j < xs.length /\ -(xs.length : Int) ≤ i /\ i < xs.length := by
  unfold atI at h
  cases e : ixN xs.length i with
  | none => rw [e] at h; cases h
  | some j =>
    rw [e] at h
    obtain ⟨h1, h2, h3, h4⟩ := ixN_seq e
    exact ⟨j, h1, h, h2, h3, h4⟩
theorem z0p {α : Type} {xs : List α} {j : Nat} {v : α} (h : xs[j]? = some v) : atI xs (j : Int) = some v := by
  have hj : j < xs.length := (List.getElem?_eq_some_iff.mp h).1
  have e : ixN xs.length (j : Int) = some j := by
    unfold ixN
    rw [if_pos (by omega), if_pos (by omega)]; simp
  unfold atI; rw [e]; exact h
def PlainIx (b : Expr) : Prop := ∀ o i, subscripted b false o i = operate [o, i] (getItem o i)
def IxR (X : Cx) (r : R2) : Prop :=
  ∀ (value slice : Expr) (pins : List (Addr × Obj)) (s : Shared) (σ : St) (H : Hp) (x y : V) (v u : Value) (Q : VK), Inv X pins σ H s -> RelV x v -> RelV y u -> r x y H Q ->
    subscripted slice false v u = operate [v, u] (getItem v u) -> wpAny (model X.prog X.w) X.A (subscriptTail value slice v u) (EP X pins σ Q) X.xe s
def MtR (X : Cx) (id : String) (r : V -> List V -> Hp -> VK -> Prop) : Prop :=
  ∀ (pins : List (Addr × Obj)) (s : Shared) (σ : St) (H : Hp) (x : V) (xs : List V) (v : Value) (us : List Value) (Q : VK), Inv X pins σ H s -> RelV x v -> Vals xs us -> r x xs H Q ->
    wpAny (model X.prog X.w) X.A (call (.builtin id) (v :: us)) (EP X pins σ Q) X.xe s
section
variable {X : Cx} {a b : Expr} {ta tb : TE} {pos : Pos}
theorem IxR.or {r r' : R2} (h : IxR X r) (h' : IxR X r') : IxR X (fun x y H Q => r x y H Q \/ r' x y H Q) := by
  intro value slice pins s σ H x y v u Q I rx ry q hs
  rcases q with q | q
  · exact h value slice pins s σ H x y v u Q I rx ry q hs
  · exact h' value slice pins s σ H x y v u Q I rx ry q hs
theorem MtR.or {id : String} {r r' : V -> List V -> Hp -> VK -> Prop} (h : MtR X id r) (h' : MtR X id r') : MtR X id (fun x xs H Q => r x xs H Q \/ r' x xs H Q) := by
  intro pins s σ H x xs v us Q I rx rs q
  rcases q with q | q
  · exact h pins s σ H x xs v us Q I rx rs q
  · exact h' pins s σ H x xs v us Q I rx rs q
theorem z0u {r : R2} (hr : IxR X r) (ha : PE X a ta) (hb : PE X b tb) (hs : PlainIx b) : PE X (.Subscript a b pos) (tOp r ta tb) := by
  intro pins s σ H Q I h
  exact Subscript_ (binT ha hb I h fun v u s2 x y H2 I2 rx ry q => hr a b pins s2 σ H2 x y v u Q I2 rx ry q (hs _ _))
def rIxL (K : PySem.W.Frag) : R2 := fun x y H Q => ∃ p xs i v, x = .ref p /\ y = .int i /\ SqL K H p xs /\ atI xs i = some v /\ Q v H
def rIxT (K : PySem.W.Frag) : R2 := fun x y H Q => ∃ p xs i v, x = .ref p /\ y = .int i /\ SqT K H p xs /\ atI xs i = some v /\ Q v H
theorem ix_list : IxR X (rIxL X.K) := by
  intro value slice pins s σ H x y v u Q I rx ry h hs
  obtain ⟨p, xs, i, z, rfl, rfl, hq, he, q⟩ := h
  cases rx
  obtain ⟨t, rfl⟩ := ry
  obtain ⟨its, r, pl, hz⟩ := I.list hq
  obtain ⟨j, h1, h2, h3, h4, h5⟩ := atI_get he
  obtain ⟨w, ew, rw'⟩ := r.get h2
  have hl := r.length
  have hn := line63
  have fin : EP X pins σ Q w s := ⟨z, H, I, rw', q⟩
  by_cases h0 : 0 ≤ i
  · have hj : i.toNat = j := by
      rw [seqIndex_of h0 h5] at h1
      exact Option.some.inj h1
    exact item_listR pl.isList h0 (by omega) (by rw [hj]; simpa using ew) fin hs
  · have hj : (i + (its.toArray.size : Int)).toNat = j := by
      rw [seqIndex_neg (by omega) h4] at h1
      rw [List.size_toArray, ← hl]
      exact Option.some.inj h1
    exact subscriptTail_builtinR (x := w) pl.isList.typeIs slot_list_getitem.lookup
      (wpAny_getItem_list_neg (Q := fun r s' => r = w /\ EP X pins σ Q r s') pl.isList (by omega) (by rw [List.size_toArray] <;> omega) (by omega) (by rw [hj]; simpa using ew) ⟨rfl, fin⟩) hs
theorem ix_tup : IxR X (rIxT X.K) := by
  intro value slice pins s σ H x y v u Q I rx ry h hs
  obtain ⟨p, xs, i, z, rfl, rfl, hq, he, q⟩ := h
  cases rx
  obtain ⟨t, rfl⟩ := ry
  obtain ⟨its, r, pl, hz⟩ := I.tuple hq
  obtain ⟨j, h1, h2, h3, h4, h5⟩ := atI_get he
  obtain ⟨w, ew, rw'⟩ := r.get h2
  have hl := r.length
  have hn := line63
  have fin : EP X pins σ Q w s := ⟨z, H, I, rw', q⟩
  exact subscriptTail_builtinR (x := w) pl.typeIs slot_tuple_getitem.lookup
    (getItem_tuple (j := j) (Q := fun r s' => r = w /\ EP X pins σ Q r s') pl (by omega) (by omega) (by rw [List.size_toArray, ← hl]; exact h1) (by simpa using ew) ⟨rfl, fin⟩) hs
theorem mapSeq_set (its : List Value) (n j : Nat) (u : Value) : Obj.mapSeq (·.setIfInBounds j u) { cls := .type "list", data := .seq its.toArray n } = { cls := .type "list", data := .seq (its.set j u).toArray n } := by
  simp [Obj.mapSeq]
theorem Inv.lst {pins : List (Addr × Obj)} {σ : St} {H : Hp} {s : Shared} {p : Addr} {xs : List V} (I : Inv X pins σ H s) (h : H p = some (.lst xs)) :
    ∃ (its : List Value) (n : Nat), Vals xs its /\ s.heap.get? p = some { cls := .type "list", data := .seq its.toArray n } /\ xs.length ≤ sizeLine := by
  obtain ⟨z, its, n, r, e⟩ := I.hok p _ h
  exact ⟨its, n, r, e, z⟩
theorem Inv.lstUpd {pins : List (Addr × Obj)} {σ : St} {H : Hp} {s : Shared} {p : Addr} {xs ys : List V} {its its' : List Value} {n n' : Nat} {f : Obj -> Obj} (I : Inv X pins σ H s) (h : H p = some (.lst xs))
    (ho : s.heap.get? p = some { cls := .type "list", data := .seq its.toArray n }) (hf : f { cls := .type "list", data := .seq its.toArray n } = { cls := .type "list", data := .seq its'.toArray n' }) (r : Vals ys its') (hz : ys.length ≤ sizeLine) (t : Nat) :
    Inv X pins σ (upd H p (.lst ys)) { s with heap := s.heap.update p f, toks := t } := by
  have e : (s.heap.update p f).get? p = some { cls := .type "list", data := .seq its'.toArray n' } := by
    rw [Heap.get?_update_self f ho (by rw [hf] <;> rfl), hf]
  refine I.write (x := p) (e := p) (by rw [h]; trivial) (.inl rfl) (fun b u hb q => (Heap.get?_update_other _ _ (Ne.symm hb)).trans q) ⟨_, e⟩ ?_
  exact ⟨hz, its', n', r, e⟩
def rSetL : V -> V -> V -> Hp -> (Hp -> Prop) -> Prop := fun o i v H Q => ∃ p xs k j, o = .ref p /\ i = .int k /\ H p = some (.lst xs) /\ ixN xs.length k = some j /\ Q (upd H p (.lst (xs.set j v)))
theorem set_list : PSet X rSetL := by
  intro pins s σ H o i v ov iv u Q I ro ri rv h
  obtain ⟨p, xs, k, j, rfl, rfl, hp, hj, q⟩ := h
  cases ro
  obtain ⟨t, rfl⟩ := ri
  obtain ⟨its, n, r, ho, hz⟩ := I.lst hp
  obtain ⟨h1, h2, h3, h4⟩ := ixN_seq hj
  have hl := r.length
  have hn := line63
  have I' : Inv X pins σ (upd H p (.lst (xs.set j v))) { s with heap := s.heap.update p (Obj.mapSeq (·.setIfInBounds j u)) } :=
    I.lstUpd hp ho (mapSeq_set its n j u) (r.set rv j) (by rw [List.length_set]; exact hz) s.toks
  by_cases h0 : 0 ≤ k
  · have hk : k.toNat = j := by
      rw [seqIndex_of h0 h4] at h1
      exact Option.some.inj h1
    exact PySem.W.ki_setAt ho h0 (by omega) (by rw [List.size_toArray, ← hl]; exact h4) (by rw [hk]; exact ⟨_, I', q⟩)
  · have hk : (k + (its.toArray.size : Int)).toNat = j := by
      rw [seqIndex_neg (by omega) h3] at h1
      rw [List.size_toArray, ← hl]
      exact Option.some.inj h1
    exact PySem.W.ki_setBack ho (by omega) (by rw [List.size_toArray, ← hl]; exact h3) (by omega) (by rw [hk]; exact ⟨_, I', q⟩)
theorem slice_bounds (lo hi : Option Int) (n : Nat) : (sliceBounds lo hi none n).1 = ((HT.sIx n 0 lo : Nat) : Int) /\ (sliceBounds lo hi none n).2.1 = ((HT.sIx n n hi : Nat) : Int) /\ (sliceBounds lo hi none n).2.2 = 1 := by
  refine ⟨?_, ?_, rfl⟩
  · cases lo with
    | none => simp [sliceBounds, HT.sIx]
    | some i =>
      simp only [sliceBounds, HT.sIx, Option.getD_none, show (1 : Int) > 0 by decide, if_true]
      by_cases h : i < 0
      · simp only [h, if_true] <;> omega
      · simp only [h, if_false] <;> omega
  · cases hi with
    | none => simp [sliceBounds, HT.sIx]
    | some i =>
      simp only [sliceBounds, HT.sIx, Option.getD_none, show (1 : Int) > 0 by decide, if_true]
      by_cases h : i < 0
      · simp only [h, if_true] <;> omega
      · simp only [h, if_false] <;> omega
theorem slicePick_cut (its : List Value) (lo hi : Option Int) : slicePick its.toArray lo hi none = ((its.drop (HT.sIx its.length 0 lo)).take (HT.sIx its.length its.length hi - HT.sIx its.length 0 lo)).toArray := by
  obtain ⟨h1, h2, h3⟩ := slice_bounds lo hi its.toArray.size
  unfold slicePick
  rw [h1, h2, h3]
  simp only [sliceRange_one, pick_run, List.size_toArray] <;> rfl
def rSlL (K : PySem.W.Frag) : V -> Option Int -> Option Int -> Hp -> VK -> Prop := fun x lo hi H Q => ∃ a xs, x = .ref a /\ SqL K H a xs /\ ∀ p, H p = none -> Q (.ref p) (upd H p (.lst (cutV xs lo hi)))
theorem sl_list : SlR X (rSlL X.K) := by
  intro pins s σ H x v vl vu lo hi sl Q I rx hs pl pu h
  obtain ⟨a, xs, rfl, hx, q⟩ := h
  cases rx
  obtain ⟨its, r, ht, hz⟩ := I.list hx
  have hlen := r.length
  refine ⟨"list", _, slot_list_getitem.lookup, ht.isList.typeIs, ?_⟩
  refine wpAny_getItem_list_slice ht.isList hs pl pu .none (by simp) ?_ (by rw [List.size_toArray] <;> omega)
  rw [slicePick_cut, ← hlen]
  refine ⟨.ref s.heap.objs.size, _, I.laid (t' := s.toks) (o := .lst (cutV xs lo hi)) (fun b ob q => Heap.get?_push_of_some _ q) (Nat.le_refl _) ?_, rfl, q _ (I.hok.fresh (Nat.le_refl _))⟩
  exact ⟨Nat.le_trans (cutV_length xs lo hi) hz, _, 0, (r.drop (HT.sIx xs.length 0 lo)).take (HT.sIx xs.length xs.length hi - HT.sIx xs.length 0 lo), Heap.get?_push_size _ rfl⟩
def flatV : V -> Bool
  | .non => true
  | .bl _ => true
  | .int _ => true
  | .str _ => true
  | _ => false
def eqV : V -> V -> Bool
  | .non, .non => true
  | .bl a, .bl b => a == b
  | .bl a, .int b => (if a then 1 else 0) == b
  | .int a, .bl b => a == (if b then 1 else 0)
  | .int a, .int b => a == b
  | .str a, .str b => a == b
  | _, _ => false
theorem eqAt_V {A : Around} {s : Shared} {y x : V} {u v : Value} (ry : RelV y u) (rx : RelV x v) (fy : flatV y = true) (fx : flatV x = true) : SeqAt.EqAt A s u v (eqV y x) := by
  cases y with
  | non =>
    cases ry
    cases x with
    | non => cases rx; exact SeqAt.EqAt.same _
    | bl b => cases rx; exact SeqAt.EqAt.none_bool b
    | int b => obtain ⟨t, rfl⟩ := rx; exact SeqAt.EqAt.none_int b t
    | str b => obtain ⟨t, rfl⟩ := rx; exact SeqAt.EqAt.none_str b t
    | _ => exact absurd (show false = true from fx) Bool.false_ne_true
  | bl a =>
    cases ry
    cases x with
    | non => cases rx; exact SeqAt.EqAt.bool_none a
    | bl b => cases rx; exact SeqAt.EqAt.bool_bool a b
    | int b => obtain ⟨t, rfl⟩ := rx; exact SeqAt.EqAt.bool_int a b t
    | str b => obtain ⟨t, rfl⟩ := rx; exact SeqAt.EqAt.bool_str a b t
    | _ => exact absurd (show false = true from fx) Bool.false_ne_true
  | int a =>
    obtain ⟨t', rfl⟩ := ry
    cases x with
    | non => cases rx; exact SeqAt.EqAt.int_none a t'
    | bl b => cases rx; exact SeqAt.EqAt.int_bool a t' b
    | int b => obtain ⟨t, rfl⟩ := rx; exact SeqAt.EqAt.int_int a t' b t
    | str b => obtain ⟨t, rfl⟩ := rx; exact SeqAt.EqAt.int_str a t' b t
    | _ => exact absurd (show false = true from fx) Bool.false_ne_true
  | str a =>
    obtain ⟨t', rfl⟩ := ry
    cases x with
    | non => cases rx; exact SeqAt.EqAt.str_none a t'
    | bl b => cases rx; exact SeqAt.EqAt.str_bool a t' b
    | int b => obtain ⟨t, rfl⟩ := rx; exact SeqAt.EqAt.str_int a t' b t
    | str b => obtain ⟨t, rfl⟩ := rx; exact SeqAt.EqAt.str_str a t' b t
    | _ => exact absurd (show false = true from fx) Bool.false_ne_true
  | _ => exact absurd (show false = true from fy) Bool.false_ne_true
def eqU (x : V) (u : Value) : Bool := match u with
  | .none => eqV .non x
  | .bool b => eqV (.bl b) x
  | .int i _ => eqV (.int i) x
  | .str z _ => eqV (.str z) x
  | _ => false
theorem eqU_of {x y : V} {u : Value} (r : RelV y u) (f : flatV y = true) : eqU x u = eqV y x := by
  cases y with
  | non => cases r; rfl
  | bl b => cases r; rfl
  | int i => obtain ⟨t, rfl⟩ := r; rfl
  | str z => obtain ⟨t, rfl⟩ := r; rfl
  | _ => exact absurd (show false = true from f) Bool.false_ne_true
theorem any_eqU {x : V} : ∀ {xs : List V} {us : List Value}, Vals xs us -> xs.all flatV = true -> us.any (eqU x) = xs.any fun y => eqV y x
  | _, _, .nil, _ => rfl
  | y :: xs, u :: us, .cons r t, f => by
    rw [List.all_cons, Bool.and_eq_true] at f
    rw [List.any_cons, List.any_cons, eqU_of r f.1, any_eqU t f.2]
theorem mem_eqAt {A : Around} {s : Shared} {x : V} {v : Value} (rx : RelV x v) (fx : flatV x = true) : ∀ {xs : List V} {us : List Value}, Vals xs us -> xs.all flatV = true -> ∀ u ∈ us, SeqAt.EqAt A s u v (eqU x u)
  | _, _, .nil, _ => fun u hu => by cases hu
  | y :: xs, u :: us, .cons r t, f => fun u' hu => by
    rw [List.all_cons, Bool.and_eq_true] at f
    rcases List.mem_cons.mp hu with rfl | hu
    · rw [eqU_of r f.1]; exact eqAt_V r rx f.1 fx
    · exact mem_eqAt rx fx t f.2 u' hu
def inV (x : V) (xs : List V) : Bool := xs.any fun y => eqV y x
def rIn (K : PySem.W.Frag) (neg : Bool) : R2 := fun x y H Q => ∃ p xs, y = .ref p /\ (SqL K H p xs \/ SqT K H p xs) /\ flatV x = true /\ xs.all flatV = true /\ Q (.bl (if neg then !inV x xs else inV x xs)) H
theorem op_in_seq : OpR X (compareOp .In) (rIn X.K false) := by
  intro pins s σ H x y v u Q I rx ry h
  obtain ⟨p, xs, rfl, hq, fx, fs, q⟩ := h
  cases ry
  rcases hq with hq | hq
  · obtain ⟨its, r, pl, hz⟩ := I.list hq
    refine SeqAt.in_listAt (eqU x) pl.isList (fun w hw => mem_eqAt rx fx r fs w (by simpa using hw)) ⟨.bl _, H, I, rfl, ?_⟩
    rw [show its.toArray.any (eqU x) = its.any (eqU x) by simp, any_eqU r fs]
    exact q
  · obtain ⟨its, r, pl, hz⟩ := I.tuple hq
    refine SeqAt.in_tupleAt (eqU x) pl (fun w hw => mem_eqAt rx fx r fs w (by simpa using hw)) ⟨.bl _, H, I, rfl, ?_⟩
    rw [show its.toArray.any (eqU x) = its.any (eqU x) by simp, any_eqU r fs]
    exact q
theorem z0j : CallR X (.builtin "len") (fun xs H Q => ∃ p ys, xs = [.ref p] /\ (SqL X.K H p ys \/ SqT X.K H p ys) /\ Q (.int ys.length) H) := by
  intro pins s σ H xs us Q I r h
  obtain ⟨p, ys, rfl, hq, q⟩ := h
  obtain ⟨u, rfl, rx⟩ := z3z r
  cases rx
  have hn := line63
  rcases hq with hq | hq
  · obtain ⟨its, r', pl, hz⟩ := I.list hq
    have hlen := r'.length
    exact Calls.call_len_list pl.isList (by simp only [List.size_toArray] <;> omega) ⟨.int ys.length, H, I.tok _, ⟨s.toks + 1, by rw [List.size_toArray, hlen]⟩, q⟩
  · obtain ⟨its, r', pl, hz⟩ := I.tuple hq
    have hlen := r'.length
    exact len_tuple pl (by simp only [List.size_toArray] <;> omega) ⟨.int ys.length, H, I.tok _, ⟨s.toks + 1, by rw [List.size_toArray, hlen]⟩, q⟩
theorem CallR.or {f : Value} {r r' : List V -> Hp -> VK -> Prop} (h : CallR X f r) (h' : CallR X f r') : CallR X f (fun xs H Q => r xs H Q \/ r' xs H Q) := by
  intro pins s σ H xs us Q I rs q
  rcases q with q | q
  · exact h pins s σ H xs us Q I rs q
  · exact h' pins s σ H xs us Q I rs q
theorem call_list_of : CallR X (.type "list") (fun xs H Q => ∃ p ys, xs = [.ref p] /\ (SqL X.K H p ys \/ SqT X.K H p ys) /\ ∀ l, H l = none -> Q (.ref l) (upd H l (.lst ys))) := by
  intro pins s σ H xs us Q I r h
  obtain ⟨p, ys, rfl, hq, q⟩ := h
  obtain ⟨u, rfl, rx⟩ := z3z r
  cases rx
  have fin : ∀ (its : List Value), Vals ys its -> ys.length ≤ sizeLine -> ∀ (h' : Heap) (c' : Nat), (∀ b o', s.heap.get? b = some o' -> h'.get? b = some o') ->
      h'.get? s.heap.objs.size = some { cls := .type "list", dict := none, data := .seq its.toArray c', slots := #[] } -> EP X pins σ Q (.ref s.heap.objs.size) { s with heap := h' } := fun its r' hz h' c' kp e =>
    ⟨.ref s.heap.objs.size, _, I.laid (t' := s.toks) kp (Nat.le_refl _) (show ObjOk X.prog X.w _ h' _ (.lst ys) from ⟨hz, its, c', r', e⟩), rfl, q _ (I.hok.fresh (Nat.le_refl _))⟩
  rcases hq with hq | hq
  · obtain ⟨its, r', pl, hz⟩ := I.list hq
    have hlen := r'.length
    obtain ⟨o, ho, hc, n, hd⟩ := pl.isList
    exact call_list_seq p (.inl rfl) ho hc hd (fun h' c' kp e => fin its r' hz h' c' kp e) (by simp only [List.size_toArray] <;> omega)
  · obtain ⟨its, r', pl, hz⟩ := I.tuple hq
    have hlen := r'.length
    obtain ⟨o, ho, hc, n, hd⟩ := pl
    exact call_list_seq p (.inr rfl) ho hc hd (fun h' c' kp e => fin its r' hz h' c' kp e) (by simp only [List.size_toArray] <;> omega)
theorem z1m : CallR X (.type "tuple") (fun xs H Q => ∃ p ys, xs = [.ref p] /\ ((SqL X.K H p ys /\ ∀ l, H l = none -> Q (.ref l) (upd H l (.tup ys))) \/ (SqT X.K H p ys /\ Q (.ref p) H))) := by
  intro pins s σ H xs us Q I r h
  obtain ⟨p, ys, rfl, h⟩ := h
  obtain ⟨u, rfl, rx⟩ := z3z r
  cases rx
  rcases h with ⟨hq, q⟩ | ⟨hq, q⟩
  · obtain ⟨its, r', pl, hz⟩ := I.list hq
    have hlen := r'.length
    refine call_tuple_list pl.isList (fun h' kp => ?_) (by simp only [List.size_toArray] <;> omega)
    have I1 : Inv X pins σ H { s with heap := h' } := I.kept (t' := s.toks) kp
    have I2 : Inv X pins σ (upd H h'.objs.size (.tup ys)) { s with heap := h'.push { cls := .type "tuple", data := .seq its.toArray } } :=
      I1.laid (t' := s.toks) (fun b o e => Heap.get?_push_of_some _ e) (Nat.le_refl _) (show ObjOk X.prog X.w _ _ _ (.tup ys) from ⟨hz, its, r', IsTup.new _ _⟩)
    exact ⟨.ref h'.objs.size, _, I2, rfl, q _ (I1.hok.fresh (Nat.le_refl _))⟩
  · obtain ⟨its, r', pl, hz⟩ := I.tuple hq
    exact call_tuple_same pl ⟨.ref p, H, I, rfl, q⟩
def tyV (K : PySem.W.Frag) (T : String) (x : V) (H : Hp) : Prop := match x with
  | .str _ => T = "str"
  | .int _ => T = "int"
  | .ref p => (T = "list" /\ ∃ xs, SqL K H p xs) \/ (T = "tuple" /\ ∃ o, K.lookup p = some o /\ o.cls = .type "tuple" /\ o.dict = none) \/
      (T = "dict" /\ ((∃ kvs, H p = some (.dK kvs)) \/ ∃ kvs, H p = some (.dT kvs))) \/ (T = "set" /\ ∃ S n, H p = some (.set S n))
  | _ => False
theorem tyV_is {pins : List (Addr × Obj)} {σ : St} {H : Hp} {s : Shared} {T : String} {x : V} {v : Value} (I : Inv X pins σ H s) (r : RelV x v) (ty : tyV X.K T x H) :
    s.TypeIs v T /\ ∀ a, v = .ref a -> ∃ ob, s.heap.get? a = some ob /\ ob.dict = none := by
  cases x with
  | str z =>
    obtain ⟨t, rfl⟩ := r
    cases (show T = "str" from ty)
    exact ⟨typeIs_str s z t, fun _ e => nomatch e⟩
  | int i =>
    obtain ⟨t, rfl⟩ := r
    cases (show T = "int" from ty)
    exact ⟨typeIs_int s i t, fun _ e => nomatch e⟩
  | ref p =>
    cases r
    rcases ty with ⟨rfl, xs, hq⟩ | ⟨rfl, o, hk, hc, hd⟩ | ⟨rfl, hk⟩ | ⟨rfl, S, n, hk⟩
    · obtain ⟨its, _, pl, _⟩ := I.list hq
      refine ⟨pl.isList.typeIs, fun a e => ?_⟩
      cases e
      obtain ⟨o, n, e, c, hd, _⟩ := pl
      exact ⟨o, e, hd⟩
    · refine ⟨⟨o, I.kIn p o hk, hc⟩, fun a e => ?_⟩
      cases e
      exact ⟨o, I.kIn _ o hk, hd⟩
    · have z : ∃ o, s.heap.get? p = some o /\ o.ExactDict := by
        rcases hk with ⟨kvs, hk⟩ | ⟨kvs, hk⟩
        · obtain ⟨_, _, _, _, o, _, _, e, ex, _⟩ := I.hok p _ hk
          exact ⟨o, e, ex⟩
        · obtain ⟨_, _, _, _, o, _, _, e, ex, _⟩ := I.hok p _ hk
          exact ⟨o, e, ex⟩
      obtain ⟨o, e, ex⟩ := z
      refine ⟨⟨o, e, ex.1⟩, fun a e2 => ?_⟩
      cases e2
      exact ⟨o, e, ex.2.1⟩
    · obtain ⟨o, _, _, _, e, ex, _⟩ := I.hok p _ hk
      refine ⟨⟨o, e, ex.1⟩, fun a e2 => ?_⟩
      cases e2
      exact ⟨o, e, ex.2.1⟩
  | _ => exact False.elim ty
def tBM0 (K : PySem.W.Frag) (T : String) (r : V -> List V -> Hp -> VK -> Prop) (to : TE) : TE := fun σ H Q => to σ H fun x H1 => tyV K T x H1 /\ r x [] H1 Q
def tBM (K : PySem.W.Frag) (T : String) (r : V -> List V -> Hp -> VK -> Prop) (to : TE) (t : TA) : TE := fun σ H Q => to σ H fun x H1 => tyV K T x H1 /\ t σ H1 fun xs H2 => r x xs H2 Q
variable {o e : Expr} {es : List Expr} {to : TE} {t : TA} {name : Str} {apos cpos : Pos} {T id : String} {r : V -> List V -> Hp -> VK -> Prop}
theorem pe_bm (pa : PlainAttrs T) (slot : Slot T name id) (hty : typeOf (.builtin id) = pure (.type "method_descriptor")) (hm : MtR X id r) (ho : PE X o to) (ha : PA X (e :: es) t)
    (hbase : attributeBase o name X.env (eval o X.env) = eval o X.env := by rfl)
    (hfew : ((backTo cpos (starEach (e :: es) X.env)).all (fun x => !x.1) && (backToKw cpos (keywordEach [] X.env)).all (fun x => x.1.isSome)
      && decide ((e :: es).length + ([] : List Keyword).length + (if ([] : List Keyword).isEmpty then 0 else 1) < 30)) = true := by rfl)
    (hline : (apos.endLine == cpos.line) = true := by rfl) (hs : starEach (e :: es) X.env = (false, eval e X.env) :: starEach es X.env := by rfl) (hplain : (backTo cpos (starEach es X.env)).any (·.1) = false := by rfl) :
    PE X (.Call (.Attribute o name apos) (e :: es) [] cpos) (tBM X.K T r to t) := by
  intro pins s σ H Q I h
  refine wpAny_Call_method_late hbase hfew hline rfl (thn (ho pins s σ H _ I h) fun v s1 ⟨x, H1, I1, r1, ty, q1⟩ => ?_)
  obtain ⟨h1, h2⟩ := tyV_is I1 r1 ty
  refine ⟨T, id, pa, slot, hty, h1, h2, ?_⟩
  have hA := ha cpos pins s1 σ H1 _ I1 q1
  rw [hs] at hA ⊢
  refine Calls.callWith_builtin (by show (false || (backTo cpos (starEach es X.env)).any (·.1)) = false; rw [hplain] <;> rfl) (Calls.evalArgs_plain ?_)
  exact thn hA fun us s2 ⟨vs, H2, I2, r2, q2⟩ => hm pins s2 σ H2 x vs v us Q I2 r1 r2 q2
end
def MtM (X : Cx) (id : String) (r : V -> List V -> Hp -> VK -> Prop) : Prop :=
  ∀ (pins : List (Addr × Obj)) (s : Shared) (σ : St) (H : Hp) (x : V) (xs : List V) (v : Value) (us : List Value) (Q : VK), Inv X pins σ H s -> RelV x v -> Vals xs us -> r x xs H Q ->
    wpAny (model X.prog X.w) X.A (call (.builtin id) (v :: us)) (EP X pins σ Q) X.xe s
theorem Vals.one : ∀ {x : V} {us : List Value}, Vals [x] us -> ∃ u, us = [u] /\ RelV x u
  | _, _, .cons r .nil => ⟨_, rfl, r⟩
theorem Vals.zero : ∀ {us : List Value}, Vals [] us -> us = []
  | _, .nil => rfl
theorem Vals.eraseIdx : ∀ {xs : List V} {us : List Value} (i : Nat), Vals xs us -> Vals (xs.eraseIdx i) (us.eraseIdx i)
  | _, _, _, .nil => .nil
  | _, _, 0, .cons _ t => t
  | _, _, i + 1, .cons r t => .cons r (Vals.eraseIdx i t)
theorem Vals.reverse {xs : List V} {us : List Value} (h : Vals xs us) : Vals xs.reverse us.reverse := by
  induction h with
  | nil => exact .nil
  | cons r t ih => rw [List.reverse_cons, List.reverse_cons]; exact Vals.append ih (.cons r .nil)
theorem Vals.rep {xs : List V} {us : List Value} (h : Vals xs us) : ∀ k : Nat, Vals (List.replicate k xs).flatten (List.replicate k us).flatten
  | 0 => .nil
  | k + 1 => by
    rw [List.replicate_succ, List.replicate_succ, List.flatten_cons, List.flatten_cons]
    exact Vals.append h (Vals.rep h k)
section
variable {X : Cx} {pins : List (Addr × Obj)} {σ : St} {H : Hp} {s : Shared} {l b : Addr} {xs ys zs : List V}
theorem Inv.lset {its its' : List Value} {n : Nat} {f : Array Value -> Array Value} {t' : Nat} (I : Inv X pins σ H s) (hH : H l = some (.lst xs))
    (e : s.heap.get? l = some { cls := .type "list", data := .seq its.toArray n }) (hf : f its.toArray = its'.toArray) (hv : Vals ys its') (hz : ys.length ≤ sizeLine) :
    Inv X pins σ (upd H l (.lst ys)) { s with heap := s.heap.update l (Obj.mapSeq f), toks := t' } := by
  have q := PySem.IsL.update e f
  rw [hf] at q
  refine I.write (x := l) (e := l) (by rw [hH]; exact trivial) (.inl rfl) (fun b' u hb hu => (Heap.get?_update_other s.heap (Obj.mapSeq f) (Ne.symm hb)).trans hu) ⟨_, q⟩ ?_
  exact ⟨hz, its', _, hv, q⟩
theorem Inv.fresh (I : Inv X pins σ H s) : H s.heap.objs.size = none := I.hok.fresh (Nat.le_refl _)
theorem Inv.lstM (I : Inv X pins σ H s) (hH : H l = some (.lst xs)) : xs.length ≤ sizeLine /\ ∃ (its : List Value) (n : Nat), Vals xs its /\ xs.length = its.length /\ s.heap.get? l = some { cls := .type "list", data := .seq its.toArray n } := by
  obtain ⟨z, its, n, r, e⟩ := I.hok l _ hH
  exact ⟨z, its, n, r, r.length, e⟩
end
section
variable {X : Cx}
def rAppend : V -> List V -> Hp -> VK -> Prop := fun x vs H Q => ∃ l xs y, x = .ref l /\ vs = [y] /\ H l = some (.lst xs) /\ xs.length < sizeLine /\ Q .non (upd H l (.lst (xs ++ [y])))
theorem mt_append : MtM X "list.append" rAppend := by
  intro pins s σ H x vs v us Q I rx rv h
  obtain ⟨l, xs, y, rfl, rfl, hH, hz, q⟩ := h
  cases rx
  obtain ⟨u, rfl, ru⟩ := rv.one
  obtain ⟨z, its, n, r, hl, e⟩ := I.lstM hH
  refine call_meets F.slot_list_append ⟨_, e, rfl⟩ F.entry_list_append (F.args_list_append_2 _ _) (PySem.list_append l its.toArray n u (by rw [List.size_toArray]; omega)) ⟨e, ?_⟩
  refine ⟨.non, _, I.lset (its' := its ++ [u]) hH e (by simp) (r.append (.cons ru .nil)) ?_, rfl, q⟩
  rw [List.length_append, List.length_singleton]
  omega
def rExtend : V -> List V -> Hp -> VK -> Prop := fun x vs H Q => ∃ l b xs zs, x = .ref l /\ vs = [.ref b] /\ H l = some (.lst xs) /\ H b = some (.lst zs) /\ xs.length + zs.length ≤ sizeLine /\ Q .non (upd H l (.lst (xs ++ zs)))
def rPopAt : V -> List V -> Hp -> VK -> Prop := fun x vs H Q => ∃ l xs i k y, x = .ref l /\ vs = [.int i] /\ H l = some (.lst xs) /\ -(2 ^ 63) ≤ i /\ i < 2 ^ 63 /\ seqIndex? i xs.length = some k /\ xs[k]? = some y /\ Q y (upd H l (.lst (xs.eraseIdx k)))
def rCat : R2 := fun x y H Q => ∃ l b xs zs, x = .ref l /\ y = .ref b /\ H l = some (.lst xs) /\ H b = some (.lst zs) /\ xs.length + zs.length ≤ sizeLine /\ ∀ p, H p = none -> Q (.ref p) (upd H p (.lst (xs ++ zs)))
def rRep : R2 := fun x y H Q => ∃ l k xs, x = .ref l /\ y = .int k /\ H l = some (.lst xs) /\ -(2 ^ 63) ≤ k /\ k < 2 ^ 63 /\ xs.length * k.toNat ≤ sizeLine /\
  ∀ p, H p = none -> Q (.ref p) (upd H p (.lst (List.replicate k.toNat xs).flatten))
end
section
variable {prog : Program} {w : World} {A : Around} {E : Value -> Shared -> Prop} {s : Shared}
end
section
variable {X : Cx}
end
end L2
namespace Att
open PySem PySem.W PySem.Calls PyProof.Rows
theorem ints_of_wellAll {P : Params} {h : Heap} : ∀ (ns : List Int) (vs : List Value), WellAll P h vs (ns.map WData.int) -> IntsAre vs ns := by
  intro ns
  induction ns with
  | nil =>
    intro vs w
    rw [List.map_nil] at w
    cases w
    exact .nil
  | cons n ns ih =>
    intro vs w
    rw [List.map_cons] at w
    cases w with
    | cons a b =>
      cases a
      exact .cons _ _ (ih _ b)
theorem script_of {l : OpenLaw} {n : Nat} (hn : l.most = some n) {P : Params} {h : Heap} {args : List WData} {vals : List Value}
    (hpre : l.row.toRowW.claim.pre args = true) (hwl : WellAll P h vals args) :
    ∃ a vs ns, vals = [Value.ref a] /\ args = [WData.list (ns.map WData.int)] /\ h.get? a = some { cls := .type "list", data := .seq vs.toArray } /\ IntsAre vs ns /\ ns.length ≤ n := by
  have hsh : WShape.hasAll [] args [.list .int] = true := (pre_splitW hpre).1
  have hc : l.pre.holds [] { args := args } = true := (pre_splitW hpre).2
  obtain ⟨d, r, rfl, h1, h2⟩ := hasAllW_cons hsh
  obtain rfl := hasAllW_nil h2
  obtain ⟨xs, rfl, h3⟩ := hasW_list h1
  obtain ⟨ns, rfl⟩ := items_int h3
  have hlen : ns.length ≤ n := by
    unfold OpenLaw.pre at hc
    have h4 : (WTm.not (.lt (.lit (.int (n : Int))) (.len (.arg 0)))).holds [] { args := [.list (ns.map .int)] } = true := by
      have h4 := (holds_andW hc).1
      rw [hn] at h4
      exact h4
    have h5 := condW_of h4 (w_not (w_lt w_lit (w_len_list (w_arg rfl))))
    rw [List.length_map] at h5
    refine Nat.le_of_not_lt fun q => ?_
    have q' : (n : Int) < ((ns.length : Nat) : Int) := by omega
    first
      | (rw [decide_eq_true q'] at h5; exact absurd h5 (by decide))
      | (simp at h5; omega)
  cases hwl with
  | cons w1 w2 =>
    cases w2
    cases w1 with
    | list ho hall => exact ⟨_, _, ns, rfl, rfl, ho, ints_of_wellAll ns _ hall, hlen⟩
theorem post_true (l : OpenLaw) (args : List WData) : l.row.toRowW.claim.post args (.bool true) args = true :=
  postW_of (r := l.row.toRowW) (X := (true == true))
    (show WShape.has [] (.bool true) .bool = true by first | rfl | decide | simp [WShape.has, WShape.arms, WShape.armsAll])
    (show (WTm.eq .res (.lit (.bool true))).value [] { args := args, res := some (.bool true), after := args } = some (.bool (true == true)) from w_eq_bool (w_res rfl) w_lit) rfl
theorem attach_call {l : OpenLaw} {n : Nat} {q : Program} {loose : List Str} {XP : (Str -> Option Value) -> Heap -> Prop} {YP : World -> Heap -> Prop} {d : DefRec}
    (hn : l.most = some n) (hdf : d.params.defaults = [])
    (call : ∀ (w : World) (s₀ s₁ : Shared) (mg mb : Str -> Option Value) (fa : Addr) (o : Obj) (pm cd doc : Value) (a : Addr) (vs : List Value) (ns : List Int),
      Ground q loose [] XP w s₀ mg mb s₁.heap -> YP w s₁.heap ->
      s₁.heap.get? fa = some o -> o.data = .func (docDef d.name d.params d.body d.scope pm cd doc) -> s₁.heap.CodeRec cd d.name -> mg d.name = some (.ref fa) ->
      s₁.heap.get? a = some { cls := .type "list", data := .seq vs.toArray } -> IntsAre vs ns -> ns.length ≤ n -> s₁.gens = #[] ->
      codeAny (model l.prog w) callerA (.call (.ref fa) ⟨[.ref a], []⟩) (fun r s' => r = .ok (.ret (.bool true)) /\ OldK s₁.heap s'.heap /\ s'.os = s₁.os /\ AllBare s'.gens) s₁) :
    WalkO q loose XP YP l.row.toRowW d [] (fun f vs => PySem.call f vs) := by
  intro w s₀ s₁ mg mb G Y fa o pm cd doc dV kV ho hd hcd hD hmg hg args vals as hpre hlay hrd hwl hlo
  obtain rfl : dV = .none := Dflts.none hD hdf
  obtain rfl : kV = .none := Dflts.noKw hD
  obtain ⟨a, vs, ns, rfl, rfl, hobj, hints, hlen⟩ := script_of hn hpre hwl
  refine enter_call (codeAny_mono (call w s₀ s₁ mg mb fa o pm cd doc a vs ns G Y ho (fd_plain hd) hcd hmg hobj hints hlen hg) fun r s' hq => ?_)
  obtain ⟨rfl, h2, h3, h4⟩ := hq
  exact ⟨.inl ⟨.bool true, .bool true, [], rfl, fun _ => rfl, .bool true, post_true l _, fun _ => ⟨List.Pairwise.nil, fun _ hm => (nomatch hm)⟩⟩, h2, h3, h4⟩
section
variable {prog : Program} {w : World} {A : Around} {E : Value -> Shared -> Prop} {s : Shared} {K : Frag}
end
end Att
namespace L2
open PySem PySem.Spec PyProof.Rows
theorem vals_ints : ∀ {vs : List Value} {ns : List Int}, IntsAre vs ns -> Vals (ns.map V.int) vs
  | _, _, .nil => .nil
  | _, _, .cons n t h => .cons ⟨t, rfl⟩ (vals_ints h)
def Only (H : Hp) : Prop := ∀ b, H b = none \/ ∃ o xs, H b = some (.frz o (.lst xs))
theorem law_call {P : Program} {w : World} {K : PySem.W.Frag} {mg mb : Str -> Option Value} {CX : CXT} {k : Nat} {fa a : Addr} {fd : FuncData} {x : Str} {sp : Sp} {s₁ : Shared} {vs : List Value} {ns : List Int}
    (KX : K.In s₁.heap) (hns : s₁.heap.Ns mainGlobals mg) (hb : s₁.heap.Ns builtinsNs mb) (hbb : ∀ x : Str, x ≠ "__name__" -> mb x = bootBuiltins x) (hlim : s₁.heap.NoLimit) (hg : s₁.gens = #[])
    (ha : s₁.heap.get? a = some { cls := .type "list", data := .seq vs.toArray }) (hi : IntsAre vs ns) (hl : ns.length ≤ sizeLine) (hr : Room k callerA)
    (F : ∀ base : Heap, K.In base -> base.Ns mainGlobals mg -> FnOk P w K mg base CX k fa fd [x] sp) (hbind : ∀ (s : Shared) (u : Value), BindsTo s fd ⟨[u], []⟩ [(x, u)])
    (hsp : ∀ H : Hp, Only H -> SqL K H a (ns.map V.int) -> sp [.ref a] H (fun v _ => v = .bl true) fun _ _ _ => False)
    (hCX : ∀ H e s', CX [] H s₁ (fun _ _ _ => False) e s' -> False) :
    codeAny (model P w) callerA (.call (.ref fa) ⟨[.ref a], []⟩) (fun r s' => r = .ok (.ret (.bool true)) /\ OldK s₁.heap s'.heap /\ s'.os = s₁.os /\ AllBare s'.gens) s₁ := by
  have rv := vals_ints hi
  have lenV := hi.length
  have core : ∀ H : Hp, Only H -> SqL K H a (ns.map V.int) -> HOk P w H s₁.heap -> (∀ b, H b ≠ none -> b = a) -> (H a ≠ none -> K.lookup a = none) ->
      codeAny (model P w) callerA (.call (.ref fa) ⟨[.ref a], []⟩) (fun r s' => r = .ok (.ret (.bool true)) /\ OldK s₁.heap s'.heap /\ s'.os = s₁.os /\ AllBare s'.gens) s₁ := by
    intro H hO hS hok hA hK
    have base_of : ∀ {b : Addr} {o : Obj}, s₁.heap.get? b = some o -> H b = none -> (hidT s₁.heap H).get? b = some o := fun e n => hidT_get e n
    have noA : ∀ {b : Addr} {o : Obj} {es : Array DictEntry} {ep : Nat}, s₁.heap.get? b = some o -> o.data = .dict es ep -> H b = none := fun {b o es ep} e d => by
      cases q : H b with
      | none => rfl
      | some u =>
        have e' : b = a := hA b (by rw [q]; simp)
        subst e'
        rw [ha] at e; cases e
        have d' : Data.seq vs.toArray _ = Data.dict es ep := d
        cases d'
    have nsK : ∀ {b : Addr} {m : Str -> Option Value}, s₁.heap.Ns b m -> (hidT s₁.heap H).Ns b m := fun {b m} ⟨o, es, ep, e, d, r⟩ => ⟨o, es, ep, base_of e (noA e d), d, r⟩
    have hKb : K.In (hidT s₁.heap H) := fun b o e => base_of (KX b o e) (by
      cases q : H b with
      | none => rfl
      | some u =>
        have e' : b = a := hA b (by rw [q]; simp)
        subst e'
        rw [hK (by rw [q]; simp)] at e; cases e)
    have hM : Mod K mg (hidT s₁.heap H) := ⟨hKb, nsK hns, ⟨mb, nsK hb, hbb⟩, let ⟨mc, h1, h2⟩ := hlim; ⟨mc, nsK h1, h2⟩⟩
    have e0 : Env0 P w K mg (hidT s₁.heap H) callerA [] s₁ H := ⟨rfl, hM, fun b o e => of_hidT e, Nat.le_of_eq (hidT_size _ _), trivial, fun b hb => absurd (show b ∈ ([] : List Addr) from hb) (by simp), hok, .of_eq hg⟩
    refine codeAny_mono ((F _ hKb (nsK hns)).run callerA [] s₁ H ⟨[.ref a], []⟩ [.ref a] [.ref a] _ _ hr e0 (hbind s₁ (.ref a)) (.cons rfl .nil) (hsp H hO hS)) fun r s' h => ?_
    cases r with
    | error e => exact (hCX H e s' h).elim
    | ok fl =>
      cases fl with
      | next => exact False.elim h
      | brk => exact False.elim h
      | cont => exact False.elim h
      | ret u =>
        obtain ⟨v, H', os, bare, un, hok', r', q⟩ := h
        have q' : v = .bl true := q
        subst q'
        obtain rfl : u = Value.bool true := r'
        refine ⟨rfl, OldK.of_keep fun b o e => ?_, os, bare⟩
        cases q : H b with
        | none => exact un.keep b o e q (by intro z; exact absurd (show b ∈ ([] : List Addr) from z) (by simp)) (by simp)
        | some u =>
          rcases hO b with z | ⟨ob, xs, z⟩
          · rw [q] at z; cases z
          · have z2 := un.frzs b ob _ z
            obtain ⟨e1, _⟩ := hok b _ z
            obtain ⟨e2, _⟩ := hok' b _ z2
            rw [e] at e1; cases e1
            exact e2
  cases hk : K.lookup a with
  | some o =>
    have e := KX a o hk
    rw [ha] at e
    cases e
    refine core (fun _ => none) (fun _ => .inl rfl) (.inr ⟨_, vs.toArray, _, hk, rfl, rfl, rfl, by rw [List.size_toArray, lenV]; exact hl, by simpa using rv⟩) (fun b u z => by have z' : (none : Option HO) = some u := z; cases z') (fun b z => absurd rfl z) fun z => absurd rfl z
  | none =>
    refine core (fun b => if b = a then some (.frz { cls := .type "list", data := .seq vs.toArray } (.lst (ns.map V.int))) else none) (fun b => ?_) (.inl (.inr ⟨{ cls := .type "list", data := .seq vs.toArray }, if_pos rfl⟩)) (fun b u z => ?_) (fun b z => ?_) fun _ => hk
    · by_cases hb : b = a
      · exact .inr ⟨_, _, if_pos hb⟩
      · exact .inl (if_neg hb)
    · by_cases hb : b = a
      · have z' := (if_pos hb).symm.trans z
        cases z'
        subst hb
        exact ⟨ha, by rw [List.length_map]; exact hl, vs, _, rv, ha⟩
      · have z' := (if_neg hb).symm.trans z
        cases z'
    · by_cases hb : b = a
      · exact hb
      · exact absurd (if_neg hb) z
theorem walk_of {l : PySem.W.OpenLaw} {n k : Nat} {q : Program} {loose : List Str} {XP : (Str -> Option Value) -> Heap -> Prop} {YP : World -> Heap -> Prop} {d : DefRec} {K : Params -> PySem.W.Frag} {CX : World -> CXT} {sp : World -> Sp} {x : Str}
    (hn : l.most = some n) (hn2 : n ≤ sizeLine) (hdf : d.params.defaults = []) (hr : Room k callerA)
    (hY : ∀ (w : World) (h : Heap), YP w h -> (K w.params).In h)
    (F : ∀ (w : World) (mg : Str -> Option Value) (fa : Addr) (h : Heap), (K w.params).In h -> h.Ns mainGlobals mg -> mg d.name = some (.ref fa) ->
      ∃ fd : FuncData, (∀ (s : Shared) (u : Value), BindsTo s fd ⟨[u], []⟩ [(x, u)]) /\
        ∀ base : Heap, (K w.params).In base -> base.Ns mainGlobals mg -> FnOk l.prog w (K w.params) mg base (CX w) k fa fd [x] (sp w))
    (hsp : ∀ (w : World) (H : Hp) (a : Addr) (ns : List Int), ns.length ≤ n -> Only H -> SqL (K w.params) H a (ns.map V.int) -> sp w [.ref a] H (fun v _ => v = .bl true) fun _ _ _ => False)
    (hCX : ∀ (w : World) (H : Hp) (s : Shared) (e : Value) (s' : Shared), CX w [] H s (fun _ _ _ => False) e s' -> False) :
    PySem.W.WalkO q loose XP YP l.row.toRowW d [] (fun f vs => PySem.call f vs) := by
  refine Att.attach_call hn hdf fun w s₀ s₁ mg mb fa o pm cd doc a vs ns G Y ho hd hcd hmg hobj hints hlen hg => ?_
  have KX := hY w _ Y
  obtain ⟨fd, hb, hF⟩ := F w mg fa _ KX G.T.g hmg
  exact law_call KX G.T.g G.T.b G.T.builtins G.T.nolimit hg hobj hints (Nat.le_trans hlen hn2) hr hF hb (fun H hO hS => hsp w H a ns hlen hO hS) fun H e s' => hCX w H s₁ e s'
def defArgs (s : Stmt) : Arguments := match s with
  | .FunctionDef _ a _ _ _ _ _ _ _ _ => a
  | _ => { posonlyargs := [], args := [], vararg := none, kwonlyargs := [], kw_defaults := [], kwarg := none, defaults := [] }
def defBody (s : Stmt) : List Stmt := match s with
  | .FunctionDef _ _ b _ _ _ _ _ _ _ => b
  | _ => []
def defScope (s : Stmt) : Scope := match s with
  | .FunctionDef _ _ _ _ _ _ sc _ _ _ => sc
  | _ => { kind := .function, names := [], isGenerator := false, isCoroutine := false }
abbrev CX0 : CXT := fun _ _ _ _ _ _ => False
abbrev E0 : XK := fun _ _ _ => False
theorem z1l {X : Cx} : Passes CX0 X E0 := fun _ _ _ _ _ _ _ h => h.elim
structure Fun (K : PySem.W.Frag) (x qual : Str) (st : Stmt) (f : Addr) (fd : FuncData) : Prop where
  ex : ∃ (oc : Value) (od : Option Addr) (kV doc pm : Value) (an : Option Addr) (cdv ct : Value) (osl : Array (Option Value)),
    fd = PySem.W.fnOf x qual (defArgs st) (defBody st) (defScope st) .none kV doc pm an cdv ct /\ K.lookup f = some ⟨oc, od, .func fd, osl⟩ /\ PySem.W.codeIn K cdv qual = true
  kp : PySem.W.keepIn K (.ref f) = true
section
variable {P : Program} {w : World} {K : PySem.W.Frag} {mg : Str -> Option Value} {base : Heap}
theorem Fun.ok {x qual : Str} {st : Stmt} {f : Addr} {fd : FuncData} {N ps : List Str} {k : Nat} {sp : Sp} (F : Fun K x qual st f fd) (S : FnScope N ps (defScope st)) (len : ∀ vs H Q E, sp vs H Q E -> vs.length = ps.length)
    (hbody : ∀ (cdv : Value) (A : Around) (outer : List Env) (s : Shared) (H : Hp) (vs : List V) (Q : VK) (E : XK), Room k (A.deeper (envOfC qual (defScope st) s.heap.objs.size f cdv)) -> sp vs H Q E ->
      ∃ t, PSs (cxOf CX0 P w K mg base N qual (defScope st) f cdv A outer s H E).nox (defBody st) t /\ t { nx := fun _ H' => Q .non H', rt := Q } (start N vs) H) : FnOk P w K mg base CX0 (k + 1) f fd ps sp := by
  obtain ⟨oc, od, kV, doc, pm, an, cdv, ct, osl, rfl, lk, hcd⟩ := F.ex
  refine fn_of lk hcd S len fun A outer s H vs Q E hr hsp => ?_
  obtain ⟨t, h, q⟩ := hbody cdv A outer s H vs Q E hr hsp
  exact ⟨t, h.nox, q⟩
theorem Fun.binds {x qual : Str} {st : Stmt} {f : Addr} {fd : FuncData} {ps : List Str} (F : Fun K x qual st f fd)
    (h : ∀ (kV doc pm : Value) (an : Option Addr) (cdv ct : Value) (us : List Value), us.length = ps.length -> bindArgs (PySem.W.fnOf x qual (defArgs st) (defBody st) (defScope st) .none kV doc pm an cdv ct) ⟨us, []⟩ = pure (ps.zip us)) : Binds K fd ps [] := by
  obtain ⟨oc, od, kV, doc, pm, an, cdv, ct, osl, rfl, lk, hcd⟩ := F.ex
  exact .all (h kV doc pm an cdv ct)
theorem z1a {x qual : Str} {st : Stmt} {f : Addr} {oc : Value} {od an : Option Addr} {osl : Array (Option Value)} {kV doc pm cdv ct : Value} (l : K.lookup f = some ⟨oc, od, .func (PySem.W.fnOf x qual (defArgs st) (defBody st) (defScope st) .none kV doc pm an cdv ct), osl⟩)
    (c : PySem.W.codeIn K cdv qual = true) (k : PySem.W.keepIn K (.ref f) = true) : Fun K x qual st f (PySem.W.fnOf x qual (defArgs st) (defBody st) (defScope st) .none kV doc pm an cdv ct) := ⟨⟨oc, od, kV, doc, pm, an, cdv, ct, osl, rfl, l, c⟩, k⟩
end
theorem z1b {n : Nat} (h : n ≤ 1000) : n < sizeLine := Nat.lt_of_le_of_lt h (by decide)
section
variable {X : Cx}
theorem pv (i : Nat) {x : Str} {pos : Pos} (hN : X.N[i]? = some x := by rfl) (hv : Vis X.env.scope x := by first | exact Or.inl rfl | exact Or.inr (Or.inl rfl) | exact Or.inr (Or.inr rfl)) (hd : (x == ("__debug__" : Str)) = false := by decide)
    (hcd : (x == ("__classdict__" : Str)) = false := by decide) : PE X (.Name x pos) (tVar i) := pe_var hN hv hd hcd
end
def Same (H H' : Hp) : Prop := ∀ b o, H b = some o -> H' b = some o
theorem Same.refl (H : Hp) : Same H H := fun _ _ h => h
theorem Same.trans {H H1 H2 : Hp} (a : Same H H1) (b : Same H1 H2) : Same H H2 := fun c o h => b c o (a c o h)
theorem Same.free {H H' : Hp} (e : Same H H') {l : Addr} (h : H' l = Option.none) : H l = Option.none := by
  cases q : H l with
  | none => rfl
  | some o =>
    rw [e l o q] at h
    cases h
theorem Same.seq {K : PySem.W.Frag} {H H' : Hp} {a : Addr} {xs : List V} (e : Same H H') (h : SqL K H a xs) : SqL K H' a xs := by
  rcases h with (h | ⟨o, h⟩) | h
  · exact .inl (.inl (e _ _ h))
  · exact .inl (.inr ⟨o, e _ _ h⟩)
  · exact .inr h
end L2
set_option maxHeartbeats 4000000
namespace L2
open PySem PySem.Spec PyProof.Rows
section
variable {prog : Program} {w : World} {A : Around} {R : Result -> Shared -> Prop} {s : Shared}
theorem compLoop_any {elt target iter : Expr} {scope : Scope} {pos : Pos} {it acc : Value} {env : Env} (I : Nat -> Shared -> Prop)
    (turn : ∀ n s, I n s -> wpAny (model prog w) A (pyNext it) (fun r s₁ => match r with
      | none => R (.ok .next) s₁
      | some v => wpAny (model prog w) A (letOwnedTupleGo target it v) (fun _ s₀ => wpAny (model prog w) A (assign target env v) (fun _ s₂ => wpAny (model prog w) A (eval elt env) (fun x s₃ =>
          wpAny (model prog w) A (call (.builtin "list.append") [acc, x]) (fun _ s₄ => ∃ m, m < n /\ I m s₄) (fun _ _ => False) s₃)
          (fun _ _ => False) s₂) (fun _ _ => False) s₀) (fun _ _ => False) s₁) (fun _ _ => False) s)
    (n : Nat) (h : I n s) :
    codeAny (model prog w) A (.compLoop (.ListComp elt [⟨target, iter, [], 0⟩] scope pos) 0 it acc env) R s := by
  refine codeAny_loop rfl I (fun n s hI => ?_) n h
  show wpAny _ _ ((compTurn (.ListComp elt [⟨target, iter, [], 0⟩] scope pos) 0 it acc env).onRaise (fun x => do noteFrame x env; theTreesLotGoes x)) _ _ s
  refine wpAny_noted ?_
  rw [compTurn_list1]
  refine wpAny_bind (wpAny_standAt (wpAny_bind (wpAny_mono (turn n s hI) (fun r s₁ h₁ => ?_) fun _ _ h' => h'.elim)))
  cases r with
  | none => exact wpAny_pure h₁
  | some v =>
    refine wpAny_bind (wpAny_mono h₁ (fun _ s₀ h₀ => ?_) fun _ _ h' => h'.elim)
    exact wpAny_bind (wpAny_mono h₀ (fun _ s₂ h₂ => wpAny_bind (wpAny_bind (wpAny_mono h₂ (fun x s₃ h₃ => wpAny_bind (wpAny_mono h₃
      (fun _ s₄ h₄ => wpAny_pure (wpAny_pure ⟨rfl, h₄⟩)) fun _ _ h' => h'.elim)) fun _ _ h' => h'.elim))) fun _ _ h' => h'.elim)
end
def cxComp (X : Cx) (N : List Str) (scope : Scope) (cl : List (Str × Addr)) (C : Addr) (ex : List Addr) (s : Shared) (H : Hp) : Cx where
  prog := X.prog
  w := X.w
  K := X.K
  mg := X.mg
  base := X.base
  A := X.A
  N := N
  s₀ := s
  H₀ := H
  env := compEnvC scope cl C X.env
  outer := X.stack
  stack := X.stack
  ex := ex
  fn := fun _ => false
  calm := X.calm
  pn := X.pn
  xe := fun _ _ => False
def compSt (k : Nat) (js : List Nat) (σ : St) : St := List.replicate k none ++ js.map fun j => (σ[j]?).join
def tComp (wi : TI) (k : Nat) (js : List Nat) (g : TG) (te : TE) : TE := fun σ H Q => wi σ H fun J H1 =>
  ∃ W : Nat -> Nat -> List V -> St -> Hp -> Prop, (∃ m, W 0 m [] (compSt k js σ) H1) /\ ∀ i m ys σ' H', W i m ys σ' H' ->
    (J.stop i H' /\ ∀ p, H' p = none -> Q (.ref p) (upd H' p (.lst ys))) \/
    (J.go i H' /\ ys.length < sizeLine /\ ∃ N : List V -> St -> Hp -> Prop, (∀ zs σ2 H2, N zs σ2 H2 -> ∃ m', m' < m /\ W (i + 1) m' zs σ2 H2) /\
      ∀ x H2, J.yld i H' x H2 -> g x σ' H2 fun σ3 H3 => te σ3 H3 fun v H4 => N (ys ++ [v]) σ3 H4)
structure Cap (X : Cx) (scope : Scope) (cl : List (Str × Addr)) (x : Str) (j : Nat) : Prop where
  at_ : X.N[j]? = some x
  out : X.env.scope.names.lookup x = some .cell \/ X.env.scope.names.lookup x = some .free
  inn : (relabel scope X.env).names.lookup x = some .cell \/ (relabel scope X.env).names.lookup x = some .free
theorem join_some {σ : St} {j : Nat} {v : V} (h : (σ[j]?).join = some v) : σ[j]? = some (some v) := by
  cases e : σ[j]? with
  | none => rw [e] at h; cases h
  | some o =>
    rw [e] at h
    cases o with
    | none => cases h
    | some u => cases h; rfl
theorem comp_core {X : Cx} {elt tg iter : Expr} {scope : Scope} {cl : List (Str × Addr)} {pos : Pos} {own fv : List Str} {js : List Nat} {wi : TI} {g : TG} {te : TE}
    (hc : X.calm = true) (hi : PI X tg iter wi) (hclos : closureFor scope X.env = pure cl) (hcell : ∀ y ∈ scope.names, y.2 ≠ .cell) (hkind : scope.kind = .function)
    (hnames : ∀ y ∈ scope.names, y.2 = .local -> scope.names.lookup y.1 = some .local)
    (hcl : ∀ x c, cl.lookup x = some c -> X.env.cells.lookup x = some c)
    (hhas : ∀ x, ((relabel scope X.env).names.lookup x = some .cell \/ (relabel scope X.env).names.lookup x = some .free) -> ∃ c, cl.lookup x = some c)
    (hlen : js.length = fv.length) (hcap : ∀ (i : Nat) x j, fv[i]? = some x -> js[i]? = some j -> Cap X scope cl x j)
    (hg : ∀ (C : Addr) (ex : List Addr) (s : Shared) (H : Hp), PG (cxComp X (own ++ fv) scope cl C ex s H) tg g)
    (he : ∀ (C : Addr) (ex : List Addr) (s : Shared) (H : Hp), PE (cxComp X (own ++ fv) scope cl C ex s H) elt te)
    (hs : ∀ x, foldedSetIterable iter X.env x = pure x)
    {pins : List (Addr × Obj)} {s : Shared} {σ : St} {H : Hp} {Q : VK} {use : Option (Value -> Sem Unit)} {QQ : Value -> Shared -> Prop} {fpos : Pos} (I : Inv X pins σ H s) (h : tComp wi own.length js g te σ H Q)
    (fin : ∀ (a C : Addr) (s5 : Shared) (H5 : Hp) (fl : Flow), Inv X pins σ H5 s5 -> H5 C = none -> C ≠ X.env.locals -> X.s₀.heap.objs.size ≤ C -> (∀ x c, X.env.cells.lookup x = some c -> c ≠ C) -> (∀ p ∈ X.pn ++ pins, p.1 ≠ C) -> (∃ m, s5.heap.Ns C m) -> Q (.ref a) H5 -> compPost (model X.prog X.w) X.A X.xe use QQ (.ref a) C (.ok fl) s5) :
    wpAny (model X.prog X.w) X.A (comprehension (.ListComp elt [⟨tg, iter, [], 0⟩] scope pos) scope X.env fpos (newList []) false (firstIter [⟨tg, iter, [], 0⟩] X.env) use) QQ X.xe s := by
  refine wpAny_comprehension_free (use := use) rfl hs hclos hkind hnames (thn (hi pins s σ H _ I h) fun v s1 h1 => thn h1 fun itv s2 h2 => ?_)
  obtain ⟨it, fp, tn, J, H2, e, I2, T, st2, f2, W, ⟨m0, w0⟩, turn⟩ := h2
  subst e
  refine wpAny_newObj_type (wpAny_newFunctionEnv hcell (by intro y hy; simp at hy) (fun h₁ hns₁ hsb₁ => ?_) hkind)
  dsimp only at hns₁ hsb₁ ⊢
  generalize hHp : s2.heap.push { cls := .type "list", dict := none, data := .seq ([] : List Value).toArray } = hL at hns₁ hsb₁ ⊢
  have hC : hL.objs.size = s2.heap.objs.size + 1 := by rw [← hHp, Heap.size_push]
  have hDC : s2.heap.objs.size ≠ hL.objs.size := by rw [hC]; exact Nat.ne_of_lt (Nat.lt_succ_self _)
  have ltC : ∀ b, b < s2.heap.objs.size -> b ≠ hL.objs.size := fun b hb => by rw [hC]; exact Nat.ne_of_lt (Nat.lt_succ_of_lt hb)
  have old : ∀ b o, s2.heap.get? b = some o -> h₁.get? b = some o := fun b o e => hsb₁.extBut b o (ltC b (Heap.lt_size e)) (Heap.get?_push_of_some _ (hHp ▸ Heap.get?_push_of_some _ e))
  have hacc : h₁.get? s2.heap.objs.size = some { cls := .type "list", data := .seq ([] : List Value).toArray 0 } := hsb₁.extBut _ _ hDC (Heap.get?_push_of_some _ (hHp ▸ Heap.get?_push_size _ rfl))
  have hfresh : ∀ a, s2.heap.objs.size ≤ a -> H2 a = none := fun a ha => I2.hok.fresh ha
  have fpL : ∀ b ∈ fp, b < s2.heap.objs.size := fun b hb => by
    obtain ⟨o, e, _⟩ := T.obj _ _ st2 b hb
    exact Heap.lt_size e
  have cellL : ∀ x c, cl.lookup x = some c -> c < s2.heap.objs.size := fun x c e => by
    obtain ⟨v, q⟩ := I2.cell x c (hcl x c e)
    exact q.lt
  have pinL : ∀ p ∈ X.pn ++ pins, p.1 < s2.heap.objs.size := fun p hp => Heap.lt_size (I2.pin p hp).1
  generalize hX : cxComp X (own ++ fv) scope cl hL.objs.size fp s2 H2 = Y
  have ok : Y.Ok := by
    subst hX
    refine ⟨I2.ok.mod, hkind, I2.ok.glob, I2.ok.blt, by show s2.heap.objs.size ≤ hL.objs.size; omega, fun x y c h1 h2 => I2.ok.inj x y c (hcl x c h1) (hcl y c h2), fun x hx => hhas x hx,
      fun x c hf => absurd hf (by show ¬ (false = true); decide), I2.ok.hd, I2.ok.frames, .inl rfl, fun b hb => ⟨ltC b (fpL b hb), fun x c e => (f2 b hb).2.2.2.2.1 x c (hcl x c e)⟩, I2.bs, Nat.le_trans I2.ok.bsz I2.sz, fun b o e hb => ?_, fun b hb hz => ?_, I2.stack, I2.stkFree⟩
    · rcases (f2 b hb).2.2.2.1 with z | z
      · exact I2.ok.noex b o e z
      · exact absurd (Nat.lt_of_lt_of_le (Heap.lt_size e) (Nat.le_trans I2.ok.bsz z)) (Nat.lt_irrefl _)
    · rcases List.mem_cons.mp (I2.stkSub b hz) with z | z
      · exact (f2 b hb).2.1 z
      · exact (f2 b hb).2.2.1 z
  have hYl : Y.env.locals = hL.objs.size := by subst hX; rfl
  have hYs : Y.s₀ = s2 := by subst hX; rfl
  have hYH : Y.H₀ = H2 := by subst hX; rfl
  have hYx : Y.ex = fp := by subst hX; rfl
  have hYf : Y.fs = frs X.stack := by subst hX; rfl
  have hYc : Y.env.cells = cl := by subst hX; rfl
  have hYp : Y.pn = X.pn := by subst hX; rfl
  have pinOk : ∀ p ∈ X.pn ++ pins, s2.heap.get? p.1 = some p.2 /\ H2 p.1 = none /\ p.1 ≠ hL.objs.size /\ p.1 ∉ frs X.stack /\ ∀ v, p.2.data ≠ .cell v := fun p hp => by
    obtain ⟨e, n, ne, nf, d⟩ := I2.pin p hp
    refine ⟨e, n, ltC _ (Heap.lt_size e), fun z => ?_, d⟩
    rcases List.mem_cons.mp (I2.stkSub _ z) with q | q
    · exact ne q
    · exact nf q
  have stkL : ∀ b ∈ frs X.stack, b < s2.heap.objs.size := fun b hb => by
    obtain ⟨_, o, ho, _⟩ := I2.stack.mem hb
    exact Heap.lt_size ho
  have I3 : Inv Y (pins ++ [(s2.heap.objs.size, { cls := .type "list", data := .seq ([] : List Value).toArray 0 })]) (compSt own.length js σ) H2 { s2 with heap := h₁, toks := s2.toks + ([] : List (Str × Value)).length } := by
    refine ⟨ok, by subst hX; rfl, I2.bare, by rw [hYH, hYs]; exact Un.kept old, ⟨_, by rw [hYl]; exact hns₁, fun i x v e1 e2 e3 => ?_⟩, fun x c e => ?_, by rw [hYl]; exact hfresh _ (by omega), fun x c e => ?_, fun p hp => ?_, by subst hX; exact I2.hok.kept old, ?_⟩
    · subst hX
      have e1 : (own ++ fv)[i]? = some x := e1
      unfold compSt at e2
      by_cases hi : i < own.length
      · rw [List.getElem?_append_left (by simpa using hi), List.getElem?_replicate] at e2
        split at e2 <;> cases e2
      · rw [List.getElem?_append_right (by simpa using hi), List.length_replicate, List.getElem?_map] at e2
        rw [List.getElem?_append_right (by omega)] at e1
        cases ej : js[i - own.length]? with
        | none => rw [ej] at e2; cases e2
        | some j =>
          rw [ej] at e2
          have cp := hcap _ x j e1 ej
          have e2' : σ[j]? = some (some v) := join_some (Option.some.inj e2)
          obtain ⟨m, hn, hl⟩ := I2.loc
          obtain ⟨u, r, l⟩ := hl j x v cp.at_ e2' (cp.out.elim (fun z => .inr (.inl z)) fun z => .inr (.inr z))
          refine ⟨u, r, .inr ⟨cp.inn, ?_⟩⟩
          obtain ⟨c, ec⟩ := hhas x cp.inn
          rcases l with ⟨k, _⟩ | ⟨_, c', ec', z⟩
          · have k : X.env.scope.names.lookup x = some .local := k
            rcases cp.out with q | q <;> rw [q] at k <;> cases k
          · rw [hcl x c ec] at ec'
            cases ec'
            obtain ⟨o, ho, hd⟩ := z
            exact ⟨c, ec, o, old _ _ ho, hd⟩
    · rw [hYc] at e
      obtain ⟨v, o, ho, hd⟩ := I2.cell x c (hcl x c e)
      exact ⟨v, o, old _ _ ho, hd⟩
    · rw [hYc] at e
      exact I2.freeC x c (hcl x c e)
    · rw [hYp] at hp
      rw [hYl, hYf]
      rcases List.mem_append.mp hp with z | z
      · obtain ⟨a, b, c, d, f⟩ := pinOk p (List.mem_append_left _ z)
        exact ⟨old _ _ a, b, c, d, f⟩
      · rcases List.mem_append.mp z with z | z
        · obtain ⟨a, b, c, d, f⟩ := pinOk p (List.mem_append_right _ z)
          exact ⟨old _ _ a, b, c, d, f⟩
        · have e : p = _ := List.mem_singleton.mp z
          subst e
          exact ⟨hacc, hfresh _ (Nat.le_refl _), hDC, fun z => absurd (stkL _ z) (Nat.lt_irrefl _), fun v z => by cases z⟩
    · subst hX
      unfold compSt
      show _ = (own ++ fv).length
      simp [hlen]
  have hYprog : Y.prog = X.prog := by subst hX; rfl
  have hYw : Y.w = X.w := by subst hX; rfl
  have hYK : Y.K = X.K := by subst hX; rfl
  have hYA : Y.A = X.A := by subst hX; rfl
  have hYcalm : Y.calm = true := by subst hX; exact hc
  have hYxe : Y.xe = fun _ _ => False := by subst hX; rfl
  have hYenv : Y.env = compEnvC scope cl hL.objs.size X.env := by subst hX; rfl
  have hg' := hg hL.objs.size fp s2 H2
  have he' := he hL.objs.size fp s2 H2
  rw [hX] at hg' he'
  have fpOk : ∀ {H' : Hp} {pn : List (Addr × Obj)}, (∀ b ∈ fp, H' b = none) -> (∀ p ∈ pn, p.1 = s2.heap.objs.size \/ p ∈ pins) -> ∀ b ∈ fp, FpOk Y pn H' b := fun hn hp b hb => by
    refine ⟨hn b hb, by rw [hYl]; exact ltC b (fpL b hb), ?_, .inl (by rw [hYx]; exact hb), fun x c e => ?_, fun p hq => ?_⟩
    · rw [hYf]
      intro hz
      rcases List.mem_cons.mp (I2.stkSub b hz) with z | z
      · exact (f2 b hb).2.1 z
      · exact (f2 b hb).2.2.1 z
    · rw [hYc] at e
      exact (f2 b hb).2.2.2.2.1 x c (hcl x c e)
    · rw [hYp] at hq
      rcases List.mem_append.mp hq with z | z
      · exact (f2 b hb).2.2.2.2.2 p (List.mem_append_left _ z)
      · rcases hp p z with q | q
        · rw [q]; exact Ne.symm (Nat.ne_of_lt (fpL b hb))
        · exact (f2 b hb).2.2.2.2.2 p (List.mem_append_right _ q)
  have loop : ∀ s₃ : Shared, s₃ = { s2 with heap := h₁, toks := s2.toks + ([] : List (Str × Value)).length } ->
      codeAny (model X.prog X.w) X.A (.compLoop (.ListComp elt [⟨tg, iter, [], 0⟩] scope pos) 0 (.ref it) (.ref s2.heap.objs.size) (compEnvC scope cl hL.objs.size X.env))
        (compPost (model X.prog X.w) X.A X.xe use QQ (.ref s2.heap.objs.size) hL.objs.size) s₃ := by
    rintro s₃ rfl
    refine compLoop_any (fun n s' => ∃ i ys its k σ' H', Inv Y (pins ++ [(s2.heap.objs.size, { cls := .type "list", data := .seq (its : List Value).toArray k })]) σ' H' s' /\ tn i s'.heap /\ (∀ b ∈ fp, H' b = none) /\ Vals ys its /\ ys.length ≤ sizeLine /\ W i n ys σ' H') ?_ m0
      ⟨0, [], [], 0, _, H2, I3, T.keep _ _ _ st2 fun b _ o e => old b o e, fun b hb => (f2 b hb).1, .nil, Nat.zero_le _, w0⟩
    rintro n s4 ⟨i, ys, its, k, σ4, H4, I4, st4, fr4, rv, hz, w4⟩
    have pinD : ∀ p ∈ (pins ++ [(s2.heap.objs.size, ({ cls := .type "list", data := .seq (its : List Value).toArray k } : Obj))]), p.1 = s2.heap.objs.size \/ p ∈ pins := fun p hp => by
      rcases List.mem_append.mp hp with z | z
      · exact .inr z
      · rw [List.mem_singleton.mp z]; exact .inl rfl
    have F4 := fpOk (pn := pins ++ [(s2.heap.objs.size, { cls := .type "list", data := .seq (its : List Value).toArray k })]) fr4 pinD
    rcases turn i n ys σ4 H4 w4 with ⟨stop, qn⟩ | ⟨go, hlt, N, hN, step⟩
    · have d := T.done Y hYprog hYw hYK hYcalm i _ s4 σ4 H4 (fun _ _ => False) I4 F4 st4 stop
      rw [hYA] at d
      refine thn d fun r s5 ⟨hr, I5⟩ => ?_
      subst hr
      obtain ⟨m, hn, _⟩ := id I5.loc
      rw [hYl] at hn
      have hD := I5.pin (s2.heap.objs.size, { cls := .type "list", data := .seq (its : List Value).toArray k }) (List.mem_append_right _ (List.mem_append_right _ (List.mem_singleton.mpr rfl)))
      have hDn : H4 s2.heap.objs.size = none := hD.2.1
      have kp : ∀ b o, b ≠ hL.objs.size -> s5.heap.get? b = some o -> s5.heap.get? b = some o := fun b o _ e => e
      have B := I5.base
      rw [hYH, hYs, hYx, hYf] at B
      have s2C : ∀ b o, s2.heap.get? b = some o -> b ≠ hL.objs.size := fun b o e => ltC b (Heap.lt_size e)
      have trk : ∀ b u, H4 b = some u -> b ≠ s2.heap.objs.size := fun b u e z => by rw [z, hDn] at e; cases e
      have trC : ∀ b u, H4 b = some u -> b ≠ hL.objs.size := fun b u e z => by
        have := I5.free
        rw [hYl, ← z, e] at this; cases this
      have hH2 : ∀ b u, H2 b = some u -> b ≠ s2.heap.objs.size := fun b u e z => by rw [z, hfresh _ (Nat.le_refl _)] at e; cases e
      have IX : Inv X pins σ (upd H4 s2.heap.objs.size (.lst ys)) s5 := by
       refine I2.call' (ch := fp) (by show s5.os = s2.os; rw [I5.os, hYs]) ⟨fun b o e n hb hx => kp b o (s2C b o e) (B.keep b o e n hb hx), fun b o e n hb hx => ?_, fun b o e n hx => ?_, fun b o e hx => ?_, fun b xs e => ?_, fun b o u e => ?_, fun b ps e => ?_⟩ ?_ I5.bare (fun b hb => ⟨(f2 b hb).2.2.2.1, (f2 b hb).2.1, (f2 b hb).2.2.2.2.1, (f2 b hb).2.2.2.2.2⟩)
       · obtain ⟨sl, q⟩ := B.slot b o e n hb hx
         exact ⟨sl, kp b _ (s2C b o e) q⟩
       · rw [z1c (Nat.ne_of_lt (Heap.lt_size e))]
         exact B.free b o e n hx
       · obtain ⟨o', q⟩ := B.there b o e hx
         exact ⟨o', kp b o' (s2C b o e) q⟩
       · rw [z1c (hH2 b _ e)]
         exact B.tups b xs e
       · rw [z1c (hH2 b _ e)]
         exact B.frzs b o u e
       · obtain ⟨more, q⟩ := B.tbls b ps e
         exact ⟨more, by rw [z1c (hH2 b _ e)]; exact q⟩
       · intro b u e
         by_cases hb : b = s2.heap.objs.size
         · subst hb
           rw [z0g] at e
           cases e
           exact ⟨hz, its, k, rv, kp _ _ hDC hD.1⟩
         · rw [z1c hb] at e
           have okb := I5.hok b u e
           rw [hYprog, hYw] at okb
           refine okb.stay (fun c v hc q => kp c v ?_ q) (fun c q => by rw [z1c (trk c _ q)]; exact q) fun c xs q => by rw [z1c (trk c _ q)]; exact q
           rcases hc with z | z
           · rw [z]; exact trC b u e
           · exact trC c _ z
      have zC : upd H4 s2.heap.objs.size (.lst ys) hL.objs.size = none := by
        rw [z1c (Ne.symm hDC)]
        have := I5.free
        rwa [hYl] at this
      exact fin s2.heap.objs.size hL.objs.size s5 _ _ IX zC (Ne.symm (ltC _ I2.lt)) (by have := I2.sz; omega) (fun x c e => ltC c (by obtain ⟨v, q⟩ := I2.cell x c e; exact q.lt)) (fun p hp => ltC _ (pinL p hp)) ⟨m, hn⟩ (qn _ hDn)
    · have d := T.item Y hYprog hYw hYK hYcalm i _ s4 σ4 H4 (fun _ _ => False) I4 F4 st4 go
      rw [hYA] at d
      refine thn d fun r s5 ⟨u, hr, h5⟩ => ?_
      subst hr
      refine thn h5 fun _ s6 ⟨x, H6, I6, r6, y6, st6, fr6⟩ => ?_
      have I6' := I6.pinned (fpOk (pn := pins ++ [(s2.heap.objs.size, { cls := .type "list", data := .seq (its : List Value).toArray k })]) fr6 pinD) (T.obj _ _ st6)
      have d7 := hg' _ s6 σ4 H6 x u _ I6' r6 (step x H6 y6)
      rw [hYprog, hYw, hYA, hYxe, hYenv] at d7
      refine thn d7 fun _ s7 ⟨σ7, H7, I7, q7⟩ => ?_
      have d8 := he' _ s7 σ7 H7 _ I7 q7
      rw [hYprog, hYw, hYA, hYxe, hYenv] at d8
      refine thn d8 fun u8 s8 ⟨v8, H8, I8, r8, n8⟩ => ?_
      obtain ⟨m', hm, w8⟩ := hN _ _ _ n8
      have pD := I8.pin (s2.heap.objs.size, { cls := .type "list", data := .seq (its : List Value).toArray k }) (List.mem_append_right _ (List.mem_append_left _ (List.mem_append_right _ (List.mem_singleton.mpr rfl))))
      have tn8 : tn (i + 1) s8.heap := T.keep _ _ _ st6 fun b hb o e => (I8.pin (b, o) (List.mem_append_right _ (List.mem_append_right _ (z1q hb e)))).1
      have fr8 : ∀ b ∈ fp, H8 b = none := fun b hb => by
        obtain ⟨o, e, d⟩ := T.obj _ _ st6 b hb
        exact (I8.pin (b, o) (List.mem_append_right _ (List.mem_append_right _ (z1q hb e)))).2.1
      have J8 : Inv Y pins σ7 H8 s8 := I8.unpinned.unpinned
      have eD : s8.heap.get? s2.heap.objs.size = some { cls := .type "list", data := .seq its.toArray k } := pD.1
      refine call_meets F.slot_list_append ⟨_, eD, rfl⟩ F.entry_list_append (F.args_list_append_2 _ _) (PySem.list_append _ its.toArray k u8 (by rw [List.size_toArray, ← rv.length]; omega)) ⟨eD, ?_⟩
      have other : ∀ b o, b ≠ s2.heap.objs.size -> s8.heap.get? b = some o -> (s8.heap.update s2.heap.objs.size (Obj.mapSeq fun xs => xs.push u8)).get? b = some o := fun b o nb e => (Heap.get?_update_other s8.heap _ (Ne.symm nb)).trans e
      have J9 := J8.turned (t' := s8.toks) (it := s2.heap.objs.size) (h' := s8.heap.update s2.heap.objs.size (Obj.mapSeq fun xs => xs.push u8)) other pD.2.1 (by rw [hYl]; exact hDC) (.inr (by rw [hYs]; exact Nat.le_refl _))
        (fun x c e => by rw [hYc] at e; exact Nat.ne_of_lt (cellL x c e)) (fun p hp => by rw [hYp] at hp; exact Nat.ne_of_lt (pinL p hp))
      have ep : (its.toArray.push u8) = (its ++ [u8]).toArray := by simp
      obtain ⟨kk, upD⟩ : ∃ kk, (s8.heap.update s2.heap.objs.size (Obj.mapSeq fun xs => xs.push u8)).get? s2.heap.objs.size = some { cls := .type "list", data := .seq (its ++ [u8]).toArray kk } := by
        have z := PySem.IsL.update eD (fun xs => xs.push u8)
        rw [ep] at z
        exact ⟨_, z⟩
      refine ⟨m', hm, i + 1, ys ++ [v8], its ++ [u8], kk, σ7, H8, J9.pins_of fun p hp => ?_, T.keep _ _ _ tn8 fun b hb o e => other b o (Nat.ne_of_lt (fpL b hb)) e, fr8, rv.append (.cons r8 .nil), ?_, w8⟩
      · rcases List.mem_append.mp hp with z | z
        · exact J9.pin p (List.mem_append_right _ z)
        · rw [List.mem_singleton.mp z]
          exact ⟨upD, pD.2.1, by rw [hYl]; exact hDC, by rw [hYf]; exact fun z => absurd (stkL _ z) (Nat.lt_irrefl _), fun v z => by cases z⟩
      · rw [List.length_append, List.length_singleton]; omega
  exact codeAny_compStart_list (loop _ rfl) (T.self _ 0 _ _ _ (T.keep _ _ _ st2 fun b _ o e => old b o e) (loop _ rfl))
theorem z3d {X : Cx} {elt tg iter : Expr} {scope : Scope} {cl : List (Str × Addr)} {pos : Pos} {own fv : List Str} {js : List Nat} {wi : TI} {g : TG} {te : TE}
    (hc : X.calm = true) (hi : PI X tg iter wi) (hclos : closureFor scope X.env = pure cl) (hcell : ∀ y ∈ scope.names, y.2 ≠ .cell) (hkind : scope.kind = .function)
    (hnames : ∀ y ∈ scope.names, y.2 = .local -> scope.names.lookup y.1 = some .local)
    (hcl : ∀ x c, cl.lookup x = some c -> X.env.cells.lookup x = some c)
    (hhas : ∀ x, ((relabel scope X.env).names.lookup x = some .cell \/ (relabel scope X.env).names.lookup x = some .free) -> ∃ c, cl.lookup x = some c)
    (hlen : js.length = fv.length) (hcap : ∀ (i : Nat) x j, fv[i]? = some x -> js[i]? = some j -> Cap X scope cl x j)
    (hg : ∀ (C : Addr) (ex : List Addr) (s : Shared) (H : Hp), PG (cxComp X (own ++ fv) scope cl C ex s H) tg g)
    (he : ∀ (C : Addr) (ex : List Addr) (s : Shared) (H : Hp), PE (cxComp X (own ++ fv) scope cl C ex s H) elt te)
    (hs : ∀ x, foldedSetIterable iter X.env x = pure x := by intro _; rfl) :
    PE X (.ListComp elt [⟨tg, iter, [], 0⟩] scope pos) (tComp wi own.length js g te) := by
  intro pins s σ H Q I h
  rw [eval_ListComp]
  refine comp_core (use := none) (QQ := EP X pins σ Q) hc hi hclos hcell hkind hnames hcl hhas hlen hcap hg he hs I h fun a C s5 H5 fl I5 zC zL zS zc zp ⟨m, hn⟩ q => ⟨m, hn, fun h' sc => ?_⟩
  exact ⟨.ref a, H5, I5.turned (t' := s5.toks) (it := C) (fun d o nd e => sc.extBut d o nd e) zC zL (.inr zS) zc zp, rfl, q⟩
theorem comp_list {K : PySem.W.Frag} {a : Addr} {xs : List V} {g : TG} {te : TE} {Q : VK} {σ : St} {H : Hp} (Pv : Nat -> List V -> St -> Hp -> Prop) (h0 : Pv 0 [] σ H) (hl : ∀ i ys σ H, i ≤ xs.length -> Pv i ys σ H -> SqL K H a xs)
    (hs : ∀ i x ys σ H, xs[i]? = some x -> Pv i ys σ H -> ys.length < sizeLine /\ g x σ H fun σ3 H3 => te σ3 H3 fun v H4 => Pv (i + 1) (ys ++ [v]) σ3 H4) (hd : ∀ ys σ H, Pv xs.length ys σ H -> ∀ p, H p = none -> Q (.ref p) (upd H p (.lst ys))) :
    ∃ W : Nat -> Nat -> List V -> St -> Hp -> Prop, (∃ m, W 0 m [] σ H) /\ ∀ i m ys σ' H', W i m ys σ' H' ->
      ((Itl K a).stop i H' /\ ∀ p, H' p = none -> Q (.ref p) (upd H' p (.lst ys))) \/
      ((Itl K a).go i H' /\ ys.length < sizeLine /\ ∃ N : List V -> St -> Hp -> Prop, (∀ zs σ2 H2, N zs σ2 H2 -> ∃ m', m' < m /\ W (i + 1) m' zs σ2 H2) /\
        ∀ x H2, (Itl K a).yld i H' x H2 -> g x σ' H2 fun σ3 H3 => te σ3 H3 fun v H4 => N (ys ++ [v]) σ3 H4) := by
  refine ⟨fun i m ys σ H => m = xs.length - i /\ i ≤ xs.length /\ Pv i ys σ H, ⟨xs.length, by simp, Nat.zero_le _, h0⟩, ?_⟩
  rintro i m ys σ H ⟨rfl, hi, p⟩
  have q := hl i ys σ H hi p
  by_cases hlt : i < xs.length
  · have e : xs[i]? = some xs[i] := by simp [hlt]
    refine .inr ⟨⟨xs, xs[i], q, e⟩, (hs i _ ys σ H e p).1, Pv (i + 1), fun zs σ' H' p' => ⟨xs.length - (i + 1), by omega, rfl, hlt, p'⟩, fun x H' y => ?_⟩
    obtain ⟨e, y⟩ := y
    subst e
    exact (hs i x ys σ _ (y xs q) p).2
  · have e : i = xs.length := by omega
    subst e
    exact .inl ⟨⟨xs, q, Nat.le_refl _⟩, hd ys σ H p⟩
theorem comp_tup {K : PySem.W.Frag} {a : Addr} {xs : List V} {g : TG} {te : TE} {Q : VK} {σ : St} {H : Hp} (Pv : Nat -> List V -> St -> Hp -> Prop) (h0 : Pv 0 [] σ H) (hl : ∀ i ys σ H, i ≤ xs.length -> Pv i ys σ H -> SqT K H a xs)
    (hs : ∀ i x ys σ H, xs[i]? = some x -> Pv i ys σ H -> ys.length < sizeLine /\ g x σ H fun σ3 H3 => te σ3 H3 fun v H4 => Pv (i + 1) (ys ++ [v]) σ3 H4) (hd : ∀ ys σ H, Pv xs.length ys σ H -> ∀ p, H p = none -> Q (.ref p) (upd H p (.lst ys))) :
    ∃ W : Nat -> Nat -> List V -> St -> Hp -> Prop, (∃ m, W 0 m [] σ H) /\ ∀ i m ys σ' H', W i m ys σ' H' ->
      ((Itt K a).stop i H' /\ ∀ p, H' p = none -> Q (.ref p) (upd H' p (.lst ys))) \/
      ((Itt K a).go i H' /\ ys.length < sizeLine /\ ∃ N : List V -> St -> Hp -> Prop, (∀ zs σ2 H2, N zs σ2 H2 -> ∃ m', m' < m /\ W (i + 1) m' zs σ2 H2) /\
        ∀ x H2, (Itt K a).yld i H' x H2 -> g x σ' H2 fun σ3 H3 => te σ3 H3 fun v H4 => N (ys ++ [v]) σ3 H4) := by
  refine ⟨fun i m ys σ H => m = xs.length - i /\ i ≤ xs.length /\ Pv i ys σ H, ⟨xs.length, by simp, Nat.zero_le _, h0⟩, ?_⟩
  rintro i m ys σ H ⟨rfl, hi, p⟩
  have q := hl i ys σ H hi p
  by_cases hlt : i < xs.length
  · have e : xs[i]? = some xs[i] := by simp [hlt]
    refine .inr ⟨⟨xs, xs[i], q, e⟩, (hs i _ ys σ H e p).1, Pv (i + 1), fun zs σ' H' p' => ⟨xs.length - (i + 1), by omega, rfl, hlt, p'⟩, fun x H' y => ?_⟩
    obtain ⟨e, y⟩ := y
    subst e
    exact (hs i x ys σ _ (y xs q) p).2
  · have e : i = xs.length := by omega
    subst e
    exact .inl ⟨⟨xs, q, Nat.le_refl _⟩, hd ys σ H p⟩
theorem comp_range {lo : Int} {n : Nat} {g : TG} {te : TE} {Q : VK} {σ : St} {H : Hp} (Pv : Nat -> List V -> St -> Hp -> Prop) (h0 : Pv 0 [] σ H)
    (hs : ∀ i ys σ H, i < n -> Pv i ys σ H -> ys.length < sizeLine /\ g (.int (lo + i)) σ H fun σ3 H3 => te σ3 H3 fun v H4 => Pv (i + 1) (ys ++ [v]) σ3 H4) (hd : ∀ ys σ H, Pv n ys σ H -> ∀ p, H p = none -> Q (.ref p) (upd H p (.lst ys))) :
    ∃ W : Nat -> Nat -> List V -> St -> Hp -> Prop, (∃ m, W 0 m [] σ H) /\ ∀ i m ys σ' H', W i m ys σ' H' ->
      ((Itr lo n).stop i H' /\ ∀ p, H' p = none -> Q (.ref p) (upd H' p (.lst ys))) \/
      ((Itr lo n).go i H' /\ ys.length < sizeLine /\ ∃ N : List V -> St -> Hp -> Prop, (∀ zs σ2 H2, N zs σ2 H2 -> ∃ m', m' < m /\ W (i + 1) m' zs σ2 H2) /\
        ∀ x H2, (Itr lo n).yld i H' x H2 -> g x σ' H2 fun σ3 H3 => te σ3 H3 fun v H4 => N (ys ++ [v]) σ3 H4) := by
  refine ⟨fun i m ys σ H => m = n - i /\ i ≤ n /\ Pv i ys σ H, ⟨n, by simp, Nat.zero_le _, h0⟩, ?_⟩
  rintro i m ys σ H ⟨rfl, hi, p⟩
  by_cases hlt : i < n
  · refine .inr ⟨hlt, (hs i ys σ H hlt p).1, Pv (i + 1), fun zs σ' H' p' => ⟨n - (i + 1), by omega, rfl, hlt, p'⟩, fun x H' y => ?_⟩
    obtain ⟨e, y⟩ := y
    subst e y
    exact (hs i ys σ _ hlt p).2
  · have e : i = n := by omega
    subst e
    exact .inl ⟨Nat.le_refl _, hd ys σ H p⟩
theorem own_cls {K : PySem.W.Frag} {h : Heap} {gm : Str -> Option Value} {nmX : Str} {Cx' : Addr} {bmX : List Value} {nid : String} (KI : K.In h) (GN : h.Ns mainGlobals gm)
    (hn : PySem.W.nsIn K mainGlobals nmX = some (some (.ref Cx'))) (hq : PySem.W.excIn K Cx' bmX nid = true) : OwnCls nmX Cx' bmX nid gm h := by
  constructor
  · exact PySem.W.mg_of KI GN hn
  · unfold PySem.W.excIn at hq
    split at hq
    · rename_i ddx cdx slx hlk
      split at hq
      · rename_i C2 bm2 f0 f1 f2 f3 nn f5 hmro hsl0
        simp only [Bool.and_eq_true, beq_iff_eq, Bool.not_eq_true'] at hq
        obtain ⟨⟨⟨⟨⟨eC, eN⟩, hdl⟩, htl⟩, hnsok⟩, hinit⟩ := hq
        subst eC eN
        obtain ⟨c1, c2, c3, c4, c5, c6, c7, c8, c9, c10, c11⟩ := cdx
        dsimp only at hmro hdl hnsok hinit
        subst hmro hdl
        have hsl1 : slx = #[f0, f1, f2, f3, some (.builtin nn), f5] := by
          obtain ⟨lst⟩ := slx
          simp only at hsl0
          rw [hsl0]
        subst hsl1
        refine ⟨bm2, c4, c1, c5, c2, c6, c7, c8, c9, c10, ddx, f0, f1, f2, f3, f5, h.nsMap c4, KI _ _ hlk, ?_, ?_, ?_⟩
        · exact .of_isNs (PySem.W.isNs_of_in KI hnsok)
        · exact PySem.W.nsMap_none_of_in KI hnsok hinit
        · exact PySem.W.tail_of_in KI htl
      · cases hq
    · cases hq
def CX1 (P : Program) (w : World) : CXT := fun outer H s E e s' =>
  ∃ (a C : Addr) (a0 : Value) (H' : Hp) (B : Heap), e = .ref a /\ s'.os = s.os /\ AllBare s'.gens /\ Heap.FlyingW B outer a (.ref C) a0 s'.heap /\
    (∀ b o, s.heap.get? b = some o -> H b = none -> b ∉ frs outer -> B.get? b = some o) /\ (∀ b o, s.heap.get? b = some o -> b ∉ frs outer -> ∃ o', B.get? b = some o') /\
    Un (frs outer) [] H H' s.heap s'.heap /\ HOk P w H' B /\ E (.ref C) none H'
section
variable {P : Program} {w : World} {K : PySem.W.Frag} {mg : Str -> Option Value} {base : Heap} {N : List Str} {qual : Str} {scope : Scope} {f : Addr} {cd : Value} {A : Around} {outer : List Env} {s : Shared} {H : Hp} {E : XK}
theorem hok_hide {H : Hp} {h : Heap} {l : List Addr} (ok : HOk P w H h) (hl : ∀ b ∈ l, H b = none) : HOk P w H (PySem.W.hideAll h l) := fun b u e => by
  have nb : ∀ c v, H c = some v -> c ∉ l := fun c v q z => by rw [hl c z] at q; cases q
  refine (ok b u e).stay (fun c v hc q => PySem.W.hideAll_get _ q ?_) (fun _ q => q) fun _ _ q => q
  rcases hc with z | z
  · rw [z]; exact nb b u e
  · exact nb c _ z
theorem frs_in {l : List Env} : ∀ env ∈ l, ∀ b, env.frame = some b -> b ∈ frs l := fun env he b hb => List.mem_filterMap.mpr ⟨env, he, hb⟩
theorem z1d : Passes (CX1 P w) (cxOf (CX1 P w) P w K mg base N qual scope f cd A outer s H E) E := by
  intro pins σ H1 s1 e s' I hx
  obtain ⟨a, C, a0, H', B, rfl, os, bare, fl, inB, thB, un, okB, hE⟩ := hx
  have hfr : (cxOf (CX1 P w) P w K mg base N qual scope f cd A outer s H E).A.frames = some (envOfC qual scope s.heap.objs.size f cd :: outer) := I.ok.frames
  refine wpAny_leaves_onW hfr rfl fl fun h'' fl'' up'' => ?_
  have Bs : ∀ b o, B.get? b = some o -> h''.get? b = some o := fl''.1
  have ub : Un (frs outer) [] H H1 s.heap s1.heap := I.base
  have stk : ∀ b, b ∉ frs outer -> b < s.heap.objs.size -> b ∉ frs (envOfC qual scope s.heap.objs.size f cd :: outer) := fun b hb hlt z => by
    rcases List.mem_cons.mp (I.stkSub b z) with q | q
    · have q : b = s.heap.objs.size := q
      exact Nat.lt_irrefl _ (q ▸ hlt)
    · exact hb q
  have inB' : ∀ b o, s.heap.get? b = some o -> H b = none -> b ∉ frs outer -> B.get? b = some o := fun b o e n hb =>
    inB b o (ub.keep b o e n hb (by simp)) (ub.free b o e n (by simp)) (stk b hb (Heap.lt_size e))
  have thB' : ∀ b o, s.heap.get? b = some o -> b ∉ frs outer -> ∃ o', B.get? b = some o' := fun b o e hb => by
    obtain ⟨o1, e1⟩ := ub.there b o e (by simp)
    exact thB b o1 e1 (stk b hb (Heap.lt_size e))
  have sub : ∀ b, b ∈ frs outer -> b ∈ frs (envOfC qual scope s.heap.objs.size f cd :: outer) := fun b hb => List.mem_cons_of_mem _ hb
  have slot : ∀ b o, s.heap.get? b = some o -> H b = none -> b ∈ frs outer -> ∃ sl, h''.get? b = some { o with slots := sl } := fun b o e n hb => by
    obtain ⟨sl1, e1⟩ := ub.slot b o e n hb (by simp)
    obtain ⟨sl2, e2⟩ := un.slot b _ e1 (ub.free b o e n (by simp)) (sub b hb) (by simp)
    obtain ⟨_, o3, e3, nf⟩ := I.ok.funs.mem hb
    have e3 : s.heap.get? b = some o3 := e3
    rw [e] at e3; cases e3
    obtain ⟨sl3, e4⟩ := up'' b _ e2 nf
    exact ⟨sl3, e4⟩
  have frf : ∀ b ∈ frs outer, H b = none := I.ok.frf
  refine ⟨a, C, a0, H', B, rfl, os.trans I.os, bare, fl'', inB', thB', ⟨fun b o e n hb _ => Bs _ _ (inB' b o e n hb), fun b o e n hb _ => slot b o e n hb, fun b o e n _ => ?_, fun b o e _ => ?_,
    fun b xs e => un.tups b xs (ub.tups b xs e), fun b o u e => un.frzs b o u (ub.frzs b o u e), fun b ps e => ?_⟩, okB, hE⟩
  · obtain ⟨o1, e1⟩ := ub.there b o e (by simp)
    exact un.free b o1 e1 (ub.free b o e n (by simp)) (by simp)
  · by_cases hb : b ∈ frs outer
    · obtain ⟨sl, q⟩ := slot b o e (frf b hb) hb
      exact ⟨_, q⟩
    · obtain ⟨o', q⟩ := thB' b o e hb
      exact ⟨o', Bs _ _ q⟩
  · obtain ⟨m1, q1⟩ := ub.tbls b ps e
    obtain ⟨m2, q2⟩ := un.tbls b _ q1
    exact ⟨m1 ++ m2, by rw [q2, Array.append_assoc]⟩
def RaisesTo (X : Cx) (Ex : Value -> Hp -> Prop) : Prop := ∀ (pins : List (Addr × Obj)) (σ : St) (H : Hp) (s : Shared) (h' : Heap) (e C : Addr) (vs : List Value), Inv X pins σ H s -> Heap.MadeExcOf s.heap h' e (.ref C) vs -> Ex (.ref C) H -> X.xe (.ref e) { s with heap := h' }
theorem z1y : RaisesTo (cxOf (CX1 P w) P w K mg base N qual scope f cd A outer s H E) (fun c H' => E c none H') := by
  intro pins σ H1 s1 h' e C vs I hm hE
  have hfr : (cxOf (CX1 P w) P w K mg base N qual scope f cd A outer s H E).A.frames = some (envOfC qual scope s.heap.objs.size f cd :: outer) := I.ok.frames
  have st : s1.heap.FunFrames base (envOfC qual scope s.heap.objs.size f cd :: outer) := I.stack
  refine wpAny_leaves_madeW (base := PySem.W.hideAll s1.heap (frs (envOfC qual scope s.heap.objs.size f cd :: outer))) hfr rfl (fun b o q => PySem.W.of_hideAll _ q) (PySem.W.funFrames_hide st frs_in) hm fun h'' t fl'' tp nt up'' => ?_
  have ub : Un (frs outer) [] H H1 s.heap s1.heap := I.base
  have Bs := fl''.1
  have stk : ∀ b, b ∉ frs outer -> b < s.heap.objs.size -> b ∉ frs (envOfC qual scope s.heap.objs.size f cd :: outer) := fun b hb hlt z => by
    rcases List.mem_cons.mp (I.stkSub b z) with q | q
    · have q : b = s.heap.objs.size := q
      exact Nat.lt_irrefl _ (q ▸ hlt)
    · exact hb q
  have inB' : ∀ b o, s.heap.get? b = some o -> H b = none -> b ∉ frs outer -> (PySem.W.hideAll s1.heap (frs (envOfC qual scope s.heap.objs.size f cd :: outer))).get? b = some o := fun b o e n hb =>
    PySem.W.hideAll_get _ (ub.keep b o e n hb (by simp)) (stk b hb (Heap.lt_size e))
  have thB' : ∀ b o, s.heap.get? b = some o -> b ∉ frs outer -> ∃ o', (PySem.W.hideAll s1.heap (frs (envOfC qual scope s.heap.objs.size f cd :: outer))).get? b = some o' := fun b o e hb => by
    obtain ⟨o1, e1⟩ := ub.there b o e (by simp)
    exact ⟨o1, PySem.W.hideAll_get _ e1 (stk b hb (Heap.lt_size e))⟩
  have slot : ∀ b o, s.heap.get? b = some o -> H b = none -> b ∈ frs outer -> ∃ sl, h''.get? b = some { o with slots := sl } := fun b o e n hb => by
    obtain ⟨sl1, e1⟩ := ub.slot b o e n hb (by simp)
    obtain ⟨_, o3, e3, nf⟩ := I.ok.funs.mem hb
    have e3 : s.heap.get? b = some o3 := e3
    rw [e] at e3; cases e3
    obtain ⟨sl3, e4⟩ := up'' b _ (hm.keeps _ _ e1) nf
    exact ⟨sl3, e4⟩
  have frf : ∀ b ∈ frs outer, H b = none := I.ok.frf
  refine ⟨e, C, .ref t, H1, _, rfl, I.os, I.bare, fl'', inB', thB', ⟨fun b o e n hb _ => Bs _ _ (inB' b o e n hb), fun b o e n hb _ => slot b o e n hb, fun b o e n _ => ub.free b o e n (by simp), fun b o e _ => ?_,
    ub.tups, ub.frzs, ub.tbls⟩, hok_hide I.hok I.stkFree, hE⟩
  by_cases hb : b ∈ frs outer
  · obtain ⟨sl, q⟩ := slot b o e (frf b hb) hb
    exact ⟨_, q⟩
  · obtain ⟨o', q⟩ := thB' b o e hb
    exact ⟨o', Bs _ _ q⟩
end
def tRaise (C : Addr) (Ex : Value -> Hp -> Prop) (t : TA) : TS := fun _ σ H => t σ H fun vs H1 => vs.length ≤ sizeLine /\ Ex (.ref C) H1
theorem z1r {X : Cx} {x : Str} {C : Addr} {B newId initId : String} {bm : List Value} {np cpos pos : Pos} {e₀ : Expr} {es : List Expr} {t : TA} {Ex : Value -> Hp -> Prop}
    (FB : ExcBaseFacts B newId initId bm) (hc : X.calm = true) (hg : Gl X x) (hn : PySem.W.nsIn X.K mainGlobals x = some (some (.ref C))) (hq : PySem.W.excIn X.K C bm newId = true) (hx : RaisesTo X Ex) (ha : PA X (e₀ :: es) t)
    (hs : starEach (e₀ :: es) X.env = (false, eval e₀ X.env) :: starEach es X.env := by rfl) (hpl : (backTo cpos (starEach es X.env)).any (·.1) = false := by rfl) (hd : (x == ("__debug__" : Str)) = false := by decide) :
    PS X (.Raise (some (.Call (.Name x np) (e₀ :: es) [] cpos)) none pos) (tRaise C Ex t) := by
  intro pins s σ H D I h
  have O := own_cls I.ok.mod.kin I.ok.mod.glob hn hq
  obtain ⟨tl, Nn, n1, q1, b1, d1, m1, u1, a1, l1, dd1, j0, j1, j2, j3, j5, mN, hC, hN, hni, T⟩ := O.obj
  refine wpAny_Raise_call_subT (C := C) (nm := n1) (q := q1) (N := Nn) (bs := b1) (bm := tl) (hdct := d1) (sn := m1) (sub := u1) (ab := a1) (col := l1) (dd := dd1) (k0 := j0) (k1 := j1) (k2 := j2) (k3 := j3) (k5 := j5) (mN := mN)
    FB (T.hasType FB.hasBase) (I.ok.hd hc) (by rw [hs]; show (false || (backTo cpos (starEach es X.env)).any (·.1)) = false; rw [hpl]; rfl) hni (ld_glob I hg O.bound ⟨rfl, ?_⟩ hd)
  have hA := ha cpos pins s σ H _ I h
  rw [hs] at hA ⊢
  refine Calls.evalArgs_plain (thn hA fun us s2 ⟨vs, H2, I2, r2, hz, hE⟩ => ⟨rfl, ?_, I2.bk _ _ hC, hN.keeps I2.bk, T.keeps I2.bk, fun h' e hm => hx pins σ H2 s2 h' e C us I2 hm hE⟩)
  show us.length ≤ sizeLine
  rw [← r2.length]
  exact hz
section
variable {P : Program} {w : World} {K : PySem.W.Frag} {mg : Str -> Option Value} {base : Heap}
theorem Fun.okX {x qual : Str} {st : Stmt} {f : Addr} {fd : FuncData} {N ps : List Str} {k : Nat} {sp : Sp} (F : Fun K x qual st f fd) (S : FnScope N ps (defScope st)) (len : ∀ vs H Q E, sp vs H Q E -> vs.length = ps.length)
    (hbody : ∀ (cdv : Value) (A : Around) (outer : List Env) (s : Shared) (H : Hp) (vs : List V) (Q : VK) (E : XK), Room k (A.deeper (envOfC qual (defScope st) s.heap.objs.size f cdv)) -> sp vs H Q E ->
      ∃ t, PSs (cxOf (CX1 P w) P w K mg base N qual (defScope st) f cdv A outer s H E) (defBody st) t /\ t { nx := fun _ H' => Q .non H', rt := Q } (start N vs) H) : FnOk P w K mg base (CX1 P w) (k + 1) f fd ps sp := by
  obtain ⟨oc, od, kV, doc, pm, an, cdv, ct, osl, rfl, lk, hcd⟩ := F.ex
  exact fn_of lk hcd S len fun A outer s H vs Q E hr hsp => hbody cdv A outer s H vs Q E hr hsp
theorem FnOk.up {k : Nat} {f : Addr} {fd : FuncData} {ps : List Str} {sp : Sp} (F : FnOk P w K mg base CX0 k f fd ps sp) : FnOk P w K mg base (CX1 P w) k f fd ps sp :=
  ⟨F.len, fun A outer s H args us vs Q E h1 h2 h3 h4 h5 => codeAny_mono (F.run A outer s H args us vs Q E h1 h2 h3 h4 h5) fun r s' q => by
    cases r with
    | error e => exact False.elim q
    | ok fl => cases fl <;> exact q⟩
end
theorem passNo {P : Program} {w : World} {X : Cx} : Passes (CX1 P w) X E0 := fun _ _ _ _ _ _ _ h => by
  obtain ⟨_, _, _, _, _, _, _, _, _, _, _, _, _, q⟩ := h
  exact q.elim
def ExcO (a C : Addr) : HO := .ext fun h => ∃ o vs, h.get? a = some o /\ o.cls = .ref C /\ o.data = .fields vs
section
variable {X : Cx} {pins : List (Addr × Obj)} {σ : St} {H : Hp} {s : Shared}
end
abbrev Cx.more (X : Cx) (xe : Value -> Shared -> Prop) (pn : List (Addr × Obj)) : Cx := { X with xe := xe, pn := pn }
abbrev Cx.suite (X : Cx) (a : Addr) (pn : List (Addr × Obj)) : Cx := { X with A := X.A.mark (some (.ref a)), calm := false, xe := fun _ _ => False, pn := pn }
theorem Cx.Ok.more {X : Cx} (ok : X.Ok) (xe : Value -> Shared -> Prop) (pn : List (Addr × Obj)) : (X.more xe pn).Ok :=
  ⟨ok.mod, ok.kind, ok.glob, ok.blt, ok.above, ok.inj, ok.has, ok.cab, ok.hd, ok.frames, ok.stk, ok.exf, ok.bs, ok.bsz, ok.noex, ok.exfs, ok.funs, ok.frf⟩
theorem Cx.Ok.suite {X : Cx} (ok : X.Ok) (a : Addr) (pn : List (Addr × Obj)) : (X.suite a pn).Ok :=
  ⟨ok.mod, ok.kind, ok.glob, ok.blt, ok.above, ok.inj, ok.has, ok.cab, fun z => absurd z (by show ¬ (false = true); decide), ok.frames, ok.stk, ok.exf, ok.bs, ok.bsz, ok.noex, ok.exfs, ok.funs, ok.frf⟩
def PassesAt (CX : CXT) (X : Cx) (E : XK) (σ : St) : Prop := ∀ (pins : List (Addr × Obj)) (H : Hp) (s : Shared) (e : Value) (s' : Shared), Inv X pins σ H s -> CX X.stack H s E e s' -> X.xe e s'
section
variable {X : Cx} {CX : CXT} {k : Nat} {f : Addr} {fd : FuncData} {ps : List Str} {sp : Sp} {dvs : List V} {ds : List Value} {EE : St -> XK} {x : Str} {p pos : Pos} {e : Expr} {es : List Expr} {t : TA}
def tCallX (sp : Sp) (dvs : List V) (EE : St -> XK) (t : TA) : TE := fun σ H Q => t σ H fun vs H1 => sp (vs ++ dvs) H1 Q (EE σ)
theorem pe_callX (F : FnOk X.prog X.w X.K X.mg X.base CX k f fd ps sp) (hr : Room k X.A) (hg : Gl X x) (hm : X.mg x = some (.ref f)) (hk : PySem.W.keepIn X.K (.ref f) = true) (hb : Binds X.K fd ps ds) (hd : Vals dvs ds) (hx : ∀ σ, PassesAt CX X (EE σ) σ)
    (ha : PA X (e :: es) t) (hdb : (x == ("__debug__" : Str)) = false := by decide) (he : starEach (e :: es) X.env = (false, eval e X.env) :: starEach es X.env := by rfl) (hpl : (backTo pos (starEach es X.env)).any (·.1) = false := by rfl) :
    PE X (.Call (.Name x p) (e :: es) [] pos) (tCallX sp dvs EE t) := by
  intro pins s σ H Q I h
  refine wpAny_Call_Name_kw (ld_glob I hg hm ?_ hdb)
  refine PySem.W.callWith_K (h₀ := X.base) I.ok.mod.kin hk (thn (ha pos pins s σ H _ I h) fun us s1 ⟨vs, H1, I1, r, q⟩ => ⟨I1.kIn, ?_⟩) he hpl
  have r2 : Vals (vs ++ dvs) (us ++ ds) := r.append hd
  have hl : (us ++ ds).length = ps.length := by rw [← r2.length]; exact F.len _ _ _ _ q
  refine wpAny_call (codeAny_mono (F.run X.A X.stack s1 H1 ⟨us, []⟩ (us ++ ds) (vs ++ dvs) Q (EE σ) hr I1.env0 (hb s1 us I1.kIn hl) r2 q) fun r s' hq => ?_)
  cases r with
  | error e => exact hx σ pins H1 s1 e s' I1 hq
  | ok fl =>
    cases fl with
    | ret u => exact I1.after hq
    | next => exact False.elim hq
    | brk => exact False.elim hq
    | cont => exact False.elim hq
end
def goneEnds (D : Ends) (i : Nat) : Ends := { nx := fun σ H => D.nx (σ.set i none) H, rt := D.rt, bk := fun σ H => D.bk (σ.set i none) H, ct := fun σ H => D.ct (σ.set i none) H }
def caughtBy (C : Addr) (i : Nat) (ts : TS) (D : Ends) : St -> XK := fun σ1 cls _ H1 => cls = .ref C /\ ∀ a, H1 a = none -> ts (goneEnds D i) (σ1.set i (some (.ref a))) (upd H1 a (ExcO a C))
def tTry (C : Addr) (i : Nat) (tb : (St -> XK) -> TS) (ts : TS) : TS := fun D σ H => tb (caughtBy C i ts D) D σ H
structure Callee (P : Program) (w : World) (K : PySem.W.Frag) (mg : Str -> Option Value) (base : Heap) (CX : CXT) (k : Nat) (x : Str) (ps : List Str) (sp : Sp) : Prop where
  has : ∃ (f : Addr) (fd : FuncData), FnOk P w K mg base CX k f fd ps sp /\ mg x = some (.ref f) /\ PySem.W.keepIn K (.ref f) = true /\ Binds K fd ps []
theorem Callee.mk' {P : Program} {w : World} {K : PySem.W.Frag} {mg : Str -> Option Value} {base : Heap} {CX : CXT} {k : Nat} {x qual : Str} {st : Stmt} {f : Addr} {fd : FuncData} {ps : List Str} {sp : Sp} (F : Fun K x qual st f fd) (m : mg x = some (.ref f)) (b : Binds K fd ps [])
    (ok : FnOk P w K mg base CX k f fd ps sp) : Callee P w K mg base CX k x ps sp := ⟨⟨f, fd, ok, m, F.kp, b⟩⟩
theorem Callee.mono {P : Program} {w : World} {K : PySem.W.Frag} {mg : Str -> Option Value} {base : Heap} {CX : CXT} {j k : Nat} {x : Str} {ps : List Str} {sp : Sp} (c : Callee P w K mg base CX j x ps sp) (h : j ≤ k) : Callee P w K mg base CX k x ps sp :=
  let ⟨f, fd, ok, m, kp, b⟩ := c.has; ⟨⟨f, fd, ok.mono h, m, kp, b⟩⟩
section
variable {X : Cx} {CX : CXT} {k : Nat} {ps : List Str} {sp : Sp} {E : XK} {x : Str} {p pos : Pos} {e : Expr} {es : List Expr} {t : TA}
theorem z0r (c : Callee X.prog X.w X.K X.mg X.base CX k x ps sp) (hr : Room k X.A) (hg : Gl X x) (hx : Passes CX X E) (ha : PA X (e :: es) t) (hdb : (x == ("__debug__" : Str)) = false := by decide)
    (he : starEach (e :: es) X.env = (false, eval e X.env) :: starEach es X.env := by rfl) (hpl : (backTo pos (starEach es X.env)).any (·.1) = false := by rfl) : PE X (.Call (.Name x p) (e :: es) [] pos) (tCall sp [] E t) := by
  obtain ⟨f, fd, ok, m, kp, b⟩ := c.has
  exact pe_call ok hr hg m kp b .nil hx ha hdb he hpl
theorem pe_calX {EE : St -> XK} (c : Callee X.prog X.w X.K X.mg X.base CX k x ps sp) (hr : Room k X.A) (hg : Gl X x) (hx : ∀ σ, PassesAt CX X (EE σ) σ) (ha : PA X (e :: es) t) (hdb : (x == ("__debug__" : Str)) = false := by decide)
    (he : starEach (e :: es) X.env = (false, eval e X.env) :: starEach es X.env := by rfl) (hpl : (backTo pos (starEach es X.env)).any (·.1) = false := by rfl) : PE X (.Call (.Name x p) (e :: es) [] pos) (tCallX sp [] EE t) := by
  obtain ⟨f, fd, ok, m, kp, b⟩ := c.has
  exact pe_callX ok hr hg m kp b .nil hx ha hdb he hpl
theorem call_isi : CallR X (.builtin "isinstance") (fun xs H Q => ∃ x n t b, xs = [x, .ty n] /\ TyOf X.K H x t /\ PySem.W.kitOne X.K t (.type n) = some b /\ Q (.bl b) H) := by
  intro pins s σ H xs us Q I r h
  obtain ⟨x, n, t, b, rfl, ty, e, q⟩ := h
  obtain ⟨u, w', rfl, rx, ry⟩ := vals2 r
  cases (show w' = Value.type n from ry)
  exact isinst_ok I rx ty e fun tk => ⟨.bl b, H, I.tok tk, rfl, q⟩
end
theorem relabel_none {scope : Scope} {env : Env} (hfree : ∀ y ∈ scope.names, y.2 ≠ .free) : (relabel scope env).names = scope.names := by
  show scope.names.map _ = scope.names
  have all : ∀ l : List (Str × NameKind), (∀ y ∈ l, y.2 ≠ .free) -> (l.map fun (x : Str × NameKind) => match x with | (n, k) => if (k == .free && env.scope.kind == .function && env.kindOf n == some .cell) then (n, .cell) else (n, k)) = l := by
    intro l
    induction l with
    | nil => intro _; rfl
    | cons y r ih =>
      intro hy
      obtain ⟨n, k⟩ := y
      have hk : (k == NameKind.free) = false := by simpa using hy (n, k) (List.mem_cons_self ..)
      rw [List.map_cons, ih fun z hz => hy z (List.mem_cons_of_mem _ hz)]
      simp [hk]
  exact all _ hfree
theorem pe_comp0 {X : Cx} {elt tg iter : Expr} {scope : Scope} {pos : Pos} {own : List Str} {wi : TI} {g : TG} {te : TE}
    (hc : X.calm = true) (hi : PI X tg iter wi) (hcell : ∀ y ∈ scope.names, y.2 ≠ .cell) (hfree : ∀ y ∈ scope.names, y.2 ≠ .free) (hkind : scope.kind = .function)
    (hnames : ∀ y ∈ scope.names, y.2 = .local -> scope.names.lookup y.1 = some .local)
    (hg : ∀ (C : Addr) (ex : List Addr) (s : Shared) (H : Hp), PG (cxComp X own scope [] C ex s H) tg g)
    (he : ∀ (C : Addr) (ex : List Addr) (s : Shared) (H : Hp), PE (cxComp X own scope [] C ex s H) elt te)
    (hs : ∀ x, foldedSetIterable iter X.env x = pure x := by intro _; rfl) :
    PE X (.ListComp elt [⟨tg, iter, [], 0⟩] scope pos) (tComp wi own.length [] g te) := by
  refine z3d (own := own) (fv := []) (js := []) (cl := []) hc hi (closureFor_none hfree) hcell hkind hnames (fun x c h => by cases h) (fun x h => ?_) rfl (fun i x j h => by simp at h) (by simpa using hg) (by simpa using he) hs
  rw [relabel_none hfree] at h
  rcases h with h | h
  · exact absurd rfl (hcell _ (PySem.mem_of_lookup h))
  · exact absurd rfl (hfree _ (PySem.mem_of_lookup h))
def CDivW (i j : Int) : Prop := j ≠ 0 /\ -18446744073709551616 < j /\ j < 18446744073709551616
theorem log_small {y : Int} (h0 : -18446744073709551616 < y) (h1 : y < 18446744073709551616) : y.natAbs.log2 < 9000 := by
  by_cases z : y.natAbs = 0
  · rw [z]; decide
  · exact Nat.lt_of_lt_of_le ((Nat.log2_lt z).mpr (show y.natAbs < 2 ^ 64 by omega)) (by decide)
theorem z3v {X : Cx} : OpR X (binaryOp .FloorDiv) (rI CDivW fun i j => .int (i.fdiv j)) := opI fun _ _ _ _ _ _ _ hc q => floordiv_int hc.1 q (.inl (PyProof.noPylong_of_log2 (log_small hc.2.1 hc.2.2)))
section
variable {K : PySem.W.Frag}
def LoopL (K : PySem.W.Frag) (g : TG) (tb : TS) (D : Ends) (σ : St) (x : V) (H1 : Hp) : Prop := ∃ a, x = .ref a /\ (∃ xs, SqL K H1 a xs) /\ ∃ W : Nat -> Nat -> St -> Hp -> Prop, (∃ m, W 0 m σ H1) /\ ∀ i m σ H, W i m σ H ->
  ((Itl K a).stop i H /\ D.nx σ H) \/ ((Itl K a).go i H /\ ∃ N : St -> Hp -> Prop, (∀ σ' H', N σ' H' -> ∃ m', m' < m /\ W (i + 1) m' σ' H') /\ ∀ x H', (Itl K a).yld i H x H' -> g x σ H' fun σ2 H2 => tb { D with nx := N, ct := N, bk := D.nx } σ2 H2)
def LoopT (K : PySem.W.Frag) (g : TG) (tb : TS) (D : Ends) (σ : St) (x : V) (H1 : Hp) : Prop := ∃ a, x = .ref a /\ (∃ xs, SqT K H1 a xs) /\ ∃ W : Nat -> Nat -> St -> Hp -> Prop, (∃ m, W 0 m σ H1) /\ ∀ i m σ H, W i m σ H ->
  ((Itt K a).stop i H /\ D.nx σ H) \/ ((Itt K a).go i H /\ ∃ N : St -> Hp -> Prop, (∀ σ' H', N σ' H' -> ∃ m', m' < m /\ W (i + 1) m' σ' H') /\ ∀ x H', (Itt K a).yld i H x H' -> g x σ H' fun σ2 H2 => tb { D with nx := N, ct := N, bk := D.nx } σ2 H2)
def LoopR (lo : Int) (n : Nat) (g : TG) (tb : TS) (D : Ends) (σ : St) (H1 : Hp) : Prop := ∃ W : Nat -> Nat -> St -> Hp -> Prop, (∃ m, W 0 m σ H1) /\ ∀ i m σ H, W i m σ H ->
  ((Itr lo n).stop i H /\ D.nx σ H) \/ ((Itr lo n).go i H /\ ∃ N : St -> Hp -> Prop, (∀ σ' H', N σ' H' -> ∃ m', m' < m /\ W (i + 1) m' σ' H') /\ ∀ x H', (Itr lo n).yld i H x H' -> g x σ H' fun σ2 H2 => tb { D with nx := N, ct := N, bk := D.nx } σ2 H2)
theorem for_eqL {te : TE} {g : TG} {tb : TS} {D : Ends} {σ : St} {H : Hp} : tFor (iList K te) g tb D σ H = te σ H fun x H1 => LoopL K g tb D σ x H1 := rfl
theorem for_eqT {te : TE} {g : TG} {tb : TS} {D : Ends} {σ : St} {H : Hp} : tFor (iTup K te) g tb D σ H = te σ H fun x H1 => LoopT K g tb D σ x H1 := rfl
theorem for_eqR1 {ta : TA} {g : TG} {tb : TS} {D : Ends} {σ : St} {H : Hp} : tFor (iRng1 ta) g tb D σ H = ta σ H fun vs H1 => ∃ j : Int, vs = [.int j] /\ -(2 ^ 62) ≤ j /\ j < 2 ^ 62 /\ LoopR 0 j.toNat g tb D σ H1 := rfl
theorem for_eqR2 {ta : TA} {g : TG} {tb : TS} {D : Ends} {σ : St} {H : Hp} : tFor (iRng2 ta) g tb D σ H = ta σ H fun vs H1 => ∃ i j : Int, vs = [.int i, .int j] /\ (-(2 ^ 62) ≤ i /\ i < 2 ^ 62 /\ -(2 ^ 62) ≤ j /\ j < 2 ^ 62) /\ LoopR i (j - i).toNat g tb D σ H1 := rfl
theorem LoopL.mk {a : Addr} {xs : List V} {g : TG} {tb : TS} {D : Ends} {σ : St} {H : Hp} (hS : SqL K H a xs) (Pv : Nat -> St -> Hp -> Prop) (h0 : Pv 0 σ H) (hl : ∀ i σ H, i ≤ xs.length -> Pv i σ H -> SqL K H a xs)
    (hs : ∀ i x σ H, xs[i]? = some x -> Pv i σ H -> g x σ H fun σ2 H2 => tb { D with nx := Pv (i + 1), ct := Pv (i + 1), bk := D.nx } σ2 H2) (hd : ∀ σ H, Pv xs.length σ H -> D.nx σ H) : LoopL K g tb D σ (.ref a) H := ⟨a, rfl, ⟨xs, hS⟩, for_list Pv h0 hl hs hd⟩
theorem LoopT.mk {a : Addr} {xs : List V} {g : TG} {tb : TS} {D : Ends} {σ : St} {H : Hp} (hS : SqT K H a xs) (Pv : Nat -> St -> Hp -> Prop) (h0 : Pv 0 σ H) (hl : ∀ i σ H, i ≤ xs.length -> Pv i σ H -> SqT K H a xs)
    (hs : ∀ i x σ H, xs[i]? = some x -> Pv i σ H -> g x σ H fun σ2 H2 => tb { D with nx := Pv (i + 1), ct := Pv (i + 1), bk := D.nx } σ2 H2) (hd : ∀ σ H, Pv xs.length σ H -> D.nx σ H) : LoopT K g tb D σ (.ref a) H := ⟨a, rfl, ⟨xs, hS⟩, for_tup Pv h0 hl hs hd⟩
theorem LoopR.mk {lo : Int} {n : Nat} {g : TG} {tb : TS} {D : Ends} {σ : St} {H : Hp} (Pv : Nat -> St -> Hp -> Prop) (h0 : Pv 0 σ H)
    (hs : ∀ i σ H, i < n -> Pv i σ H -> g (.int (lo + i)) σ H fun σ2 H2 => tb { D with nx := Pv (i + 1), ct := Pv (i + 1), bk := D.nx } σ2 H2) (hd : ∀ σ H, Pv n σ H -> D.nx σ H) : LoopR lo n g tb D σ H := for_range Pv h0 hs hd
def CompL (K : PySem.W.Frag) (k : Nat) (js : List Nat) (g : TG) (te : TE) (σ : St) (x : V) (H1 : Hp) (Q : VK) : Prop := ∃ a, x = .ref a /\ (∃ xs, SqL K H1 a xs) /\ ∃ W : Nat -> Nat -> List V -> St -> Hp -> Prop, (∃ m, W 0 m [] (compSt k js σ) H1) /\ ∀ i m ys σ' H', W i m ys σ' H' ->
    ((Itl K a).stop i H' /\ ∀ p, H' p = none -> Q (.ref p) (upd H' p (.lst ys))) \/
    ((Itl K a).go i H' /\ ys.length < sizeLine /\ ∃ N : List V -> St -> Hp -> Prop, (∀ zs σ2 H2, N zs σ2 H2 -> ∃ m', m' < m /\ W (i + 1) m' zs σ2 H2) /\ ∀ x H2, (Itl K a).yld i H' x H2 -> g x σ' H2 fun σ3 H3 => te σ3 H3 fun v H4 => N (ys ++ [v]) σ3 H4)
def CompT (K : PySem.W.Frag) (k : Nat) (js : List Nat) (g : TG) (te : TE) (σ : St) (x : V) (H1 : Hp) (Q : VK) : Prop := ∃ a, x = .ref a /\ (∃ xs, SqT K H1 a xs) /\ ∃ W : Nat -> Nat -> List V -> St -> Hp -> Prop, (∃ m, W 0 m [] (compSt k js σ) H1) /\ ∀ i m ys σ' H', W i m ys σ' H' ->
    ((Itt K a).stop i H' /\ ∀ p, H' p = none -> Q (.ref p) (upd H' p (.lst ys))) \/
    ((Itt K a).go i H' /\ ys.length < sizeLine /\ ∃ N : List V -> St -> Hp -> Prop, (∀ zs σ2 H2, N zs σ2 H2 -> ∃ m', m' < m /\ W (i + 1) m' zs σ2 H2) /\ ∀ x H2, (Itt K a).yld i H' x H2 -> g x σ' H2 fun σ3 H3 => te σ3 H3 fun v H4 => N (ys ++ [v]) σ3 H4)
def CompR (lo : Int) (n k : Nat) (js : List Nat) (g : TG) (te : TE) (σ : St) (H1 : Hp) (Q : VK) : Prop := ∃ W : Nat -> Nat -> List V -> St -> Hp -> Prop, (∃ m, W 0 m [] (compSt k js σ) H1) /\ ∀ i m ys σ' H', W i m ys σ' H' ->
    ((Itr lo n).stop i H' /\ ∀ p, H' p = none -> Q (.ref p) (upd H' p (.lst ys))) \/
    ((Itr lo n).go i H' /\ ys.length < sizeLine /\ ∃ N : List V -> St -> Hp -> Prop, (∀ zs σ2 H2, N zs σ2 H2 -> ∃ m', m' < m /\ W (i + 1) m' zs σ2 H2) /\ ∀ x H2, (Itr lo n).yld i H' x H2 -> g x σ' H2 fun σ3 H3 => te σ3 H3 fun v H4 => N (ys ++ [v]) σ3 H4)
theorem comp_eqL {k : Nat} {js : List Nat} {ti : TE} {g : TG} {te : TE} {σ : St} {H : Hp} {Q : VK} : tComp (iList K ti) k js g te σ H Q = ti σ H fun x H1 => CompL K k js g te σ x H1 Q := rfl
theorem comp_eqT {k : Nat} {js : List Nat} {ti : TE} {g : TG} {te : TE} {σ : St} {H : Hp} {Q : VK} : tComp (iTup K ti) k js g te σ H Q = ti σ H fun x H1 => CompT K k js g te σ x H1 Q := rfl
theorem comp_eqR1 {k : Nat} {js : List Nat} {ta : TA} {g : TG} {te : TE} {σ : St} {H : Hp} {Q : VK} : tComp (iRng1 ta) k js g te σ H Q = ta σ H fun vs H1 => ∃ j : Int, vs = [.int j] /\ -(2 ^ 62) ≤ j /\ j < 2 ^ 62 /\ CompR 0 j.toNat k js g te σ H1 Q := rfl
theorem CompL.mk {a : Addr} {xs : List V} {k : Nat} {js : List Nat} {g : TG} {te : TE} {Q : VK} {σ : St} {H : Hp} (hS : SqL K H a xs) (Pv : Nat -> List V -> St -> Hp -> Prop) (h0 : Pv 0 [] (compSt k js σ) H) (hl : ∀ i ys σ H, i ≤ xs.length -> Pv i ys σ H -> SqL K H a xs)
    (hs : ∀ i x ys σ H, xs[i]? = some x -> Pv i ys σ H -> ys.length < sizeLine /\ g x σ H fun σ3 H3 => te σ3 H3 fun v H4 => Pv (i + 1) (ys ++ [v]) σ3 H4) (hd : ∀ ys σ H, Pv xs.length ys σ H -> ∀ p, H p = none -> Q (.ref p) (upd H p (.lst ys))) :
    CompL K k js g te σ (.ref a) H Q := ⟨a, rfl, ⟨xs, hS⟩, comp_list Pv h0 hl hs hd⟩
theorem CompT.mk {a : Addr} {xs : List V} {k : Nat} {js : List Nat} {g : TG} {te : TE} {Q : VK} {σ : St} {H : Hp} (hS : SqT K H a xs) (Pv : Nat -> List V -> St -> Hp -> Prop) (h0 : Pv 0 [] (compSt k js σ) H) (hl : ∀ i ys σ H, i ≤ xs.length -> Pv i ys σ H -> SqT K H a xs)
    (hs : ∀ i x ys σ H, xs[i]? = some x -> Pv i ys σ H -> ys.length < sizeLine /\ g x σ H fun σ3 H3 => te σ3 H3 fun v H4 => Pv (i + 1) (ys ++ [v]) σ3 H4) (hd : ∀ ys σ H, Pv xs.length ys σ H -> ∀ p, H p = none -> Q (.ref p) (upd H p (.lst ys))) :
    CompT K k js g te σ (.ref a) H Q := ⟨a, rfl, ⟨xs, hS⟩, comp_tup Pv h0 hl hs hd⟩
theorem CompR.mk {lo : Int} {n k : Nat} {js : List Nat} {g : TG} {te : TE} {Q : VK} {σ : St} {H : Hp} (Pv : Nat -> List V -> St -> Hp -> Prop) (h0 : Pv 0 [] (compSt k js σ) H)
    (hs : ∀ i ys σ H, i < n -> Pv i ys σ H -> ys.length < sizeLine /\ g (.int (lo + i)) σ H fun σ3 H3 => te σ3 H3 fun v H4 => Pv (i + 1) (ys ++ [v]) σ3 H4) (hd : ∀ ys σ H, Pv n ys σ H -> ∀ p, H p = none -> Q (.ref p) (upd H p (.lst ys))) :
    CompR lo n k js g te σ H Q := comp_range Pv h0 hs hd
end
theorem cxOf_K {CX : CXT} {P : Program} {w : World} {K : PySem.W.Frag} {mg : Str -> Option Value} {base : Heap} {N : List Str} {qual : Str} {scope : Scope} {f : Addr} {cd : Value} {A : Around} {outer : List Env} {s : Shared} {H : Hp} {E : XK} : (cxOf CX P w K mg base N qual scope f cd A outer s H E).K = K := rfl
theorem cxComp_K {X : Cx} {N : List Str} {scope : Scope} {cl : List (Str × Addr)} {C : Addr} {ex : List Addr} {s : Shared} {H : Hp} : (cxComp X N scope cl C ex s H).K = X.K := rfl
def tyS : V -> Option String
  | .int _ => some "int"
  | .bl _ => some "bool"
  | .str _ => some "str"
  | .non => some "NoneType"
  | _ => none
def isiN (t n : String) : Bool := t == n || (t == "bool" && n == "int")
def isiB (x : V) (n : String) : Bool := match tyS x with
  | some t => isiN t n
  | none => false
theorem isi_ii {i : Int} : isiB (.int i) "int" = true := by show isiN "int" "int" = true; decide +kernel
theorem isi_ib {i : Int} : isiB (.int i) "bool" = false := by show isiN "int" "bool" = false; decide +kernel
theorem isi_bi {b : Bool} : isiB (.bl b) "int" = true := by show isiN "bool" "int" = true; decide +kernel
theorem isi_bb {b : Bool} : isiB (.bl b) "bool" = true := by show isiN "bool" "bool" = true; decide +kernel
theorem isi_it {i : Int} : isiB (.int i) "tuple" = false := by show isiN "int" "tuple" = false; decide +kernel
theorem kit_type {K : PySem.W.Frag} {t n : String} {b : Bool} (e : (if (Value.type t == Value.type n) = true then some true else if PySem.W.kitMeta n = true then (fastBuiltinMro t).map (·.contains (.type n)) else none) = some b) : PySem.W.kitOne K (.type t) (.type n) = some b := by
  unfold PySem.W.kitOne
  split at e
  · rename_i h; rw [if_pos h]; exact e
  · rename_i h; rw [if_neg h]; exact e
theorem kit_plain {K : PySem.W.Frag} {x : V} {t n : String} (hn : n ∈ ["int", "bool", "tuple", "list", "str"]) (ht : tyS x = some t) : PySem.W.kitOne K (.type t) (.type n) = some (isiB x n) := by
  simp only [List.mem_cons, List.mem_nil_iff, or_false] at hn
  cases x <;> simp only [tyS, reduceCtorEq, Option.some.injEq] at ht <;> subst ht <;> rcases hn with rfl | rfl | rfl | rfl | rfl <;> refine kit_type ?_ <;> simp only [isiB, tyS] <;> decide +kernel
theorem call_isiS {X : Cx} : CallR X (.builtin "isinstance") (fun xs H Q => ∃ x n, xs = [x, .ty n] /\ (n ∈ ["int", "bool", "tuple", "list", "str"] /\ (tyS x).isSome = true) /\ Q (.bl (isiB x n)) H) := by
  intro pins s σ H xs us Q I r h
  obtain ⟨x, n, rfl, ⟨hn, hx⟩, q⟩ := h
  obtain ⟨t, ht⟩ := Option.isSome_iff_exists.mp hx
  refine call_isi pins s σ H _ us Q I r ⟨x, n, .type t, isiB x n, rfl, ?_, kit_plain hn ht, q⟩
  cases x <;> simp only [tyS, reduceCtorEq, Option.some.injEq] at ht <;> subst ht
  · exact .non
  · exact .bl _
  · exact .int _
  · exact .str _
theorem na2 : (Int.natAbs 2 < 18446744073709551616) = True := eq_true (by decide)
theorem na10 : (Int.natAbs 10 < 18446744073709551616) = True := eq_true (by decide)
theorem z0b {H : Hp} {p : Addr} (h : H p = none) (o : HO) : Same H (upd H p o) := fun b u q => by rw [z1c (z2k q h)]; exact q
theorem small {n : Nat} (h : n ≤ 1000) : n ≤ sizeLine := Nat.le_of_lt (z1b h)
theorem Same.tup {K : PySem.W.Frag} {H H' : Hp} {a : Addr} {xs : List V} (e : Same H H') (h : SqT K H a xs) : SqT K H' a xs := by
  rcases h with (h | ⟨o, h⟩) | h
  · exact .inl (.inl (e _ _ h))
  · exact .inl (.inr ⟨o, e _ _ h⟩)
  · exact .inr h
theorem st_one {σ : St} (h : σ.length = 1) : ∃ z, σ = [z] := by
  match σ, h with
  | [z], _ => exact ⟨z, rfl⟩
theorem getmap {α β : Type} {f : α -> β} {l : List α} {i : Nat} {y : β} (h : (l.map f)[i]? = some y) : ∃ x, l[i]? = some x /\ y = f x := by
  rw [List.getElem?_map] at h
  obtain ⟨x, h1, h2⟩ := Option.map_eq_some_iff.mp h
  exact ⟨x, h1, h2.symm⟩
theorem take_succ' {α : Type} {l : List α} {i : Nat} {x : α} (h : l[i]? = some x) : l.take (i + 1) = l.take i ++ [x] := by
  rw [List.take_succ, h]; rfl
theorem CompL.vals {K : PySem.W.Frag} {a : Addr} {xs : List V} {te : TE} {Q : VK} {σ : St} {H : Hp} {fn : V -> V} (hS : SqL K H a xs) (hz : xs.length ≤ 1000)
    (hs : ∀ x ∈ xs, ∀ H1, Same H H1 -> ∀ Q' : VK, (∀ H2, Same H1 H2 -> Q' (fn x) H2) -> te [some x] H1 Q')
    (hd : ∀ H1, Same H H1 -> ∀ p, H1 p = none -> Q (.ref p) (upd H1 p (.lst (xs.map fn)))) : CompL K 1 [] (gName 0) te σ (.ref a) H Q := by
  refine CompL.mk hS (fun i ys σ' H' => Same H H' /\ ys = (xs.take i).map fn /\ σ'.length = 1) ⟨Same.refl _, rfl, rfl⟩ (fun i ys σ' H' _ h => h.1.seq hS) (fun i x ys σ' H' e h => ?_) (fun ys σ' H' h p hp => ?_)
  · obtain ⟨h1, rfl, h3⟩ := h
    obtain ⟨z, rfl⟩ := st_one h3
    refine ⟨?_, ?_⟩
    · rw [List.length_map, List.length_take]
      exact Nat.lt_of_le_of_lt (Nat.min_le_right _ _) (z1b hz)
    · refine hs x (List.mem_of_getElem? e) H' h1 _ fun H2 h2 => ⟨h1.trans h2, ?_, rfl⟩
      rw [take_succ' e, List.map_append]; rfl
  · obtain ⟨h1, rfl, h3⟩ := h
    rw [List.take_length]
    exact hd H' h1 p hp
section
variable {X : Cx}
def rInT : R2 := fun x y H Q => ∃ p xs, y = .ref p /\ H p = some (.tup xs) /\ flatV x = true /\ xs.all flatV = true /\ Q (.bl (inV x xs)) H
def rInL : R2 := fun x y H Q => ∃ p xs, y = .ref p /\ H p = some (.lst xs) /\ flatV x = true /\ xs.all flatV = true /\ Q (.bl (inV x xs)) H
theorem op_inT : OpR X (compareOp .In) rInT := by
  intro pins s σ H x y v u Q I rx ry h
  obtain ⟨p, xs, rfl, hq, fx, fs, q⟩ := h
  exact op_in_seq pins s σ H x _ v u Q I rx ry ⟨p, xs, rfl, .inr (.of hq), fx, fs, q⟩
def rIxLH : R2 := fun x y H Q => ∃ p xs i v, x = .ref p /\ y = .int i /\ H p = some (.lst xs) /\ atI xs i = some v /\ Q v H
def rIxTH : R2 := fun x y H Q => ∃ p xs i v, x = .ref p /\ y = .int i /\ H p = some (.tup xs) /\ atI xs i = some v /\ Q v H
theorem z0o : IxR X rIxLH := by
  intro value slice pins s σ H x y v u Q I rx ry h hs
  obtain ⟨p, xs, i, z, rfl, rfl, hq, he, q⟩ := h
  exact ix_list value slice pins s σ H _ _ v u Q I rx ry ⟨p, xs, i, z, rfl, rfl, .of hq, he, q⟩ hs
theorem z0v : IxR X rIxTH := by
  intro value slice pins s σ H x y v u Q I rx ry h hs
  obtain ⟨p, xs, i, z, rfl, rfl, hq, he, q⟩ := h
  exact ix_tup value slice pins s σ H _ _ v u Q I rx ry ⟨p, xs, i, z, rfl, rfl, .of hq, he, q⟩ hs
end
section
variable {X : Cx}
def gTupH (n : Nat) (t : TGs) : TG := fun v σ H Q => ∃ a xs, v = .ref a /\ H a = some (.tup xs) /\ xs.length = n /\ t xs σ H Q
theorem pg_tupH {es : List Expr} {k : Nat} {pos : Pos} {t : TGs} {n : Nat} (h : PG X (.Tuple es k pos) (gTup X.K n t)) : PG X (.Tuple es k pos) (gTupH n t) := by
  intro pins s σ H v u Q I r q
  obtain ⟨a, xs, e, ha, hl, q⟩ := q
  exact h pins s σ H v u Q I r ⟨a, xs, e, .of ha, hl, q⟩
def tApp (to te : TE) : TE := fun σ H Q => to σ H fun x H1 => ∃ l, x = .ref l /\ (∃ xs, H1 l = some (.lst xs)) /\ te σ H1 fun v H2 => ∃ xs, H2 l = some (.lst xs) /\ xs.length < sizeLine /\ Q .non (upd H2 l (.lst (xs ++ [v])))
theorem pe_app {o e : Expr} {to te : TE} {apos cpos : Pos} (ho : PE X o to) (he : PE X e te)
    (hbase : attributeBase o "append" X.env (eval o X.env) = eval o X.env := by rfl) (hfew : ((backTo cpos (starEach [e] X.env)).all (fun x => !x.1) && (backToKw cpos (keywordEach [] X.env)).all (fun x => x.1.isSome)
      && decide ([e].length + ([] : List Keyword).length + (if ([] : List Keyword).isEmpty then 0 else 1) < 30)) = true := by rfl)
    (hline : (apos.endLine == cpos.line) = true := by rfl) (hs : starEach [e] X.env = [(false, eval e X.env)] := by rfl) : PE X (.Call (.Attribute o "append" apos) [e] [] cpos) (tApp to te) := by
  intro pins s σ H Q I h
  refine wpAny_Call_method_late hbase hfew hline rfl (thn (ho pins s σ H _ I h) fun v s1 ⟨x, H1, I1, r1, q1⟩ => ?_)
  obtain ⟨l, rfl, ⟨xs1, hx1⟩, q2⟩ := q1
  obtain ⟨h1, h2⟩ := tyV_is (T := "list") I1 r1 (.inl ⟨rfl, _, .of hx1⟩)
  refine ⟨"list", "list.append", PySem.F.plainAttrs_list, PySem.F.slot_list_append, PySem.F.type_list_append, h1, h2, ?_⟩
  have hA := (z0a he z0c hs) cpos pins s1 σ H1 (fun vs H2 => match vs with | [v] => ∃ xs, H2 l = some (.lst xs) /\ xs.length < sizeLine /\ Q .non (upd H2 l (.lst (xs ++ [v]))) | _ => False) I1 q2
  rw [hs] at hA ⊢
  refine Calls.callWith_builtin rfl (Calls.evalArgs_plain ?_)
  refine thn hA fun us s2 ⟨vs, H2, I2, r2, q3⟩ => ?_
  match vs, q3 with
  | [v2], ⟨xs, hx, hz, q⟩ => exact mt_append pins s2 σ H2 (.ref l) [v2] v us Q I2 r1 r2 ⟨l, xs, v2, rfl, rfl, hx, hz, q⟩
end
def SameX (l : Addr) (H H' : Hp) : Prop := ∀ b o, b ≠ l -> H b = some o -> H' b = some o
theorem SameX.refl (l : Addr) (H : Hp) : SameX l H H := fun _ _ _ h => h
theorem SameX.trans {l : Addr} {H H1 H2 : Hp} (a : SameX l H H1) (b : SameX l H1 H2) : SameX l H H2 := fun c o n h => b c o n (a c o n h)
theorem SameX.set {l : Addr} (H : Hp) (o : HO) : SameX l H (upd H l o) := fun b u n e => by rw [z1c n]; exact e
def rvObj (t : Addr) (i : Int) : Obj := { cls := .type "reversed", data := .fields #[.ref t, rawInt i] }
def IsRv (h : Heap) (a t : Addr) (i : Int) : Prop := ∃ o, h.get? a = some o /\ o.cls = .type "reversed" /\ o.data = .fields #[.ref t, rawInt i]
theorem IsRv.typeIs {s : Shared} {a t : Addr} {i : Int} (x : IsRv s.heap a t i) : s.TypeIs (.ref a) "reversed" := let ⟨o, ho, hc, _⟩ := x; ⟨o, ho, hc⟩
theorem tup_norev : typeLookup (.type "tuple") "__reversed__" = pure none := by rw [typeLookup_type, builtinLookup_eq_fast]; kernel_rfl
theorem tup_getitem : typeLookup (.type "tuple") "__getitem__" = pure (some (.builtin "tuple.__getitem__")) := by rw [typeLookup_type, builtinLookup_eq_fast]; kernel_rfl
theorem tup_nodict : isSubtype (.type "tuple") (.type "dict") = pure false := by rw [isSubtype_type]; kernel_rfl
theorem rv_init : Slot "reversed" "__init__" "object.__init__" :=
  .of (owner := "object") (n := "__init__") (by rw [typeLookup_type, builtinLookup_eq_fast]; kernel_rfl) (by decide +kernel) (by decide +kernel) (by decide +kernel) (.inl (by decide +kernel)) (by rw [isSubtype_type]; kernel_rfl)
theorem rv_next : Slot "reversed" "__next__" "reversed.__next__" :=
  .of (owner := "reversed") (n := "__next__") (by rw [typeLookup_type, builtinLookup_eq_fast]; kernel_rfl) (by decide +kernel) (by decide +kernel) (by decide +kernel) (.inl (by decide +kernel)) (by rw [isSubtype_type]; kernel_rfl)
theorem rv_iter : Slot "reversed" "__iter__" "reversed.__iter__" :=
  .of (owner := "reversed") (n := "__iter__") (by rw [typeLookup_type, builtinLookup_eq_fast]; kernel_rfl) (by decide +kernel) (by decide +kernel) (by decide +kernel) (.inl (by decide +kernel)) (by rw [isSubtype_type]; kernel_rfl)
theorem z3o : entryFor table "reversed.__next__" = some Builtin.«reversed.__next__» := entryFor_of_tree (by kernel_rfl)
theorem rv_entry_iter : entryFor table "reversed.__iter__" = some Builtin.«dict_keyiterator.__iter__» :=
  entryFor_alias (id' := "dict_keyiterator.__iter__") (by kernel_rfl) (by first | rfl | decide +kernel) (by decide +kernel) (by kernel_rfl)
theorem rv_args_next (a : Value) : argsOk "reversed.__next__" ⟨[a], []⟩ := by unfold argsOk; kernel_rfl
theorem rv_args_iter (a : Value) : argsOk "reversed.__iter__" ⟨[a], []⟩ := by unfold argsOk; kernel_rfl
theorem rv_called : TypeCalled "reversed" "reversed.__new__" "object.__init__" :=
  ⟨by decide +kernel, PySem.F.create_reversed, ⟨_, _, PySem.F.mro_reversed⟩, PySem.F.made_reversed, PySem.F.plain_reversed_new, PySem.F.sub_reversed_self, rv_init⟩
theorem rv_new (t : Addr) (items : Array Value) (hz : (items.size : Int) < 2 ^ 63) : Meets (Builtin.«reversed.__new__» ⟨[.type "reversed", .ref t], []⟩)
    (fun _ R s => IsTup s.heap t items /\ ∀ tk, R (.ok (.ret (.ref s.heap.objs.size))) { s with heap := s.heap.push (rvObj t ((items.size : Int) - 1)), toks := tk }) :=
  .of_wp fun prog w A R s h => by
    obtain ⟨ht, h⟩ := h
    have hT : s.TypeIs (.ref t) "tuple" := ht.typeIs
    unfold Builtin.«reversed.__new__»
    refine wpAny_bind (wpAny_of_eq (PySem.newClass_reversed _) ?_)
    try dsimp only
    refine wpAny_bind (wpAny_of_eq (a := ()) (by first | rfl | kernel_rfl) ?_)
    refine wpAny_bind (wpAny_of_eq (a := ()) (by first | rfl | kernel_rfl) ?_)
    try dsimp only
    refine wpAny_bind (wpAny_specialOf hT tup_norev ?_)
    try dsimp only
    refine wpAny_bind ?_
    k_delta "hasItemSlot"
    refine wpAny_bind (wpAny_isInstance (T := "tuple") (b := false) hT tup_nodict ?_)
    rw [if_neg Bool.false_ne_true]
    refine wpAny_bind (wpAny_specialOf hT tup_getitem ?_)
    dsimp only
    rw [if_pos (by decide +kernel)]
    refine wpAny_pure ?_
    rw [if_neg (by decide)]
    refine wpAny_bind (len_tuple ht hz ?_)
    refine wpAny_bind (wpAny_of_eq (a := some (items.size : Int)) rfl ?_)
    dsimp only
    refine wpAny_bind ?_
    unfold Builtin.SmallTypes.newRecord
    refine wpAny_newObj_type (wpAny_pure ⟨_, rfl, h _⟩)
section
variable {prog : Program} {w : World} {A : Around} {E : Value -> Shared -> Prop} {s : Shared}
theorem call_rv {t : Addr} {items : Array Value} {Q : Value -> Shared -> Prop} (ht : IsTup s.heap t items) (hz : (items.size : Int) < 2 ^ 63)
    (h : ∀ tk, Q (.ref s.heap.objs.size) { s with heap := s.heap.push (rvObj t ((items.size : Int) - 1)), toks := tk }) : wpAny (model prog w) A (call (.type "reversed") [.ref t]) Q E s :=
  callType_new rv_called (by decide) (PySem.F.typeCall_reversed_1 _) (PySem.F.newCall_reversed_1 _) (fun obj => F.args_object_init_2 obj _) PySem.F.entry_reversed_new (rv_new t items hz)
    ⟨ht, fun tk => ⟨⟨_, Heap.get?_push_size _ rfl, rfl⟩, h tk⟩⟩
theorem rv_item {it t : Addr} {i : Nat} {items : Array Value} {x : Value} {Q : Option Value -> Shared -> Prop} (hit : IsRv s.heap it t (i : Int)) (ht : IsTup s.heap t items) (hx : items[i]? = some x) (hz : (items.size : Int) < 2 ^ 63)
    (hQ : ∀ h' tk, IsRv h' it t ((i : Int) - 1) -> Heap.SameBut it s.heap h' -> Q (some x) { s with heap := h', toks := tk }) : wpAny (model prog w) A (pyNext (.ref it)) Q E s := by
  obtain ⟨o, ho, hc, hd⟩ := id hit
  have hT : s.TypeIs (.ref t) "tuple" := ht.typeIs
  have hi : i < items.size := (Array.getElem?_eq_some_iff.mp hx).1
  unfold pyNext
  refine wpAny_bind (wpAny_attempt (wpAny_callSpecial?_slot (name := Str.ofString "__next__") hit.typeIs rv_next (wpAny_call_entry rv_next hit.typeIs z3o ?_ (rv_args_next _))))
  unfold Builtin.«reversed.__next__»
  refine wpAny_bind (wpAny_of_eq (a := (Value.ref it, [])) rfl ?_)
  try dsimp only
  refine wpAny_bind (wpAny_field ho hd (x := .ref t) rfl ?_)
  refine wpAny_bind (wpAny_field ho hd (x := rawInt (i : Int)) rfl ?_)
  show wpAny _ _ (if (i : Int) < 0 then _ else _) _ _ s
  rw [if_neg (by omega)]
  refine wpAny_bind (wpAny_specialOf hT tup_getitem ?_)
  rw [if_neg (by decide)]
  refine wpAny_bind (wpAny_mkInt ?_)
  refine wpAny_bind (wpAny_attempt (getItem_tuple (k := (i : Int)) (j := i) ht (by omega) (by omega) (by simp [seqIndex?]; omega) hx ?_))
  dsimp only
  refine wpAny_bind (wpAny_field ho hd (x := rawInt (i : Int)) rfl ?_)
  show wpAny _ _ (setField (.ref it) 1 (rawInt ((i : Int) - 1)) >>= _) _ _ _
  refine wpAny_bind (wpAny_setField ho hd (by simp) ?_)
  refine wpAny_pure ⟨x, rfl, wpAny_pure (hQ _ _ ?_ (Heap.SameBut.update ..))⟩
  exact ⟨_, Heap.get?_update_self _ ho (Obj.isFreed_of_fields (Obj.data_mapFields hd _)), (Obj.cls_mapFields ..).trans hc, by rw [Obj.data_mapFields hd]; simp⟩
theorem rv_end {it t : Addr} {Q : Option Value -> Shared -> Prop} (hh : A.handled = none) (hit : IsRv s.heap it t (-1)) (hQ : ∀ h' tk, Heap.ExtBut it s.heap h' -> Q none { s with heap := h', toks := tk }) : wpAny (model prog w) A (pyNext (.ref it)) Q E s := by
  obtain ⟨o, ho, hc, hd⟩ := id hit
  unfold pyNext
  refine wpAny_bind (wpAny_attempt (wpAny_callSpecial?_slot (name := Str.ofString "__next__") hit.typeIs rv_next (wpAny_call_entry rv_next hit.typeIs z3o ?_ (rv_args_next _))))
  unfold Builtin.«reversed.__next__»
  refine wpAny_bind (wpAny_of_eq (a := (Value.ref it, [])) rfl ?_)
  try dsimp only
  refine wpAny_bind (wpAny_field ho hd (x := .ref t) rfl ?_)
  refine wpAny_bind (wpAny_field ho hd (x := rawInt (-1)) rfl ?_)
  show wpAny _ _ (if (-1 : Int) < 0 then _ else _) _ _ s
  rw [if_pos (by decide)]
  refine wpAny_bind (wpAny_rule ?_)
  refine wpAny_bind ?_
  k_delta "reversedEnd"
  refine wpAny_bind (wpAny_setField ho hd (by simp) ?_)
  refine wpAny_setField (Heap.get?_update_self _ ho (Obj.isFreed_of_fields (Obj.data_mapFields hd _))) (Obj.data_mapFields hd _) (by simp) ?_
  refine wpAny_bind ?_
  have other : ∀ b u, b ≠ it -> s.heap.get? b = some u -> ((s.heap.update it (Obj.mapFields fun x => x.setIfInBounds 1 (rawInt (-1)))).update it (Obj.mapFields fun x => x.setIfInBounds 0 Value.none)).get? b = some u := fun b u nb e => by
    rw [Heap.get?_update_other _ _ (Ne.symm nb), Heap.get?_update_other _ _ (Ne.symm nb)]; exact e
  generalize ((s.heap.update it (Obj.mapFields fun x => x.setIfInBounds 1 (rawInt (-1)))).update it (Obj.mapFields fun x => x.setIfInBounds 0 Value.none)) = hU at *
  show wpAny _ _ (newExc (.type "StopIteration") [] >>= _) _ _ _
  refine wpAny_bind ?_
  simp only [newExc, newTuple]
  refine wpAny_bind (wpAny_newObj_type ?_ (by size_fits))
  refine wpAny_bind (m := firstArgMember _ _) (wpAny_of_eq (a := Value.none) (by first | rfl | (simp only [firstArgMember]; rfl)) ?_)
  refine wpAny_newObj_type ?_ (by size_fits)
  simp only [raiseNew]
  refine wpAny_bind (wpAny_handled ?_)
  rw [show A.in1.handled = none from hh]
  refine wpAny_bind (wpAny_pure (wpAny_throw ?_))
  refine wpAny_bind (wpAny_isInstance (T := "StopIteration") (b := true) ⟨_, Heap.get?_push_size _ rfl, rfl⟩ isSubtype_stop ?_)
  exact wpAny_pure (hQ _ _ fun b u nb e => Heap.get?_push_of_some _ (Heap.get?_push_of_some _ (other b u nb e)))
theorem rv_self {it t : Addr} {i : Int} {Q : Value -> Shared -> Prop} (hit : IsRv s.heap it t i) (h : Q (.ref it) s) : wpAny (model prog w) A (pyIter (.ref it)) Q E s := by
  refine wpAny_pyIter_slot hit.typeIs rv_iter (wpAny_call_entry rv_iter hit.typeIs rv_entry_iter ?_ (rv_args_iter _))
  show wpAny _ _ (ret (.ref it)) _ _ s
  exact wpAny_pure ⟨_, rfl, "reversed", _, hit.typeIs, rv_next.lookup, h⟩
end
def Itrv (K : PySem.W.Frag) (a : Addr) (n : Nat) : It := ⟨fun i H => ∃ xs, SqT K H a xs /\ xs.length = n /\ i < n, fun i H x H' => H' = H /\ ∀ xs, SqT K H a xs -> xs[n - 1 - i]? = some x, fun i H => ∃ xs, SqT K H a xs /\ xs.length = n /\ i = n⟩
theorem line63' : (sizeLine : Int) < 2 ^ 63 := by rw [sizeLine_eq]; decide
section
variable {X : Cx} {tg : Expr}
def iRevT (K : PySem.W.Frag) (te : TE) : TI := fun σ H R => te σ H fun x H1 => ∃ a xs, x = .ref a /\ SqT K H1 a xs /\ R (Itrv K a xs.length) H1
end
def LoopV (K : PySem.W.Frag) (g : TG) (tb : TS) (D : Ends) (σ : St) (x : V) (H1 : Hp) : Prop := ∃ a xs, x = .ref a /\ SqT K H1 a xs /\ ∃ W : Nat -> Nat -> St -> Hp -> Prop, (∃ m, W 0 m σ H1) /\ ∀ i m σ H, W i m σ H ->
  ((Itrv K a xs.length).stop i H /\ D.nx σ H) \/ ((Itrv K a xs.length).go i H /\ ∃ N : St -> Hp -> Prop, (∀ σ' H', N σ' H' -> ∃ m', m' < m /\ W (i + 1) m' σ' H') /\ ∀ x H', (Itrv K a xs.length).yld i H x H' -> g x σ H' fun σ2 H2 => tb { D with nx := N, ct := N, bk := D.nx } σ2 H2)
theorem for_eqV {K : PySem.W.Frag} {te : TE} {g : TG} {tb : TS} {D : Ends} {σ : St} {H : Hp} : tFor (iRevT K te) g tb D σ H = te σ H fun x H1 => LoopV K g tb D σ x H1 := rfl
theorem LoopV.mk {K : PySem.W.Frag} {a : Addr} {xs : List V} {g : TG} {tb : TS} {D : Ends} {σ : St} {H : Hp} (hS : SqT K H a xs) (Pv : Nat -> St -> Hp -> Prop) (h0 : Pv 0 σ H) (hl : ∀ i σ H, i ≤ xs.length -> Pv i σ H -> SqT K H a xs)
    (hs : ∀ i x σ H, i < xs.length -> xs[xs.length - 1 - i]? = some x -> Pv i σ H -> g x σ H fun σ2 H2 => tb { D with nx := Pv (i + 1), ct := Pv (i + 1), bk := D.nx } σ2 H2) (hd : ∀ σ H, Pv xs.length σ H -> D.nx σ H) : LoopV K g tb D σ (.ref a) H := by
  refine ⟨a, xs, rfl, hS, fun i m σ H => m = xs.length - i /\ i ≤ xs.length /\ Pv i σ H, ⟨xs.length, by simp, Nat.zero_le _, h0⟩, ?_⟩
  rintro i m σ H ⟨rfl, hi, p⟩
  have q := hl i σ H hi p
  by_cases hlt : i < xs.length
  · refine .inr ⟨⟨xs, q, rfl, hlt⟩, Pv (i + 1), fun σ' H' p' => ⟨xs.length - (i + 1), by omega, rfl, hlt, p'⟩, fun x H' y => ?_⟩
    obtain ⟨e, y⟩ := y
    subst e
    exact hs i x σ _ hlt (y xs q) p
  · have e : i = xs.length := by omega
    subst e
    exact .inl ⟨⟨xs, q, rfl, rfl⟩, hd σ H p⟩
section
variable {X : Cx}
def rCatA (K : PySem.W.Frag) : R2 := fun x y H Q => ∃ a b xs ys, x = .ref a /\ y = .ref b /\ SqT K H a xs /\ SqT K H b ys /\ xs.length + ys.length ≤ sizeLine /\
  (xs = [] -> Q (.ref b) H) /\ (xs ≠ [] -> ys = [] -> Q (.ref a) H) /\ (xs ≠ [] -> ys ≠ [] -> ∀ p, H p = none -> Q (.ref p) (upd H p (.tup (xs ++ ys))))
theorem op_catA : OpR X (binaryOp .Add) (rCatA X.K) := by
  intro pins s σ H x y v u Q I rx ry h
  obtain ⟨a, b, xs, ys, rfl, rfl, ha, hb, hz, q0, q1, q2⟩ := h
  by_cases hx : xs = []
  · cases rx
    cases ry
    obtain ⟨its, r1, p1, _⟩ := I.tuple ha
    obtain ⟨its2, r2, p2, _⟩ := I.tuple hb
    have e1 : its = [] := r1.nil_iff.mpr hx
    obtain ⟨⟨c1, d1, z1, l1⟩, g1, hc1, n1, hd1⟩ := id p1
    obtain ⟨⟨c2, d2, z2, l2⟩, g2, hc2, n2, hd2⟩ := id p2
    simp only at hc1 hd1 hc2 hd2
    subst hc1 hd1 hc2 hd2
    exact concat_meets ⟨_, g1, rfl⟩ ⟨_, g2, rfl⟩ noFill_tuple_add seq_tuple_add PySem.F.slot_tuple_add PySem.F.entry_tuple_add (PySem.F.args_tuple_add_2 _ _)
      (tuple_addW0 a b its.toArray its2.toArray n1 n2 d1 d2 l1 l2 (by simp [e1])) ⟨g1, g2, .ref b, H, I, rfl, q0 hx⟩
  · exact op_catT pins s σ H _ _ v u Q I rx ry ⟨a, b, xs, ys, rfl, rfl, ha, hb, hx, hz, q1 hx, q2 hx⟩
def eqVs : List V -> List V -> Bool
  | [], [] => true
  | x :: xs, y :: ys => eqV x y && eqVs xs ys
  | _, _ => false
theorem eqVs_len : ∀ {xs ys : List V}, xs.length ≠ ys.length -> eqVs xs ys = false
  | [], [], h => absurd rfl h
  | x :: xs, y :: ys, h => by
    have e : xs.length ≠ ys.length := fun z => h (by simp [z])
    simp [eqVs, eqVs_len e]
  | [], _ :: _, _ => rfl
  | _ :: _, [], _ => rfl
def eqAtI (xs ys : List V) (j : Nat) : Bool := match xs[j]?, ys[j]? with | some x, some y => eqV x y | _, _ => false
theorem eqVs_all : ∀ {xs ys : List V}, xs.length = ys.length -> (List.range xs.length).all (eqAtI xs ys) = eqVs xs ys
  | [], [], _ => rfl
  | x :: xs, y :: ys, h => by
    have e : xs.length = ys.length := by simpa using h
    rw [List.length_cons, List.range_succ_eq_map, List.all_cons, List.all_map]
    have z : (eqAtI (x :: xs) (y :: ys) ∘ Nat.succ) = eqAtI xs ys := by funext j; simp [eqAtI]
    rw [z, eqVs_all e]
    rfl
  | [], _ :: _, h => by cases h
  | _ :: _, [], h => by cases h
theorem eqAtI_ok {A : Around} {s : Shared} {xs ys : List V} {us ws : List Value} (r1 : Vals xs us) (r2 : Vals ys ws) (f1 : xs.all flatV = true) (f2 : ys.all flatV = true) (j : Nat) (h1 : j < us.toArray.size) (h2 : j < ws.toArray.size) :
    SeqAt.EqAt A s us.toArray[j] ws.toArray[j] (eqAtI xs ys j) := by
  have l1 := r1.length
  have l2 := r2.length
  have k1 : j < xs.length := by rw [l1]; simpa using h1
  have k2 : j < ys.length := by rw [l2]; simpa using h2
  obtain ⟨u, hu, ru⟩ := r1.get (List.getElem?_eq_getElem k1)
  obtain ⟨v, hv, rv⟩ := r2.get (List.getElem?_eq_getElem k2)
  have e1 : us.toArray[j] = u := by
    have z : us[j]? = some (us[j]'(by simpa using h1)) := List.getElem?_eq_getElem _
    rw [z] at hu
    simpa using hu
  have e2 : ws.toArray[j] = v := by
    have z : ws[j]? = some (ws[j]'(by simpa using h2)) := List.getElem?_eq_getElem _
    rw [z] at hv
    simpa using hv
  rw [e1, e2]
  have e3 : eqAtI xs ys j = eqV xs[j] ys[j] := by simp [eqAtI, k1, k2]
  rw [e3]
  exact eqAt_V ru rv (List.all_eq_true.mp f1 _ (List.getElem_mem k1)) (List.all_eq_true.mp f2 _ (List.getElem_mem k2))
def rEqL (K : PySem.W.Frag) : R2 := fun x y H Q => ∃ a b xs ys, x = .ref a /\ y = .ref b /\ SqL K H a xs /\ SqL K H b ys /\ xs.all flatV = true /\ ys.all flatV = true /\ Q (.bl (eqVs xs ys)) H
def rEqT (K : PySem.W.Frag) : R2 := fun x y H Q => ∃ a b xs ys, x = .ref a /\ y = .ref b /\ SqT K H a xs /\ SqT K H b ys /\ xs.all flatV = true /\ ys.all flatV = true /\ Q (.bl (eqVs xs ys)) H
theorem op_eqT (hu : X.A.units < cLine) : OpR X (compareOp .Eq) (rEqT X.K) := by
  intro pins s σ H x y v u Q I rx ry h
  obtain ⟨a, b, xs, ys, rfl, rfl, ha, hb, f1, f2, q⟩ := h
  cases rx
  cases ry
  obtain ⟨us, r1, p1, _⟩ := I.tuple ha
  obtain ⟨ws, r2, p2, _⟩ := I.tuple hb
  refine SeqAt.eq_tupleAt (show s.heap.IsTuple a us.toArray from p1) (show s.heap.IsTuple b ws.toArray from p2) (e := eqAtI xs ys) hu (eqAtI_ok r1 r2 f1 f2) ?_
  have e1 : us.toArray.size = xs.length := by simp [r1.length]
  have e2 : ws.toArray.size = ys.length := by simp [r2.length]
  rw [e1, e2]
  by_cases hl : xs.length = ys.length
  · have z : ((List.range (min xs.length ys.length)).all (eqAtI xs ys) && xs.length == ys.length) = eqVs xs ys := by
      rw [← hl, Nat.min_self, eqVs_all hl]; simp
    rw [z]
    exact ⟨.bl _, H, I, rfl, q⟩
  · have z : ((List.range (min xs.length ys.length)).all (eqAtI xs ys) && xs.length == ys.length) = eqVs xs ys := by
      rw [eqVs_len hl]; simp [hl]
    rw [z]
    exact ⟨.bl _, H, I, rfl, q⟩
theorem z1j : ∀ (ns : List Int), (ns.map V.int).all flatV = true
  | [] => rfl
  | n :: ns => by simp [flatV]
theorem call_isiTT : CallR X (.builtin "isinstance") (fun xs H Q => ∃ a ys, xs = [.ref a, .ty "tuple"] /\ H a = some (.tup ys) /\ Q (.bl true) H) := by
  intro pins s σ H xs us Q I r h
  obtain ⟨a, ys, rfl, ha, q⟩ := h
  exact call_isi pins s σ H _ us Q I r ⟨.ref a, "tuple", .type "tuple", true, rfl, .tup ha, kit_type (by decide +kernel), q⟩
end
section
variable {pg : Program} {wd : World} {B : Around} {X0 : Value -> Shared -> Prop} {s0 : Shared}
structure Apart5 (z ti ox j1 j2 t1 t2 : Addr) : Prop where
  ti_z : ti ≠ z
  ox_z : ox ≠ z
  j1_z : j1 ≠ z
  j2_z : j2 ≠ z
  ti_ox : ti ≠ ox
  ti_j1 : ti ≠ j1
  ti_j2 : ti ≠ j2
  ox_j1 : ox ≠ j1
  ox_j2 : ox ≠ j2
  j12 : j1 ≠ j2
  t1_z : t1 ≠ z
  t1_ox : t1 ≠ ox
  t1_j1 : t1 ≠ j1
  t1_j2 : t1 ≠ j2
  t2_z : t2 ≠ z
  t2_ox : t2 ≠ ox
  t2_j1 : t2 ≠ j1
  t2_j2 : t2 ≠ j2
theorem tup_at {h h' : Heap} {t : Addr} {its : Array Value} (p : h.IsTuple t its) (f : ∀ o, h.get? t = some o -> h'.get? t = some o) : h'.IsTuple t its := let ⟨o, g, r⟩ := p; ⟨o, f o g, r⟩
end
def Itz (K : PySem.W.Frag) (a b : Addr) : It := ⟨fun i H => ∃ xs ys x y, SqT K H a xs /\ SqT K H b ys /\ xs[i]? = some x /\ ys[i]? = some y,
  fun i H v H' => ∃ T x y, v = .ref T /\ H T = none /\ H' = upd H T (.tup [x, y]) /\ ∀ xs ys, SqT K H a xs -> SqT K H b ys -> xs[i]? = some x /\ ys[i]? = some y, fun i H => ∃ xs ys, SqT K H a xs /\ SqT K H b ys /\ (xs.length ≤ i \/ ys.length ≤ i)⟩
section
variable {X : Cx} {es : List Expr} {x1 : Nat} {pp : Pos}
def iZip (K : PySem.W.Frag) (ta : TA) : TI := fun σ H R => ta σ H fun vs H1 => ∃ a b xs ys, vs = [.ref a, .ref b] /\ SqT K H1 a xs /\ SqT K H1 b ys /\ R (Itz K a b) H1
end
def LoopZ (K : PySem.W.Frag) (g : TG) (tb : TS) (D : Ends) (σ : St) (vs : List V) (H1 : Hp) : Prop := ∃ a b xs ys, vs = [.ref a, .ref b] /\ SqT K H1 a xs /\ SqT K H1 b ys /\ ∃ W : Nat -> Nat -> St -> Hp -> Prop, (∃ m, W 0 m σ H1) /\ ∀ i m σ H, W i m σ H ->
  ((Itz K a b).stop i H /\ D.nx σ H) \/ ((Itz K a b).go i H /\ ∃ N : St -> Hp -> Prop, (∀ σ' H', N σ' H' -> ∃ m', m' < m /\ W (i + 1) m' σ' H') /\ ∀ x H', (Itz K a b).yld i H x H' -> g x σ H' fun σ2 H2 => tb { D with nx := N, ct := N, bk := D.nx } σ2 H2)
theorem for_eqZ {K : PySem.W.Frag} {ta : TA} {g : TG} {tb : TS} {D : Ends} {σ : St} {H : Hp} : tFor (iZip K ta) g tb D σ H = ta σ H fun vs H1 => LoopZ K g tb D σ vs H1 := rfl
theorem LoopZ.mk {K : PySem.W.Frag} {a b : Addr} {xs ys : List V} {g : TG} {tb : TS} {D : Ends} {σ : St} {H : Hp} (n : Nat) (hn : n = min xs.length ys.length) (h1 : SqT K H a xs) (h2 : SqT K H b ys) (Pv : Nat -> St -> Hp -> Prop) (h0 : Pv 0 σ H) (hl : ∀ i σ H, i ≤ n -> Pv i σ H -> SqT K H a xs /\ SqT K H b ys)
    (hs : ∀ i x y σ H T, i < n -> xs[i]? = some x -> ys[i]? = some y -> Pv i σ H -> H T = none -> g (.ref T) σ (upd H T (.tup [x, y])) fun σ2 H2 => tb { D with nx := Pv (i + 1), ct := Pv (i + 1), bk := D.nx } σ2 H2) (hd : ∀ σ H, Pv n σ H -> D.nx σ H) :
    LoopZ K g tb D σ [.ref a, .ref b] H := by
  subst hn
  refine ⟨a, b, xs, ys, rfl, h1, h2, fun i m σ H => m = min xs.length ys.length - i /\ i ≤ min xs.length ys.length /\ Pv i σ H, ⟨_, rfl, Nat.zero_le _, h0⟩, ?_⟩
  rintro i m σ H ⟨rfl, hi, p⟩
  obtain ⟨k1, k2⟩ := hl i σ H hi p
  by_cases hlt : i < min xs.length ys.length
  · have l1 : i < xs.length := by omega
    have l2 : i < ys.length := by omega
    refine .inr ⟨⟨xs, ys, _, _, k1, k2, List.getElem?_eq_getElem l1, List.getElem?_eq_getElem l2⟩, Pv (i + 1), fun σ' H' p' => ⟨min xs.length ys.length - (i + 1), by omega, rfl, hlt, p'⟩, fun v H' yy => ?_⟩
    obtain ⟨T, x, y, rfl, hT, rfl, ex⟩ := yy
    obtain ⟨ex1, ex2⟩ := ex xs ys k1 k2
    exact hs i x y σ H T hlt ex1 ex2 p hT
  · have e : i = min xs.length ys.length := by omega
    exact .inl ⟨⟨xs, ys, k1, k2, by omega⟩, hd σ H (e ▸ p)⟩
def CompZ (K : PySem.W.Frag) (k : Nat) (js : List Nat) (g : TG) (te : TE) (σ : St) (vs : List V) (H1 : Hp) (Q : VK) : Prop := ∃ a b xs ys, vs = [.ref a, .ref b] /\ SqT K H1 a xs /\ SqT K H1 b ys /\ ∃ W : Nat -> Nat -> List V -> St -> Hp -> Prop, (∃ m, W 0 m [] (compSt k js σ) H1) /\ ∀ i m zs σ' H', W i m zs σ' H' ->
    ((Itz K a b).stop i H' /\ ∀ p, H' p = none -> Q (.ref p) (upd H' p (.lst zs))) \/
    ((Itz K a b).go i H' /\ zs.length < sizeLine /\ ∃ N : List V -> St -> Hp -> Prop, (∀ zs σ2 H2, N zs σ2 H2 -> ∃ m', m' < m /\ W (i + 1) m' zs σ2 H2) /\ ∀ x H2, (Itz K a b).yld i H' x H2 -> g x σ' H2 fun σ3 H3 => te σ3 H3 fun v H4 => N (zs ++ [v]) σ3 H4)
theorem comp_eqZ {K : PySem.W.Frag} {k : Nat} {js : List Nat} {ta : TA} {g : TG} {te : TE} {σ : St} {H : Hp} {Q : VK} : tComp (iZip K ta) k js g te σ H Q = ta σ H fun vs H1 => CompZ K k js g te σ vs H1 Q := rfl
theorem CompZ.mk {K : PySem.W.Frag} {a b : Addr} {xs ys : List V} {k : Nat} {js : List Nat} {g : TG} {te : TE} {Q : VK} {σ : St} {H : Hp} (n : Nat) (hn : n = min xs.length ys.length) (h1 : SqT K H a xs) (h2 : SqT K H b ys) (Pv : Nat -> List V -> St -> Hp -> Prop) (h0 : Pv 0 [] (compSt k js σ) H) (hl : ∀ i zs σ H, i ≤ n -> Pv i zs σ H -> SqT K H a xs /\ SqT K H b ys)
    (hs : ∀ i x y zs σ H T, i < n -> xs[i]? = some x -> ys[i]? = some y -> Pv i zs σ H -> H T = none -> zs.length < sizeLine /\ g (.ref T) σ (upd H T (.tup [x, y])) fun σ3 H3 => te σ3 H3 fun v H4 => Pv (i + 1) (zs ++ [v]) σ3 H4) (hz : ∀ zs σ H, Pv n zs σ H -> ∀ p, H p = none -> Q (.ref p) (upd H p (.lst zs))) (hlen : ∀ i zs σ H, Pv i zs σ H -> zs.length < sizeLine) :
    CompZ K k js g te σ [.ref a, .ref b] H Q := by
  subst hn
  refine ⟨a, b, xs, ys, rfl, h1, h2, fun i m zs σ H => m = min xs.length ys.length - i /\ i ≤ min xs.length ys.length /\ Pv i zs σ H, ⟨_, rfl, Nat.zero_le _, h0⟩, ?_⟩
  rintro i m zs σ H ⟨rfl, hi, p⟩
  obtain ⟨k1, k2⟩ := hl i zs σ H hi p
  by_cases hlt : i < min xs.length ys.length
  · have l1 : i < xs.length := by omega
    have l2 : i < ys.length := by omega
    refine .inr ⟨⟨xs, ys, _, _, k1, k2, List.getElem?_eq_getElem l1, List.getElem?_eq_getElem l2⟩, hlen _ _ _ _ p, Pv (i + 1), fun zs' σ' H' p' => ⟨min xs.length ys.length - (i + 1), by omega, rfl, hlt, p'⟩, fun v H' yy => ?_⟩
    obtain ⟨T, x, y, rfl, hT, rfl, ex⟩ := yy
    obtain ⟨ex1, ex2⟩ := ex xs ys k1 k2
    exact (hs i x y zs σ H T hlt ex1 ex2 p hT).2
  · have e : i = min xs.length ys.length := by omega
    exact .inl ⟨⟨xs, ys, k1, k2, by omega⟩, hz zs σ H (e ▸ p)⟩
section
variable {X : Cx}
theorem call_sumL (hc : X.calm = true) : CallR X (.builtin "sum") (fun xs H Q => ∃ (a : Addr) (ns : List Int), xs = [.ref a] /\ SqL X.K H a (ns.map V.int) /\ Q (.int ns.sum) H) := by
  intro pins s σ H xs us Q I r h
  obtain ⟨a, ns, rfl, hq, q⟩ := h
  obtain ⟨u, rfl, ru⟩ := z3z r
  cases (show u = Value.ref a from ru)
  obtain ⟨its, rv, pl, hz⟩ := I.list hq
  have hi := z3h rv
  have hn := hi.numsOf
  obtain ⟨ps, e⟩ := hi.allInts.items
  have hl : s.heap.IsList a (intItems ps) := e ▸ pl.isList
  refine sum_intListG (I.ok.hd hc) hl fun h' tk t' kk => ?_
  have e2 : preSum (numAt ps) ps.size = ns.sum := by
    rw [preSum_eq, List.take_of_length_le (by simp), ← nums_intItems, ← e]
    exact congrArg List.sum hn
  rw [e2]
  exact ⟨.int ns.sum, H, I.kept kk, ⟨t', rfl⟩, q⟩
def Its (lo st : Int) (n : Nat) : It := ⟨fun i _ => i < n, fun i H x H' => H' = H /\ x = .int (lo + i * st), fun i _ => n ≤ i⟩
def iRng3 (ta : TA) : TI := fun σ H R => ta σ H fun vs H1 => ∃ i j c : Int, vs = [.int i, .int j, .int c] /\ (c ≠ 0 /\ c.natAbs < 1073741824 /\ Builtin.Range.small i j c = true) /\ R (Its i c (Builtin.Range.rangeSize i j c).toNat) H1
end
def LoopS (lo st : Int) (n : Nat) (g : TG) (tb : TS) (D : Ends) (σ : St) (H1 : Hp) : Prop := ∃ W : Nat -> Nat -> St -> Hp -> Prop, (∃ m, W 0 m σ H1) /\ ∀ i m σ H, W i m σ H ->
  ((Its lo st n).stop i H /\ D.nx σ H) \/ ((Its lo st n).go i H /\ ∃ N : St -> Hp -> Prop, (∀ σ' H', N σ' H' -> ∃ m', m' < m /\ W (i + 1) m' σ' H') /\ ∀ x H', (Its lo st n).yld i H x H' -> g x σ H' fun σ2 H2 => tb { D with nx := N, ct := N, bk := D.nx } σ2 H2)
theorem for_eqR3 {ta : TA} {g : TG} {tb : TS} {D : Ends} {σ : St} {H : Hp} : tFor (iRng3 ta) g tb D σ H = ta σ H fun vs H1 => ∃ i j c : Int, vs = [.int i, .int j, .int c] /\ (c ≠ 0 /\ c.natAbs < 1073741824 /\ Builtin.Range.small i j c = true) /\ LoopS i c (Builtin.Range.rangeSize i j c).toNat g tb D σ H1 := rfl
theorem LoopS.mk {lo st : Int} {n : Nat} {g : TG} {tb : TS} {D : Ends} {σ : St} {H : Hp} (Pv : Nat -> St -> Hp -> Prop) (h0 : Pv 0 σ H)
    (hs : ∀ i σ H, i < n -> Pv i σ H -> g (.int (lo + i * st)) σ H fun σ2 H2 => tb { D with nx := Pv (i + 1), ct := Pv (i + 1), bk := D.nx } σ2 H2) (hd : ∀ σ H, Pv n σ H -> D.nx σ H) : LoopS lo st n g tb D σ H := by
  refine ⟨fun i m σ H => m = n - i /\ i ≤ n /\ Pv i σ H, ⟨_, rfl, Nat.zero_le _, h0⟩, ?_⟩
  rintro i m σ H ⟨rfl, hi, p⟩
  by_cases hlt : i < n
  · refine .inr ⟨hlt, Pv (i + 1), fun σ' H' p' => ⟨n - (i + 1), by omega, rfl, hlt, p'⟩, fun v H' yy => ?_⟩
    obtain ⟨rfl, rfl⟩ := yy
    exact hs i σ _ hlt p
  · have e : i = n := by omega
    exact .inl ⟨(show n ≤ i by omega), hd σ H (e ▸ p)⟩
def CompS (lo st : Int) (n k : Nat) (js : List Nat) (g : TG) (te : TE) (σ : St) (H1 : Hp) (Q : VK) : Prop := ∃ W : Nat -> Nat -> List V -> St -> Hp -> Prop, (∃ m, W 0 m [] (compSt k js σ) H1) /\ ∀ i m ys σ' H', W i m ys σ' H' ->
    ((Its lo st n).stop i H' /\ ∀ p, H' p = none -> Q (.ref p) (upd H' p (.lst ys))) \/
    ((Its lo st n).go i H' /\ ys.length < sizeLine /\ ∃ N : List V -> St -> Hp -> Prop, (∀ zs σ2 H2, N zs σ2 H2 -> ∃ m', m' < m /\ W (i + 1) m' zs σ2 H2) /\ ∀ x H2, (Its lo st n).yld i H' x H2 -> g x σ' H2 fun σ3 H3 => te σ3 H3 fun v H4 => N (ys ++ [v]) σ3 H4)
theorem comp_eqR3 {k : Nat} {js : List Nat} {ta : TA} {g : TG} {te : TE} {σ : St} {H : Hp} {Q : VK} : tComp (iRng3 ta) k js g te σ H Q = ta σ H fun vs H1 => ∃ i j c : Int, vs = [.int i, .int j, .int c] /\ (c ≠ 0 /\ c.natAbs < 1073741824 /\ Builtin.Range.small i j c = true) /\ CompS i c (Builtin.Range.rangeSize i j c).toNat k js g te σ H1 Q := rfl
theorem CompS.mk {lo st : Int} {n k : Nat} {js : List Nat} {g : TG} {te : TE} {Q : VK} {σ : St} {H : Hp} (Pv : Nat -> List V -> St -> Hp -> Prop) (h0 : Pv 0 [] (compSt k js σ) H) (hlen : ∀ i ys σ H, Pv i ys σ H -> ys.length < sizeLine)
    (hs : ∀ i ys σ H, i < n -> Pv i ys σ H -> g (.int (lo + i * st)) σ H fun σ3 H3 => te σ3 H3 fun v H4 => Pv (i + 1) (ys ++ [v]) σ3 H4) (hd : ∀ ys σ H, Pv n ys σ H -> ∀ p, H p = none -> Q (.ref p) (upd H p (.lst ys))) : CompS lo st n k js g te σ H Q := by
  refine ⟨fun i m ys σ H => m = n - i /\ i ≤ n /\ Pv i ys σ H, ⟨_, rfl, Nat.zero_le _, h0⟩, ?_⟩
  rintro i m ys σ H ⟨rfl, hi, p⟩
  by_cases hlt : i < n
  · refine .inr ⟨hlt, hlen _ _ _ _ p, Pv (i + 1), fun zs σ' H' p' => ⟨n - (i + 1), by omega, rfl, hlt, p'⟩, fun v H' yy => ?_⟩
    obtain ⟨rfl, rfl⟩ := yy
    exact hs i ys σ _ hlt p
  · have e : i = n := by omega
    exact .inl ⟨(show n ≤ i by omega), hd ys σ H (e ▸ p)⟩
open AutoSeq1 (wpAny_loadPart')
section
variable {X : Cx}
def rRepT : R2 := fun x y H Q => ∃ a k xs, x = .ref a /\ y = .int k /\ H a = some (.tup xs) /\ xs ≠ [] /\ (0 ≤ k /\ k < 2 ^ 63) /\ xs.length * k.toNat ≤ sizeLine /\ (k = 1 -> Q (.ref a) H) /\ (k ≠ 1 -> ∀ p, H p = none -> Q (.ref p) (upd H p (.tup (List.replicate k.toNat xs).flatten)))
end
section
variable {X : Cx}
def rCatS : R2 := fun x y H Q => ∃ a b xs ys, x = .ref a /\ y = .ref b /\ H a = some (.tup xs) /\ H b = some (.tup ys) /\ xs.length + ys.length ≤ sizeLine /\ ∀ r H', Same H H' -> H' r = some (.tup (xs ++ ys)) -> Q (.ref r) H'
theorem z1x : OpR X (binaryOp .Add) rCatS := by
  intro pins s σ H x y v u Q I rx ry h
  obtain ⟨a, b, xs, ys, rfl, rfl, ha, hb, hz, q⟩ := h
  refine op_catA pins s σ H _ _ v u Q I rx ry ⟨a, b, xs, ys, rfl, rfl, .of ha, .of hb, hz, fun e => ?_, fun _ e => ?_, fun _ _ p hp => ?_⟩
  · subst e; exact q b H (Same.refl _) hb
  · subst e; exact q a H (Same.refl _) (by rw [List.append_nil]; exact ha)
  · exact q p _ (z0b hp _) z0g
def rSlTS : V -> Option Int -> Option Int -> Hp -> VK -> Prop := fun x lo hi H Q => ∃ a xs, x = .ref a /\ H a = some (.tup xs) /\ ¬ (HT.sIx xs.length 0 lo = 0 /\ HT.sIx xs.length xs.length hi = xs.length) /\ ∀ r H', Same H H' -> H' r = some (.tup (cutV xs lo hi)) -> Q (.ref r) H'
theorem sl_tupS : SlR X rSlTS := by
  intro pins s σ H x v vl vu lo hi sl Q I rx hs pl pu h
  obtain ⟨a, xs, e, ha, nw, q⟩ := h
  exact sl_tup pins s σ H x v vl vu lo hi sl Q I rx hs pl pu ⟨a, xs, e, .of ha, nw, fun p hp => q p _ (z0b hp _) z0g⟩
end
theorem z2r {names : List (Str × NameKind)} {cl : List (Str × Addr)} (h : names.all (fun y => match y.2 with | .cell => (cl.lookup y.1).isSome | .free => (cl.lookup y.1).isSome | _ => true) = true) :
    ∀ x, (names.lookup x = some .cell \/ names.lookup x = some .free) -> ∃ c, cl.lookup x = some c := by
  intro x hx
  have z := List.all_eq_true.mp h
  rcases hx with hx | hx
  · exact Option.isSome_iff_exists.mp (z _ (PySem.mem_of_lookup hx))
  · exact Option.isSome_iff_exists.mp (z _ (PySem.mem_of_lookup hx))
theorem cap1 {X : Cx} {scope : Scope} {cl : List (Str × Addr)} {x0 : Str} {j0 : Nat} (c0 : Cap X scope cl x0 j0) : ∀ (i : Nat) x j, [x0][i]? = some x -> [j0][i]? = some j -> Cap X scope cl x j
  | 0, _, _, h1, h2 => by cases h1; cases h2; exact c0
  | _ + 1, _, _, h1, _ => by cases h1
theorem cap2 {X : Cx} {scope : Scope} {cl : List (Str × Addr)} {x0 x1 : Str} {j0 j1 : Nat} (c0 : Cap X scope cl x0 j0) (c1 : Cap X scope cl x1 j1) : ∀ (i : Nat) x j, [x0, x1][i]? = some x -> [j0, j1][i]? = some j -> Cap X scope cl x j
  | 0, _, _, h1, h2 => by cases h1; cases h2; exact c0
  | 1, _, _, h1, h2 => by cases h1; cases h2; exact c1
  | _ + 2, _, _, h1, _ => by cases h1
section
variable {prog : Program} {w : World} {A : Around} {R : Result -> Shared -> Prop} {s : Shared}
theorem compLoop_if {elt target iter cnd : Expr} {scope : Scope} {pos : Pos} {it acc : Value} {env : Env} (I : Nat -> Shared -> Prop)
    (turn : ∀ n s, I n s -> wpAny (model prog w) A (pyNext it) (fun r s₁ => match r with
      | none => R (.ok .next) s₁
      | some v => wpAny (model prog w) A (letOwnedTupleGo target it v) (fun _ s₀ => wpAny (model prog w) A (assign target env v) (fun _ s₂ => wpAny (model prog w) A (isTrue cnd env (eval cnd env)) (fun b s₃ =>
          if b = true then wpAny (model prog w) A (eval elt env) (fun x s₄ =>
            wpAny (model prog w) A (call (.builtin "list.append") [acc, x]) (fun _ s₅ => ∃ m, m < n /\ I m s₅) (fun _ _ => False) s₄) (fun _ _ => False) s₃
          else ∃ m, m < n /\ I m s₃)
          (fun _ _ => False) s₂) (fun _ _ => False) s₀) (fun _ _ => False) s₁) (fun _ _ => False) s)
    (n : Nat) (h : I n s) :
    codeAny (model prog w) A (.compLoop (.ListComp elt [⟨target, iter, [cnd], 0⟩] scope pos) 0 it acc env) R s := by
  refine codeAny_loop rfl I (fun n s hI => ?_) n h
  show wpAny _ _ ((compTurn (.ListComp elt [⟨target, iter, [cnd], 0⟩] scope pos) 0 it acc env).onRaise (fun x => do noteFrame x env; theTreesLotGoes x)) _ _ s
  refine wpAny_noted ?_
  rw [compTurn_list]
  refine wpAny_bind (wpAny_standAt (wpAny_bind (wpAny_mono (turn n s hI) (fun r s₁ h₁ => ?_) fun _ _ h' => h'.elim)))
  cases r with
  | none => exact wpAny_pure h₁
  | some v =>
    refine wpAny_bind (wpAny_mono h₁ (fun _ s₀ h₀ => ?_) fun _ _ h' => h'.elim)
    refine wpAny_bind (wpAny_mono h₀ (fun _ s₂ h₂ => ?_) fun _ _ h' => h'.elim)
    refine wpAny_bind (wpAny_mono (wpAny_tests_one h₂) (fun ok s₃ h₃ => ?_) fun _ _ h' => h'.elim)
    cases ok with
    | false => exact wpAny_pure ⟨rfl, h₃⟩
    | true => exact wpAny_bind (wpAny_bind (wpAny_mono h₃ (fun x s₄ h₄ => wpAny_bind (wpAny_mono h₄ (fun _ s₅ h₅ => wpAny_pure (wpAny_pure ⟨rfl, h₅⟩)) fun _ _ z => z.elim)) fun _ _ z => z.elim))
end
def tCompI (wi : TI) (k : Nat) (js : List Nat) (g : TG) (tc : TT) (te : TE) : TE := fun σ H Q => wi σ H fun J H1 =>
  ∃ W : Nat -> Nat -> List V -> St -> Hp -> Prop, (∃ m, W 0 m [] (compSt k js σ) H1) /\ ∀ i m ys σ' H', W i m ys σ' H' ->
    (J.stop i H' /\ ∀ p, H' p = none -> Q (.ref p) (upd H' p (.lst ys))) \/
    (J.go i H' /\ ys.length < sizeLine /\ ∃ N : List V -> St -> Hp -> Prop, (∀ zs σ2 H2, N zs σ2 H2 -> ∃ m', m' < m /\ W (i + 1) m' zs σ2 H2) /\
      ∀ x H2, J.yld i H' x H2 -> g x σ' H2 fun σ3 H3 => tc σ3 H3 fun b H4 => if b = true then te σ3 H4 fun v H5 => N (ys ++ [v]) σ3 H5 else N ys σ3 H4)
theorem pe_compI {X : Cx} {elt tg iter cnd : Expr} {scope : Scope} {cl : List (Str × Addr)} {pos : Pos} {own fv : List Str} {js : List Nat} {wi : TI} {g : TG} {tc : TT} {te : TE}
    (hc : X.calm = true) (hi : PI X tg iter wi) (hclos : closureFor scope X.env = pure cl) (hcell : ∀ y ∈ scope.names, y.2 ≠ .cell) (hkind : scope.kind = .function)
    (hnames : ∀ y ∈ scope.names, y.2 = .local -> scope.names.lookup y.1 = some .local)
    (hcl : ∀ x c, cl.lookup x = some c -> X.env.cells.lookup x = some c)
    (hhas : ∀ x, ((relabel scope X.env).names.lookup x = some .cell \/ (relabel scope X.env).names.lookup x = some .free) -> ∃ c, cl.lookup x = some c)
    (hlen : js.length = fv.length) (hcap : ∀ (i : Nat) x j, fv[i]? = some x -> js[i]? = some j -> Cap X scope cl x j)
    (hg : ∀ (C : Addr) (ex : List Addr) (s : Shared) (H : Hp), PG (cxComp X (own ++ fv) scope cl C ex s H) tg g)
    (he : ∀ (C : Addr) (ex : List Addr) (s : Shared) (H : Hp), PE (cxComp X (own ++ fv) scope cl C ex s H) elt te)
    (ht : ∀ (C : Addr) (ex : List Addr) (s : Shared) (H : Hp), PT (cxComp X (own ++ fv) scope cl C ex s H) cnd tc)
    (hs : ∀ x, foldedSetIterable iter X.env x = pure x := by intro _; rfl) :
    PE X (.ListComp elt [⟨tg, iter, [cnd], 0⟩] scope pos) (tCompI wi own.length js g tc te) := by
  intro pins s σ H Q I h
  rw [eval_ListComp]
  refine wpAny_comprehension_free (use := none) rfl hs hclos hkind hnames (thn (hi pins s σ H _ I h) fun v s1 h1 => thn h1 fun itv s2 h2 => ?_)
  obtain ⟨it, fp, tn, J, H2, e, I2, T, st2, f2, W, ⟨m0, w0⟩, turn⟩ := h2
  subst e
  refine wpAny_newObj_type (wpAny_newFunctionEnv hcell (by intro y hy; simp at hy) (fun h₁ hns₁ hsb₁ => ?_) hkind)
  dsimp only at hns₁ hsb₁ ⊢
  generalize hHp : s2.heap.push { cls := .type "list", dict := none, data := .seq ([] : List Value).toArray } = hL at hns₁ hsb₁ ⊢
  have hC : hL.objs.size = s2.heap.objs.size + 1 := by rw [← hHp, Heap.size_push]
  have hDC : s2.heap.objs.size ≠ hL.objs.size := by rw [hC]; exact Nat.ne_of_lt (Nat.lt_succ_self _)
  have ltC : ∀ b, b < s2.heap.objs.size -> b ≠ hL.objs.size := fun b hb => by rw [hC]; exact Nat.ne_of_lt (Nat.lt_succ_of_lt hb)
  have old : ∀ b o, s2.heap.get? b = some o -> h₁.get? b = some o := fun b o e => hsb₁.extBut b o (ltC b (Heap.lt_size e)) (Heap.get?_push_of_some _ (hHp ▸ Heap.get?_push_of_some _ e))
  have hacc : h₁.get? s2.heap.objs.size = some { cls := .type "list", data := .seq ([] : List Value).toArray 0 } := hsb₁.extBut _ _ hDC (Heap.get?_push_of_some _ (hHp ▸ Heap.get?_push_size _ rfl))
  have hfresh : ∀ a, s2.heap.objs.size ≤ a -> H2 a = none := fun a ha => I2.hok.fresh ha
  have fpL : ∀ b ∈ fp, b < s2.heap.objs.size := fun b hb => by
    obtain ⟨o, e, _⟩ := T.obj _ _ st2 b hb
    exact Heap.lt_size e
  have cellL : ∀ x c, cl.lookup x = some c -> c < s2.heap.objs.size := fun x c e => by
    obtain ⟨v, q⟩ := I2.cell x c (hcl x c e)
    exact q.lt
  have pinL : ∀ p ∈ X.pn ++ pins, p.1 < s2.heap.objs.size := fun p hp => Heap.lt_size (I2.pin p hp).1
  generalize hX : cxComp X (own ++ fv) scope cl hL.objs.size fp s2 H2 = Y
  have ok : Y.Ok := by
    subst hX
    refine ⟨I2.ok.mod, hkind, I2.ok.glob, I2.ok.blt, by show s2.heap.objs.size ≤ hL.objs.size; omega, fun x y c h1 h2 => I2.ok.inj x y c (hcl x c h1) (hcl y c h2), fun x hx => hhas x hx,
      fun x c hf => absurd hf (by show ¬ (false = true); decide), I2.ok.hd, I2.ok.frames, .inl rfl, fun b hb => ⟨ltC b (fpL b hb), fun x c e => (f2 b hb).2.2.2.2.1 x c (hcl x c e)⟩, I2.bs, Nat.le_trans I2.ok.bsz I2.sz, fun b o e hb => ?_, fun b hb hz => ?_, I2.stack, I2.stkFree⟩
    · rcases (f2 b hb).2.2.2.1 with z | z
      · exact I2.ok.noex b o e z
      · exact absurd (Nat.lt_of_lt_of_le (Heap.lt_size e) (Nat.le_trans I2.ok.bsz z)) (Nat.lt_irrefl _)
    · rcases List.mem_cons.mp (I2.stkSub b hz) with z | z
      · exact (f2 b hb).2.1 z
      · exact (f2 b hb).2.2.1 z
  have hYl : Y.env.locals = hL.objs.size := by subst hX; rfl
  have hYs : Y.s₀ = s2 := by subst hX; rfl
  have hYH : Y.H₀ = H2 := by subst hX; rfl
  have hYx : Y.ex = fp := by subst hX; rfl
  have hYf : Y.fs = frs X.stack := by subst hX; rfl
  have hYc : Y.env.cells = cl := by subst hX; rfl
  have hYp : Y.pn = X.pn := by subst hX; rfl
  have pinOk : ∀ p ∈ X.pn ++ pins, s2.heap.get? p.1 = some p.2 /\ H2 p.1 = none /\ p.1 ≠ hL.objs.size /\ p.1 ∉ frs X.stack /\ ∀ v, p.2.data ≠ .cell v := fun p hp => by
    obtain ⟨e, n, ne, nf, d⟩ := I2.pin p hp
    refine ⟨e, n, ltC _ (Heap.lt_size e), fun z => ?_, d⟩
    rcases List.mem_cons.mp (I2.stkSub _ z) with q | q
    · exact ne q
    · exact nf q
  have stkL : ∀ b ∈ frs X.stack, b < s2.heap.objs.size := fun b hb => by
    obtain ⟨_, o, ho, _⟩ := I2.stack.mem hb
    exact Heap.lt_size ho
  have I3 : Inv Y (pins ++ [(s2.heap.objs.size, { cls := .type "list", data := .seq ([] : List Value).toArray 0 })]) (compSt own.length js σ) H2 { s2 with heap := h₁, toks := s2.toks + ([] : List (Str × Value)).length } := by
    refine ⟨ok, by subst hX; rfl, I2.bare, by rw [hYH, hYs]; exact Un.kept old, ⟨_, by rw [hYl]; exact hns₁, fun i x v e1 e2 e3 => ?_⟩, fun x c e => ?_, by rw [hYl]; exact hfresh _ (by omega), fun x c e => ?_, fun p hp => ?_, by subst hX; exact I2.hok.kept old, ?_⟩
    · subst hX
      have e1 : (own ++ fv)[i]? = some x := e1
      unfold compSt at e2
      by_cases hi : i < own.length
      · rw [List.getElem?_append_left (by simpa using hi), List.getElem?_replicate] at e2
        split at e2 <;> cases e2
      · rw [List.getElem?_append_right (by simpa using hi), List.length_replicate, List.getElem?_map] at e2
        rw [List.getElem?_append_right (by omega)] at e1
        cases ej : js[i - own.length]? with
        | none => rw [ej] at e2; cases e2
        | some j =>
          rw [ej] at e2
          have cp := hcap _ x j e1 ej
          have e2' : σ[j]? = some (some v) := join_some (Option.some.inj e2)
          obtain ⟨m, hn, hl⟩ := I2.loc
          obtain ⟨u, r, l⟩ := hl j x v cp.at_ e2' (cp.out.elim (fun z => .inr (.inl z)) fun z => .inr (.inr z))
          refine ⟨u, r, .inr ⟨cp.inn, ?_⟩⟩
          obtain ⟨c, ec⟩ := hhas x cp.inn
          rcases l with ⟨k, _⟩ | ⟨_, c', ec', z⟩
          · have k : X.env.scope.names.lookup x = some .local := k
            rcases cp.out with q | q <;> rw [q] at k <;> cases k
          · rw [hcl x c ec] at ec'
            cases ec'
            obtain ⟨o, ho, hd⟩ := z
            exact ⟨c, ec, o, old _ _ ho, hd⟩
    · rw [hYc] at e
      obtain ⟨v, o, ho, hd⟩ := I2.cell x c (hcl x c e)
      exact ⟨v, o, old _ _ ho, hd⟩
    · rw [hYc] at e
      exact I2.freeC x c (hcl x c e)
    · rw [hYp] at hp
      rw [hYl, hYf]
      rcases List.mem_append.mp hp with z | z
      · obtain ⟨a, b, c, d, f⟩ := pinOk p (List.mem_append_left _ z)
        exact ⟨old _ _ a, b, c, d, f⟩
      · rcases List.mem_append.mp z with z | z
        · obtain ⟨a, b, c, d, f⟩ := pinOk p (List.mem_append_right _ z)
          exact ⟨old _ _ a, b, c, d, f⟩
        · have e : p = _ := List.mem_singleton.mp z
          subst e
          exact ⟨hacc, hfresh _ (Nat.le_refl _), hDC, fun z => absurd (stkL _ z) (Nat.lt_irrefl _), fun v z => by cases z⟩
    · subst hX
      unfold compSt
      show _ = (own ++ fv).length
      simp [hlen]
  have hYprog : Y.prog = X.prog := by subst hX; rfl
  have hYw : Y.w = X.w := by subst hX; rfl
  have hYK : Y.K = X.K := by subst hX; rfl
  have hYA : Y.A = X.A := by subst hX; rfl
  have hYcalm : Y.calm = true := by subst hX; exact hc
  have hYxe : Y.xe = fun _ _ => False := by subst hX; rfl
  have hYenv : Y.env = compEnvC scope cl hL.objs.size X.env := by subst hX; rfl
  have hg' := hg hL.objs.size fp s2 H2
  have he' := he hL.objs.size fp s2 H2
  have ht' := ht hL.objs.size fp s2 H2
  rw [hX] at hg' he' ht'
  have fpOk : ∀ {H' : Hp} {pn : List (Addr × Obj)}, (∀ b ∈ fp, H' b = none) -> (∀ p ∈ pn, p.1 = s2.heap.objs.size \/ p ∈ pins) -> ∀ b ∈ fp, FpOk Y pn H' b := fun hn hp b hb => by
    refine ⟨hn b hb, by rw [hYl]; exact ltC b (fpL b hb), ?_, .inl (by rw [hYx]; exact hb), fun x c e => ?_, fun p hq => ?_⟩
    · rw [hYf]
      intro hz
      rcases List.mem_cons.mp (I2.stkSub b hz) with z | z
      · exact (f2 b hb).2.1 z
      · exact (f2 b hb).2.2.1 z
    · rw [hYc] at e
      exact (f2 b hb).2.2.2.2.1 x c (hcl x c e)
    · rw [hYp] at hq
      rcases List.mem_append.mp hq with z | z
      · exact (f2 b hb).2.2.2.2.2 p (List.mem_append_left _ z)
      · rcases hp p z with q | q
        · rw [q]; exact Ne.symm (Nat.ne_of_lt (fpL b hb))
        · exact (f2 b hb).2.2.2.2.2 p (List.mem_append_right _ q)
  have loop : ∀ s₃ : Shared, s₃ = { s2 with heap := h₁, toks := s2.toks + ([] : List (Str × Value)).length } ->
      codeAny (model X.prog X.w) X.A (.compLoop (.ListComp elt [⟨tg, iter, [cnd], 0⟩] scope pos) 0 (.ref it) (.ref s2.heap.objs.size) (compEnvC scope cl hL.objs.size X.env))
        (compPost (model X.prog X.w) X.A X.xe none (EP X pins σ Q) (.ref s2.heap.objs.size) hL.objs.size) s₃ := by
    rintro s₃ rfl
    refine compLoop_if (fun n s' => ∃ i ys its k σ' H', Inv Y (pins ++ [(s2.heap.objs.size, { cls := .type "list", data := .seq (its : List Value).toArray k })]) σ' H' s' /\ tn i s'.heap /\ (∀ b ∈ fp, H' b = none) /\ Vals ys its /\ ys.length ≤ sizeLine /\ W i n ys σ' H') ?_ m0
      ⟨0, [], [], 0, _, H2, I3, T.keep _ _ _ st2 fun b _ o e => old b o e, fun b hb => (f2 b hb).1, .nil, Nat.zero_le _, w0⟩
    rintro n s4 ⟨i, ys, its, k, σ4, H4, I4, st4, fr4, rv, hz, w4⟩
    have pinD : ∀ p ∈ (pins ++ [(s2.heap.objs.size, ({ cls := .type "list", data := .seq (its : List Value).toArray k } : Obj))]), p.1 = s2.heap.objs.size \/ p ∈ pins := fun p hp => by
      rcases List.mem_append.mp hp with z | z
      · exact .inr z
      · rw [List.mem_singleton.mp z]; exact .inl rfl
    have F4 := fpOk (pn := pins ++ [(s2.heap.objs.size, { cls := .type "list", data := .seq (its : List Value).toArray k })]) fr4 pinD
    rcases turn i n ys σ4 H4 w4 with ⟨stop, qn⟩ | ⟨go, hlt, N, hN, step⟩
    · have d := T.done Y hYprog hYw hYK hYcalm i _ s4 σ4 H4 (fun _ _ => False) I4 F4 st4 stop
      rw [hYA] at d
      refine thn d fun r s5 ⟨hr, I5⟩ => ?_
      subst hr
      obtain ⟨m, hn, _⟩ := id I5.loc
      rw [hYl] at hn
      refine ⟨m, hn, fun h' sb => ?_⟩
      have hD := I5.pin (s2.heap.objs.size, { cls := .type "list", data := .seq (its : List Value).toArray k }) (List.mem_append_right _ (List.mem_append_right _ (List.mem_singleton.mpr rfl)))
      have hDn : H4 s2.heap.objs.size = none := hD.2.1
      have kp : ∀ b o, b ≠ hL.objs.size -> s5.heap.get? b = some o -> h'.get? b = some o := fun b o nb e => sb.extBut b o nb e
      have B := I5.base
      rw [hYH, hYs, hYx, hYf] at B
      have s2C : ∀ b o, s2.heap.get? b = some o -> b ≠ hL.objs.size := fun b o e => ltC b (Heap.lt_size e)
      have trk : ∀ b u, H4 b = some u -> b ≠ s2.heap.objs.size := fun b u e z => by rw [z, hDn] at e; cases e
      have trC : ∀ b u, H4 b = some u -> b ≠ hL.objs.size := fun b u e z => by
        have := I5.free
        rw [hYl, ← z, e] at this; cases this
      have hH2 : ∀ b u, H2 b = some u -> b ≠ s2.heap.objs.size := fun b u e z => by rw [z, hfresh _ (Nat.le_refl _)] at e; cases e
      refine ⟨.ref s2.heap.objs.size, upd H4 s2.heap.objs.size (.lst ys), I2.call' (ch := fp) (by show s5.os = s2.os; rw [I5.os, hYs]) ⟨fun b o e n hb hx => kp b o (s2C b o e) (B.keep b o e n hb hx), fun b o e n hb hx => ?_, fun b o e n hx => ?_, fun b o e hx => ?_, fun b xs e => ?_, fun b o u e => ?_, fun b ps e => ?_⟩ ?_ I5.bare (fun b hb => ⟨(f2 b hb).2.2.2.1, (f2 b hb).2.1, (f2 b hb).2.2.2.2.1, (f2 b hb).2.2.2.2.2⟩), rfl, qn _ hDn⟩
      · obtain ⟨sl, q⟩ := B.slot b o e n hb hx
        exact ⟨sl, kp b _ (s2C b o e) q⟩
      · rw [z1c (Nat.ne_of_lt (Heap.lt_size e))]
        exact B.free b o e n hx
      · obtain ⟨o', q⟩ := B.there b o e hx
        exact ⟨o', kp b o' (s2C b o e) q⟩
      · rw [z1c (hH2 b _ e)]
        exact B.tups b xs e
      · rw [z1c (hH2 b _ e)]
        exact B.frzs b o u e
      · obtain ⟨more, q⟩ := B.tbls b ps e
        exact ⟨more, by rw [z1c (hH2 b _ e)]; exact q⟩
      · intro b u e
        by_cases hb : b = s2.heap.objs.size
        · subst hb
          rw [z0g] at e
          cases e
          exact ⟨hz, its, k, rv, kp _ _ hDC hD.1⟩
        · rw [z1c hb] at e
          have okb := I5.hok b u e
          rw [hYprog, hYw] at okb
          refine okb.stay (fun c v hc q => kp c v ?_ q) (fun c q => by rw [z1c (trk c _ q)]; exact q) fun c xs q => by rw [z1c (trk c _ q)]; exact q
          rcases hc with z | z
          · rw [z]; exact trC b u e
          · exact trC c _ z
    · have d := T.item Y hYprog hYw hYK hYcalm i _ s4 σ4 H4 (fun _ _ => False) I4 F4 st4 go
      rw [hYA] at d
      refine thn d fun r s5 ⟨u, hr, h5⟩ => ?_
      subst hr
      refine thn h5 fun _ s6 ⟨x, H6, I6, r6, y6, st6, fr6⟩ => ?_
      have I6' := I6.pinned (fpOk (pn := pins ++ [(s2.heap.objs.size, { cls := .type "list", data := .seq (its : List Value).toArray k })]) fr6 pinD) (T.obj _ _ st6)
      have d7 := hg' _ s6 σ4 H6 x u _ I6' r6 (step x H6 y6)
      rw [hYprog, hYw, hYA, hYxe, hYenv] at d7
      refine thn d7 fun _ s7 ⟨σ7, H7, I7, q7⟩ => ?_
      have dt := ht' _ s7 σ7 H7 _ I7 q7
      rw [hYprog, hYw, hYA, hYxe, hYenv] at dt
      refine thn dt fun bb s7 ⟨H7, I7, q7⟩ => ?_
      cases bb with
      | false =>
        obtain ⟨m', hm, w8⟩ := hN _ _ _ q7
        have tn8 : tn (i + 1) s7.heap := T.keep _ _ _ st6 fun b hb o e => (I7.pin (b, o) (List.mem_append_right _ (List.mem_append_right _ (z1q hb e)))).1
        have fr8 : ∀ b ∈ fp, H7 b = none := fun b hb => by
          obtain ⟨o, e, d⟩ := T.obj _ _ st6 b hb
          exact (I7.pin (b, o) (List.mem_append_right _ (List.mem_append_right _ (z1q hb e)))).2.1
        exact ⟨m', hm, i + 1, ys, its, k, σ7, H7, I7.unpinned, tn8, fr8, rv, hz, w8⟩
      | true =>
        have q7 : te σ7 H7 _ := q7
        show wpAny _ _ (eval elt _) _ _ s7
        have d8 := he' _ s7 σ7 H7 _ I7 q7
        rw [hYprog, hYw, hYA, hYxe, hYenv] at d8
        refine thn d8 fun u8 s8 ⟨v8, H8, I8, r8, n8⟩ => ?_
        obtain ⟨m', hm, w8⟩ := hN _ _ _ n8
        have pD := I8.pin (s2.heap.objs.size, { cls := .type "list", data := .seq (its : List Value).toArray k }) (List.mem_append_right _ (List.mem_append_left _ (List.mem_append_right _ (List.mem_singleton.mpr rfl))))
        have tn8 : tn (i + 1) s8.heap := T.keep _ _ _ st6 fun b hb o e => (I8.pin (b, o) (List.mem_append_right _ (List.mem_append_right _ (z1q hb e)))).1
        have fr8 : ∀ b ∈ fp, H8 b = none := fun b hb => by
          obtain ⟨o, e, d⟩ := T.obj _ _ st6 b hb
          exact (I8.pin (b, o) (List.mem_append_right _ (List.mem_append_right _ (z1q hb e)))).2.1
        have J8 : Inv Y pins σ7 H8 s8 := I8.unpinned.unpinned
        have eD : s8.heap.get? s2.heap.objs.size = some { cls := .type "list", data := .seq its.toArray k } := pD.1
        refine call_meets F.slot_list_append ⟨_, eD, rfl⟩ F.entry_list_append (F.args_list_append_2 _ _) (PySem.list_append _ its.toArray k u8 (by rw [List.size_toArray, ← rv.length]; omega)) ⟨eD, ?_⟩
        have other : ∀ b o, b ≠ s2.heap.objs.size -> s8.heap.get? b = some o -> (s8.heap.update s2.heap.objs.size (Obj.mapSeq fun xs => xs.push u8)).get? b = some o := fun b o nb e => (Heap.get?_update_other s8.heap _ (Ne.symm nb)).trans e
        have J9 := J8.turned (t' := s8.toks) (it := s2.heap.objs.size) (h' := s8.heap.update s2.heap.objs.size (Obj.mapSeq fun xs => xs.push u8)) other pD.2.1 (by rw [hYl]; exact hDC) (.inr (by rw [hYs]; exact Nat.le_refl _))
          (fun x c e => by rw [hYc] at e; exact Nat.ne_of_lt (cellL x c e)) (fun p hp => by rw [hYp] at hp; exact Nat.ne_of_lt (pinL p hp))
        have ep : (its.toArray.push u8) = (its ++ [u8]).toArray := by simp
        obtain ⟨kk, upD⟩ : ∃ kk, (s8.heap.update s2.heap.objs.size (Obj.mapSeq fun xs => xs.push u8)).get? s2.heap.objs.size = some { cls := .type "list", data := .seq (its ++ [u8]).toArray kk } := by
          have z := PySem.IsL.update eD (fun xs => xs.push u8)
          rw [ep] at z
          exact ⟨_, z⟩
        refine ⟨m', hm, i + 1, ys ++ [v8], its ++ [u8], kk, σ7, H8, J9.pins_of fun p hp => ?_, T.keep _ _ _ tn8 fun b hb o e => other b o (Nat.ne_of_lt (fpL b hb)) e, fr8, rv.append (.cons r8 .nil), ?_, w8⟩
        · rcases List.mem_append.mp hp with z | z
          · exact J9.pin p (List.mem_append_right _ z)
          · rw [List.mem_singleton.mp z]
            exact ⟨upD, pD.2.1, by rw [hYl]; exact hDC, by rw [hYf]; exact fun z => absurd (stkL _ z) (Nat.lt_irrefl _), fun v z => by cases z⟩
        · rw [List.length_append, List.length_singleton]; omega
  exact codeAny_compStart_list (loop _ rfl) (T.self _ 0 _ _ _ (T.keep _ _ _ st2 fun b _ o e => old b o e) (loop _ rfl))
section
variable {pg : Program} {wd : World} {B : Around} {X0 : Value -> Shared -> Prop} {s0 : Shared}
end
def Ite (K : PySem.W.Frag) (a : Addr) : It := ⟨fun i H => ∃ xs x, SqT K H a xs /\ xs[i]? = some x,
  fun i H v H' => ∃ T x, v = .ref T /\ H T = none /\ H' = upd H T (.tup [.int i, x]) /\ ∀ xs, SqT K H a xs -> xs[i]? = some x, fun i H => ∃ xs, SqT K H a xs /\ xs.length ≤ i⟩
section
variable {X : Cx} {es : List Expr} {x1 : Nat} {pp : Pos}
def iEnum (K : PySem.W.Frag) (te : TE) : TI := fun σ H R => te σ H fun v H1 => ∃ a xs, v = .ref a /\ SqT K H1 a xs /\ R (Ite K a) H1
end
def CompE (K : PySem.W.Frag) (k : Nat) (js : List Nat) (g : TG) (te : TE) (σ : St) (v : V) (H1 : Hp) (Q : VK) : Prop := ∃ a xs, v = .ref a /\ SqT K H1 a xs /\ ∃ W : Nat -> Nat -> List V -> St -> Hp -> Prop, (∃ m, W 0 m [] (compSt k js σ) H1) /\ ∀ i m zs σ' H', W i m zs σ' H' ->
    ((Ite K a).stop i H' /\ ∀ p, H' p = none -> Q (.ref p) (upd H' p (.lst zs))) \/
    ((Ite K a).go i H' /\ zs.length < sizeLine /\ ∃ N : List V -> St -> Hp -> Prop, (∀ zs σ2 H2, N zs σ2 H2 -> ∃ m', m' < m /\ W (i + 1) m' zs σ2 H2) /\ ∀ x H2, (Ite K a).yld i H' x H2 -> g x σ' H2 fun σ3 H3 => te σ3 H3 fun v H4 => N (zs ++ [v]) σ3 H4)
theorem comp_eqE {K : PySem.W.Frag} {k : Nat} {js : List Nat} {tx : TE} {g : TG} {te : TE} {σ : St} {H : Hp} {Q : VK} : tComp (iEnum K tx) k js g te σ H Q = tx σ H fun v H1 => CompE K k js g te σ v H1 Q := rfl
theorem CompE.mk {K : PySem.W.Frag} {a : Addr} {xs : List V} {k : Nat} {js : List Nat} {g : TG} {te : TE} {Q : VK} {σ : St} {H : Hp} (h1 : SqT K H a xs) (Pv : Nat -> List V -> St -> Hp -> Prop) (h0 : Pv 0 [] (compSt k js σ) H) (hl : ∀ i zs σ H, i ≤ xs.length -> Pv i zs σ H -> SqT K H a xs /\ zs.length < sizeLine)
    (hs : ∀ i x zs σ H T, xs[i]? = some x -> Pv i zs σ H -> H T = none -> g (.ref T) σ (upd H T (.tup [.int i, x])) fun σ3 H3 => te σ3 H3 fun v H4 => Pv (i + 1) (zs ++ [v]) σ3 H4) (hz : ∀ zs σ H, Pv xs.length zs σ H -> ∀ p, H p = none -> Q (.ref p) (upd H p (.lst zs))) :
    CompE K k js g te σ (.ref a) H Q := by
  refine ⟨a, xs, rfl, h1, fun i m zs σ H => m = xs.length - i /\ i ≤ xs.length /\ Pv i zs σ H, ⟨_, rfl, Nat.zero_le _, h0⟩, ?_⟩
  rintro i m zs σ H ⟨rfl, hi, p⟩
  obtain ⟨k1, k2⟩ := hl i zs σ H hi p
  by_cases hlt : i < xs.length
  · refine .inr ⟨⟨xs, _, k1, List.getElem?_eq_getElem hlt⟩, k2, Pv (i + 1), fun zs' σ' H' p' => ⟨xs.length - (i + 1), by omega, rfl, hlt, p'⟩, fun v H' yy => ?_⟩
    obtain ⟨T, x, rfl, hT, rfl, ex⟩ := yy
    exact hs i x zs σ H T (ex xs k1) p hT
  · have e : i = xs.length := by omega
    exact .inl ⟨⟨xs, k1, by omega⟩, hz zs σ H (e ▸ p)⟩
def CompEI (K : PySem.W.Frag) (k : Nat) (js : List Nat) (g : TG) (tc : TT) (te : TE) (σ : St) (v : V) (H1 : Hp) (Q : VK) : Prop := ∃ a xs, v = .ref a /\ SqT K H1 a xs /\ ∃ W : Nat -> Nat -> List V -> St -> Hp -> Prop, (∃ m, W 0 m [] (compSt k js σ) H1) /\ ∀ i m zs σ' H', W i m zs σ' H' ->
    ((Ite K a).stop i H' /\ ∀ p, H' p = none -> Q (.ref p) (upd H' p (.lst zs))) \/
    ((Ite K a).go i H' /\ zs.length < sizeLine /\ ∃ N : List V -> St -> Hp -> Prop, (∀ zs σ2 H2, N zs σ2 H2 -> ∃ m', m' < m /\ W (i + 1) m' zs σ2 H2) /\ ∀ x H2, (Ite K a).yld i H' x H2 -> g x σ' H2 fun σ3 H3 => tc σ3 H3 fun b H4 => if b = true then te σ3 H4 fun v H5 => N (zs ++ [v]) σ3 H5 else N zs σ3 H4)
theorem comp_eqEI {K : PySem.W.Frag} {k : Nat} {js : List Nat} {tx : TE} {g : TG} {tc : TT} {te : TE} {σ : St} {H : Hp} {Q : VK} : tCompI (iEnum K tx) k js g tc te σ H Q = tx σ H fun v H1 => CompEI K k js g tc te σ v H1 Q := rfl
theorem CompEI.mk {K : PySem.W.Frag} {a : Addr} {xs : List V} {k : Nat} {js : List Nat} {g : TG} {tc : TT} {te : TE} {Q : VK} {σ : St} {H : Hp} (h1 : SqT K H a xs) (Pv : Nat -> List V -> St -> Hp -> Prop) (h0 : Pv 0 [] (compSt k js σ) H) (hl : ∀ i zs σ H, i ≤ xs.length -> Pv i zs σ H -> SqT K H a xs /\ zs.length < sizeLine)
    (hs : ∀ i x zs σ H T, xs[i]? = some x -> Pv i zs σ H -> H T = none -> g (.ref T) σ (upd H T (.tup [.int i, x])) fun σ3 H3 => tc σ3 H3 fun b H4 => if b = true then te σ3 H4 fun v H5 => Pv (i + 1) (zs ++ [v]) σ3 H5 else Pv (i + 1) zs σ3 H4) (hz : ∀ zs σ H, Pv xs.length zs σ H -> ∀ p, H p = none -> Q (.ref p) (upd H p (.lst zs))) :
    CompEI K k js g tc te σ (.ref a) H Q := by
  refine ⟨a, xs, rfl, h1, fun i m zs σ H => m = xs.length - i /\ i ≤ xs.length /\ Pv i zs σ H, ⟨_, rfl, Nat.zero_le _, h0⟩, ?_⟩
  rintro i m zs σ H ⟨rfl, hi, p⟩
  obtain ⟨k1, k2⟩ := hl i zs σ H hi p
  by_cases hlt : i < xs.length
  · refine .inr ⟨⟨xs, _, k1, List.getElem?_eq_getElem hlt⟩, k2, Pv (i + 1), fun zs' σ' H' p' => ⟨xs.length - (i + 1), by omega, rfl, hlt, p'⟩, fun v H' yy => ?_⟩
    obtain ⟨T, x, rfl, hT, rfl, ex⟩ := yy
    exact hs i x zs σ H T (ex xs k1) p hT
  · have e : i = xs.length := by omega
    exact .inl ⟨⟨xs, k1, by omega⟩, hz zs σ H (e ▸ p)⟩
end L2
namespace L2
open PySem PySem.Spec PyProof.Rows PySem.W PySem.Calls
def catchN (K : PySem.W.Frag) : List (Addr × TS) -> Value -> (TS -> Prop) -> Prop
  | [], _, _ => False
  | (C, ts) :: r, c, k => (PySem.W.exmOne K c (.ref C) = some true /\ k ts) \/ (PySem.W.exmOne K c (.ref C) = some false /\ catchN K r c k)
def caughtN (K : PySem.W.Frag) (cs : List (Addr × TS)) (D : Ends) : St -> XK := fun σ1 c _ H1 => catchN K cs c fun ts => ts D σ1 H1
def tTryN (K : PySem.W.Frag) (cs : List (Addr × TS)) (tb : (St -> XK) -> TS) : TS := fun D σ H => tb (caughtN K cs D) D σ H
inductive Clauses (X : Cx) : List ExceptHandler -> List (Addr × TS) -> Prop
  | nil : Clauses X [] []
  | cons {x : Str} {C : Addr} {b₀ : Stmt} {suite : List Stmt} {np hpos : Pos} {ts : TS} {r : List ExceptHandler} {tr : List (Addr × TS)} (hg : Gl X x) (hn : PySem.W.nsIn X.K mainGlobals x = some (some (.ref C)))
      (hs : ∀ (a : Addr) (pn : List (Addr × Obj)), PSs (X.suite a pn) (b₀ :: suite) ts) (hr : Clauses X r tr) (hd : (x == ("__debug__" : Str)) = false) : Clauses X (.ExceptHandler (some (.Name x np)) none (b₀ :: suite) hpos :: r) ((C, ts) :: tr)
theorem ps_tryN {X : Cx} {body : List Stmt} {h₀ : ExceptHandler} {hl : List ExceptHandler} {cs : List (Addr × TS)} {pos : Pos} {tb : (St -> XK) -> TS} (hstk : X.stack = X.env :: X.outer /\ X.env.frame = some X.env.locals)
    (hb : ∀ (xe : Value -> Shared -> Prop) (pn : List (Addr × Obj)) (EE : St -> XK), (∀ σ, PassesAt (CX1 X.prog X.w) (X.more xe pn) (EE σ) σ) -> PSs (X.more xe pn) body (tb EE)) (hc : Clauses X (h₀ :: hl) cs) :
    PS X (.Try body (h₀ :: hl) [] [] pos) (tTryN X.K cs tb) := by
  intro pins s σ H D I h
  refine wpAny_Try_except ?_
  generalize hXE : (fun e s₁ => wpAny (model X.prog X.w) X.A (noteFrame e X.env) (fun _ s₂ => wpAny (model X.prog X.w) X.A (setFlight e none) (fun _ s₃ => wpAny (model X.prog X.w) X.A (handleBy e X.env (h₀ :: hl)) (SP X pins D) X.xe s₃) X.xe s₂) X.xe s₁ : Value -> Shared -> Prop) = XE
  have toY : ∀ {σ' : St} {H' : Hp} {s' : Shared}, Inv X pins σ' H' s' -> Inv (X.more XE (X.pn ++ pins)) [] σ' H' s' := fun J => ⟨J.ok.more _ _, J.os, J.bare, J.base, J.loc, J.cell, J.free, J.freeC, fun p hp => J.pin p (by simpa using hp), J.hok, J.len⟩
  have ofY : ∀ {σ' : St} {H' : Hp} {s' : Shared} {pp : List (Addr × Obj)}, Inv (X.more XE (X.pn ++ pins)) pp σ' H' s' -> Inv X pins σ' H' s' := fun J => ⟨I.ok, J.os, J.bare, J.base, J.loc, J.cell, J.free, J.freeC, fun p hp => J.pin p (List.mem_append_left _ hp), J.hok, J.len⟩
  have body_ok := hb XE (X.pn ++ pins) (caughtN X.K cs D) ?_ [] s σ H D (toY I) h
  · refine thn body_ok fun fl s' q => ?_
    cases fl with
    | next => obtain ⟨σ', H', J, z⟩ := q; exact wpAny_execs_nil ⟨σ', H', ofY J, z⟩
    | brk => obtain ⟨σ', H', J, z⟩ := q; exact ⟨σ', H', ofY J, z⟩
    | cont => obtain ⟨σ', H', J, z⟩ := q; exact ⟨σ', H', ofY J, z⟩
    | ret u => obtain ⟨v, σ', H', J, r, z⟩ := q; exact ⟨v, σ', H', ofY J, r, z⟩
  intro σ1 pins1 H1 s1 e s' I1 hx
  obtain ⟨a, C', a0, H', B, rfl, os, bare, fl, inB, thB, un, okB, hcatch⟩ := hx
  have hcatch : catchN X.K cs (.ref C') fun ts => ts D σ1 H' := hcatch
  subst hXE
  have fl : Heap.FlyingW B (X.env :: X.outer) a (.ref C') a0 s'.heap := by
    have z : Heap.FlyingW B X.stack a (.ref C') a0 s'.heap := fl
    rw [hstk.1] at z; exact z
  have hfr : X.A.frames = some (X.env :: X.outer) := by rw [I.ok.frames, hstk.1]
  have at_ : ∀ h2 : Heap, Heap.FlyingW B (X.env :: X.outer) a (.ref C') a0 h2 -> s'.heap.UpToSlots h2 -> ∀ t2 : Nat, Inv X pins σ1 H' { s' with heap := h2, toks := t2 } := fun h2 f2 u2 t2 => by
    have J1 : Inv X pins σ1 H1 s1 := ofY I1
    have slot : ∀ b o, s1.heap.get? b = some o -> H1 b = none -> b ∈ frs X.stack -> ∃ sl, h2.get? b = some { o with slots := sl } := fun b o e nn hb => by
      obtain ⟨sl2, e2⟩ := un.slot b o e nn hb (by simp)
      obtain ⟨_, o3, e3, nf⟩ := J1.stack.mem hb
      rw [e] at e3; cases e3
      obtain ⟨sl3, e4⟩ := u2 b _ e2 nf
      exact ⟨sl3, e4⟩
    refine J1.call' (s' := { s' with heap := h2, toks := t2 }) (ch := []) os ⟨fun b o e nn hb _ => f2.1 _ _ (inB b o e nn hb), fun b o e nn hb _ => slot b o e nn hb, un.free, fun b o e _ => ?_, un.tups, un.frzs, un.tbls⟩ (okB.kept f2.1) bare (fun b z => nomatch z)
    by_cases hb : b ∈ frs X.stack
    · obtain ⟨sl, q⟩ := slot b o e (J1.stkFree b hb) hb
      exact ⟨_, q⟩
    · obtain ⟨o', q⟩ := thB b o e hb
      exact ⟨o', f2.1 _ _ q⟩
  refine wpAny_looks_onW hfr hstk.2 fl fun h4 held4 up4 => ?_
  refine wpAny_landsW held4 fun h5 fl5 up5 => ?_
  have J5 := at_ h5 fl5 (up4.trans up5) s'.toks
  obtain ⟨oe5, ve5, he5, hc5, hd5, _⟩ := fl5.first
  have toZ : ∀ {σ' : St} {H' : Hp} {s' : Shared}, Inv X pins σ' H' s' -> Inv (X.suite a (X.pn ++ pins)) [] σ' H' s' := fun J => ⟨J.ok.suite _ _, J.os, J.bare, J.base, J.loc, J.cell, J.free, J.freeC, fun p hp => J.pin p (by simpa using hp), J.hok, J.len⟩
  have ofZ : ∀ {σ' : St} {H' : Hp} {s' : Shared}, Inv (X.suite a (X.pn ++ pins)) [] σ' H' s' -> Inv X pins σ' H' s' := fun J => ⟨I.ok, J.os, J.bare, J.base, J.loc, J.cell, J.free, J.freeC, fun p hp => J.pin p (List.mem_append_left _ hp), J.hok, J.len⟩
  have LT : Looks (model X.prog X.w) h5 (typeOf (.ref a)) (.ref C') := hc5 ▸ (Looks.ld he5).andThen .now
  have all : ∀ (hs' : List ExceptHandler) (cs' : List (Addr × TS)), Clauses X hs' cs' -> (catchN X.K cs' (.ref C') fun ts => ts D σ1 H') -> wpAny (model X.prog X.w) X.A (handleBy (.ref a) X.env hs') (SP X pins D) X.xe { s' with heap := h5 } := by
    intro hs' cs' hcl
    induction hcl with
    | nil => intro z; exact z.elim
    | cons hg hn hs hr hd ih =>
      intro z
      have bnd := PySem.W.mg_of J5.ok.mod.kin J5.ok.mod.glob hn
      refine wpAny_handleBy_cons (codeAny_handlers_test ?_) (by intro q; cases q)
      refine ld_glob (X := X.suite a (X.pn ++ pins)) (toZ J5) hg bnd ?_ hd
      rcases z with ⟨z1, z2⟩ | ⟨z1, z2⟩
      · refine (PySem.W.exm_one (M := model X.prog X.w) J5.kIn LT z1).here ?_
        refine codeAny_handlers_suite ?_
        refine lands_againW fl5 fun h6 fl6 up6 => ?_
        have J6 := at_ h6 fl6 ((up4.trans up5).trans up6) s'.toks
        refine wpAny_mono (hs a (X.pn ++ pins) [] _ _ _ D (toZ J6) z2) (fun fl s9 q => ?_) fun _ _ z => z.elim
        cases fl with
        | next => obtain ⟨σ9, H9, J9, z⟩ := q; exact ⟨_, H9, ofZ J9, z⟩
        | brk => obtain ⟨σ9, H9, J9, z⟩ := q; exact ⟨_, H9, ofZ J9, z⟩
        | cont => obtain ⟨σ9, H9, J9, z⟩ := q; exact ⟨_, H9, ofZ J9, z⟩
        | ret u => obtain ⟨v, σ9, H9, J9, r, z⟩ := q; exact ⟨v, _, H9, ofZ J9, r, z⟩
      · refine (PySem.W.exm_one (M := model X.prog X.w) J5.kIn LT z1).here ?_
        exact ih z2
  exact all _ _ hc hcatch
section
variable {X : Cx}
def rNeT (K : PySem.W.Frag) : R2 := fun x y H Q => ∃ a b xs ys, x = .ref a /\ y = .ref b /\ SqT K H a xs /\ SqT K H b ys /\ xs.all flatV = true /\ ys.all flatV = true /\ Q (.bl (!eqVs xs ys)) H
theorem op_neT (hu : X.A.units < cLine) : OpR X (compareOp .NotEq) (rNeT X.K) := by
  intro pins s σ H x y v u Q I rx ry h
  obtain ⟨a, b, xs, ys, rfl, rfl, ha, hb, f1, f2, q⟩ := h
  cases rx
  cases ry
  obtain ⟨us, r1, p1, _⟩ := I.tuple ha
  obtain ⟨ws, r2, p2, _⟩ := I.tuple hb
  refine SeqAt.RcNeAt.tuples (show s.heap.IsTuple a us.toArray from p1) (show s.heap.IsTuple b ws.toArray from p2) (e := eqAtI xs ys) hu (eqAtI_ok r1 r2 f1 f2) _ _ _ _ ?_
  have e1 : us.toArray.size = xs.length := by simp [r1.length]
  have e2 : ws.toArray.size = ys.length := by simp [r2.length]
  rw [e1, e2]
  have z : ((List.range (min xs.length ys.length)).all (eqAtI xs ys) && xs.length == ys.length) = eqVs xs ys := by
    by_cases hl : xs.length = ys.length
    · rw [← hl, Nat.min_self, eqVs_all hl]; simp
    · rw [eqVs_len hl]; simp [hl]
  rw [z]
  exact ⟨.bl _, H, I, rfl, q⟩
def rNeL (K : PySem.W.Frag) : R2 := fun x y H Q => ∃ a b xs ys, x = .ref a /\ y = .ref b /\ SqL K H a xs /\ SqL K H b ys /\ xs.all flatV = true /\ ys.all flatV = true /\ Q (.bl (!eqVs xs ys)) H
theorem op_neL (hu : X.A.units < cLine) : OpR X (compareOp .NotEq) (rNeL X.K) := by
  intro pins s σ H x y v u Q I rx ry h
  obtain ⟨a, b, xs, ys, rfl, rfl, ha, hb, f1, f2, q⟩ := h
  cases rx
  cases ry
  obtain ⟨us, r1, p1, _⟩ := I.list ha
  obtain ⟨ws, r2, p2, _⟩ := I.list hb
  by_cases hl : xs.length = ys.length
  · refine SeqAt.RcNeAt.lists p1.isList p2.isList (e := eqAtI xs ys) (by simp [← r1.length, ← r2.length, hl]) hu (eqAtI_ok r1 r2 f1 f2) _ _ _ _ ?_
    have e : us.toArray.size = xs.length := by simp [r1.length]
    rw [e, eqVs_all hl]
    exact ⟨.bl _, H, I, rfl, q⟩
  · refine SeqAt.RcNeAt.lists_lengths p1.isList p2.isList (by simp [← r1.length, ← r2.length, hl]) hu _ _ _ _ ?_
    rw [eqVs_len hl] at q
    exact ⟨.bl _, H, I, rfl, q⟩
end
theorem z2h {cells : List (Str × Addr)} {y : Str} {a : Addr} (h : cells.lookup y = some a) : ∀ x c, [(y, a)].lookup x = some c -> cells.lookup x = some c := fun x c e => by
  cases List.mem_singleton.mp (PySem.mem_of_lookup e); exact h
theorem z2g {cells : List (Str × Addr)} {y z : Str} {a b : Addr} (h : cells.lookup y = some a) (h2 : cells.lookup z = some b) : ∀ x c, [(y, a), (z, b)].lookup x = some c -> cells.lookup x = some c := fun x c e => by
  rcases List.mem_cons.mp (PySem.mem_of_lookup e) with q | q
  · cases q; exact h
  · cases List.mem_singleton.mp q; exact h2
end L2
namespace HT
open PySem PySem.Spec PyProof.Rows L2
theorem whole_tup {prog : Program} {w : World} {A : Around} {E : Value -> Shared -> Prop} {s : Shared} {t sl : Addr} {its : Array Value} {vl vu : Value} {lo hi : Option Int} {R : Value -> Shared -> Prop} (ht : IsTup s.heap t its) (hs : s.heap.IsSliceOf sl vl vu .none) (pl : IsPart vl lo) (pu : IsPart vu hi)
    (h0 : sIx its.size 0 lo = 0) (h1 : sIx its.size its.size hi = its.size) (h : R (.ref t) s) : wpAny (model prog w) A (getItem (.ref t) (.ref sl)) R E s := by
  obtain ⟨os, hos, hcs, hds⟩ := id hs
  have hTs : s.TypeIs (.ref sl) "slice" := ⟨os, hos, hcs⟩
  unfold getItem
  try with_reducible refine wpAny_holding ?_
  first | refine wpAny_bind (wpAny_pure ?_) | skip
  refine wpAny_bind (wpAny_sequenceKey ht.typeIs (by decide) ?_)
  refine wpAny_bind (wpAny_callSpecial?_slot (name := Str.ofString "__getitem__") ht.typeIs PyProof.Rows.slot_tuple_getitem (wpAny_call_entry PyProof.Rows.slot_tuple_getitem ht.typeIs entry_tuple_getitem ?_ (args_tuple_getitem _ _)))
  show wpAny _ _ (Builtin.Tuple.tupleItemsOf (.ref t) >>= _) _ _ s
  refine wpAny_bind (tupleItemsOf_ ht ?_)
  refine wpAny_bind (wpAny_typeOf hTs ?_)
  rw [if_pos (by decide)]
  refine wpAny_bind (z2v hs pl pu ?_)
  show wpAny _ _ (if (((sIx its.size 0 lo : Nat) : Int) == 0 && (1 : Int) == 1 && (sIx its.size its.size hi - sIx its.size 0 lo) == its.size) = true then _ else _) _ _ s
  rw [if_pos (by rw [h0, h1]; simp)]
  unfold Builtin.Tuple.tupleIsExact
  exact wpAny_bind (wpAny_bind (wpAny_typeOf ht.typeIs (wpAny_pure (wpAny_bind (wpAny_rule (wpAny_pure ⟨_, rfl, wpAny_pure h⟩))))))
end HT
namespace L2
open PySem PySem.Spec PyProof.Rows
section
variable {X : Cx}
def rSlTA : V -> Option Int -> Option Int -> Hp -> VK -> Prop := fun x lo hi H Q => ∃ a xs, x = .ref a /\ H a = some (.tup xs) /\ ∀ r H', Same H H' -> H' r = some (.tup (cutV xs lo hi)) -> Q (.ref r) H'
theorem z1s : SlR X rSlTA := by
  intro pins s σ H x v vl vu lo hi sl Q I rx hs pl pu h
  obtain ⟨a, xs, rfl, ha, q⟩ := h
  by_cases c : HT.sIx xs.length 0 lo = 0 /\ HT.sIx xs.length xs.length hi = xs.length
  · cases rx
    obtain ⟨its, r, ht, hz⟩ := I.tuple (show SqT X.K H a xs from .of ha)
    have hlen : its.toArray.size = xs.length := by rw [List.size_toArray]; exact r.length.symm
    refine ⟨"tuple", _, PyProof.Rows.slot_tuple_getitem.lookup, ht.typeIs, HT.whole_tup ht hs pl pu (by rw [hlen]; exact c.1) (by rw [hlen]; exact c.2) ⟨.ref a, H, I, rfl, q a H (Same.refl _) ?_⟩⟩
    unfold cutV
    rw [c.1, c.2, List.drop_zero, Nat.sub_zero, List.take_length]
    exact ha
  · exact sl_tupS pins s σ H _ v vl vu lo hi sl Q I rx hs pl pu ⟨a, xs, rfl, ha, c, q⟩
end
theorem pe_compI0 {X : Cx} {elt tg iter cnd : Expr} {scope : Scope} {pos : Pos} {own : List Str} {wi : TI} {g : TG} {tc : TT} {te : TE}
    (hc : X.calm = true) (hi : PI X tg iter wi) (hcell : ∀ y ∈ scope.names, y.2 ≠ .cell) (hfree : ∀ y ∈ scope.names, y.2 ≠ .free) (hkind : scope.kind = .function)
    (hnames : ∀ y ∈ scope.names, y.2 = .local -> scope.names.lookup y.1 = some .local)
    (hg : ∀ (C : Addr) (ex : List Addr) (s : Shared) (H : Hp), PG (cxComp X own scope [] C ex s H) tg g)
    (he : ∀ (C : Addr) (ex : List Addr) (s : Shared) (H : Hp), PE (cxComp X own scope [] C ex s H) elt te)
    (ht : ∀ (C : Addr) (ex : List Addr) (s : Shared) (H : Hp), PT (cxComp X own scope [] C ex s H) cnd tc)
    (hs : ∀ x, foldedSetIterable iter X.env x = pure x := by intro _; rfl) :
    PE X (.ListComp elt [⟨tg, iter, [cnd], 0⟩] scope pos) (tCompI wi own.length [] g tc te) := by
  refine pe_compI (own := own) (fv := []) (js := []) (cl := []) hc hi (closureFor_none hfree) hcell hkind hnames (fun x c h => by cases h) (fun x h => ?_) rfl (fun i x j h => by simp at h) (by simpa using hg) (by simpa using he) (by simpa using ht) hs
  rw [relabel_none hfree] at h
  rcases h with h | h
  · exact absurd rfl (hcell _ (PySem.mem_of_lookup h))
  · exact absurd rfl (hfree _ (PySem.mem_of_lookup h))
theorem rvt_nolen : typeLookup (.type "reversed") "__len__" = pure none := by rw [typeLookup_type, builtinLookup_eq_fast]; kernel_rfl
theorem rvt_hint : typeLookup (.type "reversed") "__length_hint__" = pure (some (.builtin "reversed.__length_hint__")) := by rw [typeLookup_type, builtinLookup_eq_fast]; kernel_rfl
theorem walk_rv {pg : Program} {wd : World} {B : Around} (hh : B.handled = none) (I t : Addr) (hne : t ≠ I) (its : Array Value) (hz : (its.size : Int) < 2 ^ 63) :
    Walks pg wd B I [I, t] [I] its.size (fun i v => its[its.size - 1 - i]? = some v) (fun i h => i ≤ its.size /\ IsRv h I t ((its.size : Int) - 1 - (i : Int)) /\ IsTup h t its) where
  sub := fun b hb => by simp at hb; simp [hb]
  frame := fun _ _ _ st k => ⟨st.1, let ⟨o, g, r⟩ := st.2.1; ⟨o, k I (by simp) o g, r⟩, let ⟨o, g, r⟩ := st.2.2; ⟨o, k t (by simp) o g, r⟩⟩
  item := fun i s R X0 hi st f => by
    obtain ⟨_, q1, q2⟩ := st
    have e : (its.size : Int) - 1 - (i : Int) = ((its.size - 1 - i : Nat) : Int) := by omega
    rw [e] at q1
    have hx : its[its.size - 1 - i]? = some (its[its.size - 1 - i]'(by omega)) := Array.getElem?_eq_getElem (by omega)
    refine rv_item q1 q2 hx hz fun m tk q sb => f _ m tk hx ⟨hi, ?_, ?_⟩ fun b o nb g => sb.extBut b o (by simpa using nb) g
    · have e2 : ((its.size - 1 - i : Nat) : Int) - 1 = (its.size : Int) - 1 - ((i + 1 : Nat) : Int) := by omega
      rw [e2] at q; exact q
    · obtain ⟨o, g, r⟩ := q2
      exact ⟨o, sb.extBut _ _ hne g, r⟩
  done := fun s R X0 st f => by
    obtain ⟨_, q1, q2⟩ := st
    have e : (its.size : Int) - 1 - (its.size : Int) = -1 := by omega
    rw [e] at q1
    exact rv_end hh q1 fun m tk eb => f m tk fun b o nb g => eb b o (by simpa using nb) g
  self := fun _ _ _ _ st h => rv_self st.2.1 h
theorem rvt_bind (v : Value) : bindSpecial (.builtin "reversed.__length_hint__") v = pure (.builtin "reversed.__length_hint__", [v]) := by
  unfold bindSpecial
  rw [show typeOf (.builtin "reversed.__length_hint__") = pure (.type "method_descriptor") by show builtinType _ = _; rw [builtinType_eq_fast]; kernel_rfl]
  rfl
theorem rvt_slot : Slot "reversed" "__length_hint__" "reversed.__length_hint__" := .of (owner := "reversed") (n := "__length_hint__") (by rw [typeLookup_type, builtinLookup_eq_fast]; kernel_rfl) (by decide +kernel) (by decide +kernel) (by decide +kernel) (.inr (by decide +kernel)) (by rw [isSubtype_type]; kernel_rfl)
theorem rvt_entry : entryFor table "reversed.__length_hint__" = some Builtin.«reversed.__length_hint__» := entryFor_of_tree (by kernel_rfl)
theorem rvt_args (a : Value) : argsOk "reversed.__length_hint__" ⟨[a], []⟩ := by unfold argsOk; kernel_rfl
theorem rvt_size {pg : Program} {wd : World} {B : Around} {R : Value -> Shared -> Prop} {X0 : Value -> Shared -> Prop} {z : Shared} {J t : Addr} {its : Array Value} (q1 : IsRv z.heap J t ((its.size : Int) - 1)) (q2 : IsTup z.heap t its) (hz : (its.size : Int) < 2 ^ 63)
    (f : ∀ u tk, z.toks ≤ tk -> R (.int its.size u) { z with toks := tk }) : wpAny (model pg wd) B (call (.builtin "reversed.__length_hint__") [.ref J]) R X0 z := by
  obtain ⟨o, ho, hc, hd⟩ := id q1
  refine wpAny_call_entry rvt_slot q1.typeIs rvt_entry ?_ (rvt_args _)
  show wpAny _ _ (field (.ref J) 0 >>= _) _ _ z
  refine wpAny_bind (wpAny_field ho hd (x := .ref t) rfl ?_)
  show wpAny _ _ (if (Value.ref t == Value.none) = true then _ else _) _ _ z
  rw [if_neg (show ¬ ((Value.ref t == Value.none) = true) from Bool.false_ne_true)]
  show wpAny _ _ (call (.builtin "len") [.ref t] >>= _) _ _ z
  refine wpAny_bind (len_tuple q2 hz ?_)
  refine wpAny_bind (m := asInt? _) (wpAny_pure ?_)
  show wpAny _ _ (field (.ref J) 1 >>= _) _ _ _
  refine wpAny_bind (wpAny_field ho hd (x := rawInt ((its.size : Int) - 1)) rfl ?_)
  show wpAny _ _ (if (its.size : Int) < (its.size : Int) - 1 + 1 then _ else retInt ((its.size : Int) - 1 + 1)) _ _ _
  rw [if_neg (by omega), show (its.size : Int) - 1 + 1 = its.size by omega]
  exact wpAny_bind (wpAny_mkInt (wpAny_pure ⟨_, rfl, f _ _ (by show z.toks ≤ z.toks + 1 + 1 + 1; omega)⟩))
section
variable {pg : Program} {wd : World} {B : Around} {X0 : Value -> Shared -> Prop} {s0 : Shared} {J : Addr} {fs ws : List Addr} {Gg : Array GenState -> Array GenState -> Prop} {m : Nat} {Pr : Nat -> Value -> Prop} {Sx : Nat -> Shared -> Prop}
theorem collect_rvt {R : List Value -> Shared -> Prop} (hint : ∀ (z : Shared) (R' : Value -> Shared -> Prop) (E' : Value -> Shared -> Prop), Sx 0 z -> (∀ u tk, z.toks ≤ tk -> R' (.int m u) { z with toks := tk }) -> wpAny (model pg wd) B.in1 (call (.builtin "reversed.__length_hint__") [.ref J]) R' E' z) (wk : WalksS pg wd B.in1 J fs ws Gg m Pr Sx) (ty : ∀ j z, Sx j z -> z.TypeIs (.ref J) "reversed") (z0 : Sx 0 s0) (lt : ∀ b ∈ fs, b < s0.heap.objs.size) (mJ : J ∈ fs) (sm : m ≤ sizeLine)
    (fin : ∀ z' ac, Moved ws Gg s0 z' -> ItemsOf Pr ac m -> R ac.toList z') : wpAny (model pg wd) B (collect (.ref J)) R X0 s0 := by
  have out : s0.heap.objs.size ∉ fs := fun q => absurd (lt _ q) (Nat.lt_irrefl _)
  have neJ : s0.heap.objs.size ≠ J := by rintro rfl; exact out mJ
  let nu : Obj := { cls := .type "list", data := .seq ([] : List Value).toArray }
  unfold collect
  refine wpAny_bind (wpAny_runValue (codeAny_builtin F.entry_proto_collect ?_))
  rw [Around.under_plainId F.plain_proto_collect _]
  show wpAny _ B.in1 (newList [] >>= fun q => again (.builtin "list.__iadd__" ⟨[q, .ref J], []⟩)) _ _ s0
  refine wpAny_bind (wpAny_newObj_type ?_)
  refine wpAny_pure ⟨plainId_quiet F.plain_list_iadd _, codeAny_builtin F.entry_list_iadd ?_⟩
  rw [Around.under_plainId F.plain_list_iadd _]
  have z1 := wk.frame 0 s0 (s0.heap.push nu) s0.toks z0 (Nat.le_refl _) fun b _ o e => Heap.get?_push_of_some _ e
  have at1 : (s0.heap.push nu).get? s0.heap.objs.size = some nu := Heap.get?_push_size _ rfl
  have dif : Builtin.List.listSameRef (.ref s0.heap.objs.size) (.ref J) = false := by simp [Builtin.List.listSameRef, neJ]
  show wpAny _ B.in1 (Builtin.List.listExtendWith (.ref s0.heap.objs.size) (.ref J) (.ref s0.heap.objs.size)) _ _ _
  unfold Builtin.List.listExtendWith
  refine wpAny_bind (wpAny_typeOf (ty 0 _ z1) ?_)
  rw [if_neg (by rw [dif]; decide)]
  refine wpAny_bind (wk.self 0 _ _ _ z1 ?_)
  refine wpAny_bind (wpAny_holding ?_)
  unfold Builtin.List.listLengthHint
  refine wpAny_bind (wpAny_specialOf (ty 0 _ z1) rvt_nolen ?_)
  show wpAny _ B.in1 (specialOf (Value.ref J) (Str.ofString "__length_hint__") >>= _) _ _ _
  refine wpAny_bind (wpAny_specialOf (ty 0 _ z1) rvt_hint ?_)
  (generalize hid : ("reversed.__length_hint__" : String) = id0; wp_delta; rw [show splitId id0 = some ("reversed", "__length_hint__") from by subst hid; decide +kernel]; subst hid)
  refine wpAny_bind (wpAny_isInstance (b := true) (ty 0 _ z1) (by rw [isSubtype_type]; kernel_rfl) ?_)
  rw [if_neg (by decide)]
  dsimp only
  rw [if_neg (by decide +kernel)]
  refine wpAny_bind (wpAny_rule ?_)
  refine wpAny_bind (wpAny_of_eq (rvt_bind _) ?_)
  dsimp only
  refine wpAny_bind (wpAny_attempt (hint _ _ _ z1 fun u tk htk => ?_))
  have z2 := wk.frame 0 _ _ tk z1 htk fun b _ o e => e
  have l63 := line63'
  have fi : Builtin.List.listFitsIndex (m : Int) = true := by simp [Builtin.List.listFitsIndex]; omega
  have tl : Builtin.List.listTooLong (m : Int).toNat = false := by simp [Builtin.List.listTooLong]; omega
  generalize hk : (m : Int) = kk at fi tl ⊢
  show wpAny _ B.in1 (asInt? (.int kk u) >>= _) _ _ _
  refine wpAny_bind (m := asInt? (.int kk u)) (wpAny_pure ?_)
  dsimp only
  rw [if_neg (by rw [fi]; decide)]
  try dsimp only
  rw [if_neg (by omega)]
  try dsimp only
  rw [if_neg (by rw [tl]; decide)]
  refine wpAny_pure ?_
  by_cases m0 : m = 0
  · rw [if_neg (by subst m0; subst hk; decide +kernel)]
    refine wpAny_pure ⟨plainId_quiet F.plain_extend_loop _, codeAny_extend_loopS wk sm _ out _ m 0 _ _ _ rfl (Nat.zero_le _) z2 at1 (ItemsOf.nil Pr) fun z' ac cc mv at2 its => ?_⟩
    show wpAny _ B (load s0.heap.objs.size >>= _) _ _ z'
    exact wpAny_bind (wpAny_load at2 (wpAny_pure (fin z' ac (Moved.drop_new (o := nu) (tk := tk) mv htk) its)))
  · rw [if_pos (by simp; left; omega)]
    refine wpAny_bind (wpAny_rule ?_)
    refine wpAny_bind ?_
    show wpAny _ B.in1 (updateSeq s0.heap.objs.size (·.push .none) >>= fun _ => updateSeq s0.heap.objs.size (·.pop)) _ _ _
    refine wpAny_bind (wpAny_updateSeq at1 rfl ?_)
    have a2 := Heap.get?_update_self (Obj.mapSeq (·.push Value.none)) at1 rfl
    refine wpAny_updateSeq a2 rfl ?_
    have a3 := Heap.get?_update_self (Obj.mapSeq (·.pop)) a2 rfl
    have oth : ∀ b o, b ≠ s0.heap.objs.size -> (s0.heap.push nu).get? b = some o -> (((s0.heap.push nu).update s0.heap.objs.size (Obj.mapSeq (·.push Value.none))).update s0.heap.objs.size (Obj.mapSeq (·.pop))).get? b = some o :=
      fun b o hb e => (Heap.get?_update_other _ _ (Ne.symm hb)).trans ((Heap.get?_update_other _ _ (Ne.symm hb)).trans e)
    refine wpAny_pure ⟨plainId_quiet F.plain_extend_loop _, codeAny_extend_loopS wk sm _ out _ m 0 _ _ _ rfl (Nat.zero_le _)
      (wk.frame 0 ({ s0 with heap := s0.heap.push nu, toks := tk } : Shared) _ tk z2 (Nat.le_refl _) fun b hb o e => oth b o (fun q => out (q ▸ hb)) e) a3 (ItemsOf.nil Pr) fun z' ac cc mv at2 its => ?_⟩
    show wpAny _ B (load s0.heap.objs.size >>= _) _ _ z'
    refine wpAny_bind (wpAny_load at2 ?_)
    refine wpAny_pure (fin z' ac (Moved.drop_new (o := nu) (tk := tk) (Moved.trans wk.gtrans ((Moved.refl wk.grefl).then_heap (Nat.le_refl _) fun b o hb e => ?_) mv) htk) its)
    exact oth b o (fun q => hb (q ▸ List.mem_cons_self)) e
theorem new_tuple_rvt {R : Value -> Shared -> Prop} (hint : ∀ (z : Shared) (R' : Value -> Shared -> Prop) (E' : Value -> Shared -> Prop), Sx 0 z -> (∀ u tk, z.toks ≤ tk -> R' (.int m u) { z with toks := tk }) -> wpAny (model pg wd) B.in1.in1 (call (.builtin "reversed.__length_hint__") [.ref J]) R' E' z) (wk : WalksS pg wd B.in1.in1 J fs ws Gg m Pr Sx) (ty : ∀ j z, Sx j z -> z.TypeIs (.ref J) "reversed") (z0 : Sx 0 s0) (lt : ∀ b ∈ fs, b < s0.heap.objs.size) (mJ : J ∈ fs) (sm : m ≤ sizeLine)
    (fin : ∀ z' ac, Moved ws Gg s0 z' -> ItemsOf Pr ac m -> R (.ref z'.heap.objs.size) { z' with heap := z'.heap.push { cls := .type "tuple", data := .seq ac } }) :
    codeAny (model pg wd) B (.call (.builtin "tuple.__new__") ⟨[.type "tuple", .ref J], []⟩) (wants R X0) s0 := by
  refine codeAny_of_tree ?_
  show wpAny _ B.in1 (do checkBuiltinCall "tuple.__new__" ⟨[.type "tuple", .ref J], []⟩; again (.builtin "tuple.__new__" ⟨[.type "tuple", .ref J], []⟩)) _ _ s0
  refine wpAny_bind (wpAny_of_eq (F.newCall_tuple_1 _) (wpAny_pure ⟨plainId_quiet F.plain_tuple_new _, codeAny_builtin F.entry_tuple_new ?_⟩))
  rw [Around.under_plainId F.plain_tuple_new _]
  have q1 := sub_tuple_self
  have q2 := init_tuple_lookup
  have q3 := madeHere_tuple
  have q4 := ty 0 s0 z0
  wp_walk using wpAny_typeOf q4, collect_rvt (sm := sm) hint wk ty z0 lt mJ
  intro z' ac mv its
  show wpAny _ _ (Builtin.Tuple.tupleExact ac.toList.toArray >>= fun q => ret q) _ _ _
  have e : ac.toList.toArray = ac := by simp
  rw [e]
  unfold Builtin.Tuple.tupleExact
  exact wpAny_bind (wpAny_newObj_type (wpAny_pure (fin z' ac mv its)) (by show ac.size ≤ sizeLine; rw [its.1]; exact sm))
theorem call_tuple_rvt {R : Value -> Shared -> Prop} (hint : ∀ (z : Shared) (R' : Value -> Shared -> Prop) (E' : Value -> Shared -> Prop), Sx 0 z -> (∀ u tk, z.toks ≤ tk -> R' (.int m u) { z with toks := tk }) -> wpAny (model pg wd) B.in1.in1.in1 (call (.builtin "reversed.__length_hint__") [.ref J]) R' E' z) (wk : WalksS pg wd B.in1.in1.in1 J fs ws Gg m Pr Sx) (ty : ∀ j z, Sx j z -> z.TypeIs (.ref J) "reversed") (z0 : Sx 0 s0) (lt : ∀ b ∈ fs, b < s0.heap.objs.size) (mJ : J ∈ fs) (sm : m ≤ sizeLine)
    (fin : ∀ z' ac, Moved ws Gg s0 z' -> ItemsOf Pr ac m -> R (.ref z'.heap.objs.size) { z' with heap := z'.heap.push { cls := .type "tuple", data := .seq ac } }) :
    wpAny (model pg wd) B (call (.type "tuple") [.ref J]) R X0 s0 :=
  callType_codes (Q₁ := fun ob z => z.TypeIs ob "tuple" /\ R ob z) F.called_tuple (F.typeCall_tuple_1 _) F.entry_object_init
    (new_tuple_rvt (sm := sm) hint wk ty z0 lt mJ fun z' ac mv its => ⟨⟨_, Heap.get?_push_size _ rfl, rfl⟩, fin z' ac mv its⟩)
    fun ob z q => ⟨q.1, F.args_object_init_2 ob _, object_init_meets F.called_tuple.init.lookup F.called_tuple.made (by decide) pg wd B.in1 _ z ⟨q.1, rfl, q.2⟩⟩
end
section
variable {X : Cx}
def tTupRevT (K : PySem.W.Frag) (te : TE) : TE := fun σ H Q => te σ H fun x H1 => ∃ a xs, x = .ref a /\ SqT K H1 a xs /\ ∀ p, H1 p = none -> Q (.ref p) (upd H1 p (.tup xs.reverse))
theorem pe_tupRevT {e : Expr} {te : TE} {p1 p2 pos pos' : Pos} (hc : X.calm = true) (ht : Gl X "tuple") (hr : Gl X "reversed") (mt : X.mg "tuple" = none) (mr : X.mg "reversed" = none) (he : PE X e te) (hs : starEach [e] X.env = [(false, eval e X.env)] := by rfl) :
    PE X (.Call (.Name "tuple" p1) [.Call (.Name "reversed" p2) [e] [] pos'] [] pos) (tTupRevT X.K te) := by
  intro pins s σ H Q I h
  refine Call_ (ld_blt I ht mt boot_tuple (PyProof.Rows.callWith_type1 ?_ rfl rfl))
  refine Calls.spliced_cons ?_
  have hA := (z0a he (z0c (X := X)) hs) pos' pins s σ H (fun vs H1 => match vs with | [x] => ∃ a xs, x = .ref a /\ SqT X.K H1 a xs /\ ∀ p, H1 p = none -> Q (.ref p) (upd H1 p (.tup xs.reverse)) | _ => False) I h
  refine Call_ (ld_blt I hr mr boot_reversed (PyProof.Rows.callWith_type1 (thn hA fun us s1 ⟨vs, H1, I1, r1, q1⟩ => ?_) hs rfl))
  match vs, q1 with
  | [x], ⟨a, xs, e, hq, q⟩ =>
    subst e
    obtain ⟨u, rfl, ru⟩ := z3z r1
    cases (show u = Value.ref a from ru)
    obtain ⟨its, rv, pl, hz⟩ := I1.tuple hq
    have hl := rv.length
    have z63 := line63'
    refine call_rv pl (by simp; omega) fun tk => ?_
    refine Calls.spliced_nil ?_
    have I2 : Inv X pins σ H1 { s1 with heap := s1.heap.push (rvObj a ((its.toArray.size : Int) - 1)), toks := tk } := I1.kept (t' := tk) fun b o e => Heap.get?_push_of_some _ e
    have al : a < s1.heap.objs.size := by obtain ⟨o, ho, _⟩ := pl; exact Heap.lt_size ho
    have hne : a ≠ s1.heap.objs.size := Nat.ne_of_lt al
    have ir : IsRv (s1.heap.push (rvObj a ((its.toArray.size : Int) - 1))) s1.heap.objs.size a ((its.toArray.size : Int) - 1 - ((0 : Nat) : Int)) := by
      refine ⟨_, Heap.get?_push_size _ rfl, rfl, ?_⟩
      have e : (its.toArray.size : Int) - 1 - ((0 : Nat) : Int) = (its.toArray.size : Int) - 1 := by omega
      rw [e]; rfl
    have sz : (s1.heap.push (rvObj a ((its.toArray.size : Int) - 1))).objs.size = s1.heap.objs.size + 1 := by simp [Heap.push]
    have ff := I1.fpOk (Nat.le_refl s1.heap.objs.size) (I1.hok.fresh (Nat.le_refl _))
    refine call_tuple_rvt (m := its.toArray.size) (Sx := _) (fun z R' E' q f => rvt_size (its := its.toArray) (by have := q.2.1; rw [show (its.toArray.size : Int) - 1 - ((0 : Nat) : Int) = (its.toArray.size : Int) - 1 by omega] at this; exact this) q.2.2 (by simp; omega) f) (walk_rv (B := X.A.in1.in1.in1) (I.ok.hd hc) s1.heap.objs.size a hne its.toArray (by simp; omega)).toS (fun j z q => let ⟨o, ho, hk, _⟩ := q.2.1; ⟨o, ho, hk⟩)
      ⟨Nat.zero_le _, ir, let ⟨o, g, r⟩ := pl; ⟨o, Heap.get?_push_of_some _ g, r⟩⟩ (fun b hb => ?_) (List.mem_cons_self ..) (by simp only [List.size_toArray]; omega) fun z' ac mv io => ?_
    · show b < (s1.heap.push (rvObj a ((its.toArray.size : Int) - 1))).objs.size
      rw [sz]
      simp only [List.mem_cons, List.not_mem_nil, or_false] at hb
      rcases hb with rfl | rfl
      · exact Nat.lt_succ_self _
      · exact Nat.lt_succ_of_lt al
    have I3 : Inv X pins σ H1 z' := by
      obtain ⟨zh, zg, zd, zt, zo⟩ := z'
      have e1 : zg = s1.gens := mv.gens
      have e2 : zd = s1.drawn := mv.drawn
      have e3 : zo = s1.os := mv.os
      subst e1 e2 e3
      obtain ⟨f0, f1, f2, f3, f4, f5⟩ := ff
      exact I1.turned (t' := zt) (fun b o hb e => mv.heap b o (by simpa using hb) (Heap.get?_push_of_some _ e)) f0 f1 f3 f4 f5
    have er : ac = its.reverse.toArray := by
      have sz2 : ac.size = its.length := by simpa using io.1
      apply Array.ext
      · simp [sz2]
      · intro j h1 h2
        have q := io.2 j _ (Array.getElem?_eq_getElem h1)
        simp only [List.size_toArray, List.getElem?_toArray] at q
        have q2 : its.reverse[j]? = some ac[j] := by rw [List.getElem?_reverse (by omega)]; exact q
        rw [List.getElem_toArray]
        exact (Option.some.inj ((List.getElem?_eq_getElem (by simpa using h2)).symm.trans q2)).symm
    subst er
    have I4 : Inv X pins σ (upd H1 z'.heap.objs.size (.tup xs.reverse)) { z' with heap := z'.heap.push { cls := .type "tuple", data := .seq its.reverse.toArray } } :=
      I3.laid (t' := z'.toks) (fun b o e => Heap.get?_push_of_some _ e) (Nat.le_refl _) (show ObjOk X.prog X.w _ _ _ (.tup xs.reverse) from ⟨by simpa using hz, its.reverse, rv.reverse, IsTup.new _ _⟩)
    exact ⟨.ref z'.heap.objs.size, _, I4, rfl, q _ (I3.hok.fresh (Nat.le_refl _))⟩
end
def okS (k : Nat) (x : Str) : Prop := x.length ≤ k /\ ∀ c ∈ x.cps.toList, c < 1000
theorem okS.mono {k m : Nat} {x : Str} (h : okS k x) (l : k ≤ m) : okS m x := ⟨Nat.le_trans h.1 l, h.2⟩
theorem okS.repr {k : Nat} {x : Str} (h : okS k x) : (reprText x).length ≤ 10 * k + 2 := by
  have := StrLaws.reprText_len x fun c hc => Nat.lt_of_lt_of_le (h.2 c hc) (by decide)
  have := h.1
  omega
section
variable {X : Cx}
def tFR (t1 t2 : TE) : TE := fun σ H Q => t1 σ H fun x H1 => ∃ a, x = .str a /\ okS 1000 a /\ t2 σ H1 fun y H2 => ∃ b, y = .str b /\ okS 1000 b /\ ∀ z, Q (.str z) H2
theorem pe_fR {e1 e2 : Expr} {t1 t2 : TE} {pos p2 : Pos} (h1 : PE X e1 t1) (h2 : PE X e2 t2) : PE X (.JoinedStr [e1, .FormattedValue e2 114 none p2] pos) (tFR t1 t2) := by
  intro pins s σ H Q I h
  refine wpAny_JoinedStr (thn (h1 pins s σ H _ I h) fun v s1 ⟨x, H1, I1, r1, q1⟩ => ?_)
  obtain ⟨a, rfl, oa, q2⟩ := q1
  obtain ⟨ta, rfl⟩ := r1
  have s20 : 20000 ≤ sizeLine := by rw [sizeLine_eq]; decide
  have e0 : ∀ z : Str, Str.empty ++ z = z := fun z => by show (⟨#[] ++ z.cps⟩ : Str) = z; simp
  refine ⟨a, ta, rfl, ?_, wpAny_FormattedValue_repr (thn (h2 pins s1 σ H1 _ I1 q2) fun v s2 ⟨y, H2, I2, r2, q3⟩ => ?_)⟩
  · rw [e0]; have := oa.1; omega
  obtain ⟨b, rfl, ob, q⟩ := q3
  obtain ⟨tb, rfl⟩ := r2
  have rb := ob.repr
  refine wpAny_pyReprObj_str (formatField_str (fun t' tk => ⟨_, t', rfl, ?_, ?_, ?_⟩) (by omega)) (by omega)
  · rw [e0, strLen_append]; have := oa.1; omega
  · rw [e0, strLen_append]; have := oa.1; omega
  · exact ⟨.str _, H2, (I2.tok _).tok _, ⟨_, rfl⟩, q _⟩
def rSlStr : V -> Option Int -> Option Int -> Hp -> VK -> Prop := fun x lo hi H Q => ∃ z, x = .str z /\ z.length ≤ 1000 /\ ∀ y : Str, y.length ≤ z.length -> (∀ c ∈ y.cps.toList, c ∈ z.cps.toList) -> Q (.str y) H
def rUpper : V -> List V -> Hp -> VK -> Prop := fun x xs H Q => ∃ z, x = .str z /\ xs = [] /\ okS 1000 ⟨placed z fun _ c => Unicode.upperOf c⟩ /\ Q (.str ⟨placed z fun _ c => Unicode.upperOf c⟩) H
def rJoin (K : PySem.W.Frag) : V -> List V -> Hp -> VK -> Prop := fun x xs H Q => ∃ (z : Str) (l : Addr) (ys : List Str), x = .str z /\ z.length = 0 /\ xs = [.ref l] /\ SqL K H l (ys.map V.str) /\ ys.length ≤ 100 /\ (∀ y ∈ ys, okS 10 y) /\ ∀ y : Str, okS 1000 y -> Q (.str y) H
end
def Itel (K : PySem.W.Frag) (a : Addr) : It := ⟨fun i H => ∃ xs x, SqL K H a xs /\ xs[i]? = some x,
  fun i H v H' => ∃ T x, v = .ref T /\ H T = none /\ H' = upd H T (.tup [.int i, x]) /\ ∀ xs, SqL K H a xs -> xs[i]? = some x, fun i H => ∃ xs, SqL K H a xs /\ xs.length ≤ i⟩
section
variable {X : Cx} {es : List Expr} {x1 : Nat} {pp : Pos}
def iEnumL (K : PySem.W.Frag) (te : TE) : TI := fun σ H R => te σ H fun v H1 => ∃ a xs, v = .ref a /\ SqL K H1 a xs /\ R (Itel K a) H1
end
def LoopEL (K : PySem.W.Frag) (g : TG) (tb : TS) (D : Ends) (σ : St) (v : V) (H1 : Hp) : Prop := ∃ a xs, v = .ref a /\ SqL K H1 a xs /\ ∃ W : Nat -> Nat -> St -> Hp -> Prop, (∃ m, W 0 m σ H1) /\ ∀ i m σ H, W i m σ H ->
  ((Itel K a).stop i H /\ D.nx σ H) \/ ((Itel K a).go i H /\ ∃ N : St -> Hp -> Prop, (∀ σ' H', N σ' H' -> ∃ m', m' < m /\ W (i + 1) m' σ' H') /\ ∀ x H', (Itel K a).yld i H x H' -> g x σ H' fun σ2 H2 => tb { D with nx := N, ct := N, bk := D.nx } σ2 H2)
theorem for_eqEL {K : PySem.W.Frag} {te : TE} {g : TG} {tb : TS} {D : Ends} {σ : St} {H : Hp} : tFor (iEnumL K te) g tb D σ H = te σ H fun v H1 => LoopEL K g tb D σ v H1 := rfl
theorem LoopEL.mk {K : PySem.W.Frag} {a : Addr} {xs : List V} {g : TG} {tb : TS} {D : Ends} {σ : St} {H : Hp} (h1 : SqL K H a xs) (Pv : Nat -> St -> Hp -> Prop) (h0 : Pv 0 σ H) (hl : ∀ i σ H, i ≤ xs.length -> Pv i σ H -> SqL K H a xs)
    (hs : ∀ i x σ H T, xs[i]? = some x -> Pv i σ H -> H T = none -> g (.ref T) σ (upd H T (.tup [.int i, x])) fun σ2 H2 => tb { D with nx := Pv (i + 1), ct := Pv (i + 1), bk := D.nx } σ2 H2) (hd : ∀ σ H, Pv xs.length σ H -> D.nx σ H) :
    LoopEL K g tb D σ (.ref a) H := by
  refine ⟨a, xs, rfl, h1, fun i m σ H => m = xs.length - i /\ i ≤ xs.length /\ Pv i σ H, ⟨_, rfl, Nat.zero_le _, h0⟩, ?_⟩
  rintro i m σ H ⟨rfl, hi, p⟩
  have k1 := hl i σ H hi p
  by_cases hlt : i < xs.length
  · refine .inr ⟨⟨xs, _, k1, List.getElem?_eq_getElem hlt⟩, Pv (i + 1), fun σ' H' p' => ⟨xs.length - (i + 1), by omega, rfl, hlt, p'⟩, fun v H' yy => ?_⟩
    obtain ⟨T, x, rfl, hT, rfl, ex⟩ := yy
    exact hs i x σ H T (ex xs k1) p hT
  · have e : i = xs.length := by omega
    exact .inl ⟨⟨xs, k1, by omega⟩, hd σ H (e ▸ p)⟩
theorem pa_str {X : Cx} {x j pos} {es : List Expr} {t : TA} (hr : PA X es t) : PA X (.Constant (.str x) j pos :: es) (tCons (tC (.str x)) t) := z0a z0q hr rfl
def strsC (l : List (Str × Pos)) : List Expr := l.map fun p => .Constant (.str p.1) 0 p.2
def tStrs (l : List Str) : TA := fun _ H Q => Q (l.map V.str) H
theorem pa_strs {X : Cx} : ∀ l : List (Str × Pos), PA X (strsC l) (tStrs (l.map (·.1)))
  | [] => z0c
  | _ :: l => pa_str (pa_strs l)
instance (k : Nat) (x : Str) : Decidable (okS k x) := by unfold okS; infer_instance
def Itx (x : Str) : It := ⟨fun i _ => i < x.cps.size, fun i H v H' => H' = H /\ ∃ c, x.cps[i]? = some c /\ v = .str ⟨#[c]⟩, fun i _ => x.cps.size ≤ i⟩
section
variable {X : Cx} {tg : Expr}
def iStr (tl : TE) : TI := fun σ H R => tl σ H fun x H1 => ∃ z, x = .str z /\ R (Itx z) H1
end
def LoopX (g : TG) (tb : TS) (D : Ends) (σ : St) (v : V) (H1 : Hp) : Prop := ∃ z, v = .str z /\ ∃ W : Nat -> Nat -> St -> Hp -> Prop, (∃ m, W 0 m σ H1) /\ ∀ i m σ H, W i m σ H ->
  ((Itx z).stop i H /\ D.nx σ H) \/ ((Itx z).go i H /\ ∃ N : St -> Hp -> Prop, (∀ σ' H', N σ' H' -> ∃ m', m' < m /\ W (i + 1) m' σ' H') /\ ∀ x H', (Itx z).yld i H x H' -> g x σ H' fun σ2 H2 => tb { D with nx := N, ct := N, bk := D.nx } σ2 H2)
theorem for_eqX {te : TE} {g : TG} {tb : TS} {D : Ends} {σ : St} {H : Hp} : tFor (iStr te) g tb D σ H = te σ H fun v H1 => LoopX g tb D σ v H1 := rfl
theorem LoopX.mk {z : Str} {g : TG} {tb : TS} {D : Ends} {σ : St} {H : Hp} (Pv : Nat -> St -> Hp -> Prop) (h0 : Pv 0 σ H)
    (hs : ∀ i c σ H, z.cps[i]? = some c -> Pv i σ H -> g (.str ⟨#[c]⟩) σ H fun σ2 H2 => tb { D with nx := Pv (i + 1), ct := Pv (i + 1), bk := D.nx } σ2 H2) (hd : ∀ σ H, Pv z.cps.size σ H -> D.nx σ H) :
    LoopX g tb D σ (.str z) H := by
  refine ⟨z, rfl, fun i m σ H => m = z.cps.size - i /\ i ≤ z.cps.size /\ Pv i σ H, ⟨_, rfl, Nat.zero_le _, h0⟩, ?_⟩
  rintro i m σ H ⟨rfl, hi, p⟩
  by_cases hlt : i < z.cps.size
  · refine .inr ⟨hlt, Pv (i + 1), fun σ' H' p' => ⟨z.cps.size - (i + 1), by omega, rfl, hlt, p'⟩, fun v H' yy => ?_⟩
    obtain ⟨rfl, c, ec, rfl⟩ := yy
    exact hs i c σ H' ec p
  · have e : i = z.cps.size := by omega
    exact .inl ⟨by show z.cps.size ≤ i; omega, hd σ H (e ▸ p)⟩
def CompX (k : Nat) (js : List Nat) (g : TG) (te : TE) (σ : St) (v : V) (H1 : Hp) (Q : VK) : Prop := ∃ z, v = .str z /\ ∃ W : Nat -> Nat -> List V -> St -> Hp -> Prop, (∃ m, W 0 m [] (compSt k js σ) H1) /\ ∀ i m ys σ' H', W i m ys σ' H' ->
    ((Itx z).stop i H' /\ ∀ p, H' p = none -> Q (.ref p) (upd H' p (.lst ys))) \/
    ((Itx z).go i H' /\ ys.length < sizeLine /\ ∃ N : List V -> St -> Hp -> Prop, (∀ zs σ2 H2, N zs σ2 H2 -> ∃ m', m' < m /\ W (i + 1) m' zs σ2 H2) /\ ∀ x H2, (Itx z).yld i H' x H2 -> g x σ' H2 fun σ3 H3 => te σ3 H3 fun v H4 => N (ys ++ [v]) σ3 H4)
theorem comp_eqX {k : Nat} {js : List Nat} {ti : TE} {g : TG} {te : TE} {σ : St} {H : Hp} {Q : VK} : tComp (iStr ti) k js g te σ H Q = ti σ H fun x H1 => CompX k js g te σ x H1 Q := rfl
theorem CompX.mk {z : Str} {k : Nat} {js : List Nat} {g : TG} {te : TE} {Q : VK} {σ : St} {H : Hp} (Pv : Nat -> List V -> St -> Hp -> Prop) (h0 : Pv 0 [] (compSt k js σ) H)
    (hs : ∀ i c ys σ H, z.cps[i]? = some c -> Pv i ys σ H -> ys.length < sizeLine /\ g (.str ⟨#[c]⟩) σ H fun σ3 H3 => te σ3 H3 fun v H4 => Pv (i + 1) (ys ++ [v]) σ3 H4) (hd : ∀ ys σ H, Pv z.cps.size ys σ H -> ∀ p, H p = none -> Q (.ref p) (upd H p (.lst ys))) :
    CompX k js g te σ (.str z) H Q := by
  refine ⟨z, rfl, fun i m ys σ H => m = z.cps.size - i /\ i ≤ z.cps.size /\ Pv i ys σ H, ⟨_, rfl, Nat.zero_le _, h0⟩, ?_⟩
  rintro i m ys σ H ⟨rfl, hi, p⟩
  by_cases hlt : i < z.cps.size
  · refine .inr ⟨hlt, (hs i (z.cps[i]'hlt) ys σ H (Array.getElem?_eq_getElem hlt) p).1, Pv (i + 1), fun zs σ' H' p' => ⟨z.cps.size - (i + 1), by omega, rfl, hlt, p'⟩, fun v H' yy => ?_⟩
    obtain ⟨rfl, c, ec, rfl⟩ := yy
    exact (hs i c ys σ H' ec p).2
  · have e : i = z.cps.size := by omega
    exact .inl ⟨by show z.cps.size ≤ i; omega, hd ys σ H (e ▸ p)⟩
section
variable {X : Cx}
def findI (x y : Str) : Int := match Builtin.Str.occurrences x y 0 x.length 1 with | i :: _ => (i : Int) | [] => -1
def rFind : V -> List V -> Hp -> VK -> Prop := fun x xs H Q => ∃ z y, x = .str z /\ xs = [.str y] /\ Q (.int (findI z y)) H
end
section
variable {X : Cx}
def rCatL (K : PySem.W.Frag) : R2 := fun x y H Q => ∃ l b xs zs, x = .ref l /\ y = .ref b /\ SqL K H l xs /\ SqL K H b zs /\ xs.length + zs.length ≤ sizeLine /\ ∀ p, H p = none -> Q (.ref p) (upd H p (.lst (xs ++ zs)))
end
section
variable {pg : Program} {wd : World} {B : Around} {X0 : Value -> Shared -> Prop} {s0 : Shared}
end
def ItzL (K : PySem.W.Frag) (a b : Addr) : It := ⟨fun i H => ∃ xs ys x y, SqL K H a xs /\ SqL K H b ys /\ xs[i]? = some x /\ ys[i]? = some y,
  fun i H v H' => ∃ T x y, v = .ref T /\ H T = none /\ H' = upd H T (.tup [x, y]) /\ ∀ xs ys, SqL K H a xs -> SqL K H b ys -> xs[i]? = some x /\ ys[i]? = some y, fun i H => ∃ xs ys, SqL K H a xs /\ SqL K H b ys /\ (xs.length ≤ i \/ ys.length ≤ i)⟩
section
variable {X : Cx} {es : List Expr} {x1 : Nat} {pp : Pos}
def iZipL (K : PySem.W.Frag) (ta : TA) : TI := fun σ H R => ta σ H fun vs H1 => ∃ a b xs ys, vs = [.ref a, .ref b] /\ SqL K H1 a xs /\ SqL K H1 b ys /\ R (ItzL K a b) H1
end
def LoopZL (K : PySem.W.Frag) (g : TG) (tb : TS) (D : Ends) (σ : St) (vs : List V) (H1 : Hp) : Prop := ∃ a b xs ys, vs = [.ref a, .ref b] /\ SqL K H1 a xs /\ SqL K H1 b ys /\ ∃ W : Nat -> Nat -> St -> Hp -> Prop, (∃ m, W 0 m σ H1) /\ ∀ i m σ H, W i m σ H ->
  ((ItzL K a b).stop i H /\ D.nx σ H) \/ ((ItzL K a b).go i H /\ ∃ N : St -> Hp -> Prop, (∀ σ' H', N σ' H' -> ∃ m', m' < m /\ W (i + 1) m' σ' H') /\ ∀ x H', (ItzL K a b).yld i H x H' -> g x σ H' fun σ2 H2 => tb { D with nx := N, ct := N, bk := D.nx } σ2 H2)
theorem for_eqZL {K : PySem.W.Frag} {ta : TA} {g : TG} {tb : TS} {D : Ends} {σ : St} {H : Hp} : tFor (iZipL K ta) g tb D σ H = ta σ H fun vs H1 => LoopZL K g tb D σ vs H1 := rfl
theorem LoopZL.mk {K : PySem.W.Frag} {a b : Addr} {xs ys : List V} {g : TG} {tb : TS} {D : Ends} {σ : St} {H : Hp} (n : Nat) (hn : n = min xs.length ys.length) (h1 : SqL K H a xs) (h2 : SqL K H b ys) (Pv : Nat -> St -> Hp -> Prop) (h0 : Pv 0 σ H) (hl : ∀ i σ H, i ≤ n -> Pv i σ H -> SqL K H a xs /\ SqL K H b ys)
    (hs : ∀ i x y σ H T, i < n -> xs[i]? = some x -> ys[i]? = some y -> Pv i σ H -> H T = none -> g (.ref T) σ (upd H T (.tup [x, y])) fun σ2 H2 => tb { D with nx := Pv (i + 1), ct := Pv (i + 1), bk := D.nx } σ2 H2) (hd : ∀ σ H, Pv n σ H -> D.nx σ H) :
    LoopZL K g tb D σ [.ref a, .ref b] H := by
  subst hn
  refine ⟨a, b, xs, ys, rfl, h1, h2, fun i m σ H => m = min xs.length ys.length - i /\ i ≤ min xs.length ys.length /\ Pv i σ H, ⟨_, rfl, Nat.zero_le _, h0⟩, ?_⟩
  rintro i m σ H ⟨rfl, hi, p⟩
  obtain ⟨k1, k2⟩ := hl i σ H hi p
  by_cases hlt : i < min xs.length ys.length
  · have l1 : i < xs.length := by omega
    have l2 : i < ys.length := by omega
    refine .inr ⟨⟨xs, ys, _, _, k1, k2, List.getElem?_eq_getElem l1, List.getElem?_eq_getElem l2⟩, Pv (i + 1), fun σ' H' p' => ⟨min xs.length ys.length - (i + 1), by omega, rfl, hlt, p'⟩, fun v H' yy => ?_⟩
    obtain ⟨T, x, y, rfl, hT, rfl, ex⟩ := yy
    obtain ⟨ex1, ex2⟩ := ex xs ys k1 k2
    exact hs i x y σ H T hlt ex1 ex2 p hT
  · have e : i = min xs.length ys.length := by omega
    exact .inl ⟨⟨xs, ys, k1, k2, by omega⟩, hd σ H (e ▸ p)⟩
def CompZL (K : PySem.W.Frag) (k : Nat) (js : List Nat) (g : TG) (te : TE) (σ : St) (vs : List V) (H1 : Hp) (Q : VK) : Prop := ∃ a b xs ys, vs = [.ref a, .ref b] /\ SqL K H1 a xs /\ SqL K H1 b ys /\ ∃ W : Nat -> Nat -> List V -> St -> Hp -> Prop, (∃ m, W 0 m [] (compSt k js σ) H1) /\ ∀ i m zs σ' H', W i m zs σ' H' ->
    ((ItzL K a b).stop i H' /\ ∀ p, H' p = none -> Q (.ref p) (upd H' p (.lst zs))) \/
    ((ItzL K a b).go i H' /\ zs.length < sizeLine /\ ∃ N : List V -> St -> Hp -> Prop, (∀ zs σ2 H2, N zs σ2 H2 -> ∃ m', m' < m /\ W (i + 1) m' zs σ2 H2) /\ ∀ x H2, (ItzL K a b).yld i H' x H2 -> g x σ' H2 fun σ3 H3 => te σ3 H3 fun v H4 => N (zs ++ [v]) σ3 H4)
theorem comp_eqZL {K : PySem.W.Frag} {k : Nat} {js : List Nat} {ta : TA} {g : TG} {te : TE} {σ : St} {H : Hp} {Q : VK} : tComp (iZipL K ta) k js g te σ H Q = ta σ H fun vs H1 => CompZL K k js g te σ vs H1 Q := rfl
theorem CompZL.mk {K : PySem.W.Frag} {a b : Addr} {xs ys : List V} {k : Nat} {js : List Nat} {g : TG} {te : TE} {Q : VK} {σ : St} {H : Hp} (n : Nat) (hn : n = min xs.length ys.length) (h1 : SqL K H a xs) (h2 : SqL K H b ys) (Pv : Nat -> List V -> St -> Hp -> Prop) (h0 : Pv 0 [] (compSt k js σ) H) (hl : ∀ i zs σ H, i ≤ n -> Pv i zs σ H -> SqL K H a xs /\ SqL K H b ys)
    (hs : ∀ i x y zs σ H T, i < n -> xs[i]? = some x -> ys[i]? = some y -> Pv i zs σ H -> H T = none -> zs.length < sizeLine /\ g (.ref T) σ (upd H T (.tup [x, y])) fun σ3 H3 => te σ3 H3 fun v H4 => Pv (i + 1) (zs ++ [v]) σ3 H4) (hz : ∀ zs σ H, Pv n zs σ H -> ∀ p, H p = none -> Q (.ref p) (upd H p (.lst zs))) (hlen : ∀ i zs σ H, Pv i zs σ H -> zs.length < sizeLine) :
    CompZL K k js g te σ [.ref a, .ref b] H Q := by
  subst hn
  refine ⟨a, b, xs, ys, rfl, h1, h2, fun i m zs σ H => m = min xs.length ys.length - i /\ i ≤ min xs.length ys.length /\ Pv i zs σ H, ⟨_, rfl, Nat.zero_le _, h0⟩, ?_⟩
  rintro i m zs σ H ⟨rfl, hi, p⟩
  obtain ⟨k1, k2⟩ := hl i zs σ H hi p
  by_cases hlt : i < min xs.length ys.length
  · have l1 : i < xs.length := by omega
    have l2 : i < ys.length := by omega
    refine .inr ⟨⟨xs, ys, _, _, k1, k2, List.getElem?_eq_getElem l1, List.getElem?_eq_getElem l2⟩, hlen _ _ _ _ p, Pv (i + 1), fun zs' σ' H' p' => ⟨min xs.length ys.length - (i + 1), by omega, rfl, hlt, p'⟩, fun v H' yy => ?_⟩
    obtain ⟨T, x, y, rfl, hT, rfl, ex⟩ := yy
    obtain ⟨ex1, ex2⟩ := ex xs ys k1 k2
    exact (hs i x y zs σ H T hlt ex1 ex2 p hT).2
  · have e : i = min xs.length ys.length := by omega
    exact .inl ⟨⟨xs, ys, k1, k2, by omega⟩, hz zs σ H (e ▸ p)⟩
section
variable {prog : Program} {w : World} {A : Around} {E : Value -> Shared -> Prop} {s : Shared}
theorem sorted_seq {l : Addr} {T : String} {o : Obj} {vs : List Value} {n : Nat} {ns : List Int} {Q : Value -> Shared -> Prop} (hT : T = "list" \/ T = "tuple") (ho : s.heap.get? l = some o) (hc : o.cls = .type T) (hd : o.data = .seq vs.toArray n) (hI : IntsAre vs ns) (h64 : vs.length < 64)
    (h : ∀ (h1 h2 : Heap) (vs' : List Value) (ns' : List Int) (e : Nat), (∀ b u, s.heap.get? b = some u -> h1.get? b = some u) -> (∀ b u, h1.get? b = some u -> h2.get? b = some u) -> h2.get? h1.objs.size = some (seqObj "list" vs'.toArray e) -> IntsAre vs' ns' -> ns'.Perm ns -> ns'.Pairwise (· ≤ ·) -> Q (.ref h1.objs.size) { s with heap := h2 }) :
    wpAny (model prog w) A (call (.builtin "sorted") [.ref l]) Q E s := by
  refine Calls.call_function_entry kind_sorted plain_sorted entry_sorted (args_sorted1 _) ?_
  unfold Builtin.«sorted»
  refine wpAny_bind (m := checkCount "sorted" 1 1 _) (wpAny_pure ?_)
  refine wpAny_bind (wpAny_collect_seq l hT ho hc hd (fun h1 k1 => ?_) (by simp only [List.size_toArray]; exact Nat.le_of_lt (z1b (by omega))))
  rw [show vs.toArray.toList = vs by simp]
  refine wpAny_bind (wpAny_newList ?_)
  have hoL : (h1.push (seqObj "list" vs.toArray 0)).get? h1.objs.size = some (seqObj "list" vs.toArray 0) := Heap.get?_push_size _ rfl
  refine wpAny_bind (wpAny_holding (wpAny_call_entry slot_list_sort ⟨_, hoL, rfl⟩ entry_list_sort (list_sort_tree hoL hI h64 fun out ns' a1 a2 a3 => ⟨_, rfl, ?_⟩) (args_list_sort _)))
  refine wpAny_pure ⟨_, rfl, ?_⟩
  obtain ⟨e, he⟩ := sortedHeap_at (vs := vs) (out := out) hoL
  refine h h1 _ out.toList ns' e k1 (fun b u q => ?_) (by rw [Array.toArray_toList]; exact he) a1 a2 a3
  have hlt := Heap.lt_size q
  rw [sortedHeap_old (Nat.ne_of_lt hlt) (by rw [size_push']; exact Nat.lt_succ_of_lt hlt)]
  exact Heap.get?_push_of_some _ q
end
theorem vals_of_get : ∀ {xs : List V} {us : List Value}, xs.length = us.length -> (∀ (i : Nat) u, us[i]? = some u -> ∃ x, xs[i]? = some x /\ RelV x u) -> Vals xs us
  | [], [], _, _ => .nil
  | [], _ :: _, h, _ => by simp at h
  | _ :: _, [], h, _ => by simp at h
  | x :: xs, u :: us, h, f => by
    obtain ⟨y, e, r⟩ := f 0 u rfl
    cases (Option.some.inj e)
    exact .cons r (vals_of_get (by simpa using h) fun i v e => f (i + 1) v e)
section
variable {X : Cx}
theorem call_sortedI : CallR X (.builtin "sorted") (fun xs H Q => ∃ p ns, xs = [.ref p] /\ (SqL X.K H p (List.map V.int ns) \/ SqT X.K H p (List.map V.int ns)) /\ ns.length < 64 /\ ∀ ns' : List Int, ns'.Perm ns -> ns'.Pairwise (· ≤ ·) -> ∀ l, H l = none -> Q (.ref l) (upd H l (.lst (ns'.map V.int)))) := by
  intro pins s σ H xs us Q I r h
  obtain ⟨p, ns, rfl, hq, h64, q⟩ := h
  obtain ⟨u, rfl, rx⟩ := z3z r
  cases rx
  have fin : ∀ (h1 h2 : Heap) (vs' : List Value) (ns' : List Int) (e : Nat), (∀ b u, s.heap.get? b = some u -> h1.get? b = some u) -> (∀ b u, h1.get? b = some u -> h2.get? b = some u) -> h2.get? h1.objs.size = some (seqObj "list" vs'.toArray e) -> IntsAre vs' ns' -> ns'.Perm ns -> ns'.Pairwise (· ≤ ·) -> EP X pins σ Q (.ref h1.objs.size) { s with heap := h2 } := by
    intro h1 h2 vs' ns' e k1 k2 g a1 a2 a3
    have I1 : Inv X pins σ H { s with heap := h1 } := I.kept (t' := s.toks) k1
    have hz : (ns'.map V.int).length ≤ sizeLine := by rw [List.length_map, a2.length_eq]; exact Nat.le_of_lt (z1b (by omega))
    have I2 : Inv X pins σ (upd H h1.objs.size (.lst (ns'.map V.int))) { s with heap := h2 } := I1.laid (t' := s.toks) k2 (Nat.le_refl _) (show ObjOk X.prog X.w _ _ _ (.lst (ns'.map V.int)) from ⟨hz, vs', e, vals_ints a1, g⟩)
    exact ⟨.ref h1.objs.size, _, I2, rfl, q ns' a2 a3 _ (I1.hok.fresh (Nat.le_refl _))⟩
  rcases hq with hq | hq
  · obtain ⟨its, r', pl, hz⟩ := I.list hq
    have hi := z3h r'
    obtain ⟨o, ho, hc, n, hd⟩ := pl.isList
    exact sorted_seq (.inl rfl) ho hc hd hi (by rw [hi.length]; exact h64) fin
  · obtain ⟨its, r', pl, hz⟩ := I.tuple hq
    have hi := z3h r'
    obtain ⟨o, ho, hc, n, hd⟩ := pl
    exact sorted_seq (.inr rfl) ho hc hd hi (by rw [hi.length]; exact h64) fin
theorem z3m : CallR X (.type "range") (fun xs H Q => ∃ j : Int, xs = [.int j] /\ ∀ r, H r = none -> Q (.ref r) (upd H r (.rng 0 j))) := by
  intro pins s σ H xs us Q I r h
  obtain ⟨j, rfl, q⟩ := h
  obtain ⟨u, rfl, t, rfl⟩ := z3z r
  refine call_range_1 ⟨.ref s.heap.objs.size, _, I.laid (fun b o e => Heap.get?_push_of_some _ e) (Nat.le_refl _) ?_, rfl, q _ (I.hok.fresh (Nat.le_refl _))⟩
  exact ⟨_, _, _, Heap.get?_push_size _ rfl⟩
def upL (n : Nat) : List Int := (List.range n).map fun (i : Nat) => (i : Int)
theorem z3f (hc : X.calm = true) : CallR X (.type "list") (fun xs H Q => ∃ p n, xs = [.ref p] /\ H p = some (.rng 0 (Int.ofNat n)) /\ n ≤ 1000 /\ ∀ l, H l = none -> Q (.ref l) (upd H l (.lst ((upL n).map V.int)))) := by
  intro pins s σ H xs us Q I r h
  obtain ⟨p, n, rfl, hp, hn, q⟩ := h
  obtain ⟨u, rfl, rx⟩ := z3z r
  cases rx
  obtain ⟨t, u, v, e⟩ := I.hok p _ hp
  have hs : Builtin.Range.small 0 (Int.ofNat n) 1 = true := by
    have z : ∀ m : Fin 1001, Builtin.Range.small 0 (Int.ofNat m.val) 1 = true := by decide +kernel
    exact z ⟨n, by omega⟩
  have hsz : Builtin.Range.rangeSize 0 (Int.ofNat n) 1 = n := by
    unfold Builtin.Range.rangeSize
    rw [if_pos (by decide)]
    split
    · show (Int.ofNat n - 0 - 1) / 1 + 1 = _; simp; 
    · simp at *; omega
  refine call_list_range (I.ok.hd hc) e hs hsz (by omega) fun h' tk acc' c' k g it => ?_
  have rv : Vals ((upL n).map V.int) acc'.toList := by
    refine vals_of_get (by simp [upL, it.1]) fun i v e => ?_
    rw [Array.getElem?_toList] at e
    obtain ⟨tt, rfl⟩ := it.2 i v e
    have hi : i < n := by rw [← it.1]; exact (Array.getElem?_eq_some_iff.mp e).1
    exact ⟨.int i, by simp [upL, hi], tt, by simp⟩
  exact ⟨.ref s.heap.objs.size, _, I.laid k (Nat.le_refl _) (show ObjOk X.prog X.w _ _ _ (.lst _) from ⟨by simp [upL]; exact Nat.le_of_lt (z1b hn), acc'.toList, c', rv, by rw [Array.toArray_toList]; exact g⟩), rfl, q _ (I.hok.fresh (Nat.le_refl _))⟩
def rCount : V -> List V -> Hp -> VK -> Prop := fun x ys H Q => ∃ a o xs y, x = .ref a /\ ys = [y] /\ H a = some (.frz o (.tup xs)) /\ xs.all flatV = true /\ flatV y = true /\ Q (.int (xs.countP fun z => eqV z y)) H
def tBMf (r : V -> List V -> Hp -> VK -> Prop) (to : TE) (t : TA) : TE := fun σ H Q => to σ H fun x H1 => (∃ a o xs, x = .ref a /\ H1 a = some (.frz o (.tup xs)) /\ o.dict = none) /\ t σ H1 fun ys H2 => r x ys H2 Q
end
theorem ps_setC {X : Cx} {i : Nat} {x : Str} {elt tg iter : Expr} {scope : Scope} {cl : List (Str × Addr)} {pos pos' lpos : Pos} {own fv : List Str} {js : List Nat} {wi : TI} {g : TG} {te : TE}
    (hN : X.N.Nodup) (hx1 : X.N[i]? = some x) (hx : Loc X.env.scope x) (hf : X.fn x = true \/ X.env.scope.names.lookup x = some .local)
    (hc : X.calm = true) (hi : PI X tg iter wi) (hclos : closureFor scope X.env = pure cl) (hcell : ∀ y ∈ scope.names, y.2 ≠ .cell) (hkind : scope.kind = .function)
    (hnames : ∀ y ∈ scope.names, y.2 = .local -> scope.names.lookup y.1 = some .local)
    (hcl : ∀ x c, cl.lookup x = some c -> X.env.cells.lookup x = some c)
    (hhas : ∀ x, ((relabel scope X.env).names.lookup x = some .cell \/ (relabel scope X.env).names.lookup x = some .free) -> ∃ c, cl.lookup x = some c)
    (hlen : js.length = fv.length) (hcap : ∀ (i : Nat) x j, fv[i]? = some x -> js[i]? = some j -> Cap X scope cl x j)
    (hg : ∀ (C : Addr) (ex : List Addr) (s : Shared) (H : Hp), PG (cxComp X (own ++ fv) scope cl C ex s H) tg g)
    (he : ∀ (C : Addr) (ex : List Addr) (s : Shared) (H : Hp), PE (cxComp X (own ++ fv) scope cl C ex s H) elt te)
    (hsw : swapsWith (.ListComp elt [⟨tg, iter, [], 0⟩] scope lpos) (some (.Name x pos')) pos.line X.env = pure true := by rfl)
    (hs : ∀ x, foldedSetIterable iter X.env x = pure x := by intro _; rfl) :
    PS X (.Assign [.Name x pos'] (.ListComp elt [⟨tg, iter, [], 0⟩] scope lpos) pos) (tAsg (tComp wi own.length js g te) (gName i)) := by
  intro pins s σ H D I h
  rw [exec_Assign_Name_used _ _ _ _ hsw]
  refine wpAny_bind (wpAny_standAt ?_)
  rw [arm_evalThenUse_ListComp]
  have core := comp_core (use := some (assign (.Name x pos') X.env)) (QQ := fun _ s' => SP X pins D .next s') (fpos := firstIterPos [⟨tg, iter, [], 0⟩] lpos) (pos := lpos) hc hi hclos hcell hkind hnames hcl hhas hlen hcap hg he hs I h (fun a C s5 H5 fl I5 zC zL zS zc zp ⟨m, hn⟩ q => ?_)
  · refine wpAny_bind (wpAny_bind (thn core fun _ s' hq => ?_))
    exact wpAny_pure (wpAny_pure hq)
  · show wpAny (model X.prog X.w) X.A (assign (.Name x pos') X.env (.ref a)) _ X.xe s5
    show wpAny (model X.prog X.w) X.A (do standAt pos'; bindName X.env x (.ref a)) _ X.xe s5
    refine wpAny_bind (wpAny_standAt ?_)
    refine bindName_ ?_
    refine store_ok2 I5 hN hx1 hx (show RelV (.ref a) (.ref a) from rfl) (fun s6 I6 ⟨b, sb, hb⟩ => ?_) hf
    have cb : C ≠ b := by
      rcases hb with rfl | hb
      · exact zL
      · exact fun z => zc x b hb z.symm
    obtain ⟨o, es, ep, e, r⟩ := hn
    refine ⟨m, ⟨o, es, ep, (sb.2 C cb).trans e, r⟩, fun h' sc => ?_⟩
    exact ⟨_, H5, I6.turned (t' := s6.toks) (it := C) (fun d o nd e => sc.extBut d o nd e) zC zL (.inr zS) zc zp, q⟩
section
variable {X : Cx}
def startsB (x y : Str) : Bool := decide (0 + y.length ≤ x.length) && Builtin.Str.subAt x y 0
def rStarts : V -> List V -> Hp -> VK -> Prop := fun x xs H Q => ∃ z y, x = .str z /\ xs = [.str y] /\ Q (.bl (startsB z y)) H
def rSlStrX : V -> Option Int -> Option Int -> Hp -> VK -> Prop := fun x lo hi H Q => ∃ z, x = .str z /\ z.length ≤ 20000 /\ Q (.str (Txt.slice z lo hi)) H
theorem vals_bools : ∀ {bs : List Bool} {us : List Value}, Vals (bs.map V.bl) us -> us = bs.map Value.bool
  | [], _, .nil => rfl
  | b :: bs, _, .cons r t => by
    cases (show _ = Value.bool b from r)
    rw [vals_bools t]; rfl
theorem call_anyB (hc : X.calm = true) : CallR X (.builtin "any") (fun xs H Q => ∃ (a : Addr) (bs : List Bool), xs = [.ref a] /\ SqL X.K H a (bs.map V.bl) /\ Q (.bl (bs.any id)) H) := by
  intro pins s σ H xs us Q I r h
  obtain ⟨a, bs, rfl, hq, q⟩ := h
  obtain ⟨u, rfl, ru⟩ := z3z r
  cases (show u = Value.ref a from ru)
  obtain ⟨its, rv, pl, hz⟩ := I.list hq
  have hl := pl.isList
  have hlt : a < s.heap.objs.size := by obtain ⟨_, e, _⟩ := hl; exact Heap.lt_size e
  have hb := vals_bools rv
  subst hb
  refine call_any_walk (wpAny_pyIter_list hl ?_)
  refine ⟨s.heap.objs.size, [s.heap.objs.size, a], [s.heap.objs.size], (bs.map Value.bool).toArray.size, _, _, fun i => (bs[i]?).getD false, rfl, Walks.list (A := X.A.in1) (I.ok.hd hc) _ a (Nat.ne_of_lt hlt) (bs.map Value.bool).toArray,
    ⟨⟨_, Heap.get?_push_size _ rfl, rfl, rfl⟩, hl.push _⟩, fun i v s' Q' E' hP hQ => ?_, fun h' tk hk => ?_⟩
  · have hP : (bs.map Value.bool)[i]? = some v := by simpa using hP
    rw [List.getElem?_map] at hP
    cases e : bs[i]? with
    | none => rw [e] at hP; cases hP
    | some b =>
      rw [e] at hP; cases hP
      simp only [e, Option.getD_some] at hQ
      exact wpAny_truthy_bool hQ
  · have e : ((List.range (bs.map Value.bool).toArray.size).any fun i => (bs[i]?).getD false) = bs.any id := by
      rw [List.size_toArray, List.length_map]; exact LSm.range_any bs
    rw [e]
    exact ⟨.bl _, H, I.kept (t' := tk) (LSm.kept_iter hk), rfl, q⟩
end
section
variable {κ : Type} [DecidableEq κ]
def valV (kvs : List (κ × V)) (k : κ) : Option V := (kvs.find? fun kv => decide (kv.1 = k)).map (·.2)
def putK (kvs : List (κ × V)) (k : κ) (v : V) : List (κ × V) :=
  if (kvs.any fun kv => decide (kv.1 = k)) = true then kvs.map (fun kv => if kv.1 = k then (kv.1, v) else kv) else kvs ++ [(k, v)]
def dropK (kvs : List (κ × V)) (k : κ) : List (κ × V) := kvs.filter fun kv => decide (kv.1 ≠ k)
theorem valV_pos {p : κ × V} {r : List (κ × V)} {k : κ} (e : p.1 = k) : valV (p :: r) k = some p.2 := by simp [valV, List.find?_cons, e]
theorem valV_neg {p : κ × V} {r : List (κ × V)} {k : κ} (e : ¬ p.1 = k) : valV (p :: r) k = valV r k := by simp [valV, List.find?_cons, e]
theorem RelO.getD {o : Option V} {u : Option Value} {d : V} {d' : Value} (r : RelO o u) (rd : RelV d d') : RelV (o.getD d) (u.getD d') := by
  cases o with
  | none => cases u with
    | none => exact rd
    | some _ => exact (show False from r).elim
  | some _ => cases u with
    | none => exact (show False from r).elim
    | some _ => exact r
theorem KV.val {kvs : List (κ × V)} {vs : List (κ × Value)} (r : KV kvs vs) (k : κ) : RelO (valV kvs k) (valueAt vs k) := by
  unfold KV at r
  induction r with
  | nil => exact True.intro
  | @cons p q ps qs h t ih =>
    obtain ⟨h1, h2⟩ := h
    by_cases e : p.1 = k
    · have e' : q.1 = k := h1.symm.trans e
      have b : valueAt (q :: qs) k = some q.2 := by simp [valueAt, List.find?_cons, e']
      rw [valV_pos e, b]; exact h2
    · have e' : ¬ q.1 = k := fun z => e (h1.trans z)
      have b : valueAt (q :: qs) k = valueAt qs k := by simp [valueAt, List.find?_cons, e']
      rw [valV_neg e, b]; exact ih
theorem KV.any {kvs : List (κ × V)} {vs : List (κ × Value)} (r : KV kvs vs) (k : κ) : (kvs.any fun kv => decide (kv.1 = k)) = vs.any fun kv => decide (kv.1 = k) := by
  unfold KV at r
  induction r with
  | nil => rfl
  | cons h t ih => rw [List.any_cons, List.any_cons, ih, h.1]
theorem KV.drop {kvs : List (κ × V)} {vs : List (κ × Value)} (r : KV kvs vs) (k : κ) : KV (dropK kvs k) (without vs k) := by
  unfold KV at r ⊢
  unfold dropK without
  induction r with
  | nil => exact .nil
  | @cons p q ps qs h t ih =>
    obtain ⟨h1, h2⟩ := h
    rw [List.filter_cons, List.filter_cons]
    by_cases e : p.1 = k
    · have a : ¬ decide (p.1 ≠ k) = true := by simp [e]
      have b : ¬ decide (q.1 ≠ k) = true := by simp [h1.symm.trans e]
      rw [if_neg a, if_neg b]; exact ih
    · have e' : ¬ q.1 = k := fun z => e (h1.trans z)
      have a : decide (p.1 ≠ k) = true := by simp [e]
      have b : decide (q.1 ≠ k) = true := by simp [e']
      rw [if_pos a, if_pos b]; exact .cons ⟨h1, h2⟩ ih
theorem KV.length {kvs : List (κ × V)} {vs : List (κ × Value)} (r : KV kvs vs) : kvs.length = vs.length := Paired.length r
end
abbrev KT (H : Hp) : List (List Key × V) -> List (List Key × Addr × Value) -> Prop := Paired fun p q => p.1 = q.1 /\ H q.2.1 = some (.tup (p.1.map kV)) /\ RelV p.2 q.2.2
theorem KT.val {H : Hp} {kvs : List (List Key × V)} {xs : List (List Key × Addr × Value)} (r : KT H kvs xs) (k : List Key) : RelO (valV kvs k) ((atKey xs k).map (·.2)) := by
  induction r with
  | nil => exact True.intro
  | @cons p q ps qs h t ih =>
    obtain ⟨h1, _, h2⟩ := h
    by_cases e : p.1 = k
    · have e' : q.1 = k := h1.symm.trans e
      have b : atKey (q :: qs) k = some q.2 := by simp [atKey, List.find?_cons, e']
      rw [valV_pos e, b]; exact h2
    · have e' : ¬ q.1 = k := fun z => e (h1.trans z)
      have b : atKey (q :: qs) k = atKey qs k := by simp [atKey, List.find?_cons, e']
      rw [valV_neg e, b]; exact ih
theorem KT.keeps {H H' : Hp} {kvs : List (List Key × V)} {xs : List (List Key × Addr × Value)} (r : KT H kvs xs) (ht : ∀ b ys, H b = some (.tup ys) -> H' b = some (.tup ys)) : KT H' kvs xs :=
  Paired.mapP r fun _ _ z => ⟨z.1, ht _ _ z.2.1, z.2.2⟩
section
variable {P : Program} {w : World} {H : Hp} {h : Heap} {a : Addr}
end
def DGet (H : Hp) (a : Addr) (y : V) (r : Option V) : Prop :=
  (∃ kvs k, Rd H a (.dK kvs) /\ y = kV k /\ r = valV kvs k) \/ ∃ kvs k b, Rd H a (.dT kvs) /\ y = .ref b /\ H b = some (.tup (k.map kV)) /\ r = valV kvs k
def DPut (H : Hp) (a : Addr) (y v : V) (H' : Hp) : Prop :=
  (∃ kvs k, H a = some (.dK kvs) /\ y = kV k /\ kvs.length < sizeLine /\ H' = upd H a (.dK (putK kvs k v))) \/
  ∃ kvs k b, H a = some (.dT kvs) /\ y = .ref b /\ H b = some (.tup (k.map kV)) /\ kvs.length < sizeLine /\ H' = upd H a (.dT (putK kvs k v))
theorem DGet.k {H : Hp} {a : Addr} {kvs : List (Key × V)} {k : Key} (e : H a = some (.dK kvs)) : DGet H a (kV k) (valV kvs k) := .inl ⟨kvs, k, .inl e, rfl, rfl⟩
theorem DGet.t {H : Hp} {a b : Addr} {kvs : List (List Key × V)} {k : List Key} (e : H a = some (.dT kvs)) (eb : H b = some (.tup (k.map kV))) : DGet H a (.ref b) (valV kvs k) := .inr ⟨kvs, k, b, .inl e, rfl, eb, rfl⟩
theorem DPut.k {H : Hp} {a : Addr} {kvs : List (Key × V)} {k : Key} {v : V} (e : H a = some (.dK kvs)) (hl : kvs.length < sizeLine) : DPut H a (kV k) v (upd H a (.dK (putK kvs k v))) := .inl ⟨kvs, k, e, rfl, hl, rfl⟩
theorem DPut.t {H : Hp} {a b : Addr} {kvs : List (List Key × V)} {k : List Key} {v : V} (e : H a = some (.dT kvs)) (eb : H b = some (.tup (k.map kV))) (hl : kvs.length < sizeLine) :
    DPut H a (.ref b) v (upd H a (.dT (putK kvs k v))) := .inr ⟨kvs, k, b, e, rfl, eb, hl, rfl⟩
section
variable {X : Cx} {pins : List (Addr × Obj)} {σ : St} {H : Hp} {s : Shared} {a : Addr} {y v : V} {u r : Value} {o : Option V} {A : Around} {E : Value -> Shared -> Prop}
end
section
variable {X : Cx} {pins : List (Addr × Obj)} {σ : St} {H : Hp} {s : Shared} {a : Addr} {kvs : List (Key × V)} {k : Key} {u : Value} {A : Around} {E : Value -> Shared -> Prop}
end
def NoSl (i : Expr) : Prop := ∀ ov iv, subscripted i false ov iv = operate [ov, iv] (getItem ov iv)
theorem subD_of {prog : Program} {w : World} {A : Around} {E : Value -> Shared -> Prop} {s : Shared} {env : Env} {value slice : Expr} {pos : Pos} {T id : String} {Q : Value -> Shared -> Prop}
    (hl : typeLookup (.type T) "__getitem__" = pure (some (.builtin id))) (hs : NoSl slice)
    (h : wpAny (model prog w) A (eval value env) (fun o s₁ => wpAny (model prog w) A (eval slice env) (fun i s₂ => s₂.TypeIs o T /\ wpAny (model prog w) A (getItem o i) Q E s₂) E s₁) E s) :
    wpAny (model prog w) A (eval (.Subscript value slice pos) env) Q E s := by
  refine Subscript_ (wpAny_mono h (fun o s₁ h₁ => wpAny_mono h₁ (fun i s₂ h₂ => ?_) fun _ _ x => x) fun _ _ x => x)
  obtain ⟨hT, h₂⟩ := h₂
  unfold subscriptTail
  refine wpAny_bind ?_
  rw [getitemInPython_of_ne hT.not_modules]
  refine wpAny_bind (wpAny_specialOf hT hl ?_)
  have fin : wpAny (model prog w) A (subscripted slice false o i) (fun r s₃ => wpAny (model prog w) A (letTemporaryGo value o r >>= fun _ => pure r) Q E s₃) E s₂ := by
    rw [hs o i]
    exact wpAny_operating (wpAny_mono h₂ (fun r s₃ h₃ => wpAny_bind (wpAny_letTemporaryGo (wpAny_pure h₃))) fun _ _ x => x)
  first
    | exact wpAny_pure (wpAny_bind fin)
    | exact wpAny_bind (wpAny_pure (wpAny_bind fin))
    | exact wpAny_bind fin
def tDIn (ty td : TE) : TE := fun σ H Q => ty σ H fun y H1 => td σ H1 fun x H2 => ∃ a o, x = .ref a /\ DGet H2 a y o /\ Q (.bl o.isSome) H2
def sDPut (td ty tv : TE) : TS := fun D σ H => tv σ H fun v H1 => td σ H1 fun x H2 => ty σ H2 fun y H3 => ∃ a H4, x = .ref a /\ DPut H3 a y v H4 /\ D.nx σ H4
section
variable {X : Cx} {o i e value : Expr} {pos pos' tpos : Pos} {td ty tv : TE}
end
def tDNewK : TE := fun _ H Q => ∀ p, H p = none -> Q (.ref p) (upd H p (.dK []))
section
variable {X : Cx} {pos : Pos}
end
def mergeK (kvs more : List (Key × V)) : List (Key × V) := more.foldl (fun acc kv => putK acc kv.1 kv.2) kvs
structure M1 (X : Cx) (o : Expr) (m : Str) (apos : Pos) (e : Expr) (cpos : Pos) : Prop where
  base : attributeBase o m X.env (eval o X.env) = eval o X.env
  few : ((backTo cpos (starEach [e] X.env)).all (fun x => !x.1) && (backToKw cpos (keywordEach [] X.env)).all (fun x => x.1.isSome)
    && decide (([e] : List Expr).length + ([] : List Keyword).length + (if ([] : List Keyword).isEmpty then 0 else 1) < 30)) = true
  line : (apos.endLine == cpos.line) = true
  trees : backTo cpos (starEach [e] X.env) = [(false, eval e X.env)]
structure M2 (X : Cx) (o : Expr) (m : Str) (apos : Pos) (e f : Expr) (cpos : Pos) : Prop where
  base : attributeBase o m X.env (eval o X.env) = eval o X.env
  few : ((backTo cpos (starEach [e, f] X.env)).all (fun x => !x.1) && (backToKw cpos (keywordEach [] X.env)).all (fun x => x.1.isSome)
    && decide (([e, f] : List Expr).length + ([] : List Keyword).length + (if ([] : List Keyword).isEmpty then 0 else 1) < 30)) = true
  line : (apos.endLine == cpos.line) = true
  trees : backTo cpos (starEach [e, f] X.env) = [(false, eval e X.env), (false, eval f X.env)]
def IsD (H : Hp) (a : Addr) : Prop := (∃ kvs, Rd H a (.dK kvs)) \/ ∃ kvs, Rd H a (.dT kvs)
section
variable {X : Cx} {pins : List (Addr × Obj)} {σ : St} {H : Hp} {s : Shared} {a : Addr} {y d : V} {u r : Value} {o : Option V} {A : Around} {E : Value -> Shared -> Prop}
end
def tDGet1 (td ty : TE) : TE := fun σ H Q => td σ H fun x H1 => ∃ a, x = .ref a /\ IsD H1 a /\ ty σ H1 fun y H2 => ∃ o, DGet H2 a y o /\ Q (o.getD .non) H2
section
variable {X : Cx} {o e f : Expr} {apos cpos : Pos} {td ty tx : TE}
end
section
variable {X : Cx} {pins : List (Addr × Obj)} {σ : St} {H : Hp} {s : Shared} {a : Addr} {kvs : List (Key × V)} {A : Around} {E : Value -> Shared -> Prop}
end
section
variable {X : Cx} {pins : List (Addr × Obj)} {σ : St} {H : Hp} {s : Shared} {a : Addr} {y : V} {u : Value} {A : Around} {E : Value -> Shared -> Prop}
end
section
variable {X : Cx}
end
section
variable {κ : Type} [DecidableEq κ]
end
def KTab (P : Program) (w : World) (K : PySem.W.Frag) (d : Addr) (kvs : List (Str × Addr)) : Prop := (d == sysModules) = false /\ ∀ h : Heap, K.In h -> h.DictOf (mixKind P w) d (kvs.map fun p => ((Sum.inr p.1 : Key), Value.ref p.2))
def entT (pm : Params) (l : List (Str × Tok × Addr)) : List DictEntry := l.map fun p => ⟨PyData.keyHash pm p.1, .str p.1 p.2.1, .ref p.2.2⟩
theorem KTab.mk {P : Program} {w : World} {K : PySem.W.Frag} {d : Addr} {l : List (Str × Tok × Addr)} {es : Array DictEntry} {n : Nat} (hd : (d == sysModules) = false) (hl : K.lookup d = some { cls := .type "dict", data := .dict es n }) (he : es.toList = entT w.params l) (nd : (l.map (·.1)).Nodup) :
    KTab P w K d (l.map fun p => (p.1, p.2.2)) := by
  refine ⟨hd, fun h KI => ⟨_, es, n, KI d _ hl, ⟨rfl, rfl, rfl⟩, rfl, ?_, ?_, ?_⟩⟩
  · intro e hm
    have hm : e ∈ es.toList := Array.mem_toList_iff.mpr hm
    rw [he] at hm
    obtain ⟨p, _, rfl⟩ := List.mem_map.mp hm
    exact ⟨Sum.inr p.1, keyIs_str p.1 p.2.1, rfl⟩
  · rw [he]
    clear he nd hl
    induction l with
    | nil => exact .nil
    | cons p r ih => exact .cons (keyIs_str p.1 p.2.1) rfl ih
  · rw [List.map_map, List.map_map]
    have e : ((fun x : Key × Value => x.1) ∘ (fun p : Str × Addr => ((Sum.inr p.1 : Key), Value.ref p.2))) ∘ (fun p : Str × Tok × Addr => (p.1, p.2.2)) = (fun x : Str => (Sum.inr x : Key)) ∘ fun p => p.1 := rfl
    rw [← List.map_map] at *
    have z : (l.map fun p => (Sum.inr p.1 : Key)).Nodup := by
      have : (l.map fun p => (Sum.inr p.1 : Key)) = (l.map (·.1)).map (fun x : Str => (Sum.inr x : Key)) := by rw [List.map_map]; rfl
      rw [this]
      exact List.Pairwise.map _ (fun a b (h : a ≠ b) z => h (Sum.inr.inj z)) nd
    simpa [List.map_map, Function.comp_def] using z
theorem ktab_val {kvs : List (Str × Addr)} {x : Str} : valueAt (kvs.map fun p => ((Sum.inr p.1 : Key), Value.ref p.2)) (Sum.inr x) = (kvs.lookup x).map Value.ref := by
  induction kvs with
  | nil => rfl
  | cons p r ih =>
    obtain ⟨k, a⟩ := p
    unfold valueAt at *
    rw [List.map_cons, List.find?_cons, List.lookup_cons]
    by_cases e : x = k
    · subst e; simp
    · have h1 : decide ((Sum.inr k : Key) = Sum.inr x) = false := decide_eq_false fun z => e (Sum.inr.inj z).symm
      have h2 : (x == k) = false := beq_eq_false_iff_ne.mpr e
      rw [h2]
      simp only [h1]
      exact ih
section
variable {X : Cx}
def rKTab (kvs : List (Str × Addr)) : V -> Hp -> VK -> Prop := fun y H Q => ∃ x a, y = .str x /\ kvs.lookup x = some a /\ Q (.ref a) H
def tKTab (kvs : List (Str × Addr)) (te : TE) : TE := fun σ H Q => te σ H fun y H1 => rKTab kvs y H1 Q
theorem pe_ktab {n : Str} {i : Expr} {np pos : Pos} {d : Addr} {kvs : List (Str × Addr)} {te : TE} (hg : Gl X n) (hm : X.mg n = some (.ref d)) (T : KTab X.prog X.w X.K d kvs) (hi : PE X i te) (hs : NoSl i) (hdb : (n == ("__debug__" : Str)) = false := by decide) :
    PE X (.Subscript (.Name n np) i pos) (tKTab kvs te) := by
  intro pins s σ H Q I h
  refine subD_of PySem.F.slot_dict_getitem.lookup hs (ld_glob I hg hm (thn (hi pins s σ H _ I h) fun iv s2 ⟨y, H2, I2, ry, x, a, ey, l, q⟩ => ?_) hdb)
  subst ey
  obtain ⟨t, rfl⟩ := ry
  have dd := T.2 s2.heap I2.kIn
  refine ⟨dd.typeIs, wpAny_getItem_of (keyIs_str x t) dd.mapOf (v := .ref a) (by rw [ktab_val, l]; rfl) ⟨.ref a, H2, I2.tok _, rfl, q⟩⟩
def tKIn (kvs : List (Str × Addr)) (te : TE) : TE := fun σ H Q => te σ H fun y H1 => ∃ x, y = .str x /\ Q (.bl (kvs.lookup x).isSome) H1
end
def KTup (K : PySem.W.Frag) (a : Addr) (xs : List V) : Prop := ∃ (o : Obj) (its : Array Value) (n : Nat), K.lookup a = some o /\ o.cls = .type "tuple" /\ o.data = .seq its n /\ its.size ≤ sizeLine /\ Vals xs its.toList
theorem KTup.sq {K : PySem.W.Frag} {a : Addr} {xs : List V} (h : KTup K a xs) {H : Hp} : SqT K H a xs := .inr h
section
variable {pg : Program} {wd : World} {B : Around} {X0 : Value -> Shared -> Prop} {s0 : Shared}
end
def ItzM (K : PySem.W.Frag) (a b : Addr) : It := ⟨fun i H => ∃ xs ys x y, SqL K H a xs /\ SqT K H b ys /\ xs[i]? = some x /\ ys[i]? = some y,
  fun i H v H' => ∃ T x y, v = .ref T /\ H T = none /\ H' = upd H T (.tup [x, y]) /\ ∀ xs ys, SqL K H a xs -> SqT K H b ys -> xs[i]? = some x /\ ys[i]? = some y, fun i H => ∃ xs ys, SqL K H a xs /\ SqT K H b ys /\ (xs.length ≤ i \/ ys.length ≤ i)⟩
section
variable {X : Cx} {es : List Expr} {x1 : Nat} {pp : Pos}
def iZipM (K : PySem.W.Frag) (ta : TA) : TI := fun σ H R => ta σ H fun vs H1 => ∃ a b xs ys, vs = [.ref a, .ref b] /\ SqL K H1 a xs /\ SqT K H1 b ys /\ R (ItzM K a b) H1
end
def LoopZM (K : PySem.W.Frag) (g : TG) (tb : TS) (D : Ends) (σ : St) (vs : List V) (H1 : Hp) : Prop := ∃ a b xs ys, vs = [.ref a, .ref b] /\ SqL K H1 a xs /\ SqT K H1 b ys /\ ∃ W : Nat -> Nat -> St -> Hp -> Prop, (∃ m, W 0 m σ H1) /\ ∀ i m σ H, W i m σ H ->
  ((ItzM K a b).stop i H /\ D.nx σ H) \/ ((ItzM K a b).go i H /\ ∃ N : St -> Hp -> Prop, (∀ σ' H', N σ' H' -> ∃ m', m' < m /\ W (i + 1) m' σ' H') /\ ∀ x H', (ItzM K a b).yld i H x H' -> g x σ H' fun σ2 H2 => tb { D with nx := N, ct := N, bk := D.nx } σ2 H2)
theorem for_eqZM {K : PySem.W.Frag} {ta : TA} {g : TG} {tb : TS} {D : Ends} {σ : St} {H : Hp} : tFor (iZipM K ta) g tb D σ H = ta σ H fun vs H1 => LoopZM K g tb D σ vs H1 := rfl
theorem LoopZM.mk {K : PySem.W.Frag} {a b : Addr} {xs ys : List V} {g : TG} {tb : TS} {D : Ends} {σ : St} {H : Hp} (n : Nat) (hn : n = min xs.length ys.length) (h1 : SqL K H a xs) (h2 : SqT K H b ys) (Pv : Nat -> St -> Hp -> Prop) (h0 : Pv 0 σ H) (hl : ∀ i σ H, i ≤ n -> Pv i σ H -> SqL K H a xs /\ SqT K H b ys)
    (hs : ∀ i x y σ H T, i < n -> xs[i]? = some x -> ys[i]? = some y -> Pv i σ H -> H T = none -> g (.ref T) σ (upd H T (.tup [x, y])) fun σ2 H2 => tb { D with nx := Pv (i + 1), ct := Pv (i + 1), bk := D.nx } σ2 H2) (hd : ∀ σ H, Pv n σ H -> D.nx σ H) :
    LoopZM K g tb D σ [.ref a, .ref b] H := by
  subst hn
  refine ⟨a, b, xs, ys, rfl, h1, h2, fun i m σ H => m = min xs.length ys.length - i /\ i ≤ min xs.length ys.length /\ Pv i σ H, ⟨_, rfl, Nat.zero_le _, h0⟩, ?_⟩
  rintro i m σ H ⟨rfl, hi, p⟩
  obtain ⟨k1, k2⟩ := hl i σ H hi p
  by_cases hlt : i < min xs.length ys.length
  · have l1 : i < xs.length := by omega
    have l2 : i < ys.length := by omega
    refine .inr ⟨⟨xs, ys, _, _, k1, k2, List.getElem?_eq_getElem l1, List.getElem?_eq_getElem l2⟩, Pv (i + 1), fun σ' H' p' => ⟨min xs.length ys.length - (i + 1), by omega, rfl, hlt, p'⟩, fun v H' yy => ?_⟩
    obtain ⟨T, x, y, rfl, hT, rfl, ex⟩ := yy
    obtain ⟨ex1, ex2⟩ := ex xs ys k1 k2
    exact hs i x y σ H T hlt ex1 ex2 p hT
  · have e : i = min xs.length ys.length := by omega
    exact .inl ⟨⟨xs, ys, k1, k2, by omega⟩, hd σ H (e ▸ p)⟩
def CompZM (K : PySem.W.Frag) (k : Nat) (js : List Nat) (g : TG) (te : TE) (σ : St) (vs : List V) (H1 : Hp) (Q : VK) : Prop := ∃ a b xs ys, vs = [.ref a, .ref b] /\ SqL K H1 a xs /\ SqT K H1 b ys /\ ∃ W : Nat -> Nat -> List V -> St -> Hp -> Prop, (∃ m, W 0 m [] (compSt k js σ) H1) /\ ∀ i m zs σ' H', W i m zs σ' H' ->
    ((ItzM K a b).stop i H' /\ ∀ p, H' p = none -> Q (.ref p) (upd H' p (.lst zs))) \/
    ((ItzM K a b).go i H' /\ zs.length < sizeLine /\ ∃ N : List V -> St -> Hp -> Prop, (∀ zs σ2 H2, N zs σ2 H2 -> ∃ m', m' < m /\ W (i + 1) m' zs σ2 H2) /\ ∀ x H2, (ItzM K a b).yld i H' x H2 -> g x σ' H2 fun σ3 H3 => te σ3 H3 fun v H4 => N (zs ++ [v]) σ3 H4)
theorem comp_eqZM {K : PySem.W.Frag} {k : Nat} {js : List Nat} {ta : TA} {g : TG} {te : TE} {σ : St} {H : Hp} {Q : VK} : tComp (iZipM K ta) k js g te σ H Q = ta σ H fun vs H1 => CompZM K k js g te σ vs H1 Q := rfl
theorem CompZM.mk {K : PySem.W.Frag} {a b : Addr} {xs ys : List V} {k : Nat} {js : List Nat} {g : TG} {te : TE} {Q : VK} {σ : St} {H : Hp} (n : Nat) (hn : n = min xs.length ys.length) (h1 : SqL K H a xs) (h2 : SqT K H b ys) (Pv : Nat -> List V -> St -> Hp -> Prop) (h0 : Pv 0 [] (compSt k js σ) H) (hl : ∀ i zs σ H, i ≤ n -> Pv i zs σ H -> SqL K H a xs /\ SqT K H b ys)
    (hs : ∀ i x y zs σ H T, i < n -> xs[i]? = some x -> ys[i]? = some y -> Pv i zs σ H -> H T = none -> zs.length < sizeLine /\ g (.ref T) σ (upd H T (.tup [x, y])) fun σ3 H3 => te σ3 H3 fun v H4 => Pv (i + 1) (zs ++ [v]) σ3 H4) (hz : ∀ zs σ H, Pv n zs σ H -> ∀ p, H p = none -> Q (.ref p) (upd H p (.lst zs))) (hlen : ∀ i zs σ H, Pv i zs σ H -> zs.length < sizeLine) :
    CompZM K k js g te σ [.ref a, .ref b] H Q := by
  subst hn
  refine ⟨a, b, xs, ys, rfl, h1, h2, fun i m zs σ H => m = min xs.length ys.length - i /\ i ≤ min xs.length ys.length /\ Pv i zs σ H, ⟨_, rfl, Nat.zero_le _, h0⟩, ?_⟩
  rintro i m zs σ H ⟨rfl, hi, p⟩
  obtain ⟨k1, k2⟩ := hl i zs σ H hi p
  by_cases hlt : i < min xs.length ys.length
  · have l1 : i < xs.length := by omega
    have l2 : i < ys.length := by omega
    refine .inr ⟨⟨xs, ys, _, _, k1, k2, List.getElem?_eq_getElem l1, List.getElem?_eq_getElem l2⟩, hlen _ _ _ _ p, Pv (i + 1), fun zs' σ' H' p' => ⟨min xs.length ys.length - (i + 1), by omega, rfl, hlt, p'⟩, fun v H' yy => ?_⟩
    obtain ⟨T, x, y, rfl, hT, rfl, ex⟩ := yy
    obtain ⟨ex1, ex2⟩ := ex xs ys k1 k2
    exact (hs i x y zs σ H T hlt ex1 ex2 p hT).2
  · have e : i = min xs.length ys.length := by omega
    exact .inl ⟨⟨xs, ys, k1, k2, by omega⟩, hz zs σ H (e ▸ p)⟩
def CompTI (K : PySem.W.Frag) (k : Nat) (js : List Nat) (g : TG) (tc : TT) (te : TE) (σ : St) (v : V) (H1 : Hp) (Q : VK) : Prop := ∃ a, v = .ref a /\ (∃ xs, SqT K H1 a xs) /\ ∃ W : Nat -> Nat -> List V -> St -> Hp -> Prop, (∃ m, W 0 m [] (compSt k js σ) H1) /\ ∀ i m zs σ' H', W i m zs σ' H' ->
    ((Itt K a).stop i H' /\ ∀ p, H' p = none -> Q (.ref p) (upd H' p (.lst zs))) \/
    ((Itt K a).go i H' /\ zs.length < sizeLine /\ ∃ N : List V -> St -> Hp -> Prop, (∀ zs σ2 H2, N zs σ2 H2 -> ∃ m', m' < m /\ W (i + 1) m' zs σ2 H2) /\ ∀ x H2, (Itt K a).yld i H' x H2 -> g x σ' H2 fun σ3 H3 => tc σ3 H3 fun b H4 => if b = true then te σ3 H4 fun v H5 => N (zs ++ [v]) σ3 H5 else N zs σ3 H4)
theorem comp_eqTI {K : PySem.W.Frag} {k : Nat} {js : List Nat} {tx : TE} {g : TG} {tc : TT} {te : TE} {σ : St} {H : Hp} {Q : VK} : tCompI (iTup K tx) k js g tc te σ H Q = tx σ H fun v H1 => CompTI K k js g tc te σ v H1 Q := rfl
theorem CompTI.mk {K : PySem.W.Frag} {a : Addr} {xs : List V} {k : Nat} {js : List Nat} {g : TG} {tc : TT} {te : TE} {Q : VK} {σ : St} {H : Hp} (h1 : SqT K H a xs) (Pv : Nat -> List V -> St -> Hp -> Prop) (h0 : Pv 0 [] (compSt k js σ) H) (hl : ∀ i zs σ H, i ≤ xs.length -> Pv i zs σ H -> SqT K H a xs /\ zs.length < sizeLine)
    (hs : ∀ i x zs σ H, xs[i]? = some x -> Pv i zs σ H -> g x σ H fun σ3 H3 => tc σ3 H3 fun b H4 => if b = true then te σ3 H4 fun v H5 => Pv (i + 1) (zs ++ [v]) σ3 H5 else Pv (i + 1) zs σ3 H4) (hz : ∀ zs σ H, Pv xs.length zs σ H -> ∀ p, H p = none -> Q (.ref p) (upd H p (.lst zs))) :
    CompTI K k js g tc te σ (.ref a) H Q := by
  refine ⟨a, rfl, ⟨xs, h1⟩, fun i m zs σ H => m = xs.length - i /\ i ≤ xs.length /\ Pv i zs σ H, ⟨_, rfl, Nat.zero_le _, h0⟩, ?_⟩
  rintro i m zs σ H ⟨rfl, hi, p⟩
  obtain ⟨k1, k2⟩ := hl i zs σ H hi p
  by_cases hlt : i < xs.length
  · refine .inr ⟨⟨xs, _, k1, List.getElem?_eq_getElem hlt⟩, k2, Pv (i + 1), fun zs' σ' H' p' => ⟨xs.length - (i + 1), by omega, rfl, hlt, p'⟩, fun v H' yy => ?_⟩
    obtain ⟨rfl, ex⟩ := yy
    exact hs i v zs σ _ (ex xs k1) p
  · have e : i = xs.length := by omega
    exact .inl ⟨⟨xs, k1, by omega⟩, hz zs σ H (e ▸ p)⟩
section
variable {X : Cx}
def rJoinD (K : PySem.W.Frag) : V -> List V -> Hp -> VK -> Prop := fun x xs H Q => ∃ (z : Str) (l : Addr) (ys : List Str), x = .str z /\ z.length = 0 /\ xs = [.ref l] /\ SqL K H l (ys.map V.str) /\ ys.length ≤ 100 /\ (∀ y ∈ ys, okS 10 y) /\ (okS 1000 (Builtin.Str.glued z ys) -> Q (.str (Builtin.Str.glued z ys)) H)
theorem pg_tupK {es : List Expr} {k : Nat} {pos : Pos} {t : TGs} {n : Nat} {K : PySem.W.Frag} (hK : X.K = K) (h : PG X (.Tuple es k pos) (gTup X.K n t)) : PG X (.Tuple es k pos) (gTup K n t) := hK ▸ h
end
theorem cap3 {X : Cx} {scope : Scope} {cl : List (Str × Addr)} {x0 x1 x2 : Str} {j0 j1 j2 : Nat} (c0 : Cap X scope cl x0 j0) (c1 : Cap X scope cl x1 j1) (c2 : Cap X scope cl x2 j2) : ∀ (i : Nat) x j, [x0, x1, x2][i]? = some x -> [j0, j1, j2][i]? = some j -> Cap X scope cl x j
  | 0, _, _, h1, h2 => by cases h1; cases h2; exact c0
  | 1, _, _, h1, h2 => by cases h1; cases h2; exact c1
  | 2, _, _, h1, h2 => by cases h1; cases h2; exact c2
  | _ + 3, _, _, h1, _ => by cases h1
theorem z2f {cells : List (Str × Addr)} {y z u : Str} {a b d : Addr} (h : cells.lookup y = some a) (h2 : cells.lookup z = some b) (h3 : cells.lookup u = some d) : ∀ x c, [(y, a), (z, b), (u, d)].lookup x = some c -> cells.lookup x = some c := fun x c e => by
  rcases List.mem_cons.mp (PySem.mem_of_lookup e) with q | q
  · cases q; exact h
  · rcases List.mem_cons.mp q with q | q
    · cases q; exact h2
    · cases List.mem_singleton.mp q; exact h3
structure FunD (K : PySem.W.Frag) (x qual : Str) (st : Stmt) (dV : Addr) (its : Array Value) (f : Addr) (fd : FuncData) : Prop where
  ex : ∃ (oc : Value) (od : Option Addr) (kV doc pm : Value) (an : Option Addr) (cdv ct : Value) (osl : Array (Option Value)),
    fd = PySem.W.fnOf x qual (defArgs st) (defBody st) (defScope st) (.ref dV) kV doc pm an cdv ct /\ K.lookup f = some ⟨oc, od, .func fd, osl⟩ /\ PySem.W.codeIn K cdv qual = true
  kp : PySem.W.keepIn K (.ref f) = true
  dt : ∃ (o : Obj) (n : Nat), K.lookup dV = some o /\ o.data = .seq its n
section
variable {P : Program} {w : World} {K : PySem.W.Frag} {mg : Str -> Option Value} {base : Heap}
theorem FunD.ok {x qual : Str} {st : Stmt} {dV : Addr} {its : Array Value} {f : Addr} {fd : FuncData} {N ps : List Str} {k : Nat} {sp : Sp} (F : FunD K x qual st dV its f fd) (S : FnScope N ps (defScope st)) (len : ∀ vs H Q E, sp vs H Q E -> vs.length = ps.length)
    (hbody : ∀ (cdv : Value) (A : Around) (outer : List Env) (s : Shared) (H : Hp) (vs : List V) (Q : VK) (E : XK), Room k (A.deeper (envOfC qual (defScope st) s.heap.objs.size f cdv)) -> sp vs H Q E ->
      ∃ t, PSs (cxOf CX0 P w K mg base N qual (defScope st) f cdv A outer s H E).nox (defBody st) t /\ t { nx := fun _ H' => Q .non H', rt := Q } (start N vs) H) : FnOk P w K mg base CX0 (k + 1) f fd ps sp := by
  obtain ⟨oc, od, kV, doc, pm, an, cdv, ct, osl, rfl, lk, hcd⟩ := F.ex
  refine fn_of lk hcd S len fun A outer s H vs Q E hr hsp => ?_
  obtain ⟨t, h, q⟩ := hbody cdv A outer s H vs Q E hr hsp
  exact ⟨t, h.nox, q⟩
theorem FunD.binds {x qual : Str} {st : Stmt} {dV : Addr} {its : Array Value} {f : Addr} {fd : FuncData} {ps : List Str} {ds : List Value} (F : FunD K x qual st dV its f fd)
    (h : ∀ (kV doc pm : Value) (an : Option Addr) (cdv ct : Value) (us : List Value), (us ++ ds).length = ps.length -> ∃ k, bindArgs (PySem.W.fnOf x qual (defArgs st) (defBody st) (defScope st) (.ref dV) kV doc pm an cdv ct) ⟨us, []⟩ = seqItems? (.ref dV) >>= k /\ k (some its) = pure (ps.zip (us ++ ds))) : Binds K fd ps ds := by
  obtain ⟨oc, od, kV, doc, pm, an, cdv, ct, osl, rfl, lk, hcd⟩ := F.ex
  obtain ⟨o, n, ho, hs⟩ := F.dt
  intro s us KI hl
  obtain ⟨k, h1, h2⟩ := h kV doc pm an cdv ct us hl
  exact .of_defaults (T := dV) rfl (KI dV o ho) hs h1 h2
end
structure CalleeD (P : Program) (w : World) (K : PySem.W.Frag) (mg : Str -> Option Value) (base : Heap) (CX : CXT) (k : Nat) (x : Str) (ps : List Str) (dvs : List V) (sp : Sp) : Prop where
  has : ∃ (f : Addr) (fd : FuncData) (ds : List Value), FnOk P w K mg base CX k f fd ps sp /\ mg x = some (.ref f) /\ PySem.W.keepIn K (.ref f) = true /\ Binds K fd ps ds /\ Vals dvs ds
theorem CalleeD.mono {P : Program} {w : World} {K : PySem.W.Frag} {mg : Str -> Option Value} {base : Heap} {CX : CXT} {j k : Nat} {x : Str} {ps : List Str} {dvs : List V} {sp : Sp} (c : CalleeD P w K mg base CX j x ps dvs sp) (h : j ≤ k) : CalleeD P w K mg base CX k x ps dvs sp :=
  let ⟨f, fd, ds, ok, m, kp, b, v⟩ := c.has; ⟨⟨f, fd, ds, ok.mono h, m, kp, b, v⟩⟩
section
variable {X : Cx} {CX : CXT} {k : Nat} {ps : List Str} {dvs : List V} {sp : Sp} {E : XK} {x : Str} {p pos : Pos} {e : Expr} {es : List Expr} {t : TA}
end
def totS (z : Str) (ys : List Str) : Nat := ys.foldl (fun (n : Nat) (y : Str) => n + y.length + z.length) 0
section
variable {X : Cx}
def rJoinW (K : PySem.W.Frag) : V -> List V -> Hp -> VK -> Prop := fun x xs H Q => ∃ (z : Str) (l : Addr) (ys : List Str), x = .str z /\ xs = [.ref l] /\ SqL K H l (ys.map V.str) /\ totS z ys ≤ 1000000 /\ Q (.str (Builtin.Str.glued z ys)) H
def rMulS : R2 := fun x y H Q => ∃ a n, x = .str a /\ y = .int n /\ 0 ≤ n /\ n ≤ 100 /\ a.length ≤ 10 /\ ∀ z : Str, z.length = a.length * n.toNat -> Q (.str z) H
theorem rep_len (c : Array Nat) : ∀ (n : Nat) (a : Array Nat), ((List.replicate n c).foldl (· ++ ·) a).size = a.size + c.size * n
  | 0, a => rfl
  | n + 1, a => by rw [List.replicate_succ, List.foldl_cons, rep_len c n, Array.size_append, Nat.mul_succ]; omega
def rIxQ : R2 := fun x y H Q => ∃ p xs i v, x = .ref p /\ y = .int i /\ (H p = some (.lst xs) \/ H p = some (.tup xs)) /\ atI xs i = some v /\ Q v H
theorem ix_seqH : IxR X rIxQ := by
  intro value slice pins s σ H x y v u Q I rx ry h hs
  obtain ⟨p, xs, i, z, e1, e2, hh | hh, ha, q⟩ := h
  · exact z0o value slice pins s σ H x y v u Q I rx ry ⟨p, xs, i, z, e1, e2, hh, ha, q⟩ hs
  · exact z0v value slice pins s σ H x y v u Q I rx ry ⟨p, xs, i, z, e1, e2, hh, ha, q⟩ hs
end
section
open PySem.Builtin PySem.Builtin.Str
def splitL (c : Nat) : List Nat -> List (List Nat)
  | [] => [[]]
  | d :: r => if d = c then [] :: splitL c r else match splitL c r with
    | [] => [[d]]
    | p :: ps => (d :: p) :: ps
def strL (L : List Nat) : Str := ⟨L.toArray⟩
section
variable {X : Cx}
def rSplit : V -> List V -> Hp -> VK -> Prop := fun x ys H Q => ∃ (t : Str) (c : Nat), x = .str t /\ ys = [.str ⟨#[c]⟩] /\ c < 256 /\ t.length ≤ 1000000 /\ ∀ l, H l = none -> Q (.ref l) (upd H l (.lst ((splitL c t.cps.toList).map fun w => V.str (strL w))))
end
end
section
variable {X : Cx}
def rInN : R2 := fun x y H Q => ∃ p xs, x = .non /\ y = .ref p /\ H p = some (.lst xs) /\ (∀ z ∈ xs, flatV z = true \/ ∃ a ys, z = .ref a /\ H a = some (.tup ys)) /\ Q (.bl (xs.any fun z => eqV z .non)) H
end
section
variable {pg : Program} {wd : World} {B : Around} {X0 : Value -> Shared -> Prop} {s0 : Shared} {J d : Addr} {m : Nat} {Pr : Nat -> Value -> Prop} {OK : Heap -> Prop}
end
section
variable {X : Cx}
def rMulC : R2 := fun x y H Q => ∃ a n, x = .str (strL a) /\ y = .int n /\ 0 ≤ n /\ n ≤ 100 /\ a.length ≤ 10 /\ Q (.str (strL (List.replicate n.toNat a).flatten)) H
end
section
variable {pg : Program} {wd : World} {B : Around} {X0 : Value -> Shared -> Prop} {z0 : Shared}
end
section
variable {X : Cx}
def rExtendT : V -> List V -> Hp -> VK -> Prop := fun x vs H Q => ∃ l b xs zs, x = .ref l /\ vs = [.ref b] /\ H l = some (.lst xs) /\ H b = some (.tup zs) /\ xs.length + zs.length ≤ sizeLine /\ Q .non (upd H l (.lst (xs ++ zs)))
def rUpdate : V -> List V -> Hp -> VK -> Prop := fun x ys H Q => ∃ a b kvs more, x = .ref a /\ ys = [.ref b] /\ a ≠ b /\ H a = some (.dK kvs) /\ H b = some (.dK more) /\ kvs.length + more.length ≤ sizeLine /\ Q .non (upd H a (.dK (mergeK kvs more)))
end
def AlkV (H : Hp) : Nat -> V -> V -> Prop
  | 0, x, y => flatV x = true /\ x = y
  | d + 1, x, y => (flatV x = true /\ x = y) \/ ∃ (a b : Addr) (xs ys : List V), x = .ref a /\ y = .ref b /\ ((H a = some (.lst xs) /\ H b = some (.lst ys)) \/ (H a = some (.tup xs) /\ H b = some (.tup ys))) /\ xs.length = ys.length /\ ∀ (i : Nat) z w, xs[i]? = some z -> ys[i]? = some w -> AlkV H d z w
theorem AlkV.same {H H' : Hp} (s : Same H H') : ∀ {d : Nat} {x y : V}, AlkV H d x y -> AlkV H' d x y
  | 0, _, _, h => h
  | d + 1, _, _, .inl h => .inl h
  | d + 1, _, _, .inr ⟨a, b, xs, ys, e1, e2, h, hl, q⟩ => .inr ⟨a, b, xs, ys, e1, e2, h.imp (fun z => ⟨s _ _ z.1, s _ _ z.2⟩) (fun z => ⟨s _ _ z.1, s _ _ z.2⟩), hl, fun i z w e1 e2 => (q i z w e1 e2).same s⟩
theorem AlkV.flat {H : Hp} {d : Nat} {x : V} (h : flatV x = true) : AlkV H d x x := by
  cases d with
  | zero => exact ⟨h, rfl⟩
  | succ d => exact .inl ⟨h, rfl⟩
theorem AlkV.lst {H : Hp} {d : Nat} {a b : Addr} {xs : List V} (h1 : H a = some (.lst xs)) (h2 : H b = some (.lst xs)) (f : xs.all flatV = true) : AlkV H (d + 1) (.ref a) (.ref b) :=
  .inr ⟨a, b, xs, xs, rfl, rfl, .inl ⟨h1, h2⟩, rfl, fun i z w e1 e2 => by
    rw [e1] at e2; cases e2
    exact .flat (List.all_eq_true.mp f _ (List.mem_of_getElem? e1))⟩
theorem AlkV.tup {H : Hp} {d : Nat} {a b : Addr} {xs : List V} (h1 : H a = some (.tup xs)) (h2 : H b = some (.tup xs)) (f : xs.all flatV = true) : AlkV H (d + 1) (.ref a) (.ref b) :=
  .inr ⟨a, b, xs, xs, rfl, rfl, .inr ⟨h1, h2⟩, rfl, fun i z w e1 e2 => by
    rw [e1] at e2; cases e2
    exact .flat (List.all_eq_true.mp f _ (List.mem_of_getElem? e1))⟩
theorem eqV_self {x : V} (h : flatV x = true) : eqV x x = true := by
  cases x <;> simp_all [eqV, flatV]
theorem z3a {xs : List V} {us : List Value} (r : Vals xs us) {j : Nat} (h : j < us.toArray.size) : ∃ z, xs[j]? = some z /\ RelV z us.toArray[j] := by
  have l := r.length
  have k : j < xs.length := by rw [l]; simpa using h
  obtain ⟨u, hu, ru⟩ := r.get (List.getElem?_eq_getElem k)
  have e : us.toArray[j] = u := by
    have z : us[j]? = some (us[j]'(by simpa using h)) := List.getElem?_eq_getElem _
    rw [z] at hu
    simpa using hu
  exact ⟨_, List.getElem?_eq_getElem k, by rw [e]; exact ru⟩
theorem all_true {n : Nat} : (List.range n).all (fun _ => true) = true := by simp
section
variable {X : Cx} {pins : List (Addr × Obj)} {σ : St} {H : Hp} {s : Shared}
theorem eqAt_alk (I : Inv X pins σ H s) : ∀ (d : Nat) (A : Around) (x y : V) (v u : Value), A.units + d < cLine -> AlkV H d x y -> RelV x v -> RelV y u -> SeqAt.EqAt A s v u true := by
  intro d
  induction d with
  | zero =>
    intro A x y v u hu h rx ry
    obtain ⟨f, rfl⟩ := h
    have z := eqAt_V (A := A) (s := s) rx ry f f
    rwa [eqV_self f] at z
  | succ d ih =>
    intro A x y v u hu h rx ry
    rcases h with ⟨f, rfl⟩ | ⟨a, b, xs, ys, rfl, rfl, h, hl, q⟩
    · have z := eqAt_V (A := A) (s := s) rx ry f f
      rwa [eqV_self f] at z
    · cases rx
      cases ry
      by_cases ab : a = b
      · subst ab; exact SeqAt.EqAt.same _
      · refine SeqAt.EqAt.of_refs ab ?_
        rcases h with ⟨h1, h2⟩ | ⟨h1, h2⟩
        · obtain ⟨us, r1, p1, _⟩ := I.list (.of h1)
          obtain ⟨ws, r2, p2, _⟩ := I.list (.of h2)
          have z := SeqAt.RcAt.lists (A := A) p1.isList p2.isList (e := fun _ => true) (by simp [← r1.length, ← r2.length, hl]) (by omega) (fun j k1 k2 => by
            obtain ⟨z, e1, rz⟩ := z3a r1 k1
            obtain ⟨w, e2, rw⟩ := z3a r2 k2
            exact ih A.in1 z w _ _ (by show A.units + 1 + d < cLine; omega) (q j z w e1 e2) rz rw)
          rwa [all_true] at z
        · obtain ⟨us, r1, p1, _⟩ := I.tuple (.of h1)
          obtain ⟨ws, r2, p2, _⟩ := I.tuple (.of h2)
          have z := SeqAt.RcAt.tuples (A := A) (show s.heap.IsTuple a us.toArray from p1) (show s.heap.IsTuple b ws.toArray from p2) (e := fun _ => true) (by omega) (fun j k1 k2 => by
            obtain ⟨z, e1, rz⟩ := z3a r1 k1
            obtain ⟨w, e2, rw⟩ := z3a r2 k2
            exact ih A.in1 z w _ _ (by show A.units + 1 + d < cLine; omega) (q j z w e1 e2) rz rw)
          have e : (us.toArray.size == ws.toArray.size) = true := by simp [← r1.length, ← r2.length, hl]
          rw [all_true, e] at z
          exact z
def rEqD : R2 := fun x y H Q => (∃ a, x = .ref a) /\ AlkV H 9 x y /\ Q (.bl true) H
def rNeD : R2 := fun x y H Q => (∃ a, x = .ref a) /\ AlkV H 9 x y /\ Q (.bl false) H
theorem op_neD (hu : X.A.units + 20 < cLine) : OpR X (compareOp .NotEq) rNeD := by
  intro pins s σ H x y v u Q I rx ry h
  obtain ⟨⟨a, rfl⟩, h, q⟩ := h
  rcases h with ⟨f, _⟩ | ⟨a', b, xs, ys, e, rfl, h, hl, al⟩
  · simp [flatV] at f
  · cases e
    cases rx
    cases ry
    have fin : EP X pins σ Q (.bool false) s := ⟨.bl false, H, I, rfl, q⟩
    rcases h with ⟨h1, h2⟩ | ⟨h1, h2⟩
    · obtain ⟨us, r1, p1, _⟩ := I.list (.of h1)
      obtain ⟨ws, r2, p2, _⟩ := I.list (.of h2)
      refine SeqAt.RcNeAt.lists p1.isList p2.isList (e := fun _ => true) (by simp [← r1.length, ← r2.length, hl]) (by omega) (fun j k1 k2 => ?_) _ _ _ _ (by rw [all_true]; exact fin)
      obtain ⟨z, e1, rz⟩ := z3a r1 k1
      obtain ⟨w, e2, rw⟩ := z3a r2 k2
      exact eqAt_alk I 8 X.A.in1 z w _ _ (by show X.A.units + 1 + 8 < cLine; omega) (al j z w e1 e2) rz rw
    · obtain ⟨us, r1, p1, _⟩ := I.tuple (.of h1)
      obtain ⟨ws, r2, p2, _⟩ := I.tuple (.of h2)
      have e : (us.toArray.size == ws.toArray.size) = true := by simp [← r1.length, ← r2.length, hl]
      refine SeqAt.RcNeAt.tuples (show s.heap.IsTuple a us.toArray from p1) (show s.heap.IsTuple b ws.toArray from p2) (e := fun _ => true) (by omega) (fun j k1 k2 => ?_) _ _ _ _ (by rw [all_true, e]; exact fin)
      obtain ⟨z, e1, rz⟩ := z3a r1 k1
      obtain ⟨w, e2, rw⟩ := z3a r2 k2
      exact eqAt_alk I 8 X.A.in1 z w _ _ (by show X.A.units + 1 + 8 < cLine; omega) (al j z w e1 e2) rz rw
end
theorem hu20 {k : Nat} {A : Around} (r : Room k A) : A.units + 20 < cLine := by have := r.un; omega
section
variable {X : Cx}
def iSeq (K : PySem.W.Frag) (tl : TE) : TI := fun σ H R => tl σ H fun x H1 => (∃ a, x = .ref a /\ (∃ xs, SqL K H1 a xs) /\ R (Itl K a) H1) \/ (∃ a, x = .ref a /\ (∃ xs, SqT K H1 a xs) /\ R (Itt K a) H1)
theorem pi_seq {tg l : Expr} {tl : TE} (hl : PE X l tl) : PI X tg l (iSeq X.K tl) := by
  intro pins s σ H R I h
  refine thn (hl pins s σ H _ I h) fun v s1 ⟨x, H1, I1, r1, q1⟩ => ?_
  rcases q1 with ⟨a, e, ⟨xs, hq⟩, q⟩ | ⟨a, e, ⟨xs, hq⟩, q⟩
  · subst e
    cases r1
    obtain ⟨its, rv, p, hz⟩ := I1.list hq
    refine wpAny_pyIter_list p.isList ?_
    refine ⟨s1.heap.objs.size, [s1.heap.objs.size], _, _, H1, rfl, I1.kept (t' := s1.toks) fun b o e => Heap.get?_push_of_some _ e, turn_list a _, ⟨_, Heap.get?_push_size _ rfl, rfl, rfl⟩, fun b hb => ?_, q⟩
    have e : b = s1.heap.objs.size := by simpa using hb
    subst e
    exact I1.fpOk (Nat.le_refl _) (I1.hok.fresh (Nat.le_refl _))
  · subst e
    cases r1
    obtain ⟨its, rv, p, hz⟩ := I1.tuple hq
    refine wpAny_pyIter_tuple (show s1.heap.IsTuple a its.toArray from p) ?_
    refine ⟨s1.heap.objs.size, [s1.heap.objs.size], _, _, H1, rfl, I1.kept (t' := s1.toks) fun b o e => Heap.get?_push_of_some _ e, turn_tuple a _, ⟨_, Heap.get?_push_size _ rfl, rfl, rfl⟩, fun b hb => ?_, q⟩
    have e : b = s1.heap.objs.size := by simpa using hb
    subst e
    exact I1.fpOk (Nat.le_refl _) (I1.hok.fresh (Nat.le_refl _))
theorem for_eqQ {K : PySem.W.Frag} {te : TE} {g : TG} {tb : TS} {D : Ends} {σ : St} {H : Hp} : tFor (iSeq K te) g tb D σ H = te σ H fun x H1 => LoopL K g tb D σ x H1 \/ LoopT K g tb D σ x H1 := rfl
theorem comp_eqQ {K : PySem.W.Frag} {k : Nat} {js : List Nat} {ti : TE} {g : TG} {te : TE} {σ : St} {H : Hp} {Q : VK} : tComp (iSeq K ti) k js g te σ H Q = ti σ H fun x H1 => CompL K k js g te σ x H1 Q \/ CompT K k js g te σ x H1 Q := rfl
end
def Itrl (K : PySem.W.Frag) (a : Addr) (n : Nat) : It := ⟨fun i H => ∃ xs, SqL K H a xs /\ xs.length = n /\ i < n, fun i H x H' => H' = H /\ ∀ xs, SqL K H a xs -> xs[n - 1 - i]? = some x, fun i H => ∃ xs, SqL K H a xs /\ xs.length = n /\ i = n⟩
section
variable {X : Cx} {tg : Expr}
def iRevL (K : PySem.W.Frag) (te : TE) : TI := fun σ H R => te σ H fun x H1 => ∃ a xs, x = .ref a /\ SqL K H1 a xs /\ R (Itrl K a xs.length) H1
end
def LoopVL (K : PySem.W.Frag) (g : TG) (tb : TS) (D : Ends) (σ : St) (x : V) (H1 : Hp) : Prop := ∃ a xs, x = .ref a /\ SqL K H1 a xs /\ ∃ W : Nat -> Nat -> St -> Hp -> Prop, (∃ m, W 0 m σ H1) /\ ∀ i m σ H, W i m σ H ->
  ((Itrl K a xs.length).stop i H /\ D.nx σ H) \/ ((Itrl K a xs.length).go i H /\ ∃ N : St -> Hp -> Prop, (∀ σ' H', N σ' H' -> ∃ m', m' < m /\ W (i + 1) m' σ' H') /\ ∀ x H', (Itrl K a xs.length).yld i H x H' -> g x σ H' fun σ2 H2 => tb { D with nx := N, ct := N, bk := D.nx } σ2 H2)
theorem for_eqVL {K : PySem.W.Frag} {te : TE} {g : TG} {tb : TS} {D : Ends} {σ : St} {H : Hp} : tFor (iRevL K te) g tb D σ H = te σ H fun x H1 => LoopVL K g tb D σ x H1 := rfl
theorem LoopVL.mk {K : PySem.W.Frag} {a : Addr} {xs : List V} {g : TG} {tb : TS} {D : Ends} {σ : St} {H : Hp} (hS : SqL K H a xs) (Pv : Nat -> St -> Hp -> Prop) (h0 : Pv 0 σ H) (hl : ∀ i σ H, i ≤ xs.length -> Pv i σ H -> SqL K H a xs)
    (hs : ∀ i x σ H, i < xs.length -> xs[xs.length - 1 - i]? = some x -> Pv i σ H -> g x σ H fun σ2 H2 => tb { D with nx := Pv (i + 1), ct := Pv (i + 1), bk := D.nx } σ2 H2) (hd : ∀ σ H, Pv xs.length σ H -> D.nx σ H) : LoopVL K g tb D σ (.ref a) H := by
  refine ⟨a, xs, rfl, hS, fun i m σ H => m = xs.length - i /\ i ≤ xs.length /\ Pv i σ H, ⟨xs.length, by simp, Nat.zero_le _, h0⟩, ?_⟩
  rintro i m σ H ⟨rfl, hi, p⟩
  have q := hl i σ H hi p
  by_cases hlt : i < xs.length
  · refine .inr ⟨⟨xs, q, rfl, hlt⟩, Pv (i + 1), fun σ' H' p' => ⟨xs.length - (i + 1), by omega, rfl, hlt, p'⟩, fun x H' y => ?_⟩
    obtain ⟨e, y⟩ := y
    subst e
    exact hs i x σ _ hlt (y xs q) p
  · have e : i = xs.length := by omega
    subst e
    exact .inl ⟨⟨xs, q, rfl, rfl⟩, hd σ H p⟩
end L2
namespace L2
open PySem PySem.Spec PyProof.Rows PySem.W PySem.Calls
section
variable {M : Model} {A : Around} {E : Value -> Shared -> Prop} {s₀ s : Shared} {m cm : Str -> Option Value} {env : Env} {cs : List (Str × Addr)}
end
section
variable {M : Model} {A : Around} {E : Value -> Shared -> Prop} {s : Shared}
end
def CelO (c : Addr) (v : V) : HO := .ext fun h => ∃ u, RelV v u /\ h.IsCell c (some u)
def CodO (c : Addr) (qual : Str) : HO := .ext fun h => h.CodeRec (.ref c) qual
def LamO (fa c' : Addr) (qual : Str) (params : Arguments) (body : Expr) (scope : Scope) (cl : List (Str × Addr)) : HO := .ext fun h => ∃ pm ctv, h.get? fa = some (kla_obj "<lambda>" qual params body scope cl pm c' ctv)
structure CelAt (H : Hp) (cl : List (Str × Addr)) (vcs : List V) : Prop where
  len : cl.length = vcs.length
  at_ : ∀ (i : Nat) q, cl[i]? = some q -> ∃ v o, vcs[i]? = some v /\ H q.2 = some (.frz o (CelO q.2 v))
  apart : cl.Pairwise fun x y => x.2 ≠ y.2
theorem CelAt.mem {H : Hp} {cl : List (Str × Addr)} {vcs : List V} (h : CelAt H cl vcs) {q : Str × Addr} (hq : q ∈ cl) : ∃ o v, H q.2 = some (.frz o (CelO q.2 v)) := by
  obtain ⟨i, e⟩ := List.mem_iff_getElem?.mp hq
  obtain ⟨v, o, _, e2⟩ := h.at_ i q e
  exact ⟨o, v, e2⟩
theorem CelAt.same {H H' : Hp} {cl : List (Str × Addr)} {vcs : List V} (h : CelAt H cl vcs) (s : ∀ a o, H a = some o -> H' a = some o) : CelAt H' cl vcs :=
  ⟨h.len, fun i q e => let ⟨v, o, e1, e2⟩ := h.at_ i q e; ⟨v, o, e1, s _ _ e2⟩, h.apart⟩
structure LmScope (N ps fv : List Str) (sc : Scope) : Prop where
  kind : sc.kind = .function
  co : sc.isCoroutine = false
  gen : sc.isGenerator = false
  nd : N.Nodup
  pre : N.take (ps ++ fv).length = ps ++ fv
  par : ∀ x ∈ ps, sc.names.lookup x = some .local \/ sc.names.lookup x = some .cell
  fre : ∀ x ∈ fv, sc.names.lookup x = some .free
  has : ∀ y ∈ sc.names, y.2 = .free -> y.1 ∈ fv
  own : ∀ x ∈ fv, ∀ y ∈ sc.names, y.2 = .cell -> y.1 ≠ x
def CallV (P : Program) (w : World) (K : PySem.W.Frag) (mg : Str -> Option Value) (base : Heap) (k : Nat) (fa : Addr) (vs : List V) (H : Hp) (Q : VK) : Prop :=
  ∀ (A : Around) (outer : List Env) (s : Shared) (us : List Value), Room k A -> Env0 P w K mg base A outer s H -> Vals vs us -> codeAny (model P w) A (.call (.ref fa) ⟨us, []⟩) (CR CX0 outer P w H s Q fun _ _ _ => False) s
end L2
namespace L2
open PySem PySem.Spec PyProof.Rows PySem.W PySem.Calls
def FnV (H : Hp) (fa : Addr) : Prop := ∃ φ, H fa = some (.ext φ) /\ ∀ h, φ h -> FnAt fa h
theorem FnV.same {H H' : Hp} {fa : Addr} (h : FnV H fa) (s : ∀ o, H fa = some o -> H' fa = some o) : FnV H' fa := let ⟨φ, e, k⟩ := h; ⟨φ, s _ e, k⟩
def tCalV (P : Program) (w : World) (K : PySem.W.Frag) (mg : Str -> Option Value) (base : Heap) (k i : Nat) (t : TA) : TE := fun σ H Q => ∃ fa, σ[i]? = some (some (.ref fa)) /\ FnV H fa /\ t σ H fun vs H1 => FnV H1 fa /\ CallV P w K mg base k fa vs H1 Q
section
variable {X : Cx} {k : Nat} {x : Str} {p pos : Pos} {e : Expr} {es : List Expr} {t : TA}
end
def OwnCl (ec : List (Str × Addr)) (fv : List Str) (cl : List (Str × Addr)) : Prop := cl.map (·.1) = fv /\ ∀ q ∈ cl, ec.lookup q.1 = some q.2
def TabOk (H : Hp) (T : Addr) (pos : Pos) (qual : Str) : Prop := ∃ ps, H T = some (.tbl ps) /\ TriplesOk ps.toList /\ (codeAmong pos ps.toList = none \/ ∃ c', codeAmong pos ps.toList = some (.ref c') /\ H c' = some (CodO c' qual))
theorem TabOk.same {H H' : Hp} {T : Addr} {pos : Pos} {qual : Str} (h : TabOk H T pos qual) (s : ∀ a o, H a = some o -> H' a = some o) : TabOk H' T pos qual := by
  obtain ⟨ps, e, t, z⟩ := h
  exact ⟨ps, s _ _ e, t, z.imp id fun ⟨c', a, b⟩ => ⟨c', a, s _ _ b⟩⟩
structure TabF (base : Heap) (mg : Str -> Option Value) (c T : Addr) : Prop where
  hd : CodeHd base c T
  none_ : base.get? T = none
  blt : ∃ bm o, mg "__builtins__" = some (.ref bm) /\ bm ≠ builtinsNs /\ bm ≠ mainGlobals /\ bm ≠ T /\ base.get? bm = some o /\ o.cls = .type "module" /\ o.dict = some builtinsNs /\ o.data = .plain
  ne : mainGlobals ≠ T
def tLam (ec : List (Str × Addr)) (fv : List Str) (T : Addr) (pos : Pos) (qual : Str) (params : Arguments) (body : Expr) (scope : Scope) : TE := fun _ H Q => TabOk H T pos qual /\
  ∀ fa c' cl H2, OwnCl ec fv cl -> H fa = none -> H2 fa = some (LamO fa c' qual params body scope cl) -> H2 c' = some (CodO c' qual) -> TabOk H2 T pos qual -> (∀ b o, b ≠ T -> H b = some o -> H2 b = some o) -> Q (.ref fa) H2
section
variable {X : Cx} {params : Arguments} {body : Expr} {scope : Scope} {pos : Pos} {fv : List Str} {c T : Addr} {cl : List (Str × Addr)}
end
end L2
namespace L2
open PySem PySem.Spec PyProof.Rows PySem.W PySem.Calls
theorem CallV.mono {P : Program} {w : World} {K : PySem.W.Frag} {mg : Str -> Option Value} {base : Heap} {j k : Nat} {fa : Addr} {vs : List V} {H : Hp} {Q : VK} (h : CallV P w K mg base j fa vs H Q) (l : j ≤ k) : CallV P w K mg base k fa vs H Q :=
  fun A outer s us hr e0 r => h A outer s us (hr.mono l) e0 r
def LoopE (K : PySem.W.Frag) (g : TG) (tb : TS) (D : Ends) (σ : St) (v : V) (H1 : Hp) : Prop := ∃ a xs, v = .ref a /\ SqT K H1 a xs /\ ∃ W : Nat -> Nat -> St -> Hp -> Prop, (∃ m, W 0 m σ H1) /\ ∀ i m σ H, W i m σ H ->
  ((Ite K a).stop i H /\ D.nx σ H) \/ ((Ite K a).go i H /\ ∃ N : St -> Hp -> Prop, (∀ σ' H', N σ' H' -> ∃ m', m' < m /\ W (i + 1) m' σ' H') /\ ∀ x H', (Ite K a).yld i H x H' -> g x σ H' fun σ2 H2 => tb { D with nx := N, ct := N, bk := D.nx } σ2 H2)
theorem for_eqE {K : PySem.W.Frag} {te : TE} {g : TG} {tb : TS} {D : Ends} {σ : St} {H : Hp} : tFor (iEnum K te) g tb D σ H = te σ H fun v H1 => LoopE K g tb D σ v H1 := rfl
theorem LoopE.mk {K : PySem.W.Frag} {a : Addr} {xs : List V} {g : TG} {tb : TS} {D : Ends} {σ : St} {H : Hp} (h1 : SqT K H a xs) (Pv : Nat -> St -> Hp -> Prop) (h0 : Pv 0 σ H) (hl : ∀ i σ H, i ≤ xs.length -> Pv i σ H -> SqT K H a xs)
    (hs : ∀ i x σ H T, xs[i]? = some x -> Pv i σ H -> H T = none -> g (.ref T) σ (upd H T (.tup [.int i, x])) fun σ2 H2 => tb { D with nx := Pv (i + 1), ct := Pv (i + 1), bk := D.nx } σ2 H2) (hd : ∀ σ H, Pv xs.length σ H -> D.nx σ H) :
    LoopE K g tb D σ (.ref a) H := by
  refine ⟨a, xs, rfl, h1, fun i m σ H => m = xs.length - i /\ i ≤ xs.length /\ Pv i σ H, ⟨_, rfl, Nat.zero_le _, h0⟩, ?_⟩
  rintro i m σ H ⟨rfl, hi, p⟩
  have k1 := hl i σ H hi p
  by_cases hlt : i < xs.length
  · refine .inr ⟨⟨xs, _, k1, List.getElem?_eq_getElem hlt⟩, Pv (i + 1), fun σ' H' p' => ⟨xs.length - (i + 1), by omega, rfl, hlt, p'⟩, fun v H' yy => ?_⟩
    obtain ⟨T, x, rfl, hT, rfl, ex⟩ := yy
    exact hs i x σ H T (ex xs k1) p hT
  · have e : i = xs.length := by omega
    exact .inl ⟨⟨xs, k1, by omega⟩, hd σ H (e ▸ p)⟩
section
variable {X : Cx}
def rIndex (K : PySem.W.Frag) : V -> List V -> Hp -> VK -> Prop := fun x ys H Q => ∃ a xs y j, x = .ref a /\ ys = [y] /\ SqL K H a xs /\ xs.all flatV = true /\ flatV y = true /\ (∃ z, xs[j]? = some z /\ eqV z y = true) /\ (∀ m z, m < j -> xs[m]? = some z -> eqV z y = false) /\ Q (.int (j : Nat)) H
end
section
variable {X : Cx}
def rIndexT : V -> List V -> Hp -> VK -> Prop := fun x ys H Q => ∃ a o xs y j, x = .ref a /\ ys = [y] /\ H a = some (.frz o (.tup xs)) /\ xs.all flatV = true /\ flatV y = true /\ (∃ z, xs[j]? = some z /\ eqV z y = true) /\ (∀ m z, m < j -> xs[m]? = some z -> eqV z y = false) /\ Q (.int (j : Nat)) H
theorem call_tuple_ofK {K : PySem.W.Frag} (hK : X.K = K) : CallR X (.type "tuple") (fun xs H Q => ∃ p ys, xs = [.ref p] /\ ((SqL K H p ys /\ ∀ l, H l = none -> Q (.ref l) (upd H l (.tup ys))) \/ (SqT K H p ys /\ Q (.ref p) H))) := hK ▸ z1m
end
section
variable {prog : Program} {w : World} {A : Around} {R : Result -> Shared -> Prop} {I : Addr} {fp wr : List Addr} {n : Nat} {P : Nat -> Value -> Prop} {St : Nat -> Heap -> Prop}
end
section
variable {X : Cx}
def tKwD (r : V -> V -> Hp -> VK -> Prop) (te td : TE) : TE := fun σ H Q => te σ H fun x H1 => td σ H1 fun y H2 => r x y H2 Q
def rMnD (K : PySem.W.Frag) : V -> V -> Hp -> VK -> Prop := fun x y H Q => ∃ a ns, x = .ref a /\ SqL K H a (List.map V.int ns) /\ (ns = [] -> Q y H) /\ ∀ M : Int, M ∈ ns -> (∀ z ∈ ns, M ≤ z) -> Q (.int M) H
def rMxD (K : PySem.W.Frag) : V -> V -> Hp -> VK -> Prop := fun x y H Q => ∃ a ns, x = .ref a /\ SqL K H a (List.map V.int ns) /\ (ns = [] -> Q y H) /\ ∀ M : Int, M ∈ ns -> (∀ z ∈ ns, z ≤ M) -> Q (.int M) H
theorem call_mxL (hc : X.calm = true) : CallR X (.builtin "max") (fun xs H Q => ∃ a ns, xs = [.ref a] /\ SqL X.K H a (List.map V.int ns) /\ 0 < ns.length /\ ∀ M : Int, M ∈ ns -> (∀ z ∈ ns, z ≤ M) -> Q (.int M) H) := by
  intro pins s σ H xs us Q I r h
  obtain ⟨a, ns, rfl, hq, hne, q⟩ := h
  obtain ⟨u, rfl, ru⟩ := z3z r
  cases (show u = Value.ref a from ru)
  obtain ⟨its, rv, pl, hz⟩ := I.list hq
  have hi := z3h rv
  obtain ⟨xs, e⟩ := hi.allInts.items
  have hns : ns = xs.toList.map (·.1) := by rw [← hi.numsOf, ← nums_intItems, ← e]
  have hl := pl.isList
  rw [e] at hl
  have hsz : 0 < xs.size := by rw [hns, List.length_map, Array.length_toList] at hne; exact hne
  refine max_intList (I.ok.hd hc) hl hsz fun v h' tk hv kk => ?_
  obtain ⟨t, rfl⟩ := intItems_at hv
  obtain ⟨h1, h2⟩ := argBest_gt (numAt xs) (xs.size - 1)
  refine ⟨.int _, H, I.kept kk, ⟨t, rfl⟩, q _ ?_ fun z hz => ?_⟩
  · rw [hns, numAt_eq]; exact getD_mem (by rw [List.length_map, Array.length_toList]; omega)
  · rw [hns] at hz
    obtain ⟨j, hj, rfl⟩ := mem_getD hz
    rw [List.length_map, Array.length_toList] at hj
    rw [← numAt_eq]; exact h2 j (by omega)
end
section
variable {pg : Program} {wd : World} {B : Around} {X0 : Value -> Shared -> Prop} {s0 : Shared}
end
def ItzN (K : PySem.W.Frag) (a b : Addr) : It := ⟨fun i H => ∃ xs ys x y, SqT K H a xs /\ SqL K H b ys /\ xs[i]? = some x /\ ys[i]? = some y,
  fun i H v H' => ∃ T x y, v = .ref T /\ H T = none /\ H' = upd H T (.tup [x, y]) /\ ∀ xs ys, SqT K H a xs -> SqL K H b ys -> xs[i]? = some x /\ ys[i]? = some y, fun i H => ∃ xs ys, SqT K H a xs /\ SqL K H b ys /\ (xs.length ≤ i \/ ys.length ≤ i)⟩
section
variable {X : Cx} {es : List Expr} {x1 : Nat} {pp : Pos}
def iZipN (K : PySem.W.Frag) (ta : TA) : TI := fun σ H R => ta σ H fun vs H1 => ∃ a b xs ys, vs = [.ref a, .ref b] /\ SqT K H1 a xs /\ SqL K H1 b ys /\ R (ItzN K a b) H1
end
def LoopZN (K : PySem.W.Frag) (g : TG) (tb : TS) (D : Ends) (σ : St) (vs : List V) (H1 : Hp) : Prop := ∃ a b xs ys, vs = [.ref a, .ref b] /\ SqT K H1 a xs /\ SqL K H1 b ys /\ ∃ W : Nat -> Nat -> St -> Hp -> Prop, (∃ m, W 0 m σ H1) /\ ∀ i m σ H, W i m σ H ->
  ((ItzN K a b).stop i H /\ D.nx σ H) \/ ((ItzN K a b).go i H /\ ∃ N : St -> Hp -> Prop, (∀ σ' H', N σ' H' -> ∃ m', m' < m /\ W (i + 1) m' σ' H') /\ ∀ x H', (ItzN K a b).yld i H x H' -> g x σ H' fun σ2 H2 => tb { D with nx := N, ct := N, bk := D.nx } σ2 H2)
theorem for_eqZN {K : PySem.W.Frag} {ta : TA} {g : TG} {tb : TS} {D : Ends} {σ : St} {H : Hp} : tFor (iZipN K ta) g tb D σ H = ta σ H fun vs H1 => LoopZN K g tb D σ vs H1 := rfl
theorem LoopZN.mk {K : PySem.W.Frag} {a b : Addr} {xs ys : List V} {g : TG} {tb : TS} {D : Ends} {σ : St} {H : Hp} (n : Nat) (hn : n = min xs.length ys.length) (h1 : SqT K H a xs) (h2 : SqL K H b ys) (Pv : Nat -> St -> Hp -> Prop) (h0 : Pv 0 σ H) (hl : ∀ i σ H, i ≤ n -> Pv i σ H -> SqT K H a xs /\ SqL K H b ys)
    (hs : ∀ i x y σ H T, i < n -> xs[i]? = some x -> ys[i]? = some y -> Pv i σ H -> H T = none -> g (.ref T) σ (upd H T (.tup [x, y])) fun σ2 H2 => tb { D with nx := Pv (i + 1), ct := Pv (i + 1), bk := D.nx } σ2 H2) (hd : ∀ σ H, Pv n σ H -> D.nx σ H) :
    LoopZN K g tb D σ [.ref a, .ref b] H := by
  subst hn
  refine ⟨a, b, xs, ys, rfl, h1, h2, fun i m σ H => m = min xs.length ys.length - i /\ i ≤ min xs.length ys.length /\ Pv i σ H, ⟨_, rfl, Nat.zero_le _, h0⟩, ?_⟩
  rintro i m σ H ⟨rfl, hi, p⟩
  obtain ⟨k1, k2⟩ := hl i σ H hi p
  by_cases hlt : i < min xs.length ys.length
  · have l1 : i < xs.length := by omega
    have l2 : i < ys.length := by omega
    refine .inr ⟨⟨xs, ys, _, _, k1, k2, List.getElem?_eq_getElem l1, List.getElem?_eq_getElem l2⟩, Pv (i + 1), fun σ' H' p' => ⟨min xs.length ys.length - (i + 1), by omega, rfl, hlt, p'⟩, fun v H' yy => ?_⟩
    obtain ⟨T, x, y, rfl, hT, rfl, ex⟩ := yy
    obtain ⟨ex1, ex2⟩ := ex xs ys k1 k2
    exact hs i x y σ H T hlt ex1 ex2 p hT
  · have e : i = min xs.length ys.length := by omega
    exact .inl ⟨⟨xs, ys, k1, k2, by omega⟩, hd σ H (e ▸ p)⟩
def CompZN (K : PySem.W.Frag) (k : Nat) (js : List Nat) (g : TG) (te : TE) (σ : St) (vs : List V) (H1 : Hp) (Q : VK) : Prop := ∃ a b xs ys, vs = [.ref a, .ref b] /\ SqT K H1 a xs /\ SqL K H1 b ys /\ ∃ W : Nat -> Nat -> List V -> St -> Hp -> Prop, (∃ m, W 0 m [] (compSt k js σ) H1) /\ ∀ i m zs σ' H', W i m zs σ' H' ->
    ((ItzN K a b).stop i H' /\ ∀ p, H' p = none -> Q (.ref p) (upd H' p (.lst zs))) \/
    ((ItzN K a b).go i H' /\ zs.length < sizeLine /\ ∃ N : List V -> St -> Hp -> Prop, (∀ zs σ2 H2, N zs σ2 H2 -> ∃ m', m' < m /\ W (i + 1) m' zs σ2 H2) /\ ∀ x H2, (ItzN K a b).yld i H' x H2 -> g x σ' H2 fun σ3 H3 => te σ3 H3 fun v H4 => N (zs ++ [v]) σ3 H4)
theorem comp_eqZN {K : PySem.W.Frag} {k : Nat} {js : List Nat} {ta : TA} {g : TG} {te : TE} {σ : St} {H : Hp} {Q : VK} : tComp (iZipN K ta) k js g te σ H Q = ta σ H fun vs H1 => CompZN K k js g te σ vs H1 Q := rfl
theorem CompZN.mk {K : PySem.W.Frag} {a b : Addr} {xs ys : List V} {k : Nat} {js : List Nat} {g : TG} {te : TE} {Q : VK} {σ : St} {H : Hp} (n : Nat) (hn : n = min xs.length ys.length) (h1 : SqT K H a xs) (h2 : SqL K H b ys) (Pv : Nat -> List V -> St -> Hp -> Prop) (h0 : Pv 0 [] (compSt k js σ) H) (hl : ∀ i zs σ H, i ≤ n -> Pv i zs σ H -> SqT K H a xs /\ SqL K H b ys)
    (hs : ∀ i x y zs σ H T, i < n -> xs[i]? = some x -> ys[i]? = some y -> Pv i zs σ H -> H T = none -> zs.length < sizeLine /\ g (.ref T) σ (upd H T (.tup [x, y])) fun σ3 H3 => te σ3 H3 fun v H4 => Pv (i + 1) (zs ++ [v]) σ3 H4) (hz : ∀ zs σ H, Pv n zs σ H -> ∀ p, H p = none -> Q (.ref p) (upd H p (.lst zs))) (hlen : ∀ i zs σ H, Pv i zs σ H -> zs.length < sizeLine) :
    CompZN K k js g te σ [.ref a, .ref b] H Q := by
  subst hn
  refine ⟨a, b, xs, ys, rfl, h1, h2, fun i m zs σ H => m = min xs.length ys.length - i /\ i ≤ min xs.length ys.length /\ Pv i zs σ H, ⟨_, rfl, Nat.zero_le _, h0⟩, ?_⟩
  rintro i m zs σ H ⟨rfl, hi, p⟩
  obtain ⟨k1, k2⟩ := hl i zs σ H hi p
  by_cases hlt : i < min xs.length ys.length
  · have l1 : i < xs.length := by omega
    have l2 : i < ys.length := by omega
    refine .inr ⟨⟨xs, ys, _, _, k1, k2, List.getElem?_eq_getElem l1, List.getElem?_eq_getElem l2⟩, hlen _ _ _ _ p, Pv (i + 1), fun zs' σ' H' p' => ⟨min xs.length ys.length - (i + 1), by omega, rfl, hlt, p'⟩, fun v H' yy => ?_⟩
    obtain ⟨T, x, y, rfl, hT, rfl, ex⟩ := yy
    obtain ⟨ex1, ex2⟩ := ex xs ys k1 k2
    exact (hs i x y zs σ H T hlt ex1 ex2 p hT).2
  · have e : i = min xs.length ys.length := by omega
    exact .inl ⟨⟨xs, ys, k1, k2, by omega⟩, hz zs σ H (e ▸ p)⟩
section
variable {X : Cx}
def rInsert : V -> List V -> Hp -> VK -> Prop := fun x vs H Q => ∃ l xs i y, x = .ref l /\ vs = [.int i, y] /\ H l = some (.lst xs) /\ 0 ≤ i /\ i ≤ xs.length /\ xs.length < sizeLine /\ Q .non (upd H l (.lst (xs.take i.toNat ++ y :: xs.drop i.toNat)))
theorem mt_insert : MtR X "list.insert" rInsert := by
  intro pins s σ H x vs v us Q I rx rv h
  obtain ⟨l, xs, i, y, rfl, rfl, hH, i0, i1, hz, q⟩ := h
  cases rx
  obtain ⟨u, w, rfl, ⟨t, rfl⟩, rw'⟩ := vals2 rv
  obtain ⟨z, its, n, r, hl, e⟩ := I.lstM hH
  have s63 : sizeLine ≤ 2 ^ 62 := by rw [sizeLine_eq]; decide
  have hf : Builtin.List.listFitsIndex i = true := fitsIndex_both (by omega) (by omega)
  refine call_meets F.slot_list_insert ⟨_, e, rfl⟩ F.entry_list_insert (F.args_list_insert_3 _ _ _)
    (AutoSeq1.list_insert_list_int_val_1 l its.toArray n i t w (by simp [hf]) (by rw [List.size_toArray]; omega)) ⟨e, ?_⟩
  refine ⟨.non, _, I.lset (its' := its.take i.toNat ++ w :: its.drop i.toNat) hH e ?_ ((r.take _).append (.cons rw' (r.drop _))) ?_, rfl, q⟩
  · show (its.toArray.extract 0 (if i < 0 then (i + (its.toArray.size : Int)).toNat else min i.toNat its.toArray.size)).push w ++ its.toArray.extract (if i < 0 then (i + (its.toArray.size : Int)).toNat else min i.toNat its.toArray.size) = _
    rw [if_neg (by omega), List.size_toArray, Nat.min_eq_left (by omega)]
    apply Array.ext'
    simp [List.extract_eq_take_drop, List.take_of_length_le]
  · rw [List.length_append, List.length_cons, List.length_take, List.length_drop]
    omega
end
structure Apart6 (z ti ox j1 j2 j3 t1 t2 t3 : Addr) : Prop where
  ti_z : ti ≠ z
  ox_z : ox ≠ z
  j1_z : j1 ≠ z
  j2_z : j2 ≠ z
  j3_z : j3 ≠ z
  ti_ox : ti ≠ ox
  ti_j1 : ti ≠ j1
  ti_j2 : ti ≠ j2
  ti_j3 : ti ≠ j3
  ox_j1 : ox ≠ j1
  ox_j2 : ox ≠ j2
  ox_j3 : ox ≠ j3
  j12 : j1 ≠ j2
  j13 : j1 ≠ j3
  j23 : j2 ≠ j3
  t1_z : t1 ≠ z
  t2_z : t2 ≠ z
  t2_ox : t2 ≠ ox
  t2_j1 : t2 ≠ j1
  t3_z : t3 ≠ z
  t3_ox : t3 ≠ ox
  t3_j1 : t3 ≠ j1
  t3_j2 : t3 ≠ j2
section
variable {pg : Program} {wd : World} {B : Around} {X0 : Value -> Shared -> Prop} {s0 : Shared}
end
def Itz3 (K : PySem.W.Frag) (a b c : Addr) : It := ⟨fun i H => ∃ xs ys zs x y z, SqT K H a xs /\ SqT K H b ys /\ SqT K H c zs /\ xs[i]? = some x /\ ys[i]? = some y /\ zs[i]? = some z,
  fun i H v H' => ∃ T x y z, v = .ref T /\ H T = none /\ H' = upd H T (.tup [x, y, z]) /\ ∀ xs ys zs, SqT K H a xs -> SqT K H b ys -> SqT K H c zs -> xs[i]? = some x /\ ys[i]? = some y /\ zs[i]? = some z, fun i H => ∃ xs, SqT K H a xs /\ xs.length ≤ i⟩
section
variable {X : Cx} {es : List Expr} {x1 : Nat} {pp : Pos}
def iZip3 (K : PySem.W.Frag) (ta : TA) : TI := fun σ H R => ta σ H fun vs H1 => ∃ a b c xs ys zs, vs = [.ref a, .ref b, .ref c] /\ SqT K H1 a xs /\ SqT K H1 b ys /\ SqT K H1 c zs /\ R (Itz3 K a b c) H1
end
def CompZ3 (K : PySem.W.Frag) (k : Nat) (js : List Nat) (g : TG) (te : TE) (σ : St) (vs : List V) (H1 : Hp) (Q : VK) : Prop := ∃ a b c xs ys zs, vs = [.ref a, .ref b, .ref c] /\ SqT K H1 a xs /\ SqT K H1 b ys /\ SqT K H1 c zs /\ ∃ W : Nat -> Nat -> List V -> St -> Hp -> Prop, (∃ m, W 0 m [] (compSt k js σ) H1) /\ ∀ i m zs σ' H', W i m zs σ' H' ->
    ((Itz3 K a b c).stop i H' /\ ∀ p, H' p = none -> Q (.ref p) (upd H' p (.lst zs))) \/
    ((Itz3 K a b c).go i H' /\ zs.length < sizeLine /\ ∃ N : List V -> St -> Hp -> Prop, (∀ zs σ2 H2, N zs σ2 H2 -> ∃ m', m' < m /\ W (i + 1) m' zs σ2 H2) /\ ∀ x H2, (Itz3 K a b c).yld i H' x H2 -> g x σ' H2 fun σ3 H3 => te σ3 H3 fun v H4 => N (zs ++ [v]) σ3 H4)
theorem comp_eqZ3 {K : PySem.W.Frag} {k : Nat} {js : List Nat} {ta : TA} {g : TG} {te : TE} {σ : St} {H : Hp} {Q : VK} : tComp (iZip3 K ta) k js g te σ H Q = ta σ H fun vs H1 => CompZ3 K k js g te σ vs H1 Q := rfl
theorem CompZ3.mk {K : PySem.W.Frag} {a b c : Addr} {xs ys zs : List V} {k : Nat} {js : List Nat} {g : TG} {te : TE} {Q : VK} {σ : St} {H : Hp} (n : Nat) (hn : n = xs.length) (hy : ys.length = n) (hz : zs.length = n) (h1 : SqT K H a xs) (h2 : SqT K H b ys) (h3 : SqT K H c zs) (Pv : Nat -> List V -> St -> Hp -> Prop) (h0 : Pv 0 [] (compSt k js σ) H) (hl : ∀ i us σ H, i ≤ n -> Pv i us σ H -> SqT K H a xs /\ SqT K H b ys /\ SqT K H c zs)
    (hs : ∀ i x y z us σ H T, i < n -> xs[i]? = some x -> ys[i]? = some y -> zs[i]? = some z -> Pv i us σ H -> H T = none -> g (.ref T) σ (upd H T (.tup [x, y, z])) fun σ3 H3 => te σ3 H3 fun v H4 => Pv (i + 1) (us ++ [v]) σ3 H4) (hd : ∀ us σ H, Pv n us σ H -> ∀ p, H p = none -> Q (.ref p) (upd H p (.lst us))) (hlen : ∀ i us σ H, Pv i us σ H -> us.length < sizeLine) :
    CompZ3 K k js g te σ [.ref a, .ref b, .ref c] H Q := by
  subst hn
  refine ⟨a, b, c, xs, ys, zs, rfl, h1, h2, h3, fun i m us σ H => m = xs.length - i /\ i ≤ xs.length /\ Pv i us σ H, ⟨_, rfl, Nat.zero_le _, h0⟩, ?_⟩
  rintro i m us σ H ⟨rfl, hi, p⟩
  obtain ⟨k1, k2, k3⟩ := hl i us σ H hi p
  by_cases hlt : i < xs.length
  · refine .inr ⟨⟨xs, ys, zs, _, _, _, k1, k2, k3, List.getElem?_eq_getElem hlt, List.getElem?_eq_getElem (hy ▸ hlt), List.getElem?_eq_getElem (hz ▸ hlt)⟩, hlen _ _ _ _ p, Pv (i + 1), fun us' σ' H' p' => ⟨xs.length - (i + 1), by omega, rfl, hlt, p'⟩, fun v H' yy => ?_⟩
    obtain ⟨T, x, y, z, rfl, hT, rfl, ex⟩ := yy
    obtain ⟨ex1, ex2, ex3⟩ := ex xs ys zs k1 k2 k3
    exact hs i x y z us σ H T hlt ex1 ex2 ex3 p hT
  · have e : i = xs.length := by omega
    exact .inl ⟨⟨xs, k1, by omega⟩, hd us σ H (e ▸ p)⟩
section
variable {prog : Program} {w : World} {A : Around} {R : Result -> Shared -> Prop} {I : Addr} {fp wr : List Addr} {n : Nat} {P : Nat -> Value -> Prop} {St : Nat -> Heap -> Prop}
def TupK (h0 : Heap) (S : Addr) (wr : List Addr) (kf : Nat -> Int) (P : Nat -> Value -> Prop) : Prop := ∀ i v, P i v -> ∃ a its, v = .ref a /\ ¬ a ∈ wr /\ a ≠ S /\ h0.IsTuple a its /\ (its.size : Int) < 2 ^ 63 /\ kf i = its.size
def FirstB (kf : Nat -> Int) (m i : Nat) : Prop := ∀ j, j < m -> kf j ≤ kf i /\ (j < i -> kf j < kf i)
theorem mxK_loop (W : Walks prog w A.in1 I fp wr n P St) (kf : Nat -> Int) (S : Addr) (hSf : ¬ S ∈ fp) (h0 : Heap) (hk : TupK h0 S wr kf P) : ∀ (k j i : Nat) (s : Shared) (vb : Value) (tb : Tok) (c : Nat), n - (j + 1) = k -> j + 1 ≤ n -> St (j + 1) s.heap -> P i vb -> i ≤ j -> FirstB kf (j + 1) i -> (∀ b o, ¬ b ∈ wr -> b ≠ S -> h0.get? b = some o -> s.heap.get? b = some o) -> s.heap.get? S = some ⟨.type "list", none, .seq #[vb, .int (kf i) tb] c, #[]⟩ ->
    (∀ i v h' tk, P i v -> i < n -> FirstB kf n i -> (∀ b o, ¬ b ∈ wr -> b ≠ S -> h0.get? b = some o -> h'.get? b = some o) -> R (.ok (.ret v)) { s with heap := h', toks := tk }) -> codeAny (model prog w) A (.builtin "max.loop" ⟨[.ref I, .builtin "len", .ref S], []⟩) R s := by
  have hSw : ¬ S ∈ wr := fun h => hSf (W.sub _ h)
  have nm : (toString "max" ++ toString ".loop" : String) = "max.loop" := by decide
  intro k; induction k with
  | zero =>
    intro j i s vb tb c hk' hj hst hPb hij hb kp0 hS hR
    have e0 : j + 1 = n := by omega
    refine codeAny_builtin PySem.F.entry_max_loop ?_; rw [Around.under_plainId PySem.F.plain_max_loop _]
    show wpAny (model prog w) A.in1 (seqItems? (.ref S) >>= _) _ _ s
    refine wpAny_bind (m := seqItems? (.ref S)) (wpAny_seqItems hS rfl ?_)
    show wpAny (model prog w) A.in1 (tryCatch (pyNext (.ref I)) _ >>= _) _ _ s
    refine wpAny_bind (m := tryCatch (pyNext (.ref I)) _) (wpAny_tryCatch (W.done s _ _ (e0 ▸ hst) fun h' tk kp => ?_))
    have hS1 := kp S _ hSw hS
    show wpAny (model prog w) A.in1 (updateSeq S (fun _ => #[]) >>= _) _ _ _
    refine wpAny_bind (m := updateSeq S (fun _ => #[])) (wpAny_updateSeq hS1 rfl (wpAny_bind (wpAny_letGo (wpAny_pure ?_))))
    exact hR i vb _ tk hPb (by omega) (e0 ▸ hb) fun b o hbw hbS e => (Heap.get?_update_other _ _ (Ne.symm hbS)).trans (kp b o hbw (kp0 b o hbw hbS e))
  | succ k ih =>
    intro j i s vb tb c hk' hj hst hPb hij hb kp0 hS hR
    have lt0 : j + 1 < n := by omega
    refine codeAny_builtin PySem.F.entry_max_loop ?_; rw [Around.under_plainId PySem.F.plain_max_loop _]
    show wpAny (model prog w) A.in1 (seqItems? (.ref S) >>= _) _ _ s
    refine wpAny_bind (m := seqItems? (.ref S)) (wpAny_seqItems hS rfl ?_)
    show wpAny (model prog w) A.in1 (tryCatch (pyNext (.ref I)) _ >>= _) _ _ s
    refine wpAny_bind (m := tryCatch (pyNext (.ref I)) _) (wpAny_tryCatch (W.item (j + 1) s _ _ lt0 hst fun v h' tk hP hst1 kp => ?_))
    have hS1 := kp S _ hSw hS
    have kp1 : ∀ b o, ¬ b ∈ wr -> b ≠ S -> h0.get? b = some o -> h'.get? b = some o := fun b o hbw hbS e => kp b o hbw (kp0 b o hbw hbS e)
    obtain ⟨a, its, rfl, aw, aS, at0, a63, ek⟩ := hk _ _ hP
    show wpAny (model prog w) A.in1 (tryCatch (holding [.ref a] (call (.builtin "len") [.ref a])) _ >>= _) _ _ _
    refine wpAny_bind (wpAny_tryCatch (wpAny_holding (len_tuple (tup_at at0 fun o e => kp1 a o aw aS e) a63 ?_)))
    rw [← ek]
    show wpAny (model prog w) A.in1 (tryCatch (holding [.ref a, .int (kf (j + 1)) _] (richCompare .Gt (.int (kf (j + 1)) _) (.int (kf i) tb) >>= _)) _ >>= _) _ _ _
    refine wpAny_bind (wpAny_tryCatch (wpAny_holding (wpAny_bind (CmpOf.ints_gt (prog := prog) (w := w) (A := A.in1) (P := fun i v => ∃ t, v = .int (kf i) t) kf (fun i v h => h) (j + 1) i _ _ _ _ _ ⟨_, rfl⟩ ⟨tb, rfl⟩ ?_))))
    refine wpAny_bind (wpAny_holding (wpAny_truthy_bool ?_))
    refine wpAny_bind (wpAny_letGo (wpAny_pure ?_))
    by_cases hb' : kf (j + 1) > kf i
    · simp only [hb', decide_true, if_true]
      refine wpAny_bind (m := updateSeq S _) (wpAny_updateSeq hS1 rfl (wpAny_bind (wpAny_letGo ?_)))
      rw [nm]
      refine wpAny_pure (a := _) ⟨plainId_quiet PySem.F.plain_max_loop _, ih (j + 1) (j + 1) _ (.ref a) _ _ (by omega) lt0 (W.frame _ _ _ hst1 fun b hbf o e => (Heap.get?_update_other _ _ (fun h : S = b => hSf (by rw [h]; exact hbf))).trans e) hP (Nat.le_refl _) (fun j' hj' => ?_) (fun b o hbw hbS e => (Heap.get?_update_other _ _ (Ne.symm hbS)).trans (kp1 b o hbw hbS e)) (Heap.get?_update_self _ hS1 rfl) fun i2 v2 h2 tk2 q1 q2 q3 q4 => hR i2 v2 h2 tk2 q1 q2 q3 q4⟩
      by_cases e : j' = j + 1
      · subst e; exact ⟨Int.le_refl _, fun z => absurd z (Nat.lt_irrefl _)⟩
      · have := (hb j' (by omega)).1
        exact ⟨by omega, fun _ => by omega⟩
    · simp only [hb', decide_false, Bool.false_eq_true, if_false]
      refine wpAny_bind (m := letGo _) (wpAny_letGo ?_)
      rw [nm]
      refine wpAny_pure (a := _) ⟨plainId_quiet PySem.F.plain_max_loop _, ih (j + 1) i _ vb tb c (by omega) lt0 hst1 hPb (by omega) (fun j' hj' => ?_) kp1 hS1 fun i2 v2 h2 tk2 q1 q2 q3 q4 => hR i2 v2 h2 tk2 q1 q2 q3 q4⟩
      by_cases e : j' = j + 1
      · subst e; exact ⟨by omega, fun z => by omega⟩
      · exact hb j' (by omega)
theorem mxK_first (W : Walks prog w A.in1 I fp wr n P St) (kf : Nat -> Int) (S : Addr) (hSf : ¬ S ∈ fp) (h0 : Heap) (hk : TupK h0 S wr kf P) (hn : 0 < n) {s : Shared} {c : Nat} (hst : St 0 s.heap) (kp0 : ∀ b o, ¬ b ∈ wr -> b ≠ S -> h0.get? b = some o -> s.heap.get? b = some o) (hS : s.heap.get? S = some ⟨.type "list", none, .seq #[] c, #[]⟩)
    (hR : ∀ i v h' tk, P i v -> i < n -> FirstB kf n i -> (∀ b o, ¬ b ∈ wr -> b ≠ S -> h0.get? b = some o -> h'.get? b = some o) -> R (.ok (.ret v)) { s with heap := h', toks := tk }) : codeAny (model prog w) A (.builtin "max.loop" ⟨[.ref I, .builtin "len", .ref S], []⟩) R s := by
  have hSw : ¬ S ∈ wr := fun h => hSf (W.sub _ h)
  have nm : (toString "max" ++ toString ".loop" : String) = "max.loop" := by decide
  refine codeAny_builtin PySem.F.entry_max_loop ?_; rw [Around.under_plainId PySem.F.plain_max_loop _]
  show wpAny (model prog w) A.in1 (seqItems? (.ref S) >>= _) _ _ s
  refine wpAny_bind (m := seqItems? (.ref S)) (wpAny_seqItems hS rfl ?_)
  show wpAny (model prog w) A.in1 (tryCatch (pyNext (.ref I)) _ >>= _) _ _ s
  refine wpAny_bind (m := tryCatch (pyNext (.ref I)) _) (wpAny_tryCatch (W.item 0 s _ _ hn hst fun v h' tk hP hst1 kp => ?_))
  have hS1 := kp S _ hSw hS
  have kp1 : ∀ b o, ¬ b ∈ wr -> b ≠ S -> h0.get? b = some o -> h'.get? b = some o := fun b o hbw hbS e => kp b o hbw (kp0 b o hbw hbS e)
  obtain ⟨a, its, rfl, aw, aS, at0, a63, ek⟩ := hk _ _ hP
  show wpAny (model prog w) A.in1 (tryCatch (holding [.ref a] (call (.builtin "len") [.ref a])) _ >>= _) _ _ _
  refine wpAny_bind (wpAny_tryCatch (wpAny_holding (len_tuple (tup_at at0 fun o e => kp1 a o aw aS e) a63 ?_)))
  rw [← ek]
  show wpAny (model prog w) A.in1 (updateSeq S (fun _ => #[.ref a, .int (kf 0) _]) >>= _) _ _ _
  refine wpAny_bind (m := updateSeq S _) (wpAny_updateSeq hS1 rfl ?_)
  rw [nm]
  refine wpAny_pure (a := _) ⟨plainId_quiet PySem.F.plain_max_loop _, mxK_loop W kf S hSf h0 hk _ 0 0 _ (.ref a) _ _ rfl hn (W.frame _ _ _ hst1 fun b hbf o e => (Heap.get?_update_other _ _ (fun h : S = b => hSf (by rw [h]; exact hbf))).trans e) hP (Nat.le_refl _) (fun j' hj' => ?_) (fun b o hbw hbS e => (Heap.get?_update_other _ _ (Ne.symm hbS)).trans (kp1 b o hbw hbS e)) (Heap.get?_update_self _ hS1 rfl) fun i2 v2 h2 tk2 q1 q2 q3 q4 => hR i2 v2 h2 tk2 q1 q2 q3 q4⟩
  have z : j' = 0 := by omega
  subst z; exact ⟨Int.le_refl _, fun z => absurd z (Nat.lt_irrefl _)⟩
end
section
variable {X : Cx}
def rMxK (K : PySem.W.Frag) : V -> Hp -> VK -> Prop := fun x H Q => ∃ (a : Addr) (ps : List Addr), x = .ref a /\ SqL K H a (ps.map V.ref) /\ 0 < ps.length /\ ∃ L : List (List V), L.length = ps.length /\ (∀ (i : Nat) p t, ps[i]? = some p -> L[i]? = some t -> H p = some (.tup t)) /\ ∀ (i : Nat) p t, ps[i]? = some p -> L[i]? = some t -> (∀ (j : Nat) u, L[j]? = some u -> u.length ≤ t.length /\ (j < i -> u.length < t.length)) -> Q (.ref p) H
def tKwK (r : V -> Hp -> VK -> Prop) (te : TE) : TE := fun σ H Q => te σ H fun x H1 => r x H1 Q
end
section
variable {prog : Program} {w : World} {A : Around}
theorem kmb_max_key2 (a b v : Value) : argsOk "max" ⟨[a, b], [(Str.ofString "key", v)]⟩ := by unfold argsOk; kernel_rfl
theorem mxK2_call {E : Value -> Shared -> Prop} {s : Shared} {a1 a2 : Addr} {i1 i2 : Array Value} {Q : Value -> Shared -> Prop} (hh : A.handled = none) (h1 : s.heap.IsTuple a1 i1) (h2 : s.heap.IsTuple a2 i2) (z1 : (i1.size : Int) < 2 ^ 63) (z2 : (i2.size : Int) < 2 ^ 63)
    (hQ : ∀ v h' tk, (v = .ref a1 /\ i2.size ≤ i1.size \/ v = .ref a2 /\ i1.size < i2.size) -> (∀ b o, s.heap.get? b = some o -> h'.get? b = some o) -> Q v { s with heap := h', toks := tk }) : wpAny (model prog w) A (call (.builtin "max") [.ref a1, .ref a2] [(Str.ofString "key", .builtin "len")]) Q E s := by
  have nm : (toString "max" ++ toString ".loop" : String) = "max.loop" := by decide
  have hT : (s.heap.push { cls := .type "tuple", data := .seq #[.ref a1, .ref a2] }).IsTuple s.heap.objs.size #[.ref a1, .ref a2] := ⟨_, Heap.get?_push_size _ rfl, rfl, 0, rfl⟩
  have hsz : (s.heap.push { cls := .type "tuple", data := .seq #[.ref a1, .ref a2] }).objs.size = s.heap.objs.size + 1 := Heap.size_push ..
  refine kmb_tree PySem.F.kind_max PySem.F.plain_max PySem.F.entry_max (kmb_max_key2 _ _ _) ?_
  show wpAny _ A.in1 (Builtin.Builtins.bindParams "max" ["key", "default"] 0 ⟨[], [(Str.ofString "key", .builtin "len")]⟩ >>= _) _ _ s
  refine wpAny_bind (wpAny_of_eq (show Builtin.Builtins.bindParams "max" ["key", "default"] 0 ⟨[], [(Str.ofString "key", .builtin "len")]⟩ = pure [some (.builtin "len"), none] from rfl) ?_)
  show wpAny _ A.in1 (newTuple [.ref a1, .ref a2] >>= _) _ _ s
  refine wpAny_bind (wpAny_newObj_type ?_)
  refine wpAny_bind (m := pyIter _) (wpAny_pyIter_tuple hT ?_)
  refine wpAny_bind (m := newList _) (wpAny_newObj_type ?_)
  rw [nm]
  have W := Walks.tuple (prog := prog) (w := w) (A := A.in1) hh (s.heap.push { cls := .type "tuple", data := .seq #[.ref a1, .ref a2] }).objs.size s.heap.objs.size (by rw [hsz]; exact Nat.ne_of_lt (Nat.lt_succ_self _)) #[.ref a1, .ref a2]
  have hI : ((s.heap.push { cls := .type "tuple", data := .seq #[.ref a1, .ref a2] }).push { cls := .type "tuple_iterator", data := .fields #[.ref s.heap.objs.size, .int 0 0] }).objs.size = s.heap.objs.size + 2 := by rw [Heap.size_push, hsz]
  have e1 : a1 < s.heap.objs.size := by obtain ⟨o, g, _⟩ := h1; exact Heap.lt_size g
  have e2 : a2 < s.heap.objs.size := by obtain ⟨o, g, _⟩ := h2; exact Heap.lt_size g
  refine wpAny_pure (a := _) ⟨plainId_quiet PySem.F.plain_max_loop _, mxK_first W (fun i => ([(i1.size : Int), (i2.size : Int)].getD i 0)) ((s.heap.push { cls := .type "tuple", data := .seq #[.ref a1, .ref a2] }).push { cls := .type "tuple_iterator", data := .fields #[.ref s.heap.objs.size, .int 0 0] }).objs.size ?_ s.heap (fun i v hv => ?_) (Nat.zero_lt_succ _) ?_ (fun b o _ _ e => Heap.get?_push_of_some _ (Heap.get?_push_of_some _ (Heap.get?_push_of_some _ e))) (Heap.get?_push_size _ rfl) fun i v h' tk q1 q2 q3 q4 => ?_⟩
  · rw [hI, hsz]
    intro z
    rcases List.mem_cons.mp z with z | z
    · exact absurd z (Nat.succ_ne_self _)
    · exact absurd (List.mem_singleton.mp z) (Nat.ne_of_gt (Nat.lt_succ_of_lt (Nat.lt_succ_self _)))
  · have nw : ∀ a, a < s.heap.objs.size -> ¬ a ∈ [(s.heap.push { cls := .type "tuple", data := .seq #[.ref a1, .ref a2] }).objs.size] := fun a h z => by
      have := List.mem_singleton.mp z
      rw [hsz] at this; exact Nat.ne_of_lt (Nat.lt_succ_of_lt h) this
    match i, hv with
    | 0, hv => cases hv; exact ⟨a1, i1, rfl, nw _ e1, by rw [hI]; exact Nat.ne_of_lt (Nat.lt_succ_of_lt (Nat.lt_succ_of_lt e1)), h1, z1, rfl⟩
    | 1, hv => cases hv; exact ⟨a2, i2, rfl, nw _ e2, by rw [hI]; exact Nat.ne_of_lt (Nat.lt_succ_of_lt (Nat.lt_succ_of_lt e2)), h2, z2, rfl⟩
    | i + 2, hv => simp at hv
  · exact W.frame _ _ _ ⟨⟨_, Heap.get?_push_size _ rfl, rfl, rfl⟩, hT.push _⟩ fun b _ o e => Heap.get?_push_of_some _ e
  · have kp : ∀ b o, s.heap.get? b = some o -> h'.get? b = some o := fun b o e => by
      have bl := Heap.lt_size e
      exact q4 b o (fun z => by have := List.mem_singleton.mp z; rw [hsz] at this; exact Nat.ne_of_lt (Nat.lt_succ_of_lt bl) this) (by rw [hI]; exact Nat.ne_of_lt (Nat.lt_succ_of_lt (Nat.lt_succ_of_lt bl))) e
    match i, q1 with
    | 0, q1 =>
      cases q1
      have b := (q3 1 (Nat.lt_succ_self _)).1
      have b : (i2.size : Int) ≤ (i1.size : Int) := b
      exact hQ _ _ _ (.inl ⟨rfl, by omega⟩) kp
    | 1, q1 =>
      cases q1
      have b := (q3 0 (Nat.zero_lt_succ _)).2 (Nat.zero_lt_succ _)
      have b : (i1.size : Int) < (i2.size : Int) := b
      exact hQ _ _ _ (.inr ⟨rfl, by omega⟩) kp
    | i + 2, q1 => simp at q1
end
section
variable {X : Cx}
def rMx2 : V -> V -> Hp -> VK -> Prop := fun x y H Q => ∃ (a b : Addr) (xs ys : List V), x = .ref a /\ y = .ref b /\ H a = some (.tup xs) /\ H b = some (.tup ys) /\ (ys.length ≤ xs.length -> Q (.ref a) H) /\ (xs.length < ys.length -> Q (.ref b) H)
def tKw2 (r : V -> V -> Hp -> VK -> Prop) (te tf : TE) : TE := fun σ H Q => te σ H fun x H1 => tf σ H1 fun y H2 => r x y H2 Q
theorem pe_max2K {e f : Expr} {te tf : TE} {p kp pos p2 : Pos} (hc : X.calm = true) (hg : Gl X "max") (hm : X.mg "max" = none) (hg2 : Gl X "len") (hm2 : X.mg "len" = none) (he : PE X e te) (hf : PE X f tf) (hs : starEach [e, f] X.env = (false, eval e X.env) :: starEach [f] X.env := by rfl) (hs2 : starEach [f] X.env = [(false, eval f X.env)] := by rfl) : PE X (.Call (.Name "max" p) [e, f] [⟨some (Str.ofString "key"), .Name "len" p2, kp⟩] pos) (tKw2 rMx2 te tf) := by
  intro pins s σ H Q I h
  refine wpAny_Call_Name_kw (ld_blt I hg hm boot_max ?_)
  have hA := (z0a he (z0a hf (z0c (X := X)) hs2) hs) pos pins s σ H (fun vs H1 => match vs with | [x, y] => rMx2 x y H1 Q | _ => False) I h
  refine callWith_kw (thn hA fun us s1 ⟨vs, H1, I1, r1, q1⟩ => ?_) (by rw [hs, hs2]; rfl) (by rw [hs, hs2]; rfl)
  match vs, q1 with
  | [x0, y0], q1 =>
    obtain ⟨u, v, rfl, ru, rv⟩ := vals2 r1
    refine kws_cons (ld_blt I1 hg2 hm2 boot_len (kws_nil ?_))
    obtain ⟨a, b, xs, ys, rfl, rfl, ha, hb, qa, qb⟩ := q1
    cases (show u = Value.ref a from ru)
    cases (show v = Value.ref b from rv)
    obtain ⟨i1, t1, p1, y1⟩ := I1.tuple (show SqT X.K H1 a xs from .of ha)
    obtain ⟨i2, t2, p2', y2⟩ := I1.tuple (show SqT X.K H1 b ys from .of hb)
    have l1 := t1.length
    have l2 := t2.length
    have hsz : sizeLine = 16777216 := sizeLine_eq
    refine mxK2_call (I1.ok.hd hc) p1 p2' (by rw [List.size_toArray]; omega) (by rw [List.size_toArray]; omega) fun v h' tk hv kk => ?_
    simp only [List.size_toArray] at hv
    rcases hv with ⟨rfl, hl⟩ | ⟨rfl, hl⟩
    · exact ⟨.ref a, H1, I1.kept kk, rfl, qa (by omega)⟩
    · exact ⟨.ref b, H1, I1.kept kk, rfl, qb (by omega)⟩
end
def CompLI (K : PySem.W.Frag) (k : Nat) (js : List Nat) (g : TG) (tc : TT) (te : TE) (σ : St) (v : V) (H1 : Hp) (Q : VK) : Prop := ∃ a, v = .ref a /\ (∃ xs, SqL K H1 a xs) /\ ∃ W : Nat -> Nat -> List V -> St -> Hp -> Prop, (∃ m, W 0 m [] (compSt k js σ) H1) /\ ∀ i m zs σ' H', W i m zs σ' H' ->
    ((Itl K a).stop i H' /\ ∀ p, H' p = none -> Q (.ref p) (upd H' p (.lst zs))) \/
    ((Itl K a).go i H' /\ zs.length < sizeLine /\ ∃ N : List V -> St -> Hp -> Prop, (∀ zs σ2 H2, N zs σ2 H2 -> ∃ m', m' < m /\ W (i + 1) m' zs σ2 H2) /\ ∀ x H2, (Itl K a).yld i H' x H2 -> g x σ' H2 fun σ3 H3 => tc σ3 H3 fun b H4 => if b = true then te σ3 H4 fun v H5 => N (zs ++ [v]) σ3 H5 else N zs σ3 H4)
theorem comp_eqLI {K : PySem.W.Frag} {k : Nat} {js : List Nat} {tx : TE} {g : TG} {tc : TT} {te : TE} {σ : St} {H : Hp} {Q : VK} : tCompI (iList K tx) k js g tc te σ H Q = tx σ H fun v H1 => CompLI K k js g tc te σ v H1 Q := rfl
theorem CompLI.mk {K : PySem.W.Frag} {a : Addr} {xs : List V} {k : Nat} {js : List Nat} {g : TG} {tc : TT} {te : TE} {Q : VK} {σ : St} {H : Hp} (h1 : SqL K H a xs) (Pv : Nat -> List V -> St -> Hp -> Prop) (h0 : Pv 0 [] (compSt k js σ) H) (hl : ∀ i zs σ H, i ≤ xs.length -> Pv i zs σ H -> SqL K H a xs /\ zs.length < sizeLine)
    (hs : ∀ i x zs σ H, xs[i]? = some x -> Pv i zs σ H -> g x σ H fun σ3 H3 => tc σ3 H3 fun b H4 => if b = true then te σ3 H4 fun v H5 => Pv (i + 1) (zs ++ [v]) σ3 H5 else Pv (i + 1) zs σ3 H4) (hz : ∀ zs σ H, Pv xs.length zs σ H -> ∀ p, H p = none -> Q (.ref p) (upd H p (.lst zs))) :
    CompLI K k js g tc te σ (.ref a) H Q := by
  refine ⟨a, rfl, ⟨xs, h1⟩, fun i m zs σ H => m = xs.length - i /\ i ≤ xs.length /\ Pv i zs σ H, ⟨_, rfl, Nat.zero_le _, h0⟩, ?_⟩
  rintro i m zs σ H ⟨rfl, hi, p⟩
  obtain ⟨k1, k2⟩ := hl i zs σ H hi p
  by_cases hlt : i < xs.length
  · refine .inr ⟨⟨xs, _, k1, List.getElem?_eq_getElem hlt⟩, k2, Pv (i + 1), fun zs' σ' H' p' => ⟨xs.length - (i + 1), by omega, rfl, hlt, p'⟩, fun v H' yy => ?_⟩
    obtain ⟨rfl, ex⟩ := yy
    exact hs i v zs σ _ (ex xs k1) p
  · have e : i = xs.length := by omega
    exact .inl ⟨⟨xs, k1, by omega⟩, hz zs σ H (e ▸ p)⟩
def CompRI (lo : Int) (n k : Nat) (js : List Nat) (g : TG) (tc : TT) (te : TE) (σ : St) (H1 : Hp) (Q : VK) : Prop := ∃ W : Nat -> Nat -> List V -> St -> Hp -> Prop, (∃ m, W 0 m [] (compSt k js σ) H1) /\ ∀ i m zs σ' H', W i m zs σ' H' ->
    ((Itr lo n).stop i H' /\ ∀ p, H' p = none -> Q (.ref p) (upd H' p (.lst zs))) \/
    ((Itr lo n).go i H' /\ zs.length < sizeLine /\ ∃ N : List V -> St -> Hp -> Prop, (∀ zs σ2 H2, N zs σ2 H2 -> ∃ m', m' < m /\ W (i + 1) m' zs σ2 H2) /\ ∀ x H2, (Itr lo n).yld i H' x H2 -> g x σ' H2 fun σ3 H3 => tc σ3 H3 fun b H4 => if b = true then te σ3 H4 fun v H5 => N (zs ++ [v]) σ3 H5 else N zs σ3 H4)
theorem comp_eqRI {k : Nat} {js : List Nat} {ta : TA} {g : TG} {tc : TT} {te : TE} {σ : St} {H : Hp} {Q : VK} : tCompI (iRng1 ta) k js g tc te σ H Q = ta σ H fun vs H1 => ∃ j : Int, vs = [.int j] /\ -(2 ^ 62) ≤ j /\ j < 2 ^ 62 /\ CompRI 0 j.toNat k js g tc te σ H1 Q := rfl
theorem CompRI.mk {lo : Int} {n k : Nat} {js : List Nat} {g : TG} {tc : TT} {te : TE} {Q : VK} {σ : St} {H : Hp} (Pv : Nat -> List V -> St -> Hp -> Prop) (h0 : Pv 0 [] (compSt k js σ) H) (hl : ∀ i zs σ H, i ≤ n -> Pv i zs σ H -> zs.length < sizeLine)
    (hs : ∀ i zs σ H, i < n -> Pv i zs σ H -> g (.int (lo + i)) σ H fun σ3 H3 => tc σ3 H3 fun b H4 => if b = true then te σ3 H4 fun v H5 => Pv (i + 1) (zs ++ [v]) σ3 H5 else Pv (i + 1) zs σ3 H4) (hz : ∀ zs σ H, Pv n zs σ H -> ∀ p, H p = none -> Q (.ref p) (upd H p (.lst zs))) :
    CompRI lo n k js g tc te σ H Q := by
  refine ⟨fun i m zs σ H => m = n - i /\ i ≤ n /\ Pv i zs σ H, ⟨_, rfl, Nat.zero_le _, h0⟩, ?_⟩
  rintro i m zs σ H ⟨rfl, hi, p⟩
  by_cases hlt : i < n
  · refine .inr ⟨hlt, hl i zs σ H hi p, Pv (i + 1), fun zs' σ' H' p' => ⟨n - (i + 1), by omega, rfl, hlt, p'⟩, fun v H' yy => ?_⟩
    obtain ⟨rfl, rfl⟩ := yy
    exact hs i zs σ _ hlt p
  · have e : i = n := by omega
    exact .inl ⟨show n ≤ i by omega, hz zs σ H (e ▸ p)⟩
theorem filtL {K : PySem.W.Frag} {a : Addr} {xs : List Int} {k : Nat} {js : List Nat} {g : TG} {tc : TT} {te : TE} {Q : VK} {σ : St} {H : Hp} (h1 : H a = some (.lst (xs.map V.int))) (lx : xs.length ≤ 1000) (P : Int -> Prop) (cs : St) (h0 : compSt k js σ = none :: cs)
    (hs : ∀ (x : Int) (y : Option V) (G : Hp) (Rt : V -> St -> Hp -> Prop) (Rf : St -> Hp -> Prop), x ∈ xs -> Same H G -> (∀ G', Same H G' -> P x -> Rt (.int x) (some (.int x) :: cs) G') -> (∀ G', Same H G' -> ¬ P x -> Rf (some (.int x) :: cs) G') -> g (.int x) (y :: cs) G fun σ3 H3 => tc σ3 H3 fun b H4 => if b = true then te σ3 H4 fun v H5 => Rt v σ3 H5 else Rf σ3 H4)
    (hz : ∀ (ks : List Int) (G : Hp) (p : Addr), Same H G -> G p = none -> (∀ k, k ∈ ks ↔ k ∈ xs /\ P k) -> ks.length ≤ xs.length -> Q (.ref p) (upd G p (.lst (ks.map V.int)))) : CompLI K k js g tc te σ (.ref a) H Q := by
  have sz : (1000 : Nat) < sizeLine := z1b (Nat.le_refl _)
  refine CompLI.mk (xs := xs.map V.int) (.of h1) (fun i zs σ' G => Same H G /\ ∃ ks : List Int, zs = ks.map V.int /\ i ≤ xs.length /\ ks.length ≤ i /\ (∀ k, k ∈ ks ↔ k ∈ xs.take i /\ P k) /\ ∃ y, σ' = y :: cs) ⟨Same.refl _, [], rfl, Nat.zero_le _, Nat.zero_le _, fun k => by simp, none, h0⟩ (fun i zs σ' G il h => ?_) (fun i x zs σ' G e h => ?_) (fun zs σ' G h p hp => ?_)
  · obtain ⟨u, ks, rfl, i1, k1, _⟩ := h
    exact ⟨.of (u _ _ h1), by rw [List.length_map]; exact Nat.lt_of_le_of_lt (Nat.le_trans k1 (Nat.le_trans i1 lx)) sz⟩
  · obtain ⟨u, ks, rfl, i1, k1, hk, y, rfl⟩ := h
    obtain ⟨n, rfl, hn⟩ : ∃ n, x = .int n /\ xs[i]? = some n := by
      rw [List.getElem?_map] at e
      cases hx : xs[i]? with
      | none => rw [hx] at e; cases e
      | some n => rw [hx] at e; cases e; exact ⟨n, rfl, rfl⟩
    have il := (List.getElem?_eq_some_iff.mp hn).1
    have tk : ∀ k, k ∈ xs.take (i + 1) ↔ k ∈ xs.take i \/ k = n := fun k => by rw [List.take_add_one, hn]; simp
    refine hs n y G _ _ (List.mem_of_getElem? hn) u (fun G' u' pn => ?_) (fun G' u' pn => ?_)
    · refine ⟨u', ks ++ [n], by rw [List.map_append]; rfl, il, by rw [List.length_append]; exact Nat.succ_le_succ k1, fun k => ?_, _, rfl⟩
      rw [List.mem_append, List.mem_singleton, hk, tk]
      constructor
      · rintro (⟨a, b⟩ | rfl)
        · exact ⟨.inl a, b⟩
        · exact ⟨.inr rfl, pn⟩
      · rintro ⟨a | rfl, b⟩
        · exact .inl ⟨a, b⟩
        · exact .inr rfl
    · refine ⟨u', ks, rfl, il, Nat.le_succ_of_le k1, fun k => ?_, _, rfl⟩
      rw [hk, tk]
      constructor
      · rintro ⟨a, b⟩
        exact ⟨.inl a, b⟩
      · rintro ⟨a | rfl, b⟩
        · exact ⟨a, b⟩
        · exact absurd b pn
  · obtain ⟨u, ks, rfl, i1, k1, hk, y, rfl⟩ := h
    rw [List.length_map] at k1 hk
    exact hz ks G p u hp (fun k => by rw [hk, List.take_length]) k1
theorem filtR {n k : Nat} {js : List Nat} {g : TG} {tc : TT} {te : TE} {Q : VK} {σ : St} {H : Hp} (ln : n ≤ 1000) (P : Nat -> Prop) (cs : St) (h0 : compSt k js σ = none :: cs)
    (hs : ∀ (x : Nat) (y : Option V) (G : Hp) (Rt : V -> St -> Hp -> Prop) (Rf : St -> Hp -> Prop), x < n -> Same H G -> (∀ G', Same H G' -> P x -> Rt (.int (x : Int)) (some (.int (x : Int)) :: cs) G') -> (∀ G', Same H G' -> ¬ P x -> Rf (some (.int (x : Int)) :: cs) G') -> g (.int (x : Int)) (y :: cs) G fun σ3 H3 => tc σ3 H3 fun b H4 => if b = true then te σ3 H4 fun v H5 => Rt v σ3 H5 else Rf σ3 H4)
    (hz : ∀ (ks : List Int) (G : Hp) (p : Addr), Same H G -> G p = none -> (∀ k, k ∈ ks ↔ ∃ j : Nat, k = j /\ j < n /\ P j) -> ks.length ≤ n -> Q (.ref p) (upd G p (.lst (ks.map V.int)))) : CompRI 0 n k js g tc te σ H Q := by
  have sz : (1000 : Nat) < sizeLine := z1b (Nat.le_refl _)
  refine CompRI.mk (fun i zs σ' G => Same H G /\ ∃ ks : List Int, zs = ks.map V.int /\ ks.length ≤ i /\ (∀ k, k ∈ ks ↔ ∃ j : Nat, k = j /\ j < i /\ P j) /\ ∃ y, σ' = y :: cs) ⟨Same.refl _, [], rfl, Nat.zero_le _, fun k => ⟨(fun z => nomatch z), fun ⟨j, _, z, _⟩ => absurd z (Nat.not_lt_zero _)⟩, none, h0⟩ (fun i zs σ' G il h => ?_) (fun i zs σ' G il h => ?_) (fun zs σ' G h p hp => ?_)
  · obtain ⟨u, ks, rfl, k1, _⟩ := h
    rw [List.length_map]; exact Nat.lt_of_le_of_lt (Nat.le_trans k1 (Nat.le_trans il ln)) sz
  · obtain ⟨u, ks, rfl, k1, hk, y, rfl⟩ := h
    rw [Int.zero_add]
    refine hs i y G _ _ il u (fun G' u' pn => ?_) (fun G' u' pn => ?_)
    · refine ⟨u', ks ++ [(i : Int)], by rw [List.map_append]; rfl, by rw [List.length_append]; exact Nat.succ_le_succ k1, fun k => ?_, _, rfl⟩
      rw [List.mem_append, List.mem_singleton, hk]
      constructor
      · rintro (⟨j, a, b, c⟩ | rfl)
        · exact ⟨j, a, Nat.lt_succ_of_lt b, c⟩
        · exact ⟨i, rfl, Nat.lt_succ_self _, pn⟩
      · rintro ⟨j, a, b, c⟩
        rcases Nat.lt_succ_iff_lt_or_eq.mp b with z | z
        · exact .inl ⟨j, a, z, c⟩
        · exact .inr (by rw [a, z])
    · refine ⟨u', ks, rfl, Nat.le_succ_of_le k1, fun k => ?_, _, rfl⟩
      rw [hk]
      constructor
      · rintro ⟨j, a, b, c⟩
        exact ⟨j, a, Nat.lt_succ_of_lt b, c⟩
      · rintro ⟨j, a, b, c⟩
        rcases Nat.lt_succ_iff_lt_or_eq.mp b with z | z
        · exact ⟨j, a, z, c⟩
        · exact absurd (z ▸ c) pn
  · obtain ⟨u, ks, rfl, k1, hk, y, rfl⟩ := h
    exact hz ks G p u hp hk k1
theorem compI_core {X : Cx} {elt tg iter cnd : Expr} {scope : Scope} {cl : List (Str × Addr)} {pos : Pos} {own fv : List Str} {js : List Nat} {wi : TI} {g : TG} {tc : TT} {te : TE}
    (hc : X.calm = true) (hi : PI X tg iter wi) (hclos : closureFor scope X.env = pure cl) (hcell : ∀ y ∈ scope.names, y.2 ≠ .cell) (hkind : scope.kind = .function)
    (hnames : ∀ y ∈ scope.names, y.2 = .local -> scope.names.lookup y.1 = some .local)
    (hcl : ∀ x c, cl.lookup x = some c -> X.env.cells.lookup x = some c)
    (hhas : ∀ x, ((relabel scope X.env).names.lookup x = some .cell \/ (relabel scope X.env).names.lookup x = some .free) -> ∃ c, cl.lookup x = some c)
    (hlen : js.length = fv.length) (hcap : ∀ (i : Nat) x j, fv[i]? = some x -> js[i]? = some j -> Cap X scope cl x j)
    (hg : ∀ (C : Addr) (ex : List Addr) (s : Shared) (H : Hp), PG (cxComp X (own ++ fv) scope cl C ex s H) tg g)
    (he : ∀ (C : Addr) (ex : List Addr) (s : Shared) (H : Hp), PE (cxComp X (own ++ fv) scope cl C ex s H) elt te)
    (ht : ∀ (C : Addr) (ex : List Addr) (s : Shared) (H : Hp), PT (cxComp X (own ++ fv) scope cl C ex s H) cnd tc)
    (hs : ∀ x, foldedSetIterable iter X.env x = pure x)
    {pins : List (Addr × Obj)} {s : Shared} {σ : St} {H : Hp} {Q : VK} {use : Option (Value -> Sem Unit)} {QQ : Value -> Shared -> Prop} {fpos : Pos} (I : Inv X pins σ H s) (h : tCompI wi own.length js g tc te σ H Q)
    (fin : ∀ (a C : Addr) (s5 : Shared) (H5 : Hp) (fl : Flow), Inv X pins σ H5 s5 -> H5 C = none -> C ≠ X.env.locals -> X.s₀.heap.objs.size ≤ C -> (∀ x c, X.env.cells.lookup x = some c -> c ≠ C) -> (∀ p ∈ X.pn ++ pins, p.1 ≠ C) -> (∃ m, s5.heap.Ns C m) -> Q (.ref a) H5 -> compPost (model X.prog X.w) X.A X.xe use QQ (.ref a) C (.ok fl) s5) :
    wpAny (model X.prog X.w) X.A (comprehension (.ListComp elt [⟨tg, iter, [cnd], 0⟩] scope pos) scope X.env fpos (newList []) false (firstIter [⟨tg, iter, [cnd], 0⟩] X.env) use) QQ X.xe s := by
  refine wpAny_comprehension_free (use := use) rfl hs hclos hkind hnames (thn (hi pins s σ H _ I h) fun v s1 h1 => thn h1 fun itv s2 h2 => ?_)
  obtain ⟨it, fp, tn, J, H2, e, I2, T, st2, f2, W, ⟨m0, w0⟩, turn⟩ := h2
  subst e
  refine wpAny_newObj_type (wpAny_newFunctionEnv hcell (by intro y hy; simp at hy) (fun h₁ hns₁ hsb₁ => ?_) hkind)
  dsimp only at hns₁ hsb₁ ⊢
  generalize hHp : s2.heap.push { cls := .type "list", dict := none, data := .seq ([] : List Value).toArray } = hL at hns₁ hsb₁ ⊢
  have hC : hL.objs.size = s2.heap.objs.size + 1 := by rw [← hHp, Heap.size_push]
  have hDC : s2.heap.objs.size ≠ hL.objs.size := by rw [hC]; exact Nat.ne_of_lt (Nat.lt_succ_self _)
  have ltC : ∀ b, b < s2.heap.objs.size -> b ≠ hL.objs.size := fun b hb => by rw [hC]; exact Nat.ne_of_lt (Nat.lt_succ_of_lt hb)
  have old : ∀ b o, s2.heap.get? b = some o -> h₁.get? b = some o := fun b o e => hsb₁.extBut b o (ltC b (Heap.lt_size e)) (Heap.get?_push_of_some _ (hHp ▸ Heap.get?_push_of_some _ e))
  have hacc : h₁.get? s2.heap.objs.size = some { cls := .type "list", data := .seq ([] : List Value).toArray 0 } := hsb₁.extBut _ _ hDC (Heap.get?_push_of_some _ (hHp ▸ Heap.get?_push_size _ rfl))
  have hfresh : ∀ a, s2.heap.objs.size ≤ a -> H2 a = none := fun a ha => I2.hok.fresh ha
  have fpL : ∀ b ∈ fp, b < s2.heap.objs.size := fun b hb => by
    obtain ⟨o, e, _⟩ := T.obj _ _ st2 b hb
    exact Heap.lt_size e
  have cellL : ∀ x c, cl.lookup x = some c -> c < s2.heap.objs.size := fun x c e => by
    obtain ⟨v, q⟩ := I2.cell x c (hcl x c e)
    exact q.lt
  have pinL : ∀ p ∈ X.pn ++ pins, p.1 < s2.heap.objs.size := fun p hp => Heap.lt_size (I2.pin p hp).1
  generalize hX : cxComp X (own ++ fv) scope cl hL.objs.size fp s2 H2 = Y
  have ok : Y.Ok := by
    subst hX
    refine ⟨I2.ok.mod, hkind, I2.ok.glob, I2.ok.blt, by show s2.heap.objs.size ≤ hL.objs.size; omega, fun x y c h1 h2 => I2.ok.inj x y c (hcl x c h1) (hcl y c h2), fun x hx => hhas x hx,
      fun x c hf => absurd hf (by show ¬ (false = true); decide), I2.ok.hd, I2.ok.frames, .inl rfl, fun b hb => ⟨ltC b (fpL b hb), fun x c e => (f2 b hb).2.2.2.2.1 x c (hcl x c e)⟩, I2.bs, Nat.le_trans I2.ok.bsz I2.sz, fun b o e hb => ?_, fun b hb hz => ?_, I2.stack, I2.stkFree⟩
    · rcases (f2 b hb).2.2.2.1 with z | z
      · exact I2.ok.noex b o e z
      · exact absurd (Nat.lt_of_lt_of_le (Heap.lt_size e) (Nat.le_trans I2.ok.bsz z)) (Nat.lt_irrefl _)
    · rcases List.mem_cons.mp (I2.stkSub b hz) with z | z
      · exact (f2 b hb).2.1 z
      · exact (f2 b hb).2.2.1 z
  have hYl : Y.env.locals = hL.objs.size := by subst hX; rfl
  have hYs : Y.s₀ = s2 := by subst hX; rfl
  have hYH : Y.H₀ = H2 := by subst hX; rfl
  have hYx : Y.ex = fp := by subst hX; rfl
  have hYf : Y.fs = frs X.stack := by subst hX; rfl
  have hYc : Y.env.cells = cl := by subst hX; rfl
  have hYp : Y.pn = X.pn := by subst hX; rfl
  have pinOk : ∀ p ∈ X.pn ++ pins, s2.heap.get? p.1 = some p.2 /\ H2 p.1 = none /\ p.1 ≠ hL.objs.size /\ p.1 ∉ frs X.stack /\ ∀ v, p.2.data ≠ .cell v := fun p hp => by
    obtain ⟨e, n, ne, nf, d⟩ := I2.pin p hp
    refine ⟨e, n, ltC _ (Heap.lt_size e), fun z => ?_, d⟩
    rcases List.mem_cons.mp (I2.stkSub _ z) with q | q
    · exact ne q
    · exact nf q
  have stkL : ∀ b ∈ frs X.stack, b < s2.heap.objs.size := fun b hb => by
    obtain ⟨_, o, ho, _⟩ := I2.stack.mem hb
    exact Heap.lt_size ho
  have I3 : Inv Y (pins ++ [(s2.heap.objs.size, { cls := .type "list", data := .seq ([] : List Value).toArray 0 })]) (compSt own.length js σ) H2 { s2 with heap := h₁, toks := s2.toks + ([] : List (Str × Value)).length } := by
    refine ⟨ok, by subst hX; rfl, I2.bare, by rw [hYH, hYs]; exact Un.kept old, ⟨_, by rw [hYl]; exact hns₁, fun i x v e1 e2 e3 => ?_⟩, fun x c e => ?_, by rw [hYl]; exact hfresh _ (by omega), fun x c e => ?_, fun p hp => ?_, by subst hX; exact I2.hok.kept old, ?_⟩
    · subst hX
      have e1 : (own ++ fv)[i]? = some x := e1
      unfold compSt at e2
      by_cases hi : i < own.length
      · rw [List.getElem?_append_left (by simpa using hi), List.getElem?_replicate] at e2
        split at e2 <;> cases e2
      · rw [List.getElem?_append_right (by simpa using hi), List.length_replicate, List.getElem?_map] at e2
        rw [List.getElem?_append_right (by omega)] at e1
        cases ej : js[i - own.length]? with
        | none => rw [ej] at e2; cases e2
        | some j =>
          rw [ej] at e2
          have cp := hcap _ x j e1 ej
          have e2' : σ[j]? = some (some v) := join_some (Option.some.inj e2)
          obtain ⟨m, hn, hl⟩ := I2.loc
          obtain ⟨u, r, l⟩ := hl j x v cp.at_ e2' (cp.out.elim (fun z => .inr (.inl z)) fun z => .inr (.inr z))
          refine ⟨u, r, .inr ⟨cp.inn, ?_⟩⟩
          obtain ⟨c, ec⟩ := hhas x cp.inn
          rcases l with ⟨k, _⟩ | ⟨_, c', ec', z⟩
          · have k : X.env.scope.names.lookup x = some .local := k
            rcases cp.out with q | q <;> rw [q] at k <;> cases k
          · rw [hcl x c ec] at ec'
            cases ec'
            obtain ⟨o, ho, hd⟩ := z
            exact ⟨c, ec, o, old _ _ ho, hd⟩
    · rw [hYc] at e
      obtain ⟨v, o, ho, hd⟩ := I2.cell x c (hcl x c e)
      exact ⟨v, o, old _ _ ho, hd⟩
    · rw [hYc] at e
      exact I2.freeC x c (hcl x c e)
    · rw [hYp] at hp
      rw [hYl, hYf]
      rcases List.mem_append.mp hp with z | z
      · obtain ⟨a, b, c, d, f⟩ := pinOk p (List.mem_append_left _ z)
        exact ⟨old _ _ a, b, c, d, f⟩
      · rcases List.mem_append.mp z with z | z
        · obtain ⟨a, b, c, d, f⟩ := pinOk p (List.mem_append_right _ z)
          exact ⟨old _ _ a, b, c, d, f⟩
        · have e : p = _ := List.mem_singleton.mp z
          subst e
          exact ⟨hacc, hfresh _ (Nat.le_refl _), hDC, fun z => absurd (stkL _ z) (Nat.lt_irrefl _), fun v z => by cases z⟩
    · subst hX
      unfold compSt
      show _ = (own ++ fv).length
      simp [hlen]
  have hYprog : Y.prog = X.prog := by subst hX; rfl
  have hYw : Y.w = X.w := by subst hX; rfl
  have hYK : Y.K = X.K := by subst hX; rfl
  have hYA : Y.A = X.A := by subst hX; rfl
  have hYcalm : Y.calm = true := by subst hX; exact hc
  have hYxe : Y.xe = fun _ _ => False := by subst hX; rfl
  have hYenv : Y.env = compEnvC scope cl hL.objs.size X.env := by subst hX; rfl
  have hg' := hg hL.objs.size fp s2 H2
  have he' := he hL.objs.size fp s2 H2
  have ht' := ht hL.objs.size fp s2 H2
  rw [hX] at hg' he' ht'
  have fpOk : ∀ {H' : Hp} {pn : List (Addr × Obj)}, (∀ b ∈ fp, H' b = none) -> (∀ p ∈ pn, p.1 = s2.heap.objs.size \/ p ∈ pins) -> ∀ b ∈ fp, FpOk Y pn H' b := fun hn hp b hb => by
    refine ⟨hn b hb, by rw [hYl]; exact ltC b (fpL b hb), ?_, .inl (by rw [hYx]; exact hb), fun x c e => ?_, fun p hq => ?_⟩
    · rw [hYf]
      intro hz
      rcases List.mem_cons.mp (I2.stkSub b hz) with z | z
      · exact (f2 b hb).2.1 z
      · exact (f2 b hb).2.2.1 z
    · rw [hYc] at e
      exact (f2 b hb).2.2.2.2.1 x c (hcl x c e)
    · rw [hYp] at hq
      rcases List.mem_append.mp hq with z | z
      · exact (f2 b hb).2.2.2.2.2 p (List.mem_append_left _ z)
      · rcases hp p z with q | q
        · rw [q]; exact Ne.symm (Nat.ne_of_lt (fpL b hb))
        · exact (f2 b hb).2.2.2.2.2 p (List.mem_append_right _ q)
  have loop : ∀ s₃ : Shared, s₃ = { s2 with heap := h₁, toks := s2.toks + ([] : List (Str × Value)).length } ->
      codeAny (model X.prog X.w) X.A (.compLoop (.ListComp elt [⟨tg, iter, [cnd], 0⟩] scope pos) 0 (.ref it) (.ref s2.heap.objs.size) (compEnvC scope cl hL.objs.size X.env))
        (compPost (model X.prog X.w) X.A X.xe use QQ (.ref s2.heap.objs.size) hL.objs.size) s₃ := by
    rintro s₃ rfl
    refine compLoop_if (fun n s' => ∃ i ys its k σ' H', Inv Y (pins ++ [(s2.heap.objs.size, { cls := .type "list", data := .seq (its : List Value).toArray k })]) σ' H' s' /\ tn i s'.heap /\ (∀ b ∈ fp, H' b = none) /\ Vals ys its /\ ys.length ≤ sizeLine /\ W i n ys σ' H') ?_ m0
      ⟨0, [], [], 0, _, H2, I3, T.keep _ _ _ st2 fun b _ o e => old b o e, fun b hb => (f2 b hb).1, .nil, Nat.zero_le _, w0⟩
    rintro n s4 ⟨i, ys, its, k, σ4, H4, I4, st4, fr4, rv, hz, w4⟩
    have pinD : ∀ p ∈ (pins ++ [(s2.heap.objs.size, ({ cls := .type "list", data := .seq (its : List Value).toArray k } : Obj))]), p.1 = s2.heap.objs.size \/ p ∈ pins := fun p hp => by
      rcases List.mem_append.mp hp with z | z
      · exact .inr z
      · rw [List.mem_singleton.mp z]; exact .inl rfl
    have F4 := fpOk (pn := pins ++ [(s2.heap.objs.size, { cls := .type "list", data := .seq (its : List Value).toArray k })]) fr4 pinD
    rcases turn i n ys σ4 H4 w4 with ⟨stop, qn⟩ | ⟨go, hlt, N, hN, step⟩
    · have d := T.done Y hYprog hYw hYK hYcalm i _ s4 σ4 H4 (fun _ _ => False) I4 F4 st4 stop
      rw [hYA] at d
      refine thn d fun r s5 ⟨hr, I5⟩ => ?_
      subst hr
      obtain ⟨m, hn, _⟩ := id I5.loc
      rw [hYl] at hn
      have hD := I5.pin (s2.heap.objs.size, { cls := .type "list", data := .seq (its : List Value).toArray k }) (List.mem_append_right _ (List.mem_append_right _ (List.mem_singleton.mpr rfl)))
      have hDn : H4 s2.heap.objs.size = none := hD.2.1
      have kp : ∀ b o, b ≠ hL.objs.size -> s5.heap.get? b = some o -> s5.heap.get? b = some o := fun b o _ e => e
      have B := I5.base
      rw [hYH, hYs, hYx, hYf] at B
      have s2C : ∀ b o, s2.heap.get? b = some o -> b ≠ hL.objs.size := fun b o e => ltC b (Heap.lt_size e)
      have trk : ∀ b u, H4 b = some u -> b ≠ s2.heap.objs.size := fun b u e z => by rw [z, hDn] at e; cases e
      have trC : ∀ b u, H4 b = some u -> b ≠ hL.objs.size := fun b u e z => by
        have := I5.free
        rw [hYl, ← z, e] at this; cases this
      have hH2 : ∀ b u, H2 b = some u -> b ≠ s2.heap.objs.size := fun b u e z => by rw [z, hfresh _ (Nat.le_refl _)] at e; cases e
      have IX : Inv X pins σ (upd H4 s2.heap.objs.size (.lst ys)) s5 := by
       refine I2.call' (ch := fp) (by show s5.os = s2.os; rw [I5.os, hYs]) ⟨fun b o e n hb hx => kp b o (s2C b o e) (B.keep b o e n hb hx), fun b o e n hb hx => ?_, fun b o e n hx => ?_, fun b o e hx => ?_, fun b xs e => ?_, fun b o u e => ?_, fun b ps e => ?_⟩ ?_ I5.bare (fun b hb => ⟨(f2 b hb).2.2.2.1, (f2 b hb).2.1, (f2 b hb).2.2.2.2.1, (f2 b hb).2.2.2.2.2⟩)
       · obtain ⟨sl, q⟩ := B.slot b o e n hb hx
         exact ⟨sl, kp b _ (s2C b o e) q⟩
       · rw [z1c (Nat.ne_of_lt (Heap.lt_size e))]
         exact B.free b o e n hx
       · obtain ⟨o', q⟩ := B.there b o e hx
         exact ⟨o', kp b o' (s2C b o e) q⟩
       · rw [z1c (hH2 b _ e)]
         exact B.tups b xs e
       · rw [z1c (hH2 b _ e)]
         exact B.frzs b o u e
       · obtain ⟨more, q⟩ := B.tbls b ps e
         exact ⟨more, by rw [z1c (hH2 b _ e)]; exact q⟩
       · intro b u e
         by_cases hb : b = s2.heap.objs.size
         · subst hb
           rw [z0g] at e
           cases e
           exact ⟨hz, its, k, rv, kp _ _ hDC hD.1⟩
         · rw [z1c hb] at e
           have okb := I5.hok b u e
           rw [hYprog, hYw] at okb
           refine okb.stay (fun c v hc q => kp c v ?_ q) (fun c q => by rw [z1c (trk c _ q)]; exact q) fun c xs q => by rw [z1c (trk c _ q)]; exact q
           rcases hc with z | z
           · rw [z]; exact trC b u e
           · exact trC c _ z
      have zC : upd H4 s2.heap.objs.size (.lst ys) hL.objs.size = none := by
        rw [z1c (Ne.symm hDC)]
        have := I5.free
        rwa [hYl] at this
      exact fin s2.heap.objs.size hL.objs.size s5 _ _ IX zC (Ne.symm (ltC _ I2.lt)) (by have := I2.sz; omega) (fun x c e => ltC c (by obtain ⟨v, q⟩ := I2.cell x c e; exact q.lt)) (fun p hp => ltC _ (pinL p hp)) ⟨m, hn⟩ (qn _ hDn)
    · have d := T.item Y hYprog hYw hYK hYcalm i _ s4 σ4 H4 (fun _ _ => False) I4 F4 st4 go
      rw [hYA] at d
      refine thn d fun r s5 ⟨u, hr, h5⟩ => ?_
      subst hr
      refine thn h5 fun _ s6 ⟨x, H6, I6, r6, y6, st6, fr6⟩ => ?_
      have I6' := I6.pinned (fpOk (pn := pins ++ [(s2.heap.objs.size, { cls := .type "list", data := .seq (its : List Value).toArray k })]) fr6 pinD) (T.obj _ _ st6)
      have d7 := hg' _ s6 σ4 H6 x u _ I6' r6 (step x H6 y6)
      rw [hYprog, hYw, hYA, hYxe, hYenv] at d7
      refine thn d7 fun _ s7 ⟨σ7, H7, I7, q7⟩ => ?_
      have dt := ht' _ s7 σ7 H7 _ I7 q7
      rw [hYprog, hYw, hYA, hYxe, hYenv] at dt
      refine thn dt fun bb s7 ⟨H7, I7, q7⟩ => ?_
      cases bb with
      | false =>
        obtain ⟨m', hm, w8⟩ := hN _ _ _ q7
        have tn8 : tn (i + 1) s7.heap := T.keep _ _ _ st6 fun b hb o e => (I7.pin (b, o) (List.mem_append_right _ (List.mem_append_right _ (z1q hb e)))).1
        have fr8 : ∀ b ∈ fp, H7 b = none := fun b hb => by
          obtain ⟨o, e, d⟩ := T.obj _ _ st6 b hb
          exact (I7.pin (b, o) (List.mem_append_right _ (List.mem_append_right _ (z1q hb e)))).2.1
        exact ⟨m', hm, i + 1, ys, its, k, σ7, H7, I7.unpinned, tn8, fr8, rv, hz, w8⟩
      | true =>
        have q7 : te σ7 H7 _ := q7
        show wpAny _ _ (eval elt _) _ _ s7
        have d8 := he' _ s7 σ7 H7 _ I7 q7
        rw [hYprog, hYw, hYA, hYxe, hYenv] at d8
        refine thn d8 fun u8 s8 ⟨v8, H8, I8, r8, n8⟩ => ?_
        obtain ⟨m', hm, w8⟩ := hN _ _ _ n8
        have pD := I8.pin (s2.heap.objs.size, { cls := .type "list", data := .seq (its : List Value).toArray k }) (List.mem_append_right _ (List.mem_append_left _ (List.mem_append_right _ (List.mem_singleton.mpr rfl))))
        have tn8 : tn (i + 1) s8.heap := T.keep _ _ _ st6 fun b hb o e => (I8.pin (b, o) (List.mem_append_right _ (List.mem_append_right _ (z1q hb e)))).1
        have fr8 : ∀ b ∈ fp, H8 b = none := fun b hb => by
          obtain ⟨o, e, d⟩ := T.obj _ _ st6 b hb
          exact (I8.pin (b, o) (List.mem_append_right _ (List.mem_append_right _ (z1q hb e)))).2.1
        have J8 : Inv Y pins σ7 H8 s8 := I8.unpinned.unpinned
        have eD : s8.heap.get? s2.heap.objs.size = some { cls := .type "list", data := .seq its.toArray k } := pD.1
        refine call_meets F.slot_list_append ⟨_, eD, rfl⟩ F.entry_list_append (F.args_list_append_2 _ _) (PySem.list_append _ its.toArray k u8 (by rw [List.size_toArray, ← rv.length]; omega)) ⟨eD, ?_⟩
        have other : ∀ b o, b ≠ s2.heap.objs.size -> s8.heap.get? b = some o -> (s8.heap.update s2.heap.objs.size (Obj.mapSeq fun xs => xs.push u8)).get? b = some o := fun b o nb e => (Heap.get?_update_other s8.heap _ (Ne.symm nb)).trans e
        have J9 := J8.turned (t' := s8.toks) (it := s2.heap.objs.size) (h' := s8.heap.update s2.heap.objs.size (Obj.mapSeq fun xs => xs.push u8)) other pD.2.1 (by rw [hYl]; exact hDC) (.inr (by rw [hYs]; exact Nat.le_refl _))
          (fun x c e => by rw [hYc] at e; exact Nat.ne_of_lt (cellL x c e)) (fun p hp => by rw [hYp] at hp; exact Nat.ne_of_lt (pinL p hp))
        have ep : (its.toArray.push u8) = (its ++ [u8]).toArray := by simp
        obtain ⟨kk, upD⟩ : ∃ kk, (s8.heap.update s2.heap.objs.size (Obj.mapSeq fun xs => xs.push u8)).get? s2.heap.objs.size = some { cls := .type "list", data := .seq (its ++ [u8]).toArray kk } := by
          have z := PySem.IsL.update eD (fun xs => xs.push u8)
          rw [ep] at z
          exact ⟨_, z⟩
        refine ⟨m', hm, i + 1, ys ++ [v8], its ++ [u8], kk, σ7, H8, J9.pins_of fun p hp => ?_, T.keep _ _ _ tn8 fun b hb o e => other b o (Nat.ne_of_lt (fpL b hb)) e, fr8, rv.append (.cons r8 .nil), ?_, w8⟩
        · rcases List.mem_append.mp hp with z | z
          · exact J9.pin p (List.mem_append_right _ z)
          · rw [List.mem_singleton.mp z]
            exact ⟨upD, pD.2.1, by rw [hYl]; exact hDC, by rw [hYf]; exact fun z => absurd (stkL _ z) (Nat.lt_irrefl _), fun v z => by cases z⟩
        · rw [List.length_append, List.length_singleton]; omega
  exact codeAny_compStart_list (loop _ rfl) (T.self _ 0 _ _ _ (T.keep _ _ _ st2 fun b _ o e => old b o e) (loop _ rfl))
theorem z3p {X : Cx} {i : Nat} {x : Str} {elt tg iter cnd : Expr} {scope : Scope} {cl : List (Str × Addr)} {pos pos' lpos : Pos} {own fv : List Str} {js : List Nat} {wi : TI} {g : TG} {tc : TT} {te : TE}
    (hN : X.N.Nodup) (hx1 : X.N[i]? = some x) (hx : Loc X.env.scope x) (hf : X.fn x = true \/ X.env.scope.names.lookup x = some .local)
    (hc : X.calm = true) (hi : PI X tg iter wi) (hclos : closureFor scope X.env = pure cl) (hcell : ∀ y ∈ scope.names, y.2 ≠ .cell) (hkind : scope.kind = .function)
    (hnames : ∀ y ∈ scope.names, y.2 = .local -> scope.names.lookup y.1 = some .local)
    (hcl : ∀ x c, cl.lookup x = some c -> X.env.cells.lookup x = some c)
    (hhas : ∀ x, ((relabel scope X.env).names.lookup x = some .cell \/ (relabel scope X.env).names.lookup x = some .free) -> ∃ c, cl.lookup x = some c)
    (hlen : js.length = fv.length) (hcap : ∀ (i : Nat) x j, fv[i]? = some x -> js[i]? = some j -> Cap X scope cl x j)
    (hg : ∀ (C : Addr) (ex : List Addr) (s : Shared) (H : Hp), PG (cxComp X (own ++ fv) scope cl C ex s H) tg g)
    (he : ∀ (C : Addr) (ex : List Addr) (s : Shared) (H : Hp), PE (cxComp X (own ++ fv) scope cl C ex s H) elt te)
    (ht : ∀ (C : Addr) (ex : List Addr) (s : Shared) (H : Hp), PT (cxComp X (own ++ fv) scope cl C ex s H) cnd tc)
    (hsw : swapsWith (.ListComp elt [⟨tg, iter, [cnd], 0⟩] scope lpos) (some (.Name x pos')) pos.line X.env = pure true := by rfl)
    (hs : ∀ x, foldedSetIterable iter X.env x = pure x := by intro _; rfl) :
    PS X (.Assign [.Name x pos'] (.ListComp elt [⟨tg, iter, [cnd], 0⟩] scope lpos) pos) (tAsg (tCompI wi own.length js g tc te) (gName i)) := by
  intro pins s σ H D I h
  rw [exec_Assign_Name_used _ _ _ _ hsw]
  refine wpAny_bind (wpAny_standAt ?_)
  rw [arm_evalThenUse_ListComp]
  have core := compI_core (use := some (assign (.Name x pos') X.env)) (QQ := fun _ s' => SP X pins D .next s') (fpos := firstIterPos [⟨tg, iter, [cnd], 0⟩] lpos) (pos := lpos) hc hi hclos hcell hkind hnames hcl hhas hlen hcap hg he ht hs I h (fun a C s5 H5 fl I5 zC zL zS zc zp ⟨m, hn⟩ q => ?_)
  · refine wpAny_bind (wpAny_bind (thn core fun _ s' hq => ?_))
    exact wpAny_pure (wpAny_pure hq)
  · show wpAny (model X.prog X.w) X.A (assign (.Name x pos') X.env (.ref a)) _ X.xe s5
    show wpAny (model X.prog X.w) X.A (do standAt pos'; bindName X.env x (.ref a)) _ X.xe s5
    refine wpAny_bind (wpAny_standAt ?_)
    refine bindName_ ?_
    refine store_ok2 I5 hN hx1 hx (show RelV (.ref a) (.ref a) from rfl) (fun s6 I6 ⟨b, sb, hb⟩ => ?_) hf
    have cb : C ≠ b := by
      rcases hb with rfl | hb
      · exact zL
      · exact fun z => zc x b hb z.symm
    obtain ⟨o, es, ep, e, r⟩ := hn
    refine ⟨m, ⟨o, es, ep, (sb.2 C cb).trans e, r⟩, fun h' sc => ?_⟩
    exact ⟨_, H5, I6.turned (t' := s6.toks) (it := C) (fun d o nd e => sc.extBut d o nd e) zC zL (.inr zS) zc zp, q⟩
end L2
namespace PySem.W.Fast
theorem tw2447444982506183763 : True := ⟨⟩
theorem tw18095512131039673430 : True := ⟨⟩
theorem tw1466606001747501691 : True := ⟨⟩
theorem tw9420859141082169175 : True := ⟨⟩
theorem tw9725476446985986811 : True := ⟨⟩
theorem tw11908115691873083735 : True := ⟨⟩
theorem tw17314676851400883198 : True := ⟨⟩
theorem tw11185274280582785644 : True := ⟨⟩
theorem tw11766214675682718054 : True := ⟨⟩
theorem tw11193052074880843221 : True := ⟨⟩
theorem tw7892777323471444999 : True := ⟨⟩
theorem tw1589083197964058569 : True := ⟨⟩
theorem tw4551626310695944499 : True := ⟨⟩
theorem tw725798005865488149 : True := ⟨⟩
theorem tw14072488522191017692 : True := ⟨⟩
theorem tw7447340665619322439 : True := ⟨⟩
theorem tw10116482127710610749 : True := ⟨⟩
theorem tw10668540939854001010 : True := ⟨⟩
theorem tw3647049208668036182 : True := ⟨⟩
theorem tw15927293044856182478 : True := ⟨⟩
theorem tw11343888677152498849 : True := ⟨⟩
theorem tw7346234477214223853 : True := ⟨⟩
theorem tw7391985524142141156 : True := ⟨⟩
theorem tw14846174790982752837 : True := ⟨⟩
theorem tw16482254850229547866 : True := ⟨⟩
theorem tw6613540786549684904 : True := ⟨⟩
theorem tw10227354250420536412 : True := ⟨⟩
theorem tw6681182105257333994 : True := ⟨⟩
theorem tw17432855706312258439 : True := ⟨⟩
theorem tw9812069365094432019 : True := ⟨⟩
theorem tw3784172502276426669 : True := ⟨⟩
theorem tw10573015519226230694 : True := ⟨⟩
theorem tw14030357094301728281 : True := ⟨⟩
theorem tw7702608312434376759 : True := ⟨⟩
theorem tw18139936001048195136 : True := ⟨⟩
theorem tw18010871096348853033 : True := ⟨⟩
theorem tw11682351000928701636 : True := ⟨⟩
theorem tw13773767056818037739 : True := ⟨⟩
theorem tw5075602642276833261 : True := ⟨⟩
theorem tw14036094663062721743 : True := ⟨⟩
theorem tw12151077903759554992 : True := ⟨⟩
theorem tw8642948694150037412 : True := ⟨⟩
theorem tw17041259402138042692 : True := ⟨⟩
theorem tw6588234830324742878 : True := ⟨⟩
theorem tw9742099458508500622 : True := ⟨⟩
theorem tw414166972275176098 : True := ⟨⟩
theorem tw2745023776041780744 : True := ⟨⟩
theorem tw6172562454668828703 : True := ⟨⟩
theorem tw8560569627684780370 : True := ⟨⟩
theorem tw4233964826054676382 : True := ⟨⟩
theorem tw3865850156185784397 : True := ⟨⟩
theorem tw3734932248454714073 : True := ⟨⟩
theorem tw2727599569485108285 : True := ⟨⟩
theorem tw2966468018201658532 : True := ⟨⟩
theorem tw5633473642118743805 : True := ⟨⟩
theorem tw15984763958167103608 : True := ⟨⟩
theorem tw2274530533696437850 : True := ⟨⟩
theorem tw4239909260603863149 : True := ⟨⟩
theorem tw12503879981707178839 : True := ⟨⟩
theorem tw17467776184869421384 : True := ⟨⟩
theorem tw12128264554885389278 : True := ⟨⟩
theorem tw10120735428430122422 : True := ⟨⟩
theorem tw2246939822500875545 : True := ⟨⟩
theorem tw15305596387311557216 : True := ⟨⟩
theorem tw17138705192191390310 : True := ⟨⟩
theorem tw9031116323923631185 : True := ⟨⟩
theorem tw5552225804017836338 : True := ⟨⟩
theorem tw698340250142948880 : True := ⟨⟩
theorem tw18053248884457871369 : True := ⟨⟩
theorem tw4991526638226829989 : True := ⟨⟩
theorem tw3302856396581732595 : True := ⟨⟩
theorem tw17468675310479599651 : True := ⟨⟩
theorem tw16517724442584358053 : True := ⟨⟩
theorem tw8659168593673057737 : True := ⟨⟩
theorem tw5228395506526040599 : True := ⟨⟩
theorem tw2902335691911133043 : True := ⟨⟩
theorem tw12415110451323107820 : True := ⟨⟩
theorem tw12916856596535750743 : True := ⟨⟩
theorem tw6750053091764669123 : True := ⟨⟩
theorem tw13471167100578597026 : True := ⟨⟩
theorem tw3321504378285122119 : True := ⟨⟩
theorem tw3087885502842939733 : True := ⟨⟩
theorem tw6836351186165597333 : True := ⟨⟩
theorem tw6347055650312732637 : True := ⟨⟩
theorem tw3901659043848924894 : True := ⟨⟩
theorem tw943121485157110905 : True := ⟨⟩
theorem tw14572811094541183138 : True := ⟨⟩
theorem tw11409294207319178439 : True := ⟨⟩
theorem tw9723073824605811465 : True := ⟨⟩
theorem tw14600223850398284637 : True := ⟨⟩
theorem tw14028008018633577947 : True := ⟨⟩
theorem tw18090658231884165208 : True := ⟨⟩
theorem tw10202442268434692815 : True := ⟨⟩
theorem tw6733614185780984020 : True := ⟨⟩
theorem tw4407867904019205181 : True := ⟨⟩
theorem tw3137456352465459988 : True := ⟨⟩
theorem tw1679999878879016498 : True := ⟨⟩
theorem tw12714272979161578460 : True := ⟨⟩
theorem tw2219431185376683756 : True := ⟨⟩
theorem tw12436689024103808160 : True := ⟨⟩
theorem tw17351169596696552914 : True := ⟨⟩
theorem tw1543390338611993203 : True := ⟨⟩
theorem tw18425890318513452341 : True := ⟨⟩
theorem tw4449851046345617483 : True := ⟨⟩
theorem tw13148703707363557251 : True := ⟨⟩
theorem tw8183333008503910899 : True := ⟨⟩
theorem tw2267093561146147551 : True := ⟨⟩
theorem tw10135730916434649718 : True := ⟨⟩
theorem tw345846705279772771 : True := ⟨⟩
theorem tw10613757323385079942 : True := ⟨⟩
theorem tw2505214654973014344 : True := ⟨⟩
theorem tw2830700594563000221 : True := ⟨⟩
theorem tw6670661361810543704 : True := ⟨⟩
theorem tw16126726401046104186 : True := ⟨⟩
theorem tw8298125210486563272 : True := ⟨⟩
theorem tw11543300256167872041 : True := ⟨⟩
theorem tw10781590786858275164 : True := ⟨⟩
theorem tw11013495342482365174 : True := ⟨⟩
theorem tw12228890153083427967 : True := ⟨⟩
theorem tw14196494415185459649 : True := ⟨⟩
theorem tw8705464657862179637 : True := ⟨⟩
theorem tw9519410744140846064 : True := ⟨⟩
theorem tw8935595795053361305 : True := ⟨⟩
theorem tw12544299955728710937 : True := ⟨⟩
theorem tw6416868821724854273 : True := ⟨⟩
theorem tw8189947891600419237 : True := ⟨⟩
theorem tw9371925709376673407 : True := ⟨⟩
theorem tw1036431142511702900 : True := ⟨⟩
theorem tw16168773909378028566 : True := ⟨⟩
theorem tw12577309265593433267 : True := ⟨⟩
theorem tw2592396106583341655 : True := ⟨⟩
theorem tw17703507172792456298 : True := ⟨⟩
theorem tw9086617851541707962 : True := ⟨⟩
theorem tw5331047439594466283 : True := ⟨⟩
theorem tw7915338206799746793 : True := ⟨⟩
theorem tw4113944143678013435 : True := ⟨⟩
theorem tw5821297270640247799 : True := ⟨⟩
theorem tw16589950327975933271 : True := ⟨⟩
theorem tw15101943077274767237 : True := ⟨⟩
theorem tw1254180832624671 : True := ⟨⟩
theorem tw15497812237033885545 : True := ⟨⟩
theorem tw15270354296046119519 : True := ⟨⟩
theorem tw11936328543474941923 : True := ⟨⟩
theorem tw8292270722734124658 : True := ⟨⟩
theorem tw18216275863436170058 : True := ⟨⟩
theorem tw1807172568299089795 : True := ⟨⟩
theorem tw5643167466485975022 : True := ⟨⟩
theorem tw14973523640088397233 : True := ⟨⟩
theorem tw10617764097263747458 : True := ⟨⟩
theorem tw14085168400690667538 : True := ⟨⟩
theorem tw561191839667074543 : True := ⟨⟩
theorem tw7102021997858996248 : True := ⟨⟩
theorem tw3481145259889704486 : True := ⟨⟩
theorem tw11302981875050170016 : True := ⟨⟩
theorem tw14949473396356258489 : True := ⟨⟩
theorem tw14436950434570207264 : True := ⟨⟩
theorem tw12947464948865588893 : True := ⟨⟩
theorem tw4465242864445678234 : True := ⟨⟩
theorem tw2037311357456030941 : True := ⟨⟩
theorem tw14132098425579629414 : True := ⟨⟩
theorem tw17964322940398596570 : True := ⟨⟩
theorem tw10546670844016169585 : True := ⟨⟩
theorem tw2701773685640929686 : True := ⟨⟩
theorem tw1230877487791577565 : True := ⟨⟩
theorem tw15081573978640759992 : True := ⟨⟩
theorem tw9838044738847222204 : True := ⟨⟩
theorem tw986295828848777583 : True := ⟨⟩
theorem tw18427666885286428826 : True := ⟨⟩
theorem tw13496565905469950216 : True := ⟨⟩
theorem tw5820058996887652703 : True := ⟨⟩
theorem tw3869087347459558534 : True := ⟨⟩
theorem tw4486246300768172811 : True := ⟨⟩
theorem tw15333938623202352459 : True := ⟨⟩
theorem tw15999611090195758235 : True := ⟨⟩
theorem tw12631963453518459708 : True := ⟨⟩
theorem tw15777686212211269447 : True := ⟨⟩
theorem tw5404684487714445676 : True := ⟨⟩
theorem tw6619552083246493741 : True := ⟨⟩
theorem tw12366206354008352407 : True := ⟨⟩
theorem tw2118358962149453892 : True := ⟨⟩
theorem tw16514291084408858218 : True := ⟨⟩
theorem tw11196072872248769840 : True := ⟨⟩
theorem tw3071132005097675307 : True := ⟨⟩
theorem tw11259174192966482391 : True := ⟨⟩
theorem tw15684031090081350244 : True := ⟨⟩
end PySem.W.Fast
namespace My
open PySem L2 PyProof.Rows
local macro_rules | `(tactic| wp_walk using $xs:term,*) => `(tactic| simp only [rPopAt, rCount, tBMf, rStarts, rSlStrX, tKTab, rKTab, tKIn, for_eqZM, comp_eqZM, comp_eqTI, gTup, rJoinD, rJoinW, rMulS, rIxQ, rExtend, rSplit, rInN, rMulC, tDGet1, tDIn, sDPut, tDNewK, rRep, rExtendT, rUpdate, rEqD, rNeD, for_eqQ, comp_eqQ, for_eqVL, tCalV, tLam, for_eqE, rIndex, rIndexT, rMnD, rMxD, tKwD, for_eqZN, comp_eqZN, rInsert, comp_eqZ3, tKwK, rMxK, tKw2, rMx2, comp_eqLI, comp_eqRI, for_eqZL, comp_eqZL, rCatL, for_eqX, comp_eqX, rFind, tFR, rSlStr, rUpper, rJoin, tBM0, tBM, tyV, for_eqEL, tTupRevT, rSlTA, tTryN, caughtN, catchN, comp_eqE, comp_eqEI, rNeT, rNeL, tRaise, tTry, tCallX, caughtBy, goneEnds, rCatA, rEqL, rEqT, for_eqV, for_eqZ, comp_eqZ, for_eqR3, comp_eqR3, rRepT, rCatS, rSlTS, tSl, tNoPart, tPart, rSetL, gSub, rIxT, tRet, tRetN, tNext, tVar, tC, tOp, tUn, rI, rI0, rU, rEq, rNe, tTest, tB, tNot, tAnd, tOr, tAndV, tOrV, tNotV, tIf, tCall, tCB, tNil, tCons, tChain, tLst, tTup, tAsg, gName, tDrop, tNever, rIxL, rCat, CPow, CMul, CDiv, CDivN, CDivW, L2.start, scal, for_eqL, for_eqT, for_eqR1, for_eqR2, comp_eqL, comp_eqT, comp_eqR1, cxOf_K, cxComp_K, isi_ii, isi_ib, isi_bi, isi_bb, isi_it, tyS, tApp, gTupH, gCons, gNil, rInT, rInL, rIxLH, rIxTH, inV, eqV, flatV, z0g, HO.lst.injEq, HO.tup.injEq, List.any_cons, List.any_nil, List.all_cons, List.all_nil, Bool.or_false, Bool.and_self, Bool.and_true, Bool.or_eq_true, beq_iff_eq, V.int.injEq, V.bl.injEq, V.str.injEq, V.ref.injEq, V.ty.injEq, List.map_cons, List.map_nil, List.length_cons, List.length_nil, List.cons_append, List.nil_append, List.getElem?_cons_zero, List.getElem?_cons_succ, Option.some.injEq, exists_eq_left', exists_eq_left, exists_and_left, List.cons.injEq, and_true, true_and, and_assoc, decide_eq_true_eq, List.set_cons_zero, List.set_cons_succ, List.replicate, Nat.sub_self, List.append_nil, Nat.add_sub_cancel, Nat.reduceAdd, Nat.reduceSub, Int.reduceLT, Int.reduceLE, Int.reduceNeg, Int.reduceSub, Int.reduceAdd, Int.reducePow, Int.reduceToNat, na2, na10, Nat.reducePow, Nat.reduceLT, if_true, if_false, Bool.not_true, Bool.not_false, Bool.false_eq_true, List.mem_cons, List.not_mem_nil, eq_self, true_or, or_true, or_false, false_or, String.reduceEq, Option.isSome_some, ne_eq, not_false_eq_true, not_true_eq_false, Bool.not_eq_true', decide_eq_false_iff_not, Bool.true_eq_false, $[$xs:term],*])
def top (i : Nat) : Stmt := PySem.Challenge.pw_sideloom_k32_sides_told_ahead.main.body.getD i (.Pass ⟨0, 0, 0, 0⟩)
def formsL : List (Str × List (Str × Int)) := [("in", [("sides", 1)]), ("num", [("number", 1)]), ("count", [("small", 2), ("sides", 1)]), ("each", [("word", 1), ("step", 2)]), ("pair", [("word", 1), ("step", 2), ("step", 3)]), ("pick", [("step", 1), ("step", 2), ("step", 3)]), ("turn", [("step", 1), ("sides", 2)]), ("flip", [("step", 1), ("small", 2)]), ("cut", [("step", 1), ("small", 2), ("small", 3), ("small", 4), ("small", 5)]), ("spread", [("step", 1), ("small", 2), ("small", 3)]), ("lay", [("step", 1), ("sides", 2)]), ("join", [("step", 1), ("step", 2), ("small", 3)]), ("fetch", [("step", 1), ("step", 2)]), ("fold", [("word", 1), ("step", 2), ("small", 3)]), ("run", [("word", 1), ("step", 2), ("small", 3)])]
def ItemsAll (K : PySem.W.Frag) : List (Str × Int) -> List V -> Prop
  | [], [] => True
  | f :: fs, x :: xs => (∃ a, x = .ref a /\ KTup K a [.str f.1, .int f.2]) /\ ItemsAll K fs xs
  | _, _ => False
def PartsAll (K : PySem.W.Frag) : List (Str × List (Str × Int)) -> List (Str × Addr) -> Prop
  | [], [] => True
  | f :: fs, p :: ps => (p.1 = f.1 /\ ∃ xs, KTup K p.2 xs /\ ItemsAll K f.2 xs) /\ PartsAll K fs ps
  | _, _ => False
def PartsOk (P : Program) (w : World) (K : PySem.W.Frag) (d : Addr) : Prop := ∃ kvs, KTab P w K d kvs /\ PartsAll K formsL kvs
theorem z0x {K : PySem.W.Frag} {a : Addr} {od : Option Addr} {its : Array Value} {n : Nat} {sl : Array (Option Value)} {xs : List V} (h : K.lookup a = some ⟨.type "tuple", od, .seq its n, sl⟩) (z : its.size ≤ sizeLine) (v : Vals xs its.toList) : KTup K a xs := ⟨_, its, n, h, rfl, rfl, z, v⟩
theorem parts_look {K : PySem.W.Frag} : ∀ {fs : List (Str × List (Str × Int))} {kvs : List (Str × Addr)}, PartsAll K fs kvs -> ∀ {x : Str} {f : List (Str × Int)}, fs.lookup x = some f -> ∃ a xs, kvs.lookup x = some a /\ KTup K a xs /\ ItemsAll K f xs
  | [], _, _, x, f, e => nomatch e
  | _ :: _, [], h, _, _, _ => h.elim
  | (g, gs) :: fs, (p, pa) :: ps, h, x, f, e => by
    obtain ⟨⟨e1, xs, k1, k2⟩, h2⟩ := h
    cases (show p = g from e1)
    rw [List.lookup_cons] at e ⊢
    by_cases c : x == g
    · rw [c] at e ⊢
      cases e
      exact ⟨pa, xs, rfl, k1, k2⟩
    · have c : (x == g) = false := by simpa using c
      rw [c] at e ⊢
      exact parts_look h2 e
theorem items_at {K : PySem.W.Frag} : ∀ {fs : List (Str × Int)} {xs : List V}, ItemsAll K fs xs -> xs.length = fs.length /\ ∀ {i : Nat} {x : V}, xs[i]? = some x -> ∃ f a, fs[i]? = some f /\ x = .ref a /\ KTup K a [.str f.1, .int f.2]
  | [], [], _ => ⟨rfl, fun e => by simp at e⟩
  | [], _ :: _, h => h.elim
  | _ :: _, [], h => h.elim
  | f :: fs, y :: ys, h => by
    obtain ⟨⟨a, e1, k1⟩, h2⟩ := h
    obtain ⟨l, at2⟩ := items_at h2
    refine ⟨by simp [l], fun {i x} e => ?_⟩
    cases i with
    | zero => cases e; exact ⟨f, a, rfl, e1, k1⟩
    | succ i => exact at2 e
def prodI (ns : List Int) : Int := ns.foldl (fun a b => a * b) 1
theorem prod_step {ns : List Int} {i : Nat} {x : Int} (h : ns[i]? = some x) : prodI (ns.take (i + 1)) = prodI (ns.take i) * x := by
  unfold prodI
  rw [List.take_add_one, h, List.foldl_append]
  rfl
def sdOk (ns : List Int) : Prop := ∀ n ∈ ns, 0 ≤ n /\ n < 1000000000000000000
def one1 (n : Int) : Int := if n = 0 then 1 else n
theorem one_ok {ns : List Int} (h : sdOk ns) : sdOk (ns.map one1) := by
  intro n hn
  obtain ⟨m, hm, rfl⟩ := List.mem_map.mp hn
  have := h m hm
  unfold one1
  split <;> omega
theorem sd_at {ns : List Int} (h : sdOk ns) {i : Nat} {x : V} (e : (ns.map V.int)[i]? = some x) : ∃ m, x = .int m /\ ns[i]? = some m /\ 0 ≤ m /\ m < 1000000000000000000 := by
  rw [List.getElem?_map] at e
  cases q : ns[i]? with
  | none => rw [q] at e; cases e
  | some m =>
    rw [q] at e
    exact ⟨m, (Option.some.inj e).symm, rfl, h m (List.mem_of_getElem? q)⟩
def bigI (ns : List Int) : Prop := 6 < ns.length \/ 512 < prodI (ns.map one1)
def spallowed (C : Addr) : Sp := fun vs H Q E => ∃ (a : Addr) (ns : List Int), vs = [.ref a] /\ H a = some (.tup (ns.map V.int)) /\ sdOk ns /\ ns.length ≤ 63 /\ (bigI ns -> ∀ H', Same H H' -> E (.ref C) none H') /\ (¬ bigI ns -> ∀ H', Same H H' -> Q (.ref a) H')
theorem z0h {A B : TS} {D : Ends} {σ : L2.St} {H : Hp} (J : L2.St -> Hp -> Prop) (h2 : ∀ σ H, J σ H -> B D σ H) (h1 : ∀ R : L2.St -> Hp -> Prop, (∀ σ H, J σ H -> R σ H) -> A { D with nx := R } σ H) : tSeq A B D σ H := h1 (B D) h2
theorem z0s (ns : List Int) : (ns.map V.int).length = ns.length := List.length_map ..
theorem int_at {ms : List Int} {i : Nat} {y : V} (ey : (ms.map V.int)[i]? = some y) : ∃ m, y = .int m /\ ms[i]? = some m := by
  rw [List.getElem?_map] at ey
  cases q : ms[i]? with
  | none => rw [q] at ey; cases ey
  | some m => rw [q] at ey; exact ⟨m, (Option.some.inj ey).symm, rfl⟩
theorem prod_app (xs : List Int) (y : Int) : prodI (xs ++ [y]) = prodI xs * y := by unfold prodI; rw [List.foldl_append]; rfl
theorem prod_from (xs : List Int) : ∀ a : Int, xs.foldl (fun a b => a * b) a = a * prodI xs := by
  induction xs with
  | nil => intro a; show a = a * 1; rw [Int.mul_one]
  | cons x xs ih => intro a; show xs.foldl (fun a b => a * b) (a * x) = a * (xs.foldl (fun a b => a * b) (1 * x)); rw [ih, ih (1 * x), Int.one_mul, Int.mul_assoc]
theorem z1g (x : Int) (xs : List Int) : prodI (x :: xs) = x * prodI xs := by
  show xs.foldl (fun a b => a * b) (1 * x) = _
  rw [prod_from, Int.one_mul]
def cellI (ns : List Int) (k : Nat) : Int := ns.getD k 0
def fit (ns : List Int) : Prop := (∀ n ∈ ns, 0 ≤ n /\ n ≤ 512) /\ ns.length ≤ 6 /\ 1 ≤ prodI (ns.map one1) /\ prodI (ns.map one1) ≤ 512
def Pair (H : Hp) (p : Addr) (w : String) (ms : List Int) : Prop := ∃ q, H p = some (.tup [.str w, .ref q]) /\ H q = some (.tup (ms.map V.int))
theorem Pair.same {H H' : Hp} {p : Addr} {w : String} {ms : List Int} (h : Pair H p w ms) (s : Same H H') : Pair H' p w ms := let ⟨q, a, b⟩ := h; ⟨q, s _ _ a, s _ _ b⟩
def off (ns : List Int) (side : Int) : Prop := side < 0 \/ (ns.length : Int) ≤ side
def bad (ns : List Int) (side first many step : Int) : Prop := first < 0 \/ many < 0 \/ step < 1 \/ (0 < many /\ ns.getD side.toNat 0 ≤ first + (many - 1) * step)
def spask (C : Addr) : Sp := fun vs H Q E => ∃ (a : Addr) (ns : List Int) (side : Int), vs = [.ref a, .int side] /\ H a = some (.tup (ns.map V.int)) /\ (off ns side -> E (.ref C) none H) /\ (¬ off ns side -> Q .non H)
def spflip (C : Addr) : Sp := fun vs H Q E => ∃ (a : Addr) (ns : List Int) (side : Int), vs = [.ref a, .int side] /\ H a = some (.tup (ns.map V.int)) /\ (off ns side -> E (.ref C) none H) /\ (¬ off ns side -> Q (.ref a) H)
def spfolded (C : Addr) : Sp := fun vs H Q E => ∃ (a : Addr) (ns : List Int) (side : Int), vs = [.ref a, .int side] /\ H a = some (.tup (ns.map V.int)) /\ ns.length ≤ 63 /\ (off ns side -> E (.ref C) none H) /\ (¬ off ns side -> ∀ H' p, Same H H' -> H' p = some (.tup ((ns.eraseIdx side.toNat).map V.int)) -> Q (.ref p) H')
def spcut (C D : Addr) : Sp := fun vs H Q E => ∃ (a : Addr) (ns : List Int) (side first many step : Int), vs = [.ref a, .int side, .int first, .int many, .int step] /\ H a = some (.tup (ns.map V.int)) /\ ns.length ≤ 63 /\ -100 < many /\ many < 1000000 /\ (off ns side -> E (.ref C) none H) /\ (¬ off ns side -> bad ns side first many step -> E (.ref D) none H) /\ (¬ off ns side -> ¬ bad ns side first many step -> ∀ H' p, Same H H' -> H' p = some (.tup ((ns.set side.toNat many).map V.int)) -> Q (.ref p) H')
theorem cut_lo {ns : List Int} {k : Nat} (h : k ≤ ns.length) : cutV (ns.map V.int) none (some (k : Int)) = (ns.take k).map V.int := by
  unfold cutV; simp only [HT.sIx, z0s]; rw [if_neg (by omega), List.drop_zero, List.map_take]; congr 1; omega
theorem cut_hi {ns : List Int} {k : Nat} (h : k ≤ ns.length) : cutV (ns.map V.int) (some (k : Int)) none = (ns.drop k).map V.int := by
  unfold cutV; simp only [HT.sIx, z0s]; rw [if_neg (by omega), List.map_drop, show min (k : Int).toNat ns.length = k by omega, List.take_of_length_le (by simp)]
theorem at_ok {ns : List Int} {side : Int} (h : ¬ off ns side) : ∃ k : Nat, side = k /\ k < ns.length := by
  unfold off at h
  exact ⟨side.toNat, by omega, by omega⟩
theorem atI_ok {ns : List Int} {k : Nat} (h : k < ns.length) : atI (ns.map V.int) (k : Int) = some (.int (ns.getD k 0)) := z0p (by rw [List.getElem?_map, List.getElem?_eq_getElem h, List.getD_eq_getElem?_getD, List.getElem?_eq_getElem h]; rfl)
instance (ns : List Int) : Decidable (bigI ns) := by unfold bigI; infer_instance
theorem z2e (ns : List Int) (k : Nat) : cutV (ns.map V.int) none (some (k : Int)) = (ns.take k).map V.int := by
  unfold cutV; simp only [HT.sIx, z0s]; rw [if_neg (by omega), List.drop_zero, Nat.sub_zero, ← List.map_take]; congr 1
  by_cases c : k ≤ ns.length
  · congr 1; omega
  · rw [List.take_of_length_le (by omega), List.take_of_length_le (by omega)]
theorem z1z : ∀ (ns ms : List Int), eqVs (ns.map V.int) (ms.map V.int) = decide (ns = ms)
  | [], [] => rfl
  | [], m :: ms => by simp [eqVs]
  | n :: ns, [] => by simp [eqVs]
  | n :: ns, m :: ms => by
    by_cases e : n = m
    · subst e; simp [eqVs, eqV, z1z ns ms]
    · simp [eqVs, eqV, z1z ns ms, e]
def agr (x y : List Int) : Prop := ∀ k : Nat, k < x.length -> k < y.length -> x[k]? = y[k]?
theorem agr_refl (x : List Int) : agr x x := fun _ _ _ => rfl
theorem agr_symm {x y : List Int} (h : agr x y) : agr y x := fun k a b => (h k b a).symm
theorem agr_take {x y : List Int} (h : x.length ≤ y.length) : agr x y ↔ y.take x.length = x := by
  constructor
  · intro a
    apply List.ext_getElem?
    intro k
    by_cases c : k < x.length
    · rw [List.getElem?_take_of_lt c]; exact (a k c (by omega)).symm
    · rw [List.getElem?_eq_none (by rw [List.length_take]; omega), List.getElem?_eq_none (by omega)]
  · intro e k hx hy
    have z := congrArg (fun l => l[k]?) e
    simp only [List.getElem?_take_of_lt hx] at z
    exact z.symm
def pairOk (x y : List Int) : Prop := if y.length < x.length then x.take y.length = y else y.take x.length = x
def pairL (x y : List Int) : List Int := if y.length < x.length then x else y
theorem z3u (x y : List Int) : pairOk x y ↔ agr x y := by
  unfold pairOk
  split
  · rename_i h; exact (agr_take (by omega)).symm.trans ⟨agr_symm, agr_symm⟩
  · rename_i h; exact (agr_take (by omega)).symm
theorem agr_eq {x y : List Int} (h : agr x y) (l : x.length = y.length) : x = y := by
  have z := (agr_take (x := x) (y := y) (by omega)).mp h
  rw [l, List.take_length] at z
  exact z.symm
theorem agr_pairL {x y z : List Int} (h : agr x z) (h2 : agr y z) : agr (pairL x y) z := by
  unfold pairL; split
  · exact h
  · exact h2
def spled (C : Addr) : Sp := fun vs H Q E => ∃ (a b : Addr) (ns ms : List Int), vs = [.ref a, .ref b] /\ H a = some (.tup (ns.map V.int)) /\ H b = some (.tup (ms.map V.int)) /\ (¬ ms.take ns.length = ns -> ∀ H', Same H H' -> E (.ref C) none H') /\ (ms.take ns.length = ns -> ∀ H', Same H H' -> Q (.ref b) H')
def sppaired (C : Addr) : Sp := fun vs H Q E => ∃ (a b : Addr) (ns ms : List Int), vs = [.ref a, .ref b] /\ H a = some (.tup (ns.map V.int)) /\ H b = some (.tup (ms.map V.int)) /\ (¬ pairOk ns ms -> ∀ H', Same H H' -> E (.ref C) none H') /\ (pairOk ns ms -> ∀ H' p, Same H H' -> H' p = some (.tup ((pairL ns ms).map V.int)) -> Q (.ref p) H')
def sppicked (C : Addr) : Sp := fun vs H Q E => ∃ (a b c : Addr) (ns ms ks : List Int), vs = [.ref a, .ref b, .ref c] /\ H a = some (.tup (ns.map V.int)) /\ H b = some (.tup (ms.map V.int)) /\ H c = some (.tup (ks.map V.int)) /\ (¬ (pairOk ns ms /\ pairOk (pairL ns ms) ks) -> ∀ H', Same H H' -> E (.ref C) none H') /\ (pairOk ns ms -> pairOk (pairL ns ms) ks -> ∀ H' p, Same H H' -> H' p = some (.tup ((pairL (pairL ns ms) ks).map V.int)) -> Q (.ref p) H')
def spfetched (C1 C2 C3 : Addr) : Sp := fun vs H Q E => ∃ (a b : Addr) (ns ms : List Int), vs = [.ref a, .ref b] /\ H a = some (.tup (ns.map V.int)) /\ H b = some (.tup (ms.map V.int)) /\ sdOk ns /\ sdOk ms /\ ns.length ≤ 20 /\ ms.length ≤ 20 /\ (ns = [] -> E (.ref C1) none H) /\ (∀ r, ns = 0 :: r -> E (.ref C2) none H) /\ (∀ n r, ns = n :: r -> n ≠ 0 -> bigI (ms ++ r) -> ∀ H', Same H H' -> E (.ref C3) none H') /\ (∀ n r, ns = n :: r -> n ≠ 0 -> ¬ bigI (ms ++ r) -> ∀ H' p, Same H H' -> H' p = some (.tup ((ms ++ r).map V.int)) -> Q (.ref p) H')
def tups (H : Hp) (ps : List Addr) (L : List (List Int)) : Prop := ps.length = L.length /\ ∀ (i : Nat) p m, ps[i]? = some p -> L[i]? = some m -> H p = some (.tup (m.map V.int))
theorem tups.same {H H' : Hp} {ps : List Addr} {L : List (List Int)} (h : tups H ps L) (s : Same H H') : tups H' ps L := ⟨h.1, fun i p m a b => s _ _ (h.2 i p m a b)⟩
theorem tups.at {H : Hp} {ps : List Addr} {L : List (List Int)} (h : tups H ps L) {i : Nat} {v : V} (e : (ps.map V.ref)[i]? = some v) : ∃ p m, v = .ref p /\ L[i]? = some m /\ m ∈ L /\ H p = some (.tup (m.map V.int)) := by
  rw [List.getElem?_map] at e
  cases q : ps[i]? with
  | none => rw [q] at e; cases e
  | some p =>
    rw [q] at e
    have hi := (List.getElem?_eq_some_iff.mp q).1
    rw [h.1] at hi
    have z := List.getElem?_eq_getElem hi
    exact ⟨p, L[i], (Option.some.inj e).symm, z, List.getElem_mem hi, h.2 i p _ q z⟩
theorem tups.snoc {H : Hp} {ps : List Addr} {L : List (List Int)} {p : Addr} {m : List Int} (h : tups H ps L) (hp : H p = some (.tup (m.map V.int))) : tups H (ps ++ [p]) (L ++ [m]) := by
  refine ⟨by rw [List.length_append, List.length_append, h.1]; rfl, fun i p' m' a b => ?_⟩
  by_cases c : i < ps.length
  · rw [List.getElem?_append_left c] at a
    rw [List.getElem?_append_left (by rw [← h.1]; exact c)] at b
    exact h.2 i p' m' a b
  · have e : i = ps.length := by have := (List.getElem?_eq_some_iff.mp a).1; simp at this; omega
    subst e
    rw [List.getElem?_append_right (Nat.le_refl _), Nat.sub_self] at a
    rw [h.1, List.getElem?_append_right (Nat.le_refl _), Nat.sub_self] at b
    cases a; cases b; exact hp
theorem tups.take {H : Hp} {ps : List Addr} {L : List (List Int)} (h : tups H ps L) (k : Nat) : tups H (ps.take k) (L.take k) := by
  refine ⟨by rw [List.length_take, List.length_take, h.1], fun i p m a b => ?_⟩
  have c : i < k := by have := (List.getElem?_eq_some_iff.mp a).1; rw [List.length_take] at this; omega
  rw [List.getElem?_take_of_lt c] at a b
  exact h.2 i p m a b
def sm (ns : List Int) : Prop := ∀ n ∈ ns, 0 ≤ n /\ n ≤ 1000000
theorem sm_sd {ns : List Int} (h : sm ns) : sdOk ns := fun n hn => by have := h n hn; omega
def joinL (ns ms : List Int) (side : Int) : List Int := ns.set side.toNat (ns.getD side.toNat 0 + ms.getD side.toNat 0)
theorem ixN_ok {n k : Nat} (h : k < n) : ixN n (k : Int) = some k := by unfold ixN; rw [if_pos (by omega)]; simp; omega
def splaid (C1 C2 : Addr) : Sp := fun vs H Q E => ∃ (a b : Addr) (ns ms : List Int), vs = [.ref a, .ref b] /\ H a = some (.tup (ns.map V.int)) /\ H b = some (.tup (ms.map V.int)) /\ sdOk ns /\ sdOk ms /\ ms.length ≤ 20 /\ (bigI ms -> ∀ H', Same H H' -> E (.ref C1) none H') /\ (¬ bigI ms -> prodI ns ≠ prodI ms -> ∀ H', Same H H' -> E (.ref C2) none H') /\ (¬ bigI ms -> prodI ns = prodI ms -> ∀ H', Same H H' -> Q (.ref b) H')
def spcnt (C1 C2 : Addr) : Sp := fun vs H Q E => ∃ (a : Addr) (ns : List Int) (side : Int), vs = [.ref a, .int side] /\ H a = some (.tup (ns.map V.int)) /\ sdOk ns /\ ns.length ≤ 20 /\ (bigI ns -> ∀ H', Same H H' -> E (.ref C1) none H') /\ (¬ bigI ns -> off ns side -> ∀ H', Same H H' -> E (.ref C2) none H') /\ (¬ bigI ns -> ¬ off ns side -> ∀ H', Same H H' -> Q (.ref a) H')
def spjoin (C1 C2 C3 : Addr) : Sp := fun vs H Q E => ∃ (a b : Addr) (ns ms : List Int) (side : Int), vs = [.ref a, .ref b, .int side] /\ H a = some (.tup (ns.map V.int)) /\ H b = some (.tup (ms.map V.int)) /\ sm ns /\ sm ms /\ ns.length ≤ 20 /\ (ns.length ≠ ms.length -> E (.ref C1) none H) /\ (ns.length = ms.length -> off ns side -> E (.ref C2) none H) /\ (ns.length = ms.length -> ¬ off ns side -> ns.eraseIdx side.toNat ≠ ms.eraseIdx side.toNat -> ∀ H', Same H H' -> E (.ref C1) none H') /\ (ns.length = ms.length -> ¬ off ns side -> ns.eraseIdx side.toNat = ms.eraseIdx side.toNat -> bigI (joinL ns ms side) -> ∀ H', Same H H' -> E (.ref C3) none H') /\ (ns.length = ms.length -> ¬ off ns side -> ns.eraseIdx side.toNat = ms.eraseIdx side.toNat -> ¬ bigI (joinL ns ms side) -> ∀ H' p, Same H H' -> H' p = some (.tup ((joinL ns ms side).map V.int)) -> Q (.ref p) H')
theorem getD_mem {ns : List Int} {k : Nat} (h : k < ns.length) : ns.getD k 0 ∈ ns := by rw [List.getD_eq_getElem?_getD, List.getElem?_eq_getElem h]; exact List.getElem_mem h
theorem z2i (ns : List Int) (k : Nat) : cutV (ns.map V.int) (some (k : Int)) none = (ns.drop k).map V.int := by
  unfold cutV; simp only [HT.sIx, z0s]; rw [if_neg (by omega), List.take_of_length_le (by simp), ← List.map_drop]; congr 1
  by_cases c : k ≤ ns.length
  · congr 1; omega
  · rw [List.drop_eq_nil_of_le (by omega), List.drop_eq_nil_of_le (by omega)]
theorem prod_two (a : List Int) : ∀ b : List Int, prodI (a ++ b) = prodI a * prodI b := by
  induction a with
  | nil => intro b; show prodI b = 1 * prodI b; rw [Int.one_mul]
  | cons x a ih => intro b; rw [List.cons_append, z1g, z1g, ih, Int.mul_assoc]
theorem prod_pos {ns : List Int} (h : ∀ n ∈ ns, 0 < n) : 0 < prodI ns := by
  induction ns with
  | nil => decide
  | cons x xs ih => rw [z1g]; exact Int.mul_pos (h x (List.mem_cons_self ..)) (ih fun n hn => h n (List.mem_cons_of_mem _ hn))
def RwI (H : Hp) (a : Addr) (ns : List Int) : Prop := H a = some (.lst (ns.map V.int)) \/ H a = some (.tup (ns.map V.int))
theorem RwI.same {H H' : Hp} {a : Addr} {ns : List Int} (h : RwI H a ns) (s : Same H H') : RwI H' a ns := h.imp (s _ _) (s _ _)
def TbAt (H : Hp) (t : Addr) (ns cs : List Int) : Prop := ∃ a c, H t = some (.tup [.ref a, .ref c]) /\ H a = some (.tup (ns.map V.int)) /\ H c = some (.tup (cs.map V.int))
theorem TbAt.same {H H' : Hp} {t : Addr} {ns cs : List Int} (h : TbAt H t ns cs) (s : Same H H') : TbAt H' t ns cs := let ⟨a, c, h1, h2, h3⟩ := h; ⟨a, c, s _ _ h1, s _ _ h2, s _ _ h3⟩
def TpsAt (H : Hp) (ps : List Addr) (L : List (List Int)) : Prop := ps.length = L.length /\ ∀ (i : Nat) t, L[i]? = some t -> ∃ p, ps[i]? = some p /\ H p = some (.tup (t.map V.int))
theorem TpsAt.mono {H H' : Hp} {ps : List Addr} {L : List (List Int)} (h : TpsAt H ps L) (s : ∀ a xs, H a = some (.tup xs) -> H' a = some (.tup xs)) : TpsAt H' ps L := ⟨h.1, fun i t e => let ⟨p, e1, g⟩ := h.2 i t e; ⟨p, e1, s _ _ g⟩⟩
theorem TpsAt.snoc {H : Hp} {ps : List Addr} {L : List (List Int)} {t : List Int} {q : Addr} (h : TpsAt H ps L) (g : H q = some (.tup (t.map V.int))) : TpsAt H (ps ++ [q]) (L ++ [t]) := by
  refine ⟨by simp [h.1], fun i u e => ?_⟩
  rcases Nat.lt_trichotomy i L.length with hi | hi | hi
  · rw [List.getElem?_append_left hi] at e
    obtain ⟨p, e1, l⟩ := h.2 i u e
    exact ⟨p, by rw [List.getElem?_append_left (by rw [h.1]; exact hi)]; exact e1, l⟩
  · subst hi
    rw [List.getElem?_append_right (Nat.le_refl _), Nat.sub_self] at e
    cases (Option.some.inj e)
    exact ⟨q, by rw [List.getElem?_append_right (by rw [h.1]; exact Nat.le_refl _), h.1, Nat.sub_self]; rfl, g⟩
  · rw [List.getElem?_eq_none (by simp; omega)] at e; cases e
theorem at_int {r : List Int} {i x : Int} (i0 : 0 ≤ i) (h : r[i.toNat]? = some x) : atI (r.map V.int) i = some (.int x) := by
  have z := z0p (xs := r.map V.int) (j := i.toNat) (v := .int x) (by rw [List.getElem?_map, h]; rfl)
  rwa [show ((i.toNat : Nat) : Int) = i by omega] at z
def numI (n : Int) : Int := if n % 17 = 5 then [(-9223372036854775808 : Int), 9223372036854775807, -1, 4611686018427387904].getD (n / 17 % 4).toNat 0 else (n + 9223372036854775808) % 18446744073709551616 - 9223372036854775808
def SameP (T : Addr) (H H' : Hp) : Prop := ∀ a o, a ≠ T -> H a = some o -> H' a = some o
theorem z2t : ∀ {ns : List Int}, (∀ n ∈ ns, 0 ≤ n) -> 0 ≤ prodI ns /\ prodI ns ≤ prodI (ns.map one1)
  | [], _ => by decide
  | n :: ns, h => by
    obtain ⟨i0, i1⟩ := z2t (ns := ns) fun m hm => h m (List.mem_cons_of_mem _ hm)
    have n0 := h n List.mem_cons_self
    rw [List.map_cons, z1g, z1g]
    have o : n ≤ one1 n /\ 0 ≤ one1 n := by unfold one1; split <;> omega
    exact ⟨Int.mul_nonneg n0 i0, Int.mul_le_mul o.1 i1 i0 o.2⟩
theorem fc {α : Type} {p : α -> Prop} {a : α} {l : List α} (h : p a) (t : ∀ n ∈ l, p n) : ∀ n ∈ a :: l, p n := fun n hn => by
  cases hn with
  | head => exact h
  | tail _ g => exact t n g
def SmT (H H' : Hp) : Prop := ∀ a o, (∀ ps, o ≠ .tbl ps) -> H a = some o -> H' a = some o
theorem SmT.refl (H : Hp) : SmT H H := fun _ _ _ e => e
theorem SmT.trans {H H1 H2 : Hp} (h : SmT H H1) (g : SmT H1 H2) : SmT H H2 := fun a o n e => g a o n (h a o n e)
theorem SmT.of {H H' : Hp} (h : Same H H') : SmT H H' := fun a o _ e => h a o e
theorem SmT.tup {H H' : Hp} (h : SmT H H') {a : Addr} {xs : List V} (e : H a = some (.tup xs)) : H' a = some (.tup xs) := h a _ (fun _ z => by cases z) e
theorem SmT.lst {H H' : Hp} (h : SmT H H') {a : Addr} {xs : List V} (e : H a = some (.lst xs)) : H' a = some (.lst xs) := h a _ (fun _ z => by cases z) e
theorem SmT.seq {K : PySem.W.Frag} {H H' : Hp} {a : Addr} {xs : List V} (e : SmT H H') (h : SqL K H a xs) : SqL K H' a xs := by
  rcases h with (h | ⟨o, h⟩) | h
  · exact .inl (.inl (e.lst h))
  · exact .inl (.inr ⟨o, e _ _ (fun _ z => by cases z) h⟩)
  · exact .inr h
theorem SmT.tb {H H' : Hp} (h : SmT H H') {t : Addr} {ns cs : List Int} (e : TbAt H t ns cs) : TbAt H' t ns cs := let ⟨a, c, h1, h2, h3⟩ := e; ⟨a, c, h.tup h1, h.tup h2, h.tup h3⟩
theorem SmT.ofP {H H' : Hp} {T : Addr} {pos : Pos} {qual : Str} (t : TabOk H T pos qual) (h : SameP T H H') : SmT H H' := fun a o n e => h a o (fun z => by
  obtain ⟨ps, h1, _⟩ := t
  rw [z, h1] at e
  exact n ps (Option.some.inj e).symm) e
theorem TabOk.other {H H' : Hp} {T T2 : Addr} {pos pos2 : Pos} {qual qual2 : Str} (ne : T2 ≠ T) (t : TabOk H T pos qual) (t2 : TabOk H T2 pos2 qual2) (h : SameP T H H') : TabOk H' T2 pos2 qual2 := by
  obtain ⟨ps, h1, h2, h3⟩ := t2
  refine ⟨ps, h _ _ ne h1, h2, h3.imp id fun ⟨c', e, g⟩ => ⟨c', e, (SmT.ofP t h) _ _ (fun _ z => by cases z) g⟩⟩
theorem take_le {ns : List Int} (h : ∀ n ∈ ns, 0 ≤ n) (i : Nat) : prodI (ns.take i) ≤ prodI (ns.map one1) := by
  have a := z2t (ns := ns.take i) fun n hn => h n (List.mem_of_mem_take hn)
  have e : ns.map one1 = (ns.take i).map one1 ++ (ns.drop i).map one1 := by rw [← List.map_append, List.take_append_drop]
  have b : 1 ≤ prodI ((ns.drop i).map one1) := by
    have := prod_pos (ns := (ns.drop i).map one1) fun n hn => by
      obtain ⟨m, hm, rfl⟩ := List.mem_map.mp hn
      have := h m (List.mem_of_mem_drop hm)
      unfold one1; split <;> omega
    omega
  rw [e, prod_two]
  have := Int.mul_le_mul_of_nonneg_left b (show 0 ≤ prodI ((ns.take i).map one1) by omega)
  omega
theorem get_some {ns : List Int} {k : Nat} (hk : k < ns.length) : ns[k]? = some (ns.getD k 0) := by rw [List.getD_eq_getElem?_getD, List.getElem?_eq_getElem hk]; rfl
def wrapI (n : Int) : Int := (n + 9223372036854775808) % 18446744073709551616 - 9223372036854775808
def quoI (x y : Int) : Int := if y = 0 then 0 else wrapI (Int.fdiv x y)
def restI (x y : Int) : Int := if y = 0 then x else Int.fmod x y
def twiceI (w : Str) (x y : Int) : Int :=
  if w = "add" then wrapI (x + y) else if w = "sub" then wrapI (x - y) else if w = "mul" then wrapI (x * y) else if w = "quo" then quoI x y else if w = "rest" then restI x y
  else if w = "max" then (if x < y then y else x) else if w = "min" then (if y < x then y else x) else if w = "less" then (if x < y then 1 else 0) else if w = "like" then (if x = y then 1 else 0)
  else if w = "and" then Builtin.bitAnd x y else if w = "or" then Builtin.bitOr x y else Builtin.bitXor x y
def inB (x : Int) : Prop := -9223372036854775808 ≤ x /\ x < 9223372036854775808
def absI (x : Int) : Int := if x < 0 then -x else x
def onceI (w : Str) (x : Int) : Int := if w = "neg" then wrapI (-x) else if w = "abs" then wrapI (absI x) else if w = "sign" then (if x < 0 then -1 else if 0 < x then 1 else 0) else if x = 0 then 1 else 0
def one4 : List Str := ["neg", "abs", "sign", "not"]
def two12 : List Str := ["add", "sub", "mul", "quo", "rest", "max", "min", "less", "like", "and", "or", "xor"]
def sponceX (C : Addr) : Sp := fun vs H Q E => ∃ (w : Str) (x : Int), vs = [.str w, .int x] /\ okS 1000 w /\ (w ∈ one4 -> Q (.int (onceI w x)) H) /\ (¬ w ∈ one4 -> E (.ref C) none H)
def sptwiceX (C : Addr) : Sp := fun vs H Q E => ∃ (w : Str) (x y : Int), vs = [.str w, .int x, .int y] /\ okS 1000 w /\ inB x /\ inB y /\ (w ∈ two12 -> Q (.int (twiceI w x y)) H) /\ (¬ w ∈ two12 -> E (.ref C) none H)
def OkT (ns cs : List Int) : Prop := sdOk ns /\ ¬ bigI ns /\ (cs.length : Int) = prodI ns /\ ∀ c ∈ cs, inB c
theorem big_l {ns : List Int} (h : ¬ bigI ns) : ns.length ≤ 6 := by unfold bigI at h; omega
theorem big_t {ns : List Int} (hs : sdOk ns) (h : ¬ bigI ns) (i : Nat) : prodI (ns.take i) ≤ 512 := Int.le_trans (take_le (fun n hn => (hs n hn).1) i) (by unfold bigI at h; omega)
theorem big_p {ns : List Int} (hs : sdOk ns) (h : ¬ bigI ns) : prodI ns ≤ 512 := by have := big_t hs h ns.length; rwa [List.take_length] at this
def Tabs3 (H : Hp) (l : Addr) (n0 c0 n1 c1 n2 c2 : List Int) : Prop := ∃ a b c, H l = some (.lst [.ref a, .ref b, .ref c]) /\ TbAt H a n0 c0 /\ TbAt H b n1 c1 /\ TbAt H c n2 c2
theorem Tabs3.up {H H' : Hp} {l : Addr} {n0 c0 n1 c1 n2 c2 : List Int} (h : Tabs3 H l n0 c0 n1 c1 n2 c2) (s : SmT H H') : Tabs3 H' l n0 c0 n1 c1 n2 c2 := let ⟨a, b, c, h1, h2, h3, h4⟩ := h; ⟨a, b, c, s.lst h1, s.tb h2, s.tb h3, s.tb h4⟩
theorem z2n {H H' : Hp} (s : Same H H') {l : Addr} {o : HO} (h : H l = none) : Same H (upd H' l o) := fun a x e => by
  have ne : a ≠ l := fun z => by rw [z, h] at e; cases e
  rw [z1c ne]; exact s _ _ e
theorem same_none {H H' : Hp} (s : Same H H') {l : Addr} (h : H' l = none) : H l = none := by
  cases e : H l with
  | none => rfl
  | some o => rw [s _ _ e] at h; cases h
theorem OkT.l {ns cs : List Int} (o : OkT ns cs) : ns.length ≤ 20 := Nat.le_trans (big_l o.2.1) (by decide)
theorem OkT.p {ns cs : List Int} (o : OkT ns cs) : prodI ns ≤ 512 := big_p o.1 o.2.1
theorem OkT.c {ns cs : List Int} (o : OkT ns cs) : cs.length ≤ 900 := by have := o.p; have := o.2.2.1; omega
def TbL (G : Hp) (ys : List V) : Prop := ∀ y ∈ ys, ∃ p ns cs, y = .ref p /\ TbAt G p ns cs /\ OkT ns cs
theorem TbL.up {G G' : Hp} {ys : List V} (h : TbL G ys) (s : Same G G') : TbL G' ys := fun y hy => let ⟨p, ns, cs, e, t, o⟩ := h y hy; ⟨p, ns, cs, e, t.same s, o⟩
theorem TbL.snoc {G : Hp} {ys : List V} {p : Addr} {ns cs : List Int} (h : TbL G ys) (t : TbAt G p ns cs) (o : OkT ns cs) : TbL G (ys ++ [.ref p]) := fun y hy => (List.mem_append.mp hy).elim (h y) (fun z => ⟨p, ns, cs, List.mem_singleton.mp z, t, o⟩)
abbrev fw : List Str := ["add", "mul", "max", "min", "and", "or", "xor"]
def isF (w : Str) : Prop := w ∈ fw
def neuI (w : Str) : Int := if w = "mul" then 1 else if w = "max" then -9223372036854775808 else if w = "min" then 9223372036854775807 else if w = "and" then -1 else 0
theorem ne_add : neuI "add" = 0 := by unfold neuI; rw [if_neg (by decide +kernel), if_neg (by decide +kernel), if_neg (by decide +kernel), if_neg (by decide +kernel)]
theorem ne_mul : neuI "mul" = 1 := by unfold neuI; rw [if_pos rfl]
theorem ne_max : neuI "max" = -9223372036854775808 := by unfold neuI; rw [if_neg (by decide +kernel), if_pos rfl]
theorem ne_min : neuI "min" = 9223372036854775807 := by unfold neuI; rw [if_neg (by decide +kernel), if_neg (by decide +kernel), if_pos rfl]
theorem ne_and : neuI "and" = -1 := by unfold neuI; rw [if_neg (by decide +kernel), if_neg (by decide +kernel), if_neg (by decide +kernel), if_pos rfl]
theorem ne_or : neuI "or" = 0 := by unfold neuI; rw [if_neg (by decide +kernel), if_neg (by decide +kernel), if_neg (by decide +kernel), if_neg (by decide +kernel)]
theorem ne_xor : neuI "xor" = 0 := by unfold neuI; rw [if_neg (by decide +kernel), if_neg (by decide +kernel), if_neg (by decide +kernel), if_neg (by decide +kernel)]
def spneutral (C : Addr) : Sp := fun vs H Q E => ∃ (w : Str), vs = [.str w] /\ okS 1000 w /\ (isF w -> ∀ H', Same H H' -> Q (.int (neuI w)) H') /\ (¬ isF w -> ∀ H', Same H H' -> E (.ref C) none H')
def kinds : List Str := ["in", "num", "count", "each", "pair", "pick", "turn", "flip", "cut", "spread", "lay", "join", "fetch", "fold", "run"]
def kindS (i : Nat) : Str := kinds.getD i ""
def placesF (fs : List (Str × Int)) : List Int := fs.filterMap fun f => if f.1 = ("step" : Str) then some f.2 else none
def argsP (i : Nat) : List Int := placesF ((formsL.getD i ("", [])).2)
theorem forms_at {i : Nat} (h : i < 15) : formsL.lookup (kindS i) = some ((formsL.getD i ("", [])).2) := by
  have z : ∀ j : Fin 15, formsL.lookup (kindS j.val) = some ((formsL.getD j.val ("", [])).2) := by decide +kernel
  exact z ⟨i, h⟩
theorem forms_len {i : Nat} : ((formsL.getD i ("", [])).2).length ≤ 5 := by
  by_cases h : i < 15
  · have z : ∀ j : Fin 15, ((formsL.getD j.val ("", [])).2).length ≤ 5 := by decide +kernel
    exact z ⟨i, h⟩
  · rw [List.getD_eq_getElem?_getD, List.getElem?_eq_none (by simp [formsL]; omega)]; decide
theorem places_len (fs : List (Str × Int)) : (placesF fs).length ≤ fs.length := List.length_filterMap_le ..
theorem places_snoc {fs : List (Str × Int)} {i : Nat} {f : Str × Int} (h : fs[i]? = some f) : placesF (fs.take (i + 1)) = placesF (fs.take i) ++ (if f.1 = ("step" : Str) then [f.2] else []) := by
  unfold placesF
  rw [List.take_add_one, h, List.filterMap_append]
  congr 1
  show List.filterMap _ [f] = _
  split <;> simp [*]
def getAll (xs : List V) (ps : List Int) : List V := ps.map fun p => (atI xs p).getD .non
theorem args_few (i : Nat) : (argsP i).length ≤ 5 := Nat.le_trans (places_len _) forms_len
theorem at_some {xs : List V} {m : Int} (h0 : 0 ≤ m) (h1 : m < xs.length) : ∃ v, atI xs m = some v := by
  have z := z0p (xs := xs) (j := m.toNat) (List.getElem?_eq_getElem (by omega))
  exact ⟨_, by rwa [show ((m.toNat : Nat) : Int) = m by omega] at z⟩
theorem args_at : ∀ i : Fin 15, argsP i.val = [[], [], [], [2], [2, 3], [1, 2, 3], [1], [1], [1], [1], [1], [1, 2], [1, 2], [2], [2]].getD i.val [] := by decide +kernel
theorem args_is {i : Nat} (h : i < 15) : argsP i = [[], [], [], [2], [2, 3], [1, 2, 3], [1], [1], [1], [1], [1], [1, 2], [1, 2], [2], [2]].getD i [] := args_at ⟨i, h⟩
def AlAt (H : Hp) : Nat -> V -> V -> Prop
  | 0, _, _ => False
  | d + 1, x, y => (∃ n, x = .int n /\ y = .int n) \/ (∃ s, x = .str s /\ y = .str s) \/ ∃ a b xs ys, x = .ref a /\ y = .ref b /\ H a = some (.tup xs) /\ H b = some (.tup ys) /\ xs.length = ys.length /\ xs.length ≤ 1000 /\ ∀ (i : Nat) x y, xs[i]? = some x -> ys[i]? = some y -> AlAt H d x y
def AlL (H : Hp) (d : Nat) : List V -> List V -> Prop
  | [], [] => True
  | x :: xs, y :: ys => AlAt H d x y /\ AlL H d xs ys
  | _, _ => False
theorem AlL.get {H : Hp} {d : Nat} : ∀ {xs ys : List V}, AlL H d xs ys -> xs.length = ys.length /\ ∀ (i : Nat) x y, xs[i]? = some x -> ys[i]? = some y -> AlAt H d x y
  | [], [], _ => ⟨rfl, fun i x y e => by simp at e⟩
  | [], _ :: _, h => h.elim
  | _ :: _, [], h => h.elim
  | x :: xs, y :: ys, h => ⟨by simp [h.2.get.1], fun i x' y' e1 e2 => by
    cases i with
    | zero => cases e1; cases e2; exact h.1
    | succ i => exact h.2.get.2 i x' y' e1 e2⟩
theorem AlAt.tup {H : Hp} {d : Nat} {a b : Addr} {xs ys : List V} (ha : H a = some (.tup xs)) (hb : H b = some (.tup ys)) (l : xs.length ≤ 1000) (h : AlL H d xs ys) : AlAt H (d + 1) (.ref a) (.ref b)   := Or.inr (.inr ⟨a, b, xs, ys, rfl, rfl, ha, hb, h.get.1, l, h.get.2⟩)
theorem AlAt.same {H H' : Hp} (s : Same H H') : ∀ {d : Nat} {x y : V}, AlAt H d x y -> AlAt H' d x y
  | 0, _, _, h => h.elim
  | d + 1, _, _, .inl h => Or.inl h
  | d + 1, _, _, .inr (.inl h) => Or.inr (.inl h)
  | d + 1, _, _, .inr (.inr ⟨a, b, xs, ys, e1, e2, h1, h2, l1, l2, h⟩) => Or.inr (.inr ⟨a, b, xs, ys, e1, e2, s _ _ h1, s _ _ h2, l1, l2, fun i x y g1 g2 => (h i x y g1 g2).same s⟩)
def turnOk (n : Nat) (os : List Int) : Prop := os.Perm (upL n)
theorem up_mem {n : Nat} {x : Int} : x ∈ upL n ↔ 0 ≤ x /\ x < n := by
  unfold upL
  constructor
  · intro h; obtain ⟨i, hi, rfl⟩ := List.mem_map.mp h; have := List.mem_range.mp hi; omega
  · intro h; exact List.mem_map.mpr ⟨x.toNat, List.mem_range.mpr (by omega), by omega⟩
theorem up_len (n : Nat) : (upL n).length = n := by simp [upL]
theorem up_pw (n : Nat) : (upL n).Pairwise (· ≤ ·) := by
  unfold upL
  rw [List.pairwise_map]
  exact List.Pairwise.imp (fun h => by omega) (List.pairwise_lt_range (n := n))
theorem sorted_eq : ∀ {l1 l2 : List Int}, l1.Perm l2 -> l1.Pairwise (· ≤ ·) -> l2.Pairwise (· ≤ ·) -> l1 = l2
  | [], l2, p, _, _ => (List.nil_perm.mp p).symm
  | a :: l1, l2, p, h1, h2 => by
    cases l2 with
    | nil => exact List.perm_nil.mp p
    | cons b l2 =>
      obtain ⟨a1, a2⟩ := List.pairwise_cons.mp h1
      obtain ⟨b1, b2⟩ := List.pairwise_cons.mp h2
      have ab : a ≤ b := by
        rcases List.mem_cons.mp (p.symm.subset (List.mem_cons_self ..)) with e | e
        · omega
        · exact a1 b e
      have ba : b ≤ a := by
        rcases List.mem_cons.mp (p.subset (List.mem_cons_self ..)) with e | e
        · omega
        · exact b1 a e
      have e : a = b := by omega
      subst e
      rw [sorted_eq (List.perm_cons a |>.mp p) a2 b2]
theorem turn_sorted {n : Nat} {os ss : List Int} (p : ss.Perm os) (s : ss.Pairwise (· ≤ ·)) : ss = upL n ↔ turnOk n os :=
  ⟨fun e => p.symm.trans (by rw [e]), fun t => sorted_eq (p.trans t) s (up_pw n)⟩
def turnL (ns os : List Int) : List Int := os.map fun k => ns.getD k.toNat 0
theorem at_in {ns : List Int} {o : Int} (h0 : 0 ≤ o) (h1 : o < ns.length) : atI (ns.map V.int) o = some (.int (ns.getD o.toNat 0)) := by
  have z := atI_ok (ns := ns) (k := o.toNat) (by omega)
  rwa [show ((o.toNat : Nat) : Int) = o by omega] at z
def insL (ns : List Int) (k : Nat) (m : Int) : List Int := ns.take k ++ [m] ++ ns.drop k
def off1 (ns : List Int) (side : Int) : Prop := side < 0 \/ (ns.length : Int) < side
theorem ins_len (ns : List Int) (k : Nat) (m : Int) : (insL ns k m).length = ns.length + 1 := by
  unfold insL; simp only [List.length_append, List.length_take, List.length_drop, List.length_cons, List.length_nil]; omega
def VwAt (H : Hp) (v : Addr) (ns : List Int) (st : Int) (ss : List Int) : Prop := ∃ sa ta, H v = some (.tup [.ref sa, .int st, .ref ta]) /\ H sa = some (.tup (ns.map V.int)) /\ H ta = some (.tup (ss.map V.int))
theorem VwAt.same {H H' : Hp} {v : Addr} {ns : List Int} {st : Int} {ss : List Int} (h : VwAt H v ns st ss) (s : Same H H') : VwAt H' v ns st ss := let ⟨sa, ta, a, b, c⟩ := h; ⟨sa, ta, s _ _ a, s _ _ b, s _ _ c⟩
theorem ins_ok {ns : List Int} {k : Nat} {m : Int} (h : sdOk ns) (h0 : 0 ≤ m) (h1 : m < 1000000) : sdOk (insL ns k m) := fun n hn => by
  unfold insL at hn
  rcases List.mem_append.mp hn with hn | hn
  · rcases List.mem_append.mp hn with hn | hn
    · exact h n (List.mem_of_mem_take hn)
    · cases List.mem_singleton.mp hn; omega
  · exact h n (List.mem_of_mem_drop hn)
def spspr (C1 C2 C3 : Addr) : Sp := fun vs H Q E => ∃ (a : Addr) (ns : List Int) (side many : Int), vs = [.ref a, .int side, .int many] /\ H a = some (.tup (ns.map V.int)) /\ sdOk ns /\ ns.length ≤ 20 /\ many < 1000000 /\ (off1 ns side -> E (.ref C1) none H) /\ (¬ off1 ns side -> many < 0 -> E (.ref C2) none H) /\ (¬ off1 ns side -> ¬ many < 0 -> bigI (insL ns side.toNat many) -> ∀ H', Same H H' -> E (.ref C3) none H') /\ (¬ off1 ns side -> ¬ many < 0 -> ¬ bigI (insL ns side.toNat many) -> ∀ H' p, Same H H' -> H' p = some (.tup ((insL ns side.toNat many).map V.int)) -> Q (.ref p) H')
def spturnP (C : Addr) : Sp := fun vs H Q E => ∃ (a b : Addr) (ns os : List Int), vs = [.ref a, .ref b] /\ H a = some (.tup (ns.map V.int)) /\ H b = some (.tup (os.map V.int)) /\ ns.length ≤ 20 /\ os.length ≤ 20 /\ (¬ turnOk ns.length os -> ∀ H', Same H H' -> E (.ref C) none H') /\ (turnOk ns.length os -> ∀ H' p, Same H H' -> H' p = some (.tup ((turnL ns os).map V.int)) -> Q (.ref p) H')
def smI (n : Int) : Prop := -18446744073709551616 < n /\ n < 18446744073709551616
theorem at_side {ss : List Int} {k : Nat} (h : k < ss.length) : atI (ss.map V.int) (k : Int) = some (.int (ss.getD k 0)) := at_int (Int.natCast_nonneg k) (by rw [Int.toNat_natCast]; exact get_some h)
theorem z3e {ns : List Int} {k : Nat} (h : k < ns.length) : ns.getD k 0 ∈ ns := by rw [List.getD_eq_getElem?_getD, List.getElem?_eq_getElem h]; exact List.getElem_mem h
theorem z2o {n : Int} (h : 0 ≤ n) : 1 ≤ one1 n := by unfold one1; split <;> omega
theorem one1_max {n : Int} (h : 0 ≤ n) : (if n > 1 then n else 1) = one1 n := by unfold one1; split <;> split <;> omega
theorem z3r {ns : List Int} (h : ∀ n ∈ ns, 0 ≤ n) : 1 ≤ prodI (ns.map one1) := by
  induction ns with
  | nil => decide
  | cons n ns ih =>
    rw [List.map_cons, z1g]
    have a := z2o (h n List.mem_cons_self)
    have b := ih fun m hm => h m (List.mem_cons_of_mem _ hm)
    exact Int.le_trans (by decide) (Int.mul_le_mul a b (by decide) (by omega))
inductive Dg where
  | turn (os : List Int)
  | flip (side : Int)
  | cut (side f m g : Int)
  | spread (side m : Int)
  | lead (ms : List Int)
  | inner (side : Int)
def DgAt (H : Hp) (p : Addr) : Dg -> Prop
  | .turn os => ∃ b, H p = some (.tup [.str (Str.ofString "turn"), .ref b]) /\ H b = some (.tup (os.map V.int)) /\ os.length ≤ 7
  | .flip side => H p = some (.tup [.str (Str.ofString "flip"), .int side])
  | .cut side f m g => H p = some (.tup [.str (Str.ofString "cut"), .int side, .int f, .int m, .int g]) /\ smI f /\ smI g /\ -100 < m /\ m < 100000
  | .spread side m => H p = some (.tup [.str (Str.ofString "spread"), .int side, .int m]) /\ -100 < m /\ m < 1000000
  | .lead ms => ∃ b, H p = some (.tup [.str (Str.ofString "lead"), .ref b]) /\ H b = some (.tup (ms.map V.int)) /\ ms.length ≤ 10
  | .inner side => H p = some (.tup [.str (Str.ofString "inner"), .int side])
theorem DgAt.same {H H' : Hp} {p : Addr} (s : Same H H') : ∀ {d : Dg}, DgAt H p d -> DgAt H' p d
  | .turn _, ⟨b, h1, h2, h3⟩ => ⟨b, s _ _ h1, s _ _ h2, h3⟩
  | .flip _, h => s _ _ h
  | .cut .., ⟨h, r⟩ => ⟨s _ _ h, r⟩
  | .spread .., ⟨h, r⟩ => ⟨s _ _ h, r⟩
  | .lead _, ⟨b, h1, h2, h3⟩ => ⟨b, s _ _ h1, s _ _ h2, h3⟩
  | .inner _, h => s _ _ h
theorem div_one {r d : Int} (h1 : 1 ≤ d) (h2 : d ≤ r) : 1 ≤ r / d := by
  have := Int.ediv_le_ediv (a := d) (b := r) (c := d) (by omega) h2
  rw [Int.ediv_self (by omega)] at this
  exact this
theorem set_mid {ss : List Int} {k : Nat} {x : Int} (kl : k < ss.length) : ss.take k ++ [x] ++ ss.drop (k + 1) = ss.set k x := by
  rw [List.set_eq_take_append_cons_drop, if_pos kl, List.append_assoc]; rfl
theorem fit_sdk {ns : List Int} (h : fit ns) : sdOk ns := fun n hn => by have := h.1 n hn; exact ⟨this.1, by omega⟩
theorem z3w {ns : List Int} (h : fit ns) : ¬ bigI ns := fun b => b.elim (fun z => by have := h.2.1; omega) (fun z => by have := h.2.2.2; omega)
theorem to_lt {a : Int} {n : Nat} (h0 : 0 ≤ a) (h : a < (n : Int)) : a.toNat < n := by omega
theorem list_of {cs : List Int} {n : Nat} (h : cs.length = n) : (List.range n).map (fun i => cs.getD i 0) = cs := by
  subst h
  apply List.ext_getElem?
  intro k
  by_cases c : k < cs.length
  · rw [List.getElem?_map, List.getElem?_range c]
    exact (get_some c).symm
  · rw [List.getElem?_eq_none (by simp; omega), List.getElem?_eq_none (by omega)]
theorem z3q {a b : List Int} (h : a.Perm b) : prodI a = prodI b := by
  induction h with
  | nil => rfl
  | cons x _ ih => rw [z1g, z1g, ih]
  | swap x y l => rw [z1g, z1g, z1g, z1g, ← Int.mul_assoc, ← Int.mul_assoc, Int.mul_comm x y]
  | trans _ _ h1 h2 => rw [h1, h2]
theorem turn_perm {ns os : List Int} (t : turnOk ns.length os) : (turnL ns os).Perm ns := by
  have e : (upL ns.length).map (fun k : Int => ns.getD k.toNat 0) = ns := by
    unfold upL; rw [List.map_map]; exact list_of rfl
  have := t.map (fun k : Int => ns.getD k.toNat 0)
  rw [e] at this; exact this
inductive Stp where
  | inp (ms : List Int)
  | num (n : Int)
  | count (ms : List Int) (k : Int)
  | each (w : Str) (a : Nat)
  | pair (w : Str) (a b : Nat)
  | pick (a b c : Nat)
  | turn (a : Nat) (os : List Int)
  | flip (a : Nat) (side : Int)
  | cut (a : Nat) (side f m g : Int)
  | spread (a : Nat) (side m : Int)
  | lay (a : Nat) (ms : List Int)
  | join (a b : Nat) (side : Int)
  | fetch (a b : Nat)
  | fold (w : Str) (a : Nat) (side : Int)
  | run (w : Str) (a : Nat) (side : Int)
def Tp (H : Hp) (a : Addr) (ns : List Int) : Prop := H a = some (.tup (ns.map V.int))
def StpAt (H : Hp) (p : Addr) : Stp -> Prop
  | .inp ms => ∃ b, H p = some (.tup [.str (Str.ofString "in"), .ref b]) /\ Tp H b ms
  | .num n => H p = some (.tup [.str (Str.ofString "num"), .int n])
  | .count ms k => ∃ b, H p = some (.tup [.str (Str.ofString "count"), .ref b, .int k]) /\ Tp H b ms
  | .each w a => H p = some (.tup [.str (Str.ofString "each"), .str w, .int a])
  | .pair w a b => H p = some (.tup [.str (Str.ofString "pair"), .str w, .int a, .int b])
  | .pick a b c => H p = some (.tup [.str (Str.ofString "pick"), .int a, .int b, .int c])
  | .turn a os => ∃ b, H p = some (.tup [.str (Str.ofString "turn"), .int a, .ref b]) /\ Tp H b os
  | .flip a side => H p = some (.tup [.str (Str.ofString "flip"), .int a, .int side])
  | .cut a side f m g => H p = some (.tup [.str (Str.ofString "cut"), .int a, .int side, .int f, .int m, .int g])
  | .spread a side m => H p = some (.tup [.str (Str.ofString "spread"), .int a, .int side, .int m])
  | .lay a ms => ∃ b, H p = some (.tup [.str (Str.ofString "lay"), .int a, .ref b]) /\ Tp H b ms
  | .join a b side => H p = some (.tup [.str (Str.ofString "join"), .int a, .int b, .int side])
  | .fetch a b => H p = some (.tup [.str (Str.ofString "fetch"), .int a, .int b])
  | .fold w a side => H p = some (.tup [.str (Str.ofString "fold"), .str w, .int a, .int side])
  | .run w a side => H p = some (.tup [.str (Str.ofString "run"), .str w, .int a, .int side])
theorem StpAt.same {H H' : Hp} {p : Addr} (s : Same H H') : ∀ {d : Stp}, StpAt H p d -> StpAt H' p d
  | .inp _, ⟨b, h1, h2⟩ => ⟨b, s _ _ h1, s _ _ h2⟩
  | .num _, h => s _ _ h
  | .count .., ⟨b, h1, h2⟩ => ⟨b, s _ _ h1, s _ _ h2⟩
  | .each .., h => s _ _ h
  | .pair .., h => s _ _ h
  | .pick .., h => s _ _ h
  | .turn .., ⟨b, h1, h2⟩ => ⟨b, s _ _ h1, s _ _ h2⟩
  | .flip .., h => s _ _ h
  | .cut .., h => s _ _ h
  | .spread .., h => s _ _ h
  | .lay .., ⟨b, h1, h2⟩ => ⟨b, s _ _ h1, s _ _ h2⟩
  | .join .., h => s _ _ h
  | .fetch .., h => s _ _ h
  | .fold .., h => s _ _ h
  | .run .., h => s _ _ h
def fitM (mo : Int) (ns : List Int) : Prop := (∀ n ∈ ns, 0 ≤ n /\ n ≤ mo) /\ ns.length ≤ 6 /\ 1 ≤ prodI (ns.map one1) /\ prodI (ns.map one1) ≤ mo
def moOk (mo : Int) : Prop := 2 ≤ mo /\ mo ≤ 512
theorem z3i {mo : Int} {ns : List Int} (h : fitM mo ns) (m : moOk mo) : fit ns := ⟨fun n hn => by have := h.1 n hn; have := m.2; omega, h.2.1, h.2.2.1, Int.le_trans h.2.2.2 m.2⟩
theorem fitM_nil {mo : Int} (m : moOk mo) : fitM mo [] := ⟨(fun n hn => nomatch hn), by decide, by decide, by have := m.1; show (1 : Int) ≤ mo; omega⟩
theorem fitM_snoc {mo n : Int} {ns : List Int} (h : fitM mo ns) (l : ns.length < 6) (n0 : 0 ≤ n) (hn : n ≤ mo / prodI (ns.map one1)) : fitM mo (ns ++ [n]) := by
  have p := h.2.2.1
  have e : prodI ((ns ++ [n]).map one1) = prodI (ns.map one1) * one1 n := by rw [List.map_append]; exact prod_app _ _
  have o1 := z2o n0
  have d1 : 1 ≤ mo / prodI (ns.map one1) := div_one p h.2.2.2
  have le : mo / prodI (ns.map one1) ≤ mo := Int.ediv_le_self _ (by have := h.2.2.2; omega)
  have m2 : prodI (ns.map one1) * (mo / prodI (ns.map one1)) ≤ mo := Int.mul_ediv_self_le (by omega)
  generalize mo / prodI (ns.map one1) = q at *
  have o2 : one1 n ≤ q := by unfold one1; split <;> omega
  have m1 := Int.mul_le_mul_of_nonneg_left o2 (show 0 ≤ prodI (ns.map one1) by omega)
  refine ⟨fun k hk => ?_, by rw [List.length_append, List.length_singleton]; omega, ?_, ?_⟩
  · rcases List.mem_append.mp hk with z | z
    · exact h.1 k z
    · cases List.mem_singleton.mp z; omega
  · rw [e]
    exact Int.le_trans (by decide) (Int.mul_le_mul p o1 (by decide) (by omega))
  · rw [e]; omega
theorem pair_lo {ns ms : List Int} (c : ms.length < ns.length) : ns.take ms.length = ms.take ms.length ↔ pairOk ns ms := by
  unfold pairOk; rw [if_pos c, List.take_length]
theorem pair_hi {ns ms : List Int} (c : ¬ ms.length < ns.length) : ns.take ns.length = ms.take ns.length ↔ pairOk ns ms := by
  unfold pairOk; rw [if_neg c, List.take_length]; exact ⟨Eq.symm, Eq.symm⟩
def OkS (Ss : List (List Int)) (S : List Int) : Stp -> Prop
  | .inp ms => S = ms /\ ¬ bigI ms
  | .num _ => S = []
  | .count ms k => S = ms /\ ¬ bigI ms /\ ¬ off ms k
  | .each w a => Ss[a]? = some S /\ w ∈ one4
  | .pair w a b => ∃ A B, Ss[a]? = some A /\ Ss[b]? = some B /\ w ∈ two12 /\ pairOk A B /\ S = pairL A B
  | .pick a b c => ∃ A B C, Ss[a]? = some A /\ Ss[b]? = some B /\ Ss[c]? = some C /\ pairOk A B /\ pairOk (pairL A B) C /\ S = pairL (pairL A B) C
  | .turn a os => ∃ A, Ss[a]? = some A /\ turnOk A.length os /\ S = turnL A os
  | .flip a side => Ss[a]? = some S /\ ¬ off S side
  | .cut a side f m g => ∃ A, Ss[a]? = some A /\ ¬ off A side /\ ¬ bad A side f m g /\ m ≤ 512 /\ S = A.set side.toNat m
  | .spread a side m => ∃ A, Ss[a]? = some A /\ ¬ off1 A side /\ ¬ m < 0 /\ m ≤ 512 /\ ¬ bigI (insL A side.toNat m) /\ S = insL A side.toNat m
  | .lay a ms => ∃ A, Ss[a]? = some A /\ ¬ bigI ms /\ prodI A = prodI ms /\ S = ms
  | .join a b side => ∃ A B, Ss[a]? = some A /\ Ss[b]? = some B /\ A.length = B.length /\ ¬ off A side /\ A.eraseIdx side.toNat = B.eraseIdx side.toNat /\ ¬ bigI (joinL A B side) /\ S = joinL A B side
  | .fetch a b => ∃ n r B, Ss[a]? = some (n :: r) /\ n ≠ 0 /\ Ss[b]? = some B /\ ¬ bigI (B ++ r) /\ S = B ++ r
  | .fold w a side => ∃ A, Ss[a]? = some A /\ isF w /\ ¬ off A side /\ S = A.eraseIdx side.toNat
  | .run w a side => Ss[a]? = some S /\ isF w /\ ¬ off S side
theorem sevn_at (k : Int) (h0 : 0 ≤ k) (h1 : k < 7) : ∃ x : Int, atI [V.int 2, V.int 3, V.int 1, V.int 4, V.int 2, V.int 3, V.int 0] k = some (.int x) /\ 0 ≤ x := by
  obtain ⟨j, rfl⟩ : ∃ j : Nat, k = j := ⟨k.toNat, by omega⟩
  match j, h1 with
  | 0, _ => exact ⟨_, rfl, by decide⟩
  | 1, _ => exact ⟨_, rfl, by decide⟩
  | 2, _ => exact ⟨_, rfl, by decide⟩
  | 3, _ => exact ⟨_, rfl, by decide⟩
  | 4, _ => exact ⟨_, rfl, by decide⟩
  | 5, _ => exact ⟨_, rfl, by decide⟩
  | 6, _ => exact ⟨_, rfl, by decide⟩
  | m + 7, h1 => exact absurd (Int.ofNat_lt.mp h1) (Nat.not_lt.mpr (Nat.le_add_left ..))
def MadeAt (H : Hp) (r : Addr) (mo : Int) (Ss : List (List Int)) : Prop := ∃ p b s S, H r = some (.tup [.ref p, .ref b]) /\ StpAt H p s /\ Tp H b S /\ OkS Ss S s /\ fitM mo S
theorem fitM_nn {mo : Int} {ns : List Int} (h : fitM mo ns) : ∀ n ∈ ns, 0 ≤ n := fun n hn => (h.1 n hn).1
theorem one1_le {n m : Int} (h : n ≤ m) (h1 : 1 ≤ m) : one1 n ≤ m := by unfold one1; split <;> omega
theorem laid_one {mo : Int} {ns : List Int} (h : fitM mo ns) (m : moOk mo) : fitM mo [prodI ns] := by
  have p := z2t (fitM_nn h)
  have b := h.2.2.2
  have o := z2o p.1
  have e : prodI ([prodI ns].map one1) = one1 (prodI ns) := by show prodI [one1 (prodI ns)] = _; rw [z1g]; exact Int.mul_one _
  refine ⟨fun n hn => ?_, Nat.succ_le_succ (Nat.zero_le _), by rw [e]; exact o, by rw [e]; exact one1_le (by omega) (by have := m.1; omega)⟩
  cases List.mem_singleton.mp hn; omega
theorem laid_more {mo : Int} {ns : List Int} (h : fitM mo ns) (m : moOk mo) (l : ns.length < 6) : fitM mo (1 :: ns) := by
  have e : prodI ((1 :: ns).map one1) = prodI (ns.map one1) := by rw [List.map_cons, z1g]; exact Int.one_mul _
  refine ⟨fun n hn => ?_, by rw [List.length_cons]; omega, by rw [e]; exact h.2.2.1, by rw [e]; exact h.2.2.2⟩
  rcases List.mem_cons.mp hn with z | z
  · have := m.1; omega
  · exact h.1 n z
theorem laid_two {mo : Int} {ns : List Int} (h : fitM mo ns) (m : moOk mo) (c : prodI ns % 2 = 0) : fitM mo [prodI ns / 2, 2] /\ prodI [prodI ns / 2, 2] = prodI ns := by
  have p := z2t (fitM_nn h)
  have b := h.2.2.2
  have m1 := m.1
  have e : prodI ([prodI ns / 2, 2].map one1) = one1 (prodI ns / 2) * 2 := by show prodI [one1 (prodI ns / 2), 2] = _; rw [z1g, z1g]; show _ * (2 * 1) = _; rfl
  have e2 : prodI [prodI ns / 2, 2] = prodI ns / 2 * 2 := by rw [z1g, z1g]; show _ * (2 * 1) = _; rfl
  generalize prodI ns = P at *
  have o : 1 ≤ one1 (P / 2) /\ one1 (P / 2) * 2 ≤ mo := by unfold one1; split <;> omega
  refine ⟨⟨fun n hn => ?_, Nat.succ_le_succ (Nat.succ_le_succ (Nat.zero_le _)), by rw [e]; omega, by rw [e]; exact o.2⟩, by rw [e2]; omega⟩
  rcases List.mem_cons.mp hn with z | z
  · omega
  · cases List.mem_singleton.mp z; omega
theorem laid_rev {mo : Int} {ns : List Int} (h : fitM mo ns) : fitM mo ns.reverse /\ prodI ns.reverse = prodI ns := by
  have p := List.reverse_perm ns
  have e := z3q (p.map one1)
  exact ⟨⟨fun n hn => h.1 n (List.mem_reverse.mp hn), by rw [List.length_reverse]; exact h.2.1, by rw [e]; exact h.2.2.1, by rw [e]; exact h.2.2.2⟩, z3q p⟩
theorem fitM_sd {mo : Int} {ns : List Int} (h : fitM mo ns) (m : moOk mo) : sdOk ns := fun n hn => by have := h.1 n hn; have := m.2; exact ⟨by omega, by omega⟩
def laidL (ns : List Int) (d : Int) : List Int := if d % 4 = 1 then [prodI ns] else if d % 4 = 2 /\ ns.length < 6 then 1 :: ns else if d % 4 = 3 /\ prodI ns % 2 = 0 then [prodI ns / 2, 2] else ns.reverse
theorem laid_ok {mo : Int} {ns : List Int} {d : Int} (h : fitM mo ns) (m : moOk mo) : fitM mo (laidL ns d) /\ prodI (laidL ns d) = prodI ns := by
  unfold laidL
  by_cases c1 : d % 4 = 1
  · rw [if_pos c1]; exact ⟨laid_one h m, by rw [z1g]; exact Int.mul_one _⟩
  rw [if_neg c1]
  by_cases c2 : d % 4 = 2 /\ ns.length < 6
  · rw [if_pos c2]; exact ⟨laid_more h m c2.2, by rw [z1g]; exact Int.one_mul _⟩
  rw [if_neg c2]
  by_cases c3 : d % 4 = 3 /\ prodI ns % 2 = 0
  · rw [if_pos c3]; exact laid_two h m c3.2
  rw [if_neg c3]; exact laid_rev h
def bothL (A B : List Int) (k : Nat) : List Int := if A.length = B.length /\ A.eraseIdx k = B.eraseIdx k then joinL A B k else []
theorem up_succ (i : Nat) : upL (i + 1) = upL i ++ [(i : Int)] := by unfold upL; rw [List.range_succ, List.map_append]; rfl
theorem ins_perm {os : List Int} {i j : Nat} (h : os.Perm (upL i)) : (os.take j ++ (i : Int) :: os.drop j).Perm (upL (i + 1)) := by
  rw [up_succ]
  refine List.Perm.trans List.perm_middle ?_
  rw [List.take_append_drop]
  exact (h.cons _).trans (List.perm_append_singleton _ _).symm
theorem fitM_turn {mo : Int} {ns os : List Int} (h : fitM mo ns) (t : turnOk ns.length os) : fitM mo (turnL ns os) := by
  have p := turn_perm t
  have e := z3q (p.map one1)
  exact ⟨fun n hn => h.1 n (p.subset hn), by rw [p.length_eq]; exact h.2.1, by rw [e]; exact h.2.2.1, by rw [e]; exact h.2.2.2⟩
def splmoved (K : PySem.W.Frag) : Sp := fun vs H Q _ => ∃ (dl o : Addr) (kd mo d0 d1 d2 : Int) (a : Nat) (A : List Int) (Ss : List (List Int)), vs = [.int kd, .ref dl, .int (a : Int), .ref o, .int mo] /\ H dl = some (.lst [.int d0, .int d1, .int d2]) /\ Tp H o A /\ Ss[a]? = some A /\ fitM mo A /\ moOk mo /\ ∀ H' r, Same H H' -> MadeAt H' r mo Ss -> Q (.ref r) H'
theorem fitM_perm {mo : Int} {A B : List Int} (p : A.Perm B) (h : fitM mo B) : fitM mo A := by
  have e := z3q (p.map one1)
  exact ⟨fun n hn => h.1 n (p.subset hn), by rw [p.length_eq]; exact h.2.1, by rw [e]; exact h.2.2.1, by rw [e]; exact h.2.2.2⟩
theorem fitM_ins {mo x : Int} {A : List Int} {k : Nat} (h : fitM mo A) (l : A.length < 6) (x0 : 0 ≤ x) (x1 : x ≤ mo / prodI (A.map one1)) : fitM mo (insL A k x) := by
  refine fitM_perm ?_ (fitM_snoc h l x0 x1)
  unfold insL
  rw [List.append_assoc]
  refine List.Perm.trans List.perm_middle ?_
  show (x :: (A.take k ++ A.drop k)).Perm _
  rw [List.take_append_drop]
  exact (List.perm_append_singleton _ _).symm
theorem z2c (x : Int) (xs : List Int) : prodI ((x :: xs).map one1) = one1 x * prodI (xs.map one1) := by rw [List.map_cons]; exact z1g _ _
theorem mem_le_prod {ns : List Int} (h : ∀ n ∈ ns, 0 ≤ n) : ∀ n ∈ ns, n ≤ prodI (ns.map one1) := by
  induction ns with
  | nil => exact fun n hn => nomatch hn
  | cons x xs ih =>
    intro n hn
    have hx := h x (List.mem_cons_self ..)
    have ht : ∀ n ∈ xs, 0 ≤ n := fun n hn => h n (List.mem_cons_of_mem _ hn)
    have p := z3r ht
    have o := z2o hx
    rw [z2c]
    rcases List.mem_cons.mp hn with e | hn
    · rw [e]
      have le : x ≤ one1 x := by unfold one1; split <;> omega
      have := Int.mul_le_mul_of_nonneg_left p (show 0 ≤ one1 x by omega)
      omega
    · have := ih ht n hn
      have := Int.mul_le_mul_of_nonneg_right o (show 0 ≤ prodI (xs.map one1) by omega)
      omega
theorem prod_set_le {ns : List Int} (h : ∀ n ∈ ns, 0 ≤ n) : ∀ {k : Nat} {m : Int}, 0 ≤ m -> m ≤ ns.getD k 0 -> prodI ((ns.set k m).map one1) ≤ prodI (ns.map one1) := by
  induction ns with
  | nil => intro k m _ _; rw [List.set_nil]; exact Int.le_refl _
  | cons x xs ih =>
    intro k m m0 m1
    have hx := h x (List.mem_cons_self ..)
    have ht : ∀ n ∈ xs, 0 ≤ n := fun n hn => h n (List.mem_cons_of_mem _ hn)
    have p := z3r ht
    cases k with
    | zero =>
      have m1 : m ≤ x := m1
      show prodI ((m :: xs).map one1) ≤ _
      rw [z2c, z2c]
      exact Int.mul_le_mul_of_nonneg_right (by unfold one1; split <;> split <;> omega) (by omega)
    | succ k =>
      have m1 : m ≤ xs.getD k 0 := m1
      show prodI ((x :: xs.set k m).map one1) ≤ _
      rw [z2c, z2c]
      exact Int.mul_le_mul_of_nonneg_left (ih ht m0 m1) (by have := z2o hx; omega)
theorem prod_erase_le {ns : List Int} (h : ∀ n ∈ ns, 0 ≤ n) : ∀ {k : Nat}, prodI ((ns.eraseIdx k).map one1) ≤ prodI (ns.map one1) := by
  induction ns with
  | nil => intro k; rw [List.eraseIdx_nil]; exact Int.le_refl _
  | cons x xs ih =>
    intro k
    have hx := h x (List.mem_cons_self ..)
    have ht : ∀ n ∈ xs, 0 ≤ n := fun n hn => h n (List.mem_cons_of_mem _ hn)
    have p := z3r ht
    cases k with
    | zero =>
      show prodI (xs.map one1) ≤ _
      rw [z2c]
      have := Int.mul_le_mul_of_nonneg_right (z2o hx) (show 0 ≤ prodI (xs.map one1) by omega)
      omega
    | succ k =>
      show prodI ((x :: xs.eraseIdx k).map one1) ≤ _
      rw [z2c, z2c]
      exact Int.mul_le_mul_of_nonneg_left (ih ht) (by have := z2o hx; omega)
theorem fitM_of {mo : Int} {ns : List Int} (nn : ∀ n ∈ ns, 0 ≤ n) (l : ns.length ≤ 6) (w : prodI (ns.map one1) ≤ mo) : fitM mo ns := ⟨fun n hn => ⟨nn n hn, Int.le_trans (mem_le_prod nn n hn) w⟩, l, z3r nn, w⟩
theorem fitM_set {mo m : Int} {A : List Int} {k : Nat} (h : fitM mo A) (m0 : 0 ≤ m) (m1 : m ≤ A.getD k 0) : fitM mo (A.set k m) := fitM_of (fun n hn => by rcases List.mem_or_eq_of_mem_set hn with z | z; exact fitM_nn h n z; rw [z]; exact m0) (by rw [List.length_set]; exact h.2.1) (Int.le_trans (prod_set_le (fitM_nn h) m0 m1) h.2.2.2)
theorem fitM_erase {mo : Int} {A : List Int} {k : Nat} (h : fitM mo A) : fitM mo (A.eraseIdx k) := fitM_of (fun n hn => fitM_nn h n (List.mem_of_mem_eraseIdx hn)) (Nat.le_trans (List.length_eraseIdx_le ..) h.2.1) (Int.le_trans (prod_erase_le (fitM_nn h)) h.2.2.2)
theorem cut_many {n f g e : Int} (n0 : 0 ≤ n) (f0 : 0 ≤ f) (g1 : 1 ≤ g) (e0 : 0 ≤ e) : 0 ≤ (if (n - 1 - f).fdiv g + 1 - e > 0 then (n - 1 - f).fdiv g + 1 - e else 0) /\ (if (n - 1 - f).fdiv g + 1 - e > 0 then (n - 1 - f).fdiv g + 1 - e else 0) ≤ n /\ ¬ (0 < (if (n - 1 - f).fdiv g + 1 - e > 0 then (n - 1 - f).fdiv g + 1 - e else 0) /\ n ≤ f + ((if (n - 1 - f).fdiv g + 1 - e > 0 then (n - 1 - f).fdiv g + 1 - e else 0) - 1) * g) := by
  rw [Int.fdiv_eq_ediv_of_nonneg _ (by omega)]
  have q1 : g * ((n - 1 - f) / g) ≤ n - 1 - f := Int.mul_ediv_self_le (by omega)
  generalize (n - 1 - f) / g = q at *
  split
  · rename_i c
    have a1 := Int.mul_le_mul_of_nonneg_right (show q + 1 - e - 1 ≤ q by omega) (show 0 ≤ g by omega)
    rw [Int.mul_comm q g] at a1
    have a2 := Int.mul_le_mul_of_nonneg_left g1 (show 0 ≤ q + 1 - e - 1 by omega)
    generalize (q + 1 - e - 1) * g = z at *
    exact ⟨by omega, by omega, fun y => by omega⟩
  · exact ⟨by omega, n0, fun y => by omega⟩
theorem agr_self (A : List Int) : pairOk A A := (z3u A A).mpr (agr_refl A)
theorem pairL_l {x y : List Int} (h : pairOk x y) (l : y.length ≤ x.length) : pairL x y = x := by
  unfold pairL
  split
  · rfl
  · exact (agr_eq ((z3u x y).mp h) (by omega)).symm
theorem pairL_r {x y : List Int} (l : x.length < y.length) : pairL x y = y := by unfold pairL; rw [if_neg (by omega)]
theorem pair_three {x y z : List Int} (h : pairOk x z) (h2 : pairOk y z) : pairOk (pairL x y) z := (z3u _ _).mpr (agr_pairL ((z3u _ _).mp h) ((z3u _ _).mp h2))
theorem pairL_in {P : List Int -> Prop} {x y : List Int} (h : P x) (h2 : P y) : P (pairL x y) := by unfold pairL; split <;> assumption
def TpsM (H : Hp) (ps : List Addr) (Ss : List (List Int)) : Prop := ps.length = Ss.length /\ ∀ (i : Nat) (p : Addr), ps[i]? = some p -> ∃ S, Ss[i]? = some S /\ Tp H p S
theorem TpsM.same {H H' : Hp} {ps : List Addr} {Ss : List (List Int)} (h : TpsM H ps Ss) (s : Same H H') : TpsM H' ps Ss := ⟨h.1, fun i p e => let ⟨S, a, b⟩ := h.2 i p e; ⟨S, a, s _ _ b⟩⟩
theorem z2l {H : Hp} {ps : List Addr} {Ss : List (List Int)} (h : TpsM H ps Ss) {a : Nat} (l : a < Ss.length) : ∃ p S, atI (ps.map V.ref) (a : Int) = some (.ref p) /\ Ss[a]? = some S /\ Tp H p S := by
  have l' : a < ps.length := by rw [h.1]; exact l
  obtain ⟨S, e, t⟩ := h.2 a _ (List.getElem?_eq_getElem l')
  exact ⟨_, S, z0p (by rw [List.getElem?_map, List.getElem?_eq_getElem l']; rfl), e, t⟩
def Sds (mo : Int) (Ss : List (List Int)) : Prop := Ss.length ≤ 40 /\ ∀ S ∈ Ss, fitM mo S
theorem word_at (ws : List Str) {k : Int} (h0 : 0 ≤ k) (h1 : k < (ws.length : Int)) : ∃ w, atI (ws.map V.str) k = some (.str w) /\ w ∈ ws := by
  obtain ⟨j, rfl⟩ : ∃ j : Nat, k = j := ⟨k.toNat, by omega⟩
  have jl : j < ws.length := Int.ofNat_lt.mp h1
  exact ⟨ws[j], z0p (by rw [List.getElem?_map, List.getElem?_eq_getElem jl]; rfl), List.getElem_mem jl⟩
theorem up_nat {k : Int} {n : Nat} (h : k ∈ upL n) : ∃ a : Nat, k = a /\ a < n := ⟨k.toNat, (Int.toNat_of_nonneg (up_mem.mp h).1).symm, by have := up_mem.mp h; omega⟩
theorem up_in {a n : Nat} (h : a < n) : (a : Int) ∈ upL n := up_mem.mpr ⟨Int.natCast_nonneg _, Int.ofNat_lt.mpr h⟩
theorem mapS {K : PySem.W.Frag} {a : Addr} {ps : List Addr} {Ss : List (List Int)} {k : Nat} {js : List Nat} {g : TG} {te : TE} {Q : VK} {σ : L2.St} {H : Hp} (h1 : H a = some (.lst (ps.map V.ref))) (l : Ss.length ≤ 1000) (ht : TpsM H ps Ss) (f : List Int -> List Int) (cs : L2.St) (h0 : compSt k js σ = none :: cs)
    (hs : ∀ (p : Addr) (S : List Int) (y : Option V) (G : Hp) (Rt : V -> L2.St -> Hp -> Prop), S ∈ Ss -> Same H G -> Tp G p S -> (∀ G' r, Same G G' -> Tp G' r (f S) -> Rt (.ref r) (some (.ref p) :: cs) G') -> g (.ref p) (y :: cs) G fun σ3 H3 => te σ3 H3 fun v H4 => Rt v σ3 H4)
    (hz : ∀ (qs : List Addr) (G : Hp) (p : Addr), Same H G -> G p = none -> TpsM G qs (Ss.map f) -> Q (.ref p) (upd G p (.lst (qs.map V.ref)))) : CompL K k js g te σ (.ref a) H Q := by
  refine CompL.mk (xs := ps.map V.ref) (.of h1) (fun i zs σ' G => Same H G /\ ∃ qs : List Addr, zs = qs.map V.ref /\ i ≤ ps.length /\ TpsM G qs ((Ss.take i).map f) /\ ∃ y, σ' = y :: cs) ⟨Same.refl _, [], rfl, Nat.zero_le _, ⟨rfl, fun i p e => nomatch e⟩, none, h0⟩ (fun i zs σ' G _ h => .of (h.1 _ _ h1)) (fun i x zs σ' G e h => ?_) (fun zs σ' G h p hp => ?_)
  · obtain ⟨u, qs, rfl, i1, tq, y, rfl⟩ := h
    obtain ⟨p, rfl, hp⟩ : ∃ p, x = .ref p /\ ps[i]? = some p := by
      rw [List.getElem?_map] at e
      cases hx : ps[i]? with
      | none => rw [hx] at e; cases e
      | some n => rw [hx] at e; cases e; exact ⟨n, rfl, rfl⟩
    have il := (List.getElem?_eq_some_iff.mp hp).1
    obtain ⟨S, eS, hS⟩ := ht.2 i p hp
    have ql : qs.length = i := by rw [tq.1, List.length_map, List.length_take, ← ht.1]; omega
    refine ⟨by rw [List.length_map, ql]; exact z1b (by rw [ht.1] at il; omega), hs p S y G _ (List.mem_of_getElem? eS) u (u _ _ hS) fun G' r u' hr => ?_⟩
    refine ⟨u.trans u', qs ++ [r], by rw [List.map_append]; rfl, il, ?_, _, rfl⟩
    rw [List.take_add_one, eS, List.map_append]
    refine ⟨by rw [List.length_append, List.length_append, tq.1]; rfl, fun j p' ej => ?_⟩
    by_cases c : j < qs.length
    · rw [List.getElem?_append_left c] at ej
      obtain ⟨S', a1, a2⟩ := tq.2 j p' ej
      exact ⟨S', by rw [List.getElem?_append_left (by rw [← tq.1]; exact c)]; exact a1, u' _ _ a2⟩
    · have jl := (List.getElem?_eq_some_iff.mp ej).1
      rw [List.length_append, List.length_singleton] at jl
      have je : j = qs.length := by omega
      rw [je, List.getElem?_append_right (Nat.le_refl _), Nat.sub_self] at ej
      cases ej
      exact ⟨f S, by rw [je, tq.1, List.getElem?_append_right (Nat.le_refl _), Nat.sub_self]; rfl, hr⟩
  · obtain ⟨u, qs, rfl, i1, tq, y, rfl⟩ := h
    rw [List.length_map, ht.1, List.take_length] at tq
    exact hz qs G p u hp tq
def spllifted : Sp := fun vs H Q _ => ∃ (dl sl : Addr) (kd mo d0 d1 d2 : Int) (ps : List Addr) (Ss : List (List Int)), vs = [.int kd, .ref dl, .ref sl] /\ H dl = some (.lst [.int d0, .int d1, .int d2]) /\ H sl = some (.lst (ps.map V.ref)) /\ TpsM H ps Ss /\ 0 < Ss.length /\ Sds mo Ss /\ ∀ H' r, Same H H' -> MadeAt H' r mo Ss -> Q (.ref r) H'
def splmet : Sp := fun vs H Q _ => ∃ (dl sl : Addr) (kd mo d0 d1 d2 : Int) (ps : List Addr) (Ss : List (List Int)), vs = [.int kd, .ref dl, .ref sl, .int mo] /\ H dl = some (.lst [.int d0, .int d1, .int d2]) /\ H sl = some (.lst (ps.map V.ref)) /\ TpsM H ps Ss /\ (∃ S ∈ Ss, 0 < S.length) /\ 11 ≤ kd /\ kd ≤ 14 /\ Sds mo Ss /\ moOk mo /\ ∀ H' r, Same H H' -> MadeAt H' r mo Ss -> Q (.ref r) H'
def splstep : Sp := fun vs H Q _ => ∃ (sl : Addr) (cell mo : Int) (ps : List Addr) (Ss : List (List Int)), vs = [.int cell, .ref sl, .int mo] /\ H sl = some (.lst (ps.map V.ref)) /\ TpsM H ps Ss /\ Sds mo Ss /\ moOk mo /\ ∀ H' r, Same H H' -> MadeAt H' r mo Ss -> Q (.ref r) H'
@[irreducible] def lw12p : List (Str × Pos) := [("add", ⟨314, 17, 314, 22⟩), ("sub", ⟨314, 24, 314, 29⟩), ("mul", ⟨314, 31, 314, 36⟩), ("quo", ⟨314, 38, 314, 43⟩), ("rest", ⟨314, 45, 314, 51⟩), ("max", ⟨314, 53, 314, 58⟩), ("min", ⟨314, 60, 314, 65⟩), ("less", ⟨314, 67, 314, 73⟩), ("like", ⟨314, 75, 314, 81⟩), ("and", ⟨314, 83, 314, 88⟩), ("or", ⟨314, 90, 314, 94⟩), ("xor", ⟨314, 96, 314, 101⟩)]
theorem lw12v : (lw12p.map (·.1)).map V.str = two12.map V.str := by unfold lw12p; rfl
theorem lw12l : ((lw12p.map (·.1)).map V.str).length = 12 := by unfold lw12p; rfl
def lgS (i : Nat) : Stmt := (defBody (top 66)).getD i (.Pass ⟨0, 0, 0, 0⟩)
def lifT : Stmt -> Expr | .If t _ _ _ => t | _ => .Name "" ⟨0, 0, 0, 0⟩
def lifB : Stmt -> Stmt | .If _ (_ :: b :: _) _ _ => b | s => s
theorem lbwl : defBody (top 66) = [lgS 0, lgS 1, lgS 2, lgS 3, lgS 4, lgS 5, .If (lifT (lgS 6)) [.Assign [.Name "words" ⟨314, 8, 314, 13⟩] (.List (strsC lw12p) ⟨314, 16, 314, 102⟩) ⟨314, 8, 314, 102⟩, lifB (lgS 6)] [] ⟨313, 4, 315, 57⟩, lgS 7, lgS 8, lgS 9] := by kernel_rfl
theorem z3y {X : Cx} {K : PySem.W.Frag} (hK : X.K = K) : CallR X (.builtin "len") (fun xs H Q => ∃ p ys, xs = [.ref p] /\ (SqL K H p ys \/ SqT K H p ys) /\ Q (.int (ys.length : Nat)) H) := hK ▸ z0j
theorem op_neTK {X : Cx} {K : PySem.W.Frag} (hK : X.K = K) (hu : X.A.units < cLine) : OpR X (compareOp .NotEq) (rNeT K) := hK ▸ op_neT hu
theorem call_list_ofK {X : Cx} {K : PySem.W.Frag} (hK : X.K = K) : CallR X (.type "list") (fun xs H Q => ∃ p ys, xs = [.ref p] /\ (SqL K H p ys \/ SqT K H p ys) /\ ∀ l, H l = none -> Q (.ref l) (upd H l (.lst ys))) := hK ▸ call_list_of
def UpT (H H' : Hp) : Prop := ∀ a xs, H a = some (.tup xs) -> H' a = some (.tup xs)
theorem z4a {H H' : Hp} (s : Same H H') : UpT H H' := fun _ _ e => s _ _ e
theorem UpT.trans {H H' H2 : Hp} (s : UpT H H') (t : UpT H' H2) : UpT H H2 := fun _ _ e => t _ _ (s _ _ e)
theorem up_put {H : Hp} {l : Addr} {xs ys : List V} (h : H l = some (.lst xs)) : UpT H (upd H l (.lst ys)) := fun a zs e => by
  have ne : a ≠ l := fun z => by rw [z, h] at e; cases e
  rw [z1c ne]; exact e
theorem StpAt.up {H H' : Hp} {p : Addr} (s : UpT H H') : ∀ {d : Stp}, StpAt H p d -> StpAt H' p d
  | .inp _, ⟨b, h1, h2⟩ => ⟨b, s _ _ h1, s _ _ h2⟩
  | .num _, h => s _ _ h
  | .count .., ⟨b, h1, h2⟩ => ⟨b, s _ _ h1, s _ _ h2⟩
  | .each .., h => s _ _ h
  | .pair .., h => s _ _ h
  | .pick .., h => s _ _ h
  | .turn .., ⟨b, h1, h2⟩ => ⟨b, s _ _ h1, s _ _ h2⟩
  | .flip .., h => s _ _ h
  | .cut .., h => s _ _ h
  | .spread .., h => s _ _ h
  | .lay .., ⟨b, h1, h2⟩ => ⟨b, s _ _ h1, s _ _ h2⟩
  | .join .., h => s _ _ h
  | .fetch .., h => s _ _ h
  | .fold .., h => s _ _ h
  | .run .., h => s _ _ h
theorem TpsM.up {H H' : Hp} {ps : List Addr} {Ss : List (List Int)} (h : TpsM H ps Ss) (s : UpT H H') : TpsM H' ps Ss := ⟨h.1, fun i p e => let ⟨S, a, b⟩ := h.2 i p e; ⟨S, a, s _ _ b⟩⟩
theorem TpsM.snoc {H : Hp} {ps : List Addr} {Ss : List (List Int)} {p : Addr} {S : List Int} (h : TpsM H ps Ss) (hp : Tp H p S) : TpsM H (ps ++ [p]) (Ss ++ [S]) := by
  refine ⟨by rw [List.length_append, List.length_append, h.1]; rfl, fun j p' ej => ?_⟩
  by_cases c : j < ps.length
  · rw [List.getElem?_append_left c] at ej
    obtain ⟨S', a1, a2⟩ := h.2 j p' ej
    exact ⟨S', by rw [List.getElem?_append_left (by rw [← h.1]; exact c)]; exact a1, a2⟩
  · have jl := (List.getElem?_eq_some_iff.mp ej).1
    rw [List.length_append, List.length_singleton] at jl
    have je : j = ps.length := by omega
    rw [je, List.getElem?_append_right (Nat.le_refl _), Nat.sub_self] at ej
    cases ej
    exact ⟨S, by rw [je, h.1, List.getElem?_append_right (Nat.le_refl _), Nat.sub_self]; rfl, hp⟩
def StL (H : Hp) (qs : List Addr) (ds : List Stp) : Prop := qs.length = ds.length /\ ∀ (i : Nat) (p : Addr), qs[i]? = some p -> ∃ d, ds[i]? = some d /\ StpAt H p d
theorem StL.up {H H' : Hp} {qs : List Addr} {ds : List Stp} (h : StL H qs ds) (s : UpT H H') : StL H' qs ds := ⟨h.1, fun i p e => let ⟨d, a, b⟩ := h.2 i p e; ⟨d, a, b.up s⟩⟩
theorem StL.snoc {H : Hp} {qs : List Addr} {ds : List Stp} {p : Addr} {d : Stp} (h : StL H qs ds) (hp : StpAt H p d) : StL H (qs ++ [p]) (ds ++ [d]) := by
  refine ⟨by rw [List.length_append, List.length_append, h.1]; rfl, fun j p' ej => ?_⟩
  by_cases c : j < qs.length
  · rw [List.getElem?_append_left c] at ej
    obtain ⟨S', a1, a2⟩ := h.2 j p' ej
    exact ⟨S', by rw [List.getElem?_append_left (by rw [← h.1]; exact c)]; exact a1, a2⟩
  · have jl := (List.getElem?_eq_some_iff.mp ej).1
    rw [List.length_append, List.length_singleton] at jl
    have je : j = qs.length := by omega
    rw [je, List.getElem?_append_right (Nat.le_refl _), Nat.sub_self] at ej
    cases ej
    exact ⟨d, by rw [je, h.1, List.getElem?_append_right (Nat.le_refl _), Nat.sub_self]; rfl, hp⟩
def GoodL (mo : Int) (ds : List Stp) (Ss : List (List Int)) : Prop := ds.length = Ss.length /\ (∀ S ∈ Ss, fitM mo S) /\ ∀ (i : Nat) (d : Stp) (S : List Int), ds[i]? = some d -> Ss[i]? = some S -> OkS (Ss.take i) S d
theorem good_snoc {mo : Int} {ds : List Stp} {Ss : List (List Int)} {d : Stp} {S : List Int} (h : GoodL mo ds Ss) (o : OkS Ss S d) (f : fitM mo S) : GoodL mo (ds ++ [d]) (Ss ++ [S]) := by
  refine ⟨by rw [List.length_append, List.length_append, h.1]; rfl, fun T hT => ?_, fun i d' S' e1 e2 => ?_⟩
  · rcases List.mem_append.mp hT with z | z
    · exact h.2.1 T z
    · cases List.mem_singleton.mp z; exact f
  · by_cases c : i < ds.length
    · rw [List.getElem?_append_left c] at e1
      have c' : i < Ss.length := by rw [← h.1]; exact c
      rw [List.getElem?_append_left c'] at e2
      rw [List.take_append_of_le_length (Nat.le_of_lt c')]
      exact h.2.2 i d' S' e1 e2
    · have jl := (List.getElem?_eq_some_iff.mp e1).1
      rw [List.length_append, List.length_singleton] at jl
      have je : i = ds.length := by omega
      rw [je, List.getElem?_append_right (Nat.le_refl _), Nat.sub_self] at e1
      rw [je, h.1, List.getElem?_append_right (Nat.le_refl _), Nat.sub_self] at e2
      cases e1; cases e2
      rw [je, h.1, List.take_append_of_le_length (Nat.le_refl _), List.take_length]
      exact o
theorem good_nil (mo : Int) : GoodL mo [] [] := ⟨rfl, (fun _ h => nomatch h), (fun _ _ _ h => nomatch h)⟩
def PrgAt (H : Hp) (r : Addr) (mo : Int) (ds : List Stp) (Ss : List (List Int)) (os : List Int) : Prop := ∃ (st ot sl : Addr) (qs ps : List Addr), H r = some (.tup [.ref st, .ref ot, .ref sl]) /\ H st = some (.tup (qs.map V.ref)) /\ StL H qs ds /\ H ot = some (.tup (os.map V.int)) /\ H sl = some (.lst (ps.map V.ref)) /\ TpsM H ps Ss /\ GoodL mo ds Ss /\ 0 < ds.length /\ ds.length ≤ 40 /\ 0 < os.length /\ os.length ≤ 8 /\ ∀ o ∈ os, 0 ≤ o /\ o < (ds.length : Int)
def splprogram : Sp := fun vs H Q _ => ∃ (a : Addr) (cs : List Int) (mo : Int), vs = [.ref a, .int mo] /\ H a = some (.lst (cs.map V.int)) /\ cs.length ≤ 40 /\ moOk mo /\ ∀ H' r ds Ss os, Same H H' -> PrgAt H' r mo ds Ss os -> Q (.ref r) H'
theorem both_ne {A B : List Int} {k : Nat} (h : ¬ bothL A B k = []) : A.length = B.length /\ A.eraseIdx k = B.eraseIdx k /\ bothL A B k = joinL A B k := by
  unfold bothL at h ⊢
  split
  · rename_i c; exact ⟨c.1, c.2, rfl⟩
  · rename_i c; rw [if_neg c] at h; exact absurd rfl h
theorem getD_b {ns : List Int} {m : Int} (h : ∀ n ∈ ns, 0 ≤ n /\ n ≤ m) (m0 : 0 ≤ m) (k : Nat) : 0 ≤ ns.getD k 0 /\ ns.getD k 0 ≤ m := by
  by_cases c : k < ns.length
  · exact h _ (z3e c)
  · rw [List.getD_eq_getElem?_getD, List.getElem?_eq_none (by omega)]; exact ⟨Int.le_refl _, m0⟩
def Md (kd : Int) (A : List Int) (k : Nat) (Ss Ms : List (List Int)) : Prop := (kd = 11 /\ Ms = Ss.map (fun B => bothL A B k)) \/ (kd = 12 /\ 0 < A.getD 0 0 /\ Ms = Ss.map (fun B => B ++ A.drop 1)) \/ (¬ kd = 11 /\ ¬ 0 < A.getD 0 0 /\ Ms = [[]])
theorem md_len {kd : Int} {A : List Int} {k : Nat} {Ss Ms : List (List Int)} (h : Md kd A k Ss Ms) (l : Ss.length ≤ 40) : Ms.length ≤ 40 := by
  rcases h with ⟨_, rfl⟩ | ⟨_, _, rfl⟩ | ⟨_, _, rfl⟩
  · rw [List.length_map]; exact l
  · rw [List.length_map]; exact l
  · exact Nat.succ_le_succ (Nat.zero_le _)
theorem md_b {kd mo : Int} {A : List Int} {k : Nat} {Ss Ms : List (List Int)} (h : Md kd A k Ss Ms) (fA : fitM mo A) (fS : ∀ S ∈ Ss, fitM mo S) (m : moOk mo) : ∀ M ∈ Ms, ∀ n ∈ M, 0 ≤ n /\ n ≤ 1024 := by
  have m2 := m.2
  have m1 := m.1
  rcases h with ⟨_, rfl⟩ | ⟨_, _, rfl⟩ | ⟨_, _, rfl⟩
  · intro M hM n hn
    obtain ⟨B, hB, rfl⟩ := List.mem_map.mp hM
    by_cases c : bothL A B k = []
    · rw [c] at hn; exact nomatch hn
    · rw [(both_ne c).2.2] at hn
      unfold joinL at hn
      rcases List.mem_or_eq_of_mem_set hn with z | z
      · have := fA.1 n z; omega
      · have a1 := getD_b fA.1 (show 0 ≤ mo by omega) (k : Int).toNat
        have a2 := getD_b (fS B hB).1 (show 0 ≤ mo by omega) (k : Int).toNat
        omega
  · intro M hM n hn
    obtain ⟨B, hB, rfl⟩ := List.mem_map.mp hM
    rcases List.mem_append.mp hn with z | z
    · have := (fS B hB).1 n z; omega
    · have := fA.1 n (List.mem_of_mem_drop z); omega
  · intro M hM n hn
    cases List.mem_singleton.mp hM
    exact nomatch hn
theorem sd_of1024 {M : List Int} (h : ∀ n ∈ M, 0 ≤ n /\ n ≤ 1024) : sdOk M := fun n hn => by have := h n hn; exact ⟨this.1, by omega⟩
theorem six_at (k : Int) (h0 : 0 ≤ k) (h1 : k < 6) : ∃ x : Int, atI [V.int 1, V.int 2, V.int 3, V.int 2, V.int 1, V.int 8] k = some (.int x) /\ 1 ≤ x /\ x ≤ 8 := by
  obtain ⟨j, rfl⟩ : ∃ j : Nat, k = j := ⟨k.toNat, by omega⟩
  match j, h1 with
  | 0, _ => exact ⟨_, rfl, by decide, by decide⟩
  | 1, _ => exact ⟨_, rfl, by decide, by decide⟩
  | 2, _ => exact ⟨_, rfl, by decide, by decide⟩
  | 3, _ => exact ⟨_, rfl, by decide, by decide⟩
  | 4, _ => exact ⟨_, rfl, by decide, by decide⟩
  | 5, _ => exact ⟨_, rfl, by decide, by decide⟩
  | m + 6, h1 => exact absurd (Int.ofNat_lt.mp h1) (Nat.not_lt.mpr (Nat.le_add_left ..))
theorem nb_of {M : List Int} {mo : Int} (m : moOk mo) (l : M.length ≤ 6) (w : prodI (M.map one1) ≤ mo) : ¬ bigI M := fun z => z.elim (by omega) (by have := m.2; omega)
theorem len_max {Ss : List (List Int)} {M : Int} (h : M ∈ Ss.map (fun S => (S.length : Int))) (h0 : 0 < M) : ∃ S ∈ Ss, 0 < S.length := by
  obtain ⟨S, hS, rfl⟩ := List.mem_map.mp h
  exact ⟨S, hS, by omega⟩
theorem outs_set {os : List Int} {n : Nat} {j : Nat} (h : ∀ o ∈ os, 0 ≤ o /\ o < (n : Int)) (n0 : 0 < n) : ∀ o ∈ os.set j ((n : Int) - 1), 0 ≤ o /\ o < (n : Int) := fun o ho => by
  rcases List.mem_or_eq_of_mem_set ho with z | z
  · exact h o z
  · omega
def kdN : Stp -> Nat
  | .inp .. => 0 | .num .. => 1 | .count .. => 2 | .each .. => 3 | .pair .. => 4 | .pick .. => 5 | .turn .. => 6 | .flip .. => 7 | .cut .. => 8 | .spread .. => 9 | .lay .. => 10 | .join .. => 11 | .fetch .. => 12 | .fold .. => 13 | .run .. => 14
theorem z2u (d : Stp) : kdN d < 15 := by cases d <;> exact of_decide_eq_true rfl
def argsN : Stp -> List Nat
  | .inp .. => [] | .num .. => [] | .count .. => []
  | .each _ a => [a] | .pair _ a b => [a, b] | .pick a b c => [a, b, c]
  | .turn a _ => [a] | .flip a _ => [a] | .cut a .. => [a] | .spread a .. => [a] | .lay a _ => [a]
  | .join a b _ => [a, b] | .fetch a b => [a, b] | .fold _ a _ => [a] | .run _ a _ => [a]
theorem kind_inj : ∀ i j : Fin 15, kindS i.val = kindS j.val -> i = j := by decide +kernel
theorem kd_no {i : Nat} (j : Nat) (hi : i < 15) (hj : j < 15) (ne : ¬ i = j) : ¬ V.str (kindS i) = V.str (kindS j) := fun z => ne (congrArg Fin.val (kind_inj ⟨i, hi⟩ ⟨j, hj⟩ (V.str.inj z)))
theorem z2z {i : Nat} (j : Nat) (hi : i < 15) (hj : j < 15) (ne : ¬ i = j) : ¬ kindS i = kindS j := fun z => ne (congrArg Fin.val (kind_inj ⟨i, hi⟩ ⟨j, hj⟩ z))
def nmV (ns : List Nat) : List V := ns.map fun a => V.int ((a : Nat) : Int)
theorem z3n {H : Hp} {p : Addr} {d : Stp} (h : StpAt H p d) : ∃ xs, H p = some (.tup xs) /\ xs[0]? = some (.str (kindS (kdN d))) /\ (∀ q ∈ argsP (kdN d), 0 ≤ q /\ q < (xs.length : Int)) /\ getAll xs (argsP (kdN d)) = nmV (argsN d) := by
  rw [args_is (z2u d)]
  cases d with
  | inp ms => obtain ⟨b, h, _⟩ := h; exact ⟨_, h, rfl, of_decide_eq_true rfl, rfl⟩
  | num n => exact ⟨_, h, rfl, of_decide_eq_true rfl, rfl⟩
  | count ms k => obtain ⟨b, h, _⟩ := h; exact ⟨_, h, rfl, of_decide_eq_true rfl, rfl⟩
  | each w a => exact ⟨_, h, rfl, of_decide_eq_true rfl, rfl⟩
  | pair w a b => exact ⟨_, h, rfl, of_decide_eq_true rfl, rfl⟩
  | pick a b c => exact ⟨_, h, rfl, of_decide_eq_true rfl, rfl⟩
  | turn a os => obtain ⟨b, h, _⟩ := h; exact ⟨_, h, rfl, of_decide_eq_true rfl, rfl⟩
  | flip a s => exact ⟨_, h, rfl, of_decide_eq_true rfl, rfl⟩
  | cut a s f m g => exact ⟨_, h, rfl, of_decide_eq_true rfl, rfl⟩
  | spread a s m => exact ⟨_, h, rfl, of_decide_eq_true rfl, rfl⟩
  | lay a ms => obtain ⟨b, h, _⟩ := h; exact ⟨_, h, rfl, of_decide_eq_true rfl, rfl⟩
  | join a b s => exact ⟨_, h, rfl, of_decide_eq_true rfl, rfl⟩
  | fetch a b => exact ⟨_, h, rfl, of_decide_eq_true rfl, rfl⟩
  | fold w a s => exact ⟨_, h, rfl, of_decide_eq_true rfl, rfl⟩
  | run w a s => exact ⟨_, h, rfl, of_decide_eq_true rfl, rfl⟩
def wordOk : Stp -> Prop
  | .each w _ => w ∈ one4 | .pair w _ _ => w ∈ two12 | .fold w _ _ => isF w | .run w _ _ => isF w | _ => True
theorem ok_word {Ss : List (List Int)} {S : List Int} {d : Stp} (h : OkS Ss S d) : wordOk d := by
  cases d with
  | each w a => exact h.2
  | pair w a b => obtain ⟨A, B, _, _, z, _⟩ := h; exact z
  | fold w a s => obtain ⟨A, _, z, _⟩ := h; exact z
  | run w a s => exact h.2.1
  | _ => trivial
theorem ok_args {Ss : List (List Int)} {S : List Int} {d : Stp} (h : OkS Ss S d) : ∀ a ∈ argsN d, a < Ss.length := by
  have g : ∀ {a : Nat} {A : List Int}, Ss[a]? = some A -> a < Ss.length := fun e => (List.getElem?_eq_some_iff.mp e).1
  intro x hx
  cases d with
  | inp ms => exact nomatch hx
  | num n => exact nomatch hx
  | count ms k => exact nomatch hx
  | each w a => cases List.mem_singleton.mp hx; exact g h.1
  | pair w a b =>
    obtain ⟨A, B, e1, e2, _⟩ := h
    rcases List.mem_cons.mp hx with z | z
    · rw [z]; exact g e1
    · cases List.mem_singleton.mp z; exact g e2
  | pick a b c =>
    obtain ⟨A, B, C, e1, e2, e3, _⟩ := h
    rcases List.mem_cons.mp hx with z | z
    · rw [z]; exact g e1
    rcases List.mem_cons.mp z with z | z
    · rw [z]; exact g e2
    · cases List.mem_singleton.mp z; exact g e3
  | turn a os => obtain ⟨A, e1, _⟩ := h; cases List.mem_singleton.mp hx; exact g e1
  | flip a s => cases List.mem_singleton.mp hx; exact g h.1
  | cut a s f m gg => obtain ⟨A, e1, _⟩ := h; cases List.mem_singleton.mp hx; exact g e1
  | spread a s m => obtain ⟨A, e1, _⟩ := h; cases List.mem_singleton.mp hx; exact g e1
  | lay a ms => obtain ⟨A, e1, _⟩ := h; cases List.mem_singleton.mp hx; exact g e1
  | join a b s =>
    obtain ⟨A, B, e1, e2, _⟩ := h
    rcases List.mem_cons.mp hx with z | z
    · rw [z]; exact g e1
    · cases List.mem_singleton.mp z; exact g e2
  | fetch a b =>
    obtain ⟨n, r, B, e1, _, e2, _⟩ := h
    rcases List.mem_cons.mp hx with z | z
    · rw [z]; exact g e1
    · cases List.mem_singleton.mp z; exact g e2
  | fold w a s => obtain ⟨A, e1, _⟩ := h; cases List.mem_singleton.mp hx; exact g e1
  | run w a s => cases List.mem_singleton.mp hx; exact g h.1
theorem args_le3 (d : Stp) : (argsN d).length ≤ 3 := by cases d <;> exact Nat.le_of_sub_eq_zero rfl
theorem ok4 {w : Str} (h : w ∈ one4) : okS 1000 w := by
  simp only [one4, List.mem_cons, List.not_mem_nil, or_false] at h
  rcases h with rfl | rfl | rfl | rfl <;> exact ⟨by decide +kernel, by decide +kernel⟩
theorem ok12 {w : Str} (h : w ∈ two12) : okS 1000 w := by
  simp only [two12, List.mem_cons, List.not_mem_nil, or_false] at h
  rcases h with rfl | rfl | rfl | rfl | rfl | rfl | rfl | rfl | rfl | rfl | rfl | rfl <;> exact ⟨by decide +kernel, by decide +kernel⟩
theorem ok7 {w : Str} (h : isF w) : okS 1000 w := by
  unfold isF at h
  simp only [fw, List.mem_cons, List.not_mem_nil, or_false] at h
  rcases h with rfl | rfl | rfl | rfl | rfl | rfl | rfl <;> exact ⟨by decide +kernel, by decide +kernel⟩
theorem inv_at {d : Stp} : (kdN d = 0 -> ∃ ms, d = .inp ms) /\ (kdN d = 2 -> ∃ ms k, d = .count ms k) /\ (kdN d = 3 -> ∃ w a, d = .each w a) /\ (kdN d = 4 -> ∃ w a b, d = .pair w a b) /\ (kdN d = 6 -> ∃ a os, d = .turn a os) /\ (kdN d = 7 -> ∃ a s, d = .flip a s) /\ (kdN d = 8 -> ∃ a s f m g, d = .cut a s f m g) /\ (kdN d = 9 -> ∃ a s m, d = .spread a s m) /\ (kdN d = 10 -> ∃ a ms, d = .lay a ms) /\ (kdN d = 11 -> ∃ a b s, d = .join a b s) /\ (kdN d = 12 -> ∃ a b, d = .fetch a b) /\ (kdN d = 13 -> ∃ w a s, d = .fold w a s) /\ (kdN d = 14 -> ∃ w a s, d = .run w a s) := by
  cases d <;> refine ⟨?_, ?_, ?_, ?_, ?_, ?_, ?_, ?_, ?_, ?_, ?_, ?_, ?_⟩ <;> intro c <;> first | exact absurd c (of_decide_eq_false rfl) | exact ⟨_, rfl⟩ | exact ⟨_, _, rfl⟩ | exact ⟨_, _, _, rfl⟩ | exact ⟨_, _, _, _, _, rfl⟩
def spaskw : Sp := fun vs H Q _ => ∃ (p : Addr) (d : Stp), vs = [.ref p] /\ StpAt H p d /\ wordOk d /\ ∀ H', Same H H' -> Q .non H'
def spfirst : Sp := fun vs H Q _ => ∃ (p : Addr) (d : Stp) (S : List Int) (Ss : List (List Int)), vs = [.ref p] /\ StpAt H p d /\ kdN d < 3 /\ OkS Ss S d /\ fit S /\ ∀ H' r, Same H H' -> Tp H' r S -> Q (.ref r) H'
def spmv : Sp := fun vs H Q _ => ∃ (p o : Addr) (d : Stp) (S A : List Int) (Ss : List (List Int)) (a : Nat), vs = [.ref p, .ref o] /\ StpAt H p d /\ argsN d = [a] /\ Ss[a]? = some A /\ Tp H o A /\ fit A /\ OkS Ss S d /\ fit S /\ ∀ H' r, Same H H' -> Tp H' r S -> Q (.ref r) H'
def spsides : Sp := fun vs H Q _ => ∃ (p s : Addr) (d : Stp) (S : List Int) (Ss : List (List Int)) (ps : List Addr), vs = [.ref p, .ref s] /\ StpAt H p d /\ (H s = some (.lst (ps.map V.ref)) \/ H s = some (.tup (ps.map V.ref))) /\ TpsM H ps Ss /\ (∀ T ∈ Ss, fit T) /\ OkS Ss S d /\ fit S /\ ∀ H' r, Same H H' -> Tp H' r S -> Q (.ref r) H'
def UsAt (G : Hp) (us : List Addr) (ns : List Nat) (Ss : List (List Int)) : Prop := us.length = ns.length /\ ∀ (i a : Nat), ns[i]? = some a -> ∃ u A, us[i]? = some u /\ Ss[a]? = some A /\ Tp G u A
theorem UsAt.same {G G' : Hp} {us : List Addr} {ns : List Nat} {Ss : List (List Int)} (h : UsAt G us ns Ss) (s : Same G G') : UsAt G' us ns Ss := ⟨h.1, fun i a e => let ⟨u, A, e1, e2, e3⟩ := h.2 i a e; ⟨u, A, e1, e2, s _ _ e3⟩⟩
theorem us_at {G : Hp} {us : List Addr} {ns : List Nat} {Ss : List (List Int)} {a : Nat} {A : List Int} (h : UsAt G us ns Ss) (i : Nat) (e : ns[i]? = some a) (eA : Ss[a]? = some A) : ∃ u, atI (us.map V.ref) (i : Int) = some (.ref u) /\ Tp G u A := by
  obtain ⟨u, A', e1, e2, e3⟩ := h.2 i a e
  cases e2.symm.trans eA
  exact ⟨u, z0p (by rw [List.getElem?_map, e1]; rfl), e3⟩
theorem us_snoc {G : Hp} {us : List Addr} {ns : List Nat} {Ss : List (List Int)} {u : Addr} {a : Nat} {A : List Int} (h : UsAt G us ns Ss) (eA : Ss[a]? = some A) (hu : Tp G u A) : UsAt G (us ++ [u]) (ns ++ [a]) Ss := by
  refine ⟨by rw [List.length_append, List.length_append, h.1]; rfl, fun i b e => ?_⟩
  by_cases c : i < ns.length
  · rw [List.getElem?_append_left c] at e
    obtain ⟨v, B, e1, e2, e3⟩ := h.2 i b e
    exact ⟨v, B, by rw [List.getElem?_append_left (by rw [h.1]; exact c)]; exact e1, e2, e3⟩
  · have jl := (List.getElem?_eq_some_iff.mp e).1
    rw [List.length_append, List.length_singleton] at jl
    have je : i = ns.length := by omega
    rw [je, List.getElem?_append_right (Nat.le_refl _), Nat.sub_self] at e
    cases e
    exact ⟨u, A, by rw [je, ← h.1, List.getElem?_append_right (Nat.le_refl _), Nat.sub_self]; rfl, eA, hu⟩
theorem nm_at {ns : List Nat} {i : Nat} {x : V} (e : (nmV ns)[i]? = some x) : ∃ a : Nat, x = .int (a : Int) /\ ns[i]? = some a := by
  unfold nmV at e
  rw [List.getElem?_map] at e
  cases hx : ns[i]? with
  | none => rw [hx] at e; cases e
  | some n => rw [hx] at e; cases e; exact ⟨n, rfl, rfl⟩
theorem nm_len (ns : List Nat) : (nmV ns).length = ns.length := List.length_map ..
theorem args0 {d : Stp} (h : (argsN d).length = 0) : kdN d < 3 := by
  cases d <;> first | exact of_decide_eq_true rfl | exact absurd h (Nat.succ_ne_zero _)
theorem args1 {d : Stp} (h : (argsN d).length = 1) : ∃ a, argsN d = [a] := by
  match argsN d, h with
  | [a], _ => exact ⟨a, rfl⟩
def sptold : Sp := fun vs H Q _ => ∃ (p s : Addr) (d : Stp) (S : List Int) (Ss : List (List Int)) (ps : List Addr), vs = [.ref p, .ref s] /\ StpAt H p d /\ H s = some (.lst (ps.map V.ref)) /\ TpsM H ps Ss /\ (∀ T ∈ Ss, fit T) /\ Ss.length < 40 /\ OkS Ss S d /\ fit S /\ ∀ H' r t, Same H H' -> H' r = some (.tup [.ref t, .non]) -> Tp H' t S -> Q (.ref r) H'
def rep (n : Nat) : List Bool := List.replicate n false
theorem rep_succ (n : Nat) : (rep (n + 1)).map V.bl = (rep n).map V.bl ++ [V.bl false] := by unfold rep; rw [List.replicate_succ', List.map_append]; rfl
theorem rep_len (n : Nat) : (rep n).length = n := List.length_replicate ..
theorem rep_any (n : Nat) : (rep n).any id = false := by
  unfold rep
  rw [List.any_eq_false]
  intro x hx
  rw [List.eq_of_mem_replicate hx]
  exact Bool.false_ne_true
def ProgM (H : Hp) (r : Addr) (ds : List Stp) (os : List Int) : Prop := ∃ (st ot : Addr) (qs : List Addr), H r = some (.tup [.ref st, .ref ot]) /\ H st = some (.tup (qs.map V.ref)) /\ StL H qs ds /\ H ot = some (.tup (os.map V.int))
def GoodO (mo : Int) (ds : List Stp) (Ss : List (List Int)) (os : List Int) : Prop := moOk mo /\ GoodL mo ds Ss /\ 0 < ds.length /\ ds.length ≤ 40 /\ 0 < os.length /\ os.length ≤ 8 /\ ∀ o ∈ os, 0 ≤ o /\ o < (ds.length : Int)
def spptold : Sp := fun vs H Q _ => ∃ (r : Addr) (ds : List Stp) (Ss : List (List Int)) (os : List Int) (mo : Int), vs = [.ref r] /\ ProgM H r ds os /\ GoodO mo ds Ss os /\ ∀ H' r' t ps, Same H H' -> H' r' = some (.tup [.ref t, .non]) -> H' t = some (.tup (ps.map V.ref)) -> TpsM H' ps Ss -> Q (.ref r') H'
def spffault : Sp := fun vs H Q _ => ∃ (r : Addr) (ds : List Stp) (Ss : List (List Int)) (os : List Int) (mo : Int), vs = [.ref r] /\ ProgM H r ds os /\ GoodO mo ds Ss os /\ ∀ H', Same H H' -> Q .non H'
def spchecked : Sp := fun vs H Q _ => ∃ (r : Addr) (ds : List Stp) (Ss : List (List Int)) (os : List Int) (mo : Int), vs = [.ref r] /\ ProgM H r ds os /\ GoodO mo ds Ss os /\ ∀ H' t ps, Same H H' -> H' t = some (.tup (ps.map V.ref)) -> TpsM H' ps Ss -> Q (.ref t) H'
theorem TpsM.snocT {H : Hp} {ps : List Addr} {Ss : List (List Int)} {i : Nat} {p : Addr} {S : List Int} (h : TpsM H ps (Ss.take i)) (e : Ss[i]? = some S) (hp : Tp H p S) : TpsM H (ps ++ [p]) (Ss.take (i + 1)) := by
  rw [List.take_add_one, e]; exact h.snoc hp
theorem good_fit {mo : Int} {ds : List Stp} {Ss : List (List Int)} (h : GoodL mo ds Ss) (m : moOk mo) : ∀ T ∈ Ss, fit T := fun T hT => z3i (h.2.1 T hT) m
theorem fit_sm {A : List Int} (h : fit A) : sm A := fun n hn => by have := h.1 n hn; exact ⟨by omega, by omega⟩
theorem cut41 (ns : List Int) : ∃ ms : List Int, cutV (ns.map V.int) (some 1) (some 41) = ms.map V.int /\ ms.length ≤ 40 := by
  refine ⟨(ns.drop (min 1 ns.length)).take (min 41 ns.length - min 1 ns.length), ?_, ?_⟩
  · unfold cutV; simp only [HT.sIx, z0s]; rw [if_neg (by omega), if_neg (by omega), List.map_take, List.map_drop]; rfl
  · rw [List.length_take, List.length_drop]; omega
theorem cut_refs (ps : List Addr) (k : Nat) : cutV (ps.map V.ref) none (some (k : Int)) = (ps.take k).map V.ref := by
  unfold cutV
  simp only [HT.sIx, List.length_map]
  rw [if_neg (by omega), Int.toNat_natCast, List.drop_zero, Nat.sub_zero, List.map_take]
  by_cases c : k ≤ ps.length
  · rw [Nat.min_eq_left c]
  · rw [Nat.min_eq_right (by omega), List.take_of_length_le (by rw [List.length_map]; exact Nat.le_refl _), List.take_of_length_le (by rw [List.length_map]; omega)]
theorem TpsM.take {H : Hp} {ps : List Addr} {Ss : List (List Int)} (h : TpsM H ps Ss) (k : Nat) : TpsM H (ps.take k) (Ss.take k) := by
  refine ⟨by rw [List.length_take, List.length_take, h.1], fun i p e => ?_⟩
  by_cases c : i < k
  · rw [List.getElem?_take_of_lt c] at e
    obtain ⟨S, a, b⟩ := h.2 i p e
    exact ⟨S, by rw [List.getElem?_take_of_lt c]; exact a, b⟩
  · rw [List.getElem?_eq_none (by rw [List.length_take]; omega)] at e; cases e
theorem alk_refs {H : Hp} {a b : Addr} {ps : List Addr} {Ss : List (List Int)} (t : TpsM H ps Ss) (h1 : H a = some (.lst (ps.map V.ref))) (h2 : H b = some (.lst (ps.map V.ref))) : AlkV H 9 (.ref a) (.ref b) := by
  refine .inr ⟨a, b, _, _, rfl, rfl, .inl ⟨h1, h2⟩, rfl, fun i z w e1 e2 => ?_⟩
  cases e1.symm.trans e2
  rw [List.getElem?_map] at e1
  cases hx : ps[i]? with
  | none => rw [hx] at e1; cases e1
  | some p =>
    rw [hx] at e1; cases e1
    obtain ⟨S, _, hS⟩ := t.2 i p hx
    exact AlkV.tup hS hS (z1j _)
abbrev slawnumber : Stmt := top 62
def splawnumber : Sp := fun vs H Q _ => ∃ n : Int, vs = [.int n] /\ ∀ H', Same H H' -> Q (.int (numI n)) H'
variable {P : Program} {w : World} {K : PySem.W.Frag} {mg : Str -> Option Value} {base : Heap} {f : Addr} {fd : FuncData}
theorem sclawnumber : FnScope ["n"] ["n"] (defScope slawnumber) := ⟨rfl, rfl, rfl, by decide +kernel, rfl, by decide +kernel, by decide +kernel⟩
theorem oklawnumber (F : Fun K "_law_number" "_law_number" slawnumber f fd) : FnOk P w K mg base CX0 (1) f fd ["n"] (splawnumber) := by
  have sc := sclawnumber
  refine F.ok sc (fun vs H Q E h => ?_) (fun cdv A outer s H vs Q E hr h => ?_)
  · obtain ⟨n, rfl, _⟩ := h; rfl
  obtain ⟨n, rfl, q⟩ := h
  refine ⟨_, (z0d (z0y (z0i z1f (z0t z1u (pv 0) z0e) z0e (z0n _)) (z0f (z0l (z0u ix_list (z2q (z0a (pe_un un_neg (z0t op_pow z0e z0e)) (z0a (z0t z2y (z0t op_pow z0e z0e) z0e) (z0a (pe_un un_neg z0e) (z0a (z0t op_pow z0e z0e) z0c))))) (z0t z1u (z0t z2d (pv 0) z0e) z0e) (fun _ _ => rfl)))) z0k) (z0f (z0l (z0t z2y (z0t z1u (z0t z2a (pv 0) (z0t op_pow z0e z0e)) (z0t op_pow z0e z0e)) (z0t op_pow z0e z0e))))), ?_⟩
  wp_walk using tSeq, tIfS
  unfold numI at q
  by_cases c1 : n % 17 = 5
  · rw [if_pos c1]
    rw [if_pos c1] at q
    refine ⟨small (by decide), fun p hp => ⟨_, .of z0g, _, ?_, q _ (z0b hp _)⟩⟩
    exact at_int (r := [-9223372036854775808, 9223372036854775807, -1, 4611686018427387904]) (by omega) (by rw [List.getD_eq_getElem?_getD, List.getElem?_eq_getElem (show _ < 4 by omega)]; rfl)
  · rw [if_neg c1]
    rw [if_neg c1] at q
    exact q _ (Same.refl _)
abbrev slawsize : Stmt := top 60
def splawsize : Sp := fun vs H Q _ => ∃ (a : Addr) (ns : List Int), vs = [.ref a] /\ (H a = some (.lst (ns.map V.int)) \/ H a = some (.tup (ns.map V.int))) /\ sdOk ns /\ Q (.int (prodI ns)) H
theorem sclawsize : FnScope ["sides", "size", "length"] ["sides"] (defScope slawsize) := ⟨rfl, rfl, rfl, by decide +kernel, rfl, by decide +kernel, by decide +kernel⟩
theorem oklawsize (F : Fun K "_law_size" "_law_size" slawsize f fd) : FnOk P w K mg base CX0 (1) f fd ["sides"] (splawsize) := by
  have sc := sclawsize
  refine F.ok sc (fun vs H Q E h => ?_) (fun cdv A outer s H vs Q E hr h => ?_)
  · obtain ⟨a, ns, rfl, _⟩ := h; rfl
  obtain ⟨a, ns, rfl, ha, sd, q⟩ := h
  refine ⟨_, (z0d (z0z (i := 1) sc.nd rfl (by first | exact Or.inl rfl | exact Or.inr rfl) z0e) (z0d (z3b PassesOwn.never rfl (pi_seq (pv 0)) (z1h (i := 2) sc.nd rfl (Or.inl rfl)) (z0f (z0z (i := 1) sc.nd rfl (by first | exact Or.inl rfl | exact Or.inr rfl) (z0t op_mul (pv 1) (pv 2))))) (z0f (z0l (pv 1))))), ?_⟩
  simp only [L2.start, List.length_cons, List.length_nil, List.replicate, List.cons_append, List.nil_append, Nat.reduceSub, Nat.reduceAdd, List.map_cons, List.map_nil]
  wp_walk using tSeq, tIfS
  rcases ha with ha | ha
  · left
    refine LoopL.mk (xs := ns.map V.int) (.of ha) (fun i σ G => G = H /\ ∃ y, σ = [some (.ref a), some (.int (prodI (ns.take i))), y]) ⟨rfl, _, rfl⟩ (fun i σ G _ h => by rw [h.1]; exact .of ha) (fun i x σ G e h => ?_) (fun σ G h => ?_)
    · obtain ⟨rfl, y, rfl⟩ := h
      obtain ⟨m, rfl, hm, b0, b1⟩ := sd_at sd e
      have e1 : prodI (ns.take (i + 1)) = prodI (ns.take i) * m := by rw [List.take_add_one, hm]; exact prod_app _ _
      wp_walk using tSeq, tIfS, e1
      exact ⟨.inr ⟨by omega, by omega⟩, _, rfl⟩
    · obtain ⟨rfl, y, rfl⟩ := h
      rw [z0s, List.take_length]
      wp_walk using tSeq, tIfS
      exact q
  · right
    refine LoopT.mk (xs := ns.map V.int) (.of ha) (fun i σ G => G = H /\ ∃ y, σ = [some (.ref a), some (.int (prodI (ns.take i))), y]) ⟨rfl, _, rfl⟩ (fun i σ G _ h => by rw [h.1]; exact .of ha) (fun i x σ G e h => ?_) (fun σ G h => ?_)
    · obtain ⟨rfl, y, rfl⟩ := h
      obtain ⟨m, rfl, hm, b0, b1⟩ := sd_at sd e
      have e1 : prodI (ns.take (i + 1)) = prodI (ns.take i) * m := by rw [List.take_add_one, hm]; exact prod_app _ _
      wp_walk using tSeq, tIfS, e1
      exact ⟨.inr ⟨by omega, by omega⟩, _, rfl⟩
    · obtain ⟨rfl, y, rfl⟩ := h
      rw [z0s, List.take_length]
      wp_walk using tSeq, tIfS
      exact q
abbrev slawwide : Stmt := top 61
def splawwide : Sp := fun vs H Q _ => ∃ (a : Addr) (ns : List Int), vs = [.ref a] /\ Tp H a ns /\ sdOk ns /\ ns.length ≤ 500 /\ ∀ H', Same H H' -> Q (.int (prodI (ns.map one1))) H'
theorem sclawwide : FnScope ["sides"] ["sides"] (defScope slawwide) := ⟨rfl, rfl, rfl, by decide +kernel, rfl, by decide +kernel, by decide +kernel⟩
theorem oklawwide (F : Fun K "_law_wide" "_law_wide" slawwide f fd) (clawsize : Callee P w K mg base CX0 (1) "_law_size" ["sides"] splawsize) (zmax : mg "max" = none) : FnOk P w K mg base CX0 (2) f fd ["sides"] (splawwide) := by
  have sc := sclawwide
  refine F.ok sc (fun vs H Q E h => ?_) (fun cdv A outer s H vs Q E hr h => ?_)
  · obtain ⟨a, ns, rfl, _⟩ := h; rfl
  obtain ⟨a, ns, rfl, ha, sd, l5, q⟩ := h
  refine ⟨_, (z0f (z0l (z0r clawsize hr (by rfl) z1l (z0a (pe_comp0 (own := ["length"]) rfl (z3s (pv 0)) (by decide) (by decide) rfl (by decide) (fun _ _ _ _ => (z1h (i := 0) (show (["length"] : List Str).Nodup by decide +kernel) rfl (Or.inl rfl))) (fun _ _ _ _ => (z0m (z3x rfl) (by rfl) zmax boot_max (z0a z0e (z0a (pv 0) z0c))))) z0c)))), ?_⟩
  simp only [L2.start, List.length_cons, List.length_nil, List.replicate, List.cons_append, List.nil_append, Nat.reduceSub, Nat.reduceAdd, List.map_cons, List.map_nil]
  wp_walk using tSeq, tIfS, splawsize
  refine CompT.mk (xs := ns.map V.int) (.of ha) (fun i ys σ G => G = H /\ ys = ((ns.map one1).take i).map V.int /\ i ≤ ns.length /\ ∃ y, σ = [y]) ⟨rfl, rfl, Nat.zero_le _, _, rfl⟩ (fun i ys σ G _ h => by rw [h.1]; exact .of ha) (fun i x ys σ G ex h => ?_) (fun ys σ G h p1 hp1 => ?_)
  · obtain ⟨rfl, rfl, hi, y, rfl⟩ := h
    obtain ⟨n, rfl, hn, n0, n1⟩ := sd_at sd ex
    have il := (List.getElem?_eq_some_iff.mp hn).1
    have e1 : ((ns.map one1).take (i + 1)).map V.int = ((ns.map one1).take i).map V.int ++ [V.int (one1 n)] := by rw [List.take_add_one, List.getElem?_map, hn, List.map_append]; rfl
    refine ⟨by rw [List.length_map, List.length_take, List.length_map]; exact z1b (by omega), ?_⟩
    wp_walk using tSeq, tIfS, one1_max n0
    exact ⟨e1.symm, il, _, rfl⟩
  · obtain ⟨rfl, rfl, hi, y, rfl⟩ := h
    rw [z0s, List.take_of_length_le (by rw [List.length_map]; exact Nat.le_refl _)]
    exact ⟨p1, rfl, _, .inl z0g, one_ok sd, q _ (z0b hp1 _)⟩
abbrev slawrecent : Stmt := top 63
def splawrecent : Sp := fun vs H Q _ => ∃ (a : Addr) (ks : List Int) (d : Int), vs = [.ref a, .int d] /\ H a = some (.lst (ks.map V.int)) /\ 0 < ks.length /\ ∀ k ∈ ks, Q (.int k) H
theorem sclawrecent : FnScope ["pool", "d"] ["pool", "d"] (defScope slawrecent) := ⟨rfl, rfl, rfl, by decide +kernel, rfl, by decide +kernel, by decide +kernel⟩
theorem oklawrecent (F : Fun K "_law_recent" "_law_recent" slawrecent f fd) (zlen : mg "len" = none) (zmin : mg "min" = none) : FnOk P w K mg base CX0 (1) f fd ["pool", "d"] (splawrecent) := by
  have sc := sclawrecent
  refine F.ok sc (fun vs H Q E h => ?_) (fun cdv A outer s H vs Q E hr h => ?_)
  · obtain ⟨a, ks, d, rfl, _⟩ := h; rfl
  obtain ⟨a, ks, d, rfl, ha, l0, q⟩ := h
  refine ⟨_, (z0d (z0y (z0i z1f (z0t z1u (pv 1) z0e) z0e (z0n _)) (z0f (z0l (z0u z0o (pv 0) (z0t z2b (z0t z2d (pv 1) z0e) (z0m z0j (by rfl) zlen PySem.boot_len (z0a (pv 0) z0c))) (fun _ _ => rfl)))) z0k) (z0f (z0l (z0u z0o (pv 0) (z0t z2y (z0t z2y (z0m z0j (by rfl) zlen PySem.boot_len (z0a (pv 0) z0c)) z0e) (z0t z2b (z0t z2d (pv 1) z0e) (z0m (z2m rfl) (by rfl) zmin boot_min (z0a z0e (z0a (z0m z0j (by rfl) zlen PySem.boot_len (z0a (pv 0) z0c)) z0c))))) (fun _ _ => rfl))))), ?_⟩
  simp only [L2.start, List.length_cons, List.length_nil, List.replicate, List.cons_append, List.nil_append, Nat.reduceSub, Nat.reduceAdd, List.map_cons, List.map_nil]
  wp_walk using tSeq, tIfS
  have l1 : (0 : Int) < ks.length := by omega
  split
  · refine ⟨_, .inl (.of ha), ?_⟩
    rw [z0s]
    have m0 := Int.fmod_nonneg_of_pos (d / 3) l1
    have m1 := Int.fmod_lt_of_pos (d / 3) l1
    exact ⟨by omega, _, ha, _, at_int m0 (get_some (to_lt m0 m1)), q _ (z3e (to_lt m0 m1))⟩
  · refine ⟨_, .inl (.of ha), _, .inl (.of ha), ?_⟩
    rw [z0s]
    have c3 : 0 < (if (ks.length : Int) < 3 then (ks.length : Int) else 3) /\ (if (ks.length : Int) < 3 then (ks.length : Int) else 3) ≤ ks.length := by split <;> omega
    generalize (if (ks.length : Int) < 3 then (ks.length : Int) else 3) = c at *
    have m0 := Int.fmod_nonneg_of_pos (d / 3) c3.1
    have m1 := Int.fmod_lt_of_pos (d / 3) c3.1
    generalize (d / 3).fmod c = r at *
    exact ⟨by omega, _, ha, _, at_int (i := (ks.length : Int) - 1 - r) (by omega) (get_some (by omega)), q _ (z3e (by omega))⟩
abbrev slawled : Stmt := top 65
def splawled : Sp := fun vs H Q _ => ∃ (a b : Addr) (ns ms : List Int), vs = [.ref a, .ref b] /\ Tp H a ns /\ Tp H b ms /\ ∀ H' b, Same H H' -> (b = true ↔ pairOk ns ms) -> Q (.bl b) H'
theorem sclawled : FnScope ["one", "other", "least"] ["one", "other"] (defScope slawled) := ⟨rfl, rfl, rfl, by decide +kernel, rfl, by decide +kernel, by decide +kernel⟩
theorem oklawled (F : Fun K "_law_led" "_law_led" slawled f fd) (zmin : mg "min" = none) (zlen : mg "len" = none) : FnOk P w K mg base CX0 (1) f fd ["one", "other"] (splawled) := by
  have sc := sclawled
  refine F.ok sc (fun vs H Q E h => ?_) (fun cdv A outer s H vs Q E hr h => ?_)
  · obtain ⟨a, b, ns, ms, rfl, _⟩ := h; rfl
  obtain ⟨a, b, ns, ms, rfl, ha, hb, q⟩ := h
  refine ⟨_, (z0d (z0z (i := 2) sc.nd rfl (by first | exact Or.inl rfl | exact Or.inr rfl) (z0m (z2m rfl) (by rfl) zmin boot_min (z0a (z0m z0j (by rfl) zlen PySem.boot_len (z0a (pv 0) z0c)) (z0a (z0m z0j (by rfl) zlen PySem.boot_len (z0a (pv 1) z0c)) z0c)))) (z0f (z0l (pe_cmpR (op_eqT hr.units0) (z1e z1s (pv 0) z1n (z1k (pv 2))) (z1e z1s (pv 1) z1n (z1k (pv 2))) (z0n _))))), ?_⟩
  simp only [L2.start, List.length_cons, List.length_nil, List.replicate, List.cons_append, List.nil_append, Nat.reduceSub, Nat.reduceAdd, List.map_cons, List.map_nil]
  wp_walk using tSeq, tIfS
  refine ⟨_, .inr (.of ha), _, .inr (.of hb), ?_⟩
  rw [z0s, z0s]
  by_cases c : ms.length < ns.length
  · rw [if_pos (Int.ofNat_lt.mpr c)]
    refine ⟨_, ha, fun r1 H1 s1 h1 => ⟨_, s1 _ _ hb, fun r2 H2 s2 h2 => ?_⟩⟩
    rw [z2e] at h1 h2
    refine ⟨_, .of (s2 _ _ h1), _, .of h2, z1j _, z1j _, q _ _ (s1.trans s2) ?_⟩
    rw [z1z, decide_eq_true_iff]
    exact pair_lo c
  · rw [if_neg (fun z => c (Int.ofNat_lt.mp z))]
    refine ⟨_, ha, fun r1 H1 s1 h1 => ⟨_, s1 _ _ hb, fun r2 H2 s2 h2 => ?_⟩⟩
    rw [z2e] at h1 h2
    refine ⟨_, .of (s2 _ _ h1), _, .of h2, z1j _, z1j _, q _ _ (s1.trans s2) ?_⟩
    rw [z1z, decide_eq_true_iff]
    exact pair_hi c
abbrev slawbegun : Stmt := top 64
def splawbegun : Sp := fun vs H Q _ => ∃ (kd n cell mo : Int), vs = [.int kd, .int n, .int cell, .int mo] /\ moOk mo /\ ∀ H' r, Same H H' -> (∀ Ss, MadeAt H' r mo Ss) -> Q (.ref r) H'
theorem sclawbegun : FnScope ["kind", "n", "cell", "most", "made", "part", "k", "free", "length"] ["kind", "n", "cell", "most"] (defScope slawbegun) := ⟨rfl, rfl, rfl, by decide +kernel, rfl, by decide +kernel, by decide +kernel⟩
theorem oklawbegun (F : Fun K "_law_begun" "_law_begun" slawbegun f fd) (clawnumber : Callee P w K mg base CX0 (2) "_law_number" ["n"] splawnumber) (clawwide : Callee P w K mg base CX0 (2) "_law_wide" ["sides"] splawwide) (zrange : mg "range" = none) (zmin : mg "min" = none) (zlen : mg "len" = none) : FnOk P w K mg base CX0 (3) f fd ["kind", "n", "cell", "most"] (splawbegun) := by
  have sc := sclawbegun
  refine F.ok sc (fun vs H Q E h => ?_) (fun cdv A outer s H vs Q E hr h => ?_)
  · obtain ⟨kd, n, cell, mo, rfl, _⟩ := h; rfl
  obtain ⟨kd, n, cell, mo, rfl, hmo, q⟩ := h
  refine ⟨_, (z0d (z0y (z0i z1f (pv 0) z0e (z0n _)) (z0f (z0l (z0w (z0a (z0w (z0a z0q (z0a (z0r clawnumber hr (by rfl) z1l (z0a (pv 2) z0c)) z0c))) (z0a (z0w z0c) z0c))))) z0k) (z0d (z0z (i := 4) sc.nd rfl (by first | exact Or.inl rfl | exact Or.inr rfl) (z0w z0c)) (z0d (z0z (i := 5) sc.nd rfl (by first | exact Or.inl rfl | exact Or.inr rfl) (z0t z2d (pv 1) z0e)) (z0d (z3b PassesOwn.never rfl (z2j (by rfl) zrange (z0a (z0t z1u (pv 5) z0e) z0c)) (z1h (i := 6) sc.nd rfl (Or.inl rfl)) (z0d (z0z (i := 5) sc.nd rfl (by first | exact Or.inl rfl | exact Or.inr rfl) (z0t z2d (pv 5) z0e)) (z0d (z0z (i := 7) sc.nd rfl (by first | exact Or.inl rfl | exact Or.inr rfl) (z0t z3v (pv 3) (z0r clawwide hr (by rfl) z1l (z0a (pv 4) z0c)))) (z0d (z0z (i := 8) sc.nd rfl (by first | exact Or.inl rfl | exact Or.inr rfl) (z0m (z2m rfl) (by rfl) zmin boot_min (z0a (z0u z0o (z2q (z0a z0e (z0a z0e (z0a z0e (z0a z0e (z0a z0e (z0a z0e (z0a z0e z0c)))))))) (z0t z1u (pv 5) z0e) (fun _ _ => rfl)) (z0a (pv 7) z0c)))) (z0d (z0y (z0i z1f (z0t z1u (pv 5) z0e) z0e (z0n _)) (z0f (z0z (i := 8) sc.nd rfl (by first | exact Or.inl rfl | exact Or.inr rfl) (pv 7))) z0k) (z0f (z0z (i := 4) sc.nd rfl (by first | exact Or.inl rfl | exact Or.inr rfl) (z0t z1x (pv 4) (z0w (z0a (pv 8) z0c)))))))))) (z0d (z0y (z0i z1f (pv 0) z0e (z0n _)) (z0f (z0l (z0w (z0a (z0w (z0a z0q (z0a (pv 4) z0c))) (z0a (pv 4) z0c))))) z0k) (z0d (z0y (z0i (op_eqT hr.units0) (pv 4) (z0w z0c) (z0n _)) (z0f (z0z (i := 4) sc.nd rfl (by first | exact Or.inl rfl | exact Or.inr rfl) (z0w (z0a (z0m (z2m rfl) (by rfl) zmin boot_min (z0a z0e (z0a (pv 3) z0c))) z0c)))) z0k) (z0f (z0l (z0w (z0a (z0w (z0a z0q (z0a (pv 4) (z0a (z0t z2b (z0t z2d (pv 1) z0e) (z0m z0j (by rfl) zlen PySem.boot_len (z0a (pv 4) z0c))) z0c)))) (z0a (pv 4) z0c))))))))))), ?_⟩
  simp only [L2.start, List.length_cons, List.length_nil, List.replicate, List.cons_append, List.nil_append, Nat.reduceSub, Nat.reduceAdd, List.map_cons, List.map_nil]
  refine z0h (fun σ G => G = H /\ σ = [some (.int kd), some (.int n), some (.int cell), some (.int mo), none, none, none, none, none]) ?_ (fun R hR => ?_)
  rotate_left
  · wp_walk using tSeq, tIfS, splawnumber
    split
    · exact fun G sg => ⟨small (by decide), fun p hp => ⟨Nat.zero_le _, fun p1 hp1 => ⟨small (by decide), fun p2 hp2 => q _ p2 (sg.trans ((z0b hp _).trans ((z0b hp1 _).trans (z0b hp2 _)))) fun Ss => ⟨p, p1, .num _, [], z0g, z0b hp2 _ _ _ (z0b hp1 _ _ _ z0g), z0b hp2 _ _ _ z0g, rfl, fitM_nil hmo⟩⟩⟩⟩
    · exact hR _ _ ⟨rfl, rfl⟩
  rintro σ1 G1 ⟨rfl, rfl⟩
  refine z0h (fun σ G => ∃ p, Same G1 G /\ Tp G p [] /\ σ = [some (.int kd), some (.int n), some (.int cell), some (.int mo), some (.ref p), none, none, none, none]) ?_ (fun R hR => ?_)
  rotate_left
  · wp_walk using tSeq, tIfS
    exact ⟨small (by decide), fun p hp => hR _ _ ⟨p, z0b hp _, z0g, rfl⟩⟩
  rintro σ2 G2 ⟨p, s2, hp, rfl⟩
  refine z0h (fun σ G => G = G2 /\ ∃ pt : Int, σ = [some (.int kd), some (.int n), some (.int cell), some (.int mo), some (.ref p), some (.int pt), none, none, none]) ?_ (fun R hR => ?_)
  rotate_left
  · wp_walk using tSeq, tIfS
    exact hR _ _ ⟨rfl, _, rfl⟩
  rintro σ3 G3 ⟨rfl, pt, rfl⟩
  refine z0h (fun σ G => ∃ (p : Addr) (ms : List Int) (pt : Int) (y6 y7 y8 : Option V), Same G1 G /\ Tp G p ms /\ fitM mo ms /\ ms.length ≤ 4 /\ σ = [some (.int kd), some (.int n), some (.int cell), some (.int mo), some (.ref p), some (.int pt), y6, y7, y8]) ?_ (fun R hR => ?_)
  rotate_left
  · wp_walk using rPopAt
    refine ⟨by omega, by omega, ?_⟩
    obtain ⟨J, hJ⟩ : ∃ J : Nat -> L2.St -> Hp -> Prop, J = (fun i σ G => ∃ (p : Addr) (ms : List Int) (pt : Int) (y6 y7 y8 : Option V), Same G1 G /\ Tp G p ms /\ fitM mo ms /\ ms.length = i /\ σ = [some (.int kd), some (.int n), some (.int cell), some (.int mo), some (.ref p), some (.int pt), y6, y7, y8]) := ⟨_, rfl⟩
    refine LoopR.mk J (by rw [hJ]; exact ⟨p, [], pt, _, _, _, s2, hp, fitM_nil hmo, rfl, rfl⟩) (fun i σ G0 hi h => ?_) (fun σ G h => ?_)
    rotate_left
    · rw [hJ] at h
      obtain ⟨p, ms, pt', y6, y7, y8, sG, hp, hf, ml, rfl⟩ := h
      exact hR _ _ ⟨p, ms, pt', _, _, _, sG, hp, hf, by omega, rfl⟩
    clear hR
    rw [hJ] at h
    obtain ⟨p, ms, pt', y6, y7, y8, sG, hp, hf, ml, rfl⟩ := h
    have i4 : i ≤ 4 := by omega
    have sdm : sdOk ms := fun n hn => by have := hf.1 n hn; have := hmo.2; exact ⟨by omega, by omega⟩
    have pb := hf.2.2
    simp only [gName, List.set_cons_succ, List.set_cons_zero]
    refine z0h (fun σ G => G = G0 /\ ∃ pt : Int, σ = [some (.int kd), some (.int n), some (.int cell), some (.int mo), some (.ref p), some (.int pt), some (.int (0 + (i : Int))), y7, y8]) ?_ (fun R hR => ?_)
    rotate_left
    · wp_walk using tSeq, tIfS
      exact hR _ _ ⟨rfl, _, rfl⟩
    rintro σ1 G1' ⟨rfl, pt, rfl⟩
    refine z0h (fun σ G => Same G1' G /\ σ = [some (.int kd), some (.int n), some (.int cell), some (.int mo), some (.ref p), some (.int pt), some (.int (0 + (i : Int))), some (.int (mo / prodI (ms.map one1))), y8]) ?_ (fun R hR => ?_)
    rotate_left
    · wp_walk using tSeq, tIfS, splawwide
      have m2 := hmo.2
      refine ⟨ms, hp, sdm, by omega, fun G s => ⟨by omega, by omega, by omega, ?_⟩⟩
      rw [Int.fdiv_eq_ediv_of_nonneg _ (by omega)]
      exact hR _ _ ⟨s, rfl⟩
    rintro σ2 G2' ⟨u2, rfl⟩
    have d1 : 1 ≤ mo / prodI (ms.map one1) := div_one pb.1 pb.2
    have fs := fun n => fitM_snoc (n := n) hf (by omega)
    generalize mo / prodI (ms.map one1) = fr at *
    refine z0h (fun σ G => Same G2' G /\ ∃ x : Int, 0 ≤ x /\ x ≤ fr /\ σ = [some (.int kd), some (.int n), some (.int cell), some (.int mo), some (.ref p), some (.int pt), some (.int (0 + (i : Int))), some (.int fr), some (.int x)]) ?_ (fun R hR => ?_)
    rotate_left
    · wp_walk using tSeq, tIfS
      obtain ⟨x, hx, x0⟩ := sevn_at (pt % 7) (by omega) (by omega)
      exact ⟨small (by decide), fun l hl => ⟨_, hx, _, rfl, hR _ _ ⟨z0b hl _, _, by split <;> omega, by split <;> omega, rfl⟩⟩⟩
    rintro σ3 G3' ⟨u3, x, x0, x1, rfl⟩
    refine z0h (fun σ G => G = G3' /\ ∃ x : Int, 0 ≤ x /\ x ≤ fr /\ σ = [some (.int kd), some (.int n), some (.int cell), some (.int mo), some (.ref p), some (.int pt), some (.int (0 + (i : Int))), some (.int fr), some (.int x)]) ?_ (fun R hR => ?_)
    rotate_left
    · wp_walk using tSeq, tIfS
      split
      · exact hR _ _ ⟨rfl, _, by omega, Int.le_refl _, rfl⟩
      · exact hR _ _ ⟨rfl, _, x0, x1, rfl⟩
    rintro σ4 G4' ⟨rfl, x, x0, x1, rfl⟩
    wp_walk using tSeq, tIfS
    have hp4 := (u2.trans u3) _ _ hp
    refine ⟨small (by decide), fun t ht => ⟨_, z0b ht _ _ _ hp4, small (by rw [List.length_map]; omega), fun r G s hr => ?_⟩⟩
    rw [hJ]
    exact ⟨r, ms ++ [x], _, _, _, _, sG.trans (u2.trans (u3.trans ((z0b ht _).trans s))), by show _ = _; rw [hr, List.map_append]; rfl, fs x x0 x1, by rw [List.length_append, ml]; rfl, rfl⟩
  rintro σ4 G4 ⟨p, ms, pt, y6, y7, y8, s4, hp, hf, m4, rfl⟩
  refine z0h (fun σ G => G = G4 /\ σ = [some (.int kd), some (.int n), some (.int cell), some (.int mo), some (.ref p), some (.int pt), y6, y7, y8]) ?_ (fun R hR => ?_)
  rotate_left
  · wp_walk using tSeq, tIfS
    split
    · exact ⟨small (by decide), fun p1 hp1 => ⟨small (by decide), fun p2 hp2 => q _ p2 (s4.trans ((z0b hp1 _).trans (z0b hp2 _))) fun Ss => ⟨p1, p, .inp ms, ms, z0g, ⟨p, z0b hp2 _ _ _ z0g, z0b hp2 _ _ _ (z0b hp1 _ _ _ hp)⟩, z0b hp2 _ _ _ (z0b hp1 _ _ _ hp), ⟨rfl, z3w (z3i hf hmo)⟩, hf⟩⟩⟩
    · exact hR _ _ ⟨rfl, rfl⟩
  rintro σ5 G5 ⟨rfl, rfl⟩
  refine z0h (fun σ G => ∃ (p : Addr) (ms : List Int), Same G1 G /\ Tp G p ms /\ fitM mo ms /\ 0 < ms.length /\ σ = [some (.int kd), some (.int n), some (.int cell), some (.int mo), some (.ref p), some (.int pt), y6, y7, y8]) ?_ (fun R hR => ?_)
  rotate_left
  · wp_walk using tSeq, tIfS
    have m2 := hmo.1
    refine ⟨Nat.zero_le _, fun p1 hp1 => ⟨_, .of (z0b hp1 _ _ _ hp), _, .of z0g, z1j _, rfl, ?_⟩⟩
    rw [show ([] : List V) = ([] : List Int).map V.int from rfl, z1z]
    by_cases c : ms = []
    · rw [decide_eq_true c, if_pos rfl]
      have x0 : 0 ≤ (if mo < 3 then mo else 3) /\ (if mo < 3 then mo else 3) ≤ mo := by split <;> omega
      exact ⟨small (by decide), fun p2 hp2 => hR _ _ ⟨p2, [if mo < 3 then mo else 3], s4.trans ((z0b hp1 _).trans (z0b hp2 _)), z0g, fitM_snoc (ns := []) (fitM_nil hmo) (by decide) x0.1 (by show _ ≤ mo / 1; rw [Int.ediv_one]; exact x0.2), Nat.zero_lt_succ _, rfl⟩⟩
    · rw [decide_eq_false c, if_neg (by decide)]
      exact hR _ _ ⟨p, ms, s4.trans (z0b hp1 _), z0b hp1 _ _ _ hp, hf, List.length_pos_iff.mpr c, rfl⟩
  rintro σ6 G6 ⟨p, ms, s6, hp, hf, m0, rfl⟩
  wp_walk using tSeq, tIfS
  refine ⟨_, .inr (.of hp), ?_⟩
  rw [z0s]
  have f0 := Int.fmod_nonneg_of_pos (n / 15) (show (0 : Int) < ms.length by omega)
  have f1 := Int.fmod_lt_of_pos (n / 15) (show (0 : Int) < ms.length by omega)
  exact ⟨by omega, small (by decide), fun p1 hp1 => ⟨small (by decide), fun p2 hp2 => q _ p2 (s6.trans ((z0b hp1 _).trans (z0b hp2 _))) fun Ss => ⟨p1, p, .count ms ((n / 15).fmod ms.length), ms, z0g, ⟨p, z0b hp2 _ _ _ z0g, z0b hp2 _ _ _ (z0b hp1 _ _ _ hp)⟩, z0b hp2 _ _ _ (z0b hp1 _ _ _ hp), ⟨rfl, z3w (z3i hf hmo), fun z => by unfold off at z; omega⟩, hf⟩⟩⟩
abbrev slawlaid : Stmt := top 67
def splawlaid : Sp := fun vs H Q _ => ∃ (a : Addr) (ns : List Int) (d mo : Int), vs = [.ref a, .int d] /\ Tp H a ns /\ fitM mo ns /\ moOk mo /\ ∀ H' p, Same H H' -> Tp H' p (laidL ns d) -> Q (.ref p) H'
theorem sclawlaid : FnScope ["own", "d", "size"] ["own", "d"] (defScope slawlaid) := ⟨rfl, rfl, rfl, by decide +kernel, rfl, by decide +kernel, by decide +kernel⟩
theorem oklawlaid (F : Fun K "_law_laid" "_law_laid" slawlaid f fd) (clawsize : Callee P w K mg base CX0 (1) "_law_size" ["sides"] splawsize) (zlen : mg "len" = none) (ztuple : mg "tuple" = none) (zreversed : mg "reversed" = none) : FnOk P w K mg base CX0 (2) f fd ["own", "d"] (splawlaid) := by
  have sc := sclawlaid
  refine F.ok sc (fun vs H Q E h => ?_) (fun cdv A outer s H vs Q E hr h => ?_)
  · obtain ⟨a, ns, d, mo, rfl, _⟩ := h; rfl
  obtain ⟨a, ns, d, mo, rfl, ha, hf, hmo, q⟩ := h
  refine ⟨_, (z0d (z0z (i := 2) sc.nd rfl (by first | exact Or.inl rfl | exact Or.inr rfl) (z0r clawsize hr (by rfl) z1l (z0a (pv 0) z0c))) (z0d (z0y (z0i z1f (z0t z1u (pv 1) z0e) z0e (z0n _)) (z0f (z0l (z0w (z0a (pv 2) z0c)))) z0k) (z0d (z0y (PW.pt (pw_and (z0i z1f (z0t z1u (pv 1) z0e) z0e (z0n _)) (z3k (z0i z3l (z0m z0j (by rfl) zlen PySem.boot_len (z0a (pv 0) z0c)) z0e (z0n _))))) (z0f (z0l (z0t z1x (z0w (z0a z0e z0c)) (pv 0)))) z0k) (z0d (z0y (PW.pt (pw_and (z0i z1f (z0t z1u (pv 1) z0e) z0e (z0n _)) (z3k (z0i z1f (z0t z1u (pv 2) z0e) z0e (z0n _))))) (z0f (z0l (z0w (z0a (z0t z2d (pv 2) z0e) (z0a z0e z0c))))) z0k) (z0f (z0l (pe_tupRevT rfl (by rfl) (by rfl) ztuple zreversed (pv 0)))))))), ?_⟩
  simp only [L2.start, List.length_cons, List.length_nil, List.replicate, List.cons_append, List.nil_append, Nat.reduceSub, Nat.reduceAdd, List.map_cons, List.map_nil]
  wp_walk using tSeq, tIfS, splawsize
  refine ⟨ns, .inr ha, fitM_sd hf hmo, ?_⟩
  unfold laidL at q
  by_cases c1 : d % 4 = 1
  · rw [if_pos c1] at q ⊢
    exact ⟨small (by decide), fun p hp => q _ p (z0b hp _) z0g⟩
  rw [if_neg c1] at q ⊢
  have rest : (∀ H' p, Same H H' -> Tp H' p (if d % 4 = 3 /\ prodI ns % 2 = 0 then [prodI ns / 2, 2] else ns.reverse) -> Q (.ref p) H') -> (if d % 4 = 3 then (if prodI ns % 2 = 0 then 2 ≤ sizeLine /\ ∀ p, H p = none -> Q (V.ref p) (upd H p (HO.tup [V.int (prodI ns / 2), V.int 2])) else ∃ xs, SqT K H a xs /\ ∀ p, H p = none -> Q (V.ref p) (upd H p (HO.tup xs.reverse))) else ∃ xs, SqT K H a xs /\ ∀ p, H p = none -> Q (V.ref p) (upd H p (HO.tup xs.reverse))) := fun q => by
    by_cases c3 : d % 4 = 3
    · rw [if_pos c3]
      by_cases c4 : prodI ns % 2 = 0
      · rw [if_pos ⟨c3, c4⟩] at q
        rw [if_pos c4]
        exact ⟨small (by decide), fun p hp => q _ p (z0b hp _) z0g⟩
      · rw [if_neg (fun z => c4 z.2)] at q
        rw [if_neg c4]
        exact ⟨_, .of ha, fun p hp => q _ p (z0b hp _) (by show _ = _; rw [z0g, List.map_reverse])⟩
    · rw [if_neg (fun z => c3 z.1)] at q
      rw [if_neg c3]
      exact ⟨_, .of ha, fun p hp => q _ p (z0b hp _) (by show _ = _; rw [z0g, List.map_reverse])⟩
  by_cases c2 : d % 4 = 2
  · rw [if_pos c2]
    refine ⟨_, .inr (.of ha), ?_⟩
    rw [z0s]
    by_cases c6 : ns.length < 6
    · rw [if_pos ⟨c2, c6⟩] at q
      rw [if_pos (by omega)]
      exact ⟨small (by decide), fun p hp => ⟨_, z0b hp _ _ _ ha, small (by rw [List.length_map]; omega), fun r G s hr => q _ r ((z0b hp _).trans s) hr⟩⟩
    · rw [if_neg (fun z => c6 z.2)] at q
      rw [if_neg (by omega)]
      exact rest q
  · rw [if_neg (fun z => c2 z.1)] at q
    rw [if_neg c2]
    exact rest q
abbrev slawboth : Stmt := top 69
def splawboth : Sp := fun vs H Q _ => ∃ (a b : Addr) (A B : List Int) (k : Nat), vs = [.ref a, .ref b, .int (k : Int)] /\ Tp H a A /\ Tp H b B /\ k < A.length /\ A.length ≤ 6 /\ B.length ≤ 6 /\ ∀ H' p, Same H H' -> Tp H' p (bothL A B k) -> Q (.ref p) H'
theorem sclawboth : FnScope ["own", "other", "side"] ["own", "other", "side"] (defScope slawboth) := ⟨rfl, rfl, rfl, by decide +kernel, rfl, by decide +kernel, by decide +kernel⟩
theorem oklawboth (F : Fun K "_law_both" "_law_both" slawboth f fd) (zlen : mg "len" = none) : FnOk P w K mg base CX0 (1) f fd ["own", "other", "side"] (splawboth) := by
  have sc := sclawboth
  refine F.ok sc (fun vs H Q E h => ?_) (fun cdv A outer s H vs Q E hr h => ?_)
  · obtain ⟨a, b, A, B, k, rfl, _⟩ := h; rfl
  obtain ⟨a, b, A, B, k, rfl, ha, hb, kl, a6, b6, q⟩ := h
  refine ⟨_, (z0d (z0y (PW.pt (pw_or (z0i op_ne (z0m z0j (by rfl) zlen PySem.boot_len (z0a (pv 0) z0c)) (z0m z0j (by rfl) zlen PySem.boot_len (z0a (pv 1) z0c)) (z0n _)) (z2w (z0i (op_neT hr.units0) (z0t z1x (z1e z1s (pv 0) z1n (z1k (pv 2))) (z1e z1s (pv 0) (z1k (z0t z2a (pv 2) z0e)) z1n)) (z0t z1x (z1e z1s (pv 1) z1n (z1k (pv 2))) (z1e z1s (pv 1) (z1k (z0t z2a (pv 2) z0e)) z1n)) (z0n _))))) (z0f (z0l (z0w z0c))) z0k) (z0f (z0l (z0t z1x (z0t z1x (z1e z1s (pv 0) z1n (z1k (pv 2))) (z0w (z0a (z0t z2a (z0u z0v (pv 0) (pv 2) (fun _ _ => rfl)) (z0u z0v (pv 1) (pv 2) (fun _ _ => rfl))) z0c))) (z1e z1s (pv 0) (z1k (z0t z2a (pv 2) z0e)) z1n))))), ?_⟩
  simp only [L2.start, List.length_cons, List.length_nil, List.replicate, List.cons_append, List.nil_append, Nat.reduceSub, Nat.reduceAdd, List.map_cons, List.map_nil]
  refine z0h (fun σ G => Same H G /\ A.length = B.length /\ A.eraseIdx k = B.eraseIdx k /\ σ = [some (.ref a), some (.ref b), some (.int (k : Int))]) ?_ (fun R hR => ?_)
  rotate_left
  · wp_walk using tSeq, tIfS
    refine ⟨_, .inr (.of ha), _, .inr (.of hb), ?_⟩
    rw [z0s, z0s]
    by_cases c : A.length = B.length
    rotate_left
    · rw [if_pos (fun z => c (Int.ofNat_inj.mp z))]
      exact ⟨Nat.zero_le _, fun p hp => q _ p (z0b hp _) (by show _ = _; unfold bothL; rw [if_neg (fun z => c z.1)]; exact z0g)⟩
    rw [if_neg (fun z => z (by rw [c]))]
    refine ⟨_, ha, fun r1 H1 s1 h1 => ⟨_, s1 _ _ ha, fun r2 H2 s2 h2 => ?_⟩⟩
    rw [z2e] at h1
    rw [show (k : Int) + 1 = ((k + 1 : Nat) : Int) by omega, z2i] at h2
    refine ⟨_, s2 _ _ h1, _, h2, small (by simp only [List.length_map, List.length_take, List.length_drop]; omega), fun r3 H3 s3 h3 => ?_⟩
    have t3 := s1.trans (s2.trans s3)
    refine ⟨_, t3 _ _ hb, fun r4 H4 s4 h4 => ⟨_, s4 _ _ (t3 _ _ hb), fun r5 H5 s5 h5 => ?_⟩⟩
    rw [z2e] at h4
    rw [show (k : Int) + 1 = ((k + 1 : Nat) : Int) by omega, z2i] at h5
    refine ⟨_, s5 _ _ h4, _, h5, small (by simp only [List.length_map, List.length_take, List.length_drop]; omega), fun r6 H6 s6 h6 => ?_⟩
    rw [← List.map_append, ← List.eraseIdx_eq_take_drop_succ] at h3 h6
    refine ⟨_, .of ((s4.trans (s5.trans s6)) _ _ h3), _, .of h6, z1j _, z1j _, ?_⟩
    have t6 := t3.trans (s4.trans (s5.trans s6))
    rw [z1z]
    by_cases c2 : A.eraseIdx k = B.eraseIdx k
    · rw [decide_eq_true c2, if_neg (by decide)]
      exact hR _ _ ⟨t6, c, c2, rfl⟩
    · rw [decide_eq_false c2, if_pos rfl]
      exact ⟨Nat.zero_le _, fun p hp => q _ p (t6.trans (z0b hp _)) (by show _ = _; unfold bothL; rw [if_neg (fun z => c2 z.2)]; exact z0g)⟩
  rintro σ1 G1 ⟨s1, c, c2, rfl⟩
  wp_walk using tSeq, tIfS
  have ha1 := s1 _ _ ha
  have hb1 := s1 _ _ hb
  refine ⟨_, ha1, fun r1 H1 s2 h1 => ?_⟩
  rw [z2e] at h1
  refine ⟨_, s2 _ _ ha1, _, at_side kl, _, s2 _ _ hb1, _, at_side (by omega), _, rfl, _, rfl, small (by decide), fun p hp => ⟨_, z0b hp _ _ _ h1, small (by simp only [List.length_map, List.length_take]; omega), fun r2 H2 s3 h2 => ?_⟩⟩
  have t3 := s2.trans ((z0b hp (.tup [V.int (A.getD k 0 + B.getD k 0)])).trans s3)
  refine ⟨_, t3 _ _ ha1, fun r3 H3 s4 h3 => ?_⟩
  rw [show (k : Int) + 1 = ((k + 1 : Nat) : Int) by omega, z2i] at h3
  refine ⟨_, s4 _ _ h2, _, h3, small (by simp only [List.length_append, List.length_map, List.length_take, List.length_drop, List.length_cons, List.length_nil]; omega), fun r4 H4 s5 h4 => q _ r4 (s1.trans (t3.trans (s4.trans s5))) ?_⟩
  show _ = _
  unfold bothL joinL
  rw [if_pos ⟨c, c2⟩, Int.toNat_natCast, h4, ← set_mid kl, List.map_append, List.map_append]; rfl
abbrev slawmoved : Stmt := top 68
theorem sclawmoved : FnScope ["kind", "d", "a", "own", "most", "order", "part", "k", "place", "length", "side", "gap", "first", "many"] ["kind", "d", "a", "own", "most"] (defScope slawmoved) := ⟨rfl, rfl, rfl, by decide +kernel, rfl, by decide +kernel, by decide +kernel⟩
theorem oklawmoved (F : Fun K "_law_moved" "_law_moved" slawmoved f fd) (clawlaid : Callee P w K mg base CX0 (2) "_law_laid" ["own", "d"] splawlaid) (clawwide : Callee P w K mg base CX0 (2) "_law_wide" ["sides"] splawwide) (zrange : mg "range" = none) (zlen : mg "len" = none) (ztuple : mg "tuple" = none) (zmin : mg "min" = none) (zmax : mg "max" = none) : FnOk P w K mg base CX0 (3) f fd ["kind", "d", "a", "own", "most"] ((splmoved K)) := by
  have sc := sclawmoved
  refine F.ok sc (fun vs H Q E h => ?_) (fun cdv A outer s H vs Q E hr h => ?_)
  · obtain ⟨dl, o, kd, mo, d0, d1, d2, a, A, Ss, rfl, _⟩ := h; rfl
  obtain ⟨dl, o, kd, mo, d0, d1, d2, a, A, Ss, rfl, hd, ho, ea, hf, hmo, q⟩ := h
  refine ⟨_, (z0d (z0y (z0i z1f (pv 0) z0e (z0n _)) (z0d (z0z (i := 5) sc.nd rfl (by first | exact Or.inl rfl | exact Or.inr rfl) (z2q z0c)) (z0d (z0z (i := 6) sc.nd rfl (by first | exact Or.inl rfl | exact Or.inr rfl) (z0u z0o (pv 1) z0e (fun _ _ => rfl))) (z0d (z3b PassesOwn.never rfl (z2j (by rfl) zrange (z0a (z0m z0j (by rfl) zlen PySem.boot_len (z0a (pv 3) z0c)) z0c)) (z1h (i := 7) sc.nd rfl (Or.inl rfl)) (z0d (z1w (pe_bm PySem.F.plainAttrs_list PySem.F.slot_list_insert PySem.F.type_list_insert mt_insert (pv 5) (z0a (z0t z2b (pv 6) (z0t z2a (pv 7) z0e)) (z0a (pv 7) z0c)))) (z0f (z0z (i := 6) sc.nd rfl (by first | exact Or.inl rfl | exact Or.inr rfl) (z0t z3v (pv 6) (z0t z2a (pv 7) z0e)))))) (z0f (z0l (z0w (z0a (z0w (z0a z0q (z0a (pv 2) (z0a (z1i z1m (by rfl) ztuple boot_tuple (z0a (pv 5) z0c)) z0c)))) (z0a (z1i z1m (by rfl) ztuple boot_tuple (z0a (z3d (own := ["k"]) (fv := ["own"]) (js := [3]) rfl (z2p (pv 5)) rfl (by decide) rfl (by decide) (by first | exact fun _ _ h => h | exact z2h rfl | exact z2g rfl rfl | exact z2f rfl rfl rfl) (z2r (by rfl)) rfl (cap1 (by first | exact ⟨rfl, .inl rfl, .inl rfl⟩ | exact ⟨rfl, .inl rfl, .inr rfl⟩)) (fun _ _ _ _ => (z1h (i := 0) (show (["k", "own"] : List Str).Nodup by decide +kernel) rfl (Or.inl rfl))) (fun _ _ _ _ => (z0u z0v (pv 1) (pv 0) (fun _ _ => rfl)))) z0c)) z0c)))))))) z0k) (z0d (z0y (z0i z1f (pv 0) z0e (z0n _)) (z0f (z0l (z0w (z0a (z0w (z0a z0q (z0a (pv 2) (z0a (z0r clawlaid hr (by rfl) z1l (z0a (pv 3) (z0a (z0u z0o (pv 1) z0e (fun _ _ => rfl)) z0c))) z0c)))) (z0a (z0r clawlaid hr (by rfl) z1l (z0a (pv 3) (z0a (z0u z0o (pv 1) z0e (fun _ _ => rfl)) z0c))) z0c))))) z0k) (z0d (z0y (PW.pt (pw_or (z0i (op_eqT hr.units0) (pv 3) (z0w z0c) (z0n _)) (z2w (PW.pt (pw_and (z0i z1f (pv 0) z0e (z0n _)) (z3k (z0i z3l (z0m z0j (by rfl) zlen PySem.boot_len (z0a (pv 3) z0c)) z0e (z0n _)))))))) (z0d (z0z (i := 8) sc.nd rfl (by first | exact Or.inl rfl | exact Or.inr rfl) (z0t z2b (z0u z0o (pv 1) z0e (fun _ _ => rfl)) (z0t z2a (z0m z0j (by rfl) zlen PySem.boot_len (z0a (pv 3) z0c)) z0e))) (z0d (z0z (i := 9) sc.nd rfl (by first | exact Or.inl rfl | exact Or.inr rfl) (z0t z2a z0e (z0t z2b (z0u z0o (pv 1) z0e (fun _ _ => rfl)) (z0m (z2m rfl) (by rfl) zmin boot_min (z0a z0e (z0a (z0t z3v (pv 4) (z0r clawwide hr (by rfl) z1l (z0a (pv 3) z0c))) z0c)))))) (z0d (z0y (z0i z1f (z0t z1u (z0u z0o (pv 1) z0e (fun _ _ => rfl)) z0e) z0e (z0n _)) (z0f (z0z (i := 9) sc.nd rfl (by first | exact Or.inl rfl | exact Or.inr rfl) z0e)) z0k) (z0f (z0l (z0w (z0a (z0w (z0a z0q (z0a (pv 2) (z0a (pv 8) (z0a (pv 9) z0c))))) (z0a (z0t z1x (z0t z1x (z1e z1s (pv 3) z1n (z1k (pv 8))) (z0w (z0a (pv 9) z0c))) (z1e z1s (pv 3) (z1k (pv 8)) z1n)) z0c)))))))) z0k) (z0d (z0z (i := 10) sc.nd rfl (by first | exact Or.inl rfl | exact Or.inr rfl) (z0t z2b (z0u z0o (pv 1) z0e (fun _ _ => rfl)) (z0m z0j (by rfl) zlen PySem.boot_len (z0a (pv 3) z0c)))) (z0d (z0y (z0i op_ne (pv 0) z0e (z0n _)) (z0f (z0l (z0w (z0a (z0w (z0a z0q (z0a (pv 2) (z0a (pv 10) z0c)))) (z0a (pv 3) z0c))))) z0k) (z0d (z0z (i := 11) sc.nd rfl (by first | exact Or.inl rfl | exact Or.inr rfl) (z0t z2a z0e (z0t z1u (z0u z0o (pv 1) z0e (fun _ _ => rfl)) z0e))) (z0d (z0z (i := 12) sc.nd rfl (by first | exact Or.inl rfl | exact Or.inr rfl) (z0t z2b (z0t z2d (z0u z0o (pv 1) z0e (fun _ _ => rfl)) z0e) (z0m (z3x rfl) (by rfl) zmax boot_max (z0a z0e (z0a (z0u z0v (pv 3) (pv 10) (fun _ _ => rfl)) z0c))))) (z0d (z0z (i := 13) sc.nd rfl (by first | exact Or.inl rfl | exact Or.inr rfl) (z0m (z3x rfl) (by rfl) zmax boot_max (z0a z0e (z0a (z0t z2y (z0t z2a (z0t z3v (z0t z2y (z0t z2y (z0u z0v (pv 3) (pv 10) (fun _ _ => rfl)) z0e) (pv 12)) (pv 11)) z0e) (z0t z1u (z0t z2d (z0u z0o (pv 1) z0e (fun _ _ => rfl)) z0e) z0e)) z0c)))) (z0f (z0l (z0w (z0a (z0w (z0a z0q (z0a (pv 2) (z0a (pv 10) (z0a (pv 12) (z0a (pv 13) (z0a (pv 11) z0c))))))) (z0a (z0t z1x (z0t z1x (z1e z1s (pv 3) z1n (z1k (pv 10))) (z0w (z0a (pv 13) z0c))) (z1e z1s (pv 3) (z1k (z0t z2a (pv 10) z0e)) z1n)) z0c))))))))))))), ?_⟩
  simp only [L2.start, List.length_cons, List.length_nil, List.replicate, List.cons_append, List.nil_append, Nat.reduceSub, Nat.reduceAdd, List.map_cons, List.map_nil]
  have a6 := hf.2.1
  have sd := fitM_sd hf hmo
  refine z0h (fun σ G => G = H /\ σ = [some (.int kd), some (.ref dl), some (.int (a : Int)), some (.ref o), some (.int mo), none, none, none, none, none, none, none, none, none]) ?_ (fun R hR => ?_)
  rotate_left
  · wp_walk using tSeq, tIfS
    split
    rotate_left
    · exact hR _ _ ⟨rfl, rfl⟩
    refine ⟨Nat.zero_le _, fun l hl => ⟨_, z0b hl _ _ _ hd, _, z0p (j := 2) rfl, _, .inr (.of (z0b hl _ _ _ ho)), ?_⟩⟩
    rw [z0s]
    refine ⟨by omega, by omega, ?_⟩
    rw [Int.toNat_natCast]
    obtain ⟨J, hJ⟩ : ∃ J : Nat -> L2.St -> Hp -> Prop, J = (fun i σ G => ∃ (os : List Int) (pt : V) (y : Option V), Same H G /\ G l = some (.lst (os.map V.int)) /\ os.Perm (upL i) /\ (∃ n : Int, pt = .int n) /\ σ = [some (.int kd), some (.ref dl), some (.int (a : Int)), some (.ref o), some (.int mo), some (.ref l), some pt, y, none, none, none, none, none, none]) := ⟨_, rfl⟩
    refine LoopR.mk J (by rw [hJ]; exact ⟨[], _, _, z0b hl _, z0g, List.Perm.refl _, ⟨_, rfl⟩, rfl⟩) (fun i σ G hi h => ?_) (fun σ G h => ?_)
    · rw [hJ] at h
      obtain ⟨os, pt, y, sG, hos, pm, ⟨n, rfl⟩, rfl⟩ := h
      have ol : os.length = i := by rw [pm.length_eq, up_len]
      wp_walk using tSeq, tIfS, Int.zero_add
      have f0 := Int.fmod_nonneg_of_pos n (show (0 : Int) < (i : Int) + 1 by omega)
      have f1 := Int.fmod_lt_of_pos n (show (0 : Int) < (i : Int) + 1 by omega)
      refine ⟨.inl ⟨_, .of hos⟩, by omega, _, hos, f0, by rw [z0s, ol]; omega, by rw [List.length_map]; exact z1b (by omega), by omega, by omega, by omega, ?_⟩
      rw [hJ]
      obtain ⟨j, hj⟩ : ∃ j : Nat, n.fmod ((i : Int) + 1) = j := ⟨_, (Int.toNat_of_nonneg f0).symm⟩
      rw [hj, Int.toNat_natCast]
      exact ⟨os.take j ++ (i : Int) :: os.drop j, _, _, z2n sG hl, by rw [z0g, List.map_append, List.map_cons, List.map_take, List.map_drop], ins_perm pm, ⟨_, rfl⟩, rfl⟩
    · rw [hJ] at h
      obtain ⟨os, pt, y, sG, hos, pm, ⟨n, rfl⟩, rfl⟩ := h
      have ol : os.length = A.length := by rw [pm.length_eq, up_len]
      have om : ∀ z ∈ os, 0 ≤ z /\ z < (A.length : Int) := fun z hz => up_mem.mp (pm.subset hz)
      wp_walk using tSeq, tIfS
      refine ⟨_, .inl ⟨.of hos, fun t ht => ⟨small (by decide), fun p hp => ?_⟩⟩⟩
      have u := (z0b ht (.tup (os.map V.int))).trans (z0b hp (.tup [V.str (Str.ofString "turn"), V.int (a : Int), V.ref t]))
      have hos2 := u _ _ hos
      have ho2 := (sG.trans u) _ _ ho
      have hp2 : upd (upd G t (.tup (os.map V.int))) p (.tup [V.str (Str.ofString "turn"), V.int (a : Int), V.ref t]) p = some (.tup [V.str (Str.ofString "turn"), V.int (a : Int), V.ref t]) := z0g
      have ht2 : upd (upd G t (.tup (os.map V.int))) p (.tup [V.str (Str.ofString "turn"), V.int (a : Int), V.ref t]) t = some (.tup (os.map V.int)) := z0b hp _ _ _ z0g
      generalize upd (upd G t (.tup (os.map V.int))) p (.tup [V.str (Str.ofString "turn"), V.int (a : Int), V.ref t]) = G3 at *
      refine CompL.mk (xs := os.map V.int) (.of hos2) (fun i ys σ G' => G' = G3 /\ i ≤ os.length /\ ys = (turnL A (os.take i)).map V.int /\ ∃ y, σ = [y, some (.ref o)]) ⟨rfl, Nat.zero_le _, rfl, _, rfl⟩ (fun i ys σ G' _ h => by rw [h.1]; exact .of hos2) (fun i x ys σ G' e h => ?_) (fun ys σ G' h p1 hp1 => ?_)
      · obtain ⟨rfl, hi, rfl, y, rfl⟩ := h
        obtain ⟨z, rfl, hz⟩ := int_at e
        have il := (List.getElem?_eq_some_iff.mp hz).1
        have zb := om z (List.mem_of_getElem? hz)
        have e1 : (turnL A (os.take (i + 1))).map V.int = (turnL A (os.take i)).map V.int ++ [V.int (A.getD z.toNat 0)] := by
          unfold turnL; rw [List.take_add_one, hz, List.map_append, List.map_append]; rfl
        refine ⟨by unfold turnL; rw [List.length_map, List.length_map, List.length_take]; exact z1b (by omega), ?_⟩
        wp_walk using tSeq, tIfS, e1
        exact ⟨_, ho2, _, at_in zb.1 zb.2, il, rfl, _, rfl⟩
      · obtain ⟨rfl, hi, rfl, y, rfl⟩ := h
        rw [z0s, List.take_length]
        exact ⟨p1, rfl, _, .inl ⟨.of z0g, fun l2 hl2 => ⟨small (by decide), fun p4 hp4 => q _ p4 (sG.trans (u.trans ((z0b hp1 _).trans ((z0b hl2 _).trans (z0b hp4 _))))) ⟨p, l2, .turn a os, turnL A os, z0g, ⟨t, z0b hp4 _ _ _ (z0b hl2 _ _ _ (z0b hp1 _ _ _ hp2)), z0b hp4 _ _ _ (z0b hl2 _ _ _ (z0b hp1 _ _ _ ht2))⟩, z0b hp4 _ _ _ z0g, ⟨A, ea, pm, rfl⟩, fitM_turn hf pm⟩⟩⟩⟩
  rintro σ1 G1 ⟨rfl, rfl⟩
  refine z0h (fun σ G => G = G1 /\ σ = [some (.int kd), some (.ref dl), some (.int (a : Int)), some (.ref o), some (.int mo), none, none, none, none, none, none, none, none, none]) ?_ (fun R hR => ?_)
  rotate_left
  · wp_walk using tSeq, tIfS, splawlaid
    split
    rotate_left
    · exact hR _ _ ⟨rfl, rfl⟩
    have lo := laid_ok (d := d2) hf hmo
    refine ⟨_, hd, _, z0p (j := 2) rfl, A, d2, rfl, ho, mo, hf, hmo, fun G p s hp => ⟨small (by decide), fun p1 hp1 => ?_⟩⟩
    have u := s.trans (z0b hp1 (.tup [V.str (Str.ofString "lay"), V.int (a : Int), V.ref p]))
    exact ⟨_, u _ _ hd, _, z0p (j := 2) rfl, A, d2, rfl, u _ _ ho, mo, hf, hmo, fun G2 p2 s2 hp2 => ⟨small (by decide), fun p3 hp3 => q _ p3 (u.trans (s2.trans (z0b hp3 _))) ⟨p1, p2, .lay a (laidL A d2), laidL A d2, z0g, ⟨p, z0b hp3 _ _ _ (s2 _ _ z0g), z0b hp3 _ _ _ (s2 _ _ (z0b hp1 _ _ _ hp))⟩, z0b hp3 _ _ _ hp2, ⟨A, ea, z3w (z3i lo.1 hmo), lo.2.symm, rfl⟩, lo.1⟩⟩⟩
  rintro σ2 G2 ⟨rfl, rfl⟩
  refine z0h (fun σ G => Same G2 G /\ 0 < A.length /\ σ = [some (.int kd), some (.ref dl), some (.int (a : Int)), some (.ref o), some (.int mo), none, none, none, none, none, none, none, none, none]) ?_ (fun R hR => ?_)
  rotate_left
  · wp_walk using tIfS
    refine ⟨Nat.zero_le _, fun p0 hp0 => ⟨_, .of (z0b hp0 _ _ _ ho), _, .of z0g, z1j _, rfl, ?_⟩⟩
    rw [show ([] : List V) = ([] : List Int).map V.int from rfl, z1z]
    have u0 := z0b hp0 (.tup (List.map V.int []))
    have hd0 := u0 _ _ hd
    have ho0 := u0 _ _ ho
    generalize upd G2 p0 (.tup (List.map V.int [])) = G0 at *
    have pb := hf.2.2
    have m2 := hmo.2
    by_cases c : A = []
    · rw [decide_eq_true c, if_pos rfl]
      have l6 : A.length < 6 := by rw [c]; decide
      refine z0h (fun σ G => G = G0 /\ ∃ k : Nat, k ≤ A.length /\ σ = [some (.int kd), some (.ref dl), some (.int (a : Int)), some (.ref o), some (.int mo), none, none, none, some (.int (k : Int)), none, none, none, none, none]) ?_ (fun R hR => ?_)
      rotate_left
      · wp_walk using tSeq, tIfS
        refine ⟨_, hd0, _, z0p (j := 1) rfl, _, .inr (.of ho0), _, rfl, ?_⟩
        rw [z0s]
        have f0 := Int.fmod_nonneg_of_pos d1 (show (0 : Int) < (A.length : Int) + 1 by omega)
        have f1 := Int.fmod_lt_of_pos d1 (show (0 : Int) < (A.length : Int) + 1 by omega)
        obtain ⟨k, hk⟩ : ∃ k : Nat, d1.fmod ((A.length : Int) + 1) = k := ⟨_, (Int.toNat_of_nonneg f0).symm⟩
        rw [hk] at f1 ⊢
        exact ⟨by omega, hR _ _ ⟨rfl, k, by omega, rfl⟩⟩
      rintro σ4 G4 ⟨rfl, k, kl, rfl⟩
      refine z0h (fun σ G => Same G4 G /\ ∃ x : Int, 0 ≤ x /\ x ≤ mo / prodI (A.map one1) /\ σ = [some (.int kd), some (.ref dl), some (.int (a : Int)), some (.ref o), some (.int mo), none, none, none, some (.int (k : Int)), some (.int x), none, none, none, none]) ?_ (fun R hR => ?_)
      rotate_left
      · wp_walk using tSeq, tIfS, splawwide
        refine ⟨_, hd0, _, z0p (j := 2) rfl, A, ho0, sd, by omega, fun G sg => ⟨by omega, by omega, by omega, _, rfl, ?_⟩⟩
        rw [Int.fdiv_eq_ediv_of_nonneg _ (by omega)]
        have dv := div_one pb.1 pb.2
        generalize mo / prodI (A.map one1) = fr at *
        have c4 : 0 < (if fr < 4 then fr else 4) /\ (if fr < 4 then fr else 4) ≤ fr := by split <;> omega
        generalize (if fr < 4 then fr else 4) = c4' at *
        have f0 := Int.fmod_nonneg_of_pos d2 c4.1
        have f1 := Int.fmod_lt_of_pos d2 c4.1
        exact ⟨by omega, hR _ _ ⟨sg, _, by omega, by omega, rfl⟩⟩
      rintro σ5 G5 ⟨u5, x, x0, x1, rfl⟩
      refine z0h (fun σ G => G = G5 /\ ∃ x : Int, 0 ≤ x /\ x ≤ mo / prodI (A.map one1) /\ σ = [some (.int kd), some (.ref dl), some (.int (a : Int)), some (.ref o), some (.int mo), none, none, none, some (.int (k : Int)), some (.int x), none, none, none, none]) ?_ (fun R hR => ?_)
      rotate_left
      · wp_walk using tSeq, tIfS
        refine ⟨_, u5 _ _ hd0, _, z0p (j := 2) rfl, _, rfl, ?_⟩
        split
        · exact hR _ _ ⟨rfl, 0, by decide, Int.le_trans x0 x1, rfl⟩
        · exact hR _ _ ⟨rfl, x, x0, x1, rfl⟩
      rintro σ6 G6 ⟨rfl, x, x0, x1, rfl⟩
      wp_walk using tSeq, tIfS
      have ho6 := u5 _ _ ho0
      have xm : x ≤ mo := Int.le_trans x1 (Int.ediv_le_self _ (by have := hmo.1; omega))
      have fi := fitM_ins (k := k) hf l6 x0 x1
      refine ⟨small (by decide), fun p hp => ⟨_, z0b hp _ _ _ ho6, fun r1 H1 s1 h1 => ⟨small (by decide), fun p1 hp1 => ?_⟩⟩⟩
      rw [z2e] at h1
      refine ⟨_, z0b hp1 _ _ _ h1, small (by simp only [List.length_map, List.length_take]; omega), fun r2 H2 s2 h2 => ?_⟩
      have t2 := (z0b hp (.tup [V.str (Str.ofString "spread"), V.int (a : Int), V.int (k : Int), V.int x])).trans (s1.trans ((z0b hp1 (.tup [V.int x])).trans s2))
      refine ⟨_, t2 _ _ ho6, fun r3 H3 s3 h3 => ?_⟩
      rw [z2i] at h3
      refine ⟨_, s3 _ _ h2, _, h3, small (by simp only [List.length_append, List.length_map, List.length_take, List.length_drop, List.length_cons, List.length_nil]; omega), fun r4 H4 s4 h4 => ⟨small (by decide), fun p5 hp5 => ?_⟩⟩
      refine q _ p5 (u0.trans (u5.trans (t2.trans (s3.trans (s4.trans (z0b hp5 _)))))) ⟨p, r4, .spread a k x, insL A k x, z0g, ?_, ?_, ⟨A, ea, by unfold off1; omega, by omega, by omega, z3w (z3i fi hmo), rfl⟩, fi⟩
      · exact (s3.trans (s4.trans (z0b hp5 _))) _ _ ((s1.trans ((z0b hp1 _).trans s2)) _ _ z0g)
      · show _ = _; rw [z0b hp5 _ _ _ h4]; unfold insL; rw [List.map_append, List.map_append]; rfl
    · rw [decide_eq_false c, if_neg (by decide)]
      have done := hR _ _ ⟨u0, List.length_pos_iff.mpr c, rfl⟩
      split
      rotate_left
      · exact done
      refine ⟨_, .inr (.of ho0), ?_⟩
      rw [z0s]
      split
      rotate_left
      · exact done
      have l6 : A.length < 6 := by omega
      refine z0h (fun σ G => G = G0 /\ ∃ k : Nat, k ≤ A.length /\ σ = [some (.int kd), some (.ref dl), some (.int (a : Int)), some (.ref o), some (.int mo), none, none, none, some (.int (k : Int)), none, none, none, none, none]) ?_ (fun R hR => ?_)
      rotate_left
      · wp_walk using tSeq, tIfS
        refine ⟨_, hd0, _, z0p (j := 1) rfl, _, .inr (.of ho0), _, rfl, ?_⟩
        rw [z0s]
        have f0 := Int.fmod_nonneg_of_pos d1 (show (0 : Int) < (A.length : Int) + 1 by omega)
        have f1 := Int.fmod_lt_of_pos d1 (show (0 : Int) < (A.length : Int) + 1 by omega)
        obtain ⟨k, hk⟩ : ∃ k : Nat, d1.fmod ((A.length : Int) + 1) = k := ⟨_, (Int.toNat_of_nonneg f0).symm⟩
        rw [hk] at f1 ⊢
        exact ⟨by omega, hR _ _ ⟨rfl, k, by omega, rfl⟩⟩
      rintro σ4 G4 ⟨rfl, k, kl, rfl⟩
      refine z0h (fun σ G => Same G4 G /\ ∃ x : Int, 0 ≤ x /\ x ≤ mo / prodI (A.map one1) /\ σ = [some (.int kd), some (.ref dl), some (.int (a : Int)), some (.ref o), some (.int mo), none, none, none, some (.int (k : Int)), some (.int x), none, none, none, none]) ?_ (fun R hR => ?_)
      rotate_left
      · wp_walk using tSeq, tIfS, splawwide
        refine ⟨_, hd0, _, z0p (j := 2) rfl, A, ho0, sd, by omega, fun G sg => ⟨by omega, by omega, by omega, _, rfl, ?_⟩⟩
        rw [Int.fdiv_eq_ediv_of_nonneg _ (by omega)]
        have dv := div_one pb.1 pb.2
        generalize mo / prodI (A.map one1) = fr at *
        have c4 : 0 < (if fr < 4 then fr else 4) /\ (if fr < 4 then fr else 4) ≤ fr := by split <;> omega
        generalize (if fr < 4 then fr else 4) = c4' at *
        have f0 := Int.fmod_nonneg_of_pos d2 c4.1
        have f1 := Int.fmod_lt_of_pos d2 c4.1
        exact ⟨by omega, hR _ _ ⟨sg, _, by omega, by omega, rfl⟩⟩
      rintro σ5 G5 ⟨u5, x, x0, x1, rfl⟩
      refine z0h (fun σ G => G = G5 /\ ∃ x : Int, 0 ≤ x /\ x ≤ mo / prodI (A.map one1) /\ σ = [some (.int kd), some (.ref dl), some (.int (a : Int)), some (.ref o), some (.int mo), none, none, none, some (.int (k : Int)), some (.int x), none, none, none, none]) ?_ (fun R hR => ?_)
      rotate_left
      · wp_walk using tSeq, tIfS
        refine ⟨_, u5 _ _ hd0, _, z0p (j := 2) rfl, _, rfl, ?_⟩
        split
        · exact hR _ _ ⟨rfl, 0, by decide, Int.le_trans x0 x1, rfl⟩
        · exact hR _ _ ⟨rfl, x, x0, x1, rfl⟩
      rintro σ6 G6 ⟨rfl, x, x0, x1, rfl⟩
      wp_walk using tSeq, tIfS
      have ho6 := u5 _ _ ho0
      have xm : x ≤ mo := Int.le_trans x1 (Int.ediv_le_self _ (by have := hmo.1; omega))
      have fi := fitM_ins (k := k) hf l6 x0 x1
      refine ⟨small (by decide), fun p hp => ⟨_, z0b hp _ _ _ ho6, fun r1 H1 s1 h1 => ⟨small (by decide), fun p1 hp1 => ?_⟩⟩⟩
      rw [z2e] at h1
      refine ⟨_, z0b hp1 _ _ _ h1, small (by simp only [List.length_map, List.length_take]; omega), fun r2 H2 s2 h2 => ?_⟩
      have t2 := (z0b hp (.tup [V.str (Str.ofString "spread"), V.int (a : Int), V.int (k : Int), V.int x])).trans (s1.trans ((z0b hp1 (.tup [V.int x])).trans s2))
      refine ⟨_, t2 _ _ ho6, fun r3 H3 s3 h3 => ?_⟩
      rw [z2i] at h3
      refine ⟨_, s3 _ _ h2, _, h3, small (by simp only [List.length_append, List.length_map, List.length_take, List.length_drop, List.length_cons, List.length_nil]; omega), fun r4 H4 s4 h4 => ⟨small (by decide), fun p5 hp5 => ?_⟩⟩
      refine q _ p5 (u0.trans (u5.trans (t2.trans (s3.trans (s4.trans (z0b hp5 _)))))) ⟨p, r4, .spread a k x, insL A k x, z0g, ?_, ?_, ⟨A, ea, by unfold off1; omega, by omega, by omega, z3w (z3i fi hmo), rfl⟩, fi⟩
      · exact (s3.trans (s4.trans (z0b hp5 _))) _ _ ((s1.trans ((z0b hp1 _).trans s2)) _ _ z0g)
      · show _ = _; rw [z0b hp5 _ _ _ h4]; unfold insL; rw [List.map_append, List.map_append]; rfl
  rintro σ3 G3 ⟨s3, a0, rfl⟩
  have hd3 := s3 _ _ hd
  have ho3 := s3 _ _ ho
  refine z0h (fun σ G => G = G3 /\ ∃ k : Nat, k < A.length /\ σ = [some (.int kd), some (.ref dl), some (.int (a : Int)), some (.ref o), some (.int mo), none, none, none, none, none, some (.int (k : Int)), none, none, none]) ?_ (fun R hR => ?_)
  rotate_left
  · wp_walk using tSeq, tIfS
    refine ⟨_, hd3, _, z0p (j := 1) rfl, _, .inr (.of ho3), _, rfl, ?_⟩
    rw [z0s]
    have f0 := Int.fmod_nonneg_of_pos d1 (show (0 : Int) < (A.length : Int) by omega)
    have f1 := Int.fmod_lt_of_pos d1 (show (0 : Int) < (A.length : Int) by omega)
    obtain ⟨k, hk⟩ : ∃ k : Nat, d1.fmod (A.length : Int) = k := ⟨_, (Int.toNat_of_nonneg f0).symm⟩
    rw [hk] at f1 ⊢
    exact ⟨by omega, hR _ _ ⟨rfl, k, by omega, rfl⟩⟩
  rintro σ4 G4 ⟨rfl, k, kl, rfl⟩
  refine z0h (fun σ G => G = G4 /\ σ = [some (.int kd), some (.ref dl), some (.int (a : Int)), some (.ref o), some (.int mo), none, none, none, none, none, some (.int (k : Int)), none, none, none]) ?_ (fun R hR => ?_)
  rotate_left
  · wp_walk using tSeq, tIfS
    split
    rotate_left
    · exact hR _ _ ⟨rfl, rfl⟩
    exact ⟨small (by decide), fun p hp => ⟨small (by decide), fun p1 hp1 => q _ p1 (s3.trans ((z0b hp _).trans (z0b hp1 _))) ⟨p, o, .flip a k, A, z0g, z0b hp1 _ _ _ z0g, z0b hp1 _ _ _ (z0b hp _ _ _ ho3), ⟨ea, by unfold off; omega⟩, hf⟩⟩⟩
  rintro σ5 G5 ⟨rfl, rfl⟩
  refine z0h (fun σ G => G = G5 /\ ∃ g : Int, 1 ≤ g /\ g ≤ 3 /\ σ = [some (.int kd), some (.ref dl), some (.int (a : Int)), some (.ref o), some (.int mo), none, none, none, none, none, some (.int (k : Int)), some (.int g), none, none]) ?_ (fun R hR => ?_)
  rotate_left
  · wp_walk using tSeq, tIfS
    exact ⟨_, hd3, _, z0p (j := 2) rfl, _, rfl, hR _ _ ⟨rfl, _, by omega, by omega, rfl⟩⟩
  rintro σ6 G6 ⟨rfl, g, g1, g3, rfl⟩
  have an := (hf.1 _ (z3e kl)).1
  refine z0h (fun σ G => G = G6 /\ ∃ f : Int, 0 ≤ f /\ σ = [some (.int kd), some (.ref dl), some (.int (a : Int)), some (.ref o), some (.int mo), none, none, none, none, none, some (.int (k : Int)), some (.int g), some (.int f), none]) ?_ (fun R hR => ?_)
  rotate_left
  · wp_walk using tSeq, tIfS
    have o1 := z2o an
    have f0 := Int.fmod_nonneg_of_pos (d2 / 3) (show 0 < one1 (A.getD k 0) by omega)
    refine ⟨_, hd3, _, z0p (j := 2) rfl, _, rfl, _, ho3, _, at_side kl, _, rfl, ?_⟩
    rw [one1_max an]
    exact ⟨by omega, hR _ _ ⟨rfl, _, f0, rfl⟩⟩
  rintro σ7 G7 ⟨rfl, f, f0, rfl⟩
  refine z0h (fun σ G => G = G7 /\ ∃ m : Int, 0 ≤ m /\ m ≤ A.getD k 0 /\ ¬ (0 < m /\ A.getD k 0 ≤ f + (m - 1) * g) /\ σ = [some (.int kd), some (.ref dl), some (.int (a : Int)), some (.ref o), some (.int mo), none, none, none, none, none, some (.int (k : Int)), some (.int g), some (.int f), some (.int m)]) ?_ (fun R hR => ?_)
  rotate_left
  · wp_walk using tSeq, tIfS
    have cm := cut_many (e := d2 / 300 % 3) an f0 g1 (by omega)
    exact ⟨_, ho3, _, at_side kl, _, rfl, by omega, by omega, by omega, _, hd3, _, z0p (j := 2) rfl, _, rfl, hR _ _ ⟨rfl, _, cm.1, cm.2.1, cm.2.2, rfl⟩⟩
  rintro σ8 G8 ⟨rfl, m, m0, m1, m2, rfl⟩
  wp_walk using tSeq, tIfS
  have fs := fitM_set (k := k) hf m0 m1
  have am := (hf.1 _ (z3e kl)).2
  have mo2 := hmo.2
  refine ⟨small (by decide), fun p hp => ⟨_, z0b hp _ _ _ ho3, fun r1 H1 s1 h1 => ⟨small (by decide), fun p1 hp1 => ?_⟩⟩⟩
  rw [z2e] at h1
  refine ⟨_, z0b hp1 _ _ _ h1, small (by simp only [List.length_map, List.length_take]; omega), fun r2 H2 s2 h2 => ?_⟩
  have t2 := (z0b hp (.tup [V.str (Str.ofString "cut"), V.int (a : Int), V.int (k : Int), V.int f, V.int m, V.int g])).trans (s1.trans ((z0b hp1 (.tup [V.int m])).trans s2))
  refine ⟨_, t2 _ _ ho3, fun r3 H3 s4 h3 => ?_⟩
  rw [show (k : Int) + 1 = ((k + 1 : Nat) : Int) by omega, z2i] at h3
  refine ⟨_, s4 _ _ h2, _, h3, small (by simp only [List.length_append, List.length_map, List.length_take, List.length_drop, List.length_cons, List.length_nil]; omega), fun r4 H4 s5 h4 => ⟨small (by decide), fun p5 hp5 => ?_⟩⟩
  refine q _ p5 (s3.trans (t2.trans (s4.trans (s5.trans (z0b hp5 _))))) ⟨p, r4, .cut a k f m g, A.set k m, z0g, ?_, ?_, ⟨A, ea, by unfold off; omega, by unfold bad; rw [Int.toNat_natCast]; exact fun z => z.elim (by omega) fun z => z.elim (by omega) fun z => z.elim (by omega) m2, by omega, by rw [Int.toNat_natCast]⟩, fs⟩
  · exact (s4.trans (s5.trans (z0b hp5 _))) _ _ ((s1.trans ((z0b hp1 _).trans s2)) _ _ z0g)
  · show _ = _; rw [z0b hp5 _ _ _ h4, ← set_mid kl, List.map_append, List.map_append]; rfl
abbrev slawlifted : Stmt := top 66
theorem sclawlifted : FnScope ["kind", "d", "sides", "every", "a", "fit", "b", "longer", "words", "c"] ["kind", "d", "sides"] (defScope slawlifted) := ⟨rfl, rfl, rfl, by decide +kernel, rfl, by decide +kernel, by decide +kernel⟩
theorem oklawlifted (F : Fun K "_law_lifted" "_law_lifted" slawlifted f fd) (clawrecent : Callee P w K mg base CX0 (1) "_law_recent" ["pool", "d"] splawrecent) (clawled : Callee P w K mg base CX0 (1) "_law_led" ["one", "other"] splawled) (zlist : mg "list" = none) (zrange : mg "range" = none) (zlen : mg "len" = none) (zmax : mg "max" = none) : FnOk P w K mg base CX0 (2) f fd ["kind", "d", "sides"] (spllifted) := by
  have sc := sclawlifted
  refine F.ok sc (fun vs H Q E h => ?_) (fun cdv A outer s H vs Q E hr h => ?_)
  · obtain ⟨dl, sl, kd, mo, d0, d1, d2, ps, Ss, rfl, _⟩ := h; rfl
  obtain ⟨dl, sl, kd, mo, d0, d1, d2, ps, Ss, rfl, hd, hs, ht, n0, hsd, q⟩ := h
  rw [lbwl]
  refine ⟨_, (z0d (z0z (i := 3) sc.nd rfl (by first | exact Or.inl rfl | exact Or.inr rfl) (z1i (z3f rfl) (by rfl) zlist boot_list (z0a (z1i z3m (by rfl) zrange boot_range (z0a (z0m z0j (by rfl) zlen PySem.boot_len (z0a (pv 2) z0c)) z0c)) z0c))) (z0d (z0z (i := 4) sc.nd rfl (by first | exact Or.inl rfl | exact Or.inr rfl) (z0r clawrecent hr (by rfl) z1l (z0a (pv 3) (z0a (z0u z0o (pv 1) z0e (fun _ _ => rfl)) z0c)))) (z0d (z0y (z0i z1f (pv 0) z0e (z0n _)) (z0f (z0l (z0w (z0a (z0w (z0a z0q (z0a (z0u z0o (z2q (z0a z0q (z0a z0q (z0a z0q (z0a z0q z0c))))) (z0t z1u (z0u z0o (pv 1) z0e (fun _ _ => rfl)) z0e) (fun _ _ => rfl)) (z0a (pv 4) z0c)))) (z0a (z0u z0o (pv 2) (pv 4) (fun _ _ => rfl)) z0c))))) z0k) (z0d (z3p (own := ["k"]) (fv := ["sides", "a"]) (js := [2, 4]) sc.nd (i := 5) rfl (by first | exact Or.inl rfl | exact Or.inr rfl) (by first | exact Or.inl rfl | exact Or.inr rfl) rfl (z2p (pv 3)) rfl (by decide) rfl (by decide) (by first | exact fun _ _ h => h | exact z2h rfl | exact z2g rfl rfl | exact z2f rfl rfl rfl) (z2r (by rfl)) rfl (cap2 (by first | exact ⟨rfl, .inl rfl, .inl rfl⟩ | exact ⟨rfl, .inl rfl, .inr rfl⟩) (by first | exact ⟨rfl, .inl rfl, .inl rfl⟩ | exact ⟨rfl, .inl rfl, .inr rfl⟩)) (fun _ _ _ _ => (z1h (i := 0) (show (["k", "sides", "a"] : List Str).Nodup by decide +kernel) rfl (Or.inl rfl))) (fun _ _ _ _ => (pv 0)) (fun _ _ _ _ => (z3j (z0r clawled hr (by rfl) z1l (z0a (z0u z0o (pv 1) (pv 2) (fun _ _ => rfl)) (z0a (z0u z0o (pv 1) (pv 0) (fun _ _ => rfl)) z0c)))))) (z0d (z0z (i := 6) sc.nd rfl (by first | exact Or.inl rfl | exact Or.inr rfl) (z0r clawrecent hr (by rfl) z1l (z0a (pv 5) (z0a (z0u z0o (pv 1) z0e (fun _ _ => rfl)) z0c)))) (z0d (z0z (i := 7) sc.nd rfl (by first | exact Or.inl rfl | exact Or.inr rfl) (pe_max2K rfl (by rfl) zmax (by rfl) zlen (z0u z0o (pv 2) (pv 4) (fun _ _ => rfl)) (z0u z0o (pv 2) (pv 6) (fun _ _ => rfl)))) (z0d (z0y (z0i z1f (pv 0) z0e (z0n _)) (z0d (z0z (i := 8) sc.nd rfl (by first | exact Or.inl rfl | exact Or.inr rfl) (z2q (pa_strs lw12p))) (z0f (z0l (z0w (z0a (z0w (z0a z0q (z0a (z0u z0o (pv 8) (z0t z1u (z0u z0o (pv 1) z0e (fun _ _ => rfl)) z0e) (fun _ _ => rfl)) (z0a (pv 4) (z0a (pv 6) z0c))))) (z0a (pv 7) z0c)))))) z0k) (z0d (z3p (own := ["k"]) (fv := ["sides", "b"]) (js := [2, 6]) sc.nd (i := 5) rfl (by first | exact Or.inl rfl | exact Or.inr rfl) (by first | exact Or.inl rfl | exact Or.inr rfl) rfl (z2p (pv 5)) rfl (by decide) rfl (by decide) (by first | exact fun _ _ h => h | exact z2h rfl | exact z2g rfl rfl | exact z2f rfl rfl rfl) (z2r (by rfl)) rfl (cap2 (by first | exact ⟨rfl, .inl rfl, .inl rfl⟩ | exact ⟨rfl, .inl rfl, .inr rfl⟩) (by first | exact ⟨rfl, .inl rfl, .inl rfl⟩ | exact ⟨rfl, .inl rfl, .inr rfl⟩)) (fun _ _ _ _ => (z1h (i := 0) (show (["k", "sides", "b"] : List Str).Nodup by decide +kernel) rfl (Or.inl rfl))) (fun _ _ _ _ => (pv 0)) (fun _ _ _ _ => (z3j (z0r clawled hr (by rfl) z1l (z0a (z0u z0o (pv 1) (pv 2) (fun _ _ => rfl)) (z0a (z0u z0o (pv 1) (pv 0) (fun _ _ => rfl)) z0c)))))) (z0d (z0z (i := 9) sc.nd rfl (by first | exact Or.inl rfl | exact Or.inr rfl) (z0r clawrecent hr (by rfl) z1l (z0a (pv 5) (z0a (z0u z0o (pv 1) z0e (fun _ _ => rfl)) z0c)))) (z0f (z0l (z0w (z0a (z0w (z0a z0q (z0a (pv 4) (z0a (pv 6) (z0a (pv 9) z0c))))) (z0a (pe_max2K rfl (by rfl) zmax (by rfl) zlen (pv 7) (z0u z0o (pv 2) (pv 9) (fun _ _ => rfl))) z0c)))))))))))))), ?_⟩
  simp only [L2.start, List.length_cons, List.length_nil, List.replicate, List.cons_append, List.nil_append, Nat.reduceSub, Nat.reduceAdd, List.map_cons, List.map_nil]
  have n4 := hsd.1
  refine z0h (fun σ G => Same H G /\ ∃ ev, G ev = some (.lst ((upL Ss.length).map V.int)) /\ σ = [some (.int kd), some (.ref dl), some (.ref sl), some (.ref ev), none, none, none, none, none, none]) ?_ (fun R hR => ?_)
  rotate_left
  · wp_walk using tSeq, tIfS
    exact ⟨_, .inl (.of hs), fun r0 hr0 => ⟨Ss.length, by rw [List.length_map, ht.1]; rfl, by omega, fun l hl => hR _ _ ⟨(z0b hr0 _).trans (z0b hl _), l, z0g, rfl⟩⟩⟩
  rintro σ1 G1 ⟨s1, ev, hev, rfl⟩
  refine z0h (fun σ G => G = G1 /\ ∃ a : Nat, a < Ss.length /\ σ = [some (.int kd), some (.ref dl), some (.ref sl), some (.ref ev), some (.int (a : Int)), none, none, none, none, none]) ?_ (fun R hR => ?_)
  rotate_left
  · wp_walk using tSeq, tIfS, splawrecent
    refine ⟨_, s1 _ _ hd, _, z0p (j := 0) rfl, upL Ss.length, d0, rfl, hev, by rw [up_len]; exact n0, fun k hk => ?_⟩
    obtain ⟨a, rfl, al⟩ := up_nat hk
    exact hR _ _ ⟨rfl, a, al, rfl⟩
  rintro σ2 G2 ⟨rfl, a, al, rfl⟩
  obtain ⟨pa, A, ea, eA, hA⟩ := z2l (ht.same s1) al
  have fA := hsd.2 _ (List.mem_of_getElem? eA)
  refine z0h (fun σ G => G = G2 /\ σ = [some (.int kd), some (.ref dl), some (.ref sl), some (.ref ev), some (.int (a : Int)), none, none, none, none, none]) ?_ (fun R hR => ?_)
  rotate_left
  · wp_walk using tSeq, tIfS
    split
    rotate_left
    · exact hR _ _ ⟨rfl, rfl⟩
    obtain ⟨w, hw, wm⟩ := word_at one4 (k := d2 % 4) (by omega) (by show d2 % 4 < ((4 : Nat) : Int); omega)
    refine ⟨small (by decide), fun l hl => ⟨_, z0b hl _ _ _ (s1 _ _ hd), _, z0p (j := 2) rfl, _, rfl, _, hw, small (by decide), fun p hp => ⟨_, z0b hp _ _ _ (z0b hl _ _ _ (s1 _ _ hs)), _, ea, small (by decide), fun p1 hp1 => ?_⟩⟩⟩
    exact q _ p1 (s1.trans ((z0b hl _).trans ((z0b hp _).trans (z0b hp1 _)))) ⟨p, pa, .each w a, A, z0g, z0b hp1 _ _ _ z0g, z0b hp1 _ _ _ (z0b hp _ _ _ (z0b hl _ _ _ hA)), ⟨eA, wm⟩, fA⟩
  rintro σ3 G3 ⟨rfl, rfl⟩
  refine z0h (fun σ G => Same G3 G /\ ∃ (fa : Addr) (ks : List Int), G fa = some (.lst (ks.map V.int)) /\ ks.length ≤ 40 /\ (∀ k, k ∈ ks ↔ k ∈ upL Ss.length /\ ∃ B, Ss[k.toNat]? = some B /\ pairOk A B) /\ σ = [some (.int kd), some (.ref dl), some (.ref sl), some (.ref ev), some (.int (a : Int)), some (.ref fa), none, none, none, none]) ?_ (fun R hR => ?_)
  rotate_left
  · wp_walk using tSeq, tIfS
    refine filtL hev (by rw [up_len]; omega) (fun k => ∃ B, Ss[k.toNat]? = some B /\ pairOk A B) [some (.ref sl), some (.int (a : Int))] rfl (fun x y G Rt Rf hx u ht1 hf1 => ?_) (fun ks G p u hp hk kl => hR _ _ ⟨u.trans (z0b hp _), p, ks, z0g, by rw [up_len] at kl; omega, hk, rfl⟩)
    obtain ⟨j, rfl, jl⟩ := up_nat hx
    obtain ⟨pk, B, ek, eB, hB⟩ := z2l (ht.same (s1.trans u)) jl
    wp_walk using tSeq, tIfS, splawled
    refine ⟨_, (s1.trans u) _ _ hs, _, ea, _, (s1.trans u) _ _ hs, _, ek, _, rfl, _, rfl, A, u _ _ hA, B, hB, fun G' b u' hb => ?_⟩
    split
    · exact ht1 _ (u.trans u') ⟨B, eB, hb.mp ‹_›⟩
    · exact hf1 _ (u.trans u') fun ⟨B', e', z⟩ => by cases eB.symm.trans e'; exact ‹¬ b = true› (hb.mpr z)
  rintro σ4 G4 ⟨s4, fa, ks, hfa, kl, hk, rfl⟩
  have kpos : 0 < ks.length := List.length_pos_of_mem ((hk a).mpr ⟨up_in al, A, eA, agr_self A⟩)
  refine z0h (fun σ G => G = G4 /\ ∃ (b : Nat) (B : List Int) (pb : Addr), (b : Int) ∈ ks /\ b < Ss.length /\ Ss[b]? = some B /\ pairOk A B /\ atI (ps.map V.ref) (b : Int) = some (.ref pb) /\ Tp G pb B /\ σ = [some (.int kd), some (.ref dl), some (.ref sl), some (.ref ev), some (.int (a : Int)), some (.ref fa), some (.int (b : Int)), none, none, none]) ?_ (fun R hR => ?_)
  rotate_left
  · wp_walk using tSeq, tIfS, splawrecent
    refine ⟨_, (s1.trans s4) _ _ hd, _, z0p (j := 1) rfl, ks, d1, rfl, hfa, kpos, fun k hkm => ?_⟩
    obtain ⟨ku, B, eB, pB⟩ := (hk k).mp hkm
    obtain ⟨b, rfl, bl⟩ := up_nat ku
    obtain ⟨pb, B', eb, eB', hB⟩ := z2l (ht.same (s1.trans s4)) bl
    cases eB'.symm.trans eB
    exact hR _ _ ⟨rfl, b, B, pb, hkm, bl, eB, pB, eb, hB, rfl⟩
  rintro σ5 G5 ⟨rfl, b, B, pb, bm, bl, eB, pB, eb, hB, rfl⟩
  have fB := hsd.2 _ (List.mem_of_getElem? eB)
  have s5 := s1.trans s4
  have fL : fitM mo (pairL A B) := pairL_in fA fB
  refine z0h (fun σ G => G = G5 /\ ∃ lo : Addr, Tp G lo (pairL A B) /\ σ = [some (.int kd), some (.ref dl), some (.ref sl), some (.ref ev), some (.int (a : Int)), some (.ref fa), some (.int (b : Int)), some (.ref lo), none, none]) ?_ (fun R hR => ?_)
  rotate_left
  · wp_walk using tSeq, tIfS
    refine ⟨_, s5 _ _ hs, _, ea, _, s5 _ _ hs, _, eb, pa, rfl, pb, rfl, A.map V.int, s4 _ _ hA, B.map V.int, hB, fun l => ?_, fun l => ?_⟩
    · rw [z0s, z0s] at l
      exact hR _ _ ⟨rfl, pa, by rw [pairL_l pB l]; exact s4 _ _ hA, rfl⟩
    · rw [z0s, z0s] at l
      exact hR _ _ ⟨rfl, pb, by rw [pairL_r l]; exact hB, rfl⟩
  rintro σ6 G6 ⟨rfl, lo, hlo, rfl⟩
  refine z0h (fun σ G => G = G6 /\ σ = [some (.int kd), some (.ref dl), some (.ref sl), some (.ref ev), some (.int (a : Int)), some (.ref fa), some (.int (b : Int)), some (.ref lo), none, none]) ?_ (fun R hR => ?_)
  rotate_left
  · wp_walk using tIfS
    split
    rotate_left
    · exact hR _ _ ⟨rfl, rfl⟩
    refine z0h (fun σ G => Same G6 G /\ ∃ wl, G wl = some (.lst (two12.map V.str)) /\ σ = [some (.int kd), some (.ref dl), some (.ref sl), some (.ref ev), some (.int (a : Int)), some (.ref fa), some (.int (b : Int)), some (.ref lo), some (.ref wl), none]) ?_ (fun R1 hR1 => ?_)
    rotate_left
    · wp_walk using tSeq, tIfS, tStrs
      exact ⟨by rw [lw12l]; exact small (by decide), fun l hl => hR1 _ _ ⟨z0b hl _, l, by rw [z0g, lw12v], rfl⟩⟩
    rintro σ7 G7 ⟨s7, wl, hwl, rfl⟩
    wp_walk using tSeq, tIfS
    obtain ⟨w, hw, wm⟩ := word_at two12 (k := d2 % 12) (by omega) (by show d2 % 12 < ((12 : Nat) : Int); omega)
    refine ⟨_, (s5.trans s7) _ _ hd, _, z0p (j := 2) rfl, _, rfl, _, hwl, _, hw, small (by decide), fun p hp => ⟨small (by decide), fun p1 hp1 => ?_⟩⟩
    exact q _ p1 (s5.trans (s7.trans ((z0b hp _).trans (z0b hp1 _)))) ⟨p, lo, .pair w a b, pairL A B, z0g, z0b hp1 _ _ _ z0g, z0b hp1 _ _ _ (z0b hp _ _ _ (s7 _ _ hlo)), ⟨A, B, eA, eB, wm, pB, rfl⟩, fL⟩
  rintro σ7 G7 ⟨rfl, rfl⟩
  refine z0h (fun σ G => Same G7 G /\ ∃ (fc : Addr) (ls : List Int), G fc = some (.lst (ls.map V.int)) /\ (∀ k, k ∈ ls ↔ k ∈ ks /\ ∃ C, Ss[k.toNat]? = some C /\ pairOk B C) /\ σ = [some (.int kd), some (.ref dl), some (.ref sl), some (.ref ev), some (.int (a : Int)), some (.ref fc), some (.int (b : Int)), some (.ref lo), none, none]) ?_ (fun R hR => ?_)
  rotate_left
  · wp_walk using tSeq, tIfS
    refine filtL hfa (by omega) (fun k => ∃ C, Ss[k.toNat]? = some C /\ pairOk B C) [some (.ref sl), some (.int (b : Int))] rfl (fun x y G Rt Rf hx u ht1 hf1 => ?_) (fun ls G p u hp hk2 kl2 => hR _ _ ⟨u.trans (z0b hp _), p, ls, z0g, hk2, rfl⟩)
    obtain ⟨j, rfl, jl⟩ := up_nat ((hk x).mp hx).1
    obtain ⟨pk, C, ek, eC, hC⟩ := z2l (ht.same (s5.trans u)) jl
    wp_walk using tSeq, tIfS, splawled
    refine ⟨_, (s5.trans u) _ _ hs, _, eb, _, (s5.trans u) _ _ hs, _, ek, _, rfl, _, rfl, B, u _ _ hB, C, hC, fun G' b u' hb => ?_⟩
    split
    · exact ht1 _ (u.trans u') ⟨C, eC, hb.mp ‹_›⟩
    · exact hf1 _ (u.trans u') fun ⟨C', e', z⟩ => by cases eC.symm.trans e'; exact ‹¬ b = true› (hb.mpr z)
  rintro σ8 G8 ⟨s8, fc, ls, hfc, hl, rfl⟩
  have lpos : 0 < ls.length := List.length_pos_of_mem ((hl b).mpr ⟨bm, B, eB, agr_self B⟩)
  refine z0h (fun σ G => G = G8 /\ ∃ (c : Nat) (C : List Int) (pc : Addr), Ss[c]? = some C /\ pairOk A C /\ pairOk B C /\ atI (ps.map V.ref) (c : Int) = some (.ref pc) /\ Tp G pc C /\ σ = [some (.int kd), some (.ref dl), some (.ref sl), some (.ref ev), some (.int (a : Int)), some (.ref fc), some (.int (b : Int)), some (.ref lo), none, some (.int (c : Int))]) ?_ (fun R hR => ?_)
  rotate_left
  · wp_walk using tSeq, tIfS, splawrecent
    refine ⟨_, (s5.trans s8) _ _ hd, _, z0p (j := 2) rfl, ls, d2, rfl, hfc, lpos, fun k hkm => ?_⟩
    obtain ⟨km, C, eC, pC⟩ := (hl k).mp hkm
    obtain ⟨ku, C2, eC2, pA⟩ := (hk k).mp km
    cases eC.symm.trans eC2
    obtain ⟨c, rfl, cl⟩ := up_nat ku
    obtain ⟨pc, C', ec, eC', hC⟩ := z2l (ht.same (s5.trans s8)) cl
    cases eC'.symm.trans eC
    exact hR _ _ ⟨rfl, c, C, pc, eC, pA, pC, ec, hC, rfl⟩
  rintro σ9 G9 ⟨rfl, c, C, pc, eC, pAC, pBC, ec, hC, rfl⟩
  have fC := hsd.2 _ (List.mem_of_getElem? eC)
  have p3 := pair_three pAC pBC
  have s9 := s5.trans s8
  wp_walk using tSeq, tIfS
  refine ⟨small (by decide), fun p hp => ⟨_, z0b hp _ _ _ (s9 _ _ hs), _, ec, pc, rfl, (pairL A B).map V.int, z0b hp _ _ _ (s8 _ _ hlo), C.map V.int, z0b hp _ _ _ hC, fun l => ⟨small (by decide), fun p1 hp1 => ?_⟩, fun l => ⟨small (by decide), fun p1 hp1 => ?_⟩⟩⟩
  · rw [z0s, z0s] at l
    exact q _ p1 (s9.trans ((z0b hp _).trans (z0b hp1 _))) ⟨p, lo, .pick a b c, pairL (pairL A B) C, z0g, z0b hp1 _ _ _ z0g, by rw [pairL_l p3 l]; exact z0b hp1 _ _ _ (z0b hp _ _ _ (s8 _ _ hlo)), ⟨A, B, C, eA, eB, eC, pB, p3, rfl⟩, pairL_in fL fC⟩
  · rw [z0s, z0s] at l
    exact q _ p1 (s9.trans ((z0b hp _).trans (z0b hp1 _))) ⟨p, pc, .pick a b c, pairL (pairL A B) C, z0g, z0b hp1 _ _ _ z0g, by rw [pairL_r l]; exact z0b hp1 _ _ _ (z0b hp _ _ _ hC), ⟨A, B, C, eA, eB, eC, pB, p3, rfl⟩, pairL_in fL fC⟩
abbrev slawmet : Stmt := top 70
theorem sclawmet : FnScope ["kind", "d", "sides", "most", "sided", "a", "own", "side", "words", "made", "fit", "b"] ["kind", "d", "sides", "most"] (defScope slawmet) := ⟨rfl, rfl, rfl, by decide +kernel, rfl, by decide +kernel, by decide +kernel⟩
theorem oklawmet (F : Fun K "_law_met" "_law_met" slawmet f fd) (clawrecent : Callee P w K mg base CX0 (2) "_law_recent" ["pool", "d"] splawrecent) (clawboth : Callee P w K mg base CX0 (2) "_law_both" ["own", "other", "side"] splawboth) (clawwide : Callee P w K mg base CX0 (2) "_law_wide" ["sides"] splawwide) (zrange : mg "range" = none) (zlen : mg "len" = none) : FnOk P w K mg base CX0 (3) f fd ["kind", "d", "sides", "most"] (splmet) := by
  have sc := sclawmet
  refine F.ok sc (fun vs H Q E h => ?_) (fun cdv A outer s H vs Q E hr h => ?_)
  · obtain ⟨dl, sl, kd, mo, d0, d1, d2, ps, Ss, rfl, _⟩ := h; rfl
  obtain ⟨dl, sl, kd, mo, d0, d1, d2, ps, Ss, rfl, hd, hs, ht, ⟨S0, S0m, S0l⟩, k11, k14, hsd, hmo, q⟩ := h
  refine ⟨_, (z0d (z3p (own := ["k"]) (fv := ["sides"]) (js := [2]) sc.nd (i := 4) rfl (by first | exact Or.inl rfl | exact Or.inr rfl) (by first | exact Or.inl rfl | exact Or.inr rfl) rfl (z2j (by rfl) zrange (z0a (z0m z0j (by rfl) zlen PySem.boot_len (z0a (pv 2) z0c)) z0c)) rfl (by decide) rfl (by decide) (by first | exact fun _ _ h => h | exact z2h rfl | exact z2g rfl rfl | exact z2f rfl rfl rfl) (z2r (by rfl)) rfl (cap1 (by first | exact ⟨rfl, .inl rfl, .inl rfl⟩ | exact ⟨rfl, .inl rfl, .inr rfl⟩)) (fun _ _ _ _ => (z1h (i := 0) (show (["k", "sides"] : List Str).Nodup by decide +kernel) rfl (Or.inl rfl))) (fun _ _ _ _ => (pv 0)) (fun _ _ _ _ => (z0i (op_neTK (K := K) rfl hr.units0) (z0u z0o (pv 1) (pv 0) (fun _ _ => rfl)) (z0w z0c) (z0n _)))) (z0d (z0z (i := 5) sc.nd rfl (by first | exact Or.inl rfl | exact Or.inr rfl) (z0r clawrecent hr (by rfl) z1l (z0a (pv 4) (z0a (z0u z0o (pv 1) z0e (fun _ _ => rfl)) z0c)))) (z0d (z0z (i := 6) sc.nd rfl (by first | exact Or.inl rfl | exact Or.inr rfl) (z0u z0o (pv 2) (pv 5) (fun _ _ => rfl))) (z0d (z0z (i := 7) sc.nd rfl (by first | exact Or.inl rfl | exact Or.inr rfl) (z0t z2b (z0u z0o (pv 1) z0e (fun _ _ => rfl)) (z0m z0j (by rfl) zlen PySem.boot_len (z0a (pv 6) z0c)))) (z0d (z0z (i := 8) sc.nd rfl (by first | exact Or.inl rfl | exact Or.inr rfl) (z2q (z0a z0q (z0a z0q (z0a z0q (z0a z0q (z0a z0q (z0a z0q (z0a z0q z0c))))))))) (z0d (z0y (z0i z1f (pv 0) z0e (z0n _)) (z0f (z0l (z0w (z0a (z0w (z0a z0q (z0a (z0u z0o (pv 8) (z0t z1u (z0u z0o (pv 1) z0e (fun _ _ => rfl)) z0e) (fun _ _ => rfl)) (z0a (pv 5) (z0a (pv 7) z0c))))) (z0a (z0t z1x (z1e z1s (pv 6) z1n (z1k (pv 7))) (z1e z1s (pv 6) (z1k (z0t z2a (pv 7) z0e)) z1n)) z0c))))) z0k) (z0d (z0y (z0i z1f (pv 0) z0e (z0n _)) (z0f (z0l (z0w (z0a (z0w (z0a z0q (z0a (z0u z0o (pv 8) (z0t z1u (z0u z0o (pv 1) z0e (fun _ _ => rfl)) z0e) (fun _ _ => rfl)) (z0a (pv 5) (z0a (pv 7) z0c))))) (z0a (pv 6) z0c))))) z0k) (z0d (z0z (i := 9) sc.nd rfl (by first | exact Or.inl rfl | exact Or.inr rfl) (z2q (z0a (z0w z0c) z0c))) (z0d (z0y (z0i z1f (pv 0) z0e (z0n _)) (z0f (z0z (i := 9) sc.nd rfl (by first | exact Or.inl rfl | exact Or.inr rfl) (z3d (own := ["other"]) (fv := ["own", "side"]) (js := [6, 7]) rfl (z2p (pv 2)) rfl (by decide) rfl (by decide) (by first | exact fun _ _ h => h | exact z2h rfl | exact z2g rfl rfl | exact z2f rfl rfl rfl) (z2r (by rfl)) rfl (cap2 (by first | exact ⟨rfl, .inl rfl, .inl rfl⟩ | exact ⟨rfl, .inl rfl, .inr rfl⟩) (by first | exact ⟨rfl, .inl rfl, .inl rfl⟩ | exact ⟨rfl, .inl rfl, .inr rfl⟩)) (fun _ _ _ _ => (z1h (i := 0) (show (["other", "own", "side"] : List Str).Nodup by decide +kernel) rfl (Or.inl rfl))) (fun _ _ _ _ => (z0r clawboth hr (by rfl) z1l (z0a (pv 1) (z0a (pv 0) (z0a (pv 2) z0c)))))))) (z0f (z0y (z0i op_gt (z0u z0v (pv 6) z0e (fun _ _ => rfl)) z0e (z0n _)) (z0f (z0z (i := 9) sc.nd rfl (by first | exact Or.inl rfl | exact Or.inr rfl) (z3d (own := ["other"]) (fv := ["own"]) (js := [6]) rfl (z2p (pv 2)) rfl (by decide) rfl (by decide) (by first | exact fun _ _ h => h | exact z2h rfl | exact z2g rfl rfl | exact z2f rfl rfl rfl) (z2r (by rfl)) rfl (cap1 (by first | exact ⟨rfl, .inl rfl, .inl rfl⟩ | exact ⟨rfl, .inl rfl, .inr rfl⟩)) (fun _ _ _ _ => (z1h (i := 0) (show (["other", "own"] : List Str).Nodup by decide +kernel) rfl (Or.inl rfl))) (fun _ _ _ _ => (z0t z1x (pv 0) (z1e z1s (pv 1) (z1k z0e) z1n)))))) z0k))) (z0d (z3p (own := ["k"]) (fv := ["kind", "made", "own"]) (js := [0, 9, 6]) sc.nd (i := 10) rfl (by first | exact Or.inl rfl | exact Or.inr rfl) (by first | exact Or.inl rfl | exact Or.inr rfl) rfl (z2j (by rfl) zrange (z0a (z0m z0j (by rfl) zlen PySem.boot_len (z0a (pv 9) z0c)) z0c)) rfl (by decide) rfl (by decide) (by first | exact fun _ _ h => h | exact z2h rfl | exact z2g rfl rfl | exact z2f rfl rfl rfl) (z2r (by rfl)) rfl (cap3 (by first | exact ⟨rfl, .inl rfl, .inl rfl⟩ | exact ⟨rfl, .inl rfl, .inr rfl⟩) (by first | exact ⟨rfl, .inl rfl, .inl rfl⟩ | exact ⟨rfl, .inl rfl, .inr rfl⟩) (by first | exact ⟨rfl, .inl rfl, .inl rfl⟩ | exact ⟨rfl, .inl rfl, .inr rfl⟩)) (fun _ _ _ _ => (z1h (i := 0) (show (["k", "kind", "made", "own"] : List Str).Nodup by decide +kernel) rfl (Or.inl rfl))) (fun _ _ _ _ => (pv 0)) (fun _ _ _ _ => (PW.pt (pw_or (PW.pt (pw_and (z0i z1f (pv 1) z0e (z0n _)) (z3k (z0i op_gt (z0u z0v (pv 3) z0e (fun _ _ => rfl)) z0e (z0n _))))) (z2w (z0i (op_neTK (K := K) rfl hr.units0) (z0u z0o (pv 2) (pv 0) (fun _ _ => rfl)) (z0w z0c) (z0n _))))))) (z0d (z3p (own := ["k"]) (fv := ["most", "made"]) (js := [3, 9]) sc.nd (i := 10) rfl (by first | exact Or.inl rfl | exact Or.inr rfl) (by first | exact Or.inl rfl | exact Or.inr rfl) rfl (z2p (pv 10)) rfl (by decide) rfl (by decide) (by first | exact fun _ _ h => h | exact z2h rfl | exact z2g rfl rfl | exact z2f rfl rfl rfl) (z2r (by rfl)) rfl (cap2 (by first | exact ⟨rfl, .inl rfl, .inl rfl⟩ | exact ⟨rfl, .inl rfl, .inr rfl⟩) (by first | exact ⟨rfl, .inl rfl, .inl rfl⟩ | exact ⟨rfl, .inl rfl, .inr rfl⟩)) (fun _ _ _ _ => (z1h (i := 0) (show (["k", "most", "made"] : List Str).Nodup by decide +kernel) rfl (Or.inl rfl))) (fun _ _ _ _ => (pv 0)) (fun _ _ _ _ => (PW.pt (pw_and (z0i op_le (z0m ((z3y (K := K) rfl)) (by rfl) zlen PySem.boot_len (z0a (z0u z0o (pv 2) (pv 0) (fun _ _ => rfl)) z0c)) z0e (z0n _)) (z3k (z0i op_le (z0r clawwide hr (by rfl) z1l (z0a (z0u z0o (pv 2) (pv 0) (fun _ _ => rfl)) z0c)) (pv 1) (z0n _))))))) (z0d (z0y (z0i z1f (z0m z0j (by rfl) zlen PySem.boot_len (z0a (pv 10) z0c)) z0e (z0n _)) (z0f (z0l (z0w (z0a (z0w (z0a z0q (z0a (pv 5) (z0a (pv 7) z0c)))) (z0a (pv 6) z0c))))) z0k) (z0d (z0z (i := 11) sc.nd rfl (by first | exact Or.inl rfl | exact Or.inr rfl) (z0r clawrecent hr (by rfl) z1l (z0a (pv 10) (z0a (z0u z0o (pv 1) z0e (fun _ _ => rfl)) z0c)))) (z0d (z0y (z0i z1f (pv 0) z0e (z0n _)) (z0f (z0l (z0w (z0a (z0w (z0a z0q (z0a (pv 5) (z0a (pv 11) (z0a (pv 7) z0c))))) (z0a (z0u z0o (pv 9) (pv 11) (fun _ _ => rfl)) z0c))))) z0k) (z0f (z0l (z0w (z0a (z0w (z0a z0q (z0a (pv 5) (z0a (pv 11) z0c)))) (z0a (z0u z0o (pv 9) (pv 11) (fun _ _ => rfl)) z0c))))))))))))))))))), ?_⟩
  simp only [L2.start, List.length_cons, List.length_nil, List.replicate, List.cons_append, List.nil_append, Nat.reduceSub, Nat.reduceAdd, List.map_cons, List.map_nil]
  have n4 := hsd.1
  obtain ⟨j0, j0l, j0e⟩ := List.mem_iff_getElem.mp S0m
  have j0e' : Ss[j0]? = some S0 := by rw [List.getElem?_eq_getElem j0l, j0e]
  refine z0h (fun σ G => Same H G /\ ∃ (si : Addr) (ks : List Int), G si = some (.lst (ks.map V.int)) /\ (∀ k, k ∈ ks ↔ ∃ j : Nat, k = j /\ j < Ss.length /\ ∃ S, Ss[j]? = some S /\ 0 < S.length) /\ σ = [some (.int kd), some (.ref dl), some (.ref sl), some (.int mo), some (.ref si), none, none, none, none, none, none, none]) ?_ (fun R hR => ?_)
  rotate_left
  · wp_walk using tSeq, tIfS
    refine ⟨_, .inl (.of hs), ?_⟩
    rw [List.length_map, ht.1]
    refine ⟨by omega, by omega, ?_⟩
    rw [Int.toNat_natCast]
    refine filtR (by omega) (fun j => ∃ S, Ss[j]? = some S /\ 0 < S.length) [some (.ref sl)] rfl (fun j y G Rt Rf jl u ht1 hf1 => ?_) (fun ks G p u hp hk kl => hR _ _ ⟨u.trans (z0b hp _), p, ks, z0g, hk, rfl⟩)
    obtain ⟨pk, B, ek, eB, hB⟩ := z2l (ht.same u) jl
    wp_walk using tSeq, tIfS
    refine ⟨_, u _ _ hs, _, ek, Nat.zero_le _, fun p0 hp0 => ⟨_, rfl, _, .of (z0b hp0 _ _ _ hB), _, .of z0g, z1j _, rfl, ?_⟩⟩
    rw [show ([] : List V) = ([] : List Int).map V.int from rfl, z1z]
    by_cases c : B = []
    · rw [decide_eq_true c]
      exact hf1 _ (u.trans (z0b hp0 _)) fun ⟨S, e, z⟩ => by cases eB.symm.trans e; rw [c] at z; exact absurd z (Nat.lt_irrefl _)
    · rw [decide_eq_false c]
      exact ht1 _ (u.trans (z0b hp0 _)) ⟨B, eB, List.length_pos_iff.mpr c⟩
  rintro σ1 G1 ⟨s1, si, ks, hsi, hk, rfl⟩
  have kpos : 0 < ks.length := List.length_pos_of_mem ((hk j0).mpr ⟨j0, rfl, j0l, S0, j0e', S0l⟩)
  refine z0h (fun σ G => G = G1 /\ ∃ (a : Nat) (A : List Int) (pa : Addr), Ss[a]? = some A /\ 0 < A.length /\ atI (ps.map V.ref) (a : Int) = some (.ref pa) /\ Tp G pa A /\ σ = [some (.int kd), some (.ref dl), some (.ref sl), some (.int mo), some (.ref si), some (.int (a : Int)), none, none, none, none, none, none]) ?_ (fun R hR => ?_)
  rotate_left
  · wp_walk using tSeq, tIfS, splawrecent
    refine ⟨_, s1 _ _ hd, _, z0p (j := 0) rfl, ks, d0, rfl, hsi, kpos, fun k hkm => ?_⟩
    obtain ⟨a, rfl, al, A, eA, A0⟩ := (hk k).mp hkm
    obtain ⟨pa, A', ea, eA', hA⟩ := z2l (ht.same s1) al
    cases eA'.symm.trans eA
    exact hR _ _ ⟨rfl, a, A, pa, eA, A0, ea, hA, rfl⟩
  rintro σ2 G2 ⟨rfl, a, A, pa, eA, A0, ea, hA, rfl⟩
  have fA := hsd.2 _ (List.mem_of_getElem? eA)
  have a6 := fA.2.1
  have hd2 := s1 _ _ hd
  have hs2 := s1 _ _ hs
  refine z0h (fun σ G => G = G2 /\ σ = [some (.int kd), some (.ref dl), some (.ref sl), some (.int mo), some (.ref si), some (.int (a : Int)), some (.ref pa), none, none, none, none, none]) ?_ (fun R hR => ?_)
  rotate_left
  · wp_walk using tSeq, tIfS
    exact ⟨_, hs2, _, ea, hR _ _ ⟨rfl, rfl⟩⟩
  rintro σ3 G3 ⟨rfl, rfl⟩
  refine z0h (fun σ G => G = G3 /\ ∃ k : Nat, k < A.length /\ σ = [some (.int kd), some (.ref dl), some (.ref sl), some (.int mo), some (.ref si), some (.int (a : Int)), some (.ref pa), some (.int (k : Int)), none, none, none, none]) ?_ (fun R hR => ?_)
  rotate_left
  · wp_walk using tSeq, tIfS
    refine ⟨_, hd2, _, z0p (j := 1) rfl, _, .inr (.of hA), _, rfl, ?_⟩
    rw [z0s]
    have f0 := Int.fmod_nonneg_of_pos d1 (show (0 : Int) < (A.length : Int) by omega)
    have f1 := Int.fmod_lt_of_pos d1 (show (0 : Int) < (A.length : Int) by omega)
    obtain ⟨k, hk⟩ : ∃ k : Nat, d1.fmod (A.length : Int) = k := ⟨_, (Int.toNat_of_nonneg f0).symm⟩
    rw [hk] at f1 ⊢
    exact ⟨by omega, hR _ _ ⟨rfl, k, by omega, rfl⟩⟩
  rintro σ4 G4 ⟨rfl, k, kl, rfl⟩
  refine z0h (fun σ G => Same G4 G /\ ∃ wl, G wl = some (.lst (fw.map V.str)) /\ σ = [some (.int kd), some (.ref dl), some (.ref sl), some (.int mo), some (.ref si), some (.int (a : Int)), some (.ref pa), some (.int (k : Int)), some (.ref wl), none, none, none]) ?_ (fun R hR => ?_)
  rotate_left
  · wp_walk using tSeq, tIfS
    exact ⟨small (by decide), fun l hl => hR _ _ ⟨z0b hl _, l, z0g, rfl⟩⟩
  rintro σ5 G5 ⟨s5, wl, hwl, rfl⟩
  have hd5 := s5 _ _ hd2
  have hs5 := s5 _ _ hs2
  have hA5 := s5 _ _ hA
  have t5 := s1.trans s5
  obtain ⟨w, hw, wm⟩ := word_at fw (k := d2 % 7) (by omega) (by show d2 % 7 < ((7 : Nat) : Int); omega)
  refine z0h (fun σ G => G = G5 /\ ¬ kd = 13 /\ σ = [some (.int kd), some (.ref dl), some (.ref sl), some (.int mo), some (.ref si), some (.int (a : Int)), some (.ref pa), some (.int (k : Int)), some (.ref wl), none, none, none]) ?_ (fun R hR => ?_)
  rotate_left
  · wp_walk using tSeq, tIfS
    split
    rotate_left
    · exact hR _ _ ⟨rfl, ‹_›, rfl⟩
    refine ⟨_, hd5, _, z0p (j := 2) rfl, _, rfl, _, hwl, _, hw, small (by decide), fun p hp => ⟨_, z0b hp _ _ _ hA5, fun r1 H1 u1 h1 => ⟨_, u1 _ _ (z0b hp _ _ _ hA5), fun r2 H2 u2 h2 => ?_⟩⟩⟩
    rw [z2e] at h1
    rw [show (k : Int) + 1 = ((k + 1 : Nat) : Int) by omega, z2i] at h2
    refine ⟨_, u2 _ _ h1, _, h2, small (by simp only [List.length_map, List.length_take, List.length_drop]; omega), fun r3 H3 u3 h3 => ⟨small (by decide), fun p1 hp1 => ?_⟩⟩
    rw [← List.map_append, ← List.eraseIdx_eq_take_drop_succ] at h3
    exact q _ p1 (t5.trans ((z0b hp _).trans (u1.trans (u2.trans (u3.trans (z0b hp1 _)))))) ⟨p, r3, .fold w a k, A.eraseIdx k, z0g, z0b hp1 _ _ _ (u3 _ _ (u2 _ _ (u1 _ _ z0g))), z0b hp1 _ _ _ h3, ⟨A, eA, wm, by unfold off; omega, by rw [Int.toNat_natCast]⟩, fitM_erase fA⟩
  rintro σ6 G6 ⟨rfl, n13, rfl⟩
  refine z0h (fun σ G => G = G6 /\ ¬ kd = 14 /\ σ = [some (.int kd), some (.ref dl), some (.ref sl), some (.int mo), some (.ref si), some (.int (a : Int)), some (.ref pa), some (.int (k : Int)), some (.ref wl), none, none, none]) ?_ (fun R hR => ?_)
  rotate_left
  · wp_walk using tSeq, tIfS
    split
    rotate_left
    · exact hR _ _ ⟨rfl, ‹_›, rfl⟩
    exact ⟨_, hd5, _, z0p (j := 2) rfl, _, rfl, _, hwl, _, hw, small (by decide), fun p hp => ⟨small (by decide), fun p1 hp1 => q _ p1 (t5.trans ((z0b hp _).trans (z0b hp1 _))) ⟨p, pa, .run w a k, A, z0g, z0b hp1 _ _ _ z0g, z0b hp1 _ _ _ (z0b hp _ _ _ hA5), ⟨eA, wm, by unfold off; omega⟩, fA⟩⟩⟩
  rintro σ7 G7 ⟨rfl, n14, rfl⟩
  refine z0h (fun σ G => Same G7 G /\ ∃ (md pe : Addr), G md = some (.lst [.ref pe]) /\ Tp G pe [] /\ σ = [some (.int kd), some (.ref dl), some (.ref sl), some (.int mo), some (.ref si), some (.int (a : Int)), some (.ref pa), some (.int (k : Int)), some (.ref wl), some (.ref md), none, none]) ?_ (fun R hR => ?_)
  rotate_left
  · wp_walk using tSeq, tIfS
    exact ⟨Nat.zero_le _, fun p hp => ⟨small (by decide), fun p1 hp1 => hR _ _ ⟨(z0b hp _).trans (z0b hp1 _), p1, p, z0g, z0b hp1 _ _ _ z0g, rfl⟩⟩⟩
  rintro σ8 G8 ⟨s8, md0, pe, hmd0, hpe, rfl⟩
  have hA8 := s8 _ _ hA5
  have hs8 := s8 _ _ hs5
  have t8 := t5.trans s8
  have at0 : atI (A.map V.int) 0 = some (.int (A.getD 0 0)) := at_side (k := 0) A0
  refine z0h (fun σ G => Same G8 G /\ ∃ (md : Addr) (qs : List Addr) (Ms : List (List Int)), G md = some (.lst (qs.map V.ref)) /\ TpsM G qs Ms /\ Md kd A k Ss Ms /\ σ = [some (.int kd), some (.ref dl), some (.ref sl), some (.int mo), some (.ref si), some (.int (a : Int)), some (.ref pa), some (.int (k : Int)), some (.ref wl), some (.ref md), none, none]) ?_ (fun R hR => ?_)
  rotate_left
  · wp_walk using tSeq, tIfS
    split
    · rename_i c11
      refine mapS hs8 (by omega) (ht.same t8) (fun B => bothL A B k) [some (.ref pa), some (.int (k : Int))] rfl (fun p S y G Rt hS u hp ht1 => ?_) (fun qs G p u hp tq => hR _ _ ⟨u.trans (z0b hp _), p, qs, _, z0g, tq.same (z0b hp _), .inl ⟨c11, rfl⟩, rfl⟩)
      wp_walk using tSeq, tIfS, splawboth
      exact ⟨A, S, k, rfl, u _ _ hA8, hp, kl, a6, (hsd.2 S hS).2.1, fun G' r u' h => ht1 _ _ u' h⟩
    · rename_i c11
      refine ⟨_, hA8, _, at0, _, rfl, ?_⟩
      split
      · rename_i cA
        refine mapS hs8 (by omega) (ht.same t8) (fun B => B ++ A.drop 1) [some (.ref pa)] rfl (fun p S y G Rt hS u hp ht1 => ?_) (fun qs G p u hp tq => hR _ _ ⟨u.trans (z0b hp _), p, qs, _, z0g, tq.same (z0b hp _), .inr (.inl ⟨by omega, cA, rfl⟩), rfl⟩)
        wp_walk using tSeq, tIfS
        refine ⟨_, u _ _ hA8, fun r1 H1 u1 h1 => ?_⟩
        rw [show (1 : Int) = ((1 : Nat) : Int) from rfl, z2i] at h1
        have s6 := (hsd.2 S hS).2.1
        refine ⟨_, u1 _ _ hp, _, h1, small (by simp only [List.length_map, List.length_drop]; omega), fun r2 H2 u2 h2 => ht1 _ _ (u1.trans u2) ?_⟩
        show _ = _; rw [h2, List.map_append]
      · rename_i cA
        exact hR _ _ ⟨Same.refl _, md0, [pe], [[]], hmd0, ⟨rfl, fun i p e => by
          match i, e with
          | 0, e => cases e; exact ⟨[], rfl, hpe⟩⟩, .inr (.inr ⟨c11, cA, rfl⟩), rfl⟩
  rintro σ9 G9 ⟨s9, md, qs, Ms, hmd, tq, hM, rfl⟩
  have hA9 := s9 _ _ hA8
  have t9 := t8.trans s9
  have ml := md_len hM n4
  have mb := md_b hM fA hsd.2 hmo
  refine z0h (fun σ G => Same G9 G /\ ∃ (f1 : Addr) (ks : List Int), G f1 = some (.lst (ks.map V.int)) /\ ks.length ≤ 40 /\ (∀ k, k ∈ ks ↔ ∃ j : Nat, k = j /\ j < Ms.length /\ ((kd = 12 /\ 0 < A.getD 0 0) \/ ∃ M, Ms[j]? = some M /\ ¬ M = [])) /\ σ = [some (.int kd), some (.ref dl), some (.ref sl), some (.int mo), some (.ref si), some (.int (a : Int)), some (.ref pa), some (.int (k : Int)), some (.ref wl), some (.ref md), some (.ref f1), none]) ?_ (fun R hR => ?_)
  rotate_left
  · wp_walk using tSeq, tIfS
    refine ⟨_, .inl (.of hmd), ?_⟩
    rw [List.length_map, tq.1]
    refine ⟨by omega, by omega, ?_⟩
    rw [Int.toNat_natCast]
    refine filtR (by omega) (fun j => (kd = 12 /\ 0 < A.getD 0 0) \/ ∃ M, Ms[j]? = some M /\ ¬ M = []) [some (.int kd), some (.ref md), some (.ref pa)] rfl (fun j y G Rt Rf jl u ht1 hf1 => ?_) (fun ks G p u hp hk kl => hR _ _ ⟨u.trans (z0b hp _), p, ks, z0g, by omega, hk, rfl⟩)
    obtain ⟨pk, M, ek, eM, hMj⟩ := z2l (tq.same u) jl
    wp_walk using tSeq, tIfS
    by_cases c12 : kd = 12
    · rw [if_pos c12]
      refine ⟨_, u _ _ hA9, _, at0, _, rfl, ?_⟩
      by_cases cA : 0 < A.getD 0 0
      · rw [if_pos cA]
        exact ht1 _ u (.inl ⟨c12, cA⟩)
      · rw [if_neg cA]
        refine ⟨_, u _ _ hmd, _, ek, Nat.zero_le _, fun p0 hp0 => ⟨_, rfl, _, .of (z0b hp0 _ _ _ hMj), _, .of z0g, z1j _, rfl, ?_⟩⟩
        rw [show ([] : List V) = ([] : List Int).map V.int from rfl, z1z]
        by_cases cM : M = []
        · rw [decide_eq_true cM, if_neg (by decide)]
          exact hf1 _ (u.trans (z0b hp0 _)) (fun z => z.elim (fun z => cA z.2) fun ⟨M2, e2, y⟩ => by cases eM.symm.trans e2; exact y cM)
        · rw [decide_eq_false cM, if_pos rfl]
          exact ht1 _ (u.trans (z0b hp0 _)) (.inr ⟨M, eM, cM⟩)
    · rw [if_neg c12]
      refine ⟨_, u _ _ hmd, _, ek, Nat.zero_le _, fun p0 hp0 => ⟨_, rfl, _, .of (z0b hp0 _ _ _ hMj), _, .of z0g, z1j _, rfl, ?_⟩⟩
      rw [show ([] : List V) = ([] : List Int).map V.int from rfl, z1z]
      by_cases cM : M = []
      · rw [decide_eq_true cM, if_neg (by decide)]
        exact hf1 _ (u.trans (z0b hp0 _)) (fun z => z.elim (fun z => c12 z.1) fun ⟨M2, e2, y⟩ => by cases eM.symm.trans e2; exact y cM)
      · rw [decide_eq_false cM, if_pos rfl]
        exact ht1 _ (u.trans (z0b hp0 _)) (.inr ⟨M, eM, cM⟩)
  rintro σ10 G10 ⟨s10, f1, ks1, hf1, k1l, hk1, rfl⟩
  refine z0h (fun σ G => Same G10 G /\ ∃ (f2 : Addr) (ls : List Int), G f2 = some (.lst (ls.map V.int)) /\ (∀ k, k ∈ ls ↔ k ∈ ks1 /\ ∃ M, Ms[k.toNat]? = some M /\ M.length ≤ 6 /\ prodI (M.map one1) ≤ mo) /\ σ = [some (.int kd), some (.ref dl), some (.ref sl), some (.int mo), some (.ref si), some (.int (a : Int)), some (.ref pa), some (.int (k : Int)), some (.ref wl), some (.ref md), some (.ref f2), none]) ?_ (fun R hR => ?_)
  rotate_left
  · wp_walk using tSeq, tIfS
    refine filtL hf1 (by omega) (fun k => ∃ M, Ms[k.toNat]? = some M /\ M.length ≤ 6 /\ prodI (M.map one1) ≤ mo) [some (.int mo), some (.ref md)] rfl (fun x y G Rt Rf hx u ht1 hf1 => ?_) (fun ls G p u hp hk2 kl2 => hR _ _ ⟨u.trans (z0b hp _), p, ls, z0g, hk2, rfl⟩)
    obtain ⟨j, rfl, jl, _⟩ := (hk1 x).mp hx
    obtain ⟨pk, M, ek, eM, hMj⟩ := z2l (tq.same (s10.trans u)) jl
    wp_walk using tSeq, tIfS, splawwide
    refine ⟨_, (s10.trans u) _ _ hmd, _, ek, _, rfl, _, .inr (.of hMj), ?_⟩
    rw [z0s]
    by_cases c6 : M.length ≤ 6
    · rw [if_pos (by omega)]
      refine ⟨_, (s10.trans u) _ _ hmd, _, ek, pk, rfl, M, hMj, sd_of1024 (mb M (List.mem_of_getElem? eM)), by omega, fun G' u' => ?_⟩
      split
      · exact ht1 _ (u.trans u') ⟨M, eM, c6, ‹_›⟩
      · rename_i cw
        exact hf1 _ (u.trans u') fun ⟨M2, e2, y1, y2⟩ => by rw [Int.toNat_natCast] at e2; cases eM.symm.trans e2; exact cw y2
    · rw [if_neg (by omega)]
      exact hf1 _ u fun ⟨M2, e2, y1, _⟩ => by rw [Int.toNat_natCast] at e2; cases eM.symm.trans e2; exact c6 y1
  rintro σ11 G11 ⟨s11, f2, ls, hf2, hl, rfl⟩
  have t11 := t9.trans (s10.trans s11)
  have hA11 := (s10.trans s11) _ _ hA9
  refine z0h (fun σ G => G = G11 /\ 0 < ls.length /\ σ = [some (.int kd), some (.ref dl), some (.ref sl), some (.int mo), some (.ref si), some (.int (a : Int)), some (.ref pa), some (.int (k : Int)), some (.ref wl), some (.ref md), some (.ref f2), none]) ?_ (fun R hR => ?_)
  rotate_left
  · wp_walk using tSeq, tIfS
    refine ⟨_, .inl (.of hf2), ?_⟩
    rw [z0s]
    split
    · exact ⟨small (by decide), fun p hp => ⟨small (by decide), fun p1 hp1 => q _ p1 (t11.trans ((z0b hp _).trans (z0b hp1 _))) ⟨p, pa, .flip a k, A, z0g, z0b hp1 _ _ _ z0g, z0b hp1 _ _ _ (z0b hp _ _ _ hA11), ⟨eA, by unfold off; omega⟩, fA⟩⟩⟩
    · exact hR _ _ ⟨rfl, by omega, rfl⟩
  rintro σ12 G12 ⟨rfl, l0, rfl⟩
  refine z0h (fun σ G => G = G12 /\ ∃ (b : Nat) (M : List Int) (pm : Addr), b < Ms.length /\ Ms[b]? = some M /\ ((kd = 12 /\ 0 < A.getD 0 0) \/ ¬ M = []) /\ M.length ≤ 6 /\ prodI (M.map one1) ≤ mo /\ atI (qs.map V.ref) (b : Int) = some (.ref pm) /\ Tp G pm M /\ σ = [some (.int kd), some (.ref dl), some (.ref sl), some (.int mo), some (.ref si), some (.int (a : Int)), some (.ref pa), some (.int (k : Int)), some (.ref wl), some (.ref md), some (.ref f2), some (.int (b : Int))]) ?_ (fun R hR => ?_)
  rotate_left
  · wp_walk using tSeq, tIfS, splawrecent
    refine ⟨_, t11 _ _ hd, _, z0p (j := 2) rfl, ls, d2, rfl, hf2, l0, fun x hx => ?_⟩
    obtain ⟨xm, M, eM, m6, mw⟩ := (hl x).mp hx
    obtain ⟨b, rfl, bl, hb⟩ := (hk1 x).mp xm
    rw [Int.toNat_natCast] at eM
    obtain ⟨pm, M', em, eM', hMb⟩ := z2l (tq.same (s10.trans s11)) bl
    cases eM'.symm.trans eM
    exact hR _ _ ⟨rfl, b, M, pm, bl, eM, hb.imp id fun ⟨M2, e2, z⟩ => by cases eM.symm.trans e2; exact z, m6, mw, em, hMb, rfl⟩
  rintro σ13 G13 ⟨rfl, b, M, pm, bl, eM, hb, m6, mw, em, hMb, rfl⟩
  have nb := nb_of hmo m6 mw
  have fM := fitM_of (fun n hn => (mb M (List.mem_of_getElem? eM) n hn).1) m6 mw
  have hmd13 := (s10.trans s11) _ _ hmd
  refine z0h (fun σ G => G = G13 /\ ¬ kd = 11 /\ σ = [some (.int kd), some (.ref dl), some (.ref sl), some (.int mo), some (.ref si), some (.int (a : Int)), some (.ref pa), some (.int (k : Int)), some (.ref wl), some (.ref md), some (.ref f2), some (.int (b : Int))]) ?_ (fun R hR => ?_)
  rotate_left
  · wp_walk using tSeq, tIfS
    split
    rotate_left
    · exact hR _ _ ⟨rfl, ‹_›, rfl⟩
    rename_i c11
    have mne : ¬ M = [] := hb.elim (fun z => by omega) id
    obtain ⟨B, eB, rfl⟩ : ∃ B, Ss[b]? = some B /\ M = bothL A B k := by
      rcases hM with ⟨_, rfl⟩ | ⟨z, _⟩ | ⟨z, _⟩
      · rw [List.getElem?_map] at eM
        cases hx : Ss[b]? with
        | none => rw [hx] at eM; cases eM
        | some B => rw [hx] at eM; cases eM; exact ⟨B, rfl, rfl⟩
      · omega
      · exact absurd c11 z
    obtain ⟨j1, j2, j3⟩ := both_ne mne
    exact ⟨small (by decide), fun p hp => ⟨_, z0b hp _ _ _ hmd13, _, em, small (by decide), fun p1 hp1 => q _ p1 (t11.trans ((z0b hp _).trans (z0b hp1 _))) ⟨p, pm, .join a b k, bothL A B k, z0g, z0b hp1 _ _ _ z0g, z0b hp1 _ _ _ (z0b hp _ _ _ hMb), ⟨A, B, eA, eB, j1, by unfold off; omega, by rw [Int.toNat_natCast]; exact j2, by rw [← j3]; exact nb, j3⟩, fM⟩⟩⟩
  rintro σ14 G14 ⟨rfl, n11, rfl⟩
  wp_walk using tSeq, tIfS
  have k12 : kd = 12 := by omega
  obtain ⟨n, r, rfl⟩ : ∃ n r, A = n :: r := by
    match A, A0 with
    | n :: r, _ => exact ⟨n, r, rfl⟩
  obtain ⟨B, n0, eB, rfl⟩ : ∃ B, 0 < n /\ Ss[b]? = some B /\ M = B ++ r := by
    rcases hM with ⟨z, _⟩ | ⟨_, z, rfl⟩ | ⟨_, z, rfl⟩
    · exact absurd z n11
    · rw [List.getElem?_map] at eM
      cases hx : Ss[b]? with
      | none => rw [hx] at eM; cases eM
      | some B => rw [hx] at eM; cases eM; exact ⟨B, z, rfl, rfl⟩
    · rcases hb with y | y
      · exact absurd y.2 z
      · match b, eM with
        | 0, eM => cases eM; exact absurd rfl y
  exact ⟨small (by decide), fun p hp => ⟨_, z0b hp _ _ _ hmd13, _, em, small (by decide), fun p1 hp1 => q _ p1 (t11.trans ((z0b hp _).trans (z0b hp1 _))) ⟨p, pm, .fetch a b, B ++ r, z0g, z0b hp1 _ _ _ z0g, z0b hp1 _ _ _ (z0b hp _ _ _ hMb), ⟨n, r, B, eA, by omega, eB, nb, rfl⟩, fM⟩⟩⟩
abbrev slawstep : Stmt := top 71
theorem sclawstep : FnScope ["cell", "sides", "most", "n", "kind", "d", "a"] ["cell", "sides", "most"] (defScope slawstep) := ⟨rfl, rfl, rfl, by decide +kernel, rfl, by decide +kernel, by decide +kernel⟩
theorem oklawstep (F : Fun K "_law_step" "_law_step" slawstep f fd) (clawbegun : Callee P w K mg base CX0 (3) "_law_begun" ["kind", "n", "cell", "most"] splawbegun) (clawlifted : Callee P w K mg base CX0 (3) "_law_lifted" ["kind", "d", "sides"] spllifted) (clawmet : Callee P w K mg base CX0 (3) "_law_met" ["kind", "d", "sides", "most"] splmet) (clawrecent : Callee P w K mg base CX0 (3) "_law_recent" ["pool", "d"] splawrecent) (clawmoved : Callee P w K mg base CX0 (3) "_law_moved" ["kind", "d", "a", "own", "most"] (splmoved K)) (zlen : mg "len" = none) (zmax : mg "max" = none) (zlist : mg "list" = none) (zrange : mg "range" = none) (zmin : mg "min" = none) (zint : mg "int" = none) : FnOk P w K mg base CX0 (4) f fd ["cell", "sides", "most"] (splstep) := by
  have sc := sclawstep
  refine F.ok sc (fun vs H Q E h => ?_) (fun cdv A outer s H vs Q E hr h => ?_)
  · obtain ⟨sl, cell, mo, ps, Ss, rfl, _⟩ := h; rfl
  obtain ⟨sl, cell, mo, ps, Ss, rfl, hs, ht, hsd, hmo, q⟩ := h
  refine ⟨_, (z0d (z0z (i := 3) sc.nd rfl (by first | exact Or.inl rfl | exact Or.inr rfl) (z0t z2b (z0t op_mul (pv 0) z0e) z0e)) (z0d (z0z (i := 4) sc.nd rfl (by first | exact Or.inl rfl | exact Or.inr rfl) (z0t z1u (pv 3) z0e)) (z0d (z0z (i := 5) sc.nd rfl (by first | exact Or.inl rfl | exact Or.inr rfl) (z2q (z0a (z0t z1u (z0t z2d (pv 3) z0e) z0e) (z0a (z0t z1u (z0t z2d (pv 3) z0e) z0e) (z0a (z0t z2d (pv 3) z0e) z0c))))) (z0d (z0y (PW.pt (pw_or (z0i z1f (z0m z0j (by rfl) zlen PySem.boot_len (z0a (pv 1) z0c)) z0e (z0n _)) (z2w (z0i z3l (pv 4) z0e (z0n _))))) (z0f (z0l (z0r clawbegun hr (by rfl) z1l (z0a (z0t z1u (pv 4) z0e) (z0a (pv 3) (z0a (pv 0) (z0a (pv 2) z0c))))))) z0k) (z0d (z0y (z0i z3l (pv 4) z0e (z0n _)) (z0f (z0l (z0r clawlifted hr (by rfl) z1l (z0a (pv 4) (z0a (pv 5) (z0a (pv 1) z0c)))))) z0k) (z0d (z0y (PW.pt (pw_and (z0i op_gt (pv 4) z0e (z0n _)) (z3k (z0i op_gt (z0m (call_mxL rfl) (by rfl) zmax boot_max (z0a (pe_comp0 (own := ["own"]) rfl (z2p (pv 1)) (by decide) (by decide) rfl (by decide) (fun _ _ _ _ => (z1h (i := 0) (show (["own"] : List Str).Nodup by decide +kernel) rfl (Or.inl rfl))) (fun _ _ _ _ => (z0m ((z3y (K := K) rfl)) (by rfl) zlen PySem.boot_len (z0a (pv 0) z0c)))) z0c)) z0e (z0n _))))) (z0f (z0l (z0r clawmet hr (by rfl) z1l (z0a (pv 4) (z0a (pv 5) (z0a (pv 1) (z0a (pv 2) z0c))))))) z0k) (z0d (z0z (i := 6) sc.nd rfl (by first | exact Or.inl rfl | exact Or.inr rfl) (z0r clawrecent hr (by rfl) z1l (z0a (z1i (z3f rfl) (by rfl) zlist boot_list (z0a (z1i z3m (by rfl) zrange boot_range (z0a (z0m z0j (by rfl) zlen PySem.boot_len (z0a (pv 1) z0c)) z0c)) z0c)) (z0a (z0u z0o (pv 5) z0e (fun _ _ => rfl)) z0c)))) (z0f (z0l (z0r clawmoved hr (by rfl) z1l (z0a (z0m (z2m rfl) (by rfl) zmin boot_min (z0a (pv 4) (z0a (z0t z2y z0e (z1i call_int1 (by rfl) zint boot_int (z0a (pe_cmpR op_gt (pv 4) z0e (z0n _)) z0c))) z0c))) (z0a (pv 5) (z0a (pv 6) (z0a (z0u z0o (pv 1) (pv 6) (fun _ _ => rfl)) (z0a (pv 2) z0c))))))))))))))), ?_⟩
  simp only [L2.start, List.length_cons, List.length_nil, List.replicate, List.cons_append, List.nil_append, Nat.reduceSub, Nat.reduceAdd, List.map_cons, List.map_nil]
  have n4 := hsd.1
  refine z0h (fun σ G => G = H /\ ∃ n : Int, σ = [some (.int cell), some (.ref sl), some (.int mo), some (.int n), none, none, none]) ?_ (fun R hR => ?_)
  rotate_left
  · wp_walk using tSeq, tIfS
    exact ⟨by omega, hR _ _ ⟨rfl, _, rfl⟩⟩
  rintro σ1 G1 ⟨rfl, n, rfl⟩
  refine z0h (fun σ G => G = G1 /\ ∃ kd : Int, 0 ≤ kd /\ kd < 15 /\ σ = [some (.int cell), some (.ref sl), some (.int mo), some (.int n), some (.int kd), none, none]) ?_ (fun R hR => ?_)
  rotate_left
  · wp_walk using tSeq, tIfS
    exact hR _ _ ⟨rfl, _, by omega, by omega, rfl⟩
  rintro σ2 G2 ⟨rfl, kd, kd0, kd1, rfl⟩
  refine z0h (fun σ G => Same G2 G /\ ∃ (dl : Addr) (d0 d1 d2 : Int), G dl = some (.lst [.int d0, .int d1, .int d2]) /\ σ = [some (.int cell), some (.ref sl), some (.int mo), some (.int n), some (.int kd), some (.ref dl), none]) ?_ (fun R hR => ?_)
  rotate_left
  · wp_walk using tSeq, tIfS
    exact ⟨small (by decide), fun l hl => hR _ _ ⟨z0b hl _, l, _, _, _, z0g, rfl⟩⟩
  rintro σ3 G3 ⟨s3, dl, d0, d1, d2, hd, rfl⟩
  have hs3 := s3 _ _ hs
  have ht3 := ht.same s3
  refine z0h (fun σ G => G = G3 /\ 0 < Ss.length /\ 3 ≤ kd /\ σ = [some (.int cell), some (.ref sl), some (.int mo), some (.int n), some (.int kd), some (.ref dl), none]) ?_ (fun R hR => ?_)
  rotate_left
  · wp_walk using tSeq, tIfS, splawbegun
    refine ⟨_, .inl (.of hs3), ?_⟩
    rw [List.length_map, ht.1]
    by_cases c : Ss.length = 0
    · rw [if_pos (by omega)]
      exact ⟨hmo, fun G r u h => q _ r (s3.trans u) (h _)⟩
    · rw [if_neg (by omega)]
      split
      · exact ⟨hmo, fun G r u h => q _ r (s3.trans u) (h _)⟩
      · exact hR _ _ ⟨rfl, by omega, by omega, rfl⟩
  rintro σ4 G4 ⟨rfl, n0, kd3, rfl⟩
  refine z0h (fun σ G => G = G4 /\ σ = [some (.int cell), some (.ref sl), some (.int mo), some (.int n), some (.int kd), some (.ref dl), none]) ?_ (fun R hR => ?_)
  rotate_left
  · wp_walk using tSeq, tIfS, spllifted
    split
    · exact ⟨mo, d0, d1, d2, hd, ps, hs3, Ss, ht3, n0, hsd, fun G r u h => q _ r (s3.trans u) h⟩
    · exact hR _ _ ⟨rfl, rfl⟩
  rintro σ5 G5 ⟨rfl, rfl⟩
  refine z0h (fun σ G => Same G5 G /\ σ = [some (.int cell), some (.ref sl), some (.int mo), some (.int n), some (.int kd), some (.ref dl), none]) ?_ (fun R hR => ?_)
  rotate_left
  · wp_walk using tSeq, tIfS, splmet
    by_cases c : 10 < kd
    rotate_left
    · rw [if_neg (by omega)]
      exact hR _ _ ⟨Same.refl _, rfl⟩
    rw [if_pos (by omega)]
    refine CompL.mk (xs := ps.map V.ref) (.of hs3) (fun i ys σ G => G = G5 /\ i ≤ Ss.length /\ ys = ((Ss.take i).map (fun S => (S.length : Int))).map V.int /\ ∃ y, σ = [y]) ⟨rfl, Nat.zero_le _, rfl, _, rfl⟩ (fun i ys σ G _ h => by rw [h.1]; exact .of hs3) (fun i x ys σ G e h => ?_) (fun ys σ G h p hp => ?_)
    · obtain ⟨rfl, hi, rfl, y, rfl⟩ := h
      obtain ⟨p, rfl, hp⟩ : ∃ p, x = .ref p /\ ps[i]? = some p := by
        rw [List.getElem?_map] at e
        cases hx : ps[i]? with
        | none => rw [hx] at e; cases e
        | some n => rw [hx] at e; cases e; exact ⟨n, rfl, rfl⟩
      have il := (List.getElem?_eq_some_iff.mp hp).1
      obtain ⟨S, eS, hS⟩ := ht3.2 i p hp
      have e1 : ((Ss.take (i + 1)).map (fun S => (S.length : Int))).map V.int = ((Ss.take i).map (fun S => (S.length : Int))).map V.int ++ [V.int (S.length : Int)] := by rw [List.take_add_one, eS, List.map_append, List.map_append]; rfl
      refine ⟨by rw [List.length_map, List.length_map, List.length_take]; exact z1b (by omega), ?_⟩
      wp_walk using tSeq, tIfS, e1
      refine ⟨_, .inr (.of hS), ?_⟩
      rw [z0s]
      exact ⟨by rw [ht.1] at il; exact il, rfl, _, rfl⟩
    · obtain ⟨rfl, hi, rfl, y, rfl⟩ := h
      rw [List.length_map, ht.1, List.take_length]
      refine ⟨p, rfl, _, .of z0g, by rw [List.length_map]; exact n0, fun M hM _ => ?_⟩
      split
      · exact ⟨d0, d1, d2, z0b hp _ _ _ hd, ps, z0b hp _ _ _ hs3, Ss, ht3.same (z0b hp _), len_max hM (by omega), by omega, by omega, hsd, hmo, fun G r u h => q _ r (s3.trans ((z0b hp _).trans u)) h⟩
      · exact hR _ _ ⟨z0b hp _, rfl⟩
  rintro σ6 G6 ⟨s6, rfl⟩
  refine z0h (fun σ G => Same G6 G /\ ∃ a : Nat, a < Ss.length /\ σ = [some (.int cell), some (.ref sl), some (.int mo), some (.int n), some (.int kd), some (.ref dl), some (.int (a : Int))]) ?_ (fun R hR => ?_)
  rotate_left
  · wp_walk using tSeq, tIfS, splawrecent
    refine ⟨_, .inl (.of (s6 _ _ hs3)), fun r0 hr0 => ⟨Ss.length, by rw [List.length_map, ht.1]; rfl, by omega, fun l hl => ?_⟩⟩
    have u := (z0b hr0 (.rng 0 (((ps.map V.ref).length : Nat) : Int))).trans (z0b hl (.lst ((upL Ss.length).map V.int)))
    refine ⟨_, u _ _ (s6 _ _ hd), _, z0p (j := 0) rfl, upL Ss.length, d0, rfl, rfl, by rw [up_len]; exact n0, fun k hk => ?_⟩
    obtain ⟨a, rfl, al⟩ := up_nat hk
    exact hR _ _ ⟨u, a, al, rfl⟩
  rintro σ7 G7 ⟨s7, a, al, rfl⟩
  have t7 := s6.trans s7
  obtain ⟨pa, A, ea, eA, hA⟩ := z2l (ht3.same t7) al
  wp_walk using tSeq, tIfS, splmoved
  exact .inr ⟨_, t7 _ _ hs3, _, ea, pa, mo, d0, d1, d2, a, rfl, rfl, rfl, t7 _ _ hd, A, hA, Ss, eA, hsd.2 _ (List.mem_of_getElem? eA), hmo, fun G r u h => q _ r (s3.trans (t7.trans u)) h⟩
abbrev slawprogram : Stmt := top 72
theorem sclawprogram : FnScope ["cells", "most", "steps", "sides", "cell", "made", "outs", "n", "k"] ["cells", "most"] (defScope slawprogram) := ⟨rfl, rfl, rfl, by decide +kernel, rfl, by decide +kernel, by decide +kernel⟩
theorem oklawprogram (F : Fun K "_law_program" "_law_program" slawprogram f fd) (clawstep : Callee P w K mg base CX0 (4) "_law_step" ["cell", "sides", "most"] splstep) (zlen : mg "len" = none) (zsum : mg "sum" = none) (zrange : mg "range" = none) (ztuple : mg "tuple" = none) : FnOk P w K mg base CX0 (5) f fd ["cells", "most"] (splprogram) := by
  have sc := sclawprogram
  refine F.ok sc (fun vs H Q E h => ?_) (fun cdv A outer s H vs Q E hr h => ?_)
  · obtain ⟨ca, cs, mo, rfl, _⟩ := h; rfl
  obtain ⟨ca, cs, mo, rfl, hc, c40, hmo, q⟩ := h
  refine ⟨_, (z0d (z0z (i := 2) sc.nd rfl (by first | exact Or.inl rfl | exact Or.inr rfl) (z2q z0c)) (z0d (z0z (i := 3) sc.nd rfl (by first | exact Or.inl rfl | exact Or.inr rfl) (z2q z0c)) (z0d (z3b PassesOwn.never rfl (z2p (pv 0)) (z1h (i := 4) sc.nd rfl (Or.inl rfl)) (z0d (z0z (i := 5) sc.nd rfl (by first | exact Or.inl rfl | exact Or.inr rfl) (z0r clawstep hr (by rfl) z1l (z0a (pv 4) (z0a (pv 3) (z0a (pv 1) z0c))))) (z0d (z1w (pe_app (pv 2) (z0u z0v (pv 5) z0e (fun _ _ => rfl)))) (z0f (z1w (pe_app (pv 3) (z0u z0v (pv 5) z0e (fun _ _ => rfl)))))))) (z0d (z0y (z0i z1f (z0m z0j (by rfl) zlen PySem.boot_len (z0a (pv 2) z0c)) z0e (z0n _)) (z0d (z1w (pe_app (pv 2) (z0w (z0a z0q (z0a z0e z0c))))) (z0f (z1w (pe_app (pv 3) (z0w z0c))))) z0k) (z0d (z0z (i := 6) sc.nd rfl (by first | exact Or.inl rfl | exact Or.inr rfl) (z2q z0c)) (z0d (z0z (i := 7) sc.nd rfl (by first | exact Or.inl rfl | exact Or.inr rfl) (z0t z2b (z0t op_mul (z0m (call_sumL rfl) (by rfl) zsum boot_sum (z0a (pv 0) z0c)) z0e) z0e)) (z0d (z3b PassesOwn.never rfl (z2j (by rfl) zrange (z0a (z0u z0o (z2q (z0a z0e (z0a z0e (z0a z0e (z0a z0e (z0a z0e (z0a z0e z0c))))))) (z0t z1u (pv 7) z0e) (fun _ _ => rfl)) z0c)) (z1h (i := 8) sc.nd rfl (Or.inl rfl)) (z0d (z0z (i := 7) sc.nd rfl (by first | exact Or.inl rfl | exact Or.inr rfl) (z0t z2b (z0t z2a (z0t op_mul (pv 7) z0e) z0e) z0e)) (z0f (z1w (pe_app (pv 6) (z0t z2b (z0t z2d (pv 7) z0e) (z0m z0j (by rfl) zlen PySem.boot_len (z0a (pv 2) z0c)))))))) (z0d (ps_asg (z0t z2y (z0m z0j (by rfl) zlen PySem.boot_len (z0a (pv 2) z0c)) z0e) (pg_sub (pv 6) (z0t z2b (pv 7) (z0m z0j (by rfl) zlen PySem.boot_len (z0a (pv 6) z0c))) set_list)) (z0f (z0l (z0w (z0a (z1i z1m (by rfl) ztuple boot_tuple (z0a (pv 2) z0c)) (z0a (z1i z1m (by rfl) ztuple boot_tuple (z0a (pv 6) z0c)) (z0a (pv 3) z0c)))))))))))))), ?_⟩
  simp only [L2.start, List.length_cons, List.length_nil, List.replicate, List.cons_append, List.nil_append, Nat.reduceSub, Nat.reduceAdd, List.map_cons, List.map_nil]
  refine z0h (fun σ G => ∃ st, Same H G /\ H st = none /\ G st = some (.lst []) /\ σ = [some (.ref ca), some (.int mo), some (.ref st), none, none, none, none, none, none]) ?_ (fun R hR => ?_)
  rotate_left
  · wp_walk using tSeq, tIfS
    exact ⟨Nat.zero_le _, fun l hl => hR _ _ ⟨l, z0b hl _, hl, z0g, rfl⟩⟩
  rintro σ1 G1 ⟨st, s1, st0, hst, rfl⟩
  refine z0h (fun σ G => ∃ sl, Same H G /\ H sl = none /\ st ≠ sl /\ G st = some (.lst []) /\ G sl = some (.lst []) /\ σ = [some (.ref ca), some (.int mo), some (.ref st), some (.ref sl), none, none, none, none, none]) ?_ (fun R hR => ?_)
  rotate_left
  · wp_walk using tSeq, tIfS
    exact ⟨Nat.zero_le _, fun l hl => hR _ _ ⟨l, s1.trans (z0b hl _), same_none s1 hl, (fun z => by rw [z, hl] at hst; cases hst), z0b hl _ _ _ hst, z0g, rfl⟩⟩
  rintro σ2 G2 ⟨sl, s2, sl0, ne, hst, hsl, rfl⟩
  refine z0h (fun σ G => ∃ (qs ps : List Addr) (ds : List Stp) (Ss : List (List Int)) (y4 y5 : Option V), Same H G /\ G st = some (.lst (qs.map V.ref)) /\ G sl = some (.lst (ps.map V.ref)) /\ StL G qs ds /\ TpsM G ps Ss /\ GoodL mo ds Ss /\ ds.length = cs.length /\ σ = [some (.ref ca), some (.int mo), some (.ref st), some (.ref sl), y4, y5, none, none, none]) ?_ (fun R hR => ?_)
  rotate_left
  · wp_walk using tIfS
    obtain ⟨J, hJ⟩ : ∃ J : Nat -> L2.St -> Hp -> Prop, J = (fun i σ G => ∃ (qs ps : List Addr) (ds : List Stp) (Ss : List (List Int)) (y4 y5 : Option V), Same H G /\ G st = some (.lst (qs.map V.ref)) /\ G sl = some (.lst (ps.map V.ref)) /\ StL G qs ds /\ TpsM G ps Ss /\ GoodL mo ds Ss /\ ds.length = i /\ i ≤ cs.length /\ σ = [some (.ref ca), some (.int mo), some (.ref st), some (.ref sl), y4, y5, none, none, none]) := ⟨_, rfl⟩
    refine LoopL.mk (xs := cs.map V.int) (.of (s2 _ _ hc)) J (by rw [hJ]; exact ⟨[], [], [], [], _, _, s2, hst, hsl, ⟨rfl, fun i p e => nomatch e⟩, ⟨rfl, fun i p e => nomatch e⟩, good_nil mo, rfl, Nat.zero_le _, rfl⟩) (fun i σ G _ h => by rw [hJ] at h; obtain ⟨_, _, _, _, _, _, s, _⟩ := h; exact .of (s _ _ hc)) (fun i x σ G0 e h => ?_) (fun σ G h => ?_)
    rotate_left
    · rw [hJ] at h
      obtain ⟨qs, ps, ds, Ss, y4, y5, s, h1, h2, h3, h4, h5, dl, _, rfl⟩ := h
      rw [z0s] at dl
      exact hR _ _ ⟨qs, ps, ds, Ss, _, _, s, h1, h2, h3, h4, h5, dl, rfl⟩
    clear hR
    rw [hJ] at h
    obtain ⟨qs, ps, ds, Ss, y4, y5, s, h1, h2, h3, h4, h5, dl, di, rfl⟩ := h
    obtain ⟨c, rfl, hc'⟩ := int_at e
    have il := (List.getElem?_eq_some_iff.mp hc').1
    simp only [gName, List.set_cons_succ, List.set_cons_zero]
    refine z0h (fun σ G => Same G0 G /\ ∃ r, MadeAt G r mo Ss /\ σ = [some (.ref ca), some (.int mo), some (.ref st), some (.ref sl), some (.int c), some (.ref r), none, none, none]) ?_ (fun R hR => ?_)
    rotate_left
    · wp_walk using tSeq, tIfS, splstep
      exact ⟨ps, h2, Ss, h4, ⟨by rw [← h5.1]; omega, h5.2.1⟩, hmo, fun G r u h => hR _ _ ⟨u, r, h, rfl⟩⟩
    rintro σ1' G1' ⟨u1, r, ⟨p, b, d, S, hr1, hd, hb, ok, fs⟩, rfl⟩
    have h1' := u1 _ _ h1
    have h2' := u1 _ _ h2
    have ql : qs.length = i := by rw [h3.1, dl]
    have pl : ps.length = i := by rw [h4.1, ← h5.1, dl]
    refine z0h (fun σ G => Same H G /\ UpT G1' G /\ G st = some (.lst ((qs ++ [p]).map V.ref)) /\ G sl = some (.lst (ps.map V.ref)) /\ σ = [some (.ref ca), some (.int mo), some (.ref st), some (.ref sl), some (.int c), some (.ref r), none, none, none]) ?_ (fun R hR => ?_)
    rotate_left
    · wp_walk using tSeq, tIfS
      refine ⟨⟨_, h1'⟩, _, hr1, _, z0p (j := 0) rfl, _, h1', by rw [List.length_map, ql]; exact z1b (by omega), hR _ _ ⟨z2n (s.trans u1) st0, up_put h1', by rw [z0g, List.map_append]; rfl, by rw [z1c (Ne.symm ne)]; exact h2', rfl⟩⟩
    rintro σ2' G2' ⟨s2', up2, h1'', h2'', rfl⟩
    wp_walk using tSeq, tIfS
    refine ⟨⟨_, h2''⟩, _, up2 _ _ hr1, _, z0p (j := 1) rfl, _, h2'', by rw [List.length_map, pl]; exact z1b (by omega), ?_⟩
    have up3 := up2.trans (up_put (ys := ps.map V.ref ++ [V.ref b]) h2'')
    rw [hJ]
    exact ⟨qs ++ [p], ps ++ [b], ds ++ [d], Ss ++ [S], _, _, z2n s2' sl0, by rw [z1c ne]; exact h1'', by rw [z0g, List.map_append]; rfl, (h3.up ((z4a u1).trans up3)).snoc (hd.up up3), (h4.up ((z4a u1).trans up3)).snoc (up3 _ _ hb), good_snoc h5 ok fs, by rw [List.length_append, dl]; rfl, il, rfl⟩
  rintro σ3 G3 ⟨qs, ps, ds, Ss, y4, y5, s3, h1, h2, h3, h4, h5, dl, rfl⟩
  refine z0h (fun σ G => ∃ (qs ps : List Addr) (ds : List Stp) (Ss : List (List Int)), Same H G /\ G st = some (.lst (qs.map V.ref)) /\ G sl = some (.lst (ps.map V.ref)) /\ StL G qs ds /\ TpsM G ps Ss /\ GoodL mo ds Ss /\ 0 < ds.length /\ ds.length ≤ 40 /\ σ = [some (.ref ca), some (.int mo), some (.ref st), some (.ref sl), y4, y5, none, none, none]) ?_ (fun R hR => ?_)
  rotate_left
  · wp_walk using tSeq, tIfS
    refine ⟨_, .inl (.of h1), ?_⟩
    rw [List.length_map, h3.1]
    by_cases c : ds.length = 0
    rotate_left
    · rw [if_neg (by omega)]
      exact hR _ _ ⟨qs, ps, ds, Ss, s3, h1, h2, h3, h4, h5, by omega, by omega, rfl⟩
    rw [if_pos (by omega)]
    have e1 : ds = [] := List.length_eq_zero_iff.mp c
    have e2 : Ss = [] := List.length_eq_zero_iff.mp (by rw [← h5.1]; exact c)
    have e3 : qs = [] := List.length_eq_zero_iff.mp (by rw [h3.1]; exact c)
    have e4 : ps = [] := List.length_eq_zero_iff.mp (by rw [h4.1, e2]; rfl)
    subst e1 e2 e3 e4
    refine ⟨⟨_, h1⟩, small (by decide), fun p hp => ⟨_, z0b hp _ _ _ h1, Nat.lt_of_le_of_lt (Nat.zero_le _) (z1b (Nat.le_refl _)), ?_⟩⟩
    have h2p := z0b hp (.tup [V.str (Str.ofString "num"), V.int 0]) _ _ h2
    have up1 := up_put (ys := List.map V.ref [] ++ [V.ref p]) (z0b hp (.tup [V.str (Str.ofString "num"), V.int 0]) _ _ h1)
    have hsl1 : upd (upd G3 p (.tup [V.str (Str.ofString "num"), V.int 0])) st (.lst (List.map V.ref [] ++ [V.ref p])) sl = some (.lst (List.map V.ref [])) := by rw [z1c (Ne.symm ne)]; exact h2p
    refine ⟨⟨_, hsl1⟩, Nat.zero_le _, fun p1 hp1 => ⟨_, z0b hp1 _ _ _ hsl1, Nat.lt_of_le_of_lt (Nat.zero_le _) (z1b (Nat.le_refl _)), ?_⟩⟩
    have up2 := up_put (ys := List.map V.ref [] ++ [V.ref p1]) (z0b hp1 (.tup []) _ _ hsl1)
    refine hR _ _ ⟨[p], [p1], [.num 0], [[]], z2n ((z2n (s3.trans (z0b hp _)) st0).trans (z0b hp1 _)) sl0, by rw [z1c ne]; exact z0b hp1 _ _ _ z0g, z0g, ?_, ?_, good_snoc (good_nil mo) (d := .num 0) (S := []) rfl (fitM_nil hmo), Nat.zero_lt_succ _, Nat.succ_le_succ (Nat.zero_le _), rfl⟩
    · exact StL.snoc (qs := []) (ds := []) ⟨rfl, fun i p e => nomatch e⟩ (up2 _ _ (z0b hp1 _ _ _ (up1 _ _ z0g)))
    · exact TpsM.snoc (ps := []) (Ss := []) ⟨rfl, fun i p e => nomatch e⟩ (up2 _ _ z0g)
  rintro σ4 G4 ⟨qs, ps, ds, Ss, s4, h1, h2, h3, h4, h5, d0, d40, rfl⟩
  refine z0h (fun σ G => ∃ ou, Same G4 G /\ G4 ou = none /\ G ou = some (.lst []) /\ σ = [some (.ref ca), some (.int mo), some (.ref st), some (.ref sl), y4, y5, some (.ref ou), none, none]) ?_ (fun R hR => ?_)
  rotate_left
  · wp_walk using tSeq, tIfS
    exact ⟨Nat.zero_le _, fun l hl => hR _ _ ⟨l, z0b hl _, hl, z0g, rfl⟩⟩
  rintro σ5 G5 ⟨ou, s5, ou0, hou, rfl⟩
  refine z0h (fun σ G => G = G5 /\ ∃ n : Int, σ = [some (.ref ca), some (.int mo), some (.ref st), some (.ref sl), y4, y5, some (.ref ou), some (.int n), none]) ?_ (fun R hR => ?_)
  rotate_left
  · wp_walk using tSeq, tIfS
    exact ⟨cs, .of ((s4.trans s5) _ _ hc), by omega, hR _ _ ⟨rfl, _, rfl⟩⟩
  rintro σ6 G6 ⟨rfl, n, rfl⟩
  refine z0h (fun σ G => ∃ (os : List Int) (n : Int) (y8 : Option V), Same G4 G /\ G ou = some (.lst (os.map V.int)) /\ 0 < os.length /\ os.length ≤ 8 /\ (∀ o ∈ os, 0 ≤ o /\ o < (ds.length : Int)) /\ σ = [some (.ref ca), some (.int mo), some (.ref st), some (.ref sl), y4, y5, some (.ref ou), some (.int n), y8]) ?_ (fun R hR => ?_)
  rotate_left
  · wp_walk using tIfS
    obtain ⟨x, hx, x1, x8⟩ := six_at (n % 6) (by omega) (by omega)
    refine ⟨small (by decide), fun l hl => ⟨_, hx, _, rfl, by omega, by omega, ?_⟩⟩
    obtain ⟨J, hJ⟩ : ∃ J : Nat -> L2.St -> Hp -> Prop, J = (fun i σ G => ∃ (os : List Int) (n : Int) (y8 : Option V), Same G4 G /\ G ou = some (.lst (os.map V.int)) /\ os.length = i /\ (∀ o ∈ os, 0 ≤ o /\ o < (ds.length : Int)) /\ σ = [some (.ref ca), some (.int mo), some (.ref st), some (.ref sl), y4, y5, some (.ref ou), some (.int n), y8]) := ⟨_, rfl⟩
    refine LoopR.mk J (by rw [hJ]; exact ⟨[], n, _, s5.trans (z0b hl _), z0b hl _ _ _ hou, rfl, (fun o ho => nomatch ho), rfl⟩) (fun i σ G0 hi h => ?_) (fun σ G h => ?_)
    rotate_left
    · rw [hJ] at h
      obtain ⟨os, n', y8, s, h6, ol, hb, rfl⟩ := h
      exact hR _ _ ⟨os, n', _, s, h6, by omega, by omega, hb, rfl⟩
    rw [hJ] at h
    obtain ⟨os, n', y8, s, h6, ol, hb, rfl⟩ := h
    wp_walk using tSeq, tIfS
    refine ⟨by omega, ⟨_, h6⟩, _, .inl (.of (s _ _ h1)), ?_⟩
    rw [List.length_map, h3.1]
    refine ⟨by omega, _, h6, by rw [List.length_map]; exact z1b (by omega), ?_⟩
    rw [hJ]
    generalize ((n' * 48271 + 11).fmod 2147483647) / 16 = z at *
    have f0 := Int.fmod_nonneg_of_pos z (show (0 : Int) < (ds.length : Int) by omega)
    have f1 := Int.fmod_lt_of_pos z (show (0 : Int) < (ds.length : Int) by omega)
    refine ⟨os ++ [z.fmod ds.length], _, _, z2n s ou0, by rw [z0g, List.map_append]; rfl, by rw [List.length_append, ol]; rfl, fun o ho => ?_, rfl⟩
    rcases List.mem_append.mp ho with y | y
    · exact hb o y
    · cases List.mem_singleton.mp y; exact ⟨f0, f1⟩
  rintro σ7 G7 ⟨os, n, y8, s7, hou, o0, o8, hb, rfl⟩
  refine z0h (fun σ G => ∃ os : List Int, Same G4 G /\ G ou = some (.lst (os.map V.int)) /\ 0 < os.length /\ os.length ≤ 8 /\ (∀ o ∈ os, 0 ≤ o /\ o < (ds.length : Int)) /\ σ = [some (.ref ca), some (.int mo), some (.ref st), some (.ref sl), y4, y5, some (.ref ou), some (.int n), y8]) ?_ (fun R hR => ?_)
  rotate_left
  · wp_walk using tSeq, tIfS
    refine ⟨_, .inl (.of (s7 _ _ h1)), ?_⟩
    rw [List.length_map, h3.1]
    refine ⟨_, .inl (.of hou), ?_⟩
    rw [z0s]
    have f0 := Int.fmod_nonneg_of_pos n (show (0 : Int) < (os.length : Int) by omega)
    have f1 := Int.fmod_lt_of_pos n (show (0 : Int) < (os.length : Int) by omega)
    obtain ⟨j, hj⟩ : ∃ j : Nat, n.fmod (os.length : Int) = j := ⟨_, (Int.toNat_of_nonneg f0).symm⟩
    rw [hj] at f1 ⊢
    exact ⟨by omega, _, hou, j, ixN_ok (by rw [z0s]; omega), hR _ _ ⟨os.set j ((ds.length : Int) - 1), z2n s7 ou0, by rw [z0g, List.map_set], by rw [List.length_set]; exact o0, by rw [List.length_set]; exact o8, outs_set hb d0, rfl⟩⟩
  rintro σ8 G8 ⟨os, s8, hou, o0, o8, hb, rfl⟩
  wp_walk using tSeq, tIfS
  exact ⟨_, .inl ⟨.of (s8 _ _ h1), fun t1 ht1 => ⟨_, .inl ⟨.of (z0b ht1 _ _ _ hou), fun t2 ht2 => ⟨small (by decide), fun p hp => by
    have u := (z0b ht1 (.tup (qs.map V.ref))).trans ((z0b ht2 (.tup (os.map V.int))).trans (z0b hp (.tup [V.ref t1, V.ref t2, V.ref sl])))
    have t8 := s8.trans u
    exact q _ p ds Ss os (s4.trans t8) ⟨t1, t2, sl, qs, ps, z0g, z0b hp _ _ _ (z0b ht2 _ _ _ z0g), h3.up (z4a t8), z0b hp _ _ _ z0g, t8 _ _ h2, h4.same t8, h5, d0, d40, o0, o8, hb⟩⟩⟩⟩⟩⟩
abbrev slawwhole : Stmt := top 57
def splawwhole : Sp := fun vs H Q _ => ∃ (n : Int), vs = [.int n] /\ Q (.bl true) H
theorem sclawwhole : FnScope ["found"] ["found"] (defScope slawwhole) := ⟨rfl, rfl, rfl, by decide +kernel, rfl, by decide +kernel, by decide +kernel⟩
theorem oklawwhole (F : Fun K "_law_whole" "_law_whole" slawwhole f fd) (zisinstance : mg "isinstance" = none) (zint : mg "int" = none) (zbool : mg "bool" = none) : FnOk P w K mg base CX0 (1) f fd ["found"] (splawwhole) := by
  have sc := sclawwhole
  refine F.ok sc (fun vs H Q E h => ?_) (fun cdv A outer s H vs Q E hr h => ?_)
  · obtain ⟨n, rfl, _⟩ := h; rfl
  obtain ⟨n, rfl, q⟩ := h
  refine ⟨_, (z0f (z0l (pe_and (z0m call_isiS (by rfl) zisinstance boot_isinstance (z0a (pv 0) (z0a (pe_bltn (v := .ty "int") (by rfl) zint boot_int rfl) z0c))) (pe_one (pe_not (z0m call_isiS (by rfl) zisinstance boot_isinstance (z0a (pv 0) (z0a (pe_bltn (v := .ty "bool") (by rfl) zbool boot_bool rfl) z0c)))))))), ?_⟩
  wp_walk using tSeq, tIfS
  exact q
abbrev slawissides : Stmt := top 59
def splawissides : Sp := fun vs H Q _ => ∃ (a b : Addr) (ns : List Int), vs = [.ref a, .ref b] /\ H a = some (.tup (ns.map V.int)) /\ RwI H b ns /\ ns.length ≤ 512 /\ Q (.bl true) H
theorem sclawissides : FnScope ["found", "due", "k"] ["found", "due"] (defScope slawissides) := ⟨rfl, rfl, rfl, by decide +kernel, rfl, by decide +kernel, by decide +kernel⟩
theorem oklawissides (F : Fun K "_law_is_sides" "_law_is_sides" slawissides f fd) (clawwhole : Callee P w K mg base CX0 (1) "_law_whole" ["found"] splawwhole) (zisinstance : mg "isinstance" = none) (ztuple : mg "tuple" = none) (zlen : mg "len" = none) (zrange : mg "range" = none) : FnOk P w K mg base CX0 (2) f fd ["found", "due"] (splawissides) := by
  have sc := sclawissides
  refine F.ok sc (fun vs H Q E h => ?_) (fun cdv A outer s H vs Q E hr h => ?_)
  · obtain ⟨a, b, ns, rfl, _⟩ := h; rfl
  obtain ⟨a, b, ns, rfl, ha, hb, h63, q⟩ := h
  refine ⟨_, (z0d (z0y (PW.pt (pw_or (pt_not (z3j (z0m call_isiTT (by rfl) zisinstance boot_isinstance (z0a (pv 0) (z0a (pe_bltn (v := .ty "tuple") (by rfl) ztuple boot_tuple rfl) z0c))))) (z2w (z0i op_ne (z0m z0j (by rfl) zlen PySem.boot_len (z0a (pv 0) z0c)) (z0m z0j (by rfl) zlen PySem.boot_len (z0a (pv 1) z0c)) (z0n _))))) (z0f (z0l pe_bl)) z0k) (z0d (z3b PassesOwn.never rfl (z2j (by rfl) zrange (z0a (z0m z0j (by rfl) zlen PySem.boot_len (z0a (pv 1) z0c)) z0c)) (z1h (i := 2) sc.nd rfl (Or.inl rfl)) (z0f (z0y (PW.pt (pw_or (pt_not (z3j (z0r clawwhole hr (by rfl) z1l (z0a (z0u z0v (pv 0) (pv 2) (fun _ _ => rfl)) z0c)))) (z2w (z0i op_ne (z0u z0v (pv 0) (pv 2) (fun _ _ => rfl)) (z0u ix_seqH (pv 1) (pv 2) (fun _ _ => rfl)) (z0n _))))) (z0f (z0l pe_bl)) z0k))) (z0f (z0l pe_bl)))), ?_⟩
  wp_walk using tSeq, tIfS
  refine ⟨_, ha, _, .inr (.of ha), _, hb.imp .of .of, ?_⟩
  rw [z0s, if_neg (by simp)]
  refine ⟨_, hb.imp .of .of, by rw [z0s]; omega, by rw [z0s]; omega, ?_⟩
  rw [z0s, Int.toNat_natCast]
  refine LoopR.mk (fun i σ H' => H' = H /\ ∃ y, σ = [some (.ref a), some (.ref b), y]) ⟨rfl, _, rfl⟩ (fun i σ H' hi h => ?_) (fun σ H' h => ?_)
  · obtain ⟨h1, y, rfl⟩ := h
    subst h1
    have e1 := atI_ok (ns := ns) hi
    wp_walk using tSeq, tIfS, splawwhole, Int.zero_add
    refine ⟨_, ha, _, e1, _, rfl, _, ha, _, e1, _, hb, _, e1, rfl, ?_⟩
    rw [if_neg (by simp)]
    exact ⟨_, rfl⟩
  · obtain ⟨h1, y, rfl⟩ := h
    subst h1
    wp_walk using tSeq, tIfS
    exact q
abbrev slawcellat : Stmt := top 58
def splawcellat : PySem.W.Frag -> Sp := fun K => fun vs H Q _ => ∃ (a : Addr) (ns : List Int) (k : Nat), vs = [.ref a, .int k] /\ SqL K H a (ns.map V.int) /\ Q (.int (cellI ns k)) H
theorem sclawcellat : FnScope ["script", "k"] ["script", "k"] (defScope slawcellat) := ⟨rfl, rfl, rfl, by decide +kernel, rfl, by decide +kernel, by decide +kernel⟩
theorem oklawcellat (F : Fun K "_law_cell_at" "_law_cell_at" slawcellat f fd) (zlen : mg "len" = none) : FnOk P w K mg base CX0 (1) f fd ["script", "k"] ((splawcellat K)) := by
  have sc := sclawcellat
  refine F.ok sc (fun vs H Q E h => ?_) (fun cdv A outer s H vs Q E hr h => ?_)
  · obtain ⟨a, ns, k, rfl, _⟩ := h; rfl
  obtain ⟨a, ns, k, rfl, hS, q⟩ := h
  refine ⟨_, (z0d (z0y (z0i z3l (pv 1) (z0m z0j (by rfl) zlen PySem.boot_len (z0a (pv 0) z0c)) (z0n _)) (z0f (z0l (z0u ix_list (pv 0) (pv 1) (fun _ _ => rfl)))) z0k) (z0f (z0l z0e))), ?_⟩
  wp_walk using tSeq, tIfS
  refine ⟨_, .inl hS, ?_⟩
  rw [z0s]
  unfold cellI at q
  by_cases c : k < ns.length
  · rw [if_pos (by omega)]
    exact ⟨_, hS, _, z0p (j := k) (by rw [List.getElem?_map, List.getElem?_eq_getElem c]; rfl), by rw [List.getD_eq_getElem?_getD, List.getElem?_eq_getElem c] at q; exact q⟩
  · rw [if_neg (by omega)]
    rw [List.getD_eq_getElem?_getD, List.getElem?_eq_none (by omega)] at q
    exact q
abbrev samount : Stmt := top 27
def spamount : Sp := fun vs H Q _ => ∃ (a : Addr) (ns : List Int), vs = [.ref a] /\ (H a = some (.lst (ns.map V.int)) \/ H a = some (.tup (ns.map V.int))) /\ sdOk ns /\ Q (.int (prodI ns)) H
theorem scamount : FnScope ["sides", "product", "side"] ["sides"] (defScope samount) := ⟨rfl, rfl, rfl, by decide +kernel, rfl, by decide +kernel, by decide +kernel⟩
theorem okamount (F : Fun K "amount" "amount" samount f fd) : FnOk P w K mg base CX0 (1) f fd ["sides"] (spamount) := by
  have sc := scamount
  refine F.ok sc (fun vs H Q E h => ?_) (fun cdv A outer s H vs Q E hr h => ?_)
  · obtain ⟨a, ns, rfl, _⟩ := h; rfl
  obtain ⟨a, ns, rfl, ha | ha, hs, q⟩ := h
  · refine ⟨_, (z0d (z0z (i := 1) sc.nd rfl (by first | exact Or.inl rfl | exact Or.inr rfl) z0e) (z0d (z3b PassesOwn.never rfl (z2p (pv 0)) (z1h (i := 2) sc.nd rfl (Or.inl rfl)) (z0f (z0z (i := 1) sc.nd rfl (by first | exact Or.inl rfl | exact Or.inr rfl) (z0t op_mul (pv 1) (pv 2))))) (z0f (z0l (pv 1))))), ?_⟩
    wp_walk using tSeq, tIfS
    refine LoopL.mk (xs := ns.map V.int) (.of ha) (fun i σ H' => H' = H /\ ∃ y, σ = [some (.ref a), some (.int (prodI (ns.take i))), y]) ⟨rfl, _, rfl⟩ (fun i σ H' _ h => by rw [h.1]; exact .of ha) (fun i x σ H' e h => ?_) (fun σ H' h => ?_)
    · obtain ⟨h1, y, rfl⟩ := h
      subst h1
      obtain ⟨m, rfl, hm, m0, m1⟩ := sd_at hs e
      wp_walk using tSeq, tIfS
      rw [prod_step hm]
      exact ⟨.inr ⟨by omega, by omega⟩, rfl, _, rfl⟩
    · obtain ⟨h1, y, rfl⟩ := h
      subst h1
      wp_walk using tSeq, tIfS
      rw [z0s, List.take_length]
      exact q
  · refine ⟨_, (z0d (z0z (i := 1) sc.nd rfl (by first | exact Or.inl rfl | exact Or.inr rfl) z0e) (z0d (z3b PassesOwn.never rfl (z3s (pv 0)) (z1h (i := 2) sc.nd rfl (Or.inl rfl)) (z0f (z0z (i := 1) sc.nd rfl (by first | exact Or.inl rfl | exact Or.inr rfl) (z0t op_mul (pv 1) (pv 2))))) (z0f (z0l (pv 1))))), ?_⟩
    wp_walk using tSeq, tIfS
    refine LoopT.mk (xs := ns.map V.int) (.of ha) (fun i σ H' => H' = H /\ ∃ y, σ = [some (.ref a), some (.int (prodI (ns.take i))), y]) ⟨rfl, _, rfl⟩ (fun i σ H' _ h => by rw [h.1]; exact .of ha) (fun i x σ H' e h => ?_) (fun σ H' h => ?_)
    · obtain ⟨h1, y, rfl⟩ := h
      subst h1
      obtain ⟨m, rfl, hm, m0, m1⟩ := sd_at hs e
      wp_walk using tSeq, tIfS
      rw [prod_step hm]
      exact ⟨.inr ⟨by omega, by omega⟩, rfl, _, rfl⟩
    · obtain ⟨h1, y, rfl⟩ := h
      subst h1
      wp_walk using tSeq, tIfS
      rw [z0s, List.take_length]
      exact q
abbrev sbreadth : Stmt := top 28
def spbreadth : Sp := fun vs H Q _ => ∃ (a : Addr) (ns : List Int), vs = [.ref a] /\ H a = some (.tup (ns.map V.int)) /\ sdOk ns /\ ns.length ≤ 63 /\ ∀ H', Same H H' -> Q (.int (prodI (ns.map one1))) H'
theorem scbreadth : FnScope ["sides"] ["sides"] (defScope sbreadth) := ⟨rfl, rfl, rfl, by decide +kernel, rfl, by decide +kernel, by decide +kernel⟩
theorem okbreadth (F : Fun K "breadth" "breadth" sbreadth f fd) (camount : Callee P w K mg base CX0 (1) "amount" ["sides"] spamount) : FnOk P w K mg base CX0 (2) f fd ["sides"] (spbreadth) := by
  have sc := scbreadth
  refine F.ok sc (fun vs H Q E h => ?_) (fun cdv A outer s H vs Q E hr h => ?_)
  · obtain ⟨a, ns, rfl, _⟩ := h; rfl
  obtain ⟨a, ns, rfl, ha, hs, h63, q⟩ := h
  refine ⟨_, (z0f (z0l (z0r camount hr (by rfl) z1l (z0a (pe_comp0 (own := ["side"]) rfl (z3s (pv 0)) (by decide) (by decide) rfl (by decide) (fun _ _ _ _ => (z1h (i := 0) (show (["side"] : List Str).Nodup by decide +kernel) rfl (Or.inl rfl))) (fun _ _ _ _ => (z3g (z0i op_ne (pv 0) z0e (z0n _)) (pv 0) z0e))) z0c)))), ?_⟩
  wp_walk using tSeq, tIfS
  refine CompT.mk (xs := ns.map V.int) (.of ha) (fun i ys σ H' => H' = H /\ ys = ((ns.take i).map one1).map V.int /\ ∃ y, σ = [y]) ⟨rfl, rfl, _, rfl⟩ (fun i ys σ H' _ h => by rw [h.1]; exact .of ha) (fun i x ys σ H' e h => ?_) (fun ys σ H' h p hp => ?_)
  · obtain ⟨h1, h2, y, rfl⟩ := h
    subst h1 h2
    obtain ⟨m, rfl, hm, m0, m1⟩ := sd_at hs e
    have e1 : ((ns.take (i + 1)).map one1).map V.int = ((ns.take i).map one1).map V.int ++ [V.int (one1 m)] := by
      rw [List.take_add_one, hm, List.map_append, List.map_append]; rfl
    have e2 : (((ns.take i).map one1).map V.int).length < sizeLine := by
      rw [List.length_map, List.length_map, List.length_take]; exact z1b (by omega)
    wp_walk using tSeq, tIfS, e1
    refine ⟨e2, ?_⟩
    unfold one1
    by_cases m2 : m = 0
    · simp [m2]
    · simp [m2]
  · obtain ⟨h1, h2, y, rfl⟩ := h
    subst h1 h2
    rw [z0s, List.take_length]
    exact ⟨p, _, rfl, .inl z0g, one_ok hs, q _ (z0b hp _)⟩
abbrev sallowed : Stmt := top 29
theorem scallowed : FnScope ["sides"] ["sides"] (defScope sallowed) := ⟨rfl, rfl, rfl, by decide +kernel, rfl, by decide +kernel, by decide +kernel⟩
theorem okallowed (F : Fun K "allowed" "allowed" sallowed f fd) {CTooLarge : Addr} (nTooLarge : PySem.W.nsIn K mainGlobals "TooLarge" = some (some (.ref CTooLarge))) (cbreadth : Callee P w K mg base CX0 (2) "breadth" ["sides"] spbreadth) (zlen : mg "len" = none) {tMOST_SIDES : Tok} (gMOST_SIDES : mg "MOST_SIDES" = some (.int 6 tMOST_SIDES)) {tMOST_BREADTH : Tok} (gMOST_BREADTH : mg "MOST_BREADTH" = some (.int 512 tMOST_BREADTH)) (xTooLarge : PySem.W.excIn K CTooLarge [.type "ValueError", .type "Exception", .type "BaseException", .type "object"] "ValueError.__new__" = true) : FnOk P w K mg base (CX1 P w) (3) f fd ["sides"] ((spallowed CTooLarge)) := by
  have sc := scallowed
  refine F.okX sc (fun vs H Q E h => ?_) (fun cdv A outer s H vs Q E hr h => ?_)
  · obtain ⟨a, ns, rfl, _⟩ := h; rfl
  obtain ⟨a, ns, rfl, ha, hs, h63, q1, q2⟩ := h
  refine ⟨_, (z0d (z0y (z0i op_gt (z0m z0j (by rfl) zlen PySem.boot_len (z0a (pv 0) z0c)) (z3c (v := .int 6) (by rfl) gMOST_SIDES ⟨_, rfl⟩) (z0n _)) (z0f (z1r PySem.F.excBase_ValueError rfl (by rfl) nTooLarge xTooLarge z1y (z0a z0q z0c))) z0k) (z0d (z0y (z0i op_gt (z0r cbreadth hr (by rfl) z1l (z0a (pv 0) z0c)) (z3c (v := .int 512) (by rfl) gMOST_BREADTH ⟨_, rfl⟩) (z0n _)) (z0f (z1r PySem.F.excBase_ValueError rfl (by rfl) nTooLarge xTooLarge z1y (z0a z0q z0c))) z0k) (z0f (z0l (pv 0))))), ?_⟩
  wp_walk using tSeq, tIfS, spbreadth
  refine ⟨_, .inr (.of ha), ?_⟩
  rw [z0s]
  by_cases h6 : 6 < ns.length
  · rw [if_pos (by omega)]
    exact ⟨small (by decide), q1 (.inl h6) _ (Same.refl _)⟩
  rw [if_neg (by omega)]
  refine ⟨ns, ha, hs, h63, fun H1 s1 => ?_⟩
  by_cases h5 : 512 < prodI (ns.map one1)
  · rw [if_pos h5]
    exact ⟨small (by decide), q1 (.inr h5) _ s1⟩
  rw [if_neg h5]
  exact q2 (fun z => z.elim h6 h5) _ s1
abbrev schangedat : Stmt := top 30
def spchangedat : Sp := fun vs H Q _ => ∃ (a : Addr) (ns : List Int) (k : Nat) (m : Int), vs = [.ref a, .int k, .int m] /\ H a = some (.tup (ns.map V.int)) /\ ns.length ≤ 63 /\ k < ns.length /\ ∀ H' p, Same H H' -> H' p = some (.tup ((ns.set k m).map V.int)) -> Q (.ref p) H'
theorem scchangedat : FnScope ["row", "k", "number"] ["row", "k", "number"] (defScope schangedat) := ⟨rfl, rfl, rfl, by decide +kernel, rfl, by decide +kernel, by decide +kernel⟩
theorem okchangedat (F : Fun K "changed_at" "changed_at" schangedat f fd) : FnOk P w K mg base CX0 (1) f fd ["row", "k", "number"] (spchangedat) := by
  have sc := scchangedat
  refine F.ok sc (fun vs H Q E h => ?_) (fun cdv A outer s H vs Q E hr h => ?_)
  · obtain ⟨a, ns, k, m, rfl, _⟩ := h; rfl
  obtain ⟨a, ns, k, m, rfl, ha, h63, hk, q⟩ := h
  refine ⟨_, (z0f (z0l (z0t z1x (z0t z1x (z1e sl_tupS (pv 0) z1n (z1k (pv 1))) (z0w (z0a (pv 2) z0c))) (z1e sl_tupS (pv 0) (z1k (z0t z2a (pv 1) z0e)) z1n)))), ?_⟩
  wp_walk using tSeq, tIfS
  refine ⟨_, ha, ?_, fun r1 H1 s1 hr1 => ⟨small (by decide), fun p hp => ⟨_, z0b hp _ _ _ hr1, ?_, fun r2 H2 s2 hr2 => ⟨_, s2 _ _ (z0b hp _ _ _ (s1 _ _ ha)), ?_, fun r3 H3 s3 hr3 => ⟨_, s3 _ _ hr2, _, hr3, ?_, fun r4 H4 s4 hr4 => ?_⟩⟩⟩⟩⟩
  · rw [z0s]; intro z; have z2 := z.2; simp only [HT.sIx] at z2; rw [if_neg (by omega)] at z2; omega
  · rw [cut_lo (by omega), z0s]; exact small (by rw [List.length_take]; omega)
  · rw [z0s]; intro z; have z1 := z.1; simp only [HT.sIx] at z1; rw [if_neg (by omega)] at z1; omega
  · rw [show (k : Int) + 1 = ((k + 1 : Nat) : Int) by omega, cut_lo (by omega), cut_hi (by omega)]; simp only [List.length_append, List.length_map, List.length_take, List.length_drop, List.length_cons, List.length_nil]; exact small (by omega)
  rw [show (k : Int) + 1 = ((k + 1 : Nat) : Int) by omega, cut_lo (by omega), cut_hi (by omega)] at hr4
  refine q _ _ (s1.trans ((z0b hp _).trans (s2.trans (s3.trans s4)))) ?_
  rw [hr4, List.set_eq_take_append_cons_drop, if_pos hk, List.append_assoc, List.map_append, List.map_cons]
  rfl
abbrev saddedat : Stmt := top 31
def spaddedat : Sp := fun vs H Q _ => ∃ (a : Addr) (ns : List Int) (k : Nat) (m : Int), vs = [.ref a, .int k, .int m] /\ H a = some (.tup (ns.map V.int)) /\ ns.length ≤ 63 /\ ∀ H' p, Same H H' -> H' p = some (.tup ((insL ns k m).map V.int)) -> Q (.ref p) H'
theorem scaddedat : FnScope ["row", "k", "number"] ["row", "k", "number"] (defScope saddedat) := ⟨rfl, rfl, rfl, by decide +kernel, rfl, by decide +kernel, by decide +kernel⟩
theorem okaddedat (F : Fun K "added_at" "added_at" saddedat f fd) : FnOk P w K mg base CX0 (1) f fd ["row", "k", "number"] (spaddedat) := by
  have sc := scaddedat
  refine F.ok sc (fun vs H Q E h => ?_) (fun cdv A outer s H vs Q E hr h => ?_)
  · obtain ⟨a, ns, k, m, rfl, _⟩ := h; rfl
  obtain ⟨a, ns, k, m, rfl, ha, h63, q⟩ := h
  refine ⟨_, (z0f (z0l (z0t z1x (z0t z1x (z1e z1s (pv 0) z1n (z1k (pv 1))) (z0w (z0a (pv 2) z0c))) (z1e z1s (pv 0) (z1k (pv 1)) z1n)))), ?_⟩
  wp_walk using tSeq, tIfS
  refine ⟨_, ha, fun r1 H1 s1 hr1 => ⟨small (by decide), fun p hp => ⟨_, z0b hp _ _ _ hr1, ?_, fun r2 H2 s2 hr2 => ⟨_, s2 _ _ (z0b hp _ _ _ (s1 _ _ ha)), fun r3 H3 s3 hr3 => ⟨_, s3 _ _ hr2, _, hr3, ?_, fun r4 H4 s4 hr4 => ?_⟩⟩⟩⟩⟩
  · rw [z2e, z0s]; exact small (by rw [List.length_take]; omega)
  · rw [z2e, z2i]; simp only [List.length_append, List.length_map, List.length_take, List.length_drop, List.length_cons, List.length_nil]; exact small (by omega)
  rw [z2e, z2i] at hr4
  refine q _ _ (s1.trans ((z0b hp _).trans (s2.trans (s3.trans s4)))) ?_
  rw [hr4]; unfold insL; rw [List.map_append, List.map_append]; rfl
abbrev sdroppedat : Stmt := top 32
def spdroppedat : Sp := fun vs H Q _ => ∃ (a : Addr) (ns : List Int) (k : Nat), vs = [.ref a, .int k] /\ H a = some (.tup (ns.map V.int)) /\ ns.length ≤ 63 /\ k < ns.length /\ ∀ H' p, Same H H' -> H' p = some (.tup ((ns.eraseIdx k).map V.int)) -> Q (.ref p) H'
theorem scdroppedat : FnScope ["row", "k"] ["row", "k"] (defScope sdroppedat) := ⟨rfl, rfl, rfl, by decide +kernel, rfl, by decide +kernel, by decide +kernel⟩
theorem okdroppedat (F : Fun K "dropped_at" "dropped_at" sdroppedat f fd) : FnOk P w K mg base CX0 (1) f fd ["row", "k"] (spdroppedat) := by
  have sc := scdroppedat
  refine F.ok sc (fun vs H Q E h => ?_) (fun cdv A outer s H vs Q E hr h => ?_)
  · obtain ⟨a, ns, k, rfl, _⟩ := h; rfl
  obtain ⟨a, ns, k, rfl, ha, h63, hk, q⟩ := h
  refine ⟨_, (z0f (z0l (z0t z1x (z1e sl_tupS (pv 0) z1n (z1k (pv 1))) (z1e sl_tupS (pv 0) (z1k (z0t z2a (pv 1) z0e)) z1n)))), ?_⟩
  wp_walk using tSeq, tIfS
  refine ⟨_, ha, ?_, fun r1 H1 s1 hr1 => ⟨_, s1 _ _ ha, ?_, fun r3 H3 s3 hr3 => ⟨_, s3 _ _ hr1, _, hr3, ?_, fun r4 H4 s4 hr4 => ?_⟩⟩⟩
  · rw [z0s]; intro z; have z2 := z.2; simp only [HT.sIx] at z2; rw [if_neg (by omega)] at z2; omega
  · rw [z0s]; intro z; have z1 := z.1; simp only [HT.sIx] at z1; rw [if_neg (by omega)] at z1; omega
  · rw [show (k : Int) + 1 = ((k + 1 : Nat) : Int) by omega, cut_lo (by omega), cut_hi (by omega)]; simp only [List.length_map, List.length_take, List.length_drop]; exact small (by omega)
  rw [show (k : Int) + 1 = ((k + 1 : Nat) : Int) by omega, cut_lo (by omega), cut_hi (by omega)] at hr4
  refine q _ _ (s1.trans (s3.trans s4)) ?_
  rw [hr4, List.eraseIdx_eq_take_drop_succ, List.map_append]
abbrev saskside : Stmt := top 34
theorem scaskside : FnScope ["sides", "side"] ["sides", "side"] (defScope saskside) := ⟨rfl, rfl, rfl, by decide +kernel, rfl, by decide +kernel, by decide +kernel⟩
theorem okaskside (F : Fun K "ask_side" "ask_side" saskside f fd) {CNoSide : Addr} (nNoSide : PySem.W.nsIn K mainGlobals "NoSide" = some (some (.ref CNoSide))) (zlen : mg "len" = none) (xNoSide : PySem.W.excIn K CNoSide [.type "ValueError", .type "Exception", .type "BaseException", .type "object"] "ValueError.__new__" = true) : FnOk P w K mg base (CX1 P w) (1) f fd ["sides", "side"] ((spask CNoSide)) := by
  have sc := scaskside
  refine F.okX sc (fun vs H Q E h => ?_) (fun cdv A outer s H vs Q E hr h => ?_)
  · obtain ⟨a, ns, side, rfl, _⟩ := h; rfl
  obtain ⟨a, ns, side, rfl, ha, q1, q2⟩ := h
  refine ⟨_, (z0f (z0y (PW.pt (pw_or (z0i z3l (pv 1) z0e (z0n _)) (z2w (z0i op_ge (pv 1) (z0m z0j (by rfl) zlen PySem.boot_len (z0a (pv 0) z0c)) (z0n _))))) (z0f (z1r PySem.F.excBase_ValueError rfl (by rfl) nNoSide xNoSide z1y (z0a z0q z0c))) z0k)), ?_⟩
  wp_walk using tSeq, tIfS
  unfold off at q1 q2
  by_cases c1 : side < 0
  · rw [if_pos c1]; exact ⟨small (by decide), q1 (.inl c1)⟩
  rw [if_neg c1]
  refine ⟨_, .inr (.of ha), ?_⟩
  rw [z0s]
  by_cases c2 : (ns.length : Int) ≤ side
  · rw [if_pos c2]; exact ⟨small (by decide), q1 (.inr c2)⟩
  rw [if_neg c2]
  exact q2 (by omega)
abbrev sturnedsides : Stmt := top 35
theorem scturnedsides : FnScope ["sides", "order"] ["sides", "order"] (defScope sturnedsides) := ⟨rfl, rfl, rfl, by decide +kernel, rfl, by decide +kernel, by decide +kernel⟩
theorem okturnedsides (F : Fun K "turned_sides" "turned_sides" sturnedsides f fd) {CNoSide : Addr} (nNoSide : PySem.W.nsIn K mainGlobals "NoSide" = some (some (.ref CNoSide))) (zsorted : mg "sorted" = none) (zlist : mg "list" = none) (zrange : mg "range" = none) (zlen : mg "len" = none) (ztuple : mg "tuple" = none) (xNoSide : PySem.W.excIn K CNoSide [.type "ValueError", .type "Exception", .type "BaseException", .type "object"] "ValueError.__new__" = true) : FnOk P w K mg base (CX1 P w) (1) f fd ["sides", "order"] ((spturnP CNoSide)) := by
  have sc := scturnedsides
  refine F.okX sc (fun vs H Q E h => ?_) (fun cdv A outer s H vs Q E hr h => ?_)
  · obtain ⟨a, b, ns, os, rfl, _⟩ := h; rfl
  obtain ⟨a, b, ns, os, rfl, ha, hb, h20, h21, q1, q2⟩ := h
  refine ⟨_, (z0d (z0y (z0i (op_neL hr.units0) (z0m call_sortedI (by rfl) zsorted boot_sorted (z0a (pv 1) z0c)) (z1i (z3f rfl) (by rfl) zlist boot_list (z0a (z1i z3m (by rfl) zrange boot_range (z0a (z0m z0j (by rfl) zlen PySem.boot_len (z0a (pv 0) z0c)) z0c)) z0c)) (z0n _)) (z0f (z1r PySem.F.excBase_ValueError rfl (by rfl) nNoSide xNoSide z1y (z0a z0q z0c))) z0k) (z0f (z0l (z1i z1m (by rfl) ztuple boot_tuple (z0a (z3d (own := ["side"]) (fv := ["sides"]) (js := [0]) rfl (z3s (pv 1)) rfl (by decide) rfl (by decide) (by first | exact fun _ _ h => h | exact z2h rfl | exact z2g rfl rfl | exact z2f rfl rfl rfl) (z2r (by rfl)) rfl (cap1 (by first | exact ⟨rfl, .inl rfl, .inl rfl⟩ | exact ⟨rfl, .inl rfl, .inr rfl⟩)) (fun _ _ _ _ => (z1h (i := 0) (show (["side", "sides"] : List Str).Nodup by decide +kernel) rfl (Or.inl rfl))) (fun _ _ _ _ => (z0u z0v (pv 1) (pv 0) (fun _ _ => rfl)))) z0c))))), ?_⟩
  wp_walk using tSeq, tIfS
  refine ⟨os, .inr (.of hb), by omega, fun ss pm pw l1 hl1 => ⟨_, .inr (.of (z0b hl1 _ _ _ ha)), fun r hr => ⟨ns.length, by rw [z0s]; rfl, by omega, fun l2 hl2 => ?_⟩⟩⟩
  have t1 := z0b hl1 (.lst (ss.map V.int))
  have t2 := t1.trans (z0b hr (.rng 0 (((ns.map V.int).length : Nat) : Int)))
  have t3 := t2.trans (z0b hl2 (.lst ((upL ns.length).map V.int)))
  refine ⟨_, .of (z0b hl2 _ _ _ (z0b hr _ _ _ z0g)), _, .of z0g, z1j _, z1j _, ?_⟩
  rw [z1z]
  by_cases c : ss = upL ns.length
  · have tk := (turn_sorted (n := ns.length) pm pw).mp c
    rw [decide_eq_true c, if_neg (by decide)]
    have ha3 := t3 _ _ ha
    have hb3 := t3 _ _ hb
    generalize upd (upd (upd H l1 (HO.lst (List.map V.int ss))) r (HO.rng 0 (((ns.map V.int).length : Nat) : Int))) l2 (HO.lst (List.map V.int (upL ns.length))) = H3 at *
    refine CompT.mk (xs := os.map V.int) (.of hb3) (fun i ys σ H' => H' = H3 /\ i ≤ os.length /\ ys = (turnL ns (os.take i)).map V.int /\ ∃ y, σ = [y, some (.ref a)]) ⟨rfl, Nat.zero_le _, rfl, _, rfl⟩ (fun i ys σ H' _ h => by rw [h.1]; exact (.of hb3)) (fun i x ys σ H' e h => ?_) (fun ys σ H' h p hp => ?_)
    · obtain ⟨rfl, hi, rfl, y, rfl⟩ := h
      obtain ⟨o, rfl, ho⟩ := int_at e
      have il := (List.getElem?_eq_some_iff.mp ho).1
      have om := up_mem.mp (tk.subset (List.mem_of_getElem? ho))
      have e1 : (turnL ns (os.take (i + 1))).map V.int = (turnL ns (os.take i)).map V.int ++ [V.int (ns.getD o.toNat 0)] := by
        unfold turnL; rw [List.take_add_one, ho, List.map_append, List.map_append]; rfl
      have sm : ((turnL ns (os.take i)).map V.int).length < sizeLine := by unfold turnL; rw [List.length_map, List.length_map, List.length_take]; exact z1b (by omega)
      wp_walk using tSeq, tIfS, e1
      exact ⟨sm, _, ha3, _, at_in om.1 om.2, il, rfl, _, rfl⟩
    · obtain ⟨rfl, hi, rfl, y, rfl⟩ := h
      rw [z0s, List.take_length]
      exact ⟨p, rfl, _, .inl ⟨.of z0g, fun l hl => q2 tk _ _ (t3.trans ((z0b hp _).trans (z0b hl _))) z0g⟩⟩
  · rw [decide_eq_false c, if_pos rfl]
    exact ⟨small (by decide), q1 (fun z => c ((turn_sorted pm pw).mpr z)) _ t3⟩
abbrev sflippedsides : Stmt := top 36
theorem scflippedsides : FnScope ["sides", "side"] ["sides", "side"] (defScope sflippedsides) := ⟨rfl, rfl, rfl, by decide +kernel, rfl, by decide +kernel, by decide +kernel⟩
theorem okflippedsides (F : Fun K "flipped_sides" "flipped_sides" sflippedsides f fd) {CNoSide : Addr} (nNoSide : PySem.W.nsIn K mainGlobals "NoSide" = some (some (.ref CNoSide))) (caskside : Callee P w K mg base (CX1 P w) (1) "ask_side" ["sides", "side"] (spask CNoSide)) : FnOk P w K mg base (CX1 P w) (2) f fd ["sides", "side"] ((spflip CNoSide)) := by
  have sc := scflippedsides
  refine F.okX sc (fun vs H Q E h => ?_) (fun cdv A outer s H vs Q E hr h => ?_)
  · obtain ⟨a, ns, side, rfl, _⟩ := h; rfl
  obtain ⟨a, ns, side, rfl, ha, q1, q2⟩ := h
  refine ⟨_, (z0d (z1w (z0r caskside hr (by rfl) z1d (z0a (pv 0) (z0a (pv 1) z0c)))) (z0f (z0l (pv 0)))), ?_⟩
  wp_walk using tSeq, tIfS, spask
  exact ⟨ns, ha, q1, q2⟩
abbrev scutsides : Stmt := top 37
theorem sccutsides : FnScope ["sides", "side", "first", "many", "step"] ["sides", "side", "first", "many", "step"] (defScope scutsides) := ⟨rfl, rfl, rfl, by decide +kernel, rfl, by decide +kernel, by decide +kernel⟩
theorem okcutsides (F : Fun K "cut_sides" "cut_sides" scutsides f fd) {CNoSide : Addr} (nNoSide : PySem.W.nsIn K mainGlobals "NoSide" = some (some (.ref CNoSide))) {CBeyond : Addr} (nBeyond : PySem.W.nsIn K mainGlobals "Beyond" = some (some (.ref CBeyond))) (caskside : Callee P w K mg base (CX1 P w) (1) "ask_side" ["sides", "side"] (spask CNoSide)) (cchangedat : Callee P w K mg base CX0 (1) "changed_at" ["row", "k", "number"] spchangedat) (xBeyond : PySem.W.excIn K CBeyond [.type "ValueError", .type "Exception", .type "BaseException", .type "object"] "ValueError.__new__" = true) : FnOk P w K mg base (CX1 P w) (2) f fd ["sides", "side", "first", "many", "step"] ((spcut CNoSide CBeyond)) := by
  have sc := sccutsides
  refine F.okX sc (fun vs H Q E h => ?_) (fun cdv A outer s H vs Q E hr h => ?_)
  · obtain ⟨a, ns, side, first, many, step, rfl, _⟩ := h; rfl
  obtain ⟨a, ns, side, first, many, step, rfl, ha, h63, m0, m1, q1, q2, q3⟩ := h
  refine ⟨_, (z0d (z1w (z0r caskside hr (by rfl) z1d (z0a (pv 0) (z0a (pv 1) z0c)))) (z0d (z0y (PW.pt (pw_or (z0i z3l (pv 2) z0e (z0n _)) (pw_or (z0i z3l (pv 3) z0e (z0n _)) (z2w (z0i z3l (pv 4) z0e (z0n _)))))) (z0f (z1r PySem.F.excBase_ValueError rfl (by rfl) nBeyond xBeyond z1y (z0a z0q z0c))) z0k) (z0d (z0y (PW.pt (pw_and (z0i op_gt (pv 3) z0e (z0n _)) (z3k (z0i op_ge (z0t z2a (pv 2) (z0t op_mul (z0t z2y (pv 3) z0e) (pv 4))) (z0u z0v (pv 0) (pv 1) (fun _ _ => rfl)) (z0n _))))) (z0f (z1r PySem.F.excBase_ValueError rfl (by rfl) nBeyond xBeyond z1y (z0a z0q z0c))) z0k) (z0f (z0l (z0r cchangedat hr (by rfl) z1l (z0a (pv 0) (z0a (pv 1) (z0a (pv 3) z0c))))))))), ?_⟩
  wp_walk using tSeq, tIfS, spask, spchangedat
  refine ⟨ns, ha, q1, fun no => ?_⟩
  replace q2 := q2 no
  replace q3 := q3 no
  obtain ⟨k, rfl, hk⟩ := at_ok no
  unfold bad at q2 q3
  simp only [Int.toNat_natCast] at q2 q3
  by_cases c1 : first < 0
  · rw [if_pos c1]; exact ⟨small (by decide), q2 (.inl c1)⟩
  rw [if_neg c1]
  by_cases c2 : many < 0
  · rw [if_pos c2]; exact ⟨small (by decide), q2 (.inr (.inl c2))⟩
  rw [if_neg c2]
  by_cases c3 : step < 1
  · rw [if_pos c3]; exact ⟨small (by decide), q2 (.inr (.inr (.inl c3)))⟩
  rw [if_neg c3]
  by_cases c4 : 0 < many
  · rw [if_pos c4]
    refine ⟨.inl ⟨by omega, by omega⟩, _, ha, _, atI_ok hk, _, rfl, ?_⟩
    by_cases c5 : ns.getD k 0 ≤ first + (many - 1) * step
    · rw [if_pos c5]; exact ⟨small (by decide), q2 (.inr (.inr (.inr ⟨c4, c5⟩)))⟩
    rw [if_neg c5]
    exact ⟨ns, k, rfl, ha, h63, hk, q3 (fun z => z.elim c1 fun z => z.elim c2 fun z => z.elim c3 fun z => c5 z.2)⟩
  · rw [if_neg c4]
    exact ⟨ns, k, rfl, ha, h63, hk, q3 (fun z => z.elim c1 fun z => z.elim c2 fun z => z.elim c3 fun z => c4 z.1)⟩
abbrev sspreadsides : Stmt := top 38
theorem scspreadsides : FnScope ["sides", "side", "many"] ["sides", "side", "many"] (defScope sspreadsides) := ⟨rfl, rfl, rfl, by decide +kernel, rfl, by decide +kernel, by decide +kernel⟩
theorem okspreadsides (F : Fun K "spread_sides" "spread_sides" sspreadsides f fd) {CNoSide : Addr} (nNoSide : PySem.W.nsIn K mainGlobals "NoSide" = some (some (.ref CNoSide))) {CBeyond : Addr} (nBeyond : PySem.W.nsIn K mainGlobals "Beyond" = some (some (.ref CBeyond))) {CTooLarge : Addr} (nTooLarge : PySem.W.nsIn K mainGlobals "TooLarge" = some (some (.ref CTooLarge))) (caddedat : Callee P w K mg base CX0 (3) "added_at" ["row", "k", "number"] spaddedat) (callowed : Callee P w K mg base (CX1 P w) (3) "allowed" ["sides"] (spallowed CTooLarge)) (zlen : mg "len" = none) (xNoSide : PySem.W.excIn K CNoSide [.type "ValueError", .type "Exception", .type "BaseException", .type "object"] "ValueError.__new__" = true) (xBeyond : PySem.W.excIn K CBeyond [.type "ValueError", .type "Exception", .type "BaseException", .type "object"] "ValueError.__new__" = true) : FnOk P w K mg base (CX1 P w) (4) f fd ["sides", "side", "many"] ((spspr CNoSide CBeyond CTooLarge)) := by
  have sc := scspreadsides
  refine F.okX sc (fun vs H Q E h => ?_) (fun cdv A outer s H vs Q E hr h => ?_)
  · obtain ⟨a, ns, side, many, rfl, _⟩ := h; rfl
  obtain ⟨a, ns, side, many, rfl, ha, hs, h20, hm, q1, q2, q3, q4⟩ := h
  refine ⟨_, (z0d (z0y (PW.pt (pw_or (z0i z3l (pv 1) z0e (z0n _)) (z2w (z0i op_gt (pv 1) (z0m z0j (by rfl) zlen PySem.boot_len (z0a (pv 0) z0c)) (z0n _))))) (z0f (z1r PySem.F.excBase_ValueError rfl (by rfl) nNoSide xNoSide z1y (z0a z0q z0c))) z0k) (z0d (z0y (z0i z3l (pv 2) z0e (z0n _)) (z0f (z1r PySem.F.excBase_ValueError rfl (by rfl) nBeyond xBeyond z1y (z0a z0q z0c))) z0k) (z0f (z0l (z0r callowed hr (by rfl) z1d (z0a (z0r caddedat hr (by rfl) z1l (z0a (pv 0) (z0a (pv 1) (z0a (pv 2) z0c)))) z0c)))))), ?_⟩
  wp_walk using tSeq, tIfS, spaddedat, spallowed
  unfold off1 at q1 q2 q3 q4
  by_cases c1 : side < 0
  · rw [if_pos c1]; exact ⟨small (by decide), q1 (.inl c1)⟩
  rw [if_neg c1]
  refine ⟨_, .inr (.of ha), ?_⟩
  rw [z0s]
  by_cases c2 : (ns.length : Int) < side
  · rw [if_pos c2]; exact ⟨small (by decide), q1 (.inr c2)⟩
  rw [if_neg c2]
  have no : ¬ (side < 0 \/ (ns.length : Int) < side) := by omega
  by_cases c3 : many < 0
  · rw [if_pos c3]; exact ⟨small (by decide), q2 no c3⟩
  rw [if_neg c3]
  obtain ⟨k, rfl⟩ : ∃ k : Nat, side = k := ⟨side.toNat, by omega⟩
  refine ⟨ns, k, rfl, ha, by omega, fun H1 p s1 hp => ⟨_, hp, ins_ok hs (by omega) hm, by rw [ins_len]; omega, fun b H2 s2 => q3 no c3 b _ (s1.trans s2), fun b H2 s2 => q4 no c3 b _ _ (s1.trans s2) (s2 _ _ hp)⟩⟩
abbrev sledsides : Stmt := top 41
theorem scledsides : FnScope ["sides", "others"] ["sides", "others"] (defScope sledsides) := ⟨rfl, rfl, rfl, by decide +kernel, rfl, by decide +kernel, by decide +kernel⟩
theorem okledsides (F : Fun K "led_sides" "led_sides" sledsides f fd) {CUnlike : Addr} (nUnlike : PySem.W.nsIn K mainGlobals "Unlike" = some (some (.ref CUnlike))) (zlen : mg "len" = none) (xUnlike : PySem.W.excIn K CUnlike [.type "ValueError", .type "Exception", .type "BaseException", .type "object"] "ValueError.__new__" = true) : FnOk P w K mg base (CX1 P w) (1) f fd ["sides", "others"] ((spled CUnlike)) := by
  have sc := scledsides
  refine F.okX sc (fun vs H Q E h => ?_) (fun cdv A outer s H vs Q E hr h => ?_)
  · obtain ⟨a, b, ns, ms, rfl, _⟩ := h; rfl
  obtain ⟨a, b, ns, ms, rfl, ha, hb, q1, q2⟩ := h
  refine ⟨_, (z0d (z0y (z0i (op_neT hr.units0) (z1e z1s (pv 1) z1n (z1k (z0m z0j (by rfl) zlen PySem.boot_len (z0a (pv 0) z0c)))) (pv 0) (z0n _)) (z0f (z1r PySem.F.excBase_ValueError rfl (by rfl) nUnlike xUnlike z1y (z0a z0q z0c))) z0k) (z0f (z0l (pv 1)))), ?_⟩
  wp_walk using tSeq, tIfS
  refine ⟨_, .inr (.of ha), _, hb, fun r H1 s1 hr1 => ?_⟩
  rw [z0s, z2e] at hr1
  refine ⟨_, .of hr1, _, .of (s1 _ _ ha), z1j _, z1j _, ?_⟩
  rw [z1z]
  by_cases c : ms.take ns.length = ns
  · rw [if_neg (by simp [c])]; exact q2 c _ s1
  · rw [if_pos (by simp [c])]; exact ⟨small (by decide), q1 c _ s1⟩
abbrev sfoldedsides : Stmt := top 45
theorem scfoldedsides : FnScope ["sides", "side"] ["sides", "side"] (defScope sfoldedsides) := ⟨rfl, rfl, rfl, by decide +kernel, rfl, by decide +kernel, by decide +kernel⟩
theorem okfoldedsides (F : Fun K "folded_sides" "folded_sides" sfoldedsides f fd) {CNoSide : Addr} (nNoSide : PySem.W.nsIn K mainGlobals "NoSide" = some (some (.ref CNoSide))) (caskside : Callee P w K mg base (CX1 P w) (1) "ask_side" ["sides", "side"] (spask CNoSide)) (cdroppedat : Callee P w K mg base CX0 (1) "dropped_at" ["row", "k"] spdroppedat) : FnOk P w K mg base (CX1 P w) (2) f fd ["sides", "side"] ((spfolded CNoSide)) := by
  have sc := scfoldedsides
  refine F.okX sc (fun vs H Q E h => ?_) (fun cdv A outer s H vs Q E hr h => ?_)
  · obtain ⟨a, ns, side, rfl, _⟩ := h; rfl
  obtain ⟨a, ns, side, rfl, ha, h63, q1, q2⟩ := h
  refine ⟨_, (z0d (z1w (z0r caskside hr (by rfl) z1d (z0a (pv 0) (z0a (pv 1) z0c)))) (z0f (z0l (z0r cdroppedat hr (by rfl) z1l (z0a (pv 0) (z0a (pv 1) z0c)))))), ?_⟩
  wp_walk using tSeq, tIfS, spask, spdroppedat
  refine ⟨ns, ha, q1, fun no => ?_⟩
  obtain ⟨k, rfl, hk⟩ := at_ok no
  exact ⟨ns, k, rfl, ha, h63, hk, q2 no⟩
abbrev slaidsides : Stmt := top 39
theorem sclaidsides : FnScope ["sides", "others"] ["sides", "others"] (defScope slaidsides) := ⟨rfl, rfl, rfl, by decide +kernel, rfl, by decide +kernel, by decide +kernel⟩
theorem oklaidsides (F : Fun K "laid_sides" "laid_sides" slaidsides f fd) {CTooLarge : Addr} (nTooLarge : PySem.W.nsIn K mainGlobals "TooLarge" = some (some (.ref CTooLarge))) {CUnlike : Addr} (nUnlike : PySem.W.nsIn K mainGlobals "Unlike" = some (some (.ref CUnlike))) (callowed : Callee P w K mg base (CX1 P w) (3) "allowed" ["sides"] (spallowed CTooLarge)) (camount : Callee P w K mg base CX0 (3) "amount" ["sides"] spamount) (xUnlike : PySem.W.excIn K CUnlike [.type "ValueError", .type "Exception", .type "BaseException", .type "object"] "ValueError.__new__" = true) : FnOk P w K mg base (CX1 P w) (4) f fd ["sides", "others"] ((splaid CTooLarge CUnlike)) := by
  have sc := sclaidsides
  refine F.okX sc (fun vs H Q E h => ?_) (fun cdv A outer s H vs Q E hr h => ?_)
  · obtain ⟨a, b, ns, ms, rfl, _⟩ := h; rfl
  obtain ⟨a, b, ns, ms, rfl, ha, hb, hn, hm, hl, q1, q2, q3⟩ := h
  refine ⟨_, (z0d (z1w (z0r callowed hr (by rfl) z1d (z0a (pv 1) z0c))) (z0d (z0y (z0i op_ne (z0r camount hr (by rfl) z1l (z0a (pv 0) z0c)) (z0r camount hr (by rfl) z1l (z0a (pv 1) z0c)) (z0n _)) (z0f (z1r PySem.F.excBase_ValueError rfl (by rfl) nUnlike xUnlike z1y (z0a z0q z0c))) z0k) (z0f (z0l (pv 1))))), ?_⟩
  wp_walk using tSeq, tIfS, spallowed, spamount
  refine ⟨ms, hb, hm, by omega, q1, fun nb H1 s1 => ⟨ns, .inr (s1 _ _ ha), hn, ms, .inr (s1 _ _ hb), hm, ?_⟩⟩
  by_cases c : prodI ns = prodI ms
  · rw [if_neg (fun z => z c)]; exact q3 nb c _ s1
  · rw [if_pos c]; exact ⟨small (by decide), q2 nb c _ s1⟩
abbrev sjoinedsides : Stmt := top 40
theorem scjoinedsides : FnScope ["sides", "others", "side"] ["sides", "others", "side"] (defScope sjoinedsides) := ⟨rfl, rfl, rfl, by decide +kernel, rfl, by decide +kernel, by decide +kernel⟩
theorem okjoinedsides (F : Fun K "joined_sides" "joined_sides" sjoinedsides f fd) {CUnlike : Addr} (nUnlike : PySem.W.nsIn K mainGlobals "Unlike" = some (some (.ref CUnlike))) {CNoSide : Addr} (nNoSide : PySem.W.nsIn K mainGlobals "NoSide" = some (some (.ref CNoSide))) {CTooLarge : Addr} (nTooLarge : PySem.W.nsIn K mainGlobals "TooLarge" = some (some (.ref CTooLarge))) (caskside : Callee P w K mg base (CX1 P w) (3) "ask_side" ["sides", "side"] (spask CNoSide)) (cdroppedat : Callee P w K mg base CX0 (3) "dropped_at" ["row", "k"] spdroppedat) (callowed : Callee P w K mg base (CX1 P w) (3) "allowed" ["sides"] (spallowed CTooLarge)) (cchangedat : Callee P w K mg base CX0 (3) "changed_at" ["row", "k", "number"] spchangedat) (zlen : mg "len" = none) (xUnlike : PySem.W.excIn K CUnlike [.type "ValueError", .type "Exception", .type "BaseException", .type "object"] "ValueError.__new__" = true) : FnOk P w K mg base (CX1 P w) (4) f fd ["sides", "others", "side"] ((spjoin CUnlike CNoSide CTooLarge)) := by
  have sc := scjoinedsides
  refine F.okX sc (fun vs H Q E h => ?_) (fun cdv A outer s H vs Q E hr h => ?_)
  · obtain ⟨a, b, ns, ms, side, rfl, _⟩ := h; rfl
  obtain ⟨a, b, ns, ms, side, rfl, ha, hb, hn, hm, hl, q1, q2, q3, q4, q5⟩ := h
  refine ⟨_, (z0d (z0y (z0i op_ne (z0m z0j (by rfl) zlen PySem.boot_len (z0a (pv 0) z0c)) (z0m z0j (by rfl) zlen PySem.boot_len (z0a (pv 1) z0c)) (z0n _)) (z0f (z1r PySem.F.excBase_ValueError rfl (by rfl) nUnlike xUnlike z1y (z0a z0q z0c))) z0k) (z0d (z1w (z0r caskside hr (by rfl) z1d (z0a (pv 0) (z0a (pv 2) z0c)))) (z0d (z0y (z0i (op_neT hr.units0) (z0r cdroppedat hr (by rfl) z1l (z0a (pv 0) (z0a (pv 2) z0c))) (z0r cdroppedat hr (by rfl) z1l (z0a (pv 1) (z0a (pv 2) z0c))) (z0n _)) (z0f (z1r PySem.F.excBase_ValueError rfl (by rfl) nUnlike xUnlike z1y (z0a z0q z0c))) z0k) (z0f (z0l (z0r callowed hr (by rfl) z1d (z0a (z0r cchangedat hr (by rfl) z1l (z0a (pv 0) (z0a (pv 2) (z0a (z0t z2a (z0u z0v (pv 0) (pv 2) (fun _ _ => rfl)) (z0u z0v (pv 1) (pv 2) (fun _ _ => rfl))) z0c)))) z0c))))))), ?_⟩
  wp_walk using tSeq, tIfS, spask, spdroppedat, spallowed, spchangedat
  refine ⟨_, .inr (.of ha), _, .inr (.of hb), ?_⟩
  rw [z0s, z0s]
  by_cases le : ns.length = ms.length
  · rw [if_neg (by omega)]
    refine ⟨ns, ha, q2 le, fun no => ?_⟩
    replace q3 := q3 le no
    replace q4 := q4 le no
    replace q5 := q5 le no
    obtain ⟨k, rfl, hk⟩ := at_ok no
    simp only [Int.toNat_natCast] at q3 q4 q5
    refine ⟨ns, k, rfl, ha, by omega, hk, fun H1 p1 s1 h1 => ⟨ms, k, rfl, s1 _ _ hb, by omega, by omega, fun H2 p2 s2 h2 => ⟨_, .of (s2 _ _ h1), _, .of h2, z1j _, z1j _, ?_⟩⟩⟩
    rw [z1z]
    have s12 := s1.trans s2
    by_cases c : ns.eraseIdx k = ms.eraseIdx k
    · rw [if_neg (by simp [c])]
      have n1 := hn _ (getD_mem hk)
      have n2 := hm _ (getD_mem (ns := ms) (k := k) (by omega))
      refine ⟨_, s12 _ _ ha, _, atI_ok hk, _, s12 _ _ hb, _, atI_ok (ns := ms) (by omega), _, rfl, _, rfl, ns, k, rfl, s12 _ _ ha, by omega, hk, fun H3 p3 s3 h3 => ?_⟩
      exact ⟨_, h3, fun n hn' => by
        rcases List.mem_or_eq_of_mem_set hn' with z | z
        · exact sm_sd hn n z
        · omega, by rw [List.length_set]; omega, fun bg H4 s4 => q4 c bg _ (s12.trans (s3.trans s4)), fun nb H4 s4 => q5 c nb _ _ (s12.trans (s3.trans s4)) (s4 _ _ h3)⟩
    · rw [if_pos (by simp [c])]
      exact ⟨small (by decide), q3 c _ s12⟩
  · rw [if_pos (by omega)]
    exact ⟨small (by decide), q1 le⟩
abbrev scountedsides : Stmt := top 46
theorem sccountedsides : FnScope ["sides", "side"] ["sides", "side"] (defScope scountedsides) := ⟨rfl, rfl, rfl, by decide +kernel, rfl, by decide +kernel, by decide +kernel⟩
theorem okcountedsides (F : Fun K "counted_sides" "counted_sides" scountedsides f fd) {CTooLarge : Addr} (nTooLarge : PySem.W.nsIn K mainGlobals "TooLarge" = some (some (.ref CTooLarge))) {CNoSide : Addr} (nNoSide : PySem.W.nsIn K mainGlobals "NoSide" = some (some (.ref CNoSide))) (callowed : Callee P w K mg base (CX1 P w) (3) "allowed" ["sides"] (spallowed CTooLarge)) (caskside : Callee P w K mg base (CX1 P w) (3) "ask_side" ["sides", "side"] (spask CNoSide)) : FnOk P w K mg base (CX1 P w) (4) f fd ["sides", "side"] ((spcnt CTooLarge CNoSide)) := by
  have sc := sccountedsides
  refine F.okX sc (fun vs H Q E h => ?_) (fun cdv A outer s H vs Q E hr h => ?_)
  · obtain ⟨a, ns, side, rfl, _⟩ := h; rfl
  obtain ⟨a, ns, side, rfl, ha, hn, hl, q1, q2, q3⟩ := h
  refine ⟨_, (z0d (z1w (z0r callowed hr (by rfl) z1d (z0a (pv 0) z0c))) (z0d (z1w (z0r caskside hr (by rfl) z1d (z0a (pv 0) (z0a (pv 1) z0c)))) (z0f (z0l (pv 0))))), ?_⟩
  wp_walk using tSeq, tIfS, spallowed, spask
  exact ⟨ns, ha, hn, by omega, q1, fun nb H1 s1 => ⟨ns, s1 _ _ ha, fun o => q2 nb o _ s1, fun o => q3 nb o _ s1⟩⟩
abbrev spairedsides : Stmt := top 42
theorem scpairedsides : FnScope ["sides", "others"] ["sides", "others"] (defScope spairedsides) := ⟨rfl, rfl, rfl, by decide +kernel, rfl, by decide +kernel, by decide +kernel⟩
theorem okpairedsides (F : Fun K "paired_sides" "paired_sides" spairedsides f fd) {CUnlike : Addr} (nUnlike : PySem.W.nsIn K mainGlobals "Unlike" = some (some (.ref CUnlike))) (cledsides : Callee P w K mg base (CX1 P w) (1) "led_sides" ["sides", "others"] (spled CUnlike)) (zlen : mg "len" = none) : FnOk P w K mg base (CX1 P w) (2) f fd ["sides", "others"] ((sppaired CUnlike)) := by
  have sc := scpairedsides
  refine F.okX sc (fun vs H Q E h => ?_) (fun cdv A outer s H vs Q E hr h => ?_)
  · obtain ⟨a, b, ns, ms, rfl, _⟩ := h; rfl
  obtain ⟨a, b, ns, ms, rfl, ha, hb, q1, q2⟩ := h
  refine ⟨_, (z0d (z0y (z0i op_gt (z0m z0j (by rfl) zlen PySem.boot_len (z0a (pv 0) z0c)) (z0m z0j (by rfl) zlen PySem.boot_len (z0a (pv 1) z0c)) (z0n _)) (z0f (z0l (z0r cledsides hr (by rfl) z1d (z0a (pv 1) (z0a (pv 0) z0c))))) z0k) (z0f (z0l (z0r cledsides hr (by rfl) z1d (z0a (pv 0) (z0a (pv 1) z0c)))))), ?_⟩
  wp_walk using tSeq, tIfS, spled
  refine ⟨_, .inr (.of ha), _, .inr (.of hb), ?_⟩
  rw [z0s, z0s]
  unfold pairOk at q1 q2
  unfold pairL at q2
  by_cases c : ms.length < ns.length
  · rw [if_pos (by omega)]
    simp only [if_pos c] at q1 q2
    exact ⟨ms, hb, ns, ha, q1, fun e H1 s1 => q2 e _ _ s1 (s1 _ _ ha)⟩
  · rw [if_neg (by omega)]
    simp only [if_neg c] at q1 q2
    exact ⟨ns, ha, ms, hb, q1, fun e H1 s1 => q2 e _ _ s1 (s1 _ _ hb)⟩
abbrev spickedsides : Stmt := top 43
theorem scpickedsides : FnScope ["marks", "sides", "others"] ["marks", "sides", "others"] (defScope spickedsides) := ⟨rfl, rfl, rfl, by decide +kernel, rfl, by decide +kernel, by decide +kernel⟩
theorem okpickedsides (F : Fun K "picked_sides" "picked_sides" spickedsides f fd) {CUnlike : Addr} (nUnlike : PySem.W.nsIn K mainGlobals "Unlike" = some (some (.ref CUnlike))) (cpairedsides : Callee P w K mg base (CX1 P w) (2) "paired_sides" ["sides", "others"] (sppaired CUnlike)) : FnOk P w K mg base (CX1 P w) (3) f fd ["marks", "sides", "others"] ((sppicked CUnlike)) := by
  have sc := scpickedsides
  refine F.okX sc (fun vs H Q E h => ?_) (fun cdv A outer s H vs Q E hr h => ?_)
  · obtain ⟨a, b, c, ns, ms, ks, rfl, _⟩ := h; rfl
  obtain ⟨a, b, c, ns, ms, ks, rfl, ha, hb, hc, q1, q2⟩ := h
  refine ⟨_, (z0f (z0l (z0r cpairedsides hr (by rfl) z1d (z0a (z0r cpairedsides hr (by rfl) z1d (z0a (pv 0) (z0a (pv 1) z0c))) (z0a (pv 2) z0c))))), ?_⟩
  wp_walk using tSeq, tIfS, sppaired
  refine ⟨ns, ha, ms, hb, fun n => q1 (fun z => n z.1), fun o H1 p s1 hp => ⟨_, hp, ks, s1 _ _ hc, fun n H2 s2 => q1 (fun z => n z.2) _ (s1.trans s2), fun o2 H2 p2 s2 hp2 => q2 o o2 _ _ (s1.trans s2) hp2⟩⟩
abbrev sfetchedsides : Stmt := top 44
theorem scfetchedsides : FnScope ["sides", "others"] ["sides", "others"] (defScope sfetchedsides) := ⟨rfl, rfl, rfl, by decide +kernel, rfl, by decide +kernel, by decide +kernel⟩
theorem okfetchedsides (F : Fun K "fetched_sides" "fetched_sides" sfetchedsides f fd) {CNoSide : Addr} (nNoSide : PySem.W.nsIn K mainGlobals "NoSide" = some (some (.ref CNoSide))) {CBeyond : Addr} (nBeyond : PySem.W.nsIn K mainGlobals "Beyond" = some (some (.ref CBeyond))) {CTooLarge : Addr} (nTooLarge : PySem.W.nsIn K mainGlobals "TooLarge" = some (some (.ref CTooLarge))) (callowed : Callee P w K mg base (CX1 P w) (3) "allowed" ["sides"] (spallowed CTooLarge)) (zlen : mg "len" = none) (xNoSide : PySem.W.excIn K CNoSide [.type "ValueError", .type "Exception", .type "BaseException", .type "object"] "ValueError.__new__" = true) (xBeyond : PySem.W.excIn K CBeyond [.type "ValueError", .type "Exception", .type "BaseException", .type "object"] "ValueError.__new__" = true) : FnOk P w K mg base (CX1 P w) (4) f fd ["sides", "others"] ((spfetched CNoSide CBeyond CTooLarge)) := by
  have sc := scfetchedsides
  refine F.okX sc (fun vs H Q E h => ?_) (fun cdv A outer s H vs Q E hr h => ?_)
  · obtain ⟨a, b, ns, ms, rfl, _⟩ := h; rfl
  obtain ⟨a, b, ns, ms, rfl, ha, hb, hn, hm, hl, hk, q1, q2, q3, q4⟩ := h
  refine ⟨_, (z0d (z0y (z0i z1f (z0m z0j (by rfl) zlen PySem.boot_len (z0a (pv 0) z0c)) z0e (z0n _)) (z0f (z1r PySem.F.excBase_ValueError rfl (by rfl) nNoSide xNoSide z1y (z0a z0q z0c))) z0k) (z0d (z0y (z0i z1f (z0u z0v (pv 0) z0e (fun _ _ => rfl)) z0e (z0n _)) (z0f (z1r PySem.F.excBase_ValueError rfl (by rfl) nBeyond xBeyond z1y (z0a z0q z0c))) z0k) (z0f (z0l (z0r callowed hr (by rfl) z1d (z0a (z0t z1x (pv 1) (z1e z1s (pv 0) (z1k z0e) z1n)) z0c)))))), ?_⟩
  wp_walk using tSeq, tIfS, spallowed
  refine ⟨_, .inr (.of ha), ?_⟩
  rw [z0s]
  cases ns with
  | nil => rw [if_pos (by simp)]; exact ⟨small (by decide), q1 rfl⟩
  | cons n r =>
    rw [if_neg (by simp; omega)]
    refine ⟨_, ha, _, z0p (j := 0) rfl, rfl, ?_⟩
    by_cases n0 : n = 0
    · subst n0; rw [if_pos rfl]; exact ⟨small (by decide), q2 _ rfl⟩
    rw [if_neg (by simp [n0])]
    have cut : cutV ((n :: r).map V.int) (some 1) none = r.map V.int := cut_hi (ns := n :: r) (k := 1) (by simp)
    have l1 : r.length ≤ 20 := by simp at hl; omega
    refine ⟨_, ha, fun r1 H1 s1 hr1 => ⟨_, s1 _ _ hb, _, hr1, ?_, fun r2 H2 s2 hr2 => ?_⟩⟩
    · rw [cut, z0s, z0s]; exact small (by omega)
    rw [cut, ← List.map_append] at hr2
    exact ⟨ms ++ r, hr2, fun m hm' => (List.mem_append.mp hm').elim (hm m) (fun z => hn m (List.mem_cons_of_mem _ z)), by rw [List.length_append]; omega, fun b H3 s3 => q3 n r rfl n0 b _ ((s1.trans s2).trans s3), fun b H3 s3 => q4 n r rfl n0 b _ _ ((s1.trans s2).trans s3) (s3 _ _ hr2)⟩
abbrev swrapped : Stmt := top 11
def spwrapped : Sp := fun vs H Q _ => ∃ n : Int, vs = [.int n] /\ Q (.int (wrapI n)) H
theorem scwrapped : FnScope ["n"] ["n"] (defScope swrapped) := ⟨rfl, rfl, rfl, by decide +kernel, rfl, by decide +kernel, by decide +kernel⟩
theorem okwrapped (F : Fun K "wrapped" "wrapped" swrapped f fd) {tLOW : Tok} (gLOW : mg "LOW" = some (.int (-9223372036854775808) tLOW)) : FnOk P w K mg base CX0 (1) f fd ["n"] (spwrapped) := by
  have sc := scwrapped
  refine F.ok sc (fun vs H Q E h => ?_) (fun cdv A outer s H vs Q E hr h => ?_)
  · obtain ⟨n, rfl, _⟩ := h; rfl
  obtain ⟨n, rfl, q⟩ := h
  refine ⟨_, (z0f (z0l (z0t z2a (z0t z1u (z0t z2y (pv 0) (z3c (v := .int (-9223372036854775808)) (by rfl) gLOW ⟨_, rfl⟩)) (z0t op_pow z0e z0e)) (z3c (v := .int (-9223372036854775808)) (by rfl) gLOW ⟨_, rfl⟩)))), ?_⟩
  wp_walk using tSeq, tIfS
  have e : (n - -9223372036854775808) % 18446744073709551616 + -9223372036854775808 = wrapI n := by unfold wrapI; omega
  rw [e]; exact q
abbrev ssignof : Stmt := top 12
def spsignof : Sp := fun vs H Q _ => ∃ n : Int, vs = [.int n] /\ Q (.int (if n < 0 then -1 else if 0 < n then 1 else 0)) H
theorem scsignof : FnScope ["x"] ["x"] (defScope ssignof) := ⟨rfl, rfl, rfl, by decide +kernel, rfl, by decide +kernel, by decide +kernel⟩
theorem oksignof (F : Fun K "sign_of" "sign_of" ssignof f fd) : FnOk P w K mg base CX0 (1) f fd ["x"] (spsignof) := by
  have sc := scsignof
  refine F.ok sc (fun vs H Q E h => ?_) (fun cdv A outer s H vs Q E hr h => ?_)
  · obtain ⟨n, rfl, _⟩ := h; rfl
  obtain ⟨n, rfl, q⟩ := h
  refine ⟨_, (z0d (z0y (z0i z3l (pv 0) z0e (z0n _)) (z0f (z0l (pe_un un_neg z0e))) z0k) (z0f (z0l (z3g (z0i op_gt (pv 0) z0e (z0n _)) z0e z0e)))), ?_⟩
  wp_walk using tSeq, tIfS
  repeat' split
  all_goals (simp_all; done)
abbrev squotient : Stmt := top 13
def spquotient : Sp := fun vs H Q _ => ∃ x y : Int, vs = [.int x, .int y] /\ inB x /\ inB y /\ Q (.int (quoI x y)) H
theorem scquotient : FnScope ["x", "y"] ["x", "y"] (defScope squotient) := ⟨rfl, rfl, rfl, by decide +kernel, rfl, by decide +kernel, by decide +kernel⟩
theorem okquotient (F : Fun K "quotient" "quotient" squotient f fd) (cwrapped : Callee P w K mg base CX0 (1) "wrapped" ["n"] spwrapped) : FnOk P w K mg base CX0 (2) f fd ["x", "y"] (spquotient) := by
  have sc := scquotient
  refine F.ok sc (fun vs H Q E h => ?_) (fun cdv A outer s H vs Q E hr h => ?_)
  · obtain ⟨x, y, rfl, _⟩ := h; rfl
  obtain ⟨x, y, rfl, hx, hy, q⟩ := h
  refine ⟨_, (z0d (z0y (z0i z1f (pv 1) z0e (z0n _)) (z0f (z0l z0e)) z0k) (z0f (z0l (z0r cwrapped hr (by rfl) z1l (z0a (z0t z3v (pv 0) (pv 1)) z0c))))), ?_⟩
  wp_walk using tSeq, tIfS, spwrapped
  unfold quoI at q
  by_cases h : y = 0
  · rw [if_pos h]
    rw [if_pos h] at q
    exact q
  · rw [if_neg h]
    rw [if_neg h] at q
    unfold inB at hy
    exact ⟨h, by omega, by omega, q⟩
abbrev sremainder : Stmt := top 14
def spremainder : Sp := fun vs H Q _ => ∃ x y : Int, vs = [.int x, .int y] /\ Q (.int (restI x y)) H
theorem scremainder : FnScope ["x", "y"] ["x", "y"] (defScope sremainder) := ⟨rfl, rfl, rfl, by decide +kernel, rfl, by decide +kernel, by decide +kernel⟩
theorem okremainder (F : Fun K "remainder" "remainder" sremainder f fd) : FnOk P w K mg base CX0 (1) f fd ["x", "y"] (spremainder) := by
  have sc := scremainder
  refine F.ok sc (fun vs H Q E h => ?_) (fun cdv A outer s H vs Q E hr h => ?_)
  · obtain ⟨x, y, rfl, _⟩ := h; rfl
  obtain ⟨x, y, rfl, q⟩ := h
  refine ⟨_, (z0f (z0l (z3g (z0i z1f (pv 1) z0e (z0n _)) (pv 0) (z0t z2b (pv 0) (pv 1))))), ?_⟩
  wp_walk using tSeq, tIfS
  unfold restI at q
  by_cases h : y = 0
  · rw [if_pos h]
    rw [if_pos h] at q
    exact q
  · rw [if_neg h]
    rw [if_neg h] at q
    exact ⟨h, q⟩
abbrev sonce : Stmt := top 15
theorem sconce : FnScope ["word", "x"] ["word", "x"] (defScope sonce) := ⟨rfl, rfl, rfl, by decide +kernel, rfl, by decide +kernel, by decide +kernel⟩
theorem okonce (F : Fun K "once" "once" sonce f fd) {CNoWord : Addr} (nNoWord : PySem.W.nsIn K mainGlobals "NoWord" = some (some (.ref CNoWord))) (cwrapped : Callee P w K mg base CX0 (1) "wrapped" ["n"] spwrapped) (csignof : Callee P w K mg base CX0 (1) "sign_of" ["x"] spsignof) (zabs : mg "abs" = none) (xNoWord : PySem.W.excIn K CNoWord [.type "ValueError", .type "Exception", .type "BaseException", .type "object"] "ValueError.__new__" = true) : FnOk P w K mg base (CX1 P w) (2) f fd ["word", "x"] ((sponceX CNoWord)) := by
  have sc := sconce
  refine F.okX sc (fun vs H Q E h => ?_) (fun cdv A outer s H vs Q E hr h => ?_)
  · obtain ⟨w, x, rfl, _⟩ := h; rfl
  obtain ⟨wd, x, rfl, ok, q1, q2⟩ := h
  refine ⟨_, (z0d (z0y (z0i z1f (pv 0) z0q (z0n _)) (z0f (z0l (z0r cwrapped hr (by rfl) z1l (z0a (pe_un un_neg (pv 1)) z0c)))) z0k) (z0d (z0y (z0i z1f (pv 0) z0q (z0n _)) (z0f (z0l (z0r cwrapped hr (by rfl) z1l (z0a (z0m call_abs (by rfl) zabs boot_abs (z0a (pv 1) z0c)) z0c)))) z0k) (z0d (z0y (z0i z1f (pv 0) z0q (z0n _)) (z0f (z0l (z0r csignof hr (by rfl) z1l (z0a (pv 1) z0c)))) z0k) (z0d (z0y (z0i z1f (pv 0) z0q (z0n _)) (z0f (z0l (z3g (z0i z1f (pv 1) z0e (z0n _)) z0e z0e))) z0k) (z0f (z1r PySem.F.excBase_ValueError rfl (by rfl) nNoWord xNoWord z1y (z0a (pe_fR z0q (pv 0)) z0c))))))), ?_⟩
  wp_walk using tSeq, tIfS, spwrapped, spsignof
  unfold onceI absI at q1
  by_cases c0 : wd = Str.ofString "neg"
  · rw [if_pos c0] at q1 ⊢
    exact q1 (by rw [c0]; simp [one4])
  rw [if_neg c0] at q1 ⊢
  by_cases c1 : wd = Str.ofString "abs"
  · rw [if_pos c1] at q1 ⊢
    exact q1 (by rw [c1]; simp [one4])
  rw [if_neg c1] at q1 ⊢
  by_cases c2 : wd = Str.ofString "sign"
  · rw [if_pos c2] at q1 ⊢
    exact q1 (by rw [c2]; simp [one4])
  rw [if_neg c2] at q1 ⊢
  by_cases c3 : wd = Str.ofString "not"
  · rw [if_pos c3]
    have q := q1 (by rw [c3]; simp [one4])
    split <;> (split at q <;> first | exact q | contradiction)
  rw [if_neg c3]
  exact ⟨⟨by decide +kernel, by decide +kernel⟩, ok, fun z => ⟨small (by decide), q2 (by simp only [one4, List.mem_cons, List.not_mem_nil, or_false, not_or]; exact ⟨c0, c1, c2, c3⟩)⟩⟩
abbrev stwice : Stmt := top 16
theorem sctwice : FnScope ["word", "x", "y"] ["word", "x", "y"] (defScope stwice) := ⟨rfl, rfl, rfl, by decide +kernel, rfl, by decide +kernel, by decide +kernel⟩
theorem oktwice (F : Fun K "twice" "twice" stwice f fd) {CNoWord : Addr} (nNoWord : PySem.W.nsIn K mainGlobals "NoWord" = some (some (.ref CNoWord))) (cwrapped : Callee P w K mg base CX0 (2) "wrapped" ["n"] spwrapped) (cquotient : Callee P w K mg base CX0 (2) "quotient" ["x", "y"] spquotient) (cremainder : Callee P w K mg base CX0 (2) "remainder" ["x", "y"] spremainder) (zmax : mg "max" = none) (zmin : mg "min" = none) (xNoWord : PySem.W.excIn K CNoWord [.type "ValueError", .type "Exception", .type "BaseException", .type "object"] "ValueError.__new__" = true) : FnOk P w K mg base (CX1 P w) (3) f fd ["word", "x", "y"] ((sptwiceX CNoWord)) := by
  have sc := sctwice
  refine F.okX sc (fun vs H Q E h => ?_) (fun cdv A outer s H vs Q E hr h => ?_)
  · obtain ⟨w, x, y, rfl, _⟩ := h; rfl
  obtain ⟨wd, x, y, rfl, ok, hx, hy, q1, q2⟩ := h
  refine ⟨_, (z0d (z0y (z0i z1f (pv 0) z0q (z0n _)) (z0f (z0l (z0r cwrapped hr (by rfl) z1l (z0a (z0t z2a (pv 1) (pv 2)) z0c)))) z0k) (z0d (z0y (z0i z1f (pv 0) z0q (z0n _)) (z0f (z0l (z0r cwrapped hr (by rfl) z1l (z0a (z0t z2y (pv 1) (pv 2)) z0c)))) z0k) (z0d (z0y (z0i z1f (pv 0) z0q (z0n _)) (z0f (z0l (z0r cwrapped hr (by rfl) z1l (z0a (z0t op_mul (pv 1) (pv 2)) z0c)))) z0k) (z0d (z0y (z0i z1f (pv 0) z0q (z0n _)) (z0f (z0l (z0r cquotient hr (by rfl) z1l (z0a (pv 1) (z0a (pv 2) z0c))))) z0k) (z0d (z0y (z0i z1f (pv 0) z0q (z0n _)) (z0f (z0l (z0r cremainder hr (by rfl) z1l (z0a (pv 1) (z0a (pv 2) z0c))))) z0k) (z0d (z0y (z0i z1f (pv 0) z0q (z0n _)) (z0f (z0l (z0m (z3x rfl) (by rfl) zmax boot_max (z0a (pv 1) (z0a (pv 2) z0c))))) z0k) (z0d (z0y (z0i z1f (pv 0) z0q (z0n _)) (z0f (z0l (z0m (z2m rfl) (by rfl) zmin boot_min (z0a (pv 1) (z0a (pv 2) z0c))))) z0k) (z0d (z0y (z0i z1f (pv 0) z0q (z0n _)) (z0f (z0l (z3g (z0i z3l (pv 1) (pv 2) (z0n _)) z0e z0e))) z0k) (z0d (z0y (z0i z1f (pv 0) z0q (z0n _)) (z0f (z0l (z3g (z0i z1f (pv 1) (pv 2) (z0n _)) z0e z0e))) z0k) (z0d (z0y (z0i z1f (pv 0) z0q (z0n _)) (z0f (z0l (z0t op_and (pv 1) (pv 2)))) z0k) (z0d (z0y (z0i z1f (pv 0) z0q (z0n _)) (z0f (z0l (z0t op_or (pv 1) (pv 2)))) z0k) (z0d (z0y (z0i z1f (pv 0) z0q (z0n _)) (z0f (z0l (z0t op_xor (pv 1) (pv 2)))) z0k) (z0f (z1r PySem.F.excBase_ValueError rfl (by rfl) nNoWord xNoWord z1y (z0a (pe_fR z0q (pv 0)) z0c))))))))))))))), ?_⟩
  wp_walk using tSeq, tIfS, spwrapped, spquotient, spremainder
  unfold twiceI at q1
  have hm : (-18446744073709551616 < x /\ x < 18446744073709551616 \/ -18446744073709551616 < y /\ y < 18446744073709551616) := by
    unfold inB at hx; omega
  by_cases c0 : wd = Str.ofString "add"
  · have q := q1 (by rw [c0]; simp [two12])
    rw [if_pos c0]
    rw [if_pos c0] at q
    exact q
  rw [if_neg c0] at q1 ⊢
  by_cases c1 : wd = Str.ofString "sub"
  · have q := q1 (by rw [c1]; simp [two12])
    rw [if_pos c1]
    rw [if_pos c1] at q
    exact q
  rw [if_neg c1] at q1 ⊢
  by_cases c2 : wd = Str.ofString "mul"
  · have q := q1 (by rw [c2]; simp [two12])
    rw [if_pos c2]
    rw [if_pos c2] at q
    exact ⟨hm, q⟩
  rw [if_neg c2] at q1 ⊢
  by_cases c3 : wd = Str.ofString "quo"
  · have q := q1 (by rw [c3]; simp [two12])
    rw [if_pos c3]
    rw [if_pos c3] at q
    exact ⟨hx, hy, q⟩
  rw [if_neg c3] at q1 ⊢
  by_cases c4 : wd = Str.ofString "rest"
  · have q := q1 (by rw [c4]; simp [two12])
    rw [if_pos c4]
    rw [if_pos c4] at q
    exact q
  rw [if_neg c4] at q1 ⊢
  by_cases c5 : wd = Str.ofString "max"
  · have q := q1 (by rw [c5]; simp [two12])
    rw [if_pos c5]
    rw [if_pos c5] at q
    exact q
  rw [if_neg c5] at q1 ⊢
  by_cases c6 : wd = Str.ofString "min"
  · have q := q1 (by rw [c6]; simp [two12])
    rw [if_pos c6]
    rw [if_pos c6] at q
    exact q
  rw [if_neg c6] at q1 ⊢
  by_cases c7 : wd = Str.ofString "less"
  · have q := q1 (by rw [c7]; simp [two12])
    rw [if_pos c7]
    rw [if_pos c7] at q
    split <;> (split at q <;> first | exact q | contradiction)
  rw [if_neg c7] at q1 ⊢
  by_cases c8 : wd = Str.ofString "like"
  · have q := q1 (by rw [c8]; simp [two12])
    rw [if_pos c8]
    rw [if_pos c8] at q
    split <;> (split at q <;> first | exact q | contradiction)
  rw [if_neg c8] at q1 ⊢
  by_cases c9 : wd = Str.ofString "and"
  · have q := q1 (by rw [c9]; simp [two12])
    rw [if_pos c9]
    rw [if_pos c9] at q
    exact q
  rw [if_neg c9] at q1 ⊢
  by_cases c10 : wd = Str.ofString "or"
  · have q := q1 (by rw [c10]; simp [two12])
    rw [if_pos c10]
    rw [if_pos c10] at q
    exact q
  rw [if_neg c10] at q1 ⊢
  by_cases c11 : wd = Str.ofString "xor"
  · have q := q1 (by rw [c11]; simp [two12])
    rw [if_pos c11]
    exact q
  rw [if_neg c11]
  exact ⟨⟨by decide +kernel, by decide +kernel⟩, ok, fun z => ⟨small (by decide), q2 (by simp only [two12, List.mem_cons, List.not_mem_nil, or_false, not_or]; exact ⟨c0, c1, c2, c3, c4, c5, c6, c7, c8, c9, c10, c11⟩)⟩⟩
abbrev sneutral : Stmt := top 17
theorem scneutral : FnScope ["word"] ["word"] (defScope sneutral) := ⟨rfl, rfl, rfl, by decide +kernel, rfl, by decide +kernel, by decide +kernel⟩
theorem okneutral (F : Fun K "neutral" "neutral" sneutral f fd) {CNoWord : Addr} (nNoWord : PySem.W.nsIn K mainGlobals "NoWord" = some (some (.ref CNoWord))) {tLOW : Tok} (gLOW : mg "LOW" = some (.int (-9223372036854775808) tLOW)) {tHIGH : Tok} (gHIGH : mg "HIGH" = some (.int 9223372036854775807 tHIGH)) (xNoWord : PySem.W.excIn K CNoWord [.type "ValueError", .type "Exception", .type "BaseException", .type "object"] "ValueError.__new__" = true) : FnOk P w K mg base (CX1 P w) (1) f fd ["word"] ((spneutral CNoWord)) := by
  have sc := scneutral
  refine F.okX sc (fun vs H Q E h => ?_) (fun cdv A outer s H vs Q E hr h => ?_)
  · obtain ⟨w, rfl, _⟩ := h; rfl
  obtain ⟨wd, rfl, ok, q1, q2⟩ := h
  refine ⟨_, (z0d (z0y (z0i op_inT (pv 0) (z0w (z0a z0q (z0a z0q (z0a z0q z0c)))) rfl) (z0f (z0l z0e)) z0k) (z0d (z0y (z0i z1f (pv 0) z0q (z0n _)) (z0f (z0l z0e)) z0k) (z0d (z0y (z0i z1f (pv 0) z0q (z0n _)) (z0f (z0l (z3c (v := .int (-9223372036854775808)) (by rfl) gLOW ⟨_, rfl⟩))) z0k) (z0d (z0y (z0i z1f (pv 0) z0q (z0n _)) (z0f (z0l (z3c (v := .int 9223372036854775807) (by rfl) gHIGH ⟨_, rfl⟩))) z0k) (z0d (z0y (z0i z1f (pv 0) z0q (z0n _)) (z0f (z0l (pe_un un_neg z0e))) z0k) (z0f (z1r PySem.F.excBase_ValueError rfl (by rfl) nNoWord xNoWord z1y (z0a (pe_fR z0q (pv 0)) z0c)))))))), ?_⟩
  wp_walk using tSeq, tIfS
  refine ⟨small (by decide), fun p hp => ?_⟩
  have s1 := z0b hp (.tup [V.str (Str.ofString "add"), V.str (Str.ofString "or"), V.str (Str.ofString "xor")])
  generalize upd H p (.tup [V.str (Str.ofString "add"), V.str (Str.ofString "or"), V.str (Str.ofString "xor")]) = H1 at *
  by_cases t : Str.ofString "add" = wd \/ Str.ofString "or" = wd \/ Str.ofString "xor" = wd
  · rw [if_pos t]
    rcases t with t | t | t <;> subst t
    · have q := q1 (by simp [isF, fw]) _ s1; rw [ne_add] at q; exact q
    · have q := q1 (by simp [isF, fw]) _ s1; rw [ne_or] at q; exact q
    · have q := q1 (by simp [isF, fw]) _ s1; rw [ne_xor] at q; exact q
  rw [if_neg t]
  by_cases c0 : wd = Str.ofString "mul"
  · rw [if_pos c0]; subst c0
    have q := q1 (by simp [isF, fw]) _ s1; rw [ne_mul] at q; exact q
  rw [if_neg c0]
  by_cases c1 : wd = Str.ofString "max"
  · rw [if_pos c1]; subst c1
    have q := q1 (by simp [isF, fw]) _ s1; rw [ne_max] at q; exact q
  rw [if_neg c1]
  by_cases c2 : wd = Str.ofString "min"
  · rw [if_pos c2]; subst c2
    have q := q1 (by simp [isF, fw]) _ s1; rw [ne_min] at q; exact q
  rw [if_neg c2]
  by_cases c3 : wd = Str.ofString "and"
  · rw [if_pos c3]; subst c3
    have q := q1 (by simp [isF, fw]) _ s1; rw [ne_and] at q; exact q
  rw [if_neg c3]
  exact ⟨⟨by decide +kernel, by decide +kernel⟩, ok, fun z => ⟨small (by decide), q2 (by
    unfold isF
    simp only [fw, List.mem_cons, List.not_mem_nil, or_false, not_or]
    exact ⟨fun z => t (.inl z.symm), c0, c1, c2, c3, fun z => t (.inr (.inl z.symm)), fun z => t (.inr (.inr z.symm))⟩) _ s1⟩⟩
abbrev sargplaces : Stmt := top 22
def spargplaces : Sp := fun vs H Q _ => ∃ i : Nat, i < 15 /\ vs = [.str (kindS i)] /\ ∀ H' p, Same H H' -> H' p = some (.lst ((argsP i).map V.int)) -> Q (.ref p) H'
theorem scargplaces : FnScope ["form"] ["form"] (defScope sargplaces) := ⟨rfl, rfl, rfl, by decide +kernel, rfl, by decide +kernel, by decide +kernel⟩
theorem okargplaces (F : Fun K "arg_places" "arg_places" sargplaces f fd) {dPARTS : Addr} (gPARTS : mg "PARTS" = some (.ref dPARTS)) (TP : PartsOk P w K dPARTS) : FnOk P w K mg base CX0 (1) f fd ["form"] (spargplaces) := by
  have sc := scargplaces
  refine F.ok sc (fun vs H Q E h => ?_) (fun cdv A outer s H vs Q E hr h => ?_)
  · obtain ⟨i, _, rfl, _⟩ := h; rfl
  obtain ⟨kvs, TK, TF⟩ := TP
  obtain ⟨i, hi, rfl, q⟩ := h
  refine ⟨_, (z0f (z0l (pe_compI0 (own := ["kind", "place"]) rfl (z3s (pe_ktab (by rfl) gPARTS TK (pv 0) (fun _ _ => rfl))) (by decide) (by decide) rfl (by decide) (fun _ _ _ _ => (pg_tupK (K := K) (n := 2) rfl (pg_tup rfl (z3t (z1h (i := 0) (show (["kind", "place"] : List Str).Nodup by decide +kernel) rfl (Or.inl rfl)) (z3t (z1h (i := 1) (show (["kind", "place"] : List Str).Nodup by decide +kernel) rfl (Or.inl rfl)) pgs_nil))))) (fun _ _ _ _ => (pv 1)) (fun _ _ _ _ => (z0i z1f (pv 0) z0q (z0n _)))))), ?_⟩
  wp_walk using tSeq, tIfS
  obtain ⟨a, xs, e1, e2, e3⟩ := parts_look TF (forms_at hi)
  refine ⟨a, e1, ?_⟩
  have lf := forms_len (i := i)
  unfold argsP at q
  generalize (formsL.getD i ("", [])).snd = fs at *
  obtain ⟨l3, at3⟩ := items_at e3
  refine CompTI.mk (xs := xs) e2.sq (fun j ys σ H' => H' = H /\ ys = (placesF (fs.take j)).map V.int /\ ∃ y0 y1, σ = [y0, y1]) ⟨rfl, rfl, _, _, rfl⟩ (fun j ys σ H' hj h => ⟨e2.sq, ?_⟩) (fun j x ys σ H' e h => ?_) (fun ys σ H' h p hp => ?_)
  · rw [h.2.1, List.length_map]
    have := places_len (fs.take j)
    have := List.length_take_le j fs
    exact z1b (by omega)
  · obtain ⟨rfl, rfl, y0, y1, rfl⟩ := h
    obtain ⟨f, b, ef, rfl, kb⟩ := at3 e
    have pl := places_snoc ef
    wp_walk using tSeq, tIfS
    refine ⟨_, kb.sq, rfl, _, _, rfl, _, _, rfl, rfl, ?_⟩
    rw [pl]
    by_cases c : f.1 = ("step" : Str)
    · wp_walk using tSeq, tIfS, if_pos c, List.map_append
      exact ⟨_, rfl⟩
    · wp_walk using tSeq, tIfS, if_neg c
      exact ⟨_, rfl⟩
  · obtain ⟨rfl, rfl, y0, y1, rfl⟩ := h
    rw [l3, List.take_length]
    exact q _ _ (z0b hp _) z0g
abbrev sargsof : Stmt := top 23
def spargsof : Sp := fun vs H Q _ => ∃ (a : Addr) (i : Nat) (xs : List V), i < 15 /\ vs = [.ref a] /\ H a = some (.tup xs) /\ xs[0]? = some (.str (kindS i)) /\ (∀ p ∈ argsP i, 0 ≤ p /\ p < xs.length) /\ ∀ H' p, Same H H' -> H' p = some (.tup (getAll xs (argsP i))) -> Q (.ref p) H'
theorem scargsof : FnScope ["step"] ["step"] (defScope sargsof) := ⟨rfl, rfl, rfl, by decide +kernel, rfl, by decide +kernel, by decide +kernel⟩
theorem okargsof (F : Fun K "args_of" "args_of" sargsof f fd) (cargplaces : Callee P w K mg base CX0 (1) "arg_places" ["form"] spargplaces) (ztuple : mg "tuple" = none) : FnOk P w K mg base CX0 (2) f fd ["step"] (spargsof) := by
  have sc := scargsof
  refine F.ok sc (fun vs H Q E h => ?_) (fun cdv A outer s H vs Q E hr h => ?_)
  · obtain ⟨a, i, xs, _, rfl, _⟩ := h; rfl
  obtain ⟨a, i, xs, hi, rfl, ha, h0, hp, q⟩ := h
  refine ⟨_, (z0f (z0l (z1i z1m (by rfl) ztuple boot_tuple (z0a (z3d (own := ["place"]) (fv := ["step"]) (js := [0]) rfl (z2p (z0r cargplaces hr (by rfl) z1l (z0a (z0u z0v (pv 0) z0e (fun _ _ => rfl)) z0c))) rfl (by decide) rfl (by decide) (by first | exact fun _ _ h => h | exact z2h rfl | exact z2g rfl rfl | exact z2f rfl rfl rfl) (z2r (by rfl)) rfl (cap1 (by first | exact ⟨rfl, .inl rfl, .inl rfl⟩ | exact ⟨rfl, .inl rfl, .inr rfl⟩)) (fun _ _ _ _ => (z1h (i := 0) (show (["place", "step"] : List Str).Nodup by decide +kernel) rfl (Or.inl rfl))) (fun _ _ _ _ => (z0u z0v (pv 1) (pv 0) (fun _ _ => rfl)))) z0c)))), ?_⟩
  wp_walk using tSeq, tIfS, spargplaces
  refine ⟨xs, ha, _, z0p h0, i, hi, rfl, fun H1 p1 s1 h1 => ?_⟩
  refine CompL.mk (xs := (argsP i).map V.int) (.of h1) (fun j ys σ H' => H' = H1 /\ ys = (getAll xs (argsP i)).take j /\ ∃ y0, σ = [y0, some (.ref a)]) ⟨rfl, rfl, _, rfl⟩ (fun j ys σ H' _ h => by rw [h.1]; exact .of h1) (fun j x ys σ H' e h => ?_) (fun ys σ H' h p hp2 => ?_)
  · obtain ⟨rfl, rfl, y0, rfl⟩ := h
    obtain ⟨m, hm, rfl⟩ := getmap e
    obtain ⟨p0, p1⟩ := hp m (List.mem_of_getElem? hm)
    have ge := args_few i
    have jl : j < (argsP i).length := (List.getElem?_eq_some_iff.mp hm).1
    refine ⟨by have := List.length_take_le j (getAll xs (argsP i)); exact z1b (by omega), ?_⟩
    wp_walk using tSeq, tIfS
    obtain ⟨v, hv⟩ : ∃ v, atI xs m = some v := at_some p0 p1
    refine ⟨_, s1 _ _ ha, _, hv, ?_⟩
    refine ⟨?_, _, rfl⟩
    rw [List.take_add_one]
    congr 1
    unfold getAll
    rw [List.getElem?_map, hm]
    show [v] = [(atI xs m).getD .non]
    rw [hv]; rfl
  · obtain ⟨rfl, rfl, y0, rfl⟩ := h
    rw [List.take_of_length_le (by unfold getAll; simp)]
    refine ⟨p, rfl, _, .inl ⟨.of z0g, fun l hl => q _ _ (s1.trans ((z0b hp2 _).trans (z0b hl _))) z0g⟩⟩
abbrev saskword : Stmt := top 48
theorem scaskword : FnScope ["step"] ["step"] (defScope saskword) := ⟨rfl, rfl, rfl, by decide +kernel, rfl, by decide +kernel, by decide +kernel⟩
theorem okaskword (F : Fun K "ask_word" "ask_word" saskword f fd) {CNoWord : Addr} (nNoWord : PySem.W.nsIn K mainGlobals "NoWord" = some (some (.ref CNoWord))) (conce : Callee P w K mg base (CX1 P w) (3) "once" ["word", "x"] (sponceX CNoWord)) (ctwice : Callee P w K mg base (CX1 P w) (3) "twice" ["word", "x", "y"] (sptwiceX CNoWord)) (cneutral : Callee P w K mg base (CX1 P w) (3) "neutral" ["word"] (spneutral CNoWord)) : FnOk P w K mg base (CX1 P w) (4) f fd ["step"] (spaskw) := by
  have sc := scaskword
  refine F.okX sc (fun vs H Q E h => ?_) (fun cdv A outer s H vs Q E hr h => ?_)
  · obtain ⟨p, d, rfl, _⟩ := h; rfl
  obtain ⟨p, d, rfl, hst, ok, q⟩ := h
  refine ⟨_, (z0d (z0y (z0i z1f (z0u z0v (pv 0) z0e (fun _ _ => rfl)) z0q (z0n _)) (z0f (z1w (z0r conce hr (by rfl) z1d (z0a (z0u z0v (pv 0) z0e (fun _ _ => rfl)) (z0a z0e z0c))))) z0k) (z0d (z0y (z0i z1f (z0u z0v (pv 0) z0e (fun _ _ => rfl)) z0q (z0n _)) (z0f (z1w (z0r ctwice hr (by rfl) z1d (z0a (z0u z0v (pv 0) z0e (fun _ _ => rfl)) (z0a z0e (z0a z0e z0c)))))) z0k) (z0f (z0y (z0i op_inT (z0u z0v (pv 0) z0e (fun _ _ => rfl)) (z0w (z0a z0q (z0a z0q z0c))) rfl) (z0f (z1w (z0r cneutral hr (by rfl) z1d (z0a (z0u z0v (pv 0) z0e (fun _ _ => rfl)) z0c)))) z0k)))), ?_⟩
  simp only [L2.start, List.length_cons, List.length_nil, List.replicate, List.cons_append, List.nil_append, Nat.reduceSub, Nat.reduceAdd, List.map_cons, List.map_nil]
  obtain ⟨xs, hp, h0, _, _⟩ := z3n hst
  refine z0h (fun σ G => G = H /\ σ = [some (.ref p)]) ?_ (fun R hR => ?_)
  rotate_left
  · wp_walk using tSeq, tIfS, sponceX
    by_cases c : kdN d = 3
    · obtain ⟨w, a, rfl⟩ := inv_at.2.2.1 c
      refine ⟨_, hst, _, z0p (j := 0) rfl, rfl, ?_⟩
      rw [if_pos rfl]
      exact ⟨_, hst, _, z0p (j := 1) rfl, w, rfl, ok4 ok, fun _ => hR _ _ ⟨rfl, rfl⟩, fun z => absurd ok z⟩
    · refine ⟨_, hp, _, z0p (j := 0) h0, rfl, ?_⟩
      rw [if_neg (show ¬ V.str (kindS (kdN d)) = V.str (Str.ofString "each") from kd_no 3 (z2u d) (by decide) c)]
      exact hR _ _ ⟨rfl, rfl⟩
  rintro σ1 G1 ⟨rfl, rfl⟩
  refine z0h (fun σ G => G = G1 /\ σ = [some (.ref p)]) ?_ (fun R hR => ?_)
  rotate_left
  · wp_walk using tSeq, tIfS, sptwiceX
    by_cases c : kdN d = 4
    · obtain ⟨w, a, b, rfl⟩ := inv_at.2.2.2.1 c
      refine ⟨_, hst, _, z0p (j := 0) rfl, rfl, ?_⟩
      rw [if_pos rfl]
      exact ⟨_, hst, _, z0p (j := 1) rfl, w, rfl, ok12 ok, ⟨by decide, by decide⟩, ⟨by decide, by decide⟩, fun _ => hR _ _ ⟨rfl, rfl⟩, fun z => absurd ok z⟩
    · refine ⟨_, hp, _, z0p (j := 0) h0, rfl, ?_⟩
      rw [if_neg (show ¬ V.str (kindS (kdN d)) = V.str (Str.ofString "pair") from kd_no 4 (z2u d) (by decide) c)]
      exact hR _ _ ⟨rfl, rfl⟩
  rintro σ2 G2 ⟨rfl, rfl⟩
  wp_walk using tSeq, tIfS, spneutral
  refine ⟨_, hp, _, z0p (j := 0) h0, small (by decide), fun t ht => ⟨rfl, ?_⟩⟩
  by_cases c13 : kdN d = 13
  · rw [if_pos (.inl (show (Str.ofString "fold" == kindS (kdN d)) = true by rw [c13]; decide +kernel))]
    obtain ⟨w, a, sd, rfl⟩ := inv_at.2.2.2.2.2.2.2.2.2.2.2.1 c13
    exact ⟨_, z0b ht _ _ _ hst, _, z0p (j := 1) rfl, w, rfl, ok7 ok, fun _ G u => q _ ((z0b ht _).trans u), fun z => absurd ok z⟩
  by_cases c14 : kdN d = 14
  · rw [if_pos (.inr (show (Str.ofString "run" == kindS (kdN d)) = true by rw [c14]; decide +kernel))]
    obtain ⟨w, a, sd, rfl⟩ := inv_at.2.2.2.2.2.2.2.2.2.2.2.2 c14
    exact ⟨_, z0b ht _ _ _ hst, _, z0p (j := 1) rfl, w, rfl, ok7 ok, fun _ G u => q _ ((z0b ht _).trans u), fun z => absurd ok z⟩
  rw [if_neg (fun z => z.elim (fun z => z2z 13 (z2u d) (by decide) c13 (eq_of_beq (show (Str.ofString "fold" == kindS (kdN d)) = true from z)).symm) (fun z => z2z 14 (z2u d) (by decide) c14 (eq_of_beq (show (Str.ofString "run" == kindS (kdN d)) = true from z)).symm))]
  exact q _ (z0b ht _)
abbrev sfirstsides : Stmt := top 49
theorem scfirstsides : FnScope ["step"] ["step"] (defScope sfirstsides) := ⟨rfl, rfl, rfl, by decide +kernel, rfl, by decide +kernel, by decide +kernel⟩
theorem okfirstsides (F : Fun K "first_sides" "first_sides" sfirstsides f fd) {CTooLarge : Addr} (nTooLarge : PySem.W.nsIn K mainGlobals "TooLarge" = some (some (.ref CTooLarge))) {CNoSide : Addr} (nNoSide : PySem.W.nsIn K mainGlobals "NoSide" = some (some (.ref CNoSide))) (callowed : Callee P w K mg base (CX1 P w) (4) "allowed" ["sides"] (spallowed CTooLarge)) (ccountedsides : Callee P w K mg base (CX1 P w) (4) "counted_sides" ["sides", "side"] (spcnt CTooLarge CNoSide)) : FnOk P w K mg base (CX1 P w) (5) f fd ["step"] (spfirst) := by
  have sc := scfirstsides
  refine F.okX sc (fun vs H Q E h => ?_) (fun cdv A outer s H vs Q E hr h => ?_)
  · obtain ⟨p, d, S, Ss, rfl, _⟩ := h; rfl
  obtain ⟨p, d, S, Ss, rfl, hst, k3, ok, fs, q⟩ := h
  refine ⟨_, (z0d (z0y (z0i z1f (z0u z0v (pv 0) z0e (fun _ _ => rfl)) z0q (z0n _)) (z0f (z0l (z0r callowed hr (by rfl) z1d (z0a (z0u z0v (pv 0) z0e (fun _ _ => rfl)) z0c)))) z0k) (z0d (z0y (z0i z1f (z0u z0v (pv 0) z0e (fun _ _ => rfl)) z0q (z0n _)) (z0f (z0l (z0r ccountedsides hr (by rfl) z1d (z0a (z0u z0v (pv 0) z0e (fun _ _ => rfl)) (z0a (z0u z0v (pv 0) z0e (fun _ _ => rfl)) z0c))))) z0k) (z0f (z0l (z0w z0c))))), ?_⟩
  simp only [L2.start, List.length_cons, List.length_nil, List.replicate, List.cons_append, List.nil_append, Nat.reduceSub, Nat.reduceAdd, List.map_cons, List.map_nil]
  obtain ⟨xs, hp, h0, _, _⟩ := z3n hst
  have sd := fit_sdk fs
  have s6 := fs.2.1
  refine z0h (fun σ G => G = H /\ ¬ kdN d = 0 /\ σ = [some (.ref p)]) ?_ (fun R hR => ?_)
  rotate_left
  · wp_walk using tSeq, tIfS, spallowed
    by_cases c : kdN d = 0
    · obtain ⟨ms, rfl⟩ := inv_at.1 c
      obtain ⟨b, hp, hb⟩ := hst
      obtain ⟨rfl, nb⟩ := ok
      refine ⟨_, hp, _, z0p (j := 0) rfl, rfl, ?_⟩
      rw [if_pos rfl]
      exact ⟨_, hp, _, z0p (j := 1) rfl, b, rfl, S, hb, sd, by omega, fun z => absurd z nb, fun _ G u => q _ b u (u _ _ hb)⟩
    · refine ⟨_, hp, _, z0p (j := 0) h0, rfl, ?_⟩
      rw [if_neg (show ¬ V.str (kindS (kdN d)) = V.str (Str.ofString "in") from kd_no 0 (z2u d) (by decide) c)]
      exact hR _ _ ⟨rfl, c, rfl⟩
  rintro σ1 G1 ⟨rfl, c0, rfl⟩
  refine z0h (fun σ G => G = G1 /\ ¬ kdN d = 2 /\ σ = [some (.ref p)]) ?_ (fun R hR => ?_)
  rotate_left
  · wp_walk using tSeq, tIfS, spcnt
    by_cases c : kdN d = 2
    · obtain ⟨ms, k, rfl⟩ := inv_at.2.1 c
      obtain ⟨b, hp, hb⟩ := hst
      obtain ⟨rfl, nb, no⟩ := ok
      refine ⟨_, hp, _, z0p (j := 0) rfl, rfl, ?_⟩
      rw [if_pos rfl]
      exact ⟨_, hp, _, z0p (j := 1) rfl, _, hp, _, z0p (j := 2) rfl, b, rfl, S, k, rfl, hb, sd, by omega, fun z => absurd z nb, fun _ z => absurd z no, fun _ _ G u => q _ b u (u _ _ hb)⟩
    · refine ⟨_, hp, _, z0p (j := 0) h0, rfl, ?_⟩
      rw [if_neg (show ¬ V.str (kindS (kdN d)) = V.str (Str.ofString "count") from kd_no 2 (z2u d) (by decide) c)]
      exact hR _ _ ⟨rfl, c, rfl⟩
  rintro σ2 G2 ⟨rfl, c2, rfl⟩
  have e : S = [] := by
    cases d with
    | num n => exact ok
    | inp ms => exact absurd rfl c0
    | count ms k => exact absurd rfl c2
    | _ => exact absurd k3 (of_decide_eq_false rfl)
  wp_walk using tSeq, tIfS
  exact ⟨Nat.zero_le _, fun p0 hp0 => q _ p0 (z0b hp0 _) (by rw [e]; exact z0g)⟩
abbrev smovedsides : Stmt := top 50
theorem scmovedsides : FnScope ["step", "sides", "form"] ["step", "sides"] (defScope smovedsides) := ⟨rfl, rfl, rfl, by decide +kernel, rfl, by decide +kernel, by decide +kernel⟩
theorem okmovedsides (F : Fun K "moved_sides" "moved_sides" smovedsides f fd) {CNoSide : Addr} (nNoSide : PySem.W.nsIn K mainGlobals "NoSide" = some (some (.ref CNoSide))) {CBeyond : Addr} (nBeyond : PySem.W.nsIn K mainGlobals "Beyond" = some (some (.ref CBeyond))) {CTooLarge : Addr} (nTooLarge : PySem.W.nsIn K mainGlobals "TooLarge" = some (some (.ref CTooLarge))) {CUnlike : Addr} (nUnlike : PySem.W.nsIn K mainGlobals "Unlike" = some (some (.ref CUnlike))) (cturnedsides : Callee P w K mg base (CX1 P w) (4) "turned_sides" ["sides", "order"] (spturnP CNoSide)) (cflippedsides : Callee P w K mg base (CX1 P w) (4) "flipped_sides" ["sides", "side"] (spflip CNoSide)) (ccutsides : Callee P w K mg base (CX1 P w) (4) "cut_sides" ["sides", "side", "first", "many", "step"] (spcut CNoSide CBeyond)) (cspreadsides : Callee P w K mg base (CX1 P w) (4) "spread_sides" ["sides", "side", "many"] (spspr CNoSide CBeyond CTooLarge)) (claidsides : Callee P w K mg base (CX1 P w) (4) "laid_sides" ["sides", "others"] (splaid CTooLarge CUnlike)) (cfoldedsides : Callee P w K mg base (CX1 P w) (4) "folded_sides" ["sides", "side"] (spfolded CNoSide)) : FnOk P w K mg base (CX1 P w) (5) f fd ["step", "sides"] (spmv) := by
  have sc := scmovedsides
  refine F.okX sc (fun vs H Q E h => ?_) (fun cdv A outer s H vs Q E hr h => ?_)
  · obtain ⟨p, o, d, S, A, Ss, a, rfl, _⟩ := h; rfl
  obtain ⟨p, o, d, S, A, Ss, a, rfl, hst, ha, ea, ho, fA, ok, fs, q⟩ := h
  refine ⟨_, (z0d (z0z (i := 2) sc.nd rfl (by first | exact Or.inl rfl | exact Or.inr rfl) (z0u z0v (pv 0) z0e (fun _ _ => rfl))) (z0d (z0y (z0i z1f (pv 2) z0q (z0n _)) (z0f (z0l (z0r cturnedsides hr (by rfl) z1d (z0a (pv 1) (z0a (z0u z0v (pv 0) z0e (fun _ _ => rfl)) z0c))))) z0k) (z0d (z0y (z0i z1f (pv 2) z0q (z0n _)) (z0f (z0l (z0r cflippedsides hr (by rfl) z1d (z0a (pv 1) (z0a (z0u z0v (pv 0) z0e (fun _ _ => rfl)) z0c))))) z0k) (z0d (z0y (z0i z1f (pv 2) z0q (z0n _)) (z0f (z0l (z0r ccutsides hr (by rfl) z1d (z0a (pv 1) (z0a (z0u z0v (pv 0) z0e (fun _ _ => rfl)) (z0a (z0u z0v (pv 0) z0e (fun _ _ => rfl)) (z0a (z0u z0v (pv 0) z0e (fun _ _ => rfl)) (z0a (z0u z0v (pv 0) z0e (fun _ _ => rfl)) z0c)))))))) z0k) (z0d (z0y (z0i z1f (pv 2) z0q (z0n _)) (z0f (z0l (z0r cspreadsides hr (by rfl) z1d (z0a (pv 1) (z0a (z0u z0v (pv 0) z0e (fun _ _ => rfl)) (z0a (z0u z0v (pv 0) z0e (fun _ _ => rfl)) z0c)))))) z0k) (z0d (z0y (z0i z1f (pv 2) z0q (z0n _)) (z0f (z0l (z0r claidsides hr (by rfl) z1d (z0a (pv 1) (z0a (z0u z0v (pv 0) z0e (fun _ _ => rfl)) z0c))))) z0k) (z0d (z0y (z0i z1f (pv 2) z0q (z0n _)) (z0f (z0l (z0r cfoldedsides hr (by rfl) z1d (z0a (pv 1) (z0a (z0u z0v (pv 0) z0e (fun _ _ => rfl)) z0c))))) z0k) (z0d (z0y (z0i z1f (pv 2) z0q (z0n _)) (z0f (z0l (z0r cflippedsides hr (by rfl) z1d (z0a (pv 1) (z0a (z0u z0v (pv 0) z0e (fun _ _ => rfl)) z0c))))) z0k) (z0f (z0l (pv 1))))))))))), ?_⟩
  simp only [L2.start, List.length_cons, List.length_nil, List.replicate, List.cons_append, List.nil_append, Nat.reduceSub, Nat.reduceAdd, List.map_cons, List.map_nil]
  obtain ⟨xs, hp, h0, _, _⟩ := z3n hst
  have sd := fit_sdk fs
  have sdA := fit_sdk fA
  have s6 := fs.2.1
  have a6 := fA.2.1
  refine z0h (fun σ G => G = H /\ σ = [some (.ref p), some (.ref o), some (.str (kindS (kdN d)))]) ?_ (fun R hR => ?_)
  rotate_left
  · wp_walk using tSeq, tIfS
    exact ⟨_, hp, _, z0p (j := 0) h0, hR _ _ ⟨rfl, rfl⟩⟩
  rintro σ0 G0 ⟨rfl, rfl⟩
  refine z0h (fun σ G => G = G0 /\ ¬ kdN d = 6 /\ σ = [some (.ref p), some (.ref o), some (.str (kindS (kdN d)))]) ?_ (fun R hR => ?_)
  rotate_left
  · wp_walk using tSeq, tIfS, spturnP
    by_cases c : kdN d = 6
    rotate_left
    · rw [if_neg (show ¬ kindS (kdN d) = Str.ofString "turn" from z2z 6 (z2u d) (by decide) c)]
      exact hR _ _ ⟨rfl, c, rfl⟩
    rw [if_pos (show kindS (kdN d) = Str.ofString "turn" by rw [c]; rfl)]
    obtain ⟨a', os, rfl⟩ := inv_at.2.2.2.2.1 c
    cases ha
    obtain ⟨A', ea', tk, rfl⟩ := ok
    cases ea'.symm.trans ea
    obtain ⟨b, hp, hb⟩ := hst
    exact ⟨_, hp, _, z0p (j := 2) rfl, b, rfl, A, ho, os, hb, by omega, by rw [tk.length_eq, up_len]; omega, fun z => absurd tk z, fun _ G r u h => q _ r u h⟩
  rintro σ6 G6 ⟨rfl, c6, rfl⟩
  refine z0h (fun σ G => G = G6 /\ ¬ kdN d = 7 /\ σ = [some (.ref p), some (.ref o), some (.str (kindS (kdN d)))]) ?_ (fun R hR => ?_)
  rotate_left
  · wp_walk using tSeq, tIfS, spflip
    by_cases c : kdN d = 7
    rotate_left
    · rw [if_neg (show ¬ kindS (kdN d) = Str.ofString "flip" from z2z 7 (z2u d) (by decide) c)]
      exact hR _ _ ⟨rfl, c, rfl⟩
    rw [if_pos (show kindS (kdN d) = Str.ofString "flip" by rw [c]; rfl)]
    obtain ⟨a', s, rfl⟩ := inv_at.2.2.2.2.2.1 c
    cases ha
    obtain ⟨ea', no⟩ := ok
    cases ea'.symm.trans ea
    exact ⟨_, hst, _, z0p (j := 2) rfl, S, s, rfl, ho, fun z => absurd z no, fun _ => q _ o (Same.refl _) ho⟩
  rintro σ7 G7 ⟨rfl, c7, rfl⟩
  refine z0h (fun σ G => G = G7 /\ ¬ kdN d = 8 /\ σ = [some (.ref p), some (.ref o), some (.str (kindS (kdN d)))]) ?_ (fun R hR => ?_)
  rotate_left
  · wp_walk using tSeq, tIfS, spcut
    by_cases c : kdN d = 8
    rotate_left
    · rw [if_neg (show ¬ kindS (kdN d) = Str.ofString "cut" from z2z 8 (z2u d) (by decide) c)]
      exact hR _ _ ⟨rfl, c, rfl⟩
    rw [if_pos (show kindS (kdN d) = Str.ofString "cut" by rw [c]; rfl)]
    obtain ⟨a', s, f, m, g, rfl⟩ := inv_at.2.2.2.2.2.2.1 c
    cases ha
    obtain ⟨A', ea', no, nb, m5, rfl⟩ := ok
    cases ea'.symm.trans ea
    exact ⟨_, hst, _, z0p (j := 2) rfl, _, hst, _, z0p (j := 3) rfl, _, hst, _, z0p (j := 4) rfl, _, hst, _, z0p (j := 5) rfl, A, s, rfl, f, rfl, m, rfl, g, rfl, ho, by omega, by unfold bad at nb; omega, by omega, fun z => absurd z no, fun _ z => absurd z nb, fun _ _ G r u h => q _ r u h⟩
  rintro σ8 G8 ⟨rfl, c8, rfl⟩
  refine z0h (fun σ G => G = G8 /\ ¬ kdN d = 9 /\ σ = [some (.ref p), some (.ref o), some (.str (kindS (kdN d)))]) ?_ (fun R hR => ?_)
  rotate_left
  · wp_walk using tSeq, tIfS, spspr
    by_cases c : kdN d = 9
    rotate_left
    · rw [if_neg (show ¬ kindS (kdN d) = Str.ofString "spread" from z2z 9 (z2u d) (by decide) c)]
      exact hR _ _ ⟨rfl, c, rfl⟩
    rw [if_pos (show kindS (kdN d) = Str.ofString "spread" by rw [c]; rfl)]
    obtain ⟨a', s, m, rfl⟩ := inv_at.2.2.2.2.2.2.2.1 c
    cases ha
    obtain ⟨A', ea', no, nm, m5, nb, rfl⟩ := ok
    cases ea'.symm.trans ea
    exact ⟨_, hst, _, z0p (j := 2) rfl, _, hst, _, z0p (j := 3) rfl, A, s, rfl, m, rfl, ho, sdA, by omega, by omega, fun z => absurd z no, fun _ z => absurd z nm, fun _ _ z => absurd z nb, fun _ _ _ G r u h => q _ r u h⟩
  rintro σ9 G9 ⟨rfl, c9, rfl⟩
  refine z0h (fun σ G => G = G9 /\ ¬ kdN d = 10 /\ σ = [some (.ref p), some (.ref o), some (.str (kindS (kdN d)))]) ?_ (fun R hR => ?_)
  rotate_left
  · wp_walk using tSeq, tIfS, splaid
    by_cases c : kdN d = 10
    rotate_left
    · rw [if_neg (show ¬ kindS (kdN d) = Str.ofString "lay" from z2z 10 (z2u d) (by decide) c)]
      exact hR _ _ ⟨rfl, c, rfl⟩
    rw [if_pos (show kindS (kdN d) = Str.ofString "lay" by rw [c]; rfl)]
    obtain ⟨a', ms, rfl⟩ := inv_at.2.2.2.2.2.2.2.2.1 c
    cases ha
    obtain ⟨A', ea', nb, pe, rfl⟩ := ok
    cases ea'.symm.trans ea
    obtain ⟨b, hp, hb⟩ := hst
    exact ⟨_, hp, _, z0p (j := 2) rfl, b, rfl, A, ho, S, hb, sdA, sd, by omega, fun z => absurd z nb, fun _ z => absurd pe z, fun _ _ G u => q _ b u (u _ _ hb)⟩
  rintro σ10 G10 ⟨rfl, c10, rfl⟩
  refine z0h (fun σ G => G = G10 /\ ¬ kdN d = 13 /\ σ = [some (.ref p), some (.ref o), some (.str (kindS (kdN d)))]) ?_ (fun R hR => ?_)
  rotate_left
  · wp_walk using tSeq, tIfS, spfolded
    by_cases c : kdN d = 13
    rotate_left
    · rw [if_neg (show ¬ kindS (kdN d) = Str.ofString "fold" from z2z 13 (z2u d) (by decide) c)]
      exact hR _ _ ⟨rfl, c, rfl⟩
    rw [if_pos (show kindS (kdN d) = Str.ofString "fold" by rw [c]; rfl)]
    obtain ⟨w, a', s, rfl⟩ := inv_at.2.2.2.2.2.2.2.2.2.2.2.1 c
    cases ha
    obtain ⟨A', ea', _, no, rfl⟩ := ok
    cases ea'.symm.trans ea
    exact ⟨_, hst, _, z0p (j := 3) rfl, A, s, rfl, ho, by omega, fun z => absurd z no, fun _ G r u h => q _ r u h⟩
  rintro σ13 G13 ⟨rfl, c13, rfl⟩
  refine z0h (fun σ G => G = G13 /\ ¬ kdN d = 14 /\ σ = [some (.ref p), some (.ref o), some (.str (kindS (kdN d)))]) ?_ (fun R hR => ?_)
  rotate_left
  · wp_walk using tSeq, tIfS, spflip
    by_cases c : kdN d = 14
    rotate_left
    · rw [if_neg (show ¬ kindS (kdN d) = Str.ofString "run" from z2z 14 (z2u d) (by decide) c)]
      exact hR _ _ ⟨rfl, c, rfl⟩
    rw [if_pos (show kindS (kdN d) = Str.ofString "run" by rw [c]; rfl)]
    obtain ⟨w, a', s, rfl⟩ := inv_at.2.2.2.2.2.2.2.2.2.2.2.2 c
    cases ha
    obtain ⟨ea', _, no⟩ := ok
    cases ea'.symm.trans ea
    exact ⟨_, hst, _, z0p (j := 3) rfl, S, s, rfl, ho, fun z => absurd z no, fun _ => q _ o (Same.refl _) ho⟩
  rintro σ14 G14 ⟨rfl, c14, rfl⟩
  have e : S = A := by
    cases d with
    | each w a' => cases ha; obtain ⟨ea', _⟩ := ok; cases ea'.symm.trans ea; rfl
    | turn => exact absurd rfl c6
    | flip => exact absurd rfl c7
    | cut => exact absurd rfl c8
    | spread => exact absurd rfl c9
    | lay => exact absurd rfl c10
    | fold => exact absurd rfl c13
    | run => exact absurd rfl c14
    | _ => cases ha
  wp_walk using tSeq, tIfS
  exact q _ o (Same.refl _) (by rw [e]; exact ho)
abbrev sstepsides : Stmt := top 51
theorem scstepsides : FnScope ["step", "sides", "used", "form"] ["step", "sides"] (defScope sstepsides) := ⟨rfl, rfl, rfl, by decide +kernel, rfl, by decide +kernel, by decide +kernel⟩
theorem okstepsides (F : Fun K "step_sides" "step_sides" sstepsides f fd) {CNoWord : Addr} (nNoWord : PySem.W.nsIn K mainGlobals "NoWord" = some (some (.ref CNoWord))) {CNoSide : Addr} (nNoSide : PySem.W.nsIn K mainGlobals "NoSide" = some (some (.ref CNoSide))) {CBeyond : Addr} (nBeyond : PySem.W.nsIn K mainGlobals "Beyond" = some (some (.ref CBeyond))) {CTooLarge : Addr} (nTooLarge : PySem.W.nsIn K mainGlobals "TooLarge" = some (some (.ref CTooLarge))) {CUnlike : Addr} (nUnlike : PySem.W.nsIn K mainGlobals "Unlike" = some (some (.ref CUnlike))) (caskword : Callee P w K mg base (CX1 P w) (5) "ask_word" ["step"] spaskw) (cargsof : Callee P w K mg base CX0 (5) "args_of" ["step"] spargsof) (cfirstsides : Callee P w K mg base (CX1 P w) (5) "first_sides" ["step"] spfirst) (cmovedsides : Callee P w K mg base (CX1 P w) (5) "moved_sides" ["step", "sides"] spmv) (cpairedsides : Callee P w K mg base (CX1 P w) (5) "paired_sides" ["sides", "others"] (sppaired CUnlike)) (cjoinedsides : Callee P w K mg base (CX1 P w) (5) "joined_sides" ["sides", "others", "side"] (spjoin CUnlike CNoSide CTooLarge)) (cfetchedsides : Callee P w K mg base (CX1 P w) (5) "fetched_sides" ["sides", "others"] (spfetched CNoSide CBeyond CTooLarge)) (cpickedsides : Callee P w K mg base (CX1 P w) (5) "picked_sides" ["marks", "sides", "others"] (sppicked CUnlike)) (zlen : mg "len" = none) : FnOk P w K mg base (CX1 P w) (6) f fd ["step", "sides"] (spsides) := by
  have sc := scstepsides
  refine F.okX sc (fun vs H Q E h => ?_) (fun cdv A outer s H vs Q E hr h => ?_)
  · obtain ⟨p, s, d, S, Ss, ps, rfl, _⟩ := h; rfl
  obtain ⟨p, s, d, S, Ss, ps, rfl, hst, hs, ht, fS, ok, fs, q⟩ := h
  refine ⟨_, (z0d (z1w (z0r caskword hr (by rfl) z1d (z0a (pv 0) z0c))) (z0d (ps_setC (own := ["number"]) (fv := ["sides"]) (js := [1]) sc.nd (i := 2) rfl (by first | exact Or.inl rfl | exact Or.inr rfl) (by first | exact Or.inl rfl | exact Or.inr rfl) rfl (z3s (z0r cargsof hr (by rfl) z1l (z0a (pv 0) z0c))) rfl (by decide) rfl (by decide) (by first | exact fun _ _ h => h | exact z2h rfl | exact z2g rfl rfl | exact z2f rfl rfl rfl) (z2r (by rfl)) rfl (cap1 (by first | exact ⟨rfl, .inl rfl, .inl rfl⟩ | exact ⟨rfl, .inl rfl, .inr rfl⟩)) (fun _ _ _ _ => (z1h (i := 0) (show (["number", "sides"] : List Str).Nodup by decide +kernel) rfl (Or.inl rfl))) (fun _ _ _ _ => (z0u ix_seqH (pv 1) (pv 0) (fun _ _ => rfl)))) (z0d (z0z (i := 3) sc.nd rfl (by first | exact Or.inl rfl | exact Or.inr rfl) (z0u z0v (pv 0) z0e (fun _ _ => rfl))) (z0d (z0y (z0i z1f (z0m z0j (by rfl) zlen PySem.boot_len (z0a (pv 2) z0c)) z0e (z0n _)) (z0f (z0l (z0r cfirstsides hr (by rfl) z1d (z0a (pv 0) z0c)))) z0k) (z0d (z0y (z0i z1f (z0m z0j (by rfl) zlen PySem.boot_len (z0a (pv 2) z0c)) z0e (z0n _)) (z0f (z0l (z0r cmovedsides hr (by rfl) z1d (z0a (pv 0) (z0a (z0u z0o (pv 2) z0e (fun _ _ => rfl)) z0c))))) z0k) (z0d (z0y (z0i z1f (pv 3) z0q (z0n _)) (z0f (z0l (z0r cpairedsides hr (by rfl) z1d (z0a (z0u z0o (pv 2) z0e (fun _ _ => rfl)) (z0a (z0u z0o (pv 2) z0e (fun _ _ => rfl)) z0c))))) z0k) (z0d (z0y (z0i z1f (pv 3) z0q (z0n _)) (z0f (z0l (z0r cjoinedsides hr (by rfl) z1d (z0a (z0u z0o (pv 2) z0e (fun _ _ => rfl)) (z0a (z0u z0o (pv 2) z0e (fun _ _ => rfl)) (z0a (z0u z0v (pv 0) z0e (fun _ _ => rfl)) z0c)))))) z0k) (z0d (z0y (z0i z1f (pv 3) z0q (z0n _)) (z0f (z0l (z0r cfetchedsides hr (by rfl) z1d (z0a (z0u z0o (pv 2) z0e (fun _ _ => rfl)) (z0a (z0u z0o (pv 2) z0e (fun _ _ => rfl)) z0c))))) z0k) (z0f (z0l (z0r cpickedsides hr (by rfl) z1d (z0a (z0u z0o (pv 2) z0e (fun _ _ => rfl)) (z0a (z0u z0o (pv 2) z0e (fun _ _ => rfl)) (z0a (z0u z0o (pv 2) z0e (fun _ _ => rfl)) z0c)))))))))))))), ?_⟩
  simp only [L2.start, List.length_cons, List.length_nil, List.replicate, List.cons_append, List.nil_append, Nat.reduceSub, Nat.reduceAdd, List.map_cons, List.map_nil]
  obtain ⟨xs, hp, h0, hq, hg⟩ := z3n hst
  have al := ok_args ok
  refine z0h (fun σ G => Same H G /\ σ = [some (.ref p), some (.ref s), none, none]) ?_ (fun R hR => ?_)
  rotate_left
  · wp_walk using tSeq, tIfS, spaskw
    exact ⟨d, hst, ok_word ok, fun G u => hR _ _ ⟨u, rfl⟩⟩
  rintro σ1 G1 ⟨s1, rfl⟩
  refine z0h (fun σ G => Same G1 G /\ ∃ ul us, G ul = some (.lst (us.map V.ref)) /\ UsAt G us (argsN d) Ss /\ σ = [some (.ref p), some (.ref s), some (.ref ul), none]) ?_ (fun R hR => ?_)
  rotate_left
  · wp_walk using tSeq, tIfS, spargsof
    refine ⟨p, kdN d, z2u d, rfl, xs, s1 _ _ hp, h0, hq, fun G2 t u2 h2 => ?_⟩
    rw [hg] at h2
    have hs2 : G2 s = some (.lst (ps.map V.ref)) \/ G2 s = some (.tup (ps.map V.ref)) := hs.imp (fun z => (s1.trans u2) _ _ z) (fun z => (s1.trans u2) _ _ z)
    have ht2 := ht.same (s1.trans u2)
    refine CompT.mk (xs := nmV (argsN d)) (.of h2) (fun i ys σ G => G = G2 /\ ∃ us : List Addr, ys = us.map V.ref /\ i ≤ (argsN d).length /\ UsAt G us ((argsN d).take i) Ss /\ ∃ y, σ = [y, some (.ref s)]) ⟨rfl, [], rfl, Nat.zero_le _, ⟨rfl, fun i a e => nomatch e⟩, _, rfl⟩ (fun i ys σ G _ h => by rw [h.1]; exact .of h2) (fun i x ys σ G e h => ?_) (fun ys σ G h p1 hp1 => ?_)
    · obtain ⟨rfl, us, rfl, hi, hu, y, rfl⟩ := h
      obtain ⟨a, rfl, ea⟩ := nm_at e
      have il := (List.getElem?_eq_some_iff.mp ea).1
      have a3 := args_le3 d
      obtain ⟨pk, A, ek, eA, hA⟩ := z2l ht2 (al a (List.mem_of_getElem? ea))
      refine ⟨by rw [List.length_map, hu.1, List.length_take]; exact z1b (by omega), ?_⟩
      have us2 := us_snoc hu eA hA
      rw [show (argsN d).take i ++ [a] = (argsN d).take (i + 1) by rw [List.take_add_one, ea]; rfl] at us2
      wp_walk using tSeq, tIfS
      exact ⟨_, hs2, _, ek, us ++ [pk], by rw [List.map_append]; rfl, il, us2, _, rfl⟩
    · obtain ⟨rfl, us, rfl, hi, hu, y, rfl⟩ := h
      rw [nm_len, List.take_length] at hu
      exact hR _ _ ⟨u2.trans (z0b hp1 _), p1, us, z0g, hu.same (z0b hp1 _), rfl⟩
  rintro σ2 G2 ⟨s2, ul, us, hul, hu, rfl⟩
  have t2 := s1.trans s2
  have hst2 := hst.same t2
  have hp2 := t2 _ _ hp
  refine z0h (fun σ G => G = G2 /\ σ = [some (.ref p), some (.ref s), some (.ref ul), some (.str (kindS (kdN d)))]) ?_ (fun R hR => ?_)
  rotate_left
  · wp_walk using tSeq, tIfS
    exact ⟨_, hp2, _, z0p (j := 0) h0, hR _ _ ⟨rfl, rfl⟩⟩
  rintro σ3 G3 ⟨rfl, rfl⟩
  refine z0h (fun σ G => G = G3 /\ ¬ (argsN d).length = 0 /\ σ = [some (.ref p), some (.ref s), some (.ref ul), some (.str (kindS (kdN d)))]) ?_ (fun R hR => ?_)
  rotate_left
  · wp_walk using tSeq, tIfS, spfirst
    refine ⟨_, .inl (.of hul), ?_⟩
    rw [List.length_map, hu.1]
    split
    · exact ⟨d, hst2, args0 (by omega), S, Ss, ok, fs, fun G r u h => q _ r (t2.trans u) h⟩
    · exact hR _ _ ⟨rfl, by omega, rfl⟩
  rintro σ4 G4 ⟨rfl, n0, rfl⟩
  refine z0h (fun σ G => G = G4 /\ ¬ (argsN d).length = 1 /\ σ = [some (.ref p), some (.ref s), some (.ref ul), some (.str (kindS (kdN d)))]) ?_ (fun R hR => ?_)
  rotate_left
  · wp_walk using tSeq, tIfS, spmv
    refine ⟨_, .inl (.of hul), ?_⟩
    rw [List.length_map, hu.1]
    split
    · obtain ⟨a, ea⟩ := args1 (d := d) (by omega)
      obtain ⟨u0, A, e0, eA, hA⟩ := hu.2 0 a (by rw [ea]; rfl)
      obtain ⟨u1, e1, h1⟩ := us_at hu 0 (by rw [ea]; rfl) eA
      exact ⟨_, hul, _, e1, u1, rfl, d, hst2, S, A, Ss, a, ea, eA, h1, fS A (List.mem_of_getElem? eA), ok, fs, fun G r u h => q _ r (t2.trans u) h⟩
    · exact hR _ _ ⟨rfl, by omega, rfl⟩
  rintro σ5 G5 ⟨rfl, n1, rfl⟩
  refine z0h (fun σ G => G = G5 /\ ¬ kdN d = 4 /\ σ = [some (.ref p), some (.ref s), some (.ref ul), some (.str (kindS (kdN d)))]) ?_ (fun R hR => ?_)
  rotate_left
  · wp_walk using tSeq, tIfS, sppaired
    by_cases c : kdN d = 4
    rotate_left
    · rw [if_neg (show ¬ kindS (kdN d) = Str.ofString "pair" from z2z 4 (z2u d) (by decide) c)]
      exact hR _ _ ⟨rfl, c, rfl⟩
    rw [if_pos (show kindS (kdN d) = Str.ofString "pair" by rw [c]; rfl)]
    obtain ⟨w, a, b, rfl⟩ := inv_at.2.2.2.1 c
    obtain ⟨A, B, eA, eB, _, pk, rfl⟩ := ok
    obtain ⟨u0, e0, hA⟩ := us_at hu 0 rfl eA
    obtain ⟨u1, e1, hB⟩ := us_at hu 1 rfl eB
    exact ⟨_, hul, _, e0, _, hul, _, e1, u0, rfl, u1, rfl, A, hA, B, hB, fun z => absurd pk z, fun _ G r u h => q _ r (t2.trans u) h⟩
  rintro σ6 G6 ⟨rfl, n4, rfl⟩
  refine z0h (fun σ G => G = G6 /\ ¬ kdN d = 11 /\ σ = [some (.ref p), some (.ref s), some (.ref ul), some (.str (kindS (kdN d)))]) ?_ (fun R hR => ?_)
  rotate_left
  · wp_walk using tSeq, tIfS, spjoin
    by_cases c : kdN d = 11
    rotate_left
    · rw [if_neg (show ¬ kindS (kdN d) = Str.ofString "join" from z2z 11 (z2u d) (by decide) c)]
      exact hR _ _ ⟨rfl, c, rfl⟩
    rw [if_pos (show kindS (kdN d) = Str.ofString "join" by rw [c]; rfl)]
    obtain ⟨a, b, sd, rfl⟩ := inv_at.2.2.2.2.2.2.2.2.2.1 c
    obtain ⟨A, B, eA, eB, j1, j2, j3, j4, rfl⟩ := ok
    obtain ⟨u0, e0, hA⟩ := us_at hu 0 rfl eA
    obtain ⟨u1, e1, hB⟩ := us_at hu 1 rfl eB
    have fA := fS A (List.mem_of_getElem? eA)
    have fB := fS B (List.mem_of_getElem? eB)
    exact ⟨_, hul, _, e0, _, hul, _, e1, _, hst2, _, z0p (j := 3) rfl, u0, rfl, u1, rfl, A, B, sd, rfl, hA, hB, fit_sm fA, fit_sm fB, by have := fA.2.1; omega, fun z => absurd j1 z, fun _ z => absurd z j2, fun _ _ z => absurd j3 z, fun _ _ _ z => absurd z j4, fun _ _ _ _ G r u h => q _ r (t2.trans u) h⟩
  rintro σ7 G7 ⟨rfl, n11, rfl⟩
  refine z0h (fun σ G => G = G7 /\ ¬ kdN d = 12 /\ σ = [some (.ref p), some (.ref s), some (.ref ul), some (.str (kindS (kdN d)))]) ?_ (fun R hR => ?_)
  rotate_left
  · wp_walk using tSeq, tIfS, spfetched
    by_cases c : kdN d = 12
    rotate_left
    · rw [if_neg (show ¬ kindS (kdN d) = Str.ofString "fetch" from z2z 12 (z2u d) (by decide) c)]
      exact hR _ _ ⟨rfl, c, rfl⟩
    rw [if_pos (show kindS (kdN d) = Str.ofString "fetch" by rw [c]; rfl)]
    obtain ⟨a, b, rfl⟩ := inv_at.2.2.2.2.2.2.2.2.2.2.1 c
    obtain ⟨n, r, B, eA, nz, eB, nb, rfl⟩ := ok
    obtain ⟨u0, e0, hA⟩ := us_at hu 0 rfl eA
    obtain ⟨u1, e1, hB⟩ := us_at hu 1 rfl eB
    have fA := fS _ (List.mem_of_getElem? eA)
    have fB := fS B (List.mem_of_getElem? eB)
    exact ⟨_, hul, _, e0, _, hul, _, e1, u0, rfl, u1, rfl, n :: r, hA, B, hB, fit_sdk fA, fit_sdk fB, by have := fA.2.1; omega, by have := fB.2.1; omega, (fun z => by cases z), (fun r' z => by cases z; exact absurd rfl nz), (fun n' r' z _ y => by cases z; exact absurd y nb), (fun n' r' z _ _ G x u h => by cases z; exact q _ x (t2.trans u) h)⟩
  rintro σ8 G8 ⟨rfl, n12, rfl⟩
  obtain ⟨a, b, c, rfl⟩ : ∃ a b c, d = .pick a b c := by
    cases d with
    | pick a b c => exact ⟨a, b, c, rfl⟩
    | pair => exact absurd rfl n4
    | join => exact absurd rfl n11
    | fetch => exact absurd rfl n12
    | inp => exact absurd rfl n0
    | num => exact absurd rfl n0
    | count => exact absurd rfl n0
    | _ => exact absurd rfl n1
  obtain ⟨A, B, C, eA, eB, eC, p1, p2, rfl⟩ := ok
  obtain ⟨u0, e0, hA⟩ := us_at hu 0 rfl eA
  obtain ⟨u1, e1, hB⟩ := us_at hu 1 rfl eB
  obtain ⟨u2, e2, hC⟩ := us_at hu 2 rfl eC
  wp_walk using tSeq, tIfS, sppicked
  exact ⟨_, hul, _, e0, _, hul, _, e1, _, hul, _, e2, u0, rfl, u1, rfl, u2, rfl, A, hA, B, hB, C, hC, fun z => absurd ⟨p1, p2⟩ z, fun _ _ G r u h => q _ r (t2.trans u) h⟩
abbrev ssteptold : Stmt := top 52
theorem scsteptold : FnScope ["step", "sides", "k"] ["step", "sides"] (defScope ssteptold) := ⟨rfl, rfl, rfl, by decide +kernel, rfl, by decide +kernel, by decide +kernel⟩
theorem oksteptold (F : Fun K "step_told" "step_told" ssteptold f fd) {CNoWord : Addr} (nNoWord : PySem.W.nsIn K mainGlobals "NoWord" = some (some (.ref CNoWord))) {CNoSide : Addr} (nNoSide : PySem.W.nsIn K mainGlobals "NoSide" = some (some (.ref CNoSide))) {CBeyond : Addr} (nBeyond : PySem.W.nsIn K mainGlobals "Beyond" = some (some (.ref CBeyond))) {CUnlike : Addr} (nUnlike : PySem.W.nsIn K mainGlobals "Unlike" = some (some (.ref CUnlike))) {CTooLarge : Addr} (nTooLarge : PySem.W.nsIn K mainGlobals "TooLarge" = some (some (.ref CTooLarge))) (cargsof : Callee P w K mg base CX0 (6) "args_of" ["step"] spargsof) (cstepsides : Callee P w K mg base (CX1 P w) (6) "step_sides" ["step", "sides"] spsides) (zlen : mg "len" = none) (zany : mg "any" = none) {tMOST_STEPS : Tok} (gMOST_STEPS : mg "MOST_STEPS" = some (.int 40 tMOST_STEPS)) : FnOk P w K mg base CX0 (7) f fd ["step", "sides"] (sptold) := by
  have sc := scsteptold
  refine F.ok sc (fun vs H Q E h => ?_) (fun cdv A outer s H vs Q E hr h => ?_)
  · obtain ⟨p, s, d, S, Ss, ps, rfl, _⟩ := h; rfl
  obtain ⟨p, s, d, S, Ss, ps, rfl, hst, hs, ht, fS, l40, ok, fs, q⟩ := h
  refine ⟨_, (z0d (z0z (i := 2) sc.nd rfl (by first | exact Or.inl rfl | exact Or.inr rfl) (z0m z0j (by rfl) zlen PySem.boot_len (z0a (pv 1) z0c))) (z0d (z0y (z0i op_ge (pv 2) (z3c (v := .int 40) (by rfl) gMOST_STEPS ⟨_, rfl⟩) (z0n _)) (z0f (z0l (z0w (z0a z2x (z0a z0q z0c))))) z0k) (z0d (z0y (z3j (z0m (call_anyB rfl) (by rfl) zany boot_any (z0a (z3d (own := ["number"]) (fv := ["k"]) (js := [2]) rfl (z3s (z0r cargsof hr (by rfl) z1l (z0a (pv 0) z0c))) rfl (by decide) rfl (by decide) (by first | exact fun _ _ h => h | exact z2h rfl | exact z2g rfl rfl | exact z2f rfl rfl rfl) (z2r (by rfl)) rfl (cap1 (by first | exact ⟨rfl, .inl rfl, .inl rfl⟩ | exact ⟨rfl, .inl rfl, .inr rfl⟩)) (fun _ _ _ _ => (z1h (i := 0) (show (["number", "k"] : List Str).Nodup by decide +kernel) rfl (Or.inl rfl))) (fun _ _ _ _ => (pe_or (pe_cmpR z3l (pv 0) z0e (z0n _)) (pe_one (pe_cmpR op_ge (pv 0) (pv 1) (z0n _)))))) z0c))) (z0f (z0l (z0w (z0a z2x (z0a z0q z0c))))) z0k) (z0f (ps_tryN ⟨rfl, rfl⟩ (fun xe pn EE hx => (z0f (z0l (z0w (z0a (pe_calX cstepsides hr (by rfl) hx (z0a (pv 0) (z0a (pv 1) z0c))) (z0a z2x z0c)))))) (.cons (by rfl) nNoWord (fun ae pn => (z0f (z0l (z0w (z0a z2x (z0a z0q z0c)))))) (.cons (by rfl) nNoSide (fun ae pn => (z0f (z0l (z0w (z0a z2x (z0a z0q z0c)))))) (.cons (by rfl) nBeyond (fun ae pn => (z0f (z0l (z0w (z0a z2x (z0a z0q z0c)))))) (.cons (by rfl) nUnlike (fun ae pn => (z0f (z0l (z0w (z0a z2x (z0a z0q z0c)))))) (.cons (by rfl) nTooLarge (fun ae pn => (z0f (z0l (z0w (z0a z2x (z0a z0q z0c)))))) .nil (by decide)) (by decide)) (by decide)) (by decide)) (by decide))))))), ?_⟩
  simp only [L2.start, List.length_cons, List.length_nil, List.replicate, List.cons_append, List.nil_append, Nat.reduceSub, Nat.reduceAdd, List.map_cons, List.map_nil]
  obtain ⟨xs, hp, h0, hq, hg⟩ := z3n hst
  have al := ok_args ok
  refine z0h (fun σ G => G = H /\ σ = [some (.ref p), some (.ref s), some (.int (Ss.length : Int))]) ?_ (fun R hR => ?_)
  rotate_left
  · wp_walk using tSeq, tIfS
    refine ⟨_, .inl (.of hs), ?_⟩
    rw [List.length_map, ht.1]
    exact hR _ _ ⟨rfl, rfl⟩
  rintro σ1 G1 ⟨rfl, rfl⟩
  refine z0h (fun σ G => G = G1 /\ σ = [some (.ref p), some (.ref s), some (.int (Ss.length : Int))]) ?_ (fun R hR => ?_)
  rotate_left
  · wp_walk using tSeq, tIfS
    rw [if_neg (by omega)]
    exact hR _ _ ⟨rfl, rfl⟩
  rintro σ2 G2 ⟨rfl, rfl⟩
  refine z0h (fun σ G => Same G2 G /\ σ = [some (.ref p), some (.ref s), some (.int (Ss.length : Int))]) ?_ (fun R hR => ?_)
  rotate_left
  · wp_walk using tSeq, tIfS, spargsof
    refine ⟨p, kdN d, z2u d, rfl, xs, hp, h0, hq, fun G3 t u3 h3 => ?_⟩
    rw [hg] at h3
    refine CompT.mk (xs := nmV (argsN d)) (.of h3) (fun i ys σ G => G = G3 /\ i ≤ (argsN d).length /\ ys = (rep i).map V.bl /\ ∃ y, σ = [y, some (.int (Ss.length : Int))]) ⟨rfl, Nat.zero_le _, rfl, _, rfl⟩ (fun i ys σ G _ h => by rw [h.1]; exact .of h3) (fun i x ys σ G e h => ?_) (fun ys σ G h p1 hp1 => ?_)
    · obtain ⟨rfl, hi, rfl, y, rfl⟩ := h
      obtain ⟨a, rfl, ea⟩ := nm_at e
      have il := (List.getElem?_eq_some_iff.mp ea).1
      have a3 := args_le3 d
      have aS := al a (List.mem_of_getElem? ea)
      refine ⟨by rw [List.length_map, rep_len]; exact z1b (by omega), ?_⟩
      wp_walk using tSeq, tIfS
      rw [if_neg (by omega), decide_eq_false (show ¬ (Ss.length : Int) ≤ (a : Int) by omega)]
      exact ⟨il, (rep_succ i).symm, _, rfl⟩
    · obtain ⟨rfl, hi, rfl, y, rfl⟩ := h
      rw [nm_len]
      refine ⟨_, rfl, _, .of z0g, ?_⟩
      rw [rep_any, if_neg Bool.false_ne_true]
      exact hR _ _ ⟨u3.trans (z0b hp1 _), rfl⟩
  rintro σ3 G3 ⟨s3, rfl⟩
  wp_walk using tSeq, tIfS, spsides
  exact ⟨d, hst.same s3, S, Ss, ps, .inl (s3 _ _ hs), ht.same s3, fS, ok, fs, fun G r u h => ⟨small (by decide), fun p1 hp1 => q _ p1 r (s3.trans (u.trans (z0b hp1 _))) z0g (z0b hp1 _ _ _ h)⟩⟩
abbrev sprogramtold : Stmt := top 53
theorem scprogramtold : FnScope ["program", "steps", "outs", "sides", "step", "told"] ["program"] (defScope sprogramtold) := ⟨rfl, rfl, rfl, by decide +kernel, rfl, by decide +kernel, by decide +kernel⟩
theorem okprogramtold (F : Fun K "program_told" "program_told" sprogramtold f fd) (csteptold : Callee P w K mg base CX0 (7) "step_told" ["step", "sides"] sptold) (zlen : mg "len" = none) (zany : mg "any" = none) (ztuple : mg "tuple" = none) {tMOST_OUTS : Tok} (gMOST_OUTS : mg "MOST_OUTS" = some (.int 8 tMOST_OUTS)) : FnOk P w K mg base CX0 (8) f fd ["program"] (spptold) := by
  have sc := scprogramtold
  refine F.ok sc (fun vs H Q E h => ?_) (fun cdv A outer s H vs Q E hr h => ?_)
  · obtain ⟨r, ds, Ss, os, mo, rfl, _⟩ := h; rfl
  obtain ⟨r, ds, Ss, os, mo, rfl, ⟨st, ot, qs, hr0, hst, sl, hot⟩, ⟨hmo, gd, d0, d40, o0, o8, ob⟩, q⟩ := h
  refine ⟨_, (z0d (z0z (i := 1) sc.nd rfl (by first | exact Or.inl rfl | exact Or.inr rfl) (z0u z0v (pv 0) z0e (fun _ _ => rfl))) (z0d (z0z (i := 2) sc.nd rfl (by first | exact Or.inl rfl | exact Or.inr rfl) (z0u z0v (pv 0) z0e (fun _ _ => rfl))) (z0d (z0z (i := 3) sc.nd rfl (by first | exact Or.inl rfl | exact Or.inr rfl) (z2q z0c)) (z0d (z3b PassesOwn.never rfl (z3s (pv 1)) (z1h (i := 4) sc.nd rfl (Or.inl rfl)) (z0d (z0z (i := 5) sc.nd rfl (by first | exact Or.inl rfl | exact Or.inr rfl) (z0r csteptold hr (by rfl) z1l (z0a (pv 4) (z0a (pv 3) z0c)))) (z0d (z0y (z0i op_notN (z0u z0v (pv 5) z0e (fun _ _ => rfl)) z2x (z0n _)) (z0f (z0l (z0w (z0a (z1i z1m (by rfl) ztuple boot_tuple (z0a (pv 3) z0c)) (z0a (z0w (z0a (z0m z0j (by rfl) zlen PySem.boot_len (z0a (pv 3) z0c)) (z0a (z0u z0v (pv 5) z0e (fun _ _ => rfl)) z0c))) z0c))))) z0k) (z0f (z1w (pe_app (pv 3) (z0u z0v (pv 5) z0e (fun _ _ => rfl)))))))) (z0d (z0y (PW.pt (pw_or (pt_not (pt_chain op_le op_le z0e (z0m z0j (by rfl) zlen PySem.boot_len (z0a (pv 2) z0c)) (z3c (v := .int 8) (by rfl) gMOST_OUTS ⟨_, rfl⟩))) (z2w (z3j (z0m (call_anyB rfl) (by rfl) zany boot_any (z0a (z3d (own := ["out"]) (fv := ["steps"]) (js := [1]) rfl (z3s (pv 2)) rfl (by decide) rfl (by decide) (by first | exact fun _ _ h => h | exact z2h rfl | exact z2g rfl rfl | exact z2f rfl rfl rfl) (z2r (by rfl)) rfl (cap1 (by first | exact ⟨rfl, .inl rfl, .inl rfl⟩ | exact ⟨rfl, .inl rfl, .inr rfl⟩)) (fun _ _ _ _ => (z1h (i := 0) (show (["out", "steps"] : List Str).Nodup by decide +kernel) rfl (Or.inl rfl))) (fun _ _ _ _ => (pe_or (pe_cmpR z3l (pv 0) z0e (z0n _)) (pe_one (pe_cmpR op_ge (pv 0) (z0m ((z3y (K := K) rfl)) (by rfl) zlen PySem.boot_len (z0a (pv 1) z0c)) (z0n _)))))) z0c)))))) (z0f (z0l (z0w (z0a (z1i z1m (by rfl) ztuple boot_tuple (z0a (pv 3) z0c)) (z0a (z0w (z0a (z0m ((z3y (K := K) rfl)) (by rfl) zlen PySem.boot_len (z0a (pv 1) z0c)) (z0a z0q z0c))) z0c))))) z0k) (z0f (z0l (z0w (z0a (z1i z1m (by rfl) ztuple boot_tuple (z0a (pv 3) z0c)) (z0a z2x z0c)))))))))), ?_⟩
  simp only [L2.start, List.length_cons, List.length_nil, List.replicate, List.cons_append, List.nil_append, Nat.reduceSub, Nat.reduceAdd, List.map_cons, List.map_nil]
  refine z0h (fun σ G => G = H /\ σ = [some (.ref r), some (.ref st), none, none, none, none]) ?_ (fun R hR => ?_)
  rotate_left
  · wp_walk using tSeq, tIfS
    exact ⟨_, hr0, _, z0p (j := 0) rfl, hR _ _ ⟨rfl, rfl⟩⟩
  rintro σ1 G1 ⟨rfl, rfl⟩
  refine z0h (fun σ G => G = G1 /\ σ = [some (.ref r), some (.ref st), some (.ref ot), none, none, none]) ?_ (fun R hR => ?_)
  rotate_left
  · wp_walk using tSeq, tIfS
    exact ⟨_, hr0, _, z0p (j := 1) rfl, hR _ _ ⟨rfl, rfl⟩⟩
  rintro σ2 G2 ⟨rfl, rfl⟩
  refine z0h (fun σ G => ∃ sd, Same G2 G /\ G2 sd = none /\ G sd = some (.lst []) /\ σ = [some (.ref r), some (.ref st), some (.ref ot), some (.ref sd), none, none]) ?_ (fun R hR => ?_)
  rotate_left
  · wp_walk using tSeq, tIfS
    exact ⟨Nat.zero_le _, fun l hl => hR _ _ ⟨l, z0b hl _, hl, z0g, rfl⟩⟩
  rintro σ3 G3 ⟨sd, s3, sd0, hsd, rfl⟩
  refine z0h (fun σ G => ∃ (ps : List Addr) (y4 y5 : Option V), Same G2 G /\ G sd = some (.lst (ps.map V.ref)) /\ TpsM G ps Ss /\ σ = [some (.ref r), some (.ref st), some (.ref ot), some (.ref sd), y4, y5]) ?_ (fun R hR => ?_)
  rotate_left
  · wp_walk using rPopAt
    obtain ⟨J, hJ⟩ : ∃ J : Nat -> L2.St -> Hp -> Prop, J = (fun i σ G => ∃ (ps : List Addr) (y4 y5 : Option V), Same G2 G /\ G sd = some (.lst (ps.map V.ref)) /\ TpsM G ps (Ss.take i) /\ σ = [some (.ref r), some (.ref st), some (.ref ot), some (.ref sd), y4, y5]) := ⟨_, rfl⟩
    refine LoopT.mk (xs := qs.map V.ref) (.of (s3 _ _ hst)) J (by rw [hJ]; exact ⟨[], _, _, s3, hsd, ⟨rfl, fun i p e => nomatch e⟩, rfl⟩) (fun i σ G _ h => by rw [hJ] at h; obtain ⟨_, _, _, s, _⟩ := h; exact .of (s _ _ hst)) (fun i x σ G0 e h => ?_) (fun σ G h => ?_)
    rotate_left
    · rw [hJ] at h
      obtain ⟨ps, y4, y5, s, h1, h2, rfl⟩ := h
      rw [List.length_map, sl.1, gd.1, List.take_length] at h2
      exact hR _ _ ⟨ps, _, _, s, h1, h2, rfl⟩
    clear hR
    rw [hJ] at h
    obtain ⟨ps, y4, y5, s, h1, h2, rfl⟩ := h
    obtain ⟨p, rfl, hp⟩ : ∃ p, x = .ref p /\ qs[i]? = some p := by
      rw [List.getElem?_map] at e
      cases hx : qs[i]? with
      | none => rw [hx] at e; cases e
      | some n => rw [hx] at e; cases e; exact ⟨n, rfl, rfl⟩
    obtain ⟨d, ed, hd⟩ := sl.2 i p hp
    have il : i < Ss.length := by rw [← gd.1]; exact (List.getElem?_eq_some_iff.mp ed).1
    have eS := List.getElem?_eq_getElem il
    have i40 : i < 40 := by rw [← gd.1] at il; omega
    have pl : ps.length = i := by rw [h2.1, List.length_take]; omega
    generalize Ss[i] = S at eS
    have ok := gd.2.2 i d S ed eS
    have ft := good_fit gd hmo
    simp only [gName, List.set_cons_succ, List.set_cons_zero]
    refine z0h (fun σ G => Same G0 G /\ ∃ r' t, G r' = some (.tup [.ref t, .non]) /\ Tp G t S /\ σ = [some (.ref r), some (.ref st), some (.ref ot), some (.ref sd), some (.ref p), some (.ref r')]) ?_ (fun R hR => ?_)
    rotate_left
    · wp_walk using tSeq, tIfS, sptold
      exact ⟨d, hd.same s, S, Ss.take i, ps, h1, h2, fun T hT => ft T (List.mem_of_mem_take hT), by rw [List.length_take]; omega, ok, ft S (List.mem_of_getElem? eS), fun G r' t u e1 e2 => hR _ _ ⟨u, r', t, e1, e2, rfl⟩⟩
    rintro σ1' G1' ⟨u1, r', t, e1, e2, rfl⟩
    refine z0h (fun σ G => G = G1' /\ σ = [some (.ref r), some (.ref st), some (.ref ot), some (.ref sd), some (.ref p), some (.ref r')]) ?_ (fun R hR => ?_)
    rotate_left
    · wp_walk using tSeq, tIfS
      exact ⟨_, e1, _, z0p (j := 1) rfl, hR _ _ ⟨rfl, rfl⟩⟩
    rintro σ2' G2' ⟨rfl, rfl⟩
    wp_walk using tSeq, tIfS
    refine ⟨⟨_, u1 _ _ h1⟩, _, e1, _, z0p (j := 0) rfl, _, u1 _ _ h1, by rw [List.length_map, pl]; exact z1b (by omega), ?_⟩
    have up := up_put (ys := ps.map V.ref ++ [V.ref t]) (u1 _ _ h1)
    rw [hJ]
    exact ⟨ps ++ [t], _, _, z2n (s.trans u1) sd0, by rw [z0g, List.map_append]; rfl, (h2.up ((z4a u1).trans up)).snocT eS (up _ _ e2), rfl⟩
  rintro σ4 G4 ⟨ps, y4, y5, s4, h1, h2, rfl⟩
  refine z0h (fun σ G => Same G4 G /\ σ = [some (.ref r), some (.ref st), some (.ref ot), some (.ref sd), y4, y5]) ?_ (fun R hR => ?_)
  rotate_left
  · wp_walk using tSeq, tIfS
    refine ⟨_, .inr (.of (s4 _ _ hot)), ?_⟩
    rw [z0s, if_pos (by omega), if_neg (by omega)]
    refine CompT.mk (xs := os.map V.int) (.of (s4 _ _ hot)) (fun i ys σ G => G = G4 /\ i ≤ os.length /\ ys = (rep i).map V.bl /\ ∃ y, σ = [y, some (.ref st)]) ⟨rfl, Nat.zero_le _, rfl, _, rfl⟩ (fun i ys σ G _ h => by rw [h.1]; exact .of (s4 _ _ hot)) (fun i x ys σ G e h => ?_) (fun ys σ G h p1 hp1 => ?_)
    · obtain ⟨rfl, hi, rfl, y, rfl⟩ := h
      obtain ⟨o, rfl, eo⟩ := int_at e
      have il := (List.getElem?_eq_some_iff.mp eo).1
      have oo := ob o (List.mem_of_getElem? eo)
      refine ⟨by rw [List.length_map, rep_len]; exact z1b (by omega), ?_⟩
      wp_walk using tSeq, tIfS
      rw [if_neg (by omega)]
      refine ⟨_, .inr (.of (s4 _ _ hst)), ?_⟩
      rw [List.length_map, sl.1, decide_eq_false (show ¬ (ds.length : Int) ≤ o by omega)]
      exact ⟨il, (rep_succ i).symm, _, rfl⟩
    · obtain ⟨rfl, hi, rfl, y, rfl⟩ := h
      rw [z0s]
      refine ⟨_, rfl, _, .of z0g, ?_⟩
      rw [rep_any, if_neg Bool.false_ne_true]
      exact hR _ _ ⟨z0b hp1 _, rfl⟩
  rintro σ5 G5 ⟨s5, rfl⟩
  wp_walk using tSeq, tIfS
  exact ⟨_, .inl ⟨.of (s5 _ _ h1), fun t1 ht1 => ⟨small (by decide), fun p hp => q _ p t1 ps (s4.trans (s5.trans ((z0b ht1 _).trans (z0b hp _)))) z0g (z0b hp _ _ _ z0g) (h2.same (s5.trans ((z0b ht1 _).trans (z0b hp _))))⟩⟩⟩
abbrev sfirstfault : Stmt := top 54
theorem scfirstfault : FnScope ["program"] ["program"] (defScope sfirstfault) := ⟨rfl, rfl, rfl, by decide +kernel, rfl, by decide +kernel, by decide +kernel⟩
theorem okfirstfault (F : Fun K "first_fault" "first_fault" sfirstfault f fd) (cprogramtold : Callee P w K mg base CX0 (8) "program_told" ["program"] spptold) : FnOk P w K mg base CX0 (9) f fd ["program"] (spffault) := by
  have sc := scfirstfault
  refine F.ok sc (fun vs H Q E h => ?_) (fun cdv A outer s H vs Q E hr h => ?_)
  · obtain ⟨r, ds, Ss, os, mo, rfl, _⟩ := h; rfl
  obtain ⟨r, ds, Ss, os, mo, rfl, pm, gd, q⟩ := h
  refine ⟨_, (z0f (z0l (z0u z0v (z0r cprogramtold hr (by rfl) z1l (z0a (pv 0) z0c)) z0e (fun _ _ => rfl)))), ?_⟩
  simp only [L2.start, List.length_cons, List.length_nil, List.replicate, List.cons_append, List.nil_append, Nat.reduceSub, Nat.reduceAdd, List.map_cons, List.map_nil]
  wp_walk using tSeq, tIfS, spptold
  exact ⟨ds, Ss, os, pm, mo, gd, fun G r' t ps u h1 h2 h3 => ⟨_, h1, _, z0p (j := 1) rfl, q _ u⟩⟩
abbrev schecked : Stmt := top 55
theorem scchecked : FnScope ["program", "told", "fault"] ["program"] (defScope schecked) := ⟨rfl, rfl, rfl, by decide +kernel, rfl, by decide +kernel, by decide +kernel⟩
theorem okchecked (F : Fun K "checked" "checked" schecked f fd) (cprogramtold : Callee P w K mg base CX0 (8) "program_told" ["program"] spptold) : FnOk P w K mg base CX0 (9) f fd ["program"] (spchecked) := by
  have sc := scchecked
  refine F.ok sc (fun vs H Q E h => ?_) (fun cdv A outer s H vs Q E hr h => ?_)
  · obtain ⟨r, ds, Ss, os, mo, rfl, _⟩ := h; rfl
  obtain ⟨r, ds, Ss, os, mo, rfl, pm, gd, q⟩ := h
  refine ⟨_, (z0d (z0z (i := 1) sc.nd rfl (by first | exact Or.inl rfl | exact Or.inr rfl) (z0r cprogramtold hr (by rfl) z1l (z0a (pv 0) z0c))) (z0d (z0z (i := 2) sc.nd rfl (by first | exact Or.inl rfl | exact Or.inr rfl) (z0u z0v (pv 1) z0e (fun _ _ => rfl))) (z0d (z0y (z0i op_notN (pv 2) z2x (z0n _)) (z0f ps_never) z0k) (z0f (z0l (z0u z0v (pv 1) z0e (fun _ _ => rfl))))))), ?_⟩
  simp only [L2.start, List.length_cons, List.length_nil, List.replicate, List.cons_append, List.nil_append, Nat.reduceSub, Nat.reduceAdd, List.map_cons, List.map_nil]
  refine z0h (fun σ G => ∃ r' t ps, Same H G /\ G r' = some (.tup [.ref t, .non]) /\ G t = some (.tup (ps.map V.ref)) /\ TpsM G ps Ss /\ σ = [some (.ref r), some (.ref r'), none]) ?_ (fun R hR => ?_)
  rotate_left
  · wp_walk using tSeq, tIfS, spptold
    exact ⟨ds, Ss, os, pm, mo, gd, fun G r' t ps u h1 h2 h3 => hR _ _ ⟨r', t, ps, u, h1, h2, h3, rfl⟩⟩
  rintro σ1 G1 ⟨r', t, ps, s1, h1, h2, h3, rfl⟩
  refine z0h (fun σ G => G = G1 /\ σ = [some (.ref r), some (.ref r'), some .non]) ?_ (fun R hR => ?_)
  rotate_left
  · wp_walk using tSeq, tIfS
    exact ⟨_, h1, _, z0p (j := 1) rfl, hR _ _ ⟨rfl, rfl⟩⟩
  rintro σ2 G2 ⟨rfl, rfl⟩
  refine z0h (fun σ G => G = G2 /\ σ = [some (.ref r), some (.ref r'), some .non]) ?_ (fun R hR => ?_)
  rotate_left
  · wp_walk using tSeq, tIfS
    exact hR _ _ ⟨rfl, rfl⟩
  rintro σ3 G3 ⟨rfl, rfl⟩
  wp_walk using tSeq, tIfS
  exact ⟨_, h1, _, z0p (j := 0) rfl, q _ t ps s1 h2 h3⟩
abbrev slaw : Stmt := top 74
def splaw : PySem.W.Frag -> Sp := fun K => fun vs H Q _ => ∃ (a : Addr) (ns : List Int), vs = [.ref a] /\ SqL K H a (ns.map V.int) /\ ns.length ≤ 63 /\ ∀ H', Q (.bl true) H'
theorem sclaw : FnScope ["script", "steps", "outs", "sides", "k", "handed", "found"] ["script"] (defScope slaw) := ⟨rfl, rfl, rfl, by decide +kernel, rfl, by decide +kernel, by decide +kernel⟩
theorem oklaw (F : Fun K "law" "law" slaw f fd) (clawprogram : Callee P w K mg base CX0 (9) "_law_program" ["cells", "most"] splprogram) (clawcellat : Callee P w K mg base CX0 (9) "_law_cell_at" ["script", "k"] (splawcellat K)) (clawissides : Callee P w K mg base CX0 (9) "_law_is_sides" ["found", "due"] splawissides) (cstepsides : Callee P w K mg base (CX1 P w) (9) "step_sides" ["step", "sides"] spsides) (cfirstfault : Callee P w K mg base CX0 (9) "first_fault" ["program"] spffault) (cchecked : Callee P w K mg base CX0 (9) "checked" ["program"] spchecked) (zrange : mg "range" = none) (zlen : mg "len" = none) (zlist : mg "list" = none) (ztuple : mg "tuple" = none) (zisinstance : mg "isinstance" = none) : FnOk P w K mg base CX0 (10) f fd ["script"] (splaw K) := by
  have sc := sclaw
  refine F.ok sc (fun vs H Q E h => ?_) (fun cdv A outer s H vs Q E hr h => ?_)
  · obtain ⟨a, ns, rfl, _⟩ := h; rfl
  obtain ⟨a, ns, rfl, hS, h63, q⟩ := h
  refine ⟨_, (z0d (ps_asg (z0r clawprogram hr (by rfl) z1l (z0a (z1e sl_list (pv 0) (z1k z0e) (z1k z0e)) (z0a (z0t z2a z0e (z0t z1u (z0r clawcellat hr (by rfl) z1l (z0a (pv 0) (z0a z0e z0c))) z0e)) z0c))) (pg_tupH (n := 3) (pg_tup rfl (z3t (z1h (i := 1) sc.nd rfl (Or.inl rfl)) (z3t (z1h (i := 2) sc.nd rfl (Or.inl rfl)) (z3t (z1h (i := 3) sc.nd rfl (Or.inl rfl)) pgs_nil)))))) (z0d (z3b PassesOwn.never rfl (z2j (by rfl) zrange (z0a (z0m z0j (by rfl) zlen PySem.boot_len (z0a (pv 1) z0c)) z0c)) (z1h (i := 4) sc.nd rfl (Or.inl rfl)) (z0d (z0z (i := 5) sc.nd rfl (by first | exact Or.inl rfl | exact Or.inr rfl) (z1i ((call_list_ofK (K := K) rfl)) (by rfl) zlist boot_list (z0a (z1e sl_list (pv 3) z1n (z1k (pv 4))) z0c))) (z0d (z0y (PW.pt (pw_or (pt_not (z3j (z0r clawissides hr (by rfl) z1l (z0a (z0r cstepsides hr (by rfl) passNo (z0a (z0u z0v (pv 1) (pv 4) (fun _ _ => rfl)) (z0a (pv 5) z0c))) (z0a (z0u z0o (pv 3) (pv 4) (fun _ _ => rfl)) z0c))))) (z2w (z0i (op_neD (hu20 hr)) (pv 5) (z1e sl_list (pv 3) z1n (z1k (pv 4))) (z0n _))))) (z0f (z0l pe_bl)) z0k) (z0f (z0y (pt_not (z3j (z0r clawissides hr (by rfl) z1l (z0a (z0r cstepsides hr (by rfl) passNo (z0a (z0u z0v (pv 1) (pv 4) (fun _ _ => rfl)) (z0a (z1i ((call_tuple_ofK (K := K) rfl)) (by rfl) ztuple boot_tuple (z0a (pv 5) z0c)) z0c))) (z0a (z0u z0o (pv 3) (pv 4) (fun _ _ => rfl)) z0c))))) (z0f (z0l pe_bl)) z0k))))) (z0d (z0y (z0i op_notN (z0r cfirstfault hr (by rfl) z1l (z0a (z0w (z0a (pv 1) (z0a (pv 2) z0c))) z0c)) z2x (z0n _)) (z0f (z0l pe_bl)) z0k) (z0d (z0z (i := 6) sc.nd rfl (by first | exact Or.inl rfl | exact Or.inr rfl) (z0r cchecked hr (by rfl) z1l (z0a (z0w (z0a (pv 1) (z0a (pv 2) z0c))) z0c))) (z0d (z0y (PW.pt (pw_or (pt_not (z3j (z0m call_isiTT (by rfl) zisinstance boot_isinstance (z0a (pv 6) (z0a (pe_bltn (v := .ty "tuple") (by rfl) ztuple boot_tuple rfl) z0c))))) (z2w (z0i op_ne (z0m z0j (by rfl) zlen PySem.boot_len (z0a (pv 6) z0c)) (z0m z0j (by rfl) zlen PySem.boot_len (z0a (pv 3) z0c)) (z0n _))))) (z0f (z0l pe_bl)) z0k) (z0d (z3b PassesOwn.never rfl (z2j (by rfl) zrange (z0a (z0m z0j (by rfl) zlen PySem.boot_len (z0a (pv 3) z0c)) z0c)) (z1h (i := 4) sc.nd rfl (Or.inl rfl)) (z0f (z0y (pt_not (z3j (z0r clawissides hr (by rfl) z1l (z0a (z0u z0v (pv 6) (pv 4) (fun _ _ => rfl)) (z0a (z0u z0o (pv 3) (pv 4) (fun _ _ => rfl)) z0c))))) (z0f (z0l pe_bl)) z0k))) (z0f (z0l pe_bl)))))))), ?_⟩
  simp only [L2.start, List.length_cons, List.length_nil, List.replicate, List.cons_append, List.nil_append, Nat.reduceSub, Nat.reduceAdd, List.map_cons, List.map_nil]
  refine z0h (fun σ G => ∃ (st ot sl : Addr) (qs ps : List Addr) (ds : List Stp) (Ss : List (List Int)) (os : List Int) (mo : Int), moOk mo /\ G st = some (.tup (qs.map V.ref)) /\ StL G qs ds /\ G ot = some (.tup (os.map V.int)) /\ G sl = some (.lst (ps.map V.ref)) /\ TpsM G ps Ss /\ GoodL mo ds Ss /\ 0 < ds.length /\ ds.length ≤ 40 /\ 0 < os.length /\ os.length ≤ 8 /\ (∀ o ∈ os, 0 ≤ o /\ o < (ds.length : Int)) /\ σ = [some (.ref a), some (.ref st), some (.ref ot), some (.ref sl), none, none, none]) ?_ (fun R hR => ?_)
  rotate_left
  · wp_walk using tSeq, tIfS, splprogram, splawcellat, rSlL
    obtain ⟨ms, e8, m8⟩ := cut41 ns
    refine ⟨_, hS, fun p hp => ?_⟩
    rw [e8]
    have sp := z0b hp (.lst (ms.map V.int))
    have hmo : moOk (2 + cellI ns 0 % 511) := ⟨by omega, by omega⟩
    refine ⟨ns, 0, rfl, sp.seq hS, ms, rfl, m8, hmo, fun G r ds Ss os u pr => ?_⟩
    obtain ⟨st, ot, sl, qs, ps, hr0, h1, h3, hot, h2, h4, h5, d0, d40, o0, o8, ob⟩ := pr
    exact ⟨_, hr0, rfl, _, _, rfl, _, _, rfl, _, _, rfl, rfl, hR _ _ ⟨st, ot, sl, qs, ps, ds, Ss, os, _, hmo, h1, h3, hot, h2, h4, h5, d0, d40, o0, o8, ob, rfl⟩⟩
  rintro σ1 G1 ⟨st, ot, sl, qs, ps, ds, Ss, os, mo, hmo, h1, h3, hot, h2, h4, h5, d0, d40, o0, o8, ob, rfl⟩
  have ft := good_fit h5 hmo
  have dS := h5.1
  refine z0h (fun σ G => ∃ y4 y5, Same G1 G /\ σ = [some (.ref a), some (.ref st), some (.ref ot), some (.ref sl), y4, y5, none]) ?_ (fun R hR => ?_)
  rotate_left
  · wp_walk using rPopAt
    refine ⟨_, .inr (.of h1), ?_⟩
    rw [List.length_map, h3.1]
    refine ⟨by omega, by omega, ?_⟩
    rw [Int.toNat_natCast]
    obtain ⟨J, hJ⟩ : ∃ J : Nat -> L2.St -> Hp -> Prop, J = (fun i σ G => ∃ y4 y5, Same G1 G /\ σ = [some (.ref a), some (.ref st), some (.ref ot), some (.ref sl), y4, y5, none]) := ⟨_, rfl⟩
    refine LoopR.mk J (by rw [hJ]; exact ⟨_, _, Same.refl _, rfl⟩) (fun k σ G0 hk h => ?_) (fun σ G h => ?_)
    rotate_left
    · rw [hJ] at h
      obtain ⟨y4, y5, s, rfl⟩ := h
      exact hR _ _ ⟨_, _, s, rfl⟩
    clear hR
    rw [hJ] at h
    obtain ⟨y4, y5, s, rfl⟩ := h
    rw [Int.zero_add]
    have kS : k < Ss.length := by rw [← dS]; exact hk
    obtain ⟨ps', S, es, eS, hSk⟩ := z2l (h4.same s) kS
    obtain ⟨qk, d, eq, ed, hdk⟩ : ∃ q d, atI (qs.map V.ref) (k : Int) = some (.ref q) /\ ds[k]? = some d /\ StpAt G0 q d := by
      have l' : k < qs.length := by rw [h3.1]; exact hk
      obtain ⟨d, e, t⟩ := h3.2 k _ (List.getElem?_eq_getElem l')
      exact ⟨_, d, z0p (by rw [List.getElem?_map, List.getElem?_eq_getElem l']; rfl), e, t.same s⟩
    have ok := h5.2.2 k d S ed eS
    have fS := ft S (List.mem_of_getElem? eS)
    have fT : ∀ T ∈ Ss.take k, fit T := fun T hT => ft T (List.mem_of_mem_take hT)
    have s6 := fS.2.1
    simp only [gName, List.set_cons_succ, List.set_cons_zero]
    refine z0h (fun σ G => Same G0 G /\ ∃ hl, G hl = some (.lst ((ps.take k).map V.ref)) /\ σ = [some (.ref a), some (.ref st), some (.ref ot), some (.ref sl), some (.int (k : Int)), some (.ref hl), none]) ?_ (fun R hR => ?_)
    rotate_left
    · wp_walk using tSeq, tIfS, rSlL
      refine ⟨_, .of (s _ _ h2), fun p hp => ?_⟩
      rw [cut_refs]
      exact ⟨_, .inl (.of z0g), fun l hl => hR _ _ ⟨(z0b hp _).trans (z0b hl _), l, z0g, rfl⟩⟩
    rintro σ2 G2 ⟨s2, hl, hhl, rfl⟩
    have t2 := s.trans s2
    refine z0h (fun σ G => Same G2 G /\ σ = [some (.ref a), some (.ref st), some (.ref ot), some (.ref sl), some (.int (k : Int)), some (.ref hl), none]) ?_ (fun R hR => ?_)
    rotate_left
    · wp_walk using tSeq, tIfS, spsides, splawissides, rSlL
      refine ⟨_, t2 _ _ h1, _, eq, qk, rfl, d, hdk.same s2, S, Ss.take k, ps.take k, .inl hhl, (h4.same t2).take k, fT, ok, fS, fun G3 r u3 hr3 => ⟨_, (t2.trans u3) _ _ h2, _, es, ps', rfl, S, hr3, .inr ((s2.trans u3) _ _ hSk), by omega, ?_⟩⟩
      refine ⟨_, .of ((t2.trans u3) _ _ h2), fun p hp => ?_⟩
      rw [cut_refs]
      exact ⟨⟨_, rfl⟩, alk_refs ((h4.same (t2.trans (u3.trans (z0b hp _)))).take k) (z0b hp _ _ _ (u3 _ _ hhl)) z0g, hR _ _ ⟨u3.trans (z0b hp _), rfl⟩⟩
    rintro σ3 G3 ⟨s3, rfl⟩
    have t3 := t2.trans s3
    wp_walk using tSeq, tIfS, spsides, splawissides
    refine ⟨_, t3 _ _ h1, _, eq, _, .inl ⟨.of (s3 _ _ hhl), fun tp htp => ?_⟩⟩
    have u4 := z0b htp (.tup ((ps.take k).map V.ref))
    have t4 := t3.trans u4
    refine ⟨qk, rfl, d, hdk.same (s2.trans (s3.trans u4)), S, Ss.take k, ps.take k, .inr rfl, (h4.same t4).take k, fT, ok, fS, fun G5 r u5 hr5 => ⟨_, (t4.trans u5) _ _ h2, _, es, ps', rfl, S, hr5, .inr ((s2.trans (s3.trans (u4.trans u5))) _ _ hSk), by omega, ?_⟩⟩
    rw [hJ]
    exact ⟨_, _, t4.trans u5, rfl⟩
  rintro σ2 G2 ⟨y4, y5, s2, rfl⟩
  refine z0h (fun σ G => Same G2 G /\ σ = [some (.ref a), some (.ref st), some (.ref ot), some (.ref sl), y4, y5, none]) ?_ (fun R hR => ?_)
  rotate_left
  · wp_walk using tSeq, tIfS, spffault
    exact ⟨small (by decide), fun p hp => ⟨ds, Ss, os, ⟨st, ot, qs, z0g, z0b hp _ _ _ (s2 _ _ h1), h3.up (z4a (s2.trans (z0b hp _))), z0b hp _ _ _ (s2 _ _ hot)⟩, mo, ⟨hmo, h5, d0, d40, o0, o8, ob⟩, fun G u => hR _ _ ⟨(z0b hp _).trans u, rfl⟩⟩⟩
  rintro σ3 G3 ⟨s3, rfl⟩
  refine z0h (fun σ G => ∃ (fo : Addr) (rs : List Addr), Same G3 G /\ G fo = some (.tup (rs.map V.ref)) /\ TpsM G rs Ss /\ σ = [some (.ref a), some (.ref st), some (.ref ot), some (.ref sl), y4, y5, some (.ref fo)]) ?_ (fun R hR => ?_)
  rotate_left
  · wp_walk using tSeq, tIfS, spchecked
    have t3 := s2.trans s3
    exact ⟨small (by decide), fun p hp => ⟨ds, Ss, os, ⟨st, ot, qs, z0g, z0b hp _ _ _ (t3 _ _ h1), h3.up (z4a (t3.trans (z0b hp _))), z0b hp _ _ _ (t3 _ _ hot)⟩, mo, ⟨hmo, h5, d0, d40, o0, o8, ob⟩, fun G t rs u e1 e2 => hR _ _ ⟨t, rs, (z0b hp _).trans u, e1, e2, rfl⟩⟩⟩
  rintro σ4 G4 ⟨fo, rs, s4, hfo, tr, rfl⟩
  refine z0h (fun σ G => G = G4 /\ σ = [some (.ref a), some (.ref st), some (.ref ot), some (.ref sl), y4, y5, some (.ref fo)]) ?_ (fun R hR => ?_)
  rotate_left
  · wp_walk using tSeq, tIfS
    refine ⟨_, hfo, _, .inr (.of hfo), _, .inl (.of ((s2.trans (s3.trans s4)) _ _ h2)), ?_⟩
    rw [List.length_map, List.length_map, tr.1, h4.1, if_neg (fun z => z rfl)]
    exact hR _ _ ⟨rfl, rfl⟩
  rintro σ5 G5 ⟨rfl, rfl⟩
  have t5 := s2.trans (s3.trans s4)
  refine z0h (fun σ G => True) ?_ (fun R hR => ?_)
  rotate_left
  · wp_walk using tSeq, tIfS
    refine ⟨_, .inl (.of (t5 _ _ h2)), ?_⟩
    rw [List.length_map, h4.1]
    refine ⟨by omega, by omega, ?_⟩
    rw [Int.toNat_natCast]
    refine LoopR.mk (fun i σ G => ∃ y4, G = G5 /\ σ = [some (.ref a), some (.ref st), some (.ref ot), some (.ref sl), y4, y5, some (.ref fo)]) ⟨_, rfl, rfl⟩ (fun k σ G0 hk h => ?_) (fun σ G h => hR _ _ trivial)
    obtain ⟨y4, rfl, rfl⟩ := h
    rw [Int.zero_add]
    obtain ⟨pf, S, ef, eS, hSf⟩ := z2l tr hk
    obtain ⟨pk, S', ek, eS', hSk⟩ := z2l (h4.same t5) hk
    cases eS'.symm.trans eS
    have s6 := (ft S (List.mem_of_getElem? eS)).2.1
    wp_walk using tSeq, tIfS, splawissides
    exact ⟨_, hfo, _, ef, _, t5 _ _ h2, _, ek, pf, rfl, pk, rfl, S, hSf, .inr hSk, by omega, _, rfl⟩
  rintro σ6 G6 _
  wp_walk using tSeq, tIfS
  exact q _
theorem z1v {α : Type} {us : List α} (h : us.length = 1) : ∃ x0, us = [x0] := by
  match us, h with
  | [x0], _ => exact ⟨_, rfl⟩
theorem z1p {α : Type} {us : List α} (h : us.length = 2) : ∃ x0 x1, us = [x0, x1] := by
  match us, h with
  | [x0, x1], _ => exact ⟨_, _, rfl⟩
theorem z2s {α : Type} {us : List α} (h : us.length = 3) : ∃ x0 x1 x2, us = [x0, x1, x2] := by
  match us, h with
  | [x0, x1, x2], _ => exact ⟨_, _, _, rfl⟩
theorem us_len4 {α : Type} {us : List α} (h : us.length = 4) : ∃ x0 x1 x2 x3, us = [x0, x1, x2, x3] := by
  match us, h with
  | [x0, x1, x2, x3], _ => exact ⟨_, _, _, _, rfl⟩
theorem us_len5 {α : Type} {us : List α} (h : us.length = 5) : ∃ x0 x1 x2 x3 x4, us = [x0, x1, x2, x3, x4] := by
  match us, h with
  | [x0, x1, x2, x3, x4], _ => exact ⟨_, _, _, _, _, rfl⟩
theorem all_mk {l : PySem.W.OpenLaw} {w : World} {K : PySem.W.Frag} {h : Heap} {mg : Str -> Option Value} {fa f0 f1 f2 f3 f4 f5 f6 f7 f8 f9 f10 f11 f12 f13 f14 f15 f16 f17 f18 f19 f20 f21 f22 f23 f24 f25 f26 f27 f28 f29 f30 f31 f32 f33 f34 f35 f36 f37 f38 f39 f40 f41 f42 f43 f44 f45 f46 f47 f48 f49 f50 f51 f52 : Addr} (X : K.In h) (G : h.Ns mainGlobals mg) (hfa : mg "law" = some (.ref fa))
    {od0 an0 od1 an1 od2 an2 od3 an3 od4 an4 od5 an5 od6 an6 od7 an7 od8 an8 od9 an9 od10 an10 od11 an11 od12 an12 od13 an13 od14 an14 od15 an15 od16 an16 od17 an17 od18 an18 od19 an19 od20 an20 od21 an21 od22 an22 od23 an23 od24 an24 od25 an25 od26 an26 od27 an27 od28 an28 od29 an29 od30 an30 od31 an31 od32 an32 od33 an33 od34 an34 od35 an35 od36 an36 od37 an37 od38 an38 od39 an39 od40 an40 od41 an41 od42 an42 od43 an43 od44 an44 od45 an45 od46 an46 od47 an47 od48 an48 od49 an49 od50 an50 od51 an51 od52 an52 : Option Addr} {sl0 sl1 sl2 sl3 sl4 sl5 sl6 sl7 sl8 sl9 sl10 sl11 sl12 sl13 sl14 sl15 sl16 sl17 sl18 sl19 sl20 sl21 sl22 sl23 sl24 sl25 sl26 sl27 sl28 sl29 sl30 sl31 sl32 sl33 sl34 sl35 sl36 sl37 sl38 sl39 sl40 sl41 sl42 sl43 sl44 sl45 sl46 sl47 sl48 sl49 sl50 sl51 sl52 : Array (Option Value)} {oc0 kV0 dc0 pm0 ct0 cd0 oc1 kV1 dc1 pm1 ct1 cd1 oc2 kV2 dc2 pm2 ct2 cd2 oc3 kV3 dc3 pm3 ct3 cd3 oc4 kV4 dc4 pm4 ct4 cd4 oc5 kV5 dc5 pm5 ct5 cd5 oc6 kV6 dc6 pm6 ct6 cd6 oc7 kV7 dc7 pm7 ct7 cd7 oc8 kV8 dc8 pm8 ct8 cd8 oc9 kV9 dc9 pm9 ct9 cd9 oc10 kV10 dc10 pm10 ct10 cd10 oc11 kV11 dc11 pm11 ct11 cd11 oc12 kV12 dc12 pm12 ct12 cd12 oc13 kV13 dc13 pm13 ct13 cd13 oc14 kV14 dc14 pm14 ct14 cd14 oc15 kV15 dc15 pm15 ct15 cd15 oc16 kV16 dc16 pm16 ct16 cd16 oc17 kV17 dc17 pm17 ct17 cd17 oc18 kV18 dc18 pm18 ct18 cd18 oc19 kV19 dc19 pm19 ct19 cd19 oc20 kV20 dc20 pm20 ct20 cd20 oc21 kV21 dc21 pm21 ct21 cd21 oc22 kV22 dc22 pm22 ct22 cd22 oc23 kV23 dc23 pm23 ct23 cd23 oc24 kV24 dc24 pm24 ct24 cd24 oc25 kV25 dc25 pm25 ct25 cd25 oc26 kV26 dc26 pm26 ct26 cd26 oc27 kV27 dc27 pm27 ct27 cd27 oc28 kV28 dc28 pm28 ct28 cd28 oc29 kV29 dc29 pm29 ct29 cd29 oc30 kV30 dc30 pm30 ct30 cd30 oc31 kV31 dc31 pm31 ct31 cd31 oc32 kV32 dc32 pm32 ct32 cd32 oc33 kV33 dc33 pm33 ct33 cd33 oc34 kV34 dc34 pm34 ct34 cd34 oc35 kV35 dc35 pm35 ct35 cd35 oc36 kV36 dc36 pm36 ct36 cd36 oc37 kV37 dc37 pm37 ct37 cd37 oc38 kV38 dc38 pm38 ct38 cd38 oc39 kV39 dc39 pm39 ct39 cd39 oc40 kV40 dc40 pm40 ct40 cd40 oc41 kV41 dc41 pm41 ct41 cd41 oc42 kV42 dc42 pm42 ct42 cd42 oc43 kV43 dc43 pm43 ct43 cd43 oc44 kV44 dc44 pm44 ct44 cd44 oc45 kV45 dc45 pm45 ct45 cd45 oc46 kV46 dc46 pm46 ct46 cd46 oc47 kV47 dc47 pm47 ct47 cd47 oc48 kV48 dc48 pm48 ct48 cd48 oc49 kV49 dc49 pm49 ct49 cd49 oc50 kV50 dc50 pm50 ct50 cd50 oc51 kV51 dc51 pm51 ct51 cd51 oc52 kV52 dc52 pm52 ct52 cd52 : Value}
    (a0 : PySem.W.nsIn K mainGlobals "_law_number" = some (some (.ref f0))) (l0 : K.lookup f0 = some ⟨oc0, od0, .func (PySem.W.fnOf "_law_number" "_law_number" (defArgs slawnumber) (defBody slawnumber) (defScope slawnumber) .none kV0 dc0 pm0 an0 cd0 ct0), sl0⟩) (q0 : PySem.W.codeIn K cd0 "_law_number" = true) (k0 : PySem.W.keepIn K (.ref f0) = true)
    (a1 : PySem.W.nsIn K mainGlobals "_law_size" = some (some (.ref f1))) (l1 : K.lookup f1 = some ⟨oc1, od1, .func (PySem.W.fnOf "_law_size" "_law_size" (defArgs slawsize) (defBody slawsize) (defScope slawsize) .none kV1 dc1 pm1 an1 cd1 ct1), sl1⟩) (q1 : PySem.W.codeIn K cd1 "_law_size" = true) (k1 : PySem.W.keepIn K (.ref f1) = true)
    (a2 : PySem.W.nsIn K mainGlobals "_law_wide" = some (some (.ref f2))) (l2 : K.lookup f2 = some ⟨oc2, od2, .func (PySem.W.fnOf "_law_wide" "_law_wide" (defArgs slawwide) (defBody slawwide) (defScope slawwide) .none kV2 dc2 pm2 an2 cd2 ct2), sl2⟩) (q2 : PySem.W.codeIn K cd2 "_law_wide" = true) (k2 : PySem.W.keepIn K (.ref f2) = true)
    (a3 : PySem.W.nsIn K mainGlobals "_law_recent" = some (some (.ref f3))) (l3 : K.lookup f3 = some ⟨oc3, od3, .func (PySem.W.fnOf "_law_recent" "_law_recent" (defArgs slawrecent) (defBody slawrecent) (defScope slawrecent) .none kV3 dc3 pm3 an3 cd3 ct3), sl3⟩) (q3 : PySem.W.codeIn K cd3 "_law_recent" = true) (k3 : PySem.W.keepIn K (.ref f3) = true)
    (a4 : PySem.W.nsIn K mainGlobals "_law_led" = some (some (.ref f4))) (l4 : K.lookup f4 = some ⟨oc4, od4, .func (PySem.W.fnOf "_law_led" "_law_led" (defArgs slawled) (defBody slawled) (defScope slawled) .none kV4 dc4 pm4 an4 cd4 ct4), sl4⟩) (q4 : PySem.W.codeIn K cd4 "_law_led" = true) (k4 : PySem.W.keepIn K (.ref f4) = true)
    (a5 : PySem.W.nsIn K mainGlobals "_law_begun" = some (some (.ref f5))) (l5 : K.lookup f5 = some ⟨oc5, od5, .func (PySem.W.fnOf "_law_begun" "_law_begun" (defArgs slawbegun) (defBody slawbegun) (defScope slawbegun) .none kV5 dc5 pm5 an5 cd5 ct5), sl5⟩) (q5 : PySem.W.codeIn K cd5 "_law_begun" = true) (k5 : PySem.W.keepIn K (.ref f5) = true)
    (a6 : PySem.W.nsIn K mainGlobals "_law_laid" = some (some (.ref f6))) (l6 : K.lookup f6 = some ⟨oc6, od6, .func (PySem.W.fnOf "_law_laid" "_law_laid" (defArgs slawlaid) (defBody slawlaid) (defScope slawlaid) .none kV6 dc6 pm6 an6 cd6 ct6), sl6⟩) (q6 : PySem.W.codeIn K cd6 "_law_laid" = true) (k6 : PySem.W.keepIn K (.ref f6) = true)
    (a7 : PySem.W.nsIn K mainGlobals "_law_both" = some (some (.ref f7))) (l7 : K.lookup f7 = some ⟨oc7, od7, .func (PySem.W.fnOf "_law_both" "_law_both" (defArgs slawboth) (defBody slawboth) (defScope slawboth) .none kV7 dc7 pm7 an7 cd7 ct7), sl7⟩) (q7 : PySem.W.codeIn K cd7 "_law_both" = true) (k7 : PySem.W.keepIn K (.ref f7) = true)
    (a8 : PySem.W.nsIn K mainGlobals "_law_moved" = some (some (.ref f8))) (l8 : K.lookup f8 = some ⟨oc8, od8, .func (PySem.W.fnOf "_law_moved" "_law_moved" (defArgs slawmoved) (defBody slawmoved) (defScope slawmoved) .none kV8 dc8 pm8 an8 cd8 ct8), sl8⟩) (q8 : PySem.W.codeIn K cd8 "_law_moved" = true) (k8 : PySem.W.keepIn K (.ref f8) = true)
    (a9 : PySem.W.nsIn K mainGlobals "_law_lifted" = some (some (.ref f9))) (l9 : K.lookup f9 = some ⟨oc9, od9, .func (PySem.W.fnOf "_law_lifted" "_law_lifted" (defArgs slawlifted) (defBody slawlifted) (defScope slawlifted) .none kV9 dc9 pm9 an9 cd9 ct9), sl9⟩) (q9 : PySem.W.codeIn K cd9 "_law_lifted" = true) (k9 : PySem.W.keepIn K (.ref f9) = true)
    (a10 : PySem.W.nsIn K mainGlobals "_law_met" = some (some (.ref f10))) (l10 : K.lookup f10 = some ⟨oc10, od10, .func (PySem.W.fnOf "_law_met" "_law_met" (defArgs slawmet) (defBody slawmet) (defScope slawmet) .none kV10 dc10 pm10 an10 cd10 ct10), sl10⟩) (q10 : PySem.W.codeIn K cd10 "_law_met" = true) (k10 : PySem.W.keepIn K (.ref f10) = true)
    (a11 : PySem.W.nsIn K mainGlobals "_law_step" = some (some (.ref f11))) (l11 : K.lookup f11 = some ⟨oc11, od11, .func (PySem.W.fnOf "_law_step" "_law_step" (defArgs slawstep) (defBody slawstep) (defScope slawstep) .none kV11 dc11 pm11 an11 cd11 ct11), sl11⟩) (q11 : PySem.W.codeIn K cd11 "_law_step" = true) (k11 : PySem.W.keepIn K (.ref f11) = true)
    (a12 : PySem.W.nsIn K mainGlobals "_law_program" = some (some (.ref f12))) (l12 : K.lookup f12 = some ⟨oc12, od12, .func (PySem.W.fnOf "_law_program" "_law_program" (defArgs slawprogram) (defBody slawprogram) (defScope slawprogram) .none kV12 dc12 pm12 an12 cd12 ct12), sl12⟩) (q12 : PySem.W.codeIn K cd12 "_law_program" = true) (k12 : PySem.W.keepIn K (.ref f12) = true)
    (a13 : PySem.W.nsIn K mainGlobals "_law_whole" = some (some (.ref f13))) (l13 : K.lookup f13 = some ⟨oc13, od13, .func (PySem.W.fnOf "_law_whole" "_law_whole" (defArgs slawwhole) (defBody slawwhole) (defScope slawwhole) .none kV13 dc13 pm13 an13 cd13 ct13), sl13⟩) (q13 : PySem.W.codeIn K cd13 "_law_whole" = true) (k13 : PySem.W.keepIn K (.ref f13) = true)
    (a14 : PySem.W.nsIn K mainGlobals "_law_is_sides" = some (some (.ref f14))) (l14 : K.lookup f14 = some ⟨oc14, od14, .func (PySem.W.fnOf "_law_is_sides" "_law_is_sides" (defArgs slawissides) (defBody slawissides) (defScope slawissides) .none kV14 dc14 pm14 an14 cd14 ct14), sl14⟩) (q14 : PySem.W.codeIn K cd14 "_law_is_sides" = true) (k14 : PySem.W.keepIn K (.ref f14) = true)
    (a15 : PySem.W.nsIn K mainGlobals "_law_cell_at" = some (some (.ref f15))) (l15 : K.lookup f15 = some ⟨oc15, od15, .func (PySem.W.fnOf "_law_cell_at" "_law_cell_at" (defArgs slawcellat) (defBody slawcellat) (defScope slawcellat) .none kV15 dc15 pm15 an15 cd15 ct15), sl15⟩) (q15 : PySem.W.codeIn K cd15 "_law_cell_at" = true) (k15 : PySem.W.keepIn K (.ref f15) = true)
    (a16 : PySem.W.nsIn K mainGlobals "amount" = some (some (.ref f16))) (l16 : K.lookup f16 = some ⟨oc16, od16, .func (PySem.W.fnOf "amount" "amount" (defArgs samount) (defBody samount) (defScope samount) .none kV16 dc16 pm16 an16 cd16 ct16), sl16⟩) (q16 : PySem.W.codeIn K cd16 "amount" = true) (k16 : PySem.W.keepIn K (.ref f16) = true)
    (a17 : PySem.W.nsIn K mainGlobals "breadth" = some (some (.ref f17))) (l17 : K.lookup f17 = some ⟨oc17, od17, .func (PySem.W.fnOf "breadth" "breadth" (defArgs sbreadth) (defBody sbreadth) (defScope sbreadth) .none kV17 dc17 pm17 an17 cd17 ct17), sl17⟩) (q17 : PySem.W.codeIn K cd17 "breadth" = true) (k17 : PySem.W.keepIn K (.ref f17) = true)
    (a18 : PySem.W.nsIn K mainGlobals "allowed" = some (some (.ref f18))) (l18 : K.lookup f18 = some ⟨oc18, od18, .func (PySem.W.fnOf "allowed" "allowed" (defArgs sallowed) (defBody sallowed) (defScope sallowed) .none kV18 dc18 pm18 an18 cd18 ct18), sl18⟩) (q18 : PySem.W.codeIn K cd18 "allowed" = true) (k18 : PySem.W.keepIn K (.ref f18) = true)
    (a19 : PySem.W.nsIn K mainGlobals "changed_at" = some (some (.ref f19))) (l19 : K.lookup f19 = some ⟨oc19, od19, .func (PySem.W.fnOf "changed_at" "changed_at" (defArgs schangedat) (defBody schangedat) (defScope schangedat) .none kV19 dc19 pm19 an19 cd19 ct19), sl19⟩) (q19 : PySem.W.codeIn K cd19 "changed_at" = true) (k19 : PySem.W.keepIn K (.ref f19) = true)
    (a20 : PySem.W.nsIn K mainGlobals "added_at" = some (some (.ref f20))) (l20 : K.lookup f20 = some ⟨oc20, od20, .func (PySem.W.fnOf "added_at" "added_at" (defArgs saddedat) (defBody saddedat) (defScope saddedat) .none kV20 dc20 pm20 an20 cd20 ct20), sl20⟩) (q20 : PySem.W.codeIn K cd20 "added_at" = true) (k20 : PySem.W.keepIn K (.ref f20) = true)
    (a21 : PySem.W.nsIn K mainGlobals "dropped_at" = some (some (.ref f21))) (l21 : K.lookup f21 = some ⟨oc21, od21, .func (PySem.W.fnOf "dropped_at" "dropped_at" (defArgs sdroppedat) (defBody sdroppedat) (defScope sdroppedat) .none kV21 dc21 pm21 an21 cd21 ct21), sl21⟩) (q21 : PySem.W.codeIn K cd21 "dropped_at" = true) (k21 : PySem.W.keepIn K (.ref f21) = true)
    (a22 : PySem.W.nsIn K mainGlobals "ask_side" = some (some (.ref f22))) (l22 : K.lookup f22 = some ⟨oc22, od22, .func (PySem.W.fnOf "ask_side" "ask_side" (defArgs saskside) (defBody saskside) (defScope saskside) .none kV22 dc22 pm22 an22 cd22 ct22), sl22⟩) (q22 : PySem.W.codeIn K cd22 "ask_side" = true) (k22 : PySem.W.keepIn K (.ref f22) = true)
    (a23 : PySem.W.nsIn K mainGlobals "turned_sides" = some (some (.ref f23))) (l23 : K.lookup f23 = some ⟨oc23, od23, .func (PySem.W.fnOf "turned_sides" "turned_sides" (defArgs sturnedsides) (defBody sturnedsides) (defScope sturnedsides) .none kV23 dc23 pm23 an23 cd23 ct23), sl23⟩) (q23 : PySem.W.codeIn K cd23 "turned_sides" = true) (k23 : PySem.W.keepIn K (.ref f23) = true)
    (a24 : PySem.W.nsIn K mainGlobals "flipped_sides" = some (some (.ref f24))) (l24 : K.lookup f24 = some ⟨oc24, od24, .func (PySem.W.fnOf "flipped_sides" "flipped_sides" (defArgs sflippedsides) (defBody sflippedsides) (defScope sflippedsides) .none kV24 dc24 pm24 an24 cd24 ct24), sl24⟩) (q24 : PySem.W.codeIn K cd24 "flipped_sides" = true) (k24 : PySem.W.keepIn K (.ref f24) = true)
    (a25 : PySem.W.nsIn K mainGlobals "cut_sides" = some (some (.ref f25))) (l25 : K.lookup f25 = some ⟨oc25, od25, .func (PySem.W.fnOf "cut_sides" "cut_sides" (defArgs scutsides) (defBody scutsides) (defScope scutsides) .none kV25 dc25 pm25 an25 cd25 ct25), sl25⟩) (q25 : PySem.W.codeIn K cd25 "cut_sides" = true) (k25 : PySem.W.keepIn K (.ref f25) = true)
    (a26 : PySem.W.nsIn K mainGlobals "spread_sides" = some (some (.ref f26))) (l26 : K.lookup f26 = some ⟨oc26, od26, .func (PySem.W.fnOf "spread_sides" "spread_sides" (defArgs sspreadsides) (defBody sspreadsides) (defScope sspreadsides) .none kV26 dc26 pm26 an26 cd26 ct26), sl26⟩) (q26 : PySem.W.codeIn K cd26 "spread_sides" = true) (k26 : PySem.W.keepIn K (.ref f26) = true)
    (a27 : PySem.W.nsIn K mainGlobals "led_sides" = some (some (.ref f27))) (l27 : K.lookup f27 = some ⟨oc27, od27, .func (PySem.W.fnOf "led_sides" "led_sides" (defArgs sledsides) (defBody sledsides) (defScope sledsides) .none kV27 dc27 pm27 an27 cd27 ct27), sl27⟩) (q27 : PySem.W.codeIn K cd27 "led_sides" = true) (k27 : PySem.W.keepIn K (.ref f27) = true)
    (a28 : PySem.W.nsIn K mainGlobals "folded_sides" = some (some (.ref f28))) (l28 : K.lookup f28 = some ⟨oc28, od28, .func (PySem.W.fnOf "folded_sides" "folded_sides" (defArgs sfoldedsides) (defBody sfoldedsides) (defScope sfoldedsides) .none kV28 dc28 pm28 an28 cd28 ct28), sl28⟩) (q28 : PySem.W.codeIn K cd28 "folded_sides" = true) (k28 : PySem.W.keepIn K (.ref f28) = true)
    (a29 : PySem.W.nsIn K mainGlobals "laid_sides" = some (some (.ref f29))) (l29 : K.lookup f29 = some ⟨oc29, od29, .func (PySem.W.fnOf "laid_sides" "laid_sides" (defArgs slaidsides) (defBody slaidsides) (defScope slaidsides) .none kV29 dc29 pm29 an29 cd29 ct29), sl29⟩) (q29 : PySem.W.codeIn K cd29 "laid_sides" = true) (k29 : PySem.W.keepIn K (.ref f29) = true)
    (a30 : PySem.W.nsIn K mainGlobals "joined_sides" = some (some (.ref f30))) (l30 : K.lookup f30 = some ⟨oc30, od30, .func (PySem.W.fnOf "joined_sides" "joined_sides" (defArgs sjoinedsides) (defBody sjoinedsides) (defScope sjoinedsides) .none kV30 dc30 pm30 an30 cd30 ct30), sl30⟩) (q30 : PySem.W.codeIn K cd30 "joined_sides" = true) (k30 : PySem.W.keepIn K (.ref f30) = true)
    (a31 : PySem.W.nsIn K mainGlobals "counted_sides" = some (some (.ref f31))) (l31 : K.lookup f31 = some ⟨oc31, od31, .func (PySem.W.fnOf "counted_sides" "counted_sides" (defArgs scountedsides) (defBody scountedsides) (defScope scountedsides) .none kV31 dc31 pm31 an31 cd31 ct31), sl31⟩) (q31 : PySem.W.codeIn K cd31 "counted_sides" = true) (k31 : PySem.W.keepIn K (.ref f31) = true)
    (a32 : PySem.W.nsIn K mainGlobals "paired_sides" = some (some (.ref f32))) (l32 : K.lookup f32 = some ⟨oc32, od32, .func (PySem.W.fnOf "paired_sides" "paired_sides" (defArgs spairedsides) (defBody spairedsides) (defScope spairedsides) .none kV32 dc32 pm32 an32 cd32 ct32), sl32⟩) (q32 : PySem.W.codeIn K cd32 "paired_sides" = true) (k32 : PySem.W.keepIn K (.ref f32) = true)
    (a33 : PySem.W.nsIn K mainGlobals "picked_sides" = some (some (.ref f33))) (l33 : K.lookup f33 = some ⟨oc33, od33, .func (PySem.W.fnOf "picked_sides" "picked_sides" (defArgs spickedsides) (defBody spickedsides) (defScope spickedsides) .none kV33 dc33 pm33 an33 cd33 ct33), sl33⟩) (q33 : PySem.W.codeIn K cd33 "picked_sides" = true) (k33 : PySem.W.keepIn K (.ref f33) = true)
    (a34 : PySem.W.nsIn K mainGlobals "fetched_sides" = some (some (.ref f34))) (l34 : K.lookup f34 = some ⟨oc34, od34, .func (PySem.W.fnOf "fetched_sides" "fetched_sides" (defArgs sfetchedsides) (defBody sfetchedsides) (defScope sfetchedsides) .none kV34 dc34 pm34 an34 cd34 ct34), sl34⟩) (q34 : PySem.W.codeIn K cd34 "fetched_sides" = true) (k34 : PySem.W.keepIn K (.ref f34) = true)
    (a35 : PySem.W.nsIn K mainGlobals "wrapped" = some (some (.ref f35))) (l35 : K.lookup f35 = some ⟨oc35, od35, .func (PySem.W.fnOf "wrapped" "wrapped" (defArgs swrapped) (defBody swrapped) (defScope swrapped) .none kV35 dc35 pm35 an35 cd35 ct35), sl35⟩) (q35 : PySem.W.codeIn K cd35 "wrapped" = true) (k35 : PySem.W.keepIn K (.ref f35) = true)
    (a36 : PySem.W.nsIn K mainGlobals "sign_of" = some (some (.ref f36))) (l36 : K.lookup f36 = some ⟨oc36, od36, .func (PySem.W.fnOf "sign_of" "sign_of" (defArgs ssignof) (defBody ssignof) (defScope ssignof) .none kV36 dc36 pm36 an36 cd36 ct36), sl36⟩) (q36 : PySem.W.codeIn K cd36 "sign_of" = true) (k36 : PySem.W.keepIn K (.ref f36) = true)
    (a37 : PySem.W.nsIn K mainGlobals "quotient" = some (some (.ref f37))) (l37 : K.lookup f37 = some ⟨oc37, od37, .func (PySem.W.fnOf "quotient" "quotient" (defArgs squotient) (defBody squotient) (defScope squotient) .none kV37 dc37 pm37 an37 cd37 ct37), sl37⟩) (q37 : PySem.W.codeIn K cd37 "quotient" = true) (k37 : PySem.W.keepIn K (.ref f37) = true)
    (a38 : PySem.W.nsIn K mainGlobals "remainder" = some (some (.ref f38))) (l38 : K.lookup f38 = some ⟨oc38, od38, .func (PySem.W.fnOf "remainder" "remainder" (defArgs sremainder) (defBody sremainder) (defScope sremainder) .none kV38 dc38 pm38 an38 cd38 ct38), sl38⟩) (q38 : PySem.W.codeIn K cd38 "remainder" = true) (k38 : PySem.W.keepIn K (.ref f38) = true)
    (a39 : PySem.W.nsIn K mainGlobals "once" = some (some (.ref f39))) (l39 : K.lookup f39 = some ⟨oc39, od39, .func (PySem.W.fnOf "once" "once" (defArgs sonce) (defBody sonce) (defScope sonce) .none kV39 dc39 pm39 an39 cd39 ct39), sl39⟩) (q39 : PySem.W.codeIn K cd39 "once" = true) (k39 : PySem.W.keepIn K (.ref f39) = true)
    (a40 : PySem.W.nsIn K mainGlobals "twice" = some (some (.ref f40))) (l40 : K.lookup f40 = some ⟨oc40, od40, .func (PySem.W.fnOf "twice" "twice" (defArgs stwice) (defBody stwice) (defScope stwice) .none kV40 dc40 pm40 an40 cd40 ct40), sl40⟩) (q40 : PySem.W.codeIn K cd40 "twice" = true) (k40 : PySem.W.keepIn K (.ref f40) = true)
    (a41 : PySem.W.nsIn K mainGlobals "neutral" = some (some (.ref f41))) (l41 : K.lookup f41 = some ⟨oc41, od41, .func (PySem.W.fnOf "neutral" "neutral" (defArgs sneutral) (defBody sneutral) (defScope sneutral) .none kV41 dc41 pm41 an41 cd41 ct41), sl41⟩) (q41 : PySem.W.codeIn K cd41 "neutral" = true) (k41 : PySem.W.keepIn K (.ref f41) = true)
    (a42 : PySem.W.nsIn K mainGlobals "arg_places" = some (some (.ref f42))) (l42 : K.lookup f42 = some ⟨oc42, od42, .func (PySem.W.fnOf "arg_places" "arg_places" (defArgs sargplaces) (defBody sargplaces) (defScope sargplaces) .none kV42 dc42 pm42 an42 cd42 ct42), sl42⟩) (q42 : PySem.W.codeIn K cd42 "arg_places" = true) (k42 : PySem.W.keepIn K (.ref f42) = true)
    (a43 : PySem.W.nsIn K mainGlobals "args_of" = some (some (.ref f43))) (l43 : K.lookup f43 = some ⟨oc43, od43, .func (PySem.W.fnOf "args_of" "args_of" (defArgs sargsof) (defBody sargsof) (defScope sargsof) .none kV43 dc43 pm43 an43 cd43 ct43), sl43⟩) (q43 : PySem.W.codeIn K cd43 "args_of" = true) (k43 : PySem.W.keepIn K (.ref f43) = true)
    (a44 : PySem.W.nsIn K mainGlobals "ask_word" = some (some (.ref f44))) (l44 : K.lookup f44 = some ⟨oc44, od44, .func (PySem.W.fnOf "ask_word" "ask_word" (defArgs saskword) (defBody saskword) (defScope saskword) .none kV44 dc44 pm44 an44 cd44 ct44), sl44⟩) (q44 : PySem.W.codeIn K cd44 "ask_word" = true) (k44 : PySem.W.keepIn K (.ref f44) = true)
    (a45 : PySem.W.nsIn K mainGlobals "first_sides" = some (some (.ref f45))) (l45 : K.lookup f45 = some ⟨oc45, od45, .func (PySem.W.fnOf "first_sides" "first_sides" (defArgs sfirstsides) (defBody sfirstsides) (defScope sfirstsides) .none kV45 dc45 pm45 an45 cd45 ct45), sl45⟩) (q45 : PySem.W.codeIn K cd45 "first_sides" = true) (k45 : PySem.W.keepIn K (.ref f45) = true)
    (a46 : PySem.W.nsIn K mainGlobals "moved_sides" = some (some (.ref f46))) (l46 : K.lookup f46 = some ⟨oc46, od46, .func (PySem.W.fnOf "moved_sides" "moved_sides" (defArgs smovedsides) (defBody smovedsides) (defScope smovedsides) .none kV46 dc46 pm46 an46 cd46 ct46), sl46⟩) (q46 : PySem.W.codeIn K cd46 "moved_sides" = true) (k46 : PySem.W.keepIn K (.ref f46) = true)
    (a47 : PySem.W.nsIn K mainGlobals "step_sides" = some (some (.ref f47))) (l47 : K.lookup f47 = some ⟨oc47, od47, .func (PySem.W.fnOf "step_sides" "step_sides" (defArgs sstepsides) (defBody sstepsides) (defScope sstepsides) .none kV47 dc47 pm47 an47 cd47 ct47), sl47⟩) (q47 : PySem.W.codeIn K cd47 "step_sides" = true) (k47 : PySem.W.keepIn K (.ref f47) = true)
    (a48 : PySem.W.nsIn K mainGlobals "step_told" = some (some (.ref f48))) (l48 : K.lookup f48 = some ⟨oc48, od48, .func (PySem.W.fnOf "step_told" "step_told" (defArgs ssteptold) (defBody ssteptold) (defScope ssteptold) .none kV48 dc48 pm48 an48 cd48 ct48), sl48⟩) (q48 : PySem.W.codeIn K cd48 "step_told" = true) (k48 : PySem.W.keepIn K (.ref f48) = true)
    (a49 : PySem.W.nsIn K mainGlobals "program_told" = some (some (.ref f49))) (l49 : K.lookup f49 = some ⟨oc49, od49, .func (PySem.W.fnOf "program_told" "program_told" (defArgs sprogramtold) (defBody sprogramtold) (defScope sprogramtold) .none kV49 dc49 pm49 an49 cd49 ct49), sl49⟩) (q49 : PySem.W.codeIn K cd49 "program_told" = true) (k49 : PySem.W.keepIn K (.ref f49) = true)
    (a50 : PySem.W.nsIn K mainGlobals "first_fault" = some (some (.ref f50))) (l50 : K.lookup f50 = some ⟨oc50, od50, .func (PySem.W.fnOf "first_fault" "first_fault" (defArgs sfirstfault) (defBody sfirstfault) (defScope sfirstfault) .none kV50 dc50 pm50 an50 cd50 ct50), sl50⟩) (q50 : PySem.W.codeIn K cd50 "first_fault" = true) (k50 : PySem.W.keepIn K (.ref f50) = true)
    (a51 : PySem.W.nsIn K mainGlobals "checked" = some (some (.ref f51))) (l51 : K.lookup f51 = some ⟨oc51, od51, .func (PySem.W.fnOf "checked" "checked" (defArgs schecked) (defBody schecked) (defScope schecked) .none kV51 dc51 pm51 an51 cd51 ct51), sl51⟩) (q51 : PySem.W.codeIn K cd51 "checked" = true) (k51 : PySem.W.keepIn K (.ref f51) = true)
    (a52 : PySem.W.nsIn K mainGlobals "law" = some (some (.ref f52))) (l52 : K.lookup f52 = some ⟨oc52, od52, .func (PySem.W.fnOf "law" "law" (defArgs slaw) (defBody slaw) (defScope slaw) .none kV52 dc52 pm52 an52 cd52 ct52), sl52⟩) (q52 : PySem.W.codeIn K cd52 "law" = true) (k52 : PySem.W.keepIn K (.ref f52) = true)
    (zmax : PySem.W.nsIn K mainGlobals "max" = some none)
    (zlen : PySem.W.nsIn K mainGlobals "len" = some none)
    (zmin : PySem.W.nsIn K mainGlobals "min" = some none)
    (zrange : PySem.W.nsIn K mainGlobals "range" = some none)
    (ztuple : PySem.W.nsIn K mainGlobals "tuple" = some none)
    (zreversed : PySem.W.nsIn K mainGlobals "reversed" = some none)
    (zlist : PySem.W.nsIn K mainGlobals "list" = some none)
    (zint : PySem.W.nsIn K mainGlobals "int" = some none)
    (zsum : PySem.W.nsIn K mainGlobals "sum" = some none)
    (zisinstance : PySem.W.nsIn K mainGlobals "isinstance" = some none)
    (zbool : PySem.W.nsIn K mainGlobals "bool" = some none)
    (zsorted : PySem.W.nsIn K mainGlobals "sorted" = some none)
    (zabs : PySem.W.nsIn K mainGlobals "abs" = some none)
    (zany : PySem.W.nsIn K mainGlobals "any" = some none)
    {tMOST_SIDES : Tok} (gMOST_SIDES : PySem.W.nsIn K mainGlobals "MOST_SIDES" = some (some (.int 6 tMOST_SIDES)))
    {tMOST_BREADTH : Tok} (gMOST_BREADTH : PySem.W.nsIn K mainGlobals "MOST_BREADTH" = some (some (.int 512 tMOST_BREADTH)))
    {tLOW : Tok} (gLOW : PySem.W.nsIn K mainGlobals "LOW" = some (some (.int (-9223372036854775808) tLOW)))
    {tHIGH : Tok} (gHIGH : PySem.W.nsIn K mainGlobals "HIGH" = some (some (.int 9223372036854775807 tHIGH)))
    {tMOST_STEPS : Tok} (gMOST_STEPS : PySem.W.nsIn K mainGlobals "MOST_STEPS" = some (some (.int 40 tMOST_STEPS)))
    {tMOST_OUTS : Tok} (gMOST_OUTS : PySem.W.nsIn K mainGlobals "MOST_OUTS" = some (some (.int 8 tMOST_OUTS)))
    {CTooLarge : Addr} (nTooLarge : PySem.W.nsIn K mainGlobals "TooLarge" = some (some (.ref CTooLarge)))
    {CNoSide : Addr} (nNoSide : PySem.W.nsIn K mainGlobals "NoSide" = some (some (.ref CNoSide)))
    {CBeyond : Addr} (nBeyond : PySem.W.nsIn K mainGlobals "Beyond" = some (some (.ref CBeyond)))
    {CUnlike : Addr} (nUnlike : PySem.W.nsIn K mainGlobals "Unlike" = some (some (.ref CUnlike)))
    {CNoWord : Addr} (nNoWord : PySem.W.nsIn K mainGlobals "NoWord" = some (some (.ref CNoWord)))
    {dPT : Addr} {nPT : Nat} {tP0 tP1 tP2 tP3 tP4 tP5 tP6 tP7 tP8 tP9 tP10 tP11 tP12 tP13 tP14 : Tok} {aP0 aP1 aP2 aP3 aP4 aP5 aP6 aP7 aP8 aP9 aP10 aP11 aP12 aP13 aP14 : Addr}
    (gPT : PySem.W.nsIn K mainGlobals "PARTS" = some (some (.ref dPT))) (dPT0 : (dPT == sysModules) = false)
    (lPT : K.lookup dPT = some { cls := .type "dict", data := .dict #[⟨PyData.keyHash w.params "in", .str "in" tP0, .ref aP0⟩, ⟨PyData.keyHash w.params "num", .str "num" tP1, .ref aP1⟩, ⟨PyData.keyHash w.params "count", .str "count" tP2, .ref aP2⟩, ⟨PyData.keyHash w.params "each", .str "each" tP3, .ref aP3⟩, ⟨PyData.keyHash w.params "pair", .str "pair" tP4, .ref aP4⟩, ⟨PyData.keyHash w.params "pick", .str "pick" tP5, .ref aP5⟩, ⟨PyData.keyHash w.params "turn", .str "turn" tP6, .ref aP6⟩, ⟨PyData.keyHash w.params "flip", .str "flip" tP7, .ref aP7⟩, ⟨PyData.keyHash w.params "cut", .str "cut" tP8, .ref aP8⟩, ⟨PyData.keyHash w.params "spread", .str "spread" tP9, .ref aP9⟩, ⟨PyData.keyHash w.params "lay", .str "lay" tP10, .ref aP10⟩, ⟨PyData.keyHash w.params "join", .str "join" tP11, .ref aP11⟩, ⟨PyData.keyHash w.params "fetch", .str "fetch" tP12, .ref aP12⟩, ⟨PyData.keyHash w.params "fold", .str "fold" tP13, .ref aP13⟩, ⟨PyData.keyHash w.params "run", .str "run" tP14, .ref aP14⟩] nPT })
    {odP0 : Option Addr} {nP0 : Nat} {slP0 : Array (Option Value)} {aP0_0 : Addr} (lP0 : K.lookup aP0 = some ⟨.type "tuple", odP0, .seq #[.ref aP0_0] nP0, slP0⟩)
    {odP0_0 : Option Addr} {nP0_0 : Nat} {slP0_0 : Array (Option Value)} {tP0_0 uP0_0 : Tok} (lP0_0 : K.lookup aP0_0 = some ⟨.type "tuple", odP0_0, .seq #[.str "sides" tP0_0, .int 1 uP0_0] nP0_0, slP0_0⟩)
    {odP1 : Option Addr} {nP1 : Nat} {slP1 : Array (Option Value)} {aP1_0 : Addr} (lP1 : K.lookup aP1 = some ⟨.type "tuple", odP1, .seq #[.ref aP1_0] nP1, slP1⟩)
    {odP1_0 : Option Addr} {nP1_0 : Nat} {slP1_0 : Array (Option Value)} {tP1_0 uP1_0 : Tok} (lP1_0 : K.lookup aP1_0 = some ⟨.type "tuple", odP1_0, .seq #[.str "number" tP1_0, .int 1 uP1_0] nP1_0, slP1_0⟩)
    {odP2 : Option Addr} {nP2 : Nat} {slP2 : Array (Option Value)} {aP2_0 aP2_1 : Addr} (lP2 : K.lookup aP2 = some ⟨.type "tuple", odP2, .seq #[.ref aP2_0, .ref aP2_1] nP2, slP2⟩)
    {odP2_0 : Option Addr} {nP2_0 : Nat} {slP2_0 : Array (Option Value)} {tP2_0 uP2_0 : Tok} (lP2_0 : K.lookup aP2_0 = some ⟨.type "tuple", odP2_0, .seq #[.str "small" tP2_0, .int 2 uP2_0] nP2_0, slP2_0⟩)
    {odP2_1 : Option Addr} {nP2_1 : Nat} {slP2_1 : Array (Option Value)} {tP2_1 uP2_1 : Tok} (lP2_1 : K.lookup aP2_1 = some ⟨.type "tuple", odP2_1, .seq #[.str "sides" tP2_1, .int 1 uP2_1] nP2_1, slP2_1⟩)
    {odP3 : Option Addr} {nP3 : Nat} {slP3 : Array (Option Value)} {aP3_0 aP3_1 : Addr} (lP3 : K.lookup aP3 = some ⟨.type "tuple", odP3, .seq #[.ref aP3_0, .ref aP3_1] nP3, slP3⟩)
    {odP3_0 : Option Addr} {nP3_0 : Nat} {slP3_0 : Array (Option Value)} {tP3_0 uP3_0 : Tok} (lP3_0 : K.lookup aP3_0 = some ⟨.type "tuple", odP3_0, .seq #[.str "word" tP3_0, .int 1 uP3_0] nP3_0, slP3_0⟩)
    {odP3_1 : Option Addr} {nP3_1 : Nat} {slP3_1 : Array (Option Value)} {tP3_1 uP3_1 : Tok} (lP3_1 : K.lookup aP3_1 = some ⟨.type "tuple", odP3_1, .seq #[.str "step" tP3_1, .int 2 uP3_1] nP3_1, slP3_1⟩)
    {odP4 : Option Addr} {nP4 : Nat} {slP4 : Array (Option Value)} {aP4_0 aP4_1 aP4_2 : Addr} (lP4 : K.lookup aP4 = some ⟨.type "tuple", odP4, .seq #[.ref aP4_0, .ref aP4_1, .ref aP4_2] nP4, slP4⟩)
    {odP4_0 : Option Addr} {nP4_0 : Nat} {slP4_0 : Array (Option Value)} {tP4_0 uP4_0 : Tok} (lP4_0 : K.lookup aP4_0 = some ⟨.type "tuple", odP4_0, .seq #[.str "word" tP4_0, .int 1 uP4_0] nP4_0, slP4_0⟩)
    {odP4_1 : Option Addr} {nP4_1 : Nat} {slP4_1 : Array (Option Value)} {tP4_1 uP4_1 : Tok} (lP4_1 : K.lookup aP4_1 = some ⟨.type "tuple", odP4_1, .seq #[.str "step" tP4_1, .int 2 uP4_1] nP4_1, slP4_1⟩)
    {odP4_2 : Option Addr} {nP4_2 : Nat} {slP4_2 : Array (Option Value)} {tP4_2 uP4_2 : Tok} (lP4_2 : K.lookup aP4_2 = some ⟨.type "tuple", odP4_2, .seq #[.str "step" tP4_2, .int 3 uP4_2] nP4_2, slP4_2⟩)
    {odP5 : Option Addr} {nP5 : Nat} {slP5 : Array (Option Value)} {aP5_0 aP5_1 aP5_2 : Addr} (lP5 : K.lookup aP5 = some ⟨.type "tuple", odP5, .seq #[.ref aP5_0, .ref aP5_1, .ref aP5_2] nP5, slP5⟩)
    {odP5_0 : Option Addr} {nP5_0 : Nat} {slP5_0 : Array (Option Value)} {tP5_0 uP5_0 : Tok} (lP5_0 : K.lookup aP5_0 = some ⟨.type "tuple", odP5_0, .seq #[.str "step" tP5_0, .int 1 uP5_0] nP5_0, slP5_0⟩)
    {odP5_1 : Option Addr} {nP5_1 : Nat} {slP5_1 : Array (Option Value)} {tP5_1 uP5_1 : Tok} (lP5_1 : K.lookup aP5_1 = some ⟨.type "tuple", odP5_1, .seq #[.str "step" tP5_1, .int 2 uP5_1] nP5_1, slP5_1⟩)
    {odP5_2 : Option Addr} {nP5_2 : Nat} {slP5_2 : Array (Option Value)} {tP5_2 uP5_2 : Tok} (lP5_2 : K.lookup aP5_2 = some ⟨.type "tuple", odP5_2, .seq #[.str "step" tP5_2, .int 3 uP5_2] nP5_2, slP5_2⟩)
    {odP6 : Option Addr} {nP6 : Nat} {slP6 : Array (Option Value)} {aP6_0 aP6_1 : Addr} (lP6 : K.lookup aP6 = some ⟨.type "tuple", odP6, .seq #[.ref aP6_0, .ref aP6_1] nP6, slP6⟩)
    {odP6_0 : Option Addr} {nP6_0 : Nat} {slP6_0 : Array (Option Value)} {tP6_0 uP6_0 : Tok} (lP6_0 : K.lookup aP6_0 = some ⟨.type "tuple", odP6_0, .seq #[.str "step" tP6_0, .int 1 uP6_0] nP6_0, slP6_0⟩)
    {odP6_1 : Option Addr} {nP6_1 : Nat} {slP6_1 : Array (Option Value)} {tP6_1 uP6_1 : Tok} (lP6_1 : K.lookup aP6_1 = some ⟨.type "tuple", odP6_1, .seq #[.str "sides" tP6_1, .int 2 uP6_1] nP6_1, slP6_1⟩)
    {odP7 : Option Addr} {nP7 : Nat} {slP7 : Array (Option Value)} {aP7_0 aP7_1 : Addr} (lP7 : K.lookup aP7 = some ⟨.type "tuple", odP7, .seq #[.ref aP7_0, .ref aP7_1] nP7, slP7⟩)
    {odP7_0 : Option Addr} {nP7_0 : Nat} {slP7_0 : Array (Option Value)} {tP7_0 uP7_0 : Tok} (lP7_0 : K.lookup aP7_0 = some ⟨.type "tuple", odP7_0, .seq #[.str "step" tP7_0, .int 1 uP7_0] nP7_0, slP7_0⟩)
    {odP7_1 : Option Addr} {nP7_1 : Nat} {slP7_1 : Array (Option Value)} {tP7_1 uP7_1 : Tok} (lP7_1 : K.lookup aP7_1 = some ⟨.type "tuple", odP7_1, .seq #[.str "small" tP7_1, .int 2 uP7_1] nP7_1, slP7_1⟩)
    {odP8 : Option Addr} {nP8 : Nat} {slP8 : Array (Option Value)} {aP8_0 aP8_1 aP8_2 aP8_3 aP8_4 : Addr} (lP8 : K.lookup aP8 = some ⟨.type "tuple", odP8, .seq #[.ref aP8_0, .ref aP8_1, .ref aP8_2, .ref aP8_3, .ref aP8_4] nP8, slP8⟩)
    {odP8_0 : Option Addr} {nP8_0 : Nat} {slP8_0 : Array (Option Value)} {tP8_0 uP8_0 : Tok} (lP8_0 : K.lookup aP8_0 = some ⟨.type "tuple", odP8_0, .seq #[.str "step" tP8_0, .int 1 uP8_0] nP8_0, slP8_0⟩)
    {odP8_1 : Option Addr} {nP8_1 : Nat} {slP8_1 : Array (Option Value)} {tP8_1 uP8_1 : Tok} (lP8_1 : K.lookup aP8_1 = some ⟨.type "tuple", odP8_1, .seq #[.str "small" tP8_1, .int 2 uP8_1] nP8_1, slP8_1⟩)
    {odP8_2 : Option Addr} {nP8_2 : Nat} {slP8_2 : Array (Option Value)} {tP8_2 uP8_2 : Tok} (lP8_2 : K.lookup aP8_2 = some ⟨.type "tuple", odP8_2, .seq #[.str "small" tP8_2, .int 3 uP8_2] nP8_2, slP8_2⟩)
    {odP8_3 : Option Addr} {nP8_3 : Nat} {slP8_3 : Array (Option Value)} {tP8_3 uP8_3 : Tok} (lP8_3 : K.lookup aP8_3 = some ⟨.type "tuple", odP8_3, .seq #[.str "small" tP8_3, .int 4 uP8_3] nP8_3, slP8_3⟩)
    {odP8_4 : Option Addr} {nP8_4 : Nat} {slP8_4 : Array (Option Value)} {tP8_4 uP8_4 : Tok} (lP8_4 : K.lookup aP8_4 = some ⟨.type "tuple", odP8_4, .seq #[.str "small" tP8_4, .int 5 uP8_4] nP8_4, slP8_4⟩)
    {odP9 : Option Addr} {nP9 : Nat} {slP9 : Array (Option Value)} {aP9_0 aP9_1 aP9_2 : Addr} (lP9 : K.lookup aP9 = some ⟨.type "tuple", odP9, .seq #[.ref aP9_0, .ref aP9_1, .ref aP9_2] nP9, slP9⟩)
    {odP9_0 : Option Addr} {nP9_0 : Nat} {slP9_0 : Array (Option Value)} {tP9_0 uP9_0 : Tok} (lP9_0 : K.lookup aP9_0 = some ⟨.type "tuple", odP9_0, .seq #[.str "step" tP9_0, .int 1 uP9_0] nP9_0, slP9_0⟩)
    {odP9_1 : Option Addr} {nP9_1 : Nat} {slP9_1 : Array (Option Value)} {tP9_1 uP9_1 : Tok} (lP9_1 : K.lookup aP9_1 = some ⟨.type "tuple", odP9_1, .seq #[.str "small" tP9_1, .int 2 uP9_1] nP9_1, slP9_1⟩)
    {odP9_2 : Option Addr} {nP9_2 : Nat} {slP9_2 : Array (Option Value)} {tP9_2 uP9_2 : Tok} (lP9_2 : K.lookup aP9_2 = some ⟨.type "tuple", odP9_2, .seq #[.str "small" tP9_2, .int 3 uP9_2] nP9_2, slP9_2⟩)
    {odP10 : Option Addr} {nP10 : Nat} {slP10 : Array (Option Value)} {aP10_0 aP10_1 : Addr} (lP10 : K.lookup aP10 = some ⟨.type "tuple", odP10, .seq #[.ref aP10_0, .ref aP10_1] nP10, slP10⟩)
    {odP10_0 : Option Addr} {nP10_0 : Nat} {slP10_0 : Array (Option Value)} {tP10_0 uP10_0 : Tok} (lP10_0 : K.lookup aP10_0 = some ⟨.type "tuple", odP10_0, .seq #[.str "step" tP10_0, .int 1 uP10_0] nP10_0, slP10_0⟩)
    {odP10_1 : Option Addr} {nP10_1 : Nat} {slP10_1 : Array (Option Value)} {tP10_1 uP10_1 : Tok} (lP10_1 : K.lookup aP10_1 = some ⟨.type "tuple", odP10_1, .seq #[.str "sides" tP10_1, .int 2 uP10_1] nP10_1, slP10_1⟩)
    {odP11 : Option Addr} {nP11 : Nat} {slP11 : Array (Option Value)} {aP11_0 aP11_1 aP11_2 : Addr} (lP11 : K.lookup aP11 = some ⟨.type "tuple", odP11, .seq #[.ref aP11_0, .ref aP11_1, .ref aP11_2] nP11, slP11⟩)
    {odP11_0 : Option Addr} {nP11_0 : Nat} {slP11_0 : Array (Option Value)} {tP11_0 uP11_0 : Tok} (lP11_0 : K.lookup aP11_0 = some ⟨.type "tuple", odP11_0, .seq #[.str "step" tP11_0, .int 1 uP11_0] nP11_0, slP11_0⟩)
    {odP11_1 : Option Addr} {nP11_1 : Nat} {slP11_1 : Array (Option Value)} {tP11_1 uP11_1 : Tok} (lP11_1 : K.lookup aP11_1 = some ⟨.type "tuple", odP11_1, .seq #[.str "step" tP11_1, .int 2 uP11_1] nP11_1, slP11_1⟩)
    {odP11_2 : Option Addr} {nP11_2 : Nat} {slP11_2 : Array (Option Value)} {tP11_2 uP11_2 : Tok} (lP11_2 : K.lookup aP11_2 = some ⟨.type "tuple", odP11_2, .seq #[.str "small" tP11_2, .int 3 uP11_2] nP11_2, slP11_2⟩)
    {odP12 : Option Addr} {nP12 : Nat} {slP12 : Array (Option Value)} {aP12_0 aP12_1 : Addr} (lP12 : K.lookup aP12 = some ⟨.type "tuple", odP12, .seq #[.ref aP12_0, .ref aP12_1] nP12, slP12⟩)
    {odP12_0 : Option Addr} {nP12_0 : Nat} {slP12_0 : Array (Option Value)} {tP12_0 uP12_0 : Tok} (lP12_0 : K.lookup aP12_0 = some ⟨.type "tuple", odP12_0, .seq #[.str "step" tP12_0, .int 1 uP12_0] nP12_0, slP12_0⟩)
    {odP12_1 : Option Addr} {nP12_1 : Nat} {slP12_1 : Array (Option Value)} {tP12_1 uP12_1 : Tok} (lP12_1 : K.lookup aP12_1 = some ⟨.type "tuple", odP12_1, .seq #[.str "step" tP12_1, .int 2 uP12_1] nP12_1, slP12_1⟩)
    {odP13 : Option Addr} {nP13 : Nat} {slP13 : Array (Option Value)} {aP13_0 aP13_1 aP13_2 : Addr} (lP13 : K.lookup aP13 = some ⟨.type "tuple", odP13, .seq #[.ref aP13_0, .ref aP13_1, .ref aP13_2] nP13, slP13⟩)
    {odP13_0 : Option Addr} {nP13_0 : Nat} {slP13_0 : Array (Option Value)} {tP13_0 uP13_0 : Tok} (lP13_0 : K.lookup aP13_0 = some ⟨.type "tuple", odP13_0, .seq #[.str "word" tP13_0, .int 1 uP13_0] nP13_0, slP13_0⟩)
    {odP13_1 : Option Addr} {nP13_1 : Nat} {slP13_1 : Array (Option Value)} {tP13_1 uP13_1 : Tok} (lP13_1 : K.lookup aP13_1 = some ⟨.type "tuple", odP13_1, .seq #[.str "step" tP13_1, .int 2 uP13_1] nP13_1, slP13_1⟩)
    {odP13_2 : Option Addr} {nP13_2 : Nat} {slP13_2 : Array (Option Value)} {tP13_2 uP13_2 : Tok} (lP13_2 : K.lookup aP13_2 = some ⟨.type "tuple", odP13_2, .seq #[.str "small" tP13_2, .int 3 uP13_2] nP13_2, slP13_2⟩)
    {odP14 : Option Addr} {nP14 : Nat} {slP14 : Array (Option Value)} {aP14_0 aP14_1 aP14_2 : Addr} (lP14 : K.lookup aP14 = some ⟨.type "tuple", odP14, .seq #[.ref aP14_0, .ref aP14_1, .ref aP14_2] nP14, slP14⟩)
    {odP14_0 : Option Addr} {nP14_0 : Nat} {slP14_0 : Array (Option Value)} {tP14_0 uP14_0 : Tok} (lP14_0 : K.lookup aP14_0 = some ⟨.type "tuple", odP14_0, .seq #[.str "word" tP14_0, .int 1 uP14_0] nP14_0, slP14_0⟩)
    {odP14_1 : Option Addr} {nP14_1 : Nat} {slP14_1 : Array (Option Value)} {tP14_1 uP14_1 : Tok} (lP14_1 : K.lookup aP14_1 = some ⟨.type "tuple", odP14_1, .seq #[.str "step" tP14_1, .int 2 uP14_1] nP14_1, slP14_1⟩)
    {odP14_2 : Option Addr} {nP14_2 : Nat} {slP14_2 : Array (Option Value)} {tP14_2 uP14_2 : Tok} (lP14_2 : K.lookup aP14_2 = some ⟨.type "tuple", odP14_2, .seq #[.str "small" tP14_2, .int 3 uP14_2] nP14_2, slP14_2⟩)
    (xNoWord : PySem.W.excIn K CNoWord [.type "ValueError", .type "Exception", .type "BaseException", .type "object"] "ValueError.__new__" = true)
    (xNoSide : PySem.W.excIn K CNoSide [.type "ValueError", .type "Exception", .type "BaseException", .type "object"] "ValueError.__new__" = true)
    (xBeyond : PySem.W.excIn K CBeyond [.type "ValueError", .type "Exception", .type "BaseException", .type "object"] "ValueError.__new__" = true)
    (xUnlike : PySem.W.excIn K CUnlike [.type "ValueError", .type "Exception", .type "BaseException", .type "object"] "ValueError.__new__" = true)
    (xTooLarge : PySem.W.excIn K CTooLarge [.type "ValueError", .type "Exception", .type "BaseException", .type "object"] "ValueError.__new__" = true)
    : ∃ fd : FuncData, (∀ (s : Shared) (v : Value), BindsTo s fd ⟨[v], []⟩ [("script", v)]) /\ ∀ base : Heap, K.In base -> base.Ns mainGlobals mg -> FnOk l.prog w K mg base CX0 10 fa fd ["script"] (splaw K) := by
  have e := hfa.symm.trans (PySem.W.mg_of X G a52)
  cases e
  have TP : PartsOk l.prog w K dPT := ⟨_, KTab.mk (l := [("in", tP0, aP0), ("num", tP1, aP1), ("count", tP2, aP2), ("each", tP3, aP3), ("pair", tP4, aP4), ("pick", tP5, aP5), ("turn", tP6, aP6), ("flip", tP7, aP7), ("cut", tP8, aP8), ("spread", tP9, aP9), ("lay", tP10, aP10), ("join", tP11, aP11), ("fetch", tP12, aP12), ("fold", tP13, aP13), ("run", tP14, aP14)]) dPT0 lPT rfl (show (["in", "num", "count", "each", "pair", "pick", "turn", "flip", "cut", "spread", "lay", "join", "fetch", "fold", "run"] : List Str).Nodup by decide +kernel), ⟨⟨rfl, _, z0x (xs := [.ref aP0_0]) lP0 (small (show (1 : Nat) ≤ 1000 by decide)) (.cons rfl (.nil)), ⟨⟨_, rfl, z0x lP0_0 (small (show (2 : Nat) ≤ 1000 by decide)) (.cons ⟨_, rfl⟩ (.cons ⟨_, rfl⟩ .nil))⟩, trivial⟩⟩, ⟨⟨rfl, _, z0x (xs := [.ref aP1_0]) lP1 (small (show (1 : Nat) ≤ 1000 by decide)) (.cons rfl (.nil)), ⟨⟨_, rfl, z0x lP1_0 (small (show (2 : Nat) ≤ 1000 by decide)) (.cons ⟨_, rfl⟩ (.cons ⟨_, rfl⟩ .nil))⟩, trivial⟩⟩, ⟨⟨rfl, _, z0x (xs := [.ref aP2_0, .ref aP2_1]) lP2 (small (show (2 : Nat) ≤ 1000 by decide)) (.cons rfl (.cons rfl (.nil))), ⟨⟨_, rfl, z0x lP2_0 (small (show (2 : Nat) ≤ 1000 by decide)) (.cons ⟨_, rfl⟩ (.cons ⟨_, rfl⟩ .nil))⟩, ⟨⟨_, rfl, z0x lP2_1 (small (show (2 : Nat) ≤ 1000 by decide)) (.cons ⟨_, rfl⟩ (.cons ⟨_, rfl⟩ .nil))⟩, trivial⟩⟩⟩, ⟨⟨rfl, _, z0x (xs := [.ref aP3_0, .ref aP3_1]) lP3 (small (show (2 : Nat) ≤ 1000 by decide)) (.cons rfl (.cons rfl (.nil))), ⟨⟨_, rfl, z0x lP3_0 (small (show (2 : Nat) ≤ 1000 by decide)) (.cons ⟨_, rfl⟩ (.cons ⟨_, rfl⟩ .nil))⟩, ⟨⟨_, rfl, z0x lP3_1 (small (show (2 : Nat) ≤ 1000 by decide)) (.cons ⟨_, rfl⟩ (.cons ⟨_, rfl⟩ .nil))⟩, trivial⟩⟩⟩, ⟨⟨rfl, _, z0x (xs := [.ref aP4_0, .ref aP4_1, .ref aP4_2]) lP4 (small (show (3 : Nat) ≤ 1000 by decide)) (.cons rfl (.cons rfl (.cons rfl (.nil)))), ⟨⟨_, rfl, z0x lP4_0 (small (show (2 : Nat) ≤ 1000 by decide)) (.cons ⟨_, rfl⟩ (.cons ⟨_, rfl⟩ .nil))⟩, ⟨⟨_, rfl, z0x lP4_1 (small (show (2 : Nat) ≤ 1000 by decide)) (.cons ⟨_, rfl⟩ (.cons ⟨_, rfl⟩ .nil))⟩, ⟨⟨_, rfl, z0x lP4_2 (small (show (2 : Nat) ≤ 1000 by decide)) (.cons ⟨_, rfl⟩ (.cons ⟨_, rfl⟩ .nil))⟩, trivial⟩⟩⟩⟩, ⟨⟨rfl, _, z0x (xs := [.ref aP5_0, .ref aP5_1, .ref aP5_2]) lP5 (small (show (3 : Nat) ≤ 1000 by decide)) (.cons rfl (.cons rfl (.cons rfl (.nil)))), ⟨⟨_, rfl, z0x lP5_0 (small (show (2 : Nat) ≤ 1000 by decide)) (.cons ⟨_, rfl⟩ (.cons ⟨_, rfl⟩ .nil))⟩, ⟨⟨_, rfl, z0x lP5_1 (small (show (2 : Nat) ≤ 1000 by decide)) (.cons ⟨_, rfl⟩ (.cons ⟨_, rfl⟩ .nil))⟩, ⟨⟨_, rfl, z0x lP5_2 (small (show (2 : Nat) ≤ 1000 by decide)) (.cons ⟨_, rfl⟩ (.cons ⟨_, rfl⟩ .nil))⟩, trivial⟩⟩⟩⟩, ⟨⟨rfl, _, z0x (xs := [.ref aP6_0, .ref aP6_1]) lP6 (small (show (2 : Nat) ≤ 1000 by decide)) (.cons rfl (.cons rfl (.nil))), ⟨⟨_, rfl, z0x lP6_0 (small (show (2 : Nat) ≤ 1000 by decide)) (.cons ⟨_, rfl⟩ (.cons ⟨_, rfl⟩ .nil))⟩, ⟨⟨_, rfl, z0x lP6_1 (small (show (2 : Nat) ≤ 1000 by decide)) (.cons ⟨_, rfl⟩ (.cons ⟨_, rfl⟩ .nil))⟩, trivial⟩⟩⟩, ⟨⟨rfl, _, z0x (xs := [.ref aP7_0, .ref aP7_1]) lP7 (small (show (2 : Nat) ≤ 1000 by decide)) (.cons rfl (.cons rfl (.nil))), ⟨⟨_, rfl, z0x lP7_0 (small (show (2 : Nat) ≤ 1000 by decide)) (.cons ⟨_, rfl⟩ (.cons ⟨_, rfl⟩ .nil))⟩, ⟨⟨_, rfl, z0x lP7_1 (small (show (2 : Nat) ≤ 1000 by decide)) (.cons ⟨_, rfl⟩ (.cons ⟨_, rfl⟩ .nil))⟩, trivial⟩⟩⟩, ⟨⟨rfl, _, z0x (xs := [.ref aP8_0, .ref aP8_1, .ref aP8_2, .ref aP8_3, .ref aP8_4]) lP8 (small (show (5 : Nat) ≤ 1000 by decide)) (.cons rfl (.cons rfl (.cons rfl (.cons rfl (.cons rfl (.nil)))))), ⟨⟨_, rfl, z0x lP8_0 (small (show (2 : Nat) ≤ 1000 by decide)) (.cons ⟨_, rfl⟩ (.cons ⟨_, rfl⟩ .nil))⟩, ⟨⟨_, rfl, z0x lP8_1 (small (show (2 : Nat) ≤ 1000 by decide)) (.cons ⟨_, rfl⟩ (.cons ⟨_, rfl⟩ .nil))⟩, ⟨⟨_, rfl, z0x lP8_2 (small (show (2 : Nat) ≤ 1000 by decide)) (.cons ⟨_, rfl⟩ (.cons ⟨_, rfl⟩ .nil))⟩, ⟨⟨_, rfl, z0x lP8_3 (small (show (2 : Nat) ≤ 1000 by decide)) (.cons ⟨_, rfl⟩ (.cons ⟨_, rfl⟩ .nil))⟩, ⟨⟨_, rfl, z0x lP8_4 (small (show (2 : Nat) ≤ 1000 by decide)) (.cons ⟨_, rfl⟩ (.cons ⟨_, rfl⟩ .nil))⟩, trivial⟩⟩⟩⟩⟩⟩, ⟨⟨rfl, _, z0x (xs := [.ref aP9_0, .ref aP9_1, .ref aP9_2]) lP9 (small (show (3 : Nat) ≤ 1000 by decide)) (.cons rfl (.cons rfl (.cons rfl (.nil)))), ⟨⟨_, rfl, z0x lP9_0 (small (show (2 : Nat) ≤ 1000 by decide)) (.cons ⟨_, rfl⟩ (.cons ⟨_, rfl⟩ .nil))⟩, ⟨⟨_, rfl, z0x lP9_1 (small (show (2 : Nat) ≤ 1000 by decide)) (.cons ⟨_, rfl⟩ (.cons ⟨_, rfl⟩ .nil))⟩, ⟨⟨_, rfl, z0x lP9_2 (small (show (2 : Nat) ≤ 1000 by decide)) (.cons ⟨_, rfl⟩ (.cons ⟨_, rfl⟩ .nil))⟩, trivial⟩⟩⟩⟩, ⟨⟨rfl, _, z0x (xs := [.ref aP10_0, .ref aP10_1]) lP10 (small (show (2 : Nat) ≤ 1000 by decide)) (.cons rfl (.cons rfl (.nil))), ⟨⟨_, rfl, z0x lP10_0 (small (show (2 : Nat) ≤ 1000 by decide)) (.cons ⟨_, rfl⟩ (.cons ⟨_, rfl⟩ .nil))⟩, ⟨⟨_, rfl, z0x lP10_1 (small (show (2 : Nat) ≤ 1000 by decide)) (.cons ⟨_, rfl⟩ (.cons ⟨_, rfl⟩ .nil))⟩, trivial⟩⟩⟩, ⟨⟨rfl, _, z0x (xs := [.ref aP11_0, .ref aP11_1, .ref aP11_2]) lP11 (small (show (3 : Nat) ≤ 1000 by decide)) (.cons rfl (.cons rfl (.cons rfl (.nil)))), ⟨⟨_, rfl, z0x lP11_0 (small (show (2 : Nat) ≤ 1000 by decide)) (.cons ⟨_, rfl⟩ (.cons ⟨_, rfl⟩ .nil))⟩, ⟨⟨_, rfl, z0x lP11_1 (small (show (2 : Nat) ≤ 1000 by decide)) (.cons ⟨_, rfl⟩ (.cons ⟨_, rfl⟩ .nil))⟩, ⟨⟨_, rfl, z0x lP11_2 (small (show (2 : Nat) ≤ 1000 by decide)) (.cons ⟨_, rfl⟩ (.cons ⟨_, rfl⟩ .nil))⟩, trivial⟩⟩⟩⟩, ⟨⟨rfl, _, z0x (xs := [.ref aP12_0, .ref aP12_1]) lP12 (small (show (2 : Nat) ≤ 1000 by decide)) (.cons rfl (.cons rfl (.nil))), ⟨⟨_, rfl, z0x lP12_0 (small (show (2 : Nat) ≤ 1000 by decide)) (.cons ⟨_, rfl⟩ (.cons ⟨_, rfl⟩ .nil))⟩, ⟨⟨_, rfl, z0x lP12_1 (small (show (2 : Nat) ≤ 1000 by decide)) (.cons ⟨_, rfl⟩ (.cons ⟨_, rfl⟩ .nil))⟩, trivial⟩⟩⟩, ⟨⟨rfl, _, z0x (xs := [.ref aP13_0, .ref aP13_1, .ref aP13_2]) lP13 (small (show (3 : Nat) ≤ 1000 by decide)) (.cons rfl (.cons rfl (.cons rfl (.nil)))), ⟨⟨_, rfl, z0x lP13_0 (small (show (2 : Nat) ≤ 1000 by decide)) (.cons ⟨_, rfl⟩ (.cons ⟨_, rfl⟩ .nil))⟩, ⟨⟨_, rfl, z0x lP13_1 (small (show (2 : Nat) ≤ 1000 by decide)) (.cons ⟨_, rfl⟩ (.cons ⟨_, rfl⟩ .nil))⟩, ⟨⟨_, rfl, z0x lP13_2 (small (show (2 : Nat) ≤ 1000 by decide)) (.cons ⟨_, rfl⟩ (.cons ⟨_, rfl⟩ .nil))⟩, trivial⟩⟩⟩⟩, ⟨⟨rfl, _, z0x (xs := [.ref aP14_0, .ref aP14_1, .ref aP14_2]) lP14 (small (show (3 : Nat) ≤ 1000 by decide)) (.cons rfl (.cons rfl (.cons rfl (.nil)))), ⟨⟨_, rfl, z0x lP14_0 (small (show (2 : Nat) ≤ 1000 by decide)) (.cons ⟨_, rfl⟩ (.cons ⟨_, rfl⟩ .nil))⟩, ⟨⟨_, rfl, z0x lP14_1 (small (show (2 : Nat) ≤ 1000 by decide)) (.cons ⟨_, rfl⟩ (.cons ⟨_, rfl⟩ .nil))⟩, ⟨⟨_, rfl, z0x lP14_2 (small (show (2 : Nat) ≤ 1000 by decide)) (.cons ⟨_, rfl⟩ (.cons ⟨_, rfl⟩ .nil))⟩, trivial⟩⟩⟩⟩, trivial⟩⟩⟩⟩⟩⟩⟩⟩⟩⟩⟩⟩⟩⟩⟩⟩
  have F0 := z1a (st := slawnumber) l0 q0 k0
  have b0 := F0.binds (ps := ["n"]) fun _ _ _ _ _ _ us hl => by
    obtain ⟨_, rfl⟩ := z1v hl
    rfl
  have F1 := z1a (st := slawsize) l1 q1 k1
  have b1 := F1.binds (ps := ["sides"]) fun _ _ _ _ _ _ us hl => by
    obtain ⟨_, rfl⟩ := z1v hl
    rfl
  have F2 := z1a (st := slawwide) l2 q2 k2
  have b2 := F2.binds (ps := ["sides"]) fun _ _ _ _ _ _ us hl => by
    obtain ⟨_, rfl⟩ := z1v hl
    rfl
  have F3 := z1a (st := slawrecent) l3 q3 k3
  have b3 := F3.binds (ps := ["pool", "d"]) fun _ _ _ _ _ _ us hl => by
    obtain ⟨_, _, rfl⟩ := z1p hl
    rfl
  have F4 := z1a (st := slawled) l4 q4 k4
  have b4 := F4.binds (ps := ["one", "other"]) fun _ _ _ _ _ _ us hl => by
    obtain ⟨_, _, rfl⟩ := z1p hl
    rfl
  have F5 := z1a (st := slawbegun) l5 q5 k5
  have b5 := F5.binds (ps := ["kind", "n", "cell", "most"]) fun _ _ _ _ _ _ us hl => by
    obtain ⟨_, _, _, _, rfl⟩ := us_len4 hl
    rfl
  have F6 := z1a (st := slawlaid) l6 q6 k6
  have b6 := F6.binds (ps := ["own", "d"]) fun _ _ _ _ _ _ us hl => by
    obtain ⟨_, _, rfl⟩ := z1p hl
    rfl
  have F7 := z1a (st := slawboth) l7 q7 k7
  have b7 := F7.binds (ps := ["own", "other", "side"]) fun _ _ _ _ _ _ us hl => by
    obtain ⟨_, _, _, rfl⟩ := z2s hl
    rfl
  have F8 := z1a (st := slawmoved) l8 q8 k8
  have b8 := F8.binds (ps := ["kind", "d", "a", "own", "most"]) fun _ _ _ _ _ _ us hl => by
    obtain ⟨_, _, _, _, _, rfl⟩ := us_len5 hl
    rfl
  have F9 := z1a (st := slawlifted) l9 q9 k9
  have b9 := F9.binds (ps := ["kind", "d", "sides"]) fun _ _ _ _ _ _ us hl => by
    obtain ⟨_, _, _, rfl⟩ := z2s hl
    rfl
  have F10 := z1a (st := slawmet) l10 q10 k10
  have b10 := F10.binds (ps := ["kind", "d", "sides", "most"]) fun _ _ _ _ _ _ us hl => by
    obtain ⟨_, _, _, _, rfl⟩ := us_len4 hl
    rfl
  have F11 := z1a (st := slawstep) l11 q11 k11
  have b11 := F11.binds (ps := ["cell", "sides", "most"]) fun _ _ _ _ _ _ us hl => by
    obtain ⟨_, _, _, rfl⟩ := z2s hl
    rfl
  have F12 := z1a (st := slawprogram) l12 q12 k12
  have b12 := F12.binds (ps := ["cells", "most"]) fun _ _ _ _ _ _ us hl => by
    obtain ⟨_, _, rfl⟩ := z1p hl
    rfl
  have F13 := z1a (st := slawwhole) l13 q13 k13
  have b13 := F13.binds (ps := ["found"]) fun _ _ _ _ _ _ us hl => by
    obtain ⟨_, rfl⟩ := z1v hl
    rfl
  have F14 := z1a (st := slawissides) l14 q14 k14
  have b14 := F14.binds (ps := ["found", "due"]) fun _ _ _ _ _ _ us hl => by
    obtain ⟨_, _, rfl⟩ := z1p hl
    rfl
  have F15 := z1a (st := slawcellat) l15 q15 k15
  have b15 := F15.binds (ps := ["script", "k"]) fun _ _ _ _ _ _ us hl => by
    obtain ⟨_, _, rfl⟩ := z1p hl
    rfl
  have F16 := z1a (st := samount) l16 q16 k16
  have b16 := F16.binds (ps := ["sides"]) fun _ _ _ _ _ _ us hl => by
    obtain ⟨_, rfl⟩ := z1v hl
    rfl
  have F17 := z1a (st := sbreadth) l17 q17 k17
  have b17 := F17.binds (ps := ["sides"]) fun _ _ _ _ _ _ us hl => by
    obtain ⟨_, rfl⟩ := z1v hl
    rfl
  have F18 := z1a (st := sallowed) l18 q18 k18
  have b18 := F18.binds (ps := ["sides"]) fun _ _ _ _ _ _ us hl => by
    obtain ⟨_, rfl⟩ := z1v hl
    rfl
  have F19 := z1a (st := schangedat) l19 q19 k19
  have b19 := F19.binds (ps := ["row", "k", "number"]) fun _ _ _ _ _ _ us hl => by
    obtain ⟨_, _, _, rfl⟩ := z2s hl
    rfl
  have F20 := z1a (st := saddedat) l20 q20 k20
  have b20 := F20.binds (ps := ["row", "k", "number"]) fun _ _ _ _ _ _ us hl => by
    obtain ⟨_, _, _, rfl⟩ := z2s hl
    rfl
  have F21 := z1a (st := sdroppedat) l21 q21 k21
  have b21 := F21.binds (ps := ["row", "k"]) fun _ _ _ _ _ _ us hl => by
    obtain ⟨_, _, rfl⟩ := z1p hl
    rfl
  have F22 := z1a (st := saskside) l22 q22 k22
  have b22 := F22.binds (ps := ["sides", "side"]) fun _ _ _ _ _ _ us hl => by
    obtain ⟨_, _, rfl⟩ := z1p hl
    rfl
  have F23 := z1a (st := sturnedsides) l23 q23 k23
  have b23 := F23.binds (ps := ["sides", "order"]) fun _ _ _ _ _ _ us hl => by
    obtain ⟨_, _, rfl⟩ := z1p hl
    rfl
  have F24 := z1a (st := sflippedsides) l24 q24 k24
  have b24 := F24.binds (ps := ["sides", "side"]) fun _ _ _ _ _ _ us hl => by
    obtain ⟨_, _, rfl⟩ := z1p hl
    rfl
  have F25 := z1a (st := scutsides) l25 q25 k25
  have b25 := F25.binds (ps := ["sides", "side", "first", "many", "step"]) fun _ _ _ _ _ _ us hl => by
    obtain ⟨_, _, _, _, _, rfl⟩ := us_len5 hl
    rfl
  have F26 := z1a (st := sspreadsides) l26 q26 k26
  have b26 := F26.binds (ps := ["sides", "side", "many"]) fun _ _ _ _ _ _ us hl => by
    obtain ⟨_, _, _, rfl⟩ := z2s hl
    rfl
  have F27 := z1a (st := sledsides) l27 q27 k27
  have b27 := F27.binds (ps := ["sides", "others"]) fun _ _ _ _ _ _ us hl => by
    obtain ⟨_, _, rfl⟩ := z1p hl
    rfl
  have F28 := z1a (st := sfoldedsides) l28 q28 k28
  have b28 := F28.binds (ps := ["sides", "side"]) fun _ _ _ _ _ _ us hl => by
    obtain ⟨_, _, rfl⟩ := z1p hl
    rfl
  have F29 := z1a (st := slaidsides) l29 q29 k29
  have b29 := F29.binds (ps := ["sides", "others"]) fun _ _ _ _ _ _ us hl => by
    obtain ⟨_, _, rfl⟩ := z1p hl
    rfl
  have F30 := z1a (st := sjoinedsides) l30 q30 k30
  have b30 := F30.binds (ps := ["sides", "others", "side"]) fun _ _ _ _ _ _ us hl => by
    obtain ⟨_, _, _, rfl⟩ := z2s hl
    rfl
  have F31 := z1a (st := scountedsides) l31 q31 k31
  have b31 := F31.binds (ps := ["sides", "side"]) fun _ _ _ _ _ _ us hl => by
    obtain ⟨_, _, rfl⟩ := z1p hl
    rfl
  have F32 := z1a (st := spairedsides) l32 q32 k32
  have b32 := F32.binds (ps := ["sides", "others"]) fun _ _ _ _ _ _ us hl => by
    obtain ⟨_, _, rfl⟩ := z1p hl
    rfl
  have F33 := z1a (st := spickedsides) l33 q33 k33
  have b33 := F33.binds (ps := ["marks", "sides", "others"]) fun _ _ _ _ _ _ us hl => by
    obtain ⟨_, _, _, rfl⟩ := z2s hl
    rfl
  have F34 := z1a (st := sfetchedsides) l34 q34 k34
  have b34 := F34.binds (ps := ["sides", "others"]) fun _ _ _ _ _ _ us hl => by
    obtain ⟨_, _, rfl⟩ := z1p hl
    rfl
  have F35 := z1a (st := swrapped) l35 q35 k35
  have b35 := F35.binds (ps := ["n"]) fun _ _ _ _ _ _ us hl => by
    obtain ⟨_, rfl⟩ := z1v hl
    rfl
  have F36 := z1a (st := ssignof) l36 q36 k36
  have b36 := F36.binds (ps := ["x"]) fun _ _ _ _ _ _ us hl => by
    obtain ⟨_, rfl⟩ := z1v hl
    rfl
  have F37 := z1a (st := squotient) l37 q37 k37
  have b37 := F37.binds (ps := ["x", "y"]) fun _ _ _ _ _ _ us hl => by
    obtain ⟨_, _, rfl⟩ := z1p hl
    rfl
  have F38 := z1a (st := sremainder) l38 q38 k38
  have b38 := F38.binds (ps := ["x", "y"]) fun _ _ _ _ _ _ us hl => by
    obtain ⟨_, _, rfl⟩ := z1p hl
    rfl
  have F39 := z1a (st := sonce) l39 q39 k39
  have b39 := F39.binds (ps := ["word", "x"]) fun _ _ _ _ _ _ us hl => by
    obtain ⟨_, _, rfl⟩ := z1p hl
    rfl
  have F40 := z1a (st := stwice) l40 q40 k40
  have b40 := F40.binds (ps := ["word", "x", "y"]) fun _ _ _ _ _ _ us hl => by
    obtain ⟨_, _, _, rfl⟩ := z2s hl
    rfl
  have F41 := z1a (st := sneutral) l41 q41 k41
  have b41 := F41.binds (ps := ["word"]) fun _ _ _ _ _ _ us hl => by
    obtain ⟨_, rfl⟩ := z1v hl
    rfl
  have F42 := z1a (st := sargplaces) l42 q42 k42
  have b42 := F42.binds (ps := ["form"]) fun _ _ _ _ _ _ us hl => by
    obtain ⟨_, rfl⟩ := z1v hl
    rfl
  have F43 := z1a (st := sargsof) l43 q43 k43
  have b43 := F43.binds (ps := ["step"]) fun _ _ _ _ _ _ us hl => by
    obtain ⟨_, rfl⟩ := z1v hl
    rfl
  have F44 := z1a (st := saskword) l44 q44 k44
  have b44 := F44.binds (ps := ["step"]) fun _ _ _ _ _ _ us hl => by
    obtain ⟨_, rfl⟩ := z1v hl
    rfl
  have F45 := z1a (st := sfirstsides) l45 q45 k45
  have b45 := F45.binds (ps := ["step"]) fun _ _ _ _ _ _ us hl => by
    obtain ⟨_, rfl⟩ := z1v hl
    rfl
  have F46 := z1a (st := smovedsides) l46 q46 k46
  have b46 := F46.binds (ps := ["step", "sides"]) fun _ _ _ _ _ _ us hl => by
    obtain ⟨_, _, rfl⟩ := z1p hl
    rfl
  have F47 := z1a (st := sstepsides) l47 q47 k47
  have b47 := F47.binds (ps := ["step", "sides"]) fun _ _ _ _ _ _ us hl => by
    obtain ⟨_, _, rfl⟩ := z1p hl
    rfl
  have F48 := z1a (st := ssteptold) l48 q48 k48
  have b48 := F48.binds (ps := ["step", "sides"]) fun _ _ _ _ _ _ us hl => by
    obtain ⟨_, _, rfl⟩ := z1p hl
    rfl
  have F49 := z1a (st := sprogramtold) l49 q49 k49
  have b49 := F49.binds (ps := ["program"]) fun _ _ _ _ _ _ us hl => by
    obtain ⟨_, rfl⟩ := z1v hl
    rfl
  have F50 := z1a (st := sfirstfault) l50 q50 k50
  have b50 := F50.binds (ps := ["program"]) fun _ _ _ _ _ _ us hl => by
    obtain ⟨_, rfl⟩ := z1v hl
    rfl
  have F51 := z1a (st := schecked) l51 q51 k51
  have b51 := F51.binds (ps := ["program"]) fun _ _ _ _ _ _ us hl => by
    obtain ⟨_, rfl⟩ := z1v hl
    rfl
  have F52 := z1a (st := slaw) l52 q52 k52
  have b52 := F52.binds (ps := ["script"]) fun _ _ _ _ _ _ us hl => by
    obtain ⟨_, rfl⟩ := z1v hl
    rfl
  refine ⟨PySem.W.fnOf "law" "law" (defArgs slaw) (defBody slaw) (defScope slaw) .none kV52 dc52 pm52 an52 cd52 ct52, fun s v => .of_eq rfl, fun base KB GB => ?_⟩
  have O_lawnumber := oklawnumber (P := l.prog) (w := w) (base := base) (mg := mg) F0
  have C_lawnumber := Callee.mk' F0 (PySem.W.mg_of X G a0) b0 O_lawnumber
  have O_lawsize := oklawsize (P := l.prog) (w := w) (base := base) (mg := mg) F1
  have C_lawsize := Callee.mk' F1 (PySem.W.mg_of X G a1) b1 O_lawsize
  have O_lawwide := oklawwide (P := l.prog) (w := w) (base := base) (mg := mg) F2 (C_lawsize.mono (by decide)) (PySem.W.mg_none_of X G zmax)
  have C_lawwide := Callee.mk' F2 (PySem.W.mg_of X G a2) b2 O_lawwide
  have O_lawrecent := oklawrecent (P := l.prog) (w := w) (base := base) (mg := mg) F3 (PySem.W.mg_none_of X G zlen) (PySem.W.mg_none_of X G zmin)
  have C_lawrecent := Callee.mk' F3 (PySem.W.mg_of X G a3) b3 O_lawrecent
  have O_lawled := oklawled (P := l.prog) (w := w) (base := base) (mg := mg) F4 (PySem.W.mg_none_of X G zmin) (PySem.W.mg_none_of X G zlen)
  have C_lawled := Callee.mk' F4 (PySem.W.mg_of X G a4) b4 O_lawled
  have O_lawbegun := oklawbegun (P := l.prog) (w := w) (base := base) (mg := mg) F5 (C_lawnumber.mono (by decide)) (C_lawwide.mono (by decide)) (PySem.W.mg_none_of X G zrange) (PySem.W.mg_none_of X G zmin) (PySem.W.mg_none_of X G zlen)
  have C_lawbegun := Callee.mk' F5 (PySem.W.mg_of X G a5) b5 O_lawbegun
  have O_lawlaid := oklawlaid (P := l.prog) (w := w) (base := base) (mg := mg) F6 (C_lawsize.mono (by decide)) (PySem.W.mg_none_of X G zlen) (PySem.W.mg_none_of X G ztuple) (PySem.W.mg_none_of X G zreversed)
  have C_lawlaid := Callee.mk' F6 (PySem.W.mg_of X G a6) b6 O_lawlaid
  have O_lawboth := oklawboth (P := l.prog) (w := w) (base := base) (mg := mg) F7 (PySem.W.mg_none_of X G zlen)
  have C_lawboth := Callee.mk' F7 (PySem.W.mg_of X G a7) b7 O_lawboth
  have O_lawmoved := oklawmoved (P := l.prog) (w := w) (base := base) (mg := mg) F8 (C_lawlaid.mono (by decide)) (C_lawwide.mono (by decide)) (PySem.W.mg_none_of X G zrange) (PySem.W.mg_none_of X G zlen) (PySem.W.mg_none_of X G ztuple) (PySem.W.mg_none_of X G zmin) (PySem.W.mg_none_of X G zmax)
  have C_lawmoved := Callee.mk' F8 (PySem.W.mg_of X G a8) b8 O_lawmoved
  have O_lawlifted := oklawlifted (P := l.prog) (w := w) (base := base) (mg := mg) F9 (C_lawrecent.mono (by decide)) (C_lawled.mono (by decide)) (PySem.W.mg_none_of X G zlist) (PySem.W.mg_none_of X G zrange) (PySem.W.mg_none_of X G zlen) (PySem.W.mg_none_of X G zmax)
  have C_lawlifted := Callee.mk' F9 (PySem.W.mg_of X G a9) b9 O_lawlifted
  have O_lawmet := oklawmet (P := l.prog) (w := w) (base := base) (mg := mg) F10 (C_lawrecent.mono (by decide)) (C_lawboth.mono (by decide)) (C_lawwide.mono (by decide)) (PySem.W.mg_none_of X G zrange) (PySem.W.mg_none_of X G zlen)
  have C_lawmet := Callee.mk' F10 (PySem.W.mg_of X G a10) b10 O_lawmet
  have O_lawstep := oklawstep (P := l.prog) (w := w) (base := base) (mg := mg) F11 (C_lawbegun.mono (by decide)) (C_lawlifted.mono (by decide)) (C_lawmet.mono (by decide)) (C_lawrecent.mono (by decide)) (C_lawmoved.mono (by decide)) (PySem.W.mg_none_of X G zlen) (PySem.W.mg_none_of X G zmax) (PySem.W.mg_none_of X G zlist) (PySem.W.mg_none_of X G zrange) (PySem.W.mg_none_of X G zmin) (PySem.W.mg_none_of X G zint)
  have C_lawstep := Callee.mk' F11 (PySem.W.mg_of X G a11) b11 O_lawstep
  have O_lawprogram := oklawprogram (P := l.prog) (w := w) (base := base) (mg := mg) F12 (C_lawstep.mono (by decide)) (PySem.W.mg_none_of X G zlen) (PySem.W.mg_none_of X G zsum) (PySem.W.mg_none_of X G zrange) (PySem.W.mg_none_of X G ztuple)
  have C_lawprogram := Callee.mk' F12 (PySem.W.mg_of X G a12) b12 O_lawprogram
  have O_lawwhole := oklawwhole (P := l.prog) (w := w) (base := base) (mg := mg) F13 (PySem.W.mg_none_of X G zisinstance) (PySem.W.mg_none_of X G zint) (PySem.W.mg_none_of X G zbool)
  have C_lawwhole := Callee.mk' F13 (PySem.W.mg_of X G a13) b13 O_lawwhole
  have O_lawissides := oklawissides (P := l.prog) (w := w) (base := base) (mg := mg) F14 (C_lawwhole.mono (by decide)) (PySem.W.mg_none_of X G zisinstance) (PySem.W.mg_none_of X G ztuple) (PySem.W.mg_none_of X G zlen) (PySem.W.mg_none_of X G zrange)
  have C_lawissides := Callee.mk' F14 (PySem.W.mg_of X G a14) b14 O_lawissides
  have O_lawcellat := oklawcellat (P := l.prog) (w := w) (base := base) (mg := mg) F15 (PySem.W.mg_none_of X G zlen)
  have C_lawcellat := Callee.mk' F15 (PySem.W.mg_of X G a15) b15 O_lawcellat
  have O_amount := okamount (P := l.prog) (w := w) (base := base) (mg := mg) F16
  have C_amount := Callee.mk' F16 (PySem.W.mg_of X G a16) b16 O_amount
  have O_breadth := okbreadth (P := l.prog) (w := w) (base := base) (mg := mg) F17 (C_amount.mono (by decide))
  have C_breadth := Callee.mk' F17 (PySem.W.mg_of X G a17) b17 O_breadth
  have O_allowed := okallowed (P := l.prog) (w := w) (base := base) (mg := mg) F18 nTooLarge (C_breadth.mono (by decide)) (PySem.W.mg_none_of X G zlen) (PySem.W.mg_of X G gMOST_SIDES) (PySem.W.mg_of X G gMOST_BREADTH) xTooLarge
  have C_allowed := Callee.mk' F18 (PySem.W.mg_of X G a18) b18 O_allowed
  have O_changedat := okchangedat (P := l.prog) (w := w) (base := base) (mg := mg) F19
  have C_changedat := Callee.mk' F19 (PySem.W.mg_of X G a19) b19 O_changedat
  have O_addedat := okaddedat (P := l.prog) (w := w) (base := base) (mg := mg) F20
  have C_addedat := Callee.mk' F20 (PySem.W.mg_of X G a20) b20 O_addedat
  have O_droppedat := okdroppedat (P := l.prog) (w := w) (base := base) (mg := mg) F21
  have C_droppedat := Callee.mk' F21 (PySem.W.mg_of X G a21) b21 O_droppedat
  have O_askside := okaskside (P := l.prog) (w := w) (base := base) (mg := mg) F22 nNoSide (PySem.W.mg_none_of X G zlen) xNoSide
  have C_askside := Callee.mk' F22 (PySem.W.mg_of X G a22) b22 O_askside
  have O_turnedsides := okturnedsides (P := l.prog) (w := w) (base := base) (mg := mg) F23 nNoSide (PySem.W.mg_none_of X G zsorted) (PySem.W.mg_none_of X G zlist) (PySem.W.mg_none_of X G zrange) (PySem.W.mg_none_of X G zlen) (PySem.W.mg_none_of X G ztuple) xNoSide
  have C_turnedsides := Callee.mk' F23 (PySem.W.mg_of X G a23) b23 O_turnedsides
  have O_flippedsides := okflippedsides (P := l.prog) (w := w) (base := base) (mg := mg) F24 nNoSide (C_askside.mono (by decide))
  have C_flippedsides := Callee.mk' F24 (PySem.W.mg_of X G a24) b24 O_flippedsides
  have O_cutsides := okcutsides (P := l.prog) (w := w) (base := base) (mg := mg) F25 nNoSide nBeyond (C_askside.mono (by decide)) (C_changedat.mono (by decide)) xBeyond
  have C_cutsides := Callee.mk' F25 (PySem.W.mg_of X G a25) b25 O_cutsides
  have O_spreadsides := okspreadsides (P := l.prog) (w := w) (base := base) (mg := mg) F26 nNoSide nBeyond nTooLarge (C_addedat.mono (by decide)) (C_allowed.mono (by decide)) (PySem.W.mg_none_of X G zlen) xNoSide xBeyond
  have C_spreadsides := Callee.mk' F26 (PySem.W.mg_of X G a26) b26 O_spreadsides
  have O_ledsides := okledsides (P := l.prog) (w := w) (base := base) (mg := mg) F27 nUnlike (PySem.W.mg_none_of X G zlen) xUnlike
  have C_ledsides := Callee.mk' F27 (PySem.W.mg_of X G a27) b27 O_ledsides
  have O_foldedsides := okfoldedsides (P := l.prog) (w := w) (base := base) (mg := mg) F28 nNoSide (C_askside.mono (by decide)) (C_droppedat.mono (by decide))
  have C_foldedsides := Callee.mk' F28 (PySem.W.mg_of X G a28) b28 O_foldedsides
  have O_laidsides := oklaidsides (P := l.prog) (w := w) (base := base) (mg := mg) F29 nTooLarge nUnlike (C_allowed.mono (by decide)) (C_amount.mono (by decide)) xUnlike
  have C_laidsides := Callee.mk' F29 (PySem.W.mg_of X G a29) b29 O_laidsides
  have O_joinedsides := okjoinedsides (P := l.prog) (w := w) (base := base) (mg := mg) F30 nUnlike nNoSide nTooLarge (C_askside.mono (by decide)) (C_droppedat.mono (by decide)) (C_allowed.mono (by decide)) (C_changedat.mono (by decide)) (PySem.W.mg_none_of X G zlen) xUnlike
  have C_joinedsides := Callee.mk' F30 (PySem.W.mg_of X G a30) b30 O_joinedsides
  have O_countedsides := okcountedsides (P := l.prog) (w := w) (base := base) (mg := mg) F31 nTooLarge nNoSide (C_allowed.mono (by decide)) (C_askside.mono (by decide))
  have C_countedsides := Callee.mk' F31 (PySem.W.mg_of X G a31) b31 O_countedsides
  have O_pairedsides := okpairedsides (P := l.prog) (w := w) (base := base) (mg := mg) F32 nUnlike (C_ledsides.mono (by decide)) (PySem.W.mg_none_of X G zlen)
  have C_pairedsides := Callee.mk' F32 (PySem.W.mg_of X G a32) b32 O_pairedsides
  have O_pickedsides := okpickedsides (P := l.prog) (w := w) (base := base) (mg := mg) F33 nUnlike (C_pairedsides.mono (by decide))
  have C_pickedsides := Callee.mk' F33 (PySem.W.mg_of X G a33) b33 O_pickedsides
  have O_fetchedsides := okfetchedsides (P := l.prog) (w := w) (base := base) (mg := mg) F34 nNoSide nBeyond nTooLarge (C_allowed.mono (by decide)) (PySem.W.mg_none_of X G zlen) xNoSide xBeyond
  have C_fetchedsides := Callee.mk' F34 (PySem.W.mg_of X G a34) b34 O_fetchedsides
  have O_wrapped := okwrapped (P := l.prog) (w := w) (base := base) (mg := mg) F35 (PySem.W.mg_of X G gLOW)
  have C_wrapped := Callee.mk' F35 (PySem.W.mg_of X G a35) b35 O_wrapped
  have O_signof := oksignof (P := l.prog) (w := w) (base := base) (mg := mg) F36
  have C_signof := Callee.mk' F36 (PySem.W.mg_of X G a36) b36 O_signof
  have O_quotient := okquotient (P := l.prog) (w := w) (base := base) (mg := mg) F37 (C_wrapped.mono (by decide))
  have C_quotient := Callee.mk' F37 (PySem.W.mg_of X G a37) b37 O_quotient
  have O_remainder := okremainder (P := l.prog) (w := w) (base := base) (mg := mg) F38
  have C_remainder := Callee.mk' F38 (PySem.W.mg_of X G a38) b38 O_remainder
  have O_once := okonce (P := l.prog) (w := w) (base := base) (mg := mg) F39 nNoWord (C_wrapped.mono (by decide)) (C_signof.mono (by decide)) (PySem.W.mg_none_of X G zabs) xNoWord
  have C_once := Callee.mk' F39 (PySem.W.mg_of X G a39) b39 O_once
  have O_twice := oktwice (P := l.prog) (w := w) (base := base) (mg := mg) F40 nNoWord (C_wrapped.mono (by decide)) (C_quotient.mono (by decide)) (C_remainder.mono (by decide)) (PySem.W.mg_none_of X G zmax) (PySem.W.mg_none_of X G zmin) xNoWord
  have C_twice := Callee.mk' F40 (PySem.W.mg_of X G a40) b40 O_twice
  have O_neutral := okneutral (P := l.prog) (w := w) (base := base) (mg := mg) F41 nNoWord (PySem.W.mg_of X G gLOW) (PySem.W.mg_of X G gHIGH) xNoWord
  have C_neutral := Callee.mk' F41 (PySem.W.mg_of X G a41) b41 O_neutral
  have O_argplaces := okargplaces (P := l.prog) (w := w) (base := base) (mg := mg) F42 (PySem.W.mg_of X G gPT) TP
  have C_argplaces := Callee.mk' F42 (PySem.W.mg_of X G a42) b42 O_argplaces
  have O_argsof := okargsof (P := l.prog) (w := w) (base := base) (mg := mg) F43 (C_argplaces.mono (by decide)) (PySem.W.mg_none_of X G ztuple)
  have C_argsof := Callee.mk' F43 (PySem.W.mg_of X G a43) b43 O_argsof
  have O_askword := okaskword (P := l.prog) (w := w) (base := base) (mg := mg) F44 nNoWord (C_once.mono (by decide)) (C_twice.mono (by decide)) (C_neutral.mono (by decide))
  have C_askword := Callee.mk' F44 (PySem.W.mg_of X G a44) b44 O_askword
  have O_firstsides := okfirstsides (P := l.prog) (w := w) (base := base) (mg := mg) F45 nTooLarge nNoSide (C_allowed.mono (by decide)) (C_countedsides.mono (by decide))
  have C_firstsides := Callee.mk' F45 (PySem.W.mg_of X G a45) b45 O_firstsides
  have O_movedsides := okmovedsides (P := l.prog) (w := w) (base := base) (mg := mg) F46 nNoSide nBeyond nTooLarge nUnlike (C_turnedsides.mono (by decide)) (C_flippedsides.mono (by decide)) (C_cutsides.mono (by decide)) (C_spreadsides.mono (by decide)) (C_laidsides.mono (by decide)) (C_foldedsides.mono (by decide))
  have C_movedsides := Callee.mk' F46 (PySem.W.mg_of X G a46) b46 O_movedsides
  have O_stepsides := okstepsides (P := l.prog) (w := w) (base := base) (mg := mg) F47 nNoWord nNoSide nBeyond nTooLarge nUnlike (C_askword.mono (by decide)) (C_argsof.mono (by decide)) (C_firstsides.mono (by decide)) (C_movedsides.mono (by decide)) (C_pairedsides.mono (by decide)) (C_joinedsides.mono (by decide)) (C_fetchedsides.mono (by decide)) (C_pickedsides.mono (by decide)) (PySem.W.mg_none_of X G zlen)
  have C_stepsides := Callee.mk' F47 (PySem.W.mg_of X G a47) b47 O_stepsides
  have O_steptold := oksteptold (P := l.prog) (w := w) (base := base) (mg := mg) F48 nNoWord nNoSide nBeyond nUnlike nTooLarge (C_argsof.mono (by decide)) (C_stepsides.mono (by decide)) (PySem.W.mg_none_of X G zlen) (PySem.W.mg_none_of X G zany) (PySem.W.mg_of X G gMOST_STEPS)
  have C_steptold := Callee.mk' F48 (PySem.W.mg_of X G a48) b48 O_steptold
  have O_programtold := okprogramtold (P := l.prog) (w := w) (base := base) (mg := mg) F49 (C_steptold.mono (by decide)) (PySem.W.mg_none_of X G zlen) (PySem.W.mg_none_of X G zany) (PySem.W.mg_none_of X G ztuple) (PySem.W.mg_of X G gMOST_OUTS)
  have C_programtold := Callee.mk' F49 (PySem.W.mg_of X G a49) b49 O_programtold
  have O_firstfault := okfirstfault (P := l.prog) (w := w) (base := base) (mg := mg) F50 (C_programtold.mono (by decide))
  have C_firstfault := Callee.mk' F50 (PySem.W.mg_of X G a50) b50 O_firstfault
  have O_checked := okchecked (P := l.prog) (w := w) (base := base) (mg := mg) F51 (C_programtold.mono (by decide))
  have C_checked := Callee.mk' F51 (PySem.W.mg_of X G a51) b51 O_checked
  have O_law := oklaw (P := l.prog) (w := w) (base := base) (mg := mg) F52 (C_lawprogram.mono (by decide)) (C_lawcellat.mono (by decide)) (C_lawissides.mono (by decide)) (C_stepsides.mono (by decide)) (C_firstfault.mono (by decide)) (C_checked.mono (by decide)) (PySem.W.mg_none_of X G zrange) (PySem.W.mg_none_of X G zlen) (PySem.W.mg_none_of X G zlist) (PySem.W.mg_none_of X G ztuple) (PySem.W.mg_none_of X G zisinstance)
  exact O_law
theorem walk {l : PySem.W.OpenLaw} {q : Program} {loose : List Str} {XP : (Str -> Option Value) -> Heap -> Prop} {YP : World -> Heap -> Prop} {d : DefRec} {K : Params -> PySem.W.Frag} (hn : l.most = some 63) (hdf : d.params.defaults = [])
    (hY : ∀ (w : World) (h : Heap), YP w h -> (K w.params).In h)
    (F : ∀ (w : World) (mg : Str -> Option Value) (fa : Addr) (h : Heap), (K w.params).In h -> h.Ns mainGlobals mg -> mg d.name = some (.ref fa) ->
      ∃ fd : FuncData, (∀ (s : Shared) (u : Value), BindsTo s fd ⟨[u], []⟩ [("script", u)]) /\ ∀ base : Heap, (K w.params).In base -> base.Ns mainGlobals mg -> FnOk l.prog w (K w.params) mg base (CX0) 10 fa fd ["script"] (splaw (K w.params))) :
    PySem.W.WalkO q loose XP YP l.row.toRowW d [] (fun f vs => PySem.call f vs) :=
  L2.walk_of (n := 63) (k := 10) (x := "script") (CX := fun _ => CX0) (sp := fun w => splaw (K w.params)) hn (by decide) hdf ⟨rfl, by decide, by decide⟩ hY F (fun _ _ a ns hl hfew hS => ⟨a, ns, rfl, hS, hl, fun _ => rfl⟩) fun _ _ _ _ _ z => z
end My
open PySem PySem.W PyProof.Rows
set_option maxRecDepth 100000 in
set_option maxHeartbeats 0 in
theorem PySem.Challenge.cw_sideloom_k32_sides_told_ahead_holds : PySem.Challenge.rw_sideloom_k32_sides_told_ahead.Holds := by
  w_on; o_law; k_head; (case hw => w_witness2)
  k_fill
  refine My.walk (l := PySem.Challenge.rw_sideloom_k32_sides_told_ahead) rfl rfl (fun w h Y => PySem.W.kIn_of Y) ?F
  case F =>
    intro w mg fa h KX G hmg
    refine' My.all_mk KX G hmg ?a0 ?l0 ?q0 ?k0 ?a1 ?l1 ?q1 ?k1 ?a2 ?l2 ?q2 ?k2 ?a3 ?l3 ?q3 ?k3 ?a4 ?l4 ?q4 ?k4 ?a5 ?l5 ?q5 ?k5 ?a6 ?l6 ?q6 ?k6 ?a7 ?l7 ?q7 ?k7 ?a8 ?l8 ?q8 ?k8 ?a9 ?l9 ?q9 ?k9 ?a10 ?l10 ?q10 ?k10 ?a11 ?l11 ?q11 ?k11 ?a12 ?l12 ?q12 ?k12 ?a13 ?l13 ?q13 ?k13 ?a14 ?l14 ?q14 ?k14 ?a15 ?l15 ?q15 ?k15 ?a16 ?l16 ?q16 ?k16 ?a17 ?l17 ?q17 ?k17 ?a18 ?l18 ?q18 ?k18 ?a19 ?l19 ?q19 ?k19 ?a20 ?l20 ?q20 ?k20 ?a21 ?l21 ?q21 ?k21 ?a22 ?l22 ?q22 ?k22 ?a23 ?l23 ?q23 ?k23 ?a24 ?l24 ?q24 ?k24 ?a25 ?l25 ?q25 ?k25 ?a26 ?l26 ?q26 ?k26 ?a27 ?l27 ?q27 ?k27 ?a28 ?l28 ?q28 ?k28 ?a29 ?l29 ?q29 ?k29 ?a30 ?l30 ?q30 ?k30 ?a31 ?l31 ?q31 ?k31 ?a32 ?l32 ?q32 ?k32 ?a33 ?l33 ?q33 ?k33 ?a34 ?l34 ?q34 ?k34 ?a35 ?l35 ?q35 ?k35 ?a36 ?l36 ?q36 ?k36 ?a37 ?l37 ?q37 ?k37 ?a38 ?l38 ?q38 ?k38 ?a39 ?l39 ?q39 ?k39 ?a40 ?l40 ?q40 ?k40 ?a41 ?l41 ?q41 ?k41 ?a42 ?l42 ?q42 ?k42 ?a43 ?l43 ?q43 ?k43 ?a44 ?l44 ?q44 ?k44 ?a45 ?l45 ?q45 ?k45 ?a46 ?l46 ?q46 ?k46 ?a47 ?l47 ?q47 ?k47 ?a48 ?l48 ?q48 ?k48 ?a49 ?l49 ?q49 ?k49 ?a50 ?l50 ?q50 ?k50 ?a51 ?l51 ?q51 ?k51 ?a52 ?l52 ?q52 ?k52 ?zmax ?zlen ?zmin ?zrange ?ztuple ?zreversed ?zlist ?zint ?zsum ?zisinstance ?zbool ?zsorted ?zabs ?zany ?gMOST_SIDES ?gMOST_BREADTH ?gLOW ?gHIGH ?gMOST_STEPS ?gMOST_OUTS ?nTooLarge ?nNoSide ?nBeyond ?nUnlike ?nNoWord ?gPT ?dPT0 ?lPT ?lP0 ?lP0_0 ?lP1 ?lP1_0 ?lP2 ?lP2_0 ?lP2_1 ?lP3 ?lP3_0 ?lP3_1 ?lP4 ?lP4_0 ?lP4_1 ?lP4_2 ?lP5 ?lP5_0 ?lP5_1 ?lP5_2 ?lP6 ?lP6_0 ?lP6_1 ?lP7 ?lP7_0 ?lP7_1 ?lP8 ?lP8_0 ?lP8_1 ?lP8_2 ?lP8_3 ?lP8_4 ?lP9 ?lP9_0 ?lP9_1 ?lP9_2 ?lP10 ?lP10_0 ?lP10_1 ?lP11 ?lP11_0 ?lP11_1 ?lP11_2 ?lP12 ?lP12_0 ?lP12_1 ?lP13 ?lP13_0 ?lP13_1 ?lP13_2 ?lP14 ?lP14_0 ?lP14_1 ?lP14_2 ?xNoWord ?xNoSide ?xBeyond ?xUnlike ?xTooLarge
    (case a0 => k_is)
    (case l0 => k_is)
    (case q0 => k_is)
    (case k0 => k_is)
    (case a1 => k_is)
    (case l1 => k_is)
    (case q1 => k_is)
    (case k1 => k_is)
    (case a2 => k_is)
    (case l2 => k_is)
    (case q2 => k_is)
    (case k2 => k_is)
    (case a3 => k_is)
    (case l3 => k_is)
    (case q3 => k_is)
    (case k3 => k_is)
    (case a4 => k_is)
    (case l4 => k_is)
    (case q4 => k_is)
    (case k4 => k_is)
    (case a5 => k_is)
    (case l5 => k_is)
    (case q5 => k_is)
    (case k5 => k_is)
    (case a6 => k_is)
    (case l6 => k_is)
    (case q6 => k_is)
    (case k6 => k_is)
    (case a7 => k_is)
    (case l7 => k_is)
    (case q7 => k_is)
    (case k7 => k_is)
    (case a8 => k_is)
    (case l8 => k_is)
    (case q8 => k_is)
    (case k8 => k_is)
    (case a9 => k_is)
    (case l9 => k_is)
    (case q9 => k_is)
    (case k9 => k_is)
    (case a10 => k_is)
    (case l10 => k_is)
    (case q10 => k_is)
    (case k10 => k_is)
    (case a11 => k_is)
    (case l11 => k_is)
    (case q11 => k_is)
    (case k11 => k_is)
    (case a12 => k_is)
    (case l12 => k_is)
    (case q12 => k_is)
    (case k12 => k_is)
    (case a13 => k_is)
    (case l13 => k_is)
    (case q13 => k_is)
    (case k13 => k_is)
    (case a14 => k_is)
    (case l14 => k_is)
    (case q14 => k_is)
    (case k14 => k_is)
    (case a15 => k_is)
    (case l15 => k_is)
    (case q15 => k_is)
    (case k15 => k_is)
    (case a16 => k_is)
    (case l16 => k_is)
    (case q16 => k_is)
    (case k16 => k_is)
    (case a17 => k_is)
    (case l17 => k_is)
    (case q17 => k_is)
    (case k17 => k_is)
    (case a18 => k_is)
    (case l18 => k_is)
    (case q18 => k_is)
    (case k18 => k_is)
    (case a19 => k_is)
    (case l19 => k_is)
    (case q19 => k_is)
    (case k19 => k_is)
    (case a20 => k_is)
    (case l20 => k_is)
    (case q20 => k_is)
    (case k20 => k_is)
    (case a21 => k_is)
    (case l21 => k_is)
    (case q21 => k_is)
    (case k21 => k_is)
    (case a22 => k_is)
    (case l22 => k_is)
    (case q22 => k_is)
    (case k22 => k_is)
    (case a23 => k_is)
    (case l23 => k_is)
    (case q23 => k_is)
    (case k23 => k_is)
    (case a24 => k_is)
    (case l24 => k_is)
    (case q24 => k_is)
    (case k24 => k_is)
    (case a25 => k_is)
    (case l25 => k_is)
    (case q25 => k_is)
    (case k25 => k_is)
    (case a26 => k_is)
    (case l26 => k_is)
    (case q26 => k_is)
    (case k26 => k_is)
    (case a27 => k_is)
    (case l27 => k_is)
    (case q27 => k_is)
    (case k27 => k_is)
    (case a28 => k_is)
    (case l28 => k_is)
    (case q28 => k_is)
    (case k28 => k_is)
    (case a29 => k_is)
    (case l29 => k_is)
    (case q29 => k_is)
    (case k29 => k_is)
    (case a30 => k_is)
    (case l30 => k_is)
    (case q30 => k_is)
    (case k30 => k_is)
    (case a31 => k_is)
    (case l31 => k_is)
    (case q31 => k_is)
    (case k31 => k_is)
    (case a32 => k_is)
    (case l32 => k_is)
    (case q32 => k_is)
    (case k32 => k_is)
    (case a33 => k_is)
    (case l33 => k_is)
    (case q33 => k_is)
    (case k33 => k_is)
    (case a34 => k_is)
    (case l34 => k_is)
    (case q34 => k_is)
    (case k34 => k_is)
    (case a35 => k_is)
    (case l35 => k_is)
    (case q35 => k_is)
    (case k35 => k_is)
    (case a36 => k_is)
    (case l36 => k_is)
    (case q36 => k_is)
    (case k36 => k_is)
    (case a37 => k_is)
    (case l37 => k_is)
    (case q37 => k_is)
    (case k37 => k_is)
    (case a38 => k_is)
    (case l38 => k_is)
    (case q38 => k_is)
    (case k38 => k_is)
    (case a39 => k_is)
    (case l39 => k_is)
    (case q39 => k_is)
    (case k39 => k_is)
    (case a40 => k_is)
    (case l40 => k_is)
    (case q40 => k_is)
    (case k40 => k_is)
    (case a41 => k_is)
    (case l41 => k_is)
    (case q41 => k_is)
    (case k41 => k_is)
    (case a42 => k_is)
    (case l42 => k_is)
    (case q42 => k_is)
    (case k42 => k_is)
    (case a43 => k_is)
    (case l43 => k_is)
    (case q43 => k_is)
    (case k43 => k_is)
    (case a44 => k_is)
    (case l44 => k_is)
    (case q44 => k_is)
    (case k44 => k_is)
    (case a45 => k_is)
    (case l45 => k_is)
    (case q45 => k_is)
    (case k45 => k_is)
    (case a46 => k_is)
    (case l46 => k_is)
    (case q46 => k_is)
    (case k46 => k_is)
    (case a47 => k_is)
    (case l47 => k_is)
    (case q47 => k_is)
    (case k47 => k_is)
    (case a48 => k_is)
    (case l48 => k_is)
    (case q48 => k_is)
    (case k48 => k_is)
    (case a49 => k_is)
    (case l49 => k_is)
    (case q49 => k_is)
    (case k49 => k_is)
    (case a50 => k_is)
    (case l50 => k_is)
    (case q50 => k_is)
    (case k50 => k_is)
    (case a51 => k_is)
    (case l51 => k_is)
    (case q51 => k_is)
    (case k51 => k_is)
    (case a52 => k_is)
    (case l52 => k_is)
    (case q52 => k_is)
    (case k52 => k_is)
    (case zmax => k_is)
    (case zlen => k_is)
    (case zmin => k_is)
    (case zrange => k_is)
    (case ztuple => k_is)
    (case zreversed => k_is)
    (case zlist => k_is)
    (case zint => k_is)
    (case zsum => k_is)
    (case zisinstance => k_is)
    (case zbool => k_is)
    (case zsorted => k_is)
    (case zabs => k_is)
    (case zany => k_is)
    (case gMOST_SIDES => k_is)
    (case gMOST_BREADTH => k_is)
    (case gLOW => k_is)
    (case gHIGH => k_is)
    (case gMOST_STEPS => k_is)
    (case gMOST_OUTS => k_is)
    (case nTooLarge => k_is)
    (case nNoSide => k_is)
    (case nBeyond => k_is)
    (case nUnlike => k_is)
    (case nNoWord => k_is)
    (case gPT => k_is)
    (case dPT0 => first | decide +kernel | rfl)
    (case lPT => k_is)
    (case lP0 => k_is)
    (case lP0_0 => k_is)
    (case lP1 => k_is)
    (case lP1_0 => k_is)
    (case lP2 => k_is)
    (case lP2_0 => k_is)
    (case lP2_1 => k_is)
    (case lP3 => k_is)
    (case lP3_0 => k_is)
    (case lP3_1 => k_is)
    (case lP4 => k_is)
    (case lP4_0 => k_is)
    (case lP4_1 => k_is)
    (case lP4_2 => k_is)
    (case lP5 => k_is)
    (case lP5_0 => k_is)
    (case lP5_1 => k_is)
    (case lP5_2 => k_is)
    (case lP6 => k_is)
    (case lP6_0 => k_is)
    (case lP6_1 => k_is)
    (case lP7 => k_is)
    (case lP7_0 => k_is)
    (case lP7_1 => k_is)
    (case lP8 => k_is)
    (case lP8_0 => k_is)
    (case lP8_1 => k_is)
    (case lP8_2 => k_is)
    (case lP8_3 => k_is)
    (case lP8_4 => k_is)
    (case lP9 => k_is)
    (case lP9_0 => k_is)
    (case lP9_1 => k_is)
    (case lP9_2 => k_is)
    (case lP10 => k_is)
    (case lP10_0 => k_is)
    (case lP10_1 => k_is)
    (case lP11 => k_is)
    (case lP11_0 => k_is)
    (case lP11_1 => k_is)
    (case lP11_2 => k_is)
    (case lP12 => k_is)
    (case lP12_0 => k_is)
    (case lP12_1 => k_is)
    (case lP13 => k_is)
    (case lP13_0 => k_is)
    (case lP13_1 => k_is)
    (case lP13_2 => k_is)
    (case lP14 => k_is)
    (case lP14_0 => k_is)
    (case lP14_1 => k_is)
    (case lP14_2 => k_is)
    (case xNoWord => k_exc)
    (case xNoSide => k_exc)
    (case xBeyond => k_exc)
    (case xUnlike => k_exc)
    (case xTooLarge => k_exc)
