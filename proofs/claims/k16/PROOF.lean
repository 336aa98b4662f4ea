import PyProof.Rows.All
import Wide.All
import OpenK.AllK
import Wide.FinOn
import Lean
import PyProof.EqAt
import PyProof.EqKinds
import PyProof.TupleCall
import PySem.Challenge.RW_sideloom_k16_lifted
set_option Elab.async false
set_option linter.all false
set_option maxRecDepth 100000
namespace L2
open PySem PySem.Spec PyProof.Rows
abbrev Key := Sum Int Str
def keyIs : Key → Value → Bool
  | .inl k, v => Value.isInt k v
  | .inr x, v => Value.isStrOf x v
def keyH (w : World) : Key → Int
  | .inl k => hashInt k
  | .inr x => hashStr w x
theorem keyIs_shape : ∀ {k : Key} {v : Value}, keyIs k v = true → (∃ i t, k = Sum.inl i ∧ v = Value.int i t) ∨ (∃ x t, k = Sum.inr x ∧ v = Value.str x t)
  | .inl i, v, h => by
    obtain ⟨t, e⟩ := Value.isInt_shape (k := i) (v := v) h
    exact .inl ⟨i, t, rfl, e⟩
  | .inr x, v, h => by
    obtain ⟨t, e⟩ := Value.isStrOf_shape (x := x) (v := v) h
    exact .inr ⟨x, t, rfl, e⟩
theorem keyIs_str (x : Str) (t : Tok) : keyIs (.inr x) (.str x t) = true := by simp [keyIs, Value.isStrOf]
theorem key_ll (a b : Int) : decide ((Sum.inl a : Key) = Sum.inl b) = (a == b) := by
  by_cases e : a = b
  · subst e; simp
  · have h : ¬ (Sum.inl a : Key) = Sum.inl b := fun q => e (Sum.inl.inj q)
    rw [decide_eq_false h]
    exact (beq_eq_false_iff_ne.mpr e).symm
theorem key_rr (a b : Str) : decide ((Sum.inr a : Key) = Sum.inr b) = decide (a = b) := by
  by_cases e : a = b
  · subst e; simp
  · have h : ¬ (Sum.inr a : Key) = Sum.inr b := fun q => e (Sum.inr.inj q)
    rw [decide_eq_false h, decide_eq_false e]
theorem key_lr (a : Int) (b : Str) : decide ((Sum.inl a : Key) = Sum.inr b) = false := decide_eq_false (fun q => nomatch q)
theorem key_rl (a : Str) (b : Int) : decide ((Sum.inr a : Key) = Sum.inl b) = false := decide_eq_false (fun q => nomatch q)
def mixKind (prog : Program) (w : World) : PySem.KeyKind prog w Key where
  is := keyIs
  hash := keyH w
  inj := fun v a b ha hb => by
    rcases keyIs_shape ha with ⟨i, t, rfl, rfl⟩ | ⟨x, t, rfl, rfl⟩
    · rcases keyIs_shape hb with ⟨j, u, rfl, e⟩ | ⟨y, u, rfl, e⟩
      · injection e with e1 _; rw [e1]
      · exact nomatch e
    · rcases keyIs_shape hb with ⟨j, u, rfl, e⟩ | ⟨y, u, rfl, e⟩
      · exact nomatch e
      · injection e with e1 _; rw [e1]
  byValue := fun k v h => by
    rcases keyIs_shape h with ⟨i, t, rfl, rfl⟩ | ⟨x, t, rfl, rfl⟩ <;> rfl
  pyHash := fun hv h => by
    rcases keyIs_shape hv with ⟨i, t, rfl, rfl⟩ | ⟨x, t, rfl, rfl⟩
    · exact wpAny_pyHash_int h
    · exact wpAny_pyHash_str h
  eqBool := fun hu hv h => by
    rcases keyIs_shape hu with ⟨i, t, rfl, rfl⟩ | ⟨x, t, rfl, rfl⟩
    · rcases keyIs_shape hv with ⟨j, u, rfl, rfl⟩ | ⟨y, u, rfl, rfl⟩
      · rw [key_ll] at h; exact wpAny_eqBool_int h
      · rw [key_lr] at h; exact SeqAt.EqAt.int_str i t y u _ _ _ _ h
    · rcases keyIs_shape hv with ⟨j, u, rfl, rfl⟩ | ⟨y, u, rfl, rfl⟩
      · rw [key_rl] at h; exact SeqAt.EqAt.str_int x t j u _ _ _ _ h
      · rw [key_rr] at h; exact wpAny_eqBool_str h
  «strs» := fun k x t v h => by
    rcases keyIs_shape h with ⟨i, u, rfl, e⟩ | ⟨y, u, rfl, e⟩
    · exact nomatch e
    · injection e with e1 _
      subst e1
      cases v <;> rfl
end L2
namespace L2
open PySem PySem.Spec PyProof.Rows
inductive V where
  | non | bl (b : Bool) | int (i : Int) | str (x : Str) | byt (b : Array UInt8) | flt (b : UInt64) | ref (a : Addr) | ty (n : String)
  deriving DecidableEq
def RelV : V → Value → Prop
  | .non, u => u = Value.none
  | .bl b, u => u = Value.bool b
  | .int i, u => ∃ t, u = Value.int i t
  | .str x, u => ∃ t, u = Value.str x t
  | .byt b, u => ∃ t, u = Value.bytes b t
  | .flt b, u => ∃ t, u = Value.float b t
  | .ref a, u => u = Value.ref a
  | .ty n, u => u = Value.type n
abbrev Vals : List V → List Value → Prop := Paired RelV
theorem Vals.length {xs : List V} {us : List Value} (r : Vals xs us) : xs.length = us.length := Paired.length r
theorem Vals.get : ∀ {xs : List V} {us : List Value} {i : Nat} {x : V}, Vals xs us → xs[i]? = some x → ∃ u, us[i]? = some u ∧ RelV x u
  | _, _, _, _, .nil, e => by simp at e
  | _, _, 0, _, .cons r _, e => by simp at e; subst e; exact ⟨_, rfl, r⟩
  | _, _, i + 1, x, .cons _ t, e => by
    obtain ⟨u, h1, h2⟩ := Vals.get (i := i) (x := x) t (by simpa using e)
    exact ⟨u, by simpa using h1, h2⟩
theorem Vals.set {x : V} {u : Value} (r : RelV x u) : ∀ {xs : List V} {us : List Value} (i : Nat), Vals xs us → Vals (xs.set i x) (us.set i u)
  | _, _, _, .nil => .nil
  | _, _, 0, .cons _ t => .cons r t
  | _, _, i + 1, .cons q t => .cons q (Vals.set r i t)
theorem Vals.append : ∀ {xs ys : List V} {us ws : List Value}, Vals xs us → Vals ys ws → Vals (xs ++ ys) (us ++ ws)
  | _, _, _, _, .nil, s => s
  | _, _, _, _, .cons r t, s => .cons r (Vals.append t s)
theorem Vals.take : ∀ {xs : List V} {us : List Value} (n : Nat), Vals xs us → Vals (xs.take n) (us.take n)
  | _, _, 0, _ => .nil
  | _, _, _ + 1, .nil => .nil
  | _, _, n + 1, .cons r t => .cons r (Vals.take n t)
theorem Vals.drop : ∀ {xs : List V} {us : List Value} (n : Nat), Vals xs us → Vals (xs.drop n) (us.drop n)
  | _, _, 0, r => r
  | _, _, _ + 1, .nil => .nil
  | _, _, n + 1, .cons _ t => Vals.drop n t
def RelO : Option V → Option Value → Prop
  | some v, some u => RelV v u
  | none, none => True
  | _, _ => False
def KV {κ : Type} : List (κ × V) → List (κ × Value) → Prop := Paired fun (p : κ × V) (q : κ × Value) => p.1 = q.1 ∧ RelV p.2 q.2
def kV : Key → V
  | .inl i => .int i
  | .inr x => .str x
inductive HO where
  | lst (xs : List V)
  | tup (xs : List V)
  | dK (kvs : List (Key × V)) | dT (kvs : List (List Key × V))
  | set (S : Int → Bool) (n : Nat)
  | ins (C dx : Addr) (fs : List (Str × V))
  | own (x : Addr)
  | xd (fs : List (Str × V))
  | met (f x : Addr)
  | rng (lo hi : Int)
  | frz (o : Obj) (u : HO)
  | tbl (ps : Array Value)
  | ext (φ : Heap → Prop)
abbrev Hp := Addr → Option HO
def upd (H : Hp) (a : Addr) (o : HO) : Hp := fun b => if b = a then some o else H b
theorem upd_same {H : Hp} {a : Addr} {o : HO} : upd H a o a = some o := by unfold upd; rw [if_pos rfl]
theorem upd_ne {H : Hp} {a b : Addr} {o : HO} (h : b ≠ a) : upd H a o b = H b := by unfold upd; rw [if_neg h]
theorem ne_of_none {H : Hp} {a b : Addr} {o : HO} (h : H a = some o) (h' : H b = none) : a ≠ b := by
  intro e; subst e; rw [h] at h'; cases h'
section
variable (P : Program) (w : World)
def ObjOk (H : Hp) (h : Heap) (a : Addr) : HO → Prop
  | .lst xs => xs.length ≤ sizeLine ∧ ∃ (its : List Value) (n : Nat), Vals xs its ∧ h.get? a = some { cls := .type "list", data := .seq its.toArray n }
  | .tup xs => xs.length ≤ sizeLine ∧ ∃ its : List Value, Vals xs its ∧ IsTup h a its.toArray
  | .dK kvs => kvs.length ≤ sizeLine ∧ (a == sysModules) = false ∧ ∃ vs, KV kvs vs ∧ h.DictOf (mixKind P w) a vs
  | .dT kvs => kvs.length ≤ sizeLine ∧ (a == sysModules) = false ∧ ∃ xs : List (List Key × Addr × Value),
      Paired (fun (p : List Key × V) (q : List Key × Addr × Value) => p.1 = q.1 ∧ H q.2.1 = some (.tup (p.1.map kV)) ∧ RelV p.2 q.2.2) kvs xs ∧
      ∃ o es ep, h.get? a = some o ∧ o.ExactDict ∧ o.data = .dict es ep ∧ es.toList = xs.map (entryOfKey (tupleKind (mixKind P w))) ∧ (xs.map (·.1)).Nodup
  | .set S n => h.SetOf (intKind P w) a S n
  | .ins C dx fs => H dx = some (.own a) ∧ fs.length ≤ 1000 ∧ dx ≠ a ∧ h.get? a = some (PySem.W.instObj C dx) ∧
      ∃ mA, h.Ns1 dx mA ∧ (∀ f, RelO (fs.lookup f) (mA f)) ∧ PySem.Within mA (fs.map (·.1))
  | .own _ => ∃ o, h.get? a = some o
  | .xd fs => ∃ mA, h.Ns1 a mA ∧ ∀ f, RelO (fs.lookup f) (mA f)
  | .rng lo hi => ∃ t u v, h.get? a = some { cls := .type "range", data := .fields #[.int lo t, .int hi u, .int 1 v] }
  | .frz o u => h.get? a = some o ∧ ObjOk H h a u
  | .tbl ps => h.get? a = some { cls := .none, data := .fields ps }
  | .met f x => h.get? a = some (PySem.W.methodObj (.ref f) (.ref x))
  | .ext φ => φ h ∧ (∃ o, h.get? a = some o) ∧ ∀ h1 h2 : Heap, φ h1 → (∀ o, h1.get? a = some o → h2.get? a = some o) → φ h2
def HOk (H : Hp) (h : Heap) : Prop := ∀ a o, H a = some o → ObjOk P w H h a o
end
section
variable {P : Program} {w : World} {H H' : Hp} {h h' : Heap} {a : Addr} {o : HO}
theorem ObjOk.lt (x : ObjOk P w H h a o) : a < h.objs.size := by
  cases o with
  | lst xs => obtain ⟨_, _, _, _, e⟩ := x; exact Heap.lt_size e
  | tup xs => obtain ⟨_, _, _, p⟩ := x; exact p.lt
  | dK kvs => obtain ⟨_, _, _, _, o, _, _, e, _⟩ := x; exact Heap.lt_size e
  | dT kvs => obtain ⟨_, _, _, _, o, _, _, e, _⟩ := x; exact Heap.lt_size e
  | set S n => obtain ⟨o, _, _, _, e, _⟩ := x; exact Heap.lt_size e
  | ins C dx fs => obtain ⟨_, _, _, e, _⟩ := x; exact Heap.lt_size e
  | own y => obtain ⟨_, e⟩ := x; exact Heap.lt_size e
  | xd fs => obtain ⟨_, ⟨_, _, _, e, _⟩, _⟩ := x; exact Heap.lt_size e
  | rng lo hi => obtain ⟨_, _, _, e⟩ := x; exact Heap.lt_size e
  | frz ob u => obtain ⟨e, _⟩ := x; exact Heap.lt_size e
  | tbl ps => exact Heap.lt_size (show h.get? a = some _ from x)
  | met f y => exact Heap.lt_size (show h.get? a = some _ from x)
  | ext φ => obtain ⟨_, ⟨_, e⟩, _⟩ := x; exact Heap.lt_size e
theorem Paired.mapP {α β : Type} {F G : α → β → Prop} : ∀ {l₁ : List α} {l₂ : List β}, Paired F l₁ l₂ → (∀ a b, F a b → G a b) → Paired G l₁ l₂
  | _, _, .nil, _ => .nil
  | _, _, .cons r t, f => .cons (f _ _ r) (Paired.mapP t f)
theorem ObjOk.stay (x : ObjOk P w H h a o) (k : ∀ b u, (b = a ∨ H b = some (.own a)) → h.get? b = some u → h'.get? b = some u)
    (ho : ∀ b, H b = some (.own a) → H' b = some (.own a)) (ht : ∀ b xs, H b = some (.tup xs) → H' b = some (.tup xs)) : ObjOk P w H' h' a o := by
  induction o with
  | lst xs => obtain ⟨z, its, n, r, e⟩ := x; exact ⟨z, its, n, r, k _ _ (.inl rfl) e⟩
  | tup xs => obtain ⟨z, its, r, ob, e, c⟩ := x; exact ⟨z, its, r, ob, k _ _ (.inl rfl) e, c⟩
  | dK kvs => obtain ⟨z, y, vs, r, ob, es, ep, e, c⟩ := x; exact ⟨z, y, vs, r, ob, es, ep, k _ _ (.inl rfl) e, c⟩
  | dT kvs =>
    obtain ⟨z, y, xs, r, ob, es, ep, e, c⟩ := x
    exact ⟨z, y, xs, Paired.mapP r fun p q z => ⟨z.1, ht _ _ z.2.1, z.2.2⟩, ob, es, ep, k _ _ (.inl rfl) e, c⟩
  | set S n => obtain ⟨ob, es, ep, t, e, c⟩ := x; exact ⟨ob, es, ep, t, k _ _ (.inl rfl) e, c⟩
  | ins C dx fs =>
    obtain ⟨d, z, ne, e, mA, ⟨od, es, ep, e2, c⟩, r⟩ := x
    exact ⟨ho _ d, z, ne, k _ _ (.inl rfl) e, mA, ⟨od, es, ep, k _ _ (.inr d) e2, c⟩, r⟩
  | own y => obtain ⟨ob, e⟩ := x; exact ⟨ob, k _ _ (.inl rfl) e⟩
  | xd fs => obtain ⟨mA, ⟨od, es, ep, e, c⟩, r⟩ := x; exact ⟨mA, ⟨od, es, ep, k _ _ (.inl rfl) e, c⟩, r⟩
  | rng lo hi => obtain ⟨t, u, v, e⟩ := x; exact ⟨t, u, v, k _ _ (.inl rfl) e⟩
  | frz ob u ih => obtain ⟨e, q⟩ := x; exact ⟨k _ _ (.inl rfl) e, ih q⟩
  | tbl ps =>
    have e : h.get? a = some { cls := .none, data := .fields ps } := x
    show h'.get? a = some { cls := .none, data := .fields ps }
    exact k a _ (.inl rfl) e
  | met f y =>
    have e : h.get? a = some (PySem.W.methodObj (.ref f) (.ref y)) := x
    show h'.get? a = some (PySem.W.methodObj (.ref f) (.ref y))
    exact k a _ (.inl rfl) e
  | ext φ => obtain ⟨p, ⟨o, e⟩, st⟩ := x; exact ⟨st _ _ p fun o q => k _ _ (.inl rfl) q, ⟨o, k _ _ (.inl rfl) e⟩, st⟩
theorem HOk.lt (x : HOk P w H h) (e : H a = some o) : a < h.objs.size := (x a o e).lt
theorem HOk.fresh (x : HOk P w H h) (e : h.objs.size ≤ a) : H a = none := by
  cases q : H a with
  | none => rfl
  | some u => exact absurd (Nat.lt_of_lt_of_le (x.lt q) e) (Nat.lt_irrefl _)
theorem HOk.kept (x : HOk P w H h) (k : ∀ b u, h.get? b = some u → h'.get? b = some u) : HOk P w H h' := fun a o e =>
  (x a o e).stay (fun b u _ q => k b u q) (fun _ q => q) fun _ _ q => q
theorem HOk.laid (x : HOk P w H h) (k : ∀ b u, h.get? b = some u → h'.get? b = some u) (hp : h.objs.size ≤ a) (new : ObjOk P w (upd H a o) h' a o) : HOk P w (upd H a o) h' := fun b u e => by
  have hn := x.fresh hp
  by_cases hb : b = a
  · subst hb; rw [upd_same] at e; cases e; exact new
  · rw [upd_ne hb] at e
    exact (x b u e).stay (fun c v _ q => k c v q) (fun c q => by rw [upd_ne (ne_of_none q hn)]; exact q) fun c xs q => by rw [upd_ne (ne_of_none q hn)]; exact q
end
def Rd (H : Hp) (a : Addr) (u : HO) : Prop := H a = some u ∨ ∃ o, H a = some (.frz o u)
theorem Rd.of {H : Hp} {a : Addr} {u : HO} (h : H a = some u) : Rd H a u := .inl h
theorem Rd.ok {P : Program} {w : World} {H : Hp} {h : Heap} {a : Addr} {u : HO} (r : Rd H a u) (x : HOk P w H h) : ObjOk P w H h a u := by
  rcases r with r | ⟨o, r⟩
  · exact x a u r
  · obtain ⟨_, q⟩ := x a _ r
    exact q
def Mut : Option HO → Prop
  | some (.lst _) => True
  | some (.dK _) => True
  | some (.dT _) => True
  | some (.set _ _) => True
  | some (.ins _ _ _) => True
  | some (.ext _) => True
  | _ => False
section
variable {P : Program} {w : World} {H : Hp} {h h' : Heap} {x e : Addr} {o' : HO}
theorem HOk.write (ok : HOk P w H h) (mu : Mut (H x)) (he : e = x ∨ H e = some (.own x)) (k : ∀ b u, b ≠ e → h.get? b = some u → h'.get? b = some u) (heo : ∃ u, h'.get? e = some u)
    (new : ObjOk P w (upd H x o') h' x o') : HOk P w (upd H x o') h' := fun b u q => by
  have nown : ∀ c y, H c = some (.own y) → c ≠ x := fun c y r z => by subst z; rw [r] at mu; exact mu
  have ntup : ∀ c xs, H c = some (.tup xs) → c ≠ x := fun c xs r z => by subst z; rw [r] at mu; exact mu
  by_cases hb : b = x
  · subst hb; rw [upd_same] at q; cases q; exact new
  · rw [upd_ne hb] at q
    by_cases hbe : b = e
    · have q' : H b = some (.own x) := by
        rcases he with z | z
        · exact absurd (hbe.trans z) hb
        · rw [hbe]; exact z
      rw [q] at q'; cases q'
      obtain ⟨v, hv⟩ := heo
      exact ⟨v, by rw [hbe]; exact hv⟩
    · refine (ok b u q).stay (fun c v hc r => k c v ?_ r) (fun c r => by rw [upd_ne (nown c b r)]; exact r) fun c xs r => by rw [upd_ne (ntup c xs r)]; exact r
      rcases hc with rfl | hc
      · exact hbe
      · rintro rfl
        rcases he with z | z
        · exact nown c b hc z
        · rw [hc] at z; cases z; exact hb rfl
end
structure Un (fs ex : List Addr) (H H' : Hp) (h h' : Heap) : Prop where
  keep : ∀ b o, h.get? b = some o → H b = none → b ∉ fs → b ∉ ex → h'.get? b = some o
  slot : ∀ b o, h.get? b = some o → H b = none → b ∈ fs → b ∉ ex → ∃ sl, h'.get? b = some { o with slots := sl }
  free : ∀ b o, h.get? b = some o → H b = none → b ∉ ex → H' b = none
  there : ∀ b o, h.get? b = some o → b ∉ ex → ∃ o', h'.get? b = some o'
  tups : ∀ b xs, H b = some (.tup xs) → H' b = some (.tup xs)
  frzs : ∀ b o u, H b = some (.frz o u) → H' b = some (.frz o u)
  tbls : ∀ b ps, H b = some (.tbl ps) → ∃ more, H' b = some (.tbl (ps ++ more))
section
variable {fs fs' ex ex' : List Addr} {H H1 H2 : Hp} {h h1 h2 h' : Heap} {a x e : Addr} {o : HO}
theorem Un.any (u : Un fs ex H H1 h h1) {b : Addr} {ob : Obj} (q : h.get? b = some ob) (n : H b = none) (hx : b ∉ ex) : ∃ sl, h1.get? b = some { ob with slots := sl } := by
  by_cases hb : b ∈ fs
  · exact u.slot b ob q n hb hx
  · exact ⟨ob.slots, u.keep b ob q n hb hx⟩
theorem Un.trans (a : Un fs ex H H1 h h1) (b : Un fs ex H1 H2 h1 h2) : Un fs ex H H2 h h2 where
  keep := fun c ob q n hc hx => b.keep c ob (a.keep c ob q n hc hx) (a.free c ob q n hx) hc hx
  slot := fun c ob q n hc hx => by
    obtain ⟨sl, e1⟩ := a.slot c ob q n hc hx
    obtain ⟨sl', e2⟩ := b.slot c _ e1 (a.free c ob q n hx) hc hx
    exact ⟨sl', e2⟩
  free := fun c ob q n hx => by
    obtain ⟨o', e1⟩ := a.there c ob q hx
    exact b.free c o' e1 (a.free c ob q n hx) hx
  there := fun c ob q hx => by
    obtain ⟨o', e1⟩ := a.there c ob q hx
    exact b.there c o' e1 hx
  tups := fun c xs q => b.tups c xs (a.tups c xs q)
  frzs := fun c ob xs q => b.frzs c ob xs (a.frzs c ob xs q)
  tbls := fun c ps q => by
    obtain ⟨m1, e1⟩ := a.tbls c ps q
    obtain ⟨m2, e2⟩ := b.tbls c _ e1
    exact ⟨m1 ++ m2, by rw [e2, Array.append_assoc]⟩
theorem Un.kept (k : ∀ b u, h.get? b = some u → h'.get? b = some u) : Un fs ex H H h h' :=
  ⟨fun b ob q _ _ _ => k b ob q, fun b ob q _ _ _ => ⟨ob.slots, k b ob q⟩, fun _ _ _ n _ => n, fun b ob q _ => ⟨ob, k b ob q⟩, fun _ _ q => q, fun _ _ _ q => q, fun _ ps q => ⟨#[], by rw [q]; simp⟩⟩
theorem Un.refl : Un fs ex H H h h := Un.kept fun _ _ q => q
theorem Un.laid (k : ∀ b u, h.get? b = some u → h'.get? b = some u) (hp : h.objs.size ≤ a) (hn : H a = none) : Un fs ex H (upd H a o) h h' where
  keep := fun b u q _ _ _ => k b u q
  slot := fun b u q _ _ _ => ⟨u.slots, k b u q⟩
  free := fun b u q n _ => by rw [upd_ne (Nat.ne_of_lt (Nat.lt_of_lt_of_le (Heap.lt_size q) hp))]; exact n
  there := fun b u q _ => ⟨u, k b u q⟩
  tups := fun b xs q => by rw [upd_ne (ne_of_none q hn)]; exact q
  frzs := fun b u xs q => by rw [upd_ne (ne_of_none q hn)]; exact q
  tbls := fun b ps q => ⟨#[], by rw [upd_ne (ne_of_none q hn), q]; simp⟩
theorem Un.write (mu : Mut (H x)) (he : e = x ∨ H e = some (.own x)) (k : ∀ b u, b ≠ e → h.get? b = some u → h'.get? b = some u) (heo : ∃ u, h'.get? e = some u) : Un fs ex H (upd H x o) h h' := by
  have hx : ∀ b, H b = none → b ≠ x := fun b n z => by subst z; rw [n] at mu; exact mu
  have hb : ∀ b, H b = none → b ≠ e := fun b n z => by
    subst z
    rcases he with r | r
    · exact hx b n r
    · rw [n] at r; cases r
  have hm : ∀ b u, H b = some u → ¬ Mut (some u) → b ≠ x := fun b u q nm z => by subst z; rw [q] at mu; exact nm mu
  refine ⟨fun b u q n _ _ => k b u (hb b n) q, fun b u q n _ _ => ⟨u.slots, k b u (hb b n) q⟩, fun b u q n _ => by rw [upd_ne (hx b n)]; exact n, fun b u q _ => ?_,
    fun b xs q => by rw [upd_ne (hm b _ q fun z => z)]; exact q, fun b u xs q => by rw [upd_ne (hm b _ q fun z => z)]; exact q, fun b ps q => ⟨#[], by rw [upd_ne (hm b _ q fun z => z), q]; simp⟩⟩
  by_cases hbe : b = e
  · subst hbe; exact heo
  · exact ⟨u, k b u hbe q⟩
theorem Un.mono (u : Un fs ex H H1 h h1) (hs : ∀ b ∈ fs, b ∈ fs') (hx : ∀ b ∈ ex, b ∈ ex') : Un fs' ex' H H1 h h1 :=
  ⟨fun b ob q n hb he => u.keep b ob q n (fun z => hb (hs b z)) fun z => he (hx b z), fun _ _ q n _ he => u.any q n fun z => he (hx _ z), fun b ob q n he => u.free b ob q n fun z => he (hx b z), fun b ob q he => u.there b ob q fun z => he (hx b z), u.tups, u.frzs, u.tbls⟩
end
def trk (h : Heap) (H : Hp) : List Addr := (List.range h.objs.size).filter fun a => (H a).isSome
def hidT (h : Heap) (H : Hp) : Heap := PySem.W.hideAll h (trk h H)
theorem hidT_size (h : Heap) (H : Hp) : (hidT h H).objs.size = h.objs.size := PySem.W.hideAll_size _ _
theorem hidT_get {h : Heap} {H : Hp} {b : Addr} {o : Obj} (e : h.get? b = some o) (n : H b = none) : (hidT h H).get? b = some o :=
  PySem.W.hideAll_get _ e fun hm => by
    have q : (H b).isSome = true := (List.mem_filter.mp hm).2
    rw [n] at q; simp at q
theorem of_hidT {h : Heap} {H : Hp} {b : Addr} {o : Obj} (e : (hidT h H).get? b = some o) : h.get? b = some o ∧ H b = none := by
  have e' : h.get? b = some o := PySem.W.of_hideAll (trk h H) e
  refine ⟨e', ?_⟩
  cases q : H b with
  | none => rfl
  | some x =>
    have hm : b ∈ trk h H := List.mem_filter.mpr ⟨List.mem_range.mpr (Heap.lt_size e'), by simp [q]⟩
    have z : (hidT h H).get? b = none := PySem.W.hideAll_none (trk h H) hm
    rw [z] at e; cases e
def allNews (g h : Heap) (L : Addr) : List (Addr × Obj) := (List.range h.objs.size).filterMap fun a => if a = L ∨ (g.get? a).isSome = true then none else (h.get? a).map fun o => (a, o)
def rest (g h : Heap) (L d : Addr) : List (Addr × Obj) := (allNews g h L).filter fun p => decide (p.1 ≠ d)
end L2
namespace L2
open PySem PySem.Spec PyProof.Rows
structure Mod (K : PySem.W.Frag) (mg : Str → Option Value) (base : Heap) : Prop where
  kin : K.In base
  glob : base.Ns mainGlobals mg
  blt : ∃ mb, base.Ns builtinsNs mb ∧ ∀ x : Str, x ≠ "__name__" → mb x = bootBuiltins x
  nolimit : base.NoLimit
structure Cx where
  prog : Program
  w : World
  K : PySem.W.Frag
  mg : Str → Option Value
  base : Heap
  A : Around
  N : List Str
  s₀ : Shared
  H₀ : Hp
  env : Env
  outer : List Env
  stack : List Env
  ex : List Addr
  fn : Str → Bool
  calm : Bool
  pn : List (Addr × Obj)
  xe : Value → Shared → Prop
def frs (l : List Env) : List Addr := l.filterMap (·.frame)
abbrev Cx.fs (X : Cx) : List Addr := frs X.outer
def Vis (sc : Scope) (x : Str) : Prop := sc.names.lookup x = some .local ∨ sc.names.lookup x = some .cell ∨ sc.names.lookup x = some .free
def Loc (sc : Scope) (x : Str) : Prop := sc.names.lookup x = some .local ∨ sc.names.lookup x = some .cell
def Look (env : Env) (h : Heap) (m : Str → Option Value) (x : Str) (u : Value) : Prop :=
  (env.kindOf x = some .local ∧ m x = some u) ∨ ((env.kindOf x = some .cell ∨ env.kindOf x = some .free) ∧ ∃ c, env.cells.lookup x = some c ∧ h.IsCell c (some u))
structure Cx.Ok (X : Cx) : Prop where
  mod : Mod X.K X.mg X.base
  kind : X.env.scope.kind = .function
  glob : X.env.globals = mainGlobals
  blt : X.env.builtins = builtinsNs
  above : X.s₀.heap.objs.size ≤ X.env.locals
  inj : ∀ x y c, X.env.cells.lookup x = some c → X.env.cells.lookup y = some c → x = y
  has : ∀ x, (X.env.kindOf x = some .cell ∨ X.env.kindOf x = some .free) → ∃ c, X.env.cells.lookup x = some c
  cab : ∀ x c, X.fn x = true → X.env.cells.lookup x = some c → X.s₀.heap.objs.size ≤ c
  hd : X.calm = true → X.A.handled = none
  frames : X.A.frames = some X.stack
  stk : X.stack = X.outer ∨ (X.stack = X.env :: X.outer ∧ X.env.frame = some X.env.locals)
  exf : ∀ b ∈ X.ex, b ≠ X.env.locals ∧ ∀ x c, X.env.cells.lookup x = some c → c ≠ b
  bs : ∀ b o, X.base.get? b = some o → X.s₀.heap.get? b = some o ∧ X.H₀ b = none
  bsz : X.base.objs.size ≤ X.s₀.heap.objs.size
  noex : ∀ b o, X.base.get? b = some o → b ∉ X.ex
  exfs : ∀ b ∈ X.ex, b ∉ X.fs
  funs : X.s₀.heap.FunFrames X.base X.outer
  frf : ∀ b ∈ X.fs, X.H₀ b = none
structure Inv (X : Cx) (pins : List (Addr × Obj)) (σ : List (Option V)) (H : Hp) (s : Shared) : Prop where
  ok : X.Ok
  os : s.os = X.s₀.os
  bare : AllBare s.gens
  base : Un X.fs X.ex X.H₀ H X.s₀.heap s.heap
  loc : ∃ m, s.heap.Ns X.env.locals m ∧ ∀ (i : Nat) (x : Str) (v : V), X.N[i]? = some x → σ[i]? = some (some v) → Vis X.env.scope x → ∃ u, RelV v u ∧ Look X.env s.heap m x u
  cell : ∀ x c, X.env.cells.lookup x = some c → ∃ v, s.heap.IsCell c v
  free : H X.env.locals = none
  freeC : ∀ x c, X.env.cells.lookup x = some c → H c = none
  pin : ∀ p ∈ X.pn ++ pins, s.heap.get? p.1 = some p.2 ∧ H p.1 = none ∧ p.1 ≠ X.env.locals ∧ p.1 ∉ X.fs ∧ ∀ v, p.2.data ≠ .cell v
  hok : HOk X.prog X.w H s.heap
  len : σ.length = X.N.length
section
variable {X : Cx} {pins : List (Addr × Obj)} {σ : List (Option V)} {H H' : Hp} {s : Shared} {h' : Heap}
theorem Cx.Ok.nofr (ok : X.Ok) {b : Addr} {o : Obj} (e : X.base.get? b = some o) : b ∉ X.fs := fun hb => by
  have := (ok.funs.mem hb).1
  rw [e] at this; cases this
theorem Inv.bs (I : Inv X pins σ H s) : ∀ b o, X.base.get? b = some o → s.heap.get? b = some o ∧ H b = none := fun b o e =>
  ⟨I.base.keep b o (I.ok.bs b o e).1 (I.ok.bs b o e).2 (I.ok.nofr e) (I.ok.noex b o e), I.base.free b o (I.ok.bs b o e).1 (I.ok.bs b o e).2 (I.ok.noex b o e)⟩
theorem Inv.bk (I : Inv X pins σ H s) : ∀ b o, X.base.get? b = some o → s.heap.get? b = some o := fun b o e => (I.bs b o e).1
theorem Inv.mod (I : Inv X pins σ H s) : Mod X.K X.mg X.base := I.ok.mod
theorem Inv.kIn (I : Inv X pins σ H s) : X.K.In s.heap := I.ok.mod.kin.keeps I.bk
theorem Inv.nolimit (I : Inv X pins σ H s) : s.heap.NoLimit := I.ok.mod.nolimit.keeps I.bk
theorem Inv.fr (I : Inv X pins σ H s) : ∃ m, Fr X.base X.env.locals s.heap m :=
  let ⟨m, hn, _⟩ := I.loc
  ⟨m, hn, I.bk, Nat.le_trans I.ok.bsz I.ok.above⟩
theorem Inv.lt (I : Inv X pins σ H s) : X.env.locals < s.heap.objs.size := let ⟨_, hn, _⟩ := I.loc; hn.lt
theorem Inv.sz (I : Inv X pins σ H s) : X.s₀.heap.objs.size ≤ s.heap.objs.size := Nat.le_trans I.ok.above (Nat.le_of_lt I.lt)
theorem Inv.nofs (I : Inv X pins σ H s) {a : Addr} (h : s.heap.objs.size ≤ a) : a ∉ X.fs := fun hb => by
  obtain ⟨_, o, ho, _⟩ := I.ok.funs.mem hb
  exact absurd (Nat.lt_of_lt_of_le (Heap.lt_size ho) (Nat.le_trans I.sz h)) (Nat.lt_irrefl _)
theorem Inv.cne (I : Inv X pins σ H s) : ∀ x c, X.env.cells.lookup x = some c → c ≠ X.env.locals := fun x c e z => by
  obtain ⟨v, o, ho, hd⟩ := I.cell x c e
  obtain ⟨m, ⟨o', es, ep, ho', hd', _⟩, _⟩ := I.loc
  rw [z, ho'] at ho; cases ho; rw [hd'] at hd; cases hd
theorem Inv.funs (I : Inv X pins σ H s) : s.heap.FunFrames X.base X.outer := by
  have all : ∀ (l : List Env), (∀ b ∈ frs l, b ∈ X.fs) → X.s₀.heap.FunFrames X.base l → s.heap.FunFrames X.base l := by
    intro l
    induction l with
    | nil => intro _ _; trivial
    | cons env r ih =>
      intro hs hl
      obtain ⟨hk, ⟨L, o, hf, hn, ho, hd⟩, hr⟩ := hl
      have hL : L ∈ X.fs := hs L (by unfold frs; rw [List.filterMap_cons, hf]; exact List.mem_cons_self)
      obtain ⟨sl, e⟩ := I.base.slot L o ho (I.ok.frf L hL) hL fun z => I.ok.exfs L z hL
      exact ⟨hk, ⟨L, _, hf, hn, e, hd⟩, ih (fun b hb => hs b (by unfold frs; rw [List.filterMap_cons, hf]; exact List.mem_cons_of_mem _ hb)) hr⟩
  exact all X.outer (fun _ hb => hb) I.ok.funs
theorem Inv.stack (I : Inv X pins σ H s) : s.heap.FunFrames X.base X.stack := by
  rcases I.ok.stk with e | ⟨e, hf⟩
  · rw [e]; exact I.funs
  · rw [e]
    obtain ⟨m, hn, _⟩ := I.loc
    refine .cons (by rw [I.ok.kind]; decide) hf hn ?_ I.funs
    exact Heap.get?_none_of_le (Nat.le_trans I.ok.bsz I.ok.above)
theorem Inv.stkSub (I : Inv X pins σ H s) : ∀ b ∈ frs X.stack, b ∈ X.env.locals :: X.fs := fun b hb => by
  rcases I.ok.stk with e | ⟨e, hf⟩
  · rw [e] at hb; exact List.mem_cons_of_mem _ hb
  · rw [e] at hb
    unfold frs at hb
    rw [List.filterMap_cons, hf] at hb
    exact hb
theorem Inv.stkFree (I : Inv X pins σ H s) : ∀ b ∈ frs X.stack, H b = none := fun b hb => by
  rcases List.mem_cons.mp (I.stkSub b hb) with e | hb
  · rw [e]; exact I.free
  · obtain ⟨_, o, ho, _⟩ := I.ok.funs.mem hb
    exact I.base.free b o ho (I.ok.frf b hb) fun z => I.ok.exfs b z hb
theorem Inv.step {g' : Array GenState} {t' : Nat} {d' : Drawn} {ch : List Addr} (I : Inv X pins σ H s)
    (hch : ∀ b ∈ ch, (b ∈ X.ex ∨ X.s₀.heap.objs.size ≤ b) ∧ b ≠ X.env.locals ∧ (∀ x c, X.env.cells.lookup x = some c → c ≠ b) ∧ ∀ p ∈ X.pn ++ pins, p.1 ≠ b)
    (keep : ∀ b o, b ≠ X.env.locals → b ∉ X.fs → b ∉ ch → s.heap.get? b = some o → H b = none → h'.get? b = some o)
    (slot : ∀ b o, b ≠ X.env.locals → b ∈ X.fs → b ∉ ch → s.heap.get? b = some o → H b = none → ∃ sl, h'.get? b = some { o with slots := sl }) (free : ∀ b o, b ∉ ch → s.heap.get? b = some o → H b = none → H' b = none)
    (there : ∀ b o, b ∉ ch → s.heap.get? b = some o → ∃ o', h'.get? b = some o')
    (tups : ∀ b xs, H b = some (.tup xs) → H' b = some (.tup xs)) (frzs : ∀ b o u, H b = some (.frz o u) → H' b = some (.frz o u)) (tbls : ∀ b ps, H b = some (.tbl ps) → ∃ more, H' b = some (.tbl (ps ++ more)))
    (ns : ∀ m, s.heap.Ns X.env.locals m → h'.Ns X.env.locals m) (hok : HOk X.prog X.w H' h') (hg : AllBare g') :
    Inv X pins σ H' { s with heap := h', gens := g', drawn := d', toks := t' } := by
  have neL : ∀ b o, X.s₀.heap.get? b = some o → b ≠ X.env.locals := fun b o e => Nat.ne_of_lt (Nat.lt_of_lt_of_le (Heap.lt_size e) I.ok.above)
  have neC : ∀ b o, X.s₀.heap.get? b = some o → b ∉ X.ex → b ∉ ch := fun b o e hx hb => by
    rcases (hch b hb).1 with z | z
    · exact hx z
    · exact absurd (Nat.lt_of_lt_of_le (Heap.lt_size e) z) (Nat.lt_irrefl _)
  have cellK : ∀ x c, X.env.cells.lookup x = some c → ∀ v, s.heap.IsCell c v → h'.IsCell c v := fun x c e v ⟨o, ho, hd⟩ => by
    have nch : c ∉ ch := fun z => (hch c z).2.2.1 x c e rfl
    by_cases hc : c ∈ X.fs
    · obtain ⟨sl, q⟩ := slot c o (I.cne x c e) hc nch ho (I.freeC x c e)
      exact ⟨_, q, hd⟩
    · exact ⟨o, keep c o (I.cne x c e) hc nch ho (I.freeC x c e), hd⟩
  refine ⟨I.ok, I.os, hg, ⟨fun b o e n hb hx => ?_, fun b o e n hb hx => ?_, fun b o e n hx => ?_, fun b o e hx => ?_, fun b xs e => tups b xs (I.base.tups b xs e), fun b o xs e => frzs b o xs (I.base.frzs b o xs e), fun b ps e => ?_⟩, ?_, fun x c e => ?_, ?_, fun x c e => ?_, fun p hp => ?_, hok, I.len⟩
  · exact keep b o (neL b o e) hb (neC b o e hx) (I.base.keep b o e n hb hx) (I.base.free b o e n hx)
  · obtain ⟨sl, e1⟩ := I.base.slot b o e n hb hx
    obtain ⟨sl', e2⟩ := slot b _ (neL b o e) hb (neC b o e hx) e1 (I.base.free b o e n hx)
    exact ⟨sl', e2⟩
  · obtain ⟨o', e1⟩ := I.base.there b o e hx
    exact free b o' (neC b o e hx) e1 (I.base.free b o e n hx)
  · obtain ⟨o', e1⟩ := I.base.there b o e hx
    exact there b o' (neC b o e hx) e1
  · obtain ⟨m1, e1⟩ := I.base.tbls b ps e
    obtain ⟨m2, e2⟩ := tbls b _ e1
    exact ⟨m1 ++ m2, by rw [e2, Array.append_assoc]⟩
  · obtain ⟨m, hn, hl⟩ := I.loc
    refine ⟨m, ns m hn, fun i x v e1 e2 e3 => ?_⟩
    obtain ⟨u, r, l⟩ := hl i x v e1 e2 e3
    refine ⟨u, r, ?_⟩
    rcases l with l | ⟨k, c, e, z⟩
    · exact .inl l
    · exact .inr ⟨k, c, e, cellK x c e _ z⟩
  · obtain ⟨v, z⟩ := I.cell x c e
    exact ⟨v, cellK x c e v z⟩
  · obtain ⟨m, ⟨o, _, _, ho, _⟩, _⟩ := I.loc
    exact free _ o (fun z => (hch _ z).2.1 rfl) ho I.free
  · obtain ⟨v, o, ho, hd⟩ := I.cell x c e
    exact free c o (fun z => (hch c z).2.2.1 x c e rfl) ho (I.freeC x c e)
  · obtain ⟨e, n, ne, nf, d⟩ := I.pin p hp
    have nch : p.1 ∉ ch := fun z => (hch p.1 z).2.2.2 p hp rfl
    exact ⟨keep p.1 p.2 ne nf nch e n, free p.1 p.2 nch e n, ne, nf, d⟩
theorem Inv.un {t' : Nat} (I : Inv X pins σ H s) (u : Un X.fs [] H H' s.heap h') (hok : HOk X.prog X.w H' h') : Inv X pins σ H' { s with heap := h', toks := t' } := by
  obtain ⟨m, ⟨o, es, ep, ho, r⟩, _⟩ := id I.loc
  obtain ⟨sl, hL⟩ := u.any ho I.free (by simp)
  exact I.step (g' := s.gens) (d' := s.drawn) (ch := []) (fun _ z => nomatch z) (fun b o _ hb _ e n => u.keep b o e n hb (by simp)) (fun b o _ hb _ e n => u.slot b o e n hb (by simp)) (fun b o _ e n => u.free b o e n (by simp)) (fun b o _ e => u.there b o e (by simp)) u.tups u.frzs u.tbls (fun m' hm => by
    obtain ⟨o', es', ep', ho', r'⟩ := hm
    rw [ho] at ho'; cases ho'
    exact ⟨_, es', ep', hL, r'⟩) hok I.bare
theorem Inv.call {g' : Array GenState} {t' : Nat} {d' : Drawn} {ch : List Addr} (I : Inv X pins σ H s) (u : Un (frs X.stack) ch H H' s.heap h') (hok : HOk X.prog X.w H' h') (hg : AllBare g')
    (hch : ∀ b ∈ ch, (b ∈ X.ex ∨ X.s₀.heap.objs.size ≤ b) ∧ b ≠ X.env.locals ∧ (∀ x c, X.env.cells.lookup x = some c → c ≠ b) ∧ ∀ p ∈ X.pn ++ pins, p.1 ≠ b) :
    Inv X pins σ H' { s with heap := h', gens := g', drawn := d', toks := t' } := by
  obtain ⟨m, ⟨o, es, ep, ho, r⟩, _⟩ := id I.loc
  obtain ⟨sl, hL⟩ := u.any ho I.free fun z => (hch _ z).2.1 rfl
  exact I.step (ch := ch) hch (fun b o hL hb hc e n => u.keep b o e n (fun z => (List.mem_cons.mp (I.stkSub b z)).elim hL hb) hc) (fun b o _ _ hc e n => u.any e n hc) (fun b o hc e n => u.free b o e n hc) (fun b o hc e => u.there b o e hc) u.tups u.frzs u.tbls (fun m' hm => by
    obtain ⟨o', es', ep', ho', r'⟩ := hm
    rw [ho] at ho'; cases ho'
    exact ⟨_, es', ep', hL, r'⟩) hok hg
theorem Inv.turned {t' : Nat} {it : Addr} (I : Inv X pins σ H s) (k : ∀ b o, b ≠ it → s.heap.get? b = some o → h'.get? b = some o) (hn : H it = none) (hL : it ≠ X.env.locals)
    (h1 : it ∈ X.ex ∨ X.s₀.heap.objs.size ≤ it) (h2 : ∀ x c, X.env.cells.lookup x = some c → c ≠ it) (h3 : ∀ p ∈ X.pn ++ pins, p.1 ≠ it) : Inv X pins σ H { s with heap := h', toks := t' } := by
  have nit : ∀ b u, H b = some u → b ≠ it := fun b u e z => by rw [z, hn] at e; cases e
  refine I.step (g' := s.gens) (d' := s.drawn) (ch := [it]) (fun b hb => ?_) (fun b o _ _ hc e _ => k b o (fun z => hc (by simp [z])) e) (fun b o _ _ hc e _ => ⟨o.slots, k b o (fun z => hc (by simp [z])) e⟩) (fun _ _ _ _ n => n)
    (fun b o hc e => ⟨o, k b o (fun z => hc (by simp [z])) e⟩) (fun _ _ e => e) (fun _ _ _ e => e) (fun b ps e => ⟨#[], by rw [e]; simp⟩) (fun m hm => ?_) (fun b u e => ?_) I.bare
  · have e : b = it := by simpa using hb
    subst e
    exact ⟨h1, hL, h2, h3⟩
  · obtain ⟨o, es, ep, ho, r⟩ := hm
    exact ⟨o, es, ep, k _ o (Ne.symm hL) ho, r⟩
  · refine (I.hok b u e).stay (fun c v hc q => k c v ?_ q) (fun _ q => q) fun _ _ q => q
    rcases hc with z | z
    · rw [z]; exact nit b u e
    · exact nit c _ z
theorem Inv.tok (I : Inv X pins σ H s) (t : Nat) : Inv X pins σ H { s with toks := t } := I.un (h' := s.heap) (t' := t) Un.refl I.hok
theorem Inv.kept {t' : Nat} (I : Inv X pins σ H s) (k : ∀ b u, s.heap.get? b = some u → h'.get? b = some u) : Inv X pins σ H { s with heap := h', toks := t' } := I.un (Un.kept k) (I.hok.kept k)
theorem Inv.laid {a : Addr} {o : HO} {t' : Nat} (I : Inv X pins σ H s) (k : ∀ b u, s.heap.get? b = some u → h'.get? b = some u) (hp : s.heap.objs.size ≤ a) (new : ObjOk X.prog X.w (upd H a o) h' a o) :
    Inv X pins σ (upd H a o) { s with heap := h', toks := t' } := I.un (Un.laid k hp (I.hok.fresh hp)) (I.hok.laid k hp new)
theorem Inv.write {x e : Addr} {o : HO} {t' : Nat} (I : Inv X pins σ H s) (mu : Mut (H x)) (he : e = x ∨ H e = some (.own x)) (k : ∀ b u, b ≠ e → s.heap.get? b = some u → h'.get? b = some u) (heo : ∃ u, h'.get? e = some u)
    (new : ObjOk X.prog X.w (upd H x o) h' x o) : Inv X pins σ (upd H x o) { s with heap := h', toks := t' } := I.un (Un.write mu he k heo) (I.hok.write mu he k heo new)
theorem Inv.pins_of {pins' : List (Addr × Obj)} (I : Inv X pins σ H s) (h : ∀ p ∈ pins', s.heap.get? p.1 = some p.2 ∧ H p.1 = none ∧ p.1 ≠ X.env.locals ∧ p.1 ∉ X.fs ∧ ∀ v, p.2.data ≠ .cell v) : Inv X pins' σ H s :=
  ⟨I.ok, I.os, I.bare, I.base, I.loc, I.cell, I.free, I.freeC, fun p hp => (List.mem_append.mp hp).elim (fun z => I.pin p (List.mem_append_left _ z)) (h p), I.hok, I.len⟩
theorem nodup_ix {N : List Str} (hN : N.Nodup) {i j : Nat} {x : Str} (a : N[i]? = some x) (b : N[j]? = some x) : i = j := by
  obtain ⟨h1, e1⟩ := List.getElem?_eq_some_iff.mp a
  obtain ⟨h2, e2⟩ := List.getElem?_eq_some_iff.mp b
  exact (List.getElem_inj hN).mp (e1.trans e2.symm)
theorem store_ok2 {M : Model} {A : Around} {E : Value → Shared → Prop} {i : Nat} {x : Str} {v : V} {u : Value} {Q : Unit → Shared → Prop} (I : Inv X pins σ H s) (hN : X.N.Nodup) (hi : X.N[i]? = some x) (hx : Loc X.env.scope x) (r : RelV v u)
    (h : ∀ s', Inv X pins (σ.set i (some v)) H s' → (∃ a, Heap.SameBut a s.heap s'.heap ∧ (a = X.env.locals ∨ X.env.cells.lookup x = some a)) → Q () s') (hf : X.fn x = true ∨ X.env.scope.names.lookup x = some .local := by first | exact .inl rfl | exact .inr rfl | assumption) : wpAny M A (storeName X.env x u) Q E s := by
  obtain ⟨m, hn, hl⟩ := id I.loc
  have hcls : (X.env.scope.kind == .class || (X.env.scope.kind == .module && X.env.locals != X.env.globals)) = false := by rw [I.ok.kind]; rfl
  have hiσ : i < σ.length := by rw [I.len]; exact (List.getElem?_eq_some_iff.mp hi).1
  have cne := I.cne
  have tracked : ∀ {a : Addr} {h' : Heap}, (∃ o, s.heap.get? a = some o ∧ H a = none) → Heap.SameBut a s.heap h' → HOk X.prog X.w H h' := fun {a h'} ha hs b ob e => by
    obtain ⟨_, _, hfree⟩ := ha
    refine (I.hok b ob e).stay (fun c w' hc q => (hs.2 c ?_).trans q) (fun _ q => q) fun _ _ q => q
    rintro rfl
    rcases hc with rfl | hc
    · rw [hfree] at e; cases e
    · rw [hfree] at hc; cases hc
  rcases hx with hk | hk
  · refine wpAny_storeName_local hk hn (fun h' hn' hs => ?_) hcls
    obtain ⟨oL, _, _, hoL, _⟩ := id hn
    refine h _ ⟨I.ok, I.os, I.bare, ⟨fun b o e n hb hx => ?_, fun b o e n hb hx => ?_, I.base.free, fun b o e hx => ?_, I.base.tups, I.base.frzs, I.base.tbls⟩, ⟨_, hn', fun j y v' e1 e2 e3 => ?_⟩, fun y c e => ?_, I.free, I.freeC, fun p hp => ?_, tracked ⟨oL, hoL, I.free⟩ hs, by simpa using I.len⟩ ⟨_, hs, .inl rfl⟩
    · exact (hs.2 b (Nat.ne_of_lt (Nat.lt_of_lt_of_le (Heap.lt_size e) I.ok.above))).trans (I.base.keep b o e n hb hx)
    · obtain ⟨sl, e1⟩ := I.base.slot b o e n hb hx
      exact ⟨sl, (hs.2 b (Nat.ne_of_lt (Nat.lt_of_lt_of_le (Heap.lt_size e) I.ok.above))).trans e1⟩
    · obtain ⟨o', e1⟩ := I.base.there b o e hx
      exact ⟨o', (hs.2 b (Nat.ne_of_lt (Nat.lt_of_lt_of_le (Heap.lt_size e) I.ok.above))).trans e1⟩
    · by_cases hj : j = i
      · subst hj
        rw [hi] at e1; cases e1
        rw [List.getElem?_set_self hiσ] at e2
        cases e2
        exact ⟨u, r, .inl ⟨hk, by simp⟩⟩
      · rw [List.getElem?_set_ne (Ne.symm hj)] at e2
        obtain ⟨u', r', q⟩ := hl j y v' e1 e2 e3
        refine ⟨u', r', ?_⟩
        rcases q with ⟨k, e⟩ | ⟨k, c, e, z⟩
        · refine .inl ⟨k, ?_⟩
          have : y ≠ x := fun e => hj (nodup_ix hN e1 (e ▸ hi))
          simp [this, e]
        · exact .inr ⟨k, c, e, z.sameBut hs (cne y c e)⟩
    · obtain ⟨w', z⟩ := I.cell y c e
      exact ⟨w', z.sameBut hs (cne y c e)⟩
    · obtain ⟨e, n, ne, nf, d⟩ := I.pin p hp
      exact ⟨(hs.2 p.1 ne).trans e, n, ne, nf, d⟩
  · have hfn : X.fn x = true := by
      rcases hf with z | z
      · exact z
      · rw [z] at hk; cases hk
    obtain ⟨c, hc⟩ := I.ok.has x (.inl hk)
    obtain ⟨w', z⟩ := I.cell x c hc
    refine wpAny_storeName_cell I.ok.kind hk hc z (fun h' hc' hs => ?_)
    obtain ⟨oc, hoc, hocd⟩ := id z
    refine h { s with heap := h' } ⟨I.ok, I.os, I.bare, ⟨fun b o e n hb hx => ?_, fun b o e n hb hx => ?_, I.base.free, fun b o e hx => ?_, I.base.tups, I.base.frzs, I.base.tbls⟩, ⟨m, hn.sameBut hs (Ne.symm (cne x c hc)), fun j y v' e1 e2 e3 => ?_⟩, fun y c' e => ?_, I.free, I.freeC, fun p hp => ?_, tracked ⟨oc, hoc, I.freeC x c hc⟩ hs, by simpa using I.len⟩ ⟨c, hs, .inr hc⟩
    · exact (hs.2 b (Nat.ne_of_lt (Nat.lt_of_lt_of_le (Heap.lt_size e) (I.ok.cab x c hfn hc)))).trans (I.base.keep b o e n hb hx)
    · obtain ⟨sl, e1⟩ := I.base.slot b o e n hb hx
      exact ⟨sl, (hs.2 b (Nat.ne_of_lt (Nat.lt_of_lt_of_le (Heap.lt_size e) (I.ok.cab x c hfn hc)))).trans e1⟩
    · obtain ⟨o', e1⟩ := I.base.there b o e hx
      exact ⟨o', (hs.2 b (Nat.ne_of_lt (Nat.lt_of_lt_of_le (Heap.lt_size e) (I.ok.cab x c hfn hc)))).trans e1⟩
    · by_cases hj : j = i
      · subst hj
        rw [hi] at e1; cases e1
        rw [List.getElem?_set_self hiσ] at e2
        cases e2
        exact ⟨u, r, .inr ⟨.inl hk, c, hc, hc'⟩⟩
      · rw [List.getElem?_set_ne (Ne.symm hj)] at e2
        obtain ⟨u', r', q⟩ := hl j y v' e1 e2 e3
        refine ⟨u', r', ?_⟩
        rcases q with q | ⟨k, c', e, z'⟩
        · exact .inl q
        · refine .inr ⟨k, c', e, z'.sameBut hs ?_⟩
          rintro rfl
          exact hj (nodup_ix hN e1 (I.ok.inj _ _ _ e hc ▸ hi))
    · by_cases hcc : c' = c
      · subst hcc; exact ⟨_, hc'⟩
      · obtain ⟨w2, z2⟩ := I.cell y c' e
        exact ⟨w2, z2.sameBut hs hcc⟩
    · obtain ⟨e, n, ne, nf, d⟩ := I.pin p hp
      refine ⟨(hs.2 p.1 ?_).trans e, n, ne, nf, d⟩
      intro q
      rw [q, hoc] at e
      have q' : oc = p.2 := Option.some.inj e
      exact d w' (by rw [← q']; exact hocd)
theorem store_ok {M : Model} {A : Around} {E : Value → Shared → Prop} {i : Nat} {x : Str} {v : V} {u : Value} {Q : Unit → Shared → Prop} (I : Inv X pins σ H s) (hN : X.N.Nodup) (hi : X.N[i]? = some x) (hx : Loc X.env.scope x) (r : RelV v u)
    (h : ∀ s', Inv X pins (σ.set i (some v)) H s' → Q () s') (hf : X.fn x = true ∨ X.env.scope.names.lookup x = some .local := by first | exact .inl rfl | exact .inr rfl | assumption) : wpAny M A (storeName X.env x u) Q E s :=
  store_ok2 I hN hi hx r (fun s' I' _ => h s' I') hf
theorem Inv.call' {s' : Shared} {ch : List Addr} (I : Inv X pins σ H s) (ho : s'.os = s.os) (u : Un (frs X.stack) ch H H' s.heap s'.heap) (hok : HOk X.prog X.w H' s'.heap) (hg : AllBare s'.gens)
    (hch : ∀ b ∈ ch, (b ∈ X.ex ∨ X.s₀.heap.objs.size ≤ b) ∧ b ≠ X.env.locals ∧ (∀ x c, X.env.cells.lookup x = some c → c ≠ b) ∧ ∀ p ∈ X.pn ++ pins, p.1 ≠ b) : Inv X pins σ H' s' := by
  obtain ⟨h', g', d', t', o'⟩ := s'
  have e : o' = s.os := ho
  subst e
  exact I.call (g' := g') (t' := t') (d' := d') u hok hg hch
end
abbrev XK := Value → Option Addr → Hp → Prop
abbrev St := List (Option V)
abbrev VK := V → Hp → Prop
abbrev TE := St → Hp → VK → Prop
abbrev TT := St → Hp → (Bool → Hp → Prop) → Prop
abbrev TA := St → Hp → (List V → Hp → Prop) → Prop
structure Ends where
  nx : St → Hp → Prop
  rt : VK
  bk : St → Hp → Prop := fun _ _ => False
  ct : St → Hp → Prop := fun _ _ => False
abbrev TS := Ends → St → Hp → Prop
def EP (X : Cx) (pins : List (Addr × Obj)) (σ : St) (Q : VK) (u : Value) (s' : Shared) : Prop := ∃ v H', Inv X pins σ H' s' ∧ RelV v u ∧ Q v H'
def TP (X : Cx) (pins : List (Addr × Obj)) (σ : St) (Q : Bool → Hp → Prop) (b : Bool) (s' : Shared) : Prop := ∃ H', Inv X pins σ H' s' ∧ Q b H'
def AP (X : Cx) (pins : List (Addr × Obj)) (σ : St) (Q : List V → Hp → Prop) (us : List Value) (s' : Shared) : Prop := ∃ vs H', Inv X pins σ H' s' ∧ Vals vs us ∧ Q vs H'
def SP (X : Cx) (pins : List (Addr × Obj)) (D : Ends) (f : Flow) (s' : Shared) : Prop :=
  match f with
  | .next => ∃ σ' H', Inv X pins σ' H' s' ∧ D.nx σ' H'
  | .brk => ∃ σ' H', Inv X pins σ' H' s' ∧ D.bk σ' H'
  | .cont => ∃ σ' H', Inv X pins σ' H' s' ∧ D.ct σ' H'
  | .ret u => ∃ v σ' H', Inv X pins σ' H' s' ∧ RelV v u ∧ D.rt v H'
def PE (X : Cx) (e : Expr) (t : TE) : Prop :=
  ∀ (pins : List (Addr × Obj)) (s : Shared) (σ : St) (H : Hp) (Q : VK), Inv X pins σ H s → t σ H Q → wpAny (model X.prog X.w) X.A (eval e X.env) (EP X pins σ Q) X.xe s
def PT (X : Cx) (e : Expr) (t : TT) : Prop :=
  ∀ (pins : List (Addr × Obj)) (s : Shared) (σ : St) (H : Hp) (Q : Bool → Hp → Prop), Inv X pins σ H s → t σ H Q → wpAny (model X.prog X.w) X.A (isTrue e X.env (eval e X.env)) (TP X pins σ Q) X.xe s
def PW (X : Cx) (e : Expr) (t : TT) : Prop :=
  ∀ (whole : Sem Value) (pins : List (Addr × Obj)) (s : Shared) (σ : St) (H : Hp) (Q : Bool → Hp → Prop), Inv X pins σ H s → t σ H Q → wpAny (model X.prog X.w) X.A (isTrue e X.env whole) (TP X pins σ Q) X.xe s
theorem PW.pt {X : Cx} {e : Expr} {t : TT} (h : PW X e t) : PT X e t := h _
def PA (X : Cx) (es : List Expr) (t : TA) : Prop :=
  ∀ (pos : Pos) (pins : List (Addr × Obj)) (s : Shared) (σ : St) (H : Hp) (Q : List V → Hp → Prop), Inv X pins σ H s → t σ H Q → wpAny (model X.prog X.w) X.A (spliced (backTo pos (starEach es X.env))) (AP X pins σ Q) X.xe s
def PS (X : Cx) (st : Stmt) (t : TS) : Prop :=
  ∀ (pins : List (Addr × Obj)) (s : Shared) (σ : St) (H : Hp) (D : Ends), Inv X pins σ H s → t D σ H → wpAny (model X.prog X.w) X.A (exec st X.env) (SP X pins D) X.xe s
def PSs (X : Cx) (st : List Stmt) (t : TS) : Prop :=
  ∀ (pins : List (Addr × Obj)) (s : Shared) (σ : St) (H : Hp) (D : Ends), Inv X pins σ H s → t D σ H → wpAny (model X.prog X.w) X.A (execs st X.env) (SP X pins D) X.xe s
theorem thn {α : Type} {t : Sem α} {Q Q' : α → Shared → Prop} {M : Model} {A : Around} {E : Value → Shared → Prop} {s : Shared} (h : wpAny M A t Q E s) (hQ : ∀ a s, Q a s → Q' a s) : wpAny M A t Q' E s := wpAny_mono h hQ fun _ _ x => x
end L2
namespace L2
open PySem PySem.Spec PyProof.Rows
section
variable {X : Cx}
def tVar (i : Nat) : TE := fun σ H Q => ∃ v, σ[i]? = some (some v) ∧ Q v H
def tC (v : V) : TE := fun _ H Q => Q v H
theorem pe_var {i : Nat} {x : Str} {pos : Pos} (hN : X.N[i]? = some x) (hv : Vis X.env.scope x) (hd : (x == ("__debug__" : Str)) = false := by decide) (hcd : (x == ("__classdict__" : Str)) = false := by decide) : PE X (.Name x pos) (tVar i) := by
  intro pins s σ H Q I h
  obtain ⟨v, e, h⟩ := h
  obtain ⟨m, hn, hl⟩ := I.loc
  obtain ⟨u, r, l⟩ := hl i x v hN e hv
  have fin : EP X pins σ Q u s := ⟨v, H, I, r, h⟩
  rcases l with ⟨hk, hm⟩ | ⟨hk, c, hc, hcell⟩
  · exact wpAny_Name (wpAny_loadName_local I.ok.kind hk hn hm fin) hd
  · rcases hk with hk | hk
    · exact wpAny_Name (wpAny_loadName_cell I.ok.kind hk hc hcell fin) hd
    · exact wpAny_Name (wpAny_loadName_free I.ok.kind hk hc hcell fin hcd) hd
theorem pe_int {i j pos} : PE X (.Constant (.int i) j pos) (tC (.int i)) := fun _ _ _ H _ I h => wpAny_Constant_int ⟨.int i, H, I.tok _, ⟨_, rfl⟩, h⟩
theorem pe_bl {b j pos} : PE X (.Constant (.bool b) j pos) (tC (.bl b)) := fun _ _ _ H _ I h => Constant_bool ⟨.bl b, H, I, rfl, h⟩
theorem pe_str {x j pos} : PE X (.Constant (.str x) j pos) (tC (.str x)) := fun _ _ _ H _ I h => Calls.Constant_str ⟨.str x, H, I.tok _, ⟨_, rfl⟩, h⟩
def Gl (X : Cx) (x : Str) : Prop := X.env.kindOf x = some .globalImplicit
theorem ld_glob {E : Value → Shared → Prop} {pins : List (Addr × Obj)} {s : Shared} {σ : St} {H : Hp} {x : Str} {u : Value} {pos : Pos} {Q : Value → Shared → Prop} (I : Inv X pins σ H s) (hg : Gl X x) (hm : X.mg x = some u) (h : Q u s)
    (hd : (x == ("__debug__" : Str)) = false := by decide) : wpAny (model X.prog X.w) X.A (eval (.Name x pos) X.env) Q E s :=
  Calls.Name_function_global I.ok.kind hg (Calls.loadGlobal_global (by rw [I.ok.glob]; exact I.mod.glob.keeps I.bk) hm h) hd
theorem ld_blt {E : Value → Shared → Prop} {pins : List (Addr × Obj)} {s : Shared} {σ : St} {H : Hp} {x : Str} {u : Value} {pos : Pos} {Q : Value → Shared → Prop} (I : Inv X pins σ H s) (hg : Gl X x) (hm : X.mg x = none) (hv : bootBuiltins x = some u) (h : Q u s)
    (hn : x ≠ "__name__" := by decide) (hd : (x == ("__debug__" : Str)) = false := by decide) : wpAny (model X.prog X.w) X.A (eval (.Name x pos) X.env) Q E s := by
  obtain ⟨mb, h1, h2⟩ := I.mod.blt
  exact Calls.Name_function_global I.ok.kind hg (Calls.loadGlobal_builtin (by rw [I.ok.glob]; exact I.mod.glob.keeps I.bk) hm (by rw [I.ok.blt]; exact h1.keeps I.bk) ((h2 x hn).trans hv) h) hd
theorem pe_glob {x : Str} {v : V} {u : Value} {pos : Pos} (hg : Gl X x) (hm : X.mg x = some u) (r : RelV v u) (hd : (x == ("__debug__" : Str)) = false := by decide) : PE X (.Name x pos) (tC v) :=
  fun _ _ _ H _ I h => ld_glob I hg hm ⟨v, H, I, r, h⟩ hd
theorem pe_bltn {x : Str} {v : V} {u : Value} {pos : Pos} (hg : Gl X x) (hm : X.mg x = none) (hv : bootBuiltins x = some u) (r : RelV v u) (hn : x ≠ "__name__" := by decide) (hd : (x == ("__debug__" : Str)) = false := by decide) : PE X (.Name x pos) (tC v) :=
  fun _ _ _ H _ I h => ld_blt I hg hm hv ⟨v, H, I, r, h⟩ hn hd
variable {a b : Expr} {ta tb : TE} {pos : Pos}
def tB (t : TE) : TT := fun σ H Q => t σ H fun x H1 => ∃ c, x = .bl c ∧ Q c H1
theorem pt_val {e : Expr} {t : TE} (h : PE X e t) (he : ∀ whole, isTrue e X.env whole = (do let v ← whole; standAt e.pos; holding [v] (truthy v)) := by intro _; rfl) : PT X e (tB t) := by
  intro pins s σ H Q I hw
  refine isTrue_plain (thn (h pins s σ H _ I hw) fun v s1 ⟨x, H1, I1, r1, q1⟩ => ?_) (he _)
  obtain ⟨d, rfl, q⟩ := q1
  cases r1
  exact wpAny_truthy_bool ⟨H1, I1, q⟩
variable {tA tB' : TT} {rest : List Expr}
def tAnd (t u : TT) : TT := fun σ H Q => t σ H fun c H1 => if c = true then u σ H1 Q else Q false H1
def tOr (t u : TT) : TT := fun σ H Q => t σ H fun c H1 => if c = true then Q true H1 else u σ H1 Q
def tNot (t : TT) : TT := fun σ H Q => t σ H fun c H1 => Q (!c) H1
theorem pw_and1 (ha : PT X a tA) : PW X (.BoolOp .And [a] pos) tA := by
  intro wh pins s σ H Q I h
  refine isTrue_and (thn (ha pins s σ H Q I h) fun c s1 e => ?_)
  cases c with
  | true => exact isTrue_and_nil e
  | false => exact e
theorem pw_or1 (ha : PT X a tA) : PW X (.BoolOp .Or [a] pos) tA := by
  intro wh pins s σ H Q I h
  refine isTrue_or (thn (ha pins s σ H Q I h) fun c s1 e => ?_)
  cases c with
  | false => exact isTrue_or_nil e
  | true => exact e
theorem pw_and (ha : PT X a tA) (hb : PW X (.BoolOp .And (b :: rest) pos) tB') : PW X (.BoolOp .And (a :: b :: rest) pos) (tAnd tA tB') := by
  intro wh pins s σ H Q I h
  refine isTrue_and (thn (ha pins s σ H _ I h) fun c s1 ⟨H1, I1, q1⟩ => ?_)
  cases c with
  | true => exact hb wh pins s1 σ H1 Q I1 q1
  | false => exact ⟨H1, I1, q1⟩
theorem pw_or (ha : PT X a tA) (hb : PW X (.BoolOp .Or (b :: rest) pos) tB') : PW X (.BoolOp .Or (a :: b :: rest) pos) (tOr tA tB') := by
  intro wh pins s σ H Q I h
  refine isTrue_or (thn (ha pins s σ H _ I h) fun c s1 ⟨H1, I1, q1⟩ => ?_)
  cases c with
  | true => exact ⟨H1, I1, q1⟩
  | false => exact hb wh pins s1 σ H1 Q I1 q1
theorem pt_not (ha : PT X a tA) : PT X (.UnaryOp .Not a pos) (tNot tA) := by
  intro pins s σ H Q I h
  exact isTrue_not (ha pins s σ H (fun c H1 => Q (!c) H1) I h)
def tAndV (ta tb : TE) : TE := fun σ H Q => ta σ H fun x H1 => ∃ c, x = .bl c ∧ if c = true then tb σ H1 Q else Q (.bl false) H1
def tOrV (ta tb : TE) : TE := fun σ H Q => ta σ H fun x H1 => ∃ c, x = .bl c ∧ if c = true then Q (.bl true) H1 else tb σ H1 Q
def tNotV (ta : TE) : TE := fun σ H Q => ta σ H fun x H1 => ∃ c, x = .bl c ∧ Q (.bl (!c)) H1
theorem pe_one {op} {t : TE} (h : PE X a t) : PE X (.BoolOp op [a] pos) t := fun pins s σ H Q I hw => BoolOp_one (h pins s σ H Q I hw)
theorem pe_and (ha : PE X a ta) (hb : PE X (.BoolOp .And (b :: rest) pos) tb) : PE X (.BoolOp .And (a :: b :: rest) pos) (tAndV ta tb) := by
  intro pins s σ H Q I h
  refine BoolOp_and (thn (ha pins s σ H _ I h) fun v s1 ⟨x, H1, I1, r1, q1⟩ => ?_)
  obtain ⟨c, rfl, q1⟩ := q1
  cases r1
  refine wpAny_truthy_bool ?_
  cases c with
  | true => exact hb pins s1 σ H1 Q I1 q1
  | false => exact ⟨.bl false, H1, I1, rfl, q1⟩
theorem pe_not (ha : PE X a ta) : PE X (.UnaryOp .Not a pos) (tNotV ta) := by
  intro pins s σ H Q I h
  refine UnaryOp_ (thn (ha pins s σ H _ I h) fun v s1 ⟨x, H1, I1, r1, q1⟩ => ?_)
  obtain ⟨c, rfl, q1⟩ := q1
  cases r1
  exact not_of (wpAny_truthy_bool ⟨.bl (!c), H1, I1, rfl, q1⟩)
def tIf (t : TT) (ta tb : TE) : TE := fun σ H Q => t σ H fun c H1 => if c = true then ta σ H1 Q else tb σ H1 Q
theorem pe_ifExp {c : Expr} (hc : PT X c tA) (ha : PE X a ta) (hb : PE X b tb) : PE X (.IfExp c a b pos) (tIf tA ta tb) := by
  intro pins s σ H Q I h
  refine wpAny_IfExp (thn (hc pins s σ H _ I h) fun d s1 ⟨H1, I1, q1⟩ => ?_)
  cases d with
  | true => exact ha pins s1 σ H1 Q I1 q1
  | false => exact hb pins s1 σ H1 Q I1 q1
end
end L2
namespace L2
open PySem PySem.Spec PyProof.Rows
def SqL (K : PySem.W.Frag) (H : Hp) (a : Addr) (xs : List V) : Prop :=
  Rd H a (.lst xs) ∨
    ∃ (o : Obj) (its : Array Value) (n : Nat), K.lookup a = some o ∧ o.cls = .type "list" ∧ o.dict = none ∧ o.data = .seq its n ∧ its.size ≤ sizeLine ∧ Vals xs its.toList
def SqT (K : PySem.W.Frag) (H : Hp) (a : Addr) (xs : List V) : Prop :=
  Rd H a (.tup xs) ∨
    ∃ (o : Obj) (its : Array Value) (n : Nat), K.lookup a = some o ∧ o.cls = .type "tuple" ∧ o.data = .seq its n ∧ its.size ≤ sizeLine ∧ Vals xs its.toList
def absV : Value → Option V
  | .none => some .non
  | .bool b => some (.bl b)
  | .int i _ => some (.int i)
  | .str x _ => some (.str x)
  | .bytes b _ => some (.byt b)
  | .float b _ => some (.flt b)
  | .ref a => some (.ref a)
  | .type n => some (.ty n)
  | _ => none
theorem RelV.abs {x : V} {u : Value} (r : RelV x u) : absV u = some x := by
  cases x with
  | non => cases r; rfl
  | bl _ => cases r; rfl
  | int _ => obtain ⟨t, rfl⟩ := r; rfl
  | str _ => obtain ⟨t, rfl⟩ := r; rfl
  | byt _ => obtain ⟨t, rfl⟩ := r; rfl
  | flt _ => obtain ⟨t, rfl⟩ := r; rfl
  | ref _ => cases r; rfl
  | ty _ => cases r; rfl
theorem RelV.inj {x y : V} {u : Value} (r : RelV x u) (q : RelV y u) : x = y := Option.some.inj (r.abs.symm.trans q.abs)
theorem Vals.inj : ∀ {xs ys : List V} {us : List Value}, Vals xs us → Vals ys us → xs = ys
  | _, _, _, .nil, .nil => rfl
  | _, _, _, .cons r t, .cons r' t' => by rw [r.inj r', Vals.inj t t']
section
variable {X : Cx} {pins : List (Addr × Obj)} {σ : St} {H : Hp} {s : Shared} {a : Addr} {xs ys : List V}
theorem SqL.of {K : PySem.W.Frag} (h : H a = some (.lst xs)) : SqL K H a xs := .inl (.inl h)
theorem SqT.of {K : PySem.W.Frag} (h : H a = some (.tup xs)) : SqT K H a xs := .inl (.inl h)
theorem Inv.list (I : Inv X pins σ H s) (h : SqL X.K H a xs) : ∃ its : List Value, Vals xs its ∧ PlainL s.heap a its.toArray ∧ xs.length ≤ sizeLine := by
  rcases h with h | ⟨o, its, n, hk, hc, hd, hs, hz, r⟩
  · obtain ⟨z, its, n, r, e⟩ := h.ok I.hok
    exact ⟨its, r, ⟨_, n, e, rfl, rfl, rfl⟩, z⟩
  · refine ⟨its.toList, r, ⟨o, n, I.kIn a o hk, hc, hd, by simpa using hs⟩, ?_⟩
    have e := r.length
    simp only [Array.length_toList] at e
    omega
theorem Inv.tuple (I : Inv X pins σ H s) (h : SqT X.K H a xs) : ∃ its : List Value, Vals xs its ∧ IsTup s.heap a its.toArray ∧ xs.length ≤ sizeLine := by
  rcases h with h | ⟨o, its, n, hk, hc, hs, hz, r⟩
  · obtain ⟨z, its, r, p⟩ := h.ok I.hok
    exact ⟨its, r, p, z⟩
  · refine ⟨its.toList, r, ⟨o, I.kIn a o hk, hc, n, by simpa using hs⟩, ?_⟩
    have e := r.length
    simp only [Array.length_toList] at e
    omega
theorem Inv.list_inj (I : Inv X pins σ H s) (h : SqL X.K H a xs) (h' : SqL X.K H a ys) : xs = ys := by
  obtain ⟨its, r, ⟨o, n, e, _, _, d⟩, _⟩ := I.list h
  obtain ⟨its', r', ⟨o', n', e', _, _, d'⟩, _⟩ := I.list h'
  rw [e] at e'; cases e'
  rw [d] at d'
  injection d' with d1 _
  have : its = its' := by simpa using congrArg Array.toList d1
  subst this
  exact r.inj r'
theorem Inv.tuple_inj (I : Inv X pins σ H s) (h : SqT X.K H a xs) (h' : SqT X.K H a ys) : xs = ys := by
  obtain ⟨its, r, ⟨o, e, _, n, d⟩, _⟩ := I.tuple h
  obtain ⟨its', r', ⟨o', e', _, n', d'⟩, _⟩ := I.tuple h'
  rw [e] at e'; cases e'
  rw [d] at d'
  injection d' with d1 _
  have : its = its' := by simpa using congrArg Array.toList d1
  subst this
  exact r.inj r'
end
abbrev Cx.wish (X : Cx) (E : Value → Shared → Prop) : Cx := { X with xe := E }
abbrev Cx.nox (X : Cx) : Cx := X.wish fun _ _ => False
theorem Cx.Ok.wish {X : Cx} (ok : X.Ok) (E : Value → Shared → Prop) : (X.wish E).Ok :=
  ⟨ok.mod, ok.kind, ok.glob, ok.blt, ok.above, ok.inj, ok.has, ok.cab, ok.hd, ok.frames, ok.stk, ok.exf, ok.bs, ok.bsz, ok.noex, ok.exfs, ok.funs, ok.frf⟩
theorem Cx.Ok.unwish {X : Cx} {E : Value → Shared → Prop} (ok : (X.wish E).Ok) : X.Ok :=
  ⟨ok.mod, ok.kind, ok.glob, ok.blt, ok.above, ok.inj, ok.has, ok.cab, ok.hd, ok.frames, ok.stk, ok.exf, ok.bs, ok.bsz, ok.noex, ok.exfs, ok.funs, ok.frf⟩
section
variable {X : Cx} {pins : List (Addr × Obj)} {σ : St} {H : Hp} {s : Shared} {E : Value → Shared → Prop}
theorem Inv.wish (I : Inv X pins σ H s) (E : Value → Shared → Prop) : Inv (X.wish E) pins σ H s := ⟨I.ok.wish E, I.os, I.bare, I.base, I.loc, I.cell, I.free, I.freeC, I.pin, I.hok, I.len⟩
theorem Inv.unwish (I : Inv (X.wish E) pins σ H s) : Inv X pins σ H s := ⟨I.ok.unwish, I.os, I.bare, I.base, I.loc, I.cell, I.free, I.freeC, I.pin, I.hok, I.len⟩
theorem SP.unwish {D : Ends} {f : Flow} {s' : Shared} (h : SP (X.wish E) pins D f s') : SP X pins D f s' := by
  cases f with
  | next => obtain ⟨σ', H', I, q⟩ := h; exact ⟨σ', H', I.unwish, q⟩
  | brk => obtain ⟨σ', H', I, q⟩ := h; exact ⟨σ', H', I.unwish, q⟩
  | cont => obtain ⟨σ', H', I, q⟩ := h; exact ⟨σ', H', I.unwish, q⟩
  | ret u => obtain ⟨v, σ', H', I, r, q⟩ := h; exact ⟨v, σ', H', I.unwish, r, q⟩
theorem PE.nox {e : Expr} {t : TE} (h : PE X.nox e t) : PE X e t := fun pins s σ H Q I hw =>
  wpAny_mono (h pins s σ H Q (I.wish _) hw) (fun _ _ ⟨v, H', I', r, q⟩ => ⟨v, H', I'.unwish, r, q⟩) fun _ _ z => False.elim z
theorem PT.nox {e : Expr} {t : TT} (h : PT X.nox e t) : PT X e t := fun pins s σ H Q I hw =>
  wpAny_mono (h pins s σ H Q (I.wish _) hw) (fun _ _ ⟨H', I', q⟩ => ⟨H', I'.unwish, q⟩) fun _ _ z => False.elim z
theorem PSs.nox {st : List Stmt} {t : TS} (h : PSs X.nox st t) : PSs X st t := fun pins s σ H D I hw =>
  wpAny_mono (h pins s σ H D (I.wish _) hw) (fun _ _ q => q.unwish) fun _ _ z => False.elim z
end
section
variable {X : Cx} {st : Stmt} {rest : List Stmt} {t u : TS} {e : Expr} {te : TE} {pos : Pos}
def tNext : TS := fun D σ H => D.nx σ H
def tSeq (t u : TS) : TS := fun D σ H => t { D with nx := u D } σ H
theorem pss_nil : PSs X [] tNext := fun _ _ σ H _ I h => wpAny_execs_nil ⟨σ, H, I, h⟩
theorem pss_cons (h1 : PS X st t) (h2 : PSs X rest u) : PSs X (st :: rest) (tSeq t u) := by
  intro pins s σ H D I h
  refine wpAny_execs_cons (thn (h1 pins s σ H { D with nx := u D } I h) fun f s1 q => ?_)
  cases f with
  | next =>
    obtain ⟨σ', H', I', q⟩ := q
    exact h2 pins s1 σ' H' D I' q
  | ret v => exact q
  | brk => exact q
  | cont => exact q
theorem pss_one (h1 : PS X st t) : PSs X [st] t := by
  intro pins s σ H D I h
  refine wpAny_execs_cons (thn (h1 pins s σ H D I h) fun f s1 q => ?_)
  cases f with
  | next => exact wpAny_execs_nil q
  | ret v => exact q
  | brk => exact q
  | cont => exact q
theorem Inv.quiet {pins : List (Addr × Obj)} {σ : St} {H : Hp} {s : Shared} (I : Inv X pins σ H s) : interactive X.env = false := by simp [interactive, I.ok.kind]
def tDrop (te : TE) : TS := fun D σ H => te σ H fun _ H1 => D.nx σ H1
theorem ps_expr (he : PE X e te) (hs : swapsWith e none pos.line X.env = pure false := by rfl) : PS X (.Expr e pos) (tDrop te) := by
  intro pins s σ H D I h
  exact wpAny_Expr_any (thn (he pins s σ H _ I h) fun v s1 ⟨x, H1, I1, r1, q1⟩ => ⟨σ, H1, I1, q1⟩) I.quiet hs
def tRet (te : TE) : TS := fun D σ H => te σ H D.rt
theorem ps_ret (he : PE X e te) : PS X (.Return (some e) pos) (tRet te) := by
  intro pins s σ H D I h
  exact wpAny_Return_some (thn (he pins s σ H _ I h) fun v s1 ⟨x, H1, I1, r1, q1⟩ => ⟨x, σ, H1, I1, r1, q1⟩)
def tRetN : TS := fun D _ H => D.rt .non H
def tIfS (c : TT) (t u : TS) : TS := fun D σ H => c σ H fun b H1 => if b = true then t D σ H1 else u D σ H1
theorem ps_if {c : Expr} {a b : List Stmt} {tc : TT} (hc : PT X c tc) (ha : PSs X a t) (hb : PSs X b u) : PS X (.If c a b pos) (tIfS tc t u) := by
  intro pins s σ H D I h
  refine wpAny_If (thn (hc pins s σ H _ I h) fun d s1 ⟨H1, I1, q1⟩ => ?_)
  cases d with
  | true => exact ha pins s1 σ H1 D I1 q1
  | false => exact hb pins s1 σ H1 D I1 q1
def tNever : TS := fun _ _ _ => False
end
abbrev TG := V → St → Hp → (St → Hp → Prop) → Prop
abbrev TGs := List V → St → Hp → (St → Hp → Prop) → Prop
def PG (X : Cx) (target : Expr) (t : TG) : Prop :=
  ∀ (pins : List (Addr × Obj)) (s : Shared) (σ : St) (H : Hp) (v : V) (u : Value) (Q : St → Hp → Prop), Inv X pins σ H s → RelV v u → t v σ H Q →
    wpAny (model X.prog X.w) X.A (assign target X.env u) (fun _ s' => ∃ σ' H', Inv X pins σ' H' s' ∧ Q σ' H') X.xe s
def PGs (X : Cx) (ts : List Expr) (t : TGs) : Prop :=
  ∀ (pins : List (Addr × Obj)) (s : Shared) (σ : St) (H : Hp) (vs : List V) (us : List Value) (Q : St → Hp → Prop), Inv X pins σ H s → Vals vs us → t vs σ H Q →
    wpAny (model X.prog X.w) X.A (assignInOrder ((assignEach ts X.env).map (·.2)) us) (fun _ s' => ∃ σ' H', Inv X pins σ' H' s' ∧ Q σ' H') X.xe s
abbrev TSet := V → V → V → Hp → (Hp → Prop) → Prop
def PSet (X : Cx) (t : TSet) : Prop :=
  ∀ (pins : List (Addr × Obj)) (s : Shared) (σ : St) (H : Hp) (o i v : V) (ov iv u : Value) (Q : Hp → Prop), Inv X pins σ H s → RelV o ov → RelV i iv → RelV v u → t o i v H Q →
    wpAny (model X.prog X.w) X.A (setItem ov iv u) (fun _ s' => ∃ H', Inv X pins σ H' s' ∧ Q H') X.xe s
section
variable {X : Cx} {pos : Pos}
def gName (i : Nat) : TG := fun v σ H Q => Q (σ.set i (some v)) H
theorem pg_name {i : Nat} {x : Str} (hN : X.N.Nodup) (hi : X.N[i]? = some x) (hx : Loc X.env.scope x) (hf : X.fn x = true ∨ X.env.scope.names.lookup x = some .local := by first | exact .inl rfl | exact .inr rfl | assumption) : PG X (.Name x pos) (gName i) := by
  intro pins s σ H v u Q I r h
  exact wpAny_assign_Name (store_ok I hN hi hx r (fun s' I' => ⟨_, H, I', h⟩) hf)
def gNil : TGs := fun vs σ H Q => vs = [] ∧ Q σ H
def gCons (t : TG) (u : TGs) : TGs := fun vs σ H Q => ∃ v r, vs = v :: r ∧ t v σ H fun σ' H' => u r σ' H' Q
theorem pgs_nil : PGs X [] gNil := by
  intro pins s σ H vs us Q I r h
  obtain ⟨e, h⟩ := h
  subst e
  cases r
  exact assignInOrder_nil ⟨σ, H, I, h⟩
theorem pgs_cons {e : Expr} {es : List Expr} {t : TG} {u : TGs} (h1 : PG X e t) (h2 : PGs X es u)
    (hs : (assignEach (e :: es) X.env).map (·.2) = assign e X.env :: (assignEach es X.env).map (·.2) := by rfl) : PGs X (e :: es) (gCons t u) := by
  intro pins s σ H vs us Q I r h
  obtain ⟨v, vr, e1, h⟩ := h
  subst e1
  cases r with
  | cons r rr =>
    rw [hs]
    refine assignInOrder_cons (thn (h1 pins s σ H _ _ _ I r h) fun _ s1 ⟨σ1, H1, I1, q1⟩ => ?_)
    exact h2 pins s1 σ1 H1 _ _ Q I1 rr q1
def gTup (K : PySem.W.Frag) (n : Nat) (t : TGs) : TG := fun v σ H Q => ∃ a xs, v = .ref a ∧ SqT K H a xs ∧ xs.length = n ∧ t xs σ H Q
theorem pg_tup {es : List Expr} {k : Nat} {t : TGs} {n : Nat} (hc : X.calm = true) (h : PGs X es t)
    (hn : (assignEach es X.env).length = n := by rfl) (hst : (assignEach es X.env).findIdx? (·.1) = none := by rfl) : PG X (.Tuple es k pos) (gTup X.K n t) := by
  intro pins s σ H v u Q I r hw
  obtain ⟨a, xs, e1, hq, hl, hw⟩ := hw
  subst e1
  cases r
  obtain ⟨its, rv, ht, hz⟩ := I.tuple hq
  refine assign_Tuple_tuple (I.ok.hd hc) ht (by simp [hn, ← hl, rv.length]) hst fun h' hx => ?_
  have I1 : Inv X pins σ H { s with heap := h' } := I.kept (t' := s.toks) fun b o e => hx b o (Nat.ne_of_lt (Heap.lt_size e)) e
  exact h pins _ σ H xs _ Q I1 (by simpa using rv) hw
def gSub (to ti : TE) (t : TSet) : TG := fun v σ H Q => to σ H fun o H1 => ti σ H1 fun i H2 => t o i v H2 fun H3 => Q σ H3
theorem pg_sub {o i : Expr} {to ti : TE} {t : TSet} (ho : PE X o to) (hi : PE X i ti) (hs : PSet X t)
    (ha : ∀ v, assign (.Subscript o i pos) X.env v = (do
      let ov ← holding [v] (eval o X.env)
      let iv ← holding [v, ov] (eval i X.env)
      standAt pos
      holding [v, ov, iv] (setItem ov iv v)
      release [v, ov, iv] []) := by intro _; rfl) : PG X (.Subscript o i pos) (gSub to ti t) := by
  intro pins s σ H v u Q I r h
  rw [ha]
  refine wpAny_bind (wpAny_holding (thn (ho pins s σ H _ I h) fun ov s1 ⟨x, H1, I1, r1, q1⟩ => ?_))
  refine wpAny_bind (wpAny_holding (thn (hi pins s1 σ H1 _ I1 q1) fun iv s2 ⟨y, H2, I2, r2, q2⟩ => ?_))
  refine wpAny_bind (wpAny_standAt (wpAny_bind (wpAny_holding (thn (hs pins s2 σ H2 x y v ov iv u _ I2 r1 r2 r q2) fun _ s3 ⟨H3, I3, q3⟩ => ?_))))
  exact wpAny_release ⟨σ, H3, I3, q3⟩
def tAsg (te : TE) (g : TG) : TS := fun D σ H => te σ H fun x H1 => g x σ H1 D.nx
theorem ps_asg {tg e : Expr} {te : TE} {g : TG} (he : PE X e te) (hg : PG X tg g) (hs : swapsWithSole [tg] e pos.line X.env = pure false := by rfl) (hw : swappedStores [tg] e X.env = pure none := by rfl)
    (h1 : (assignEach [tg] X.env).map (·.2) = [assign tg X.env] := by rfl) : PS X (.Assign [tg] e pos) (tAsg te g) := by
  intro pins s σ H D I h
  refine wpAny_Assign_stores (thn (he pins s σ H _ I h) fun v s1 ⟨x, H1, I1, r1, q1⟩ => ?_) hs hw
  rw [h1]
  exact thn (hg pins s1 σ H1 x v _ I1 r1 q1) fun _ s2 q => q
theorem ps_set {i : Nat} {x : Str} {e : Expr} {te : TE} {pos' : Pos} (hN : X.N.Nodup) (hi : X.N[i]? = some x) (hx : Loc X.env.scope x) (he : PE X e te) (hs : swapsWith e (some (.Name x pos')) pos.line X.env = pure false := by rfl) (hf : X.fn x = true ∨ X.env.scope.names.lookup x = some .local := by first | exact .inl rfl | exact .inr rfl | assumption) :
    PS X (.Assign [.Name x pos'] e pos) (tAsg te (gName i)) := by
  intro pins s σ H D I h
  refine wpAny_Assign_Name (thn (he pins s σ H _ I h) fun v s1 ⟨y, H1, I1, r1, q1⟩ => ?_) hs
  exact store_ok I1 hN hi hx r1 (fun s2 I2 => ⟨_, H1, I2, q1⟩) hf
end
section
variable {X : Cx} {pos : Pos}
end
structure It where
  go : Nat → Hp → Prop
  yld : Nat → Hp → V → Hp → Prop
  stop : Nat → Hp → Prop
def FpOk (X : Cx) (pins : List (Addr × Obj)) (H : Hp) (b : Addr) : Prop :=
  H b = none ∧ b ≠ X.env.locals ∧ b ∉ X.fs ∧ (b ∈ X.ex ∨ X.s₀.heap.objs.size ≤ b) ∧ (∀ x c, X.env.cells.lookup x = some c → c ≠ b) ∧ ∀ p ∈ X.pn ++ pins, p.1 ≠ b
theorem Inv.fpOk {X : Cx} {pins : List (Addr × Obj)} {σ : St} {H H' : Hp} {s : Shared} {b : Addr} (I : Inv X pins σ H s) (hb : s.heap.objs.size ≤ b) (hn : H' b = none) : FpOk X pins H' b := by
  refine ⟨hn, Nat.ne_of_gt (Nat.lt_of_lt_of_le I.lt hb), I.nofs hb, .inr (Nat.le_trans I.sz hb), fun x c e z => ?_, fun p hp z => ?_⟩
  · obtain ⟨v, q⟩ := I.cell x c e
    exact absurd (Nat.lt_of_lt_of_le q.lt (by rw [z]; exact hb)) (Nat.lt_irrefl _)
  · exact absurd (Nat.lt_of_lt_of_le (Heap.lt_size (I.pin p hp).1) (by rw [z]; exact hb)) (Nat.lt_irrefl _)
structure Turn (P : Program) (w : World) (K : PySem.W.Frag) (tg : Expr) (J : It) (fp : List Addr) (it : Addr) (tn : Nat → Heap → Prop) : Prop where
  mem : it ∈ fp
  obj : ∀ i h, tn i h → ∀ b ∈ fp, ∃ o, h.get? b = some o ∧ ∀ v, o.data ≠ .cell v
  keep : ∀ i h h', tn i h → (∀ b ∈ fp, ∀ o, h.get? b = some o → h'.get? b = some o) → tn i h'
  item : ∀ (X : Cx), X.prog = P → X.w = w → X.K = K → X.calm = true → ∀ (i : Nat) (pins : List (Addr × Obj)) (s : Shared) (σ : St) (H : Hp) (E : Value → Shared → Prop), Inv X pins σ H s → (∀ b ∈ fp, FpOk X pins H b) → tn i s.heap → J.go i H →
    wpAny (model P w) X.A (pyNext (.ref it)) (fun r s1 => ∃ u, r = some u ∧
      wpAny (model P w) X.A (letOwnedTupleGo tg (.ref it) u) (fun _ s2 => ∃ x H', Inv X pins σ H' s2 ∧ RelV x u ∧ J.yld i H x H' ∧ tn (i + 1) s2.heap ∧ ∀ b ∈ fp, H' b = none) E s1) E s
  done : ∀ (X : Cx), X.prog = P → X.w = w → X.K = K → X.calm = true → ∀ (i : Nat) (pins : List (Addr × Obj)) (s : Shared) (σ : St) (H : Hp) (E : Value → Shared → Prop), Inv X pins σ H s → (∀ b ∈ fp, FpOk X pins H b) → tn i s.heap → J.stop i H →
    wpAny (model P w) X.A (pyNext (.ref it)) (fun r s1 => r = none ∧ Inv X pins σ H s1) E s
  self : ∀ (A : Around) (i : Nat) (s : Shared) (Q : Value → Shared → Prop) (E : Value → Shared → Prop), tn i s.heap → Q (.ref it) s → wpAny (model P w) A (pyIter (.ref it)) Q E s
abbrev TI := St → Hp → (It → Hp → Prop) → Prop
def PIE (X : Cx) (pins : List (Addr × Obj)) (σ : St) (tg : Expr) (R : It → Hp → Prop) (itv : Value) (s2 : Shared) : Prop :=
  ∃ (it : Addr) (fp : List Addr) (tn : Nat → Heap → Prop) (J : It) (H' : Hp), itv = .ref it ∧ Inv X pins σ H' s2 ∧ Turn X.prog X.w X.K tg J fp it tn ∧ tn 0 s2.heap ∧ (∀ b ∈ fp, FpOk X pins H' b) ∧ R J H'
def PI (X : Cx) (tg iter : Expr) (wi : TI) : Prop :=
  ∀ (pins : List (Addr × Obj)) (s : Shared) (σ : St) (H : Hp) (R : It → Hp → Prop), Inv X pins σ H s → wi σ H R →
    wpAny (model X.prog X.w) X.A (eval iter X.env) (fun v s1 => wpAny (model X.prog X.w) X.A (pyIter v) (PIE X pins σ tg R) X.xe s1) X.xe s
theorem go_of {M : Model} {A : Around} {E : Value → Shared → Prop} {s : Shared} {tg : Expr} {it : Addr} {u : Value} {o : Obj} {n : String} {vs : Array Value} {Q : Unit → Shared → Prop} (ho : s.heap.get? it = some o) (hc : o.cls = .type n) (hd : o.data = .fields vs)
    (hn : ["enumerate", "zip", "dict_itemiterator", "dict_reverseitemiterator", "odict_iterator", "itertools.zip_longest", "itertools.pairwise"].contains n = false) (hQ : Q () s) : wpAny M A (letOwnedTupleGo tg (.ref it) u) Q E s := by
  unfold letOwnedTupleGo
  cases tg <;> first
    | exact wpAny_pure hQ
    | (cases u <;> first
        | exact wpAny_pure hQ
        | (refine wpAny_bind (wpAny_load ho ?_)
           rw [hc, hd]
           show wpAny M A (if (["enumerate", "zip", "dict_itemiterator", "dict_reverseitemiterator", "odict_iterator", "itertools.zip_longest", "itertools.pairwise"].contains n && vs[0]? == some (rawInt _)) = true then _ else _) Q E s
           rw [if_neg (by intro h; rw [hn, Bool.false_and] at h; cases h)]
           exact wpAny_pure hQ))
def Itl (K : PySem.W.Frag) (a : Addr) : It :=
  ⟨fun i H => ∃ xs x, SqL K H a xs ∧ xs[i]? = some x, fun i H x H' => H' = H ∧ ∀ xs, SqL K H a xs → xs[i]? = some x, fun i H => ∃ xs, SqL K H a xs ∧ xs.length ≤ i⟩
def Itt (K : PySem.W.Frag) (a : Addr) : It :=
  ⟨fun i H => ∃ xs x, SqT K H a xs ∧ xs[i]? = some x, fun i H x H' => H' = H ∧ ∀ xs, SqT K H a xs → xs[i]? = some x, fun i H => ∃ xs, SqT K H a xs ∧ xs.length ≤ i⟩
def Itr (lo : Int) (n : Nat) : It := ⟨fun i _ => i < n, fun i H x H' => H' = H ∧ x = .int (lo + i), fun i _ => n ≤ i⟩
theorem turn_list {P : Program} {w : World} {K : PySem.W.Frag} {tg : Expr} (a it : Addr) : Turn P w K tg (Itl K a) [it] it (fun i h => h.IsListIter it a i) where
  mem := by simp
  obj := fun i h st b hb => by
    have e : b = it := by simpa using hb
    subst e
    obtain ⟨o, e, c, d⟩ := st
    exact ⟨o, e, fun v z => by rw [d] at z; cases z⟩
  keep := fun i h h' st k => st.at fun o e => k it (by simp) o e
  item := by
    intro X hP hw hK hc i pins s σ H E I hf st hg
    subst hP hw hK
    obtain ⟨xs, x, hq, hx⟩ := hg
    obtain ⟨its, rv, p, hz⟩ := I.list hq
    obtain ⟨u, hu, ru⟩ := rv.get hx
    obtain ⟨f0, f1, f2, f3, f4, f5⟩ := hf it (by simp)
    refine wpAny_pyNext_list_item st p.isList (x := u) (by simpa using hu) fun h' st' sb => ?_
    have I1 : Inv X pins σ H { s with heap := h' } := I.turned (t' := s.toks) (fun b o hb e => (sb.2 b hb).trans e) f0 f1 f3 f4 f5
    obtain ⟨o, e, c, d⟩ := id st'
    exact ⟨u, rfl, go_of (s := { s with heap := h' }) e c d (by decide) ⟨x, H, I1, ru, ⟨rfl, fun ys hy => by rw [I.list_inj hy hq]; exact hx⟩, st', fun b hb => (hf b hb).1⟩⟩
  done := by
    intro X hP hw hK hc i pins s σ H E I hf st hg
    subst hP hw hK
    obtain ⟨xs, hq, hx⟩ := hg
    obtain ⟨its, rv, p, hz⟩ := I.list hq
    obtain ⟨f0, f1, f2, f3, f4, f5⟩ := hf it (by simp)
    have hl := rv.length
    exact wpAny_pyNext_list_end (I.ok.hd hc) st p.isList (by simp; omega) fun h' eb => ⟨rfl, I.turned (t' := s.toks) (fun b o hb e => eb b o hb e) f0 f1 f3 f4 f5⟩
  self := fun _ _ _ _ _ st h => wpAny_pyIter_listiter st h
theorem turn_tuple {P : Program} {w : World} {K : PySem.W.Frag} {tg : Expr} (a it : Addr) : Turn P w K tg (Itt K a) [it] it (fun i h => h.IsTupleIter it a i) where
  mem := by simp
  obj := fun i h st b hb => by
    have e : b = it := by simpa using hb
    subst e
    obtain ⟨o, e, c, d⟩ := st
    exact ⟨o, e, fun v z => by rw [d] at z; cases z⟩
  keep := fun i h h' st k => st.at fun o e => k it (by simp) o e
  item := by
    intro X hP hw hK hc i pins s σ H E I hf st hg
    subst hP hw hK
    obtain ⟨xs, x, hq, hx⟩ := hg
    obtain ⟨its, rv, p, hz⟩ := I.tuple hq
    obtain ⟨u, hu, ru⟩ := rv.get hx
    obtain ⟨f0, f1, f2, f3, f4, f5⟩ := hf it (by simp)
    refine wpAny_pyNext_tuple_item st (show s.heap.IsTuple a its.toArray from p) (x := u) (by simpa using hu) fun h' st' sb => ?_
    have I1 : Inv X pins σ H { s with heap := h' } := I.turned (t' := s.toks) (fun b o hb e => (sb.2 b hb).trans e) f0 f1 f3 f4 f5
    obtain ⟨o, e, c, d⟩ := id st'
    exact ⟨u, rfl, go_of (s := { s with heap := h' }) e c d (by decide) ⟨x, H, I1, ru, ⟨rfl, fun ys hy => by rw [I.tuple_inj hy hq]; exact hx⟩, st', fun b hb => (hf b hb).1⟩⟩
  done := by
    intro X hP hw hK hc i pins s σ H E I hf st hg
    subst hP hw hK
    obtain ⟨xs, hq, hx⟩ := hg
    obtain ⟨its, rv, p, hz⟩ := I.tuple hq
    obtain ⟨f0, f1, f2, f3, f4, f5⟩ := hf it (by simp)
    have hl := rv.length
    exact wpAny_pyNext_tuple_end (I.ok.hd hc) st (show s.heap.IsTuple a its.toArray from p) (by simp; omega) fun h' eb => ⟨rfl, I.turned (t' := s.toks) (fun b o hb e => eb b o hb e) f0 f1 f3 f4 f5⟩
  self := fun _ _ _ _ _ st h => wpAny_pyIter_tupleiter st h
theorem turn_range {P : Program} {w : World} {K : PySem.W.Frag} {tg : Expr} (it : Addr) (lo : Int) (n : Nat) : Turn P w K tg (Itr lo n) [it] it (fun i h => IsRangeIter h it (lo + (i : Nat) * 1) ((n : Int) - (i : Nat)) 1) where
  mem := by simp
  obj := fun i h st b hb => by
    have e : b = it := by simpa using hb
    subst e
    exact ⟨_, st, fun v z => by
      have z' : Data.fields _ = Data.cell v := z
      cases z'⟩
  keep := fun i h h' st k => k it (by simp) _ st
  item := by
    intro X hP hw hK hc i pins s σ H E I hf st hg
    subst hP hw hK
    obtain ⟨f0, f1, f2, f3, f4, f5⟩ := hf it (by simp)
    have W := Walks.range (prog := X.prog) (w := X.w) (I.ok.hd hc) it lo 1 n
    refine W.item i s _ _ hg st fun v h' tk hv st' kk => ?_
    obtain ⟨t, rfl⟩ := hv
    have I1 : Inv X pins σ H { s with heap := h', toks := tk } := I.turned (fun b o hb e => kk b o (by simpa using hb) e) f0 f1 f3 f4 f5
    refine ⟨_, rfl, go_of (s := { s with heap := h', toks := tk }) (n := "range_iterator") st' rfl rfl (by decide) ⟨.int (lo + i), H, I1, ⟨t, ?_⟩, ⟨rfl, rfl⟩, st', fun b hb => (hf b hb).1⟩⟩
    rw [Int.mul_one]
  done := by
    intro X hP hw hK hc i pins s σ H E I hf st hg
    subst hP hw hK
    obtain ⟨f0, f1, f2, f3, f4, f5⟩ := hf it (by simp)
    exact wpAny_pyNext_range_end (I.ok.hd hc) st (by have : n ≤ i := hg; omega) fun h' eb => ⟨rfl, I.turned (t' := s.toks) (fun b o hb e => eb b o hb e) f0 f1 f3 f4 f5⟩
  self := fun _ _ _ _ _ st h => wpAny_pyIter_rangeiter st h
end L2
namespace L2
open PySem PySem.Spec PyProof.Rows
section
variable {X : Cx} {tg : Expr}
def iList (K : PySem.W.Frag) (tl : TE) : TI := fun σ H R => tl σ H fun x H1 => ∃ a, x = .ref a ∧ (∃ xs, SqL K H1 a xs) ∧ R (Itl K a) H1
def iTup (K : PySem.W.Frag) (tl : TE) : TI := fun σ H R => tl σ H fun x H1 => ∃ a, x = .ref a ∧ (∃ xs, SqT K H1 a xs) ∧ R (Itt K a) H1
theorem pi_list {l : Expr} {tl : TE} (hl : PE X l tl) : PI X tg l (iList X.K tl) := by
  intro pins s σ H R I h
  refine thn (hl pins s σ H _ I h) fun v s1 ⟨x, H1, I1, r1, q1⟩ => ?_
  obtain ⟨a, e, ⟨xs, hq⟩, q⟩ := q1
  subst e
  cases r1
  obtain ⟨its, rv, p, hz⟩ := I1.list hq
  refine wpAny_pyIter_list p.isList ?_
  refine ⟨s1.heap.objs.size, [s1.heap.objs.size], _, _, H1, rfl, I1.kept (t' := s1.toks) fun b o e => Heap.get?_push_of_some _ e, turn_list a _, ⟨_, Heap.get?_push_size _ rfl, rfl, rfl⟩, fun b hb => ?_, q⟩
  have e : b = s1.heap.objs.size := by simpa using hb
  subst e
  exact I1.fpOk (Nat.le_refl _) (I1.hok.fresh (Nat.le_refl _))
theorem pi_tup {l : Expr} {tl : TE} (hl : PE X l tl) : PI X tg l (iTup X.K tl) := by
  intro pins s σ H R I h
  refine thn (hl pins s σ H _ I h) fun v s1 ⟨x, H1, I1, r1, q1⟩ => ?_
  obtain ⟨a, e, ⟨xs, hq⟩, q⟩ := q1
  subst e
  cases r1
  obtain ⟨its, rv, p, hz⟩ := I1.tuple hq
  refine wpAny_pyIter_tuple (show s1.heap.IsTuple a its.toArray from p) ?_
  refine ⟨s1.heap.objs.size, [s1.heap.objs.size], _, _, H1, rfl, I1.kept (t' := s1.toks) fun b o e => Heap.get?_push_of_some _ e, turn_tuple a _, ⟨_, Heap.get?_push_size _ rfl, rfl, rfl⟩, fun b hb => ?_, q⟩
  have e : b = s1.heap.objs.size := by simpa using hb
  subst e
  exact I1.fpOk (Nat.le_refl _) (I1.hok.fresh (Nat.le_refl _))
theorem range_it {pins : List (Addr × Obj)} {σ : St} {H : Hp} {s : Shared} {R : It → Hp → Prop} {E : Value → Shared → Prop} {lo hi : Int} {t u v : Tok} {tk : Nat} (I : Inv X pins σ H s) (h1 : -(2 ^ 62) ≤ lo) (h2 : lo < 2 ^ 62) (h3 : -(2 ^ 62) ≤ hi) (h4 : hi < 2 ^ 62)
    (q : R (Itr lo (hi - lo).toNat) H) : wpAny (model X.prog X.w) X.A (pyIter (.ref s.heap.objs.size)) (PIE X pins σ tg R) E { s with heap := s.heap.push { cls := .type "range", data := .fields #[.int lo t, .int hi u, .int 1 v] }, toks := tk } := by
  refine wpAny_pyIter_range (IsRange.new ..) (small_one h1 h2 h3 h4) ?_
  have I1 : Inv X pins σ H { s with heap := s.heap.push { cls := .type "range", data := .fields #[.int lo t, .int hi u, .int 1 v] }, toks := tk } := I.kept fun b o e => Heap.get?_push_of_some _ e
  refine ⟨(s.heap.push { cls := .type "range", data := .fields #[.int lo t, .int hi u, .int 1 v] }).objs.size, [(s.heap.push { cls := .type "range", data := .fields #[.int lo t, .int hi u, .int 1 v] }).objs.size], _, _, H, rfl,
    I1.kept (t' := tk) fun b o e => Heap.get?_push_of_some _ e, turn_range _ lo (hi - lo).toNat, ?_, fun b hb => ?_, q⟩
  · have e1 : lo + ((0 : Nat) : Int) * 1 = lo := by simp
    have e2 : (((hi - lo).toNat : Nat) : Int) - ((0 : Nat) : Int) = Builtin.Range.rangeSize lo hi 1 := by rw [rangeSize_one]; split <;> omega
    show IsRangeIter _ _ (lo + ((0 : Nat) : Int) * 1) ((((hi - lo).toNat : Nat) : Int) - ((0 : Nat) : Int)) 1
    rw [e1, e2]
    exact Heap.get?_push_size _ rfl
  · have e : b = (s.heap.push { cls := .type "range", data := .fields #[.int lo t, .int hi u, .int 1 v] }).objs.size := by simpa using hb
    subst e
    exact I1.fpOk (Nat.le_refl _) (I1.hok.fresh (Nat.le_refl _))
def iRng1 (ta : TA) : TI := fun σ H R => ta σ H fun vs H1 => ∃ j : Int, vs = [.int j] ∧ -(2 ^ 62) ≤ j ∧ j < 2 ^ 62 ∧ R (Itr 0 j.toNat) H1
def iRng2 (ta : TA) : TI := fun σ H R => ta σ H fun vs H1 => ∃ i j : Int, vs = [.int i, .int j] ∧ (-(2 ^ 62) ≤ i ∧ i < 2 ^ 62 ∧ -(2 ^ 62) ≤ j ∧ j < 2 ^ 62) ∧ R (Itr i (j - i).toNat) H1
theorem pi_range1 {a : Expr} {ta : TA} {p pos : Pos} (hg : Gl X "range") (hm : X.mg "range" = none) (ha : PA X [a] ta) (hs : starEach [a] X.env = [(false, eval a X.env)] := by rfl) : PI X tg (.Call (.Name "range" p) [a] [] pos) (iRng1 ta) := by
  intro pins s σ H R I h
  refine Call_ (ld_blt I hg hm boot_range (PyProof.Rows.callWith_type1 (thn (ha pos pins s σ H _ I h) fun us s1 ⟨vs, H1, I1, r1, q1⟩ => ?_) hs rfl))
  obtain ⟨j, e, q1, q2, q⟩ := q1
  subst e
  cases r1 with
  | cons r rr =>
    cases rr
    obtain ⟨t, rfl⟩ := r
    exact call_range_1 (range_it I1 (by omega) (by omega) q1 q2 (by simpa using q))
def tFor (wi : TI) (g : TG) (tb : TS) : TS := fun D σ H => wi σ H fun J H1 => ∃ W : Nat → Nat → St → Hp → Prop, (∃ m, W 0 m σ H1) ∧ ∀ i m σ H, W i m σ H →
  (J.stop i H ∧ D.nx σ H) ∨ (J.go i H ∧ ∃ N : St → Hp → Prop, (∀ σ' H', N σ' H' → ∃ m', m' < m ∧ W (i + 1) m' σ' H') ∧ ∀ x H', J.yld i H x H' → g x σ H' fun σ2 H2 => tb { D with nx := N, ct := N, bk := D.nx } σ2 H2)
def pinsAt (fp : List Addr) (h : Heap) : List (Addr × Obj) := fp.filterMap fun b => (h.get? b).map fun o => (b, o)
theorem mem_pinsAt {fp : List Addr} {h : Heap} {b : Addr} {o : Obj} (hb : b ∈ fp) (e : h.get? b = some o) : (b, o) ∈ pinsAt fp h := List.mem_filterMap.mpr ⟨b, hb, by rw [e]; rfl⟩
theorem of_pinsAt {fp : List Addr} {h : Heap} {p : Addr × Obj} (hp : p ∈ pinsAt fp h) : p.1 ∈ fp ∧ h.get? p.1 = some p.2 := by
  obtain ⟨b, hb, e⟩ := List.mem_filterMap.mp hp
  cases q : h.get? b with
  | none => rw [q] at e; cases e
  | some o =>
    rw [q] at e
    have e' : (b, o) = p := Option.some.inj e
    subst e'
    exact ⟨hb, q⟩
theorem Inv.pinned {pins : List (Addr × Obj)} {σ : St} {H : Hp} {s : Shared} {fp : List Addr} (I : Inv X pins σ H s) (hf : ∀ b ∈ fp, FpOk X pins H b) (ho : ∀ b ∈ fp, ∃ o, s.heap.get? b = some o ∧ ∀ v, o.data ≠ .cell v) : Inv X (pins ++ pinsAt fp s.heap) σ H s :=
  I.pins_of fun p hp => (List.mem_append.mp hp).elim (fun z => I.pin p (List.mem_append_right _ z)) fun z => by
    obtain ⟨hb, e⟩ := of_pinsAt z
    obtain ⟨f0, f1, f2, _⟩ := hf p.1 hb
    obtain ⟨o, e', d⟩ := ho p.1 hb
    rw [e] at e'; cases e'
    exact ⟨e, f0, f1, f2, d⟩
theorem Inv.unpinned {pins pl : List (Addr × Obj)} {σ : St} {H : Hp} {s : Shared} (I : Inv X (pins ++ pl) σ H s) : Inv X pins σ H s := I.pins_of fun p hp => I.pin p (List.mem_append_right _ (List.mem_append_left _ hp))
theorem ps_for {iter : Expr} {body : List Stmt} {wi : TI} {g : TG} {tb : TS} {pos : Pos} (hp : PassesOwn (model X.prog X.w) X.A X.env X.xe) (hc : X.calm = true) (hi : PI X tg iter wi) (hg : PG X tg g) (hb : PSs X body tb)
    (hs : ∀ x, foldedSetIterable iter X.env x = pure x := by intro _; rfl) : PS X (.For tg iter body [] pos) (tFor wi g tb) := by
  intro pins s σ H D I h
  refine wpAny_For (thn (hi pins s σ H _ I h) fun v s1 h1 => thn h1 fun itv s2 h2 => ?_) hs
  obtain ⟨it, fp, tn, J, H2, e, I2, T, st2, f2, W, ⟨m0, w0⟩, turn⟩ := h2
  subst e
  have stat : ∀ {H' : Hp}, (∀ b ∈ fp, H' b = none) → ∀ b ∈ fp, FpOk X pins H' b := fun hn b hb => ⟨hn b hb, (f2 b hb).2⟩
  refine codeAny_forLoop_any (fun n s' => ∃ i σ' H', Inv X pins σ' H' s' ∧ tn i s'.heap ∧ (∀ b ∈ fp, H' b = none) ∧ W i n σ' H') ?_ m0 ⟨0, σ, H2, I2, st2, fun b hb => (f2 b hb).1, w0⟩
  rintro n s3 ⟨i, σ3, H3, I3, st3, fr3, w3⟩
  rcases turn i n σ3 H3 w3 with ⟨stop, qn⟩ | ⟨go, N, hN, step⟩
  · refine wpAny_passesOwn hp (thn (T.done X rfl rfl rfl hc i pins s3 σ3 H3 X.xe I3 (stat fr3) st3 stop) fun r s4 ⟨hr, I4⟩ => ?_)
    subst hr
    exact wpAny_execs_nil ⟨σ3, H3, I4, qn⟩
  · refine wpAny_passesOwn hp (thn (T.item X rfl rfl rfl hc i pins s3 σ3 H3 X.xe I3 (stat fr3) st3 go) fun r s4 ⟨u, hr, h4⟩ => ?_)
    subst hr
    refine wpAny_passesOwn hp (thn h4 fun _ s5 ⟨x, H5, I5, r5, y5, st5, fr5⟩ => ?_)
    have I5' := I5.pinned (stat fr5) (T.obj _ _ st5)
    refine wpAny_passesOwn hp (thn (hg _ s5 σ3 H5 x u _ I5' r5 (step x H5 y5)) fun _ s6 ⟨σ6, H6, I6, q6⟩ => ?_)
    refine wpAny_passesOwn hp (thn (hb _ s6 σ6 H6 _ I6 q6) fun f s7 q7 => ?_)
    have again : ∀ {σ7 : St} {H7 : Hp}, Inv X (pins ++ pinsAt fp s5.heap) σ7 H7 s7 → N σ7 H7 → ∃ m, m < n ∧ ∃ i σ' H', Inv X pins σ' H' s7 ∧ tn i s7.heap ∧ (∀ b ∈ fp, H' b = none) ∧ W i m σ' H' := fun {σ7 H7} I7 n7 => by
      obtain ⟨m', hm, w7⟩ := hN σ7 H7 n7
      refine ⟨m', hm, i + 1, σ7, H7, I7.unpinned, T.keep _ _ _ st5 fun b hb o e => (I7.pin (b, o) (List.mem_append_right _ (List.mem_append_right _ (mem_pinsAt hb e)))).1, fun b hb => ?_, w7⟩
      obtain ⟨o, e, d⟩ := T.obj _ _ st5 b hb
      exact (I7.pin (b, o) (List.mem_append_right _ (List.mem_append_right _ (mem_pinsAt hb e)))).2.1
    cases f with
    | next => obtain ⟨σ7, H7, I7, n7⟩ := q7; exact again I7 n7
    | cont => obtain ⟨σ7, H7, I7, n7⟩ := q7; exact again I7 n7
    | brk => obtain ⟨σ7, H7, I7, q7⟩ := q7; exact ⟨σ7, H7, I7.unpinned, q7⟩
    | ret v => obtain ⟨x7, σ7, H7, I7, r7, q7⟩ := q7; exact ⟨x7, σ7, H7, I7.unpinned, r7, q7⟩
end
theorem for_list {K : PySem.W.Frag} {a : Addr} {xs : List V} {g : TG} {tb : TS} {D : Ends} {σ : St} {H : Hp} (Pv : Nat → St → Hp → Prop) (h0 : Pv 0 σ H) (hl : ∀ i σ H, i ≤ xs.length → Pv i σ H → SqL K H a xs)
    (hs : ∀ i x σ H, xs[i]? = some x → Pv i σ H → g x σ H fun σ2 H2 => tb { D with nx := Pv (i + 1), ct := Pv (i + 1), bk := D.nx } σ2 H2) (hd : ∀ σ H, Pv xs.length σ H → D.nx σ H) :
    ∃ W : Nat → Nat → St → Hp → Prop, (∃ m, W 0 m σ H) ∧ ∀ i m σ H, W i m σ H →
      ((Itl K a).stop i H ∧ D.nx σ H) ∨ ((Itl K a).go i H ∧ ∃ N : St → Hp → Prop, (∀ σ' H', N σ' H' → ∃ m', m' < m ∧ W (i + 1) m' σ' H') ∧ ∀ x H', (Itl K a).yld i H x H' → g x σ H' fun σ2 H2 => tb { D with nx := N, ct := N, bk := D.nx } σ2 H2) := by
  refine ⟨fun i m σ H => m = xs.length - i ∧ i ≤ xs.length ∧ Pv i σ H, ⟨xs.length, by simp, Nat.zero_le _, h0⟩, ?_⟩
  rintro i m σ H ⟨rfl, hi, p⟩
  have q := hl i σ H hi p
  by_cases hlt : i < xs.length
  · refine .inr ⟨⟨xs, xs[i], q, by simp [hlt]⟩, Pv (i + 1), fun σ' H' p' => ⟨xs.length - (i + 1), by omega, rfl, hlt, p'⟩, fun x H' y => ?_⟩
    obtain ⟨e, y⟩ := y
    subst e
    exact hs i x σ _ (y xs q) p
  · have e : i = xs.length := by omega
    subst e
    exact .inl ⟨⟨xs, q, Nat.le_refl _⟩, hd σ H p⟩
theorem for_tup {K : PySem.W.Frag} {a : Addr} {xs : List V} {g : TG} {tb : TS} {D : Ends} {σ : St} {H : Hp} (Pv : Nat → St → Hp → Prop) (h0 : Pv 0 σ H) (hl : ∀ i σ H, i ≤ xs.length → Pv i σ H → SqT K H a xs)
    (hs : ∀ i x σ H, xs[i]? = some x → Pv i σ H → g x σ H fun σ2 H2 => tb { D with nx := Pv (i + 1), ct := Pv (i + 1), bk := D.nx } σ2 H2) (hd : ∀ σ H, Pv xs.length σ H → D.nx σ H) :
    ∃ W : Nat → Nat → St → Hp → Prop, (∃ m, W 0 m σ H) ∧ ∀ i m σ H, W i m σ H →
      ((Itt K a).stop i H ∧ D.nx σ H) ∨ ((Itt K a).go i H ∧ ∃ N : St → Hp → Prop, (∀ σ' H', N σ' H' → ∃ m', m' < m ∧ W (i + 1) m' σ' H') ∧ ∀ x H', (Itt K a).yld i H x H' → g x σ H' fun σ2 H2 => tb { D with nx := N, ct := N, bk := D.nx } σ2 H2) := by
  refine ⟨fun i m σ H => m = xs.length - i ∧ i ≤ xs.length ∧ Pv i σ H, ⟨xs.length, by simp, Nat.zero_le _, h0⟩, ?_⟩
  rintro i m σ H ⟨rfl, hi, p⟩
  have q := hl i σ H hi p
  by_cases hlt : i < xs.length
  · refine .inr ⟨⟨xs, xs[i], q, by simp [hlt]⟩, Pv (i + 1), fun σ' H' p' => ⟨xs.length - (i + 1), by omega, rfl, hlt, p'⟩, fun x H' y => ?_⟩
    obtain ⟨e, y⟩ := y
    subst e
    exact hs i x σ _ (y xs q) p
  · have e : i = xs.length := by omega
    subst e
    exact .inl ⟨⟨xs, q, Nat.le_refl _⟩, hd σ H p⟩
theorem for_range {lo : Int} {n : Nat} {g : TG} {tb : TS} {D : Ends} {σ : St} {H : Hp} (Pv : Nat → St → Hp → Prop) (h0 : Pv 0 σ H)
    (hs : ∀ i σ H, i < n → Pv i σ H → g (.int (lo + i)) σ H fun σ2 H2 => tb { D with nx := Pv (i + 1), ct := Pv (i + 1), bk := D.nx } σ2 H2) (hd : ∀ σ H, Pv n σ H → D.nx σ H) :
    ∃ W : Nat → Nat → St → Hp → Prop, (∃ m, W 0 m σ H) ∧ ∀ i m σ H, W i m σ H →
      ((Itr lo n).stop i H ∧ D.nx σ H) ∨ ((Itr lo n).go i H ∧ ∃ N : St → Hp → Prop, (∀ σ' H', N σ' H' → ∃ m', m' < m ∧ W (i + 1) m' σ' H') ∧ ∀ x H', (Itr lo n).yld i H x H' → g x σ H' fun σ2 H2 => tb { D with nx := N, ct := N, bk := D.nx } σ2 H2) := by
  refine ⟨fun i m σ H => m = n - i ∧ i ≤ n ∧ Pv i σ H, ⟨n, by simp, Nat.zero_le _, h0⟩, ?_⟩
  rintro i m σ H ⟨rfl, hi, p⟩
  by_cases hlt : i < n
  · refine .inr ⟨hlt, Pv (i + 1), fun σ' H' p' => ⟨n - (i + 1), by omega, rfl, hlt, p'⟩, fun x H' y => ?_⟩
    obtain ⟨e, y⟩ := y
    subst e y
    exact hs i σ _ hlt p
  · have e : i = n := by omega
    subst e
    exact .inl ⟨Nat.le_refl _, hd σ H p⟩
end L2
namespace L2
open PySem PySem.Spec PyProof.Rows
abbrev R2 := V → V → Hp → VK → Prop
def OpR (X : Cx) (f : Value → Value → Sem Value) (r : R2) : Prop :=
  ∀ (pins : List (Addr × Obj)) (s : Shared) (σ : St) (H : Hp) (x y : V) (v u : Value) (Q : VK), Inv X pins σ H s → RelV x v → RelV y u → r x y H Q →
    wpAny (model X.prog X.w) X.A (f v u) (EP X pins σ Q) X.xe s
def UnR (X : Cx) (f : Value → Sem Value) (r : V → Hp → VK → Prop) : Prop :=
  ∀ (pins : List (Addr × Obj)) (s : Shared) (σ : St) (H : Hp) (x : V) (v : Value) (Q : VK), Inv X pins σ H s → RelV x v → r x H Q →
    wpAny (model X.prog X.w) X.A (f v) (EP X pins σ Q) X.xe s
def CallR (X : Cx) (f : Value) (r : List V → Hp → VK → Prop) : Prop :=
  ∀ (pins : List (Addr × Obj)) (s : Shared) (σ : St) (H : Hp) (xs : List V) (us : List Value) (Q : VK), Inv X pins σ H s → Vals xs us → r xs H Q →
    wpAny (model X.prog X.w) X.A (call f us) (EP X pins σ Q) X.xe s
def tOp (r : R2) (ta tb : TE) : TE := fun σ H Q => ta σ H fun x H1 => tb σ H1 fun y H2 => r x y H2 Q
def tUn (r : V → Hp → VK → Prop) (ta : TE) : TE := fun σ H Q => ta σ H fun x H1 => r x H1 Q
def rI (C : Int → Int → Prop) (g : Int → Int → V) : R2 := fun x y H Q => ∃ i j, x = .int i ∧ y = .int j ∧ C i j ∧ Q (g i j) H
def rI0 (g : Int → Int → V) : R2 := fun x y H Q => ∃ i j, x = .int i ∧ y = .int j ∧ Q (g i j) H
def rU (g : Int → V) : V → Hp → VK → Prop := fun x H Q => ∃ i, x = .int i ∧ Q (g i) H
section
variable {X : Cx} {a b c : Expr} {ta tb tc : TE} {pos : Pos}
theorem binT (ha : PE X a ta) (hb : PE X b tb) {pins : List (Addr × Obj)} {s : Shared} {σ : St} {H : Hp} {R : V → V → Hp → Prop} (I : Inv X pins σ H s)
    (h : ta σ H fun x H1 => tb σ H1 fun y H2 => R x y H2) {Q : Value → Shared → Prop} {f : Value → Value → Sem Value}
    (hf : ∀ v u s2 x y H2, Inv X pins σ H2 s2 → RelV x v → RelV y u → R x y H2 → wpAny (model X.prog X.w) X.A (f v u) Q X.xe s2) :
    wpAny (model X.prog X.w) X.A (eval a X.env) (fun v s₁ => wpAny (model X.prog X.w) X.A (eval b X.env) (fun u s₂ => wpAny (model X.prog X.w) X.A (f v u) Q X.xe s₂) X.xe s₁) X.xe s := by
  refine thn (ha pins s σ H _ I h) fun v s1 ⟨x, H1, I1, r1, q1⟩ => ?_
  refine thn (hb pins s1 σ H1 _ I1 q1) fun u s2 ⟨y, H2, I2, r2, q2⟩ => ?_
  exact hf v u s2 x y H2 I2 r1 r2 q2
theorem pe_op {op : Operator} {r : R2} (ho : OpR X (binaryOp op) r) (ha : PE X a ta) (hb : PE X b tb) : PE X (.BinOp a op b pos) (tOp r ta tb) := by
  intro pins s σ H Q I h
  exact wpAny_BinOp (binT ha hb I h fun v u s2 x y H2 I2 rx ry q => ho pins s2 σ H2 x y v u Q I2 rx ry q)
theorem pe_un {op : UnaryOp} {r : V → Hp → VK → Prop} (ho : UnR X (unaryOp op) r) (ha : PE X a ta) : PE X (.UnaryOp op a pos) (tUn r ta) := by
  intro pins s σ H Q I h
  exact UnaryOp_ (thn (ha pins s σ H _ I h) fun v s1 ⟨x, H1, I1, r1, q1⟩ => ho pins s1 σ H1 x v Q I1 r1 q1)
theorem opI {f : Value → Value → Sem Value} {C : Int → Int → Prop} {g : Int → Int → Int}
    (rule : ∀ (i j : Int) (t u : Tok) (s : Shared) (Q : Value → Shared → Prop) (E : Value → Shared → Prop), C i j → Q (.int (g i j) s.toks) { s with toks := s.toks + 1 } → wpAny (model X.prog X.w) X.A (f (.int i t) (.int j u)) Q E s) :
    OpR X f (rI C fun i j => .int (g i j)) := by
  intro pins s σ H x y v u Q I rx ry h
  obtain ⟨i, j, rfl, rfl, hc, q⟩ := h
  obtain ⟨t, rfl⟩ := rx
  obtain ⟨t', rfl⟩ := ry
  exact rule i j t t' s _ _ hc ⟨.int (g i j), H, I.tok _, ⟨_, rfl⟩, q⟩
theorem opI0 {f : Value → Value → Sem Value} {g : Int → Int → Int}
    (rule : ∀ (i j : Int) (t u : Tok) (s : Shared) (Q : Value → Shared → Prop) (E : Value → Shared → Prop), Q (.int (g i j) s.toks) { s with toks := s.toks + 1 } → wpAny (model X.prog X.w) X.A (f (.int i t) (.int j u)) Q E s) :
    OpR X f (rI0 fun i j => .int (g i j)) := by
  intro pins s σ H x y v u Q I rx ry h
  obtain ⟨i, j, rfl, rfl, q⟩ := h
  obtain ⟨t, rfl⟩ := rx
  obtain ⟨t', rfl⟩ := ry
  exact rule i j t t' s _ _ ⟨.int (g i j), H, I.tok _, ⟨_, rfl⟩, q⟩
theorem opB0 {f : Value → Value → Sem Value} {g : Int → Int → Bool}
    (rule : ∀ (i j : Int) (t u : Tok) (s : Shared) (Q : Value → Shared → Prop) (E : Value → Shared → Prop), Q (.bool (g i j)) s → wpAny (model X.prog X.w) X.A (f (.int i t) (.int j u)) Q E s) :
    OpR X f (rI0 fun i j => .bl (g i j)) := by
  intro pins s σ H x y v u Q I rx ry h
  obtain ⟨i, j, rfl, rfl, q⟩ := h
  obtain ⟨t, rfl⟩ := rx
  obtain ⟨t', rfl⟩ := ry
  exact rule i j t t' s _ _ ⟨.bl (g i j), H, I, rfl, q⟩
def CDiv (i j : Int) : Prop := 0 < j ∧ j < 1073741824
def CDivN (i j : Int) : Prop := j ≠ 0 ∧ j.natAbs < 1073741824
def CPow (i j : Int) : Prop := 0 ≤ j ∧ j ≤ 1000000 ∧ i.natAbs < 2 ^ 64
def CMul (i j : Int) : Prop := (-(2 ^ 64) < i ∧ i < 2 ^ 64) ∨ (-(2 ^ 64) < j ∧ j < 2 ^ 64)
theorem CMul.ok {i j : Int} (h : CMul i j) : IntMulOk i j := by
  rcases h with ⟨h1, h2⟩ | ⟨h1, h2⟩
  · exact .of_left (intBits_le_64 h1 h2)
  · exact .of_right (intBits_le_64 h1 h2)
theorem op_add : OpR X (binaryOp .Add) (rI0 fun i j => .int (i + j)) := opI0 fun _ _ _ _ _ _ _ q => add_int q
theorem op_sub : OpR X (binaryOp .Sub) (rI0 fun i j => .int (i - j)) := opI0 fun _ _ _ _ _ _ _ q => sub_int q
theorem op_mul : OpR X (binaryOp .Mult) (rI CMul fun i j => .int (i * j)) := opI fun _ _ _ _ _ _ _ hc q => mul_int q hc.ok
theorem op_fdiv : OpR X (binaryOp .FloorDiv) (rI CDiv fun i j => .int (i / j)) := opI fun i j _ _ _ _ _ hc q => by
  have h1 : (0 : Int) < j := hc.1
  have h2 : j < 1073741824 := hc.2
  exact floordiv_int (by omega) (by rw [Int.fdiv_eq_ediv_of_nonneg i (by omega)]; exact q) (.inl (PyProof.noPylong_small (by omega)))
theorem op_mod : OpR X (binaryOp .Mod) (rI (fun _ j => 0 < j) fun i j => .int (i % j)) := opI fun i j _ _ _ _ _ hc q => by
  have h1 : (0 : Int) < j := hc
  exact mod_int' (by omega) (by rw [Int.fmod_eq_emod_of_nonneg i (by omega)]; exact q)
theorem op_modN : OpR X (binaryOp .Mod) (rI (fun _ j => j ≠ 0) fun i j => .int (i.fmod j)) := opI fun _ _ _ _ _ _ _ hc q => mod_int' hc q
theorem op_pow : OpR X (binaryOp .Pow) (rI CPow fun i j => .int (i ^ j.toNat)) := opI fun _ _ _ _ _ _ _ hc q => pow_int_small hc.1 hc.2.1 hc.2.2 q
theorem op_and : OpR X (binaryOp .BitAnd) (rI0 fun i j => .int (Builtin.bitAnd i j)) := opI0 fun _ _ _ _ _ _ _ q => and_int q
theorem op_or : OpR X (binaryOp .BitOr) (rI0 fun i j => .int (Builtin.bitOr i j)) := opI0 fun _ _ _ _ _ _ _ q => or_int q
theorem op_xor : OpR X (binaryOp .BitXor) (rI0 fun i j => .int (Builtin.bitXor i j)) := opI0 fun _ _ _ _ _ _ _ q => xor_int q
theorem unI {f : Value → Sem Value} {g : Int → Int}
    (rule : ∀ (i : Int) (t : Tok) (s : Shared) (Q : Value → Shared → Prop) (E : Value → Shared → Prop), Q (.int (g i) s.toks) { s with toks := s.toks + 1 } → wpAny (model X.prog X.w) X.A (f (.int i t)) Q E s) :
    UnR X f (rU fun i => .int (g i)) := by
  intro pins s σ H x v Q I rx h
  obtain ⟨i, rfl, q⟩ := h
  obtain ⟨t, rfl⟩ := rx
  exact rule i t s _ _ ⟨.int (g i), H, I.tok _, ⟨_, rfl⟩, q⟩
theorem un_neg : UnR X (unaryOp .USub) (rU fun i => .int (-i)) := unI fun _ _ _ _ _ q => neg_int q
end
def scal : V → V → Bool
  | .non, .non => true | .non, .int _ => true | .int _, .non => true | .non, .bl _ => true | .bl _, .non => true | .non, .str _ => true | .str _, .non => true
  | .int _, .int _ => true | .bl _, .bl _ => true | .str _, .str _ => true | .byt _, .byt _ => true
  | .int _, .str _ => true | .str _, .int _ => true | .bl _, .str _ => true | .str _, .bl _ => true
  | _, _ => false
def rEq : R2 := fun x y H Q => scal x y = true ∧ Q (.bl (decide (x = y))) H
def rNe : R2 := fun x y H Q => scal x y = true ∧ Q (.bl (!decide (x = y))) H
theorem dec_int {i j : Int} : decide (V.int i = V.int j) = (i == j) := by
  rw [Bool.eq_iff_iff]
  simp
theorem dec_bl {i j : Bool} : decide (V.bl i = V.bl j) = (i == j) := by
  rw [Bool.eq_iff_iff]
  simp
theorem dec_str {i j : Str} : decide (V.str i = V.str j) = (i == j) := by
  rw [Bool.eq_iff_iff]
  simp
theorem dec_byt {i j : Array UInt8} : decide (V.byt i = V.byt j) = (i.toList == j.toList) := by
  rw [Bool.eq_iff_iff]
  cases i
  cases j
  simp
section
variable {X : Cx} {a b c : Expr} {ta tb tc : TE} {pos : Pos}
theorem fin_bl {pins : List (Addr × Obj)} {σ : St} {H : Hp} {s : Shared} {Q : VK} {k k' : Bool} (I : Inv X pins σ H s) (q : Q (.bl k) H) (e : k = k') : EP X pins σ Q (.bool k') s := by
  subst e
  exact ⟨.bl k, H, I, rfl, q⟩
theorem op_eq : OpR X (compareOp .Eq) rEq := by
  intro pins s σ H x y v u Q I rx ry h
  obtain ⟨hs, q⟩ := h
  cases x with
  | non =>
    cases rx
    cases y with
    | non => cases ry; exact PySem.EqNone.eq_none_none (fin_bl I q (by simp))
    | bl j => cases ry; exact PySem.EqNone.eq_none_bool (fin_bl I q (by simp))
    | int j => obtain ⟨t', rfl⟩ := ry; exact PySem.EqNone.eq_none_int (fin_bl I q (by simp))
    | str j => obtain ⟨t', rfl⟩ := ry; exact PySem.EqNone.eq_none_str (fin_bl I q (by simp))
    | _ => exact absurd (show false = true from hs) Bool.false_ne_true
  | bl i =>
    cases rx
    cases y with
    | non => cases ry; exact PySem.EqNone.eq_bool_none (fin_bl I q (by simp))
    | bl j => cases ry; exact eq_bool (fin_bl I q dec_bl)
    | str j => obtain ⟨t', rfl⟩ := ry; exact PySem.EqMixed.eq_bool_str (fin_bl I q (by simp))
    | _ => exact absurd (show false = true from hs) Bool.false_ne_true
  | int i =>
    obtain ⟨t, rfl⟩ := rx
    cases y with
    | non => cases ry; exact PySem.EqNone.eq_int_none (fin_bl I q (by simp))
    | int j => obtain ⟨t', rfl⟩ := ry; exact eq_int (fin_bl I q dec_int)
    | str j => obtain ⟨t', rfl⟩ := ry; exact PySem.EqMixed.eq_int_str (fin_bl I q (by simp))
    | _ => exact absurd (show false = true from hs) Bool.false_ne_true
  | str i =>
    obtain ⟨t, rfl⟩ := rx
    cases y with
    | non => cases ry; exact PySem.EqNone.eq_str_none (fin_bl I q (by simp))
    | bl j => cases ry; exact PySem.EqMixed.eq_str_bool (fin_bl I q (by simp))
    | int j => obtain ⟨t', rfl⟩ := ry; exact PySem.EqMixed.eq_str_int (fin_bl I q (by simp))
    | str j => obtain ⟨t', rfl⟩ := ry; exact eq_str (fin_bl I q dec_str)
    | _ => exact absurd (show false = true from hs) Bool.false_ne_true
  | byt i =>
    obtain ⟨t, rfl⟩ := rx
    cases y with
    | byt j => obtain ⟨t', rfl⟩ := ry; exact PySem.W.eq_bytes (fin_bl I q dec_byt)
    | _ => exact absurd (show false = true from hs) Bool.false_ne_true
  | _ => cases y <;> exact absurd (show false = true from hs) Bool.false_ne_true
theorem op_ne : OpR X (compareOp .NotEq) rNe := by
  intro pins s σ H x y v u Q I rx ry h
  obtain ⟨hs, q⟩ := h
  cases x with
  | non =>
    cases rx
    cases y with
    | non => cases ry; exact PySem.EqNone.ne_none_none (fin_bl I q (by simp))
    | bl j => cases ry; exact PySem.EqNone.ne_none_bool (fin_bl I q (by simp))
    | int j => obtain ⟨t', rfl⟩ := ry; exact PySem.EqNone.ne_none_int (fin_bl I q (by simp))
    | str j => obtain ⟨t', rfl⟩ := ry; exact PySem.EqNone.ne_none_str (fin_bl I q (by simp))
    | _ => exact absurd (show false = true from hs) Bool.false_ne_true
  | bl i =>
    cases rx
    cases y with
    | non => cases ry; exact PySem.EqNone.ne_bool_none (fin_bl I q (by simp))
    | bl j => cases ry; exact ne_bool (fin_bl I q (congrArg not dec_bl))
    | str j => obtain ⟨t', rfl⟩ := ry; exact PySem.EqMixed.ne_bool_str (fin_bl I q (by simp))
    | _ => exact absurd (show false = true from hs) Bool.false_ne_true
  | int i =>
    obtain ⟨t, rfl⟩ := rx
    cases y with
    | non => cases ry; exact PySem.EqNone.ne_int_none (fin_bl I q (by simp))
    | int j => obtain ⟨t', rfl⟩ := ry; exact ne_int (fin_bl I q (congrArg not dec_int))
    | str j => obtain ⟨t', rfl⟩ := ry; exact PySem.EqMixed.ne_int_str (fin_bl I q (by simp))
    | _ => exact absurd (show false = true from hs) Bool.false_ne_true
  | str i =>
    obtain ⟨t, rfl⟩ := rx
    cases y with
    | non => cases ry; exact PySem.EqNone.ne_str_none (fin_bl I q (by simp))
    | bl j => cases ry; exact PySem.EqMixed.ne_str_bool (fin_bl I q (by simp))
    | int j => obtain ⟨t', rfl⟩ := ry; exact PySem.EqMixed.ne_str_int (fin_bl I q (by simp))
    | str j => obtain ⟨t', rfl⟩ := ry; exact ne_str (fin_bl I q (congrArg not dec_str))
    | _ => exact absurd (show false = true from hs) Bool.false_ne_true
  | byt i =>
    obtain ⟨t, rfl⟩ := rx
    cases y with
    | byt j => obtain ⟨t', rfl⟩ := ry; exact PySem.W.ne_bytes (fin_bl I q (congrArg not dec_byt))
    | _ => exact absurd (show false = true from hs) Bool.false_ne_true
  | _ => cases y <;> exact absurd (show false = true from hs) Bool.false_ne_true
theorem op_lt : OpR X (compareOp .Lt) (rI0 fun i j => .bl (decide (i < j))) := opB0 fun _ _ _ _ _ _ _ q => lt_int q
theorem op_le : OpR X (compareOp .LtE) (rI0 fun i j => .bl (decide (i ≤ j))) := opB0 fun _ _ _ _ _ _ _ q => le_int q
theorem op_gt : OpR X (compareOp .Gt) (rI0 fun i j => .bl (decide (j < i))) := opB0 fun _ _ _ _ _ _ _ q => gt_int q
theorem op_ge : OpR X (compareOp .GtE) (rI0 fun i j => .bl (decide (j ≤ i))) := opB0 fun _ _ _ _ _ _ _ q => ge_int q
theorem OpR.or {f : Value → Value → Sem Value} {r r' : R2} (h : OpR X f r) (h' : OpR X f r') : OpR X f (fun x y H Q => r x y H Q ∨ r' x y H Q) := by
  intro pins s σ H x y v u Q I rx ry q
  rcases q with q | q
  · exact h pins s σ H x y v u Q I rx ry q
  · exact h' pins s σ H x y v u Q I rx ry q
theorem nomark (b : Expr) {op : CmpOp} (h : op ≠ .In := by decide) (h2 : op ≠ .NotIn := by decide) : behindInMarks op b = false := by
  have e1 : (op == CmpOp.In) = false := by cases op <;> first | rfl | exact absurd rfl h
  have e2 : (op == CmpOp.NotIn) = false := by cases op <;> first | rfl | exact absurd rfl h2
  cases b <;> simp [behindInMarks, e1, e2]
theorem pe_cmpR {op : CmpOp} {r : R2} (ho : OpR X (compareOp op) r) (ha : PE X a ta) (hb : PE X b tb) (hm : behindInMarks op b = false) : PE X (.Compare a [op] [b] pos) (tOp r ta tb) := by
  intro pins s σ H Q I h
  exact wpAny_Compare1 (binT ha hb I h fun v u s2 x y H2 I2 rx ry q => ho pins s2 σ H2 x y v u Q I2 rx ry q) hm
def tTest (t : TE) : TT := fun σ H Q => t σ H fun x H' => ∃ k, x = .bl k ∧ Q k H'
theorem pt_cmpR {op : CmpOp} {r : R2} (ho : OpR X (compareOp op) r) (ha : PE X a ta) (hb : PE X b tb) (hm : behindInMarks op b = false) : PT X (.Compare a [op] [b] pos) (tTest (tOp r ta tb)) := by
  intro pins s σ H Q I h
  refine wpAny_isTrue_Compare1 (thn (ha pins s σ H _ I h) fun v s1 ⟨x, H1, I1, r1, q1⟩ => thn (hb pins s1 σ H1 _ I1 q1) fun u s2 ⟨y, H2, I2, r2, q2⟩ =>
    thn (ho pins s2 σ H2 x y v u _ I2 r1 r2 q2) fun c s3 ⟨z, H3, I3, r3, k, e, q3⟩ => ?_) hm
  subst e
  cases r3
  exact wpAny_truthy_bool ⟨H3, I3, q3⟩
def tChain (r r' : R2) (ta tb tc : TE) : TE := fun σ H Q => ta σ H fun x H1 => tb σ H1 fun y H2 => r x y H2 fun z H3 => ∃ k, z = .bl k ∧
  (if k = true then tc σ H3 fun w' H4 => r' y w' H4 Q else Q (.bl false) H3)
theorem line63 : (sizeLine : Nat) < 2 ^ 63 := by rw [sizeLine_eq]; decide
theorem vals1 {x : V} {us : List Value} (r : Vals [x] us) : ∃ u, us = [u] ∧ RelV x u := by
  cases r with
  | cons r1 r2 => cases r2; exact ⟨_, rfl, r1⟩
theorem vals2 {x y : V} {us : List Value} (r : Vals [x, y] us) : ∃ u w', us = [u, w'] ∧ RelV x u ∧ RelV y w' := by
  cases r with
  | cons r1 r2 =>
    cases r2 with
    | cons r3 r4 => cases r4; exact ⟨_, _, rfl, r1, r3⟩
theorem call_abs : CallR X (.builtin "abs") (fun xs H Q => ∃ i, xs = [.int i] ∧ Q (.int (if i < 0 then -i else i)) H) := by
  intro pins s σ H xs us Q I r h
  obtain ⟨i, rfl, q⟩ := h
  obtain ⟨u, rfl, t, rfl⟩ := vals1 r
  exact call_abs_int fun u tk => ⟨.int (if i < 0 then -i else i), H, I.tok _, ⟨_, rfl⟩, q⟩
theorem call_max2 (hc : X.calm = true) : CallR X (.builtin "max") (fun xs H Q => ∃ i j, xs = [.int i, .int j] ∧ Q (.int (if j > i then j else i)) H) := by
  intro pins s σ H xs us Q I r h
  obtain ⟨i, j, rfl, q⟩ := h
  obtain ⟨u, w', rfl, ⟨t, rfl⟩, ⟨t', rfl⟩⟩ := vals2 r
  refine max_two_ints (I.ok.hd hc) fun h' tk k => ⟨_, H, I.kept k, ?_, q⟩
  by_cases hj : j > i
  · rw [if_pos hj, if_pos hj]; exact ⟨_, rfl⟩
  · rw [if_neg hj, if_neg hj]; exact ⟨_, rfl⟩
theorem call_min2 (hc : X.calm = true) : CallR X (.builtin "min") (fun xs H Q => ∃ i j, xs = [.int i, .int j] ∧ Q (.int (if j < i then j else i)) H) := by
  intro pins s σ H xs us Q I r h
  obtain ⟨i, j, rfl, q⟩ := h
  obtain ⟨u, w', rfl, ⟨t, rfl⟩, ⟨t', rfl⟩⟩ := vals2 r
  refine min_two_ints (I.ok.hd hc) fun h' tk k => ⟨_, H, I.kept k, ?_, q⟩
  by_cases hj : j < i
  · rw [if_pos hj, if_pos hj]; exact ⟨_, rfl⟩
  · rw [if_neg hj, if_neg hj]; exact ⟨_, rfl⟩
theorem call_int1 : CallR X (.type "int") (fun xs H Q => (∃ i, xs = [.int i] ∧ Q (.int i) H) ∨ ∃ k, xs = [.bl k] ∧ Q (.int (if k then 1 else 0)) H) := by
  intro pins s σ H xs us Q I r h
  rcases h with ⟨i, rfl, q⟩ | ⟨k, rfl, q⟩
  · obtain ⟨u, rfl, t, rfl⟩ := vals1 r
    exact call_int_int ⟨.int i, H, I, ⟨_, rfl⟩, q⟩
  · obtain ⟨u, rfl, r1⟩ := vals1 r
    cases r1
    exact call_int_bool ⟨.int (if k then 1 else 0), H, I.tok _, ⟨_, rfl⟩, q⟩
end
end L2
namespace L2
open PySem PySem.Spec PyProof.Rows
structure ObjM (h : Heap) (x dx C : Addr) (mA : Str → Option Value) : Prop where
  obj : h.get? x = some (PySem.W.instObj C dx)
  ns : h.Ns1 dx mA
  ne : dx ≠ x
theorem lookIn_ns {h : Heap} {dx : Addr} {mA : Str → Option Value} (n : h.Ns1 dx mA) : ∃ od, h.get? dx = some od ∧ ∀ name, PySem.W.lookIn name od = some (mA name) := by
  obtain ⟨o, es, ep, ho, hd, hk, _, hm⟩ := n
  refine ⟨o, ho, fun name => ?_⟩
  have e := hm name
  unfold nsFind findBy at e
  rw [← Array.find?_toList] at e
  unfold PySem.W.lookIn
  rw [hd]
  dsimp only
  split
  · rename_i y q
    rw [q] at e
    exact congrArg some e
  · rename_i q
    rw [q] at e
    have a : es.toList.any (·.refKey) = false := by
      rw [List.any_eq_false]
      intro y hy
      obtain ⟨z, t, hkey⟩ := hk y (Array.mem_toList_iff.mp hy)
      simp [DictEntry.refKey, hkey]
    have a' : ¬ es.toList.any (·.refKey) = true := by rw [a]; exact Bool.false_ne_true
    rw [if_neg a']
    exact congrArg some e
theorem ObjM.look {h : Heap} {x dx C : Addr} {mA : Str → Option Value} (I : ObjM h x dx C mA) : ∃ od, PySem.W.InstAt h x (PySem.W.instObj C dx) C (some od) ∧ ∀ name, PySem.W.lookIn name od = some (mA name) :=
  let ⟨od, ho, hl⟩ := lookIn_ns I.ns
  ⟨od, ⟨I.obj, rfl, rfl, ho⟩, hl⟩
section
variable {prog : Program} {w : World} {A : Around} {E : Value → Shared → Prop} {s : Shared} {K : PySem.W.Frag} {x dx C f : Addr} {mA : Str → Option Value} {name : Str} {v : Value}
end
section
variable {P : Program} {w : World} {H H' : Hp} {h h' : Heap} {a C dx : Addr} {fs fs' : List (Str × V)}
theorem ins_get (hok : HOk P w H h) (e : H a = some (.ins C dx fs)) : ∃ mA, ObjM h a dx C mA ∧ (∀ f, RelO (fs.lookup f) (mA f)) ∧ PySem.Within mA (fs.map (·.1)) ∧ fs.length ≤ 1000 ∧ H dx = some (.own a) := by
  obtain ⟨d, z, ne, ob, mA, n, r, q⟩ := (show ObjOk P w H h a (.ins C dx fs) from hok a _ e)
  exact ⟨mA, ⟨ob, n, ne⟩, r, q, z, d⟩
end
structure Cls (K : PySem.W.Frag) (C : Addr) : Prop where
  pg : PySem.W.plainGet K C Str.empty = true
  hd : PySem.W.hasDictIn K C = true
  po : PySem.W.plainOver K C = true
  sa : PySem.W.findIn K (.ref C) "__setattr__" = some (some (.builtin "object.__setattr__"))
theorem Cls.get {K : PySem.W.Frag} {C : Addr} (c : Cls K C) (f : Str) : PySem.W.plainGet K C f = true := c.pg
structure Con (K : PySem.W.Frag) (C : Addr) (f : Str) (v : V) (u : Value) : Prop where
  at_ : PySem.W.findIn K (.ref C) f = some (some u)
  rel : RelV v u
  get : PySem.W.specialIn K u "__get__" = some none
  cp : PySem.W.copiedNames.contains f = false
structure Meth (K : PySem.W.Frag) (C : Addr) (m : Str) (f : Addr) : Prop where
  at_ : PySem.W.findIn K (.ref C) m = some (some (.ref f))
  fn : PySem.W.isFn K (.ref f) = true
  kp : PySem.W.keepIn K (.ref f) = true
section
variable {X : Cx} {pins : List (Addr × Obj)} {σ : St} {H : Hp} {s : Shared} {a C dx : Addr} {fs : List (Str × V)} {f : Str} {v : V} {A : Around} {E : Value → Shared → Prop}
theorem Inv.made (I : Inv X pins σ H s) : Inv X pins σ (upd (upd H s.heap.objs.size (.own (s.heap.objs.size + 1))) (s.heap.objs.size + 1) (.ins C s.heap.objs.size []))
    { s with heap := (s.heap.push PySem.W.emptyDict).push (PySem.W.instObj C s.heap.objs.size) } := by
  have e1 : (s.heap.push PySem.W.emptyDict).get? s.heap.objs.size = some PySem.W.emptyDict := Heap.get?_push_size s.heap rfl
  have e2 : ((s.heap.push PySem.W.emptyDict).push (PySem.W.instObj C s.heap.objs.size)).get? (s.heap.objs.size + 1) = some (PySem.W.instObj C s.heap.objs.size) := by
    have := Heap.get?_push_size (s.heap.push PySem.W.emptyDict) (o := PySem.W.instObj C s.heap.objs.size) rfl
    rwa [Heap.size_push] at this
  have e3 : (s.heap.push PySem.W.emptyDict).Ns s.heap.objs.size (fun _ => none) := ⟨PySem.W.emptyDict, #[], _, e1, rfl, (fun e he => absurd he (by simp)), fun _ => rfl⟩
  have I1 := I.laid (a := s.heap.objs.size) (o := .own (s.heap.objs.size + 1)) (h' := s.heap.push PySem.W.emptyDict) (t' := s.toks) (fun b u q => Heap.get?_push_of_some _ q) (Nat.le_refl _) ⟨_, e1⟩
  refine I1.laid (a := s.heap.objs.size + 1) (o := .ins C s.heap.objs.size []) (t' := s.toks) (fun b u q => Heap.get?_push_of_some _ q) (Nat.le_of_eq (Heap.size_push _ _)) ?_
  have ne : s.heap.objs.size ≠ s.heap.objs.size + 1 := Nat.ne_of_lt (Nat.lt_succ_self _)
  refine ⟨by rw [upd_ne ne, upd_same], Nat.zero_le _, ne, e2, fun _ => none, (Heap.Ns1.of_empty e3).at fun o q => Heap.get?_push_of_some _ q, fun _ => True.intro, fun y hy => absurd rfl hy⟩
end
section
variable {X : Cx} {o e value : Expr} {f : Str} {pos pos' tpos : Pos} {ta tv : TE}
end
section
variable {X : Cx} {pins : List (Addr × Obj)} {σ : St} {H : Hp} {s : Shared} {A : Around} {E : Value → Shared → Prop} {Q : Value → Shared → Prop} {c : Value} {b : Bool}
inductive TyOf (K : PySem.W.Frag) (H : Hp) : V → Value → Prop where
  | non : TyOf K H .non (.type "NoneType")
  | bl (x : Bool) : TyOf K H (.bl x) (.type "bool")
  | int (i : Int) : TyOf K H (.int i) (.type "int")
  | str (x : Str) : TyOf K H (.str x) (.type "str")
  | flt (x : UInt64) : TyOf K H (.flt x) (.type "float")
  | lst {a : Addr} {xs : List V} (e : H a = some (.lst xs)) : TyOf K H (.ref a) (.type "list")
  | frz {a : Addr} {o : Obj} {xs : List V} (e : H a = some (.frz o (.lst xs))) : TyOf K H (.ref a) (.type "list")
  | tup {a : Addr} {xs : List V} (e : H a = some (.tup xs)) : TyOf K H (.ref a) (.type "tuple")
  | dK {a : Addr} {kvs : List (Key × V)} (e : H a = some (.dK kvs)) : TyOf K H (.ref a) (.type "dict")
  | dT {a : Addr} {kvs : List (List Key × V)} (e : H a = some (.dT kvs)) : TyOf K H (.ref a) (.type "dict")
  | ins {a C dx : Addr} {fs : List (Str × V)} (e : H a = some (.ins C dx fs)) (cl : Cls K C) (ha : PySem.W.findIn K (.ref C) "__class__" = some (some (.builtin "object.__class__")))
      (hn : PySem.W.specialIn K (.builtin "object.__class__") "__get__" = some (some (.builtin "getset_descriptor.__get__"))) (htk : PySem.W.takesIn K (.builtin "object.__class__") = some true)
      (hm : PySem.W.mroIn K C (.type "object") = some true) : TyOf K H (.ref a) (.ref C)
theorem isinst_ok {x : V} {u t : Value} (I : Inv X pins σ H s) (rx : RelV x u) (ty : TyOf X.K H x t) (e : PySem.W.kitOne X.K t c = some b) (h : ∀ tk, Q (.bool b) { s with toks := tk }) :
    wpAny (model X.prog X.w) A (call (.builtin "isinstance") [u, c]) Q E s := by
  cases ty with
  | non => cases (show u = Value.none from rx); exact PySem.W.kia_one PySem.W.kitx_none I.kIn True.intro e (fun z => nomatch z) h
  | bl y => cases (show u = Value.bool y from rx); exact PySem.W.kia_one PySem.W.kitx_bool I.kIn True.intro e (fun z => nomatch z) h
  | int i => obtain ⟨t, q⟩ := (show ∃ t, u = Value.int i t from rx); cases q; exact PySem.W.kia_one PySem.W.kitx_int I.kIn True.intro e (fun z => nomatch z) h
  | str y => obtain ⟨t, q⟩ := (show ∃ t, u = Value.str y t from rx); cases q; exact PySem.W.kia_one PySem.W.kitx_str I.kIn True.intro e (fun z => nomatch z) h
  | flt y => obtain ⟨t, q⟩ := (show ∃ t, u = Value.float y t from rx); cases q; exact PySem.W.kia_one PySem.W.kitx_float I.kIn True.intro e (fun z => nomatch z) h
  | @lst a xs ea =>
    cases (show u = Value.ref a from rx)
    obtain ⟨_, _, n, _, h1⟩ := (show ObjOk X.prog X.w H s.heap a (.lst xs) from I.hok a _ ea)
    exact PySem.W.kia_one PySem.W.kitx_list I.kIn ⟨_, h1, rfl⟩ e (fun z => nomatch z) h
  | @frz a ob xs ea =>
    cases (show u = Value.ref a from rx)
    obtain ⟨_, _, _, n, _, h1⟩ := (show ObjOk X.prog X.w H s.heap a (.frz ob (.lst xs)) from I.hok a _ ea)
    exact PySem.W.kia_one PySem.W.kitx_list I.kIn ⟨_, h1, rfl⟩ e (fun z => nomatch z) h
  | @tup a xs ea =>
    cases (show u = Value.ref a from rx)
    obtain ⟨_, _, _, p⟩ := (show ObjOk X.prog X.w H s.heap a (.tup xs) from I.hok a _ ea)
    obtain ⟨o, h1, h2, _⟩ := p
    exact PySem.W.kia_one PySem.W.kitx_tuple I.kIn ⟨o, h1, h2⟩ e (fun z => nomatch z) h
  | @dK a kvs ea =>
    cases (show u = Value.ref a from rx)
    obtain ⟨_, _, vs, _, p⟩ := (show ObjOk X.prog X.w H s.heap a (.dK kvs) from I.hok a _ ea)
    obtain ⟨o, es, ep, h1, h2, _⟩ := p
    exact PySem.W.kia_one PySem.W.kitx_dict I.kIn ⟨o, h1, h2.1⟩ e (fun z => nomatch z) h
  | @dT a kvs ea =>
    cases (show u = Value.ref a from rx)
    obtain ⟨_, _, xs, _, o, es, ep, h1, h2, _⟩ := (show ObjOk X.prog X.w H s.heap a (.dT kvs) from I.hok a _ ea)
    exact PySem.W.kia_one PySem.W.kitx_dict I.kIn ⟨o, h1, h2.1⟩ e (fun z => nomatch z) h
  | @ins a C dx fs ea cl ha hn htk hm =>
    cases (show u = Value.ref a from rx)
    obtain ⟨mA, O, _⟩ := ins_get I.hok ea
    obtain ⟨od, J, _⟩ := O.look
    exact PySem.W.kia_one (PySem.W.kitx_own (cl.get _) cl.hd ha hn htk hm) I.kIn J e (fun z => nomatch z) h
end
end L2
namespace L2
open PySem PySem.Spec PyProof.Rows
structure Room (k : Nat) (A : Around) : Prop where
  hd : A.handled = none
  dp : A.depth + 3 * k + 5 < recursionLimit
  un : A.units + 16 * k + 200 < cLine
theorem Room.mono {j k : Nat} {A : Around} (r : Room k A) (h : j ≤ k) : Room j A := ⟨r.hd, by have := r.dp; omega, by have := r.un; omega⟩
theorem Room.deeper {k : Nat} {A : Around} (r : Room (k + 1) A) (env : Env) : Room k (A.deeper env) :=
  ⟨r.hd, by have := r.dp; show A.depth + 1 + 3 * k + 5 < _; omega, by have := r.un; show A.units + 3 + 16 * k + 200 < _; omega⟩
theorem Room.in1 {k : Nat} {A : Around} (r : Room (k + 1) A) : Room k A.in1 :=
  ⟨r.hd, by have := r.dp; show A.depth + 3 * k + 5 < _; omega, by have := r.un; show A.units + 1 + 16 * k + 200 < _; omega⟩
theorem Room.depth {k : Nat} {A : Around} (r : Room k A) : A.depth < recursionLimit := by have := r.dp; omega
theorem Room.units {k : Nat} {A : Around} (r : Room k A) : A.units + 64 < cLine := by have := r.un; omega
theorem Room.units0 {k : Nat} {A : Around} (r : Room k A) : A.units < cLine := by have := r.un; omega
def tNil : TA := fun _ H Q => Q [] H
def tCons (ta : TE) (tr : TA) : TA := fun σ H Q => ta σ H fun x H1 => tr σ H1 fun xs H2 => Q (x :: xs) H2
section
variable {X : Cx} {e : Expr} {es : List Expr} {te : TE} {t : TA} {pos : Pos}
theorem pa_nil : PA X [] tNil := fun _ _ _ _ H Q I h => Calls.spliced_nil ⟨[], H, I, .nil, h⟩
theorem pa_cons (ha : PE X e te) (hr : PA X es t) (hs : starEach (e :: es) X.env = (false, eval e X.env) :: starEach es X.env := by rfl) : PA X (e :: es) (tCons te t) := by
  intro pos pins s σ H Q I h
  rw [hs]
  show wpAny _ _ (spliced ((false, eval e X.env) :: backTo pos (starEach es X.env))) _ _ s
  refine Calls.spliced_cons (thn (ha pins s σ H _ I h) fun u s1 ⟨x, H1, I1, r1, q1⟩ => ?_)
  exact thn (hr pos pins s1 σ H1 _ I1 q1) fun us s2 ⟨xs, H2, I2, r2, q2⟩ => ⟨x :: xs, H2, I2, .cons r1 r2, q2⟩
def tTup (t : TA) : TE := fun σ H Q => t σ H fun xs H1 => xs.length ≤ sizeLine ∧ ∀ p, H1 p = none → Q (.ref p) (upd H1 p (.tup xs))
def tLst (t : TA) : TE := fun σ H Q => t σ H fun xs H1 => xs.length ≤ sizeLine ∧ ∀ p, H1 p = none → Q (.ref p) (upd H1 p (.lst xs))
theorem pe_tup {x1} (h : PA X es t) : PE X (.Tuple es x1 pos) (tTup t) := by
  intro pins s σ H Q I hq
  refine wpAny_Tuple_spliced (thn (h pos pins s σ H _ I hq) fun us s1 ⟨xs, H1, I1, r, z, q⟩ => ⟨by rw [← r.length]; exact z, ?_⟩)
  have hf : H1 s1.heap.objs.size = none := I1.hok.fresh (Nat.le_refl _)
  refine ⟨.ref s1.heap.objs.size, upd H1 s1.heap.objs.size (.tup xs), I1.laid (t' := s1.toks) (fun b u e => Heap.get?_push_of_some _ e) (Nat.le_refl _) ?_, rfl, q _ hf⟩
  exact ⟨z, us, r, ⟨_, Heap.get?_push_size _ rfl, rfl, _, rfl⟩⟩
theorem pe_lst (h : PA X es t) : PE X (.List es pos) (tLst t) := by
  intro pins s σ H Q I hq
  refine wpAny_List_spliced (thn (h pos pins s σ H _ I hq) fun us s1 ⟨xs, H1, I1, r, z, q⟩ => ⟨by rw [← r.length]; exact z, ?_⟩)
  have hf : H1 s1.heap.objs.size = none := I1.hok.fresh (Nat.le_refl _)
  refine ⟨.ref s1.heap.objs.size, upd H1 s1.heap.objs.size (.lst xs), I1.laid (t' := s1.toks) (fun b u e => Heap.get?_push_of_some _ e) (Nat.le_refl _) ?_, rfl, q _ hf⟩
  exact ⟨z, us, 0, r, Heap.get?_push_size _ rfl⟩
end
abbrev Sp := List V → Hp → VK → XK → Prop
abbrev CXT := List Env → Hp → Shared → XK → Value → Shared → Prop
structure Env0 (P : Program) (w : World) (K : PySem.W.Frag) (mg : Str → Option Value) (base : Heap) (A : Around) (outer : List Env) (s : Shared) (H : Hp) : Prop where
  frames : A.frames = some outer
  mod : Mod K mg base
  bs : ∀ b o, base.get? b = some o → s.heap.get? b = some o ∧ H b = none
  bsz : base.objs.size ≤ s.heap.objs.size
  funs : s.heap.FunFrames base outer
  frf : ∀ b ∈ frs outer, H b = none
  hok : HOk P w H s.heap
  bare : AllBare s.gens
def CE (outer : List Env) (P : Program) (w : World) (H : Hp) (s : Shared) (Q : VK) (u : Value) (s' : Shared) : Prop :=
  ∃ v H', s'.os = s.os ∧ AllBare s'.gens ∧ Un (frs outer) [] H H' s.heap s'.heap ∧ HOk P w H' s'.heap ∧ RelV v u ∧ Q v H'
def CR (CX : CXT) (outer : List Env) (P : Program) (w : World) (H : Hp) (s : Shared) (Q : VK) (E : XK) (r : Result) (s' : Shared) : Prop :=
  match r with
  | .ok (.ret u) => CE outer P w H s Q u s'
  | .ok _ => False
  | .error e => CX outer H s E e s'
structure FnOk (P : Program) (w : World) (K : PySem.W.Frag) (mg : Str → Option Value) (base : Heap) (CX : CXT) (k : Nat) (f : Addr) (fd : FuncData) (ps : List Str) (sp : Sp) : Prop where
  len : ∀ vs H Q E, sp vs H Q E → vs.length = ps.length
  run : ∀ (A : Around) (outer : List Env) (s : Shared) (H : Hp) (args : Args) (us : List Value) (vs : List V) (Q : VK) (E : XK), Room k A → Env0 P w K mg base A outer s H → BindsTo s fd args (ps.zip us) → Vals vs us → sp vs H Q E →
    codeAny (model P w) A (.call (.ref f) args) (CR CX outer P w H s Q E) s
theorem FnOk.mono {P : Program} {w : World} {K : PySem.W.Frag} {mg : Str → Option Value} {base : Heap} {CX : CXT} {j k : Nat} {f : Addr} {fd : FuncData} {ps : List Str} {sp : Sp} (F : FnOk P w K mg base CX j f fd ps sp) (h : j ≤ k) :
    FnOk P w K mg base CX k f fd ps sp := ⟨F.len, fun A outer s H args us vs Q E hr => F.run A outer s H args us vs Q E (hr.mono h)⟩
theorem FnOk.imp {P : Program} {w : World} {K : PySem.W.Frag} {mg : Str → Option Value} {base : Heap} {CX : CXT} {k : Nat} {f : Addr} {fd : FuncData} {ps : List Str} {sp sp' : Sp} (F : FnOk P w K mg base CX k f fd ps sp)
    (h : ∀ vs H Q E, sp' vs H Q E → sp vs H Q E) : FnOk P w K mg base CX k f fd ps sp' :=
  ⟨fun vs H Q E q => F.len vs H Q E (h _ _ _ _ q), fun A outer s H args us vs Q E hr he hb hv hs => F.run A outer s H args us vs Q E hr he hb hv (h _ _ _ _ hs)⟩
theorem Env0.in1 {P : Program} {w : World} {K : PySem.W.Frag} {mg : Str → Option Value} {base : Heap} {A : Around} {outer : List Env} {s : Shared} {H : Hp} (e : Env0 P w K mg base A outer s H) :
    Env0 P w K mg base A.in1 outer s H := ⟨e.frames, e.mod, e.bs, e.bsz, e.funs, e.frf, e.hok, e.bare⟩
section
variable {X : Cx} {pins : List (Addr × Obj)} {σ : St} {H : Hp} {s s' : Shared}
theorem Inv.env0 (I : Inv X pins σ H s) : Env0 X.prog X.w X.K X.mg X.base X.A X.stack s H :=
  ⟨I.ok.frames, I.ok.mod, I.bs, Nat.le_trans I.ok.bsz I.sz, I.stack, I.stkFree, I.hok, I.bare⟩
theorem Inv.after {Q : VK} {u : Value} (I : Inv X pins σ H s) (h : CE X.stack X.prog X.w H s Q u s') : EP X pins σ Q u s' := by
  obtain ⟨v, H', os, bare, un, hok, r, q⟩ := h
  obtain ⟨hh, g, d, t, os'⟩ := s'
  obtain rfl : os' = s.os := os
  exact ⟨v, H', I.call (h' := hh) (g' := g) (d' := d) (t' := t) (ch := []) un hok bare (fun b z => absurd z (by simp)), r, q⟩
end
def tCall (sp : Sp) (dvs : List V) (E : XK) (t : TA) : TE := fun σ H Q => t σ H fun vs H1 => sp (vs ++ dvs) H1 Q E
def Binds (K : PySem.W.Frag) (fd : FuncData) (ps : List Str) (ds : List Value) : Prop :=
  ∀ (s : Shared) (us : List Value), K.In s.heap → (us ++ ds).length = ps.length → BindsTo s fd ⟨us, []⟩ (ps.zip (us ++ ds))
theorem Binds.all {K : PySem.W.Frag} {fd : FuncData} {ps : List Str} (h : ∀ us : List Value, us.length = ps.length → bindArgs fd ⟨us, []⟩ = pure (ps.zip us)) : Binds K fd ps [] := fun s us _ hl => by
  rw [List.append_nil] at hl ⊢
  exact .of_eq (h us hl)
def Passes (CX : CXT) (X : Cx) (E : XK) : Prop := ∀ (pins : List (Addr × Obj)) (σ : St) (H : Hp) (s : Shared) (e : Value) (s' : Shared), Inv X pins σ H s → CX X.stack H s E e s' → X.xe e s'
section
variable {X : Cx} {CX : CXT} {k : Nat} {f C : Addr} {fd : FuncData} {ps : List Str} {sp : Sp} {dvs : List V} {ds : List Value} {E : XK} {x m : Str} {p pos apos : Pos} {e o : Expr} {es : List Expr} {ta : TE} {t : TA}
theorem run_fn {pins : List (Addr × Obj)} {σ : St} {H : Hp} {s : Shared} {Q : VK} {us : List Value} {vs : List V} (F : FnOk X.prog X.w X.K X.mg X.base CX k f fd ps sp) (hr : Room k X.A) (hb : Binds X.K fd ps ds) (hd : Vals dvs ds) (hx : Passes CX X E)
    (I : Inv X pins σ H s) (r : Vals vs us) (h : sp (vs ++ dvs) H Q E) : wpAny (model X.prog X.w) X.A (call (.ref f) us) (EP X pins σ Q) X.xe s := by
  have r2 : Vals (vs ++ dvs) (us ++ ds) := r.append hd
  have hl : (us ++ ds).length = ps.length := by rw [← r2.length]; exact F.len _ _ _ _ h
  refine wpAny_call (codeAny_mono (F.run X.A X.stack s H ⟨us, []⟩ (us ++ ds) (vs ++ dvs) Q E hr I.env0 (hb s us I.kIn hl) r2 h) fun r s' hq => ?_)
  cases r with
  | error e => exact hx pins σ H s e s' I hq
  | ok fl =>
    cases fl with
    | ret u => exact I.after hq
    | next => exact False.elim hq
    | brk => exact False.elim hq
    | cont => exact False.elim hq
theorem pe_call (F : FnOk X.prog X.w X.K X.mg X.base CX k f fd ps sp) (hr : Room k X.A) (hg : Gl X x) (hm : X.mg x = some (.ref f)) (hk : PySem.W.keepIn X.K (.ref f) = true) (hb : Binds X.K fd ps ds) (hd : Vals dvs ds) (hx : Passes CX X E)
    (ha : PA X (e :: es) t) (hdb : (x == ("__debug__" : Str)) = false := by decide) (he : starEach (e :: es) X.env = (false, eval e X.env) :: starEach es X.env := by rfl) (hpl : (backTo pos (starEach es X.env)).any (·.1) = false := by rfl) :
    PE X (.Call (.Name x p) (e :: es) [] pos) (tCall sp dvs E t) := by
  intro pins s σ H Q I h
  refine wpAny_Call_Name_kw (ld_glob I hg hm ?_ hdb)
  refine PySem.W.callWith_K (h₀ := X.base) I.ok.mod.kin hk (thn (ha pos pins s σ H _ I h) fun us s1 ⟨vs, H1, I1, r, q⟩ => ⟨I1.kIn, ?_⟩) he hpl
  exact run_fn F hr hb hd hx I1 r q
structure Mk (K : PySem.W.Frag) (C f : Addr) : Prop where
  makes : PySem.W.makesIn K C = true
  init : PySem.W.findIn K (.ref C) "__init__" = some (some (.ref f))
  fn : PySem.W.isFn K (.ref f) = true
  kp : PySem.W.keepIn K (.ref C) = true
end
section
variable {X : Cx} {CX : CXT} {k : Nat} {f C : Addr} {fd : FuncData} {ps ks : List Str} {sp : Sp} {E : XK} {x m : Str} {p pos apos kpos : Pos} {e o : Expr} {es : List Expr} {kws : List Keyword} {te ta : TE} {t tk : TA} {nm : Option Str}
structure KBinds (K : PySem.W.Frag) (fd : FuncData) (ps ks : List Str) (g : List Value → List Value → List Value) (gV : List V → List V → List V) : Prop where
  to : ∀ (s : Shared) (us ws : List Value), K.In s.heap → (g us ws).length = ps.length → BindsTo s fd ⟨us, ks.zip ws⟩ (ps.zip (g us ws))
  rel : ∀ {vs : List V} {us : List Value} {zs : List V} {ws : List Value}, Vals vs us → Vals zs ws → Vals (gV vs zs) (g us ws)
variable {g : List Value → List Value → List Value} {gV : List V → List V → List V}
end
structure FnScope (N P : List Str) (sc : Scope) : Prop where
  kind : sc.kind = .function
  co : sc.isCoroutine = false
  gen : sc.isGenerator = false
  nd : N.Nodup
  pre : N.take P.length = P
  par : ∀ x ∈ P, sc.names.lookup x = some .local ∨ sc.names.lookup x = some .cell
  nofree : ∀ y ∈ sc.names, y.2 ≠ .free
theorem bindL_out {kindOf : Str → Option NameKind} {x : Str} : ∀ {binds : List (Str × Value)} {m : Str → Option Value}, (∀ v, (x, v) ∉ binds) → bindL kindOf binds m x = m x
  | [], _, _ => rfl
  | (n, v) :: r, m, h => by
    unfold bindL
    rw [bindL_out fun w hw => h w (List.mem_cons_of_mem _ hw)]
    split
    · have : x ≠ n := by rintro rfl; exact h v List.mem_cons_self
      simp [this]
    · rfl
theorem bindC_out {kindOf : Str → Option NameKind} {x : Str} : ∀ {binds : List (Str × Value)} {m : Str → Option Value}, (∀ v, (x, v) ∉ binds) → bindC kindOf binds m x = m x
  | [], _, _ => rfl
  | (n, v) :: r, m, h => by
    unfold bindC
    rw [bindC_out fun w hw => h w (List.mem_cons_of_mem _ hw)]
    split
    · rfl
    · have : x ≠ n := by rintro rfl; exact h v List.mem_cons_self
      simp [this]
theorem bindL_get {kindOf : Str → Option NameKind} {x : Str} {v : Value} : ∀ {P : List Str} {vs : List Value} {i : Nat} {m : Str → Option Value}, P.Nodup → P[i]? = some x → vs[i]? = some v → kindOf x = some .local →
    bindL kindOf (P.zip vs) m x = some v
  | [], _, _, _, _, h, _, _ => by simp at h
  | _ :: _, [], _, _, _, _, h, _ => by simp at h
  | p :: P, w :: vs, 0, m, nd, h1, h2, hk => by
    simp at h1 h2; subst h1; subst h2
    show bindL kindOf ((p, w) :: P.zip vs) m p = _
    unfold bindL
    rw [bindL_out fun v hv => (List.nodup_cons.mp nd).1 (List.of_mem_zip hv).1, if_pos hk]
    simp
  | p :: P, w :: vs, i + 1, m, nd, h1, h2, hk => by
    show bindL kindOf ((p, w) :: P.zip vs) m x = _
    unfold bindL
    exact bindL_get (i := i) (List.nodup_cons.mp nd).2 (by simpa using h1) (by simpa using h2) hk
theorem bindC_get {kindOf : Str → Option NameKind} {x : Str} {v : Value} : ∀ {P : List Str} {vs : List Value} {i : Nat} {m : Str → Option Value}, P.Nodup → P[i]? = some x → vs[i]? = some v → kindOf x ≠ some .local →
    bindC kindOf (P.zip vs) m x = some v
  | [], _, _, _, _, h, _, _ => by simp at h
  | _ :: _, [], _, _, _, _, h, _ => by simp at h
  | p :: P, w :: vs, 0, m, nd, h1, h2, hk => by
    simp at h1 h2; subst h1; subst h2
    show bindC kindOf ((p, w) :: P.zip vs) m p = _
    unfold bindC
    rw [bindC_out fun v hv => (List.nodup_cons.mp nd).1 (List.of_mem_zip hv).1, if_neg hk]
    simp
  | p :: P, w :: vs, i + 1, m, nd, h1, h2, hk => by
    show bindC kindOf ((p, w) :: P.zip vs) m x = _
    unfold bindC
    exact bindC_get (i := i) (List.nodup_cons.mp nd).2 (by simpa using h1) (by simpa using h2) hk
def start (N : List Str) (vs : List V) : St := vs.map some ++ List.replicate (N.length - vs.length) none
def cxOf (CX : CXT) (P : Program) (w : World) (K : PySem.W.Frag) (mg : Str → Option Value) (base : Heap) (N : List Str) (qual : Str) (scope : Scope) (f : Addr) (cd : Value) (A : Around) (outer : List Env) (s : Shared) (H : Hp) (E : XK) : Cx where
  prog := P
  w := w
  K := K
  mg := mg
  base := base
  A := A.deeper (envOfC qual scope s.heap.objs.size f cd)
  N := N
  s₀ := s
  H₀ := H
  env := envOfC qual scope s.heap.objs.size f cd
  outer := outer
  stack := envOfC qual scope s.heap.objs.size f cd :: outer
  ex := []
  calm := true
  fn := fun _ => true
  pn := []
  xe := fun e s' => wpAny (model P w) (A.deeper (envOfC qual scope s.heap.objs.size f cd)) (leaving (envOfC qual scope s.heap.objs.size f cd) e) (fun _ s'' => CX outer H s E e s'') (fun e' s'' => CX outer H s E e' s'') s'
theorem cell_has {sc : Scope} {n : Nat} {x : Str} (h : sc.names.lookup x = some .cell) : ∃ c, (cellsFrom n sc.names []).lookup x = some c := by
  have q := PySem.W.cellsFrom_some sc.names n [] (.inl h)
  exact Option.isSome_iff_exists.mp q
theorem inv_start {CX : CXT} {P : Program} {w : World} {K : PySem.W.Frag} {mg : Str → Option Value} {base : Heap} {N ps : List Str} {qual : Str} {scope : Scope} {f : Addr} {cd : Value} {A : Around} {outer : List Env} {s s1 : Shared} {H : Hp} {E : XK} {us : List Value} {vs : List V}
    (S : FnScope N ps scope) (hd : A.handled = none) (e0 : Env0 P w K mg base A outer s H) (hl : vs.length = ps.length) (r : Vals vs us)
    (x : InCallC s s.heap.objs.size (bindL (envOfC qual scope s.heap.objs.size f cd).kindOf (ps.zip us) fun _ => none) (cellsFrom (s.heap.objs.size + 1) scope.names []) (bindC (envOfC qual scope s.heap.objs.size f cd).kindOf (ps.zip us) fun _ => none) s1) :
    Inv (cxOf CX P w K mg base N qual scope f cd A outer s H E) [] (start N vs) H s1 := by
  have hpl : ps.length ≤ N.length := by have := congrArg List.length S.pre; rw [List.length_take] at this; omega
  obtain ⟨h1, tk, rfl, hk⟩ := x.done
  have noA : ∀ b : Addr, b ∉ (cxOf CX P w K mg base N qual scope f cd A outer s H E).ex := fun b z => absurd (show b ∈ ([] : List Addr) from z) (by simp)
  refine ⟨⟨e0.mod, S.kind, rfl, rfl, Nat.le_refl _, fun y z c h1 h2 => ?_, fun y hy => ?_, fun y c _ h => ?_, fun _ => hd, Around.frames_deeper e0.frames, .inr ⟨rfl, rfl⟩, fun b z => absurd z (noA b), e0.bs, e0.bsz, fun b _ _ => noA b, fun b z => absurd z (noA b), e0.funs, e0.frf⟩,
    rfl, e0.bare, Un.kept hk, ⟨_, x.toInCall.ns, fun i y v h1 h2 h3 => ?_⟩, fun y c h => ⟨_, x.cell y c h⟩, e0.hok.fresh (Nat.le_refl _), fun y c h => ?_, fun p hp => absurd (show p ∈ ([] : List (Addr × Obj)) from hp) (by simp), e0.hok.kept hk, ?_⟩
  · exact name_of_addr x.apart (PySem.mem_of_lookup h1) (PySem.mem_of_lookup h2)
  · have hy : scope.names.lookup y = some .cell ∨ scope.names.lookup y = some .free := hy
    rcases hy with hy | hy
    · exact cell_has hy
    · exact absurd rfl (S.nofree _ (PySem.mem_of_lookup hy))
  · exact Nat.le_of_lt (x.above y c (PySem.mem_of_lookup h))
  · have hi : i < vs.length := by
      unfold start at h2
      by_cases hi : i < vs.length
      · exact hi
      · rw [List.getElem?_append_right (by simpa using hi)] at h2
        rw [List.getElem?_replicate] at h2
        split at h2 <;> cases h2
    have ha : vs[i]? = some v := by
      unfold start at h2
      rw [List.getElem?_append_left (by simpa using hi), List.getElem?_map] at h2
      cases e : vs[i]? with
      | none => rw [e] at h2; cases h2
      | some a => rw [e] at h2; cases h2; rfl
    obtain ⟨u, hu, rv⟩ := r.get ha
    have hp : ps[i]? = some y := by
      rw [← S.pre, List.getElem?_take_of_lt (by omega)]; exact h1
    have ndP : ps.Nodup := by rw [← S.pre]; exact S.nd.sublist (List.take_sublist _ _)
    refine ⟨u, rv, ?_⟩
    rcases S.par y (List.mem_of_getElem? hp) with k | k
    · exact .inl ⟨k, bindL_get ndP hp hu k⟩
    · obtain ⟨c, e⟩ := cell_has (n := s.heap.objs.size + 1) k
      refine .inr ⟨.inl k, c, e, ?_⟩
      have q := x.cell y c e
      rw [bindC_get ndP hp hu (by show scope.names.lookup y ≠ _; rw [k]; decide)] at q
      exact q
  · exact e0.hok.fresh (Nat.le_of_lt (x.above y c (PySem.mem_of_lookup h)))
  · unfold start
    show _ = N.length
    rw [List.length_append, List.length_map, List.length_replicate]
    omega
theorem fn_of {CX : CXT} {P : Program} {w : World} {K : PySem.W.Frag} {mg : Str → Option Value} {base : Heap} {k : Nat} {f : Addr} {name qual : Str} {params : Arguments} {body : List Stmt} {scope : Scope} {dV kV doc pm cdv ct oc : Value} {an od : Option Addr}
    {osl : Array (Option Value)} {N ps : List Str} {sp : Sp} (lk : K.lookup f = some ⟨oc, od, .func (PySem.W.fnOf name qual params body scope dV kV doc pm an cdv ct), osl⟩) (hcd : PySem.W.codeIn K cdv qual = true) (S : FnScope N ps scope)
    (len : ∀ vs H Q E, sp vs H Q E → vs.length = ps.length)
    (hbody : ∀ (A : Around) (outer : List Env) (s : Shared) (H : Hp) (vs : List V) (Q : VK) (E : XK), Room k (A.deeper (envOfC qual scope s.heap.objs.size f cdv)) → sp vs H Q E →
      ∃ t, PSs (cxOf CX P w K mg base N qual scope f cdv A outer s H E) body t ∧ t { nx := fun _ H' => Q .non H', rt := Q } (start N vs) H) :
    FnOk P w K mg base CX (k + 1) f (PySem.W.fnOf name qual params body scope dV kV doc pm an cdv ct) ps sp := by
  refine ⟨len, fun A outer s H args us vs Q E hr e0 hb r hsp => ?_⟩
  have hl := len _ _ _ _ hsp
  have KX : K.In s.heap := e0.mod.kin.keeps fun b o e => (e0.bs b o e).1
  have lim : s.heap.NoLimit := e0.mod.nolimit.keeps fun b o e => (e0.bs b o e).1
  have hkind : ∀ y ∈ ps.zip us, scope.names.lookup y.1 = some .local ∨ (scope.names.lookup y.1 = some .cell ∧ ((cellsFrom (s.heap.objs.size + 1) scope.names []).lookup y.1).isSome = true) := fun ⟨n, v⟩ hy => by
    rcases S.par n (List.of_mem_zip hy).1 with q | q
    · exact .inl q
    · exact .inr ⟨q, PySem.W.cellsFrom_some _ _ _ (.inl q)⟩
  refine codeAny_call_function hr.depth (KX _ _ lk) rfl S.co S.gen rfl (PySem.W.codeRec_of KX hcd) (hb _ _ _ _ ?_)
  refine wpAny_newFunctionEnv_cells S.kind hkind fun env he s1 x => ?_
  subst he
  refine ⟨lim.keeps x.toInCall.keep, codeAny_func ?_⟩
  obtain ⟨t, ht, hq⟩ := hbody A outer s H vs Q E (hr.deeper _) hsp
  have I : Inv (cxOf CX P w K mg base N qual scope f cdv A outer s H E) [] (start N vs) H s1 := inv_start S hr.hd e0 hl r x
  refine wpAny_mono (ht [] s1 (start N vs) H _ I hq) (fun fl s' hs => ?_) fun e s' hs => hs
  have fin : ∀ {σ' : St} {H' : Hp} {v : V} {u : Value}, Inv (cxOf CX P w K mg base N qual scope f cdv A outer s H E) [] σ' H' s' → RelV v u → Q v H' → CE outer P w H s Q u s' :=
    fun {σ' H' v u} J rv q => ⟨v, H', J.os, J.bare, J.base, J.hok, rv, q⟩
  cases fl with
  | ret u =>
    obtain ⟨v, σ', H', J, rv, q⟩ := hs
    exact fin J rv q
  | next =>
    obtain ⟨σ', H', J, q⟩ := hs
    exact fin (v := V.non) (u := Value.none) J rfl q
  | brk =>
    obtain ⟨_, _, _, q⟩ := hs
    exact False.elim q
  | cont =>
    obtain ⟨_, _, _, q⟩ := hs
    exact False.elim q
end L2
namespace L2
open PySem PySem.Spec PyProof.Rows
section
variable {X : Cx} {x : Str} {p pos : Pos} {e : Expr} {es : List Expr} {t : TA} {id T : String} {r : List V → Hp → VK → Prop}
def tCB (r : List V → Hp → VK → Prop) (t : TA) : TE := fun σ H Q => t σ H fun vs H1 => r vs H1 Q
theorem pe_callB (hc : CallR X (.builtin id) r) (hg : Gl X x) (hm : X.mg x = none) (hv : bootBuiltins x = some (.builtin id)) (ha : PA X (e :: es) t) (hn : x ≠ "__name__" := by decide) (hdb : (x == ("__debug__" : Str)) = false := by decide)
    (he : starEach (e :: es) X.env = (false, eval e X.env) :: starEach es X.env := by rfl) (hpl : (backTo pos (starEach es X.env)).any (·.1) = false := by rfl) : PE X (.Call (.Name x p) (e :: es) [] pos) (tCB r t) := by
  intro pins s σ H Q I h
  refine wpAny_Call_Name_kw (ld_blt I hg hm hv ?_ hn hdb)
  exact PyProof.Rows.callWith_builtin1 (thn (ha pos pins s σ H _ I h) fun us s1 ⟨vs, H1, I1, r1, q1⟩ => hc pins s1 σ H1 vs us Q I1 r1 q1) he hpl
theorem pe_callTy (hc : CallR X (.type T) r) (hg : Gl X x) (hm : X.mg x = none) (hv : bootBuiltins x = some (.type T)) (ha : PA X (e :: es) t) (hn : x ≠ "__name__" := by decide) (hdb : (x == ("__debug__" : Str)) = false := by decide)
    (he : starEach (e :: es) X.env = (false, eval e X.env) :: starEach es X.env := by rfl) (hpl : (backTo pos (starEach es X.env)).any (·.1) = false := by rfl) : PE X (.Call (.Name x p) (e :: es) [] pos) (tCB r t) := by
  intro pins s σ H Q I h
  refine wpAny_Call_Name_kw (ld_blt I hg hm hv ?_ hn hdb)
  exact PyProof.Rows.callWith_type1 (thn (ha pos pins s σ H _ I h) fun us s1 ⟨vs, H1, I1, r1, q1⟩ => hc pins s1 σ H1 vs us Q I1 r1 q1) he hpl
end
end L2
namespace HT
open PySem PyProof.Rows
section
open PySem.SeqAt
open PySem.AutoSeq1 (wpAny_loadPart')
open PySem.MeetsSeq PySem.MeetsSeq2 PySem.MeetsSeq3
end
section
variable {prog : Program} {w : World} {A : Around} {E : Value → Shared → Prop} {s : Shared}
theorem cat_tup {t b : Addr} {vs ws : List Value} {Q : Value → Shared → Prop} (ht : IsTup s.heap t vs.toArray) (hb : IsTup s.heap b ws.toArray) (hv : vs ≠ [])
    (h1 : ws = [] → Q (.ref t) s) (h2 : ws ≠ [] → Q (.ref s.heap.objs.size) { s with heap := s.heap.push { cls := .type "tuple", data := .seq (vs ++ ws).toArray } })
    (hsz : vs.length + ws.length ≤ sizeLine) : wpAny (model prog w) A (binaryOp .Add (.ref t) (.ref b)) Q E s := by
  obtain ⟨⟨cls, dd, data, sl⟩, ho, hc, n, hd⟩ := id ht
  obtain ⟨⟨cls2, dd2, data2, sl2⟩, ho2, hc2, n2, hd2⟩ := id hb
  simp only at hc hd hc2 hd2
  subst hc hd hc2 hd2
  have e : vs.toArray ++ ws.toArray = (vs ++ ws).toArray := by simp
  by_cases hw : ws = []
  · exact concat_meets ⟨_, ho, rfl⟩ ⟨_, ho2, rfl⟩ noFill_tuple_add seq_tuple_add PySem.F.slot_tuple_add PySem.F.entry_tuple_add (PySem.F.args_tuple_add_2 _ _)
      (tuple_addW1 t b vs.toArray ws.toArray n n2 dd dd2 sl sl2 (by simpa using hv) (by simp [hw])) ⟨ho, ho2, h1 hw⟩
  · refine concat_meets ⟨_, ho, rfl⟩ ⟨_, ho2, rfl⟩ noFill_tuple_add seq_tuple_add PySem.F.slot_tuple_add PySem.F.entry_tuple_add (PySem.F.args_tuple_add_2 _ _)
      (tuple_addW2 t b vs.toArray ws.toArray n n2 dd dd2 sl sl2 (by simpa using hv) (by simpa using hw) (by rw [List.size_toArray, List.size_toArray]; exact hsz)) ⟨ho, ho2, ?_⟩
    rw [e]
    exact h2 hw
def sIx (n d : Nat) : Option Int → Nat
  | none => d
  | some v => if v < 0 then (v + (n : Int)).toNat else min v.toNat n
theorem sIx_le (n d : Nat) (hd : d ≤ n) (o : Option Int) : sIx n d o ≤ n := by
  cases o with
  | none => exact hd
  | some v =>
    show (if v < 0 then (v + (n : Int)).toNat else min v.toNat n) ≤ n
    by_cases hv : v < 0
    · rw [if_pos hv]; omega
    · rw [if_neg hv]; exact Nat.min_le_right _ _
theorem clip_eq (v : Int) (n d : Nat) : (if v < 0 then max (v + (n : Int)) 0 else min v (n : Int)) = ((sIx n d (some v) : Nat) : Int) := by
  show (if v < 0 then max (v + (n : Int)) 0 else min v (n : Int)) = (((if v < 0 then (v + (n : Int)).toNat else min v.toNat n) : Nat) : Int)
  by_cases hv : v < 0
  · simp only [if_pos hv]; omega
  · simp only [if_neg hv]; omega
theorem adjust_gen (lo hi : Option Int) (n : Nat) : Builtin.Slice.sliceAdjust lo hi 1 (n : Int) = (((sIx n 0 lo : Nat) : Int), ((sIx n n hi : Nat) : Int)) := by
  have h1 : ¬ ((1 : Int) < 0) := by omega
  unfold Builtin.Slice.sliceAdjust
  simp only [h1, if_false]
  refine Prod.ext ?_ ?_
  · cases lo with
    | none => rfl
    | some v => exact clip_eq v n 0
  · cases hi with
    | none => rfl
    | some v => exact clip_eq v n n
theorem places_gen (i j : Nat) : Builtin.Slice.slicePlaces (i : Int) (j : Int) 1 = j - i := by
  unfold Builtin.Slice.slicePlaces
  have h1 : (1 : Int) > 0 := by omega
  simp only [h1, if_true, Int.ediv_one]
  split <;> omega
theorem slicePart_ {v : Value} {o : Option Int} {Q : Option Int → Shared → Prop} (p : IsPart v o) (h : Q o s) : wpAny (model prog w) A (Builtin.Slice.slicePartIndex v) Q E s := by
  cases p with
  | none => exact slicePart_none h
  | int i t => exact slicePart_int h
theorem sliceApplied_gen {sl : Addr} {vl vu : Value} {lo hi : Option Int} {n : Nat} {Q : Int × Int × Nat → Shared → Prop} (hs : s.heap.IsSliceOf sl vl vu .none) (pl : IsPart vl lo) (pu : IsPart vu hi)
    (h : Q (((sIx n 0 lo : Nat) : Int), 1, sIx n n hi - sIx n 0 lo) s) : wpAny (model prog w) A (Builtin.Slice.sliceApplied (.ref sl) (pure (n : Int))) Q E s := by
  obtain ⟨os, hos, hcs, hds⟩ := id hs
  unfold Builtin.Slice.sliceApplied Builtin.Slice.sliceFields
  refine wpAny_bind (wpAny_bind (wpAny_field hos hds (x := vl) rfl (wpAny_bind (wpAny_field hos hds (x := vu) rfl (wpAny_bind (wpAny_field hos hds (x := .none) rfl (wpAny_pure ?_)))))))
  refine wpAny_bind (slicePart_none ?_)
  show wpAny _ _ (if ((1 : Int) == 0) = true then _ else _) _ _ s
  rw [if_neg (by decide)]
  refine wpAny_bind (slicePart_ pl (wpAny_bind (slicePart_ pu (wpAny_bind (wpAny_pure ?_)))))
  show wpAny _ _ (match Builtin.Slice.sliceAdjust lo hi 1 (n : Int) with | (lo, hi) => pure (lo, (1 : Int), Builtin.Slice.slicePlaces lo hi 1)) _ _ s
  rw [adjust_gen lo hi n]
  show wpAny _ _ (pure (((sIx n 0 lo : Nat) : Int), (1 : Int), Builtin.Slice.slicePlaces ((sIx n 0 lo : Nat) : Int) ((sIx n n hi : Nat) : Int) 1)) _ _ s
  rw [places_gen]
  exact wpAny_pure h
theorem pick_gen (xs : Array Value) (i k : Nat) : ((List.range k).filterMap fun (m : Nat) => xs[((i : Int) + (m : Int) * 1).toNat]?).toArray = ((xs.toList.drop i).take k).toArray := by
  have e : (fun (m : Nat) => xs[((i : Int) + (m : Int) * 1).toNat]?) = fun m => xs[i + m]? := by
    funext m
    have : ((i : Int) + (m : Int) * 1).toNat = i + m := by omega
    rw [this]
  rw [e]
  have := pick_run xs i k
  rw [List.filterMap_map] at this
  have e2 : ((fun x => xs[x]?) ∘ fun x => i + x) = fun m => xs[i + m]? := rfl
  rw [e2] at this
  rw [this]
theorem getItem_tuple_cut {t sl : Addr} {items : Array Value} {vl vu : Value} {lo hi : Option Int} {Q : Value → Shared → Prop} (ht : IsTup s.heap t items) (hs : s.heap.IsSliceOf sl vl vu .none) (pl : IsPart vl lo) (pu : IsPart vu hi)
    (hw : ¬ (sIx items.size 0 lo = 0 ∧ sIx items.size items.size hi = items.size))
    (h : Q (.ref s.heap.objs.size) { s with heap := s.heap.push { cls := .type "tuple", data := .seq ((items.toList.drop (sIx items.size 0 lo)).take (sIx items.size items.size hi - sIx items.size 0 lo)).toArray } })
    (hsz : items.size ≤ sizeLine) : wpAny (model prog w) A (getItem (.ref t) (.ref sl)) Q E s := by
  have htake : sizeOk (.seq ((items.toList.drop (sIx items.size 0 lo)).take (sIx items.size items.size hi - sIx items.size 0 lo)).toArray) := by
    show ((items.toList.drop (sIx items.size 0 lo)).take (sIx items.size items.size hi - sIx items.size 0 lo)).toArray.size ≤ sizeLine
    rw [List.size_toArray, List.length_take, List.length_drop, Array.length_toList]
    omega
  have hj : sIx items.size items.size hi ≤ items.size := sIx_le _ _ (Nat.le_refl _) hi
  obtain ⟨os, hos, hcs, hds⟩ := id hs
  have hTs : s.TypeIs (.ref sl) "slice" := ⟨os, hos, hcs⟩
  unfold getItem
  try with_reducible refine wpAny_holding ?_
  first | refine wpAny_bind (wpAny_pure ?_) | skip
  refine wpAny_bind (wpAny_sequenceKey ht.typeIs (by decide) ?_)
  refine wpAny_bind (wpAny_callSpecial?_slot (name := Str.ofString "__getitem__") ht.typeIs PyProof.Rows.slot_tuple_getitem
    (wpAny_call_entry PyProof.Rows.slot_tuple_getitem ht.typeIs entry_tuple_getitem ?_ (args_tuple_getitem _ _)))
  show wpAny _ _ (Builtin.Tuple.tupleItemsOf (.ref t) >>= _) _ _ s
  refine wpAny_bind (tupleItemsOf_ ht ?_)
  refine wpAny_bind (wpAny_typeOf hTs ?_)
  rw [if_pos (by decide)]
  refine wpAny_bind (sliceApplied_gen hs pl pu ?_)
  have hno : ¬ ((((sIx items.size 0 lo : Nat) : Int) == 0 && (1 : Int) == 1 && (sIx items.size items.size hi - sIx items.size 0 lo) == items.size) = true) := by
    intro q
    rw [Bool.and_eq_true, Bool.and_eq_true] at q
    have q1 : ((sIx items.size 0 lo : Nat) : Int) = 0 := eq_of_beq q.1.1
    have q2 : sIx items.size items.size hi - sIx items.size 0 lo = items.size := eq_of_beq q.2
    exact hw ⟨by omega, by omega⟩
  show wpAny _ _ (if (((sIx items.size 0 lo : Nat) : Int) == 0 && (1 : Int) == 1 && (sIx items.size items.size hi - sIx items.size 0 lo) == items.size) = true then _ else _) _ _ s
  rw [if_neg hno, pick_gen]
  first
    | exact wpAny_bind (m := Builtin.Tuple.tupleExact _) (wpAny_newObj_type (wpAny_pure ⟨_, rfl, wpAny_pure h⟩) htake)
    | exact wpAny_bind (m := Builtin.Tuple.tupleExact _) (wpAny_newObj_type (wpAny_bind (wpAny_pure (wpAny_pure ⟨_, rfl, wpAny_pure h⟩))) htake)
    | exact wpAny_bind (wpAny_bind (m := Builtin.Tuple.tupleExact _) (wpAny_newObj_type (wpAny_pure (wpAny_pure ⟨_, rfl, wpAny_pure h⟩)) htake))
    | exact wpAny_bind (wpAny_bind (m := Builtin.Tuple.tupleExact _) (wpAny_newObj_type (wpAny_pure ⟨_, rfl, wpAny_pure h⟩) htake))
end
end HT
namespace L2
open PySem PySem.Spec PyProof.Rows
abbrev TO := St → Hp → (Option Int → Hp → Prop) → Prop
def PO (X : Cx) (e : Option Expr) (t : TO) : Prop :=
  ∀ (pins : List (Addr × Obj)) (s : Shared) (σ : St) (H : Hp) (Q : Option Int → Hp → Prop), Inv X pins σ H s → t σ H Q →
    wpAny (model X.prog X.w) X.A (evalPart e X.env) (fun u s' => ∃ o H', Inv X pins σ H' s' ∧ IsPart u o ∧ Q o H') X.xe s
def tNoPart : TO := fun _ H Q => Q none H
def tPart (t : TE) : TO := fun σ H Q => t σ H fun x H1 => ∃ i, x = .int i ∧ Q (some i) H1
theorem intsAre_of {ns : List Int} : ∀ {us : List Value}, Vals (ns.map V.int) us → IntsAre us ns := by
  induction ns with
  | nil => intro us r; rw [List.map_nil] at r; cases r; exact .nil
  | cons n ns ih =>
    intro us r
    rw [List.map_cons] at r
    cases r with
    | cons r1 r2 =>
      obtain ⟨t, e⟩ := r1
      subst e
      exact .cons n t (ih r2)
section
variable {X : Cx} {e : Expr} {te : TE} {lo hi : Option Expr} {tl th : TO} {pos p2 : Pos}
theorem po_none : PO X none tNoPart := by
  intro pins s σ H Q I h
  rw [evalPart_none]
  exact wpAny_pure ⟨none, H, I, .none, h⟩
theorem po_some (h : PE X e te) : PO X (some e) (tPart te) := by
  intro pins s σ H Q I hw
  rw [evalPart_some]
  refine thn (h pins s σ H _ I hw) fun u s1 ⟨x, H1, I1, r1, q1⟩ => ?_
  obtain ⟨i, rfl, q⟩ := q1
  obtain ⟨t, rfl⟩ := r1
  exact ⟨some i, H1, I1, .int i t, q⟩
def SlR (X : Cx) (r : V → Option Int → Option Int → Hp → VK → Prop) : Prop :=
  ∀ (pins : List (Addr × Obj)) (s : Shared) (σ : St) (H : Hp) (x : V) (v vl vu : Value) (lo hi : Option Int) (sl : Addr) (Q : VK), Inv X pins σ H s → RelV x v → s.heap.IsSliceOf sl vl vu .none → IsPart vl lo → IsPart vu hi → r x lo hi H Q →
    ∃ T id, typeLookup (.type T) "__getitem__" = pure (some (.builtin id)) ∧ s.TypeIs v T ∧ wpAny (model X.prog X.w) X.A (getItem v (.ref sl)) (EP X pins σ Q) X.xe s
theorem SlR.or {r r' : V → Option Int → Option Int → Hp → VK → Prop} (h : SlR X r) (h' : SlR X r') : SlR X (fun x lo hi H Q => r x lo hi H Q ∨ r' x lo hi H Q) := by
  intro pins s σ H x v vl vu lo hi sl Q I rx hs pl pu q
  rcases q with q | q
  · exact h pins s σ H x v vl vu lo hi sl Q I rx hs pl pu q
  · exact h' pins s σ H x v vl vu lo hi sl Q I rx hs pl pu q
def tSl (r : V → Option Int → Option Int → Hp → VK → Prop) (te : TE) (tl th : TO) : TE := fun σ H Q => te σ H fun x H1 => tl σ H1 fun l H2 => th σ H2 fun u H3 => r x l u H3 Q
theorem pe_slice {r : V → Option Int → Option Int → Hp → VK → Prop} (hr : SlR X r) (he : PE X e te) (hl : PO X lo tl) (hu : PO X hi th) : PE X (.Subscript e (.Slice lo hi none p2) pos) (tSl r te tl th) := by
  intro pins s σ H Q I h
  refine Subscript_ (thn (he pins s σ H _ I h) fun v s1 ⟨x, H1, I1, r1, q1⟩ => ?_)
  refine wpAny_Slice (thn (hl pins s1 σ H1 _ I1 q1) fun vl s2 ⟨l, H2, I2, pl, q2⟩ => thn (hu pins s2 σ H2 _ I2 q2) fun vu s3 ⟨u, H3, I3, pu, q3⟩ => ?_)
  rw [evalPart_none]
  refine wpAny_pure ?_
  have I4 : Inv X pins σ H3 { s3 with heap := s3.heap.push { cls := .type "slice", data := .fields #[vl, vu, .none] } } := I3.kept (t' := s3.toks) fun b ob q => Heap.get?_push_of_some _ q
  obtain ⟨T, id, hT, ht, hg⟩ := hr pins { s3 with heap := s3.heap.push { cls := .type "slice", data := .fields #[vl, vu, .none] } } σ H3 x v vl vu l u s3.heap.objs.size Q I4 r1 (Heap.IsSliceOf.new ..) pl pu q3
  show wpAny (model X.prog X.w) X.A (subscriptTail e (.Slice lo hi none p2) v (.ref s3.heap.objs.size)) (EP X pins σ Q) X.xe { s3 with heap := s3.heap.push { cls := .type "slice", data := .fields #[vl, vu, .none] } }
  exact tail_any (ops := [.ref s3.heap.objs.size, v]) ht hT hg (by with_unfolding_all rfl)
def cutV (xs : List V) (lo hi : Option Int) : List V := (xs.drop (HT.sIx xs.length 0 lo)).take (HT.sIx xs.length xs.length hi - HT.sIx xs.length 0 lo)
theorem cutV_length (xs : List V) (lo hi : Option Int) : (cutV xs lo hi).length ≤ xs.length := by
  unfold cutV
  rw [List.length_take, List.length_drop]
  omega
def rSlT (K : PySem.W.Frag) : V → Option Int → Option Int → Hp → VK → Prop := fun x lo hi H Q => ∃ a xs, x = .ref a ∧ SqT K H a xs ∧
  ¬ (HT.sIx xs.length 0 lo = 0 ∧ HT.sIx xs.length xs.length hi = xs.length) ∧ ∀ p, H p = none → Q (.ref p) (upd H p (.tup (cutV xs lo hi)))
theorem sl_tup : SlR X (rSlT X.K) := by
  intro pins s σ H x v vl vu lo hi sl Q I rx hs pl pu h
  obtain ⟨a, xs, rfl, hx, hw, q⟩ := h
  cases rx
  obtain ⟨its, r, ht, hz⟩ := I.tuple hx
  have hlen : its.toArray.size = xs.length := by rw [List.size_toArray]; exact r.length.symm
  refine ⟨"tuple", _, PyProof.Rows.slot_tuple_getitem.lookup, ht.typeIs, ?_⟩
  refine HT.getItem_tuple_cut ht hs pl pu (by rw [hlen]; exact hw) ?_ (by rw [hlen]; exact hz)
  rw [hlen]
  refine ⟨.ref s.heap.objs.size, _, I.laid (t' := s.toks) (o := .tup (cutV xs lo hi)) (fun b ob q => Heap.get?_push_of_some _ q) (Nat.le_refl _) ?_, rfl, q _ (I.hok.fresh (Nat.le_refl _))⟩
  exact ⟨Nat.le_trans (cutV_length xs lo hi) hz, _, (r.drop (HT.sIx xs.length 0 lo)).take (HT.sIx xs.length xs.length hi - HT.sIx xs.length 0 lo), IsTup.new _ _⟩
def rCatT (K : PySem.W.Frag) : R2 := fun x y H Q => ∃ a b xs ys, x = .ref a ∧ y = .ref b ∧ SqT K H a xs ∧ SqT K H b ys ∧ xs ≠ [] ∧ xs.length + ys.length ≤ sizeLine ∧
  (ys = [] → Q (.ref a) H) ∧ (ys ≠ [] → ∀ p, H p = none → Q (.ref p) (upd H p (.tup (xs ++ ys))))
theorem Vals.nil_iff {xs : List V} {us : List Value} (r : Vals xs us) : us = [] ↔ xs = [] := by
  cases r with
  | nil => simp
  | cons _ _ => simp
theorem op_catT : OpR X (binaryOp .Add) (rCatT X.K) := by
  intro pins s σ H x y v u Q I rx ry h
  obtain ⟨a, b, xs, ys, rfl, rfl, ha, hb, hx, hz, q1, q2⟩ := h
  cases rx
  cases ry
  obtain ⟨its, r1, p1, _⟩ := I.tuple ha
  obtain ⟨its2, r2, p2, _⟩ := I.tuple hb
  refine HT.cat_tup p1 p2 (fun z => hx (r1.nil_iff.mp z)) (fun z => ⟨.ref a, H, I, rfl, q1 (r2.nil_iff.mp z)⟩) (fun z => ?_) (by rw [← r1.length, ← r2.length]; exact hz)
  refine ⟨.ref s.heap.objs.size, _, I.laid (t' := s.toks) (o := .tup (xs ++ ys)) (fun b ob q => Heap.get?_push_of_some _ q) (Nat.le_refl _) ?_, rfl, q2 (fun w => z (r2.nil_iff.mpr w)) _ (I.hok.fresh (Nat.le_refl _))⟩
  exact ⟨by rw [List.length_append]; exact hz, _, r1.append r2, IsTup.new _ _⟩
end
end L2
namespace L2
open PySem PySem.Spec PyProof.Rows
def ixN (n : Nat) (i : Int) : Option Nat := if 0 ≤ i then (if i < n then some i.toNat else none) else if -(n : Int) ≤ i then some (i + n).toNat else none
def atI {α : Type} (xs : List α) (i : Int) : Option α := (ixN xs.length i).bind fun j => xs[j]?
theorem ixN_seq {n : Nat} {i : Int} {j : Nat} (h : ixN n i = some j) : seqIndex? i n = some j ∧ j < n ∧ -(n : Int) ≤ i ∧ i < n := by
  unfold ixN at h
  by_cases h0 : 0 ≤ i
  · rw [if_pos h0] at h
    by_cases h1 : i < n
    · rw [if_pos h1] at h
      have e : i.toNat = j := Option.some.inj h
      exact ⟨by rw [seqIndex_of h0 h1, e], by omega, by omega, h1⟩
    · rw [if_neg h1] at h; cases h
  · rw [if_neg h0] at h
    by_cases h1 : -(n : Int) ≤ i
    · rw [if_pos h1] at h
      have e : (i + n).toNat = j := Option.some.inj h
      exact ⟨by rw [seqIndex_neg (by omega) h1, e], by omega, h1, by omega⟩
    · rw [if_neg h1] at h; cases h
theorem atI_get {α : Type} {xs : List α} {i : Int} {v : α} (h : atI xs i = some v) : ∃ j, seqIndex? i xs.length = some j ∧ xs[j]? = some v ∧ j < xs.length ∧ -(xs.length : Int) ≤ i ∧ i < xs.length := by
  unfold atI at h
  cases e : ixN xs.length i with
  | none => rw [e] at h; cases h
  | some j =>
    rw [e] at h
    obtain ⟨h1, h2, h3, h4⟩ := ixN_seq e
    exact ⟨j, h1, h, h2, h3, h4⟩
theorem atI_nat {α : Type} {xs : List α} {j : Nat} {v : α} (h : xs[j]? = some v) : atI xs (j : Int) = some v := by
  have hj : j < xs.length := (List.getElem?_eq_some_iff.mp h).1
  have e : ixN xs.length (j : Int) = some j := by
    unfold ixN
    rw [if_pos (by omega), if_pos (by omega)]; simp
  unfold atI; rw [e]; exact h
def PlainIx (b : Expr) : Prop := ∀ o i, subscripted b false o i = operate [o, i] (getItem o i)
def IxR (X : Cx) (r : R2) : Prop :=
  ∀ (value slice : Expr) (pins : List (Addr × Obj)) (s : Shared) (σ : St) (H : Hp) (x y : V) (v u : Value) (Q : VK), Inv X pins σ H s → RelV x v → RelV y u → r x y H Q →
    subscripted slice false v u = operate [v, u] (getItem v u) → wpAny (model X.prog X.w) X.A (subscriptTail value slice v u) (EP X pins σ Q) X.xe s
def MtR (X : Cx) (id : String) (r : V → List V → Hp → VK → Prop) : Prop :=
  ∀ (pins : List (Addr × Obj)) (s : Shared) (σ : St) (H : Hp) (x : V) (xs : List V) (v : Value) (us : List Value) (Q : VK), Inv X pins σ H s → RelV x v → Vals xs us → r x xs H Q →
    wpAny (model X.prog X.w) X.A (call (.builtin id) (v :: us)) (EP X pins σ Q) X.xe s
section
variable {X : Cx} {a b : Expr} {ta tb : TE} {pos : Pos}
theorem IxR.or {r r' : R2} (h : IxR X r) (h' : IxR X r') : IxR X (fun x y H Q => r x y H Q ∨ r' x y H Q) := by
  intro value slice pins s σ H x y v u Q I rx ry q hs
  rcases q with q | q
  · exact h value slice pins s σ H x y v u Q I rx ry q hs
  · exact h' value slice pins s σ H x y v u Q I rx ry q hs
theorem MtR.or {id : String} {r r' : V → List V → Hp → VK → Prop} (h : MtR X id r) (h' : MtR X id r') : MtR X id (fun x xs H Q => r x xs H Q ∨ r' x xs H Q) := by
  intro pins s σ H x xs v us Q I rx rs q
  rcases q with q | q
  · exact h pins s σ H x xs v us Q I rx rs q
  · exact h' pins s σ H x xs v us Q I rx rs q
theorem pe_ix {r : R2} (hr : IxR X r) (ha : PE X a ta) (hb : PE X b tb) (hs : PlainIx b) : PE X (.Subscript a b pos) (tOp r ta tb) := by
  intro pins s σ H Q I h
  exact Subscript_ (binT ha hb I h fun v u s2 x y H2 I2 rx ry q => hr a b pins s2 σ H2 x y v u Q I2 rx ry q (hs _ _))
def rIxL (K : PySem.W.Frag) : R2 := fun x y H Q => ∃ p xs i v, x = .ref p ∧ y = .int i ∧ SqL K H p xs ∧ atI xs i = some v ∧ Q v H
def rIxT (K : PySem.W.Frag) : R2 := fun x y H Q => ∃ p xs i v, x = .ref p ∧ y = .int i ∧ SqT K H p xs ∧ atI xs i = some v ∧ Q v H
theorem ix_list : IxR X (rIxL X.K) := by
  intro value slice pins s σ H x y v u Q I rx ry h hs
  obtain ⟨p, xs, i, z, rfl, rfl, hq, he, q⟩ := h
  cases rx
  obtain ⟨t, rfl⟩ := ry
  obtain ⟨its, r, pl, hz⟩ := I.list hq
  obtain ⟨j, h1, h2, h3, h4, h5⟩ := atI_get he
  obtain ⟨w, ew, rw'⟩ := r.get h2
  have hl := r.length
  have hn := line63
  have fin : EP X pins σ Q w s := ⟨z, H, I, rw', q⟩
  by_cases h0 : 0 ≤ i
  · have hj : i.toNat = j := by
      rw [seqIndex_of h0 h5] at h1
      exact Option.some.inj h1
    exact item_listR pl.isList h0 (by omega) (by rw [hj]; simpa using ew) fin hs
  · have hj : (i + (its.toArray.size : Int)).toNat = j := by
      rw [seqIndex_neg (by omega) h4] at h1
      rw [List.size_toArray, ← hl]
      exact Option.some.inj h1
    exact subscriptTail_builtinR (x := w) pl.isList.typeIs slot_list_getitem.lookup
      (wpAny_getItem_list_neg (Q := fun r s' => r = w ∧ EP X pins σ Q r s') pl.isList (by omega) (by rw [List.size_toArray] <;> omega) (by omega) (by rw [hj]; simpa using ew) ⟨rfl, fin⟩) hs
theorem ix_tup : IxR X (rIxT X.K) := by
  intro value slice pins s σ H x y v u Q I rx ry h hs
  obtain ⟨p, xs, i, z, rfl, rfl, hq, he, q⟩ := h
  cases rx
  obtain ⟨t, rfl⟩ := ry
  obtain ⟨its, r, pl, hz⟩ := I.tuple hq
  obtain ⟨j, h1, h2, h3, h4, h5⟩ := atI_get he
  obtain ⟨w, ew, rw'⟩ := r.get h2
  have hl := r.length
  have hn := line63
  have fin : EP X pins σ Q w s := ⟨z, H, I, rw', q⟩
  exact subscriptTail_builtinR (x := w) pl.typeIs slot_tuple_getitem.lookup
    (getItem_tuple (j := j) (Q := fun r s' => r = w ∧ EP X pins σ Q r s') pl (by omega) (by omega) (by rw [List.size_toArray, ← hl]; exact h1) (by simpa using ew) ⟨rfl, fin⟩) hs
theorem mapSeq_set (its : List Value) (n j : Nat) (u : Value) : Obj.mapSeq (·.setIfInBounds j u) { cls := .type "list", data := .seq its.toArray n } = { cls := .type "list", data := .seq (its.set j u).toArray n } := by
  simp [Obj.mapSeq]
theorem Inv.lst {pins : List (Addr × Obj)} {σ : St} {H : Hp} {s : Shared} {p : Addr} {xs : List V} (I : Inv X pins σ H s) (h : H p = some (.lst xs)) :
    ∃ (its : List Value) (n : Nat), Vals xs its ∧ s.heap.get? p = some { cls := .type "list", data := .seq its.toArray n } ∧ xs.length ≤ sizeLine := by
  obtain ⟨z, its, n, r, e⟩ := I.hok p _ h
  exact ⟨its, n, r, e, z⟩
theorem Inv.lstUpd {pins : List (Addr × Obj)} {σ : St} {H : Hp} {s : Shared} {p : Addr} {xs ys : List V} {its its' : List Value} {n n' : Nat} {f : Obj → Obj} (I : Inv X pins σ H s) (h : H p = some (.lst xs))
    (ho : s.heap.get? p = some { cls := .type "list", data := .seq its.toArray n }) (hf : f { cls := .type "list", data := .seq its.toArray n } = { cls := .type "list", data := .seq its'.toArray n' }) (r : Vals ys its') (hz : ys.length ≤ sizeLine) (t : Nat) :
    Inv X pins σ (upd H p (.lst ys)) { s with heap := s.heap.update p f, toks := t } := by
  have e : (s.heap.update p f).get? p = some { cls := .type "list", data := .seq its'.toArray n' } := by
    rw [Heap.get?_update_self f ho (by rw [hf] <;> rfl), hf]
  refine I.write (x := p) (e := p) (by rw [h]; trivial) (.inl rfl) (fun b u hb q => (Heap.get?_update_other _ _ (Ne.symm hb)).trans q) ⟨_, e⟩ ?_
  exact ⟨hz, its', n', r, e⟩
def rSetL : V → V → V → Hp → (Hp → Prop) → Prop := fun o i v H Q => ∃ p xs k j, o = .ref p ∧ i = .int k ∧ H p = some (.lst xs) ∧ ixN xs.length k = some j ∧ Q (upd H p (.lst (xs.set j v)))
theorem set_list : PSet X rSetL := by
  intro pins s σ H o i v ov iv u Q I ro ri rv h
  obtain ⟨p, xs, k, j, rfl, rfl, hp, hj, q⟩ := h
  cases ro
  obtain ⟨t, rfl⟩ := ri
  obtain ⟨its, n, r, ho, hz⟩ := I.lst hp
  obtain ⟨h1, h2, h3, h4⟩ := ixN_seq hj
  have hl := r.length
  have hn := line63
  have I' : Inv X pins σ (upd H p (.lst (xs.set j v))) { s with heap := s.heap.update p (Obj.mapSeq (·.setIfInBounds j u)) } :=
    I.lstUpd hp ho (mapSeq_set its n j u) (r.set rv j) (by rw [List.length_set]; exact hz) s.toks
  by_cases h0 : 0 ≤ k
  · have hk : k.toNat = j := by
      rw [seqIndex_of h0 h4] at h1
      exact Option.some.inj h1
    exact PySem.W.ki_setAt ho h0 (by omega) (by rw [List.size_toArray, ← hl]; exact h4) (by rw [hk]; exact ⟨_, I', q⟩)
  · have hk : (k + (its.toArray.size : Int)).toNat = j := by
      rw [seqIndex_neg (by omega) h3] at h1
      rw [List.size_toArray, ← hl]
      exact Option.some.inj h1
    exact PySem.W.ki_setBack ho (by omega) (by rw [List.size_toArray, ← hl]; exact h3) (by omega) (by rw [hk]; exact ⟨_, I', q⟩)
def flatV : V → Bool
  | .non => true
  | .bl _ => true
  | .int _ => true
  | .str _ => true
  | _ => false
def eqV : V → V → Bool
  | .non, .non => true
  | .bl a, .bl b => a == b
  | .bl a, .int b => (if a then 1 else 0) == b
  | .int a, .bl b => a == (if b then 1 else 0)
  | .int a, .int b => a == b
  | .str a, .str b => a == b
  | _, _ => false
theorem eqAt_V {A : Around} {s : Shared} {y x : V} {u v : Value} (ry : RelV y u) (rx : RelV x v) (fy : flatV y = true) (fx : flatV x = true) : SeqAt.EqAt A s u v (eqV y x) := by
  cases y with
  | non =>
    cases ry
    cases x with
    | non => cases rx; exact SeqAt.EqAt.same _
    | bl b => cases rx; exact SeqAt.EqAt.none_bool b
    | int b => obtain ⟨t, rfl⟩ := rx; exact SeqAt.EqAt.none_int b t
    | str b => obtain ⟨t, rfl⟩ := rx; exact SeqAt.EqAt.none_str b t
    | _ => exact absurd (show false = true from fx) Bool.false_ne_true
  | bl a =>
    cases ry
    cases x with
    | non => cases rx; exact SeqAt.EqAt.bool_none a
    | bl b => cases rx; exact SeqAt.EqAt.bool_bool a b
    | int b => obtain ⟨t, rfl⟩ := rx; exact SeqAt.EqAt.bool_int a b t
    | str b => obtain ⟨t, rfl⟩ := rx; exact SeqAt.EqAt.bool_str a b t
    | _ => exact absurd (show false = true from fx) Bool.false_ne_true
  | int a =>
    obtain ⟨t', rfl⟩ := ry
    cases x with
    | non => cases rx; exact SeqAt.EqAt.int_none a t'
    | bl b => cases rx; exact SeqAt.EqAt.int_bool a t' b
    | int b => obtain ⟨t, rfl⟩ := rx; exact SeqAt.EqAt.int_int a t' b t
    | str b => obtain ⟨t, rfl⟩ := rx; exact SeqAt.EqAt.int_str a t' b t
    | _ => exact absurd (show false = true from fx) Bool.false_ne_true
  | str a =>
    obtain ⟨t', rfl⟩ := ry
    cases x with
    | non => cases rx; exact SeqAt.EqAt.str_none a t'
    | bl b => cases rx; exact SeqAt.EqAt.str_bool a t' b
    | int b => obtain ⟨t, rfl⟩ := rx; exact SeqAt.EqAt.str_int a t' b t
    | str b => obtain ⟨t, rfl⟩ := rx; exact SeqAt.EqAt.str_str a t' b t
    | _ => exact absurd (show false = true from fx) Bool.false_ne_true
  | _ => exact absurd (show false = true from fy) Bool.false_ne_true
def eqU (x : V) (u : Value) : Bool := match u with
  | .none => eqV .non x
  | .bool b => eqV (.bl b) x
  | .int i _ => eqV (.int i) x
  | .str z _ => eqV (.str z) x
  | _ => false
theorem eqU_of {x y : V} {u : Value} (r : RelV y u) (f : flatV y = true) : eqU x u = eqV y x := by
  cases y with
  | non => cases r; rfl
  | bl b => cases r; rfl
  | int i => obtain ⟨t, rfl⟩ := r; rfl
  | str z => obtain ⟨t, rfl⟩ := r; rfl
  | _ => exact absurd (show false = true from f) Bool.false_ne_true
theorem any_eqU {x : V} : ∀ {xs : List V} {us : List Value}, Vals xs us → xs.all flatV = true → us.any (eqU x) = xs.any fun y => eqV y x
  | _, _, .nil, _ => rfl
  | y :: xs, u :: us, .cons r t, f => by
    rw [List.all_cons, Bool.and_eq_true] at f
    rw [List.any_cons, List.any_cons, eqU_of r f.1, any_eqU t f.2]
theorem mem_eqAt {A : Around} {s : Shared} {x : V} {v : Value} (rx : RelV x v) (fx : flatV x = true) : ∀ {xs : List V} {us : List Value}, Vals xs us → xs.all flatV = true → ∀ u ∈ us, SeqAt.EqAt A s u v (eqU x u)
  | _, _, .nil, _ => fun u hu => by cases hu
  | y :: xs, u :: us, .cons r t, f => fun u' hu => by
    rw [List.all_cons, Bool.and_eq_true] at f
    rcases List.mem_cons.mp hu with rfl | hu
    · rw [eqU_of r f.1]; exact eqAt_V r rx f.1 fx
    · exact mem_eqAt rx fx t f.2 u' hu
def inV (x : V) (xs : List V) : Bool := xs.any fun y => eqV y x
def rIn (K : PySem.W.Frag) (neg : Bool) : R2 := fun x y H Q => ∃ p xs, y = .ref p ∧ (SqL K H p xs ∨ SqT K H p xs) ∧ flatV x = true ∧ xs.all flatV = true ∧ Q (.bl (if neg then !inV x xs else inV x xs)) H
theorem op_in_seq : OpR X (compareOp .In) (rIn X.K false) := by
  intro pins s σ H x y v u Q I rx ry h
  obtain ⟨p, xs, rfl, hq, fx, fs, q⟩ := h
  cases ry
  rcases hq with hq | hq
  · obtain ⟨its, r, pl, hz⟩ := I.list hq
    refine SeqAt.in_listAt (eqU x) pl.isList (fun w hw => mem_eqAt rx fx r fs w (by simpa using hw)) ⟨.bl _, H, I, rfl, ?_⟩
    rw [show its.toArray.any (eqU x) = its.any (eqU x) by simp, any_eqU r fs]
    exact q
  · obtain ⟨its, r, pl, hz⟩ := I.tuple hq
    refine SeqAt.in_tupleAt (eqU x) pl (fun w hw => mem_eqAt rx fx r fs w (by simpa using hw)) ⟨.bl _, H, I, rfl, ?_⟩
    rw [show its.toArray.any (eqU x) = its.any (eqU x) by simp, any_eqU r fs]
    exact q
theorem op_notIn_seq : OpR X (compareOp .NotIn) (rIn X.K true) := by
  intro pins s σ H x y v u Q I rx ry h
  obtain ⟨p, xs, rfl, hq, fx, fs, q⟩ := h
  cases ry
  rcases hq with hq | hq
  · obtain ⟨its, r, pl, hz⟩ := I.list hq
    refine SeqAt.notIn_listAt (eqU x) pl.isList (fun w hw => mem_eqAt rx fx r fs w (by simpa using hw)) ⟨.bl _, H, I, rfl, ?_⟩
    rw [show its.toArray.any (eqU x) = its.any (eqU x) by simp, any_eqU r fs]
    exact q
  · obtain ⟨its, r, pl, hz⟩ := I.tuple hq
    refine SeqAt.notIn_tupleAt (eqU x) pl (fun w hw => mem_eqAt rx fx r fs w (by simpa using hw)) ⟨.bl _, H, I, rfl, ?_⟩
    rw [show its.toArray.any (eqU x) = its.any (eqU x) by simp, any_eqU r fs]
    exact q
theorem call_len_seq : CallR X (.builtin "len") (fun xs H Q => ∃ p ys, xs = [.ref p] ∧ (SqL X.K H p ys ∨ SqT X.K H p ys) ∧ Q (.int ys.length) H) := by
  intro pins s σ H xs us Q I r h
  obtain ⟨p, ys, rfl, hq, q⟩ := h
  obtain ⟨u, rfl, rx⟩ := vals1 r
  cases rx
  have hn := line63
  rcases hq with hq | hq
  · obtain ⟨its, r', pl, hz⟩ := I.list hq
    have hlen := r'.length
    exact Calls.call_len_list pl.isList (by simp only [List.size_toArray] <;> omega) ⟨.int ys.length, H, I.tok _, ⟨s.toks + 1, by rw [List.size_toArray, hlen]⟩, q⟩
  · obtain ⟨its, r', pl, hz⟩ := I.tuple hq
    have hlen := r'.length
    exact len_tuple pl (by simp only [List.size_toArray] <;> omega) ⟨.int ys.length, H, I.tok _, ⟨s.toks + 1, by rw [List.size_toArray, hlen]⟩, q⟩
theorem CallR.or {f : Value} {r r' : List V → Hp → VK → Prop} (h : CallR X f r) (h' : CallR X f r') : CallR X f (fun xs H Q => r xs H Q ∨ r' xs H Q) := by
  intro pins s σ H xs us Q I rs q
  rcases q with q | q
  · exact h pins s σ H xs us Q I rs q
  · exact h' pins s σ H xs us Q I rs q
theorem call_list_of : CallR X (.type "list") (fun xs H Q => ∃ p ys, xs = [.ref p] ∧ (SqL X.K H p ys ∨ SqT X.K H p ys) ∧ ∀ l, H l = none → Q (.ref l) (upd H l (.lst ys))) := by
  intro pins s σ H xs us Q I r h
  obtain ⟨p, ys, rfl, hq, q⟩ := h
  obtain ⟨u, rfl, rx⟩ := vals1 r
  cases rx
  have fin : ∀ (its : List Value), Vals ys its → ys.length ≤ sizeLine → ∀ (h' : Heap) (c' : Nat), (∀ b o', s.heap.get? b = some o' → h'.get? b = some o') →
      h'.get? s.heap.objs.size = some { cls := .type "list", dict := none, data := .seq its.toArray c', slots := #[] } → EP X pins σ Q (.ref s.heap.objs.size) { s with heap := h' } := fun its r' hz h' c' kp e =>
    ⟨.ref s.heap.objs.size, _, I.laid (t' := s.toks) kp (Nat.le_refl _) (show ObjOk X.prog X.w _ h' _ (.lst ys) from ⟨hz, its, c', r', e⟩), rfl, q _ (I.hok.fresh (Nat.le_refl _))⟩
  rcases hq with hq | hq
  · obtain ⟨its, r', pl, hz⟩ := I.list hq
    have hlen := r'.length
    obtain ⟨o, ho, hc, n, hd⟩ := pl.isList
    exact call_list_seq p (.inl rfl) ho hc hd (fun h' c' kp e => fin its r' hz h' c' kp e) (by simp only [List.size_toArray] <;> omega)
  · obtain ⟨its, r', pl, hz⟩ := I.tuple hq
    have hlen := r'.length
    obtain ⟨o, ho, hc, n, hd⟩ := pl
    exact call_list_seq p (.inr rfl) ho hc hd (fun h' c' kp e => fin its r' hz h' c' kp e) (by simp only [List.size_toArray] <;> omega)
theorem call_tuple_of : CallR X (.type "tuple") (fun xs H Q => ∃ p ys, xs = [.ref p] ∧ ((SqL X.K H p ys ∧ ∀ l, H l = none → Q (.ref l) (upd H l (.tup ys))) ∨ (SqT X.K H p ys ∧ Q (.ref p) H))) := by
  intro pins s σ H xs us Q I r h
  obtain ⟨p, ys, rfl, h⟩ := h
  obtain ⟨u, rfl, rx⟩ := vals1 r
  cases rx
  rcases h with ⟨hq, q⟩ | ⟨hq, q⟩
  · obtain ⟨its, r', pl, hz⟩ := I.list hq
    have hlen := r'.length
    refine call_tuple_list pl.isList (fun h' kp => ?_) (by simp only [List.size_toArray] <;> omega)
    have I1 : Inv X pins σ H { s with heap := h' } := I.kept (t' := s.toks) kp
    have I2 : Inv X pins σ (upd H h'.objs.size (.tup ys)) { s with heap := h'.push { cls := .type "tuple", data := .seq its.toArray } } :=
      I1.laid (t' := s.toks) (fun b o e => Heap.get?_push_of_some _ e) (Nat.le_refl _) (show ObjOk X.prog X.w _ _ _ (.tup ys) from ⟨hz, its, r', IsTup.new _ _⟩)
    exact ⟨.ref h'.objs.size, _, I2, rfl, q _ (I1.hok.fresh (Nat.le_refl _))⟩
  · obtain ⟨its, r', pl, hz⟩ := I.tuple hq
    exact call_tuple_same pl ⟨.ref p, H, I, rfl, q⟩
def tyV (K : PySem.W.Frag) (T : String) (x : V) (H : Hp) : Prop := match x with
  | .str _ => T = "str"
  | .int _ => T = "int"
  | .ref p => (T = "list" ∧ ∃ xs, SqL K H p xs) ∨ (T = "tuple" ∧ ∃ o, K.lookup p = some o ∧ o.cls = .type "tuple" ∧ o.dict = none) ∨
      (T = "dict" ∧ ((∃ kvs, H p = some (.dK kvs)) ∨ ∃ kvs, H p = some (.dT kvs))) ∨ (T = "set" ∧ ∃ S n, H p = some (.set S n))
  | _ => False
theorem tyV_is {pins : List (Addr × Obj)} {σ : St} {H : Hp} {s : Shared} {T : String} {x : V} {v : Value} (I : Inv X pins σ H s) (r : RelV x v) (ty : tyV X.K T x H) :
    s.TypeIs v T ∧ ∀ a, v = .ref a → ∃ ob, s.heap.get? a = some ob ∧ ob.dict = none := by
  cases x with
  | str z =>
    obtain ⟨t, rfl⟩ := r
    cases (show T = "str" from ty)
    exact ⟨typeIs_str s z t, fun _ e => nomatch e⟩
  | int i =>
    obtain ⟨t, rfl⟩ := r
    cases (show T = "int" from ty)
    exact ⟨typeIs_int s i t, fun _ e => nomatch e⟩
  | ref p =>
    cases r
    rcases ty with ⟨rfl, xs, hq⟩ | ⟨rfl, o, hk, hc, hd⟩ | ⟨rfl, hk⟩ | ⟨rfl, S, n, hk⟩
    · obtain ⟨its, _, pl, _⟩ := I.list hq
      refine ⟨pl.isList.typeIs, fun a e => ?_⟩
      cases e
      obtain ⟨o, n, e, c, hd, _⟩ := pl
      exact ⟨o, e, hd⟩
    · refine ⟨⟨o, I.kIn p o hk, hc⟩, fun a e => ?_⟩
      cases e
      exact ⟨o, I.kIn _ o hk, hd⟩
    · have z : ∃ o, s.heap.get? p = some o ∧ o.ExactDict := by
        rcases hk with ⟨kvs, hk⟩ | ⟨kvs, hk⟩
        · obtain ⟨_, _, _, _, o, _, _, e, ex, _⟩ := I.hok p _ hk
          exact ⟨o, e, ex⟩
        · obtain ⟨_, _, _, _, o, _, _, e, ex, _⟩ := I.hok p _ hk
          exact ⟨o, e, ex⟩
      obtain ⟨o, e, ex⟩ := z
      refine ⟨⟨o, e, ex.1⟩, fun a e2 => ?_⟩
      cases e2
      exact ⟨o, e, ex.2.1⟩
    · obtain ⟨o, _, _, _, e, ex, _⟩ := I.hok p _ hk
      refine ⟨⟨o, e, ex.1⟩, fun a e2 => ?_⟩
      cases e2
      exact ⟨o, e, ex.2.1⟩
  | _ => exact False.elim ty
def tBM0 (K : PySem.W.Frag) (T : String) (r : V → List V → Hp → VK → Prop) (to : TE) : TE := fun σ H Q => to σ H fun x H1 => tyV K T x H1 ∧ r x [] H1 Q
def tBM (K : PySem.W.Frag) (T : String) (r : V → List V → Hp → VK → Prop) (to : TE) (t : TA) : TE := fun σ H Q => to σ H fun x H1 => tyV K T x H1 ∧ t σ H1 fun xs H2 => r x xs H2 Q
variable {o e : Expr} {es : List Expr} {to : TE} {t : TA} {name : Str} {apos cpos : Pos} {T id : String} {r : V → List V → Hp → VK → Prop}
theorem pe_bm (pa : PlainAttrs T) (slot : Slot T name id) (hty : typeOf (.builtin id) = pure (.type "method_descriptor")) (hm : MtR X id r) (ho : PE X o to) (ha : PA X (e :: es) t)
    (hbase : attributeBase o name X.env (eval o X.env) = eval o X.env := by rfl)
    (hfew : ((backTo cpos (starEach (e :: es) X.env)).all (fun x => !x.1) && (backToKw cpos (keywordEach [] X.env)).all (fun x => x.1.isSome)
      && decide ((e :: es).length + ([] : List Keyword).length + (if ([] : List Keyword).isEmpty then 0 else 1) < 30)) = true := by rfl)
    (hline : (apos.endLine == cpos.line) = true := by rfl) (hs : starEach (e :: es) X.env = (false, eval e X.env) :: starEach es X.env := by rfl) (hplain : (backTo cpos (starEach es X.env)).any (·.1) = false := by rfl) :
    PE X (.Call (.Attribute o name apos) (e :: es) [] cpos) (tBM X.K T r to t) := by
  intro pins s σ H Q I h
  refine wpAny_Call_method_late hbase hfew hline rfl (thn (ho pins s σ H _ I h) fun v s1 ⟨x, H1, I1, r1, ty, q1⟩ => ?_)
  obtain ⟨h1, h2⟩ := tyV_is I1 r1 ty
  refine ⟨T, id, pa, slot, hty, h1, h2, ?_⟩
  have hA := ha cpos pins s1 σ H1 _ I1 q1
  rw [hs] at hA ⊢
  refine Calls.callWith_builtin (by show (false || (backTo cpos (starEach es X.env)).any (·.1)) = false; rw [hplain] <;> rfl) (Calls.evalArgs_plain ?_)
  exact thn hA fun us s2 ⟨vs, H2, I2, r2, q2⟩ => hm pins s2 σ H2 x vs v us Q I2 r1 r2 q2
end
end L2
namespace L2
open PySem PySem.Spec PyProof.Rows
def MtM (X : Cx) (id : String) (r : V → List V → Hp → VK → Prop) : Prop :=
  ∀ (pins : List (Addr × Obj)) (s : Shared) (σ : St) (H : Hp) (x : V) (xs : List V) (v : Value) (us : List Value) (Q : VK), Inv X pins σ H s → RelV x v → Vals xs us → r x xs H Q →
    wpAny (model X.prog X.w) X.A (call (.builtin id) (v :: us)) (EP X pins σ Q) X.xe s
theorem Vals.one : ∀ {x : V} {us : List Value}, Vals [x] us → ∃ u, us = [u] ∧ RelV x u
  | _, _, .cons r .nil => ⟨_, rfl, r⟩
theorem Vals.zero : ∀ {us : List Value}, Vals [] us → us = []
  | _, .nil => rfl
theorem Vals.eraseIdx : ∀ {xs : List V} {us : List Value} (i : Nat), Vals xs us → Vals (xs.eraseIdx i) (us.eraseIdx i)
  | _, _, _, .nil => .nil
  | _, _, 0, .cons _ t => t
  | _, _, i + 1, .cons r t => .cons r (Vals.eraseIdx i t)
theorem Vals.reverse {xs : List V} {us : List Value} (h : Vals xs us) : Vals xs.reverse us.reverse := by
  induction h with
  | nil => exact .nil
  | cons r t ih => rw [List.reverse_cons, List.reverse_cons]; exact Vals.append ih (.cons r .nil)
section
variable {X : Cx} {pins : List (Addr × Obj)} {σ : St} {H : Hp} {s : Shared} {l b : Addr} {xs ys zs : List V}
theorem Inv.lset {its its' : List Value} {n : Nat} {f : Array Value → Array Value} {t' : Nat} (I : Inv X pins σ H s) (hH : H l = some (.lst xs))
    (e : s.heap.get? l = some { cls := .type "list", data := .seq its.toArray n }) (hf : f its.toArray = its'.toArray) (hv : Vals ys its') (hz : ys.length ≤ sizeLine) :
    Inv X pins σ (upd H l (.lst ys)) { s with heap := s.heap.update l (Obj.mapSeq f), toks := t' } := by
  have q := PySem.IsL.update e f
  rw [hf] at q
  refine I.write (x := l) (e := l) (by rw [hH]; exact trivial) (.inl rfl) (fun b' u hb hu => (Heap.get?_update_other s.heap (Obj.mapSeq f) (Ne.symm hb)).trans hu) ⟨_, q⟩ ?_
  exact ⟨hz, its', _, hv, q⟩
theorem Inv.lnew {its : List Value} {t' : Nat} (I : Inv X pins σ H s) (hv : Vals ys its) (hz : ys.length ≤ sizeLine) :
    Inv X pins σ (upd H s.heap.objs.size (.lst ys)) { s with heap := s.heap.push { cls := .type "list", data := .seq its.toArray }, toks := t' } :=
  I.laid (fun _ _ q => Heap.get?_push_of_some _ q) (Nat.le_refl _) ⟨hz, its, 0, hv, Heap.get?_push_size _ rfl⟩
theorem Inv.fresh (I : Inv X pins σ H s) : H s.heap.objs.size = none := I.hok.fresh (Nat.le_refl _)
theorem Inv.lstM (I : Inv X pins σ H s) (hH : H l = some (.lst xs)) : xs.length ≤ sizeLine ∧ ∃ (its : List Value) (n : Nat), Vals xs its ∧ xs.length = its.length ∧ s.heap.get? l = some { cls := .type "list", data := .seq its.toArray n } := by
  obtain ⟨z, its, n, r, e⟩ := I.hok l _ hH
  exact ⟨z, its, n, r, r.length, e⟩
end
section
variable {X : Cx}
def rAppend : V → List V → Hp → VK → Prop := fun x vs H Q => ∃ l xs y, x = .ref l ∧ vs = [y] ∧ H l = some (.lst xs) ∧ xs.length < sizeLine ∧ Q .non (upd H l (.lst (xs ++ [y])))
theorem mt_append : MtM X "list.append" rAppend := by
  intro pins s σ H x vs v us Q I rx rv h
  obtain ⟨l, xs, y, rfl, rfl, hH, hz, q⟩ := h
  cases rx
  obtain ⟨u, rfl, ru⟩ := rv.one
  obtain ⟨z, its, n, r, hl, e⟩ := I.lstM hH
  refine call_meets F.slot_list_append ⟨_, e, rfl⟩ F.entry_list_append (F.args_list_append_2 _ _) (PySem.list_append l its.toArray n u (by rw [List.size_toArray]; omega)) ⟨e, ?_⟩
  refine ⟨.non, _, I.lset (its' := its ++ [u]) hH e (by simp) (r.append (.cons ru .nil)) ?_, rfl, q⟩
  rw [List.length_append, List.length_singleton]
  omega
def rExtend : V → List V → Hp → VK → Prop := fun x vs H Q => ∃ l b xs zs, x = .ref l ∧ vs = [.ref b] ∧ H l = some (.lst xs) ∧ H b = some (.lst zs) ∧ xs.length + zs.length ≤ sizeLine ∧ Q .non (upd H l (.lst (xs ++ zs)))
def rPopAt : V → List V → Hp → VK → Prop := fun x vs H Q => ∃ l xs i k y, x = .ref l ∧ vs = [.int i] ∧ H l = some (.lst xs) ∧ -(2 ^ 63) ≤ i ∧ i < 2 ^ 63 ∧ seqIndex? i xs.length = some k ∧ xs[k]? = some y ∧ Q y (upd H l (.lst (xs.eraseIdx k)))
def rCat : R2 := fun x y H Q => ∃ l b xs zs, x = .ref l ∧ y = .ref b ∧ H l = some (.lst xs) ∧ H b = some (.lst zs) ∧ xs.length + zs.length ≤ sizeLine ∧ ∀ p, H p = none → Q (.ref p) (upd H p (.lst (xs ++ zs)))
def rRep : R2 := fun x y H Q => ∃ l k xs, x = .ref l ∧ y = .int k ∧ H l = some (.lst xs) ∧ -(2 ^ 63) ≤ k ∧ k < 2 ^ 63 ∧ xs.length * k.toNat ≤ sizeLine ∧
  ∀ p, H p = none → Q (.ref p) (upd H p (.lst (List.replicate k.toNat xs).flatten))
end
section
variable {prog : Program} {w : World} {A : Around} {E : Value → Shared → Prop} {s : Shared}
end
section
variable {X : Cx}
end
end L2
namespace Att
open PySem PySem.W PySem.Calls PyProof.Rows
theorem ints_of_wellAll {P : Params} {h : Heap} : ∀ (ns : List Int) (vs : List Value), WellAll P h vs (ns.map WData.int) → IntsAre vs ns := by
  intro ns
  induction ns with
  | nil =>
    intro vs w
    rw [List.map_nil] at w
    cases w
    exact .nil
  | cons n ns ih =>
    intro vs w
    rw [List.map_cons] at w
    cases w with
    | cons a b =>
      cases a
      exact .cons _ _ (ih _ b)
theorem script_of {l : OpenLaw} {n : Nat} (hn : l.most = some n) {P : Params} {h : Heap} {args : List WData} {vals : List Value}
    (hpre : l.row.toRowW.claim.pre args = true) (hwl : WellAll P h vals args) :
    ∃ a vs ns, vals = [Value.ref a] ∧ args = [WData.list (ns.map WData.int)] ∧ h.get? a = some { cls := .type "list", data := .seq vs.toArray } ∧ IntsAre vs ns ∧ ns.length ≤ n := by
  have hsh : WShape.hasAll [] args [.list .int] = true := (pre_splitW hpre).1
  have hc : l.pre.holds [] { args := args } = true := (pre_splitW hpre).2
  obtain ⟨d, r, rfl, h1, h2⟩ := hasAllW_cons hsh
  obtain rfl := hasAllW_nil h2
  obtain ⟨xs, rfl, h3⟩ := hasW_list h1
  obtain ⟨ns, rfl⟩ := items_int h3
  have hlen : ns.length ≤ n := by
    unfold OpenLaw.pre at hc
    have h4 : (WTm.not (.lt (.lit (.int (n : Int))) (.len (.arg 0)))).holds [] { args := [.list (ns.map .int)] } = true := by
      have h4 := (holds_andW hc).1
      rw [hn] at h4
      exact h4
    have h5 := condW_of h4 (w_not (w_lt w_lit (w_len_list (w_arg rfl))))
    rw [List.length_map] at h5
    refine Nat.le_of_not_lt fun q => ?_
    have q' : (n : Int) < ((ns.length : Nat) : Int) := by omega
    first
      | (rw [decide_eq_true q'] at h5; exact absurd h5 (by decide))
      | (simp at h5; omega)
  cases hwl with
  | cons w1 w2 =>
    cases w2
    cases w1 with
    | list ho hall => exact ⟨_, _, ns, rfl, rfl, ho, ints_of_wellAll ns _ hall, hlen⟩
theorem post_true (l : OpenLaw) (args : List WData) : l.row.toRowW.claim.post args (.bool true) args = true :=
  postW_of (r := l.row.toRowW) (X := (true == true))
    (show WShape.has [] (.bool true) .bool = true by first | rfl | decide | simp [WShape.has, WShape.arms, WShape.armsAll])
    (show (WTm.eq .res (.lit (.bool true))).value [] { args := args, res := some (.bool true), after := args } = some (.bool (true == true)) from w_eq_bool (w_res rfl) w_lit) rfl
theorem attach_call {l : OpenLaw} {n : Nat} {q : Program} {loose : List Str} {XP : (Str → Option Value) → Heap → Prop} {YP : World → Heap → Prop} {d : DefRec}
    (hn : l.most = some n) (hdf : d.params.defaults = [])
    (call : ∀ (w : World) (s₀ s₁ : Shared) (mg mb : Str → Option Value) (fa : Addr) (o : Obj) (pm cd doc : Value) (a : Addr) (vs : List Value) (ns : List Int),
      Ground q loose [] XP w s₀ mg mb s₁.heap → YP w s₁.heap →
      s₁.heap.get? fa = some o → o.data = .func (docDef d.name d.params d.body d.scope pm cd doc) → s₁.heap.CodeRec cd d.name → mg d.name = some (.ref fa) →
      s₁.heap.get? a = some { cls := .type "list", data := .seq vs.toArray } → IntsAre vs ns → ns.length ≤ n → s₁.gens = #[] →
      codeAny (model l.prog w) callerA (.call (.ref fa) ⟨[.ref a], []⟩) (fun r s' => r = .ok (.ret (.bool true)) ∧ OldK s₁.heap s'.heap ∧ s'.os = s₁.os ∧ AllBare s'.gens) s₁) :
    WalkO q loose XP YP l.row.toRowW d [] (fun f vs => PySem.call f vs) := by
  intro w s₀ s₁ mg mb G Y fa o pm cd doc dV kV ho hd hcd hD hmg hg args vals as hpre hlay hrd hwl hlo
  obtain rfl : dV = .none := Dflts.none hD hdf
  obtain rfl : kV = .none := Dflts.noKw hD
  obtain ⟨a, vs, ns, rfl, rfl, hobj, hints, hlen⟩ := script_of hn hpre hwl
  refine enter_call (codeAny_mono (call w s₀ s₁ mg mb fa o pm cd doc a vs ns G Y ho (fd_plain hd) hcd hmg hobj hints hlen hg) fun r s' hq => ?_)
  obtain ⟨rfl, h2, h3, h4⟩ := hq
  exact ⟨.inl ⟨.bool true, .bool true, [], rfl, fun _ => rfl, .bool true, post_true l _, fun _ => ⟨List.Pairwise.nil, fun _ hm => (nomatch hm)⟩⟩, h2, h3, h4⟩
section
variable {prog : Program} {w : World} {A : Around} {E : Value → Shared → Prop} {s : Shared} {K : Frag}
end
end Att
namespace L2
open PySem PySem.Spec PyProof.Rows
theorem vals_ints : ∀ {vs : List Value} {ns : List Int}, IntsAre vs ns → Vals (ns.map V.int) vs
  | _, _, .nil => .nil
  | _, _, .cons n t h => .cons ⟨t, rfl⟩ (vals_ints h)
end L2
namespace L2
open PySem PySem.Spec PyProof.Rows
end L2
namespace L2
open PySem PySem.Spec PyProof.Rows
def defArgs (s : Stmt) : Arguments := match s with
  | .FunctionDef _ a _ _ _ _ _ _ _ _ => a
  | _ => { posonlyargs := [], args := [], vararg := none, kwonlyargs := [], kw_defaults := [], kwarg := none, defaults := [] }
def defBody (s : Stmt) : List Stmt := match s with
  | .FunctionDef _ _ b _ _ _ _ _ _ _ => b
  | _ => []
def defScope (s : Stmt) : Scope := match s with
  | .FunctionDef _ _ _ _ _ _ sc _ _ _ => sc
  | _ => { kind := .function, names := [], isGenerator := false, isCoroutine := false }
abbrev CX0 : CXT := fun _ _ _ _ _ _ => False
abbrev E0 : XK := fun _ _ _ => False
theorem pass0 {X : Cx} : Passes CX0 X E0 := fun _ _ _ _ _ _ _ h => h.elim
structure Fun (K : PySem.W.Frag) (x qual : Str) (st : Stmt) (f : Addr) (fd : FuncData) : Prop where
  ex : ∃ (oc : Value) (od : Option Addr) (kV doc pm : Value) (an : Option Addr) (cdv ct : Value) (osl : Array (Option Value)),
    fd = PySem.W.fnOf x qual (defArgs st) (defBody st) (defScope st) .none kV doc pm an cdv ct ∧ K.lookup f = some ⟨oc, od, .func fd, osl⟩ ∧ PySem.W.codeIn K cdv qual = true
  kp : PySem.W.keepIn K (.ref f) = true
section
variable {P : Program} {w : World} {K : PySem.W.Frag} {mg : Str → Option Value} {base : Heap}
theorem Fun.ok {x qual : Str} {st : Stmt} {f : Addr} {fd : FuncData} {N ps : List Str} {k : Nat} {sp : Sp} (F : Fun K x qual st f fd) (S : FnScope N ps (defScope st)) (len : ∀ vs H Q E, sp vs H Q E → vs.length = ps.length)
    (hbody : ∀ (cdv : Value) (A : Around) (outer : List Env) (s : Shared) (H : Hp) (vs : List V) (Q : VK) (E : XK), Room k (A.deeper (envOfC qual (defScope st) s.heap.objs.size f cdv)) → sp vs H Q E →
      ∃ t, PSs (cxOf CX0 P w K mg base N qual (defScope st) f cdv A outer s H E).nox (defBody st) t ∧ t { nx := fun _ H' => Q .non H', rt := Q } (start N vs) H) : FnOk P w K mg base CX0 (k + 1) f fd ps sp := by
  obtain ⟨oc, od, kV, doc, pm, an, cdv, ct, osl, rfl, lk, hcd⟩ := F.ex
  refine fn_of lk hcd S len fun A outer s H vs Q E hr hsp => ?_
  obtain ⟨t, h, q⟩ := hbody cdv A outer s H vs Q E hr hsp
  exact ⟨t, h.nox, q⟩
theorem Fun.binds {x qual : Str} {st : Stmt} {f : Addr} {fd : FuncData} {ps : List Str} (F : Fun K x qual st f fd)
    (h : ∀ (kV doc pm : Value) (an : Option Addr) (cdv ct : Value) (us : List Value), us.length = ps.length → bindArgs (PySem.W.fnOf x qual (defArgs st) (defBody st) (defScope st) .none kV doc pm an cdv ct) ⟨us, []⟩ = pure (ps.zip us)) : Binds K fd ps [] := by
  obtain ⟨oc, od, kV, doc, pm, an, cdv, ct, osl, rfl, lk, hcd⟩ := F.ex
  exact .all (h kV doc pm an cdv ct)
theorem fun_mk {x qual : Str} {st : Stmt} {f : Addr} {oc : Value} {od an : Option Addr} {osl : Array (Option Value)} {kV doc pm cdv ct : Value} (l : K.lookup f = some ⟨oc, od, .func (PySem.W.fnOf x qual (defArgs st) (defBody st) (defScope st) .none kV doc pm an cdv ct), osl⟩)
    (c : PySem.W.codeIn K cdv qual = true) (k : PySem.W.keepIn K (.ref f) = true) : Fun K x qual st f (PySem.W.fnOf x qual (defArgs st) (defBody st) (defScope st) .none kV doc pm an cdv ct) := ⟨⟨oc, od, kV, doc, pm, an, cdv, ct, osl, rfl, l, c⟩, k⟩
end
theorem small1000 {n : Nat} (h : n ≤ 1000) : n < sizeLine := Nat.lt_of_le_of_lt h (by decide)
section
variable {X : Cx}
theorem pv (i : Nat) {x : Str} {pos : Pos} (hN : X.N[i]? = some x := by rfl) (hv : Vis X.env.scope x := by first | exact Or.inl rfl | exact Or.inr (Or.inl rfl) | exact Or.inr (Or.inr rfl)) (hd : (x == ("__debug__" : Str)) = false := by decide)
    (hcd : (x == ("__classdict__" : Str)) = false := by decide) : PE X (.Name x pos) (tVar i) := pe_var hN hv hd hcd
end
def Same (H H' : Hp) : Prop := ∀ b o, H b = some o → H' b = some o
theorem Same.refl (H : Hp) : Same H H := fun _ _ h => h
theorem Same.trans {H H1 H2 : Hp} (a : Same H H1) (b : Same H1 H2) : Same H H2 := fun c o h => b c o (a c o h)
theorem Same.free {H H' : Hp} (e : Same H H') {l : Addr} (h : H' l = Option.none) : H l = Option.none := by
  cases q : H l with
  | none => rfl
  | some o =>
    rw [e l o q] at h
    cases h
theorem Same.seq {K : PySem.W.Frag} {H H' : Hp} {a : Addr} {xs : List V} (e : Same H H') (h : SqL K H a xs) : SqL K H' a xs := by
  rcases h with (h | ⟨o, h⟩) | h
  · exact .inl (.inl (e _ _ h))
  · exact .inl (.inr ⟨o, e _ _ h⟩)
  · exact .inr h
end L2
set_option maxHeartbeats 4000000
namespace L2
open PySem PySem.Spec PyProof.Rows
section
variable {prog : Program} {w : World} {A : Around} {R : Result → Shared → Prop} {s : Shared}
theorem compLoop_any {elt target iter : Expr} {scope : Scope} {pos : Pos} {it acc : Value} {env : Env} (I : Nat → Shared → Prop)
    (turn : ∀ n s, I n s → wpAny (model prog w) A (pyNext it) (fun r s₁ => match r with
      | none => R (.ok .next) s₁
      | some v => wpAny (model prog w) A (letOwnedTupleGo target it v) (fun _ s₀ => wpAny (model prog w) A (assign target env v) (fun _ s₂ => wpAny (model prog w) A (eval elt env) (fun x s₃ =>
          wpAny (model prog w) A (call (.builtin "list.append") [acc, x]) (fun _ s₄ => ∃ m, m < n ∧ I m s₄) (fun _ _ => False) s₃)
          (fun _ _ => False) s₂) (fun _ _ => False) s₀) (fun _ _ => False) s₁) (fun _ _ => False) s)
    (n : Nat) (h : I n s) :
    codeAny (model prog w) A (.compLoop (.ListComp elt [⟨target, iter, [], 0⟩] scope pos) 0 it acc env) R s := by
  refine codeAny_loop rfl I (fun n s hI => ?_) n h
  show wpAny _ _ ((compTurn (.ListComp elt [⟨target, iter, [], 0⟩] scope pos) 0 it acc env).onRaise (fun x => do noteFrame x env; theTreesLotGoes x)) _ _ s
  refine wpAny_noted ?_
  rw [compTurn_list1]
  refine wpAny_bind (wpAny_standAt (wpAny_bind (wpAny_mono (turn n s hI) (fun r s₁ h₁ => ?_) fun _ _ h' => h'.elim)))
  cases r with
  | none => exact wpAny_pure h₁
  | some v =>
    refine wpAny_bind (wpAny_mono h₁ (fun _ s₀ h₀ => ?_) fun _ _ h' => h'.elim)
    exact wpAny_bind (wpAny_mono h₀ (fun _ s₂ h₂ => wpAny_bind (wpAny_bind (wpAny_mono h₂ (fun x s₃ h₃ => wpAny_bind (wpAny_mono h₃
      (fun _ s₄ h₄ => wpAny_pure (wpAny_pure ⟨rfl, h₄⟩)) fun _ _ h' => h'.elim)) fun _ _ h' => h'.elim))) fun _ _ h' => h'.elim)
end
def cxComp (X : Cx) (N : List Str) (scope : Scope) (cl : List (Str × Addr)) (C : Addr) (ex : List Addr) (s : Shared) (H : Hp) : Cx where
  prog := X.prog
  w := X.w
  K := X.K
  mg := X.mg
  base := X.base
  A := X.A
  N := N
  s₀ := s
  H₀ := H
  env := compEnvC scope cl C X.env
  outer := X.stack
  stack := X.stack
  ex := ex
  fn := fun _ => false
  calm := X.calm
  pn := X.pn
  xe := fun _ _ => False
def compSt (k : Nat) (js : List Nat) (σ : St) : St := List.replicate k none ++ js.map fun j => (σ[j]?).join
def tComp (wi : TI) (k : Nat) (js : List Nat) (g : TG) (te : TE) : TE := fun σ H Q => wi σ H fun J H1 =>
  ∃ W : Nat → Nat → List V → St → Hp → Prop, (∃ m, W 0 m [] (compSt k js σ) H1) ∧ ∀ i m ys σ' H', W i m ys σ' H' →
    (J.stop i H' ∧ ∀ p, H' p = none → Q (.ref p) (upd H' p (.lst ys))) ∨
    (J.go i H' ∧ ys.length < sizeLine ∧ ∃ N : List V → St → Hp → Prop, (∀ zs σ2 H2, N zs σ2 H2 → ∃ m', m' < m ∧ W (i + 1) m' zs σ2 H2) ∧
      ∀ x H2, J.yld i H' x H2 → g x σ' H2 fun σ3 H3 => te σ3 H3 fun v H4 => N (ys ++ [v]) σ3 H4)
structure Cap (X : Cx) (scope : Scope) (cl : List (Str × Addr)) (x : Str) (j : Nat) : Prop where
  at_ : X.N[j]? = some x
  out : X.env.scope.names.lookup x = some .cell ∨ X.env.scope.names.lookup x = some .free
  inn : (relabel scope X.env).names.lookup x = some .cell ∨ (relabel scope X.env).names.lookup x = some .free
theorem join_some {σ : St} {j : Nat} {v : V} (h : (σ[j]?).join = some v) : σ[j]? = some (some v) := by
  cases e : σ[j]? with
  | none => rw [e] at h; cases h
  | some o =>
    rw [e] at h
    cases o with
    | none => cases h
    | some u => cases h; rfl
theorem comp_core {X : Cx} {elt tg iter : Expr} {scope : Scope} {cl : List (Str × Addr)} {pos : Pos} {own fv : List Str} {js : List Nat} {wi : TI} {g : TG} {te : TE}
    (hc : X.calm = true) (hi : PI X tg iter wi) (hclos : closureFor scope X.env = pure cl) (hcell : ∀ y ∈ scope.names, y.2 ≠ .cell) (hkind : scope.kind = .function)
    (hnames : ∀ y ∈ scope.names, y.2 = .local → scope.names.lookup y.1 = some .local)
    (hcl : ∀ x c, cl.lookup x = some c → X.env.cells.lookup x = some c)
    (hhas : ∀ x, ((relabel scope X.env).names.lookup x = some .cell ∨ (relabel scope X.env).names.lookup x = some .free) → ∃ c, cl.lookup x = some c)
    (hlen : js.length = fv.length) (hcap : ∀ (i : Nat) x j, fv[i]? = some x → js[i]? = some j → Cap X scope cl x j)
    (hg : ∀ (C : Addr) (ex : List Addr) (s : Shared) (H : Hp), PG (cxComp X (own ++ fv) scope cl C ex s H) tg g)
    (he : ∀ (C : Addr) (ex : List Addr) (s : Shared) (H : Hp), PE (cxComp X (own ++ fv) scope cl C ex s H) elt te)
    (hs : ∀ x, foldedSetIterable iter X.env x = pure x)
    {pins : List (Addr × Obj)} {s : Shared} {σ : St} {H : Hp} {Q : VK} {use : Option (Value → Sem Unit)} {QQ : Value → Shared → Prop} {fpos : Pos} (I : Inv X pins σ H s) (h : tComp wi own.length js g te σ H Q)
    (fin : ∀ (a C : Addr) (s5 : Shared) (H5 : Hp) (fl : Flow), Inv X pins σ H5 s5 → H5 C = none → C ≠ X.env.locals → X.s₀.heap.objs.size ≤ C → (∀ x c, X.env.cells.lookup x = some c → c ≠ C) → (∀ p ∈ X.pn ++ pins, p.1 ≠ C) → (∃ m, s5.heap.Ns C m) → Q (.ref a) H5 → compPost (model X.prog X.w) X.A X.xe use QQ (.ref a) C (.ok fl) s5) :
    wpAny (model X.prog X.w) X.A (comprehension (.ListComp elt [⟨tg, iter, [], 0⟩] scope pos) scope X.env fpos (newList []) false (firstIter [⟨tg, iter, [], 0⟩] X.env) use) QQ X.xe s := by
  refine wpAny_comprehension_free (use := use) rfl hs hclos hkind hnames (thn (hi pins s σ H _ I h) fun v s1 h1 => thn h1 fun itv s2 h2 => ?_)
  obtain ⟨it, fp, tn, J, H2, e, I2, T, st2, f2, W, ⟨m0, w0⟩, turn⟩ := h2
  subst e
  refine wpAny_newObj_type (wpAny_newFunctionEnv hcell (by intro y hy; simp at hy) (fun h₁ hns₁ hsb₁ => ?_) hkind)
  dsimp only at hns₁ hsb₁ ⊢
  generalize hHp : s2.heap.push { cls := .type "list", dict := none, data := .seq ([] : List Value).toArray } = hL at hns₁ hsb₁ ⊢
  have hC : hL.objs.size = s2.heap.objs.size + 1 := by rw [← hHp, Heap.size_push]
  have hDC : s2.heap.objs.size ≠ hL.objs.size := by rw [hC]; exact Nat.ne_of_lt (Nat.lt_succ_self _)
  have ltC : ∀ b, b < s2.heap.objs.size → b ≠ hL.objs.size := fun b hb => by rw [hC]; exact Nat.ne_of_lt (Nat.lt_succ_of_lt hb)
  have old : ∀ b o, s2.heap.get? b = some o → h₁.get? b = some o := fun b o e => hsb₁.extBut b o (ltC b (Heap.lt_size e)) (Heap.get?_push_of_some _ (hHp ▸ Heap.get?_push_of_some _ e))
  have hacc : h₁.get? s2.heap.objs.size = some { cls := .type "list", data := .seq ([] : List Value).toArray 0 } := hsb₁.extBut _ _ hDC (Heap.get?_push_of_some _ (hHp ▸ Heap.get?_push_size _ rfl))
  have hfresh : ∀ a, s2.heap.objs.size ≤ a → H2 a = none := fun a ha => I2.hok.fresh ha
  have fpL : ∀ b ∈ fp, b < s2.heap.objs.size := fun b hb => by
    obtain ⟨o, e, _⟩ := T.obj _ _ st2 b hb
    exact Heap.lt_size e
  have cellL : ∀ x c, cl.lookup x = some c → c < s2.heap.objs.size := fun x c e => by
    obtain ⟨v, q⟩ := I2.cell x c (hcl x c e)
    exact q.lt
  have pinL : ∀ p ∈ X.pn ++ pins, p.1 < s2.heap.objs.size := fun p hp => Heap.lt_size (I2.pin p hp).1
  generalize hX : cxComp X (own ++ fv) scope cl hL.objs.size fp s2 H2 = Y
  have ok : Y.Ok := by
    subst hX
    refine ⟨I2.ok.mod, hkind, I2.ok.glob, I2.ok.blt, by show s2.heap.objs.size ≤ hL.objs.size; omega, fun x y c h1 h2 => I2.ok.inj x y c (hcl x c h1) (hcl y c h2), fun x hx => hhas x hx,
      fun x c hf => absurd hf (by show ¬ (false = true); decide), I2.ok.hd, I2.ok.frames, .inl rfl, fun b hb => ⟨ltC b (fpL b hb), fun x c e => (f2 b hb).2.2.2.2.1 x c (hcl x c e)⟩, I2.bs, Nat.le_trans I2.ok.bsz I2.sz, fun b o e hb => ?_, fun b hb hz => ?_, I2.stack, I2.stkFree⟩
    · rcases (f2 b hb).2.2.2.1 with z | z
      · exact I2.ok.noex b o e z
      · exact absurd (Nat.lt_of_lt_of_le (Heap.lt_size e) (Nat.le_trans I2.ok.bsz z)) (Nat.lt_irrefl _)
    · rcases List.mem_cons.mp (I2.stkSub b hz) with z | z
      · exact (f2 b hb).2.1 z
      · exact (f2 b hb).2.2.1 z
  have hYl : Y.env.locals = hL.objs.size := by subst hX; rfl
  have hYs : Y.s₀ = s2 := by subst hX; rfl
  have hYH : Y.H₀ = H2 := by subst hX; rfl
  have hYx : Y.ex = fp := by subst hX; rfl
  have hYf : Y.fs = frs X.stack := by subst hX; rfl
  have hYc : Y.env.cells = cl := by subst hX; rfl
  have hYp : Y.pn = X.pn := by subst hX; rfl
  have pinOk : ∀ p ∈ X.pn ++ pins, s2.heap.get? p.1 = some p.2 ∧ H2 p.1 = none ∧ p.1 ≠ hL.objs.size ∧ p.1 ∉ frs X.stack ∧ ∀ v, p.2.data ≠ .cell v := fun p hp => by
    obtain ⟨e, n, ne, nf, d⟩ := I2.pin p hp
    refine ⟨e, n, ltC _ (Heap.lt_size e), fun z => ?_, d⟩
    rcases List.mem_cons.mp (I2.stkSub _ z) with q | q
    · exact ne q
    · exact nf q
  have stkL : ∀ b ∈ frs X.stack, b < s2.heap.objs.size := fun b hb => by
    obtain ⟨_, o, ho, _⟩ := I2.stack.mem hb
    exact Heap.lt_size ho
  have I3 : Inv Y (pins ++ [(s2.heap.objs.size, { cls := .type "list", data := .seq ([] : List Value).toArray 0 })]) (compSt own.length js σ) H2 { s2 with heap := h₁, toks := s2.toks + ([] : List (Str × Value)).length } := by
    refine ⟨ok, by subst hX; rfl, I2.bare, by rw [hYH, hYs]; exact Un.kept old, ⟨_, by rw [hYl]; exact hns₁, fun i x v e1 e2 e3 => ?_⟩, fun x c e => ?_, by rw [hYl]; exact hfresh _ (by omega), fun x c e => ?_, fun p hp => ?_, by subst hX; exact I2.hok.kept old, ?_⟩
    · subst hX
      have e1 : (own ++ fv)[i]? = some x := e1
      unfold compSt at e2
      by_cases hi : i < own.length
      · rw [List.getElem?_append_left (by simpa using hi), List.getElem?_replicate] at e2
        split at e2 <;> cases e2
      · rw [List.getElem?_append_right (by simpa using hi), List.length_replicate, List.getElem?_map] at e2
        rw [List.getElem?_append_right (by omega)] at e1
        cases ej : js[i - own.length]? with
        | none => rw [ej] at e2; cases e2
        | some j =>
          rw [ej] at e2
          have cp := hcap _ x j e1 ej
          have e2' : σ[j]? = some (some v) := join_some (Option.some.inj e2)
          obtain ⟨m, hn, hl⟩ := I2.loc
          obtain ⟨u, r, l⟩ := hl j x v cp.at_ e2' (cp.out.elim (fun z => .inr (.inl z)) fun z => .inr (.inr z))
          refine ⟨u, r, .inr ⟨cp.inn, ?_⟩⟩
          obtain ⟨c, ec⟩ := hhas x cp.inn
          rcases l with ⟨k, _⟩ | ⟨_, c', ec', z⟩
          · have k : X.env.scope.names.lookup x = some .local := k
            rcases cp.out with q | q <;> rw [q] at k <;> cases k
          · rw [hcl x c ec] at ec'
            cases ec'
            obtain ⟨o, ho, hd⟩ := z
            exact ⟨c, ec, o, old _ _ ho, hd⟩
    · rw [hYc] at e
      obtain ⟨v, o, ho, hd⟩ := I2.cell x c (hcl x c e)
      exact ⟨v, o, old _ _ ho, hd⟩
    · rw [hYc] at e
      exact I2.freeC x c (hcl x c e)
    · rw [hYp] at hp
      rw [hYl, hYf]
      rcases List.mem_append.mp hp with z | z
      · obtain ⟨a, b, c, d, f⟩ := pinOk p (List.mem_append_left _ z)
        exact ⟨old _ _ a, b, c, d, f⟩
      · rcases List.mem_append.mp z with z | z
        · obtain ⟨a, b, c, d, f⟩ := pinOk p (List.mem_append_right _ z)
          exact ⟨old _ _ a, b, c, d, f⟩
        · have e : p = _ := List.mem_singleton.mp z
          subst e
          exact ⟨hacc, hfresh _ (Nat.le_refl _), hDC, fun z => absurd (stkL _ z) (Nat.lt_irrefl _), fun v z => by cases z⟩
    · subst hX
      unfold compSt
      show _ = (own ++ fv).length
      simp [hlen]
  have hYprog : Y.prog = X.prog := by subst hX; rfl
  have hYw : Y.w = X.w := by subst hX; rfl
  have hYK : Y.K = X.K := by subst hX; rfl
  have hYA : Y.A = X.A := by subst hX; rfl
  have hYcalm : Y.calm = true := by subst hX; exact hc
  have hYxe : Y.xe = fun _ _ => False := by subst hX; rfl
  have hYenv : Y.env = compEnvC scope cl hL.objs.size X.env := by subst hX; rfl
  have hg' := hg hL.objs.size fp s2 H2
  have he' := he hL.objs.size fp s2 H2
  rw [hX] at hg' he'
  have fpOk : ∀ {H' : Hp} {pn : List (Addr × Obj)}, (∀ b ∈ fp, H' b = none) → (∀ p ∈ pn, p.1 = s2.heap.objs.size ∨ p ∈ pins) → ∀ b ∈ fp, FpOk Y pn H' b := fun hn hp b hb => by
    refine ⟨hn b hb, by rw [hYl]; exact ltC b (fpL b hb), ?_, .inl (by rw [hYx]; exact hb), fun x c e => ?_, fun p hq => ?_⟩
    · rw [hYf]
      intro hz
      rcases List.mem_cons.mp (I2.stkSub b hz) with z | z
      · exact (f2 b hb).2.1 z
      · exact (f2 b hb).2.2.1 z
    · rw [hYc] at e
      exact (f2 b hb).2.2.2.2.1 x c (hcl x c e)
    · rw [hYp] at hq
      rcases List.mem_append.mp hq with z | z
      · exact (f2 b hb).2.2.2.2.2 p (List.mem_append_left _ z)
      · rcases hp p z with q | q
        · rw [q]; exact Ne.symm (Nat.ne_of_lt (fpL b hb))
        · exact (f2 b hb).2.2.2.2.2 p (List.mem_append_right _ q)
  have loop : ∀ s₃ : Shared, s₃ = { s2 with heap := h₁, toks := s2.toks + ([] : List (Str × Value)).length } →
      codeAny (model X.prog X.w) X.A (.compLoop (.ListComp elt [⟨tg, iter, [], 0⟩] scope pos) 0 (.ref it) (.ref s2.heap.objs.size) (compEnvC scope cl hL.objs.size X.env))
        (compPost (model X.prog X.w) X.A X.xe use QQ (.ref s2.heap.objs.size) hL.objs.size) s₃ := by
    rintro s₃ rfl
    refine compLoop_any (fun n s' => ∃ i ys its k σ' H', Inv Y (pins ++ [(s2.heap.objs.size, { cls := .type "list", data := .seq (its : List Value).toArray k })]) σ' H' s' ∧ tn i s'.heap ∧ (∀ b ∈ fp, H' b = none) ∧ Vals ys its ∧ ys.length ≤ sizeLine ∧ W i n ys σ' H') ?_ m0
      ⟨0, [], [], 0, _, H2, I3, T.keep _ _ _ st2 fun b _ o e => old b o e, fun b hb => (f2 b hb).1, .nil, Nat.zero_le _, w0⟩
    rintro n s4 ⟨i, ys, its, k, σ4, H4, I4, st4, fr4, rv, hz, w4⟩
    have pinD : ∀ p ∈ (pins ++ [(s2.heap.objs.size, ({ cls := .type "list", data := .seq (its : List Value).toArray k } : Obj))]), p.1 = s2.heap.objs.size ∨ p ∈ pins := fun p hp => by
      rcases List.mem_append.mp hp with z | z
      · exact .inr z
      · rw [List.mem_singleton.mp z]; exact .inl rfl
    have F4 := fpOk (pn := pins ++ [(s2.heap.objs.size, { cls := .type "list", data := .seq (its : List Value).toArray k })]) fr4 pinD
    rcases turn i n ys σ4 H4 w4 with ⟨stop, qn⟩ | ⟨go, hlt, N, hN, step⟩
    · have d := T.done Y hYprog hYw hYK hYcalm i _ s4 σ4 H4 (fun _ _ => False) I4 F4 st4 stop
      rw [hYA] at d
      refine thn d fun r s5 ⟨hr, I5⟩ => ?_
      subst hr
      obtain ⟨m, hn, _⟩ := id I5.loc
      rw [hYl] at hn
      have hD := I5.pin (s2.heap.objs.size, { cls := .type "list", data := .seq (its : List Value).toArray k }) (List.mem_append_right _ (List.mem_append_right _ (List.mem_singleton.mpr rfl)))
      have hDn : H4 s2.heap.objs.size = none := hD.2.1
      have kp : ∀ b o, b ≠ hL.objs.size → s5.heap.get? b = some o → s5.heap.get? b = some o := fun b o _ e => e
      have B := I5.base
      rw [hYH, hYs, hYx, hYf] at B
      have s2C : ∀ b o, s2.heap.get? b = some o → b ≠ hL.objs.size := fun b o e => ltC b (Heap.lt_size e)
      have trk : ∀ b u, H4 b = some u → b ≠ s2.heap.objs.size := fun b u e z => by rw [z, hDn] at e; cases e
      have trC : ∀ b u, H4 b = some u → b ≠ hL.objs.size := fun b u e z => by
        have := I5.free
        rw [hYl, ← z, e] at this; cases this
      have hH2 : ∀ b u, H2 b = some u → b ≠ s2.heap.objs.size := fun b u e z => by rw [z, hfresh _ (Nat.le_refl _)] at e; cases e
      have IX : Inv X pins σ (upd H4 s2.heap.objs.size (.lst ys)) s5 := by
       refine I2.call' (ch := fp) (by show s5.os = s2.os; rw [I5.os, hYs]) ⟨fun b o e n hb hx => kp b o (s2C b o e) (B.keep b o e n hb hx), fun b o e n hb hx => ?_, fun b o e n hx => ?_, fun b o e hx => ?_, fun b xs e => ?_, fun b o u e => ?_, fun b ps e => ?_⟩ ?_ I5.bare (fun b hb => ⟨(f2 b hb).2.2.2.1, (f2 b hb).2.1, (f2 b hb).2.2.2.2.1, (f2 b hb).2.2.2.2.2⟩)
       · obtain ⟨sl, q⟩ := B.slot b o e n hb hx
         exact ⟨sl, kp b _ (s2C b o e) q⟩
       · rw [upd_ne (Nat.ne_of_lt (Heap.lt_size e))]
         exact B.free b o e n hx
       · obtain ⟨o', q⟩ := B.there b o e hx
         exact ⟨o', kp b o' (s2C b o e) q⟩
       · rw [upd_ne (hH2 b _ e)]
         exact B.tups b xs e
       · rw [upd_ne (hH2 b _ e)]
         exact B.frzs b o u e
       · obtain ⟨more, q⟩ := B.tbls b ps e
         exact ⟨more, by rw [upd_ne (hH2 b _ e)]; exact q⟩
       · intro b u e
         by_cases hb : b = s2.heap.objs.size
         · subst hb
           rw [upd_same] at e
           cases e
           exact ⟨hz, its, k, rv, kp _ _ hDC hD.1⟩
         · rw [upd_ne hb] at e
           have okb := I5.hok b u e
           rw [hYprog, hYw] at okb
           refine okb.stay (fun c v hc q => kp c v ?_ q) (fun c q => by rw [upd_ne (trk c _ q)]; exact q) fun c xs q => by rw [upd_ne (trk c _ q)]; exact q
           rcases hc with z | z
           · rw [z]; exact trC b u e
           · exact trC c _ z
      have zC : upd H4 s2.heap.objs.size (.lst ys) hL.objs.size = none := by
        rw [upd_ne (Ne.symm hDC)]
        have := I5.free
        rwa [hYl] at this
      exact fin s2.heap.objs.size hL.objs.size s5 _ _ IX zC (Ne.symm (ltC _ I2.lt)) (by have := I2.sz; omega) (fun x c e => ltC c (by obtain ⟨v, q⟩ := I2.cell x c e; exact q.lt)) (fun p hp => ltC _ (pinL p hp)) ⟨m, hn⟩ (qn _ hDn)
    · have d := T.item Y hYprog hYw hYK hYcalm i _ s4 σ4 H4 (fun _ _ => False) I4 F4 st4 go
      rw [hYA] at d
      refine thn d fun r s5 ⟨u, hr, h5⟩ => ?_
      subst hr
      refine thn h5 fun _ s6 ⟨x, H6, I6, r6, y6, st6, fr6⟩ => ?_
      have I6' := I6.pinned (fpOk (pn := pins ++ [(s2.heap.objs.size, { cls := .type "list", data := .seq (its : List Value).toArray k })]) fr6 pinD) (T.obj _ _ st6)
      have d7 := hg' _ s6 σ4 H6 x u _ I6' r6 (step x H6 y6)
      rw [hYprog, hYw, hYA, hYxe, hYenv] at d7
      refine thn d7 fun _ s7 ⟨σ7, H7, I7, q7⟩ => ?_
      have d8 := he' _ s7 σ7 H7 _ I7 q7
      rw [hYprog, hYw, hYA, hYxe, hYenv] at d8
      refine thn d8 fun u8 s8 ⟨v8, H8, I8, r8, n8⟩ => ?_
      obtain ⟨m', hm, w8⟩ := hN _ _ _ n8
      have pD := I8.pin (s2.heap.objs.size, { cls := .type "list", data := .seq (its : List Value).toArray k }) (List.mem_append_right _ (List.mem_append_left _ (List.mem_append_right _ (List.mem_singleton.mpr rfl))))
      have tn8 : tn (i + 1) s8.heap := T.keep _ _ _ st6 fun b hb o e => (I8.pin (b, o) (List.mem_append_right _ (List.mem_append_right _ (mem_pinsAt hb e)))).1
      have fr8 : ∀ b ∈ fp, H8 b = none := fun b hb => by
        obtain ⟨o, e, d⟩ := T.obj _ _ st6 b hb
        exact (I8.pin (b, o) (List.mem_append_right _ (List.mem_append_right _ (mem_pinsAt hb e)))).2.1
      have J8 : Inv Y pins σ7 H8 s8 := I8.unpinned.unpinned
      have eD : s8.heap.get? s2.heap.objs.size = some { cls := .type "list", data := .seq its.toArray k } := pD.1
      refine call_meets F.slot_list_append ⟨_, eD, rfl⟩ F.entry_list_append (F.args_list_append_2 _ _) (PySem.list_append _ its.toArray k u8 (by rw [List.size_toArray, ← rv.length]; omega)) ⟨eD, ?_⟩
      have other : ∀ b o, b ≠ s2.heap.objs.size → s8.heap.get? b = some o → (s8.heap.update s2.heap.objs.size (Obj.mapSeq fun xs => xs.push u8)).get? b = some o := fun b o nb e => (Heap.get?_update_other s8.heap _ (Ne.symm nb)).trans e
      have J9 := J8.turned (t' := s8.toks) (it := s2.heap.objs.size) (h' := s8.heap.update s2.heap.objs.size (Obj.mapSeq fun xs => xs.push u8)) other pD.2.1 (by rw [hYl]; exact hDC) (.inr (by rw [hYs]; exact Nat.le_refl _))
        (fun x c e => by rw [hYc] at e; exact Nat.ne_of_lt (cellL x c e)) (fun p hp => by rw [hYp] at hp; exact Nat.ne_of_lt (pinL p hp))
      have ep : (its.toArray.push u8) = (its ++ [u8]).toArray := by simp
      obtain ⟨kk, upD⟩ : ∃ kk, (s8.heap.update s2.heap.objs.size (Obj.mapSeq fun xs => xs.push u8)).get? s2.heap.objs.size = some { cls := .type "list", data := .seq (its ++ [u8]).toArray kk } := by
        have z := PySem.IsL.update eD (fun xs => xs.push u8)
        rw [ep] at z
        exact ⟨_, z⟩
      refine ⟨m', hm, i + 1, ys ++ [v8], its ++ [u8], kk, σ7, H8, J9.pins_of fun p hp => ?_, T.keep _ _ _ tn8 fun b hb o e => other b o (Nat.ne_of_lt (fpL b hb)) e, fr8, rv.append (.cons r8 .nil), ?_, w8⟩
      · rcases List.mem_append.mp hp with z | z
        · exact J9.pin p (List.mem_append_right _ z)
        · rw [List.mem_singleton.mp z]
          exact ⟨upD, pD.2.1, by rw [hYl]; exact hDC, by rw [hYf]; exact fun z => absurd (stkL _ z) (Nat.lt_irrefl _), fun v z => by cases z⟩
      · rw [List.length_append, List.length_singleton]; omega
  exact codeAny_compStart_list (loop _ rfl) (T.self _ 0 _ _ _ (T.keep _ _ _ st2 fun b _ o e => old b o e) (loop _ rfl))
theorem pe_comp {X : Cx} {elt tg iter : Expr} {scope : Scope} {cl : List (Str × Addr)} {pos : Pos} {own fv : List Str} {js : List Nat} {wi : TI} {g : TG} {te : TE}
    (hc : X.calm = true) (hi : PI X tg iter wi) (hclos : closureFor scope X.env = pure cl) (hcell : ∀ y ∈ scope.names, y.2 ≠ .cell) (hkind : scope.kind = .function)
    (hnames : ∀ y ∈ scope.names, y.2 = .local → scope.names.lookup y.1 = some .local)
    (hcl : ∀ x c, cl.lookup x = some c → X.env.cells.lookup x = some c)
    (hhas : ∀ x, ((relabel scope X.env).names.lookup x = some .cell ∨ (relabel scope X.env).names.lookup x = some .free) → ∃ c, cl.lookup x = some c)
    (hlen : js.length = fv.length) (hcap : ∀ (i : Nat) x j, fv[i]? = some x → js[i]? = some j → Cap X scope cl x j)
    (hg : ∀ (C : Addr) (ex : List Addr) (s : Shared) (H : Hp), PG (cxComp X (own ++ fv) scope cl C ex s H) tg g)
    (he : ∀ (C : Addr) (ex : List Addr) (s : Shared) (H : Hp), PE (cxComp X (own ++ fv) scope cl C ex s H) elt te)
    (hs : ∀ x, foldedSetIterable iter X.env x = pure x := by intro _; rfl) :
    PE X (.ListComp elt [⟨tg, iter, [], 0⟩] scope pos) (tComp wi own.length js g te) := by
  intro pins s σ H Q I h
  rw [eval_ListComp]
  refine comp_core (use := none) (QQ := EP X pins σ Q) hc hi hclos hcell hkind hnames hcl hhas hlen hcap hg he hs I h fun a C s5 H5 fl I5 zC zL zS zc zp ⟨m, hn⟩ q => ⟨m, hn, fun h' sc => ?_⟩
  exact ⟨.ref a, H5, I5.turned (t' := s5.toks) (it := C) (fun d o nd e => sc.extBut d o nd e) zC zL (.inr zS) zc zp, rfl, q⟩
theorem comp_list {K : PySem.W.Frag} {a : Addr} {xs : List V} {g : TG} {te : TE} {Q : VK} {σ : St} {H : Hp} (Pv : Nat → List V → St → Hp → Prop) (h0 : Pv 0 [] σ H) (hl : ∀ i ys σ H, i ≤ xs.length → Pv i ys σ H → SqL K H a xs)
    (hs : ∀ i x ys σ H, xs[i]? = some x → Pv i ys σ H → ys.length < sizeLine ∧ g x σ H fun σ3 H3 => te σ3 H3 fun v H4 => Pv (i + 1) (ys ++ [v]) σ3 H4) (hd : ∀ ys σ H, Pv xs.length ys σ H → ∀ p, H p = none → Q (.ref p) (upd H p (.lst ys))) :
    ∃ W : Nat → Nat → List V → St → Hp → Prop, (∃ m, W 0 m [] σ H) ∧ ∀ i m ys σ' H', W i m ys σ' H' →
      ((Itl K a).stop i H' ∧ ∀ p, H' p = none → Q (.ref p) (upd H' p (.lst ys))) ∨
      ((Itl K a).go i H' ∧ ys.length < sizeLine ∧ ∃ N : List V → St → Hp → Prop, (∀ zs σ2 H2, N zs σ2 H2 → ∃ m', m' < m ∧ W (i + 1) m' zs σ2 H2) ∧
        ∀ x H2, (Itl K a).yld i H' x H2 → g x σ' H2 fun σ3 H3 => te σ3 H3 fun v H4 => N (ys ++ [v]) σ3 H4) := by
  refine ⟨fun i m ys σ H => m = xs.length - i ∧ i ≤ xs.length ∧ Pv i ys σ H, ⟨xs.length, by simp, Nat.zero_le _, h0⟩, ?_⟩
  rintro i m ys σ H ⟨rfl, hi, p⟩
  have q := hl i ys σ H hi p
  by_cases hlt : i < xs.length
  · have e : xs[i]? = some xs[i] := by simp [hlt]
    refine .inr ⟨⟨xs, xs[i], q, e⟩, (hs i _ ys σ H e p).1, Pv (i + 1), fun zs σ' H' p' => ⟨xs.length - (i + 1), by omega, rfl, hlt, p'⟩, fun x H' y => ?_⟩
    obtain ⟨e, y⟩ := y
    subst e
    exact (hs i x ys σ _ (y xs q) p).2
  · have e : i = xs.length := by omega
    subst e
    exact .inl ⟨⟨xs, q, Nat.le_refl _⟩, hd ys σ H p⟩
theorem comp_tup {K : PySem.W.Frag} {a : Addr} {xs : List V} {g : TG} {te : TE} {Q : VK} {σ : St} {H : Hp} (Pv : Nat → List V → St → Hp → Prop) (h0 : Pv 0 [] σ H) (hl : ∀ i ys σ H, i ≤ xs.length → Pv i ys σ H → SqT K H a xs)
    (hs : ∀ i x ys σ H, xs[i]? = some x → Pv i ys σ H → ys.length < sizeLine ∧ g x σ H fun σ3 H3 => te σ3 H3 fun v H4 => Pv (i + 1) (ys ++ [v]) σ3 H4) (hd : ∀ ys σ H, Pv xs.length ys σ H → ∀ p, H p = none → Q (.ref p) (upd H p (.lst ys))) :
    ∃ W : Nat → Nat → List V → St → Hp → Prop, (∃ m, W 0 m [] σ H) ∧ ∀ i m ys σ' H', W i m ys σ' H' →
      ((Itt K a).stop i H' ∧ ∀ p, H' p = none → Q (.ref p) (upd H' p (.lst ys))) ∨
      ((Itt K a).go i H' ∧ ys.length < sizeLine ∧ ∃ N : List V → St → Hp → Prop, (∀ zs σ2 H2, N zs σ2 H2 → ∃ m', m' < m ∧ W (i + 1) m' zs σ2 H2) ∧
        ∀ x H2, (Itt K a).yld i H' x H2 → g x σ' H2 fun σ3 H3 => te σ3 H3 fun v H4 => N (ys ++ [v]) σ3 H4) := by
  refine ⟨fun i m ys σ H => m = xs.length - i ∧ i ≤ xs.length ∧ Pv i ys σ H, ⟨xs.length, by simp, Nat.zero_le _, h0⟩, ?_⟩
  rintro i m ys σ H ⟨rfl, hi, p⟩
  have q := hl i ys σ H hi p
  by_cases hlt : i < xs.length
  · have e : xs[i]? = some xs[i] := by simp [hlt]
    refine .inr ⟨⟨xs, xs[i], q, e⟩, (hs i _ ys σ H e p).1, Pv (i + 1), fun zs σ' H' p' => ⟨xs.length - (i + 1), by omega, rfl, hlt, p'⟩, fun x H' y => ?_⟩
    obtain ⟨e, y⟩ := y
    subst e
    exact (hs i x ys σ _ (y xs q) p).2
  · have e : i = xs.length := by omega
    subst e
    exact .inl ⟨⟨xs, q, Nat.le_refl _⟩, hd ys σ H p⟩
theorem comp_range {lo : Int} {n : Nat} {g : TG} {te : TE} {Q : VK} {σ : St} {H : Hp} (Pv : Nat → List V → St → Hp → Prop) (h0 : Pv 0 [] σ H)
    (hs : ∀ i ys σ H, i < n → Pv i ys σ H → ys.length < sizeLine ∧ g (.int (lo + i)) σ H fun σ3 H3 => te σ3 H3 fun v H4 => Pv (i + 1) (ys ++ [v]) σ3 H4) (hd : ∀ ys σ H, Pv n ys σ H → ∀ p, H p = none → Q (.ref p) (upd H p (.lst ys))) :
    ∃ W : Nat → Nat → List V → St → Hp → Prop, (∃ m, W 0 m [] σ H) ∧ ∀ i m ys σ' H', W i m ys σ' H' →
      ((Itr lo n).stop i H' ∧ ∀ p, H' p = none → Q (.ref p) (upd H' p (.lst ys))) ∨
      ((Itr lo n).go i H' ∧ ys.length < sizeLine ∧ ∃ N : List V → St → Hp → Prop, (∀ zs σ2 H2, N zs σ2 H2 → ∃ m', m' < m ∧ W (i + 1) m' zs σ2 H2) ∧
        ∀ x H2, (Itr lo n).yld i H' x H2 → g x σ' H2 fun σ3 H3 => te σ3 H3 fun v H4 => N (ys ++ [v]) σ3 H4) := by
  refine ⟨fun i m ys σ H => m = n - i ∧ i ≤ n ∧ Pv i ys σ H, ⟨n, by simp, Nat.zero_le _, h0⟩, ?_⟩
  rintro i m ys σ H ⟨rfl, hi, p⟩
  by_cases hlt : i < n
  · refine .inr ⟨hlt, (hs i ys σ H hlt p).1, Pv (i + 1), fun zs σ' H' p' => ⟨n - (i + 1), by omega, rfl, hlt, p'⟩, fun x H' y => ?_⟩
    obtain ⟨e, y⟩ := y
    subst e y
    exact (hs i ys σ _ hlt p).2
  · have e : i = n := by omega
    subst e
    exact .inl ⟨Nat.le_refl _, hd ys σ H p⟩
end L2
namespace L2
open PySem PySem.Spec PyProof.Rows
theorem own_cls {K : PySem.W.Frag} {h : Heap} {gm : Str → Option Value} {nmX : Str} {Cx' : Addr} {bmX : List Value} {nid : String} (KI : K.In h) (GN : h.Ns mainGlobals gm)
    (hn : PySem.W.nsIn K mainGlobals nmX = some (some (.ref Cx'))) (hq : PySem.W.excIn K Cx' bmX nid = true) : OwnCls nmX Cx' bmX nid gm h := by
  constructor
  · exact PySem.W.mg_of KI GN hn
  · unfold PySem.W.excIn at hq
    split at hq
    · rename_i ddx cdx slx hlk
      split at hq
      · rename_i C2 bm2 f0 f1 f2 f3 nn f5 hmro hsl0
        simp only [Bool.and_eq_true, beq_iff_eq, Bool.not_eq_true'] at hq
        obtain ⟨⟨⟨⟨⟨eC, eN⟩, hdl⟩, htl⟩, hnsok⟩, hinit⟩ := hq
        subst eC eN
        obtain ⟨c1, c2, c3, c4, c5, c6, c7, c8, c9, c10, c11⟩ := cdx
        dsimp only at hmro hdl hnsok hinit
        subst hmro hdl
        have hsl1 : slx = #[f0, f1, f2, f3, some (.builtin nn), f5] := by
          obtain ⟨lst⟩ := slx
          simp only at hsl0
          rw [hsl0]
        subst hsl1
        refine ⟨bm2, c4, c1, c5, c2, c6, c7, c8, c9, c10, ddx, f0, f1, f2, f3, f5, h.nsMap c4, KI _ _ hlk, ?_, ?_, ?_⟩
        · exact .of_isNs (PySem.W.isNs_of_in KI hnsok)
        · exact PySem.W.nsMap_none_of_in KI hnsok hinit
        · exact PySem.W.tail_of_in KI htl
      · cases hq
    · cases hq
def CX1 (P : Program) (w : World) : CXT := fun outer H s E e s' =>
  ∃ (a C : Addr) (a0 : Value) (H' : Hp) (B : Heap), e = .ref a ∧ s'.os = s.os ∧ AllBare s'.gens ∧ Heap.FlyingW B outer a (.ref C) a0 s'.heap ∧
    (∀ b o, s.heap.get? b = some o → H b = none → b ∉ frs outer → B.get? b = some o) ∧ (∀ b o, s.heap.get? b = some o → b ∉ frs outer → ∃ o', B.get? b = some o') ∧
    Un (frs outer) [] H H' s.heap s'.heap ∧ HOk P w H' B ∧ E (.ref C) none H'
section
variable {P : Program} {w : World} {K : PySem.W.Frag} {mg : Str → Option Value} {base : Heap} {N : List Str} {qual : Str} {scope : Scope} {f : Addr} {cd : Value} {A : Around} {outer : List Env} {s : Shared} {H : Hp} {E : XK}
theorem hok_hide {H : Hp} {h : Heap} {l : List Addr} (ok : HOk P w H h) (hl : ∀ b ∈ l, H b = none) : HOk P w H (PySem.W.hideAll h l) := fun b u e => by
  have nb : ∀ c v, H c = some v → c ∉ l := fun c v q z => by rw [hl c z] at q; cases q
  refine (ok b u e).stay (fun c v hc q => PySem.W.hideAll_get _ q ?_) (fun _ q => q) fun _ _ q => q
  rcases hc with z | z
  · rw [z]; exact nb b u e
  · exact nb c _ z
theorem frs_in {l : List Env} : ∀ env ∈ l, ∀ b, env.frame = some b → b ∈ frs l := fun env he b hb => List.mem_filterMap.mpr ⟨env, he, hb⟩
theorem passes1 : Passes (CX1 P w) (cxOf (CX1 P w) P w K mg base N qual scope f cd A outer s H E) E := by
  intro pins σ H1 s1 e s' I hx
  obtain ⟨a, C, a0, H', B, rfl, os, bare, fl, inB, thB, un, okB, hE⟩ := hx
  have hfr : (cxOf (CX1 P w) P w K mg base N qual scope f cd A outer s H E).A.frames = some (envOfC qual scope s.heap.objs.size f cd :: outer) := I.ok.frames
  refine wpAny_leaves_onW hfr rfl fl fun h'' fl'' up'' => ?_
  have Bs : ∀ b o, B.get? b = some o → h''.get? b = some o := fl''.1
  have ub : Un (frs outer) [] H H1 s.heap s1.heap := I.base
  have stk : ∀ b, b ∉ frs outer → b < s.heap.objs.size → b ∉ frs (envOfC qual scope s.heap.objs.size f cd :: outer) := fun b hb hlt z => by
    rcases List.mem_cons.mp (I.stkSub b z) with q | q
    · have q : b = s.heap.objs.size := q
      exact Nat.lt_irrefl _ (q ▸ hlt)
    · exact hb q
  have inB' : ∀ b o, s.heap.get? b = some o → H b = none → b ∉ frs outer → B.get? b = some o := fun b o e n hb =>
    inB b o (ub.keep b o e n hb (by simp)) (ub.free b o e n (by simp)) (stk b hb (Heap.lt_size e))
  have thB' : ∀ b o, s.heap.get? b = some o → b ∉ frs outer → ∃ o', B.get? b = some o' := fun b o e hb => by
    obtain ⟨o1, e1⟩ := ub.there b o e (by simp)
    exact thB b o1 e1 (stk b hb (Heap.lt_size e))
  have sub : ∀ b, b ∈ frs outer → b ∈ frs (envOfC qual scope s.heap.objs.size f cd :: outer) := fun b hb => List.mem_cons_of_mem _ hb
  have slot : ∀ b o, s.heap.get? b = some o → H b = none → b ∈ frs outer → ∃ sl, h''.get? b = some { o with slots := sl } := fun b o e n hb => by
    obtain ⟨sl1, e1⟩ := ub.slot b o e n hb (by simp)
    obtain ⟨sl2, e2⟩ := un.slot b _ e1 (ub.free b o e n (by simp)) (sub b hb) (by simp)
    obtain ⟨_, o3, e3, nf⟩ := I.ok.funs.mem hb
    have e3 : s.heap.get? b = some o3 := e3
    rw [e] at e3; cases e3
    obtain ⟨sl3, e4⟩ := up'' b _ e2 nf
    exact ⟨sl3, e4⟩
  have frf : ∀ b ∈ frs outer, H b = none := I.ok.frf
  refine ⟨a, C, a0, H', B, rfl, os.trans I.os, bare, fl'', inB', thB', ⟨fun b o e n hb _ => Bs _ _ (inB' b o e n hb), fun b o e n hb _ => slot b o e n hb, fun b o e n _ => ?_, fun b o e _ => ?_,
    fun b xs e => un.tups b xs (ub.tups b xs e), fun b o u e => un.frzs b o u (ub.frzs b o u e), fun b ps e => ?_⟩, okB, hE⟩
  · obtain ⟨o1, e1⟩ := ub.there b o e (by simp)
    exact un.free b o1 e1 (ub.free b o e n (by simp)) (by simp)
  · by_cases hb : b ∈ frs outer
    · obtain ⟨sl, q⟩ := slot b o e (frf b hb) hb
      exact ⟨_, q⟩
    · obtain ⟨o', q⟩ := thB' b o e hb
      exact ⟨o', Bs _ _ q⟩
  · obtain ⟨m1, q1⟩ := ub.tbls b ps e
    obtain ⟨m2, q2⟩ := un.tbls b _ q1
    exact ⟨m1 ++ m2, by rw [q2, Array.append_assoc]⟩
def RaisesTo (X : Cx) (Ex : Value → Hp → Prop) : Prop := ∀ (pins : List (Addr × Obj)) (σ : St) (H : Hp) (s : Shared) (h' : Heap) (e C : Addr) (vs : List Value), Inv X pins σ H s → Heap.MadeExcOf s.heap h' e (.ref C) vs → Ex (.ref C) H → X.xe (.ref e) { s with heap := h' }
theorem raises1 : RaisesTo (cxOf (CX1 P w) P w K mg base N qual scope f cd A outer s H E) (fun c H' => E c none H') := by
  intro pins σ H1 s1 h' e C vs I hm hE
  have hfr : (cxOf (CX1 P w) P w K mg base N qual scope f cd A outer s H E).A.frames = some (envOfC qual scope s.heap.objs.size f cd :: outer) := I.ok.frames
  have st : s1.heap.FunFrames base (envOfC qual scope s.heap.objs.size f cd :: outer) := I.stack
  refine wpAny_leaves_madeW (base := PySem.W.hideAll s1.heap (frs (envOfC qual scope s.heap.objs.size f cd :: outer))) hfr rfl (fun b o q => PySem.W.of_hideAll _ q) (PySem.W.funFrames_hide st frs_in) hm fun h'' t fl'' tp nt up'' => ?_
  have ub : Un (frs outer) [] H H1 s.heap s1.heap := I.base
  have Bs := fl''.1
  have stk : ∀ b, b ∉ frs outer → b < s.heap.objs.size → b ∉ frs (envOfC qual scope s.heap.objs.size f cd :: outer) := fun b hb hlt z => by
    rcases List.mem_cons.mp (I.stkSub b z) with q | q
    · have q : b = s.heap.objs.size := q
      exact Nat.lt_irrefl _ (q ▸ hlt)
    · exact hb q
  have inB' : ∀ b o, s.heap.get? b = some o → H b = none → b ∉ frs outer → (PySem.W.hideAll s1.heap (frs (envOfC qual scope s.heap.objs.size f cd :: outer))).get? b = some o := fun b o e n hb =>
    PySem.W.hideAll_get _ (ub.keep b o e n hb (by simp)) (stk b hb (Heap.lt_size e))
  have thB' : ∀ b o, s.heap.get? b = some o → b ∉ frs outer → ∃ o', (PySem.W.hideAll s1.heap (frs (envOfC qual scope s.heap.objs.size f cd :: outer))).get? b = some o' := fun b o e hb => by
    obtain ⟨o1, e1⟩ := ub.there b o e (by simp)
    exact ⟨o1, PySem.W.hideAll_get _ e1 (stk b hb (Heap.lt_size e))⟩
  have slot : ∀ b o, s.heap.get? b = some o → H b = none → b ∈ frs outer → ∃ sl, h''.get? b = some { o with slots := sl } := fun b o e n hb => by
    obtain ⟨sl1, e1⟩ := ub.slot b o e n hb (by simp)
    obtain ⟨_, o3, e3, nf⟩ := I.ok.funs.mem hb
    have e3 : s.heap.get? b = some o3 := e3
    rw [e] at e3; cases e3
    obtain ⟨sl3, e4⟩ := up'' b _ (hm.keeps _ _ e1) nf
    exact ⟨sl3, e4⟩
  have frf : ∀ b ∈ frs outer, H b = none := I.ok.frf
  refine ⟨e, C, .ref t, H1, _, rfl, I.os, I.bare, fl'', inB', thB', ⟨fun b o e n hb _ => Bs _ _ (inB' b o e n hb), fun b o e n hb _ => slot b o e n hb, fun b o e n _ => ub.free b o e n (by simp), fun b o e _ => ?_,
    ub.tups, ub.frzs, ub.tbls⟩, hok_hide I.hok I.stkFree, hE⟩
  by_cases hb : b ∈ frs outer
  · obtain ⟨sl, q⟩ := slot b o e (frf b hb) hb
    exact ⟨_, q⟩
  · obtain ⟨o', q⟩ := thB' b o e hb
    exact ⟨o', Bs _ _ q⟩
end
def tRaise (C : Addr) (Ex : Value → Hp → Prop) (t : TA) : TS := fun _ σ H => t σ H fun vs H1 => vs.length ≤ sizeLine ∧ Ex (.ref C) H1
theorem ps_raise {X : Cx} {x : Str} {C : Addr} {B newId initId : String} {bm : List Value} {np cpos pos : Pos} {e₀ : Expr} {es : List Expr} {t : TA} {Ex : Value → Hp → Prop}
    (FB : ExcBaseFacts B newId initId bm) (hc : X.calm = true) (hg : Gl X x) (hn : PySem.W.nsIn X.K mainGlobals x = some (some (.ref C))) (hq : PySem.W.excIn X.K C bm newId = true) (hx : RaisesTo X Ex) (ha : PA X (e₀ :: es) t)
    (hs : starEach (e₀ :: es) X.env = (false, eval e₀ X.env) :: starEach es X.env := by rfl) (hpl : (backTo cpos (starEach es X.env)).any (·.1) = false := by rfl) (hd : (x == ("__debug__" : Str)) = false := by decide) :
    PS X (.Raise (some (.Call (.Name x np) (e₀ :: es) [] cpos)) none pos) (tRaise C Ex t) := by
  intro pins s σ H D I h
  have O := own_cls I.ok.mod.kin I.ok.mod.glob hn hq
  obtain ⟨tl, Nn, n1, q1, b1, d1, m1, u1, a1, l1, dd1, j0, j1, j2, j3, j5, mN, hC, hN, hni, T⟩ := O.obj
  refine wpAny_Raise_call_subT (C := C) (nm := n1) (q := q1) (N := Nn) (bs := b1) (bm := tl) (hdct := d1) (sn := m1) (sub := u1) (ab := a1) (col := l1) (dd := dd1) (k0 := j0) (k1 := j1) (k2 := j2) (k3 := j3) (k5 := j5) (mN := mN)
    FB (T.hasType FB.hasBase) (I.ok.hd hc) (by rw [hs]; show (false || (backTo cpos (starEach es X.env)).any (·.1)) = false; rw [hpl]; rfl) hni (ld_glob I hg O.bound ⟨rfl, ?_⟩ hd)
  have hA := ha cpos pins s σ H _ I h
  rw [hs] at hA ⊢
  refine Calls.evalArgs_plain (thn hA fun us s2 ⟨vs, H2, I2, r2, hz, hE⟩ => ⟨rfl, ?_, I2.bk _ _ hC, hN.keeps I2.bk, T.keeps I2.bk, fun h' e hm => hx pins σ H2 s2 h' e C us I2 hm hE⟩)
  show us.length ≤ sizeLine
  rw [← r2.length]
  exact hz
section
variable {P : Program} {w : World} {K : PySem.W.Frag} {mg : Str → Option Value} {base : Heap}
theorem Fun.okX {x qual : Str} {st : Stmt} {f : Addr} {fd : FuncData} {N ps : List Str} {k : Nat} {sp : Sp} (F : Fun K x qual st f fd) (S : FnScope N ps (defScope st)) (len : ∀ vs H Q E, sp vs H Q E → vs.length = ps.length)
    (hbody : ∀ (cdv : Value) (A : Around) (outer : List Env) (s : Shared) (H : Hp) (vs : List V) (Q : VK) (E : XK), Room k (A.deeper (envOfC qual (defScope st) s.heap.objs.size f cdv)) → sp vs H Q E →
      ∃ t, PSs (cxOf (CX1 P w) P w K mg base N qual (defScope st) f cdv A outer s H E) (defBody st) t ∧ t { nx := fun _ H' => Q .non H', rt := Q } (start N vs) H) : FnOk P w K mg base (CX1 P w) (k + 1) f fd ps sp := by
  obtain ⟨oc, od, kV, doc, pm, an, cdv, ct, osl, rfl, lk, hcd⟩ := F.ex
  exact fn_of lk hcd S len fun A outer s H vs Q E hr hsp => hbody cdv A outer s H vs Q E hr hsp
theorem FnOk.up {k : Nat} {f : Addr} {fd : FuncData} {ps : List Str} {sp : Sp} (F : FnOk P w K mg base CX0 k f fd ps sp) : FnOk P w K mg base (CX1 P w) k f fd ps sp :=
  ⟨F.len, fun A outer s H args us vs Q E h1 h2 h3 h4 h5 => codeAny_mono (F.run A outer s H args us vs Q E h1 h2 h3 h4 h5) fun r s' q => by
    cases r with
    | error e => exact False.elim q
    | ok fl => cases fl <;> exact q⟩
end
theorem passNo {P : Program} {w : World} {X : Cx} : Passes (CX1 P w) X E0 := fun _ _ _ _ _ _ _ h => by
  obtain ⟨_, _, _, _, _, _, _, _, _, _, _, _, _, q⟩ := h
  exact q.elim
end L2
namespace L2
open PySem PySem.Spec PyProof.Rows
def ExcO (a C : Addr) : HO := .ext fun h => ∃ o vs, h.get? a = some o ∧ o.cls = .ref C ∧ o.data = .fields vs
section
variable {X : Cx} {pins : List (Addr × Obj)} {σ : St} {H : Hp} {s : Shared}
theorem Inv.track {a : Addr} {o : HO} (I : Inv X pins σ H s) (hn : H a = none) (new : ObjOk X.prog X.w (upd H a o) s.heap a o) (h1 : a ≠ X.env.locals) (h2 : ∀ x c, X.env.cells.lookup x = some c → c ≠ a) (h3 : ∀ p ∈ X.pn ++ pins, p.1 ≠ a)
    (h4 : X.s₀.heap.get? a = none) : Inv X pins σ (upd H a o) s := by
  have ne : ∀ b u, H b = some u → b ≠ a := fun b u e z => by rw [z, hn] at e; cases e
  have n0 : ∀ b u, X.s₀.heap.get? b = some u → b ≠ a := fun b u e z => by rw [z, h4] at e; cases e
  refine ⟨I.ok, I.os, I.bare, ⟨I.base.keep, I.base.slot, fun b u e n hx => ?_, I.base.there, fun b xs e => ?_, fun b u v e => ?_, fun b ps e => ?_⟩, I.loc, I.cell, ?_, fun x c e => ?_, fun p hp => ?_, fun b u e => ?_, I.len⟩
  · rw [upd_ne (n0 b u e)]; exact I.base.free b u e n hx
  · have q := I.base.tups b xs e
    rw [upd_ne (ne b _ q)]; exact q
  · have q := I.base.frzs b u v e
    rw [upd_ne (ne b _ q)]; exact q
  · obtain ⟨more, q⟩ := I.base.tbls b ps e
    exact ⟨more, by rw [upd_ne (ne b _ q)]; exact q⟩
  · rw [upd_ne (Ne.symm h1)]; exact I.free
  · rw [upd_ne (h2 x c e)]; exact I.freeC x c e
  · obtain ⟨e, n, ne, nf, d⟩ := I.pin p hp
    exact ⟨e, by rw [upd_ne (h3 p hp)]; exact n, ne, nf, d⟩
  · by_cases hb : b = a
    · subst hb; rw [upd_same] at e; cases e; exact new
    · rw [upd_ne hb] at e
      exact (I.hok b u e).stay (fun c v _ q => q) (fun c q => by rw [upd_ne (ne c _ q)]; exact q) fun c xs q => by rw [upd_ne (ne c _ q)]; exact q
end
abbrev Cx.more (X : Cx) (xe : Value → Shared → Prop) (pn : List (Addr × Obj)) : Cx := { X with xe := xe, pn := pn }
abbrev Cx.suite (X : Cx) (a : Addr) (pn : List (Addr × Obj)) : Cx := { X with A := X.A.mark (some (.ref a)), calm := false, xe := fun _ _ => False, pn := pn }
theorem Cx.Ok.more {X : Cx} (ok : X.Ok) (xe : Value → Shared → Prop) (pn : List (Addr × Obj)) : (X.more xe pn).Ok :=
  ⟨ok.mod, ok.kind, ok.glob, ok.blt, ok.above, ok.inj, ok.has, ok.cab, ok.hd, ok.frames, ok.stk, ok.exf, ok.bs, ok.bsz, ok.noex, ok.exfs, ok.funs, ok.frf⟩
theorem Cx.Ok.suite {X : Cx} (ok : X.Ok) (a : Addr) (pn : List (Addr × Obj)) : (X.suite a pn).Ok :=
  ⟨ok.mod, ok.kind, ok.glob, ok.blt, ok.above, ok.inj, ok.has, ok.cab, fun z => absurd z (by show ¬ (false = true); decide), ok.frames, ok.stk, ok.exf, ok.bs, ok.bsz, ok.noex, ok.exfs, ok.funs, ok.frf⟩
def PassesAt (CX : CXT) (X : Cx) (E : XK) (σ : St) : Prop := ∀ (pins : List (Addr × Obj)) (H : Hp) (s : Shared) (e : Value) (s' : Shared), Inv X pins σ H s → CX X.stack H s E e s' → X.xe e s'
section
variable {X : Cx} {CX : CXT} {k : Nat} {f : Addr} {fd : FuncData} {ps : List Str} {sp : Sp} {dvs : List V} {ds : List Value} {EE : St → XK} {x : Str} {p pos : Pos} {e : Expr} {es : List Expr} {t : TA}
def tCallX (sp : Sp) (dvs : List V) (EE : St → XK) (t : TA) : TE := fun σ H Q => t σ H fun vs H1 => sp (vs ++ dvs) H1 Q (EE σ)
theorem pe_callX (F : FnOk X.prog X.w X.K X.mg X.base CX k f fd ps sp) (hr : Room k X.A) (hg : Gl X x) (hm : X.mg x = some (.ref f)) (hk : PySem.W.keepIn X.K (.ref f) = true) (hb : Binds X.K fd ps ds) (hd : Vals dvs ds) (hx : ∀ σ, PassesAt CX X (EE σ) σ)
    (ha : PA X (e :: es) t) (hdb : (x == ("__debug__" : Str)) = false := by decide) (he : starEach (e :: es) X.env = (false, eval e X.env) :: starEach es X.env := by rfl) (hpl : (backTo pos (starEach es X.env)).any (·.1) = false := by rfl) :
    PE X (.Call (.Name x p) (e :: es) [] pos) (tCallX sp dvs EE t) := by
  intro pins s σ H Q I h
  refine wpAny_Call_Name_kw (ld_glob I hg hm ?_ hdb)
  refine PySem.W.callWith_K (h₀ := X.base) I.ok.mod.kin hk (thn (ha pos pins s σ H _ I h) fun us s1 ⟨vs, H1, I1, r, q⟩ => ⟨I1.kIn, ?_⟩) he hpl
  have r2 : Vals (vs ++ dvs) (us ++ ds) := r.append hd
  have hl : (us ++ ds).length = ps.length := by rw [← r2.length]; exact F.len _ _ _ _ q
  refine wpAny_call (codeAny_mono (F.run X.A X.stack s1 H1 ⟨us, []⟩ (us ++ ds) (vs ++ dvs) Q (EE σ) hr I1.env0 (hb s1 us I1.kIn hl) r2 q) fun r s' hq => ?_)
  cases r with
  | error e => exact hx σ pins H1 s1 e s' I1 hq
  | ok fl =>
    cases fl with
    | ret u => exact I1.after hq
    | next => exact False.elim hq
    | brk => exact False.elim hq
    | cont => exact False.elim hq
end
def goneEnds (D : Ends) (i : Nat) : Ends := { nx := fun σ H => D.nx (σ.set i none) H, rt := D.rt, bk := fun σ H => D.bk (σ.set i none) H, ct := fun σ H => D.ct (σ.set i none) H }
def caughtBy (C : Addr) (i : Nat) (ts : TS) (D : Ends) : St → XK := fun σ1 cls _ H1 => cls = .ref C ∧ ∀ a, H1 a = none → ts (goneEnds D i) (σ1.set i (some (.ref a))) (upd H1 a (ExcO a C))
def tTry (C : Addr) (i : Nat) (tb : (St → XK) → TS) (ts : TS) : TS := fun D σ H => tb (caughtBy C i ts D) D σ H
end L2
namespace L2
open PySem PySem.Spec PyProof.Rows
structure Callee (P : Program) (w : World) (K : PySem.W.Frag) (mg : Str → Option Value) (base : Heap) (CX : CXT) (k : Nat) (x : Str) (ps : List Str) (sp : Sp) : Prop where
  has : ∃ (f : Addr) (fd : FuncData), FnOk P w K mg base CX k f fd ps sp ∧ mg x = some (.ref f) ∧ PySem.W.keepIn K (.ref f) = true ∧ Binds K fd ps []
theorem Callee.mk' {P : Program} {w : World} {K : PySem.W.Frag} {mg : Str → Option Value} {base : Heap} {CX : CXT} {k : Nat} {x qual : Str} {st : Stmt} {f : Addr} {fd : FuncData} {ps : List Str} {sp : Sp} (F : Fun K x qual st f fd) (m : mg x = some (.ref f)) (b : Binds K fd ps [])
    (ok : FnOk P w K mg base CX k f fd ps sp) : Callee P w K mg base CX k x ps sp := ⟨⟨f, fd, ok, m, F.kp, b⟩⟩
theorem Callee.mono {P : Program} {w : World} {K : PySem.W.Frag} {mg : Str → Option Value} {base : Heap} {CX : CXT} {j k : Nat} {x : Str} {ps : List Str} {sp : Sp} (c : Callee P w K mg base CX j x ps sp) (h : j ≤ k) : Callee P w K mg base CX k x ps sp :=
  let ⟨f, fd, ok, m, kp, b⟩ := c.has; ⟨⟨f, fd, ok.mono h, m, kp, b⟩⟩
section
variable {X : Cx} {CX : CXT} {k : Nat} {ps : List Str} {sp : Sp} {E : XK} {x : Str} {p pos : Pos} {e : Expr} {es : List Expr} {t : TA}
theorem pe_cal (c : Callee X.prog X.w X.K X.mg X.base CX k x ps sp) (hr : Room k X.A) (hg : Gl X x) (hx : Passes CX X E) (ha : PA X (e :: es) t) (hdb : (x == ("__debug__" : Str)) = false := by decide)
    (he : starEach (e :: es) X.env = (false, eval e X.env) :: starEach es X.env := by rfl) (hpl : (backTo pos (starEach es X.env)).any (·.1) = false := by rfl) : PE X (.Call (.Name x p) (e :: es) [] pos) (tCall sp [] E t) := by
  obtain ⟨f, fd, ok, m, kp, b⟩ := c.has
  exact pe_call ok hr hg m kp b .nil hx ha hdb he hpl
theorem pe_calX {EE : St → XK} (c : Callee X.prog X.w X.K X.mg X.base CX k x ps sp) (hr : Room k X.A) (hg : Gl X x) (hx : ∀ σ, PassesAt CX X (EE σ) σ) (ha : PA X (e :: es) t) (hdb : (x == ("__debug__" : Str)) = false := by decide)
    (he : starEach (e :: es) X.env = (false, eval e X.env) :: starEach es X.env := by rfl) (hpl : (backTo pos (starEach es X.env)).any (·.1) = false := by rfl) : PE X (.Call (.Name x p) (e :: es) [] pos) (tCallX sp [] EE t) := by
  obtain ⟨f, fd, ok, m, kp, b⟩ := c.has
  exact pe_callX ok hr hg m kp b .nil hx ha hdb he hpl
theorem call_isi : CallR X (.builtin "isinstance") (fun xs H Q => ∃ x n t b, xs = [x, .ty n] ∧ TyOf X.K H x t ∧ PySem.W.kitOne X.K t (.type n) = some b ∧ Q (.bl b) H) := by
  intro pins s σ H xs us Q I r h
  obtain ⟨x, n, t, b, rfl, ty, e, q⟩ := h
  obtain ⟨u, w', rfl, rx, ry⟩ := vals2 r
  cases (show w' = Value.type n from ry)
  exact isinst_ok I rx ty e fun tk => ⟨.bl b, H, I.tok tk, rfl, q⟩
end
end L2
namespace L2
open PySem PySem.Spec PyProof.Rows
theorem relabel_none {scope : Scope} {env : Env} (hfree : ∀ y ∈ scope.names, y.2 ≠ .free) : (relabel scope env).names = scope.names := by
  show scope.names.map _ = scope.names
  have all : ∀ l : List (Str × NameKind), (∀ y ∈ l, y.2 ≠ .free) → (l.map fun (x : Str × NameKind) => match x with | (n, k) => if (k == .free && env.scope.kind == .function && env.kindOf n == some .cell) then (n, .cell) else (n, k)) = l := by
    intro l
    induction l with
    | nil => intro _; rfl
    | cons y r ih =>
      intro hy
      obtain ⟨n, k⟩ := y
      have hk : (k == NameKind.free) = false := by simpa using hy (n, k) (List.mem_cons_self ..)
      rw [List.map_cons, ih fun z hz => hy z (List.mem_cons_of_mem _ hz)]
      simp [hk]
  exact all _ hfree
theorem pe_comp0 {X : Cx} {elt tg iter : Expr} {scope : Scope} {pos : Pos} {own : List Str} {wi : TI} {g : TG} {te : TE}
    (hc : X.calm = true) (hi : PI X tg iter wi) (hcell : ∀ y ∈ scope.names, y.2 ≠ .cell) (hfree : ∀ y ∈ scope.names, y.2 ≠ .free) (hkind : scope.kind = .function)
    (hnames : ∀ y ∈ scope.names, y.2 = .local → scope.names.lookup y.1 = some .local)
    (hg : ∀ (C : Addr) (ex : List Addr) (s : Shared) (H : Hp), PG (cxComp X own scope [] C ex s H) tg g)
    (he : ∀ (C : Addr) (ex : List Addr) (s : Shared) (H : Hp), PE (cxComp X own scope [] C ex s H) elt te)
    (hs : ∀ x, foldedSetIterable iter X.env x = pure x := by intro _; rfl) :
    PE X (.ListComp elt [⟨tg, iter, [], 0⟩] scope pos) (tComp wi own.length [] g te) := by
  refine pe_comp (own := own) (fv := []) (js := []) (cl := []) hc hi (closureFor_none hfree) hcell hkind hnames (fun x c h => by cases h) (fun x h => ?_) rfl (fun i x j h => by simp at h) (by simpa using hg) (by simpa using he) hs
  rw [relabel_none hfree] at h
  rcases h with h | h
  · exact absurd rfl (hcell _ (PySem.mem_of_lookup h))
  · exact absurd rfl (hfree _ (PySem.mem_of_lookup h))
end L2
namespace L2
open PySem PySem.Spec PyProof.Rows
def CDivW (i j : Int) : Prop := j ≠ 0 ∧ -18446744073709551616 < j ∧ j < 18446744073709551616
theorem log_small {y : Int} (h0 : -18446744073709551616 < y) (h1 : y < 18446744073709551616) : y.natAbs.log2 < 9000 := by
  by_cases z : y.natAbs = 0
  · rw [z]; decide
  · exact Nat.lt_of_lt_of_le ((Nat.log2_lt z).mpr (show y.natAbs < 2 ^ 64 by omega)) (by decide)
theorem op_fdivW {X : Cx} : OpR X (binaryOp .FloorDiv) (rI CDivW fun i j => .int (i.fdiv j)) := opI fun _ _ _ _ _ _ _ hc q => floordiv_int hc.1 q (.inl (PyProof.noPylong_of_log2 (log_small hc.2.1 hc.2.2)))
end L2
namespace L2
open PySem PySem.Spec PyProof.Rows
section
variable {K : PySem.W.Frag}
def LoopL (K : PySem.W.Frag) (g : TG) (tb : TS) (D : Ends) (σ : St) (x : V) (H1 : Hp) : Prop := ∃ a, x = .ref a ∧ (∃ xs, SqL K H1 a xs) ∧ ∃ W : Nat → Nat → St → Hp → Prop, (∃ m, W 0 m σ H1) ∧ ∀ i m σ H, W i m σ H →
  ((Itl K a).stop i H ∧ D.nx σ H) ∨ ((Itl K a).go i H ∧ ∃ N : St → Hp → Prop, (∀ σ' H', N σ' H' → ∃ m', m' < m ∧ W (i + 1) m' σ' H') ∧ ∀ x H', (Itl K a).yld i H x H' → g x σ H' fun σ2 H2 => tb { D with nx := N, ct := N, bk := D.nx } σ2 H2)
def LoopT (K : PySem.W.Frag) (g : TG) (tb : TS) (D : Ends) (σ : St) (x : V) (H1 : Hp) : Prop := ∃ a, x = .ref a ∧ (∃ xs, SqT K H1 a xs) ∧ ∃ W : Nat → Nat → St → Hp → Prop, (∃ m, W 0 m σ H1) ∧ ∀ i m σ H, W i m σ H →
  ((Itt K a).stop i H ∧ D.nx σ H) ∨ ((Itt K a).go i H ∧ ∃ N : St → Hp → Prop, (∀ σ' H', N σ' H' → ∃ m', m' < m ∧ W (i + 1) m' σ' H') ∧ ∀ x H', (Itt K a).yld i H x H' → g x σ H' fun σ2 H2 => tb { D with nx := N, ct := N, bk := D.nx } σ2 H2)
def LoopR (lo : Int) (n : Nat) (g : TG) (tb : TS) (D : Ends) (σ : St) (H1 : Hp) : Prop := ∃ W : Nat → Nat → St → Hp → Prop, (∃ m, W 0 m σ H1) ∧ ∀ i m σ H, W i m σ H →
  ((Itr lo n).stop i H ∧ D.nx σ H) ∨ ((Itr lo n).go i H ∧ ∃ N : St → Hp → Prop, (∀ σ' H', N σ' H' → ∃ m', m' < m ∧ W (i + 1) m' σ' H') ∧ ∀ x H', (Itr lo n).yld i H x H' → g x σ H' fun σ2 H2 => tb { D with nx := N, ct := N, bk := D.nx } σ2 H2)
theorem for_eqL {te : TE} {g : TG} {tb : TS} {D : Ends} {σ : St} {H : Hp} : tFor (iList K te) g tb D σ H = te σ H fun x H1 => LoopL K g tb D σ x H1 := rfl
theorem for_eqT {te : TE} {g : TG} {tb : TS} {D : Ends} {σ : St} {H : Hp} : tFor (iTup K te) g tb D σ H = te σ H fun x H1 => LoopT K g tb D σ x H1 := rfl
theorem for_eqR1 {ta : TA} {g : TG} {tb : TS} {D : Ends} {σ : St} {H : Hp} : tFor (iRng1 ta) g tb D σ H = ta σ H fun vs H1 => ∃ j : Int, vs = [.int j] ∧ -(2 ^ 62) ≤ j ∧ j < 2 ^ 62 ∧ LoopR 0 j.toNat g tb D σ H1 := rfl
theorem for_eqR2 {ta : TA} {g : TG} {tb : TS} {D : Ends} {σ : St} {H : Hp} : tFor (iRng2 ta) g tb D σ H = ta σ H fun vs H1 => ∃ i j : Int, vs = [.int i, .int j] ∧ (-(2 ^ 62) ≤ i ∧ i < 2 ^ 62 ∧ -(2 ^ 62) ≤ j ∧ j < 2 ^ 62) ∧ LoopR i (j - i).toNat g tb D σ H1 := rfl
theorem LoopL.mk {a : Addr} {xs : List V} {g : TG} {tb : TS} {D : Ends} {σ : St} {H : Hp} (hS : SqL K H a xs) (Pv : Nat → St → Hp → Prop) (h0 : Pv 0 σ H) (hl : ∀ i σ H, i ≤ xs.length → Pv i σ H → SqL K H a xs)
    (hs : ∀ i x σ H, xs[i]? = some x → Pv i σ H → g x σ H fun σ2 H2 => tb { D with nx := Pv (i + 1), ct := Pv (i + 1), bk := D.nx } σ2 H2) (hd : ∀ σ H, Pv xs.length σ H → D.nx σ H) : LoopL K g tb D σ (.ref a) H := ⟨a, rfl, ⟨xs, hS⟩, for_list Pv h0 hl hs hd⟩
theorem LoopT.mk {a : Addr} {xs : List V} {g : TG} {tb : TS} {D : Ends} {σ : St} {H : Hp} (hS : SqT K H a xs) (Pv : Nat → St → Hp → Prop) (h0 : Pv 0 σ H) (hl : ∀ i σ H, i ≤ xs.length → Pv i σ H → SqT K H a xs)
    (hs : ∀ i x σ H, xs[i]? = some x → Pv i σ H → g x σ H fun σ2 H2 => tb { D with nx := Pv (i + 1), ct := Pv (i + 1), bk := D.nx } σ2 H2) (hd : ∀ σ H, Pv xs.length σ H → D.nx σ H) : LoopT K g tb D σ (.ref a) H := ⟨a, rfl, ⟨xs, hS⟩, for_tup Pv h0 hl hs hd⟩
theorem LoopR.mk {lo : Int} {n : Nat} {g : TG} {tb : TS} {D : Ends} {σ : St} {H : Hp} (Pv : Nat → St → Hp → Prop) (h0 : Pv 0 σ H)
    (hs : ∀ i σ H, i < n → Pv i σ H → g (.int (lo + i)) σ H fun σ2 H2 => tb { D with nx := Pv (i + 1), ct := Pv (i + 1), bk := D.nx } σ2 H2) (hd : ∀ σ H, Pv n σ H → D.nx σ H) : LoopR lo n g tb D σ H := for_range Pv h0 hs hd
def CompL (K : PySem.W.Frag) (k : Nat) (js : List Nat) (g : TG) (te : TE) (σ : St) (x : V) (H1 : Hp) (Q : VK) : Prop := ∃ a, x = .ref a ∧ (∃ xs, SqL K H1 a xs) ∧ ∃ W : Nat → Nat → List V → St → Hp → Prop, (∃ m, W 0 m [] (compSt k js σ) H1) ∧ ∀ i m ys σ' H', W i m ys σ' H' →
    ((Itl K a).stop i H' ∧ ∀ p, H' p = none → Q (.ref p) (upd H' p (.lst ys))) ∨
    ((Itl K a).go i H' ∧ ys.length < sizeLine ∧ ∃ N : List V → St → Hp → Prop, (∀ zs σ2 H2, N zs σ2 H2 → ∃ m', m' < m ∧ W (i + 1) m' zs σ2 H2) ∧ ∀ x H2, (Itl K a).yld i H' x H2 → g x σ' H2 fun σ3 H3 => te σ3 H3 fun v H4 => N (ys ++ [v]) σ3 H4)
def CompT (K : PySem.W.Frag) (k : Nat) (js : List Nat) (g : TG) (te : TE) (σ : St) (x : V) (H1 : Hp) (Q : VK) : Prop := ∃ a, x = .ref a ∧ (∃ xs, SqT K H1 a xs) ∧ ∃ W : Nat → Nat → List V → St → Hp → Prop, (∃ m, W 0 m [] (compSt k js σ) H1) ∧ ∀ i m ys σ' H', W i m ys σ' H' →
    ((Itt K a).stop i H' ∧ ∀ p, H' p = none → Q (.ref p) (upd H' p (.lst ys))) ∨
    ((Itt K a).go i H' ∧ ys.length < sizeLine ∧ ∃ N : List V → St → Hp → Prop, (∀ zs σ2 H2, N zs σ2 H2 → ∃ m', m' < m ∧ W (i + 1) m' zs σ2 H2) ∧ ∀ x H2, (Itt K a).yld i H' x H2 → g x σ' H2 fun σ3 H3 => te σ3 H3 fun v H4 => N (ys ++ [v]) σ3 H4)
def CompR (lo : Int) (n k : Nat) (js : List Nat) (g : TG) (te : TE) (σ : St) (H1 : Hp) (Q : VK) : Prop := ∃ W : Nat → Nat → List V → St → Hp → Prop, (∃ m, W 0 m [] (compSt k js σ) H1) ∧ ∀ i m ys σ' H', W i m ys σ' H' →
    ((Itr lo n).stop i H' ∧ ∀ p, H' p = none → Q (.ref p) (upd H' p (.lst ys))) ∨
    ((Itr lo n).go i H' ∧ ys.length < sizeLine ∧ ∃ N : List V → St → Hp → Prop, (∀ zs σ2 H2, N zs σ2 H2 → ∃ m', m' < m ∧ W (i + 1) m' zs σ2 H2) ∧ ∀ x H2, (Itr lo n).yld i H' x H2 → g x σ' H2 fun σ3 H3 => te σ3 H3 fun v H4 => N (ys ++ [v]) σ3 H4)
theorem comp_eqL {k : Nat} {js : List Nat} {ti : TE} {g : TG} {te : TE} {σ : St} {H : Hp} {Q : VK} : tComp (iList K ti) k js g te σ H Q = ti σ H fun x H1 => CompL K k js g te σ x H1 Q := rfl
theorem comp_eqT {k : Nat} {js : List Nat} {ti : TE} {g : TG} {te : TE} {σ : St} {H : Hp} {Q : VK} : tComp (iTup K ti) k js g te σ H Q = ti σ H fun x H1 => CompT K k js g te σ x H1 Q := rfl
theorem comp_eqR1 {k : Nat} {js : List Nat} {ta : TA} {g : TG} {te : TE} {σ : St} {H : Hp} {Q : VK} : tComp (iRng1 ta) k js g te σ H Q = ta σ H fun vs H1 => ∃ j : Int, vs = [.int j] ∧ -(2 ^ 62) ≤ j ∧ j < 2 ^ 62 ∧ CompR 0 j.toNat k js g te σ H1 Q := rfl
theorem CompL.mk {a : Addr} {xs : List V} {k : Nat} {js : List Nat} {g : TG} {te : TE} {Q : VK} {σ : St} {H : Hp} (hS : SqL K H a xs) (Pv : Nat → List V → St → Hp → Prop) (h0 : Pv 0 [] (compSt k js σ) H) (hl : ∀ i ys σ H, i ≤ xs.length → Pv i ys σ H → SqL K H a xs)
    (hs : ∀ i x ys σ H, xs[i]? = some x → Pv i ys σ H → ys.length < sizeLine ∧ g x σ H fun σ3 H3 => te σ3 H3 fun v H4 => Pv (i + 1) (ys ++ [v]) σ3 H4) (hd : ∀ ys σ H, Pv xs.length ys σ H → ∀ p, H p = none → Q (.ref p) (upd H p (.lst ys))) :
    CompL K k js g te σ (.ref a) H Q := ⟨a, rfl, ⟨xs, hS⟩, comp_list Pv h0 hl hs hd⟩
theorem CompT.mk {a : Addr} {xs : List V} {k : Nat} {js : List Nat} {g : TG} {te : TE} {Q : VK} {σ : St} {H : Hp} (hS : SqT K H a xs) (Pv : Nat → List V → St → Hp → Prop) (h0 : Pv 0 [] (compSt k js σ) H) (hl : ∀ i ys σ H, i ≤ xs.length → Pv i ys σ H → SqT K H a xs)
    (hs : ∀ i x ys σ H, xs[i]? = some x → Pv i ys σ H → ys.length < sizeLine ∧ g x σ H fun σ3 H3 => te σ3 H3 fun v H4 => Pv (i + 1) (ys ++ [v]) σ3 H4) (hd : ∀ ys σ H, Pv xs.length ys σ H → ∀ p, H p = none → Q (.ref p) (upd H p (.lst ys))) :
    CompT K k js g te σ (.ref a) H Q := ⟨a, rfl, ⟨xs, hS⟩, comp_tup Pv h0 hl hs hd⟩
theorem CompR.mk {lo : Int} {n k : Nat} {js : List Nat} {g : TG} {te : TE} {Q : VK} {σ : St} {H : Hp} (Pv : Nat → List V → St → Hp → Prop) (h0 : Pv 0 [] (compSt k js σ) H)
    (hs : ∀ i ys σ H, i < n → Pv i ys σ H → ys.length < sizeLine ∧ g (.int (lo + i)) σ H fun σ3 H3 => te σ3 H3 fun v H4 => Pv (i + 1) (ys ++ [v]) σ3 H4) (hd : ∀ ys σ H, Pv n ys σ H → ∀ p, H p = none → Q (.ref p) (upd H p (.lst ys))) :
    CompR lo n k js g te σ H Q := comp_range Pv h0 hs hd
end
theorem cxOf_K {CX : CXT} {P : Program} {w : World} {K : PySem.W.Frag} {mg : Str → Option Value} {base : Heap} {N : List Str} {qual : Str} {scope : Scope} {f : Addr} {cd : Value} {A : Around} {outer : List Env} {s : Shared} {H : Hp} {E : XK} : (cxOf CX P w K mg base N qual scope f cd A outer s H E).K = K := rfl
theorem cxComp_K {X : Cx} {N : List Str} {scope : Scope} {cl : List (Str × Addr)} {C : Addr} {ex : List Addr} {s : Shared} {H : Hp} : (cxComp X N scope cl C ex s H).K = X.K := rfl
def tyS : V → Option String
  | .int _ => some "int"
  | .bl _ => some "bool"
  | .str _ => some "str"
  | .non => some "NoneType"
  | _ => none
def isiN (t n : String) : Bool := t == n || (t == "bool" && n == "int")
def isiB (x : V) (n : String) : Bool := match tyS x with
  | some t => isiN t n
  | none => false
theorem isi_ii {i : Int} : isiB (.int i) "int" = true := by show isiN "int" "int" = true; decide +kernel
theorem isi_ib {i : Int} : isiB (.int i) "bool" = false := by show isiN "int" "bool" = false; decide +kernel
theorem isi_bi {b : Bool} : isiB (.bl b) "int" = true := by show isiN "bool" "int" = true; decide +kernel
theorem isi_bb {b : Bool} : isiB (.bl b) "bool" = true := by show isiN "bool" "bool" = true; decide +kernel
theorem isi_it {i : Int} : isiB (.int i) "tuple" = false := by show isiN "int" "tuple" = false; decide +kernel
theorem kit_type {K : PySem.W.Frag} {t n : String} {b : Bool} (e : (if (Value.type t == Value.type n) = true then some true else if PySem.W.kitMeta n = true then (fastBuiltinMro t).map (·.contains (.type n)) else none) = some b) : PySem.W.kitOne K (.type t) (.type n) = some b := by
  unfold PySem.W.kitOne
  split at e
  · rename_i h; rw [if_pos h]; exact e
  · rename_i h; rw [if_neg h]; exact e
theorem kit_plain {K : PySem.W.Frag} {x : V} {t n : String} (hn : n ∈ ["int", "bool", "tuple", "list", "str"]) (ht : tyS x = some t) : PySem.W.kitOne K (.type t) (.type n) = some (isiB x n) := by
  simp only [List.mem_cons, List.mem_nil_iff, or_false] at hn
  cases x <;> simp only [tyS, reduceCtorEq, Option.some.injEq] at ht <;> subst ht <;> rcases hn with rfl | rfl | rfl | rfl | rfl <;> refine kit_type ?_ <;> simp only [isiB, tyS] <;> decide +kernel
theorem call_isiS {X : Cx} : CallR X (.builtin "isinstance") (fun xs H Q => ∃ x n, xs = [x, .ty n] ∧ (n ∈ ["int", "bool", "tuple", "list", "str"] ∧ (tyS x).isSome = true) ∧ Q (.bl (isiB x n)) H) := by
  intro pins s σ H xs us Q I r h
  obtain ⟨x, n, rfl, ⟨hn, hx⟩, q⟩ := h
  obtain ⟨t, ht⟩ := Option.isSome_iff_exists.mp hx
  refine call_isi pins s σ H _ us Q I r ⟨x, n, .type t, isiB x n, rfl, ?_, kit_plain hn ht, q⟩
  cases x <;> simp only [tyS, reduceCtorEq, Option.some.injEq] at ht <;> subst ht
  · exact .non
  · exact .bl _
  · exact .int _
  · exact .str _
end L2
namespace L2
open PySem PySem.Spec PyProof.Rows
theorem na2 : (Int.natAbs 2 < 18446744073709551616) = True := eq_true (by decide)
theorem na10 : (Int.natAbs 10 < 18446744073709551616) = True := eq_true (by decide)
theorem same_new {H : Hp} {p : Addr} (h : H p = none) (o : HO) : Same H (upd H p o) := fun b u q => by rw [upd_ne (ne_of_none q h)]; exact q
theorem small {n : Nat} (h : n ≤ 1000) : n ≤ sizeLine := Nat.le_of_lt (small1000 h)
theorem Same.tup {K : PySem.W.Frag} {H H' : Hp} {a : Addr} {xs : List V} (e : Same H H') (h : SqT K H a xs) : SqT K H' a xs := by
  rcases h with (h | ⟨o, h⟩) | h
  · exact .inl (.inl (e _ _ h))
  · exact .inl (.inr ⟨o, e _ _ h⟩)
  · exact .inr h
theorem st_one {σ : St} (h : σ.length = 1) : ∃ z, σ = [z] := by
  match σ, h with
  | [z], _ => exact ⟨z, rfl⟩
theorem take_succ' {α : Type} {l : List α} {i : Nat} {x : α} (h : l[i]? = some x) : l.take (i + 1) = l.take i ++ [x] := by
  rw [List.take_succ, h]; rfl
theorem CompL.vals {K : PySem.W.Frag} {a : Addr} {xs : List V} {te : TE} {Q : VK} {σ : St} {H : Hp} {fn : V → V} (hS : SqL K H a xs) (hz : xs.length ≤ 1000)
    (hs : ∀ x ∈ xs, ∀ H1, Same H H1 → ∀ Q' : VK, (∀ H2, Same H1 H2 → Q' (fn x) H2) → te [some x] H1 Q')
    (hd : ∀ H1, Same H H1 → ∀ p, H1 p = none → Q (.ref p) (upd H1 p (.lst (xs.map fn)))) : CompL K 1 [] (gName 0) te σ (.ref a) H Q := by
  refine CompL.mk hS (fun i ys σ' H' => Same H H' ∧ ys = (xs.take i).map fn ∧ σ'.length = 1) ⟨Same.refl _, rfl, rfl⟩ (fun i ys σ' H' _ h => h.1.seq hS) (fun i x ys σ' H' e h => ?_) (fun ys σ' H' h p hp => ?_)
  · obtain ⟨h1, rfl, h3⟩ := h
    obtain ⟨z, rfl⟩ := st_one h3
    refine ⟨?_, ?_⟩
    · rw [List.length_map, List.length_take]
      exact Nat.lt_of_le_of_lt (Nat.min_le_right _ _) (small1000 hz)
    · refine hs x (List.mem_of_getElem? e) H' h1 _ fun H2 h2 => ⟨h1.trans h2, ?_, rfl⟩
      rw [take_succ' e, List.map_append]; rfl
  · obtain ⟨h1, rfl, h3⟩ := h
    rw [List.take_length]
    exact hd H' h1 p hp
end L2
namespace L2
open PySem PySem.Spec PyProof.Rows
section
variable {X : Cx}
def rInT : R2 := fun x y H Q => ∃ p xs, y = .ref p ∧ H p = some (.tup xs) ∧ flatV x = true ∧ xs.all flatV = true ∧ Q (.bl (inV x xs)) H
def rInL : R2 := fun x y H Q => ∃ p xs, y = .ref p ∧ H p = some (.lst xs) ∧ flatV x = true ∧ xs.all flatV = true ∧ Q (.bl (inV x xs)) H
theorem op_inT : OpR X (compareOp .In) rInT := by
  intro pins s σ H x y v u Q I rx ry h
  obtain ⟨p, xs, rfl, hq, fx, fs, q⟩ := h
  exact op_in_seq pins s σ H x _ v u Q I rx ry ⟨p, xs, rfl, .inr (.of hq), fx, fs, q⟩
def rIxLH : R2 := fun x y H Q => ∃ p xs i v, x = .ref p ∧ y = .int i ∧ H p = some (.lst xs) ∧ atI xs i = some v ∧ Q v H
def rIxTH : R2 := fun x y H Q => ∃ p xs i v, x = .ref p ∧ y = .int i ∧ H p = some (.tup xs) ∧ atI xs i = some v ∧ Q v H
theorem ix_listH : IxR X rIxLH := by
  intro value slice pins s σ H x y v u Q I rx ry h hs
  obtain ⟨p, xs, i, z, rfl, rfl, hq, he, q⟩ := h
  exact ix_list value slice pins s σ H _ _ v u Q I rx ry ⟨p, xs, i, z, rfl, rfl, .of hq, he, q⟩ hs
theorem ix_tupH : IxR X rIxTH := by
  intro value slice pins s σ H x y v u Q I rx ry h hs
  obtain ⟨p, xs, i, z, rfl, rfl, hq, he, q⟩ := h
  exact ix_tup value slice pins s σ H _ _ v u Q I rx ry ⟨p, xs, i, z, rfl, rfl, .of hq, he, q⟩ hs
end
end L2
namespace L2
open PySem PySem.Spec PyProof.Rows
section
variable {X : Cx}
def gTupH (n : Nat) (t : TGs) : TG := fun v σ H Q => ∃ a xs, v = .ref a ∧ H a = some (.tup xs) ∧ xs.length = n ∧ t xs σ H Q
theorem pg_tupH {es : List Expr} {k : Nat} {pos : Pos} {t : TGs} {n : Nat} (h : PG X (.Tuple es k pos) (gTup X.K n t)) : PG X (.Tuple es k pos) (gTupH n t) := by
  intro pins s σ H v u Q I r q
  obtain ⟨a, xs, e, ha, hl, q⟩ := q
  exact h pins s σ H v u Q I r ⟨a, xs, e, .of ha, hl, q⟩
def tApp (to te : TE) : TE := fun σ H Q => to σ H fun x H1 => ∃ l, x = .ref l ∧ (∃ xs, H1 l = some (.lst xs)) ∧ te σ H1 fun v H2 => ∃ xs, H2 l = some (.lst xs) ∧ xs.length < sizeLine ∧ Q .non (upd H2 l (.lst (xs ++ [v])))
theorem pe_app {o e : Expr} {to te : TE} {apos cpos : Pos} (ho : PE X o to) (he : PE X e te)
    (hbase : attributeBase o "append" X.env (eval o X.env) = eval o X.env := by rfl) (hfew : ((backTo cpos (starEach [e] X.env)).all (fun x => !x.1) && (backToKw cpos (keywordEach [] X.env)).all (fun x => x.1.isSome)
      && decide ([e].length + ([] : List Keyword).length + (if ([] : List Keyword).isEmpty then 0 else 1) < 30)) = true := by rfl)
    (hline : (apos.endLine == cpos.line) = true := by rfl) (hs : starEach [e] X.env = [(false, eval e X.env)] := by rfl) : PE X (.Call (.Attribute o "append" apos) [e] [] cpos) (tApp to te) := by
  intro pins s σ H Q I h
  refine wpAny_Call_method_late hbase hfew hline rfl (thn (ho pins s σ H _ I h) fun v s1 ⟨x, H1, I1, r1, q1⟩ => ?_)
  obtain ⟨l, rfl, ⟨xs1, hx1⟩, q2⟩ := q1
  obtain ⟨h1, h2⟩ := tyV_is (T := "list") I1 r1 (.inl ⟨rfl, _, .of hx1⟩)
  refine ⟨"list", "list.append", PySem.F.plainAttrs_list, PySem.F.slot_list_append, PySem.F.type_list_append, h1, h2, ?_⟩
  have hA := (pa_cons he pa_nil hs) cpos pins s1 σ H1 (fun vs H2 => match vs with | [v] => ∃ xs, H2 l = some (.lst xs) ∧ xs.length < sizeLine ∧ Q .non (upd H2 l (.lst (xs ++ [v]))) | _ => False) I1 q2
  rw [hs] at hA ⊢
  refine Calls.callWith_builtin rfl (Calls.evalArgs_plain ?_)
  refine thn hA fun us s2 ⟨vs, H2, I2, r2, q3⟩ => ?_
  match vs, q3 with
  | [v2], ⟨xs, hx, hz, q⟩ => exact mt_append pins s2 σ H2 (.ref l) [v2] v us Q I2 r1 r2 ⟨l, xs, v2, rfl, rfl, hx, hz, q⟩
end
def SameX (l : Addr) (H H' : Hp) : Prop := ∀ b o, b ≠ l → H b = some o → H' b = some o
theorem SameX.refl (l : Addr) (H : Hp) : SameX l H H := fun _ _ _ h => h
theorem SameX.trans {l : Addr} {H H1 H2 : Hp} (a : SameX l H H1) (b : SameX l H1 H2) : SameX l H H2 := fun c o n h => b c o n (a c o n h)
theorem SameX.set {l : Addr} (H : Hp) (o : HO) : SameX l H (upd H l o) := fun b u n e => by rw [upd_ne n]; exact e
end L2
namespace L2
open PySem PySem.Spec PyProof.Rows
def rvObj (t : Addr) (i : Int) : Obj := { cls := .type "reversed", data := .fields #[.ref t, rawInt i] }
def IsRv (h : Heap) (a t : Addr) (i : Int) : Prop := ∃ o, h.get? a = some o ∧ o.cls = .type "reversed" ∧ o.data = .fields #[.ref t, rawInt i]
theorem IsRv.typeIs {s : Shared} {a t : Addr} {i : Int} (x : IsRv s.heap a t i) : s.TypeIs (.ref a) "reversed" := let ⟨o, ho, hc, _⟩ := x; ⟨o, ho, hc⟩
theorem tup_norev : typeLookup (.type "tuple") "__reversed__" = pure none := by rw [typeLookup_type, builtinLookup_eq_fast]; kernel_rfl
theorem tup_getitem : typeLookup (.type "tuple") "__getitem__" = pure (some (.builtin "tuple.__getitem__")) := by rw [typeLookup_type, builtinLookup_eq_fast]; kernel_rfl
theorem tup_nodict : isSubtype (.type "tuple") (.type "dict") = pure false := by rw [isSubtype_type]; kernel_rfl
theorem rv_init : Slot "reversed" "__init__" "object.__init__" :=
  .of (owner := "object") (n := "__init__") (by rw [typeLookup_type, builtinLookup_eq_fast]; kernel_rfl) (by decide +kernel) (by decide +kernel) (by decide +kernel) (.inl (by decide +kernel)) (by rw [isSubtype_type]; kernel_rfl)
theorem rv_next : Slot "reversed" "__next__" "reversed.__next__" :=
  .of (owner := "reversed") (n := "__next__") (by rw [typeLookup_type, builtinLookup_eq_fast]; kernel_rfl) (by decide +kernel) (by decide +kernel) (by decide +kernel) (.inl (by decide +kernel)) (by rw [isSubtype_type]; kernel_rfl)
theorem rv_iter : Slot "reversed" "__iter__" "reversed.__iter__" :=
  .of (owner := "reversed") (n := "__iter__") (by rw [typeLookup_type, builtinLookup_eq_fast]; kernel_rfl) (by decide +kernel) (by decide +kernel) (by decide +kernel) (.inl (by decide +kernel)) (by rw [isSubtype_type]; kernel_rfl)
theorem rv_entry_next : entryFor table "reversed.__next__" = some Builtin.«reversed.__next__» := entryFor_of_tree (by kernel_rfl)
theorem rv_entry_iter : entryFor table "reversed.__iter__" = some Builtin.«dict_keyiterator.__iter__» :=
  entryFor_alias (id' := "dict_keyiterator.__iter__") (by kernel_rfl) (by first | rfl | decide +kernel) (by decide +kernel) (by kernel_rfl)
theorem rv_args_next (a : Value) : argsOk "reversed.__next__" ⟨[a], []⟩ := by unfold argsOk; kernel_rfl
theorem rv_args_iter (a : Value) : argsOk "reversed.__iter__" ⟨[a], []⟩ := by unfold argsOk; kernel_rfl
theorem rv_called : TypeCalled "reversed" "reversed.__new__" "object.__init__" :=
  ⟨by decide +kernel, PySem.F.create_reversed, ⟨_, _, PySem.F.mro_reversed⟩, PySem.F.made_reversed, PySem.F.plain_reversed_new, PySem.F.sub_reversed_self, rv_init⟩
theorem rv_new (t : Addr) (items : Array Value) (hz : (items.size : Int) < 2 ^ 63) : Meets (Builtin.«reversed.__new__» ⟨[.type "reversed", .ref t], []⟩)
    (fun _ R s => IsTup s.heap t items ∧ ∀ tk, R (.ok (.ret (.ref s.heap.objs.size))) { s with heap := s.heap.push (rvObj t ((items.size : Int) - 1)), toks := tk }) :=
  .of_wp fun prog w A R s h => by
    obtain ⟨ht, h⟩ := h
    have hT : s.TypeIs (.ref t) "tuple" := ht.typeIs
    unfold Builtin.«reversed.__new__»
    refine wpAny_bind (wpAny_of_eq (PySem.newClass_reversed _) ?_)
    try dsimp only
    refine wpAny_bind (wpAny_of_eq (a := ()) (by first | rfl | kernel_rfl) ?_)
    refine wpAny_bind (wpAny_of_eq (a := ()) (by first | rfl | kernel_rfl) ?_)
    try dsimp only
    refine wpAny_bind (wpAny_specialOf hT tup_norev ?_)
    try dsimp only
    refine wpAny_bind ?_
    k_delta "hasItemSlot"
    refine wpAny_bind (wpAny_isInstance (T := "tuple") (b := false) hT tup_nodict ?_)
    rw [if_neg Bool.false_ne_true]
    refine wpAny_bind (wpAny_specialOf hT tup_getitem ?_)
    dsimp only
    rw [if_pos (by decide +kernel)]
    refine wpAny_pure ?_
    rw [if_neg (by decide)]
    refine wpAny_bind (len_tuple ht hz ?_)
    refine wpAny_bind (wpAny_of_eq (a := some (items.size : Int)) rfl ?_)
    dsimp only
    refine wpAny_bind ?_
    unfold Builtin.SmallTypes.newRecord
    refine wpAny_newObj_type (wpAny_pure ⟨_, rfl, h _⟩)
section
variable {prog : Program} {w : World} {A : Around} {E : Value → Shared → Prop} {s : Shared}
theorem call_rv {t : Addr} {items : Array Value} {Q : Value → Shared → Prop} (ht : IsTup s.heap t items) (hz : (items.size : Int) < 2 ^ 63)
    (h : ∀ tk, Q (.ref s.heap.objs.size) { s with heap := s.heap.push (rvObj t ((items.size : Int) - 1)), toks := tk }) : wpAny (model prog w) A (call (.type "reversed") [.ref t]) Q E s :=
  callType_new rv_called (by decide) (PySem.F.typeCall_reversed_1 _) (PySem.F.newCall_reversed_1 _) (fun obj => F.args_object_init_2 obj _) PySem.F.entry_reversed_new (rv_new t items hz)
    ⟨ht, fun tk => ⟨⟨_, Heap.get?_push_size _ rfl, rfl⟩, h tk⟩⟩
theorem rv_item {it t : Addr} {i : Nat} {items : Array Value} {x : Value} {Q : Option Value → Shared → Prop} (hit : IsRv s.heap it t (i : Int)) (ht : IsTup s.heap t items) (hx : items[i]? = some x) (hz : (items.size : Int) < 2 ^ 63)
    (hQ : ∀ h' tk, IsRv h' it t ((i : Int) - 1) → Heap.SameBut it s.heap h' → Q (some x) { s with heap := h', toks := tk }) : wpAny (model prog w) A (pyNext (.ref it)) Q E s := by
  obtain ⟨o, ho, hc, hd⟩ := id hit
  have hT : s.TypeIs (.ref t) "tuple" := ht.typeIs
  have hi : i < items.size := (Array.getElem?_eq_some_iff.mp hx).1
  unfold pyNext
  refine wpAny_bind (wpAny_attempt (wpAny_callSpecial?_slot (name := Str.ofString "__next__") hit.typeIs rv_next (wpAny_call_entry rv_next hit.typeIs rv_entry_next ?_ (rv_args_next _))))
  unfold Builtin.«reversed.__next__»
  refine wpAny_bind (wpAny_of_eq (a := (Value.ref it, [])) rfl ?_)
  try dsimp only
  refine wpAny_bind (wpAny_field ho hd (x := .ref t) rfl ?_)
  refine wpAny_bind (wpAny_field ho hd (x := rawInt (i : Int)) rfl ?_)
  show wpAny _ _ (if (i : Int) < 0 then _ else _) _ _ s
  rw [if_neg (by omega)]
  refine wpAny_bind (wpAny_specialOf hT tup_getitem ?_)
  rw [if_neg (by decide)]
  refine wpAny_bind (wpAny_mkInt ?_)
  refine wpAny_bind (wpAny_attempt (getItem_tuple (k := (i : Int)) (j := i) ht (by omega) (by omega) (by simp [seqIndex?]; omega) hx ?_))
  dsimp only
  refine wpAny_bind (wpAny_field ho hd (x := rawInt (i : Int)) rfl ?_)
  show wpAny _ _ (setField (.ref it) 1 (rawInt ((i : Int) - 1)) >>= _) _ _ _
  refine wpAny_bind (wpAny_setField ho hd (by simp) ?_)
  refine wpAny_pure ⟨x, rfl, wpAny_pure (hQ _ _ ?_ (Heap.SameBut.update ..))⟩
  exact ⟨_, Heap.get?_update_self _ ho (Obj.isFreed_of_fields (Obj.data_mapFields hd _)), (Obj.cls_mapFields ..).trans hc, by rw [Obj.data_mapFields hd]; simp⟩
theorem rv_end {it t : Addr} {Q : Option Value → Shared → Prop} (hh : A.handled = none) (hit : IsRv s.heap it t (-1)) (hQ : ∀ h' tk, Heap.ExtBut it s.heap h' → Q none { s with heap := h', toks := tk }) : wpAny (model prog w) A (pyNext (.ref it)) Q E s := by
  obtain ⟨o, ho, hc, hd⟩ := id hit
  unfold pyNext
  refine wpAny_bind (wpAny_attempt (wpAny_callSpecial?_slot (name := Str.ofString "__next__") hit.typeIs rv_next (wpAny_call_entry rv_next hit.typeIs rv_entry_next ?_ (rv_args_next _))))
  unfold Builtin.«reversed.__next__»
  refine wpAny_bind (wpAny_of_eq (a := (Value.ref it, [])) rfl ?_)
  try dsimp only
  refine wpAny_bind (wpAny_field ho hd (x := .ref t) rfl ?_)
  refine wpAny_bind (wpAny_field ho hd (x := rawInt (-1)) rfl ?_)
  show wpAny _ _ (if (-1 : Int) < 0 then _ else _) _ _ s
  rw [if_pos (by decide)]
  refine wpAny_bind (wpAny_rule ?_)
  refine wpAny_bind ?_
  k_delta "reversedEnd"
  refine wpAny_bind (wpAny_setField ho hd (by simp) ?_)
  refine wpAny_setField (Heap.get?_update_self _ ho (Obj.isFreed_of_fields (Obj.data_mapFields hd _))) (Obj.data_mapFields hd _) (by simp) ?_
  refine wpAny_bind ?_
  have other : ∀ b u, b ≠ it → s.heap.get? b = some u → ((s.heap.update it (Obj.mapFields fun x => x.setIfInBounds 1 (rawInt (-1)))).update it (Obj.mapFields fun x => x.setIfInBounds 0 Value.none)).get? b = some u := fun b u nb e => by
    rw [Heap.get?_update_other _ _ (Ne.symm nb), Heap.get?_update_other _ _ (Ne.symm nb)]; exact e
  generalize ((s.heap.update it (Obj.mapFields fun x => x.setIfInBounds 1 (rawInt (-1)))).update it (Obj.mapFields fun x => x.setIfInBounds 0 Value.none)) = hU at *
  show wpAny _ _ (newExc (.type "StopIteration") [] >>= _) _ _ _
  refine wpAny_bind ?_
  simp only [newExc, newTuple]
  refine wpAny_bind (wpAny_newObj_type ?_ (by size_fits))
  refine wpAny_bind (m := firstArgMember _ _) (wpAny_of_eq (a := Value.none) (by first | rfl | (simp only [firstArgMember]; rfl)) ?_)
  refine wpAny_newObj_type ?_ (by size_fits)
  simp only [raiseNew]
  refine wpAny_bind (wpAny_handled ?_)
  rw [show A.in1.handled = none from hh]
  refine wpAny_bind (wpAny_pure (wpAny_throw ?_))
  refine wpAny_bind (wpAny_isInstance (T := "StopIteration") (b := true) ⟨_, Heap.get?_push_size _ rfl, rfl⟩ isSubtype_stop ?_)
  exact wpAny_pure (hQ _ _ fun b u nb e => Heap.get?_push_of_some _ (Heap.get?_push_of_some _ (other b u nb e)))
theorem rv_self {it t : Addr} {i : Int} {Q : Value → Shared → Prop} (hit : IsRv s.heap it t i) (h : Q (.ref it) s) : wpAny (model prog w) A (pyIter (.ref it)) Q E s := by
  refine wpAny_pyIter_slot hit.typeIs rv_iter (wpAny_call_entry rv_iter hit.typeIs rv_entry_iter ?_ (rv_args_iter _))
  show wpAny _ _ (ret (.ref it)) _ _ s
  exact wpAny_pure ⟨_, rfl, "reversed", _, hit.typeIs, rv_next.lookup, h⟩
end
def Itrv (K : PySem.W.Frag) (a : Addr) (n : Nat) : It := ⟨fun i H => ∃ xs, SqT K H a xs ∧ xs.length = n ∧ i < n, fun i H x H' => H' = H ∧ ∀ xs, SqT K H a xs → xs[n - 1 - i]? = some x, fun i H => ∃ xs, SqT K H a xs ∧ xs.length = n ∧ i = n⟩
theorem line63' : (sizeLine : Int) < 2 ^ 63 := by rw [sizeLine_eq]; decide
theorem turn_rv {P : Program} {w : World} {K : PySem.W.Frag} {tg : Expr} (a it : Addr) (n : Nat) : Turn P w K tg (Itrv K a n) [it] it (fun i h => IsRv h it a ((n : Int) - 1 - (i : Int))) where
  mem := by simp
  obj := fun i h x b hb => by
    have e : b = it := by simpa using hb
    subst e
    obtain ⟨o, ho, _, hd⟩ := x
    exact ⟨o, ho, fun v q => by rw [hd] at q; cases q⟩
  keep := fun i h h' x k => let ⟨o, ho, r⟩ := x; ⟨o, k it (by simp) o ho, r⟩
  item := by
    intro X hP hw hK hc i pins s σ H E I hf st hg
    subst hP hw hK
    obtain ⟨xs, hq, hn, hi⟩ := hg
    obtain ⟨its, rv, p, hz⟩ := I.tuple hq
    have hx : xs[n - 1 - i]? = some (xs[n - 1 - i]'(by omega)) := List.getElem?_eq_getElem (by omega)
    obtain ⟨u, hu, ru⟩ := rv.get hx
    obtain ⟨f0, f1, f2, f3, f4, f5⟩ := hf it (by simp)
    have e : (n : Int) - 1 - (i : Int) = ((n - 1 - i : Nat) : Int) := by omega
    rw [e] at st
    have hl := rv.length
    have z63 := line63'
    refine rv_item st p (x := u) (by simpa using hu) (by simp; omega) fun h' tk st' sb => ?_
    have I1 : Inv X pins σ H { s with heap := h', toks := tk } := I.turned (t' := tk) (fun b o hb e => (sb.2 b hb).trans e) f0 f1 f3 f4 f5
    obtain ⟨o, e, c, d⟩ := id st'
    have e2 : ((n - 1 - i : Nat) : Int) - 1 = (n : Int) - 1 - ((i + 1 : Nat) : Int) := by omega
    rw [e2] at st'
    exact ⟨u, rfl, go_of (s := { s with heap := h', toks := tk }) e c d (by decide) ⟨_, H, I1, ru, ⟨rfl, fun ys hy => by rw [I.tuple_inj hy hq]; exact hx⟩, st', fun b hb => (hf b hb).1⟩⟩
  done := by
    intro X hP hw hK hc i pins s σ H E I hf st hg
    subst hP hw hK
    obtain ⟨xs, hq, hn, hi⟩ := hg
    obtain ⟨f0, f1, f2, f3, f4, f5⟩ := hf it (by simp)
    have e : (n : Int) - 1 - (i : Int) = -1 := by omega
    rw [e] at st
    exact rv_end (I.ok.hd hc) st fun h' tk eb => ⟨rfl, I.turned (t' := tk) (fun b o hb e => eb b o hb e) f0 f1 f3 f4 f5⟩
  self := fun _ _ _ _ _ st h => rv_self st h
section
variable {X : Cx} {tg : Expr}
def iRevT (K : PySem.W.Frag) (te : TE) : TI := fun σ H R => te σ H fun x H1 => ∃ a xs, x = .ref a ∧ SqT K H1 a xs ∧ R (Itrv K a xs.length) H1
theorem pi_revT {e : Expr} {te : TE} {p pos : Pos} (hg : Gl X "reversed") (hm : X.mg "reversed" = none) (he : PE X e te) (hs : starEach [e] X.env = [(false, eval e X.env)] := by rfl) :
    PI X tg (.Call (.Name "reversed" p) [e] [] pos) (iRevT X.K te) := by
  intro pins s σ H R I h
  have hA := (pa_cons he (pa_nil (X := X)) hs) pos pins s σ H (fun vs H1 => match vs with | [x] => ∃ a xs, x = .ref a ∧ SqT X.K H1 a xs ∧ R (Itrv X.K a xs.length) H1 | _ => False) I h
  refine Call_ (ld_blt I hg hm boot_reversed (PyProof.Rows.callWith_type1 (thn hA fun us s1 ⟨vs, H1, I1, r1, q1⟩ => ?_) hs rfl))
  match vs, q1 with
  | [x], ⟨a, xs, e, hq, q⟩ =>
    subst e
    obtain ⟨u, rfl, ru⟩ := vals1 r1
    cases (show u = Value.ref a from ru)
    obtain ⟨its, rv, p, hz⟩ := I1.tuple hq
    have hl := rv.length
    have z63 := line63'
    refine call_rv p (by simp; omega) fun tk => ?_
    have I2 : Inv X pins σ H1 { s1 with heap := s1.heap.push (rvObj a ((its.toArray.size : Int) - 1)), toks := tk } := I1.kept (t' := tk) fun b o e => Heap.get?_push_of_some _ e
    have ir : IsRv (s1.heap.push (rvObj a ((its.toArray.size : Int) - 1))) s1.heap.objs.size a ((xs.length : Int) - 1 - ((0 : Nat) : Int)) := by
      refine ⟨_, Heap.get?_push_size _ rfl, rfl, ?_⟩
      show Data.fields #[.ref a, rawInt ((its.toArray.size : Int) - 1)] = _
      have e : ((its.toArray.size : Nat) : Int) - 1 = (xs.length : Int) - 1 - ((0 : Nat) : Int) := by simp; omega
      rw [e]
    refine rv_self ir ⟨s1.heap.objs.size, [s1.heap.objs.size], _, _, H1, rfl, I2, turn_rv a _ xs.length, ir, fun b hb => ?_, q⟩
    have e : b = s1.heap.objs.size := by simpa using hb
    subst e
    exact I1.fpOk (Nat.le_refl _) (I1.hok.fresh (Nat.le_refl _))
end
def LoopV (K : PySem.W.Frag) (g : TG) (tb : TS) (D : Ends) (σ : St) (x : V) (H1 : Hp) : Prop := ∃ a xs, x = .ref a ∧ SqT K H1 a xs ∧ ∃ W : Nat → Nat → St → Hp → Prop, (∃ m, W 0 m σ H1) ∧ ∀ i m σ H, W i m σ H →
  ((Itrv K a xs.length).stop i H ∧ D.nx σ H) ∨ ((Itrv K a xs.length).go i H ∧ ∃ N : St → Hp → Prop, (∀ σ' H', N σ' H' → ∃ m', m' < m ∧ W (i + 1) m' σ' H') ∧ ∀ x H', (Itrv K a xs.length).yld i H x H' → g x σ H' fun σ2 H2 => tb { D with nx := N, ct := N, bk := D.nx } σ2 H2)
theorem for_eqV {K : PySem.W.Frag} {te : TE} {g : TG} {tb : TS} {D : Ends} {σ : St} {H : Hp} : tFor (iRevT K te) g tb D σ H = te σ H fun x H1 => LoopV K g tb D σ x H1 := rfl
theorem LoopV.mk {K : PySem.W.Frag} {a : Addr} {xs : List V} {g : TG} {tb : TS} {D : Ends} {σ : St} {H : Hp} (hS : SqT K H a xs) (Pv : Nat → St → Hp → Prop) (h0 : Pv 0 σ H) (hl : ∀ i σ H, i ≤ xs.length → Pv i σ H → SqT K H a xs)
    (hs : ∀ i x σ H, i < xs.length → xs[xs.length - 1 - i]? = some x → Pv i σ H → g x σ H fun σ2 H2 => tb { D with nx := Pv (i + 1), ct := Pv (i + 1), bk := D.nx } σ2 H2) (hd : ∀ σ H, Pv xs.length σ H → D.nx σ H) : LoopV K g tb D σ (.ref a) H := by
  refine ⟨a, xs, rfl, hS, fun i m σ H => m = xs.length - i ∧ i ≤ xs.length ∧ Pv i σ H, ⟨xs.length, by simp, Nat.zero_le _, h0⟩, ?_⟩
  rintro i m σ H ⟨rfl, hi, p⟩
  have q := hl i σ H hi p
  by_cases hlt : i < xs.length
  · refine .inr ⟨⟨xs, q, rfl, hlt⟩, Pv (i + 1), fun σ' H' p' => ⟨xs.length - (i + 1), by omega, rfl, hlt, p'⟩, fun x H' y => ?_⟩
    obtain ⟨e, y⟩ := y
    subst e
    exact hs i x σ _ hlt (y xs q) p
  · have e : i = xs.length := by omega
    subst e
    exact .inl ⟨⟨xs, q, rfl, rfl⟩, hd σ H p⟩
end L2
namespace L2
open PySem PySem.Spec PyProof.Rows
theorem lri_nolen : typeLookup (.type "list_reverseiterator") "__len__" = pure none := by rw [typeLookup_type, builtinLookup_eq_fast]; kernel_rfl
theorem lri_hint : typeLookup (.type "list_reverseiterator") "__length_hint__" = pure (some (.builtin "list_reverseiterator.__length_hint__")) := by rw [typeLookup_type, builtinLookup_eq_fast]; kernel_rfl
section
variable {pg : Program} {wd : World} {B : Around} {X0 : Value → Shared → Prop} {s0 : Shared} {J : Addr} {fs ws : List Addr} {Gg : Array GenState → Array GenState → Prop} {m : Nat} {Pr : Nat → Value → Prop} {Sx : Nat → Shared → Prop}
theorem collect_lri {R : List Value → Shared → Prop} (wk : WalksS pg wd B.in1 J fs ws Gg m Pr Sx) (ty : ∀ j z, Sx j z → z.TypeIs (.ref J) "list_reverseiterator") (z0 : Sx 0 s0) (lt : ∀ b ∈ fs, b < s0.heap.objs.size) (mJ : J ∈ fs) (sm : m ≤ sizeLine)
    (fin : ∀ z' ac, Moved ws Gg s0 z' → ItemsOf Pr ac m → R ac.toList z') : wpAny (model pg wd) B (collect (.ref J)) R X0 s0 := by
  have out : s0.heap.objs.size ∉ fs := fun q => absurd (lt _ q) (Nat.lt_irrefl _)
  have neJ : s0.heap.objs.size ≠ J := by rintro rfl; exact out mJ
  let nu : Obj := { cls := .type "list", data := .seq ([] : List Value).toArray }
  unfold collect
  refine wpAny_bind (wpAny_runValue (codeAny_builtin F.entry_proto_collect ?_))
  rw [Around.under_plainId F.plain_proto_collect _]
  show wpAny _ B.in1 (newList [] >>= fun q => again (.builtin "list.__iadd__" ⟨[q, .ref J], []⟩)) _ _ s0
  refine wpAny_bind (wpAny_newObj_type ?_)
  refine wpAny_pure ⟨plainId_quiet F.plain_list_iadd _, codeAny_builtin F.entry_list_iadd ?_⟩
  rw [Around.under_plainId F.plain_list_iadd _]
  have z1 := wk.frame 0 s0 (s0.heap.push nu) s0.toks z0 (Nat.le_refl _) fun b _ o e => Heap.get?_push_of_some _ e
  have at1 : (s0.heap.push nu).get? s0.heap.objs.size = some nu := Heap.get?_push_size _ rfl
  have dif : Builtin.List.listSameRef (.ref s0.heap.objs.size) (.ref J) = false := by simp [Builtin.List.listSameRef, neJ]
  show wpAny _ B.in1 (Builtin.List.listExtendWith (.ref s0.heap.objs.size) (.ref J) (.ref s0.heap.objs.size)) _ _ _
  unfold Builtin.List.listExtendWith
  refine wpAny_bind (wpAny_typeOf (ty 0 _ z1) ?_)
  rw [if_neg (by rw [dif]; decide)]
  refine wpAny_bind (wk.self 0 _ _ _ z1 ?_)
  refine wpAny_bind (wpAny_holding ?_)
  unfold Builtin.List.listLengthHint
  refine wpAny_bind (wpAny_specialOf (ty 0 _ z1) lri_nolen ?_)
  show wpAny _ B.in1 (specialOf (Value.ref J) (Str.ofString "__length_hint__") >>= _) _ _ _
  refine wpAny_bind (wpAny_specialOf (ty 0 _ z1) lri_hint ?_)
  (generalize hid : ("list_reverseiterator.__length_hint__" : String) = id0; wp_delta; rw [show splitId id0 = some ("list_reverseiterator", "__length_hint__") from by subst hid; decide +kernel]; subst hid)
  refine wpAny_bind (wpAny_isInstance (b := true) (ty 0 _ z1) (by rw [isSubtype_type]; kernel_rfl) ?_)
  refine wpAny_pure ?_
  rw [if_neg (by decide)]
  refine wpAny_pure ⟨plainId_quiet F.plain_extend_loop _, codeAny_extend_loopS wk sm _ out _ m 0 _ _ _ rfl (Nat.zero_le _) z1 at1 (ItemsOf.nil Pr) fun z' ac cc mv at2 its => ?_⟩
  show wpAny _ B (load s0.heap.objs.size >>= _) _ _ z'
  exact wpAny_bind (wpAny_load at2 (wpAny_pure (fin z' ac (Moved.drop_new (o := nu) (tk := s0.toks) mv (Nat.le_refl _)) its)))
theorem new_tuple_lri {R : Value → Shared → Prop} (wk : WalksS pg wd B.in1.in1 J fs ws Gg m Pr Sx) (ty : ∀ j z, Sx j z → z.TypeIs (.ref J) "list_reverseiterator") (z0 : Sx 0 s0) (lt : ∀ b ∈ fs, b < s0.heap.objs.size) (mJ : J ∈ fs) (sm : m ≤ sizeLine)
    (fin : ∀ z' ac, Moved ws Gg s0 z' → ItemsOf Pr ac m → R (.ref z'.heap.objs.size) { z' with heap := z'.heap.push { cls := .type "tuple", data := .seq ac } }) :
    codeAny (model pg wd) B (.call (.builtin "tuple.__new__") ⟨[.type "tuple", .ref J], []⟩) (wants R X0) s0 := by
  refine codeAny_of_tree ?_
  show wpAny _ B.in1 (do checkBuiltinCall "tuple.__new__" ⟨[.type "tuple", .ref J], []⟩; again (.builtin "tuple.__new__" ⟨[.type "tuple", .ref J], []⟩)) _ _ s0
  refine wpAny_bind (wpAny_of_eq (F.newCall_tuple_1 _) (wpAny_pure ⟨plainId_quiet F.plain_tuple_new _, codeAny_builtin F.entry_tuple_new ?_⟩))
  rw [Around.under_plainId F.plain_tuple_new _]
  have q1 := sub_tuple_self
  have q2 := init_tuple_lookup
  have q3 := madeHere_tuple
  have q4 := ty 0 s0 z0
  wp_walk using wpAny_typeOf q4, collect_lri (sm := sm) wk ty z0 lt mJ
  intro z' ac mv its
  show wpAny _ _ (Builtin.Tuple.tupleExact ac.toList.toArray >>= fun q => ret q) _ _ _
  have e : ac.toList.toArray = ac := by simp
  rw [e]
  unfold Builtin.Tuple.tupleExact
  exact wpAny_bind (wpAny_newObj_type (wpAny_pure (fin z' ac mv its)) (by show ac.size ≤ sizeLine; rw [its.1]; exact sm))
theorem call_tuple_lri {R : Value → Shared → Prop} (wk : WalksS pg wd B.in1.in1.in1 J fs ws Gg m Pr Sx) (ty : ∀ j z, Sx j z → z.TypeIs (.ref J) "list_reverseiterator") (z0 : Sx 0 s0) (lt : ∀ b ∈ fs, b < s0.heap.objs.size) (mJ : J ∈ fs) (sm : m ≤ sizeLine)
    (fin : ∀ z' ac, Moved ws Gg s0 z' → ItemsOf Pr ac m → R (.ref z'.heap.objs.size) { z' with heap := z'.heap.push { cls := .type "tuple", data := .seq ac } }) :
    wpAny (model pg wd) B (call (.type "tuple") [.ref J]) R X0 s0 :=
  callType_codes (Q₁ := fun ob z => z.TypeIs ob "tuple" ∧ R ob z) F.called_tuple (F.typeCall_tuple_1 _) F.entry_object_init
    (new_tuple_lri (sm := sm) wk ty z0 lt mJ fun z' ac mv its => ⟨⟨_, Heap.get?_push_size _ rfl, rfl⟩, fin z' ac mv its⟩)
    fun ob z q => ⟨q.1, F.args_object_init_2 ob _, object_init_meets F.called_tuple.init.lookup F.called_tuple.made (by decide) pg wd B.in1 _ z ⟨q.1, rfl, q.2⟩⟩
end
section
variable {X : Cx}
def tTupRev (K : PySem.W.Frag) (te : TE) : TE := fun σ H Q => te σ H fun x H1 => ∃ a xs, x = .ref a ∧ SqL K H1 a xs ∧ ∀ p, H1 p = none → Q (.ref p) (upd H1 p (.tup xs.reverse))
theorem pe_tupRev {e : Expr} {te : TE} {p1 p2 pos pos' : Pos} (hc : X.calm = true) (ht : Gl X "tuple") (hr : Gl X "reversed") (mt : X.mg "tuple" = none) (mr : X.mg "reversed" = none) (he : PE X e te) (hs : starEach [e] X.env = [(false, eval e X.env)] := by rfl) :
    PE X (.Call (.Name "tuple" p1) [.Call (.Name "reversed" p2) [e] [] pos'] [] pos) (tTupRev X.K te) := by
  intro pins s σ H Q I h
  refine Call_ (ld_blt I ht mt boot_tuple (PyProof.Rows.callWith_type1 ?_ rfl rfl))
  refine Calls.spliced_cons ?_
  have hA := (pa_cons he (pa_nil (X := X)) hs) pos' pins s σ H (fun vs H1 => match vs with | [x] => ∃ a xs, x = .ref a ∧ SqL X.K H1 a xs ∧ ∀ p, H1 p = none → Q (.ref p) (upd H1 p (.tup xs.reverse)) | _ => False) I h
  refine Call_ (ld_blt I hr mr boot_reversed (PyProof.Rows.callWith_type1 (thn hA fun us s1 ⟨vs, H1, I1, r1, q1⟩ => ?_) hs rfl))
  match vs, q1 with
  | [x], ⟨a, xs, e, hq, q⟩ =>
    subst e
    obtain ⟨u, rfl, ru⟩ := vals1 r1
    cases (show u = Value.ref a from ru)
    obtain ⟨its, rv, pl, hz⟩ := I1.list hq
    have hl := rv.length
    refine call_reversed_list pl.isList ?_
    refine Calls.spliced_nil ?_
    have I2 : Inv X pins σ H1 { s1 with heap := s1.heap.push (revObj a ((its.toArray.size : Int) - 1)) } := I1.kept (t' := s1.toks) fun b o e => Heap.get?_push_of_some _ e
    have al : a < s1.heap.objs.size := by obtain ⟨o, ho, _⟩ := pl.isList; exact Heap.lt_size ho
    have hne : a ≠ s1.heap.objs.size := Nat.ne_of_lt al
    have ir : (s1.heap.push (revObj a ((its.toArray.size : Int) - 1))).IsRevIter s1.heap.objs.size a ((its.toArray.size : Int) - 1 - ((0 : Nat) : Int)) := by
      refine ⟨_, Heap.get?_push_size _ rfl, rfl, ?_⟩
      have e : (its.toArray.size : Int) - 1 - ((0 : Nat) : Int) = (its.toArray.size : Int) - 1 := by omega
      rw [e]; rfl
    have sz : (s1.heap.push (revObj a ((its.toArray.size : Int) - 1))).objs.size = s1.heap.objs.size + 1 := by simp [Heap.push]
    have ff := I1.fpOk (Nat.le_refl s1.heap.objs.size) (I1.hok.fresh (Nat.le_refl _))
    refine call_tuple_lri (Walks.listRev (A := X.A.in1.in1.in1) (I.ok.hd hc) s1.heap.objs.size a hne its.toArray).toS (fun j z q => let ⟨o, ho, hk, _⟩ := q.2.1; ⟨o, ho, hk⟩)
      ⟨Nat.zero_le _, ir, pl.isList.at fun o e => Heap.get?_push_of_some _ e⟩ (fun b hb => ?_) (List.mem_cons_self ..) (by simp only [List.size_toArray]; omega) fun z' ac mv io => ?_
    · show b < (s1.heap.push (revObj a ((its.toArray.size : Int) - 1))).objs.size
      rw [sz]
      simp only [List.mem_cons, List.not_mem_nil, or_false] at hb
      rcases hb with rfl | rfl
      · exact Nat.lt_succ_self _
      · exact Nat.lt_succ_of_lt al
    have I3 : Inv X pins σ H1 z' := by
      obtain ⟨zh, zg, zd, zt, zo⟩ := z'
      have e1 : zg = s1.gens := mv.gens
      have e2 : zd = s1.drawn := mv.drawn
      have e3 : zo = s1.os := mv.os
      subst e1 e2 e3
      obtain ⟨f0, f1, f2, f3, f4, f5⟩ := ff
      exact I1.turned (t' := zt) (fun b o hb e => mv.heap b o (by simpa using hb) (Heap.get?_push_of_some _ e)) f0 f1 f3 f4 f5
    have er : ac = its.reverse.toArray := by
      have sz2 : ac.size = its.length := by simpa using io.1
      apply Array.ext
      · simp [sz2]
      · intro j h1 h2
        have q := io.2 j _ (Array.getElem?_eq_getElem h1)
        simp only [List.size_toArray, List.getElem?_toArray] at q
        have q2 : its.reverse[j]? = some ac[j] := by rw [List.getElem?_reverse (by omega)]; exact q
        rw [List.getElem_toArray]
        exact (Option.some.inj ((List.getElem?_eq_getElem (by simpa using h2)).symm.trans q2)).symm
    subst er
    have I4 : Inv X pins σ (upd H1 z'.heap.objs.size (.tup xs.reverse)) { z' with heap := z'.heap.push { cls := .type "tuple", data := .seq its.reverse.toArray } } :=
      I3.laid (t' := z'.toks) (fun b o e => Heap.get?_push_of_some _ e) (Nat.le_refl _) (show ObjOk X.prog X.w _ _ _ (.tup xs.reverse) from ⟨by simpa using hz, its.reverse, rv.reverse, IsTup.new _ _⟩)
    exact ⟨.ref z'.heap.objs.size, _, I4, rfl, q _ (I3.hok.fresh (Nat.le_refl _))⟩
end
end L2
namespace L2
open PySem PySem.Spec PyProof.Rows
section
variable {X : Cx}
def rCatA (K : PySem.W.Frag) : R2 := fun x y H Q => ∃ a b xs ys, x = .ref a ∧ y = .ref b ∧ SqT K H a xs ∧ SqT K H b ys ∧ xs.length + ys.length ≤ sizeLine ∧
  (xs = [] → Q (.ref b) H) ∧ (xs ≠ [] → ys = [] → Q (.ref a) H) ∧ (xs ≠ [] → ys ≠ [] → ∀ p, H p = none → Q (.ref p) (upd H p (.tup (xs ++ ys))))
theorem op_catA : OpR X (binaryOp .Add) (rCatA X.K) := by
  intro pins s σ H x y v u Q I rx ry h
  obtain ⟨a, b, xs, ys, rfl, rfl, ha, hb, hz, q0, q1, q2⟩ := h
  by_cases hx : xs = []
  · cases rx
    cases ry
    obtain ⟨its, r1, p1, _⟩ := I.tuple ha
    obtain ⟨its2, r2, p2, _⟩ := I.tuple hb
    have e1 : its = [] := r1.nil_iff.mpr hx
    obtain ⟨⟨c1, d1, z1, l1⟩, g1, hc1, n1, hd1⟩ := id p1
    obtain ⟨⟨c2, d2, z2, l2⟩, g2, hc2, n2, hd2⟩ := id p2
    simp only at hc1 hd1 hc2 hd2
    subst hc1 hd1 hc2 hd2
    exact concat_meets ⟨_, g1, rfl⟩ ⟨_, g2, rfl⟩ noFill_tuple_add seq_tuple_add PySem.F.slot_tuple_add PySem.F.entry_tuple_add (PySem.F.args_tuple_add_2 _ _)
      (tuple_addW0 a b its.toArray its2.toArray n1 n2 d1 d2 l1 l2 (by simp [e1])) ⟨g1, g2, .ref b, H, I, rfl, q0 hx⟩
  · exact op_catT pins s σ H _ _ v u Q I rx ry ⟨a, b, xs, ys, rfl, rfl, ha, hb, hx, hz, q1 hx, q2 hx⟩
def eqVs : List V → List V → Bool
  | [], [] => true
  | x :: xs, y :: ys => eqV x y && eqVs xs ys
  | _, _ => false
theorem eqVs_len : ∀ {xs ys : List V}, xs.length ≠ ys.length → eqVs xs ys = false
  | [], [], h => absurd rfl h
  | x :: xs, y :: ys, h => by
    have e : xs.length ≠ ys.length := fun z => h (by simp [z])
    simp [eqVs, eqVs_len e]
  | [], _ :: _, _ => rfl
  | _ :: _, [], _ => rfl
def eqAtI (xs ys : List V) (j : Nat) : Bool := match xs[j]?, ys[j]? with | some x, some y => eqV x y | _, _ => false
theorem eqVs_all : ∀ {xs ys : List V}, xs.length = ys.length → (List.range xs.length).all (eqAtI xs ys) = eqVs xs ys
  | [], [], _ => rfl
  | x :: xs, y :: ys, h => by
    have e : xs.length = ys.length := by simpa using h
    rw [List.length_cons, List.range_succ_eq_map, List.all_cons, List.all_map]
    have z : (eqAtI (x :: xs) (y :: ys) ∘ Nat.succ) = eqAtI xs ys := by funext j; simp [eqAtI]
    rw [z, eqVs_all e]
    rfl
  | [], _ :: _, h => by cases h
  | _ :: _, [], h => by cases h
theorem eqAtI_ok {A : Around} {s : Shared} {xs ys : List V} {us ws : List Value} (r1 : Vals xs us) (r2 : Vals ys ws) (f1 : xs.all flatV = true) (f2 : ys.all flatV = true) (j : Nat) (h1 : j < us.toArray.size) (h2 : j < ws.toArray.size) :
    SeqAt.EqAt A s us.toArray[j] ws.toArray[j] (eqAtI xs ys j) := by
  have l1 := r1.length
  have l2 := r2.length
  have k1 : j < xs.length := by rw [l1]; simpa using h1
  have k2 : j < ys.length := by rw [l2]; simpa using h2
  obtain ⟨u, hu, ru⟩ := r1.get (List.getElem?_eq_getElem k1)
  obtain ⟨v, hv, rv⟩ := r2.get (List.getElem?_eq_getElem k2)
  have e1 : us.toArray[j] = u := by
    have z : us[j]? = some (us[j]'(by simpa using h1)) := List.getElem?_eq_getElem _
    rw [z] at hu
    simpa using hu
  have e2 : ws.toArray[j] = v := by
    have z : ws[j]? = some (ws[j]'(by simpa using h2)) := List.getElem?_eq_getElem _
    rw [z] at hv
    simpa using hv
  rw [e1, e2]
  have e3 : eqAtI xs ys j = eqV xs[j] ys[j] := by simp [eqAtI, k1, k2]
  rw [e3]
  exact eqAt_V ru rv (List.all_eq_true.mp f1 _ (List.getElem_mem k1)) (List.all_eq_true.mp f2 _ (List.getElem_mem k2))
def rEqL (K : PySem.W.Frag) : R2 := fun x y H Q => ∃ a b xs ys, x = .ref a ∧ y = .ref b ∧ SqL K H a xs ∧ SqL K H b ys ∧ xs.all flatV = true ∧ ys.all flatV = true ∧ Q (.bl (eqVs xs ys)) H
def rEqT (K : PySem.W.Frag) : R2 := fun x y H Q => ∃ a b xs ys, x = .ref a ∧ y = .ref b ∧ SqT K H a xs ∧ SqT K H b ys ∧ xs.all flatV = true ∧ ys.all flatV = true ∧ Q (.bl (eqVs xs ys)) H
theorem op_eqT (hu : X.A.units < cLine) : OpR X (compareOp .Eq) (rEqT X.K) := by
  intro pins s σ H x y v u Q I rx ry h
  obtain ⟨a, b, xs, ys, rfl, rfl, ha, hb, f1, f2, q⟩ := h
  cases rx
  cases ry
  obtain ⟨us, r1, p1, _⟩ := I.tuple ha
  obtain ⟨ws, r2, p2, _⟩ := I.tuple hb
  refine SeqAt.eq_tupleAt (show s.heap.IsTuple a us.toArray from p1) (show s.heap.IsTuple b ws.toArray from p2) (e := eqAtI xs ys) hu (eqAtI_ok r1 r2 f1 f2) ?_
  have e1 : us.toArray.size = xs.length := by simp [r1.length]
  have e2 : ws.toArray.size = ys.length := by simp [r2.length]
  rw [e1, e2]
  by_cases hl : xs.length = ys.length
  · have z : ((List.range (min xs.length ys.length)).all (eqAtI xs ys) && xs.length == ys.length) = eqVs xs ys := by
      rw [← hl, Nat.min_self, eqVs_all hl]; simp
    rw [z]
    exact ⟨.bl _, H, I, rfl, q⟩
  · have z : ((List.range (min xs.length ys.length)).all (eqAtI xs ys) && xs.length == ys.length) = eqVs xs ys := by
      rw [eqVs_len hl]; simp [hl]
    rw [z]
    exact ⟨.bl _, H, I, rfl, q⟩
theorem flat_ints : ∀ (ns : List Int), (ns.map V.int).all flatV = true
  | [] => rfl
  | n :: ns => by simp [flatV]
theorem call_isiTT : CallR X (.builtin "isinstance") (fun xs H Q => ∃ a ys, xs = [.ref a, .ty "tuple"] ∧ H a = some (.tup ys) ∧ Q (.bl true) H) := by
  intro pins s σ H xs us Q I r h
  obtain ⟨a, ys, rfl, ha, q⟩ := h
  exact call_isi pins s σ H _ us Q I r ⟨.ref a, "tuple", .type "tuple", true, rfl, .tup ha, kit_type (by decide +kernel), q⟩
end
end L2
namespace L2
open PySem PySem.Spec PyProof.Rows
section
variable {pg : Program} {wd : World} {B : Around} {X0 : Value → Shared → Prop} {s0 : Shared}
theorem nx_tup_item {j t : Addr} {k : Nat} {its : Array Value} {x : Value} {R : Value → Shared → Prop} (p : s0.heap.IsTupleIter j t k) (q : s0.heap.IsTuple t its) (e : its[k]? = some x)
    (f : ∀ h', h'.IsTupleIter j t (k + 1) → Heap.SameBut j s0.heap h' → R x { s0 with heap := h' }) : wpAny (model pg wd) B (Builtin.SmallTypes.nextOf (.ref j)) R X0 s0 := by
  obtain ⟨o, g, c, d⟩ := id p
  obtain ⟨ot, gt, _, nt, dt⟩ := q
  unfold Builtin.SmallTypes.nextOf
  refine wpAny_bind (wpAny_callSpecial?_slot (name := Str.ofString "__next__") p.typeIs F.slot_tuple_iterator_next (wpAny_call_entry F.slot_tuple_iterator_next p.typeIs F.entry_tuple_iterator_next ?_ (F.args_tuple_iterator_next_1 _)))
  show wpAny _ _ (field (.ref j) 0 >>= _) _ _ s0
  refine wpAny_bind (wpAny_field g d (x := .ref t) rfl ?_)
  show wpAny _ _ (if (Value.ref t == Value.none) = true then _ else _) _ _ s0
  rw [if_neg (show ¬ ((Value.ref t == Value.none) = true) from Bool.false_ne_true)]
  show wpAny _ _ (field (.ref j) 1 >>= _) _ _ s0
  refine wpAny_bind (wpAny_field g d (x := .int k 0) rfl ?_)
  show wpAny _ _ (seqItems? (.ref t) >>= _) _ _ s0
  refine wpAny_bind (wpAny_seqItems gt dt ?_)
  simp only [Int.toNat_natCast, e]
  refine wpAny_bind (wpAny_setField g d (by simp) (wpAny_pure ⟨x, rfl, wpAny_pure (f _ ?_ (Heap.SameBut.update ..))⟩))
  exact ⟨_, Heap.get?_update_self _ g (Obj.isFreed_of_fields (Obj.data_mapFields d _)), (Obj.cls_mapFields ..).trans c, by rw [Obj.data_mapFields d]; simp [rawInt]⟩
theorem nx_tup_end {j t : Addr} {k : Nat} {its : Array Value} {R : Value → Shared → Prop} (hh : B.handled = none) (p : s0.heap.IsTupleIter j t k) (q : s0.heap.IsTuple t its) (e : its[k]? = none)
    (f : ∀ h' z, Heap.ExtBut j s0.heap h' → (∃ o, h'.get? z = some o ∧ o.cls = .type "StopIteration") → X0 (.ref z) { s0 with heap := h' }) : wpAny (model pg wd) B (Builtin.SmallTypes.nextOf (.ref j)) R X0 s0 := by
  obtain ⟨o, g, c, d⟩ := id p
  obtain ⟨ot, gt, _, nt, dt⟩ := q
  unfold Builtin.SmallTypes.nextOf
  refine wpAny_bind (wpAny_callSpecial?_slot (name := Str.ofString "__next__") p.typeIs F.slot_tuple_iterator_next (wpAny_call_entry F.slot_tuple_iterator_next p.typeIs F.entry_tuple_iterator_next ?_ (F.args_tuple_iterator_next_1 _)))
  show wpAny _ _ (field (.ref j) 0 >>= _) _ _ s0
  refine wpAny_bind (wpAny_field g d (x := .ref t) rfl ?_)
  show wpAny _ _ (if (Value.ref t == Value.none) = true then _ else _) _ _ s0
  rw [if_neg (show ¬ ((Value.ref t == Value.none) = true) from Bool.false_ne_true)]
  show wpAny _ _ (field (.ref j) 1 >>= _) _ _ s0
  refine wpAny_bind (wpAny_field g d (x := .int k 0) rfl ?_)
  show wpAny _ _ (seqItems? (.ref t) >>= _) _ _ s0
  refine wpAny_bind (wpAny_seqItems gt dt ?_)
  simp only [Int.toNat_natCast, e]
  refine wpAny_bind (wpAny_rule (wpAny_bind (wpAny_setField g d (by simp) ?_)))
  show wpAny _ _ (newExc (.type "StopIteration") [] >>= _) _ _ _
  refine wpAny_bind ?_
  simp only [newExc, newTuple]
  refine wpAny_bind (wpAny_newObj_type ?_ (by size_fits))
  refine wpAny_bind (m := firstArgMember _ _) (wpAny_of_eq (a := Value.none) (by first | rfl | (simp only [firstArgMember]; rfl)) ?_)
  refine wpAny_newObj_type ?_ (by size_fits)
  simp only [raiseNew]
  refine wpAny_bind (wpAny_handled ?_)
  first | rw [show B.in1.handled = none from hh] | rw [hh]
  refine wpAny_bind (wpAny_pure (wpAny_throw ?_))
  exact f _ _ (((Heap.SameBut.update ..).extBut.push _).push _) ⟨_, Heap.get?_push_size _ rfl, rfl⟩
structure Apart5 (z ti ox j1 j2 t1 t2 : Addr) : Prop where
  ti_z : ti ≠ z
  ox_z : ox ≠ z
  j1_z : j1 ≠ z
  j2_z : j2 ≠ z
  ti_ox : ti ≠ ox
  ti_j1 : ti ≠ j1
  ti_j2 : ti ≠ j2
  ox_j1 : ox ≠ j1
  ox_j2 : ox ≠ j2
  j12 : j1 ≠ j2
  t1_z : t1 ≠ z
  t1_ox : t1 ≠ ox
  t1_j1 : t1 ≠ j1
  t1_j2 : t1 ≠ j2
  t2_z : t2 ≠ z
  t2_ox : t2 ≠ ox
  t2_j1 : t2 ≠ j1
  t2_j2 : t2 ≠ j2
def But4 (z ox j1 j2 : Addr) (h h' : Heap) : Prop := ∀ c o, c ≠ z → c ≠ ox → c ≠ j1 → c ≠ j2 → h.get? c = some o → h'.get? c = some o
theorem tupIt_at {h h' : Heap} {j t : Addr} {k : Nat} (p : h.IsTupleIter j t k) (f : ∀ o, h.get? j = some o → h'.get? j = some o) : h'.IsTupleIter j t k := let ⟨o, g, r⟩ := p; ⟨o, f o g, r⟩
theorem tup_at {h h' : Heap} {t : Addr} {its : Array Value} (p : h.IsTuple t its) (f : ∀ o, h.get? t = some o → h'.get? t = some o) : h'.IsTuple t its := let ⟨o, g, r⟩ := p; ⟨o, f o g, r⟩
theorem zipT_item {z ti ox j1 j2 t1 t2 : Addr} {k : Nat} {as bs : Array Value} {x y u v : Value} {R : Option Value → Shared → Prop} (ap : Apart5 z ti ox j1 j2 t1 t2) (hz : IsZip s0.heap z ti ox .none) (hi : IsPair s0.heap ti (.ref j1) (.ref j2)) (ho : IsPair s0.heap ox u v)
    (p1 : s0.heap.IsTupleIter j1 t1 k) (p2 : s0.heap.IsTupleIter j2 t2 k) (q1 : s0.heap.IsTuple t1 as) (q2 : s0.heap.IsTuple t2 bs) (e1 : as[k]? = some x) (e2 : bs[k]? = some y)
    (f : ∀ h', IsZip h' z ti ox (rawInt s0.heap.objs.size) → IsPair h' ox x y → h'.IsTupleIter j1 t1 (k + 1) → h'.IsTupleIter j2 t2 (k + 1) → IsPair h' s0.heap.objs.size x y → But4 z ox j1 j2 s0.heap h' → R (some (.ref s0.heap.objs.size)) { s0 with heap := h' }) :
    wpAny (model pg wd) B (pyNext (.ref z)) R X0 s0 := by
  have ty : s0.TypeIs (.ref z) "zip" := ⟨_, hz, rfl⟩
  unfold pyNext
  refine wpAny_bind (wpAny_attempt (wpAny_callSpecial?_slot (name := Str.ofString "__next__") ty F.slot_zip_next (wpAny_call_entry F.slot_zip_next ty F.entry_zip_next ?_ (F.args_zip_next_1 _))))
  show wpAny _ _ (field (.ref z) 2 >>= _) _ _ _
  refine wpAny_bind (wpAny_field hz rfl (x := .bool false) rfl ?_)
  show wpAny _ _ (field (.ref z) 3 >>= _) _ _ _
  refine wpAny_bind (wpAny_field hz rfl (x := .ref ti) rfl ?_)
  refine wpAny_bind (wpAny_seqItems hi rfl ?_)
  show wpAny _ _ (Builtin.SmallTypes.ownedTupleIsFree (.ref z) >>= _) _ _ _
  refine wpAny_bind ?_
  unfold Builtin.SmallTypes.ownedTupleIsFree
  refine wpAny_bind (wpAny_field hz rfl (x := .none) rfl (wpAny_pure ?_))
  simp only [if_true]
  refine wpAny_bind (wpAny_rule ?_)
  refine wpAny_bind (wpAny_field hz rfl (x := .ref ox) rfl ?_)
  refine wpAny_bind (wpAny_setField_rec hz (by simp) fun m1 zm1 sb1 => ?_)
  have zm1 : IsZip m1 z ti ox .ellipsis := zm1
  refine wpAny_bind ?_
  simp only [List.zipIdx_cons, List.zipIdx_nil, List.forIn_cons, List.forIn_nil]
  refine wpAny_bind (wpAny_bind (wpAny_onRaise ?_))
  show wpAny _ _ (Builtin.SmallTypes.nextOf (.ref j1) >>= _) _ _ _
  refine wpAny_bind (nx_tup_item (tupIt_at p1 fun o g => sb1.extBut _ _ ap.j1_z g) (tup_at q1 fun o g => sb1.extBut _ _ ap.t1_z g) e1 fun m2 pm2 sb2 => wpAny_pure ?_)
  have om2 : IsPair m2 ox u v := sb2.extBut _ _ ap.ox_j1 (sb1.extBut _ _ ap.ox_z ho)
  refine wpAny_bind (wpAny_seqItems om2 rfl ?_)
  refine wpAny_bind (wpAny_updateSeq_pair om2 fun m3 om3 sb3 => ?_)
  have om3 : IsPair m3 ox x v := om3
  refine wpAny_bind (wpAny_letGo (wpAny_pure ?_))
  refine wpAny_bind (wpAny_bind (wpAny_onRaise ?_))
  show wpAny _ _ (Builtin.SmallTypes.nextOf (.ref j2) >>= _) _ _ _
  have to3 : ∀ c o, c ≠ z → c ≠ ox → c ≠ j1 → s0.heap.get? c = some o → m3.get? c = some o := fun c o a1 a2 a3 g => sb3.extBut _ _ a2 (sb2.extBut _ _ a3 (sb1.extBut _ _ a1 g))
  refine wpAny_bind (nx_tup_item (tupIt_at p2 fun o g => to3 _ o ap.j2_z ap.ox_j2.symm ap.j12.symm g) (tup_at q2 fun o g => to3 _ o ap.t2_z ap.t2_ox ap.t2_j1 g) e2 fun m4 pm4 sb4 => wpAny_pure ?_)
  have om4 : IsPair m4 ox x v := sb4.extBut _ _ ap.ox_j2 om3
  refine wpAny_bind (wpAny_seqItems om4 rfl ?_)
  refine wpAny_bind (wpAny_updateSeq_pair om4 fun m5 om5 sb5 => ?_)
  have om5 : IsPair m5 ox x y := om5
  refine wpAny_bind (wpAny_letGo (wpAny_pure (wpAny_pure ?_)))
  refine wpAny_bind (wpAny_seqItems om5 rfl ?_)
  refine wpAny_bind (wpAny_newTuple ?_)
  have sz5 : m5.objs.size = s0.heap.objs.size := by rw [sb5.1, sb4.1, sb3.1, sb2.1, sb1.1]
  have zm5 : IsZip m5 z ti ox .ellipsis := sb5.extBut _ _ ap.ox_z.symm (sb4.extBut _ _ ap.j2_z.symm (sb3.extBut _ _ ap.ox_z.symm (sb2.extBut _ _ ap.j1_z.symm zm1)))
  have to5 : But4 z ox j1 j2 s0.heap m5 := fun c o a1 a2 a3 a4 g => sb5.extBut _ _ a2 (sb4.extBut _ _ a4 (to3 c o a1 a2 a3 g))
  have pj1 : m5.IsTupleIter j1 t1 (k + 1) := tupIt_at pm2 fun o g => sb5.extBut _ _ ap.ox_j1.symm (sb4.extBut _ _ ap.j12 (sb3.extBut _ _ ap.ox_j1.symm g))
  have pj2 : m5.IsTupleIter j2 t2 (k + 1) := tupIt_at pm4 fun o g => sb5.extBut _ _ ap.ox_j2.symm g
  have zlt : z < m5.objs.size := Heap.lt_size zm5
  show wpAny _ _ (Builtin.SmallTypes.ownedTupleHandOut (.ref z) (.ref m5.objs.size) >>= _) _ _ _
  refine wpAny_bind ?_
  unfold Builtin.SmallTypes.ownedTupleHandOut
  have zm6 : IsZip (m5.push { cls := .type "tuple", data := .seq #[x, y] }) z ti ox .ellipsis := Heap.get?_push_of_some _ zm5
  refine wpAny_bind (wpAny_setField_rec zm6 (by simp) fun m7 zm7 sb7 => ?_)
  have zm7 : IsZip m7 z ti ox (rawInt m5.objs.size) := zm7
  refine wpAny_setField_rec zm7 (by simp) fun m8 zm8 sb8 => ?_
  have zm8 : IsZip m8 z ti ox (rawInt m5.objs.size) := zm8
  have to8 : ∀ c o, c ≠ z → m5.get? c = some o → m8.get? c = some o := fun c o a1 g => sb8.extBut _ _ a1 (sb7.extBut _ _ a1 (Heap.get?_push_of_some _ g))
  have np8 : IsPair m8 m5.objs.size x y := sb8.extBut _ _ (Nat.ne_of_gt zlt) (sb7.extBut _ _ (Nat.ne_of_gt zlt) (Heap.get?_push_size _ rfl))
  rw [sz5] at zm8 np8
  refine wpAny_pure ⟨_, rfl, wpAny_pure ?_⟩
  show R (some (.ref m5.objs.size)) _
  rw [sz5]
  exact f m8 zm8 (to8 _ _ ap.ox_z om5) (tupIt_at pj1 fun o g => to8 _ o ap.j1_z g) (tupIt_at pj2 fun o g => to8 _ o ap.j2_z g) np8 fun c o a1 a2 a3 a4 g => to8 c o a1 (to5 c o a1 a2 a3 a4 g)
theorem zipT_end {z ti ox j1 j2 t1 t2 : Addr} {k : Nat} {as bs : Array Value} {u v : Value} {R : Option Value → Shared → Prop} (hh : B.handled = none) (ap : Apart5 z ti ox j1 j2 t1 t2) (hz : IsZip s0.heap z ti ox .none) (hi : IsPair s0.heap ti (.ref j1) (.ref j2)) (ho : IsPair s0.heap ox u v)
    (p1 : s0.heap.IsTupleIter j1 t1 k) (p2 : s0.heap.IsTupleIter j2 t2 k) (q1 : s0.heap.IsTuple t1 as) (q2 : s0.heap.IsTuple t2 bs) (hend : as[k]? = none ∨ bs[k]? = none)
    (f : ∀ h', But4 z ox j1 j2 s0.heap h' → R none { s0 with heap := h' }) : wpAny (model pg wd) B (pyNext (.ref z)) R X0 s0 := by
  have ty : s0.TypeIs (.ref z) "zip" := ⟨_, hz, rfl⟩
  have last : ∀ (h' : Heap) (e : Addr), But4 z ox j1 j2 s0.heap h' → (∃ o, h'.get? e = some o ∧ o.cls = .type "StopIteration") → wpAny (model pg wd) B (do if ← isInstance (.ref e) (.type "StopIteration") then pure none else throw (.ref e)) R X0 { s0 with heap := h' } := fun h' e bt ⟨o, g, c⟩ =>
    wpAny_bind (wpAny_isInstance (T := "StopIteration") (b := true) ⟨o, g, c⟩ isSubtype_stop (wpAny_pure (f _ bt)))
  unfold pyNext
  refine wpAny_bind (wpAny_attempt (wpAny_callSpecial?_slot (name := Str.ofString "__next__") ty F.slot_zip_next (wpAny_call_entry F.slot_zip_next ty F.entry_zip_next ?_ (F.args_zip_next_1 _))))
  show wpAny _ _ (field (.ref z) 2 >>= _) _ _ _
  refine wpAny_bind (wpAny_field hz rfl (x := .bool false) rfl ?_)
  show wpAny _ _ (field (.ref z) 3 >>= _) _ _ _
  refine wpAny_bind (wpAny_field hz rfl (x := .ref ti) rfl ?_)
  refine wpAny_bind (wpAny_seqItems hi rfl ?_)
  show wpAny _ _ (Builtin.SmallTypes.ownedTupleIsFree (.ref z) >>= _) _ _ _
  refine wpAny_bind ?_
  unfold Builtin.SmallTypes.ownedTupleIsFree
  refine wpAny_bind (wpAny_field hz rfl (x := .none) rfl (wpAny_pure ?_))
  simp only [if_true]
  refine wpAny_bind (wpAny_rule ?_)
  refine wpAny_bind (wpAny_field hz rfl (x := .ref ox) rfl ?_)
  refine wpAny_bind (wpAny_setField_rec hz (by simp) fun m1 zm1 sb1 => ?_)
  have zm1 : IsZip m1 z ti ox .ellipsis := zm1
  refine wpAny_bind ?_
  simp only [List.zipIdx_cons, List.zipIdx_nil, List.forIn_cons, List.forIn_nil]
  refine wpAny_bind (wpAny_bind (wpAny_onRaise ?_))
  show wpAny _ _ (Builtin.SmallTypes.nextOf (.ref j1) >>= _) _ _ _
  cases e1 : as[k]? with
  | none =>
    refine wpAny_bind (nx_tup_end hh (tupIt_at p1 fun o g => sb1.extBut _ _ ap.j1_z g) (tup_at q1 fun o g => sb1.extBut _ _ ap.t1_z g) e1 fun m2 e xb he => ?_)
    obtain ⟨oe, ge, ce⟩ := he
    have zm2 : IsZip m2 z ti ox .ellipsis := xb _ _ ap.j1_z.symm zm1
    have ez : e ≠ z := fun q => by subst q; rw [zm2] at ge; cases ge; simp at ce
    exact wpAny_setField_rec zm2 (by simp) fun m3 _ sb3 => last m3 e (fun c o a1 _ a3 _ g => sb3.extBut _ _ a1 (xb _ _ a3 (sb1.extBut _ _ a1 g))) ⟨oe, sb3.extBut _ _ ez ge, ce⟩
  | some x =>
    have e2 : bs[k]? = none := by rcases hend with q | q; rw [e1] at q; cases q; exact q
    refine wpAny_bind (nx_tup_item (tupIt_at p1 fun o g => sb1.extBut _ _ ap.j1_z g) (tup_at q1 fun o g => sb1.extBut _ _ ap.t1_z g) e1 fun m2 pm2 sb2 => wpAny_pure ?_)
    have om2 : IsPair m2 ox u v := sb2.extBut _ _ ap.ox_j1 (sb1.extBut _ _ ap.ox_z ho)
    refine wpAny_bind (wpAny_seqItems om2 rfl ?_)
    refine wpAny_bind (wpAny_updateSeq_pair om2 fun m3 om3 sb3 => ?_)
    refine wpAny_bind (wpAny_letGo (wpAny_pure ?_))
    refine wpAny_bind (wpAny_bind (wpAny_onRaise ?_))
    show wpAny _ _ (Builtin.SmallTypes.nextOf (.ref j2) >>= _) _ _ _
    have to3 : ∀ c o, c ≠ z → c ≠ ox → c ≠ j1 → s0.heap.get? c = some o → m3.get? c = some o := fun c o a1 a2 a3 g => sb3.extBut _ _ a2 (sb2.extBut _ _ a3 (sb1.extBut _ _ a1 g))
    refine wpAny_bind (nx_tup_end hh (tupIt_at p2 fun o g => to3 _ o ap.j2_z ap.ox_j2.symm ap.j12.symm g) (tup_at q2 fun o g => to3 _ o ap.t2_z ap.t2_ox ap.t2_j1 g) e2 fun m4 e xb he => ?_)
    obtain ⟨oe, ge, ce⟩ := he
    have zm4 : IsZip m4 z ti ox .ellipsis := xb _ _ ap.j2_z.symm (sb3.extBut _ _ ap.ox_z.symm (sb2.extBut _ _ ap.j1_z.symm zm1))
    have ez : e ≠ z := fun q => by subst q; rw [zm4] at ge; cases ge; simp at ce
    exact wpAny_setField_rec zm4 (by simp) fun m5 _ sb5 => last m5 e (fun c o a1 a2 a3 a4 g => sb5.extBut _ _ a1 (xb _ _ a4 (to3 c o a1 a2 a3 g))) ⟨oe, sb5.extBut _ _ ez ge, ce⟩
end
end L2
namespace L2
open PySem PySem.Spec PyProof.Rows
theorem Inv.turnedL {X : Cx} {pins : List (Addr × Obj)} {σ : St} {H : Hp} {s : Shared} {h' : Heap} {t' : Nat} {fl : List Addr} (I : Inv X pins σ H s) (kk : ∀ b o, b ∉ fl → s.heap.get? b = some o → h'.get? b = some o) (fo : ∀ b ∈ fl, FpOk X pins H b) : Inv X pins σ H { s with heap := h', toks := t' } := by
  have out : ∀ b u, H b = some u → b ∉ fl := fun b u e z => by rw [(fo b z).1] at e; cases e
  refine I.step (g' := s.gens) (d' := s.drawn) (ch := fl) (fun b hb => ?_) (fun b o _ _ hc e _ => kk b o hc e) (fun b o _ _ hc e _ => ⟨o.slots, kk b o hc e⟩) (fun _ _ _ _ q => q)
    (fun b o hc e => ⟨o, kk b o hc e⟩) (fun _ _ e => e) (fun _ _ _ e => e) (fun b ps e => ⟨#[], by rw [e]; simp⟩) (fun m hm => ?_) (fun b u e => ?_) I.bare
  · obtain ⟨_, f1, _, f3, f4, f5⟩ := fo b hb
    exact ⟨f3, f1, f4, f5⟩
  · obtain ⟨o, es, ep, ho, r⟩ := hm
    exact ⟨o, es, ep, kk _ o (fun z => (fo _ z).2.1 rfl) ho, r⟩
  · refine (I.hok b u e).stay (fun c v hc q => kk c v ?_ q) (fun _ q => q) fun _ _ q => q
    rcases hc with z | z
    · rw [z]; exact out b u e
    · exact out c _ z
def Itz (K : PySem.W.Frag) (a b : Addr) : It := ⟨fun i H => ∃ xs ys x y, SqT K H a xs ∧ SqT K H b ys ∧ xs[i]? = some x ∧ ys[i]? = some y,
  fun i H v H' => ∃ T x y, v = .ref T ∧ H T = none ∧ H' = upd H T (.tup [x, y]) ∧ ∀ xs ys, SqT K H a xs → SqT K H b ys → xs[i]? = some x ∧ ys[i]? = some y, fun i H => ∃ xs ys, SqT K H a xs ∧ SqT K H b ys ∧ (xs.length ≤ i ∨ ys.length ≤ i)⟩
theorem turn_zip {P : Program} {w : World} {K : PySem.W.Frag} {es : List Expr} {x1 : Nat} {pp : Pos} {a b z ti ox j1 j2 : Addr} (ap : Apart5 z ti ox j1 j2 a b) :
    Turn P w K (.Tuple es x1 pp) (Itz K a b) [z, ti, ox, j1, j2] z (fun i h => IsZip h z ti ox .none ∧ IsPair h ti (.ref j1) (.ref j2) ∧ (∃ u v, IsPair h ox u v) ∧ h.IsTupleIter j1 a i ∧ h.IsTupleIter j2 b i) where
  mem := by simp
  obj := fun i h q c hc => by
    obtain ⟨q1, q2, ⟨u, v, q3⟩, ⟨o4, g4, _, d4⟩, ⟨o5, g5, _, d5⟩⟩ := q
    simp only [List.mem_cons, List.not_mem_nil, or_false] at hc
    rcases hc with rfl | rfl | rfl | rfl | rfl
    · exact ⟨_, q1, fun v z => nomatch z⟩
    · exact ⟨_, q2, fun v z => nomatch z⟩
    · exact ⟨_, q3, fun v z => nomatch z⟩
    · exact ⟨_, g4, fun v z => by rw [d4] at z; cases z⟩
    · exact ⟨_, g5, fun v z => by rw [d5] at z; cases z⟩
  keep := fun i h h' q k => by
    obtain ⟨q1, q2, ⟨u, v, q3⟩, q4, q5⟩ := q
    exact ⟨k _ (by simp) _ q1, k _ (by simp) _ q2, ⟨u, v, k _ (by simp) _ q3⟩, tupIt_at q4 fun o g => k _ (by simp) o g, tupIt_at q5 fun o g => k _ (by simp) o g⟩
  item := by
    intro X hP hw hK hc i pins s σ H E I hf st hg
    subst hP hw hK
    obtain ⟨xs, ys, x, y, hq1, hq2, hx, hy⟩ := hg
    obtain ⟨q1, q2, ⟨u, v, q3⟩, q4, q5⟩ := st
    obtain ⟨as, ra, pa, za⟩ := I.tuple hq1
    obtain ⟨bs, rb, pb, zb⟩ := I.tuple hq2
    obtain ⟨ux, hux, rux⟩ := ra.get hx
    obtain ⟨uy, huy, ruy⟩ := rb.get hy
    refine zipT_item ap q1 q2 q3 q4 q5 (show s.heap.IsTuple a as.toArray from pa) (show s.heap.IsTuple b bs.toArray from pb) (x := ux) (y := uy) (by simpa using hux) (by simpa using huy) fun h' zz oo p1' p2' np bt => ?_
    have I1 : Inv X pins σ H { s with heap := h' } := I.turnedL (t' := s.toks) (fl := [z, ti, ox, j1, j2]) (fun c o hc e => by
      simp only [List.mem_cons, List.not_mem_nil, or_false, not_or] at hc
      exact bt c o hc.1 hc.2.2.1 hc.2.2.2.1 hc.2.2.2.2 e) hf
    obtain ⟨f0, f1, f2, f3, f4, f5⟩ := I.fpOk (Nat.le_refl s.heap.objs.size) (I.hok.fresh (Nat.le_refl _))
    have n0 : X.s₀.heap.get? s.heap.objs.size = none := by
      cases q : X.s₀.heap.get? s.heap.objs.size with
      | none => rfl
      | some o => exact absurd (Nat.lt_of_lt_of_le (Heap.lt_size q) I.sz) (Nat.lt_irrefl _)
    have I2 : Inv X pins σ (upd H s.heap.objs.size (.tup [x, y])) { s with heap := h' } := I1.track f0 ⟨small (by simp), [ux, uy], .cons rux (.cons ruy .nil), ⟨_, np, rfl, _, rfl⟩⟩ f1 f4 f5 n0
    have lt : ∀ {c o}, s.heap.get? c = some o → c ≠ s.heap.objs.size := fun e => Nat.ne_of_lt (Heap.lt_size e)
    have hzT : z ≠ s.heap.objs.size := lt q1
    have ti2 : IsPair h' ti (.ref j1) (.ref j2) := bt _ _ ap.ti_z ap.ti_ox ap.ti_j1 ap.ti_j2 q2
    obtain ⟨e0, e1, e2, e3, e4, e5⟩ := hf z (by simp)
    refine ⟨_, rfl, wpAny_letOwnedTupleGo_zip zz fun h2 z2 sb => ?_⟩
    have I3 : Inv X pins σ (upd H s.heap.objs.size (.tup [x, y])) { s with heap := h2 } := Inv.turned (s := { s with heap := h' }) (h' := h2) (t' := s.toks) (it := z) I2 (fun c o hc e => sb.extBut _ _ hc e) (by rw [upd_ne hzT]; exact e0) e1 e3 e4 e5
    refine ⟨.ref s.heap.objs.size, _, I3, rfl, ⟨_, x, y, rfl, f0, rfl, fun xs' ys' k1 k2 => ?_⟩, ⟨z2, sb.extBut _ _ ap.ti_z ti2, ⟨_, _, sb.extBut _ _ ap.ox_z oo⟩, tupIt_at p1' fun o g => sb.extBut _ _ ap.j1_z g, tupIt_at p2' fun o g => sb.extBut _ _ ap.j2_z g⟩, fun c hc => ?_⟩
    · rw [I.tuple_inj k1 hq1, I.tuple_inj k2 hq2]; exact ⟨hx, hy⟩
    · have cT : c ≠ s.heap.objs.size := by
        obtain ⟨o4, g4, _⟩ := q4
        obtain ⟨o5, g5, _⟩ := q5
        simp only [List.mem_cons, List.not_mem_nil, or_false] at hc
        rcases hc with rfl | rfl | rfl | rfl | rfl
        · exact hzT
        · exact lt q2
        · exact lt q3
        · exact lt g4
        · exact lt g5
      rw [upd_ne cT]; exact (hf c hc).1
  done := by
    intro X hP hw hK hc i pins s σ H E I hf st hg
    subst hP hw hK
    obtain ⟨xs, ys, hq1, hq2, hx⟩ := hg
    obtain ⟨q1, q2, ⟨u, v, q3⟩, q4, q5⟩ := st
    obtain ⟨as, ra, pa, za⟩ := I.tuple hq1
    obtain ⟨bs, rb, pb, zb⟩ := I.tuple hq2
    have la := ra.length
    have lb := rb.length
    refine zipT_end (I.ok.hd hc) ap q1 q2 q3 q4 q5 (show s.heap.IsTuple a as.toArray from pa) (show s.heap.IsTuple b bs.toArray from pb) (by rcases hx with q | q; exact .inl (by simp; omega); exact .inr (by simp; omega)) fun h' bt => ⟨rfl, ?_⟩
    exact I.turnedL (t' := s.toks) (fl := [z, ti, ox, j1, j2]) (fun c o hc e => by
      simp only [List.mem_cons, List.not_mem_nil, or_false, not_or] at hc
      exact bt c o hc.1 hc.2.2.1 hc.2.2.2.1 hc.2.2.2.2 e) hf
  self := fun _ _ _ _ _ st h => wpAny_pyIter_zip st.1 h
abbrev zt1 (h : Heap) (a : Addr) : Heap := h.push { cls := .type "tuple_iterator", data := .fields #[.ref a, .int 0 0] }
abbrev zt2 (h : Heap) (a b : Addr) : Heap := (zt1 h a).push { cls := .type "tuple_iterator", data := .fields #[.ref b, .int 0 0] }
abbrev zt3 (h : Heap) (a b : Addr) : Heap := (zt2 h a b).push { cls := .type "tuple", data := .seq #[.ref h.objs.size, .ref (zt1 h a).objs.size] }
abbrev zt4 (h : Heap) (a b : Addr) : Heap := (zt3 h a b).push { cls := .type "tuple", data := .seq #[.none, .none] }
abbrev zt5 (h : Heap) (a b : Addr) : Heap := (zt4 h a b).push { cls := .type "zip", data := .fields #[.none, .bool false, .bool false, .ref (zt2 h a b).objs.size, .ref (zt3 h a b).objs.size] }
theorem zipT_new (a b : Addr) (as bs : Array Value) : Meets (Builtin.«zip.__new__» ⟨[.type "zip", .ref a, .ref b], []⟩) (fun _ R s => s.heap.IsTuple a as ∧ s.heap.IsTuple b bs ∧ R (.ok (.ret (.ref (zt4 s.heap a b).objs.size))) { s with heap := zt5 s.heap a b }) :=
  .of_wp fun prog w A R s h => by
    obtain ⟨hp, g, d, tk, os⟩ := s
    obtain ⟨ha, hb, h⟩ := h
    have q0 := sub_zip
    have q1 : Heap.IsTuple (Shared.heap ⟨hp, g, d, tk, os⟩) a as := ha
    have q2 : Heap.IsTuple (Shared.heap ⟨hp.push { cls := .type "tuple_iterator", data := .fields #[.ref a, .int 0 0] }, g, d, tk, os⟩) b bs := tup_at hb fun o e => Heap.get?_push_of_some _ e
    wp_walk using wpAny_pyIter_tuple q1, wpAny_pyIter_tuple q2
    exact ⟨_, rfl, h⟩
theorem zipT_call {pg : Program} {wd : World} {B : Around} {X0 : Value → Shared → Prop} {s0 : Shared} {a b : Addr} {as bs : Array Value} {R : Value → Shared → Prop} (ha : s0.heap.IsTuple a as) (hb : s0.heap.IsTuple b bs)
    (f : ∀ h', IsZip h' (s0.heap.objs.size + 4) (s0.heap.objs.size + 2) (s0.heap.objs.size + 3) .none → IsPair h' (s0.heap.objs.size + 2) (.ref s0.heap.objs.size) (.ref (s0.heap.objs.size + 1)) → IsPair h' (s0.heap.objs.size + 3) .none .none →
      h'.IsTupleIter s0.heap.objs.size a 0 → h'.IsTupleIter (s0.heap.objs.size + 1) b 0 → (∀ c o, s0.heap.get? c = some o → h'.get? c = some o) → R (.ref (s0.heap.objs.size + 4)) { s0 with heap := h' }) :
    wpAny (model pg wd) B (call (.type "zip") [.ref a, .ref b]) R X0 s0 := by
  refine callType_new F.called_zip (by decide) (F.typeCall_zip_2 _ _) (F.newCall_zip_2 _ _) (fun ob => F.args_object_init_3 ob _ _) F.entry_zip_new (zipT_new a b as bs) ⟨ha, hb, ?_⟩
  have n1 : (zt1 s0.heap a).objs.size = s0.heap.objs.size + 1 := Heap.size_push ..
  have n2 : (zt2 s0.heap a b).objs.size = s0.heap.objs.size + 2 := by rw [Heap.size_push, n1]
  have n3 : (zt3 s0.heap a b).objs.size = s0.heap.objs.size + 3 := by rw [Heap.size_push, n2]
  have n4 : (zt4 s0.heap a b).objs.size = s0.heap.objs.size + 4 := by rw [Heap.size_push, n3]
  have g5 : (zt5 s0.heap a b).get? (zt4 s0.heap a b).objs.size = some _ := Heap.get?_push_size _ rfl
  have g4 : (zt5 s0.heap a b).get? (zt3 s0.heap a b).objs.size = some _ := Heap.get?_push_of_some _ (Heap.get?_push_size _ rfl)
  have g3 : (zt5 s0.heap a b).get? (zt2 s0.heap a b).objs.size = some _ := Heap.get?_push_of_some _ (Heap.get?_push_of_some _ (Heap.get?_push_size _ rfl))
  have g2 : (zt5 s0.heap a b).get? (zt1 s0.heap a).objs.size = some _ := Heap.get?_push_of_some _ (Heap.get?_push_of_some _ (Heap.get?_push_of_some _ (Heap.get?_push_size _ rfl)))
  have g1 : (zt5 s0.heap a b).get? s0.heap.objs.size = some _ := Heap.get?_push_of_some _ (Heap.get?_push_of_some _ (Heap.get?_push_of_some _ (Heap.get?_push_of_some _ (Heap.get?_push_size _ rfl))))
  show _ ∧ _
  rw [n2, n3, n4] at g5
  rw [n1, n2] at g3
  rw [n3] at g4
  rw [n1] at g2
  rw [n4]
  exact ⟨⟨_, g5, rfl⟩, f _ g5 g3 g4 ⟨_, g1, rfl, rfl⟩ ⟨_, g2, rfl, rfl⟩ fun c o q => Heap.get?_push_of_some _ (Heap.get?_push_of_some _ (Heap.get?_push_of_some _ (Heap.get?_push_of_some _ (Heap.get?_push_of_some _ q))))⟩
theorem apart_of (n a b : Nat) (ha : a < n) (hb : b < n) : Apart5 (n + 4) (n + 2) (n + 3) n (n + 1) a b := by
  constructor <;> first | exact Nat.ne_of_lt (by omega) | exact Nat.ne_of_gt (by omega)
section
variable {X : Cx} {es : List Expr} {x1 : Nat} {pp : Pos}
def iZip (K : PySem.W.Frag) (ta : TA) : TI := fun σ H R => ta σ H fun vs H1 => ∃ a b xs ys, vs = [.ref a, .ref b] ∧ SqT K H1 a xs ∧ SqT K H1 b ys ∧ R (Itz K a b) H1
theorem pi_zip {e1 e2 : Expr} {ta : TA} {p pos : Pos} (hg : Gl X "zip") (hm : X.mg "zip" = none) (ha : PA X [e1, e2] ta) (hs : starEach [e1, e2] X.env = [(false, eval e1 X.env), (false, eval e2 X.env)] := by rfl) (hs2 : starEach [e2] X.env = [(false, eval e2 X.env)] := by rfl) :
    PI X (.Tuple es x1 pp) (.Call (.Name "zip" p) [e1, e2] [] pos) (iZip X.K ta) := by
  intro pins s σ H R I h
  have hA := ha pos pins s σ H _ I h
  refine Call_ (ld_blt I hg hm boot_zip (PyProof.Rows.callWith_type1 (thn hA fun us s1 ⟨vs, H1, I1, r1, q1⟩ => ?_) (by rw [hs, hs2]) (by rw [hs2]; rfl)))
  obtain ⟨a, b, xs, ys, rfl, ha, hb, q⟩ := q1
  obtain ⟨u, u', rfl, ra, rb⟩ := vals2 r1
  cases (show u = Value.ref a from ra)
  cases (show u' = Value.ref b from rb)
  obtain ⟨as, va, pa, za⟩ := I1.tuple ha
  obtain ⟨bs, vb, pb, zb⟩ := I1.tuple hb
  have al : a < s1.heap.objs.size := by obtain ⟨o, g, _⟩ := pa; exact Heap.lt_size g
  have bl : b < s1.heap.objs.size := by obtain ⟨o, g, _⟩ := pb; exact Heap.lt_size g
  refine zipT_call (show s1.heap.IsTuple a as.toArray from pa) (show s1.heap.IsTuple b bs.toArray from pb) fun h' w1 w2 w3 w4 w5 kk => ?_
  have I2 : Inv X pins σ H1 { s1 with heap := h' } := I1.kept (t' := s1.toks) kk
  have ap := apart_of s1.heap.objs.size a b al bl
  refine wpAny_pyIter_zip w1 ⟨s1.heap.objs.size + 4, [s1.heap.objs.size + 4, s1.heap.objs.size + 2, s1.heap.objs.size + 3, s1.heap.objs.size, s1.heap.objs.size + 1], _, _, H1, rfl, I2, turn_zip ap, ⟨w1, w2, ⟨_, _, w3⟩, w4, w5⟩, fun c hc => ?_, q⟩
  have ge : s1.heap.objs.size ≤ c := by
    simp only [List.mem_cons, List.not_mem_nil, or_false] at hc
    rcases hc with rfl | rfl | rfl | rfl | rfl <;> omega
  exact I1.fpOk ge (I1.hok.fresh ge)
end
def LoopZ (K : PySem.W.Frag) (g : TG) (tb : TS) (D : Ends) (σ : St) (vs : List V) (H1 : Hp) : Prop := ∃ a b xs ys, vs = [.ref a, .ref b] ∧ SqT K H1 a xs ∧ SqT K H1 b ys ∧ ∃ W : Nat → Nat → St → Hp → Prop, (∃ m, W 0 m σ H1) ∧ ∀ i m σ H, W i m σ H →
  ((Itz K a b).stop i H ∧ D.nx σ H) ∨ ((Itz K a b).go i H ∧ ∃ N : St → Hp → Prop, (∀ σ' H', N σ' H' → ∃ m', m' < m ∧ W (i + 1) m' σ' H') ∧ ∀ x H', (Itz K a b).yld i H x H' → g x σ H' fun σ2 H2 => tb { D with nx := N, ct := N, bk := D.nx } σ2 H2)
theorem for_eqZ {K : PySem.W.Frag} {ta : TA} {g : TG} {tb : TS} {D : Ends} {σ : St} {H : Hp} : tFor (iZip K ta) g tb D σ H = ta σ H fun vs H1 => LoopZ K g tb D σ vs H1 := rfl
theorem LoopZ.mk {K : PySem.W.Frag} {a b : Addr} {xs ys : List V} {g : TG} {tb : TS} {D : Ends} {σ : St} {H : Hp} (n : Nat) (hn : n = min xs.length ys.length) (h1 : SqT K H a xs) (h2 : SqT K H b ys) (Pv : Nat → St → Hp → Prop) (h0 : Pv 0 σ H) (hl : ∀ i σ H, i ≤ n → Pv i σ H → SqT K H a xs ∧ SqT K H b ys)
    (hs : ∀ i x y σ H T, i < n → xs[i]? = some x → ys[i]? = some y → Pv i σ H → H T = none → g (.ref T) σ (upd H T (.tup [x, y])) fun σ2 H2 => tb { D with nx := Pv (i + 1), ct := Pv (i + 1), bk := D.nx } σ2 H2) (hd : ∀ σ H, Pv n σ H → D.nx σ H) :
    LoopZ K g tb D σ [.ref a, .ref b] H := by
  subst hn
  refine ⟨a, b, xs, ys, rfl, h1, h2, fun i m σ H => m = min xs.length ys.length - i ∧ i ≤ min xs.length ys.length ∧ Pv i σ H, ⟨_, rfl, Nat.zero_le _, h0⟩, ?_⟩
  rintro i m σ H ⟨rfl, hi, p⟩
  obtain ⟨k1, k2⟩ := hl i σ H hi p
  by_cases hlt : i < min xs.length ys.length
  · have l1 : i < xs.length := by omega
    have l2 : i < ys.length := by omega
    refine .inr ⟨⟨xs, ys, _, _, k1, k2, List.getElem?_eq_getElem l1, List.getElem?_eq_getElem l2⟩, Pv (i + 1), fun σ' H' p' => ⟨min xs.length ys.length - (i + 1), by omega, rfl, hlt, p'⟩, fun v H' yy => ?_⟩
    obtain ⟨T, x, y, rfl, hT, rfl, ex⟩ := yy
    obtain ⟨ex1, ex2⟩ := ex xs ys k1 k2
    exact hs i x y σ H T hlt ex1 ex2 p hT
  · have e : i = min xs.length ys.length := by omega
    exact .inl ⟨⟨xs, ys, k1, k2, by omega⟩, hd σ H (e ▸ p)⟩
def CompZ (K : PySem.W.Frag) (k : Nat) (js : List Nat) (g : TG) (te : TE) (σ : St) (vs : List V) (H1 : Hp) (Q : VK) : Prop := ∃ a b xs ys, vs = [.ref a, .ref b] ∧ SqT K H1 a xs ∧ SqT K H1 b ys ∧ ∃ W : Nat → Nat → List V → St → Hp → Prop, (∃ m, W 0 m [] (compSt k js σ) H1) ∧ ∀ i m zs σ' H', W i m zs σ' H' →
    ((Itz K a b).stop i H' ∧ ∀ p, H' p = none → Q (.ref p) (upd H' p (.lst zs))) ∨
    ((Itz K a b).go i H' ∧ zs.length < sizeLine ∧ ∃ N : List V → St → Hp → Prop, (∀ zs σ2 H2, N zs σ2 H2 → ∃ m', m' < m ∧ W (i + 1) m' zs σ2 H2) ∧ ∀ x H2, (Itz K a b).yld i H' x H2 → g x σ' H2 fun σ3 H3 => te σ3 H3 fun v H4 => N (zs ++ [v]) σ3 H4)
theorem comp_eqZ {K : PySem.W.Frag} {k : Nat} {js : List Nat} {ta : TA} {g : TG} {te : TE} {σ : St} {H : Hp} {Q : VK} : tComp (iZip K ta) k js g te σ H Q = ta σ H fun vs H1 => CompZ K k js g te σ vs H1 Q := rfl
theorem CompZ.mk {K : PySem.W.Frag} {a b : Addr} {xs ys : List V} {k : Nat} {js : List Nat} {g : TG} {te : TE} {Q : VK} {σ : St} {H : Hp} (n : Nat) (hn : n = min xs.length ys.length) (h1 : SqT K H a xs) (h2 : SqT K H b ys) (Pv : Nat → List V → St → Hp → Prop) (h0 : Pv 0 [] (compSt k js σ) H) (hl : ∀ i zs σ H, i ≤ n → Pv i zs σ H → SqT K H a xs ∧ SqT K H b ys)
    (hs : ∀ i x y zs σ H T, i < n → xs[i]? = some x → ys[i]? = some y → Pv i zs σ H → H T = none → zs.length < sizeLine ∧ g (.ref T) σ (upd H T (.tup [x, y])) fun σ3 H3 => te σ3 H3 fun v H4 => Pv (i + 1) (zs ++ [v]) σ3 H4) (hz : ∀ zs σ H, Pv n zs σ H → ∀ p, H p = none → Q (.ref p) (upd H p (.lst zs))) (hlen : ∀ i zs σ H, Pv i zs σ H → zs.length < sizeLine) :
    CompZ K k js g te σ [.ref a, .ref b] H Q := by
  subst hn
  refine ⟨a, b, xs, ys, rfl, h1, h2, fun i m zs σ H => m = min xs.length ys.length - i ∧ i ≤ min xs.length ys.length ∧ Pv i zs σ H, ⟨_, rfl, Nat.zero_le _, h0⟩, ?_⟩
  rintro i m zs σ H ⟨rfl, hi, p⟩
  obtain ⟨k1, k2⟩ := hl i zs σ H hi p
  by_cases hlt : i < min xs.length ys.length
  · have l1 : i < xs.length := by omega
    have l2 : i < ys.length := by omega
    refine .inr ⟨⟨xs, ys, _, _, k1, k2, List.getElem?_eq_getElem l1, List.getElem?_eq_getElem l2⟩, hlen _ _ _ _ p, Pv (i + 1), fun zs' σ' H' p' => ⟨min xs.length ys.length - (i + 1), by omega, rfl, hlt, p'⟩, fun v H' yy => ?_⟩
    obtain ⟨T, x, y, rfl, hT, rfl, ex⟩ := yy
    obtain ⟨ex1, ex2⟩ := ex xs ys k1 k2
    exact (hs i x y zs σ H T hlt ex1 ex2 p hT).2
  · have e : i = min xs.length ys.length := by omega
    exact .inl ⟨⟨xs, ys, k1, k2, by omega⟩, hz zs σ H (e ▸ p)⟩
end L2
namespace L2
open PySem PySem.Spec PyProof.Rows
section
variable {X : Cx}
theorem call_sumL (hc : X.calm = true) : CallR X (.builtin "sum") (fun xs H Q => ∃ (a : Addr) (ns : List Int), xs = [.ref a] ∧ SqL X.K H a (ns.map V.int) ∧ Q (.int ns.sum) H) := by
  intro pins s σ H xs us Q I r h
  obtain ⟨a, ns, rfl, hq, q⟩ := h
  obtain ⟨u, rfl, ru⟩ := vals1 r
  cases (show u = Value.ref a from ru)
  obtain ⟨its, rv, pl, hz⟩ := I.list hq
  have hi := intsAre_of rv
  have hn := hi.numsOf
  obtain ⟨ps, e⟩ := hi.allInts.items
  have hl : s.heap.IsList a (intItems ps) := e ▸ pl.isList
  refine sum_intListG (I.ok.hd hc) hl fun h' tk t' kk => ?_
  have e2 : preSum (numAt ps) ps.size = ns.sum := by
    rw [preSum_eq, List.take_of_length_le (by simp), ← nums_intItems, ← e]
    exact congrArg List.sum hn
  rw [e2]
  exact ⟨.int ns.sum, H, I.kept kk, ⟨t', rfl⟩, q⟩
def Its (lo st : Int) (n : Nat) : It := ⟨fun i _ => i < n, fun i H x H' => H' = H ∧ x = .int (lo + i * st), fun i _ => n ≤ i⟩
def iRng3 (ta : TA) : TI := fun σ H R => ta σ H fun vs H1 => ∃ i j c : Int, vs = [.int i, .int j, .int c] ∧ (c ≠ 0 ∧ c.natAbs < 1073741824 ∧ Builtin.Range.small i j c = true) ∧ R (Its i c (Builtin.Range.rangeSize i j c).toNat) H1
end
def LoopS (lo st : Int) (n : Nat) (g : TG) (tb : TS) (D : Ends) (σ : St) (H1 : Hp) : Prop := ∃ W : Nat → Nat → St → Hp → Prop, (∃ m, W 0 m σ H1) ∧ ∀ i m σ H, W i m σ H →
  ((Its lo st n).stop i H ∧ D.nx σ H) ∨ ((Its lo st n).go i H ∧ ∃ N : St → Hp → Prop, (∀ σ' H', N σ' H' → ∃ m', m' < m ∧ W (i + 1) m' σ' H') ∧ ∀ x H', (Its lo st n).yld i H x H' → g x σ H' fun σ2 H2 => tb { D with nx := N, ct := N, bk := D.nx } σ2 H2)
theorem for_eqR3 {ta : TA} {g : TG} {tb : TS} {D : Ends} {σ : St} {H : Hp} : tFor (iRng3 ta) g tb D σ H = ta σ H fun vs H1 => ∃ i j c : Int, vs = [.int i, .int j, .int c] ∧ (c ≠ 0 ∧ c.natAbs < 1073741824 ∧ Builtin.Range.small i j c = true) ∧ LoopS i c (Builtin.Range.rangeSize i j c).toNat g tb D σ H1 := rfl
theorem LoopS.mk {lo st : Int} {n : Nat} {g : TG} {tb : TS} {D : Ends} {σ : St} {H : Hp} (Pv : Nat → St → Hp → Prop) (h0 : Pv 0 σ H)
    (hs : ∀ i σ H, i < n → Pv i σ H → g (.int (lo + i * st)) σ H fun σ2 H2 => tb { D with nx := Pv (i + 1), ct := Pv (i + 1), bk := D.nx } σ2 H2) (hd : ∀ σ H, Pv n σ H → D.nx σ H) : LoopS lo st n g tb D σ H := by
  refine ⟨fun i m σ H => m = n - i ∧ i ≤ n ∧ Pv i σ H, ⟨_, rfl, Nat.zero_le _, h0⟩, ?_⟩
  rintro i m σ H ⟨rfl, hi, p⟩
  by_cases hlt : i < n
  · refine .inr ⟨hlt, Pv (i + 1), fun σ' H' p' => ⟨n - (i + 1), by omega, rfl, hlt, p'⟩, fun v H' yy => ?_⟩
    obtain ⟨rfl, rfl⟩ := yy
    exact hs i σ _ hlt p
  · have e : i = n := by omega
    exact .inl ⟨(show n ≤ i by omega), hd σ H (e ▸ p)⟩
def CompS (lo st : Int) (n k : Nat) (js : List Nat) (g : TG) (te : TE) (σ : St) (H1 : Hp) (Q : VK) : Prop := ∃ W : Nat → Nat → List V → St → Hp → Prop, (∃ m, W 0 m [] (compSt k js σ) H1) ∧ ∀ i m ys σ' H', W i m ys σ' H' →
    ((Its lo st n).stop i H' ∧ ∀ p, H' p = none → Q (.ref p) (upd H' p (.lst ys))) ∨
    ((Its lo st n).go i H' ∧ ys.length < sizeLine ∧ ∃ N : List V → St → Hp → Prop, (∀ zs σ2 H2, N zs σ2 H2 → ∃ m', m' < m ∧ W (i + 1) m' zs σ2 H2) ∧ ∀ x H2, (Its lo st n).yld i H' x H2 → g x σ' H2 fun σ3 H3 => te σ3 H3 fun v H4 => N (ys ++ [v]) σ3 H4)
theorem comp_eqR3 {k : Nat} {js : List Nat} {ta : TA} {g : TG} {te : TE} {σ : St} {H : Hp} {Q : VK} : tComp (iRng3 ta) k js g te σ H Q = ta σ H fun vs H1 => ∃ i j c : Int, vs = [.int i, .int j, .int c] ∧ (c ≠ 0 ∧ c.natAbs < 1073741824 ∧ Builtin.Range.small i j c = true) ∧ CompS i c (Builtin.Range.rangeSize i j c).toNat k js g te σ H1 Q := rfl
theorem CompS.mk {lo st : Int} {n k : Nat} {js : List Nat} {g : TG} {te : TE} {Q : VK} {σ : St} {H : Hp} (Pv : Nat → List V → St → Hp → Prop) (h0 : Pv 0 [] (compSt k js σ) H) (hlen : ∀ i ys σ H, Pv i ys σ H → ys.length < sizeLine)
    (hs : ∀ i ys σ H, i < n → Pv i ys σ H → g (.int (lo + i * st)) σ H fun σ3 H3 => te σ3 H3 fun v H4 => Pv (i + 1) (ys ++ [v]) σ3 H4) (hd : ∀ ys σ H, Pv n ys σ H → ∀ p, H p = none → Q (.ref p) (upd H p (.lst ys))) : CompS lo st n k js g te σ H Q := by
  refine ⟨fun i m ys σ H => m = n - i ∧ i ≤ n ∧ Pv i ys σ H, ⟨_, rfl, Nat.zero_le _, h0⟩, ?_⟩
  rintro i m ys σ H ⟨rfl, hi, p⟩
  by_cases hlt : i < n
  · refine .inr ⟨hlt, hlen _ _ _ _ p, Pv (i + 1), fun zs σ' H' p' => ⟨n - (i + 1), by omega, rfl, hlt, p'⟩, fun v H' yy => ?_⟩
    obtain ⟨rfl, rfl⟩ := yy
    exact hs i ys σ _ hlt p
  · have e : i = n := by omega
    exact .inl ⟨(show n ≤ i by omega), hd ys σ H (e ▸ p)⟩
end L2
namespace L2
open PySem PySem.Spec PyProof.Rows
section
variable {X : Cx}
def rCatS : R2 := fun x y H Q => ∃ a b xs ys, x = .ref a ∧ y = .ref b ∧ H a = some (.tup xs) ∧ H b = some (.tup ys) ∧ xs.length + ys.length ≤ sizeLine ∧ ∀ r H', Same H H' → H' r = some (.tup (xs ++ ys)) → Q (.ref r) H'
theorem op_catS : OpR X (binaryOp .Add) rCatS := by
  intro pins s σ H x y v u Q I rx ry h
  obtain ⟨a, b, xs, ys, rfl, rfl, ha, hb, hz, q⟩ := h
  refine op_catA pins s σ H _ _ v u Q I rx ry ⟨a, b, xs, ys, rfl, rfl, .of ha, .of hb, hz, fun e => ?_, fun _ e => ?_, fun _ _ p hp => ?_⟩
  · subst e; exact q b H (Same.refl _) hb
  · subst e; exact q a H (Same.refl _) (by rw [List.append_nil]; exact ha)
  · exact q p _ (same_new hp _) upd_same
def rSlTS : V → Option Int → Option Int → Hp → VK → Prop := fun x lo hi H Q => ∃ a xs, x = .ref a ∧ H a = some (.tup xs) ∧ ¬ (HT.sIx xs.length 0 lo = 0 ∧ HT.sIx xs.length xs.length hi = xs.length) ∧ ∀ r H', Same H H' → H' r = some (.tup (cutV xs lo hi)) → Q (.ref r) H'
theorem sl_tupS : SlR X rSlTS := by
  intro pins s σ H x v vl vu lo hi sl Q I rx hs pl pu h
  obtain ⟨a, xs, e, ha, nw, q⟩ := h
  exact sl_tup pins s σ H x v vl vu lo hi sl Q I rx hs pl pu ⟨a, xs, e, .of ha, nw, fun p hp => q p _ (same_new hp _) upd_same⟩
end
end L2
namespace L2
open PySem PySem.Spec PyProof.Rows
theorem has_of {names : List (Str × NameKind)} {cl : List (Str × Addr)} (h : names.all (fun y => match y.2 with | .cell => (cl.lookup y.1).isSome | .free => (cl.lookup y.1).isSome | _ => true) = true) :
    ∀ x, (names.lookup x = some .cell ∨ names.lookup x = some .free) → ∃ c, cl.lookup x = some c := by
  intro x hx
  have z := List.all_eq_true.mp h
  rcases hx with hx | hx
  · exact Option.isSome_iff_exists.mp (z _ (PySem.mem_of_lookup hx))
  · exact Option.isSome_iff_exists.mp (z _ (PySem.mem_of_lookup hx))
theorem cap1 {X : Cx} {scope : Scope} {cl : List (Str × Addr)} {x0 : Str} {j0 : Nat} (c0 : Cap X scope cl x0 j0) : ∀ (i : Nat) x j, [x0][i]? = some x → [j0][i]? = some j → Cap X scope cl x j
  | 0, _, _, h1, h2 => by cases h1; cases h2; exact c0
  | _ + 1, _, _, h1, _ => by cases h1
theorem cap2 {X : Cx} {scope : Scope} {cl : List (Str × Addr)} {x0 x1 : Str} {j0 j1 : Nat} (c0 : Cap X scope cl x0 j0) (c1 : Cap X scope cl x1 j1) : ∀ (i : Nat) x j, [x0, x1][i]? = some x → [j0, j1][i]? = some j → Cap X scope cl x j
  | 0, _, _, h1, h2 => by cases h1; cases h2; exact c0
  | 1, _, _, h1, h2 => by cases h1; cases h2; exact c1
  | _ + 2, _, _, h1, _ => by cases h1
end L2
namespace L2
open PySem PySem.Spec PyProof.Rows
section
variable {prog : Program} {w : World} {A : Around} {R : Result → Shared → Prop} {s : Shared}
end
def tCompI (wi : TI) (k : Nat) (js : List Nat) (g : TG) (tc : TT) (te : TE) : TE := fun σ H Q => wi σ H fun J H1 =>
  ∃ W : Nat → Nat → List V → St → Hp → Prop, (∃ m, W 0 m [] (compSt k js σ) H1) ∧ ∀ i m ys σ' H', W i m ys σ' H' →
    (J.stop i H' ∧ ∀ p, H' p = none → Q (.ref p) (upd H' p (.lst ys))) ∨
    (J.go i H' ∧ ys.length < sizeLine ∧ ∃ N : List V → St → Hp → Prop, (∀ zs σ2 H2, N zs σ2 H2 → ∃ m', m' < m ∧ W (i + 1) m' zs σ2 H2) ∧
      ∀ x H2, J.yld i H' x H2 → g x σ' H2 fun σ3 H3 => tc σ3 H3 fun b H4 => if b = true then te σ3 H4 fun v H5 => N (ys ++ [v]) σ3 H5 else N ys σ3 H4)
end L2
namespace L2
open PySem PySem.Spec PyProof.Rows
section
variable {pg : Program} {wd : World} {B : Around} {X0 : Value → Shared → Prop} {s0 : Shared}
end
def Ite (K : PySem.W.Frag) (a : Addr) : It := ⟨fun i H => ∃ xs x, SqT K H a xs ∧ xs[i]? = some x,
  fun i H v H' => ∃ T x, v = .ref T ∧ H T = none ∧ H' = upd H T (.tup [.int i, x]) ∧ ∀ xs, SqT K H a xs → xs[i]? = some x, fun i H => ∃ xs, SqT K H a xs ∧ xs.length ≤ i⟩
section
variable {X : Cx} {es : List Expr} {x1 : Nat} {pp : Pos}
def iEnum (K : PySem.W.Frag) (te : TE) : TI := fun σ H R => te σ H fun v H1 => ∃ a xs, v = .ref a ∧ SqT K H1 a xs ∧ R (Ite K a) H1
end
def CompE (K : PySem.W.Frag) (k : Nat) (js : List Nat) (g : TG) (te : TE) (σ : St) (v : V) (H1 : Hp) (Q : VK) : Prop := ∃ a xs, v = .ref a ∧ SqT K H1 a xs ∧ ∃ W : Nat → Nat → List V → St → Hp → Prop, (∃ m, W 0 m [] (compSt k js σ) H1) ∧ ∀ i m zs σ' H', W i m zs σ' H' →
    ((Ite K a).stop i H' ∧ ∀ p, H' p = none → Q (.ref p) (upd H' p (.lst zs))) ∨
    ((Ite K a).go i H' ∧ zs.length < sizeLine ∧ ∃ N : List V → St → Hp → Prop, (∀ zs σ2 H2, N zs σ2 H2 → ∃ m', m' < m ∧ W (i + 1) m' zs σ2 H2) ∧ ∀ x H2, (Ite K a).yld i H' x H2 → g x σ' H2 fun σ3 H3 => te σ3 H3 fun v H4 => N (zs ++ [v]) σ3 H4)
theorem comp_eqE {K : PySem.W.Frag} {k : Nat} {js : List Nat} {tx : TE} {g : TG} {te : TE} {σ : St} {H : Hp} {Q : VK} : tComp (iEnum K tx) k js g te σ H Q = tx σ H fun v H1 => CompE K k js g te σ v H1 Q := rfl
theorem CompE.mk {K : PySem.W.Frag} {a : Addr} {xs : List V} {k : Nat} {js : List Nat} {g : TG} {te : TE} {Q : VK} {σ : St} {H : Hp} (h1 : SqT K H a xs) (Pv : Nat → List V → St → Hp → Prop) (h0 : Pv 0 [] (compSt k js σ) H) (hl : ∀ i zs σ H, i ≤ xs.length → Pv i zs σ H → SqT K H a xs ∧ zs.length < sizeLine)
    (hs : ∀ i x zs σ H T, xs[i]? = some x → Pv i zs σ H → H T = none → g (.ref T) σ (upd H T (.tup [.int i, x])) fun σ3 H3 => te σ3 H3 fun v H4 => Pv (i + 1) (zs ++ [v]) σ3 H4) (hz : ∀ zs σ H, Pv xs.length zs σ H → ∀ p, H p = none → Q (.ref p) (upd H p (.lst zs))) :
    CompE K k js g te σ (.ref a) H Q := by
  refine ⟨a, xs, rfl, h1, fun i m zs σ H => m = xs.length - i ∧ i ≤ xs.length ∧ Pv i zs σ H, ⟨_, rfl, Nat.zero_le _, h0⟩, ?_⟩
  rintro i m zs σ H ⟨rfl, hi, p⟩
  obtain ⟨k1, k2⟩ := hl i zs σ H hi p
  by_cases hlt : i < xs.length
  · refine .inr ⟨⟨xs, _, k1, List.getElem?_eq_getElem hlt⟩, k2, Pv (i + 1), fun zs' σ' H' p' => ⟨xs.length - (i + 1), by omega, rfl, hlt, p'⟩, fun v H' yy => ?_⟩
    obtain ⟨T, x, rfl, hT, rfl, ex⟩ := yy
    exact hs i x zs σ H T (ex xs k1) p hT
  · have e : i = xs.length := by omega
    exact .inl ⟨⟨xs, k1, by omega⟩, hz zs σ H (e ▸ p)⟩
def CompEI (K : PySem.W.Frag) (k : Nat) (js : List Nat) (g : TG) (tc : TT) (te : TE) (σ : St) (v : V) (H1 : Hp) (Q : VK) : Prop := ∃ a xs, v = .ref a ∧ SqT K H1 a xs ∧ ∃ W : Nat → Nat → List V → St → Hp → Prop, (∃ m, W 0 m [] (compSt k js σ) H1) ∧ ∀ i m zs σ' H', W i m zs σ' H' →
    ((Ite K a).stop i H' ∧ ∀ p, H' p = none → Q (.ref p) (upd H' p (.lst zs))) ∨
    ((Ite K a).go i H' ∧ zs.length < sizeLine ∧ ∃ N : List V → St → Hp → Prop, (∀ zs σ2 H2, N zs σ2 H2 → ∃ m', m' < m ∧ W (i + 1) m' zs σ2 H2) ∧ ∀ x H2, (Ite K a).yld i H' x H2 → g x σ' H2 fun σ3 H3 => tc σ3 H3 fun b H4 => if b = true then te σ3 H4 fun v H5 => N (zs ++ [v]) σ3 H5 else N zs σ3 H4)
theorem comp_eqEI {K : PySem.W.Frag} {k : Nat} {js : List Nat} {tx : TE} {g : TG} {tc : TT} {te : TE} {σ : St} {H : Hp} {Q : VK} : tCompI (iEnum K tx) k js g tc te σ H Q = tx σ H fun v H1 => CompEI K k js g tc te σ v H1 Q := rfl
theorem CompEI.mk {K : PySem.W.Frag} {a : Addr} {xs : List V} {k : Nat} {js : List Nat} {g : TG} {tc : TT} {te : TE} {Q : VK} {σ : St} {H : Hp} (h1 : SqT K H a xs) (Pv : Nat → List V → St → Hp → Prop) (h0 : Pv 0 [] (compSt k js σ) H) (hl : ∀ i zs σ H, i ≤ xs.length → Pv i zs σ H → SqT K H a xs ∧ zs.length < sizeLine)
    (hs : ∀ i x zs σ H T, xs[i]? = some x → Pv i zs σ H → H T = none → g (.ref T) σ (upd H T (.tup [.int i, x])) fun σ3 H3 => tc σ3 H3 fun b H4 => if b = true then te σ3 H4 fun v H5 => Pv (i + 1) (zs ++ [v]) σ3 H5 else Pv (i + 1) zs σ3 H4) (hz : ∀ zs σ H, Pv xs.length zs σ H → ∀ p, H p = none → Q (.ref p) (upd H p (.lst zs))) :
    CompEI K k js g tc te σ (.ref a) H Q := by
  refine ⟨a, xs, rfl, h1, fun i m zs σ H => m = xs.length - i ∧ i ≤ xs.length ∧ Pv i zs σ H, ⟨_, rfl, Nat.zero_le _, h0⟩, ?_⟩
  rintro i m zs σ H ⟨rfl, hi, p⟩
  obtain ⟨k1, k2⟩ := hl i zs σ H hi p
  by_cases hlt : i < xs.length
  · refine .inr ⟨⟨xs, _, k1, List.getElem?_eq_getElem hlt⟩, k2, Pv (i + 1), fun zs' σ' H' p' => ⟨xs.length - (i + 1), by omega, rfl, hlt, p'⟩, fun v H' yy => ?_⟩
    obtain ⟨T, x, rfl, hT, rfl, ex⟩ := yy
    exact hs i x zs σ H T (ex xs k1) p hT
  · have e : i = xs.length := by omega
    exact .inl ⟨⟨xs, k1, by omega⟩, hz zs σ H (e ▸ p)⟩
end L2
namespace L2
open PySem PySem.Spec PyProof.Rows PySem.W PySem.Calls
def catchN (K : PySem.W.Frag) : List (Addr × TS) → Value → (TS → Prop) → Prop
  | [], _, _ => False
  | (C, ts) :: r, c, k => (PySem.W.exmOne K c (.ref C) = some true ∧ k ts) ∨ (PySem.W.exmOne K c (.ref C) = some false ∧ catchN K r c k)
def caughtN (K : PySem.W.Frag) (cs : List (Addr × TS)) (D : Ends) : St → XK := fun σ1 c _ H1 => catchN K cs c fun ts => ts D σ1 H1
def tTryN (K : PySem.W.Frag) (cs : List (Addr × TS)) (tb : (St → XK) → TS) : TS := fun D σ H => tb (caughtN K cs D) D σ H
inductive Clauses (X : Cx) : List ExceptHandler → List (Addr × TS) → Prop
  | nil : Clauses X [] []
  | cons {x : Str} {C : Addr} {b₀ : Stmt} {suite : List Stmt} {np hpos : Pos} {ts : TS} {r : List ExceptHandler} {tr : List (Addr × TS)} (hg : Gl X x) (hn : PySem.W.nsIn X.K mainGlobals x = some (some (.ref C)))
      (hs : ∀ (a : Addr) (pn : List (Addr × Obj)), PSs (X.suite a pn) (b₀ :: suite) ts) (hr : Clauses X r tr) (hd : (x == ("__debug__" : Str)) = false) : Clauses X (.ExceptHandler (some (.Name x np)) none (b₀ :: suite) hpos :: r) ((C, ts) :: tr)
theorem ps_tryN {X : Cx} {body : List Stmt} {h₀ : ExceptHandler} {hl : List ExceptHandler} {cs : List (Addr × TS)} {pos : Pos} {tb : (St → XK) → TS} (hstk : X.stack = X.env :: X.outer ∧ X.env.frame = some X.env.locals)
    (hb : ∀ (xe : Value → Shared → Prop) (pn : List (Addr × Obj)) (EE : St → XK), (∀ σ, PassesAt (CX1 X.prog X.w) (X.more xe pn) (EE σ) σ) → PSs (X.more xe pn) body (tb EE)) (hc : Clauses X (h₀ :: hl) cs) :
    PS X (.Try body (h₀ :: hl) [] [] pos) (tTryN X.K cs tb) := by
  intro pins s σ H D I h
  refine wpAny_Try_except ?_
  generalize hXE : (fun e s₁ => wpAny (model X.prog X.w) X.A (noteFrame e X.env) (fun _ s₂ => wpAny (model X.prog X.w) X.A (setFlight e none) (fun _ s₃ => wpAny (model X.prog X.w) X.A (handleBy e X.env (h₀ :: hl)) (SP X pins D) X.xe s₃) X.xe s₂) X.xe s₁ : Value → Shared → Prop) = XE
  have toY : ∀ {σ' : St} {H' : Hp} {s' : Shared}, Inv X pins σ' H' s' → Inv (X.more XE (X.pn ++ pins)) [] σ' H' s' := fun J => ⟨J.ok.more _ _, J.os, J.bare, J.base, J.loc, J.cell, J.free, J.freeC, fun p hp => J.pin p (by simpa using hp), J.hok, J.len⟩
  have ofY : ∀ {σ' : St} {H' : Hp} {s' : Shared} {pp : List (Addr × Obj)}, Inv (X.more XE (X.pn ++ pins)) pp σ' H' s' → Inv X pins σ' H' s' := fun J => ⟨I.ok, J.os, J.bare, J.base, J.loc, J.cell, J.free, J.freeC, fun p hp => J.pin p (List.mem_append_left _ hp), J.hok, J.len⟩
  have body_ok := hb XE (X.pn ++ pins) (caughtN X.K cs D) ?_ [] s σ H D (toY I) h
  · refine thn body_ok fun fl s' q => ?_
    cases fl with
    | next => obtain ⟨σ', H', J, z⟩ := q; exact wpAny_execs_nil ⟨σ', H', ofY J, z⟩
    | brk => obtain ⟨σ', H', J, z⟩ := q; exact ⟨σ', H', ofY J, z⟩
    | cont => obtain ⟨σ', H', J, z⟩ := q; exact ⟨σ', H', ofY J, z⟩
    | ret u => obtain ⟨v, σ', H', J, r, z⟩ := q; exact ⟨v, σ', H', ofY J, r, z⟩
  intro σ1 pins1 H1 s1 e s' I1 hx
  obtain ⟨a, C', a0, H', B, rfl, os, bare, fl, inB, thB, un, okB, hcatch⟩ := hx
  have hcatch : catchN X.K cs (.ref C') fun ts => ts D σ1 H' := hcatch
  subst hXE
  have fl : Heap.FlyingW B (X.env :: X.outer) a (.ref C') a0 s'.heap := by
    have z : Heap.FlyingW B X.stack a (.ref C') a0 s'.heap := fl
    rw [hstk.1] at z; exact z
  have hfr : X.A.frames = some (X.env :: X.outer) := by rw [I.ok.frames, hstk.1]
  have at_ : ∀ h2 : Heap, Heap.FlyingW B (X.env :: X.outer) a (.ref C') a0 h2 → s'.heap.UpToSlots h2 → ∀ t2 : Nat, Inv X pins σ1 H' { s' with heap := h2, toks := t2 } := fun h2 f2 u2 t2 => by
    have J1 : Inv X pins σ1 H1 s1 := ofY I1
    have slot : ∀ b o, s1.heap.get? b = some o → H1 b = none → b ∈ frs X.stack → ∃ sl, h2.get? b = some { o with slots := sl } := fun b o e nn hb => by
      obtain ⟨sl2, e2⟩ := un.slot b o e nn hb (by simp)
      obtain ⟨_, o3, e3, nf⟩ := J1.stack.mem hb
      rw [e] at e3; cases e3
      obtain ⟨sl3, e4⟩ := u2 b _ e2 nf
      exact ⟨sl3, e4⟩
    refine J1.call' (s' := { s' with heap := h2, toks := t2 }) (ch := []) os ⟨fun b o e nn hb _ => f2.1 _ _ (inB b o e nn hb), fun b o e nn hb _ => slot b o e nn hb, un.free, fun b o e _ => ?_, un.tups, un.frzs, un.tbls⟩ (okB.kept f2.1) bare (fun b z => nomatch z)
    by_cases hb : b ∈ frs X.stack
    · obtain ⟨sl, q⟩ := slot b o e (J1.stkFree b hb) hb
      exact ⟨_, q⟩
    · obtain ⟨o', q⟩ := thB b o e hb
      exact ⟨o', f2.1 _ _ q⟩
  refine wpAny_looks_onW hfr hstk.2 fl fun h4 held4 up4 => ?_
  refine wpAny_landsW held4 fun h5 fl5 up5 => ?_
  have J5 := at_ h5 fl5 (up4.trans up5) s'.toks
  obtain ⟨oe5, ve5, he5, hc5, hd5, _⟩ := fl5.first
  have toZ : ∀ {σ' : St} {H' : Hp} {s' : Shared}, Inv X pins σ' H' s' → Inv (X.suite a (X.pn ++ pins)) [] σ' H' s' := fun J => ⟨J.ok.suite _ _, J.os, J.bare, J.base, J.loc, J.cell, J.free, J.freeC, fun p hp => J.pin p (by simpa using hp), J.hok, J.len⟩
  have ofZ : ∀ {σ' : St} {H' : Hp} {s' : Shared}, Inv (X.suite a (X.pn ++ pins)) [] σ' H' s' → Inv X pins σ' H' s' := fun J => ⟨I.ok, J.os, J.bare, J.base, J.loc, J.cell, J.free, J.freeC, fun p hp => J.pin p (List.mem_append_left _ hp), J.hok, J.len⟩
  have LT : Looks (model X.prog X.w) h5 (typeOf (.ref a)) (.ref C') := hc5 ▸ (Looks.ld he5).andThen .now
  have all : ∀ (hs' : List ExceptHandler) (cs' : List (Addr × TS)), Clauses X hs' cs' → (catchN X.K cs' (.ref C') fun ts => ts D σ1 H') → wpAny (model X.prog X.w) X.A (handleBy (.ref a) X.env hs') (SP X pins D) X.xe { s' with heap := h5 } := by
    intro hs' cs' hcl
    induction hcl with
    | nil => intro z; exact z.elim
    | cons hg hn hs hr hd ih =>
      intro z
      have bnd := PySem.W.mg_of J5.ok.mod.kin J5.ok.mod.glob hn
      refine wpAny_handleBy_cons (codeAny_handlers_test ?_) (by intro q; cases q)
      refine ld_glob (X := X.suite a (X.pn ++ pins)) (toZ J5) hg bnd ?_ hd
      rcases z with ⟨z1, z2⟩ | ⟨z1, z2⟩
      · refine (PySem.W.exm_one (M := model X.prog X.w) J5.kIn LT z1).here ?_
        refine codeAny_handlers_suite ?_
        refine lands_againW fl5 fun h6 fl6 up6 => ?_
        have J6 := at_ h6 fl6 ((up4.trans up5).trans up6) s'.toks
        refine wpAny_mono (hs a (X.pn ++ pins) [] _ _ _ D (toZ J6) z2) (fun fl s9 q => ?_) fun _ _ z => z.elim
        cases fl with
        | next => obtain ⟨σ9, H9, J9, z⟩ := q; exact ⟨_, H9, ofZ J9, z⟩
        | brk => obtain ⟨σ9, H9, J9, z⟩ := q; exact ⟨_, H9, ofZ J9, z⟩
        | cont => obtain ⟨σ9, H9, J9, z⟩ := q; exact ⟨_, H9, ofZ J9, z⟩
        | ret u => obtain ⟨v, σ9, H9, J9, r, z⟩ := q; exact ⟨v, _, H9, ofZ J9, r, z⟩
      · refine (PySem.W.exm_one (M := model X.prog X.w) J5.kIn LT z1).here ?_
        exact ih z2
  exact all _ _ hc hcatch
end L2
namespace L2
open PySem PySem.Spec PyProof.Rows
section
variable {X : Cx}
def rNeT (K : PySem.W.Frag) : R2 := fun x y H Q => ∃ a b xs ys, x = .ref a ∧ y = .ref b ∧ SqT K H a xs ∧ SqT K H b ys ∧ xs.all flatV = true ∧ ys.all flatV = true ∧ Q (.bl (!eqVs xs ys)) H
theorem op_neT (hu : X.A.units < cLine) : OpR X (compareOp .NotEq) (rNeT X.K) := by
  intro pins s σ H x y v u Q I rx ry h
  obtain ⟨a, b, xs, ys, rfl, rfl, ha, hb, f1, f2, q⟩ := h
  cases rx
  cases ry
  obtain ⟨us, r1, p1, _⟩ := I.tuple ha
  obtain ⟨ws, r2, p2, _⟩ := I.tuple hb
  refine SeqAt.RcNeAt.tuples (show s.heap.IsTuple a us.toArray from p1) (show s.heap.IsTuple b ws.toArray from p2) (e := eqAtI xs ys) hu (eqAtI_ok r1 r2 f1 f2) _ _ _ _ ?_
  have e1 : us.toArray.size = xs.length := by simp [r1.length]
  have e2 : ws.toArray.size = ys.length := by simp [r2.length]
  rw [e1, e2]
  have z : ((List.range (min xs.length ys.length)).all (eqAtI xs ys) && xs.length == ys.length) = eqVs xs ys := by
    by_cases hl : xs.length = ys.length
    · rw [← hl, Nat.min_self, eqVs_all hl]; simp
    · rw [eqVs_len hl]; simp [hl]
  rw [z]
  exact ⟨.bl _, H, I, rfl, q⟩
def rNeL (K : PySem.W.Frag) : R2 := fun x y H Q => ∃ a b xs ys, x = .ref a ∧ y = .ref b ∧ SqL K H a xs ∧ SqL K H b ys ∧ xs.all flatV = true ∧ ys.all flatV = true ∧ Q (.bl (!eqVs xs ys)) H
end
theorem cl_sub1 {cells : List (Str × Addr)} {y : Str} {a : Addr} (h : cells.lookup y = some a) : ∀ x c, [(y, a)].lookup x = some c → cells.lookup x = some c := fun x c e => by
  cases List.mem_singleton.mp (PySem.mem_of_lookup e); exact h
theorem cl_sub2 {cells : List (Str × Addr)} {y z : Str} {a b : Addr} (h : cells.lookup y = some a) (h2 : cells.lookup z = some b) : ∀ x c, [(y, a), (z, b)].lookup x = some c → cells.lookup x = some c := fun x c e => by
  rcases List.mem_cons.mp (PySem.mem_of_lookup e) with q | q
  · cases q; exact h
  · cases List.mem_singleton.mp q; exact h2
end L2
namespace HT
open PySem PySem.Spec PyProof.Rows L2
theorem whole_tup {prog : Program} {w : World} {A : Around} {E : Value → Shared → Prop} {s : Shared} {t sl : Addr} {its : Array Value} {vl vu : Value} {lo hi : Option Int} {R : Value → Shared → Prop} (ht : IsTup s.heap t its) (hs : s.heap.IsSliceOf sl vl vu .none) (pl : IsPart vl lo) (pu : IsPart vu hi)
    (h0 : sIx its.size 0 lo = 0) (h1 : sIx its.size its.size hi = its.size) (h : R (.ref t) s) : wpAny (model prog w) A (getItem (.ref t) (.ref sl)) R E s := by
  obtain ⟨os, hos, hcs, hds⟩ := id hs
  have hTs : s.TypeIs (.ref sl) "slice" := ⟨os, hos, hcs⟩
  unfold getItem
  try with_reducible refine wpAny_holding ?_
  first | refine wpAny_bind (wpAny_pure ?_) | skip
  refine wpAny_bind (wpAny_sequenceKey ht.typeIs (by decide) ?_)
  refine wpAny_bind (wpAny_callSpecial?_slot (name := Str.ofString "__getitem__") ht.typeIs PyProof.Rows.slot_tuple_getitem (wpAny_call_entry PyProof.Rows.slot_tuple_getitem ht.typeIs entry_tuple_getitem ?_ (args_tuple_getitem _ _)))
  show wpAny _ _ (Builtin.Tuple.tupleItemsOf (.ref t) >>= _) _ _ s
  refine wpAny_bind (tupleItemsOf_ ht ?_)
  refine wpAny_bind (wpAny_typeOf hTs ?_)
  rw [if_pos (by decide)]
  refine wpAny_bind (sliceApplied_gen hs pl pu ?_)
  show wpAny _ _ (if (((sIx its.size 0 lo : Nat) : Int) == 0 && (1 : Int) == 1 && (sIx its.size its.size hi - sIx its.size 0 lo) == its.size) = true then _ else _) _ _ s
  rw [if_pos (by rw [h0, h1]; simp)]
  unfold Builtin.Tuple.tupleIsExact
  exact wpAny_bind (wpAny_bind (wpAny_typeOf ht.typeIs (wpAny_pure (wpAny_bind (wpAny_rule (wpAny_pure ⟨_, rfl, wpAny_pure h⟩))))))
end HT
namespace L2
open PySem PySem.Spec PyProof.Rows
section
variable {X : Cx}
def rSlTA : V → Option Int → Option Int → Hp → VK → Prop := fun x lo hi H Q => ∃ a xs, x = .ref a ∧ H a = some (.tup xs) ∧ ∀ r H', Same H H' → H' r = some (.tup (cutV xs lo hi)) → Q (.ref r) H'
theorem sl_tupA : SlR X rSlTA := by
  intro pins s σ H x v vl vu lo hi sl Q I rx hs pl pu h
  obtain ⟨a, xs, rfl, ha, q⟩ := h
  by_cases c : HT.sIx xs.length 0 lo = 0 ∧ HT.sIx xs.length xs.length hi = xs.length
  · cases rx
    obtain ⟨its, r, ht, hz⟩ := I.tuple (show SqT X.K H a xs from .of ha)
    have hlen : its.toArray.size = xs.length := by rw [List.size_toArray]; exact r.length.symm
    refine ⟨"tuple", _, PyProof.Rows.slot_tuple_getitem.lookup, ht.typeIs, HT.whole_tup ht hs pl pu (by rw [hlen]; exact c.1) (by rw [hlen]; exact c.2) ⟨.ref a, H, I, rfl, q a H (Same.refl _) ?_⟩⟩
    unfold cutV
    rw [c.1, c.2, List.drop_zero, Nat.sub_zero, List.take_length]
    exact ha
  · exact sl_tupS pins s σ H _ v vl vu lo hi sl Q I rx hs pl pu ⟨a, xs, rfl, ha, c, q⟩
end
end L2
namespace L2
open PySem PySem.Spec PyProof.Rows
def okS (k : Nat) (x : Str) : Prop := x.length ≤ k ∧ ∀ c ∈ x.cps.toList, c < 1000
theorem okS.mono {k m : Nat} {x : Str} (h : okS k x) (l : k ≤ m) : okS m x := ⟨Nat.le_trans h.1 l, h.2⟩
theorem okS.repr {k : Nat} {x : Str} (h : okS k x) : (reprText x).length ≤ 10 * k + 2 := by
  have := StrLaws.reprText_len x fun c hc => Nat.lt_of_lt_of_le (h.2 c hc) (by decide)
  have := h.1
  omega
section
variable {X : Cx}
def tFR (t1 t2 : TE) : TE := fun σ H Q => t1 σ H fun x H1 => ∃ a, x = .str a ∧ okS 1000 a ∧ t2 σ H1 fun y H2 => ∃ b, y = .str b ∧ okS 1000 b ∧ ∀ z, Q (.str z) H2
theorem pe_fR {e1 e2 : Expr} {t1 t2 : TE} {pos p2 : Pos} (h1 : PE X e1 t1) (h2 : PE X e2 t2) : PE X (.JoinedStr [e1, .FormattedValue e2 114 none p2] pos) (tFR t1 t2) := by
  intro pins s σ H Q I h
  refine wpAny_JoinedStr (thn (h1 pins s σ H _ I h) fun v s1 ⟨x, H1, I1, r1, q1⟩ => ?_)
  obtain ⟨a, rfl, oa, q2⟩ := q1
  obtain ⟨ta, rfl⟩ := r1
  have s20 : 20000 ≤ sizeLine := by rw [sizeLine_eq]; decide
  have e0 : ∀ z : Str, Str.empty ++ z = z := fun z => by show (⟨#[] ++ z.cps⟩ : Str) = z; simp
  refine ⟨a, ta, rfl, ?_, wpAny_FormattedValue_repr (thn (h2 pins s1 σ H1 _ I1 q2) fun v s2 ⟨y, H2, I2, r2, q3⟩ => ?_)⟩
  · rw [e0]; have := oa.1; omega
  obtain ⟨b, rfl, ob, q⟩ := q3
  obtain ⟨tb, rfl⟩ := r2
  have rb := ob.repr
  refine wpAny_pyReprObj_str (formatField_str (fun t' tk => ⟨_, t', rfl, ?_, ?_, ?_⟩) (by omega)) (by omega)
  · rw [e0, strLen_append]; have := oa.1; omega
  · rw [e0, strLen_append]; have := oa.1; omega
  · exact ⟨.str _, H2, (I2.tok _).tok _, ⟨_, rfl⟩, q _⟩
def rSlStr : V → Option Int → Option Int → Hp → VK → Prop := fun x lo hi H Q => ∃ z, x = .str z ∧ z.length ≤ 1000 ∧ ∀ y : Str, y.length ≤ z.length → (∀ c ∈ y.cps.toList, c ∈ z.cps.toList) → Q (.str y) H
def rUpper : V → List V → Hp → VK → Prop := fun x xs H Q => ∃ z, x = .str z ∧ xs = [] ∧ okS 1000 ⟨placed z fun _ c => Unicode.upperOf c⟩ ∧ Q (.str ⟨placed z fun _ c => Unicode.upperOf c⟩) H
def rJoin (K : PySem.W.Frag) : V → List V → Hp → VK → Prop := fun x xs H Q => ∃ (z : Str) (l : Addr) (ys : List Str), x = .str z ∧ z.length = 0 ∧ xs = [.ref l] ∧ SqL K H l (ys.map V.str) ∧ ys.length ≤ 100 ∧ (∀ y ∈ ys, okS 10 y) ∧ ∀ y : Str, okS 1000 y → Q (.str y) H
end
end L2
namespace L2
open PySem PySem.Spec PyProof.Rows
def Itel (K : PySem.W.Frag) (a : Addr) : It := ⟨fun i H => ∃ xs x, SqL K H a xs ∧ xs[i]? = some x,
  fun i H v H' => ∃ T x, v = .ref T ∧ H T = none ∧ H' = upd H T (.tup [.int i, x]) ∧ ∀ xs, SqL K H a xs → xs[i]? = some x, fun i H => ∃ xs, SqL K H a xs ∧ xs.length ≤ i⟩
section
variable {X : Cx} {es : List Expr} {x1 : Nat} {pp : Pos}
def iEnumL (K : PySem.W.Frag) (te : TE) : TI := fun σ H R => te σ H fun v H1 => ∃ a xs, v = .ref a ∧ SqL K H1 a xs ∧ R (Itel K a) H1
end
def LoopEL (K : PySem.W.Frag) (g : TG) (tb : TS) (D : Ends) (σ : St) (v : V) (H1 : Hp) : Prop := ∃ a xs, v = .ref a ∧ SqL K H1 a xs ∧ ∃ W : Nat → Nat → St → Hp → Prop, (∃ m, W 0 m σ H1) ∧ ∀ i m σ H, W i m σ H →
  ((Itel K a).stop i H ∧ D.nx σ H) ∨ ((Itel K a).go i H ∧ ∃ N : St → Hp → Prop, (∀ σ' H', N σ' H' → ∃ m', m' < m ∧ W (i + 1) m' σ' H') ∧ ∀ x H', (Itel K a).yld i H x H' → g x σ H' fun σ2 H2 => tb { D with nx := N, ct := N, bk := D.nx } σ2 H2)
theorem for_eqEL {K : PySem.W.Frag} {te : TE} {g : TG} {tb : TS} {D : Ends} {σ : St} {H : Hp} : tFor (iEnumL K te) g tb D σ H = te σ H fun v H1 => LoopEL K g tb D σ v H1 := rfl
theorem LoopEL.mk {K : PySem.W.Frag} {a : Addr} {xs : List V} {g : TG} {tb : TS} {D : Ends} {σ : St} {H : Hp} (h1 : SqL K H a xs) (Pv : Nat → St → Hp → Prop) (h0 : Pv 0 σ H) (hl : ∀ i σ H, i ≤ xs.length → Pv i σ H → SqL K H a xs)
    (hs : ∀ i x σ H T, xs[i]? = some x → Pv i σ H → H T = none → g (.ref T) σ (upd H T (.tup [.int i, x])) fun σ2 H2 => tb { D with nx := Pv (i + 1), ct := Pv (i + 1), bk := D.nx } σ2 H2) (hd : ∀ σ H, Pv xs.length σ H → D.nx σ H) :
    LoopEL K g tb D σ (.ref a) H := by
  refine ⟨a, xs, rfl, h1, fun i m σ H => m = xs.length - i ∧ i ≤ xs.length ∧ Pv i σ H, ⟨_, rfl, Nat.zero_le _, h0⟩, ?_⟩
  rintro i m σ H ⟨rfl, hi, p⟩
  have k1 := hl i σ H hi p
  by_cases hlt : i < xs.length
  · refine .inr ⟨⟨xs, _, k1, List.getElem?_eq_getElem hlt⟩, Pv (i + 1), fun σ' H' p' => ⟨xs.length - (i + 1), by omega, rfl, hlt, p'⟩, fun v H' yy => ?_⟩
    obtain ⟨T, x, rfl, hT, rfl, ex⟩ := yy
    exact hs i x σ H T (ex xs k1) p hT
  · have e : i = xs.length := by omega
    exact .inl ⟨⟨xs, k1, by omega⟩, hd σ H (e ▸ p)⟩
end L2
namespace L2
open PySem PySem.Spec PyProof.Rows
theorem pa_str {X : Cx} {x j pos} {es : List Expr} {t : TA} (hr : PA X es t) : PA X (.Constant (.str x) j pos :: es) (tCons (tC (.str x)) t) := pa_cons pe_str hr rfl
def strsC (l : List (Str × Pos)) : List Expr := l.map fun p => .Constant (.str p.1) 0 p.2
def tStrs (l : List Str) : TA := fun _ H Q => Q (l.map V.str) H
theorem pa_strs {X : Cx} : ∀ l : List (Str × Pos), PA X (strsC l) (tStrs (l.map (·.1)))
  | [] => pa_nil
  | _ :: l => pa_str (pa_strs l)
instance (k : Nat) (x : Str) : Decidable (okS k x) := by unfold okS; infer_instance
end L2
namespace L2
open PySem PySem.Spec PyProof.Rows
def Itx (x : Str) : It := ⟨fun i _ => i < x.cps.size, fun i H v H' => H' = H ∧ ∃ c, x.cps[i]? = some c ∧ v = .str ⟨#[c]⟩, fun i _ => x.cps.size ≤ i⟩
section
variable {X : Cx} {tg : Expr}
def iStr (tl : TE) : TI := fun σ H R => tl σ H fun x H1 => ∃ z, x = .str z ∧ R (Itx z) H1
end
def LoopX (g : TG) (tb : TS) (D : Ends) (σ : St) (v : V) (H1 : Hp) : Prop := ∃ z, v = .str z ∧ ∃ W : Nat → Nat → St → Hp → Prop, (∃ m, W 0 m σ H1) ∧ ∀ i m σ H, W i m σ H →
  ((Itx z).stop i H ∧ D.nx σ H) ∨ ((Itx z).go i H ∧ ∃ N : St → Hp → Prop, (∀ σ' H', N σ' H' → ∃ m', m' < m ∧ W (i + 1) m' σ' H') ∧ ∀ x H', (Itx z).yld i H x H' → g x σ H' fun σ2 H2 => tb { D with nx := N, ct := N, bk := D.nx } σ2 H2)
theorem for_eqX {te : TE} {g : TG} {tb : TS} {D : Ends} {σ : St} {H : Hp} : tFor (iStr te) g tb D σ H = te σ H fun v H1 => LoopX g tb D σ v H1 := rfl
theorem LoopX.mk {z : Str} {g : TG} {tb : TS} {D : Ends} {σ : St} {H : Hp} (Pv : Nat → St → Hp → Prop) (h0 : Pv 0 σ H)
    (hs : ∀ i c σ H, z.cps[i]? = some c → Pv i σ H → g (.str ⟨#[c]⟩) σ H fun σ2 H2 => tb { D with nx := Pv (i + 1), ct := Pv (i + 1), bk := D.nx } σ2 H2) (hd : ∀ σ H, Pv z.cps.size σ H → D.nx σ H) :
    LoopX g tb D σ (.str z) H := by
  refine ⟨z, rfl, fun i m σ H => m = z.cps.size - i ∧ i ≤ z.cps.size ∧ Pv i σ H, ⟨_, rfl, Nat.zero_le _, h0⟩, ?_⟩
  rintro i m σ H ⟨rfl, hi, p⟩
  by_cases hlt : i < z.cps.size
  · refine .inr ⟨hlt, Pv (i + 1), fun σ' H' p' => ⟨z.cps.size - (i + 1), by omega, rfl, hlt, p'⟩, fun v H' yy => ?_⟩
    obtain ⟨rfl, c, ec, rfl⟩ := yy
    exact hs i c σ H' ec p
  · have e : i = z.cps.size := by omega
    exact .inl ⟨by show z.cps.size ≤ i; omega, hd σ H (e ▸ p)⟩
def CompX (k : Nat) (js : List Nat) (g : TG) (te : TE) (σ : St) (v : V) (H1 : Hp) (Q : VK) : Prop := ∃ z, v = .str z ∧ ∃ W : Nat → Nat → List V → St → Hp → Prop, (∃ m, W 0 m [] (compSt k js σ) H1) ∧ ∀ i m ys σ' H', W i m ys σ' H' →
    ((Itx z).stop i H' ∧ ∀ p, H' p = none → Q (.ref p) (upd H' p (.lst ys))) ∨
    ((Itx z).go i H' ∧ ys.length < sizeLine ∧ ∃ N : List V → St → Hp → Prop, (∀ zs σ2 H2, N zs σ2 H2 → ∃ m', m' < m ∧ W (i + 1) m' zs σ2 H2) ∧ ∀ x H2, (Itx z).yld i H' x H2 → g x σ' H2 fun σ3 H3 => te σ3 H3 fun v H4 => N (ys ++ [v]) σ3 H4)
theorem comp_eqX {k : Nat} {js : List Nat} {ti : TE} {g : TG} {te : TE} {σ : St} {H : Hp} {Q : VK} : tComp (iStr ti) k js g te σ H Q = ti σ H fun x H1 => CompX k js g te σ x H1 Q := rfl
theorem CompX.mk {z : Str} {k : Nat} {js : List Nat} {g : TG} {te : TE} {Q : VK} {σ : St} {H : Hp} (Pv : Nat → List V → St → Hp → Prop) (h0 : Pv 0 [] (compSt k js σ) H)
    (hs : ∀ i c ys σ H, z.cps[i]? = some c → Pv i ys σ H → ys.length < sizeLine ∧ g (.str ⟨#[c]⟩) σ H fun σ3 H3 => te σ3 H3 fun v H4 => Pv (i + 1) (ys ++ [v]) σ3 H4) (hd : ∀ ys σ H, Pv z.cps.size ys σ H → ∀ p, H p = none → Q (.ref p) (upd H p (.lst ys))) :
    CompX k js g te σ (.str z) H Q := by
  refine ⟨z, rfl, fun i m ys σ H => m = z.cps.size - i ∧ i ≤ z.cps.size ∧ Pv i ys σ H, ⟨_, rfl, Nat.zero_le _, h0⟩, ?_⟩
  rintro i m ys σ H ⟨rfl, hi, p⟩
  by_cases hlt : i < z.cps.size
  · refine .inr ⟨hlt, (hs i (z.cps[i]'hlt) ys σ H (Array.getElem?_eq_getElem hlt) p).1, Pv (i + 1), fun zs σ' H' p' => ⟨z.cps.size - (i + 1), by omega, rfl, hlt, p'⟩, fun v H' yy => ?_⟩
    obtain ⟨rfl, c, ec, rfl⟩ := yy
    exact (hs i c ys σ H' ec p).2
  · have e : i = z.cps.size := by omega
    exact .inl ⟨by show z.cps.size ≤ i; omega, hd ys σ H (e ▸ p)⟩
section
variable {X : Cx}
def findI (x y : Str) : Int := match Builtin.Str.occurrences x y 0 x.length 1 with | i :: _ => (i : Int) | [] => -1
def rFind : V → List V → Hp → VK → Prop := fun x xs H Q => ∃ z y, x = .str z ∧ xs = [.str y] ∧ Q (.int (findI z y)) H
end
end L2
namespace L2
open PySem PySem.Spec PyProof.Rows
section
variable {X : Cx}
def rCatL (K : PySem.W.Frag) : R2 := fun x y H Q => ∃ l b xs zs, x = .ref l ∧ y = .ref b ∧ SqL K H l xs ∧ SqL K H b zs ∧ xs.length + zs.length ≤ sizeLine ∧ ∀ p, H p = none → Q (.ref p) (upd H p (.lst (xs ++ zs)))
theorem op_catL : OpR X (binaryOp .Add) (rCatL X.K) := by
  intro pins s σ H x y v u Q I rx ry h
  obtain ⟨l, b, xs, zs, rfl, rfl, hH, hB, hz, q⟩ := h
  cases rx
  cases ry
  obtain ⟨its, r, ⟨⟨c1, d1, z1, l1⟩, n, e, hc, hd, hs⟩, _⟩ := I.list hH
  obtain ⟨its2, r2, ⟨⟨c2, d2, z2, l2⟩, n2, e2, hc2, hd2, hs2⟩, _⟩ := I.list hB
  simp only at hc hd hs hc2 hd2 hs2
  subst hc hd hs hc2 hd2 hs2
  have a1 := r.length
  have a2 := r2.length
  have ea : its.toArray ++ its2.toArray = (its ++ its2).toArray := by simp
  refine concat_meets ⟨_, e, rfl⟩ ⟨_, e2, rfl⟩ noFill_list_add seq_list_add F.slot_list_add F.entry_list_add (F.args_list_add_2 _ _) (list_addW l b its.toArray its2.toArray n n2 _ _ _ _ (by rw [List.size_toArray, List.size_toArray]; omega)) ⟨e, e2, ?_⟩
  rw [ea]
  exact ⟨.ref _, _, I.lnew (t' := s.toks) (r.append r2) (by rw [List.length_append]; omega), rfl, q _ I.fresh⟩
end
end L2
namespace L2
open PySem PySem.Spec PyProof.Rows
section
variable {pg : Program} {wd : World} {B : Around} {X0 : Value → Shared → Prop} {s0 : Shared}
end
def ItzL (K : PySem.W.Frag) (a b : Addr) : It := ⟨fun i H => ∃ xs ys x y, SqL K H a xs ∧ SqL K H b ys ∧ xs[i]? = some x ∧ ys[i]? = some y,
  fun i H v H' => ∃ T x y, v = .ref T ∧ H T = none ∧ H' = upd H T (.tup [x, y]) ∧ ∀ xs ys, SqL K H a xs → SqL K H b ys → xs[i]? = some x ∧ ys[i]? = some y, fun i H => ∃ xs ys, SqL K H a xs ∧ SqL K H b ys ∧ (xs.length ≤ i ∨ ys.length ≤ i)⟩
section
variable {X : Cx} {es : List Expr} {x1 : Nat} {pp : Pos}
def iZipL (K : PySem.W.Frag) (ta : TA) : TI := fun σ H R => ta σ H fun vs H1 => ∃ a b xs ys, vs = [.ref a, .ref b] ∧ SqL K H1 a xs ∧ SqL K H1 b ys ∧ R (ItzL K a b) H1
end
def LoopZL (K : PySem.W.Frag) (g : TG) (tb : TS) (D : Ends) (σ : St) (vs : List V) (H1 : Hp) : Prop := ∃ a b xs ys, vs = [.ref a, .ref b] ∧ SqL K H1 a xs ∧ SqL K H1 b ys ∧ ∃ W : Nat → Nat → St → Hp → Prop, (∃ m, W 0 m σ H1) ∧ ∀ i m σ H, W i m σ H →
  ((ItzL K a b).stop i H ∧ D.nx σ H) ∨ ((ItzL K a b).go i H ∧ ∃ N : St → Hp → Prop, (∀ σ' H', N σ' H' → ∃ m', m' < m ∧ W (i + 1) m' σ' H') ∧ ∀ x H', (ItzL K a b).yld i H x H' → g x σ H' fun σ2 H2 => tb { D with nx := N, ct := N, bk := D.nx } σ2 H2)
theorem for_eqZL {K : PySem.W.Frag} {ta : TA} {g : TG} {tb : TS} {D : Ends} {σ : St} {H : Hp} : tFor (iZipL K ta) g tb D σ H = ta σ H fun vs H1 => LoopZL K g tb D σ vs H1 := rfl
theorem LoopZL.mk {K : PySem.W.Frag} {a b : Addr} {xs ys : List V} {g : TG} {tb : TS} {D : Ends} {σ : St} {H : Hp} (n : Nat) (hn : n = min xs.length ys.length) (h1 : SqL K H a xs) (h2 : SqL K H b ys) (Pv : Nat → St → Hp → Prop) (h0 : Pv 0 σ H) (hl : ∀ i σ H, i ≤ n → Pv i σ H → SqL K H a xs ∧ SqL K H b ys)
    (hs : ∀ i x y σ H T, i < n → xs[i]? = some x → ys[i]? = some y → Pv i σ H → H T = none → g (.ref T) σ (upd H T (.tup [x, y])) fun σ2 H2 => tb { D with nx := Pv (i + 1), ct := Pv (i + 1), bk := D.nx } σ2 H2) (hd : ∀ σ H, Pv n σ H → D.nx σ H) :
    LoopZL K g tb D σ [.ref a, .ref b] H := by
  subst hn
  refine ⟨a, b, xs, ys, rfl, h1, h2, fun i m σ H => m = min xs.length ys.length - i ∧ i ≤ min xs.length ys.length ∧ Pv i σ H, ⟨_, rfl, Nat.zero_le _, h0⟩, ?_⟩
  rintro i m σ H ⟨rfl, hi, p⟩
  obtain ⟨k1, k2⟩ := hl i σ H hi p
  by_cases hlt : i < min xs.length ys.length
  · have l1 : i < xs.length := by omega
    have l2 : i < ys.length := by omega
    refine .inr ⟨⟨xs, ys, _, _, k1, k2, List.getElem?_eq_getElem l1, List.getElem?_eq_getElem l2⟩, Pv (i + 1), fun σ' H' p' => ⟨min xs.length ys.length - (i + 1), by omega, rfl, hlt, p'⟩, fun v H' yy => ?_⟩
    obtain ⟨T, x, y, rfl, hT, rfl, ex⟩ := yy
    obtain ⟨ex1, ex2⟩ := ex xs ys k1 k2
    exact hs i x y σ H T hlt ex1 ex2 p hT
  · have e : i = min xs.length ys.length := by omega
    exact .inl ⟨⟨xs, ys, k1, k2, by omega⟩, hd σ H (e ▸ p)⟩
def CompZL (K : PySem.W.Frag) (k : Nat) (js : List Nat) (g : TG) (te : TE) (σ : St) (vs : List V) (H1 : Hp) (Q : VK) : Prop := ∃ a b xs ys, vs = [.ref a, .ref b] ∧ SqL K H1 a xs ∧ SqL K H1 b ys ∧ ∃ W : Nat → Nat → List V → St → Hp → Prop, (∃ m, W 0 m [] (compSt k js σ) H1) ∧ ∀ i m zs σ' H', W i m zs σ' H' →
    ((ItzL K a b).stop i H' ∧ ∀ p, H' p = none → Q (.ref p) (upd H' p (.lst zs))) ∨
    ((ItzL K a b).go i H' ∧ zs.length < sizeLine ∧ ∃ N : List V → St → Hp → Prop, (∀ zs σ2 H2, N zs σ2 H2 → ∃ m', m' < m ∧ W (i + 1) m' zs σ2 H2) ∧ ∀ x H2, (ItzL K a b).yld i H' x H2 → g x σ' H2 fun σ3 H3 => te σ3 H3 fun v H4 => N (zs ++ [v]) σ3 H4)
theorem comp_eqZL {K : PySem.W.Frag} {k : Nat} {js : List Nat} {ta : TA} {g : TG} {te : TE} {σ : St} {H : Hp} {Q : VK} : tComp (iZipL K ta) k js g te σ H Q = ta σ H fun vs H1 => CompZL K k js g te σ vs H1 Q := rfl
theorem CompZL.mk {K : PySem.W.Frag} {a b : Addr} {xs ys : List V} {k : Nat} {js : List Nat} {g : TG} {te : TE} {Q : VK} {σ : St} {H : Hp} (n : Nat) (hn : n = min xs.length ys.length) (h1 : SqL K H a xs) (h2 : SqL K H b ys) (Pv : Nat → List V → St → Hp → Prop) (h0 : Pv 0 [] (compSt k js σ) H) (hl : ∀ i zs σ H, i ≤ n → Pv i zs σ H → SqL K H a xs ∧ SqL K H b ys)
    (hs : ∀ i x y zs σ H T, i < n → xs[i]? = some x → ys[i]? = some y → Pv i zs σ H → H T = none → zs.length < sizeLine ∧ g (.ref T) σ (upd H T (.tup [x, y])) fun σ3 H3 => te σ3 H3 fun v H4 => Pv (i + 1) (zs ++ [v]) σ3 H4) (hz : ∀ zs σ H, Pv n zs σ H → ∀ p, H p = none → Q (.ref p) (upd H p (.lst zs))) (hlen : ∀ i zs σ H, Pv i zs σ H → zs.length < sizeLine) :
    CompZL K k js g te σ [.ref a, .ref b] H Q := by
  subst hn
  refine ⟨a, b, xs, ys, rfl, h1, h2, fun i m zs σ H => m = min xs.length ys.length - i ∧ i ≤ min xs.length ys.length ∧ Pv i zs σ H, ⟨_, rfl, Nat.zero_le _, h0⟩, ?_⟩
  rintro i m zs σ H ⟨rfl, hi, p⟩
  obtain ⟨k1, k2⟩ := hl i zs σ H hi p
  by_cases hlt : i < min xs.length ys.length
  · have l1 : i < xs.length := by omega
    have l2 : i < ys.length := by omega
    refine .inr ⟨⟨xs, ys, _, _, k1, k2, List.getElem?_eq_getElem l1, List.getElem?_eq_getElem l2⟩, hlen _ _ _ _ p, Pv (i + 1), fun zs' σ' H' p' => ⟨min xs.length ys.length - (i + 1), by omega, rfl, hlt, p'⟩, fun v H' yy => ?_⟩
    obtain ⟨T, x, y, rfl, hT, rfl, ex⟩ := yy
    obtain ⟨ex1, ex2⟩ := ex xs ys k1 k2
    exact (hs i x y zs σ H T hlt ex1 ex2 p hT).2
  · have e : i = min xs.length ys.length := by omega
    exact .inl ⟨⟨xs, ys, k1, k2, by omega⟩, hz zs σ H (e ▸ p)⟩
end L2
namespace L2
open PySem PySem.Spec PyProof.Rows
theorem ps_setC {X : Cx} {i : Nat} {x : Str} {elt tg iter : Expr} {scope : Scope} {cl : List (Str × Addr)} {pos pos' lpos : Pos} {own fv : List Str} {js : List Nat} {wi : TI} {g : TG} {te : TE}
    (hN : X.N.Nodup) (hx1 : X.N[i]? = some x) (hx : Loc X.env.scope x) (hf : X.fn x = true ∨ X.env.scope.names.lookup x = some .local)
    (hc : X.calm = true) (hi : PI X tg iter wi) (hclos : closureFor scope X.env = pure cl) (hcell : ∀ y ∈ scope.names, y.2 ≠ .cell) (hkind : scope.kind = .function)
    (hnames : ∀ y ∈ scope.names, y.2 = .local → scope.names.lookup y.1 = some .local)
    (hcl : ∀ x c, cl.lookup x = some c → X.env.cells.lookup x = some c)
    (hhas : ∀ x, ((relabel scope X.env).names.lookup x = some .cell ∨ (relabel scope X.env).names.lookup x = some .free) → ∃ c, cl.lookup x = some c)
    (hlen : js.length = fv.length) (hcap : ∀ (i : Nat) x j, fv[i]? = some x → js[i]? = some j → Cap X scope cl x j)
    (hg : ∀ (C : Addr) (ex : List Addr) (s : Shared) (H : Hp), PG (cxComp X (own ++ fv) scope cl C ex s H) tg g)
    (he : ∀ (C : Addr) (ex : List Addr) (s : Shared) (H : Hp), PE (cxComp X (own ++ fv) scope cl C ex s H) elt te)
    (hsw : swapsWith (.ListComp elt [⟨tg, iter, [], 0⟩] scope lpos) (some (.Name x pos')) pos.line X.env = pure true := by rfl)
    (hs : ∀ x, foldedSetIterable iter X.env x = pure x := by intro _; rfl) :
    PS X (.Assign [.Name x pos'] (.ListComp elt [⟨tg, iter, [], 0⟩] scope lpos) pos) (tAsg (tComp wi own.length js g te) (gName i)) := by
  intro pins s σ H D I h
  rw [exec_Assign_Name_used _ _ _ _ hsw]
  refine wpAny_bind (wpAny_standAt ?_)
  rw [arm_evalThenUse_ListComp]
  have core := comp_core (use := some (assign (.Name x pos') X.env)) (QQ := fun _ s' => SP X pins D .next s') (fpos := firstIterPos [⟨tg, iter, [], 0⟩] lpos) (pos := lpos) hc hi hclos hcell hkind hnames hcl hhas hlen hcap hg he hs I h (fun a C s5 H5 fl I5 zC zL zS zc zp ⟨m, hn⟩ q => ?_)
  · refine wpAny_bind (wpAny_bind (thn core fun _ s' hq => ?_))
    exact wpAny_pure (wpAny_pure hq)
  · show wpAny (model X.prog X.w) X.A (assign (.Name x pos') X.env (.ref a)) _ X.xe s5
    show wpAny (model X.prog X.w) X.A (do standAt pos'; bindName X.env x (.ref a)) _ X.xe s5
    refine wpAny_bind (wpAny_standAt ?_)
    refine bindName_ ?_
    refine store_ok2 I5 hN hx1 hx (show RelV (.ref a) (.ref a) from rfl) (fun s6 I6 ⟨b, sb, hb⟩ => ?_) hf
    have cb : C ≠ b := by
      rcases hb with rfl | hb
      · exact zL
      · exact fun z => zc x b hb z.symm
    obtain ⟨o, es, ep, e, r⟩ := hn
    refine ⟨m, ⟨o, es, ep, (sb.2 C cb).trans e, r⟩, fun h' sc => ?_⟩
    exact ⟨_, H5, I6.turned (t' := s6.toks) (it := C) (fun d o nd e => sc.extBut d o nd e) zC zL (.inr zS) zc zp, q⟩
end L2
namespace L2
open PySem PySem.Spec PyProof.Rows
section
variable {X : Cx}
def startsB (x y : Str) : Bool := decide (0 + y.length ≤ x.length) && Builtin.Str.subAt x y 0
def rStarts : V → List V → Hp → VK → Prop := fun x xs H Q => ∃ z y, x = .str z ∧ xs = [.str y] ∧ Q (.bl (startsB z y)) H
def rSlStrX : V → Option Int → Option Int → Hp → VK → Prop := fun x lo hi H Q => ∃ z, x = .str z ∧ z.length ≤ 20000 ∧ Q (.str (Txt.slice z lo hi)) H
end
end L2
namespace L2
open PySem PySem.Spec PyProof.Rows
section
variable {κ : Type} [DecidableEq κ]
def valV (kvs : List (κ × V)) (k : κ) : Option V := (kvs.find? fun kv => decide (kv.1 = k)).map (·.2)
def putK (kvs : List (κ × V)) (k : κ) (v : V) : List (κ × V) :=
  if (kvs.any fun kv => decide (kv.1 = k)) = true then kvs.map (fun kv => if kv.1 = k then (kv.1, v) else kv) else kvs ++ [(k, v)]
def dropK (kvs : List (κ × V)) (k : κ) : List (κ × V) := kvs.filter fun kv => decide (kv.1 ≠ k)
theorem RelO.getD {o : Option V} {u : Option Value} {d : V} {d' : Value} (r : RelO o u) (rd : RelV d d') : RelV (o.getD d) (u.getD d') := by
  cases o with
  | none => cases u with
    | none => exact rd
    | some _ => exact (show False from r).elim
  | some _ => cases u with
    | none => exact (show False from r).elim
    | some _ => exact r
theorem KV.any {kvs : List (κ × V)} {vs : List (κ × Value)} (r : KV kvs vs) (k : κ) : (kvs.any fun kv => decide (kv.1 = k)) = vs.any fun kv => decide (kv.1 = k) := by
  unfold KV at r
  induction r with
  | nil => rfl
  | cons h t ih => rw [List.any_cons, List.any_cons, ih, h.1]
theorem KV.drop {kvs : List (κ × V)} {vs : List (κ × Value)} (r : KV kvs vs) (k : κ) : KV (dropK kvs k) (without vs k) := by
  unfold KV at r ⊢
  unfold dropK without
  induction r with
  | nil => exact .nil
  | @cons p q ps qs h t ih =>
    obtain ⟨h1, h2⟩ := h
    rw [List.filter_cons, List.filter_cons]
    by_cases e : p.1 = k
    · have a : ¬ decide (p.1 ≠ k) = true := by simp [e]
      have b : ¬ decide (q.1 ≠ k) = true := by simp [h1.symm.trans e]
      rw [if_neg a, if_neg b]; exact ih
    · have e' : ¬ q.1 = k := fun z => e (h1.trans z)
      have a : decide (p.1 ≠ k) = true := by simp [e]
      have b : decide (q.1 ≠ k) = true := by simp [e']
      rw [if_pos a, if_pos b]; exact .cons ⟨h1, h2⟩ ih
theorem KV.length {kvs : List (κ × V)} {vs : List (κ × Value)} (r : KV kvs vs) : kvs.length = vs.length := Paired.length r
end
abbrev KT (H : Hp) : List (List Key × V) → List (List Key × Addr × Value) → Prop := Paired fun p q => p.1 = q.1 ∧ H q.2.1 = some (.tup (p.1.map kV)) ∧ RelV p.2 q.2.2
theorem KT.keeps {H H' : Hp} {kvs : List (List Key × V)} {xs : List (List Key × Addr × Value)} (r : KT H kvs xs) (ht : ∀ b ys, H b = some (.tup ys) → H' b = some (.tup ys)) : KT H' kvs xs :=
  Paired.mapP r fun _ _ z => ⟨z.1, ht _ _ z.2.1, z.2.2⟩
section
variable {P : Program} {w : World} {H : Hp} {h : Heap} {a : Addr}
end
def DGet (H : Hp) (a : Addr) (y : V) (r : Option V) : Prop :=
  (∃ kvs k, Rd H a (.dK kvs) ∧ y = kV k ∧ r = valV kvs k) ∨ ∃ kvs k b, Rd H a (.dT kvs) ∧ y = .ref b ∧ H b = some (.tup (k.map kV)) ∧ r = valV kvs k
def DPut (H : Hp) (a : Addr) (y v : V) (H' : Hp) : Prop :=
  (∃ kvs k, H a = some (.dK kvs) ∧ y = kV k ∧ kvs.length < sizeLine ∧ H' = upd H a (.dK (putK kvs k v))) ∨
  ∃ kvs k b, H a = some (.dT kvs) ∧ y = .ref b ∧ H b = some (.tup (k.map kV)) ∧ kvs.length < sizeLine ∧ H' = upd H a (.dT (putK kvs k v))
theorem DGet.k {H : Hp} {a : Addr} {kvs : List (Key × V)} {k : Key} (e : H a = some (.dK kvs)) : DGet H a (kV k) (valV kvs k) := .inl ⟨kvs, k, .inl e, rfl, rfl⟩
theorem DGet.t {H : Hp} {a b : Addr} {kvs : List (List Key × V)} {k : List Key} (e : H a = some (.dT kvs)) (eb : H b = some (.tup (k.map kV))) : DGet H a (.ref b) (valV kvs k) := .inr ⟨kvs, k, b, .inl e, rfl, eb, rfl⟩
theorem DPut.k {H : Hp} {a : Addr} {kvs : List (Key × V)} {k : Key} {v : V} (e : H a = some (.dK kvs)) (hl : kvs.length < sizeLine) : DPut H a (kV k) v (upd H a (.dK (putK kvs k v))) := .inl ⟨kvs, k, e, rfl, hl, rfl⟩
theorem DPut.t {H : Hp} {a b : Addr} {kvs : List (List Key × V)} {k : List Key} {v : V} (e : H a = some (.dT kvs)) (eb : H b = some (.tup (k.map kV))) (hl : kvs.length < sizeLine) :
    DPut H a (.ref b) v (upd H a (.dT (putK kvs k v))) := .inr ⟨kvs, k, b, e, rfl, eb, hl, rfl⟩
section
variable {X : Cx} {pins : List (Addr × Obj)} {σ : St} {H : Hp} {s : Shared} {a : Addr} {y v : V} {u r : Value} {o : Option V} {A : Around} {E : Value → Shared → Prop}
theorem Inv.big (I : Inv X pins σ H s) : sysModules < s.heap.objs.size := by
  have h : mainGlobals < s.heap.objs.size := (I.mod.glob.keeps I.bk).lt
  exact Nat.lt_trans (by decide) h
end
section
variable {X : Cx} {pins : List (Addr × Obj)} {σ : St} {H : Hp} {s : Shared} {a : Addr} {kvs : List (Key × V)} {k : Key} {u : Value} {A : Around} {E : Value → Shared → Prop}
end
def tDIn (ty td : TE) : TE := fun σ H Q => ty σ H fun y H1 => td σ H1 fun x H2 => ∃ a o, x = .ref a ∧ DGet H2 a y o ∧ Q (.bl o.isSome) H2
def sDPut (td ty tv : TE) : TS := fun D σ H => tv σ H fun v H1 => td σ H1 fun x H2 => ty σ H2 fun y H3 => ∃ a H4, x = .ref a ∧ DPut H3 a y v H4 ∧ D.nx σ H4
section
variable {X : Cx} {o i e value : Expr} {pos pos' tpos : Pos} {td ty tv : TE}
end
def tDNewK : TE := fun _ H Q => ∀ p, H p = none → Q (.ref p) (upd H p (.dK []))
section
variable {X : Cx} {pos : Pos}
end
structure M1 (X : Cx) (o : Expr) (m : Str) (apos : Pos) (e : Expr) (cpos : Pos) : Prop where
  base : attributeBase o m X.env (eval o X.env) = eval o X.env
  few : ((backTo cpos (starEach [e] X.env)).all (fun x => !x.1) && (backToKw cpos (keywordEach [] X.env)).all (fun x => x.1.isSome)
    && decide (([e] : List Expr).length + ([] : List Keyword).length + (if ([] : List Keyword).isEmpty then 0 else 1) < 30)) = true
  line : (apos.endLine == cpos.line) = true
  trees : backTo cpos (starEach [e] X.env) = [(false, eval e X.env)]
structure M2 (X : Cx) (o : Expr) (m : Str) (apos : Pos) (e f : Expr) (cpos : Pos) : Prop where
  base : attributeBase o m X.env (eval o X.env) = eval o X.env
  few : ((backTo cpos (starEach [e, f] X.env)).all (fun x => !x.1) && (backToKw cpos (keywordEach [] X.env)).all (fun x => x.1.isSome)
    && decide (([e, f] : List Expr).length + ([] : List Keyword).length + (if ([] : List Keyword).isEmpty then 0 else 1) < 30)) = true
  line : (apos.endLine == cpos.line) = true
  trees : backTo cpos (starEach [e, f] X.env) = [(false, eval e X.env), (false, eval f X.env)]
def IsD (H : Hp) (a : Addr) : Prop := (∃ kvs, Rd H a (.dK kvs)) ∨ ∃ kvs, Rd H a (.dT kvs)
section
variable {X : Cx} {pins : List (Addr × Obj)} {σ : St} {H : Hp} {s : Shared} {a : Addr} {y d : V} {u r : Value} {o : Option V} {A : Around} {E : Value → Shared → Prop}
end
def tDGet1 (td ty : TE) : TE := fun σ H Q => td σ H fun x H1 => ∃ a, x = .ref a ∧ IsD H1 a ∧ ty σ H1 fun y H2 => ∃ o, DGet H2 a y o ∧ Q (o.getD .non) H2
section
variable {X : Cx} {o e f : Expr} {apos cpos : Pos} {td ty tx : TE}
end
section
variable {X : Cx} {pins : List (Addr × Obj)} {σ : St} {H : Hp} {s : Shared} {a : Addr} {kvs : List (Key × V)} {A : Around} {E : Value → Shared → Prop}
end
section
variable {X : Cx} {pins : List (Addr × Obj)} {σ : St} {H : Hp} {s : Shared} {a : Addr} {y : V} {u : Value} {A : Around} {E : Value → Shared → Prop}
end
end L2
namespace L2
open PySem PySem.Spec PyProof.Rows
section
variable {X : Cx}
end
section
variable {κ : Type} [DecidableEq κ]
end
end L2
namespace L2
open PySem PySem.Spec PyProof.Rows
def KTab (P : Program) (w : World) (K : PySem.W.Frag) (d : Addr) (kvs : List (Str × Addr)) : Prop := (d == sysModules) = false ∧ ∀ h : Heap, K.In h → h.DictOf (mixKind P w) d (kvs.map fun p => ((Sum.inr p.1 : Key), Value.ref p.2))
def entT (pm : Params) (l : List (Str × Tok × Addr)) : List DictEntry := l.map fun p => ⟨PyData.keyHash pm p.1, .str p.1 p.2.1, .ref p.2.2⟩
theorem KTab.mk {P : Program} {w : World} {K : PySem.W.Frag} {d : Addr} {l : List (Str × Tok × Addr)} {es : Array DictEntry} {n : Nat} (hd : (d == sysModules) = false) (hl : K.lookup d = some { cls := .type "dict", data := .dict es n }) (he : es.toList = entT w.params l) (nd : (l.map (·.1)).Nodup) :
    KTab P w K d (l.map fun p => (p.1, p.2.2)) := by
  refine ⟨hd, fun h KI => ⟨_, es, n, KI d _ hl, ⟨rfl, rfl, rfl⟩, rfl, ?_, ?_, ?_⟩⟩
  · intro e hm
    have hm : e ∈ es.toList := Array.mem_toList_iff.mpr hm
    rw [he] at hm
    obtain ⟨p, _, rfl⟩ := List.mem_map.mp hm
    exact ⟨Sum.inr p.1, keyIs_str p.1 p.2.1, rfl⟩
  · rw [he]
    clear he nd hl
    induction l with
    | nil => exact .nil
    | cons p r ih => exact .cons (keyIs_str p.1 p.2.1) rfl ih
  · rw [List.map_map, List.map_map]
    have e : ((fun x : Key × Value => x.1) ∘ (fun p : Str × Addr => ((Sum.inr p.1 : Key), Value.ref p.2))) ∘ (fun p : Str × Tok × Addr => (p.1, p.2.2)) = (fun x : Str => (Sum.inr x : Key)) ∘ fun p => p.1 := rfl
    rw [← List.map_map] at *
    have z : (l.map fun p => (Sum.inr p.1 : Key)).Nodup := by
      have : (l.map fun p => (Sum.inr p.1 : Key)) = (l.map (·.1)).map (fun x : Str => (Sum.inr x : Key)) := by rw [List.map_map]; rfl
      rw [this]
      exact List.Pairwise.map _ (fun a b (h : a ≠ b) z => h (Sum.inr.inj z)) nd
    simpa [List.map_map, Function.comp_def] using z
section
variable {X : Cx}
def rKTab (kvs : List (Str × Addr)) : V → Hp → VK → Prop := fun y H Q => ∃ x a, y = .str x ∧ kvs.lookup x = some a ∧ Q (.ref a) H
def tKTab (kvs : List (Str × Addr)) (te : TE) : TE := fun σ H Q => te σ H fun y H1 => rKTab kvs y H1 Q
def tKIn (kvs : List (Str × Addr)) (te : TE) : TE := fun σ H Q => te σ H fun y H1 => ∃ x, y = .str x ∧ Q (.bl (kvs.lookup x).isSome) H1
end
end L2
namespace L2
open PySem PySem.Spec PyProof.Rows
section
variable {pg : Program} {wd : World} {B : Around} {X0 : Value → Shared → Prop} {s0 : Shared}
end
def ItzM (K : PySem.W.Frag) (a b : Addr) : It := ⟨fun i H => ∃ xs ys x y, SqL K H a xs ∧ SqT K H b ys ∧ xs[i]? = some x ∧ ys[i]? = some y,
  fun i H v H' => ∃ T x y, v = .ref T ∧ H T = none ∧ H' = upd H T (.tup [x, y]) ∧ ∀ xs ys, SqL K H a xs → SqT K H b ys → xs[i]? = some x ∧ ys[i]? = some y, fun i H => ∃ xs ys, SqL K H a xs ∧ SqT K H b ys ∧ (xs.length ≤ i ∨ ys.length ≤ i)⟩
section
variable {X : Cx} {es : List Expr} {x1 : Nat} {pp : Pos}
def iZipM (K : PySem.W.Frag) (ta : TA) : TI := fun σ H R => ta σ H fun vs H1 => ∃ a b xs ys, vs = [.ref a, .ref b] ∧ SqL K H1 a xs ∧ SqT K H1 b ys ∧ R (ItzM K a b) H1
end
def LoopZM (K : PySem.W.Frag) (g : TG) (tb : TS) (D : Ends) (σ : St) (vs : List V) (H1 : Hp) : Prop := ∃ a b xs ys, vs = [.ref a, .ref b] ∧ SqL K H1 a xs ∧ SqT K H1 b ys ∧ ∃ W : Nat → Nat → St → Hp → Prop, (∃ m, W 0 m σ H1) ∧ ∀ i m σ H, W i m σ H →
  ((ItzM K a b).stop i H ∧ D.nx σ H) ∨ ((ItzM K a b).go i H ∧ ∃ N : St → Hp → Prop, (∀ σ' H', N σ' H' → ∃ m', m' < m ∧ W (i + 1) m' σ' H') ∧ ∀ x H', (ItzM K a b).yld i H x H' → g x σ H' fun σ2 H2 => tb { D with nx := N, ct := N, bk := D.nx } σ2 H2)
theorem for_eqZM {K : PySem.W.Frag} {ta : TA} {g : TG} {tb : TS} {D : Ends} {σ : St} {H : Hp} : tFor (iZipM K ta) g tb D σ H = ta σ H fun vs H1 => LoopZM K g tb D σ vs H1 := rfl
theorem LoopZM.mk {K : PySem.W.Frag} {a b : Addr} {xs ys : List V} {g : TG} {tb : TS} {D : Ends} {σ : St} {H : Hp} (n : Nat) (hn : n = min xs.length ys.length) (h1 : SqL K H a xs) (h2 : SqT K H b ys) (Pv : Nat → St → Hp → Prop) (h0 : Pv 0 σ H) (hl : ∀ i σ H, i ≤ n → Pv i σ H → SqL K H a xs ∧ SqT K H b ys)
    (hs : ∀ i x y σ H T, i < n → xs[i]? = some x → ys[i]? = some y → Pv i σ H → H T = none → g (.ref T) σ (upd H T (.tup [x, y])) fun σ2 H2 => tb { D with nx := Pv (i + 1), ct := Pv (i + 1), bk := D.nx } σ2 H2) (hd : ∀ σ H, Pv n σ H → D.nx σ H) :
    LoopZM K g tb D σ [.ref a, .ref b] H := by
  subst hn
  refine ⟨a, b, xs, ys, rfl, h1, h2, fun i m σ H => m = min xs.length ys.length - i ∧ i ≤ min xs.length ys.length ∧ Pv i σ H, ⟨_, rfl, Nat.zero_le _, h0⟩, ?_⟩
  rintro i m σ H ⟨rfl, hi, p⟩
  obtain ⟨k1, k2⟩ := hl i σ H hi p
  by_cases hlt : i < min xs.length ys.length
  · have l1 : i < xs.length := by omega
    have l2 : i < ys.length := by omega
    refine .inr ⟨⟨xs, ys, _, _, k1, k2, List.getElem?_eq_getElem l1, List.getElem?_eq_getElem l2⟩, Pv (i + 1), fun σ' H' p' => ⟨min xs.length ys.length - (i + 1), by omega, rfl, hlt, p'⟩, fun v H' yy => ?_⟩
    obtain ⟨T, x, y, rfl, hT, rfl, ex⟩ := yy
    obtain ⟨ex1, ex2⟩ := ex xs ys k1 k2
    exact hs i x y σ H T hlt ex1 ex2 p hT
  · have e : i = min xs.length ys.length := by omega
    exact .inl ⟨⟨xs, ys, k1, k2, by omega⟩, hd σ H (e ▸ p)⟩
def CompZM (K : PySem.W.Frag) (k : Nat) (js : List Nat) (g : TG) (te : TE) (σ : St) (vs : List V) (H1 : Hp) (Q : VK) : Prop := ∃ a b xs ys, vs = [.ref a, .ref b] ∧ SqL K H1 a xs ∧ SqT K H1 b ys ∧ ∃ W : Nat → Nat → List V → St → Hp → Prop, (∃ m, W 0 m [] (compSt k js σ) H1) ∧ ∀ i m zs σ' H', W i m zs σ' H' →
    ((ItzM K a b).stop i H' ∧ ∀ p, H' p = none → Q (.ref p) (upd H' p (.lst zs))) ∨
    ((ItzM K a b).go i H' ∧ zs.length < sizeLine ∧ ∃ N : List V → St → Hp → Prop, (∀ zs σ2 H2, N zs σ2 H2 → ∃ m', m' < m ∧ W (i + 1) m' zs σ2 H2) ∧ ∀ x H2, (ItzM K a b).yld i H' x H2 → g x σ' H2 fun σ3 H3 => te σ3 H3 fun v H4 => N (zs ++ [v]) σ3 H4)
theorem comp_eqZM {K : PySem.W.Frag} {k : Nat} {js : List Nat} {ta : TA} {g : TG} {te : TE} {σ : St} {H : Hp} {Q : VK} : tComp (iZipM K ta) k js g te σ H Q = ta σ H fun vs H1 => CompZM K k js g te σ vs H1 Q := rfl
theorem CompZM.mk {K : PySem.W.Frag} {a b : Addr} {xs ys : List V} {k : Nat} {js : List Nat} {g : TG} {te : TE} {Q : VK} {σ : St} {H : Hp} (n : Nat) (hn : n = min xs.length ys.length) (h1 : SqL K H a xs) (h2 : SqT K H b ys) (Pv : Nat → List V → St → Hp → Prop) (h0 : Pv 0 [] (compSt k js σ) H) (hl : ∀ i zs σ H, i ≤ n → Pv i zs σ H → SqL K H a xs ∧ SqT K H b ys)
    (hs : ∀ i x y zs σ H T, i < n → xs[i]? = some x → ys[i]? = some y → Pv i zs σ H → H T = none → zs.length < sizeLine ∧ g (.ref T) σ (upd H T (.tup [x, y])) fun σ3 H3 => te σ3 H3 fun v H4 => Pv (i + 1) (zs ++ [v]) σ3 H4) (hz : ∀ zs σ H, Pv n zs σ H → ∀ p, H p = none → Q (.ref p) (upd H p (.lst zs))) (hlen : ∀ i zs σ H, Pv i zs σ H → zs.length < sizeLine) :
    CompZM K k js g te σ [.ref a, .ref b] H Q := by
  subst hn
  refine ⟨a, b, xs, ys, rfl, h1, h2, fun i m zs σ H => m = min xs.length ys.length - i ∧ i ≤ min xs.length ys.length ∧ Pv i zs σ H, ⟨_, rfl, Nat.zero_le _, h0⟩, ?_⟩
  rintro i m zs σ H ⟨rfl, hi, p⟩
  obtain ⟨k1, k2⟩ := hl i zs σ H hi p
  by_cases hlt : i < min xs.length ys.length
  · have l1 : i < xs.length := by omega
    have l2 : i < ys.length := by omega
    refine .inr ⟨⟨xs, ys, _, _, k1, k2, List.getElem?_eq_getElem l1, List.getElem?_eq_getElem l2⟩, hlen _ _ _ _ p, Pv (i + 1), fun zs' σ' H' p' => ⟨min xs.length ys.length - (i + 1), by omega, rfl, hlt, p'⟩, fun v H' yy => ?_⟩
    obtain ⟨T, x, y, rfl, hT, rfl, ex⟩ := yy
    obtain ⟨ex1, ex2⟩ := ex xs ys k1 k2
    exact (hs i x y zs σ H T hlt ex1 ex2 p hT).2
  · have e : i = min xs.length ys.length := by omega
    exact .inl ⟨⟨xs, ys, k1, k2, by omega⟩, hz zs σ H (e ▸ p)⟩
def CompTI (K : PySem.W.Frag) (k : Nat) (js : List Nat) (g : TG) (tc : TT) (te : TE) (σ : St) (v : V) (H1 : Hp) (Q : VK) : Prop := ∃ a, v = .ref a ∧ (∃ xs, SqT K H1 a xs) ∧ ∃ W : Nat → Nat → List V → St → Hp → Prop, (∃ m, W 0 m [] (compSt k js σ) H1) ∧ ∀ i m zs σ' H', W i m zs σ' H' →
    ((Itt K a).stop i H' ∧ ∀ p, H' p = none → Q (.ref p) (upd H' p (.lst zs))) ∨
    ((Itt K a).go i H' ∧ zs.length < sizeLine ∧ ∃ N : List V → St → Hp → Prop, (∀ zs σ2 H2, N zs σ2 H2 → ∃ m', m' < m ∧ W (i + 1) m' zs σ2 H2) ∧ ∀ x H2, (Itt K a).yld i H' x H2 → g x σ' H2 fun σ3 H3 => tc σ3 H3 fun b H4 => if b = true then te σ3 H4 fun v H5 => N (zs ++ [v]) σ3 H5 else N zs σ3 H4)
theorem comp_eqTI {K : PySem.W.Frag} {k : Nat} {js : List Nat} {tx : TE} {g : TG} {tc : TT} {te : TE} {σ : St} {H : Hp} {Q : VK} : tCompI (iTup K tx) k js g tc te σ H Q = tx σ H fun v H1 => CompTI K k js g tc te σ v H1 Q := rfl
theorem CompTI.mk {K : PySem.W.Frag} {a : Addr} {xs : List V} {k : Nat} {js : List Nat} {g : TG} {tc : TT} {te : TE} {Q : VK} {σ : St} {H : Hp} (h1 : SqT K H a xs) (Pv : Nat → List V → St → Hp → Prop) (h0 : Pv 0 [] (compSt k js σ) H) (hl : ∀ i zs σ H, i ≤ xs.length → Pv i zs σ H → SqT K H a xs ∧ zs.length < sizeLine)
    (hs : ∀ i x zs σ H, xs[i]? = some x → Pv i zs σ H → g x σ H fun σ3 H3 => tc σ3 H3 fun b H4 => if b = true then te σ3 H4 fun v H5 => Pv (i + 1) (zs ++ [v]) σ3 H5 else Pv (i + 1) zs σ3 H4) (hz : ∀ zs σ H, Pv xs.length zs σ H → ∀ p, H p = none → Q (.ref p) (upd H p (.lst zs))) :
    CompTI K k js g tc te σ (.ref a) H Q := by
  refine ⟨a, rfl, ⟨xs, h1⟩, fun i m zs σ H => m = xs.length - i ∧ i ≤ xs.length ∧ Pv i zs σ H, ⟨_, rfl, Nat.zero_le _, h0⟩, ?_⟩
  rintro i m zs σ H ⟨rfl, hi, p⟩
  obtain ⟨k1, k2⟩ := hl i zs σ H hi p
  by_cases hlt : i < xs.length
  · refine .inr ⟨⟨xs, _, k1, List.getElem?_eq_getElem hlt⟩, k2, Pv (i + 1), fun zs' σ' H' p' => ⟨xs.length - (i + 1), by omega, rfl, hlt, p'⟩, fun v H' yy => ?_⟩
    obtain ⟨rfl, ex⟩ := yy
    exact hs i v zs σ _ (ex xs k1) p
  · have e : i = xs.length := by omega
    exact .inl ⟨⟨xs, k1, by omega⟩, hz zs σ H (e ▸ p)⟩
end L2
namespace L2
open PySem PySem.Spec PyProof.Rows
section
variable {X : Cx}
def rJoinD (K : PySem.W.Frag) : V → List V → Hp → VK → Prop := fun x xs H Q => ∃ (z : Str) (l : Addr) (ys : List Str), x = .str z ∧ z.length = 0 ∧ xs = [.ref l] ∧ SqL K H l (ys.map V.str) ∧ ys.length ≤ 100 ∧ (∀ y ∈ ys, okS 10 y) ∧ (okS 1000 (Builtin.Str.glued z ys) → Q (.str (Builtin.Str.glued z ys)) H)
end
theorem cap3 {X : Cx} {scope : Scope} {cl : List (Str × Addr)} {x0 x1 x2 : Str} {j0 j1 j2 : Nat} (c0 : Cap X scope cl x0 j0) (c1 : Cap X scope cl x1 j1) (c2 : Cap X scope cl x2 j2) : ∀ (i : Nat) x j, [x0, x1, x2][i]? = some x → [j0, j1, j2][i]? = some j → Cap X scope cl x j
  | 0, _, _, h1, h2 => by cases h1; cases h2; exact c0
  | 1, _, _, h1, h2 => by cases h1; cases h2; exact c1
  | 2, _, _, h1, h2 => by cases h1; cases h2; exact c2
  | _ + 3, _, _, h1, _ => by cases h1
theorem cl_sub3 {cells : List (Str × Addr)} {y z u : Str} {a b d : Addr} (h : cells.lookup y = some a) (h2 : cells.lookup z = some b) (h3 : cells.lookup u = some d) : ∀ x c, [(y, a), (z, b), (u, d)].lookup x = some c → cells.lookup x = some c := fun x c e => by
  rcases List.mem_cons.mp (PySem.mem_of_lookup e) with q | q
  · cases q; exact h
  · rcases List.mem_cons.mp q with q | q
    · cases q; exact h2
    · cases List.mem_singleton.mp q; exact h3
end L2
namespace L2
open PySem PySem.Spec PyProof.Rows
structure FunD (K : PySem.W.Frag) (x qual : Str) (st : Stmt) (dV : Addr) (its : Array Value) (f : Addr) (fd : FuncData) : Prop where
  ex : ∃ (oc : Value) (od : Option Addr) (kV doc pm : Value) (an : Option Addr) (cdv ct : Value) (osl : Array (Option Value)),
    fd = PySem.W.fnOf x qual (defArgs st) (defBody st) (defScope st) (.ref dV) kV doc pm an cdv ct ∧ K.lookup f = some ⟨oc, od, .func fd, osl⟩ ∧ PySem.W.codeIn K cdv qual = true
  kp : PySem.W.keepIn K (.ref f) = true
  dt : ∃ (o : Obj) (n : Nat), K.lookup dV = some o ∧ o.data = .seq its n
section
variable {P : Program} {w : World} {K : PySem.W.Frag} {mg : Str → Option Value} {base : Heap}
theorem FunD.ok {x qual : Str} {st : Stmt} {dV : Addr} {its : Array Value} {f : Addr} {fd : FuncData} {N ps : List Str} {k : Nat} {sp : Sp} (F : FunD K x qual st dV its f fd) (S : FnScope N ps (defScope st)) (len : ∀ vs H Q E, sp vs H Q E → vs.length = ps.length)
    (hbody : ∀ (cdv : Value) (A : Around) (outer : List Env) (s : Shared) (H : Hp) (vs : List V) (Q : VK) (E : XK), Room k (A.deeper (envOfC qual (defScope st) s.heap.objs.size f cdv)) → sp vs H Q E →
      ∃ t, PSs (cxOf CX0 P w K mg base N qual (defScope st) f cdv A outer s H E).nox (defBody st) t ∧ t { nx := fun _ H' => Q .non H', rt := Q } (start N vs) H) : FnOk P w K mg base CX0 (k + 1) f fd ps sp := by
  obtain ⟨oc, od, kV, doc, pm, an, cdv, ct, osl, rfl, lk, hcd⟩ := F.ex
  refine fn_of lk hcd S len fun A outer s H vs Q E hr hsp => ?_
  obtain ⟨t, h, q⟩ := hbody cdv A outer s H vs Q E hr hsp
  exact ⟨t, h.nox, q⟩
theorem FunD.binds {x qual : Str} {st : Stmt} {dV : Addr} {its : Array Value} {f : Addr} {fd : FuncData} {ps : List Str} {ds : List Value} (F : FunD K x qual st dV its f fd)
    (h : ∀ (kV doc pm : Value) (an : Option Addr) (cdv ct : Value) (us : List Value), (us ++ ds).length = ps.length → ∃ k, bindArgs (PySem.W.fnOf x qual (defArgs st) (defBody st) (defScope st) (.ref dV) kV doc pm an cdv ct) ⟨us, []⟩ = seqItems? (.ref dV) >>= k ∧ k (some its) = pure (ps.zip (us ++ ds))) : Binds K fd ps ds := by
  obtain ⟨oc, od, kV, doc, pm, an, cdv, ct, osl, rfl, lk, hcd⟩ := F.ex
  obtain ⟨o, n, ho, hs⟩ := F.dt
  intro s us KI hl
  obtain ⟨k, h1, h2⟩ := h kV doc pm an cdv ct us hl
  exact .of_defaults (T := dV) rfl (KI dV o ho) hs h1 h2
end
structure CalleeD (P : Program) (w : World) (K : PySem.W.Frag) (mg : Str → Option Value) (base : Heap) (CX : CXT) (k : Nat) (x : Str) (ps : List Str) (dvs : List V) (sp : Sp) : Prop where
  has : ∃ (f : Addr) (fd : FuncData) (ds : List Value), FnOk P w K mg base CX k f fd ps sp ∧ mg x = some (.ref f) ∧ PySem.W.keepIn K (.ref f) = true ∧ Binds K fd ps ds ∧ Vals dvs ds
theorem CalleeD.mono {P : Program} {w : World} {K : PySem.W.Frag} {mg : Str → Option Value} {base : Heap} {CX : CXT} {j k : Nat} {x : Str} {ps : List Str} {dvs : List V} {sp : Sp} (c : CalleeD P w K mg base CX j x ps dvs sp) (h : j ≤ k) : CalleeD P w K mg base CX k x ps dvs sp :=
  let ⟨f, fd, ds, ok, m, kp, b, v⟩ := c.has; ⟨⟨f, fd, ds, ok.mono h, m, kp, b, v⟩⟩
section
variable {X : Cx} {CX : CXT} {k : Nat} {ps : List Str} {dvs : List V} {sp : Sp} {E : XK} {x : Str} {p pos : Pos} {e : Expr} {es : List Expr} {t : TA}
end
def totS (z : Str) (ys : List Str) : Nat := ys.foldl (fun (n : Nat) (y : Str) => n + y.length + z.length) 0
section
variable {X : Cx}
def rJoinW (K : PySem.W.Frag) : V → List V → Hp → VK → Prop := fun x xs H Q => ∃ (z : Str) (l : Addr) (ys : List Str), x = .str z ∧ xs = [.ref l] ∧ SqL K H l (ys.map V.str) ∧ totS z ys ≤ 1000000 ∧ Q (.str (Builtin.Str.glued z ys)) H
def rMulS : R2 := fun x y H Q => ∃ a n, x = .str a ∧ y = .int n ∧ 0 ≤ n ∧ n ≤ 100 ∧ a.length ≤ 10 ∧ ∀ z : Str, z.length = a.length * n.toNat → Q (.str z) H
def rIxQ : R2 := fun x y H Q => ∃ p xs i v, x = .ref p ∧ y = .int i ∧ (H p = some (.lst xs) ∨ H p = some (.tup xs)) ∧ atI xs i = some v ∧ Q v H
theorem ix_seqH : IxR X rIxQ := by
  intro value slice pins s σ H x y v u Q I rx ry h hs
  obtain ⟨p, xs, i, z, e1, e2, hh | hh, ha, q⟩ := h
  · exact ix_listH value slice pins s σ H x y v u Q I rx ry ⟨p, xs, i, z, e1, e2, hh, ha, q⟩ hs
  · exact ix_tupH value slice pins s σ H x y v u Q I rx ry ⟨p, xs, i, z, e1, e2, hh, ha, q⟩ hs
end
end L2
namespace L2
open PySem PySem.Spec PyProof.Rows
def AlkV (H : Hp) : Nat → V → V → Prop
  | 0, x, y => flatV x = true ∧ x = y
  | d + 1, x, y => (flatV x = true ∧ x = y) ∨ ∃ (a b : Addr) (xs ys : List V), x = .ref a ∧ y = .ref b ∧ ((H a = some (.lst xs) ∧ H b = some (.lst ys)) ∨ (H a = some (.tup xs) ∧ H b = some (.tup ys))) ∧ xs.length = ys.length ∧ ∀ (i : Nat) z w, xs[i]? = some z → ys[i]? = some w → AlkV H d z w
theorem AlkV.same {H H' : Hp} (s : Same H H') : ∀ {d : Nat} {x y : V}, AlkV H d x y → AlkV H' d x y
  | 0, _, _, h => h
  | d + 1, _, _, .inl h => .inl h
  | d + 1, _, _, .inr ⟨a, b, xs, ys, e1, e2, h, hl, q⟩ => .inr ⟨a, b, xs, ys, e1, e2, h.imp (fun z => ⟨s _ _ z.1, s _ _ z.2⟩) (fun z => ⟨s _ _ z.1, s _ _ z.2⟩), hl, fun i z w e1 e2 => (q i z w e1 e2).same s⟩
theorem AlkV.flat {H : Hp} {d : Nat} {x : V} (h : flatV x = true) : AlkV H d x x := by
  cases d with
  | zero => exact ⟨h, rfl⟩
  | succ d => exact .inl ⟨h, rfl⟩
theorem AlkV.lst {H : Hp} {d : Nat} {a b : Addr} {xs : List V} (h1 : H a = some (.lst xs)) (h2 : H b = some (.lst xs)) (f : xs.all flatV = true) : AlkV H (d + 1) (.ref a) (.ref b) :=
  .inr ⟨a, b, xs, xs, rfl, rfl, .inl ⟨h1, h2⟩, rfl, fun i z w e1 e2 => by
    rw [e1] at e2; cases e2
    exact .flat (List.all_eq_true.mp f _ (List.mem_of_getElem? e1))⟩
theorem AlkV.tup {H : Hp} {d : Nat} {a b : Addr} {xs : List V} (h1 : H a = some (.tup xs)) (h2 : H b = some (.tup xs)) (f : xs.all flatV = true) : AlkV H (d + 1) (.ref a) (.ref b) :=
  .inr ⟨a, b, xs, xs, rfl, rfl, .inr ⟨h1, h2⟩, rfl, fun i z w e1 e2 => by
    rw [e1] at e2; cases e2
    exact .flat (List.all_eq_true.mp f _ (List.mem_of_getElem? e1))⟩
section
variable {X : Cx} {pins : List (Addr × Obj)} {σ : St} {H : Hp} {s : Shared}
def rEqD : R2 := fun x y H Q => (∃ a, x = .ref a) ∧ AlkV H 9 x y ∧ Q (.bl true) H
def rNeD : R2 := fun x y H Q => (∃ a, x = .ref a) ∧ AlkV H 9 x y ∧ Q (.bl false) H
end
section
variable {X : Cx}
def iSeq (K : PySem.W.Frag) (tl : TE) : TI := fun σ H R => tl σ H fun x H1 => (∃ a, x = .ref a ∧ (∃ xs, SqL K H1 a xs) ∧ R (Itl K a) H1) ∨ (∃ a, x = .ref a ∧ (∃ xs, SqT K H1 a xs) ∧ R (Itt K a) H1)
theorem pi_seq {tg l : Expr} {tl : TE} (hl : PE X l tl) : PI X tg l (iSeq X.K tl) := by
  intro pins s σ H R I h
  refine thn (hl pins s σ H _ I h) fun v s1 ⟨x, H1, I1, r1, q1⟩ => ?_
  rcases q1 with ⟨a, e, ⟨xs, hq⟩, q⟩ | ⟨a, e, ⟨xs, hq⟩, q⟩
  · subst e
    cases r1
    obtain ⟨its, rv, p, hz⟩ := I1.list hq
    refine wpAny_pyIter_list p.isList ?_
    refine ⟨s1.heap.objs.size, [s1.heap.objs.size], _, _, H1, rfl, I1.kept (t' := s1.toks) fun b o e => Heap.get?_push_of_some _ e, turn_list a _, ⟨_, Heap.get?_push_size _ rfl, rfl, rfl⟩, fun b hb => ?_, q⟩
    have e : b = s1.heap.objs.size := by simpa using hb
    subst e
    exact I1.fpOk (Nat.le_refl _) (I1.hok.fresh (Nat.le_refl _))
  · subst e
    cases r1
    obtain ⟨its, rv, p, hz⟩ := I1.tuple hq
    refine wpAny_pyIter_tuple (show s1.heap.IsTuple a its.toArray from p) ?_
    refine ⟨s1.heap.objs.size, [s1.heap.objs.size], _, _, H1, rfl, I1.kept (t' := s1.toks) fun b o e => Heap.get?_push_of_some _ e, turn_tuple a _, ⟨_, Heap.get?_push_size _ rfl, rfl, rfl⟩, fun b hb => ?_, q⟩
    have e : b = s1.heap.objs.size := by simpa using hb
    subst e
    exact I1.fpOk (Nat.le_refl _) (I1.hok.fresh (Nat.le_refl _))
theorem for_eqQ {K : PySem.W.Frag} {te : TE} {g : TG} {tb : TS} {D : Ends} {σ : St} {H : Hp} : tFor (iSeq K te) g tb D σ H = te σ H fun x H1 => LoopL K g tb D σ x H1 ∨ LoopT K g tb D σ x H1 := rfl
theorem comp_eqQ {K : PySem.W.Frag} {k : Nat} {js : List Nat} {ti : TE} {g : TG} {te : TE} {σ : St} {H : Hp} {Q : VK} : tComp (iSeq K ti) k js g te σ H Q = ti σ H fun x H1 => CompL K k js g te σ x H1 Q ∨ CompT K k js g te σ x H1 Q := rfl
end
end L2
namespace L2
open PySem PySem.Spec PyProof.Rows
def Itrl (K : PySem.W.Frag) (a : Addr) (n : Nat) : It := ⟨fun i H => ∃ xs, SqL K H a xs ∧ xs.length = n ∧ i < n, fun i H x H' => H' = H ∧ ∀ xs, SqL K H a xs → xs[n - 1 - i]? = some x, fun i H => ∃ xs, SqL K H a xs ∧ xs.length = n ∧ i = n⟩
section
variable {X : Cx} {tg : Expr}
def iRevL (K : PySem.W.Frag) (te : TE) : TI := fun σ H R => te σ H fun x H1 => ∃ a xs, x = .ref a ∧ SqL K H1 a xs ∧ R (Itrl K a xs.length) H1
end
def LoopVL (K : PySem.W.Frag) (g : TG) (tb : TS) (D : Ends) (σ : St) (x : V) (H1 : Hp) : Prop := ∃ a xs, x = .ref a ∧ SqL K H1 a xs ∧ ∃ W : Nat → Nat → St → Hp → Prop, (∃ m, W 0 m σ H1) ∧ ∀ i m σ H, W i m σ H →
  ((Itrl K a xs.length).stop i H ∧ D.nx σ H) ∨ ((Itrl K a xs.length).go i H ∧ ∃ N : St → Hp → Prop, (∀ σ' H', N σ' H' → ∃ m', m' < m ∧ W (i + 1) m' σ' H') ∧ ∀ x H', (Itrl K a xs.length).yld i H x H' → g x σ H' fun σ2 H2 => tb { D with nx := N, ct := N, bk := D.nx } σ2 H2)
theorem for_eqVL {K : PySem.W.Frag} {te : TE} {g : TG} {tb : TS} {D : Ends} {σ : St} {H : Hp} : tFor (iRevL K te) g tb D σ H = te σ H fun x H1 => LoopVL K g tb D σ x H1 := rfl
theorem LoopVL.mk {K : PySem.W.Frag} {a : Addr} {xs : List V} {g : TG} {tb : TS} {D : Ends} {σ : St} {H : Hp} (hS : SqL K H a xs) (Pv : Nat → St → Hp → Prop) (h0 : Pv 0 σ H) (hl : ∀ i σ H, i ≤ xs.length → Pv i σ H → SqL K H a xs)
    (hs : ∀ i x σ H, i < xs.length → xs[xs.length - 1 - i]? = some x → Pv i σ H → g x σ H fun σ2 H2 => tb { D with nx := Pv (i + 1), ct := Pv (i + 1), bk := D.nx } σ2 H2) (hd : ∀ σ H, Pv xs.length σ H → D.nx σ H) : LoopVL K g tb D σ (.ref a) H := by
  refine ⟨a, xs, rfl, hS, fun i m σ H => m = xs.length - i ∧ i ≤ xs.length ∧ Pv i σ H, ⟨xs.length, by simp, Nat.zero_le _, h0⟩, ?_⟩
  rintro i m σ H ⟨rfl, hi, p⟩
  have q := hl i σ H hi p
  by_cases hlt : i < xs.length
  · refine .inr ⟨⟨xs, q, rfl, hlt⟩, Pv (i + 1), fun σ' H' p' => ⟨xs.length - (i + 1), by omega, rfl, hlt, p'⟩, fun x H' y => ?_⟩
    obtain ⟨e, y⟩ := y
    subst e
    exact hs i x σ _ hlt (y xs q) p
  · have e : i = xs.length := by omega
    subst e
    exact .inl ⟨⟨xs, q, rfl, rfl⟩, hd σ H p⟩
end L2
namespace L2
open PySem PySem.Spec PyProof.Rows PySem.W PySem.Calls
theorem cellsFrom_app : ∀ (names : List (Str × NameKind)) (n : Nat) (acc : List (Str × Addr)), cellsFrom n names acc = cellsFrom n names [] ++ acc
  | [], _, _ => rfl
  | (x, k) :: r, n, acc => by
    unfold cellsFrom
    split
    · rw [cellsFrom_app r (n + 1) ((x, n) :: acc), cellsFrom_app r (n + 1) [(x, n)], List.append_assoc]; rfl
    · exact cellsFrom_app r n acc
theorem look_app {α : Type} : ∀ {a b : List (Str × α)} {x : Str}, (a ++ b).lookup x = match a.lookup x with | some c => some c | none => b.lookup x
  | [], _, _ => rfl
  | (y, c) :: a, b, x => by
    rw [List.cons_append, List.lookup_cons, List.lookup_cons]
    cases x == y with
    | true => rfl
    | false => exact look_app
theorem look_some {α : Type} {y : Str} : ∀ {cl : List (Str × α)} {q : Str × α}, q ∈ cl → q.1 = y → (cl.lookup y).isSome = true
  | a :: r, q, hq, e => by
    rw [List.lookup_cons]
    cases q0 : y == a.1 with
    | true => rfl
    | false =>
      rcases List.mem_cons.mp hq with z | z
      · rw [← z, e, beq_self_eq_true] at q0; cases q0
      · exact look_some z e
theorem look_nd {α : Type} : ∀ {cl : List (Str × α)} {q : Str × α}, (cl.map (·.1)).Nodup → q ∈ cl → cl.lookup q.1 = some q.2
  | a :: r, q, nd, hq => by
    rw [List.lookup_cons]
    rcases List.mem_cons.mp hq with z | z
    · rw [← z, beq_self_eq_true]
    · have na := (List.nodup_cons.mp nd).1
      have : (q.1 == a.1) = false := by
        cases q0 : q.1 == a.1 with
        | false => rfl
        | true => exact absurd (List.mem_map.mpr ⟨q, z, eq_of_beq q0⟩) na
      rw [this]
      exact look_nd (List.nodup_cons.mp nd).2 z
theorem cellsFrom_none {x : Str} : ∀ {names : List (Str × NameKind)} {n : Nat}, (∀ y ∈ names, y.2 = .cell → y.1 ≠ x) → (cellsFrom n names []).lookup x = none
  | [], _, _ => rfl
  | (y, k) :: r, n, h => by
    unfold cellsFrom
    split
    · rename_i hk
      rw [cellsFrom_app, look_app, cellsFrom_none fun z hz => h z (List.mem_cons_of_mem _ hz)]
      have hy : y ≠ x := h (y, k) List.mem_cons_self (eq_of_beq hk)
      show List.lookup x [(y, n)] = none
      rw [List.lookup_cons]
      have : (x == y) = false := by
        cases q : x == y with
        | false => rfl
        | true => exact absurd (eq_of_beq q).symm hy
      rw [this]; rfl
    · exact cellsFrom_none fun z hz => h z (List.mem_cons_of_mem _ hz)
section
variable {M : Model} {A : Around} {E : Value → Shared → Prop} {s₀ s : Shared} {m cm : Str → Option Value} {env : Env} {cs : List (Str × Addr)}
theorem stLX {n : Str} {v : Value} {Q : Unit → Shared → Prop} (x : InCallC s₀ env.locals m cs cm s) (hk : env.scope.kind = .function) (hl : env.kindOf n = some .local)
    (h : ∀ s', InCallC s₀ env.locals (fun y => if y = n then some v else m y) cs cm s' → Q () s') : wpAny M A (storeName env n v) Q E s := by
  refine wpAny_storeName_local hl x.toInCall.ns (fun h' hn' hs' => h _ ⟨⟨?_, hn', fun b o e => ?_, x.toInCall.fresh⟩, fun k c hc => ?_, x.apart, x.above⟩) (by rw [hk]; rfl)
  · obtain ⟨h₁, tk, rfl⟩ := x.toInCall.same
    exact ⟨h', _, rfl⟩
  · exact hs'.extBut b o (Nat.ne_of_lt (Nat.lt_of_lt_of_le (Heap.lt_size e) x.toInCall.fresh)) (x.toInCall.keep b o e)
  · exact (x.cell k c hc).sameBut hs' (Nat.ne_of_gt (x.above k c (PySem.mem_of_lookup hc)))
theorem stCX {n : Str} {c : Addr} {v : Value} {Q : Unit → Shared → Prop} (x : InCallC s₀ env.locals m cs cm s) (hk : env.scope.kind = .function) (hl : env.kindOf n = some .cell)
    (hc : cs.lookup n = some c) (he : env.cells.lookup n = some c)
    (h : ∀ s', InCallC s₀ env.locals m cs (fun y => if y = n then some v else cm y) s' → Q () s') : wpAny M A (storeName env n v) Q E s := by
  have hLc := x.above n c (PySem.mem_of_lookup hc)
  refine wpAny_storeName_cell hk hl he (x.cell n c hc) fun h' hc' hs' => h _ ⟨⟨?_, x.toInCall.ns.sameBut hs' (Nat.ne_of_lt hLc), fun b o e => ?_, x.toInCall.fresh⟩, fun k c' hk' => ?_, x.apart, x.above⟩
  · obtain ⟨h₁, tk, rfl⟩ := x.toInCall.same
    exact ⟨h', _, rfl⟩
  · exact hs'.extBut b o (Nat.ne_of_lt (Nat.lt_trans (Nat.lt_of_lt_of_le (Heap.lt_size e) x.toInCall.fresh) hLc)) (x.toInCall.keep b o e)
  · by_cases hkn : k = n
    · subst hkn
      rw [hc] at hk'; cases hk'
      simpa using hc'
    · rw [if_neg hkn]
      exact (x.cell k c' hk').sameBut hs' fun e => hkn (name_of_addr x.apart (PySem.mem_of_lookup hk') (e ▸ PySem.mem_of_lookup hc))
theorem bindParamsX (f : Str × Value → PUnit → Sem (ForInStep PUnit)) (hf : ∀ n v u, f (n, v) u = (do storeName env n v; pure (.yield ⟨⟩))) (hk : env.scope.kind = .function) (hcs : ∀ n c, cs.lookup n = some c → env.cells.lookup n = some c) :
    ∀ (binds : List (Str × Value)) (m cm : Str → Option Value) (s : Shared) (Q : PUnit → Shared → Prop), InCallC s₀ env.locals m cs cm s →
      (∀ x ∈ binds, env.kindOf x.1 = some .local ∨ (env.kindOf x.1 = some .cell ∧ (cs.lookup x.1).isSome = true)) →
      (∀ s', InCallC s₀ env.locals (bindL env.kindOf binds m) cs (bindC env.kindOf binds cm) s' → Q ⟨⟩ s') → wpAny M A (forIn binds ⟨⟩ f) Q E s
  | [], m, cm, s, Q, x, _, h => by rw [List.forIn_nil]; exact wpAny_pure (h s x)
  | (n, v) :: r, m, cm, s, Q, x, hkind, h => by
    rw [List.forIn_cons, hf]
    have hr : ∀ y ∈ r, env.kindOf y.1 = some .local ∨ (env.kindOf y.1 = some .cell ∧ (cs.lookup y.1).isSome = true) := fun y hy => hkind y (List.mem_cons_of_mem _ hy)
    rcases hkind (n, v) List.mem_cons_self with hl | ⟨hl, hc⟩
    · refine wpAny_bind (wpAny_bind (stLX x hk hl fun s' x' => wpAny_pure (bindParamsX f hf hk hcs r _ _ s' Q x' hr fun s'' x'' => h s'' ?_)))
      unfold bindL bindC; rw [if_pos hl, if_pos hl]; exact x''
    · obtain ⟨c, hc⟩ := Option.isSome_iff_exists.mp hc
      have hnl : ¬ env.kindOf n = some .local := by rw [hl]; decide
      refine wpAny_bind (wpAny_bind (stCX x hk hl hc (hcs n c hc) fun s' x' => wpAny_pure (bindParamsX f hf hk hcs r _ _ s' Q x' hr fun s'' x'' => h s'' ?_)))
      unfold bindL bindC; rw [if_neg hnl, if_neg hnl]; exact x''
end
section
variable {M : Model} {A : Around} {E : Value → Shared → Prop} {s : Shared}
theorem wpAny_newEnvX {scope : Scope} {globals : Addr} {cl : List (Str × Addr)} {binds : List (Str × Value)} {qual : Str} {func : Option Addr} {code : Value} {builtins : Addr} {Q : Env → Shared → Prop}
    (hk : scope.kind = .function)
    (hkind : ∀ x ∈ binds, scope.names.lookup x.1 = some .local ∨ (scope.names.lookup x.1 = some .cell ∧ ((cellsFrom (s.heap.objs.size + 1) scope.names []).lookup x.1).isSome = true))
    (hQ : ∀ env, env = newEnv scope s.heap.objs.size globals (cellsFrom (s.heap.objs.size + 1) scope.names [] ++ cl) qual func code none builtins →
      ∀ s', InCallC s env.locals (bindL env.kindOf binds fun _ => none) (cellsFrom (s.heap.objs.size + 1) scope.names []) (bindC env.kindOf binds fun _ => none) s' → Q env s') :
    wpAny M A (newFunctionEnv scope globals cl binds qual func code none builtins) Q E s := by
  simp only [newFunctionEnv, Option.isSome_none, Bool.false_eq_true, if_false]
  refine wpAny_bind (wpAny_alloc ?_)
  refine wpAny_bind (wpAny_layCells _ (fun name kind cells => by cases hkc : kind == NameKind.cell <;> simp [hkc]) _ _ _ _ ?_)
  have ok := cellsFrom_ok scope.names (s.heap.push { cls := .type "frame", data := .dict #[] }) (s.heap.objs.size + 1) [] ⟨fun _ _ hm => (nomatch hm), List.Pairwise.nil⟩ (by rw [Heap.size_push]; exact Nat.le_refl _)
  rw [Heap.size_push] at ok
  rw [show ({ s with heap := s.heap.push { cls := .type "frame", data := .dict #[] } } : Shared).heap.objs.size = s.heap.objs.size + 1 from Heap.size_push ..]
  rw [cellsFrom_app scope.names (s.heap.objs.size + 1) cl]
  refine wpAny_bind (bindParamsX (s₀ := s) (cs := cellsFrom (s.heap.objs.size + 1) scope.names []) (env := newEnv scope s.heap.objs.size globals (cellsFrom (s.heap.objs.size + 1) scope.names [] ++ cl) qual func code none builtins)
    _ (fun _ _ _ => rfl) hk (fun n c hc => by show List.lookup n (cellsFrom (s.heap.objs.size + 1) scope.names [] ++ cl) = some c; rw [look_app, hc]) binds (fun _ => none) (fun _ => none) _ _
    ⟨⟨⟨_, _, rfl⟩, (Heap.Ns.new s.heap (.type "frame")).keeps (pushCells_keeps _ _), fun b o e => pushCells_keeps _ _ b o (Heap.get?_push_of_some _ e), Nat.le_refl _⟩,
      fun n c hc => (ok.empty n c (PySem.mem_of_lookup hc)).1, ok.apart, fun n c hm => (ok.empty n c hm).2⟩
    hkind fun s' x => wpAny_pure (hQ _ rfl s' x))
end
def CelO (c : Addr) (v : V) : HO := .ext fun h => ∃ u, RelV v u ∧ h.IsCell c (some u)
def CodO (c : Addr) (qual : Str) : HO := .ext fun h => h.CodeRec (.ref c) qual
def LamO (fa c' : Addr) (qual : Str) (params : Arguments) (body : Expr) (scope : Scope) (cl : List (Str × Addr)) : HO := .ext fun h => ∃ pm ctv, h.get? fa = some (kla_obj "<lambda>" qual params body scope cl pm c' ctv)
structure CelAt (H : Hp) (cl : List (Str × Addr)) (vcs : List V) : Prop where
  len : cl.length = vcs.length
  at_ : ∀ (i : Nat) q, cl[i]? = some q → ∃ v o, vcs[i]? = some v ∧ H q.2 = some (.frz o (CelO q.2 v))
  apart : cl.Pairwise fun x y => x.2 ≠ y.2
theorem CelAt.mem {H : Hp} {cl : List (Str × Addr)} {vcs : List V} (h : CelAt H cl vcs) {q : Str × Addr} (hq : q ∈ cl) : ∃ o v, H q.2 = some (.frz o (CelO q.2 v)) := by
  obtain ⟨i, e⟩ := List.mem_iff_getElem?.mp hq
  obtain ⟨v, o, _, e2⟩ := h.at_ i q e
  exact ⟨o, v, e2⟩
theorem CelAt.same {H H' : Hp} {cl : List (Str × Addr)} {vcs : List V} (h : CelAt H cl vcs) (s : ∀ a o, H a = some o → H' a = some o) : CelAt H' cl vcs :=
  ⟨h.len, fun i q e => let ⟨v, o, e1, e2⟩ := h.at_ i q e; ⟨v, o, e1, s _ _ e2⟩, h.apart⟩
open Classical in
noncomputable def minC (H : Hp) (cl : List (Str × Addr)) : Hp := fun b => if ∃ q ∈ cl, q.2 = b then none else H b
open Classical in
noncomputable def resC (H H' : Hp) (cl : List (Str × Addr)) : Hp := fun b => if ∃ q ∈ cl, q.2 = b then H b else H' b
theorem minC_in {H : Hp} {cl : List (Str × Addr)} {q : Str × Addr} (h : q ∈ cl) : minC H cl q.2 = none := if_pos ⟨q, h, rfl⟩
theorem minC_out {H : Hp} {cl : List (Str × Addr)} {b : Addr} (h : ∀ q ∈ cl, q.2 ≠ b) : minC H cl b = H b := if_neg fun ⟨q, hq, e⟩ => h q hq e
theorem minC_some {H : Hp} {cl : List (Str × Addr)} {b : Addr} {o : HO} (h : minC H cl b = some o) : H b = some o ∧ ∀ q ∈ cl, q.2 ≠ b := by
  by_cases c : ∃ q ∈ cl, q.2 = b
  · rw [show minC H cl b = none from if_pos c] at h; cases h
  · rw [show minC H cl b = H b from if_neg c] at h
    exact ⟨h, fun q hq e => c ⟨q, hq, e⟩⟩
theorem minC_none {H : Hp} {cl : List (Str × Addr)} {b : Addr} (h : H b = none) : minC H cl b = none := by
  by_cases c : ∃ q ∈ cl, q.2 = b
  · exact if_pos c
  · rw [show minC H cl b = H b from if_neg c]; exact h
theorem resC_in {H H' : Hp} {cl : List (Str × Addr)} {q : Str × Addr} (h : q ∈ cl) : resC H H' cl q.2 = H q.2 := if_pos ⟨q, h, rfl⟩
theorem resC_out {H H' : Hp} {cl : List (Str × Addr)} {b : Addr} (h : ∀ q ∈ cl, q.2 ≠ b) : resC H H' cl b = H' b := if_neg fun ⟨q, hq, e⟩ => h q hq e
theorem HOk.minC {P : Program} {w : World} {H : Hp} {h : Heap} {cl : List (Str × Addr)} {vcs : List V} (x : HOk P w H h) (hc : CelAt H cl vcs) : HOk P w (minC H cl) h := fun b o e => by
  obtain ⟨e1, _⟩ := minC_some e
  have nf : ∀ c u, H c = some u → (∀ ob v, u ≠ .frz ob v) → L2.minC H cl c = some u := fun c u e2 n => by
    rw [minC_out fun q hq z => ?_]
    · exact e2
    · obtain ⟨ob, v, e3⟩ := hc.mem hq
      rw [z, e2] at e3
      exact n _ _ (Option.some.inj e3)
  exact (x b o e1).stay (fun _ _ _ q => q) (fun c q => nf c _ q fun _ _ z => nomatch z) fun c xs q => nf c _ q fun _ _ z => nomatch z
structure LmScope (N ps fv : List Str) (sc : Scope) : Prop where
  kind : sc.kind = .function
  co : sc.isCoroutine = false
  gen : sc.isGenerator = false
  nd : N.Nodup
  pre : N.take (ps ++ fv).length = ps ++ fv
  par : ∀ x ∈ ps, sc.names.lookup x = some .local ∨ sc.names.lookup x = some .cell
  fre : ∀ x ∈ fv, sc.names.lookup x = some .free
  has : ∀ y ∈ sc.names, y.2 = .free → y.1 ∈ fv
  own : ∀ x ∈ fv, ∀ y ∈ sc.names, y.2 = .cell → y.1 ≠ x
def cxLam (P : Program) (w : World) (K : PySem.W.Frag) (mg : Str → Option Value) (base : Heap) (N : List Str) (qual : Str) (scope : Scope) (f : Addr) (cd : Value) (cl : List (Str × Addr)) (A : Around) (outer : List Env) (s : Shared) (H : Hp) : Cx where
  prog := P
  w := w
  K := K
  mg := mg
  base := base
  A := A.deeper (envX qual scope s.heap.objs.size f cd (cellsFrom (s.heap.objs.size + 1) scope.names [] ++ cl))
  N := N
  s₀ := s
  H₀ := H
  env := envX qual scope s.heap.objs.size f cd (cellsFrom (s.heap.objs.size + 1) scope.names [] ++ cl)
  outer := outer
  stack := envX qual scope s.heap.objs.size f cd (cellsFrom (s.heap.objs.size + 1) scope.names [] ++ cl) :: outer
  ex := []
  calm := true
  fn := fun x => decide (scope.names.lookup x = some .cell)
  pn := []
  xe := fun _ _ => False
theorem start_at {N : List Str} {vs : List V} {i : Nat} {v : V} (h : (start N vs)[i]? = some (some v)) : vs[i]? = some v := by
  unfold start at h
  have hi : i < vs.length := by
    by_cases hi : i < vs.length
    · exact hi
    · rw [List.getElem?_append_right (by simpa using hi), List.getElem?_replicate] at h
      split at h <;> cases h
  rw [List.getElem?_append_left (by simpa using hi), List.getElem?_map] at h
  cases e : vs[i]? with
  | none => rw [e] at h; cases h
  | some a => rw [e] at h; cases h; rfl
theorem inv_lam {P : Program} {w : World} {K : PySem.W.Frag} {mg : Str → Option Value} {base : Heap} {N ps fv : List Str} {qual : Str} {scope : Scope} {f : Addr} {cd : Value} {cl : List (Str × Addr)} {A : Around} {outer : List Env} {s s1 : Shared} {H : Hp} {us : List Value} {vs vcs : List V}
    (S : LmScope N ps fv scope) (hd : A.handled = none) (e0 : Env0 P w K mg base A outer s H) (hl : vs.length = ps.length) (r : Vals vs us) (hcl : cl.map (·.1) = fv) (hc : CelAt H cl vcs)
    (x : InCallC s s.heap.objs.size (bindL (fun x => scope.names.lookup x) (ps.zip us) fun _ => none) (cellsFrom (s.heap.objs.size + 1) scope.names []) (bindC (fun x => scope.names.lookup x) (ps.zip us) fun _ => none) s1) :
    Inv (cxLam P w K mg base N qual scope f cd cl A outer s (minC H cl)) [] (start N (vs ++ vcs)) (minC H cl) s1 := by
  obtain ⟨h1, tk, rfl, hk⟩ := x.done
  have cll : cl.length = fv.length := by rw [← hcl, List.length_map]
  have hpl : (ps ++ fv).length ≤ N.length := by have := congrArg List.length S.pre; rw [List.length_take] at this; omega
  have noA : ∀ b : Addr, b ∉ (cxLam P w K mg base N qual scope f cd cl A outer s (minC H cl)).ex := fun b z => absurd (show b ∈ ([] : List Addr) from z) (by simp)
  have old : ∀ q ∈ cl, q.2 < s.heap.objs.size := fun q hq => by
    obtain ⟨o, v, e⟩ := hc.mem hq
    exact e0.hok.lt e
  have celv : ∀ (i : Nat) q, cl[i]? = some q → ∃ v u, vcs[i]? = some v ∧ RelV v u ∧ h1.IsCell q.2 (some u) := fun i q e => by
    obtain ⟨v, o, e1, e2⟩ := hc.at_ i q e
    obtain ⟨_, ⟨u, ru, ic⟩, _⟩ := e0.hok _ _ e2
    exact ⟨v, u, e1, ru, ic.keeps hk⟩
  have lk : ∀ y c, (cellsFrom (s.heap.objs.size + 1) scope.names [] ++ cl).lookup y = some c → (y, c) ∈ cellsFrom (s.heap.objs.size + 1) scope.names [] ∨ (y, c) ∈ cl := fun y c e => List.mem_append.mp (PySem.mem_of_lookup e)
  have abv : ∀ y c, (y, c) ∈ cellsFrom (s.heap.objs.size + 1) scope.names [] → s.heap.objs.size ≤ c := fun y c e => Nat.le_of_lt (x.above y c e)
  refine ⟨⟨e0.mod, S.kind, rfl, rfl, Nat.le_refl _, fun y z c h1 h2 => ?_, fun y hy => ?_, fun y c hf h => ?_, fun _ => hd, Around.frames_deeper e0.frames, .inr ⟨rfl, rfl⟩, fun b z => absurd z (noA b), fun b o e => ⟨(e0.bs b o e).1, minC_none (e0.bs b o e).2⟩, e0.bsz, fun b _ _ => noA b, fun b z => absurd z (noA b), e0.funs, fun b hb => minC_none (e0.frf b hb)⟩,
    rfl, e0.bare, Un.kept hk, ⟨_, x.toInCall.ns, fun i y v h1 h2 h3 => ?_⟩, fun y c h => ?_, (e0.hok.minC hc).fresh (Nat.le_refl _), fun y c h => ?_, fun p hp => absurd (show p ∈ ([] : List (Addr × Obj)) from hp) (by simp), (e0.hok.minC hc).kept hk, ?_⟩
  · rcases lk y c h1 with m1 | m1 <;> rcases lk z c h2 with m2 | m2
    · exact name_of_addr x.apart m1 m2
    · exact absurd (abv y c m1) (Nat.not_le_of_lt (old _ m2))
    · exact absurd (abv z c m2) (Nat.not_le_of_lt (old _ m1))
    · exact name_of_addr hc.apart m1 m2
  · have hy : scope.names.lookup y = some .cell ∨ scope.names.lookup y = some .free := hy
    rcases hy with hy | hy
    · obtain ⟨c, e⟩ := cell_has (n := s.heap.objs.size + 1) hy
      exact ⟨c, by show List.lookup y (cellsFrom (s.heap.objs.size + 1) scope.names [] ++ cl) = some c; rw [look_app, e]⟩
    · have hm := S.has _ (PySem.mem_of_lookup hy) rfl
      have hm : y ∈ cl.map (·.1) := by rw [hcl]; exact hm
      obtain ⟨q, hq, e⟩ := List.mem_map.mp hm
      have iss : (cl.lookup y).isSome = true := look_some hq e
      obtain ⟨c, ec⟩ := Option.isSome_iff_exists.mp iss
      have e1 : (cellsFrom (s.heap.objs.size + 1) scope.names []).lookup y = none := cellsFrom_none (S.own y (by rw [← hcl]; exact hm))
      exact ⟨c, by show List.lookup y (cellsFrom (s.heap.objs.size + 1) scope.names [] ++ cl) = some c; rw [look_app, e1]; exact ec⟩
  · have hf : scope.names.lookup y = some .cell := of_decide_eq_true hf
    obtain ⟨c', e⟩ := cell_has (n := s.heap.objs.size + 1) hf
    have h : List.lookup y (cellsFrom (s.heap.objs.size + 1) scope.names [] ++ cl) = some c := h
    rw [look_app, e] at h
    cases h
    exact abv y _ (PySem.mem_of_lookup e)
  · have ha := start_at h2
    have hi : i < (vs ++ vcs).length := (List.getElem?_eq_some_iff.mp ha).1
    have lv : (vs ++ vcs).length = (ps ++ fv).length := by rw [List.length_append, List.length_append, hl, ← hc.len, cll]
    have hp : (ps ++ fv)[i]? = some y := by
      rw [← S.pre, List.getElem?_take_of_lt (by omega)]; exact h1
    have ndA : (ps ++ fv).Nodup := by rw [← S.pre]; exact S.nd.sublist (List.take_sublist _ _)
    have ndP : ps.Nodup := ndA.sublist (List.sublist_append_left _ _)
    by_cases hil : i < ps.length
    · rw [List.getElem?_append_left (by omega)] at ha
      rw [List.getElem?_append_left hil] at hp
      obtain ⟨u, hu, rv⟩ := r.get ha
      refine ⟨u, rv, ?_⟩
      rcases S.par y (List.mem_of_getElem? hp) with k | k
      · exact .inl ⟨k, bindL_get ndP hp hu k⟩
      · obtain ⟨c, e⟩ := cell_has (n := s.heap.objs.size + 1) k
        refine .inr ⟨.inl k, c, by show List.lookup y (cellsFrom (s.heap.objs.size + 1) scope.names [] ++ cl) = some c; rw [look_app, e], ?_⟩
        have q := x.cell y c e
        rw [bindC_get ndP hp hu (by rw [k]; decide)] at q
        exact q
    · rw [List.getElem?_append_right (by omega), hl] at ha
      rw [List.getElem?_append_right (by omega)] at hp
      have hm := List.mem_of_getElem? hp
      have hqc : (cl.map (·.1))[i - ps.length]? = some y := by rw [hcl]; exact hp
      rw [List.getElem?_map] at hqc
      obtain ⟨q, eq, e1⟩ : ∃ q, cl[i - ps.length]? = some q ∧ q.1 = y := by
        cases z : cl[i - ps.length]? with
        | none => rw [z] at hqc; cases hqc
        | some q => rw [z] at hqc; exact ⟨q, rfl, Option.some.inj hqc⟩
      obtain ⟨v', u, e2, ru, ic⟩ := celv _ q eq
      rw [ha] at e2; cases e2
      have ndF : (cl.map (·.1)).Nodup := by rw [hcl]; exact ndA.sublist (List.sublist_append_right _ _)
      have lkq : cl.lookup y = some q.2 := by rw [← e1]; exact look_nd ndF (List.mem_of_getElem? eq)
      have own0 : (cellsFrom (s.heap.objs.size + 1) scope.names []).lookup y = none := cellsFrom_none (S.own y hm)
      exact ⟨u, ru, .inr ⟨.inr (S.fre y hm), q.2, by show List.lookup y (cellsFrom (s.heap.objs.size + 1) scope.names [] ++ cl) = some q.2; rw [look_app, own0]; exact lkq, ic⟩⟩
  · rcases lk y c h with m | m
    · have h : List.lookup y (cellsFrom (s.heap.objs.size + 1) scope.names [] ++ cl) = some c := h
      rw [look_app] at h
      cases e : (cellsFrom (s.heap.objs.size + 1) scope.names []).lookup y with
      | some c2 => rw [e] at h; cases h; exact ⟨_, x.cell y _ e⟩
      | none =>
        rw [e] at h
        obtain ⟨i, ei⟩ := List.mem_iff_getElem?.mp (PySem.mem_of_lookup h)
        obtain ⟨v, u, _, _, ic⟩ := celv i _ ei
        exact ⟨_, ic⟩
    · obtain ⟨i, ei⟩ := List.mem_iff_getElem?.mp m
      obtain ⟨v, u, _, _, ic⟩ := celv i _ ei
      exact ⟨_, ic⟩
  · rcases lk y c h with m | m
    · exact (e0.hok.minC hc).fresh (abv y c m)
    · exact minC_in m
  · unfold start
    show _ = N.length
    have lv : (vs ++ vcs).length = (ps ++ fv).length := by rw [List.length_append, List.length_append, hl, ← hc.len, cll]
    rw [List.length_append, List.length_map, List.length_replicate]
    omega
def CallV (P : Program) (w : World) (K : PySem.W.Frag) (mg : Str → Option Value) (base : Heap) (k : Nat) (fa : Addr) (vs : List V) (H : Hp) (Q : VK) : Prop :=
  ∀ (A : Around) (outer : List Env) (s : Shared) (us : List Value), Room k A → Env0 P w K mg base A outer s H → Vals vs us → codeAny (model P w) A (.call (.ref fa) ⟨us, []⟩) (CR CX0 outer P w H s Q fun _ _ _ => False) s
theorem lam_run {P : Program} {w : World} {K : PySem.W.Frag} {mg : Str → Option Value} {base : Heap} {k : Nat} {N ps fv : List Str} {fa c' : Addr} {qual : Str} {params : Arguments} {body : Expr} {scope : Scope} {cl : List (Str × Addr)} {vs vcs : List V} {H : Hp} {Q : VK} {te : TE}
    (S : LmScope N ps fv scope) (hcl : cl.map (·.1) = fv)
    (hb : ∀ (pm ctv : Value) (us : List Value), us.length = ps.length → bindArgs (kla_fn "<lambda>" qual params body scope cl pm (.ref c') ctv) ⟨us, []⟩ = pure (ps.zip us)) (hl : vs.length = ps.length)
    (L1 : H fa = some (LamO fa c' qual params body scope cl)) (L2 : H c' = some (CodO c' qual)) (hc : CelAt H cl vcs)
    (hbody : ∀ (A : Around) (outer : List Env) (s : Shared), Room k (A.deeper (envX qual scope s.heap.objs.size fa (.ref c') (cellsFrom (s.heap.objs.size + 1) scope.names [] ++ cl))) → PE (cxLam P w K mg base N qual scope fa (.ref c') cl A outer s (minC H cl)) body te)
    (hq : te (start N (vs ++ vcs)) (minC H cl) (fun v H' => Q v (resC H H' cl))) : CallV P w K mg base (k + 1) fa vs H Q := by
  intro A outer s us hr e0 r
  obtain ⟨⟨pm, ctv, ho⟩, _⟩ := e0.hok fa _ L1
  obtain ⟨hcd, _⟩ := e0.hok c' _ L2
  have lim : s.heap.NoLimit := e0.mod.nolimit.keeps fun b o e => (e0.bs b o e).1
  have hkind : ∀ y ∈ ps.zip us, scope.names.lookup y.1 = some .local ∨ (scope.names.lookup y.1 = some .cell ∧ ((cellsFrom (s.heap.objs.size + 1) scope.names []).lookup y.1).isSome = true) := fun ⟨n, v⟩ hy => by
    rcases S.par n (List.of_mem_zip hy).1 with q | q
    · exact .inl q
    · exact .inr ⟨q, PySem.W.cellsFrom_some _ _ _ (.inl q)⟩
  refine kla_callFunE hr.depth ho rfl S.co S.gen rfl hcd ?_
  rw [hb pm ctv us (by rw [← r.length]; exact hl)]
  refine wpAny_pure (wpAny_newEnvX S.kind hkind fun env he s1 x => ?_)
  subst he
  refine ⟨lim.keeps x.toInCall.keep, kla_codeExpr ?_⟩
  have I : Inv (cxLam P w K mg base N qual scope fa (.ref c') cl A outer s (minC H cl)) [] (start N (vs ++ vcs)) (minC H cl) s1 := inv_lam S hr.hd e0 hl r hcl hc x
  refine wpAny_mono (hbody A outer s (hr.deeper _) [] s1 _ _ _ I hq) (fun u s' hs => ?_) (fun e s' hs => False.elim hs)
  obtain ⟨v, H', J, rv, q⟩ := hs
  have un : Un (frs outer) [] (minC H cl) H' s.heap s'.heap := J.base
  have nfr : ∀ q ∈ cl, q.2 ∉ frs outer := fun q hq z => by
    obtain ⟨o, v, e⟩ := hc.mem hq
    rw [e0.frf _ z] at e; cases e
  have kc : ∀ q ∈ cl, ∀ o, s.heap.get? q.2 = some o → s'.heap.get? q.2 = some o ∧ H' q.2 = none := fun q hq o e => ⟨un.keep _ o e (minC_in hq) (nfr q hq) (by simp), un.free _ o e (minC_in hq) (by simp)⟩
  have there : ∀ q ∈ cl, ∃ o, s.heap.get? q.2 = some o := fun q hq => by
    obtain ⟨o, v, e⟩ := hc.mem hq
    exact ⟨o, (e0.hok _ _ e).1⟩
  have split : ∀ b, (∃ q ∈ cl, q.2 = b) ∨ ∀ q ∈ cl, q.2 ≠ b := fun b => by
    by_cases c : ∃ q ∈ cl, q.2 = b
    · exact .inl c
    · exact .inr fun q hq e => c ⟨q, hq, e⟩
  refine ⟨v, resC H H' cl, J.os, J.bare, ⟨fun b o e n hb hx => un.keep b o e (minC_none n) hb hx, fun b o e n hb hx => un.slot b o e (minC_none n) hb hx, fun b o e n hx => ?_, un.there, fun b xs e => ?_, fun b o u e => ?_, fun b ps e => ?_⟩, fun b o e => ?_, rv, q⟩
  · rcases split b with ⟨q, hq, rfl⟩ | hn
    · rw [resC_in hq]; exact n
    · rw [resC_out hn]; exact un.free b o e (minC_none n) hx
  · rcases split b with ⟨q, hq, rfl⟩ | hn
    · rw [resC_in hq]; exact e
    · rw [resC_out hn]; exact un.tups b xs (by rw [minC_out hn]; exact e)
  · rcases split b with ⟨q, hq, rfl⟩ | hn
    · rw [resC_in hq]; exact e
    · rw [resC_out hn]; exact un.frzs b o u (by rw [minC_out hn]; exact e)
  · rcases split b with ⟨q, hq, rfl⟩ | hn
    · obtain ⟨o, v, e2⟩ := hc.mem hq
      rw [e] at e2; cases e2
    · rw [resC_out hn]; exact un.tbls b ps (by rw [minC_out hn]; exact e)
  · rcases split b with ⟨q, hq, rfl⟩ | hn
    · rw [resC_in hq] at e
      obtain ⟨o2, v2, e2⟩ := hc.mem hq
      rw [e] at e2
      cases e2
      obtain ⟨g1, ⟨u2, ru, ic⟩, _, st⟩ := e0.hok _ _ e
      have k1 := (kc q hq _ g1).1
      refine ⟨k1, ⟨u2, ru, ?_⟩, ⟨_, k1⟩, st⟩
      obtain ⟨o3, e3, d3⟩ := ic
      rw [g1] at e3; cases e3
      exact ⟨_, k1, d3⟩
    · rw [resC_out hn] at e
      have nf : ∀ c u, H' c = some u → resC H H' cl c = some u := fun c u e2 => by
        rcases split c with ⟨q, hq, rfl⟩ | hn
        · obtain ⟨o, eo⟩ := there q hq
          rw [(kc q hq o eo).2] at e2; cases e2
        · rw [resC_out hn]; exact e2
      exact (J.hok b o e).stay (fun _ _ _ q => q) (fun c q => nf c _ q) fun c xs q => nf c _ q
end L2
namespace L2
open PySem PySem.Spec PyProof.Rows PySem.W PySem.Calls
def FnV (H : Hp) (fa : Addr) : Prop := ∃ φ, H fa = some (.ext φ) ∧ ∀ h, φ h → FnAt fa h
theorem FnV.same {H H' : Hp} {fa : Addr} (h : FnV H fa) (s : ∀ o, H fa = some o → H' fa = some o) : FnV H' fa := let ⟨φ, e, k⟩ := h; ⟨φ, s _ e, k⟩
theorem FnV.lam {H : Hp} {fa c' : Addr} {qual : Str} {params : Arguments} {body : Expr} {scope : Scope} {cl : List (Str × Addr)} (h : H fa = some (LamO fa c' qual params body scope cl)) : FnV H fa := ⟨_, h, fun _ ⟨_, _, e⟩ => ⟨_, _, _, _, e⟩⟩
def tCalV (P : Program) (w : World) (K : PySem.W.Frag) (mg : Str → Option Value) (base : Heap) (k i : Nat) (t : TA) : TE := fun σ H Q => ∃ fa, σ[i]? = some (some (.ref fa)) ∧ FnV H fa ∧ t σ H fun vs H1 => FnV H1 fa ∧ CallV P w K mg base k fa vs H1 Q
section
variable {X : Cx} {k : Nat} {x : Str} {p pos : Pos} {e : Expr} {es : List Expr} {t : TA}
theorem pe_calV {i : Nat} (hr : Room k X.A) (hN : X.N[i]? = some x) (hv : Vis X.env.scope x) (ha : PA X (e :: es) t) (hd : (x == ("__debug__" : Str)) = false := by decide) (hcd : (x == ("__classdict__" : Str)) = false := by decide)
    (he : starEach (e :: es) X.env = (false, eval e X.env) :: starEach es X.env := by rfl) (hpl : (backTo pos (starEach es X.env)).any (·.1) = false := by rfl) :
    PE X (.Call (.Name x p) (e :: es) [] pos) (tCalV X.prog X.w X.K X.mg X.base k i t) := by
  intro pins s σ H Q I h
  obtain ⟨fa, es', fn, h⟩ := h
  refine wpAny_Call_Name_kw (thn ((pe_var (pos := p) hN hv hd hcd) pins s σ H (fun v H1 => v = .ref fa ∧ H1 = H) I ⟨_, es', rfl, rfl⟩) fun u s1 ⟨v, H1, I1, r1, e1, e2⟩ => ?_)
  subst e1 e2
  cases r1
  have at1 : ∀ {H' : Hp} {s' : Shared}, Inv X pins σ H' s' → FnV H' fa → FnAt fa s'.heap := fun J ⟨φ, e, k⟩ => k _ (J.hok _ _ e).1
  refine callWith_F (at1 I1 fn) (thn (ha pos pins s1 σ _ _ I1 h) fun us s2 ⟨vs, H2, I2, r2, fn2, cv⟩ => ⟨at1 I2 fn2, ?_⟩) he hpl
  refine wpAny_call (codeAny_mono (cv X.A X.stack s2 us hr I2.env0 r2) fun r s' hq => ?_)
  cases r with
  | error e => exact False.elim hq
  | ok fl =>
    cases fl with
    | ret u => exact I2.after hq
    | next => exact False.elim hq
    | brk => exact False.elim hq
    | cont => exact False.elim hq
end
def OwnCl (ec : List (Str × Addr)) (fv : List Str) (cl : List (Str × Addr)) : Prop := cl.map (·.1) = fv ∧ ∀ q ∈ cl, ec.lookup q.1 = some q.2
theorem OwnCl.uniq {ec : List (Str × Addr)} : ∀ {fv : List Str} {cl cl' : List (Str × Addr)}, OwnCl ec fv cl → OwnCl ec fv cl' → cl = cl'
  | [], [], [], _, _ => rfl
  | [], _ :: _, _, h, _ => by cases h.1
  | [], [], _ :: _, _, h => by cases h.1
  | _ :: _, [], _, h, _ => by cases h.1
  | _ :: _, _ :: _, [], _, h => by cases h.1
  | n :: fv, (a, c) :: cl, (b, d) :: cl', h, h' => by
    have e1 : a = n := (List.cons.inj h.1).1
    have e2 : b = n := (List.cons.inj h'.1).1
    subst e1 e2
    have l1 := h.2 (b, c) List.mem_cons_self
    have l2 := h'.2 (b, d) List.mem_cons_self
    rw [show ec.lookup b = some c from l1] at l2
    cases l2
    rw [OwnCl.uniq (fv := fv) ⟨(List.cons.inj h.1).2, fun q hq => h.2 q (List.mem_cons_of_mem _ hq)⟩ ⟨(List.cons.inj h'.1).2, fun q hq => h'.2 q (List.mem_cons_of_mem _ hq)⟩]
def TabOk (H : Hp) (T : Addr) (pos : Pos) (qual : Str) : Prop := ∃ ps, H T = some (.tbl ps) ∧ TriplesOk ps.toList ∧ (codeAmong pos ps.toList = none ∨ ∃ c', codeAmong pos ps.toList = some (.ref c') ∧ H c' = some (CodO c' qual))
theorem TabOk.same {H H' : Hp} {T : Addr} {pos : Pos} {qual : Str} (h : TabOk H T pos qual) (s : ∀ a o, H a = some o → H' a = some o) : TabOk H' T pos qual := by
  obtain ⟨ps, e, t, z⟩ := h
  exact ⟨ps, s _ _ e, t, z.imp id fun ⟨c', a, b⟩ => ⟨c', a, s _ _ b⟩⟩
theorem triples_snoc {a b : Int} {c : Value} (l : List Value) (h : TriplesOk l) : TriplesOk (l ++ [rawInt a, rawInt b, c]) := by
  fun_induction TriplesOk l with
  | case1 => simp [TriplesOk, rawInt]
  | case2 i t j u v rest ih => simpa [TriplesOk] using ih h
  | case3 => exact h.elim
structure TabF (base : Heap) (mg : Str → Option Value) (c T : Addr) : Prop where
  hd : CodeHd base c T
  none_ : base.get? T = none
  blt : ∃ bm o, mg "__builtins__" = some (.ref bm) ∧ bm ≠ builtinsNs ∧ bm ≠ mainGlobals ∧ bm ≠ T ∧ base.get? bm = some o ∧ o.cls = .type "module" ∧ o.dict = some builtinsNs ∧ o.data = .plain
  ne : mainGlobals ≠ T
def tLam (ec : List (Str × Addr)) (fv : List Str) (T : Addr) (pos : Pos) (qual : Str) (params : Arguments) (body : Expr) (scope : Scope) : TE := fun _ H Q => TabOk H T pos qual ∧
  ∀ fa c' cl H2, OwnCl ec fv cl → H fa = none → H2 fa = some (LamO fa c' qual params body scope cl) → H2 c' = some (CodO c' qual) → TabOk H2 T pos qual → (∀ b o, b ≠ T → H b = some o → H2 b = some o) → Q (.ref fa) H2
theorem codeRec_stay {c : Addr} {qual : Str} {h1 h2 : Heap} (x : h1.CodeRec (.ref c) qual) (k : ∀ o, h1.get? c = some o → h2.get? c = some o) : h2.CodeRec (.ref c) qual := by
  obtain ⟨c', o, vs, t, e, ho, r⟩ := x
  cases e
  exact ⟨c, o, vs, t, rfl, k _ ho, r⟩
section
variable {X : Cx} {params : Arguments} {body : Expr} {scope : Scope} {pos : Pos} {fv : List Str} {c T : Addr} {cl : List (Str × Addr)}
theorem pe_lam {qual : Str} (hq : X.env.qual ++ "<lambda>" = qual) (hcode : X.env.code = .ref c) (TF : TabF X.base X.mg c T) (hdef : defaultsOf params X.env = ([], [])) (hcl : closureFor scope X.env = pure cl) (own : OwnCl X.env.cells fv cl) :
    PE X (.Lambda params body scope pos) (tLam X.env.cells fv T pos qual params body scope) := by
  intro pins s σ H Q I h
  obtain ⟨⟨ps, hT, ht, hz⟩, h⟩ := h
  subst hq
  have eT : s.heap.get? T = some (tabObj ps) := I.hok _ _ hT
  have hg : s.heap.Ns mainGlobals X.mg := I.mod.glob.keeps I.bk
  obtain ⟨bm, ob, b1, b2, b3, b4, b5, b6⟩ := TF.blt
  have hb : s.heap.BuiltinsAt X.mg T := ⟨bm, ob, b1, b2, b3, b4, I.bk _ _ b5, b6⟩
  have C : CodeHd s.heap c T := TF.hd.keeps I.bk
  refine kla_eval hdef ?_
  rcases hz with hnf | ⟨c', hf, hc'⟩
  · refine kla_makeFunction hcl I.ok.glob hg hcode C eT ht hnf TF.ne hb fun c' ctv h' tk hx hge hlt hrec htb => ?_
    have hfa : H h'.objs.size = none := I.hok.fresh (Nat.le_of_lt (Nat.lt_of_le_of_lt hge hlt))
    have hc0 : H c' = none := I.hok.fresh hge
    have nTc : c' ≠ T := fun z => by rw [z, hT] at hc0; cases hc0
    have nTf : h'.objs.size ≠ T := fun z => by rw [z, hT] at hfa; cases hfa
    have ncf : c' ≠ h'.objs.size := Nat.ne_of_lt hlt
    have old : ∀ b o, b ≠ T → s.heap.get? b = some o → (h'.push (kla_obj "<lambda>" (X.env.qual ++ "<lambda>") params body scope cl ((X.mg "__name__").getD .none) c' ctv)).get? b = some o := fun b o n e => Heap.get?_push_of_some _ (hx b o n e)
    have eP : (h'.push (kla_obj "<lambda>" (X.env.qual ++ "<lambda>") params body scope cl ((X.mg "__name__").getD .none) c' ctv)).get? T = some (tabObj (ps ++ #[rawInt pos.line, rawInt pos.col, .ref c'])) := Heap.get?_push_of_some _ htb
    have eF : (h'.push (kla_obj "<lambda>" (X.env.qual ++ "<lambda>") params body scope cl ((X.mg "__name__").getD .none) c' ctv)).get? h'.objs.size = some (kla_obj "<lambda>" (X.env.qual ++ "<lambda>") params body scope cl ((X.mg "__name__").getD .none) c' ctv) := Heap.get?_push_size _ rfl
    have eC : (h'.push (kla_obj "<lambda>" (X.env.qual ++ "<lambda>") params body scope cl ((X.mg "__name__").getD .none) c' ctv)).CodeRec (.ref c') (X.env.qual ++ "<lambda>") := codeRec_stay hrec fun o e => Heap.get?_push_of_some _ e
    generalize h'.push (kla_obj "<lambda>" (X.env.qual ++ "<lambda>") params body scope cl ((X.mg "__name__").getD .none) c' ctv) = h2 at *
    generalize h'.objs.size = fa at *
    have lowT : ∀ b o, s.heap.get? b = some o → b ≠ c' ∧ (H b = none → b ≠ T) := fun b o e => ⟨Nat.ne_of_lt (Nat.lt_of_lt_of_le (Heap.lt_size e) hge), fun n z => by rw [z, hT] at n; cases n⟩
    have lowF : ∀ b o, s.heap.get? b = some o → b ≠ fa := fun b o e => Nat.ne_of_lt (Nat.lt_trans (Nat.lt_of_lt_of_le (Heap.lt_size e) hge) hlt)
    have out : ∀ b, b ≠ T → b ≠ c' → b ≠ fa → upd (upd (upd H T (.tbl (ps ++ #[rawInt pos.line, rawInt pos.col, .ref c']))) c' (CodO c' (X.env.qual ++ "<lambda>"))) fa (LamO fa c' (X.env.qual ++ "<lambda>") params body scope cl) b = H b := fun b n1 n2 n3 => by rw [upd_ne n3, upd_ne n2, upd_ne n1]
    have trk : ∀ b o, H b = some o → b ≠ c' ∧ b ≠ fa := fun b o e => ⟨(fun z => by rw [z, hc0] at e; cases e), (fun z => by rw [z, hfa] at e; cases e)⟩
    have HT : upd (upd (upd H T (.tbl (ps ++ #[rawInt pos.line, rawInt pos.col, .ref c']))) c' (CodO c' (X.env.qual ++ "<lambda>"))) fa (LamO fa c' (X.env.qual ++ "<lambda>") params body scope cl) T = some (.tbl (ps ++ #[rawInt pos.line, rawInt pos.col, .ref c'])) := by rw [upd_ne nTf.symm, upd_ne nTc.symm, upd_same]
    have HC : upd (upd (upd H T (.tbl (ps ++ #[rawInt pos.line, rawInt pos.col, .ref c']))) c' (CodO c' (X.env.qual ++ "<lambda>"))) fa (LamO fa c' (X.env.qual ++ "<lambda>") params body scope cl) c' = some (CodO c' (X.env.qual ++ "<lambda>")) := by rw [upd_ne ncf, upd_same]
    have HF : upd (upd (upd H T (.tbl (ps ++ #[rawInt pos.line, rawInt pos.col, .ref c']))) c' (CodO c' (X.env.qual ++ "<lambda>"))) fa (LamO fa c' (X.env.qual ++ "<lambda>") params body scope cl) fa = some (LamO fa c' (X.env.qual ++ "<lambda>") params body scope cl) := upd_same
    generalize upd (upd (upd H T (.tbl (ps ++ #[rawInt pos.line, rawInt pos.col, .ref c']))) c' (CodO c' (X.env.qual ++ "<lambda>"))) fa (LamO fa c' (X.env.qual ++ "<lambda>") params body scope cl) = H2 at *
    have same : ∀ b o, b ≠ T → H b = some o → H2 b = some o := fun b o n e => by rw [out b n (trk b o e).1 (trk b o e).2]; exact e
    have un : Un X.fs [] H H2 s.heap h2 := ⟨fun b o e n _ _ => old b o ((lowT b o e).2 n) e, fun b o e n _ _ => ⟨o.slots, old b o ((lowT b o e).2 n) e⟩, fun b o e n _ => by rw [out b ((lowT b o e).2 n) (lowT b o e).1 (lowF b o e)]; exact n, fun b o e _ => by
      by_cases z : b = T
      · rw [z]; exact ⟨_, eP⟩
      · exact ⟨o, old b o z e⟩, fun b xs e => same b _ (fun z => by rw [z, hT] at e; cases e) e, fun b o u e => same b _ (fun z => by rw [z, hT] at e; cases e) e, fun b qs e => by
      by_cases z : b = T
      · subst z; rw [hT] at e; cases e; exact ⟨_, HT⟩
      · exact ⟨#[], by rw [same b _ z e]; simp⟩⟩
    have hok : HOk X.prog X.w H2 h2 := fun b o e => by
      by_cases zf : b = fa
      · subst zf; rw [HF] at e; cases e
        exact ⟨⟨_, _, eF⟩, ⟨_, eF⟩, fun h1 h3 ⟨pm, cv, e1⟩ k => ⟨pm, cv, k _ e1⟩⟩
      · by_cases zc : b = c'
        · subst zc; rw [HC] at e; cases e
          obtain ⟨c2, o2, vs2, t2, e2, ho2, r2⟩ := id eC
          cases e2
          exact ⟨eC, ⟨_, ho2⟩, fun h1 h3 x k => codeRec_stay x k⟩
        · by_cases zT : b = T
          · subst zT; rw [HT] at e; cases e
            exact eP
          · rw [out b zT zc zf] at e
            refine (I.hok b o e).stay (fun d u hd q => old d u (fun z => ?_) q) (fun d q => same d _ (fun z => by rw [z, hT] at q; cases q) q) fun d xs q => same d _ (fun z => by rw [z, hT] at q; cases q) q
            rcases hd with hd | hd
            · exact zT (hd.symm.trans z)
            · rw [z, hT] at hd; cases hd
    exact ⟨.ref fa, H2, I.un un hok, rfl, h fa c' cl H2 own hfa HF HC ⟨_, HT, by simpa using triples_snoc ps.toList ht, .inr ⟨c', by simpa using codeAmong_snoc ps.toList ht hnf, HC⟩⟩ same⟩
  · refine kla_makeFunctionHit hcl I.ok.glob hg hcode C eT ht hf hb fun ctv h' tk hx hsz => ?_
    have hfa : H h'.objs.size = none := I.hok.fresh hsz
    have same : ∀ b o, H b = some o → upd H h'.objs.size (LamO h'.objs.size c' (X.env.qual ++ "<lambda>") params body scope cl) b = some o := fun b o e => by rw [upd_ne (ne_of_none e hfa)]; exact e
    refine ⟨.ref h'.objs.size, upd H h'.objs.size (LamO h'.objs.size c' (X.env.qual ++ "<lambda>") params body scope cl), I.laid (t' := tk) (fun b u e => Heap.get?_push_of_some _ (hx b u e)) hsz ?_, rfl, h _ c' cl _ own hfa upd_same (same _ _ hc') ⟨ps, same _ _ hT, ht, .inr ⟨c', hf, same _ _ hc'⟩⟩ fun b o _ e => same b o e⟩
    exact ⟨⟨_, _, Heap.get?_push_size _ rfl⟩, ⟨_, Heap.get?_push_size _ rfl⟩, fun h1 h3 ⟨pm, cv, e1⟩ k => ⟨pm, cv, k _ e1⟩⟩
end
end L2
namespace L2
open PySem PySem.Spec PyProof.Rows PySem.W PySem.Calls
noncomputable def addC (h : Heap) (H : Hp) : List (Str × Addr) → List V → Hp
  | q :: cl, v :: vs => upd (addC h H cl vs) q.2 (.frz ((h.get? q.2).getD { cls := .none, data := .plain }) (CelO q.2 v))
  | _, _ => H
theorem addC_out {h : Heap} {H : Hp} {b : Addr} : ∀ {cl : List (Str × Addr)} {vs : List V}, (∀ q ∈ cl, q.2 ≠ b) → addC h H cl vs b = H b
  | [], _, _ => rfl
  | _ :: _, [], _ => rfl
  | q :: cl, v :: vs, n => by
    show upd _ _ _ b = _
    rw [upd_ne (Ne.symm (n q List.mem_cons_self))]
    exact addC_out fun q' hq => n q' (List.mem_cons_of_mem _ hq)
theorem addC_at {h : Heap} {H : Hp} : ∀ {cl : List (Str × Addr)} {vs : List V}, (cl.Pairwise fun x y => x.2 ≠ y.2) → cl.length = vs.length → ∀ (i : Nat) q, cl[i]? = some q → ∃ v, vs[i]? = some v ∧ addC h H cl vs q.2 = some (.frz ((h.get? q.2).getD { cls := .none, data := .plain }) (CelO q.2 v))
  | [], _, _, _, i, q, e => by simp at e
  | _ :: _, [], _, l, _, _, _ => by simp at l
  | a :: cl, v :: vs, pw, l, 0, q, e => by
    cases (Option.some.inj e)
    exact ⟨v, rfl, upd_same⟩
  | a :: cl, v :: vs, pw, l, i + 1, q, e => by
    have e : cl[i]? = some q := by simpa using e
    obtain ⟨u, e1, e2⟩ := addC_at (List.pairwise_cons.mp pw).2 (by simpa using l) i q e
    refine ⟨u, by simpa using e1, ?_⟩
    show upd _ _ _ _ = _
    rw [upd_ne (Ne.symm ((List.pairwise_cons.mp pw).1 q (List.mem_of_getElem? e)))]
    exact e2
def tCalF (ec : List (Str × Addr)) (fv : List Str) (js : List Nat) (sp : Sp) (t : TA) : TE := fun σ H Q => t σ H fun vs H1 => ∃ vcs : List V, js.map (fun j => σ[j]?) = vcs.map (fun v => some (some v)) ∧
  ∀ cl H2, OwnCl ec fv cl → (∀ q ∈ cl, H1 q.2 = none) → CelAt H2 cl vcs → (∀ b, (∀ q ∈ cl, q.2 ≠ b) → H2 b = H1 b) → sp vs H2 (fun v H' => Q v (minC H' cl)) E0
section
variable {X : Cx} {k : Nat} {x : Str} {ps : List Str} {sp : Sp} {p pos : Pos} {e : Expr} {es : List Expr} {t : TA} {fv : List Str} {js : List Nat} {cl : List (Str × Addr)}
theorem pe_calF (c : Callee X.prog X.w X.K X.mg X.base CX0 k x ps sp) (hr : Room k X.A) (hg : Gl X x) (own : OwnCl X.env.cells fv cl) (hj : js.map (fun j => X.N[j]?) = fv.map some) (hk : ∀ n ∈ fv, X.env.scope.names.lookup n = some .cell) (hf : ∀ n ∈ fv, X.fn n = true) (nd : fv.Nodup)
    (ha : PA X (e :: es) t) (hdb : (x == ("__debug__" : Str)) = false := by decide)
    (he : starEach (e :: es) X.env = (false, eval e X.env) :: starEach es X.env := by rfl) (hpl : (backTo pos (starEach es X.env)).any (·.1) = false := by rfl) :
    PE X (.Call (.Name x p) (e :: es) [] pos) (tCalF X.env.cells fv js sp t) := by
  obtain ⟨f, fd, F, hm, kp, hb⟩ := c.has
  intro pins s0 σ H0 Q I0 h
  refine wpAny_Call_Name_kw (ld_glob I0 hg hm ?_ hdb)
  refine PySem.W.callWith_K (h₀ := X.base) I0.ok.mod.kin kp (thn (ha pos pins s0 σ H0 _ I0 h) fun us s ⟨vs, H, I, r, vcs, hv, q⟩ => ⟨I.kIn, ?_⟩) he hpl
  have mfv : ∀ q ∈ cl, q.1 ∈ fv := fun q hq => by rw [← own.1]; exact List.mem_map.mpr ⟨q, hq, rfl⟩
  have free : ∀ q ∈ cl, H q.2 = none := fun q hq => I.freeC q.1 q.2 (own.2 q hq)
  have apart : cl.Pairwise fun x y => x.2 ≠ y.2 := by
    have nd' : (cl.map (·.1)).Nodup := by rw [own.1]; exact nd
    have ec := own.2
    clear own mfv free
    induction cl with
    | nil => exact .nil
    | cons a r ih =>
      refine List.pairwise_cons.mpr ⟨fun y hy z => ?_, ih (List.nodup_cons.mp nd').2 (fun q hq => ec q (List.mem_cons_of_mem _ hq))⟩
      have := I.ok.inj a.1 y.1 a.2 (ec a List.mem_cons_self) (by rw [z]; exact ec y (List.mem_cons_of_mem _ hy))
      exact (List.nodup_cons.mp nd').1 (List.mem_map.mpr ⟨y, hy, this.symm⟩)
  have lf : js.length = fv.length := by have := congrArg List.length hj; simpa using this
  have lv : js.length = vcs.length := by have := congrArg List.length hv; simpa using this
  have lc : cl.length = fv.length := by rw [← own.1, List.length_map]
  have l : cl.length = vcs.length := by rw [lc, ← lf, lv]
  have holds : ∀ (i : Nat) q, cl[i]? = some q → ∃ v u, vcs[i]? = some v ∧ RelV v u ∧ s.heap.IsCell q.2 (some u) := fun i q e => by
    have il : i < cl.length := (List.getElem?_eq_some_iff.mp e).1
    have ej := List.getElem?_eq_getElem (l := js) (i := i) (by omega)
    have ev := List.getElem?_eq_getElem (l := vcs) (i := i) (by omega)
    have en : X.N[js[i]'(by omega)]? = some q.1 := by
      have z := congrArg (fun l => l[i]?) hj
      simp only [List.getElem?_map, ej, Option.map_some] at z
      have y : fv[i]? = some q.1 := by rw [← own.1, List.getElem?_map, e]; rfl
      rw [y] at z
      exact Option.some.inj z
    have eσ : σ[js[i]'(by omega)]? = some (some (vcs[i]'(by omega))) := by
      have z := congrArg (fun l => l[i]?) hv
      simp only [List.getElem?_map, ej, ev, Option.map_some] at z
      exact Option.some.inj z
    obtain ⟨m, _, lo⟩ := I.loc
    have kq := hk q.1 (mfv q (List.mem_of_getElem? e))
    obtain ⟨u, ru, lk⟩ := lo _ _ _ en eσ (.inr (.inl kq))
    refine ⟨_, u, ev, ru, ?_⟩
    rcases lk with ⟨k1, _⟩ | ⟨_, c, ec, ic⟩
    · have k1 : X.env.scope.names.lookup q.1 = some .local := k1
      rw [kq] at k1; cases k1
    · rw [own.2 q (List.mem_of_getElem? e)] at ec
      cases ec; exact ic
  have hat := addC_at (h := s.heap) (H := H) apart l
  have hC : CelAt (addC s.heap H cl vcs) cl vcs := ⟨l, fun i q e => let ⟨v, e1, e2⟩ := hat i q e; ⟨v, _, e1, e2⟩, apart⟩
  have hout : ∀ b, (∀ q ∈ cl, q.2 ≠ b) → addC s.heap H cl vcs b = H b := fun b n => addC_out n
  have split : ∀ b, (∃ q ∈ cl, q.2 = b) ∨ ∀ q ∈ cl, q.2 ≠ b := fun b => by
    by_cases c : ∃ q ∈ cl, q.2 = b
    · exact .inl c
    · exact .inr fun q hq e => c ⟨q, hq, e⟩
  have gobj : ∀ q ∈ cl, ∃ o v, addC s.heap H cl vcs q.2 = some (.frz o (CelO q.2 v)) ∧ s.heap.get? q.2 = some o ∧ ∃ u, RelV v u ∧ s.heap.IsCell q.2 (some u) := fun q hq => by
    obtain ⟨i, e⟩ := List.mem_iff_getElem?.mp hq
    obtain ⟨v, e1, e2⟩ := hat i q e
    obtain ⟨v', u, e3, ru, ic⟩ := holds i q e
    rw [e1] at e3; cases e3
    obtain ⟨o, eo, d⟩ := id ic
    rw [eo] at e2
    exact ⟨o, v, e2, eo, u, ru, ic⟩
  have trk : ∀ b o, H b = some o → addC s.heap H cl vcs b = some o := fun b o e => by
    rw [hout b fun q hq z => by rw [← z, free q hq] at e; cases e]; exact e
  have hok : HOk X.prog X.w (addC s.heap H cl vcs) s.heap := fun b o e => by
    rcases split b with ⟨q, hq, rfl⟩ | hn
    · obtain ⟨o', v, e1, eo, u, ru, ic⟩ := gobj q hq
      rw [e1] at e; cases e
      exact ⟨eo, ⟨u, ru, ic⟩, ⟨_, eo⟩, fun h1 h2 ⟨u, ru, o2, e2, d2⟩ k => ⟨u, ru, o2, k _ e2, d2⟩⟩
    · rw [hout b hn] at e
      exact (I.hok b o e).stay (fun _ _ _ z => z) (fun d z => trk d _ z) fun d xs z => trk d _ z
  have abv : ∀ q ∈ cl, X.s₀.heap.objs.size ≤ q.2 := fun q hq => I.ok.cab q.1 q.2 (hf q.1 (mfv q hq)) (own.2 q hq)
  have nfr : ∀ b ∈ frs X.stack, ∀ q ∈ cl, q.2 ≠ b := fun b hb q hq z => by
    rcases List.mem_cons.mp (I.stkSub b hb) with y | y
    · exact I.cne q.1 q.2 (own.2 q hq) (z.trans y)
    · obtain ⟨_, o, eo, _⟩ := I.ok.funs.mem y
      have := Heap.lt_size eo
      rw [← z] at this
      exact absurd this (Nat.not_lt_of_le (abv q hq))
  have e0 : Env0 X.prog X.w X.K X.mg X.base X.A X.stack s (addC s.heap H cl vcs) := by
    have b0 := I.env0
    refine ⟨b0.frames, b0.mod, fun b o e => ⟨(b0.bs b o e).1, ?_⟩, b0.bsz, b0.funs, fun b hb => ?_, hok, b0.bare⟩
    · rw [hout b fun q hq z => ?_]
      · exact (b0.bs b o e).2
      · have := Heap.lt_size e
        rw [← z] at this
        exact absurd (Nat.lt_of_lt_of_le this I.ok.bsz) (Nat.not_lt_of_le (abv q hq))
    · rw [hout b (nfr b hb)]; exact b0.frf b hb
  have hl : us.length = ps.length := by rw [← r.length]; exact F.len _ _ _ _ (q cl _ own free hC hout)
  have hb' := hb s us I.kIn (by simpa using hl)
  rw [List.append_nil] at hb'
  refine wpAny_call (codeAny_mono (F.run X.A X.stack s (addC s.heap H cl vcs) ⟨us, []⟩ us vs _ E0 hr e0 hb' r (q cl _ own free hC hout)) fun r s' hq => ?_)
  cases r with
  | error e => exact False.elim hq
  | ok fl =>
    cases fl with
    | next => exact False.elim hq
    | brk => exact False.elim hq
    | cont => exact False.elim hq
    | ret u =>
      obtain ⟨v, H', os, bare, un, hok', rv, q'⟩ := hq
      have hC' : CelAt H' cl vcs := ⟨l, fun i q e => let ⟨v, o, e1, e2⟩ := hC.at_ i q e; ⟨v, o, e1, un.frzs _ _ _ e2⟩, apart⟩
      obtain ⟨hh, gg, dd, tt, os'⟩ := s'
      obtain rfl : os' = s.os := os
      have un2 : Un (frs X.stack) [] H (minC H' cl) s.heap hh := by
        refine ⟨fun b o e n hb hx => ?_, fun b o e n hb hx => ?_, fun b o e n hx => ?_, un.there, fun b xs e => ?_, fun b o u e => ?_, fun b qs e => ?_⟩
        · rcases split b with ⟨q, hq, rfl⟩ | hn
          · obtain ⟨o', v', e1, eo, _⟩ := gobj q hq
            rw [e] at eo; cases eo
            exact (hok' _ _ (un.frzs _ _ _ e1)).1
          · exact un.keep b o e (by rw [hout b hn]; exact n) hb hx
        · exact un.slot b o e (by rw [hout b (nfr b hb)]; exact n) hb hx
        · rcases split b with ⟨q, hq, rfl⟩ | hn
          · exact minC_in hq
          · exact minC_none (un.free b o e (by rw [hout b hn]; exact n) hx)
        · have hn : ∀ q ∈ cl, q.2 ≠ b := fun q hq z => by rw [← z, free q hq] at e; cases e
          rw [minC_out hn]; exact un.tups b xs (trk b _ e)
        · have hn : ∀ q ∈ cl, q.2 ≠ b := fun q hq z => by rw [← z, free q hq] at e; cases e
          rw [minC_out hn]; exact un.frzs b o u (trk b _ e)
        · have hn : ∀ q ∈ cl, q.2 ≠ b := fun q hq z => by rw [← z, free q hq] at e; cases e
          rw [minC_out hn]; exact un.tbls b qs (trk b _ e)
      exact ⟨v, minC H' cl, I.call (h' := hh) (g' := gg) (d' := dd) (t' := tt) (ch := []) un2 (hok'.minC hC') bare (fun b z => absurd z (by simp)), rv, q'⟩
end
theorem Fun.okTX {P : Program} {w : World} {K : PySem.W.Frag} {mg : Str → Option Value} {base : Heap} {x qual : Str} {st : Stmt} {f c : Addr} {fd : FuncData} {N ps : List Str} {k : Nat} {sp : Sp} (F : Fun K x qual st f fd) (hcd : fd.code = .ref c) (S : FnScope N ps (defScope st)) (len : ∀ vs H Q E, sp vs H Q E → vs.length = ps.length)
    (hbody : ∀ (A : Around) (outer : List Env) (s : Shared) (H : Hp) (vs : List V) (Q : VK) (E : XK), Room k (A.deeper (envOfC qual (defScope st) s.heap.objs.size f (.ref c))) → sp vs H Q E →
      ∃ t, PSs (cxOf (CX1 P w) P w K mg base N qual (defScope st) f (.ref c) A outer s H E) (defBody st) t ∧ t { nx := fun _ H' => Q .non H', rt := Q } (start N vs) H) : FnOk P w K mg base (CX1 P w) (k + 1) f fd ps sp := by
  obtain ⟨oc, od, kV, doc, pm, an, cdv, ct, osl, rfl, lk, hc⟩ := F.ex
  obtain rfl : cdv = .ref c := hcd
  exact fn_of lk hc S len fun A outer s H vs Q E hr hsp => hbody A outer s H vs Q E hr hsp
end L2
namespace L2
open PySem PySem.Spec PyProof.Rows PySem.W PySem.Calls
theorem law_callT {P : Program} {w : World} {K : PySem.W.Frag} {mg mb : Str → Option Value} {CX : CXT} {k : Nat} {fa a : Addr} {fd : FuncData} {x : Str} {sp : Sp} {s₁ : Shared} {vs : List Value} {ns : List Int} (tbs : List (Addr × Addr))
    (hT : TabsAt tbs s₁.heap) (hK0 : noTabs K = true) (hbm : ∃ bm ob, mg "__builtins__" = some (.ref bm) ∧ bm ≠ builtinsNs ∧ s₁.heap.get? bm = some ob ∧ ob.cls = .type "module" ∧ ob.dict = some builtinsNs ∧ ob.data = .plain)
    (KX : K.In s₁.heap) (hns : s₁.heap.Ns mainGlobals mg) (hb : s₁.heap.Ns builtinsNs mb) (hbb : ∀ x : Str, x ≠ "__name__" → mb x = bootBuiltins x) (hlim : s₁.heap.NoLimit) (hg : s₁.gens = #[])
    (ha : s₁.heap.get? a = some { cls := .type "list", data := .seq vs.toArray }) (hi : IntsAre vs ns) (hl : ns.length ≤ sizeLine) (hr : Room k callerA)
    (F : ∀ base : Heap, K.In base → base.Ns mainGlobals mg → (∀ q ∈ tbs, TabF base mg q.1 q.2) → FnOk P w K mg base CX k fa fd [x] sp) (hbind : ∀ (s : Shared) (u : Value), BindsTo s fd ⟨[u], []⟩ [(x, u)])
    (hsp : ∀ H : Hp, (∀ q ∈ tbs, H q.2 = some (.tbl #[])) → SqL K H a (ns.map V.int) → sp [.ref a] H (fun v _ => v = .bl true) fun _ _ _ => False)
    (hCX : ∀ H e s', CX [] H s₁ (fun _ _ _ => False) e s' → False) :
    codeAny (model P w) callerA (.call (.ref fa) ⟨[.ref a], []⟩) (fun r s' => r = .ok (.ret (.bool true)) ∧ OldK s₁.heap s'.heap ∧ s'.os = s₁.os ∧ AllBare s'.gens) s₁ := by
  have rv := vals_ints hi
  have lenV := hi.length
  have tab : ∀ q ∈ tbs, s₁.heap.get? q.2 = some (tabObj #[]) := fun q hq => (hT q hq).2
  have naT : ∀ q ∈ tbs, q.2 ≠ a := fun q hq z => by
    have e := tab q hq
    rw [z, ha] at e; cases e
  have kT : ∀ q ∈ tbs, K.lookup q.2 = none := fun q hq => by
    cases e : K.lookup q.2 with
    | none => rfl
    | some o =>
      have e1 := KX _ _ e
      rw [tab q hq] at e1
      have h2 := List.all_eq_true.mp hK0 (q.2, o) (mem_of_lookupK e)
      cases e1
      exact absurd (show false = true from h2) Bool.false_ne_true
  have core : ∀ H : Hp, (∀ q ∈ tbs, H q.2 = some (.tbl #[])) → (∀ b, H b = none ∨ (∃ o xs, H b = some (.frz o (.lst xs))) ∨ ∃ q ∈ tbs, q.2 = b) → SqL K H a (ns.map V.int) → HOk P w H s₁.heap → (∀ b, H b ≠ none → b = a ∨ ∃ q ∈ tbs, q.2 = b) → (H a ≠ none → K.lookup a = none) →
      codeAny (model P w) callerA (.call (.ref fa) ⟨[.ref a], []⟩) (fun r s' => r = .ok (.ret (.bool true)) ∧ OldK s₁.heap s'.heap ∧ s'.os = s₁.os ∧ AllBare s'.gens) s₁ := by
    intro H hH hO hS hok hA hK
    have base_of : ∀ {b : Addr} {o : Obj}, s₁.heap.get? b = some o → H b = none → (hidT s₁.heap H).get? b = some o := fun e n => hidT_get e n
    have noA : ∀ {b : Addr} {o : Obj}, s₁.heap.get? b = some o → o ≠ { cls := .type "list", data := .seq vs.toArray } → o ≠ tabObj #[] → H b = none := fun {b o} e n1 n2 => by
      cases q : H b with
      | none => rfl
      | some u =>
        rcases hA b (by rw [q]; simp) with z | ⟨p, hp, z⟩
        · subst z; rw [ha] at e; cases e; exact absurd rfl n1
        · subst z; rw [tab p hp] at e; cases e; exact absurd rfl n2
    have nsK : ∀ {b : Addr} {m : Str → Option Value}, s₁.heap.Ns b m → (hidT s₁.heap H).Ns b m := fun {b m} ⟨o, es, ep, e, d, r⟩ => ⟨o, es, ep, base_of e (noA e (fun z => by rw [z] at d; cases d) (fun z => by rw [z] at d; cases d)), d, r⟩
    have hKb : K.In (hidT s₁.heap H) := fun b o e => base_of (KX b o e) (by
      cases q : H b with
      | none => rfl
      | some u =>
        rcases hA b (by rw [q]; simp) with z | ⟨p, hp, z⟩
        · subst z; rw [hK (by rw [q]; simp)] at e; cases e
        · subst z; rw [kT p hp] at e; cases e)
    have hM : Mod K mg (hidT s₁.heap H) := ⟨hKb, nsK hns, ⟨mb, nsK hb, hbb⟩, let ⟨mc, h1, h2⟩ := hlim; ⟨mc, nsK h1, h2⟩⟩
    have e0 : Env0 P w K mg (hidT s₁.heap H) callerA [] s₁ H := ⟨rfl, hM, fun b o e => of_hidT e, Nat.le_of_eq (hidT_size _ _), trivial, fun b hb => absurd (show b ∈ ([] : List Addr) from hb) (by simp), hok, .of_eq hg⟩
    have tf : ∀ q ∈ tbs, TabF (hidT s₁.heap H) mg q.1 q.2 := fun q hq => by
      obtain ⟨o, vs', file, tf, flags, tg, inF, text, tt, e1, r1, r2⟩ := (hT q hq).1
      obtain ⟨bm, ob, b1, b2, b3, b4, b5, b6⟩ := hbm
      have bmT : bm ≠ q.2 := fun z => by rw [z, tab q hq] at b3; cases b3; cases b4
      have bmG : bm ≠ mainGlobals := fun z => by
        obtain ⟨o, es, ep, e, d, _⟩ := hns
        rw [← z, b3] at e; cases e; rw [b6] at d; cases d
      have gT : mainGlobals ≠ q.2 := fun z => by
        obtain ⟨o, es, ep, e, d, _⟩ := hns
        rw [z, tab q hq] at e; cases e; cases d
      refine ⟨⟨o, vs', file, tf, flags, tg, inF, text, tt, base_of e1 (noA e1 (fun z => by rw [z] at r1; exact absurd (show Value.type "list" = Value.type "code" from r1) (by decide)) (fun z => by rw [z] at r1; cases r1)), r1, r2⟩, ?_, ⟨bm, ob, b1, b2, bmG, bmT, base_of b3 (noA b3 (fun z => by rw [z] at b4; exact absurd (show Value.type "list" = Value.type "module" from b4) (by decide)) (fun z => by rw [z] at b4; cases b4)), b4, b5, b6⟩, gT⟩
      cases e : (hidT s₁.heap H).get? q.2 with
      | none => rfl
      | some o => have := (of_hidT e).2; rw [hH q hq] at this; cases this
    refine codeAny_mono ((F _ hKb (nsK hns) tf).run callerA [] s₁ H ⟨[.ref a], []⟩ [.ref a] [.ref a] _ _ hr e0 (hbind s₁ (.ref a)) (.cons rfl .nil) (hsp H hH hS)) fun r s' h => ?_
    cases r with
    | error e => exact (hCX H e s' h).elim
    | ok fl =>
      cases fl with
      | next => exact False.elim h
      | brk => exact False.elim h
      | cont => exact False.elim h
      | ret u =>
        obtain ⟨v, H', os, bare, un, hok', r', q⟩ := h
        have q' : v = .bl true := q
        subst q'
        obtain rfl : u = Value.bool true := r'
        refine ⟨rfl, ⟨fun b o e => ?_, fun b o e => un.there b o e (by simp)⟩, os, bare⟩
        rcases hO b with z | ⟨ob, xs, z⟩ | ⟨p, hp, z⟩
        · exact .inl (un.keep b o e z (by intro z; exact absurd (show b ∈ ([] : List Addr) from z) (by simp)) (by simp))
        · have z2 := un.frzs b ob _ z
          obtain ⟨e1, _⟩ := hok b _ z
          obtain ⟨e2, _⟩ := hok' b _ z2
          rw [e] at e1; cases e1
          exact .inl e2
        · subst z
          obtain ⟨more, z2⟩ := un.tbls p.2 #[] (hH p hp)
          have e2 : s'.heap.get? p.2 = some (tabObj (#[] ++ more)) := hok' _ _ z2
          have e1 := tab p hp
          rw [e] at e1; cases e1
          obtain ⟨o, vs', file, tf, flags, tg, inF, text, tt, c1, c2, c3, c4, _⟩ := (hT p hp).1
          exact .inr (.inl ⟨⟨p.1, o, vs', c1, c2, c3, c4⟩, rfl, #[], more, rfl, e2⟩)
  have withT : ∀ H : Hp, (∀ b, H b = none ∨ ∃ o xs, H b = some (.frz o (.lst xs))) → SqL K H a (ns.map V.int) → HOk P w H s₁.heap → (∀ b, H b ≠ none → b = a) → (H a ≠ none → K.lookup a = none) →
      codeAny (model P w) callerA (.call (.ref fa) ⟨[.ref a], []⟩) (fun r s' => r = .ok (.ret (.bool true)) ∧ OldK s₁.heap s'.heap ∧ s'.os = s₁.os ∧ AllBare s'.gens) s₁ := by
    intro H hO hS hok hA hK
    have inT : ∀ q ∈ tbs, (fun b => if (tbs.any fun q => q.2 == b) = true then some (HO.tbl #[]) else H b) q.2 = some (.tbl #[]) := fun q hq => if_pos (List.any_eq_true.mpr ⟨q, hq, by simp⟩)
    have split : ∀ b, (∃ q ∈ tbs, q.2 = b) ∨ (fun b => if (tbs.any fun q => q.2 == b) = true then some (HO.tbl #[]) else H b) b = H b := fun b => by
      by_cases c : (tbs.any fun q => q.2 == b) = true
      · obtain ⟨q, hq, e⟩ := List.any_eq_true.mp c
        exact .inl ⟨q, hq, eq_of_beq e⟩
      · exact .inr (if_neg c)
    have aT : (fun b => if (tbs.any fun q => q.2 == b) = true then some (HO.tbl #[]) else H b) a = H a := by
      rcases split a with ⟨q, hq, z⟩ | z
      · exact absurd z (naT q hq)
      · exact z
    generalize (fun b => if (tbs.any fun q => q.2 == b) = true then some (HO.tbl #[]) else H b) = G at *
    have noneT : ∀ q ∈ tbs, H q.2 = none := fun q hq => by
      cases e : H q.2 with
      | none => rfl
      | some u => exact absurd (hA q.2 (by rw [e]; simp)) (naT q hq)
    refine core G inT (fun b => ?_) ?_ (fun b o e => ?_) (fun b n => ?_) (fun n => hK (by rw [← aT]; exact n))
    · rcases split b with z | z
      · exact .inr (.inr z)
      · rw [z]; rcases hO b with y | y
        · exact .inl y
        · exact .inr (.inl y)
    · rcases hS with (z | ⟨o, z⟩) | z
      · exact .inl (.inl (by rw [aT]; exact z))
      · exact .inl (.inr ⟨o, by rw [aT]; exact z⟩)
      · exact .inr z
    · rcases split b with ⟨q, hq, z⟩ | z
      · subst z; rw [inT q hq] at e; cases e; exact tab q hq
      · rw [z] at e
        rcases hO b with y | ⟨ob, xs, y⟩
        · rw [y] at e; cases e
        · rw [y] at e; cases e
          obtain ⟨e1, l, its, n, r, e2⟩ := hok b _ y
          exact ⟨e1, l, its, n, r, e2⟩
    · rcases split b with z | z
      · exact .inr z
      · rw [z] at n; exact .inl (hA b n)
  cases hk : K.lookup a with
  | some o =>
    have e := KX a o hk
    rw [ha] at e
    cases e
    refine withT (fun _ => none) (fun _ => .inl rfl) (.inr ⟨_, vs.toArray, _, hk, rfl, rfl, rfl, by rw [List.size_toArray, lenV]; exact hl, by simpa using rv⟩) (fun b u z => by have z' : (none : Option HO) = some u := z; cases z') (fun b z => absurd rfl z) fun z => absurd rfl z
  | none =>
    refine withT (fun b => if b = a then some (.frz { cls := .type "list", data := .seq vs.toArray } (.lst (ns.map V.int))) else none) (fun b => ?_) (.inl (.inr ⟨{ cls := .type "list", data := .seq vs.toArray }, if_pos rfl⟩)) (fun b u z => ?_) (fun b z => ?_) fun _ => hk
    · by_cases hb : b = a
      · exact .inr ⟨_, _, if_pos hb⟩
      · exact .inl (if_neg hb)
    · by_cases hb : b = a
      · have z' := (if_pos hb).symm.trans z
        cases z'
        subst hb
        exact ⟨ha, by rw [List.length_map]; exact hl, vs, _, rv, ha⟩
      · have z' := (if_neg hb).symm.trans z
        cases z'
    · by_cases hb : b = a
      · exact hb
      · exact absurd (if_neg hb) z
theorem tabIn_of {K : PySem.W.Frag} {x : Str} {f c T : Addr} {oc oc2 : Value} {od od2 : Option Addr} {fd : FuncData} {sl sl2 : Array (Option Value)} {vs : Array Value} (h1 : nsIn K mainGlobals x = some (some (.ref f))) (h2 : K.lookup f = some ⟨oc, od, .func fd, sl⟩) (h3 : fd.code = .ref c) (h4 : K.lookup c = some ⟨oc2, od2, .fields vs, sl2⟩) (h5 : vs[11]? = some (.ref T)) : tabIn K x = some (c, T) := by
  unfold tabIn
  simp only [h1, h2, h3, h4, h5]
theorem walk_ofT {l : PySem.W.OpenLaw} {n k : Nat} {q : Program} {loose : List Str} {XP : (Str → Option Value) → Heap → Prop} {YP : World → Heap → Prop} {d : DefRec} {K : Params → PySem.W.Frag} {CX : World → CXT} {sp : World → List Addr → Sp} {x : Str}
    (hn : l.most = some n) (hn2 : n ≤ sizeLine) (hdf : d.params.defaults = []) (hr : Room k callerA)
    (hY : ∀ (w : World) (h : Heap), YP w h → (K w.params).In h) (hK0 : ∀ w : World, noTabs (K w.params) = true)
    (F : ∀ (w : World) (mg : Str → Option Value) (fa : Addr) (h : Heap), (K w.params).In h → h.Ns mainGlobals mg → mg d.name = some (.ref fa) →
      ∃ (fd : FuncData) (tbs : List (Str × Addr × Addr)), (∀ p ∈ tbs, tabIn (K w.params) p.1 = some p.2 ∧ ((recsOf q).find? fun e => e.name == p.1).isSome = true) ∧ (∀ (s : Shared) (u : Value), BindsTo s fd ⟨[u], []⟩ [(x, u)]) ∧
        ∀ base : Heap, (K w.params).In base → base.Ns mainGlobals mg → (∀ p ∈ tbs, TabF base mg p.2.1 p.2.2) → FnOk l.prog w (K w.params) mg base (CX w) k fa fd [x] (sp w (tbs.map fun p => p.2.2)))
    (hsp : ∀ (w : World) (H : Hp) (a : Addr) (ns : List Int) (ts : List Addr), ns.length ≤ n → (∀ T ∈ ts, H T = some (.tbl #[])) → SqL (K w.params) H a (ns.map V.int) → sp w ts [.ref a] H (fun v _ => v = .bl true) fun _ _ _ => False)
    (hCX : ∀ (w : World) (H : Hp) (s : Shared) (e : Value) (s' : Shared), CX w [] H s (fun _ _ _ => False) e s' → False) :
    PySem.W.WalkO q loose XP YP l.row.toRowW d [] (fun f vs => PySem.call f vs) := by
  refine Att.attach_call hn hdf fun w s₀ s₁ mg mb fa o pm cd doc a vs ns G Y ho hd hcd hmg hobj hints hlen hg => ?_
  have KX := hY w _ Y
  obtain ⟨fd, tbs, ht, hb, hF⟩ := F w mg fa _ KX G.T.g hmg
  have hT : TabsAt (tbs.map (·.2)) s₁.heap := fun p hp => by
    obtain ⟨t, htm, rfl⟩ := List.mem_map.mp hp
    obtain ⟨h1, h2⟩ := ht t htm
    obtain ⟨d', hd'⟩ := Option.isSome_iff_exists.mp h2
    exact tab_of G.T KX hd' (show tabIn (K w.params) t.1 = some (t.2.1, t.2.2) from h1)
  refine law_callT (tbs.map (·.2)) hT (hK0 w) G.T.bmain KX G.T.g G.T.b G.T.builtins G.T.nolimit hg hobj hints (Nat.le_trans hlen hn2) hr (fun base kb nb tf => hF base kb nb fun p hp => tf p.2 (List.mem_map.mpr ⟨p, hp, rfl⟩)) hb (fun H hH hS => hsp w H a ns _ hlen (fun T hT => ?_) hS) fun H e s' => hCX w H s₁ e s'
  obtain ⟨t, htm, rfl⟩ := List.mem_map.mp hT
  exact hH t.2 (List.mem_map.mpr ⟨t, htm, rfl⟩)
end L2
namespace L2
open PySem PySem.Spec PyProof.Rows PySem.W PySem.Calls
theorem pe_calVK {X : Cx} {P : Program} {w : World} {K : PySem.W.Frag} {mg : Str → Option Value} {base : Heap} {k i : Nat} {x : Str} {p pos : Pos} {e : Expr} {es : List Expr} {t : TA} (e1 : X.prog = P) (e2 : X.w = w) (e3 : X.K = K) (e4 : X.mg = mg) (e5 : X.base = base) (hr : Room k X.A) (hN : X.N[i]? = some x) (hv : Vis X.env.scope x) (ha : PA X (e :: es) t)
    (hd : (x == ("__debug__" : Str)) = false := by decide) (hcd : (x == ("__classdict__" : Str)) = false := by decide)
    (he : starEach (e :: es) X.env = (false, eval e X.env) :: starEach es X.env := by rfl) (hpl : (backTo pos (starEach es X.env)).any (·.1) = false := by rfl) :
    PE X (.Call (.Name x p) (e :: es) [] pos) (tCalV P w K mg base k i t) := by
  subst e1 e2 e3 e4 e5
  exact pe_calV hr hN hv ha hd hcd he hpl
theorem CallV.mono {P : Program} {w : World} {K : PySem.W.Frag} {mg : Str → Option Value} {base : Heap} {j k : Nat} {fa : Addr} {vs : List V} {H : Hp} {Q : VK} (h : CallV P w K mg base j fa vs H Q) (l : j ≤ k) : CallV P w K mg base k fa vs H Q :=
  fun A outer s us hr e0 r => h A outer s us (hr.mono l) e0 r
end L2
namespace L2
open PySem PySem.Spec PyProof.Rows
def LoopE (K : PySem.W.Frag) (g : TG) (tb : TS) (D : Ends) (σ : St) (v : V) (H1 : Hp) : Prop := ∃ a xs, v = .ref a ∧ SqT K H1 a xs ∧ ∃ W : Nat → Nat → St → Hp → Prop, (∃ m, W 0 m σ H1) ∧ ∀ i m σ H, W i m σ H →
  ((Ite K a).stop i H ∧ D.nx σ H) ∨ ((Ite K a).go i H ∧ ∃ N : St → Hp → Prop, (∀ σ' H', N σ' H' → ∃ m', m' < m ∧ W (i + 1) m' σ' H') ∧ ∀ x H', (Ite K a).yld i H x H' → g x σ H' fun σ2 H2 => tb { D with nx := N, ct := N, bk := D.nx } σ2 H2)
theorem for_eqE {K : PySem.W.Frag} {te : TE} {g : TG} {tb : TS} {D : Ends} {σ : St} {H : Hp} : tFor (iEnum K te) g tb D σ H = te σ H fun v H1 => LoopE K g tb D σ v H1 := rfl
theorem LoopE.mk {K : PySem.W.Frag} {a : Addr} {xs : List V} {g : TG} {tb : TS} {D : Ends} {σ : St} {H : Hp} (h1 : SqT K H a xs) (Pv : Nat → St → Hp → Prop) (h0 : Pv 0 σ H) (hl : ∀ i σ H, i ≤ xs.length → Pv i σ H → SqT K H a xs)
    (hs : ∀ i x σ H T, xs[i]? = some x → Pv i σ H → H T = none → g (.ref T) σ (upd H T (.tup [.int i, x])) fun σ2 H2 => tb { D with nx := Pv (i + 1), ct := Pv (i + 1), bk := D.nx } σ2 H2) (hd : ∀ σ H, Pv xs.length σ H → D.nx σ H) :
    LoopE K g tb D σ (.ref a) H := by
  refine ⟨a, xs, rfl, h1, fun i m σ H => m = xs.length - i ∧ i ≤ xs.length ∧ Pv i σ H, ⟨_, rfl, Nat.zero_le _, h0⟩, ?_⟩
  rintro i m σ H ⟨rfl, hi, p⟩
  have k1 := hl i σ H hi p
  by_cases hlt : i < xs.length
  · refine .inr ⟨⟨xs, _, k1, List.getElem?_eq_getElem hlt⟩, Pv (i + 1), fun σ' H' p' => ⟨xs.length - (i + 1), by omega, rfl, hlt, p'⟩, fun v H' yy => ?_⟩
    obtain ⟨T, x, rfl, hT, rfl, ex⟩ := yy
    exact hs i x σ H T (ex xs k1) p hT
  · have e : i = xs.length := by omega
    exact .inl ⟨⟨xs, k1, by omega⟩, hd σ H (e ▸ p)⟩
theorem eqU_at {x : V} : ∀ {xs : List V} {us : List Value}, Vals xs us → xs.all flatV = true → ∀ (j : Nat) (h1 : j < xs.length) (h2 : j < us.length), eqU x us[j] = eqV xs[j] x
  | y :: xs, u :: us, .cons r t, f, j, h1, h2 => by
    rw [List.all_cons, Bool.and_eq_true] at f
    cases j with
    | zero => exact eqU_of r f.1
    | succ j => exact eqU_at t f.2 j (Nat.lt_of_succ_lt_succ h1) (Nat.lt_of_succ_lt_succ h2)
section
variable {X : Cx}
def rIndex (K : PySem.W.Frag) : V → List V → Hp → VK → Prop := fun x ys H Q => ∃ a xs y j, x = .ref a ∧ ys = [y] ∧ SqL K H a xs ∧ xs.all flatV = true ∧ flatV y = true ∧ (∃ z, xs[j]? = some z ∧ eqV z y = true) ∧ (∀ m z, m < j → xs[m]? = some z → eqV z y = false) ∧ Q (.int (j : Nat)) H
theorem mt_index : MtR X "list.index" (rIndex X.K) := by
  intro pins s σ H x ys v us Q I rx rv h
  obtain ⟨a, xs, y, j, rfl, rfl, ha, hfl, fy, ⟨z, ez, hz⟩, hn, q⟩ := h
  cases rx
  obtain ⟨u, rfl, ru⟩ := vals1 rv
  obtain ⟨its, r', pl, zl⟩ := I.list ha
  have hlen := r'.length
  obtain ⟨⟨oc, od, odt, osl⟩, g1, hc, n, hd⟩ := pl.isList
  simp only at hc hd
  subst hc hd
  have jl := (List.getElem?_eq_some_iff.mp ez).1
  have jl2 : j < its.length := by omega
  have big : (sizeLine : Int) < 2 ^ 63 - 1 := by decide +kernel
  refine call_meets F.slot_list_index ⟨_, g1, rfl⟩ F.entry_list_index (F.args_list_index_2 _ _) (SeqAt.list_indexAt a its.toArray n od osl u (eqU y) j (by simpa using jl2) (by omega) ?_ ?_) ⟨g1, fun w hw => mem_eqAt ru fy r' hfl w (by simpa using hw), ?_⟩
  · show eqU y its[j] = true
    rw [eqU_at r' hfl j jl jl2]
    rw [List.getElem?_eq_getElem jl] at ez
    cases (Option.some.inj ez); exact hz
  · intro m hm hlt
    show eqU y its[m] = false
    have ml : m < xs.length := by simp only [List.size_toArray] at hm; omega
    rw [eqU_at r' hfl m ml (by simpa using hm)]
    exact hn m _ hlt (List.getElem?_eq_getElem ml)
  · exact ⟨.int _, H, I.tok _, ⟨_, rfl⟩, q⟩
end
end L2
namespace L2
open PySem PySem.Spec PyProof.Rows
section
variable {pg : Program} {wd : World} {B : Around} {X0 : Value → Shared → Prop} {s0 : Shared}
end
def ItzN (K : PySem.W.Frag) (a b : Addr) : It := ⟨fun i H => ∃ xs ys x y, SqT K H a xs ∧ SqL K H b ys ∧ xs[i]? = some x ∧ ys[i]? = some y,
  fun i H v H' => ∃ T x y, v = .ref T ∧ H T = none ∧ H' = upd H T (.tup [x, y]) ∧ ∀ xs ys, SqT K H a xs → SqL K H b ys → xs[i]? = some x ∧ ys[i]? = some y, fun i H => ∃ xs ys, SqT K H a xs ∧ SqL K H b ys ∧ (xs.length ≤ i ∨ ys.length ≤ i)⟩
section
variable {X : Cx} {es : List Expr} {x1 : Nat} {pp : Pos}
def iZipN (K : PySem.W.Frag) (ta : TA) : TI := fun σ H R => ta σ H fun vs H1 => ∃ a b xs ys, vs = [.ref a, .ref b] ∧ SqT K H1 a xs ∧ SqL K H1 b ys ∧ R (ItzN K a b) H1
end
def LoopZN (K : PySem.W.Frag) (g : TG) (tb : TS) (D : Ends) (σ : St) (vs : List V) (H1 : Hp) : Prop := ∃ a b xs ys, vs = [.ref a, .ref b] ∧ SqT K H1 a xs ∧ SqL K H1 b ys ∧ ∃ W : Nat → Nat → St → Hp → Prop, (∃ m, W 0 m σ H1) ∧ ∀ i m σ H, W i m σ H →
  ((ItzN K a b).stop i H ∧ D.nx σ H) ∨ ((ItzN K a b).go i H ∧ ∃ N : St → Hp → Prop, (∀ σ' H', N σ' H' → ∃ m', m' < m ∧ W (i + 1) m' σ' H') ∧ ∀ x H', (ItzN K a b).yld i H x H' → g x σ H' fun σ2 H2 => tb { D with nx := N, ct := N, bk := D.nx } σ2 H2)
theorem for_eqZN {K : PySem.W.Frag} {ta : TA} {g : TG} {tb : TS} {D : Ends} {σ : St} {H : Hp} : tFor (iZipN K ta) g tb D σ H = ta σ H fun vs H1 => LoopZN K g tb D σ vs H1 := rfl
theorem LoopZN.mk {K : PySem.W.Frag} {a b : Addr} {xs ys : List V} {g : TG} {tb : TS} {D : Ends} {σ : St} {H : Hp} (n : Nat) (hn : n = min xs.length ys.length) (h1 : SqT K H a xs) (h2 : SqL K H b ys) (Pv : Nat → St → Hp → Prop) (h0 : Pv 0 σ H) (hl : ∀ i σ H, i ≤ n → Pv i σ H → SqT K H a xs ∧ SqL K H b ys)
    (hs : ∀ i x y σ H T, i < n → xs[i]? = some x → ys[i]? = some y → Pv i σ H → H T = none → g (.ref T) σ (upd H T (.tup [x, y])) fun σ2 H2 => tb { D with nx := Pv (i + 1), ct := Pv (i + 1), bk := D.nx } σ2 H2) (hd : ∀ σ H, Pv n σ H → D.nx σ H) :
    LoopZN K g tb D σ [.ref a, .ref b] H := by
  subst hn
  refine ⟨a, b, xs, ys, rfl, h1, h2, fun i m σ H => m = min xs.length ys.length - i ∧ i ≤ min xs.length ys.length ∧ Pv i σ H, ⟨_, rfl, Nat.zero_le _, h0⟩, ?_⟩
  rintro i m σ H ⟨rfl, hi, p⟩
  obtain ⟨k1, k2⟩ := hl i σ H hi p
  by_cases hlt : i < min xs.length ys.length
  · have l1 : i < xs.length := by omega
    have l2 : i < ys.length := by omega
    refine .inr ⟨⟨xs, ys, _, _, k1, k2, List.getElem?_eq_getElem l1, List.getElem?_eq_getElem l2⟩, Pv (i + 1), fun σ' H' p' => ⟨min xs.length ys.length - (i + 1), by omega, rfl, hlt, p'⟩, fun v H' yy => ?_⟩
    obtain ⟨T, x, y, rfl, hT, rfl, ex⟩ := yy
    obtain ⟨ex1, ex2⟩ := ex xs ys k1 k2
    exact hs i x y σ H T hlt ex1 ex2 p hT
  · have e : i = min xs.length ys.length := by omega
    exact .inl ⟨⟨xs, ys, k1, k2, by omega⟩, hd σ H (e ▸ p)⟩
def CompZN (K : PySem.W.Frag) (k : Nat) (js : List Nat) (g : TG) (te : TE) (σ : St) (vs : List V) (H1 : Hp) (Q : VK) : Prop := ∃ a b xs ys, vs = [.ref a, .ref b] ∧ SqT K H1 a xs ∧ SqL K H1 b ys ∧ ∃ W : Nat → Nat → List V → St → Hp → Prop, (∃ m, W 0 m [] (compSt k js σ) H1) ∧ ∀ i m zs σ' H', W i m zs σ' H' →
    ((ItzN K a b).stop i H' ∧ ∀ p, H' p = none → Q (.ref p) (upd H' p (.lst zs))) ∨
    ((ItzN K a b).go i H' ∧ zs.length < sizeLine ∧ ∃ N : List V → St → Hp → Prop, (∀ zs σ2 H2, N zs σ2 H2 → ∃ m', m' < m ∧ W (i + 1) m' zs σ2 H2) ∧ ∀ x H2, (ItzN K a b).yld i H' x H2 → g x σ' H2 fun σ3 H3 => te σ3 H3 fun v H4 => N (zs ++ [v]) σ3 H4)
theorem comp_eqZN {K : PySem.W.Frag} {k : Nat} {js : List Nat} {ta : TA} {g : TG} {te : TE} {σ : St} {H : Hp} {Q : VK} : tComp (iZipN K ta) k js g te σ H Q = ta σ H fun vs H1 => CompZN K k js g te σ vs H1 Q := rfl
theorem CompZN.mk {K : PySem.W.Frag} {a b : Addr} {xs ys : List V} {k : Nat} {js : List Nat} {g : TG} {te : TE} {Q : VK} {σ : St} {H : Hp} (n : Nat) (hn : n = min xs.length ys.length) (h1 : SqT K H a xs) (h2 : SqL K H b ys) (Pv : Nat → List V → St → Hp → Prop) (h0 : Pv 0 [] (compSt k js σ) H) (hl : ∀ i zs σ H, i ≤ n → Pv i zs σ H → SqT K H a xs ∧ SqL K H b ys)
    (hs : ∀ i x y zs σ H T, i < n → xs[i]? = some x → ys[i]? = some y → Pv i zs σ H → H T = none → zs.length < sizeLine ∧ g (.ref T) σ (upd H T (.tup [x, y])) fun σ3 H3 => te σ3 H3 fun v H4 => Pv (i + 1) (zs ++ [v]) σ3 H4) (hz : ∀ zs σ H, Pv n zs σ H → ∀ p, H p = none → Q (.ref p) (upd H p (.lst zs))) (hlen : ∀ i zs σ H, Pv i zs σ H → zs.length < sizeLine) :
    CompZN K k js g te σ [.ref a, .ref b] H Q := by
  subst hn
  refine ⟨a, b, xs, ys, rfl, h1, h2, fun i m zs σ H => m = min xs.length ys.length - i ∧ i ≤ min xs.length ys.length ∧ Pv i zs σ H, ⟨_, rfl, Nat.zero_le _, h0⟩, ?_⟩
  rintro i m zs σ H ⟨rfl, hi, p⟩
  obtain ⟨k1, k2⟩ := hl i zs σ H hi p
  by_cases hlt : i < min xs.length ys.length
  · have l1 : i < xs.length := by omega
    have l2 : i < ys.length := by omega
    refine .inr ⟨⟨xs, ys, _, _, k1, k2, List.getElem?_eq_getElem l1, List.getElem?_eq_getElem l2⟩, hlen _ _ _ _ p, Pv (i + 1), fun zs' σ' H' p' => ⟨min xs.length ys.length - (i + 1), by omega, rfl, hlt, p'⟩, fun v H' yy => ?_⟩
    obtain ⟨T, x, y, rfl, hT, rfl, ex⟩ := yy
    obtain ⟨ex1, ex2⟩ := ex xs ys k1 k2
    exact (hs i x y zs σ H T hlt ex1 ex2 p hT).2
  · have e : i = min xs.length ys.length := by omega
    exact .inl ⟨⟨xs, ys, k1, k2, by omega⟩, hz zs σ H (e ▸ p)⟩
end L2
namespace L2
open PySem PySem.Spec PyProof.Rows
abbrev IsTrip (h : Heap) (T : Addr) (a b c : Value) : Prop := h.get? T = some { cls := .type "tuple", data := .seq #[a, b, c] }
theorem upd_trip {prog : Program} {w : World} {A : Around} {E : Value → Shared → Prop} {s : Shared} {T : Addr} {a b c x : Value} {k : Nat} {Q : Unit → Shared → Prop} (hT : IsTrip s.heap T a b c)
    (h : ∀ h', h'.get? T = some { cls := .type "tuple", data := .seq ((#[a, b, c] : Array Value).setIfInBounds k x) } → Heap.SameBut T s.heap h' → Q () { s with heap := h' }) :
    wpAny (model prog w) A (updateSeq T (·.setIfInBounds k x)) Q E s := by
  refine wpAny_updateSeq hT rfl (h _ ?_ (Heap.SameBut.update ..))
  rw [Heap.get?_update_self _ hT rfl]; simp [Obj.mapSeq]
theorem vals_thr {x y z : V} {us : List Value} (r : Vals [x, y, z] us) : ∃ u v t, us = [u, v, t] ∧ RelV x u ∧ RelV y v ∧ RelV z t := by
  cases r with
  | cons r1 r2 => cases r2 with
    | cons r3 r4 => cases r4 with
      | cons r5 r6 => cases r6; exact ⟨_, _, _, rfl, r1, r3, r5⟩
theorem tc_zip3 (a b c : Value) : checkTypeCall "zip" ⟨[a, b, c], []⟩ = pure () := by kernel_rfl
theorem nc_zip3 (a b c : Value) : checkBuiltinCall "zip.__new__" ⟨[.type "zip", a, b, c], []⟩ = pure () := by kernel_rfl
theorem oi_4 (a b c d : Value) : argsOk "object.__init__" ⟨[a, b, c, d], []⟩ := by
  unfold argsOk
  rw [signature?_of (n := ['_', '_', 't', 'i', 'n', 'i', '_', '_']) (o := ['t', 'c', 'e', 'j', 'b', 'o']) (by kernel_rfl) F.owner_object]
  kernel_rfl
structure Apart6 (z ti ox j1 j2 j3 t1 t2 t3 : Addr) : Prop where
  ti_z : ti ≠ z
  ox_z : ox ≠ z
  j1_z : j1 ≠ z
  j2_z : j2 ≠ z
  j3_z : j3 ≠ z
  ti_ox : ti ≠ ox
  ti_j1 : ti ≠ j1
  ti_j2 : ti ≠ j2
  ti_j3 : ti ≠ j3
  ox_j1 : ox ≠ j1
  ox_j2 : ox ≠ j2
  ox_j3 : ox ≠ j3
  j12 : j1 ≠ j2
  j13 : j1 ≠ j3
  j23 : j2 ≠ j3
  t1_z : t1 ≠ z
  t2_z : t2 ≠ z
  t2_ox : t2 ≠ ox
  t2_j1 : t2 ≠ j1
  t3_z : t3 ≠ z
  t3_ox : t3 ≠ ox
  t3_j1 : t3 ≠ j1
  t3_j2 : t3 ≠ j2
def But5 (z ox j1 j2 j3 : Addr) (h h' : Heap) : Prop := ∀ c o, c ≠ z → c ≠ ox → c ≠ j1 → c ≠ j2 → c ≠ j3 → h.get? c = some o → h'.get? c = some o
section
variable {pg : Program} {wd : World} {B : Around} {X0 : Value → Shared → Prop} {s0 : Shared}
theorem zip3_item {z ti ox j1 j2 j3 t1 t2 t3 : Addr} {k : Nat} {as bs cs : Array Value} {x y o3 u v r : Value} {R : Option Value → Shared → Prop} (ap : Apart6 z ti ox j1 j2 j3 t1 t2 t3) (hz : IsZip s0.heap z ti ox .none) (hi : IsTrip s0.heap ti (.ref j1) (.ref j2) (.ref j3)) (ho : IsTrip s0.heap ox u v r)
    (p1 : s0.heap.IsTupleIter j1 t1 k) (p2 : s0.heap.IsTupleIter j2 t2 k) (p3 : s0.heap.IsTupleIter j3 t3 k) (q1 : s0.heap.IsTuple t1 as) (q2 : s0.heap.IsTuple t2 bs) (q3 : s0.heap.IsTuple t3 cs) (e1 : as[k]? = some x) (e2 : bs[k]? = some y) (e3 : cs[k]? = some o3)
    (f : ∀ h', IsZip h' z ti ox (rawInt s0.heap.objs.size) → IsTrip h' ox x y o3 → h'.IsTupleIter j1 t1 (k + 1) → h'.IsTupleIter j2 t2 (k + 1) → h'.IsTupleIter j3 t3 (k + 1) → IsTrip h' s0.heap.objs.size x y o3 → But5 z ox j1 j2 j3 s0.heap h' → R (some (.ref s0.heap.objs.size)) { s0 with heap := h' }) :
    wpAny (model pg wd) B (pyNext (.ref z)) R X0 s0 := by
  have ty : s0.TypeIs (.ref z) "zip" := ⟨_, hz, rfl⟩
  unfold pyNext
  refine wpAny_bind (wpAny_attempt (wpAny_callSpecial?_slot (name := Str.ofString "__next__") ty F.slot_zip_next (wpAny_call_entry F.slot_zip_next ty F.entry_zip_next ?_ (F.args_zip_next_1 _))))
  show wpAny _ _ (field (.ref z) 2 >>= _) _ _ _
  refine wpAny_bind (wpAny_field hz rfl (x := .bool false) rfl ?_)
  show wpAny _ _ (field (.ref z) 3 >>= _) _ _ _
  refine wpAny_bind (wpAny_field hz rfl (x := .ref ti) rfl ?_)
  refine wpAny_bind (wpAny_seqItems hi rfl ?_)
  show wpAny _ _ (Builtin.SmallTypes.ownedTupleIsFree (.ref z) >>= _) _ _ _
  refine wpAny_bind ?_
  unfold Builtin.SmallTypes.ownedTupleIsFree
  refine wpAny_bind (wpAny_field hz rfl (x := .none) rfl (wpAny_pure ?_))
  simp only [if_true]
  refine wpAny_bind (wpAny_rule ?_)
  refine wpAny_bind (wpAny_field hz rfl (x := .ref ox) rfl ?_)
  refine wpAny_bind (wpAny_setField_rec hz (by simp) fun m1 zm1 sb1 => ?_)
  have zm1 : IsZip m1 z ti ox .ellipsis := zm1
  refine wpAny_bind ?_
  simp only [List.zipIdx_cons, List.zipIdx_nil, List.forIn_cons, List.forIn_nil]
  refine wpAny_bind (wpAny_bind (wpAny_onRaise ?_))
  show wpAny _ _ (Builtin.SmallTypes.nextOf (.ref j1) >>= _) _ _ _
  refine wpAny_bind (nx_tup_item (tupIt_at p1 fun o g => sb1.extBut _ _ ap.j1_z g) (tup_at q1 fun o g => sb1.extBut _ _ ap.t1_z g) e1 fun m2 pm2 sb2 => wpAny_pure ?_)
  have om2 : IsTrip m2 ox u v r := sb2.extBut _ _ ap.ox_j1 (sb1.extBut _ _ ap.ox_z ho)
  refine wpAny_bind (wpAny_seqItems om2 rfl ?_)
  refine wpAny_bind (upd_trip om2 fun m3 om3 sb3 => ?_)
  have om3 : IsTrip m3 ox x v r := om3
  refine wpAny_bind (wpAny_letGo (wpAny_pure ?_))
  refine wpAny_bind (wpAny_bind (wpAny_onRaise ?_))
  show wpAny _ _ (Builtin.SmallTypes.nextOf (.ref j2) >>= _) _ _ _
  have to3 : ∀ c o, c ≠ z → c ≠ ox → c ≠ j1 → s0.heap.get? c = some o → m3.get? c = some o := fun c o a1 a2 a3 g => sb3.extBut _ _ a2 (sb2.extBut _ _ a3 (sb1.extBut _ _ a1 g))
  refine wpAny_bind (nx_tup_item (tupIt_at p2 fun o g => to3 _ o ap.j2_z ap.ox_j2.symm ap.j12.symm g) (tup_at q2 fun o g => to3 _ o ap.t2_z ap.t2_ox ap.t2_j1 g) e2 fun m4 pm4 sb4 => wpAny_pure ?_)
  have om4 : IsTrip m4 ox x v r := sb4.extBut _ _ ap.ox_j2 om3
  refine wpAny_bind (wpAny_seqItems om4 rfl ?_)
  refine wpAny_bind (upd_trip om4 fun m5 om5 sb5 => ?_)
  have om5 : IsTrip m5 ox x y r := om5
  refine wpAny_bind (wpAny_letGo (wpAny_pure ?_))
  refine wpAny_bind (wpAny_bind (wpAny_onRaise ?_))
  show wpAny _ _ (Builtin.SmallTypes.nextOf (.ref j3) >>= _) _ _ _
  have to5 : ∀ c o, c ≠ z → c ≠ ox → c ≠ j1 → c ≠ j2 → s0.heap.get? c = some o → m5.get? c = some o := fun c o a1 a2 a3 a4 g => sb5.extBut _ _ a2 (sb4.extBut _ _ a4 (to3 c o a1 a2 a3 g))
  refine wpAny_bind (nx_tup_item (tupIt_at p3 fun o g => to5 _ o ap.j3_z ap.ox_j3.symm ap.j13.symm ap.j23.symm g) (tup_at q3 fun o g => to5 _ o ap.t3_z ap.t3_ox ap.t3_j1 ap.t3_j2 g) e3 fun m6 pm6 sb6 => wpAny_pure ?_)
  have om6 : IsTrip m6 ox x y r := sb6.extBut _ _ ap.ox_j3 om5
  refine wpAny_bind (wpAny_seqItems om6 rfl ?_)
  refine wpAny_bind (upd_trip om6 fun m7 om7 sb7 => ?_)
  have om7 : IsTrip m7 ox x y o3 := om7
  refine wpAny_bind (wpAny_letGo (wpAny_pure (wpAny_pure ?_)))
  refine wpAny_bind (wpAny_seqItems om7 rfl ?_)
  refine wpAny_bind (wpAny_newTuple ?_)
  have sz7 : m7.objs.size = s0.heap.objs.size := by rw [sb7.1, sb6.1, sb5.1, sb4.1, sb3.1, sb2.1, sb1.1]
  have zm7 : IsZip m7 z ti ox .ellipsis := sb7.extBut _ _ ap.ox_z.symm (sb6.extBut _ _ ap.j3_z.symm (sb5.extBut _ _ ap.ox_z.symm (sb4.extBut _ _ ap.j2_z.symm (sb3.extBut _ _ ap.ox_z.symm (sb2.extBut _ _ ap.j1_z.symm zm1)))))
  have to7 : But5 z ox j1 j2 j3 s0.heap m7 := fun c o a1 a2 a3 a4 a5 g => sb7.extBut _ _ a2 (sb6.extBut _ _ a5 (to5 c o a1 a2 a3 a4 g))
  have pj1 : m7.IsTupleIter j1 t1 (k + 1) := tupIt_at pm2 fun o g => sb7.extBut _ _ ap.ox_j1.symm (sb6.extBut _ _ ap.j13 (sb5.extBut _ _ ap.ox_j1.symm (sb4.extBut _ _ ap.j12 (sb3.extBut _ _ ap.ox_j1.symm g))))
  have pj2 : m7.IsTupleIter j2 t2 (k + 1) := tupIt_at pm4 fun o g => sb7.extBut _ _ ap.ox_j2.symm (sb6.extBut _ _ ap.j23 (sb5.extBut _ _ ap.ox_j2.symm g))
  have pj3 : m7.IsTupleIter j3 t3 (k + 1) := tupIt_at pm6 fun o g => sb7.extBut _ _ ap.ox_j3.symm g
  have zlt : z < m7.objs.size := Heap.lt_size zm7
  show wpAny _ _ (Builtin.SmallTypes.ownedTupleHandOut (.ref z) (.ref m7.objs.size) >>= _) _ _ _
  refine wpAny_bind ?_
  unfold Builtin.SmallTypes.ownedTupleHandOut
  have zm8 : IsZip (m7.push { cls := .type "tuple", data := .seq #[x, y, o3] }) z ti ox .ellipsis := Heap.get?_push_of_some _ zm7
  refine wpAny_bind (wpAny_setField_rec zm8 (by simp) fun m9 zm9 sb9 => ?_)
  have zm9 : IsZip m9 z ti ox (rawInt m7.objs.size) := zm9
  refine wpAny_setField_rec zm9 (by simp) fun m10 zm10 sb10 => ?_
  have zm10 : IsZip m10 z ti ox (rawInt m7.objs.size) := zm10
  have to10 : ∀ c o, c ≠ z → m7.get? c = some o → m10.get? c = some o := fun c o a1 g => sb10.extBut _ _ a1 (sb9.extBut _ _ a1 (Heap.get?_push_of_some _ g))
  have np : IsTrip m10 m7.objs.size x y o3 := sb10.extBut _ _ (Nat.ne_of_gt zlt) (sb9.extBut _ _ (Nat.ne_of_gt zlt) (Heap.get?_push_size _ rfl))
  rw [sz7] at zm10 np
  refine wpAny_pure ⟨_, rfl, wpAny_pure ?_⟩
  show R (some (.ref m7.objs.size)) _
  rw [sz7]
  exact f m10 zm10 (to10 _ _ ap.ox_z om7) (tupIt_at pj1 fun o g => to10 _ o ap.j1_z g) (tupIt_at pj2 fun o g => to10 _ o ap.j2_z g) (tupIt_at pj3 fun o g => to10 _ o ap.j3_z g) np fun c o a1 a2 a3 a4 a5 g => to10 c o a1 (to7 c o a1 a2 a3 a4 a5 g)
theorem zip3_end {z ti ox j1 j2 j3 t1 t2 t3 : Addr} {k : Nat} {as : Array Value} {R : Option Value → Shared → Prop} (hh : B.handled = none) (ap : Apart6 z ti ox j1 j2 j3 t1 t2 t3) (hz : IsZip s0.heap z ti ox .none) (hi : IsTrip s0.heap ti (.ref j1) (.ref j2) (.ref j3))
    (p1 : s0.heap.IsTupleIter j1 t1 k) (q1 : s0.heap.IsTuple t1 as) (e1 : as[k]? = none)
    (f : ∀ h', But5 z ox j1 j2 j3 s0.heap h' → R none { s0 with heap := h' }) : wpAny (model pg wd) B (pyNext (.ref z)) R X0 s0 := by
  have ty : s0.TypeIs (.ref z) "zip" := ⟨_, hz, rfl⟩
  have last : ∀ (h' : Heap) (e : Addr), But5 z ox j1 j2 j3 s0.heap h' → (∃ o, h'.get? e = some o ∧ o.cls = .type "StopIteration") → wpAny (model pg wd) B (do if ← isInstance (.ref e) (.type "StopIteration") then pure none else throw (.ref e)) R X0 { s0 with heap := h' } := fun h' e bt ⟨o, g, c⟩ =>
    wpAny_bind (wpAny_isInstance (T := "StopIteration") (b := true) ⟨o, g, c⟩ isSubtype_stop (wpAny_pure (f _ bt)))
  unfold pyNext
  refine wpAny_bind (wpAny_attempt (wpAny_callSpecial?_slot (name := Str.ofString "__next__") ty F.slot_zip_next (wpAny_call_entry F.slot_zip_next ty F.entry_zip_next ?_ (F.args_zip_next_1 _))))
  show wpAny _ _ (field (.ref z) 2 >>= _) _ _ _
  refine wpAny_bind (wpAny_field hz rfl (x := .bool false) rfl ?_)
  show wpAny _ _ (field (.ref z) 3 >>= _) _ _ _
  refine wpAny_bind (wpAny_field hz rfl (x := .ref ti) rfl ?_)
  refine wpAny_bind (wpAny_seqItems hi rfl ?_)
  show wpAny _ _ (Builtin.SmallTypes.ownedTupleIsFree (.ref z) >>= _) _ _ _
  refine wpAny_bind ?_
  unfold Builtin.SmallTypes.ownedTupleIsFree
  refine wpAny_bind (wpAny_field hz rfl (x := .none) rfl (wpAny_pure ?_))
  simp only [if_true]
  refine wpAny_bind (wpAny_rule ?_)
  refine wpAny_bind (wpAny_field hz rfl (x := .ref ox) rfl ?_)
  refine wpAny_bind (wpAny_setField_rec hz (by simp) fun m1 zm1 sb1 => ?_)
  have zm1 : IsZip m1 z ti ox .ellipsis := zm1
  refine wpAny_bind ?_
  simp only [List.zipIdx_cons, List.zipIdx_nil, List.forIn_cons, List.forIn_nil]
  refine wpAny_bind (wpAny_bind (wpAny_onRaise ?_))
  show wpAny _ _ (Builtin.SmallTypes.nextOf (.ref j1) >>= _) _ _ _
  refine wpAny_bind (nx_tup_end hh (tupIt_at p1 fun o g => sb1.extBut _ _ ap.j1_z g) (tup_at q1 fun o g => sb1.extBut _ _ ap.t1_z g) e1 fun m2 e xb he => ?_)
  obtain ⟨oe, ge, ce⟩ := he
  have zm2 : IsZip m2 z ti ox .ellipsis := xb _ _ ap.j1_z.symm zm1
  have ez : e ≠ z := fun q => by subst q; rw [zm2] at ge; cases ge; simp at ce
  exact wpAny_setField_rec zm2 (by simp) fun m3 _ sb3 => last m3 e (fun c o a1 _ a3 _ _ g => sb3.extBut _ _ a1 (xb _ _ a3 (sb1.extBut _ _ a1 g))) ⟨oe, sb3.extBut _ _ ez ge, ce⟩
end
def Itz3 (K : PySem.W.Frag) (a b c : Addr) : It := ⟨fun i H => ∃ xs ys zs x y z, SqT K H a xs ∧ SqT K H b ys ∧ SqT K H c zs ∧ xs[i]? = some x ∧ ys[i]? = some y ∧ zs[i]? = some z,
  fun i H v H' => ∃ T x y z, v = .ref T ∧ H T = none ∧ H' = upd H T (.tup [x, y, z]) ∧ ∀ xs ys zs, SqT K H a xs → SqT K H b ys → SqT K H c zs → xs[i]? = some x ∧ ys[i]? = some y ∧ zs[i]? = some z, fun i H => ∃ xs, SqT K H a xs ∧ xs.length ≤ i⟩
theorem turn_zip3 {P : Program} {w : World} {K : PySem.W.Frag} {es : List Expr} {x1 : Nat} {pp : Pos} {a b c z ti ox j1 j2 j3 : Addr} (ap : Apart6 z ti ox j1 j2 j3 a b c) :
    Turn P w K (.Tuple es x1 pp) (Itz3 K a b c) [z, ti, ox, j1, j2, j3] z (fun i h => IsZip h z ti ox .none ∧ IsTrip h ti (.ref j1) (.ref j2) (.ref j3) ∧ (∃ u v r, IsTrip h ox u v r) ∧ h.IsTupleIter j1 a i ∧ h.IsTupleIter j2 b i ∧ h.IsTupleIter j3 c i) where
  mem := by simp
  obj := fun i h q c hc => by
    obtain ⟨q1, q2, ⟨u, v, r, q3⟩, ⟨o4, g4, _, d4⟩, ⟨o5, g5, _, d5⟩, ⟨o6, g6, _, d6⟩⟩ := q
    simp only [List.mem_cons, List.not_mem_nil, or_false] at hc
    rcases hc with rfl | rfl | rfl | rfl | rfl | rfl
    · exact ⟨_, q1, fun v z => nomatch z⟩
    · exact ⟨_, q2, fun v z => nomatch z⟩
    · exact ⟨_, q3, fun v z => nomatch z⟩
    · exact ⟨_, g4, fun v z => by rw [d4] at z; cases z⟩
    · exact ⟨_, g5, fun v z => by rw [d5] at z; cases z⟩
    · exact ⟨_, g6, fun v z => by rw [d6] at z; cases z⟩
  keep := fun i h h' q k => by
    obtain ⟨q1, q2, ⟨u, v, r, q3⟩, q4, q5, q6⟩ := q
    exact ⟨k _ (by simp) _ q1, k _ (by simp) _ q2, ⟨u, v, r, k _ (by simp) _ q3⟩, tupIt_at q4 fun o g => k _ (by simp) o g, tupIt_at q5 fun o g => k _ (by simp) o g, tupIt_at q6 fun o g => k _ (by simp) o g⟩
  item := by
    intro X hP hw hK hc i pins s σ H E I hf st hg
    subst hP hw hK
    obtain ⟨xs, ys, zs, x, y, z', hq1, hq2, hq3, hx, hy, hz'⟩ := hg
    obtain ⟨q1, q2, ⟨u, v, r, q3⟩, q4, q5, q6⟩ := st
    obtain ⟨as, ra, pa, za⟩ := I.tuple hq1
    obtain ⟨bs, rb, pb, zb⟩ := I.tuple hq2
    obtain ⟨cs, rc, pc, zc⟩ := I.tuple hq3
    obtain ⟨ux, hux, rux⟩ := ra.get hx
    obtain ⟨uy, huy, ruy⟩ := rb.get hy
    obtain ⟨uz, huz, ruz⟩ := rc.get hz'
    refine zip3_item ap q1 q2 q3 q4 q5 q6 (show s.heap.IsTuple a as.toArray from pa) (show s.heap.IsTuple b bs.toArray from pb) (show s.heap.IsTuple c cs.toArray from pc) (x := ux) (y := uy) (o3 := uz) (by simpa using hux) (by simpa using huy) (by simpa using huz) fun h' zz oo p1' p2' p3' np bt => ?_
    have I1 : Inv X pins σ H { s with heap := h' } := I.turnedL (t' := s.toks) (fl := [z, ti, ox, j1, j2, j3]) (fun c o hc e => by
      simp only [List.mem_cons, List.not_mem_nil, or_false, not_or] at hc
      exact bt c o hc.1 hc.2.2.1 hc.2.2.2.1 hc.2.2.2.2.1 hc.2.2.2.2.2 e) hf
    obtain ⟨f0, f1, f2, f3, f4, f5⟩ := I.fpOk (Nat.le_refl s.heap.objs.size) (I.hok.fresh (Nat.le_refl _))
    have n0 : X.s₀.heap.get? s.heap.objs.size = none := by
      cases q : X.s₀.heap.get? s.heap.objs.size with
      | none => rfl
      | some o => exact absurd (Nat.lt_of_lt_of_le (Heap.lt_size q) I.sz) (Nat.lt_irrefl _)
    have I2 : Inv X pins σ (upd H s.heap.objs.size (.tup [x, y, z'])) { s with heap := h' } := I1.track f0 ⟨small (by simp), [ux, uy, uz], .cons rux (.cons ruy (.cons ruz .nil)), ⟨_, np, rfl, _, rfl⟩⟩ f1 f4 f5 n0
    have lt : ∀ {c o}, s.heap.get? c = some o → c ≠ s.heap.objs.size := fun e => Nat.ne_of_lt (Heap.lt_size e)
    have hzT : z ≠ s.heap.objs.size := lt q1
    have ti2 : IsTrip h' ti (.ref j1) (.ref j2) (.ref j3) := bt _ _ ap.ti_z ap.ti_ox ap.ti_j1 ap.ti_j2 ap.ti_j3 q2
    obtain ⟨e0, e1, e2, e3, e4, e5⟩ := hf z (by simp)
    refine ⟨_, rfl, wpAny_letOwnedTupleGo_zip zz fun h2 z2 sb => ?_⟩
    have I3 : Inv X pins σ (upd H s.heap.objs.size (.tup [x, y, z'])) { s with heap := h2 } := Inv.turned (s := { s with heap := h' }) (h' := h2) (t' := s.toks) (it := z) I2 (fun c o hc e => sb.extBut _ _ hc e) (by rw [upd_ne hzT]; exact e0) e1 e3 e4 e5
    refine ⟨.ref s.heap.objs.size, _, I3, rfl, ⟨_, x, y, z', rfl, f0, rfl, fun xs' ys' zs' k1 k2 k3 => ?_⟩, ⟨z2, sb.extBut _ _ ap.ti_z ti2, ⟨_, _, _, sb.extBut _ _ ap.ox_z oo⟩, tupIt_at p1' fun o g => sb.extBut _ _ ap.j1_z g, tupIt_at p2' fun o g => sb.extBut _ _ ap.j2_z g, tupIt_at p3' fun o g => sb.extBut _ _ ap.j3_z g⟩, fun c hc => ?_⟩
    · rw [I.tuple_inj k1 hq1, I.tuple_inj k2 hq2, I.tuple_inj k3 hq3]; exact ⟨hx, hy, hz'⟩
    · have cT : c ≠ s.heap.objs.size := by
        obtain ⟨o4, g4, _⟩ := q4
        obtain ⟨o5, g5, _⟩ := q5
        obtain ⟨o6, g6, _⟩ := q6
        simp only [List.mem_cons, List.not_mem_nil, or_false] at hc
        rcases hc with rfl | rfl | rfl | rfl | rfl | rfl
        · exact hzT
        · exact lt q2
        · exact lt q3
        · exact lt g4
        · exact lt g5
        · exact lt g6
      rw [upd_ne cT]; exact (hf c hc).1
  done := by
    intro X hP hw hK hc i pins s σ H E I hf st hg
    subst hP hw hK
    obtain ⟨xs, hq1, hx⟩ := hg
    obtain ⟨q1, q2, _, q4, _, _⟩ := st
    obtain ⟨as, ra, pa, za⟩ := I.tuple hq1
    have la := ra.length
    refine zip3_end (I.ok.hd hc) ap q1 q2 q4 (show s.heap.IsTuple a as.toArray from pa) (by simp; omega) fun h' bt => ⟨rfl, ?_⟩
    exact I.turnedL (t' := s.toks) (fl := [z, ti, ox, j1, j2, j3]) (fun c o hc e => by
      simp only [List.mem_cons, List.not_mem_nil, or_false, not_or] at hc
      exact bt c o hc.1 hc.2.2.1 hc.2.2.2.1 hc.2.2.2.2.1 hc.2.2.2.2.2 e) hf
  self := fun _ _ _ _ _ st h => wpAny_pyIter_zip st.1 h
abbrev it0 (h : Heap) (a : Addr) : Heap := h.push { cls := .type "tuple_iterator", data := .fields #[.ref a, .int 0 0] }
abbrev zw3 (h : Heap) (a b c : Addr) : Heap := it0 (it0 (it0 h a) b) c
abbrev zw4 (h : Heap) (a b c : Addr) : Heap := (zw3 h a b c).push { cls := .type "tuple", data := .seq #[.ref h.objs.size, .ref (it0 h a).objs.size, .ref (it0 (it0 h a) b).objs.size] }
abbrev zw5 (h : Heap) (a b c : Addr) : Heap := (zw4 h a b c).push { cls := .type "tuple", data := .seq #[.none, .none, .none] }
abbrev zw6 (h : Heap) (a b c : Addr) : Heap := (zw5 h a b c).push { cls := .type "zip", data := .fields #[.none, .bool false, .bool false, .ref (zw3 h a b c).objs.size, .ref (zw4 h a b c).objs.size] }
theorem zip3_new (a b c : Addr) (as bs cs : Array Value) : Meets (Builtin.«zip.__new__» ⟨[.type "zip", .ref a, .ref b, .ref c], []⟩) (fun _ R s => s.heap.IsTuple a as ∧ s.heap.IsTuple b bs ∧ s.heap.IsTuple c cs ∧ R (.ok (.ret (.ref (zw5 s.heap a b c).objs.size))) { s with heap := zw6 s.heap a b c }) :=
  .of_wp fun prog w A R s h => by
    obtain ⟨hp, g, d, tk, os⟩ := s
    obtain ⟨ha, hb, hc, h⟩ := h
    have q0 := sub_zip
    have q1 : Heap.IsTuple (Shared.heap ⟨hp, g, d, tk, os⟩) a as := ha
    have q2 : Heap.IsTuple (Shared.heap ⟨hp.push { cls := .type "tuple_iterator", data := .fields #[.ref a, .int 0 0] }, g, d, tk, os⟩) b bs := tup_at hb fun o e => Heap.get?_push_of_some _ e
    have q3 : Heap.IsTuple (Shared.heap ⟨(hp.push { cls := .type "tuple_iterator", data := .fields #[.ref a, .int 0 0] }).push { cls := .type "tuple_iterator", data := .fields #[.ref b, .int 0 0] }, g, d, tk, os⟩) c cs := tup_at hc fun o e => Heap.get?_push_of_some _ (Heap.get?_push_of_some _ e)
    wp_walk using wpAny_pyIter_tuple q1, wpAny_pyIter_tuple q2, wpAny_pyIter_tuple q3
    exact ⟨_, rfl, h⟩
theorem zip3_call {pg : Program} {wd : World} {B : Around} {X0 : Value → Shared → Prop} {s0 : Shared} {a b c : Addr} {as bs cs : Array Value} {R : Value → Shared → Prop} (ha : s0.heap.IsTuple a as) (hb : s0.heap.IsTuple b bs) (hc : s0.heap.IsTuple c cs)
    (f : ∀ h', IsZip h' (s0.heap.objs.size + 5) (s0.heap.objs.size + 3) (s0.heap.objs.size + 4) .none → IsTrip h' (s0.heap.objs.size + 3) (.ref s0.heap.objs.size) (.ref (s0.heap.objs.size + 1)) (.ref (s0.heap.objs.size + 2)) → IsTrip h' (s0.heap.objs.size + 4) .none .none .none →
      h'.IsTupleIter s0.heap.objs.size a 0 → h'.IsTupleIter (s0.heap.objs.size + 1) b 0 → h'.IsTupleIter (s0.heap.objs.size + 2) c 0 → (∀ c o, s0.heap.get? c = some o → h'.get? c = some o) → R (.ref (s0.heap.objs.size + 5)) { s0 with heap := h' }) :
    wpAny (model pg wd) B (call (.type "zip") [.ref a, .ref b, .ref c]) R X0 s0 := by
  refine callType_new F.called_zip (by decide) (tc_zip3 _ _ _) (nc_zip3 _ _ _) (fun ob => oi_4 ob _ _ _) F.entry_zip_new (zip3_new a b c as bs cs) ⟨ha, hb, hc, ?_⟩
  have n1 : (it0 s0.heap a).objs.size = s0.heap.objs.size + 1 := Heap.size_push ..
  have n2 : (it0 (it0 s0.heap a) b).objs.size = s0.heap.objs.size + 2 := by rw [Heap.size_push, n1]
  have n3 : (zw3 s0.heap a b c).objs.size = s0.heap.objs.size + 3 := by rw [Heap.size_push, n2]
  have n4 : (zw4 s0.heap a b c).objs.size = s0.heap.objs.size + 4 := by rw [Heap.size_push, n3]
  have n5 : (zw5 s0.heap a b c).objs.size = s0.heap.objs.size + 5 := by rw [Heap.size_push, n4]
  have u1 : ∀ {h : Heap} {o o' : Obj} {x : Addr}, h.get? x = some o → (h.push o').get? x = some o := fun e => Heap.get?_push_of_some _ e
  have g6 : (zw6 s0.heap a b c).get? (zw5 s0.heap a b c).objs.size = some _ := Heap.get?_push_size _ rfl
  have g5 : (zw6 s0.heap a b c).get? (zw4 s0.heap a b c).objs.size = some _ := u1 (Heap.get?_push_size _ rfl)
  have g4 : (zw6 s0.heap a b c).get? (zw3 s0.heap a b c).objs.size = some _ := u1 (u1 (Heap.get?_push_size _ rfl))
  have g3 : (zw6 s0.heap a b c).get? (it0 (it0 s0.heap a) b).objs.size = some _ := u1 (u1 (u1 (Heap.get?_push_size _ rfl)))
  have g2 : (zw6 s0.heap a b c).get? (it0 s0.heap a).objs.size = some _ := u1 (u1 (u1 (u1 (Heap.get?_push_size _ rfl))))
  have g1 : (zw6 s0.heap a b c).get? s0.heap.objs.size = some _ := u1 (u1 (u1 (u1 (u1 (Heap.get?_push_size _ rfl)))))
  show _ ∧ _
  rw [n3, n4, n5] at g6
  rw [n1, n2, n3] at g4
  rw [n4] at g5
  rw [n2] at g3
  rw [n1] at g2
  rw [n5]
  exact ⟨⟨_, g6, rfl⟩, f _ g6 g4 g5 ⟨_, g1, rfl, rfl⟩ ⟨_, g2, rfl, rfl⟩ ⟨_, g3, rfl, rfl⟩ fun x o q => u1 (u1 (u1 (u1 (u1 (u1 q)))))⟩
theorem apart6_of (n a b c : Nat) (ha : a < n) (hb : b < n) (hc : c < n) : Apart6 (n + 5) (n + 3) (n + 4) n (n + 1) (n + 2) a b c := by
  constructor <;> first | exact Nat.ne_of_lt (by omega) | exact Nat.ne_of_gt (by omega)
section
variable {X : Cx} {es : List Expr} {x1 : Nat} {pp : Pos}
def iZip3 (K : PySem.W.Frag) (ta : TA) : TI := fun σ H R => ta σ H fun vs H1 => ∃ a b c xs ys zs, vs = [.ref a, .ref b, .ref c] ∧ SqT K H1 a xs ∧ SqT K H1 b ys ∧ SqT K H1 c zs ∧ R (Itz3 K a b c) H1
theorem pi_zip3 {e1 e2 e3 : Expr} {ta : TA} {p pos : Pos} (hg : Gl X "zip") (hm : X.mg "zip" = none) (ha : PA X [e1, e2, e3] ta) (hs : starEach [e1, e2, e3] X.env = [(false, eval e1 X.env), (false, eval e2 X.env), (false, eval e3 X.env)] := by rfl) (hs2 : starEach [e2, e3] X.env = [(false, eval e2 X.env), (false, eval e3 X.env)] := by rfl) :
    PI X (.Tuple es x1 pp) (.Call (.Name "zip" p) [e1, e2, e3] [] pos) (iZip3 X.K ta) := by
  intro pins s σ H R I h
  have hA := ha pos pins s σ H _ I h
  refine Call_ (ld_blt I hg hm boot_zip (PyProof.Rows.callWith_type1 (thn hA fun us s1 ⟨vs, H1, I1, r1, q1⟩ => ?_) (by rw [hs, hs2]) (by rw [hs2]; rfl)))
  obtain ⟨a, b, c, xs, ys, zs, rfl, ha, hb, hc, q⟩ := q1
  obtain ⟨u, u', u'', rfl, ra, rb, rc⟩ := vals_thr r1
  cases (show u = Value.ref a from ra)
  cases (show u' = Value.ref b from rb)
  cases (show u'' = Value.ref c from rc)
  obtain ⟨as, va, pa, za⟩ := I1.tuple ha
  obtain ⟨bs, vb, pb, zb⟩ := I1.tuple hb
  obtain ⟨cs, vc, pc, zc⟩ := I1.tuple hc
  have al : a < s1.heap.objs.size := by obtain ⟨o, g, _⟩ := pa; exact Heap.lt_size g
  have bl : b < s1.heap.objs.size := by obtain ⟨o, g, _⟩ := pb; exact Heap.lt_size g
  have cl : c < s1.heap.objs.size := by obtain ⟨o, g, _⟩ := pc; exact Heap.lt_size g
  refine zip3_call (show s1.heap.IsTuple a as.toArray from pa) (show s1.heap.IsTuple b bs.toArray from pb) (show s1.heap.IsTuple c cs.toArray from pc) fun h' w1 w2 w3 w4 w5 w6 kk => ?_
  have I2 : Inv X pins σ H1 { s1 with heap := h' } := I1.kept (t' := s1.toks) kk
  have ap := apart6_of s1.heap.objs.size a b c al bl cl
  refine wpAny_pyIter_zip w1 ⟨s1.heap.objs.size + 5, [s1.heap.objs.size + 5, s1.heap.objs.size + 3, s1.heap.objs.size + 4, s1.heap.objs.size, s1.heap.objs.size + 1, s1.heap.objs.size + 2], _, _, H1, rfl, I2, turn_zip3 ap, ⟨w1, w2, ⟨_, _, _, w3⟩, w4, w5, w6⟩, fun c hc => ?_, q⟩
  have ge : s1.heap.objs.size ≤ c := by
    simp only [List.mem_cons, List.not_mem_nil, or_false] at hc
    rcases hc with rfl | rfl | rfl | rfl | rfl | rfl <;> omega
  exact I1.fpOk ge (I1.hok.fresh ge)
end
def CompZ3 (K : PySem.W.Frag) (k : Nat) (js : List Nat) (g : TG) (te : TE) (σ : St) (vs : List V) (H1 : Hp) (Q : VK) : Prop := ∃ a b c xs ys zs, vs = [.ref a, .ref b, .ref c] ∧ SqT K H1 a xs ∧ SqT K H1 b ys ∧ SqT K H1 c zs ∧ ∃ W : Nat → Nat → List V → St → Hp → Prop, (∃ m, W 0 m [] (compSt k js σ) H1) ∧ ∀ i m zs σ' H', W i m zs σ' H' →
    ((Itz3 K a b c).stop i H' ∧ ∀ p, H' p = none → Q (.ref p) (upd H' p (.lst zs))) ∨
    ((Itz3 K a b c).go i H' ∧ zs.length < sizeLine ∧ ∃ N : List V → St → Hp → Prop, (∀ zs σ2 H2, N zs σ2 H2 → ∃ m', m' < m ∧ W (i + 1) m' zs σ2 H2) ∧ ∀ x H2, (Itz3 K a b c).yld i H' x H2 → g x σ' H2 fun σ3 H3 => te σ3 H3 fun v H4 => N (zs ++ [v]) σ3 H4)
theorem comp_eqZ3 {K : PySem.W.Frag} {k : Nat} {js : List Nat} {ta : TA} {g : TG} {te : TE} {σ : St} {H : Hp} {Q : VK} : tComp (iZip3 K ta) k js g te σ H Q = ta σ H fun vs H1 => CompZ3 K k js g te σ vs H1 Q := rfl
theorem CompZ3.mk {K : PySem.W.Frag} {a b c : Addr} {xs ys zs : List V} {k : Nat} {js : List Nat} {g : TG} {te : TE} {Q : VK} {σ : St} {H : Hp} (n : Nat) (hn : n = xs.length) (hy : ys.length = n) (hz : zs.length = n) (h1 : SqT K H a xs) (h2 : SqT K H b ys) (h3 : SqT K H c zs) (Pv : Nat → List V → St → Hp → Prop) (h0 : Pv 0 [] (compSt k js σ) H) (hl : ∀ i us σ H, i ≤ n → Pv i us σ H → SqT K H a xs ∧ SqT K H b ys ∧ SqT K H c zs)
    (hs : ∀ i x y z us σ H T, i < n → xs[i]? = some x → ys[i]? = some y → zs[i]? = some z → Pv i us σ H → H T = none → g (.ref T) σ (upd H T (.tup [x, y, z])) fun σ3 H3 => te σ3 H3 fun v H4 => Pv (i + 1) (us ++ [v]) σ3 H4) (hd : ∀ us σ H, Pv n us σ H → ∀ p, H p = none → Q (.ref p) (upd H p (.lst us))) (hlen : ∀ i us σ H, Pv i us σ H → us.length < sizeLine) :
    CompZ3 K k js g te σ [.ref a, .ref b, .ref c] H Q := by
  subst hn
  refine ⟨a, b, c, xs, ys, zs, rfl, h1, h2, h3, fun i m us σ H => m = xs.length - i ∧ i ≤ xs.length ∧ Pv i us σ H, ⟨_, rfl, Nat.zero_le _, h0⟩, ?_⟩
  rintro i m us σ H ⟨rfl, hi, p⟩
  obtain ⟨k1, k2, k3⟩ := hl i us σ H hi p
  by_cases hlt : i < xs.length
  · refine .inr ⟨⟨xs, ys, zs, _, _, _, k1, k2, k3, List.getElem?_eq_getElem hlt, List.getElem?_eq_getElem (hy ▸ hlt), List.getElem?_eq_getElem (hz ▸ hlt)⟩, hlen _ _ _ _ p, Pv (i + 1), fun us' σ' H' p' => ⟨xs.length - (i + 1), by omega, rfl, hlt, p'⟩, fun v H' yy => ?_⟩
    obtain ⟨T, x, y, z, rfl, hT, rfl, ex⟩ := yy
    obtain ⟨ex1, ex2, ex3⟩ := ex xs ys zs k1 k2 k3
    exact hs i x y z us σ H T hlt ex1 ex2 ex3 p hT
  · have e : i = xs.length := by omega
    exact .inl ⟨⟨xs, k1, by omega⟩, hd us σ H (e ▸ p)⟩
end L2
namespace L2
open PySem PySem.Spec PyProof.Rows
section
variable {prog : Program} {w : World} {A : Around} {R : Result → Shared → Prop} {I : Addr} {fp wr : List Addr} {n : Nat} {P : Nat → Value → Prop} {St : Nat → Heap → Prop}
def TupK (h0 : Heap) (S : Addr) (wr : List Addr) (kf : Nat → Int) (P : Nat → Value → Prop) : Prop := ∀ i v, P i v → ∃ a its, v = .ref a ∧ ¬ a ∈ wr ∧ a ≠ S ∧ h0.IsTuple a its ∧ (its.size : Int) < 2 ^ 63 ∧ kf i = its.size
def FirstB (kf : Nat → Int) (m i : Nat) : Prop := ∀ j, j < m → kf j ≤ kf i ∧ (j < i → kf j < kf i)
theorem mxK_loop (W : Walks prog w A.in1 I fp wr n P St) (kf : Nat → Int) (S : Addr) (hSf : ¬ S ∈ fp) (h0 : Heap) (hk : TupK h0 S wr kf P) : ∀ (k j i : Nat) (s : Shared) (vb : Value) (tb : Tok) (c : Nat), n - (j + 1) = k → j + 1 ≤ n → St (j + 1) s.heap → P i vb → i ≤ j → FirstB kf (j + 1) i → (∀ b o, ¬ b ∈ wr → b ≠ S → h0.get? b = some o → s.heap.get? b = some o) → s.heap.get? S = some ⟨.type "list", none, .seq #[vb, .int (kf i) tb] c, #[]⟩ →
    (∀ i v h' tk, P i v → i < n → FirstB kf n i → (∀ b o, ¬ b ∈ wr → b ≠ S → h0.get? b = some o → h'.get? b = some o) → R (.ok (.ret v)) { s with heap := h', toks := tk }) → codeAny (model prog w) A (.builtin "max.loop" ⟨[.ref I, .builtin "len", .ref S], []⟩) R s := by
  have hSw : ¬ S ∈ wr := fun h => hSf (W.sub _ h)
  have nm : (toString "max" ++ toString ".loop" : String) = "max.loop" := by decide
  intro k; induction k with
  | zero =>
    intro j i s vb tb c hk' hj hst hPb hij hb kp0 hS hR
    have e0 : j + 1 = n := by omega
    refine codeAny_builtin PySem.F.entry_max_loop ?_; rw [Around.under_plainId PySem.F.plain_max_loop _]
    show wpAny (model prog w) A.in1 (seqItems? (.ref S) >>= _) _ _ s
    refine wpAny_bind (m := seqItems? (.ref S)) (wpAny_seqItems hS rfl ?_)
    show wpAny (model prog w) A.in1 (tryCatch (pyNext (.ref I)) _ >>= _) _ _ s
    refine wpAny_bind (m := tryCatch (pyNext (.ref I)) _) (wpAny_tryCatch (W.done s _ _ (e0 ▸ hst) fun h' tk kp => ?_))
    have hS1 := kp S _ hSw hS
    show wpAny (model prog w) A.in1 (updateSeq S (fun _ => #[]) >>= _) _ _ _
    refine wpAny_bind (m := updateSeq S (fun _ => #[])) (wpAny_updateSeq hS1 rfl (wpAny_bind (wpAny_letGo (wpAny_pure ?_))))
    exact hR i vb _ tk hPb (by omega) (e0 ▸ hb) fun b o hbw hbS e => (Heap.get?_update_other _ _ (Ne.symm hbS)).trans (kp b o hbw (kp0 b o hbw hbS e))
  | succ k ih =>
    intro j i s vb tb c hk' hj hst hPb hij hb kp0 hS hR
    have lt0 : j + 1 < n := by omega
    refine codeAny_builtin PySem.F.entry_max_loop ?_; rw [Around.under_plainId PySem.F.plain_max_loop _]
    show wpAny (model prog w) A.in1 (seqItems? (.ref S) >>= _) _ _ s
    refine wpAny_bind (m := seqItems? (.ref S)) (wpAny_seqItems hS rfl ?_)
    show wpAny (model prog w) A.in1 (tryCatch (pyNext (.ref I)) _ >>= _) _ _ s
    refine wpAny_bind (m := tryCatch (pyNext (.ref I)) _) (wpAny_tryCatch (W.item (j + 1) s _ _ lt0 hst fun v h' tk hP hst1 kp => ?_))
    have hS1 := kp S _ hSw hS
    have kp1 : ∀ b o, ¬ b ∈ wr → b ≠ S → h0.get? b = some o → h'.get? b = some o := fun b o hbw hbS e => kp b o hbw (kp0 b o hbw hbS e)
    obtain ⟨a, its, rfl, aw, aS, at0, a63, ek⟩ := hk _ _ hP
    show wpAny (model prog w) A.in1 (tryCatch (holding [.ref a] (call (.builtin "len") [.ref a])) _ >>= _) _ _ _
    refine wpAny_bind (wpAny_tryCatch (wpAny_holding (len_tuple (tup_at at0 fun o e => kp1 a o aw aS e) a63 ?_)))
    rw [← ek]
    show wpAny (model prog w) A.in1 (tryCatch (holding [.ref a, .int (kf (j + 1)) _] (richCompare .Gt (.int (kf (j + 1)) _) (.int (kf i) tb) >>= _)) _ >>= _) _ _ _
    refine wpAny_bind (wpAny_tryCatch (wpAny_holding (wpAny_bind (CmpOf.ints_gt (prog := prog) (w := w) (A := A.in1) (P := fun i v => ∃ t, v = .int (kf i) t) kf (fun i v h => h) (j + 1) i _ _ _ _ _ ⟨_, rfl⟩ ⟨tb, rfl⟩ ?_))))
    refine wpAny_bind (wpAny_holding (wpAny_truthy_bool ?_))
    refine wpAny_bind (wpAny_letGo (wpAny_pure ?_))
    by_cases hb' : kf (j + 1) > kf i
    · simp only [hb', decide_true, if_true]
      refine wpAny_bind (m := updateSeq S _) (wpAny_updateSeq hS1 rfl (wpAny_bind (wpAny_letGo ?_)))
      rw [nm]
      refine wpAny_pure (a := _) ⟨plainId_quiet PySem.F.plain_max_loop _, ih (j + 1) (j + 1) _ (.ref a) _ _ (by omega) lt0 (W.frame _ _ _ hst1 fun b hbf o e => (Heap.get?_update_other _ _ (fun h : S = b => hSf (by rw [h]; exact hbf))).trans e) hP (Nat.le_refl _) (fun j' hj' => ?_) (fun b o hbw hbS e => (Heap.get?_update_other _ _ (Ne.symm hbS)).trans (kp1 b o hbw hbS e)) (Heap.get?_update_self _ hS1 rfl) fun i2 v2 h2 tk2 q1 q2 q3 q4 => hR i2 v2 h2 tk2 q1 q2 q3 q4⟩
      by_cases e : j' = j + 1
      · subst e; exact ⟨Int.le_refl _, fun z => absurd z (Nat.lt_irrefl _)⟩
      · have := (hb j' (by omega)).1
        exact ⟨by omega, fun _ => by omega⟩
    · simp only [hb', decide_false, Bool.false_eq_true, if_false]
      refine wpAny_bind (m := letGo _) (wpAny_letGo ?_)
      rw [nm]
      refine wpAny_pure (a := _) ⟨plainId_quiet PySem.F.plain_max_loop _, ih (j + 1) i _ vb tb c (by omega) lt0 hst1 hPb (by omega) (fun j' hj' => ?_) kp1 hS1 fun i2 v2 h2 tk2 q1 q2 q3 q4 => hR i2 v2 h2 tk2 q1 q2 q3 q4⟩
      by_cases e : j' = j + 1
      · subst e; exact ⟨by omega, fun z => by omega⟩
      · exact hb j' (by omega)
theorem mxK_first (W : Walks prog w A.in1 I fp wr n P St) (kf : Nat → Int) (S : Addr) (hSf : ¬ S ∈ fp) (h0 : Heap) (hk : TupK h0 S wr kf P) (hn : 0 < n) {s : Shared} {c : Nat} (hst : St 0 s.heap) (kp0 : ∀ b o, ¬ b ∈ wr → b ≠ S → h0.get? b = some o → s.heap.get? b = some o) (hS : s.heap.get? S = some ⟨.type "list", none, .seq #[] c, #[]⟩)
    (hR : ∀ i v h' tk, P i v → i < n → FirstB kf n i → (∀ b o, ¬ b ∈ wr → b ≠ S → h0.get? b = some o → h'.get? b = some o) → R (.ok (.ret v)) { s with heap := h', toks := tk }) : codeAny (model prog w) A (.builtin "max.loop" ⟨[.ref I, .builtin "len", .ref S], []⟩) R s := by
  have hSw : ¬ S ∈ wr := fun h => hSf (W.sub _ h)
  have nm : (toString "max" ++ toString ".loop" : String) = "max.loop" := by decide
  refine codeAny_builtin PySem.F.entry_max_loop ?_; rw [Around.under_plainId PySem.F.plain_max_loop _]
  show wpAny (model prog w) A.in1 (seqItems? (.ref S) >>= _) _ _ s
  refine wpAny_bind (m := seqItems? (.ref S)) (wpAny_seqItems hS rfl ?_)
  show wpAny (model prog w) A.in1 (tryCatch (pyNext (.ref I)) _ >>= _) _ _ s
  refine wpAny_bind (m := tryCatch (pyNext (.ref I)) _) (wpAny_tryCatch (W.item 0 s _ _ hn hst fun v h' tk hP hst1 kp => ?_))
  have hS1 := kp S _ hSw hS
  have kp1 : ∀ b o, ¬ b ∈ wr → b ≠ S → h0.get? b = some o → h'.get? b = some o := fun b o hbw hbS e => kp b o hbw (kp0 b o hbw hbS e)
  obtain ⟨a, its, rfl, aw, aS, at0, a63, ek⟩ := hk _ _ hP
  show wpAny (model prog w) A.in1 (tryCatch (holding [.ref a] (call (.builtin "len") [.ref a])) _ >>= _) _ _ _
  refine wpAny_bind (wpAny_tryCatch (wpAny_holding (len_tuple (tup_at at0 fun o e => kp1 a o aw aS e) a63 ?_)))
  rw [← ek]
  show wpAny (model prog w) A.in1 (updateSeq S (fun _ => #[.ref a, .int (kf 0) _]) >>= _) _ _ _
  refine wpAny_bind (m := updateSeq S _) (wpAny_updateSeq hS1 rfl ?_)
  rw [nm]
  refine wpAny_pure (a := _) ⟨plainId_quiet PySem.F.plain_max_loop _, mxK_loop W kf S hSf h0 hk _ 0 0 _ (.ref a) _ _ rfl hn (W.frame _ _ _ hst1 fun b hbf o e => (Heap.get?_update_other _ _ (fun h : S = b => hSf (by rw [h]; exact hbf))).trans e) hP (Nat.le_refl _) (fun j' hj' => ?_) (fun b o hbw hbS e => (Heap.get?_update_other _ _ (Ne.symm hbS)).trans (kp1 b o hbw hbS e)) (Heap.get?_update_self _ hS1 rfl) fun i2 v2 h2 tk2 q1 q2 q3 q4 => hR i2 v2 h2 tk2 q1 q2 q3 q4⟩
  have z : j' = 0 := by omega
  subst z; exact ⟨Int.le_refl _, fun z => absurd z (Nat.lt_irrefl _)⟩
theorem mxK_call {E : Value → Shared → Prop} {s : Shared} {l : Addr} {vs : List Value} {kf : Nat → Int} {Q : Value → Shared → Prop} (hh : A.handled = none) (hl : s.heap.IsList l vs.toArray) (hn : 0 < vs.length) (hk : ∀ i v, vs[i]? = some v → ∃ a its, v = .ref a ∧ s.heap.IsTuple a its ∧ (its.size : Int) < 2 ^ 63 ∧ kf i = its.size)
    (hQ : ∀ i v h' tk, vs[i]? = some v → FirstB kf vs.length i → (∀ b o, s.heap.get? b = some o → h'.get? b = some o) → Q v { s with heap := h', toks := tk }) : wpAny (model prog w) A (call (.builtin "max") [.ref l] [(Str.ofString "key", .builtin "len")]) Q E s := by
  have nm : (toString "max" ++ toString ".loop" : String) = "max.loop" := by decide
  have hlt : l < s.heap.objs.size := by obtain ⟨_, e, _⟩ := hl; exact Heap.lt_size e
  have hlI : l ≠ s.heap.objs.size := Nat.ne_of_lt hlt
  refine kmb_tree PySem.F.kind_max PySem.F.plain_max PySem.F.entry_max (kmb_max_key _ _) ?_
  show wpAny _ A.in1 (Builtin.Builtins.bindParams "max" ["key", "default"] 0 ⟨[], [(Str.ofString "key", .builtin "len")]⟩ >>= _) _ _ s
  refine wpAny_bind (wpAny_of_eq (show Builtin.Builtins.bindParams "max" ["key", "default"] 0 ⟨[], [(Str.ofString "key", .builtin "len")]⟩ = pure [some (.builtin "len"), none] from rfl) ?_)
  refine wpAny_bind (m := pure _) (wpAny_pure ?_)
  refine wpAny_bind (m := pyIter _) (wpAny_pyIter_list hl ?_)
  refine wpAny_bind (m := newList _) (wpAny_newObj_type ?_)
  rw [nm]
  have W := Walks.list (prog := prog) (w := w) (A := A.in1) hh s.heap.objs.size l hlI vs.toArray
  have hS : (s.heap.push { cls := .type "list_iterator", data := .fields #[.ref l, .int 0 0] }).objs.size = s.heap.objs.size + 1 := Heap.size_push ..
  refine wpAny_pure (a := _) ⟨plainId_quiet PySem.F.plain_max_loop _, mxK_first W kf (s.heap.push { cls := .type "list_iterator", data := .fields #[.ref l, .int 0 0] }).objs.size ?_ s.heap (fun i v hv => ?_) (by rw [List.size_toArray]; exact hn) ?_ (fun b o _ _ e => Heap.get?_push_of_some _ (Heap.get?_push_of_some _ e)) (Heap.get?_push_size _ rfl) fun i v h' tk q1 q2 q3 q4 => hQ i v h' tk (by simpa using q1) (by rw [List.size_toArray] at q3; exact q3) fun b o e => ?_⟩
  · rw [hS]
    intro z
    rcases List.mem_cons.mp z with z | z
    · exact Nat.succ_ne_self _ z
    · rw [← List.mem_singleton.mp z] at hlt
      exact Nat.lt_irrefl _ (Nat.lt_of_succ_lt hlt)
  · obtain ⟨a, its, rfl, ha, h63, ek⟩ := hk i v (by simpa using hv)
    have al : a < s.heap.objs.size := by obtain ⟨o, g, _⟩ := ha; exact Heap.lt_size g
    exact ⟨a, its, rfl, by simp only [List.mem_cons, List.not_mem_nil, or_false]; exact Nat.ne_of_lt al, by rw [hS]; exact Nat.ne_of_lt (Nat.lt_succ_of_lt al), ha, h63, ek⟩
  · exact W.frame _ _ _ ⟨⟨_, Heap.get?_push_size _ rfl, rfl, rfl⟩, hl.push _⟩ fun b _ o e => Heap.get?_push_of_some _ e
  · have bl := Heap.lt_size e
    exact q4 b o (by simp only [List.mem_cons, List.not_mem_nil, or_false]; exact Nat.ne_of_lt bl) (by rw [hS]; exact Nat.ne_of_lt (Nat.lt_succ_of_lt bl)) e
end
section
variable {X : Cx}
theorem pa_lst {es r : List Expr} {pos : Pos} {te : TE} {t : TA} (h : PE X (.List es pos) te) (hr : PA X r t) : PA X (.List es pos :: r) (tCons te t) := pa_cons h hr rfl
def rMxK (K : PySem.W.Frag) : V → Hp → VK → Prop := fun x H Q => ∃ (a : Addr) (ps : List Addr), x = .ref a ∧ SqL K H a (ps.map V.ref) ∧ 0 < ps.length ∧ ∃ L : List (List V), L.length = ps.length ∧ (∀ (i : Nat) p t, ps[i]? = some p → L[i]? = some t → H p = some (.tup t)) ∧ ∀ (i : Nat) p t, ps[i]? = some p → L[i]? = some t → (∀ (j : Nat) u, L[j]? = some u → u.length ≤ t.length ∧ (j < i → u.length < t.length)) → Q (.ref p) H
def tKwK (r : V → Hp → VK → Prop) (te : TE) : TE := fun σ H Q => te σ H fun x H1 => r x H1 Q
theorem pe_maxK {e : Expr} {te : TE} {p kp pos p2 : Pos} (hc : X.calm = true) (hg : Gl X "max") (hm : X.mg "max" = none) (hg2 : Gl X "len") (hm2 : X.mg "len" = none) (he : PE X e te) (hs : starEach [e] X.env = [(false, eval e X.env)] := by rfl) : PE X (.Call (.Name "max" p) [e] [⟨some (Str.ofString "key"), .Name "len" p2, kp⟩] pos) (tKwK (rMxK X.K) te) := by
  intro pins s σ H Q I h
  refine wpAny_Call_Name_kw (ld_blt I hg hm boot_max ?_)
  have hA := (pa_cons he (pa_nil (X := X)) hs) pos pins s σ H (fun vs H1 => match vs with | [x] => rMxK X.K x H1 Q | _ => False) I h
  refine callWith_kw (thn hA fun us s1 ⟨vs, H1, I1, r1, q1⟩ => ?_) (by rw [hs]; rfl) (by rw [hs]; rfl)
  match vs, q1 with
  | [x0], q1 =>
    obtain ⟨u, rfl, ru⟩ := vals1 r1
    refine kws_cons (ld_blt I1 hg2 hm2 boot_len (kws_nil ?_))
    obtain ⟨a, ps, rfl, hq, hn, L, hL, ht, q⟩ := q1
    cases (show u = Value.ref a from ru)
    obtain ⟨its, rv, pl, hz⟩ := I1.list hq
    have len := rv.length
    rw [List.length_map] at len
    refine mxK_call (kf := fun i => ((L.getD i []).length : Int)) (I1.ok.hd hc) pl.isList (by omega) (fun i v hv => ?_) fun i v h' tk hv hb kk => ?_
    · have il := (List.getElem?_eq_some_iff.mp hv).1
      obtain ⟨p, hp⟩ : ∃ p, ps[i]? = some p := ⟨ps[i]'(by omega), List.getElem?_eq_getElem (by omega)⟩
      obtain ⟨t, ht'⟩ : ∃ t, L[i]? = some t := ⟨L[i]'(by omega), List.getElem?_eq_getElem (by omega)⟩
      obtain ⟨u', hu', ru'⟩ := rv.get (show (ps.map V.ref)[i]? = some (.ref p) by rw [List.getElem?_map, hp]; rfl)
      rw [hv] at hu'
      cases hu'
      cases (show v = Value.ref p from ru')
      obtain ⟨its', rt, pt, zt⟩ := I1.tuple (show SqT X.K H1 p t from .of (ht i p t hp ht'))
      have lt' := rt.length
      have hsz : sizeLine = 16777216 := sizeLine_eq
      refine ⟨p, its'.toArray, rfl, pt, by rw [List.size_toArray]; omega, ?_⟩
      rw [List.getD_eq_getElem?_getD, ht', List.size_toArray, ← lt']; rfl
    · have il := (List.getElem?_eq_some_iff.mp hv).1
      obtain ⟨p, hp⟩ : ∃ p, ps[i]? = some p := ⟨ps[i]'(by omega), List.getElem?_eq_getElem (by omega)⟩
      obtain ⟨t, ht'⟩ : ∃ t, L[i]? = some t := ⟨L[i]'(by omega), List.getElem?_eq_getElem (by omega)⟩
      obtain ⟨u', hu', ru'⟩ := rv.get (show (ps.map V.ref)[i]? = some (.ref p) by rw [List.getElem?_map, hp]; rfl)
      rw [hv] at hu'
      cases hu'
      refine ⟨.ref p, H1, I1.kept kk, ru', q i p t hp ht' fun j u hu => ?_⟩
      have jl := (List.getElem?_eq_some_iff.mp hu).1
      obtain ⟨b1, b2⟩ := hb j (by omega)
      simp only [List.getD_eq_getElem?_getD, hu, ht', Option.getD_some] at b1 b2
      exact ⟨by omega, fun z => by have := b2 z; omega⟩
end
end L2
theorem PySem.W.Fast.tw5430108643404569921 : True := trivial
theorem PySem.W.Fast.tw16485509461276494317 : True := trivial
theorem PySem.W.Fast.tw2203143592029800296 : True := trivial
theorem PySem.W.Fast.tw9655653332201747866 : True := trivial
theorem PySem.W.Fast.tw17172192487756819853 : True := trivial
theorem PySem.W.Fast.tw15190169708990336202 : True := trivial
theorem PySem.W.Fast.tw4988799201772800263 : True := trivial
theorem PySem.W.Fast.tw7867843578973632557 : True := trivial
theorem PySem.W.Fast.tw1435006529307006215 : True := trivial
theorem PySem.W.Fast.tw15951519283728825890 : True := trivial
theorem PySem.W.Fast.tw12096706914808235427 : True := trivial
theorem PySem.W.Fast.tw7506298955786762388 : True := trivial
theorem PySem.W.Fast.tw14515052075945036007 : True := trivial
theorem PySem.W.Fast.tw8619430674065959335 : True := trivial
theorem PySem.W.Fast.tw5775800443179022952 : True := trivial
theorem PySem.W.Fast.tw12560788441893934725 : True := trivial
theorem PySem.W.Fast.tw12785933549870006241 : True := trivial
theorem PySem.W.Fast.tw852109711053392392 : True := trivial
theorem PySem.W.Fast.tw7368341592198661941 : True := trivial
theorem PySem.W.Fast.tw5080534990163311533 : True := trivial
theorem PySem.W.Fast.tw2073628380628653688 : True := trivial
theorem PySem.W.Fast.tw12893015628893431722 : True := trivial
theorem PySem.W.Fast.tw5972328959318460378 : True := trivial
theorem PySem.W.Fast.tw17486174675876440483 : True := trivial
theorem PySem.W.Fast.tw12014962719011390452 : True := trivial
theorem PySem.W.Fast.tw7189615761589366283 : True := trivial
theorem PySem.W.Fast.tw12703483502609588607 : True := trivial
theorem PySem.W.Fast.tw14444622797251780054 : True := trivial
theorem PySem.W.Fast.tw313097903163642328 : True := trivial
theorem PySem.W.Fast.tw14667658706155984594 : True := trivial
theorem PySem.W.Fast.tw5263600504779520854 : True := trivial
theorem PySem.W.Fast.tw1950755997497514866 : True := trivial
theorem PySem.W.Fast.tw14736610195464104094 : True := trivial
theorem PySem.W.Fast.tw2347178071174439178 : True := trivial
theorem PySem.W.Fast.tw11492927026296084056 : True := trivial
theorem PySem.W.Fast.tw653986184187616056 : True := trivial
theorem PySem.W.Fast.tw13012121630122086246 : True := trivial
theorem PySem.W.Fast.tw14483826900605478671 : True := trivial
theorem PySem.W.Fast.tw9569098051656556487 : True := trivial
theorem PySem.W.Fast.tw5064549983459691056 : True := trivial
theorem PySem.W.Fast.tw16641208707413454014 : True := trivial
theorem PySem.W.Fast.tw15328897524806397906 : True := trivial
theorem PySem.W.Fast.tw13325521017533922512 : True := trivial
theorem PySem.W.Fast.tw4623038110286970652 : True := trivial
theorem PySem.W.Fast.tw14017361194642416455 : True := trivial
theorem PySem.W.Fast.tw12228663424904813874 : True := trivial
theorem PySem.W.Fast.tw4217461283791715971 : True := trivial
theorem PySem.W.Fast.tw14988702025370600333 : True := trivial
theorem PySem.W.Fast.tw12453872403011736007 : True := trivial
theorem PySem.W.Fast.tw15844171680557025449 : True := trivial
theorem PySem.W.Fast.tw3942746534387605729 : True := trivial
theorem PySem.W.Fast.tw3844638054316549996 : True := trivial
theorem PySem.W.Fast.tw12553577116214205309 : True := trivial
theorem PySem.W.Fast.tw7391370251884220332 : True := trivial
theorem PySem.W.Fast.tw15570572169660619175 : True := trivial
theorem PySem.W.Fast.tw5376593041487072424 : True := trivial
theorem PySem.W.Fast.tw9152998862571513457 : True := trivial
theorem PySem.W.Fast.tw5821530972402984044 : True := trivial
theorem PySem.W.Fast.tw8657198788442151469 : True := trivial
theorem PySem.W.Fast.tw15520157479744527686 : True := trivial
theorem PySem.W.Fast.tw17021489258046071114 : True := trivial
theorem PySem.W.Fast.tw6510825157990984638 : True := trivial
theorem PySem.W.Fast.tw10286243304573694140 : True := trivial
theorem PySem.W.Fast.tw3043855506103688011 : True := trivial
theorem PySem.W.Fast.tw17030788618647645638 : True := trivial
theorem PySem.W.Fast.tw3591253589128675396 : True := trivial
theorem PySem.W.Fast.tw7631433718050865644 : True := trivial
theorem PySem.W.Fast.tw5463866326460980956 : True := trivial
theorem PySem.W.Fast.tw11065406403482494321 : True := trivial
theorem PySem.W.Fast.tw10969261825845423747 : True := trivial
theorem PySem.W.Fast.tw10768137888101751682 : True := trivial
theorem PySem.W.Fast.tw2064549513803406968 : True := trivial
theorem PySem.W.Fast.tw4777636314103348853 : True := trivial
theorem PySem.W.Fast.tw1895221800170825196 : True := trivial
theorem PySem.W.Fast.tw9336781179168893977 : True := trivial
theorem PySem.W.Fast.tw3300105914060285689 : True := trivial
theorem PySem.W.Fast.tw15808962809253979955 : True := trivial
theorem PySem.W.Fast.tw5608341223363222719 : True := trivial
theorem PySem.W.Fast.tw14265370724443147994 : True := trivial
theorem PySem.W.Fast.tw1302645706368139628 : True := trivial
theorem PySem.W.Fast.tw16122110549516243474 : True := trivial
theorem PySem.W.Fast.tw12188235900720350373 : True := trivial
theorem PySem.W.Fast.tw11610025052959851161 : True := trivial
theorem PySem.W.Fast.tw10474033373683063723 : True := trivial
theorem PySem.W.Fast.tw13337403194996551545 : True := trivial
theorem PySem.W.Fast.tw3455882034264425303 : True := trivial
theorem PySem.W.Fast.tw9123735732050618624 : True := trivial
theorem PySem.W.Fast.tw9613674573071942594 : True := trivial
theorem PySem.W.Fast.tw1809017597298994185 : True := trivial
theorem PySem.W.Fast.tw14345918266462630476 : True := trivial
theorem PySem.W.Fast.tw789478058453782392 : True := trivial
theorem PySem.W.Fast.tw13511383883285300595 : True := trivial
theorem PySem.W.Fast.tw4396739058764310397 : True := trivial
theorem PySem.W.Fast.tw6770851461431443312 : True := trivial
theorem PySem.W.Fast.tw1641724168897474550 : True := trivial
theorem PySem.W.Fast.tw17080916186840731218 : True := trivial
theorem PySem.W.Fast.tw1331483514546706180 : True := trivial
theorem PySem.W.Fast.tw2787362892731982137 : True := trivial
theorem PySem.W.Fast.tw15153983921499134481 : True := trivial
theorem PySem.W.Fast.tw7625491650620845808 : True := trivial
theorem PySem.W.Fast.tw5920894251300528321 : True := trivial
theorem PySem.W.Fast.tw14986369154307041536 : True := trivial
theorem PySem.W.Fast.tw5369418891790064261 : True := trivial
theorem PySem.W.Fast.tw5382870286910580157 : True := trivial
theorem PySem.W.Fast.tw12885020615127806259 : True := trivial
theorem PySem.W.Fast.tw4210173803905242480 : True := trivial
theorem PySem.W.Fast.tw14466200815150291569 : True := trivial
theorem PySem.W.Fast.tw5193464710437762841 : True := trivial
theorem PySem.W.Fast.tw17776974064121623622 : True := trivial
theorem PySem.W.Fast.tw6590823246017782540 : True := trivial
theorem PySem.W.Fast.tw13117617694186836230 : True := trivial
theorem PySem.W.Fast.tw8491044489985620868 : True := trivial
theorem PySem.W.Fast.tw3334887527842657753 : True := trivial
theorem PySem.W.Fast.tw7406408814415280756 : True := trivial
theorem PySem.W.Fast.tw2597344702325419805 : True := trivial
theorem PySem.W.Fast.tw1102533425177540360 : True := trivial
theorem PySem.W.Fast.tw10763200095777558064 : True := trivial
theorem PySem.W.Fast.tw10562099147770941532 : True := trivial
theorem PySem.W.Fast.tw5762832159657264705 : True := trivial
theorem PySem.W.Fast.tw7219674101349861270 : True := trivial
theorem PySem.W.Fast.tw17193165137365469157 : True := trivial
theorem PySem.W.Fast.tw17817865790298440358 : True := trivial
theorem PySem.W.Fast.tw18297425614151862188 : True := trivial
theorem PySem.W.Fast.tw6042927371934072838 : True := trivial
theorem PySem.W.Fast.tw10925950079652751321 : True := trivial
theorem PySem.W.Fast.tw3411995898891266930 : True := trivial

namespace My
open PySem L2 PyProof.Rows
local macro_rules | `(tactic| wp_walk using $xs:term,*) => `(tactic| simp only [rPopAt, rStarts, rSlStrX, tKTab, rKTab, tKIn, for_eqZM, comp_eqZM, comp_eqTI, gTup, rJoinD, rJoinW, rMulS, rIxQ, rExtend, tDGet1, tDIn, sDPut, tDNewK, rRep, rEqD, rNeD, for_eqQ, comp_eqQ, for_eqVL, tCalV, tLam, tCalF, for_eqE, rIndex, for_eqZN, comp_eqZN, comp_eqZ3, tKwK, rMxK, for_eqZL, comp_eqZL, rCatL, for_eqX, comp_eqX, rFind, tFR, rSlStr, rUpper, rJoin, tBM0, tBM, tyV, for_eqEL, rSlTA, tTryN, caughtN, catchN, comp_eqE, comp_eqEI, rNeT, rNeL, tRaise, tTry, tCallX, caughtBy, goneEnds, tTupRev, rCatA, rEqL, rEqT, for_eqV, for_eqZ, comp_eqZ, for_eqR3, comp_eqR3, rCatS, rSlTS, tSl, tNoPart, tPart, rSetL, gSub, rIxT, tRet, tRetN, tNext, tVar, tC, tOp, tUn, rI, rI0, rU, rEq, rNe, tTest, tB, tNot, tAnd, tOr, tAndV, tOrV, tNotV, tIf, tCall, tCB, tNil, tCons, tChain, tLst, tTup, tAsg, gName, tDrop, tNever, rIxL, rCat, CPow, CMul, CDiv, CDivN, CDivW, L2.start, scal, for_eqL, for_eqT, for_eqR1, for_eqR2, comp_eqL, comp_eqT, comp_eqR1, cxOf_K, cxComp_K, isi_ii, isi_ib, isi_bi, isi_bb, isi_it, tyS, tApp, gTupH, gCons, gNil, rInT, rInL, rIxLH, rIxTH, inV, eqV, flatV, upd_same, HO.lst.injEq, HO.tup.injEq, List.any_cons, List.any_nil, List.all_cons, List.all_nil, Bool.or_false, Bool.and_self, Bool.and_true, Bool.or_eq_true, beq_iff_eq, V.int.injEq, V.bl.injEq, V.str.injEq, V.ref.injEq, V.ty.injEq, List.map_cons, List.map_nil, List.length_cons, List.length_nil, List.cons_append, List.nil_append, List.getElem?_cons_zero, List.getElem?_cons_succ, Option.some.injEq, exists_eq_left', exists_eq_left, exists_and_left, List.cons.injEq, and_true, true_and, and_assoc, decide_eq_true_eq, List.set_cons_zero, List.set_cons_succ, List.replicate, Nat.sub_self, List.append_nil, Nat.add_sub_cancel, Nat.reduceAdd, Nat.reduceSub, Int.reduceLT, Int.reduceLE, Int.reduceNeg, Int.reduceSub, Int.reduceAdd, Int.reducePow, Int.reduceToNat, na2, na10, Nat.reducePow, Nat.reduceLT, if_true, if_false, Bool.not_true, Bool.not_false, Bool.false_eq_true, List.mem_cons, List.not_mem_nil, eq_self, true_or, or_true, or_false, false_or, String.reduceEq, Option.isSome_some, ne_eq, not_false_eq_true, not_true_eq_false, Bool.not_eq_true', decide_eq_false_iff_not, Bool.true_eq_false, $[$xs:term],*])
def top (i : Nat) : Stmt := PySem.Challenge.pw_sideloom_k16_lifted.main.body.getD i (.Pass ⟨0, 0, 0, 0⟩)
def prodI (ns : List Int) : Int := ns.foldl (fun a b => a * b) 1
theorem prod_step {ns : List Int} {i : Nat} {x : Int} (h : ns[i]? = some x) : prodI (ns.take (i + 1)) = prodI (ns.take i) * x := by
  unfold prodI
  rw [List.take_add_one, h, List.foldl_append]
  rfl
def sdOk (ns : List Int) : Prop := ∀ n ∈ ns, 0 ≤ n ∧ n < 1000000000000000000
def one1 (n : Int) : Int := if n = 0 then 1 else n
theorem one_ok {ns : List Int} (h : sdOk ns) : sdOk (ns.map one1) := by
  intro n hn
  obtain ⟨m, hm, rfl⟩ := List.mem_map.mp hn
  have := h m hm
  unfold one1
  split <;> omega
theorem sd_at {ns : List Int} (h : sdOk ns) {i : Nat} {x : V} (e : (ns.map V.int)[i]? = some x) : ∃ m, x = .int m ∧ ns[i]? = some m ∧ 0 ≤ m ∧ m < 1000000000000000000 := by
  rw [List.getElem?_map] at e
  cases q : ns[i]? with
  | none => rw [q] at e; cases e
  | some m =>
    rw [q] at e
    exact ⟨m, (Option.some.inj e).symm, rfl, h m (List.mem_of_getElem? q)⟩
def stP (ns : List Int) (j : Nat) : Int := prodI (ns.reverse.take j)
def stL (ns : List Int) (i : Nat) : List Int := (List.range i).map (stP ns)
theorem stL_succ (ns : List Int) (i : Nat) : stL ns (i + 1) = stL ns i ++ [stP ns i] := by
  unfold stL; rw [List.range_succ, List.map_append]; rfl
theorem stP_succ {ns : List Int} {i : Nat} {m : Int} (hi : i < ns.length) (h : ns[ns.length - 1 - i]? = some m) : stP ns (i + 1) = stP ns i * m := by
  unfold stP
  exact prod_step (by rw [List.getElem?_reverse hi]; exact h)
def bigI (ns : List Int) : Prop := 6 < ns.length ∨ 512 < prodI (ns.map one1)
theorem seq_with {A B : TS} {D : Ends} {σ : L2.St} {H : Hp} (J : L2.St → Hp → Prop) (h2 : ∀ σ H, J σ H → B D σ H) (h1 : ∀ R : L2.St → Hp → Prop, (∀ σ H, J σ H → R σ H) → A { D with nx := R } σ H) : tSeq A B D σ H := h1 (B D) h2
theorem st_len (ns : List Int) : ((stL ns ns.length).reverse.map V.int).length = ns.length := by rw [List.length_map, List.length_reverse, stL, List.length_map, List.length_range]
theorem mx_one {n : Int} (h : 0 ≤ n) : (if n > 1 then n else 1) = one1 n := by
  unfold one1
  by_cases h1 : n = 0
  · rw [if_pos h1, if_neg (by omega)]
  · rw [if_neg h1]; split <;> omega
theorem len_map (ns : List Int) : (ns.map V.int).length = ns.length := List.length_map ..
def good (ns ms : List Int) : Prop := ms.length = ns.length ∧ ∀ (i : Nat) m n, ms[i]? = some m → ns[i]? = some n → 0 ≤ m ∧ m < n
def dotI (ms ss : List Int) : Int := (List.zipWith (fun a b => a * b) ms ss).sum
def spplaceof (C : Addr) : Sp := fun vs H Q E => ∃ (a b : Addr) (ns ms : List Int), vs = [.ref a, .ref b] ∧ H a = some (.tup (ns.map V.int)) ∧ H b = some (.tup (ms.map V.int)) ∧ sdOk ns ∧ ns.length ≤ 63 ∧ ms.length ≤ 70 ∧ (¬ good ns ms → ∀ H', Same H H' → E (.ref C) none H') ∧ (good ns ms → ∀ H', Same H H' → Q (.int (dotI ms (stL ns ns.length).reverse)) H')
theorem int_at {ms : List Int} {i : Nat} {y : V} (ey : (ms.map V.int)[i]? = some y) : ∃ m, y = .int m ∧ ms[i]? = some m := by
  rw [List.getElem?_map] at ey
  cases q : ms[i]? with
  | none => rw [q] at ey; cases ey
  | some m => rw [q] at ey; exact ⟨m, (Option.some.inj ey).symm, rfl⟩
def lfI (ns : List Int) (place : Int) : Nat → Int
  | 0 => place
  | i + 1 => lfI ns place i / ns.reverse.getD i 1
def dgI (ns : List Int) (place : Int) (i : Nat) : Int := lfI ns place i % ns.reverse.getD i 1
def dgL (ns : List Int) (place : Int) (i : Nat) : List Int := (List.range i).map (dgI ns place)
theorem dgL_succ (ns : List Int) (p : Int) (i : Nat) : dgL ns p (i + 1) = dgL ns p i ++ [dgI ns p i] := by
  unfold dgL; rw [List.range_succ, List.map_append]; rfl
theorem rev_get {ns : List Int} {i : Nat} {m : Int} (hi : i < ns.length) (h : ns[ns.length - 1 - i]? = some m) : ns.reverse.getD i 1 = m := by
  rw [List.getD_eq_getElem?_getD, List.getElem?_reverse hi, h]; rfl
theorem prod_app (xs : List Int) (y : Int) : prodI (xs ++ [y]) = prodI xs * y := by unfold prodI; rw [List.foldl_append]; rfl
theorem prod_from (xs : List Int) : ∀ a : Int, xs.foldl (fun a b => a * b) a = a * prodI xs := by
  induction xs with
  | nil => intro a; show a = a * 1; rw [Int.mul_one]
  | cons x xs ih => intro a; show xs.foldl (fun a b => a * b) (a * x) = a * (xs.foldl (fun a b => a * b) (1 * x)); rw [ih, ih (1 * x), Int.one_mul, Int.mul_assoc]
theorem prod_cons (x : Int) (xs : List Int) : prodI (x :: xs) = x * prodI xs := by
  show xs.foldl (fun a b => a * b) (1 * x) = _
  rw [prod_from, Int.one_mul]
theorem prod_rev (ns : List Int) : prodI ns.reverse = prodI ns := by
  induction ns with
  | nil => rfl
  | cons x xs ih => rw [List.reverse_cons, prod_app, prod_cons, ih, Int.mul_comm]
theorem prod_nz {ns : List Int} (h : prodI ns ≠ 0) : ∀ n ∈ ns, n ≠ 0 := by
  induction ns with
  | nil => intro n hn; cases hn
  | cons x xs ih =>
    rw [prod_cons] at h
    intro n hn
    rcases List.mem_cons.mp hn with rfl | hn
    · intro z; rw [z, Int.zero_mul] at h; exact h rfl
    · exact ih (fun z => h (by rw [z, Int.mul_zero])) n hn
theorem stP_all (ns : List Int) : stP ns ns.length = prodI ns := by
  unfold stP; rw [← List.length_reverse, List.take_length, prod_rev]
theorem prod_nn {ns : List Int} (h : ∀ n ∈ ns, 0 ≤ n) : 0 ≤ prodI ns := by
  induction ns with
  | nil => decide
  | cons x xs ih => rw [prod_cons]; exact Int.mul_nonneg (h x (List.mem_cons_self ..)) (ih fun n hn => h n (List.mem_cons_of_mem _ hn))
theorem stP_nn {ns : List Int} (h : sdOk ns) (i : Nat) : 0 ≤ stP ns i := prod_nn fun n hn => (h n (List.mem_reverse.mp (List.mem_of_mem_take hn))).1
def totI (ns : List Int) (pl : Int) : Nat → Int
  | 0 => 0
  | i + 1 => totI ns pl i + dgI ns pl i * stP ns i
theorem at_rev (ns : List Int) {i : Nat} (hi : i < ns.length) : ∃ m, ns[ns.length - 1 - i]? = some m ∧ m ∈ ns := by
  have z : ns.length - 1 - i < ns.length := by omega
  exact ⟨ns[ns.length - 1 - i], List.getElem?_eq_getElem z, List.getElem_mem z⟩
theorem tot_inv {ns : List Int} {pl : Int} : ∀ i, i ≤ ns.length → totI ns pl i + stP ns i * lfI ns pl i = pl
  | 0, _ => by show 0 + 1 * pl = pl; omega
  | i + 1, h => by
    obtain ⟨m, hm, _⟩ := at_rev ns (i := i) (by omega)
    have ih := tot_inv (ns := ns) (pl := pl) i (by omega)
    rw [stP_succ (by omega) hm]
    show totI ns pl i + dgI ns pl i * stP ns i + stP ns i * m * (lfI ns pl i / _) = pl
    have rg := rev_get (by omega) hm
    unfold dgI
    rw [rg]
    have e := Int.mul_ediv_add_emod (lfI ns pl i) m
    have e2 : stP ns i * m * (lfI ns pl i / m) = stP ns i * (m * (lfI ns pl i / m)) := Int.mul_assoc ..
    have e3 : stP ns i * (m * (lfI ns pl i / m)) + stP ns i * (lfI ns pl i % m) = stP ns i * lfI ns pl i := by rw [← Int.mul_add, e]
    have e4 : lfI ns pl i % m * stP ns i = stP ns i * (lfI ns pl i % m) := Int.mul_comm ..
    omega
theorem lf_nn {ns : List Int} {pl : Int} (h : sdOk ns) (h0 : 0 ≤ pl) : ∀ i, i ≤ ns.length → 0 ≤ lfI ns pl i
  | 0, _ => h0
  | i + 1, hi => by
    obtain ⟨m, hm, mm⟩ := at_rev ns (i := i) (by omega)
    show 0 ≤ lfI ns pl i / _
    rw [rev_get (by omega) hm]
    exact Int.ediv_nonneg (lf_nn h h0 i (by omega)) (h m mm).1
theorem dg_in {ns : List Int} {pl : Int} (nz : ∀ n ∈ ns, n ≠ 0) (h : sdOk ns) {i : Nat} {m : Int} (hi : i < ns.length) (hm : ns[ns.length - 1 - i]? = some m) : 0 ≤ dgI ns pl i ∧ dgI ns pl i < m := by
  unfold dgI
  rw [rev_get hi hm]
  have mm := List.mem_of_getElem? hm
  have m0 := (h m mm).1
  have mz := nz m mm
  exact ⟨Int.emod_nonneg _ mz, Int.emod_lt_of_pos _ (by omega)⟩
theorem tot_nn {ns : List Int} {pl : Int} (nz : ∀ n ∈ ns, n ≠ 0) (h : sdOk ns) : ∀ i, i ≤ ns.length → 0 ≤ totI ns pl i
  | 0, _ => Int.le_refl _
  | i + 1, hi => by
    obtain ⟨m, hm, _⟩ := at_rev ns (i := i) (by omega)
    have a1 := tot_nn (pl := pl) nz h i (by omega)
    have a2 := Int.mul_nonneg (dg_in (pl := pl) nz h (by omega) hm).1 (stP_nn h i)
    show 0 ≤ totI ns pl i + _
    omega
theorem tot_all {ns : List Int} {pl : Int} (h : sdOk ns) (h0 : 0 ≤ pl) (h1 : pl < prodI ns) : totI ns pl ns.length = pl := by
  have nz := prod_nz (ns := ns) (by omega)
  have e := tot_inv (ns := ns) (pl := pl) ns.length (Nat.le_refl _)
  have t := tot_nn (pl := pl) nz h ns.length (Nat.le_refl _)
  have l := lf_nn h h0 ns.length (Nat.le_refl _)
  have z : lfI ns pl ns.length = 0 := by
    refine Decidable.byContradiction fun nl => ?_
    have g := Int.mul_le_mul_of_nonneg_left (show 1 ≤ lfI ns pl ns.length by omega) (stP_nn h ns.length)
    rw [stP_all] at g e
    omega
  rw [z, Int.mul_zero] at e
  omega
theorem dg_get {ns : List Int} {pl : Int} {k : Nat} (hk : k < ns.length) : (dgL ns pl ns.length).reverse[k]? = some (dgI ns pl (ns.length - 1 - k)) := by
  have l : (dgL ns pl ns.length).length = ns.length := by rw [dgL, List.length_map, List.length_range]
  have z : ns.length - 1 - k < ns.length := by omega
  rw [List.getElem?_reverse (by rw [l]; exact hk), l, dgL, List.getElem?_map, List.getElem?_range z]
  rfl
theorem dot_tot (ns : List Int) (pl : Int) : ∀ n, dotI (dgL ns pl n).reverse (stL ns n).reverse = totI ns pl n
  | 0 => rfl
  | n + 1 => by
    rw [dgL_succ, stL_succ, List.reverse_append, List.reverse_append]
    show dgI ns pl n * stP ns n + dotI (dgL ns pl n).reverse (stL ns n).reverse = totI ns pl n + dgI ns pl n * stP ns n
    rw [dot_tot ns pl n, Int.add_comm]
theorem dg_good {ns : List Int} {pl : Int} (nz : ∀ n ∈ ns, n ≠ 0) (h : sdOk ns) : good ns (dgL ns pl ns.length).reverse := by
  refine ⟨by rw [List.length_reverse, dgL, List.length_map, List.length_range], fun i m n hm hn => ?_⟩
  have hi := (List.getElem?_eq_some_iff.mp hn).1
  rw [dg_get hi] at hm
  cases hm
  exact dg_in nz h (by omega) (by rw [show ns.length - 1 - (ns.length - 1 - i) = i by omega]; exact hn)
def spatof (C : Addr) : Sp := fun vs H Q E => ∃ (a : Addr) (ns : List Int) (pl : Int), vs = [.ref a, .int pl] ∧ H a = some (.tup (ns.map V.int)) ∧ sdOk ns ∧ ns.length ≤ 63 ∧ ((pl < 0 ∨ prodI ns ≤ pl) → ∀ H', Same H H' → E (.ref C) none H') ∧ (0 ≤ pl → pl < prodI ns → ∀ H' p, Same H H' → H' p = some (.tup ((dgL ns pl ns.length).reverse.map V.int)) → Q (.ref p) H')
def cellI (ns : List Int) (k : Nat) : Int := ns.getD k 0
def fit (ns : List Int) : Prop := (∀ n ∈ ns, 0 ≤ n ∧ n ≤ 512) ∧ ns.length ≤ 6 ∧ 1 ≤ prodI (ns.map one1) ∧ prodI (ns.map one1) ≤ 512
def grow (ns : List Int) (free : Int) (i : Nat) : Prop := (∀ n ∈ ns, 0 ≤ n ∧ n ≤ 512) ∧ ns.length = i ∧ 1 ≤ free ∧ free ≤ 512 ∧ 1 ≤ prodI (ns.map one1) ∧ free * prodI (ns.map one1) ≤ 512
theorem grow_fit {ns : List Int} {free : Int} {i : Nat} (h : grow ns free i) (hi : i ≤ 6) : fit ns := by
  obtain ⟨h1, h2, h3, h4, h5, h6⟩ := h
  refine ⟨h1, by omega, h5, ?_⟩
  have := Int.mul_le_mul_of_nonneg_right h3 (show 0 ≤ prodI (ns.map one1) by omega)
  omega
theorem grow_step {ns : List Int} {free m : Int} {i : Nat} (h : grow ns free i) (m0 : 0 ≤ m) (m1 : m ≤ free) : grow (ns ++ [m]) (free / one1 m) (i + 1) := by
  obtain ⟨h1, h2, h3, h4, h5, h6⟩ := h
  have o1 : 1 ≤ one1 m ∧ one1 m ≤ free := by unfold one1; split <;> omega
  have d1 : 1 ≤ free / one1 m := by rw [Int.le_ediv_iff_mul_le (by omega)]; omega
  have d2 : free / one1 m * one1 m ≤ free := Int.ediv_mul_le _ (by omega)
  have d3 : free / one1 m ≤ 512 := Int.le_trans (Int.ediv_le_self _ (by omega)) h4
  have e : prodI ((ns ++ [m]).map one1) = prodI (ns.map one1) * one1 m := by rw [List.map_append]; exact prod_app _ _
  refine ⟨fun n hn => ?_, by rw [List.length_append, h2]; rfl, d1, d3, ?_, ?_⟩
  · rcases List.mem_append.mp hn with hn | hn
    · exact h1 n hn
    · cases List.mem_singleton.mp hn; omega
  · rw [e]
    have := Int.mul_le_mul_of_nonneg_right h5 (show 0 ≤ one1 m by omega)
    omega
  · rw [e]
    have z1 : free / one1 m * (prodI (ns.map one1) * one1 m) = free / one1 m * one1 m * prodI (ns.map one1) := by rw [Int.mul_comm (prodI _), Int.mul_assoc]
    have z2 := Int.mul_le_mul_of_nonneg_right d2 (show 0 ≤ prodI (ns.map one1) by omega)
    omega
def Pair (H : Hp) (p : Addr) (w : String) (ms : List Int) : Prop := ∃ q, H p = some (.tup [.str w, .ref q]) ∧ H q = some (.tup (ms.map V.int))
theorem Pair.same {H H' : Hp} {p : Addr} {w : String} {ms : List Int} (h : Pair H p w ms) (s : Same H H') : Pair H' p w ms := let ⟨q, a, b⟩ := h; ⟨q, s _ _ a, s _ _ b⟩
theorem atI_ok {ns : List Int} {k : Nat} (h : k < ns.length) : atI (ns.map V.int) (k : Int) = some (.int (ns.getD k 0)) := atI_nat (by rw [List.getElem?_map, List.getElem?_eq_getElem h, List.getD_eq_getElem?_getD, List.getElem?_eq_getElem h]; rfl)
instance (ns : List Int) : Decidable (bigI ns) := by unfold bigI; infer_instance
theorem cut_any (ns : List Int) (k : Nat) : cutV (ns.map V.int) none (some (k : Int)) = (ns.take k).map V.int := by
  unfold cutV; simp only [HT.sIx, len_map]; rw [if_neg (by omega), List.drop_zero, Nat.sub_zero, ← List.map_take]; congr 1
  by_cases c : k ≤ ns.length
  · congr 1; omega
  · rw [List.take_of_length_le (by omega), List.take_of_length_le (by omega)]
theorem eqVs_dec : ∀ (ns ms : List Int), eqVs (ns.map V.int) (ms.map V.int) = decide (ns = ms)
  | [], [] => rfl
  | [], m :: ms => by simp [eqVs]
  | n :: ns, [] => by simp [eqVs]
  | n :: ns, m :: ms => by
    by_cases e : n = m
    · subst e; simp [eqVs, eqV, eqVs_dec ns ms]
    · simp [eqVs, eqV, eqVs_dec ns ms, e]
def pairOk (x y : List Int) : Prop := if y.length < x.length then x.take y.length = y else y.take x.length = x
def pairL (x y : List Int) : List Int := if y.length < x.length then x else y
def spled (C : Addr) : Sp := fun vs H Q E => ∃ (a b : Addr) (ns ms : List Int), vs = [.ref a, .ref b] ∧ H a = some (.tup (ns.map V.int)) ∧ H b = some (.tup (ms.map V.int)) ∧ (¬ ms.take ns.length = ns → ∀ H', Same H H' → E (.ref C) none H') ∧ (ms.take ns.length = ns → ∀ H', Same H H' → Q (.ref b) H')
def sppaired (C : Addr) : Sp := fun vs H Q E => ∃ (a b : Addr) (ns ms : List Int), vs = [.ref a, .ref b] ∧ H a = some (.tup (ns.map V.int)) ∧ H b = some (.tup (ms.map V.int)) ∧ (¬ pairOk ns ms → ∀ H', Same H H' → E (.ref C) none H') ∧ (pairOk ns ms → ∀ H' p, Same H H' → H' p = some (.tup ((pairL ns ms).map V.int)) → Q (.ref p) H')
def sppicked (C : Addr) : Sp := fun vs H Q E => ∃ (a b c : Addr) (ns ms ks : List Int), vs = [.ref a, .ref b, .ref c] ∧ H a = some (.tup (ns.map V.int)) ∧ H b = some (.tup (ms.map V.int)) ∧ H c = some (.tup (ks.map V.int)) ∧ (¬ (pairOk ns ms ∧ pairOk (pairL ns ms) ks) → ∀ H', Same H H' → E (.ref C) none H') ∧ (pairOk ns ms → pairOk (pairL ns ms) ks → ∀ H' p, Same H H' → H' p = some (.tup ((pairL (pairL ns ms) ks).map V.int)) → Q (.ref p) H')
def tups (H : Hp) (ps : List Addr) (L : List (List Int)) : Prop := ps.length = L.length ∧ ∀ (i : Nat) p m, ps[i]? = some p → L[i]? = some m → H p = some (.tup (m.map V.int))
theorem tups.same {H H' : Hp} {ps : List Addr} {L : List (List Int)} (h : tups H ps L) (s : Same H H') : tups H' ps L := ⟨h.1, fun i p m a b => s _ _ (h.2 i p m a b)⟩
theorem tups.at {H : Hp} {ps : List Addr} {L : List (List Int)} (h : tups H ps L) {i : Nat} {v : V} (e : (ps.map V.ref)[i]? = some v) : ∃ p m, v = .ref p ∧ L[i]? = some m ∧ m ∈ L ∧ H p = some (.tup (m.map V.int)) := by
  rw [List.getElem?_map] at e
  cases q : ps[i]? with
  | none => rw [q] at e; cases e
  | some p =>
    rw [q] at e
    have hi := (List.getElem?_eq_some_iff.mp q).1
    rw [h.1] at hi
    have z := List.getElem?_eq_getElem hi
    exact ⟨p, L[i], (Option.some.inj e).symm, z, List.getElem_mem hi, h.2 i p _ q z⟩
theorem tups.snoc {H : Hp} {ps : List Addr} {L : List (List Int)} {p : Addr} {m : List Int} (h : tups H ps L) (hp : H p = some (.tup (m.map V.int))) : tups H (ps ++ [p]) (L ++ [m]) := by
  refine ⟨by rw [List.length_append, List.length_append, h.1]; rfl, fun i p' m' a b => ?_⟩
  by_cases c : i < ps.length
  · rw [List.getElem?_append_left c] at a
    rw [List.getElem?_append_left (by rw [← h.1]; exact c)] at b
    exact h.2 i p' m' a b
  · have e : i = ps.length := by have := (List.getElem?_eq_some_iff.mp a).1; simp at this; omega
    subst e
    rw [List.getElem?_append_right (Nat.le_refl _), Nat.sub_self] at a
    rw [h.1, List.getElem?_append_right (Nat.le_refl _), Nat.sub_self] at b
    cases a; cases b; exact hp
theorem tups.take {H : Hp} {ps : List Addr} {L : List (List Int)} (h : tups H ps L) (k : Nat) : tups H (ps.take k) (L.take k) := by
  refine ⟨by rw [List.length_take, List.length_take, h.1], fun i p m a b => ?_⟩
  have c : i < k := by have := (List.getElem?_eq_some_iff.mp a).1; rw [List.length_take] at this; omega
  rw [List.getElem?_take_of_lt c] at a b
  exact h.2 i p m a b
theorem sdOk_fit {ns : List Int} (h : fit ns) : sdOk ns := fun n hn => by have := h.1 n hn; omega
theorem sdOk_take {ns : List Int} (h : sdOk ns) (k : Nat) : sdOk (ns.take k) := fun n hn => h n (List.mem_of_mem_take hn)
def sm (ns : List Int) : Prop := ∀ n ∈ ns, 0 ≤ n ∧ n ≤ 1000000
theorem ixN_ok {n k : Nat} (h : k < n) : ixN n (k : Int) = some k := by unfold ixN; rw [if_pos (by omega)]; simp; omega
instance (ns : List Int) : Decidable (bigI ns) := by unfold bigI; infer_instance
def atD (ns : List Int) (p : Int) : List Int := (dgL ns p ns.length).reverse
theorem atD_len (ns : List Int) (p : Int) : (atD ns p).length = ns.length := by simp [atD, dgL]
theorem lf_snoc (ns : List Int) (n p : Int) : ∀ i, lfI (ns ++ [n]) p (i + 1) = lfI ns (p / n) i
  | 0 => by
    show p / (ns ++ [n]).reverse.getD 0 1 = p / n
    rw [List.reverse_append]; rfl
  | i + 1 => by
    show lfI (ns ++ [n]) p (i + 1) / (ns ++ [n]).reverse.getD (i + 1) 1 = lfI ns (p / n) i / ns.reverse.getD i 1
    rw [lf_snoc ns n p i, List.reverse_append]; rfl
theorem dg_snoc (ns : List Int) (n p : Int) (i : Nat) : dgI (ns ++ [n]) p (i + 1) = dgI ns (p / n) i := by
  unfold dgI
  rw [lf_snoc, List.reverse_append]; rfl
theorem dg_snoc0 (ns : List Int) (n p : Int) : dgI (ns ++ [n]) p 0 = p % n := by
  show p % (ns ++ [n]).reverse.getD 0 1 = p % n
  rw [List.reverse_append]; rfl
theorem atD_snoc (ns : List Int) (n p : Int) : atD (ns ++ [n]) p = atD ns (p / n) ++ [p % n] := by
  unfold atD dgL
  rw [List.length_append, List.length_singleton, List.range_succ_eq_map, List.map_cons, List.reverse_cons, dg_snoc0, List.map_map]
  congr 2
  exact List.map_congr_left fun i _ => dg_snoc ns n p i
theorem prod_two (a : List Int) : ∀ b : List Int, prodI (a ++ b) = prodI a * prodI b := by
  induction a with
  | nil => intro b; show prodI b = 1 * prodI b; rw [Int.one_mul]
  | cons x a ih => intro b; rw [List.cons_append, prod_cons, prod_cons, ih, Int.mul_assoc]
theorem prod_pos {ns : List Int} (h : ∀ n ∈ ns, 0 < n) : 0 < prodI ns := by
  induction ns with
  | nil => decide
  | cons x xs ih => rw [prod_cons]; exact Int.mul_pos (h x (List.mem_cons_self ..)) (ih fun n hn => h n (List.mem_cons_of_mem _ hn))
def allD (ns : List Int) : List (List Int) := (List.range (prodI ns).toNat).map fun p : Nat => atD ns (p : Int)
theorem range_mul (n : Nat) : ∀ P : Nat, List.range (P * n) = (List.range P).flatMap fun q => (List.range n).map fun k => q * n + k
  | 0 => by simp
  | P + 1 => by
    rw [Nat.succ_mul, List.range_add, range_mul n P, List.range_succ, List.flatMap_append]
    simp
theorem flat_congr {α β : Type} {f g : α → List β} : ∀ {l : List α}, (∀ a ∈ l, f a = g a) → l.flatMap f = l.flatMap g
  | [], _ => rfl
  | a :: l, h => by rw [List.flatMap_cons, List.flatMap_cons, h a List.mem_cons_self, flat_congr fun b hb => h b (List.mem_cons_of_mem _ hb)]
theorem all_snoc {ns : List Int} {n : Int} (h0 : ∀ m ∈ ns, 0 ≤ m) (hn : 0 ≤ n) : allD (ns ++ [n]) = (allD ns).flatMap fun t => (List.range n.toNat).map fun k : Nat => t ++ [(k : Int)] := by
  unfold allD
  have pn := prod_nn h0
  rw [prod_app, show (prodI ns * n).toNat = (prodI ns).toNat * n.toNat from Int.toNat_mul pn hn, range_mul, List.map_flatMap, List.flatMap_map]
  refine flat_congr fun q _ => ?_
  rw [List.map_map]
  refine List.map_congr_left fun k hk => ?_
  have kn : (k : Int) < n := by have := List.mem_range.mp hk; omega
  show atD (ns ++ [n]) ((q * n.toNat + k : Nat) : Int) = atD ns (q : Int) ++ [(k : Int)]
  have e : ((q * n.toNat + k : Nat) : Int) = (k : Int) + n * (q : Int) := by
    rw [Int.natCast_add, Int.natCast_mul, show ((n.toNat : Nat) : Int) = n by omega, Int.add_comm, Int.mul_comm]
  rw [atD_snoc, e, Int.add_mul_ediv_left _ _ (by omega), Int.add_mul_emod_self_left, Int.ediv_eq_zero_of_lt (by omega) kn, Int.emod_eq_of_lt (by omega) kn, Int.zero_add]
theorem all_len (ns : List Int) : (allD ns).length = (prodI ns).toNat := by simp [allD]
theorem all_get {ns : List Int} {i : Nat} (h : i < (prodI ns).toNat) : (allD ns)[i]? = some (atD ns (i : Int)) := by
  unfold allD
  rw [List.getElem?_map, List.getElem?_range h]; rfl
theorem flat_len {α β : Type} {n : Nat} {f : α → Nat → β} : ∀ {l : List α}, (l.flatMap fun t => (List.range n).map fun k => f t k).length = l.length * n
  | [] => by simp
  | a :: l => by rw [List.flatMap_cons, List.length_append, flat_len, List.length_map, List.length_range, List.length_cons, Nat.add_mul, Nat.one_mul, Nat.add_comm]
def plH (ns ms : List Int) : Int := dotI ms (stL ns ns.length).reverse
theorem plH_at {ns : List Int} {p : Int} (h : sdOk ns) (h0 : 0 ≤ p) (h1 : p < prodI ns) : plH ns (atD ns p) = p := by
  unfold plH atD
  rw [dot_tot, tot_all h h0 h1]
theorem nz_of {ns : List Int} {p : Int} (h : sdOk ns) (h0 : 0 ≤ p) (h1 : p < prodI ns) : ∀ n ∈ ns, 0 < n := fun n hn => by
  have a := prod_nz (ns := ns) (by omega) n hn
  have b := h n hn
  omega
theorem atD_good {ns : List Int} {p : Int} (h : sdOk ns) (h0 : 0 ≤ p) (h1 : p < prodI ns) : good ns (atD ns p) := dg_good (fun n hn => by have := nz_of h h0 h1 n hn; omega) h
theorem stP_cons (n : Int) (ns : List Int) {j : Nat} (h : j ≤ ns.length) : stP (n :: ns) j = stP ns j := by
  unfold stP
  rw [List.reverse_cons, List.take_append_of_le_length (by simpa using h)]
theorem stL_cons (n : Int) (ns : List Int) : (stL (n :: ns) (n :: ns).length).reverse = prodI ns :: (stL ns ns.length).reverse := by
  rw [List.length_cons, stL_succ, List.reverse_append, stP_cons n ns (Nat.le_refl _), stP_all]
  show prodI ns :: (stL (n :: ns) ns.length).reverse = _
  congr 2
  unfold stL
  exact List.map_congr_left fun j hj => stP_cons n ns (Nat.le_of_lt (List.mem_range.mp hj))
theorem plH_cons (n m : Int) (ns ms : List Int) : plH (n :: ns) (m :: ms) = m * prodI ns + plH ns ms := by
  unfold plH
  rw [stL_cons]
  show (List.zipWith _ (m :: ms) (prodI ns :: _)).sum = _
  rw [List.zipWith_cons_cons, List.sum_cons]; rfl
theorem st_snoc (ns : List Int) (n : Int) : (stL (ns ++ [n]) (ns ++ [n]).length).reverse = ((stL ns ns.length).reverse.map fun s => s * n) ++ [1] := by
  unfold stL
  rw [List.length_append, List.length_singleton, List.range_succ_eq_map, List.map_cons, List.reverse_cons, List.map_map, ← List.map_reverse, ← List.map_reverse, List.map_map]
  congr 1
  refine List.map_congr_left fun j _ => ?_
  show prodI ((ns ++ [n]).reverse.take (j + 1)) = prodI (ns.reverse.take j) * n
  rw [List.reverse_append]
  show prodI (n :: ns.reverse.take j) = _
  rw [prod_cons, Int.mul_comm]
theorem dot_scale (n : Int) : ∀ (ms ss : List Int), dotI ms (ss.map fun s => s * n) = dotI ms ss * n
  | [], _ => by simp [dotI]
  | _ :: _, [] => by simp [dotI]
  | m :: ms, s :: ss => by
    show m * (s * n) + dotI ms (ss.map fun s => s * n) = (m * s + dotI ms ss) * n
    rw [dot_scale n ms ss, Int.add_mul, Int.mul_assoc]
theorem dot_snoc1 (m : Int) : ∀ {ms ss : List Int}, ms.length = ss.length → dotI (ms ++ [m]) (ss ++ [1]) = dotI ms ss + m
  | [], [], _ => by simp [dotI]
  | [], _ :: _, h => by simp at h
  | _ :: _, [], h => by simp at h
  | a :: ms, s :: ss, h => by
    show a * s + dotI (ms ++ [m]) (ss ++ [1]) = a * s + dotI ms ss + m
    rw [dot_snoc1 m (by simpa using h), Int.add_assoc]
theorem plH_snoc {ns ms : List Int} (n m : Int) (h : ms.length = ns.length) : plH (ns ++ [n]) (ms ++ [m]) = plH ns ms * n + m := by
  unfold plH
  rw [st_snoc, dot_snoc1 m (by simp [stL, h]), dot_scale]
theorem plH_take {ns ms : List Int} {i : Nat} {n m : Int} (hl : ms.length = ns.length) (hn : ns[i]? = some n) (hm : ms[i]? = some m) : plH (ns.take (i + 1)) (ms.take (i + 1)) = plH (ns.take i) (ms.take i) * n + m := by
  rw [List.take_add_one, List.take_add_one, hn, hm]
  exact plH_snoc n m (by rw [List.length_take, List.length_take, hl])
theorem plH_in : ∀ {ns ms : List Int}, good ns ms → 0 ≤ plH ns ms ∧ plH ns ms < prodI ns
  | [], [], _ => by decide
  | [], _ :: _, h => by have := h.1; simp at this
  | _ :: _, [], h => by have := h.1; simp at this
  | n :: ns, m :: ms, h => by
    have g : good ns ms := ⟨by have := h.1; simpa using this, fun i a b e1 e2 => h.2 (i + 1) a b (by simpa using e1) (by simpa using e2)⟩
    have ih := plH_in g
    have m0 := h.2 0 m n rfl rfl
    rw [plH_cons, prod_cons]
    have e : n * prodI ns = m * prodI ns + (n - m) * prodI ns := by rw [← Int.add_mul]; congr 1; omega
    have e2 : prodI ns ≤ (n - m) * prodI ns := by
      have : 1 * prodI ns ≤ (n - m) * prodI ns := Int.mul_le_mul_of_nonneg_right (by omega) (by omega)
      omega
    have e3 : 0 ≤ m * prodI ns := Int.mul_nonneg m0.1 (by omega)
    omega
def RwI (H : Hp) (a : Addr) (ns : List Int) : Prop := H a = some (.lst (ns.map V.int)) ∨ H a = some (.tup (ns.map V.int))
theorem RwI.same {H H' : Hp} {a : Addr} {ns : List Int} (h : RwI H a ns) (s : Same H H') : RwI H' a ns := h.imp (s _ _) (s _ _)
def TbAt (H : Hp) (t : Addr) (ns cs : List Int) : Prop := ∃ a c, H t = some (.tup [.ref a, .ref c]) ∧ H a = some (.tup (ns.map V.int)) ∧ H c = some (.tup (cs.map V.int))
theorem TbAt.same {H H' : Hp} {t : Addr} {ns cs : List Int} (h : TbAt H t ns cs) (s : Same H H') : TbAt H' t ns cs := let ⟨a, c, h1, h2, h3⟩ := h; ⟨a, c, s _ _ h1, s _ _ h2, s _ _ h3⟩
def TpsAt (H : Hp) (ps : List Addr) (L : List (List Int)) : Prop := ps.length = L.length ∧ ∀ (i : Nat) t, L[i]? = some t → ∃ p, ps[i]? = some p ∧ H p = some (.tup (t.map V.int))
theorem TpsAt.mono {H H' : Hp} {ps : List Addr} {L : List (List Int)} (h : TpsAt H ps L) (s : ∀ a xs, H a = some (.tup xs) → H' a = some (.tup xs)) : TpsAt H' ps L := ⟨h.1, fun i t e => let ⟨p, e1, g⟩ := h.2 i t e; ⟨p, e1, s _ _ g⟩⟩
theorem TpsAt.snoc {H : Hp} {ps : List Addr} {L : List (List Int)} {t : List Int} {q : Addr} (h : TpsAt H ps L) (g : H q = some (.tup (t.map V.int))) : TpsAt H (ps ++ [q]) (L ++ [t]) := by
  refine ⟨by simp [h.1], fun i u e => ?_⟩
  rcases Nat.lt_trichotomy i L.length with hi | hi | hi
  · rw [List.getElem?_append_left hi] at e
    obtain ⟨p, e1, l⟩ := h.2 i u e
    exact ⟨p, by rw [List.getElem?_append_left (by rw [h.1]; exact hi)]; exact e1, l⟩
  · subst hi
    rw [List.getElem?_append_right (Nat.le_refl _), Nat.sub_self] at e
    cases (Option.some.inj e)
    exact ⟨q, by rw [List.getElem?_append_right (by rw [h.1]; exact Nat.le_refl _), h.1, Nat.sub_self]; rfl, g⟩
  · rw [List.getElem?_eq_none (by simp; omega)] at e; cases e
theorem at_int {r : List Int} {i x : Int} (i0 : 0 ≤ i) (h : r[i.toNat]? = some x) : atI (r.map V.int) i = some (.int x) := by
  have z := atI_nat (xs := r.map V.int) (j := i.toNat) (v := .int x) (by rw [List.getElem?_map, h]; rfl)
  rwa [show ((i.toNat : Nat) : Int) = i by omega] at z
def numI (n : Int) : Int := if n % 17 = 5 then [(-9223372036854775808 : Int), 9223372036854775807, -1, 4611686018427387904].getD (n / 17 % 4).toNat 0 else (n + 9223372036854775808) % 18446744073709551616 - 9223372036854775808
def SameP (T : Addr) (H H' : Hp) : Prop := ∀ a o, a ≠ T → H a = some o → H' a = some o
def sptableby (P : Program) (w : World) (K : PySem.W.Frag) (mg : Str → Option Value) (base : Heap) : Sp := fun vs H Q _ => ∃ (sa fa : Addr) (ns : List Int) (fn : Nat → Int), vs = [.ref sa, .ref fa] ∧ H sa = some (.tup (ns.map V.int)) ∧ sdOk ns ∧ ns.length ≤ 63 ∧ prodI ns ≤ 512 ∧ FnV H fa ∧ (∀ (i : Nat) H1 p Q', (i : Int) < prodI ns → Same H H1 → H1 p = some (.tup ((atD ns (i : Int)).map V.int)) → (∀ H2, Same H1 H2 → Q' (.int (fn i)) H2) → CallV P w K mg base 6 fa [.ref p] H1 Q') ∧ ∀ H' p q, Same H H' → H' q = some (.tup (((List.range (prodI ns).toNat).map fn).map V.int)) → H' p = some (.tup [.ref sa, .ref q]) → Q (.ref p) H'
theorem prod_one_le : ∀ {ns : List Int}, (∀ n ∈ ns, 0 ≤ n) → 0 ≤ prodI ns ∧ prodI ns ≤ prodI (ns.map one1)
  | [], _ => by decide
  | n :: ns, h => by
    obtain ⟨i0, i1⟩ := prod_one_le (ns := ns) fun m hm => h m (List.mem_cons_of_mem _ hm)
    have n0 := h n List.mem_cons_self
    rw [List.map_cons, prod_cons, prod_cons]
    have o : n ≤ one1 n ∧ 0 ≤ one1 n := by unfold one1; split <;> omega
    exact ⟨Int.mul_nonneg n0 i0, Int.mul_le_mul o.1 i1 i0 o.2⟩
theorem same_res {H H' : Hp} {cl : List (Str × Addr)} (s : Same (minC H cl) H') : Same H (resC H H' cl) := fun b o e => by
  by_cases h : ∃ q ∈ cl, q.2 = b
  · obtain ⟨q, hq, rfl⟩ := h
    rw [resC_in hq]; exact e
  · have h' : ∀ q ∈ cl, q.2 ≠ b := fun q hq z => h ⟨q, hq, z⟩
    rw [resC_out h']
    exact s _ _ (by rw [minC_out h']; exact e)
theorem min_tup {H : Hp} {cl : List (Str × Addr)} {vcs : List V} {a : Addr} {xs : List V} (hc : CelAt H cl vcs) (h : H a = some (.tup xs)) : minC H cl a = some (.tup xs) := by
  rw [minC_out fun q hq z => by obtain ⟨o, v, e⟩ := hc.mem hq; rw [z, h] at e; cases e]; exact h
theorem fc {α : Type} {p : α → Prop} {a : α} {l : List α} (h : p a) (t : ∀ n ∈ l, p n) : ∀ n ∈ a :: l, p n := fun n hn => by
  cases hn with
  | head => exact h
  | tail _ g => exact t n g
theorem fc0 {α : Type} {p : α → Prop} : ∀ n ∈ ([] : List α), p n := fun _ h => nomatch h
theorem hand_up {H2 H3 : Hp} {cl : List (Str × Addr)} (fr : ∀ q ∈ cl, H2 q.2 = none) (eq : ∀ b, (∀ q ∈ cl, ¬ q.2 = b) → H3 b = H2 b) : Same H2 H3 := fun b o e => by
  rw [eq b fun q hq z => by rw [← z, fr q hq] at e; cases e]; exact e
theorem hand_back {H2 H3 H4 : Hp} {cl : List (Str × Addr)} (fr : ∀ q ∈ cl, H2 q.2 = none) (eq : ∀ b, (∀ q ∈ cl, ¬ q.2 = b) → H3 b = H2 b) (s : Same H3 H4) : Same H2 (minC H4 cl) := fun b o e => by
  rw [minC_out fun q hq z => by rw [← z, fr q hq] at e; cases e]
  exact s _ _ (hand_up fr eq _ _ e)
theorem tab_ne {H : Hp} {T a : Addr} {pos : Pos} {qual : Str} {xs : List V} (h : TabOk H T pos qual) (e : H a = some (.tup xs)) : ¬ a = T := fun z => by
  obtain ⟨ps, h1, _⟩ := h
  rw [z, h1] at e; cases e
theorem min_tb {H : Hp} {cl : List (Str × Addr)} {vcs : List V} {t : Addr} {ns cs : List Int} (hc : CelAt H cl vcs) (h : TbAt H t ns cs) : TbAt (minC H cl) t ns cs := let ⟨a, c, h1, h2, h3⟩ := h; ⟨a, c, min_tup hc h1, min_tup hc h2, min_tup hc h3⟩
theorem tb_up {H H' : Hp} {t T : Addr} {ns cs : List Int} (h : TbAt H t ns cs) (up : ∀ a xs, H a = some (.tup xs) → H' a = some (.tup xs)) : TbAt H' t ns cs := let ⟨a, c, h1, h2, h3⟩ := h; ⟨a, c, up _ _ h1, up _ _ h2, up _ _ h3⟩
theorem sd_app {a b : List Int} (h : sdOk a) (g : sdOk b) : sdOk (a ++ b) := fun n hn => (List.mem_append.mp hn).elim (h n) (g n)
def SmT (H H' : Hp) : Prop := ∀ a o, (∀ ps, o ≠ .tbl ps) → H a = some o → H' a = some o
theorem SmT.refl (H : Hp) : SmT H H := fun _ _ _ e => e
theorem SmT.trans {H H1 H2 : Hp} (h : SmT H H1) (g : SmT H1 H2) : SmT H H2 := fun a o n e => g a o n (h a o n e)
theorem SmT.of {H H' : Hp} (h : Same H H') : SmT H H' := fun a o _ e => h a o e
theorem SmT.tup {H H' : Hp} (h : SmT H H') {a : Addr} {xs : List V} (e : H a = some (.tup xs)) : H' a = some (.tup xs) := h a _ (fun _ z => by cases z) e
theorem SmT.lst {H H' : Hp} (h : SmT H H') {a : Addr} {xs : List V} (e : H a = some (.lst xs)) : H' a = some (.lst xs) := h a _ (fun _ z => by cases z) e
theorem SmT.seq {K : PySem.W.Frag} {H H' : Hp} {a : Addr} {xs : List V} (e : SmT H H') (h : SqL K H a xs) : SqL K H' a xs := by
  rcases h with (h | ⟨o, h⟩) | h
  · exact .inl (.inl (e.lst h))
  · exact .inl (.inr ⟨o, e _ _ (fun _ z => by cases z) h⟩)
  · exact .inr h
theorem SmT.tb {H H' : Hp} (h : SmT H H') {t : Addr} {ns cs : List Int} (e : TbAt H t ns cs) : TbAt H' t ns cs := let ⟨a, c, h1, h2, h3⟩ := e; ⟨a, c, h.tup h1, h.tup h2, h.tup h3⟩
theorem SmT.ofP {H H' : Hp} {T : Addr} {pos : Pos} {qual : Str} (t : TabOk H T pos qual) (h : SameP T H H') : SmT H H' := fun a o n e => h a o (fun z => by
  obtain ⟨ps, h1, _⟩ := t
  rw [z, h1] at e
  exact n ps (Option.some.inj e).symm) e
theorem TabOk.other {H H' : Hp} {T T2 : Addr} {pos pos2 : Pos} {qual qual2 : Str} (ne : T2 ≠ T) (t : TabOk H T pos qual) (t2 : TabOk H T2 pos2 qual2) (h : SameP T H H') : TabOk H' T2 pos2 qual2 := by
  obtain ⟨ps, h1, h2, h3⟩ := t2
  refine ⟨ps, h _ _ ne h1, h2, h3.imp id fun ⟨c', e, g⟩ => ⟨c', e, (SmT.ofP t h) _ _ (fun _ z => by cases z) g⟩⟩
theorem take_le {ns : List Int} (h : ∀ n ∈ ns, 0 ≤ n) (i : Nat) : prodI (ns.take i) ≤ prodI (ns.map one1) := by
  have a := prod_one_le (ns := ns.take i) fun n hn => h n (List.mem_of_mem_take hn)
  have e : ns.map one1 = (ns.take i).map one1 ++ (ns.drop i).map one1 := by rw [← List.map_append, List.take_append_drop]
  have b : 1 ≤ prodI ((ns.drop i).map one1) := by
    have := prod_pos (ns := (ns.drop i).map one1) fun n hn => by
      obtain ⟨m, hm, rfl⟩ := List.mem_map.mp hn
      have := h m (List.mem_of_mem_drop hm)
      unfold one1; split <;> omega
    omega
  rw [e, prod_two]
  have := Int.mul_le_mul_of_nonneg_left b (show 0 ≤ prodI ((ns.take i).map one1) by omega)
  omega
theorem get_some {ns : List Int} {k : Nat} (hk : k < ns.length) : ns[k]? = some (ns.getD k 0) := by rw [List.getD_eq_getElem?_getD, List.getElem?_eq_getElem hk]; rfl
def wrapI (n : Int) : Int := (n + 9223372036854775808) % 18446744073709551616 - 9223372036854775808
def quoI (x y : Int) : Int := if y = 0 then 0 else wrapI (Int.fdiv x y)
def restI (x y : Int) : Int := if y = 0 then x else Int.fmod x y
def twiceI (w : Str) (x y : Int) : Int :=
  if w = "add" then wrapI (x + y) else if w = "sub" then wrapI (x - y) else if w = "mul" then wrapI (x * y) else if w = "quo" then quoI x y else if w = "rest" then restI x y
  else if w = "max" then (if x < y then y else x) else if w = "min" then (if y < x then y else x) else if w = "less" then (if x < y then 1 else 0) else if w = "like" then (if x = y then 1 else 0)
  else if w = "and" then Builtin.bitAnd x y else if w = "or" then Builtin.bitOr x y else Builtin.bitXor x y
theorem tw_add (x y : Int) : twiceI "add" x y = (wrapI (x + y)) := by unfold twiceI; rw [if_pos rfl]
theorem tw_sub (x y : Int) : twiceI "sub" x y = (wrapI (x - y)) := by unfold twiceI; rw [if_neg (by decide +kernel), if_pos rfl]
theorem tw_mul (x y : Int) : twiceI "mul" x y = (wrapI (x * y)) := by unfold twiceI; rw [if_neg (by decide +kernel), if_neg (by decide +kernel), if_pos rfl]
theorem tw_quo (x y : Int) : twiceI "quo" x y = (quoI x y) := by unfold twiceI; rw [if_neg (by decide +kernel), if_neg (by decide +kernel), if_neg (by decide +kernel), if_pos rfl]
theorem tw_rest (x y : Int) : twiceI "rest" x y = (restI x y) := by unfold twiceI; rw [if_neg (by decide +kernel), if_neg (by decide +kernel), if_neg (by decide +kernel), if_neg (by decide +kernel), if_pos rfl]
theorem tw_max (x y : Int) : twiceI "max" x y = (if x < y then y else x) := by unfold twiceI; rw [if_neg (by decide +kernel), if_neg (by decide +kernel), if_neg (by decide +kernel), if_neg (by decide +kernel), if_neg (by decide +kernel), if_pos rfl]
theorem tw_min (x y : Int) : twiceI "min" x y = (if y < x then y else x) := by unfold twiceI; rw [if_neg (by decide +kernel), if_neg (by decide +kernel), if_neg (by decide +kernel), if_neg (by decide +kernel), if_neg (by decide +kernel), if_neg (by decide +kernel), if_pos rfl]
theorem tw_less (x y : Int) : twiceI "less" x y = (if x < y then 1 else 0) := by unfold twiceI; rw [if_neg (by decide +kernel), if_neg (by decide +kernel), if_neg (by decide +kernel), if_neg (by decide +kernel), if_neg (by decide +kernel), if_neg (by decide +kernel), if_neg (by decide +kernel), if_pos rfl]
theorem tw_like (x y : Int) : twiceI "like" x y = (if x = y then 1 else 0) := by unfold twiceI; rw [if_neg (by decide +kernel), if_neg (by decide +kernel), if_neg (by decide +kernel), if_neg (by decide +kernel), if_neg (by decide +kernel), if_neg (by decide +kernel), if_neg (by decide +kernel), if_neg (by decide +kernel), if_pos rfl]
theorem tw_and (x y : Int) : twiceI "and" x y = (Builtin.bitAnd x y) := by unfold twiceI; rw [if_neg (by decide +kernel), if_neg (by decide +kernel), if_neg (by decide +kernel), if_neg (by decide +kernel), if_neg (by decide +kernel), if_neg (by decide +kernel), if_neg (by decide +kernel), if_neg (by decide +kernel), if_neg (by decide +kernel), if_pos rfl]
theorem tw_or (x y : Int) : twiceI "or" x y = (Builtin.bitOr x y) := by unfold twiceI; rw [if_neg (by decide +kernel), if_neg (by decide +kernel), if_neg (by decide +kernel), if_neg (by decide +kernel), if_neg (by decide +kernel), if_neg (by decide +kernel), if_neg (by decide +kernel), if_neg (by decide +kernel), if_neg (by decide +kernel), if_neg (by decide +kernel), if_pos rfl]
theorem tw_xor (x y : Int) : twiceI "xor" x y = (Builtin.bitXor x y) := by unfold twiceI; rw [if_neg (by decide +kernel), if_neg (by decide +kernel), if_neg (by decide +kernel), if_neg (by decide +kernel), if_neg (by decide +kernel), if_neg (by decide +kernel), if_neg (by decide +kernel), if_neg (by decide +kernel), if_neg (by decide +kernel), if_neg (by decide +kernel), if_neg (by decide +kernel)]
def inB (x : Int) : Prop := -9223372036854775808 ≤ x ∧ x < 9223372036854775808
theorem num_in (n : Int) : inB (numI n) := by
  unfold numI inB
  split
  · have h : n / 17 % 4 = 0 ∨ n / 17 % 4 = 1 ∨ n / 17 % 4 = 2 ∨ n / 17 % 4 = 3 := by omega
    rcases h with h | h | h | h <;> rw [h] <;> exact ⟨by decide, by decide⟩
  · omega
def absI (x : Int) : Int := if x < 0 then -x else x
def onceI (w : Str) (x : Int) : Int := if w = "neg" then wrapI (-x) else if w = "abs" then wrapI (absI x) else if w = "sign" then (if x < 0 then -1 else if 0 < x then 1 else 0) else if x = 0 then 1 else 0
def one4 : List Str := ["neg", "abs", "sign", "not"]
def two12 : List Str := ["add", "sub", "mul", "quo", "rest", "max", "min", "less", "like", "and", "or", "xor"]
def sponceX (C : Addr) : Sp := fun vs H Q E => ∃ (w : Str) (x : Int), vs = [.str w, .int x] ∧ okS 1000 w ∧ (w ∈ one4 → Q (.int (onceI w x)) H) ∧ (¬ w ∈ one4 → E (.ref C) none H)
def sptwiceX (C : Addr) : Sp := fun vs H Q E => ∃ (w : Str) (x y : Int), vs = [.str w, .int x, .int y] ∧ okS 1000 w ∧ inB x ∧ inB y ∧ (w ∈ two12 → Q (.int (twiceI w x y)) H) ∧ (¬ w ∈ two12 → E (.ref C) none H)
def ledV (ns cs ms : List Int) (i : Nat) : Int := cs.getD (plH ns ((atD ms (i : Int)).take ns.length)).toNat 0
def ledL (ns cs ms : List Int) : List Int := (List.range (prodI ms).toNat).map (ledV ns cs ms)
theorem led_len (ns cs ms : List Int) : (ledL ns cs ms).length = (prodI ms).toNat := by unfold ledL; rw [List.length_map, List.length_range]
theorem good_take {ns ms : List Int} (k : Nat) (g : good ns ms) : good (ns.take k) (ms.take k) := by
  obtain ⟨l, g⟩ := g
  refine ⟨by rw [List.length_take, List.length_take, l], fun i m n em en => ?_⟩
  rw [List.getElem?_take] at em en
  split at em
  · rename_i c; rw [if_pos c] at en; exact g i m n em en
  · cases em
def spleadT (T C : Addr) : Sp := fun vs H Q E => ∃ (t b : Addr) (ns cs ms : List Int), vs = [.ref t, .ref b] ∧ TbAt H t ns cs ∧ H b = some (.tup (ms.map V.int)) ∧ sdOk ns ∧ sdOk ms ∧ ns.length ≤ 20 ∧ ms.length ≤ 20 ∧ (cs.length : Int) = prodI ns ∧ prodI ms ≤ 512 ∧ TabOk H T ⟨110, 46, 110, 80⟩ "lead.<locals>.<lambda>" ∧ (¬ ms.take ns.length = ns → ∀ H', Same H H' → E (.ref C) none H') ∧ (ms.take ns.length = ns → ∀ H' p, SameP T H H' → TabOk H' T ⟨110, 46, 110, 80⟩ "lead.<locals>.<lambda>" → TbAt H' p ms (ledL ns cs ms) → Q (.ref p) H')
def speachT (C : Addr) : Sp := fun vs H Q E => ∃ (w : Str) (t : Addr) (ns cs : List Int), vs = [.str w, .ref t] ∧ okS 1000 w ∧ TbAt H t ns cs ∧ cs.length ≤ 900 ∧ (¬ w ∈ one4 → ∀ H', Same H H' → E (.ref C) none H') ∧ (w ∈ one4 → ∀ H' p, Same H H' → TbAt H' p ns (cs.map (onceI w)) → Q (.ref p) H')
theorem wrap_id {x : Int} (h : inB x) : wrapI x = x := by unfold inB at h; unfold wrapI; omega
theorem sign_sub (x : Int) : ((if 0 < x then 1 else 0) - if x < 0 then 1 else 0 : Int) = if x < 0 then -1 else if 0 < x then 1 else 0 := by split <;> split <;> omega
theorem pairL_led {x y : List Int} (h : pairOk x y) : (pairL x y).take x.length = x ∧ (pairL x y).take y.length = y := by
  unfold pairOk at h
  unfold pairL
  split at h
  · rename_i c; rw [if_pos c]; exact ⟨List.take_length, h⟩
  · rename_i c; rw [if_neg c]; exact ⟨h, List.take_length⟩
theorem pairL_or (x y : List Int) : pairL x y = x ∨ pairL x y = y := by unfold pairL; split <;> simp
theorem pairL_all {P : List Int → Prop} {x y : List Int} (hx : P x) (hy : P y) : P (pairL x y) := (pairL_or x y).elim (fun e => by rw [e]; exact hx) (fun e => by rw [e]; exact hy)
theorem led_in {ns cs ms : List Int} (h : ∀ c ∈ cs, inB c) : ∀ x ∈ ledL ns cs ms, inB x := fun x hx => by
  unfold ledL at hx
  obtain ⟨i, _, rfl⟩ := List.mem_map.mp hx
  unfold ledV
  rw [List.getD_eq_getElem?_getD]
  cases e : cs[(plH ns ((atD ms (i : Int)).take ns.length)).toNat]? with
  | none => exact ⟨by decide, by decide⟩
  | some c => exact h c (List.mem_of_getElem? e)
def prC (w : Str) (ns cs ms ds P : List Int) : List Int := List.zipWith (twiceI w) (ledL ns cs P) (ledL ms ds P)
def sppairT (T CW CU : Addr) : Sp := fun vs H Q E => ∃ (w : Str) (t u : Addr) (ns cs ms ds : List Int), vs = [.str w, .ref t, .ref u] ∧ okS 1000 w ∧ TbAt H t ns cs ∧ TbAt H u ms ds ∧ sdOk ns ∧ sdOk ms ∧ ns.length ≤ 20 ∧ ms.length ≤ 20 ∧ (cs.length : Int) = prodI ns ∧ (ds.length : Int) = prodI ms ∧ prodI ns ≤ 512 ∧ prodI ms ≤ 512 ∧ (∀ c ∈ cs, inB c) ∧ (∀ c ∈ ds, inB c) ∧ TabOk H T ⟨110, 46, 110, 80⟩ "lead.<locals>.<lambda>" ∧ (¬ w ∈ two12 → E (.ref CW) none H) ∧ (w ∈ two12 → ¬ pairOk ns ms → ∀ H', Same H H' → E (.ref CU) none H') ∧ (w ∈ two12 → pairOk ns ms → ∀ H' p, SmT H H' → TabOk H' T ⟨110, 46, 110, 80⟩ "lead.<locals>.<lambda>" → TbAt H' p (pairL ns ms) (prC w ns cs ms ds (pairL ns ms)) → Q (.ref p) H')
def pkC (ks es ns cs ms ds P : List Int) : List Int := (List.range (prodI P).toNat).map fun i => if ledV ks es P i ≠ 0 then ledV ns cs P i else ledV ms ds P i
def sppickT (T CU : Addr) : Sp := fun vs H Q E => ∃ (m t u : Addr) (ks es ns cs ms ds : List Int), vs = [.ref m, .ref t, .ref u] ∧ TbAt H m ks es ∧ TbAt H t ns cs ∧ TbAt H u ms ds ∧ sdOk ks ∧ sdOk ns ∧ sdOk ms ∧ ks.length ≤ 20 ∧ ns.length ≤ 20 ∧ ms.length ≤ 20 ∧ (es.length : Int) = prodI ks ∧ (cs.length : Int) = prodI ns ∧ (ds.length : Int) = prodI ms ∧ prodI ks ≤ 512 ∧ prodI ns ≤ 512 ∧ prodI ms ≤ 512 ∧ TabOk H T ⟨110, 46, 110, 80⟩ "lead.<locals>.<lambda>" ∧ (¬ (pairOk ks ns ∧ pairOk (pairL ks ns) ms) → ∀ H', Same H H' → E (.ref CU) none H') ∧ (pairOk ks ns → pairOk (pairL ks ns) ms → ∀ H' p, SmT H H' → TabOk H' T ⟨110, 46, 110, 80⟩ "lead.<locals>.<lambda>" → TbAt H' p (pairL (pairL ks ns) ms) (pkC ks es ns cs ms ds (pairL (pairL ks ns) ms)) → Q (.ref p) H')
theorem led_at {ns cs ms : List Int} {i : Nat} {x : Int} (h : (ledL ns cs ms)[i]? = some x) : x = ledV ns cs ms i := by
  unfold ledL at h
  rw [List.getElem?_map] at h
  obtain ⟨j, hj, rfl⟩ := Option.map_eq_some_iff.mp h
  rw [List.getElem?_range (by have := (List.getElem?_eq_some_iff.mp hj).1; rwa [List.length_range] at this)] at hj
  cases hj; rfl
theorem pick_led {ks ns ms : List Int} (h1 : pairOk ks ns) (h2 : pairOk (pairL ks ns) ms) : (pairL (pairL ks ns) ms).take ks.length = ks ∧ (pairL (pairL ks ns) ms).take ns.length = ns ∧ (pairL (pairL ks ns) ms).take ms.length = ms := by
  obtain ⟨a, b⟩ := pairL_led h1
  obtain ⟨c, d⟩ := pairL_led h2
  have l1 : ks.length ≤ (pairL ks ns).length := by unfold pairL; split <;> omega
  have l2 : ns.length ≤ (pairL ks ns).length := by unfold pairL; split <;> omega
  generalize pairL ks ns = Q at *
  generalize pairL Q ms = P at *
  refine ⟨?_, ?_, d⟩
  · have e : (P.take Q.length).take ks.length = P.take ks.length := by rw [List.take_take, Nat.min_eq_left l1]
    rw [← e, c, a]
  · have e : (P.take Q.length).take ns.length = P.take ns.length := by rw [List.take_take, Nat.min_eq_left l2]
    rw [← e, c, b]
def OkT (ns cs : List Int) : Prop := sdOk ns ∧ ¬ bigI ns ∧ (cs.length : Int) = prodI ns ∧ ∀ c ∈ cs, inB c
theorem big_l {ns : List Int} (h : ¬ bigI ns) : ns.length ≤ 6 := by unfold bigI at h; omega
theorem big_t {ns : List Int} (hs : sdOk ns) (h : ¬ bigI ns) (i : Nat) : prodI (ns.take i) ≤ 512 := Int.le_trans (take_le (fun n hn => (hs n hn).1) i) (by unfold bigI at h; omega)
theorem big_p {ns : List Int} (hs : sdOk ns) (h : ¬ bigI ns) : prodI ns ≤ 512 := by have := big_t hs h ns.length; rwa [List.take_length] at this
def Tabs3 (H : Hp) (l : Addr) (n0 c0 n1 c1 n2 c2 : List Int) : Prop := ∃ a b c, H l = some (.lst [.ref a, .ref b, .ref c]) ∧ TbAt H a n0 c0 ∧ TbAt H b n1 c1 ∧ TbAt H c n2 c2
theorem Tabs3.up {H H' : Hp} {l : Addr} {n0 c0 n1 c1 n2 c2 : List Int} (h : Tabs3 H l n0 c0 n1 c1 n2 c2) (s : SmT H H') : Tabs3 H' l n0 c0 n1 c1 n2 c2 := let ⟨a, b, c, h1, h2, h3, h4⟩ := h; ⟨a, b, c, s.lst h1, s.tb h2, s.tb h3, s.tb h4⟩
def badW (what : Int) (w : Str) : Prop := (what = 0 ∧ ¬ w ∈ one4) ∨ (what = 1 ∧ ¬ w ∈ two12)
def fits (what : Int) (n0 n1 n2 ms : List Int) : Prop := (what = 1 → pairOk n0 n1) ∧ (what = 2 → pairOk n2 n0 ∧ pairOk (pairL n2 n0) n1) ∧ (what = 3 → ms.take n0.length = n0)
def lngP (what : Int) (n0 n1 n2 ms : List Int) : List Int := if what = 0 then n0 else if what = 1 then pairL n0 n1 else if what = 2 then pairL (pairL n2 n0) n1 else ms
def dueV (what : Int) (w : Str) (n0 c0 n1 c1 n2 c2 P : List Int) (i : Nat) : Int := if what = 0 then onceI w (ledV n0 c0 P i) else if what = 1 then twiceI w (ledV n0 c0 P i) (ledV n1 c1 P i) else if what = 3 ∨ ¬ ledV n2 c2 P i = 0 then ledV n0 c0 P i else ledV n1 c1 P i
def dueL (what : Int) (w : Str) (n0 c0 n1 c1 n2 c2 P : List Int) : List Int := (List.range (prodI P).toNat).map (dueV what w n0 c0 n1 c1 n2 c2 P)
def toldR (H' : Hp) (f : Addr) (w' : Str) (what : Int) (w : Str) (n0 c0 n1 c1 n2 c2 ms : List Int) : Prop := (badW what w ∧ w' = "word") ∨ (¬ badW what w ∧ ¬ fits what n0 n1 n2 ms ∧ w' = "unlike") ∨ (¬ badW what w ∧ fits what n0 n1 n2 ms ∧ w' = "" ∧ TbAt H' f (lngP what n0 n1 n2 ms) (dueL what w n0 c0 n1 c1 n2 c2 (lngP what n0 n1 n2 ms)))
theorem one_one {n : Int} (_ : 0 ≤ n) : one1 (one1 n) = one1 n := by
  by_cases z : n = 0
  · subst z; decide
  · unfold one1; rw [if_neg z, if_neg z]
theorem one_nn {n : Int} (h : 0 ≤ n) : 0 ≤ one1 n := by unfold one1; split <;> omega
theorem big_take {ns : List Int} (hs : sdOk ns) (h : ¬ bigI ns) (j : Nat) : ¬ bigI (ns.take j) := by
  have e : (ns.map one1).map one1 = ns.map one1 := by
    rw [List.map_map]
    exact List.map_congr_left fun n hn => one_one (hs n hn).1
  have t := take_le (ns := ns.map one1) (fun n hn => by obtain ⟨m, hm, rfl⟩ := List.mem_map.mp hn; exact one_nn (hs m hm).1) j
  rw [e, ← List.map_take] at t
  unfold bigI at *
  rw [List.length_take]
  omega
theorem big_fit {ns : List Int} (h : fit ns) : ¬ bigI ns := by
  obtain ⟨_, h2, _, h4⟩ := h
  unfold bigI; omega
theorem same_put {H H' : Hp} (s : Same H H') {l : Addr} {o : HO} (h : H l = none) : Same H (upd H' l o) := fun a x e => by
  have ne : a ≠ l := fun z => by rw [z, h] at e; cases e
  rw [upd_ne ne]; exact s _ _ e
theorem same_none {H H' : Hp} (s : Same H H') {l : Addr} (h : H' l = none) : H l = none := by
  cases e : H l with
  | none => rfl
  | some o => rw [s _ _ e] at h; cases h
theorem sd_one {n : Int} (h0 : 0 ≤ n) (h1 : n < 1000) : sdOk [n] := fun m hm => by cases List.mem_singleton.mp hm; omega
theorem half_in {v : Int} (h : inB v) : inB (v * (v / 8 % 2)) := by
  have : v / 8 % 2 = 0 ∨ v / 8 % 2 = 1 := by omega
  rcases this with e | e <;> rw [e]
  · rw [Int.mul_zero]; exact ⟨by decide, by decide⟩
  · rw [Int.mul_one]; exact h
theorem ledV_in {ns cs ms : List Int} {i : Nat} (h : ∀ c ∈ cs, inB c) : inB (ledV ns cs ms i) := by
  unfold ledV
  rw [List.getD_eq_getElem?_getD]
  cases e : cs[(plH ns ((atD ms (i : Int)).take ns.length)).toNat]? with
  | none => exact ⟨by decide, by decide⟩
  | some c => exact h c (List.mem_of_getElem? e)
theorem OkT.l {ns cs : List Int} (o : OkT ns cs) : ns.length ≤ 20 := Nat.le_trans (big_l o.2.1) (by decide)
theorem OkT.p {ns cs : List Int} (o : OkT ns cs) : prodI ns ≤ 512 := big_p o.1 o.2.1
theorem OkT.c {ns cs : List Int} (o : OkT ns cs) : cs.length ≤ 900 := by have := o.p; have := o.2.2.1; omega
theorem four {what : Int} (h0 : 0 ≤ what) (h3 : what ≤ 3) : what = 0 ∨ what = 1 ∨ what = 2 ∨ what = 3 := by omega
theorem nb0 {w : Str} (h : w ∈ one4) : ¬ badW 0 w := fun z => z.elim (fun y => y.2 h) (fun y => absurd y.1 (by decide))
theorem nb1 {w : Str} (h : w ∈ two12) : ¬ badW 1 w := fun z => z.elim (fun y => absurd y.1 (by decide)) (fun y => y.2 h)
theorem nb2 {w : Str} : ¬ badW 2 w := fun z => z.elim (fun y => absurd y.1 (by decide)) (fun y => absurd y.1 (by decide))
theorem nb3 {w : Str} : ¬ badW 3 w := fun z => z.elim (fun y => absurd y.1 (by decide)) (fun y => absurd y.1 (by decide))
theorem pre_pair {P a b : List Int} (ha : P.take a.length = a) (hb : P.take b.length = b) : pairOk a b := by
  unfold pairOk
  split
  · rename_i c
    have : (P.take a.length).take b.length = P.take b.length := by rw [List.take_take, Nat.min_eq_left (Nat.le_of_lt c)]
    rw [ha, hb] at this
    exact this
  · rename_i c
    have : (P.take b.length).take a.length = P.take a.length := by rw [List.take_take, Nat.min_eq_left (by omega)]
    rw [hb] at this
    rw [this]; exact ha
def usedL (what : Int) (n0 n1 n2 ms : List Int) : List (List Int) := if what = 0 then [n0] else if what = 1 then [n0, n1] else if what = 2 then [n0, n1, n2] else [n0, ms]
theorem used0 (n0 n1 n2 ms : List Int) : usedL 0 n0 n1 n2 ms = [n0] := by unfold usedL; rw [if_pos rfl]
theorem used1 (n0 n1 n2 ms : List Int) : usedL 1 n0 n1 n2 ms = [n0, n1] := by unfold usedL; rw [if_neg (by decide), if_pos rfl]
theorem used2 (n0 n1 n2 ms : List Int) : usedL 2 n0 n1 n2 ms = [n0, n1, n2] := by unfold usedL; rw [if_neg (by decide), if_neg (by decide), if_pos rfl]
theorem used3 (n0 n1 n2 ms : List Int) : usedL 3 n0 n1 n2 ms = [n0, ms] := by unfold usedL; rw [if_neg (by decide), if_neg (by decide), if_neg (by decide)]
theorem lng0 (n0 n1 n2 ms : List Int) : lngP 0 n0 n1 n2 ms = n0 := by unfold lngP; rw [if_pos rfl]
theorem lng1 (n0 n1 n2 ms : List Int) : lngP 1 n0 n1 n2 ms = pairL n0 n1 := by unfold lngP; rw [if_neg (by decide), if_pos rfl]
theorem lng2 (n0 n1 n2 ms : List Int) : lngP 2 n0 n1 n2 ms = pairL (pairL n2 n0) n1 := by unfold lngP; rw [if_neg (by decide), if_neg (by decide), if_pos rfl]
theorem lng3 (n0 n1 n2 ms : List Int) : lngP 3 n0 n1 n2 ms = ms := by unfold lngP; rw [if_neg (by decide), if_neg (by decide), if_neg (by decide)]
theorem pre_all {what : Int} {n0 n1 n2 ms : List Int} (w0 : 0 ≤ what) (w3 : what ≤ 3) (f : fits what n0 n1 n2 ms) : lngP what n0 n1 n2 ms ∈ usedL what n0 n1 n2 ms ∧ ∀ a ∈ usedL what n0 n1 n2 ms, (lngP what n0 n1 n2 ms).take a.length = a := by
  rcases four w0 w3 with rfl | rfl | rfl | rfl
  · rw [used0, lng0]
    exact ⟨List.mem_singleton.mpr rfl, fun a ha => by cases List.mem_singleton.mp ha; exact List.take_length⟩
  · rw [used1, lng1]
    obtain ⟨l1, l2⟩ := pairL_led (f.1 rfl)
    refine ⟨(pairL_or n0 n1).elim (fun e => by rw [e]; simp) (fun e => by rw [e]; simp), fun a ha => ?_⟩
    simp only [List.mem_cons, List.not_mem_nil, or_false] at ha
    rcases ha with rfl | rfl
    · exact l1
    · exact l2
  · rw [used2, lng2]
    obtain ⟨p1, p2⟩ := f.2.1 rfl
    obtain ⟨l0, l1, l2⟩ := pick_led p1 p2
    refine ⟨?_, fun a ha => ?_⟩
    · rcases pairL_or (pairL n2 n0) n1 with e | e <;> rw [e]
      · rcases pairL_or n2 n0 with e | e <;> rw [e] <;> simp
      · simp
    simp only [List.mem_cons, List.not_mem_nil, or_false] at ha
    rcases ha with rfl | rfl | rfl
    · exact l1
    · exact l2
    · exact l0
  · rw [used3, lng3]
    refine ⟨by simp, fun a ha => ?_⟩
    simp only [List.mem_cons, List.not_mem_nil, or_false] at ha
    rcases ha with rfl | rfl
    · exact f.2.2 rfl
    · exact List.take_length
theorem fits_of {what : Int} {n0 n1 n2 ms : List Int} (w0 : 0 ≤ what) (w3 : what ≤ 3) (h : ∀ a ∈ usedL what n0 n1 n2 ms, ∀ b ∈ usedL what n0 n1 n2 ms, pairOk a b ∧ ¬ (what = 3 ∧ ms.length < a.length)) : fits what n0 n1 n2 ms := by
  rcases four w0 w3 with rfl | rfl | rfl | rfl
  · exact ⟨fun z => absurd z (by decide), fun z => absurd z (by decide), fun z => absurd z (by decide)⟩
  · rw [used1] at h
    exact ⟨fun _ => (h n0 (by simp) n1 (by simp)).1, fun z => absurd z (by decide), fun z => absurd z (by decide)⟩
  · rw [used2] at h
    refine ⟨fun z => absurd z (by decide), fun _ => ⟨(h n2 (by simp) n0 (by simp)).1, ?_⟩, fun z => absurd z (by decide)⟩
    rcases pairL_or n2 n0 with e | e <;> rw [e]
    · exact (h n2 (by simp) n1 (by simp)).1
    · exact (h n0 (by simp) n1 (by simp)).1
  · rw [used3] at h
    refine ⟨fun z => absurd z (by decide), fun z => absurd z (by decide), fun _ => ?_⟩
    obtain ⟨p, l⟩ := h n0 (by simp) ms (by simp)
    unfold pairOk at p
    rw [if_neg (fun z => l ⟨rfl, z⟩)] at p
    exact p
theorem fits_no {what : Int} {n0 n1 n2 ms a b : List Int} (w0 : 0 ≤ what) (w3 : what ≤ 3) (ha : a ∈ usedL what n0 n1 n2 ms) (hb : b ∈ usedL what n0 n1 n2 ms) (h : ¬ pairOk a b ∨ (what = 3 ∧ ms.length < a.length)) : ¬ fits what n0 n1 n2 ms := fun f => by
  obtain ⟨_, al⟩ := pre_all w0 w3 f
  rcases h with h | ⟨rfl, h⟩
  · exact h (pre_pair (al a ha) (al b hb))
  · have e := al a ha
    rw [lng3] at e
    have := congrArg List.length e
    rw [List.length_take] at this
    omega
theorem lng_is {what : Int} {n0 n1 n2 ms P : List Int} (w0 : 0 ≤ what) (w3 : what ≤ 3) (f : fits what n0 n1 n2 ms) (hP : P ∈ usedL what n0 n1 n2 ms) (hm : ∀ u ∈ usedL what n0 n1 n2 ms, u.length ≤ P.length) : lngP what n0 n1 n2 ms = P := by
  obtain ⟨m, al⟩ := pre_all w0 w3 f
  have e := al P hP
  rw [List.take_of_length_le (hm _ m)] at e
  exact e
theorem used_ok {what : Int} {n0 c0 n1 c1 n2 c2 ms : List Int} (w0 : 0 ≤ what) (w3 : what ≤ 3) (o0 : OkT n0 c0) (o1 : OkT n1 c1) (o2 : OkT n2 c2) (hs : sdOk ms) (nb : ¬ bigI ms) : ∀ a ∈ usedL what n0 n1 n2 ms, sdOk a ∧ ¬ bigI a := by
  have h0 : sdOk n0 ∧ ¬ bigI n0 := ⟨o0.1, o0.2.1⟩
  have h1 : sdOk n1 ∧ ¬ bigI n1 := ⟨o1.1, o1.2.1⟩
  have h2 : sdOk n2 ∧ ¬ bigI n2 := ⟨o2.1, o2.2.1⟩
  intro a ha
  rcases four w0 w3 with rfl | rfl | rfl | rfl
  · rw [used0] at ha; cases List.mem_singleton.mp ha; exact h0
  · rw [used1] at ha
    simp only [List.mem_cons, List.not_mem_nil, or_false] at ha
    rcases ha with rfl | rfl
    · exact h0
    · exact h1
  · rw [used2] at ha
    simp only [List.mem_cons, List.not_mem_nil, or_false] at ha
    rcases ha with rfl | rfl | rfl
    · exact h0
    · exact h1
    · exact h2
  · rw [used3] at ha
    simp only [List.mem_cons, List.not_mem_nil, or_false] at ha
    rcases ha with rfl | rfl
    · exact h0
    · exact ⟨hs, nb⟩
theorem mem_n0 {what : Int} {n0 n1 n2 ms : List Int} (w0 : 0 ≤ what) (w3 : what ≤ 3) : n0 ∈ usedL what n0 n1 n2 ms := by
  rcases four w0 w3 with rfl | rfl | rfl | rfl
  · rw [used0]; simp
  · rw [used1]; simp
  · rw [used2]; simp
  · rw [used3]; simp
theorem mem_n1 {what : Int} {n0 n1 n2 ms : List Int} (h : what = 1 ∨ what = 2) : n1 ∈ usedL what n0 n1 n2 ms := by
  rcases h with rfl | rfl
  · rw [used1]; simp
  · rw [used2]; simp
theorem mem_n2 {what : Int} {n0 n1 n2 ms : List Int} (h : what = 2) : n2 ∈ usedL what n0 n1 n2 ms := by subst h; rw [used2]; simp
theorem inV_str (w : Str) (L : List Str) : inV (.str w) (L.map V.str) = decide (w ∈ L) := by
  unfold inV
  rw [List.any_map]
  induction L with
  | nil => rfl
  | cons a L ih =>
    rw [List.any_cons, ih]
    by_cases h : a = w
    · subst h; simp [eqV]
    · have : (eqV (V.str a) (V.str w)) = false := by simp [eqV, h]
      simp only [Function.comp, this, Bool.false_or, List.mem_cons, Ne.symm h, false_or]
theorem used_pos (what : Int) (n0 n1 n2 ms : List Int) : 0 < (usedL what n0 n1 n2 ms).length := by
  unfold usedL
  split
  · exact Nat.zero_lt_one
  split
  · exact Nat.zero_lt_two
  split
  · exact Nat.succ_pos _
  · exact Nat.zero_lt_two
theorem tps0 {H : Hp} : TpsAt H [] [] := ⟨rfl, fun i t e => by cases e⟩
theorem take_mem {L : List (List Int)} {i : Nat} {a x : List Int} (e : L[i]? = some a) (h : x ∈ L.take (i + 1)) : x ∈ L.take i ∨ x = a := by
  rw [List.take_add_one, e] at h
  rcases List.mem_append.mp h with h | h
  · exact .inl h
  · exact .inr (List.mem_singleton.mp h)
theorem led_self {ns cs : List Int} {i : Nat} (hs : sdOk ns) (h : (i : Int) < prodI ns) : ledV ns cs ns i = cs.getD i 0 := by
  unfold ledV
  rw [List.take_of_length_le (by rw [atD_len]; exact Nat.le_refl _), plH_at hs (by omega) h, Int.toNat_natCast]
theorem due0 {w : Str} {n0 c0 n1 c1 n2 c2 : List Int} (o : OkT n0 c0) : c0.map (onceI w) = dueL 0 w n0 c0 n1 c1 n2 c2 n0 := by
  unfold dueL
  apply List.ext_getElem?
  intro i
  have cl := o.2.2.1
  rw [List.getElem?_map, List.getElem?_map]
  by_cases h : i < c0.length
  · rw [List.getElem?_range (by omega), List.getElem?_eq_getElem h]
    show some (onceI w c0[i]) = some (dueV 0 w n0 c0 n1 c1 n2 c2 n0 i)
    unfold dueV
    rw [if_pos rfl, led_self o.1 (by omega), List.getD_eq_getElem?_getD, List.getElem?_eq_getElem h]; rfl
  · rw [List.getElem?_eq_none (by omega), List.getElem?_eq_none (by rw [List.length_range]; omega)]; rfl
theorem zip_same {α β γ δ : Type} (f : β → γ → δ) (g : α → β) (h : α → γ) : ∀ l : List α, List.zipWith f (l.map g) (l.map h) = l.map fun x => f (g x) (h x)
  | [] => rfl
  | a :: l => by rw [List.map_cons, List.map_cons, List.zipWith_cons_cons, zip_same f g h l, List.map_cons]
theorem due1 {w : Str} {n0 c0 n1 c1 n2 c2 P : List Int} : prC w n0 c0 n1 c1 P = dueL 1 w n0 c0 n1 c1 n2 c2 P := by
  unfold prC ledL dueL
  rw [zip_same]
  exact List.map_congr_left fun i _ => by unfold dueV; rw [if_neg (by decide), if_pos rfl]
theorem due2 {w : Str} {n0 c0 n1 c1 n2 c2 P : List Int} : pkC n2 c2 n0 c0 n1 c1 P = dueL 2 w n0 c0 n1 c1 n2 c2 P := by
  unfold pkC dueL
  refine List.map_congr_left fun i _ => ?_
  unfold dueV
  rw [if_neg (show ¬ (2 : Int) = 0 by decide), if_neg (show ¬ (2 : Int) = 1 by decide)]
  by_cases h : ledV n2 c2 P i = 0
  · rw [if_neg (fun z => z h), if_neg (fun z => z.elim (by decide) (fun y => y h))]
  · rw [if_pos h, if_pos (.inr h)]
theorem due3 {w : Str} {n0 c0 n1 c1 n2 c2 P : List Int} : ledL n0 c0 P = dueL 3 w n0 c0 n1 c1 n2 c2 P := by
  unfold ledL dueL
  exact List.map_congr_left fun i _ => by unfold dueV; rw [if_neg (by decide), if_neg (by decide), if_pos (.inl rfl)]
def spltoldT (T : Addr) : Sp := fun vs H Q _ => ∃ (what : Int) (w : Str) (l s : Addr) (n0 c0 n1 c1 n2 c2 ms : List Int), vs = [.int what, .str w, .ref l, .ref s] ∧ 0 ≤ what ∧ what ≤ 3 ∧ okS 1000 w ∧ Tabs3 H l n0 c0 n1 c1 n2 c2 ∧ H s = some (.tup (ms.map V.int)) ∧ OkT n0 c0 ∧ OkT n1 c1 ∧ OkT n2 c2 ∧ sdOk ms ∧ ¬ bigI ms ∧ TabOk H T ⟨110, 46, 110, 80⟩ "lead.<locals>.<lambda>" ∧ ∀ H' p w' f, SmT H H' → TabOk H' T ⟨110, 46, 110, 80⟩ "lead.<locals>.<lambda>" → H' p = some (.tup [.str w', .ref f]) → toldR H' f w' what w n0 c0 n1 c1 n2 c2 ms → Q (.ref p) H'
def splaskT (T : Addr) : Sp := fun vs H Q _ => ∃ (what : Int) (w : Str) (l s : Addr) (n0 c0 n1 c1 n2 c2 ms : List Int), vs = [.int what, .str w, .ref l, .ref s] ∧ 0 ≤ what ∧ what ≤ 3 ∧ okS 1000 w ∧ Tabs3 H l n0 c0 n1 c1 n2 c2 ∧ H s = some (.tup (ms.map V.int)) ∧ OkT n0 c0 ∧ OkT n1 c1 ∧ OkT n2 c2 ∧ sdOk ms ∧ ¬ bigI ms ∧ TabOk H T ⟨110, 46, 110, 80⟩ "lead.<locals>.<lambda>" ∧ ∀ H', SmT H H' → TabOk H' T ⟨110, 46, 110, 80⟩ "lead.<locals>.<lambda>" → Q (.bl true) H'
def W21 : List Str := ["neg", "abs", "sign", "not", "add", "sub", "mul", "quo", "rest", "max", "min", "less", "like", "and", "or", "xor", "plus", "Add", "neg ", "", "ab"]
theorem w21_ok : ∀ w ∈ W21, okS 1000 w := by decide +kernel
theorem w21_len : W21.length = 21 := rfl
theorem w21_at {n : Int} (h0 : 0 ≤ n) (h1 : n < 21) : ∃ w, atI (W21.map V.str) n = some (.str w) ∧ w ∈ W21 := by
  obtain ⟨j, rfl⟩ := Int.eq_ofNat_of_zero_le h0
  have jl : j < W21.length := by rw [w21_len]; omega
  exact ⟨W21[j], atI_nat (by rw [List.getElem?_map, List.getElem?_eq_getElem jl]; rfl), List.getElem_mem _⟩
theorem two_at {a b : Int} {c : Prop} [Decidable c] : atI [V.int a, V.int b] (if c then 1 else 0) = some (.int (if c then b else a)) := by split <;> rfl
def TbL (G : Hp) (ys : List V) : Prop := ∀ y ∈ ys, ∃ p ns cs, y = .ref p ∧ TbAt G p ns cs ∧ OkT ns cs
theorem TbL.up {G G' : Hp} {ys : List V} (h : TbL G ys) (s : Same G G') : TbL G' ys := fun y hy => let ⟨p, ns, cs, e, t, o⟩ := h y hy; ⟨p, ns, cs, e, t.same s, o⟩
theorem TbL.snoc {G : Hp} {ys : List V} {p : Addr} {ns cs : List Int} (h : TbL G ys) (t : TbAt G p ns cs) (o : OkT ns cs) : TbL G (ys ++ [.ref p]) := fun y hy => (List.mem_append.mp hy).elim (h y) (fun z => ⟨p, ns, cs, List.mem_singleton.mp z, t, o⟩)
theorem TbL.three {G : Hp} {ys : List V} {l : Addr} (h : TbL G ys) (e : ys.length = 3) (hl : G l = some (.lst ys)) : ∃ n0 c0 n1 c1 n2 c2, Tabs3 G l n0 c0 n1 c1 n2 c2 ∧ OkT n0 c0 ∧ OkT n1 c1 ∧ OkT n2 c2 := by
  match ys, e with
  | [y0, y1, y2], _ =>
    obtain ⟨p0, n0, c0, rfl, t0, o0⟩ := h y0 (by simp)
    obtain ⟨p1, n1, c1, rfl, t1, o1⟩ := h y1 (by simp)
    obtain ⟨p2, n2, c2, rfl, t2, o2⟩ := h y2 (by simp)
    exact ⟨n0, c0, n1, c1, n2, c2, ⟨p0, p1, p2, hl, t0, t1, t2⟩, o0, o1, o2⟩
def splawT (K : PySem.W.Frag) (Ts : List Addr) : Sp := fun vs H Q _ => ∃ (a : Addr) (ns : List Int), vs = [.ref a] ∧ SqL K H a (ns.map V.int) ∧ ns.length ≤ 63 ∧ (∀ T ∈ Ts, H T = some (.tbl #[])) ∧ ∀ H', Q (.bl true) H'
abbrev samount : Stmt := top 14
def spamount : Sp := fun vs H Q _ => ∃ (a : Addr) (ns : List Int), vs = [.ref a] ∧ (H a = some (.lst (ns.map V.int)) ∨ H a = some (.tup (ns.map V.int))) ∧ sdOk ns ∧ Q (.int (prodI ns)) H
section
variable {P : Program} {w : World} {K : PySem.W.Frag} {mg : Str → Option Value} {base : Heap} {f : Addr} {fd : FuncData} {TL : Addr}
theorem scamount : FnScope ["sides", "product", "side"] ["sides"] (defScope samount) := ⟨rfl, rfl, rfl, by decide +kernel, rfl, by decide +kernel, by decide +kernel⟩
theorem okamount (F : Fun K "amount" "amount" samount f fd) : FnOk P w K mg base CX0 (1) f fd ["sides"] (spamount) := by
  have sc := scamount
  refine F.ok sc (fun vs H Q E h => ?_) (fun cdv A outer s H vs Q E hr h => ?_)
  · obtain ⟨a, ns, rfl, _⟩ := h; rfl
  obtain ⟨a, ns, rfl, ha | ha, hs, q⟩ := h
  · refine ⟨_, (pss_cons (ps_set (i := 1) sc.nd rfl (by first | exact Or.inl rfl | exact Or.inr rfl) pe_int) (pss_cons (ps_for PassesOwn.never rfl (pi_list (pv 0)) (pg_name (i := 2) sc.nd rfl (Or.inl rfl)) (pss_one (ps_set (i := 1) sc.nd rfl (by first | exact Or.inl rfl | exact Or.inr rfl) (pe_op op_mul (pv 1) (pv 2))))) (pss_one (ps_ret (pv 1))))), ?_⟩
    wp_walk using tSeq, tIfS
    refine LoopL.mk (xs := ns.map V.int) (.of ha) (fun i σ H' => H' = H ∧ ∃ y, σ = [some (.ref a), some (.int (prodI (ns.take i))), y]) ⟨rfl, _, rfl⟩ (fun i σ H' _ h => by rw [h.1]; exact .of ha) (fun i x σ H' e h => ?_) (fun σ H' h => ?_)
    · obtain ⟨h1, y, rfl⟩ := h
      subst h1
      obtain ⟨m, rfl, hm, m0, m1⟩ := sd_at hs e
      wp_walk using tSeq, tIfS
      rw [prod_step hm]
      exact ⟨.inr ⟨by omega, by omega⟩, rfl, _, rfl⟩
    · obtain ⟨h1, y, rfl⟩ := h
      subst h1
      wp_walk using tSeq, tIfS
      rw [len_map, List.take_length]
      exact q
  · refine ⟨_, (pss_cons (ps_set (i := 1) sc.nd rfl (by first | exact Or.inl rfl | exact Or.inr rfl) pe_int) (pss_cons (ps_for PassesOwn.never rfl (pi_tup (pv 0)) (pg_name (i := 2) sc.nd rfl (Or.inl rfl)) (pss_one (ps_set (i := 1) sc.nd rfl (by first | exact Or.inl rfl | exact Or.inr rfl) (pe_op op_mul (pv 1) (pv 2))))) (pss_one (ps_ret (pv 1))))), ?_⟩
    wp_walk using tSeq, tIfS
    refine LoopT.mk (xs := ns.map V.int) (.of ha) (fun i σ H' => H' = H ∧ ∃ y, σ = [some (.ref a), some (.int (prodI (ns.take i))), y]) ⟨rfl, _, rfl⟩ (fun i σ H' _ h => by rw [h.1]; exact .of ha) (fun i x σ H' e h => ?_) (fun σ H' h => ?_)
    · obtain ⟨h1, y, rfl⟩ := h
      subst h1
      obtain ⟨m, rfl, hm, m0, m1⟩ := sd_at hs e
      wp_walk using tSeq, tIfS
      rw [prod_step hm]
      exact ⟨.inr ⟨by omega, by omega⟩, rfl, _, rfl⟩
    · obtain ⟨h1, y, rfl⟩ := h
      subst h1
      wp_walk using tSeq, tIfS
      rw [len_map, List.take_length]
      exact q
end
abbrev sstridesof : Stmt := top 15
def spstridesof : Sp := fun vs H Q _ => ∃ (a : Addr) (ns : List Int), vs = [.ref a] ∧ H a = some (.tup (ns.map V.int)) ∧ sdOk ns ∧ ns.length ≤ 63 ∧ ∀ H' p, Same H H' → H' p = some (.tup ((stL ns ns.length).reverse.map V.int)) → Q (.ref p) H'
section
variable {P : Program} {w : World} {K : PySem.W.Frag} {mg : Str → Option Value} {base : Heap} {f : Addr} {fd : FuncData} {TL : Addr}
theorem scstridesof : FnScope ["sides", "strides", "stride", "side"] ["sides"] (defScope sstridesof) := ⟨rfl, rfl, rfl, by decide +kernel, rfl, by decide +kernel, by decide +kernel⟩
theorem okstridesof (F : Fun K "strides_of" "strides_of" sstridesof f fd) (ztuple : mg "tuple" = none) (zreversed : mg "reversed" = none) : FnOk P w K mg base CX0 (1) f fd ["sides"] (spstridesof) := by
  have sc := scstridesof
  refine F.ok sc (fun vs H Q E h => ?_) (fun cdv A outer s H vs Q E hr h => ?_)
  · obtain ⟨a, ns, rfl, _⟩ := h; rfl
  obtain ⟨a, ns, rfl, ha, hs, h63, q⟩ := h
  refine ⟨_, (pss_cons (ps_set (i := 1) sc.nd rfl (by first | exact Or.inl rfl | exact Or.inr rfl) (pe_lst pa_nil)) (pss_cons (ps_set (i := 2) sc.nd rfl (by first | exact Or.inl rfl | exact Or.inr rfl) pe_int) (pss_cons (ps_for PassesOwn.never rfl (pi_revT (by rfl) zreversed (pv 0)) (pg_name (i := 3) sc.nd rfl (Or.inl rfl)) (pss_cons (ps_expr (pe_app (pv 1) (pv 2))) (pss_one (ps_set (i := 2) sc.nd rfl (by first | exact Or.inl rfl | exact Or.inr rfl) (pe_op op_mul (pv 2) (pv 3)))))) (pss_one (ps_ret (pe_tupRev rfl (by rfl) (by rfl) ztuple zreversed (pv 1))))))), ?_⟩
  wp_walk using tSeq, tIfS
  refine ⟨small (by decide), fun p hp => ?_⟩
  refine LoopV.mk (xs := ns.map V.int) (.of (same_new hp _ _ _ ha)) (fun i σ H' => Same H H' ∧ H' p = some (.lst ((stL ns i).map V.int)) ∧ ∃ y, σ = [some (.ref a), some (.ref p), some (.int (stP ns i)), y]) ⟨same_new hp _, upd_same, _, rfl⟩ (fun i σ H' _ h => .of (h.1 _ _ ha)) (fun i x σ H' hi e h => ?_) (fun σ H' h => ?_)
  · obtain ⟨h1, h2, y, rfl⟩ := h
    obtain ⟨m, rfl, hm, m0, m1⟩ := sd_at hs e
    rw [len_map] at hi hm
    have sm : ((stL ns i).map V.int).length < sizeLine := by
      rw [List.length_map, stL, List.length_map, List.length_range]; exact small1000 (by omega)
    have s2 : Same H (upd H' p (.lst (((stL ns i).map V.int) ++ [V.int (stP ns i)]))) := fun b o e => by
      have nb : b ≠ p := fun z => by rw [z, hp] at e; cases e
      rw [upd_ne nb]; exact h1 b o e
    wp_walk using tSeq, tIfS
    rw [stP_succ hi hm, stL_succ, List.map_append]
    refine ⟨⟨_, h2⟩, _, h2, sm, .inr ⟨by omega, by omega⟩, s2, rfl, ?_⟩
    exact ⟨rfl, _, rfl⟩
  · obtain ⟨h1, h2, y, rfl⟩ := h
    rw [len_map] at h2
    wp_walk using tSeq, tIfS
    refine ⟨_, .of h2, fun p2 hp2 => ?_⟩
    rw [← List.map_reverse]
    exact q _ _ (h1.trans (same_new hp2 _)) upd_same
end
abbrev splaceof : Stmt := top 16
section
variable {P : Program} {w : World} {K : PySem.W.Frag} {mg : Str → Option Value} {base : Heap} {f : Addr} {fd : FuncData} {TL : Addr}
theorem scplaceof : FnScope ["sides", "at", "side", "coordinate"] ["sides", "at"] (defScope splaceof) := ⟨rfl, rfl, rfl, by decide +kernel, rfl, by decide +kernel, by decide +kernel⟩
theorem okplaceof (F : Fun K "place_of" "place_of" splaceof f fd) {CNoPlace : Addr} (nNoPlace : PySem.W.nsIn K mainGlobals "NoPlace" = some (some (.ref CNoPlace))) (cstridesof : Callee P w K mg base CX0 (1) "strides_of" ["sides"] spstridesof) (zlen : mg "len" = none) (zzip : mg "zip" = none) (zsum : mg "sum" = none) (xNoPlace : PySem.W.excIn K CNoPlace [.type "ValueError", .type "Exception", .type "BaseException", .type "object"] "ValueError.__new__" = true) : FnOk P w K mg base (CX1 P w) (2) f fd ["sides", "at"] ((spplaceof CNoPlace)) := by
  have sc := scplaceof
  refine F.okX sc (fun vs H Q E h => ?_) (fun cdv A outer s H vs Q E hr h => ?_)
  · obtain ⟨a, b, ns, ms, rfl, _⟩ := h; rfl
  obtain ⟨a, b, ns, ms, rfl, ha, hb, hs, h63, h70, q1, q2⟩ := h
  refine ⟨_, (pss_cons (ps_if (pt_cmpR op_ne (pe_callB call_len_seq (by rfl) zlen PySem.boot_len (pa_cons (pv 1) pa_nil)) (pe_callB call_len_seq (by rfl) zlen PySem.boot_len (pa_cons (pv 0) pa_nil)) (nomark _)) (pss_one (ps_raise PySem.F.excBase_ValueError rfl (by rfl) nNoPlace xNoPlace raises1 (pa_cons pe_str pa_nil))) pss_nil) (pss_cons (ps_for PassesOwn.leaving rfl (pi_zip (by rfl) zzip (pa_cons (pv 0) (pa_cons (pv 1) pa_nil))) (pg_tupH (n := 2) (pg_tup rfl (pgs_cons (pg_name (i := 2) sc.nd rfl (Or.inl rfl)) (pgs_cons (pg_name (i := 3) sc.nd rfl (Or.inl rfl)) pgs_nil)))) (pss_one (ps_if (pw_or (pt_cmpR op_lt (pv 3) pe_int (nomark _)) (pw_or1 (pt_cmpR op_ge (pv 3) (pv 2) (nomark _)))).pt (pss_one (ps_raise PySem.F.excBase_ValueError rfl (by rfl) nNoPlace xNoPlace raises1 (pa_cons pe_str pa_nil))) pss_nil))) (pss_one (ps_ret (pe_callB (call_sumL rfl) (by rfl) zsum boot_sum (pa_cons (pe_comp0 (own := ["coordinate", "stride"]) rfl (pi_zip (by rfl) zzip (pa_cons (pv 1) (pa_cons (pe_cal cstridesof hr (by rfl) pass0 (pa_cons (pv 0) pa_nil)) pa_nil))) (by decide) (by decide) rfl (by decide) (fun _ _ _ _ => (pg_tupH (n := 2) (pg_tup rfl (pgs_cons (pg_name (i := 0) (show (["coordinate", "stride"] : List Str).Nodup by decide +kernel) rfl (Or.inl rfl)) (pgs_cons (pg_name (i := 1) (show (["coordinate", "stride"] : List Str).Nodup by decide +kernel) rfl (Or.inl rfl)) pgs_nil))))) (fun _ _ _ _ => (pe_op op_mul (pv 0) (pv 1)))) pa_nil)))))), ?_⟩
  wp_walk using tSeq, tIfS
  refine ⟨_, .inr (.of hb), _, .inr (.of ha), ?_⟩
  rw [len_map, len_map]
  by_cases hl : ms.length = ns.length
  · rw [if_neg (by omega)]
    refine LoopZ.mk (xs := ns.map V.int) (ys := ms.map V.int) ns.length (by rw [len_map, len_map, hl, Nat.min_self]) (.of ha) (.of hb) (fun i σ H' => Same H H' ∧ (∀ (j : Nat) m n, j < i → ms[j]? = some m → ns[j]? = some n → 0 ≤ m ∧ m < n) ∧ ∃ y2 y3, σ = [some (.ref a), some (.ref b), y2, y3]) ⟨Same.refl _, (fun j m n hj => absurd hj (Nat.not_lt_zero _)), _, _, rfl⟩ (fun i σ H' _ h => ⟨.of (h.1 _ _ ha), .of (h.1 _ _ hb)⟩) (fun i x y σ H' T hi ex ey h hT => ?_) (fun σ H' h => ?_)
    · obtain ⟨h1, h2, y2, y3, rfl⟩ := h
      obtain ⟨n, rfl, hn, n0, n1⟩ := sd_at hs ex
      rw [List.getElem?_map] at ey
      obtain ⟨m, hm, rfl⟩ : ∃ m, ms[i]? = some m ∧ y = .int m := by
        cases q : ms[i]? with
        | none => rw [q] at ey; cases ey
        | some m => rw [q] at ey; exact ⟨m, rfl, (Option.some.inj ey).symm⟩
      wp_walk using tSeq, tIfS
      have s2 : Same H (upd H' T (.tup [V.int n, V.int m])) := h1.trans (same_new hT _)
      by_cases c1 : m < 0
      · rw [if_pos c1]; exact ⟨small (by decide), q1 (fun g => by have := g.2 i m n hm hn; omega) _ s2⟩
      rw [if_neg c1]
      by_cases c2 : n ≤ m
      · rw [if_pos c2]; exact ⟨small (by decide), q1 (fun g => by have := g.2 i m n hm hn; omega) _ s2⟩
      rw [if_neg c2]
      refine ⟨s2, fun j m' n' hj e1 e2 => ?_, _, rfl⟩
      by_cases hji : j = i
      · subst hji; rw [hm] at e1; rw [hn] at e2; cases e1; cases e2; omega
      · exact h2 j m' n' (by omega) e1 e2
    · obtain ⟨h1, h2, y2, y3, rfl⟩ := h
      have g : good ns ms := ⟨hl, fun i m n e1 e2 => h2 i m n (List.getElem?_eq_some_iff.mp e2).1 e1 e2⟩
      wp_walk using tSeq, tIfS, spstridesof
      refine ⟨ns, h1 _ _ ha, hs, h63, fun H1 p s1 hp => ?_⟩
      have hb1 := s1 _ _ (h1 _ _ hb)
      have lz : (List.zipWith (fun a b => a * b) ms (stL ns ns.length).reverse).length = ns.length := by rw [List.length_zipWith, List.length_reverse, stL, List.length_map, List.length_range, hl, Nat.min_self]
      refine CompZ.mk (xs := ms.map V.int) (ys := (stL ns ns.length).reverse.map V.int) ns.length (by rw [len_map, st_len, hl, Nat.min_self]) (.of hb1) (.of hp) (fun i zs σ H' => Same H1 H' ∧ zs = ((List.zipWith (fun a b => a * b) ms (stL ns ns.length).reverse).take i).map V.int ∧ ∃ y z, σ = [y, z]) ⟨Same.refl _, rfl, _, _, rfl⟩ (fun i zs σ H' _ h => ⟨.of (h.1 _ _ hb1), .of (h.1 _ _ hp)⟩) (fun i x y zs σ H' T hi ex ey h hT => ?_) (fun zs σ H' h q hq => ?_) (fun i zs σ H' h => ?_)
      · obtain ⟨h3, rfl, y4, y5, rfl⟩ := h
        obtain ⟨m, rfl, hm⟩ := int_at ex
        obtain ⟨t, rfl, ht⟩ := int_at ey
        obtain ⟨n, hn⟩ : ∃ n, ns[i]? = some n := ⟨ns[i], List.getElem?_eq_getElem hi⟩
        have mb := g.2 i m n hm hn
        have nb := hs n (List.mem_of_getElem? hn)
        have ez : (List.zipWith (fun a b => a * b) ms (stL ns ns.length).reverse)[i]? = some (m * t) := by rw [List.getElem?_zipWith, hm, ht]
        have et : ((List.zipWith (fun a b => a * b) ms (stL ns ns.length).reverse).take (i + 1)).map V.int = ((List.zipWith (fun a b => a * b) ms (stL ns ns.length).reverse).take i).map V.int ++ [V.int (m * t)] := by
          rw [List.take_add_one, ez, List.map_append]; rfl
        have sm : (((List.zipWith (fun a b => a * b) ms (stL ns ns.length).reverse).take i).map V.int).length < sizeLine := by rw [List.length_map, List.length_take]; exact small1000 (by omega)
        refine ⟨sm, ?_⟩
        wp_walk using tSeq, tIfS, et
        exact ⟨.inl ⟨by omega, by omega⟩, h3.trans (same_new hT _), _, rfl⟩
      · obtain ⟨h3, rfl, y4, y5, rfl⟩ := h
        rw [List.take_of_length_le (by omega)]
        exact ⟨q, rfl, _, .of upd_same, q2 g _ ((h1.trans s1).trans (h3.trans (same_new hq _)))⟩
      · obtain ⟨h3, rfl, _⟩ := h
        rw [List.length_map, List.length_take]; exact small1000 (by omega)
  · rw [if_pos (by omega)]
    exact ⟨small (by decide), q1 (fun g => hl g.1) _ (Same.refl _)⟩
end
abbrev satof : Stmt := top 17
section
variable {P : Program} {w : World} {K : PySem.W.Frag} {mg : Str → Option Value} {base : Heap} {f : Addr} {fd : FuncData} {TL : Addr}
theorem scatof : FnScope ["sides", "place", "at", "left", "side"] ["sides", "place"] (defScope satof) := ⟨rfl, rfl, rfl, by decide +kernel, rfl, by decide +kernel, by decide +kernel⟩
theorem okatof (F : Fun K "at_of" "at_of" satof f fd) {CNoPlace : Addr} (nNoPlace : PySem.W.nsIn K mainGlobals "NoPlace" = some (some (.ref CNoPlace))) (camount : Callee P w K mg base CX0 (1) "amount" ["sides"] spamount) (zreversed : mg "reversed" = none) (ztuple : mg "tuple" = none) (xNoPlace : PySem.W.excIn K CNoPlace [.type "ValueError", .type "Exception", .type "BaseException", .type "object"] "ValueError.__new__" = true) : FnOk P w K mg base (CX1 P w) (2) f fd ["sides", "place"] ((spatof CNoPlace)) := by
  have sc := scatof
  refine F.okX sc (fun vs H Q E h => ?_) (fun cdv A outer s H vs Q E hr h => ?_)
  · obtain ⟨a, ns, pl, rfl, _⟩ := h; rfl
  obtain ⟨a, ns, pl, rfl, ha, hs, h63, q1, q2⟩ := h
  refine ⟨_, (pss_cons (ps_if (pw_or (pt_cmpR op_lt (pv 1) pe_int (nomark _)) (pw_or1 (pt_cmpR op_ge (pv 1) (pe_cal camount hr (by rfl) pass0 (pa_cons (pv 0) pa_nil)) (nomark _)))).pt (pss_one (ps_raise PySem.F.excBase_ValueError rfl (by rfl) nNoPlace xNoPlace raises1 (pa_cons pe_str pa_nil))) pss_nil) (pss_cons (ps_set (i := 2) sc.nd rfl (by first | exact Or.inl rfl | exact Or.inr rfl) (pe_lst pa_nil)) (pss_cons (ps_set (i := 3) sc.nd rfl (by first | exact Or.inl rfl | exact Or.inr rfl) (pv 1)) (pss_cons (ps_for PassesOwn.leaving rfl (pi_revT (by rfl) zreversed (pv 0)) (pg_name (i := 4) sc.nd rfl (Or.inl rfl)) (pss_cons (ps_expr (pe_app (pv 2) (pe_op op_mod (pv 3) (pv 4)))) (pss_one (ps_set (i := 3) sc.nd rfl (by first | exact Or.inl rfl | exact Or.inr rfl) (pe_op op_fdivW (pv 3) (pv 4)))))) (pss_one (ps_ret (pe_tupRev rfl (by rfl) (by rfl) ztuple zreversed (pv 2)))))))), ?_⟩
  wp_walk using tSeq, tIfS, spamount
  by_cases c1 : pl < 0
  · rw [if_pos c1]; exact ⟨small (by decide), q1 (.inl c1) _ (Same.refl _)⟩
  rw [if_neg c1]
  refine ⟨ns, .inr ha, hs, ?_⟩
  by_cases c2 : prodI ns ≤ pl
  · rw [if_pos c2]; exact ⟨small (by decide), q1 (.inr c2) _ (Same.refl _)⟩
  rw [if_neg c2]
  have nz := prod_nz (ns := ns) (by omega)
  refine ⟨small (by decide), fun p hp => ?_⟩
  refine LoopV.mk (xs := ns.map V.int) (.of (same_new hp _ _ _ ha)) (fun i σ H' => Same H H' ∧ H' p = some (.lst ((dgL ns pl i).map V.int)) ∧ ∃ y, σ = [some (.ref a), some (.int pl), some (.ref p), some (.int (lfI ns pl i)), y]) ⟨same_new hp _, upd_same, _, rfl⟩ (fun i σ H' _ h => .of (h.1 _ _ ha)) (fun i x σ H' hi e h => ?_) (fun σ H' h => ?_)
  · obtain ⟨h1, h2, y, rfl⟩ := h
    obtain ⟨m, rfl, hm, m0, m1⟩ := sd_at hs e
    rw [len_map] at hi hm
    have mz := nz m (List.mem_of_getElem? hm)
    have rg := rev_get hi hm
    have sm : ((dgL ns pl i).map V.int).length < sizeLine := by
      rw [List.length_map, dgL, List.length_map, List.length_range]; exact small1000 (by omega)
    have d1 : dgI ns pl i = lfI ns pl i % m := by unfold dgI; rw [rg]
    have l1 : lfI ns pl (i + 1) = lfI ns pl i / m := by show lfI ns pl i / _ = _; rw [rg]
    have fd : (lfI ns pl i).fdiv m = lfI ns pl i / m := Int.fdiv_eq_ediv_of_nonneg _ m0
    have s2 : Same H (upd H' p (.lst (((dgL ns pl i).map V.int) ++ [V.int (lfI ns pl i % m)]))) := fun b o e => by
      have nb : b ≠ p := fun z => by rw [z, hp] at e; cases e
      rw [upd_ne nb]; exact h1 b o e
    wp_walk using tSeq, tIfS
    rw [l1, dgL_succ, List.map_append, d1, fd]
    exact ⟨⟨_, h2⟩, by omega, _, h2, sm, mz, by omega, by omega, s2, rfl, rfl, _, rfl⟩
  · obtain ⟨h1, h2, y, rfl⟩ := h
    rw [len_map] at h2
    wp_walk using tSeq, tIfS
    refine ⟨_, .of h2, fun p2 hp2 => ?_⟩
    rw [← List.map_reverse]
    exact q2 (by omega) (by omega) _ _ (h1.trans (same_new hp2 _)) upd_same
end
abbrev sallat : Stmt := top 18
def spallat : Sp := fun vs H Q _ => ∃ (a : Addr) (ns : List Int), vs = [.ref a] ∧ H a = some (.tup (ns.map V.int)) ∧ sdOk ns ∧ ns.length ≤ 63 ∧ prodI ns ≤ 512 ∧ ∀ H' l ps, Same H H' → H' l = some (.lst (ps.map V.ref)) → TpsAt H' ps (allD ns) → Q (.ref l) H'
section
variable {P : Program} {w : World} {K : PySem.W.Frag} {mg : Str → Option Value} {base : Heap} {f : Addr} {fd : FuncData} {TL : Addr}
theorem scallat : FnScope ["sides"] ["sides"] (defScope sallat) := ⟨rfl, rfl, rfl, by decide +kernel, rfl, by decide +kernel, by decide +kernel⟩
theorem okallat (F : Fun K "all_at" "all_at" sallat f fd) (catof : Callee P w K mg base (CX1 P w) (2) "at_of" ["sides", "place"] (spatof CNoPlace)) (camount : Callee P w K mg base CX0 (2) "amount" ["sides"] spamount) (zrange : mg "range" = none) : FnOk P w K mg base CX0 (3) f fd ["sides"] (spallat) := by
  have sc := scallat
  refine F.ok sc (fun vs H Q E h => ?_) (fun cdv A outer s H vs Q E hr h => ?_)
  · obtain ⟨a, ns, rfl, _⟩ := h; rfl
  obtain ⟨a, ns, rfl, ha, hs, h63, h512, q⟩ := h
  refine ⟨_, (pss_one (ps_ret (pe_comp (own := ["place"]) (fv := ["sides"]) (js := [0]) rfl (pi_range1 (by rfl) zrange (pa_cons (pe_cal camount hr (by rfl) pass0 (pa_cons (pv 0) pa_nil)) pa_nil)) rfl (by decide) rfl (by decide) (by first | exact fun _ _ h => h | exact cl_sub1 rfl | exact cl_sub2 rfl rfl | exact cl_sub3 rfl rfl rfl) (has_of (by rfl)) rfl (cap1 (by first | exact ⟨rfl, .inl rfl, .inl rfl⟩ | exact ⟨rfl, .inl rfl, .inr rfl⟩)) (fun _ _ _ _ => (pg_name (i := 0) (show (["place", "sides"] : List Str).Nodup by decide +kernel) rfl (Or.inl rfl))) (fun _ _ _ _ => (pe_cal catof hr (by rfl) passNo (pa_cons (pv 1) (pa_cons (pv 0) pa_nil))))))), ?_⟩
  have pn := prod_nn fun n hn => (hs n hn).1
  wp_walk using tSeq, tIfS, spamount
  refine ⟨ns, .inr ha, hs, by omega, by omega, ?_⟩
  refine CompR.mk (fun j ys σ G => ∃ ps : List Addr, Same H G ∧ ys = ps.map V.ref ∧ TpsAt G ps ((allD ns).take j) ∧ ∃ y, σ = [y, some (.ref a)]) ⟨[], Same.refl _, rfl, ⟨rfl, fun i t e => by simp at e⟩, _, rfl⟩ (fun j ys σ G hj h => ?_) (fun ys σ G h p hp => ?_)
  · obtain ⟨ps, sG, rfl, tp, y, rfl⟩ := h
    have pl := tp.1
    rw [List.length_take, all_len] at pl
    refine ⟨by rw [List.length_map]; exact small1000 (by omega), ?_⟩
    wp_walk using tSeq, tIfS, spatof
    refine ⟨ns, sG _ _ ha, hs, h63, (fun z => by omega), fun z1 z2 H1 p s1 hp => ⟨sG.trans s1, ps ++ [p], by rw [List.map_append]; rfl, ?_, _, rfl⟩⟩
    rw [List.take_add_one, all_get (by omega)]
    refine (tp.mono fun b xs e => s1 _ _ e).snoc ?_
    rw [hp, show (0 : Int) + (j : Int) = (j : Int) by omega]; rfl
  · obtain ⟨ps, sG, rfl, tp, y, rfl⟩ := h
    rw [List.take_of_length_le (by rw [all_len]; omega)] at tp
    exact q _ p ps (sG.trans (same_new hp _)) upd_same (tp.mono fun b xs e => same_new hp _ _ _ e)
end
abbrev swrapped : Stmt := top 7
def spwrapped : Sp := fun vs H Q _ => ∃ n : Int, vs = [.int n] ∧ Q (.int (wrapI n)) H
section
variable {P : Program} {w : World} {K : PySem.W.Frag} {mg : Str → Option Value} {base : Heap} {f : Addr} {fd : FuncData} {TL : Addr}
theorem scwrapped : FnScope ["n"] ["n"] (defScope swrapped) := ⟨rfl, rfl, rfl, by decide +kernel, rfl, by decide +kernel, by decide +kernel⟩
theorem okwrapped (F : Fun K "wrapped" "wrapped" swrapped f fd) {tLOW : Tok} (gLOW : mg "LOW" = some (.int (-9223372036854775808) tLOW)) : FnOk P w K mg base CX0 (1) f fd ["n"] (spwrapped) := by
  have sc := scwrapped
  refine F.ok sc (fun vs H Q E h => ?_) (fun cdv A outer s H vs Q E hr h => ?_)
  · obtain ⟨n, rfl, _⟩ := h; rfl
  obtain ⟨n, rfl, q⟩ := h
  refine ⟨_, (pss_one (ps_ret (pe_op op_add (pe_op op_mod (pe_op op_sub (pv 0) (pe_glob (v := .int (-9223372036854775808)) (by rfl) gLOW ⟨_, rfl⟩)) (pe_op op_pow pe_int pe_int)) (pe_glob (v := .int (-9223372036854775808)) (by rfl) gLOW ⟨_, rfl⟩)))), ?_⟩
  wp_walk using tSeq, tIfS
  have e : (n - -9223372036854775808) % 18446744073709551616 + -9223372036854775808 = wrapI n := by unfold wrapI; omega
  rw [e]; exact q
end
abbrev ssignof : Stmt := top 8
def spsignof : Sp := fun vs H Q _ => ∃ n : Int, vs = [.int n] ∧ Q (.int (if n < 0 then -1 else if 0 < n then 1 else 0)) H
section
variable {P : Program} {w : World} {K : PySem.W.Frag} {mg : Str → Option Value} {base : Heap} {f : Addr} {fd : FuncData} {TL : Addr}
theorem scsignof : FnScope ["x"] ["x"] (defScope ssignof) := ⟨rfl, rfl, rfl, by decide +kernel, rfl, by decide +kernel, by decide +kernel⟩
theorem oksignof (F : Fun K "sign_of" "sign_of" ssignof f fd) : FnOk P w K mg base CX0 (1) f fd ["x"] (spsignof) := by
  have sc := scsignof
  refine F.ok sc (fun vs H Q E h => ?_) (fun cdv A outer s H vs Q E hr h => ?_)
  · obtain ⟨n, rfl, _⟩ := h; rfl
  obtain ⟨n, rfl, q⟩ := h
  refine ⟨_, (pss_cons (ps_if (pt_cmpR op_lt (pv 0) pe_int (nomark _)) (pss_one (ps_ret (pe_un un_neg pe_int))) pss_nil) (pss_one (ps_ret (pe_ifExp (pt_cmpR op_gt (pv 0) pe_int (nomark _)) pe_int pe_int)))), ?_⟩
  wp_walk using tSeq, tIfS
  repeat' split
  all_goals (simp_all; done)
end
abbrev squotient : Stmt := top 9
def spquotient : Sp := fun vs H Q _ => ∃ x y : Int, vs = [.int x, .int y] ∧ inB x ∧ inB y ∧ Q (.int (quoI x y)) H
section
variable {P : Program} {w : World} {K : PySem.W.Frag} {mg : Str → Option Value} {base : Heap} {f : Addr} {fd : FuncData} {TL : Addr}
theorem scquotient : FnScope ["x", "y"] ["x", "y"] (defScope squotient) := ⟨rfl, rfl, rfl, by decide +kernel, rfl, by decide +kernel, by decide +kernel⟩
theorem okquotient (F : Fun K "quotient" "quotient" squotient f fd) (cwrapped : Callee P w K mg base CX0 (1) "wrapped" ["n"] spwrapped) : FnOk P w K mg base CX0 (2) f fd ["x", "y"] (spquotient) := by
  have sc := scquotient
  refine F.ok sc (fun vs H Q E h => ?_) (fun cdv A outer s H vs Q E hr h => ?_)
  · obtain ⟨x, y, rfl, _⟩ := h; rfl
  obtain ⟨x, y, rfl, hx, hy, q⟩ := h
  refine ⟨_, (pss_cons (ps_if (pt_cmpR op_eq (pv 1) pe_int (nomark _)) (pss_one (ps_ret pe_int)) pss_nil) (pss_one (ps_ret (pe_cal cwrapped hr (by rfl) pass0 (pa_cons (pe_op op_fdivW (pv 0) (pv 1)) pa_nil))))), ?_⟩
  wp_walk using tSeq, tIfS, spwrapped
  unfold quoI at q
  by_cases h : y = 0
  · rw [if_pos h]
    rw [if_pos h] at q
    exact q
  · rw [if_neg h]
    rw [if_neg h] at q
    unfold inB at hy
    exact ⟨h, by omega, by omega, q⟩
end
abbrev sremainder : Stmt := top 10
def spremainder : Sp := fun vs H Q _ => ∃ x y : Int, vs = [.int x, .int y] ∧ Q (.int (restI x y)) H
section
variable {P : Program} {w : World} {K : PySem.W.Frag} {mg : Str → Option Value} {base : Heap} {f : Addr} {fd : FuncData} {TL : Addr}
theorem scremainder : FnScope ["x", "y"] ["x", "y"] (defScope sremainder) := ⟨rfl, rfl, rfl, by decide +kernel, rfl, by decide +kernel, by decide +kernel⟩
theorem okremainder (F : Fun K "remainder" "remainder" sremainder f fd) : FnOk P w K mg base CX0 (1) f fd ["x", "y"] (spremainder) := by
  have sc := scremainder
  refine F.ok sc (fun vs H Q E h => ?_) (fun cdv A outer s H vs Q E hr h => ?_)
  · obtain ⟨x, y, rfl, _⟩ := h; rfl
  obtain ⟨x, y, rfl, q⟩ := h
  refine ⟨_, (pss_one (ps_ret (pe_ifExp (pt_cmpR op_eq (pv 1) pe_int (nomark _)) (pv 0) (pe_op op_modN (pv 0) (pv 1))))), ?_⟩
  wp_walk using tSeq, tIfS
  unfold restI at q
  by_cases h : y = 0
  · rw [if_pos h]
    rw [if_pos h] at q
    exact q
  · rw [if_neg h]
    rw [if_neg h] at q
    exact ⟨h, q⟩
end
abbrev sonce : Stmt := top 11
section
variable {P : Program} {w : World} {K : PySem.W.Frag} {mg : Str → Option Value} {base : Heap} {f : Addr} {fd : FuncData} {TL : Addr}
theorem sconce : FnScope ["word", "x"] ["word", "x"] (defScope sonce) := ⟨rfl, rfl, rfl, by decide +kernel, rfl, by decide +kernel, by decide +kernel⟩
theorem okonce (F : Fun K "once" "once" sonce f fd) {CNoWord : Addr} (nNoWord : PySem.W.nsIn K mainGlobals "NoWord" = some (some (.ref CNoWord))) (cwrapped : Callee P w K mg base CX0 (1) "wrapped" ["n"] spwrapped) (csignof : Callee P w K mg base CX0 (1) "sign_of" ["x"] spsignof) (zabs : mg "abs" = none) (xNoWord : PySem.W.excIn K CNoWord [.type "ValueError", .type "Exception", .type "BaseException", .type "object"] "ValueError.__new__" = true) : FnOk P w K mg base (CX1 P w) (2) f fd ["word", "x"] ((sponceX CNoWord)) := by
  have sc := sconce
  refine F.okX sc (fun vs H Q E h => ?_) (fun cdv A outer s H vs Q E hr h => ?_)
  · obtain ⟨w, x, rfl, _⟩ := h; rfl
  obtain ⟨wd, x, rfl, ok, q1, q2⟩ := h
  refine ⟨_, (pss_cons (ps_if (pt_cmpR op_eq (pv 0) pe_str (nomark _)) (pss_one (ps_ret (pe_cal cwrapped hr (by rfl) pass0 (pa_cons (pe_un un_neg (pv 1)) pa_nil)))) pss_nil) (pss_cons (ps_if (pt_cmpR op_eq (pv 0) pe_str (nomark _)) (pss_one (ps_ret (pe_cal cwrapped hr (by rfl) pass0 (pa_cons (pe_callB call_abs (by rfl) zabs boot_abs (pa_cons (pv 1) pa_nil)) pa_nil)))) pss_nil) (pss_cons (ps_if (pt_cmpR op_eq (pv 0) pe_str (nomark _)) (pss_one (ps_ret (pe_cal csignof hr (by rfl) pass0 (pa_cons (pv 1) pa_nil)))) pss_nil) (pss_cons (ps_if (pt_cmpR op_eq (pv 0) pe_str (nomark _)) (pss_one (ps_ret (pe_ifExp (pt_cmpR op_eq (pv 1) pe_int (nomark _)) pe_int pe_int))) pss_nil) (pss_one (ps_raise PySem.F.excBase_ValueError rfl (by rfl) nNoWord xNoWord raises1 (pa_cons (pe_fR pe_str (pv 0)) pa_nil))))))), ?_⟩
  wp_walk using tSeq, tIfS, spwrapped, spsignof
  unfold onceI absI at q1
  by_cases c0 : wd = Str.ofString "neg"
  · rw [if_pos c0] at q1 ⊢
    exact q1 (by rw [c0]; simp [one4])
  rw [if_neg c0] at q1 ⊢
  by_cases c1 : wd = Str.ofString "abs"
  · rw [if_pos c1] at q1 ⊢
    exact q1 (by rw [c1]; simp [one4])
  rw [if_neg c1] at q1 ⊢
  by_cases c2 : wd = Str.ofString "sign"
  · rw [if_pos c2] at q1 ⊢
    exact q1 (by rw [c2]; simp [one4])
  rw [if_neg c2] at q1 ⊢
  by_cases c3 : wd = Str.ofString "not"
  · rw [if_pos c3]
    have q := q1 (by rw [c3]; simp [one4])
    split <;> (split at q <;> first | exact q | contradiction)
  rw [if_neg c3]
  exact ⟨⟨by decide +kernel, by decide +kernel⟩, ok, fun z => ⟨small (by decide), q2 (by simp only [one4, List.mem_cons, List.not_mem_nil, or_false, not_or]; exact ⟨c0, c1, c2, c3⟩)⟩⟩
end
abbrev stwice : Stmt := top 12
section
variable {P : Program} {w : World} {K : PySem.W.Frag} {mg : Str → Option Value} {base : Heap} {f : Addr} {fd : FuncData} {TL : Addr}
theorem sctwice : FnScope ["word", "x", "y"] ["word", "x", "y"] (defScope stwice) := ⟨rfl, rfl, rfl, by decide +kernel, rfl, by decide +kernel, by decide +kernel⟩
theorem oktwice (F : Fun K "twice" "twice" stwice f fd) {CNoWord : Addr} (nNoWord : PySem.W.nsIn K mainGlobals "NoWord" = some (some (.ref CNoWord))) (cwrapped : Callee P w K mg base CX0 (2) "wrapped" ["n"] spwrapped) (cquotient : Callee P w K mg base CX0 (2) "quotient" ["x", "y"] spquotient) (cremainder : Callee P w K mg base CX0 (2) "remainder" ["x", "y"] spremainder) (zmax : mg "max" = none) (zmin : mg "min" = none) (xNoWord : PySem.W.excIn K CNoWord [.type "ValueError", .type "Exception", .type "BaseException", .type "object"] "ValueError.__new__" = true) : FnOk P w K mg base (CX1 P w) (3) f fd ["word", "x", "y"] ((sptwiceX CNoWord)) := by
  have sc := sctwice
  refine F.okX sc (fun vs H Q E h => ?_) (fun cdv A outer s H vs Q E hr h => ?_)
  · obtain ⟨w, x, y, rfl, _⟩ := h; rfl
  obtain ⟨wd, x, y, rfl, ok, hx, hy, q1, q2⟩ := h
  refine ⟨_, (pss_cons (ps_if (pt_cmpR op_eq (pv 0) pe_str (nomark _)) (pss_one (ps_ret (pe_cal cwrapped hr (by rfl) pass0 (pa_cons (pe_op op_add (pv 1) (pv 2)) pa_nil)))) pss_nil) (pss_cons (ps_if (pt_cmpR op_eq (pv 0) pe_str (nomark _)) (pss_one (ps_ret (pe_cal cwrapped hr (by rfl) pass0 (pa_cons (pe_op op_sub (pv 1) (pv 2)) pa_nil)))) pss_nil) (pss_cons (ps_if (pt_cmpR op_eq (pv 0) pe_str (nomark _)) (pss_one (ps_ret (pe_cal cwrapped hr (by rfl) pass0 (pa_cons (pe_op op_mul (pv 1) (pv 2)) pa_nil)))) pss_nil) (pss_cons (ps_if (pt_cmpR op_eq (pv 0) pe_str (nomark _)) (pss_one (ps_ret (pe_cal cquotient hr (by rfl) pass0 (pa_cons (pv 1) (pa_cons (pv 2) pa_nil))))) pss_nil) (pss_cons (ps_if (pt_cmpR op_eq (pv 0) pe_str (nomark _)) (pss_one (ps_ret (pe_cal cremainder hr (by rfl) pass0 (pa_cons (pv 1) (pa_cons (pv 2) pa_nil))))) pss_nil) (pss_cons (ps_if (pt_cmpR op_eq (pv 0) pe_str (nomark _)) (pss_one (ps_ret (pe_callB (call_max2 rfl) (by rfl) zmax boot_max (pa_cons (pv 1) (pa_cons (pv 2) pa_nil))))) pss_nil) (pss_cons (ps_if (pt_cmpR op_eq (pv 0) pe_str (nomark _)) (pss_one (ps_ret (pe_callB (call_min2 rfl) (by rfl) zmin boot_min (pa_cons (pv 1) (pa_cons (pv 2) pa_nil))))) pss_nil) (pss_cons (ps_if (pt_cmpR op_eq (pv 0) pe_str (nomark _)) (pss_one (ps_ret (pe_ifExp (pt_cmpR op_lt (pv 1) (pv 2) (nomark _)) pe_int pe_int))) pss_nil) (pss_cons (ps_if (pt_cmpR op_eq (pv 0) pe_str (nomark _)) (pss_one (ps_ret (pe_ifExp (pt_cmpR op_eq (pv 1) (pv 2) (nomark _)) pe_int pe_int))) pss_nil) (pss_cons (ps_if (pt_cmpR op_eq (pv 0) pe_str (nomark _)) (pss_one (ps_ret (pe_op op_and (pv 1) (pv 2)))) pss_nil) (pss_cons (ps_if (pt_cmpR op_eq (pv 0) pe_str (nomark _)) (pss_one (ps_ret (pe_op op_or (pv 1) (pv 2)))) pss_nil) (pss_cons (ps_if (pt_cmpR op_eq (pv 0) pe_str (nomark _)) (pss_one (ps_ret (pe_op op_xor (pv 1) (pv 2)))) pss_nil) (pss_one (ps_raise PySem.F.excBase_ValueError rfl (by rfl) nNoWord xNoWord raises1 (pa_cons (pe_fR pe_str (pv 0)) pa_nil))))))))))))))), ?_⟩
  wp_walk using tSeq, tIfS, spwrapped, spquotient, spremainder
  unfold twiceI at q1
  have hm : (-18446744073709551616 < x ∧ x < 18446744073709551616 ∨ -18446744073709551616 < y ∧ y < 18446744073709551616) := by
    unfold inB at hx; omega
  by_cases c0 : wd = Str.ofString "add"
  · have q := q1 (by rw [c0]; simp [two12])
    rw [if_pos c0]
    rw [if_pos c0] at q
    exact q
  rw [if_neg c0] at q1 ⊢
  by_cases c1 : wd = Str.ofString "sub"
  · have q := q1 (by rw [c1]; simp [two12])
    rw [if_pos c1]
    rw [if_pos c1] at q
    exact q
  rw [if_neg c1] at q1 ⊢
  by_cases c2 : wd = Str.ofString "mul"
  · have q := q1 (by rw [c2]; simp [two12])
    rw [if_pos c2]
    rw [if_pos c2] at q
    exact ⟨hm, q⟩
  rw [if_neg c2] at q1 ⊢
  by_cases c3 : wd = Str.ofString "quo"
  · have q := q1 (by rw [c3]; simp [two12])
    rw [if_pos c3]
    rw [if_pos c3] at q
    exact ⟨hx, hy, q⟩
  rw [if_neg c3] at q1 ⊢
  by_cases c4 : wd = Str.ofString "rest"
  · have q := q1 (by rw [c4]; simp [two12])
    rw [if_pos c4]
    rw [if_pos c4] at q
    exact q
  rw [if_neg c4] at q1 ⊢
  by_cases c5 : wd = Str.ofString "max"
  · have q := q1 (by rw [c5]; simp [two12])
    rw [if_pos c5]
    rw [if_pos c5] at q
    exact q
  rw [if_neg c5] at q1 ⊢
  by_cases c6 : wd = Str.ofString "min"
  · have q := q1 (by rw [c6]; simp [two12])
    rw [if_pos c6]
    rw [if_pos c6] at q
    exact q
  rw [if_neg c6] at q1 ⊢
  by_cases c7 : wd = Str.ofString "less"
  · have q := q1 (by rw [c7]; simp [two12])
    rw [if_pos c7]
    rw [if_pos c7] at q
    split <;> (split at q <;> first | exact q | contradiction)
  rw [if_neg c7] at q1 ⊢
  by_cases c8 : wd = Str.ofString "like"
  · have q := q1 (by rw [c8]; simp [two12])
    rw [if_pos c8]
    rw [if_pos c8] at q
    split <;> (split at q <;> first | exact q | contradiction)
  rw [if_neg c8] at q1 ⊢
  by_cases c9 : wd = Str.ofString "and"
  · have q := q1 (by rw [c9]; simp [two12])
    rw [if_pos c9]
    rw [if_pos c9] at q
    exact q
  rw [if_neg c9] at q1 ⊢
  by_cases c10 : wd = Str.ofString "or"
  · have q := q1 (by rw [c10]; simp [two12])
    rw [if_pos c10]
    rw [if_pos c10] at q
    exact q
  rw [if_neg c10] at q1 ⊢
  by_cases c11 : wd = Str.ofString "xor"
  · have q := q1 (by rw [c11]; simp [two12])
    rw [if_pos c11]
    exact q
  rw [if_neg c11]
  exact ⟨⟨by decide +kernel, by decide +kernel⟩, ok, fun z => ⟨small (by decide), q2 (by simp only [two12, List.mem_cons, List.not_mem_nil, or_false, not_or]; exact ⟨c0, c1, c2, c3, c4, c5, c6, c7, c8, c9, c10, c11⟩)⟩⟩
end
abbrev sledsides : Stmt := top 20
section
variable {P : Program} {w : World} {K : PySem.W.Frag} {mg : Str → Option Value} {base : Heap} {f : Addr} {fd : FuncData} {TL : Addr}
theorem scledsides : FnScope ["sides", "others"] ["sides", "others"] (defScope sledsides) := ⟨rfl, rfl, rfl, by decide +kernel, rfl, by decide +kernel, by decide +kernel⟩
theorem okledsides (F : Fun K "led_sides" "led_sides" sledsides f fd) {CUnlike : Addr} (nUnlike : PySem.W.nsIn K mainGlobals "Unlike" = some (some (.ref CUnlike))) (zlen : mg "len" = none) (xUnlike : PySem.W.excIn K CUnlike [.type "ValueError", .type "Exception", .type "BaseException", .type "object"] "ValueError.__new__" = true) : FnOk P w K mg base (CX1 P w) (1) f fd ["sides", "others"] ((spled CUnlike)) := by
  have sc := scledsides
  refine F.okX sc (fun vs H Q E h => ?_) (fun cdv A outer s H vs Q E hr h => ?_)
  · obtain ⟨a, b, ns, ms, rfl, _⟩ := h; rfl
  obtain ⟨a, b, ns, ms, rfl, ha, hb, q1, q2⟩ := h
  refine ⟨_, (pss_cons (ps_if (pt_cmpR (op_neT hr.units0) (pe_slice sl_tupA (pv 1) po_none (po_some (pe_callB call_len_seq (by rfl) zlen PySem.boot_len (pa_cons (pv 0) pa_nil)))) (pv 0) (nomark _)) (pss_one (ps_raise PySem.F.excBase_ValueError rfl (by rfl) nUnlike xUnlike raises1 (pa_cons pe_str pa_nil))) pss_nil) (pss_one (ps_ret (pv 1)))), ?_⟩
  wp_walk using tSeq, tIfS
  refine ⟨_, .inr (.of ha), _, hb, fun r H1 s1 hr1 => ?_⟩
  rw [len_map, cut_any] at hr1
  refine ⟨_, .of hr1, _, .of (s1 _ _ ha), flat_ints _, flat_ints _, ?_⟩
  rw [eqVs_dec]
  by_cases c : ms.take ns.length = ns
  · rw [if_neg (by simp [c])]; exact q2 c _ s1
  · rw [if_pos (by simp [c])]; exact ⟨small (by decide), q1 c _ s1⟩
end
abbrev spairedsides : Stmt := top 21
section
variable {P : Program} {w : World} {K : PySem.W.Frag} {mg : Str → Option Value} {base : Heap} {f : Addr} {fd : FuncData} {TL : Addr}
theorem scpairedsides : FnScope ["sides", "others"] ["sides", "others"] (defScope spairedsides) := ⟨rfl, rfl, rfl, by decide +kernel, rfl, by decide +kernel, by decide +kernel⟩
theorem okpairedsides (F : Fun K "paired_sides" "paired_sides" spairedsides f fd) {CUnlike : Addr} (nUnlike : PySem.W.nsIn K mainGlobals "Unlike" = some (some (.ref CUnlike))) (cledsides : Callee P w K mg base (CX1 P w) (1) "led_sides" ["sides", "others"] (spled CUnlike)) (zlen : mg "len" = none) : FnOk P w K mg base (CX1 P w) (2) f fd ["sides", "others"] ((sppaired CUnlike)) := by
  have sc := scpairedsides
  refine F.okX sc (fun vs H Q E h => ?_) (fun cdv A outer s H vs Q E hr h => ?_)
  · obtain ⟨a, b, ns, ms, rfl, _⟩ := h; rfl
  obtain ⟨a, b, ns, ms, rfl, ha, hb, q1, q2⟩ := h
  refine ⟨_, (pss_cons (ps_if (pt_cmpR op_gt (pe_callB call_len_seq (by rfl) zlen PySem.boot_len (pa_cons (pv 0) pa_nil)) (pe_callB call_len_seq (by rfl) zlen PySem.boot_len (pa_cons (pv 1) pa_nil)) (nomark _)) (pss_one (ps_ret (pe_cal cledsides hr (by rfl) passes1 (pa_cons (pv 1) (pa_cons (pv 0) pa_nil))))) pss_nil) (pss_one (ps_ret (pe_cal cledsides hr (by rfl) passes1 (pa_cons (pv 0) (pa_cons (pv 1) pa_nil)))))), ?_⟩
  wp_walk using tSeq, tIfS, spled
  refine ⟨_, .inr (.of ha), _, .inr (.of hb), ?_⟩
  rw [len_map, len_map]
  unfold pairOk at q1 q2
  unfold pairL at q2
  by_cases c : ms.length < ns.length
  · rw [if_pos (by omega)]
    simp only [if_pos c] at q1 q2
    exact ⟨ms, hb, ns, ha, q1, fun e H1 s1 => q2 e _ _ s1 (s1 _ _ ha)⟩
  · rw [if_neg (by omega)]
    simp only [if_neg c] at q1 q2
    exact ⟨ns, ha, ms, hb, q1, fun e H1 s1 => q2 e _ _ s1 (s1 _ _ hb)⟩
end
abbrev spickedsides : Stmt := top 22
section
variable {P : Program} {w : World} {K : PySem.W.Frag} {mg : Str → Option Value} {base : Heap} {f : Addr} {fd : FuncData} {TL : Addr}
theorem scpickedsides : FnScope ["marks", "sides", "others"] ["marks", "sides", "others"] (defScope spickedsides) := ⟨rfl, rfl, rfl, by decide +kernel, rfl, by decide +kernel, by decide +kernel⟩
theorem okpickedsides (F : Fun K "picked_sides" "picked_sides" spickedsides f fd) {CUnlike : Addr} (nUnlike : PySem.W.nsIn K mainGlobals "Unlike" = some (some (.ref CUnlike))) (cpairedsides : Callee P w K mg base (CX1 P w) (2) "paired_sides" ["sides", "others"] (sppaired CUnlike)) : FnOk P w K mg base (CX1 P w) (3) f fd ["marks", "sides", "others"] ((sppicked CUnlike)) := by
  have sc := scpickedsides
  refine F.okX sc (fun vs H Q E h => ?_) (fun cdv A outer s H vs Q E hr h => ?_)
  · obtain ⟨a, b, c, ns, ms, ks, rfl, _⟩ := h; rfl
  obtain ⟨a, b, c, ns, ms, ks, rfl, ha, hb, hc, q1, q2⟩ := h
  refine ⟨_, (pss_one (ps_ret (pe_cal cpairedsides hr (by rfl) passes1 (pa_cons (pe_cal cpairedsides hr (by rfl) passes1 (pa_cons (pv 0) (pa_cons (pv 1) pa_nil))) (pa_cons (pv 2) pa_nil))))), ?_⟩
  wp_walk using tSeq, tIfS, sppaired
  refine ⟨ns, ha, ms, hb, fun n => q1 (fun z => n z.1), fun o H1 p s1 hp => ⟨_, hp, ks, s1 _ _ hc, fun n H2 s2 => q1 (fun z => n z.2) _ (s1.trans s2), fun o2 H2 p2 s2 hp2 => q2 o o2 _ _ (s1.trans s2) hp2⟩⟩
end
abbrev stableby : Stmt := top 24
section
variable {P : Program} {w : World} {K : PySem.W.Frag} {mg : Str → Option Value} {base : Heap} {f : Addr} {fd : FuncData} {TL : Addr}
theorem sctableby : FnScope ["sides", "number_at"] ["sides", "number_at"] (defScope stableby) := ⟨rfl, rfl, rfl, by decide +kernel, rfl, by decide +kernel, by decide +kernel⟩
theorem oktableby (F : Fun K "table_by" "table_by" stableby f fd) (callat : Callee P w K mg base CX0 (6) "all_at" ["sides"] spallat) (ztuple : mg "tuple" = none) : FnOk P w K mg base CX0 (7) f fd ["sides", "number_at"] ((sptableby P w K mg base)) := by
  have sc := sctableby
  refine F.ok sc (fun vs H Q E h => ?_) (fun cdv A outer s H vs Q E hr h => ?_)
  · obtain ⟨sa, fa, ns, fn, rfl, _⟩ := h; rfl
  obtain ⟨sa, fa, ns, fn, rfl, ha, hs, h63, h512, hf, hc, q⟩ := h
  refine ⟨_, (pss_one (ps_ret (pe_tup (pa_cons (pv 0) (pa_cons (pe_callTy call_tuple_of (by rfl) ztuple boot_tuple (pa_cons (pe_comp (own := ["at"]) (fv := ["number_at"]) (js := [1]) rfl (pi_list (pe_cal callat hr (by rfl) pass0 (pa_cons (pv 0) pa_nil))) rfl (by decide) rfl (by decide) (by first | exact fun _ _ h => h | exact cl_sub1 rfl | exact cl_sub2 rfl rfl | exact cl_sub3 rfl rfl rfl) (has_of (by rfl)) rfl (cap1 (by first | exact ⟨rfl, .inl rfl, .inl rfl⟩ | exact ⟨rfl, .inl rfl, .inr rfl⟩)) (fun _ _ _ _ => (pg_name (i := 0) (show (["at", "number_at"] : List Str).Nodup by decide +kernel) rfl (Or.inl rfl))) (fun _ _ _ _ => (pe_calVK (P := P) (w := w) (K := K) (mg := mg) (base := base) (i := 1) rfl rfl rfl rfl rfl hr rfl (by first | exact Or.inl rfl | exact Or.inr (Or.inl rfl) | exact Or.inr (Or.inr rfl)) (pa_cons (pv 0) pa_nil)))) pa_nil)) pa_nil))))), ?_⟩
  have pn := prod_nn fun n hn => (hs n hn).1
  wp_walk using tSeq, tIfS, spallat
  refine ⟨ns, ha, hs, h63, h512, fun H1 l ps s1 hl tp => ?_⟩
  have pl := tp.1
  rw [all_len] at pl
  refine CompL.mk (xs := ps.map V.ref) (.of hl) (fun i ys σ G => Same H1 G ∧ ys = (((List.range i).map fn).map V.int) ∧ ∃ y, σ = [y, some (.ref fa)]) ⟨Same.refl _, rfl, _, rfl⟩ (fun i ys σ G _ h => .of (h.1 _ _ hl)) (fun i x ys σ G ex h => ?_) (fun ys σ G h p hp => ?_)
  · obtain ⟨sG, rfl, y, rfl⟩ := h
    have il : i < ps.length := by have := (List.getElem?_eq_some_iff.mp ex).1; rwa [List.length_map] at this
    obtain ⟨p, ep, hp⟩ := tp.2 i _ (all_get (by omega))
    rw [List.getElem?_map, ep] at ex
    cases (Option.some.inj ex)
    refine ⟨by rw [List.length_map, List.length_map, List.length_range]; exact small1000 (by omega), ?_⟩
    wp_walk using tSeq, tIfS
    have f1 := hf.same fun o e => (s1.trans sG) _ _ e
    refine ⟨f1, f1, hc i G p _ (by omega) (s1.trans sG) (sG _ _ hp) fun H2 s2 => ⟨sG.trans s2, ?_, _, rfl⟩⟩
    rw [List.range_succ, List.map_append, List.map_append]; rfl
  · obtain ⟨sG, rfl, y, rfl⟩ := h
    rw [List.length_map, pl]
    refine ⟨p, rfl, _, .inl ⟨.of upd_same, fun q0 hq0 => ⟨small (by decide), fun r hr0 => ?_⟩⟩⟩
    exact q _ r q0 (s1.trans (sG.trans ((same_new hp _).trans ((same_new hq0 _).trans (same_new hr0 _))))) (same_new hr0 _ _ _ upd_same) upd_same
end
abbrev scellat : Stmt := top 25
def spcellat : Sp := fun vs H Q _ => ∃ (ta b : Addr) (ns cs ms : List Int), vs = [.ref ta, .ref b] ∧ TbAt H ta ns cs ∧ H b = some (.tup (ms.map V.int)) ∧ sdOk ns ∧ ns.length ≤ 63 ∧ good ns ms ∧ (cs.length : Int) = prodI ns ∧ ∀ H', Same H H' → Q (.int (cs.getD (plH ns ms).toNat 0)) H'
section
variable {P : Program} {w : World} {K : PySem.W.Frag} {mg : Str → Option Value} {base : Heap} {f : Addr} {fd : FuncData} {TL : Addr}
theorem sccellat : FnScope ["tab", "at"] ["tab", "at"] (defScope scellat) := ⟨rfl, rfl, rfl, by decide +kernel, rfl, by decide +kernel, by decide +kernel⟩
theorem okcellat (F : Fun K "cell_at" "cell_at" scellat f fd) (cplaceof : Callee P w K mg base (CX1 P w) (2) "place_of" ["sides", "at"] (spplaceof CNoPlace)) : FnOk P w K mg base CX0 (3) f fd ["tab", "at"] (spcellat) := by
  have sc := sccellat
  refine F.ok sc (fun vs H Q E h => ?_) (fun cdv A outer s H vs Q E hr h => ?_)
  · obtain ⟨ta, b, ns, cs, ms, rfl, _⟩ := h; rfl
  obtain ⟨ta, b, ns, cs, ms, rfl, ⟨sa, ca, ht, ha, hc⟩, hb, hs, h63, g, cl, q⟩ := h
  refine ⟨_, (pss_one (ps_ret (pe_ix ix_tupH (pe_ix ix_tupH (pv 0) pe_int (fun _ _ => rfl)) (pe_cal cplaceof hr (by rfl) passNo (pa_cons (pe_ix ix_tupH (pv 0) pe_int (fun _ _ => rfl)) (pa_cons (pv 1) pa_nil))) (fun _ _ => rfl)))), ?_⟩
  have pi := plH_in g
  have gl := g.1
  have ex : cs[(plH ns ms).toNat]? = some (cs.getD (plH ns ms).toNat 0) := by
    rw [List.getD_eq_getElem?_getD, List.getElem?_eq_getElem (by omega)]; rfl
  wp_walk using tSeq, tIfS, spplaceof
  exact ⟨_, ht, _, atI_nat (j := 1) rfl, _, ht, _, atI_nat (j := 0) rfl, sa, rfl, ns, ha, ms, hb, hs, h63, by omega, fun n => absurd g n, fun _ H1 s1 => ⟨ca, rfl, _, s1 _ _ hc, _, at_int pi.1 ex, q _ s1⟩⟩
end
abbrev slead : Stmt := top 27
section
variable {P : Program} {w : World} {K : PySem.W.Frag} {mg : Str → Option Value} {base : Heap} {f : Addr} {fd : FuncData} {TL : Addr}
theorem sclead : FnScope ["tab", "sides", "many"] ["tab", "sides"] (defScope slead) := ⟨rfl, rfl, rfl, by decide +kernel, rfl, by decide +kernel, by decide +kernel⟩
theorem oklead (F : Fun K "lead" "lead" slead f fd) {c : Addr} (hcd : fd.code = .ref c) (TF : TabF base mg c TL) {CUnlike : Addr} (nUnlike : PySem.W.nsIn K mainGlobals "Unlike" = some (some (.ref CUnlike))) (ctableby : Callee P w K mg base CX0 (7) "table_by" ["sides", "number_at"] (sptableby P w K mg base)) (cledsides : Callee P w K mg base (CX1 P w) (7) "led_sides" ["sides", "others"] (spled CUnlike)) (zlen : mg "len" = none) (c5cellat : Callee P w K mg base CX0 5 "cell_at" ["tab", "at"] spcellat) : FnOk P w K mg base (CX1 P w) (8) f fd ["tab", "sides"] ((spleadT TL CUnlike)) := by
  have sc := sclead
  refine F.okTX hcd sc (fun vs H Q E h => ?_) (fun A outer s H vs Q E hr h => ?_)
  · obtain ⟨t, b, ns, cs, ms, rfl, _⟩ := h; rfl
  obtain ⟨t, b, ns, cs, ms, rfl, tb, hb, hs, hm, h20, m20, csl, p5, ht, q1, q2⟩ := h
  have own : OwnCl (envOfC "lead" (defScope slead) s.heap.objs.size f (.ref c)).cells ["tab", "many"] [("tab", s.heap.objs.size + 1), ("many", s.heap.objs.size + 2)] := ⟨rfl, (fc rfl (fc rfl fc0))⟩
  refine ⟨_, (pss_cons (ps_set (i := 2) sc.nd rfl (by first | exact Or.inl rfl | exact Or.inr rfl) (pe_callB call_len_seq (by rfl) zlen PySem.boot_len (pa_cons (pe_ix ix_tupH (pv 0) pe_int (fun _ _ => rfl)) pa_nil))) (pss_one (ps_ret (pe_calF (fv := ["tab", "many"]) (js := [0, 2]) ctableby hr (by rfl) own rfl (fc rfl (fc rfl fc0)) (fc rfl (fc rfl fc0)) (by decide +kernel) (pa_cons (pe_cal cledsides hr (by rfl) passes1 (pa_cons (pe_ix ix_tupH (pv 0) pe_int (fun _ _ => rfl)) (pa_cons (pv 1) pa_nil))) (pa_cons (pe_lam (qual := "lead.<locals>.<lambda>") (fv := ["tab", "many"]) (cl := [("tab", s.heap.objs.size + 1), ("many", s.heap.objs.size + 2)]) rfl rfl TF rfl rfl own) pa_nil)))))), ?_⟩
  generalize (cxOf _ _ _ _ _ _ _ _ _ _ _ _ _ _ _ _).env.cells = ec
  wp_walk using tSeq, tIfS, spled, sptableby
  obtain ⟨sa, ca, tt, ta, tc⟩ := id tb
  refine ⟨_, tt, _, atI_nat (j := 0) rfl, _, rfl, _, .inr (.of ta), _, tt, _, atI_nat (j := 0) rfl, _, rfl, ns, ta, ms, hb, q1, fun no H0 s0 => ⟨ht.same s0, fun fa c' cl H2 o1 ffa hfa hc2 ht2 up2 => ⟨[.ref t, .int ns.length], by rw [len_map]; rfl, fun cl' H3 o2 fr hcel eq3 => ?_⟩⟩⟩
  cases OwnCl.uniq o1 o2
  have q5 := q2 no
  have ht0 := ht.same s0
  have up3 : ∀ a xs, H0 a = some (.tup xs) → H2 a = some (.tup xs) := fun a xs e => up2 _ _ (tab_ne ht0 e) e
  have u3 := hand_up fr eq3
  refine ⟨_, u3 _ _ (up3 _ _ (s0 _ _ hb)), hm, by omega, p5, FnV.lam (u3 _ _ hfa), ledV ns cs ms, fun i H1 p1 Q' hi s1 hp1 hq => ?_, fun H4 p q s4 hq hp' => ?_⟩
  · have hcel1 := hcel.same s1
    have tbm : TbAt (minC H1 cl) t ns cs := min_tb hcel1 (((tb_up (T := TL) (tb.same s0) up3).same u3).same s1)
    have hpm := min_tup hcel1 hp1
    have gd := good_take ns.length (atD_good hm (Int.natCast_nonneg i) hi)
    rw [no] at gd
    have al := atD_len ms i
    refine lam_run (k := 5) (N := ["at", "tab", "many"]) (ps := ["at"]) (fv := ["tab", "many"]) (vs := [V.ref p1]) (vcs := [.ref t, .int ns.length]) ⟨rfl, rfl, rfl, by decide +kernel, rfl, fc (.inl rfl) fc0, fc rfl (fc rfl fc0), by decide +kernel, by decide +kernel⟩ o1.1 (fun pm ctv us hl => by match us, hl with | [u], _ => rfl) rfl (s1 _ _ (u3 _ _ hfa)) (s1 _ _ (u3 _ _ hc2)) hcel1 (fun A outer s hr => pe_cal c5cellat hr (by rfl) pass0 (pa_cons (pv 1) (pa_cons (pe_slice sl_tupA (pv 0) po_none (po_some (pv 2))) pa_nil))) ?_
    wp_walk using tSeq, tIfS, spcellat
    refine ⟨_, hpm, fun r G s2 h2 => ?_⟩
    rw [cut_any] at h2
    exact ⟨ns, cs, tbm.same s2, _, h2, hs, by omega, gd, csl, fun G2 s3 => hq _ (same_res (s2.trans s3))⟩
  · have hb' := hand_back fr eq3 s4
    have hc4 := hcel.same s4
    exact q5 _ p (fun b o n e => hb' _ _ (up2 _ _ n (s0 _ _ e))) (ht2.same hb') ⟨_, _, min_tup hc4 hp', hb' _ _ (up3 _ _ (s0 _ _ hb)), min_tup hc4 hq⟩
end
abbrev seach : Stmt := top 28
section
variable {P : Program} {w : World} {K : PySem.W.Frag} {mg : Str → Option Value} {base : Heap} {f : Addr} {fd : FuncData} {TL : Addr}
theorem sceach : FnScope ["word", "tab"] ["word", "tab"] (defScope seach) := ⟨rfl, rfl, rfl, by decide +kernel, rfl, by decide +kernel, by decide +kernel⟩
theorem okeach (F : Fun K "each" "each" seach f fd) {CNoWord : Addr} (nNoWord : PySem.W.nsIn K mainGlobals "NoWord" = some (some (.ref CNoWord))) (conce : Callee P w K mg base (CX1 P w) (3) "once" ["word", "x"] (sponceX CNoWord)) (ztuple : mg "tuple" = none) : FnOk P w K mg base (CX1 P w) (4) f fd ["word", "tab"] ((speachT CNoWord)) := by
  have sc := sceach
  refine F.okX sc (fun vs H Q E h => ?_) (fun cdv A outer s H vs Q E hr h => ?_)
  · obtain ⟨w, t, ns, cs, rfl, _⟩ := h; rfl
  obtain ⟨wd, t, ns, cs, rfl, ok, ⟨sa, ca, tt, ta, tc⟩, h9, q1, q2⟩ := h
  refine ⟨_, (pss_cons (ps_expr (pe_cal conce hr (by rfl) passes1 (pa_cons (pv 0) (pa_cons pe_int pa_nil)))) (pss_one (ps_ret (pe_tup (pa_cons (pe_ix ix_tupH (pv 1) pe_int (fun _ _ => rfl)) (pa_cons (pe_callTy call_tuple_of (by rfl) ztuple boot_tuple (pa_cons (pe_comp (own := ["x"]) (fv := ["word"]) (js := [0]) rfl (pi_tup (pe_ix ix_tupH (pv 1) pe_int (fun _ _ => rfl))) rfl (by decide) rfl (by decide) (by first | exact fun _ _ h => h | exact cl_sub1 rfl | exact cl_sub2 rfl rfl | exact cl_sub3 rfl rfl rfl) (has_of (by rfl)) rfl (cap1 (by first | exact ⟨rfl, .inl rfl, .inl rfl⟩ | exact ⟨rfl, .inl rfl, .inr rfl⟩)) (fun _ _ _ _ => (pg_name (i := 0) (show (["x", "word"] : List Str).Nodup by decide +kernel) rfl (Or.inl rfl))) (fun _ _ _ _ => (pe_cal conce hr (by rfl) passNo (pa_cons (pv 1) (pa_cons (pv 0) pa_nil))))) pa_nil)) pa_nil)))))), ?_⟩
  simp only [L2.start, List.length_cons, List.length_nil, List.replicate, List.cons_append, List.nil_append, Nat.reduceSub, Nat.reduceAdd, List.map_cons, List.map_nil]
  wp_walk using tSeq, tIfS, sponceX
  refine ⟨ok, fun h1 => ⟨_, tt, _, atI_nat (j := 0) rfl, _, tt, _, atI_nat (j := 1) rfl, ?_⟩, fun h => q1 h _ (Same.refl _)⟩
  refine CompT.mk (xs := cs.map V.int) (.of tc) (fun i ys σ G => G = H ∧ ys = ((cs.take i).map (onceI wd)).map V.int ∧ ∃ y, σ = [y, some (.str wd)]) ⟨rfl, rfl, _, rfl⟩ (fun i ys σ G _ h => by rw [h.1]; exact .of tc) (fun i x ys σ G ex h => ?_) (fun ys σ G h p hp => ?_)
  · obtain ⟨rfl, rfl, y, rfl⟩ := h
    obtain ⟨m, rfl, hm⟩ := int_at ex
    have e1 : ((cs.take (i + 1)).map (onceI wd)).map V.int = ((cs.take i).map (onceI wd)).map V.int ++ [V.int (onceI wd m)] := by
      rw [List.take_add_one, hm, List.map_append, List.map_append]; rfl
    wp_walk using tSeq, tIfS, sponceX, e1
    exact ⟨by rw [List.length_map, List.length_map, List.length_take]; exact small1000 (by omega), ok, fun _ => ⟨_, rfl⟩, fun z => absurd h1 z⟩
  · obtain ⟨rfl, rfl, y, rfl⟩ := h
    rw [len_map, List.take_length]
    exact ⟨p, rfl, _, .inl ⟨.of upd_same, fun l hl => ⟨small (by decide), fun p2 hp2 => q2 h1 _ p2 ((same_new hp _).trans ((same_new hl _).trans (same_new hp2 _))) ⟨sa, l, upd_same, same_new hp2 _ _ _ (same_new hl _ _ _ (same_new hp _ _ _ ta)), same_new hp2 _ _ _ upd_same⟩⟩⟩⟩
end
abbrev spair : Stmt := top 29
section
variable {P : Program} {w : World} {K : PySem.W.Frag} {mg : Str → Option Value} {base : Heap} {f : Addr} {fd : FuncData} {TL : Addr}
theorem scpair : FnScope ["word", "tab", "other", "sides", "xs", "ys"] ["word", "tab", "other"] (defScope spair) := ⟨rfl, rfl, rfl, by decide +kernel, rfl, by decide +kernel, by decide +kernel⟩
theorem okpair (F : Fun K "pair" "pair" spair f fd) {CNoWord : Addr} (nNoWord : PySem.W.nsIn K mainGlobals "NoWord" = some (some (.ref CNoWord))) {CUnlike : Addr} (nUnlike : PySem.W.nsIn K mainGlobals "Unlike" = some (some (.ref CUnlike))) (ctwice : Callee P w K mg base (CX1 P w) (8) "twice" ["word", "x", "y"] (sptwiceX CNoWord)) (cpairedsides : Callee P w K mg base (CX1 P w) (8) "paired_sides" ["sides", "others"] (sppaired CUnlike)) (clead : Callee P w K mg base (CX1 P w) (8) "lead" ["tab", "sides"] (spleadT TL CUnlike)) (ztuple : mg "tuple" = none) (zzip : mg "zip" = none) : FnOk P w K mg base (CX1 P w) (9) f fd ["word", "tab", "other"] ((sppairT TL CNoWord CUnlike)) := by
  have sc := scpair
  refine F.okX sc (fun vs H Q E h => ?_) (fun cdv A outer s H vs Q E hr h => ?_)
  · obtain ⟨w, t, u, ns, cs, ms, ds, rfl, _⟩ := h; rfl
  obtain ⟨wd, t, u, ns, cs, ms, ds, rfl, ok, tb, ub, hs, hm, h20, m20, csl, dsl, p5, r5, ib, jb, ht, q1, q2, q3⟩ := h
  refine ⟨_, (pss_cons (ps_expr (pe_cal ctwice hr (by rfl) passes1 (pa_cons (pv 0) (pa_cons pe_int (pa_cons pe_int pa_nil))))) (pss_cons (ps_set (i := 3) sc.nd rfl (by first | exact Or.inl rfl | exact Or.inr rfl) (pe_cal cpairedsides hr (by rfl) passes1 (pa_cons (pe_ix ix_tupH (pv 1) pe_int (fun _ _ => rfl)) (pa_cons (pe_ix ix_tupH (pv 2) pe_int (fun _ _ => rfl)) pa_nil)))) (pss_cons (ps_set (i := 4) sc.nd rfl (by first | exact Or.inl rfl | exact Or.inr rfl) (pe_ix ix_tupH (pe_cal clead hr (by rfl) passes1 (pa_cons (pv 1) (pa_cons (pv 3) pa_nil))) pe_int (fun _ _ => rfl))) (pss_cons (ps_set (i := 5) sc.nd rfl (by first | exact Or.inl rfl | exact Or.inr rfl) (pe_ix ix_tupH (pe_cal clead hr (by rfl) passes1 (pa_cons (pv 2) (pa_cons (pv 3) pa_nil))) pe_int (fun _ _ => rfl))) (pss_one (ps_ret (pe_tup (pa_cons (pv 3) (pa_cons (pe_callTy call_tuple_of (by rfl) ztuple boot_tuple (pa_cons (pe_comp (own := ["x", "y"]) (fv := ["word"]) (js := [0]) rfl (pi_zip (by rfl) zzip (pa_cons (pv 4) (pa_cons (pv 5) pa_nil))) rfl (by decide) rfl (by decide) (by first | exact fun _ _ h => h | exact cl_sub1 rfl | exact cl_sub2 rfl rfl | exact cl_sub3 rfl rfl rfl) (has_of (by rfl)) rfl (cap1 (by first | exact ⟨rfl, .inl rfl, .inl rfl⟩ | exact ⟨rfl, .inl rfl, .inr rfl⟩)) (fun _ _ _ _ => (pg_tupH (n := 2) (pg_tup rfl (pgs_cons (pg_name (i := 0) (show (["x", "y", "word"] : List Str).Nodup by decide +kernel) rfl (Or.inl rfl)) (pgs_cons (pg_name (i := 1) (show (["x", "y", "word"] : List Str).Nodup by decide +kernel) rfl (Or.inl rfl)) pgs_nil))))) (fun _ _ _ _ => (pe_cal ctwice hr (by rfl) passNo (pa_cons (pv 2) (pa_cons (pv 0) (pa_cons (pv 1) pa_nil)))))) pa_nil)) pa_nil))))))))), ?_⟩
  simp only [L2.start, List.length_cons, List.length_nil, List.replicate, List.cons_append, List.nil_append, Nat.reduceSub, Nat.reduceAdd, List.map_cons, List.map_nil]
  refine seq_with (fun σ G => G = H ∧ wd ∈ two12 ∧ σ = [some (.str wd), some (.ref t), some (.ref u), none, none, none]) ?_ (fun R hR => ?_)
  rotate_left
  · wp_walk using tSeq, tIfS, sptwiceX
    exact ⟨ok, ⟨by decide, by decide⟩, ⟨by decide, by decide⟩, fun h => hR _ _ ⟨rfl, h, rfl⟩, q1⟩
  rintro σ1 G1 ⟨rfl, hw, rfl⟩
  refine seq_with (fun σ G => Same G1 G ∧ pairOk ns ms ∧ ∃ p, G p = some (.tup ((pairL ns ms).map V.int)) ∧ σ = [some (.str wd), some (.ref t), some (.ref u), some (.ref p), none, none]) ?_ (fun R hR => ?_)
  rotate_left
  · obtain ⟨sa, ca, tt, ta, tc⟩ := id tb
    obtain ⟨sb, cb, ut, ua, uc⟩ := id ub
    wp_walk using tSeq, tIfS, sppaired
    exact ⟨_, tt, _, atI_nat (j := 0) rfl, _, ut, _, atI_nat (j := 0) rfl, _, rfl, _, rfl, ns, ta, ms, ua, q2 hw, fun h G p s hp => hR _ _ ⟨s, h, p, hp, rfl⟩⟩
  rintro σ2 G2 ⟨s2, po, p, hp, rfl⟩
  have ⟨l1, l2⟩ := pairL_led po
  have sP : sdOk (pairL ns ms) := pairL_all (P := sdOk) hs hm
  have lP : (pairL ns ms).length ≤ 20 := pairL_all (P := fun z => z.length ≤ 20) h20 m20
  have pP : prodI (pairL ns ms) ≤ 512 := pairL_all (P := fun z => prodI z ≤ 512) p5 r5
  have q3 := q3 hw po
  generalize hPP : pairL ns ms = P at *
  refine seq_with (fun σ G => SmT G2 G ∧ TabOk G TL ⟨110, 46, 110, 80⟩ "lead.<locals>.<lambda>" ∧ ∃ x, G x = some (.tup ((ledL ns cs P).map V.int)) ∧ σ = [some (.str wd), some (.ref t), some (.ref u), some (.ref p), some (.ref x), none]) ?_ (fun R hR => ?_)
  rotate_left
  · wp_walk using tSeq, tIfS, spleadT
    exact ⟨ns, cs, tb.same s2, P, hp, hs, sP, h20, lP, csl, pP, ht.same s2, fun z => absurd l1 z, fun _ G x sp tk ⟨_, qx, e1, _, e3⟩ => ⟨_, e1, _, atI_nat (j := 1) rfl, hR _ _ ⟨SmT.ofP (ht.same s2) sp, tk, qx, e3, rfl⟩⟩⟩
  rintro σ3 G3 ⟨s3, t3, x, hx, rfl⟩
  refine seq_with (fun σ G => SmT G3 G ∧ TabOk G TL ⟨110, 46, 110, 80⟩ "lead.<locals>.<lambda>" ∧ ∃ y, G y = some (.tup ((ledL ms ds P).map V.int)) ∧ σ = [some (.str wd), some (.ref t), some (.ref u), some (.ref p), some (.ref x), some (.ref y)]) ?_ (fun R hR => ?_)
  rotate_left
  · wp_walk using tSeq, tIfS, spleadT
    exact ⟨ms, ds, s3.tb (ub.same s2), P, s3.tup hp, hm, sP, m20, lP, dsl, pP, t3, fun z => absurd l2 z, fun _ G x sp tk ⟨_, qx, e1, _, e3⟩ => ⟨_, e1, _, atI_nat (j := 1) rfl, hR _ _ ⟨SmT.ofP t3 sp, tk, qx, e3, rfl⟩⟩⟩
  rintro σ4 G4 ⟨s4, t4, y, hy, rfl⟩
  have hx4 := s4.tup hx
  have hp4 := s4.tup (s3.tup hp)
  have n0 : (List.zipWith (twiceI wd) (ledL ns cs P) (ledL ms ds P)).length = (prodI P).toNat := by rw [List.length_zipWith, led_len, led_len, Nat.min_self]
  wp_walk using tSeq, tIfS
  refine CompZ.mk (xs := (ledL ns cs P).map V.int) (ys := (ledL ms ds P).map V.int) (prodI P).toNat (by rw [len_map, len_map, led_len, led_len, Nat.min_self]) (.of hx4) (.of hy) (fun i zs σ G => Same G4 G ∧ zs = ((List.zipWith (twiceI wd) (ledL ns cs P) (ledL ms ds P)).take i).map V.int ∧ ∃ y z, σ = [y, z, some (.str wd)]) ⟨Same.refl _, rfl, _, _, rfl⟩ (fun i zs σ G _ h => ⟨.of (h.1 _ _ hx4), .of (h.1 _ _ hy)⟩) (fun i a b zs σ G T hi ea eb h hT => ?_) (fun zs σ G h l hl => ?_) (fun i zs σ G h => ?_)
  · obtain ⟨sg, rfl, y1, y2, rfl⟩ := h
    obtain ⟨m, rfl, hm'⟩ := int_at ea
    obtain ⟨n, rfl, hn'⟩ := int_at eb
    have e1 : ((List.zipWith (twiceI wd) (ledL ns cs P) (ledL ms ds P)).take (i + 1)).map V.int = ((List.zipWith (twiceI wd) (ledL ns cs P) (ledL ms ds P)).take i).map V.int ++ [V.int (twiceI wd m n)] := by
      rw [List.take_add_one, List.getElem?_zipWith, hm', hn', List.map_append]; rfl
    have ln : (((List.zipWith (twiceI wd) (ledL ns cs P) (ledL ms ds P)).take i).map V.int).length < sizeLine := by rw [List.length_map, List.length_take]; exact small1000 (by omega)
    wp_walk using tSeq, tIfS, sptwiceX, e1
    exact ⟨ln, ok, led_in ib m (List.mem_of_getElem? hm'), led_in jb n (List.mem_of_getElem? hn'), fun _ => ⟨sg.trans (same_new hT _), _, rfl⟩, fun z => absurd hw z⟩
  · obtain ⟨sg, rfl, y1, y2, rfl⟩ := h
    rw [List.take_of_length_le (Nat.le_of_eq n0)]
    refine ⟨l, rfl, _, .inl ⟨.of upd_same, fun l2 hl2 => ⟨small (by decide), fun p2 hp2 => ?_⟩⟩⟩
    have k1 := (same_new hl (.lst ((List.zipWith (twiceI wd) (ledL ns cs P) (ledL ms ds P)).map V.int))).trans ((same_new hl2 (.tup ((List.zipWith (twiceI wd) (ledL ns cs P) (ledL ms ds P)).map V.int))).trans (same_new hp2 (.tup [V.ref p, V.ref l2])))
    exact q3 _ p2 ((SmT.of s2).trans (s3.trans (s4.trans (SmT.of (sg.trans k1))))) (t4.same (sg.trans k1)) ⟨p, l2, upd_same, k1 _ _ (sg _ _ hp4), same_new hp2 _ _ _ upd_same⟩
  · obtain ⟨sg, rfl, y1, y2, rfl⟩ := h
    rw [List.length_map, List.length_take]
    exact small1000 (by omega)
end
abbrev spick : Stmt := top 30
section
variable {P : Program} {w : World} {K : PySem.W.Frag} {mg : Str → Option Value} {base : Heap} {f : Addr} {fd : FuncData} {TL : Addr}
theorem scpick : FnScope ["marks", "tab", "other", "sides", "asked", "xs", "ys"] ["marks", "tab", "other"] (defScope spick) := ⟨rfl, rfl, rfl, by decide +kernel, rfl, by decide +kernel, by decide +kernel⟩
theorem okpick (F : Fun K "pick" "pick" spick f fd) {CUnlike : Addr} (nUnlike : PySem.W.nsIn K mainGlobals "Unlike" = some (some (.ref CUnlike))) (cpickedsides : Callee P w K mg base (CX1 P w) (8) "picked_sides" ["marks", "sides", "others"] (sppicked CUnlike)) (clead : Callee P w K mg base (CX1 P w) (8) "lead" ["tab", "sides"] (spleadT TL CUnlike)) (ztuple : mg "tuple" = none) (zzip : mg "zip" = none) : FnOk P w K mg base (CX1 P w) (9) f fd ["marks", "tab", "other"] ((sppickT TL CUnlike)) := by
  have sc := scpick
  refine F.okX sc (fun vs H Q E h => ?_) (fun cdv A outer s H vs Q E hr h => ?_)
  · obtain ⟨m, t, u, ks, es, ns, cs, ms, ds, rfl, _⟩ := h; rfl
  obtain ⟨m, t, u, ks, es, ns, cs, ms, ds, rfl, mb, tb, ub, hk, hs, hm, k20, h20, m20, esl, csl, dsl, o5, p5, r5, ht, q1, q2⟩ := h
  refine ⟨_, (pss_cons (ps_set (i := 3) sc.nd rfl (by first | exact Or.inl rfl | exact Or.inr rfl) (pe_cal cpickedsides hr (by rfl) passes1 (pa_cons (pe_ix ix_tupH (pv 0) pe_int (fun _ _ => rfl)) (pa_cons (pe_ix ix_tupH (pv 1) pe_int (fun _ _ => rfl)) (pa_cons (pe_ix ix_tupH (pv 2) pe_int (fun _ _ => rfl)) pa_nil))))) (pss_cons (ps_set (i := 4) sc.nd rfl (by first | exact Or.inl rfl | exact Or.inr rfl) (pe_ix ix_tupH (pe_cal clead hr (by rfl) passes1 (pa_cons (pv 0) (pa_cons (pv 3) pa_nil))) pe_int (fun _ _ => rfl))) (pss_cons (ps_set (i := 5) sc.nd rfl (by first | exact Or.inl rfl | exact Or.inr rfl) (pe_ix ix_tupH (pe_cal clead hr (by rfl) passes1 (pa_cons (pv 1) (pa_cons (pv 3) pa_nil))) pe_int (fun _ _ => rfl))) (pss_cons (ps_set (i := 6) sc.nd rfl (by first | exact Or.inl rfl | exact Or.inr rfl) (pe_ix ix_tupH (pe_cal clead hr (by rfl) passes1 (pa_cons (pv 2) (pa_cons (pv 3) pa_nil))) pe_int (fun _ _ => rfl))) (pss_one (ps_ret (pe_tup (pa_cons (pv 3) (pa_cons (pe_callTy call_tuple_of (by rfl) ztuple boot_tuple (pa_cons (pe_comp0 (own := ["mark", "x", "y"]) rfl (pi_zip3 (by rfl) zzip (pa_cons (pv 4) (pa_cons (pv 5) (pa_cons (pv 6) pa_nil)))) (by decide) (by decide) rfl (by decide) (fun _ _ _ _ => (pg_tupH (n := 3) (pg_tup rfl (pgs_cons (pg_name (i := 0) (show (["mark", "x", "y"] : List Str).Nodup by decide +kernel) rfl (Or.inl rfl)) (pgs_cons (pg_name (i := 1) (show (["mark", "x", "y"] : List Str).Nodup by decide +kernel) rfl (Or.inl rfl)) (pgs_cons (pg_name (i := 2) (show (["mark", "x", "y"] : List Str).Nodup by decide +kernel) rfl (Or.inl rfl)) pgs_nil)))))) (fun _ _ _ _ => (pe_ifExp (pt_cmpR op_ne (pv 0) pe_int (nomark _)) (pv 1) (pv 2)))) pa_nil)) pa_nil))))))))), ?_⟩
  simp only [L2.start, List.length_cons, List.length_nil, List.replicate, List.cons_append, List.nil_append, Nat.reduceSub, Nat.reduceAdd, List.map_cons, List.map_nil]
  refine seq_with (fun σ G => Same H G ∧ pairOk ks ns ∧ pairOk (pairL ks ns) ms ∧ ∃ p, G p = some (.tup ((pairL (pairL ks ns) ms).map V.int)) ∧ σ = [some (.ref m), some (.ref t), some (.ref u), some (.ref p), none, none, none]) ?_ (fun R hR => ?_)
  rotate_left
  · obtain ⟨sm, cm, mt, ma, mc⟩ := id mb
    obtain ⟨sa, ca, tt, ta, tc⟩ := id tb
    obtain ⟨sb, cb, ut, ua, uc⟩ := id ub
    wp_walk using tSeq, tIfS, sppicked
    exact ⟨_, mt, _, atI_nat (j := 0) rfl, _, tt, _, atI_nat (j := 0) rfl, _, ut, _, atI_nat (j := 0) rfl, _, rfl, _, rfl, _, rfl, ks, ma, ns, ta, ms, ua, q1, fun h1 h2 G p s hp => hR _ _ ⟨s, h1, h2, p, hp, rfl⟩⟩
  rintro σ2 G2 ⟨s2, po, po2, p, hp, rfl⟩
  have ⟨l0, l1, l2⟩ := pick_led po po2
  have sP : sdOk (pairL (pairL ks ns) ms) := pairL_all (P := sdOk) (pairL_all (P := sdOk) hk hs) hm
  have lP : (pairL (pairL ks ns) ms).length ≤ 20 := pairL_all (P := fun z => z.length ≤ 20) (pairL_all (P := fun z => z.length ≤ 20) k20 h20) m20
  have pP : prodI (pairL (pairL ks ns) ms) ≤ 512 := pairL_all (P := fun z => prodI z ≤ 512) (pairL_all (P := fun z => prodI z ≤ 512) o5 p5) r5
  have q3 := q2 po po2
  generalize pairL (pairL ks ns) ms = P at *
  have t2 := ht.same s2
  refine seq_with (fun σ G => SmT G2 G ∧ TabOk G TL ⟨110, 46, 110, 80⟩ "lead.<locals>.<lambda>" ∧ ∃ z, G z = some (.tup ((ledL ks es P).map V.int)) ∧ σ = [some (.ref m), some (.ref t), some (.ref u), some (.ref p), some (.ref z), none, none]) ?_ (fun R hR => ?_)
  rotate_left
  · wp_walk using tSeq, tIfS, spleadT
    exact ⟨ks, es, mb.same s2, P, hp, hk, sP, k20, lP, esl, pP, t2, fun z => absurd l0 z, fun _ G x sp tk ⟨_, qx, e1, _, e3⟩ => ⟨_, e1, _, atI_nat (j := 1) rfl, hR _ _ ⟨SmT.ofP t2 sp, tk, qx, e3, rfl⟩⟩⟩
  rintro σ3 G3 ⟨s3, t3, z, hz, rfl⟩
  refine seq_with (fun σ G => SmT G3 G ∧ TabOk G TL ⟨110, 46, 110, 80⟩ "lead.<locals>.<lambda>" ∧ ∃ x, G x = some (.tup ((ledL ns cs P).map V.int)) ∧ σ = [some (.ref m), some (.ref t), some (.ref u), some (.ref p), some (.ref z), some (.ref x), none]) ?_ (fun R hR => ?_)
  rotate_left
  · wp_walk using tSeq, tIfS, spleadT
    exact ⟨ns, cs, s3.tb (tb.same s2), P, s3.tup hp, hs, sP, h20, lP, csl, pP, t3, fun z => absurd l1 z, fun _ G x sp tk ⟨_, qx, e1, _, e3⟩ => ⟨_, e1, _, atI_nat (j := 1) rfl, hR _ _ ⟨SmT.ofP t3 sp, tk, qx, e3, rfl⟩⟩⟩
  rintro σ4 G4 ⟨s4, t4, x, hx, rfl⟩
  refine seq_with (fun σ G => SmT G4 G ∧ TabOk G TL ⟨110, 46, 110, 80⟩ "lead.<locals>.<lambda>" ∧ ∃ y, G y = some (.tup ((ledL ms ds P).map V.int)) ∧ σ = [some (.ref m), some (.ref t), some (.ref u), some (.ref p), some (.ref z), some (.ref x), some (.ref y)]) ?_ (fun R hR => ?_)
  rotate_left
  · wp_walk using tSeq, tIfS, spleadT
    exact ⟨ms, ds, s4.tb (s3.tb (ub.same s2)), P, s4.tup (s3.tup hp), hm, sP, m20, lP, dsl, pP, t4, fun z => absurd l2 z, fun _ G x sp tk ⟨_, qx, e1, _, e3⟩ => ⟨_, e1, _, atI_nat (j := 1) rfl, hR _ _ ⟨SmT.ofP t4 sp, tk, qx, e3, rfl⟩⟩⟩
  rintro σ5 G5 ⟨s5, t5, y, hy, rfl⟩
  have hz5 := s5.tup (s4.tup hz)
  have hx5 := s5.tup hx
  have hp5 := s5.tup (s4.tup (s3.tup hp))
  have n0 : (pkC ks es ns cs ms ds P).length = (prodI P).toNat := by unfold pkC; rw [List.length_map, List.length_range]
  wp_walk using tSeq, tIfS
  refine CompZ3.mk (xs := (ledL ks es P).map V.int) (ys := (ledL ns cs P).map V.int) (zs := (ledL ms ds P).map V.int) (prodI P).toNat (by rw [len_map, led_len]) (by rw [len_map, led_len]) (by rw [len_map, led_len]) (.of hz5) (.of hx5) (.of hy) (fun i us σ G => Same G5 G ∧ us = ((pkC ks es ns cs ms ds P).take i).map V.int ∧ ∃ a b c, σ = [a, b, c]) ⟨Same.refl _, rfl, _, _, _, rfl⟩ (fun i us σ G _ h => ⟨.of (h.1 _ _ hz5), .of (h.1 _ _ hx5), .of (h.1 _ _ hy)⟩) (fun i a b c us σ G T hi ea eb ec h hT => ?_) (fun us σ G h l hl => ?_) (fun i us σ G h => ?_)
  · obtain ⟨sg, rfl, y1, y2, y3, rfl⟩ := h
    obtain ⟨a, rfl, ha'⟩ := int_at ea
    obtain ⟨b, rfl, hb'⟩ := int_at eb
    obtain ⟨c, rfl, hc'⟩ := int_at ec
    cases led_at ha'
    cases led_at hb'
    cases led_at hc'
    have e1 : ((pkC ks es ns cs ms ds P).take (i + 1)).map V.int = ((pkC ks es ns cs ms ds P).take i).map V.int ++ [V.int (if ledV ks es P i ≠ 0 then ledV ns cs P i else ledV ms ds P i)] := by
      rw [List.take_add_one, List.map_append]
      congr 1
      unfold pkC
      rw [List.getElem?_map, List.getElem?_range hi]; rfl
    wp_walk using tSeq, tIfS, e1
    split
    · exact ⟨sg.trans (same_new hT _), rfl, _, rfl⟩
    · exact ⟨sg.trans (same_new hT _), rfl, _, rfl⟩
  · obtain ⟨sg, rfl, y1, y2, y3, rfl⟩ := h
    rw [List.take_of_length_le (Nat.le_of_eq n0)]
    refine ⟨l, rfl, _, .inl ⟨.of upd_same, fun l2 hl2 => ⟨small (by decide), fun p2 hp2 => ?_⟩⟩⟩
    have k1 := (same_new hl (.lst ((pkC ks es ns cs ms ds P).map V.int))).trans ((same_new hl2 (.tup ((pkC ks es ns cs ms ds P).map V.int))).trans (same_new hp2 (.tup [V.ref p, V.ref l2])))
    exact q3 _ p2 ((SmT.of s2).trans (s3.trans (s4.trans (s5.trans (SmT.of (sg.trans k1)))))) (t5.same (sg.trans k1)) ⟨p, l2, upd_same, k1 _ _ (sg _ _ hp5), same_new hp2 _ _ _ upd_same⟩
  · obtain ⟨sg, rfl, y1, y2, y3, rfl⟩ := h
    rw [List.length_map, List.length_take]
    exact small1000 (by omega)
end
abbrev slawwrap : Stmt := top 43
def splawwrap : Sp := fun vs H Q _ => ∃ n : Int, vs = [.int n] ∧ Q (.int (wrapI n)) H
section
variable {P : Program} {w : World} {K : PySem.W.Frag} {mg : Str → Option Value} {base : Heap} {f : Addr} {fd : FuncData} {TL : Addr}
theorem sclawwrap : FnScope ["n"] ["n"] (defScope slawwrap) := ⟨rfl, rfl, rfl, by decide +kernel, rfl, by decide +kernel, by decide +kernel⟩
theorem oklawwrap (F : Fun K "_law_wrap" "_law_wrap" slawwrap f fd) : FnOk P w K mg base CX0 (1) f fd ["n"] (splawwrap) := by
  have sc := sclawwrap
  refine F.ok sc (fun vs H Q E h => ?_) (fun cdv A outer s H vs Q E hr h => ?_)
  · obtain ⟨n, rfl, _⟩ := h; rfl
  obtain ⟨n, rfl, q⟩ := h
  refine ⟨_, (pss_one (ps_ret (pe_op op_sub (pe_op op_mod (pe_op op_add (pv 0) (pe_op op_pow pe_int pe_int)) (pe_op op_pow pe_int pe_int)) (pe_op op_pow pe_int pe_int)))), ?_⟩
  wp_walk using tSeq, tIfS
  exact q
end
abbrev slawonce : Stmt := top 44
def splawonce : Sp := fun vs H Q _ => ∃ (w : Str) (x : Int), vs = [.str w, .int x] ∧ w ∈ one4 ∧ inB x ∧ Q (.int (onceI w x)) H
section
variable {P : Program} {w : World} {K : PySem.W.Frag} {mg : Str → Option Value} {base : Heap} {f : Addr} {fd : FuncData} {TL : Addr}
theorem sclawonce : FnScope ["word", "x"] ["word", "x"] (defScope slawonce) := ⟨rfl, rfl, rfl, by decide +kernel, rfl, by decide +kernel, by decide +kernel⟩
theorem oklawonce (F : Fun K "_law_once" "_law_once" slawonce f fd) (clawwrap : Callee P w K mg base CX0 (1) "_law_wrap" ["n"] splawwrap) (zint : mg "int" = none) : FnOk P w K mg base CX0 (2) f fd ["word", "x"] (splawonce) := by
  have sc := sclawonce
  refine F.ok sc (fun vs H Q E h => ?_) (fun cdv A outer s H vs Q E hr h => ?_)
  · obtain ⟨w, x, rfl, _⟩ := h; rfl
  obtain ⟨wd, x, rfl, hw, hx, q⟩ := h
  refine ⟨_, (pss_cons (ps_if (pt_cmpR op_eq (pv 0) pe_str (nomark _)) (pss_one (ps_ret (pe_callTy call_int1 (by rfl) zint boot_int (pa_cons (pe_cmpR op_eq (pv 1) pe_int (nomark _)) pa_nil)))) pss_nil) (pss_cons (ps_if (pt_cmpR op_eq (pv 0) pe_str (nomark _)) (pss_one (ps_ret (pe_op op_sub (pe_callTy call_int1 (by rfl) zint boot_int (pa_cons (pe_cmpR op_gt (pv 1) pe_int (nomark _)) pa_nil)) (pe_callTy call_int1 (by rfl) zint boot_int (pa_cons (pe_cmpR op_lt (pv 1) pe_int (nomark _)) pa_nil))))) pss_nil) (pss_cons (ps_if (pw_or (pt_cmpR op_eq (pv 0) pe_str (nomark _)) (pw_or1 (pt_cmpR op_lt (pv 1) pe_int (nomark _)))).pt (pss_one (ps_ret (pe_cal clawwrap hr (by rfl) pass0 (pa_cons (pe_un un_neg (pv 1)) pa_nil)))) pss_nil) (pss_one (ps_ret (pv 1)))))), ?_⟩
  wp_walk using tSeq, tIfS, splawwrap
  simp only [one4, List.mem_cons, List.not_mem_nil, or_false] at hw
  unfold onceI absI at q
  rcases hw with rfl | rfl | rfl | rfl
  · rw [if_neg (by decide +kernel), if_neg (by decide +kernel), if_pos rfl]
    rw [if_pos rfl] at q
    exact q
  · rw [if_neg (by decide +kernel), if_neg (by decide +kernel), if_neg (by decide +kernel)]
    rw [if_neg (by decide +kernel), if_pos rfl] at q
    split
    · rename_i c; rw [if_pos c] at q; exact q
    · rename_i c; rw [if_neg c, wrap_id hx] at q; exact q
  · rw [if_neg (by decide +kernel), if_pos rfl]
    rw [if_neg (by decide +kernel), if_neg (by decide +kernel), if_pos rfl] at q
    rw [sign_sub x]
    exact .inr (.inr q)
  · rw [if_pos rfl]
    rw [if_neg (by decide +kernel), if_neg (by decide +kernel), if_neg (by decide +kernel)] at q
    exact .inr q
end
abbrev slawtwice : Stmt := top 45
def splawtwice : Sp := fun vs H Q _ => ∃ (w : Str) (x y : Int), vs = [.str w, .int x, .int y] ∧ w ∈ two12 ∧ inB x ∧ inB y ∧ ∀ H', Same H H' → Q (.int (twiceI w x y)) H'
section
variable {P : Program} {w : World} {K : PySem.W.Frag} {mg : Str → Option Value} {base : Heap} {f : Addr} {fd : FuncData} {TL : Addr}
theorem sclawtwice : FnScope ["word", "x", "y"] ["word", "x", "y"] (defScope slawtwice) := ⟨rfl, rfl, rfl, by decide +kernel, rfl, by decide +kernel, by decide +kernel⟩
theorem oklawtwice (F : Fun K "_law_twice" "_law_twice" slawtwice f fd) (clawwrap : Callee P w K mg base CX0 (1) "_law_wrap" ["n"] splawwrap) (zint : mg "int" = none) (zmax : mg "max" = none) (zmin : mg "min" = none) : FnOk P w K mg base CX0 (2) f fd ["word", "x", "y"] (splawtwice) := by
  have sc := sclawtwice
  refine F.ok sc (fun vs H Q E h => ?_) (fun cdv A outer s H vs Q E hr h => ?_)
  · obtain ⟨w, x, y, rfl, _⟩ := h; rfl
  obtain ⟨wd, x, y, rfl, hw, hx, hy, q⟩ := h
  refine ⟨_, (pss_cons (ps_if (pt_cmpR op_inT (pv 0) (pe_tup (pa_cons pe_str (pa_cons pe_str (pa_cons pe_str pa_nil)))) rfl) (pss_one (ps_ret (pe_cal clawwrap hr (by rfl) pass0 (pa_cons (pe_ix ix_list (pe_lst (pa_cons (pe_op op_add (pv 1) (pv 2)) (pa_cons (pe_op op_sub (pv 1) (pv 2)) (pa_cons (pe_op op_mul (pv 1) (pv 2)) pa_nil)))) (pe_bm PySem.F.plainAttrs_list PySem.F.slot_list_index PySem.F.type_list_index mt_index (pe_lst (pa_cons pe_str (pa_cons pe_str (pa_cons pe_str pa_nil)))) (pa_cons (pv 0) pa_nil)) (fun _ _ => rfl)) pa_nil)))) pss_nil) (pss_cons (ps_if (pt_cmpR op_inT (pv 0) (pe_tup (pa_cons pe_str (pa_cons pe_str pa_nil))) rfl) (pss_cons (ps_if (pt_cmpR op_eq (pv 2) pe_int (nomark _)) (pss_one (ps_ret (pe_ix ix_list (pe_lst (pa_cons pe_int (pa_cons (pv 1) pa_nil))) (pe_callTy call_int1 (by rfl) zint boot_int (pa_cons (pe_cmpR op_eq (pv 0) pe_str (nomark _)) pa_nil)) (fun _ _ => rfl)))) pss_nil) (pss_one (ps_ret (pe_ix ix_list (pe_lst (pa_cons (pe_cal clawwrap hr (by rfl) pass0 (pa_cons (pe_op op_fdivW (pv 1) (pv 2)) pa_nil)) (pa_cons (pe_op op_sub (pv 1) (pe_op op_mul (pe_op op_fdivW (pv 1) (pv 2)) (pv 2))) pa_nil))) (pe_callTy call_int1 (by rfl) zint boot_int (pa_cons (pe_cmpR op_eq (pv 0) pe_str (nomark _)) pa_nil)) (fun _ _ => rfl))))) pss_nil) (pss_cons (ps_if (pt_cmpR op_inT (pv 0) (pe_tup (pa_cons pe_str (pa_cons pe_str pa_nil))) rfl) (pss_one (ps_ret (pe_ix ix_list (pe_lst (pa_cons (pe_callTy call_int1 (by rfl) zint boot_int (pa_cons (pe_cmpR op_lt (pv 1) (pv 2) (nomark _)) pa_nil)) (pa_cons (pe_callTy call_int1 (by rfl) zint boot_int (pa_cons (pe_cmpR op_eq (pv 1) (pv 2) (nomark _)) pa_nil)) pa_nil))) (pe_callTy call_int1 (by rfl) zint boot_int (pa_cons (pe_cmpR op_eq (pv 0) pe_str (nomark _)) pa_nil)) (fun _ _ => rfl)))) pss_nil) (pss_cons (ps_if (pt_cmpR op_inT (pv 0) (pe_tup (pa_cons pe_str (pa_cons pe_str pa_nil))) rfl) (pss_one (ps_ret (pe_ix ix_list (pe_lst (pa_cons (pe_callB (call_max2 rfl) (by rfl) zmax boot_max (pa_cons (pv 1) (pa_cons (pv 2) pa_nil))) (pa_cons (pe_callB (call_min2 rfl) (by rfl) zmin boot_min (pa_cons (pv 1) (pa_cons (pv 2) pa_nil))) pa_nil))) (pe_callTy call_int1 (by rfl) zint boot_int (pa_cons (pe_cmpR op_eq (pv 0) pe_str (nomark _)) pa_nil)) (fun _ _ => rfl)))) pss_nil) (pss_one (ps_ret (pe_ix ix_list (pe_lst (pa_cons (pe_op op_and (pv 1) (pv 2)) (pa_cons (pe_op op_or (pv 1) (pv 2)) (pa_cons (pe_op op_xor (pv 1) (pv 2)) pa_nil)))) (pe_bm PySem.F.plainAttrs_list PySem.F.slot_list_index PySem.F.type_list_index mt_index (pe_lst (pa_cons pe_str (pa_cons pe_str (pa_cons pe_str pa_nil)))) (pa_cons (pv 0) pa_nil)) (fun _ _ => rfl)))))))), ?_⟩
  simp only [L2.start, List.length_cons, List.length_nil, List.replicate, List.cons_append, List.nil_append, Nat.reduceSub, Nat.reduceAdd, List.map_cons, List.map_nil]
  have hm : (-18446744073709551616 < x ∧ x < 18446744073709551616 ∨ -18446744073709551616 < y ∧ y < 18446744073709551616) := by
    unfold inB at hx; omega
  refine seq_with (fun σ G => Same H G ∧ ¬ (Str.ofString "add" = wd ∨ Str.ofString "sub" = wd ∨ Str.ofString "mul" = wd) ∧ σ = [some (.str wd), some (.int x), some (.int y)]) ?_ (fun R hR => ?_)
  rotate_left
  · wp_walk using tSeq, tIfS, splawwrap
    refine ⟨small (by decide), fun p hp => ?_⟩
    have s1 := same_new hp (.tup [V.str (Str.ofString "add"), V.str (Str.ofString "sub"), V.str (Str.ofString "mul")])
    split
    · rename_i c
      refine ⟨hm, small (by decide), fun p1 hp1 => ⟨small (by decide), fun p2 hp2 => ⟨.inl ⟨_, .of upd_same⟩, _, .of upd_same, rfl, ?_⟩⟩⟩
      have q' := q _ (s1.trans ((same_new hp1 (.lst [V.int (x + y), V.int (x - y), V.int (x * y)])).trans (same_new hp2 (.lst [V.str (Str.ofString "add"), V.str (Str.ofString "sub"), V.str (Str.ofString "mul")]))))
      rcases c with rfl | rfl | rfl
      · rw [tw_add] at q'
        exact ⟨0, ⟨_, rfl, by decide +kernel⟩, (fun m z hm => absurd hm (Nat.not_lt_zero _)), _, .of (same_new hp2 _ _ _ upd_same), _, atI_nat (j := 0) rfl, _, rfl, q'⟩
      · rw [tw_sub] at q'
        exact ⟨1, ⟨_, rfl, by decide +kernel⟩, (fun m z hm e => by match m, hm, e with | 0, _, e => cases e; decide +kernel), _, .of (same_new hp2 _ _ _ upd_same), _, atI_nat (j := 1) rfl, _, rfl, q'⟩
      · rw [tw_mul] at q'
        exact ⟨2, ⟨_, rfl, by decide +kernel⟩, (fun m z hm e => by match m, hm, e with | 0, _, e => cases e; decide +kernel | 1, _, e => cases e; decide +kernel), _, .of (same_new hp2 _ _ _ upd_same), _, atI_nat (j := 2) rfl, _, rfl, q'⟩
    · rename_i c
      exact hR _ _ ⟨s1, c, rfl⟩
  rintro σ1 G1 ⟨s1, n1, rfl⟩
  refine seq_with (fun σ G => Same H G ∧ ¬ (Str.ofString "quo" = wd ∨ Str.ofString "rest" = wd) ∧ σ = [some (.str wd), some (.int x), some (.int y)]) ?_ (fun R hR => ?_)
  rotate_left
  · wp_walk using tSeq, tIfS, splawwrap
    refine ⟨small (by decide), fun p hp => ?_⟩
    have s2 := s1.trans (same_new hp (.tup [V.str (Str.ofString "quo"), V.str (Str.ofString "rest")]))
    split
    · rename_i c
      split
      · rename_i y0
        refine ⟨small (by decide), fun p1 hp1 => .inr ⟨_, .of upd_same, ?_⟩⟩
        have q' := q _ (s2.trans (same_new hp1 (.lst [V.int 0, V.int x])))
        rcases c with rfl | rfl
        · rw [tw_quo, quoI, if_pos y0] at q'
          rw [if_neg (by decide +kernel)]
          exact ⟨_, atI_nat (j := 0) rfl, q'⟩
        · rw [tw_rest, restI, if_pos y0] at q'
          rw [if_pos rfl]
          exact ⟨_, atI_nat (j := 1) rfl, q'⟩
      · rename_i y0
        have by1 : -18446744073709551616 < y ∧ y < 18446744073709551616 := by unfold inB at hy; omega
        refine ⟨y0, by1.1, by1.2, y0, by1.1, by1.2, .inr by1, small (by decide), fun p1 hp1 => .inr ⟨_, .of upd_same, ?_⟩⟩
        have q' := q _ (s2.trans (same_new hp1 (.lst [V.int (wrapI (x.fdiv y)), V.int (x - x.fdiv y * y)])))
        rcases c with rfl | rfl
        · rw [tw_quo, quoI, if_neg y0] at q'
          rw [if_neg (by decide +kernel)]
          exact ⟨_, atI_nat (j := 0) rfl, q'⟩
        · rw [tw_rest, restI, if_neg y0, Int.fmod_def, Int.mul_comm] at q'
          rw [if_pos rfl]
          exact ⟨_, atI_nat (j := 1) rfl, q'⟩
    · rename_i c
      exact hR _ _ ⟨s2, c, rfl⟩
  rintro σ2 G2 ⟨s2, n2, rfl⟩
  refine seq_with (fun σ G => Same H G ∧ ¬ (Str.ofString "less" = wd ∨ Str.ofString "like" = wd) ∧ σ = [some (.str wd), some (.int x), some (.int y)]) ?_ (fun R hR => ?_)
  rotate_left
  · wp_walk using tSeq, tIfS, splawwrap
    refine ⟨small (by decide), fun p hp => ?_⟩
    have s3 := s2.trans (same_new hp (.tup [V.str (Str.ofString "less"), V.str (Str.ofString "like")]))
    split
    · rename_i c
      refine .inr (.inr ⟨small (by decide), fun p1 hp1 => .inr ⟨_, .of upd_same, ?_⟩⟩)
      have q' := q _ (s3.trans (same_new hp1 (.lst [V.int (if x < y then 1 else 0), V.int (if x = y then 1 else 0)])))
      rcases c with rfl | rfl
      · rw [tw_less] at q'
        rw [if_neg (show ¬ Str.ofString "less" = Str.ofString "like" by decide +kernel)]
        exact ⟨_, atI_nat (j := 0) rfl, q'⟩
      · rw [tw_like] at q'
        rw [if_pos (show Str.ofString "like" = Str.ofString "like" from rfl)]
        exact ⟨_, atI_nat (j := 1) rfl, q'⟩
    · rename_i c
      exact hR _ _ ⟨s3, c, rfl⟩
  rintro σ3 G3 ⟨s3, n3, rfl⟩
  refine seq_with (fun σ G => Same H G ∧ ¬ (Str.ofString "max" = wd ∨ Str.ofString "min" = wd) ∧ σ = [some (.str wd), some (.int x), some (.int y)]) ?_ (fun R hR => ?_)
  rotate_left
  · wp_walk using tSeq, tIfS, splawwrap
    refine ⟨small (by decide), fun p hp => ?_⟩
    have s4 := s3.trans (same_new hp (.tup [V.str (Str.ofString "max"), V.str (Str.ofString "min")]))
    split
    · rename_i c
      refine ⟨small (by decide), fun p1 hp1 => .inr ⟨_, .of upd_same, ?_⟩⟩
      have q' := q _ (s4.trans (same_new hp1 (.lst [V.int (if y > x then y else x), V.int (if y < x then y else x)])))
      rcases c with rfl | rfl
      · rw [tw_max] at q'
        rw [if_neg (show ¬ Str.ofString "max" = Str.ofString "min" by decide +kernel)]
        exact ⟨_, atI_nat (j := 0) rfl, q'⟩
      · rw [tw_min] at q'
        rw [if_pos (show Str.ofString "min" = Str.ofString "min" from rfl)]
        exact ⟨_, atI_nat (j := 1) rfl, q'⟩
    · rename_i c
      exact hR _ _ ⟨s4, c, rfl⟩
  rintro σ4 G4 ⟨s4, n4, rfl⟩
  wp_walk using tSeq, tIfS, splawwrap
  refine ⟨small (by decide), fun p hp => ⟨small (by decide), fun p1 hp1 => ⟨.inl ⟨_, .of upd_same⟩, _, .of upd_same, rfl, ?_⟩⟩⟩
  have q' := q _ (s4.trans ((same_new hp (.lst [V.int (Builtin.bitAnd x y), V.int (Builtin.bitOr x y), V.int (Builtin.bitXor x y)])).trans (same_new hp1 (.lst [V.str (Str.ofString "and"), V.str (Str.ofString "or"), V.str (Str.ofString "xor")]))))
  simp only [two12, List.mem_cons, List.not_mem_nil, or_false] at hw
  rcases hw with h | h | h | h | h | h | h | h | h | h | h | h
  · exact absurd (.inl h.symm) n1
  · exact absurd (.inr (.inl h.symm)) n1
  · exact absurd (.inr (.inr h.symm)) n1
  · exact absurd (.inl h.symm) n2
  · exact absurd (.inr h.symm) n2
  · exact absurd (.inl h.symm) n4
  · exact absurd (.inr h.symm) n4
  · exact absurd (.inl h.symm) n3
  · exact absurd (.inr h.symm) n3
  · subst h
    rw [tw_and] at q'
    exact ⟨0, ⟨_, rfl, by decide +kernel⟩, (fun m z hm => absurd hm (Nat.not_lt_zero _)), _, .of (same_new hp1 _ _ _ upd_same), _, atI_nat (j := 0) rfl, q'⟩
  · subst h
    rw [tw_or] at q'
    exact ⟨1, ⟨_, rfl, by decide +kernel⟩, (fun m z hm e => by match m, hm, e with | 0, _, e => cases e; decide +kernel), _, .of (same_new hp1 _ _ _ upd_same), _, atI_nat (j := 1) rfl, q'⟩
  · subst h
    rw [tw_xor] at q'
    exact ⟨2, ⟨_, rfl, by decide +kernel⟩, (fun m z hm e => by match m, hm, e with | 0, _, e => cases e; decide +kernel | 1, _, e => cases e; decide +kernel), _, .of (same_new hp1 _ _ _ upd_same), _, atI_nat (j := 2) rfl, q'⟩
end
abbrev slawspot : Stmt := top 39
def splawspot : Sp := fun vs H Q _ => ∃ (a b : Addr) (ns ms : List Int), vs = [.ref a, .ref b] ∧ RwI H a ns ∧ RwI H b ms ∧ sdOk ns ∧ ns.length ≤ 20 ∧ ms.length = ns.length ∧ Q (.int (plH ns ms)) H
section
variable {P : Program} {w : World} {K : PySem.W.Frag} {mg : Str → Option Value} {base : Heap} {f : Addr} {fd : FuncData} {TL : Addr}
theorem sclawspot : FnScope ["sides", "at", "spot", "k"] ["sides", "at"] (defScope slawspot) := ⟨rfl, rfl, rfl, by decide +kernel, rfl, by decide +kernel, by decide +kernel⟩
theorem oklawspot (F : Fun K "_law_spot" "_law_spot" slawspot f fd) (zrange : mg "range" = none) (zlen : mg "len" = none) : FnOk P w K mg base CX0 (1) f fd ["sides", "at"] (splawspot) := by
  have sc := sclawspot
  refine F.ok sc (fun vs H Q E h => ?_) (fun cdv A outer s H vs Q E hr h => ?_)
  · obtain ⟨a, b, ns, ms, rfl, _⟩ := h; rfl
  obtain ⟨a, b, ns, ms, rfl, ha, hb, hs, h20, hl, q⟩ := h
  refine ⟨_, (pss_cons (ps_set (i := 2) sc.nd rfl (by first | exact Or.inl rfl | exact Or.inr rfl) pe_int) (pss_cons (ps_for PassesOwn.never rfl (pi_range1 (by rfl) zrange (pa_cons (pe_callB call_len_seq (by rfl) zlen PySem.boot_len (pa_cons (pv 0) pa_nil)) pa_nil)) (pg_name (i := 3) sc.nd rfl (Or.inl rfl)) (pss_one (ps_set (i := 2) sc.nd rfl (by first | exact Or.inl rfl | exact Or.inr rfl) (pe_op op_add (pe_op op_mul (pv 2) (pe_ix ix_seqH (pv 0) (pv 3) (fun _ _ => rfl))) (pe_ix ix_seqH (pv 1) (pv 3) (fun _ _ => rfl)))))) (pss_one (ps_ret (pv 2))))), ?_⟩
  wp_walk using tSeq, tIfS
  refine ⟨_, ha.imp .of .of, ?_⟩
  rw [len_map]
  refine ⟨by omega, by omega, ?_⟩
  rw [Int.toNat_natCast]
  refine LoopR.mk (fun i σ G => ∃ y3 : Option V, G = H ∧ i ≤ ns.length ∧ σ = [some (.ref a), some (.ref b), some (.int (plH (ns.take i) (ms.take i))), y3]) ⟨none, rfl, Nat.zero_le _, rfl⟩ (fun i σ G hi h => ?_) (fun σ G h => ?_)
  · obtain ⟨y3, rfl, il, rfl⟩ := h
    simp only [gName, List.set_cons_succ, List.set_cons_zero]
    rw [Int.zero_add]
    have i1 : i < ns.length := by omega
    have e1 := List.getElem?_eq_getElem i1
    have e2 := List.getElem?_eq_getElem (show i < ms.length by omega)
    have nn := hs _ (List.mem_of_getElem? e1)
    generalize ns[i] = n at e1 nn
    generalize ms[i] = m at e2
    wp_walk using tSeq, tIfS
    exact ⟨_, ha, _, atI_nat (j := i) (v := .int n) (by rw [List.getElem?_map, e1]; rfl), _, rfl, .inr ⟨by omega, by omega⟩, _, hb, _, atI_nat (j := i) (v := .int m) (by rw [List.getElem?_map, e2]; rfl), _, rfl, by omega, (plH_take hl e1 e2).symm, _, rfl⟩
  · obtain ⟨y3, rfl, il, rfl⟩ := h
    wp_walk using tSeq, tIfS
    rw [List.take_length, List.take_of_length_le (by omega)]
    exact q
end
abbrev slawled : Stmt := top 46
def splawled : Sp := fun vs H Q _ => ∃ (t b : Addr) (ns cs A : List Int), vs = [.ref t, .ref b] ∧ TbAt H t ns cs ∧ H b = some (.tup (A.map V.int)) ∧ sdOk ns ∧ ns.length ≤ 20 ∧ good ns (A.take ns.length) ∧ (cs.length : Int) = prodI ns ∧ ∀ H', Same H H' → Q (.int (cs.getD (plH ns (A.take ns.length)).toNat 0)) H'
section
variable {P : Program} {w : World} {K : PySem.W.Frag} {mg : Str → Option Value} {base : Heap} {f : Addr} {fd : FuncData} {TL : Addr}
theorem sclawled : FnScope ["tab", "at"] ["tab", "at"] (defScope slawled) := ⟨rfl, rfl, rfl, by decide +kernel, rfl, by decide +kernel, by decide +kernel⟩
theorem oklawled (F : Fun K "_law_led" "_law_led" slawled f fd) (clawspot : Callee P w K mg base CX0 (2) "_law_spot" ["sides", "at"] splawspot) (zlen : mg "len" = none) : FnOk P w K mg base CX0 (3) f fd ["tab", "at"] (splawled) := by
  have sc := sclawled
  refine F.ok sc (fun vs H Q E h => ?_) (fun cdv A outer s H vs Q E hr h => ?_)
  · obtain ⟨t, b, ns, cs, A, rfl, _⟩ := h; rfl
  obtain ⟨t, b, ns, cs, A, rfl, ⟨sa, ca, tt, ta, tc⟩, hb, hs, h20, gd, csl, q⟩ := h
  refine ⟨_, (pss_one (ps_ret (pe_ix ix_tupH (pe_ix ix_tupH (pv 0) pe_int (fun _ _ => rfl)) (pe_cal clawspot hr (by rfl) pass0 (pa_cons (pe_ix ix_tupH (pv 0) pe_int (fun _ _ => rfl)) (pa_cons (pe_slice sl_tupA (pv 1) po_none (po_some (pe_callB call_len_seq (by rfl) zlen PySem.boot_len (pa_cons (pe_ix ix_tupH (pv 0) pe_int (fun _ _ => rfl)) pa_nil)))) pa_nil))) (fun _ _ => rfl)))), ?_⟩
  wp_walk using tSeq, tIfS, splawspot
  refine ⟨_, tt, _, atI_nat (j := 1) rfl, _, tt, _, atI_nat (j := 0) rfl, _, tt, _, atI_nat (j := 0) rfl, _, rfl, _, .inr (.of ta), _, hb, fun r G s hr => ?_⟩
  rw [len_map, cut_any] at hr
  have pi := plH_in gd
  have ex : cs[(plH ns (A.take ns.length)).toNat]? = some (cs.getD (plH ns (A.take ns.length)).toNat 0) := get_some (by omega)
  exact ⟨_, rfl, ns, .inr (s _ _ ta), _, .inr hr, hs, h20, gd.1, _, rfl, _, s _ _ tc, _, at_int pi.1 ex, q _ s⟩
end
abbrev slawfit : Stmt := top 48
def splawfit : Sp := fun vs H Q _ => ∃ (a b : Addr) (ns ms : List Int), vs = [.ref a, .ref b] ∧ H a = some (.tup (ns.map V.int)) ∧ H b = some (.tup (ms.map V.int)) ∧ ∀ H' (v : Bool), Same H H' → (v = true ↔ pairOk ns ms) → Q (.bl v) H'
section
variable {P : Program} {w : World} {K : PySem.W.Frag} {mg : Str → Option Value} {base : Heap} {f : Addr} {fd : FuncData} {TL : Addr}
theorem sclawfit : FnScope ["one", "other", "least"] ["one", "other"] (defScope slawfit) := ⟨rfl, rfl, rfl, by decide +kernel, rfl, by decide +kernel, by decide +kernel⟩
theorem oklawfit (F : Fun K "_law_fit" "_law_fit" slawfit f fd) (zmin : mg "min" = none) (zlen : mg "len" = none) : FnOk P w K mg base CX0 (1) f fd ["one", "other"] (splawfit) := by
  have sc := sclawfit
  refine F.ok sc (fun vs H Q E h => ?_) (fun cdv A outer s H vs Q E hr h => ?_)
  · obtain ⟨a, b, ns, ms, rfl, _⟩ := h; rfl
  obtain ⟨a, b, ns, ms, rfl, ha, hb, q⟩ := h
  refine ⟨_, (pss_cons (ps_set (i := 2) sc.nd rfl (by first | exact Or.inl rfl | exact Or.inr rfl) (pe_callB (call_min2 rfl) (by rfl) zmin boot_min (pa_cons (pe_callB call_len_seq (by rfl) zlen PySem.boot_len (pa_cons (pv 0) pa_nil)) (pa_cons (pe_callB call_len_seq (by rfl) zlen PySem.boot_len (pa_cons (pv 1) pa_nil)) pa_nil)))) (pss_one (ps_ret (pe_cmpR (op_eqT hr.units0) (pe_slice sl_tupA (pv 0) po_none (po_some (pv 2))) (pe_slice sl_tupA (pv 1) po_none (po_some (pv 2))) (nomark _))))), ?_⟩
  wp_walk using tSeq, tIfS
  refine ⟨_, .inr (.of ha), _, .inr (.of hb), _, ha, fun r1 G1 s1 h1 => ⟨_, s1 _ _ hb, fun r2 G2 s2 h2 => ?_⟩⟩
  rw [len_map, len_map] at h1 h2
  have e : (if (ms.length : Int) < ns.length then (ms.length : Int) else ns.length) = ((if ms.length < ns.length then ms.length else ns.length : Nat) : Int) := by split <;> split <;> omega
  rw [e, cut_any] at h1 h2
  refine ⟨_, .of (s2 _ _ h1), _, .of h2, flat_ints _, flat_ints _, q _ _ (s1.trans s2) ?_⟩
  rw [eqVs_dec, decide_eq_true_iff]
  unfold pairOk
  split
  · rw [List.take_length]
  · rw [List.take_length]; exact eq_comm
end
abbrev slawtold : Stmt := top 49
section
variable {P : Program} {w : World} {K : PySem.W.Frag} {mg : Str → Option Value} {base : Heap} {f : Addr} {fd : FuncData} {TL : Addr}
theorem sclawtold : FnScope ["what", "word", "tabs", "sides", "fault", "found"] ["what", "word", "tabs", "sides"] (defScope slawtold) := ⟨rfl, rfl, rfl, by decide +kernel, rfl, by decide +kernel, by decide +kernel⟩
theorem oklawtold (F : Fun K "_law_told" "_law_told" slawtold f fd) {CNoWord : Addr} (nNoWord : PySem.W.nsIn K mainGlobals "NoWord" = some (some (.ref CNoWord))) {CUnlike : Addr} (nUnlike : PySem.W.nsIn K mainGlobals "Unlike" = some (some (.ref CUnlike))) {CLoomError : Addr} (nLoomError : PySem.W.nsIn K mainGlobals "LoomError" = some (some (.ref CLoomError))) (ceach : Callee P w K mg base (CX1 P w) (9) "each" ["word", "tab"] (speachT CNoWord)) (cpair : Callee P w K mg base (CX1 P w) (9) "pair" ["word", "tab", "other"] (sppairT TL CNoWord CUnlike)) (cpick : Callee P w K mg base (CX1 P w) (9) "pick" ["marks", "tab", "other"] (sppickT TL CUnlike)) (clead : Callee P w K mg base (CX1 P w) (9) "lead" ["tab", "sides"] (spleadT TL CUnlike)) (e11 : PySem.W.exmOne K (.ref CNoWord) (.ref CNoWord) = some true) (e21 : PySem.W.exmOne K (.ref CUnlike) (.ref CNoWord) = some false) (e22 : PySem.W.exmOne K (.ref CUnlike) (.ref CUnlike) = some true) : FnOk P w K mg base CX0 (10) f fd ["what", "word", "tabs", "sides"] ((spltoldT TL)) := by
  have sc := sclawtold
  refine F.ok sc (fun vs H Q E h => ?_) (fun cdv A outer s H vs Q E hr h => ?_)
  · obtain ⟨what, w, l, s, n0, c0, n1, c1, n2, c2, ms, rfl, _⟩ := h; rfl
  obtain ⟨what, wd, l, sa, n0, c0, n1, c1, n2, c2, ms, rfl, w0, w3, ok, tb, ha, o0, o1, o2, hs, nb, ht, q⟩ := h
  refine ⟨_, (pss_cons (ps_set (i := 4) sc.nd rfl (by first | exact Or.inl rfl | exact Or.inr rfl) pe_str) (pss_cons (ps_set (i := 5) sc.nd rfl (by first | exact Or.inl rfl | exact Or.inr rfl) (pe_tup pa_nil)) (pss_cons (ps_tryN ⟨rfl, rfl⟩ (fun xe pn EE hx => (pss_one (ps_if (pt_cmpR op_eq (pv 0) pe_int (nomark _)) (pss_one (ps_set (i := 5) sc.nd rfl (by first | exact Or.inl rfl | exact Or.inr rfl) (pe_calX ceach hr (by rfl) hx (pa_cons (pv 1) (pa_cons (pe_ix ix_listH (pv 2) pe_int (fun _ _ => rfl)) pa_nil))))) (pss_one (ps_if (pt_cmpR op_eq (pv 0) pe_int (nomark _)) (pss_one (ps_set (i := 5) sc.nd rfl (by first | exact Or.inl rfl | exact Or.inr rfl) (pe_calX cpair hr (by rfl) hx (pa_cons (pv 1) (pa_cons (pe_ix ix_listH (pv 2) pe_int (fun _ _ => rfl)) (pa_cons (pe_ix ix_listH (pv 2) pe_int (fun _ _ => rfl)) pa_nil)))))) (pss_one (ps_if (pt_cmpR op_eq (pv 0) pe_int (nomark _)) (pss_one (ps_set (i := 5) sc.nd rfl (by first | exact Or.inl rfl | exact Or.inr rfl) (pe_calX cpick hr (by rfl) hx (pa_cons (pe_ix ix_listH (pv 2) pe_int (fun _ _ => rfl)) (pa_cons (pe_ix ix_listH (pv 2) pe_int (fun _ _ => rfl)) (pa_cons (pe_ix ix_listH (pv 2) pe_int (fun _ _ => rfl)) pa_nil)))))) (pss_one (ps_set (i := 5) sc.nd rfl (by first | exact Or.inl rfl | exact Or.inr rfl) (pe_calX clead hr (by rfl) hx (pa_cons (pe_ix ix_listH (pv 2) pe_int (fun _ _ => rfl)) (pa_cons (pv 3) pa_nil)))))))))))) (.cons (by rfl) nNoWord (fun ae pn => (pss_one (ps_set (i := 4) sc.nd rfl (by first | exact Or.inl rfl | exact Or.inr rfl) pe_str))) (.cons (by rfl) nUnlike (fun ae pn => (pss_one (ps_set (i := 4) sc.nd rfl (by first | exact Or.inl rfl | exact Or.inr rfl) pe_str))) (.cons (by rfl) nLoomError (fun ae pn => (pss_one (ps_set (i := 4) sc.nd rfl (by first | exact Or.inl rfl | exact Or.inr rfl) pe_str))) .nil (by decide)) (by decide)) (by decide))) (pss_one (ps_ret (pe_tup (pa_cons (pv 4) (pa_cons (pv 5) pa_nil)))))))), ?_⟩
  simp only [L2.start, List.length_cons, List.length_nil, List.replicate, List.cons_append, List.nil_append, Nat.reduceSub, Nat.reduceAdd, List.map_cons, List.map_nil]
  wp_walk using tSeq, tIfS, speachT, sppairT, sppickT, spleadT
  refine ⟨small (by decide), fun p hp => ?_⟩
  have s0 := same_new hp (.tup [])
  generalize upd H p (.tup []) = H0 at *
  obtain ⟨a0, a1, a2, hl, t0, t1, t2⟩ := id tb
  have hl0 := s0 _ _ hl
  have t0 := t0.same s0
  have t1 := t1.same s0
  have t2 := t2.same s0
  have ht0 := ht.same s0
  have ha0 := s0 _ _ ha
  have fa : ∀ w' : Str, (∀ G f, toldR G f w' what wd n0 c0 n1 c1 n2 c2 ms) → ∀ H1, Same H0 H1 → (2 ≤ sizeLine ∧ ∀ p1, H1 p1 = none → Q (V.ref p1) (upd H1 p1 (HO.tup [V.str w', V.ref p]))) := fun w' d H1 s1 => ⟨small (by decide), fun p1 hp1 => q _ p1 w' p (SmT.of (s0.trans (s1.trans (same_new hp1 _)))) (ht0.same (s1.trans (same_new hp1 _))) upd_same (d _ _)⟩
  have su : ∀ H1 f, SmT H0 H1 → TabOk H1 TL ⟨110, 46, 110, 80⟩ "lead.<locals>.<lambda>" → ¬ badW what wd → fits what n0 n1 n2 ms → TbAt H1 f (lngP what n0 n1 n2 ms) (dueL what wd n0 c0 n1 c1 n2 c2 (lngP what n0 n1 n2 ms)) → (2 ≤ sizeLine ∧ ∀ p1, H1 p1 = none → Q (V.ref p1) (upd H1 p1 (HO.tup [V.str (Str.ofString ""), V.ref f]))) := fun H1 f s1 tk nb ft tf => ⟨small (by decide), fun p1 hp1 => q _ p1 "" f (((SmT.of s0).trans s1).trans (SmT.of (same_new hp1 _))) (tk.same (same_new hp1 _)) upd_same (.inr (.inr ⟨nb, ft, rfl, tf.same (same_new hp1 _)⟩))⟩
  rcases four w0 w3 with rfl | rfl | rfl | rfl
  · rw [if_pos rfl]
    refine ⟨_, hl0, _, atI_nat (j := 0) rfl, _, rfl, ok, n0, c0, t0, o0.c, fun hw H1 s1 => .inl ⟨e11, fa "word" (fun _ _ => .inl ⟨.inl ⟨rfl, hw⟩, rfl⟩) H1 s1⟩, fun hw H1 f s1 tf => su H1 f (SmT.of s1) (ht0.same s1) (nb0 hw) ⟨fun z => absurd z (by decide), fun z => absurd z (by decide), fun z => absurd z (by decide)⟩ ?_⟩
    unfold lngP
    rw [if_pos rfl, ← due0 o0]; exact tf
  · rw [if_neg (by decide), if_pos rfl]
    refine ⟨_, hl0, _, atI_nat (j := 0) rfl, _, hl0, _, atI_nat (j := 1) rfl, _, rfl, _, rfl, ok, n0, c0, t0, n1, c1, t1, o0.1, o1.1, o0.l, o1.l, o0.2.2.1, o1.2.2.1, o0.p, o1.p, o0.2.2.2, o1.2.2.2, ht0, fun hw => .inl ⟨e11, fa "word" (fun _ _ => .inl ⟨.inr ⟨rfl, hw⟩, rfl⟩) H0 (Same.refl _)⟩, fun hw np H1 s1 => .inr ⟨e21, .inl ⟨e22, fa "unlike" (fun _ _ => .inr (.inl ⟨nb1 hw, fun z => np (z.1 rfl), rfl⟩)) H1 s1⟩⟩, fun hw po H1 f s1 tk tf => su H1 f s1 tk (nb1 hw) ⟨fun _ => po, fun z => absurd z (by decide), fun z => absurd z (by decide)⟩ ?_⟩
    unfold lngP
    rw [if_neg (by decide), if_pos rfl, ← due1]; exact tf
  · rw [if_neg (by decide), if_neg (by decide), if_pos rfl]
    refine ⟨_, hl0, _, atI_nat (j := 2) rfl, _, hl0, _, atI_nat (j := 0) rfl, _, hl0, _, atI_nat (j := 1) rfl, _, rfl, _, rfl, _, rfl, n2, c2, t2, n0, c0, t0, n1, c1, t1, o2.1, o0.1, o1.1, o2.l, o0.l, o1.l, o2.2.2.1, o0.2.2.1, o1.2.2.1, o2.p, o0.p, o1.p, ht0, fun np H1 s1 => .inr ⟨e21, .inl ⟨e22, fa "unlike" (fun _ _ => .inr (.inl ⟨nb2, fun z => np (z.2.1 rfl), rfl⟩)) H1 s1⟩⟩, fun po po2 H1 f s1 tk tf => su H1 f s1 tk nb2 ⟨fun z => absurd z (by decide), fun _ => ⟨po, po2⟩, fun z => absurd z (by decide)⟩ ?_⟩
    unfold lngP
    rw [if_neg (by decide), if_neg (by decide), if_pos rfl, ← due2]; exact tf
  · rw [if_neg (by decide), if_neg (by decide), if_neg (by decide)]
    refine ⟨_, hl0, _, atI_nat (j := 0) rfl, _, rfl, n0, c0, t0, ms, ha0, o0.1, hs, o0.l, Nat.le_trans (big_l nb) (by decide), o0.2.2.1, big_p hs nb, ht0, fun np H1 s1 => .inr ⟨e21, .inl ⟨e22, fa "unlike" (fun _ _ => .inr (.inl ⟨nb3, fun z => np (z.2.2 rfl), rfl⟩)) H1 s1⟩⟩, fun po H1 f s1 tk tf => su H1 f (SmT.ofP ht0 s1) tk nb3 ⟨fun z => absurd z (by decide), fun z => absurd z (by decide), fun _ => po⟩ ?_⟩
    unfold lngP
    rw [if_neg (by decide), if_neg (by decide), if_neg (by decide), ← due3]; exact tf
end
abbrev slawcelldue : Stmt := top 50
def splawcelldue : Sp := fun vs H Q _ => ∃ (what : Int) (w : Str) (l b : Addr) (n0 c0 n1 c1 n2 c2 P : List Int) (i : Nat), vs = [.int what, .str w, .ref l, .ref b] ∧ 0 ≤ what ∧ what ≤ 3 ∧ ¬ badW what w ∧ Tabs3 H l n0 c0 n1 c1 n2 c2 ∧ H b = some (.tup ((atD P (i : Int)).map V.int)) ∧ OkT n0 c0 ∧ OkT n1 c1 ∧ OkT n2 c2 ∧ good n0 ((atD P (i : Int)).take n0.length) ∧ (what = 1 ∨ what = 2 → good n1 ((atD P (i : Int)).take n1.length)) ∧ (what = 2 → good n2 ((atD P (i : Int)).take n2.length)) ∧ ∀ H', Same H H' → Q (.int (dueV what w n0 c0 n1 c1 n2 c2 P i)) H'
section
variable {P : Program} {w : World} {K : PySem.W.Frag} {mg : Str → Option Value} {base : Heap} {f : Addr} {fd : FuncData} {TL : Addr}
theorem sclawcelldue : FnScope ["what", "word", "tabs", "at"] ["what", "word", "tabs", "at"] (defScope slawcelldue) := ⟨rfl, rfl, rfl, by decide +kernel, rfl, by decide +kernel, by decide +kernel⟩
theorem oklawcelldue (F : Fun K "_law_cell_due" "_law_cell_due" slawcelldue f fd) (clawonce : Callee P w K mg base CX0 (3) "_law_once" ["word", "x"] splawonce) (clawtwice : Callee P w K mg base CX0 (3) "_law_twice" ["word", "x", "y"] splawtwice) (clawled : Callee P w K mg base CX0 (3) "_law_led" ["tab", "at"] splawled) : FnOk P w K mg base CX0 (4) f fd ["what", "word", "tabs", "at"] (splawcelldue) := by
  have sc := sclawcelldue
  refine F.ok sc (fun vs H Q E h => ?_) (fun cdv A outer s H vs Q E hr h => ?_)
  · obtain ⟨what, w, l, b, n0, c0, n1, c1, n2, c2, P, i, rfl, _⟩ := h; rfl
  obtain ⟨what, wd, l, b, n0, c0, n1, c1, n2, c2, P, i, rfl, w0, w3, nbw, ⟨a0, a1, a2, hl, t0, t1, t2⟩, hb, o0, o1, o2, g0, g1, g2, q⟩ := h
  refine ⟨_, (pss_cons (ps_if (pt_cmpR op_eq (pv 0) pe_int (nomark _)) (pss_one (ps_ret (pe_cal clawonce hr (by rfl) pass0 (pa_cons (pv 1) (pa_cons (pe_cal clawled hr (by rfl) pass0 (pa_cons (pe_ix ix_listH (pv 2) pe_int (fun _ _ => rfl)) (pa_cons (pv 3) pa_nil))) pa_nil))))) pss_nil) (pss_cons (ps_if (pt_cmpR op_eq (pv 0) pe_int (nomark _)) (pss_one (ps_ret (pe_cal clawtwice hr (by rfl) pass0 (pa_cons (pv 1) (pa_cons (pe_cal clawled hr (by rfl) pass0 (pa_cons (pe_ix ix_listH (pv 2) pe_int (fun _ _ => rfl)) (pa_cons (pv 3) pa_nil))) (pa_cons (pe_cal clawled hr (by rfl) pass0 (pa_cons (pe_ix ix_listH (pv 2) pe_int (fun _ _ => rfl)) (pa_cons (pv 3) pa_nil))) pa_nil)))))) pss_nil) (pss_cons (ps_if (pw_or (pt_cmpR op_eq (pv 0) pe_int (nomark _)) (pw_or1 (pt_cmpR op_ne (pe_cal clawled hr (by rfl) pass0 (pa_cons (pe_ix ix_listH (pv 2) pe_int (fun _ _ => rfl)) (pa_cons (pv 3) pa_nil))) pe_int (nomark _)))).pt (pss_one (ps_ret (pe_cal clawled hr (by rfl) pass0 (pa_cons (pe_ix ix_listH (pv 2) pe_int (fun _ _ => rfl)) (pa_cons (pv 3) pa_nil))))) pss_nil) (pss_one (ps_ret (pe_cal clawled hr (by rfl) pass0 (pa_cons (pe_ix ix_listH (pv 2) pe_int (fun _ _ => rfl)) (pa_cons (pv 3) pa_nil)))))))), ?_⟩
  simp only [L2.start, List.length_cons, List.length_nil, List.replicate, List.cons_append, List.nil_append, Nat.reduceSub, Nat.reduceAdd, List.map_cons, List.map_nil]
  wp_walk using tSeq, tIfS, splawonce, splawtwice, splawled
  rcases four w0 w3 with rfl | rfl | rfl | rfl
  · rw [if_pos rfl]
    have hw : wd ∈ one4 := Classical.byContradiction fun z => nbw (.inl ⟨rfl, z⟩)
    refine ⟨_, hl, _, atI_nat (j := 0) rfl, _, rfl, n0, c0, t0, _, hb, o0.1, o0.l, g0, o0.2.2.1, fun G s => ⟨hw, ledV_in (ms := P) (i := i) o0.2.2.2, ?_⟩⟩
    have q' := q _ s
    unfold dueV at q'
    rw [if_pos rfl] at q'
    exact q'
  · rw [if_neg (by decide), if_pos rfl]
    have hw : wd ∈ two12 := Classical.byContradiction fun z => nbw (.inr ⟨rfl, z⟩)
    refine ⟨_, hl, _, atI_nat (j := 0) rfl, _, rfl, n0, c0, t0, _, hb, o0.1, o0.l, g0, o0.2.2.1, fun G s => ⟨_, s _ _ hl, _, atI_nat (j := 1) rfl, _, rfl, n1, c1, t1.same s, _, s _ _ hb, o1.1, o1.l, g1 (.inl rfl), o1.2.2.1, fun G2 s2 => ⟨hw, ledV_in (ms := P) (i := i) o0.2.2.2, ledV_in (ms := P) (i := i) o1.2.2.2, fun G3 s3 => ?_⟩⟩⟩
    have q' := q _ (s.trans (s2.trans s3))
    unfold dueV at q'
    rw [if_neg (by decide), if_pos rfl] at q'
    exact q'
  · rw [if_neg (by decide), if_neg (by decide), if_neg (by decide)]
    refine ⟨_, hl, _, atI_nat (j := 2) rfl, _, rfl, n2, c2, t2, _, hb, o2.1, o2.l, g2 rfl, o2.2.2.1, fun G s => ?_⟩
    have e2 : ∀ G', Same H G' → Q (.int (if ¬ ledV n2 c2 P i = 0 then ledV n0 c0 P i else ledV n1 c1 P i)) G' := fun G' s' => by
      have q' := q _ s'
      unfold dueV at q'
      rw [if_neg (show ¬ (2 : Int) = 0 by decide), if_neg (show ¬ (2 : Int) = 1 by decide)] at q'
      by_cases h : ledV n2 c2 P i = 0
      · rw [if_neg (fun z => z.elim (by decide) (fun y => y h))] at q'
        rw [if_neg (fun z => z h)]; exact q'
      · rw [if_pos (.inr h)] at q'
        rw [if_pos h]; exact q'
    by_cases h : ¬ ledV n2 c2 P i = 0
    · rw [if_pos (show ¬ c2.getD (plH n2 ((atD P (i : Int)).take n2.length)).toNat 0 = 0 from h)]
      refine ⟨_, s _ _ hl, _, atI_nat (j := 0) rfl, _, rfl, n0, c0, t0.same s, _, s _ _ hb, o0.1, o0.l, g0, o0.2.2.1, fun G2 s2 => ?_⟩
      have q' := e2 _ (s.trans s2)
      rw [if_pos h] at q'
      exact q'
    · rw [if_neg (show ¬ ¬ c2.getD (plH n2 ((atD P (i : Int)).take n2.length)).toNat 0 = 0 from h)]
      refine ⟨_, s _ _ hl, _, atI_nat (j := 1) rfl, _, rfl, n1, c1, t1.same s, _, s _ _ hb, o1.1, o1.l, g1 (.inr rfl), o1.2.2.1, fun G2 s2 => ?_⟩
      have q' := e2 _ (s.trans s2)
      rw [if_neg h] at q'
      exact q'
  · rw [if_neg (by decide), if_neg (by decide), if_pos rfl]
    refine ⟨_, hl, _, atI_nat (j := 0) rfl, _, rfl, n0, c0, t0, _, hb, o0.1, o0.l, g0, o0.2.2.1, fun G s => ?_⟩
    have q' := q _ s
    unfold dueV at q'
    rw [if_neg (by decide), if_neg (by decide), if_pos (.inl rfl)] at q'
    exact q'
end
abbrev slawcellat : Stmt := top 33
def splawcellat : PySem.W.Frag → Sp := fun K => fun vs H Q _ => ∃ (a : Addr) (ns : List Int) (k : Nat), vs = [.ref a, .int k] ∧ SqL K H a (ns.map V.int) ∧ Q (.int (cellI ns k)) H
section
variable {P : Program} {w : World} {K : PySem.W.Frag} {mg : Str → Option Value} {base : Heap} {f : Addr} {fd : FuncData} {TL : Addr}
theorem sclawcellat : FnScope ["script", "k"] ["script", "k"] (defScope slawcellat) := ⟨rfl, rfl, rfl, by decide +kernel, rfl, by decide +kernel, by decide +kernel⟩
theorem oklawcellat (F : Fun K "_law_cell_at" "_law_cell_at" slawcellat f fd) (zlen : mg "len" = none) : FnOk P w K mg base CX0 (1) f fd ["script", "k"] ((splawcellat K)) := by
  have sc := sclawcellat
  refine F.ok sc (fun vs H Q E h => ?_) (fun cdv A outer s H vs Q E hr h => ?_)
  · obtain ⟨a, ns, k, rfl, _⟩ := h; rfl
  obtain ⟨a, ns, k, rfl, hS, q⟩ := h
  refine ⟨_, (pss_cons (ps_if (pt_cmpR op_lt (pv 1) (pe_callB call_len_seq (by rfl) zlen PySem.boot_len (pa_cons (pv 0) pa_nil)) (nomark _)) (pss_one (ps_ret (pe_ix ix_list (pv 0) (pv 1) (fun _ _ => rfl)))) pss_nil) (pss_one (ps_ret pe_int))), ?_⟩
  wp_walk using tSeq, tIfS
  refine ⟨_, .inl hS, ?_⟩
  rw [len_map]
  unfold cellI at q
  by_cases c : k < ns.length
  · rw [if_pos (by omega)]
    exact ⟨_, hS, _, atI_nat (j := k) (by rw [List.getElem?_map, List.getElem?_eq_getElem c]; rfl), by rw [List.getD_eq_getElem?_getD, List.getElem?_eq_getElem c] at q; exact q⟩
  · rw [if_neg (by omega)]
    rw [List.getD_eq_getElem?_getD, List.getElem?_eq_none (by omega)] at q
    exact q
end
abbrev slawfits : Stmt := top 37
def splawfits : Sp := fun vs H Q _ => ∃ (a : Addr) (ns : List Int), vs = [.ref a] ∧ (H a = some (.lst (ns.map V.int)) ∨ H a = some (.tup (ns.map V.int))) ∧ sdOk ns ∧ ∀ b : Bool, (b = true ↔ ¬ bigI ns) → Q (.bl b) H
section
variable {P : Program} {w : World} {K : PySem.W.Frag} {mg : Str → Option Value} {base : Heap} {f : Addr} {fd : FuncData} {TL : Addr}
theorem sclawfits : FnScope ["sides", "wide", "length"] ["sides"] (defScope slawfits) := ⟨rfl, rfl, rfl, by decide +kernel, rfl, by decide +kernel, by decide +kernel⟩
theorem oklawfits (F : Fun K "_law_fits" "_law_fits" slawfits f fd) (zmax : mg "max" = none) (zlen : mg "len" = none) : FnOk P w K mg base CX0 (1) f fd ["sides"] (splawfits) := by
  have sc := sclawfits
  refine F.ok sc (fun vs H Q E h => ?_) (fun cdv A outer s H vs Q E hr h => ?_)
  · obtain ⟨a, ns, rfl, _⟩ := h; rfl
  obtain ⟨a, ns, rfl, ha | ha, hs, q⟩ := h
  · refine ⟨_, (pss_cons (ps_set (i := 1) sc.nd rfl (by first | exact Or.inl rfl | exact Or.inr rfl) pe_int) (pss_cons (ps_for PassesOwn.never rfl (pi_list (pv 0)) (pg_name (i := 2) sc.nd rfl (Or.inl rfl)) (pss_one (ps_set (i := 1) sc.nd rfl (by first | exact Or.inl rfl | exact Or.inr rfl) (pe_op op_mul (pv 1) (pe_callB (call_max2 rfl) (by rfl) zmax boot_max (pa_cons pe_int (pa_cons (pv 2) pa_nil))))))) (pss_one (ps_ret (pe_and (pe_cmpR op_le (pe_callB call_len_seq (by rfl) zlen PySem.boot_len (pa_cons (pv 0) pa_nil)) pe_int (nomark _)) (pe_one (pe_cmpR op_le (pv 1) pe_int (nomark _)))))))), ?_⟩
    wp_walk using tSeq, tIfS
    refine LoopL.mk (xs := ns.map V.int) (.of ha) (fun i σ H' => H' = H ∧ ∃ y, σ = [some (.ref a), some (.int (prodI ((ns.map one1).take i))), y]) ⟨rfl, _, rfl⟩ (fun i σ H' _ h => by rw [h.1]; exact .of ha) (fun i x σ H' e h => ?_) (fun σ H' h => ?_)
    · obtain ⟨h1, y, rfl⟩ := h
      subst h1
      obtain ⟨m, rfl, hm, m0, m1⟩ := sd_at hs e
      have hm2 : (ns.map one1)[i]? = some (one1 m) := by rw [List.getElem?_map, hm]; rfl
      have o1 := one_ok hs _ (List.mem_of_getElem? hm2)
      wp_walk using tSeq, tIfS
      rw [mx_one m0, prod_step hm2]
      exact ⟨.inr ⟨by omega, by omega⟩, rfl, _, rfl⟩
    · obtain ⟨h1, y, rfl⟩ := h
      subst h1
      have tl : (ns.map one1).take ns.length = ns.map one1 := by rw [List.take_of_length_le]; simp
      rw [len_map, tl]
      wp_walk using tSeq, tIfS
      refine ⟨_, .inl (.of ha), ?_⟩
      rw [len_map]
      unfold bigI at q
      split
      · exact q _ (by rw [decide_eq_true_eq]; omega)
      · refine q _ (Iff.intro (fun z => by cases z) (fun z => absurd (Or.inl (by omega)) z))
  · refine ⟨_, (pss_cons (ps_set (i := 1) sc.nd rfl (by first | exact Or.inl rfl | exact Or.inr rfl) pe_int) (pss_cons (ps_for PassesOwn.never rfl (pi_tup (pv 0)) (pg_name (i := 2) sc.nd rfl (Or.inl rfl)) (pss_one (ps_set (i := 1) sc.nd rfl (by first | exact Or.inl rfl | exact Or.inr rfl) (pe_op op_mul (pv 1) (pe_callB (call_max2 rfl) (by rfl) zmax boot_max (pa_cons pe_int (pa_cons (pv 2) pa_nil))))))) (pss_one (ps_ret (pe_and (pe_cmpR op_le (pe_callB call_len_seq (by rfl) zlen PySem.boot_len (pa_cons (pv 0) pa_nil)) pe_int (nomark _)) (pe_one (pe_cmpR op_le (pv 1) pe_int (nomark _)))))))), ?_⟩
    wp_walk using tSeq, tIfS
    refine LoopT.mk (xs := ns.map V.int) (.of ha) (fun i σ H' => H' = H ∧ ∃ y, σ = [some (.ref a), some (.int (prodI ((ns.map one1).take i))), y]) ⟨rfl, _, rfl⟩ (fun i σ H' _ h => by rw [h.1]; exact .of ha) (fun i x σ H' e h => ?_) (fun σ H' h => ?_)
    · obtain ⟨h1, y, rfl⟩ := h
      subst h1
      obtain ⟨m, rfl, hm, m0, m1⟩ := sd_at hs e
      have hm2 : (ns.map one1)[i]? = some (one1 m) := by rw [List.getElem?_map, hm]; rfl
      have o1 := one_ok hs _ (List.mem_of_getElem? hm2)
      wp_walk using tSeq, tIfS
      rw [mx_one m0, prod_step hm2]
      exact ⟨.inr ⟨by omega, by omega⟩, rfl, _, rfl⟩
    · obtain ⟨h1, y, rfl⟩ := h
      subst h1
      have tl : (ns.map one1).take ns.length = ns.map one1 := by rw [List.take_of_length_le]; simp
      rw [len_map, tl]
      wp_walk using tSeq, tIfS
      refine ⟨_, .inr (.of ha), ?_⟩
      rw [len_map]
      unfold bigI at q
      split
      · exact q _ (by rw [decide_eq_true_eq]; omega)
      · refine q _ (Iff.intro (fun z => by cases z) (fun z => absurd (Or.inl (by omega)) z))
end
abbrev slawsize : Stmt := top 36
def splawsize : Sp := fun vs H Q _ => ∃ (a : Addr) (ns : List Int), vs = [.ref a] ∧ H a = some (.tup (ns.map V.int)) ∧ sdOk ns ∧ Q (.int (prodI ns)) H
section
variable {P : Program} {w : World} {K : PySem.W.Frag} {mg : Str → Option Value} {base : Heap} {f : Addr} {fd : FuncData} {TL : Addr}
theorem sclawsize : FnScope ["sides", "size", "length"] ["sides"] (defScope slawsize) := ⟨rfl, rfl, rfl, by decide +kernel, rfl, by decide +kernel, by decide +kernel⟩
theorem oklawsize (F : Fun K "_law_size" "_law_size" slawsize f fd) : FnOk P w K mg base CX0 (1) f fd ["sides"] (splawsize) := by
  have sc := sclawsize
  refine F.ok sc (fun vs H Q E h => ?_) (fun cdv A outer s H vs Q E hr h => ?_)
  · obtain ⟨a, ns, rfl, _⟩ := h; rfl
  obtain ⟨a, ns, rfl, ha, hs, q⟩ := h
  refine ⟨_, (pss_cons (ps_set (i := 1) sc.nd rfl (by first | exact Or.inl rfl | exact Or.inr rfl) pe_int) (pss_cons (ps_for PassesOwn.never rfl (pi_tup (pv 0)) (pg_name (i := 2) sc.nd rfl (Or.inl rfl)) (pss_one (ps_set (i := 1) sc.nd rfl (by first | exact Or.inl rfl | exact Or.inr rfl) (pe_op op_mul (pv 1) (pv 2))))) (pss_one (ps_ret (pv 1))))), ?_⟩
  wp_walk using tSeq, tIfS
  refine LoopT.mk (xs := ns.map V.int) (.of ha) (fun i σ H' => H' = H ∧ ∃ y, σ = [some (.ref a), some (.int (prodI (ns.take i))), y]) ⟨rfl, _, rfl⟩ (fun i σ H' _ h => by rw [h.1]; exact .of ha) (fun i x σ H' e h => ?_) (fun σ H' h => ?_)
  · obtain ⟨h1, y, rfl⟩ := h
    subst h1
    obtain ⟨m, rfl, hm, m0, m1⟩ := sd_at hs e
    wp_walk using tSeq, tIfS
    rw [prod_step hm]
    exact ⟨.inr ⟨by omega, by omega⟩, rfl, _, rfl⟩
  · obtain ⟨h1, y, rfl⟩ := h
    subst h1
    wp_walk using tSeq, tIfS
    rw [len_map, List.take_length]
    exact q
end
abbrev slawnumber : Stmt := top 40
def splawnumber : Sp := fun vs H Q _ => ∃ n : Int, vs = [.int n] ∧ ∀ H', Same H H' → Q (.int (numI n)) H'
section
variable {P : Program} {w : World} {K : PySem.W.Frag} {mg : Str → Option Value} {base : Heap} {f : Addr} {fd : FuncData} {TL : Addr}
theorem sclawnumber : FnScope ["n"] ["n"] (defScope slawnumber) := ⟨rfl, rfl, rfl, by decide +kernel, rfl, by decide +kernel, by decide +kernel⟩
theorem oklawnumber (F : Fun K "_law_number" "_law_number" slawnumber f fd) : FnOk P w K mg base CX0 (1) f fd ["n"] (splawnumber) := by
  have sc := sclawnumber
  refine F.ok sc (fun vs H Q E h => ?_) (fun cdv A outer s H vs Q E hr h => ?_)
  · obtain ⟨n, rfl, _⟩ := h; rfl
  obtain ⟨n, rfl, q⟩ := h
  refine ⟨_, (pss_cons (ps_if (pt_cmpR op_eq (pe_op op_mod (pv 0) pe_int) pe_int (nomark _)) (pss_one (ps_ret (pe_ix ix_list (pe_lst (pa_cons (pe_un un_neg (pe_op op_pow pe_int pe_int)) (pa_cons (pe_op op_sub (pe_op op_pow pe_int pe_int) pe_int) (pa_cons (pe_un un_neg pe_int) (pa_cons (pe_op op_pow pe_int pe_int) pa_nil))))) (pe_op op_mod (pe_op op_fdiv (pv 0) pe_int) pe_int) (fun _ _ => rfl)))) pss_nil) (pss_one (ps_ret (pe_op op_sub (pe_op op_mod (pe_op op_add (pv 0) (pe_op op_pow pe_int pe_int)) (pe_op op_pow pe_int pe_int)) (pe_op op_pow pe_int pe_int))))), ?_⟩
  wp_walk using tSeq, tIfS
  unfold numI at q
  by_cases c1 : n % 17 = 5
  · rw [if_pos c1]
    rw [if_pos c1] at q
    refine ⟨small (by decide), fun p hp => ⟨_, .of upd_same, _, ?_, q _ (same_new hp _)⟩⟩
    exact at_int (r := [-9223372036854775808, 9223372036854775807, -1, 4611686018427387904]) (by omega) (by rw [List.getD_eq_getElem?_getD, List.getElem?_eq_getElem (show _ < 4 by omega)]; rfl)
  · rw [if_neg c1]
    rw [if_neg c1] at q
    exact q _ (Same.refl _)
end
abbrev slawcells : Stmt := top 41
def splawcells : PySem.W.Frag → Sp := fun K => fun vs H Q _ => ∃ (a : Addr) (ns : List Int) (b z : Nat) (salt : Int), vs = [.ref a, .int b, .int z, .int salt] ∧ SqL K H a (ns.map V.int) ∧ ns.length ≤ 63 ∧ b ≤ 100 ∧ z ≤ 512 ∧ 0 ≤ salt ∧ salt ≤ 100000000 ∧ ∀ H' p (cs : List Int), Same H H' → H' p = some (.tup (cs.map V.int)) → cs.length = z → (∀ c ∈ cs, inB c) → Q (.ref p) H'
section
variable {P : Program} {w : World} {K : PySem.W.Frag} {mg : Str → Option Value} {base : Heap} {f : Addr} {fd : FuncData} {TL : Addr}
theorem sclawcells : FnScope ["script", "begin", "size", "salt", "made", "count", "k", "n"] ["script", "begin", "size", "salt"] (defScope slawcells) := ⟨rfl, rfl, rfl, by decide +kernel, rfl, by decide +kernel, by decide +kernel⟩
theorem oklawcells (F : Fun K "_law_cells" "_law_cells" slawcells f fd) (clawnumber : Callee P w K mg base CX0 (1) "_law_number" ["n"] splawnumber) (zmax : mg "max" = none) (zlen : mg "len" = none) (zrange : mg "range" = none) (ztuple : mg "tuple" = none) : FnOk P w K mg base CX0 (2) f fd ["script", "begin", "size", "salt"] ((splawcells K)) := by
  have sc := sclawcells
  refine F.ok sc (fun vs H Q E h => ?_) (fun cdv A outer s H vs Q E hr h => ?_)
  · obtain ⟨a, ns, b, z, salt, rfl, _⟩ := h; rfl
  obtain ⟨a, ns, b, z, salt, rfl, hS, h63, hb, hz, s0, s1, q⟩ := h
  refine ⟨_, (pss_cons (ps_set (i := 4) sc.nd rfl (by first | exact Or.inl rfl | exact Or.inr rfl) (pe_lst pa_nil)) (pss_cons (ps_set (i := 5) sc.nd rfl (by first | exact Or.inl rfl | exact Or.inr rfl) (pe_callB (call_max2 rfl) (by rfl) zmax boot_max (pa_cons pe_int (pa_cons (pe_callB call_len_seq (by rfl) zlen PySem.boot_len (pa_cons (pv 0) pa_nil)) pa_nil)))) (pss_cons (ps_for PassesOwn.never rfl (pi_range1 (by rfl) zrange (pa_cons (pv 2) pa_nil)) (pg_name (i := 6) sc.nd rfl (Or.inl rfl)) (pss_cons (ps_set (i := 7) sc.nd rfl (by first | exact Or.inl rfl | exact Or.inr rfl) (pe_op op_add (pe_op op_mul (pv 6) (pv 3)) (pe_op op_mul (pe_op op_mul (pe_op op_fdivW (pv 6) (pv 5)) (pe_op op_fdivW (pv 6) (pv 5))) pe_int))) (pss_cons (ps_if (pt_cmpR op_gt (pe_callB call_len_seq (by rfl) zlen PySem.boot_len (pa_cons (pv 0) pa_nil)) pe_int (nomark _)) (pss_one (ps_set (i := 7) sc.nd rfl (by first | exact Or.inl rfl | exact Or.inr rfl) (pe_op op_add (pv 7) (pe_ix ix_list (pv 0) (pe_op op_modN (pe_op op_add (pv 1) (pv 6)) (pv 5)) (fun _ _ => rfl))))) pss_nil) (pss_one (ps_expr (pe_app (pv 4) (pe_cal clawnumber hr (by rfl) pass0 (pa_cons (pv 7) pa_nil)))))))) (pss_one (ps_ret (pe_callTy call_tuple_of (by rfl) ztuple boot_tuple (pa_cons (pv 4) pa_nil))))))), ?_⟩
  wp_walk using splawnumber
  refine seq_with (fun σ G => ∃ p, G = upd H p (HO.lst []) ∧ H p = none ∧ σ = [some (.ref a), some (.int b), some (.int z), some (.int salt), some (.ref p), none, none, none]) ?_ (fun R hR => ?_)
  rotate_left
  · wp_walk using tSeq, tIfS
    exact ⟨small (by decide), fun p hp => hR _ _ ⟨p, rfl, hp, rfl⟩⟩
  rintro σ1 G1 ⟨p, rfl, hp, rfl⟩
  obtain ⟨cN, hcn, c1, c2, c3⟩ : ∃ cN : Nat, (if (ns.length : Int) > 1 then (ns.length : Int) else 1) = (cN : Int) ∧ 1 ≤ cN ∧ (ns.length = 0 ∨ cN = ns.length) ∧ cN ≤ 63 := by
    by_cases h : (ns.length : Int) > 1
    · exact ⟨ns.length, by rw [if_pos h], by omega, .inr rfl, by omega⟩
    · exact ⟨1, by rw [if_neg h]; rfl, by omega, by omega, by omega⟩
  refine seq_with (fun σ G => G = upd H p (HO.lst []) ∧ σ = [some (.ref a), some (.int b), some (.int z), some (.int salt), some (.ref p), some (.int cN), none, none]) ?_ (fun R hR => ?_)
  rotate_left
  · wp_walk using tSeq, tIfS
    refine ⟨_, .inl ((same_new hp _).seq hS), ?_⟩
    rw [len_map, hcn]
    exact hR _ _ ⟨rfl, rfl⟩
  rintro σ2 G2 ⟨rfl, rfl⟩
  refine seq_with (fun σ G => ∃ (cs : List Int) (y6 y7 : Option V), Same H G ∧ G p = some (.lst (cs.map V.int)) ∧ cs.length = z ∧ (∀ c ∈ cs, inB c) ∧ σ = [some (.ref a), some (.int b), some (.int z), some (.int salt), some (.ref p), some (.int cN), y6, y7]) ?_ (fun R hR => ?_)
  rotate_left
  · wp_walk using rPopAt
    refine ⟨by omega, by omega, ?_⟩
    rw [Int.toNat_natCast]
    refine LoopR.mk (fun i σ G => ∃ (cs : List Int) (y6 y7 : Option V), Same H G ∧ G p = some (.lst (cs.map V.int)) ∧ cs.length = i ∧ (∀ c ∈ cs, inB c) ∧ σ = [some (.ref a), some (.int b), some (.int z), some (.int salt), some (.ref p), some (.int cN), y6, y7]) ⟨[], _, _, same_new hp _, upd_same, rfl, fc0, rfl⟩ (fun i σ G hi h => ?_) (fun σ G h => hR _ _ h)
    obtain ⟨cs, y6, y7, sG, gp, cl, cb, rfl⟩ := h
    simp only [gName, List.set_cons_succ, List.set_cons_zero, Int.zero_add]
    refine seq_with (fun σ G' => G' = G ∧ ∃ v : Int, σ = [some (.ref a), some (.int b), some (.int z), some (.int salt), some (.ref p), some (.int cN), some (.int i), some (.int v)]) ?_ (fun R2 hR2 => ?_)
    rotate_left
    · wp_walk using tSeq, tIfS
      have dv : (i : Int).fdiv cN = (i : Int) / cN := Int.fdiv_eq_ediv_of_nonneg _ (by omega)
      have d0 : 0 ≤ (i : Int) / cN := Int.ediv_nonneg (by omega) (by omega)
      have d1 : (i : Int) / cN ≤ i := Int.ediv_le_self _ (by omega)
      rw [dv]
      exact ⟨.inl ⟨by omega, by omega⟩, by omega, by omega, by omega, by omega, by omega, by omega, .inl ⟨by omega, by omega⟩, hR2 _ _ ⟨rfl, _, rfl⟩⟩
    rintro σ3 G3 ⟨rfl, v0, rfl⟩
    refine seq_with (fun σ G' => G' = G3 ∧ ∃ v : Int, σ = [some (.ref a), some (.int b), some (.int z), some (.int salt), some (.ref p), some (.int cN), some (.int i), some (.int v)]) ?_ (fun R2 hR2 => ?_)
    rotate_left
    · wp_walk using tSeq, tIfS
      refine ⟨_, .inl (sG.seq hS), ?_⟩
      rw [len_map]
      split
      · have m0 := Int.fmod_nonneg (a := (b : Int) + i) (b := cN) (by omega) (by omega)
        have m1 := Int.fmod_lt_of_pos ((b : Int) + i) (show (0 : Int) < cN by omega)
        generalize ((b : Int) + i).fmod cN = mm at *
        have lt : mm.toNat < ns.length := by omega
        exact ⟨by omega, _, sG.seq hS, _, at_int (r := ns) m0 (List.getElem?_eq_getElem lt), _, rfl, hR2 _ _ ⟨rfl, _, rfl⟩⟩
      · exact hR2 _ _ ⟨rfl, _, rfl⟩
    rintro σ4 G4 ⟨rfl, v1, rfl⟩
    wp_walk using tSeq, tIfS, splawnumber
    refine ⟨⟨_, gp⟩, fun G5 s5 => ⟨_, s5 _ _ gp, by rw [List.length_map]; exact small1000 (by omega), fun b o e => ?_, cs ++ [numI v1], by rw [List.map_append]; rfl, by rw [List.length_append, cl]; rfl, (fun c hc => (List.mem_append.mp hc).elim (cb c) fun z => by cases List.mem_singleton.mp z; exact num_in _), _, rfl⟩⟩
    rw [upd_ne (fun z => by rw [z, hp] at e; cases e)]
    exact s5 _ _ (sG _ _ e)
  rintro σ3 G3 ⟨cs, y6, y7, s3, g3, l3, b3, rfl⟩
  wp_walk using tSeq, tIfS
  exact ⟨_, .inl ⟨.of g3, fun l hl => q _ l cs (s3.trans (same_new hl _)) upd_same l3 b3⟩⟩
end
abbrev slawbegun : Stmt := top 47
def splawbegun : PySem.W.Frag → Sp := fun K => fun vs H Q _ => ∃ (a s : Addr) (rs ms : List Int) (k : Nat), vs = [.ref a, .int k, .ref s] ∧ SqL K H a (rs.map V.int) ∧ rs.length ≤ 63 ∧ k ≤ 2 ∧ H s = some (.tup (ms.map V.int)) ∧ fit ms ∧ ∀ H' p ns cs, Same H H' → TbAt H' p ns cs → OkT ns cs → Q (.ref p) H'
section
variable {P : Program} {w : World} {K : PySem.W.Frag} {mg : Str → Option Value} {base : Heap} {f : Addr} {fd : FuncData} {TL : Addr}
theorem sclawbegun : FnScope ["script", "k", "sides", "cell", "made", "other", "cells", "i"] ["script", "k", "sides"] (defScope slawbegun) := ⟨rfl, rfl, rfl, by decide +kernel, rfl, by decide +kernel, by decide +kernel⟩
theorem oklawbegun (F : Fun K "_law_begun" "_law_begun" slawbegun f fd) (clawcellat : Callee P w K mg base CX0 (2) "_law_cell_at" ["script", "k"] (splawcellat K)) (clawfits : Callee P w K mg base CX0 (2) "_law_fits" ["sides"] splawfits) (clawcells : Callee P w K mg base CX0 (2) "_law_cells" ["script", "begin", "size", "salt"] (splawcells K)) (clawsize : Callee P w K mg base CX0 (2) "_law_size" ["sides"] splawsize) (zlist : mg "list" = none) (zlen : mg "len" = none) (ztuple : mg "tuple" = none) (zrange : mg "range" = none) : FnOk P w K mg base CX0 (3) f fd ["script", "k", "sides"] ((splawbegun K)) := by
  have sc := sclawbegun
  refine F.ok sc (fun vs H Q E h => ?_) (fun cdv A outer s H vs Q E hr h => ?_)
  · obtain ⟨a, s, rs, ms, k, rfl, _⟩ := h; rfl
  obtain ⟨a, sa, rs, ms, k, rfl, hS, h63, k2, ha, hf, q⟩ := h
  refine ⟨_, (pss_cons (ps_set (i := 3) sc.nd rfl (by first | exact Or.inl rfl | exact Or.inr rfl) (pe_cal clawcellat hr (by rfl) pass0 (pa_cons (pv 0) (pa_cons (pe_op op_add pe_int (pv 1)) pa_nil)))) (pss_cons (ps_set (i := 4) sc.nd rfl (by first | exact Or.inl rfl | exact Or.inr rfl) (pe_slice sl_tupA (pv 2) po_none (po_some (pe_op op_mod (pv 3) (pe_op op_add (pe_callB call_len_seq (by rfl) zlen PySem.boot_len (pa_cons (pv 2) pa_nil)) pe_int))))) (pss_cons (ps_if (pw_and (pt_cmpR op_eq (pv 1) (pe_op op_mod (pe_cal clawcellat hr (by rfl) pass0 (pa_cons (pv 0) (pa_cons pe_int pa_nil))) pe_int) (nomark _)) (pw_and1 (pt_cmpR op_gt (pe_callB call_len_seq (by rfl) zlen PySem.boot_len (pa_cons (pv 4) pa_nil)) pe_int (nomark _)))).pt (pss_cons (ps_set (i := 5) sc.nd rfl (by first | exact Or.inl rfl | exact Or.inr rfl) (pe_op op_catS (pe_slice sl_tupA (pv 4) po_none (po_some (pe_op op_sub (pe_callB call_len_seq (by rfl) zlen PySem.boot_len (pa_cons (pv 4) pa_nil)) pe_int))) (pe_tup (pa_cons (pe_op op_mod (pe_op op_fdiv (pv 3) pe_int) pe_int) pa_nil)))) (pss_one (ps_if (pt_val (pe_cal clawfits hr (by rfl) pass0 (pa_cons (pv 5) pa_nil))) (pss_one (ps_set (i := 4) sc.nd rfl (by first | exact Or.inl rfl | exact Or.inr rfl) (pv 5))) pss_nil))) pss_nil) (pss_cons (ps_set (i := 6) sc.nd rfl (by first | exact Or.inl rfl | exact Or.inr rfl) (pe_callTy call_list_of (by rfl) zlist boot_list (pa_cons (pe_cal clawcells hr (by rfl) pass0 (pa_cons (pv 0) (pa_cons (pe_op op_mul pe_int (pv 1)) (pa_cons (pe_cal clawsize hr (by rfl) pass0 (pa_cons (pv 4) pa_nil)) (pa_cons pe_int pa_nil))))) pa_nil))) (pss_cons (ps_if (pt_cmpR op_eq (pv 1) pe_int (nomark _)) (pss_one (ps_for PassesOwn.never rfl (pi_range1 (by rfl) zrange (pa_cons (pe_callB call_len_seq (by rfl) zlen PySem.boot_len (pa_cons (pv 6) pa_nil)) pa_nil)) (pg_name (i := 7) sc.nd rfl (Or.inl rfl)) (pss_one (ps_asg (pe_op op_mul (pe_ix ix_listH (pv 6) (pv 7) (fun _ _ => rfl)) (pe_op op_mod (pe_op op_fdiv (pe_ix ix_listH (pv 6) (pv 7) (fun _ _ => rfl)) pe_int) pe_int)) (pg_sub (pv 6) (pv 7) set_list))))) pss_nil) (pss_one (ps_ret (pe_tup (pa_cons (pv 4) (pa_cons (pe_callTy call_tuple_of (by rfl) ztuple boot_tuple (pa_cons (pv 6) pa_nil)) pa_nil)))))))))), ?_⟩
  simp only [L2.start, List.length_cons, List.length_nil, List.replicate, List.cons_append, List.nil_append, Nat.reduceSub, Nat.reduceAdd, List.map_cons, List.map_nil]
  refine seq_with (fun σ G => G = H ∧ σ = [some (.ref a), some (.int k), some (.ref sa), some (.int (cellI rs (7 + k))), none, none, none, none]) ?_ (fun R hR => ?_)
  rotate_left
  · wp_walk using tSeq, tIfS, splawcellat
    exact ⟨rs, 7 + k, by omega, hS, hR _ _ ⟨rfl, rfl⟩⟩
  rintro σ1 G1 ⟨rfl, rfl⟩
  generalize cellI rs (7 + k) = c
  refine seq_with (fun σ G => ∃ (p : Addr) (ns : List Int), Same G1 G ∧ G p = some (.tup (ns.map V.int)) ∧ sdOk ns ∧ ¬ bigI ns ∧ σ = [some (.ref a), some (.int k), some (.ref sa), some (.int c), some (.ref p), none, none, none]) ?_ (fun R hR => ?_)
  rotate_left
  · wp_walk using tSeq, tIfS
    refine ⟨_, .inr (.of ha), by omega, _, ha, fun r G s hr => ?_⟩
    obtain ⟨j, hj⟩ := Int.eq_ofNat_of_zero_le (Int.emod_nonneg c (show ((ms.map V.int).length : Int) + 1 ≠ 0 by omega))
    rw [hj, cut_any] at hr
    exact hR _ _ ⟨r, ms.take j, s, hr, sdOk_take (sdOk_fit hf) j, big_take (sdOk_fit hf) (big_fit hf) j, rfl⟩
  rintro σ2 G2 ⟨p, ns, s2, hp, sdn, nbn, rfl⟩
  refine seq_with (fun σ G => ∃ (p : Addr) (ns : List Int) (y : Option V), Same G2 G ∧ G p = some (.tup (ns.map V.int)) ∧ sdOk ns ∧ ¬ bigI ns ∧ σ = [some (.ref a), some (.int k), some (.ref sa), some (.int c), some (.ref p), y, none, none]) ?_ (fun R hR => ?_)
  rotate_left
  · wp_walk using tSeq, tIfS, splawcellat, splawfits
    refine ⟨rs, 10, rfl, s2.seq hS, ?_⟩
    have keep : R [some (.ref a), some (.int k), some (.ref sa), some (.int c), some (.ref p), none, none, none] G2 := hR _ _ ⟨p, ns, none, Same.refl _, hp, sdn, nbn, rfl⟩
    split
    rotate_left
    · exact keep
    refine ⟨_, .inr (.of hp), ?_⟩
    rw [len_map]
    split
    rotate_left
    · exact keep
    rename_i c1
    refine ⟨_, .inr (.of hp), _, hp, fun r G s hr => ?_⟩
    rw [len_map, show (ns.length : Int) - 1 = ((ns.length - 1 : Nat) : Int) by omega, cut_any] at hr
    have l6 := big_l nbn
    refine ⟨small (by decide), fun p1 hp1 => ⟨_, same_new hp1 _ _ _ hr, small (by rw [List.length_map, List.length_take]; omega), fun r2 G' s' hr2 => ?_⟩⟩
    have sG := s.trans ((same_new hp1 (.tup [V.int (c / 7 % 4)])).trans s')
    have hr3 : G' r2 = some (.tup ((ns.take (ns.length - 1) ++ [c / 7 % 4]).map V.int)) := by rw [hr2, List.map_append]; rfl
    have sd' : sdOk (ns.take (ns.length - 1) ++ [c / 7 % 4]) := sd_app (sdOk_take sdn _) (sd_one (by omega) (by omega))
    refine ⟨_, .inr hr3, sd', fun b hb => ?_⟩
    split
    · rename_i hbt; exact hR _ _ ⟨r2, _, _, sG, hr3, sd', hb.mp hbt, rfl⟩
    · exact hR _ _ ⟨p, ns, _, sG, sG _ _ hp, sdn, nbn, rfl⟩
  rintro σ3 G3 ⟨p3, ns3, y3, s3, hp3, sd3, nb3, rfl⟩
  refine seq_with (fun σ G => ∃ (l : Addr) (cs : List Int), Same G3 G ∧ G3 l = none ∧ G l = some (.lst (cs.map V.int)) ∧ (cs.length : Int) = prodI ns3 ∧ (∀ c ∈ cs, inB c) ∧ σ = [some (.ref a), some (.int k), some (.ref sa), some (.int c), some (.ref p3), y3, some (.ref l), none]) ?_ (fun R hR => ?_)
  rotate_left
  · wp_walk using tSeq, tIfS, splawcells, splawsize
    have p5 := big_p sd3 nb3
    obtain ⟨z, hz⟩ : ∃ z : Nat, prodI ns3 = (z : Int) := ⟨(prodI ns3).toNat, by have := prod_nn fun n hn => (sd3 n hn).1; omega⟩
    exact ⟨ns3, hp3, sd3, rs, 11 * k, by omega, z, hz, (s2.trans s3).seq hS, h63, by omega, by omega, fun G p cs s hp cl ib => ⟨_, .inr (.of hp), fun l hl => hR _ _ ⟨l, cs, s.trans (same_new hl _), same_none s hl, upd_same, by omega, ib, rfl⟩⟩⟩
  rintro σ4 G4 ⟨l, cs, s4, fl, hl, cl, ib, rfl⟩
  refine seq_with (fun σ G => ∃ (cs : List Int) (y : Option V), Same G3 G ∧ G l = some (.lst (cs.map V.int)) ∧ (cs.length : Int) = prodI ns3 ∧ (∀ c ∈ cs, inB c) ∧ σ = [some (.ref a), some (.int k), some (.ref sa), some (.int c), some (.ref p3), y3, some (.ref l), y]) ?_ (fun R hR => ?_)
  rotate_left
  · wp_walk using tSeq, tIfS
    by_cases k0 : (k : Int) = 2
    rotate_left
    · rw [if_neg k0]; exact hR _ _ ⟨cs, _, s4, hl, cl, ib, rfl⟩
    rw [if_pos k0]
    have p5 := big_p sd3 nb3
    refine ⟨_, .inl (.of hl), by rw [len_map]; omega, by rw [len_map]; omega, ?_⟩
    rw [len_map, Int.toNat_natCast]
    refine LoopR.mk (fun i σ G => ∃ (us : List Int) (y : Option V), Same G3 G ∧ G l = some (.lst (us.map V.int)) ∧ us.length = cs.length ∧ (∀ c ∈ us, inB c) ∧ σ = [some (.ref a), some (.int k), some (.ref sa), some (.int c), some (.ref p3), y3, some (.ref l), y]) ⟨cs, _, s4, hl, rfl, ib, rfl⟩ (fun i σ G hi h => ?_) (fun σ G h => ?_)
    · obtain ⟨us, y, sG, hu, ul, ub, rfl⟩ := h
      have iu : i < us.length := by omega
      have eu : atI (us.map V.int) (i : Int) = some (.int us[i]) := atI_nat (by rw [List.getElem?_map, List.getElem?_eq_getElem iu]; rfl)
      have iv := ub us[i] (List.getElem_mem iu)
      wp_walk using tSeq, tIfS, Int.zero_add
      refine ⟨_, hu, _, eu, _, hu, _, eu, _, rfl, _, rfl, .inr ⟨by omega, by omega⟩, _, hu, i, by rw [len_map]; exact ixN_ok iu, same_put sG fl, us.set i (us[i] * (us[i] / 8 % 2)), by rw [List.map_set], by rw [List.length_set]; exact ul, fun v hv => ?_, _, rfl⟩
      rcases List.mem_or_eq_of_mem_set hv with h | rfl
      · exact ub v h
      · exact half_in iv
    · obtain ⟨us, y, sG, hu, ul, ub, rfl⟩ := h
      exact hR _ _ ⟨us, _, sG, hu, by omega, ub, rfl⟩
  rintro σ5 G5 ⟨cs5, y5, s5, hl5, cl5, ib5, rfl⟩
  wp_walk using tSeq, tIfS
  exact ⟨_, .inl ⟨.of hl5, fun t ht => ⟨small (by decide), fun p6 hp6 => q _ p6 ns3 cs5 (s2.trans (s3.trans (s5.trans ((same_new ht _).trans (same_new hp6 _))))) ⟨p3, t, upd_same, same_new hp6 _ _ _ (same_new ht _ _ _ (s5 _ _ hp3)), same_new hp6 _ _ _ upd_same⟩ ⟨sd3, nb3, cl5, ib5⟩⟩⟩⟩
end
abbrev slawwhole : Stmt := top 32
def splawwhole : Sp := fun vs H Q _ => ∃ (n : Int), vs = [.int n] ∧ Q (.bl true) H
section
variable {P : Program} {w : World} {K : PySem.W.Frag} {mg : Str → Option Value} {base : Heap} {f : Addr} {fd : FuncData} {TL : Addr}
theorem sclawwhole : FnScope ["found"] ["found"] (defScope slawwhole) := ⟨rfl, rfl, rfl, by decide +kernel, rfl, by decide +kernel, by decide +kernel⟩
theorem oklawwhole (F : Fun K "_law_whole" "_law_whole" slawwhole f fd) (zisinstance : mg "isinstance" = none) (zint : mg "int" = none) (zbool : mg "bool" = none) : FnOk P w K mg base CX0 (1) f fd ["found"] (splawwhole) := by
  have sc := sclawwhole
  refine F.ok sc (fun vs H Q E h => ?_) (fun cdv A outer s H vs Q E hr h => ?_)
  · obtain ⟨n, rfl, _⟩ := h; rfl
  obtain ⟨n, rfl, q⟩ := h
  refine ⟨_, (pss_one (ps_ret (pe_and (pe_callB call_isiS (by rfl) zisinstance boot_isinstance (pa_cons (pv 0) (pa_cons (pe_bltn (v := .ty "int") (by rfl) zint boot_int rfl) pa_nil))) (pe_one (pe_not (pe_callB call_isiS (by rfl) zisinstance boot_isinstance (pa_cons (pv 0) (pa_cons (pe_bltn (v := .ty "bool") (by rfl) zbool boot_bool rfl) pa_nil)))))))), ?_⟩
  wp_walk using tSeq, tIfS
  exact q
end
abbrev slawissides : Stmt := top 35
def splawissides : Sp := fun vs H Q _ => ∃ (a b : Addr) (ns : List Int), vs = [.ref a, .ref b] ∧ H a = some (.tup (ns.map V.int)) ∧ RwI H b ns ∧ ns.length ≤ 512 ∧ Q (.bl true) H
section
variable {P : Program} {w : World} {K : PySem.W.Frag} {mg : Str → Option Value} {base : Heap} {f : Addr} {fd : FuncData} {TL : Addr}
theorem sclawissides : FnScope ["found", "due", "k"] ["found", "due"] (defScope slawissides) := ⟨rfl, rfl, rfl, by decide +kernel, rfl, by decide +kernel, by decide +kernel⟩
theorem oklawissides (F : Fun K "_law_is_sides" "_law_is_sides" slawissides f fd) (clawwhole : Callee P w K mg base CX0 (1) "_law_whole" ["found"] splawwhole) (zisinstance : mg "isinstance" = none) (ztuple : mg "tuple" = none) (zlen : mg "len" = none) (zrange : mg "range" = none) : FnOk P w K mg base CX0 (2) f fd ["found", "due"] (splawissides) := by
  have sc := sclawissides
  refine F.ok sc (fun vs H Q E h => ?_) (fun cdv A outer s H vs Q E hr h => ?_)
  · obtain ⟨a, b, ns, rfl, _⟩ := h; rfl
  obtain ⟨a, b, ns, rfl, ha, hb, h63, q⟩ := h
  refine ⟨_, (pss_cons (ps_if (pw_or (pt_not (pt_val (pe_callB call_isiTT (by rfl) zisinstance boot_isinstance (pa_cons (pv 0) (pa_cons (pe_bltn (v := .ty "tuple") (by rfl) ztuple boot_tuple rfl) pa_nil))))) (pw_or1 (pt_cmpR op_ne (pe_callB call_len_seq (by rfl) zlen PySem.boot_len (pa_cons (pv 0) pa_nil)) (pe_callB call_len_seq (by rfl) zlen PySem.boot_len (pa_cons (pv 1) pa_nil)) (nomark _)))).pt (pss_one (ps_ret pe_bl)) pss_nil) (pss_cons (ps_for PassesOwn.never rfl (pi_range1 (by rfl) zrange (pa_cons (pe_callB call_len_seq (by rfl) zlen PySem.boot_len (pa_cons (pv 1) pa_nil)) pa_nil)) (pg_name (i := 2) sc.nd rfl (Or.inl rfl)) (pss_one (ps_if (pw_or (pt_not (pt_val (pe_cal clawwhole hr (by rfl) pass0 (pa_cons (pe_ix ix_tupH (pv 0) (pv 2) (fun _ _ => rfl)) pa_nil)))) (pw_or1 (pt_cmpR op_ne (pe_ix ix_tupH (pv 0) (pv 2) (fun _ _ => rfl)) (pe_ix ix_seqH (pv 1) (pv 2) (fun _ _ => rfl)) (nomark _)))).pt (pss_one (ps_ret pe_bl)) pss_nil))) (pss_one (ps_ret pe_bl)))), ?_⟩
  wp_walk using tSeq, tIfS
  refine ⟨_, ha, _, .inr (.of ha), _, hb.imp .of .of, ?_⟩
  rw [len_map, if_neg (by simp)]
  refine ⟨_, hb.imp .of .of, by rw [len_map]; omega, by rw [len_map]; omega, ?_⟩
  rw [len_map, Int.toNat_natCast]
  refine LoopR.mk (fun i σ H' => H' = H ∧ ∃ y, σ = [some (.ref a), some (.ref b), y]) ⟨rfl, _, rfl⟩ (fun i σ H' hi h => ?_) (fun σ H' h => ?_)
  · obtain ⟨h1, y, rfl⟩ := h
    subst h1
    have e1 := atI_ok (ns := ns) hi
    wp_walk using tSeq, tIfS, splawwhole, Int.zero_add
    refine ⟨_, ha, _, e1, _, rfl, _, ha, _, e1, _, hb, _, e1, rfl, ?_⟩
    rw [if_neg (by simp)]
    exact ⟨_, rfl⟩
  · obtain ⟨h1, y, rfl⟩ := h
    subst h1
    wp_walk using tSeq, tIfS
    exact q
end
abbrev slawall : Stmt := top 38
def splawall : Sp := fun vs H Q _ => ∃ (a : Addr) (ns : List Int), vs = [.ref a] ∧ RwI H a ns ∧ sdOk ns ∧ ns.length ≤ 20 ∧ (∀ i, prodI (ns.take i) ≤ 512) ∧ ∀ H' l ps, Same H H' → H' l = some (.lst (ps.map V.ref)) → TpsAt H' ps (allD ns) → Q (.ref l) H'
section
variable {P : Program} {w : World} {K : PySem.W.Frag} {mg : Str → Option Value} {base : Heap} {f : Addr} {fd : FuncData} {TL : Addr}
theorem sclawall : FnScope ["sides", "made", "length", "longer", "at", "k"] ["sides"] (defScope slawall) := ⟨rfl, rfl, rfl, by decide +kernel, rfl, by decide +kernel, by decide +kernel⟩
theorem oklawall (F : Fun K "_law_all" "_law_all" slawall f fd) (zrange : mg "range" = none) : FnOk P w K mg base CX0 (1) f fd ["sides"] (splawall) := by
  have sc := sclawall
  refine F.ok sc (fun vs H Q E h => ?_) (fun cdv A outer s H vs Q E hr h => ?_)
  · obtain ⟨a, ns, rfl, _⟩ := h; rfl
  obtain ⟨a, ns, rfl, ha, hs, h20, h512, q⟩ := h
  refine ⟨_, (pss_cons (ps_set (i := 1) sc.nd rfl (by first | exact Or.inl rfl | exact Or.inr rfl) (pe_lst (pa_cons (pe_tup pa_nil) pa_nil))) (pss_cons (ps_for PassesOwn.never rfl (pi_seq (pv 0)) (pg_name (i := 2) sc.nd rfl (Or.inl rfl)) (pss_cons (ps_set (i := 3) sc.nd rfl (by first | exact Or.inl rfl | exact Or.inr rfl) (pe_lst pa_nil)) (pss_cons (ps_for PassesOwn.never rfl (pi_list (pv 1)) (pg_name (i := 4) sc.nd rfl (Or.inl rfl)) (pss_one (ps_for PassesOwn.never rfl (pi_range1 (by rfl) zrange (pa_cons (pv 2) pa_nil)) (pg_name (i := 5) sc.nd rfl (Or.inl rfl)) (pss_one (ps_expr (pe_app (pv 3) (pe_op op_catS (pv 4) (pe_tup (pa_cons (pv 5) pa_nil))))))))) (pss_one (ps_set (i := 1) sc.nd rfl (by first | exact Or.inl rfl | exact Or.inr rfl) (pv 3)))))) (pss_one (ps_ret (pv 1))))), ?_⟩
  simp only [L2.start, List.length_cons, List.length_nil, List.replicate, List.cons_append, List.nil_append, Nat.reduceSub, Nat.reduceAdd, List.map_cons, List.map_nil]
  refine seq_with (fun σ G => ∃ l ps, Same H G ∧ G l = some (.lst (ps.map V.ref)) ∧ TpsAt G ps [[]] ∧ σ = [some (.ref a), some (.ref l), none, none, none, none]) ?_ (fun R hR => ?_)
  rotate_left
  · wp_walk using tSeq, tIfS
    refine ⟨small (by decide), fun p hp => ⟨small (by decide), fun l hl => hR _ _ ⟨l, [p], (same_new hp _).trans (same_new hl _), upd_same, ⟨rfl, fun i t e => ?_⟩, rfl⟩⟩⟩
    cases i with
    | zero => cases (Option.some.inj e); exact ⟨p, rfl, same_new hl _ _ _ upd_same⟩
    | succ i => simp at e
  rintro σ1 G1 ⟨l1, ps1, s1, hl1, tp1, rfl⟩
  refine seq_with (fun σ G => ∃ l ps y2 y3 y4 y5, Same H G ∧ G l = some (.lst (ps.map V.ref)) ∧ TpsAt G ps (allD ns) ∧ σ = [some (.ref a), some (.ref l), y2, y3, y4, y5]) ?_ (fun R hR => ?_)
  rotate_left
  · have inv : ∀ (i : Nat) (n : Int), ns[i]? = some n → ∀ (σ : L2.St) (G : Hp), (∃ l ps y2 y3 y4 y5, Same H G ∧ G l = some (.lst (ps.map V.ref)) ∧ TpsAt G ps (allD (ns.take i)) ∧ σ = [some (.ref a), some (.ref l), y2, y3, y4, y5]) → True := fun _ _ _ _ _ _ => trivial
    clear inv
    wp_walk using tIfS
    have start : ∃ l ps y2 y3 y4 y5, Same H G1 ∧ G1 l = some (.lst (ps.map V.ref)) ∧ TpsAt G1 ps (allD (ns.take 0)) ∧ [some (V.ref a), some (V.ref l1), none, none, none, none] = [some (V.ref a), some (V.ref l), y2, y3, y4, y5] := ⟨l1, ps1, _, _, _, _, s1, hl1, tp1, rfl⟩
    have fin : ∀ σ G, (∃ l ps y2 y3 y4 y5, Same H G ∧ G l = some (.lst (ps.map V.ref)) ∧ TpsAt G ps (allD (ns.take (ns.map V.int).length)) ∧ σ = [some (V.ref a), some (V.ref l), y2, y3, y4, y5]) → R σ G := fun σ G ⟨l, ps, y2, y3, y4, y5, sG, gl, tp, e⟩ => hR _ _ ⟨l, ps, y2, y3, y4, y5, sG, gl, by rw [List.length_map, List.take_length] at tp; exact tp, e⟩
    have body : ∀ (i : Nat) (x : V) (σ : L2.St) (G : Hp), (ns.map V.int)[i]? = some x → (∃ l ps y2 y3 y4 y5, Same H G ∧ G l = some (.lst (ps.map V.ref)) ∧ TpsAt G ps (allD (ns.take i)) ∧ σ = [some (V.ref a), some (V.ref l), y2, y3, y4, y5]) → ∃ n l ps y2 y3 y4 y5, x = V.int n ∧ ns[i]? = some n ∧ 0 ≤ n ∧ Same H G ∧ G l = some (.lst (ps.map V.ref)) ∧ TpsAt G ps (allD (ns.take i)) ∧ σ = [some (V.ref a), some (V.ref l), y2, y3, y4, y5] := fun i x σ G ex ⟨l, ps, y2, y3, y4, y5, h⟩ => by
      obtain ⟨n, rfl, hn, n0, _⟩ := sd_at hs ex
      exact ⟨n, l, ps, y2, y3, y4, y5, rfl, hn, n0, h⟩
    rcases ha with ha | ha
    · refine .inl (LoopL.mk (xs := ns.map V.int) (.of (s1 _ _ ha)) (fun i σ G => ∃ l ps y2 y3 y4 y5, Same H G ∧ G l = some (.lst (ps.map V.ref)) ∧ TpsAt G ps (allD (ns.take i)) ∧ σ = [some (.ref a), some (.ref l), y2, y3, y4, y5]) start (fun i σ G _ ⟨_, _, _, _, _, _, sG, _⟩ => .of (sG _ _ ha)) (fun i x σ G ex h => ?_) fin)
      obtain ⟨n, l, ps, y2, y3, y4, y5, rfl, hn, n0, sG, gl, tp, rfl⟩ := body i x σ G ex h
      have pl := tp.1
      rw [all_len] at pl
      have p1 := h512 i
      have p2 := h512 (i + 1)
      have pn := prod_nn (ns := ns.take i) fun m hm => (hs m (List.mem_of_mem_take hm)).1
      rw [prod_step hn] at p2
      simp only [gName, List.set_cons_succ, List.set_cons_zero]
      refine seq_with (fun σ G3 => ∃ lo, Same G G3 ∧ G lo = none ∧ G3 lo = some (.lst []) ∧ σ = [some (.ref a), some (.ref l), some (.int n), some (.ref lo), y4, y5]) ?_ (fun R2 hR2 => ?_)
      rotate_left
      · wp_walk using tSeq, tIfS
        exact ⟨small (by decide), fun p hp => hR2 _ _ ⟨p, same_new hp _, hp, upd_same, rfl⟩⟩
      rintro σ3 G3 ⟨lo, s3, lo0, hlo, rfl⟩
      have lne : l ≠ lo := fun z => by rw [z, lo0] at gl; cases gl
      refine seq_with (fun σ G4 => ∃ qs y4 y5, Same G G4 ∧ G4 lo = some (.lst (qs.map V.ref)) ∧ TpsAt G4 qs (allD (ns.take (i + 1))) ∧ σ = [some (.ref a), some (.ref l), some (.int n), some (.ref lo), y4, y5]) ?_ (fun R2 hR2 => ?_)
      rotate_left
      · wp_walk using tIfS
        refine LoopL.mk (xs := ps.map V.ref) (.of (s3 _ _ gl)) (fun j σ G4 => ∃ qs y4 y5, Same G G4 ∧ G4 lo = some (.lst (qs.map V.ref)) ∧ TpsAt G4 qs (((allD (ns.take i)).take j).flatMap fun t => (List.range n.toNat).map fun k : Nat => t ++ [(k : Int)]) ∧ σ = [some (.ref a), some (.ref l), some (.int n), some (.ref lo), y4, y5]) ⟨[], _, _, s3, hlo, ⟨rfl, fun i t e => by simp at e⟩, rfl⟩ (fun j σ G4 _ ⟨_, _, _, s4, _⟩ => .of (s4 _ _ gl)) (fun j x σ G4 ej h => ?_) (fun σ G4 h => ?_)
        · obtain ⟨qs, y4, y5, s4, h4, tq, rfl⟩ := h
          have jl : j < ps.length := by have := (List.getElem?_eq_some_iff.mp ej).1; rwa [List.length_map] at this
          have ea := all_get (ns := ns.take i) (i := j) (by omega)
          obtain ⟨p, ep, hp⟩ := tp.2 j _ ea
          rw [List.getElem?_map, ep] at ej
          cases (Option.some.inj ej)
          simp only [gName, List.set_cons_succ, List.set_cons_zero]
          wp_walk using tIfS
          have n5 : n ≤ 512 := by
            have j1 : 1 ≤ prodI (ns.take i) := by omega
            have z := Int.mul_le_mul_of_nonneg_right j1 n0
            omega
          refine ⟨by omega, by omega, ?_⟩
          have hp4 := s4 _ _ hp
          refine LoopR.mk (fun k σ G5 => ∃ qs y5, Same G G5 ∧ G5 lo = some (.lst (qs.map V.ref)) ∧ TpsAt G5 qs ((((allD (ns.take i)).take j).flatMap fun t => (List.range n.toNat).map fun k : Nat => t ++ [(k : Int)]) ++ (List.range k).map fun k : Nat => atD (ns.take i) (j : Int) ++ [(k : Int)]) ∧ σ = [some (.ref a), some (.ref l), some (.int n), some (.ref lo), some (.ref p), y5]) ⟨qs, _, s4, h4, by simpa using tq, rfl⟩ (fun k σ G5 hk h => ?_) (fun σ G5 h => ?_)
          · obtain ⟨qs, y5, s5, h5, t5, rfl⟩ := h
            wp_walk using tSeq, tIfS
            have q5 := t5.1
            rw [List.length_append, flat_len, List.length_take, all_len, List.length_map, List.length_range] at q5
            have kb : (min j (prodI (ns.take i)).toNat) * n.toNat + k ≤ 512 := by
              have z1 : ((prodI (ns.take i)).toNat) * n.toNat ≤ 512 := by
                have := Int.toNat_mul pn n0
                omega
              have z2 : (j + 1) * n.toNat ≤ (prodI (ns.take i)).toNat * n.toNat := Nat.mul_le_mul_right _ (by omega)
              rw [Nat.add_mul, Nat.one_mul] at z2
              rw [Nat.min_eq_left (by omega)]
              omega
            have hp5 := s5 _ _ hp
            refine ⟨⟨_, h5⟩, small (by decide), fun p1 hp1 => ⟨_, same_new hp1 _ _ _ hp5, small (by rw [List.length_map, atD_len, List.length_take]; omega), fun r G6 s6 hr => ⟨_, s6 _ _ (same_new hp1 _ _ _ h5), by rw [List.length_map]; exact small1000 (by omega), fun b o e => ?_, qs ++ [r], by rw [List.map_append]; rfl, ?_, _, rfl⟩⟩⟩
            · rw [upd_ne (fun z => by rw [z, lo0] at e; cases e)]
              exact s6 _ _ (same_new hp1 _ _ _ (s5 _ _ e))
            · rw [List.range_succ, List.map_append, ← List.append_assoc]
              have nl : ∀ b xs, G6 b = some (.tup xs) → upd G6 lo (HO.lst (List.map V.ref qs ++ [V.ref r])) b = some (.tup xs) := fun b xs e => by
                rw [upd_ne (fun z => by rw [z, s6 _ _ (same_new hp1 _ _ _ h5)] at e; cases e)]; exact e
              refine (t5.mono fun b xs e => nl b xs (s6 _ _ (same_new hp1 _ _ _ e))).snoc (nl r _ ?_)
              rw [hr, List.map_append, Int.zero_add]; rfl
          · obtain ⟨qs, y5, s5, h5, t5, rfl⟩ := h
            refine ⟨s5, qs, h5, ?_, _, _, rfl⟩
            rw [List.take_add_one, ea, List.flatMap_append]
            simpa using t5
        · obtain ⟨qs, y4, y5, s4, h4, tq, rfl⟩ := h
          rw [List.length_map, tp.1, List.take_length] at tq
          refine hR2 _ _ ⟨qs, y4, y5, s4, h4, ?_, rfl⟩
          rw [List.take_add_one, hn, show (some n).toList = [n] from rfl, all_snoc (fun m hm => (hs m (List.mem_of_mem_take hm)).1) n0]
          exact tq
      rintro σ4 G4 ⟨qs, y4', y5', s4, h4, tq, rfl⟩
      wp_walk using tSeq, tIfS
      exact ⟨sG.trans s4, lo, qs, h4, tq, rfl, _, rfl⟩
    · refine .inr (LoopT.mk (xs := ns.map V.int) (.of (s1 _ _ ha)) (fun i σ G => ∃ l ps y2 y3 y4 y5, Same H G ∧ G l = some (.lst (ps.map V.ref)) ∧ TpsAt G ps (allD (ns.take i)) ∧ σ = [some (.ref a), some (.ref l), y2, y3, y4, y5]) start (fun i σ G _ ⟨_, _, _, _, _, _, sG, _⟩ => .of (sG _ _ ha)) (fun i x σ G ex h => ?_) fin)
      obtain ⟨n, l, ps, y2, y3, y4, y5, rfl, hn, n0, sG, gl, tp, rfl⟩ := body i x σ G ex h
      have pl := tp.1
      rw [all_len] at pl
      have p1 := h512 i
      have p2 := h512 (i + 1)
      have pn := prod_nn (ns := ns.take i) fun m hm => (hs m (List.mem_of_mem_take hm)).1
      rw [prod_step hn] at p2
      simp only [gName, List.set_cons_succ, List.set_cons_zero]
      refine seq_with (fun σ G3 => ∃ lo, Same G G3 ∧ G lo = none ∧ G3 lo = some (.lst []) ∧ σ = [some (.ref a), some (.ref l), some (.int n), some (.ref lo), y4, y5]) ?_ (fun R2 hR2 => ?_)
      rotate_left
      · wp_walk using tSeq, tIfS
        exact ⟨small (by decide), fun p hp => hR2 _ _ ⟨p, same_new hp _, hp, upd_same, rfl⟩⟩
      rintro σ3 G3 ⟨lo, s3, lo0, hlo, rfl⟩
      have lne : l ≠ lo := fun z => by rw [z, lo0] at gl; cases gl
      refine seq_with (fun σ G4 => ∃ qs y4 y5, Same G G4 ∧ G4 lo = some (.lst (qs.map V.ref)) ∧ TpsAt G4 qs (allD (ns.take (i + 1))) ∧ σ = [some (.ref a), some (.ref l), some (.int n), some (.ref lo), y4, y5]) ?_ (fun R2 hR2 => ?_)
      rotate_left
      · wp_walk using tIfS
        refine LoopL.mk (xs := ps.map V.ref) (.of (s3 _ _ gl)) (fun j σ G4 => ∃ qs y4 y5, Same G G4 ∧ G4 lo = some (.lst (qs.map V.ref)) ∧ TpsAt G4 qs (((allD (ns.take i)).take j).flatMap fun t => (List.range n.toNat).map fun k : Nat => t ++ [(k : Int)]) ∧ σ = [some (.ref a), some (.ref l), some (.int n), some (.ref lo), y4, y5]) ⟨[], _, _, s3, hlo, ⟨rfl, fun i t e => by simp at e⟩, rfl⟩ (fun j σ G4 _ ⟨_, _, _, s4, _⟩ => .of (s4 _ _ gl)) (fun j x σ G4 ej h => ?_) (fun σ G4 h => ?_)
        · obtain ⟨qs, y4, y5, s4, h4, tq, rfl⟩ := h
          have jl : j < ps.length := by have := (List.getElem?_eq_some_iff.mp ej).1; rwa [List.length_map] at this
          have ea := all_get (ns := ns.take i) (i := j) (by omega)
          obtain ⟨p, ep, hp⟩ := tp.2 j _ ea
          rw [List.getElem?_map, ep] at ej
          cases (Option.some.inj ej)
          simp only [gName, List.set_cons_succ, List.set_cons_zero]
          wp_walk using tIfS
          have n5 : n ≤ 512 := by
            have j1 : 1 ≤ prodI (ns.take i) := by omega
            have z := Int.mul_le_mul_of_nonneg_right j1 n0
            omega
          refine ⟨by omega, by omega, ?_⟩
          have hp4 := s4 _ _ hp
          refine LoopR.mk (fun k σ G5 => ∃ qs y5, Same G G5 ∧ G5 lo = some (.lst (qs.map V.ref)) ∧ TpsAt G5 qs ((((allD (ns.take i)).take j).flatMap fun t => (List.range n.toNat).map fun k : Nat => t ++ [(k : Int)]) ++ (List.range k).map fun k : Nat => atD (ns.take i) (j : Int) ++ [(k : Int)]) ∧ σ = [some (.ref a), some (.ref l), some (.int n), some (.ref lo), some (.ref p), y5]) ⟨qs, _, s4, h4, by simpa using tq, rfl⟩ (fun k σ G5 hk h => ?_) (fun σ G5 h => ?_)
          · obtain ⟨qs, y5, s5, h5, t5, rfl⟩ := h
            wp_walk using tSeq, tIfS
            have q5 := t5.1
            rw [List.length_append, flat_len, List.length_take, all_len, List.length_map, List.length_range] at q5
            have kb : (min j (prodI (ns.take i)).toNat) * n.toNat + k ≤ 512 := by
              have z1 : ((prodI (ns.take i)).toNat) * n.toNat ≤ 512 := by
                have := Int.toNat_mul pn n0
                omega
              have z2 : (j + 1) * n.toNat ≤ (prodI (ns.take i)).toNat * n.toNat := Nat.mul_le_mul_right _ (by omega)
              rw [Nat.add_mul, Nat.one_mul] at z2
              rw [Nat.min_eq_left (by omega)]
              omega
            have hp5 := s5 _ _ hp
            refine ⟨⟨_, h5⟩, small (by decide), fun p1 hp1 => ⟨_, same_new hp1 _ _ _ hp5, small (by rw [List.length_map, atD_len, List.length_take]; omega), fun r G6 s6 hr => ⟨_, s6 _ _ (same_new hp1 _ _ _ h5), by rw [List.length_map]; exact small1000 (by omega), fun b o e => ?_, qs ++ [r], by rw [List.map_append]; rfl, ?_, _, rfl⟩⟩⟩
            · rw [upd_ne (fun z => by rw [z, lo0] at e; cases e)]
              exact s6 _ _ (same_new hp1 _ _ _ (s5 _ _ e))
            · rw [List.range_succ, List.map_append, ← List.append_assoc]
              have nl : ∀ b xs, G6 b = some (.tup xs) → upd G6 lo (HO.lst (List.map V.ref qs ++ [V.ref r])) b = some (.tup xs) := fun b xs e => by
                rw [upd_ne (fun z => by rw [z, s6 _ _ (same_new hp1 _ _ _ h5)] at e; cases e)]; exact e
              refine (t5.mono fun b xs e => nl b xs (s6 _ _ (same_new hp1 _ _ _ e))).snoc (nl r _ ?_)
              rw [hr, List.map_append, Int.zero_add]; rfl
          · obtain ⟨qs, y5, s5, h5, t5, rfl⟩ := h
            refine ⟨s5, qs, h5, ?_, _, _, rfl⟩
            rw [List.take_add_one, ea, List.flatMap_append]
            simpa using t5
        · obtain ⟨qs, y4, y5, s4, h4, tq, rfl⟩ := h
          rw [List.length_map, tp.1, List.take_length] at tq
          refine hR2 _ _ ⟨qs, y4, y5, s4, h4, ?_, rfl⟩
          rw [List.take_add_one, hn, show (some n).toList = [n] from rfl, all_snoc (fun m hm => (hs m (List.mem_of_mem_take hm)).1) n0]
          exact tq
      rintro σ4 G4 ⟨qs, y4', y5', s4, h4, tq, rfl⟩
      wp_walk using tSeq, tIfS
      exact ⟨sG.trans s4, lo, qs, h4, tq, rfl, _, rfl⟩
  rintro σ2 G2 ⟨l, ps, y2, y3, y4, y5, s2, hl, tp, rfl⟩
  wp_walk using tSeq, tIfS
  exact q _ l ps s2 hl tp
end
abbrev slawsame : Stmt := top 42
def splawsame : Sp := fun vs H Q _ => ∃ (f b d : Addr) (ns cs : List Int), vs = [.ref f, .ref b, .ref d] ∧ TbAt H f ns cs ∧ RwI H b ns ∧ RwI H d cs ∧ ns.length ≤ 512 ∧ cs.length ≤ 512 ∧ Q (.bl true) H
section
variable {P : Program} {w : World} {K : PySem.W.Frag} {mg : Str → Option Value} {base : Heap} {f : Addr} {fd : FuncData} {TL : Addr}
theorem sclawsame : FnScope ["found", "sides", "cells"] ["found", "sides", "cells"] (defScope slawsame) := ⟨rfl, rfl, rfl, by decide +kernel, rfl, by decide +kernel, by decide +kernel⟩
theorem oklawsame (F : Fun K "_law_same" "_law_same" slawsame f fd) (clawissides : Callee P w K mg base CX0 (2) "_law_is_sides" ["found", "due"] splawissides) (zisinstance : mg "isinstance" = none) (ztuple : mg "tuple" = none) (zlen : mg "len" = none) : FnOk P w K mg base CX0 (3) f fd ["found", "sides", "cells"] (splawsame) := by
  have sc := sclawsame
  refine F.ok sc (fun vs H Q E h => ?_) (fun cdv A outer s H vs Q E hr h => ?_)
  · obtain ⟨f, b, d, ns, cs, rfl, _⟩ := h; rfl
  obtain ⟨f, b, d, ns, cs, rfl, ⟨sa, ca, h1, h2, h3⟩, hb, hd, l1, l2, q⟩ := h
  refine ⟨_, (pss_cons (ps_if (pw_or (pt_not (pt_val (pe_callB call_isiTT (by rfl) zisinstance boot_isinstance (pa_cons (pv 0) (pa_cons (pe_bltn (v := .ty "tuple") (by rfl) ztuple boot_tuple rfl) pa_nil))))) (pw_or1 (pt_cmpR op_ne (pe_callB call_len_seq (by rfl) zlen PySem.boot_len (pa_cons (pv 0) pa_nil)) pe_int (nomark _)))).pt (pss_one (ps_ret pe_bl)) pss_nil) (pss_one (ps_ret (pe_and (pe_cal clawissides hr (by rfl) pass0 (pa_cons (pe_ix ix_tupH (pv 0) pe_int (fun _ _ => rfl)) (pa_cons (pv 1) pa_nil))) (pe_one (pe_cal clawissides hr (by rfl) pass0 (pa_cons (pe_ix ix_tupH (pv 0) pe_int (fun _ _ => rfl)) (pa_cons (pv 2) pa_nil)))))))), ?_⟩
  wp_walk using tSeq, tIfS, splawissides
  refine ⟨_, h1, _, .inr (.of h1), ?_⟩
  rw [if_neg (fun z => z rfl)]
  exact ⟨_, h1, _, atI_nat (j := 0) rfl, _, rfl, ns, h2, hb, l1, _, h1, _, atI_nat (j := 1) rfl, _, rfl, cs, h3, hd, l2, q⟩
end
abbrev slawasked : Stmt := top 51
@[irreducible] def wplawasked : List (Str × Pos) := [("add", ⟨264, 13, 264, 18⟩), ("sub", ⟨264, 20, 264, 25⟩), ("mul", ⟨264, 27, 264, 32⟩), ("quo", ⟨264, 34, 264, 39⟩), ("rest", ⟨264, 41, 264, 47⟩), ("max", ⟨264, 49, 264, 54⟩), ("min", ⟨264, 56, 264, 61⟩), ("less", ⟨264, 63, 264, 69⟩), ("like", ⟨264, 71, 264, 77⟩), ("and", ⟨264, 79, 264, 84⟩), ("or", ⟨264, 86, 264, 90⟩), ("xor", ⟨264, 92, 264, 97⟩)]
theorem bwlawasked : defBody slawasked = [(defBody slawasked).getD 0 (.Pass ⟨0, 0, 0, 0⟩), (defBody slawasked).getD 1 (.Pass ⟨0, 0, 0, 0⟩), (defBody slawasked).getD 2 (.Pass ⟨0, 0, 0, 0⟩), .Assign [.Name "pairs" ⟨264, 4, 264, 9⟩] (.List (strsC wplawasked) ⟨264, 12, 264, 98⟩) ⟨264, 4, 264, 98⟩, (defBody slawasked).getD 4 (.Pass ⟨0, 0, 0, 0⟩), (defBody slawasked).getD 5 (.Pass ⟨0, 0, 0, 0⟩), (defBody slawasked).getD 6 (.Pass ⟨0, 0, 0, 0⟩), (defBody slawasked).getD 7 (.Pass ⟨0, 0, 0, 0⟩)] := by kernel_rfl
theorem wvlawasked : (wplawasked.map (·.1)).map V.str = [V.str "add", V.str "sub", V.str "mul", V.str "quo", V.str "rest", V.str "max", V.str "min", V.str "less", V.str "like", V.str "and", V.str "or", V.str "xor"] := by unfold wplawasked; rfl
section
variable {P : Program} {w : World} {K : PySem.W.Frag} {mg : Str → Option Value} {base : Heap} {f : Addr} {fd : FuncData} {TL : Addr}
theorem sclawasked : FnScope ["what", "word", "some", "sides", "told", "used", "longest", "pairs", "one", "other", "due"] ["what", "word", "some", "sides"] (defScope slawasked) := ⟨rfl, rfl, rfl, by decide +kernel, rfl, by decide +kernel, by decide +kernel⟩
theorem oklawasked (F : Fun K "_law_asked" "_law_asked" slawasked f fd) (clawtold : Callee P w K mg base CX0 (10) "_law_told" ["what", "word", "tabs", "sides"] (spltoldT TL)) (clawfit : Callee P w K mg base CX0 (10) "_law_fit" ["one", "other"] splawfit) (clawcelldue : Callee P w K mg base CX0 (10) "_law_cell_due" ["what", "word", "tabs", "at"] splawcelldue) (clawall : Callee P w K mg base CX0 (10) "_law_all" ["sides"] splawall) (clawsame : Callee P w K mg base CX0 (10) "_law_same" ["found", "sides", "cells"] splawsame) (zmax : mg "max" = none) (zlen : mg "len" = none) : FnOk P w K mg base CX0 (11) f fd ["what", "word", "some", "sides"] ((splaskT TL)) := by
  have sc := sclawasked
  refine F.ok sc (fun vs H Q E h => ?_) (fun cdv A outer s H vs Q E hr h => ?_)
  · obtain ⟨what, w, l, s, n0, c0, n1, c1, n2, c2, ms, rfl, _⟩ := h; rfl
  obtain ⟨what, wd, l, sa, n0, c0, n1, c1, n2, c2, ms, rfl, w0, w3, ok, tb, ha, o0, o1, o2, hs, nb, ht, q⟩ := h
  rw [bwlawasked]
  refine ⟨_, (pss_cons (ps_set (i := 4) sc.nd rfl (by first | exact Or.inl rfl | exact Or.inr rfl) (pe_cal clawtold hr (by rfl) pass0 (pa_cons (pv 0) (pa_cons (pv 1) (pa_cons (pv 2) (pa_cons (pv 3) pa_nil)))))) (pss_cons (ps_set (i := 5) sc.nd rfl (by first | exact Or.inl rfl | exact Or.inr rfl) (pe_ix ix_listH (pe_lst (pa_lst (pe_lst (pa_cons (pe_ix ix_tupH (pe_ix ix_listH (pv 2) pe_int (fun _ _ => rfl)) pe_int (fun _ _ => rfl)) pa_nil)) (pa_lst (pe_lst (pa_cons (pe_ix ix_tupH (pe_ix ix_listH (pv 2) pe_int (fun _ _ => rfl)) pe_int (fun _ _ => rfl)) (pa_cons (pe_ix ix_tupH (pe_ix ix_listH (pv 2) pe_int (fun _ _ => rfl)) pe_int (fun _ _ => rfl)) pa_nil))) (pa_lst (pe_lst (pa_cons (pe_ix ix_tupH (pe_ix ix_listH (pv 2) pe_int (fun _ _ => rfl)) pe_int (fun _ _ => rfl)) (pa_cons (pe_ix ix_tupH (pe_ix ix_listH (pv 2) pe_int (fun _ _ => rfl)) pe_int (fun _ _ => rfl)) (pa_cons (pe_ix ix_tupH (pe_ix ix_listH (pv 2) pe_int (fun _ _ => rfl)) pe_int (fun _ _ => rfl)) pa_nil)))) (pa_lst (pe_lst (pa_cons (pe_ix ix_tupH (pe_ix ix_listH (pv 2) pe_int (fun _ _ => rfl)) pe_int (fun _ _ => rfl)) (pa_cons (pv 3) pa_nil))) pa_nil))))) (pv 0) (fun _ _ => rfl))) (pss_cons (ps_set (i := 6) sc.nd rfl (by first | exact Or.inl rfl | exact Or.inr rfl) (pe_maxK rfl (by rfl) zmax (by rfl) zlen (pv 5))) (pss_cons (ps_set (i := 7) sc.nd rfl (by first | exact Or.inl rfl | exact Or.inr rfl) (pe_lst (pa_strs wplawasked))) (pss_cons (ps_if (pw_and (pt_cmpR op_lt (pv 0) pe_int (nomark _)) (pw_and1 (pt_cmpR op_notIn_seq (pv 1) (pe_ix ix_listH (pe_lst (pa_lst (pe_lst (pa_cons pe_str (pa_cons pe_str (pa_cons pe_str (pa_cons pe_str pa_nil))))) (pa_cons (pv 7) pa_nil))) (pv 0) (fun _ _ => rfl)) rfl))).pt (pss_one (ps_ret (pe_cmpR op_eq (pe_ix ix_tupH (pv 4) pe_int (fun _ _ => rfl)) pe_str (nomark _)))) pss_nil) (pss_cons (ps_for PassesOwn.never rfl (pi_list (pv 5)) (pg_name (i := 8) sc.nd rfl (Or.inl rfl)) (pss_one (ps_for PassesOwn.never rfl (pi_list (pv 5)) (pg_name (i := 9) sc.nd rfl (Or.inl rfl)) (pss_one (ps_if (pw_or (pt_not (pt_val (pe_cal clawfit hr (by rfl) pass0 (pa_cons (pv 8) (pa_cons (pv 9) pa_nil))))) (pw_or1 (pw_and (pt_cmpR op_eq (pv 0) pe_int (nomark _)) (pw_and1 (pt_cmpR op_gt (pe_callB call_len_seq (by rfl) zlen PySem.boot_len (pa_cons (pv 8) pa_nil)) (pe_callB call_len_seq (by rfl) zlen PySem.boot_len (pa_cons (pv 3) pa_nil)) (nomark _)))).pt)).pt (pss_one (ps_ret (pe_cmpR op_eq (pe_ix ix_tupH (pv 4) pe_int (fun _ _ => rfl)) pe_str (nomark _)))) pss_nil))))) (pss_cons (ps_setC (own := ["at"]) (fv := ["what", "word", "some"]) (js := [0, 1, 2]) sc.nd (i := 10) rfl (by first | exact Or.inl rfl | exact Or.inr rfl) (by first | exact Or.inl rfl | exact Or.inr rfl) rfl (pi_list (pe_cal clawall hr (by rfl) pass0 (pa_cons (pv 6) pa_nil))) rfl (by decide) rfl (by decide) (by first | exact fun _ _ h => h | exact cl_sub1 rfl | exact cl_sub2 rfl rfl | exact cl_sub3 rfl rfl rfl) (has_of (by rfl)) rfl (cap3 (by first | exact ⟨rfl, .inl rfl, .inl rfl⟩ | exact ⟨rfl, .inl rfl, .inr rfl⟩) (by first | exact ⟨rfl, .inl rfl, .inl rfl⟩ | exact ⟨rfl, .inl rfl, .inr rfl⟩) (by first | exact ⟨rfl, .inl rfl, .inl rfl⟩ | exact ⟨rfl, .inl rfl, .inr rfl⟩)) (fun _ _ _ _ => (pg_name (i := 0) (show (["at", "what", "word", "some"] : List Str).Nodup by decide +kernel) rfl (Or.inl rfl))) (fun _ _ _ _ => (pe_cal clawcelldue hr (by rfl) pass0 (pa_cons (pv 1) (pa_cons (pv 2) (pa_cons (pv 3) (pa_cons (pv 0) pa_nil))))))) (pss_one (ps_ret (pe_and (pe_cmpR op_eq (pe_ix ix_tupH (pv 4) pe_int (fun _ _ => rfl)) pe_str (nomark _)) (pe_one (pe_cal clawsame hr (by rfl) pass0 (pa_cons (pe_ix ix_tupH (pv 4) pe_int (fun _ _ => rfl)) (pa_cons (pv 6) (pa_cons (pv 10) pa_nil))))))))))))))), ?_⟩
  simp only [L2.start, List.length_cons, List.length_nil, List.replicate, List.cons_append, List.nil_append, Nat.reduceSub, Nat.reduceAdd, List.map_cons, List.map_nil]
  refine seq_with (fun σ G => ∃ p w' f, SmT H G ∧ TabOk G TL ⟨110, 46, 110, 80⟩ "lead.<locals>.<lambda>" ∧ G p = some (.tup [.str w', .ref f]) ∧ toldR G f w' what wd n0 c0 n1 c1 n2 c2 ms ∧ σ = [some (.int what), some (.str wd), some (.ref l), some (.ref sa), some (.ref p), none, none, none, none, none, none]) ?_ (fun R hR => ?_)
  rotate_left
  · wp_walk using tSeq, tIfS, spltoldT
    exact ⟨w0, w3, ok, n0, c0, n1, c1, n2, c2, tb, ms, ha, o0, o1, o2, hs, nb, ht, fun G p w' f s tk hp tr => hR _ _ ⟨p, w', f, s, tk, hp, tr, rfl⟩⟩
  rintro σ1 G1 ⟨p, w', f, s1, k1, hp, tr, rfl⟩
  have fin : ∀ G, Same G1 G → Q (.bl true) G := fun G s => q _ (s1.trans (SmT.of s)) (k1.same s)
  have tb1 := tb.up s1
  have ha1 := s1.tup ha
  refine seq_with (fun σ G => ∃ (u : Addr) (ps : List Addr), Same G1 G ∧ G u = some (.lst (ps.map V.ref)) ∧ TpsAt G ps (usedL what n0 n1 n2 ms) ∧ σ = [some (.int what), some (.str wd), some (.ref l), some (.ref sa), some (.ref p), some (.ref u), none, none, none, none, none]) ?_ (fun R hR => ?_)
  rotate_left
  · obtain ⟨a0, a1, a2, hl, ⟨x0, y0, e0, f0, _⟩, ⟨x1, y1, e1, f1, _⟩, ⟨x2, y2, e2, f2, _⟩⟩ := id tb1
    wp_walk using tSeq, tIfS
    refine ⟨_, hl, _, atI_nat (j := 0) rfl, _, rfl, _, e0, _, atI_nat (j := 0) rfl, small (by decide), fun p1 hp1 => ?_⟩
    have k1 := same_new hp1 (.lst [V.ref x0])
    refine ⟨_, k1 _ _ hl, _, atI_nat (j := 0) rfl, _, rfl, _, k1 _ _ e0, _, atI_nat (j := 0) rfl, _, k1 _ _ hl, _, atI_nat (j := 1) rfl, _, rfl, _, k1 _ _ e1, _, atI_nat (j := 0) rfl, small (by decide), fun p2 hp2 => ?_⟩
    have n2' := same_new hp2 (.lst [V.ref x0, V.ref x1])
    have k2 := k1.trans n2'
    refine ⟨_, k2 _ _ hl, _, atI_nat (j := 0) rfl, _, rfl, _, k2 _ _ e0, _, atI_nat (j := 0) rfl, _, k2 _ _ hl, _, atI_nat (j := 1) rfl, _, rfl, _, k2 _ _ e1, _, atI_nat (j := 0) rfl, _, k2 _ _ hl, _, atI_nat (j := 2) rfl, _, rfl, _, k2 _ _ e2, _, atI_nat (j := 0) rfl, small (by decide), fun p3 hp3 => ?_⟩
    have n3' := same_new hp3 (.lst [V.ref x0, V.ref x1, V.ref x2])
    have k3 := k2.trans n3'
    refine ⟨_, k3 _ _ hl, _, atI_nat (j := 0) rfl, _, rfl, _, k3 _ _ e0, _, atI_nat (j := 0) rfl, small (by decide), fun p4 hp4 => ?_⟩
    have n4' := same_new hp4 (.lst [V.ref x0, V.ref sa])
    have k4 := k3.trans n4'
    refine ⟨small (by decide), fun p5 hp5 => ?_⟩
    have n5' := same_new hp5 (.lst [V.ref p1, V.ref p2, V.ref p3, V.ref p4])
    have k5 := k4.trans n5'
    rcases four w0 w3 with rfl | rfl | rfl | rfl
    · exact ⟨_, atI_nat (j := 0) rfl, hR _ _ ⟨p1, [x0], k5, n5' _ _ (n4' _ _ (n3' _ _ (n2' _ _ upd_same))), by rw [used0]; exact tps0.snoc (k5 _ _ f0), rfl⟩⟩
    · exact ⟨_, atI_nat (j := 1) rfl, hR _ _ ⟨p2, [x0, x1], k5, n5' _ _ (n4' _ _ (n3' _ _ upd_same)), by rw [used1]; exact (tps0.snoc (k5 _ _ f0)).snoc (k5 _ _ f1), rfl⟩⟩
    · exact ⟨_, atI_nat (j := 2) rfl, hR _ _ ⟨p3, [x0, x1, x2], k5, n5' _ _ (n4' _ _ upd_same), by rw [used2]; exact ((tps0.snoc (k5 _ _ f0)).snoc (k5 _ _ f1)).snoc (k5 _ _ f2), rfl⟩⟩
    · exact ⟨_, atI_nat (j := 3) rfl, hR _ _ ⟨p4, [x0, sa], k5, n5' _ _ upd_same, by rw [used3]; exact (tps0.snoc (k5 _ _ f0)).snoc (k5 _ _ ha1), rfl⟩⟩
  rintro σ2 G2 ⟨u, ps, s2, hu, tp, rfl⟩
  have uo := used_ok w0 w3 o0 o1 o2 hs nb
  refine seq_with (fun σ G => G = G2 ∧ ∃ (m : Addr) (P : List Int), G2 m = some (.tup (P.map V.int)) ∧ P ∈ usedL what n0 n1 n2 ms ∧ (∀ z ∈ usedL what n0 n1 n2 ms, z.length ≤ P.length) ∧ σ = [some (.int what), some (.str wd), some (.ref l), some (.ref sa), some (.ref p), some (.ref u), some (.ref m), none, none, none, none]) ?_ (fun R hR => ?_)
  rotate_left
  · wp_walk using tSeq, tIfS
    have up := used_pos what n0 n1 n2 ms
    generalize usedL what n0 n1 n2 ms = U at *
    have tl := tp.1
    refine ⟨ps, .of hu, by omega, U.map fun z => z.map V.int, by rw [List.length_map, tl], fun i x t h1 h2 => ?_, fun i x t h1 h2 mx => ?_⟩
    · rw [List.getElem?_map] at h2
      obtain ⟨z, hz, rfl⟩ := Option.map_eq_some_iff.mp h2
      obtain ⟨x', ex, hx⟩ := tp.2 i z hz
      rw [h1] at ex
      cases ex
      exact hx
    · rw [List.getElem?_map] at h2
      obtain ⟨z, hz, rfl⟩ := Option.map_eq_some_iff.mp h2
      obtain ⟨x', ex, hx⟩ := tp.2 i z hz
      rw [h1] at ex
      cases ex
      refine hR _ _ ⟨rfl, x, z, hx, List.mem_of_getElem? hz, fun y hy => ?_, rfl⟩
      obtain ⟨j, hj⟩ := List.mem_iff_getElem?.mp hy
      have := (mx j (y.map V.int) (by rw [List.getElem?_map, hj]; rfl)).1
      rwa [List.length_map, List.length_map] at this
  rintro σ3 G3 ⟨rfl, m, P, hm, mP, mx, rfl⟩
  refine seq_with (fun σ G => Same G3 G ∧ ∃ (c : Addr), G c = some (.lst (two12.map V.str)) ∧ σ = [some (.int what), some (.str wd), some (.ref l), some (.ref sa), some (.ref p), some (.ref u), some (.ref m), some (.ref c), none, none, none]) ?_ (fun R hR => ?_)
  rotate_left
  · wp_walk using tSeq, tIfS, tStrs
    rw [wvlawasked]
    exact ⟨small (by decide), fun p1 hp1 => hR _ _ ⟨same_new hp1 _, p1, upd_same, rfl⟩⟩
  rintro σ4 G4 ⟨s4, c, hc, rfl⟩
  refine seq_with (fun σ G => Same G3 G ∧ ¬ badW what wd ∧ σ = [some (.int what), some (.str wd), some (.ref l), some (.ref sa), some (.ref p), some (.ref u), some (.ref m), some (.ref c), none, none, none]) ?_ (fun R hR => ?_)
  rotate_left
  · wp_walk using tSeq, tIfS
    by_cases c2 : what < 2
    rotate_left
    · rw [if_neg c2]
      exact hR _ _ ⟨s4, fun z => z.elim (fun y => c2 (by rw [y.1]; decide)) (fun y => c2 (by rw [y.1]; decide)), rfl⟩
    rw [if_pos c2]
    refine ⟨small (by decide), fun p1 hp1 => ⟨small (by decide), fun p2 hp2 => ?_⟩⟩
    have n1' := same_new hp1 (.lst [V.str (Str.ofString "neg"), V.str (Str.ofString "abs"), V.str (Str.ofString "sign"), V.str (Str.ofString "not")])
    have n2' := same_new hp2 (.lst [V.ref p1, V.ref c])
    have k6 := s4.trans (n1'.trans n2')
    have no : badW what wd → ∃ x, upd (upd G4 p1 (.lst [V.str (Str.ofString "neg"), V.str (Str.ofString "abs"), V.str (Str.ofString "sign"), V.str (Str.ofString "not")])) p2 (.lst [V.ref p1, V.ref c]) p = some (.tup x) ∧ ∃ x_1, atI x 0 = some x_1 ∧ scal x_1 (V.str (Str.ofString "word")) = true ∧ Q (V.bl (decide (x_1 = V.str (Str.ofString "word")))) (upd (upd G4 p1 (.lst [V.str (Str.ofString "neg"), V.str (Str.ofString "abs"), V.str (Str.ofString "sign"), V.str (Str.ofString "not")])) p2 (.lst [V.ref p1, V.ref c])) := fun b => by
      rcases tr with ⟨_, rfl⟩ | ⟨n, _⟩ | ⟨n, _⟩
      · refine ⟨_, k6 _ _ (s2 _ _ hp), _, atI_nat (j := 0) rfl, rfl, ?_⟩
        rw [decide_eq_true rfl]
        exact fin _ (s2.trans k6)
      · exact absurd b n
      · exact absurd b n
    rcases (show what = 0 ∨ what = 1 by omega) with rfl | rfl
    · refine ⟨_, atI_nat (j := 0) rfl, p1, one4.map V.str, rfl, .inl (.of (n2' _ _ upd_same)), rfl, by unfold one4; rfl, !decide (wd ∈ one4), by rw [if_pos rfl, inV_str], ?_⟩
      by_cases h : wd ∈ one4
      · rw [if_neg (by simp [h])]
        exact hR _ _ ⟨k6, nb0 h, rfl⟩
      · rw [if_pos (by simp [h])]
        exact no (.inl ⟨rfl, h⟩)
    · refine ⟨_, atI_nat (j := 1) rfl, c, two12.map V.str, rfl, .inl (.of (n2' _ _ (n1' _ _ hc))), rfl, by unfold two12; rfl, !decide (wd ∈ two12), by rw [if_pos rfl, inV_str], ?_⟩
      by_cases h : wd ∈ two12
      · rw [if_neg (by simp [h])]
        exact hR _ _ ⟨k6, nb1 h, rfl⟩
      · rw [if_pos (by simp [h])]
        exact no (.inr ⟨rfl, h⟩)
  rintro σ5 G5 ⟨s5, nbw, rfl⟩
  refine seq_with (fun σ G => Same G3 G ∧ fits what n0 n1 n2 ms ∧ ∃ y8 y9, σ = [some (.int what), some (.str wd), some (.ref l), some (.ref sa), some (.ref p), some (.ref u), some (.ref m), some (.ref c), y8, y9, none]) ?_ (fun R hR => ?_)
  rotate_left
  · wp_walk using tSeq, tIfS
    have unl : ¬ fits what n0 n1 n2 ms → ∀ G, Same G3 G → ∃ x, G p = some (.tup x) ∧ ∃ x_1, atI x 0 = some x_1 ∧ scal x_1 (V.str (Str.ofString "unlike")) = true ∧ Q (V.bl (decide (x_1 = V.str (Str.ofString "unlike")))) G := fun nf G sG => by
      rcases tr with ⟨b, _⟩ | ⟨_, _, rfl⟩ | ⟨_, ft, _⟩
      · exact absurd b nbw
      · refine ⟨_, sG _ _ (s2 _ _ hp), _, atI_nat (j := 0) rfl, rfl, ?_⟩
        rw [decide_eq_true rfl]
        exact fin _ (s2.trans sG)
      · exact absurd ft nf
    refine LoopL.mk (xs := ps.map V.ref) (.of (s5 _ _ hu)) (fun i σ G => Same G3 G ∧ (∀ a ∈ (usedL what n0 n1 n2 ms).take i, ∀ b ∈ usedL what n0 n1 n2 ms, pairOk a b ∧ ¬ (what = 3 ∧ ms.length < a.length)) ∧ ∃ y8 y9, σ = [some (.int what), some (.str wd), some (.ref l), some (.ref sa), some (.ref p), some (.ref u), some (.ref m), some (.ref c), y8, y9, none]) ⟨s5, fun a ha => by simp at ha, _, _, rfl⟩ (fun i σ G _ h => .of (h.1 _ _ hu)) (fun i x σ G e h => ?_) (fun σ G h => ?_)
    · obtain ⟨sG, hA, y8, y9, rfl⟩ := h
      have il : i < (usedL what n0 n1 n2 ms).length := by have := (List.getElem?_eq_some_iff.mp e).1; rw [List.length_map, tp.1] at this; exact this
      obtain ⟨xa, exa, hxa⟩ := tp.2 i _ (List.getElem?_eq_getElem il)
      rw [List.getElem?_map, exa] at e
      cases e
      have ea : (usedL what n0 n1 n2 ms)[i]? = some (usedL what n0 n1 n2 ms)[i] := List.getElem?_eq_getElem il
      have ma := List.mem_of_getElem? ea
      generalize (usedL what n0 n1 n2 ms)[i] = a at *
      wp_walk using tSeq, tIfS
      refine LoopL.mk (xs := ps.map V.ref) (.of (sG _ _ hu)) (fun j σ G' => Same G3 G' ∧ (∀ b ∈ (usedL what n0 n1 n2 ms).take j, pairOk a b ∧ ¬ (what = 3 ∧ ms.length < a.length)) ∧ ∃ y9, σ = [some (.int what), some (.str wd), some (.ref l), some (.ref sa), some (.ref p), some (.ref u), some (.ref m), some (.ref c), some (.ref xa), y9, none]) ⟨sG, fun b hb => by simp at hb, _, rfl⟩ (fun j σ G' _ h => .of (h.1 _ _ hu)) (fun j x σ G' e h => ?_) (fun σ G' h => ?_)
      · obtain ⟨sG', hB, y9, rfl⟩ := h
        have jl : j < (usedL what n0 n1 n2 ms).length := by have := (List.getElem?_eq_some_iff.mp e).1; rw [List.length_map, tp.1] at this; exact this
        obtain ⟨xb, exb, hxb⟩ := tp.2 j _ (List.getElem?_eq_getElem jl)
        rw [List.getElem?_map, exb] at e
        cases e
        have eb : (usedL what n0 n1 n2 ms)[j]? = some (usedL what n0 n1 n2 ms)[j] := List.getElem?_eq_getElem jl
        have mb := List.mem_of_getElem? eb
        generalize (usedL what n0 n1 n2 ms)[j] = b at *
        wp_walk using tSeq, tIfS, splawfit
        refine ⟨a, sG' _ _ hxa, b, sG' _ _ hxb, fun G2' v s2' hv => ?_⟩
        have sN := sG'.trans s2'
        have next : pairOk a b → ¬ (what = 3 ∧ ms.length < a.length) → ∀ b' ∈ (usedL what n0 n1 n2 ms).take (j + 1), pairOk a b' ∧ ¬ (what = 3 ∧ ms.length < a.length) := fun h1 h2 b' hb' => by
          rcases take_mem eb hb' with h | rfl
          · exact hB b' h
          · exact ⟨h1, h2⟩
        cases v with
        | false =>
          rw [if_pos rfl]
          exact unl (fits_no w0 w3 ma mb (.inl fun z => by have := hv.mpr z; cases this)) _ sN
        | true =>
          rw [if_neg (by decide)]
          have pab := hv.mp rfl
          by_cases w : what = 3
          · rw [if_pos w]
            refine ⟨_, .inr (.of (sN _ _ hxa)), _, .inr (.of (sN _ _ (s2 _ _ ha1))), ?_⟩
            rw [List.length_map, List.length_map]
            by_cases ll : (ms.length : Int) < a.length
            · rw [if_pos ll]
              exact unl (fits_no w0 w3 ma mb (.inr ⟨w, by omega⟩)) _ sN
            · rw [if_neg ll]
              exact ⟨sN, next pab (fun z => ll (by omega)), _, rfl⟩
          · rw [if_neg w]
            exact ⟨sN, next pab (fun z => w z.1), _, rfl⟩
      · obtain ⟨sG', hB, y9, rfl⟩ := h
        refine ⟨sG', fun a' ha' b hb => ?_, _, _, rfl⟩
        rw [List.length_map, tp.1, List.take_length] at hB
        rcases take_mem ea ha' with h | rfl
        · exact hA a' h b hb
        · exact hB b hb
    · obtain ⟨sG, hA, y8, y9, rfl⟩ := h
      rw [List.length_map, tp.1, List.take_length] at hA
      exact hR _ _ ⟨sG, fits_of w0 w3 hA, _, _, rfl⟩
  rintro σ6 G6 ⟨s6, ft, y8, y9, rfl⟩
  have eP := lng_is w0 w3 ft mP mx
  obtain ⟨_, pre⟩ := pre_all w0 w3 ft
  rw [eP] at pre
  obtain ⟨sP, bP⟩ := uo P mP
  have p5 := big_p sP bP
  refine seq_with (fun σ G => Same G3 G ∧ ∃ d, G d = some (.lst ((dueL what wd n0 c0 n1 c1 n2 c2 P).map V.int)) ∧ σ = [some (.int what), some (.str wd), some (.ref l), some (.ref sa), some (.ref p), some (.ref u), some (.ref m), some (.ref c), y8, y9, some (.ref d)]) ?_ (fun R hR => ?_)
  rotate_left
  · wp_walk using tSeq, tIfS, splawall
    refine ⟨P, .inr (s6 _ _ hm), sP, Nat.le_trans (big_l bP) (by decide), big_t sP bP, fun G l1 qs sG hl1 tq => ?_⟩
    have ql : qs.length = (prodI P).toNat := by have := tq.1; rwa [all_len] at this
    have tb6 := tb1.up (SmT.of (s2.trans (s6.trans sG)))
    refine CompL.mk (xs := qs.map V.ref) (.of hl1) (fun j ys σ G' => Same G G' ∧ ys = ((List.range j).map (dueV what wd n0 c0 n1 c1 n2 c2 P)).map V.int ∧ ∃ y, σ = [y, some (.int what), some (.str wd), some (.ref l)]) ⟨Same.refl _, rfl, _, rfl⟩ (fun j ys σ G' _ h => .of (h.1 _ _ hl1)) (fun j x ys σ G' e h => ?_) (fun ys σ G' h d hd => ?_)
    · obtain ⟨sG', rfl, y, rfl⟩ := h
      have jl : j < (prodI P).toNat := by have := (List.getElem?_eq_some_iff.mp e).1; rw [List.length_map, ql] at this; exact this
      obtain ⟨xa, exa, hxa⟩ := tq.2 j _ (all_get jl)
      rw [List.getElem?_map, exa] at e
      cases e
      have gA := atD_good sP (Int.natCast_nonneg j) (by omega)
      have gd : ∀ z ∈ usedL what n0 n1 n2 ms, good z ((atD P (j : Int)).take z.length) := fun z hz => by
        have g := good_take z.length gA
        rw [pre z hz] at g
        exact g
      have e1 : ((List.range (j + 1)).map (dueV what wd n0 c0 n1 c1 n2 c2 P)).map V.int = ((List.range j).map (dueV what wd n0 c0 n1 c1 n2 c2 P)).map V.int ++ [V.int (dueV what wd n0 c0 n1 c1 n2 c2 P j)] := by
        rw [List.range_succ, List.map_append, List.map_append]; rfl
      have ln : (((List.range j).map (dueV what wd n0 c0 n1 c1 n2 c2 P)).map V.int).length < sizeLine := by rw [List.length_map, List.length_map, List.length_range]; exact small1000 (by omega)
      wp_walk using tSeq, tIfS, splawcelldue, e1
      exact ⟨ln, w0, w3, nbw, n0, c0, n1, c1, n2, c2, tb6.up (SmT.of sG'), P, j, sG' _ _ hxa, o0, o1, o2, gd n0 (mem_n0 w0 w3), fun h => gd n1 (mem_n1 h), fun h => gd n2 (mem_n2 h), fun G2 s2' => ⟨sG'.trans s2', rfl, _, rfl⟩⟩
    · obtain ⟨sG', rfl, y, rfl⟩ := h
      rw [List.length_map, ql]
      exact hR _ _ ⟨s6.trans (sG.trans (sG'.trans (same_new hd _))), d, upd_same, rfl⟩
  rintro σ7 G7 ⟨s7, d, hd, rfl⟩
  wp_walk using tSeq, tIfS, splawsame
  rcases tr with ⟨b, _⟩ | ⟨_, nf, _⟩ | ⟨_, _, rfl, tf⟩
  · exact absurd b nbw
  · exact absurd ft nf
  rw [eP] at tf
  refine ⟨_, s7 _ _ (s2 _ _ hp), _, atI_nat (j := 0) rfl, rfl, ?_⟩
  rw [if_pos rfl]
  exact ⟨_, s7 _ _ (s2 _ _ hp), _, atI_nat (j := 1) rfl, _, rfl, P, _, tf.same (s2.trans s7), .inr (s7 _ _ hm), .inl hd, Nat.le_trans (big_l bP) (by decide), by unfold dueL; rw [List.length_map, List.length_range]; omega, fin _ (s2.trans s7)⟩
end
abbrev slawsides : Stmt := top 34
def splawsides : PySem.W.Frag → Sp := fun K => fun vs H Q _ => ∃ (a : Addr) (ns : List Int) (k : Nat), vs = [.ref a, .int k] ∧ SqL K H a (ns.map V.int) ∧ ∀ H' p ms, Same H H' → fit ms → H' p = some (.tup (ms.map V.int)) → Q (.ref p) H'
section
variable {P : Program} {w : World} {K : PySem.W.Frag} {mg : Str → Option Value} {base : Heap} {f : Addr} {fd : FuncData} {TL : Addr}
theorem sclawsides : FnScope ["script", "at", "sides", "free", "k", "cell", "length"] ["script", "at"] (defScope slawsides) := ⟨rfl, rfl, rfl, by decide +kernel, rfl, by decide +kernel, by decide +kernel⟩
theorem oklawsides (F : Fun K "_law_sides" "_law_sides" slawsides f fd) (clawcellat : Callee P w K mg base CX0 (1) "_law_cell_at" ["script", "k"] (splawcellat K)) (zrange : mg "range" = none) (zmin : mg "min" = none) (zmax : mg "max" = none) : FnOk P w K mg base CX0 (2) f fd ["script", "at"] ((splawsides K)) := by
  have sc := sclawsides
  refine F.ok sc (fun vs H Q E h => ?_) (fun cdv A outer s H vs Q E hr h => ?_)
  · obtain ⟨a, ns, k, rfl, _⟩ := h; rfl
  obtain ⟨a, ns, k, rfl, hS, q⟩ := h
  refine ⟨_, (pss_cons (ps_set (i := 2) sc.nd rfl (by first | exact Or.inl rfl | exact Or.inr rfl) (pe_tup pa_nil)) (pss_cons (ps_set (i := 3) sc.nd rfl (by first | exact Or.inl rfl | exact Or.inr rfl) pe_int) (pss_cons (ps_for PassesOwn.never rfl (pi_range1 (by rfl) zrange (pa_cons (pe_op op_mod (pe_cal clawcellat hr (by rfl) pass0 (pa_cons (pv 0) (pa_cons (pv 1) pa_nil))) pe_int) pa_nil)) (pg_name (i := 4) sc.nd rfl (Or.inl rfl)) (pss_cons (ps_set (i := 5) sc.nd rfl (by first | exact Or.inl rfl | exact Or.inr rfl) (pe_cal clawcellat hr (by rfl) pass0 (pa_cons (pv 0) (pa_cons (pe_op op_add (pe_op op_add (pv 1) pe_int) (pv 4)) pa_nil)))) (pss_cons (ps_set (i := 6) sc.nd rfl (by first | exact Or.inl rfl | exact Or.inr rfl) (pe_op op_add pe_int (pe_op op_mod (pv 5) (pe_callB (call_min2 rfl) (by rfl) zmin boot_min (pa_cons pe_int (pa_cons (pv 3) pa_nil)))))) (pss_cons (ps_if (pt_cmpR op_eq (pe_op op_mod (pv 5) pe_int) pe_int (nomark _)) (pss_one (ps_set (i := 6) sc.nd rfl (by first | exact Or.inl rfl | exact Or.inr rfl) (pe_op op_add pe_int (pe_op op_mod (pe_op op_fdiv (pv 5) pe_int) (pv 3))))) pss_nil) (pss_cons (ps_if (pt_cmpR op_eq (pe_op op_mod (pv 5) pe_int) pe_int (nomark _)) (pss_one (ps_set (i := 6) sc.nd rfl (by first | exact Or.inl rfl | exact Or.inr rfl) pe_int)) pss_nil) (pss_cons (ps_set (i := 2) sc.nd rfl (by first | exact Or.inl rfl | exact Or.inr rfl) (pe_op op_catS (pv 2) (pe_tup (pa_cons (pv 6) pa_nil)))) (pss_one (ps_set (i := 3) sc.nd rfl (by first | exact Or.inl rfl | exact Or.inr rfl) (pe_op op_fdiv (pv 3) (pe_callB (call_max2 rfl) (by rfl) zmax boot_max (pa_cons pe_int (pa_cons (pv 6) pa_nil)))))))))))) (pss_one (ps_ret (pv 2)))))), ?_⟩
  wp_walk using tSeq, tIfS, splawcellat
  refine ⟨small (by decide), fun p hp => ⟨ns, k, rfl, (same_new hp _).seq hS, by omega, by omega, ?_⟩⟩
  have s0 := same_new hp (.tup [])
  have g0 : upd H p (.tup []) p = some (.tup (([] : List Int).map V.int)) := upd_same
  generalize upd H p (.tup []) = H0 at *
  have n7 : (cellI ns k % 7).toNat ≤ 6 := by omega
  refine LoopR.mk (fun i σ H' => Same H H' ∧ ∃ (p' : Addr) (ms : List Int) (free : Int) (y4 y5 y6 : Option V), σ = [some (.ref a), some (.int k), some (.ref p'), some (.int free), y4, y5, y6] ∧ grow ms free i ∧ H' p' = some (.tup (ms.map V.int)) ∧ i ≤ 6) ⟨s0, p, [], 512, _, _, _, rfl, ⟨(fun n hn => nomatch hn), rfl, by decide, by decide, by decide, by decide⟩, g0, by omega⟩ (fun i σ H' hi h => ?_) (fun σ H' h => ?_)
  · obtain ⟨h1, p', ms, free, y4, y5, y6, rfl, hg, hp', i6⟩ := h
    have f0 := hg.2.2.1
    have f1 := hg.2.2.2.1
    have e1 : (k : Int) + 1 + (0 + (i : Int)) = ((k + 1 + i : Nat) : Int) := by omega
    wp_walk using tSeq, tIfS, splawcellat, e1
    have tail : ∀ m : Int, 0 ≤ m → m ≤ free → (1 ≤ sizeLine ∧ ∀ p, H' p = none → ∃ x, upd H' p (HO.tup [V.int m]) p' = some (HO.tup x) ∧ x.length + 1 ≤ sizeLine ∧ ∀ r H1, Same (upd H' p (HO.tup [V.int m])) H1 → H1 r = some (HO.tup (x ++ [V.int m])) → (0 < if m > 1 then m else 1) ∧ (if m > 1 then m else 1) < 1073741824 ∧ Same H H1 ∧ ∃ x, grow x (free / if m > 1 then m else 1) (i + 1) ∧ H1 r = some (HO.tup (List.map V.int x)) ∧ i + 1 ≤ 6) := by
      intro m m0 m1
      refine ⟨small (by decide), fun p2 hp2 => ⟨_, same_new hp2 _ _ _ hp', by rw [len_map, hg.2.1]; exact small (by omega), fun r H2 s2 hr => ?_⟩⟩
      rw [mx_one m0]
      have o1 : 1 ≤ one1 m ∧ one1 m ≤ 512 := by unfold one1; split <;> omega
      exact ⟨by omega, by omega, h1.trans ((same_new hp2 _).trans s2), ms ++ [m], grow_step hg m0 m1, by rw [hr, List.map_append]; rfl, by omega⟩
    have c4 : 0 < (if free < 4 then free else 4) ∧ (if free < 4 then free else 4) ≤ free := by split <;> omega
    refine ⟨ns, k + 1 + i, rfl, h1.seq hS, c4.1, ?_⟩
    generalize cellI ns (k + 1 + i) = c at *
    generalize (if free < 4 then free else 4) = f4 at *
    have d0 := Int.emod_nonneg c (show f4 ≠ 0 by omega)
    have d1 := Int.emod_lt_of_pos c c4.1
    have d2 := Int.emod_nonneg (c / 7) (show free ≠ 0 by omega)
    have d3 := Int.emod_lt_of_pos (c / 7) (show 0 < free by omega)
    split
    · refine ⟨by omega, ?_⟩
      split
      · exact tail 0 (by omega) (by omega)
      · exact tail _ (by omega) (by omega)
    · split
      · exact tail 0 (by omega) (by omega)
      · exact tail _ (by omega) (by omega)
  · obtain ⟨h1, p', ms, free, y4, y5, y6, rfl, hg, hp', i6⟩ := h
    wp_walk using tSeq, tIfS
    exact q _ _ ms h1 (grow_fit hg n7) hp'
end
abbrev slaw : Stmt := top 52
@[irreducible] def wplaw : List (Str × Pos) := [("neg", ⟨276, 13, 276, 18⟩), ("abs", ⟨276, 20, 276, 25⟩), ("sign", ⟨276, 27, 276, 33⟩), ("not", ⟨276, 35, 276, 40⟩), ("add", ⟨276, 42, 276, 47⟩), ("sub", ⟨276, 49, 276, 54⟩), ("mul", ⟨276, 56, 276, 61⟩), ("quo", ⟨276, 63, 276, 68⟩), ("rest", ⟨276, 70, 276, 76⟩), ("max", ⟨276, 78, 276, 83⟩), ("min", ⟨276, 85, 276, 90⟩), ("less", ⟨276, 92, 276, 98⟩), ("like", ⟨276, 100, 276, 106⟩), ("and", ⟨276, 108, 276, 113⟩)]
theorem bwlaw : defBody slaw = [(defBody slaw).getD 0 (.Pass ⟨0, 0, 0, 0⟩), (defBody slaw).getD 1 (.Pass ⟨0, 0, 0, 0⟩), .Assign [.Name "words" ⟨276, 4, 276, 9⟩] (.List (strsC wplaw) ⟨276, 12, 276, 114⟩) ⟨276, 4, 276, 114⟩, (defBody slaw).getD 3 (.Pass ⟨0, 0, 0, 0⟩), (defBody slaw).getD 4 (.Pass ⟨0, 0, 0, 0⟩), (defBody slaw).getD 5 (.Pass ⟨0, 0, 0, 0⟩)] := by kernel_rfl
theorem wvlaw : (wplaw.map (·.1)).map V.str = [V.str "neg", V.str "abs", V.str "sign", V.str "not", V.str "add", V.str "sub", V.str "mul", V.str "quo", V.str "rest", V.str "max", V.str "min", V.str "less", V.str "like", V.str "and"] := by unfold wplaw; rfl
section
variable {P : Program} {w : World} {K : PySem.W.Frag} {mg : Str → Option Value} {base : Heap} {f : Addr} {fd : FuncData} {TL : Addr}
theorem sclaw : FnScope ["script", "sides", "some", "words", "what", "word"] ["script"] (defScope slaw) := ⟨rfl, rfl, rfl, by decide +kernel, rfl, by decide +kernel, by decide +kernel⟩
theorem oklaw (F : Fun K "law" "law" slaw f fd) (clawsides : Callee P w K mg base CX0 (11) "_law_sides" ["script", "at"] (splawsides K)) (clawbegun : Callee P w K mg base CX0 (11) "_law_begun" ["script", "k", "sides"] (splawbegun K)) (clawcellat : Callee P w K mg base CX0 (11) "_law_cell_at" ["script", "k"] (splawcellat K)) (clawasked : Callee P w K mg base CX0 (11) "_law_asked" ["what", "word", "some", "sides"] (splaskT TL)) (zrange : mg "range" = none) (zint : mg "int" = none) : FnOk P w K mg base CX0 (12) f fd ["script"] ((splawT K [TL])) := by
  have sc := sclaw
  refine F.ok sc (fun vs H Q E h => ?_) (fun cdv A outer s H vs Q E hr h => ?_)
  · obtain ⟨a, ns, rfl, _⟩ := h; rfl
  obtain ⟨a, rs, rfl, hS, h63, hT, q⟩ := h
  rw [bwlaw]
  refine ⟨_, (pss_cons (ps_set (i := 1) sc.nd rfl (by first | exact Or.inl rfl | exact Or.inr rfl) (pe_cal clawsides hr (by rfl) pass0 (pa_cons (pv 0) (pa_cons pe_int pa_nil)))) (pss_cons (ps_setC (own := ["k"]) (fv := ["script", "sides"]) (js := [0, 1]) sc.nd (i := 2) rfl (by first | exact Or.inl rfl | exact Or.inr rfl) (by first | exact Or.inl rfl | exact Or.inr rfl) rfl (pi_range1 (by rfl) zrange (pa_cons pe_int pa_nil)) rfl (by decide) rfl (by decide) (by first | exact fun _ _ h => h | exact cl_sub1 rfl | exact cl_sub2 rfl rfl | exact cl_sub3 rfl rfl rfl) (has_of (by rfl)) rfl (cap2 (by first | exact ⟨rfl, .inl rfl, .inl rfl⟩ | exact ⟨rfl, .inl rfl, .inr rfl⟩) (by first | exact ⟨rfl, .inl rfl, .inl rfl⟩ | exact ⟨rfl, .inl rfl, .inr rfl⟩)) (fun _ _ _ _ => (pg_name (i := 0) (show (["k", "script", "sides"] : List Str).Nodup by decide +kernel) rfl (Or.inl rfl))) (fun _ _ _ _ => (pe_cal clawbegun hr (by rfl) pass0 (pa_cons (pv 1) (pa_cons (pv 0) (pa_cons (pv 2) pa_nil)))))) (pss_cons (ps_set (i := 3) sc.nd rfl (by first | exact Or.inl rfl | exact Or.inr rfl) (pe_lst (pa_strs wplaw))) (pss_cons (ps_set (i := 3) sc.nd rfl (by first | exact Or.inl rfl | exact Or.inr rfl) (pe_op op_catL (pv 3) (pe_lst (pa_str (pa_str (pa_str (pa_str (pa_str (pa_str (pa_str pa_nil)))))))))) (pss_cons (ps_for PassesOwn.never rfl (pi_range1 (by rfl) zrange (pa_cons pe_int pa_nil)) (pg_name (i := 4) sc.nd rfl (Or.inl rfl)) (pss_cons (ps_set (i := 5) sc.nd rfl (by first | exact Or.inl rfl | exact Or.inr rfl) (pe_ix ix_listH (pv 3) (pe_op op_mod (pe_cal clawcellat hr (by rfl) pass0 (pa_cons (pv 0) (pa_cons (pe_op op_add pe_int (pv 4)) pa_nil))) pe_int) (fun _ _ => rfl))) (pss_cons (ps_if (pt_cmpR op_gt (pe_op op_mod (pe_cal clawcellat hr (by rfl) pass0 (pa_cons (pv 0) (pa_cons (pe_op op_add pe_int (pv 4)) pa_nil))) pe_int) pe_int (nomark _)) (pss_one (ps_set (i := 5) sc.nd rfl (by first | exact Or.inl rfl | exact Or.inr rfl) (pe_ix ix_listH (pv 3) (pe_op op_add (pe_ix ix_list (pe_lst (pa_cons pe_int (pa_cons pe_int pa_nil))) (pe_callTy call_int1 (by rfl) zint boot_int (pa_cons (pe_cmpR op_gt (pv 4) pe_int (nomark _)) pa_nil)) (fun _ _ => rfl)) (pe_op op_modN (pe_op op_fdiv (pe_cal clawcellat hr (by rfl) pass0 (pa_cons (pv 0) (pa_cons (pe_op op_add pe_int (pv 4)) pa_nil))) pe_int) (pe_ix ix_list (pe_lst (pa_cons pe_int (pa_cons pe_int pa_nil))) (pe_callTy call_int1 (by rfl) zint boot_int (pa_cons (pe_cmpR op_gt (pv 4) pe_int (nomark _)) pa_nil)) (fun _ _ => rfl)))) (fun _ _ => rfl)))) pss_nil) (pss_one (ps_if (pt_not (pt_val (pe_cal clawasked hr (by rfl) pass0 (pa_cons (pv 4) (pa_cons (pv 5) (pa_cons (pv 2) (pa_cons (pv 1) pa_nil))))))) (pss_one (ps_ret pe_bl)) pss_nil))))) (pss_one (ps_ret pe_bl))))))), ?_⟩
  simp only [L2.start, List.length_cons, List.length_nil, List.replicate, List.cons_append, List.nil_append, Nat.reduceSub, Nat.reduceAdd, List.map_cons, List.map_nil]
  have tt : TabOk H TL ⟨110, 46, 110, 80⟩ "lead.<locals>.<lambda>" := ⟨#[], hT _ (by simp), trivial, .inl rfl⟩
  refine seq_with (fun σ G => ∃ p ms, Same H G ∧ fit ms ∧ G p = some (.tup (ms.map V.int)) ∧ σ = [some (.ref a), some (.ref p), none, none, none, none]) ?_ (fun R hR => ?_)
  rotate_left
  · wp_walk using tSeq, tIfS, splawsides
    exact ⟨rs, 0, rfl, hS, fun G p ms s f hp => hR _ _ ⟨p, ms, s, f, hp, rfl⟩⟩
  rintro σ1 G1 ⟨p, ms, s1, hf, hp, rfl⟩
  refine seq_with (fun σ G => Same G1 G ∧ ∃ l n0 c0 n1 c1 n2 c2, Tabs3 G l n0 c0 n1 c1 n2 c2 ∧ OkT n0 c0 ∧ OkT n1 c1 ∧ OkT n2 c2 ∧ σ = [some (.ref a), some (.ref p), some (.ref l), none, none, none]) ?_ (fun R hR => ?_)
  rotate_left
  · wp_walk using tSeq, tIfS
    have hS1 := s1.seq hS
    refine CompR.mk (fun j ys σ G => Same G1 G ∧ ys.length = j ∧ TbL G ys ∧ ∃ y, σ = [y, some (.ref a), some (.ref p)]) ⟨Same.refl _, rfl, (fun y hy => by cases hy), _, rfl⟩ (fun j ys σ G hj h => ?_) (fun ys σ G h l hl => ?_)
    · obtain ⟨sG, lj, hT, y, rfl⟩ := h
      wp_walk using tSeq, tIfS, splawbegun, Int.zero_add
      exact ⟨small1000 (by omega), p, rs, ms, j, rfl, rfl, sG.seq hS1, h63, by omega, sG _ _ hp, hf, fun G' p' ns cs s' t' o' => ⟨sG.trans s', by rw [List.length_append, lj]; rfl, (hT.up s').snoc t' o', _, rfl⟩⟩
    · obtain ⟨sG, l3, hT, y, rfl⟩ := h
      obtain ⟨n0, c0, n1, c1, n2, c2, t3, o0, o1, o2⟩ := (hT.up (same_new hl (.lst ys))).three l3 upd_same
      exact hR _ _ ⟨sG.trans (same_new hl _), l, n0, c0, n1, c1, n2, c2, t3, o0, o1, o2, rfl⟩
  rintro σ2 G2 ⟨s2, l, n0, c0, n1, c1, n2, c2, tb, o0, o1, o2, rfl⟩
  refine seq_with (fun σ G => Same G2 G ∧ ∃ w, G w = some (.lst ((W21.take 14).map V.str)) ∧ σ = [some (.ref a), some (.ref p), some (.ref l), some (.ref w), none, none]) ?_ (fun R hR => ?_)
  rotate_left
  · wp_walk using tSeq, tIfS, tStrs
    rw [wvlaw]
    exact ⟨small (by decide), fun p1 hp1 => hR _ _ ⟨same_new hp1 _, p1, upd_same, rfl⟩⟩
  rintro σ3 G3 ⟨s3, w3, hw3, rfl⟩
  refine seq_with (fun σ G => Same G3 G ∧ ∃ w, G w = some (.lst (W21.map V.str)) ∧ σ = [some (.ref a), some (.ref p), some (.ref l), some (.ref w), none, none]) ?_ (fun R hR => ?_)
  rotate_left
  · wp_walk using tSeq, tIfS, tStrs
    exact ⟨small (by decide), fun p1 hp1 => ⟨_, .of (same_new hp1 _ _ _ hw3), _, .of upd_same, small (by decide), fun p2 hp2 => hR _ _ ⟨(same_new hp1 _).trans (same_new hp2 _), p2, by rw [upd_same]; rfl, rfl⟩⟩⟩
  rintro σ4 G4 ⟨s4, w, hw, rfl⟩
  have s24 := s3.trans s4
  have s04 := s1.trans (s2.trans s24)
  refine seq_with (fun σ G => True) (fun σ G _ => ?_) (fun R hR => ?_)
  · wp_walk using tSeq, tIfS
    exact q _
  wp_walk using tSeq, tIfS
  refine LoopR.mk (fun i σ G => SmT G4 G ∧ TabOk G TL ⟨110, 46, 110, 80⟩ "lead.<locals>.<lambda>" ∧ ∃ y4 y5, σ = [some (.ref a), some (.ref p), some (.ref l), some (.ref w), y4, y5]) ⟨SmT.refl _, tt.same s04, _, _, rfl⟩ (fun i σ G hi h => ?_) (fun σ G h => hR _ _ trivial)
  obtain ⟨sG, tG, y4, y5, rfl⟩ := h
  dsimp only [gName, List.set_cons_succ, List.set_cons_zero]
  rw [show (0 : Int) + (i : Int) = (i : Int) from Int.zero_add _]
  have hSG := sG.seq (s04.seq hS)
  have hwG := sG.lst hw
  refine seq_with (fun σ G' => G' = G ∧ ∃ v, v ∈ W21 ∧ σ = [some (.ref a), some (.ref p), some (.ref l), some (.ref w), some (.int i), some (.str v)]) ?_ (fun R hR => ?_)
  rotate_left
  · wp_walk using tSeq, tIfS, splawcellat
    obtain ⟨v, hv, mv⟩ := w21_at (n := cellI rs (14 + i) % 21) (by omega) (by omega)
    exact ⟨rs, 14 + i, by omega, hSG, _, hwG, _, hv, hR _ _ ⟨rfl, v, mv, rfl⟩⟩
  rintro σ5 G5 ⟨rfl, v, hv, rfl⟩
  refine seq_with (fun σ G' => Same G5 G' ∧ ∃ v, v ∈ W21 ∧ σ = [some (.ref a), some (.ref p), some (.ref l), some (.ref w), some (.int i), some (.str v)]) ?_ (fun R hR => ?_)
  rotate_left
  · wp_walk using tSeq, tIfS, splawcellat
    refine ⟨rs, 14 + i, by omega, hSG, ?_⟩
    split
    rotate_left
    · exact hR _ _ ⟨Same.refl _, v, hv, rfl⟩
    refine ⟨small (by decide), fun p1 hp1 => .inr ⟨_, .of upd_same, _, two_at, rs, 14 + i, by omega, (same_new hp1 _).seq hSG, small (by decide), fun p2 hp2 => .inr ⟨_, .of upd_same, _, two_at, _, rfl, by split <;> decide, _, rfl, _, same_new hp2 _ _ _ (same_new hp1 _ _ _ hwG), ?_⟩⟩⟩
    have hb : 0 ≤ (if (0 : Int) < (i : Int) then (4 : Int) else 0) + (cellI rs (14 + i) / 4).fmod (if (0 : Int) < (i : Int) then 12 else 4) ∧ (if (0 : Int) < (i : Int) then (4 : Int) else 0) + (cellI rs (14 + i) / 4).fmod (if (0 : Int) < (i : Int) then 12 else 4) < 21 := by
      by_cases c : (0 : Int) < (i : Int)
      · rw [if_pos c, if_pos c, Int.fmod_eq_emod_of_nonneg _ (by decide)]; omega
      · rw [if_neg c, if_neg c, Int.fmod_eq_emod_of_nonneg _ (by decide)]; omega
    obtain ⟨v8, e8, m8⟩ := w21_at hb.1 hb.2
    exact ⟨_, e8, hR _ _ ⟨(same_new hp1 _).trans (same_new hp2 _), v8, m8, rfl⟩⟩
  rintro σ6 G6 ⟨s6, v6, hv6, rfl⟩
  wp_walk using tSeq, tIfS, splaskT
  exact ⟨by omega, by omega, w21_ok v6 hv6, n0, c0, n1, c1, n2, c2, tb.up ((SmT.of s24).trans (sG.trans (SmT.of s6))), ms, s6 _ _ (sG.tup ((s2.trans s24) _ _ hp)), o0, o1, o2, sdOk_fit hf, big_fit hf, tG.same s6, fun G' s' tk => ⟨(sG.trans (SmT.of s6)).trans s', tk, _, rfl⟩⟩
end
theorem us_len1 {α : Type} {us : List α} (h : us.length = 1) : ∃ x0, us = [x0] := by
  match us, h with
  | [x0], _ => exact ⟨_, rfl⟩
theorem us_len2 {α : Type} {us : List α} (h : us.length = 2) : ∃ x0 x1, us = [x0, x1] := by
  match us, h with
  | [x0, x1], _ => exact ⟨_, _, rfl⟩
theorem us_len3 {α : Type} {us : List α} (h : us.length = 3) : ∃ x0 x1 x2, us = [x0, x1, x2] := by
  match us, h with
  | [x0, x1, x2], _ => exact ⟨_, _, _, rfl⟩
theorem us_len4 {α : Type} {us : List α} (h : us.length = 4) : ∃ x0 x1 x2 x3, us = [x0, x1, x2, x3] := by
  match us, h with
  | [x0, x1, x2, x3], _ => exact ⟨_, _, _, _, rfl⟩
theorem all_mk {l : PySem.W.OpenLaw} {w : World} {K : PySem.W.Frag} {h : Heap} {mg : Str → Option Value} {TL : Addr} {fa f0 f1 f2 f3 f4 f5 f6 f7 f8 f9 f10 f11 f12 f13 f14 f15 f16 f17 f18 f19 f20 f21 f22 f23 f24 f25 f26 f27 f28 f29 f30 f31 f32 f33 f34 f35 f36 f37 f38 f39 f40 : Addr} (X : K.In h) (G : h.Ns mainGlobals mg) (hfa : mg "law" = some (.ref fa))
    {od0 an0 od1 an1 od2 an2 od3 an3 od4 an4 od5 an5 od6 an6 od7 an7 od8 an8 od9 an9 od10 an10 od11 an11 od12 an12 od13 an13 od14 an14 od15 an15 od16 an16 od17 an17 od18 an18 od19 an19 od20 an20 od21 an21 od22 an22 od23 an23 od24 an24 od25 an25 od26 an26 od27 an27 od28 an28 od29 an29 od30 an30 od31 an31 od32 an32 od33 an33 od34 an34 od35 an35 od36 an36 od37 an37 od38 an38 od39 an39 od40 an40 : Option Addr} {sl0 sl1 sl2 sl3 sl4 sl5 sl6 sl7 sl8 sl9 sl10 sl11 sl12 sl13 sl14 sl15 sl16 sl17 sl18 sl19 sl20 sl21 sl22 sl23 sl24 sl25 sl26 sl27 sl28 sl29 sl30 sl31 sl32 sl33 sl34 sl35 sl36 sl37 sl38 sl39 sl40 : Array (Option Value)} {oc0 kV0 dc0 pm0 ct0 cd0 oc1 kV1 dc1 pm1 ct1 cd1 oc2 kV2 dc2 pm2 ct2 cd2 oc3 kV3 dc3 pm3 ct3 cd3 oc4 kV4 dc4 pm4 ct4 cd4 oc5 kV5 dc5 pm5 ct5 cd5 oc6 kV6 dc6 pm6 ct6 cd6 oc7 kV7 dc7 pm7 ct7 cd7 oc8 kV8 dc8 pm8 ct8 cd8 oc9 kV9 dc9 pm9 ct9 cd9 oc10 kV10 dc10 pm10 ct10 cd10 oc11 kV11 dc11 pm11 ct11 cd11 oc12 kV12 dc12 pm12 ct12 cd12 oc13 kV13 dc13 pm13 ct13 cd13 oc14 kV14 dc14 pm14 ct14 cd14 oc15 kV15 dc15 pm15 ct15 cd15 oc16 kV16 dc16 pm16 ct16 oc17 kV17 dc17 pm17 ct17 cd17 oc18 kV18 dc18 pm18 ct18 cd18 oc19 kV19 dc19 pm19 ct19 cd19 oc20 kV20 dc20 pm20 ct20 cd20 oc21 kV21 dc21 pm21 ct21 cd21 oc22 kV22 dc22 pm22 ct22 cd22 oc23 kV23 dc23 pm23 ct23 cd23 oc24 kV24 dc24 pm24 ct24 cd24 oc25 kV25 dc25 pm25 ct25 cd25 oc26 kV26 dc26 pm26 ct26 cd26 oc27 kV27 dc27 pm27 ct27 cd27 oc28 kV28 dc28 pm28 ct28 cd28 oc29 kV29 dc29 pm29 ct29 cd29 oc30 kV30 dc30 pm30 ct30 cd30 oc31 kV31 dc31 pm31 ct31 cd31 oc32 kV32 dc32 pm32 ct32 cd32 oc33 kV33 dc33 pm33 ct33 cd33 oc34 kV34 dc34 pm34 ct34 cd34 oc35 kV35 dc35 pm35 ct35 cd35 oc36 kV36 dc36 pm36 ct36 cd36 oc37 kV37 dc37 pm37 ct37 cd37 oc38 kV38 dc38 pm38 ct38 cd38 oc39 kV39 dc39 pm39 ct39 cd39 oc40 kV40 dc40 pm40 ct40 cd40 : Value}
    (a0 : PySem.W.nsIn K mainGlobals "amount" = some (some (.ref f0))) (l0 : K.lookup f0 = some ⟨oc0, od0, .func (PySem.W.fnOf "amount" "amount" (defArgs samount) (defBody samount) (defScope samount) .none kV0 dc0 pm0 an0 cd0 ct0), sl0⟩) (q0 : PySem.W.codeIn K cd0 "amount" = true) (k0 : PySem.W.keepIn K (.ref f0) = true)
    (a1 : PySem.W.nsIn K mainGlobals "strides_of" = some (some (.ref f1))) (l1 : K.lookup f1 = some ⟨oc1, od1, .func (PySem.W.fnOf "strides_of" "strides_of" (defArgs sstridesof) (defBody sstridesof) (defScope sstridesof) .none kV1 dc1 pm1 an1 cd1 ct1), sl1⟩) (q1 : PySem.W.codeIn K cd1 "strides_of" = true) (k1 : PySem.W.keepIn K (.ref f1) = true)
    (a2 : PySem.W.nsIn K mainGlobals "place_of" = some (some (.ref f2))) (l2 : K.lookup f2 = some ⟨oc2, od2, .func (PySem.W.fnOf "place_of" "place_of" (defArgs splaceof) (defBody splaceof) (defScope splaceof) .none kV2 dc2 pm2 an2 cd2 ct2), sl2⟩) (q2 : PySem.W.codeIn K cd2 "place_of" = true) (k2 : PySem.W.keepIn K (.ref f2) = true)
    (a3 : PySem.W.nsIn K mainGlobals "at_of" = some (some (.ref f3))) (l3 : K.lookup f3 = some ⟨oc3, od3, .func (PySem.W.fnOf "at_of" "at_of" (defArgs satof) (defBody satof) (defScope satof) .none kV3 dc3 pm3 an3 cd3 ct3), sl3⟩) (q3 : PySem.W.codeIn K cd3 "at_of" = true) (k3 : PySem.W.keepIn K (.ref f3) = true)
    (a4 : PySem.W.nsIn K mainGlobals "all_at" = some (some (.ref f4))) (l4 : K.lookup f4 = some ⟨oc4, od4, .func (PySem.W.fnOf "all_at" "all_at" (defArgs sallat) (defBody sallat) (defScope sallat) .none kV4 dc4 pm4 an4 cd4 ct4), sl4⟩) (q4 : PySem.W.codeIn K cd4 "all_at" = true) (k4 : PySem.W.keepIn K (.ref f4) = true)
    (a5 : PySem.W.nsIn K mainGlobals "wrapped" = some (some (.ref f5))) (l5 : K.lookup f5 = some ⟨oc5, od5, .func (PySem.W.fnOf "wrapped" "wrapped" (defArgs swrapped) (defBody swrapped) (defScope swrapped) .none kV5 dc5 pm5 an5 cd5 ct5), sl5⟩) (q5 : PySem.W.codeIn K cd5 "wrapped" = true) (k5 : PySem.W.keepIn K (.ref f5) = true)
    (a6 : PySem.W.nsIn K mainGlobals "sign_of" = some (some (.ref f6))) (l6 : K.lookup f6 = some ⟨oc6, od6, .func (PySem.W.fnOf "sign_of" "sign_of" (defArgs ssignof) (defBody ssignof) (defScope ssignof) .none kV6 dc6 pm6 an6 cd6 ct6), sl6⟩) (q6 : PySem.W.codeIn K cd6 "sign_of" = true) (k6 : PySem.W.keepIn K (.ref f6) = true)
    (a7 : PySem.W.nsIn K mainGlobals "quotient" = some (some (.ref f7))) (l7 : K.lookup f7 = some ⟨oc7, od7, .func (PySem.W.fnOf "quotient" "quotient" (defArgs squotient) (defBody squotient) (defScope squotient) .none kV7 dc7 pm7 an7 cd7 ct7), sl7⟩) (q7 : PySem.W.codeIn K cd7 "quotient" = true) (k7 : PySem.W.keepIn K (.ref f7) = true)
    (a8 : PySem.W.nsIn K mainGlobals "remainder" = some (some (.ref f8))) (l8 : K.lookup f8 = some ⟨oc8, od8, .func (PySem.W.fnOf "remainder" "remainder" (defArgs sremainder) (defBody sremainder) (defScope sremainder) .none kV8 dc8 pm8 an8 cd8 ct8), sl8⟩) (q8 : PySem.W.codeIn K cd8 "remainder" = true) (k8 : PySem.W.keepIn K (.ref f8) = true)
    (a9 : PySem.W.nsIn K mainGlobals "once" = some (some (.ref f9))) (l9 : K.lookup f9 = some ⟨oc9, od9, .func (PySem.W.fnOf "once" "once" (defArgs sonce) (defBody sonce) (defScope sonce) .none kV9 dc9 pm9 an9 cd9 ct9), sl9⟩) (q9 : PySem.W.codeIn K cd9 "once" = true) (k9 : PySem.W.keepIn K (.ref f9) = true)
    (a10 : PySem.W.nsIn K mainGlobals "twice" = some (some (.ref f10))) (l10 : K.lookup f10 = some ⟨oc10, od10, .func (PySem.W.fnOf "twice" "twice" (defArgs stwice) (defBody stwice) (defScope stwice) .none kV10 dc10 pm10 an10 cd10 ct10), sl10⟩) (q10 : PySem.W.codeIn K cd10 "twice" = true) (k10 : PySem.W.keepIn K (.ref f10) = true)
    (a11 : PySem.W.nsIn K mainGlobals "led_sides" = some (some (.ref f11))) (l11 : K.lookup f11 = some ⟨oc11, od11, .func (PySem.W.fnOf "led_sides" "led_sides" (defArgs sledsides) (defBody sledsides) (defScope sledsides) .none kV11 dc11 pm11 an11 cd11 ct11), sl11⟩) (q11 : PySem.W.codeIn K cd11 "led_sides" = true) (k11 : PySem.W.keepIn K (.ref f11) = true)
    (a12 : PySem.W.nsIn K mainGlobals "paired_sides" = some (some (.ref f12))) (l12 : K.lookup f12 = some ⟨oc12, od12, .func (PySem.W.fnOf "paired_sides" "paired_sides" (defArgs spairedsides) (defBody spairedsides) (defScope spairedsides) .none kV12 dc12 pm12 an12 cd12 ct12), sl12⟩) (q12 : PySem.W.codeIn K cd12 "paired_sides" = true) (k12 : PySem.W.keepIn K (.ref f12) = true)
    (a13 : PySem.W.nsIn K mainGlobals "picked_sides" = some (some (.ref f13))) (l13 : K.lookup f13 = some ⟨oc13, od13, .func (PySem.W.fnOf "picked_sides" "picked_sides" (defArgs spickedsides) (defBody spickedsides) (defScope spickedsides) .none kV13 dc13 pm13 an13 cd13 ct13), sl13⟩) (q13 : PySem.W.codeIn K cd13 "picked_sides" = true) (k13 : PySem.W.keepIn K (.ref f13) = true)
    (a14 : PySem.W.nsIn K mainGlobals "table_by" = some (some (.ref f14))) (l14 : K.lookup f14 = some ⟨oc14, od14, .func (PySem.W.fnOf "table_by" "table_by" (defArgs stableby) (defBody stableby) (defScope stableby) .none kV14 dc14 pm14 an14 cd14 ct14), sl14⟩) (q14 : PySem.W.codeIn K cd14 "table_by" = true) (k14 : PySem.W.keepIn K (.ref f14) = true)
    (a15 : PySem.W.nsIn K mainGlobals "cell_at" = some (some (.ref f15))) (l15 : K.lookup f15 = some ⟨oc15, od15, .func (PySem.W.fnOf "cell_at" "cell_at" (defArgs scellat) (defBody scellat) (defScope scellat) .none kV15 dc15 pm15 an15 cd15 ct15), sl15⟩) (q15 : PySem.W.codeIn K cd15 "cell_at" = true) (k15 : PySem.W.keepIn K (.ref f15) = true)
    {c16 : Addr}
    (a16 : PySem.W.nsIn K mainGlobals "lead" = some (some (.ref f16))) (l16 : K.lookup f16 = some ⟨oc16, od16, .func (PySem.W.fnOf "lead" "lead" (defArgs slead) (defBody slead) (defScope slead) .none kV16 dc16 pm16 an16 (.ref c16) ct16), sl16⟩) (q16 : PySem.W.codeIn K (.ref c16) "lead" = true) (k16 : PySem.W.keepIn K (.ref f16) = true)
    {oc2_16 : Value} {od2_16 : Option Addr} {vs_16 : Array Value} {sl2_16 : Array (Option Value)} (h4_16 : K.lookup c16 = some ⟨oc2_16, od2_16, .fields vs_16, sl2_16⟩) (h5_16 : vs_16[11]? = some (.ref TL))
    (a17 : PySem.W.nsIn K mainGlobals "each" = some (some (.ref f17))) (l17 : K.lookup f17 = some ⟨oc17, od17, .func (PySem.W.fnOf "each" "each" (defArgs seach) (defBody seach) (defScope seach) .none kV17 dc17 pm17 an17 cd17 ct17), sl17⟩) (q17 : PySem.W.codeIn K cd17 "each" = true) (k17 : PySem.W.keepIn K (.ref f17) = true)
    (a18 : PySem.W.nsIn K mainGlobals "pair" = some (some (.ref f18))) (l18 : K.lookup f18 = some ⟨oc18, od18, .func (PySem.W.fnOf "pair" "pair" (defArgs spair) (defBody spair) (defScope spair) .none kV18 dc18 pm18 an18 cd18 ct18), sl18⟩) (q18 : PySem.W.codeIn K cd18 "pair" = true) (k18 : PySem.W.keepIn K (.ref f18) = true)
    (a19 : PySem.W.nsIn K mainGlobals "pick" = some (some (.ref f19))) (l19 : K.lookup f19 = some ⟨oc19, od19, .func (PySem.W.fnOf "pick" "pick" (defArgs spick) (defBody spick) (defScope spick) .none kV19 dc19 pm19 an19 cd19 ct19), sl19⟩) (q19 : PySem.W.codeIn K cd19 "pick" = true) (k19 : PySem.W.keepIn K (.ref f19) = true)
    (a20 : PySem.W.nsIn K mainGlobals "_law_wrap" = some (some (.ref f20))) (l20 : K.lookup f20 = some ⟨oc20, od20, .func (PySem.W.fnOf "_law_wrap" "_law_wrap" (defArgs slawwrap) (defBody slawwrap) (defScope slawwrap) .none kV20 dc20 pm20 an20 cd20 ct20), sl20⟩) (q20 : PySem.W.codeIn K cd20 "_law_wrap" = true) (k20 : PySem.W.keepIn K (.ref f20) = true)
    (a21 : PySem.W.nsIn K mainGlobals "_law_once" = some (some (.ref f21))) (l21 : K.lookup f21 = some ⟨oc21, od21, .func (PySem.W.fnOf "_law_once" "_law_once" (defArgs slawonce) (defBody slawonce) (defScope slawonce) .none kV21 dc21 pm21 an21 cd21 ct21), sl21⟩) (q21 : PySem.W.codeIn K cd21 "_law_once" = true) (k21 : PySem.W.keepIn K (.ref f21) = true)
    (a22 : PySem.W.nsIn K mainGlobals "_law_twice" = some (some (.ref f22))) (l22 : K.lookup f22 = some ⟨oc22, od22, .func (PySem.W.fnOf "_law_twice" "_law_twice" (defArgs slawtwice) (defBody slawtwice) (defScope slawtwice) .none kV22 dc22 pm22 an22 cd22 ct22), sl22⟩) (q22 : PySem.W.codeIn K cd22 "_law_twice" = true) (k22 : PySem.W.keepIn K (.ref f22) = true)
    (a23 : PySem.W.nsIn K mainGlobals "_law_spot" = some (some (.ref f23))) (l23 : K.lookup f23 = some ⟨oc23, od23, .func (PySem.W.fnOf "_law_spot" "_law_spot" (defArgs slawspot) (defBody slawspot) (defScope slawspot) .none kV23 dc23 pm23 an23 cd23 ct23), sl23⟩) (q23 : PySem.W.codeIn K cd23 "_law_spot" = true) (k23 : PySem.W.keepIn K (.ref f23) = true)
    (a24 : PySem.W.nsIn K mainGlobals "_law_led" = some (some (.ref f24))) (l24 : K.lookup f24 = some ⟨oc24, od24, .func (PySem.W.fnOf "_law_led" "_law_led" (defArgs slawled) (defBody slawled) (defScope slawled) .none kV24 dc24 pm24 an24 cd24 ct24), sl24⟩) (q24 : PySem.W.codeIn K cd24 "_law_led" = true) (k24 : PySem.W.keepIn K (.ref f24) = true)
    (a25 : PySem.W.nsIn K mainGlobals "_law_fit" = some (some (.ref f25))) (l25 : K.lookup f25 = some ⟨oc25, od25, .func (PySem.W.fnOf "_law_fit" "_law_fit" (defArgs slawfit) (defBody slawfit) (defScope slawfit) .none kV25 dc25 pm25 an25 cd25 ct25), sl25⟩) (q25 : PySem.W.codeIn K cd25 "_law_fit" = true) (k25 : PySem.W.keepIn K (.ref f25) = true)
    (a26 : PySem.W.nsIn K mainGlobals "_law_told" = some (some (.ref f26))) (l26 : K.lookup f26 = some ⟨oc26, od26, .func (PySem.W.fnOf "_law_told" "_law_told" (defArgs slawtold) (defBody slawtold) (defScope slawtold) .none kV26 dc26 pm26 an26 cd26 ct26), sl26⟩) (q26 : PySem.W.codeIn K cd26 "_law_told" = true) (k26 : PySem.W.keepIn K (.ref f26) = true)
    (a27 : PySem.W.nsIn K mainGlobals "_law_cell_due" = some (some (.ref f27))) (l27 : K.lookup f27 = some ⟨oc27, od27, .func (PySem.W.fnOf "_law_cell_due" "_law_cell_due" (defArgs slawcelldue) (defBody slawcelldue) (defScope slawcelldue) .none kV27 dc27 pm27 an27 cd27 ct27), sl27⟩) (q27 : PySem.W.codeIn K cd27 "_law_cell_due" = true) (k27 : PySem.W.keepIn K (.ref f27) = true)
    (a28 : PySem.W.nsIn K mainGlobals "_law_cell_at" = some (some (.ref f28))) (l28 : K.lookup f28 = some ⟨oc28, od28, .func (PySem.W.fnOf "_law_cell_at" "_law_cell_at" (defArgs slawcellat) (defBody slawcellat) (defScope slawcellat) .none kV28 dc28 pm28 an28 cd28 ct28), sl28⟩) (q28 : PySem.W.codeIn K cd28 "_law_cell_at" = true) (k28 : PySem.W.keepIn K (.ref f28) = true)
    (a29 : PySem.W.nsIn K mainGlobals "_law_fits" = some (some (.ref f29))) (l29 : K.lookup f29 = some ⟨oc29, od29, .func (PySem.W.fnOf "_law_fits" "_law_fits" (defArgs slawfits) (defBody slawfits) (defScope slawfits) .none kV29 dc29 pm29 an29 cd29 ct29), sl29⟩) (q29 : PySem.W.codeIn K cd29 "_law_fits" = true) (k29 : PySem.W.keepIn K (.ref f29) = true)
    (a30 : PySem.W.nsIn K mainGlobals "_law_size" = some (some (.ref f30))) (l30 : K.lookup f30 = some ⟨oc30, od30, .func (PySem.W.fnOf "_law_size" "_law_size" (defArgs slawsize) (defBody slawsize) (defScope slawsize) .none kV30 dc30 pm30 an30 cd30 ct30), sl30⟩) (q30 : PySem.W.codeIn K cd30 "_law_size" = true) (k30 : PySem.W.keepIn K (.ref f30) = true)
    (a31 : PySem.W.nsIn K mainGlobals "_law_number" = some (some (.ref f31))) (l31 : K.lookup f31 = some ⟨oc31, od31, .func (PySem.W.fnOf "_law_number" "_law_number" (defArgs slawnumber) (defBody slawnumber) (defScope slawnumber) .none kV31 dc31 pm31 an31 cd31 ct31), sl31⟩) (q31 : PySem.W.codeIn K cd31 "_law_number" = true) (k31 : PySem.W.keepIn K (.ref f31) = true)
    (a32 : PySem.W.nsIn K mainGlobals "_law_cells" = some (some (.ref f32))) (l32 : K.lookup f32 = some ⟨oc32, od32, .func (PySem.W.fnOf "_law_cells" "_law_cells" (defArgs slawcells) (defBody slawcells) (defScope slawcells) .none kV32 dc32 pm32 an32 cd32 ct32), sl32⟩) (q32 : PySem.W.codeIn K cd32 "_law_cells" = true) (k32 : PySem.W.keepIn K (.ref f32) = true)
    (a33 : PySem.W.nsIn K mainGlobals "_law_begun" = some (some (.ref f33))) (l33 : K.lookup f33 = some ⟨oc33, od33, .func (PySem.W.fnOf "_law_begun" "_law_begun" (defArgs slawbegun) (defBody slawbegun) (defScope slawbegun) .none kV33 dc33 pm33 an33 cd33 ct33), sl33⟩) (q33 : PySem.W.codeIn K cd33 "_law_begun" = true) (k33 : PySem.W.keepIn K (.ref f33) = true)
    (a34 : PySem.W.nsIn K mainGlobals "_law_whole" = some (some (.ref f34))) (l34 : K.lookup f34 = some ⟨oc34, od34, .func (PySem.W.fnOf "_law_whole" "_law_whole" (defArgs slawwhole) (defBody slawwhole) (defScope slawwhole) .none kV34 dc34 pm34 an34 cd34 ct34), sl34⟩) (q34 : PySem.W.codeIn K cd34 "_law_whole" = true) (k34 : PySem.W.keepIn K (.ref f34) = true)
    (a35 : PySem.W.nsIn K mainGlobals "_law_is_sides" = some (some (.ref f35))) (l35 : K.lookup f35 = some ⟨oc35, od35, .func (PySem.W.fnOf "_law_is_sides" "_law_is_sides" (defArgs slawissides) (defBody slawissides) (defScope slawissides) .none kV35 dc35 pm35 an35 cd35 ct35), sl35⟩) (q35 : PySem.W.codeIn K cd35 "_law_is_sides" = true) (k35 : PySem.W.keepIn K (.ref f35) = true)
    (a36 : PySem.W.nsIn K mainGlobals "_law_all" = some (some (.ref f36))) (l36 : K.lookup f36 = some ⟨oc36, od36, .func (PySem.W.fnOf "_law_all" "_law_all" (defArgs slawall) (defBody slawall) (defScope slawall) .none kV36 dc36 pm36 an36 cd36 ct36), sl36⟩) (q36 : PySem.W.codeIn K cd36 "_law_all" = true) (k36 : PySem.W.keepIn K (.ref f36) = true)
    (a37 : PySem.W.nsIn K mainGlobals "_law_same" = some (some (.ref f37))) (l37 : K.lookup f37 = some ⟨oc37, od37, .func (PySem.W.fnOf "_law_same" "_law_same" (defArgs slawsame) (defBody slawsame) (defScope slawsame) .none kV37 dc37 pm37 an37 cd37 ct37), sl37⟩) (q37 : PySem.W.codeIn K cd37 "_law_same" = true) (k37 : PySem.W.keepIn K (.ref f37) = true)
    (a38 : PySem.W.nsIn K mainGlobals "_law_asked" = some (some (.ref f38))) (l38 : K.lookup f38 = some ⟨oc38, od38, .func (PySem.W.fnOf "_law_asked" "_law_asked" (defArgs slawasked) (defBody slawasked) (defScope slawasked) .none kV38 dc38 pm38 an38 cd38 ct38), sl38⟩) (q38 : PySem.W.codeIn K cd38 "_law_asked" = true) (k38 : PySem.W.keepIn K (.ref f38) = true)
    (a39 : PySem.W.nsIn K mainGlobals "_law_sides" = some (some (.ref f39))) (l39 : K.lookup f39 = some ⟨oc39, od39, .func (PySem.W.fnOf "_law_sides" "_law_sides" (defArgs slawsides) (defBody slawsides) (defScope slawsides) .none kV39 dc39 pm39 an39 cd39 ct39), sl39⟩) (q39 : PySem.W.codeIn K cd39 "_law_sides" = true) (k39 : PySem.W.keepIn K (.ref f39) = true)
    (a40 : PySem.W.nsIn K mainGlobals "law" = some (some (.ref f40))) (l40 : K.lookup f40 = some ⟨oc40, od40, .func (PySem.W.fnOf "law" "law" (defArgs slaw) (defBody slaw) (defScope slaw) .none kV40 dc40 pm40 an40 cd40 ct40), sl40⟩) (q40 : PySem.W.codeIn K cd40 "law" = true) (k40 : PySem.W.keepIn K (.ref f40) = true)
    (ztuple : PySem.W.nsIn K mainGlobals "tuple" = some none)
    (zreversed : PySem.W.nsIn K mainGlobals "reversed" = some none)
    (zlen : PySem.W.nsIn K mainGlobals "len" = some none)
    (zzip : PySem.W.nsIn K mainGlobals "zip" = some none)
    (zsum : PySem.W.nsIn K mainGlobals "sum" = some none)
    (zrange : PySem.W.nsIn K mainGlobals "range" = some none)
    (zabs : PySem.W.nsIn K mainGlobals "abs" = some none)
    (zmax : PySem.W.nsIn K mainGlobals "max" = some none)
    (zmin : PySem.W.nsIn K mainGlobals "min" = some none)
    (zint : PySem.W.nsIn K mainGlobals "int" = some none)
    (zlist : PySem.W.nsIn K mainGlobals "list" = some none)
    (zisinstance : PySem.W.nsIn K mainGlobals "isinstance" = some none)
    (zbool : PySem.W.nsIn K mainGlobals "bool" = some none)
    {tLOW : Tok} (gLOW : PySem.W.nsIn K mainGlobals "LOW" = some (some (.int (-9223372036854775808) tLOW)))
    {CNoPlace : Addr} (nNoPlace : PySem.W.nsIn K mainGlobals "NoPlace" = some (some (.ref CNoPlace)))
    {CNoWord : Addr} (nNoWord : PySem.W.nsIn K mainGlobals "NoWord" = some (some (.ref CNoWord)))
    {CUnlike : Addr} (nUnlike : PySem.W.nsIn K mainGlobals "Unlike" = some (some (.ref CUnlike)))
    {CLoomError : Addr} (nLoomError : PySem.W.nsIn K mainGlobals "LoomError" = some (some (.ref CLoomError)))
    (xNoWord : PySem.W.excIn K CNoWord [.type "ValueError", .type "Exception", .type "BaseException", .type "object"] "ValueError.__new__" = true)
    (xUnlike : PySem.W.excIn K CUnlike [.type "ValueError", .type "Exception", .type "BaseException", .type "object"] "ValueError.__new__" = true)
    (xNoPlace : PySem.W.excIn K CNoPlace [.type "ValueError", .type "Exception", .type "BaseException", .type "object"] "ValueError.__new__" = true)
    (e11 : PySem.W.exmOne K (.ref CNoWord) (.ref CNoWord) = some true)
    (e21 : PySem.W.exmOne K (.ref CUnlike) (.ref CNoWord) = some false)
    (e22 : PySem.W.exmOne K (.ref CUnlike) (.ref CUnlike) = some true)
    : ∃ (fd : FuncData) (tbs : List (Str × Addr × Addr)), (∀ p ∈ tbs, PySem.W.tabIn K p.1 = some p.2 ∧ p.1 ∈ (["lead"] : List Str)) ∧ (∀ (s : Shared) (v : Value), BindsTo s fd ⟨[v], []⟩ [("script", v)]) ∧ ∀ base : Heap, K.In base → base.Ns mainGlobals mg → (∀ p ∈ tbs, TabF base mg p.2.1 p.2.2) → FnOk l.prog w K mg base CX0 12 fa fd ["script"] (splawT K (tbs.map fun p => p.2.2)) := by
  have e := hfa.symm.trans (PySem.W.mg_of X G a40)
  cases e
  have F0 := fun_mk (st := samount) l0 q0 k0
  have b0 := F0.binds (ps := ["sides"]) fun _ _ _ _ _ _ us hl => by
    obtain ⟨_, rfl⟩ := us_len1 hl
    rfl
  have F1 := fun_mk (st := sstridesof) l1 q1 k1
  have b1 := F1.binds (ps := ["sides"]) fun _ _ _ _ _ _ us hl => by
    obtain ⟨_, rfl⟩ := us_len1 hl
    rfl
  have F2 := fun_mk (st := splaceof) l2 q2 k2
  have b2 := F2.binds (ps := ["sides", "at"]) fun _ _ _ _ _ _ us hl => by
    obtain ⟨_, _, rfl⟩ := us_len2 hl
    rfl
  have F3 := fun_mk (st := satof) l3 q3 k3
  have b3 := F3.binds (ps := ["sides", "place"]) fun _ _ _ _ _ _ us hl => by
    obtain ⟨_, _, rfl⟩ := us_len2 hl
    rfl
  have F4 := fun_mk (st := sallat) l4 q4 k4
  have b4 := F4.binds (ps := ["sides"]) fun _ _ _ _ _ _ us hl => by
    obtain ⟨_, rfl⟩ := us_len1 hl
    rfl
  have F5 := fun_mk (st := swrapped) l5 q5 k5
  have b5 := F5.binds (ps := ["n"]) fun _ _ _ _ _ _ us hl => by
    obtain ⟨_, rfl⟩ := us_len1 hl
    rfl
  have F6 := fun_mk (st := ssignof) l6 q6 k6
  have b6 := F6.binds (ps := ["x"]) fun _ _ _ _ _ _ us hl => by
    obtain ⟨_, rfl⟩ := us_len1 hl
    rfl
  have F7 := fun_mk (st := squotient) l7 q7 k7
  have b7 := F7.binds (ps := ["x", "y"]) fun _ _ _ _ _ _ us hl => by
    obtain ⟨_, _, rfl⟩ := us_len2 hl
    rfl
  have F8 := fun_mk (st := sremainder) l8 q8 k8
  have b8 := F8.binds (ps := ["x", "y"]) fun _ _ _ _ _ _ us hl => by
    obtain ⟨_, _, rfl⟩ := us_len2 hl
    rfl
  have F9 := fun_mk (st := sonce) l9 q9 k9
  have b9 := F9.binds (ps := ["word", "x"]) fun _ _ _ _ _ _ us hl => by
    obtain ⟨_, _, rfl⟩ := us_len2 hl
    rfl
  have F10 := fun_mk (st := stwice) l10 q10 k10
  have b10 := F10.binds (ps := ["word", "x", "y"]) fun _ _ _ _ _ _ us hl => by
    obtain ⟨_, _, _, rfl⟩ := us_len3 hl
    rfl
  have F11 := fun_mk (st := sledsides) l11 q11 k11
  have b11 := F11.binds (ps := ["sides", "others"]) fun _ _ _ _ _ _ us hl => by
    obtain ⟨_, _, rfl⟩ := us_len2 hl
    rfl
  have F12 := fun_mk (st := spairedsides) l12 q12 k12
  have b12 := F12.binds (ps := ["sides", "others"]) fun _ _ _ _ _ _ us hl => by
    obtain ⟨_, _, rfl⟩ := us_len2 hl
    rfl
  have F13 := fun_mk (st := spickedsides) l13 q13 k13
  have b13 := F13.binds (ps := ["marks", "sides", "others"]) fun _ _ _ _ _ _ us hl => by
    obtain ⟨_, _, _, rfl⟩ := us_len3 hl
    rfl
  have F14 := fun_mk (st := stableby) l14 q14 k14
  have b14 := F14.binds (ps := ["sides", "number_at"]) fun _ _ _ _ _ _ us hl => by
    obtain ⟨_, _, rfl⟩ := us_len2 hl
    rfl
  have F15 := fun_mk (st := scellat) l15 q15 k15
  have b15 := F15.binds (ps := ["tab", "at"]) fun _ _ _ _ _ _ us hl => by
    obtain ⟨_, _, rfl⟩ := us_len2 hl
    rfl
  have F16 := fun_mk (st := slead) l16 q16 k16
  have b16 := F16.binds (ps := ["tab", "sides"]) fun _ _ _ _ _ _ us hl => by
    obtain ⟨_, _, rfl⟩ := us_len2 hl
    rfl
  have F17 := fun_mk (st := seach) l17 q17 k17
  have b17 := F17.binds (ps := ["word", "tab"]) fun _ _ _ _ _ _ us hl => by
    obtain ⟨_, _, rfl⟩ := us_len2 hl
    rfl
  have F18 := fun_mk (st := spair) l18 q18 k18
  have b18 := F18.binds (ps := ["word", "tab", "other"]) fun _ _ _ _ _ _ us hl => by
    obtain ⟨_, _, _, rfl⟩ := us_len3 hl
    rfl
  have F19 := fun_mk (st := spick) l19 q19 k19
  have b19 := F19.binds (ps := ["marks", "tab", "other"]) fun _ _ _ _ _ _ us hl => by
    obtain ⟨_, _, _, rfl⟩ := us_len3 hl
    rfl
  have F20 := fun_mk (st := slawwrap) l20 q20 k20
  have b20 := F20.binds (ps := ["n"]) fun _ _ _ _ _ _ us hl => by
    obtain ⟨_, rfl⟩ := us_len1 hl
    rfl
  have F21 := fun_mk (st := slawonce) l21 q21 k21
  have b21 := F21.binds (ps := ["word", "x"]) fun _ _ _ _ _ _ us hl => by
    obtain ⟨_, _, rfl⟩ := us_len2 hl
    rfl
  have F22 := fun_mk (st := slawtwice) l22 q22 k22
  have b22 := F22.binds (ps := ["word", "x", "y"]) fun _ _ _ _ _ _ us hl => by
    obtain ⟨_, _, _, rfl⟩ := us_len3 hl
    rfl
  have F23 := fun_mk (st := slawspot) l23 q23 k23
  have b23 := F23.binds (ps := ["sides", "at"]) fun _ _ _ _ _ _ us hl => by
    obtain ⟨_, _, rfl⟩ := us_len2 hl
    rfl
  have F24 := fun_mk (st := slawled) l24 q24 k24
  have b24 := F24.binds (ps := ["tab", "at"]) fun _ _ _ _ _ _ us hl => by
    obtain ⟨_, _, rfl⟩ := us_len2 hl
    rfl
  have F25 := fun_mk (st := slawfit) l25 q25 k25
  have b25 := F25.binds (ps := ["one", "other"]) fun _ _ _ _ _ _ us hl => by
    obtain ⟨_, _, rfl⟩ := us_len2 hl
    rfl
  have F26 := fun_mk (st := slawtold) l26 q26 k26
  have b26 := F26.binds (ps := ["what", "word", "tabs", "sides"]) fun _ _ _ _ _ _ us hl => by
    obtain ⟨_, _, _, _, rfl⟩ := us_len4 hl
    rfl
  have F27 := fun_mk (st := slawcelldue) l27 q27 k27
  have b27 := F27.binds (ps := ["what", "word", "tabs", "at"]) fun _ _ _ _ _ _ us hl => by
    obtain ⟨_, _, _, _, rfl⟩ := us_len4 hl
    rfl
  have F28 := fun_mk (st := slawcellat) l28 q28 k28
  have b28 := F28.binds (ps := ["script", "k"]) fun _ _ _ _ _ _ us hl => by
    obtain ⟨_, _, rfl⟩ := us_len2 hl
    rfl
  have F29 := fun_mk (st := slawfits) l29 q29 k29
  have b29 := F29.binds (ps := ["sides"]) fun _ _ _ _ _ _ us hl => by
    obtain ⟨_, rfl⟩ := us_len1 hl
    rfl
  have F30 := fun_mk (st := slawsize) l30 q30 k30
  have b30 := F30.binds (ps := ["sides"]) fun _ _ _ _ _ _ us hl => by
    obtain ⟨_, rfl⟩ := us_len1 hl
    rfl
  have F31 := fun_mk (st := slawnumber) l31 q31 k31
  have b31 := F31.binds (ps := ["n"]) fun _ _ _ _ _ _ us hl => by
    obtain ⟨_, rfl⟩ := us_len1 hl
    rfl
  have F32 := fun_mk (st := slawcells) l32 q32 k32
  have b32 := F32.binds (ps := ["script", "begin", "size", "salt"]) fun _ _ _ _ _ _ us hl => by
    obtain ⟨_, _, _, _, rfl⟩ := us_len4 hl
    rfl
  have F33 := fun_mk (st := slawbegun) l33 q33 k33
  have b33 := F33.binds (ps := ["script", "k", "sides"]) fun _ _ _ _ _ _ us hl => by
    obtain ⟨_, _, _, rfl⟩ := us_len3 hl
    rfl
  have F34 := fun_mk (st := slawwhole) l34 q34 k34
  have b34 := F34.binds (ps := ["found"]) fun _ _ _ _ _ _ us hl => by
    obtain ⟨_, rfl⟩ := us_len1 hl
    rfl
  have F35 := fun_mk (st := slawissides) l35 q35 k35
  have b35 := F35.binds (ps := ["found", "due"]) fun _ _ _ _ _ _ us hl => by
    obtain ⟨_, _, rfl⟩ := us_len2 hl
    rfl
  have F36 := fun_mk (st := slawall) l36 q36 k36
  have b36 := F36.binds (ps := ["sides"]) fun _ _ _ _ _ _ us hl => by
    obtain ⟨_, rfl⟩ := us_len1 hl
    rfl
  have F37 := fun_mk (st := slawsame) l37 q37 k37
  have b37 := F37.binds (ps := ["found", "sides", "cells"]) fun _ _ _ _ _ _ us hl => by
    obtain ⟨_, _, _, rfl⟩ := us_len3 hl
    rfl
  have F38 := fun_mk (st := slawasked) l38 q38 k38
  have b38 := F38.binds (ps := ["what", "word", "some", "sides"]) fun _ _ _ _ _ _ us hl => by
    obtain ⟨_, _, _, _, rfl⟩ := us_len4 hl
    rfl
  have F39 := fun_mk (st := slawsides) l39 q39 k39
  have b39 := F39.binds (ps := ["script", "at"]) fun _ _ _ _ _ _ us hl => by
    obtain ⟨_, _, rfl⟩ := us_len2 hl
    rfl
  have F40 := fun_mk (st := slaw) l40 q40 k40
  have b40 := F40.binds (ps := ["script"]) fun _ _ _ _ _ _ us hl => by
    obtain ⟨_, rfl⟩ := us_len1 hl
    rfl
  refine ⟨PySem.W.fnOf "law" "law" (defArgs slaw) (defBody slaw) (defScope slaw) .none kV40 dc40 pm40 an40 cd40 ct40, [("lead", c16, TL)], (fc ⟨tabIn_of a16 l16 rfl h4_16 h5_16, by simp⟩ fc0), fun s v => .of_eq rfl, fun base KB GB tf => ?_⟩
  have O_amount := okamount (P := l.prog) (w := w) (base := base) (mg := mg) F0
  have C_amount := Callee.mk' F0 (PySem.W.mg_of X G a0) b0 O_amount
  have O_stridesof := okstridesof (P := l.prog) (w := w) (base := base) (mg := mg) F1 (PySem.W.mg_none_of X G ztuple) (PySem.W.mg_none_of X G zreversed)
  have C_stridesof := Callee.mk' F1 (PySem.W.mg_of X G a1) b1 O_stridesof
  have O_placeof := okplaceof (P := l.prog) (w := w) (base := base) (mg := mg) F2 nNoPlace (C_stridesof.mono (by decide)) (PySem.W.mg_none_of X G zlen) (PySem.W.mg_none_of X G zzip) (PySem.W.mg_none_of X G zsum) xNoPlace
  have C_placeof := Callee.mk' F2 (PySem.W.mg_of X G a2) b2 O_placeof
  have O_atof := okatof (P := l.prog) (w := w) (base := base) (mg := mg) F3 nNoPlace (C_amount.mono (by decide)) (PySem.W.mg_none_of X G zreversed) (PySem.W.mg_none_of X G ztuple) xNoPlace
  have C_atof := Callee.mk' F3 (PySem.W.mg_of X G a3) b3 O_atof
  have O_allat := okallat (P := l.prog) (w := w) (base := base) (mg := mg) F4 (C_atof.mono (by decide)) (C_amount.mono (by decide)) (PySem.W.mg_none_of X G zrange)
  have C_allat := Callee.mk' F4 (PySem.W.mg_of X G a4) b4 O_allat
  have O_wrapped := okwrapped (P := l.prog) (w := w) (base := base) (mg := mg) F5 (PySem.W.mg_of X G gLOW)
  have C_wrapped := Callee.mk' F5 (PySem.W.mg_of X G a5) b5 O_wrapped
  have O_signof := oksignof (P := l.prog) (w := w) (base := base) (mg := mg) F6
  have C_signof := Callee.mk' F6 (PySem.W.mg_of X G a6) b6 O_signof
  have O_quotient := okquotient (P := l.prog) (w := w) (base := base) (mg := mg) F7 (C_wrapped.mono (by decide))
  have C_quotient := Callee.mk' F7 (PySem.W.mg_of X G a7) b7 O_quotient
  have O_remainder := okremainder (P := l.prog) (w := w) (base := base) (mg := mg) F8
  have C_remainder := Callee.mk' F8 (PySem.W.mg_of X G a8) b8 O_remainder
  have O_once := okonce (P := l.prog) (w := w) (base := base) (mg := mg) F9 nNoWord (C_wrapped.mono (by decide)) (C_signof.mono (by decide)) (PySem.W.mg_none_of X G zabs) xNoWord
  have C_once := Callee.mk' F9 (PySem.W.mg_of X G a9) b9 O_once
  have O_twice := oktwice (P := l.prog) (w := w) (base := base) (mg := mg) F10 nNoWord (C_wrapped.mono (by decide)) (C_quotient.mono (by decide)) (C_remainder.mono (by decide)) (PySem.W.mg_none_of X G zmax) (PySem.W.mg_none_of X G zmin) xNoWord
  have C_twice := Callee.mk' F10 (PySem.W.mg_of X G a10) b10 O_twice
  have O_ledsides := okledsides (P := l.prog) (w := w) (base := base) (mg := mg) F11 nUnlike (PySem.W.mg_none_of X G zlen) xUnlike
  have C_ledsides := Callee.mk' F11 (PySem.W.mg_of X G a11) b11 O_ledsides
  have O_pairedsides := okpairedsides (P := l.prog) (w := w) (base := base) (mg := mg) F12 nUnlike (C_ledsides.mono (by decide)) (PySem.W.mg_none_of X G zlen)
  have C_pairedsides := Callee.mk' F12 (PySem.W.mg_of X G a12) b12 O_pairedsides
  have O_pickedsides := okpickedsides (P := l.prog) (w := w) (base := base) (mg := mg) F13 nUnlike (C_pairedsides.mono (by decide))
  have C_pickedsides := Callee.mk' F13 (PySem.W.mg_of X G a13) b13 O_pickedsides
  have O_tableby := oktableby (P := l.prog) (w := w) (base := base) (mg := mg) F14 (C_allat.mono (by decide)) (PySem.W.mg_none_of X G ztuple)
  have C_tableby := Callee.mk' F14 (PySem.W.mg_of X G a14) b14 O_tableby
  have O_cellat := okcellat (P := l.prog) (w := w) (base := base) (mg := mg) F15 (C_placeof.mono (by decide))
  have C_cellat := Callee.mk' F15 (PySem.W.mg_of X G a15) b15 O_cellat
  have O_lead := oklead (P := l.prog) (w := w) (base := base) (mg := mg) F16 rfl (tf ("lead", c16, TL) (by simp)) nUnlike (C_tableby.mono (by decide)) (C_ledsides.mono (by decide)) (PySem.W.mg_none_of X G zlen) (C_cellat.mono (by decide))
  have C_lead := Callee.mk' F16 (PySem.W.mg_of X G a16) b16 O_lead
  have O_each := okeach (P := l.prog) (w := w) (base := base) (mg := mg) F17 nNoWord (C_once.mono (by decide)) (PySem.W.mg_none_of X G ztuple)
  have C_each := Callee.mk' F17 (PySem.W.mg_of X G a17) b17 O_each
  have O_pair := okpair (P := l.prog) (w := w) (base := base) (mg := mg) F18 nNoWord nUnlike (C_twice.mono (by decide)) (C_pairedsides.mono (by decide)) (C_lead.mono (by decide)) (PySem.W.mg_none_of X G ztuple) (PySem.W.mg_none_of X G zzip)
  have C_pair := Callee.mk' F18 (PySem.W.mg_of X G a18) b18 O_pair
  have O_pick := okpick (P := l.prog) (w := w) (base := base) (mg := mg) F19 nUnlike (C_pickedsides.mono (by decide)) (C_lead.mono (by decide)) (PySem.W.mg_none_of X G ztuple) (PySem.W.mg_none_of X G zzip)
  have C_pick := Callee.mk' F19 (PySem.W.mg_of X G a19) b19 O_pick
  have O_lawwrap := oklawwrap (P := l.prog) (w := w) (base := base) (mg := mg) F20
  have C_lawwrap := Callee.mk' F20 (PySem.W.mg_of X G a20) b20 O_lawwrap
  have O_lawonce := oklawonce (P := l.prog) (w := w) (base := base) (mg := mg) F21 (C_lawwrap.mono (by decide)) (PySem.W.mg_none_of X G zint)
  have C_lawonce := Callee.mk' F21 (PySem.W.mg_of X G a21) b21 O_lawonce
  have O_lawtwice := oklawtwice (P := l.prog) (w := w) (base := base) (mg := mg) F22 (C_lawwrap.mono (by decide)) (PySem.W.mg_none_of X G zint) (PySem.W.mg_none_of X G zmax) (PySem.W.mg_none_of X G zmin)
  have C_lawtwice := Callee.mk' F22 (PySem.W.mg_of X G a22) b22 O_lawtwice
  have O_lawspot := oklawspot (P := l.prog) (w := w) (base := base) (mg := mg) F23 (PySem.W.mg_none_of X G zrange) (PySem.W.mg_none_of X G zlen)
  have C_lawspot := Callee.mk' F23 (PySem.W.mg_of X G a23) b23 O_lawspot
  have O_lawled := oklawled (P := l.prog) (w := w) (base := base) (mg := mg) F24 (C_lawspot.mono (by decide)) (PySem.W.mg_none_of X G zlen)
  have C_lawled := Callee.mk' F24 (PySem.W.mg_of X G a24) b24 O_lawled
  have O_lawfit := oklawfit (P := l.prog) (w := w) (base := base) (mg := mg) F25 (PySem.W.mg_none_of X G zmin) (PySem.W.mg_none_of X G zlen)
  have C_lawfit := Callee.mk' F25 (PySem.W.mg_of X G a25) b25 O_lawfit
  have O_lawtold := oklawtold (P := l.prog) (w := w) (base := base) (mg := mg) F26 nNoWord nUnlike nLoomError (C_each.mono (by decide)) (C_pair.mono (by decide)) (C_pick.mono (by decide)) (C_lead.mono (by decide)) e11 e21 e22
  have C_lawtold := Callee.mk' F26 (PySem.W.mg_of X G a26) b26 O_lawtold
  have O_lawcelldue := oklawcelldue (P := l.prog) (w := w) (base := base) (mg := mg) F27 (C_lawonce.mono (by decide)) (C_lawtwice.mono (by decide)) (C_lawled.mono (by decide))
  have C_lawcelldue := Callee.mk' F27 (PySem.W.mg_of X G a27) b27 O_lawcelldue
  have O_lawcellat := oklawcellat (P := l.prog) (w := w) (base := base) (mg := mg) F28 (PySem.W.mg_none_of X G zlen)
  have C_lawcellat := Callee.mk' F28 (PySem.W.mg_of X G a28) b28 O_lawcellat
  have O_lawfits := oklawfits (P := l.prog) (w := w) (base := base) (mg := mg) F29 (PySem.W.mg_none_of X G zmax) (PySem.W.mg_none_of X G zlen)
  have C_lawfits := Callee.mk' F29 (PySem.W.mg_of X G a29) b29 O_lawfits
  have O_lawsize := oklawsize (P := l.prog) (w := w) (base := base) (mg := mg) F30
  have C_lawsize := Callee.mk' F30 (PySem.W.mg_of X G a30) b30 O_lawsize
  have O_lawnumber := oklawnumber (P := l.prog) (w := w) (base := base) (mg := mg) F31
  have C_lawnumber := Callee.mk' F31 (PySem.W.mg_of X G a31) b31 O_lawnumber
  have O_lawcells := oklawcells (P := l.prog) (w := w) (base := base) (mg := mg) F32 (C_lawnumber.mono (by decide)) (PySem.W.mg_none_of X G zmax) (PySem.W.mg_none_of X G zlen) (PySem.W.mg_none_of X G zrange) (PySem.W.mg_none_of X G ztuple)
  have C_lawcells := Callee.mk' F32 (PySem.W.mg_of X G a32) b32 O_lawcells
  have O_lawbegun := oklawbegun (P := l.prog) (w := w) (base := base) (mg := mg) F33 (C_lawcellat.mono (by decide)) (C_lawfits.mono (by decide)) (C_lawcells.mono (by decide)) (C_lawsize.mono (by decide)) (PySem.W.mg_none_of X G zlist) (PySem.W.mg_none_of X G zlen) (PySem.W.mg_none_of X G ztuple) (PySem.W.mg_none_of X G zrange)
  have C_lawbegun := Callee.mk' F33 (PySem.W.mg_of X G a33) b33 O_lawbegun
  have O_lawwhole := oklawwhole (P := l.prog) (w := w) (base := base) (mg := mg) F34 (PySem.W.mg_none_of X G zisinstance) (PySem.W.mg_none_of X G zint) (PySem.W.mg_none_of X G zbool)
  have C_lawwhole := Callee.mk' F34 (PySem.W.mg_of X G a34) b34 O_lawwhole
  have O_lawissides := oklawissides (P := l.prog) (w := w) (base := base) (mg := mg) F35 (C_lawwhole.mono (by decide)) (PySem.W.mg_none_of X G zisinstance) (PySem.W.mg_none_of X G ztuple) (PySem.W.mg_none_of X G zlen) (PySem.W.mg_none_of X G zrange)
  have C_lawissides := Callee.mk' F35 (PySem.W.mg_of X G a35) b35 O_lawissides
  have O_lawall := oklawall (P := l.prog) (w := w) (base := base) (mg := mg) F36 (PySem.W.mg_none_of X G zrange)
  have C_lawall := Callee.mk' F36 (PySem.W.mg_of X G a36) b36 O_lawall
  have O_lawsame := oklawsame (P := l.prog) (w := w) (base := base) (mg := mg) F37 (C_lawissides.mono (by decide)) (PySem.W.mg_none_of X G zisinstance) (PySem.W.mg_none_of X G ztuple) (PySem.W.mg_none_of X G zlen)
  have C_lawsame := Callee.mk' F37 (PySem.W.mg_of X G a37) b37 O_lawsame
  have O_lawasked := oklawasked (P := l.prog) (w := w) (base := base) (mg := mg) F38 (C_lawtold.mono (by decide)) (C_lawfit.mono (by decide)) (C_lawcelldue.mono (by decide)) (C_lawall.mono (by decide)) (C_lawsame.mono (by decide)) (PySem.W.mg_none_of X G zmax) (PySem.W.mg_none_of X G zlen)
  have C_lawasked := Callee.mk' F38 (PySem.W.mg_of X G a38) b38 O_lawasked
  have O_lawsides := oklawsides (P := l.prog) (w := w) (base := base) (mg := mg) F39 (C_lawcellat.mono (by decide)) (PySem.W.mg_none_of X G zrange) (PySem.W.mg_none_of X G zmin) (PySem.W.mg_none_of X G zmax)
  have C_lawsides := Callee.mk' F39 (PySem.W.mg_of X G a39) b39 O_lawsides
  have O_law := oklaw (P := l.prog) (w := w) (base := base) (mg := mg) F40 (C_lawsides.mono (by decide)) (C_lawbegun.mono (by decide)) (C_lawcellat.mono (by decide)) (C_lawasked.mono (by decide)) (PySem.W.mg_none_of X G zrange) (PySem.W.mg_none_of X G zint)
  exact O_law
open PySem.W in
theorem walk {l : PySem.W.OpenLaw} {q : Program} {loose : List Str} {XP : (Str → Option Value) → Heap → Prop} {YP : World → Heap → Prop} {d : DefRec} {K : Params → PySem.W.Frag} (hn : l.most = some 63) (hdf : d.params.defaults = [])
    (hY : ∀ (w : World) (h : Heap), YP w h → (K w.params).In h) (hK0 : ∀ w : World, noTabs (K w.params) = true) (hrec : ∀ x ∈ (["lead"] : List Str), ((recsOf q).find? fun e => e.name == x).isSome = true)
    (F : ∀ (w : World) (mg : Str → Option Value) (fa : Addr) (h : Heap), (K w.params).In h → h.Ns mainGlobals mg → mg d.name = some (.ref fa) →
      ∃ (fd : FuncData) (tbs : List (Str × Addr × Addr)), (∀ p ∈ tbs, tabIn (K w.params) p.1 = some p.2 ∧ p.1 ∈ (["lead"] : List Str)) ∧ (∀ (s : Shared) (u : Value), BindsTo s fd ⟨[u], []⟩ [("script", u)]) ∧ ∀ base : Heap, (K w.params).In base → base.Ns mainGlobals mg → (∀ p ∈ tbs, TabF base mg p.2.1 p.2.2) → FnOk l.prog w (K w.params) mg base CX0 12 fa fd ["script"] (splawT (K w.params) (tbs.map fun p => p.2.2))) :
    PySem.W.WalkO q loose XP YP l.row.toRowW d [] (fun f vs => PySem.call f vs) :=
  L2.walk_ofT (n := 63) (k := 12) (x := "script") (CX := fun _ => CX0) (sp := fun w ts => splawT (K w.params) ts) hn (by decide) hdf ⟨rfl, by decide, by decide⟩ hY hK0 (fun w mg fa h a b c => by
    obtain ⟨fd, tbs, h1, h2⟩ := F w mg fa h a b c
    exact ⟨fd, tbs, fun p hp => ⟨(h1 p hp).1, hrec _ (h1 p hp).2⟩, h2⟩) (fun _ _ a ns ts hl hT hS => ⟨a, ns, rfl, hS, hl, hT, fun _ => rfl⟩) fun _ _ _ _ _ z => z
end My
open PySem PySem.W PyProof.Rows
set_option maxRecDepth 100000 in
set_option maxHeartbeats 0 in
theorem PySem.Challenge.cw_sideloom_k16_lifted_holds : PySem.Challenge.rw_sideloom_k16_lifted.Holds := by
  w_on; o_law; k_head; (case hw => w_witness2)
  k_fill
  refine My.walk (l := PySem.Challenge.rw_sideloom_k16_lifted) rfl rfl (fun w h Y => PySem.W.km_in_of Y) ?K0 ?rec ?F
  case K0 => intro w; kernel_rfl
  case rec => exact (My.fc (by kernel_rfl) My.fc0)
  case F =>
    intro w mg fa h KX G hmg
    refine' My.all_mk KX G hmg ?a0 ?l0 ?q0 ?k0 ?a1 ?l1 ?q1 ?k1 ?a2 ?l2 ?q2 ?k2 ?a3 ?l3 ?q3 ?k3 ?a4 ?l4 ?q4 ?k4 ?a5 ?l5 ?q5 ?k5 ?a6 ?l6 ?q6 ?k6 ?a7 ?l7 ?q7 ?k7 ?a8 ?l8 ?q8 ?k8 ?a9 ?l9 ?q9 ?k9 ?a10 ?l10 ?q10 ?k10 ?a11 ?l11 ?q11 ?k11 ?a12 ?l12 ?q12 ?k12 ?a13 ?l13 ?q13 ?k13 ?a14 ?l14 ?q14 ?k14 ?a15 ?l15 ?q15 ?k15 ?a16 ?l16 ?q16 ?k16 ?h4_16 ?h5_16 ?a17 ?l17 ?q17 ?k17 ?a18 ?l18 ?q18 ?k18 ?a19 ?l19 ?q19 ?k19 ?a20 ?l20 ?q20 ?k20 ?a21 ?l21 ?q21 ?k21 ?a22 ?l22 ?q22 ?k22 ?a23 ?l23 ?q23 ?k23 ?a24 ?l24 ?q24 ?k24 ?a25 ?l25 ?q25 ?k25 ?a26 ?l26 ?q26 ?k26 ?a27 ?l27 ?q27 ?k27 ?a28 ?l28 ?q28 ?k28 ?a29 ?l29 ?q29 ?k29 ?a30 ?l30 ?q30 ?k30 ?a31 ?l31 ?q31 ?k31 ?a32 ?l32 ?q32 ?k32 ?a33 ?l33 ?q33 ?k33 ?a34 ?l34 ?q34 ?k34 ?a35 ?l35 ?q35 ?k35 ?a36 ?l36 ?q36 ?k36 ?a37 ?l37 ?q37 ?k37 ?a38 ?l38 ?q38 ?k38 ?a39 ?l39 ?q39 ?k39 ?a40 ?l40 ?q40 ?k40 ?ztuple ?zreversed ?zlen ?zzip ?zsum ?zrange ?zabs ?zmax ?zmin ?zint ?zlist ?zisinstance ?zbool ?gLOW ?nNoPlace ?nNoWord ?nUnlike ?nLoomError ?xNoWord ?xUnlike ?xNoPlace ?e11 ?e21 ?e22
    (case a0 => k_is)
    (case l0 => k_is)
    (case q0 => k_is)
    (case k0 => k_is)
    (case a1 => k_is)
    (case l1 => k_is)
    (case q1 => k_is)
    (case k1 => k_is)
    (case a2 => k_is)
    (case l2 => k_is)
    (case q2 => k_is)
    (case k2 => k_is)
    (case a3 => k_is)
    (case l3 => k_is)
    (case q3 => k_is)
    (case k3 => k_is)
    (case a4 => k_is)
    (case l4 => k_is)
    (case q4 => k_is)
    (case k4 => k_is)
    (case a5 => k_is)
    (case l5 => k_is)
    (case q5 => k_is)
    (case k5 => k_is)
    (case a6 => k_is)
    (case l6 => k_is)
    (case q6 => k_is)
    (case k6 => k_is)
    (case a7 => k_is)
    (case l7 => k_is)
    (case q7 => k_is)
    (case k7 => k_is)
    (case a8 => k_is)
    (case l8 => k_is)
    (case q8 => k_is)
    (case k8 => k_is)
    (case a9 => k_is)
    (case l9 => k_is)
    (case q9 => k_is)
    (case k9 => k_is)
    (case a10 => k_is)
    (case l10 => k_is)
    (case q10 => k_is)
    (case k10 => k_is)
    (case a11 => k_is)
    (case l11 => k_is)
    (case q11 => k_is)
    (case k11 => k_is)
    (case a12 => k_is)
    (case l12 => k_is)
    (case q12 => k_is)
    (case k12 => k_is)
    (case a13 => k_is)
    (case l13 => k_is)
    (case q13 => k_is)
    (case k13 => k_is)
    (case a14 => k_is)
    (case l14 => k_is)
    (case q14 => k_is)
    (case k14 => k_is)
    (case a15 => k_is)
    (case l15 => k_is)
    (case q15 => k_is)
    (case k15 => k_is)
    (case a16 => k_is)
    (case l16 => k_is)
    (case q16 => k_is)
    (case k16 => k_is)
    (case h4_16 => k_is)
    (case h5_16 => rfl)
    (case a17 => k_is)
    (case l17 => k_is)
    (case q17 => k_is)
    (case k17 => k_is)
    (case a18 => k_is)
    (case l18 => k_is)
    (case q18 => k_is)
    (case k18 => k_is)
    (case a19 => k_is)
    (case l19 => k_is)
    (case q19 => k_is)
    (case k19 => k_is)
    (case a20 => k_is)
    (case l20 => k_is)
    (case q20 => k_is)
    (case k20 => k_is)
    (case a21 => k_is)
    (case l21 => k_is)
    (case q21 => k_is)
    (case k21 => k_is)
    (case a22 => k_is)
    (case l22 => k_is)
    (case q22 => k_is)
    (case k22 => k_is)
    (case a23 => k_is)
    (case l23 => k_is)
    (case q23 => k_is)
    (case k23 => k_is)
    (case a24 => k_is)
    (case l24 => k_is)
    (case q24 => k_is)
    (case k24 => k_is)
    (case a25 => k_is)
    (case l25 => k_is)
    (case q25 => k_is)
    (case k25 => k_is)
    (case a26 => k_is)
    (case l26 => k_is)
    (case q26 => k_is)
    (case k26 => k_is)
    (case a27 => k_is)
    (case l27 => k_is)
    (case q27 => k_is)
    (case k27 => k_is)
    (case a28 => k_is)
    (case l28 => k_is)
    (case q28 => k_is)
    (case k28 => k_is)
    (case a29 => k_is)
    (case l29 => k_is)
    (case q29 => k_is)
    (case k29 => k_is)
    (case a30 => k_is)
    (case l30 => k_is)
    (case q30 => k_is)
    (case k30 => k_is)
    (case a31 => k_is)
    (case l31 => k_is)
    (case q31 => k_is)
    (case k31 => k_is)
    (case a32 => k_is)
    (case l32 => k_is)
    (case q32 => k_is)
    (case k32 => k_is)
    (case a33 => k_is)
    (case l33 => k_is)
    (case q33 => k_is)
    (case k33 => k_is)
    (case a34 => k_is)
    (case l34 => k_is)
    (case q34 => k_is)
    (case k34 => k_is)
    (case a35 => k_is)
    (case l35 => k_is)
    (case q35 => k_is)
    (case k35 => k_is)
    (case a36 => k_is)
    (case l36 => k_is)
    (case q36 => k_is)
    (case k36 => k_is)
    (case a37 => k_is)
    (case l37 => k_is)
    (case q37 => k_is)
    (case k37 => k_is)
    (case a38 => k_is)
    (case l38 => k_is)
    (case q38 => k_is)
    (case k38 => k_is)
    (case a39 => k_is)
    (case l39 => k_is)
    (case q39 => k_is)
    (case k39 => k_is)
    (case a40 => k_is)
    (case l40 => k_is)
    (case q40 => k_is)
    (case k40 => k_is)
    (case ztuple => k_is)
    (case zreversed => k_is)
    (case zlen => k_is)
    (case zzip => k_is)
    (case zsum => k_is)
    (case zrange => k_is)
    (case zabs => k_is)
    (case zmax => k_is)
    (case zmin => k_is)
    (case zint => k_is)
    (case zlist => k_is)
    (case zisinstance => k_is)
    (case zbool => k_is)
    (case gLOW => k_is)
    (case nNoPlace => k_is)
    (case nNoWord => k_is)
    (case nUnlike => k_is)
    (case nLoomError => k_is)
    (case xNoWord => k_exc)
    (case xUnlike => k_exc)
    (case xNoPlace => k_exc)
    (case e11 => kts_exm)
    (case e21 => kts_exm)
    (case e22 => kts_exm)
