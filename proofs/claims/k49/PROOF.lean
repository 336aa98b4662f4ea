import PyProof.Rows.All
import Wide.All
import OpenK.AllK
import Wide.FinOn
import Lean
import PyProof.EqAt
import PyProof.EqKinds
import PyProof.TupleCall
import PySem.Challenge.RW_sideloom_k49_trees_remade
set_option Elab.async false
set_option linter.all false
set_option maxRecDepth 100000
namespace L2
open PySem PySem.Spec PyProof.Rows
abbrev Key := Sum Int Str
def keyIs : Key → Value → Bool
  | .inl k, v => Value.isInt k v
  | .inr x, v => Value.isStrOf x v
def keyH (w : World) : Key → Int
  | .inl k => hashInt k
  | .inr x => hashStr w x
theorem keyIs_shape : ∀ {k : Key} {v : Value}, keyIs k v = true → (∃ i t, k = Sum.inl i ∧ v = Value.int i t) ∨ (∃ x t, k = Sum.inr x ∧ v = Value.str x t)
  | .inl i, v, h => by
    obtain ⟨t, e⟩ := Value.isInt_shape (k := i) (v := v) h
    exact .inl ⟨i, t, rfl, e⟩
  | .inr x, v, h => by
    obtain ⟨t, e⟩ := Value.isStrOf_shape (x := x) (v := v) h
    exact .inr ⟨x, t, rfl, e⟩
theorem keyIs_str (x : Str) (t : Tok) : keyIs (.inr x) (.str x t) = true := by simp [keyIs, Value.isStrOf]
theorem key_ll (a b : Int) : decide ((Sum.inl a : Key) = Sum.inl b) = (a == b) := by
  by_cases e : a = b
  · subst e; simp
  · have h : ¬ (Sum.inl a : Key) = Sum.inl b := fun q => e (Sum.inl.inj q)
    rw [decide_eq_false h]
    exact (beq_eq_false_iff_ne.mpr e).symm
theorem key_rr (a b : Str) : decide ((Sum.inr a : Key) = Sum.inr b) = decide (a = b) := by
  by_cases e : a = b
  · subst e; simp
  · have h : ¬ (Sum.inr a : Key) = Sum.inr b := fun q => e (Sum.inr.inj q)
    rw [decide_eq_false h, decide_eq_false e]
theorem key_lr (a : Int) (b : Str) : decide ((Sum.inl a : Key) = Sum.inr b) = false := decide_eq_false (fun q => nomatch q)
theorem key_rl (a : Str) (b : Int) : decide ((Sum.inr a : Key) = Sum.inl b) = false := decide_eq_false (fun q => nomatch q)
def mixKind (prog : Program) (w : World) : PySem.KeyKind prog w Key where
  is := keyIs
  hash := keyH w
  inj := fun v a b ha hb => by
    rcases keyIs_shape ha with ⟨i, t, rfl, rfl⟩ | ⟨x, t, rfl, rfl⟩
    · rcases keyIs_shape hb with ⟨j, u, rfl, e⟩ | ⟨y, u, rfl, e⟩
      · injection e with e1 _; rw [e1]
      · exact nomatch e
    · rcases keyIs_shape hb with ⟨j, u, rfl, e⟩ | ⟨y, u, rfl, e⟩
      · exact nomatch e
      · injection e with e1 _; rw [e1]
  byValue := fun k v h => by
    rcases keyIs_shape h with ⟨i, t, rfl, rfl⟩ | ⟨x, t, rfl, rfl⟩ <;> rfl
  pyHash := fun hv h => by
    rcases keyIs_shape hv with ⟨i, t, rfl, rfl⟩ | ⟨x, t, rfl, rfl⟩
    · exact wpAny_pyHash_int h
    · exact wpAny_pyHash_str h
  eqBool := fun hu hv h => by
    rcases keyIs_shape hu with ⟨i, t, rfl, rfl⟩ | ⟨x, t, rfl, rfl⟩
    · rcases keyIs_shape hv with ⟨j, u, rfl, rfl⟩ | ⟨y, u, rfl, rfl⟩
      · rw [key_ll] at h; exact wpAny_eqBool_int h
      · rw [key_lr] at h; exact SeqAt.EqAt.int_str i t y u _ _ _ _ h
    · rcases keyIs_shape hv with ⟨j, u, rfl, rfl⟩ | ⟨y, u, rfl, rfl⟩
      · rw [key_rl] at h; exact SeqAt.EqAt.str_int x t j u _ _ _ _ h
      · rw [key_rr] at h; exact wpAny_eqBool_str h
  «strs» := fun k x t v h => by
    rcases keyIs_shape h with ⟨i, u, rfl, e⟩ | ⟨y, u, rfl, e⟩
    · exact nomatch e
    · injection e with e1 _
      subst e1
      cases v <;> rfl
end L2
namespace L2
open PySem PySem.Spec PyProof.Rows
inductive V where
  | non | bl (b : Bool) | int (i : Int) | str (x : Str) | byt (b : Array UInt8) | flt (b : UInt64) | ref (a : Addr) | ty (n : String)
  deriving DecidableEq
def RelV : V → Value → Prop
  | .non, u => u = Value.none
  | .bl b, u => u = Value.bool b
  | .int i, u => ∃ t, u = Value.int i t
  | .str x, u => ∃ t, u = Value.str x t
  | .byt b, u => ∃ t, u = Value.bytes b t
  | .flt b, u => ∃ t, u = Value.float b t
  | .ref a, u => u = Value.ref a
  | .ty n, u => u = Value.type n
abbrev Vals : List V → List Value → Prop := Paired RelV
theorem Vals.length {xs : List V} {us : List Value} (r : Vals xs us) : xs.length = us.length := Paired.length r
theorem Vals.get : ∀ {xs : List V} {us : List Value} {i : Nat} {x : V}, Vals xs us → xs[i]? = some x → ∃ u, us[i]? = some u ∧ RelV x u
  | _, _, _, _, .nil, e => by simp at e
  | _, _, 0, _, .cons r _, e => by simp at e; subst e; exact ⟨_, rfl, r⟩
  | _, _, i + 1, x, .cons _ t, e => by
    obtain ⟨u, h1, h2⟩ := Vals.get (i := i) (x := x) t (by simpa using e)
    exact ⟨u, by simpa using h1, h2⟩
theorem Vals.set {x : V} {u : Value} (r : RelV x u) : ∀ {xs : List V} {us : List Value} (i : Nat), Vals xs us → Vals (xs.set i x) (us.set i u)
  | _, _, _, .nil => .nil
  | _, _, 0, .cons _ t => .cons r t
  | _, _, i + 1, .cons q t => .cons q (Vals.set r i t)
theorem Vals.append : ∀ {xs ys : List V} {us ws : List Value}, Vals xs us → Vals ys ws → Vals (xs ++ ys) (us ++ ws)
  | _, _, _, _, .nil, s => s
  | _, _, _, _, .cons r t, s => .cons r (Vals.append t s)
theorem Vals.take : ∀ {xs : List V} {us : List Value} (n : Nat), Vals xs us → Vals (xs.take n) (us.take n)
  | _, _, 0, _ => .nil
  | _, _, _ + 1, .nil => .nil
  | _, _, n + 1, .cons r t => .cons r (Vals.take n t)
theorem Vals.drop : ∀ {xs : List V} {us : List Value} (n : Nat), Vals xs us → Vals (xs.drop n) (us.drop n)
  | _, _, 0, r => r
  | _, _, _ + 1, .nil => .nil
  | _, _, n + 1, .cons _ t => Vals.drop n t
def RelO : Option V → Option Value → Prop
  | some v, some u => RelV v u
  | none, none => True
  | _, _ => False
def KV {κ : Type} : List (κ × V) → List (κ × Value) → Prop := Paired fun (p : κ × V) (q : κ × Value) => p.1 = q.1 ∧ RelV p.2 q.2
def kV : Key → V
  | .inl i => .int i
  | .inr x => .str x
inductive HO where
  | lst (xs : List V)
  | tup (xs : List V)
  | dK (kvs : List (Key × V)) | dT (kvs : List (List Key × V))
  | set (S : Int → Bool) (n : Nat)
  | ins (C dx : Addr) (fs : List (Str × V))
  | own (x : Addr)
  | xd (fs : List (Str × V))
  | met (f x : Addr)
  | rng (lo hi : Int)
  | frz (o : Obj) (u : HO)
  | tbl (ps : Array Value)
  | ext (φ : Heap → Prop)
abbrev Hp := Addr → Option HO
def upd (H : Hp) (a : Addr) (o : HO) : Hp := fun b => if b = a then some o else H b
theorem upd_same {H : Hp} {a : Addr} {o : HO} : upd H a o a = some o := by unfold upd; rw [if_pos rfl]
theorem upd_ne {H : Hp} {a b : Addr} {o : HO} (h : b ≠ a) : upd H a o b = H b := by unfold upd; rw [if_neg h]
theorem ne_of_none {H : Hp} {a b : Addr} {o : HO} (h : H a = some o) (h' : H b = none) : a ≠ b := by
  intro e; subst e; rw [h] at h'; cases h'
section
variable (P : Program) (w : World)
def ObjOk (H : Hp) (h : Heap) (a : Addr) : HO → Prop
  | .lst xs => xs.length ≤ sizeLine ∧ ∃ (its : List Value) (n : Nat), Vals xs its ∧ h.get? a = some { cls := .type "list", data := .seq its.toArray n }
  | .tup xs => xs.length ≤ sizeLine ∧ ∃ its : List Value, Vals xs its ∧ IsTup h a its.toArray
  | .dK kvs => kvs.length ≤ sizeLine ∧ (a == sysModules) = false ∧ ∃ vs, KV kvs vs ∧ h.DictOf (mixKind P w) a vs
  | .dT kvs => kvs.length ≤ sizeLine ∧ (a == sysModules) = false ∧ ∃ xs : List (List Key × Addr × Value),
      Paired (fun (p : List Key × V) (q : List Key × Addr × Value) => p.1 = q.1 ∧ H q.2.1 = some (.tup (p.1.map kV)) ∧ RelV p.2 q.2.2) kvs xs ∧
      ∃ o es ep, h.get? a = some o ∧ o.ExactDict ∧ o.data = .dict es ep ∧ es.toList = xs.map (entryOfKey (tupleKind (mixKind P w))) ∧ (xs.map (·.1)).Nodup
  | .set S n => h.SetOf (intKind P w) a S n
  | .ins C dx fs => H dx = some (.own a) ∧ fs.length ≤ 1000 ∧ dx ≠ a ∧ h.get? a = some (PySem.W.instObj C dx) ∧
      ∃ mA, h.Ns1 dx mA ∧ (∀ f, RelO (fs.lookup f) (mA f)) ∧ PySem.Within mA (fs.map (·.1))
  | .own _ => ∃ o, h.get? a = some o
  | .xd fs => ∃ mA, h.Ns1 a mA ∧ ∀ f, RelO (fs.lookup f) (mA f)
  | .rng lo hi => ∃ t u v, h.get? a = some { cls := .type "range", data := .fields #[.int lo t, .int hi u, .int 1 v] }
  | .frz o u => h.get? a = some o ∧ ObjOk H h a u
  | .tbl ps => h.get? a = some { cls := .none, data := .fields ps }
  | .met f x => h.get? a = some (PySem.W.methodObj (.ref f) (.ref x))
  | .ext φ => φ h ∧ (∃ o, h.get? a = some o) ∧ ∀ h1 h2 : Heap, φ h1 → (∀ o, h1.get? a = some o → h2.get? a = some o) → φ h2
def HOk (H : Hp) (h : Heap) : Prop := ∀ a o, H a = some o → ObjOk P w H h a o
end
section
variable {P : Program} {w : World} {H H' : Hp} {h h' : Heap} {a : Addr} {o : HO}
theorem ObjOk.lt (x : ObjOk P w H h a o) : a < h.objs.size := by
  cases o with
  | lst xs => obtain ⟨_, _, _, _, e⟩ := x; exact Heap.lt_size e
  | tup xs => obtain ⟨_, _, _, p⟩ := x; exact p.lt
  | dK kvs => obtain ⟨_, _, _, _, o, _, _, e, _⟩ := x; exact Heap.lt_size e
  | dT kvs => obtain ⟨_, _, _, _, o, _, _, e, _⟩ := x; exact Heap.lt_size e
  | set S n => obtain ⟨o, _, _, _, e, _⟩ := x; exact Heap.lt_size e
  | ins C dx fs => obtain ⟨_, _, _, e, _⟩ := x; exact Heap.lt_size e
  | own y => obtain ⟨_, e⟩ := x; exact Heap.lt_size e
  | xd fs => obtain ⟨_, ⟨_, _, _, e, _⟩, _⟩ := x; exact Heap.lt_size e
  | rng lo hi => obtain ⟨_, _, _, e⟩ := x; exact Heap.lt_size e
  | frz ob u => obtain ⟨e, _⟩ := x; exact Heap.lt_size e
  | tbl ps => exact Heap.lt_size (show h.get? a = some _ from x)
  | met f y => exact Heap.lt_size (show h.get? a = some _ from x)
  | ext φ => obtain ⟨_, ⟨_, e⟩, _⟩ := x; exact Heap.lt_size e
theorem Paired.mapP {α β : Type} {F G : α → β → Prop} : ∀ {l₁ : List α} {l₂ : List β}, Paired F l₁ l₂ → (∀ a b, F a b → G a b) → Paired G l₁ l₂
  | _, _, .nil, _ => .nil
  | _, _, .cons r t, f => .cons (f _ _ r) (Paired.mapP t f)
theorem ObjOk.stay (x : ObjOk P w H h a o) (k : ∀ b u, (b = a ∨ H b = some (.own a)) → h.get? b = some u → h'.get? b = some u)
    (ho : ∀ b, H b = some (.own a) → H' b = some (.own a)) (ht : ∀ b xs, H b = some (.tup xs) → H' b = some (.tup xs)) : ObjOk P w H' h' a o := by
  induction o with
  | lst xs => obtain ⟨z, its, n, r, e⟩ := x; exact ⟨z, its, n, r, k _ _ (.inl rfl) e⟩
  | tup xs => obtain ⟨z, its, r, ob, e, c⟩ := x; exact ⟨z, its, r, ob, k _ _ (.inl rfl) e, c⟩
  | dK kvs => obtain ⟨z, y, vs, r, ob, es, ep, e, c⟩ := x; exact ⟨z, y, vs, r, ob, es, ep, k _ _ (.inl rfl) e, c⟩
  | dT kvs =>
    obtain ⟨z, y, xs, r, ob, es, ep, e, c⟩ := x
    exact ⟨z, y, xs, Paired.mapP r fun p q z => ⟨z.1, ht _ _ z.2.1, z.2.2⟩, ob, es, ep, k _ _ (.inl rfl) e, c⟩
  | set S n => obtain ⟨ob, es, ep, t, e, c⟩ := x; exact ⟨ob, es, ep, t, k _ _ (.inl rfl) e, c⟩
  | ins C dx fs =>
    obtain ⟨d, z, ne, e, mA, ⟨od, es, ep, e2, c⟩, r⟩ := x
    exact ⟨ho _ d, z, ne, k _ _ (.inl rfl) e, mA, ⟨od, es, ep, k _ _ (.inr d) e2, c⟩, r⟩
  | own y => obtain ⟨ob, e⟩ := x; exact ⟨ob, k _ _ (.inl rfl) e⟩
  | xd fs => obtain ⟨mA, ⟨od, es, ep, e, c⟩, r⟩ := x; exact ⟨mA, ⟨od, es, ep, k _ _ (.inl rfl) e, c⟩, r⟩
  | rng lo hi => obtain ⟨t, u, v, e⟩ := x; exact ⟨t, u, v, k _ _ (.inl rfl) e⟩
  | frz ob u ih => obtain ⟨e, q⟩ := x; exact ⟨k _ _ (.inl rfl) e, ih q⟩
  | tbl ps =>
    have e : h.get? a = some { cls := .none, data := .fields ps } := x
    show h'.get? a = some { cls := .none, data := .fields ps }
    exact k a _ (.inl rfl) e
  | met f y =>
    have e : h.get? a = some (PySem.W.methodObj (.ref f) (.ref y)) := x
    show h'.get? a = some (PySem.W.methodObj (.ref f) (.ref y))
    exact k a _ (.inl rfl) e
  | ext φ => obtain ⟨p, ⟨o, e⟩, st⟩ := x; exact ⟨st _ _ p fun o q => k _ _ (.inl rfl) q, ⟨o, k _ _ (.inl rfl) e⟩, st⟩
theorem HOk.lt (x : HOk P w H h) (e : H a = some o) : a < h.objs.size := (x a o e).lt
theorem HOk.fresh (x : HOk P w H h) (e : h.objs.size ≤ a) : H a = none := by
  cases q : H a with
  | none => rfl
  | some u => exact absurd (Nat.lt_of_lt_of_le (x.lt q) e) (Nat.lt_irrefl _)
theorem HOk.kept (x : HOk P w H h) (k : ∀ b u, h.get? b = some u → h'.get? b = some u) : HOk P w H h' := fun a o e =>
  (x a o e).stay (fun b u _ q => k b u q) (fun _ q => q) fun _ _ q => q
theorem HOk.laid (x : HOk P w H h) (k : ∀ b u, h.get? b = some u → h'.get? b = some u) (hp : h.objs.size ≤ a) (new : ObjOk P w (upd H a o) h' a o) : HOk P w (upd H a o) h' := fun b u e => by
  have hn := x.fresh hp
  by_cases hb : b = a
  · subst hb; rw [upd_same] at e; cases e; exact new
  · rw [upd_ne hb] at e
    exact (x b u e).stay (fun c v _ q => k c v q) (fun c q => by rw [upd_ne (ne_of_none q hn)]; exact q) fun c xs q => by rw [upd_ne (ne_of_none q hn)]; exact q
end
def Rd (H : Hp) (a : Addr) (u : HO) : Prop := H a = some u ∨ ∃ o, H a = some (.frz o u)
theorem Rd.of {H : Hp} {a : Addr} {u : HO} (h : H a = some u) : Rd H a u := .inl h
theorem Rd.ok {P : Program} {w : World} {H : Hp} {h : Heap} {a : Addr} {u : HO} (r : Rd H a u) (x : HOk P w H h) : ObjOk P w H h a u := by
  rcases r with r | ⟨o, r⟩
  · exact x a u r
  · obtain ⟨_, q⟩ := x a _ r
    exact q
def Mut : Option HO → Prop
  | some (.lst _) => True
  | some (.dK _) => True
  | some (.dT _) => True
  | some (.set _ _) => True
  | some (.ins _ _ _) => True
  | some (.ext _) => True
  | _ => False
section
variable {P : Program} {w : World} {H : Hp} {h h' : Heap} {x e : Addr} {o' : HO}
theorem HOk.write (ok : HOk P w H h) (mu : Mut (H x)) (he : e = x ∨ H e = some (.own x)) (k : ∀ b u, b ≠ e → h.get? b = some u → h'.get? b = some u) (heo : ∃ u, h'.get? e = some u)
    (new : ObjOk P w (upd H x o') h' x o') : HOk P w (upd H x o') h' := fun b u q => by
  have nown : ∀ c y, H c = some (.own y) → c ≠ x := fun c y r z => by subst z; rw [r] at mu; exact mu
  have ntup : ∀ c xs, H c = some (.tup xs) → c ≠ x := fun c xs r z => by subst z; rw [r] at mu; exact mu
  by_cases hb : b = x
  · subst hb; rw [upd_same] at q; cases q; exact new
  · rw [upd_ne hb] at q
    by_cases hbe : b = e
    · have q' : H b = some (.own x) := by
        rcases he with z | z
        · exact absurd (hbe.trans z) hb
        · rw [hbe]; exact z
      rw [q] at q'; cases q'
      obtain ⟨v, hv⟩ := heo
      exact ⟨v, by rw [hbe]; exact hv⟩
    · refine (ok b u q).stay (fun c v hc r => k c v ?_ r) (fun c r => by rw [upd_ne (nown c b r)]; exact r) fun c xs r => by rw [upd_ne (ntup c xs r)]; exact r
      rcases hc with rfl | hc
      · exact hbe
      · rintro rfl
        rcases he with z | z
        · exact nown c b hc z
        · rw [hc] at z; cases z; exact hb rfl
end
structure Un (fs ex : List Addr) (H H' : Hp) (h h' : Heap) : Prop where
  keep : ∀ b o, h.get? b = some o → H b = none → b ∉ fs → b ∉ ex → h'.get? b = some o
  slot : ∀ b o, h.get? b = some o → H b = none → b ∈ fs → b ∉ ex → ∃ sl, h'.get? b = some { o with slots := sl }
  free : ∀ b o, h.get? b = some o → H b = none → b ∉ ex → H' b = none
  there : ∀ b o, h.get? b = some o → b ∉ ex → ∃ o', h'.get? b = some o'
  tups : ∀ b xs, H b = some (.tup xs) → H' b = some (.tup xs)
  frzs : ∀ b o u, H b = some (.frz o u) → H' b = some (.frz o u)
  tbls : ∀ b ps, H b = some (.tbl ps) → ∃ more, H' b = some (.tbl (ps ++ more))
section
variable {fs fs' ex ex' : List Addr} {H H1 H2 : Hp} {h h1 h2 h' : Heap} {a x e : Addr} {o : HO}
theorem Un.any (u : Un fs ex H H1 h h1) {b : Addr} {ob : Obj} (q : h.get? b = some ob) (n : H b = none) (hx : b ∉ ex) : ∃ sl, h1.get? b = some { ob with slots := sl } := by
  by_cases hb : b ∈ fs
  · exact u.slot b ob q n hb hx
  · exact ⟨ob.slots, u.keep b ob q n hb hx⟩
theorem Un.trans (a : Un fs ex H H1 h h1) (b : Un fs ex H1 H2 h1 h2) : Un fs ex H H2 h h2 where
  keep := fun c ob q n hc hx => b.keep c ob (a.keep c ob q n hc hx) (a.free c ob q n hx) hc hx
  slot := fun c ob q n hc hx => by
    obtain ⟨sl, e1⟩ := a.slot c ob q n hc hx
    obtain ⟨sl', e2⟩ := b.slot c _ e1 (a.free c ob q n hx) hc hx
    exact ⟨sl', e2⟩
  free := fun c ob q n hx => by
    obtain ⟨o', e1⟩ := a.there c ob q hx
    exact b.free c o' e1 (a.free c ob q n hx) hx
  there := fun c ob q hx => by
    obtain ⟨o', e1⟩ := a.there c ob q hx
    exact b.there c o' e1 hx
  tups := fun c xs q => b.tups c xs (a.tups c xs q)
  frzs := fun c ob xs q => b.frzs c ob xs (a.frzs c ob xs q)
  tbls := fun c ps q => by
    obtain ⟨m1, e1⟩ := a.tbls c ps q
    obtain ⟨m2, e2⟩ := b.tbls c _ e1
    exact ⟨m1 ++ m2, by rw [e2, Array.append_assoc]⟩
theorem Un.kept (k : ∀ b u, h.get? b = some u → h'.get? b = some u) : Un fs ex H H h h' :=
  ⟨fun b ob q _ _ _ => k b ob q, fun b ob q _ _ _ => ⟨ob.slots, k b ob q⟩, fun _ _ _ n _ => n, fun b ob q _ => ⟨ob, k b ob q⟩, fun _ _ q => q, fun _ _ _ q => q, fun _ ps q => ⟨#[], by rw [q]; simp⟩⟩
theorem Un.refl : Un fs ex H H h h := Un.kept fun _ _ q => q
theorem Un.laid (k : ∀ b u, h.get? b = some u → h'.get? b = some u) (hp : h.objs.size ≤ a) (hn : H a = none) : Un fs ex H (upd H a o) h h' where
  keep := fun b u q _ _ _ => k b u q
  slot := fun b u q _ _ _ => ⟨u.slots, k b u q⟩
  free := fun b u q n _ => by rw [upd_ne (Nat.ne_of_lt (Nat.lt_of_lt_of_le (Heap.lt_size q) hp))]; exact n
  there := fun b u q _ => ⟨u, k b u q⟩
  tups := fun b xs q => by rw [upd_ne (ne_of_none q hn)]; exact q
  frzs := fun b u xs q => by rw [upd_ne (ne_of_none q hn)]; exact q
  tbls := fun b ps q => ⟨#[], by rw [upd_ne (ne_of_none q hn), q]; simp⟩
theorem Un.write (mu : Mut (H x)) (he : e = x ∨ H e = some (.own x)) (k : ∀ b u, b ≠ e → h.get? b = some u → h'.get? b = some u) (heo : ∃ u, h'.get? e = some u) : Un fs ex H (upd H x o) h h' := by
  have hx : ∀ b, H b = none → b ≠ x := fun b n z => by subst z; rw [n] at mu; exact mu
  have hb : ∀ b, H b = none → b ≠ e := fun b n z => by
    subst z
    rcases he with r | r
    · exact hx b n r
    · rw [n] at r; cases r
  have hm : ∀ b u, H b = some u → ¬ Mut (some u) → b ≠ x := fun b u q nm z => by subst z; rw [q] at mu; exact nm mu
  refine ⟨fun b u q n _ _ => k b u (hb b n) q, fun b u q n _ _ => ⟨u.slots, k b u (hb b n) q⟩, fun b u q n _ => by rw [upd_ne (hx b n)]; exact n, fun b u q _ => ?_,
    fun b xs q => by rw [upd_ne (hm b _ q fun z => z)]; exact q, fun b u xs q => by rw [upd_ne (hm b _ q fun z => z)]; exact q, fun b ps q => ⟨#[], by rw [upd_ne (hm b _ q fun z => z), q]; simp⟩⟩
  by_cases hbe : b = e
  · subst hbe; exact heo
  · exact ⟨u, k b u hbe q⟩
theorem Un.mono (u : Un fs ex H H1 h h1) (hs : ∀ b ∈ fs, b ∈ fs') (hx : ∀ b ∈ ex, b ∈ ex') : Un fs' ex' H H1 h h1 :=
  ⟨fun b ob q n hb he => u.keep b ob q n (fun z => hb (hs b z)) fun z => he (hx b z), fun _ _ q n _ he => u.any q n fun z => he (hx _ z), fun b ob q n he => u.free b ob q n fun z => he (hx b z), fun b ob q he => u.there b ob q fun z => he (hx b z), u.tups, u.frzs, u.tbls⟩
end
def trk (h : Heap) (H : Hp) : List Addr := (List.range h.objs.size).filter fun a => (H a).isSome
def hidT (h : Heap) (H : Hp) : Heap := PySem.W.hideAll h (trk h H)
theorem hidT_size (h : Heap) (H : Hp) : (hidT h H).objs.size = h.objs.size := PySem.W.hideAll_size _ _
theorem hidT_get {h : Heap} {H : Hp} {b : Addr} {o : Obj} (e : h.get? b = some o) (n : H b = none) : (hidT h H).get? b = some o :=
  PySem.W.hideAll_get _ e fun hm => by
    have q : (H b).isSome = true := (List.mem_filter.mp hm).2
    rw [n] at q; simp at q
theorem of_hidT {h : Heap} {H : Hp} {b : Addr} {o : Obj} (e : (hidT h H).get? b = some o) : h.get? b = some o ∧ H b = none := by
  have e' : h.get? b = some o := PySem.W.of_hideAll (trk h H) e
  refine ⟨e', ?_⟩
  cases q : H b with
  | none => rfl
  | some x =>
    have hm : b ∈ trk h H := List.mem_filter.mpr ⟨List.mem_range.mpr (Heap.lt_size e'), by simp [q]⟩
    have z : (hidT h H).get? b = none := PySem.W.hideAll_none (trk h H) hm
    rw [z] at e; cases e
def allNews (g h : Heap) (L : Addr) : List (Addr × Obj) := (List.range h.objs.size).filterMap fun a => if a = L ∨ (g.get? a).isSome = true then none else (h.get? a).map fun o => (a, o)
def rest (g h : Heap) (L d : Addr) : List (Addr × Obj) := (allNews g h L).filter fun p => decide (p.1 ≠ d)
end L2
namespace L2
open PySem PySem.Spec PyProof.Rows
structure Mod (K : PySem.W.Frag) (mg : Str → Option Value) (base : Heap) : Prop where
  kin : K.In base
  glob : base.Ns mainGlobals mg
  blt : ∃ mb, base.Ns builtinsNs mb ∧ ∀ x : Str, x ≠ "__name__" → mb x = bootBuiltins x
  nolimit : base.NoLimit
structure Cx where
  prog : Program
  w : World
  K : PySem.W.Frag
  mg : Str → Option Value
  base : Heap
  A : Around
  N : List Str
  s₀ : Shared
  H₀ : Hp
  env : Env
  outer : List Env
  stack : List Env
  ex : List Addr
  fn : Str → Bool
  calm : Bool
  pn : List (Addr × Obj)
  xe : Value → Shared → Prop
def frs (l : List Env) : List Addr := l.filterMap (·.frame)
abbrev Cx.fs (X : Cx) : List Addr := frs X.outer
def Vis (sc : Scope) (x : Str) : Prop := sc.names.lookup x = some .local ∨ sc.names.lookup x = some .cell ∨ sc.names.lookup x = some .free
def Loc (sc : Scope) (x : Str) : Prop := sc.names.lookup x = some .local ∨ sc.names.lookup x = some .cell
def Look (env : Env) (h : Heap) (m : Str → Option Value) (x : Str) (u : Value) : Prop :=
  (env.kindOf x = some .local ∧ m x = some u) ∨ ((env.kindOf x = some .cell ∨ env.kindOf x = some .free) ∧ ∃ c, env.cells.lookup x = some c ∧ h.IsCell c (some u))
structure Cx.Ok (X : Cx) : Prop where
  mod : Mod X.K X.mg X.base
  kind : X.env.scope.kind = .function
  glob : X.env.globals = mainGlobals
  blt : X.env.builtins = builtinsNs
  above : X.s₀.heap.objs.size ≤ X.env.locals
  inj : ∀ x y c, X.env.cells.lookup x = some c → X.env.cells.lookup y = some c → x = y
  has : ∀ x, (X.env.kindOf x = some .cell ∨ X.env.kindOf x = some .free) → ∃ c, X.env.cells.lookup x = some c
  cab : ∀ x c, X.fn x = true → X.env.cells.lookup x = some c → X.s₀.heap.objs.size ≤ c
  hd : X.calm = true → X.A.handled = none
  frames : X.A.frames = some X.stack
  stk : X.stack = X.outer ∨ (X.stack = X.env :: X.outer ∧ X.env.frame = some X.env.locals)
  exf : ∀ b ∈ X.ex, b ≠ X.env.locals ∧ ∀ x c, X.env.cells.lookup x = some c → c ≠ b
  bs : ∀ b o, X.base.get? b = some o → X.s₀.heap.get? b = some o ∧ X.H₀ b = none
  bsz : X.base.objs.size ≤ X.s₀.heap.objs.size
  noex : ∀ b o, X.base.get? b = some o → b ∉ X.ex
  exfs : ∀ b ∈ X.ex, b ∉ X.fs
  funs : X.s₀.heap.FunFrames X.base X.outer
  frf : ∀ b ∈ X.fs, X.H₀ b = none
structure Inv (X : Cx) (pins : List (Addr × Obj)) (σ : List (Option V)) (H : Hp) (s : Shared) : Prop where
  ok : X.Ok
  os : s.os = X.s₀.os
  bare : AllBare s.gens
  base : Un X.fs X.ex X.H₀ H X.s₀.heap s.heap
  loc : ∃ m, s.heap.Ns X.env.locals m ∧ ∀ (i : Nat) (x : Str) (v : V), X.N[i]? = some x → σ[i]? = some (some v) → Vis X.env.scope x → ∃ u, RelV v u ∧ Look X.env s.heap m x u
  cell : ∀ x c, X.env.cells.lookup x = some c → ∃ v, s.heap.IsCell c v
  free : H X.env.locals = none
  freeC : ∀ x c, X.env.cells.lookup x = some c → H c = none
  pin : ∀ p ∈ X.pn ++ pins, s.heap.get? p.1 = some p.2 ∧ H p.1 = none ∧ p.1 ≠ X.env.locals ∧ p.1 ∉ X.fs ∧ ∀ v, p.2.data ≠ .cell v
  hok : HOk X.prog X.w H s.heap
  len : σ.length = X.N.length
section
variable {X : Cx} {pins : List (Addr × Obj)} {σ : List (Option V)} {H H' : Hp} {s : Shared} {h' : Heap}
theorem Cx.Ok.nofr (ok : X.Ok) {b : Addr} {o : Obj} (e : X.base.get? b = some o) : b ∉ X.fs := fun hb => by
  have := (ok.funs.mem hb).1
  rw [e] at this; cases this
theorem Inv.bs (I : Inv X pins σ H s) : ∀ b o, X.base.get? b = some o → s.heap.get? b = some o ∧ H b = none := fun b o e =>
  ⟨I.base.keep b o (I.ok.bs b o e).1 (I.ok.bs b o e).2 (I.ok.nofr e) (I.ok.noex b o e), I.base.free b o (I.ok.bs b o e).1 (I.ok.bs b o e).2 (I.ok.noex b o e)⟩
theorem Inv.bk (I : Inv X pins σ H s) : ∀ b o, X.base.get? b = some o → s.heap.get? b = some o := fun b o e => (I.bs b o e).1
theorem Inv.mod (I : Inv X pins σ H s) : Mod X.K X.mg X.base := I.ok.mod
theorem Inv.kIn (I : Inv X pins σ H s) : X.K.In s.heap := I.ok.mod.kin.keeps I.bk
theorem Inv.nolimit (I : Inv X pins σ H s) : s.heap.NoLimit := I.ok.mod.nolimit.keeps I.bk
theorem Inv.fr (I : Inv X pins σ H s) : ∃ m, Fr X.base X.env.locals s.heap m :=
  let ⟨m, hn, _⟩ := I.loc
  ⟨m, hn, I.bk, Nat.le_trans I.ok.bsz I.ok.above⟩
theorem Inv.lt (I : Inv X pins σ H s) : X.env.locals < s.heap.objs.size := let ⟨_, hn, _⟩ := I.loc; hn.lt
theorem Inv.sz (I : Inv X pins σ H s) : X.s₀.heap.objs.size ≤ s.heap.objs.size := Nat.le_trans I.ok.above (Nat.le_of_lt I.lt)
theorem Inv.nofs (I : Inv X pins σ H s) {a : Addr} (h : s.heap.objs.size ≤ a) : a ∉ X.fs := fun hb => by
  obtain ⟨_, o, ho, _⟩ := I.ok.funs.mem hb
  exact absurd (Nat.lt_of_lt_of_le (Heap.lt_size ho) (Nat.le_trans I.sz h)) (Nat.lt_irrefl _)
theorem Inv.cne (I : Inv X pins σ H s) : ∀ x c, X.env.cells.lookup x = some c → c ≠ X.env.locals := fun x c e z => by
  obtain ⟨v, o, ho, hd⟩ := I.cell x c e
  obtain ⟨m, ⟨o', es, ep, ho', hd', _⟩, _⟩ := I.loc
  rw [z, ho'] at ho; cases ho; rw [hd'] at hd; cases hd
theorem Inv.funs (I : Inv X pins σ H s) : s.heap.FunFrames X.base X.outer := by
  have all : ∀ (l : List Env), (∀ b ∈ frs l, b ∈ X.fs) → X.s₀.heap.FunFrames X.base l → s.heap.FunFrames X.base l := by
    intro l
    induction l with
    | nil => intro _ _; trivial
    | cons env r ih =>
      intro hs hl
      obtain ⟨hk, ⟨L, o, hf, hn, ho, hd⟩, hr⟩ := hl
      have hL : L ∈ X.fs := hs L (by unfold frs; rw [List.filterMap_cons, hf]; exact List.mem_cons_self)
      obtain ⟨sl, e⟩ := I.base.slot L o ho (I.ok.frf L hL) hL fun z => I.ok.exfs L z hL
      exact ⟨hk, ⟨L, _, hf, hn, e, hd⟩, ih (fun b hb => hs b (by unfold frs; rw [List.filterMap_cons, hf]; exact List.mem_cons_of_mem _ hb)) hr⟩
  exact all X.outer (fun _ hb => hb) I.ok.funs
theorem Inv.stack (I : Inv X pins σ H s) : s.heap.FunFrames X.base X.stack := by
  rcases I.ok.stk with e | ⟨e, hf⟩
  · rw [e]; exact I.funs
  · rw [e]
    obtain ⟨m, hn, _⟩ := I.loc
    refine .cons (by rw [I.ok.kind]; decide) hf hn ?_ I.funs
    exact Heap.get?_none_of_le (Nat.le_trans I.ok.bsz I.ok.above)
theorem Inv.stkSub (I : Inv X pins σ H s) : ∀ b ∈ frs X.stack, b ∈ X.env.locals :: X.fs := fun b hb => by
  rcases I.ok.stk with e | ⟨e, hf⟩
  · rw [e] at hb; exact List.mem_cons_of_mem _ hb
  · rw [e] at hb
    unfold frs at hb
    rw [List.filterMap_cons, hf] at hb
    exact hb
theorem Inv.stkFree (I : Inv X pins σ H s) : ∀ b ∈ frs X.stack, H b = none := fun b hb => by
  rcases List.mem_cons.mp (I.stkSub b hb) with e | hb
  · rw [e]; exact I.free
  · obtain ⟨_, o, ho, _⟩ := I.ok.funs.mem hb
    exact I.base.free b o ho (I.ok.frf b hb) fun z => I.ok.exfs b z hb
theorem Inv.step {g' : Array GenState} {t' : Nat} {d' : Drawn} {ch : List Addr} (I : Inv X pins σ H s)
    (hch : ∀ b ∈ ch, (b ∈ X.ex ∨ X.s₀.heap.objs.size ≤ b) ∧ b ≠ X.env.locals ∧ (∀ x c, X.env.cells.lookup x = some c → c ≠ b) ∧ ∀ p ∈ X.pn ++ pins, p.1 ≠ b)
    (keep : ∀ b o, b ≠ X.env.locals → b ∉ X.fs → b ∉ ch → s.heap.get? b = some o → H b = none → h'.get? b = some o)
    (slot : ∀ b o, b ≠ X.env.locals → b ∈ X.fs → b ∉ ch → s.heap.get? b = some o → H b = none → ∃ sl, h'.get? b = some { o with slots := sl }) (free : ∀ b o, b ∉ ch → s.heap.get? b = some o → H b = none → H' b = none)
    (there : ∀ b o, b ∉ ch → s.heap.get? b = some o → ∃ o', h'.get? b = some o')
    (tups : ∀ b xs, H b = some (.tup xs) → H' b = some (.tup xs)) (frzs : ∀ b o u, H b = some (.frz o u) → H' b = some (.frz o u)) (tbls : ∀ b ps, H b = some (.tbl ps) → ∃ more, H' b = some (.tbl (ps ++ more)))
    (ns : ∀ m, s.heap.Ns X.env.locals m → h'.Ns X.env.locals m) (hok : HOk X.prog X.w H' h') (hg : AllBare g') :
    Inv X pins σ H' { s with heap := h', gens := g', drawn := d', toks := t' } := by
  have neL : ∀ b o, X.s₀.heap.get? b = some o → b ≠ X.env.locals := fun b o e => Nat.ne_of_lt (Nat.lt_of_lt_of_le (Heap.lt_size e) I.ok.above)
  have neC : ∀ b o, X.s₀.heap.get? b = some o → b ∉ X.ex → b ∉ ch := fun b o e hx hb => by
    rcases (hch b hb).1 with z | z
    · exact hx z
    · exact absurd (Nat.lt_of_lt_of_le (Heap.lt_size e) z) (Nat.lt_irrefl _)
  have cellK : ∀ x c, X.env.cells.lookup x = some c → ∀ v, s.heap.IsCell c v → h'.IsCell c v := fun x c e v ⟨o, ho, hd⟩ => by
    have nch : c ∉ ch := fun z => (hch c z).2.2.1 x c e rfl
    by_cases hc : c ∈ X.fs
    · obtain ⟨sl, q⟩ := slot c o (I.cne x c e) hc nch ho (I.freeC x c e)
      exact ⟨_, q, hd⟩
    · exact ⟨o, keep c o (I.cne x c e) hc nch ho (I.freeC x c e), hd⟩
  refine ⟨I.ok, I.os, hg, ⟨fun b o e n hb hx => ?_, fun b o e n hb hx => ?_, fun b o e n hx => ?_, fun b o e hx => ?_, fun b xs e => tups b xs (I.base.tups b xs e), fun b o xs e => frzs b o xs (I.base.frzs b o xs e), fun b ps e => ?_⟩, ?_, fun x c e => ?_, ?_, fun x c e => ?_, fun p hp => ?_, hok, I.len⟩
  · exact keep b o (neL b o e) hb (neC b o e hx) (I.base.keep b o e n hb hx) (I.base.free b o e n hx)
  · obtain ⟨sl, e1⟩ := I.base.slot b o e n hb hx
    obtain ⟨sl', e2⟩ := slot b _ (neL b o e) hb (neC b o e hx) e1 (I.base.free b o e n hx)
    exact ⟨sl', e2⟩
  · obtain ⟨o', e1⟩ := I.base.there b o e hx
    exact free b o' (neC b o e hx) e1 (I.base.free b o e n hx)
  · obtain ⟨o', e1⟩ := I.base.there b o e hx
    exact there b o' (neC b o e hx) e1
  · obtain ⟨m1, e1⟩ := I.base.tbls b ps e
    obtain ⟨m2, e2⟩ := tbls b _ e1
    exact ⟨m1 ++ m2, by rw [e2, Array.append_assoc]⟩
  · obtain ⟨m, hn, hl⟩ := I.loc
    refine ⟨m, ns m hn, fun i x v e1 e2 e3 => ?_⟩
    obtain ⟨u, r, l⟩ := hl i x v e1 e2 e3
    refine ⟨u, r, ?_⟩
    rcases l with l | ⟨k, c, e, z⟩
    · exact .inl l
    · exact .inr ⟨k, c, e, cellK x c e _ z⟩
  · obtain ⟨v, z⟩ := I.cell x c e
    exact ⟨v, cellK x c e v z⟩
  · obtain ⟨m, ⟨o, _, _, ho, _⟩, _⟩ := I.loc
    exact free _ o (fun z => (hch _ z).2.1 rfl) ho I.free
  · obtain ⟨v, o, ho, hd⟩ := I.cell x c e
    exact free c o (fun z => (hch c z).2.2.1 x c e rfl) ho (I.freeC x c e)
  · obtain ⟨e, n, ne, nf, d⟩ := I.pin p hp
    have nch : p.1 ∉ ch := fun z => (hch p.1 z).2.2.2 p hp rfl
    exact ⟨keep p.1 p.2 ne nf nch e n, free p.1 p.2 nch e n, ne, nf, d⟩
theorem Inv.un {t' : Nat} (I : Inv X pins σ H s) (u : Un X.fs [] H H' s.heap h') (hok : HOk X.prog X.w H' h') : Inv X pins σ H' { s with heap := h', toks := t' } := by
  obtain ⟨m, ⟨o, es, ep, ho, r⟩, _⟩ := id I.loc
  obtain ⟨sl, hL⟩ := u.any ho I.free (by simp)
  exact I.step (g' := s.gens) (d' := s.drawn) (ch := []) (fun _ z => nomatch z) (fun b o _ hb _ e n => u.keep b o e n hb (by simp)) (fun b o _ hb _ e n => u.slot b o e n hb (by simp)) (fun b o _ e n => u.free b o e n (by simp)) (fun b o _ e => u.there b o e (by simp)) u.tups u.frzs u.tbls (fun m' hm => by
    obtain ⟨o', es', ep', ho', r'⟩ := hm
    rw [ho] at ho'; cases ho'
    exact ⟨_, es', ep', hL, r'⟩) hok I.bare
theorem Inv.call {g' : Array GenState} {t' : Nat} {d' : Drawn} {ch : List Addr} (I : Inv X pins σ H s) (u : Un (frs X.stack) ch H H' s.heap h') (hok : HOk X.prog X.w H' h') (hg : AllBare g')
    (hch : ∀ b ∈ ch, (b ∈ X.ex ∨ X.s₀.heap.objs.size ≤ b) ∧ b ≠ X.env.locals ∧ (∀ x c, X.env.cells.lookup x = some c → c ≠ b) ∧ ∀ p ∈ X.pn ++ pins, p.1 ≠ b) :
    Inv X pins σ H' { s with heap := h', gens := g', drawn := d', toks := t' } := by
  obtain ⟨m, ⟨o, es, ep, ho, r⟩, _⟩ := id I.loc
  obtain ⟨sl, hL⟩ := u.any ho I.free fun z => (hch _ z).2.1 rfl
  exact I.step (ch := ch) hch (fun b o hL hb hc e n => u.keep b o e n (fun z => (List.mem_cons.mp (I.stkSub b z)).elim hL hb) hc) (fun b o _ _ hc e n => u.any e n hc) (fun b o hc e n => u.free b o e n hc) (fun b o hc e => u.there b o e hc) u.tups u.frzs u.tbls (fun m' hm => by
    obtain ⟨o', es', ep', ho', r'⟩ := hm
    rw [ho] at ho'; cases ho'
    exact ⟨_, es', ep', hL, r'⟩) hok hg
theorem Inv.turned {t' : Nat} {it : Addr} (I : Inv X pins σ H s) (k : ∀ b o, b ≠ it → s.heap.get? b = some o → h'.get? b = some o) (hn : H it = none) (hL : it ≠ X.env.locals)
    (h1 : it ∈ X.ex ∨ X.s₀.heap.objs.size ≤ it) (h2 : ∀ x c, X.env.cells.lookup x = some c → c ≠ it) (h3 : ∀ p ∈ X.pn ++ pins, p.1 ≠ it) : Inv X pins σ H { s with heap := h', toks := t' } := by
  have nit : ∀ b u, H b = some u → b ≠ it := fun b u e z => by rw [z, hn] at e; cases e
  refine I.step (g' := s.gens) (d' := s.drawn) (ch := [it]) (fun b hb => ?_) (fun b o _ _ hc e _ => k b o (fun z => hc (by simp [z])) e) (fun b o _ _ hc e _ => ⟨o.slots, k b o (fun z => hc (by simp [z])) e⟩) (fun _ _ _ _ n => n)
    (fun b o hc e => ⟨o, k b o (fun z => hc (by simp [z])) e⟩) (fun _ _ e => e) (fun _ _ _ e => e) (fun b ps e => ⟨#[], by rw [e]; simp⟩) (fun m hm => ?_) (fun b u e => ?_) I.bare
  · have e : b = it := by simpa using hb
    subst e
    exact ⟨h1, hL, h2, h3⟩
  · obtain ⟨o, es, ep, ho, r⟩ := hm
    exact ⟨o, es, ep, k _ o (Ne.symm hL) ho, r⟩
  · refine (I.hok b u e).stay (fun c v hc q => k c v ?_ q) (fun _ q => q) fun _ _ q => q
    rcases hc with z | z
    · rw [z]; exact nit b u e
    · exact nit c _ z
theorem Inv.tok (I : Inv X pins σ H s) (t : Nat) : Inv X pins σ H { s with toks := t } := I.un (h' := s.heap) (t' := t) Un.refl I.hok
theorem Inv.kept {t' : Nat} (I : Inv X pins σ H s) (k : ∀ b u, s.heap.get? b = some u → h'.get? b = some u) : Inv X pins σ H { s with heap := h', toks := t' } := I.un (Un.kept k) (I.hok.kept k)
theorem Inv.laid {a : Addr} {o : HO} {t' : Nat} (I : Inv X pins σ H s) (k : ∀ b u, s.heap.get? b = some u → h'.get? b = some u) (hp : s.heap.objs.size ≤ a) (new : ObjOk X.prog X.w (upd H a o) h' a o) :
    Inv X pins σ (upd H a o) { s with heap := h', toks := t' } := I.un (Un.laid k hp (I.hok.fresh hp)) (I.hok.laid k hp new)
theorem Inv.write {x e : Addr} {o : HO} {t' : Nat} (I : Inv X pins σ H s) (mu : Mut (H x)) (he : e = x ∨ H e = some (.own x)) (k : ∀ b u, b ≠ e → s.heap.get? b = some u → h'.get? b = some u) (heo : ∃ u, h'.get? e = some u)
    (new : ObjOk X.prog X.w (upd H x o) h' x o) : Inv X pins σ (upd H x o) { s with heap := h', toks := t' } := I.un (Un.write mu he k heo) (I.hok.write mu he k heo new)
theorem Inv.pins_of {pins' : List (Addr × Obj)} (I : Inv X pins σ H s) (h : ∀ p ∈ pins', s.heap.get? p.1 = some p.2 ∧ H p.1 = none ∧ p.1 ≠ X.env.locals ∧ p.1 ∉ X.fs ∧ ∀ v, p.2.data ≠ .cell v) : Inv X pins' σ H s :=
  ⟨I.ok, I.os, I.bare, I.base, I.loc, I.cell, I.free, I.freeC, fun p hp => (List.mem_append.mp hp).elim (fun z => I.pin p (List.mem_append_left _ z)) (h p), I.hok, I.len⟩
theorem nodup_ix {N : List Str} (hN : N.Nodup) {i j : Nat} {x : Str} (a : N[i]? = some x) (b : N[j]? = some x) : i = j := by
  obtain ⟨h1, e1⟩ := List.getElem?_eq_some_iff.mp a
  obtain ⟨h2, e2⟩ := List.getElem?_eq_some_iff.mp b
  exact (List.getElem_inj hN).mp (e1.trans e2.symm)
theorem store_ok2 {M : Model} {A : Around} {E : Value → Shared → Prop} {i : Nat} {x : Str} {v : V} {u : Value} {Q : Unit → Shared → Prop} (I : Inv X pins σ H s) (hN : X.N.Nodup) (hi : X.N[i]? = some x) (hx : Loc X.env.scope x) (r : RelV v u)
    (h : ∀ s', Inv X pins (σ.set i (some v)) H s' → (∃ a, Heap.SameBut a s.heap s'.heap ∧ (a = X.env.locals ∨ X.env.cells.lookup x = some a)) → Q () s') (hf : X.fn x = true ∨ X.env.scope.names.lookup x = some .local := by first | exact .inl rfl | exact .inr rfl | assumption) : wpAny M A (storeName X.env x u) Q E s := by
  obtain ⟨m, hn, hl⟩ := id I.loc
  have hcls : (X.env.scope.kind == .class || (X.env.scope.kind == .module && X.env.locals != X.env.globals)) = false := by rw [I.ok.kind]; rfl
  have hiσ : i < σ.length := by rw [I.len]; exact (List.getElem?_eq_some_iff.mp hi).1
  have cne := I.cne
  have tracked : ∀ {a : Addr} {h' : Heap}, (∃ o, s.heap.get? a = some o ∧ H a = none) → Heap.SameBut a s.heap h' → HOk X.prog X.w H h' := fun {a h'} ha hs b ob e => by
    obtain ⟨_, _, hfree⟩ := ha
    refine (I.hok b ob e).stay (fun c w' hc q => (hs.2 c ?_).trans q) (fun _ q => q) fun _ _ q => q
    rintro rfl
    rcases hc with rfl | hc
    · rw [hfree] at e; cases e
    · rw [hfree] at hc; cases hc
  rcases hx with hk | hk
  · refine wpAny_storeName_local hk hn (fun h' hn' hs => ?_) hcls
    obtain ⟨oL, _, _, hoL, _⟩ := id hn
    refine h _ ⟨I.ok, I.os, I.bare, ⟨fun b o e n hb hx => ?_, fun b o e n hb hx => ?_, I.base.free, fun b o e hx => ?_, I.base.tups, I.base.frzs, I.base.tbls⟩, ⟨_, hn', fun j y v' e1 e2 e3 => ?_⟩, fun y c e => ?_, I.free, I.freeC, fun p hp => ?_, tracked ⟨oL, hoL, I.free⟩ hs, by simpa using I.len⟩ ⟨_, hs, .inl rfl⟩
    · exact (hs.2 b (Nat.ne_of_lt (Nat.lt_of_lt_of_le (Heap.lt_size e) I.ok.above))).trans (I.base.keep b o e n hb hx)
    · obtain ⟨sl, e1⟩ := I.base.slot b o e n hb hx
      exact ⟨sl, (hs.2 b (Nat.ne_of_lt (Nat.lt_of_lt_of_le (Heap.lt_size e) I.ok.above))).trans e1⟩
    · obtain ⟨o', e1⟩ := I.base.there b o e hx
      exact ⟨o', (hs.2 b (Nat.ne_of_lt (Nat.lt_of_lt_of_le (Heap.lt_size e) I.ok.above))).trans e1⟩
    · by_cases hj : j = i
      · subst hj
        rw [hi] at e1; cases e1
        rw [List.getElem?_set_self hiσ] at e2
        cases e2
        exact ⟨u, r, .inl ⟨hk, by simp⟩⟩
      · rw [List.getElem?_set_ne (Ne.symm hj)] at e2
        obtain ⟨u', r', q⟩ := hl j y v' e1 e2 e3
        refine ⟨u', r', ?_⟩
        rcases q with ⟨k, e⟩ | ⟨k, c, e, z⟩
        · refine .inl ⟨k, ?_⟩
          have : y ≠ x := fun e => hj (nodup_ix hN e1 (e ▸ hi))
          simp [this, e]
        · exact .inr ⟨k, c, e, z.sameBut hs (cne y c e)⟩
    · obtain ⟨w', z⟩ := I.cell y c e
      exact ⟨w', z.sameBut hs (cne y c e)⟩
    · obtain ⟨e, n, ne, nf, d⟩ := I.pin p hp
      exact ⟨(hs.2 p.1 ne).trans e, n, ne, nf, d⟩
  · have hfn : X.fn x = true := by
      rcases hf with z | z
      · exact z
      · rw [z] at hk; cases hk
    obtain ⟨c, hc⟩ := I.ok.has x (.inl hk)
    obtain ⟨w', z⟩ := I.cell x c hc
    refine wpAny_storeName_cell I.ok.kind hk hc z (fun h' hc' hs => ?_)
    obtain ⟨oc, hoc, hocd⟩ := id z
    refine h { s with heap := h' } ⟨I.ok, I.os, I.bare, ⟨fun b o e n hb hx => ?_, fun b o e n hb hx => ?_, I.base.free, fun b o e hx => ?_, I.base.tups, I.base.frzs, I.base.tbls⟩, ⟨m, hn.sameBut hs (Ne.symm (cne x c hc)), fun j y v' e1 e2 e3 => ?_⟩, fun y c' e => ?_, I.free, I.freeC, fun p hp => ?_, tracked ⟨oc, hoc, I.freeC x c hc⟩ hs, by simpa using I.len⟩ ⟨c, hs, .inr hc⟩
    · exact (hs.2 b (Nat.ne_of_lt (Nat.lt_of_lt_of_le (Heap.lt_size e) (I.ok.cab x c hfn hc)))).trans (I.base.keep b o e n hb hx)
    · obtain ⟨sl, e1⟩ := I.base.slot b o e n hb hx
      exact ⟨sl, (hs.2 b (Nat.ne_of_lt (Nat.lt_of_lt_of_le (Heap.lt_size e) (I.ok.cab x c hfn hc)))).trans e1⟩
    · obtain ⟨o', e1⟩ := I.base.there b o e hx
      exact ⟨o', (hs.2 b (Nat.ne_of_lt (Nat.lt_of_lt_of_le (Heap.lt_size e) (I.ok.cab x c hfn hc)))).trans e1⟩
    · by_cases hj : j = i
      · subst hj
        rw [hi] at e1; cases e1
        rw [List.getElem?_set_self hiσ] at e2
        cases e2
        exact ⟨u, r, .inr ⟨.inl hk, c, hc, hc'⟩⟩
      · rw [List.getElem?_set_ne (Ne.symm hj)] at e2
        obtain ⟨u', r', q⟩ := hl j y v' e1 e2 e3
        refine ⟨u', r', ?_⟩
        rcases q with q | ⟨k, c', e, z'⟩
        · exact .inl q
        · refine .inr ⟨k, c', e, z'.sameBut hs ?_⟩
          rintro rfl
          exact hj (nodup_ix hN e1 (I.ok.inj _ _ _ e hc ▸ hi))
    · by_cases hcc : c' = c
      · subst hcc; exact ⟨_, hc'⟩
      · obtain ⟨w2, z2⟩ := I.cell y c' e
        exact ⟨w2, z2.sameBut hs hcc⟩
    · obtain ⟨e, n, ne, nf, d⟩ := I.pin p hp
      refine ⟨(hs.2 p.1 ?_).trans e, n, ne, nf, d⟩
      intro q
      rw [q, hoc] at e
      have q' : oc = p.2 := Option.some.inj e
      exact d w' (by rw [← q']; exact hocd)
theorem store_ok {M : Model} {A : Around} {E : Value → Shared → Prop} {i : Nat} {x : Str} {v : V} {u : Value} {Q : Unit → Shared → Prop} (I : Inv X pins σ H s) (hN : X.N.Nodup) (hi : X.N[i]? = some x) (hx : Loc X.env.scope x) (r : RelV v u)
    (h : ∀ s', Inv X pins (σ.set i (some v)) H s' → Q () s') (hf : X.fn x = true ∨ X.env.scope.names.lookup x = some .local := by first | exact .inl rfl | exact .inr rfl | assumption) : wpAny M A (storeName X.env x u) Q E s :=
  store_ok2 I hN hi hx r (fun s' I' _ => h s' I') hf
theorem Inv.call' {s' : Shared} {ch : List Addr} (I : Inv X pins σ H s) (ho : s'.os = s.os) (u : Un (frs X.stack) ch H H' s.heap s'.heap) (hok : HOk X.prog X.w H' s'.heap) (hg : AllBare s'.gens)
    (hch : ∀ b ∈ ch, (b ∈ X.ex ∨ X.s₀.heap.objs.size ≤ b) ∧ b ≠ X.env.locals ∧ (∀ x c, X.env.cells.lookup x = some c → c ≠ b) ∧ ∀ p ∈ X.pn ++ pins, p.1 ≠ b) : Inv X pins σ H' s' := by
  obtain ⟨h', g', d', t', o'⟩ := s'
  have e : o' = s.os := ho
  subst e
  exact I.call (g' := g') (t' := t') (d' := d') u hok hg hch
end
abbrev XK := Value → Option Addr → Hp → Prop
abbrev St := List (Option V)
abbrev VK := V → Hp → Prop
abbrev TE := St → Hp → VK → Prop
abbrev TT := St → Hp → (Bool → Hp → Prop) → Prop
abbrev TA := St → Hp → (List V → Hp → Prop) → Prop
structure Ends where
  nx : St → Hp → Prop
  rt : VK
  bk : St → Hp → Prop := fun _ _ => False
  ct : St → Hp → Prop := fun _ _ => False
abbrev TS := Ends → St → Hp → Prop
def EP (X : Cx) (pins : List (Addr × Obj)) (σ : St) (Q : VK) (u : Value) (s' : Shared) : Prop := ∃ v H', Inv X pins σ H' s' ∧ RelV v u ∧ Q v H'
def TP (X : Cx) (pins : List (Addr × Obj)) (σ : St) (Q : Bool → Hp → Prop) (b : Bool) (s' : Shared) : Prop := ∃ H', Inv X pins σ H' s' ∧ Q b H'
def AP (X : Cx) (pins : List (Addr × Obj)) (σ : St) (Q : List V → Hp → Prop) (us : List Value) (s' : Shared) : Prop := ∃ vs H', Inv X pins σ H' s' ∧ Vals vs us ∧ Q vs H'
def SP (X : Cx) (pins : List (Addr × Obj)) (D : Ends) (f : Flow) (s' : Shared) : Prop :=
  match f with
  | .next => ∃ σ' H', Inv X pins σ' H' s' ∧ D.nx σ' H'
  | .brk => ∃ σ' H', Inv X pins σ' H' s' ∧ D.bk σ' H'
  | .cont => ∃ σ' H', Inv X pins σ' H' s' ∧ D.ct σ' H'
  | .ret u => ∃ v σ' H', Inv X pins σ' H' s' ∧ RelV v u ∧ D.rt v H'
def PE (X : Cx) (e : Expr) (t : TE) : Prop :=
  ∀ (pins : List (Addr × Obj)) (s : Shared) (σ : St) (H : Hp) (Q : VK), Inv X pins σ H s → t σ H Q → wpAny (model X.prog X.w) X.A (eval e X.env) (EP X pins σ Q) X.xe s
def PT (X : Cx) (e : Expr) (t : TT) : Prop :=
  ∀ (pins : List (Addr × Obj)) (s : Shared) (σ : St) (H : Hp) (Q : Bool → Hp → Prop), Inv X pins σ H s → t σ H Q → wpAny (model X.prog X.w) X.A (isTrue e X.env (eval e X.env)) (TP X pins σ Q) X.xe s
def PW (X : Cx) (e : Expr) (t : TT) : Prop :=
  ∀ (whole : Sem Value) (pins : List (Addr × Obj)) (s : Shared) (σ : St) (H : Hp) (Q : Bool → Hp → Prop), Inv X pins σ H s → t σ H Q → wpAny (model X.prog X.w) X.A (isTrue e X.env whole) (TP X pins σ Q) X.xe s
theorem PW.pt {X : Cx} {e : Expr} {t : TT} (h : PW X e t) : PT X e t := h _
def PA (X : Cx) (es : List Expr) (t : TA) : Prop :=
  ∀ (pos : Pos) (pins : List (Addr × Obj)) (s : Shared) (σ : St) (H : Hp) (Q : List V → Hp → Prop), Inv X pins σ H s → t σ H Q → wpAny (model X.prog X.w) X.A (spliced (backTo pos (starEach es X.env))) (AP X pins σ Q) X.xe s
def PS (X : Cx) (st : Stmt) (t : TS) : Prop :=
  ∀ (pins : List (Addr × Obj)) (s : Shared) (σ : St) (H : Hp) (D : Ends), Inv X pins σ H s → t D σ H → wpAny (model X.prog X.w) X.A (exec st X.env) (SP X pins D) X.xe s
def PSs (X : Cx) (st : List Stmt) (t : TS) : Prop :=
  ∀ (pins : List (Addr × Obj)) (s : Shared) (σ : St) (H : Hp) (D : Ends), Inv X pins σ H s → t D σ H → wpAny (model X.prog X.w) X.A (execs st X.env) (SP X pins D) X.xe s
theorem thn {α : Type} {t : Sem α} {Q Q' : α → Shared → Prop} {M : Model} {A : Around} {E : Value → Shared → Prop} {s : Shared} (h : wpAny M A t Q E s) (hQ : ∀ a s, Q a s → Q' a s) : wpAny M A t Q' E s := wpAny_mono h hQ fun _ _ x => x
end L2
namespace L2
open PySem PySem.Spec PyProof.Rows
section
variable {X : Cx}
def tVar (i : Nat) : TE := fun σ H Q => ∃ v, σ[i]? = some (some v) ∧ Q v H
def tC (v : V) : TE := fun _ H Q => Q v H
theorem pe_var {i : Nat} {x : Str} {pos : Pos} (hN : X.N[i]? = some x) (hv : Vis X.env.scope x) (hd : (x == ("__debug__" : Str)) = false := by decide) (hcd : (x == ("__classdict__" : Str)) = false := by decide) : PE X (.Name x pos) (tVar i) := by
  intro pins s σ H Q I h
  obtain ⟨v, e, h⟩ := h
  obtain ⟨m, hn, hl⟩ := I.loc
  obtain ⟨u, r, l⟩ := hl i x v hN e hv
  have fin : EP X pins σ Q u s := ⟨v, H, I, r, h⟩
  rcases l with ⟨hk, hm⟩ | ⟨hk, c, hc, hcell⟩
  · exact wpAny_Name (wpAny_loadName_local I.ok.kind hk hn hm fin) hd
  · rcases hk with hk | hk
    · exact wpAny_Name (wpAny_loadName_cell I.ok.kind hk hc hcell fin) hd
    · exact wpAny_Name (wpAny_loadName_free I.ok.kind hk hc hcell fin hcd) hd
theorem pe_int {i j pos} : PE X (.Constant (.int i) j pos) (tC (.int i)) := fun _ _ _ H _ I h => wpAny_Constant_int ⟨.int i, H, I.tok _, ⟨_, rfl⟩, h⟩
theorem pe_bl {b j pos} : PE X (.Constant (.bool b) j pos) (tC (.bl b)) := fun _ _ _ H _ I h => Constant_bool ⟨.bl b, H, I, rfl, h⟩
theorem pe_non {j pos} : PE X (.Constant .none j pos) (tC .non) := fun _ _ _ H _ I h => Constant_none ⟨.non, H, I, rfl, h⟩
theorem pe_str {x j pos} : PE X (.Constant (.str x) j pos) (tC (.str x)) := fun _ _ _ H _ I h => Calls.Constant_str ⟨.str x, H, I.tok _, ⟨_, rfl⟩, h⟩
def Gl (X : Cx) (x : Str) : Prop := X.env.kindOf x = some .globalImplicit
theorem ld_glob {E : Value → Shared → Prop} {pins : List (Addr × Obj)} {s : Shared} {σ : St} {H : Hp} {x : Str} {u : Value} {pos : Pos} {Q : Value → Shared → Prop} (I : Inv X pins σ H s) (hg : Gl X x) (hm : X.mg x = some u) (h : Q u s)
    (hd : (x == ("__debug__" : Str)) = false := by decide) : wpAny (model X.prog X.w) X.A (eval (.Name x pos) X.env) Q E s :=
  Calls.Name_function_global I.ok.kind hg (Calls.loadGlobal_global (by rw [I.ok.glob]; exact I.mod.glob.keeps I.bk) hm h) hd
theorem ld_blt {E : Value → Shared → Prop} {pins : List (Addr × Obj)} {s : Shared} {σ : St} {H : Hp} {x : Str} {u : Value} {pos : Pos} {Q : Value → Shared → Prop} (I : Inv X pins σ H s) (hg : Gl X x) (hm : X.mg x = none) (hv : bootBuiltins x = some u) (h : Q u s)
    (hn : x ≠ "__name__" := by decide) (hd : (x == ("__debug__" : Str)) = false := by decide) : wpAny (model X.prog X.w) X.A (eval (.Name x pos) X.env) Q E s := by
  obtain ⟨mb, h1, h2⟩ := I.mod.blt
  exact Calls.Name_function_global I.ok.kind hg (Calls.loadGlobal_builtin (by rw [I.ok.glob]; exact I.mod.glob.keeps I.bk) hm (by rw [I.ok.blt]; exact h1.keeps I.bk) ((h2 x hn).trans hv) h) hd
theorem pe_glob {x : Str} {v : V} {u : Value} {pos : Pos} (hg : Gl X x) (hm : X.mg x = some u) (r : RelV v u) (hd : (x == ("__debug__" : Str)) = false := by decide) : PE X (.Name x pos) (tC v) :=
  fun _ _ _ H _ I h => ld_glob I hg hm ⟨v, H, I, r, h⟩ hd
variable {a b : Expr} {ta tb : TE} {pos : Pos}
def tB (t : TE) : TT := fun σ H Q => t σ H fun x H1 => ∃ c, x = .bl c ∧ Q c H1
theorem pt_val {e : Expr} {t : TE} (h : PE X e t) (he : ∀ whole, isTrue e X.env whole = (do let v ← whole; standAt e.pos; holding [v] (truthy v)) := by intro _; rfl) : PT X e (tB t) := by
  intro pins s σ H Q I hw
  refine isTrue_plain (thn (h pins s σ H _ I hw) fun v s1 ⟨x, H1, I1, r1, q1⟩ => ?_) (he _)
  obtain ⟨d, rfl, q⟩ := q1
  cases r1
  exact wpAny_truthy_bool ⟨H1, I1, q⟩
variable {tA tB' : TT} {rest : List Expr}
def tAnd (t u : TT) : TT := fun σ H Q => t σ H fun c H1 => if c = true then u σ H1 Q else Q false H1
def tOr (t u : TT) : TT := fun σ H Q => t σ H fun c H1 => if c = true then Q true H1 else u σ H1 Q
def tNot (t : TT) : TT := fun σ H Q => t σ H fun c H1 => Q (!c) H1
theorem pw_and1 (ha : PT X a tA) : PW X (.BoolOp .And [a] pos) tA := by
  intro wh pins s σ H Q I h
  refine isTrue_and (thn (ha pins s σ H Q I h) fun c s1 e => ?_)
  cases c with
  | true => exact isTrue_and_nil e
  | false => exact e
theorem pw_or1 (ha : PT X a tA) : PW X (.BoolOp .Or [a] pos) tA := by
  intro wh pins s σ H Q I h
  refine isTrue_or (thn (ha pins s σ H Q I h) fun c s1 e => ?_)
  cases c with
  | false => exact isTrue_or_nil e
  | true => exact e
theorem pw_and (ha : PT X a tA) (hb : PW X (.BoolOp .And (b :: rest) pos) tB') : PW X (.BoolOp .And (a :: b :: rest) pos) (tAnd tA tB') := by
  intro wh pins s σ H Q I h
  refine isTrue_and (thn (ha pins s σ H _ I h) fun c s1 ⟨H1, I1, q1⟩ => ?_)
  cases c with
  | true => exact hb wh pins s1 σ H1 Q I1 q1
  | false => exact ⟨H1, I1, q1⟩
theorem pw_or (ha : PT X a tA) (hb : PW X (.BoolOp .Or (b :: rest) pos) tB') : PW X (.BoolOp .Or (a :: b :: rest) pos) (tOr tA tB') := by
  intro wh pins s σ H Q I h
  refine isTrue_or (thn (ha pins s σ H _ I h) fun c s1 ⟨H1, I1, q1⟩ => ?_)
  cases c with
  | true => exact ⟨H1, I1, q1⟩
  | false => exact hb wh pins s1 σ H1 Q I1 q1
def tAndV (ta tb : TE) : TE := fun σ H Q => ta σ H fun x H1 => ∃ c, x = .bl c ∧ if c = true then tb σ H1 Q else Q (.bl false) H1
def tOrV (ta tb : TE) : TE := fun σ H Q => ta σ H fun x H1 => ∃ c, x = .bl c ∧ if c = true then Q (.bl true) H1 else tb σ H1 Q
def tNotV (ta : TE) : TE := fun σ H Q => ta σ H fun x H1 => ∃ c, x = .bl c ∧ Q (.bl (!c)) H1
def tIf (t : TT) (ta tb : TE) : TE := fun σ H Q => t σ H fun c H1 => if c = true then ta σ H1 Q else tb σ H1 Q
theorem pe_ifExp {c : Expr} (hc : PT X c tA) (ha : PE X a ta) (hb : PE X b tb) : PE X (.IfExp c a b pos) (tIf tA ta tb) := by
  intro pins s σ H Q I h
  refine wpAny_IfExp (thn (hc pins s σ H _ I h) fun d s1 ⟨H1, I1, q1⟩ => ?_)
  cases d with
  | true => exact ha pins s1 σ H1 Q I1 q1
  | false => exact hb pins s1 σ H1 Q I1 q1
end
end L2
namespace L2
open PySem PySem.Spec PyProof.Rows
def SqL (K : PySem.W.Frag) (H : Hp) (a : Addr) (xs : List V) : Prop :=
  Rd H a (.lst xs) ∨
    ∃ (o : Obj) (its : Array Value) (n : Nat), K.lookup a = some o ∧ o.cls = .type "list" ∧ o.dict = none ∧ o.data = .seq its n ∧ its.size ≤ sizeLine ∧ Vals xs its.toList
def SqT (K : PySem.W.Frag) (H : Hp) (a : Addr) (xs : List V) : Prop :=
  Rd H a (.tup xs) ∨
    ∃ (o : Obj) (its : Array Value) (n : Nat), K.lookup a = some o ∧ o.cls = .type "tuple" ∧ o.data = .seq its n ∧ its.size ≤ sizeLine ∧ Vals xs its.toList
def absV : Value → Option V
  | .none => some .non
  | .bool b => some (.bl b)
  | .int i _ => some (.int i)
  | .str x _ => some (.str x)
  | .bytes b _ => some (.byt b)
  | .float b _ => some (.flt b)
  | .ref a => some (.ref a)
  | .type n => some (.ty n)
  | _ => none
theorem RelV.abs {x : V} {u : Value} (r : RelV x u) : absV u = some x := by
  cases x with
  | non => cases r; rfl
  | bl _ => cases r; rfl
  | int _ => obtain ⟨t, rfl⟩ := r; rfl
  | str _ => obtain ⟨t, rfl⟩ := r; rfl
  | byt _ => obtain ⟨t, rfl⟩ := r; rfl
  | flt _ => obtain ⟨t, rfl⟩ := r; rfl
  | ref _ => cases r; rfl
  | ty _ => cases r; rfl
theorem RelV.inj {x y : V} {u : Value} (r : RelV x u) (q : RelV y u) : x = y := Option.some.inj (r.abs.symm.trans q.abs)
theorem Vals.inj : ∀ {xs ys : List V} {us : List Value}, Vals xs us → Vals ys us → xs = ys
  | _, _, _, .nil, .nil => rfl
  | _, _, _, .cons r t, .cons r' t' => by rw [r.inj r', Vals.inj t t']
section
variable {X : Cx} {pins : List (Addr × Obj)} {σ : St} {H : Hp} {s : Shared} {a : Addr} {xs ys : List V}
theorem SqL.of {K : PySem.W.Frag} (h : H a = some (.lst xs)) : SqL K H a xs := .inl (.inl h)
theorem SqT.of {K : PySem.W.Frag} (h : H a = some (.tup xs)) : SqT K H a xs := .inl (.inl h)
theorem Inv.list (I : Inv X pins σ H s) (h : SqL X.K H a xs) : ∃ its : List Value, Vals xs its ∧ PlainL s.heap a its.toArray ∧ xs.length ≤ sizeLine := by
  rcases h with h | ⟨o, its, n, hk, hc, hd, hs, hz, r⟩
  · obtain ⟨z, its, n, r, e⟩ := h.ok I.hok
    exact ⟨its, r, ⟨_, n, e, rfl, rfl, rfl⟩, z⟩
  · refine ⟨its.toList, r, ⟨o, n, I.kIn a o hk, hc, hd, by simpa using hs⟩, ?_⟩
    have e := r.length
    simp only [Array.length_toList] at e
    omega
theorem Inv.tuple (I : Inv X pins σ H s) (h : SqT X.K H a xs) : ∃ its : List Value, Vals xs its ∧ IsTup s.heap a its.toArray ∧ xs.length ≤ sizeLine := by
  rcases h with h | ⟨o, its, n, hk, hc, hs, hz, r⟩
  · obtain ⟨z, its, r, p⟩ := h.ok I.hok
    exact ⟨its, r, p, z⟩
  · refine ⟨its.toList, r, ⟨o, I.kIn a o hk, hc, n, by simpa using hs⟩, ?_⟩
    have e := r.length
    simp only [Array.length_toList] at e
    omega
theorem Inv.list_inj (I : Inv X pins σ H s) (h : SqL X.K H a xs) (h' : SqL X.K H a ys) : xs = ys := by
  obtain ⟨its, r, ⟨o, n, e, _, _, d⟩, _⟩ := I.list h
  obtain ⟨its', r', ⟨o', n', e', _, _, d'⟩, _⟩ := I.list h'
  rw [e] at e'; cases e'
  rw [d] at d'
  injection d' with d1 _
  have : its = its' := by simpa using congrArg Array.toList d1
  subst this
  exact r.inj r'
theorem Inv.tuple_inj (I : Inv X pins σ H s) (h : SqT X.K H a xs) (h' : SqT X.K H a ys) : xs = ys := by
  obtain ⟨its, r, ⟨o, e, _, n, d⟩, _⟩ := I.tuple h
  obtain ⟨its', r', ⟨o', e', _, n', d'⟩, _⟩ := I.tuple h'
  rw [e] at e'; cases e'
  rw [d] at d'
  injection d' with d1 _
  have : its = its' := by simpa using congrArg Array.toList d1
  subst this
  exact r.inj r'
end
abbrev Cx.wish (X : Cx) (E : Value → Shared → Prop) : Cx := { X with xe := E }
abbrev Cx.nox (X : Cx) : Cx := X.wish fun _ _ => False
theorem Cx.Ok.wish {X : Cx} (ok : X.Ok) (E : Value → Shared → Prop) : (X.wish E).Ok :=
  ⟨ok.mod, ok.kind, ok.glob, ok.blt, ok.above, ok.inj, ok.has, ok.cab, ok.hd, ok.frames, ok.stk, ok.exf, ok.bs, ok.bsz, ok.noex, ok.exfs, ok.funs, ok.frf⟩
theorem Cx.Ok.unwish {X : Cx} {E : Value → Shared → Prop} (ok : (X.wish E).Ok) : X.Ok :=
  ⟨ok.mod, ok.kind, ok.glob, ok.blt, ok.above, ok.inj, ok.has, ok.cab, ok.hd, ok.frames, ok.stk, ok.exf, ok.bs, ok.bsz, ok.noex, ok.exfs, ok.funs, ok.frf⟩
section
variable {X : Cx} {pins : List (Addr × Obj)} {σ : St} {H : Hp} {s : Shared} {E : Value → Shared → Prop}
theorem Inv.wish (I : Inv X pins σ H s) (E : Value → Shared → Prop) : Inv (X.wish E) pins σ H s := ⟨I.ok.wish E, I.os, I.bare, I.base, I.loc, I.cell, I.free, I.freeC, I.pin, I.hok, I.len⟩
theorem Inv.unwish (I : Inv (X.wish E) pins σ H s) : Inv X pins σ H s := ⟨I.ok.unwish, I.os, I.bare, I.base, I.loc, I.cell, I.free, I.freeC, I.pin, I.hok, I.len⟩
theorem SP.unwish {D : Ends} {f : Flow} {s' : Shared} (h : SP (X.wish E) pins D f s') : SP X pins D f s' := by
  cases f with
  | next => obtain ⟨σ', H', I, q⟩ := h; exact ⟨σ', H', I.unwish, q⟩
  | brk => obtain ⟨σ', H', I, q⟩ := h; exact ⟨σ', H', I.unwish, q⟩
  | cont => obtain ⟨σ', H', I, q⟩ := h; exact ⟨σ', H', I.unwish, q⟩
  | ret u => obtain ⟨v, σ', H', I, r, q⟩ := h; exact ⟨v, σ', H', I.unwish, r, q⟩
theorem PE.nox {e : Expr} {t : TE} (h : PE X.nox e t) : PE X e t := fun pins s σ H Q I hw =>
  wpAny_mono (h pins s σ H Q (I.wish _) hw) (fun _ _ ⟨v, H', I', r, q⟩ => ⟨v, H', I'.unwish, r, q⟩) fun _ _ z => False.elim z
theorem PT.nox {e : Expr} {t : TT} (h : PT X.nox e t) : PT X e t := fun pins s σ H Q I hw =>
  wpAny_mono (h pins s σ H Q (I.wish _) hw) (fun _ _ ⟨H', I', q⟩ => ⟨H', I'.unwish, q⟩) fun _ _ z => False.elim z
theorem PSs.nox {st : List Stmt} {t : TS} (h : PSs X.nox st t) : PSs X st t := fun pins s σ H D I hw =>
  wpAny_mono (h pins s σ H D (I.wish _) hw) (fun _ _ q => q.unwish) fun _ _ z => False.elim z
end
section
variable {X : Cx} {st : Stmt} {rest : List Stmt} {t u : TS} {e : Expr} {te : TE} {pos : Pos}
def tNext : TS := fun D σ H => D.nx σ H
def tSeq (t u : TS) : TS := fun D σ H => t { D with nx := u D } σ H
theorem pss_nil : PSs X [] tNext := fun _ _ σ H _ I h => wpAny_execs_nil ⟨σ, H, I, h⟩
theorem pss_cons (h1 : PS X st t) (h2 : PSs X rest u) : PSs X (st :: rest) (tSeq t u) := by
  intro pins s σ H D I h
  refine wpAny_execs_cons (thn (h1 pins s σ H { D with nx := u D } I h) fun f s1 q => ?_)
  cases f with
  | next =>
    obtain ⟨σ', H', I', q⟩ := q
    exact h2 pins s1 σ' H' D I' q
  | ret v => exact q
  | brk => exact q
  | cont => exact q
theorem pss_one (h1 : PS X st t) : PSs X [st] t := by
  intro pins s σ H D I h
  refine wpAny_execs_cons (thn (h1 pins s σ H D I h) fun f s1 q => ?_)
  cases f with
  | next => exact wpAny_execs_nil q
  | ret v => exact q
  | brk => exact q
  | cont => exact q
theorem Inv.quiet {pins : List (Addr × Obj)} {σ : St} {H : Hp} {s : Shared} (I : Inv X pins σ H s) : interactive X.env = false := by simp [interactive, I.ok.kind]
def tDrop (te : TE) : TS := fun D σ H => te σ H fun _ H1 => D.nx σ H1
theorem ps_expr (he : PE X e te) (hs : swapsWith e none pos.line X.env = pure false := by rfl) : PS X (.Expr e pos) (tDrop te) := by
  intro pins s σ H D I h
  exact wpAny_Expr_any (thn (he pins s σ H _ I h) fun v s1 ⟨x, H1, I1, r1, q1⟩ => ⟨σ, H1, I1, q1⟩) I.quiet hs
def tRet (te : TE) : TS := fun D σ H => te σ H D.rt
theorem ps_ret (he : PE X e te) : PS X (.Return (some e) pos) (tRet te) := by
  intro pins s σ H D I h
  exact wpAny_Return_some (thn (he pins s σ H _ I h) fun v s1 ⟨x, H1, I1, r1, q1⟩ => ⟨x, σ, H1, I1, r1, q1⟩)
def tRetN : TS := fun D _ H => D.rt .non H
def tIfS (c : TT) (t u : TS) : TS := fun D σ H => c σ H fun b H1 => if b = true then t D σ H1 else u D σ H1
theorem ps_if {c : Expr} {a b : List Stmt} {tc : TT} (hc : PT X c tc) (ha : PSs X a t) (hb : PSs X b u) : PS X (.If c a b pos) (tIfS tc t u) := by
  intro pins s σ H D I h
  refine wpAny_If (thn (hc pins s σ H _ I h) fun d s1 ⟨H1, I1, q1⟩ => ?_)
  cases d with
  | true => exact ha pins s1 σ H1 D I1 q1
  | false => exact hb pins s1 σ H1 D I1 q1
def tNever : TS := fun _ _ _ => False
theorem ps_never : PS X st tNever := fun _ _ _ _ _ _ h => h.elim
end
abbrev TG := V → St → Hp → (St → Hp → Prop) → Prop
abbrev TGs := List V → St → Hp → (St → Hp → Prop) → Prop
def PG (X : Cx) (target : Expr) (t : TG) : Prop :=
  ∀ (pins : List (Addr × Obj)) (s : Shared) (σ : St) (H : Hp) (v : V) (u : Value) (Q : St → Hp → Prop), Inv X pins σ H s → RelV v u → t v σ H Q →
    wpAny (model X.prog X.w) X.A (assign target X.env u) (fun _ s' => ∃ σ' H', Inv X pins σ' H' s' ∧ Q σ' H') X.xe s
def PGs (X : Cx) (ts : List Expr) (t : TGs) : Prop :=
  ∀ (pins : List (Addr × Obj)) (s : Shared) (σ : St) (H : Hp) (vs : List V) (us : List Value) (Q : St → Hp → Prop), Inv X pins σ H s → Vals vs us → t vs σ H Q →
    wpAny (model X.prog X.w) X.A (assignInOrder ((assignEach ts X.env).map (·.2)) us) (fun _ s' => ∃ σ' H', Inv X pins σ' H' s' ∧ Q σ' H') X.xe s
abbrev TSet := V → V → V → Hp → (Hp → Prop) → Prop
section
variable {X : Cx} {pos : Pos}
def gName (i : Nat) : TG := fun v σ H Q => Q (σ.set i (some v)) H
theorem pg_name {i : Nat} {x : Str} (hN : X.N.Nodup) (hi : X.N[i]? = some x) (hx : Loc X.env.scope x) (hf : X.fn x = true ∨ X.env.scope.names.lookup x = some .local := by first | exact .inl rfl | exact .inr rfl | assumption) : PG X (.Name x pos) (gName i) := by
  intro pins s σ H v u Q I r h
  exact wpAny_assign_Name (store_ok I hN hi hx r (fun s' I' => ⟨_, H, I', h⟩) hf)
def gNil : TGs := fun vs σ H Q => vs = [] ∧ Q σ H
def gCons (t : TG) (u : TGs) : TGs := fun vs σ H Q => ∃ v r, vs = v :: r ∧ t v σ H fun σ' H' => u r σ' H' Q
theorem pgs_nil : PGs X [] gNil := by
  intro pins s σ H vs us Q I r h
  obtain ⟨e, h⟩ := h
  subst e
  cases r
  exact assignInOrder_nil ⟨σ, H, I, h⟩
theorem pgs_cons {e : Expr} {es : List Expr} {t : TG} {u : TGs} (h1 : PG X e t) (h2 : PGs X es u)
    (hs : (assignEach (e :: es) X.env).map (·.2) = assign e X.env :: (assignEach es X.env).map (·.2) := by rfl) : PGs X (e :: es) (gCons t u) := by
  intro pins s σ H vs us Q I r h
  obtain ⟨v, vr, e1, h⟩ := h
  subst e1
  cases r with
  | cons r rr =>
    rw [hs]
    refine assignInOrder_cons (thn (h1 pins s σ H _ _ _ I r h) fun _ s1 ⟨σ1, H1, I1, q1⟩ => ?_)
    exact h2 pins s1 σ1 H1 _ _ Q I1 rr q1
def gTup (K : PySem.W.Frag) (n : Nat) (t : TGs) : TG := fun v σ H Q => ∃ a xs, v = .ref a ∧ SqT K H a xs ∧ xs.length = n ∧ t xs σ H Q
theorem pg_tup {es : List Expr} {k : Nat} {t : TGs} {n : Nat} (hc : X.calm = true) (h : PGs X es t)
    (hn : (assignEach es X.env).length = n := by rfl) (hst : (assignEach es X.env).findIdx? (·.1) = none := by rfl) : PG X (.Tuple es k pos) (gTup X.K n t) := by
  intro pins s σ H v u Q I r hw
  obtain ⟨a, xs, e1, hq, hl, hw⟩ := hw
  subst e1
  cases r
  obtain ⟨its, rv, ht, hz⟩ := I.tuple hq
  refine assign_Tuple_tuple (I.ok.hd hc) ht (by simp [hn, ← hl, rv.length]) hst fun h' hx => ?_
  have I1 : Inv X pins σ H { s with heap := h' } := I.kept (t' := s.toks) fun b o e => hx b o (Nat.ne_of_lt (Heap.lt_size e)) e
  exact h pins _ σ H xs _ Q I1 (by simpa using rv) hw
def gSub (to ti : TE) (t : TSet) : TG := fun v σ H Q => to σ H fun o H1 => ti σ H1 fun i H2 => t o i v H2 fun H3 => Q σ H3
def tAsg (te : TE) (g : TG) : TS := fun D σ H => te σ H fun x H1 => g x σ H1 D.nx
theorem ps_set {i : Nat} {x : Str} {e : Expr} {te : TE} {pos' : Pos} (hN : X.N.Nodup) (hi : X.N[i]? = some x) (hx : Loc X.env.scope x) (he : PE X e te) (hs : swapsWith e (some (.Name x pos')) pos.line X.env = pure false := by rfl) (hf : X.fn x = true ∨ X.env.scope.names.lookup x = some .local := by first | exact .inl rfl | exact .inr rfl | assumption) :
    PS X (.Assign [.Name x pos'] e pos) (tAsg te (gName i)) := by
  intro pins s σ H D I h
  refine wpAny_Assign_Name (thn (he pins s σ H _ I h) fun v s1 ⟨y, H1, I1, r1, q1⟩ => ?_) hs
  exact store_ok I1 hN hi hx r1 (fun s2 I2 => ⟨_, H1, I2, q1⟩) hf
end
section
variable {X : Cx} {pos : Pos}
def tWhile (c : TT) (tb : TS) : TS := fun D σ H => ∃ W : Nat → St → Hp → Prop, (∃ m, W m σ H) ∧ ∀ m σ H, W m σ H →
  c σ H fun b H1 => if b = true then ∃ N : St → Hp → Prop, (∀ σ' H', N σ' H' → ∃ m', m' < m ∧ W m' σ' H') ∧ tb { D with nx := N, ct := N, bk := D.nx } σ H1 else D.nx σ H1
theorem ps_while {c : Expr} {body : List Stmt} {tc : TT} {tb : TS} (hp : PassesOwn (model X.prog X.w) X.A X.env X.xe) (hc : PT X c tc) (hb : PSs X body tb) : PS X (.While c body [] pos) (tWhile tc tb) := by
  intro pins s σ H D I h
  obtain ⟨W, ⟨m0, w0⟩, turn⟩ := h
  refine wpAny_While (codeAny_whileLoop (fun n s' => ∃ σ' H', Inv X pins σ' H' s' ∧ W n σ' H') ?_ m0 ⟨σ, H, I, w0⟩)
  rintro n s1 ⟨σ1, H1, I1, w1⟩
  refine wpAny_passesOwn hp (thn (hc pins s1 σ1 H1 _ I1 (turn n σ1 H1 w1)) fun b s2 ⟨H2, I2, q2⟩ => ?_)
  cases b with
  | true =>
    obtain ⟨N, hN, q2⟩ := q2
    rw [if_pos rfl]
    refine wpAny_passesOwn hp (thn (hb pins s2 σ1 H2 _ I2 q2) fun f s3 q3 => ?_)
    cases f with
    | next =>
      obtain ⟨σ3, H3, I3, n3⟩ := q3
      obtain ⟨m', hm, w3⟩ := hN σ3 H3 n3
      exact ⟨m', hm, σ3, H3, I3, w3⟩
    | cont =>
      obtain ⟨σ3, H3, I3, n3⟩ := q3
      obtain ⟨m', hm, w3⟩ := hN σ3 H3 n3
      exact ⟨m', hm, σ3, H3, I3, w3⟩
    | brk => exact q3
    | ret v => exact q3
  | false =>
    rw [if_neg Bool.false_ne_true]
    exact wpAny_execs_nil ⟨σ1, H2, I2, q2⟩
end
structure It where
  go : Nat → Hp → Prop
  yld : Nat → Hp → V → Hp → Prop
  stop : Nat → Hp → Prop
def FpOk (X : Cx) (pins : List (Addr × Obj)) (H : Hp) (b : Addr) : Prop :=
  H b = none ∧ b ≠ X.env.locals ∧ b ∉ X.fs ∧ (b ∈ X.ex ∨ X.s₀.heap.objs.size ≤ b) ∧ (∀ x c, X.env.cells.lookup x = some c → c ≠ b) ∧ ∀ p ∈ X.pn ++ pins, p.1 ≠ b
theorem Inv.fpOk {X : Cx} {pins : List (Addr × Obj)} {σ : St} {H H' : Hp} {s : Shared} {b : Addr} (I : Inv X pins σ H s) (hb : s.heap.objs.size ≤ b) (hn : H' b = none) : FpOk X pins H' b := by
  refine ⟨hn, Nat.ne_of_gt (Nat.lt_of_lt_of_le I.lt hb), I.nofs hb, .inr (Nat.le_trans I.sz hb), fun x c e z => ?_, fun p hp z => ?_⟩
  · obtain ⟨v, q⟩ := I.cell x c e
    exact absurd (Nat.lt_of_lt_of_le q.lt (by rw [z]; exact hb)) (Nat.lt_irrefl _)
  · exact absurd (Nat.lt_of_lt_of_le (Heap.lt_size (I.pin p hp).1) (by rw [z]; exact hb)) (Nat.lt_irrefl _)
structure Turn (P : Program) (w : World) (K : PySem.W.Frag) (tg : Expr) (J : It) (fp : List Addr) (it : Addr) (tn : Nat → Heap → Prop) : Prop where
  mem : it ∈ fp
  obj : ∀ i h, tn i h → ∀ b ∈ fp, ∃ o, h.get? b = some o ∧ ∀ v, o.data ≠ .cell v
  keep : ∀ i h h', tn i h → (∀ b ∈ fp, ∀ o, h.get? b = some o → h'.get? b = some o) → tn i h'
  item : ∀ (X : Cx), X.prog = P → X.w = w → X.K = K → X.calm = true → ∀ (i : Nat) (pins : List (Addr × Obj)) (s : Shared) (σ : St) (H : Hp) (E : Value → Shared → Prop), Inv X pins σ H s → (∀ b ∈ fp, FpOk X pins H b) → tn i s.heap → J.go i H →
    wpAny (model P w) X.A (pyNext (.ref it)) (fun r s1 => ∃ u, r = some u ∧
      wpAny (model P w) X.A (letOwnedTupleGo tg (.ref it) u) (fun _ s2 => ∃ x H', Inv X pins σ H' s2 ∧ RelV x u ∧ J.yld i H x H' ∧ tn (i + 1) s2.heap ∧ ∀ b ∈ fp, H' b = none) E s1) E s
  done : ∀ (X : Cx), X.prog = P → X.w = w → X.K = K → X.calm = true → ∀ (i : Nat) (pins : List (Addr × Obj)) (s : Shared) (σ : St) (H : Hp) (E : Value → Shared → Prop), Inv X pins σ H s → (∀ b ∈ fp, FpOk X pins H b) → tn i s.heap → J.stop i H →
    wpAny (model P w) X.A (pyNext (.ref it)) (fun r s1 => r = none ∧ Inv X pins σ H s1) E s
  self : ∀ (A : Around) (i : Nat) (s : Shared) (Q : Value → Shared → Prop) (E : Value → Shared → Prop), tn i s.heap → Q (.ref it) s → wpAny (model P w) A (pyIter (.ref it)) Q E s
abbrev TI := St → Hp → (It → Hp → Prop) → Prop
def PIE (X : Cx) (pins : List (Addr × Obj)) (σ : St) (tg : Expr) (R : It → Hp → Prop) (itv : Value) (s2 : Shared) : Prop :=
  ∃ (it : Addr) (fp : List Addr) (tn : Nat → Heap → Prop) (J : It) (H' : Hp), itv = .ref it ∧ Inv X pins σ H' s2 ∧ Turn X.prog X.w X.K tg J fp it tn ∧ tn 0 s2.heap ∧ (∀ b ∈ fp, FpOk X pins H' b) ∧ R J H'
def PI (X : Cx) (tg iter : Expr) (wi : TI) : Prop :=
  ∀ (pins : List (Addr × Obj)) (s : Shared) (σ : St) (H : Hp) (R : It → Hp → Prop), Inv X pins σ H s → wi σ H R →
    wpAny (model X.prog X.w) X.A (eval iter X.env) (fun v s1 => wpAny (model X.prog X.w) X.A (pyIter v) (PIE X pins σ tg R) X.xe s1) X.xe s
theorem go_of {M : Model} {A : Around} {E : Value → Shared → Prop} {s : Shared} {tg : Expr} {it : Addr} {u : Value} {o : Obj} {n : String} {vs : Array Value} {Q : Unit → Shared → Prop} (ho : s.heap.get? it = some o) (hc : o.cls = .type n) (hd : o.data = .fields vs)
    (hn : ["enumerate", "zip", "dict_itemiterator", "dict_reverseitemiterator", "odict_iterator", "itertools.zip_longest", "itertools.pairwise"].contains n = false) (hQ : Q () s) : wpAny M A (letOwnedTupleGo tg (.ref it) u) Q E s := by
  unfold letOwnedTupleGo
  cases tg <;> first
    | exact wpAny_pure hQ
    | (cases u <;> first
        | exact wpAny_pure hQ
        | (refine wpAny_bind (wpAny_load ho ?_)
           rw [hc, hd]
           show wpAny M A (if (["enumerate", "zip", "dict_itemiterator", "dict_reverseitemiterator", "odict_iterator", "itertools.zip_longest", "itertools.pairwise"].contains n && vs[0]? == some (rawInt _)) = true then _ else _) Q E s
           rw [if_neg (by intro h; rw [hn, Bool.false_and] at h; cases h)]
           exact wpAny_pure hQ))
def Itl (K : PySem.W.Frag) (a : Addr) : It :=
  ⟨fun i H => ∃ xs x, SqL K H a xs ∧ xs[i]? = some x, fun i H x H' => H' = H ∧ ∀ xs, SqL K H a xs → xs[i]? = some x, fun i H => ∃ xs, SqL K H a xs ∧ xs.length ≤ i⟩
def Itt (K : PySem.W.Frag) (a : Addr) : It :=
  ⟨fun i H => ∃ xs x, SqT K H a xs ∧ xs[i]? = some x, fun i H x H' => H' = H ∧ ∀ xs, SqT K H a xs → xs[i]? = some x, fun i H => ∃ xs, SqT K H a xs ∧ xs.length ≤ i⟩
def Itr (lo : Int) (n : Nat) : It := ⟨fun i _ => i < n, fun i H x H' => H' = H ∧ x = .int (lo + i), fun i _ => n ≤ i⟩
theorem turn_list {P : Program} {w : World} {K : PySem.W.Frag} {tg : Expr} (a it : Addr) : Turn P w K tg (Itl K a) [it] it (fun i h => h.IsListIter it a i) where
  mem := by simp
  obj := fun i h st b hb => by
    have e : b = it := by simpa using hb
    subst e
    obtain ⟨o, e, c, d⟩ := st
    exact ⟨o, e, fun v z => by rw [d] at z; cases z⟩
  keep := fun i h h' st k => st.at fun o e => k it (by simp) o e
  item := by
    intro X hP hw hK hc i pins s σ H E I hf st hg
    subst hP hw hK
    obtain ⟨xs, x, hq, hx⟩ := hg
    obtain ⟨its, rv, p, hz⟩ := I.list hq
    obtain ⟨u, hu, ru⟩ := rv.get hx
    obtain ⟨f0, f1, f2, f3, f4, f5⟩ := hf it (by simp)
    refine wpAny_pyNext_list_item st p.isList (x := u) (by simpa using hu) fun h' st' sb => ?_
    have I1 : Inv X pins σ H { s with heap := h' } := I.turned (t' := s.toks) (fun b o hb e => (sb.2 b hb).trans e) f0 f1 f3 f4 f5
    obtain ⟨o, e, c, d⟩ := id st'
    exact ⟨u, rfl, go_of (s := { s with heap := h' }) e c d (by decide) ⟨x, H, I1, ru, ⟨rfl, fun ys hy => by rw [I.list_inj hy hq]; exact hx⟩, st', fun b hb => (hf b hb).1⟩⟩
  done := by
    intro X hP hw hK hc i pins s σ H E I hf st hg
    subst hP hw hK
    obtain ⟨xs, hq, hx⟩ := hg
    obtain ⟨its, rv, p, hz⟩ := I.list hq
    obtain ⟨f0, f1, f2, f3, f4, f5⟩ := hf it (by simp)
    have hl := rv.length
    exact wpAny_pyNext_list_end (I.ok.hd hc) st p.isList (by simp; omega) fun h' eb => ⟨rfl, I.turned (t' := s.toks) (fun b o hb e => eb b o hb e) f0 f1 f3 f4 f5⟩
  self := fun _ _ _ _ _ st h => wpAny_pyIter_listiter st h
theorem turn_tuple {P : Program} {w : World} {K : PySem.W.Frag} {tg : Expr} (a it : Addr) : Turn P w K tg (Itt K a) [it] it (fun i h => h.IsTupleIter it a i) where
  mem := by simp
  obj := fun i h st b hb => by
    have e : b = it := by simpa using hb
    subst e
    obtain ⟨o, e, c, d⟩ := st
    exact ⟨o, e, fun v z => by rw [d] at z; cases z⟩
  keep := fun i h h' st k => st.at fun o e => k it (by simp) o e
  item := by
    intro X hP hw hK hc i pins s σ H E I hf st hg
    subst hP hw hK
    obtain ⟨xs, x, hq, hx⟩ := hg
    obtain ⟨its, rv, p, hz⟩ := I.tuple hq
    obtain ⟨u, hu, ru⟩ := rv.get hx
    obtain ⟨f0, f1, f2, f3, f4, f5⟩ := hf it (by simp)
    refine wpAny_pyNext_tuple_item st (show s.heap.IsTuple a its.toArray from p) (x := u) (by simpa using hu) fun h' st' sb => ?_
    have I1 : Inv X pins σ H { s with heap := h' } := I.turned (t' := s.toks) (fun b o hb e => (sb.2 b hb).trans e) f0 f1 f3 f4 f5
    obtain ⟨o, e, c, d⟩ := id st'
    exact ⟨u, rfl, go_of (s := { s with heap := h' }) e c d (by decide) ⟨x, H, I1, ru, ⟨rfl, fun ys hy => by rw [I.tuple_inj hy hq]; exact hx⟩, st', fun b hb => (hf b hb).1⟩⟩
  done := by
    intro X hP hw hK hc i pins s σ H E I hf st hg
    subst hP hw hK
    obtain ⟨xs, hq, hx⟩ := hg
    obtain ⟨its, rv, p, hz⟩ := I.tuple hq
    obtain ⟨f0, f1, f2, f3, f4, f5⟩ := hf it (by simp)
    have hl := rv.length
    exact wpAny_pyNext_tuple_end (I.ok.hd hc) st (show s.heap.IsTuple a its.toArray from p) (by simp; omega) fun h' eb => ⟨rfl, I.turned (t' := s.toks) (fun b o hb e => eb b o hb e) f0 f1 f3 f4 f5⟩
  self := fun _ _ _ _ _ st h => wpAny_pyIter_tupleiter st h
theorem turn_range {P : Program} {w : World} {K : PySem.W.Frag} {tg : Expr} (it : Addr) (lo : Int) (n : Nat) : Turn P w K tg (Itr lo n) [it] it (fun i h => IsRangeIter h it (lo + (i : Nat) * 1) ((n : Int) - (i : Nat)) 1) where
  mem := by simp
  obj := fun i h st b hb => by
    have e : b = it := by simpa using hb
    subst e
    exact ⟨_, st, fun v z => by
      have z' : Data.fields _ = Data.cell v := z
      cases z'⟩
  keep := fun i h h' st k => k it (by simp) _ st
  item := by
    intro X hP hw hK hc i pins s σ H E I hf st hg
    subst hP hw hK
    obtain ⟨f0, f1, f2, f3, f4, f5⟩ := hf it (by simp)
    have W := Walks.range (prog := X.prog) (w := X.w) (I.ok.hd hc) it lo 1 n
    refine W.item i s _ _ hg st fun v h' tk hv st' kk => ?_
    obtain ⟨t, rfl⟩ := hv
    have I1 : Inv X pins σ H { s with heap := h', toks := tk } := I.turned (fun b o hb e => kk b o (by simpa using hb) e) f0 f1 f3 f4 f5
    refine ⟨_, rfl, go_of (s := { s with heap := h', toks := tk }) (n := "range_iterator") st' rfl rfl (by decide) ⟨.int (lo + i), H, I1, ⟨t, ?_⟩, ⟨rfl, rfl⟩, st', fun b hb => (hf b hb).1⟩⟩
    rw [Int.mul_one]
  done := by
    intro X hP hw hK hc i pins s σ H E I hf st hg
    subst hP hw hK
    obtain ⟨f0, f1, f2, f3, f4, f5⟩ := hf it (by simp)
    exact wpAny_pyNext_range_end (I.ok.hd hc) st (by have : n ≤ i := hg; omega) fun h' eb => ⟨rfl, I.turned (t' := s.toks) (fun b o hb e => eb b o hb e) f0 f1 f3 f4 f5⟩
  self := fun _ _ _ _ _ st h => wpAny_pyIter_rangeiter st h
end L2
namespace L2
open PySem PySem.Spec PyProof.Rows
section
variable {X : Cx} {tg : Expr}
def iList (K : PySem.W.Frag) (tl : TE) : TI := fun σ H R => tl σ H fun x H1 => ∃ a, x = .ref a ∧ (∃ xs, SqL K H1 a xs) ∧ R (Itl K a) H1
def iTup (K : PySem.W.Frag) (tl : TE) : TI := fun σ H R => tl σ H fun x H1 => ∃ a, x = .ref a ∧ (∃ xs, SqT K H1 a xs) ∧ R (Itt K a) H1
theorem pi_list {l : Expr} {tl : TE} (hl : PE X l tl) : PI X tg l (iList X.K tl) := by
  intro pins s σ H R I h
  refine thn (hl pins s σ H _ I h) fun v s1 ⟨x, H1, I1, r1, q1⟩ => ?_
  obtain ⟨a, e, ⟨xs, hq⟩, q⟩ := q1
  subst e
  cases r1
  obtain ⟨its, rv, p, hz⟩ := I1.list hq
  refine wpAny_pyIter_list p.isList ?_
  refine ⟨s1.heap.objs.size, [s1.heap.objs.size], _, _, H1, rfl, I1.kept (t' := s1.toks) fun b o e => Heap.get?_push_of_some _ e, turn_list a _, ⟨_, Heap.get?_push_size _ rfl, rfl, rfl⟩, fun b hb => ?_, q⟩
  have e : b = s1.heap.objs.size := by simpa using hb
  subst e
  exact I1.fpOk (Nat.le_refl _) (I1.hok.fresh (Nat.le_refl _))
theorem pi_tup {l : Expr} {tl : TE} (hl : PE X l tl) : PI X tg l (iTup X.K tl) := by
  intro pins s σ H R I h
  refine thn (hl pins s σ H _ I h) fun v s1 ⟨x, H1, I1, r1, q1⟩ => ?_
  obtain ⟨a, e, ⟨xs, hq⟩, q⟩ := q1
  subst e
  cases r1
  obtain ⟨its, rv, p, hz⟩ := I1.tuple hq
  refine wpAny_pyIter_tuple (show s1.heap.IsTuple a its.toArray from p) ?_
  refine ⟨s1.heap.objs.size, [s1.heap.objs.size], _, _, H1, rfl, I1.kept (t' := s1.toks) fun b o e => Heap.get?_push_of_some _ e, turn_tuple a _, ⟨_, Heap.get?_push_size _ rfl, rfl, rfl⟩, fun b hb => ?_, q⟩
  have e : b = s1.heap.objs.size := by simpa using hb
  subst e
  exact I1.fpOk (Nat.le_refl _) (I1.hok.fresh (Nat.le_refl _))
theorem range_it {pins : List (Addr × Obj)} {σ : St} {H : Hp} {s : Shared} {R : It → Hp → Prop} {E : Value → Shared → Prop} {lo hi : Int} {t u v : Tok} {tk : Nat} (I : Inv X pins σ H s) (h1 : -(2 ^ 62) ≤ lo) (h2 : lo < 2 ^ 62) (h3 : -(2 ^ 62) ≤ hi) (h4 : hi < 2 ^ 62)
    (q : R (Itr lo (hi - lo).toNat) H) : wpAny (model X.prog X.w) X.A (pyIter (.ref s.heap.objs.size)) (PIE X pins σ tg R) E { s with heap := s.heap.push { cls := .type "range", data := .fields #[.int lo t, .int hi u, .int 1 v] }, toks := tk } := by
  refine wpAny_pyIter_range (IsRange.new ..) (small_one h1 h2 h3 h4) ?_
  have I1 : Inv X pins σ H { s with heap := s.heap.push { cls := .type "range", data := .fields #[.int lo t, .int hi u, .int 1 v] }, toks := tk } := I.kept fun b o e => Heap.get?_push_of_some _ e
  refine ⟨(s.heap.push { cls := .type "range", data := .fields #[.int lo t, .int hi u, .int 1 v] }).objs.size, [(s.heap.push { cls := .type "range", data := .fields #[.int lo t, .int hi u, .int 1 v] }).objs.size], _, _, H, rfl,
    I1.kept (t' := tk) fun b o e => Heap.get?_push_of_some _ e, turn_range _ lo (hi - lo).toNat, ?_, fun b hb => ?_, q⟩
  · have e1 : lo + ((0 : Nat) : Int) * 1 = lo := by simp
    have e2 : (((hi - lo).toNat : Nat) : Int) - ((0 : Nat) : Int) = Builtin.Range.rangeSize lo hi 1 := by rw [rangeSize_one]; split <;> omega
    show IsRangeIter _ _ (lo + ((0 : Nat) : Int) * 1) ((((hi - lo).toNat : Nat) : Int) - ((0 : Nat) : Int)) 1
    rw [e1, e2]
    exact Heap.get?_push_size _ rfl
  · have e : b = (s.heap.push { cls := .type "range", data := .fields #[.int lo t, .int hi u, .int 1 v] }).objs.size := by simpa using hb
    subst e
    exact I1.fpOk (Nat.le_refl _) (I1.hok.fresh (Nat.le_refl _))
def iRng1 (ta : TA) : TI := fun σ H R => ta σ H fun vs H1 => ∃ j : Int, vs = [.int j] ∧ -(2 ^ 62) ≤ j ∧ j < 2 ^ 62 ∧ R (Itr 0 j.toNat) H1
def iRng2 (ta : TA) : TI := fun σ H R => ta σ H fun vs H1 => ∃ i j : Int, vs = [.int i, .int j] ∧ (-(2 ^ 62) ≤ i ∧ i < 2 ^ 62 ∧ -(2 ^ 62) ≤ j ∧ j < 2 ^ 62) ∧ R (Itr i (j - i).toNat) H1
theorem pi_range1 {a : Expr} {ta : TA} {p pos : Pos} (hg : Gl X "range") (hm : X.mg "range" = none) (ha : PA X [a] ta) (hs : starEach [a] X.env = [(false, eval a X.env)] := by rfl) : PI X tg (.Call (.Name "range" p) [a] [] pos) (iRng1 ta) := by
  intro pins s σ H R I h
  refine Call_ (ld_blt I hg hm boot_range (PyProof.Rows.callWith_type1 (thn (ha pos pins s σ H _ I h) fun us s1 ⟨vs, H1, I1, r1, q1⟩ => ?_) hs rfl))
  obtain ⟨j, e, q1, q2, q⟩ := q1
  subst e
  cases r1 with
  | cons r rr =>
    cases rr
    obtain ⟨t, rfl⟩ := r
    exact call_range_1 (range_it I1 (by omega) (by omega) q1 q2 (by simpa using q))
def tFor (wi : TI) (g : TG) (tb : TS) : TS := fun D σ H => wi σ H fun J H1 => ∃ W : Nat → Nat → St → Hp → Prop, (∃ m, W 0 m σ H1) ∧ ∀ i m σ H, W i m σ H →
  (J.stop i H ∧ D.nx σ H) ∨ (J.go i H ∧ ∃ N : St → Hp → Prop, (∀ σ' H', N σ' H' → ∃ m', m' < m ∧ W (i + 1) m' σ' H') ∧ ∀ x H', J.yld i H x H' → g x σ H' fun σ2 H2 => tb { D with nx := N, ct := N, bk := D.nx } σ2 H2)
def pinsAt (fp : List Addr) (h : Heap) : List (Addr × Obj) := fp.filterMap fun b => (h.get? b).map fun o => (b, o)
theorem mem_pinsAt {fp : List Addr} {h : Heap} {b : Addr} {o : Obj} (hb : b ∈ fp) (e : h.get? b = some o) : (b, o) ∈ pinsAt fp h := List.mem_filterMap.mpr ⟨b, hb, by rw [e]; rfl⟩
theorem of_pinsAt {fp : List Addr} {h : Heap} {p : Addr × Obj} (hp : p ∈ pinsAt fp h) : p.1 ∈ fp ∧ h.get? p.1 = some p.2 := by
  obtain ⟨b, hb, e⟩ := List.mem_filterMap.mp hp
  cases q : h.get? b with
  | none => rw [q] at e; cases e
  | some o =>
    rw [q] at e
    have e' : (b, o) = p := Option.some.inj e
    subst e'
    exact ⟨hb, q⟩
theorem Inv.pinned {pins : List (Addr × Obj)} {σ : St} {H : Hp} {s : Shared} {fp : List Addr} (I : Inv X pins σ H s) (hf : ∀ b ∈ fp, FpOk X pins H b) (ho : ∀ b ∈ fp, ∃ o, s.heap.get? b = some o ∧ ∀ v, o.data ≠ .cell v) : Inv X (pins ++ pinsAt fp s.heap) σ H s :=
  I.pins_of fun p hp => (List.mem_append.mp hp).elim (fun z => I.pin p (List.mem_append_right _ z)) fun z => by
    obtain ⟨hb, e⟩ := of_pinsAt z
    obtain ⟨f0, f1, f2, _⟩ := hf p.1 hb
    obtain ⟨o, e', d⟩ := ho p.1 hb
    rw [e] at e'; cases e'
    exact ⟨e, f0, f1, f2, d⟩
theorem Inv.unpinned {pins pl : List (Addr × Obj)} {σ : St} {H : Hp} {s : Shared} (I : Inv X (pins ++ pl) σ H s) : Inv X pins σ H s := I.pins_of fun p hp => I.pin p (List.mem_append_right _ (List.mem_append_left _ hp))
theorem ps_for {iter : Expr} {body : List Stmt} {wi : TI} {g : TG} {tb : TS} {pos : Pos} (hp : PassesOwn (model X.prog X.w) X.A X.env X.xe) (hc : X.calm = true) (hi : PI X tg iter wi) (hg : PG X tg g) (hb : PSs X body tb)
    (hs : ∀ x, foldedSetIterable iter X.env x = pure x := by intro _; rfl) : PS X (.For tg iter body [] pos) (tFor wi g tb) := by
  intro pins s σ H D I h
  refine wpAny_For (thn (hi pins s σ H _ I h) fun v s1 h1 => thn h1 fun itv s2 h2 => ?_) hs
  obtain ⟨it, fp, tn, J, H2, e, I2, T, st2, f2, W, ⟨m0, w0⟩, turn⟩ := h2
  subst e
  have stat : ∀ {H' : Hp}, (∀ b ∈ fp, H' b = none) → ∀ b ∈ fp, FpOk X pins H' b := fun hn b hb => ⟨hn b hb, (f2 b hb).2⟩
  refine codeAny_forLoop_any (fun n s' => ∃ i σ' H', Inv X pins σ' H' s' ∧ tn i s'.heap ∧ (∀ b ∈ fp, H' b = none) ∧ W i n σ' H') ?_ m0 ⟨0, σ, H2, I2, st2, fun b hb => (f2 b hb).1, w0⟩
  rintro n s3 ⟨i, σ3, H3, I3, st3, fr3, w3⟩
  rcases turn i n σ3 H3 w3 with ⟨stop, qn⟩ | ⟨go, N, hN, step⟩
  · refine wpAny_passesOwn hp (thn (T.done X rfl rfl rfl hc i pins s3 σ3 H3 X.xe I3 (stat fr3) st3 stop) fun r s4 ⟨hr, I4⟩ => ?_)
    subst hr
    exact wpAny_execs_nil ⟨σ3, H3, I4, qn⟩
  · refine wpAny_passesOwn hp (thn (T.item X rfl rfl rfl hc i pins s3 σ3 H3 X.xe I3 (stat fr3) st3 go) fun r s4 ⟨u, hr, h4⟩ => ?_)
    subst hr
    refine wpAny_passesOwn hp (thn h4 fun _ s5 ⟨x, H5, I5, r5, y5, st5, fr5⟩ => ?_)
    have I5' := I5.pinned (stat fr5) (T.obj _ _ st5)
    refine wpAny_passesOwn hp (thn (hg _ s5 σ3 H5 x u _ I5' r5 (step x H5 y5)) fun _ s6 ⟨σ6, H6, I6, q6⟩ => ?_)
    refine wpAny_passesOwn hp (thn (hb _ s6 σ6 H6 _ I6 q6) fun f s7 q7 => ?_)
    have again : ∀ {σ7 : St} {H7 : Hp}, Inv X (pins ++ pinsAt fp s5.heap) σ7 H7 s7 → N σ7 H7 → ∃ m, m < n ∧ ∃ i σ' H', Inv X pins σ' H' s7 ∧ tn i s7.heap ∧ (∀ b ∈ fp, H' b = none) ∧ W i m σ' H' := fun {σ7 H7} I7 n7 => by
      obtain ⟨m', hm, w7⟩ := hN σ7 H7 n7
      refine ⟨m', hm, i + 1, σ7, H7, I7.unpinned, T.keep _ _ _ st5 fun b hb o e => (I7.pin (b, o) (List.mem_append_right _ (List.mem_append_right _ (mem_pinsAt hb e)))).1, fun b hb => ?_, w7⟩
      obtain ⟨o, e, d⟩ := T.obj _ _ st5 b hb
      exact (I7.pin (b, o) (List.mem_append_right _ (List.mem_append_right _ (mem_pinsAt hb e)))).2.1
    cases f with
    | next => obtain ⟨σ7, H7, I7, n7⟩ := q7; exact again I7 n7
    | cont => obtain ⟨σ7, H7, I7, n7⟩ := q7; exact again I7 n7
    | brk => obtain ⟨σ7, H7, I7, q7⟩ := q7; exact ⟨σ7, H7, I7.unpinned, q7⟩
    | ret v => obtain ⟨x7, σ7, H7, I7, r7, q7⟩ := q7; exact ⟨x7, σ7, H7, I7.unpinned, r7, q7⟩
end
theorem for_list {K : PySem.W.Frag} {a : Addr} {xs : List V} {g : TG} {tb : TS} {D : Ends} {σ : St} {H : Hp} (Pv : Nat → St → Hp → Prop) (h0 : Pv 0 σ H) (hl : ∀ i σ H, i ≤ xs.length → Pv i σ H → SqL K H a xs)
    (hs : ∀ i x σ H, xs[i]? = some x → Pv i σ H → g x σ H fun σ2 H2 => tb { D with nx := Pv (i + 1), ct := Pv (i + 1), bk := D.nx } σ2 H2) (hd : ∀ σ H, Pv xs.length σ H → D.nx σ H) :
    ∃ W : Nat → Nat → St → Hp → Prop, (∃ m, W 0 m σ H) ∧ ∀ i m σ H, W i m σ H →
      ((Itl K a).stop i H ∧ D.nx σ H) ∨ ((Itl K a).go i H ∧ ∃ N : St → Hp → Prop, (∀ σ' H', N σ' H' → ∃ m', m' < m ∧ W (i + 1) m' σ' H') ∧ ∀ x H', (Itl K a).yld i H x H' → g x σ H' fun σ2 H2 => tb { D with nx := N, ct := N, bk := D.nx } σ2 H2) := by
  refine ⟨fun i m σ H => m = xs.length - i ∧ i ≤ xs.length ∧ Pv i σ H, ⟨xs.length, by simp, Nat.zero_le _, h0⟩, ?_⟩
  rintro i m σ H ⟨rfl, hi, p⟩
  have q := hl i σ H hi p
  by_cases hlt : i < xs.length
  · refine .inr ⟨⟨xs, xs[i], q, by simp [hlt]⟩, Pv (i + 1), fun σ' H' p' => ⟨xs.length - (i + 1), by omega, rfl, hlt, p'⟩, fun x H' y => ?_⟩
    obtain ⟨e, y⟩ := y
    subst e
    exact hs i x σ _ (y xs q) p
  · have e : i = xs.length := by omega
    subst e
    exact .inl ⟨⟨xs, q, Nat.le_refl _⟩, hd σ H p⟩
theorem for_tup {K : PySem.W.Frag} {a : Addr} {xs : List V} {g : TG} {tb : TS} {D : Ends} {σ : St} {H : Hp} (Pv : Nat → St → Hp → Prop) (h0 : Pv 0 σ H) (hl : ∀ i σ H, i ≤ xs.length → Pv i σ H → SqT K H a xs)
    (hs : ∀ i x σ H, xs[i]? = some x → Pv i σ H → g x σ H fun σ2 H2 => tb { D with nx := Pv (i + 1), ct := Pv (i + 1), bk := D.nx } σ2 H2) (hd : ∀ σ H, Pv xs.length σ H → D.nx σ H) :
    ∃ W : Nat → Nat → St → Hp → Prop, (∃ m, W 0 m σ H) ∧ ∀ i m σ H, W i m σ H →
      ((Itt K a).stop i H ∧ D.nx σ H) ∨ ((Itt K a).go i H ∧ ∃ N : St → Hp → Prop, (∀ σ' H', N σ' H' → ∃ m', m' < m ∧ W (i + 1) m' σ' H') ∧ ∀ x H', (Itt K a).yld i H x H' → g x σ H' fun σ2 H2 => tb { D with nx := N, ct := N, bk := D.nx } σ2 H2) := by
  refine ⟨fun i m σ H => m = xs.length - i ∧ i ≤ xs.length ∧ Pv i σ H, ⟨xs.length, by simp, Nat.zero_le _, h0⟩, ?_⟩
  rintro i m σ H ⟨rfl, hi, p⟩
  have q := hl i σ H hi p
  by_cases hlt : i < xs.length
  · refine .inr ⟨⟨xs, xs[i], q, by simp [hlt]⟩, Pv (i + 1), fun σ' H' p' => ⟨xs.length - (i + 1), by omega, rfl, hlt, p'⟩, fun x H' y => ?_⟩
    obtain ⟨e, y⟩ := y
    subst e
    exact hs i x σ _ (y xs q) p
  · have e : i = xs.length := by omega
    subst e
    exact .inl ⟨⟨xs, q, Nat.le_refl _⟩, hd σ H p⟩
theorem for_range {lo : Int} {n : Nat} {g : TG} {tb : TS} {D : Ends} {σ : St} {H : Hp} (Pv : Nat → St → Hp → Prop) (h0 : Pv 0 σ H)
    (hs : ∀ i σ H, i < n → Pv i σ H → g (.int (lo + i)) σ H fun σ2 H2 => tb { D with nx := Pv (i + 1), ct := Pv (i + 1), bk := D.nx } σ2 H2) (hd : ∀ σ H, Pv n σ H → D.nx σ H) :
    ∃ W : Nat → Nat → St → Hp → Prop, (∃ m, W 0 m σ H) ∧ ∀ i m σ H, W i m σ H →
      ((Itr lo n).stop i H ∧ D.nx σ H) ∨ ((Itr lo n).go i H ∧ ∃ N : St → Hp → Prop, (∀ σ' H', N σ' H' → ∃ m', m' < m ∧ W (i + 1) m' σ' H') ∧ ∀ x H', (Itr lo n).yld i H x H' → g x σ H' fun σ2 H2 => tb { D with nx := N, ct := N, bk := D.nx } σ2 H2) := by
  refine ⟨fun i m σ H => m = n - i ∧ i ≤ n ∧ Pv i σ H, ⟨n, by simp, Nat.zero_le _, h0⟩, ?_⟩
  rintro i m σ H ⟨rfl, hi, p⟩
  by_cases hlt : i < n
  · refine .inr ⟨hlt, Pv (i + 1), fun σ' H' p' => ⟨n - (i + 1), by omega, rfl, hlt, p'⟩, fun x H' y => ?_⟩
    obtain ⟨e, y⟩ := y
    subst e y
    exact hs i σ _ hlt p
  · have e : i = n := by omega
    subst e
    exact .inl ⟨Nat.le_refl _, hd σ H p⟩
end L2
namespace L2
open PySem PySem.Spec PyProof.Rows
abbrev R2 := V → V → Hp → VK → Prop
def OpR (X : Cx) (f : Value → Value → Sem Value) (r : R2) : Prop :=
  ∀ (pins : List (Addr × Obj)) (s : Shared) (σ : St) (H : Hp) (x y : V) (v u : Value) (Q : VK), Inv X pins σ H s → RelV x v → RelV y u → r x y H Q →
    wpAny (model X.prog X.w) X.A (f v u) (EP X pins σ Q) X.xe s
def UnR (X : Cx) (f : Value → Sem Value) (r : V → Hp → VK → Prop) : Prop :=
  ∀ (pins : List (Addr × Obj)) (s : Shared) (σ : St) (H : Hp) (x : V) (v : Value) (Q : VK), Inv X pins σ H s → RelV x v → r x H Q →
    wpAny (model X.prog X.w) X.A (f v) (EP X pins σ Q) X.xe s
def CallR (X : Cx) (f : Value) (r : List V → Hp → VK → Prop) : Prop :=
  ∀ (pins : List (Addr × Obj)) (s : Shared) (σ : St) (H : Hp) (xs : List V) (us : List Value) (Q : VK), Inv X pins σ H s → Vals xs us → r xs H Q →
    wpAny (model X.prog X.w) X.A (call f us) (EP X pins σ Q) X.xe s
def tOp (r : R2) (ta tb : TE) : TE := fun σ H Q => ta σ H fun x H1 => tb σ H1 fun y H2 => r x y H2 Q
def tUn (r : V → Hp → VK → Prop) (ta : TE) : TE := fun σ H Q => ta σ H fun x H1 => r x H1 Q
def rI (C : Int → Int → Prop) (g : Int → Int → V) : R2 := fun x y H Q => ∃ i j, x = .int i ∧ y = .int j ∧ C i j ∧ Q (g i j) H
def rI0 (g : Int → Int → V) : R2 := fun x y H Q => ∃ i j, x = .int i ∧ y = .int j ∧ Q (g i j) H
def rU (g : Int → V) : V → Hp → VK → Prop := fun x H Q => ∃ i, x = .int i ∧ Q (g i) H
section
variable {X : Cx} {a b c : Expr} {ta tb tc : TE} {pos : Pos}
theorem binT (ha : PE X a ta) (hb : PE X b tb) {pins : List (Addr × Obj)} {s : Shared} {σ : St} {H : Hp} {R : V → V → Hp → Prop} (I : Inv X pins σ H s)
    (h : ta σ H fun x H1 => tb σ H1 fun y H2 => R x y H2) {Q : Value → Shared → Prop} {f : Value → Value → Sem Value}
    (hf : ∀ v u s2 x y H2, Inv X pins σ H2 s2 → RelV x v → RelV y u → R x y H2 → wpAny (model X.prog X.w) X.A (f v u) Q X.xe s2) :
    wpAny (model X.prog X.w) X.A (eval a X.env) (fun v s₁ => wpAny (model X.prog X.w) X.A (eval b X.env) (fun u s₂ => wpAny (model X.prog X.w) X.A (f v u) Q X.xe s₂) X.xe s₁) X.xe s := by
  refine thn (ha pins s σ H _ I h) fun v s1 ⟨x, H1, I1, r1, q1⟩ => ?_
  refine thn (hb pins s1 σ H1 _ I1 q1) fun u s2 ⟨y, H2, I2, r2, q2⟩ => ?_
  exact hf v u s2 x y H2 I2 r1 r2 q2
theorem pe_op {op : Operator} {r : R2} (ho : OpR X (binaryOp op) r) (ha : PE X a ta) (hb : PE X b tb) : PE X (.BinOp a op b pos) (tOp r ta tb) := by
  intro pins s σ H Q I h
  exact wpAny_BinOp (binT ha hb I h fun v u s2 x y H2 I2 rx ry q => ho pins s2 σ H2 x y v u Q I2 rx ry q)
theorem pe_un {op : UnaryOp} {r : V → Hp → VK → Prop} (ho : UnR X (unaryOp op) r) (ha : PE X a ta) : PE X (.UnaryOp op a pos) (tUn r ta) := by
  intro pins s σ H Q I h
  exact UnaryOp_ (thn (ha pins s σ H _ I h) fun v s1 ⟨x, H1, I1, r1, q1⟩ => ho pins s1 σ H1 x v Q I1 r1 q1)
theorem opI {f : Value → Value → Sem Value} {C : Int → Int → Prop} {g : Int → Int → Int}
    (rule : ∀ (i j : Int) (t u : Tok) (s : Shared) (Q : Value → Shared → Prop) (E : Value → Shared → Prop), C i j → Q (.int (g i j) s.toks) { s with toks := s.toks + 1 } → wpAny (model X.prog X.w) X.A (f (.int i t) (.int j u)) Q E s) :
    OpR X f (rI C fun i j => .int (g i j)) := by
  intro pins s σ H x y v u Q I rx ry h
  obtain ⟨i, j, rfl, rfl, hc, q⟩ := h
  obtain ⟨t, rfl⟩ := rx
  obtain ⟨t', rfl⟩ := ry
  exact rule i j t t' s _ _ hc ⟨.int (g i j), H, I.tok _, ⟨_, rfl⟩, q⟩
theorem opI0 {f : Value → Value → Sem Value} {g : Int → Int → Int}
    (rule : ∀ (i j : Int) (t u : Tok) (s : Shared) (Q : Value → Shared → Prop) (E : Value → Shared → Prop), Q (.int (g i j) s.toks) { s with toks := s.toks + 1 } → wpAny (model X.prog X.w) X.A (f (.int i t) (.int j u)) Q E s) :
    OpR X f (rI0 fun i j => .int (g i j)) := by
  intro pins s σ H x y v u Q I rx ry h
  obtain ⟨i, j, rfl, rfl, q⟩ := h
  obtain ⟨t, rfl⟩ := rx
  obtain ⟨t', rfl⟩ := ry
  exact rule i j t t' s _ _ ⟨.int (g i j), H, I.tok _, ⟨_, rfl⟩, q⟩
theorem opB0 {f : Value → Value → Sem Value} {g : Int → Int → Bool}
    (rule : ∀ (i j : Int) (t u : Tok) (s : Shared) (Q : Value → Shared → Prop) (E : Value → Shared → Prop), Q (.bool (g i j)) s → wpAny (model X.prog X.w) X.A (f (.int i t) (.int j u)) Q E s) :
    OpR X f (rI0 fun i j => .bl (g i j)) := by
  intro pins s σ H x y v u Q I rx ry h
  obtain ⟨i, j, rfl, rfl, q⟩ := h
  obtain ⟨t, rfl⟩ := rx
  obtain ⟨t', rfl⟩ := ry
  exact rule i j t t' s _ _ ⟨.bl (g i j), H, I, rfl, q⟩
def CDiv (i j : Int) : Prop := 0 < j ∧ j < 1073741824
def CDivN (i j : Int) : Prop := j ≠ 0 ∧ j.natAbs < 1073741824
def CPow (i j : Int) : Prop := 0 ≤ j ∧ j ≤ 1000000 ∧ i.natAbs < 2 ^ 64
def CMul (i j : Int) : Prop := (-(2 ^ 64) < i ∧ i < 2 ^ 64) ∨ (-(2 ^ 64) < j ∧ j < 2 ^ 64)
theorem CMul.ok {i j : Int} (h : CMul i j) : IntMulOk i j := by
  rcases h with ⟨h1, h2⟩ | ⟨h1, h2⟩
  · exact .of_left (intBits_le_64 h1 h2)
  · exact .of_right (intBits_le_64 h1 h2)
theorem op_add : OpR X (binaryOp .Add) (rI0 fun i j => .int (i + j)) := opI0 fun _ _ _ _ _ _ _ q => add_int q
theorem op_sub : OpR X (binaryOp .Sub) (rI0 fun i j => .int (i - j)) := opI0 fun _ _ _ _ _ _ _ q => sub_int q
theorem op_mul : OpR X (binaryOp .Mult) (rI CMul fun i j => .int (i * j)) := opI fun _ _ _ _ _ _ _ hc q => mul_int q hc.ok
theorem op_fdiv : OpR X (binaryOp .FloorDiv) (rI CDiv fun i j => .int (i / j)) := opI fun i j _ _ _ _ _ hc q => by
  have h1 : (0 : Int) < j := hc.1
  have h2 : j < 1073741824 := hc.2
  exact floordiv_int (by omega) (by rw [Int.fdiv_eq_ediv_of_nonneg i (by omega)]; exact q) (.inl (PyProof.noPylong_small (by omega)))
theorem op_mod : OpR X (binaryOp .Mod) (rI (fun _ j => 0 < j) fun i j => .int (i % j)) := opI fun i j _ _ _ _ _ hc q => by
  have h1 : (0 : Int) < j := hc
  exact mod_int' (by omega) (by rw [Int.fmod_eq_emod_of_nonneg i (by omega)]; exact q)
theorem op_modN : OpR X (binaryOp .Mod) (rI (fun _ j => j ≠ 0) fun i j => .int (i.fmod j)) := opI fun _ _ _ _ _ _ _ hc q => mod_int' hc q
theorem op_pow : OpR X (binaryOp .Pow) (rI CPow fun i j => .int (i ^ j.toNat)) := opI fun _ _ _ _ _ _ _ hc q => pow_int_small hc.1 hc.2.1 hc.2.2 q
theorem op_and : OpR X (binaryOp .BitAnd) (rI0 fun i j => .int (Builtin.bitAnd i j)) := opI0 fun _ _ _ _ _ _ _ q => and_int q
theorem op_or : OpR X (binaryOp .BitOr) (rI0 fun i j => .int (Builtin.bitOr i j)) := opI0 fun _ _ _ _ _ _ _ q => or_int q
theorem op_xor : OpR X (binaryOp .BitXor) (rI0 fun i j => .int (Builtin.bitXor i j)) := opI0 fun _ _ _ _ _ _ _ q => xor_int q
theorem unI {f : Value → Sem Value} {g : Int → Int}
    (rule : ∀ (i : Int) (t : Tok) (s : Shared) (Q : Value → Shared → Prop) (E : Value → Shared → Prop), Q (.int (g i) s.toks) { s with toks := s.toks + 1 } → wpAny (model X.prog X.w) X.A (f (.int i t)) Q E s) :
    UnR X f (rU fun i => .int (g i)) := by
  intro pins s σ H x v Q I rx h
  obtain ⟨i, rfl, q⟩ := h
  obtain ⟨t, rfl⟩ := rx
  exact rule i t s _ _ ⟨.int (g i), H, I.tok _, ⟨_, rfl⟩, q⟩
theorem un_neg : UnR X (unaryOp .USub) (rU fun i => .int (-i)) := unI fun _ _ _ _ _ q => neg_int q
end
def scal : V → V → Bool
  | .non, .non => true | .non, .int _ => true | .int _, .non => true | .non, .bl _ => true | .bl _, .non => true | .non, .str _ => true | .str _, .non => true
  | .int _, .int _ => true | .bl _, .bl _ => true | .str _, .str _ => true | .byt _, .byt _ => true
  | .int _, .str _ => true | .str _, .int _ => true | .bl _, .str _ => true | .str _, .bl _ => true
  | _, _ => false
def rEq : R2 := fun x y H Q => scal x y = true ∧ Q (.bl (decide (x = y))) H
def rNe : R2 := fun x y H Q => scal x y = true ∧ Q (.bl (!decide (x = y))) H
theorem dec_int {i j : Int} : decide (V.int i = V.int j) = (i == j) := by
  rw [Bool.eq_iff_iff]
  simp
theorem dec_bl {i j : Bool} : decide (V.bl i = V.bl j) = (i == j) := by
  rw [Bool.eq_iff_iff]
  simp
theorem dec_str {i j : Str} : decide (V.str i = V.str j) = (i == j) := by
  rw [Bool.eq_iff_iff]
  simp
theorem dec_byt {i j : Array UInt8} : decide (V.byt i = V.byt j) = (i.toList == j.toList) := by
  rw [Bool.eq_iff_iff]
  cases i
  cases j
  simp
section
variable {X : Cx} {a b c : Expr} {ta tb tc : TE} {pos : Pos}
theorem fin_bl {pins : List (Addr × Obj)} {σ : St} {H : Hp} {s : Shared} {Q : VK} {k k' : Bool} (I : Inv X pins σ H s) (q : Q (.bl k) H) (e : k = k') : EP X pins σ Q (.bool k') s := by
  subst e
  exact ⟨.bl k, H, I, rfl, q⟩
theorem op_eq : OpR X (compareOp .Eq) rEq := by
  intro pins s σ H x y v u Q I rx ry h
  obtain ⟨hs, q⟩ := h
  cases x with
  | non =>
    cases rx
    cases y with
    | non => cases ry; exact PySem.EqNone.eq_none_none (fin_bl I q (by simp))
    | bl j => cases ry; exact PySem.EqNone.eq_none_bool (fin_bl I q (by simp))
    | int j => obtain ⟨t', rfl⟩ := ry; exact PySem.EqNone.eq_none_int (fin_bl I q (by simp))
    | str j => obtain ⟨t', rfl⟩ := ry; exact PySem.EqNone.eq_none_str (fin_bl I q (by simp))
    | _ => exact absurd (show false = true from hs) Bool.false_ne_true
  | bl i =>
    cases rx
    cases y with
    | non => cases ry; exact PySem.EqNone.eq_bool_none (fin_bl I q (by simp))
    | bl j => cases ry; exact eq_bool (fin_bl I q dec_bl)
    | str j => obtain ⟨t', rfl⟩ := ry; exact PySem.EqMixed.eq_bool_str (fin_bl I q (by simp))
    | _ => exact absurd (show false = true from hs) Bool.false_ne_true
  | int i =>
    obtain ⟨t, rfl⟩ := rx
    cases y with
    | non => cases ry; exact PySem.EqNone.eq_int_none (fin_bl I q (by simp))
    | int j => obtain ⟨t', rfl⟩ := ry; exact eq_int (fin_bl I q dec_int)
    | str j => obtain ⟨t', rfl⟩ := ry; exact PySem.EqMixed.eq_int_str (fin_bl I q (by simp))
    | _ => exact absurd (show false = true from hs) Bool.false_ne_true
  | str i =>
    obtain ⟨t, rfl⟩ := rx
    cases y with
    | non => cases ry; exact PySem.EqNone.eq_str_none (fin_bl I q (by simp))
    | bl j => cases ry; exact PySem.EqMixed.eq_str_bool (fin_bl I q (by simp))
    | int j => obtain ⟨t', rfl⟩ := ry; exact PySem.EqMixed.eq_str_int (fin_bl I q (by simp))
    | str j => obtain ⟨t', rfl⟩ := ry; exact eq_str (fin_bl I q dec_str)
    | _ => exact absurd (show false = true from hs) Bool.false_ne_true
  | byt i =>
    obtain ⟨t, rfl⟩ := rx
    cases y with
    | byt j => obtain ⟨t', rfl⟩ := ry; exact PySem.W.eq_bytes (fin_bl I q dec_byt)
    | _ => exact absurd (show false = true from hs) Bool.false_ne_true
  | _ => cases y <;> exact absurd (show false = true from hs) Bool.false_ne_true
theorem op_ne : OpR X (compareOp .NotEq) rNe := by
  intro pins s σ H x y v u Q I rx ry h
  obtain ⟨hs, q⟩ := h
  cases x with
  | non =>
    cases rx
    cases y with
    | non => cases ry; exact PySem.EqNone.ne_none_none (fin_bl I q (by simp))
    | bl j => cases ry; exact PySem.EqNone.ne_none_bool (fin_bl I q (by simp))
    | int j => obtain ⟨t', rfl⟩ := ry; exact PySem.EqNone.ne_none_int (fin_bl I q (by simp))
    | str j => obtain ⟨t', rfl⟩ := ry; exact PySem.EqNone.ne_none_str (fin_bl I q (by simp))
    | _ => exact absurd (show false = true from hs) Bool.false_ne_true
  | bl i =>
    cases rx
    cases y with
    | non => cases ry; exact PySem.EqNone.ne_bool_none (fin_bl I q (by simp))
    | bl j => cases ry; exact ne_bool (fin_bl I q (congrArg not dec_bl))
    | str j => obtain ⟨t', rfl⟩ := ry; exact PySem.EqMixed.ne_bool_str (fin_bl I q (by simp))
    | _ => exact absurd (show false = true from hs) Bool.false_ne_true
  | int i =>
    obtain ⟨t, rfl⟩ := rx
    cases y with
    | non => cases ry; exact PySem.EqNone.ne_int_none (fin_bl I q (by simp))
    | int j => obtain ⟨t', rfl⟩ := ry; exact ne_int (fin_bl I q (congrArg not dec_int))
    | str j => obtain ⟨t', rfl⟩ := ry; exact PySem.EqMixed.ne_int_str (fin_bl I q (by simp))
    | _ => exact absurd (show false = true from hs) Bool.false_ne_true
  | str i =>
    obtain ⟨t, rfl⟩ := rx
    cases y with
    | non => cases ry; exact PySem.EqNone.ne_str_none (fin_bl I q (by simp))
    | bl j => cases ry; exact PySem.EqMixed.ne_str_bool (fin_bl I q (by simp))
    | int j => obtain ⟨t', rfl⟩ := ry; exact PySem.EqMixed.ne_str_int (fin_bl I q (by simp))
    | str j => obtain ⟨t', rfl⟩ := ry; exact ne_str (fin_bl I q (congrArg not dec_str))
    | _ => exact absurd (show false = true from hs) Bool.false_ne_true
  | byt i =>
    obtain ⟨t, rfl⟩ := rx
    cases y with
    | byt j => obtain ⟨t', rfl⟩ := ry; exact PySem.W.ne_bytes (fin_bl I q (congrArg not dec_byt))
    | _ => exact absurd (show false = true from hs) Bool.false_ne_true
  | _ => cases y <;> exact absurd (show false = true from hs) Bool.false_ne_true
theorem op_lt : OpR X (compareOp .Lt) (rI0 fun i j => .bl (decide (i < j))) := opB0 fun _ _ _ _ _ _ _ q => lt_int q
theorem op_gt : OpR X (compareOp .Gt) (rI0 fun i j => .bl (decide (j < i))) := opB0 fun _ _ _ _ _ _ _ q => gt_int q
theorem op_ge : OpR X (compareOp .GtE) (rI0 fun i j => .bl (decide (j ≤ i))) := opB0 fun _ _ _ _ _ _ _ q => ge_int q
theorem op_isN : OpR X (compareOp .Is) (fun x y H Q => y = .non ∧ Q (.bl (decide (x = .non))) H) := by
  intro pins s σ H x y v u Q I rx ry h
  obtain ⟨rfl, q⟩ := h
  cases ry
  refine is_none_gen (fin_bl I q ?_)
  cases x <;> first
    | (cases rx; rfl)
    | (obtain ⟨t, rfl⟩ := rx; rfl)
theorem OpR.or {f : Value → Value → Sem Value} {r r' : R2} (h : OpR X f r) (h' : OpR X f r') : OpR X f (fun x y H Q => r x y H Q ∨ r' x y H Q) := by
  intro pins s σ H x y v u Q I rx ry q
  rcases q with q | q
  · exact h pins s σ H x y v u Q I rx ry q
  · exact h' pins s σ H x y v u Q I rx ry q
theorem nomark (b : Expr) {op : CmpOp} (h : op ≠ .In := by decide) (h2 : op ≠ .NotIn := by decide) : behindInMarks op b = false := by
  have e1 : (op == CmpOp.In) = false := by cases op <;> first | rfl | exact absurd rfl h
  have e2 : (op == CmpOp.NotIn) = false := by cases op <;> first | rfl | exact absurd rfl h2
  cases b <;> simp [behindInMarks, e1, e2]
theorem pe_cmpR {op : CmpOp} {r : R2} (ho : OpR X (compareOp op) r) (ha : PE X a ta) (hb : PE X b tb) (hm : behindInMarks op b = false) : PE X (.Compare a [op] [b] pos) (tOp r ta tb) := by
  intro pins s σ H Q I h
  exact wpAny_Compare1 (binT ha hb I h fun v u s2 x y H2 I2 rx ry q => ho pins s2 σ H2 x y v u Q I2 rx ry q) hm
def tTest (t : TE) : TT := fun σ H Q => t σ H fun x H' => ∃ k, x = .bl k ∧ Q k H'
theorem pt_cmpR {op : CmpOp} {r : R2} (ho : OpR X (compareOp op) r) (ha : PE X a ta) (hb : PE X b tb) (hm : behindInMarks op b = false) : PT X (.Compare a [op] [b] pos) (tTest (tOp r ta tb)) := by
  intro pins s σ H Q I h
  refine wpAny_isTrue_Compare1 (thn (ha pins s σ H _ I h) fun v s1 ⟨x, H1, I1, r1, q1⟩ => thn (hb pins s1 σ H1 _ I1 q1) fun u s2 ⟨y, H2, I2, r2, q2⟩ =>
    thn (ho pins s2 σ H2 x y v u _ I2 r1 r2 q2) fun c s3 ⟨z, H3, I3, r3, k, e, q3⟩ => ?_) hm
  subst e
  cases r3
  exact wpAny_truthy_bool ⟨H3, I3, q3⟩
def tChain (r r' : R2) (ta tb tc : TE) : TE := fun σ H Q => ta σ H fun x H1 => tb σ H1 fun y H2 => r x y H2 fun z H3 => ∃ k, z = .bl k ∧
  (if k = true then tc σ H3 fun w' H4 => r' y w' H4 Q else Q (.bl false) H3)
theorem line63 : (sizeLine : Nat) < 2 ^ 63 := by rw [sizeLine_eq]; decide
theorem vals1 {x : V} {us : List Value} (r : Vals [x] us) : ∃ u, us = [u] ∧ RelV x u := by
  cases r with
  | cons r1 r2 => cases r2; exact ⟨_, rfl, r1⟩
theorem vals2 {x y : V} {us : List Value} (r : Vals [x, y] us) : ∃ u w', us = [u, w'] ∧ RelV x u ∧ RelV y w' := by
  cases r with
  | cons r1 r2 =>
    cases r2 with
    | cons r3 r4 => cases r4; exact ⟨_, _, rfl, r1, r3⟩
theorem call_abs : CallR X (.builtin "abs") (fun xs H Q => ∃ i, xs = [.int i] ∧ Q (.int (if i < 0 then -i else i)) H) := by
  intro pins s σ H xs us Q I r h
  obtain ⟨i, rfl, q⟩ := h
  obtain ⟨u, rfl, t, rfl⟩ := vals1 r
  exact call_abs_int fun u tk => ⟨.int (if i < 0 then -i else i), H, I.tok _, ⟨_, rfl⟩, q⟩
theorem call_max2 (hc : X.calm = true) : CallR X (.builtin "max") (fun xs H Q => ∃ i j, xs = [.int i, .int j] ∧ Q (.int (if j > i then j else i)) H) := by
  intro pins s σ H xs us Q I r h
  obtain ⟨i, j, rfl, q⟩ := h
  obtain ⟨u, w', rfl, ⟨t, rfl⟩, ⟨t', rfl⟩⟩ := vals2 r
  refine max_two_ints (I.ok.hd hc) fun h' tk k => ⟨_, H, I.kept k, ?_, q⟩
  by_cases hj : j > i
  · rw [if_pos hj, if_pos hj]; exact ⟨_, rfl⟩
  · rw [if_neg hj, if_neg hj]; exact ⟨_, rfl⟩
theorem call_min2 (hc : X.calm = true) : CallR X (.builtin "min") (fun xs H Q => ∃ i j, xs = [.int i, .int j] ∧ Q (.int (if j < i then j else i)) H) := by
  intro pins s σ H xs us Q I r h
  obtain ⟨i, j, rfl, q⟩ := h
  obtain ⟨u, w', rfl, ⟨t, rfl⟩, ⟨t', rfl⟩⟩ := vals2 r
  refine min_two_ints (I.ok.hd hc) fun h' tk k => ⟨_, H, I.kept k, ?_, q⟩
  by_cases hj : j < i
  · rw [if_pos hj, if_pos hj]; exact ⟨_, rfl⟩
  · rw [if_neg hj, if_neg hj]; exact ⟨_, rfl⟩
theorem call_int1 : CallR X (.type "int") (fun xs H Q => (∃ i, xs = [.int i] ∧ Q (.int i) H) ∨ ∃ k, xs = [.bl k] ∧ Q (.int (if k then 1 else 0)) H) := by
  intro pins s σ H xs us Q I r h
  rcases h with ⟨i, rfl, q⟩ | ⟨k, rfl, q⟩
  · obtain ⟨u, rfl, t, rfl⟩ := vals1 r
    exact call_int_int ⟨.int i, H, I, ⟨_, rfl⟩, q⟩
  · obtain ⟨u, rfl, r1⟩ := vals1 r
    cases r1
    exact call_int_bool ⟨.int (if k then 1 else 0), H, I.tok _, ⟨_, rfl⟩, q⟩
end
end L2
namespace L2
open PySem PySem.Spec PyProof.Rows
structure ObjM (h : Heap) (x dx C : Addr) (mA : Str → Option Value) : Prop where
  obj : h.get? x = some (PySem.W.instObj C dx)
  ns : h.Ns1 dx mA
  ne : dx ≠ x
section
variable {prog : Program} {w : World} {A : Around} {E : Value → Shared → Prop} {s : Shared} {K : PySem.W.Frag} {x dx C f : Addr} {mA : Str → Option Value} {name : Str} {v : Value}
end
section
variable {P : Program} {w : World} {H H' : Hp} {h h' : Heap} {a C dx : Addr} {fs fs' : List (Str × V)}
end
structure Cls (K : PySem.W.Frag) (C : Addr) : Prop where
  pg : PySem.W.plainGet K C Str.empty = true
  hd : PySem.W.hasDictIn K C = true
  po : PySem.W.plainOver K C = true
  sa : PySem.W.findIn K (.ref C) "__setattr__" = some (some (.builtin "object.__setattr__"))
theorem Cls.get {K : PySem.W.Frag} {C : Addr} (c : Cls K C) (f : Str) : PySem.W.plainGet K C f = true := c.pg
structure Con (K : PySem.W.Frag) (C : Addr) (f : Str) (v : V) (u : Value) : Prop where
  at_ : PySem.W.findIn K (.ref C) f = some (some u)
  rel : RelV v u
  get : PySem.W.specialIn K u "__get__" = some none
  cp : PySem.W.copiedNames.contains f = false
structure Meth (K : PySem.W.Frag) (C : Addr) (m : Str) (f : Addr) : Prop where
  at_ : PySem.W.findIn K (.ref C) m = some (some (.ref f))
  fn : PySem.W.isFn K (.ref f) = true
  kp : PySem.W.keepIn K (.ref f) = true
section
variable {X : Cx} {pins : List (Addr × Obj)} {σ : St} {H : Hp} {s : Shared} {a C dx : Addr} {fs : List (Str × V)} {f : Str} {v : V} {A : Around} {E : Value → Shared → Prop}
end
section
variable {X : Cx} {o e value : Expr} {f : Str} {pos pos' tpos : Pos} {ta tv : TE}
end
section
variable {X : Cx} {pins : List (Addr × Obj)} {σ : St} {H : Hp} {s : Shared} {A : Around} {E : Value → Shared → Prop} {Q : Value → Shared → Prop} {c : Value} {b : Bool}
inductive TyOf (K : PySem.W.Frag) (H : Hp) : V → Value → Prop where
  | non : TyOf K H .non (.type "NoneType")
  | bl (x : Bool) : TyOf K H (.bl x) (.type "bool")
  | int (i : Int) : TyOf K H (.int i) (.type "int")
  | str (x : Str) : TyOf K H (.str x) (.type "str")
  | flt (x : UInt64) : TyOf K H (.flt x) (.type "float")
  | lst {a : Addr} {xs : List V} (e : H a = some (.lst xs)) : TyOf K H (.ref a) (.type "list")
  | frz {a : Addr} {o : Obj} {xs : List V} (e : H a = some (.frz o (.lst xs))) : TyOf K H (.ref a) (.type "list")
  | tup {a : Addr} {xs : List V} (e : H a = some (.tup xs)) : TyOf K H (.ref a) (.type "tuple")
  | dK {a : Addr} {kvs : List (Key × V)} (e : H a = some (.dK kvs)) : TyOf K H (.ref a) (.type "dict")
  | dT {a : Addr} {kvs : List (List Key × V)} (e : H a = some (.dT kvs)) : TyOf K H (.ref a) (.type "dict")
  | ins {a C dx : Addr} {fs : List (Str × V)} (e : H a = some (.ins C dx fs)) (cl : Cls K C) (ha : PySem.W.findIn K (.ref C) "__class__" = some (some (.builtin "object.__class__")))
      (hn : PySem.W.specialIn K (.builtin "object.__class__") "__get__" = some (some (.builtin "getset_descriptor.__get__"))) (htk : PySem.W.takesIn K (.builtin "object.__class__") = some true)
      (hm : PySem.W.mroIn K C (.type "object") = some true) : TyOf K H (.ref a) (.ref C)
end
end L2
namespace L2
open PySem PySem.Spec PyProof.Rows
structure Room (k : Nat) (A : Around) : Prop where
  hd : A.handled = none
  dp : A.depth + 3 * k + 5 < recursionLimit
  un : A.units + 16 * k + 200 < cLine
theorem Room.mono {j k : Nat} {A : Around} (r : Room k A) (h : j ≤ k) : Room j A := ⟨r.hd, by have := r.dp; omega, by have := r.un; omega⟩
theorem Room.deeper {k : Nat} {A : Around} (r : Room (k + 1) A) (env : Env) : Room k (A.deeper env) :=
  ⟨r.hd, by have := r.dp; show A.depth + 1 + 3 * k + 5 < _; omega, by have := r.un; show A.units + 3 + 16 * k + 200 < _; omega⟩
theorem Room.in1 {k : Nat} {A : Around} (r : Room (k + 1) A) : Room k A.in1 :=
  ⟨r.hd, by have := r.dp; show A.depth + 3 * k + 5 < _; omega, by have := r.un; show A.units + 1 + 16 * k + 200 < _; omega⟩
theorem Room.depth {k : Nat} {A : Around} (r : Room k A) : A.depth < recursionLimit := by have := r.dp; omega
theorem Room.units {k : Nat} {A : Around} (r : Room k A) : A.units + 64 < cLine := by have := r.un; omega
theorem Room.units0 {k : Nat} {A : Around} (r : Room k A) : A.units < cLine := by have := r.un; omega
def tNil : TA := fun _ H Q => Q [] H
def tCons (ta : TE) (tr : TA) : TA := fun σ H Q => ta σ H fun x H1 => tr σ H1 fun xs H2 => Q (x :: xs) H2
section
variable {X : Cx} {e : Expr} {es : List Expr} {te : TE} {t : TA} {pos : Pos}
theorem pa_nil : PA X [] tNil := fun _ _ _ _ H Q I h => Calls.spliced_nil ⟨[], H, I, .nil, h⟩
theorem pa_cons (ha : PE X e te) (hr : PA X es t) (hs : starEach (e :: es) X.env = (false, eval e X.env) :: starEach es X.env := by rfl) : PA X (e :: es) (tCons te t) := by
  intro pos pins s σ H Q I h
  rw [hs]
  show wpAny _ _ (spliced ((false, eval e X.env) :: backTo pos (starEach es X.env))) _ _ s
  refine Calls.spliced_cons (thn (ha pins s σ H _ I h) fun u s1 ⟨x, H1, I1, r1, q1⟩ => ?_)
  exact thn (hr pos pins s1 σ H1 _ I1 q1) fun us s2 ⟨xs, H2, I2, r2, q2⟩ => ⟨x :: xs, H2, I2, .cons r1 r2, q2⟩
def tTup (t : TA) : TE := fun σ H Q => t σ H fun xs H1 => xs.length ≤ sizeLine ∧ ∀ p, H1 p = none → Q (.ref p) (upd H1 p (.tup xs))
def tLst (t : TA) : TE := fun σ H Q => t σ H fun xs H1 => xs.length ≤ sizeLine ∧ ∀ p, H1 p = none → Q (.ref p) (upd H1 p (.lst xs))
theorem pe_tup {x1} (h : PA X es t) : PE X (.Tuple es x1 pos) (tTup t) := by
  intro pins s σ H Q I hq
  refine wpAny_Tuple_spliced (thn (h pos pins s σ H _ I hq) fun us s1 ⟨xs, H1, I1, r, z, q⟩ => ⟨by rw [← r.length]; exact z, ?_⟩)
  have hf : H1 s1.heap.objs.size = none := I1.hok.fresh (Nat.le_refl _)
  refine ⟨.ref s1.heap.objs.size, upd H1 s1.heap.objs.size (.tup xs), I1.laid (t' := s1.toks) (fun b u e => Heap.get?_push_of_some _ e) (Nat.le_refl _) ?_, rfl, q _ hf⟩
  exact ⟨z, us, r, ⟨_, Heap.get?_push_size _ rfl, rfl, _, rfl⟩⟩
theorem pe_lst (h : PA X es t) : PE X (.List es pos) (tLst t) := by
  intro pins s σ H Q I hq
  refine wpAny_List_spliced (thn (h pos pins s σ H _ I hq) fun us s1 ⟨xs, H1, I1, r, z, q⟩ => ⟨by rw [← r.length]; exact z, ?_⟩)
  have hf : H1 s1.heap.objs.size = none := I1.hok.fresh (Nat.le_refl _)
  refine ⟨.ref s1.heap.objs.size, upd H1 s1.heap.objs.size (.lst xs), I1.laid (t' := s1.toks) (fun b u e => Heap.get?_push_of_some _ e) (Nat.le_refl _) ?_, rfl, q _ hf⟩
  exact ⟨z, us, 0, r, Heap.get?_push_size _ rfl⟩
end
abbrev Sp := List V → Hp → VK → XK → Prop
abbrev CXT := List Env → Hp → Shared → XK → Value → Shared → Prop
structure Env0 (P : Program) (w : World) (K : PySem.W.Frag) (mg : Str → Option Value) (base : Heap) (A : Around) (outer : List Env) (s : Shared) (H : Hp) : Prop where
  frames : A.frames = some outer
  mod : Mod K mg base
  bs : ∀ b o, base.get? b = some o → s.heap.get? b = some o ∧ H b = none
  bsz : base.objs.size ≤ s.heap.objs.size
  funs : s.heap.FunFrames base outer
  frf : ∀ b ∈ frs outer, H b = none
  hok : HOk P w H s.heap
  bare : AllBare s.gens
def CE (outer : List Env) (P : Program) (w : World) (H : Hp) (s : Shared) (Q : VK) (u : Value) (s' : Shared) : Prop :=
  ∃ v H', s'.os = s.os ∧ AllBare s'.gens ∧ Un (frs outer) [] H H' s.heap s'.heap ∧ HOk P w H' s'.heap ∧ RelV v u ∧ Q v H'
def CR (CX : CXT) (outer : List Env) (P : Program) (w : World) (H : Hp) (s : Shared) (Q : VK) (E : XK) (r : Result) (s' : Shared) : Prop :=
  match r with
  | .ok (.ret u) => CE outer P w H s Q u s'
  | .ok _ => False
  | .error e => CX outer H s E e s'
structure FnOk (P : Program) (w : World) (K : PySem.W.Frag) (mg : Str → Option Value) (base : Heap) (CX : CXT) (k : Nat) (f : Addr) (fd : FuncData) (ps : List Str) (sp : Sp) : Prop where
  len : ∀ vs H Q E, sp vs H Q E → vs.length = ps.length
  run : ∀ (A : Around) (outer : List Env) (s : Shared) (H : Hp) (args : Args) (us : List Value) (vs : List V) (Q : VK) (E : XK), Room k A → Env0 P w K mg base A outer s H → BindsTo s fd args (ps.zip us) → Vals vs us → sp vs H Q E →
    codeAny (model P w) A (.call (.ref f) args) (CR CX outer P w H s Q E) s
theorem FnOk.mono {P : Program} {w : World} {K : PySem.W.Frag} {mg : Str → Option Value} {base : Heap} {CX : CXT} {j k : Nat} {f : Addr} {fd : FuncData} {ps : List Str} {sp : Sp} (F : FnOk P w K mg base CX j f fd ps sp) (h : j ≤ k) :
    FnOk P w K mg base CX k f fd ps sp := ⟨F.len, fun A outer s H args us vs Q E hr => F.run A outer s H args us vs Q E (hr.mono h)⟩
theorem FnOk.imp {P : Program} {w : World} {K : PySem.W.Frag} {mg : Str → Option Value} {base : Heap} {CX : CXT} {k : Nat} {f : Addr} {fd : FuncData} {ps : List Str} {sp sp' : Sp} (F : FnOk P w K mg base CX k f fd ps sp)
    (h : ∀ vs H Q E, sp' vs H Q E → sp vs H Q E) : FnOk P w K mg base CX k f fd ps sp' :=
  ⟨fun vs H Q E q => F.len vs H Q E (h _ _ _ _ q), fun A outer s H args us vs Q E hr he hb hv hs => F.run A outer s H args us vs Q E hr he hb hv (h _ _ _ _ hs)⟩
theorem Env0.in1 {P : Program} {w : World} {K : PySem.W.Frag} {mg : Str → Option Value} {base : Heap} {A : Around} {outer : List Env} {s : Shared} {H : Hp} (e : Env0 P w K mg base A outer s H) :
    Env0 P w K mg base A.in1 outer s H := ⟨e.frames, e.mod, e.bs, e.bsz, e.funs, e.frf, e.hok, e.bare⟩
section
variable {X : Cx} {pins : List (Addr × Obj)} {σ : St} {H : Hp} {s s' : Shared}
theorem Inv.env0 (I : Inv X pins σ H s) : Env0 X.prog X.w X.K X.mg X.base X.A X.stack s H :=
  ⟨I.ok.frames, I.ok.mod, I.bs, Nat.le_trans I.ok.bsz I.sz, I.stack, I.stkFree, I.hok, I.bare⟩
theorem Inv.after {Q : VK} {u : Value} (I : Inv X pins σ H s) (h : CE X.stack X.prog X.w H s Q u s') : EP X pins σ Q u s' := by
  obtain ⟨v, H', os, bare, un, hok, r, q⟩ := h
  obtain ⟨hh, g, d, t, os'⟩ := s'
  obtain rfl : os' = s.os := os
  exact ⟨v, H', I.call (h' := hh) (g' := g) (d' := d) (t' := t) (ch := []) un hok bare (fun b z => absurd z (by simp)), r, q⟩
end
def tCall (sp : Sp) (dvs : List V) (E : XK) (t : TA) : TE := fun σ H Q => t σ H fun vs H1 => sp (vs ++ dvs) H1 Q E
def Binds (K : PySem.W.Frag) (fd : FuncData) (ps : List Str) (ds : List Value) : Prop :=
  ∀ (s : Shared) (us : List Value), K.In s.heap → (us ++ ds).length = ps.length → BindsTo s fd ⟨us, []⟩ (ps.zip (us ++ ds))
theorem Binds.all {K : PySem.W.Frag} {fd : FuncData} {ps : List Str} (h : ∀ us : List Value, us.length = ps.length → bindArgs fd ⟨us, []⟩ = pure (ps.zip us)) : Binds K fd ps [] := fun s us _ hl => by
  rw [List.append_nil] at hl ⊢
  exact .of_eq (h us hl)
def Passes (CX : CXT) (X : Cx) (E : XK) : Prop := ∀ (pins : List (Addr × Obj)) (σ : St) (H : Hp) (s : Shared) (e : Value) (s' : Shared), Inv X pins σ H s → CX X.stack H s E e s' → X.xe e s'
section
variable {X : Cx} {CX : CXT} {k : Nat} {f C : Addr} {fd : FuncData} {ps : List Str} {sp : Sp} {dvs : List V} {ds : List Value} {E : XK} {x m : Str} {p pos apos : Pos} {e o : Expr} {es : List Expr} {ta : TE} {t : TA}
theorem run_fn {pins : List (Addr × Obj)} {σ : St} {H : Hp} {s : Shared} {Q : VK} {us : List Value} {vs : List V} (F : FnOk X.prog X.w X.K X.mg X.base CX k f fd ps sp) (hr : Room k X.A) (hb : Binds X.K fd ps ds) (hd : Vals dvs ds) (hx : Passes CX X E)
    (I : Inv X pins σ H s) (r : Vals vs us) (h : sp (vs ++ dvs) H Q E) : wpAny (model X.prog X.w) X.A (call (.ref f) us) (EP X pins σ Q) X.xe s := by
  have r2 : Vals (vs ++ dvs) (us ++ ds) := r.append hd
  have hl : (us ++ ds).length = ps.length := by rw [← r2.length]; exact F.len _ _ _ _ h
  refine wpAny_call (codeAny_mono (F.run X.A X.stack s H ⟨us, []⟩ (us ++ ds) (vs ++ dvs) Q E hr I.env0 (hb s us I.kIn hl) r2 h) fun r s' hq => ?_)
  cases r with
  | error e => exact hx pins σ H s e s' I hq
  | ok fl =>
    cases fl with
    | ret u => exact I.after hq
    | next => exact False.elim hq
    | brk => exact False.elim hq
    | cont => exact False.elim hq
theorem pe_call (F : FnOk X.prog X.w X.K X.mg X.base CX k f fd ps sp) (hr : Room k X.A) (hg : Gl X x) (hm : X.mg x = some (.ref f)) (hk : PySem.W.keepIn X.K (.ref f) = true) (hb : Binds X.K fd ps ds) (hd : Vals dvs ds) (hx : Passes CX X E)
    (ha : PA X (e :: es) t) (hdb : (x == ("__debug__" : Str)) = false := by decide) (he : starEach (e :: es) X.env = (false, eval e X.env) :: starEach es X.env := by rfl) (hpl : (backTo pos (starEach es X.env)).any (·.1) = false := by rfl) :
    PE X (.Call (.Name x p) (e :: es) [] pos) (tCall sp dvs E t) := by
  intro pins s σ H Q I h
  refine wpAny_Call_Name_kw (ld_glob I hg hm ?_ hdb)
  refine PySem.W.callWith_K (h₀ := X.base) I.ok.mod.kin hk (thn (ha pos pins s σ H _ I h) fun us s1 ⟨vs, H1, I1, r, q⟩ => ⟨I1.kIn, ?_⟩) he hpl
  exact run_fn F hr hb hd hx I1 r q
structure Mk (K : PySem.W.Frag) (C f : Addr) : Prop where
  makes : PySem.W.makesIn K C = true
  init : PySem.W.findIn K (.ref C) "__init__" = some (some (.ref f))
  fn : PySem.W.isFn K (.ref f) = true
  kp : PySem.W.keepIn K (.ref C) = true
end
section
variable {X : Cx} {CX : CXT} {k : Nat} {f C : Addr} {fd : FuncData} {ps ks : List Str} {sp : Sp} {E : XK} {x m : Str} {p pos apos kpos : Pos} {e o : Expr} {es : List Expr} {kws : List Keyword} {te ta : TE} {t tk : TA} {nm : Option Str}
structure KBinds (K : PySem.W.Frag) (fd : FuncData) (ps ks : List Str) (g : List Value → List Value → List Value) (gV : List V → List V → List V) : Prop where
  to : ∀ (s : Shared) (us ws : List Value), K.In s.heap → (g us ws).length = ps.length → BindsTo s fd ⟨us, ks.zip ws⟩ (ps.zip (g us ws))
  rel : ∀ {vs : List V} {us : List Value} {zs : List V} {ws : List Value}, Vals vs us → Vals zs ws → Vals (gV vs zs) (g us ws)
variable {g : List Value → List Value → List Value} {gV : List V → List V → List V}
end
structure FnScope (N P : List Str) (sc : Scope) : Prop where
  kind : sc.kind = .function
  co : sc.isCoroutine = false
  gen : sc.isGenerator = false
  nd : N.Nodup
  pre : N.take P.length = P
  par : ∀ x ∈ P, sc.names.lookup x = some .local ∨ sc.names.lookup x = some .cell
  nofree : ∀ y ∈ sc.names, y.2 ≠ .free
theorem bindL_out {kindOf : Str → Option NameKind} {x : Str} : ∀ {binds : List (Str × Value)} {m : Str → Option Value}, (∀ v, (x, v) ∉ binds) → bindL kindOf binds m x = m x
  | [], _, _ => rfl
  | (n, v) :: r, m, h => by
    unfold bindL
    rw [bindL_out fun w hw => h w (List.mem_cons_of_mem _ hw)]
    split
    · have : x ≠ n := by rintro rfl; exact h v List.mem_cons_self
      simp [this]
    · rfl
theorem bindC_out {kindOf : Str → Option NameKind} {x : Str} : ∀ {binds : List (Str × Value)} {m : Str → Option Value}, (∀ v, (x, v) ∉ binds) → bindC kindOf binds m x = m x
  | [], _, _ => rfl
  | (n, v) :: r, m, h => by
    unfold bindC
    rw [bindC_out fun w hw => h w (List.mem_cons_of_mem _ hw)]
    split
    · rfl
    · have : x ≠ n := by rintro rfl; exact h v List.mem_cons_self
      simp [this]
theorem bindL_get {kindOf : Str → Option NameKind} {x : Str} {v : Value} : ∀ {P : List Str} {vs : List Value} {i : Nat} {m : Str → Option Value}, P.Nodup → P[i]? = some x → vs[i]? = some v → kindOf x = some .local →
    bindL kindOf (P.zip vs) m x = some v
  | [], _, _, _, _, h, _, _ => by simp at h
  | _ :: _, [], _, _, _, _, h, _ => by simp at h
  | p :: P, w :: vs, 0, m, nd, h1, h2, hk => by
    simp at h1 h2; subst h1; subst h2
    show bindL kindOf ((p, w) :: P.zip vs) m p = _
    unfold bindL
    rw [bindL_out fun v hv => (List.nodup_cons.mp nd).1 (List.of_mem_zip hv).1, if_pos hk]
    simp
  | p :: P, w :: vs, i + 1, m, nd, h1, h2, hk => by
    show bindL kindOf ((p, w) :: P.zip vs) m x = _
    unfold bindL
    exact bindL_get (i := i) (List.nodup_cons.mp nd).2 (by simpa using h1) (by simpa using h2) hk
theorem bindC_get {kindOf : Str → Option NameKind} {x : Str} {v : Value} : ∀ {P : List Str} {vs : List Value} {i : Nat} {m : Str → Option Value}, P.Nodup → P[i]? = some x → vs[i]? = some v → kindOf x ≠ some .local →
    bindC kindOf (P.zip vs) m x = some v
  | [], _, _, _, _, h, _, _ => by simp at h
  | _ :: _, [], _, _, _, _, h, _ => by simp at h
  | p :: P, w :: vs, 0, m, nd, h1, h2, hk => by
    simp at h1 h2; subst h1; subst h2
    show bindC kindOf ((p, w) :: P.zip vs) m p = _
    unfold bindC
    rw [bindC_out fun v hv => (List.nodup_cons.mp nd).1 (List.of_mem_zip hv).1, if_neg hk]
    simp
  | p :: P, w :: vs, i + 1, m, nd, h1, h2, hk => by
    show bindC kindOf ((p, w) :: P.zip vs) m x = _
    unfold bindC
    exact bindC_get (i := i) (List.nodup_cons.mp nd).2 (by simpa using h1) (by simpa using h2) hk
def start (N : List Str) (vs : List V) : St := vs.map some ++ List.replicate (N.length - vs.length) none
def cxOf (CX : CXT) (P : Program) (w : World) (K : PySem.W.Frag) (mg : Str → Option Value) (base : Heap) (N : List Str) (qual : Str) (scope : Scope) (f : Addr) (cd : Value) (A : Around) (outer : List Env) (s : Shared) (H : Hp) (E : XK) : Cx where
  prog := P
  w := w
  K := K
  mg := mg
  base := base
  A := A.deeper (envOfC qual scope s.heap.objs.size f cd)
  N := N
  s₀ := s
  H₀ := H
  env := envOfC qual scope s.heap.objs.size f cd
  outer := outer
  stack := envOfC qual scope s.heap.objs.size f cd :: outer
  ex := []
  calm := true
  fn := fun _ => true
  pn := []
  xe := fun e s' => wpAny (model P w) (A.deeper (envOfC qual scope s.heap.objs.size f cd)) (leaving (envOfC qual scope s.heap.objs.size f cd) e) (fun _ s'' => CX outer H s E e s'') (fun e' s'' => CX outer H s E e' s'') s'
theorem cell_has {sc : Scope} {n : Nat} {x : Str} (h : sc.names.lookup x = some .cell) : ∃ c, (cellsFrom n sc.names []).lookup x = some c := by
  have q := PySem.W.cellsFrom_some sc.names n [] (.inl h)
  exact Option.isSome_iff_exists.mp q
theorem inv_start {CX : CXT} {P : Program} {w : World} {K : PySem.W.Frag} {mg : Str → Option Value} {base : Heap} {N ps : List Str} {qual : Str} {scope : Scope} {f : Addr} {cd : Value} {A : Around} {outer : List Env} {s s1 : Shared} {H : Hp} {E : XK} {us : List Value} {vs : List V}
    (S : FnScope N ps scope) (hd : A.handled = none) (e0 : Env0 P w K mg base A outer s H) (hl : vs.length = ps.length) (r : Vals vs us)
    (x : InCallC s s.heap.objs.size (bindL (envOfC qual scope s.heap.objs.size f cd).kindOf (ps.zip us) fun _ => none) (cellsFrom (s.heap.objs.size + 1) scope.names []) (bindC (envOfC qual scope s.heap.objs.size f cd).kindOf (ps.zip us) fun _ => none) s1) :
    Inv (cxOf CX P w K mg base N qual scope f cd A outer s H E) [] (start N vs) H s1 := by
  have hpl : ps.length ≤ N.length := by have := congrArg List.length S.pre; rw [List.length_take] at this; omega
  obtain ⟨h1, tk, rfl, hk⟩ := x.done
  have noA : ∀ b : Addr, b ∉ (cxOf CX P w K mg base N qual scope f cd A outer s H E).ex := fun b z => absurd (show b ∈ ([] : List Addr) from z) (by simp)
  refine ⟨⟨e0.mod, S.kind, rfl, rfl, Nat.le_refl _, fun y z c h1 h2 => ?_, fun y hy => ?_, fun y c _ h => ?_, fun _ => hd, Around.frames_deeper e0.frames, .inr ⟨rfl, rfl⟩, fun b z => absurd z (noA b), e0.bs, e0.bsz, fun b _ _ => noA b, fun b z => absurd z (noA b), e0.funs, e0.frf⟩,
    rfl, e0.bare, Un.kept hk, ⟨_, x.toInCall.ns, fun i y v h1 h2 h3 => ?_⟩, fun y c h => ⟨_, x.cell y c h⟩, e0.hok.fresh (Nat.le_refl _), fun y c h => ?_, fun p hp => absurd (show p ∈ ([] : List (Addr × Obj)) from hp) (by simp), e0.hok.kept hk, ?_⟩
  · exact name_of_addr x.apart (PySem.mem_of_lookup h1) (PySem.mem_of_lookup h2)
  · have hy : scope.names.lookup y = some .cell ∨ scope.names.lookup y = some .free := hy
    rcases hy with hy | hy
    · exact cell_has hy
    · exact absurd rfl (S.nofree _ (PySem.mem_of_lookup hy))
  · exact Nat.le_of_lt (x.above y c (PySem.mem_of_lookup h))
  · have hi : i < vs.length := by
      unfold start at h2
      by_cases hi : i < vs.length
      · exact hi
      · rw [List.getElem?_append_right (by simpa using hi)] at h2
        rw [List.getElem?_replicate] at h2
        split at h2 <;> cases h2
    have ha : vs[i]? = some v := by
      unfold start at h2
      rw [List.getElem?_append_left (by simpa using hi), List.getElem?_map] at h2
      cases e : vs[i]? with
      | none => rw [e] at h2; cases h2
      | some a => rw [e] at h2; cases h2; rfl
    obtain ⟨u, hu, rv⟩ := r.get ha
    have hp : ps[i]? = some y := by
      rw [← S.pre, List.getElem?_take_of_lt (by omega)]; exact h1
    have ndP : ps.Nodup := by rw [← S.pre]; exact S.nd.sublist (List.take_sublist _ _)
    refine ⟨u, rv, ?_⟩
    rcases S.par y (List.mem_of_getElem? hp) with k | k
    · exact .inl ⟨k, bindL_get ndP hp hu k⟩
    · obtain ⟨c, e⟩ := cell_has (n := s.heap.objs.size + 1) k
      refine .inr ⟨.inl k, c, e, ?_⟩
      have q := x.cell y c e
      rw [bindC_get ndP hp hu (by show scope.names.lookup y ≠ _; rw [k]; decide)] at q
      exact q
  · exact e0.hok.fresh (Nat.le_of_lt (x.above y c (PySem.mem_of_lookup h)))
  · unfold start
    show _ = N.length
    rw [List.length_append, List.length_map, List.length_replicate]
    omega
theorem fn_of {CX : CXT} {P : Program} {w : World} {K : PySem.W.Frag} {mg : Str → Option Value} {base : Heap} {k : Nat} {f : Addr} {name qual : Str} {params : Arguments} {body : List Stmt} {scope : Scope} {dV kV doc pm cdv ct oc : Value} {an od : Option Addr}
    {osl : Array (Option Value)} {N ps : List Str} {sp : Sp} (lk : K.lookup f = some ⟨oc, od, .func (PySem.W.fnOf name qual params body scope dV kV doc pm an cdv ct), osl⟩) (hcd : PySem.W.codeIn K cdv qual = true) (S : FnScope N ps scope)
    (len : ∀ vs H Q E, sp vs H Q E → vs.length = ps.length)
    (hbody : ∀ (A : Around) (outer : List Env) (s : Shared) (H : Hp) (vs : List V) (Q : VK) (E : XK), Room k (A.deeper (envOfC qual scope s.heap.objs.size f cdv)) → sp vs H Q E →
      ∃ t, PSs (cxOf CX P w K mg base N qual scope f cdv A outer s H E) body t ∧ t { nx := fun _ H' => Q .non H', rt := Q } (start N vs) H) :
    FnOk P w K mg base CX (k + 1) f (PySem.W.fnOf name qual params body scope dV kV doc pm an cdv ct) ps sp := by
  refine ⟨len, fun A outer s H args us vs Q E hr e0 hb r hsp => ?_⟩
  have hl := len _ _ _ _ hsp
  have KX : K.In s.heap := e0.mod.kin.keeps fun b o e => (e0.bs b o e).1
  have lim : s.heap.NoLimit := e0.mod.nolimit.keeps fun b o e => (e0.bs b o e).1
  have hkind : ∀ y ∈ ps.zip us, scope.names.lookup y.1 = some .local ∨ (scope.names.lookup y.1 = some .cell ∧ ((cellsFrom (s.heap.objs.size + 1) scope.names []).lookup y.1).isSome = true) := fun ⟨n, v⟩ hy => by
    rcases S.par n (List.of_mem_zip hy).1 with q | q
    · exact .inl q
    · exact .inr ⟨q, PySem.W.cellsFrom_some _ _ _ (.inl q)⟩
  refine codeAny_call_function hr.depth (KX _ _ lk) rfl S.co S.gen rfl (PySem.W.codeRec_of KX hcd) (hb _ _ _ _ ?_)
  refine wpAny_newFunctionEnv_cells S.kind hkind fun env he s1 x => ?_
  subst he
  refine ⟨lim.keeps x.toInCall.keep, codeAny_func ?_⟩
  obtain ⟨t, ht, hq⟩ := hbody A outer s H vs Q E (hr.deeper _) hsp
  have I : Inv (cxOf CX P w K mg base N qual scope f cdv A outer s H E) [] (start N vs) H s1 := inv_start S hr.hd e0 hl r x
  refine wpAny_mono (ht [] s1 (start N vs) H _ I hq) (fun fl s' hs => ?_) fun e s' hs => hs
  have fin : ∀ {σ' : St} {H' : Hp} {v : V} {u : Value}, Inv (cxOf CX P w K mg base N qual scope f cdv A outer s H E) [] σ' H' s' → RelV v u → Q v H' → CE outer P w H s Q u s' :=
    fun {σ' H' v u} J rv q => ⟨v, H', J.os, J.bare, J.base, J.hok, rv, q⟩
  cases fl with
  | ret u =>
    obtain ⟨v, σ', H', J, rv, q⟩ := hs
    exact fin J rv q
  | next =>
    obtain ⟨σ', H', J, q⟩ := hs
    exact fin (v := V.non) (u := Value.none) J rfl q
  | brk =>
    obtain ⟨_, _, _, q⟩ := hs
    exact False.elim q
  | cont =>
    obtain ⟨_, _, _, q⟩ := hs
    exact False.elim q
end L2
namespace L2
open PySem PySem.Spec PyProof.Rows
section
variable {X : Cx} {x : Str} {p pos : Pos} {e : Expr} {es : List Expr} {t : TA} {id T : String} {r : List V → Hp → VK → Prop}
def tCB (r : List V → Hp → VK → Prop) (t : TA) : TE := fun σ H Q => t σ H fun vs H1 => r vs H1 Q
theorem pe_callB (hc : CallR X (.builtin id) r) (hg : Gl X x) (hm : X.mg x = none) (hv : bootBuiltins x = some (.builtin id)) (ha : PA X (e :: es) t) (hn : x ≠ "__name__" := by decide) (hdb : (x == ("__debug__" : Str)) = false := by decide)
    (he : starEach (e :: es) X.env = (false, eval e X.env) :: starEach es X.env := by rfl) (hpl : (backTo pos (starEach es X.env)).any (·.1) = false := by rfl) : PE X (.Call (.Name x p) (e :: es) [] pos) (tCB r t) := by
  intro pins s σ H Q I h
  refine wpAny_Call_Name_kw (ld_blt I hg hm hv ?_ hn hdb)
  exact PyProof.Rows.callWith_builtin1 (thn (ha pos pins s σ H _ I h) fun us s1 ⟨vs, H1, I1, r1, q1⟩ => hc pins s1 σ H1 vs us Q I1 r1 q1) he hpl
theorem pe_callTy (hc : CallR X (.type T) r) (hg : Gl X x) (hm : X.mg x = none) (hv : bootBuiltins x = some (.type T)) (ha : PA X (e :: es) t) (hn : x ≠ "__name__" := by decide) (hdb : (x == ("__debug__" : Str)) = false := by decide)
    (he : starEach (e :: es) X.env = (false, eval e X.env) :: starEach es X.env := by rfl) (hpl : (backTo pos (starEach es X.env)).any (·.1) = false := by rfl) : PE X (.Call (.Name x p) (e :: es) [] pos) (tCB r t) := by
  intro pins s σ H Q I h
  refine wpAny_Call_Name_kw (ld_blt I hg hm hv ?_ hn hdb)
  exact PyProof.Rows.callWith_type1 (thn (ha pos pins s σ H _ I h) fun us s1 ⟨vs, H1, I1, r1, q1⟩ => hc pins s1 σ H1 vs us Q I1 r1 q1) he hpl
end
end L2
namespace HT
open PySem PyProof.Rows
section
open PySem.SeqAt
open PySem.AutoSeq1 (wpAny_loadPart')
open PySem.MeetsSeq PySem.MeetsSeq2 PySem.MeetsSeq3
end
section
variable {prog : Program} {w : World} {A : Around} {E : Value → Shared → Prop} {s : Shared}
theorem cat_tup {t b : Addr} {vs ws : List Value} {Q : Value → Shared → Prop} (ht : IsTup s.heap t vs.toArray) (hb : IsTup s.heap b ws.toArray) (hv : vs ≠ [])
    (h1 : ws = [] → Q (.ref t) s) (h2 : ws ≠ [] → Q (.ref s.heap.objs.size) { s with heap := s.heap.push { cls := .type "tuple", data := .seq (vs ++ ws).toArray } })
    (hsz : vs.length + ws.length ≤ sizeLine) : wpAny (model prog w) A (binaryOp .Add (.ref t) (.ref b)) Q E s := by
  obtain ⟨⟨cls, dd, data, sl⟩, ho, hc, n, hd⟩ := id ht
  obtain ⟨⟨cls2, dd2, data2, sl2⟩, ho2, hc2, n2, hd2⟩ := id hb
  simp only at hc hd hc2 hd2
  subst hc hd hc2 hd2
  have e : vs.toArray ++ ws.toArray = (vs ++ ws).toArray := by simp
  by_cases hw : ws = []
  · exact concat_meets ⟨_, ho, rfl⟩ ⟨_, ho2, rfl⟩ noFill_tuple_add seq_tuple_add PySem.F.slot_tuple_add PySem.F.entry_tuple_add (PySem.F.args_tuple_add_2 _ _)
      (tuple_addW1 t b vs.toArray ws.toArray n n2 dd dd2 sl sl2 (by simpa using hv) (by simp [hw])) ⟨ho, ho2, h1 hw⟩
  · refine concat_meets ⟨_, ho, rfl⟩ ⟨_, ho2, rfl⟩ noFill_tuple_add seq_tuple_add PySem.F.slot_tuple_add PySem.F.entry_tuple_add (PySem.F.args_tuple_add_2 _ _)
      (tuple_addW2 t b vs.toArray ws.toArray n n2 dd dd2 sl sl2 (by simpa using hv) (by simpa using hw) (by rw [List.size_toArray, List.size_toArray]; exact hsz)) ⟨ho, ho2, ?_⟩
    rw [e]
    exact h2 hw
def sIx (n d : Nat) : Option Int → Nat
  | none => d
  | some v => if v < 0 then (v + (n : Int)).toNat else min v.toNat n
theorem sIx_le (n d : Nat) (hd : d ≤ n) (o : Option Int) : sIx n d o ≤ n := by
  cases o with
  | none => exact hd
  | some v =>
    show (if v < 0 then (v + (n : Int)).toNat else min v.toNat n) ≤ n
    by_cases hv : v < 0
    · rw [if_pos hv]; omega
    · rw [if_neg hv]; exact Nat.min_le_right _ _
theorem clip_eq (v : Int) (n d : Nat) : (if v < 0 then max (v + (n : Int)) 0 else min v (n : Int)) = ((sIx n d (some v) : Nat) : Int) := by
  show (if v < 0 then max (v + (n : Int)) 0 else min v (n : Int)) = (((if v < 0 then (v + (n : Int)).toNat else min v.toNat n) : Nat) : Int)
  by_cases hv : v < 0
  · simp only [if_pos hv]; omega
  · simp only [if_neg hv]; omega
theorem adjust_gen (lo hi : Option Int) (n : Nat) : Builtin.Slice.sliceAdjust lo hi 1 (n : Int) = (((sIx n 0 lo : Nat) : Int), ((sIx n n hi : Nat) : Int)) := by
  have h1 : ¬ ((1 : Int) < 0) := by omega
  unfold Builtin.Slice.sliceAdjust
  simp only [h1, if_false]
  refine Prod.ext ?_ ?_
  · cases lo with
    | none => rfl
    | some v => exact clip_eq v n 0
  · cases hi with
    | none => rfl
    | some v => exact clip_eq v n n
theorem places_gen (i j : Nat) : Builtin.Slice.slicePlaces (i : Int) (j : Int) 1 = j - i := by
  unfold Builtin.Slice.slicePlaces
  have h1 : (1 : Int) > 0 := by omega
  simp only [h1, if_true, Int.ediv_one]
  split <;> omega
theorem slicePart_ {v : Value} {o : Option Int} {Q : Option Int → Shared → Prop} (p : IsPart v o) (h : Q o s) : wpAny (model prog w) A (Builtin.Slice.slicePartIndex v) Q E s := by
  cases p with
  | none => exact slicePart_none h
  | int i t => exact slicePart_int h
theorem sliceApplied_gen {sl : Addr} {vl vu : Value} {lo hi : Option Int} {n : Nat} {Q : Int × Int × Nat → Shared → Prop} (hs : s.heap.IsSliceOf sl vl vu .none) (pl : IsPart vl lo) (pu : IsPart vu hi)
    (h : Q (((sIx n 0 lo : Nat) : Int), 1, sIx n n hi - sIx n 0 lo) s) : wpAny (model prog w) A (Builtin.Slice.sliceApplied (.ref sl) (pure (n : Int))) Q E s := by
  obtain ⟨os, hos, hcs, hds⟩ := id hs
  unfold Builtin.Slice.sliceApplied Builtin.Slice.sliceFields
  refine wpAny_bind (wpAny_bind (wpAny_field hos hds (x := vl) rfl (wpAny_bind (wpAny_field hos hds (x := vu) rfl (wpAny_bind (wpAny_field hos hds (x := .none) rfl (wpAny_pure ?_)))))))
  refine wpAny_bind (slicePart_none ?_)
  show wpAny _ _ (if ((1 : Int) == 0) = true then _ else _) _ _ s
  rw [if_neg (by decide)]
  refine wpAny_bind (slicePart_ pl (wpAny_bind (slicePart_ pu (wpAny_bind (wpAny_pure ?_)))))
  show wpAny _ _ (match Builtin.Slice.sliceAdjust lo hi 1 (n : Int) with | (lo, hi) => pure (lo, (1 : Int), Builtin.Slice.slicePlaces lo hi 1)) _ _ s
  rw [adjust_gen lo hi n]
  show wpAny _ _ (pure (((sIx n 0 lo : Nat) : Int), (1 : Int), Builtin.Slice.slicePlaces ((sIx n 0 lo : Nat) : Int) ((sIx n n hi : Nat) : Int) 1)) _ _ s
  rw [places_gen]
  exact wpAny_pure h
theorem pick_gen (xs : Array Value) (i k : Nat) : ((List.range k).filterMap fun (m : Nat) => xs[((i : Int) + (m : Int) * 1).toNat]?).toArray = ((xs.toList.drop i).take k).toArray := by
  have e : (fun (m : Nat) => xs[((i : Int) + (m : Int) * 1).toNat]?) = fun m => xs[i + m]? := by
    funext m
    have : ((i : Int) + (m : Int) * 1).toNat = i + m := by omega
    rw [this]
  rw [e]
  have := pick_run xs i k
  rw [List.filterMap_map] at this
  have e2 : ((fun x => xs[x]?) ∘ fun x => i + x) = fun m => xs[i + m]? := rfl
  rw [e2] at this
  rw [this]
theorem getItem_tuple_cut {t sl : Addr} {items : Array Value} {vl vu : Value} {lo hi : Option Int} {Q : Value → Shared → Prop} (ht : IsTup s.heap t items) (hs : s.heap.IsSliceOf sl vl vu .none) (pl : IsPart vl lo) (pu : IsPart vu hi)
    (hw : ¬ (sIx items.size 0 lo = 0 ∧ sIx items.size items.size hi = items.size))
    (h : Q (.ref s.heap.objs.size) { s with heap := s.heap.push { cls := .type "tuple", data := .seq ((items.toList.drop (sIx items.size 0 lo)).take (sIx items.size items.size hi - sIx items.size 0 lo)).toArray } })
    (hsz : items.size ≤ sizeLine) : wpAny (model prog w) A (getItem (.ref t) (.ref sl)) Q E s := by
  have htake : sizeOk (.seq ((items.toList.drop (sIx items.size 0 lo)).take (sIx items.size items.size hi - sIx items.size 0 lo)).toArray) := by
    show ((items.toList.drop (sIx items.size 0 lo)).take (sIx items.size items.size hi - sIx items.size 0 lo)).toArray.size ≤ sizeLine
    rw [List.size_toArray, List.length_take, List.length_drop, Array.length_toList]
    omega
  have hj : sIx items.size items.size hi ≤ items.size := sIx_le _ _ (Nat.le_refl _) hi
  obtain ⟨os, hos, hcs, hds⟩ := id hs
  have hTs : s.TypeIs (.ref sl) "slice" := ⟨os, hos, hcs⟩
  unfold getItem
  try with_reducible refine wpAny_holding ?_
  first | refine wpAny_bind (wpAny_pure ?_) | skip
  refine wpAny_bind (wpAny_sequenceKey ht.typeIs (by decide) ?_)
  refine wpAny_bind (wpAny_callSpecial?_slot (name := Str.ofString "__getitem__") ht.typeIs PyProof.Rows.slot_tuple_getitem
    (wpAny_call_entry PyProof.Rows.slot_tuple_getitem ht.typeIs entry_tuple_getitem ?_ (args_tuple_getitem _ _)))
  show wpAny _ _ (Builtin.Tuple.tupleItemsOf (.ref t) >>= _) _ _ s
  refine wpAny_bind (tupleItemsOf_ ht ?_)
  refine wpAny_bind (wpAny_typeOf hTs ?_)
  rw [if_pos (by decide)]
  refine wpAny_bind (sliceApplied_gen hs pl pu ?_)
  have hno : ¬ ((((sIx items.size 0 lo : Nat) : Int) == 0 && (1 : Int) == 1 && (sIx items.size items.size hi - sIx items.size 0 lo) == items.size) = true) := by
    intro q
    rw [Bool.and_eq_true, Bool.and_eq_true] at q
    have q1 : ((sIx items.size 0 lo : Nat) : Int) = 0 := eq_of_beq q.1.1
    have q2 : sIx items.size items.size hi - sIx items.size 0 lo = items.size := eq_of_beq q.2
    exact hw ⟨by omega, by omega⟩
  show wpAny _ _ (if (((sIx items.size 0 lo : Nat) : Int) == 0 && (1 : Int) == 1 && (sIx items.size items.size hi - sIx items.size 0 lo) == items.size) = true then _ else _) _ _ s
  rw [if_neg hno, pick_gen]
  first
    | exact wpAny_bind (m := Builtin.Tuple.tupleExact _) (wpAny_newObj_type (wpAny_pure ⟨_, rfl, wpAny_pure h⟩) htake)
    | exact wpAny_bind (m := Builtin.Tuple.tupleExact _) (wpAny_newObj_type (wpAny_bind (wpAny_pure (wpAny_pure ⟨_, rfl, wpAny_pure h⟩))) htake)
    | exact wpAny_bind (wpAny_bind (m := Builtin.Tuple.tupleExact _) (wpAny_newObj_type (wpAny_pure (wpAny_pure ⟨_, rfl, wpAny_pure h⟩)) htake))
    | exact wpAny_bind (wpAny_bind (m := Builtin.Tuple.tupleExact _) (wpAny_newObj_type (wpAny_pure ⟨_, rfl, wpAny_pure h⟩) htake))
end
end HT
namespace L2
open PySem PySem.Spec PyProof.Rows
abbrev TO := St → Hp → (Option Int → Hp → Prop) → Prop
def PO (X : Cx) (e : Option Expr) (t : TO) : Prop :=
  ∀ (pins : List (Addr × Obj)) (s : Shared) (σ : St) (H : Hp) (Q : Option Int → Hp → Prop), Inv X pins σ H s → t σ H Q →
    wpAny (model X.prog X.w) X.A (evalPart e X.env) (fun u s' => ∃ o H', Inv X pins σ H' s' ∧ IsPart u o ∧ Q o H') X.xe s
def tNoPart : TO := fun _ H Q => Q none H
def tPart (t : TE) : TO := fun σ H Q => t σ H fun x H1 => ∃ i, x = .int i ∧ Q (some i) H1
theorem intsAre_of {ns : List Int} : ∀ {us : List Value}, Vals (ns.map V.int) us → IntsAre us ns := by
  induction ns with
  | nil => intro us r; rw [List.map_nil] at r; cases r; exact .nil
  | cons n ns ih =>
    intro us r
    rw [List.map_cons] at r
    cases r with
    | cons r1 r2 =>
      obtain ⟨t, e⟩ := r1
      subst e
      exact .cons n t (ih r2)
section
variable {X : Cx} {e : Expr} {te : TE} {lo hi : Option Expr} {tl th : TO} {pos p2 : Pos}
theorem po_none : PO X none tNoPart := by
  intro pins s σ H Q I h
  rw [evalPart_none]
  exact wpAny_pure ⟨none, H, I, .none, h⟩
theorem po_some (h : PE X e te) : PO X (some e) (tPart te) := by
  intro pins s σ H Q I hw
  rw [evalPart_some]
  refine thn (h pins s σ H _ I hw) fun u s1 ⟨x, H1, I1, r1, q1⟩ => ?_
  obtain ⟨i, rfl, q⟩ := q1
  obtain ⟨t, rfl⟩ := r1
  exact ⟨some i, H1, I1, .int i t, q⟩
def SlR (X : Cx) (r : V → Option Int → Option Int → Hp → VK → Prop) : Prop :=
  ∀ (pins : List (Addr × Obj)) (s : Shared) (σ : St) (H : Hp) (x : V) (v vl vu : Value) (lo hi : Option Int) (sl : Addr) (Q : VK), Inv X pins σ H s → RelV x v → s.heap.IsSliceOf sl vl vu .none → IsPart vl lo → IsPart vu hi → r x lo hi H Q →
    ∃ T id, typeLookup (.type T) "__getitem__" = pure (some (.builtin id)) ∧ s.TypeIs v T ∧ wpAny (model X.prog X.w) X.A (getItem v (.ref sl)) (EP X pins σ Q) X.xe s
theorem SlR.or {r r' : V → Option Int → Option Int → Hp → VK → Prop} (h : SlR X r) (h' : SlR X r') : SlR X (fun x lo hi H Q => r x lo hi H Q ∨ r' x lo hi H Q) := by
  intro pins s σ H x v vl vu lo hi sl Q I rx hs pl pu q
  rcases q with q | q
  · exact h pins s σ H x v vl vu lo hi sl Q I rx hs pl pu q
  · exact h' pins s σ H x v vl vu lo hi sl Q I rx hs pl pu q
def tSl (r : V → Option Int → Option Int → Hp → VK → Prop) (te : TE) (tl th : TO) : TE := fun σ H Q => te σ H fun x H1 => tl σ H1 fun l H2 => th σ H2 fun u H3 => r x l u H3 Q
theorem pe_slice {r : V → Option Int → Option Int → Hp → VK → Prop} (hr : SlR X r) (he : PE X e te) (hl : PO X lo tl) (hu : PO X hi th) : PE X (.Subscript e (.Slice lo hi none p2) pos) (tSl r te tl th) := by
  intro pins s σ H Q I h
  refine Subscript_ (thn (he pins s σ H _ I h) fun v s1 ⟨x, H1, I1, r1, q1⟩ => ?_)
  refine wpAny_Slice (thn (hl pins s1 σ H1 _ I1 q1) fun vl s2 ⟨l, H2, I2, pl, q2⟩ => thn (hu pins s2 σ H2 _ I2 q2) fun vu s3 ⟨u, H3, I3, pu, q3⟩ => ?_)
  rw [evalPart_none]
  refine wpAny_pure ?_
  have I4 : Inv X pins σ H3 { s3 with heap := s3.heap.push { cls := .type "slice", data := .fields #[vl, vu, .none] } } := I3.kept (t' := s3.toks) fun b ob q => Heap.get?_push_of_some _ q
  obtain ⟨T, id, hT, ht, hg⟩ := hr pins { s3 with heap := s3.heap.push { cls := .type "slice", data := .fields #[vl, vu, .none] } } σ H3 x v vl vu l u s3.heap.objs.size Q I4 r1 (Heap.IsSliceOf.new ..) pl pu q3
  show wpAny (model X.prog X.w) X.A (subscriptTail e (.Slice lo hi none p2) v (.ref s3.heap.objs.size)) (EP X pins σ Q) X.xe { s3 with heap := s3.heap.push { cls := .type "slice", data := .fields #[vl, vu, .none] } }
  exact tail_any (ops := [.ref s3.heap.objs.size, v]) ht hT hg (by with_unfolding_all rfl)
def cutV (xs : List V) (lo hi : Option Int) : List V := (xs.drop (HT.sIx xs.length 0 lo)).take (HT.sIx xs.length xs.length hi - HT.sIx xs.length 0 lo)
theorem cutV_length (xs : List V) (lo hi : Option Int) : (cutV xs lo hi).length ≤ xs.length := by
  unfold cutV
  rw [List.length_take, List.length_drop]
  omega
def rSlT (K : PySem.W.Frag) : V → Option Int → Option Int → Hp → VK → Prop := fun x lo hi H Q => ∃ a xs, x = .ref a ∧ SqT K H a xs ∧
  ¬ (HT.sIx xs.length 0 lo = 0 ∧ HT.sIx xs.length xs.length hi = xs.length) ∧ ∀ p, H p = none → Q (.ref p) (upd H p (.tup (cutV xs lo hi)))
theorem sl_tup : SlR X (rSlT X.K) := by
  intro pins s σ H x v vl vu lo hi sl Q I rx hs pl pu h
  obtain ⟨a, xs, rfl, hx, hw, q⟩ := h
  cases rx
  obtain ⟨its, r, ht, hz⟩ := I.tuple hx
  have hlen : its.toArray.size = xs.length := by rw [List.size_toArray]; exact r.length.symm
  refine ⟨"tuple", _, PyProof.Rows.slot_tuple_getitem.lookup, ht.typeIs, ?_⟩
  refine HT.getItem_tuple_cut ht hs pl pu (by rw [hlen]; exact hw) ?_ (by rw [hlen]; exact hz)
  rw [hlen]
  refine ⟨.ref s.heap.objs.size, _, I.laid (t' := s.toks) (o := .tup (cutV xs lo hi)) (fun b ob q => Heap.get?_push_of_some _ q) (Nat.le_refl _) ?_, rfl, q _ (I.hok.fresh (Nat.le_refl _))⟩
  exact ⟨Nat.le_trans (cutV_length xs lo hi) hz, _, (r.drop (HT.sIx xs.length 0 lo)).take (HT.sIx xs.length xs.length hi - HT.sIx xs.length 0 lo), IsTup.new _ _⟩
def rCatT (K : PySem.W.Frag) : R2 := fun x y H Q => ∃ a b xs ys, x = .ref a ∧ y = .ref b ∧ SqT K H a xs ∧ SqT K H b ys ∧ xs ≠ [] ∧ xs.length + ys.length ≤ sizeLine ∧
  (ys = [] → Q (.ref a) H) ∧ (ys ≠ [] → ∀ p, H p = none → Q (.ref p) (upd H p (.tup (xs ++ ys))))
theorem Vals.nil_iff {xs : List V} {us : List Value} (r : Vals xs us) : us = [] ↔ xs = [] := by
  cases r with
  | nil => simp
  | cons _ _ => simp
theorem op_catT : OpR X (binaryOp .Add) (rCatT X.K) := by
  intro pins s σ H x y v u Q I rx ry h
  obtain ⟨a, b, xs, ys, rfl, rfl, ha, hb, hx, hz, q1, q2⟩ := h
  cases rx
  cases ry
  obtain ⟨its, r1, p1, _⟩ := I.tuple ha
  obtain ⟨its2, r2, p2, _⟩ := I.tuple hb
  refine HT.cat_tup p1 p2 (fun z => hx (r1.nil_iff.mp z)) (fun z => ⟨.ref a, H, I, rfl, q1 (r2.nil_iff.mp z)⟩) (fun z => ?_) (by rw [← r1.length, ← r2.length]; exact hz)
  refine ⟨.ref s.heap.objs.size, _, I.laid (t' := s.toks) (o := .tup (xs ++ ys)) (fun b ob q => Heap.get?_push_of_some _ q) (Nat.le_refl _) ?_, rfl, q2 (fun w => z (r2.nil_iff.mpr w)) _ (I.hok.fresh (Nat.le_refl _))⟩
  exact ⟨by rw [List.length_append]; exact hz, _, r1.append r2, IsTup.new _ _⟩
end
end L2
namespace L2
open PySem PySem.Spec PyProof.Rows
def ixN (n : Nat) (i : Int) : Option Nat := if 0 ≤ i then (if i < n then some i.toNat else none) else if -(n : Int) ≤ i then some (i + n).toNat else none
def atI {α : Type} (xs : List α) (i : Int) : Option α := (ixN xs.length i).bind fun j => xs[j]?
theorem ixN_seq {n : Nat} {i : Int} {j : Nat} (h : ixN n i = some j) : seqIndex? i n = some j ∧ j < n ∧ -(n : Int) ≤ i ∧ i < n := by
  unfold ixN at h
  by_cases h0 : 0 ≤ i
  · rw [if_pos h0] at h
    by_cases h1 : i < n
    · rw [if_pos h1] at h
      have e : i.toNat = j := Option.some.inj h
      exact ⟨by rw [seqIndex_of h0 h1, e], by omega, by omega, h1⟩
    · rw [if_neg h1] at h; cases h
  · rw [if_neg h0] at h
    by_cases h1 : -(n : Int) ≤ i
    · rw [if_pos h1] at h
      have e : (i + n).toNat = j := Option.some.inj h
      exact ⟨by rw [seqIndex_neg (by omega) h1, e], by omega, h1, by omega⟩
    · rw [if_neg h1] at h; cases h
theorem atI_get {α : Type} {xs : List α} {i : Int} {v : α} (h : atI xs i = some v) : ∃ j, seqIndex? i xs.length = some j ∧ xs[j]? = some v ∧ j < xs.length ∧ -(xs.length : Int) ≤ i ∧ i < xs.length := by
  unfold atI at h
  cases e : ixN xs.length i with
  | none => rw [e] at h; cases h
  | some j =>
    rw [e] at h
    obtain ⟨h1, h2, h3, h4⟩ := ixN_seq e
    exact ⟨j, h1, h, h2, h3, h4⟩
theorem atI_nat {α : Type} {xs : List α} {j : Nat} {v : α} (h : xs[j]? = some v) : atI xs (j : Int) = some v := by
  have hj : j < xs.length := (List.getElem?_eq_some_iff.mp h).1
  have e : ixN xs.length (j : Int) = some j := by
    unfold ixN
    rw [if_pos (by omega), if_pos (by omega)]; simp
  unfold atI; rw [e]; exact h
def PlainIx (b : Expr) : Prop := ∀ o i, subscripted b false o i = operate [o, i] (getItem o i)
def IxR (X : Cx) (r : R2) : Prop :=
  ∀ (value slice : Expr) (pins : List (Addr × Obj)) (s : Shared) (σ : St) (H : Hp) (x y : V) (v u : Value) (Q : VK), Inv X pins σ H s → RelV x v → RelV y u → r x y H Q →
    subscripted slice false v u = operate [v, u] (getItem v u) → wpAny (model X.prog X.w) X.A (subscriptTail value slice v u) (EP X pins σ Q) X.xe s
def MtR (X : Cx) (id : String) (r : V → List V → Hp → VK → Prop) : Prop :=
  ∀ (pins : List (Addr × Obj)) (s : Shared) (σ : St) (H : Hp) (x : V) (xs : List V) (v : Value) (us : List Value) (Q : VK), Inv X pins σ H s → RelV x v → Vals xs us → r x xs H Q →
    wpAny (model X.prog X.w) X.A (call (.builtin id) (v :: us)) (EP X pins σ Q) X.xe s
section
variable {X : Cx} {a b : Expr} {ta tb : TE} {pos : Pos}
theorem IxR.or {r r' : R2} (h : IxR X r) (h' : IxR X r') : IxR X (fun x y H Q => r x y H Q ∨ r' x y H Q) := by
  intro value slice pins s σ H x y v u Q I rx ry q hs
  rcases q with q | q
  · exact h value slice pins s σ H x y v u Q I rx ry q hs
  · exact h' value slice pins s σ H x y v u Q I rx ry q hs
theorem MtR.or {id : String} {r r' : V → List V → Hp → VK → Prop} (h : MtR X id r) (h' : MtR X id r') : MtR X id (fun x xs H Q => r x xs H Q ∨ r' x xs H Q) := by
  intro pins s σ H x xs v us Q I rx rs q
  rcases q with q | q
  · exact h pins s σ H x xs v us Q I rx rs q
  · exact h' pins s σ H x xs v us Q I rx rs q
theorem pe_ix {r : R2} (hr : IxR X r) (ha : PE X a ta) (hb : PE X b tb) (hs : PlainIx b) : PE X (.Subscript a b pos) (tOp r ta tb) := by
  intro pins s σ H Q I h
  exact Subscript_ (binT ha hb I h fun v u s2 x y H2 I2 rx ry q => hr a b pins s2 σ H2 x y v u Q I2 rx ry q (hs _ _))
def rIxL (K : PySem.W.Frag) : R2 := fun x y H Q => ∃ p xs i v, x = .ref p ∧ y = .int i ∧ SqL K H p xs ∧ atI xs i = some v ∧ Q v H
def rIxT (K : PySem.W.Frag) : R2 := fun x y H Q => ∃ p xs i v, x = .ref p ∧ y = .int i ∧ SqT K H p xs ∧ atI xs i = some v ∧ Q v H
theorem ix_list : IxR X (rIxL X.K) := by
  intro value slice pins s σ H x y v u Q I rx ry h hs
  obtain ⟨p, xs, i, z, rfl, rfl, hq, he, q⟩ := h
  cases rx
  obtain ⟨t, rfl⟩ := ry
  obtain ⟨its, r, pl, hz⟩ := I.list hq
  obtain ⟨j, h1, h2, h3, h4, h5⟩ := atI_get he
  obtain ⟨w, ew, rw'⟩ := r.get h2
  have hl := r.length
  have hn := line63
  have fin : EP X pins σ Q w s := ⟨z, H, I, rw', q⟩
  by_cases h0 : 0 ≤ i
  · have hj : i.toNat = j := by
      rw [seqIndex_of h0 h5] at h1
      exact Option.some.inj h1
    exact item_listR pl.isList h0 (by omega) (by rw [hj]; simpa using ew) fin hs
  · have hj : (i + (its.toArray.size : Int)).toNat = j := by
      rw [seqIndex_neg (by omega) h4] at h1
      rw [List.size_toArray, ← hl]
      exact Option.some.inj h1
    exact subscriptTail_builtinR (x := w) pl.isList.typeIs slot_list_getitem.lookup
      (wpAny_getItem_list_neg (Q := fun r s' => r = w ∧ EP X pins σ Q r s') pl.isList (by omega) (by rw [List.size_toArray] <;> omega) (by omega) (by rw [hj]; simpa using ew) ⟨rfl, fin⟩) hs
theorem ix_tup : IxR X (rIxT X.K) := by
  intro value slice pins s σ H x y v u Q I rx ry h hs
  obtain ⟨p, xs, i, z, rfl, rfl, hq, he, q⟩ := h
  cases rx
  obtain ⟨t, rfl⟩ := ry
  obtain ⟨its, r, pl, hz⟩ := I.tuple hq
  obtain ⟨j, h1, h2, h3, h4, h5⟩ := atI_get he
  obtain ⟨w, ew, rw'⟩ := r.get h2
  have hl := r.length
  have hn := line63
  have fin : EP X pins σ Q w s := ⟨z, H, I, rw', q⟩
  exact subscriptTail_builtinR (x := w) pl.typeIs slot_tuple_getitem.lookup
    (getItem_tuple (j := j) (Q := fun r s' => r = w ∧ EP X pins σ Q r s') pl (by omega) (by omega) (by rw [List.size_toArray, ← hl]; exact h1) (by simpa using ew) ⟨rfl, fin⟩) hs
theorem Inv.lst {pins : List (Addr × Obj)} {σ : St} {H : Hp} {s : Shared} {p : Addr} {xs : List V} (I : Inv X pins σ H s) (h : H p = some (.lst xs)) :
    ∃ (its : List Value) (n : Nat), Vals xs its ∧ s.heap.get? p = some { cls := .type "list", data := .seq its.toArray n } ∧ xs.length ≤ sizeLine := by
  obtain ⟨z, its, n, r, e⟩ := I.hok p _ h
  exact ⟨its, n, r, e, z⟩
def rSetL : V → V → V → Hp → (Hp → Prop) → Prop := fun o i v H Q => ∃ p xs k j, o = .ref p ∧ i = .int k ∧ H p = some (.lst xs) ∧ ixN xs.length k = some j ∧ Q (upd H p (.lst (xs.set j v)))
theorem slice_bounds (lo hi : Option Int) (n : Nat) : (sliceBounds lo hi none n).1 = ((HT.sIx n 0 lo : Nat) : Int) ∧ (sliceBounds lo hi none n).2.1 = ((HT.sIx n n hi : Nat) : Int) ∧ (sliceBounds lo hi none n).2.2 = 1 := by
  refine ⟨?_, ?_, rfl⟩
  · cases lo with
    | none => simp [sliceBounds, HT.sIx]
    | some i =>
      simp only [sliceBounds, HT.sIx, Option.getD_none, show (1 : Int) > 0 by decide, if_true]
      by_cases h : i < 0
      · simp only [h, if_true] <;> omega
      · simp only [h, if_false] <;> omega
  · cases hi with
    | none => simp [sliceBounds, HT.sIx]
    | some i =>
      simp only [sliceBounds, HT.sIx, Option.getD_none, show (1 : Int) > 0 by decide, if_true]
      by_cases h : i < 0
      · simp only [h, if_true] <;> omega
      · simp only [h, if_false] <;> omega
theorem slicePick_cut (its : List Value) (lo hi : Option Int) : slicePick its.toArray lo hi none = ((its.drop (HT.sIx its.length 0 lo)).take (HT.sIx its.length its.length hi - HT.sIx its.length 0 lo)).toArray := by
  obtain ⟨h1, h2, h3⟩ := slice_bounds lo hi its.toArray.size
  unfold slicePick
  rw [h1, h2, h3]
  simp only [sliceRange_one, pick_run, List.size_toArray] <;> rfl
def rSlL (K : PySem.W.Frag) : V → Option Int → Option Int → Hp → VK → Prop := fun x lo hi H Q => ∃ a xs, x = .ref a ∧ SqL K H a xs ∧ ∀ p, H p = none → Q (.ref p) (upd H p (.lst (cutV xs lo hi)))
theorem sl_list : SlR X (rSlL X.K) := by
  intro pins s σ H x v vl vu lo hi sl Q I rx hs pl pu h
  obtain ⟨a, xs, rfl, hx, q⟩ := h
  cases rx
  obtain ⟨its, r, ht, hz⟩ := I.list hx
  have hlen := r.length
  refine ⟨"list", _, slot_list_getitem.lookup, ht.isList.typeIs, ?_⟩
  refine wpAny_getItem_list_slice ht.isList hs pl pu .none (by simp) ?_ (by rw [List.size_toArray] <;> omega)
  rw [slicePick_cut, ← hlen]
  refine ⟨.ref s.heap.objs.size, _, I.laid (t' := s.toks) (o := .lst (cutV xs lo hi)) (fun b ob q => Heap.get?_push_of_some _ q) (Nat.le_refl _) ?_, rfl, q _ (I.hok.fresh (Nat.le_refl _))⟩
  exact ⟨Nat.le_trans (cutV_length xs lo hi) hz, _, 0, (r.drop (HT.sIx xs.length 0 lo)).take (HT.sIx xs.length xs.length hi - HT.sIx xs.length 0 lo), Heap.get?_push_size _ rfl⟩
def flatV : V → Bool
  | .non => true
  | .bl _ => true
  | .int _ => true
  | .str _ => true
  | _ => false
def eqV : V → V → Bool
  | .non, .non => true
  | .bl a, .bl b => a == b
  | .bl a, .int b => (if a then 1 else 0) == b
  | .int a, .bl b => a == (if b then 1 else 0)
  | .int a, .int b => a == b
  | .str a, .str b => a == b
  | _, _ => false
theorem eqAt_V {A : Around} {s : Shared} {y x : V} {u v : Value} (ry : RelV y u) (rx : RelV x v) (fy : flatV y = true) (fx : flatV x = true) : SeqAt.EqAt A s u v (eqV y x) := by
  cases y with
  | non =>
    cases ry
    cases x with
    | non => cases rx; exact SeqAt.EqAt.same _
    | bl b => cases rx; exact SeqAt.EqAt.none_bool b
    | int b => obtain ⟨t, rfl⟩ := rx; exact SeqAt.EqAt.none_int b t
    | str b => obtain ⟨t, rfl⟩ := rx; exact SeqAt.EqAt.none_str b t
    | _ => exact absurd (show false = true from fx) Bool.false_ne_true
  | bl a =>
    cases ry
    cases x with
    | non => cases rx; exact SeqAt.EqAt.bool_none a
    | bl b => cases rx; exact SeqAt.EqAt.bool_bool a b
    | int b => obtain ⟨t, rfl⟩ := rx; exact SeqAt.EqAt.bool_int a b t
    | str b => obtain ⟨t, rfl⟩ := rx; exact SeqAt.EqAt.bool_str a b t
    | _ => exact absurd (show false = true from fx) Bool.false_ne_true
  | int a =>
    obtain ⟨t', rfl⟩ := ry
    cases x with
    | non => cases rx; exact SeqAt.EqAt.int_none a t'
    | bl b => cases rx; exact SeqAt.EqAt.int_bool a t' b
    | int b => obtain ⟨t, rfl⟩ := rx; exact SeqAt.EqAt.int_int a t' b t
    | str b => obtain ⟨t, rfl⟩ := rx; exact SeqAt.EqAt.int_str a t' b t
    | _ => exact absurd (show false = true from fx) Bool.false_ne_true
  | str a =>
    obtain ⟨t', rfl⟩ := ry
    cases x with
    | non => cases rx; exact SeqAt.EqAt.str_none a t'
    | bl b => cases rx; exact SeqAt.EqAt.str_bool a t' b
    | int b => obtain ⟨t, rfl⟩ := rx; exact SeqAt.EqAt.str_int a t' b t
    | str b => obtain ⟨t, rfl⟩ := rx; exact SeqAt.EqAt.str_str a t' b t
    | _ => exact absurd (show false = true from fx) Bool.false_ne_true
  | _ => exact absurd (show false = true from fy) Bool.false_ne_true
def eqU (x : V) (u : Value) : Bool := match u with
  | .none => eqV .non x
  | .bool b => eqV (.bl b) x
  | .int i _ => eqV (.int i) x
  | .str z _ => eqV (.str z) x
  | _ => false
theorem eqU_of {x y : V} {u : Value} (r : RelV y u) (f : flatV y = true) : eqU x u = eqV y x := by
  cases y with
  | non => cases r; rfl
  | bl b => cases r; rfl
  | int i => obtain ⟨t, rfl⟩ := r; rfl
  | str z => obtain ⟨t, rfl⟩ := r; rfl
  | _ => exact absurd (show false = true from f) Bool.false_ne_true
theorem any_eqU {x : V} : ∀ {xs : List V} {us : List Value}, Vals xs us → xs.all flatV = true → us.any (eqU x) = xs.any fun y => eqV y x
  | _, _, .nil, _ => rfl
  | y :: xs, u :: us, .cons r t, f => by
    rw [List.all_cons, Bool.and_eq_true] at f
    rw [List.any_cons, List.any_cons, eqU_of r f.1, any_eqU t f.2]
theorem mem_eqAt {A : Around} {s : Shared} {x : V} {v : Value} (rx : RelV x v) (fx : flatV x = true) : ∀ {xs : List V} {us : List Value}, Vals xs us → xs.all flatV = true → ∀ u ∈ us, SeqAt.EqAt A s u v (eqU x u)
  | _, _, .nil, _ => fun u hu => by cases hu
  | y :: xs, u :: us, .cons r t, f => fun u' hu => by
    rw [List.all_cons, Bool.and_eq_true] at f
    rcases List.mem_cons.mp hu with rfl | hu
    · rw [eqU_of r f.1]; exact eqAt_V r rx f.1 fx
    · exact mem_eqAt rx fx t f.2 u' hu
def inV (x : V) (xs : List V) : Bool := xs.any fun y => eqV y x
def rIn (K : PySem.W.Frag) (neg : Bool) : R2 := fun x y H Q => ∃ p xs, y = .ref p ∧ (SqL K H p xs ∨ SqT K H p xs) ∧ flatV x = true ∧ xs.all flatV = true ∧ Q (.bl (if neg then !inV x xs else inV x xs)) H
theorem op_in_seq : OpR X (compareOp .In) (rIn X.K false) := by
  intro pins s σ H x y v u Q I rx ry h
  obtain ⟨p, xs, rfl, hq, fx, fs, q⟩ := h
  cases ry
  rcases hq with hq | hq
  · obtain ⟨its, r, pl, hz⟩ := I.list hq
    refine SeqAt.in_listAt (eqU x) pl.isList (fun w hw => mem_eqAt rx fx r fs w (by simpa using hw)) ⟨.bl _, H, I, rfl, ?_⟩
    rw [show its.toArray.any (eqU x) = its.any (eqU x) by simp, any_eqU r fs]
    exact q
  · obtain ⟨its, r, pl, hz⟩ := I.tuple hq
    refine SeqAt.in_tupleAt (eqU x) pl (fun w hw => mem_eqAt rx fx r fs w (by simpa using hw)) ⟨.bl _, H, I, rfl, ?_⟩
    rw [show its.toArray.any (eqU x) = its.any (eqU x) by simp, any_eqU r fs]
    exact q
theorem call_len_seq : CallR X (.builtin "len") (fun xs H Q => ∃ p ys, xs = [.ref p] ∧ (SqL X.K H p ys ∨ SqT X.K H p ys) ∧ Q (.int ys.length) H) := by
  intro pins s σ H xs us Q I r h
  obtain ⟨p, ys, rfl, hq, q⟩ := h
  obtain ⟨u, rfl, rx⟩ := vals1 r
  cases rx
  have hn := line63
  rcases hq with hq | hq
  · obtain ⟨its, r', pl, hz⟩ := I.list hq
    have hlen := r'.length
    exact Calls.call_len_list pl.isList (by simp only [List.size_toArray] <;> omega) ⟨.int ys.length, H, I.tok _, ⟨s.toks + 1, by rw [List.size_toArray, hlen]⟩, q⟩
  · obtain ⟨its, r', pl, hz⟩ := I.tuple hq
    have hlen := r'.length
    exact len_tuple pl (by simp only [List.size_toArray] <;> omega) ⟨.int ys.length, H, I.tok _, ⟨s.toks + 1, by rw [List.size_toArray, hlen]⟩, q⟩
theorem CallR.or {f : Value} {r r' : List V → Hp → VK → Prop} (h : CallR X f r) (h' : CallR X f r') : CallR X f (fun xs H Q => r xs H Q ∨ r' xs H Q) := by
  intro pins s σ H xs us Q I rs q
  rcases q with q | q
  · exact h pins s σ H xs us Q I rs q
  · exact h' pins s σ H xs us Q I rs q
theorem call_tuple_of : CallR X (.type "tuple") (fun xs H Q => ∃ p ys, xs = [.ref p] ∧ ((SqL X.K H p ys ∧ ∀ l, H l = none → Q (.ref l) (upd H l (.tup ys))) ∨ (SqT X.K H p ys ∧ Q (.ref p) H))) := by
  intro pins s σ H xs us Q I r h
  obtain ⟨p, ys, rfl, h⟩ := h
  obtain ⟨u, rfl, rx⟩ := vals1 r
  cases rx
  rcases h with ⟨hq, q⟩ | ⟨hq, q⟩
  · obtain ⟨its, r', pl, hz⟩ := I.list hq
    have hlen := r'.length
    refine call_tuple_list pl.isList (fun h' kp => ?_) (by simp only [List.size_toArray] <;> omega)
    have I1 : Inv X pins σ H { s with heap := h' } := I.kept (t' := s.toks) kp
    have I2 : Inv X pins σ (upd H h'.objs.size (.tup ys)) { s with heap := h'.push { cls := .type "tuple", data := .seq its.toArray } } :=
      I1.laid (t' := s.toks) (fun b o e => Heap.get?_push_of_some _ e) (Nat.le_refl _) (show ObjOk X.prog X.w _ _ _ (.tup ys) from ⟨hz, its, r', IsTup.new _ _⟩)
    exact ⟨.ref h'.objs.size, _, I2, rfl, q _ (I1.hok.fresh (Nat.le_refl _))⟩
  · obtain ⟨its, r', pl, hz⟩ := I.tuple hq
    exact call_tuple_same pl ⟨.ref p, H, I, rfl, q⟩
def tyV (K : PySem.W.Frag) (T : String) (x : V) (H : Hp) : Prop := match x with
  | .str _ => T = "str"
  | .int _ => T = "int"
  | .ref p => (T = "list" ∧ ∃ xs, SqL K H p xs) ∨ (T = "tuple" ∧ ∃ o, K.lookup p = some o ∧ o.cls = .type "tuple" ∧ o.dict = none) ∨
      (T = "dict" ∧ ((∃ kvs, H p = some (.dK kvs)) ∨ ∃ kvs, H p = some (.dT kvs))) ∨ (T = "set" ∧ ∃ S n, H p = some (.set S n))
  | _ => False
theorem tyV_is {pins : List (Addr × Obj)} {σ : St} {H : Hp} {s : Shared} {T : String} {x : V} {v : Value} (I : Inv X pins σ H s) (r : RelV x v) (ty : tyV X.K T x H) :
    s.TypeIs v T ∧ ∀ a, v = .ref a → ∃ ob, s.heap.get? a = some ob ∧ ob.dict = none := by
  cases x with
  | str z =>
    obtain ⟨t, rfl⟩ := r
    cases (show T = "str" from ty)
    exact ⟨typeIs_str s z t, fun _ e => nomatch e⟩
  | int i =>
    obtain ⟨t, rfl⟩ := r
    cases (show T = "int" from ty)
    exact ⟨typeIs_int s i t, fun _ e => nomatch e⟩
  | ref p =>
    cases r
    rcases ty with ⟨rfl, xs, hq⟩ | ⟨rfl, o, hk, hc, hd⟩ | ⟨rfl, hk⟩ | ⟨rfl, S, n, hk⟩
    · obtain ⟨its, _, pl, _⟩ := I.list hq
      refine ⟨pl.isList.typeIs, fun a e => ?_⟩
      cases e
      obtain ⟨o, n, e, c, hd, _⟩ := pl
      exact ⟨o, e, hd⟩
    · refine ⟨⟨o, I.kIn p o hk, hc⟩, fun a e => ?_⟩
      cases e
      exact ⟨o, I.kIn _ o hk, hd⟩
    · have z : ∃ o, s.heap.get? p = some o ∧ o.ExactDict := by
        rcases hk with ⟨kvs, hk⟩ | ⟨kvs, hk⟩
        · obtain ⟨_, _, _, _, o, _, _, e, ex, _⟩ := I.hok p _ hk
          exact ⟨o, e, ex⟩
        · obtain ⟨_, _, _, _, o, _, _, e, ex, _⟩ := I.hok p _ hk
          exact ⟨o, e, ex⟩
      obtain ⟨o, e, ex⟩ := z
      refine ⟨⟨o, e, ex.1⟩, fun a e2 => ?_⟩
      cases e2
      exact ⟨o, e, ex.2.1⟩
    · obtain ⟨o, _, _, _, e, ex, _⟩ := I.hok p _ hk
      refine ⟨⟨o, e, ex.1⟩, fun a e2 => ?_⟩
      cases e2
      exact ⟨o, e, ex.2.1⟩
  | _ => exact False.elim ty
def tBM0 (K : PySem.W.Frag) (T : String) (r : V → List V → Hp → VK → Prop) (to : TE) : TE := fun σ H Q => to σ H fun x H1 => tyV K T x H1 ∧ r x [] H1 Q
def tBM (K : PySem.W.Frag) (T : String) (r : V → List V → Hp → VK → Prop) (to : TE) (t : TA) : TE := fun σ H Q => to σ H fun x H1 => tyV K T x H1 ∧ t σ H1 fun xs H2 => r x xs H2 Q
variable {o e : Expr} {es : List Expr} {to : TE} {t : TA} {name : Str} {apos cpos : Pos} {T id : String} {r : V → List V → Hp → VK → Prop}
end
end L2
namespace L2
open PySem PySem.Spec PyProof.Rows
def MtM (X : Cx) (id : String) (r : V → List V → Hp → VK → Prop) : Prop :=
  ∀ (pins : List (Addr × Obj)) (s : Shared) (σ : St) (H : Hp) (x : V) (xs : List V) (v : Value) (us : List Value) (Q : VK), Inv X pins σ H s → RelV x v → Vals xs us → r x xs H Q →
    wpAny (model X.prog X.w) X.A (call (.builtin id) (v :: us)) (EP X pins σ Q) X.xe s
theorem Vals.one : ∀ {x : V} {us : List Value}, Vals [x] us → ∃ u, us = [u] ∧ RelV x u
  | _, _, .cons r .nil => ⟨_, rfl, r⟩
theorem Vals.zero : ∀ {us : List Value}, Vals [] us → us = []
  | _, .nil => rfl
theorem Vals.dropLast {xs : List V} {us : List Value} (h : Vals xs us) : Vals xs.dropLast us.dropLast := by
  induction h with
  | nil => exact .nil
  | cons r t ih =>
    cases t with
    | nil => exact .nil
    | cons q t' => exact .cons r ih
theorem Vals.eraseIdx : ∀ {xs : List V} {us : List Value} (i : Nat), Vals xs us → Vals (xs.eraseIdx i) (us.eraseIdx i)
  | _, _, _, .nil => .nil
  | _, _, 0, .cons _ t => t
  | _, _, i + 1, .cons r t => .cons r (Vals.eraseIdx i t)
theorem erase_last {α : Type} (l : List α) : l.eraseIdx (l.length - 1) = l.dropLast := by
  induction l with
  | nil => rfl
  | cons a r ih =>
    cases r with
    | nil => rfl
    | cons b r =>
      have e : (a :: b :: r).length - 1 = ((b :: r).length - 1) + 1 := by
        have h1 : (a :: b :: r).length = r.length + 2 := rfl
        have h2 : (b :: r).length = r.length + 1 := rfl
        omega
      rw [e, List.eraseIdx_cons_succ, ih]
      all_goals rfl
section
variable {X : Cx} {pins : List (Addr × Obj)} {σ : St} {H : Hp} {s : Shared} {l b : Addr} {xs ys zs : List V}
theorem Inv.lset {its its' : List Value} {n : Nat} {f : Array Value → Array Value} {t' : Nat} (I : Inv X pins σ H s) (hH : H l = some (.lst xs))
    (e : s.heap.get? l = some { cls := .type "list", data := .seq its.toArray n }) (hf : f its.toArray = its'.toArray) (hv : Vals ys its') (hz : ys.length ≤ sizeLine) :
    Inv X pins σ (upd H l (.lst ys)) { s with heap := s.heap.update l (Obj.mapSeq f), toks := t' } := by
  have q := PySem.IsL.update e f
  rw [hf] at q
  refine I.write (x := l) (e := l) (by rw [hH]; exact trivial) (.inl rfl) (fun b' u hb hu => (Heap.get?_update_other s.heap (Obj.mapSeq f) (Ne.symm hb)).trans hu) ⟨_, q⟩ ?_
  exact ⟨hz, its', _, hv, q⟩
theorem Inv.lnew {its : List Value} {t' : Nat} (I : Inv X pins σ H s) (hv : Vals ys its) (hz : ys.length ≤ sizeLine) :
    Inv X pins σ (upd H s.heap.objs.size (.lst ys)) { s with heap := s.heap.push { cls := .type "list", data := .seq its.toArray }, toks := t' } :=
  I.laid (fun _ _ q => Heap.get?_push_of_some _ q) (Nat.le_refl _) ⟨hz, its, 0, hv, Heap.get?_push_size _ rfl⟩
theorem Inv.fresh (I : Inv X pins σ H s) : H s.heap.objs.size = none := I.hok.fresh (Nat.le_refl _)
theorem Inv.lstM (I : Inv X pins σ H s) (hH : H l = some (.lst xs)) : xs.length ≤ sizeLine ∧ ∃ (its : List Value) (n : Nat), Vals xs its ∧ xs.length = its.length ∧ s.heap.get? l = some { cls := .type "list", data := .seq its.toArray n } := by
  obtain ⟨z, its, n, r, e⟩ := I.hok l _ hH
  exact ⟨z, its, n, r, r.length, e⟩
end
section
variable {X : Cx}
def rAppend : V → List V → Hp → VK → Prop := fun x vs H Q => ∃ l xs y, x = .ref l ∧ vs = [y] ∧ H l = some (.lst xs) ∧ xs.length < sizeLine ∧ Q .non (upd H l (.lst (xs ++ [y])))
theorem mt_append : MtM X "list.append" rAppend := by
  intro pins s σ H x vs v us Q I rx rv h
  obtain ⟨l, xs, y, rfl, rfl, hH, hz, q⟩ := h
  cases rx
  obtain ⟨u, rfl, ru⟩ := rv.one
  obtain ⟨z, its, n, r, hl, e⟩ := I.lstM hH
  refine call_meets F.slot_list_append ⟨_, e, rfl⟩ F.entry_list_append (F.args_list_append_2 _ _) (PySem.list_append l its.toArray n u (by rw [List.size_toArray]; omega)) ⟨e, ?_⟩
  refine ⟨.non, _, I.lset (its' := its ++ [u]) hH e (by simp) (r.append (.cons ru .nil)) ?_, rfl, q⟩
  rw [List.length_append, List.length_singleton]
  omega
def rExtend : V → List V → Hp → VK → Prop := fun x vs H Q => ∃ l b xs zs, x = .ref l ∧ vs = [.ref b] ∧ H l = some (.lst xs) ∧ H b = some (.lst zs) ∧ xs.length + zs.length ≤ sizeLine ∧ Q .non (upd H l (.lst (xs ++ zs)))
def rPop : V → List V → Hp → VK → Prop := fun x vs H Q => ∃ l xs y, x = .ref l ∧ vs = [] ∧ H l = some (.lst xs) ∧ xs[xs.length - 1]? = some y ∧ Q y (upd H l (.lst xs.dropLast))
theorem mt_pop : MtM X "list.pop" rPop := by
  intro pins s σ H x vs v us Q I rx rv h
  obtain ⟨l, xs, y, rfl, rfl, hH, hy, q⟩ := h
  cases rx
  have hus := rv.zero
  subst hus
  obtain ⟨z, its, n, r, hl, e⟩ := I.lstM hH
  obtain ⟨u, hu, ru⟩ := r.get hy
  have hy' : its.toArray[its.toArray.size - 1]? = some u := by
    show its.toArray[its.length - 1]? = some u
    rw [← Array.getElem?_toList, ← hl]
    exact hu
  refine call_meets F.slot_list_pop ⟨_, e, rfl⟩ F.entry_list_pop (F.args_list_pop_1 _) (MeetsSeq.list_pop_last l its.toArray n u hy' (by rw [List.size_toArray]; omega)) ⟨e, ?_⟩
  refine ⟨y, _, I.lset (its' := its.dropLast) hH e ?_ r.dropLast ?_, ru, q⟩
  · show its.toArray.eraseIdxIfInBounds (its.toArray.size - 1) = its.dropLast.toArray
    rw [List.size_toArray, List.eraseIdxIfInBounds_toArray, erase_last]
  · rw [List.length_dropLast]
    omega
def rPopAt : V → List V → Hp → VK → Prop := fun x vs H Q => ∃ l xs i k y, x = .ref l ∧ vs = [.int i] ∧ H l = some (.lst xs) ∧ -(2 ^ 63) ≤ i ∧ i < 2 ^ 63 ∧ seqIndex? i xs.length = some k ∧ xs[k]? = some y ∧ Q y (upd H l (.lst (xs.eraseIdx k)))
def rCat : R2 := fun x y H Q => ∃ l b xs zs, x = .ref l ∧ y = .ref b ∧ H l = some (.lst xs) ∧ H b = some (.lst zs) ∧ xs.length + zs.length ≤ sizeLine ∧ ∀ p, H p = none → Q (.ref p) (upd H p (.lst (xs ++ zs)))
def rRep : R2 := fun x y H Q => ∃ l k xs, x = .ref l ∧ y = .int k ∧ H l = some (.lst xs) ∧ -(2 ^ 63) ≤ k ∧ k < 2 ^ 63 ∧ xs.length * k.toNat ≤ sizeLine ∧
  ∀ p, H p = none → Q (.ref p) (upd H p (.lst (List.replicate k.toNat xs).flatten))
end
section
variable {prog : Program} {w : World} {A : Around} {E : Value → Shared → Prop} {s : Shared}
end
section
variable {X : Cx}
end
end L2
namespace Att
open PySem PySem.W PySem.Calls PyProof.Rows
theorem ints_of_wellAll {P : Params} {h : Heap} : ∀ (ns : List Int) (vs : List Value), WellAll P h vs (ns.map WData.int) → IntsAre vs ns := by
  intro ns
  induction ns with
  | nil =>
    intro vs w
    rw [List.map_nil] at w
    cases w
    exact .nil
  | cons n ns ih =>
    intro vs w
    rw [List.map_cons] at w
    cases w with
    | cons a b =>
      cases a
      exact .cons _ _ (ih _ b)
theorem script_of {l : OpenLaw} {n : Nat} (hn : l.most = some n) {P : Params} {h : Heap} {args : List WData} {vals : List Value}
    (hpre : l.row.toRowW.claim.pre args = true) (hwl : WellAll P h vals args) :
    ∃ a vs ns, vals = [Value.ref a] ∧ args = [WData.list (ns.map WData.int)] ∧ h.get? a = some { cls := .type "list", data := .seq vs.toArray } ∧ IntsAre vs ns ∧ ns.length ≤ n := by
  have hsh : WShape.hasAll [] args [.list .int] = true := (pre_splitW hpre).1
  have hc : l.pre.holds [] { args := args } = true := (pre_splitW hpre).2
  obtain ⟨d, r, rfl, h1, h2⟩ := hasAllW_cons hsh
  obtain rfl := hasAllW_nil h2
  obtain ⟨xs, rfl, h3⟩ := hasW_list h1
  obtain ⟨ns, rfl⟩ := items_int h3
  have hlen : ns.length ≤ n := by
    unfold OpenLaw.pre at hc
    have h4 : (WTm.not (.lt (.lit (.int (n : Int))) (.len (.arg 0)))).holds [] { args := [.list (ns.map .int)] } = true := by
      have h4 := (holds_andW hc).1
      rw [hn] at h4
      exact h4
    have h5 := condW_of h4 (w_not (w_lt w_lit (w_len_list (w_arg rfl))))
    rw [List.length_map] at h5
    refine Nat.le_of_not_lt fun q => ?_
    have q' : (n : Int) < ((ns.length : Nat) : Int) := by omega
    first
      | (rw [decide_eq_true q'] at h5; exact absurd h5 (by decide))
      | (simp at h5; omega)
  cases hwl with
  | cons w1 w2 =>
    cases w2
    cases w1 with
    | list ho hall => exact ⟨_, _, ns, rfl, rfl, ho, ints_of_wellAll ns _ hall, hlen⟩
theorem post_true (l : OpenLaw) (args : List WData) : l.row.toRowW.claim.post args (.bool true) args = true :=
  postW_of (r := l.row.toRowW) (X := (true == true))
    (show WShape.has [] (.bool true) .bool = true by first | rfl | decide | simp [WShape.has, WShape.arms, WShape.armsAll])
    (show (WTm.eq .res (.lit (.bool true))).value [] { args := args, res := some (.bool true), after := args } = some (.bool (true == true)) from w_eq_bool (w_res rfl) w_lit) rfl
theorem attach_call {l : OpenLaw} {n : Nat} {q : Program} {loose : List Str} {XP : (Str → Option Value) → Heap → Prop} {YP : World → Heap → Prop} {d : DefRec}
    (hn : l.most = some n) (hdf : d.params.defaults = [])
    (call : ∀ (w : World) (s₀ s₁ : Shared) (mg mb : Str → Option Value) (fa : Addr) (o : Obj) (pm cd doc : Value) (a : Addr) (vs : List Value) (ns : List Int),
      Ground q loose [] XP w s₀ mg mb s₁.heap → YP w s₁.heap →
      s₁.heap.get? fa = some o → o.data = .func (docDef d.name d.params d.body d.scope pm cd doc) → s₁.heap.CodeRec cd d.name → mg d.name = some (.ref fa) →
      s₁.heap.get? a = some { cls := .type "list", data := .seq vs.toArray } → IntsAre vs ns → ns.length ≤ n → s₁.gens = #[] →
      codeAny (model l.prog w) callerA (.call (.ref fa) ⟨[.ref a], []⟩) (fun r s' => r = .ok (.ret (.bool true)) ∧ OldK s₁.heap s'.heap ∧ s'.os = s₁.os ∧ AllBare s'.gens) s₁) :
    WalkO q loose XP YP l.row.toRowW d [] (fun f vs => PySem.call f vs) := by
  intro w s₀ s₁ mg mb G Y fa o pm cd doc dV kV ho hd hcd hD hmg hg args vals as hpre hlay hrd hwl hlo
  obtain rfl : dV = .none := Dflts.none hD hdf
  obtain rfl : kV = .none := Dflts.noKw hD
  obtain ⟨a, vs, ns, rfl, rfl, hobj, hints, hlen⟩ := script_of hn hpre hwl
  refine enter_call (codeAny_mono (call w s₀ s₁ mg mb fa o pm cd doc a vs ns G Y ho (fd_plain hd) hcd hmg hobj hints hlen hg) fun r s' hq => ?_)
  obtain ⟨rfl, h2, h3, h4⟩ := hq
  exact ⟨.inl ⟨.bool true, .bool true, [], rfl, fun _ => rfl, .bool true, post_true l _, fun _ => ⟨List.Pairwise.nil, fun _ hm => (nomatch hm)⟩⟩, h2, h3, h4⟩
section
variable {prog : Program} {w : World} {A : Around} {E : Value → Shared → Prop} {s : Shared} {K : Frag}
end
end Att
namespace L2
open PySem PySem.Spec PyProof.Rows
theorem vals_ints : ∀ {vs : List Value} {ns : List Int}, IntsAre vs ns → Vals (ns.map V.int) vs
  | _, _, .nil => .nil
  | _, _, .cons n t h => .cons ⟨t, rfl⟩ (vals_ints h)
end L2
namespace L2
open PySem PySem.Spec PyProof.Rows
end L2
namespace L2
open PySem PySem.Spec PyProof.Rows
def defArgs (s : Stmt) : Arguments := match s with
  | .FunctionDef _ a _ _ _ _ _ _ _ _ => a
  | _ => { posonlyargs := [], args := [], vararg := none, kwonlyargs := [], kw_defaults := [], kwarg := none, defaults := [] }
def defBody (s : Stmt) : List Stmt := match s with
  | .FunctionDef _ _ b _ _ _ _ _ _ _ => b
  | _ => []
def defScope (s : Stmt) : Scope := match s with
  | .FunctionDef _ _ _ _ _ _ sc _ _ _ => sc
  | _ => { kind := .function, names := [], isGenerator := false, isCoroutine := false }
abbrev CX0 : CXT := fun _ _ _ _ _ _ => False
abbrev E0 : XK := fun _ _ _ => False
theorem pass0 {X : Cx} : Passes CX0 X E0 := fun _ _ _ _ _ _ _ h => h.elim
structure Fun (K : PySem.W.Frag) (x qual : Str) (st : Stmt) (f : Addr) (fd : FuncData) : Prop where
  ex : ∃ (oc : Value) (od : Option Addr) (kV doc pm : Value) (an : Option Addr) (cdv ct : Value) (osl : Array (Option Value)),
    fd = PySem.W.fnOf x qual (defArgs st) (defBody st) (defScope st) .none kV doc pm an cdv ct ∧ K.lookup f = some ⟨oc, od, .func fd, osl⟩ ∧ PySem.W.codeIn K cdv qual = true
  kp : PySem.W.keepIn K (.ref f) = true
section
variable {P : Program} {w : World} {K : PySem.W.Frag} {mg : Str → Option Value} {base : Heap}
theorem Fun.ok {x qual : Str} {st : Stmt} {f : Addr} {fd : FuncData} {N ps : List Str} {k : Nat} {sp : Sp} (F : Fun K x qual st f fd) (S : FnScope N ps (defScope st)) (len : ∀ vs H Q E, sp vs H Q E → vs.length = ps.length)
    (hbody : ∀ (cdv : Value) (A : Around) (outer : List Env) (s : Shared) (H : Hp) (vs : List V) (Q : VK) (E : XK), Room k (A.deeper (envOfC qual (defScope st) s.heap.objs.size f cdv)) → sp vs H Q E →
      ∃ t, PSs (cxOf CX0 P w K mg base N qual (defScope st) f cdv A outer s H E).nox (defBody st) t ∧ t { nx := fun _ H' => Q .non H', rt := Q } (start N vs) H) : FnOk P w K mg base CX0 (k + 1) f fd ps sp := by
  obtain ⟨oc, od, kV, doc, pm, an, cdv, ct, osl, rfl, lk, hcd⟩ := F.ex
  refine fn_of lk hcd S len fun A outer s H vs Q E hr hsp => ?_
  obtain ⟨t, h, q⟩ := hbody cdv A outer s H vs Q E hr hsp
  exact ⟨t, h.nox, q⟩
theorem Fun.binds {x qual : Str} {st : Stmt} {f : Addr} {fd : FuncData} {ps : List Str} (F : Fun K x qual st f fd)
    (h : ∀ (kV doc pm : Value) (an : Option Addr) (cdv ct : Value) (us : List Value), us.length = ps.length → bindArgs (PySem.W.fnOf x qual (defArgs st) (defBody st) (defScope st) .none kV doc pm an cdv ct) ⟨us, []⟩ = pure (ps.zip us)) : Binds K fd ps [] := by
  obtain ⟨oc, od, kV, doc, pm, an, cdv, ct, osl, rfl, lk, hcd⟩ := F.ex
  exact .all (h kV doc pm an cdv ct)
theorem fun_mk {x qual : Str} {st : Stmt} {f : Addr} {oc : Value} {od an : Option Addr} {osl : Array (Option Value)} {kV doc pm cdv ct : Value} (l : K.lookup f = some ⟨oc, od, .func (PySem.W.fnOf x qual (defArgs st) (defBody st) (defScope st) .none kV doc pm an cdv ct), osl⟩)
    (c : PySem.W.codeIn K cdv qual = true) (k : PySem.W.keepIn K (.ref f) = true) : Fun K x qual st f (PySem.W.fnOf x qual (defArgs st) (defBody st) (defScope st) .none kV doc pm an cdv ct) := ⟨⟨oc, od, kV, doc, pm, an, cdv, ct, osl, rfl, l, c⟩, k⟩
end
theorem small1000 {n : Nat} (h : n ≤ 1000) : n < sizeLine := Nat.lt_of_le_of_lt h (by decide)
section
variable {X : Cx}
theorem pv (i : Nat) {x : Str} {pos : Pos} (hN : X.N[i]? = some x := by rfl) (hv : Vis X.env.scope x := by first | exact Or.inl rfl | exact Or.inr (Or.inl rfl) | exact Or.inr (Or.inr rfl)) (hd : (x == ("__debug__" : Str)) = false := by decide)
    (hcd : (x == ("__classdict__" : Str)) = false := by decide) : PE X (.Name x pos) (tVar i) := pe_var hN hv hd hcd
end
def Same (H H' : Hp) : Prop := ∀ b o, H b = some o → H' b = some o
theorem Same.refl (H : Hp) : Same H H := fun _ _ h => h
theorem Same.trans {H H1 H2 : Hp} (a : Same H H1) (b : Same H1 H2) : Same H H2 := fun c o h => b c o (a c o h)
theorem Same.free {H H' : Hp} (e : Same H H') {l : Addr} (h : H' l = Option.none) : H l = Option.none := by
  cases q : H l with
  | none => rfl
  | some o =>
    rw [e l o q] at h
    cases h
theorem Same.seq {K : PySem.W.Frag} {H H' : Hp} {a : Addr} {xs : List V} (e : Same H H') (h : SqL K H a xs) : SqL K H' a xs := by
  rcases h with (h | ⟨o, h⟩) | h
  · exact .inl (.inl (e _ _ h))
  · exact .inl (.inr ⟨o, e _ _ h⟩)
  · exact .inr h
end L2
set_option maxHeartbeats 4000000
namespace L2
open PySem PySem.Spec PyProof.Rows
section
variable {prog : Program} {w : World} {A : Around} {R : Result → Shared → Prop} {s : Shared}
theorem compLoop_any {elt target iter : Expr} {scope : Scope} {pos : Pos} {it acc : Value} {env : Env} (I : Nat → Shared → Prop)
    (turn : ∀ n s, I n s → wpAny (model prog w) A (pyNext it) (fun r s₁ => match r with
      | none => R (.ok .next) s₁
      | some v => wpAny (model prog w) A (letOwnedTupleGo target it v) (fun _ s₀ => wpAny (model prog w) A (assign target env v) (fun _ s₂ => wpAny (model prog w) A (eval elt env) (fun x s₃ =>
          wpAny (model prog w) A (call (.builtin "list.append") [acc, x]) (fun _ s₄ => ∃ m, m < n ∧ I m s₄) (fun _ _ => False) s₃)
          (fun _ _ => False) s₂) (fun _ _ => False) s₀) (fun _ _ => False) s₁) (fun _ _ => False) s)
    (n : Nat) (h : I n s) :
    codeAny (model prog w) A (.compLoop (.ListComp elt [⟨target, iter, [], 0⟩] scope pos) 0 it acc env) R s := by
  refine codeAny_loop rfl I (fun n s hI => ?_) n h
  show wpAny _ _ ((compTurn (.ListComp elt [⟨target, iter, [], 0⟩] scope pos) 0 it acc env).onRaise (fun x => do noteFrame x env; theTreesLotGoes x)) _ _ s
  refine wpAny_noted ?_
  rw [compTurn_list1]
  refine wpAny_bind (wpAny_standAt (wpAny_bind (wpAny_mono (turn n s hI) (fun r s₁ h₁ => ?_) fun _ _ h' => h'.elim)))
  cases r with
  | none => exact wpAny_pure h₁
  | some v =>
    refine wpAny_bind (wpAny_mono h₁ (fun _ s₀ h₀ => ?_) fun _ _ h' => h'.elim)
    exact wpAny_bind (wpAny_mono h₀ (fun _ s₂ h₂ => wpAny_bind (wpAny_bind (wpAny_mono h₂ (fun x s₃ h₃ => wpAny_bind (wpAny_mono h₃
      (fun _ s₄ h₄ => wpAny_pure (wpAny_pure ⟨rfl, h₄⟩)) fun _ _ h' => h'.elim)) fun _ _ h' => h'.elim))) fun _ _ h' => h'.elim)
end
def cxComp (X : Cx) (N : List Str) (scope : Scope) (cl : List (Str × Addr)) (C : Addr) (ex : List Addr) (s : Shared) (H : Hp) : Cx where
  prog := X.prog
  w := X.w
  K := X.K
  mg := X.mg
  base := X.base
  A := X.A
  N := N
  s₀ := s
  H₀ := H
  env := compEnvC scope cl C X.env
  outer := X.stack
  stack := X.stack
  ex := ex
  fn := fun _ => false
  calm := X.calm
  pn := X.pn
  xe := fun _ _ => False
def compSt (k : Nat) (js : List Nat) (σ : St) : St := List.replicate k none ++ js.map fun j => (σ[j]?).join
def tComp (wi : TI) (k : Nat) (js : List Nat) (g : TG) (te : TE) : TE := fun σ H Q => wi σ H fun J H1 =>
  ∃ W : Nat → Nat → List V → St → Hp → Prop, (∃ m, W 0 m [] (compSt k js σ) H1) ∧ ∀ i m ys σ' H', W i m ys σ' H' →
    (J.stop i H' ∧ ∀ p, H' p = none → Q (.ref p) (upd H' p (.lst ys))) ∨
    (J.go i H' ∧ ys.length < sizeLine ∧ ∃ N : List V → St → Hp → Prop, (∀ zs σ2 H2, N zs σ2 H2 → ∃ m', m' < m ∧ W (i + 1) m' zs σ2 H2) ∧
      ∀ x H2, J.yld i H' x H2 → g x σ' H2 fun σ3 H3 => te σ3 H3 fun v H4 => N (ys ++ [v]) σ3 H4)
structure Cap (X : Cx) (scope : Scope) (cl : List (Str × Addr)) (x : Str) (j : Nat) : Prop where
  at_ : X.N[j]? = some x
  out : X.env.scope.names.lookup x = some .cell ∨ X.env.scope.names.lookup x = some .free
  inn : (relabel scope X.env).names.lookup x = some .cell ∨ (relabel scope X.env).names.lookup x = some .free
theorem join_some {σ : St} {j : Nat} {v : V} (h : (σ[j]?).join = some v) : σ[j]? = some (some v) := by
  cases e : σ[j]? with
  | none => rw [e] at h; cases h
  | some o =>
    rw [e] at h
    cases o with
    | none => cases h
    | some u => cases h; rfl
theorem comp_core {X : Cx} {elt tg iter : Expr} {scope : Scope} {cl : List (Str × Addr)} {pos : Pos} {own fv : List Str} {js : List Nat} {wi : TI} {g : TG} {te : TE}
    (hc : X.calm = true) (hi : PI X tg iter wi) (hclos : closureFor scope X.env = pure cl) (hcell : ∀ y ∈ scope.names, y.2 ≠ .cell) (hkind : scope.kind = .function)
    (hnames : ∀ y ∈ scope.names, y.2 = .local → scope.names.lookup y.1 = some .local)
    (hcl : ∀ x c, cl.lookup x = some c → X.env.cells.lookup x = some c)
    (hhas : ∀ x, ((relabel scope X.env).names.lookup x = some .cell ∨ (relabel scope X.env).names.lookup x = some .free) → ∃ c, cl.lookup x = some c)
    (hlen : js.length = fv.length) (hcap : ∀ (i : Nat) x j, fv[i]? = some x → js[i]? = some j → Cap X scope cl x j)
    (hg : ∀ (C : Addr) (ex : List Addr) (s : Shared) (H : Hp), PG (cxComp X (own ++ fv) scope cl C ex s H) tg g)
    (he : ∀ (C : Addr) (ex : List Addr) (s : Shared) (H : Hp), PE (cxComp X (own ++ fv) scope cl C ex s H) elt te)
    (hs : ∀ x, foldedSetIterable iter X.env x = pure x)
    {pins : List (Addr × Obj)} {s : Shared} {σ : St} {H : Hp} {Q : VK} {use : Option (Value → Sem Unit)} {QQ : Value → Shared → Prop} {fpos : Pos} (I : Inv X pins σ H s) (h : tComp wi own.length js g te σ H Q)
    (fin : ∀ (a C : Addr) (s5 : Shared) (H5 : Hp) (fl : Flow), Inv X pins σ H5 s5 → H5 C = none → C ≠ X.env.locals → X.s₀.heap.objs.size ≤ C → (∀ x c, X.env.cells.lookup x = some c → c ≠ C) → (∀ p ∈ X.pn ++ pins, p.1 ≠ C) → (∃ m, s5.heap.Ns C m) → Q (.ref a) H5 → compPost (model X.prog X.w) X.A X.xe use QQ (.ref a) C (.ok fl) s5) :
    wpAny (model X.prog X.w) X.A (comprehension (.ListComp elt [⟨tg, iter, [], 0⟩] scope pos) scope X.env fpos (newList []) false (firstIter [⟨tg, iter, [], 0⟩] X.env) use) QQ X.xe s := by
  refine wpAny_comprehension_free (use := use) rfl hs hclos hkind hnames (thn (hi pins s σ H _ I h) fun v s1 h1 => thn h1 fun itv s2 h2 => ?_)
  obtain ⟨it, fp, tn, J, H2, e, I2, T, st2, f2, W, ⟨m0, w0⟩, turn⟩ := h2
  subst e
  refine wpAny_newObj_type (wpAny_newFunctionEnv hcell (by intro y hy; simp at hy) (fun h₁ hns₁ hsb₁ => ?_) hkind)
  dsimp only at hns₁ hsb₁ ⊢
  generalize hHp : s2.heap.push { cls := .type "list", dict := none, data := .seq ([] : List Value).toArray } = hL at hns₁ hsb₁ ⊢
  have hC : hL.objs.size = s2.heap.objs.size + 1 := by rw [← hHp, Heap.size_push]
  have hDC : s2.heap.objs.size ≠ hL.objs.size := by rw [hC]; exact Nat.ne_of_lt (Nat.lt_succ_self _)
  have ltC : ∀ b, b < s2.heap.objs.size → b ≠ hL.objs.size := fun b hb => by rw [hC]; exact Nat.ne_of_lt (Nat.lt_succ_of_lt hb)
  have old : ∀ b o, s2.heap.get? b = some o → h₁.get? b = some o := fun b o e => hsb₁.extBut b o (ltC b (Heap.lt_size e)) (Heap.get?_push_of_some _ (hHp ▸ Heap.get?_push_of_some _ e))
  have hacc : h₁.get? s2.heap.objs.size = some { cls := .type "list", data := .seq ([] : List Value).toArray 0 } := hsb₁.extBut _ _ hDC (Heap.get?_push_of_some _ (hHp ▸ Heap.get?_push_size _ rfl))
  have hfresh : ∀ a, s2.heap.objs.size ≤ a → H2 a = none := fun a ha => I2.hok.fresh ha
  have fpL : ∀ b ∈ fp, b < s2.heap.objs.size := fun b hb => by
    obtain ⟨o, e, _⟩ := T.obj _ _ st2 b hb
    exact Heap.lt_size e
  have cellL : ∀ x c, cl.lookup x = some c → c < s2.heap.objs.size := fun x c e => by
    obtain ⟨v, q⟩ := I2.cell x c (hcl x c e)
    exact q.lt
  have pinL : ∀ p ∈ X.pn ++ pins, p.1 < s2.heap.objs.size := fun p hp => Heap.lt_size (I2.pin p hp).1
  generalize hX : cxComp X (own ++ fv) scope cl hL.objs.size fp s2 H2 = Y
  have ok : Y.Ok := by
    subst hX
    refine ⟨I2.ok.mod, hkind, I2.ok.glob, I2.ok.blt, by show s2.heap.objs.size ≤ hL.objs.size; omega, fun x y c h1 h2 => I2.ok.inj x y c (hcl x c h1) (hcl y c h2), fun x hx => hhas x hx,
      fun x c hf => absurd hf (by show ¬ (false = true); decide), I2.ok.hd, I2.ok.frames, .inl rfl, fun b hb => ⟨ltC b (fpL b hb), fun x c e => (f2 b hb).2.2.2.2.1 x c (hcl x c e)⟩, I2.bs, Nat.le_trans I2.ok.bsz I2.sz, fun b o e hb => ?_, fun b hb hz => ?_, I2.stack, I2.stkFree⟩
    · rcases (f2 b hb).2.2.2.1 with z | z
      · exact I2.ok.noex b o e z
      · exact absurd (Nat.lt_of_lt_of_le (Heap.lt_size e) (Nat.le_trans I2.ok.bsz z)) (Nat.lt_irrefl _)
    · rcases List.mem_cons.mp (I2.stkSub b hz) with z | z
      · exact (f2 b hb).2.1 z
      · exact (f2 b hb).2.2.1 z
  have hYl : Y.env.locals = hL.objs.size := by subst hX; rfl
  have hYs : Y.s₀ = s2 := by subst hX; rfl
  have hYH : Y.H₀ = H2 := by subst hX; rfl
  have hYx : Y.ex = fp := by subst hX; rfl
  have hYf : Y.fs = frs X.stack := by subst hX; rfl
  have hYc : Y.env.cells = cl := by subst hX; rfl
  have hYp : Y.pn = X.pn := by subst hX; rfl
  have pinOk : ∀ p ∈ X.pn ++ pins, s2.heap.get? p.1 = some p.2 ∧ H2 p.1 = none ∧ p.1 ≠ hL.objs.size ∧ p.1 ∉ frs X.stack ∧ ∀ v, p.2.data ≠ .cell v := fun p hp => by
    obtain ⟨e, n, ne, nf, d⟩ := I2.pin p hp
    refine ⟨e, n, ltC _ (Heap.lt_size e), fun z => ?_, d⟩
    rcases List.mem_cons.mp (I2.stkSub _ z) with q | q
    · exact ne q
    · exact nf q
  have stkL : ∀ b ∈ frs X.stack, b < s2.heap.objs.size := fun b hb => by
    obtain ⟨_, o, ho, _⟩ := I2.stack.mem hb
    exact Heap.lt_size ho
  have I3 : Inv Y (pins ++ [(s2.heap.objs.size, { cls := .type "list", data := .seq ([] : List Value).toArray 0 })]) (compSt own.length js σ) H2 { s2 with heap := h₁, toks := s2.toks + ([] : List (Str × Value)).length } := by
    refine ⟨ok, by subst hX; rfl, I2.bare, by rw [hYH, hYs]; exact Un.kept old, ⟨_, by rw [hYl]; exact hns₁, fun i x v e1 e2 e3 => ?_⟩, fun x c e => ?_, by rw [hYl]; exact hfresh _ (by omega), fun x c e => ?_, fun p hp => ?_, by subst hX; exact I2.hok.kept old, ?_⟩
    · subst hX
      have e1 : (own ++ fv)[i]? = some x := e1
      unfold compSt at e2
      by_cases hi : i < own.length
      · rw [List.getElem?_append_left (by simpa using hi), List.getElem?_replicate] at e2
        split at e2 <;> cases e2
      · rw [List.getElem?_append_right (by simpa using hi), List.length_replicate, List.getElem?_map] at e2
        rw [List.getElem?_append_right (by omega)] at e1
        cases ej : js[i - own.length]? with
        | none => rw [ej] at e2; cases e2
        | some j =>
          rw [ej] at e2
          have cp := hcap _ x j e1 ej
          have e2' : σ[j]? = some (some v) := join_some (Option.some.inj e2)
          obtain ⟨m, hn, hl⟩ := I2.loc
          obtain ⟨u, r, l⟩ := hl j x v cp.at_ e2' (cp.out.elim (fun z => .inr (.inl z)) fun z => .inr (.inr z))
          refine ⟨u, r, .inr ⟨cp.inn, ?_⟩⟩
          obtain ⟨c, ec⟩ := hhas x cp.inn
          rcases l with ⟨k, _⟩ | ⟨_, c', ec', z⟩
          · have k : X.env.scope.names.lookup x = some .local := k
            rcases cp.out with q | q <;> rw [q] at k <;> cases k
          · rw [hcl x c ec] at ec'
            cases ec'
            obtain ⟨o, ho, hd⟩ := z
            exact ⟨c, ec, o, old _ _ ho, hd⟩
    · rw [hYc] at e
      obtain ⟨v, o, ho, hd⟩ := I2.cell x c (hcl x c e)
      exact ⟨v, o, old _ _ ho, hd⟩
    · rw [hYc] at e
      exact I2.freeC x c (hcl x c e)
    · rw [hYp] at hp
      rw [hYl, hYf]
      rcases List.mem_append.mp hp with z | z
      · obtain ⟨a, b, c, d, f⟩ := pinOk p (List.mem_append_left _ z)
        exact ⟨old _ _ a, b, c, d, f⟩
      · rcases List.mem_append.mp z with z | z
        · obtain ⟨a, b, c, d, f⟩ := pinOk p (List.mem_append_right _ z)
          exact ⟨old _ _ a, b, c, d, f⟩
        · have e : p = _ := List.mem_singleton.mp z
          subst e
          exact ⟨hacc, hfresh _ (Nat.le_refl _), hDC, fun z => absurd (stkL _ z) (Nat.lt_irrefl _), fun v z => by cases z⟩
    · subst hX
      unfold compSt
      show _ = (own ++ fv).length
      simp [hlen]
  have hYprog : Y.prog = X.prog := by subst hX; rfl
  have hYw : Y.w = X.w := by subst hX; rfl
  have hYK : Y.K = X.K := by subst hX; rfl
  have hYA : Y.A = X.A := by subst hX; rfl
  have hYcalm : Y.calm = true := by subst hX; exact hc
  have hYxe : Y.xe = fun _ _ => False := by subst hX; rfl
  have hYenv : Y.env = compEnvC scope cl hL.objs.size X.env := by subst hX; rfl
  have hg' := hg hL.objs.size fp s2 H2
  have he' := he hL.objs.size fp s2 H2
  rw [hX] at hg' he'
  have fpOk : ∀ {H' : Hp} {pn : List (Addr × Obj)}, (∀ b ∈ fp, H' b = none) → (∀ p ∈ pn, p.1 = s2.heap.objs.size ∨ p ∈ pins) → ∀ b ∈ fp, FpOk Y pn H' b := fun hn hp b hb => by
    refine ⟨hn b hb, by rw [hYl]; exact ltC b (fpL b hb), ?_, .inl (by rw [hYx]; exact hb), fun x c e => ?_, fun p hq => ?_⟩
    · rw [hYf]
      intro hz
      rcases List.mem_cons.mp (I2.stkSub b hz) with z | z
      · exact (f2 b hb).2.1 z
      · exact (f2 b hb).2.2.1 z
    · rw [hYc] at e
      exact (f2 b hb).2.2.2.2.1 x c (hcl x c e)
    · rw [hYp] at hq
      rcases List.mem_append.mp hq with z | z
      · exact (f2 b hb).2.2.2.2.2 p (List.mem_append_left _ z)
      · rcases hp p z with q | q
        · rw [q]; exact Ne.symm (Nat.ne_of_lt (fpL b hb))
        · exact (f2 b hb).2.2.2.2.2 p (List.mem_append_right _ q)
  have loop : ∀ s₃ : Shared, s₃ = { s2 with heap := h₁, toks := s2.toks + ([] : List (Str × Value)).length } →
      codeAny (model X.prog X.w) X.A (.compLoop (.ListComp elt [⟨tg, iter, [], 0⟩] scope pos) 0 (.ref it) (.ref s2.heap.objs.size) (compEnvC scope cl hL.objs.size X.env))
        (compPost (model X.prog X.w) X.A X.xe use QQ (.ref s2.heap.objs.size) hL.objs.size) s₃ := by
    rintro s₃ rfl
    refine compLoop_any (fun n s' => ∃ i ys its k σ' H', Inv Y (pins ++ [(s2.heap.objs.size, { cls := .type "list", data := .seq (its : List Value).toArray k })]) σ' H' s' ∧ tn i s'.heap ∧ (∀ b ∈ fp, H' b = none) ∧ Vals ys its ∧ ys.length ≤ sizeLine ∧ W i n ys σ' H') ?_ m0
      ⟨0, [], [], 0, _, H2, I3, T.keep _ _ _ st2 fun b _ o e => old b o e, fun b hb => (f2 b hb).1, .nil, Nat.zero_le _, w0⟩
    rintro n s4 ⟨i, ys, its, k, σ4, H4, I4, st4, fr4, rv, hz, w4⟩
    have pinD : ∀ p ∈ (pins ++ [(s2.heap.objs.size, ({ cls := .type "list", data := .seq (its : List Value).toArray k } : Obj))]), p.1 = s2.heap.objs.size ∨ p ∈ pins := fun p hp => by
      rcases List.mem_append.mp hp with z | z
      · exact .inr z
      · rw [List.mem_singleton.mp z]; exact .inl rfl
    have F4 := fpOk (pn := pins ++ [(s2.heap.objs.size, { cls := .type "list", data := .seq (its : List Value).toArray k })]) fr4 pinD
    rcases turn i n ys σ4 H4 w4 with ⟨stop, qn⟩ | ⟨go, hlt, N, hN, step⟩
    · have d := T.done Y hYprog hYw hYK hYcalm i _ s4 σ4 H4 (fun _ _ => False) I4 F4 st4 stop
      rw [hYA] at d
      refine thn d fun r s5 ⟨hr, I5⟩ => ?_
      subst hr
      obtain ⟨m, hn, _⟩ := id I5.loc
      rw [hYl] at hn
      have hD := I5.pin (s2.heap.objs.size, { cls := .type "list", data := .seq (its : List Value).toArray k }) (List.mem_append_right _ (List.mem_append_right _ (List.mem_singleton.mpr rfl)))
      have hDn : H4 s2.heap.objs.size = none := hD.2.1
      have kp : ∀ b o, b ≠ hL.objs.size → s5.heap.get? b = some o → s5.heap.get? b = some o := fun b o _ e => e
      have B := I5.base
      rw [hYH, hYs, hYx, hYf] at B
      have s2C : ∀ b o, s2.heap.get? b = some o → b ≠ hL.objs.size := fun b o e => ltC b (Heap.lt_size e)
      have trk : ∀ b u, H4 b = some u → b ≠ s2.heap.objs.size := fun b u e z => by rw [z, hDn] at e; cases e
      have trC : ∀ b u, H4 b = some u → b ≠ hL.objs.size := fun b u e z => by
        have := I5.free
        rw [hYl, ← z, e] at this; cases this
      have hH2 : ∀ b u, H2 b = some u → b ≠ s2.heap.objs.size := fun b u e z => by rw [z, hfresh _ (Nat.le_refl _)] at e; cases e
      have IX : Inv X pins σ (upd H4 s2.heap.objs.size (.lst ys)) s5 := by
       refine I2.call' (ch := fp) (by show s5.os = s2.os; rw [I5.os, hYs]) ⟨fun b o e n hb hx => kp b o (s2C b o e) (B.keep b o e n hb hx), fun b o e n hb hx => ?_, fun b o e n hx => ?_, fun b o e hx => ?_, fun b xs e => ?_, fun b o u e => ?_, fun b ps e => ?_⟩ ?_ I5.bare (fun b hb => ⟨(f2 b hb).2.2.2.1, (f2 b hb).2.1, (f2 b hb).2.2.2.2.1, (f2 b hb).2.2.2.2.2⟩)
       · obtain ⟨sl, q⟩ := B.slot b o e n hb hx
         exact ⟨sl, kp b _ (s2C b o e) q⟩
       · rw [upd_ne (Nat.ne_of_lt (Heap.lt_size e))]
         exact B.free b o e n hx
       · obtain ⟨o', q⟩ := B.there b o e hx
         exact ⟨o', kp b o' (s2C b o e) q⟩
       · rw [upd_ne (hH2 b _ e)]
         exact B.tups b xs e
       · rw [upd_ne (hH2 b _ e)]
         exact B.frzs b o u e
       · obtain ⟨more, q⟩ := B.tbls b ps e
         exact ⟨more, by rw [upd_ne (hH2 b _ e)]; exact q⟩
       · intro b u e
         by_cases hb : b = s2.heap.objs.size
         · subst hb
           rw [upd_same] at e
           cases e
           exact ⟨hz, its, k, rv, kp _ _ hDC hD.1⟩
         · rw [upd_ne hb] at e
           have okb := I5.hok b u e
           rw [hYprog, hYw] at okb
           refine okb.stay (fun c v hc q => kp c v ?_ q) (fun c q => by rw [upd_ne (trk c _ q)]; exact q) fun c xs q => by rw [upd_ne (trk c _ q)]; exact q
           rcases hc with z | z
           · rw [z]; exact trC b u e
           · exact trC c _ z
      have zC : upd H4 s2.heap.objs.size (.lst ys) hL.objs.size = none := by
        rw [upd_ne (Ne.symm hDC)]
        have := I5.free
        rwa [hYl] at this
      exact fin s2.heap.objs.size hL.objs.size s5 _ _ IX zC (Ne.symm (ltC _ I2.lt)) (by have := I2.sz; omega) (fun x c e => ltC c (by obtain ⟨v, q⟩ := I2.cell x c e; exact q.lt)) (fun p hp => ltC _ (pinL p hp)) ⟨m, hn⟩ (qn _ hDn)
    · have d := T.item Y hYprog hYw hYK hYcalm i _ s4 σ4 H4 (fun _ _ => False) I4 F4 st4 go
      rw [hYA] at d
      refine thn d fun r s5 ⟨u, hr, h5⟩ => ?_
      subst hr
      refine thn h5 fun _ s6 ⟨x, H6, I6, r6, y6, st6, fr6⟩ => ?_
      have I6' := I6.pinned (fpOk (pn := pins ++ [(s2.heap.objs.size, { cls := .type "list", data := .seq (its : List Value).toArray k })]) fr6 pinD) (T.obj _ _ st6)
      have d7 := hg' _ s6 σ4 H6 x u _ I6' r6 (step x H6 y6)
      rw [hYprog, hYw, hYA, hYxe, hYenv] at d7
      refine thn d7 fun _ s7 ⟨σ7, H7, I7, q7⟩ => ?_
      have d8 := he' _ s7 σ7 H7 _ I7 q7
      rw [hYprog, hYw, hYA, hYxe, hYenv] at d8
      refine thn d8 fun u8 s8 ⟨v8, H8, I8, r8, n8⟩ => ?_
      obtain ⟨m', hm, w8⟩ := hN _ _ _ n8
      have pD := I8.pin (s2.heap.objs.size, { cls := .type "list", data := .seq (its : List Value).toArray k }) (List.mem_append_right _ (List.mem_append_left _ (List.mem_append_right _ (List.mem_singleton.mpr rfl))))
      have tn8 : tn (i + 1) s8.heap := T.keep _ _ _ st6 fun b hb o e => (I8.pin (b, o) (List.mem_append_right _ (List.mem_append_right _ (mem_pinsAt hb e)))).1
      have fr8 : ∀ b ∈ fp, H8 b = none := fun b hb => by
        obtain ⟨o, e, d⟩ := T.obj _ _ st6 b hb
        exact (I8.pin (b, o) (List.mem_append_right _ (List.mem_append_right _ (mem_pinsAt hb e)))).2.1
      have J8 : Inv Y pins σ7 H8 s8 := I8.unpinned.unpinned
      have eD : s8.heap.get? s2.heap.objs.size = some { cls := .type "list", data := .seq its.toArray k } := pD.1
      refine call_meets F.slot_list_append ⟨_, eD, rfl⟩ F.entry_list_append (F.args_list_append_2 _ _) (PySem.list_append _ its.toArray k u8 (by rw [List.size_toArray, ← rv.length]; omega)) ⟨eD, ?_⟩
      have other : ∀ b o, b ≠ s2.heap.objs.size → s8.heap.get? b = some o → (s8.heap.update s2.heap.objs.size (Obj.mapSeq fun xs => xs.push u8)).get? b = some o := fun b o nb e => (Heap.get?_update_other s8.heap _ (Ne.symm nb)).trans e
      have J9 := J8.turned (t' := s8.toks) (it := s2.heap.objs.size) (h' := s8.heap.update s2.heap.objs.size (Obj.mapSeq fun xs => xs.push u8)) other pD.2.1 (by rw [hYl]; exact hDC) (.inr (by rw [hYs]; exact Nat.le_refl _))
        (fun x c e => by rw [hYc] at e; exact Nat.ne_of_lt (cellL x c e)) (fun p hp => by rw [hYp] at hp; exact Nat.ne_of_lt (pinL p hp))
      have ep : (its.toArray.push u8) = (its ++ [u8]).toArray := by simp
      obtain ⟨kk, upD⟩ : ∃ kk, (s8.heap.update s2.heap.objs.size (Obj.mapSeq fun xs => xs.push u8)).get? s2.heap.objs.size = some { cls := .type "list", data := .seq (its ++ [u8]).toArray kk } := by
        have z := PySem.IsL.update eD (fun xs => xs.push u8)
        rw [ep] at z
        exact ⟨_, z⟩
      refine ⟨m', hm, i + 1, ys ++ [v8], its ++ [u8], kk, σ7, H8, J9.pins_of fun p hp => ?_, T.keep _ _ _ tn8 fun b hb o e => other b o (Nat.ne_of_lt (fpL b hb)) e, fr8, rv.append (.cons r8 .nil), ?_, w8⟩
      · rcases List.mem_append.mp hp with z | z
        · exact J9.pin p (List.mem_append_right _ z)
        · rw [List.mem_singleton.mp z]
          exact ⟨upD, pD.2.1, by rw [hYl]; exact hDC, by rw [hYf]; exact fun z => absurd (stkL _ z) (Nat.lt_irrefl _), fun v z => by cases z⟩
      · rw [List.length_append, List.length_singleton]; omega
  exact codeAny_compStart_list (loop _ rfl) (T.self _ 0 _ _ _ (T.keep _ _ _ st2 fun b _ o e => old b o e) (loop _ rfl))
theorem pe_comp {X : Cx} {elt tg iter : Expr} {scope : Scope} {cl : List (Str × Addr)} {pos : Pos} {own fv : List Str} {js : List Nat} {wi : TI} {g : TG} {te : TE}
    (hc : X.calm = true) (hi : PI X tg iter wi) (hclos : closureFor scope X.env = pure cl) (hcell : ∀ y ∈ scope.names, y.2 ≠ .cell) (hkind : scope.kind = .function)
    (hnames : ∀ y ∈ scope.names, y.2 = .local → scope.names.lookup y.1 = some .local)
    (hcl : ∀ x c, cl.lookup x = some c → X.env.cells.lookup x = some c)
    (hhas : ∀ x, ((relabel scope X.env).names.lookup x = some .cell ∨ (relabel scope X.env).names.lookup x = some .free) → ∃ c, cl.lookup x = some c)
    (hlen : js.length = fv.length) (hcap : ∀ (i : Nat) x j, fv[i]? = some x → js[i]? = some j → Cap X scope cl x j)
    (hg : ∀ (C : Addr) (ex : List Addr) (s : Shared) (H : Hp), PG (cxComp X (own ++ fv) scope cl C ex s H) tg g)
    (he : ∀ (C : Addr) (ex : List Addr) (s : Shared) (H : Hp), PE (cxComp X (own ++ fv) scope cl C ex s H) elt te)
    (hs : ∀ x, foldedSetIterable iter X.env x = pure x := by intro _; rfl) :
    PE X (.ListComp elt [⟨tg, iter, [], 0⟩] scope pos) (tComp wi own.length js g te) := by
  intro pins s σ H Q I h
  rw [eval_ListComp]
  refine comp_core (use := none) (QQ := EP X pins σ Q) hc hi hclos hcell hkind hnames hcl hhas hlen hcap hg he hs I h fun a C s5 H5 fl I5 zC zL zS zc zp ⟨m, hn⟩ q => ⟨m, hn, fun h' sc => ?_⟩
  exact ⟨.ref a, H5, I5.turned (t' := s5.toks) (it := C) (fun d o nd e => sc.extBut d o nd e) zC zL (.inr zS) zc zp, rfl, q⟩
theorem comp_list {K : PySem.W.Frag} {a : Addr} {xs : List V} {g : TG} {te : TE} {Q : VK} {σ : St} {H : Hp} (Pv : Nat → List V → St → Hp → Prop) (h0 : Pv 0 [] σ H) (hl : ∀ i ys σ H, i ≤ xs.length → Pv i ys σ H → SqL K H a xs)
    (hs : ∀ i x ys σ H, xs[i]? = some x → Pv i ys σ H → ys.length < sizeLine ∧ g x σ H fun σ3 H3 => te σ3 H3 fun v H4 => Pv (i + 1) (ys ++ [v]) σ3 H4) (hd : ∀ ys σ H, Pv xs.length ys σ H → ∀ p, H p = none → Q (.ref p) (upd H p (.lst ys))) :
    ∃ W : Nat → Nat → List V → St → Hp → Prop, (∃ m, W 0 m [] σ H) ∧ ∀ i m ys σ' H', W i m ys σ' H' →
      ((Itl K a).stop i H' ∧ ∀ p, H' p = none → Q (.ref p) (upd H' p (.lst ys))) ∨
      ((Itl K a).go i H' ∧ ys.length < sizeLine ∧ ∃ N : List V → St → Hp → Prop, (∀ zs σ2 H2, N zs σ2 H2 → ∃ m', m' < m ∧ W (i + 1) m' zs σ2 H2) ∧
        ∀ x H2, (Itl K a).yld i H' x H2 → g x σ' H2 fun σ3 H3 => te σ3 H3 fun v H4 => N (ys ++ [v]) σ3 H4) := by
  refine ⟨fun i m ys σ H => m = xs.length - i ∧ i ≤ xs.length ∧ Pv i ys σ H, ⟨xs.length, by simp, Nat.zero_le _, h0⟩, ?_⟩
  rintro i m ys σ H ⟨rfl, hi, p⟩
  have q := hl i ys σ H hi p
  by_cases hlt : i < xs.length
  · have e : xs[i]? = some xs[i] := by simp [hlt]
    refine .inr ⟨⟨xs, xs[i], q, e⟩, (hs i _ ys σ H e p).1, Pv (i + 1), fun zs σ' H' p' => ⟨xs.length - (i + 1), by omega, rfl, hlt, p'⟩, fun x H' y => ?_⟩
    obtain ⟨e, y⟩ := y
    subst e
    exact (hs i x ys σ _ (y xs q) p).2
  · have e : i = xs.length := by omega
    subst e
    exact .inl ⟨⟨xs, q, Nat.le_refl _⟩, hd ys σ H p⟩
theorem comp_tup {K : PySem.W.Frag} {a : Addr} {xs : List V} {g : TG} {te : TE} {Q : VK} {σ : St} {H : Hp} (Pv : Nat → List V → St → Hp → Prop) (h0 : Pv 0 [] σ H) (hl : ∀ i ys σ H, i ≤ xs.length → Pv i ys σ H → SqT K H a xs)
    (hs : ∀ i x ys σ H, xs[i]? = some x → Pv i ys σ H → ys.length < sizeLine ∧ g x σ H fun σ3 H3 => te σ3 H3 fun v H4 => Pv (i + 1) (ys ++ [v]) σ3 H4) (hd : ∀ ys σ H, Pv xs.length ys σ H → ∀ p, H p = none → Q (.ref p) (upd H p (.lst ys))) :
    ∃ W : Nat → Nat → List V → St → Hp → Prop, (∃ m, W 0 m [] σ H) ∧ ∀ i m ys σ' H', W i m ys σ' H' →
      ((Itt K a).stop i H' ∧ ∀ p, H' p = none → Q (.ref p) (upd H' p (.lst ys))) ∨
      ((Itt K a).go i H' ∧ ys.length < sizeLine ∧ ∃ N : List V → St → Hp → Prop, (∀ zs σ2 H2, N zs σ2 H2 → ∃ m', m' < m ∧ W (i + 1) m' zs σ2 H2) ∧
        ∀ x H2, (Itt K a).yld i H' x H2 → g x σ' H2 fun σ3 H3 => te σ3 H3 fun v H4 => N (ys ++ [v]) σ3 H4) := by
  refine ⟨fun i m ys σ H => m = xs.length - i ∧ i ≤ xs.length ∧ Pv i ys σ H, ⟨xs.length, by simp, Nat.zero_le _, h0⟩, ?_⟩
  rintro i m ys σ H ⟨rfl, hi, p⟩
  have q := hl i ys σ H hi p
  by_cases hlt : i < xs.length
  · have e : xs[i]? = some xs[i] := by simp [hlt]
    refine .inr ⟨⟨xs, xs[i], q, e⟩, (hs i _ ys σ H e p).1, Pv (i + 1), fun zs σ' H' p' => ⟨xs.length - (i + 1), by omega, rfl, hlt, p'⟩, fun x H' y => ?_⟩
    obtain ⟨e, y⟩ := y
    subst e
    exact (hs i x ys σ _ (y xs q) p).2
  · have e : i = xs.length := by omega
    subst e
    exact .inl ⟨⟨xs, q, Nat.le_refl _⟩, hd ys σ H p⟩
theorem comp_range {lo : Int} {n : Nat} {g : TG} {te : TE} {Q : VK} {σ : St} {H : Hp} (Pv : Nat → List V → St → Hp → Prop) (h0 : Pv 0 [] σ H)
    (hs : ∀ i ys σ H, i < n → Pv i ys σ H → ys.length < sizeLine ∧ g (.int (lo + i)) σ H fun σ3 H3 => te σ3 H3 fun v H4 => Pv (i + 1) (ys ++ [v]) σ3 H4) (hd : ∀ ys σ H, Pv n ys σ H → ∀ p, H p = none → Q (.ref p) (upd H p (.lst ys))) :
    ∃ W : Nat → Nat → List V → St → Hp → Prop, (∃ m, W 0 m [] σ H) ∧ ∀ i m ys σ' H', W i m ys σ' H' →
      ((Itr lo n).stop i H' ∧ ∀ p, H' p = none → Q (.ref p) (upd H' p (.lst ys))) ∨
      ((Itr lo n).go i H' ∧ ys.length < sizeLine ∧ ∃ N : List V → St → Hp → Prop, (∀ zs σ2 H2, N zs σ2 H2 → ∃ m', m' < m ∧ W (i + 1) m' zs σ2 H2) ∧
        ∀ x H2, (Itr lo n).yld i H' x H2 → g x σ' H2 fun σ3 H3 => te σ3 H3 fun v H4 => N (ys ++ [v]) σ3 H4) := by
  refine ⟨fun i m ys σ H => m = n - i ∧ i ≤ n ∧ Pv i ys σ H, ⟨n, by simp, Nat.zero_le _, h0⟩, ?_⟩
  rintro i m ys σ H ⟨rfl, hi, p⟩
  by_cases hlt : i < n
  · refine .inr ⟨hlt, (hs i ys σ H hlt p).1, Pv (i + 1), fun zs σ' H' p' => ⟨n - (i + 1), by omega, rfl, hlt, p'⟩, fun x H' y => ?_⟩
    obtain ⟨e, y⟩ := y
    subst e y
    exact (hs i ys σ _ hlt p).2
  · have e : i = n := by omega
    subst e
    exact .inl ⟨Nat.le_refl _, hd ys σ H p⟩
end L2
namespace L2
open PySem PySem.Spec PyProof.Rows
section
variable {P : Program} {w : World} {K : PySem.W.Frag} {mg : Str → Option Value} {base : Heap} {N : List Str} {qual : Str} {scope : Scope} {f : Addr} {cd : Value} {A : Around} {outer : List Env} {s : Shared} {H : Hp} {E : XK}
end
def tRaise (C : Addr) (Ex : Value → Hp → Prop) (t : TA) : TS := fun _ σ H => t σ H fun vs H1 => vs.length ≤ sizeLine ∧ Ex (.ref C) H1
section
variable {P : Program} {w : World} {K : PySem.W.Frag} {mg : Str → Option Value} {base : Heap}
end
end L2
namespace L2
open PySem PySem.Spec PyProof.Rows
def ExcO (a C : Addr) : HO := .ext fun h => ∃ o vs, h.get? a = some o ∧ o.cls = .ref C ∧ o.data = .fields vs
section
variable {X : Cx} {pins : List (Addr × Obj)} {σ : St} {H : Hp} {s : Shared}
theorem Inv.track {a : Addr} {o : HO} (I : Inv X pins σ H s) (hn : H a = none) (new : ObjOk X.prog X.w (upd H a o) s.heap a o) (h1 : a ≠ X.env.locals) (h2 : ∀ x c, X.env.cells.lookup x = some c → c ≠ a) (h3 : ∀ p ∈ X.pn ++ pins, p.1 ≠ a)
    (h4 : X.s₀.heap.get? a = none) : Inv X pins σ (upd H a o) s := by
  have ne : ∀ b u, H b = some u → b ≠ a := fun b u e z => by rw [z, hn] at e; cases e
  have n0 : ∀ b u, X.s₀.heap.get? b = some u → b ≠ a := fun b u e z => by rw [z, h4] at e; cases e
  refine ⟨I.ok, I.os, I.bare, ⟨I.base.keep, I.base.slot, fun b u e n hx => ?_, I.base.there, fun b xs e => ?_, fun b u v e => ?_, fun b ps e => ?_⟩, I.loc, I.cell, ?_, fun x c e => ?_, fun p hp => ?_, fun b u e => ?_, I.len⟩
  · rw [upd_ne (n0 b u e)]; exact I.base.free b u e n hx
  · have q := I.base.tups b xs e
    rw [upd_ne (ne b _ q)]; exact q
  · have q := I.base.frzs b u v e
    rw [upd_ne (ne b _ q)]; exact q
  · obtain ⟨more, q⟩ := I.base.tbls b ps e
    exact ⟨more, by rw [upd_ne (ne b _ q)]; exact q⟩
  · rw [upd_ne (Ne.symm h1)]; exact I.free
  · rw [upd_ne (h2 x c e)]; exact I.freeC x c e
  · obtain ⟨e, n, ne, nf, d⟩ := I.pin p hp
    exact ⟨e, by rw [upd_ne (h3 p hp)]; exact n, ne, nf, d⟩
  · by_cases hb : b = a
    · subst hb; rw [upd_same] at e; cases e; exact new
    · rw [upd_ne hb] at e
      exact (I.hok b u e).stay (fun c v _ q => q) (fun c q => by rw [upd_ne (ne c _ q)]; exact q) fun c xs q => by rw [upd_ne (ne c _ q)]; exact q
end
abbrev Cx.more (X : Cx) (xe : Value → Shared → Prop) (pn : List (Addr × Obj)) : Cx := { X with xe := xe, pn := pn }
theorem Cx.Ok.more {X : Cx} (ok : X.Ok) (xe : Value → Shared → Prop) (pn : List (Addr × Obj)) : (X.more xe pn).Ok :=
  ⟨ok.mod, ok.kind, ok.glob, ok.blt, ok.above, ok.inj, ok.has, ok.cab, ok.hd, ok.frames, ok.stk, ok.exf, ok.bs, ok.bsz, ok.noex, ok.exfs, ok.funs, ok.frf⟩
section
variable {X : Cx} {CX : CXT} {k : Nat} {f : Addr} {fd : FuncData} {ps : List Str} {sp : Sp} {dvs : List V} {ds : List Value} {EE : St → XK} {x : Str} {p pos : Pos} {e : Expr} {es : List Expr} {t : TA}
def tCallX (sp : Sp) (dvs : List V) (EE : St → XK) (t : TA) : TE := fun σ H Q => t σ H fun vs H1 => sp (vs ++ dvs) H1 Q (EE σ)
end
def goneEnds (D : Ends) (i : Nat) : Ends := { nx := fun σ H => D.nx (σ.set i none) H, rt := D.rt, bk := fun σ H => D.bk (σ.set i none) H, ct := fun σ H => D.ct (σ.set i none) H }
def caughtBy (C : Addr) (i : Nat) (ts : TS) (D : Ends) : St → XK := fun σ1 cls _ H1 => cls = .ref C ∧ ∀ a, H1 a = none → ts (goneEnds D i) (σ1.set i (some (.ref a))) (upd H1 a (ExcO a C))
def tTry (C : Addr) (i : Nat) (tb : (St → XK) → TS) (ts : TS) : TS := fun D σ H => tb (caughtBy C i ts D) D σ H
end L2
namespace L2
open PySem PySem.Spec PyProof.Rows
structure Callee (P : Program) (w : World) (K : PySem.W.Frag) (mg : Str → Option Value) (base : Heap) (CX : CXT) (k : Nat) (x : Str) (ps : List Str) (sp : Sp) : Prop where
  has : ∃ (f : Addr) (fd : FuncData), FnOk P w K mg base CX k f fd ps sp ∧ mg x = some (.ref f) ∧ PySem.W.keepIn K (.ref f) = true ∧ Binds K fd ps []
theorem Callee.mk' {P : Program} {w : World} {K : PySem.W.Frag} {mg : Str → Option Value} {base : Heap} {CX : CXT} {k : Nat} {x qual : Str} {st : Stmt} {f : Addr} {fd : FuncData} {ps : List Str} {sp : Sp} (F : Fun K x qual st f fd) (m : mg x = some (.ref f)) (b : Binds K fd ps [])
    (ok : FnOk P w K mg base CX k f fd ps sp) : Callee P w K mg base CX k x ps sp := ⟨⟨f, fd, ok, m, F.kp, b⟩⟩
theorem Callee.mono {P : Program} {w : World} {K : PySem.W.Frag} {mg : Str → Option Value} {base : Heap} {CX : CXT} {j k : Nat} {x : Str} {ps : List Str} {sp : Sp} (c : Callee P w K mg base CX j x ps sp) (h : j ≤ k) : Callee P w K mg base CX k x ps sp :=
  let ⟨f, fd, ok, m, kp, b⟩ := c.has; ⟨⟨f, fd, ok.mono h, m, kp, b⟩⟩
section
variable {X : Cx} {CX : CXT} {k : Nat} {ps : List Str} {sp : Sp} {E : XK} {x : Str} {p pos : Pos} {e : Expr} {es : List Expr} {t : TA}
theorem pe_cal (c : Callee X.prog X.w X.K X.mg X.base CX k x ps sp) (hr : Room k X.A) (hg : Gl X x) (hx : Passes CX X E) (ha : PA X (e :: es) t) (hdb : (x == ("__debug__" : Str)) = false := by decide)
    (he : starEach (e :: es) X.env = (false, eval e X.env) :: starEach es X.env := by rfl) (hpl : (backTo pos (starEach es X.env)).any (·.1) = false := by rfl) : PE X (.Call (.Name x p) (e :: es) [] pos) (tCall sp [] E t) := by
  obtain ⟨f, fd, ok, m, kp, b⟩ := c.has
  exact pe_call ok hr hg m kp b .nil hx ha hdb he hpl
end
end L2
namespace L2
open PySem PySem.Spec PyProof.Rows
theorem relabel_none {scope : Scope} {env : Env} (hfree : ∀ y ∈ scope.names, y.2 ≠ .free) : (relabel scope env).names = scope.names := by
  show scope.names.map _ = scope.names
  have all : ∀ l : List (Str × NameKind), (∀ y ∈ l, y.2 ≠ .free) → (l.map fun (x : Str × NameKind) => match x with | (n, k) => if (k == .free && env.scope.kind == .function && env.kindOf n == some .cell) then (n, .cell) else (n, k)) = l := by
    intro l
    induction l with
    | nil => intro _; rfl
    | cons y r ih =>
      intro hy
      obtain ⟨n, k⟩ := y
      have hk : (k == NameKind.free) = false := by simpa using hy (n, k) (List.mem_cons_self ..)
      rw [List.map_cons, ih fun z hz => hy z (List.mem_cons_of_mem _ hz)]
      simp [hk]
  exact all _ hfree
theorem pe_comp0 {X : Cx} {elt tg iter : Expr} {scope : Scope} {pos : Pos} {own : List Str} {wi : TI} {g : TG} {te : TE}
    (hc : X.calm = true) (hi : PI X tg iter wi) (hcell : ∀ y ∈ scope.names, y.2 ≠ .cell) (hfree : ∀ y ∈ scope.names, y.2 ≠ .free) (hkind : scope.kind = .function)
    (hnames : ∀ y ∈ scope.names, y.2 = .local → scope.names.lookup y.1 = some .local)
    (hg : ∀ (C : Addr) (ex : List Addr) (s : Shared) (H : Hp), PG (cxComp X own scope [] C ex s H) tg g)
    (he : ∀ (C : Addr) (ex : List Addr) (s : Shared) (H : Hp), PE (cxComp X own scope [] C ex s H) elt te)
    (hs : ∀ x, foldedSetIterable iter X.env x = pure x := by intro _; rfl) :
    PE X (.ListComp elt [⟨tg, iter, [], 0⟩] scope pos) (tComp wi own.length [] g te) := by
  refine pe_comp (own := own) (fv := []) (js := []) (cl := []) hc hi (closureFor_none hfree) hcell hkind hnames (fun x c h => by cases h) (fun x h => ?_) rfl (fun i x j h => by simp at h) (by simpa using hg) (by simpa using he) hs
  rw [relabel_none hfree] at h
  rcases h with h | h
  · exact absurd rfl (hcell _ (PySem.mem_of_lookup h))
  · exact absurd rfl (hfree _ (PySem.mem_of_lookup h))
end L2
namespace L2
open PySem PySem.Spec PyProof.Rows
def CDivW (i j : Int) : Prop := j ≠ 0 ∧ -18446744073709551616 < j ∧ j < 18446744073709551616
theorem log_small {y : Int} (h0 : -18446744073709551616 < y) (h1 : y < 18446744073709551616) : y.natAbs.log2 < 9000 := by
  by_cases z : y.natAbs = 0
  · rw [z]; decide
  · exact Nat.lt_of_lt_of_le ((Nat.log2_lt z).mpr (show y.natAbs < 2 ^ 64 by omega)) (by decide)
theorem op_fdivW {X : Cx} : OpR X (binaryOp .FloorDiv) (rI CDivW fun i j => .int (i.fdiv j)) := opI fun _ _ _ _ _ _ _ hc q => floordiv_int hc.1 q (.inl (PyProof.noPylong_of_log2 (log_small hc.2.1 hc.2.2)))
end L2
namespace L2
open PySem PySem.Spec PyProof.Rows
section
variable {K : PySem.W.Frag}
def LoopL (K : PySem.W.Frag) (g : TG) (tb : TS) (D : Ends) (σ : St) (x : V) (H1 : Hp) : Prop := ∃ a, x = .ref a ∧ (∃ xs, SqL K H1 a xs) ∧ ∃ W : Nat → Nat → St → Hp → Prop, (∃ m, W 0 m σ H1) ∧ ∀ i m σ H, W i m σ H →
  ((Itl K a).stop i H ∧ D.nx σ H) ∨ ((Itl K a).go i H ∧ ∃ N : St → Hp → Prop, (∀ σ' H', N σ' H' → ∃ m', m' < m ∧ W (i + 1) m' σ' H') ∧ ∀ x H', (Itl K a).yld i H x H' → g x σ H' fun σ2 H2 => tb { D with nx := N, ct := N, bk := D.nx } σ2 H2)
def LoopT (K : PySem.W.Frag) (g : TG) (tb : TS) (D : Ends) (σ : St) (x : V) (H1 : Hp) : Prop := ∃ a, x = .ref a ∧ (∃ xs, SqT K H1 a xs) ∧ ∃ W : Nat → Nat → St → Hp → Prop, (∃ m, W 0 m σ H1) ∧ ∀ i m σ H, W i m σ H →
  ((Itt K a).stop i H ∧ D.nx σ H) ∨ ((Itt K a).go i H ∧ ∃ N : St → Hp → Prop, (∀ σ' H', N σ' H' → ∃ m', m' < m ∧ W (i + 1) m' σ' H') ∧ ∀ x H', (Itt K a).yld i H x H' → g x σ H' fun σ2 H2 => tb { D with nx := N, ct := N, bk := D.nx } σ2 H2)
def LoopR (lo : Int) (n : Nat) (g : TG) (tb : TS) (D : Ends) (σ : St) (H1 : Hp) : Prop := ∃ W : Nat → Nat → St → Hp → Prop, (∃ m, W 0 m σ H1) ∧ ∀ i m σ H, W i m σ H →
  ((Itr lo n).stop i H ∧ D.nx σ H) ∨ ((Itr lo n).go i H ∧ ∃ N : St → Hp → Prop, (∀ σ' H', N σ' H' → ∃ m', m' < m ∧ W (i + 1) m' σ' H') ∧ ∀ x H', (Itr lo n).yld i H x H' → g x σ H' fun σ2 H2 => tb { D with nx := N, ct := N, bk := D.nx } σ2 H2)
theorem for_eqL {te : TE} {g : TG} {tb : TS} {D : Ends} {σ : St} {H : Hp} : tFor (iList K te) g tb D σ H = te σ H fun x H1 => LoopL K g tb D σ x H1 := rfl
theorem for_eqT {te : TE} {g : TG} {tb : TS} {D : Ends} {σ : St} {H : Hp} : tFor (iTup K te) g tb D σ H = te σ H fun x H1 => LoopT K g tb D σ x H1 := rfl
theorem for_eqR1 {ta : TA} {g : TG} {tb : TS} {D : Ends} {σ : St} {H : Hp} : tFor (iRng1 ta) g tb D σ H = ta σ H fun vs H1 => ∃ j : Int, vs = [.int j] ∧ -(2 ^ 62) ≤ j ∧ j < 2 ^ 62 ∧ LoopR 0 j.toNat g tb D σ H1 := rfl
theorem for_eqR2 {ta : TA} {g : TG} {tb : TS} {D : Ends} {σ : St} {H : Hp} : tFor (iRng2 ta) g tb D σ H = ta σ H fun vs H1 => ∃ i j : Int, vs = [.int i, .int j] ∧ (-(2 ^ 62) ≤ i ∧ i < 2 ^ 62 ∧ -(2 ^ 62) ≤ j ∧ j < 2 ^ 62) ∧ LoopR i (j - i).toNat g tb D σ H1 := rfl
theorem LoopL.mk {a : Addr} {xs : List V} {g : TG} {tb : TS} {D : Ends} {σ : St} {H : Hp} (hS : SqL K H a xs) (Pv : Nat → St → Hp → Prop) (h0 : Pv 0 σ H) (hl : ∀ i σ H, i ≤ xs.length → Pv i σ H → SqL K H a xs)
    (hs : ∀ i x σ H, xs[i]? = some x → Pv i σ H → g x σ H fun σ2 H2 => tb { D with nx := Pv (i + 1), ct := Pv (i + 1), bk := D.nx } σ2 H2) (hd : ∀ σ H, Pv xs.length σ H → D.nx σ H) : LoopL K g tb D σ (.ref a) H := ⟨a, rfl, ⟨xs, hS⟩, for_list Pv h0 hl hs hd⟩
theorem LoopT.mk {a : Addr} {xs : List V} {g : TG} {tb : TS} {D : Ends} {σ : St} {H : Hp} (hS : SqT K H a xs) (Pv : Nat → St → Hp → Prop) (h0 : Pv 0 σ H) (hl : ∀ i σ H, i ≤ xs.length → Pv i σ H → SqT K H a xs)
    (hs : ∀ i x σ H, xs[i]? = some x → Pv i σ H → g x σ H fun σ2 H2 => tb { D with nx := Pv (i + 1), ct := Pv (i + 1), bk := D.nx } σ2 H2) (hd : ∀ σ H, Pv xs.length σ H → D.nx σ H) : LoopT K g tb D σ (.ref a) H := ⟨a, rfl, ⟨xs, hS⟩, for_tup Pv h0 hl hs hd⟩
theorem LoopR.mk {lo : Int} {n : Nat} {g : TG} {tb : TS} {D : Ends} {σ : St} {H : Hp} (Pv : Nat → St → Hp → Prop) (h0 : Pv 0 σ H)
    (hs : ∀ i σ H, i < n → Pv i σ H → g (.int (lo + i)) σ H fun σ2 H2 => tb { D with nx := Pv (i + 1), ct := Pv (i + 1), bk := D.nx } σ2 H2) (hd : ∀ σ H, Pv n σ H → D.nx σ H) : LoopR lo n g tb D σ H := for_range Pv h0 hs hd
def CompL (K : PySem.W.Frag) (k : Nat) (js : List Nat) (g : TG) (te : TE) (σ : St) (x : V) (H1 : Hp) (Q : VK) : Prop := ∃ a, x = .ref a ∧ (∃ xs, SqL K H1 a xs) ∧ ∃ W : Nat → Nat → List V → St → Hp → Prop, (∃ m, W 0 m [] (compSt k js σ) H1) ∧ ∀ i m ys σ' H', W i m ys σ' H' →
    ((Itl K a).stop i H' ∧ ∀ p, H' p = none → Q (.ref p) (upd H' p (.lst ys))) ∨
    ((Itl K a).go i H' ∧ ys.length < sizeLine ∧ ∃ N : List V → St → Hp → Prop, (∀ zs σ2 H2, N zs σ2 H2 → ∃ m', m' < m ∧ W (i + 1) m' zs σ2 H2) ∧ ∀ x H2, (Itl K a).yld i H' x H2 → g x σ' H2 fun σ3 H3 => te σ3 H3 fun v H4 => N (ys ++ [v]) σ3 H4)
def CompT (K : PySem.W.Frag) (k : Nat) (js : List Nat) (g : TG) (te : TE) (σ : St) (x : V) (H1 : Hp) (Q : VK) : Prop := ∃ a, x = .ref a ∧ (∃ xs, SqT K H1 a xs) ∧ ∃ W : Nat → Nat → List V → St → Hp → Prop, (∃ m, W 0 m [] (compSt k js σ) H1) ∧ ∀ i m ys σ' H', W i m ys σ' H' →
    ((Itt K a).stop i H' ∧ ∀ p, H' p = none → Q (.ref p) (upd H' p (.lst ys))) ∨
    ((Itt K a).go i H' ∧ ys.length < sizeLine ∧ ∃ N : List V → St → Hp → Prop, (∀ zs σ2 H2, N zs σ2 H2 → ∃ m', m' < m ∧ W (i + 1) m' zs σ2 H2) ∧ ∀ x H2, (Itt K a).yld i H' x H2 → g x σ' H2 fun σ3 H3 => te σ3 H3 fun v H4 => N (ys ++ [v]) σ3 H4)
def CompR (lo : Int) (n k : Nat) (js : List Nat) (g : TG) (te : TE) (σ : St) (H1 : Hp) (Q : VK) : Prop := ∃ W : Nat → Nat → List V → St → Hp → Prop, (∃ m, W 0 m [] (compSt k js σ) H1) ∧ ∀ i m ys σ' H', W i m ys σ' H' →
    ((Itr lo n).stop i H' ∧ ∀ p, H' p = none → Q (.ref p) (upd H' p (.lst ys))) ∨
    ((Itr lo n).go i H' ∧ ys.length < sizeLine ∧ ∃ N : List V → St → Hp → Prop, (∀ zs σ2 H2, N zs σ2 H2 → ∃ m', m' < m ∧ W (i + 1) m' zs σ2 H2) ∧ ∀ x H2, (Itr lo n).yld i H' x H2 → g x σ' H2 fun σ3 H3 => te σ3 H3 fun v H4 => N (ys ++ [v]) σ3 H4)
theorem comp_eqL {k : Nat} {js : List Nat} {ti : TE} {g : TG} {te : TE} {σ : St} {H : Hp} {Q : VK} : tComp (iList K ti) k js g te σ H Q = ti σ H fun x H1 => CompL K k js g te σ x H1 Q := rfl
theorem comp_eqT {k : Nat} {js : List Nat} {ti : TE} {g : TG} {te : TE} {σ : St} {H : Hp} {Q : VK} : tComp (iTup K ti) k js g te σ H Q = ti σ H fun x H1 => CompT K k js g te σ x H1 Q := rfl
theorem comp_eqR1 {k : Nat} {js : List Nat} {ta : TA} {g : TG} {te : TE} {σ : St} {H : Hp} {Q : VK} : tComp (iRng1 ta) k js g te σ H Q = ta σ H fun vs H1 => ∃ j : Int, vs = [.int j] ∧ -(2 ^ 62) ≤ j ∧ j < 2 ^ 62 ∧ CompR 0 j.toNat k js g te σ H1 Q := rfl
theorem CompL.mk {a : Addr} {xs : List V} {k : Nat} {js : List Nat} {g : TG} {te : TE} {Q : VK} {σ : St} {H : Hp} (hS : SqL K H a xs) (Pv : Nat → List V → St → Hp → Prop) (h0 : Pv 0 [] (compSt k js σ) H) (hl : ∀ i ys σ H, i ≤ xs.length → Pv i ys σ H → SqL K H a xs)
    (hs : ∀ i x ys σ H, xs[i]? = some x → Pv i ys σ H → ys.length < sizeLine ∧ g x σ H fun σ3 H3 => te σ3 H3 fun v H4 => Pv (i + 1) (ys ++ [v]) σ3 H4) (hd : ∀ ys σ H, Pv xs.length ys σ H → ∀ p, H p = none → Q (.ref p) (upd H p (.lst ys))) :
    CompL K k js g te σ (.ref a) H Q := ⟨a, rfl, ⟨xs, hS⟩, comp_list Pv h0 hl hs hd⟩
theorem CompT.mk {a : Addr} {xs : List V} {k : Nat} {js : List Nat} {g : TG} {te : TE} {Q : VK} {σ : St} {H : Hp} (hS : SqT K H a xs) (Pv : Nat → List V → St → Hp → Prop) (h0 : Pv 0 [] (compSt k js σ) H) (hl : ∀ i ys σ H, i ≤ xs.length → Pv i ys σ H → SqT K H a xs)
    (hs : ∀ i x ys σ H, xs[i]? = some x → Pv i ys σ H → ys.length < sizeLine ∧ g x σ H fun σ3 H3 => te σ3 H3 fun v H4 => Pv (i + 1) (ys ++ [v]) σ3 H4) (hd : ∀ ys σ H, Pv xs.length ys σ H → ∀ p, H p = none → Q (.ref p) (upd H p (.lst ys))) :
    CompT K k js g te σ (.ref a) H Q := ⟨a, rfl, ⟨xs, hS⟩, comp_tup Pv h0 hl hs hd⟩
theorem CompR.mk {lo : Int} {n k : Nat} {js : List Nat} {g : TG} {te : TE} {Q : VK} {σ : St} {H : Hp} (Pv : Nat → List V → St → Hp → Prop) (h0 : Pv 0 [] (compSt k js σ) H)
    (hs : ∀ i ys σ H, i < n → Pv i ys σ H → ys.length < sizeLine ∧ g (.int (lo + i)) σ H fun σ3 H3 => te σ3 H3 fun v H4 => Pv (i + 1) (ys ++ [v]) σ3 H4) (hd : ∀ ys σ H, Pv n ys σ H → ∀ p, H p = none → Q (.ref p) (upd H p (.lst ys))) :
    CompR lo n k js g te σ H Q := comp_range Pv h0 hs hd
end
theorem cxOf_K {CX : CXT} {P : Program} {w : World} {K : PySem.W.Frag} {mg : Str → Option Value} {base : Heap} {N : List Str} {qual : Str} {scope : Scope} {f : Addr} {cd : Value} {A : Around} {outer : List Env} {s : Shared} {H : Hp} {E : XK} : (cxOf CX P w K mg base N qual scope f cd A outer s H E).K = K := rfl
theorem cxComp_K {X : Cx} {N : List Str} {scope : Scope} {cl : List (Str × Addr)} {C : Addr} {ex : List Addr} {s : Shared} {H : Hp} : (cxComp X N scope cl C ex s H).K = X.K := rfl
def tyS : V → Option String
  | .int _ => some "int"
  | .bl _ => some "bool"
  | .str _ => some "str"
  | .non => some "NoneType"
  | _ => none
def isiN (t n : String) : Bool := t == n || (t == "bool" && n == "int")
def isiB (x : V) (n : String) : Bool := match tyS x with
  | some t => isiN t n
  | none => false
theorem isi_ii {i : Int} : isiB (.int i) "int" = true := by show isiN "int" "int" = true; decide +kernel
theorem isi_ib {i : Int} : isiB (.int i) "bool" = false := by show isiN "int" "bool" = false; decide +kernel
theorem isi_bi {b : Bool} : isiB (.bl b) "int" = true := by show isiN "bool" "int" = true; decide +kernel
theorem isi_bb {b : Bool} : isiB (.bl b) "bool" = true := by show isiN "bool" "bool" = true; decide +kernel
theorem isi_it {i : Int} : isiB (.int i) "tuple" = false := by show isiN "int" "tuple" = false; decide +kernel
end L2
namespace L2
open PySem PySem.Spec PyProof.Rows
theorem na2 : (Int.natAbs 2 < 18446744073709551616) = True := eq_true (by decide)
theorem na10 : (Int.natAbs 10 < 18446744073709551616) = True := eq_true (by decide)
theorem same_new {H : Hp} {p : Addr} (h : H p = none) (o : HO) : Same H (upd H p o) := fun b u q => by rw [upd_ne (ne_of_none q h)]; exact q
theorem small {n : Nat} (h : n ≤ 1000) : n ≤ sizeLine := Nat.le_of_lt (small1000 h)
theorem Same.tup {K : PySem.W.Frag} {H H' : Hp} {a : Addr} {xs : List V} (e : Same H H') (h : SqT K H a xs) : SqT K H' a xs := by
  rcases h with (h | ⟨o, h⟩) | h
  · exact .inl (.inl (e _ _ h))
  · exact .inl (.inr ⟨o, e _ _ h⟩)
  · exact .inr h
theorem st_one {σ : St} (h : σ.length = 1) : ∃ z, σ = [z] := by
  match σ, h with
  | [z], _ => exact ⟨z, rfl⟩
theorem getmap {α β : Type} {f : α → β} {l : List α} {i : Nat} {y : β} (h : (l.map f)[i]? = some y) : ∃ x, l[i]? = some x ∧ y = f x := by
  rw [List.getElem?_map] at h
  obtain ⟨x, h1, h2⟩ := Option.map_eq_some_iff.mp h
  exact ⟨x, h1, h2.symm⟩
theorem take_succ' {α : Type} {l : List α} {i : Nat} {x : α} (h : l[i]? = some x) : l.take (i + 1) = l.take i ++ [x] := by
  rw [List.take_succ, h]; rfl
theorem CompL.vals {K : PySem.W.Frag} {a : Addr} {xs : List V} {te : TE} {Q : VK} {σ : St} {H : Hp} {fn : V → V} (hS : SqL K H a xs) (hz : xs.length ≤ 1000)
    (hs : ∀ x ∈ xs, ∀ H1, Same H H1 → ∀ Q' : VK, (∀ H2, Same H1 H2 → Q' (fn x) H2) → te [some x] H1 Q')
    (hd : ∀ H1, Same H H1 → ∀ p, H1 p = none → Q (.ref p) (upd H1 p (.lst (xs.map fn)))) : CompL K 1 [] (gName 0) te σ (.ref a) H Q := by
  refine CompL.mk hS (fun i ys σ' H' => Same H H' ∧ ys = (xs.take i).map fn ∧ σ'.length = 1) ⟨Same.refl _, rfl, rfl⟩ (fun i ys σ' H' _ h => h.1.seq hS) (fun i x ys σ' H' e h => ?_) (fun ys σ' H' h p hp => ?_)
  · obtain ⟨h1, rfl, h3⟩ := h
    obtain ⟨z, rfl⟩ := st_one h3
    refine ⟨?_, ?_⟩
    · rw [List.length_map, List.length_take]
      exact Nat.lt_of_le_of_lt (Nat.min_le_right _ _) (small1000 hz)
    · refine hs x (List.mem_of_getElem? e) H' h1 _ fun H2 h2 => ⟨h1.trans h2, ?_, rfl⟩
      rw [take_succ' e, List.map_append]; rfl
  · obtain ⟨h1, rfl, h3⟩ := h
    rw [List.take_length]
    exact hd H' h1 p hp
end L2
namespace L2
open PySem PySem.Spec PyProof.Rows
section
variable {X : Cx}
def rInT : R2 := fun x y H Q => ∃ p xs, y = .ref p ∧ H p = some (.tup xs) ∧ flatV x = true ∧ xs.all flatV = true ∧ Q (.bl (inV x xs)) H
def rInL : R2 := fun x y H Q => ∃ p xs, y = .ref p ∧ H p = some (.lst xs) ∧ flatV x = true ∧ xs.all flatV = true ∧ Q (.bl (inV x xs)) H
theorem op_inT : OpR X (compareOp .In) rInT := by
  intro pins s σ H x y v u Q I rx ry h
  obtain ⟨p, xs, rfl, hq, fx, fs, q⟩ := h
  exact op_in_seq pins s σ H x _ v u Q I rx ry ⟨p, xs, rfl, .inr (.of hq), fx, fs, q⟩
def rIxLH : R2 := fun x y H Q => ∃ p xs i v, x = .ref p ∧ y = .int i ∧ H p = some (.lst xs) ∧ atI xs i = some v ∧ Q v H
def rIxTH : R2 := fun x y H Q => ∃ p xs i v, x = .ref p ∧ y = .int i ∧ H p = some (.tup xs) ∧ atI xs i = some v ∧ Q v H
theorem ix_listH : IxR X rIxLH := by
  intro value slice pins s σ H x y v u Q I rx ry h hs
  obtain ⟨p, xs, i, z, rfl, rfl, hq, he, q⟩ := h
  exact ix_list value slice pins s σ H _ _ v u Q I rx ry ⟨p, xs, i, z, rfl, rfl, .of hq, he, q⟩ hs
theorem ix_tupH : IxR X rIxTH := by
  intro value slice pins s σ H x y v u Q I rx ry h hs
  obtain ⟨p, xs, i, z, rfl, rfl, hq, he, q⟩ := h
  exact ix_tup value slice pins s σ H _ _ v u Q I rx ry ⟨p, xs, i, z, rfl, rfl, .of hq, he, q⟩ hs
end
end L2
namespace L2
open PySem PySem.Spec PyProof.Rows
section
variable {X : Cx}
def gTupH (n : Nat) (t : TGs) : TG := fun v σ H Q => ∃ a xs, v = .ref a ∧ H a = some (.tup xs) ∧ xs.length = n ∧ t xs σ H Q
theorem pg_tupH {es : List Expr} {k : Nat} {pos : Pos} {t : TGs} {n : Nat} (h : PG X (.Tuple es k pos) (gTup X.K n t)) : PG X (.Tuple es k pos) (gTupH n t) := by
  intro pins s σ H v u Q I r q
  obtain ⟨a, xs, e, ha, hl, q⟩ := q
  exact h pins s σ H v u Q I r ⟨a, xs, e, .of ha, hl, q⟩
def tApp (to te : TE) : TE := fun σ H Q => to σ H fun x H1 => ∃ l, x = .ref l ∧ (∃ xs, H1 l = some (.lst xs)) ∧ te σ H1 fun v H2 => ∃ xs, H2 l = some (.lst xs) ∧ xs.length < sizeLine ∧ Q .non (upd H2 l (.lst (xs ++ [v])))
theorem pe_app {o e : Expr} {to te : TE} {apos cpos : Pos} (ho : PE X o to) (he : PE X e te)
    (hbase : attributeBase o "append" X.env (eval o X.env) = eval o X.env := by rfl) (hfew : ((backTo cpos (starEach [e] X.env)).all (fun x => !x.1) && (backToKw cpos (keywordEach [] X.env)).all (fun x => x.1.isSome)
      && decide ([e].length + ([] : List Keyword).length + (if ([] : List Keyword).isEmpty then 0 else 1) < 30)) = true := by rfl)
    (hline : (apos.endLine == cpos.line) = true := by rfl) (hs : starEach [e] X.env = [(false, eval e X.env)] := by rfl) : PE X (.Call (.Attribute o "append" apos) [e] [] cpos) (tApp to te) := by
  intro pins s σ H Q I h
  refine wpAny_Call_method_late hbase hfew hline rfl (thn (ho pins s σ H _ I h) fun v s1 ⟨x, H1, I1, r1, q1⟩ => ?_)
  obtain ⟨l, rfl, ⟨xs1, hx1⟩, q2⟩ := q1
  obtain ⟨h1, h2⟩ := tyV_is (T := "list") I1 r1 (.inl ⟨rfl, _, .of hx1⟩)
  refine ⟨"list", "list.append", PySem.F.plainAttrs_list, PySem.F.slot_list_append, PySem.F.type_list_append, h1, h2, ?_⟩
  have hA := (pa_cons he pa_nil hs) cpos pins s1 σ H1 (fun vs H2 => match vs with | [v] => ∃ xs, H2 l = some (.lst xs) ∧ xs.length < sizeLine ∧ Q .non (upd H2 l (.lst (xs ++ [v]))) | _ => False) I1 q2
  rw [hs] at hA ⊢
  refine Calls.callWith_builtin rfl (Calls.evalArgs_plain ?_)
  refine thn hA fun us s2 ⟨vs, H2, I2, r2, q3⟩ => ?_
  match vs, q3 with
  | [v2], ⟨xs, hx, hz, q⟩ => exact mt_append pins s2 σ H2 (.ref l) [v2] v us Q I2 r1 r2 ⟨l, xs, v2, rfl, rfl, hx, hz, q⟩
end
def SameX (l : Addr) (H H' : Hp) : Prop := ∀ b o, b ≠ l → H b = some o → H' b = some o
theorem SameX.refl (l : Addr) (H : Hp) : SameX l H H := fun _ _ _ h => h
theorem SameX.trans {l : Addr} {H H1 H2 : Hp} (a : SameX l H H1) (b : SameX l H1 H2) : SameX l H H2 := fun c o n h => b c o n (a c o n h)
theorem SameX.set {l : Addr} (H : Hp) (o : HO) : SameX l H (upd H l o) := fun b u n e => by rw [upd_ne n]; exact e
end L2
namespace L2
open PySem PySem.Spec PyProof.Rows
def IsRv (h : Heap) (a t : Addr) (i : Int) : Prop := ∃ o, h.get? a = some o ∧ o.cls = .type "reversed" ∧ o.data = .fields #[.ref t, rawInt i]
theorem IsRv.typeIs {s : Shared} {a t : Addr} {i : Int} (x : IsRv s.heap a t i) : s.TypeIs (.ref a) "reversed" := let ⟨o, ho, hc, _⟩ := x; ⟨o, ho, hc⟩
section
variable {prog : Program} {w : World} {A : Around} {E : Value → Shared → Prop} {s : Shared}
end
def Itrv (K : PySem.W.Frag) (a : Addr) (n : Nat) : It := ⟨fun i H => ∃ xs, SqT K H a xs ∧ xs.length = n ∧ i < n, fun i H x H' => H' = H ∧ ∀ xs, SqT K H a xs → xs[n - 1 - i]? = some x, fun i H => ∃ xs, SqT K H a xs ∧ xs.length = n ∧ i = n⟩
section
variable {X : Cx} {tg : Expr}
def iRevT (K : PySem.W.Frag) (te : TE) : TI := fun σ H R => te σ H fun x H1 => ∃ a xs, x = .ref a ∧ SqT K H1 a xs ∧ R (Itrv K a xs.length) H1
end
def LoopV (K : PySem.W.Frag) (g : TG) (tb : TS) (D : Ends) (σ : St) (x : V) (H1 : Hp) : Prop := ∃ a xs, x = .ref a ∧ SqT K H1 a xs ∧ ∃ W : Nat → Nat → St → Hp → Prop, (∃ m, W 0 m σ H1) ∧ ∀ i m σ H, W i m σ H →
  ((Itrv K a xs.length).stop i H ∧ D.nx σ H) ∨ ((Itrv K a xs.length).go i H ∧ ∃ N : St → Hp → Prop, (∀ σ' H', N σ' H' → ∃ m', m' < m ∧ W (i + 1) m' σ' H') ∧ ∀ x H', (Itrv K a xs.length).yld i H x H' → g x σ H' fun σ2 H2 => tb { D with nx := N, ct := N, bk := D.nx } σ2 H2)
theorem for_eqV {K : PySem.W.Frag} {te : TE} {g : TG} {tb : TS} {D : Ends} {σ : St} {H : Hp} : tFor (iRevT K te) g tb D σ H = te σ H fun x H1 => LoopV K g tb D σ x H1 := rfl
theorem LoopV.mk {K : PySem.W.Frag} {a : Addr} {xs : List V} {g : TG} {tb : TS} {D : Ends} {σ : St} {H : Hp} (hS : SqT K H a xs) (Pv : Nat → St → Hp → Prop) (h0 : Pv 0 σ H) (hl : ∀ i σ H, i ≤ xs.length → Pv i σ H → SqT K H a xs)
    (hs : ∀ i x σ H, i < xs.length → xs[xs.length - 1 - i]? = some x → Pv i σ H → g x σ H fun σ2 H2 => tb { D with nx := Pv (i + 1), ct := Pv (i + 1), bk := D.nx } σ2 H2) (hd : ∀ σ H, Pv xs.length σ H → D.nx σ H) : LoopV K g tb D σ (.ref a) H := by
  refine ⟨a, xs, rfl, hS, fun i m σ H => m = xs.length - i ∧ i ≤ xs.length ∧ Pv i σ H, ⟨xs.length, by simp, Nat.zero_le _, h0⟩, ?_⟩
  rintro i m σ H ⟨rfl, hi, p⟩
  have q := hl i σ H hi p
  by_cases hlt : i < xs.length
  · refine .inr ⟨⟨xs, q, rfl, hlt⟩, Pv (i + 1), fun σ' H' p' => ⟨xs.length - (i + 1), by omega, rfl, hlt, p'⟩, fun x H' y => ?_⟩
    obtain ⟨e, y⟩ := y
    subst e
    exact hs i x σ _ hlt (y xs q) p
  · have e : i = xs.length := by omega
    subst e
    exact .inl ⟨⟨xs, q, rfl, rfl⟩, hd σ H p⟩
end L2
namespace L2
open PySem PySem.Spec PyProof.Rows
section
variable {X : Cx}
def rCatA (K : PySem.W.Frag) : R2 := fun x y H Q => ∃ a b xs ys, x = .ref a ∧ y = .ref b ∧ SqT K H a xs ∧ SqT K H b ys ∧ xs.length + ys.length ≤ sizeLine ∧
  (xs = [] → Q (.ref b) H) ∧ (xs ≠ [] → ys = [] → Q (.ref a) H) ∧ (xs ≠ [] → ys ≠ [] → ∀ p, H p = none → Q (.ref p) (upd H p (.tup (xs ++ ys))))
theorem op_catA : OpR X (binaryOp .Add) (rCatA X.K) := by
  intro pins s σ H x y v u Q I rx ry h
  obtain ⟨a, b, xs, ys, rfl, rfl, ha, hb, hz, q0, q1, q2⟩ := h
  by_cases hx : xs = []
  · cases rx
    cases ry
    obtain ⟨its, r1, p1, _⟩ := I.tuple ha
    obtain ⟨its2, r2, p2, _⟩ := I.tuple hb
    have e1 : its = [] := r1.nil_iff.mpr hx
    obtain ⟨⟨c1, d1, z1, l1⟩, g1, hc1, n1, hd1⟩ := id p1
    obtain ⟨⟨c2, d2, z2, l2⟩, g2, hc2, n2, hd2⟩ := id p2
    simp only at hc1 hd1 hc2 hd2
    subst hc1 hd1 hc2 hd2
    exact concat_meets ⟨_, g1, rfl⟩ ⟨_, g2, rfl⟩ noFill_tuple_add seq_tuple_add PySem.F.slot_tuple_add PySem.F.entry_tuple_add (PySem.F.args_tuple_add_2 _ _)
      (tuple_addW0 a b its.toArray its2.toArray n1 n2 d1 d2 l1 l2 (by simp [e1])) ⟨g1, g2, .ref b, H, I, rfl, q0 hx⟩
  · exact op_catT pins s σ H _ _ v u Q I rx ry ⟨a, b, xs, ys, rfl, rfl, ha, hb, hx, hz, q1 hx, q2 hx⟩
def eqVs : List V → List V → Bool
  | [], [] => true
  | x :: xs, y :: ys => eqV x y && eqVs xs ys
  | _, _ => false
theorem eqVs_len : ∀ {xs ys : List V}, xs.length ≠ ys.length → eqVs xs ys = false
  | [], [], h => absurd rfl h
  | x :: xs, y :: ys, h => by
    have e : xs.length ≠ ys.length := fun z => h (by simp [z])
    simp [eqVs, eqVs_len e]
  | [], _ :: _, _ => rfl
  | _ :: _, [], _ => rfl
def eqAtI (xs ys : List V) (j : Nat) : Bool := match xs[j]?, ys[j]? with | some x, some y => eqV x y | _, _ => false
theorem eqVs_all : ∀ {xs ys : List V}, xs.length = ys.length → (List.range xs.length).all (eqAtI xs ys) = eqVs xs ys
  | [], [], _ => rfl
  | x :: xs, y :: ys, h => by
    have e : xs.length = ys.length := by simpa using h
    rw [List.length_cons, List.range_succ_eq_map, List.all_cons, List.all_map]
    have z : (eqAtI (x :: xs) (y :: ys) ∘ Nat.succ) = eqAtI xs ys := by funext j; simp [eqAtI]
    rw [z, eqVs_all e]
    rfl
  | [], _ :: _, h => by cases h
  | _ :: _, [], h => by cases h
theorem eqAtI_ok {A : Around} {s : Shared} {xs ys : List V} {us ws : List Value} (r1 : Vals xs us) (r2 : Vals ys ws) (f1 : xs.all flatV = true) (f2 : ys.all flatV = true) (j : Nat) (h1 : j < us.toArray.size) (h2 : j < ws.toArray.size) :
    SeqAt.EqAt A s us.toArray[j] ws.toArray[j] (eqAtI xs ys j) := by
  have l1 := r1.length
  have l2 := r2.length
  have k1 : j < xs.length := by rw [l1]; simpa using h1
  have k2 : j < ys.length := by rw [l2]; simpa using h2
  obtain ⟨u, hu, ru⟩ := r1.get (List.getElem?_eq_getElem k1)
  obtain ⟨v, hv, rv⟩ := r2.get (List.getElem?_eq_getElem k2)
  have e1 : us.toArray[j] = u := by
    have z : us[j]? = some (us[j]'(by simpa using h1)) := List.getElem?_eq_getElem _
    rw [z] at hu
    simpa using hu
  have e2 : ws.toArray[j] = v := by
    have z : ws[j]? = some (ws[j]'(by simpa using h2)) := List.getElem?_eq_getElem _
    rw [z] at hv
    simpa using hv
  rw [e1, e2]
  have e3 : eqAtI xs ys j = eqV xs[j] ys[j] := by simp [eqAtI, k1, k2]
  rw [e3]
  exact eqAt_V ru rv (List.all_eq_true.mp f1 _ (List.getElem_mem k1)) (List.all_eq_true.mp f2 _ (List.getElem_mem k2))
def rEqL (K : PySem.W.Frag) : R2 := fun x y H Q => ∃ a b xs ys, x = .ref a ∧ y = .ref b ∧ SqL K H a xs ∧ SqL K H b ys ∧ xs.all flatV = true ∧ ys.all flatV = true ∧ Q (.bl (eqVs xs ys)) H
def rEqT (K : PySem.W.Frag) : R2 := fun x y H Q => ∃ a b xs ys, x = .ref a ∧ y = .ref b ∧ SqT K H a xs ∧ SqT K H b ys ∧ xs.all flatV = true ∧ ys.all flatV = true ∧ Q (.bl (eqVs xs ys)) H
theorem flat_ints : ∀ (ns : List Int), (ns.map V.int).all flatV = true
  | [] => rfl
  | n :: ns => by simp [flatV]
end
end L2
namespace L2
open PySem PySem.Spec PyProof.Rows
section
variable {pg : Program} {wd : World} {B : Around} {X0 : Value → Shared → Prop} {s0 : Shared}
theorem nx_tup_item {j t : Addr} {k : Nat} {its : Array Value} {x : Value} {R : Value → Shared → Prop} (p : s0.heap.IsTupleIter j t k) (q : s0.heap.IsTuple t its) (e : its[k]? = some x)
    (f : ∀ h', h'.IsTupleIter j t (k + 1) → Heap.SameBut j s0.heap h' → R x { s0 with heap := h' }) : wpAny (model pg wd) B (Builtin.SmallTypes.nextOf (.ref j)) R X0 s0 := by
  obtain ⟨o, g, c, d⟩ := id p
  obtain ⟨ot, gt, _, nt, dt⟩ := q
  unfold Builtin.SmallTypes.nextOf
  refine wpAny_bind (wpAny_callSpecial?_slot (name := Str.ofString "__next__") p.typeIs F.slot_tuple_iterator_next (wpAny_call_entry F.slot_tuple_iterator_next p.typeIs F.entry_tuple_iterator_next ?_ (F.args_tuple_iterator_next_1 _)))
  show wpAny _ _ (field (.ref j) 0 >>= _) _ _ s0
  refine wpAny_bind (wpAny_field g d (x := .ref t) rfl ?_)
  show wpAny _ _ (if (Value.ref t == Value.none) = true then _ else _) _ _ s0
  rw [if_neg (show ¬ ((Value.ref t == Value.none) = true) from Bool.false_ne_true)]
  show wpAny _ _ (field (.ref j) 1 >>= _) _ _ s0
  refine wpAny_bind (wpAny_field g d (x := .int k 0) rfl ?_)
  show wpAny _ _ (seqItems? (.ref t) >>= _) _ _ s0
  refine wpAny_bind (wpAny_seqItems gt dt ?_)
  simp only [Int.toNat_natCast, e]
  refine wpAny_bind (wpAny_setField g d (by simp) (wpAny_pure ⟨x, rfl, wpAny_pure (f _ ?_ (Heap.SameBut.update ..))⟩))
  exact ⟨_, Heap.get?_update_self _ g (Obj.isFreed_of_fields (Obj.data_mapFields d _)), (Obj.cls_mapFields ..).trans c, by rw [Obj.data_mapFields d]; simp [rawInt]⟩
theorem nx_tup_end {j t : Addr} {k : Nat} {its : Array Value} {R : Value → Shared → Prop} (hh : B.handled = none) (p : s0.heap.IsTupleIter j t k) (q : s0.heap.IsTuple t its) (e : its[k]? = none)
    (f : ∀ h' z, Heap.ExtBut j s0.heap h' → (∃ o, h'.get? z = some o ∧ o.cls = .type "StopIteration") → X0 (.ref z) { s0 with heap := h' }) : wpAny (model pg wd) B (Builtin.SmallTypes.nextOf (.ref j)) R X0 s0 := by
  obtain ⟨o, g, c, d⟩ := id p
  obtain ⟨ot, gt, _, nt, dt⟩ := q
  unfold Builtin.SmallTypes.nextOf
  refine wpAny_bind (wpAny_callSpecial?_slot (name := Str.ofString "__next__") p.typeIs F.slot_tuple_iterator_next (wpAny_call_entry F.slot_tuple_iterator_next p.typeIs F.entry_tuple_iterator_next ?_ (F.args_tuple_iterator_next_1 _)))
  show wpAny _ _ (field (.ref j) 0 >>= _) _ _ s0
  refine wpAny_bind (wpAny_field g d (x := .ref t) rfl ?_)
  show wpAny _ _ (if (Value.ref t == Value.none) = true then _ else _) _ _ s0
  rw [if_neg (show ¬ ((Value.ref t == Value.none) = true) from Bool.false_ne_true)]
  show wpAny _ _ (field (.ref j) 1 >>= _) _ _ s0
  refine wpAny_bind (wpAny_field g d (x := .int k 0) rfl ?_)
  show wpAny _ _ (seqItems? (.ref t) >>= _) _ _ s0
  refine wpAny_bind (wpAny_seqItems gt dt ?_)
  simp only [Int.toNat_natCast, e]
  refine wpAny_bind (wpAny_rule (wpAny_bind (wpAny_setField g d (by simp) ?_)))
  show wpAny _ _ (newExc (.type "StopIteration") [] >>= _) _ _ _
  refine wpAny_bind ?_
  simp only [newExc, newTuple]
  refine wpAny_bind (wpAny_newObj_type ?_ (by size_fits))
  refine wpAny_bind (m := firstArgMember _ _) (wpAny_of_eq (a := Value.none) (by first | rfl | (simp only [firstArgMember]; rfl)) ?_)
  refine wpAny_newObj_type ?_ (by size_fits)
  simp only [raiseNew]
  refine wpAny_bind (wpAny_handled ?_)
  first | rw [show B.in1.handled = none from hh] | rw [hh]
  refine wpAny_bind (wpAny_pure (wpAny_throw ?_))
  exact f _ _ (((Heap.SameBut.update ..).extBut.push _).push _) ⟨_, Heap.get?_push_size _ rfl, rfl⟩
structure Apart5 (z ti ox j1 j2 t1 t2 : Addr) : Prop where
  ti_z : ti ≠ z
  ox_z : ox ≠ z
  j1_z : j1 ≠ z
  j2_z : j2 ≠ z
  ti_ox : ti ≠ ox
  ti_j1 : ti ≠ j1
  ti_j2 : ti ≠ j2
  ox_j1 : ox ≠ j1
  ox_j2 : ox ≠ j2
  j12 : j1 ≠ j2
  t1_z : t1 ≠ z
  t1_ox : t1 ≠ ox
  t1_j1 : t1 ≠ j1
  t1_j2 : t1 ≠ j2
  t2_z : t2 ≠ z
  t2_ox : t2 ≠ ox
  t2_j1 : t2 ≠ j1
  t2_j2 : t2 ≠ j2
def But4 (z ox j1 j2 : Addr) (h h' : Heap) : Prop := ∀ c o, c ≠ z → c ≠ ox → c ≠ j1 → c ≠ j2 → h.get? c = some o → h'.get? c = some o
theorem tupIt_at {h h' : Heap} {j t : Addr} {k : Nat} (p : h.IsTupleIter j t k) (f : ∀ o, h.get? j = some o → h'.get? j = some o) : h'.IsTupleIter j t k := let ⟨o, g, r⟩ := p; ⟨o, f o g, r⟩
theorem tup_at {h h' : Heap} {t : Addr} {its : Array Value} (p : h.IsTuple t its) (f : ∀ o, h.get? t = some o → h'.get? t = some o) : h'.IsTuple t its := let ⟨o, g, r⟩ := p; ⟨o, f o g, r⟩
theorem zipT_item {z ti ox j1 j2 t1 t2 : Addr} {k : Nat} {as bs : Array Value} {x y u v : Value} {R : Option Value → Shared → Prop} (ap : Apart5 z ti ox j1 j2 t1 t2) (hz : IsZip s0.heap z ti ox .none) (hi : IsPair s0.heap ti (.ref j1) (.ref j2)) (ho : IsPair s0.heap ox u v)
    (p1 : s0.heap.IsTupleIter j1 t1 k) (p2 : s0.heap.IsTupleIter j2 t2 k) (q1 : s0.heap.IsTuple t1 as) (q2 : s0.heap.IsTuple t2 bs) (e1 : as[k]? = some x) (e2 : bs[k]? = some y)
    (f : ∀ h', IsZip h' z ti ox (rawInt s0.heap.objs.size) → IsPair h' ox x y → h'.IsTupleIter j1 t1 (k + 1) → h'.IsTupleIter j2 t2 (k + 1) → IsPair h' s0.heap.objs.size x y → But4 z ox j1 j2 s0.heap h' → R (some (.ref s0.heap.objs.size)) { s0 with heap := h' }) :
    wpAny (model pg wd) B (pyNext (.ref z)) R X0 s0 := by
  have ty : s0.TypeIs (.ref z) "zip" := ⟨_, hz, rfl⟩
  unfold pyNext
  refine wpAny_bind (wpAny_attempt (wpAny_callSpecial?_slot (name := Str.ofString "__next__") ty F.slot_zip_next (wpAny_call_entry F.slot_zip_next ty F.entry_zip_next ?_ (F.args_zip_next_1 _))))
  show wpAny _ _ (field (.ref z) 2 >>= _) _ _ _
  refine wpAny_bind (wpAny_field hz rfl (x := .bool false) rfl ?_)
  show wpAny _ _ (field (.ref z) 3 >>= _) _ _ _
  refine wpAny_bind (wpAny_field hz rfl (x := .ref ti) rfl ?_)
  refine wpAny_bind (wpAny_seqItems hi rfl ?_)
  show wpAny _ _ (Builtin.SmallTypes.ownedTupleIsFree (.ref z) >>= _) _ _ _
  refine wpAny_bind ?_
  unfold Builtin.SmallTypes.ownedTupleIsFree
  refine wpAny_bind (wpAny_field hz rfl (x := .none) rfl (wpAny_pure ?_))
  simp only [if_true]
  refine wpAny_bind (wpAny_rule ?_)
  refine wpAny_bind (wpAny_field hz rfl (x := .ref ox) rfl ?_)
  refine wpAny_bind (wpAny_setField_rec hz (by simp) fun m1 zm1 sb1 => ?_)
  have zm1 : IsZip m1 z ti ox .ellipsis := zm1
  refine wpAny_bind ?_
  simp only [List.zipIdx_cons, List.zipIdx_nil, List.forIn_cons, List.forIn_nil]
  refine wpAny_bind (wpAny_bind (wpAny_onRaise ?_))
  show wpAny _ _ (Builtin.SmallTypes.nextOf (.ref j1) >>= _) _ _ _
  refine wpAny_bind (nx_tup_item (tupIt_at p1 fun o g => sb1.extBut _ _ ap.j1_z g) (tup_at q1 fun o g => sb1.extBut _ _ ap.t1_z g) e1 fun m2 pm2 sb2 => wpAny_pure ?_)
  have om2 : IsPair m2 ox u v := sb2.extBut _ _ ap.ox_j1 (sb1.extBut _ _ ap.ox_z ho)
  refine wpAny_bind (wpAny_seqItems om2 rfl ?_)
  refine wpAny_bind (wpAny_updateSeq_pair om2 fun m3 om3 sb3 => ?_)
  have om3 : IsPair m3 ox x v := om3
  refine wpAny_bind (wpAny_letGo (wpAny_pure ?_))
  refine wpAny_bind (wpAny_bind (wpAny_onRaise ?_))
  show wpAny _ _ (Builtin.SmallTypes.nextOf (.ref j2) >>= _) _ _ _
  have to3 : ∀ c o, c ≠ z → c ≠ ox → c ≠ j1 → s0.heap.get? c = some o → m3.get? c = some o := fun c o a1 a2 a3 g => sb3.extBut _ _ a2 (sb2.extBut _ _ a3 (sb1.extBut _ _ a1 g))
  refine wpAny_bind (nx_tup_item (tupIt_at p2 fun o g => to3 _ o ap.j2_z ap.ox_j2.symm ap.j12.symm g) (tup_at q2 fun o g => to3 _ o ap.t2_z ap.t2_ox ap.t2_j1 g) e2 fun m4 pm4 sb4 => wpAny_pure ?_)
  have om4 : IsPair m4 ox x v := sb4.extBut _ _ ap.ox_j2 om3
  refine wpAny_bind (wpAny_seqItems om4 rfl ?_)
  refine wpAny_bind (wpAny_updateSeq_pair om4 fun m5 om5 sb5 => ?_)
  have om5 : IsPair m5 ox x y := om5
  refine wpAny_bind (wpAny_letGo (wpAny_pure (wpAny_pure ?_)))
  refine wpAny_bind (wpAny_seqItems om5 rfl ?_)
  refine wpAny_bind (wpAny_newTuple ?_)
  have sz5 : m5.objs.size = s0.heap.objs.size := by rw [sb5.1, sb4.1, sb3.1, sb2.1, sb1.1]
  have zm5 : IsZip m5 z ti ox .ellipsis := sb5.extBut _ _ ap.ox_z.symm (sb4.extBut _ _ ap.j2_z.symm (sb3.extBut _ _ ap.ox_z.symm (sb2.extBut _ _ ap.j1_z.symm zm1)))
  have to5 : But4 z ox j1 j2 s0.heap m5 := fun c o a1 a2 a3 a4 g => sb5.extBut _ _ a2 (sb4.extBut _ _ a4 (to3 c o a1 a2 a3 g))
  have pj1 : m5.IsTupleIter j1 t1 (k + 1) := tupIt_at pm2 fun o g => sb5.extBut _ _ ap.ox_j1.symm (sb4.extBut _ _ ap.j12 (sb3.extBut _ _ ap.ox_j1.symm g))
  have pj2 : m5.IsTupleIter j2 t2 (k + 1) := tupIt_at pm4 fun o g => sb5.extBut _ _ ap.ox_j2.symm g
  have zlt : z < m5.objs.size := Heap.lt_size zm5
  show wpAny _ _ (Builtin.SmallTypes.ownedTupleHandOut (.ref z) (.ref m5.objs.size) >>= _) _ _ _
  refine wpAny_bind ?_
  unfold Builtin.SmallTypes.ownedTupleHandOut
  have zm6 : IsZip (m5.push { cls := .type "tuple", data := .seq #[x, y] }) z ti ox .ellipsis := Heap.get?_push_of_some _ zm5
  refine wpAny_bind (wpAny_setField_rec zm6 (by simp) fun m7 zm7 sb7 => ?_)
  have zm7 : IsZip m7 z ti ox (rawInt m5.objs.size) := zm7
  refine wpAny_setField_rec zm7 (by simp) fun m8 zm8 sb8 => ?_
  have zm8 : IsZip m8 z ti ox (rawInt m5.objs.size) := zm8
  have to8 : ∀ c o, c ≠ z → m5.get? c = some o → m8.get? c = some o := fun c o a1 g => sb8.extBut _ _ a1 (sb7.extBut _ _ a1 (Heap.get?_push_of_some _ g))
  have np8 : IsPair m8 m5.objs.size x y := sb8.extBut _ _ (Nat.ne_of_gt zlt) (sb7.extBut _ _ (Nat.ne_of_gt zlt) (Heap.get?_push_size _ rfl))
  rw [sz5] at zm8 np8
  refine wpAny_pure ⟨_, rfl, wpAny_pure ?_⟩
  show R (some (.ref m5.objs.size)) _
  rw [sz5]
  exact f m8 zm8 (to8 _ _ ap.ox_z om5) (tupIt_at pj1 fun o g => to8 _ o ap.j1_z g) (tupIt_at pj2 fun o g => to8 _ o ap.j2_z g) np8 fun c o a1 a2 a3 a4 g => to8 c o a1 (to5 c o a1 a2 a3 a4 g)
theorem zipT_end {z ti ox j1 j2 t1 t2 : Addr} {k : Nat} {as bs : Array Value} {u v : Value} {R : Option Value → Shared → Prop} (hh : B.handled = none) (ap : Apart5 z ti ox j1 j2 t1 t2) (hz : IsZip s0.heap z ti ox .none) (hi : IsPair s0.heap ti (.ref j1) (.ref j2)) (ho : IsPair s0.heap ox u v)
    (p1 : s0.heap.IsTupleIter j1 t1 k) (p2 : s0.heap.IsTupleIter j2 t2 k) (q1 : s0.heap.IsTuple t1 as) (q2 : s0.heap.IsTuple t2 bs) (hend : as[k]? = none ∨ bs[k]? = none)
    (f : ∀ h', But4 z ox j1 j2 s0.heap h' → R none { s0 with heap := h' }) : wpAny (model pg wd) B (pyNext (.ref z)) R X0 s0 := by
  have ty : s0.TypeIs (.ref z) "zip" := ⟨_, hz, rfl⟩
  have last : ∀ (h' : Heap) (e : Addr), But4 z ox j1 j2 s0.heap h' → (∃ o, h'.get? e = some o ∧ o.cls = .type "StopIteration") → wpAny (model pg wd) B (do if ← isInstance (.ref e) (.type "StopIteration") then pure none else throw (.ref e)) R X0 { s0 with heap := h' } := fun h' e bt ⟨o, g, c⟩ =>
    wpAny_bind (wpAny_isInstance (T := "StopIteration") (b := true) ⟨o, g, c⟩ isSubtype_stop (wpAny_pure (f _ bt)))
  unfold pyNext
  refine wpAny_bind (wpAny_attempt (wpAny_callSpecial?_slot (name := Str.ofString "__next__") ty F.slot_zip_next (wpAny_call_entry F.slot_zip_next ty F.entry_zip_next ?_ (F.args_zip_next_1 _))))
  show wpAny _ _ (field (.ref z) 2 >>= _) _ _ _
  refine wpAny_bind (wpAny_field hz rfl (x := .bool false) rfl ?_)
  show wpAny _ _ (field (.ref z) 3 >>= _) _ _ _
  refine wpAny_bind (wpAny_field hz rfl (x := .ref ti) rfl ?_)
  refine wpAny_bind (wpAny_seqItems hi rfl ?_)
  show wpAny _ _ (Builtin.SmallTypes.ownedTupleIsFree (.ref z) >>= _) _ _ _
  refine wpAny_bind ?_
  unfold Builtin.SmallTypes.ownedTupleIsFree
  refine wpAny_bind (wpAny_field hz rfl (x := .none) rfl (wpAny_pure ?_))
  simp only [if_true]
  refine wpAny_bind (wpAny_rule ?_)
  refine wpAny_bind (wpAny_field hz rfl (x := .ref ox) rfl ?_)
  refine wpAny_bind (wpAny_setField_rec hz (by simp) fun m1 zm1 sb1 => ?_)
  have zm1 : IsZip m1 z ti ox .ellipsis := zm1
  refine wpAny_bind ?_
  simp only [List.zipIdx_cons, List.zipIdx_nil, List.forIn_cons, List.forIn_nil]
  refine wpAny_bind (wpAny_bind (wpAny_onRaise ?_))
  show wpAny _ _ (Builtin.SmallTypes.nextOf (.ref j1) >>= _) _ _ _
  cases e1 : as[k]? with
  | none =>
    refine wpAny_bind (nx_tup_end hh (tupIt_at p1 fun o g => sb1.extBut _ _ ap.j1_z g) (tup_at q1 fun o g => sb1.extBut _ _ ap.t1_z g) e1 fun m2 e xb he => ?_)
    obtain ⟨oe, ge, ce⟩ := he
    have zm2 : IsZip m2 z ti ox .ellipsis := xb _ _ ap.j1_z.symm zm1
    have ez : e ≠ z := fun q => by subst q; rw [zm2] at ge; cases ge; simp at ce
    exact wpAny_setField_rec zm2 (by simp) fun m3 _ sb3 => last m3 e (fun c o a1 _ a3 _ g => sb3.extBut _ _ a1 (xb _ _ a3 (sb1.extBut _ _ a1 g))) ⟨oe, sb3.extBut _ _ ez ge, ce⟩
  | some x =>
    have e2 : bs[k]? = none := by rcases hend with q | q; rw [e1] at q; cases q; exact q
    refine wpAny_bind (nx_tup_item (tupIt_at p1 fun o g => sb1.extBut _ _ ap.j1_z g) (tup_at q1 fun o g => sb1.extBut _ _ ap.t1_z g) e1 fun m2 pm2 sb2 => wpAny_pure ?_)
    have om2 : IsPair m2 ox u v := sb2.extBut _ _ ap.ox_j1 (sb1.extBut _ _ ap.ox_z ho)
    refine wpAny_bind (wpAny_seqItems om2 rfl ?_)
    refine wpAny_bind (wpAny_updateSeq_pair om2 fun m3 om3 sb3 => ?_)
    refine wpAny_bind (wpAny_letGo (wpAny_pure ?_))
    refine wpAny_bind (wpAny_bind (wpAny_onRaise ?_))
    show wpAny _ _ (Builtin.SmallTypes.nextOf (.ref j2) >>= _) _ _ _
    have to3 : ∀ c o, c ≠ z → c ≠ ox → c ≠ j1 → s0.heap.get? c = some o → m3.get? c = some o := fun c o a1 a2 a3 g => sb3.extBut _ _ a2 (sb2.extBut _ _ a3 (sb1.extBut _ _ a1 g))
    refine wpAny_bind (nx_tup_end hh (tupIt_at p2 fun o g => to3 _ o ap.j2_z ap.ox_j2.symm ap.j12.symm g) (tup_at q2 fun o g => to3 _ o ap.t2_z ap.t2_ox ap.t2_j1 g) e2 fun m4 e xb he => ?_)
    obtain ⟨oe, ge, ce⟩ := he
    have zm4 : IsZip m4 z ti ox .ellipsis := xb _ _ ap.j2_z.symm (sb3.extBut _ _ ap.ox_z.symm (sb2.extBut _ _ ap.j1_z.symm zm1))
    have ez : e ≠ z := fun q => by subst q; rw [zm4] at ge; cases ge; simp at ce
    exact wpAny_setField_rec zm4 (by simp) fun m5 _ sb5 => last m5 e (fun c o a1 a2 a3 a4 g => sb5.extBut _ _ a1 (xb _ _ a4 (to3 c o a1 a2 a3 g))) ⟨oe, sb5.extBut _ _ ez ge, ce⟩
end
end L2
namespace L2
open PySem PySem.Spec PyProof.Rows
theorem Inv.turnedL {X : Cx} {pins : List (Addr × Obj)} {σ : St} {H : Hp} {s : Shared} {h' : Heap} {t' : Nat} {fl : List Addr} (I : Inv X pins σ H s) (kk : ∀ b o, b ∉ fl → s.heap.get? b = some o → h'.get? b = some o) (fo : ∀ b ∈ fl, FpOk X pins H b) : Inv X pins σ H { s with heap := h', toks := t' } := by
  have out : ∀ b u, H b = some u → b ∉ fl := fun b u e z => by rw [(fo b z).1] at e; cases e
  refine I.step (g' := s.gens) (d' := s.drawn) (ch := fl) (fun b hb => ?_) (fun b o _ _ hc e _ => kk b o hc e) (fun b o _ _ hc e _ => ⟨o.slots, kk b o hc e⟩) (fun _ _ _ _ q => q)
    (fun b o hc e => ⟨o, kk b o hc e⟩) (fun _ _ e => e) (fun _ _ _ e => e) (fun b ps e => ⟨#[], by rw [e]; simp⟩) (fun m hm => ?_) (fun b u e => ?_) I.bare
  · obtain ⟨_, f1, _, f3, f4, f5⟩ := fo b hb
    exact ⟨f3, f1, f4, f5⟩
  · obtain ⟨o, es, ep, ho, r⟩ := hm
    exact ⟨o, es, ep, kk _ o (fun z => (fo _ z).2.1 rfl) ho, r⟩
  · refine (I.hok b u e).stay (fun c v hc q => kk c v ?_ q) (fun _ q => q) fun _ _ q => q
    rcases hc with z | z
    · rw [z]; exact out b u e
    · exact out c _ z
def Itz (K : PySem.W.Frag) (a b : Addr) : It := ⟨fun i H => ∃ xs ys x y, SqT K H a xs ∧ SqT K H b ys ∧ xs[i]? = some x ∧ ys[i]? = some y,
  fun i H v H' => ∃ T x y, v = .ref T ∧ H T = none ∧ H' = upd H T (.tup [x, y]) ∧ ∀ xs ys, SqT K H a xs → SqT K H b ys → xs[i]? = some x ∧ ys[i]? = some y, fun i H => ∃ xs ys, SqT K H a xs ∧ SqT K H b ys ∧ (xs.length ≤ i ∨ ys.length ≤ i)⟩
theorem turn_zip {P : Program} {w : World} {K : PySem.W.Frag} {es : List Expr} {x1 : Nat} {pp : Pos} {a b z ti ox j1 j2 : Addr} (ap : Apart5 z ti ox j1 j2 a b) :
    Turn P w K (.Tuple es x1 pp) (Itz K a b) [z, ti, ox, j1, j2] z (fun i h => IsZip h z ti ox .none ∧ IsPair h ti (.ref j1) (.ref j2) ∧ (∃ u v, IsPair h ox u v) ∧ h.IsTupleIter j1 a i ∧ h.IsTupleIter j2 b i) where
  mem := by simp
  obj := fun i h q c hc => by
    obtain ⟨q1, q2, ⟨u, v, q3⟩, ⟨o4, g4, _, d4⟩, ⟨o5, g5, _, d5⟩⟩ := q
    simp only [List.mem_cons, List.not_mem_nil, or_false] at hc
    rcases hc with rfl | rfl | rfl | rfl | rfl
    · exact ⟨_, q1, fun v z => nomatch z⟩
    · exact ⟨_, q2, fun v z => nomatch z⟩
    · exact ⟨_, q3, fun v z => nomatch z⟩
    · exact ⟨_, g4, fun v z => by rw [d4] at z; cases z⟩
    · exact ⟨_, g5, fun v z => by rw [d5] at z; cases z⟩
  keep := fun i h h' q k => by
    obtain ⟨q1, q2, ⟨u, v, q3⟩, q4, q5⟩ := q
    exact ⟨k _ (by simp) _ q1, k _ (by simp) _ q2, ⟨u, v, k _ (by simp) _ q3⟩, tupIt_at q4 fun o g => k _ (by simp) o g, tupIt_at q5 fun o g => k _ (by simp) o g⟩
  item := by
    intro X hP hw hK hc i pins s σ H E I hf st hg
    subst hP hw hK
    obtain ⟨xs, ys, x, y, hq1, hq2, hx, hy⟩ := hg
    obtain ⟨q1, q2, ⟨u, v, q3⟩, q4, q5⟩ := st
    obtain ⟨as, ra, pa, za⟩ := I.tuple hq1
    obtain ⟨bs, rb, pb, zb⟩ := I.tuple hq2
    obtain ⟨ux, hux, rux⟩ := ra.get hx
    obtain ⟨uy, huy, ruy⟩ := rb.get hy
    refine zipT_item ap q1 q2 q3 q4 q5 (show s.heap.IsTuple a as.toArray from pa) (show s.heap.IsTuple b bs.toArray from pb) (x := ux) (y := uy) (by simpa using hux) (by simpa using huy) fun h' zz oo p1' p2' np bt => ?_
    have I1 : Inv X pins σ H { s with heap := h' } := I.turnedL (t' := s.toks) (fl := [z, ti, ox, j1, j2]) (fun c o hc e => by
      simp only [List.mem_cons, List.not_mem_nil, or_false, not_or] at hc
      exact bt c o hc.1 hc.2.2.1 hc.2.2.2.1 hc.2.2.2.2 e) hf
    obtain ⟨f0, f1, f2, f3, f4, f5⟩ := I.fpOk (Nat.le_refl s.heap.objs.size) (I.hok.fresh (Nat.le_refl _))
    have n0 : X.s₀.heap.get? s.heap.objs.size = none := by
      cases q : X.s₀.heap.get? s.heap.objs.size with
      | none => rfl
      | some o => exact absurd (Nat.lt_of_lt_of_le (Heap.lt_size q) I.sz) (Nat.lt_irrefl _)
    have I2 : Inv X pins σ (upd H s.heap.objs.size (.tup [x, y])) { s with heap := h' } := I1.track f0 ⟨small (by simp), [ux, uy], .cons rux (.cons ruy .nil), ⟨_, np, rfl, _, rfl⟩⟩ f1 f4 f5 n0
    have lt : ∀ {c o}, s.heap.get? c = some o → c ≠ s.heap.objs.size := fun e => Nat.ne_of_lt (Heap.lt_size e)
    have hzT : z ≠ s.heap.objs.size := lt q1
    have ti2 : IsPair h' ti (.ref j1) (.ref j2) := bt _ _ ap.ti_z ap.ti_ox ap.ti_j1 ap.ti_j2 q2
    obtain ⟨e0, e1, e2, e3, e4, e5⟩ := hf z (by simp)
    refine ⟨_, rfl, wpAny_letOwnedTupleGo_zip zz fun h2 z2 sb => ?_⟩
    have I3 : Inv X pins σ (upd H s.heap.objs.size (.tup [x, y])) { s with heap := h2 } := Inv.turned (s := { s with heap := h' }) (h' := h2) (t' := s.toks) (it := z) I2 (fun c o hc e => sb.extBut _ _ hc e) (by rw [upd_ne hzT]; exact e0) e1 e3 e4 e5
    refine ⟨.ref s.heap.objs.size, _, I3, rfl, ⟨_, x, y, rfl, f0, rfl, fun xs' ys' k1 k2 => ?_⟩, ⟨z2, sb.extBut _ _ ap.ti_z ti2, ⟨_, _, sb.extBut _ _ ap.ox_z oo⟩, tupIt_at p1' fun o g => sb.extBut _ _ ap.j1_z g, tupIt_at p2' fun o g => sb.extBut _ _ ap.j2_z g⟩, fun c hc => ?_⟩
    · rw [I.tuple_inj k1 hq1, I.tuple_inj k2 hq2]; exact ⟨hx, hy⟩
    · have cT : c ≠ s.heap.objs.size := by
        obtain ⟨o4, g4, _⟩ := q4
        obtain ⟨o5, g5, _⟩ := q5
        simp only [List.mem_cons, List.not_mem_nil, or_false] at hc
        rcases hc with rfl | rfl | rfl | rfl | rfl
        · exact hzT
        · exact lt q2
        · exact lt q3
        · exact lt g4
        · exact lt g5
      rw [upd_ne cT]; exact (hf c hc).1
  done := by
    intro X hP hw hK hc i pins s σ H E I hf st hg
    subst hP hw hK
    obtain ⟨xs, ys, hq1, hq2, hx⟩ := hg
    obtain ⟨q1, q2, ⟨u, v, q3⟩, q4, q5⟩ := st
    obtain ⟨as, ra, pa, za⟩ := I.tuple hq1
    obtain ⟨bs, rb, pb, zb⟩ := I.tuple hq2
    have la := ra.length
    have lb := rb.length
    refine zipT_end (I.ok.hd hc) ap q1 q2 q3 q4 q5 (show s.heap.IsTuple a as.toArray from pa) (show s.heap.IsTuple b bs.toArray from pb) (by rcases hx with q | q; exact .inl (by simp; omega); exact .inr (by simp; omega)) fun h' bt => ⟨rfl, ?_⟩
    exact I.turnedL (t' := s.toks) (fl := [z, ti, ox, j1, j2]) (fun c o hc e => by
      simp only [List.mem_cons, List.not_mem_nil, or_false, not_or] at hc
      exact bt c o hc.1 hc.2.2.1 hc.2.2.2.1 hc.2.2.2.2 e) hf
  self := fun _ _ _ _ _ st h => wpAny_pyIter_zip st.1 h
abbrev zt1 (h : Heap) (a : Addr) : Heap := h.push { cls := .type "tuple_iterator", data := .fields #[.ref a, .int 0 0] }
abbrev zt2 (h : Heap) (a b : Addr) : Heap := (zt1 h a).push { cls := .type "tuple_iterator", data := .fields #[.ref b, .int 0 0] }
abbrev zt3 (h : Heap) (a b : Addr) : Heap := (zt2 h a b).push { cls := .type "tuple", data := .seq #[.ref h.objs.size, .ref (zt1 h a).objs.size] }
abbrev zt4 (h : Heap) (a b : Addr) : Heap := (zt3 h a b).push { cls := .type "tuple", data := .seq #[.none, .none] }
abbrev zt5 (h : Heap) (a b : Addr) : Heap := (zt4 h a b).push { cls := .type "zip", data := .fields #[.none, .bool false, .bool false, .ref (zt2 h a b).objs.size, .ref (zt3 h a b).objs.size] }
theorem zipT_new (a b : Addr) (as bs : Array Value) : Meets (Builtin.«zip.__new__» ⟨[.type "zip", .ref a, .ref b], []⟩) (fun _ R s => s.heap.IsTuple a as ∧ s.heap.IsTuple b bs ∧ R (.ok (.ret (.ref (zt4 s.heap a b).objs.size))) { s with heap := zt5 s.heap a b }) :=
  .of_wp fun prog w A R s h => by
    obtain ⟨hp, g, d, tk, os⟩ := s
    obtain ⟨ha, hb, h⟩ := h
    have q0 := sub_zip
    have q1 : Heap.IsTuple (Shared.heap ⟨hp, g, d, tk, os⟩) a as := ha
    have q2 : Heap.IsTuple (Shared.heap ⟨hp.push { cls := .type "tuple_iterator", data := .fields #[.ref a, .int 0 0] }, g, d, tk, os⟩) b bs := tup_at hb fun o e => Heap.get?_push_of_some _ e
    wp_walk using wpAny_pyIter_tuple q1, wpAny_pyIter_tuple q2
    exact ⟨_, rfl, h⟩
theorem zipT_call {pg : Program} {wd : World} {B : Around} {X0 : Value → Shared → Prop} {s0 : Shared} {a b : Addr} {as bs : Array Value} {R : Value → Shared → Prop} (ha : s0.heap.IsTuple a as) (hb : s0.heap.IsTuple b bs)
    (f : ∀ h', IsZip h' (s0.heap.objs.size + 4) (s0.heap.objs.size + 2) (s0.heap.objs.size + 3) .none → IsPair h' (s0.heap.objs.size + 2) (.ref s0.heap.objs.size) (.ref (s0.heap.objs.size + 1)) → IsPair h' (s0.heap.objs.size + 3) .none .none →
      h'.IsTupleIter s0.heap.objs.size a 0 → h'.IsTupleIter (s0.heap.objs.size + 1) b 0 → (∀ c o, s0.heap.get? c = some o → h'.get? c = some o) → R (.ref (s0.heap.objs.size + 4)) { s0 with heap := h' }) :
    wpAny (model pg wd) B (call (.type "zip") [.ref a, .ref b]) R X0 s0 := by
  refine callType_new F.called_zip (by decide) (F.typeCall_zip_2 _ _) (F.newCall_zip_2 _ _) (fun ob => F.args_object_init_3 ob _ _) F.entry_zip_new (zipT_new a b as bs) ⟨ha, hb, ?_⟩
  have n1 : (zt1 s0.heap a).objs.size = s0.heap.objs.size + 1 := Heap.size_push ..
  have n2 : (zt2 s0.heap a b).objs.size = s0.heap.objs.size + 2 := by rw [Heap.size_push, n1]
  have n3 : (zt3 s0.heap a b).objs.size = s0.heap.objs.size + 3 := by rw [Heap.size_push, n2]
  have n4 : (zt4 s0.heap a b).objs.size = s0.heap.objs.size + 4 := by rw [Heap.size_push, n3]
  have g5 : (zt5 s0.heap a b).get? (zt4 s0.heap a b).objs.size = some _ := Heap.get?_push_size _ rfl
  have g4 : (zt5 s0.heap a b).get? (zt3 s0.heap a b).objs.size = some _ := Heap.get?_push_of_some _ (Heap.get?_push_size _ rfl)
  have g3 : (zt5 s0.heap a b).get? (zt2 s0.heap a b).objs.size = some _ := Heap.get?_push_of_some _ (Heap.get?_push_of_some _ (Heap.get?_push_size _ rfl))
  have g2 : (zt5 s0.heap a b).get? (zt1 s0.heap a).objs.size = some _ := Heap.get?_push_of_some _ (Heap.get?_push_of_some _ (Heap.get?_push_of_some _ (Heap.get?_push_size _ rfl)))
  have g1 : (zt5 s0.heap a b).get? s0.heap.objs.size = some _ := Heap.get?_push_of_some _ (Heap.get?_push_of_some _ (Heap.get?_push_of_some _ (Heap.get?_push_of_some _ (Heap.get?_push_size _ rfl))))
  show _ ∧ _
  rw [n2, n3, n4] at g5
  rw [n1, n2] at g3
  rw [n3] at g4
  rw [n1] at g2
  rw [n4]
  exact ⟨⟨_, g5, rfl⟩, f _ g5 g3 g4 ⟨_, g1, rfl, rfl⟩ ⟨_, g2, rfl, rfl⟩ fun c o q => Heap.get?_push_of_some _ (Heap.get?_push_of_some _ (Heap.get?_push_of_some _ (Heap.get?_push_of_some _ (Heap.get?_push_of_some _ q))))⟩
theorem apart_of (n a b : Nat) (ha : a < n) (hb : b < n) : Apart5 (n + 4) (n + 2) (n + 3) n (n + 1) a b := by
  constructor <;> first | exact Nat.ne_of_lt (by omega) | exact Nat.ne_of_gt (by omega)
section
variable {X : Cx} {es : List Expr} {x1 : Nat} {pp : Pos}
def iZip (K : PySem.W.Frag) (ta : TA) : TI := fun σ H R => ta σ H fun vs H1 => ∃ a b xs ys, vs = [.ref a, .ref b] ∧ SqT K H1 a xs ∧ SqT K H1 b ys ∧ R (Itz K a b) H1
theorem pi_zip {e1 e2 : Expr} {ta : TA} {p pos : Pos} (hg : Gl X "zip") (hm : X.mg "zip" = none) (ha : PA X [e1, e2] ta) (hs : starEach [e1, e2] X.env = [(false, eval e1 X.env), (false, eval e2 X.env)] := by rfl) (hs2 : starEach [e2] X.env = [(false, eval e2 X.env)] := by rfl) :
    PI X (.Tuple es x1 pp) (.Call (.Name "zip" p) [e1, e2] [] pos) (iZip X.K ta) := by
  intro pins s σ H R I h
  have hA := ha pos pins s σ H _ I h
  refine Call_ (ld_blt I hg hm boot_zip (PyProof.Rows.callWith_type1 (thn hA fun us s1 ⟨vs, H1, I1, r1, q1⟩ => ?_) (by rw [hs, hs2]) (by rw [hs2]; rfl)))
  obtain ⟨a, b, xs, ys, rfl, ha, hb, q⟩ := q1
  obtain ⟨u, u', rfl, ra, rb⟩ := vals2 r1
  cases (show u = Value.ref a from ra)
  cases (show u' = Value.ref b from rb)
  obtain ⟨as, va, pa, za⟩ := I1.tuple ha
  obtain ⟨bs, vb, pb, zb⟩ := I1.tuple hb
  have al : a < s1.heap.objs.size := by obtain ⟨o, g, _⟩ := pa; exact Heap.lt_size g
  have bl : b < s1.heap.objs.size := by obtain ⟨o, g, _⟩ := pb; exact Heap.lt_size g
  refine zipT_call (show s1.heap.IsTuple a as.toArray from pa) (show s1.heap.IsTuple b bs.toArray from pb) fun h' w1 w2 w3 w4 w5 kk => ?_
  have I2 : Inv X pins σ H1 { s1 with heap := h' } := I1.kept (t' := s1.toks) kk
  have ap := apart_of s1.heap.objs.size a b al bl
  refine wpAny_pyIter_zip w1 ⟨s1.heap.objs.size + 4, [s1.heap.objs.size + 4, s1.heap.objs.size + 2, s1.heap.objs.size + 3, s1.heap.objs.size, s1.heap.objs.size + 1], _, _, H1, rfl, I2, turn_zip ap, ⟨w1, w2, ⟨_, _, w3⟩, w4, w5⟩, fun c hc => ?_, q⟩
  have ge : s1.heap.objs.size ≤ c := by
    simp only [List.mem_cons, List.not_mem_nil, or_false] at hc
    rcases hc with rfl | rfl | rfl | rfl | rfl <;> omega
  exact I1.fpOk ge (I1.hok.fresh ge)
end
def LoopZ (K : PySem.W.Frag) (g : TG) (tb : TS) (D : Ends) (σ : St) (vs : List V) (H1 : Hp) : Prop := ∃ a b xs ys, vs = [.ref a, .ref b] ∧ SqT K H1 a xs ∧ SqT K H1 b ys ∧ ∃ W : Nat → Nat → St → Hp → Prop, (∃ m, W 0 m σ H1) ∧ ∀ i m σ H, W i m σ H →
  ((Itz K a b).stop i H ∧ D.nx σ H) ∨ ((Itz K a b).go i H ∧ ∃ N : St → Hp → Prop, (∀ σ' H', N σ' H' → ∃ m', m' < m ∧ W (i + 1) m' σ' H') ∧ ∀ x H', (Itz K a b).yld i H x H' → g x σ H' fun σ2 H2 => tb { D with nx := N, ct := N, bk := D.nx } σ2 H2)
theorem for_eqZ {K : PySem.W.Frag} {ta : TA} {g : TG} {tb : TS} {D : Ends} {σ : St} {H : Hp} : tFor (iZip K ta) g tb D σ H = ta σ H fun vs H1 => LoopZ K g tb D σ vs H1 := rfl
theorem LoopZ.mk {K : PySem.W.Frag} {a b : Addr} {xs ys : List V} {g : TG} {tb : TS} {D : Ends} {σ : St} {H : Hp} (n : Nat) (hn : n = min xs.length ys.length) (h1 : SqT K H a xs) (h2 : SqT K H b ys) (Pv : Nat → St → Hp → Prop) (h0 : Pv 0 σ H) (hl : ∀ i σ H, i ≤ n → Pv i σ H → SqT K H a xs ∧ SqT K H b ys)
    (hs : ∀ i x y σ H T, i < n → xs[i]? = some x → ys[i]? = some y → Pv i σ H → H T = none → g (.ref T) σ (upd H T (.tup [x, y])) fun σ2 H2 => tb { D with nx := Pv (i + 1), ct := Pv (i + 1), bk := D.nx } σ2 H2) (hd : ∀ σ H, Pv n σ H → D.nx σ H) :
    LoopZ K g tb D σ [.ref a, .ref b] H := by
  subst hn
  refine ⟨a, b, xs, ys, rfl, h1, h2, fun i m σ H => m = min xs.length ys.length - i ∧ i ≤ min xs.length ys.length ∧ Pv i σ H, ⟨_, rfl, Nat.zero_le _, h0⟩, ?_⟩
  rintro i m σ H ⟨rfl, hi, p⟩
  obtain ⟨k1, k2⟩ := hl i σ H hi p
  by_cases hlt : i < min xs.length ys.length
  · have l1 : i < xs.length := by omega
    have l2 : i < ys.length := by omega
    refine .inr ⟨⟨xs, ys, _, _, k1, k2, List.getElem?_eq_getElem l1, List.getElem?_eq_getElem l2⟩, Pv (i + 1), fun σ' H' p' => ⟨min xs.length ys.length - (i + 1), by omega, rfl, hlt, p'⟩, fun v H' yy => ?_⟩
    obtain ⟨T, x, y, rfl, hT, rfl, ex⟩ := yy
    obtain ⟨ex1, ex2⟩ := ex xs ys k1 k2
    exact hs i x y σ H T hlt ex1 ex2 p hT
  · have e : i = min xs.length ys.length := by omega
    exact .inl ⟨⟨xs, ys, k1, k2, by omega⟩, hd σ H (e ▸ p)⟩
def CompZ (K : PySem.W.Frag) (k : Nat) (js : List Nat) (g : TG) (te : TE) (σ : St) (vs : List V) (H1 : Hp) (Q : VK) : Prop := ∃ a b xs ys, vs = [.ref a, .ref b] ∧ SqT K H1 a xs ∧ SqT K H1 b ys ∧ ∃ W : Nat → Nat → List V → St → Hp → Prop, (∃ m, W 0 m [] (compSt k js σ) H1) ∧ ∀ i m zs σ' H', W i m zs σ' H' →
    ((Itz K a b).stop i H' ∧ ∀ p, H' p = none → Q (.ref p) (upd H' p (.lst zs))) ∨
    ((Itz K a b).go i H' ∧ zs.length < sizeLine ∧ ∃ N : List V → St → Hp → Prop, (∀ zs σ2 H2, N zs σ2 H2 → ∃ m', m' < m ∧ W (i + 1) m' zs σ2 H2) ∧ ∀ x H2, (Itz K a b).yld i H' x H2 → g x σ' H2 fun σ3 H3 => te σ3 H3 fun v H4 => N (zs ++ [v]) σ3 H4)
theorem comp_eqZ {K : PySem.W.Frag} {k : Nat} {js : List Nat} {ta : TA} {g : TG} {te : TE} {σ : St} {H : Hp} {Q : VK} : tComp (iZip K ta) k js g te σ H Q = ta σ H fun vs H1 => CompZ K k js g te σ vs H1 Q := rfl
theorem CompZ.mk {K : PySem.W.Frag} {a b : Addr} {xs ys : List V} {k : Nat} {js : List Nat} {g : TG} {te : TE} {Q : VK} {σ : St} {H : Hp} (n : Nat) (hn : n = min xs.length ys.length) (h1 : SqT K H a xs) (h2 : SqT K H b ys) (Pv : Nat → List V → St → Hp → Prop) (h0 : Pv 0 [] (compSt k js σ) H) (hl : ∀ i zs σ H, i ≤ n → Pv i zs σ H → SqT K H a xs ∧ SqT K H b ys)
    (hs : ∀ i x y zs σ H T, i < n → xs[i]? = some x → ys[i]? = some y → Pv i zs σ H → H T = none → zs.length < sizeLine ∧ g (.ref T) σ (upd H T (.tup [x, y])) fun σ3 H3 => te σ3 H3 fun v H4 => Pv (i + 1) (zs ++ [v]) σ3 H4) (hz : ∀ zs σ H, Pv n zs σ H → ∀ p, H p = none → Q (.ref p) (upd H p (.lst zs))) (hlen : ∀ i zs σ H, Pv i zs σ H → zs.length < sizeLine) :
    CompZ K k js g te σ [.ref a, .ref b] H Q := by
  subst hn
  refine ⟨a, b, xs, ys, rfl, h1, h2, fun i m zs σ H => m = min xs.length ys.length - i ∧ i ≤ min xs.length ys.length ∧ Pv i zs σ H, ⟨_, rfl, Nat.zero_le _, h0⟩, ?_⟩
  rintro i m zs σ H ⟨rfl, hi, p⟩
  obtain ⟨k1, k2⟩ := hl i zs σ H hi p
  by_cases hlt : i < min xs.length ys.length
  · have l1 : i < xs.length := by omega
    have l2 : i < ys.length := by omega
    refine .inr ⟨⟨xs, ys, _, _, k1, k2, List.getElem?_eq_getElem l1, List.getElem?_eq_getElem l2⟩, hlen _ _ _ _ p, Pv (i + 1), fun zs' σ' H' p' => ⟨min xs.length ys.length - (i + 1), by omega, rfl, hlt, p'⟩, fun v H' yy => ?_⟩
    obtain ⟨T, x, y, rfl, hT, rfl, ex⟩ := yy
    obtain ⟨ex1, ex2⟩ := ex xs ys k1 k2
    exact (hs i x y zs σ H T hlt ex1 ex2 p hT).2
  · have e : i = min xs.length ys.length := by omega
    exact .inl ⟨⟨xs, ys, k1, k2, by omega⟩, hz zs σ H (e ▸ p)⟩
end L2
namespace L2
open PySem PySem.Spec PyProof.Rows
section
variable {X : Cx}
theorem call_sumL (hc : X.calm = true) : CallR X (.builtin "sum") (fun xs H Q => ∃ (a : Addr) (ns : List Int), xs = [.ref a] ∧ SqL X.K H a (ns.map V.int) ∧ Q (.int ns.sum) H) := by
  intro pins s σ H xs us Q I r h
  obtain ⟨a, ns, rfl, hq, q⟩ := h
  obtain ⟨u, rfl, ru⟩ := vals1 r
  cases (show u = Value.ref a from ru)
  obtain ⟨its, rv, pl, hz⟩ := I.list hq
  have hi := intsAre_of rv
  have hn := hi.numsOf
  obtain ⟨ps, e⟩ := hi.allInts.items
  have hl : s.heap.IsList a (intItems ps) := e ▸ pl.isList
  refine sum_intListG (I.ok.hd hc) hl fun h' tk t' kk => ?_
  have e2 : preSum (numAt ps) ps.size = ns.sum := by
    rw [preSum_eq, List.take_of_length_le (by simp), ← nums_intItems, ← e]
    exact congrArg List.sum hn
  rw [e2]
  exact ⟨.int ns.sum, H, I.kept kk, ⟨t', rfl⟩, q⟩
def Its (lo st : Int) (n : Nat) : It := ⟨fun i _ => i < n, fun i H x H' => H' = H ∧ x = .int (lo + i * st), fun i _ => n ≤ i⟩
def iRng3 (ta : TA) : TI := fun σ H R => ta σ H fun vs H1 => ∃ i j c : Int, vs = [.int i, .int j, .int c] ∧ (c ≠ 0 ∧ c.natAbs < 1073741824 ∧ Builtin.Range.small i j c = true) ∧ R (Its i c (Builtin.Range.rangeSize i j c).toNat) H1
end
def LoopS (lo st : Int) (n : Nat) (g : TG) (tb : TS) (D : Ends) (σ : St) (H1 : Hp) : Prop := ∃ W : Nat → Nat → St → Hp → Prop, (∃ m, W 0 m σ H1) ∧ ∀ i m σ H, W i m σ H →
  ((Its lo st n).stop i H ∧ D.nx σ H) ∨ ((Its lo st n).go i H ∧ ∃ N : St → Hp → Prop, (∀ σ' H', N σ' H' → ∃ m', m' < m ∧ W (i + 1) m' σ' H') ∧ ∀ x H', (Its lo st n).yld i H x H' → g x σ H' fun σ2 H2 => tb { D with nx := N, ct := N, bk := D.nx } σ2 H2)
theorem for_eqR3 {ta : TA} {g : TG} {tb : TS} {D : Ends} {σ : St} {H : Hp} : tFor (iRng3 ta) g tb D σ H = ta σ H fun vs H1 => ∃ i j c : Int, vs = [.int i, .int j, .int c] ∧ (c ≠ 0 ∧ c.natAbs < 1073741824 ∧ Builtin.Range.small i j c = true) ∧ LoopS i c (Builtin.Range.rangeSize i j c).toNat g tb D σ H1 := rfl
theorem LoopS.mk {lo st : Int} {n : Nat} {g : TG} {tb : TS} {D : Ends} {σ : St} {H : Hp} (Pv : Nat → St → Hp → Prop) (h0 : Pv 0 σ H)
    (hs : ∀ i σ H, i < n → Pv i σ H → g (.int (lo + i * st)) σ H fun σ2 H2 => tb { D with nx := Pv (i + 1), ct := Pv (i + 1), bk := D.nx } σ2 H2) (hd : ∀ σ H, Pv n σ H → D.nx σ H) : LoopS lo st n g tb D σ H := by
  refine ⟨fun i m σ H => m = n - i ∧ i ≤ n ∧ Pv i σ H, ⟨_, rfl, Nat.zero_le _, h0⟩, ?_⟩
  rintro i m σ H ⟨rfl, hi, p⟩
  by_cases hlt : i < n
  · refine .inr ⟨hlt, Pv (i + 1), fun σ' H' p' => ⟨n - (i + 1), by omega, rfl, hlt, p'⟩, fun v H' yy => ?_⟩
    obtain ⟨rfl, rfl⟩ := yy
    exact hs i σ _ hlt p
  · have e : i = n := by omega
    exact .inl ⟨(show n ≤ i by omega), hd σ H (e ▸ p)⟩
def CompS (lo st : Int) (n k : Nat) (js : List Nat) (g : TG) (te : TE) (σ : St) (H1 : Hp) (Q : VK) : Prop := ∃ W : Nat → Nat → List V → St → Hp → Prop, (∃ m, W 0 m [] (compSt k js σ) H1) ∧ ∀ i m ys σ' H', W i m ys σ' H' →
    ((Its lo st n).stop i H' ∧ ∀ p, H' p = none → Q (.ref p) (upd H' p (.lst ys))) ∨
    ((Its lo st n).go i H' ∧ ys.length < sizeLine ∧ ∃ N : List V → St → Hp → Prop, (∀ zs σ2 H2, N zs σ2 H2 → ∃ m', m' < m ∧ W (i + 1) m' zs σ2 H2) ∧ ∀ x H2, (Its lo st n).yld i H' x H2 → g x σ' H2 fun σ3 H3 => te σ3 H3 fun v H4 => N (ys ++ [v]) σ3 H4)
theorem comp_eqR3 {k : Nat} {js : List Nat} {ta : TA} {g : TG} {te : TE} {σ : St} {H : Hp} {Q : VK} : tComp (iRng3 ta) k js g te σ H Q = ta σ H fun vs H1 => ∃ i j c : Int, vs = [.int i, .int j, .int c] ∧ (c ≠ 0 ∧ c.natAbs < 1073741824 ∧ Builtin.Range.small i j c = true) ∧ CompS i c (Builtin.Range.rangeSize i j c).toNat k js g te σ H1 Q := rfl
theorem CompS.mk {lo st : Int} {n k : Nat} {js : List Nat} {g : TG} {te : TE} {Q : VK} {σ : St} {H : Hp} (Pv : Nat → List V → St → Hp → Prop) (h0 : Pv 0 [] (compSt k js σ) H) (hlen : ∀ i ys σ H, Pv i ys σ H → ys.length < sizeLine)
    (hs : ∀ i ys σ H, i < n → Pv i ys σ H → g (.int (lo + i * st)) σ H fun σ3 H3 => te σ3 H3 fun v H4 => Pv (i + 1) (ys ++ [v]) σ3 H4) (hd : ∀ ys σ H, Pv n ys σ H → ∀ p, H p = none → Q (.ref p) (upd H p (.lst ys))) : CompS lo st n k js g te σ H Q := by
  refine ⟨fun i m ys σ H => m = n - i ∧ i ≤ n ∧ Pv i ys σ H, ⟨_, rfl, Nat.zero_le _, h0⟩, ?_⟩
  rintro i m ys σ H ⟨rfl, hi, p⟩
  by_cases hlt : i < n
  · refine .inr ⟨hlt, hlen _ _ _ _ p, Pv (i + 1), fun zs σ' H' p' => ⟨n - (i + 1), by omega, rfl, hlt, p'⟩, fun v H' yy => ?_⟩
    obtain ⟨rfl, rfl⟩ := yy
    exact hs i ys σ _ hlt p
  · have e : i = n := by omega
    exact .inl ⟨(show n ≤ i by omega), hd ys σ H (e ▸ p)⟩
end L2
namespace L2
open PySem PySem.Spec PyProof.Rows
section
variable {X : Cx}
def rCatS : R2 := fun x y H Q => ∃ a b xs ys, x = .ref a ∧ y = .ref b ∧ H a = some (.tup xs) ∧ H b = some (.tup ys) ∧ xs.length + ys.length ≤ sizeLine ∧ ∀ r H', Same H H' → H' r = some (.tup (xs ++ ys)) → Q (.ref r) H'
theorem op_catS : OpR X (binaryOp .Add) rCatS := by
  intro pins s σ H x y v u Q I rx ry h
  obtain ⟨a, b, xs, ys, rfl, rfl, ha, hb, hz, q⟩ := h
  refine op_catA pins s σ H _ _ v u Q I rx ry ⟨a, b, xs, ys, rfl, rfl, .of ha, .of hb, hz, fun e => ?_, fun _ e => ?_, fun _ _ p hp => ?_⟩
  · subst e; exact q b H (Same.refl _) hb
  · subst e; exact q a H (Same.refl _) (by rw [List.append_nil]; exact ha)
  · exact q p _ (same_new hp _) upd_same
def rSlTS : V → Option Int → Option Int → Hp → VK → Prop := fun x lo hi H Q => ∃ a xs, x = .ref a ∧ H a = some (.tup xs) ∧ ¬ (HT.sIx xs.length 0 lo = 0 ∧ HT.sIx xs.length xs.length hi = xs.length) ∧ ∀ r H', Same H H' → H' r = some (.tup (cutV xs lo hi)) → Q (.ref r) H'
theorem sl_tupS : SlR X rSlTS := by
  intro pins s σ H x v vl vu lo hi sl Q I rx hs pl pu h
  obtain ⟨a, xs, e, ha, nw, q⟩ := h
  exact sl_tup pins s σ H x v vl vu lo hi sl Q I rx hs pl pu ⟨a, xs, e, .of ha, nw, fun p hp => q p _ (same_new hp _) upd_same⟩
end
end L2
namespace L2
open PySem PySem.Spec PyProof.Rows
theorem has_of {names : List (Str × NameKind)} {cl : List (Str × Addr)} (h : names.all (fun y => match y.2 with | .cell => (cl.lookup y.1).isSome | .free => (cl.lookup y.1).isSome | _ => true) = true) :
    ∀ x, (names.lookup x = some .cell ∨ names.lookup x = some .free) → ∃ c, cl.lookup x = some c := by
  intro x hx
  have z := List.all_eq_true.mp h
  rcases hx with hx | hx
  · exact Option.isSome_iff_exists.mp (z _ (PySem.mem_of_lookup hx))
  · exact Option.isSome_iff_exists.mp (z _ (PySem.mem_of_lookup hx))
theorem cap1 {X : Cx} {scope : Scope} {cl : List (Str × Addr)} {x0 : Str} {j0 : Nat} (c0 : Cap X scope cl x0 j0) : ∀ (i : Nat) x j, [x0][i]? = some x → [j0][i]? = some j → Cap X scope cl x j
  | 0, _, _, h1, h2 => by cases h1; cases h2; exact c0
  | _ + 1, _, _, h1, _ => by cases h1
end L2
namespace L2
open PySem PySem.Spec PyProof.Rows
section
variable {prog : Program} {w : World} {A : Around} {R : Result → Shared → Prop} {s : Shared}
end
def tCompI (wi : TI) (k : Nat) (js : List Nat) (g : TG) (tc : TT) (te : TE) : TE := fun σ H Q => wi σ H fun J H1 =>
  ∃ W : Nat → Nat → List V → St → Hp → Prop, (∃ m, W 0 m [] (compSt k js σ) H1) ∧ ∀ i m ys σ' H', W i m ys σ' H' →
    (J.stop i H' ∧ ∀ p, H' p = none → Q (.ref p) (upd H' p (.lst ys))) ∨
    (J.go i H' ∧ ys.length < sizeLine ∧ ∃ N : List V → St → Hp → Prop, (∀ zs σ2 H2, N zs σ2 H2 → ∃ m', m' < m ∧ W (i + 1) m' zs σ2 H2) ∧
      ∀ x H2, J.yld i H' x H2 → g x σ' H2 fun σ3 H3 => tc σ3 H3 fun b H4 => if b = true then te σ3 H4 fun v H5 => N (ys ++ [v]) σ3 H5 else N ys σ3 H4)
end L2
namespace L2
open PySem PySem.Spec PyProof.Rows
section
variable {pg : Program} {wd : World} {B : Around} {X0 : Value → Shared → Prop} {s0 : Shared}
end
def Ite (K : PySem.W.Frag) (a : Addr) : It := ⟨fun i H => ∃ xs x, SqT K H a xs ∧ xs[i]? = some x,
  fun i H v H' => ∃ T x, v = .ref T ∧ H T = none ∧ H' = upd H T (.tup [.int i, x]) ∧ ∀ xs, SqT K H a xs → xs[i]? = some x, fun i H => ∃ xs, SqT K H a xs ∧ xs.length ≤ i⟩
section
variable {X : Cx} {es : List Expr} {x1 : Nat} {pp : Pos}
def iEnum (K : PySem.W.Frag) (te : TE) : TI := fun σ H R => te σ H fun v H1 => ∃ a xs, v = .ref a ∧ SqT K H1 a xs ∧ R (Ite K a) H1
end
def CompE (K : PySem.W.Frag) (k : Nat) (js : List Nat) (g : TG) (te : TE) (σ : St) (v : V) (H1 : Hp) (Q : VK) : Prop := ∃ a xs, v = .ref a ∧ SqT K H1 a xs ∧ ∃ W : Nat → Nat → List V → St → Hp → Prop, (∃ m, W 0 m [] (compSt k js σ) H1) ∧ ∀ i m zs σ' H', W i m zs σ' H' →
    ((Ite K a).stop i H' ∧ ∀ p, H' p = none → Q (.ref p) (upd H' p (.lst zs))) ∨
    ((Ite K a).go i H' ∧ zs.length < sizeLine ∧ ∃ N : List V → St → Hp → Prop, (∀ zs σ2 H2, N zs σ2 H2 → ∃ m', m' < m ∧ W (i + 1) m' zs σ2 H2) ∧ ∀ x H2, (Ite K a).yld i H' x H2 → g x σ' H2 fun σ3 H3 => te σ3 H3 fun v H4 => N (zs ++ [v]) σ3 H4)
theorem comp_eqE {K : PySem.W.Frag} {k : Nat} {js : List Nat} {tx : TE} {g : TG} {te : TE} {σ : St} {H : Hp} {Q : VK} : tComp (iEnum K tx) k js g te σ H Q = tx σ H fun v H1 => CompE K k js g te σ v H1 Q := rfl
theorem CompE.mk {K : PySem.W.Frag} {a : Addr} {xs : List V} {k : Nat} {js : List Nat} {g : TG} {te : TE} {Q : VK} {σ : St} {H : Hp} (h1 : SqT K H a xs) (Pv : Nat → List V → St → Hp → Prop) (h0 : Pv 0 [] (compSt k js σ) H) (hl : ∀ i zs σ H, i ≤ xs.length → Pv i zs σ H → SqT K H a xs ∧ zs.length < sizeLine)
    (hs : ∀ i x zs σ H T, xs[i]? = some x → Pv i zs σ H → H T = none → g (.ref T) σ (upd H T (.tup [.int i, x])) fun σ3 H3 => te σ3 H3 fun v H4 => Pv (i + 1) (zs ++ [v]) σ3 H4) (hz : ∀ zs σ H, Pv xs.length zs σ H → ∀ p, H p = none → Q (.ref p) (upd H p (.lst zs))) :
    CompE K k js g te σ (.ref a) H Q := by
  refine ⟨a, xs, rfl, h1, fun i m zs σ H => m = xs.length - i ∧ i ≤ xs.length ∧ Pv i zs σ H, ⟨_, rfl, Nat.zero_le _, h0⟩, ?_⟩
  rintro i m zs σ H ⟨rfl, hi, p⟩
  obtain ⟨k1, k2⟩ := hl i zs σ H hi p
  by_cases hlt : i < xs.length
  · refine .inr ⟨⟨xs, _, k1, List.getElem?_eq_getElem hlt⟩, k2, Pv (i + 1), fun zs' σ' H' p' => ⟨xs.length - (i + 1), by omega, rfl, hlt, p'⟩, fun v H' yy => ?_⟩
    obtain ⟨T, x, rfl, hT, rfl, ex⟩ := yy
    exact hs i x zs σ H T (ex xs k1) p hT
  · have e : i = xs.length := by omega
    exact .inl ⟨⟨xs, k1, by omega⟩, hz zs σ H (e ▸ p)⟩
def CompEI (K : PySem.W.Frag) (k : Nat) (js : List Nat) (g : TG) (tc : TT) (te : TE) (σ : St) (v : V) (H1 : Hp) (Q : VK) : Prop := ∃ a xs, v = .ref a ∧ SqT K H1 a xs ∧ ∃ W : Nat → Nat → List V → St → Hp → Prop, (∃ m, W 0 m [] (compSt k js σ) H1) ∧ ∀ i m zs σ' H', W i m zs σ' H' →
    ((Ite K a).stop i H' ∧ ∀ p, H' p = none → Q (.ref p) (upd H' p (.lst zs))) ∨
    ((Ite K a).go i H' ∧ zs.length < sizeLine ∧ ∃ N : List V → St → Hp → Prop, (∀ zs σ2 H2, N zs σ2 H2 → ∃ m', m' < m ∧ W (i + 1) m' zs σ2 H2) ∧ ∀ x H2, (Ite K a).yld i H' x H2 → g x σ' H2 fun σ3 H3 => tc σ3 H3 fun b H4 => if b = true then te σ3 H4 fun v H5 => N (zs ++ [v]) σ3 H5 else N zs σ3 H4)
theorem comp_eqEI {K : PySem.W.Frag} {k : Nat} {js : List Nat} {tx : TE} {g : TG} {tc : TT} {te : TE} {σ : St} {H : Hp} {Q : VK} : tCompI (iEnum K tx) k js g tc te σ H Q = tx σ H fun v H1 => CompEI K k js g tc te σ v H1 Q := rfl
theorem CompEI.mk {K : PySem.W.Frag} {a : Addr} {xs : List V} {k : Nat} {js : List Nat} {g : TG} {tc : TT} {te : TE} {Q : VK} {σ : St} {H : Hp} (h1 : SqT K H a xs) (Pv : Nat → List V → St → Hp → Prop) (h0 : Pv 0 [] (compSt k js σ) H) (hl : ∀ i zs σ H, i ≤ xs.length → Pv i zs σ H → SqT K H a xs ∧ zs.length < sizeLine)
    (hs : ∀ i x zs σ H T, xs[i]? = some x → Pv i zs σ H → H T = none → g (.ref T) σ (upd H T (.tup [.int i, x])) fun σ3 H3 => tc σ3 H3 fun b H4 => if b = true then te σ3 H4 fun v H5 => Pv (i + 1) (zs ++ [v]) σ3 H5 else Pv (i + 1) zs σ3 H4) (hz : ∀ zs σ H, Pv xs.length zs σ H → ∀ p, H p = none → Q (.ref p) (upd H p (.lst zs))) :
    CompEI K k js g tc te σ (.ref a) H Q := by
  refine ⟨a, xs, rfl, h1, fun i m zs σ H => m = xs.length - i ∧ i ≤ xs.length ∧ Pv i zs σ H, ⟨_, rfl, Nat.zero_le _, h0⟩, ?_⟩
  rintro i m zs σ H ⟨rfl, hi, p⟩
  obtain ⟨k1, k2⟩ := hl i zs σ H hi p
  by_cases hlt : i < xs.length
  · refine .inr ⟨⟨xs, _, k1, List.getElem?_eq_getElem hlt⟩, k2, Pv (i + 1), fun zs' σ' H' p' => ⟨xs.length - (i + 1), by omega, rfl, hlt, p'⟩, fun v H' yy => ?_⟩
    obtain ⟨T, x, rfl, hT, rfl, ex⟩ := yy
    exact hs i x zs σ H T (ex xs k1) p hT
  · have e : i = xs.length := by omega
    exact .inl ⟨⟨xs, k1, by omega⟩, hz zs σ H (e ▸ p)⟩
end L2
namespace L2
open PySem PySem.Spec PyProof.Rows
section
variable {X : Cx}
def rNeT (K : PySem.W.Frag) : R2 := fun x y H Q => ∃ a b xs ys, x = .ref a ∧ y = .ref b ∧ SqT K H a xs ∧ SqT K H b ys ∧ xs.all flatV = true ∧ ys.all flatV = true ∧ Q (.bl (!eqVs xs ys)) H
theorem op_neT (hu : X.A.units < cLine) : OpR X (compareOp .NotEq) (rNeT X.K) := by
  intro pins s σ H x y v u Q I rx ry h
  obtain ⟨a, b, xs, ys, rfl, rfl, ha, hb, f1, f2, q⟩ := h
  cases rx
  cases ry
  obtain ⟨us, r1, p1, _⟩ := I.tuple ha
  obtain ⟨ws, r2, p2, _⟩ := I.tuple hb
  refine SeqAt.RcNeAt.tuples (show s.heap.IsTuple a us.toArray from p1) (show s.heap.IsTuple b ws.toArray from p2) (e := eqAtI xs ys) hu (eqAtI_ok r1 r2 f1 f2) _ _ _ _ ?_
  have e1 : us.toArray.size = xs.length := by simp [r1.length]
  have e2 : ws.toArray.size = ys.length := by simp [r2.length]
  rw [e1, e2]
  have z : ((List.range (min xs.length ys.length)).all (eqAtI xs ys) && xs.length == ys.length) = eqVs xs ys := by
    by_cases hl : xs.length = ys.length
    · rw [← hl, Nat.min_self, eqVs_all hl]; simp
    · rw [eqVs_len hl]; simp [hl]
  rw [z]
  exact ⟨.bl _, H, I, rfl, q⟩
def rNeL (K : PySem.W.Frag) : R2 := fun x y H Q => ∃ a b xs ys, x = .ref a ∧ y = .ref b ∧ SqL K H a xs ∧ SqL K H b ys ∧ xs.all flatV = true ∧ ys.all flatV = true ∧ Q (.bl (!eqVs xs ys)) H
end
theorem cl_sub1 {cells : List (Str × Addr)} {y : Str} {a : Addr} (h : cells.lookup y = some a) : ∀ x c, [(y, a)].lookup x = some c → cells.lookup x = some c := fun x c e => by
  cases List.mem_singleton.mp (PySem.mem_of_lookup e); exact h
theorem cl_sub2 {cells : List (Str × Addr)} {y z : Str} {a b : Addr} (h : cells.lookup y = some a) (h2 : cells.lookup z = some b) : ∀ x c, [(y, a), (z, b)].lookup x = some c → cells.lookup x = some c := fun x c e => by
  rcases List.mem_cons.mp (PySem.mem_of_lookup e) with q | q
  · cases q; exact h
  · cases List.mem_singleton.mp q; exact h2
end L2
namespace HT
open PySem PySem.Spec PyProof.Rows L2
theorem whole_tup {prog : Program} {w : World} {A : Around} {E : Value → Shared → Prop} {s : Shared} {t sl : Addr} {its : Array Value} {vl vu : Value} {lo hi : Option Int} {R : Value → Shared → Prop} (ht : IsTup s.heap t its) (hs : s.heap.IsSliceOf sl vl vu .none) (pl : IsPart vl lo) (pu : IsPart vu hi)
    (h0 : sIx its.size 0 lo = 0) (h1 : sIx its.size its.size hi = its.size) (h : R (.ref t) s) : wpAny (model prog w) A (getItem (.ref t) (.ref sl)) R E s := by
  obtain ⟨os, hos, hcs, hds⟩ := id hs
  have hTs : s.TypeIs (.ref sl) "slice" := ⟨os, hos, hcs⟩
  unfold getItem
  try with_reducible refine wpAny_holding ?_
  first | refine wpAny_bind (wpAny_pure ?_) | skip
  refine wpAny_bind (wpAny_sequenceKey ht.typeIs (by decide) ?_)
  refine wpAny_bind (wpAny_callSpecial?_slot (name := Str.ofString "__getitem__") ht.typeIs PyProof.Rows.slot_tuple_getitem (wpAny_call_entry PyProof.Rows.slot_tuple_getitem ht.typeIs entry_tuple_getitem ?_ (args_tuple_getitem _ _)))
  show wpAny _ _ (Builtin.Tuple.tupleItemsOf (.ref t) >>= _) _ _ s
  refine wpAny_bind (tupleItemsOf_ ht ?_)
  refine wpAny_bind (wpAny_typeOf hTs ?_)
  rw [if_pos (by decide)]
  refine wpAny_bind (sliceApplied_gen hs pl pu ?_)
  show wpAny _ _ (if (((sIx its.size 0 lo : Nat) : Int) == 0 && (1 : Int) == 1 && (sIx its.size its.size hi - sIx its.size 0 lo) == its.size) = true then _ else _) _ _ s
  rw [if_pos (by rw [h0, h1]; simp)]
  unfold Builtin.Tuple.tupleIsExact
  exact wpAny_bind (wpAny_bind (wpAny_typeOf ht.typeIs (wpAny_pure (wpAny_bind (wpAny_rule (wpAny_pure ⟨_, rfl, wpAny_pure h⟩))))))
end HT
namespace L2
open PySem PySem.Spec PyProof.Rows
section
variable {X : Cx}
def rSlTA : V → Option Int → Option Int → Hp → VK → Prop := fun x lo hi H Q => ∃ a xs, x = .ref a ∧ H a = some (.tup xs) ∧ ∀ r H', Same H H' → H' r = some (.tup (cutV xs lo hi)) → Q (.ref r) H'
theorem sl_tupA : SlR X rSlTA := by
  intro pins s σ H x v vl vu lo hi sl Q I rx hs pl pu h
  obtain ⟨a, xs, rfl, ha, q⟩ := h
  by_cases c : HT.sIx xs.length 0 lo = 0 ∧ HT.sIx xs.length xs.length hi = xs.length
  · cases rx
    obtain ⟨its, r, ht, hz⟩ := I.tuple (show SqT X.K H a xs from .of ha)
    have hlen : its.toArray.size = xs.length := by rw [List.size_toArray]; exact r.length.symm
    refine ⟨"tuple", _, PyProof.Rows.slot_tuple_getitem.lookup, ht.typeIs, HT.whole_tup ht hs pl pu (by rw [hlen]; exact c.1) (by rw [hlen]; exact c.2) ⟨.ref a, H, I, rfl, q a H (Same.refl _) ?_⟩⟩
    unfold cutV
    rw [c.1, c.2, List.drop_zero, Nat.sub_zero, List.take_length]
    exact ha
  · exact sl_tupS pins s σ H _ v vl vu lo hi sl Q I rx hs pl pu ⟨a, xs, rfl, ha, c, q⟩
end
end L2
namespace L2
open PySem PySem.Spec PyProof.Rows
section
variable {X : Cx}
def tPop (to : TE) : TE := fun σ H Q => to σ H fun x H1 => ∃ l xs y, x = .ref l ∧ H1 l = some (.lst xs) ∧ xs[xs.length - 1]? = some y ∧ Q y (upd H1 l (.lst xs.dropLast))
theorem pe_pop {o : Expr} {to : TE} {apos cpos : Pos} (ho : PE X o to) (hbase : attributeBase o "pop" X.env (eval o X.env) = eval o X.env := by rfl) (hline : (apos.endLine == cpos.line) = true := by rfl) : PE X (.Call (.Attribute o "pop" apos) [] [] cpos) (tPop to) := by
  intro pins s σ H Q I h
  refine wpAny_Call_method0_late hbase hline (thn (ho pins s σ H _ I h) fun v s1 ⟨x, H1, I1, r1, q1⟩ => ?_)
  obtain ⟨l, xs, y, rfl, hx, hy, q⟩ := q1
  obtain ⟨h1, h2⟩ := tyV_is (T := "list") I1 r1 (.inl ⟨rfl, _, .of hx⟩)
  exact ⟨"list", "list.pop", PySem.F.plainAttrs_list, PySem.F.slot_list_pop, PySem.F.type_list_pop, h1, h2, Calls.callWith_builtin rfl (PySem.evalArgs_none (mt_pop pins s1 σ H1 _ [] v [] Q I1 r1 .nil ⟨l, xs, y, rfl, rfl, hx, hy, q⟩))⟩
end
end L2
namespace L2
open PySem PySem.Spec PyProof.Rows
def okS (k : Nat) (x : Str) : Prop := x.length ≤ k ∧ ∀ c ∈ x.cps.toList, c < 1000
theorem okS.mono {k m : Nat} {x : Str} (h : okS k x) (l : k ≤ m) : okS m x := ⟨Nat.le_trans h.1 l, h.2⟩
theorem okS.app {k m : Nat} {x y : Str} (h : okS k x) (g : okS m y) : okS (k + m) (x ++ y) := by
  refine ⟨by rw [strLen_append]; exact Nat.add_le_add h.1 g.1, fun c hc => ?_⟩
  have e : (x ++ y).cps.toList = x.cps.toList ++ y.cps.toList := by show (x.cps ++ y.cps).toList = _; simp
  rw [e] at hc
  exact (List.mem_append.mp hc).elim (h.2 c) (g.2 c)
section
variable {X : Cx}
def tFR (t1 t2 : TE) : TE := fun σ H Q => t1 σ H fun x H1 => ∃ a, x = .str a ∧ okS 1000 a ∧ t2 σ H1 fun y H2 => ∃ b, y = .str b ∧ okS 1000 b ∧ ∀ z, Q (.str z) H2
def rSlStr : V → Option Int → Option Int → Hp → VK → Prop := fun x lo hi H Q => ∃ z, x = .str z ∧ z.length ≤ 1000 ∧ ∀ y : Str, y.length ≤ z.length → (∀ c ∈ y.cps.toList, c ∈ z.cps.toList) → Q (.str y) H
def rUpper : V → List V → Hp → VK → Prop := fun x xs H Q => ∃ z, x = .str z ∧ xs = [] ∧ okS 1000 ⟨placed z fun _ c => Unicode.upperOf c⟩ ∧ Q (.str ⟨placed z fun _ c => Unicode.upperOf c⟩) H
def rJoin (K : PySem.W.Frag) : V → List V → Hp → VK → Prop := fun x xs H Q => ∃ (z : Str) (l : Addr) (ys : List Str), x = .str z ∧ z.length = 0 ∧ xs = [.ref l] ∧ SqL K H l (ys.map V.str) ∧ ys.length ≤ 100 ∧ (∀ y ∈ ys, okS 10 y) ∧ ∀ y : Str, okS 1000 y → Q (.str y) H
end
end L2
namespace L2
open PySem PySem.Spec PyProof.Rows
def Itel (K : PySem.W.Frag) (a : Addr) : It := ⟨fun i H => ∃ xs x, SqL K H a xs ∧ xs[i]? = some x,
  fun i H v H' => ∃ T x, v = .ref T ∧ H T = none ∧ H' = upd H T (.tup [.int i, x]) ∧ ∀ xs, SqL K H a xs → xs[i]? = some x, fun i H => ∃ xs, SqL K H a xs ∧ xs.length ≤ i⟩
section
variable {X : Cx} {es : List Expr} {x1 : Nat} {pp : Pos}
def iEnumL (K : PySem.W.Frag) (te : TE) : TI := fun σ H R => te σ H fun v H1 => ∃ a xs, v = .ref a ∧ SqL K H1 a xs ∧ R (Itel K a) H1
end
def LoopEL (K : PySem.W.Frag) (g : TG) (tb : TS) (D : Ends) (σ : St) (v : V) (H1 : Hp) : Prop := ∃ a xs, v = .ref a ∧ SqL K H1 a xs ∧ ∃ W : Nat → Nat → St → Hp → Prop, (∃ m, W 0 m σ H1) ∧ ∀ i m σ H, W i m σ H →
  ((Itel K a).stop i H ∧ D.nx σ H) ∨ ((Itel K a).go i H ∧ ∃ N : St → Hp → Prop, (∀ σ' H', N σ' H' → ∃ m', m' < m ∧ W (i + 1) m' σ' H') ∧ ∀ x H', (Itel K a).yld i H x H' → g x σ H' fun σ2 H2 => tb { D with nx := N, ct := N, bk := D.nx } σ2 H2)
theorem for_eqEL {K : PySem.W.Frag} {te : TE} {g : TG} {tb : TS} {D : Ends} {σ : St} {H : Hp} : tFor (iEnumL K te) g tb D σ H = te σ H fun v H1 => LoopEL K g tb D σ v H1 := rfl
theorem LoopEL.mk {K : PySem.W.Frag} {a : Addr} {xs : List V} {g : TG} {tb : TS} {D : Ends} {σ : St} {H : Hp} (h1 : SqL K H a xs) (Pv : Nat → St → Hp → Prop) (h0 : Pv 0 σ H) (hl : ∀ i σ H, i ≤ xs.length → Pv i σ H → SqL K H a xs)
    (hs : ∀ i x σ H T, xs[i]? = some x → Pv i σ H → H T = none → g (.ref T) σ (upd H T (.tup [.int i, x])) fun σ2 H2 => tb { D with nx := Pv (i + 1), ct := Pv (i + 1), bk := D.nx } σ2 H2) (hd : ∀ σ H, Pv xs.length σ H → D.nx σ H) :
    LoopEL K g tb D σ (.ref a) H := by
  refine ⟨a, xs, rfl, h1, fun i m σ H => m = xs.length - i ∧ i ≤ xs.length ∧ Pv i σ H, ⟨_, rfl, Nat.zero_le _, h0⟩, ?_⟩
  rintro i m σ H ⟨rfl, hi, p⟩
  have k1 := hl i σ H hi p
  by_cases hlt : i < xs.length
  · refine .inr ⟨⟨xs, _, k1, List.getElem?_eq_getElem hlt⟩, Pv (i + 1), fun σ' H' p' => ⟨xs.length - (i + 1), by omega, rfl, hlt, p'⟩, fun v H' yy => ?_⟩
    obtain ⟨T, x, rfl, hT, rfl, ex⟩ := yy
    exact hs i x σ H T (ex xs k1) p hT
  · have e : i = xs.length := by omega
    exact .inl ⟨⟨xs, k1, by omega⟩, hd σ H (e ▸ p)⟩
end L2
namespace L2
open PySem PySem.Spec PyProof.Rows
def Itx (x : Str) : It := ⟨fun i _ => i < x.cps.size, fun i H v H' => H' = H ∧ ∃ c, x.cps[i]? = some c ∧ v = .str ⟨#[c]⟩, fun i _ => x.cps.size ≤ i⟩
section
variable {X : Cx} {tg : Expr}
def iStr (tl : TE) : TI := fun σ H R => tl σ H fun x H1 => ∃ z, x = .str z ∧ R (Itx z) H1
end
def LoopX (g : TG) (tb : TS) (D : Ends) (σ : St) (v : V) (H1 : Hp) : Prop := ∃ z, v = .str z ∧ ∃ W : Nat → Nat → St → Hp → Prop, (∃ m, W 0 m σ H1) ∧ ∀ i m σ H, W i m σ H →
  ((Itx z).stop i H ∧ D.nx σ H) ∨ ((Itx z).go i H ∧ ∃ N : St → Hp → Prop, (∀ σ' H', N σ' H' → ∃ m', m' < m ∧ W (i + 1) m' σ' H') ∧ ∀ x H', (Itx z).yld i H x H' → g x σ H' fun σ2 H2 => tb { D with nx := N, ct := N, bk := D.nx } σ2 H2)
theorem for_eqX {te : TE} {g : TG} {tb : TS} {D : Ends} {σ : St} {H : Hp} : tFor (iStr te) g tb D σ H = te σ H fun v H1 => LoopX g tb D σ v H1 := rfl
theorem LoopX.mk {z : Str} {g : TG} {tb : TS} {D : Ends} {σ : St} {H : Hp} (Pv : Nat → St → Hp → Prop) (h0 : Pv 0 σ H)
    (hs : ∀ i c σ H, z.cps[i]? = some c → Pv i σ H → g (.str ⟨#[c]⟩) σ H fun σ2 H2 => tb { D with nx := Pv (i + 1), ct := Pv (i + 1), bk := D.nx } σ2 H2) (hd : ∀ σ H, Pv z.cps.size σ H → D.nx σ H) :
    LoopX g tb D σ (.str z) H := by
  refine ⟨z, rfl, fun i m σ H => m = z.cps.size - i ∧ i ≤ z.cps.size ∧ Pv i σ H, ⟨_, rfl, Nat.zero_le _, h0⟩, ?_⟩
  rintro i m σ H ⟨rfl, hi, p⟩
  by_cases hlt : i < z.cps.size
  · refine .inr ⟨hlt, Pv (i + 1), fun σ' H' p' => ⟨z.cps.size - (i + 1), by omega, rfl, hlt, p'⟩, fun v H' yy => ?_⟩
    obtain ⟨rfl, c, ec, rfl⟩ := yy
    exact hs i c σ H' ec p
  · have e : i = z.cps.size := by omega
    exact .inl ⟨by show z.cps.size ≤ i; omega, hd σ H (e ▸ p)⟩
def CompX (k : Nat) (js : List Nat) (g : TG) (te : TE) (σ : St) (v : V) (H1 : Hp) (Q : VK) : Prop := ∃ z, v = .str z ∧ ∃ W : Nat → Nat → List V → St → Hp → Prop, (∃ m, W 0 m [] (compSt k js σ) H1) ∧ ∀ i m ys σ' H', W i m ys σ' H' →
    ((Itx z).stop i H' ∧ ∀ p, H' p = none → Q (.ref p) (upd H' p (.lst ys))) ∨
    ((Itx z).go i H' ∧ ys.length < sizeLine ∧ ∃ N : List V → St → Hp → Prop, (∀ zs σ2 H2, N zs σ2 H2 → ∃ m', m' < m ∧ W (i + 1) m' zs σ2 H2) ∧ ∀ x H2, (Itx z).yld i H' x H2 → g x σ' H2 fun σ3 H3 => te σ3 H3 fun v H4 => N (ys ++ [v]) σ3 H4)
theorem comp_eqX {k : Nat} {js : List Nat} {ti : TE} {g : TG} {te : TE} {σ : St} {H : Hp} {Q : VK} : tComp (iStr ti) k js g te σ H Q = ti σ H fun x H1 => CompX k js g te σ x H1 Q := rfl
theorem CompX.mk {z : Str} {k : Nat} {js : List Nat} {g : TG} {te : TE} {Q : VK} {σ : St} {H : Hp} (Pv : Nat → List V → St → Hp → Prop) (h0 : Pv 0 [] (compSt k js σ) H)
    (hs : ∀ i c ys σ H, z.cps[i]? = some c → Pv i ys σ H → ys.length < sizeLine ∧ g (.str ⟨#[c]⟩) σ H fun σ3 H3 => te σ3 H3 fun v H4 => Pv (i + 1) (ys ++ [v]) σ3 H4) (hd : ∀ ys σ H, Pv z.cps.size ys σ H → ∀ p, H p = none → Q (.ref p) (upd H p (.lst ys))) :
    CompX k js g te σ (.str z) H Q := by
  refine ⟨z, rfl, fun i m ys σ H => m = z.cps.size - i ∧ i ≤ z.cps.size ∧ Pv i ys σ H, ⟨_, rfl, Nat.zero_le _, h0⟩, ?_⟩
  rintro i m ys σ H ⟨rfl, hi, p⟩
  by_cases hlt : i < z.cps.size
  · refine .inr ⟨hlt, (hs i (z.cps[i]'hlt) ys σ H (Array.getElem?_eq_getElem hlt) p).1, Pv (i + 1), fun zs σ' H' p' => ⟨z.cps.size - (i + 1), by omega, rfl, hlt, p'⟩, fun v H' yy => ?_⟩
    obtain ⟨rfl, c, ec, rfl⟩ := yy
    exact (hs i c ys σ H' ec p).2
  · have e : i = z.cps.size := by omega
    exact .inl ⟨by show z.cps.size ≤ i; omega, hd ys σ H (e ▸ p)⟩
section
variable {X : Cx}
def findI (x y : Str) : Int := match Builtin.Str.occurrences x y 0 x.length 1 with | i :: _ => (i : Int) | [] => -1
def rFind : V → List V → Hp → VK → Prop := fun x xs H Q => ∃ z y, x = .str z ∧ xs = [.str y] ∧ Q (.int (findI z y)) H
end
end L2
namespace L2
open PySem PySem.Spec PyProof.Rows
section
variable {X : Cx}
def rCatL (K : PySem.W.Frag) : R2 := fun x y H Q => ∃ l b xs zs, x = .ref l ∧ y = .ref b ∧ SqL K H l xs ∧ SqL K H b zs ∧ xs.length + zs.length ≤ sizeLine ∧ ∀ p, H p = none → Q (.ref p) (upd H p (.lst (xs ++ zs)))
theorem op_catL : OpR X (binaryOp .Add) (rCatL X.K) := by
  intro pins s σ H x y v u Q I rx ry h
  obtain ⟨l, b, xs, zs, rfl, rfl, hH, hB, hz, q⟩ := h
  cases rx
  cases ry
  obtain ⟨its, r, ⟨⟨c1, d1, z1, l1⟩, n, e, hc, hd, hs⟩, _⟩ := I.list hH
  obtain ⟨its2, r2, ⟨⟨c2, d2, z2, l2⟩, n2, e2, hc2, hd2, hs2⟩, _⟩ := I.list hB
  simp only at hc hd hs hc2 hd2 hs2
  subst hc hd hs hc2 hd2 hs2
  have a1 := r.length
  have a2 := r2.length
  have ea : its.toArray ++ its2.toArray = (its ++ its2).toArray := by simp
  refine concat_meets ⟨_, e, rfl⟩ ⟨_, e2, rfl⟩ noFill_list_add seq_list_add F.slot_list_add F.entry_list_add (F.args_list_add_2 _ _) (list_addW l b its.toArray its2.toArray n n2 _ _ _ _ (by rw [List.size_toArray, List.size_toArray]; omega)) ⟨e, e2, ?_⟩
  rw [ea]
  exact ⟨.ref _, _, I.lnew (t' := s.toks) (r.append r2) (by rw [List.length_append]; omega), rfl, q _ I.fresh⟩
end
end L2
namespace L2
open PySem PySem.Spec PyProof.Rows
section
variable {pg : Program} {wd : World} {B : Around} {X0 : Value → Shared → Prop} {s0 : Shared}
end
def ItzL (K : PySem.W.Frag) (a b : Addr) : It := ⟨fun i H => ∃ xs ys x y, SqL K H a xs ∧ SqL K H b ys ∧ xs[i]? = some x ∧ ys[i]? = some y,
  fun i H v H' => ∃ T x y, v = .ref T ∧ H T = none ∧ H' = upd H T (.tup [x, y]) ∧ ∀ xs ys, SqL K H a xs → SqL K H b ys → xs[i]? = some x ∧ ys[i]? = some y, fun i H => ∃ xs ys, SqL K H a xs ∧ SqL K H b ys ∧ (xs.length ≤ i ∨ ys.length ≤ i)⟩
section
variable {X : Cx} {es : List Expr} {x1 : Nat} {pp : Pos}
def iZipL (K : PySem.W.Frag) (ta : TA) : TI := fun σ H R => ta σ H fun vs H1 => ∃ a b xs ys, vs = [.ref a, .ref b] ∧ SqL K H1 a xs ∧ SqL K H1 b ys ∧ R (ItzL K a b) H1
end
def LoopZL (K : PySem.W.Frag) (g : TG) (tb : TS) (D : Ends) (σ : St) (vs : List V) (H1 : Hp) : Prop := ∃ a b xs ys, vs = [.ref a, .ref b] ∧ SqL K H1 a xs ∧ SqL K H1 b ys ∧ ∃ W : Nat → Nat → St → Hp → Prop, (∃ m, W 0 m σ H1) ∧ ∀ i m σ H, W i m σ H →
  ((ItzL K a b).stop i H ∧ D.nx σ H) ∨ ((ItzL K a b).go i H ∧ ∃ N : St → Hp → Prop, (∀ σ' H', N σ' H' → ∃ m', m' < m ∧ W (i + 1) m' σ' H') ∧ ∀ x H', (ItzL K a b).yld i H x H' → g x σ H' fun σ2 H2 => tb { D with nx := N, ct := N, bk := D.nx } σ2 H2)
theorem for_eqZL {K : PySem.W.Frag} {ta : TA} {g : TG} {tb : TS} {D : Ends} {σ : St} {H : Hp} : tFor (iZipL K ta) g tb D σ H = ta σ H fun vs H1 => LoopZL K g tb D σ vs H1 := rfl
theorem LoopZL.mk {K : PySem.W.Frag} {a b : Addr} {xs ys : List V} {g : TG} {tb : TS} {D : Ends} {σ : St} {H : Hp} (n : Nat) (hn : n = min xs.length ys.length) (h1 : SqL K H a xs) (h2 : SqL K H b ys) (Pv : Nat → St → Hp → Prop) (h0 : Pv 0 σ H) (hl : ∀ i σ H, i ≤ n → Pv i σ H → SqL K H a xs ∧ SqL K H b ys)
    (hs : ∀ i x y σ H T, i < n → xs[i]? = some x → ys[i]? = some y → Pv i σ H → H T = none → g (.ref T) σ (upd H T (.tup [x, y])) fun σ2 H2 => tb { D with nx := Pv (i + 1), ct := Pv (i + 1), bk := D.nx } σ2 H2) (hd : ∀ σ H, Pv n σ H → D.nx σ H) :
    LoopZL K g tb D σ [.ref a, .ref b] H := by
  subst hn
  refine ⟨a, b, xs, ys, rfl, h1, h2, fun i m σ H => m = min xs.length ys.length - i ∧ i ≤ min xs.length ys.length ∧ Pv i σ H, ⟨_, rfl, Nat.zero_le _, h0⟩, ?_⟩
  rintro i m σ H ⟨rfl, hi, p⟩
  obtain ⟨k1, k2⟩ := hl i σ H hi p
  by_cases hlt : i < min xs.length ys.length
  · have l1 : i < xs.length := by omega
    have l2 : i < ys.length := by omega
    refine .inr ⟨⟨xs, ys, _, _, k1, k2, List.getElem?_eq_getElem l1, List.getElem?_eq_getElem l2⟩, Pv (i + 1), fun σ' H' p' => ⟨min xs.length ys.length - (i + 1), by omega, rfl, hlt, p'⟩, fun v H' yy => ?_⟩
    obtain ⟨T, x, y, rfl, hT, rfl, ex⟩ := yy
    obtain ⟨ex1, ex2⟩ := ex xs ys k1 k2
    exact hs i x y σ H T hlt ex1 ex2 p hT
  · have e : i = min xs.length ys.length := by omega
    exact .inl ⟨⟨xs, ys, k1, k2, by omega⟩, hd σ H (e ▸ p)⟩
def CompZL (K : PySem.W.Frag) (k : Nat) (js : List Nat) (g : TG) (te : TE) (σ : St) (vs : List V) (H1 : Hp) (Q : VK) : Prop := ∃ a b xs ys, vs = [.ref a, .ref b] ∧ SqL K H1 a xs ∧ SqL K H1 b ys ∧ ∃ W : Nat → Nat → List V → St → Hp → Prop, (∃ m, W 0 m [] (compSt k js σ) H1) ∧ ∀ i m zs σ' H', W i m zs σ' H' →
    ((ItzL K a b).stop i H' ∧ ∀ p, H' p = none → Q (.ref p) (upd H' p (.lst zs))) ∨
    ((ItzL K a b).go i H' ∧ zs.length < sizeLine ∧ ∃ N : List V → St → Hp → Prop, (∀ zs σ2 H2, N zs σ2 H2 → ∃ m', m' < m ∧ W (i + 1) m' zs σ2 H2) ∧ ∀ x H2, (ItzL K a b).yld i H' x H2 → g x σ' H2 fun σ3 H3 => te σ3 H3 fun v H4 => N (zs ++ [v]) σ3 H4)
theorem comp_eqZL {K : PySem.W.Frag} {k : Nat} {js : List Nat} {ta : TA} {g : TG} {te : TE} {σ : St} {H : Hp} {Q : VK} : tComp (iZipL K ta) k js g te σ H Q = ta σ H fun vs H1 => CompZL K k js g te σ vs H1 Q := rfl
theorem CompZL.mk {K : PySem.W.Frag} {a b : Addr} {xs ys : List V} {k : Nat} {js : List Nat} {g : TG} {te : TE} {Q : VK} {σ : St} {H : Hp} (n : Nat) (hn : n = min xs.length ys.length) (h1 : SqL K H a xs) (h2 : SqL K H b ys) (Pv : Nat → List V → St → Hp → Prop) (h0 : Pv 0 [] (compSt k js σ) H) (hl : ∀ i zs σ H, i ≤ n → Pv i zs σ H → SqL K H a xs ∧ SqL K H b ys)
    (hs : ∀ i x y zs σ H T, i < n → xs[i]? = some x → ys[i]? = some y → Pv i zs σ H → H T = none → zs.length < sizeLine ∧ g (.ref T) σ (upd H T (.tup [x, y])) fun σ3 H3 => te σ3 H3 fun v H4 => Pv (i + 1) (zs ++ [v]) σ3 H4) (hz : ∀ zs σ H, Pv n zs σ H → ∀ p, H p = none → Q (.ref p) (upd H p (.lst zs))) (hlen : ∀ i zs σ H, Pv i zs σ H → zs.length < sizeLine) :
    CompZL K k js g te σ [.ref a, .ref b] H Q := by
  subst hn
  refine ⟨a, b, xs, ys, rfl, h1, h2, fun i m zs σ H => m = min xs.length ys.length - i ∧ i ≤ min xs.length ys.length ∧ Pv i zs σ H, ⟨_, rfl, Nat.zero_le _, h0⟩, ?_⟩
  rintro i m zs σ H ⟨rfl, hi, p⟩
  obtain ⟨k1, k2⟩ := hl i zs σ H hi p
  by_cases hlt : i < min xs.length ys.length
  · have l1 : i < xs.length := by omega
    have l2 : i < ys.length := by omega
    refine .inr ⟨⟨xs, ys, _, _, k1, k2, List.getElem?_eq_getElem l1, List.getElem?_eq_getElem l2⟩, hlen _ _ _ _ p, Pv (i + 1), fun zs' σ' H' p' => ⟨min xs.length ys.length - (i + 1), by omega, rfl, hlt, p'⟩, fun v H' yy => ?_⟩
    obtain ⟨T, x, y, rfl, hT, rfl, ex⟩ := yy
    obtain ⟨ex1, ex2⟩ := ex xs ys k1 k2
    exact (hs i x y zs σ H T hlt ex1 ex2 p hT).2
  · have e : i = min xs.length ys.length := by omega
    exact .inl ⟨⟨xs, ys, k1, k2, by omega⟩, hz zs σ H (e ▸ p)⟩
end L2
namespace L2
open PySem PySem.Spec PyProof.Rows
section
variable {prog : Program} {w : World} {A : Around} {E : Value → Shared → Prop} {s : Shared}
end
section
variable {X : Cx}
def rCount : V → List V → Hp → VK → Prop := fun x ys H Q => ∃ a o xs y, x = .ref a ∧ ys = [y] ∧ H a = some (.frz o (.tup xs)) ∧ xs.all flatV = true ∧ flatV y = true ∧ Q (.int (xs.countP fun z => eqV z y)) H
def tBMf (r : V → List V → Hp → VK → Prop) (to : TE) (t : TA) : TE := fun σ H Q => to σ H fun x H1 => (∃ a o xs, x = .ref a ∧ H1 a = some (.frz o (.tup xs)) ∧ o.dict = none) ∧ t σ H1 fun ys H2 => r x ys H2 Q
end
end L2
namespace L2
open PySem PySem.Spec PyProof.Rows
section
variable {X : Cx}
def startsB (x y : Str) : Bool := decide (0 + y.length ≤ x.length) && Builtin.Str.subAt x y 0
def rStarts : V → List V → Hp → VK → Prop := fun x xs H Q => ∃ z y, x = .str z ∧ xs = [.str y] ∧ Q (.bl (startsB z y)) H
def rSlStrX : V → Option Int → Option Int → Hp → VK → Prop := fun x lo hi H Q => ∃ z, x = .str z ∧ z.length ≤ 20000 ∧ Q (.str (Txt.slice z lo hi)) H
end
end L2
namespace L2
open PySem PySem.Spec PyProof.Rows
section
variable {κ : Type} [DecidableEq κ]
def valV (kvs : List (κ × V)) (k : κ) : Option V := (kvs.find? fun kv => decide (kv.1 = k)).map (·.2)
def putK (kvs : List (κ × V)) (k : κ) (v : V) : List (κ × V) :=
  if (kvs.any fun kv => decide (kv.1 = k)) = true then kvs.map (fun kv => if kv.1 = k then (kv.1, v) else kv) else kvs ++ [(k, v)]
def dropK (kvs : List (κ × V)) (k : κ) : List (κ × V) := kvs.filter fun kv => decide (kv.1 ≠ k)
theorem RelO.getD {o : Option V} {u : Option Value} {d : V} {d' : Value} (r : RelO o u) (rd : RelV d d') : RelV (o.getD d) (u.getD d') := by
  cases o with
  | none => cases u with
    | none => exact rd
    | some _ => exact (show False from r).elim
  | some _ => cases u with
    | none => exact (show False from r).elim
    | some _ => exact r
theorem KV.any {kvs : List (κ × V)} {vs : List (κ × Value)} (r : KV kvs vs) (k : κ) : (kvs.any fun kv => decide (kv.1 = k)) = vs.any fun kv => decide (kv.1 = k) := by
  unfold KV at r
  induction r with
  | nil => rfl
  | cons h t ih => rw [List.any_cons, List.any_cons, ih, h.1]
theorem KV.drop {kvs : List (κ × V)} {vs : List (κ × Value)} (r : KV kvs vs) (k : κ) : KV (dropK kvs k) (without vs k) := by
  unfold KV at r ⊢
  unfold dropK without
  induction r with
  | nil => exact .nil
  | @cons p q ps qs h t ih =>
    obtain ⟨h1, h2⟩ := h
    rw [List.filter_cons, List.filter_cons]
    by_cases e : p.1 = k
    · have a : ¬ decide (p.1 ≠ k) = true := by simp [e]
      have b : ¬ decide (q.1 ≠ k) = true := by simp [h1.symm.trans e]
      rw [if_neg a, if_neg b]; exact ih
    · have e' : ¬ q.1 = k := fun z => e (h1.trans z)
      have a : decide (p.1 ≠ k) = true := by simp [e]
      have b : decide (q.1 ≠ k) = true := by simp [e']
      rw [if_pos a, if_pos b]; exact .cons ⟨h1, h2⟩ ih
theorem KV.length {kvs : List (κ × V)} {vs : List (κ × Value)} (r : KV kvs vs) : kvs.length = vs.length := Paired.length r
end
abbrev KT (H : Hp) : List (List Key × V) → List (List Key × Addr × Value) → Prop := Paired fun p q => p.1 = q.1 ∧ H q.2.1 = some (.tup (p.1.map kV)) ∧ RelV p.2 q.2.2
theorem KT.keeps {H H' : Hp} {kvs : List (List Key × V)} {xs : List (List Key × Addr × Value)} (r : KT H kvs xs) (ht : ∀ b ys, H b = some (.tup ys) → H' b = some (.tup ys)) : KT H' kvs xs :=
  Paired.mapP r fun _ _ z => ⟨z.1, ht _ _ z.2.1, z.2.2⟩
section
variable {P : Program} {w : World} {H : Hp} {h : Heap} {a : Addr}
end
def DGet (H : Hp) (a : Addr) (y : V) (r : Option V) : Prop :=
  (∃ kvs k, Rd H a (.dK kvs) ∧ y = kV k ∧ r = valV kvs k) ∨ ∃ kvs k b, Rd H a (.dT kvs) ∧ y = .ref b ∧ H b = some (.tup (k.map kV)) ∧ r = valV kvs k
def DPut (H : Hp) (a : Addr) (y v : V) (H' : Hp) : Prop :=
  (∃ kvs k, H a = some (.dK kvs) ∧ y = kV k ∧ kvs.length < sizeLine ∧ H' = upd H a (.dK (putK kvs k v))) ∨
  ∃ kvs k b, H a = some (.dT kvs) ∧ y = .ref b ∧ H b = some (.tup (k.map kV)) ∧ kvs.length < sizeLine ∧ H' = upd H a (.dT (putK kvs k v))
theorem DGet.k {H : Hp} {a : Addr} {kvs : List (Key × V)} {k : Key} (e : H a = some (.dK kvs)) : DGet H a (kV k) (valV kvs k) := .inl ⟨kvs, k, .inl e, rfl, rfl⟩
theorem DGet.t {H : Hp} {a b : Addr} {kvs : List (List Key × V)} {k : List Key} (e : H a = some (.dT kvs)) (eb : H b = some (.tup (k.map kV))) : DGet H a (.ref b) (valV kvs k) := .inr ⟨kvs, k, b, .inl e, rfl, eb, rfl⟩
theorem DPut.k {H : Hp} {a : Addr} {kvs : List (Key × V)} {k : Key} {v : V} (e : H a = some (.dK kvs)) (hl : kvs.length < sizeLine) : DPut H a (kV k) v (upd H a (.dK (putK kvs k v))) := .inl ⟨kvs, k, e, rfl, hl, rfl⟩
theorem DPut.t {H : Hp} {a b : Addr} {kvs : List (List Key × V)} {k : List Key} {v : V} (e : H a = some (.dT kvs)) (eb : H b = some (.tup (k.map kV))) (hl : kvs.length < sizeLine) :
    DPut H a (.ref b) v (upd H a (.dT (putK kvs k v))) := .inr ⟨kvs, k, b, e, rfl, eb, hl, rfl⟩
section
variable {X : Cx} {pins : List (Addr × Obj)} {σ : St} {H : Hp} {s : Shared} {a : Addr} {y v : V} {u r : Value} {o : Option V} {A : Around} {E : Value → Shared → Prop}
end
section
variable {X : Cx} {pins : List (Addr × Obj)} {σ : St} {H : Hp} {s : Shared} {a : Addr} {kvs : List (Key × V)} {k : Key} {u : Value} {A : Around} {E : Value → Shared → Prop}
end
def tDIn (ty td : TE) : TE := fun σ H Q => ty σ H fun y H1 => td σ H1 fun x H2 => ∃ a o, x = .ref a ∧ DGet H2 a y o ∧ Q (.bl o.isSome) H2
def sDPut (td ty tv : TE) : TS := fun D σ H => tv σ H fun v H1 => td σ H1 fun x H2 => ty σ H2 fun y H3 => ∃ a H4, x = .ref a ∧ DPut H3 a y v H4 ∧ D.nx σ H4
section
variable {X : Cx} {o i e value : Expr} {pos pos' tpos : Pos} {td ty tv : TE}
end
def tDNewK : TE := fun _ H Q => ∀ p, H p = none → Q (.ref p) (upd H p (.dK []))
section
variable {X : Cx} {pos : Pos}
end
def mergeK (kvs more : List (Key × V)) : List (Key × V) := more.foldl (fun acc kv => putK acc kv.1 kv.2) kvs
structure M1 (X : Cx) (o : Expr) (m : Str) (apos : Pos) (e : Expr) (cpos : Pos) : Prop where
  base : attributeBase o m X.env (eval o X.env) = eval o X.env
  few : ((backTo cpos (starEach [e] X.env)).all (fun x => !x.1) && (backToKw cpos (keywordEach [] X.env)).all (fun x => x.1.isSome)
    && decide (([e] : List Expr).length + ([] : List Keyword).length + (if ([] : List Keyword).isEmpty then 0 else 1) < 30)) = true
  line : (apos.endLine == cpos.line) = true
  trees : backTo cpos (starEach [e] X.env) = [(false, eval e X.env)]
structure M2 (X : Cx) (o : Expr) (m : Str) (apos : Pos) (e f : Expr) (cpos : Pos) : Prop where
  base : attributeBase o m X.env (eval o X.env) = eval o X.env
  few : ((backTo cpos (starEach [e, f] X.env)).all (fun x => !x.1) && (backToKw cpos (keywordEach [] X.env)).all (fun x => x.1.isSome)
    && decide (([e, f] : List Expr).length + ([] : List Keyword).length + (if ([] : List Keyword).isEmpty then 0 else 1) < 30)) = true
  line : (apos.endLine == cpos.line) = true
  trees : backTo cpos (starEach [e, f] X.env) = [(false, eval e X.env), (false, eval f X.env)]
def IsD (H : Hp) (a : Addr) : Prop := (∃ kvs, Rd H a (.dK kvs)) ∨ ∃ kvs, Rd H a (.dT kvs)
section
variable {X : Cx} {pins : List (Addr × Obj)} {σ : St} {H : Hp} {s : Shared} {a : Addr} {y d : V} {u r : Value} {o : Option V} {A : Around} {E : Value → Shared → Prop}
end
def tDGet1 (td ty : TE) : TE := fun σ H Q => td σ H fun x H1 => ∃ a, x = .ref a ∧ IsD H1 a ∧ ty σ H1 fun y H2 => ∃ o, DGet H2 a y o ∧ Q (o.getD .non) H2
section
variable {X : Cx} {o e f : Expr} {apos cpos : Pos} {td ty tx : TE}
end
section
variable {X : Cx} {pins : List (Addr × Obj)} {σ : St} {H : Hp} {s : Shared} {a : Addr} {kvs : List (Key × V)} {A : Around} {E : Value → Shared → Prop}
end
section
variable {X : Cx} {pins : List (Addr × Obj)} {σ : St} {H : Hp} {s : Shared} {a : Addr} {y : V} {u : Value} {A : Around} {E : Value → Shared → Prop}
end
end L2
namespace L2
open PySem PySem.Spec PyProof.Rows
section
variable {X : Cx}
end
section
variable {κ : Type} [DecidableEq κ]
end
end L2
namespace L2
open PySem PySem.Spec PyProof.Rows
def KTab (P : Program) (w : World) (K : PySem.W.Frag) (d : Addr) (kvs : List (Str × Addr)) : Prop := (d == sysModules) = false ∧ ∀ h : Heap, K.In h → h.DictOf (mixKind P w) d (kvs.map fun p => ((Sum.inr p.1 : Key), Value.ref p.2))
def entT (pm : Params) (l : List (Str × Tok × Addr)) : List DictEntry := l.map fun p => ⟨PyData.keyHash pm p.1, .str p.1 p.2.1, .ref p.2.2⟩
theorem KTab.mk {P : Program} {w : World} {K : PySem.W.Frag} {d : Addr} {l : List (Str × Tok × Addr)} {es : Array DictEntry} {n : Nat} (hd : (d == sysModules) = false) (hl : K.lookup d = some { cls := .type "dict", data := .dict es n }) (he : es.toList = entT w.params l) (nd : (l.map (·.1)).Nodup) :
    KTab P w K d (l.map fun p => (p.1, p.2.2)) := by
  refine ⟨hd, fun h KI => ⟨_, es, n, KI d _ hl, ⟨rfl, rfl, rfl⟩, rfl, ?_, ?_, ?_⟩⟩
  · intro e hm
    have hm : e ∈ es.toList := Array.mem_toList_iff.mpr hm
    rw [he] at hm
    obtain ⟨p, _, rfl⟩ := List.mem_map.mp hm
    exact ⟨Sum.inr p.1, keyIs_str p.1 p.2.1, rfl⟩
  · rw [he]
    clear he nd hl
    induction l with
    | nil => exact .nil
    | cons p r ih => exact .cons (keyIs_str p.1 p.2.1) rfl ih
  · rw [List.map_map, List.map_map]
    have e : ((fun x : Key × Value => x.1) ∘ (fun p : Str × Addr => ((Sum.inr p.1 : Key), Value.ref p.2))) ∘ (fun p : Str × Tok × Addr => (p.1, p.2.2)) = (fun x : Str => (Sum.inr x : Key)) ∘ fun p => p.1 := rfl
    rw [← List.map_map] at *
    have z : (l.map fun p => (Sum.inr p.1 : Key)).Nodup := by
      have : (l.map fun p => (Sum.inr p.1 : Key)) = (l.map (·.1)).map (fun x : Str => (Sum.inr x : Key)) := by rw [List.map_map]; rfl
      rw [this]
      exact List.Pairwise.map _ (fun a b (h : a ≠ b) z => h (Sum.inr.inj z)) nd
    simpa [List.map_map, Function.comp_def] using z
section
variable {X : Cx}
def rKTab (kvs : List (Str × Addr)) : V → Hp → VK → Prop := fun y H Q => ∃ x a, y = .str x ∧ kvs.lookup x = some a ∧ Q (.ref a) H
def tKTab (kvs : List (Str × Addr)) (te : TE) : TE := fun σ H Q => te σ H fun y H1 => rKTab kvs y H1 Q
def tKIn (kvs : List (Str × Addr)) (te : TE) : TE := fun σ H Q => te σ H fun y H1 => ∃ x, y = .str x ∧ Q (.bl (kvs.lookup x).isSome) H1
end
end L2
namespace L2
open PySem PySem.Spec PyProof.Rows
section
variable {pg : Program} {wd : World} {B : Around} {X0 : Value → Shared → Prop} {s0 : Shared}
end
def ItzM (K : PySem.W.Frag) (a b : Addr) : It := ⟨fun i H => ∃ xs ys x y, SqL K H a xs ∧ SqT K H b ys ∧ xs[i]? = some x ∧ ys[i]? = some y,
  fun i H v H' => ∃ T x y, v = .ref T ∧ H T = none ∧ H' = upd H T (.tup [x, y]) ∧ ∀ xs ys, SqL K H a xs → SqT K H b ys → xs[i]? = some x ∧ ys[i]? = some y, fun i H => ∃ xs ys, SqL K H a xs ∧ SqT K H b ys ∧ (xs.length ≤ i ∨ ys.length ≤ i)⟩
section
variable {X : Cx} {es : List Expr} {x1 : Nat} {pp : Pos}
def iZipM (K : PySem.W.Frag) (ta : TA) : TI := fun σ H R => ta σ H fun vs H1 => ∃ a b xs ys, vs = [.ref a, .ref b] ∧ SqL K H1 a xs ∧ SqT K H1 b ys ∧ R (ItzM K a b) H1
end
def LoopZM (K : PySem.W.Frag) (g : TG) (tb : TS) (D : Ends) (σ : St) (vs : List V) (H1 : Hp) : Prop := ∃ a b xs ys, vs = [.ref a, .ref b] ∧ SqL K H1 a xs ∧ SqT K H1 b ys ∧ ∃ W : Nat → Nat → St → Hp → Prop, (∃ m, W 0 m σ H1) ∧ ∀ i m σ H, W i m σ H →
  ((ItzM K a b).stop i H ∧ D.nx σ H) ∨ ((ItzM K a b).go i H ∧ ∃ N : St → Hp → Prop, (∀ σ' H', N σ' H' → ∃ m', m' < m ∧ W (i + 1) m' σ' H') ∧ ∀ x H', (ItzM K a b).yld i H x H' → g x σ H' fun σ2 H2 => tb { D with nx := N, ct := N, bk := D.nx } σ2 H2)
theorem for_eqZM {K : PySem.W.Frag} {ta : TA} {g : TG} {tb : TS} {D : Ends} {σ : St} {H : Hp} : tFor (iZipM K ta) g tb D σ H = ta σ H fun vs H1 => LoopZM K g tb D σ vs H1 := rfl
theorem LoopZM.mk {K : PySem.W.Frag} {a b : Addr} {xs ys : List V} {g : TG} {tb : TS} {D : Ends} {σ : St} {H : Hp} (n : Nat) (hn : n = min xs.length ys.length) (h1 : SqL K H a xs) (h2 : SqT K H b ys) (Pv : Nat → St → Hp → Prop) (h0 : Pv 0 σ H) (hl : ∀ i σ H, i ≤ n → Pv i σ H → SqL K H a xs ∧ SqT K H b ys)
    (hs : ∀ i x y σ H T, i < n → xs[i]? = some x → ys[i]? = some y → Pv i σ H → H T = none → g (.ref T) σ (upd H T (.tup [x, y])) fun σ2 H2 => tb { D with nx := Pv (i + 1), ct := Pv (i + 1), bk := D.nx } σ2 H2) (hd : ∀ σ H, Pv n σ H → D.nx σ H) :
    LoopZM K g tb D σ [.ref a, .ref b] H := by
  subst hn
  refine ⟨a, b, xs, ys, rfl, h1, h2, fun i m σ H => m = min xs.length ys.length - i ∧ i ≤ min xs.length ys.length ∧ Pv i σ H, ⟨_, rfl, Nat.zero_le _, h0⟩, ?_⟩
  rintro i m σ H ⟨rfl, hi, p⟩
  obtain ⟨k1, k2⟩ := hl i σ H hi p
  by_cases hlt : i < min xs.length ys.length
  · have l1 : i < xs.length := by omega
    have l2 : i < ys.length := by omega
    refine .inr ⟨⟨xs, ys, _, _, k1, k2, List.getElem?_eq_getElem l1, List.getElem?_eq_getElem l2⟩, Pv (i + 1), fun σ' H' p' => ⟨min xs.length ys.length - (i + 1), by omega, rfl, hlt, p'⟩, fun v H' yy => ?_⟩
    obtain ⟨T, x, y, rfl, hT, rfl, ex⟩ := yy
    obtain ⟨ex1, ex2⟩ := ex xs ys k1 k2
    exact hs i x y σ H T hlt ex1 ex2 p hT
  · have e : i = min xs.length ys.length := by omega
    exact .inl ⟨⟨xs, ys, k1, k2, by omega⟩, hd σ H (e ▸ p)⟩
def CompZM (K : PySem.W.Frag) (k : Nat) (js : List Nat) (g : TG) (te : TE) (σ : St) (vs : List V) (H1 : Hp) (Q : VK) : Prop := ∃ a b xs ys, vs = [.ref a, .ref b] ∧ SqL K H1 a xs ∧ SqT K H1 b ys ∧ ∃ W : Nat → Nat → List V → St → Hp → Prop, (∃ m, W 0 m [] (compSt k js σ) H1) ∧ ∀ i m zs σ' H', W i m zs σ' H' →
    ((ItzM K a b).stop i H' ∧ ∀ p, H' p = none → Q (.ref p) (upd H' p (.lst zs))) ∨
    ((ItzM K a b).go i H' ∧ zs.length < sizeLine ∧ ∃ N : List V → St → Hp → Prop, (∀ zs σ2 H2, N zs σ2 H2 → ∃ m', m' < m ∧ W (i + 1) m' zs σ2 H2) ∧ ∀ x H2, (ItzM K a b).yld i H' x H2 → g x σ' H2 fun σ3 H3 => te σ3 H3 fun v H4 => N (zs ++ [v]) σ3 H4)
theorem comp_eqZM {K : PySem.W.Frag} {k : Nat} {js : List Nat} {ta : TA} {g : TG} {te : TE} {σ : St} {H : Hp} {Q : VK} : tComp (iZipM K ta) k js g te σ H Q = ta σ H fun vs H1 => CompZM K k js g te σ vs H1 Q := rfl
theorem CompZM.mk {K : PySem.W.Frag} {a b : Addr} {xs ys : List V} {k : Nat} {js : List Nat} {g : TG} {te : TE} {Q : VK} {σ : St} {H : Hp} (n : Nat) (hn : n = min xs.length ys.length) (h1 : SqL K H a xs) (h2 : SqT K H b ys) (Pv : Nat → List V → St → Hp → Prop) (h0 : Pv 0 [] (compSt k js σ) H) (hl : ∀ i zs σ H, i ≤ n → Pv i zs σ H → SqL K H a xs ∧ SqT K H b ys)
    (hs : ∀ i x y zs σ H T, i < n → xs[i]? = some x → ys[i]? = some y → Pv i zs σ H → H T = none → zs.length < sizeLine ∧ g (.ref T) σ (upd H T (.tup [x, y])) fun σ3 H3 => te σ3 H3 fun v H4 => Pv (i + 1) (zs ++ [v]) σ3 H4) (hz : ∀ zs σ H, Pv n zs σ H → ∀ p, H p = none → Q (.ref p) (upd H p (.lst zs))) (hlen : ∀ i zs σ H, Pv i zs σ H → zs.length < sizeLine) :
    CompZM K k js g te σ [.ref a, .ref b] H Q := by
  subst hn
  refine ⟨a, b, xs, ys, rfl, h1, h2, fun i m zs σ H => m = min xs.length ys.length - i ∧ i ≤ min xs.length ys.length ∧ Pv i zs σ H, ⟨_, rfl, Nat.zero_le _, h0⟩, ?_⟩
  rintro i m zs σ H ⟨rfl, hi, p⟩
  obtain ⟨k1, k2⟩ := hl i zs σ H hi p
  by_cases hlt : i < min xs.length ys.length
  · have l1 : i < xs.length := by omega
    have l2 : i < ys.length := by omega
    refine .inr ⟨⟨xs, ys, _, _, k1, k2, List.getElem?_eq_getElem l1, List.getElem?_eq_getElem l2⟩, hlen _ _ _ _ p, Pv (i + 1), fun zs' σ' H' p' => ⟨min xs.length ys.length - (i + 1), by omega, rfl, hlt, p'⟩, fun v H' yy => ?_⟩
    obtain ⟨T, x, y, rfl, hT, rfl, ex⟩ := yy
    obtain ⟨ex1, ex2⟩ := ex xs ys k1 k2
    exact (hs i x y zs σ H T hlt ex1 ex2 p hT).2
  · have e : i = min xs.length ys.length := by omega
    exact .inl ⟨⟨xs, ys, k1, k2, by omega⟩, hz zs σ H (e ▸ p)⟩
def CompTI (K : PySem.W.Frag) (k : Nat) (js : List Nat) (g : TG) (tc : TT) (te : TE) (σ : St) (v : V) (H1 : Hp) (Q : VK) : Prop := ∃ a, v = .ref a ∧ (∃ xs, SqT K H1 a xs) ∧ ∃ W : Nat → Nat → List V → St → Hp → Prop, (∃ m, W 0 m [] (compSt k js σ) H1) ∧ ∀ i m zs σ' H', W i m zs σ' H' →
    ((Itt K a).stop i H' ∧ ∀ p, H' p = none → Q (.ref p) (upd H' p (.lst zs))) ∨
    ((Itt K a).go i H' ∧ zs.length < sizeLine ∧ ∃ N : List V → St → Hp → Prop, (∀ zs σ2 H2, N zs σ2 H2 → ∃ m', m' < m ∧ W (i + 1) m' zs σ2 H2) ∧ ∀ x H2, (Itt K a).yld i H' x H2 → g x σ' H2 fun σ3 H3 => tc σ3 H3 fun b H4 => if b = true then te σ3 H4 fun v H5 => N (zs ++ [v]) σ3 H5 else N zs σ3 H4)
theorem comp_eqTI {K : PySem.W.Frag} {k : Nat} {js : List Nat} {tx : TE} {g : TG} {tc : TT} {te : TE} {σ : St} {H : Hp} {Q : VK} : tCompI (iTup K tx) k js g tc te σ H Q = tx σ H fun v H1 => CompTI K k js g tc te σ v H1 Q := rfl
theorem CompTI.mk {K : PySem.W.Frag} {a : Addr} {xs : List V} {k : Nat} {js : List Nat} {g : TG} {tc : TT} {te : TE} {Q : VK} {σ : St} {H : Hp} (h1 : SqT K H a xs) (Pv : Nat → List V → St → Hp → Prop) (h0 : Pv 0 [] (compSt k js σ) H) (hl : ∀ i zs σ H, i ≤ xs.length → Pv i zs σ H → SqT K H a xs ∧ zs.length < sizeLine)
    (hs : ∀ i x zs σ H, xs[i]? = some x → Pv i zs σ H → g x σ H fun σ3 H3 => tc σ3 H3 fun b H4 => if b = true then te σ3 H4 fun v H5 => Pv (i + 1) (zs ++ [v]) σ3 H5 else Pv (i + 1) zs σ3 H4) (hz : ∀ zs σ H, Pv xs.length zs σ H → ∀ p, H p = none → Q (.ref p) (upd H p (.lst zs))) :
    CompTI K k js g tc te σ (.ref a) H Q := by
  refine ⟨a, rfl, ⟨xs, h1⟩, fun i m zs σ H => m = xs.length - i ∧ i ≤ xs.length ∧ Pv i zs σ H, ⟨_, rfl, Nat.zero_le _, h0⟩, ?_⟩
  rintro i m zs σ H ⟨rfl, hi, p⟩
  obtain ⟨k1, k2⟩ := hl i zs σ H hi p
  by_cases hlt : i < xs.length
  · refine .inr ⟨⟨xs, _, k1, List.getElem?_eq_getElem hlt⟩, k2, Pv (i + 1), fun zs' σ' H' p' => ⟨xs.length - (i + 1), by omega, rfl, hlt, p'⟩, fun v H' yy => ?_⟩
    obtain ⟨rfl, ex⟩ := yy
    exact hs i v zs σ _ (ex xs k1) p
  · have e : i = xs.length := by omega
    exact .inl ⟨⟨xs, k1, by omega⟩, hz zs σ H (e ▸ p)⟩
end L2
namespace L2
open PySem PySem.Spec PyProof.Rows
section
variable {X : Cx}
def rJoinD (K : PySem.W.Frag) : V → List V → Hp → VK → Prop := fun x xs H Q => ∃ (z : Str) (l : Addr) (ys : List Str), x = .str z ∧ z.length = 0 ∧ xs = [.ref l] ∧ SqL K H l (ys.map V.str) ∧ ys.length ≤ 100 ∧ (∀ y ∈ ys, okS 10 y) ∧ (okS 1000 (Builtin.Str.glued z ys) → Q (.str (Builtin.Str.glued z ys)) H)
end
theorem cl_sub3 {cells : List (Str × Addr)} {y z u : Str} {a b d : Addr} (h : cells.lookup y = some a) (h2 : cells.lookup z = some b) (h3 : cells.lookup u = some d) : ∀ x c, [(y, a), (z, b), (u, d)].lookup x = some c → cells.lookup x = some c := fun x c e => by
  rcases List.mem_cons.mp (PySem.mem_of_lookup e) with q | q
  · cases q; exact h
  · rcases List.mem_cons.mp q with q | q
    · cases q; exact h2
    · cases List.mem_singleton.mp q; exact h3
end L2
namespace L2
open PySem PySem.Spec PyProof.Rows
structure FunD (K : PySem.W.Frag) (x qual : Str) (st : Stmt) (dV : Addr) (its : Array Value) (f : Addr) (fd : FuncData) : Prop where
  ex : ∃ (oc : Value) (od : Option Addr) (kV doc pm : Value) (an : Option Addr) (cdv ct : Value) (osl : Array (Option Value)),
    fd = PySem.W.fnOf x qual (defArgs st) (defBody st) (defScope st) (.ref dV) kV doc pm an cdv ct ∧ K.lookup f = some ⟨oc, od, .func fd, osl⟩ ∧ PySem.W.codeIn K cdv qual = true
  kp : PySem.W.keepIn K (.ref f) = true
  dt : ∃ (o : Obj) (n : Nat), K.lookup dV = some o ∧ o.data = .seq its n
section
variable {P : Program} {w : World} {K : PySem.W.Frag} {mg : Str → Option Value} {base : Heap}
theorem FunD.ok {x qual : Str} {st : Stmt} {dV : Addr} {its : Array Value} {f : Addr} {fd : FuncData} {N ps : List Str} {k : Nat} {sp : Sp} (F : FunD K x qual st dV its f fd) (S : FnScope N ps (defScope st)) (len : ∀ vs H Q E, sp vs H Q E → vs.length = ps.length)
    (hbody : ∀ (cdv : Value) (A : Around) (outer : List Env) (s : Shared) (H : Hp) (vs : List V) (Q : VK) (E : XK), Room k (A.deeper (envOfC qual (defScope st) s.heap.objs.size f cdv)) → sp vs H Q E →
      ∃ t, PSs (cxOf CX0 P w K mg base N qual (defScope st) f cdv A outer s H E).nox (defBody st) t ∧ t { nx := fun _ H' => Q .non H', rt := Q } (start N vs) H) : FnOk P w K mg base CX0 (k + 1) f fd ps sp := by
  obtain ⟨oc, od, kV, doc, pm, an, cdv, ct, osl, rfl, lk, hcd⟩ := F.ex
  refine fn_of lk hcd S len fun A outer s H vs Q E hr hsp => ?_
  obtain ⟨t, h, q⟩ := hbody cdv A outer s H vs Q E hr hsp
  exact ⟨t, h.nox, q⟩
theorem FunD.binds {x qual : Str} {st : Stmt} {dV : Addr} {its : Array Value} {f : Addr} {fd : FuncData} {ps : List Str} {ds : List Value} (F : FunD K x qual st dV its f fd)
    (h : ∀ (kV doc pm : Value) (an : Option Addr) (cdv ct : Value) (us : List Value), (us ++ ds).length = ps.length → ∃ k, bindArgs (PySem.W.fnOf x qual (defArgs st) (defBody st) (defScope st) (.ref dV) kV doc pm an cdv ct) ⟨us, []⟩ = seqItems? (.ref dV) >>= k ∧ k (some its) = pure (ps.zip (us ++ ds))) : Binds K fd ps ds := by
  obtain ⟨oc, od, kV, doc, pm, an, cdv, ct, osl, rfl, lk, hcd⟩ := F.ex
  obtain ⟨o, n, ho, hs⟩ := F.dt
  intro s us KI hl
  obtain ⟨k, h1, h2⟩ := h kV doc pm an cdv ct us hl
  exact .of_defaults (T := dV) rfl (KI dV o ho) hs h1 h2
end
structure CalleeD (P : Program) (w : World) (K : PySem.W.Frag) (mg : Str → Option Value) (base : Heap) (CX : CXT) (k : Nat) (x : Str) (ps : List Str) (dvs : List V) (sp : Sp) : Prop where
  has : ∃ (f : Addr) (fd : FuncData) (ds : List Value), FnOk P w K mg base CX k f fd ps sp ∧ mg x = some (.ref f) ∧ PySem.W.keepIn K (.ref f) = true ∧ Binds K fd ps ds ∧ Vals dvs ds
theorem CalleeD.mono {P : Program} {w : World} {K : PySem.W.Frag} {mg : Str → Option Value} {base : Heap} {CX : CXT} {j k : Nat} {x : Str} {ps : List Str} {dvs : List V} {sp : Sp} (c : CalleeD P w K mg base CX j x ps dvs sp) (h : j ≤ k) : CalleeD P w K mg base CX k x ps dvs sp :=
  let ⟨f, fd, ds, ok, m, kp, b, v⟩ := c.has; ⟨⟨f, fd, ds, ok.mono h, m, kp, b, v⟩⟩
section
variable {X : Cx} {CX : CXT} {k : Nat} {ps : List Str} {dvs : List V} {sp : Sp} {E : XK} {x : Str} {p pos : Pos} {e : Expr} {es : List Expr} {t : TA}
end
def totS (z : Str) (ys : List Str) : Nat := ys.foldl (fun (n : Nat) (y : Str) => n + y.length + z.length) 0
section
variable {X : Cx}
def rJoinW (K : PySem.W.Frag) : V → List V → Hp → VK → Prop := fun x xs H Q => ∃ (z : Str) (l : Addr) (ys : List Str), x = .str z ∧ xs = [.ref l] ∧ SqL K H l (ys.map V.str) ∧ totS z ys ≤ 1000000 ∧ Q (.str (Builtin.Str.glued z ys)) H
def rMulS : R2 := fun x y H Q => ∃ a n, x = .str a ∧ y = .int n ∧ 0 ≤ n ∧ n ≤ 100 ∧ a.length ≤ 10 ∧ ∀ z : Str, z.length = a.length * n.toNat → Q (.str z) H
def rIxQ : R2 := fun x y H Q => ∃ p xs i v, x = .ref p ∧ y = .int i ∧ (H p = some (.lst xs) ∨ H p = some (.tup xs)) ∧ atI xs i = some v ∧ Q v H
theorem ix_seqH : IxR X rIxQ := by
  intro value slice pins s σ H x y v u Q I rx ry h hs
  obtain ⟨p, xs, i, z, e1, e2, hh | hh, ha, q⟩ := h
  · exact ix_listH value slice pins s σ H x y v u Q I rx ry ⟨p, xs, i, z, e1, e2, hh, ha, q⟩ hs
  · exact ix_tupH value slice pins s σ H x y v u Q I rx ry ⟨p, xs, i, z, e1, e2, hh, ha, q⟩ hs
end
end L2
namespace L2
open PySem PySem.Spec PyProof.Rows
section
open PySem.Builtin PySem.Builtin.Str
def splitL (c : Nat) : List Nat → List (List Nat)
  | [] => [[]]
  | d :: r => if d = c then [] :: splitL c r else match splitL c r with
    | [] => [[d]]
    | p :: ps => (d :: p) :: ps
def strL (L : List Nat) : Str := ⟨L.toArray⟩
section
variable {X : Cx}
def rSplit : V → List V → Hp → VK → Prop := fun x ys H Q => ∃ (t : Str) (c : Nat), x = .str t ∧ ys = [.str ⟨#[c]⟩] ∧ c < 256 ∧ t.length ≤ 1000000 ∧ ∀ l, H l = none → Q (.ref l) (upd H l (.lst ((splitL c t.cps.toList).map fun w => V.str (strL w))))
end
end
section
variable {X : Cx}
def rInN : R2 := fun x y H Q => ∃ p xs, x = .non ∧ y = .ref p ∧ H p = some (.lst xs) ∧ (∀ z ∈ xs, flatV z = true ∨ ∃ a ys, z = .ref a ∧ H a = some (.tup ys)) ∧ Q (.bl (xs.any fun z => eqV z .non)) H
end
section
variable {pg : Program} {wd : World} {B : Around} {X0 : Value → Shared → Prop} {s0 : Shared} {J d : Addr} {m : Nat} {Pr : Nat → Value → Prop} {OK : Heap → Prop}
end
section
variable {X : Cx}
def rMulC : R2 := fun x y H Q => ∃ a n, x = .str (strL a) ∧ y = .int n ∧ 0 ≤ n ∧ n ≤ 100 ∧ a.length ≤ 10 ∧ Q (.str (strL (List.replicate n.toNat a).flatten)) H
end
end L2
namespace L2
open PySem PySem.Spec PyProof.Rows
section
variable {pg : Program} {wd : World} {B : Around} {X0 : Value → Shared → Prop} {z0 : Shared}
end
section
variable {X : Cx}
def rExtendT : V → List V → Hp → VK → Prop := fun x vs H Q => ∃ l b xs zs, x = .ref l ∧ vs = [.ref b] ∧ H l = some (.lst xs) ∧ H b = some (.tup zs) ∧ xs.length + zs.length ≤ sizeLine ∧ Q .non (upd H l (.lst (xs ++ zs)))
def rUpdate : V → List V → Hp → VK → Prop := fun x ys H Q => ∃ a b kvs more, x = .ref a ∧ ys = [.ref b] ∧ a ≠ b ∧ H a = some (.dK kvs) ∧ H b = some (.dK more) ∧ kvs.length + more.length ≤ sizeLine ∧ Q .non (upd H a (.dK (mergeK kvs more)))
theorem pa_tup {es r : List Expr} {k : Nat} {pos : Pos} {te : TE} {t : TA} (h : PE X (.Tuple es k pos) te) (hr : PA X r t) : PA X (.Tuple es k pos :: r) (tCons te t) := pa_cons h hr rfl
end
end L2
namespace L2
open PySem PySem.Spec PyProof.Rows
def AlkV (H : Hp) : Nat → V → V → Prop
  | 0, x, y => flatV x = true ∧ x = y
  | d + 1, x, y => (flatV x = true ∧ x = y) ∨ ∃ (a b : Addr) (xs ys : List V), x = .ref a ∧ y = .ref b ∧ ((H a = some (.lst xs) ∧ H b = some (.lst ys)) ∨ (H a = some (.tup xs) ∧ H b = some (.tup ys))) ∧ xs.length = ys.length ∧ ∀ (i : Nat) z w, xs[i]? = some z → ys[i]? = some w → AlkV H d z w
theorem AlkV.same {H H' : Hp} (s : Same H H') : ∀ {d : Nat} {x y : V}, AlkV H d x y → AlkV H' d x y
  | 0, _, _, h => h
  | d + 1, _, _, .inl h => .inl h
  | d + 1, _, _, .inr ⟨a, b, xs, ys, e1, e2, h, hl, q⟩ => .inr ⟨a, b, xs, ys, e1, e2, h.imp (fun z => ⟨s _ _ z.1, s _ _ z.2⟩) (fun z => ⟨s _ _ z.1, s _ _ z.2⟩), hl, fun i z w e1 e2 => (q i z w e1 e2).same s⟩
theorem AlkV.flat {H : Hp} {d : Nat} {x : V} (h : flatV x = true) : AlkV H d x x := by
  cases d with
  | zero => exact ⟨h, rfl⟩
  | succ d => exact .inl ⟨h, rfl⟩
theorem AlkV.lst {H : Hp} {d : Nat} {a b : Addr} {xs : List V} (h1 : H a = some (.lst xs)) (h2 : H b = some (.lst xs)) (f : xs.all flatV = true) : AlkV H (d + 1) (.ref a) (.ref b) :=
  .inr ⟨a, b, xs, xs, rfl, rfl, .inl ⟨h1, h2⟩, rfl, fun i z w e1 e2 => by
    rw [e1] at e2; cases e2
    exact .flat (List.all_eq_true.mp f _ (List.mem_of_getElem? e1))⟩
theorem AlkV.tup {H : Hp} {d : Nat} {a b : Addr} {xs : List V} (h1 : H a = some (.tup xs)) (h2 : H b = some (.tup xs)) (f : xs.all flatV = true) : AlkV H (d + 1) (.ref a) (.ref b) :=
  .inr ⟨a, b, xs, xs, rfl, rfl, .inr ⟨h1, h2⟩, rfl, fun i z w e1 e2 => by
    rw [e1] at e2; cases e2
    exact .flat (List.all_eq_true.mp f _ (List.mem_of_getElem? e1))⟩
theorem eqV_self {x : V} (h : flatV x = true) : eqV x x = true := by
  cases x <;> simp_all [eqV, flatV]
theorem vals_at {xs : List V} {us : List Value} (r : Vals xs us) {j : Nat} (h : j < us.toArray.size) : ∃ z, xs[j]? = some z ∧ RelV z us.toArray[j] := by
  have l := r.length
  have k : j < xs.length := by rw [l]; simpa using h
  obtain ⟨u, hu, ru⟩ := r.get (List.getElem?_eq_getElem k)
  have e : us.toArray[j] = u := by
    have z : us[j]? = some (us[j]'(by simpa using h)) := List.getElem?_eq_getElem _
    rw [z] at hu
    simpa using hu
  exact ⟨_, List.getElem?_eq_getElem k, by rw [e]; exact ru⟩
theorem all_true {n : Nat} : (List.range n).all (fun _ => true) = true := by simp
section
variable {X : Cx} {pins : List (Addr × Obj)} {σ : St} {H : Hp} {s : Shared}
theorem eqAt_alk (I : Inv X pins σ H s) : ∀ (d : Nat) (A : Around) (x y : V) (v u : Value), A.units + d < cLine → AlkV H d x y → RelV x v → RelV y u → SeqAt.EqAt A s v u true := by
  intro d
  induction d with
  | zero =>
    intro A x y v u hu h rx ry
    obtain ⟨f, rfl⟩ := h
    have z := eqAt_V (A := A) (s := s) rx ry f f
    rwa [eqV_self f] at z
  | succ d ih =>
    intro A x y v u hu h rx ry
    rcases h with ⟨f, rfl⟩ | ⟨a, b, xs, ys, rfl, rfl, h, hl, q⟩
    · have z := eqAt_V (A := A) (s := s) rx ry f f
      rwa [eqV_self f] at z
    · cases rx
      cases ry
      by_cases ab : a = b
      · subst ab; exact SeqAt.EqAt.same _
      · refine SeqAt.EqAt.of_refs ab ?_
        rcases h with ⟨h1, h2⟩ | ⟨h1, h2⟩
        · obtain ⟨us, r1, p1, _⟩ := I.list (.of h1)
          obtain ⟨ws, r2, p2, _⟩ := I.list (.of h2)
          have z := SeqAt.RcAt.lists (A := A) p1.isList p2.isList (e := fun _ => true) (by simp [← r1.length, ← r2.length, hl]) (by omega) (fun j k1 k2 => by
            obtain ⟨z, e1, rz⟩ := vals_at r1 k1
            obtain ⟨w, e2, rw⟩ := vals_at r2 k2
            exact ih A.in1 z w _ _ (by show A.units + 1 + d < cLine; omega) (q j z w e1 e2) rz rw)
          rwa [all_true] at z
        · obtain ⟨us, r1, p1, _⟩ := I.tuple (.of h1)
          obtain ⟨ws, r2, p2, _⟩ := I.tuple (.of h2)
          have z := SeqAt.RcAt.tuples (A := A) (show s.heap.IsTuple a us.toArray from p1) (show s.heap.IsTuple b ws.toArray from p2) (e := fun _ => true) (by omega) (fun j k1 k2 => by
            obtain ⟨z, e1, rz⟩ := vals_at r1 k1
            obtain ⟨w, e2, rw⟩ := vals_at r2 k2
            exact ih A.in1 z w _ _ (by show A.units + 1 + d < cLine; omega) (q j z w e1 e2) rz rw)
          have e : (us.toArray.size == ws.toArray.size) = true := by simp [← r1.length, ← r2.length, hl]
          rw [all_true, e] at z
          exact z
def rEqD : R2 := fun x y H Q => (∃ a, x = .ref a) ∧ AlkV H 9 x y ∧ Q (.bl true) H
theorem op_eqD (hu : X.A.units + 20 < cLine) : OpR X (compareOp .Eq) rEqD := by
  intro pins s σ H x y v u Q I rx ry h
  obtain ⟨⟨a, rfl⟩, h, q⟩ := h
  rcases h with ⟨f, _⟩ | ⟨a', b, xs, ys, e, rfl, h, hl, al⟩
  · simp [flatV] at f
  · cases e
    cases rx
    cases ry
    have fin : EP X pins σ Q (.bool true) s := ⟨.bl true, H, I, rfl, q⟩
    rcases h with ⟨h1, h2⟩ | ⟨h1, h2⟩
    · obtain ⟨us, r1, p1, _⟩ := I.list (.of h1)
      obtain ⟨ws, r2, p2, _⟩ := I.list (.of h2)
      refine SeqAt.eq_listAt p1.isList p2.isList (e := fun _ => true) (by simp [← r1.length, ← r2.length, hl]) (by omega) (fun j k1 k2 => ?_) (by rw [all_true]; exact fin)
      obtain ⟨z, e1, rz⟩ := vals_at r1 k1
      obtain ⟨w, e2, rw⟩ := vals_at r2 k2
      exact eqAt_alk I 8 X.A.in1 z w _ _ (by show X.A.units + 1 + 8 < cLine; omega) (al j z w e1 e2) rz rw
    · obtain ⟨us, r1, p1, _⟩ := I.tuple (.of h1)
      obtain ⟨ws, r2, p2, _⟩ := I.tuple (.of h2)
      have e : (us.toArray.size == ws.toArray.size) = true := by simp [← r1.length, ← r2.length, hl]
      refine SeqAt.eq_tupleAt (show s.heap.IsTuple a us.toArray from p1) (show s.heap.IsTuple b ws.toArray from p2) (e := fun _ => true) (by omega) (fun j k1 k2 => ?_) (by rw [all_true, e]; exact fin)
      obtain ⟨z, e1, rz⟩ := vals_at r1 k1
      obtain ⟨w, e2, rw⟩ := vals_at r2 k2
      exact eqAt_alk I 8 X.A.in1 z w _ _ (by show X.A.units + 1 + 8 < cLine; omega) (al j z w e1 e2) rz rw
def rNeD : R2 := fun x y H Q => (∃ a, x = .ref a) ∧ AlkV H 9 x y ∧ Q (.bl false) H
end
theorem hu20 {k : Nat} {A : Around} (r : Room k A) : A.units + 20 < cLine := by have := r.un; omega
section
variable {X : Cx}
def iSeq (K : PySem.W.Frag) (tl : TE) : TI := fun σ H R => tl σ H fun x H1 => (∃ a, x = .ref a ∧ (∃ xs, SqL K H1 a xs) ∧ R (Itl K a) H1) ∨ (∃ a, x = .ref a ∧ (∃ xs, SqT K H1 a xs) ∧ R (Itt K a) H1)
theorem for_eqQ {K : PySem.W.Frag} {te : TE} {g : TG} {tb : TS} {D : Ends} {σ : St} {H : Hp} : tFor (iSeq K te) g tb D σ H = te σ H fun x H1 => LoopL K g tb D σ x H1 ∨ LoopT K g tb D σ x H1 := rfl
theorem comp_eqQ {K : PySem.W.Frag} {k : Nat} {js : List Nat} {ti : TE} {g : TG} {te : TE} {σ : St} {H : Hp} {Q : VK} : tComp (iSeq K ti) k js g te σ H Q = ti σ H fun x H1 => CompL K k js g te σ x H1 Q ∨ CompT K k js g te σ x H1 Q := rfl
end
end L2
namespace L2
open PySem PySem.Spec PyProof.Rows
def Itrl (K : PySem.W.Frag) (a : Addr) (n : Nat) : It := ⟨fun i H => ∃ xs, SqL K H a xs ∧ xs.length = n ∧ i < n, fun i H x H' => H' = H ∧ ∀ xs, SqL K H a xs → xs[n - 1 - i]? = some x, fun i H => ∃ xs, SqL K H a xs ∧ xs.length = n ∧ i = n⟩
section
variable {X : Cx} {tg : Expr}
def iRevL (K : PySem.W.Frag) (te : TE) : TI := fun σ H R => te σ H fun x H1 => ∃ a xs, x = .ref a ∧ SqL K H1 a xs ∧ R (Itrl K a xs.length) H1
end
def LoopVL (K : PySem.W.Frag) (g : TG) (tb : TS) (D : Ends) (σ : St) (x : V) (H1 : Hp) : Prop := ∃ a xs, x = .ref a ∧ SqL K H1 a xs ∧ ∃ W : Nat → Nat → St → Hp → Prop, (∃ m, W 0 m σ H1) ∧ ∀ i m σ H, W i m σ H →
  ((Itrl K a xs.length).stop i H ∧ D.nx σ H) ∨ ((Itrl K a xs.length).go i H ∧ ∃ N : St → Hp → Prop, (∀ σ' H', N σ' H' → ∃ m', m' < m ∧ W (i + 1) m' σ' H') ∧ ∀ x H', (Itrl K a xs.length).yld i H x H' → g x σ H' fun σ2 H2 => tb { D with nx := N, ct := N, bk := D.nx } σ2 H2)
theorem for_eqVL {K : PySem.W.Frag} {te : TE} {g : TG} {tb : TS} {D : Ends} {σ : St} {H : Hp} : tFor (iRevL K te) g tb D σ H = te σ H fun x H1 => LoopVL K g tb D σ x H1 := rfl
theorem LoopVL.mk {K : PySem.W.Frag} {a : Addr} {xs : List V} {g : TG} {tb : TS} {D : Ends} {σ : St} {H : Hp} (hS : SqL K H a xs) (Pv : Nat → St → Hp → Prop) (h0 : Pv 0 σ H) (hl : ∀ i σ H, i ≤ xs.length → Pv i σ H → SqL K H a xs)
    (hs : ∀ i x σ H, i < xs.length → xs[xs.length - 1 - i]? = some x → Pv i σ H → g x σ H fun σ2 H2 => tb { D with nx := Pv (i + 1), ct := Pv (i + 1), bk := D.nx } σ2 H2) (hd : ∀ σ H, Pv xs.length σ H → D.nx σ H) : LoopVL K g tb D σ (.ref a) H := by
  refine ⟨a, xs, rfl, hS, fun i m σ H => m = xs.length - i ∧ i ≤ xs.length ∧ Pv i σ H, ⟨xs.length, by simp, Nat.zero_le _, h0⟩, ?_⟩
  rintro i m σ H ⟨rfl, hi, p⟩
  have q := hl i σ H hi p
  by_cases hlt : i < xs.length
  · refine .inr ⟨⟨xs, q, rfl, hlt⟩, Pv (i + 1), fun σ' H' p' => ⟨xs.length - (i + 1), by omega, rfl, hlt, p'⟩, fun x H' y => ?_⟩
    obtain ⟨e, y⟩ := y
    subst e
    exact hs i x σ _ hlt (y xs q) p
  · have e : i = xs.length := by omega
    subst e
    exact .inl ⟨⟨xs, q, rfl, rfl⟩, hd σ H p⟩
end L2
namespace L2
open PySem PySem.Spec PyProof.Rows PySem.W PySem.Calls
theorem cellsFrom_app : ∀ (names : List (Str × NameKind)) (n : Nat) (acc : List (Str × Addr)), cellsFrom n names acc = cellsFrom n names [] ++ acc
  | [], _, _ => rfl
  | (x, k) :: r, n, acc => by
    unfold cellsFrom
    split
    · rw [cellsFrom_app r (n + 1) ((x, n) :: acc), cellsFrom_app r (n + 1) [(x, n)], List.append_assoc]; rfl
    · exact cellsFrom_app r n acc
theorem look_app {α : Type} : ∀ {a b : List (Str × α)} {x : Str}, (a ++ b).lookup x = match a.lookup x with | some c => some c | none => b.lookup x
  | [], _, _ => rfl
  | (y, c) :: a, b, x => by
    rw [List.cons_append, List.lookup_cons, List.lookup_cons]
    cases x == y with
    | true => rfl
    | false => exact look_app
theorem look_some {α : Type} {y : Str} : ∀ {cl : List (Str × α)} {q : Str × α}, q ∈ cl → q.1 = y → (cl.lookup y).isSome = true
  | a :: r, q, hq, e => by
    rw [List.lookup_cons]
    cases q0 : y == a.1 with
    | true => rfl
    | false =>
      rcases List.mem_cons.mp hq with z | z
      · rw [← z, e, beq_self_eq_true] at q0; cases q0
      · exact look_some z e
theorem look_nd {α : Type} : ∀ {cl : List (Str × α)} {q : Str × α}, (cl.map (·.1)).Nodup → q ∈ cl → cl.lookup q.1 = some q.2
  | a :: r, q, nd, hq => by
    rw [List.lookup_cons]
    rcases List.mem_cons.mp hq with z | z
    · rw [← z, beq_self_eq_true]
    · have na := (List.nodup_cons.mp nd).1
      have : (q.1 == a.1) = false := by
        cases q0 : q.1 == a.1 with
        | false => rfl
        | true => exact absurd (List.mem_map.mpr ⟨q, z, eq_of_beq q0⟩) na
      rw [this]
      exact look_nd (List.nodup_cons.mp nd).2 z
theorem cellsFrom_none {x : Str} : ∀ {names : List (Str × NameKind)} {n : Nat}, (∀ y ∈ names, y.2 = .cell → y.1 ≠ x) → (cellsFrom n names []).lookup x = none
  | [], _, _ => rfl
  | (y, k) :: r, n, h => by
    unfold cellsFrom
    split
    · rename_i hk
      rw [cellsFrom_app, look_app, cellsFrom_none fun z hz => h z (List.mem_cons_of_mem _ hz)]
      have hy : y ≠ x := h (y, k) List.mem_cons_self (eq_of_beq hk)
      show List.lookup x [(y, n)] = none
      rw [List.lookup_cons]
      have : (x == y) = false := by
        cases q : x == y with
        | false => rfl
        | true => exact absurd (eq_of_beq q).symm hy
      rw [this]; rfl
    · exact cellsFrom_none fun z hz => h z (List.mem_cons_of_mem _ hz)
section
variable {M : Model} {A : Around} {E : Value → Shared → Prop} {s₀ s : Shared} {m cm : Str → Option Value} {env : Env} {cs : List (Str × Addr)}
theorem stLX {n : Str} {v : Value} {Q : Unit → Shared → Prop} (x : InCallC s₀ env.locals m cs cm s) (hk : env.scope.kind = .function) (hl : env.kindOf n = some .local)
    (h : ∀ s', InCallC s₀ env.locals (fun y => if y = n then some v else m y) cs cm s' → Q () s') : wpAny M A (storeName env n v) Q E s := by
  refine wpAny_storeName_local hl x.toInCall.ns (fun h' hn' hs' => h _ ⟨⟨?_, hn', fun b o e => ?_, x.toInCall.fresh⟩, fun k c hc => ?_, x.apart, x.above⟩) (by rw [hk]; rfl)
  · obtain ⟨h₁, tk, rfl⟩ := x.toInCall.same
    exact ⟨h', _, rfl⟩
  · exact hs'.extBut b o (Nat.ne_of_lt (Nat.lt_of_lt_of_le (Heap.lt_size e) x.toInCall.fresh)) (x.toInCall.keep b o e)
  · exact (x.cell k c hc).sameBut hs' (Nat.ne_of_gt (x.above k c (PySem.mem_of_lookup hc)))
theorem stCX {n : Str} {c : Addr} {v : Value} {Q : Unit → Shared → Prop} (x : InCallC s₀ env.locals m cs cm s) (hk : env.scope.kind = .function) (hl : env.kindOf n = some .cell)
    (hc : cs.lookup n = some c) (he : env.cells.lookup n = some c)
    (h : ∀ s', InCallC s₀ env.locals m cs (fun y => if y = n then some v else cm y) s' → Q () s') : wpAny M A (storeName env n v) Q E s := by
  have hLc := x.above n c (PySem.mem_of_lookup hc)
  refine wpAny_storeName_cell hk hl he (x.cell n c hc) fun h' hc' hs' => h _ ⟨⟨?_, x.toInCall.ns.sameBut hs' (Nat.ne_of_lt hLc), fun b o e => ?_, x.toInCall.fresh⟩, fun k c' hk' => ?_, x.apart, x.above⟩
  · obtain ⟨h₁, tk, rfl⟩ := x.toInCall.same
    exact ⟨h', _, rfl⟩
  · exact hs'.extBut b o (Nat.ne_of_lt (Nat.lt_trans (Nat.lt_of_lt_of_le (Heap.lt_size e) x.toInCall.fresh) hLc)) (x.toInCall.keep b o e)
  · by_cases hkn : k = n
    · subst hkn
      rw [hc] at hk'; cases hk'
      simpa using hc'
    · rw [if_neg hkn]
      exact (x.cell k c' hk').sameBut hs' fun e => hkn (name_of_addr x.apart (PySem.mem_of_lookup hk') (e ▸ PySem.mem_of_lookup hc))
theorem bindParamsX (f : Str × Value → PUnit → Sem (ForInStep PUnit)) (hf : ∀ n v u, f (n, v) u = (do storeName env n v; pure (.yield ⟨⟩))) (hk : env.scope.kind = .function) (hcs : ∀ n c, cs.lookup n = some c → env.cells.lookup n = some c) :
    ∀ (binds : List (Str × Value)) (m cm : Str → Option Value) (s : Shared) (Q : PUnit → Shared → Prop), InCallC s₀ env.locals m cs cm s →
      (∀ x ∈ binds, env.kindOf x.1 = some .local ∨ (env.kindOf x.1 = some .cell ∧ (cs.lookup x.1).isSome = true)) →
      (∀ s', InCallC s₀ env.locals (bindL env.kindOf binds m) cs (bindC env.kindOf binds cm) s' → Q ⟨⟩ s') → wpAny M A (forIn binds ⟨⟩ f) Q E s
  | [], m, cm, s, Q, x, _, h => by rw [List.forIn_nil]; exact wpAny_pure (h s x)
  | (n, v) :: r, m, cm, s, Q, x, hkind, h => by
    rw [List.forIn_cons, hf]
    have hr : ∀ y ∈ r, env.kindOf y.1 = some .local ∨ (env.kindOf y.1 = some .cell ∧ (cs.lookup y.1).isSome = true) := fun y hy => hkind y (List.mem_cons_of_mem _ hy)
    rcases hkind (n, v) List.mem_cons_self with hl | ⟨hl, hc⟩
    · refine wpAny_bind (wpAny_bind (stLX x hk hl fun s' x' => wpAny_pure (bindParamsX f hf hk hcs r _ _ s' Q x' hr fun s'' x'' => h s'' ?_)))
      unfold bindL bindC; rw [if_pos hl, if_pos hl]; exact x''
    · obtain ⟨c, hc⟩ := Option.isSome_iff_exists.mp hc
      have hnl : ¬ env.kindOf n = some .local := by rw [hl]; decide
      refine wpAny_bind (wpAny_bind (stCX x hk hl hc (hcs n c hc) fun s' x' => wpAny_pure (bindParamsX f hf hk hcs r _ _ s' Q x' hr fun s'' x'' => h s'' ?_)))
      unfold bindL bindC; rw [if_neg hnl, if_neg hnl]; exact x''
end
section
variable {M : Model} {A : Around} {E : Value → Shared → Prop} {s : Shared}
theorem wpAny_newEnvX {scope : Scope} {globals : Addr} {cl : List (Str × Addr)} {binds : List (Str × Value)} {qual : Str} {func : Option Addr} {code : Value} {builtins : Addr} {Q : Env → Shared → Prop}
    (hk : scope.kind = .function)
    (hkind : ∀ x ∈ binds, scope.names.lookup x.1 = some .local ∨ (scope.names.lookup x.1 = some .cell ∧ ((cellsFrom (s.heap.objs.size + 1) scope.names []).lookup x.1).isSome = true))
    (hQ : ∀ env, env = newEnv scope s.heap.objs.size globals (cellsFrom (s.heap.objs.size + 1) scope.names [] ++ cl) qual func code none builtins →
      ∀ s', InCallC s env.locals (bindL env.kindOf binds fun _ => none) (cellsFrom (s.heap.objs.size + 1) scope.names []) (bindC env.kindOf binds fun _ => none) s' → Q env s') :
    wpAny M A (newFunctionEnv scope globals cl binds qual func code none builtins) Q E s := by
  simp only [newFunctionEnv, Option.isSome_none, Bool.false_eq_true, if_false]
  refine wpAny_bind (wpAny_alloc ?_)
  refine wpAny_bind (wpAny_layCells _ (fun name kind cells => by cases hkc : kind == NameKind.cell <;> simp [hkc]) _ _ _ _ ?_)
  have ok := cellsFrom_ok scope.names (s.heap.push { cls := .type "frame", data := .dict #[] }) (s.heap.objs.size + 1) [] ⟨fun _ _ hm => (nomatch hm), List.Pairwise.nil⟩ (by rw [Heap.size_push]; exact Nat.le_refl _)
  rw [Heap.size_push] at ok
  rw [show ({ s with heap := s.heap.push { cls := .type "frame", data := .dict #[] } } : Shared).heap.objs.size = s.heap.objs.size + 1 from Heap.size_push ..]
  rw [cellsFrom_app scope.names (s.heap.objs.size + 1) cl]
  refine wpAny_bind (bindParamsX (s₀ := s) (cs := cellsFrom (s.heap.objs.size + 1) scope.names []) (env := newEnv scope s.heap.objs.size globals (cellsFrom (s.heap.objs.size + 1) scope.names [] ++ cl) qual func code none builtins)
    _ (fun _ _ _ => rfl) hk (fun n c hc => by show List.lookup n (cellsFrom (s.heap.objs.size + 1) scope.names [] ++ cl) = some c; rw [look_app, hc]) binds (fun _ => none) (fun _ => none) _ _
    ⟨⟨⟨_, _, rfl⟩, (Heap.Ns.new s.heap (.type "frame")).keeps (pushCells_keeps _ _), fun b o e => pushCells_keeps _ _ b o (Heap.get?_push_of_some _ e), Nat.le_refl _⟩,
      fun n c hc => (ok.empty n c (PySem.mem_of_lookup hc)).1, ok.apart, fun n c hm => (ok.empty n c hm).2⟩
    hkind fun s' x => wpAny_pure (hQ _ rfl s' x))
end
def CelO (c : Addr) (v : V) : HO := .ext fun h => ∃ u, RelV v u ∧ h.IsCell c (some u)
def CodO (c : Addr) (qual : Str) : HO := .ext fun h => h.CodeRec (.ref c) qual
def LamO (fa c' : Addr) (qual : Str) (params : Arguments) (body : Expr) (scope : Scope) (cl : List (Str × Addr)) : HO := .ext fun h => ∃ pm ctv, h.get? fa = some (kla_obj "<lambda>" qual params body scope cl pm c' ctv)
structure CelAt (H : Hp) (cl : List (Str × Addr)) (vcs : List V) : Prop where
  len : cl.length = vcs.length
  at_ : ∀ (i : Nat) q, cl[i]? = some q → ∃ v o, vcs[i]? = some v ∧ H q.2 = some (.frz o (CelO q.2 v))
  apart : cl.Pairwise fun x y => x.2 ≠ y.2
theorem CelAt.mem {H : Hp} {cl : List (Str × Addr)} {vcs : List V} (h : CelAt H cl vcs) {q : Str × Addr} (hq : q ∈ cl) : ∃ o v, H q.2 = some (.frz o (CelO q.2 v)) := by
  obtain ⟨i, e⟩ := List.mem_iff_getElem?.mp hq
  obtain ⟨v, o, _, e2⟩ := h.at_ i q e
  exact ⟨o, v, e2⟩
theorem CelAt.same {H H' : Hp} {cl : List (Str × Addr)} {vcs : List V} (h : CelAt H cl vcs) (s : ∀ a o, H a = some o → H' a = some o) : CelAt H' cl vcs :=
  ⟨h.len, fun i q e => let ⟨v, o, e1, e2⟩ := h.at_ i q e; ⟨v, o, e1, s _ _ e2⟩, h.apart⟩
open Classical in
noncomputable def minC (H : Hp) (cl : List (Str × Addr)) : Hp := fun b => if ∃ q ∈ cl, q.2 = b then none else H b
open Classical in
noncomputable def resC (H H' : Hp) (cl : List (Str × Addr)) : Hp := fun b => if ∃ q ∈ cl, q.2 = b then H b else H' b
theorem minC_in {H : Hp} {cl : List (Str × Addr)} {q : Str × Addr} (h : q ∈ cl) : minC H cl q.2 = none := if_pos ⟨q, h, rfl⟩
theorem minC_out {H : Hp} {cl : List (Str × Addr)} {b : Addr} (h : ∀ q ∈ cl, q.2 ≠ b) : minC H cl b = H b := if_neg fun ⟨q, hq, e⟩ => h q hq e
theorem minC_some {H : Hp} {cl : List (Str × Addr)} {b : Addr} {o : HO} (h : minC H cl b = some o) : H b = some o ∧ ∀ q ∈ cl, q.2 ≠ b := by
  by_cases c : ∃ q ∈ cl, q.2 = b
  · rw [show minC H cl b = none from if_pos c] at h; cases h
  · rw [show minC H cl b = H b from if_neg c] at h
    exact ⟨h, fun q hq e => c ⟨q, hq, e⟩⟩
theorem minC_none {H : Hp} {cl : List (Str × Addr)} {b : Addr} (h : H b = none) : minC H cl b = none := by
  by_cases c : ∃ q ∈ cl, q.2 = b
  · exact if_pos c
  · rw [show minC H cl b = H b from if_neg c]; exact h
theorem resC_in {H H' : Hp} {cl : List (Str × Addr)} {q : Str × Addr} (h : q ∈ cl) : resC H H' cl q.2 = H q.2 := if_pos ⟨q, h, rfl⟩
theorem resC_out {H H' : Hp} {cl : List (Str × Addr)} {b : Addr} (h : ∀ q ∈ cl, q.2 ≠ b) : resC H H' cl b = H' b := if_neg fun ⟨q, hq, e⟩ => h q hq e
theorem HOk.minC {P : Program} {w : World} {H : Hp} {h : Heap} {cl : List (Str × Addr)} {vcs : List V} (x : HOk P w H h) (hc : CelAt H cl vcs) : HOk P w (minC H cl) h := fun b o e => by
  obtain ⟨e1, _⟩ := minC_some e
  have nf : ∀ c u, H c = some u → (∀ ob v, u ≠ .frz ob v) → L2.minC H cl c = some u := fun c u e2 n => by
    rw [minC_out fun q hq z => ?_]
    · exact e2
    · obtain ⟨ob, v, e3⟩ := hc.mem hq
      rw [z, e2] at e3
      exact n _ _ (Option.some.inj e3)
  exact (x b o e1).stay (fun _ _ _ q => q) (fun c q => nf c _ q fun _ _ z => nomatch z) fun c xs q => nf c _ q fun _ _ z => nomatch z
structure LmScope (N ps fv : List Str) (sc : Scope) : Prop where
  kind : sc.kind = .function
  co : sc.isCoroutine = false
  gen : sc.isGenerator = false
  nd : N.Nodup
  pre : N.take (ps ++ fv).length = ps ++ fv
  par : ∀ x ∈ ps, sc.names.lookup x = some .local ∨ sc.names.lookup x = some .cell
  fre : ∀ x ∈ fv, sc.names.lookup x = some .free
  has : ∀ y ∈ sc.names, y.2 = .free → y.1 ∈ fv
  own : ∀ x ∈ fv, ∀ y ∈ sc.names, y.2 = .cell → y.1 ≠ x
def cxLam (P : Program) (w : World) (K : PySem.W.Frag) (mg : Str → Option Value) (base : Heap) (N : List Str) (qual : Str) (scope : Scope) (f : Addr) (cd : Value) (cl : List (Str × Addr)) (A : Around) (outer : List Env) (s : Shared) (H : Hp) : Cx where
  prog := P
  w := w
  K := K
  mg := mg
  base := base
  A := A.deeper (envX qual scope s.heap.objs.size f cd (cellsFrom (s.heap.objs.size + 1) scope.names [] ++ cl))
  N := N
  s₀ := s
  H₀ := H
  env := envX qual scope s.heap.objs.size f cd (cellsFrom (s.heap.objs.size + 1) scope.names [] ++ cl)
  outer := outer
  stack := envX qual scope s.heap.objs.size f cd (cellsFrom (s.heap.objs.size + 1) scope.names [] ++ cl) :: outer
  ex := []
  calm := true
  fn := fun x => decide (scope.names.lookup x = some .cell)
  pn := []
  xe := fun _ _ => False
theorem start_at {N : List Str} {vs : List V} {i : Nat} {v : V} (h : (start N vs)[i]? = some (some v)) : vs[i]? = some v := by
  unfold start at h
  have hi : i < vs.length := by
    by_cases hi : i < vs.length
    · exact hi
    · rw [List.getElem?_append_right (by simpa using hi), List.getElem?_replicate] at h
      split at h <;> cases h
  rw [List.getElem?_append_left (by simpa using hi), List.getElem?_map] at h
  cases e : vs[i]? with
  | none => rw [e] at h; cases h
  | some a => rw [e] at h; cases h; rfl
theorem inv_lam {P : Program} {w : World} {K : PySem.W.Frag} {mg : Str → Option Value} {base : Heap} {N ps fv : List Str} {qual : Str} {scope : Scope} {f : Addr} {cd : Value} {cl : List (Str × Addr)} {A : Around} {outer : List Env} {s s1 : Shared} {H : Hp} {us : List Value} {vs vcs : List V}
    (S : LmScope N ps fv scope) (hd : A.handled = none) (e0 : Env0 P w K mg base A outer s H) (hl : vs.length = ps.length) (r : Vals vs us) (hcl : cl.map (·.1) = fv) (hc : CelAt H cl vcs)
    (x : InCallC s s.heap.objs.size (bindL (fun x => scope.names.lookup x) (ps.zip us) fun _ => none) (cellsFrom (s.heap.objs.size + 1) scope.names []) (bindC (fun x => scope.names.lookup x) (ps.zip us) fun _ => none) s1) :
    Inv (cxLam P w K mg base N qual scope f cd cl A outer s (minC H cl)) [] (start N (vs ++ vcs)) (minC H cl) s1 := by
  obtain ⟨h1, tk, rfl, hk⟩ := x.done
  have cll : cl.length = fv.length := by rw [← hcl, List.length_map]
  have hpl : (ps ++ fv).length ≤ N.length := by have := congrArg List.length S.pre; rw [List.length_take] at this; omega
  have noA : ∀ b : Addr, b ∉ (cxLam P w K mg base N qual scope f cd cl A outer s (minC H cl)).ex := fun b z => absurd (show b ∈ ([] : List Addr) from z) (by simp)
  have old : ∀ q ∈ cl, q.2 < s.heap.objs.size := fun q hq => by
    obtain ⟨o, v, e⟩ := hc.mem hq
    exact e0.hok.lt e
  have celv : ∀ (i : Nat) q, cl[i]? = some q → ∃ v u, vcs[i]? = some v ∧ RelV v u ∧ h1.IsCell q.2 (some u) := fun i q e => by
    obtain ⟨v, o, e1, e2⟩ := hc.at_ i q e
    obtain ⟨_, ⟨u, ru, ic⟩, _⟩ := e0.hok _ _ e2
    exact ⟨v, u, e1, ru, ic.keeps hk⟩
  have lk : ∀ y c, (cellsFrom (s.heap.objs.size + 1) scope.names [] ++ cl).lookup y = some c → (y, c) ∈ cellsFrom (s.heap.objs.size + 1) scope.names [] ∨ (y, c) ∈ cl := fun y c e => List.mem_append.mp (PySem.mem_of_lookup e)
  have abv : ∀ y c, (y, c) ∈ cellsFrom (s.heap.objs.size + 1) scope.names [] → s.heap.objs.size ≤ c := fun y c e => Nat.le_of_lt (x.above y c e)
  refine ⟨⟨e0.mod, S.kind, rfl, rfl, Nat.le_refl _, fun y z c h1 h2 => ?_, fun y hy => ?_, fun y c hf h => ?_, fun _ => hd, Around.frames_deeper e0.frames, .inr ⟨rfl, rfl⟩, fun b z => absurd z (noA b), fun b o e => ⟨(e0.bs b o e).1, minC_none (e0.bs b o e).2⟩, e0.bsz, fun b _ _ => noA b, fun b z => absurd z (noA b), e0.funs, fun b hb => minC_none (e0.frf b hb)⟩,
    rfl, e0.bare, Un.kept hk, ⟨_, x.toInCall.ns, fun i y v h1 h2 h3 => ?_⟩, fun y c h => ?_, (e0.hok.minC hc).fresh (Nat.le_refl _), fun y c h => ?_, fun p hp => absurd (show p ∈ ([] : List (Addr × Obj)) from hp) (by simp), (e0.hok.minC hc).kept hk, ?_⟩
  · rcases lk y c h1 with m1 | m1 <;> rcases lk z c h2 with m2 | m2
    · exact name_of_addr x.apart m1 m2
    · exact absurd (abv y c m1) (Nat.not_le_of_lt (old _ m2))
    · exact absurd (abv z c m2) (Nat.not_le_of_lt (old _ m1))
    · exact name_of_addr hc.apart m1 m2
  · have hy : scope.names.lookup y = some .cell ∨ scope.names.lookup y = some .free := hy
    rcases hy with hy | hy
    · obtain ⟨c, e⟩ := cell_has (n := s.heap.objs.size + 1) hy
      exact ⟨c, by show List.lookup y (cellsFrom (s.heap.objs.size + 1) scope.names [] ++ cl) = some c; rw [look_app, e]⟩
    · have hm := S.has _ (PySem.mem_of_lookup hy) rfl
      have hm : y ∈ cl.map (·.1) := by rw [hcl]; exact hm
      obtain ⟨q, hq, e⟩ := List.mem_map.mp hm
      have iss : (cl.lookup y).isSome = true := look_some hq e
      obtain ⟨c, ec⟩ := Option.isSome_iff_exists.mp iss
      have e1 : (cellsFrom (s.heap.objs.size + 1) scope.names []).lookup y = none := cellsFrom_none (S.own y (by rw [← hcl]; exact hm))
      exact ⟨c, by show List.lookup y (cellsFrom (s.heap.objs.size + 1) scope.names [] ++ cl) = some c; rw [look_app, e1]; exact ec⟩
  · have hf : scope.names.lookup y = some .cell := of_decide_eq_true hf
    obtain ⟨c', e⟩ := cell_has (n := s.heap.objs.size + 1) hf
    have h : List.lookup y (cellsFrom (s.heap.objs.size + 1) scope.names [] ++ cl) = some c := h
    rw [look_app, e] at h
    cases h
    exact abv y _ (PySem.mem_of_lookup e)
  · have ha := start_at h2
    have hi : i < (vs ++ vcs).length := (List.getElem?_eq_some_iff.mp ha).1
    have lv : (vs ++ vcs).length = (ps ++ fv).length := by rw [List.length_append, List.length_append, hl, ← hc.len, cll]
    have hp : (ps ++ fv)[i]? = some y := by
      rw [← S.pre, List.getElem?_take_of_lt (by omega)]; exact h1
    have ndA : (ps ++ fv).Nodup := by rw [← S.pre]; exact S.nd.sublist (List.take_sublist _ _)
    have ndP : ps.Nodup := ndA.sublist (List.sublist_append_left _ _)
    by_cases hil : i < ps.length
    · rw [List.getElem?_append_left (by omega)] at ha
      rw [List.getElem?_append_left hil] at hp
      obtain ⟨u, hu, rv⟩ := r.get ha
      refine ⟨u, rv, ?_⟩
      rcases S.par y (List.mem_of_getElem? hp) with k | k
      · exact .inl ⟨k, bindL_get ndP hp hu k⟩
      · obtain ⟨c, e⟩ := cell_has (n := s.heap.objs.size + 1) k
        refine .inr ⟨.inl k, c, by show List.lookup y (cellsFrom (s.heap.objs.size + 1) scope.names [] ++ cl) = some c; rw [look_app, e], ?_⟩
        have q := x.cell y c e
        rw [bindC_get ndP hp hu (by rw [k]; decide)] at q
        exact q
    · rw [List.getElem?_append_right (by omega), hl] at ha
      rw [List.getElem?_append_right (by omega)] at hp
      have hm := List.mem_of_getElem? hp
      have hqc : (cl.map (·.1))[i - ps.length]? = some y := by rw [hcl]; exact hp
      rw [List.getElem?_map] at hqc
      obtain ⟨q, eq, e1⟩ : ∃ q, cl[i - ps.length]? = some q ∧ q.1 = y := by
        cases z : cl[i - ps.length]? with
        | none => rw [z] at hqc; cases hqc
        | some q => rw [z] at hqc; exact ⟨q, rfl, Option.some.inj hqc⟩
      obtain ⟨v', u, e2, ru, ic⟩ := celv _ q eq
      rw [ha] at e2; cases e2
      have ndF : (cl.map (·.1)).Nodup := by rw [hcl]; exact ndA.sublist (List.sublist_append_right _ _)
      have lkq : cl.lookup y = some q.2 := by rw [← e1]; exact look_nd ndF (List.mem_of_getElem? eq)
      have own0 : (cellsFrom (s.heap.objs.size + 1) scope.names []).lookup y = none := cellsFrom_none (S.own y hm)
      exact ⟨u, ru, .inr ⟨.inr (S.fre y hm), q.2, by show List.lookup y (cellsFrom (s.heap.objs.size + 1) scope.names [] ++ cl) = some q.2; rw [look_app, own0]; exact lkq, ic⟩⟩
  · rcases lk y c h with m | m
    · have h : List.lookup y (cellsFrom (s.heap.objs.size + 1) scope.names [] ++ cl) = some c := h
      rw [look_app] at h
      cases e : (cellsFrom (s.heap.objs.size + 1) scope.names []).lookup y with
      | some c2 => rw [e] at h; cases h; exact ⟨_, x.cell y _ e⟩
      | none =>
        rw [e] at h
        obtain ⟨i, ei⟩ := List.mem_iff_getElem?.mp (PySem.mem_of_lookup h)
        obtain ⟨v, u, _, _, ic⟩ := celv i _ ei
        exact ⟨_, ic⟩
    · obtain ⟨i, ei⟩ := List.mem_iff_getElem?.mp m
      obtain ⟨v, u, _, _, ic⟩ := celv i _ ei
      exact ⟨_, ic⟩
  · rcases lk y c h with m | m
    · exact (e0.hok.minC hc).fresh (abv y c m)
    · exact minC_in m
  · unfold start
    show _ = N.length
    have lv : (vs ++ vcs).length = (ps ++ fv).length := by rw [List.length_append, List.length_append, hl, ← hc.len, cll]
    rw [List.length_append, List.length_map, List.length_replicate]
    omega
def CallV (P : Program) (w : World) (K : PySem.W.Frag) (mg : Str → Option Value) (base : Heap) (k : Nat) (fa : Addr) (vs : List V) (H : Hp) (Q : VK) : Prop :=
  ∀ (A : Around) (outer : List Env) (s : Shared) (us : List Value), Room k A → Env0 P w K mg base A outer s H → Vals vs us → codeAny (model P w) A (.call (.ref fa) ⟨us, []⟩) (CR CX0 outer P w H s Q fun _ _ _ => False) s
theorem lam_run {P : Program} {w : World} {K : PySem.W.Frag} {mg : Str → Option Value} {base : Heap} {k : Nat} {N ps fv : List Str} {fa c' : Addr} {qual : Str} {params : Arguments} {body : Expr} {scope : Scope} {cl : List (Str × Addr)} {vs vcs : List V} {H : Hp} {Q : VK} {te : TE}
    (S : LmScope N ps fv scope) (hcl : cl.map (·.1) = fv)
    (hb : ∀ (pm ctv : Value) (us : List Value), us.length = ps.length → bindArgs (kla_fn "<lambda>" qual params body scope cl pm (.ref c') ctv) ⟨us, []⟩ = pure (ps.zip us)) (hl : vs.length = ps.length)
    (L1 : H fa = some (LamO fa c' qual params body scope cl)) (L2 : H c' = some (CodO c' qual)) (hc : CelAt H cl vcs)
    (hbody : ∀ (A : Around) (outer : List Env) (s : Shared), Room k (A.deeper (envX qual scope s.heap.objs.size fa (.ref c') (cellsFrom (s.heap.objs.size + 1) scope.names [] ++ cl))) → PE (cxLam P w K mg base N qual scope fa (.ref c') cl A outer s (minC H cl)) body te)
    (hq : te (start N (vs ++ vcs)) (minC H cl) (fun v H' => Q v (resC H H' cl))) : CallV P w K mg base (k + 1) fa vs H Q := by
  intro A outer s us hr e0 r
  obtain ⟨⟨pm, ctv, ho⟩, _⟩ := e0.hok fa _ L1
  obtain ⟨hcd, _⟩ := e0.hok c' _ L2
  have lim : s.heap.NoLimit := e0.mod.nolimit.keeps fun b o e => (e0.bs b o e).1
  have hkind : ∀ y ∈ ps.zip us, scope.names.lookup y.1 = some .local ∨ (scope.names.lookup y.1 = some .cell ∧ ((cellsFrom (s.heap.objs.size + 1) scope.names []).lookup y.1).isSome = true) := fun ⟨n, v⟩ hy => by
    rcases S.par n (List.of_mem_zip hy).1 with q | q
    · exact .inl q
    · exact .inr ⟨q, PySem.W.cellsFrom_some _ _ _ (.inl q)⟩
  refine kla_callFunE hr.depth ho rfl S.co S.gen rfl hcd ?_
  rw [hb pm ctv us (by rw [← r.length]; exact hl)]
  refine wpAny_pure (wpAny_newEnvX S.kind hkind fun env he s1 x => ?_)
  subst he
  refine ⟨lim.keeps x.toInCall.keep, kla_codeExpr ?_⟩
  have I : Inv (cxLam P w K mg base N qual scope fa (.ref c') cl A outer s (minC H cl)) [] (start N (vs ++ vcs)) (minC H cl) s1 := inv_lam S hr.hd e0 hl r hcl hc x
  refine wpAny_mono (hbody A outer s (hr.deeper _) [] s1 _ _ _ I hq) (fun u s' hs => ?_) (fun e s' hs => False.elim hs)
  obtain ⟨v, H', J, rv, q⟩ := hs
  have un : Un (frs outer) [] (minC H cl) H' s.heap s'.heap := J.base
  have nfr : ∀ q ∈ cl, q.2 ∉ frs outer := fun q hq z => by
    obtain ⟨o, v, e⟩ := hc.mem hq
    rw [e0.frf _ z] at e; cases e
  have kc : ∀ q ∈ cl, ∀ o, s.heap.get? q.2 = some o → s'.heap.get? q.2 = some o ∧ H' q.2 = none := fun q hq o e => ⟨un.keep _ o e (minC_in hq) (nfr q hq) (by simp), un.free _ o e (minC_in hq) (by simp)⟩
  have there : ∀ q ∈ cl, ∃ o, s.heap.get? q.2 = some o := fun q hq => by
    obtain ⟨o, v, e⟩ := hc.mem hq
    exact ⟨o, (e0.hok _ _ e).1⟩
  have split : ∀ b, (∃ q ∈ cl, q.2 = b) ∨ ∀ q ∈ cl, q.2 ≠ b := fun b => by
    by_cases c : ∃ q ∈ cl, q.2 = b
    · exact .inl c
    · exact .inr fun q hq e => c ⟨q, hq, e⟩
  refine ⟨v, resC H H' cl, J.os, J.bare, ⟨fun b o e n hb hx => un.keep b o e (minC_none n) hb hx, fun b o e n hb hx => un.slot b o e (minC_none n) hb hx, fun b o e n hx => ?_, un.there, fun b xs e => ?_, fun b o u e => ?_, fun b ps e => ?_⟩, fun b o e => ?_, rv, q⟩
  · rcases split b with ⟨q, hq, rfl⟩ | hn
    · rw [resC_in hq]; exact n
    · rw [resC_out hn]; exact un.free b o e (minC_none n) hx
  · rcases split b with ⟨q, hq, rfl⟩ | hn
    · rw [resC_in hq]; exact e
    · rw [resC_out hn]; exact un.tups b xs (by rw [minC_out hn]; exact e)
  · rcases split b with ⟨q, hq, rfl⟩ | hn
    · rw [resC_in hq]; exact e
    · rw [resC_out hn]; exact un.frzs b o u (by rw [minC_out hn]; exact e)
  · rcases split b with ⟨q, hq, rfl⟩ | hn
    · obtain ⟨o, v, e2⟩ := hc.mem hq
      rw [e] at e2; cases e2
    · rw [resC_out hn]; exact un.tbls b ps (by rw [minC_out hn]; exact e)
  · rcases split b with ⟨q, hq, rfl⟩ | hn
    · rw [resC_in hq] at e
      obtain ⟨o2, v2, e2⟩ := hc.mem hq
      rw [e] at e2
      cases e2
      obtain ⟨g1, ⟨u2, ru, ic⟩, _, st⟩ := e0.hok _ _ e
      have k1 := (kc q hq _ g1).1
      refine ⟨k1, ⟨u2, ru, ?_⟩, ⟨_, k1⟩, st⟩
      obtain ⟨o3, e3, d3⟩ := ic
      rw [g1] at e3; cases e3
      exact ⟨_, k1, d3⟩
    · rw [resC_out hn] at e
      have nf : ∀ c u, H' c = some u → resC H H' cl c = some u := fun c u e2 => by
        rcases split c with ⟨q, hq, rfl⟩ | hn
        · obtain ⟨o, eo⟩ := there q hq
          rw [(kc q hq o eo).2] at e2; cases e2
        · rw [resC_out hn]; exact e2
      exact (J.hok b o e).stay (fun _ _ _ q => q) (fun c q => nf c _ q) fun c xs q => nf c _ q
end L2
namespace L2
open PySem PySem.Spec PyProof.Rows PySem.W PySem.Calls
def FnV (H : Hp) (fa : Addr) : Prop := ∃ φ, H fa = some (.ext φ) ∧ ∀ h, φ h → FnAt fa h
theorem FnV.same {H H' : Hp} {fa : Addr} (h : FnV H fa) (s : ∀ o, H fa = some o → H' fa = some o) : FnV H' fa := let ⟨φ, e, k⟩ := h; ⟨φ, s _ e, k⟩
theorem FnV.lam {H : Hp} {fa c' : Addr} {qual : Str} {params : Arguments} {body : Expr} {scope : Scope} {cl : List (Str × Addr)} (h : H fa = some (LamO fa c' qual params body scope cl)) : FnV H fa := ⟨_, h, fun _ ⟨_, _, e⟩ => ⟨_, _, _, _, e⟩⟩
def tCalV (P : Program) (w : World) (K : PySem.W.Frag) (mg : Str → Option Value) (base : Heap) (k i : Nat) (t : TA) : TE := fun σ H Q => ∃ fa, σ[i]? = some (some (.ref fa)) ∧ FnV H fa ∧ t σ H fun vs H1 => FnV H1 fa ∧ CallV P w K mg base k fa vs H1 Q
section
variable {X : Cx} {k : Nat} {x : Str} {p pos : Pos} {e : Expr} {es : List Expr} {t : TA}
theorem pe_calV {i : Nat} (hr : Room k X.A) (hN : X.N[i]? = some x) (hv : Vis X.env.scope x) (ha : PA X (e :: es) t) (hd : (x == ("__debug__" : Str)) = false := by decide) (hcd : (x == ("__classdict__" : Str)) = false := by decide)
    (he : starEach (e :: es) X.env = (false, eval e X.env) :: starEach es X.env := by rfl) (hpl : (backTo pos (starEach es X.env)).any (·.1) = false := by rfl) :
    PE X (.Call (.Name x p) (e :: es) [] pos) (tCalV X.prog X.w X.K X.mg X.base k i t) := by
  intro pins s σ H Q I h
  obtain ⟨fa, es', fn, h⟩ := h
  refine wpAny_Call_Name_kw (thn ((pe_var (pos := p) hN hv hd hcd) pins s σ H (fun v H1 => v = .ref fa ∧ H1 = H) I ⟨_, es', rfl, rfl⟩) fun u s1 ⟨v, H1, I1, r1, e1, e2⟩ => ?_)
  subst e1 e2
  cases r1
  have at1 : ∀ {H' : Hp} {s' : Shared}, Inv X pins σ H' s' → FnV H' fa → FnAt fa s'.heap := fun J ⟨φ, e, k⟩ => k _ (J.hok _ _ e).1
  refine callWith_F (at1 I1 fn) (thn (ha pos pins s1 σ _ _ I1 h) fun us s2 ⟨vs, H2, I2, r2, fn2, cv⟩ => ⟨at1 I2 fn2, ?_⟩) he hpl
  refine wpAny_call (codeAny_mono (cv X.A X.stack s2 us hr I2.env0 r2) fun r s' hq => ?_)
  cases r with
  | error e => exact False.elim hq
  | ok fl =>
    cases fl with
    | ret u => exact I2.after hq
    | next => exact False.elim hq
    | brk => exact False.elim hq
    | cont => exact False.elim hq
end
def OwnCl (ec : List (Str × Addr)) (fv : List Str) (cl : List (Str × Addr)) : Prop := cl.map (·.1) = fv ∧ ∀ q ∈ cl, ec.lookup q.1 = some q.2
def TabOk (H : Hp) (T : Addr) (pos : Pos) (qual : Str) : Prop := ∃ ps, H T = some (.tbl ps) ∧ TriplesOk ps.toList ∧ (codeAmong pos ps.toList = none ∨ ∃ c', codeAmong pos ps.toList = some (.ref c') ∧ H c' = some (CodO c' qual))
theorem TabOk.same {H H' : Hp} {T : Addr} {pos : Pos} {qual : Str} (h : TabOk H T pos qual) (s : ∀ a o, H a = some o → H' a = some o) : TabOk H' T pos qual := by
  obtain ⟨ps, e, t, z⟩ := h
  exact ⟨ps, s _ _ e, t, z.imp id fun ⟨c', a, b⟩ => ⟨c', a, s _ _ b⟩⟩
theorem triples_snoc {a b : Int} {c : Value} (l : List Value) (h : TriplesOk l) : TriplesOk (l ++ [rawInt a, rawInt b, c]) := by
  fun_induction TriplesOk l with
  | case1 => simp [TriplesOk, rawInt]
  | case2 i t j u v rest ih => simpa [TriplesOk] using ih h
  | case3 => exact h.elim
structure TabF (base : Heap) (mg : Str → Option Value) (c T : Addr) : Prop where
  hd : CodeHd base c T
  none_ : base.get? T = none
  blt : ∃ bm o, mg "__builtins__" = some (.ref bm) ∧ bm ≠ builtinsNs ∧ bm ≠ mainGlobals ∧ bm ≠ T ∧ base.get? bm = some o ∧ o.cls = .type "module" ∧ o.dict = some builtinsNs ∧ o.data = .plain
  ne : mainGlobals ≠ T
def tLam (ec : List (Str × Addr)) (fv : List Str) (T : Addr) (pos : Pos) (qual : Str) (params : Arguments) (body : Expr) (scope : Scope) : TE := fun _ H Q => TabOk H T pos qual ∧
  ∀ fa c' cl H2, OwnCl ec fv cl → H fa = none → H2 fa = some (LamO fa c' qual params body scope cl) → H2 c' = some (CodO c' qual) → TabOk H2 T pos qual → (∀ b o, b ≠ T → H b = some o → H2 b = some o) → Q (.ref fa) H2
theorem codeRec_stay {c : Addr} {qual : Str} {h1 h2 : Heap} (x : h1.CodeRec (.ref c) qual) (k : ∀ o, h1.get? c = some o → h2.get? c = some o) : h2.CodeRec (.ref c) qual := by
  obtain ⟨c', o, vs, t, e, ho, r⟩ := x
  cases e
  exact ⟨c, o, vs, t, rfl, k _ ho, r⟩
section
variable {X : Cx} {params : Arguments} {body : Expr} {scope : Scope} {pos : Pos} {fv : List Str} {c T : Addr} {cl : List (Str × Addr)}
theorem pe_lam {qual : Str} (hq : X.env.qual ++ "<lambda>" = qual) (hcode : X.env.code = .ref c) (TF : TabF X.base X.mg c T) (hdef : defaultsOf params X.env = ([], [])) (hcl : closureFor scope X.env = pure cl) (own : OwnCl X.env.cells fv cl) :
    PE X (.Lambda params body scope pos) (tLam X.env.cells fv T pos qual params body scope) := by
  intro pins s σ H Q I h
  obtain ⟨⟨ps, hT, ht, hz⟩, h⟩ := h
  subst hq
  have eT : s.heap.get? T = some (tabObj ps) := I.hok _ _ hT
  have hg : s.heap.Ns mainGlobals X.mg := I.mod.glob.keeps I.bk
  obtain ⟨bm, ob, b1, b2, b3, b4, b5, b6⟩ := TF.blt
  have hb : s.heap.BuiltinsAt X.mg T := ⟨bm, ob, b1, b2, b3, b4, I.bk _ _ b5, b6⟩
  have C : CodeHd s.heap c T := TF.hd.keeps I.bk
  refine kla_eval hdef ?_
  rcases hz with hnf | ⟨c', hf, hc'⟩
  · refine kla_makeFunction hcl I.ok.glob hg hcode C eT ht hnf TF.ne hb fun c' ctv h' tk hx hge hlt hrec htb => ?_
    have hfa : H h'.objs.size = none := I.hok.fresh (Nat.le_of_lt (Nat.lt_of_le_of_lt hge hlt))
    have hc0 : H c' = none := I.hok.fresh hge
    have nTc : c' ≠ T := fun z => by rw [z, hT] at hc0; cases hc0
    have nTf : h'.objs.size ≠ T := fun z => by rw [z, hT] at hfa; cases hfa
    have ncf : c' ≠ h'.objs.size := Nat.ne_of_lt hlt
    have old : ∀ b o, b ≠ T → s.heap.get? b = some o → (h'.push (kla_obj "<lambda>" (X.env.qual ++ "<lambda>") params body scope cl ((X.mg "__name__").getD .none) c' ctv)).get? b = some o := fun b o n e => Heap.get?_push_of_some _ (hx b o n e)
    have eP : (h'.push (kla_obj "<lambda>" (X.env.qual ++ "<lambda>") params body scope cl ((X.mg "__name__").getD .none) c' ctv)).get? T = some (tabObj (ps ++ #[rawInt pos.line, rawInt pos.col, .ref c'])) := Heap.get?_push_of_some _ htb
    have eF : (h'.push (kla_obj "<lambda>" (X.env.qual ++ "<lambda>") params body scope cl ((X.mg "__name__").getD .none) c' ctv)).get? h'.objs.size = some (kla_obj "<lambda>" (X.env.qual ++ "<lambda>") params body scope cl ((X.mg "__name__").getD .none) c' ctv) := Heap.get?_push_size _ rfl
    have eC : (h'.push (kla_obj "<lambda>" (X.env.qual ++ "<lambda>") params body scope cl ((X.mg "__name__").getD .none) c' ctv)).CodeRec (.ref c') (X.env.qual ++ "<lambda>") := codeRec_stay hrec fun o e => Heap.get?_push_of_some _ e
    generalize h'.push (kla_obj "<lambda>" (X.env.qual ++ "<lambda>") params body scope cl ((X.mg "__name__").getD .none) c' ctv) = h2 at *
    generalize h'.objs.size = fa at *
    have lowT : ∀ b o, s.heap.get? b = some o → b ≠ c' ∧ (H b = none → b ≠ T) := fun b o e => ⟨Nat.ne_of_lt (Nat.lt_of_lt_of_le (Heap.lt_size e) hge), fun n z => by rw [z, hT] at n; cases n⟩
    have lowF : ∀ b o, s.heap.get? b = some o → b ≠ fa := fun b o e => Nat.ne_of_lt (Nat.lt_trans (Nat.lt_of_lt_of_le (Heap.lt_size e) hge) hlt)
    have out : ∀ b, b ≠ T → b ≠ c' → b ≠ fa → upd (upd (upd H T (.tbl (ps ++ #[rawInt pos.line, rawInt pos.col, .ref c']))) c' (CodO c' (X.env.qual ++ "<lambda>"))) fa (LamO fa c' (X.env.qual ++ "<lambda>") params body scope cl) b = H b := fun b n1 n2 n3 => by rw [upd_ne n3, upd_ne n2, upd_ne n1]
    have trk : ∀ b o, H b = some o → b ≠ c' ∧ b ≠ fa := fun b o e => ⟨(fun z => by rw [z, hc0] at e; cases e), (fun z => by rw [z, hfa] at e; cases e)⟩
    have HT : upd (upd (upd H T (.tbl (ps ++ #[rawInt pos.line, rawInt pos.col, .ref c']))) c' (CodO c' (X.env.qual ++ "<lambda>"))) fa (LamO fa c' (X.env.qual ++ "<lambda>") params body scope cl) T = some (.tbl (ps ++ #[rawInt pos.line, rawInt pos.col, .ref c'])) := by rw [upd_ne nTf.symm, upd_ne nTc.symm, upd_same]
    have HC : upd (upd (upd H T (.tbl (ps ++ #[rawInt pos.line, rawInt pos.col, .ref c']))) c' (CodO c' (X.env.qual ++ "<lambda>"))) fa (LamO fa c' (X.env.qual ++ "<lambda>") params body scope cl) c' = some (CodO c' (X.env.qual ++ "<lambda>")) := by rw [upd_ne ncf, upd_same]
    have HF : upd (upd (upd H T (.tbl (ps ++ #[rawInt pos.line, rawInt pos.col, .ref c']))) c' (CodO c' (X.env.qual ++ "<lambda>"))) fa (LamO fa c' (X.env.qual ++ "<lambda>") params body scope cl) fa = some (LamO fa c' (X.env.qual ++ "<lambda>") params body scope cl) := upd_same
    generalize upd (upd (upd H T (.tbl (ps ++ #[rawInt pos.line, rawInt pos.col, .ref c']))) c' (CodO c' (X.env.qual ++ "<lambda>"))) fa (LamO fa c' (X.env.qual ++ "<lambda>") params body scope cl) = H2 at *
    have same : ∀ b o, b ≠ T → H b = some o → H2 b = some o := fun b o n e => by rw [out b n (trk b o e).1 (trk b o e).2]; exact e
    have un : Un X.fs [] H H2 s.heap h2 := ⟨fun b o e n _ _ => old b o ((lowT b o e).2 n) e, fun b o e n _ _ => ⟨o.slots, old b o ((lowT b o e).2 n) e⟩, fun b o e n _ => by rw [out b ((lowT b o e).2 n) (lowT b o e).1 (lowF b o e)]; exact n, fun b o e _ => by
      by_cases z : b = T
      · rw [z]; exact ⟨_, eP⟩
      · exact ⟨o, old b o z e⟩, fun b xs e => same b _ (fun z => by rw [z, hT] at e; cases e) e, fun b o u e => same b _ (fun z => by rw [z, hT] at e; cases e) e, fun b qs e => by
      by_cases z : b = T
      · subst z; rw [hT] at e; cases e; exact ⟨_, HT⟩
      · exact ⟨#[], by rw [same b _ z e]; simp⟩⟩
    have hok : HOk X.prog X.w H2 h2 := fun b o e => by
      by_cases zf : b = fa
      · subst zf; rw [HF] at e; cases e
        exact ⟨⟨_, _, eF⟩, ⟨_, eF⟩, fun h1 h3 ⟨pm, cv, e1⟩ k => ⟨pm, cv, k _ e1⟩⟩
      · by_cases zc : b = c'
        · subst zc; rw [HC] at e; cases e
          obtain ⟨c2, o2, vs2, t2, e2, ho2, r2⟩ := id eC
          cases e2
          exact ⟨eC, ⟨_, ho2⟩, fun h1 h3 x k => codeRec_stay x k⟩
        · by_cases zT : b = T
          · subst zT; rw [HT] at e; cases e
            exact eP
          · rw [out b zT zc zf] at e
            refine (I.hok b o e).stay (fun d u hd q => old d u (fun z => ?_) q) (fun d q => same d _ (fun z => by rw [z, hT] at q; cases q) q) fun d xs q => same d _ (fun z => by rw [z, hT] at q; cases q) q
            rcases hd with hd | hd
            · exact zT (hd.symm.trans z)
            · rw [z, hT] at hd; cases hd
    exact ⟨.ref fa, H2, I.un un hok, rfl, h fa c' cl H2 own hfa HF HC ⟨_, HT, by simpa using triples_snoc ps.toList ht, .inr ⟨c', by simpa using codeAmong_snoc ps.toList ht hnf, HC⟩⟩ same⟩
  · refine kla_makeFunctionHit hcl I.ok.glob hg hcode C eT ht hf hb fun ctv h' tk hx hsz => ?_
    have hfa : H h'.objs.size = none := I.hok.fresh hsz
    have same : ∀ b o, H b = some o → upd H h'.objs.size (LamO h'.objs.size c' (X.env.qual ++ "<lambda>") params body scope cl) b = some o := fun b o e => by rw [upd_ne (ne_of_none e hfa)]; exact e
    refine ⟨.ref h'.objs.size, upd H h'.objs.size (LamO h'.objs.size c' (X.env.qual ++ "<lambda>") params body scope cl), I.laid (t' := tk) (fun b u e => Heap.get?_push_of_some _ (hx b u e)) hsz ?_, rfl, h _ c' cl _ own hfa upd_same (same _ _ hc') ⟨ps, same _ _ hT, ht, .inr ⟨c', hf, same _ _ hc'⟩⟩ fun b o _ e => same b o e⟩
    exact ⟨⟨_, _, Heap.get?_push_size _ rfl⟩, ⟨_, Heap.get?_push_size _ rfl⟩, fun h1 h3 ⟨pm, cv, e1⟩ k => ⟨pm, cv, k _ e1⟩⟩
end
end L2
namespace L2
open PySem PySem.Spec PyProof.Rows PySem.W PySem.Calls
noncomputable def addC (h : Heap) (H : Hp) : List (Str × Addr) → List V → Hp
  | q :: cl, v :: vs => upd (addC h H cl vs) q.2 (.frz ((h.get? q.2).getD { cls := .none, data := .plain }) (CelO q.2 v))
  | _, _ => H
theorem addC_out {h : Heap} {H : Hp} {b : Addr} : ∀ {cl : List (Str × Addr)} {vs : List V}, (∀ q ∈ cl, q.2 ≠ b) → addC h H cl vs b = H b
  | [], _, _ => rfl
  | _ :: _, [], _ => rfl
  | q :: cl, v :: vs, n => by
    show upd _ _ _ b = _
    rw [upd_ne (Ne.symm (n q List.mem_cons_self))]
    exact addC_out fun q' hq => n q' (List.mem_cons_of_mem _ hq)
theorem addC_at {h : Heap} {H : Hp} : ∀ {cl : List (Str × Addr)} {vs : List V}, (cl.Pairwise fun x y => x.2 ≠ y.2) → cl.length = vs.length → ∀ (i : Nat) q, cl[i]? = some q → ∃ v, vs[i]? = some v ∧ addC h H cl vs q.2 = some (.frz ((h.get? q.2).getD { cls := .none, data := .plain }) (CelO q.2 v))
  | [], _, _, _, i, q, e => by simp at e
  | _ :: _, [], _, l, _, _, _ => by simp at l
  | a :: cl, v :: vs, pw, l, 0, q, e => by
    cases (Option.some.inj e)
    exact ⟨v, rfl, upd_same⟩
  | a :: cl, v :: vs, pw, l, i + 1, q, e => by
    have e : cl[i]? = some q := by simpa using e
    obtain ⟨u, e1, e2⟩ := addC_at (List.pairwise_cons.mp pw).2 (by simpa using l) i q e
    refine ⟨u, by simpa using e1, ?_⟩
    show upd _ _ _ _ = _
    rw [upd_ne (Ne.symm ((List.pairwise_cons.mp pw).1 q (List.mem_of_getElem? e)))]
    exact e2
def tCalF (ec : List (Str × Addr)) (fv : List Str) (js : List Nat) (sp : Sp) (t : TA) : TE := fun σ H Q => t σ H fun vs H1 => ∃ vcs : List V, js.map (fun j => σ[j]?) = vcs.map (fun v => some (some v)) ∧
  ∀ cl H2, OwnCl ec fv cl → (∀ q ∈ cl, H1 q.2 = none) → CelAt H2 cl vcs → (∀ b, (∀ q ∈ cl, q.2 ≠ b) → H2 b = H1 b) → sp vs H2 (fun v H' => Q v (minC H' cl)) E0
section
variable {X : Cx} {k : Nat} {x : Str} {ps : List Str} {sp : Sp} {p pos : Pos} {e : Expr} {es : List Expr} {t : TA} {fv : List Str} {js : List Nat} {cl : List (Str × Addr)}
end
theorem Fun.okT {P : Program} {w : World} {K : PySem.W.Frag} {mg : Str → Option Value} {base : Heap} {x qual : Str} {st : Stmt} {f c : Addr} {fd : FuncData} {N ps : List Str} {k : Nat} {sp : Sp} (F : Fun K x qual st f fd) (hcd : fd.code = .ref c) (S : FnScope N ps (defScope st)) (len : ∀ vs H Q E, sp vs H Q E → vs.length = ps.length)
    (hbody : ∀ (A : Around) (outer : List Env) (s : Shared) (H : Hp) (vs : List V) (Q : VK) (E : XK), Room k (A.deeper (envOfC qual (defScope st) s.heap.objs.size f (.ref c))) → sp vs H Q E →
      ∃ t, PSs (cxOf CX0 P w K mg base N qual (defScope st) f (.ref c) A outer s H E).nox (defBody st) t ∧ t { nx := fun _ H' => Q .non H', rt := Q } (start N vs) H) : FnOk P w K mg base CX0 (k + 1) f fd ps sp := by
  obtain ⟨oc, od, kV, doc, pm, an, cdv, ct, osl, rfl, lk, hc⟩ := F.ex
  obtain rfl : cdv = .ref c := hcd
  refine fn_of lk hc S len fun A outer s H vs Q E hr hsp => ?_
  obtain ⟨t, h, q⟩ := hbody A outer s H vs Q E hr hsp
  exact ⟨t, h.nox, q⟩
end L2
namespace L2
open PySem PySem.Spec PyProof.Rows PySem.W PySem.Calls
theorem law_callT {P : Program} {w : World} {K : PySem.W.Frag} {mg mb : Str → Option Value} {CX : CXT} {k : Nat} {fa a : Addr} {fd : FuncData} {x : Str} {sp : Sp} {s₁ : Shared} {vs : List Value} {ns : List Int} (tbs : List (Addr × Addr))
    (hT : TabsAt tbs s₁.heap) (hK0 : noTabs K = true) (hbm : ∃ bm ob, mg "__builtins__" = some (.ref bm) ∧ bm ≠ builtinsNs ∧ s₁.heap.get? bm = some ob ∧ ob.cls = .type "module" ∧ ob.dict = some builtinsNs ∧ ob.data = .plain)
    (KX : K.In s₁.heap) (hns : s₁.heap.Ns mainGlobals mg) (hb : s₁.heap.Ns builtinsNs mb) (hbb : ∀ x : Str, x ≠ "__name__" → mb x = bootBuiltins x) (hlim : s₁.heap.NoLimit) (hg : s₁.gens = #[])
    (ha : s₁.heap.get? a = some { cls := .type "list", data := .seq vs.toArray }) (hi : IntsAre vs ns) (hl : ns.length ≤ sizeLine) (hr : Room k callerA)
    (F : ∀ base : Heap, K.In base → base.Ns mainGlobals mg → (∀ q ∈ tbs, TabF base mg q.1 q.2) → FnOk P w K mg base CX k fa fd [x] sp) (hbind : ∀ (s : Shared) (u : Value), BindsTo s fd ⟨[u], []⟩ [(x, u)])
    (hsp : ∀ H : Hp, (∀ q ∈ tbs, H q.2 = some (.tbl #[])) → SqL K H a (ns.map V.int) → sp [.ref a] H (fun v _ => v = .bl true) fun _ _ _ => False)
    (hCX : ∀ H e s', CX [] H s₁ (fun _ _ _ => False) e s' → False) :
    codeAny (model P w) callerA (.call (.ref fa) ⟨[.ref a], []⟩) (fun r s' => r = .ok (.ret (.bool true)) ∧ OldK s₁.heap s'.heap ∧ s'.os = s₁.os ∧ AllBare s'.gens) s₁ := by
  have rv := vals_ints hi
  have lenV := hi.length
  have tab : ∀ q ∈ tbs, s₁.heap.get? q.2 = some (tabObj #[]) := fun q hq => (hT q hq).2
  have naT : ∀ q ∈ tbs, q.2 ≠ a := fun q hq z => by
    have e := tab q hq
    rw [z, ha] at e; cases e
  have kT : ∀ q ∈ tbs, K.lookup q.2 = none := fun q hq => by
    cases e : K.lookup q.2 with
    | none => rfl
    | some o =>
      have e1 := KX _ _ e
      rw [tab q hq] at e1
      have h2 := List.all_eq_true.mp hK0 (q.2, o) (mem_of_lookupK e)
      cases e1
      exact absurd (show false = true from h2) Bool.false_ne_true
  have core : ∀ H : Hp, (∀ q ∈ tbs, H q.2 = some (.tbl #[])) → (∀ b, H b = none ∨ (∃ o xs, H b = some (.frz o (.lst xs))) ∨ ∃ q ∈ tbs, q.2 = b) → SqL K H a (ns.map V.int) → HOk P w H s₁.heap → (∀ b, H b ≠ none → b = a ∨ ∃ q ∈ tbs, q.2 = b) → (H a ≠ none → K.lookup a = none) →
      codeAny (model P w) callerA (.call (.ref fa) ⟨[.ref a], []⟩) (fun r s' => r = .ok (.ret (.bool true)) ∧ OldK s₁.heap s'.heap ∧ s'.os = s₁.os ∧ AllBare s'.gens) s₁ := by
    intro H hH hO hS hok hA hK
    have base_of : ∀ {b : Addr} {o : Obj}, s₁.heap.get? b = some o → H b = none → (hidT s₁.heap H).get? b = some o := fun e n => hidT_get e n
    have noA : ∀ {b : Addr} {o : Obj}, s₁.heap.get? b = some o → o ≠ { cls := .type "list", data := .seq vs.toArray } → o ≠ tabObj #[] → H b = none := fun {b o} e n1 n2 => by
      cases q : H b with
      | none => rfl
      | some u =>
        rcases hA b (by rw [q]; simp) with z | ⟨p, hp, z⟩
        · subst z; rw [ha] at e; cases e; exact absurd rfl n1
        · subst z; rw [tab p hp] at e; cases e; exact absurd rfl n2
    have nsK : ∀ {b : Addr} {m : Str → Option Value}, s₁.heap.Ns b m → (hidT s₁.heap H).Ns b m := fun {b m} ⟨o, es, ep, e, d, r⟩ => ⟨o, es, ep, base_of e (noA e (fun z => by rw [z] at d; cases d) (fun z => by rw [z] at d; cases d)), d, r⟩
    have hKb : K.In (hidT s₁.heap H) := fun b o e => base_of (KX b o e) (by
      cases q : H b with
      | none => rfl
      | some u =>
        rcases hA b (by rw [q]; simp) with z | ⟨p, hp, z⟩
        · subst z; rw [hK (by rw [q]; simp)] at e; cases e
        · subst z; rw [kT p hp] at e; cases e)
    have hM : Mod K mg (hidT s₁.heap H) := ⟨hKb, nsK hns, ⟨mb, nsK hb, hbb⟩, let ⟨mc, h1, h2⟩ := hlim; ⟨mc, nsK h1, h2⟩⟩
    have e0 : Env0 P w K mg (hidT s₁.heap H) callerA [] s₁ H := ⟨rfl, hM, fun b o e => of_hidT e, Nat.le_of_eq (hidT_size _ _), trivial, fun b hb => absurd (show b ∈ ([] : List Addr) from hb) (by simp), hok, .of_eq hg⟩
    have tf : ∀ q ∈ tbs, TabF (hidT s₁.heap H) mg q.1 q.2 := fun q hq => by
      obtain ⟨o, vs', file, tf, flags, tg, inF, text, tt, e1, r1, r2⟩ := (hT q hq).1
      obtain ⟨bm, ob, b1, b2, b3, b4, b5, b6⟩ := hbm
      have bmT : bm ≠ q.2 := fun z => by rw [z, tab q hq] at b3; cases b3; cases b4
      have bmG : bm ≠ mainGlobals := fun z => by
        obtain ⟨o, es, ep, e, d, _⟩ := hns
        rw [← z, b3] at e; cases e; rw [b6] at d; cases d
      have gT : mainGlobals ≠ q.2 := fun z => by
        obtain ⟨o, es, ep, e, d, _⟩ := hns
        rw [z, tab q hq] at e; cases e; cases d
      refine ⟨⟨o, vs', file, tf, flags, tg, inF, text, tt, base_of e1 (noA e1 (fun z => by rw [z] at r1; exact absurd (show Value.type "list" = Value.type "code" from r1) (by decide)) (fun z => by rw [z] at r1; cases r1)), r1, r2⟩, ?_, ⟨bm, ob, b1, b2, bmG, bmT, base_of b3 (noA b3 (fun z => by rw [z] at b4; exact absurd (show Value.type "list" = Value.type "module" from b4) (by decide)) (fun z => by rw [z] at b4; cases b4)), b4, b5, b6⟩, gT⟩
      cases e : (hidT s₁.heap H).get? q.2 with
      | none => rfl
      | some o => have := (of_hidT e).2; rw [hH q hq] at this; cases this
    refine codeAny_mono ((F _ hKb (nsK hns) tf).run callerA [] s₁ H ⟨[.ref a], []⟩ [.ref a] [.ref a] _ _ hr e0 (hbind s₁ (.ref a)) (.cons rfl .nil) (hsp H hH hS)) fun r s' h => ?_
    cases r with
    | error e => exact (hCX H e s' h).elim
    | ok fl =>
      cases fl with
      | next => exact False.elim h
      | brk => exact False.elim h
      | cont => exact False.elim h
      | ret u =>
        obtain ⟨v, H', os, bare, un, hok', r', q⟩ := h
        have q' : v = .bl true := q
        subst q'
        obtain rfl : u = Value.bool true := r'
        refine ⟨rfl, ⟨fun b o e => ?_, fun b o e => un.there b o e (by simp)⟩, os, bare⟩
        rcases hO b with z | ⟨ob, xs, z⟩ | ⟨p, hp, z⟩
        · exact .inl (un.keep b o e z (by intro z; exact absurd (show b ∈ ([] : List Addr) from z) (by simp)) (by simp))
        · have z2 := un.frzs b ob _ z
          obtain ⟨e1, _⟩ := hok b _ z
          obtain ⟨e2, _⟩ := hok' b _ z2
          rw [e] at e1; cases e1
          exact .inl e2
        · subst z
          obtain ⟨more, z2⟩ := un.tbls p.2 #[] (hH p hp)
          have e2 : s'.heap.get? p.2 = some (tabObj (#[] ++ more)) := hok' _ _ z2
          have e1 := tab p hp
          rw [e] at e1; cases e1
          obtain ⟨o, vs', file, tf, flags, tg, inF, text, tt, c1, c2, c3, c4, _⟩ := (hT p hp).1
          exact .inr (.inl ⟨⟨p.1, o, vs', c1, c2, c3, c4⟩, rfl, #[], more, rfl, e2⟩)
  have withT : ∀ H : Hp, (∀ b, H b = none ∨ ∃ o xs, H b = some (.frz o (.lst xs))) → SqL K H a (ns.map V.int) → HOk P w H s₁.heap → (∀ b, H b ≠ none → b = a) → (H a ≠ none → K.lookup a = none) →
      codeAny (model P w) callerA (.call (.ref fa) ⟨[.ref a], []⟩) (fun r s' => r = .ok (.ret (.bool true)) ∧ OldK s₁.heap s'.heap ∧ s'.os = s₁.os ∧ AllBare s'.gens) s₁ := by
    intro H hO hS hok hA hK
    have inT : ∀ q ∈ tbs, (fun b => if (tbs.any fun q => q.2 == b) = true then some (HO.tbl #[]) else H b) q.2 = some (.tbl #[]) := fun q hq => if_pos (List.any_eq_true.mpr ⟨q, hq, by simp⟩)
    have split : ∀ b, (∃ q ∈ tbs, q.2 = b) ∨ (fun b => if (tbs.any fun q => q.2 == b) = true then some (HO.tbl #[]) else H b) b = H b := fun b => by
      by_cases c : (tbs.any fun q => q.2 == b) = true
      · obtain ⟨q, hq, e⟩ := List.any_eq_true.mp c
        exact .inl ⟨q, hq, eq_of_beq e⟩
      · exact .inr (if_neg c)
    have aT : (fun b => if (tbs.any fun q => q.2 == b) = true then some (HO.tbl #[]) else H b) a = H a := by
      rcases split a with ⟨q, hq, z⟩ | z
      · exact absurd z (naT q hq)
      · exact z
    generalize (fun b => if (tbs.any fun q => q.2 == b) = true then some (HO.tbl #[]) else H b) = G at *
    have noneT : ∀ q ∈ tbs, H q.2 = none := fun q hq => by
      cases e : H q.2 with
      | none => rfl
      | some u => exact absurd (hA q.2 (by rw [e]; simp)) (naT q hq)
    refine core G inT (fun b => ?_) ?_ (fun b o e => ?_) (fun b n => ?_) (fun n => hK (by rw [← aT]; exact n))
    · rcases split b with z | z
      · exact .inr (.inr z)
      · rw [z]; rcases hO b with y | y
        · exact .inl y
        · exact .inr (.inl y)
    · rcases hS with (z | ⟨o, z⟩) | z
      · exact .inl (.inl (by rw [aT]; exact z))
      · exact .inl (.inr ⟨o, by rw [aT]; exact z⟩)
      · exact .inr z
    · rcases split b with ⟨q, hq, z⟩ | z
      · subst z; rw [inT q hq] at e; cases e; exact tab q hq
      · rw [z] at e
        rcases hO b with y | ⟨ob, xs, y⟩
        · rw [y] at e; cases e
        · rw [y] at e; cases e
          obtain ⟨e1, l, its, n, r, e2⟩ := hok b _ y
          exact ⟨e1, l, its, n, r, e2⟩
    · rcases split b with z | z
      · exact .inr z
      · rw [z] at n; exact .inl (hA b n)
  cases hk : K.lookup a with
  | some o =>
    have e := KX a o hk
    rw [ha] at e
    cases e
    refine withT (fun _ => none) (fun _ => .inl rfl) (.inr ⟨_, vs.toArray, _, hk, rfl, rfl, rfl, by rw [List.size_toArray, lenV]; exact hl, by simpa using rv⟩) (fun b u z => by have z' : (none : Option HO) = some u := z; cases z') (fun b z => absurd rfl z) fun z => absurd rfl z
  | none =>
    refine withT (fun b => if b = a then some (.frz { cls := .type "list", data := .seq vs.toArray } (.lst (ns.map V.int))) else none) (fun b => ?_) (.inl (.inr ⟨{ cls := .type "list", data := .seq vs.toArray }, if_pos rfl⟩)) (fun b u z => ?_) (fun b z => ?_) fun _ => hk
    · by_cases hb : b = a
      · exact .inr ⟨_, _, if_pos hb⟩
      · exact .inl (if_neg hb)
    · by_cases hb : b = a
      · have z' := (if_pos hb).symm.trans z
        cases z'
        subst hb
        exact ⟨ha, by rw [List.length_map]; exact hl, vs, _, rv, ha⟩
      · have z' := (if_neg hb).symm.trans z
        cases z'
    · by_cases hb : b = a
      · exact hb
      · exact absurd (if_neg hb) z
theorem tabIn_of {K : PySem.W.Frag} {x : Str} {f c T : Addr} {oc oc2 : Value} {od od2 : Option Addr} {fd : FuncData} {sl sl2 : Array (Option Value)} {vs : Array Value} (h1 : nsIn K mainGlobals x = some (some (.ref f))) (h2 : K.lookup f = some ⟨oc, od, .func fd, sl⟩) (h3 : fd.code = .ref c) (h4 : K.lookup c = some ⟨oc2, od2, .fields vs, sl2⟩) (h5 : vs[11]? = some (.ref T)) : tabIn K x = some (c, T) := by
  unfold tabIn
  simp only [h1, h2, h3, h4, h5]
theorem walk_ofT {l : PySem.W.OpenLaw} {n k : Nat} {q : Program} {loose : List Str} {XP : (Str → Option Value) → Heap → Prop} {YP : World → Heap → Prop} {d : DefRec} {K : Params → PySem.W.Frag} {CX : World → CXT} {sp : World → List Addr → Sp} {x : Str}
    (hn : l.most = some n) (hn2 : n ≤ sizeLine) (hdf : d.params.defaults = []) (hr : Room k callerA)
    (hY : ∀ (w : World) (h : Heap), YP w h → (K w.params).In h) (hK0 : ∀ w : World, noTabs (K w.params) = true)
    (F : ∀ (w : World) (mg : Str → Option Value) (fa : Addr) (h : Heap), (K w.params).In h → h.Ns mainGlobals mg → mg d.name = some (.ref fa) →
      ∃ (fd : FuncData) (tbs : List (Str × Addr × Addr)), (∀ p ∈ tbs, tabIn (K w.params) p.1 = some p.2 ∧ ((recsOf q).find? fun e => e.name == p.1).isSome = true) ∧ (∀ (s : Shared) (u : Value), BindsTo s fd ⟨[u], []⟩ [(x, u)]) ∧
        ∀ base : Heap, (K w.params).In base → base.Ns mainGlobals mg → (∀ p ∈ tbs, TabF base mg p.2.1 p.2.2) → FnOk l.prog w (K w.params) mg base (CX w) k fa fd [x] (sp w (tbs.map fun p => p.2.2)))
    (hsp : ∀ (w : World) (H : Hp) (a : Addr) (ns : List Int) (ts : List Addr), ns.length ≤ n → (∀ T ∈ ts, H T = some (.tbl #[])) → SqL (K w.params) H a (ns.map V.int) → sp w ts [.ref a] H (fun v _ => v = .bl true) fun _ _ _ => False)
    (hCX : ∀ (w : World) (H : Hp) (s : Shared) (e : Value) (s' : Shared), CX w [] H s (fun _ _ _ => False) e s' → False) :
    PySem.W.WalkO q loose XP YP l.row.toRowW d [] (fun f vs => PySem.call f vs) := by
  refine Att.attach_call hn hdf fun w s₀ s₁ mg mb fa o pm cd doc a vs ns G Y ho hd hcd hmg hobj hints hlen hg => ?_
  have KX := hY w _ Y
  obtain ⟨fd, tbs, ht, hb, hF⟩ := F w mg fa _ KX G.T.g hmg
  have hT : TabsAt (tbs.map (·.2)) s₁.heap := fun p hp => by
    obtain ⟨t, htm, rfl⟩ := List.mem_map.mp hp
    obtain ⟨h1, h2⟩ := ht t htm
    obtain ⟨d', hd'⟩ := Option.isSome_iff_exists.mp h2
    exact tab_of G.T KX hd' (show tabIn (K w.params) t.1 = some (t.2.1, t.2.2) from h1)
  refine law_callT (tbs.map (·.2)) hT (hK0 w) G.T.bmain KX G.T.g G.T.b G.T.builtins G.T.nolimit hg hobj hints (Nat.le_trans hlen hn2) hr (fun base kb nb tf => hF base kb nb fun p hp => tf p.2 (List.mem_map.mpr ⟨p, hp, rfl⟩)) hb (fun H hH hS => hsp w H a ns _ hlen (fun T hT => ?_) hS) fun H e s' => hCX w H s₁ e s'
  obtain ⟨t, htm, rfl⟩ := List.mem_map.mp hT
  exact hH t.2 (List.mem_map.mpr ⟨t, htm, rfl⟩)
end L2
namespace L2
open PySem PySem.Spec PyProof.Rows PySem.W PySem.Calls
def DefO (fa c' : Addr) (name qual : Str) (params : Arguments) (body : List Stmt) (scope : Scope) (cl : List (Str × Addr)) : HO := .ext fun h => ∃ doc pm ctv, h.get? fa = some (fnMade name qual params body scope cl doc pm c' ctv)
theorem FnV.dfn {H : Hp} {fa c' : Addr} {name qual : Str} {params : Arguments} {body : List Stmt} {scope : Scope} {cl : List (Str × Addr)} (h : H fa = some (DefO fa c' name qual params body scope cl)) : FnV H fa := ⟨_, h, fun _ ⟨_, _, _, e⟩ => ⟨_, _, _, _, e⟩⟩
section
variable {X : Cx} {params : Arguments} {scope : Scope} {pos : Pos} {fv : List Str} {c T : Addr} {cl : List (Str × Addr)}
theorem mk_def {name qual : Str} {body : List Stmt} {pins : List (Addr × Obj)} {s : Shared} {σ : St} {H : Hp} {Q : VK} (I : Inv X pins σ H s) (hcode : X.env.code = .ref c) (TF : TabF X.base X.mg c T) (hcl : closureFor scope X.env = pure cl) (own : OwnCl X.env.cells fv cl)
    (h : TabOk H T pos qual ∧ ∀ fa c' cl H2, OwnCl X.env.cells fv cl → H fa = none → H2 fa = some (DefO fa c' name qual params body scope cl) → H2 c' = some (CodO c' qual) → TabOk H2 T pos qual → (∀ b o, b ≠ T → H b = some o → H2 b = some o) → Q (.ref fa) H2) :
    wpAny (model X.prog X.w) X.A (makeFunction name qual params (.stmts body) scope X.env [] [] [] pos pos.line) (EP X pins σ Q) X.xe s := by
  obtain ⟨⟨ps, hT, ht, hz⟩, h⟩ := h
  have eT : s.heap.get? T = some (tabObj ps) := I.hok _ _ hT
  have hg : s.heap.Ns mainGlobals X.mg := I.mod.glob.keeps I.bk
  obtain ⟨bm, ob, b1, b2, b3, b4, b5, b6⟩ := TF.blt
  have hb : s.heap.BuiltinsAt X.mg T := ⟨bm, ob, b1, b2, b3, b4, I.bk _ _ b5, b6⟩
  have C : CodeHd s.heap c T := TF.hd.keeps I.bk
  rcases hz with hnf | ⟨c', hf, hc'⟩
  · refine makeFunction_K hcl I.ok.glob hg hcode C eT ht hnf TF.ne hb fun c' ctv doc h' tk hx hge hlt hrec htb => ?_
    have hfa : H h'.objs.size = none := I.hok.fresh (Nat.le_of_lt (Nat.lt_of_le_of_lt hge hlt))
    have hc0 : H c' = none := I.hok.fresh hge
    have nTc : c' ≠ T := fun z => by rw [z, hT] at hc0; cases hc0
    have nTf : h'.objs.size ≠ T := fun z => by rw [z, hT] at hfa; cases hfa
    have ncf : c' ≠ h'.objs.size := Nat.ne_of_lt hlt
    have old : ∀ b o, b ≠ T → s.heap.get? b = some o → (h'.push (fnMade name qual params body scope cl doc ((X.mg "__name__").getD .none) c' ctv)).get? b = some o := fun b o n e => Heap.get?_push_of_some _ (hx b o n e)
    have eP : (h'.push (fnMade name qual params body scope cl doc ((X.mg "__name__").getD .none) c' ctv)).get? T = some (tabObj (ps ++ #[rawInt pos.line, rawInt pos.col, .ref c'])) := Heap.get?_push_of_some _ htb
    have eF : (h'.push (fnMade name qual params body scope cl doc ((X.mg "__name__").getD .none) c' ctv)).get? h'.objs.size = some (fnMade name qual params body scope cl doc ((X.mg "__name__").getD .none) c' ctv) := Heap.get?_push_size _ rfl
    have eC : (h'.push (fnMade name qual params body scope cl doc ((X.mg "__name__").getD .none) c' ctv)).CodeRec (.ref c') qual := codeRec_stay hrec fun o e => Heap.get?_push_of_some _ e
    generalize h'.push (fnMade name qual params body scope cl doc ((X.mg "__name__").getD .none) c' ctv) = h2 at *
    generalize h'.objs.size = fa at *
    have lowT : ∀ b o, s.heap.get? b = some o → b ≠ c' ∧ (H b = none → b ≠ T) := fun b o e => ⟨Nat.ne_of_lt (Nat.lt_of_lt_of_le (Heap.lt_size e) hge), fun n z => by rw [z, hT] at n; cases n⟩
    have lowF : ∀ b o, s.heap.get? b = some o → b ≠ fa := fun b o e => Nat.ne_of_lt (Nat.lt_trans (Nat.lt_of_lt_of_le (Heap.lt_size e) hge) hlt)
    have out : ∀ b, b ≠ T → b ≠ c' → b ≠ fa → upd (upd (upd H T (.tbl (ps ++ #[rawInt pos.line, rawInt pos.col, .ref c']))) c' (CodO c' qual)) fa (DefO fa c' name qual params body scope cl) b = H b := fun b n1 n2 n3 => by rw [upd_ne n3, upd_ne n2, upd_ne n1]
    have trk : ∀ b o, H b = some o → b ≠ c' ∧ b ≠ fa := fun b o e => ⟨(fun z => by rw [z, hc0] at e; cases e), (fun z => by rw [z, hfa] at e; cases e)⟩
    have HT : upd (upd (upd H T (.tbl (ps ++ #[rawInt pos.line, rawInt pos.col, .ref c']))) c' (CodO c' qual)) fa (DefO fa c' name qual params body scope cl) T = some (.tbl (ps ++ #[rawInt pos.line, rawInt pos.col, .ref c'])) := by rw [upd_ne nTf.symm, upd_ne nTc.symm, upd_same]
    have HC : upd (upd (upd H T (.tbl (ps ++ #[rawInt pos.line, rawInt pos.col, .ref c']))) c' (CodO c' qual)) fa (DefO fa c' name qual params body scope cl) c' = some (CodO c' qual) := by rw [upd_ne ncf, upd_same]
    have HF : upd (upd (upd H T (.tbl (ps ++ #[rawInt pos.line, rawInt pos.col, .ref c']))) c' (CodO c' qual)) fa (DefO fa c' name qual params body scope cl) fa = some (DefO fa c' name qual params body scope cl) := upd_same
    generalize upd (upd (upd H T (.tbl (ps ++ #[rawInt pos.line, rawInt pos.col, .ref c']))) c' (CodO c' qual)) fa (DefO fa c' name qual params body scope cl) = H2 at *
    have same : ∀ b o, b ≠ T → H b = some o → H2 b = some o := fun b o n e => by rw [out b n (trk b o e).1 (trk b o e).2]; exact e
    have un : Un X.fs [] H H2 s.heap h2 := ⟨fun b o e n _ _ => old b o ((lowT b o e).2 n) e, fun b o e n _ _ => ⟨o.slots, old b o ((lowT b o e).2 n) e⟩, fun b o e n _ => by rw [out b ((lowT b o e).2 n) (lowT b o e).1 (lowF b o e)]; exact n, fun b o e _ => by
      by_cases z : b = T
      · rw [z]; exact ⟨_, eP⟩
      · exact ⟨o, old b o z e⟩, fun b xs e => same b _ (fun z => by rw [z, hT] at e; cases e) e, fun b o u e => same b _ (fun z => by rw [z, hT] at e; cases e) e, fun b qs e => by
      by_cases z : b = T
      · subst z; rw [hT] at e; cases e; exact ⟨_, HT⟩
      · exact ⟨#[], by rw [same b _ z e]; simp⟩⟩
    have hok : HOk X.prog X.w H2 h2 := fun b o e => by
      by_cases zf : b = fa
      · subst zf; rw [HF] at e; cases e
        exact ⟨⟨_, _, _, eF⟩, ⟨_, eF⟩, fun h1 h3 ⟨dc, pm, cv, e1⟩ k => ⟨dc, pm, cv, k _ e1⟩⟩
      · by_cases zc : b = c'
        · subst zc; rw [HC] at e; cases e
          obtain ⟨c2, o2, vs2, t2, e2, ho2, r2⟩ := id eC
          cases e2
          exact ⟨eC, ⟨_, ho2⟩, fun h1 h3 x k => codeRec_stay x k⟩
        · by_cases zT : b = T
          · subst zT; rw [HT] at e; cases e
            exact eP
          · rw [out b zT zc zf] at e
            refine (I.hok b o e).stay (fun d u hd q => old d u (fun z => ?_) q) (fun d q => same d _ (fun z => by rw [z, hT] at q; cases q) q) fun d xs q => same d _ (fun z => by rw [z, hT] at q; cases q) q
            rcases hd with hd | hd
            · exact zT (hd.symm.trans z)
            · rw [z, hT] at hd; cases hd
    exact ⟨.ref fa, H2, I.un un hok, rfl, h fa c' cl H2 own hfa HF HC ⟨_, HT, by simpa using triples_snoc ps.toList ht, .inr ⟨c', by simpa using codeAmong_snoc ps.toList ht hnf, HC⟩⟩ same⟩
  · refine makeFunction_hit hcl I.ok.glob hg hcode C eT ht hf hb fun ctv doc h' tk hx hsz => ?_
    have hfa : H h'.objs.size = none := I.hok.fresh hsz
    have same : ∀ b o, H b = some o → upd H h'.objs.size (DefO h'.objs.size c' name qual params body scope cl) b = some o := fun b o e => by rw [upd_ne (ne_of_none e hfa)]; exact e
    refine ⟨.ref h'.objs.size, upd H h'.objs.size (DefO h'.objs.size c' name qual params body scope cl), I.laid (t' := tk) (fun b u e => Heap.get?_push_of_some _ (hx b u e)) hsz ?_, rfl, h _ c' cl _ own hfa upd_same (same _ _ hc') ⟨ps, same _ _ hT, ht, .inr ⟨c', hf, same _ _ hc'⟩⟩ fun b o _ e => same b o e⟩
    exact ⟨⟨_, _, _, Heap.get?_push_size _ rfl⟩, ⟨_, Heap.get?_push_size _ rfl⟩, fun h1 h3 ⟨dc, pm, cv, e1⟩ k => ⟨dc, pm, cv, k _ e1⟩⟩
def tDef (ec : List (Str × Addr)) (fv : List Str) (T : Addr) (pos : Pos) (i : Nat) (name qual : Str) (params : Arguments) (body : List Stmt) (scope : Scope) : TS := fun D σ H => TabOk H T pos qual ∧
  ∀ fa c' cl H2, OwnCl ec fv cl → H fa = none → H2 fa = some (DefO fa c' name qual params body scope cl) → H2 c' = some (CodO c' qual) → TabOk H2 T pos qual → (∀ b o, b ≠ T → H b = some o → H2 b = some o) → D.nx (σ.set i (some (.ref fa))) H2
theorem ps_def {i : Nat} {name qual : Str} {body : List Stmt} (hN : X.N.Nodup) (hi : X.N[i]? = some name) (hx : Loc X.env.scope name) (hq : qualnameIn X.env name name = qual) (hcode : X.env.code = .ref c) (TF : TabF X.base X.mg c T) (hcl : closureFor scope X.env = pure cl) (own : OwnCl X.env.cells fv cl)
    (hd0 : params.defaults = []) (hk0 : params.kw_defaults = []) (ha : annTrees params none X.env = []) (hf : X.fn name = true ∨ X.env.scope.names.lookup name = some .local := by first | exact .inl rfl | exact .inr rfl) :
    PS X (.FunctionDef name params body [] none [] scope none name pos) (tDef X.env.cells fv T pos i name qual params body scope) := by
  intro pins s σ H D I h
  refine nestDef_K hd0 hk0 ha ?_
  rw [hq]
  refine thn (mk_def (Q := fun v H2 => ∃ fa, v = .ref fa ∧ D.nx (σ.set i (some (.ref fa))) H2) I hcode TF hcl own ⟨h.1, fun fa c' cl H2 o1 n1 a1 a2 a3 a4 => ⟨fa, rfl, h.2 fa c' cl H2 o1 n1 a1 a2 a3 a4⟩⟩) fun u s1 ⟨v, H2, J, r, fa, e, q⟩ => ?_
  subst e
  exact store_ok J hN hi hx r (fun s2 J2 => ⟨_, H2, J2, q⟩) hf
end
end L2
namespace L2
open PySem PySem.Spec PyProof.Rows PySem.W PySem.Calls
theorem pe_calVK {X : Cx} {P : Program} {w : World} {K : PySem.W.Frag} {mg : Str → Option Value} {base : Heap} {k i : Nat} {x : Str} {p pos : Pos} {e : Expr} {es : List Expr} {t : TA} (e1 : X.prog = P) (e2 : X.w = w) (e3 : X.K = K) (e4 : X.mg = mg) (e5 : X.base = base) (hr : Room k X.A) (hN : X.N[i]? = some x) (hv : Vis X.env.scope x) (ha : PA X (e :: es) t)
    (hd : (x == ("__debug__" : Str)) = false := by decide) (hcd : (x == ("__classdict__" : Str)) = false := by decide)
    (he : starEach (e :: es) X.env = (false, eval e X.env) :: starEach es X.env := by rfl) (hpl : (backTo pos (starEach es X.env)).any (·.1) = false := by rfl) :
    PE X (.Call (.Name x p) (e :: es) [] pos) (tCalV P w K mg base k i t) := by
  subst e1 e2 e3 e4 e5
  exact pe_calV hr hN hv ha hd hcd he hpl
theorem CallV.mono {P : Program} {w : World} {K : PySem.W.Frag} {mg : Str → Option Value} {base : Heap} {j k : Nat} {fa : Addr} {vs : List V} {H : Hp} {Q : VK} (h : CallV P w K mg base j fa vs H Q) (l : j ≤ k) : CallV P w K mg base k fa vs H Q :=
  fun A outer s us hr e0 r => h A outer s us (hr.mono l) e0 r
end L2
namespace L2
open PySem PySem.Spec PyProof.Rows
def LoopE (K : PySem.W.Frag) (g : TG) (tb : TS) (D : Ends) (σ : St) (v : V) (H1 : Hp) : Prop := ∃ a xs, v = .ref a ∧ SqT K H1 a xs ∧ ∃ W : Nat → Nat → St → Hp → Prop, (∃ m, W 0 m σ H1) ∧ ∀ i m σ H, W i m σ H →
  ((Ite K a).stop i H ∧ D.nx σ H) ∨ ((Ite K a).go i H ∧ ∃ N : St → Hp → Prop, (∀ σ' H', N σ' H' → ∃ m', m' < m ∧ W (i + 1) m' σ' H') ∧ ∀ x H', (Ite K a).yld i H x H' → g x σ H' fun σ2 H2 => tb { D with nx := N, ct := N, bk := D.nx } σ2 H2)
theorem for_eqE {K : PySem.W.Frag} {te : TE} {g : TG} {tb : TS} {D : Ends} {σ : St} {H : Hp} : tFor (iEnum K te) g tb D σ H = te σ H fun v H1 => LoopE K g tb D σ v H1 := rfl
theorem LoopE.mk {K : PySem.W.Frag} {a : Addr} {xs : List V} {g : TG} {tb : TS} {D : Ends} {σ : St} {H : Hp} (h1 : SqT K H a xs) (Pv : Nat → St → Hp → Prop) (h0 : Pv 0 σ H) (hl : ∀ i σ H, i ≤ xs.length → Pv i σ H → SqT K H a xs)
    (hs : ∀ i x σ H T, xs[i]? = some x → Pv i σ H → H T = none → g (.ref T) σ (upd H T (.tup [.int i, x])) fun σ2 H2 => tb { D with nx := Pv (i + 1), ct := Pv (i + 1), bk := D.nx } σ2 H2) (hd : ∀ σ H, Pv xs.length σ H → D.nx σ H) :
    LoopE K g tb D σ (.ref a) H := by
  refine ⟨a, xs, rfl, h1, fun i m σ H => m = xs.length - i ∧ i ≤ xs.length ∧ Pv i σ H, ⟨_, rfl, Nat.zero_le _, h0⟩, ?_⟩
  rintro i m σ H ⟨rfl, hi, p⟩
  have k1 := hl i σ H hi p
  by_cases hlt : i < xs.length
  · refine .inr ⟨⟨xs, _, k1, List.getElem?_eq_getElem hlt⟩, Pv (i + 1), fun σ' H' p' => ⟨xs.length - (i + 1), by omega, rfl, hlt, p'⟩, fun v H' yy => ?_⟩
    obtain ⟨T, x, rfl, hT, rfl, ex⟩ := yy
    exact hs i x σ H T (ex xs k1) p hT
  · have e : i = xs.length := by omega
    exact .inl ⟨⟨xs, k1, by omega⟩, hd σ H (e ▸ p)⟩
section
variable {X : Cx}
def rIndex (K : PySem.W.Frag) : V → List V → Hp → VK → Prop := fun x ys H Q => ∃ a xs y j, x = .ref a ∧ ys = [y] ∧ SqL K H a xs ∧ xs.all flatV = true ∧ flatV y = true ∧ (∃ z, xs[j]? = some z ∧ eqV z y = true) ∧ (∀ m z, m < j → xs[m]? = some z → eqV z y = false) ∧ Q (.int (j : Nat)) H
end
end L2
namespace L2
open PySem PySem.Spec PyProof.Rows
section
variable {X : Cx}
def rIndexT : V → List V → Hp → VK → Prop := fun x ys H Q => ∃ a o xs y j, x = .ref a ∧ ys = [y] ∧ H a = some (.frz o (.tup xs)) ∧ xs.all flatV = true ∧ flatV y = true ∧ (∃ z, xs[j]? = some z ∧ eqV z y = true) ∧ (∀ m z, m < j → xs[m]? = some z → eqV z y = false) ∧ Q (.int (j : Nat)) H
end
end L2
namespace L2
open PySem PySem.Spec PyProof.Rows
section
variable {pg : Program} {wd : World} {B : Around} {X0 : Value → Shared → Prop} {s0 : Shared}
end
def ItzN (K : PySem.W.Frag) (a b : Addr) : It := ⟨fun i H => ∃ xs ys x y, SqT K H a xs ∧ SqL K H b ys ∧ xs[i]? = some x ∧ ys[i]? = some y,
  fun i H v H' => ∃ T x y, v = .ref T ∧ H T = none ∧ H' = upd H T (.tup [x, y]) ∧ ∀ xs ys, SqT K H a xs → SqL K H b ys → xs[i]? = some x ∧ ys[i]? = some y, fun i H => ∃ xs ys, SqT K H a xs ∧ SqL K H b ys ∧ (xs.length ≤ i ∨ ys.length ≤ i)⟩
section
variable {X : Cx} {es : List Expr} {x1 : Nat} {pp : Pos}
def iZipN (K : PySem.W.Frag) (ta : TA) : TI := fun σ H R => ta σ H fun vs H1 => ∃ a b xs ys, vs = [.ref a, .ref b] ∧ SqT K H1 a xs ∧ SqL K H1 b ys ∧ R (ItzN K a b) H1
end
def LoopZN (K : PySem.W.Frag) (g : TG) (tb : TS) (D : Ends) (σ : St) (vs : List V) (H1 : Hp) : Prop := ∃ a b xs ys, vs = [.ref a, .ref b] ∧ SqT K H1 a xs ∧ SqL K H1 b ys ∧ ∃ W : Nat → Nat → St → Hp → Prop, (∃ m, W 0 m σ H1) ∧ ∀ i m σ H, W i m σ H →
  ((ItzN K a b).stop i H ∧ D.nx σ H) ∨ ((ItzN K a b).go i H ∧ ∃ N : St → Hp → Prop, (∀ σ' H', N σ' H' → ∃ m', m' < m ∧ W (i + 1) m' σ' H') ∧ ∀ x H', (ItzN K a b).yld i H x H' → g x σ H' fun σ2 H2 => tb { D with nx := N, ct := N, bk := D.nx } σ2 H2)
theorem for_eqZN {K : PySem.W.Frag} {ta : TA} {g : TG} {tb : TS} {D : Ends} {σ : St} {H : Hp} : tFor (iZipN K ta) g tb D σ H = ta σ H fun vs H1 => LoopZN K g tb D σ vs H1 := rfl
theorem LoopZN.mk {K : PySem.W.Frag} {a b : Addr} {xs ys : List V} {g : TG} {tb : TS} {D : Ends} {σ : St} {H : Hp} (n : Nat) (hn : n = min xs.length ys.length) (h1 : SqT K H a xs) (h2 : SqL K H b ys) (Pv : Nat → St → Hp → Prop) (h0 : Pv 0 σ H) (hl : ∀ i σ H, i ≤ n → Pv i σ H → SqT K H a xs ∧ SqL K H b ys)
    (hs : ∀ i x y σ H T, i < n → xs[i]? = some x → ys[i]? = some y → Pv i σ H → H T = none → g (.ref T) σ (upd H T (.tup [x, y])) fun σ2 H2 => tb { D with nx := Pv (i + 1), ct := Pv (i + 1), bk := D.nx } σ2 H2) (hd : ∀ σ H, Pv n σ H → D.nx σ H) :
    LoopZN K g tb D σ [.ref a, .ref b] H := by
  subst hn
  refine ⟨a, b, xs, ys, rfl, h1, h2, fun i m σ H => m = min xs.length ys.length - i ∧ i ≤ min xs.length ys.length ∧ Pv i σ H, ⟨_, rfl, Nat.zero_le _, h0⟩, ?_⟩
  rintro i m σ H ⟨rfl, hi, p⟩
  obtain ⟨k1, k2⟩ := hl i σ H hi p
  by_cases hlt : i < min xs.length ys.length
  · have l1 : i < xs.length := by omega
    have l2 : i < ys.length := by omega
    refine .inr ⟨⟨xs, ys, _, _, k1, k2, List.getElem?_eq_getElem l1, List.getElem?_eq_getElem l2⟩, Pv (i + 1), fun σ' H' p' => ⟨min xs.length ys.length - (i + 1), by omega, rfl, hlt, p'⟩, fun v H' yy => ?_⟩
    obtain ⟨T, x, y, rfl, hT, rfl, ex⟩ := yy
    obtain ⟨ex1, ex2⟩ := ex xs ys k1 k2
    exact hs i x y σ H T hlt ex1 ex2 p hT
  · have e : i = min xs.length ys.length := by omega
    exact .inl ⟨⟨xs, ys, k1, k2, by omega⟩, hd σ H (e ▸ p)⟩
def CompZN (K : PySem.W.Frag) (k : Nat) (js : List Nat) (g : TG) (te : TE) (σ : St) (vs : List V) (H1 : Hp) (Q : VK) : Prop := ∃ a b xs ys, vs = [.ref a, .ref b] ∧ SqT K H1 a xs ∧ SqL K H1 b ys ∧ ∃ W : Nat → Nat → List V → St → Hp → Prop, (∃ m, W 0 m [] (compSt k js σ) H1) ∧ ∀ i m zs σ' H', W i m zs σ' H' →
    ((ItzN K a b).stop i H' ∧ ∀ p, H' p = none → Q (.ref p) (upd H' p (.lst zs))) ∨
    ((ItzN K a b).go i H' ∧ zs.length < sizeLine ∧ ∃ N : List V → St → Hp → Prop, (∀ zs σ2 H2, N zs σ2 H2 → ∃ m', m' < m ∧ W (i + 1) m' zs σ2 H2) ∧ ∀ x H2, (ItzN K a b).yld i H' x H2 → g x σ' H2 fun σ3 H3 => te σ3 H3 fun v H4 => N (zs ++ [v]) σ3 H4)
theorem comp_eqZN {K : PySem.W.Frag} {k : Nat} {js : List Nat} {ta : TA} {g : TG} {te : TE} {σ : St} {H : Hp} {Q : VK} : tComp (iZipN K ta) k js g te σ H Q = ta σ H fun vs H1 => CompZN K k js g te σ vs H1 Q := rfl
theorem CompZN.mk {K : PySem.W.Frag} {a b : Addr} {xs ys : List V} {k : Nat} {js : List Nat} {g : TG} {te : TE} {Q : VK} {σ : St} {H : Hp} (n : Nat) (hn : n = min xs.length ys.length) (h1 : SqT K H a xs) (h2 : SqL K H b ys) (Pv : Nat → List V → St → Hp → Prop) (h0 : Pv 0 [] (compSt k js σ) H) (hl : ∀ i zs σ H, i ≤ n → Pv i zs σ H → SqT K H a xs ∧ SqL K H b ys)
    (hs : ∀ i x y zs σ H T, i < n → xs[i]? = some x → ys[i]? = some y → Pv i zs σ H → H T = none → zs.length < sizeLine ∧ g (.ref T) σ (upd H T (.tup [x, y])) fun σ3 H3 => te σ3 H3 fun v H4 => Pv (i + 1) (zs ++ [v]) σ3 H4) (hz : ∀ zs σ H, Pv n zs σ H → ∀ p, H p = none → Q (.ref p) (upd H p (.lst zs))) (hlen : ∀ i zs σ H, Pv i zs σ H → zs.length < sizeLine) :
    CompZN K k js g te σ [.ref a, .ref b] H Q := by
  subst hn
  refine ⟨a, b, xs, ys, rfl, h1, h2, fun i m zs σ H => m = min xs.length ys.length - i ∧ i ≤ min xs.length ys.length ∧ Pv i zs σ H, ⟨_, rfl, Nat.zero_le _, h0⟩, ?_⟩
  rintro i m zs σ H ⟨rfl, hi, p⟩
  obtain ⟨k1, k2⟩ := hl i zs σ H hi p
  by_cases hlt : i < min xs.length ys.length
  · have l1 : i < xs.length := by omega
    have l2 : i < ys.length := by omega
    refine .inr ⟨⟨xs, ys, _, _, k1, k2, List.getElem?_eq_getElem l1, List.getElem?_eq_getElem l2⟩, hlen _ _ _ _ p, Pv (i + 1), fun zs' σ' H' p' => ⟨min xs.length ys.length - (i + 1), by omega, rfl, hlt, p'⟩, fun v H' yy => ?_⟩
    obtain ⟨T, x, y, rfl, hT, rfl, ex⟩ := yy
    obtain ⟨ex1, ex2⟩ := ex xs ys k1 k2
    exact (hs i x y zs σ H T hlt ex1 ex2 p hT).2
  · have e : i = min xs.length ys.length := by omega
    exact .inl ⟨⟨xs, ys, k1, k2, by omega⟩, hz zs σ H (e ▸ p)⟩
end L2
namespace L2
open PySem PySem.Spec PyProof.Rows
structure Apart6 (z ti ox j1 j2 j3 t1 t2 t3 : Addr) : Prop where
  ti_z : ti ≠ z
  ox_z : ox ≠ z
  j1_z : j1 ≠ z
  j2_z : j2 ≠ z
  j3_z : j3 ≠ z
  ti_ox : ti ≠ ox
  ti_j1 : ti ≠ j1
  ti_j2 : ti ≠ j2
  ti_j3 : ti ≠ j3
  ox_j1 : ox ≠ j1
  ox_j2 : ox ≠ j2
  ox_j3 : ox ≠ j3
  j12 : j1 ≠ j2
  j13 : j1 ≠ j3
  j23 : j2 ≠ j3
  t1_z : t1 ≠ z
  t2_z : t2 ≠ z
  t2_ox : t2 ≠ ox
  t2_j1 : t2 ≠ j1
  t3_z : t3 ≠ z
  t3_ox : t3 ≠ ox
  t3_j1 : t3 ≠ j1
  t3_j2 : t3 ≠ j2
section
variable {pg : Program} {wd : World} {B : Around} {X0 : Value → Shared → Prop} {s0 : Shared}
end
def Itz3 (K : PySem.W.Frag) (a b c : Addr) : It := ⟨fun i H => ∃ xs ys zs x y z, SqT K H a xs ∧ SqT K H b ys ∧ SqT K H c zs ∧ xs[i]? = some x ∧ ys[i]? = some y ∧ zs[i]? = some z,
  fun i H v H' => ∃ T x y z, v = .ref T ∧ H T = none ∧ H' = upd H T (.tup [x, y, z]) ∧ ∀ xs ys zs, SqT K H a xs → SqT K H b ys → SqT K H c zs → xs[i]? = some x ∧ ys[i]? = some y ∧ zs[i]? = some z, fun i H => ∃ xs, SqT K H a xs ∧ xs.length ≤ i⟩
section
variable {X : Cx} {es : List Expr} {x1 : Nat} {pp : Pos}
def iZip3 (K : PySem.W.Frag) (ta : TA) : TI := fun σ H R => ta σ H fun vs H1 => ∃ a b c xs ys zs, vs = [.ref a, .ref b, .ref c] ∧ SqT K H1 a xs ∧ SqT K H1 b ys ∧ SqT K H1 c zs ∧ R (Itz3 K a b c) H1
end
def CompZ3 (K : PySem.W.Frag) (k : Nat) (js : List Nat) (g : TG) (te : TE) (σ : St) (vs : List V) (H1 : Hp) (Q : VK) : Prop := ∃ a b c xs ys zs, vs = [.ref a, .ref b, .ref c] ∧ SqT K H1 a xs ∧ SqT K H1 b ys ∧ SqT K H1 c zs ∧ ∃ W : Nat → Nat → List V → St → Hp → Prop, (∃ m, W 0 m [] (compSt k js σ) H1) ∧ ∀ i m zs σ' H', W i m zs σ' H' →
    ((Itz3 K a b c).stop i H' ∧ ∀ p, H' p = none → Q (.ref p) (upd H' p (.lst zs))) ∨
    ((Itz3 K a b c).go i H' ∧ zs.length < sizeLine ∧ ∃ N : List V → St → Hp → Prop, (∀ zs σ2 H2, N zs σ2 H2 → ∃ m', m' < m ∧ W (i + 1) m' zs σ2 H2) ∧ ∀ x H2, (Itz3 K a b c).yld i H' x H2 → g x σ' H2 fun σ3 H3 => te σ3 H3 fun v H4 => N (zs ++ [v]) σ3 H4)
theorem comp_eqZ3 {K : PySem.W.Frag} {k : Nat} {js : List Nat} {ta : TA} {g : TG} {te : TE} {σ : St} {H : Hp} {Q : VK} : tComp (iZip3 K ta) k js g te σ H Q = ta σ H fun vs H1 => CompZ3 K k js g te σ vs H1 Q := rfl
theorem CompZ3.mk {K : PySem.W.Frag} {a b c : Addr} {xs ys zs : List V} {k : Nat} {js : List Nat} {g : TG} {te : TE} {Q : VK} {σ : St} {H : Hp} (n : Nat) (hn : n = xs.length) (hy : ys.length = n) (hz : zs.length = n) (h1 : SqT K H a xs) (h2 : SqT K H b ys) (h3 : SqT K H c zs) (Pv : Nat → List V → St → Hp → Prop) (h0 : Pv 0 [] (compSt k js σ) H) (hl : ∀ i us σ H, i ≤ n → Pv i us σ H → SqT K H a xs ∧ SqT K H b ys ∧ SqT K H c zs)
    (hs : ∀ i x y z us σ H T, i < n → xs[i]? = some x → ys[i]? = some y → zs[i]? = some z → Pv i us σ H → H T = none → g (.ref T) σ (upd H T (.tup [x, y, z])) fun σ3 H3 => te σ3 H3 fun v H4 => Pv (i + 1) (us ++ [v]) σ3 H4) (hd : ∀ us σ H, Pv n us σ H → ∀ p, H p = none → Q (.ref p) (upd H p (.lst us))) (hlen : ∀ i us σ H, Pv i us σ H → us.length < sizeLine) :
    CompZ3 K k js g te σ [.ref a, .ref b, .ref c] H Q := by
  subst hn
  refine ⟨a, b, c, xs, ys, zs, rfl, h1, h2, h3, fun i m us σ H => m = xs.length - i ∧ i ≤ xs.length ∧ Pv i us σ H, ⟨_, rfl, Nat.zero_le _, h0⟩, ?_⟩
  rintro i m us σ H ⟨rfl, hi, p⟩
  obtain ⟨k1, k2, k3⟩ := hl i us σ H hi p
  by_cases hlt : i < xs.length
  · refine .inr ⟨⟨xs, ys, zs, _, _, _, k1, k2, k3, List.getElem?_eq_getElem hlt, List.getElem?_eq_getElem (hy ▸ hlt), List.getElem?_eq_getElem (hz ▸ hlt)⟩, hlen _ _ _ _ p, Pv (i + 1), fun us' σ' H' p' => ⟨xs.length - (i + 1), by omega, rfl, hlt, p'⟩, fun v H' yy => ?_⟩
    obtain ⟨T, x, y, z, rfl, hT, rfl, ex⟩ := yy
    obtain ⟨ex1, ex2, ex3⟩ := ex xs ys zs k1 k2 k3
    exact hs i x y z us σ H T hlt ex1 ex2 ex3 p hT
  · have e : i = xs.length := by omega
    exact .inl ⟨⟨xs, k1, by omega⟩, hd us σ H (e ▸ p)⟩
end L2
namespace L2
open PySem PySem.Spec PyProof.Rows
def CompLI (K : PySem.W.Frag) (k : Nat) (js : List Nat) (g : TG) (tc : TT) (te : TE) (σ : St) (v : V) (H1 : Hp) (Q : VK) : Prop := ∃ a, v = .ref a ∧ (∃ xs, SqL K H1 a xs) ∧ ∃ W : Nat → Nat → List V → St → Hp → Prop, (∃ m, W 0 m [] (compSt k js σ) H1) ∧ ∀ i m zs σ' H', W i m zs σ' H' →
    ((Itl K a).stop i H' ∧ ∀ p, H' p = none → Q (.ref p) (upd H' p (.lst zs))) ∨
    ((Itl K a).go i H' ∧ zs.length < sizeLine ∧ ∃ N : List V → St → Hp → Prop, (∀ zs σ2 H2, N zs σ2 H2 → ∃ m', m' < m ∧ W (i + 1) m' zs σ2 H2) ∧ ∀ x H2, (Itl K a).yld i H' x H2 → g x σ' H2 fun σ3 H3 => tc σ3 H3 fun b H4 => if b = true then te σ3 H4 fun v H5 => N (zs ++ [v]) σ3 H5 else N zs σ3 H4)
theorem comp_eqLI {K : PySem.W.Frag} {k : Nat} {js : List Nat} {tx : TE} {g : TG} {tc : TT} {te : TE} {σ : St} {H : Hp} {Q : VK} : tCompI (iList K tx) k js g tc te σ H Q = tx σ H fun v H1 => CompLI K k js g tc te σ v H1 Q := rfl
theorem CompLI.mk {K : PySem.W.Frag} {a : Addr} {xs : List V} {k : Nat} {js : List Nat} {g : TG} {tc : TT} {te : TE} {Q : VK} {σ : St} {H : Hp} (h1 : SqL K H a xs) (Pv : Nat → List V → St → Hp → Prop) (h0 : Pv 0 [] (compSt k js σ) H) (hl : ∀ i zs σ H, i ≤ xs.length → Pv i zs σ H → SqL K H a xs ∧ zs.length < sizeLine)
    (hs : ∀ i x zs σ H, xs[i]? = some x → Pv i zs σ H → g x σ H fun σ3 H3 => tc σ3 H3 fun b H4 => if b = true then te σ3 H4 fun v H5 => Pv (i + 1) (zs ++ [v]) σ3 H5 else Pv (i + 1) zs σ3 H4) (hz : ∀ zs σ H, Pv xs.length zs σ H → ∀ p, H p = none → Q (.ref p) (upd H p (.lst zs))) :
    CompLI K k js g tc te σ (.ref a) H Q := by
  refine ⟨a, rfl, ⟨xs, h1⟩, fun i m zs σ H => m = xs.length - i ∧ i ≤ xs.length ∧ Pv i zs σ H, ⟨_, rfl, Nat.zero_le _, h0⟩, ?_⟩
  rintro i m zs σ H ⟨rfl, hi, p⟩
  obtain ⟨k1, k2⟩ := hl i zs σ H hi p
  by_cases hlt : i < xs.length
  · refine .inr ⟨⟨xs, _, k1, List.getElem?_eq_getElem hlt⟩, k2, Pv (i + 1), fun zs' σ' H' p' => ⟨xs.length - (i + 1), by omega, rfl, hlt, p'⟩, fun v H' yy => ?_⟩
    obtain ⟨rfl, ex⟩ := yy
    exact hs i v zs σ _ (ex xs k1) p
  · have e : i = xs.length := by omega
    exact .inl ⟨⟨xs, k1, by omega⟩, hz zs σ H (e ▸ p)⟩
def CompRI (lo : Int) (n k : Nat) (js : List Nat) (g : TG) (tc : TT) (te : TE) (σ : St) (H1 : Hp) (Q : VK) : Prop := ∃ W : Nat → Nat → List V → St → Hp → Prop, (∃ m, W 0 m [] (compSt k js σ) H1) ∧ ∀ i m zs σ' H', W i m zs σ' H' →
    ((Itr lo n).stop i H' ∧ ∀ p, H' p = none → Q (.ref p) (upd H' p (.lst zs))) ∨
    ((Itr lo n).go i H' ∧ zs.length < sizeLine ∧ ∃ N : List V → St → Hp → Prop, (∀ zs σ2 H2, N zs σ2 H2 → ∃ m', m' < m ∧ W (i + 1) m' zs σ2 H2) ∧ ∀ x H2, (Itr lo n).yld i H' x H2 → g x σ' H2 fun σ3 H3 => tc σ3 H3 fun b H4 => if b = true then te σ3 H4 fun v H5 => N (zs ++ [v]) σ3 H5 else N zs σ3 H4)
theorem comp_eqRI {k : Nat} {js : List Nat} {ta : TA} {g : TG} {tc : TT} {te : TE} {σ : St} {H : Hp} {Q : VK} : tCompI (iRng1 ta) k js g tc te σ H Q = ta σ H fun vs H1 => ∃ j : Int, vs = [.int j] ∧ -(2 ^ 62) ≤ j ∧ j < 2 ^ 62 ∧ CompRI 0 j.toNat k js g tc te σ H1 Q := rfl
theorem CompRI.mk {lo : Int} {n k : Nat} {js : List Nat} {g : TG} {tc : TT} {te : TE} {Q : VK} {σ : St} {H : Hp} (Pv : Nat → List V → St → Hp → Prop) (h0 : Pv 0 [] (compSt k js σ) H) (hl : ∀ i zs σ H, i ≤ n → Pv i zs σ H → zs.length < sizeLine)
    (hs : ∀ i zs σ H, i < n → Pv i zs σ H → g (.int (lo + i)) σ H fun σ3 H3 => tc σ3 H3 fun b H4 => if b = true then te σ3 H4 fun v H5 => Pv (i + 1) (zs ++ [v]) σ3 H5 else Pv (i + 1) zs σ3 H4) (hz : ∀ zs σ H, Pv n zs σ H → ∀ p, H p = none → Q (.ref p) (upd H p (.lst zs))) :
    CompRI lo n k js g tc te σ H Q := by
  refine ⟨fun i m zs σ H => m = n - i ∧ i ≤ n ∧ Pv i zs σ H, ⟨_, rfl, Nat.zero_le _, h0⟩, ?_⟩
  rintro i m zs σ H ⟨rfl, hi, p⟩
  by_cases hlt : i < n
  · refine .inr ⟨hlt, hl i zs σ H hi p, Pv (i + 1), fun zs' σ' H' p' => ⟨n - (i + 1), by omega, rfl, hlt, p'⟩, fun v H' yy => ?_⟩
    obtain ⟨rfl, rfl⟩ := yy
    exact hs i zs σ _ hlt p
  · have e : i = n := by omega
    exact .inl ⟨show n ≤ i by omega, hz zs σ H (e ▸ p)⟩
end L2
namespace L2
open PySem PySem.Spec PyProof.Rows PySem.W PySem.Calls
theorem Fun.okR {P : Program} {w : World} {K : PySem.W.Frag} {mg : Str → Option Value} {base : Heap} {x qual : Str} {st : Stmt} {f c : Addr} {fd : FuncData} {N ps : List Str} {k : Nat} {sp : Sp} (F : Fun K x qual st f fd) (hcd : fd.code = .ref c) (S : FnScope N ps (defScope st)) (len : ∀ vs H Q E, sp vs H Q E → vs.length = ps.length)
    {sd : Stmt} {er : Expr} {rpos : Pos} (hbd : defBody st = [sd, .Return (some er) rpos]) {fv : List Str} {js : List Nat} (hj : js.map (fun j => N[j]?) = fv.map some) (hk : ∀ n ∈ fv, (defScope st).names.lookup n = some .cell) (nd : fv.Nodup)
    (hbody : ∀ (A : Around) (outer : List Env) (s : Shared) (H : Hp) (vs : List V) (Q : VK) (E : XK), Room k (A.deeper (envOfC qual (defScope st) s.heap.objs.size f (.ref c))) → sp vs H Q E →
      ∃ ts te, PS (cxOf CX0 P w K mg base N qual (defScope st) f (.ref c) A outer s H E).nox sd ts ∧ PE (cxOf CX0 P w K mg base N qual (defScope st) f (.ref c) A outer s H E).nox er te ∧
        ts { nx := fun σ' H1 => te σ' H1 fun v H2 => ∃ (cl : List (Str × Addr)) (vcs : List V), OwnCl (cxOf CX0 P w K mg base N qual (defScope st) f (.ref c) A outer s H E).nox.env.cells fv cl ∧ js.map (fun j => σ'[j]?) = vcs.map (fun v => some (some v)) ∧
            ∀ H3, CelAt H3 cl vcs → (∀ b, (∀ q ∈ cl, q.2 ≠ b) → H3 b = H2 b) → (∀ q ∈ cl, H2 q.2 = none) → Q v H3, rt := fun _ _ => False } (start N vs) H) : FnOk P w K mg base CX0 (k + 1) f fd ps sp := by
  obtain ⟨oc, od, kV, doc, pm, an, cdv, ct, osl, rfl, lk, hc⟩ := F.ex
  obtain rfl : cdv = .ref c := hcd
  refine ⟨len, fun A outer s H args us vs Q E hr e0 hb r hsp => ?_⟩
  have hl := len _ _ _ _ hsp
  have KX : K.In s.heap := e0.mod.kin.keeps fun b o e => (e0.bs b o e).1
  have lim : s.heap.NoLimit := e0.mod.nolimit.keeps fun b o e => (e0.bs b o e).1
  have hkind : ∀ y ∈ ps.zip us, (defScope st).names.lookup y.1 = some .local ∨ ((defScope st).names.lookup y.1 = some .cell ∧ ((cellsFrom (s.heap.objs.size + 1) (defScope st).names []).lookup y.1).isSome = true) := fun ⟨n, v⟩ hy => by
    rcases S.par n (List.of_mem_zip hy).1 with q | q
    · exact .inl q
    · exact .inr ⟨q, PySem.W.cellsFrom_some _ _ _ (.inl q)⟩
  refine codeAny_call_function hr.depth (KX _ _ lk) rfl S.co S.gen rfl (PySem.W.codeRec_of KX hc) (hb _ _ _ _ ?_)
  refine wpAny_newFunctionEnv_cells S.kind hkind fun env he s1 x1 => ?_
  subst he
  refine ⟨lim.keeps x1.toInCall.keep, codeAny_func ?_⟩
  obtain ⟨ts, te, h1, h2, hq⟩ := hbody A outer s H vs Q E (hr.deeper _) hsp
  have I0 : Inv (cxOf CX0 P w K mg base N qual (defScope st) f (.ref c) A outer s H E) [] (start N vs) H s1 := inv_start S hr.hd e0 hl r x1
  have I : Inv (cxOf CX0 P w K mg base N qual (defScope st) f (.ref c) A outer s H E).nox [] (start N vs) H s1 := I0.wish _
  have fin : ∀ {cl : List (Str × Addr)} {vcs : List V} {σ' : St} {H2 : Hp} {v : V} {u : Value} {s' : Shared}, Inv (cxOf CX0 P w K mg base N qual (defScope st) f (.ref c) A outer s H E).nox [] σ' H2 s' → RelV v u → OwnCl (cxOf CX0 P w K mg base N qual (defScope st) f (.ref c) A outer s H E).nox.env.cells fv cl → js.map (fun j => σ'[j]?) = vcs.map (fun v => some (some v)) → (∀ H3, CelAt H3 cl vcs → (∀ b, (∀ q ∈ cl, q.2 ≠ b) → H3 b = H2 b) → (∀ q ∈ cl, H2 q.2 = none) → Q v H3) → CE outer P w H s Q u s' := by
    intro cl vcs σ' H2 v u s' J rv own hv q
    generalize hX : (cxOf CX0 P w K mg base N qual (defScope st) f (.ref c) A outer s H E).nox = X at *
    have eN : X.N = N := by rw [← hX]; rfl
    have esc : X.env.scope = defScope st := by rw [← hX]; rfl
    have efn : ∀ n, X.fn n = true := fun n => by rw [← hX]; rfl
    have es0 : X.s₀ = s := by rw [← hX]; rfl
    have epr : X.prog = P := by rw [← hX]; rfl
    have ew : X.w = w := by rw [← hX]; rfl
    have mfv : ∀ q ∈ cl, q.1 ∈ fv := fun q hq => by rw [← own.1]; exact List.mem_map.mpr ⟨q, hq, rfl⟩
    have free : ∀ q ∈ cl, H2 q.2 = none := fun q hq => J.freeC q.1 q.2 (own.2 q hq)
    have apart : cl.Pairwise fun x y => x.2 ≠ y.2 := by
      have nd' : (cl.map (·.1)).Nodup := by rw [own.1]; exact nd
      have ec := own.2
      clear own mfv free q
      induction cl with
      | nil => exact .nil
      | cons a r ih =>
        refine List.pairwise_cons.mpr ⟨fun y hy z => ?_, ih (List.nodup_cons.mp nd').2 (fun q hq => ec q (List.mem_cons_of_mem _ hq))⟩
        have := J.ok.inj a.1 y.1 a.2 (ec a List.mem_cons_self) (by rw [z]; exact ec y (List.mem_cons_of_mem _ hy))
        exact (List.nodup_cons.mp nd').1 (List.mem_map.mpr ⟨y, hy, this.symm⟩)
    have lf : js.length = fv.length := by have := congrArg List.length hj; simpa using this
    have lv : js.length = vcs.length := by have := congrArg List.length hv; simpa using this
    have lc : cl.length = fv.length := by rw [← own.1, List.length_map]
    have l : cl.length = vcs.length := by rw [lc, ← lf, lv]
    have holds : ∀ (i : Nat) q, cl[i]? = some q → ∃ v u, vcs[i]? = some v ∧ RelV v u ∧ s'.heap.IsCell q.2 (some u) := fun i q e => by
      have il : i < cl.length := (List.getElem?_eq_some_iff.mp e).1
      have ej := List.getElem?_eq_getElem (l := js) (i := i) (by omega)
      have ev := List.getElem?_eq_getElem (l := vcs) (i := i) (by omega)
      have en : X.N[js[i]'(by omega)]? = some q.1 := by
        have z := congrArg (fun l => l[i]?) hj
        simp only [List.getElem?_map, ej, Option.map_some] at z
        have y : fv[i]? = some q.1 := by rw [← own.1, List.getElem?_map, e]; rfl
        rw [y] at z
        rw [eN]
        exact Option.some.inj z
      have eσ : σ'[js[i]'(by omega)]? = some (some (vcs[i]'(by omega))) := by
        have z := congrArg (fun l => l[i]?) hv
        simp only [List.getElem?_map, ej, ev, Option.map_some] at z
        exact Option.some.inj z
      obtain ⟨m, _, lo⟩ := J.loc
      have kq : X.env.scope.names.lookup q.1 = some .cell := by rw [esc]; exact hk q.1 (mfv q (List.mem_of_getElem? e))
      obtain ⟨u, ru, lk⟩ := lo _ _ _ en eσ (.inr (.inl kq))
      refine ⟨_, u, ev, ru, ?_⟩
      rcases lk with ⟨k1, _⟩ | ⟨_, c, ec, ic⟩
      · have k1 : X.env.scope.names.lookup q.1 = some .local := k1
        rw [kq] at k1; cases k1
      · rw [own.2 q (List.mem_of_getElem? e)] at ec
        cases ec; exact ic
    have hat := addC_at (h := s'.heap) (H := H2) apart l
    have hC : CelAt (addC s'.heap H2 cl vcs) cl vcs := ⟨l, fun i q e => let ⟨v, e1, e2⟩ := hat i q e; ⟨v, _, e1, e2⟩, apart⟩
    have hout : ∀ b, (∀ q ∈ cl, q.2 ≠ b) → addC s'.heap H2 cl vcs b = H2 b := fun b n => addC_out n
    have split : ∀ b, (∃ q ∈ cl, q.2 = b) ∨ ∀ q ∈ cl, q.2 ≠ b := fun b => by
      by_cases c : ∃ q ∈ cl, q.2 = b
      · exact .inl c
      · exact .inr fun q hq e => c ⟨q, hq, e⟩
    have gobj : ∀ q ∈ cl, ∃ o v, addC s'.heap H2 cl vcs q.2 = some (.frz o (CelO q.2 v)) ∧ s'.heap.get? q.2 = some o ∧ ∃ u, RelV v u ∧ s'.heap.IsCell q.2 (some u) := fun q hq => by
      obtain ⟨i, e⟩ := List.mem_iff_getElem?.mp hq
      obtain ⟨v, e1, e2⟩ := hat i q e
      obtain ⟨v', u, e3, ru, ic⟩ := holds i q e
      rw [e1] at e3; cases e3
      obtain ⟨o, eo, d⟩ := id ic
      rw [eo] at e2
      exact ⟨o, v, e2, eo, u, ru, ic⟩
    have trk : ∀ b o, H2 b = some o → addC s'.heap H2 cl vcs b = some o := fun b o e => by
      rw [hout b fun q hq z => by rw [← z, free q hq] at e; cases e]; exact e
    have hok : HOk P w (addC s'.heap H2 cl vcs) s'.heap := fun b o e => by
      rcases split b with ⟨q, hq, rfl⟩ | hn
      · obtain ⟨o', v, e1, eo, u, ru, ic⟩ := gobj q hq
        rw [e1] at e; cases e
        exact ⟨eo, ⟨u, ru, ic⟩, ⟨_, eo⟩, fun h1 h2 ⟨u, ru, o2, e2, d2⟩ k => ⟨u, ru, o2, k _ e2, d2⟩⟩
      · rw [hout b hn] at e
        have z := J.hok b o e
        rw [epr, ew] at z
        exact z.stay (fun _ _ _ z => z) (fun d z => trk d _ z) fun d xs z => trk d _ z
    have abv : ∀ q ∈ cl, s.heap.objs.size ≤ q.2 := fun q hq => by rw [← es0]; exact J.ok.cab q.1 q.2 (efn q.1) (own.2 q hq)
    have un : Un (frs outer) [] H H2 s.heap s'.heap := by have z := J.base; rw [← hX] at z; exact z
    have low : ∀ b o, s.heap.get? b = some o → ∀ q ∈ cl, q.2 ≠ b := fun b o e q hq z => by
      have := Heap.lt_size e
      rw [← z] at this
      exact absurd this (Nat.not_lt_of_le (abv q hq))
    have os : s'.os = s.os := by rw [← es0]; exact J.os
    refine ⟨v, addC s'.heap H2 cl vcs, os, J.bare, ⟨un.keep, un.slot, fun b o e n hx => ?_, un.there, fun b xs e => trk b _ (un.tups b xs e), fun b o u e => trk b _ (un.frzs b o u e), fun b qs e => ?_⟩, hok, rv, q _ hC hout free⟩
    · rw [hout b (low b o e)]; exact un.free b o e n hx
    · obtain ⟨m, z⟩ := un.tbls b qs e
      exact ⟨m, trk b _ z⟩
  show wpAny _ _ (execs (defBody st) _) _ _ s1
  rw [hbd]
  refine wpAny_mono (Q := fun fl s' => ∃ u, fl = .ret u ∧ CE outer P w H s Q u s') (E := (cxOf CX0 P w K mg base N qual (defScope st) f (.ref c) A outer s H E).nox.xe) (wpAny_execs_cons (thn (h1 [] s1 (start N vs) H _ I hq) fun fl s2 h => ?_)) (fun fl s' ⟨u, e, h⟩ => ?_) fun e s' h => False.elim h
  · cases fl with
    | next =>
      obtain ⟨σ', H', J, q⟩ := h
      refine wpAny_execs_cons (wpAny_Return_some (thn (h2 [] s2 σ' H' _ J q) fun u s3 ⟨v, H2, J2, rv, cl, vcs, own, hv, q2⟩ => ?_))
      exact ⟨u, rfl, fin J2 rv own hv q2⟩
    | ret u => obtain ⟨_, _, _, _, _, q⟩ := h; exact False.elim q
    | brk => obtain ⟨_, _, _, q⟩ := h; exact False.elim q
    | cont => obtain ⟨_, _, _, q⟩ := h; exact False.elim q
  · subst e; exact h
end L2
namespace L2
open PySem PySem.Spec PyProof.Rows PySem.W PySem.Calls
theorem def_runF {P : Program} {w : World} {K : PySem.W.Frag} {mg : Str → Option Value} {base : Heap} {k : Nat} {N ps fv : List Str} {fa c' : Addr} {name qual : Str} {params : Arguments} {body : List Stmt} {scope : Scope} {cl : List (Str × Addr)} {vs vcs : List V} {H : Hp} {Q : VK} {ts : TS}
    (S : LmScope N ps fv scope) (hcl : cl.map (·.1) = fv)
    (hb : ∀ (doc pm ctv : Value) (us : List Value), us.length = ps.length → bindArgs (fnX name qual params body scope cl .none .none doc pm none (.ref c') ctv) ⟨us, []⟩ = pure (ps.zip us)) (hl : vs.length = ps.length)
    (L1 : H fa = some (DefO fa c' name qual params body scope cl)) (L2 : H c' = some (CodO c' qual)) (hc : CelAt H cl vcs)
    (hbody : ∀ (A : Around) (outer : List Env) (s : Shared), Room k (A.deeper (envX qual scope s.heap.objs.size fa (.ref c') (cellsFrom (s.heap.objs.size + 1) scope.names [] ++ cl))) → PSs (cxLam P w K mg base N qual scope fa (.ref c') cl A outer s (minC H cl)) body ts)
    (hq : ts { nx := fun _ H' => (∀ q ∈ cl, H' q.2 = none) → Q .non (resC H H' cl), rt := fun v H' => (∀ q ∈ cl, H' q.2 = none) → Q v (resC H H' cl) } (start N (vs ++ vcs)) (minC H cl)) : CallV P w K mg base (k + 1) fa vs H Q := by
  intro A outer s us hr e0 r
  obtain ⟨⟨doc, pm, ctv, ho⟩, _⟩ := e0.hok fa _ L1
  obtain ⟨hcd, _⟩ := e0.hok c' _ L2
  have lim : s.heap.NoLimit := e0.mod.nolimit.keeps fun b o e => (e0.bs b o e).1
  have hkind : ∀ y ∈ ps.zip us, scope.names.lookup y.1 = some .local ∨ (scope.names.lookup y.1 = some .cell ∧ ((cellsFrom (s.heap.objs.size + 1) scope.names []).lookup y.1).isSome = true) := fun ⟨n, v⟩ hy => by
    rcases S.par n (List.of_mem_zip hy).1 with q | q
    · exact .inl q
    · exact .inr ⟨q, PySem.W.cellsFrom_some _ _ _ (.inl q)⟩
  refine codeAny_call_function hr.depth ho rfl S.co S.gen rfl hcd ?_
  rw [hb doc pm ctv us (by rw [← r.length]; exact hl)]
  refine wpAny_pure (wpAny_newEnvX S.kind hkind fun env he s1 x => ?_)
  subst he
  refine ⟨lim.keeps x.toInCall.keep, codeAny_func ?_⟩
  have I : Inv (cxLam P w K mg base N qual scope fa (.ref c') cl A outer s (minC H cl)) [] (start N (vs ++ vcs)) (minC H cl) s1 := inv_lam S hr.hd e0 hl r hcl hc x
  refine wpAny_mono (hbody A outer s (hr.deeper _) [] s1 _ _ _ I hq) (fun fl s' hs => ?_) (fun e s' hs => False.elim hs)
  have fin : ∀ {v : V} {u : Value} {σ' : St} {H' : Hp}, Inv (cxLam P w K mg base N qual scope fa (.ref c') cl A outer s (minC H cl)) [] σ' H' s' → RelV v u → ((∀ q ∈ cl, H' q.2 = none) → Q v (resC H H' cl)) → CE outer P w H s Q u s' := ?_
  · cases fl with
    | ret u =>
      obtain ⟨v, σ', H', J, rv, q⟩ := hs
      exact fin J rv q
    | next =>
      obtain ⟨σ', H', J, q⟩ := hs
      exact fin (v := V.non) (u := Value.none) J rfl q
    | brk => obtain ⟨_, _, _, q⟩ := hs; exact False.elim q
    | cont => obtain ⟨_, _, _, q⟩ := hs; exact False.elim q
  intro v u σ' H' J rv q
  have un : Un (frs outer) [] (minC H cl) H' s.heap s'.heap := J.base
  have nfr : ∀ q ∈ cl, q.2 ∉ frs outer := fun q hq z => by
    obtain ⟨o, v, e⟩ := hc.mem hq
    rw [e0.frf _ z] at e; cases e
  have kc : ∀ q ∈ cl, ∀ o, s.heap.get? q.2 = some o → s'.heap.get? q.2 = some o ∧ H' q.2 = none := fun q hq o e => ⟨un.keep _ o e (minC_in hq) (nfr q hq) (by simp), un.free _ o e (minC_in hq) (by simp)⟩
  have there : ∀ q ∈ cl, ∃ o, s.heap.get? q.2 = some o := fun q hq => by
    obtain ⟨o, v, e⟩ := hc.mem hq
    exact ⟨o, (e0.hok _ _ e).1⟩
  have split : ∀ b, (∃ q ∈ cl, q.2 = b) ∨ ∀ q ∈ cl, q.2 ≠ b := fun b => by
    by_cases c : ∃ q ∈ cl, q.2 = b
    · exact .inl c
    · exact .inr fun q hq e => c ⟨q, hq, e⟩
  refine ⟨v, resC H H' cl, J.os, J.bare, ⟨fun b o e n hb hx => un.keep b o e (minC_none n) hb hx, fun b o e n hb hx => un.slot b o e (minC_none n) hb hx, fun b o e n hx => ?_, un.there, fun b xs e => ?_, fun b o u e => ?_, fun b ps e => ?_⟩, fun b o e => ?_, rv, q fun q0 h0 => let ⟨o, eo⟩ := there q0 h0; (kc q0 h0 o eo).2⟩
  · rcases split b with ⟨q, hq, rfl⟩ | hn
    · rw [resC_in hq]; exact n
    · rw [resC_out hn]; exact un.free b o e (minC_none n) hx
  · rcases split b with ⟨q, hq, rfl⟩ | hn
    · rw [resC_in hq]; exact e
    · rw [resC_out hn]; exact un.tups b xs (by rw [minC_out hn]; exact e)
  · rcases split b with ⟨q, hq, rfl⟩ | hn
    · rw [resC_in hq]; exact e
    · rw [resC_out hn]; exact un.frzs b o u (by rw [minC_out hn]; exact e)
  · rcases split b with ⟨q, hq, rfl⟩ | hn
    · obtain ⟨o, v, e2⟩ := hc.mem hq
      rw [e] at e2; cases e2
    · rw [resC_out hn]; exact un.tbls b ps (by rw [minC_out hn]; exact e)
  · rcases split b with ⟨q, hq, rfl⟩ | hn
    · rw [resC_in hq] at e
      obtain ⟨o2, v2, e2⟩ := hc.mem hq
      rw [e] at e2
      cases e2
      obtain ⟨g1, ⟨u2, ru, ic⟩, _, st⟩ := e0.hok _ _ e
      have k1 := (kc q hq _ g1).1
      refine ⟨k1, ⟨u2, ru, ?_⟩, ⟨_, k1⟩, st⟩
      obtain ⟨o3, e3, d3⟩ := ic
      rw [g1] at e3; cases e3
      exact ⟨_, k1, d3⟩
    · rw [resC_out hn] at e
      have nf : ∀ c u, H' c = some u → resC H H' cl c = some u := fun c u e2 => by
        rcases split c with ⟨q, hq, rfl⟩ | hn
        · obtain ⟨o, eo⟩ := there q hq
          rw [(kc q hq o eo).2] at e2; cases e2
        · rw [resC_out hn]; exact e2
      exact (J.hok b o e).stay (fun _ _ _ q => q) (fun c q => nf c _ q) fun c xs q => nf c _ q
end L2
namespace L2
open PySem PySem.Spec PyProof.Rows
section
variable {X : Cx}
def rNeDD : R2 := fun x y H Q => (∃ a, x = .ref a) ∧ AlkV H 101 x y ∧ Q (.bl false) H
theorem op_neDD (hu : X.A.units + 120 < cLine) : OpR X (compareOp .NotEq) rNeDD := by
  intro pins s σ H x y v u Q I rx ry h
  obtain ⟨⟨a, rfl⟩, h, q⟩ := h
  rcases h with ⟨f, _⟩ | ⟨a', b, xs, ys, e, rfl, h, hl, al⟩
  · simp [flatV] at f
  · cases e
    cases rx
    cases ry
    have fin : EP X pins σ Q (.bool false) s := ⟨.bl false, H, I, rfl, q⟩
    rcases h with ⟨h1, h2⟩ | ⟨h1, h2⟩
    · obtain ⟨us, r1, p1, _⟩ := I.list (.of h1)
      obtain ⟨ws, r2, p2, _⟩ := I.list (.of h2)
      refine SeqAt.RcNeAt.lists p1.isList p2.isList (e := fun _ => true) (by simp [← r1.length, ← r2.length, hl]) (by omega) (fun j k1 k2 => ?_) _ _ _ _ (by rw [all_true]; exact fin)
      obtain ⟨z, e1, rz⟩ := vals_at r1 k1
      obtain ⟨w, e2, rw⟩ := vals_at r2 k2
      exact eqAt_alk I 100 X.A.in1 z w _ _ (by show X.A.units + 1 + 100 < cLine; omega) (al j z w e1 e2) rz rw
    · obtain ⟨us, r1, p1, _⟩ := I.tuple (.of h1)
      obtain ⟨ws, r2, p2, _⟩ := I.tuple (.of h2)
      have e : (us.toArray.size == ws.toArray.size) = true := by simp [← r1.length, ← r2.length, hl]
      refine SeqAt.RcNeAt.tuples (show s.heap.IsTuple a us.toArray from p1) (show s.heap.IsTuple b ws.toArray from p2) (e := fun _ => true) (by omega) (fun j k1 k2 => ?_) _ _ _ _ (by rw [all_true, e]; exact fin)
      obtain ⟨z, e1, rz⟩ := vals_at r1 k1
      obtain ⟨w, e2, rw⟩ := vals_at r2 k2
      exact eqAt_alk I 100 X.A.in1 z w _ _ (by show X.A.units + 1 + 100 < cLine; omega) (al j z w e1 e2) rz rw
end
theorem hu120 {k : Nat} {A : Around} (r : Room k A) : A.units + 120 < cLine := by have := r.un; omega
end L2
namespace PySem.W.Fast
theorem tw17176387243203147225 : True := ⟨⟩
theorem tw2942028958902005243 : True := ⟨⟩
theorem tw17251704776036294484 : True := ⟨⟩
theorem tw10142182994911968145 : True := ⟨⟩
theorem tw4902214928861385576 : True := ⟨⟩
theorem tw6138375580050902325 : True := ⟨⟩
theorem tw3163324596764783193 : True := ⟨⟩
theorem tw18015183783355498564 : True := ⟨⟩
theorem tw16274582802383689933 : True := ⟨⟩
theorem tw17836835959943689544 : True := ⟨⟩
theorem tw8977497290577646834 : True := ⟨⟩
theorem tw12720087683636702102 : True := ⟨⟩
theorem tw1059853043707739312 : True := ⟨⟩
theorem tw9841491882431047085 : True := ⟨⟩
theorem tw6936133797529867778 : True := ⟨⟩
theorem tw14348530651491425724 : True := ⟨⟩
theorem tw5693199324101410579 : True := ⟨⟩
theorem tw1772232167776288013 : True := ⟨⟩
theorem tw11505893086385895757 : True := ⟨⟩
theorem tw1163799936165514460 : True := ⟨⟩
theorem tw14319175404159728049 : True := ⟨⟩
theorem tw3756230240844311344 : True := ⟨⟩
theorem tw11701784401539794621 : True := ⟨⟩
theorem tw253657642093991102 : True := ⟨⟩
theorem tw9133821535588539603 : True := ⟨⟩
theorem tw7754086301361787984 : True := ⟨⟩
theorem tw8470871504105410110 : True := ⟨⟩
theorem tw1401413057564226153 : True := ⟨⟩
theorem tw16984768482103408978 : True := ⟨⟩
theorem tw8178915791158128362 : True := ⟨⟩
theorem tw2935593726304040670 : True := ⟨⟩
theorem tw1308007578558979833 : True := ⟨⟩
theorem tw14605915144098993066 : True := ⟨⟩
theorem tw15815456624248009158 : True := ⟨⟩
theorem tw1326105932218791393 : True := ⟨⟩
theorem tw9988948217999757540 : True := ⟨⟩
theorem tw10623979431126724624 : True := ⟨⟩
theorem tw13269230534939707014 : True := ⟨⟩
theorem tw14212395768505970416 : True := ⟨⟩
theorem tw14765416551253081668 : True := ⟨⟩
theorem tw9523967939760699506 : True := ⟨⟩
theorem tw9289189808612243131 : True := ⟨⟩
theorem tw453231592014431966 : True := ⟨⟩
theorem tw15721111352490344159 : True := ⟨⟩
theorem tw2409710610289156396 : True := ⟨⟩
theorem tw13409669664000578812 : True := ⟨⟩
theorem tw14115902746512941143 : True := ⟨⟩
theorem tw11439658095821631750 : True := ⟨⟩
theorem tw7822601227324379023 : True := ⟨⟩
theorem tw17398428182855583162 : True := ⟨⟩
theorem tw16333895625707212080 : True := ⟨⟩
theorem tw14672870737339044400 : True := ⟨⟩
theorem tw6243172837709493506 : True := ⟨⟩
theorem tw16740013327189247333 : True := ⟨⟩
theorem tw3443986489164133484 : True := ⟨⟩
theorem tw2092530772408689743 : True := ⟨⟩
theorem tw8864703529258917832 : True := ⟨⟩
theorem tw16665626924521653002 : True := ⟨⟩
theorem tw31221626395437295 : True := ⟨⟩
theorem tw5511885493994610147 : True := ⟨⟩
theorem tw15866085381216636979 : True := ⟨⟩
theorem tw844562486783982730 : True := ⟨⟩
theorem tw15369223896510831029 : True := ⟨⟩
theorem tw13278296928920644644 : True := ⟨⟩
theorem tw6678186201358419603 : True := ⟨⟩
theorem tw1495831532218069862 : True := ⟨⟩
theorem tw2330582592532819395 : True := ⟨⟩
theorem tw9593841826996391726 : True := ⟨⟩
theorem tw16112212472399918746 : True := ⟨⟩
theorem tw6631446416713893646 : True := ⟨⟩
theorem tw16317593020341287764 : True := ⟨⟩
theorem tw13180173528084934017 : True := ⟨⟩
theorem tw3102935520763798884 : True := ⟨⟩
theorem tw4285517731579780720 : True := ⟨⟩
theorem tw7119554531641724844 : True := ⟨⟩
theorem tw5885558736602803241 : True := ⟨⟩
theorem tw902582427473712111 : True := ⟨⟩
theorem tw1436754685964685573 : True := ⟨⟩
theorem tw4175156996639821633 : True := ⟨⟩
theorem tw6699156853458334791 : True := ⟨⟩
theorem tw50840661138703765 : True := ⟨⟩
theorem tw16781350326437582954 : True := ⟨⟩
theorem tw6602658807117353339 : True := ⟨⟩
theorem tw17834440568961064458 : True := ⟨⟩
theorem tw7958444953041420269 : True := ⟨⟩
theorem tw9827907641374060717 : True := ⟨⟩
theorem tw3501779543786684746 : True := ⟨⟩
theorem tw18382470944901472964 : True := ⟨⟩
theorem tw14900265428316620530 : True := ⟨⟩
theorem tw10726481798455722929 : True := ⟨⟩
theorem tw12169518299707738255 : True := ⟨⟩
theorem tw13038317759375497496 : True := ⟨⟩
theorem tw17270720730919579657 : True := ⟨⟩
theorem tw5124909052162902509 : True := ⟨⟩
theorem tw4397194828298316168 : True := ⟨⟩
theorem tw8983949480240386379 : True := ⟨⟩
theorem tw14914589001013796337 : True := ⟨⟩
theorem tw6826267939796443892 : True := ⟨⟩
theorem tw7892762866938993568 : True := ⟨⟩
theorem tw15375609600018591652 : True := ⟨⟩
theorem tw6969992500118527322 : True := ⟨⟩
theorem tw3338450483627983893 : True := ⟨⟩
theorem tw1070663485941942863 : True := ⟨⟩
theorem tw17210256765374985968 : True := ⟨⟩
theorem tw16869858784531025641 : True := ⟨⟩
theorem tw4386796774257972335 : True := ⟨⟩
theorem tw1078663316679611859 : True := ⟨⟩
theorem tw7137687361837899687 : True := ⟨⟩
theorem tw11173833166883260317 : True := ⟨⟩
end PySem.W.Fast
namespace My
open PySem L2 PyProof.Rows
local macro_rules | `(tactic| wp_walk using $xs:term,*) => `(tactic| simp only [rPopAt, rCount, tBMf, rStarts, rSlStrX, tKTab, rKTab, tKIn, for_eqZM, comp_eqZM, comp_eqTI, gTup, rJoinD, rJoinW, rMulS, rIxQ, rExtend, rSplit, rInN, rMulC, tDGet1, tDIn, sDPut, tDNewK, rRep, rExtendT, rUpdate, rEqD, rNeD, for_eqQ, comp_eqQ, for_eqVL, tCalV, tLam, tCalF, tDef, for_eqE, rIndex, rIndexT, for_eqZN, comp_eqZN, comp_eqZ3, comp_eqLI, comp_eqRI, rNeDD, for_eqZL, comp_eqZL, rCatL, for_eqX, comp_eqX, rFind, tFR, rSlStr, rUpper, rJoin, tBM0, tBM, tyV, for_eqEL, tPop, rSlTA, comp_eqE, comp_eqEI, rNeT, rNeL, tRaise, tTry, tCallX, caughtBy, goneEnds, rCatA, rEqL, rEqT, for_eqV, for_eqZ, comp_eqZ, for_eqR3, comp_eqR3, rCatS, rSlTS, tSl, tNoPart, tPart, rSetL, gSub, rIxT, tRet, tRetN, tNext, tVar, tC, tOp, tUn, rI, rI0, rU, rEq, rNe, tTest, tB, tNot, tAnd, tOr, tAndV, tOrV, tNotV, tIf, tCall, tCB, tNil, tCons, tChain, tLst, tTup, tAsg, gName, tDrop, tNever, rIxL, rCat, CPow, CMul, CDiv, CDivN, CDivW, L2.start, scal, for_eqL, for_eqT, for_eqR1, for_eqR2, comp_eqL, comp_eqT, comp_eqR1, cxOf_K, cxComp_K, isi_ii, isi_ib, isi_bi, isi_bb, isi_it, tyS, tApp, gTupH, gCons, gNil, rInT, rInL, rIxLH, rIxTH, inV, eqV, flatV, upd_same, HO.lst.injEq, HO.tup.injEq, List.any_cons, List.any_nil, List.all_cons, List.all_nil, Bool.or_false, Bool.and_self, Bool.and_true, Bool.or_eq_true, beq_iff_eq, V.int.injEq, V.bl.injEq, V.str.injEq, V.ref.injEq, V.ty.injEq, List.map_cons, List.map_nil, List.length_cons, List.length_nil, List.cons_append, List.nil_append, List.getElem?_cons_zero, List.getElem?_cons_succ, Option.some.injEq, exists_eq_left', exists_eq_left, exists_and_left, List.cons.injEq, and_true, true_and, and_assoc, decide_eq_true_eq, List.set_cons_zero, List.set_cons_succ, List.replicate, Nat.sub_self, List.append_nil, Nat.add_sub_cancel, Nat.reduceAdd, Nat.reduceSub, Int.reduceLT, Int.reduceLE, Int.reduceNeg, Int.reduceSub, Int.reduceAdd, Int.reducePow, Int.reduceToNat, na2, na10, Nat.reducePow, Nat.reduceLT, if_true, if_false, Bool.not_true, Bool.not_false, Bool.false_eq_true, List.mem_cons, List.not_mem_nil, eq_self, true_or, or_true, or_false, false_or, String.reduceEq, Option.isSome_some, ne_eq, not_false_eq_true, not_true_eq_false, Bool.not_eq_true', decide_eq_false_iff_not, Bool.true_eq_false, $[$xs:term],*])
def top (i : Nat) : Stmt := PySem.Challenge.pw_sideloom_k49_trees_remade.main.body.getD i (.Pass ⟨0, 0, 0, 0⟩)
def wrapI (n : Int) : Int := (n + 9223372036854775808) % 18446744073709551616 - 9223372036854775808
def quoI (x y : Int) : Int := if y = 0 then 0 else wrapI (Int.fdiv x y)
def restI (x y : Int) : Int := if y = 0 then x else Int.fmod x y
def twiceI (w : Str) (x y : Int) : Int :=
  if w = "add" then wrapI (x + y) else if w = "sub" then wrapI (x - y) else if w = "mul" then wrapI (x * y) else if w = "quo" then quoI x y else if w = "rest" then restI x y
  else if w = "max" then (if x < y then y else x) else if w = "min" then (if y < x then y else x) else if w = "less" then (if x < y then 1 else 0) else if w = "like" then (if x = y then 1 else 0)
  else if w = "and" then Builtin.bitAnd x y else if w = "or" then Builtin.bitOr x y else Builtin.bitXor x y
theorem tw_add (x y : Int) : twiceI "add" x y = (wrapI (x + y)) := by unfold twiceI; rw [if_pos rfl]
theorem tw_sub (x y : Int) : twiceI "sub" x y = (wrapI (x - y)) := by unfold twiceI; rw [if_neg (by decide +kernel), if_pos rfl]
theorem tw_mul (x y : Int) : twiceI "mul" x y = (wrapI (x * y)) := by unfold twiceI; rw [if_neg (by decide +kernel), if_neg (by decide +kernel), if_pos rfl]
theorem tw_quo (x y : Int) : twiceI "quo" x y = (quoI x y) := by unfold twiceI; rw [if_neg (by decide +kernel), if_neg (by decide +kernel), if_neg (by decide +kernel), if_pos rfl]
theorem tw_rest (x y : Int) : twiceI "rest" x y = (restI x y) := by unfold twiceI; rw [if_neg (by decide +kernel), if_neg (by decide +kernel), if_neg (by decide +kernel), if_neg (by decide +kernel), if_pos rfl]
theorem tw_max (x y : Int) : twiceI "max" x y = (if x < y then y else x) := by unfold twiceI; rw [if_neg (by decide +kernel), if_neg (by decide +kernel), if_neg (by decide +kernel), if_neg (by decide +kernel), if_neg (by decide +kernel), if_pos rfl]
theorem tw_min (x y : Int) : twiceI "min" x y = (if y < x then y else x) := by unfold twiceI; rw [if_neg (by decide +kernel), if_neg (by decide +kernel), if_neg (by decide +kernel), if_neg (by decide +kernel), if_neg (by decide +kernel), if_neg (by decide +kernel), if_pos rfl]
theorem tw_less (x y : Int) : twiceI "less" x y = (if x < y then 1 else 0) := by unfold twiceI; rw [if_neg (by decide +kernel), if_neg (by decide +kernel), if_neg (by decide +kernel), if_neg (by decide +kernel), if_neg (by decide +kernel), if_neg (by decide +kernel), if_neg (by decide +kernel), if_pos rfl]
theorem tw_like (x y : Int) : twiceI "like" x y = (if x = y then 1 else 0) := by unfold twiceI; rw [if_neg (by decide +kernel), if_neg (by decide +kernel), if_neg (by decide +kernel), if_neg (by decide +kernel), if_neg (by decide +kernel), if_neg (by decide +kernel), if_neg (by decide +kernel), if_neg (by decide +kernel), if_pos rfl]
theorem tw_and (x y : Int) : twiceI "and" x y = (Builtin.bitAnd x y) := by unfold twiceI; rw [if_neg (by decide +kernel), if_neg (by decide +kernel), if_neg (by decide +kernel), if_neg (by decide +kernel), if_neg (by decide +kernel), if_neg (by decide +kernel), if_neg (by decide +kernel), if_neg (by decide +kernel), if_neg (by decide +kernel), if_pos rfl]
theorem tw_or (x y : Int) : twiceI "or" x y = (Builtin.bitOr x y) := by unfold twiceI; rw [if_neg (by decide +kernel), if_neg (by decide +kernel), if_neg (by decide +kernel), if_neg (by decide +kernel), if_neg (by decide +kernel), if_neg (by decide +kernel), if_neg (by decide +kernel), if_neg (by decide +kernel), if_neg (by decide +kernel), if_neg (by decide +kernel), if_pos rfl]
theorem tw_xor (x y : Int) : twiceI "xor" x y = (Builtin.bitXor x y) := by unfold twiceI; rw [if_neg (by decide +kernel), if_neg (by decide +kernel), if_neg (by decide +kernel), if_neg (by decide +kernel), if_neg (by decide +kernel), if_neg (by decide +kernel), if_neg (by decide +kernel), if_neg (by decide +kernel), if_neg (by decide +kernel), if_neg (by decide +kernel), if_neg (by decide +kernel)]
abbrev tw : List Str := ["add", "sub", "mul", "quo", "rest", "max", "min", "less", "like", "and", "or", "xor"]
def inB (x : Int) : Prop := -9223372036854775808 ≤ x ∧ x < 9223372036854775808
abbrev fw : List Str := ["add", "mul", "max", "min", "and", "or", "xor"]
def neuI (w : Str) : Int := if w = "mul" then 1 else if w = "max" then -9223372036854775808 else if w = "min" then 9223372036854775807 else if w = "and" then -1 else 0
theorem neu_in (w : Str) : inB (neuI w) := by
  unfold neuI inB
  repeat' split
  all_goals omega
theorem fw_tw {w : Str} (h : w ∈ fw) : w ∈ tw := by
  simp only [fw, tw, List.mem_cons, List.not_mem_nil, or_false] at *
  rcases h with h | h | h | h | h | h | h <;> simp [h]
def absI (x : Int) : Int := if x < 0 then -x else x
def onceI (w : Str) (x : Int) : Int := if w = "neg" then wrapI (-x) else if w = "abs" then wrapI (absI x) else if w = "sign" then (if x < 0 then -1 else if 0 < x then 1 else 0) else if x = 0 then 1 else 0
theorem once_in {w : Str} {x : Int} (hw : w ∈ (["neg", "abs", "sign", "not"] : List Str)) (h0 : -9223372036854775808 ≤ x) (h1 : x < 9223372036854775808) : -9223372036854775808 ≤ onceI w x ∧ onceI w x < 9223372036854775808 := by
  unfold onceI wrapI
  repeat' split
  all_goals omega
theorem len_map (ns : List Int) : (ns.map V.int).length = ns.length := List.length_map ..
theorem seq_with {A B : TS} {D : Ends} {σ : L2.St} {H : Hp} (J : L2.St → Hp → Prop) (h2 : ∀ σ H, J σ H → B D σ H) (h1 : ∀ R : L2.St → Hp → Prop, (∀ σ H, J σ H → R σ H) → A { D with nx := R } σ H) : tSeq A B D σ H := h1 (B D) h2
theorem cut_any (ns : List Int) (k : Nat) : cutV (ns.map V.int) none (some (k : Int)) = (ns.take k).map V.int := by
  unfold cutV; simp only [HT.sIx, len_map]; rw [if_neg (by omega), List.drop_zero, Nat.sub_zero, ← List.map_take]; congr 1
  by_cases c : k ≤ ns.length
  · congr 1; omega
  · rw [List.take_of_length_le (by omega), List.take_of_length_le (by omega)]
theorem cut_anyH (ns : List Int) (k : Nat) : cutV (ns.map V.int) (some (k : Int)) none = (ns.drop k).map V.int := by
  unfold cutV; simp only [HT.sIx, len_map]; rw [if_neg (by omega), List.take_of_length_le (by simp), ← List.map_drop]; congr 1
  by_cases c : k ≤ ns.length
  · congr 1; omega
  · rw [List.drop_eq_nil_of_le (by omega), List.drop_eq_nil_of_le (by omega)]
inductive Tr where
  | leaf (s : Option Int) | each (t : Tr) | pair (t u : Tr) | pick (t u v : Tr) | fetch (s : Int) (t : Tr) | fold (n : Int) (t : Tr)
def depthT : Tr → Nat
  | .leaf _ => 0 | .each t => depthT t + 1 | .pair t u => max (depthT t) (depthT u) + 1 | .pick t u v => max (depthT t) (max (depthT u) (depthT v)) + 1 | .fetch _ t => depthT t + 1 | .fold _ t => depthT t + 1
def sizeT : Tr → Nat
  | .leaf _ => 1 | .each t => sizeT t + 1 | .pair t u => sizeT t + sizeT u + 1 | .pick t u v => sizeT t + sizeT u + sizeT v + 1 | .fetch _ t => sizeT t + 1 | .fold _ t => sizeT t + 1
def isLeaf : Tr → Bool | .leaf _ => true | _ => false
def storesT : Tr → List Int
  | .leaf (some s) => [s] | .leaf none => [] | .each t => storesT t | .pair t u => storesT t ++ storesT u | .pick t u v => storesT t ++ (storesT u ++ storesT v) | .fetch s t => s :: storesT t | .fold _ t => storesT t
def TrAt (H : Hp) : Tr → Addr → Prop
  | .leaf none, a => ∃ (w : String) (xs : List V), H a = some (.tup (.str (Str.ofString w) :: xs)) ∧ (w = "num" ∨ w = "index")
  | .leaf (some s), a => ∃ (xs : List V), H a = some (.tup (.str "read" :: .int s :: xs))
  | .each t, a => ∃ (w : Str) (p : Addr), H a = some (.tup [.str "each", .str w, .ref p]) ∧ TrAt H t p
  | .pair t u, a => ∃ (w : Str) (p q : Addr), H a = some (.tup [.str "pair", .str w, .ref p, .ref q]) ∧ TrAt H t p ∧ TrAt H u q
  | .pick t u v, a => ∃ (p q r : Addr), H a = some (.tup [.str "pick", .ref p, .ref q, .ref r]) ∧ TrAt H t p ∧ TrAt H u q ∧ TrAt H v r
  | .fetch s t, a => ∃ (x2 x3 x4 x5 : V) (p : Addr), H a = some (.tup [.str "fetch", .int s, x2, x3, x4, x5, .ref p]) ∧ TrAt H t p
  | .fold n t, a => ∃ (w : Str) (p : Addr), H a = some (.tup [.str "fold", .str w, .int n, .ref p]) ∧ TrAt H t p ∧ 0 ≤ n ∧ n ≤ 1000000000
def SameT (H H' : Hp) : Prop := ∀ a xs, H a = some (.tup xs) → H' a = some (.tup xs)
theorem SameT.of {H H' : Hp} (s : Same H H') : SameT H H' := fun _ _ e => s _ _ e
theorem SameT.trans {H H' H2 : Hp} (s : SameT H H') (t : SameT H' H2) : SameT H H2 := fun _ _ e => t _ _ (s _ _ e)
theorem SameT.no {H : Hp} {l : Addr} {o : HO} (h : ∀ xs, H l ≠ some (.tup xs)) : SameT H (upd H l o) := fun b zs e => by
  rw [upd_ne (fun z => h zs (by rw [← z]; exact e))]; exact e
theorem TrAt.sameT {H H' : Hp} (s : SameT H H') : ∀ {t : Tr} {a : Addr}, TrAt H t a → TrAt H' t a
  | .leaf none, _, ⟨w, xs, e, z⟩ => ⟨w, xs, s _ _ e, z⟩
  | .leaf (some _), _, ⟨xs, e⟩ => ⟨xs, s _ _ e⟩
  | .each _, _, ⟨w, p, e, z⟩ => ⟨w, p, s _ _ e, z.sameT s⟩
  | .pair _ _, _, ⟨w, p, q, e, z1, z2⟩ => ⟨w, p, q, s _ _ e, z1.sameT s, z2.sameT s⟩
  | .pick _ _ _, _, ⟨p, q, r, e, z1, z2, z3⟩ => ⟨p, q, r, s _ _ e, z1.sameT s, z2.sameT s, z3.sameT s⟩
  | .fetch _ _, _, ⟨x2, x3, x4, x5, p, e, z⟩ => ⟨x2, x3, x4, x5, p, s _ _ e, z.sameT s⟩
  | .fold _ _, _, ⟨w, p, e, z, b⟩ => ⟨w, p, s _ _ e, z.sameT s, b⟩
theorem TrAt.same {H H' : Hp} (s : Same H H') {t : Tr} {a : Addr} (h : TrAt H t a) : TrAt H' t a := h.sameT (.of s)
def TrsAt (H : Hp) (ts : List Tr) (ps : List Addr) : Prop := ps.length = ts.length ∧ ∀ (i : Nat) t, ts[i]? = some t → ∃ p, ps[i]? = some p ∧ TrAt H t p
theorem TrsAt.sameT {H H' : Hp} {ts : List Tr} {ps : List Addr} (h : TrsAt H ts ps) (s : SameT H H') : TrsAt H' ts ps := ⟨h.1, fun i t e => let ⟨p, e1, l⟩ := h.2 i t e; ⟨p, e1, l.sameT s⟩⟩
theorem TrsAt.nil {H : Hp} : TrsAt H [] [] := ⟨rfl, fun i t e => by simp at e⟩
theorem TrsAt.app {H : Hp} {ts us : List Tr} {ps qs : List Addr} (h : TrsAt H ts ps) (g : TrsAt H us qs) : TrsAt H (ts ++ us) (ps ++ qs) := by
  refine ⟨by simp [h.1, g.1], fun i t e => ?_⟩
  rcases Nat.lt_or_ge i ts.length with hi | hi
  · rw [List.getElem?_append_left hi] at e
    obtain ⟨p, e1, l⟩ := h.2 i t e
    exact ⟨p, by rw [List.getElem?_append_left (by rw [h.1]; exact hi)]; exact e1, l⟩
  · rw [List.getElem?_append_right hi] at e
    obtain ⟨p, e1, l⟩ := g.2 _ t e
    exact ⟨p, by rw [List.getElem?_append_right (by rw [h.1]; exact hi), h.1]; exact e1, l⟩
theorem sne {a b : Str} (h : (a == b) = false) : ¬ V.str a = V.str b := fun z => by rw [V.str.inj z, beq_self_eq_true] at h; cases h
theorem at_neg {xs : List V} {k : Nat} {v : V} (h : k < xs.length) (e : xs[xs.length - 1 - k]? = some v) : atI xs (-1 - (k : Int)) = some v := by
  unfold atI ixN
  rw [if_neg (by omega), if_pos (by omega)]
  show xs[(-1 - (k : Int) + (xs.length : Int)).toNat]? = some v
  rw [show (-1 - (k : Int) + (xs.length : Int)).toNat = xs.length - 1 - k by omega]
  exact e
theorem str_at {ws : List Str} {m : Int} (h0 : 0 ≤ m) (h1 : m < ws.length) : atI (ws.map V.str) m = some (.str (ws.getD m.toNat "")) := by
  have z := atI_nat (xs := ws.map V.str) (j := m.toNat) (v := .str (ws.getD m.toNat "")) (by rw [List.getElem?_map, List.getD_eq_getElem?_getD, List.getElem?_eq_getElem (by omega)]; rfl)
  rwa [show ((m.toNat : Nat) : Int) = m by omega] at z
def StOk (t : Tr) : Prop := ∀ s ∈ storesT t, s ∈ [(0 : Int), 1, 2]
def KeyS (kvs : List (Key × V)) (L : List Int) : Prop := kvs.map (fun kv => kv.1) = L.map (fun n => (Sum.inl n : Key)) ∧ L.Nodup
theorem KeyS.nil : KeyS [] [] := ⟨rfl, List.nodup_nil⟩
theorem KeyS.len {kvs : List (Key × V)} {L : List Int} (h : KeyS kvs L) : kvs.length = L.length := by have := congrArg List.length h.1; simpa using this
def PrAt (H : Hp) (f : Tr × Int) (p : Addr) : Prop := ∃ q, H p = some (.tup [.ref q, .int f.2]) ∧ TrAt H f.1 q
theorem PrAt.sameT {H H' : Hp} (s : SameT H H') {f : Tr × Int} {p : Addr} (h : PrAt H f p) : PrAt H' f p := let ⟨q, e, t⟩ := h; ⟨q, s _ _ e, t.sameT s⟩
def FsAt (H : Hp) (fs : List (Tr × Int)) (ps : List Addr) : Prop := ps.length = fs.length ∧ ∀ (i : Nat) f, fs[i]? = some f → ∃ p, ps[i]? = some p ∧ PrAt H f p
theorem FsAt.sameT {H H' : Hp} {fs : List (Tr × Int)} {ps : List Addr} (h : FsAt H fs ps) (s : SameT H H') : FsAt H' fs ps := ⟨h.1, fun i t e => let ⟨p, e1, l⟩ := h.2 i t e; ⟨p, e1, l.sameT s⟩⟩
theorem FsAt.snoc {H : Hp} {ts : List (Tr × Int)} {ps : List Addr} {f : Tr × Int} {q : Addr} (h : FsAt H ts ps) (g : PrAt H f q) : FsAt H (ts ++ [f]) (ps ++ [q]) := by
  refine ⟨by simp [h.1], fun i t e => ?_⟩
  rcases Nat.lt_trichotomy i ts.length with hi | hi | hi
  · rw [List.getElem?_append_left hi] at e
    obtain ⟨p, e1, l⟩ := h.2 i t e
    exact ⟨p, by rw [List.getElem?_append_left (by rw [h.1]; exact hi)]; exact e1, l⟩
  · subst hi
    rw [List.getElem?_append_right (Nat.le_refl _), Nat.sub_self] at e
    cases (Option.some.inj e)
    exact ⟨q, by rw [List.getElem?_append_right (by rw [h.1]; exact Nat.le_refl _), h.1, Nat.sub_self]; rfl, g⟩
  · rw [List.getElem?_eq_none (by simp; omega)] at e; cases e
theorem FsAt.pop {H : Hp} {fs : List (Tr × Int)} {ps : List Addr} (h : FsAt H fs ps) (n : 1 ≤ fs.length) : ∃ gs f qs p, fs = gs ++ [f] ∧ ps = qs ++ [p] ∧ FsAt H gs qs ∧ PrAt H f p := by
  have fn : fs ≠ [] := fun z => by rw [z] at n; simp at n
  have pn : ps ≠ [] := fun z => fn (List.eq_nil_of_length_eq_zero (by rw [← h.1, z]; rfl))
  refine ⟨fs.dropLast, fs.getLast fn, ps.dropLast, ps.getLast pn, (List.dropLast_concat_getLast fn).symm, (List.dropLast_concat_getLast pn).symm, ⟨by simp [h.1], fun i t e => ?_⟩, ?_⟩
  · have il : i < fs.dropLast.length := (List.getElem?_eq_some_iff.mp e).1
    rw [List.length_dropLast] at il
    rw [List.getElem?_dropLast, if_pos il] at e
    obtain ⟨p, e1, l⟩ := h.2 i t e
    exact ⟨p, by rw [List.getElem?_dropLast, if_pos (by rw [h.1]; exact il)]; exact e1, l⟩
  · obtain ⟨p, e1, l⟩ := h.2 (fs.length - 1) (fs.getLast fn) (by rw [List.getLast_eq_getElem, List.getElem?_eq_getElem])
    have : p = ps.getLast pn := by
      rw [List.getLast_eq_getElem]
      have := (List.getElem?_eq_some_iff.mp e1).2
      rw [← this]
      congr 1
      rw [h.1]
    rw [← this]; exact l
def GdF (n : Nat) (f : Tr × Int) : Prop := sizeT f.1 ≤ n ∧ StOk f.1 ∧ 0 ≤ f.2 ∧ f.2 ≤ 2
theorem depth_size (t : Tr) : depthT t < sizeT t := by
  induction t with
  | leaf o => simp [depthT, sizeT]
  | each t ih => simp only [depthT, sizeT]; omega
  | pair t u ih1 ih2 => simp only [depthT, sizeT]; omega
  | pick t u v ih1 ih2 ih3 => simp only [depthT, sizeT]; omega
  | fetch s t ih => simp only [depthT, sizeT]; omega
  | fold n t ih => simp only [depthT, sizeT]; omega
theorem GdF.mono {n m : Nat} {f : Tr × Int} (h : GdF n f) (l : n ≤ m) : GdF m f := ⟨Nat.le_trans h.1 l, h.2⟩
def SameB (l : Addr) (H H' : Hp) : Prop := ∀ a o, a ≠ l → H a = some o → H' a = some o
theorem last_at {α : Type} {qs : List α} {p : α} : (qs ++ [p])[(qs ++ [p]).length - 1]? = some p := by simp
inductive Te where
  | num (n : Int) | index (s : Int) (st : List Int) | read (k : Nat) (s : Int) (st : List Int) | each (w : Str) (t : Te) | pair (w : Str) (t u : Te) | pick (t u v : Te) | fetch (k : Nat) (s d m : Int) (st : List Int) (t : Te) | fold (w : Str) (n : Nat) (t : Te)
def dotI : List Int → List Int → Int
  | a :: as, b :: bs => a * b + dotI as bs
  | _, _ => 0
def cellS (S : List (List Int)) (k : Nat) (i : Int) : Int := (S.getD k []).getD i.toNat 0
def foldF (w : Str) (f : Nat → Int × Int) : Nat → Int × Int
  | 0 => (neuI w, 0)
  | n + 1 => (twiceI w (foldF w f n).1 (f n).1, (foldF w f n).2 + 1 + (f n).2)
def evT (S : List (List Int)) : Te → List Int → Int × Int
  | .num n, _ => (n, 0)
  | .index s st, c => (s + dotI st c, 0)
  | .read k s st, c => (cellS S k (s + dotI st c), 0)
  | .each w t, c => (onceI w (evT S t c).1, 1 + (evT S t c).2)
  | .pair w t u, c => (twiceI w (evT S t c).1 (evT S u c).1, 1 + (evT S t c).2 + (evT S u c).2)
  | .pick t u v, c => (if (evT S t c).1 = 0 then (evT S v c).1 else (evT S u c).1, 1 + (evT S t c).2 + (evT S u c).2 + (evT S v c).2)
  | .fetch k s d m st t, c => (cellS S k (s + dotI st c + d * ((evT S t c).1 % m)), 1 + (evT S t c).2)
  | .fold w n t, c => foldF w (fun k => evT S t (c ++ [(k : Int)])) n
def stOk (n : Nat) (st : List Int) : Prop := st.length = n ∧ ∀ x ∈ st, -1 ≤ x ∧ x ≤ 2
def WfT : Nat → Te → Prop
  | _, .num n => inB n
  | n, .index s st => 15 ≤ s ∧ s ≤ 18 ∧ stOk n st
  | n, .read k s st => k < 3 ∧ 15 ≤ s ∧ s ≤ 18 ∧ stOk n st
  | n, .each w t => w ∈ (["neg", "abs", "sign", "not"] : List Str) ∧ WfT n t
  | n, .pair w t u => w ∈ tw ∧ WfT n t ∧ WfT n u
  | n, .pick t u v => WfT n t ∧ WfT n u ∧ WfT n v
  | n, .fetch k s d m st t => k < 3 ∧ 15 ≤ s ∧ s ≤ 18 ∧ -1 ≤ d ∧ d ≤ 1 ∧ 1 ≤ m ∧ m ≤ 4 ∧ stOk n st ∧ WfT n t
  | n, .fold w k t => w ∈ fw ∧ k ≤ 3 ∧ WfT (n + 1) t
def atOk (n : Nat) (c : List Int) : Prop := c.length = n ∧ ∀ x ∈ c, 0 ≤ x ∧ x ≤ 2
def SOk (S : List (List Int)) : Prop := S.length = 3 ∧ ∀ r ∈ S, r.length = 48 ∧ ∀ x ∈ r, inB x
theorem atOk.snoc {n : Nat} {c : List Int} (h : atOk n c) {k : Nat} (hk : k ≤ 2) : atOk (n + 1) (c ++ [(k : Int)]) := by
  refine ⟨by simp [h.1], fun x hx => ?_⟩
  rcases List.mem_append.mp hx with hx | hx
  · exact h.2 x hx
  · cases List.mem_singleton.mp hx; omega
theorem dot_rng : ∀ {st c : List Int}, (∀ x ∈ st, -1 ≤ x ∧ x ≤ 2) → (∀ x ∈ c, 0 ≤ x ∧ x ≤ 2) → -2 * (st.length : Int) ≤ dotI st c ∧ dotI st c ≤ 4 * (st.length : Int)
  | [], _, _, _ => by simp [dotI]
  | a :: as, [], _, _ => by simp [dotI]; omega
  | a :: as, b :: bs, h1, h2 => by
    have ih := dot_rng (st := as) (c := bs) (fun x hx => h1 x (List.mem_cons_of_mem _ hx)) (fun x hx => h2 x (List.mem_cons_of_mem _ hx))
    have a1 := h1 a (List.mem_cons_self ..)
    have b1 := h2 b (List.mem_cons_self ..)
    have p : -2 ≤ a * b ∧ a * b ≤ 4 := by
      rcases (show b = 0 ∨ b = 1 ∨ b = 2 by omega) with rfl | rfl | rfl <;> omega
    simp only [dotI, List.length_cons]
    omega
theorem spot_in {n : Nat} {s : Int} {st c : List Int} (h5 : n ≤ 5) (s0 : 15 ≤ s) (s1 : s ≤ 18) (h : stOk n st) (g : atOk n c) : 5 ≤ s + dotI st c ∧ s + dotI st c ≤ 38 := by
  have := dot_rng h.2 g.2
  rw [h.1] at this
  omega
theorem cell_in {S : List (List Int)} (h : SOk S) {k : Nat} (hk : k < 3) {i : Int} (i0 : 0 ≤ i) (i1 : i < 48) : ∃ r, S[k]? = some r ∧ r.length = 48 ∧ r[i.toNat]? = some (cellS S k i) ∧ inB (cellS S k i) := by
  have kl : k < S.length := by rw [h.1]; exact hk
  have rm := h.2 S[k] (List.getElem_mem kl)
  have il : i.toNat < S[k].length := by rw [rm.1]; omega
  have e : cellS S k i = S[k][i.toNat] := by
    unfold cellS
    have e1 : S.getD k [] = S[k] := by rw [List.getD_eq_getElem?_getD, List.getElem?_eq_getElem kl]; rfl
    rw [e1, List.getD_eq_getElem?_getD, List.getElem?_eq_getElem il]; rfl
  exact ⟨S[k], List.getElem?_eq_getElem kl, rm.1, by rw [e]; exact List.getElem?_eq_getElem il, by rw [e]; exact rm.2 _ (List.getElem_mem il)⟩
def TeAt (H : Hp) : Te → Addr → Prop
  | .num n, a => H a = some (.tup [.str "num", .int n])
  | .index s st, a => ∃ p, H a = some (.tup [.str "index", .int s, .ref p]) ∧ H p = some (.tup (st.map V.int))
  | .read k s st, a => ∃ p, H a = some (.tup [.str "read", .int (k : Int), .int s, .ref p]) ∧ H p = some (.tup (st.map V.int))
  | .each w t, a => ∃ p, H a = some (.tup [.str "each", .str w, .ref p]) ∧ TeAt H t p
  | .pair w t u, a => ∃ p q, H a = some (.tup [.str "pair", .str w, .ref p, .ref q]) ∧ TeAt H t p ∧ TeAt H u q
  | .pick t u v, a => ∃ p q r, H a = some (.tup [.str "pick", .ref p, .ref q, .ref r]) ∧ TeAt H t p ∧ TeAt H u q ∧ TeAt H v r
  | .fetch k s d m st t, a => ∃ p q, H a = some (.tup [.str "fetch", .int (k : Int), .int s, .int d, .int m, .ref p, .ref q]) ∧ H p = some (.tup (st.map V.int)) ∧ TeAt H t q
  | .fold w n t, a => ∃ p, H a = some (.tup [.str "fold", .str w, .int (n : Int), .ref p]) ∧ TeAt H t p ∧ n ≤ 3
theorem TeAt.sameT {H H' : Hp} (s : SameT H H') : ∀ {t : Te} {a : Addr}, TeAt H t a → TeAt H' t a
  | .num _, _, e => s _ _ e
  | .index _ _, _, ⟨p, e, z⟩ => ⟨p, s _ _ e, s _ _ z⟩
  | .read _ _ _, _, ⟨p, e, z⟩ => ⟨p, s _ _ e, s _ _ z⟩
  | .each _ _, _, ⟨p, e, z⟩ => ⟨p, s _ _ e, z.sameT s⟩
  | .pair _ _ _, _, ⟨p, q, e, z1, z2⟩ => ⟨p, q, s _ _ e, z1.sameT s, z2.sameT s⟩
  | .pick _ _ _, _, ⟨p, q, r, e, z1, z2, z3⟩ => ⟨p, q, r, s _ _ e, z1.sameT s, z2.sameT s, z3.sameT s⟩
  | .fetch _ _ _ _ _ _, _, ⟨p, q, e, z1, z2⟩ => ⟨p, q, s _ _ e, s _ _ z1, z2.sameT s⟩
  | .fold _ _ _, _, ⟨p, e, z, b⟩ => ⟨p, s _ _ e, z.sameT s, b⟩
def trOf : Te → Tr
  | .num _ => .leaf none | .index _ _ => .leaf none | .read k _ _ => .leaf (some (k : Int)) | .each _ t => .each (trOf t) | .pair _ t u => .pair (trOf t) (trOf u) | .pick t u v => .pick (trOf t) (trOf u) (trOf v) | .fetch k _ _ _ _ t => .fetch (k : Int) (trOf t) | .fold _ n t => .fold (n : Int) (trOf t)
theorem TeAt.tr {H : Hp} : ∀ {t : Te} {a : Addr}, TeAt H t a → TrAt H (trOf t) a
  | .num _, _, e => ⟨"num", _, e, .inl rfl⟩
  | .index _ _, _, ⟨_, e, _⟩ => ⟨"index", _, e, .inr rfl⟩
  | .read _ _ _, _, ⟨_, e, _⟩ => ⟨_, e⟩
  | .each _ _, _, ⟨p, e, z⟩ => ⟨_, p, e, z.tr⟩
  | .pair _ _ _, _, ⟨p, q, e, z1, z2⟩ => ⟨_, p, q, e, z1.tr, z2.tr⟩
  | .pick _ _ _, _, ⟨p, q, r, e, z1, z2, z3⟩ => ⟨p, q, r, e, z1.tr, z2.tr, z3.tr⟩
  | .fetch _ _ _ _ _ _, _, ⟨p, q, e, _, z⟩ => ⟨_, _, _, _, q, e, z.tr⟩
  | .fold _ n _, _, ⟨p, e, z, b⟩ => ⟨_, p, e, z.tr, by omega, by omega⟩
def openT : Te → Nat
  | .num _ => 0 | .index _ _ => 0 | .read _ _ _ => 0 | .each _ t => openT t | .pair _ t u => max (openT t) (openT u) | .pick t u v => max (openT t) (max (openT u) (openT v)) | .fetch _ _ _ _ _ t => openT t | .fold _ _ t => openT t + 1
theorem fmod_neg_range (x : Int) {y : Int} (hy : y < 0) : y < Int.fmod x y ∧ Int.fmod x y ≤ 0 := by
  have h1 : Int.fmod x y = -(Int.fmod (-x) (-y)) := by
    rw [Int.fmod_def, Int.fmod_def, Int.neg_fdiv_neg, Int.neg_mul]
    omega
  have h2 := Int.fmod_nonneg_of_pos (-x) (show 0 < -y by omega)
  have h3 := Int.fmod_lt_of_pos (-x) (show 0 < -y by omega)
  omega
theorem fmod_range (x : Int) {y : Int} (hy : y ≠ 0) : (0 < y → 0 ≤ Int.fmod x y ∧ Int.fmod x y < y) ∧ (y < 0 → y < Int.fmod x y ∧ Int.fmod x y ≤ 0) :=
  ⟨fun h => ⟨Int.fmod_nonneg_of_pos x h, Int.fmod_lt_of_pos x h⟩, fun h => fmod_neg_range x h⟩
theorem wrap_in (n : Int) : inB (wrapI n) := by unfold wrapI inB; omega
theorem quo_in {x y : Int} : inB (quoI x y) := by
  unfold quoI
  split
  · exact ⟨by decide, by decide⟩
  · exact wrap_in _
theorem rest_in {x y : Int} (hx : inB x) (hy : inB y) : inB (restI x y) := by
  unfold restI
  unfold inB at *
  split
  · exact hx
  · rename_i h
    have r := fmod_range x h
    rcases (show 0 < y ∨ y < 0 by omega) with p | p
    · have := r.1 p; omega
    · have := r.2 p; omega
section
variable {band : Int → Int → Int}
variable (hv : ∀ x y, band x y = 2 * band (x / 2) (y / 2) + (if x % 2 = 1 ∧ y % 2 = 1 then 1 else 0))
include hv
theorem range_all (h00 : band 0 0 = 0) (h01 : band 0 (-1) = 0) (h10 : band (-1) 0 = 0) (h11 : band (-1) (-1) = -1) (n : Nat) : ∀ x y : Int, -2 ^ n ≤ x → x < 2 ^ n → -2 ^ n ≤ y → y < 2 ^ n →
    (-2 ^ n ≤ band x y ∧ band x y < 2 ^ n) ∧ (-2 ^ n ≤ x + y - band x y ∧ x + y - band x y < 2 ^ n) ∧ (-2 ^ n ≤ x + y - 2 * band x y ∧ x + y - 2 * band x y < 2 ^ n) := by
  induction n with
  | zero =>
    intro x y a b c d
    simp at a b c d
    have hx : x = 0 ∨ x = -1 := by omega
    have hy : y = 0 ∨ y = -1 := by omega
    rcases hx with hx | hx <;> rcases hy with hy | hy <;> subst hx <;> subst hy <;> simp [h00, h01, h10, h11]
  | succ n ih =>
    intro x y a b c d
    rw [Int.pow_succ] at *
    have h := ih (x / 2) (y / 2) (by omega) (by omega) (by omega) (by omega)
    have e := hv x y
    split at e <;> omega
end
theorem marks_in {w : Str} {x y : Int} (hw : w ∈ (["max", "min", "less", "like"] : List Str)) (hx : inB x) (hy : inB y) : w ∈ tw ∧ inB (twiceI w x y) := by
  simp only [List.mem_cons, List.not_mem_nil, or_false] at hw
  unfold inB at *
  rcases hw with rfl | rfl | rfl | rfl
  · refine ⟨by simp [tw], ?_⟩; rw [tw_max]; split <;> omega
  · refine ⟨by simp [tw], ?_⟩; rw [tw_min]; split <;> omega
  · refine ⟨by simp [tw], ?_⟩; rw [tw_less]; split <;> omega
  · refine ⟨by simp [tw], ?_⟩; rw [tw_like]; split <;> omega
theorem bits_in {x y : Int} (hx : inB x) (hy : inB y) : inB (Builtin.bitAnd x y) ∧ inB (Builtin.bitOr x y) ∧ inB (Builtin.bitXor x y) := by
  have h := range_all PySem.W.kbt_halves (by decide) (by decide) (by decide) (by decide) 63 x y
  unfold inB at *
  rw [bitOr_and, bitXor_and]
  have e : (2 : Int) ^ 63 = 9223372036854775808 := by decide
  rw [e] at h
  exact h hx.1 (by omega) hy.1 (by omega)
theorem twice_in {w : Str} {x y : Int} (hw : w ∈ tw) (hx : inB x) (hy : inB y) : inB (twiceI w x y) := by
  simp only [tw, List.mem_cons, List.not_mem_nil, or_false] at hw
  rcases hw with rfl | rfl | rfl | rfl | rfl | rfl | rfl | rfl | rfl | rfl | rfl | rfl
  · rw [tw_add]; exact wrap_in _
  · rw [tw_sub]; exact wrap_in _
  · rw [tw_mul]; exact wrap_in _
  · rw [tw_quo]; exact quo_in
  · rw [tw_rest]; exact rest_in hx hy
  · exact (marks_in (by simp) hx hy).2
  · exact (marks_in (by simp) hx hy).2
  · exact (marks_in (by simp) hx hy).2
  · exact (marks_in (by simp) hx hy).2
  · rw [tw_and]; exact (bits_in hx hy).1
  · rw [tw_or]; exact (bits_in hx hy).2.1
  · rw [tw_xor]; exact (bits_in hx hy).2.2
theorem fold_in {w : Str} {f : Nat → Int × Int} (h : w ∈ fw) : ∀ {n : Nat}, (∀ k < n, inB (f k).1) → inB (foldF w f n).1
  | 0, _ => neu_in w
  | n + 1, g => twice_in (fw_tw h) (fold_in h fun k hk => g k (by omega)) (g n (by omega))
theorem dot_sum : ∀ (st c : List Int), (List.zipWith (fun a b => a * b) c st).sum = dotI st c
  | [], c => by cases c <;> simp [dotI]
  | _ :: _, [] => by simp [dotI]
  | a :: as, b :: bs => by simp only [List.zipWith_cons_cons, List.sum_cons, dotI, dot_sum as bs, Int.mul_comm a b]
theorem int_at {ns : List Int} {i : Nat} {x : V} (h : (ns.map V.int)[i]? = some x) : ∃ n, x = .int n ∧ ns[i]? = some n := by
  rw [List.getElem?_map] at h
  cases e : ns[i]? with
  | none => rw [e] at h; cases h
  | some n => rw [e] at h; exact ⟨n, (Option.some.inj h).symm, rfl⟩
def RwAt (H : Hp) (r : List Int) (a : Addr) : Prop := H a = some (.lst (r.map V.int)) ∨ H a = some (.tup (r.map V.int))
def StAt (H : Hp) (a : Addr) (S : List (List Int)) : Prop := ∃ ps : List Addr, (H a = some (.lst (ps.map V.ref)) ∨ H a = some (.tup (ps.map V.ref))) ∧ ps.length = S.length ∧ ∀ (i : Nat) r, S[i]? = some r → ∃ p, ps[i]? = some p ∧ RwAt H r p
theorem StAt.same {H H' : Hp} (s : Same H H') {a : Addr} {S : List (List Int)} (h : StAt H a S) : StAt H' a S := by
  obtain ⟨ps, h1, h2, h3⟩ := h
  exact ⟨ps, h1.imp (s _ _) (s _ _), h2, fun i r e => let ⟨p, e1, g⟩ := h3 i r e; ⟨p, e1, g.imp (s _ _) (s _ _)⟩⟩
def freeE : Te → Prop | .num _ => True | .index _ _ => True | .read _ _ _ => True | _ => False
def foldE : Te → Bool | .fold _ _ _ => true | _ => false
def kidsE : Te → List Te
  | .each _ t => [t] | .pair _ t u => [t, u] | .pick t u v => [t, u, v] | .fetch _ _ _ _ _ t => [t] | .fold _ _ t => [t] | _ => []
theorem atOk.low {n : Nat} {c : List Int} (h : atOk n c) : ∀ x ∈ c, 0 ≤ x ∧ x ≤ 2 := h.2
def TesAt (H : Hp) (ts : List Te) (ps : List Addr) : Prop := ps.length = ts.length ∧ ∀ (i : Nat) t, ts[i]? = some t → ∃ p, ps[i]? = some p ∧ TeAt H t p
theorem TeAt.same {H H' : Hp} (s : Same H H') {t : Te} {a : Addr} (h : TeAt H t a) : TeAt H' t a := h.sameT (.of s)
theorem TesAt.sameT {H H' : Hp} {ts : List Te} {ps : List Addr} (h : TesAt H ts ps) (s : SameT H H') : TesAt H' ts ps := ⟨h.1, fun i t e => let ⟨p, e1, l⟩ := h.2 i t e; ⟨p, e1, l.sameT s⟩⟩
theorem TesAt.nil {H : Hp} : TesAt H [] [] := ⟨rfl, fun i t e => by simp at e⟩
theorem TesAt.app {H : Hp} {ts us : List Te} {ps qs : List Addr} (h : TesAt H ts ps) (g : TesAt H us qs) : TesAt H (ts ++ us) (ps ++ qs) := by
  refine ⟨by simp [h.1, g.1], fun i t e => ?_⟩
  rcases Nat.lt_or_ge i ts.length with hi | hi
  · rw [List.getElem?_append_left hi] at e
    obtain ⟨p, e1, l⟩ := h.2 i t e
    exact ⟨p, by rw [List.getElem?_append_left (by rw [h.1]; exact hi)]; exact e1, l⟩
  · rw [List.getElem?_append_right hi] at e
    obtain ⟨p, e1, l⟩ := g.2 _ t e
    exact ⟨p, by rw [List.getElem?_append_right (by rw [h.1]; exact hi), h.1]; exact e1, l⟩
theorem tes1 {H : Hp} {t : Te} {p : Addr} (h : TeAt H t p) : TesAt H [t] [p] := ⟨rfl, fun i u e => by
  cases i with
  | zero => cases (Option.some.inj e); exact ⟨p, rfl, h⟩
  | succ i => simp at e⟩
theorem tes_cons {H : Hp} {t : Te} {p : Addr} {ts : List Te} {ps : List Addr} (h : TeAt H t p) (g : TesAt H ts ps) : TesAt H (t :: ts) (p :: ps) := (tes1 h).app g
theorem kids_len (t : Te) : (kidsE t).length ≤ 3 := by cases t <;> simp [kidsE]
theorem sameSetN {H G : Hp} {l : Addr} (s : Same H G) (h : H l = none) (o : HO) : Same H (upd G l o) := fun b u e => by rw [upd_ne (ne_of_none e h)]; exact s _ _ e
def sumE (S : List (List Int)) (c : List Int) (ts : List Te) : Int := (ts.map fun u => (evT S u c).2).sum
theorem sumE_succ {S : List (List Int)} {c : List Int} {ts : List Te} {i : Nat} {u : Te} (h : ts[i]? = some u) : sumE S c (ts.take (i + 1)) = sumE S c (ts.take i) + (evT S u c).2 := by
  unfold sumE
  rw [List.take_add_one, h, List.map_append, List.sum_append]
  simp
theorem ev_calls {S : List (List Int)} {c : List Int} {t : Te} (nf : ¬ freeE t) (fo : foldE t = false) : (evT S t c).2 = 1 + sumE S c (kidsE t) := by
  cases t with
  | num => exact absurd trivial nf
  | index => exact absurd trivial nf
  | read => exact absurd trivial nf
  | fold => exact absurd fo (by simp [foldE])
  | each w t => simp [evT, sumE, kidsE]
  | fetch k s d m st t => simp [evT, sumE, kidsE]
  | pair w t v => simp [evT, sumE, kidsE]; omega
  | pick t v v' => simp [evT, sumE, kidsE]; omega
def sizeE (t : Te) : Nat := sizeT (trOf t)
def OkE (f : Te × Int) : Prop := WfT (3 + f.2.toNat) f.1 ∧ openT f.1 + f.2.toNat ≤ 2
def PeAt (H : Hp) (f : Te × Int) (p : Addr) : Prop := ∃ q, H p = some (.tup [.ref q, .int f.2]) ∧ TeAt H f.1 q
theorem PeAt.sameT {H H' : Hp} (s : SameT H H') {f : Te × Int} {p : Addr} (h : PeAt H f p) : PeAt H' f p := let ⟨q, e, t⟩ := h; ⟨q, s _ _ e, t.sameT s⟩
def FeAt (H : Hp) (fs : List (Te × Int)) (ps : List Addr) : Prop := ps.length = fs.length ∧ ∀ (i : Nat) f, fs[i]? = some f → ∃ p, ps[i]? = some p ∧ PeAt H f p
theorem FeAt.sameT {H H' : Hp} {fs : List (Te × Int)} {ps : List Addr} (h : FeAt H fs ps) (s : SameT H H') : FeAt H' fs ps := ⟨h.1, fun i t e => let ⟨p, e1, l⟩ := h.2 i t e; ⟨p, e1, l.sameT s⟩⟩
theorem FeAt.snoc {H : Hp} {ts : List (Te × Int)} {ps : List Addr} {f : Te × Int} {q : Addr} (h : FeAt H ts ps) (g : PeAt H f q) : FeAt H (ts ++ [f]) (ps ++ [q]) := by
  refine ⟨by simp [h.1], fun i t e => ?_⟩
  rcases Nat.lt_trichotomy i ts.length with hi | hi | hi
  · rw [List.getElem?_append_left hi] at e
    obtain ⟨p, e1, l⟩ := h.2 i t e
    exact ⟨p, by rw [List.getElem?_append_left (by rw [h.1]; exact hi)]; exact e1, l⟩
  · subst hi
    rw [List.getElem?_append_right (Nat.le_refl _), Nat.sub_self] at e
    cases (Option.some.inj e)
    exact ⟨q, by rw [List.getElem?_append_right (by rw [h.1]; exact Nat.le_refl _), h.1, Nat.sub_self]; rfl, g⟩
  · rw [List.getElem?_eq_none (by simp; omega)] at e; cases e
theorem FeAt.pop {H : Hp} {fs : List (Te × Int)} {ps : List Addr} (h : FeAt H fs ps) (n : 1 ≤ fs.length) : ∃ gs f qs p, fs = gs ++ [f] ∧ ps = qs ++ [p] ∧ FeAt H gs qs ∧ PeAt H f p := by
  have fn : fs ≠ [] := fun z => by rw [z] at n; simp at n
  have pn : ps ≠ [] := fun z => fn (List.eq_nil_of_length_eq_zero (by rw [← h.1, z]; rfl))
  refine ⟨fs.dropLast, fs.getLast fn, ps.dropLast, ps.getLast pn, (List.dropLast_concat_getLast fn).symm, (List.dropLast_concat_getLast pn).symm, ⟨by simp [h.1], fun i t e => ?_⟩, ?_⟩
  · have il : i < fs.dropLast.length := (List.getElem?_eq_some_iff.mp e).1
    rw [List.length_dropLast] at il
    rw [List.getElem?_dropLast, if_pos il] at e
    obtain ⟨p, e1, l⟩ := h.2 i t e
    exact ⟨p, by rw [List.getElem?_dropLast, if_pos (by rw [h.1]; exact il)]; exact e1, l⟩
  · obtain ⟨p, e1, l⟩ := h.2 (fs.length - 1) (fs.getLast fn) (by rw [List.getLast_eq_getElem, List.getElem?_eq_getElem])
    have : p = ps.getLast pn := by
      rw [List.getLast_eq_getElem]
      have := (List.getElem?_eq_some_iff.mp e1).2
      rw [← this]
      congr 1
      rw [h.1]
    rw [← this]; exact l
def GeF (n : Nat) (f : Te × Int) : Prop := sizeE f.1 ≤ n ∧ OkE f ∧ 0 ≤ f.2 ∧ f.2 ≤ 2
def totE (fs : List (Te × Int)) : Nat := (fs.map fun f => sizeE f.1).sum
theorem totE_snoc (fs : List (Te × Int)) (f : Te × Int) : totE (fs ++ [f]) = totE fs + sizeE f.1 := by simp [totE]
theorem GeF.mono {n m : Nat} {f : Te × Int} (h : GeF n f) (l : n ≤ m) : GeF m f := ⟨Nat.le_trans h.1 l, h.2⟩
def Alk (fs : List (Te × Int)) (al : Nat) : Prop := ∀ k < al, ∀ f g, fs[fs.length - 1 - k]? = some f → fs[fs.length - 1]? = some g → f.2 = g.2
theorem alk_one {fs : List (Te × Int)} : Alk fs 1 := fun k hk f g e1 e2 => by
  have : k = 0 := by omega
  subst this
  rw [Nat.sub_zero, e2] at e1
  cases e1; rfl
theorem alk_succ {fs : List (Te × Int)} {al : Nat} {f g : Te × Int} (h : Alk fs al) (ef : fs[fs.length - 1 - al]? = some f) (eg : fs[fs.length - 1]? = some g) (e : f.2 = g.2) : Alk fs (al + 1) := fun k hk f' g' e1 e2 => by
  rcases Nat.lt_or_ge k al with c | c
  · exact h k c f' g' e1 e2
  · have : k = al := by omega
    subst this
    rw [ef] at e1; rw [eg] at e2
    cases e1; cases e2; exact e
theorem last1 {α : Type} {hs : List α} {f : α} : (hs ++ [f])[(hs ++ [f]).length - 1]? = some f := by simp
theorem last2 {α : Type} {hs : List α} {f g : α} : (hs ++ [f] ++ [g])[(hs ++ [f] ++ [g]).length - 1 - 1]? = some f := by
  rw [show (hs ++ [f] ++ [g]).length - 1 - 1 = hs.length by simp, List.append_assoc, List.getElem?_append_right (Nat.le_refl _), Nat.sub_self]; rfl
theorem last3 {α : Type} {hs : List α} {f g k : α} : (hs ++ [f] ++ [g] ++ [k])[(hs ++ [f] ++ [g] ++ [k]).length - 1 - 2]? = some f := by
  rw [show (hs ++ [f] ++ [g] ++ [k]).length - 1 - 2 = hs.length by simp, List.append_assoc, List.append_assoc, List.getElem?_append_right (Nat.le_refl _), Nat.sub_self]; rfl
theorem alk2 {hs : List (Te × Int)} {f g : Te × Int} {al : Nat} (h : Alk (hs ++ [f] ++ [g]) al) (a : 2 ≤ al) : f.2 = g.2 := h 1 (by omega) f g last2 last1
theorem alk3 {hs : List (Te × Int)} {f g k : Te × Int} {al : Nat} (h : Alk (hs ++ [f] ++ [g] ++ [k]) al) (a : 3 ≤ al) : f.2 = k.2 ∧ g.2 = k.2 := ⟨h 2 (by omega) f k last3 last1, h 1 (by omega) g k last2 last1⟩
theorem okE2 {w : Str} {f g : Te × Int} (hw : w ∈ tw) (e : f.2 = g.2) (h : OkE f) (h' : OkE g) : OkE (.pair w f.1 g.1, f.2) := by
  refine ⟨⟨hw, h.1, ?_⟩, ?_⟩
  · show WfT (3 + f.2.toNat) g.1
    rw [e]; exact h'.1
  · have a := h.2
    have b := h'.2
    rw [← e] at b
    show max (openT f.1) (openT g.1) + f.2.toNat ≤ 2
    omega
theorem okE3 {f g k : Te × Int} (e : f.2 = k.2 ∧ g.2 = k.2) (h : OkE f) (h' : OkE g) (h'' : OkE k) : OkE (.pick f.1 g.1 k.1, f.2) := by
  have b := h'.2
  have c := h''.2
  rw [show g.2 = f.2 from e.2.trans e.1.symm] at b
  rw [← e.1] at c
  have a := h.2
  refine ⟨⟨h.1, ?_, ?_⟩, ?_⟩
  · show WfT (3 + f.2.toNat) g.1
    rw [e.1, ← e.2]; exact h'.1
  · show WfT (3 + f.2.toNat) k.1
    rw [e.1]; exact h''.1
  · show max (openT f.1) (max (openT g.1) (openT k.1)) + f.2.toNat ≤ 2
    omega
theorem okFold {w : Str} {n : Nat} {t : Te} {v : Int} (hw : w ∈ fw) (hn : n ≤ 3) (h0 : 0 < v) (h : OkE (t, v)) : OkE (.fold w n t, v - 1) := by
  refine ⟨⟨hw, hn, ?_⟩, ?_⟩
  · show WfT (3 + (v - 1).toNat + 1) t
    rw [show 3 + (v - 1).toNat + 1 = 3 + v.toNat by omega]; exact h.1
  · have a : openT t + v.toNat ≤ 2 := h.2
    show openT t + 1 + (v - 1).toNat ≤ 2
    omega
def strF (c b : Int) (n : Nat) : List Int := (List.range n).map fun (k : Nat) => c / (b + 5 * (k : Int) * (k : Int)) % 4 - 1
theorem strF_ok (c b : Int) (n : Nat) : stOk n (strF c b n) := by
  refine ⟨by simp [strF], fun x hx => ?_⟩
  obtain ⟨k, _, rfl⟩ := List.mem_map.mp hx
  generalize c / (b + 5 * (k : Int) * (k : Int)) = y
  omega
theorem strF_succ (c b : Int) (n : Nat) : strF c b (n + 1) = strF c b n ++ [c / (b + 5 * (n : Int) * (n : Int)) % 4 - 1] := by
  unfold strF
  rw [List.range_succ, List.map_append]; rfl
theorem word_in {ws : List Str} {m : Int} {W : List Str} (h0 : 0 ≤ m) (h1 : m < ws.length) (h : ∀ w ∈ ws, w ∈ W) : ws.getD m.toNat "" ∈ W := by
  rw [List.getD_eq_getElem?_getD, List.getElem?_eq_getElem (by omega)]
  exact h _ (List.getElem_mem _)
theorem startOk : OkE (.read 1 16 [1, -1, 2, 1, 1], 2) := by
  refine ⟨⟨by decide, by decide, by decide, rfl, ?_⟩, by decide⟩
  intro x hx
  simp only [List.mem_cons, List.not_mem_nil, or_false] at hx
  rcases hx with rfl | rfl | rfl | rfl | rfl <;> decide
theorem pe0trees48 {X : Cx} : PE X (.List [(.Tuple [(.Tuple [(.Constant (.str "read") 0 ⟨199, 25, 199, 31⟩), (.Constant (.int 1) 0 ⟨199, 33, 199, 34⟩), (.Constant (.int 16) 0 ⟨199, 36, 199, 38⟩), (.Tuple [(.Constant (.int 1) 0 ⟨199, 41, 199, 42⟩), (.UnaryOp .USub (.Constant (.int 1) 0 ⟨199, 45, 199, 46⟩) ⟨199, 44, 199, 46⟩), (.Constant (.int 2) 0 ⟨199, 48, 199, 49⟩), (.Constant (.int 1) 0 ⟨199, 51, 199, 52⟩), (.Constant (.int 1) 0 ⟨199, 54, 199, 55⟩)] 0 ⟨199, 40, 199, 56⟩)] 0 ⟨199, 24, 199, 57⟩), (.Constant (.int 2) 0 ⟨199, 59, 199, 60⟩)] 0 ⟨199, 23, 199, 61⟩)] ⟨199, 22, 199, 62⟩) (tLst (tCons (tTup (tCons (tTup (tCons (tC (V.str "read")) (tCons (tC (V.int 1)) (tCons (tC (V.int 16)) (tCons (tTup (tCons (tC (V.int 1)) (tCons (tUn (rU fun i => V.int (-i)) (tC (V.int 1))) (tCons (tC (V.int 2)) (tCons (tC (V.int 1)) (tCons (tC (V.int 1)) tNil)))))) tNil))))) (tCons (tC (V.int 2)) tNil))) tNil)) := by
  refine @pe_lst _ _ _ _ ?_
  refine @pa_tup _ _ _ _ _ _ _ ?_ pa_nil
  refine @pe_tup _ _ _ _ _ ?_
  refine @pa_tup _ _ _ _ _ _ _ ?_ (pa_cons pe_int pa_nil)
  refine @pe_tup _ _ _ _ _ ?_
  refine @pa_cons _ _ _ _ _ pe_str ?_ rfl
  refine @pa_cons _ _ _ _ _ pe_int ?_ rfl
  refine @pa_cons _ _ _ _ _ pe_int ?_ rfl
  refine @pa_tup _ _ _ _ _ _ _ ?_ pa_nil
  exact pe_tup (pa_cons pe_int (pa_cons (pe_un un_neg pe_int) (pa_cons pe_int (pa_cons pe_int (pa_cons pe_int pa_nil)))))
def RowsL (H : Hp) (l : Addr) (S : List (List Int)) (ps : List Addr) : Prop := ps.length = S.length ∧ ∀ (i : Nat) r, S[i]? = some r → ∃ p, ps[i]? = some p ∧ p ≠ l ∧ H p = some (.lst (r.map V.int))
theorem RowsL.snoc {H : Hp} {l : Addr} {S : List (List Int)} {ps : List Addr} {r : List Int} {q : Addr} (h : RowsL H l S ps) (n : q ≠ l) (g : H q = some (.lst (r.map V.int))) : RowsL H l (S ++ [r]) (ps ++ [q]) := by
  refine ⟨by simp [h.1], fun i t e => ?_⟩
  rcases Nat.lt_trichotomy i S.length with hi | hi | hi
  · rw [List.getElem?_append_left hi] at e
    obtain ⟨p, e1, l⟩ := h.2 i t e
    exact ⟨p, by rw [List.getElem?_append_left (by rw [h.1]; exact hi)]; exact e1, l⟩
  · subst hi
    rw [List.getElem?_append_right (Nat.le_refl _), Nat.sub_self] at e
    cases (Option.some.inj e)
    exact ⟨q, by rw [List.getElem?_append_right (by rw [h.1]; exact Nat.le_refl _), h.1, Nat.sub_self]; rfl, n, g⟩
  · rw [List.getElem?_eq_none (by simp; omega)] at e; cases e
theorem RowsL.mono {H H' : Hp} {l : Addr} {S : List (List Int)} {ps : List Addr} (h : RowsL H l S ps) (s : ∀ a o, a ≠ l → H a = some o → H' a = some o) : RowsL H' l S ps := ⟨h.1, fun i r e => let ⟨p, e1, n, g⟩ := h.2 i r e; ⟨p, e1, n, s _ _ n g⟩⟩
theorem RowsL.st {H : Hp} {l : Addr} {S : List (List Int)} {ps : List Addr} (h : RowsL H l S ps) (e : H l = some (.lst (ps.map V.ref))) : StAt H l S := ⟨ps, .inl e, h.1, fun i r er => let ⟨p, e1, _, g⟩ := h.2 i r er; ⟨p, e1, .inl g⟩⟩
theorem at_cell {r : List Int} {i x : Int} (i0 : 0 ≤ i) (h : r[i.toNat]? = some x) : atI (r.map V.int) i = some (.int x) := by
  have z := atI_nat (xs := r.map V.int) (j := i.toNat) (v := .int x) (by rw [List.getElem?_map, h]; rfl)
  rwa [show ((i.toNat : Nat) : Int) = i by omega] at z
def RowsX (f : List V → HO) (H : Hp) (S : List (List Int)) (ps : List Addr) : Prop := ps.length = S.length ∧ ∀ (i : Nat) r, S[i]? = some r → ∃ p, ps[i]? = some p ∧ H p = some (f (r.map V.int))
theorem RowsX.same {f : List V → HO} {H H' : Hp} {S : List (List Int)} {ps : List Addr} (h : RowsX f H S ps) (s : Same H H') : RowsX f H' S ps := ⟨h.1, fun i r e => let ⟨p, e1, g⟩ := h.2 i r e; ⟨p, e1, s _ _ g⟩⟩
theorem RowsX.nil {f : List V → HO} {H : Hp} : RowsX f H [] [] := ⟨rfl, fun i r e => by simp at e⟩
theorem RowsX.snoc {f : List V → HO} {H : Hp} {S : List (List Int)} {ps : List Addr} {r : List Int} {q : Addr} (h : RowsX f H S ps) (g : H q = some (f (r.map V.int))) : RowsX f H (S ++ [r]) (ps ++ [q]) := by
  refine ⟨by simp [h.1], fun i t e => ?_⟩
  rcases Nat.lt_trichotomy i S.length with hi | hi | hi
  · rw [List.getElem?_append_left hi] at e
    obtain ⟨p, e1, l⟩ := h.2 i t e
    exact ⟨p, by rw [List.getElem?_append_left (by rw [h.1]; exact hi)]; exact e1, l⟩
  · subst hi
    rw [List.getElem?_append_right (Nat.le_refl _), Nat.sub_self] at e
    cases (Option.some.inj e)
    exact ⟨q, by rw [List.getElem?_append_right (by rw [h.1]; exact Nat.le_refl _), h.1, Nat.sub_self]; rfl, g⟩
  · rw [List.getElem?_eq_none (by simp; omega)] at e; cases e
theorem rows_alk {H : Hp} {S : List (List Int)} {ps qs : List Addr} {a b : Addr} (h1 : RowsX HO.lst H S ps) (h2 : RowsX HO.lst H S qs) (ha : H a = some (.lst (ps.map V.ref))) (hb : H b = some (.lst (qs.map V.ref))) : AlkV H 9 (.ref a) (.ref b) := by
  refine .inr ⟨a, b, _, _, rfl, rfl, .inl ⟨ha, hb⟩, by rw [List.length_map, List.length_map, h1.1, h2.1], fun i z w ez ew => ?_⟩
  rw [List.getElem?_map] at ez ew
  have il : i < S.length := by
    have : i < ps.length := by
      rcases Nat.lt_or_ge i ps.length with c | c
      · exact c
      · rw [List.getElem?_eq_none c] at ez; cases ez
    rw [← h1.1]; exact this
  obtain ⟨p, e1, g1⟩ := h1.2 i _ (List.getElem?_eq_getElem il)
  obtain ⟨q, e2, g2⟩ := h2.2 i _ (List.getElem?_eq_getElem il)
  rw [e1] at ez; rw [e2] at ew
  cases (Option.some.inj ez); cases (Option.some.inj ew)
  exact .lst g1 g2 (flat_ints _)
theorem eqVs_dec : ∀ (ns ms : List Int), eqVs (ns.map V.int) (ms.map V.int) = decide (ns = ms)
  | [], [] => rfl
  | [], m :: ms => by simp [eqVs]
  | n :: ns, [] => by simp [eqVs]
  | n :: ns, m :: ms => by
    by_cases e : n = m
    · subst e; simp [eqVs, eqV, eqVs_dec ns ms]
    · simp [eqVs, eqV, eqVs_dec ns ms, e]
theorem fold_congr {w : Str} {f g : Nat → Int × Int} : ∀ {n : Nat}, (∀ k, k < n → f k = g k) → foldF w f n = foldF w g n
  | 0, _ => rfl
  | n + 1, h => by
    have ih := fold_congr (w := w) (f := f) (g := g) (n := n) fun k hk => h k (Nat.lt_succ_of_lt hk)
    simp only [foldF, ih, h n (Nat.lt_succ_self n)]
def FinT (S : List (List Int)) : Te → List Int → Prop
  | .num n, _ => inB n
  | .index s st, c => c.length = st.length ∧ inB (s + dotI st c)
  | .read k s st, c => k < 3 ∧ c.length = st.length ∧ 0 ≤ s + dotI st c ∧ s + dotI st c < 48
  | .each w t, c => w ∈ (["neg", "abs", "sign", "not"] : List Str) ∧ FinT S t c
  | .pair w t u, c => w ∈ tw ∧ FinT S t c ∧ FinT S u c
  | .pick t u v, c => FinT S t c ∧ FinT S u c ∧ FinT S v c
  | .fetch k s d m st t, c => k < 3 ∧ c.length = st.length ∧ -1 ≤ d ∧ d ≤ 1 ∧ 1 ≤ m ∧ m ≤ 4 ∧ 3 ≤ s + dotI st c ∧ s + dotI st c ≤ 44 ∧ FinT S t c
  | .fold w n t, c => w ∈ fw ∧ n ≤ 3 ∧ ∀ k : Nat, k < n → FinT S t (c ++ [(k : Int)])
def cOk (c : List Int) : Prop := ∀ x ∈ c, 0 ≤ x ∧ x ≤ 4
theorem cOk.snoc {c : List Int} (h : cOk c) {k : Nat} (hk : k ≤ 4) : cOk (c ++ [(k : Int)]) := fun x hx => by
  rcases List.mem_append.mp hx with hx | hx
  · exact h x hx
  · cases List.mem_singleton.mp hx; omega
def chgT (f : Int → List Int → Int × List Int) : Te → Te
  | .num n => .num n
  | .index s st => .index (f s st).1 (f s st).2
  | .read k s st => .read k (f s st).1 (f s st).2
  | .each w t => .each w (chgT f t)
  | .pair w t u => .pair w (chgT f t) (chgT f u)
  | .pick t u v => .pick (chgT f t) (chgT f u) (chgT f v)
  | .fetch k s d m st t => .fetch k (f s st).1 d m (f s st).2 (chgT f t)
  | .fold w n t => .fold w n (chgT f t)
def Link (f : Int → List Int → Int × List Int) (c c' : List Int) : Prop := ∀ (q : List Int) (s : Int) (st : List Int), (c' ++ q).length = st.length → (f s st).2.length = (c ++ q).length ∧ (f s st).1 + dotI (f s st).2 (c ++ q) = s + dotI st (c' ++ q)
theorem Link.snoc {f : Int → List Int → Int × List Int} {c c' : List Int} (h : Link f c c') (k : Int) : Link f (c ++ [k]) (c' ++ [k]) := fun q s st l => by
  rw [List.append_assoc] at l ⊢
  rw [List.append_assoc]
  exact h ([k] ++ q) s st l
theorem ev_chg {S : List (List Int)} {f : Int → List Int → Int × List Int} : ∀ {t : Te} {c c' : List Int}, Link f c c' → FinT S t c' → evT S (chgT f t) c = evT S t c'
  | .num n, c, c', _, _ => rfl
  | .index s st, c, c', L, h => by
    have l := (L [] s st (by rw [List.append_nil]; exact h.1)).2
    rw [List.append_nil, List.append_nil] at l
    show ((f s st).1 + dotI (f s st).2 c, (0 : Int)) = (s + dotI st c', 0)
    rw [l]
  | .read k s st, c, c', L, h => by
    have l := (L [] s st (by rw [List.append_nil]; exact h.2.1)).2
    rw [List.append_nil, List.append_nil] at l
    show (cellS S k ((f s st).1 + dotI (f s st).2 c), (0 : Int)) = (cellS S k (s + dotI st c'), 0)
    rw [l]
  | .each w t, c, c', L, h => by simp only [chgT, evT, ev_chg L h.2]
  | .pair w t u, c, c', L, h => by simp only [chgT, evT, ev_chg L h.2.1, ev_chg L h.2.2]
  | .pick t u v, c, c', L, h => by simp only [chgT, evT, ev_chg L h.1, ev_chg L h.2.1, ev_chg L h.2.2]
  | .fetch k s d m st t, c, c', L, h => by
    have l := (L [] s st (by rw [List.append_nil]; exact h.2.1)).2
    rw [List.append_nil, List.append_nil] at l
    simp only [chgT, evT, ev_chg L h.2.2.2.2.2.2.2.2, l]
  | .fold w n t, c, c', L, h => by
    simp only [chgT, evT]
    exact fold_congr fun k hk => ev_chg (L.snoc k) (h.2.2 k hk)
theorem fin_chg {S : List (List Int)} {f : Int → List Int → Int × List Int} : ∀ {t : Te} {c c' : List Int}, Link f c c' → FinT S t c' → FinT S (chgT f t) c
  | .num n, c, c', _, h => h
  | .index s st, c, c', L, h => by
    have l := L [] s st (by rw [List.append_nil]; exact h.1)
    rw [List.append_nil, List.append_nil] at l
    exact ⟨l.1.symm, by rw [l.2]; exact h.2⟩
  | .read k s st, c, c', L, h => by
    have l := L [] s st (by rw [List.append_nil]; exact h.2.1)
    rw [List.append_nil, List.append_nil] at l
    exact ⟨h.1, l.1.symm, by rw [l.2]; exact h.2.2.1, by rw [l.2]; exact h.2.2.2⟩
  | .each w t, c, c', L, h => ⟨h.1, fin_chg L h.2⟩
  | .pair w t u, c, c', L, h => ⟨h.1, fin_chg L h.2.1, fin_chg L h.2.2⟩
  | .pick t u v, c, c', L, h => ⟨fin_chg L h.1, fin_chg L h.2.1, fin_chg L h.2.2⟩
  | .fetch k s d m st t, c, c', L, h => by
    have l := L [] s st (by rw [List.append_nil]; exact h.2.1)
    rw [List.append_nil, List.append_nil] at l
    exact ⟨h.1, l.1.symm, h.2.2.1, h.2.2.2.1, h.2.2.2.2.1, h.2.2.2.2.2.1, by rw [l.2]; exact h.2.2.2.2.2.2.1, by rw [l.2]; exact h.2.2.2.2.2.2.2.1, fin_chg L h.2.2.2.2.2.2.2.2⟩
  | .fold w n t, c, c', L, h => ⟨h.1, h.2.1, fun k hk => fin_chg (L.snoc k) (h.2.2 k hk)⟩
theorem open_chg {f : Int → List Int → Int × List Int} : ∀ (t : Te), openT (chgT f t) = openT t
  | .num n => rfl
  | .index s st => rfl
  | .read k s st => rfl
  | .each w t => open_chg t
  | .pair w t u => by simp only [chgT, openT, open_chg t, open_chg u]
  | .pick t u v => by simp only [chgT, openT, open_chg t, open_chg u, open_chg v]
  | .fetch k s d m st t => open_chg t
  | .fold w n t => by simp only [chgT, openT, open_chg t]
theorem chg_id : ∀ (t : Te), chgT (fun s st => (s, st)) t = t
  | .num n => rfl
  | .index s st => rfl
  | .read k s st => rfl
  | .each w t => by simp only [chgT, chg_id t]
  | .pair w t u => by simp only [chgT, chg_id t, chg_id u]
  | .pick t u v => by simp only [chgT, chg_id t, chg_id u, chg_id v]
  | .fetch k s d m st t => by simp only [chgT, chg_id t]
  | .fold w n t => by simp only [chgT, chg_id t]
def chgF (way : Int) (side : Nat) (first step : Int) (s : Int) (st : List Int) : Int × List Int :=
  if way = 0 then (s, (st.drop 1).take 2 ++ st.take 1 ++ st.drop 3)
  else if way = 1 then (s + 2 * st.getD (side % 3) 0, st.take (side % 3) ++ [-st.getD (side % 3) 0] ++ st.drop (side % 3 + 1))
  else if way = 2 then (s + first * st.getD (side % 3) 0, st.take (side % 3) ++ [step * st.getD (side % 3) 0] ++ st.drop (side % 3 + 1))
  else (s, st.take side ++ [0] ++ st.drop side)
theorem link0 (side : Nat) (first step a b d : Int) : Link (chgF 0 side first step) [a, b, d] [d, a, b] := fun q s st l => by
  match st, l with
  | x :: y :: z :: r, l =>
    have lr : q.length = r.length := by simp only [List.length_append, List.length_cons, List.length_nil] at l; omega
    refine ⟨by simp [chgF, lr], ?_⟩
    show s + (y * a + (z * b + (x * d + dotI r q))) = s + (x * d + (y * a + (z * b + dotI r q)))
    omega
theorem link1 {side : Nat} (hs : side < 3) (first step a b d : Int) : Link (chgF 1 side first step) [a, b, d] ([a, b, d].set side (2 - [a, b, d].getD side 0)) := fun q s st l => by
  have l3 : 3 ≤ st.length := by rw [← l]; simp
  match st, l3, l with
  | [], l3, _ => exact absurd l3 (by decide)
  | [_], l3, _ => exact absurd l3 (by simp)
  | [_, _], l3, _ => exact absurd l3 (by simp)
  | x :: y :: z :: r, _, l =>
    have lr : q.length = r.length := by simp only [List.length_append, List.length_set, List.length_cons, List.length_nil] at l; omega
    rcases (show side = 0 ∨ side = 1 ∨ side = 2 by omega) with rfl | rfl | rfl
    · refine ⟨by simp [chgF, lr], ?_⟩
      show s + 2 * x + (-x * a + (y * b + (z * d + dotI r q))) = s + (x * (2 - a) + (y * b + (z * d + dotI r q)))
      rw [Int.neg_mul, Int.mul_sub, Int.mul_comm x 2]; omega
    · refine ⟨by simp [chgF, lr], ?_⟩
      show s + 2 * y + (x * a + (-y * b + (z * d + dotI r q))) = s + (x * a + (y * (2 - b) + (z * d + dotI r q)))
      rw [Int.neg_mul, Int.mul_sub, Int.mul_comm y 2]; omega
    · refine ⟨by simp [chgF, lr], ?_⟩
      show s + 2 * z + (x * a + (y * b + (-z * d + dotI r q))) = s + (x * a + (y * b + (z * (2 - d) + dotI r q)))
      rw [Int.neg_mul, Int.mul_sub, Int.mul_comm z 2]; omega
theorem link2 {side : Nat} (hs : side < 3) (first step a b d : Int) : Link (chgF 2 side first step) [a, b, d] ([a, b, d].set side (first + step * [a, b, d].getD side 0)) := fun q s st l => by
  have l3 : 3 ≤ st.length := by rw [← l]; simp
  match st, l3, l with
  | [], l3, _ => exact absurd l3 (by decide)
  | [_], l3, _ => exact absurd l3 (by simp)
  | [_, _], l3, _ => exact absurd l3 (by simp)
  | x :: y :: z :: r, _, l =>
    have lr : q.length = r.length := by simp only [List.length_append, List.length_set, List.length_cons, List.length_nil] at l; omega
    have e : ∀ u v : Int, first * u + step * u * v = u * (first + step * v) := fun u v => by rw [Int.mul_add, Int.mul_comm first u, Int.mul_comm step u, Int.mul_assoc]
    rcases (show side = 0 ∨ side = 1 ∨ side = 2 by omega) with rfl | rfl | rfl
    · refine ⟨by simp [chgF, lr], ?_⟩
      show s + first * x + (step * x * a + (y * b + (z * d + dotI r q))) = s + (x * (first + step * a) + (y * b + (z * d + dotI r q)))
      rw [← e x a]; omega
    · refine ⟨by simp [chgF, lr], ?_⟩
      show s + first * y + (x * a + (step * y * b + (z * d + dotI r q))) = s + (x * a + (y * (first + step * b) + (z * d + dotI r q)))
      rw [← e y b]; omega
    · refine ⟨by simp [chgF, lr], ?_⟩
      show s + first * z + (x * a + (y * b + (step * z * d + dotI r q))) = s + (x * a + (y * b + (z * (first + step * d) + dotI r q)))
      rw [← e z d]; omega
theorem link3 {way : Int} (w0 : ¬ way = 0) (w1 : ¬ way = 1) (w2 : ¬ way = 2) {side : Nat} (hs : side < 4) (first step a b d k : Int) : Link (chgF way side first step) ([a, b, d].take side ++ [k] ++ [a, b, d].drop side) [a, b, d] := fun q s st l => by
  match st, l with
  | x :: y :: z :: r, l =>
    have lr : q.length = r.length := by simp only [List.length_append, List.length_cons, List.length_nil] at l; omega
    have e : ∀ t : List Int, chgF way side first step s t = (s, t.take side ++ [0] ++ t.drop side) := fun t => by unfold chgF; rw [if_neg w0, if_neg w1, if_neg w2]
    rw [e]
    rcases (show side = 0 ∨ side = 1 ∨ side = 2 ∨ side = 3 by omega) with rfl | rfl | rfl | rfl
    · refine ⟨by simp [lr], ?_⟩
      show s + (0 * k + (x * a + (y * b + (z * d + dotI r q)))) = s + (x * a + (y * b + (z * d + dotI r q)))
      rw [Int.zero_mul]; omega
    · refine ⟨by simp [lr], ?_⟩
      show s + (x * a + (0 * k + (y * b + (z * d + dotI r q)))) = s + (x * a + (y * b + (z * d + dotI r q)))
      rw [Int.zero_mul]; omega
    · refine ⟨by simp [lr], ?_⟩
      show s + (x * a + (y * b + (0 * k + (z * d + dotI r q)))) = s + (x * a + (y * b + (z * d + dotI r q)))
      rw [Int.zero_mul]; omega
    · refine ⟨by simp [lr], ?_⟩
      show s + (x * a + (y * b + (z * d + (0 * k + dotI r q)))) = s + (x * a + (y * b + (z * d + dotI r q)))
      rw [Int.zero_mul]; omega
theorem ev_fin {S : List (List Int)} (hS : SOk S) : ∀ {t : Te} {c : List Int}, FinT S t c → inB (evT S t c).1
  | .num _, _, h => h
  | .index s st, c, h => h.2
  | .read k s st, c, h => by
    obtain ⟨r, _, _, _, e⟩ := cell_in hS h.1 (i := s + dotI st c) h.2.2.1 h.2.2.2
    exact e
  | .each w t, c, h => once_in h.1 (ev_fin hS h.2).1 (ev_fin hS h.2).2
  | .pair w t u, c, h => twice_in h.1 (ev_fin hS h.2.1) (ev_fin hS h.2.2)
  | .pick t u v, c, h => by
    show inB (if (evT S t c).1 = 0 then (evT S v c).1 else (evT S u c).1)
    split
    · exact ev_fin hS h.2.2
    · exact ev_fin hS h.2.1
  | .fetch k s d m st t, c, h => by
    obtain ⟨k3, _, d0, d1, m0, m1, z0, z1, wt⟩ := h
    have r0 : 0 ≤ (evT S t c).1 % m := Int.emod_nonneg _ (by omega)
    have r1 : (evT S t c).1 % m < m := Int.emod_lt_of_pos _ (by omega)
    have p : -3 ≤ d * ((evT S t c).1 % m) ∧ d * ((evT S t c).1 % m) ≤ 3 := by
      rcases (show d = -1 ∨ d = 0 ∨ d = 1 by omega) with rfl | rfl | rfl <;> omega
    obtain ⟨r, _, _, _, e⟩ := cell_in hS k3 (i := s + dotI st c + d * ((evT S t c).1 % m)) (by omega) (by omega)
    exact e
  | .fold w k t, c, h => fold_in h.1 fun j hj => ev_fin hS (h.2.2 j hj)
theorem fin_of {S : List (List Int)} : ∀ {t : Te} {n : Nat} {c : List Int}, WfT n t → atOk n c → openT t + n ≤ 5 → FinT S t c
  | .num _, _, _, h, _, _ => h
  | .index s st, n, c, h, hc, o => by
    have := spot_in (by simp only [openT] at o; omega) h.1 h.2.1 h.2.2 hc
    exact ⟨by rw [hc.1, h.2.2.1], by unfold inB; omega⟩
  | .read k s st, n, c, h, hc, o => by
    have := spot_in (by simp only [openT] at o; omega) h.2.1 h.2.2.1 h.2.2.2 hc
    exact ⟨h.1, by rw [hc.1, h.2.2.2.1], by omega, by omega⟩
  | .each w t, n, c, h, hc, o => ⟨h.1, fin_of h.2 hc o⟩
  | .pair w t u, n, c, h, hc, o => by simp only [openT] at o; exact ⟨h.1, fin_of h.2.1 hc (by omega), fin_of h.2.2 hc (by omega)⟩
  | .pick t u v, n, c, h, hc, o => by simp only [openT] at o; exact ⟨fin_of h.1 hc (by omega), fin_of h.2.1 hc (by omega), fin_of h.2.2 hc (by omega)⟩
  | .fetch k s d m st t, n, c, h, hc, o => by
    obtain ⟨k3, s0, s1, d0, d1, m0, m1, so, wt⟩ := h
    have := spot_in (by simp only [openT] at o; omega) s0 s1 so hc
    exact ⟨k3, by rw [hc.1, so.1], d0, d1, m0, m1, by omega, by omega, fin_of wt hc o⟩
  | .fold w k t, n, c, h, hc, o => ⟨h.1, h.2.1, fun j hj => fin_of h.2.2 (hc.snoc (by have := h.2.1; omega)) (by simp only [openT] at o; omega)⟩
theorem kid_fin {S : List (List Int)} {t u : Te} {c : List Int} (nf : ¬ freeE t) (fo : foldE t = false) (h : FinT S t c) (m : u ∈ kidsE t) : FinT S u c ∧ openT u ≤ openT t ∧ depthT (trOf u) < depthT (trOf t) := by
  cases t with
  | num => exact absurd trivial nf
  | index => exact absurd trivial nf
  | read => exact absurd trivial nf
  | fold => cases fo
  | each w t => cases List.mem_singleton.mp m; exact ⟨h.2, Nat.le_refl _, Nat.lt_succ_self _⟩
  | fetch k s d mm st t => cases List.mem_singleton.mp m; exact ⟨h.2.2.2.2.2.2.2.2, Nat.le_refl _, Nat.lt_succ_self _⟩
  | pair w t v =>
    simp only [openT, trOf, depthT]
    rcases List.mem_cons.mp m with z | z
    · subst z; exact ⟨h.2.1, by omega, by omega⟩
    · cases List.mem_singleton.mp z; exact ⟨h.2.2, by omega, by omega⟩
  | pick t v x =>
    simp only [openT, trOf, depthT]
    rcases List.mem_cons.mp m with z | z
    · subst z; exact ⟨h.1, by omega, by omega⟩
    rcases List.mem_cons.mp z with z | z
    · subst z; exact ⟨h.2.1, by omega, by omega⟩
    · cases List.mem_singleton.mp z; exact ⟨h.2.2, by omega, by omega⟩
def ChgH (P : Program) (w : World) (K : PySem.W.Frag) (mg : Str → Option Value) (base : Heap) (H : Hp) (fa : Addr) (f : Int → List Int → Int × List Int) : Prop := FnV H fa ∧ ∀ (s : Int) (st : List Int) (H1 : Hp) (p : Addr) (Q' : VK), Same H H1 → H1 p = some (.tup (st.map V.int)) → 3 ≤ st.length → st.length ≤ 5 → (∀ x ∈ st, -1 ≤ x ∧ x ≤ 2) → (∀ H2 r p2, Same H1 H2 → H2 r = some (.tup [.int (f s st).1, .ref p2]) → H2 p2 = some (.tup ((f s st).2.map V.int)) → Q' (.ref r) H2) → CallV P w K mg base 6 fa [.int s, .ref p] H1 Q'
theorem ChgH.same {P : Program} {w : World} {K : PySem.W.Frag} {mg : Str → Option Value} {base : Heap} {H H' : Hp} {fa : Addr} {f : Int → List Int → Int × List Int} (h : ChgH P w K mg base H fa f) (s : Same H H') : ChgH P w K mg base H' fa f := ⟨h.1.same fun o e => s _ _ e, fun s0 st H1 p Q' u => h.2 s0 st H1 p Q' (s.trans u)⟩
def RootIs (H : Hp) (f : Int → List Int → Int × List Int) : Te → List V → Prop
  | .num n, xs => xs = [.str "num", .int n]
  | .index s st, xs => ∃ p, xs = [.str "index", .int (f s st).1, .ref p] ∧ H p = some (.tup ((f s st).2.map V.int))
  | .read k s st, xs => ∃ p, xs = [.str "read", .int (k : Int), .int (f s st).1, .ref p] ∧ H p = some (.tup ((f s st).2.map V.int))
  | .each w _, xs => xs = [.str "each", .str w]
  | .pair w _ _, xs => xs = [.str "pair", .str w]
  | .pick _ _ _, xs => xs = [.str "pick"]
  | .fetch k s d m st _, xs => ∃ p, xs = [.str "fetch", .int (k : Int), .int (f s st).1, .int d, .int m, .ref p] ∧ H p = some (.tup ((f s st).2.map V.int))
  | .fold w n _, xs => xs = [.str "fold", .str w, .int (n : Int)]
def sprootrem (P : Program) (w : World) (K : PySem.W.Frag) (mg : Str → Option Value) (base : Heap) : Sp := fun vs H Q _ => ∃ (ta fa : Addr) (t : Te) (n : Nat) (f : Int → List Int → Int × List Int), vs = [.ref ta, .ref fa] ∧ TeAt H t ta ∧ WfT n t ∧ 3 ≤ n ∧ n ≤ 5 ∧ ChgH P w K mg base H fa f ∧ ∀ H' r xs, Same H H' → H' r = some (.tup xs) → RootIs H' f t xs → Q (.ref r) H'
def spremade (P : Program) (w : World) (K : PySem.W.Frag) (mg : Str → Option Value) (base : Heap) : Nat → Sp
  | 0 => fun _ _ _ _ => False
  | d + 1 => fun vs H Q _ => ∃ (ta fa : Addr) (t : Te) (n : Nat) (f : Int → List Int → Int × List Int), vs = [.ref ta, .ref fa] ∧ TeAt H t ta ∧ WfT n t ∧ 3 ≤ n ∧ openT t + n ≤ 5 ∧ depthT (trOf t) ≤ d ∧ ChgH P w K mg base H fa f ∧ ∀ H' r, Same H H' → TeAt H' (chgT f t) r → Q (.ref r) H'
theorem cut_to (xs : List V) (k : Int) (n : Nat) (h : k = n) : cutV xs none (some k) = xs.take n := by
  subst h
  unfold cutV
  simp only [HT.sIx]
  rw [if_neg (by omega), Int.toNat_natCast, List.drop_zero, Nat.sub_zero]
  by_cases c : n ≤ xs.length
  · rw [Nat.min_eq_left c]
  · rw [Nat.min_eq_right (by omega), List.take_of_length_le (by omega), List.take_of_length_le (by omega)]
def formE : Te → Str
  | .num _ => "num" | .index _ _ => "index" | .read _ _ _ => "read" | .each _ _ => "each" | .pair _ _ _ => "pair" | .pick _ _ _ => "pick" | .fetch _ _ _ _ _ _ => "fetch" | .fold _ _ _ => "fold"
theorem te_view {H : Hp} {t : Te} {a : Addr} (h : TeAt H t a) : ∃ xs, H a = some (.tup (.str (formE t) :: xs)) := by
  cases t with
  | num n => exact ⟨_, h⟩
  | index s st => obtain ⟨p, e, _⟩ := h; exact ⟨_, e⟩
  | read k s st => obtain ⟨p, e, _⟩ := h; exact ⟨_, e⟩
  | each w t => obtain ⟨p, e, _⟩ := h; exact ⟨_, e⟩
  | pair w t u => obtain ⟨p, q, e, _⟩ := h; exact ⟨_, e⟩
  | pick t u v => obtain ⟨p, q, r, e, _⟩ := h; exact ⟨_, e⟩
  | fetch k s d m st t => obtain ⟨p, q, e, _⟩ := h; exact ⟨_, e⟩
  | fold w n t => obtain ⟨p, e, _⟩ := h; exact ⟨_, e⟩
theorem inv_index {t : Te} (c : formE t = Str.ofString "index") : ∃ s st, t = .index s st := by
  cases t <;> first | exact ⟨_, _, rfl⟩ | exact absurd c (of_decide_eq_false (by kernel_rfl))
theorem inv_read {t : Te} (c : formE t = Str.ofString "read") : ∃ k s st, t = .read k s st := by
  cases t <;> first | exact ⟨_, _, _, rfl⟩ | exact absurd c (of_decide_eq_false (by kernel_rfl))
theorem inv_fetch {t : Te} (c : formE t = Str.ofString "fetch") : ∃ k s d m st u, t = .fetch k s d m st u := by
  cases t <;> first | exact ⟨_, _, _, _, _, _, rfl⟩ | exact absurd c (of_decide_eq_false (by kernel_rfl))
theorem te_root {H : Hp} {f : Int → List Int → Int × List Int} {t : Te} {xs : List V} {ps : List Addr} {r : Addr} (h : RootIs H f t xs) (k : TesAt H ((kidsE t).map (chgT f)) ps) (hr : H r = some (.tup (xs ++ ps.map V.ref))) (wf : ∀ w n u, t = .fold w n u → n ≤ 3) : TeAt H (chgT f t) r := by
  have g0 := k.1
  have at_ := k.2
  cases t with
  | num n =>
    cases ps with
    | nil => cases h; exact hr
    | cons a b => cases g0
  | index s st =>
    cases ps with
    | nil => obtain ⟨p, rfl, hp⟩ := h; exact ⟨p, hr, hp⟩
    | cons a b => cases g0
  | read kk s st =>
    cases ps with
    | nil => obtain ⟨p, rfl, hp⟩ := h; exact ⟨p, hr, hp⟩
    | cons a b => cases g0
  | each w t =>
    obtain ⟨p, e, hp⟩ := at_ 0 _ rfl
    match ps, g0, e with
    | [_], _, e => cases e; cases h; exact ⟨p, hr, hp⟩
  | pair w t u =>
    obtain ⟨p, e, hp⟩ := at_ 0 _ rfl
    obtain ⟨p', e', hp'⟩ := at_ 1 _ rfl
    match ps, g0, e, e' with
    | [_, _], _, e, e' => cases e; cases e'; cases h; exact ⟨p, p', hr, hp, hp'⟩
  | pick t u v =>
    obtain ⟨p, e, hp⟩ := at_ 0 _ rfl
    obtain ⟨p', e', hp'⟩ := at_ 1 _ rfl
    obtain ⟨p'', e'', hp''⟩ := at_ 2 _ rfl
    match ps, g0, e, e', e'' with
    | [_, _, _], _, e, e', e'' => cases e; cases e'; cases e''; cases h; exact ⟨p, p', p'', hr, hp, hp', hp''⟩
  | fetch kk s d m st t =>
    obtain ⟨p, e, hp⟩ := at_ 0 _ rfl
    match ps, g0, e with
    | [_], _, e => cases e; obtain ⟨q, rfl, hq⟩ := h; exact ⟨q, p, hr, hq, hp⟩
  | fold w n t =>
    obtain ⟨p, e, hp⟩ := at_ 0 _ rfl
    match ps, g0, e with
    | [_], _, e => cases e; cases h; exact ⟨p, hr, hp, wf _ _ _ rfl⟩
theorem RootIs.same {H H' : Hp} {f : Int → List Int → Int × List Int} {t : Te} {xs : List V} (h : RootIs H f t xs) (s : Same H H') : RootIs H' f t xs := by
  cases t with
  | index => obtain ⟨p, e, hp⟩ := h; exact ⟨p, e, s _ _ hp⟩
  | read => obtain ⟨p, e, hp⟩ := h; exact ⟨p, e, s _ _ hp⟩
  | fetch => obtain ⟨p, e, hp⟩ := h; exact ⟨p, e, s _ _ hp⟩
  | _ => exact h
theorem root_len {H : Hp} {f : Int → List Int → Int × List Int} {t : Te} {xs : List V} (h : RootIs H f t xs) : xs.length ≤ 6 := by
  cases t with
  | index => obtain ⟨p, rfl, hp⟩ := h; exact of_decide_eq_true rfl
  | read => obtain ⟨p, rfl, hp⟩ := h; exact of_decide_eq_true rfl
  | fetch => obtain ⟨p, rfl, hp⟩ := h; exact of_decide_eq_true rfl
  | _ => cases h; exact of_decide_eq_true rfl
theorem kid_wf {t u : Te} {n : Nat} (wf : WfT n t) (o : openT t + n ≤ 5) (h : u ∈ kidsE t) : ∃ m, n ≤ m ∧ WfT m u ∧ openT u + m ≤ 5 ∧ depthT (trOf u) < depthT (trOf t) := by
  cases t with
  | num => exact nomatch h
  | index => exact nomatch h
  | read => exact nomatch h
  | each w t => cases List.mem_singleton.mp h; exact ⟨n, Nat.le_refl _, wf.2, o, Nat.lt_succ_self _⟩
  | fetch k s d m st t => cases List.mem_singleton.mp h; exact ⟨n, Nat.le_refl _, wf.2.2.2.2.2.2.2.2, o, Nat.lt_succ_self _⟩
  | fold w k t => cases List.mem_singleton.mp h; simp only [openT] at o; exact ⟨n + 1, Nat.le_succ _, wf.2.2, by omega, Nat.lt_succ_self _⟩
  | pair w t v =>
    simp only [openT] at o
    simp only [trOf, depthT]
    rcases List.mem_cons.mp h with z | z
    · subst z; exact ⟨n, Nat.le_refl _, wf.2.1, by omega, by omega⟩
    · cases List.mem_singleton.mp z; exact ⟨n, Nat.le_refl _, wf.2.2, by omega, by omega⟩
  | pick t v x =>
    simp only [openT] at o
    simp only [trOf, depthT]
    rcases List.mem_cons.mp h with z | z
    · subst z; exact ⟨n, Nat.le_refl _, wf.1, by omega, by omega⟩
    rcases List.mem_cons.mp z with z | z
    · subst z; exact ⟨n, Nat.le_refl _, wf.2.1, by omega, by omega⟩
    · cases List.mem_singleton.mp z; exact ⟨n, Nat.le_refl _, wf.2.2, by omega, by omega⟩
theorem root_cut {H : Hp} {f : Int → List Int → Int × List Int} {t : Te} {a : Addr} (h : TeAt H t a) (c1 : ¬ formE t = Str.ofString "index") (c2 : ¬ formE t = Str.ofString "read") (c3 : ¬ formE t = Str.ofString "fetch") : ∃ zs k, H a = some (.tup zs) ∧ zs.length = k + (kidsE t).length ∧ RootIs H f t (zs.take k) := by
  cases t with
  | num n => exact ⟨_, 2, h, rfl, rfl⟩
  | index s st => exact absurd rfl c1
  | read k s st => exact absurd rfl c2
  | each w t => obtain ⟨p, e, _⟩ := h; exact ⟨_, 2, e, rfl, rfl⟩
  | pair w t u => obtain ⟨p, q, e, _⟩ := h; exact ⟨_, 2, e, rfl, rfl⟩
  | pick t u v => obtain ⟨p, q, r, e, _⟩ := h; exact ⟨_, 1, e, rfl, rfl⟩
  | fetch k s d m st t => exact absurd rfl c3
  | fold w n t => obtain ⟨p, e, _⟩ := h; exact ⟨_, 3, e, rfl, rfl⟩
theorem get_some {ns : List Int} {k : Nat} (hk : k < ns.length) : ns[k]? = some (ns.getD k 0) := by rw [List.getD_eq_getElem?_getD, List.getElem?_eq_getElem hk]; rfl
theorem at_int {r : List Int} {i x : Int} (i0 : 0 ≤ i) (h : r[i.toNat]? = some x) : atI (r.map V.int) i = some (.int x) := by
  have z := atI_nat (xs := r.map V.int) (j := i.toNat) (v := .int x) (by rw [List.getElem?_map, h]; rfl)
  rwa [show ((i.toNat : Nat) : Int) = i by omega] at z
theorem at_side {ss : List Int} {k : Nat} (h : k < ss.length) : atI (ss.map V.int) (k : Int) = some (.int (ss.getD k 0)) := at_int (Int.natCast_nonneg k) (by rw [Int.toNat_natCast]; exact get_some h)
theorem getD_memI {ns : List Int} {k : Nat} (h : k < ns.length) : ns.getD k 0 ∈ ns := by rw [List.getD_eq_getElem?_getD, List.getElem?_eq_getElem h]; exact List.getElem_mem h
def splchange (P : Program) (w : World) (K : PySem.W.Frag) (mg : Str → Option Value) (base : Heap) (T : Addr) : Sp := fun vs H Q _ => ∃ (way : Int) (side : Nat) (first step : Int), vs = [.int way, .int (side : Int), .int first, .int step] ∧ TabOk H T ⟨225, 4, 234, 87⟩ "_law_change.<locals>._law_change_here" ∧ side < 4 ∧ 0 ≤ first ∧ first ≤ 1 ∧ 1 ≤ step ∧ step ≤ 2 ∧
  ∀ (H' : Hp) (fa : Addr) (L : List Addr), (∀ b ∈ L, ∃ o, H' b = some o ∧ ∀ ps, o ≠ .tbl ps) → (∀ H1, (∀ b ∈ L, ∀ o, H' b = some o → H1 b = some o) → ChgH P w K mg base H1 fa (chgF way side first step)) → TabOk H' T ⟨225, 4, 234, 87⟩ "_law_change.<locals>._law_change_here" → (∀ b o, b ≠ T → H b = some o → H' b = some o) → Q (.ref fa) H'
theorem cut13 {st : List Int} (h : 3 ≤ st.length) : cutV (st.map V.int) (some 1) (some 3) = ((st.drop 1).take 2).map V.int := by
  unfold cutV
  simp only [HT.sIx, List.length_map]
  rw [if_neg (by omega), if_neg (by omega), show min (3 : Int).toNat st.length = 3 by show min 3 st.length = 3; omega, show min (1 : Int).toNat st.length = 1 by show min 1 st.length = 1; omega, List.map_take, List.map_drop]
theorem min_tup {H : Hp} {cl : List (Str × Addr)} {vcs : List V} {p : Addr} {xs : List V} (h : CelAt H cl vcs) (e : H p = some (.tup xs)) : minC H cl p = some (.tup xs) := by
  rw [minC_out fun q hq z => ?_]
  · exact e
  · obtain ⟨o, v, g⟩ := h.mem hq
    rw [z, e] at g; cases g
theorem same_res {H H' : Hp} {cl : List (Str × Addr)} (s : Same (minC H cl) H') : Same H (resC H H' cl) := fun b o e => by
  by_cases c : ∃ q ∈ cl, q.2 = b
  · obtain ⟨q, hq, rfl⟩ := c
    rw [resC_in hq]; exact e
  · have n : ∀ q ∈ cl, q.2 ≠ b := fun q hq z => c ⟨q, hq, z⟩
    rw [resC_out n]; exact s _ _ (by rw [minC_out n]; exact e)
theorem res_tup {H H' : Hp} {cl : List (Str × Addr)} {p : Addr} {xs : List V} (n : ∀ q ∈ cl, H' q.2 = none) (e : H' p = some (.tup xs)) : resC H H' cl p = some (.tup xs) := by
  rw [resC_out fun q hq z => by rw [← z, n q hq] at e; cases e]; exact e
theorem fc0 {α : Type} {p : α → Prop} : ∀ x ∈ ([] : List α), p x := fun _ h => nomatch h
theorem fc {α : Type} {p : α → Prop} {a : α} {l : List α} (h : p a) (t : ∀ x ∈ l, p x) : ∀ x ∈ a :: l, p x := fun x hx => by
  rcases List.mem_cons.mp hx with rfl | hx
  · exact h
  · exact t x hx
def fromF (way : Int) (side : Nat) (first step : Int) (c : List Int) : List Int :=
  if way = 0 then [c.getD 2 0, c.getD 0 0, c.getD 1 0] else if way = 1 then c.set (side % 3) (2 - c.getD (side % 3) 0) else if way = 2 then c.set (side % 3) (first + step * c.getD (side % 3) 0) else c.eraseIdx side
def splfrom : Sp := fun vs H Q _ => ∃ (way : Int) (side : Nat) (first step : Int) (b : Addr) (c : List Int), vs = [.int way, .int (side : Int), .int first, .int step, .ref b] ∧ H b = some (.tup (c.map V.int)) ∧ 3 ≤ c.length ∧ c.length ≤ 4 ∧ side < 4 ∧ 0 ≤ step ∧ step ≤ 2 ∧ ∀ H' r, Same H H' → H' r = some (.tup ((fromF way side first step c).map V.int)) → Q (.ref r) H'
theorem set_mid {ss : List Int} {k : Nat} {x : Int} (kl : k < ss.length) : ss.take k ++ [x] ++ ss.drop (k + 1) = ss.set k x := by
  rw [List.set_eq_take_append_cons_drop, if_pos kl, List.append_assoc]; rfl
def AlkL (H : Hp) (d : Nat) (xs ys : List V) : Prop := xs.length = ys.length ∧ ∀ (i : Nat) z w, xs[i]? = some z → ys[i]? = some w → AlkV H d z w
theorem alk_nil {H : Hp} {d : Nat} : AlkL H d [] [] := ⟨rfl, fun i z w e => nomatch e⟩
theorem alk_cons {H : Hp} {d : Nat} {x y : V} {xs ys : List V} (h : AlkV H d x y) (t : AlkL H d xs ys) : AlkL H d (x :: xs) (y :: ys) := ⟨congrArg Nat.succ t.1, fun i z w e1 e2 => by
  match i, e1, e2 with
  | 0, e1, e2 => cases e1; cases e2; exact h
  | i + 1, e1, e2 => exact t.2 i z w e1 e2⟩
theorem alkT {H : Hp} {d : Nat} {a b : Addr} {xs ys : List V} (ha : H a = some (.tup xs)) (hb : H b = some (.tup ys)) (h : AlkL H d xs ys) : AlkV H (d + 1) (.ref a) (.ref b) := .inr ⟨a, b, xs, ys, rfl, rfl, .inr ⟨ha, hb⟩, h.1, h.2⟩
theorem te_alk {H : Hp} : ∀ {t : Te} {d : Nat} {a b : Addr}, TeAt H t a → TeAt H t b → AlkV H (d + depthT (trOf t) + 2) (.ref a) (.ref b)
  | .num _, d, a, b, h, g => alkT h g (alk_cons (.flat rfl) (alk_cons (.flat rfl) alk_nil))
  | .index _ _, d, a, b, ⟨p, e, h⟩, ⟨p', e', h'⟩ => alkT e e' (alk_cons (.flat rfl) (alk_cons (.flat rfl) (alk_cons (AlkV.tup h h' (flat_ints _)) alk_nil)))
  | .read _ _ _, d, a, b, ⟨p, e, h⟩, ⟨p', e', h'⟩ => alkT e e' (alk_cons (.flat rfl) (alk_cons (.flat rfl) (alk_cons (.flat rfl) (alk_cons (AlkV.tup h h' (flat_ints _)) alk_nil))))
  | .each _ t, d, a, b, ⟨p, e, h⟩, ⟨p', e', h'⟩ => alkT (d := d + depthT (trOf t) + 2) e e' (alk_cons (.flat rfl) (alk_cons (.flat rfl) (alk_cons (te_alk h h') alk_nil)))
  | .pair _ t u, d, a, b, ⟨p, q, e, h, k⟩, ⟨p', q', e', h', k'⟩ => by
    have m1 : d + max (depthT (trOf t)) (depthT (trOf u)) = (d + max (depthT (trOf t)) (depthT (trOf u)) - depthT (trOf t)) + depthT (trOf t) := by omega
    have m2 : d + max (depthT (trOf t)) (depthT (trOf u)) = (d + max (depthT (trOf t)) (depthT (trOf u)) - depthT (trOf u)) + depthT (trOf u) := by omega
    refine alkT (d := d + max (depthT (trOf t)) (depthT (trOf u)) + 2) e e' (alk_cons (.flat rfl) (alk_cons (.flat rfl) (alk_cons ?_ (alk_cons ?_ alk_nil))))
    · rw [m1]; exact te_alk h h'
    · rw [m2]; exact te_alk k k'
  | .pick t u v, d, a, b, ⟨p, q, r, e, h, k, l⟩, ⟨p', q', r', e', h', k', l'⟩ => by
    have m1 : d + max (depthT (trOf t)) (max (depthT (trOf u)) (depthT (trOf v))) = (d + max (depthT (trOf t)) (max (depthT (trOf u)) (depthT (trOf v))) - depthT (trOf t)) + depthT (trOf t) := by omega
    have m2 : d + max (depthT (trOf t)) (max (depthT (trOf u)) (depthT (trOf v))) = (d + max (depthT (trOf t)) (max (depthT (trOf u)) (depthT (trOf v))) - depthT (trOf u)) + depthT (trOf u) := by omega
    have m3 : d + max (depthT (trOf t)) (max (depthT (trOf u)) (depthT (trOf v))) = (d + max (depthT (trOf t)) (max (depthT (trOf u)) (depthT (trOf v))) - depthT (trOf v)) + depthT (trOf v) := by omega
    refine alkT (d := d + max (depthT (trOf t)) (max (depthT (trOf u)) (depthT (trOf v))) + 2) e e' (alk_cons (.flat rfl) (alk_cons ?_ (alk_cons ?_ (alk_cons ?_ alk_nil))))
    · rw [m1]; exact te_alk h h'
    · rw [m2]; exact te_alk k k'
    · rw [m3]; exact te_alk l l'
  | .fetch _ _ _ _ _ t, d, a, b, ⟨p, q, e, h, k⟩, ⟨p', q', e', h', k'⟩ => alkT (d := d + depthT (trOf t) + 2) e e' (alk_cons (.flat rfl) (alk_cons (.flat rfl) (alk_cons (.flat rfl) (alk_cons (.flat rfl) (alk_cons (.flat rfl) (alk_cons (AlkV.tup h h' (flat_ints _)) (alk_cons (te_alk k k') alk_nil)))))))
  | .fold _ _ t, d, a, b, ⟨p, e, h, _⟩, ⟨p', e', h', _⟩ => alkT (d := d + depthT (trOf t) + 2) e e' (alk_cons (.flat rfl) (alk_cons (.flat rfl) (alk_cons (.flat rfl) (alk_cons (te_alk h h') alk_nil))))
def SmP (T : Addr) (H H' : Hp) : Prop := ∀ b o, b ≠ T → H b = some o → H' b = some o
theorem SmP.trans {T : Addr} {H H1 H2 : Hp} (a : SmP T H H1) (b : SmP T H1 H2) : SmP T H H2 := fun c o n e => b c o n (a c o n e)
theorem SmP.of {T : Addr} {H H1 : Hp} (a : Same H H1) : SmP T H H1 := fun c o _ e => a c o e
theorem SmP.keep {T : Addr} {H H1 : Hp} (a : SmP T H H1) {pos : Pos} {qual : Str} (t : TabOk H T pos qual) {b : Addr} {o : HO} (n : ∀ ps, o ≠ .tbl ps) (e : H b = some o) : H1 b = some o := a b o (fun z => by
  obtain ⟨ps, ht, _⟩ := t
  rw [z, ht] at e
  exact n ps (Option.some.inj e).symm) e
def splawT (K : PySem.W.Frag) (Ts : List Addr) : Sp := fun vs H Q _ => ∃ (a : Addr) (ns : List Int), vs = [.ref a] ∧ SqL K H a (ns.map V.int) ∧ ns.length ≤ 63 ∧ (∀ T ∈ Ts, H T = some (.tbl #[])) ∧ ∀ H', Q (.bl true) H'
def cellF (ns : List Int) (i j : Nat) : Int := if 0 < ns.length then ns.getD ((48 * (i : Int) + (j : Int)) % (ns.length : Int)).toNat 0 + (i : Int) else (i : Int)
def valF (ns : List Int) (i j : Nat) : Int := if (cellF ns i j + (j : Int)) % 3 = 0 then cellF ns i j % 5 - 2 else (cellF ns i j * 998244359987710471 + ((j : Int) * (j : Int) + 1) * 1442695040888963407) % 18446744073709551616 - 9223372036854775808
def rowF (ns : List Int) (i n : Nat) : List Int := (List.range n).map (valF ns i)
theorem rowF_len (ns : List Int) (i n : Nat) : (rowF ns i n).length = n := by unfold rowF; rw [List.length_map, List.length_range]
theorem rowF_succ (ns : List Int) (i n : Nat) : rowF ns i (n + 1) = rowF ns i n ++ [valF ns i n] := by unfold rowF; rw [List.range_succ, List.map_append]; rfl
def storesF (ns : List Int) (n : Nat) : List (List Int) := (List.range n).map (fun i => rowF ns i 48)
theorem storesF_len (ns : List Int) (n : Nat) : (storesF ns n).length = n := by unfold storesF; rw [List.length_map, List.length_range]
theorem storesF_succ (ns : List Int) (n : Nat) : storesF ns (n + 1) = storesF ns n ++ [rowF ns n 48] := by unfold storesF; rw [List.range_succ, List.map_append]; rfl
def SmT (H H' : Hp) : Prop := ∀ a o, (∀ ps, o ≠ .tbl ps) → H a = some o → H' a = some o
theorem SmT.of {H H' : Hp} (h : Same H H') : SmT H H' := fun a o _ e => h a o e
theorem SmT.lst {H H' : Hp} (h : SmT H H') {a : Addr} {xs : List V} (e : H a = some (.lst xs)) : H' a = some (.lst xs) := h a _ (fun _ z => by cases z) e
theorem SmT.seq {K : PySem.W.Frag} {H H' : Hp} {a : Addr} {xs : List V} (e : SmT H H') (h : SqL K H a xs) : SqL K H' a xs := by
  rcases h with (h | ⟨o, h⟩) | h
  · exact .inl (.inl (e.lst h))
  · exact .inl (.inr ⟨o, e _ _ (fun _ z => by cases z) h⟩)
  · exact .inr h
theorem SmP.smT {T : Addr} {H H1 : Hp} (a : SmP T H H1) {pos : Pos} {qual : Str} (t : TabOk H T pos qual) : SmT H H1 := fun b o n e => a.keep t n e
theorem rows_x {H : Hp} {l : Addr} {S : List (List Int)} {ps : List Addr} (h : RowsL H l S ps) : RowsX HO.lst H S ps := ⟨h.1, fun i r e => let ⟨p, e1, _, g⟩ := h.2 i r e; ⟨p, e1, g⟩⟩
theorem rows_sm {H H' : Hp} {S : List (List Int)} {ps : List Addr} (h : RowsX HO.lst H S ps) (s : SmT H H') : RowsX HO.lst H' S ps := ⟨h.1, fun i r e => let ⟨p, e1, g⟩ := h.2 i r e; ⟨p, e1, s _ _ (fun ps z => by cases z) g⟩⟩
theorem te_sm {H H' : Hp} {t : Te} {a : Addr} (h : TeAt H t a) (s : SmT H H') : TeAt H' t a := h.sameT fun b xs e => s _ _ (fun ps z => by cases z) e
theorem SmT.trans {H H1 H2 : Hp} (a : SmT H H1) (b : SmT H1 H2) : SmT H H2 := fun c o n e => b c o n (a c o n e)
def CsOk (cs : List Int) : Prop := 3 ≤ cs.length ∧ ∀ x ∈ cs, 0 ≤ x
theorem cut3 (ns : List Int) : ∃ ms : List Int, cutV (ns.map V.int) none (some 3) = ms.map V.int ∧ ms.length ≤ 3 := ⟨ns.take 3, cut_any ns 3, by rw [List.length_take]; omega⟩
theorem atOk3 {a b d : Int} (ha : 0 ≤ a ∧ a ≤ 2) (hb : 0 ≤ b ∧ b ≤ 2) (hd : 0 ≤ d ∧ d ≤ 2) : atOk 3 [a, b, d] := ⟨rfl, fun x hx => by
  rcases List.mem_cons.mp hx with rfl | hx
  · exact ha
  rcases List.mem_cons.mp hx with rfl | hx
  · exact hb
  · cases List.mem_singleton.mp hx; exact hd⟩
theorem tr_chg {f : Int → List Int → Int × List Int} : ∀ (t : Te), trOf (chgT f t) = trOf t
  | .num n => rfl
  | .index s st => rfl
  | .read k s st => rfl
  | .each w t => by simp only [chgT, trOf, tr_chg t]
  | .pair w t u => by simp only [chgT, trOf, tr_chg t, tr_chg u]
  | .pick t u v => by simp only [chgT, trOf, tr_chg t, tr_chg u, tr_chg v]
  | .fetch k s d m st t => by simp only [chgT, trOf, tr_chg t]
  | .fold w n t => by simp only [chgT, trOf, tr_chg t]
def AtOK (way : Int) (side : Nat) (first step : Int) (c : List Int) : Prop := Link (chgF way side first step) c (fromF way side first step c) ∧ atOk 3 (fromF way side first step c) ∧ cOk c ∧ 3 ≤ c.length ∧ c.length ≤ 4
theorem cOk3 {u v z : Int} (hu : 0 ≤ u ∧ u ≤ 2) (hv : 0 ≤ v ∧ v ≤ 2) (hz : 0 ≤ z ∧ z ≤ 2) : cOk [u, v, z] := fun x hx => by
  have := (atOk3 hu hv hz).2 x hx; omega
theorem at_done {way : Int} {side : Nat} {first step u v z : Int} (w0 : 0 ≤ way) (w3 : way ≤ 3) (n3 : ¬ way = 3) (s3 : side < 3) (hu : 0 ≤ u ∧ u ≤ 2) (hv : 0 ≤ v ∧ v ≤ 2) (hz : 0 ≤ z ∧ z ≤ 2) (f0 : 0 ≤ first) (t0 : 1 ≤ step) (h2 : way = 2 → first + step * [u, v, z].getD side 0 ≤ 2) : AtOK way side first step [u, v, z] := by
  have sm : side % 3 = side := Nat.mod_eq_of_lt s3
  have nn : ∀ y : Int, 0 ≤ y → 0 ≤ first + step * y := fun y hy => by have := Int.mul_nonneg (show 0 ≤ step by omega) hy; omega
  rcases (show way = 0 ∨ way = 1 ∨ way = 2 by omega) with rfl | rfl | rfl
  · exact ⟨link0 side first step u v z, atOk3 hz hu hv, cOk3 hu hv hz, Nat.le_refl _, Nat.le_succ _⟩
  · have e : fromF 1 side first step [u, v, z] = [u, v, z].set side (2 - [u, v, z].getD side 0) := by unfold fromF; rw [if_neg (by decide), if_pos rfl, sm]
    refine ⟨by rw [e]; exact link1 s3 first step u v z, ?_, cOk3 hu hv hz, Nat.le_refl _, Nat.le_succ _⟩
    rw [e]
    rcases (show side = 0 ∨ side = 1 ∨ side = 2 by omega) with rfl | rfl | rfl
    · exact atOk3 (a := 2 - u) (by omega) hv hz
    · exact atOk3 (b := 2 - v) hu (by omega) hz
    · exact atOk3 (d := 2 - z) hu hv (by omega)
  · have e : fromF 2 side first step [u, v, z] = [u, v, z].set side (first + step * [u, v, z].getD side 0) := by unfold fromF; rw [if_neg (by decide), if_neg (by decide), if_pos rfl, sm]
    have h2 := h2 rfl
    refine ⟨by rw [e]; exact link2 s3 first step u v z, ?_, cOk3 hu hv hz, Nat.le_refl _, Nat.le_succ _⟩
    rw [e]
    rcases (show side = 0 ∨ side = 1 ∨ side = 2 by omega) with rfl | rfl | rfl
    · exact atOk3 (a := first + step * u) ⟨nn u hu.1, h2⟩ hv hz
    · exact atOk3 (b := first + step * v) hu ⟨nn v hv.1, h2⟩ hz
    · exact atOk3 (d := first + step * z) hu hv ⟨nn z hz.1, h2⟩
theorem at_done3 {side : Nat} {first step u v z k : Int} (s4 : side < 4) (hu : 0 ≤ u ∧ u ≤ 2) (hv : 0 ≤ v ∧ v ≤ 2) (hz : 0 ≤ z ∧ z ≤ 2) (hk : 0 ≤ k ∧ k ≤ 4) : AtOK 3 side first step ([u, v, z].take side ++ [k] ++ [u, v, z].drop side) := by
  have e : fromF 3 side first step ([u, v, z].take side ++ [k] ++ [u, v, z].drop side) = [u, v, z] := by
    unfold fromF
    rw [if_neg (by decide), if_neg (by decide), if_neg (by decide)]
    rcases (show side = 0 ∨ side = 1 ∨ side = 2 ∨ side = 3 by omega) with rfl | rfl | rfl | rfl <;> rfl
  have c0 := cOk3 hu hv hz
  refine ⟨by rw [e]; exact link3 (by decide) (by decide) (by decide) s4 first step u v z k, by rw [e]; exact atOk3 hu hv hz, fun x hx => ?_, ?_, ?_⟩
  · rcases List.mem_append.mp hx with hx | hx
    · rcases List.mem_append.mp hx with hx | hx
      · exact c0 x (List.mem_of_mem_take hx)
      · cases List.mem_singleton.mp hx; exact hk
    · exact c0 x (List.mem_of_mem_drop hx)
  · simp only [List.length_append, List.length_take, List.length_drop, List.length_cons, List.length_nil]; omega
  · simp only [List.length_append, List.length_take, List.length_drop, List.length_cons, List.length_nil]; omega
abbrev sspotof : Stmt := top 17
def spspotof : Sp := fun vs H Q _ => ∃ (v b e p : Addr) (s : Int) (st c : List Int), vs = [.ref v, .ref b] ∧ H v = some (.tup [.ref e, .int s, .ref p]) ∧ H e = some (.tup []) ∧ H p = some (.tup (st.map V.int)) ∧ H b = some (.tup (c.map V.int)) ∧ c.length = st.length ∧ st.length ≤ 10 ∧ (∀ x ∈ c, 0 ≤ x ∧ x ≤ 4) ∧ ∀ H', Same H H' → Q (.int (s + dotI st c)) H'
section
variable {P : Program} {w : World} {K : PySem.W.Frag} {mg : Str → Option Value} {base : Heap} {f : Addr} {fd : FuncData} {TC TL : Addr}
theorem scspotof : FnScope ["view", "at", "side", "coordinate"] ["view", "at"] (defScope sspotof) := ⟨rfl, rfl, rfl, by decide +kernel, rfl, by decide +kernel, by decide +kernel⟩
theorem okspotof (F : Fun K "spot_of" "spot_of" sspotof f fd) (zlen : mg "len" = none) (zzip : mg "zip" = none) (zsum : mg "sum" = none) : FnOk P w K mg base CX0 (1) f fd ["view", "at"] (spspotof) := by
  have sc := scspotof
  refine F.ok sc (fun vs H Q E h => ?_) (fun cdv A outer s H vs Q E hr h => ?_)
  · obtain ⟨v, b, e, p, s, st, c, rfl, _⟩ := h; rfl
  obtain ⟨v, b, ea, p, s0, st, c, rfl, hv, he, hp, hb, hl, h10, hc, q⟩ := h
  refine ⟨_, (pss_cons (ps_if (pt_cmpR op_ne (pe_callB call_len_seq (by rfl) zlen PySem.boot_len (pa_cons (pv 1) pa_nil)) (pe_callB call_len_seq (by rfl) zlen PySem.boot_len (pa_cons (pe_ix ix_tupH (pv 0) pe_int (fun _ _ => rfl)) pa_nil)) (nomark _)) (pss_one ps_never) pss_nil) (pss_cons (ps_for PassesOwn.never rfl (pi_zip (by rfl) zzip (pa_cons (pe_ix ix_tupH (pv 0) pe_int (fun _ _ => rfl)) (pa_cons (pv 1) pa_nil))) (pg_tupH (n := 2) (pg_tup rfl (pgs_cons (pg_name (i := 2) sc.nd rfl (Or.inl rfl)) (pgs_cons (pg_name (i := 3) sc.nd rfl (Or.inl rfl)) pgs_nil)))) (pss_one (ps_if (PW.pt (pw_or (pt_cmpR op_lt (pv 3) pe_int (nomark _)) (pw_or1 (pt_cmpR op_ge (pv 3) (pv 2) (nomark _))))) (pss_one ps_never) pss_nil))) (pss_one (ps_ret (pe_op op_add (pe_ix ix_tupH (pv 0) pe_int (fun _ _ => rfl)) (pe_callB (call_sumL rfl) (by rfl) zsum boot_sum (pa_cons (pe_comp0 (own := ["coordinate", "stride"]) rfl (pi_zip (by rfl) zzip (pa_cons (pv 1) (pa_cons (pe_ix ix_tupH (pv 0) pe_int (fun _ _ => rfl)) pa_nil))) (by decide) (by decide) rfl (by decide) (fun _ _ _ _ => (pg_tupH (n := 2) (pg_tup rfl (pgs_cons (pg_name (i := 0) (show (["coordinate", "stride"] : List Str).Nodup by decide +kernel) rfl (Or.inl rfl)) (pgs_cons (pg_name (i := 1) (show (["coordinate", "stride"] : List Str).Nodup by decide +kernel) rfl (Or.inl rfl)) pgs_nil))))) (fun _ _ _ _ => (pe_op op_mul (pv 0) (pv 1)))) pa_nil))))))), ?_⟩
  wp_walk using tSeq, tIfS
  refine ⟨_, .inr (.of hb), _, hv, _, atI_nat (j := 2) rfl, _, rfl, _, .inr (.of hp), ?_⟩
  rw [len_map, len_map]
  rw [if_neg (by omega)]
  refine ⟨_, hv, _, atI_nat (j := 0) rfl, ?_⟩
  refine LoopZ.mk (xs := []) (ys := c.map V.int) 0 (by simp) (.of he) (.of hb) (fun i σ H' => Same H H' ∧ ∃ y2 y3, σ = [some (.ref v), some (.ref b), y2, y3]) ⟨Same.refl _, _, _, rfl⟩ (fun i σ H' _ h => ⟨.of (h.1 _ _ he), .of (h.1 _ _ hb)⟩) (fun i x y σ H' T hi ex ey h hT => absurd hi (Nat.not_lt_zero _)) (fun σ H' h => ?_)
  obtain ⟨h1, y2, y3, rfl⟩ := h
  wp_walk using tSeq, tIfS
  have hb1 := h1 _ _ hb
  have hp1 := h1 _ _ hp
  refine ⟨_, h1 _ _ hv, _, atI_nat (j := 1) rfl, _, h1 _ _ hv, _, atI_nat (j := 2) rfl, ?_⟩
  have lz : (List.zipWith (fun a b => a * b) c st).length = st.length := by rw [List.length_zipWith, hl, Nat.min_self]
  refine CompZ.mk (xs := c.map V.int) (ys := st.map V.int) st.length (by rw [len_map, len_map, hl, Nat.min_self]) (.of hb1) (.of hp1) (fun i zs σ H2 => Same H' H2 ∧ zs = ((List.zipWith (fun a b => a * b) c st).take i).map V.int ∧ ∃ y z, σ = [y, z]) ⟨Same.refl _, rfl, _, _, rfl⟩ (fun i zs σ H2 _ h => ⟨.of (h.1 _ _ hb1), .of (h.1 _ _ hp1)⟩) (fun i x y zs σ H2 T hi ex ey h hT => ?_) (fun zs σ H2 h r hr => ?_) (fun i zs σ H2 h => ?_)
  · obtain ⟨h3, rfl, y4, y5, rfl⟩ := h
    obtain ⟨m, rfl, hm⟩ := int_at ex
    obtain ⟨t, rfl, ht⟩ := int_at ey
    have ez : (List.zipWith (fun a b => a * b) c st)[i]? = some (m * t) := by rw [List.getElem?_zipWith, hm, ht]
    have et : ((List.zipWith (fun a b => a * b) c st).take (i + 1)).map V.int = ((List.zipWith (fun a b => a * b) c st).take i).map V.int ++ [V.int (m * t)] := by
      rw [List.take_add_one, ez, List.map_append]; rfl
    have mm := hc m (List.mem_of_getElem? hm)
    refine ⟨by rw [List.length_map, List.length_take]; exact small1000 (by omega), ?_⟩
    wp_walk using tSeq, tIfS, et
    exact ⟨.inl ⟨by omega, by omega⟩, h3.trans (same_new hT _), _, rfl⟩
  · obtain ⟨h3, rfl, y4, y5, rfl⟩ := h
    rw [List.take_of_length_le (by omega)]
    refine ⟨r, rfl, _, .of upd_same, _, rfl, ?_⟩
    rw [dot_sum]
    exact q _ (h1.trans (h3.trans (same_new hr _)))
  · obtain ⟨h3, rfl, _⟩ := h
    rw [List.length_map, List.length_take]
    exact small1000 (by omega)
end
abbrev streespot : Stmt := top 24
def sptreespot : Sp := fun vs H Q _ => ∃ (b p : Addr) (s : Int) (st c : List Int), vs = [.int s, .ref p, .ref b] ∧ H p = some (.tup (st.map V.int)) ∧ H b = some (.tup (c.map V.int)) ∧ c.length = st.length ∧ st.length ≤ 10 ∧ (∀ x ∈ c, 0 ≤ x ∧ x ≤ 4) ∧ ∀ H', Same H H' → Q (.int (s + dotI st c)) H'
section
variable {P : Program} {w : World} {K : PySem.W.Frag} {mg : Str → Option Value} {base : Heap} {f : Addr} {fd : FuncData} {TC TL : Addr}
theorem sctreespot : FnScope ["start", "strides", "at"] ["start", "strides", "at"] (defScope streespot) := ⟨rfl, rfl, rfl, by decide +kernel, rfl, by decide +kernel, by decide +kernel⟩
theorem oktreespot (F : Fun K "tree_spot" "tree_spot" streespot f fd) (cspotof : Callee P w K mg base CX0 (1) "spot_of" ["view", "at"] spspotof) : FnOk P w K mg base CX0 (2) f fd ["start", "strides", "at"] (sptreespot) := by
  have sc := sctreespot
  refine F.ok sc (fun vs H Q E h => ?_) (fun cdv A outer s H vs Q E hr h => ?_)
  · obtain ⟨b, p, s, st, c, rfl, _⟩ := h; rfl
  obtain ⟨b, p, s0, st, c, rfl, hp, hb, hl, h10, hc, q⟩ := h
  refine ⟨_, (pss_one (ps_ret (pe_cal cspotof hr (by rfl) pass0 (pa_cons (pe_tup (pa_cons (pe_tup pa_nil) (pa_cons (pv 0) (pa_cons (pv 1) pa_nil)))) (pa_cons (pv 2) pa_nil))))), ?_⟩
  wp_walk using tSeq, tIfS, spspotof
  refine ⟨small (by decide), fun e he => ⟨small (by decide), fun v hv => ?_⟩⟩
  have t1 := same_new he (HO.tup [])
  have t2 := same_new hv (HO.tup [V.ref e, V.int s0, V.ref p])
  have t12 := t1.trans t2
  exact ⟨t2 _ _ upd_same, st, t12 _ _ hp, c, t12 _ _ hb, hl, h10, hc, fun H1 s1 => q _ (t12.trans s1)⟩
end
abbrev staken : Stmt := top 23
def sptaken : Sp := fun vs H Q _ => ∃ (a : Addr) (i : Int) (r : List Int) (x : Int), vs = [.ref a, .int i] ∧ (H a = some (.lst (r.map V.int)) ∨ H a = some (.tup (r.map V.int))) ∧ 0 ≤ i ∧ i < r.length ∧ r[i.toNat]? = some x ∧ Q (.int x) H
section
variable {P : Program} {w : World} {K : PySem.W.Frag} {mg : Str → Option Value} {base : Heap} {f : Addr} {fd : FuncData} {TC TL : Addr}
theorem sctaken : FnScope ["store", "spot"] ["store", "spot"] (defScope staken) := ⟨rfl, rfl, rfl, by decide +kernel, rfl, by decide +kernel, by decide +kernel⟩
theorem oktaken (F : Fun K "taken" "taken" staken f fd) (zlen : mg "len" = none) : FnOk P w K mg base CX0 (1) f fd ["store", "spot"] (sptaken) := by
  have sc := sctaken
  refine F.ok sc (fun vs H Q E h => ?_) (fun cdv A outer s H vs Q E hr h => ?_)
  · obtain ⟨a, i, r, x, rfl, _⟩ := h; rfl
  obtain ⟨a, i, r, x, rfl, ha, i0, i1, ex, q⟩ := h
  refine ⟨_, (pss_cons (ps_if (PW.pt (pw_or (pt_cmpR op_lt (pv 1) pe_int (nomark _)) (pw_or1 (pt_cmpR op_ge (pv 1) (pe_callB call_len_seq (by rfl) zlen PySem.boot_len (pa_cons (pv 0) pa_nil)) (nomark _))))) (pss_one ps_never) pss_nil) (pss_cons (ps_if (pt_cmpR op_isN (pe_ix ix_seqH (pv 0) (pv 1) (fun _ _ => rfl)) pe_non (nomark _)) (pss_one ps_never) pss_nil) (pss_one (ps_ret (pe_ix ix_seqH (pv 0) (pv 1) (fun _ _ => rfl)))))), ?_⟩
  wp_walk using tSeq, tIfS
  have hx : atI (r.map V.int) i = some (.int x) := by
    have z := atI_nat (xs := r.map V.int) (j := i.toNat) (v := .int x) (by rw [List.getElem?_map, ex]; rfl)
    rwa [show ((i.toNat : Nat) : Int) = i by omega] at z
  rw [if_neg (by omega)]
  refine ⟨_, ha.imp .of .of, ?_⟩
  rw [len_map, if_neg (by omega)]
  refine ⟨_, ha, _, hx, ?_⟩
  rw [if_neg (by intro z; cases z)]
  exact ⟨_, ha, _, hx, q⟩
end
abbrev sisfree : Stmt := top 19
def spisfree : Sp := fun vs H Q _ => ∃ (a : Addr) (t : Tr), vs = [.ref a] ∧ TrAt H t a ∧ ∀ H', Same H H' → Q (.bl (isLeaf t)) H'
section
variable {P : Program} {w : World} {K : PySem.W.Frag} {mg : Str → Option Value} {base : Heap} {f : Addr} {fd : FuncData} {TC TL : Addr}
theorem scisfree : FnScope ["tree"] ["tree"] (defScope sisfree) := ⟨rfl, rfl, rfl, by decide +kernel, rfl, by decide +kernel, by decide +kernel⟩
theorem okisfree (F : Fun K "is_free" "is_free" sisfree f fd) : FnOk P w K mg base CX0 (1) f fd ["tree"] (spisfree) := by
  have sc := scisfree
  refine F.ok sc (fun vs H Q E h => ?_) (fun cdv A outer s H vs Q E hr h => ?_)
  · obtain ⟨a, t, rfl, _⟩ := h; rfl
  obtain ⟨a, t, rfl, ht, q⟩ := h
  refine ⟨_, (pss_one (ps_ret (pe_cmpR op_inT (pe_ix ix_tupH (pv 0) pe_int (fun _ _ => rfl)) (pe_tup (pa_cons pe_str (pa_cons pe_str (pa_cons pe_str pa_nil)))) rfl))), ?_⟩
  wp_walk using tSeq, tIfS
  have fin : ∀ (w : Str) (b : Bool) (xs : List V), H a = some (.tup (.str w :: xs)) → isLeaf t = b → (("num" : Str) == w || (("index" : Str) == w || ("read" : Str) == w)) = b →
     (∃ x, H a = some (HO.tup x) ∧ ∃ x_1, atI x 0 = some x_1 ∧ 3 ≤ sizeLine ∧ ∀ (p : Addr), H p = none → (match x_1 with | V.non => true | V.bl b => true | V.int i => true | V.str x => true | x => false) = true ∧
       Q (V.bl (inV x_1 [V.str (Str.ofString "num"), V.str (Str.ofString "index"), V.str (Str.ofString "read")])) (upd H p (HO.tup [V.str (Str.ofString "num"), V.str (Str.ofString "index"), V.str (Str.ofString "read")]))) := by
    intro w b xs e h1 h2
    refine ⟨_, e, _, atI_nat (j := 0) rfl, small (by decide), fun p hp => ⟨rfl, ?_⟩⟩
    have z : inV (V.str w) [V.str (Str.ofString "num"), V.str (Str.ofString "index"), V.str (Str.ofString "read")] = isLeaf t := by
      rw [h1, ← h2]
      simp only [inV, List.any_cons, List.any_nil, Bool.or_false, eqV]
    rw [z]
    exact q _ (same_new hp _)
  simp only [inV, List.any_cons, List.any_nil, Bool.or_false, eqV] at fin
  cases t with
  | leaf o =>
    cases o with
    | none =>
      obtain ⟨w, xs, e, rfl | rfl⟩ := ht
      · exact fin _ true _ e rfl (by decide +kernel)
      · exact fin _ true _ e rfl (by decide +kernel)
    | some s =>
      obtain ⟨xs, e⟩ := ht
      exact fin _ true _ e rfl (by decide +kernel)
  | each t => obtain ⟨w, p, e, _⟩ := ht; exact fin _ false _ e rfl (by decide +kernel)
  | pair t u => obtain ⟨w, p, r, e, _⟩ := ht; exact fin _ false _ e rfl (by decide +kernel)
  | pick t u v => obtain ⟨p, r, r2, e, _⟩ := ht; exact fin _ false _ e rfl (by decide +kernel)
  | fetch s t => obtain ⟨x2, x3, x4, x5, p, e, _⟩ := ht; exact fin _ false _ e rfl (by decide +kernel)
  | fold n t => obtain ⟨w, p, e, _⟩ := ht; exact fin _ false _ e rfl (by decide +kernel)
end
abbrev sbranchesof : Stmt := top 20
def spbranchesof : Sp := fun vs H Q _ => ∃ (a : Addr) (t : Te), vs = [.ref a] ∧ TeAt H t a ∧ ∀ H' p ps, Same H H' → H' p = some (.tup (ps.map V.ref)) → TesAt H' (kidsE t) ps → Q (.ref p) H'
section
variable {P : Program} {w : World} {K : PySem.W.Frag} {mg : Str → Option Value} {base : Heap} {f : Addr} {fd : FuncData} {TC TL : Addr}
theorem scbranchesof : FnScope ["tree", "form"] ["tree"] (defScope sbranchesof) := ⟨rfl, rfl, rfl, by decide +kernel, rfl, by decide +kernel, by decide +kernel⟩
theorem okbranchesof (F : Fun K "branches_of" "branches_of" sbranchesof f fd) : FnOk P w K mg base CX0 (1) f fd ["tree"] (spbranchesof) := by
  have sc := scbranchesof
  refine F.ok sc (fun vs H Q E h => ?_) (fun cdv A outer s H vs Q E hr h => ?_)
  · obtain ⟨a, t, rfl, _⟩ := h; rfl
  obtain ⟨a, t, rfl, ht, q⟩ := h
  refine ⟨_, (pss_cons (ps_set (i := 1) sc.nd rfl (by first | exact Or.inl rfl | exact Or.inr rfl) (pe_ix ix_tupH (pv 0) pe_int (fun _ _ => rfl))) (pss_cons (ps_if (pt_cmpR op_eq (pv 1) pe_str (nomark _)) (pss_one (ps_ret (pe_slice sl_tupA (pv 0) (po_some pe_int) po_none))) pss_nil) (pss_cons (ps_if (pt_cmpR op_inT (pv 1) (pe_tup (pa_cons pe_str (pa_cons pe_str pa_nil))) rfl) (pss_one (ps_ret (pe_slice sl_tupA (pv 0) (po_some pe_int) po_none))) pss_nil) (pss_cons (ps_if (pt_cmpR op_eq (pv 1) pe_str (nomark _)) (pss_one (ps_ret (pe_slice sl_tupA (pv 0) (po_some pe_int) po_none))) pss_nil) (pss_cons (ps_if (pt_cmpR op_eq (pv 1) pe_str (nomark _)) (pss_one (ps_ret (pe_slice sl_tupA (pv 0) (po_some pe_int) po_none))) pss_nil) (pss_one (ps_ret (pe_tup pa_nil)))))))), ?_⟩
  wp_walk using tSeq, tIfS
  cases t with
  | num m =>
    have e := ht
    refine ⟨_, e, _, atI_nat (j := 0) rfl, rfl, ?_⟩
    rw [if_neg (sne (by decide +kernel))]
    refine ⟨small (by decide), fun p0 hp0 => ⟨rfl, ?_⟩⟩
    rw [if_neg (by decide +kernel)]
    refine ⟨rfl, ?_⟩
    rw [if_neg (sne (by decide +kernel))]
    refine ⟨rfl, ?_⟩
    rw [if_neg (sne (by decide +kernel))]
    exact ⟨small (by decide), fun p1 hp1 => q _ _ [] ((same_new hp0 _).trans (same_new hp1 _)) upd_same TesAt.nil⟩
  | index s0 st =>
    obtain ⟨pp, e, _⟩ := ht
    refine ⟨_, e, _, atI_nat (j := 0) rfl, rfl, ?_⟩
    rw [if_neg (sne (by decide +kernel))]
    refine ⟨small (by decide), fun p0 hp0 => ⟨rfl, ?_⟩⟩
    rw [if_neg (by decide +kernel)]
    refine ⟨rfl, ?_⟩
    rw [if_neg (sne (by decide +kernel))]
    refine ⟨rfl, ?_⟩
    rw [if_neg (sne (by decide +kernel))]
    exact ⟨small (by decide), fun p1 hp1 => q _ _ [] ((same_new hp0 _).trans (same_new hp1 _)) upd_same TesAt.nil⟩
  | read k s0 st =>
    obtain ⟨pp, e, _⟩ := ht
    refine ⟨_, e, _, atI_nat (j := 0) rfl, rfl, ?_⟩
    rw [if_neg (sne (by decide +kernel))]
    refine ⟨small (by decide), fun p0 hp0 => ⟨rfl, ?_⟩⟩
    rw [if_neg (by decide +kernel)]
    refine ⟨rfl, ?_⟩
    rw [if_neg (sne (by decide +kernel))]
    refine ⟨rfl, ?_⟩
    rw [if_neg (sne (by decide +kernel))]
    exact ⟨small (by decide), fun p1 hp1 => q _ _ [] ((same_new hp0 _).trans (same_new hp1 _)) upd_same TesAt.nil⟩
  | each w t =>
    obtain ⟨p, e, ht⟩ := ht
    refine ⟨_, e, _, atI_nat (j := 0) rfl, rfl, ?_⟩
    rw [if_neg (sne (by decide +kernel))]
    refine ⟨small (by decide), fun p0 hp0 => ⟨rfl, ?_⟩⟩
    rw [if_pos (.inl (by decide +kernel))]
    refine ⟨_, same_new hp0 _ _ _ e, fun r H1 s1 h1 => q _ _ [p] ((same_new hp0 _).trans s1) (by rw [h1]; rfl) (tes1 (ht.same ((same_new hp0 _).trans s1)))⟩
  | pair w t u =>
    obtain ⟨p, p2, e, ht, hu⟩ := ht
    refine ⟨_, e, _, atI_nat (j := 0) rfl, rfl, ?_⟩
    rw [if_neg (sne (by decide +kernel))]
    refine ⟨small (by decide), fun p0 hp0 => ⟨rfl, ?_⟩⟩
    rw [if_pos (.inr (by decide +kernel))]
    refine ⟨_, same_new hp0 _ _ _ e, fun r H1 s1 h1 => q _ _ [p, p2] ((same_new hp0 _).trans s1) (by rw [h1]; rfl) (tes_cons (ht.same ((same_new hp0 _).trans s1)) (tes1 (hu.same ((same_new hp0 _).trans s1))))⟩
  | pick t u v =>
    obtain ⟨p, p2, p3, e, ht, hu, hv⟩ := ht
    refine ⟨_, e, _, atI_nat (j := 0) rfl, rfl, ?_⟩
    rw [if_pos rfl]
    refine ⟨_, e, fun r H1 s1 h1 => q _ _ [p, p2, p3] s1 (by rw [h1]; rfl) (tes_cons (ht.same s1) (tes_cons (hu.same s1) (tes1 (hv.same s1))))⟩
  | fold w n t =>
    obtain ⟨p, e, ht, _⟩ := ht
    refine ⟨_, e, _, atI_nat (j := 0) rfl, rfl, ?_⟩
    rw [if_neg (sne (by decide +kernel))]
    refine ⟨small (by decide), fun p0 hp0 => ⟨rfl, ?_⟩⟩
    rw [if_neg (by decide +kernel)]
    refine ⟨rfl, ?_⟩
    rw [if_pos rfl]
    refine ⟨_, same_new hp0 _ _ _ e, fun r H1 s1 h1 => q _ _ [p] ((same_new hp0 _).trans s1) (by rw [h1]; rfl) (tes1 (ht.same ((same_new hp0 _).trans s1)))⟩
  | fetch k s0 d m st t =>
    obtain ⟨pp, p, e, _, ht⟩ := ht
    refine ⟨_, e, _, atI_nat (j := 0) rfl, rfl, ?_⟩
    rw [if_neg (sne (by decide +kernel))]
    refine ⟨small (by decide), fun p0 hp0 => ⟨rfl, ?_⟩⟩
    rw [if_neg (by decide +kernel)]
    refine ⟨rfl, ?_⟩
    rw [if_neg (sne (by decide +kernel))]
    refine ⟨rfl, ?_⟩
    rw [if_pos rfl]
    refine ⟨_, same_new hp0 _ _ _ e, fun r H1 s1 h1 => q _ _ [p] ((same_new hp0 _).trans s1) (by rw [h1]; rfl) (tes1 (ht.same ((same_new hp0 _).trans s1)))⟩
end
abbrev swrapped : Stmt := top 9
def spwrapped : Sp := fun vs H Q _ => ∃ n : Int, vs = [.int n] ∧ Q (.int (wrapI n)) H
section
variable {P : Program} {w : World} {K : PySem.W.Frag} {mg : Str → Option Value} {base : Heap} {f : Addr} {fd : FuncData} {TC TL : Addr}
theorem scwrapped : FnScope ["n"] ["n"] (defScope swrapped) := ⟨rfl, rfl, rfl, by decide +kernel, rfl, by decide +kernel, by decide +kernel⟩
theorem okwrapped (F : Fun K "wrapped" "wrapped" swrapped f fd) {tLOW : Tok} (gLOW : mg "LOW" = some (.int (-9223372036854775808) tLOW)) : FnOk P w K mg base CX0 (1) f fd ["n"] (spwrapped) := by
  have sc := scwrapped
  refine F.ok sc (fun vs H Q E h => ?_) (fun cdv A outer s H vs Q E hr h => ?_)
  · obtain ⟨n, rfl, _⟩ := h; rfl
  obtain ⟨n, rfl, q⟩ := h
  refine ⟨_, (pss_one (ps_ret (pe_op op_add (pe_op op_mod (pe_op op_sub (pv 0) (pe_glob (v := .int (-9223372036854775808)) (by rfl) gLOW ⟨_, rfl⟩)) (pe_op op_pow pe_int pe_int)) (pe_glob (v := .int (-9223372036854775808)) (by rfl) gLOW ⟨_, rfl⟩)))), ?_⟩
  wp_walk using tSeq, tIfS
  have e : (n - -9223372036854775808) % 18446744073709551616 + -9223372036854775808 = wrapI n := by unfold wrapI; omega
  rw [e]; exact q
end
abbrev ssignof : Stmt := top 10
def spsignof : Sp := fun vs H Q _ => ∃ n : Int, vs = [.int n] ∧ Q (.int (if n < 0 then -1 else if 0 < n then 1 else 0)) H
section
variable {P : Program} {w : World} {K : PySem.W.Frag} {mg : Str → Option Value} {base : Heap} {f : Addr} {fd : FuncData} {TC TL : Addr}
theorem scsignof : FnScope ["x"] ["x"] (defScope ssignof) := ⟨rfl, rfl, rfl, by decide +kernel, rfl, by decide +kernel, by decide +kernel⟩
theorem oksignof (F : Fun K "sign_of" "sign_of" ssignof f fd) : FnOk P w K mg base CX0 (1) f fd ["x"] (spsignof) := by
  have sc := scsignof
  refine F.ok sc (fun vs H Q E h => ?_) (fun cdv A outer s H vs Q E hr h => ?_)
  · obtain ⟨n, rfl, _⟩ := h; rfl
  obtain ⟨n, rfl, q⟩ := h
  refine ⟨_, (pss_cons (ps_if (pt_cmpR op_lt (pv 0) pe_int (nomark _)) (pss_one (ps_ret (pe_un un_neg pe_int))) pss_nil) (pss_one (ps_ret (pe_ifExp (pt_cmpR op_gt (pv 0) pe_int (nomark _)) pe_int pe_int)))), ?_⟩
  wp_walk using tSeq, tIfS
  repeat' split
  all_goals (simp_all; done)
end
abbrev squotient : Stmt := top 11
def spquotient : Sp := fun vs H Q _ => ∃ x y : Int, vs = [.int x, .int y] ∧ inB x ∧ inB y ∧ Q (.int (quoI x y)) H
section
variable {P : Program} {w : World} {K : PySem.W.Frag} {mg : Str → Option Value} {base : Heap} {f : Addr} {fd : FuncData} {TC TL : Addr}
theorem scquotient : FnScope ["x", "y"] ["x", "y"] (defScope squotient) := ⟨rfl, rfl, rfl, by decide +kernel, rfl, by decide +kernel, by decide +kernel⟩
theorem okquotient (F : Fun K "quotient" "quotient" squotient f fd) (cwrapped : Callee P w K mg base CX0 (1) "wrapped" ["n"] spwrapped) : FnOk P w K mg base CX0 (2) f fd ["x", "y"] (spquotient) := by
  have sc := scquotient
  refine F.ok sc (fun vs H Q E h => ?_) (fun cdv A outer s H vs Q E hr h => ?_)
  · obtain ⟨x, y, rfl, _⟩ := h; rfl
  obtain ⟨x, y, rfl, hx, hy, q⟩ := h
  refine ⟨_, (pss_cons (ps_if (pt_cmpR op_eq (pv 1) pe_int (nomark _)) (pss_one (ps_ret pe_int)) pss_nil) (pss_one (ps_ret (pe_cal cwrapped hr (by rfl) pass0 (pa_cons (pe_op op_fdivW (pv 0) (pv 1)) pa_nil))))), ?_⟩
  wp_walk using tSeq, tIfS, spwrapped
  unfold quoI at q
  by_cases h : y = 0
  · rw [if_pos h]
    rw [if_pos h] at q
    exact q
  · rw [if_neg h]
    rw [if_neg h] at q
    unfold inB at hy
    exact ⟨h, by omega, by omega, q⟩
end
abbrev sremainder : Stmt := top 12
def spremainder : Sp := fun vs H Q _ => ∃ x y : Int, vs = [.int x, .int y] ∧ Q (.int (restI x y)) H
section
variable {P : Program} {w : World} {K : PySem.W.Frag} {mg : Str → Option Value} {base : Heap} {f : Addr} {fd : FuncData} {TC TL : Addr}
theorem scremainder : FnScope ["x", "y"] ["x", "y"] (defScope sremainder) := ⟨rfl, rfl, rfl, by decide +kernel, rfl, by decide +kernel, by decide +kernel⟩
theorem okremainder (F : Fun K "remainder" "remainder" sremainder f fd) : FnOk P w K mg base CX0 (1) f fd ["x", "y"] (spremainder) := by
  have sc := scremainder
  refine F.ok sc (fun vs H Q E h => ?_) (fun cdv A outer s H vs Q E hr h => ?_)
  · obtain ⟨x, y, rfl, _⟩ := h; rfl
  obtain ⟨x, y, rfl, q⟩ := h
  refine ⟨_, (pss_one (ps_ret (pe_ifExp (pt_cmpR op_eq (pv 1) pe_int (nomark _)) (pv 0) (pe_op op_modN (pv 0) (pv 1))))), ?_⟩
  wp_walk using tSeq, tIfS
  unfold restI at q
  by_cases h : y = 0
  · rw [if_pos h]
    rw [if_pos h] at q
    exact q
  · rw [if_neg h]
    rw [if_neg h] at q
    exact ⟨h, q⟩
end
abbrev sonce : Stmt := top 13
def sponce : Sp := fun vs H Q _ => ∃ (w : Str) (x : Int), vs = [.str w, .int x] ∧ w ∈ (["neg", "abs", "sign", "not"] : List Str) ∧ Q (.int (onceI w x)) H
section
variable {P : Program} {w : World} {K : PySem.W.Frag} {mg : Str → Option Value} {base : Heap} {f : Addr} {fd : FuncData} {TC TL : Addr}
theorem sconce : FnScope ["word", "x"] ["word", "x"] (defScope sonce) := ⟨rfl, rfl, rfl, by decide +kernel, rfl, by decide +kernel, by decide +kernel⟩
theorem okonce (F : Fun K "once" "once" sonce f fd) (cwrapped : Callee P w K mg base CX0 (1) "wrapped" ["n"] spwrapped) (csignof : Callee P w K mg base CX0 (1) "sign_of" ["x"] spsignof) (zabs : mg "abs" = none) : FnOk P w K mg base CX0 (2) f fd ["word", "x"] (sponce) := by
  have sc := sconce
  refine F.ok sc (fun vs H Q E h => ?_) (fun cdv A outer s H vs Q E hr h => ?_)
  · obtain ⟨a, b, rfl, _⟩ := h; rfl
  obtain ⟨wd, x, rfl, hw, q⟩ := h
  refine ⟨_, (pss_cons (ps_if (pt_cmpR op_eq (pv 0) pe_str (nomark _)) (pss_one (ps_ret (pe_cal cwrapped hr (by rfl) pass0 (pa_cons (pe_un un_neg (pv 1)) pa_nil)))) pss_nil) (pss_cons (ps_if (pt_cmpR op_eq (pv 0) pe_str (nomark _)) (pss_one (ps_ret (pe_cal cwrapped hr (by rfl) pass0 (pa_cons (pe_callB call_abs (by rfl) zabs boot_abs (pa_cons (pv 1) pa_nil)) pa_nil)))) pss_nil) (pss_cons (ps_if (pt_cmpR op_eq (pv 0) pe_str (nomark _)) (pss_one (ps_ret (pe_cal csignof hr (by rfl) pass0 (pa_cons (pv 1) pa_nil)))) pss_nil) (pss_cons (ps_if (pt_cmpR op_eq (pv 0) pe_str (nomark _)) (pss_one (ps_ret (pe_ifExp (pt_cmpR op_eq (pv 1) pe_int (nomark _)) pe_int pe_int))) pss_nil) (pss_one ps_never))))), ?_⟩
  wp_walk using tSeq, tIfS, spwrapped, spsignof
  unfold onceI absI at q
  by_cases h1 : wd = Str.ofString "neg"
  · simpa [h1] using q
  by_cases h2 : wd = Str.ofString "abs"
  · rw [if_neg h1, if_pos h2] at *; exact q
  by_cases h3 : wd = Str.ofString "sign"
  · rw [if_neg h1, if_neg h2, if_pos h3] at *; exact q
  have h4 : wd = Str.ofString "not" := by simpa [h1, h2, h3] using hw
  rw [if_neg h1, if_neg h2, if_neg h3] at *
  rw [if_pos h4]
  split at q <;> simp_all
end
abbrev stwice : Stmt := top 14
def sptwice : Sp := fun vs H Q _ => ∃ (w : Str) (x y : Int), vs = [.str w, .int x, .int y] ∧ w ∈ tw ∧ inB x ∧ inB y ∧ Q (.int (twiceI w x y)) H
section
variable {P : Program} {w : World} {K : PySem.W.Frag} {mg : Str → Option Value} {base : Heap} {f : Addr} {fd : FuncData} {TC TL : Addr}
theorem sctwice : FnScope ["word", "x", "y"] ["word", "x", "y"] (defScope stwice) := ⟨rfl, rfl, rfl, by decide +kernel, rfl, by decide +kernel, by decide +kernel⟩
theorem oktwice (F : Fun K "twice" "twice" stwice f fd) (cwrapped : Callee P w K mg base CX0 (2) "wrapped" ["n"] spwrapped) (cquotient : Callee P w K mg base CX0 (2) "quotient" ["x", "y"] spquotient) (cremainder : Callee P w K mg base CX0 (2) "remainder" ["x", "y"] spremainder) (zmax : mg "max" = none) (zmin : mg "min" = none) : FnOk P w K mg base CX0 (3) f fd ["word", "x", "y"] (sptwice) := by
  have sc := sctwice
  refine F.ok sc (fun vs H Q E h => ?_) (fun cdv A outer s H vs Q E hr h => ?_)
  · obtain ⟨w, x, y, rfl, _⟩ := h; rfl
  obtain ⟨wd, x, y, rfl, hw, hx, hy, q⟩ := h
  refine ⟨_, (pss_cons (ps_if (pt_cmpR op_eq (pv 0) pe_str (nomark _)) (pss_one (ps_ret (pe_cal cwrapped hr (by rfl) pass0 (pa_cons (pe_op op_add (pv 1) (pv 2)) pa_nil)))) pss_nil) (pss_cons (ps_if (pt_cmpR op_eq (pv 0) pe_str (nomark _)) (pss_one (ps_ret (pe_cal cwrapped hr (by rfl) pass0 (pa_cons (pe_op op_sub (pv 1) (pv 2)) pa_nil)))) pss_nil) (pss_cons (ps_if (pt_cmpR op_eq (pv 0) pe_str (nomark _)) (pss_one (ps_ret (pe_cal cwrapped hr (by rfl) pass0 (pa_cons (pe_op op_mul (pv 1) (pv 2)) pa_nil)))) pss_nil) (pss_cons (ps_if (pt_cmpR op_eq (pv 0) pe_str (nomark _)) (pss_one (ps_ret (pe_cal cquotient hr (by rfl) pass0 (pa_cons (pv 1) (pa_cons (pv 2) pa_nil))))) pss_nil) (pss_cons (ps_if (pt_cmpR op_eq (pv 0) pe_str (nomark _)) (pss_one (ps_ret (pe_cal cremainder hr (by rfl) pass0 (pa_cons (pv 1) (pa_cons (pv 2) pa_nil))))) pss_nil) (pss_cons (ps_if (pt_cmpR op_eq (pv 0) pe_str (nomark _)) (pss_one (ps_ret (pe_callB (call_max2 rfl) (by rfl) zmax boot_max (pa_cons (pv 1) (pa_cons (pv 2) pa_nil))))) pss_nil) (pss_cons (ps_if (pt_cmpR op_eq (pv 0) pe_str (nomark _)) (pss_one (ps_ret (pe_callB (call_min2 rfl) (by rfl) zmin boot_min (pa_cons (pv 1) (pa_cons (pv 2) pa_nil))))) pss_nil) (pss_cons (ps_if (pt_cmpR op_eq (pv 0) pe_str (nomark _)) (pss_one (ps_ret (pe_ifExp (pt_cmpR op_lt (pv 1) (pv 2) (nomark _)) pe_int pe_int))) pss_nil) (pss_cons (ps_if (pt_cmpR op_eq (pv 0) pe_str (nomark _)) (pss_one (ps_ret (pe_ifExp (pt_cmpR op_eq (pv 1) (pv 2) (nomark _)) pe_int pe_int))) pss_nil) (pss_cons (ps_if (pt_cmpR op_eq (pv 0) pe_str (nomark _)) (pss_one (ps_ret (pe_op op_and (pv 1) (pv 2)))) pss_nil) (pss_cons (ps_if (pt_cmpR op_eq (pv 0) pe_str (nomark _)) (pss_one (ps_ret (pe_op op_or (pv 1) (pv 2)))) pss_nil) (pss_cons (ps_if (pt_cmpR op_eq (pv 0) pe_str (nomark _)) (pss_one (ps_ret (pe_op op_xor (pv 1) (pv 2)))) pss_nil) (pss_one ps_never))))))))))))), ?_⟩
  wp_walk using tSeq, tIfS, spwrapped, spquotient, spremainder
  simp only [tw, List.mem_cons, List.not_mem_nil, or_false] at hw
  unfold twiceI at q
  have hm : (-18446744073709551616 < x ∧ x < 18446744073709551616 ∨ -18446744073709551616 < y ∧ y < 18446744073709551616) := by
    unfold inB at hx; omega
  by_cases h0 : wd = Str.ofString "add"
  · rw [if_pos h0] at q ⊢
    exact q
  rw [if_neg h0] at q ⊢
  by_cases h1 : wd = Str.ofString "sub"
  · rw [if_pos h1] at q ⊢
    exact q
  rw [if_neg h1] at q ⊢
  by_cases h2 : wd = Str.ofString "mul"
  · rw [if_pos h2] at q ⊢
    exact ⟨hm, q⟩
  rw [if_neg h2] at q ⊢
  by_cases h3 : wd = Str.ofString "quo"
  · rw [if_pos h3] at q ⊢
    exact ⟨hx, hy, q⟩
  rw [if_neg h3] at q ⊢
  by_cases h4 : wd = Str.ofString "rest"
  · rw [if_pos h4] at q ⊢
    exact q
  rw [if_neg h4] at q ⊢
  by_cases h5 : wd = Str.ofString "max"
  · rw [if_pos h5] at q ⊢
    exact q
  rw [if_neg h5] at q ⊢
  by_cases h6 : wd = Str.ofString "min"
  · rw [if_pos h6] at q ⊢
    exact q
  rw [if_neg h6] at q ⊢
  by_cases h7 : wd = Str.ofString "less"
  · rw [if_pos h7] at q ⊢
    split <;> (split at q <;> first | exact q | contradiction)
  rw [if_neg h7] at q ⊢
  by_cases h8 : wd = Str.ofString "like"
  · rw [if_pos h8] at q ⊢
    split <;> (split at q <;> first | exact q | contradiction)
  rw [if_neg h8] at q ⊢
  by_cases h9 : wd = Str.ofString "and"
  · rw [if_pos h9] at q ⊢
    exact q
  rw [if_neg h9] at q ⊢
  by_cases h10 : wd = Str.ofString "or"
  · rw [if_pos h10] at q ⊢
    exact q
  rw [if_neg h10] at q ⊢
  have h11 : wd = Str.ofString "xor" := by simpa [h0, h1, h2, h3, h4, h5, h6, h7, h8, h9, h10] using hw
  rw [if_pos h11]
  exact q
end
abbrev sneutral : Stmt := top 15
def spneutral : Sp := fun vs H Q _ => ∃ (w : Str), vs = [.str w] ∧ w ∈ fw ∧ ∀ H', Same H H' → Q (.int (neuI w)) H'
section
variable {P : Program} {w : World} {K : PySem.W.Frag} {mg : Str → Option Value} {base : Heap} {f : Addr} {fd : FuncData} {TC TL : Addr}
theorem scneutral : FnScope ["word"] ["word"] (defScope sneutral) := ⟨rfl, rfl, rfl, by decide +kernel, rfl, by decide +kernel, by decide +kernel⟩
theorem okneutral (F : Fun K "neutral" "neutral" sneutral f fd) {tLOW : Tok} (gLOW : mg "LOW" = some (.int (-9223372036854775808) tLOW)) {tHIGH : Tok} (gHIGH : mg "HIGH" = some (.int 9223372036854775807 tHIGH)) : FnOk P w K mg base CX0 (1) f fd ["word"] (spneutral) := by
  have sc := scneutral
  refine F.ok sc (fun vs H Q E h => ?_) (fun cdv A outer s H vs Q E hr h => ?_)
  · obtain ⟨w, rfl, _⟩ := h; rfl
  obtain ⟨wd, rfl, hw, q⟩ := h
  refine ⟨_, (pss_cons (ps_if (pt_cmpR op_inT (pv 0) (pe_tup (pa_cons pe_str (pa_cons pe_str (pa_cons pe_str pa_nil)))) rfl) (pss_one (ps_ret pe_int)) pss_nil) (pss_cons (ps_if (pt_cmpR op_eq (pv 0) pe_str (nomark _)) (pss_one (ps_ret pe_int)) pss_nil) (pss_cons (ps_if (pt_cmpR op_eq (pv 0) pe_str (nomark _)) (pss_one (ps_ret (pe_glob (v := .int (-9223372036854775808)) (by rfl) gLOW ⟨_, rfl⟩))) pss_nil) (pss_cons (ps_if (pt_cmpR op_eq (pv 0) pe_str (nomark _)) (pss_one (ps_ret (pe_glob (v := .int 9223372036854775807) (by rfl) gHIGH ⟨_, rfl⟩))) pss_nil) (pss_cons (ps_if (pt_cmpR op_eq (pv 0) pe_str (nomark _)) (pss_one (ps_ret (pe_un un_neg pe_int))) pss_nil) (pss_one ps_never)))))), ?_⟩
  wp_walk using tSeq, tIfS
  refine ⟨small (by decide), fun p hp => ?_⟩
  have q := q _ (same_new hp (.tup [V.str "add", V.str "or", V.str "xor"]))
  unfold neuI at q
  simp only [fw, List.mem_cons, List.not_mem_nil, or_false] at hw
  by_cases h0 : Str.ofString "add" = wd ∨ Str.ofString "or" = wd ∨ Str.ofString "xor" = wd
  · rw [if_pos h0]
    have n1 : ¬ wd = Str.ofString "mul" := by rcases h0 with rfl | rfl | rfl <;> decide +kernel
    have n2 : ¬ wd = Str.ofString "max" := by rcases h0 with rfl | rfl | rfl <;> decide +kernel
    have n3 : ¬ wd = Str.ofString "min" := by rcases h0 with rfl | rfl | rfl <;> decide +kernel
    have n4 : ¬ wd = Str.ofString "and" := by rcases h0 with rfl | rfl | rfl <;> decide +kernel
    rw [if_neg n1, if_neg n2, if_neg n3, if_neg n4] at q
    exact q
  rw [if_neg h0]
  by_cases h1 : wd = Str.ofString "mul"
  · rw [if_pos h1] at q ⊢; exact q
  rw [if_neg h1] at q ⊢
  by_cases h2 : wd = Str.ofString "max"
  · rw [if_pos h2] at q ⊢; exact q
  rw [if_neg h2] at q ⊢
  by_cases h3 : wd = Str.ofString "min"
  · rw [if_pos h3] at q ⊢; exact q
  rw [if_neg h3] at q ⊢
  by_cases h4 : wd = Str.ofString "and"
  · rw [if_pos h4] at q ⊢; exact q
  exact absurd (by rcases hw with z | z | z | z | z | z | z <;> simp_all) h0
end
abbrev sfreenumber : Stmt := top 25
def spfreenumber : Sp := fun vs H Q _ => ∃ (ta b sa : Addr) (t : Te) (S : List (List Int)) (c : List Int), vs = [.ref ta, .ref b, .ref sa] ∧ TeAt H t ta ∧ FinT S t c ∧ freeE t ∧ c.length ≤ 9 ∧ cOk c ∧ H b = some (.tup (c.map V.int)) ∧ StAt H sa S ∧ SOk S ∧ ∀ H', Same H H' → Q (.int (evT S t c).1) H'
section
variable {P : Program} {w : World} {K : PySem.W.Frag} {mg : Str → Option Value} {base : Heap} {f : Addr} {fd : FuncData} {TC TL : Addr}
theorem scfreenumber : FnScope ["tree", "at", "stores"] ["tree", "at", "stores"] (defScope sfreenumber) := ⟨rfl, rfl, rfl, by decide +kernel, rfl, by decide +kernel, by decide +kernel⟩
theorem okfreenumber (F : Fun K "free_number" "free_number" sfreenumber f fd) (ctreespot : Callee P w K mg base CX0 (2) "tree_spot" ["start", "strides", "at"] sptreespot) (ctaken : Callee P w K mg base CX0 (2) "taken" ["store", "spot"] sptaken) : FnOk P w K mg base CX0 (3) f fd ["tree", "at", "stores"] (spfreenumber) := by
  have sc := scfreenumber
  refine F.ok sc (fun vs H Q E h => ?_) (fun cdv A outer s H vs Q E hr h => ?_)
  · obtain ⟨ta, b, sa, t, S, c, rfl, _⟩ := h; rfl
  obtain ⟨ta, b, sa, t, S, c, rfl, ht, wf, fr, n5, hc, hb, hS, so, q⟩ := h
  refine ⟨_, (pss_cons (ps_if (pt_cmpR op_eq (pe_ix ix_tupH (pv 0) pe_int (fun _ _ => rfl)) pe_str (nomark _)) (pss_one (ps_ret (pe_ix ix_tupH (pv 0) pe_int (fun _ _ => rfl)))) pss_nil) (pss_cons (ps_if (pt_cmpR op_eq (pe_ix ix_tupH (pv 0) pe_int (fun _ _ => rfl)) pe_str (nomark _)) (pss_one (ps_ret (pe_cal ctreespot hr (by rfl) pass0 (pa_cons (pe_ix ix_tupH (pv 0) pe_int (fun _ _ => rfl)) (pa_cons (pe_ix ix_tupH (pv 0) pe_int (fun _ _ => rfl)) (pa_cons (pv 1) pa_nil)))))) pss_nil) (pss_one (ps_ret (pe_cal ctaken hr (by rfl) pass0 (pa_cons (pe_ix ix_seqH (pv 2) (pe_ix ix_tupH (pv 0) pe_int (fun _ _ => rfl)) (fun _ _ => rfl)) (pa_cons (pe_cal ctreespot hr (by rfl) pass0 (pa_cons (pe_ix ix_tupH (pv 0) pe_int (fun _ _ => rfl)) (pa_cons (pe_ix ix_tupH (pv 0) pe_int (fun _ _ => rfl)) (pa_cons (pv 1) pa_nil)))) pa_nil))))))), ?_⟩
  wp_walk using tSeq, tIfS, sptreespot, sptaken
  have sne : ∀ {a b : Str}, (a == b) = false → ¬ V.str a = V.str b := fun h z => by rw [V.str.inj z, beq_self_eq_true] at h; cases h
  cases t with
  | num m =>
    refine ⟨_, ht, _, atI_nat (j := 0) rfl, rfl, ?_⟩
    rw [if_pos rfl]
    exact ⟨_, ht, _, atI_nat (j := 1) rfl, q _ (Same.refl _)⟩
  | index s0 st =>
    obtain ⟨p, e, hp⟩ := ht
    refine ⟨_, e, _, atI_nat (j := 0) rfl, rfl, ?_⟩
    rw [if_neg (sne (by decide +kernel))]
    refine ⟨_, e, _, atI_nat (j := 0) rfl, rfl, ?_⟩
    rw [if_pos rfl]
    have sl := wf.1
    exact ⟨_, e, _, atI_nat (j := 1) rfl, _, e, _, atI_nat (j := 2) rfl, b, p, s0, rfl, rfl, rfl, st, hp, c, hb, sl, by omega, hc, fun H1 s1 => q _ s1⟩
  | read k s0 st =>
    obtain ⟨p, e, hp⟩ := ht
    refine ⟨_, e, _, atI_nat (j := 0) rfl, rfl, ?_⟩
    rw [if_neg (sne (by decide +kernel))]
    refine ⟨_, e, _, atI_nat (j := 0) rfl, rfl, ?_⟩
    rw [if_neg (sne (by decide +kernel))]
    obtain ⟨k3, sl, z0, z1⟩ := wf
    obtain ⟨r, er, rl, ex, _⟩ := cell_in so k3 (i := s0 + dotI st c) (by omega) (by omega)
    obtain ⟨ps, h1, h2, h3⟩ := hS
    obtain ⟨pr, ep, hr⟩ := h3 k r er
    refine ⟨_, e, _, atI_nat (j := 1) rfl, _, _, rfl, h1, _, atI_nat (j := k) (v := .ref pr) (by rw [List.getElem?_map, ep]; rfl), _, e, _, atI_nat (j := 2) rfl, _, e, _, atI_nat (j := 3) rfl, b, p, s0, rfl, rfl, rfl, st, hp, c, hb, sl, by omega, hc, fun H1 s1 => ?_⟩
    exact ⟨pr, rfl, r, hr.imp (s1 _ _) (s1 _ _), by omega, by rw [rl]; omega, _, ex, q _ s1⟩
  | each => exact fr.elim
  | pair => exact fr.elim
  | pick => exact fr.elim
  | fetch => exact fr.elim
  | fold => exact fr.elim
end
abbrev sputtogether : Stmt := top 26
def spputtogether : Sp := fun vs H Q _ => ∃ (ta na b sa : Addr) (t : Te) (S : List (List Int)) (c : List Int), vs = [.ref ta, .ref na, .ref b, .ref sa] ∧ TeAt H t ta ∧ FinT S t c ∧ ¬ freeE t ∧ foldE t = false ∧ openT t + c.length ≤ 9 ∧ cOk c ∧ H b = some (.tup (c.map V.int)) ∧ StAt H sa S ∧ SOk S ∧ H na = some (.lst (((kidsE t).map fun u => (evT S u c).1).map V.int)) ∧ ∀ H', Same H H' → Q (.int (evT S t c).1) H'
section
variable {P : Program} {w : World} {K : PySem.W.Frag} {mg : Str → Option Value} {base : Heap} {f : Addr} {fd : FuncData} {TC TL : Addr}
theorem scputtogether : FnScope ["tree", "numbers", "at", "stores", "form", "row"] ["tree", "numbers", "at", "stores"] (defScope sputtogether) := ⟨rfl, rfl, rfl, by decide +kernel, rfl, by decide +kernel, by decide +kernel⟩
theorem okputtogether (F : Fun K "put_together" "put_together" sputtogether f fd) (conce : Callee P w K mg base CX0 (3) "once" ["word", "x"] sponce) (ctwice : Callee P w K mg base CX0 (3) "twice" ["word", "x", "y"] sptwice) (ctreespot : Callee P w K mg base CX0 (3) "tree_spot" ["start", "strides", "at"] sptreespot) (ctaken : Callee P w K mg base CX0 (3) "taken" ["store", "spot"] sptaken) : FnOk P w K mg base CX0 (4) f fd ["tree", "numbers", "at", "stores"] (spputtogether) := by
  have sc := scputtogether
  refine F.ok sc (fun vs H Q E h => ?_) (fun cdv A outer s H vs Q E hr h => ?_)
  · obtain ⟨ta, na, b, sa, t, S, c, rfl, _⟩ := h; rfl
  obtain ⟨ta, na, b, sa, t, S, c, rfl, ht, wf, fr, fo, n5, hc, hb, hS, so, hn, q⟩ := h
  refine ⟨_, (pss_cons (ps_set (i := 4) sc.nd rfl (by first | exact Or.inl rfl | exact Or.inr rfl) (pe_ix ix_tupH (pv 0) pe_int (fun _ _ => rfl))) (pss_cons (ps_if (pt_cmpR op_eq (pv 4) pe_str (nomark _)) (pss_one (ps_ret (pe_cal conce hr (by rfl) pass0 (pa_cons (pe_ix ix_tupH (pv 0) pe_int (fun _ _ => rfl)) (pa_cons (pe_ix ix_listH (pv 1) pe_int (fun _ _ => rfl)) pa_nil))))) pss_nil) (pss_cons (ps_if (pt_cmpR op_eq (pv 4) pe_str (nomark _)) (pss_one (ps_ret (pe_cal ctwice hr (by rfl) pass0 (pa_cons (pe_ix ix_tupH (pv 0) pe_int (fun _ _ => rfl)) (pa_cons (pe_ix ix_listH (pv 1) pe_int (fun _ _ => rfl)) (pa_cons (pe_ix ix_listH (pv 1) pe_int (fun _ _ => rfl)) pa_nil)))))) pss_nil) (pss_cons (ps_if (pt_cmpR op_eq (pv 4) pe_str (nomark _)) (pss_one (ps_ret (pe_ifExp (pt_cmpR op_ne (pe_ix ix_listH (pv 1) pe_int (fun _ _ => rfl)) pe_int (nomark _)) (pe_ix ix_listH (pv 1) pe_int (fun _ _ => rfl)) (pe_ix ix_listH (pv 1) pe_int (fun _ _ => rfl))))) pss_nil) (pss_cons (ps_set (i := 5) sc.nd rfl (by first | exact Or.inl rfl | exact Or.inr rfl) (pe_op op_mod (pe_ix ix_listH (pv 1) pe_int (fun _ _ => rfl)) (pe_ix ix_tupH (pv 0) pe_int (fun _ _ => rfl)))) (pss_one (ps_ret (pe_cal ctaken hr (by rfl) pass0 (pa_cons (pe_ix ix_seqH (pv 3) (pe_ix ix_tupH (pv 0) pe_int (fun _ _ => rfl)) (fun _ _ => rfl)) (pa_cons (pe_op op_add (pe_cal ctreespot hr (by rfl) pass0 (pa_cons (pe_ix ix_tupH (pv 0) pe_int (fun _ _ => rfl)) (pa_cons (pe_ix ix_tupH (pv 0) pe_int (fun _ _ => rfl)) (pa_cons (pv 2) pa_nil)))) (pe_op op_mul (pe_ix ix_tupH (pv 0) pe_int (fun _ _ => rfl)) (pv 5))) pa_nil)))))))))), ?_⟩
  wp_walk using tSeq, tIfS, sponce, sptwice, sptreespot, sptaken
  have sne : ∀ {a b : Str}, (a == b) = false → ¬ V.str a = V.str b := fun h z => by rw [V.str.inj z, beq_self_eq_true] at h; cases h
  cases t with
  | num m => exact absurd trivial fr
  | index s0 st => exact absurd trivial fr
  | read k s0 st => exact absurd trivial fr
  | each w t =>
    obtain ⟨p, e, hp⟩ := ht
    refine ⟨_, e, _, atI_nat (j := 0) rfl, rfl, ?_⟩
    rw [if_pos rfl]
    exact ⟨_, e, _, atI_nat (j := 1) rfl, _, hn, _, atI_nat (j := 0) rfl, w, rfl, _, rfl, by simpa using wf.1, q _ (Same.refl _)⟩
  | pair w t u =>
    obtain ⟨p, p', e, hp, hp'⟩ := ht
    refine ⟨_, e, _, atI_nat (j := 0) rfl, rfl, ?_⟩
    rw [if_neg (sne (by decide +kernel))]
    refine ⟨rfl, ?_⟩
    rw [if_pos rfl]
    simp only [openT] at n5
    exact ⟨_, e, _, atI_nat (j := 1) rfl, _, hn, _, atI_nat (j := 0) rfl, _, hn, _, atI_nat (j := 1) rfl, w, rfl, _, rfl, _, rfl, by simpa [tw] using wf.1, ev_fin so wf.2.1, ev_fin so wf.2.2, q _ (Same.refl _)⟩
  | pick t u v =>
    obtain ⟨p, p', p'', e, hp, hp', hp''⟩ := ht
    refine ⟨_, e, _, atI_nat (j := 0) rfl, rfl, ?_⟩
    rw [if_neg (sne (by decide +kernel))]
    refine ⟨rfl, ?_⟩
    rw [if_neg (sne (by decide +kernel))]
    refine ⟨rfl, ?_⟩
    rw [if_pos rfl]
    refine ⟨_, hn, _, atI_nat (j := 0) rfl, rfl, ?_⟩
    have q0 := q _ (Same.refl _)
    simp only [evT] at q0
    split
    · rename_i z
      rw [if_neg (fun y => z (congrArg V.int y))] at q0
      exact ⟨_, hn, _, atI_nat (j := 1) rfl, q0⟩
    · rename_i z
      rw [if_pos (V.int.inj (Classical.not_not.mp z))] at q0
      exact ⟨_, hn, _, atI_nat (j := 2) rfl, q0⟩
  | fetch k s0 d m st t =>
    obtain ⟨p, p', e, hp, hp'⟩ := ht
    refine ⟨_, e, _, atI_nat (j := 0) rfl, rfl, ?_⟩
    rw [if_neg (sne (by decide +kernel))]
    refine ⟨rfl, ?_⟩
    rw [if_neg (sne (by decide +kernel))]
    refine ⟨rfl, ?_⟩
    rw [if_neg (sne (by decide +kernel))]
    obtain ⟨k3, sl, d0, d1, m0, m1, z0, z1, wt⟩ := wf
    have r0 : 0 ≤ (evT S t c).1 % m := Int.emod_nonneg _ (by omega)
    have r1 : (evT S t c).1 % m < m := Int.emod_lt_of_pos _ (by omega)
    have pq : -3 ≤ d * ((evT S t c).1 % m) ∧ d * ((evT S t c).1 % m) ≤ 3 := by
      rcases (show d = -1 ∨ d = 0 ∨ d = 1 by omega) with rfl | rfl | rfl <;> omega
    obtain ⟨r, er, rl, ex, _⟩ := cell_in so k3 (i := s0 + dotI st c + d * ((evT S t c).1 % m)) (by omega) (by omega)
    obtain ⟨ps, h1, h2, h3⟩ := hS
    obtain ⟨pr, ep, hr⟩ := h3 k r er
    refine ⟨_, hn, _, atI_nat (j := 0) rfl, _, e, _, atI_nat (j := 4) rfl, _, rfl, _, rfl, by omega, _, e, _, atI_nat (j := 1) rfl, _, _, rfl, h1, _, atI_nat (j := k) (v := .ref pr) (by rw [List.getElem?_map, ep]; rfl), _, e, _, atI_nat (j := 2) rfl, _, e, _, atI_nat (j := 5) rfl, b, p, s0, rfl, rfl, rfl, st, hp, c, hb, sl, by omega, hc, fun H1 s1 => ?_⟩
    exact ⟨_, s1 _ _ e, _, atI_nat (j := 3) rfl, d, rfl, .inl ⟨by omega, by omega⟩, pr, rfl, r, hr.imp (s1 _ _) (s1 _ _), by show 0 ≤ s0 + dotI st c + d * ((evT S t c).1 % m); omega, by rw [rl]; show s0 + dotI st c + d * ((evT S t c).1 % m) < ((48 : Nat) : Int); omega, _, ex, q _ s1⟩
  | fold => exact absurd fo (by simp [foldE])
end
abbrev sfolded : Stmt := top 27
def spfolded : Nat → Sp := fun d => match d with | 0 => fun _ _ _ _ => False | d + 1 => fun vs H Q _ => ∃ (ta b sa : Addr) (t : Te) (S : List (List Int)) (c : List Int), vs = [.ref ta, .ref b, .ref sa] ∧ TeAt H t ta ∧ FinT S t c ∧ depthT (trOf t) ≤ d ∧ openT t + c.length ≤ 9 ∧ cOk c ∧ H b = some (.tup (c.map V.int)) ∧ StAt H sa S ∧ SOk S ∧ foldE t = true ∧ ∀ H' p, Same H H' → H' p = some (.tup [.int (evT S t c).1, .int (evT S t c).2]) → Q (.ref p) H'
def spreckoned : Nat → Sp := fun d => match d with | 0 => fun _ _ _ _ => False | d + 1 => fun vs H Q _ => ∃ (ta b sa : Addr) (t : Te) (S : List (List Int)) (c : List Int), vs = [.ref ta, .ref b, .ref sa] ∧ TeAt H t ta ∧ FinT S t c ∧ depthT (trOf t) ≤ d ∧ openT t + c.length ≤ 9 ∧ cOk c ∧ H b = some (.tup (c.map V.int)) ∧ StAt H sa S ∧ SOk S ∧ ∀ H' p, Same H H' → H' p = some (.tup [.int (evT S t c).1, .int (evT S t c).2]) → Q (.ref p) H'
section
variable {P : Program} {w : World} {K : PySem.W.Frag} {mg : Str → Option Value} {base : Heap} {f : Addr} {fd : FuncData} {TC TL : Addr}
theorem scfolded : FnScope ["tree", "at", "stores", "number", "calls", "k", "told"] ["tree", "at", "stores"] (defScope sfolded) := ⟨rfl, rfl, rfl, by decide +kernel, rfl, by decide +kernel, by decide +kernel⟩
theorem okfolded (F : Fun K "folded" "folded" sfolded f fd) {d0 : Nat} (cneutral : Callee P w K mg base CX0 (2 * d0 + 5) "neutral" ["word"] spneutral) (ctwice : Callee P w K mg base CX0 (2 * d0 + 5) "twice" ["word", "x", "y"] sptwice) (creckoned : Callee P w K mg base CX0 (2 * d0 + 5) "reckoned" ["tree", "at", "stores"] (spreckoned d0)) (zrange : mg "range" = none) : FnOk P w K mg base CX0 (2 * d0 + 6) f fd ["tree", "at", "stores"] (spfolded (d0 + 1)) := by
  have sc := scfolded
  refine F.ok sc (fun vs H Q E h => ?_) (fun cdv A outer s H vs Q E hr h => ?_)
  · obtain ⟨ta, b, sa, t, S, c, rfl, _⟩ := h; rfl
  obtain ⟨ta, b, sa, t, S, c, rfl, ht, wf, dt, n5, hc, hb, hS, so, fo, q⟩ := h
  refine ⟨_, (pss_cons (ps_set (i := 3) sc.nd rfl (by first | exact Or.inl rfl | exact Or.inr rfl) (pe_cal cneutral hr (by rfl) pass0 (pa_cons (pe_ix ix_tupH (pv 0) pe_int (fun _ _ => rfl)) pa_nil))) (pss_cons (ps_set (i := 4) sc.nd rfl (by first | exact Or.inl rfl | exact Or.inr rfl) pe_int) (pss_cons (ps_for PassesOwn.never rfl (pi_range1 (by rfl) zrange (pa_cons (pe_ix ix_tupH (pv 0) pe_int (fun _ _ => rfl)) pa_nil)) (pg_name (i := 5) sc.nd rfl (Or.inl rfl)) (pss_cons (ps_set (i := 6) sc.nd rfl (by first | exact Or.inl rfl | exact Or.inr rfl) (pe_cal creckoned hr (by rfl) pass0 (pa_cons (pe_ix ix_tupH (pv 0) pe_int (fun _ _ => rfl)) (pa_cons (pe_op op_catS (pv 1) (pe_tup (pa_cons (pv 5) pa_nil))) (pa_cons (pv 2) pa_nil))))) (pss_cons (ps_set (i := 3) sc.nd rfl (by first | exact Or.inl rfl | exact Or.inr rfl) (pe_cal ctwice hr (by rfl) pass0 (pa_cons (pe_ix ix_tupH (pv 0) pe_int (fun _ _ => rfl)) (pa_cons (pv 3) (pa_cons (pe_ix ix_tupH (pv 6) pe_int (fun _ _ => rfl)) pa_nil))))) (pss_one (ps_set (i := 4) sc.nd rfl (by first | exact Or.inl rfl | exact Or.inr rfl) (pe_op op_add (pe_op op_add (pv 4) pe_int) (pe_ix ix_tupH (pv 6) pe_int (fun _ _ => rfl)))))))) (pss_one (ps_ret (pe_tup (pa_cons (pv 3) (pa_cons (pv 4) pa_nil)))))))), ?_⟩
  simp only [L2.start, List.length_cons, List.length_nil, List.replicate, List.cons_append, List.nil_append, Nat.reduceSub, Nat.reduceAdd, List.map_cons, List.map_nil]
  cases t with
  | fold w m u =>
    obtain ⟨p, e, hp, m3⟩ := ht
    obtain ⟨hw, _, wu⟩ := wf
    simp only [openT] at n5
    refine seq_with (fun σ G => Same H G ∧ σ = [some (.ref ta), some (.ref b), some (.ref sa), some (.int (neuI w)), none, none, none]) ?_ (fun R hR => ?_)
    rotate_left
    · wp_walk using tSeq, tIfS, spneutral
      exact ⟨_, e, _, atI_nat (j := 1) rfl, w, rfl, by simpa [fw] using hw, fun G s1 => hR _ _ ⟨s1, rfl⟩⟩
    rintro σ1 G1 ⟨s1, rfl⟩
    refine seq_with (fun σ G => G = G1 ∧ σ = [some (.ref ta), some (.ref b), some (.ref sa), some (.int (neuI w)), some (.int 0), none, none]) ?_ (fun R hR => ?_)
    rotate_left
    · wp_walk using tSeq, tIfS
      exact hR _ _ ⟨rfl, rfl⟩
    rintro σ2 G2 ⟨rfl, rfl⟩
    have fin : ∀ i : Nat, i ≤ m → inB (foldF w (fun k => evT S u (c ++ [(k : Int)])) i).1 := fun i hi => fold_in hw fun k hk => ev_fin so (wu k (by omega))
    have du : depthT (trOf u) < d0 := by simp only [trOf, depthT] at dt; omega
    refine seq_with (fun σ G => ∃ y5 y6 : Option V, Same H G ∧ σ = [some (.ref ta), some (.ref b), some (.ref sa), some (.int (foldF w (fun k => evT S u (c ++ [(k : Int)])) m).1), some (.int (foldF w (fun k => evT S u (c ++ [(k : Int)])) m).2), y5, y6]) ?_ (fun R hR => ?_)
    rotate_left
    · wp_walk using tIfS
      refine ⟨_, s1 _ _ e, _, atI_nat (j := 2) rfl, _, rfl, by omega, by omega, ?_⟩
      rw [Int.toNat_natCast]
      refine LoopR.mk (fun i σ G => ∃ y5 y6 : Option V, Same H G ∧ i ≤ m ∧ σ = [some (.ref ta), some (.ref b), some (.ref sa), some (.int (foldF w (fun k => evT S u (c ++ [(k : Int)])) i).1), some (.int (foldF w (fun k => evT S u (c ++ [(k : Int)])) i).2), y5, y6]) ⟨_, _, s1, Nat.zero_le _, rfl⟩ (fun i σ G hi h => ?_) (fun σ G h => ?_)
      · obtain ⟨y5, y6, sG, im, rfl⟩ := h
        simp only [gName, List.set_cons_succ, List.set_cons_zero]
        rw [Int.zero_add]
        have ei := ev_fin so (wu i hi)
        have fi := fin i (by omega)
        refine seq_with (fun σ G5 => ∃ pt, Same H G5 ∧ G5 pt = some (.tup [.int (evT S u (c ++ [(i : Int)])).1, .int (evT S u (c ++ [(i : Int)])).2]) ∧ σ = [some (.ref ta), some (.ref b), some (.ref sa), some (.int (foldF w (fun k => evT S u (c ++ [(k : Int)])) i).1), some (.int (foldF w (fun k => evT S u (c ++ [(k : Int)])) i).2), some (.int (i : Int)), some (.ref pt)]) ?_ (fun R hR => ?_)
        rotate_left
        · wp_walk using tSeq, tIfS
          cases d0 with
          | zero => exact absurd du (by omega)
          | succ d =>
            simp only [spreckoned]
            refine ⟨_, sG _ _ e, _, atI_nat (j := 3) rfl, small (by decide), fun p1 hp1 => ?_⟩
            have t1 := same_new hp1 (HO.tup [V.int (i : Int)])
            refine ⟨_, t1 _ _ (sG _ _ hb), by rw [List.length_map]; exact small (by omega), fun r G4 s4 hr => ?_⟩
            have s04 := sG.trans (t1.trans s4)
            exact ⟨p, r, sa, u, S, c ++ [(i : Int)], rfl, hp.sameT (.of s04), wu i hi, by omega, by rw [List.length_append, List.length_singleton]; omega, hc.snoc (by omega), by rw [hr, List.map_append]; rfl, hS.same s04, so, fun G5 pt s5 e5 => hR _ _ ⟨pt, s04.trans s5, e5, rfl⟩⟩
        rintro σ5 G5 ⟨pt, s5, g5, rfl⟩
        wp_walk using tSeq, tIfS, sptwice
        exact ⟨_, s5 _ _ e, _, atI_nat (j := 1) rfl, _, g5, _, atI_nat (j := 0) rfl, w, rfl, _, rfl, by simpa [tw] using fw_tw hw, fi, ei, _, g5, _, atI_nat (j := 1) rfl, _, rfl, s5, by omega, rfl, rfl, _, rfl⟩
      · obtain ⟨y5, y6, sG, im, rfl⟩ := h
        exact hR _ _ ⟨y5, y6, sG, rfl⟩
    rintro σ3 G3 ⟨y5, y6, s3, rfl⟩
    wp_walk using tSeq, tIfS
    exact ⟨small (by decide), fun p hp => q _ _ (s3.trans (same_new hp _)) upd_same⟩
  | num => exact absurd fo (by simp [foldE])
  | index => exact absurd fo (by simp [foldE])
  | read => exact absurd fo (by simp [foldE])
  | each => exact absurd fo (by simp [foldE])
  | pair => exact absurd fo (by simp [foldE])
  | pick => exact absurd fo (by simp [foldE])
  | fetch => exact absurd fo (by simp [foldE])
end
abbrev sreckoned : Stmt := top 28
section
variable {P : Program} {w : World} {K : PySem.W.Frag} {mg : Str → Option Value} {base : Heap} {f : Addr} {fd : FuncData} {TC TL : Addr}
theorem screckoned : FnScope ["tree", "at", "stores", "numbers", "calls", "branch", "told"] ["tree", "at", "stores"] (defScope sreckoned) := ⟨rfl, rfl, rfl, by decide +kernel, rfl, by decide +kernel, by decide +kernel⟩
theorem okreckoned (F : Fun K "reckoned" "reckoned" sreckoned f fd) {d0 : Nat} (cisfree : Callee P w K mg base CX0 (2 * d0 + 6) "is_free" ["tree"] spisfree) (cbranchesof : Callee P w K mg base CX0 (2 * d0 + 6) "branches_of" ["tree"] spbranchesof) (cfreenumber : Callee P w K mg base CX0 (2 * d0 + 6) "free_number" ["tree", "at", "stores"] spfreenumber) (cputtogether : Callee P w K mg base CX0 (2 * d0 + 6) "put_together" ["tree", "numbers", "at", "stores"] spputtogether) (cfolded : Callee P w K mg base CX0 (2 * d0 + 6) "folded" ["tree", "at", "stores"] (spfolded (d0 + 1))) (creckoned : Callee P w K mg base CX0 (2 * d0 + 6) "reckoned" ["tree", "at", "stores"] (spreckoned d0)) : FnOk P w K mg base CX0 (2 * d0 + 7) f fd ["tree", "at", "stores"] (spreckoned (d0 + 1)) := by
  have sc := screckoned
  refine F.ok sc (fun vs H Q E h => ?_) (fun cdv A outer s H vs Q E hr h => ?_)
  · obtain ⟨ta, b, sa, t, S, c, rfl, _⟩ := h; rfl
  obtain ⟨ta, b, sa, t, S, c, rfl, ht, wx, dt, n5, hc, hb, hS, so, q⟩ := h
  refine ⟨_, (pss_cons (ps_if (pt_val (pe_cal cisfree hr (by rfl) pass0 (pa_cons (pv 0) pa_nil))) (pss_one (ps_ret (pe_tup (pa_cons (pe_cal cfreenumber hr (by rfl) pass0 (pa_cons (pv 0) (pa_cons (pv 1) (pa_cons (pv 2) pa_nil)))) (pa_cons pe_int pa_nil))))) pss_nil) (pss_cons (ps_if (pt_cmpR op_eq (pe_ix ix_tupH (pv 0) pe_int (fun _ _ => rfl)) pe_str (nomark _)) (pss_one (ps_ret (pe_cal cfolded hr (by rfl) pass0 (pa_cons (pv 0) (pa_cons (pv 1) (pa_cons (pv 2) pa_nil)))))) pss_nil) (pss_cons (ps_set (i := 3) sc.nd rfl (by first | exact Or.inl rfl | exact Or.inr rfl) (pe_lst pa_nil)) (pss_cons (ps_set (i := 4) sc.nd rfl (by first | exact Or.inl rfl | exact Or.inr rfl) pe_int) (pss_cons (ps_for PassesOwn.never rfl (pi_tup (pe_cal cbranchesof hr (by rfl) pass0 (pa_cons (pv 0) pa_nil))) (pg_name (i := 5) sc.nd rfl (Or.inl rfl)) (pss_cons (ps_set (i := 6) sc.nd rfl (by first | exact Or.inl rfl | exact Or.inr rfl) (pe_cal creckoned hr (by rfl) pass0 (pa_cons (pv 5) (pa_cons (pv 1) (pa_cons (pv 2) pa_nil))))) (pss_cons (ps_expr (pe_app (pv 3) (pe_ix ix_tupH (pv 6) pe_int (fun _ _ => rfl)))) (pss_one (ps_set (i := 4) sc.nd rfl (by first | exact Or.inl rfl | exact Or.inr rfl) (pe_op op_add (pv 4) (pe_ix ix_tupH (pv 6) pe_int (fun _ _ => rfl)))))))) (pss_one (ps_ret (pe_tup (pa_cons (pe_cal cputtogether hr (by rfl) pass0 (pa_cons (pv 0) (pa_cons (pv 3) (pa_cons (pv 1) (pa_cons (pv 2) pa_nil))))) (pa_cons (pv 4) pa_nil)))))))))), ?_⟩
  simp only [L2.start, List.length_cons, List.length_nil, List.replicate, List.cons_append, List.nil_append, Nat.reduceSub, Nat.reduceAdd, List.map_cons, List.map_nil]
  have sne : ∀ {a b : Str}, (a == b) = false → ¬ V.str a = V.str b := fun h z => by rw [V.str.inj z, beq_self_eq_true] at h; cases h
  have fl : isLeaf (trOf t) = true ↔ freeE t := by cases t <;> simp [trOf, isLeaf, freeE]
  refine seq_with (fun σ G => Same H G ∧ σ = [some (.ref ta), some (.ref b), some (.ref sa), none, none, none, none] ∧ ¬ freeE t) ?_ (fun R hR => ?_)
  rotate_left
  · wp_walk using tSeq, tIfS, spisfree, spfreenumber
    refine ⟨trOf t, ht.tr, fun G1 s1 => ?_⟩
    cases hf : isLeaf (trOf t) with
    | true =>
      rw [if_pos rfl]
      have e2 : (evT S t c).2 = 0 := by have := fl.mp hf; cases t <;> first | rfl | exact this.elim
      exact ⟨t, ht.sameT (.of s1), S, c, wx, fl.mp hf, by omega, hc, s1 _ _ hb, hS.same s1, so, fun G' s' => ⟨small (by decide), fun p hp => q _ p ((s1.trans s').trans (same_new hp _)) (by rw [upd_same, e2])⟩⟩
    | false =>
      rw [if_neg (by decide)]
      exact hR _ _ ⟨s1, rfl, fun z => by rw [fl.mpr z] at hf; cases hf⟩
  rintro σ1 G1 ⟨s1, rfl, nf⟩
  have wf := wx
  refine seq_with (fun σ G => G = G1 ∧ σ = [some (.ref ta), some (.ref b), some (.ref sa), none, none, none, none] ∧ foldE t = false) ?_ (fun R hR => ?_)
  rotate_left
  · wp_walk using tSeq, tIfS, spfolded
    cases t with
    | num => exact absurd trivial nf
    | index => exact absurd trivial nf
    | read => exact absurd trivial nf
    | fold w k u =>
      have ht1 := ht.sameT (.of s1)
      obtain ⟨p, e, _⟩ := id ht1
      refine ⟨_, e, _, atI_nat (j := 0) rfl, rfl, ?_⟩
      rw [if_pos rfl]
      exact ⟨.fold w k u, ht1, S, c, wf, dt, n5, hc, s1 _ _ hb, hS.same s1, so, rfl, fun G' p s' e' => q _ p (s1.trans s') e'⟩
    | each w t =>
      obtain ⟨p, e, _⟩ := ht.sameT (.of s1)
      refine ⟨_, e, _, atI_nat (j := 0) rfl, rfl, ?_⟩
      rw [if_neg (sne (by decide +kernel))]
      exact hR _ _ ⟨rfl, rfl, rfl⟩
    | pair w t u =>
      obtain ⟨p, p2, e, _⟩ := ht.sameT (.of s1)
      refine ⟨_, e, _, atI_nat (j := 0) rfl, rfl, ?_⟩
      rw [if_neg (sne (by decide +kernel))]
      exact hR _ _ ⟨rfl, rfl, rfl⟩
    | pick t u v =>
      obtain ⟨p, p2, p3, e, _⟩ := ht.sameT (.of s1)
      refine ⟨_, e, _, atI_nat (j := 0) rfl, rfl, ?_⟩
      rw [if_neg (sne (by decide +kernel))]
      exact hR _ _ ⟨rfl, rfl, rfl⟩
    | fetch k s0 d m st t =>
      obtain ⟨p, p2, e, _⟩ := ht.sameT (.of s1)
      refine ⟨_, e, _, atI_nat (j := 0) rfl, rfl, ?_⟩
      rw [if_neg (sne (by decide +kernel))]
      exact hR _ _ ⟨rfl, rfl, rfl⟩
  rintro σ2 G2 ⟨rfl, rfl, nfo⟩
  refine seq_with (fun σ G => ∃ na, Same H G ∧ H na = none ∧ G na = some (.lst []) ∧ σ = [some (.ref ta), some (.ref b), some (.ref sa), some (.ref na), none, none, none]) ?_ (fun R hR => ?_)
  rotate_left
  · wp_walk using tSeq, tIfS
    exact ⟨small (by decide), fun p hp => hR _ _ ⟨p, s1.trans (same_new hp _), s1.free hp, upd_same, rfl⟩⟩
  rintro σ3 G3 ⟨na, s3, na0, hn, rfl⟩
  refine seq_with (fun σ G => G = G3 ∧ σ = [some (.ref ta), some (.ref b), some (.ref sa), some (.ref na), some (.int 1), none, none]) ?_ (fun R hR => ?_)
  rotate_left
  · wp_walk using tSeq, tIfS
    exact hR _ _ ⟨rfl, rfl⟩
  rintro σ4 G4 ⟨rfl, rfl⟩
  refine seq_with (fun σ G => ∃ y5 y6 : Option V, Same H G ∧ G na = some (.lst (((kidsE t).map fun u => (evT S u c).1).map V.int)) ∧ σ = [some (.ref ta), some (.ref b), some (.ref sa), some (.ref na), some (.int (evT S t c).2), y5, y6]) ?_ (fun R hR => ?_)
  rotate_left
  · wp_walk using tIfS, spbranchesof
    refine ⟨t, ht.sameT (.of s3), fun G5 pb ps s5 hpb ks => ?_⟩
    refine LoopT.mk (xs := ps.map V.ref) (.of hpb) (fun i σ G => ∃ y5 y6 : Option V, Same H G ∧ SameT G5 G ∧ G na = some (.lst ((((kidsE t).take i).map fun u => (evT S u c).1).map V.int)) ∧ σ = [some (.ref ta), some (.ref b), some (.ref sa), some (.ref na), some (.int (1 + sumE S c ((kidsE t).take i))), y5, y6]) ⟨_, _, s3.trans s5, .of (.refl _), s5 _ _ hn, rfl⟩ (fun i σ G _ h => ?_) (fun i x σ G e h => ?_) (fun σ G h => ?_)
    · obtain ⟨y5, y6, _, sT, _⟩ := h
      exact .of (sT _ _ hpb)
    · obtain ⟨y5, y6, sG, sT, hG, rfl⟩ := h
      have il : i < ps.length := by have := (List.getElem?_eq_some_iff.mp e).1; rwa [List.length_map] at this
      have ek : (kidsE t)[i]? = some ((kidsE t)[i]'(by rw [← ks.1]; exact il)) := List.getElem?_eq_getElem _
      generalize (kidsE t)[i]'(by rw [← ks.1]; exact il) = u at ek
      obtain ⟨pu, epu, hu⟩ := ks.2 i u ek
      have ex : x = V.ref pu := by rw [List.getElem?_map, epu] at e; exact (Option.some.inj e).symm
      subst ex
      obtain ⟨wu, ou, du⟩ := kid_fin nf nfo wf (List.mem_of_getElem? ek)
      simp only [gName, List.set_cons_succ, List.set_cons_zero]
      refine seq_with (fun σ G6 => ∃ pt, Same H G6 ∧ SameT G5 G6 ∧ G6 na = some (.lst ((((kidsE t).take i).map fun u => (evT S u c).1).map V.int)) ∧ G6 pt = some (.tup [.int (evT S u c).1, .int (evT S u c).2]) ∧ σ = [some (.ref ta), some (.ref b), some (.ref sa), some (.ref na), some (.int (1 + sumE S c ((kidsE t).take i))), some (.ref pu), some (.ref pt)]) ?_ (fun R hR => ?_)
      rotate_left
      · wp_walk using tSeq, tIfS
        cases d0 with
        | zero => exact absurd dt (by omega)
        | succ d =>
          simp only [spreckoned]
          exact ⟨pu, b, sa, u, S, c, rfl, hu.sameT sT, wu, by omega, by omega, hc, sG _ _ hb, hS.same sG, so, fun G6 pt s6 e6 => hR _ _ ⟨pt, sG.trans s6, sT.trans (.of s6), s6 _ _ hG, e6, rfl⟩⟩
      rintro σ6 G6 ⟨pt, s6, sT6, h6, e6, rfl⟩
      wp_walk using tSeq, tIfS
      have k3 := kids_len t
      have nt : ∀ xs, G6 na ≠ some (.tup xs) := fun xs z => by rw [h6] at z; cases z
      have pn : pt ≠ na := fun z => nt _ (by rw [← z]; exact e6)
      have et : ((((kidsE t).take (i + 1)).map fun u => (evT S u c).1).map V.int) = ((((kidsE t).take i).map fun u => (evT S u c).1).map V.int) ++ [V.int (evT S u c).1] := by
        rw [List.take_add_one, ek, List.map_append, List.map_append]; rfl
      refine ⟨⟨_, h6⟩, _, e6, _, atI_nat (j := 0) rfl, _, h6, by rw [List.length_map, List.length_map, List.length_take]; exact small1000 (by omega), _, by rw [upd_ne pn]; exact e6, _, atI_nat (j := 1) rfl, _, rfl, sameSetN s6 na0 _, sT6.trans (SameT.no nt), et.symm, ?_, _, rfl⟩
      rw [sumE_succ ek]; omega
    · obtain ⟨y5, y6, sG, sT, hG, rfl⟩ := h
      rw [List.length_map, show ps.length = (kidsE t).length from ks.1, List.take_length] at hG ⊢
      rw [← ev_calls nf nfo]
      exact hR _ _ ⟨y5, y6, sG, hG, rfl⟩
  rintro σ5 G5 ⟨y5, y6, s5, h5, rfl⟩
  wp_walk using tSeq, tIfS, spputtogether
  exact ⟨t, ht.sameT (.of s5), S, c, wf, nf, nfo, n5, hc, s5 _ _ hb, hS.same s5, so, h5, fun G' s' => ⟨small (by decide), fun p hp => q _ p ((s5.trans s').trans (same_new hp _)) upd_same⟩⟩
theorem okreckonedA {f2 : Addr} {fd2 : FuncData} (F2 : Fun K "folded" "folded" sfolded f2 fd2) (F : Fun K "reckoned" "reckoned" sreckoned f fd) (cneutral : Callee P w K mg base CX0 5 "neutral" ["word"] spneutral) (ctwice : Callee P w K mg base CX0 5 "twice" ["word", "x", "y"] sptwice) (zrange : mg "range" = none) (cisfree : Callee P w K mg base CX0 5 "is_free" ["tree"] spisfree) (cbranchesof : Callee P w K mg base CX0 5 "branches_of" ["tree"] spbranchesof) (cfreenumber : Callee P w K mg base CX0 5 "free_number" ["tree", "at", "stores"] spfreenumber) (cputtogether : Callee P w K mg base CX0 5 "put_together" ["tree", "numbers", "at", "stores"] spputtogether) (m2 : mg "folded" = some (.ref f2)) (b2 : Binds K fd2 ["tree", "at", "stores"] []) (m : mg "reckoned" = some (.ref f)) (b : Binds K fd ["tree", "at", "stores"] []) : ∀ d0 : Nat, FnOk P w K mg base CX0 (2 * d0 + 5) f fd ["tree", "at", "stores"] (spreckoned d0) ∧ FnOk P w K mg base CX0 (2 * d0 + 4) f2 fd2 ["tree", "at", "stores"] (spfolded d0)
  | 0 => ⟨⟨fun _ _ _ _ h => h.elim, fun _ _ _ _ _ _ _ _ _ _ _ _ _ h => h.elim⟩, ⟨fun _ _ _ _ h => h.elim, fun _ _ _ _ _ _ _ _ _ _ _ _ _ h => h.elim⟩⟩
  | d0 + 1 => by
    have ih := okreckonedA F2 F cneutral ctwice zrange cisfree cbranchesof cfreenumber cputtogether m2 b2 m b d0
    have cR := Callee.mk' F m b ih.1
    have hF := okfolded F2 (cneutral.mono (by omega)) (ctwice.mono (by omega)) (cR.mono (by omega)) zrange
    have cF := Callee.mk' F2 m2 b2 hF
    have hR := okreckoned F (cisfree.mono (by omega)) (cbranchesof.mono (by omega)) (cfreenumber.mono (by omega)) (cputtogether.mono (by omega)) (cF.mono (by omega)) (cR.mono (by omega))
    exact ⟨hR.mono (by omega), hF.mono (by omega)⟩
end
abbrev srootremade : Stmt := top 21
section
variable {P : Program} {w : World} {K : PySem.W.Frag} {mg : Str → Option Value} {base : Heap} {f : Addr} {fd : FuncData} {TC TL : Addr}
theorem scrootremade : FnScope ["tree", "change", "form", "told"] ["tree", "change"] (defScope srootremade) := ⟨rfl, rfl, rfl, by decide +kernel, rfl, by decide +kernel, by decide +kernel⟩
theorem okrootremade (F : Fun K "root_remade" "root_remade" srootremade f fd) (cbranchesof : Callee P w K mg base CX0 (6) "branches_of" ["tree"] spbranchesof) (zlen : mg "len" = none) : FnOk P w K mg base CX0 (7) f fd ["tree", "change"] ((sprootrem P w K mg base)) := by
  have sc := scrootremade
  refine F.ok sc (fun vs H Q E h => ?_) (fun cdv A outer s H vs Q E hr h => ?_)
  · obtain ⟨ta, fa, t, n, f, rfl, _⟩ := h; rfl
  obtain ⟨ta, fa, t, n, f, rfl, ht, wf, n3, n5, hc, q⟩ := h
  refine ⟨_, (pss_cons (ps_set (i := 2) sc.nd rfl (by first | exact Or.inl rfl | exact Or.inr rfl) (pe_ix ix_tupH (pv 0) pe_int (fun _ _ => rfl))) (pss_cons (ps_if (pt_cmpR op_eq (pv 2) pe_str (nomark _)) (pss_one (ps_ret (pe_op op_catS (pe_tup (pa_cons pe_str pa_nil)) (pe_calVK (P := P) (w := w) (K := K) (mg := mg) (base := base) (i := 1) rfl rfl rfl rfl rfl hr rfl (by first | exact Or.inl rfl | exact Or.inr (Or.inl rfl) | exact Or.inr (Or.inr rfl)) (pa_cons (pe_ix ix_tupH (pv 0) pe_int (fun _ _ => rfl)) (pa_cons (pe_ix ix_tupH (pv 0) pe_int (fun _ _ => rfl)) pa_nil)))))) pss_nil) (pss_cons (ps_if (pt_cmpR op_eq (pv 2) pe_str (nomark _)) (pss_one (ps_ret (pe_op op_catS (pe_tup (pa_cons pe_str (pa_cons (pe_ix ix_tupH (pv 0) pe_int (fun _ _ => rfl)) pa_nil))) (pe_calVK (P := P) (w := w) (K := K) (mg := mg) (base := base) (i := 1) rfl rfl rfl rfl rfl hr rfl (by first | exact Or.inl rfl | exact Or.inr (Or.inl rfl) | exact Or.inr (Or.inr rfl)) (pa_cons (pe_ix ix_tupH (pv 0) pe_int (fun _ _ => rfl)) (pa_cons (pe_ix ix_tupH (pv 0) pe_int (fun _ _ => rfl)) pa_nil)))))) pss_nil) (pss_cons (ps_if (pt_cmpR op_eq (pv 2) pe_str (nomark _)) (pss_cons (ps_set (i := 3) sc.nd rfl (by first | exact Or.inl rfl | exact Or.inr rfl) (pe_calVK (P := P) (w := w) (K := K) (mg := mg) (base := base) (i := 1) rfl rfl rfl rfl rfl hr rfl (by first | exact Or.inl rfl | exact Or.inr (Or.inl rfl) | exact Or.inr (Or.inr rfl)) (pa_cons (pe_ix ix_tupH (pv 0) pe_int (fun _ _ => rfl)) (pa_cons (pe_ix ix_tupH (pv 0) pe_int (fun _ _ => rfl)) pa_nil)))) (pss_one (ps_ret (pe_tup (pa_cons pe_str (pa_cons (pe_ix ix_tupH (pv 0) pe_int (fun _ _ => rfl)) (pa_cons (pe_ix ix_tupH (pv 3) pe_int (fun _ _ => rfl)) (pa_cons (pe_ix ix_tupH (pv 0) pe_int (fun _ _ => rfl)) (pa_cons (pe_ix ix_tupH (pv 0) pe_int (fun _ _ => rfl)) (pa_cons (pe_ix ix_tupH (pv 3) pe_int (fun _ _ => rfl)) pa_nil)))))))))) pss_nil) (pss_one (ps_ret (pe_slice sl_tupA (pv 0) po_none (po_some (pe_op op_sub (pe_callB call_len_seq (by rfl) zlen PySem.boot_len (pa_cons (pv 0) pa_nil)) (pe_callB call_len_seq (by rfl) zlen PySem.boot_len (pa_cons (pe_cal cbranchesof hr (by rfl) pass0 (pa_cons (pv 0) pa_nil)) pa_nil))))))))))), ?_⟩
  simp only [L2.start, List.length_cons, List.length_nil, List.replicate, List.cons_append, List.nil_append, Nat.reduceSub, Nat.reduceAdd, List.map_cons, List.map_nil]
  obtain ⟨ys, hv⟩ := te_view ht
  refine seq_with (fun σ G => G = H ∧ σ = [some (.ref ta), some (.ref fa), some (.str (formE t)), none]) ?_ (fun R hR => ?_)
  rotate_left
  · wp_walk using tSeq, tIfS
    exact ⟨_, hv, _, atI_nat (j := 0) rfl, hR _ _ ⟨rfl, rfl⟩⟩
  rintro σ1 G1 ⟨rfl, rfl⟩
  refine seq_with (fun σ G => G = G1 ∧ ¬ formE t = Str.ofString "index" ∧ σ = [some (.ref ta), some (.ref fa), some (.str (formE t)), none]) ?_ (fun R hR => ?_)
  rotate_left
  · wp_walk using tSeq, tIfS
    by_cases c : formE t = Str.ofString "index"
    rotate_left
    · rw [if_neg c]
      exact hR _ _ ⟨rfl, c, rfl⟩
    rw [if_pos c]
    obtain ⟨s, st, rfl⟩ := inv_index c
    obtain ⟨p0, e, hp0⟩ := ht
    refine ⟨small (by decide), fun p hp => ?_⟩
    have fv := hc.1.same fun o e => same_new hp (.tup [V.str (Str.ofString "index")]) _ _ e
    refine ⟨fv, _, same_new hp _ _ _ e, _, atI_nat (j := 1) rfl, _, same_new hp _ _ _ e, _, atI_nat (j := 2) rfl, fv, ?_⟩
    exact hc.2 s st _ p0 _ (same_new hp _) (same_new hp _ _ _ hp0) (by rw [wf.2.2.1]; exact n3) (by rw [wf.2.2.1]; exact n5) wf.2.2.2 (fun H2 r p2 u h1 h2 => ⟨r, rfl, _, u _ _ upd_same, _, h1, small (of_decide_eq_true rfl), fun r2 H3 u3 h3 => q _ r2 _ ((same_new hp _).trans (u.trans u3)) h3 ⟨p2, rfl, u3 _ _ h2⟩⟩)
  rintro σ2 G2 ⟨rfl, c1, rfl⟩
  refine seq_with (fun σ G => G = G2 ∧ ¬ formE t = Str.ofString "read" ∧ σ = [some (.ref ta), some (.ref fa), some (.str (formE t)), none]) ?_ (fun R hR => ?_)
  rotate_left
  · wp_walk using tSeq, tIfS
    by_cases c : formE t = Str.ofString "read"
    rotate_left
    · rw [if_neg c]
      exact hR _ _ ⟨rfl, c, rfl⟩
    rw [if_pos c]
    obtain ⟨k, s, st, rfl⟩ := inv_read c
    obtain ⟨p0, e, hp0⟩ := ht
    refine ⟨_, e, _, atI_nat (j := 1) rfl, small (by decide), fun p hp => ?_⟩
    have fv := hc.1.same fun o e => same_new hp (.tup [V.str (Str.ofString "read"), V.int (k : Int)]) _ _ e
    refine ⟨fv, _, same_new hp _ _ _ e, _, atI_nat (j := 2) rfl, _, same_new hp _ _ _ e, _, atI_nat (j := 3) rfl, fv, ?_⟩
    exact hc.2 s st _ p0 _ (same_new hp _) (same_new hp _ _ _ hp0) (by rw [wf.2.2.2.1]; exact n3) (by rw [wf.2.2.2.1]; exact n5) wf.2.2.2.2 (fun H2 r p2 u h1 h2 => ⟨r, rfl, _, u _ _ upd_same, _, h1, small (of_decide_eq_true rfl), fun r2 H3 u3 h3 => q _ r2 _ ((same_new hp _).trans (u.trans u3)) h3 ⟨p2, rfl, u3 _ _ h2⟩⟩)
  rintro σ3 G3 ⟨rfl, c2, rfl⟩
  refine seq_with (fun σ G => G = G3 ∧ ¬ formE t = Str.ofString "fetch" ∧ σ = [some (.ref ta), some (.ref fa), some (.str (formE t)), none]) ?_ (fun R hR => ?_)
  rotate_left
  · wp_walk using tSeq, tIfS
    by_cases c : formE t = Str.ofString "fetch"
    rotate_left
    · rw [if_neg c]
      exact hR _ _ ⟨rfl, c, rfl⟩
    rw [if_pos c]
    obtain ⟨k, s, d, m, st, t', rfl⟩ := inv_fetch c
    obtain ⟨p0, pb, e, hp0, hb⟩ := ht
    obtain ⟨k3, s0, s1, d0, d1, m0, m1, so, wt⟩ := wf
    refine ⟨hc.1, _, e, _, atI_nat (j := 2) rfl, _, e, _, atI_nat (j := 5) rfl, hc.1, ?_⟩
    exact hc.2 s st _ p0 _ (Same.refl _) hp0 (by rw [so.1]; exact n3) (by rw [so.1]; exact n5) so.2 (fun H2 r p2 u h1 h2 => ⟨_, u _ _ e, _, atI_nat (j := 1) rfl, r, rfl, _, h1, _, atI_nat (j := 0) rfl, _, u _ _ e, _, atI_nat (j := 3) rfl, _, u _ _ e, _, atI_nat (j := 4) rfl, r, rfl, _, h1, _, atI_nat (j := 1) rfl, small (by decide), fun r2 hr2 => q _ r2 _ (u.trans (same_new hr2 _)) upd_same ⟨p2, rfl, same_new hr2 _ _ _ h2⟩⟩)
  rintro σ4 G4 ⟨rfl, c3, rfl⟩
  wp_walk using tSeq, tIfS, spbranchesof
  obtain ⟨zs, k, hz, zl, ri⟩ := root_cut (f := f) ht c1 c2 c3
  exact ⟨_, .inr (.of hz), t, ht, fun G pb ps s1 hpb ks => ⟨_, .inr (.of hpb), _, s1 _ _ hz, fun r1 H1 u1 h1 => by
    rw [List.length_map, show ps.length = (kidsE t).length from ks.1, cut_to zs _ k (by omega)] at h1
    exact q _ r1 _ (s1.trans u1) h1 (ri.same (s1.trans u1))⟩⟩
end
abbrev sremade : Stmt := top 22
section
variable {P : Program} {w : World} {K : PySem.W.Frag} {mg : Str → Option Value} {base : Heap} {f : Addr} {fd : FuncData} {TC TL : Addr}
theorem scremade : FnScope ["tree", "change", "branches", "branch"] ["tree", "change"] (defScope sremade) := ⟨rfl, rfl, rfl, by decide +kernel, rfl, by decide +kernel, by decide +kernel⟩
theorem okremade (F : Fun K "remade" "remade" sremade f fd) {d0 : Nat} (cbranchesof : Callee P w K mg base CX0 (d0 + 7) "branches_of" ["tree"] spbranchesof) (crootremade : Callee P w K mg base CX0 (d0 + 7) "root_remade" ["tree", "change"] (sprootrem P w K mg base)) (cremade : Callee P w K mg base CX0 (d0 + 7) "remade" ["tree", "change"] ((spremade P w K mg base) d0)) (ztuple : mg "tuple" = none) : FnOk P w K mg base CX0 (d0 + 8) f fd ["tree", "change"] ((spremade P w K mg base) (d0 + 1)) := by
  have sc := scremade
  refine F.ok sc (fun vs H Q E h => ?_) (fun cdv A outer s H vs Q E hr h => ?_)
  · obtain ⟨ta, fa, t, n, f, rfl, _⟩ := h; rfl
  obtain ⟨ta, fa, t, n, f, rfl, ht, wf, n3, n5, dt, hc, q⟩ := h
  refine ⟨_, (pss_cons (ps_set (i := 2) sc.nd rfl (by first | exact Or.inl rfl | exact Or.inr rfl) (pe_lst pa_nil)) (pss_cons (ps_for PassesOwn.never rfl (pi_tup (pe_cal cbranchesof hr (by rfl) pass0 (pa_cons (pv 0) pa_nil))) (pg_name (i := 3) sc.nd rfl (Or.inl rfl)) (pss_one (ps_expr (pe_app (pv 2) (pe_cal cremade hr (by rfl) pass0 (pa_cons (pv 3) (pa_cons (pv 1) pa_nil))))))) (pss_one (ps_ret (pe_op op_catS (pe_cal crootremade hr (by rfl) pass0 (pa_cons (pv 0) (pa_cons (pv 1) pa_nil))) (pe_callTy call_tuple_of (by rfl) ztuple boot_tuple (pa_cons (pv 2) pa_nil))))))), ?_⟩
  simp only [L2.start, List.length_cons, List.length_nil, List.replicate, List.cons_append, List.nil_append, Nat.reduceSub, Nat.reduceAdd, List.map_cons, List.map_nil]
  refine seq_with (fun σ G => ∃ bl, Same H G ∧ H bl = none ∧ G bl = some (.lst []) ∧ σ = [some (.ref ta), some (.ref fa), some (.ref bl), none]) ?_ (fun R hR => ?_)
  rotate_left
  · wp_walk using tSeq, tIfS
    exact ⟨Nat.zero_le _, fun l hl => hR _ _ ⟨l, same_new hl _, hl, upd_same, rfl⟩⟩
  rintro σ1 G1 ⟨bl, s1, bl0, hbl, rfl⟩
  refine seq_with (fun σ G => ∃ (qs : List Addr) (y : Option V), Same H G ∧ G bl = some (.lst (qs.map V.ref)) ∧ TesAt G ((kidsE t).map (chgT f)) qs ∧ σ = [some (.ref ta), some (.ref fa), some (.ref bl), y]) ?_ (fun R hR => ?_)
  rotate_left
  · wp_walk using tIfS, spbranchesof
    refine ⟨t, ht.sameT (.of s1), fun G5 pb ps s5 hpb ks => ?_⟩
    obtain ⟨J, hJ⟩ : ∃ J : Nat → L2.St → Hp → Prop, J = (fun i σ G => ∃ (qs : List Addr) (y : Option V), Same H G ∧ SameT G5 G ∧ G bl = some (.lst (qs.map V.ref)) ∧ TesAt G (((kidsE t).take i).map (chgT f)) qs ∧ σ = [some (.ref ta), some (.ref fa), some (.ref bl), y]) := ⟨_, rfl⟩
    refine LoopT.mk (xs := ps.map V.ref) (.of hpb) J (by rw [hJ]; exact ⟨[], _, s1.trans s5, .of (.refl _), s5 _ _ hbl, TesAt.nil, rfl⟩) (fun i σ G _ h => by rw [hJ] at h; obtain ⟨_, _, _, sT, _⟩ := h; exact .of (sT _ _ hpb)) (fun i x σ G e h => ?_) (fun σ G h => ?_)
    rotate_left
    · rw [hJ] at h
      obtain ⟨qs, y, sG, _, h1, h2, rfl⟩ := h
      rw [List.length_map, show ps.length = (kidsE t).length from ks.1, List.take_length] at h2
      exact hR _ _ ⟨qs, y, sG, h1, h2, rfl⟩
    rw [hJ] at h
    obtain ⟨qs, y, sG, sT, h1, h2, rfl⟩ := h
    have il : i < ps.length := by have := (List.getElem?_eq_some_iff.mp e).1; rwa [List.length_map] at this
    have ek : (kidsE t)[i]? = some ((kidsE t)[i]'(by rw [← ks.1]; exact il)) := List.getElem?_eq_getElem _
    generalize (kidsE t)[i]'(by rw [← ks.1]; exact il) = u at ek
    obtain ⟨pu, epu, hu⟩ := ks.2 i u ek
    have ex : x = V.ref pu := by rw [List.getElem?_map, epu] at e; exact (Option.some.inj e).symm
    subst ex
    obtain ⟨m, nm, wu, ou, du⟩ := kid_wf wf n5 (List.mem_of_getElem? ek)
    have k3 := kids_len t
    have ql : qs.length ≤ 3 := by rw [h2.1, List.length_map, List.length_take]; omega
    wp_walk using tSeq, tIfS
    cases d0 with
    | zero => exact absurd dt (by omega)
    | succ d =>
      simp only [spremade]
      refine ⟨⟨_, h1⟩, pu, fa, u, m, f, rfl, hu.sameT sT, wu, by omega, by omega, by omega, hc.same sG, fun G6 r s6 h6 => ?_⟩
      refine ⟨_, s6 _ _ h1, by rw [List.length_map]; exact small1000 (by omega), ?_⟩
      rw [hJ]
      have nt : ∀ xs, G6 bl ≠ some (.tup xs) := fun xs z => by rw [s6 _ _ h1] at z; cases z
      have sT7 : SameT G6 (upd G6 bl (.lst (qs.map V.ref ++ [V.ref r]))) := SameT.no nt
      refine ⟨qs ++ [r], _, sameSetN (sG.trans s6) bl0 _, sT.trans ((SameT.of s6).trans sT7), by rw [upd_same, List.map_append]; rfl, ?_, rfl⟩
      rw [List.take_add_one, ek, List.map_append]
      exact ((h2.sameT (.of s6)).sameT sT7).app (tes1 (h6.sameT sT7))
  rintro σ2 G2 ⟨qs, y, s2, h1, h2, rfl⟩
  wp_walk using tSeq, tIfS, sprootrem
  have k3 := kids_len t
  have ql : qs.length ≤ 3 := by rw [h2.1, List.length_map]; exact k3
  refine ⟨t, ht.sameT (.of s2), n, wf, n3, by omega, f, hc.same s2, fun H' r xs u hr ri => ⟨_, .inl ⟨.of (u _ _ h1), fun l hl => ⟨_, same_new hl _ _ _ hr, ?_, fun r2 H3 u3 h3 => ?_⟩⟩⟩⟩
  · have := root_len ri
    rw [List.length_map]; exact small (by omega)
  · have u4 := u.trans ((same_new hl (.tup (qs.map V.ref))).trans u3)
    exact q _ r2 (s2.trans u4) (te_root (ri.same ((same_new hl _).trans u3)) (h2.sameT (.of u4)) h3 (fun w n u e => by subst e; exact wf.2.1))
theorem okremadeA (F : Fun K "remade" "remade" sremade f fd) (cbranchesof : Callee P w K mg base CX0 7 "branches_of" ["tree"] spbranchesof) (crootremade : Callee P w K mg base CX0 7 "root_remade" ["tree", "change"] (sprootrem P w K mg base)) (ztuple : mg "tuple" = none) (m : mg "remade" = some (.ref f)) (b : Binds K fd ["tree", "change"] []) : ∀ d0 : Nat, FnOk P w K mg base CX0 (d0 + 7) f fd ["tree", "change"] ((spremade P w K mg base) d0)
  | 0 => ⟨fun _ _ _ _ h => h.elim, fun _ _ _ _ _ _ _ _ _ _ _ _ _ h => h.elim⟩
  | d0 + 1 => (okremade F (cbranchesof.mono (Nat.le_add_left _ _)) (crootremade.mono (Nat.le_add_left _ _)) (Callee.mk' F m b (okremadeA F cbranchesof crootremade ztuple m b d0)) ztuple).mono (by omega)
end
abbrev slawleaf : Stmt := top 30
def splawleaf : Sp := fun vs H Q _ => ∃ (c w i : Int), vs = [.int c, .int w, .int i] ∧ 0 ≤ i ∧ i ≤ 2 ∧ ∀ H' p t, Same H H' → TeAt H' t p → OkE (t, i) → sizeE t = 1 → Q (.ref p) H'
section
variable {P : Program} {w : World} {K : PySem.W.Frag} {mg : Str → Option Value} {base : Heap} {f : Addr} {fd : FuncData} {TC TL : Addr}
theorem sclawleaf : FnScope ["_law_cell", "_law_way", "_law_inner", "_law_strides"] ["_law_cell", "_law_way", "_law_inner"] (defScope slawleaf) := ⟨rfl, rfl, rfl, by decide +kernel, rfl, by decide +kernel, by decide +kernel⟩
theorem oklawleaf (F : Fun K "_law_leaf" "_law_leaf" slawleaf f fd) (ztuple : mg "tuple" = none) (zrange : mg "range" = none) : FnOk P w K mg base CX0 (1) f fd ["_law_cell", "_law_way", "_law_inner"] (splawleaf) := by
  have sc := sclawleaf
  refine F.ok sc (fun vs H Q E h => ?_) (fun cdv A outer s H vs Q E hr h => ?_)
  · obtain ⟨c, w, i, rfl, _⟩ := h; rfl
  obtain ⟨c, w, i, rfl, i0, i2, q⟩ := h
  refine ⟨_, (pss_cons (ps_set (i := 3) sc.nd rfl (by first | exact Or.inl rfl | exact Or.inr rfl) (pe_callTy call_tuple_of (by rfl) ztuple boot_tuple (pa_cons (pe_comp (own := ["_law_k"]) (fv := ["_law_cell"]) (js := [0]) rfl (pi_range1 (by rfl) zrange (pa_cons (pe_op op_add pe_int (pv 2)) pa_nil)) rfl (by decide) rfl (by decide) (by first | exact fun _ _ h => h | exact cl_sub1 rfl | exact cl_sub2 rfl rfl | exact cl_sub3 rfl rfl rfl) (has_of (by rfl)) rfl (cap1 (by first | exact ⟨rfl, .inl rfl, .inl rfl⟩ | exact ⟨rfl, .inl rfl, .inr rfl⟩)) (fun _ _ _ _ => (pg_name (i := 0) (show (["_law_k", "_law_cell"] : List Str).Nodup by decide +kernel) rfl (Or.inl rfl))) (fun _ _ _ _ => (pe_op op_sub (pe_op op_mod (pe_op op_fdiv (pv 1) (pe_op op_add pe_int (pe_op op_mul (pe_op op_mul pe_int (pv 0)) (pv 0)))) pe_int) pe_int))) pa_nil))) (pss_cons (ps_if (pt_cmpR op_eq (pv 1) pe_int (nomark _)) (pss_one (ps_ret (pe_tup (pa_cons pe_str (pa_cons (pe_op op_sub (pe_op op_mod (pv 0) (pe_op op_pow pe_int pe_int)) (pe_op op_pow pe_int pe_int)) pa_nil))))) pss_nil) (pss_cons (ps_if (pt_cmpR op_eq (pv 1) pe_int (nomark _)) (pss_one (ps_ret (pe_tup (pa_cons pe_str (pa_cons (pe_op op_add pe_int (pe_op op_mod (pv 0) pe_int)) (pa_cons (pv 3) pa_nil)))))) pss_nil) (pss_one (ps_ret (pe_tup (pa_cons pe_str (pa_cons (pe_op op_mod (pe_op op_fdiv (pv 0) pe_int) pe_int) (pa_cons (pe_op op_add pe_int (pe_op op_mod (pv 0) pe_int)) (pa_cons (pv 3) pa_nil)))))))))), ?_⟩
  wp_walk using tSeq, tIfS
  refine ⟨by omega, by omega, ?_⟩
  refine CompR.mk (fun j ys σ G => G = H ∧ ys = (strF c 1 j).map V.int ∧ j ≤ 5 ∧ ∃ y, σ = [y, some (.int c)]) ⟨rfl, rfl, by omega, _, rfl⟩ (fun j ys σ G hj h => ?_) (fun ys σ G h p hp => ?_)
  · obtain ⟨rfl, rfl, j5, y, rfl⟩ := h
    refine ⟨by rw [List.length_map, (strF_ok _ _ _).1]; exact small1000 (by omega), ?_⟩
    rw [strF_succ, List.map_append]
    have j3 : j ≤ 4 := by omega
    rcases (show j = 0 ∨ j = 1 ∨ j = 2 ∨ j = 3 ∨ j = 4 by omega) with rfl | rfl | rfl | rfl | rfl <;>
    · wp_walk using tSeq, tIfS
      exact ⟨.inl ⟨by decide, by decide⟩, by decide, by decide, by rfl, by omega, _, rfl⟩
  · obtain ⟨rfl, rfl, j5, y, rfl⟩ := h
    have so := strF_ok c 1 (3 + i).toNat
    rw [show (3 + i).toNat = 3 + i.toNat by omega] at so ⊢
    refine ⟨p, rfl, _, .inl ⟨.of upd_same, fun l hl => ?_⟩⟩
    generalize strF c 1 (3 + i.toNat) = st at *
    have s1 := (same_new hp (HO.lst (st.map V.int))).trans (same_new hl (HO.tup (st.map V.int)))
    have i2' : (0 : Nat) + i.toNat ≤ 2 := by omega
    split
    · exact ⟨small (by decide), fun p1 hp1 => q _ _ (.num (c % 18446744073709551616 - 9223372036854775808)) (s1.trans (same_new hp1 _)) upd_same ⟨by show inB _; unfold inB; omega, i2'⟩ rfl⟩
    · split
      · exact ⟨small (by decide), fun p1 hp1 => q _ _ (.index (15 + c % 4) st) (s1.trans (same_new hp1 _)) ⟨l, upd_same, same_new hp1 _ _ _ upd_same⟩ ⟨⟨by omega, by omega, so⟩, i2'⟩ rfl⟩
      · exact ⟨small (by decide), fun p1 hp1 => q _ _ (.read (c / 3 % 3).toNat (15 + c % 4) st) (s1.trans (same_new hp1 _)) ⟨l, by rw [upd_same, show (((c / 3 % 3).toNat : Nat) : Int) = c / 3 % 3 by omega], same_new hp1 _ _ _ upd_same⟩ ⟨⟨by omega, by omega, by omega, so⟩, i2'⟩ rfl⟩
end
abbrev slawfoldword : Stmt := top 31
def splawfoldword : Sp := fun vs H Q _ => ∃ (c : Int), vs = [.int c] ∧ ∀ H' w, Same H H' → w ∈ fw → Q (.str w) H'
section
variable {P : Program} {w : World} {K : PySem.W.Frag} {mg : Str → Option Value} {base : Heap} {f : Addr} {fd : FuncData} {TC TL : Addr}
theorem sclawfoldword : FnScope ["_law_cell"] ["_law_cell"] (defScope slawfoldword) := ⟨rfl, rfl, rfl, by decide +kernel, rfl, by decide +kernel, by decide +kernel⟩
theorem oklawfoldword (F : Fun K "_law_fold_word" "_law_fold_word" slawfoldword f fd) : FnOk P w K mg base CX0 (1) f fd ["_law_cell"] (splawfoldword) := by
  have sc := sclawfoldword
  refine F.ok sc (fun vs H Q E h => ?_) (fun cdv A outer s H vs Q E hr h => ?_)
  · obtain ⟨c, rfl, _⟩ := h; rfl
  obtain ⟨c, rfl, q⟩ := h
  refine ⟨_, (pss_one (ps_ret (pe_ix ix_list (pe_lst (pa_cons pe_str (pa_cons pe_str (pa_cons pe_str (pa_cons pe_str (pa_cons pe_str (pa_cons pe_str (pa_cons pe_str pa_nil)))))))) (pe_op op_mod (pv 0) pe_int) (fun _ _ => rfl)))), ?_⟩
  wp_walk using tSeq, tIfS
  refine ⟨small (by decide), fun p hp => ⟨_, .of upd_same, _, str_at (ws := ["add", "mul", "max", "min", "and", "or", "xor"]) (m := c % 7) (by omega) (by show _ < ((7 : Nat) : Int); omega), q _ _ (same_new hp _) ?_⟩⟩
  exact word_in (by omega) (by show _ < ((7 : Nat) : Int); omega) (fun w h => by simpa [fw, or_assoc, or_comm, or_left_comm] using h)
end
abbrev slawpairword : Stmt := top 32
def splawpairword : Sp := fun vs H Q _ => ∃ (c : Int), vs = [.int c] ∧ ∀ H' w, Same H H' → w ∈ tw → Q (.str w) H'
section
variable {P : Program} {w : World} {K : PySem.W.Frag} {mg : Str → Option Value} {base : Heap} {f : Addr} {fd : FuncData} {TC TL : Addr}
theorem sclawpairword : FnScope ["_law_cell", "_law_more"] ["_law_cell"] (defScope slawpairword) := ⟨rfl, rfl, rfl, by decide +kernel, rfl, by decide +kernel, by decide +kernel⟩
theorem oklawpairword (F : Fun K "_law_pair_word" "_law_pair_word" slawpairword f fd) (clawfoldword : Callee P w K mg base CX0 (1) "_law_fold_word" ["_law_cell"] splawfoldword) : FnOk P w K mg base CX0 (2) f fd ["_law_cell"] (splawpairword) := by
  have sc := sclawpairword
  refine F.ok sc (fun vs H Q E h => ?_) (fun cdv A outer s H vs Q E hr h => ?_)
  · obtain ⟨c, rfl, _⟩ := h; rfl
  obtain ⟨c, rfl, q⟩ := h
  refine ⟨_, (pss_cons (ps_set (i := 1) sc.nd rfl (by first | exact Or.inl rfl | exact Or.inr rfl) (pe_lst (pa_cons pe_str (pa_cons pe_str (pa_cons pe_str (pa_cons pe_str (pa_cons pe_str pa_nil))))))) (pss_cons (ps_if (pt_cmpR op_lt (pe_op op_mod (pv 0) pe_int) pe_int (nomark _)) (pss_one (ps_ret (pe_ix ix_list (pv 1) (pe_op op_mod (pv 0) pe_int) (fun _ _ => rfl)))) pss_nil) (pss_one (ps_ret (pe_cal clawfoldword hr (by rfl) pass0 (pa_cons (pe_op op_sub (pe_op op_mod (pv 0) pe_int) pe_int) pa_nil)))))), ?_⟩
  wp_walk using tSeq, tIfS, splawfoldword
  refine ⟨small (by decide), fun p hp => ?_⟩
  split
  · refine ⟨_, .of upd_same, _, str_at (ws := ["sub", "quo", "rest", "less", "like"]) (m := c % 12) (by omega) (by show _ < ((5 : Nat) : Int); omega), q _ _ (same_new hp _) ?_⟩
    refine word_in (by omega) (by show _ < ((5 : Nat) : Int); omega) (fun w h => ?_)
    simp only [List.mem_cons, List.not_mem_nil, or_false] at h
    rcases h with rfl | rfl | rfl | rfl | rfl <;> decide +kernel
  · exact fun H1 w s1 hw => q _ _ ((same_new hp _).trans s1) (fw_tw (by simpa [fw] using hw))
end
abbrev slawupon : Stmt := top 33
def splawupon : Sp := fun vs H Q _ => ∃ (c w i : Int) (a : Addr) (t : Te), vs = [.int c, .int w, .ref a, .int i] ∧ TeAt H t a ∧ OkE (t, i) ∧ 0 ≤ i ∧ i ≤ 2 ∧ ∀ H' p f, Same H H' → PeAt H' f p → GeF (sizeE t + 1) f → Q (.ref p) H'
section
variable {P : Program} {w : World} {K : PySem.W.Frag} {mg : Str → Option Value} {base : Heap} {f : Addr} {fd : FuncData} {TC TL : Addr}
theorem sclawupon : FnScope ["_law_cell", "_law_way", "_law_tree", "_law_inner", "_law_strides"] ["_law_cell", "_law_way", "_law_tree", "_law_inner"] (defScope slawupon) := ⟨rfl, rfl, rfl, by decide +kernel, rfl, by decide +kernel, by decide +kernel⟩
theorem oklawupon (F : Fun K "_law_upon" "_law_upon" slawupon f fd) (clawfoldword : Callee P w K mg base CX0 (1) "_law_fold_word" ["_law_cell"] splawfoldword) (ztuple : mg "tuple" = none) (zrange : mg "range" = none) : FnOk P w K mg base CX0 (2) f fd ["_law_cell", "_law_way", "_law_tree", "_law_inner"] (splawupon) := by
  have sc := sclawupon
  refine F.ok sc (fun vs H Q E h => ?_) (fun cdv A outer s H vs Q E hr h => ?_)
  · obtain ⟨c, w, i, a, t, rfl, _⟩ := h; rfl
  obtain ⟨c, w, i, a, t, rfl, ht, so, i0, i2, q⟩ := h
  refine ⟨_, (pss_cons (ps_if (pt_cmpR op_eq (pv 1) pe_int (nomark _)) (pss_cons (ps_set (i := 4) sc.nd rfl (by first | exact Or.inl rfl | exact Or.inr rfl) (pe_callTy call_tuple_of (by rfl) ztuple boot_tuple (pa_cons (pe_comp (own := ["_law_k"]) (fv := ["_law_cell"]) (js := [0]) rfl (pi_range1 (by rfl) zrange (pa_cons (pe_op op_add pe_int (pv 3)) pa_nil)) rfl (by decide) rfl (by decide) (by first | exact fun _ _ h => h | exact cl_sub1 rfl | exact cl_sub2 rfl rfl | exact cl_sub3 rfl rfl rfl) (has_of (by rfl)) rfl (cap1 (by first | exact ⟨rfl, .inl rfl, .inl rfl⟩ | exact ⟨rfl, .inl rfl, .inr rfl⟩)) (fun _ _ _ _ => (pg_name (i := 0) (show (["_law_k", "_law_cell"] : List Str).Nodup by decide +kernel) rfl (Or.inl rfl))) (fun _ _ _ _ => (pe_op op_sub (pe_op op_mod (pe_op op_fdiv (pv 1) (pe_op op_add pe_int (pe_op op_mul (pe_op op_mul pe_int (pv 0)) (pv 0)))) pe_int) pe_int))) pa_nil))) (pss_one (ps_ret (pe_tup (pa_tup (pe_tup (pa_cons pe_str (pa_cons (pe_op op_mod (pv 0) pe_int) (pa_cons (pe_op op_add pe_int (pe_op op_mod (pe_op op_fdiv (pv 0) pe_int) pe_int)) (pa_cons (pe_op op_sub (pe_op op_mod (pe_op op_fdiv (pv 0) pe_int) pe_int) pe_int) (pa_cons (pe_op op_add pe_int (pe_op op_mod (pe_op op_fdiv (pv 0) pe_int) pe_int)) (pa_cons (pv 4) (pa_cons (pv 2) pa_nil)))))))) (pa_cons (pv 3) pa_nil)))))) pss_nil) (pss_cons (ps_if (PW.pt (pw_and (pt_cmpR op_eq (pv 1) pe_int (nomark _)) (pw_and1 (pt_cmpR op_gt (pv 3) pe_int (nomark _))))) (pss_one (ps_ret (pe_tup (pa_tup (pe_tup (pa_cons pe_str (pa_cons (pe_cal clawfoldword hr (by rfl) pass0 (pa_cons (pv 0) pa_nil)) (pa_cons (pe_op op_mod (pe_op op_fdiv (pv 0) pe_int) pe_int) (pa_cons (pv 2) pa_nil))))) (pa_cons (pe_op op_sub (pv 3) pe_int) pa_nil))))) pss_nil) (pss_one (ps_ret (pe_tup (pa_tup (pe_tup (pa_cons pe_str (pa_cons (pe_ix ix_list (pe_lst (pa_cons pe_str (pa_cons pe_str (pa_cons pe_str (pa_cons pe_str pa_nil))))) (pe_op op_mod (pv 0) pe_int) (fun _ _ => rfl)) (pa_cons (pv 2) pa_nil)))) (pa_cons (pv 3) pa_nil))))))), ?_⟩
  wp_walk using tSeq, tIfS, splawfoldword
  split
  · refine ⟨by omega, by omega, ?_⟩
    refine CompR.mk (fun j ys σ G => G = H ∧ ys = (strF c 2 j).map V.int ∧ j ≤ 5 ∧ ∃ y, σ = [y, some (.int c)]) ⟨rfl, rfl, by omega, _, rfl⟩ (fun j ys σ G hj h => ?_) (fun ys σ G h p hp => ?_)
    · obtain ⟨rfl, rfl, j5, y, rfl⟩ := h
      refine ⟨by rw [List.length_map, (strF_ok _ _ _).1]; exact small1000 (by omega), ?_⟩
      rw [strF_succ, List.map_append]
      have j3 : j ≤ 4 := by omega
      rcases (show j = 0 ∨ j = 1 ∨ j = 2 ∨ j = 3 ∨ j = 4 by omega) with rfl | rfl | rfl | rfl | rfl <;>
      · wp_walk using tSeq, tIfS
        exact ⟨.inl ⟨by decide, by decide⟩, by decide, by decide, by rfl, by omega, _, rfl⟩
    · obtain ⟨rfl, rfl, j5, y, rfl⟩ := h
      have sk := strF_ok c 2 (3 + i).toNat
      rw [show (3 + i).toNat = 3 + i.toNat by omega] at sk ⊢
      refine ⟨p, rfl, _, .inl ⟨.of upd_same, fun l hl => ⟨small (by decide), fun p1 hp1 => ⟨small (by decide), fun p2 hp2 => ?_⟩⟩⟩⟩
      generalize strF c 2 (3 + i.toNat) = st at *
      have s1 := (same_new hp (HO.lst (st.map V.int))).trans (same_new hl (HO.tup (st.map V.int)))
      have s12 := (same_new hp1 (HO.tup [V.str (Str.ofString "fetch"), V.int (c % 3), V.int (15 + c / 3 % 4), V.int (c / 7 % 3 - 1), V.int (1 + c / 11 % 4), V.ref l, V.ref a])).trans (same_new hp2 (HO.tup [V.ref p1, V.int i]))
      refine q _ _ (.fetch (c % 3).toNat (15 + c / 3 % 4) (c / 7 % 3 - 1) (1 + c / 11 % 4) st t, i) (s1.trans s12) ⟨p1, upd_same, l, a, ?_, s12 _ _ upd_same, ht.same (s1.trans s12)⟩ ⟨Nat.le_refl _, ⟨⟨by omega, by omega, by omega, by omega, by omega, by omega, by omega, sk, so.1⟩, so.2⟩, i0, i2⟩
      rw [show (((c % 3).toNat : Nat) : Int) = c % 3 by omega]
      exact same_new hp2 _ _ _ upd_same
  · split
    · split
      · rename_i iz
        refine fun H1 w1 s1 hw => ⟨small (by decide), fun p hp => ⟨small (by decide), fun p1 hp1 => q _ _ (.fold w1 (c / 7 % 4).toNat t, i - 1) (s1.trans ((same_new hp _).trans (same_new hp1 _))) ⟨p, upd_same, a, ?_, ht.same (s1.trans ((same_new hp _).trans (same_new hp1 _))), by omega⟩ ⟨Nat.le_refl _, okFold (by simpa [fw] using hw) (by omega) iz so, by show 0 ≤ i - 1; omega, by show i - 1 ≤ 2; omega⟩⟩⟩
        rw [show (((c / 7 % 4).toNat : Nat) : Int) = c / 7 % 4 by omega]
        exact same_new hp1 _ _ _ upd_same
      · exact ⟨small (by decide), fun p hp => ⟨_, .of upd_same, _, str_at (ws := ["neg", "abs", "sign", "not"]) (m := c % 4) (by omega) (by show _ < ((4 : Nat) : Int); omega), small (by decide), fun p1 hp1 => ⟨small (by decide), fun p2 hp2 => q _ _ (.each _ t, i) (((same_new hp _).trans (same_new hp1 _)).trans (same_new hp2 _)) ⟨p1, upd_same, a, same_new hp2 _ _ _ upd_same, ht.same (((same_new hp _).trans (same_new hp1 _)).trans (same_new hp2 _))⟩ ⟨Nat.le_refl _, ⟨⟨word_in (by omega) (by show _ < ((4 : Nat) : Int); omega) (fun w h => h), so.1⟩, so.2⟩, i0, i2⟩⟩⟩⟩
    · exact ⟨small (by decide), fun p hp => ⟨_, .of upd_same, _, str_at (ws := ["neg", "abs", "sign", "not"]) (m := c % 4) (by omega) (by show _ < ((4 : Nat) : Int); omega), small (by decide), fun p1 hp1 => ⟨small (by decide), fun p2 hp2 => q _ _ (.each _ t, i) (((same_new hp _).trans (same_new hp1 _)).trans (same_new hp2 _)) ⟨p1, upd_same, a, same_new hp2 _ _ _ upd_same, ht.same (((same_new hp _).trans (same_new hp1 _)).trans (same_new hp2 _))⟩ ⟨Nat.le_refl _, ⟨⟨word_in (by omega) (by show _ < ((4 : Nat) : Int); omega) (fun w h => h), so.1⟩, so.2⟩, i0, i2⟩⟩⟩⟩
end
abbrev slawdeed : Stmt := top 34
def splawdeed : Sp := fun vs H Q _ => ∃ (l : Addr) (c : Int) (n : Nat) (fs : List (Te × Int)) (ps : List Addr), vs = [.ref l, .int c] ∧ H l = some (.lst (ps.map V.ref)) ∧ FeAt H fs ps ∧ 1 ≤ fs.length ∧ fs.length ≤ 100 ∧ (∀ f ∈ fs, GeF n f) ∧ totE fs ≤ n ∧ ∀ H' fs' ps', SameB l H H' → H' l = some (.lst (ps'.map V.ref)) → FeAt H' fs' ps' → 1 ≤ fs'.length → fs'.length ≤ fs.length + 1 → (∀ f ∈ fs', GeF (n + 1) f) → totE fs' ≤ n + 1 → Q .non H'
section
variable {P : Program} {w : World} {K : PySem.W.Frag} {mg : Str → Option Value} {base : Heap} {f : Addr} {fd : FuncData} {TC TL : Addr}
theorem sclawdeed : FnScope ["_law_trees_here", "_law_cell", "_law_way", "_law_alike", "_law_right", "_law_left", "_law_last", "_law_mid", "_law_top"] ["_law_trees_here", "_law_cell"] (defScope slawdeed) := ⟨rfl, rfl, rfl, by decide +kernel, rfl, by decide +kernel, by decide +kernel⟩
theorem oklawdeed (F : Fun K "_law_deed" "_law_deed" slawdeed f fd) (clawpairword : Callee P w K mg base CX0 (2) "_law_pair_word" ["_law_cell"] splawpairword) (clawupon : Callee P w K mg base CX0 (2) "_law_upon" ["_law_cell", "_law_way", "_law_tree", "_law_inner"] splawupon) (clawleaf : Callee P w K mg base CX0 (2) "_law_leaf" ["_law_cell", "_law_way", "_law_inner"] splawleaf) (zmin : mg "min" = none) (zlen : mg "len" = none) : FnOk P w K mg base CX0 (3) f fd ["_law_trees_here", "_law_cell"] (splawdeed) := by
  have sc := sclawdeed
  refine F.ok sc (fun vs H Q E h => ?_) (fun cdv A outer s H vs Q E hr h => ?_)
  · obtain ⟨l, c, n, fs, ps, rfl, _⟩ := h; rfl
  obtain ⟨l, c, n, fs, ps, rfl, hl, ft, f1, f100, gd, tot, q⟩ := h
  refine ⟨_, (pss_cons (ps_set (i := 2) sc.nd rfl (by first | exact Or.inl rfl | exact Or.inr rfl) (pe_op op_mod (pv 1) pe_int)) (pss_cons (ps_set (i := 1) sc.nd rfl (by first | exact Or.inl rfl | exact Or.inr rfl) (pe_op op_fdiv (pv 1) pe_int)) (pss_cons (ps_set (i := 3) sc.nd rfl (by first | exact Or.inl rfl | exact Or.inr rfl) pe_int) (pss_cons (ps_while PassesOwn.never (PW.pt (pw_and (pt_cmpR op_lt (pv 3) (pe_callB (call_min2 rfl) (by rfl) zmin boot_min (pa_cons pe_int (pa_cons (pe_callB call_len_seq (by rfl) zlen PySem.boot_len (pa_cons (pv 0) pa_nil)) pa_nil))) (nomark _)) (pw_and1 (pt_cmpR op_eq (pe_ix ix_tupH (pe_ix ix_listH (pv 0) (pe_op op_sub (pe_un un_neg pe_int) (pv 3)) (fun _ _ => rfl)) pe_int (fun _ _ => rfl)) (pe_ix ix_tupH (pe_ix ix_listH (pv 0) (pe_un un_neg pe_int) (fun _ _ => rfl)) pe_int (fun _ _ => rfl)) (nomark _))))) (pss_one (ps_set (i := 3) sc.nd rfl (by first | exact Or.inl rfl | exact Or.inr rfl) (pe_op op_add (pv 3) pe_int)))) (pss_one (ps_if (PW.pt (pw_and (pt_cmpR op_eq (pv 2) pe_int (nomark _)) (pw_and1 (pt_cmpR op_gt (pv 3) pe_int (nomark _))))) (pss_cons (ps_set (i := 4) sc.nd rfl (by first | exact Or.inl rfl | exact Or.inr rfl) (pe_pop (pv 0))) (pss_cons (ps_set (i := 5) sc.nd rfl (by first | exact Or.inl rfl | exact Or.inr rfl) (pe_pop (pv 0))) (pss_one (ps_expr (pe_app (pv 0) (pe_tup (pa_tup (pe_tup (pa_cons pe_str (pa_cons (pe_cal clawpairword hr (by rfl) pass0 (pa_cons (pv 1) pa_nil)) (pa_cons (pe_ix ix_tupH (pv 5) pe_int (fun _ _ => rfl)) (pa_cons (pe_ix ix_tupH (pv 4) pe_int (fun _ _ => rfl)) pa_nil))))) (pa_cons (pe_ix ix_tupH (pv 5) pe_int (fun _ _ => rfl)) pa_nil)))))))) (pss_one (ps_if (PW.pt (pw_and (pt_cmpR op_eq (pv 2) pe_int (nomark _)) (pw_and1 (pt_cmpR op_gt (pv 3) pe_int (nomark _))))) (pss_cons (ps_set (i := 6) sc.nd rfl (by first | exact Or.inl rfl | exact Or.inr rfl) (pe_pop (pv 0))) (pss_cons (ps_set (i := 7) sc.nd rfl (by first | exact Or.inl rfl | exact Or.inr rfl) (pe_pop (pv 0))) (pss_cons (ps_set (i := 5) sc.nd rfl (by first | exact Or.inl rfl | exact Or.inr rfl) (pe_pop (pv 0))) (pss_one (ps_expr (pe_app (pv 0) (pe_tup (pa_tup (pe_tup (pa_cons pe_str (pa_cons (pe_ix ix_tupH (pv 5) pe_int (fun _ _ => rfl)) (pa_cons (pe_ix ix_tupH (pv 7) pe_int (fun _ _ => rfl)) (pa_cons (pe_ix ix_tupH (pv 6) pe_int (fun _ _ => rfl)) pa_nil))))) (pa_cons (pe_ix ix_tupH (pv 5) pe_int (fun _ _ => rfl)) pa_nil))))))))) (pss_one (ps_if (pt_cmpR op_gt (pv 2) pe_int (nomark _)) (pss_cons (ps_set (i := 8) sc.nd rfl (by first | exact Or.inl rfl | exact Or.inr rfl) (pe_pop (pv 0))) (pss_one (ps_expr (pe_app (pv 0) (pe_cal clawupon hr (by rfl) pass0 (pa_cons (pv 1) (pa_cons (pe_callB (call_min2 rfl) (by rfl) zmin boot_min (pa_cons (pv 2) (pa_cons pe_int pa_nil))) (pa_cons (pe_ix ix_tupH (pv 8) pe_int (fun _ _ => rfl)) (pa_cons (pe_ix ix_tupH (pv 8) pe_int (fun _ _ => rfl)) pa_nil))))))))) (pss_one (ps_expr (pe_app (pv 0) (pe_tup (pa_cons (pe_cal clawleaf hr (by rfl) pass0 (pa_cons (pe_op op_fdiv (pv 1) pe_int) (pa_cons (pv 2) (pa_cons (pe_op op_mod (pv 1) pe_int) pa_nil)))) (pa_cons (pe_op op_mod (pv 1) pe_int) pa_nil)))))))))))))))), ?_⟩
  simp only [L2.start, List.length_cons, List.length_nil, List.replicate, List.cons_append, List.nil_append, Nat.reduceSub, Nat.reduceAdd, List.map_cons, List.map_nil]
  refine seq_with (fun σ G => ∃ w : Int, G = H ∧ σ = [some (.ref l), some (.int c), some (.int w), none, none, none, none, none, none]) ?_ (fun R hR => ?_)
  rotate_left
  · wp_walk using tSeq, tIfS
    exact hR _ _ ⟨_, rfl, rfl⟩
  rintro σ1 G ⟨w, rfl, rfl⟩
  refine seq_with (fun σ G' => ∃ c : Int, G' = G ∧ σ = [some (.ref l), some (.int c), some (.int w), none, none, none, none, none, none]) ?_ (fun R hR => ?_)
  rotate_left
  · wp_walk using tSeq, tIfS
    exact hR _ _ ⟨_, rfl, rfl⟩
  clear c
  rintro σ2 G' ⟨c, rfl, rfl⟩
  refine seq_with (fun σ G => G = G' ∧ σ = [some (.ref l), some (.int c), some (.int w), some (.int 1), none, none, none, none, none]) ?_ (fun R hR => ?_)
  rotate_left
  · wp_walk using tSeq, tIfS
    exact hR _ _ ⟨rfl, rfl⟩
  rintro σ3 G ⟨rfl, rfl⟩
  have fl := ft.1
  refine seq_with (fun σ G' => ∃ al : Nat, G' = G ∧ σ = [some (.ref l), some (.int c), some (.int w), some (.int (al : Int)), none, none, none, none, none] ∧ 1 ≤ al ∧ al ≤ 3 ∧ al ≤ fs.length ∧ Alk fs al) ?_ (fun R hR => ?_)
  rotate_left
  · refine ⟨fun m σ G' => ∃ al : Nat, G' = G ∧ σ = [some (.ref l), some (.int c), some (.int w), some (.int (al : Int)), none, none, none, none, none] ∧ 1 ≤ al ∧ al ≤ 3 ∧ al ≤ fs.length ∧ Alk fs al ∧ m = 3 - al, ⟨_, 1, rfl, rfl, by omega, by omega, f1, alk_one, rfl⟩, ?_⟩
    rintro m σ G' ⟨al, rfl, rfl, a1, a3, afl, ak, rfl⟩
    have inn : ∀ k : Nat, k < fs.length → ∃ p v, atI (ps.map V.ref) (-1 - (k : Int)) = some (.ref p) ∧ (∃ f, fs[fs.length - 1 - k]? = some f ∧ f.2 = v) ∧ ∃ q, G' p = some (.tup [.ref q, .int v]) := fun k hk => by
      have ef := List.getElem?_eq_getElem (l := fs) (i := fs.length - 1 - k) (by omega)
      obtain ⟨p, ep, q, hq, _⟩ := ft.2 (fs.length - 1 - k) _ ef
      refine ⟨p, _, at_neg (by rw [List.length_map, fl]; exact hk) (by rw [List.getElem?_map, List.length_map, fl, ep]; rfl), ⟨_, ef, rfl⟩, q, hq⟩
    wp_walk using tSeq, tIfS
    refine ⟨_, .inl (.of hl), ?_⟩
    rw [List.length_map, fl]
    by_cases c1 : (al : Int) < if (fs.length : Int) < 3 then (fs.length : Int) else 3
    · rw [if_pos c1]
      have al3 : al < 3 ∧ al < fs.length := by split at c1 <;> omega
      obtain ⟨p, v, e1, ⟨fa, efa, va⟩, q1, e2⟩ := inn al al3.2
      obtain ⟨p', v', e3, ⟨fb, efb, vb⟩, q3, e4⟩ := inn 0 (by omega)
      refine ⟨_, hl, _, e1, p, rfl, _, e2, _, atI_nat (j := 1) rfl, _, hl, _, e3, p', rfl, _, e4, _, atI_nat (j := 1) rfl, rfl, ?_⟩
      split
      · rename_i ce
        exact ⟨fun σ' H' => ∃ m', m' < 3 - al ∧ H' = G' ∧ ∃ x : Nat, σ' = [some (.ref l), some (.int c), some (.int w), some (.int (x : Int)), none, none, none, none, none] ∧ 1 ≤ x ∧ x ≤ 3 ∧ x ≤ fs.length ∧ Alk fs x ∧ m' = 3 - x, fun σ' H' h => h, 3 - (al + 1), by omega, rfl, al + 1, rfl, by omega, by omega, by omega, alk_succ ak efa efb (by rw [va, vb]; exact V.int.inj ce), rfl⟩
      · exact hR _ _ ⟨al, rfl, rfl, a1, a3, afl, ak⟩
    · rw [if_neg c1]
      exact hR _ _ ⟨al, rfl, rfl, a1, a3, afl, ak⟩
  rintro σ4 G' ⟨al, rfl, rfl, a1, a3, afl, ak⟩
  wp_walk using tSeq, tIfS, splawpairword, splawupon, splawleaf
  have pops : ∀ {G : Hp} {fs : List (Te × Int)} {ps : List Addr}, FeAt G fs ps → 1 ≤ fs.length → ∃ gs f qs p q, fs = gs ++ [f] ∧ (ps.map V.ref)[(ps.map V.ref).length - 1]? = some (V.ref p) ∧ (ps.map V.ref).dropLast = qs.map V.ref ∧ FeAt G gs qs ∧ G p = some (.tup [.ref q, .int f.2]) ∧ TeAt G f.1 q := fun ft n => by
    obtain ⟨gs, f, qs, p, rfl, rfl, h1, q, h2, h3⟩ := ft.pop n
    refine ⟨gs, f, qs, p, q, rfl, ?_, ?_, h1, h2, h3⟩
    · rw [List.map_append]; exact last_at
    · rw [List.map_append]; exact List.dropLast_concat
  have sl : ∀ {G : Hp} {xs : List V} {o : HO}, G l = some (.lst xs) → SameT G (upd G l o) := fun e => SameT.no (fun xs z => by rw [e] at z; cases z)
  have sb : ∀ {G : Hp} (o : HO), SameB l G (upd G l o) := fun o a u n e => by rw [upd_ne n]; exact e
  have leafB : (∃ xs, G' l = some (HO.lst xs)) ∧ 0 ≤ c % 3 ∧ c % 3 ≤ 2 ∧ ∀ (H' : Hp) (p : Addr) (t : Te), Same G' H' → TeAt H' t p → OkE (t, c % 3) → sizeE t = 1 → 2 ≤ sizeLine ∧ ∀ (p_1 : Addr), H' p_1 = none → ∃ xs, upd H' p_1 (HO.tup [V.ref p, V.int (c % 3)]) l = some (HO.lst xs) ∧ xs.length < sizeLine ∧ Q V.non (upd (upd H' p_1 (HO.tup [V.ref p, V.int (c % 3)])) l (HO.lst (xs ++ [V.ref p_1]))) := by
    refine ⟨⟨_, hl⟩, by omega, by omega, fun H1 p o s1 tl so z1 => ⟨small (by decide), fun p1 hp1 => ?_⟩⟩
    have t1 := same_new hp1 (HO.tup [V.ref p, V.int (c % 3)])
    have hl1 := t1 _ _ (s1 _ _ hl)
    refine ⟨_, hl1, by rw [List.length_map, fl]; exact small1000 (by omega), ?_⟩
    have sT := sl (o := HO.lst (ps.map V.ref ++ [V.ref p1])) hl1
    refine q _ (fs ++ [(o, c % 3)]) (ps ++ [p1]) (fun b u n e => sb _ b u n (t1 _ _ (s1 _ _ e))) (by rw [upd_same, List.map_append]; rfl) (((ft.sameT (.of (s1.trans t1))).snoc ⟨p, upd_same, tl.same t1⟩).sameT sT) (by simp) (by simp) (fun f hf => ?_) (by rw [totE_snoc]; show totE fs + sizeE o ≤ n + 1; omega)
    rcases List.mem_append.mp hf with hf | hf
    · exact (gd f hf).mono (by omega)
    · cases List.mem_singleton.mp hf; exact ⟨by show sizeE o ≤ n + 1; omega, so, by show 0 ≤ c % 3; omega, by show c % 3 ≤ 2; omega⟩
  by_cases w6 : w = 6
  · rw [if_pos w6]
    by_cases b1 : (1 : Int) < (al : Int)
    · rw [if_pos b1]
      obtain ⟨gs, f, qs, p, qa, rfl, e1, e2, fg, hp, tp⟩ := pops ft f1
      have g1 : 1 ≤ gs.length := by rw [List.length_append, List.length_singleton] at afl; omega
      obtain ⟨hs, f', qs', p', qb, rfl, e1', e2', fh, hp', tp'⟩ := pops fg g1
      refine ⟨_, hl, _, e1, ?_⟩
      rw [e2]
      refine ⟨_, e1', ⟨_, rfl⟩, ?_⟩
      rw [e2']
      have sT : SameT G' (upd (upd G' l (HO.lst (qs.map V.ref))) l (HO.lst (qs'.map V.ref))) := (sl hl).trans (sl upd_same)
      have hlx : upd (upd G' l (HO.lst (qs.map V.ref))) l (HO.lst (qs'.map V.ref)) l = some (HO.lst (qs'.map V.ref)) := upd_same
      have sB : SameB l G' (upd (upd G' l (HO.lst (qs.map V.ref))) l (HO.lst (qs'.map V.ref))) := fun b u n e => sb _ b u n (sb _ b u n e)
      generalize upd (upd G' l (HO.lst (qs.map V.ref))) l (HO.lst (qs'.map V.ref)) = G2 at *
      intro H1 w1 s1 hw1
      have sT1 := sT.trans (.of s1)
      have a1 := sT1 _ _ hp
      have a2 := sT1 _ _ hp'
      refine ⟨p', rfl, _, a2, _, atI_nat (j := 0) rfl, p, rfl, _, a1, _, atI_nat (j := 0) rfl, small (by decide), fun p3 hp3 => ?_⟩
      have t3 := same_new hp3 (HO.tup [V.str (Str.ofString "pair"), V.str w1, V.ref qb, V.ref qa])
      refine ⟨p', rfl, _, t3 _ _ a2, _, atI_nat (j := 1) rfl, small (by decide), fun p4 hp4 => ?_⟩
      have t4 := same_new hp4 (HO.tup [V.ref p3, V.int f'.2])
      have t14 := s1.trans (t3.trans t4)
      have hl4 := t14 _ _ hlx
      have gl := fh.1
      have sT4 := sT.trans (.of t14)
      refine ⟨_, hl4, by rw [List.length_map, gl]; simp only [List.length_append, List.length_singleton] at f100; exact small1000 (by omega), ?_⟩
      have gf := gd f (by simp)
      have gf' := gd f' (by simp)
      rw [totE_snoc, totE_snoc] at tot
      refine q _ (hs ++ [(.pair w1 f'.1 f.1, f'.2)]) (qs' ++ [p4]) (fun b u n e => sb _ b u n (t14 _ _ (sB b u n e))) (by rw [upd_same, List.map_append]; rfl) (((fh.sameT sT4).snoc (f := (.pair w1 f'.1 f.1, f'.2)) ⟨p3, upd_same, qb, qa, t4 _ _ upd_same, tp'.sameT sT4, tp.sameT sT4⟩).sameT (sl hl4)) (by simp) (by simp only [List.length_append, List.length_singleton]; omega) (fun g hg => ?_) (by rw [totE_snoc]; show totE hs + (sizeE f'.1 + sizeE f.1 + 1) ≤ n + 1; omega)
      rcases List.mem_append.mp hg with hg | hg
      · exact (gd g (by simp [hg])).mono (by omega)
      · cases List.mem_singleton.mp hg
        exact ⟨by show sizeE f'.1 + sizeE f.1 + 1 ≤ n + 1; omega, okE2 (by simpa [tw] using hw1) (alk2 ak (by omega)) gf'.2.1 gf.2.1, gf'.2.2.1, gf'.2.2.2⟩
    · rw [if_neg b1]
      by_cases w7 : w = 7
      · rw [if_pos w7]
        by_cases b2 : (2 : Int) < (al : Int)
        · rw [if_pos b2]
          obtain ⟨gs, f, qs, p, qa, rfl, e1, e2, fg, hp, tp⟩ := pops ft f1
          have g1 : 1 ≤ gs.length := by rw [List.length_append, List.length_singleton] at afl; omega
          obtain ⟨hs, f', qs', p', qb, rfl, e1', e2', fh, hp', tp'⟩ := pops fg g1
          have g2 : 1 ≤ hs.length := by simp only [List.length_append, List.length_singleton] at afl; omega
          obtain ⟨is, f'', qs'', p'', qc, rfl, e1'', e2'', fi, hp'', tp''⟩ := pops fh g2
          refine ⟨_, hl, _, e1, ?_⟩
          rw [e2]
          refine ⟨_, e1', ?_⟩
          rw [e2']
          refine ⟨_, e1'', ⟨_, rfl⟩, ?_⟩
          rw [e2'']
          have sT : SameT G' (upd (upd (upd G' l (HO.lst (qs.map V.ref))) l (HO.lst (qs'.map V.ref))) l (HO.lst (qs''.map V.ref))) := ((sl hl).trans (sl upd_same)).trans (sl upd_same)
          have hlx : upd (upd (upd G' l (HO.lst (qs.map V.ref))) l (HO.lst (qs'.map V.ref))) l (HO.lst (qs''.map V.ref)) l = some (HO.lst (qs''.map V.ref)) := upd_same
          have sB : SameB l G' (upd (upd (upd G' l (HO.lst (qs.map V.ref))) l (HO.lst (qs'.map V.ref))) l (HO.lst (qs''.map V.ref))) := fun b u n e => sb _ b u n (sb _ b u n (sb _ b u n e))
          generalize upd (upd (upd G' l (HO.lst (qs.map V.ref))) l (HO.lst (qs'.map V.ref))) l (HO.lst (qs''.map V.ref)) = G2 at *
          have a1 := sT _ _ hp
          have a2 := sT _ _ hp'
          have a3 := sT _ _ hp''
          refine ⟨p'', rfl, _, a3, _, atI_nat (j := 0) rfl, p', rfl, _, a2, _, atI_nat (j := 0) rfl, p, rfl, _, a1, _, atI_nat (j := 0) rfl, small (by decide), fun p3 hp3 => ?_⟩
          have t3 := same_new hp3 (HO.tup [V.str (Str.ofString "pick"), V.ref qc, V.ref qb, V.ref qa])
          refine ⟨p'', rfl, _, t3 _ _ a3, _, atI_nat (j := 1) rfl, small (by decide), fun p4 hp4 => ?_⟩
          have t4 := same_new hp4 (HO.tup [V.ref p3, V.int f''.2])
          have t14 := t3.trans t4
          have hl4 := t14 _ _ hlx
          have gl := fi.1
          have sT4 := sT.trans (.of t14)
          refine ⟨_, hl4, by rw [List.length_map, gl]; simp only [List.length_append, List.length_singleton] at f100; exact small1000 (by omega), ?_⟩
          have gf := gd f (by simp)
          have gf' := gd f' (by simp)
          have gf'' := gd f'' (by simp)
          rw [totE_snoc, totE_snoc, totE_snoc] at tot
          refine q _ (is ++ [(.pick f''.1 f'.1 f.1, f''.2)]) (qs'' ++ [p4]) (fun b u n e => sb _ b u n (t14 _ _ (sB b u n e))) (by rw [upd_same, List.map_append]; rfl) (((fi.sameT sT4).snoc (f := (.pick f''.1 f'.1 f.1, f''.2)) ⟨p3, upd_same, qc, qb, qa, t4 _ _ upd_same, tp''.sameT sT4, tp'.sameT sT4, tp.sameT sT4⟩).sameT (sl hl4)) (by simp) (by simp only [List.length_append, List.length_singleton]; omega) (fun g hg => ?_) (by rw [totE_snoc]; show totE is + (sizeE f''.1 + sizeE f'.1 + sizeE f.1 + 1) ≤ n + 1; omega)
          rcases List.mem_append.mp hg with hg | hg
          · exact (gd g (by simp [hg])).mono (by omega)
          · cases List.mem_singleton.mp hg
            exact ⟨by show sizeE f''.1 + sizeE f'.1 + sizeE f.1 + 1 ≤ n + 1; omega, okE3 (alk3 ak (by omega)) gf''.2.1 gf'.2.1 gf.2.1, gf''.2.2.1, gf''.2.2.2⟩
        · rw [if_neg b2]
          by_cases w2 : 2 < w
          · rw [if_pos w2]
            obtain ⟨gs, f, qs, p, qa, rfl, e1, e2, fg, hp, tp⟩ := pops ft f1
            refine ⟨_, hl, _, e1, ⟨_, rfl⟩, ?_⟩
            rw [e2]
            have sT := sl (o := HO.lst (qs.map V.ref)) hl
            have hp1 := sT _ _ hp
            have gf := gd f (by simp)
            rw [totE_snoc] at tot
            refine ⟨p, rfl, _, hp1, _, atI_nat (j := 0) rfl, p, rfl, _, hp1, _, atI_nat (j := 1) rfl, f.2, qa, rfl, rfl, f.1, tp.sameT sT, gf.2.1, gf.2.2.1, gf.2.2.2, fun H1 p1 f' s1 pr g1 => ?_⟩
            have hl1 := s1 _ _ (upd_same (H := G') (a := l) (o := HO.lst (qs.map V.ref)))
            have gl := fg.1
            refine ⟨_, hl1, by rw [List.length_map, gl]; rw [List.length_append, List.length_singleton] at f100; exact small1000 (by omega), ?_⟩
            refine q _ (gs ++ [f']) (qs ++ [p1]) (fun b u n e => sb _ b u n (s1 _ _ (sb _ b u n e))) (by rw [upd_same, List.map_append]; rfl) (((fg.sameT (sT.trans (.of s1))).snoc pr).sameT (sl hl1)) (by simp) (by simp) (fun g hg => ?_) (by rw [totE_snoc]; have := g1.1; omega)
            rcases List.mem_append.mp hg with hg | hg
            · exact (gd g (List.mem_append_left _ hg)).mono (by omega)
            · cases List.mem_singleton.mp hg; exact g1.mono (by have := gf.1; omega)
          · rw [if_neg w2]
            exact leafB
      · rw [if_neg w7]
        by_cases w2 : 2 < w
        · rw [if_pos w2]
          obtain ⟨gs, f, qs, p, qa, rfl, e1, e2, fg, hp, tp⟩ := pops ft f1
          refine ⟨_, hl, _, e1, ⟨_, rfl⟩, ?_⟩
          rw [e2]
          have sT := sl (o := HO.lst (qs.map V.ref)) hl
          have hp1 := sT _ _ hp
          have gf := gd f (by simp)
          rw [totE_snoc] at tot
          refine ⟨p, rfl, _, hp1, _, atI_nat (j := 0) rfl, p, rfl, _, hp1, _, atI_nat (j := 1) rfl, f.2, qa, rfl, rfl, f.1, tp.sameT sT, gf.2.1, gf.2.2.1, gf.2.2.2, fun H1 p1 f' s1 pr g1 => ?_⟩
          have hl1 := s1 _ _ (upd_same (H := G') (a := l) (o := HO.lst (qs.map V.ref)))
          have gl := fg.1
          refine ⟨_, hl1, by rw [List.length_map, gl]; rw [List.length_append, List.length_singleton] at f100; exact small1000 (by omega), ?_⟩
          refine q _ (gs ++ [f']) (qs ++ [p1]) (fun b u n e => sb _ b u n (s1 _ _ (sb _ b u n e))) (by rw [upd_same, List.map_append]; rfl) (((fg.sameT (sT.trans (.of s1))).snoc pr).sameT (sl hl1)) (by simp) (by simp) (fun g hg => ?_) (by rw [totE_snoc]; have := g1.1; omega)
          rcases List.mem_append.mp hg with hg | hg
          · exact (gd g (List.mem_append_left _ hg)).mono (by omega)
          · cases List.mem_singleton.mp hg; exact g1.mono (by have := gf.1; omega)
        · rw [if_neg w2]
          exact leafB
  · rw [if_neg w6]
    by_cases w7 : w = 7
    · rw [if_pos w7]
      by_cases b2 : (2 : Int) < (al : Int)
      · rw [if_pos b2]
        obtain ⟨gs, f, qs, p, qa, rfl, e1, e2, fg, hp, tp⟩ := pops ft f1
        have g1 : 1 ≤ gs.length := by rw [List.length_append, List.length_singleton] at afl; omega
        obtain ⟨hs, f', qs', p', qb, rfl, e1', e2', fh, hp', tp'⟩ := pops fg g1
        have g2 : 1 ≤ hs.length := by simp only [List.length_append, List.length_singleton] at afl; omega
        obtain ⟨is, f'', qs'', p'', qc, rfl, e1'', e2'', fi, hp'', tp''⟩ := pops fh g2
        refine ⟨_, hl, _, e1, ?_⟩
        rw [e2]
        refine ⟨_, e1', ?_⟩
        rw [e2']
        refine ⟨_, e1'', ⟨_, rfl⟩, ?_⟩
        rw [e2'']
        have sT : SameT G' (upd (upd (upd G' l (HO.lst (qs.map V.ref))) l (HO.lst (qs'.map V.ref))) l (HO.lst (qs''.map V.ref))) := ((sl hl).trans (sl upd_same)).trans (sl upd_same)
        have hlx : upd (upd (upd G' l (HO.lst (qs.map V.ref))) l (HO.lst (qs'.map V.ref))) l (HO.lst (qs''.map V.ref)) l = some (HO.lst (qs''.map V.ref)) := upd_same
        have sB : SameB l G' (upd (upd (upd G' l (HO.lst (qs.map V.ref))) l (HO.lst (qs'.map V.ref))) l (HO.lst (qs''.map V.ref))) := fun b u n e => sb _ b u n (sb _ b u n (sb _ b u n e))
        generalize upd (upd (upd G' l (HO.lst (qs.map V.ref))) l (HO.lst (qs'.map V.ref))) l (HO.lst (qs''.map V.ref)) = G2 at *
        have a1 := sT _ _ hp
        have a2 := sT _ _ hp'
        have a3 := sT _ _ hp''
        refine ⟨p'', rfl, _, a3, _, atI_nat (j := 0) rfl, p', rfl, _, a2, _, atI_nat (j := 0) rfl, p, rfl, _, a1, _, atI_nat (j := 0) rfl, small (by decide), fun p3 hp3 => ?_⟩
        have t3 := same_new hp3 (HO.tup [V.str (Str.ofString "pick"), V.ref qc, V.ref qb, V.ref qa])
        refine ⟨p'', rfl, _, t3 _ _ a3, _, atI_nat (j := 1) rfl, small (by decide), fun p4 hp4 => ?_⟩
        have t4 := same_new hp4 (HO.tup [V.ref p3, V.int f''.2])
        have t14 := t3.trans t4
        have hl4 := t14 _ _ hlx
        have gl := fi.1
        have sT4 := sT.trans (.of t14)
        refine ⟨_, hl4, by rw [List.length_map, gl]; simp only [List.length_append, List.length_singleton] at f100; exact small1000 (by omega), ?_⟩
        have gf := gd f (by simp)
        have gf' := gd f' (by simp)
        have gf'' := gd f'' (by simp)
        rw [totE_snoc, totE_snoc, totE_snoc] at tot
        refine q _ (is ++ [(.pick f''.1 f'.1 f.1, f''.2)]) (qs'' ++ [p4]) (fun b u n e => sb _ b u n (t14 _ _ (sB b u n e))) (by rw [upd_same, List.map_append]; rfl) (((fi.sameT sT4).snoc (f := (.pick f''.1 f'.1 f.1, f''.2)) ⟨p3, upd_same, qc, qb, qa, t4 _ _ upd_same, tp''.sameT sT4, tp'.sameT sT4, tp.sameT sT4⟩).sameT (sl hl4)) (by simp) (by simp only [List.length_append, List.length_singleton]; omega) (fun g hg => ?_) (by rw [totE_snoc]; show totE is + (sizeE f''.1 + sizeE f'.1 + sizeE f.1 + 1) ≤ n + 1; omega)
        rcases List.mem_append.mp hg with hg | hg
        · exact (gd g (by simp [hg])).mono (by omega)
        · cases List.mem_singleton.mp hg
          exact ⟨by show sizeE f''.1 + sizeE f'.1 + sizeE f.1 + 1 ≤ n + 1; omega, okE3 (alk3 ak (by omega)) gf''.2.1 gf'.2.1 gf.2.1, gf''.2.2.1, gf''.2.2.2⟩
      · rw [if_neg b2]
        by_cases w2 : 2 < w
        · rw [if_pos w2]
          obtain ⟨gs, f, qs, p, qa, rfl, e1, e2, fg, hp, tp⟩ := pops ft f1
          refine ⟨_, hl, _, e1, ⟨_, rfl⟩, ?_⟩
          rw [e2]
          have sT := sl (o := HO.lst (qs.map V.ref)) hl
          have hp1 := sT _ _ hp
          have gf := gd f (by simp)
          rw [totE_snoc] at tot
          refine ⟨p, rfl, _, hp1, _, atI_nat (j := 0) rfl, p, rfl, _, hp1, _, atI_nat (j := 1) rfl, f.2, qa, rfl, rfl, f.1, tp.sameT sT, gf.2.1, gf.2.2.1, gf.2.2.2, fun H1 p1 f' s1 pr g1 => ?_⟩
          have hl1 := s1 _ _ (upd_same (H := G') (a := l) (o := HO.lst (qs.map V.ref)))
          have gl := fg.1
          refine ⟨_, hl1, by rw [List.length_map, gl]; rw [List.length_append, List.length_singleton] at f100; exact small1000 (by omega), ?_⟩
          refine q _ (gs ++ [f']) (qs ++ [p1]) (fun b u n e => sb _ b u n (s1 _ _ (sb _ b u n e))) (by rw [upd_same, List.map_append]; rfl) (((fg.sameT (sT.trans (.of s1))).snoc pr).sameT (sl hl1)) (by simp) (by simp) (fun g hg => ?_) (by rw [totE_snoc]; have := g1.1; omega)
          rcases List.mem_append.mp hg with hg | hg
          · exact (gd g (List.mem_append_left _ hg)).mono (by omega)
          · cases List.mem_singleton.mp hg; exact g1.mono (by have := gf.1; omega)
        · rw [if_neg w2]
          exact leafB
    · rw [if_neg w7]
      by_cases w2 : 2 < w
      · rw [if_pos w2]
        obtain ⟨gs, f, qs, p, qa, rfl, e1, e2, fg, hp, tp⟩ := pops ft f1
        refine ⟨_, hl, _, e1, ⟨_, rfl⟩, ?_⟩
        rw [e2]
        have sT := sl (o := HO.lst (qs.map V.ref)) hl
        have hp1 := sT _ _ hp
        have gf := gd f (by simp)
        rw [totE_snoc] at tot
        refine ⟨p, rfl, _, hp1, _, atI_nat (j := 0) rfl, p, rfl, _, hp1, _, atI_nat (j := 1) rfl, f.2, qa, rfl, rfl, f.1, tp.sameT sT, gf.2.1, gf.2.2.1, gf.2.2.2, fun H1 p1 f' s1 pr g1 => ?_⟩
        have hl1 := s1 _ _ (upd_same (H := G') (a := l) (o := HO.lst (qs.map V.ref)))
        have gl := fg.1
        refine ⟨_, hl1, by rw [List.length_map, gl]; rw [List.length_append, List.length_singleton] at f100; exact small1000 (by omega), ?_⟩
        refine q _ (gs ++ [f']) (qs ++ [p1]) (fun b u n e => sb _ b u n (s1 _ _ (sb _ b u n e))) (by rw [upd_same, List.map_append]; rfl) (((fg.sameT (sT.trans (.of s1))).snoc pr).sameT (sl hl1)) (by simp) (by simp) (fun g hg => ?_) (by rw [totE_snoc]; have := g1.1; omega)
        rcases List.mem_append.mp hg with hg | hg
        · exact (gd g (List.mem_append_left _ hg)).mono (by omega)
        · cases List.mem_singleton.mp hg; exact g1.mono (by have := gf.1; omega)
      · rw [if_neg w2]
        exact leafB
end
abbrev slawtrees : Stmt := top 35
def splawtrees : PySem.W.Frag → Sp := fun K => fun vs H Q _ => ∃ (a : Addr) (ns : List Int), vs = [.ref a, .int 40] ∧ SqL K H a (ns.map V.int) ∧ ns.length ≤ 63 ∧ ∀ H' l ts ps, Same H H' → H' l = some (.lst (ps.map V.ref)) → TesAt H' ts ps → (∀ t ∈ ts, sizeE t ≤ 63 ∧ OkE (t, 0)) → ts.length ≤ 100 → Q (.ref l) H'
section
variable {P : Program} {w : World} {K : PySem.W.Frag} {mg : Str → Option Value} {base : Heap} {f : Addr} {fd : FuncData} {TC TL : Addr}
theorem sclawtrees : FnScope ["_law_script", "_law_most", "_law_trees_here", "_law_cell", "_law_done", "_law_tree", "_law_inner"] ["_law_script", "_law_most"] (defScope slawtrees) := ⟨rfl, rfl, rfl, by decide +kernel, rfl, by decide +kernel, by decide +kernel⟩
theorem oklawtrees (F : Fun K "_law_trees" "_law_trees" slawtrees f fd) (clawdeed : Callee P w K mg base CX0 (3) "_law_deed" ["_law_trees_here", "_law_cell"] splawdeed) : FnOk P w K mg base CX0 (4) f fd ["_law_script", "_law_most"] (splawtrees K) := by
  have sc := sclawtrees
  refine F.ok sc (fun vs H Q E h => ?_) (fun cdv A outer s H vs Q E hr h => ?_)
  · obtain ⟨a, ns, rfl, _⟩ := h; rfl
  obtain ⟨a, ns, rfl, hS, h63, q⟩ := h
  refine ⟨_, (@pss_cons _ _ _ _ _ (@ps_set _ _ 2 _ _ _ _ sc.nd rfl (by first | exact Or.inl rfl | exact Or.inr rfl) (@pe0trees48 _) (by rfl) (by first | exact Or.inl rfl | exact Or.inr rfl)) (pss_cons (ps_for PassesOwn.never rfl (pi_list (pe_slice sl_list (pv 0) po_none (po_some (pv 1)))) (pg_name (i := 3) sc.nd rfl (Or.inl rfl)) (pss_one (ps_expr (pe_cal clawdeed hr (by rfl) pass0 (pa_cons (pv 2) (pa_cons (pe_op op_mod (pv 3) (pe_op op_pow pe_int pe_int)) pa_nil)))))) (pss_cons (ps_set (i := 4) sc.nd rfl (by first | exact Or.inl rfl | exact Or.inr rfl) (pe_lst pa_nil)) (pss_cons (ps_for PassesOwn.never rfl (pi_list (pv 2)) (pg_tupH (n := 2) (pg_tup rfl (pgs_cons (pg_name (i := 5) sc.nd rfl (Or.inl rfl)) (pgs_cons (pg_name (i := 6) sc.nd rfl (Or.inl rfl)) pgs_nil)))) (pss_cons (ps_while PassesOwn.never (pt_cmpR op_gt (pv 6) pe_int (nomark _)) (pss_cons (ps_set (i := 6) sc.nd rfl (by first | exact Or.inl rfl | exact Or.inr rfl) (pe_op op_sub (pv 6) pe_int)) (pss_one (ps_set (i := 5) sc.nd rfl (by first | exact Or.inl rfl | exact Or.inr rfl) (pe_tup (pa_cons pe_str (pa_cons pe_str (pa_cons pe_int (pa_cons (pv 5) pa_nil))))))))) (pss_one (ps_expr (pe_app (pv 4) (pv 5)))))) (pss_one (ps_ret (pv 4))))))), ?_⟩
  simp only [L2.start, List.length_cons, List.length_nil, List.replicate, List.cons_append, List.nil_append, Nat.reduceSub, Nat.reduceAdd, List.map_cons, List.map_nil]
  refine seq_with (fun σ G => ∃ l0 p0 q0 x0, σ = [some (.ref a), some (.int 40), some (.ref l0), none, none, none, none] ∧ Same H G ∧ H l0 = none ∧ G l0 = some (.lst [.ref p0]) ∧ G p0 = some (.tup [.ref q0, .int 2]) ∧ G q0 = some (.tup [.str "read", .int 1, .int 16, .ref x0]) ∧ G x0 = some (.tup [.int 1, .int (-1), .int 2, .int 1, .int 1])) ?_ (fun R hR => ?_)
  rotate_left
  · wp_walk using tSeq, tIfS
    refine ⟨small (by decide), fun p hp => ⟨small (by decide), fun p1 hp1 => ⟨small (by decide), fun p2 hp2 => ⟨small (by decide), fun p3 hp3 => hR _ _ ⟨p3, p2, p1, p, rfl, ?_, ?_, upd_same, ?_, ?_, ?_⟩⟩⟩⟩⟩
    · exact (((same_new hp _).trans (same_new hp1 _)).trans (same_new hp2 _)).trans (same_new hp3 _)
    · exact (((same_new hp _).trans (same_new hp1 _)).trans (same_new hp2 _)).free hp3
    · exact same_new hp3 _ _ _ upd_same
    · exact same_new hp3 _ _ _ (same_new hp2 _ _ _ upd_same)
    · exact same_new hp3 _ _ _ (same_new hp2 _ _ _ (same_new hp1 _ _ _ upd_same))
  rintro σ1 G ⟨l0, p0, q0, x0, rfl, s1, l00, g1, g2, g3, g4⟩
  refine seq_with (fun σ G2 => ∃ y3 fs ps, σ = [some (.ref a), some (.int 40), some (.ref l0), y3, none, none, none] ∧ Same H G2 ∧ G2 l0 = some (.lst (ps.map V.ref)) ∧ FeAt G2 fs ps ∧ fs.length ≤ 61 ∧ (∀ f ∈ fs, GeF 61 f)) ?_ (fun R hR => ?_)
  rotate_left
  · wp_walk using tSeq, tIfS, rSlL
    refine ⟨_, s1.seq hS, fun e he => ?_⟩
    rw [show cutV (ns.map V.int) none (some 40) = (ns.take 40).map V.int from cut_any ns 40]
    have el : e ≠ l0 := fun z => by rw [z, g1] at he; cases he
    have tl : (ns.take 40).length ≤ 40 := by rw [List.length_take]; omega
    refine LoopL.mk (xs := (ns.take 40).map V.int) (.of upd_same) (fun i σ G2 => ∃ y3 fs ps, σ = [some (.ref a), some (.int 40), some (.ref l0), y3, none, none, none] ∧ Same H G2 ∧ G2 e = some (.lst ((ns.take 40).map V.int)) ∧ G2 l0 = some (.lst (ps.map V.ref)) ∧ FeAt G2 fs ps ∧ 1 ≤ fs.length ∧ fs.length ≤ i + 1 ∧ (∀ f ∈ fs, GeF (i + 1) f) ∧ totE fs ≤ i + 1) ?_ (fun i σ G2 _ h => by obtain ⟨_, _, _, _, _, ge, _⟩ := h; exact .of ge) (fun i x σ G2 ex h => ?_) (fun σ G2 h => ?_)
    · have t1 := same_new he (HO.lst ((ns.take 40).map V.int))
      refine ⟨_, [(.read 1 16 [1, -1, 2, 1, 1], 2)], [p0], rfl, s1.trans t1, upd_same, t1 _ _ g1, ⟨rfl, fun i f e => ?_⟩, by simp, by simp, fun f hf => ?_, by simp [totE, sizeE, trOf, sizeT]⟩
      · cases i with
        | zero => cases (Option.some.inj e); exact ⟨p0, rfl, q0, t1 _ _ g2, x0, t1 _ _ g3, t1 _ _ g4⟩
        | succ i => simp at e
      · cases List.mem_singleton.mp hf
        exact ⟨by show 1 ≤ _; omega, startOk, by decide, by decide⟩
    · obtain ⟨y3, fs, ps, rfl, sG, ge, gl, ft, f1, fl, gd, tot⟩ := h
      obtain ⟨n, _, rfl⟩ := getmap ex
      have il : i < 40 := by have := (List.getElem?_eq_some_iff.mp ex).1; rw [List.length_map] at this; omega
      wp_walk using tSeq, tIfS, splawdeed
      exact ⟨i + 1, fs, ps, gl, ft, f1, by omega, gd, tot, fun G3 fs' ps' sb e1 e2 e3 e4 e5 e6 => ⟨fun b o e => sb b o (fun z => by rw [z, l00] at e; cases e) (sG _ _ e), sb e _ el ge, fs', ps', e1, e2, e3, by omega, e5, by omega⟩⟩
    · obtain ⟨y3, fs, ps, rfl, sG, ge, gl, ft, f1, fl, gd, tot⟩ := h
      rw [List.length_map] at fl gd
      exact hR _ _ ⟨y3, fs, ps, rfl, sG, gl, ft, by omega, fun f hf => (gd f hf).mono (by omega)⟩
  clear g1 g2 g3 g4 s1
  rintro σ2 G2 ⟨y3, fs, ps, rfl, s2, gl, ft, fl, gd⟩
  refine seq_with (fun σ G3 => ∃ dl, σ = [some (.ref a), some (.int 40), some (.ref l0), y3, some (.ref dl), none, none] ∧ Same G2 G3 ∧ G2 dl = none ∧ G3 dl = some (.lst [])) ?_ (fun R hR => ?_)
  rotate_left
  · wp_walk using tSeq, tIfS
    exact ⟨small (by decide), fun p hp => hR _ _ ⟨p, rfl, same_new hp _, hp, upd_same⟩⟩
  rintro σ3 G3 ⟨dl, rfl, s3, dl0, g3⟩
  have same : ∀ {G : Hp}, Same G2 G → ∀ o, Same G2 (upd G dl o) := fun {G} sg o c u e => by rw [upd_ne (fun z => by rw [z, dl0] at e; cases e)]; exact sg _ _ e
  refine seq_with (fun σ G4 => ∃ (y5 y6 : Option V) (ts : List Te) (qs : List Addr), σ = [some (.ref a), some (.int 40), some (.ref l0), y3, some (.ref dl), y5, y6] ∧ Same G2 G4 ∧ G4 dl = some (.lst (qs.map V.ref)) ∧ TesAt G4 ts qs ∧ ts.length ≤ 61 ∧ ∀ t ∈ ts, sizeE t ≤ 63 ∧ OkE (t, 0)) ?_ (fun R hR => ?_)
  rotate_left
  · wp_walk using tIfS
    refine LoopL.mk (xs := ps.map V.ref) (.of (s3 _ _ gl)) (fun i σ G4 => ∃ (y5 y6 : Option V) (ts : List Te) (qs : List Addr), σ = [some (.ref a), some (.int 40), some (.ref l0), y3, some (.ref dl), y5, y6] ∧ Same G2 G4 ∧ G4 dl = some (.lst (qs.map V.ref)) ∧ TesAt G4 ts qs ∧ ts.length = i ∧ ∀ t ∈ ts, sizeE t ≤ 63 ∧ OkE (t, 0)) ⟨_, _, [], [], rfl, s3, g3, .nil, rfl, fun t h => nomatch h⟩ (fun i σ G4 _ h => by obtain ⟨_, _, _, _, _, sG, _⟩ := h; exact .of (sG _ _ gl)) (fun i x σ G4 ex h => ?_) (fun σ G4 h => ?_)
    · obtain ⟨y5, y6, ts, qs, rfl, sG, gd4, tr, tl, ok⟩ := h
      have il : i < fs.length := by have := (List.getElem?_eq_some_iff.mp ex).1; rw [List.length_map, ft.1] at this; exact this
      obtain ⟨p, ep, q0, hq, tq⟩ := ft.2 i _ (List.getElem?_eq_getElem il)
      rw [List.getElem?_map, ep] at ex
      cases (Option.some.inj ex)
      have gf := gd fs[i] (List.getElem_mem il)
      generalize fs[i] = f at *
      wp_walk using tIfS
      refine ⟨_, sG _ _ hq, rfl, _, _, rfl, _, _, rfl, rfl, ?_⟩
      refine seq_with (fun σ G5 => ∃ (q : Addr) (t : Te) (y6 : Option V), σ = [some (.ref a), some (.int 40), some (.ref l0), y3, some (.ref dl), some (.ref q), y6] ∧ Same G4 G5 ∧ TeAt G5 t q ∧ sizeE t ≤ 63 ∧ OkE (t, 0)) ?_ (fun R hR => ?_)
      rotate_left
      · refine ⟨fun m σ G5 => ∃ (q : Addr) (t : Te) (v : Int), σ = [some (.ref a), some (.int 40), some (.ref l0), y3, some (.ref dl), some (.ref q), some (.int v)] ∧ Same G4 G5 ∧ TeAt G5 t q ∧ 0 ≤ v ∧ (sizeE t : Int) + v ≤ 63 ∧ OkE (t, v) ∧ m = v.toNat, ⟨_, q0, f.1, f.2, rfl, Same.refl _, tq.same sG, gf.2.2.1, by have := gf.1; have := gf.2.2.2; omega, gf.2.1, rfl⟩, ?_⟩
        rintro m σ G5 ⟨q, t, v, rfl, s5, tt, v0, vs, so, rfl⟩
        wp_walk using tSeq, tIfS
        by_cases c : 0 < v
        · rw [if_pos c]
          refine ⟨fun σ' H' => ∃ m', m' < v.toNat ∧ _, fun σ' H' h => h, small (by decide), fun p hp => ?_⟩
          exact ⟨(v - 1).toNat, by omega, p, .fold "add" 2 t, v - 1, rfl, s5.trans (same_new hp _), ⟨q, upd_same, tt.same (same_new hp _), by decide⟩, by omega, by show ((sizeE t + 1 : Nat) : Int) + (v - 1) ≤ 63; omega, okFold (by decide +kernel) (by decide) c so, rfl⟩
        · rw [if_neg c]
          have v00 : v = 0 := by omega
          subst v00
          exact hR _ _ ⟨q, t, _, rfl, s5, tt, by omega, so⟩
      rintro σ5 G5 ⟨q, t, y6, rfl, s5, tt, t63, so⟩
      wp_walk using tSeq, tIfS
      have gd5 := s5 _ _ gd4
      refine ⟨⟨_, gd5⟩, _, gd5, by rw [List.length_map, tr.1, tl]; exact small1000 (by omega), same (sG.trans s5) _, ts ++ [t], qs ++ [q], by rw [List.map_append]; rfl, ?_, by simp [tl], fun u hu => ?_⟩
      · exact ((tr.sameT (.of s5)).app (tes1 tt)).sameT (SameT.no (fun xs z => by rw [gd5] at z; cases z))
      · rcases List.mem_append.mp hu with hu | hu
        · exact ok u hu
        · cases List.mem_singleton.mp hu; exact ⟨t63, so⟩
    · obtain ⟨y5, y6, ts, qs, rfl, sG, gd4, tr, tl, ok⟩ := h
      rw [List.length_map, ft.1] at tl
      exact hR _ _ ⟨y5, y6, ts, qs, rfl, sG, gd4, tr, by omega, ok⟩
  rintro σ4 G4 ⟨y5, y6, ts, qs, rfl, sG, gd4, tr, tl, ok⟩
  wp_walk using tSeq, tIfS
  exact q _ _ ts qs (s2.trans sG) gd4 tr ok (by omega)
end
abbrev slawstores : Stmt := top 36
def splawstores : PySem.W.Frag → Sp := fun K => fun vs H Q _ => ∃ (a : Addr) (ns : List Int), vs = [.ref a] ∧ SqL K H a (ns.map V.int) ∧ ns.length ≤ 63 ∧ ∀ H' l S ps, Same H H' → H' l = some (.lst (ps.map V.ref)) → RowsL H' l S ps → SOk S → S = storesF ns 3 → Q (.ref l) H'
section
variable {P : Program} {w : World} {K : PySem.W.Frag} {mg : Str → Option Value} {base : Heap} {f : Addr} {fd : FuncData} {TC TL : Addr}
theorem sclawstores : FnScope ["_law_script", "_law_stores_here", "_law_s", "_law_row", "_law_j", "_law_cell"] ["_law_script"] (defScope slawstores) := ⟨rfl, rfl, rfl, by decide +kernel, rfl, by decide +kernel, by decide +kernel⟩
theorem oklawstores (F : Fun K "_law_stores" "_law_stores" slawstores f fd) (zrange : mg "range" = none) (zlen : mg "len" = none) : FnOk P w K mg base CX0 (1) f fd ["_law_script"] (splawstores K) := by
  have sc := sclawstores
  refine F.ok sc (fun vs H Q E h => ?_) (fun cdv A outer s H vs Q E hr h => ?_)
  · obtain ⟨a, ns, rfl, _⟩ := h; rfl
  obtain ⟨a, ns, rfl, hS, h63, q⟩ := h
  refine ⟨_, (pss_cons (ps_set (i := 1) sc.nd rfl (by first | exact Or.inl rfl | exact Or.inr rfl) (pe_lst pa_nil)) (pss_cons (ps_for PassesOwn.never rfl (pi_range1 (by rfl) zrange (pa_cons pe_int pa_nil)) (pg_name (i := 2) sc.nd rfl (Or.inl rfl)) (pss_cons (ps_set (i := 3) sc.nd rfl (by first | exact Or.inl rfl | exact Or.inr rfl) (pe_lst pa_nil)) (pss_cons (ps_for PassesOwn.never rfl (pi_range1 (by rfl) zrange (pa_cons pe_int pa_nil)) (pg_name (i := 4) sc.nd rfl (Or.inl rfl)) (pss_cons (ps_set (i := 5) sc.nd rfl (by first | exact Or.inl rfl | exact Or.inr rfl) (pv 2)) (pss_cons (ps_if (pt_cmpR op_gt (pe_callB call_len_seq (by rfl) zlen PySem.boot_len (pa_cons (pv 0) pa_nil)) pe_int (nomark _)) (pss_one (ps_set (i := 5) sc.nd rfl (by first | exact Or.inl rfl | exact Or.inr rfl) (pe_op op_add (pe_ix ix_list (pv 0) (pe_op op_mod (pe_op op_add (pe_op op_mul pe_int (pv 2)) (pv 4)) (pe_callB call_len_seq (by rfl) zlen PySem.boot_len (pa_cons (pv 0) pa_nil))) (fun _ _ => rfl)) (pv 2)))) pss_nil) (pss_one (ps_if (pt_cmpR op_eq (pe_op op_mod (pe_op op_add (pv 5) (pv 4)) pe_int) pe_int (nomark _)) (pss_one (ps_expr (pe_app (pv 3) (pe_op op_sub (pe_op op_mod (pv 5) pe_int) pe_int)))) (pss_one (ps_expr (pe_app (pv 3) (pe_op op_sub (pe_op op_mod (pe_op op_add (pe_op op_mul (pv 5) pe_int) (pe_op op_mul (pe_op op_add (pe_op op_mul (pv 4) (pv 4)) pe_int) pe_int)) (pe_op op_pow pe_int pe_int)) (pe_op op_pow pe_int pe_int)))))))))) (pss_one (ps_expr (pe_app (pv 1) (pv 3))))))) (pss_one (ps_ret (pv 1))))), ?_⟩
  simp only [L2.start, List.length_cons, List.length_nil, List.replicate, List.cons_append, List.nil_append, Nat.reduceSub, Nat.reduceAdd, List.map_cons, List.map_nil]
  refine seq_with (fun σ G => ∃ l, Same H G ∧ H l = none ∧ G l = some (.lst []) ∧ σ = [some (.ref a), some (.ref l), none, none, none, none]) ?_ (fun R hR => ?_)
  rotate_left
  · wp_walk using tSeq, tIfS
    exact ⟨small (by decide), fun p hp => hR _ _ ⟨p, same_new hp _, hp, upd_same, rfl⟩⟩
  rintro σ1 G1 ⟨l, s1, l0, hl, rfl⟩
  refine seq_with (fun σ G => ∃ S ps y2 y3 y4 y5, Same H G ∧ G l = some (.lst (ps.map V.ref)) ∧ RowsL G l S ps ∧ SOk S ∧ S = storesF ns 3 ∧ σ = [some (.ref a), some (.ref l), y2, y3, y4, y5]) ?_ (fun R hR => ?_)
  rotate_left
  · wp_walk using tIfS
    refine LoopR.mk (fun i σ G => ∃ S ps y2 y3 y4 y5, Same H G ∧ G l = some (.lst (ps.map V.ref)) ∧ RowsL G l S ps ∧ S = storesF ns i ∧ (∀ r ∈ S, r.length = 48 ∧ ∀ x ∈ r, inB x) ∧ σ = [some (.ref a), some (.ref l), y2, y3, y4, y5]) ⟨[], [], _, _, _, _, s1, hl, ⟨rfl, fun i r e => by simp at e⟩, rfl, (fun r h => nomatch h), rfl⟩ (fun i σ G hi h => ?_) (fun σ G h => ?_)
    · obtain ⟨S, ps, y2, y3, y4, y5, sG, gl, rows, sl, ok, rfl⟩ := h
      simp only [gName, List.set_cons_succ, List.set_cons_zero]
      rw [Int.zero_add]
      have i3 : i < 3 := by simpa using hi
      refine seq_with (fun σ G2 => ∃ pr, Same G G2 ∧ G pr = none ∧ G2 pr = some (.lst []) ∧ σ = [some (.ref a), some (.ref l), some (.int (i : Int)), some (.ref pr), y4, y5]) ?_ (fun R hR => ?_)
      rotate_left
      · wp_walk using tSeq, tIfS
        exact ⟨small (by decide), fun p hp => hR _ _ ⟨p, same_new hp _, hp, upd_same, rfl⟩⟩
      rintro σ2 G2 ⟨pr, s2, pr0, hpr, rfl⟩
      refine seq_with (fun σ G3 => ∃ (r : List Int) (y4 y5 : Option V), Same G G3 ∧ G3 pr = some (.lst (r.map V.int)) ∧ r = rowF ns i 48 ∧ (∀ x ∈ r, inB x) ∧ σ = [some (.ref a), some (.ref l), some (.int (i : Int)), some (.ref pr), y4, y5]) ?_ (fun R hR => ?_)
      rotate_left
      · wp_walk using tIfS
        refine LoopR.mk (fun j σ G3 => ∃ (r : List Int) (y4 y5 : Option V), Same G G3 ∧ G3 pr = some (.lst (r.map V.int)) ∧ r = rowF ns i j ∧ (∀ x ∈ r, inB x) ∧ σ = [some (.ref a), some (.ref l), some (.int (i : Int)), some (.ref pr), y4, y5]) ⟨[], _, _, s2, hpr, rfl, (fun x h => nomatch h), rfl⟩ (fun j σ G3 hj h => ?_) (fun σ G3 h => ?_)
        · obtain ⟨r, y4, y5, s3, h3, rl, rin, rfl⟩ := h
          simp only [gName, List.set_cons_succ, List.set_cons_zero]
          rw [Int.zero_add]
          have j48 : j < 48 := by simpa using hj
          refine seq_with (fun σ G4 => G4 = G3 ∧ σ = [some (.ref a), some (.ref l), some (.int (i : Int)), some (.ref pr), some (.int (j : Int)), some (.int (i : Int))]) ?_ (fun R hR => ?_)
          rotate_left
          · wp_walk using tSeq, tIfS
            exact hR _ _ ⟨rfl, rfl⟩
          rintro σ4 G4 ⟨rfl, rfl⟩
          refine seq_with (fun σ G5 => ∃ cell : Int, cell = cellF ns i j ∧ G5 = G4 ∧ σ = [some (.ref a), some (.ref l), some (.int (i : Int)), some (.ref pr), some (.int (j : Int)), some (.int cell)]) ?_ (fun R hR => ?_)
          rotate_left
          · wp_walk using tSeq, tIfS
            have hS4 := (sG.trans s3).seq hS
            refine ⟨_, .inl hS4, ?_⟩
            rw [List.length_map]
            by_cases c0 : (0 : Int) < (ns.length : Int)
            · rw [if_pos (by simpa using c0)]
              have i0 := Int.emod_nonneg (48 * (i : Int) + (j : Int)) (show (ns.length : Int) ≠ 0 by omega)
              have i1 := Int.emod_lt_of_pos (48 * (i : Int) + (j : Int)) c0
              have e1 := List.getElem?_eq_getElem (l := ns) (i := ((48 * (i : Int) + (j : Int)) % (ns.length : Int)).toNat) (by omega)
              exact ⟨_, .inl hS4, by rw [List.length_map]; exact c0, _, hS4, _, by rw [List.length_map]; exact at_cell i0 e1, _, rfl, hR _ _ ⟨_, by unfold cellF; rw [if_pos (by omega), List.getD_eq_getElem?_getD, e1]; rfl, rfl, rfl⟩⟩
            · rw [if_neg (by simpa using c0)]
              exact hR _ _ ⟨_, by unfold cellF; rw [if_neg (by omega)], rfl, rfl⟩
          rintro σ5 G5 ⟨cell, ec, rfl, rfl⟩
          wp_walk using tSeq, tIfS
          have app : ∀ x, inB x → x = valF ns i j → (∃ r' : List Int, Same G (upd G5 pr (HO.lst (r.map V.int ++ [V.int x]))) ∧ r.map V.int ++ [V.int x] = r'.map V.int ∧ r' = rowF ns i (j + 1) ∧ ∀ x ∈ r', inB x) := fun x hx ev => by
            refine ⟨r ++ [x], fun b o e => ?_, by simp, by rw [rowF_succ, rl, ev], fun y hy => ?_⟩
            · rw [upd_ne (ne_of_none e pr0)]; exact s3 _ _ e
            · rcases List.mem_append.mp hy with hy | hy
              · exact rin y hy
              · cases List.mem_singleton.mp hy; exact hx
          split
          · rename_i c3
            obtain ⟨r', a1, a2, a3, a4⟩ := app (cell % 5 - 2) (by unfold inB; omega) (by unfold valF; rw [← ec, if_pos c3])
            exact ⟨⟨_, h3⟩, _, h3, by rw [List.length_map, rl, rowF_len]; exact small1000 (by omega), a1, r', a2, a3, a4, _, rfl⟩
          · rename_i c3
            obtain ⟨r', a1, a2, a3, a4⟩ := app ((cell * 998244359987710471 + ((j : Int) * (j : Int) + 1) * 1442695040888963407) % 18446744073709551616 - 9223372036854775808) (by unfold inB; omega) (by unfold valF; rw [← ec, if_neg c3])
            exact ⟨⟨_, h3⟩, .inl ⟨by omega, by omega⟩, _, h3, by rw [List.length_map, rl, rowF_len]; exact small1000 (by omega), a1, r', a2, a3, a4, _, rfl⟩
        · obtain ⟨r, y4, y5, s3, h3, rl, rin, rfl⟩ := h
          exact hR _ _ ⟨r, y4, y5, s3, h3, rl, rin, rfl⟩
      rintro σ3 G3 ⟨r, y4, y5, s3, h3, rl, rin, rfl⟩
      wp_walk using tSeq, tIfS
      have pl : pr ≠ l := fun z => by rw [z, gl] at pr0; cases pr0
      have gl3 := s3 _ _ gl
      have nsm : Same H (upd G3 l (HO.lst (ps.map V.ref ++ [V.ref pr]))) := fun b o e => by rw [upd_ne (ne_of_none e l0)]; exact s3 _ _ (sG _ _ e)
      refine ⟨⟨_, gl3⟩, _, gl3, by rw [List.length_map, rows.1, sl, storesF_len]; exact small1000 (by omega), nsm, S ++ [r], ps ++ [pr], by rw [List.map_append]; rfl, ?_, by rw [storesF_succ, ← sl, ← rl], fun r' hr' => ?_, _, rfl⟩
      · refine ((rows.mono fun b o _ e => s3 _ _ e).snoc pl h3).mono fun b o n e => ?_
        rw [upd_ne n]; exact e
      · rcases List.mem_append.mp hr' with h | h
        · exact ok r' h
        · cases List.mem_singleton.mp h; exact ⟨by rw [rl, rowF_len], rin⟩
    · obtain ⟨S, ps, y2, y3, y4, y5, sG, gl, rows, sl, ok, rfl⟩ := h
      exact hR _ _ ⟨S, ps, y2, y3, y4, y5, sG, gl, rows, ⟨by rw [sl, storesF_len], ok⟩, sl, rfl⟩
  rintro σ2 G2 ⟨S, ps, y2, y3, y4, y5, s2, gl, rows, so, sf, rfl⟩
  wp_walk using tSeq, tIfS
  exact q _ _ S ps s2 gl rows so sf
end
abbrev slawchange : Stmt := top 37
section
variable {P : Program} {w : World} {K : PySem.W.Frag} {mg : Str → Option Value} {base : Heap} {f : Addr} {fd : FuncData} {TC TL : Addr}
theorem sclawchange : FnScope ["_law_way", "_law_side", "_law_first", "_law_step", "_law_change_here"] ["_law_way", "_law_side", "_law_first", "_law_step"] (defScope slawchange) := ⟨rfl, rfl, rfl, by decide +kernel, rfl, by decide +kernel, by decide +kernel⟩
theorem oklawchange (F : Fun K "_law_change" "_law_change" slawchange f fd) {c : Addr} (hcd : fd.code = .ref c) (TF : TabF base mg c TC) : FnOk P w K mg base CX0 (1) f fd ["_law_way", "_law_side", "_law_first", "_law_step"] ((splchange P w K mg base TC)) := by
  have sc := sclawchange
  refine F.okR hcd sc (fun vs H Q E h => ?_) (fv := ["_law_way", "_law_step", "_law_side", "_law_first"]) (js := [0, 3, 1, 2]) rfl rfl (fc rfl (fc rfl (fc rfl (fc rfl fc0)))) (by decide +kernel) (fun A outer s H vs Q E hr h => ?_)
  · obtain ⟨way, side, first, step, rfl, _⟩ := h; rfl
  obtain ⟨way, side, first, step, rfl, ht, s4, f0, f1, t0, t1, q⟩ := h
  have own : OwnCl (envOfC "_law_change" (defScope slawchange) s.heap.objs.size f (.ref c)).cells ["_law_way", "_law_step", "_law_side", "_law_first"] [("_law_way", s.heap.objs.size + 1), ("_law_step", s.heap.objs.size + 4), ("_law_side", s.heap.objs.size + 2), ("_law_first", s.heap.objs.size + 3)] := ⟨rfl, (fc rfl (fc rfl (fc rfl (fc rfl fc0))))⟩
  refine ⟨_, _, (ps_def (i := 4) (qual := "_law_change.<locals>._law_change_here") (fv := ["_law_way", "_law_step", "_law_side", "_law_first"]) (cl := [("_law_way", s.heap.objs.size + 1), ("_law_step", s.heap.objs.size + 4), ("_law_side", s.heap.objs.size + 2), ("_law_first", s.heap.objs.size + 3)]) sc.nd rfl (.inl rfl) rfl rfl TF rfl own rfl rfl rfl), (pv 4), ?_⟩
  generalize (cxOf _ _ _ _ _ _ _ _ _ _ _ _ _ _ _ _).nox.env.cells = ec
  wp_walk using tSeq, tIfS
  refine ⟨ht, fun fa c' cl H2 o1 ffa hfa hc2 ht2 up2 => ⟨cl, o1, [.int way, .int step, .int (side : Int), .int first], rfl, fun H3 hcel eq3 fr => ?_⟩⟩
  have lsc : LmScope ["_law_start", "_law_strides", "_law_way", "_law_step", "_law_side", "_law_first", "_law_one", "_law_side_at"] ["_law_start", "_law_strides"] ["_law_way", "_law_step", "_law_side", "_law_first"] { kind := ScopeKind.function, names := [("_law_start", NameKind.local), ("_law_strides", NameKind.local), ("_law_one", NameKind.local), ("_law_side_at", NameKind.local), ("_law_first", NameKind.free), ("_law_side", NameKind.free), ("_law_step", NameKind.free), ("_law_way", NameKind.free)], isGenerator := false, isCoroutine := false } := ⟨rfl, rfl, rfl, by decide +kernel, rfl, fc (.inl rfl) (fc (.inl rfl) fc0), fc rfl (fc rfl (fc rfl (fc rfl fc0))), by decide +kernel, by decide +kernel⟩
  have u3 : ∀ b o, H2 b = some o → H3 b = some o := fun b o e => by rw [eq3 b fun q hq z => by rw [← z, fr q hq] at e; cases e]; exact e
  refine q H3 fa (fa :: c' :: cl.map (·.2)) (fun b hb => ?_) (fun H1 keep => ?_) (ht2.same u3) (fun b o n e => u3 _ _ (up2 b o n e))
  · rcases List.mem_cons.mp hb with rfl | hb
    · exact ⟨_, u3 _ _ hfa, fun ps z => by unfold DefO at z; cases z⟩
    rcases List.mem_cons.mp hb with rfl | hb
    · exact ⟨_, u3 _ _ hc2, fun ps z => by unfold CodO at z; cases z⟩
    obtain ⟨q0, hq0, rfl⟩ := List.mem_map.mp hb
    obtain ⟨o, v, e⟩ := hcel.mem hq0
    exact ⟨_, e, fun ps z => by cases z⟩
  have hfa1 := keep fa List.mem_cons_self _ (u3 _ _ hfa)
  have hc1 := keep c' (List.mem_cons_of_mem _ List.mem_cons_self) _ (u3 _ _ hc2)
  have hcel1 : CelAt H1 cl [.int way, .int step, .int (side : Int), .int first] := ⟨hcel.len, fun i q e => let ⟨v, o, e1, e2⟩ := hcel.at_ i q e; ⟨v, o, e1, keep q.2 (List.mem_cons_of_mem _ (List.mem_cons_of_mem _ (List.mem_map.mpr ⟨q, List.mem_of_getElem? e, rfl⟩))) _ e2⟩, hcel.apart⟩
  refine ⟨FnV.dfn hfa1, fun s0 st G p Q' sG hp l3 l5 sx hq => ?_⟩
  have hcelG := hcel1.same sG
  have hpm := min_tup hcelG hp
  refine def_runF (k := 5) (vs := [V.int s0, V.ref p]) (vcs := [.int way, .int step, .int (side : Int), .int first]) lsc o1.1 (fun doc pm ctv us hl => by match us, hl with | [u, u'], _ => rfl) rfl (sG _ _ hfa1) (sG _ _ hc1) hcelG (fun A outer s hr => (pss_cons (ps_set (i := 6) lsc.nd rfl (by first | exact Or.inl rfl | exact Or.inr rfl) (pe_ix ix_tupH (pv 1) (pe_op op_mod (pv 4) pe_int) (fun _ _ => rfl))) (pss_cons (ps_set (i := 7) lsc.nd rfl (by first | exact Or.inl rfl | exact Or.inr rfl) (pe_op op_mod (pv 4) pe_int)) (pss_cons (ps_if (pt_cmpR op_eq (pv 2) pe_int (nomark _)) (pss_one (ps_ret (pe_tup (pa_cons (pv 0) (pa_cons (pe_op op_catS (pe_op op_catS (pe_slice sl_tupA (pv 1) (po_some pe_int) (po_some pe_int)) (pe_slice sl_tupA (pv 1) po_none (po_some pe_int))) (pe_slice sl_tupA (pv 1) (po_some pe_int) po_none)) pa_nil))))) pss_nil) (pss_cons (ps_if (pt_cmpR op_eq (pv 2) pe_int (nomark _)) (pss_one (ps_ret (pe_tup (pa_cons (pe_op op_add (pv 0) (pe_op op_mul pe_int (pv 6))) (pa_cons (pe_op op_catS (pe_op op_catS (pe_slice sl_tupA (pv 1) po_none (po_some (pv 7))) (pe_tup (pa_cons (pe_un un_neg (pv 6)) pa_nil))) (pe_slice sl_tupA (pv 1) (po_some (pe_op op_add (pv 7) pe_int)) po_none)) pa_nil))))) pss_nil) (pss_cons (ps_if (pt_cmpR op_eq (pv 2) pe_int (nomark _)) (pss_one (ps_ret (pe_tup (pa_cons (pe_op op_add (pv 0) (pe_op op_mul (pv 5) (pv 6))) (pa_cons (pe_op op_catS (pe_op op_catS (pe_slice sl_tupA (pv 1) po_none (po_some (pv 7))) (pe_tup (pa_cons (pe_op op_mul (pv 3) (pv 6)) pa_nil))) (pe_slice sl_tupA (pv 1) (po_some (pe_op op_add (pv 7) pe_int)) po_none)) pa_nil))))) pss_nil) (pss_one (ps_ret (pe_tup (pa_cons (pv 0) (pa_cons (pe_op op_catS (pe_op op_catS (pe_slice sl_tupA (pv 1) po_none (po_some (pv 4))) (pe_tup (pa_cons pe_int pa_nil))) (pe_slice sl_tupA (pv 1) (po_some (pv 4)) po_none)) pa_nil))))))))))) ?_
  wp_walk using tSeq, tIfS
  have e3 : (side : Int) % 3 = ((side % 3 : Nat) : Int) := by omega
  have k3 : side % 3 < st.length := by omega
  have ox := sx _ (getD_memI k3)
  refine ⟨_, hpm, _, by rw [e3]; exact at_side k3, ?_⟩
  by_cases w0 : way = 0
  · rw [if_pos w0]
    have ef : chgF way side first step s0 st = (s0, (st.drop 1).take 2 ++ st.take 1 ++ st.drop 3) := by unfold chgF; rw [if_pos w0]
    rw [ef] at hq
    refine ⟨_, hpm, fun r1 G1 u1 h1 => ⟨_, u1 _ _ hpm, fun r2 G2 u2 h2 => ?_⟩⟩
    rw [cut13 l3] at h1
    rw [show (1 : Int) = ((1 : Nat) : Int) from rfl, cut_any] at h2
    refine ⟨_, u2 _ _ h1, _, h2, small (by simp only [List.length_map, List.length_take, List.length_drop]; omega), fun r3 G3 u3 h3 => ⟨_, u3 _ _ (u2 _ _ (u1 _ _ hpm)), fun r4 G4 u4 h4 => ?_⟩⟩
    rw [show (3 : Int) = ((3 : Nat) : Int) from rfl, cut_anyH] at h4
    refine ⟨_, u4 _ _ h3, _, h4, small (by simp only [List.length_append, List.length_map, List.length_take, List.length_drop]; omega), fun r5 G5 u5 h5 => ⟨small (by decide), fun r6 hr6 nc => ?_⟩⟩
    exact hq _ r6 r5 (same_res (u1.trans (u2.trans (u3.trans (u4.trans (u5.trans (same_new hr6 _))))))) (res_tup nc upd_same) (res_tup nc (by rw [same_new hr6 _ _ _ h5, List.map_append, List.map_append]))
  rw [if_neg w0]
  by_cases w1 : way = 1
  · rw [if_pos w1]
    have ef : chgF way side first step s0 st = (s0 + 2 * st.getD (side % 3) 0, st.take (side % 3) ++ [-st.getD (side % 3) 0] ++ st.drop (side % 3 + 1)) := by unfold chgF; rw [if_neg w0, if_pos w1]
    rw [ef] at hq
    refine ⟨_, rfl, _, hpm, fun r1 G1 u1 h1 => ⟨_, rfl, small (by decide), fun p1 hp1 => ?_⟩⟩
    rw [e3, cut_any] at h1
    refine ⟨_, same_new hp1 _ _ _ h1, small (by simp only [List.length_map, List.length_take]; omega), fun r2 G2 u2 h2 => ⟨_, u2 _ _ (same_new hp1 _ _ _ (u1 _ _ hpm)), fun r3 G3 u3 h3 => ?_⟩⟩
    rw [e3, show ((side % 3 : Nat) : Int) + 1 = ((side % 3 + 1 : Nat) : Int) by omega, cut_anyH] at h3
    refine ⟨_, u3 _ _ h2, _, h3, small (by simp only [List.length_append, List.length_map, List.length_take, List.length_drop, List.length_cons, List.length_nil]; omega), fun r4 G4 u4 h4 => ⟨small (by decide), fun r6 hr6 nc => ?_⟩⟩
    exact hq _ r6 r4 (same_res (u1.trans ((same_new hp1 _).trans (u2.trans (u3.trans (u4.trans (same_new hr6 _))))))) (res_tup nc upd_same) (res_tup nc (by rw [same_new hr6 _ _ _ h4, List.map_append, List.map_append]; rfl))
  rw [if_neg w1]
  by_cases w2 : way = 2
  · rw [if_pos w2]
    have ef : chgF way side first step s0 st = (s0 + first * st.getD (side % 3) 0, st.take (side % 3) ++ [step * st.getD (side % 3) 0] ++ st.drop (side % 3 + 1)) := by unfold chgF; rw [if_neg w0, if_neg w1, if_pos w2]
    rw [ef] at hq
    refine ⟨_, rfl, .inl ⟨by omega, by omega⟩, _, hpm, fun r1 G1 u1 h1 => ⟨_, rfl, .inl ⟨by omega, by omega⟩, small (by decide), fun p1 hp1 => ?_⟩⟩
    rw [e3, cut_any] at h1
    refine ⟨_, same_new hp1 _ _ _ h1, small (by simp only [List.length_map, List.length_take]; omega), fun r2 G2 u2 h2 => ⟨_, u2 _ _ (same_new hp1 _ _ _ (u1 _ _ hpm)), fun r3 G3 u3 h3 => ?_⟩⟩
    rw [e3, show ((side % 3 : Nat) : Int) + 1 = ((side % 3 + 1 : Nat) : Int) by omega, cut_anyH] at h3
    refine ⟨_, u3 _ _ h2, _, h3, small (by simp only [List.length_append, List.length_map, List.length_take, List.length_drop, List.length_cons, List.length_nil]; omega), fun r4 G4 u4 h4 => ⟨small (by decide), fun r6 hr6 nc => ?_⟩⟩
    exact hq _ r6 r4 (same_res (u1.trans ((same_new hp1 _).trans (u2.trans (u3.trans (u4.trans (same_new hr6 _))))))) (res_tup nc upd_same) (res_tup nc (by rw [same_new hr6 _ _ _ h4, List.map_append, List.map_append]; rfl))
  rw [if_neg w2]
  have ef : chgF way side first step s0 st = (s0, st.take side ++ [0] ++ st.drop side) := by unfold chgF; rw [if_neg w0, if_neg w1, if_neg w2]
  rw [ef] at hq
  refine ⟨_, hpm, fun r1 G1 u1 h1 => ⟨small (by decide), fun p1 hp1 => ?_⟩⟩
  rw [cut_any] at h1
  refine ⟨_, same_new hp1 _ _ _ h1, small (by simp only [List.length_map, List.length_take]; omega), fun r2 G2 u2 h2 => ⟨_, u2 _ _ (same_new hp1 _ _ _ (u1 _ _ hpm)), fun r3 G3 u3 h3 => ?_⟩⟩
  rw [cut_anyH] at h3
  refine ⟨_, u3 _ _ h2, _, h3, small (by simp only [List.length_append, List.length_map, List.length_take, List.length_drop, List.length_cons, List.length_nil]; omega), fun r4 G4 u4 h4 => ⟨small (by decide), fun r6 hr6 nc => ?_⟩⟩
  exact hq _ r6 r4 (same_res (u1.trans ((same_new hp1 _).trans (u2.trans (u3.trans (u4.trans (same_new hr6 _))))))) (res_tup nc upd_same) (res_tup nc (by rw [same_new hr6 _ _ _ h4, List.map_append, List.map_append]; rfl))
end
abbrev slawfrom : Stmt := top 38
section
variable {P : Program} {w : World} {K : PySem.W.Frag} {mg : Str → Option Value} {base : Heap} {f : Addr} {fd : FuncData} {TC TL : Addr}
theorem sclawfrom : FnScope ["_law_way", "_law_side", "_law_first", "_law_step", "_law_at", "_law_side_at"] ["_law_way", "_law_side", "_law_first", "_law_step", "_law_at"] (defScope slawfrom) := ⟨rfl, rfl, rfl, by decide +kernel, rfl, by decide +kernel, by decide +kernel⟩
theorem oklawfrom (F : Fun K "_law_from" "_law_from" slawfrom f fd) : FnOk P w K mg base CX0 (1) f fd ["_law_way", "_law_side", "_law_first", "_law_step", "_law_at"] (splfrom) := by
  have sc := sclawfrom
  refine F.ok sc (fun vs H Q E h => ?_) (fun cdv A outer s H vs Q E hr h => ?_)
  · obtain ⟨way, side, first, step, b, c, rfl, _⟩ := h; rfl
  obtain ⟨way, side, first, step, b, c, rfl, hb, l3, l4, s4, t0, t1, q⟩ := h
  refine ⟨_, (pss_cons (ps_if (pt_cmpR op_eq (pv 0) pe_int (nomark _)) (pss_one (ps_ret (pe_tup (pa_cons (pe_ix ix_tupH (pv 4) pe_int (fun _ _ => rfl)) (pa_cons (pe_ix ix_tupH (pv 4) pe_int (fun _ _ => rfl)) (pa_cons (pe_ix ix_tupH (pv 4) pe_int (fun _ _ => rfl)) pa_nil)))))) pss_nil) (pss_cons (ps_set (i := 5) sc.nd rfl (by first | exact Or.inl rfl | exact Or.inr rfl) (pe_op op_mod (pv 1) pe_int)) (pss_cons (ps_if (pt_cmpR op_eq (pv 0) pe_int (nomark _)) (pss_one (ps_ret (pe_op op_catS (pe_op op_catS (pe_slice sl_tupA (pv 4) po_none (po_some (pv 5))) (pe_tup (pa_cons (pe_op op_sub pe_int (pe_ix ix_tupH (pv 4) (pv 5) (fun _ _ => rfl))) pa_nil))) (pe_slice sl_tupA (pv 4) (po_some (pe_op op_add (pv 5) pe_int)) po_none)))) pss_nil) (pss_cons (ps_if (pt_cmpR op_eq (pv 0) pe_int (nomark _)) (pss_one (ps_ret (pe_op op_catS (pe_op op_catS (pe_slice sl_tupA (pv 4) po_none (po_some (pv 5))) (pe_tup (pa_cons (pe_op op_add (pv 2) (pe_op op_mul (pv 3) (pe_ix ix_tupH (pv 4) (pv 5) (fun _ _ => rfl)))) pa_nil))) (pe_slice sl_tupA (pv 4) (po_some (pe_op op_add (pv 5) pe_int)) po_none)))) pss_nil) (pss_one (ps_ret (pe_op op_catS (pe_slice sl_tupA (pv 4) po_none (po_some (pv 1))) (pe_slice sl_tupA (pv 4) (po_some (pe_op op_add (pv 1) pe_int)) po_none)))))))), ?_⟩
  simp only [L2.start, List.length_cons, List.length_nil, List.replicate, List.cons_append, List.nil_append, Nat.reduceSub, Nat.reduceAdd, List.map_cons, List.map_nil]
  wp_walk using tSeq, tIfS
  have e3 : (side : Int) % 3 = ((side % 3 : Nat) : Int) := by omega
  have k3 : side % 3 < c.length := by omega
  by_cases w0 : way = 0
  · rw [if_pos w0]
    have ef : fromF way side first step c = [c.getD 2 0, c.getD 0 0, c.getD 1 0] := by unfold fromF; rw [if_pos w0]
    exact ⟨_, hb, _, at_side (k := 2) (by omega), _, hb, _, at_side (k := 0) (by omega), _, hb, _, at_side (k := 1) (by omega), small (by decide), fun r hr => q _ r (same_new hr _) (by rw [ef]; exact upd_same)⟩
  rw [if_neg w0]
  by_cases w1 : way = 1
  · rw [if_pos w1]
    have ef : fromF way side first step c = c.set (side % 3) (2 - c.getD (side % 3) 0) := by unfold fromF; rw [if_neg w0, if_pos w1]
    refine ⟨_, hb, fun r1 G1 u1 h1 => ⟨_, u1 _ _ hb, _, by rw [e3]; exact at_side k3, _, rfl, small (by decide), fun p1 hp1 => ?_⟩⟩
    rw [e3, cut_any] at h1
    refine ⟨_, same_new hp1 _ _ _ h1, small (by simp only [List.length_map, List.length_take]; omega), fun r2 G2 u2 h2 => ⟨_, u2 _ _ (same_new hp1 _ _ _ (u1 _ _ hb)), fun r3 G3 u3 h3 => ?_⟩⟩
    rw [e3, show ((side % 3 : Nat) : Int) + 1 = ((side % 3 + 1 : Nat) : Int) by omega, cut_anyH] at h3
    refine ⟨_, u3 _ _ h2, _, h3, small (by simp only [List.length_append, List.length_map, List.length_take, List.length_drop, List.length_cons, List.length_nil]; omega), fun r4 G4 u4 h4 => q _ r4 (u1.trans ((same_new hp1 _).trans (u2.trans (u3.trans u4)))) ?_⟩
    rw [ef, ← set_mid k3, h4, List.map_append, List.map_append]; rfl
  rw [if_neg w1]
  by_cases w2 : way = 2
  · rw [if_pos w2]
    have ef : fromF way side first step c = c.set (side % 3) (first + step * c.getD (side % 3) 0) := by unfold fromF; rw [if_neg w0, if_neg w1, if_pos w2]
    refine ⟨_, hb, fun r1 G1 u1 h1 => ⟨_, u1 _ _ hb, _, by rw [e3]; exact at_side k3, _, rfl, .inl ⟨by omega, by omega⟩, small (by decide), fun p1 hp1 => ?_⟩⟩
    rw [e3, cut_any] at h1
    refine ⟨_, same_new hp1 _ _ _ h1, small (by simp only [List.length_map, List.length_take]; omega), fun r2 G2 u2 h2 => ⟨_, u2 _ _ (same_new hp1 _ _ _ (u1 _ _ hb)), fun r3 G3 u3 h3 => ?_⟩⟩
    rw [e3, show ((side % 3 : Nat) : Int) + 1 = ((side % 3 + 1 : Nat) : Int) by omega, cut_anyH] at h3
    refine ⟨_, u3 _ _ h2, _, h3, small (by simp only [List.length_append, List.length_map, List.length_take, List.length_drop, List.length_cons, List.length_nil]; omega), fun r4 G4 u4 h4 => q _ r4 (u1.trans ((same_new hp1 _).trans (u2.trans (u3.trans u4)))) ?_⟩
    rw [ef, ← set_mid k3, h4, List.map_append, List.map_append]; rfl
  rw [if_neg w2]
  have ef : fromF way side first step c = c.eraseIdx side := by unfold fromF; rw [if_neg w0, if_neg w1, if_neg w2]
  refine ⟨_, hb, fun r1 G1 u1 h1 => ⟨_, u1 _ _ hb, fun r2 G2 u2 h2 => ?_⟩⟩
  rw [cut_any] at h1
  rw [show (side : Int) + 1 = ((side + 1 : Nat) : Int) by omega, cut_anyH] at h2
  refine ⟨_, u2 _ _ h1, _, h2, small (by simp only [List.length_map, List.length_take, List.length_drop]; omega), fun r3 G3 u3 h3 => q _ r3 (u1.trans (u2.trans u3)) ?_⟩
  rw [ef, List.eraseIdx_eq_take_drop_succ, h3, List.map_append]
end
abbrev slaw : Stmt := top 39
section
variable {P : Program} {w : World} {K : PySem.W.Frag} {mg : Str → Option Value} {base : Heap} {f : Addr} {fd : FuncData} {TC TL : Addr}
theorem sclaw : FnScope ["_law_script", "_law_stores_here", "_law_cells", "_law_way", "_law_side", "_law_first", "_law_step", "_law_change_here", "_law_tree", "_law_moved", "_law_k", "_law_at"] ["_law_script"] (defScope slaw) := ⟨rfl, rfl, rfl, by decide +kernel, rfl, by decide +kernel, by decide +kernel⟩
theorem oklaw (F : Fun K "law" "law" slaw f fd) {c : Addr} (hcd : fd.code = .ref c) (TF : TabF base mg c TL) (clawstores : Callee P w K mg base CX0 (141) "_law_stores" ["_law_script"] (splawstores K)) (clawchange : Callee P w K mg base CX0 (141) "_law_change" ["_law_way", "_law_side", "_law_first", "_law_step"] (splchange P w K mg base TC)) (clawtrees : Callee P w K mg base CX0 (141) "_law_trees" ["_law_script", "_law_most"] (splawtrees K)) (cremade : Callee P w K mg base CX0 (141) "remade" ["tree", "change"] ((spremade P w K mg base) 66)) (creckoned : Callee P w K mg base CX0 (141) "reckoned" ["tree", "at", "stores"] (spreckoned 66)) (clawfrom : Callee P w K mg base CX0 (141) "_law_from" ["_law_way", "_law_side", "_law_first", "_law_step", "_law_at"] splfrom) (zint : mg "int" = none) (net : TC ≠ TL) : FnOk P w K mg base CX0 (142) f fd ["_law_script"] ((splawT K [TC, TL])) := by
  have sc := sclaw
  refine F.okT hcd sc (fun vs H Q E h => ?_) (fun A outer s H vs Q E hr h => ?_)
  · obtain ⟨a, ns, rfl, _⟩ := h; rfl
  obtain ⟨a, ns, rfl, hS, h63, hT, q⟩ := h
  have own : OwnCl (envOfC "law" (defScope slaw) s.heap.objs.size f (.ref c)).cells [] [] := ⟨rfl, fc0⟩
  refine ⟨_, (pss_cons (ps_set (i := 1) sc.nd rfl (by first | exact Or.inl rfl | exact Or.inr rfl) (pe_cal clawstores hr (by rfl) pass0 (pa_cons (pv 0) pa_nil))) (pss_cons (ps_set (i := 2) sc.nd rfl (by first | exact Or.inl rfl | exact Or.inr rfl) (pe_op op_catL (pe_comp0 (own := ["_law_cell"]) rfl (pi_list (pe_slice sl_list (pv 0) po_none (po_some pe_int))) (by decide) (by decide) rfl (by decide) (fun _ _ _ _ => (pg_name (i := 0) (show (["_law_cell"] : List Str).Nodup by decide +kernel) rfl (Or.inl rfl))) (fun _ _ _ _ => (pe_op op_mod (pv 0) (pe_op op_pow pe_int pe_int)))) (pe_lst (pa_cons pe_int (pa_cons pe_int (pa_cons pe_int pa_nil)))))) (pss_cons (ps_set (i := 3) sc.nd rfl (by first | exact Or.inl rfl | exact Or.inr rfl) (pe_op op_mod (pe_ix ix_listH (pv 2) pe_int (fun _ _ => rfl)) pe_int)) (pss_cons (ps_set (i := 4) sc.nd rfl (by first | exact Or.inl rfl | exact Or.inr rfl) (pe_op op_modN (pe_ix ix_listH (pv 2) pe_int (fun _ _ => rfl)) (pe_op op_add pe_int (pe_callTy call_int1 (by rfl) zint boot_int (pa_cons (pe_cmpR op_eq (pv 3) pe_int (nomark _)) pa_nil))))) (pss_cons (ps_set (i := 5) sc.nd rfl (by first | exact Or.inl rfl | exact Or.inr rfl) (pe_op op_mod (pe_ix ix_listH (pv 2) pe_int (fun _ _ => rfl)) pe_int)) (pss_cons (ps_set (i := 6) sc.nd rfl (by first | exact Or.inl rfl | exact Or.inr rfl) (pe_op op_add pe_int (pe_op op_mod (pe_op op_fdiv (pe_ix ix_listH (pv 2) pe_int (fun _ _ => rfl)) pe_int) pe_int))) (pss_cons (ps_set (i := 7) sc.nd rfl (by first | exact Or.inl rfl | exact Or.inr rfl) (pe_cal clawchange hr (by rfl) pass0 (pa_cons (pv 3) (pa_cons (pv 4) (pa_cons (pv 5) (pa_cons (pv 6) pa_nil)))))) (pss_cons (ps_for PassesOwn.never rfl (pi_list (pe_cal clawtrees hr (by rfl) pass0 (pa_cons (pv 0) (pa_cons pe_int pa_nil)))) (pg_name (i := 8) sc.nd rfl (Or.inl rfl)) (pss_cons (ps_set (i := 9) sc.nd rfl (by first | exact Or.inl rfl | exact Or.inr rfl) (pe_cal cremade hr (by rfl) pass0 (pa_cons (pv 8) (pa_cons (pv 7) pa_nil)))) (pss_cons (ps_if (pt_cmpR (op_neDD (hu120 hr)) (pe_cal cremade hr (by rfl) pass0 (pa_cons (pv 8) (pa_cons (pe_lam (qual := "law.<locals>.<lambda>") (fv := []) (cl := []) rfl rfl TF rfl rfl own) pa_nil))) (pv 8) (nomark _)) (pss_one (ps_ret pe_bl)) pss_nil) (pss_one (ps_for PassesOwn.never rfl (pi_list (pe_lst (pa_cons (pe_op op_mod (pe_ix ix_listH (pv 2) pe_int (fun _ _ => rfl)) pe_int) (pa_cons (pe_op op_mod (pe_op op_fdiv (pe_ix ix_listH (pv 2) pe_int (fun _ _ => rfl)) pe_int) pe_int) (pa_cons pe_int pa_nil))))) (pg_name (i := 10) sc.nd rfl (Or.inl rfl)) (pss_cons (ps_set (i := 11) sc.nd rfl (by first | exact Or.inl rfl | exact Or.inr rfl) (pe_tup (pa_cons (pe_op op_fdiv (pv 10) pe_int) (pa_cons (pe_op op_mod (pe_op op_fdiv (pv 10) pe_int) pe_int) (pa_cons (pe_op op_mod (pv 10) pe_int) pa_nil))))) (pss_cons (ps_if (pt_cmpR op_eq (pv 3) pe_int (nomark _)) (pss_one (ps_set (i := 11) sc.nd rfl (by first | exact Or.inl rfl | exact Or.inr rfl) (pe_op op_catS (pe_op op_catS (pe_slice sl_tupA (pv 11) po_none (po_some (pv 4))) (pe_tup (pa_cons (pe_op op_mod (pe_op op_modN (pe_ix ix_tupH (pv 11) (pv 4) (fun _ _ => rfl)) (pe_op op_sub (pe_op op_sub pe_int (pv 5)) (pe_callTy call_int1 (by rfl) zint boot_int (pa_cons (pe_cmpR op_eq (pv 6) pe_int (nomark _)) pa_nil)))) pe_int) pa_nil))) (pe_slice sl_tupA (pv 11) (po_some (pe_op op_add (pv 4) pe_int)) po_none)))) pss_nil) (pss_cons (ps_if (pt_cmpR op_eq (pv 3) pe_int (nomark _)) (pss_one (ps_set (i := 11) sc.nd rfl (by first | exact Or.inl rfl | exact Or.inr rfl) (pe_op op_catS (pe_op op_catS (pe_slice sl_tupA (pv 11) po_none (po_some (pv 4))) (pe_tup (pa_cons (pe_op op_mod (pv 10) pe_int) pa_nil))) (pe_slice sl_tupA (pv 11) (po_some (pv 4)) po_none)))) pss_nil) (pss_one (ps_if (pt_cmpR (op_neT hr.units0) (pe_cal creckoned hr (by rfl) pass0 (pa_cons (pv 9) (pa_cons (pv 11) (pa_cons (pv 1) pa_nil)))) (pe_cal creckoned hr (by rfl) pass0 (pa_cons (pv 8) (pa_cons (pe_cal clawfrom hr (by rfl) pass0 (pa_cons (pv 3) (pa_cons (pv 4) (pa_cons (pv 5) (pa_cons (pv 6) (pa_cons (pv 11) pa_nil)))))) (pa_cons (pv 1) pa_nil)))) (nomark _)) (pss_one (ps_ret pe_bl)) pss_nil)))))))))) (pss_one (ps_ret (pe_cmpR (op_eqD (hu20 hr)) (pv 1) (pe_cal clawstores hr (by rfl) pass0 (pa_cons (pv 0) pa_nil)) (nomark _)))))))))))), ?_⟩
  simp only [L2.start, List.length_cons, List.length_nil, List.replicate, List.cons_append, List.nil_append, Nat.reduceSub, Nat.reduceAdd, List.map_cons, List.map_nil]
  generalize (cxOf _ _ _ _ _ _ _ _ _ _ _ _ _ _ _ _).nox.env.cells = ec
  have tc0 : TabOk H TC ⟨225, 4, 234, 87⟩ "_law_change.<locals>._law_change_here" := ⟨#[], hT _ (by simp), trivial, .inl rfl⟩
  have tl0 : TabOk H TL ⟨255, 29, 255, 88⟩ "law.<locals>.<lambda>" := ⟨#[], hT _ (by simp), trivial, .inl rfl⟩
  refine seq_with (fun σ G => ∃ l S ps, Same H G ∧ G l = some (.lst (ps.map V.ref)) ∧ RowsL G l S ps ∧ SOk S ∧ S = storesF ns 3 ∧ σ = [some (.ref a), some (.ref l), none, none, none, none, none, none, none, none, none, none]) ?_ (fun R hR => ?_)
  rotate_left
  · wp_walk using tSeq, tIfS, splawstores
    exact ⟨ns, hS, h63, fun G l S ps s1 e1 rows so sf => hR _ _ ⟨l, S, ps, s1, e1, rows, so, sf, rfl⟩⟩
  rintro σ1 G1 ⟨l, S, ps, s1, hl, rows, so, sf, rfl⟩
  refine seq_with (fun σ G => ∃ (ca : Addr) (cs : List Int), Same G1 G ∧ G ca = some (.lst (cs.map V.int)) ∧ CsOk cs ∧ σ = [some (.ref a), some (.ref l), some (.ref ca), none, none, none, none, none, none, none, none, none]) ?_ (fun R hR => ?_)
  rotate_left
  · wp_walk using tSeq, tIfS, rSlL
    obtain ⟨ms, e8, m8⟩ := cut3 ns
    refine ⟨_, s1.seq hS, fun p hp => ?_⟩
    rw [e8]
    refine CompL.mk (xs := ms.map V.int) (.of upd_same) (fun i ys σ G => G = upd G1 p (.lst (ms.map V.int)) ∧ i ≤ ms.length ∧ ys = ((ms.take i).map (fun x => x % 1000000000)).map V.int ∧ ∃ y, σ = [y]) ⟨rfl, Nat.zero_le _, rfl, _, rfl⟩ (fun i ys σ G _ h => by rw [h.1]; exact .of upd_same) (fun i x ys σ G e h => ?_) (fun ys σ G h p1 hp1 => ?_)
    · obtain ⟨rfl, hi, rfl, y, rfl⟩ := h
      obtain ⟨m, rfl, hm⟩ := int_at e
      have il := (List.getElem?_eq_some_iff.mp hm).1
      have e1 : ((ms.take (i + 1)).map (fun x => x % 1000000000)).map V.int = ((ms.take i).map (fun x => x % 1000000000)).map V.int ++ [V.int (m % 1000000000)] := by rw [List.take_add_one, hm, List.map_append, List.map_append]; rfl
      refine ⟨by rw [List.length_map, List.length_map, List.length_take]; exact small1000 (by omega), ?_⟩
      wp_walk using tSeq, tIfS, e1
      exact ⟨il, _, rfl⟩
    · obtain ⟨rfl, hi, rfl, y, rfl⟩ := h
      rw [len_map, List.take_length]
      refine ⟨small (by decide), fun p2 hp2 => ⟨p1, rfl, _, .of (same_new hp2 _ _ _ upd_same), _, .of upd_same, small (by simp only [List.length_map, List.length_cons, List.length_nil]; omega), fun p3 hp3 => hR _ _ ⟨p3, ms.map (fun x => x % 1000000000) ++ [5, 7, 9], (same_new hp _).trans ((same_new hp1 _).trans ((same_new hp2 _).trans (same_new hp3 _))), by rw [upd_same, List.map_append]; rfl, ⟨by rw [List.length_append]; exact Nat.le_add_left .., fun x hx => ?_⟩, rfl⟩⟩⟩
      rcases List.mem_append.mp hx with hx | hx
      · obtain ⟨z, _, rfl⟩ := List.mem_map.mp hx
        show 0 ≤ z % 1000000000
        omega
      · simp only [List.mem_cons, List.not_mem_nil, or_false] at hx; omega
  rintro σ2 G2 ⟨ca, cs, s2, hca, cok, rfl⟩
  have c0 := getD_memI (k := 0) (show 0 < cs.length by have := cok.1; omega)
  have c1 := getD_memI (k := 1) (show 1 < cs.length by have := cok.1; omega)
  have c2 := getD_memI (k := 2) (show 2 < cs.length by have := cok.1; omega)
  have x0 := cok.2 _ c0
  have x1 := cok.2 _ c1
  have x2 := cok.2 _ c2
  have a0 : atI (cs.map V.int) 0 = some (.int (cs.getD 0 0)) := at_side (k := 0) (by have := cok.1; omega)
  have a1 : atI (cs.map V.int) 1 = some (.int (cs.getD 1 0)) := at_side (k := 1) (by have := cok.1; omega)
  have a2 : atI (cs.map V.int) 2 = some (.int (cs.getD 2 0)) := at_side (k := 2) (by have := cok.1; omega)
  generalize cs.getD 0 0 = y0 at *
  generalize cs.getD 1 0 = y1 at *
  generalize cs.getD 2 0 = y2 at *
  refine seq_with (fun σ G => G = G2 ∧ ∃ way : Int, 0 ≤ way ∧ way ≤ 3 ∧ σ = [some (.ref a), some (.ref l), some (.ref ca), some (.int way), none, none, none, none, none, none, none, none]) ?_ (fun R hR => ?_)
  rotate_left
  · wp_walk using tSeq, tIfS
    exact ⟨_, hca, _, a0, _, rfl, hR _ _ ⟨rfl, _, by omega, by omega, rfl⟩⟩
  rintro σ3 G3 ⟨rfl, way, w0, w3, rfl⟩
  refine seq_with (fun σ G => G = G3 ∧ ∃ side : Nat, side < 4 ∧ (¬ way = 3 → side < 3) ∧ σ = [some (.ref a), some (.ref l), some (.ref ca), some (.int way), some (.int (side : Int)), none, none, none, none, none, none, none]) ?_ (fun R hR => ?_)
  rotate_left
  · wp_walk using tSeq, tIfS
    refine ⟨_, hca, _, a1, .inr ⟨_, rfl, by split <;> omega, ?_⟩⟩
    have m1 : 0 < (3 + if way = 3 then (1 : Int) else 0) ∧ (3 + if way = 3 then (1 : Int) else 0) ≤ 4 ∧ (¬ way = 3 → (3 + if way = 3 then (1 : Int) else 0) = 3) := ⟨by split <;> omega, by split <;> omega, fun z => by rw [if_neg z]; rfl⟩
    generalize (3 + if way = 3 then (1 : Int) else 0) = mm at *
    have g0 := Int.fmod_nonneg_of_pos y1 m1.1
    have g1 := Int.fmod_lt_of_pos y1 m1.1
    obtain ⟨k, hk⟩ : ∃ k : Nat, y1.fmod mm = k := ⟨_, (Int.toNat_of_nonneg g0).symm⟩
    rw [hk] at g1 ⊢
    exact hR _ _ ⟨rfl, k, by omega, (fun z => by have := m1.2.2 z; omega), rfl⟩
  rintro σ4 G4 ⟨rfl, side, sd4, sd3, rfl⟩
  refine seq_with (fun σ G => G = G4 ∧ ∃ first : Int, 0 ≤ first ∧ first ≤ 1 ∧ σ = [some (.ref a), some (.ref l), some (.ref ca), some (.int way), some (.int (side : Int)), some (.int first), none, none, none, none, none, none]) ?_ (fun R hR => ?_)
  rotate_left
  · wp_walk using tSeq, tIfS
    exact ⟨_, hca, _, a2, _, rfl, hR _ _ ⟨rfl, _, by omega, by omega, rfl⟩⟩
  rintro σ5 G5 ⟨rfl, first, f0, f1, rfl⟩
  refine seq_with (fun σ G => G = G5 ∧ ∃ step : Int, 1 ≤ step ∧ step ≤ 2 ∧ σ = [some (.ref a), some (.ref l), some (.ref ca), some (.int way), some (.int (side : Int)), some (.int first), some (.int step), none, none, none, none, none]) ?_ (fun R hR => ?_)
  rotate_left
  · wp_walk using tSeq, tIfS
    exact ⟨_, hca, _, a2, _, rfl, hR _ _ ⟨rfl, _, by omega, by omega, rfl⟩⟩
  rintro σ6 G6 ⟨rfl, step, t0, t1, rfl⟩
  have s6 := s1.trans s2
  refine seq_with (fun σ G => ∃ (fa : Addr) (L : List Addr), SmP TC G6 G ∧ (∀ b ∈ L, ∃ o, G b = some o ∧ ∀ ps, o ≠ .tbl ps) ∧ (∀ H1, (∀ b ∈ L, ∀ o, G b = some o → H1 b = some o) → ChgH P w K mg base H1 fa (chgF way side first step)) ∧ σ = [some (.ref a), some (.ref l), some (.ref ca), some (.int way), some (.int (side : Int)), some (.int first), some (.int step), some (.ref fa), none, none, none, none]) ?_ (fun R hR => ?_)
  rotate_left
  · wp_walk using tSeq, tIfS, splchange
    exact ⟨side, rfl, tc0.same s6, sd4, f0, f1, t0, t1, fun H' fa L h1 h2 h3 h4 => hR _ _ ⟨fa, L, (fun b o n e => h4 b o n e), h1, h2, rfl⟩⟩
  rintro σ7 G7 ⟨fa, L, m7, lk, hch, rfl⟩
  have ht6 := tc0.same s6
  have tl7 : TabOk G7 TL ⟨255, 29, 255, 88⟩ "law.<locals>.<lambda>" := ⟨#[], m7 TL _ (Ne.symm net) (s6 _ _ (hT TL (by simp))), trivial, .inl rfl⟩
  have sm7 : SmT H G7 := (SmT.of s6).trans (m7.smT ht6)
  have hca7 := m7.keep ht6 (fun ps z => by cases z) hca
  have hl7 := m7.keep ht6 (fun ps z => by cases z) (s2 _ _ hl)
  refine seq_with (fun σ G => ∃ y8 y9 y10 y11 : Option V, SmP TL G7 G ∧ TabOk G TL ⟨255, 29, 255, 88⟩ "law.<locals>.<lambda>" ∧ σ = [some (.ref a), some (.ref l), some (.ref ca), some (.int way), some (.int (side : Int)), some (.int first), some (.int step), some (.ref fa), y8, y9, y10, y11]) ?_ (fun R hR => ?_)
  rotate_left
  · wp_walk using splawtrees
    refine ⟨ns, sm7.seq hS, h63, fun G0 tl ts pts s0 htl tes ok tsl => ?_⟩
    have tl0' := tl7.same s0
    have sm0 : SmT G7 G0 := SmT.of s0
    obtain ⟨J, hJ⟩ : ∃ J : Nat → L2.St → Hp → Prop, J = (fun i σ G => ∃ y8 y9 y10 y11 : Option V, SmP TL G0 G ∧ TabOk G TL ⟨255, 29, 255, 88⟩ "law.<locals>.<lambda>" ∧ σ = [some (.ref a), some (.ref l), some (.ref ca), some (.int way), some (.int (side : Int)), some (.int first), some (.int step), some (.ref fa), y8, y9, y10, y11]) := ⟨_, rfl⟩
    refine LoopL.mk (xs := pts.map V.ref) (.of htl) J (by rw [hJ]; exact ⟨_, _, _, _, (fun b o _ e => e), tl0', rfl⟩) (fun i σ G _ h => by rw [hJ] at h; obtain ⟨_, _, _, _, m, _⟩ := h; exact .of ((m.smT tl0').lst htl)) (fun i x σ G e h => ?_) (fun σ G h => ?_)
    rotate_left
    · rw [hJ] at h
      obtain ⟨y8, y9, y10, y11, m, t, rfl⟩ := h
      exact hR _ _ ⟨_, _, _, _, (SmP.of s0).trans m, t, rfl⟩
    clear hR
    rw [hJ] at h
    obtain ⟨y8, y9, y10, y11, m, tlG, rfl⟩ := h
    have il : i < pts.length := by have := (List.getElem?_eq_some_iff.mp e).1; rwa [List.length_map] at this
    have et : ts[i]? = some (ts[i]'(by rw [← tes.1]; exact il)) := List.getElem?_eq_getElem _
    generalize ts[i]'(by rw [← tes.1]; exact il) = t at et
    obtain ⟨pt, ept, ht0⟩ := tes.2 i t et
    have ex : x = V.ref pt := by rw [List.getElem?_map, ept] at e; exact (Option.some.inj e).symm
    subst ex
    obtain ⟨sz, wf, op⟩ := ok t (List.mem_of_getElem? et)
    have wf : WfT 3 t := wf
    have op : openT t + 0 ≤ 2 := op
    have smG := m.smT tl0'
    have ht := te_sm ht0 smG
    have dt : depthT (trOf t) ≤ 65 := by have := depth_size (trOf t); unfold sizeE at sz; omega
    have hc : ChgH P w K mg base G fa (chgF way side first step) := hch G fun b hb o e => by
      obtain ⟨o', e', n⟩ := lk b hb
      rw [e] at e'; cases e'
      exact (sm0.trans smG) b o n e
    simp only [gName, List.set_cons_succ, List.set_cons_zero]
    refine seq_with (fun σ G' => Same G G' ∧ ∃ mv, TeAt G' (chgT (chgF way side first step) t) mv ∧ σ = [some (.ref a), some (.ref l), some (.ref ca), some (.int way), some (.int (side : Int)), some (.int first), some (.int step), some (.ref fa), some (.ref pt), some (.ref mv), y10, y11]) ?_ (fun R hR => ?_)
    rotate_left
    · wp_walk using tSeq, tIfS, spremade
      exact ⟨t, ht, 3, wf, Nat.le_refl _, by omega, dt, _, hc, fun G' r u h => hR _ _ ⟨u, r, h, rfl⟩⟩
    rintro σa Ga ⟨ua, mv, hmv, rfl⟩
    refine seq_with (fun σ G' => SmP TL Ga G' ∧ TabOk G' TL ⟨255, 29, 255, 88⟩ "law.<locals>.<lambda>" ∧ σ = [some (.ref a), some (.ref l), some (.ref ca), some (.int way), some (.int (side : Int)), some (.int first), some (.int step), some (.ref fa), some (.ref pt), some (.ref mv), y10, y11]) ?_ (fun R hR => ?_)
    rotate_left
    · wp_walk using tSeq, tIfS, spremade
      refine ⟨tlG.same ua, fun f2 c' cl H2 o1 n1 hf2 hc2 ht2 up2 => ?_⟩
      have cl0 : cl = [] := List.map_eq_nil_iff.mp o1.1
      subst cl0
      have sm2 : SmT Ga H2 := SmP.smT (T := TL) (fun b o n e => up2 b o n e) (tlG.same ua)
      have idc : ChgH P w K mg base H2 f2 (fun s st => (s, st)) := by
        refine ⟨FnV.lam hf2, fun s0 st H1 p Q' u hp l3 l5 sx hq => ?_⟩
        have cel : CelAt H1 [] [] := ⟨rfl, (fun i q e => nomatch e), .nil⟩
        refine lam_run (k := 5) (N := ["_law_start", "_law_strides"]) (ps := ["_law_start", "_law_strides"]) (fv := []) (vs := [V.int s0, V.ref p]) (vcs := []) ⟨rfl, rfl, rfl, by decide +kernel, rfl, fc (.inl rfl) (fc (.inl rfl) fc0), fc0, by decide +kernel, by decide +kernel⟩ rfl (fun pm ctv us hl => by match us, hl with | [u, u'], _ => rfl) rfl (u _ _ hf2) (u _ _ hc2) cel (fun A outer s hr => pe_tup (pa_cons (pv 0) (pa_cons (pv 1) pa_nil))) ?_
        wp_walk using tSeq, tIfS
        exact ⟨small (by decide), fun r hr => hq _ r p (same_res (same_new hr _)) (res_tup (fun q hq => nomatch hq) upd_same) (res_tup (fun q hq => nomatch hq) (same_new hr _ _ _ (min_tup cel hp)))⟩
      have ht2' := te_sm (ht.same ua) sm2
      refine ⟨t, ht2', 3, wf, Nat.le_refl _, by omega, dt, _, idc, fun H' r u h => ⟨⟨_, rfl⟩, ?_, hR _ _ ⟨(fun b o n e => u _ _ (up2 b o n e)), ht2.same u, rfl⟩⟩⟩
      rw [chg_id] at h
      have al := te_alk (d := 99 - depthT (trOf t)) h (ht2'.same u)
      rwa [show 99 - depthT (trOf t) + depthT (trOf t) + 2 = 101 by omega] at al
    rintro σb Gb ⟨mb, tlb, rfl⟩
    have tla := tlG.same ua
    have smb := mb.smT tla
    wp_walk using rPopAt
    have smAll := sm0.trans (smG.trans ((SmT.of ua).trans smb))
    have hcaG := smAll.lst hca7
    have htb := te_sm (ht.same ua) smb
    have hmvb := te_sm hmv smb
    have stb : StAt Gb l S := ⟨ps, .inl (smAll.lst hl7), rows.1, fun i r e => let ⟨p, e1, _, g⟩ := rows.2 i r e; ⟨p, e1, .inl ((((SmT.of s2).trans (m7.smT ht6)).trans smAll).lst g)⟩⟩
    refine ⟨_, hcaG, _, a2, _, rfl, _, hcaG, _, a1, _, rfl, small (by decide), fun kl hkl => ?_⟩
    obtain ⟨J2, hJ2⟩ : ∃ J2 : Nat → L2.St → Hp → Prop, J2 = (fun j σ G => ∃ y10 y11 : Option V, Same Gb G ∧ G kl = some (.lst [V.int (y2 % 27), V.int (y1 / 3 % 27), V.int 13]) ∧ σ = [some (.ref a), some (.ref l), some (.ref ca), some (.int way), some (.int (side : Int)), some (.int first), some (.int step), some (.ref fa), some (.ref pt), some (.ref mv), y10, y11]) := ⟨_, rfl⟩
    refine LoopL.mk (xs := [V.int (y2 % 27), V.int (y1 / 3 % 27), V.int 13]) (.of upd_same) J2 (by rw [hJ2]; exact ⟨_, _, same_new hkl _, upd_same, rfl⟩) (fun j σ G _ h => by rw [hJ2] at h; obtain ⟨_, _, _, g, _⟩ := h; exact .of g) (fun j x σ Gc e h => ?_) (fun σ Gc h => ?_)
    rotate_left
    · rw [hJ2] at h
      obtain ⟨y10, y11, uc, _, rfl⟩ := h
      rw [hJ]
      exact ⟨_, _, _, _, m.trans ((SmP.of ua).trans (mb.trans (SmP.of uc))), tlb.same uc, rfl⟩
    rw [hJ2] at h
    obtain ⟨y10, y11, uc, gk, rfl⟩ := h
    obtain ⟨kk, rfl, k0, k27⟩ : ∃ kk : Int, x = .int kk ∧ 0 ≤ kk ∧ kk < 27 := by
      match j, e with
      | 0, e => cases e; exact ⟨_, rfl, by omega, by omega⟩
      | 1, e => cases e; exact ⟨_, rfl, by omega, by omega⟩
      | 2, e => cases e; exact ⟨_, rfl, by decide, by decide⟩
    simp only [gName, List.set_cons_succ, List.set_cons_zero]
    refine seq_with (fun σ G' => Same Gc G' ∧ ∃ (pc : Addr) (u v z : Int), G' pc = some (.tup ([u, v, z].map V.int)) ∧ (0 ≤ u ∧ u ≤ 2) ∧ (0 ≤ v ∧ v ≤ 2) ∧ (0 ≤ z ∧ z ≤ 2) ∧ σ = [some (.ref a), some (.ref l), some (.ref ca), some (.int way), some (.int (side : Int)), some (.int first), some (.int step), some (.ref fa), some (.ref pt), some (.ref mv), some (.int kk), some (.ref pc)]) ?_ (fun R hR => ?_)
    rotate_left
    · wp_walk using tSeq, tIfS
      exact ⟨small (by decide), fun pc hpc => hR _ _ ⟨same_new hpc _, pc, kk / 9, kk / 3 % 3, kk % 3, upd_same, by omega, by omega, by omega, rfl⟩⟩
    rintro σc G1c ⟨u1, pc, u, v, z, hpc, hu, hv, hz, rfl⟩
    refine seq_with (fun σ G' => Same G1c G' ∧ ∃ (pc : Addr) (u v z : Int), G' pc = some (.tup ([u, v, z].map V.int)) ∧ (0 ≤ u ∧ u ≤ 2) ∧ (0 ≤ v ∧ v ≤ 2) ∧ (0 ≤ z ∧ z ≤ 2) ∧ (way = 2 → first + step * [u, v, z].getD side 0 ≤ 2) ∧ σ = [some (.ref a), some (.ref l), some (.ref ca), some (.int way), some (.int (side : Int)), some (.int first), some (.int step), some (.ref fa), some (.ref pt), some (.ref mv), some (.int kk), some (.ref pc)]) ?_ (fun R hR => ?_)
    rotate_left
    · wp_walk using tSeq, tIfS
      by_cases w2 : way = 2
      rotate_left
      · rw [if_neg w2]
        exact hR _ _ ⟨Same.refl _, pc, u, v, z, hpc, hu, hv, hz, (fun h => absurd h w2), rfl⟩
      rw [if_pos w2]
      have sd : side < 3 := sd3 (by omega)
      have kl3 : side < [u, v, z].length := sd
      have M1 : 1 ≤ (3 - first - if step = 2 then (1 : Int) else 0) ∧ (step = 2 → (3 - first - if step = 2 then (1 : Int) else 0) = 2 - first) := ⟨by split <;> omega, fun h => by rw [if_pos h]; omega⟩
      have g0 := Int.fmod_nonneg_of_pos ([u, v, z].getD side 0) (show 0 < (3 - first - if step = 2 then (1 : Int) else 0) by omega)
      have g1 := Int.fmod_lt_of_pos ([u, v, z].getD side 0) (show 0 < (3 - first - if step = 2 then (1 : Int) else 0) by omega)
      refine ⟨_, hpc, fun r1 A1 v1 h1 => ⟨_, v1 _ _ hpc, _, at_side kl3, .inr ⟨_, rfl, by omega, small (by decide), fun p1 hp1 => ?_⟩⟩⟩
      rw [cut_any] at h1
      generalize (3 - first - if step = 2 then (1 : Int) else 0) = M at *
      generalize ([u, v, z].getD side 0).fmod M = fm at *
      obtain ⟨y, hy⟩ : ∃ y, fm % 2 = y := ⟨_, rfl⟩
      rw [hy]
      have yb : 0 ≤ y ∧ y ≤ 1 ∧ first + step * y ≤ 2 := by
        refine ⟨by omega, by omega, ?_⟩
        rcases (show step = 1 ∨ step = 2 by omega) with rfl | rfl
        · omega
        · have := M1.2 rfl; omega
      refine ⟨_, same_new hp1 _ _ _ h1, small (by simp only [List.length_map, List.length_take]; omega), fun r2 A2 v2 h2 => ⟨_, v2 _ _ (same_new hp1 _ _ _ (v1 _ _ hpc)), fun r3 A3 v3 h3 => ?_⟩⟩
      rw [show (side : Int) + 1 = ((side + 1 : Nat) : Int) by omega, cut_anyH] at h3
      refine ⟨_, v3 _ _ h2, _, h3, small (by simp only [List.length_append, List.length_map, List.length_take, List.length_drop, List.length_cons, List.length_nil]; omega), fun r4 A4 v4 h4 => ?_⟩
      have h5 : A4 r4 = some (.tup (([u, v, z].set side y).map V.int)) := by rw [h4, ← set_mid kl3, List.map_append, List.map_append]; rfl
      have sA := v1.trans ((same_new hp1 (.tup [V.int y])).trans (v2.trans (v3.trans v4)))
      clear h1 h2 h3 h4
      rcases (show side = 0 ∨ side = 1 ∨ side = 2 by omega) with rfl | rfl | rfl
      · exact hR _ _ ⟨sA, r4, y, v, z, h5, by omega, hv, hz, (fun _ => yb.2.2), rfl⟩
      · exact hR _ _ ⟨sA, r4, u, y, z, h5, hu, by omega, hz, (fun _ => yb.2.2), rfl⟩
      · exact hR _ _ ⟨sA, r4, u, v, y, h5, hu, hv, by omega, (fun _ => yb.2.2), rfl⟩
    rintro σd G2c ⟨u2, pc, u, v, z, hpc, hu, hv, hz, hw2, rfl⟩
    refine seq_with (fun σ G' => Same G2c G' ∧ ∃ (pc : Addr) (c : List Int), G' pc = some (.tup (c.map V.int)) ∧ AtOK way side first step c ∧ σ = [some (.ref a), some (.ref l), some (.ref ca), some (.int way), some (.int (side : Int)), some (.int first), some (.int step), some (.ref fa), some (.ref pt), some (.ref mv), some (.int kk), some (.ref pc)]) ?_ (fun R hR => ?_)
    rotate_left
    · wp_walk using tSeq, tIfS
      by_cases w3' : way = 3
      rotate_left
      · rw [if_neg w3']
        exact hR _ _ ⟨Same.refl _, pc, [u, v, z], hpc, at_done w0 w3 w3' (sd3 w3') hu hv hz f0 t0 hw2, rfl⟩
      rw [if_pos w3']
      refine ⟨_, hpc, fun r1 A1 v1 h1 => ⟨small (by decide), fun p1 hp1 => ?_⟩⟩
      rw [cut_any] at h1
      refine ⟨_, same_new hp1 _ _ _ h1, small (by simp only [List.length_map, List.length_take]; omega), fun r2 A2 v2 h2 => ⟨_, v2 _ _ (same_new hp1 _ _ _ (v1 _ _ hpc)), fun r3 A3 v3 h3 => ?_⟩⟩
      rw [cut_anyH] at h3
      exact ⟨_, v3 _ _ h2, _, h3, small (by simp only [List.length_append, List.length_map, List.length_take, List.length_drop, List.length_cons, List.length_nil]; omega), fun r4 A4 v4 h4 => hR _ _ ⟨v1.trans ((same_new hp1 _).trans (v2.trans (v3.trans v4))), r4, [u, v, z].take side ++ [kk % 5] ++ [u, v, z].drop side, by rw [h4, List.map_append, List.map_append]; rfl, by rw [w3']; exact at_done3 sd4 hu hv hz (by omega), rfl⟩⟩
    rintro σe G3c ⟨u3, pc, c, hpc, aok, rfl⟩
    have u4 := uc.trans (u1.trans (u2.trans u3))
    obtain ⟨L1, ao, co, cl3, cl4⟩ := aok
    have fin0 : FinT S t (fromF way side first step c) := fin_of wf ao (by omega)
    have finc := fin_chg L1 fin0
    have ev := ev_chg L1 fin0
    have cf : cOk (fromF way side first step c) := fun x hx => by have := ao.2 x hx; omega
    wp_walk using tSeq, tIfS, spreckoned, splfrom
    refine ⟨_, hmvb.same u4, S, c, finc, by rw [tr_chg]; exact dt, by rw [open_chg]; omega, co, hpc, stb.same u4, so, fun A1 p1 v1 h1 => ⟨side, rfl, c, v1 _ _ hpc, cl3, cl4, sd4, by omega, t1, fun A2 r2 v2 h2 => ?_⟩⟩
    have u5 := u4.trans (v1.trans v2)
    refine ⟨_, htb.same u5, S, _, fin0, dt, by rw [ao.1]; omega, cf, h2, stb.same u5, so, fun A3 p3 v3 h3 => ?_⟩
    rw [ev] at h1
    generalize (evT S t (fromF way side first step c)).1 = n1 at *
    generalize (evT S t (fromF way side first step c)).2 = n2 at *
    refine ⟨_, .of ((v2.trans v3) _ _ h1), _, .of h3, rfl, rfl, ?_⟩
    rw [show [V.int n1, V.int n2] = [n1, n2].map V.int from rfl, eqVs_dec, decide_eq_true rfl, if_neg (by decide), hJ2]
    exact ⟨_, _, u5.trans v3, (u1.trans (u2.trans (u3.trans (v1.trans (v2.trans v3))))) _ _ gk, rfl⟩
  rintro σ8 G8 ⟨y8, y9, y10, y11, m8, tl8, rfl⟩
  wp_walk using tSeq, tIfS, splawstores
  have sm8 := m8.smT tl7
  refine ⟨ns, (sm7.trans sm8).seq hS, h63, fun H' l1 S' ps' u e1 rows' so' sf' => ⟨⟨_, rfl⟩, ?_, q _⟩⟩
  have sm1 : SmT G1 H' := ((SmT.of s2).trans (m7.smT ht6)).trans (sm8.trans (SmT.of u))
  rw [sf'] at rows'
  rw [sf] at rows
  exact rows_alk (rows_sm (rows_x rows) sm1) (rows_x rows') (sm1 _ _ (fun ps z => by cases z) hl) e1
end
theorem us_len1 {α : Type} {us : List α} (h : us.length = 1) : ∃ x0, us = [x0] := by
  match us, h with
  | [x0], _ => exact ⟨_, rfl⟩
theorem us_len2 {α : Type} {us : List α} (h : us.length = 2) : ∃ x0 x1, us = [x0, x1] := by
  match us, h with
  | [x0, x1], _ => exact ⟨_, _, rfl⟩
theorem us_len3 {α : Type} {us : List α} (h : us.length = 3) : ∃ x0 x1 x2, us = [x0, x1, x2] := by
  match us, h with
  | [x0, x1, x2], _ => exact ⟨_, _, _, rfl⟩
theorem us_len4 {α : Type} {us : List α} (h : us.length = 4) : ∃ x0 x1 x2 x3, us = [x0, x1, x2, x3] := by
  match us, h with
  | [x0, x1, x2, x3], _ => exact ⟨_, _, _, _, rfl⟩
theorem us_len5 {α : Type} {us : List α} (h : us.length = 5) : ∃ x0 x1 x2 x3 x4, us = [x0, x1, x2, x3, x4] := by
  match us, h with
  | [x0, x1, x2, x3, x4], _ => exact ⟨_, _, _, _, _, rfl⟩
theorem all_mk {l : PySem.W.OpenLaw} {w : World} {K : PySem.W.Frag} {h : Heap} {mg : Str → Option Value} {TC TL : Addr} {fa f0 f1 f2 f3 f4 f5 f6 f7 f8 f9 f10 f11 f12 f13 f14 f15 f16 f17 f18 f19 f20 f21 f22 f23 f24 f25 f26 f27 : Addr} (X : K.In h) (G : h.Ns mainGlobals mg) (hfa : mg "law" = some (.ref fa))
    {od0 an0 od1 an1 od2 an2 od3 an3 od4 an4 od5 an5 od6 an6 od7 an7 od8 an8 od9 an9 od10 an10 od11 an11 od12 an12 od13 an13 od14 an14 od15 an15 od16 an16 od17 an17 od18 an18 od19 an19 od20 an20 od21 an21 od22 an22 od23 an23 od24 an24 od25 an25 od26 an26 od27 an27 : Option Addr} {sl0 sl1 sl2 sl3 sl4 sl5 sl6 sl7 sl8 sl9 sl10 sl11 sl12 sl13 sl14 sl15 sl16 sl17 sl18 sl19 sl20 sl21 sl22 sl23 sl24 sl25 sl26 sl27 : Array (Option Value)} {oc0 kV0 dc0 pm0 ct0 cd0 oc1 kV1 dc1 pm1 ct1 cd1 oc2 kV2 dc2 pm2 ct2 cd2 oc3 kV3 dc3 pm3 ct3 cd3 oc4 kV4 dc4 pm4 ct4 cd4 oc5 kV5 dc5 pm5 ct5 cd5 oc6 kV6 dc6 pm6 ct6 cd6 oc7 kV7 dc7 pm7 ct7 cd7 oc8 kV8 dc8 pm8 ct8 cd8 oc9 kV9 dc9 pm9 ct9 cd9 oc10 kV10 dc10 pm10 ct10 cd10 oc11 kV11 dc11 pm11 ct11 cd11 oc12 kV12 dc12 pm12 ct12 cd12 oc13 kV13 dc13 pm13 ct13 cd13 oc14 kV14 dc14 pm14 ct14 cd14 oc15 kV15 dc15 pm15 ct15 cd15 oc16 kV16 dc16 pm16 ct16 cd16 oc17 kV17 dc17 pm17 ct17 cd17 oc18 kV18 dc18 pm18 ct18 cd18 oc19 kV19 dc19 pm19 ct19 cd19 oc20 kV20 dc20 pm20 ct20 cd20 oc21 kV21 dc21 pm21 ct21 cd21 oc22 kV22 dc22 pm22 ct22 cd22 oc23 kV23 dc23 pm23 ct23 cd23 oc24 kV24 dc24 pm24 ct24 cd24 oc25 kV25 dc25 pm25 ct25 oc26 kV26 dc26 pm26 ct26 cd26 oc27 kV27 dc27 pm27 ct27 : Value}
    (a0 : PySem.W.nsIn K mainGlobals "spot_of" = some (some (.ref f0))) (l0 : K.lookup f0 = some ⟨oc0, od0, .func (PySem.W.fnOf "spot_of" "spot_of" (defArgs sspotof) (defBody sspotof) (defScope sspotof) .none kV0 dc0 pm0 an0 cd0 ct0), sl0⟩) (q0 : PySem.W.codeIn K cd0 "spot_of" = true) (k0 : PySem.W.keepIn K (.ref f0) = true)
    (a1 : PySem.W.nsIn K mainGlobals "tree_spot" = some (some (.ref f1))) (l1 : K.lookup f1 = some ⟨oc1, od1, .func (PySem.W.fnOf "tree_spot" "tree_spot" (defArgs streespot) (defBody streespot) (defScope streespot) .none kV1 dc1 pm1 an1 cd1 ct1), sl1⟩) (q1 : PySem.W.codeIn K cd1 "tree_spot" = true) (k1 : PySem.W.keepIn K (.ref f1) = true)
    (a2 : PySem.W.nsIn K mainGlobals "taken" = some (some (.ref f2))) (l2 : K.lookup f2 = some ⟨oc2, od2, .func (PySem.W.fnOf "taken" "taken" (defArgs staken) (defBody staken) (defScope staken) .none kV2 dc2 pm2 an2 cd2 ct2), sl2⟩) (q2 : PySem.W.codeIn K cd2 "taken" = true) (k2 : PySem.W.keepIn K (.ref f2) = true)
    (a3 : PySem.W.nsIn K mainGlobals "is_free" = some (some (.ref f3))) (l3 : K.lookup f3 = some ⟨oc3, od3, .func (PySem.W.fnOf "is_free" "is_free" (defArgs sisfree) (defBody sisfree) (defScope sisfree) .none kV3 dc3 pm3 an3 cd3 ct3), sl3⟩) (q3 : PySem.W.codeIn K cd3 "is_free" = true) (k3 : PySem.W.keepIn K (.ref f3) = true)
    (a4 : PySem.W.nsIn K mainGlobals "branches_of" = some (some (.ref f4))) (l4 : K.lookup f4 = some ⟨oc4, od4, .func (PySem.W.fnOf "branches_of" "branches_of" (defArgs sbranchesof) (defBody sbranchesof) (defScope sbranchesof) .none kV4 dc4 pm4 an4 cd4 ct4), sl4⟩) (q4 : PySem.W.codeIn K cd4 "branches_of" = true) (k4 : PySem.W.keepIn K (.ref f4) = true)
    (a5 : PySem.W.nsIn K mainGlobals "wrapped" = some (some (.ref f5))) (l5 : K.lookup f5 = some ⟨oc5, od5, .func (PySem.W.fnOf "wrapped" "wrapped" (defArgs swrapped) (defBody swrapped) (defScope swrapped) .none kV5 dc5 pm5 an5 cd5 ct5), sl5⟩) (q5 : PySem.W.codeIn K cd5 "wrapped" = true) (k5 : PySem.W.keepIn K (.ref f5) = true)
    (a6 : PySem.W.nsIn K mainGlobals "sign_of" = some (some (.ref f6))) (l6 : K.lookup f6 = some ⟨oc6, od6, .func (PySem.W.fnOf "sign_of" "sign_of" (defArgs ssignof) (defBody ssignof) (defScope ssignof) .none kV6 dc6 pm6 an6 cd6 ct6), sl6⟩) (q6 : PySem.W.codeIn K cd6 "sign_of" = true) (k6 : PySem.W.keepIn K (.ref f6) = true)
    (a7 : PySem.W.nsIn K mainGlobals "quotient" = some (some (.ref f7))) (l7 : K.lookup f7 = some ⟨oc7, od7, .func (PySem.W.fnOf "quotient" "quotient" (defArgs squotient) (defBody squotient) (defScope squotient) .none kV7 dc7 pm7 an7 cd7 ct7), sl7⟩) (q7 : PySem.W.codeIn K cd7 "quotient" = true) (k7 : PySem.W.keepIn K (.ref f7) = true)
    (a8 : PySem.W.nsIn K mainGlobals "remainder" = some (some (.ref f8))) (l8 : K.lookup f8 = some ⟨oc8, od8, .func (PySem.W.fnOf "remainder" "remainder" (defArgs sremainder) (defBody sremainder) (defScope sremainder) .none kV8 dc8 pm8 an8 cd8 ct8), sl8⟩) (q8 : PySem.W.codeIn K cd8 "remainder" = true) (k8 : PySem.W.keepIn K (.ref f8) = true)
    (a9 : PySem.W.nsIn K mainGlobals "once" = some (some (.ref f9))) (l9 : K.lookup f9 = some ⟨oc9, od9, .func (PySem.W.fnOf "once" "once" (defArgs sonce) (defBody sonce) (defScope sonce) .none kV9 dc9 pm9 an9 cd9 ct9), sl9⟩) (q9 : PySem.W.codeIn K cd9 "once" = true) (k9 : PySem.W.keepIn K (.ref f9) = true)
    (a10 : PySem.W.nsIn K mainGlobals "twice" = some (some (.ref f10))) (l10 : K.lookup f10 = some ⟨oc10, od10, .func (PySem.W.fnOf "twice" "twice" (defArgs stwice) (defBody stwice) (defScope stwice) .none kV10 dc10 pm10 an10 cd10 ct10), sl10⟩) (q10 : PySem.W.codeIn K cd10 "twice" = true) (k10 : PySem.W.keepIn K (.ref f10) = true)
    (a11 : PySem.W.nsIn K mainGlobals "neutral" = some (some (.ref f11))) (l11 : K.lookup f11 = some ⟨oc11, od11, .func (PySem.W.fnOf "neutral" "neutral" (defArgs sneutral) (defBody sneutral) (defScope sneutral) .none kV11 dc11 pm11 an11 cd11 ct11), sl11⟩) (q11 : PySem.W.codeIn K cd11 "neutral" = true) (k11 : PySem.W.keepIn K (.ref f11) = true)
    (a12 : PySem.W.nsIn K mainGlobals "free_number" = some (some (.ref f12))) (l12 : K.lookup f12 = some ⟨oc12, od12, .func (PySem.W.fnOf "free_number" "free_number" (defArgs sfreenumber) (defBody sfreenumber) (defScope sfreenumber) .none kV12 dc12 pm12 an12 cd12 ct12), sl12⟩) (q12 : PySem.W.codeIn K cd12 "free_number" = true) (k12 : PySem.W.keepIn K (.ref f12) = true)
    (a13 : PySem.W.nsIn K mainGlobals "put_together" = some (some (.ref f13))) (l13 : K.lookup f13 = some ⟨oc13, od13, .func (PySem.W.fnOf "put_together" "put_together" (defArgs sputtogether) (defBody sputtogether) (defScope sputtogether) .none kV13 dc13 pm13 an13 cd13 ct13), sl13⟩) (q13 : PySem.W.codeIn K cd13 "put_together" = true) (k13 : PySem.W.keepIn K (.ref f13) = true)
    (a14 : PySem.W.nsIn K mainGlobals "folded" = some (some (.ref f14))) (l14 : K.lookup f14 = some ⟨oc14, od14, .func (PySem.W.fnOf "folded" "folded" (defArgs sfolded) (defBody sfolded) (defScope sfolded) .none kV14 dc14 pm14 an14 cd14 ct14), sl14⟩) (q14 : PySem.W.codeIn K cd14 "folded" = true) (k14 : PySem.W.keepIn K (.ref f14) = true)
    (a15 : PySem.W.nsIn K mainGlobals "reckoned" = some (some (.ref f15))) (l15 : K.lookup f15 = some ⟨oc15, od15, .func (PySem.W.fnOf "reckoned" "reckoned" (defArgs sreckoned) (defBody sreckoned) (defScope sreckoned) .none kV15 dc15 pm15 an15 cd15 ct15), sl15⟩) (q15 : PySem.W.codeIn K cd15 "reckoned" = true) (k15 : PySem.W.keepIn K (.ref f15) = true)
    (a16 : PySem.W.nsIn K mainGlobals "root_remade" = some (some (.ref f16))) (l16 : K.lookup f16 = some ⟨oc16, od16, .func (PySem.W.fnOf "root_remade" "root_remade" (defArgs srootremade) (defBody srootremade) (defScope srootremade) .none kV16 dc16 pm16 an16 cd16 ct16), sl16⟩) (q16 : PySem.W.codeIn K cd16 "root_remade" = true) (k16 : PySem.W.keepIn K (.ref f16) = true)
    (a17 : PySem.W.nsIn K mainGlobals "remade" = some (some (.ref f17))) (l17 : K.lookup f17 = some ⟨oc17, od17, .func (PySem.W.fnOf "remade" "remade" (defArgs sremade) (defBody sremade) (defScope sremade) .none kV17 dc17 pm17 an17 cd17 ct17), sl17⟩) (q17 : PySem.W.codeIn K cd17 "remade" = true) (k17 : PySem.W.keepIn K (.ref f17) = true)
    (a18 : PySem.W.nsIn K mainGlobals "_law_leaf" = some (some (.ref f18))) (l18 : K.lookup f18 = some ⟨oc18, od18, .func (PySem.W.fnOf "_law_leaf" "_law_leaf" (defArgs slawleaf) (defBody slawleaf) (defScope slawleaf) .none kV18 dc18 pm18 an18 cd18 ct18), sl18⟩) (q18 : PySem.W.codeIn K cd18 "_law_leaf" = true) (k18 : PySem.W.keepIn K (.ref f18) = true)
    (a19 : PySem.W.nsIn K mainGlobals "_law_fold_word" = some (some (.ref f19))) (l19 : K.lookup f19 = some ⟨oc19, od19, .func (PySem.W.fnOf "_law_fold_word" "_law_fold_word" (defArgs slawfoldword) (defBody slawfoldword) (defScope slawfoldword) .none kV19 dc19 pm19 an19 cd19 ct19), sl19⟩) (q19 : PySem.W.codeIn K cd19 "_law_fold_word" = true) (k19 : PySem.W.keepIn K (.ref f19) = true)
    (a20 : PySem.W.nsIn K mainGlobals "_law_pair_word" = some (some (.ref f20))) (l20 : K.lookup f20 = some ⟨oc20, od20, .func (PySem.W.fnOf "_law_pair_word" "_law_pair_word" (defArgs slawpairword) (defBody slawpairword) (defScope slawpairword) .none kV20 dc20 pm20 an20 cd20 ct20), sl20⟩) (q20 : PySem.W.codeIn K cd20 "_law_pair_word" = true) (k20 : PySem.W.keepIn K (.ref f20) = true)
    (a21 : PySem.W.nsIn K mainGlobals "_law_upon" = some (some (.ref f21))) (l21 : K.lookup f21 = some ⟨oc21, od21, .func (PySem.W.fnOf "_law_upon" "_law_upon" (defArgs slawupon) (defBody slawupon) (defScope slawupon) .none kV21 dc21 pm21 an21 cd21 ct21), sl21⟩) (q21 : PySem.W.codeIn K cd21 "_law_upon" = true) (k21 : PySem.W.keepIn K (.ref f21) = true)
    (a22 : PySem.W.nsIn K mainGlobals "_law_deed" = some (some (.ref f22))) (l22 : K.lookup f22 = some ⟨oc22, od22, .func (PySem.W.fnOf "_law_deed" "_law_deed" (defArgs slawdeed) (defBody slawdeed) (defScope slawdeed) .none kV22 dc22 pm22 an22 cd22 ct22), sl22⟩) (q22 : PySem.W.codeIn K cd22 "_law_deed" = true) (k22 : PySem.W.keepIn K (.ref f22) = true)
    (a23 : PySem.W.nsIn K mainGlobals "_law_trees" = some (some (.ref f23))) (l23 : K.lookup f23 = some ⟨oc23, od23, .func (PySem.W.fnOf "_law_trees" "_law_trees" (defArgs slawtrees) (defBody slawtrees) (defScope slawtrees) .none kV23 dc23 pm23 an23 cd23 ct23), sl23⟩) (q23 : PySem.W.codeIn K cd23 "_law_trees" = true) (k23 : PySem.W.keepIn K (.ref f23) = true)
    (a24 : PySem.W.nsIn K mainGlobals "_law_stores" = some (some (.ref f24))) (l24 : K.lookup f24 = some ⟨oc24, od24, .func (PySem.W.fnOf "_law_stores" "_law_stores" (defArgs slawstores) (defBody slawstores) (defScope slawstores) .none kV24 dc24 pm24 an24 cd24 ct24), sl24⟩) (q24 : PySem.W.codeIn K cd24 "_law_stores" = true) (k24 : PySem.W.keepIn K (.ref f24) = true)
    {c25 : Addr}
    (a25 : PySem.W.nsIn K mainGlobals "_law_change" = some (some (.ref f25))) (l25 : K.lookup f25 = some ⟨oc25, od25, .func (PySem.W.fnOf "_law_change" "_law_change" (defArgs slawchange) (defBody slawchange) (defScope slawchange) .none kV25 dc25 pm25 an25 (.ref c25) ct25), sl25⟩) (q25 : PySem.W.codeIn K (.ref c25) "_law_change" = true) (k25 : PySem.W.keepIn K (.ref f25) = true)
    {oc2_25 : Value} {od2_25 : Option Addr} {vs_25 : Array Value} {sl2_25 : Array (Option Value)} (h4_25 : K.lookup c25 = some ⟨oc2_25, od2_25, .fields vs_25, sl2_25⟩) (h5_25 : vs_25[11]? = some (.ref TC))
    (a26 : PySem.W.nsIn K mainGlobals "_law_from" = some (some (.ref f26))) (l26 : K.lookup f26 = some ⟨oc26, od26, .func (PySem.W.fnOf "_law_from" "_law_from" (defArgs slawfrom) (defBody slawfrom) (defScope slawfrom) .none kV26 dc26 pm26 an26 cd26 ct26), sl26⟩) (q26 : PySem.W.codeIn K cd26 "_law_from" = true) (k26 : PySem.W.keepIn K (.ref f26) = true)
    {c27 : Addr}
    (a27 : PySem.W.nsIn K mainGlobals "law" = some (some (.ref f27))) (l27 : K.lookup f27 = some ⟨oc27, od27, .func (PySem.W.fnOf "law" "law" (defArgs slaw) (defBody slaw) (defScope slaw) .none kV27 dc27 pm27 an27 (.ref c27) ct27), sl27⟩) (q27 : PySem.W.codeIn K (.ref c27) "law" = true) (k27 : PySem.W.keepIn K (.ref f27) = true)
    {oc2_27 : Value} {od2_27 : Option Addr} {vs_27 : Array Value} {sl2_27 : Array (Option Value)} (h4_27 : K.lookup c27 = some ⟨oc2_27, od2_27, .fields vs_27, sl2_27⟩) (h5_27 : vs_27[11]? = some (.ref TL))
    (zlen : PySem.W.nsIn K mainGlobals "len" = some none)
    (zzip : PySem.W.nsIn K mainGlobals "zip" = some none)
    (zsum : PySem.W.nsIn K mainGlobals "sum" = some none)
    (zabs : PySem.W.nsIn K mainGlobals "abs" = some none)
    (zmax : PySem.W.nsIn K mainGlobals "max" = some none)
    (zmin : PySem.W.nsIn K mainGlobals "min" = some none)
    (zrange : PySem.W.nsIn K mainGlobals "range" = some none)
    (ztuple : PySem.W.nsIn K mainGlobals "tuple" = some none)
    (zint : PySem.W.nsIn K mainGlobals "int" = some none)
    {tLOW : Tok} (gLOW : PySem.W.nsIn K mainGlobals "LOW" = some (some (.int (-9223372036854775808) tLOW)))
    {tHIGH : Tok} (gHIGH : PySem.W.nsIn K mainGlobals "HIGH" = some (some (.int 9223372036854775807 tHIGH)))
    (net : TC ≠ TL)
    : ∃ (fd : FuncData) (tbs : List (Str × Addr × Addr)), (∀ p ∈ tbs, PySem.W.tabIn K p.1 = some p.2 ∧ p.1 ∈ (["_law_change", "law"] : List Str)) ∧ (∀ (s : Shared) (v : Value), BindsTo s fd ⟨[v], []⟩ [("_law_script", v)]) ∧ ∀ base : Heap, K.In base → base.Ns mainGlobals mg → (∀ p ∈ tbs, TabF base mg p.2.1 p.2.2) → FnOk l.prog w K mg base CX0 142 fa fd ["_law_script"] (splawT K (tbs.map fun p => p.2.2)) := by
  have e := hfa.symm.trans (PySem.W.mg_of X G a27)
  cases e
  have F0 := fun_mk (st := sspotof) l0 q0 k0
  have b0 := F0.binds (ps := ["view", "at"]) fun _ _ _ _ _ _ us hl => by
    obtain ⟨_, _, rfl⟩ := us_len2 hl
    rfl
  have F1 := fun_mk (st := streespot) l1 q1 k1
  have b1 := F1.binds (ps := ["start", "strides", "at"]) fun _ _ _ _ _ _ us hl => by
    obtain ⟨_, _, _, rfl⟩ := us_len3 hl
    rfl
  have F2 := fun_mk (st := staken) l2 q2 k2
  have b2 := F2.binds (ps := ["store", "spot"]) fun _ _ _ _ _ _ us hl => by
    obtain ⟨_, _, rfl⟩ := us_len2 hl
    rfl
  have F3 := fun_mk (st := sisfree) l3 q3 k3
  have b3 := F3.binds (ps := ["tree"]) fun _ _ _ _ _ _ us hl => by
    obtain ⟨_, rfl⟩ := us_len1 hl
    rfl
  have F4 := fun_mk (st := sbranchesof) l4 q4 k4
  have b4 := F4.binds (ps := ["tree"]) fun _ _ _ _ _ _ us hl => by
    obtain ⟨_, rfl⟩ := us_len1 hl
    rfl
  have F5 := fun_mk (st := swrapped) l5 q5 k5
  have b5 := F5.binds (ps := ["n"]) fun _ _ _ _ _ _ us hl => by
    obtain ⟨_, rfl⟩ := us_len1 hl
    rfl
  have F6 := fun_mk (st := ssignof) l6 q6 k6
  have b6 := F6.binds (ps := ["x"]) fun _ _ _ _ _ _ us hl => by
    obtain ⟨_, rfl⟩ := us_len1 hl
    rfl
  have F7 := fun_mk (st := squotient) l7 q7 k7
  have b7 := F7.binds (ps := ["x", "y"]) fun _ _ _ _ _ _ us hl => by
    obtain ⟨_, _, rfl⟩ := us_len2 hl
    rfl
  have F8 := fun_mk (st := sremainder) l8 q8 k8
  have b8 := F8.binds (ps := ["x", "y"]) fun _ _ _ _ _ _ us hl => by
    obtain ⟨_, _, rfl⟩ := us_len2 hl
    rfl
  have F9 := fun_mk (st := sonce) l9 q9 k9
  have b9 := F9.binds (ps := ["word", "x"]) fun _ _ _ _ _ _ us hl => by
    obtain ⟨_, _, rfl⟩ := us_len2 hl
    rfl
  have F10 := fun_mk (st := stwice) l10 q10 k10
  have b10 := F10.binds (ps := ["word", "x", "y"]) fun _ _ _ _ _ _ us hl => by
    obtain ⟨_, _, _, rfl⟩ := us_len3 hl
    rfl
  have F11 := fun_mk (st := sneutral) l11 q11 k11
  have b11 := F11.binds (ps := ["word"]) fun _ _ _ _ _ _ us hl => by
    obtain ⟨_, rfl⟩ := us_len1 hl
    rfl
  have F12 := fun_mk (st := sfreenumber) l12 q12 k12
  have b12 := F12.binds (ps := ["tree", "at", "stores"]) fun _ _ _ _ _ _ us hl => by
    obtain ⟨_, _, _, rfl⟩ := us_len3 hl
    rfl
  have F13 := fun_mk (st := sputtogether) l13 q13 k13
  have b13 := F13.binds (ps := ["tree", "numbers", "at", "stores"]) fun _ _ _ _ _ _ us hl => by
    obtain ⟨_, _, _, _, rfl⟩ := us_len4 hl
    rfl
  have F14 := fun_mk (st := sfolded) l14 q14 k14
  have b14 := F14.binds (ps := ["tree", "at", "stores"]) fun _ _ _ _ _ _ us hl => by
    obtain ⟨_, _, _, rfl⟩ := us_len3 hl
    rfl
  have F15 := fun_mk (st := sreckoned) l15 q15 k15
  have b15 := F15.binds (ps := ["tree", "at", "stores"]) fun _ _ _ _ _ _ us hl => by
    obtain ⟨_, _, _, rfl⟩ := us_len3 hl
    rfl
  have F16 := fun_mk (st := srootremade) l16 q16 k16
  have b16 := F16.binds (ps := ["tree", "change"]) fun _ _ _ _ _ _ us hl => by
    obtain ⟨_, _, rfl⟩ := us_len2 hl
    rfl
  have F17 := fun_mk (st := sremade) l17 q17 k17
  have b17 := F17.binds (ps := ["tree", "change"]) fun _ _ _ _ _ _ us hl => by
    obtain ⟨_, _, rfl⟩ := us_len2 hl
    rfl
  have F18 := fun_mk (st := slawleaf) l18 q18 k18
  have b18 := F18.binds (ps := ["_law_cell", "_law_way", "_law_inner"]) fun _ _ _ _ _ _ us hl => by
    obtain ⟨_, _, _, rfl⟩ := us_len3 hl
    rfl
  have F19 := fun_mk (st := slawfoldword) l19 q19 k19
  have b19 := F19.binds (ps := ["_law_cell"]) fun _ _ _ _ _ _ us hl => by
    obtain ⟨_, rfl⟩ := us_len1 hl
    rfl
  have F20 := fun_mk (st := slawpairword) l20 q20 k20
  have b20 := F20.binds (ps := ["_law_cell"]) fun _ _ _ _ _ _ us hl => by
    obtain ⟨_, rfl⟩ := us_len1 hl
    rfl
  have F21 := fun_mk (st := slawupon) l21 q21 k21
  have b21 := F21.binds (ps := ["_law_cell", "_law_way", "_law_tree", "_law_inner"]) fun _ _ _ _ _ _ us hl => by
    obtain ⟨_, _, _, _, rfl⟩ := us_len4 hl
    rfl
  have F22 := fun_mk (st := slawdeed) l22 q22 k22
  have b22 := F22.binds (ps := ["_law_trees_here", "_law_cell"]) fun _ _ _ _ _ _ us hl => by
    obtain ⟨_, _, rfl⟩ := us_len2 hl
    rfl
  have F23 := fun_mk (st := slawtrees) l23 q23 k23
  have b23 := F23.binds (ps := ["_law_script", "_law_most"]) fun _ _ _ _ _ _ us hl => by
    obtain ⟨_, _, rfl⟩ := us_len2 hl
    rfl
  have F24 := fun_mk (st := slawstores) l24 q24 k24
  have b24 := F24.binds (ps := ["_law_script"]) fun _ _ _ _ _ _ us hl => by
    obtain ⟨_, rfl⟩ := us_len1 hl
    rfl
  have F25 := fun_mk (st := slawchange) l25 q25 k25
  have b25 := F25.binds (ps := ["_law_way", "_law_side", "_law_first", "_law_step"]) fun _ _ _ _ _ _ us hl => by
    obtain ⟨_, _, _, _, rfl⟩ := us_len4 hl
    rfl
  have F26 := fun_mk (st := slawfrom) l26 q26 k26
  have b26 := F26.binds (ps := ["_law_way", "_law_side", "_law_first", "_law_step", "_law_at"]) fun _ _ _ _ _ _ us hl => by
    obtain ⟨_, _, _, _, _, rfl⟩ := us_len5 hl
    rfl
  have F27 := fun_mk (st := slaw) l27 q27 k27
  have b27 := F27.binds (ps := ["_law_script"]) fun _ _ _ _ _ _ us hl => by
    obtain ⟨_, rfl⟩ := us_len1 hl
    rfl
  refine ⟨PySem.W.fnOf "law" "law" (defArgs slaw) (defBody slaw) (defScope slaw) .none kV27 dc27 pm27 an27 (.ref c27) ct27, [("_law_change", c25, TC), ("law", c27, TL)], (fc ⟨tabIn_of a25 l25 rfl h4_25 h5_25, by simp⟩ (fc ⟨tabIn_of a27 l27 rfl h4_27 h5_27, by simp⟩ fc0)), fun s v => .of_eq rfl, fun base KB GB tf => ?_⟩
  have O_spotof := okspotof (P := l.prog) (w := w) (base := base) (mg := mg) F0 (PySem.W.mg_none_of X G zlen) (PySem.W.mg_none_of X G zzip) (PySem.W.mg_none_of X G zsum)
  have C_spotof := Callee.mk' F0 (PySem.W.mg_of X G a0) b0 O_spotof
  have O_treespot := oktreespot (P := l.prog) (w := w) (base := base) (mg := mg) F1 (C_spotof.mono (by decide))
  have C_treespot := Callee.mk' F1 (PySem.W.mg_of X G a1) b1 O_treespot
  have O_taken := oktaken (P := l.prog) (w := w) (base := base) (mg := mg) F2 (PySem.W.mg_none_of X G zlen)
  have C_taken := Callee.mk' F2 (PySem.W.mg_of X G a2) b2 O_taken
  have O_isfree := okisfree (P := l.prog) (w := w) (base := base) (mg := mg) F3
  have C_isfree := Callee.mk' F3 (PySem.W.mg_of X G a3) b3 O_isfree
  have O_branchesof := okbranchesof (P := l.prog) (w := w) (base := base) (mg := mg) F4
  have C_branchesof := Callee.mk' F4 (PySem.W.mg_of X G a4) b4 O_branchesof
  have O_wrapped := okwrapped (P := l.prog) (w := w) (base := base) (mg := mg) F5 (PySem.W.mg_of X G gLOW)
  have C_wrapped := Callee.mk' F5 (PySem.W.mg_of X G a5) b5 O_wrapped
  have O_signof := oksignof (P := l.prog) (w := w) (base := base) (mg := mg) F6
  have C_signof := Callee.mk' F6 (PySem.W.mg_of X G a6) b6 O_signof
  have O_quotient := okquotient (P := l.prog) (w := w) (base := base) (mg := mg) F7 (C_wrapped.mono (by decide))
  have C_quotient := Callee.mk' F7 (PySem.W.mg_of X G a7) b7 O_quotient
  have O_remainder := okremainder (P := l.prog) (w := w) (base := base) (mg := mg) F8
  have C_remainder := Callee.mk' F8 (PySem.W.mg_of X G a8) b8 O_remainder
  have O_once := okonce (P := l.prog) (w := w) (base := base) (mg := mg) F9 (C_wrapped.mono (by decide)) (C_signof.mono (by decide)) (PySem.W.mg_none_of X G zabs)
  have C_once := Callee.mk' F9 (PySem.W.mg_of X G a9) b9 O_once
  have O_twice := oktwice (P := l.prog) (w := w) (base := base) (mg := mg) F10 (C_wrapped.mono (by decide)) (C_quotient.mono (by decide)) (C_remainder.mono (by decide)) (PySem.W.mg_none_of X G zmax) (PySem.W.mg_none_of X G zmin)
  have C_twice := Callee.mk' F10 (PySem.W.mg_of X G a10) b10 O_twice
  have O_neutral := okneutral (P := l.prog) (w := w) (base := base) (mg := mg) F11 (PySem.W.mg_of X G gLOW) (PySem.W.mg_of X G gHIGH)
  have C_neutral := Callee.mk' F11 (PySem.W.mg_of X G a11) b11 O_neutral
  have O_freenumber := okfreenumber (P := l.prog) (w := w) (base := base) (mg := mg) F12 (C_treespot.mono (by decide)) (C_taken.mono (by decide))
  have C_freenumber := Callee.mk' F12 (PySem.W.mg_of X G a12) b12 O_freenumber
  have O_puttogether := okputtogether (P := l.prog) (w := w) (base := base) (mg := mg) F13 (C_once.mono (by decide)) (C_twice.mono (by decide)) (C_treespot.mono (by decide)) (C_taken.mono (by decide))
  have C_puttogether := Callee.mk' F13 (PySem.W.mg_of X G a13) b13 O_puttogether
  have O2_reckoned := okreckonedA (P := l.prog) (w := w) (base := base) (mg := mg) F14 F15 (C_neutral.mono (by decide)) (C_twice.mono (by decide)) (PySem.W.mg_none_of X G zrange) (C_isfree.mono (by decide)) (C_branchesof.mono (by decide)) (C_freenumber.mono (by decide)) (C_puttogether.mono (by decide)) (PySem.W.mg_of X G a14) b14 (PySem.W.mg_of X G a15) b15 66
  have O_reckoned := O2_reckoned.1
  have O_folded := O2_reckoned.2
  have C_folded := Callee.mk' F14 (PySem.W.mg_of X G a14) b14 O_folded
  have C_reckoned := Callee.mk' F15 (PySem.W.mg_of X G a15) b15 O_reckoned
  have O_rootremade := okrootremade (P := l.prog) (w := w) (base := base) (mg := mg) F16 (C_branchesof.mono (by decide)) (PySem.W.mg_none_of X G zlen)
  have C_rootremade := Callee.mk' F16 (PySem.W.mg_of X G a16) b16 O_rootremade
  have O_remade := okremadeA (P := l.prog) (w := w) (base := base) (mg := mg) F17 (C_branchesof.mono (by decide)) (C_rootremade.mono (by decide)) (PySem.W.mg_none_of X G ztuple) (PySem.W.mg_of X G a17) b17 66
  have C_remade := Callee.mk' F17 (PySem.W.mg_of X G a17) b17 O_remade
  have O_lawleaf := oklawleaf (P := l.prog) (w := w) (base := base) (mg := mg) F18 (PySem.W.mg_none_of X G ztuple) (PySem.W.mg_none_of X G zrange)
  have C_lawleaf := Callee.mk' F18 (PySem.W.mg_of X G a18) b18 O_lawleaf
  have O_lawfoldword := oklawfoldword (P := l.prog) (w := w) (base := base) (mg := mg) F19
  have C_lawfoldword := Callee.mk' F19 (PySem.W.mg_of X G a19) b19 O_lawfoldword
  have O_lawpairword := oklawpairword (P := l.prog) (w := w) (base := base) (mg := mg) F20 (C_lawfoldword.mono (by decide))
  have C_lawpairword := Callee.mk' F20 (PySem.W.mg_of X G a20) b20 O_lawpairword
  have O_lawupon := oklawupon (P := l.prog) (w := w) (base := base) (mg := mg) F21 (C_lawfoldword.mono (by decide)) (PySem.W.mg_none_of X G ztuple) (PySem.W.mg_none_of X G zrange)
  have C_lawupon := Callee.mk' F21 (PySem.W.mg_of X G a21) b21 O_lawupon
  have O_lawdeed := oklawdeed (P := l.prog) (w := w) (base := base) (mg := mg) F22 (C_lawpairword.mono (by decide)) (C_lawupon.mono (by decide)) (C_lawleaf.mono (by decide)) (PySem.W.mg_none_of X G zmin) (PySem.W.mg_none_of X G zlen)
  have C_lawdeed := Callee.mk' F22 (PySem.W.mg_of X G a22) b22 O_lawdeed
  have O_lawtrees := oklawtrees (P := l.prog) (w := w) (base := base) (mg := mg) F23 (C_lawdeed.mono (by decide))
  have C_lawtrees := Callee.mk' F23 (PySem.W.mg_of X G a23) b23 O_lawtrees
  have O_lawstores := oklawstores (P := l.prog) (w := w) (base := base) (mg := mg) F24 (PySem.W.mg_none_of X G zrange) (PySem.W.mg_none_of X G zlen)
  have C_lawstores := Callee.mk' F24 (PySem.W.mg_of X G a24) b24 O_lawstores
  have O_lawchange := oklawchange (P := l.prog) (w := w) (base := base) (mg := mg) F25 rfl (tf ("_law_change", c25, TC) (by simp))
  have C_lawchange := Callee.mk' F25 (PySem.W.mg_of X G a25) b25 O_lawchange
  have O_lawfrom := oklawfrom (P := l.prog) (w := w) (base := base) (mg := mg) F26
  have C_lawfrom := Callee.mk' F26 (PySem.W.mg_of X G a26) b26 O_lawfrom
  have O_law := oklaw (P := l.prog) (w := w) (base := base) (mg := mg) F27 rfl (tf ("law", c27, TL) (by simp)) (C_lawstores.mono (by decide)) (C_lawchange.mono (by decide)) (C_lawtrees.mono (by decide)) (C_remade.mono (by decide)) (C_reckoned.mono (by decide)) (C_lawfrom.mono (by decide)) (PySem.W.mg_none_of X G zint) net
  exact O_law
open PySem.W in
theorem walk {l : PySem.W.OpenLaw} {q : Program} {loose : List Str} {XP : (Str → Option Value) → Heap → Prop} {YP : World → Heap → Prop} {d : DefRec} {K : Params → PySem.W.Frag} (hn : l.most = some 63) (hdf : d.params.defaults = [])
    (hY : ∀ (w : World) (h : Heap), YP w h → (K w.params).In h) (hK0 : ∀ w : World, noTabs (K w.params) = true) (hrec : ∀ x ∈ (["_law_change", "law"] : List Str), ((recsOf q).find? fun e => e.name == x).isSome = true)
    (F : ∀ (w : World) (mg : Str → Option Value) (fa : Addr) (h : Heap), (K w.params).In h → h.Ns mainGlobals mg → mg d.name = some (.ref fa) →
      ∃ (fd : FuncData) (tbs : List (Str × Addr × Addr)), (∀ p ∈ tbs, tabIn (K w.params) p.1 = some p.2 ∧ p.1 ∈ (["_law_change", "law"] : List Str)) ∧ (∀ (s : Shared) (u : Value), BindsTo s fd ⟨[u], []⟩ [("_law_script", u)]) ∧ ∀ base : Heap, (K w.params).In base → base.Ns mainGlobals mg → (∀ p ∈ tbs, TabF base mg p.2.1 p.2.2) → FnOk l.prog w (K w.params) mg base CX0 142 fa fd ["_law_script"] (splawT (K w.params) (tbs.map fun p => p.2.2))) :
    PySem.W.WalkO q loose XP YP l.row.toRowW d [] (fun f vs => PySem.call f vs) :=
  L2.walk_ofT (n := 63) (k := 142) (x := "_law_script") (CX := fun _ => CX0) (sp := fun w ts => splawT (K w.params) ts) hn (by decide) hdf ⟨rfl, by decide, by decide⟩ hY hK0 (fun w mg fa h a b c => by
    obtain ⟨fd, tbs, h1, h2⟩ := F w mg fa h a b c
    exact ⟨fd, tbs, fun p hp => ⟨(h1 p hp).1, hrec _ (h1 p hp).2⟩, h2⟩) (fun _ _ a ns ts hl hT hS => ⟨a, ns, rfl, hS, hl, hT, fun _ => rfl⟩) fun _ _ _ _ _ z => z
end My
open PySem PySem.W PyProof.Rows
set_option maxRecDepth 100000 in
set_option maxHeartbeats 0 in
theorem PySem.Challenge.cw_sideloom_k49_trees_remade_holds : PySem.Challenge.rw_sideloom_k49_trees_remade.Holds := by
  w_on; o_law; k_head; (case hw => w_witness2)
  k_fill
  refine My.walk (l := PySem.Challenge.rw_sideloom_k49_trees_remade) rfl rfl (fun w h Y => PySem.W.km_in_of Y) ?K0 ?rec ?F
  case K0 => intro w; kernel_rfl
  case rec => exact (My.fc (by kernel_rfl) (My.fc (by kernel_rfl) My.fc0))
  case F =>
    intro w mg fa h KX G hmg
    refine' My.all_mk KX G hmg ?a0 ?l0 ?q0 ?k0 ?a1 ?l1 ?q1 ?k1 ?a2 ?l2 ?q2 ?k2 ?a3 ?l3 ?q3 ?k3 ?a4 ?l4 ?q4 ?k4 ?a5 ?l5 ?q5 ?k5 ?a6 ?l6 ?q6 ?k6 ?a7 ?l7 ?q7 ?k7 ?a8 ?l8 ?q8 ?k8 ?a9 ?l9 ?q9 ?k9 ?a10 ?l10 ?q10 ?k10 ?a11 ?l11 ?q11 ?k11 ?a12 ?l12 ?q12 ?k12 ?a13 ?l13 ?q13 ?k13 ?a14 ?l14 ?q14 ?k14 ?a15 ?l15 ?q15 ?k15 ?a16 ?l16 ?q16 ?k16 ?a17 ?l17 ?q17 ?k17 ?a18 ?l18 ?q18 ?k18 ?a19 ?l19 ?q19 ?k19 ?a20 ?l20 ?q20 ?k20 ?a21 ?l21 ?q21 ?k21 ?a22 ?l22 ?q22 ?k22 ?a23 ?l23 ?q23 ?k23 ?a24 ?l24 ?q24 ?k24 ?a25 ?l25 ?q25 ?k25 ?h4_25 ?h5_25 ?a26 ?l26 ?q26 ?k26 ?a27 ?l27 ?q27 ?k27 ?h4_27 ?h5_27 ?zlen ?zzip ?zsum ?zabs ?zmax ?zmin ?zrange ?ztuple ?zint ?gLOW ?gHIGH ?net
    (case a0 => k_is)
    (case l0 => k_is)
    (case q0 => k_is)
    (case k0 => k_is)
    (case a1 => k_is)
    (case l1 => k_is)
    (case q1 => k_is)
    (case k1 => k_is)
    (case a2 => k_is)
    (case l2 => k_is)
    (case q2 => k_is)
    (case k2 => k_is)
    (case a3 => k_is)
    (case l3 => k_is)
    (case q3 => k_is)
    (case k3 => k_is)
    (case a4 => k_is)
    (case l4 => k_is)
    (case q4 => k_is)
    (case k4 => k_is)
    (case a5 => k_is)
    (case l5 => k_is)
    (case q5 => k_is)
    (case k5 => k_is)
    (case a6 => k_is)
    (case l6 => k_is)
    (case q6 => k_is)
    (case k6 => k_is)
    (case a7 => k_is)
    (case l7 => k_is)
    (case q7 => k_is)
    (case k7 => k_is)
    (case a8 => k_is)
    (case l8 => k_is)
    (case q8 => k_is)
    (case k8 => k_is)
    (case a9 => k_is)
    (case l9 => k_is)
    (case q9 => k_is)
    (case k9 => k_is)
    (case a10 => k_is)
    (case l10 => k_is)
    (case q10 => k_is)
    (case k10 => k_is)
    (case a11 => k_is)
    (case l11 => k_is)
    (case q11 => k_is)
    (case k11 => k_is)
    (case a12 => k_is)
    (case l12 => k_is)
    (case q12 => k_is)
    (case k12 => k_is)
    (case a13 => k_is)
    (case l13 => k_is)
    (case q13 => k_is)
    (case k13 => k_is)
    (case a14 => k_is)
    (case l14 => k_is)
    (case q14 => k_is)
    (case k14 => k_is)
    (case a15 => k_is)
    (case l15 => k_is)
    (case q15 => k_is)
    (case k15 => k_is)
    (case a16 => k_is)
    (case l16 => k_is)
    (case q16 => k_is)
    (case k16 => k_is)
    (case a17 => k_is)
    (case l17 => k_is)
    (case q17 => k_is)
    (case k17 => k_is)
    (case a18 => k_is)
    (case l18 => k_is)
    (case q18 => k_is)
    (case k18 => k_is)
    (case a19 => k_is)
    (case l19 => k_is)
    (case q19 => k_is)
    (case k19 => k_is)
    (case a20 => k_is)
    (case l20 => k_is)
    (case q20 => k_is)
    (case k20 => k_is)
    (case a21 => k_is)
    (case l21 => k_is)
    (case q21 => k_is)
    (case k21 => k_is)
    (case a22 => k_is)
    (case l22 => k_is)
    (case q22 => k_is)
    (case k22 => k_is)
    (case a23 => k_is)
    (case l23 => k_is)
    (case q23 => k_is)
    (case k23 => k_is)
    (case a24 => k_is)
    (case l24 => k_is)
    (case q24 => k_is)
    (case k24 => k_is)
    (case a25 => k_is)
    (case l25 => k_is)
    (case q25 => k_is)
    (case k25 => k_is)
    (case h4_25 => k_is)
    (case h5_25 => rfl)
    (case a26 => k_is)
    (case l26 => k_is)
    (case q26 => k_is)
    (case k26 => k_is)
    (case a27 => k_is)
    (case l27 => k_is)
    (case q27 => k_is)
    (case k27 => k_is)
    (case h4_27 => k_is)
    (case h5_27 => rfl)
    (case zlen => k_is)
    (case zzip => k_is)
    (case zsum => k_is)
    (case zabs => k_is)
    (case zmax => k_is)
    (case zmin => k_is)
    (case zrange => k_is)
    (case ztuple => k_is)
    (case zint => k_is)
    (case gLOW => k_is)
    (case gHIGH => k_is)
    (case net => decide)
